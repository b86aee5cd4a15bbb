import PyProof.Rows.All
import Wide.All
import OpenK.AllK
import Wide.FinOn
import PyProof.EqAt
import KE.KSortTup
import PyProof.EqKinds
import PyProof.TupleCall
import Lean
import PySem.Challenge.RW_ovalfield_k95_a_list_of_points
set_option Elab.async false
set_option linter.all false
set_option maxRecDepth 100000
set_option maxHeartbeats 4000000
open Option renaming some→Aa,none→Ae,bind_eq_some_iff→AC,isSome_iff_exists→CA,isNone_iff_eq_none→DX,bind_some→Ie,getD_none→Yk,isSome→Yl,map_some→Ym
open Bool renaming true→Ab,false→Af,and_eq_true→Am,false_ne_true→Ax,not_eq_true'→Bf,or_eq_true→BX,eq_iff_iff→DM,or_false→DQ,and_false→Jb,and_true→JQ,or_true→JX,false_eq_true→Xv
open _root_ renaming List→Ac,Nat→Ag,Int→Ai,Bool→An,Option→Ao,if_pos→Au,if_neg→Ay,beq_iff_eq→AD,decide_eq_true_eq→AG,False→AM,of_decide_eq_true→AN,beq_eq_false_iff_ne→Bg,Array→Bl,beq_self_eq_true→BE,decide_eq_false→BM,dif_neg→Cc,decide_eq_true→CI,String→CQ,Unit→Ea,if_true→EH,bne_iff_ne→EZ,True→F3,ne_true_of_eq_false→Ha,if_false→JO,ne_eq→JP,Decidable→JY,not_or→ND
open PySem renaming Str→Ah,Addr→Ak,Value→Al,Expr→Aq,Shared→Ar,wpAny_bind→As,starEach→Aw,wpAny→AA,Pos→AF,World→AI,Heap→AJ,Program→AK,Stmt→AL,mainGlobals→AO,wpAny_pure→A2,Around→A4,FuncData→Bi,wpAny_mono→Bj,backTo→Br,cLine→Bx,sizeLine_eq→Bz,attributeBase→BH,OsState→BS,Env→B5,Scope→Cb,wpAny_loadPart_at→Cd,Tok→Ce,binaryOp→Cf,wpAny_holding→Ck,excClassObj→Ct,assignEach→Cy,Keyword→CB,mem_of_lookup→CK,cellsFrom→CO,compareOp→CP,wpAny_standAt→CT,Obj→CW,foldedSetIterable→CZ,wpAny_truthy_bool→C3,treeTable→Dc,bootBuiltins→De,keywordEach→Dg,methodCallPos→Dl,swapsWith→Dq,CmpOp→DC,wpAny_Call_Name_kw→DJ,wpAny_newObj_type→DV,codeAny_call_builtin→DZ,OwnTail→D2,NameKind→D7,backToKw→D9,GenState→En,codeAny→EC,codeAny_mono→ED,call_meets→EQ,strKind→E6,wpAny_newFunctionEnv_cells→E7,sliceBounds→E8,wpAny_field→E9,Sem→Fe,wpAny_isSubtype_exc→Fh,wpAny_passesOwn→Fx,PassesOwn→FE,noteFrame→FG,methodCallForm→FP,typeIs_str→FQ,valueAt→FU,wpAny_call→FV,wpAny_of_eq→Ge,arm_eval_Call→Gg,strLen_append→Gh,Operator→Gk,checkBuiltinCall→Gm,BindsTo→Gy,codeAny_call_function→GC,setFlight→GD,letOwnedTupleGo→GO,sysModules→GP,wpAny_execs_nil→GQ,bindArgs→Hd,recursionLimit→He,Model→Ht,IsPart→Hx,pushCells→Hz,rawInt→HA,behindInMarks→HC,swappedStores→HE,wpAny_pyIter_list→HU,methodCall→HV,callerA→HX,ExcBaseFacts→Ig,Paired→Ih,Result→Ii,handleBy→Ij,Drawn→Iy,importedModules→IC,pushCells_keeps→ID,boot_len→Jf,isTrue→Jg,newFunctionEnv→Jh,notedBy→Ji,wpAny_setField→Jj,bindC→Jm,bindL→Jn,builtinsNs→Jo,isInstance→Jp,numAt→Jq,Comprehension→JS,swapsWithSole→JV,JoinOk→J4,Within→J8,codeAny_func→J9,concat_meets→Ka,onTheHeap→Kb,UnaryOp→KY,getAttr→KZ,getItem→K0,PyData→LI,StoreFacts→LK,call→LL,wpAny_Name→LM,setAttr→LO,Arguments→Mu,DictEntry→Mw,IntMulOk→MA,Params→MB,intItems→MC,pyNext→MD,noFill_tuple_add→ZO,pastItsLine_dict→ZP,plainObj_wpAny_Assign_Attribute→ZQ,refuseLoop_ref→ZR,slot_list_getitem→ZS,wpAny_JoinedStr→ZT,wpAny_Try_except→ZU,wpAny_assign_Name→ZV,wpAny_comprehension_free→ZW,wpAny_execs_cons→ZX,wpAny_loadPart→ZY,wpAny_lookBehind→ZZ,wpAny_pyNext_list_end→Z_0,wpAny_pyNext_list_item→Z_1
open PySem.Str renaming ofString→Aj,empty→Do
open PySem.W renaming findIn→At,mg_of→A3,keepIn→Ba,nsIn→Bb,subIn→BQ,fnOf→B2,kitOne→B7,mroIn→Cj,isFn→Cn,kia_one→Co,looks_findIn→Cp,look_both→CC,mg_none_of→CD,emptyDict→CJ,specialIn→CY,typeIn→Dp,instObj→Dv,clsIn→Dx,codeIn→DE,callWith_K→DI,plainGet→D8,boot_heap→Ek,hasDictIn→Ew,findCls→Fv,readsIn→Fw,plainOver→F2,OpenLaw→Gc,cellsFrom_some→Gd,makesIn→GN,plainGet_of→G9,lookIn→Hb,topFrame→Hc,codeRec_of→Hy,methodObj→HS,topStub→HW,takerIn→IA,takesIn→IB,kitAny→Je,piecesOf→Jl,excIn→JU,topRun→J7,WalkO→ZD,callWith_K0→ZE,handedIn→ZF,isNs_of_in→ZG,kIn_of→ZH,kitMeta→ZI,kitx_dict→ZJ,kitx_list→ZK,looks_subIn→ZL,nsOkIn→ZM,tail_of_in→ZN
open PySem.Heap renaming get?_push_of_some→AB,lt_size→AS,get?_push_size→Bp,get?_update_other→Dd,get?_none_of_le→Dt,get?_update_self→DO,size_push→D1,SameBut→FD,MadeExcOf→Jd,ExtBut→Y_9,get?_push_at→Zc,get?_update_ne→Zd
open List renaming mem_cons_of_mem→AE,length_set→AT,size_toArray→AX,mem_cons_self→AY,getElem?_eq_some_iff→A5,mem_cons→A6,length_cons→A8,length_map→Bc,all_eq_true→Bh,mem_append_right→Bq,getElem?_set_self→By,append_nil→BA,map_cons→BP,range→BR,length_append→BV,mem_singleton→BW,lookup→BZ,lookup_cons→Cr,getElem?_eq_getElem→Cz,isEmpty_eq_false_iff→CN,mem_range→CU,getD_eq_getElem?_getD→Di,drop_eq_getElem_cons→DW,mem_append→Eh,eq_nil_of_length_eq_zero→Eu,getElem?_map→Ev,all_map→Ey,dropLast_eq_take→Ez,replicate→EA,any_eq_true→EK,getElem_mem→EM,mem_append_left→EN,all_cons→E3,getElem_of_mem→Fb,getElem?_append_left→Fp,toArray→FA,getElem?_set_self'→FY,drop_eq_nil_of_le→F8,getElem?_set_ne→GF,mem_of_getElem?→GH,nodup_cons→GI,of_mem_zip→GJ,filterMap_cons→G8,contains_cons→Hv,length_take→Ia,map_map→Ib,mem_map→Ic,any_cons→JR,any_map→XM,contains_eq_mem→XN,drop_zero→XQ,flatten_cons→XS,forIn_nil→XU,getElem?_append_right→XV,getElem?_replicate→XX,getLast?_eq_getElem?→XY,length→XZ,length_drop→X1,length_filter_le→X2,length_nil→X3,length_replicate→X4,length_singleton→X5,map_append→X6,map_nil→X7,mem_filter→X8,nodup_nil→X9,replicate_succ→Yb,reverse_cons→Yc,set_set→Yd
open Nat renaming le_of_ble_eq_true→AR,le_refl→AU,lt_of_lt_of_le→AZ,ne_of_lt→BB,lt_irrefl→BG,le_trans→B8,ble→CF,zero_le→Ds,lt_of_le_of_lt→FB,log2_le_self→Gi,lt_succ_self→Gj,ble_eq→GK,le_of_lt→GM,lt_succ_of_lt→HQ,le_succ→K1,blt→LN,le_of_eq→Ye,min_self→Yg,mod_eq_of_lt→Yh,ne_of_gt→Yi,not_lt→Yj
open False renaming elim→A7
open PySem.Value renaming ref→Bm,builtin→Dj,none→Du,int→GB,bool→Jk,str→J6,float→K2,bytes→Zv,type→Zw
open Int renaming emod_emod_of_dvd→Bo,emod_eq_of_lt→BF,mul_emod→BK,emod_lt_of_pos→BU,emod_nonneg→BY,dvd_refl→Cm,one_mul→El,eq_ofNat_of_zero_le→FX,mul_comm→GE,natAbs_natCast→Hu,mul_assoc→HB,add_emod→Xy,le_refl→Xz,le_trans→XC,mul_one→XD,mul_zero→XF,ne_of_gt→XG,sub_emod→XH,sub_zero→XI,zero_emod→XJ
open Option.some renaming inj→BD
open PySem.F renaming plainAttrs_list→BJ,slot_list_append→D5,type_list_append→D6,slot_list_count→Ed,slot_str_split→Em,excBase_ValueError→E5,args_str_split_2→FC,entry_str_split→FZ,type_list_count→F0,attr_ValueError→F1,args_tuple_add_2→YZ,entry_bexc_ga→Y_0,entry_tuple_add→Y_1,plainAttrs_str→Y_2,slot_list_index→Y_3,slot_list_pop→Y_4,slot_str_join→Y_5,slot_tuple_add→Y_6,typeOf_object_class→Y_7,type_list_pop→Y_8
open PySem.NameKind renaming cell→B0,free→DR
open PySem.PyData renaming keyHash→Ci,shownAll→DP,depthAll→Iz,hasDictAll→Zh,showableAll→Zi
open Ne renaming symm→CG
open PySem.Builtin.Str renaming occurrences→DB,strKind→DD,strSliceIndices→EJ,partsBetween→Yu
open PySem.Txt renaming split→DH,join→Eo
open Classical renaming choose_spec→DN,choose→Xx
open PySem.Builtin.Slice renaming slicePlaces→DY,sliceAdjust→Ft,sliceApplied→Yt
open PyProof.Rows renaming envOfC→D3,callWith_type1→EI,boot_isinstance→Fq,AllBare→FO,subscriptTail_builtinR→F9,boot_str→Gx,IntsAre→Jc,IsTup→LH,boot_list→Yn,boot_tuple→Yo,slicePart_none→Yp,slot_tuple_getitem→Yq
open PySem.Builtin.Tuple renaming tupleExact→D4
open ForInStep renaming yield→Eg
open PySem.Obj renaming data_mapFields→Ei,mapFields→Gf,isFreed_of_fields→Gz,mapSeq→Ze
open PySem.SeqAt renaming EqAt→Ej,RcNeAt→J5,RcAt→LJ
open PySem.Calls renaming evalArgs_plain→EO,callWith_builtin→Gb,Name_function_global→Yv
open True renaming intro→FW
open Array renaming length_toList→G7,toList→JW,append_assoc→Xq,find?_toList→Xr,getElem?_eq_getElem→Xs,mem_toList_iff→Xu
open PySem.Code renaming quiet_builtin→Hw,isFrame→J3,frames→Yw
open PySem.PassesOwn renaming looking→HR,leaving→Zg
open Sum renaming inl→HY,inr→HZ
open PySem.Value.ref renaming inj→JT
open PySem.Around renaming under→JZ
open NeZero renaming ne→Ms
open PyProof.Rows.IsTup renaming new→Mt
open PySem.Data renaming cell→Mv,seq→Mz
open Prod renaming ext→Mx
open Eq renaming symm→NE
open PySem.Builtin.Int renaming intBits→Yr
open PySem.Builtin.ObjectAttr renaming storeInDict→Ys
open PySem.EntryCells renaming newEntry→Yx
open PySem.Expr renaming Attribute→Yy,BinOp→YA,BoolOp→YC,Call→YE,Compare→YG,Constant→YI,List→YK,ListComp→YM,Name→YO,Slice→YR,Subscript→YT,Tuple→YV,UnaryOp→YX
open PySem.Expr.Attribute renaming elim→Yz
open PySem.Expr.BinOp renaming elim→YB
open PySem.Expr.BoolOp renaming elim→YD
open PySem.Expr.Call renaming elim→YF
open PySem.Expr.Compare renaming elim→YH
open PySem.Expr.Constant renaming elim→YJ
open PySem.Expr.List renaming elim→YL
open PySem.Expr.ListComp renaming elim→YN
open PySem.Expr.Name renaming elim→YQ
open PySem.Expr.Slice renaming elim→YS
open PySem.Expr.Subscript renaming elim→YU
open PySem.Expr.Tuple renaming elim→YW
open PySem.Expr.UnaryOp renaming elim→YY
open PySem.Heap.Ns1 renaming of_empty→Za
open PySem.Heap.SameBut renaming refl→Zb
open PySem.Paired renaming length→Zf
open PySem.SeqAt.EqAt renaming of_refs→Zj,same→Zk
open PySem.Stmt renaming Assign→Zl,Expr→Zn,Raise→Zr,Return→Zt
open PySem.Stmt.Assign renaming elim→Zm
open PySem.Stmt.Expr renaming elim→Zo
open PySem.Stmt.For renaming elim→Zp
open PySem.Stmt.If renaming elim→Zq
open PySem.Stmt.Raise renaming elim→Zs
open PySem.Stmt.Return renaming elim→Zu
open PySem.W.Fast renaming te10110043849684766642→Zx,te12563942051412417395→Zy,te14364793385576792824→Zz,tw14364793385576792824→ZA
open PySem.W.WData renaming int→ZB
open PySem.W.WShape renaming has→ZC
abbrev Fg:=PySem.W.Frag
abbrev Pn:=Ac (PySem.Addr×PySem.Obj)
abbrev Vq:=PySem.Value->PySem.Shared->Prop
set_option genSizeOfSpec false
section
open PySem PySem.W PyProof.Rows
variable{α:Type}
namespace OvC
noncomputable def tp95(i:Ag):AL:=PySem.Challenge.pw_ovalfield_k95_a_list_of_points.main.body.getD i (.Pass ⟨0,0,0,0⟩)
noncomputable def VW:Ag->BT->Ac CW->BT
 |_,t,[]=>t
 |n,t,o::r=>VW (n+1) (t.ins n o) r
noncomputable def ji(s:Ar):SharedT:=⟨VW 0 .nil s.heap.objs.toList,s.heap.objs.size,s.heap.life,s.gens,s.drawn,s.toks,s.os⟩
noncomputable abbrev EG:AK:=PySem.Challenge.pw_ovalfield_k95_a_list_of_points
noncomputable def KI:B5:={scope:=EG.main.scope,locals:=mainNs,globals:=mainNs,cells:=[],code:=.ref 13,frame:=Aa 14}
noncomputable def LF:Ac AL:=behindTheImports EG
noncomputable def Iw:Code:=.body LF KI
noncomputable def S0(w:AI)(os:BS):Ar:=⟨Ek w.params,#[],boot_drawn,boot_toks,os⟩
noncomputable def Sa(w:AI)(os:BS):Ar:=match PySem.W.Fast.tw15667345088766844465 ZA EG w 11 (Aa (.ref 6)) 12 (S0 w os) (HW EG) with
  |some (s,_)=>s
  |none=>S0 w os
noncomputable def uK:Thread:=⟨(PySem.W.Fast.tw12563942051412417395 LF KI).wrap doneF deadEnd id id,Iw,⟨0,0,0,0⟩,[Hc ⟨0,0,0,0⟩]⟩
noncomputable def ϸ(w:AI)(os:BS):SharedT:=match PySem.W.Fast.tw10110043849684766642 ZA EG w 11 (Aa (.ref 6)) 1 7122 (ji (Sa w os)) uK with
  |some (_,s,_,_)=>s
  |none=>ji (Sa w os)
noncomputable def wF(b:An)(w:AI):AI:=w.withFollow "special-get-raises" b
noncomputable def Sf(w:AI)(os:BS):Ar:=(ϸ (wF Af w) os).abs
noncomputable def Xk(t:BT)(n a:Ag):Ao CW:=match LN a n with
  |true=>alive ((t.get a).getD default)
  |false=>Ae
theorem getT_eq(t:BT)(n:Ag)(life:Life):(absHeap t n life).get?=Xk t n:=by
 funext a
 unfold Xk;by_cases h:a<n
 .have e:LN a n=Ab:=GK.mpr h;rw[e];dsimp only;unfold Heap.get?;rw[absHeap_at,Au h];generalize (t.get a).getD default=o;obtain⟨c,d,dt,sl⟩:=o;cases dt<;>rfl
 .have e:LN a n=Af:=by
   cases q:LN a n with
   |false=>rfl
   |true=>exact absurd (AR q) h
  rw[e,abs_get_none h]
theorem left_tree{p q:AK}{loose:Ac Ah}{Xt:Ar->An}{Yf:Ar->α}{Ya:AI->α}{N M m:Ag}{ann:Ao Al}{Z_:AI->BS->Ar}(o:∀ w:AI,(fencedOpening Dc p w N).map (λs=>(s.heap,s.gens,s.drawn,s.toks))=Aa (Ek w.params,#[],boot_drawn,boot_toks))(z:∀ w:AI,(Ek w.params).isNs AO=Ab/\(Ek w.params).objs.size=m/\(Ek w.params).nsMap AO "__annotations__" = ann)(r:∀ w os,J7 Dc p w m ann M (S0 w os) (HW p)=Aa (Z_ w os))(le:M<=N)(l:∀ w os,(staticsOk (IC p.main.body) (Ek w.params) (Z_ w os).heap&&namesBound p (Z_ w os).heap&&gensDone (Z_ w os)&&laidKept (Ek w.params) (Z_ w os).heap)=Ab)(k:∀ w os,(openSeen q loose (IC p.main.body) Xt Ab (Z_ w os),Yf (Z_ w os))=(openGood q loose,Ya w)):LeftO p q loose Xt Yf Ya N:=λw=>by
 obtain⟨s,e1,e2⟩:=Option.map_eq_some_iff.mp (o w);obtain⟨z1,z2,z3⟩:=z w;cases s with
 |mk h g d t os=>
  cases e2;have e3:=topRun_mono (N-M) _ _ _ _ (r w os);have e4:M+(N-M)=N:=by omega
  rw[e4]at e3;unfold openEnds;rw[e1,Ie];have e5:topFrom Dc p w N (S0 w os)=Aa (Z_ w os):=by
   unfold topFrom;rw[show (S0 w os).heap=Ek w.params from rfl,z1,z2,z3,e3]
   show (match (staticsOk (IC p.main.body) (Ek w.params) (Z_ w os).heap&&namesBound p (Z_ w os).heap&&gensDone (Z_ w os)&&laidKept (Ek w.params) (Z_ w os).heap) with|true=>Aa (Z_ w os)|false=>Ae)=_
   rw[l w os]
  show (topFrom Dc p w N (S0 w os)).map _=_;rw[e5];exact congrArg Aa (k w os)
theorem pair_eq{β:Type}{a a':α}{b b':β}(h:a=a')(k:b=b'):(a,b)=(a',b'):=by rw[h,k]
theorem wU(w:AI)(os:BS):topGo Dc EG w 11 (Aa (.ref 6)) 12 (S0 w os) (HW EG)=Aa (Sa w os,⟨denote Dc (.body LF KI),Iw,⟨0,0,0,0⟩,[Hc ⟨0,0,0,0⟩]⟩):=by kernel_rfl
theorem xR(w:AI)(s:Ar):segRun Dc EG w 11 (Aa (.ref 6)) 1 1 s (blockOf LF KI Iw ⟨0,0,0,0⟩ [Hc ⟨0,0,0,0⟩])=Aa (.next,s,Iw,⟨0,0,0,0⟩):=by kernel_rfl
theorem xA(w:AI)(os:BS):(ji (Sa w os)).abs=Sa w os:=by kernel_rfl
theorem xF(w:AI)(s:Ar):J7 Dc EG w 11 (Aa (.ref 6)) 3 s (restOf [] KI Iw ⟨517,0,544,58⟩ [Hc ⟨0,0,0,0⟩])=Aa s:=by
 cases s
 kernel_rfl
theorem iA(w:AI)(os:BS):segRunT Dc EG (wF Af w) 11 (Aa (.ref 6)) 1 7122 (ji (Sa (wF Af w) os)) (Jl LF KI Iw ⟨0,0,0,0⟩ [Hc ⟨0,0,0,0⟩])=Aa (.next,ϸ (wF Af w) os,Iw,⟨517,0,544,58⟩):=by
 unfold Jl;rw[Zx,Zz,Zy]
 kernel_rfl
theorem hZ(w:AI)(os:BS):segRunT Dc EG (wF Ab w) 11 (Aa (.ref 6)) 1 7122 (ji (Sa (wF Ab w) os)) (Jl LF KI Iw ⟨0,0,0,0⟩ [Hc ⟨0,0,0,0⟩])=Aa (.next,ϸ (wF Af w) os,Iw,⟨517,0,544,58⟩):=by
 unfold Jl;rw[Zx,Zz,Zy]
 kernel_rfl
theorem run95(w:AI)(os:BS):J7 Dc EG w 11 (Aa (.ref 6)) (12+(1+(7122+3))) (S0 w os) (HW EG)=Aa (Sf w os):=by
 have key:∀ w',segRunT Dc EG w' 11 (Aa (.ref 6)) 1 7122 (ji (Sa w' os)) (Jl LF KI Iw ⟨0,0,0,0⟩ [Hc ⟨0,0,0,0⟩])=Aa (.next,ϸ (wF Af w) os,Iw,⟨517,0,544,58⟩)->J7 Dc EG w' 11 (Aa (.ref 6)) (12+(1+(7122+3))) (S0 w' os) (HW EG)=Aa (Sf w os):=λw' h=>by
  have h1:=segRun_of h;rw[xA]at h1;have h2:=piece_app (rest:=[]) h1 (xF w' _);rw[BA]at h2;exact go_top (wU w' os) (piece_block (xR w' _) h2)
 have fin:∀ b,w.params.followText "special-get-raises" = b->J7 Dc EG (wF b w) 11 (Aa (.ref 6)) (12+(1+(7122+3))) (S0 (wF b w) os) (HW EG)=Aa (Sf w os)->J7 Dc EG w 11 (Aa (.ref 6)) (12+(1+(7122+3))) (S0 w os) (HW EG)=Aa (Sf w os):=λb hb h=>by
  generalize Sf w os=z at h ⊢;have e:wF b w=w:=by rw[<-hb];exact World.withFollow_self w "special-get-raises"
  rw[e]at h;exact h
 cases hb:w.params.followText "special-get-raises" with
 |false=>exact fin Af hb (key _ (iA w os))
 |true=>exact fin Ab hb (key _ (hZ w os))
theorem said95:PySem.Challenge.rw_ovalfield_k95_a_list_of_points.wellSaid=Ab:=by
 unfold OpenLaw.wellSaid;refine CC (CC (CC (CC (CC (CC (CC (CC (CC (CC (CC (CC (CC (CC (CC (CC (CC (CC ?c0 ?c1) ?c2) ?c3) ?c4) ?c5) ?c6) ?c7) ?c8) ?c9) ?c10) ?c11) ?c12) ?c13) ?c14) ?c15) ?c16) ?c17) ?c18
 case c0=>decide+kernel
 case c1=>decide+kernel
 case c2=>decide+kernel
 case c3=>decide+kernel
 case c4=>decide+kernel
 case c5=>decide+kernel
 case c6=>decide+kernel
 case c7=>decide+kernel
 case c8=>decide+kernel
 case c9=>decide+kernel
 case c10=>decide+kernel
 case c11=>decide+kernel
 case c12=>decide+kernel
 case c13=>decide+kernel
 case c14=>decide+kernel
 case c15=>decide+kernel
 case c16=>decide+kernel
 case c17=>decide+kernel
 case c18=>decide+kernel
set_option genInjectivity false in
structure Tre (P:Prop) where
 (α1 α2 α3 α4 α5 α6 α7 α8 α9 α10 α11  : Type)
 (l1 r1:AI->BS->α1)
 (l2 r2:AI->BS->α2)
 (l3 r3:AI->BS->α3)
 (l4 r4:AI->BS->α4)
 (l5 r5:AI->BS->α5)
 (l6 r6:AI->BS->α6)
 (l7 r7:AI->BS->α7)
 (l8 r8:AI->BS->α8)
 (l9 r9:AI->BS->α9)
 (l10 r10:AI->BS->α10)
 (l11 r11:AI->BS->α11)
 X:Prop
 go:(∀ w os,l1 w os=r1 w os)->(∀ w os,l2 w os=r2 w os)->(∀ w os,l3 w os=r3 w os)->(∀ w os,l4 w os=r4 w os)->(∀ w os,l5 w os=r5 w os)->(∀ w os,l6 w os=r6 w os)->(∀ w os,l7 w os=r7 w os)->(∀ w os,l8 w os=r8 w os)->(∀ w os,l9 w os=r9 w os)->(∀ w os,l10 w os=r10 w os)->(∀ w os,l11 w os=r11 w os)->X->P
noncomputable def loose95:Ac Ah:=(["_wall", "OvalError", "NoOver", "NoTriple", "NoTable", "NoCount", "NoCurve", "NotWhole", "TooMany", "NoRow", "NothingDone", "Alike", "NotOn", "OnLine", "rest", "turned_over", "one_form", "crossed", "lies", "row_of", "Triple", "Point", "Line", "on", "join", "measure", "first_three", "ask_unlike", "ask_no_three", "triples"]:Ac Ah)++(["points_on", "columns", "sums_by", "table_of", "crossed_rows", "led", "after", "table_back", "curve_of", "plain_curve", "value", "points_of", "twice_table", "is_whole", "mixed", "moved", "scaled", "frame_table", "frame_move", "SIDES", "ask_whole", "polar_table", "polar", "pole", "met_by", "side", "frame_on", "curve_move", "crossing", "two_lines"]:Ac Ah)++(["kind", "picture_rows", "row_drawn", "drawn", "first_four", "lines_multiplied", "five_curve", "curve_through", "on_any", "still_fitting", "fitting", "curve_on", "first_two", "end_rows", "look", "ask_set", "grown", "rest_read", "rests_read", "COUNTS", "OF_THE_LIST", "MAKE_A_CURVE", "ASK_THE_CURVE", "MOST", "rests_of_row", "told_by", "put_in", "taken_out", "point_texts", "line_texts"]:Ac Ah)++(["look_text", "kind_text", "Desk", "_law_mixed", "_law_prime", "_law_triple", "_law_whole", "_law_texts", "_law_text", "_law_point_text", "_law_rested", "_law_refusal", "_law_said", "_law_field", "_law_row", "_law_due"]:Ac Ah)
end OvC
noncomputable def OvC.view95:PySem.Program:={ PySem.Challenge.pw_ovalfield_k95_a_list_of_points with main:={PySem.Challenge.pw_ovalfield_k95_a_list_of_points.main with body:=[OvC.tp95 122]} }
set_option hygiene false
local macro_rules | `(tactic| o_head $H)=>`(tactic| refine holds_open (q:=OvC.view95) (loose:=OvC.loose95) (Xt:=fun s=>xlAt OvC.view95 [] s&&recOk (RowW.records (OpenRow.toRowW (PySem.Challenge.rw_ovalfield_k95_a_list_of_points.row))) s) (XP:=XL OvC.view95 []) (Yf:=Hook.obs $H) (Ya:=Hook.val $H) (YP:=Hook.says $H) (N:=14264) ?hl (Hook.of $H) (Hook.keeps $H) (fun s e=>xl_of s (Bool.and_eq_true_iff.mp e).1) XL.keeps (by rfl) (by rfl) (by rfl) (fun s e=>recFacts_of (Bool.and_eq_true_iff.mp e).2) (by rfl) (by first|assumption|decide +kernel) (by decide +kernel) ⟨rfl,rfl,rfl,rfl,rfl,by decide +kernel⟩ ?hw ?hc)
set_option maxRecDepth 100000 in
set_option maxHeartbeats 0 in
noncomputable def OvC.hold95:OvC.Tre PySem.Challenge.rw_ovalfield_k95_a_list_of_points.Holds:=by
 refine' ⟨_,_,_,_,_,_,_,_,_,_,_,_,_,_,_,_,_,_,_,_,_,_,_,_,_,_,_,_,_,_,_,_,_,_,λg1 g2 g3 g4 g5 g6 g7 g8 g9 g10 g11 x=>_⟩
 rotate_right
 w_on;refine holds_law OvC.said95 λdm=>?_;k_head
 (case hl=>refine OvC.left_tree (Z_:=OvC.Sf) (M:=7138) (m:=11) (ann:=Aa (.ref 6)) ?o ?z ?r ?le ?l ?k;(case o=>exact boot_open (by kernel_rfl) (by decide+kernel) (λs=>by kernel_rfl));(case z=>intro w;refine⟨?a,?b,?c⟩;all_goals kernel_rfl);(case r=>exact OvC.run95);(case le=>decide);(case l=>intro w os;exact g1 w os);(case k=>intro w os;refine OvC.pair_eq ?k1 ?k2;(case k1=>rw[PySem.W.Fast.te4187177175401517315];unfold PySem.W.Fast.tw4187177175401517315 openGood;refine OvC.pair_eq ?q1 (OvC.pair_eq ?q2 (OvC.pair_eq ?q3 (OvC.pair_eq ?q4 (OvC.pair_eq ?q5 (OvC.pair_eq ?q6 (OvC.pair_eq ?q7 (OvC.pair_eq ?q8 ?q9)))))));(case q1=>exact g2 w os);(case q2=>exact g3 w os);(case q3=>exact g4 w os);(case q4=>exact g5 w os);(case q5=>exact g6 w os);(case q6=>exact g7 w os);(case q7=>exact g8 w os);(case q8=>exact g9 w os);(case q9=>exact g10 w os));(case k2=>show List.map (absHeap _ _ _).get? _=_;rw[OvC.getT_eq];exact g11 w os)))
 (case hw=>w_witness2)
 k_fill
 revert dm
 exact x
theorem OvC.reck95_1(w:AI)(os:BS):(OvC.hold95.l1 w os,OvC.hold95.l2 w os,OvC.hold95.l3 w os,OvC.hold95.l4 w os,OvC.hold95.l5 w os,OvC.hold95.l6 w os,OvC.hold95.l7 w os,OvC.hold95.l8 w os,OvC.hold95.l9 w os,OvC.hold95.l10 w os)=(OvC.hold95.r1 w os,OvC.hold95.r2 w os,OvC.hold95.r3 w os,OvC.hold95.r4 w os,OvC.hold95.r5 w os,OvC.hold95.r6 w os,OvC.hold95.r7 w os,OvC.hold95.r8 w os,OvC.hold95.r9 w os,OvC.hold95.r10 w os):=by kernel_rfl
theorem OvC.reckA95(w:AI)(os:BS):OvC.hold95.l1 w os=OvC.hold95.r1 w os/\OvC.hold95.l2 w os=OvC.hold95.r2 w os/\OvC.hold95.l3 w os=OvC.hold95.r3 w os/\OvC.hold95.l4 w os=OvC.hold95.r4 w os/\OvC.hold95.l5 w os=OvC.hold95.r5 w os/\OvC.hold95.l6 w os=OvC.hold95.r6 w os/\OvC.hold95.l7 w os=OvC.hold95.r7 w os/\OvC.hold95.l8 w os=OvC.hold95.r8 w os/\OvC.hold95.l9 w os=OvC.hold95.r9 w os/\OvC.hold95.l10 w os=OvC.hold95.r10 w os:=by
 have h:=OvC.reck95_1 w os;simp only[Prod.mk.injEq]at h;exact h
theorem OvC.reck95_2(w:AI)(os:BS):OvC.hold95.l11 w os=OvC.hold95.r11 w os:=by kernel_rfl
end
namespace L2
open PySem PySem.Spec PyProof.Rows
abbrev Key:=Sum Ai Ah
noncomputable def Wc:Key->Al->An
 |.inl k,v=>Value.isInt k v
 |.inr x,v=>Value.isStrOf x v
noncomputable def yA(w:AI):Key->Ai
 |.inl k=>hashInt k
 |.inr x=>hashStr w x
theorem Jr:∀{k:Key}{v:Al},Wc k v=Ab->(∃ i t,k=HY i/\v=GB i t)\/(∃ x t,k=HZ x/\v=J6 x t)
 |.inl i,v,h=>by
  obtain⟨t,e⟩:=Value.isInt_shape (k:=i) (v:=v) h;exact .inl ⟨i,t,rfl,e⟩
 |.inr x,v,h=>by
  obtain⟨t,e⟩:=Value.isStrOf_shape (x:=x) (v:=v) h;exact .inr ⟨x,t,rfl,e⟩
theorem qA(a b:Ai):decide ((HY a:Key)=HY b)=(a==b):=by
 by_cases e:a=b
 .subst e;simp
 .have h:¬ (HY a:Key)=HY b:=λq=>e (Sum.inl.inj q)
  rw[BM h];exact(Bg.mpr e).symm
theorem pX(a b:Ah):decide ((HZ a:Key)=HZ b)=decide (a=b):=by
 by_cases e:a=b
 .subst e;simp
 .have h:¬ (HZ a:Key)=HZ b:=λq=>e (Sum.inr.inj q)
  rw[BM h,BM e]
theorem pZ(a:Ai)(b:Ah):decide ((HY a:Key)=HZ b)=Af:=BM (λq=>nomatch q)
theorem pY(a:Ah)(b:Ai):decide ((HZ a:Key)=HY b)=Af:=BM (λq=>nomatch q)
noncomputable def Qm(prog:AK)(w:AI):PySem.KeyKind prog w Key where
 is:=Wc
 hash:=yA w
 inj:=λv a b ha hb=>by
  rcases Jr ha with ⟨i,t,rfl,rfl⟩|⟨x,t,rfl,rfl⟩
  .rcases Jr hb with ⟨j,u,rfl,e⟩|⟨y,u,rfl,e⟩
   .injection e with e1 _;rw[e1]
   .exact nomatch e
  .rcases Jr hb with ⟨j,u,rfl,e⟩|⟨y,u,rfl,e⟩
   .exact nomatch e
   .injection e with e1 _;rw[e1]
 byValue:=λk v h=>by
  rcases Jr h with ⟨i,t,rfl,rfl⟩|⟨x,t,rfl,rfl⟩<;>rfl
 pyHash:=λhv h=>by
  rcases Jr hv with ⟨i,t,rfl,rfl⟩|⟨x,t,rfl,rfl⟩
  .exact wpAny_pyHash_int h
  .exact wpAny_pyHash_str h
 eqBool:=λhu hv h=>by
  rcases Jr hu with ⟨i,t,rfl,rfl⟩|⟨x,t,rfl,rfl⟩
  .rcases Jr hv with ⟨j,u,rfl,rfl⟩|⟨y,u,rfl,rfl⟩
   .rw[qA]at h;exact wpAny_eqBool_int h
   .rw[pZ]at h;exact SeqAt.EqAt.int_str i t y u _ _ _ _ h
  .rcases Jr hv with ⟨j,u,rfl,rfl⟩|⟨y,u,rfl,rfl⟩
   .rw[pY]at h;exact SeqAt.EqAt.str_int x t j u _ _ _ _ h
   .rw[pX]at h;exact wpAny_eqBool_str h
 «strs»:=λk x t v h=>by
  rcases Jr h with ⟨i,u,rfl,e⟩|⟨y,u,rfl,e⟩
  .exact nomatch e
  .injection e with e1 _
   subst e1;cases v<;>rfl
end L2
namespace L2
open PySem PySem.Spec PyProof.Rows
variable{us:Ac Al}{a b it dx C:Ak}{P:AK}{h:AJ}{o:CW}{g':Bl En}{t' i k n:Ag}{d':Iy}{ch fp:Ac Ak}{x qual:Ah}{M:Ht}{u:Al}{Q:Ea->Ar->Prop}{e tg:Aq}{α:Type}{s:Ar}{pI:Pn}{pos p:AF}{es:Ac Aq}{body:Ac AL}{f:Al->Al->Fe Al}{g:Ai->Ai->Ai}{op:DC}{mA:Ah->Ao Al}{pl:Fe An}{kw:Ac (Ah×Al)}{fd:Bi}{ps:Ac Ah}{scope:Cb}
inductive V where
 |non|bl (b:An)|int (i:Ai)|str (x:Ah)|byt (b:Bl UInt8)|flt (b:UInt64)|ref (a:Ak)|ty (n:CQ)
 deriving DecidableEq
variable{xs vs:Ac V}{v y:V}
def Bt:V->Al->Prop
 |.non,u=>u=Du
 |.bl b,u=>u=Jk b
 |.int i,u=>∃ t,u=GB i t
 |.str x,u=>∃ t,u=J6 x t
 |.byt b,u=>∃ t,u=Zv b t
 |.flt b,u=>∃ t,u=K2 b t
 |.ref a,u=>u=Bm a
 |.ty n,u=>u=Zw n
noncomputable abbrev A1:Ac V->Ac Al->Prop:=Ih Bt
theorem A1.length(r:A1 xs us):xs.length=us.length:=Zf r
theorem A1.get:∀{xs:Ac V}{us:Ac Al}{i:Ag}{x:V},A1 xs us->xs[i]?=Aa x->∃ u,us[i]?=Aa u/\Bt x u
 |_,_,_,_,.nil,e=>by simp at e
 |_,_,0,_,.cons r _,e=>by simp at e;subst e;exact⟨_,rfl,r⟩
 |_,_,i+1,x,.cons _ t,e=>by
  obtain⟨u,h1,h2⟩:=A1.get (i:=i) (x:=x) t (by simpa using e)
  exact⟨u,by simpa using h1,h2⟩
theorem A1.set{x:V}{u:Al}(r:Bt x u):∀{xs:Ac V}{us:Ac Al}(i:Ag),A1 xs us->A1 (xs.set i x) (us.set i u)
 |_,_,_,.nil=>.nil
 |_,_,0,.cons _ t=>.cons r t
 |_,_,i+1,.cons q t=>.cons q (A1.set r i t)
theorem A1.append:∀{xs ys:Ac V}{us ws:Ac Al},A1 xs us->A1 ys ws->A1 (xs++ys) (us++ws)
 |_,_,_,_,.nil,s=>s
 |_,_,_,_,.cons r t,s=>.cons r (A1.append t s)
theorem A1.take:∀{xs:Ac V}{us:Ac Al}(n:Ag),A1 xs us->A1 (xs.take n) (us.take n)
 |_,_,0,_=>.nil
 |_,_,_+1,.nil=>.nil
 |_,_,n+1,.cons r t=>.cons r (A1.take n t)
theorem A1.drop:∀{xs:Ac V}{us:Ac Al}(n:Ag),A1 xs us->A1 (xs.drop n) (us.drop n)
 |_,_,0,r=>r
 |_,_,_+1,.nil=>.nil
 |_,_,n+1,.cons _ t=>A1.drop n t
theorem A1.none_of:∀{xs:Ac V}{us:Ac Al}{i:Ag},A1 xs us->xs[i]?=Ae->us[i]?=Ae:=λ{xs us i} r e=>by
 have h1:=r.length;have h2:xs.length<=i:=List.getElem?_eq_none_iff.mp e;exact List.getElem?_eq_none_iff.mpr (by omega)
def Ix:Ao V->Ao Al->Prop
 |some v,Aa u=>Bt v u
 |none,Ae=>F3
 |_,_=>AM
def KV{κ:Type}:Ac (κ×V)->Ac (κ×Al)->Prop:=Ih fun(p:κ×V)(q:κ×Al)=>p.1=q.1/\Bt p.2 q.2
noncomputable def kV:Key->V
 |.inl i=>.int i
 |.inr x=>.str x
inductive HO where
 |lst (xs:Ac V)
 |tup (xs:Ac V)
 |dK (kvs:Ac (Key×V))|dT (kvs:Ac (Ac Key×V))
 |set (S:Ai->An) (n:Ag)
 |ins (C dx:Ak) (fs:Ac (Ah×V))
 |own (x:Ak)
 |xd (fs:Ac (Ah×V))
 |met (f x:Ak)
 |rng (lo hi:Ai)
 |frz (o:CW) (u:HO)
 |tbl (ps:Bl Al)
 |ext (φ:AJ->Prop)
abbrev Hp:=Ak->Ao HO
variable{H:Hp}
noncomputable def upd(H:Hp)(a:Ak)(o:HO):Hp:=λb=>if b=a then Aa o else H b
theorem BO{o:HO}:upd H a o a=Aa o:=by unfold upd;rw[Au rfl]
theorem AQ{o:HO}(h:b≠a):upd H a o b=H b:=by unfold upd;rw[Ay h]
theorem Uj{o u:HO}:upd (upd H a o) a u=upd H a u:=by
 funext b;unfold upd;split<;>rfl
theorem Er{o:HO}(h:H a=Aa o)(h':H b=Ae):a≠b:=by
 intro e;subst e;rw[h]at h';cases h'
section
variable(P:AK)(w:AI)
def ObjOk(H:Hp)(h:AJ)(a:Ak):HO->Prop
  |.lst xs=>xs.length<=sizeLine/\∃(its:Ac Al)(n:Ag),A1 xs its/\h.get? a=Aa { cls:=.type "list",data:=.seq its.toArray n }
  |.tup xs=>xs.length<=sizeLine/\∃ its:Ac Al,A1 xs its/\LH h a its.toArray
  |.dK kvs=>kvs.length<=sizeLine/\(a==GP)=Af/\∃ vs,KV kvs vs/\h.DictOf (Qm P w) a vs
  |.dT kvs=>kvs.length<=sizeLine/\(a==GP)=Af/\∃ xs:Ac (Ac Key×Ak×Al),
      Ih (fun(p:Ac Key×V)(q:Ac Key×Ak×Al)=>p.1=q.1/\H q.2.1=Aa (.tup (p.1.map kV))/\Bt p.2 q.2.2) kvs xs /\
      ∃ o es ep,h.get? a=Aa o/\o.ExactDict/\o.data=.dict es ep/\es.toList=xs.map (entryOfKey (tupleKind (Qm P w)))/\(xs.map (·.1)).Nodup
  |.set S n=>h.SetOf (intKind P w) a S n
  |.ins C dx fs=>H dx=Aa (.own a)/\fs.length<=1000/\dx≠a/\h.get? a=Aa (Dv C dx) /\
      ∃ mA,h.Ns1 dx mA/\(∀ f,Ix (fs.lookup f) (mA f))/\J8 mA (fs.map (·.1))
  |.own _=>∃ o,h.get? a=Aa o
  |.xd fs=>∃ mA,h.Ns1 a mA/\∀ f,Ix (fs.lookup f) (mA f)
  |.rng lo hi=>∃ t u v,h.get? a=Aa { cls:=.type "range",data:=.fields #[.int lo t,.int hi u,.int 1 v] }
  |.frz o u=>h.get? a=Aa o/\ObjOk H h a u
  |.tbl ps=>h.get? a=Aa {cls:=.none,data:=.fields ps}
  |.met f x=>h.get? a=Aa (HS (.ref f) (.ref x))
  |.ext φ=>φ h/\(∃ o,h.get? a=Aa o)/\∀ h1 h2:AJ,φ h1->(∀ o,h1.get? a=Aa o->h2.get? a=Aa o)->φ h2
def zg(H:Hp)(h:AJ):Prop:=∀ a o,H a=Aa o->ObjOk P w H h a o
end
section
variable{P:AK}{w:AI}{H H':Hp}{h h':AJ}{a:Ak}{o:HO}
theorem ObjOk.lt(x:ObjOk P w H h a o):a<h.objs.size:=by
 cases o with
 |lst xs=>obtain⟨_,_,_,_,e⟩:=x;exact AS e
 |tup xs=>obtain⟨_,_,_,p⟩:=x;exact p.lt
 |dK kvs=>obtain⟨_,_,_,_,o,_,_,e,_⟩:=x;exact AS e
 |dT kvs=>obtain⟨_,_,_,_,o,_,_,e,_⟩:=x;exact AS e
 |set S n=>obtain⟨o,_,_,_,e,_⟩:=x;exact AS e
 |ins C dx fs=>obtain⟨_,_,_,e,_⟩:=x;exact AS e
 |own y=>obtain⟨_,e⟩:=x;exact AS e
 |xd fs=>obtain⟨_,⟨_,_,_,e,_⟩,_⟩:=x;exact AS e
 |rng lo hi=>obtain⟨_,_,_,e⟩:=x;exact AS e
 |frz ob u=>obtain⟨e,_⟩:=x;exact AS e
 |tbl ps=>exact AS (show h.get? a=Aa _ from x)
 |met f y=>exact AS (show h.get? a=Aa _ from x)
 |ext φ=>obtain⟨_,⟨_,e⟩,_⟩:=x;exact AS e
theorem Ih.mapP{α β:Type}{F G:α->β->Prop}:∀{l₁:Ac α}{l₂:Ac β},Ih F l₁ l₂->(∀ a b,F a b->G a b)->Ih G l₁ l₂
 |_,_,.nil,_=>.nil
 |_,_,.cons r t,f=>.cons (f _ _ r) (Ih.mapP t f)
theorem ObjOk.stay(x:ObjOk P w H h a o)(k:∀ b u,(b=a\/H b=Aa (.own a))->h.get? b=Aa u->h'.get? b=Aa u)(ho:∀ b,H b=Aa (.own a)->H' b=Aa (.own a))(ht:∀ b xs,H b=Aa (.tup xs)->H' b=Aa (.tup xs)):ObjOk P w H' h' a o:=by
 induction o with
 |lst xs=>obtain⟨z,its,n,r,e⟩:=x;exact⟨z,its,n,r,k _ _ (.inl rfl) e⟩
 |tup xs=>obtain⟨z,its,r,ob,e,c⟩:=x;exact⟨z,its,r,ob,k _ _ (.inl rfl) e,c⟩
 |dK kvs=>obtain⟨z,y,vs,r,ob,es,ep,e,c⟩:=x;exact⟨z,y,vs,r,ob,es,ep,k _ _ (.inl rfl) e,c⟩
 |dT kvs=>
  obtain⟨z,y,xs,r,ob,es,ep,e,c⟩:=x;exact⟨z,y,xs,Ih.mapP r λp q z=>⟨z.1,ht _ _ z.2.1,z.2.2⟩,ob,es,ep,k _ _ (.inl rfl) e,c⟩
 |set S n=>obtain⟨ob,es,ep,t,e,c⟩:=x;exact⟨ob,es,ep,t,k _ _ (.inl rfl) e,c⟩
 |ins C dx fs=>
  obtain⟨d,z,ne,e,mA,⟨od,es,ep,e2,c⟩,r⟩:=x;exact⟨ho _ d,z,ne,k _ _ (.inl rfl) e,mA,⟨od,es,ep,k _ _ (.inr d) e2,c⟩,r⟩
 |own y=>obtain⟨ob,e⟩:=x;exact⟨ob,k _ _ (.inl rfl) e⟩
 |xd fs=>obtain⟨mA,⟨od,es,ep,e,c⟩,r⟩:=x;exact⟨mA,⟨od,es,ep,k _ _ (.inl rfl) e,c⟩,r⟩
 |rng lo hi=>obtain⟨t,u,v,e⟩:=x;exact⟨t,u,v,k _ _ (.inl rfl) e⟩
 |frz ob u ih=>obtain⟨e,q⟩:=x;exact⟨k _ _ (.inl rfl) e,ih q⟩
 |tbl ps=>
  have e:h.get? a=Aa {cls:=.none,data:=.fields ps}:=x;show h'.get? a=Aa {cls:=.none,data:=.fields ps};exact k a _ (.inl rfl) e
 |met f y=>
  have e:h.get? a=Aa (HS (.ref f) (.ref y)):=x;show h'.get? a=Aa (HS (.ref f) (.ref y));exact k a _ (.inl rfl) e
 |ext φ=>obtain⟨p,⟨o,e⟩,st⟩:=x;exact⟨st _ _ p λo q=>k _ _ (.inl rfl) q,⟨o,k _ _ (.inl rfl) e⟩,st⟩
theorem zg.lt(x:zg P w H h)(e:H a=Aa o):a<h.objs.size:=(x a o e).lt
theorem zg.fresh(x:zg P w H h)(e:h.objs.size<=a):H a=Ae:=by
 cases q:H a with
 |none=>rfl
 |some u=>exact absurd (AZ (x.lt q) e) (BG _)
theorem zg.kept(x:zg P w H h)(k:∀ b u,h.get? b=Aa u->h'.get? b=Aa u):zg P w H h':=λa o e=>
 (x a o e).stay (λb u _ q=>k b u q) (λ_ q=>q) λ_ _ q=>q
theorem zg.laid(x:zg P w H h)(k:∀ b u,h.get? b=Aa u->h'.get? b=Aa u)(hp:h.objs.size<=a)(new:ObjOk P w (upd H a o) h' a o):zg P w (upd H a o) h':=λb u e=>by
 have hn:=x.fresh hp;by_cases hb:b=a
 .subst hb;rw[BO]at e;cases e;exact new
 .rw[AQ hb]at e;exact(x b u e).stay (λc v _ q=>k c v q) (λc q=>by rw[AQ (Er q hn)];exact q) λc xs q=>by rw[AQ (Er q hn)];exact q
end
def Rd(H:Hp)(a:Ak)(u:HO):Prop:=H a=Aa u\/∃ o,H a=Aa (.frz o u)
theorem Rd.of{u:HO}(h:H a=Aa u):Rd H a u:=.inl h
theorem Rd.ok{w:AI}{u:HO}(r:Rd H a u)(x:zg P w H h):ObjOk P w H h a u:=by
 rcases r with r|⟨o,r⟩
 .exact x a u r
 .obtain⟨_,q⟩:=x a _ r;exact q
def ϵ:Ao HO->Prop
 |some (.lst _)=>F3
 |some (.dK _)=>F3
 |some (.dT _)=>F3
 |some (.set _ _)=>F3
 |some (.ins _ _ _)=>F3
 |some (.ext _)=>F3
 |_=>AM
section
variable{P:AK}{w:AI}{H:Hp}{h h':AJ}{x e:Ak}{o':HO}
theorem zg.write(ok:zg P w H h)(mu:ϵ (H x))(he:e=x\/H e=Aa (.own x))(k:∀ b u,b≠e->h.get? b=Aa u->h'.get? b=Aa u)(iw:∃ u,h'.get? e=Aa u)(new:ObjOk P w (upd H x o') h' x o'):zg P w (upd H x o') h':=λb u q=>by
 have cf:∀ c y,H c=Aa (.own y)->c≠x:=λc y r z=>by subst z;rw[r]at mu;exact mu
 have ntup:∀ c xs,H c=Aa (.tup xs)->c≠x:=λc xs r z=>by subst z;rw[r]at mu;exact mu
 by_cases hb:b=x
 .subst hb;rw[BO]at q;cases q;exact new
 .rw[AQ hb]at q;by_cases hbe:b=e
  .have q':H b=Aa (.own x):=by
    rcases he with z|z
    .exact absurd (hbe.trans z) hb
    .rw[hbe];exact z
   rw[q]at q';cases q';obtain⟨v,hv⟩:=iw;exact⟨v,by rw[hbe];exact hv⟩
  .refine(ok b u q).stay (λc v hc r=>k c v ?_ r) (λc r=>by rw[AQ (cf c b r)];exact r) λc xs r=>by rw[AQ (ntup c xs r)];exact r
   rcases hc with rfl|hc
   .exact hbe
   .rintro rfl;rcases he with z|z
    .exact cf c b hc z
    .rw[hc]at z;cases z;exact hb rfl
end
structure Un (fs ex:Ac Ak) (H H':Hp) (h h':AJ):Prop where
 keep:∀ b o,h.get? b=Aa o->H b=Ae->b∉fs->b∉ex->h'.get? b=Aa o
 slot:∀ b o,h.get? b=Aa o->H b=Ae->b∈fs->b∉ex->∃ sl,h'.get? b=Aa {o with slots:=sl}
 free:∀ b o,h.get? b=Aa o->H b=Ae->b∉ex->H' b=Ae
 there:∀ b o,h.get? b=Aa o->b∉ex->∃ o',h'.get? b=Aa o'
 tups:∀ b xs,H b=Aa (.tup xs)->H' b=Aa (.tup xs)
 frzs:∀ b o u,H b=Aa (.frz o u)->H' b=Aa (.frz o u)
 tbls:∀ b ps,H b=Aa (.tbl ps)->∃ more,H' b=Aa (.tbl (ps++more))
section
variable{fs fs' ex ex':Ac Ak}{H H1 H2:Hp}{h h1 h2 h':AJ}{a x e:Ak}{o:HO}
theorem Un.any(u:Un fs ex H H1 h h1){ob:CW}(q:h.get? b=Aa ob)(n:H b=Ae)(hx:b∉ex):∃ sl,h1.get? b=Aa {ob with slots:=sl}:=by
 by_cases hb:b∈fs
 .exact u.slot b ob q n hb hx
 .exact⟨ob.slots,u.keep b ob q n hb hx⟩
theorem Un.trans(a:Un fs ex H H1 h h1)(b:Un fs ex H1 H2 h1 h2):Un fs ex H H2 h h2 where
 keep:=λc ob q n hc hx=>b.keep c ob (a.keep c ob q n hc hx) (a.free c ob q n hx) hc hx
 slot:=λc ob q n hc hx=>by
  obtain⟨sl,e1⟩:=a.slot c ob q n hc hx;obtain⟨uy,e2⟩:=b.slot c _ e1 (a.free c ob q n hx) hc hx;exact⟨uy,e2⟩
 free:=λc ob q n hx=>by
  obtain⟨o',e1⟩:=a.there c ob q hx;exact b.free c o' e1 (a.free c ob q n hx) hx
 there:=λc ob q hx=>by
  obtain⟨o',e1⟩:=a.there c ob q hx;exact b.there c o' e1 hx
 tups:=λc xs q=>b.tups c xs (a.tups c xs q)
 frzs:=λc ob xs q=>b.frzs c ob xs (a.frzs c ob xs q)
 tbls:=λc ps q=>by
  obtain⟨m1,e1⟩:=a.tbls c ps q;obtain⟨m2,e2⟩:=b.tbls c _ e1;exact⟨m1++m2,by rw[e2,Xq]⟩
theorem Un.kept(k:∀ b u,h.get? b=Aa u->h'.get? b=Aa u):Un fs ex H H h h':=
 ⟨λb ob q _ _ _=>k b ob q,λb ob q _ _ _=>⟨ob.slots,k b ob q⟩,λ_ _ _ n _=>n,λb ob q _=>⟨ob,k b ob q⟩,λ_ _ q=>q,λ_ _ _ q=>q,λ_ ps q=>⟨#[],by rw[q];simp⟩⟩
theorem Un.refl:Un fs ex H H h h:=Un.kept λ_ _ q=>q
theorem Un.laid(k:∀ b u,h.get? b=Aa u->h'.get? b=Aa u)(hp:h.objs.size<=a)(hn:H a=Ae):Un fs ex H (upd H a o) h h' where
 keep:=λb u q _ _ _=>k b u q
 slot:=λb u q _ _ _=>⟨u.slots,k b u q⟩
 free:=λb u q n _=>by rw[AQ (BB (AZ (AS q) hp))];exact n
 there:=λb u q _=>⟨u,k b u q⟩
 tups:=λb xs q=>by rw[AQ (Er q hn)];exact q
 frzs:=λb u xs q=>by rw[AQ (Er q hn)];exact q
 tbls:=λb ps q=>⟨#[],by rw[AQ (Er q hn),q];simp⟩
theorem Un.write(mu:ϵ (H x))(he:e=x\/H e=Aa (.own x))(k:∀ b u,b≠e->h.get? b=Aa u->h'.get? b=Aa u)(iw:∃ u,h'.get? e=Aa u):Un fs ex H (upd H x o) h h':=by
 have hx:∀ b,H b=Ae->b≠x:=λb n z=>by subst z;rw[n]at mu;exact mu
 have hb:∀ b,H b=Ae->b≠e:=λb n z=>by
  subst z;rcases he with r|r
  .exact hx b n r
  .rw[n]at r;cases r
 have hm:∀ b u,H b=Aa u->¬ ϵ (Aa u)->b≠x:=λb u q nm z=>by subst z;rw[q]at mu;exact nm mu
 refine⟨λb u q n _ _=>k b u (hb b n) q,λb u q n _ _=>⟨u.slots,k b u (hb b n) q⟩,λb u q n _=>by rw[AQ (hx b n)];exact n,λb u q _=>?_,
  λb xs q=>by rw[AQ (hm b _ q λz=>z)];exact q,λb u xs q=>by rw[AQ (hm b _ q λz=>z)];exact q,λb ps q=>⟨#[],by rw[AQ (hm b _ q λz=>z),q];simp⟩⟩
 by_cases hbe:b=e
 .subst hbe;exact iw
 .exact⟨u,k b u hbe q⟩
theorem Un.mono(u:Un fs ex H H1 h h1)(hs:∀ b∈fs,b∈fs')(hx:∀ b∈ex,b∈ex'):Un fs' ex' H H1 h h1:=
 ⟨λb ob q n hb he=>u.keep b ob q n (λz=>hb (hs b z)) λz=>he (hx b z),λ_ _ q n _ he=>u.any q n λz=>he (hx _ z),λb ob q n he=>u.free b ob q n λz=>he (hx b z),λb ob q he=>u.there b ob q λz=>he (hx b z),u.tups,u.frzs,u.tbls⟩
end
noncomputable def é(h:AJ)(H:Hp):Ac Ak:=(BR h.objs.size).filter λa=>(H a).isSome
noncomputable def JM(h:AJ)(H:Hp):AJ:=PySem.W.hideAll h (é h H)
theorem cT(h:AJ)(H:Hp):(JM h H).objs.size=h.objs.size:=PySem.W.hideAll_size _ _
theorem fB(e:h.get? b=Aa o)(n:H b=Ae):(JM h H).get? b=Aa o:=
 PySem.W.hideAll_get _ e λhm=>by
  have q:(H b).isSome=Ab:=(X8.mp hm).2;rw[n]at q;simp at q
theorem lJ(e:(JM h H).get? b=Aa o):h.get? b=Aa o/\H b=Ae:=by
 have e':h.get? b=Aa o:=PySem.W.of_hideAll (é h H) e;refine⟨e',?_⟩;cases q:H b with
 |none=>rfl
 |some x=>
  have hm:b∈é h H:=List.mem_filter.mpr ⟨CU.mpr (AS e'),by simp[q]⟩
  have z:(JM h H).get? b=Ae:=PySem.W.hideAll_none (é h H) hm;rw[z]at e;cases e
noncomputable def nG(g h:AJ)(L:Ak):Pn:=(BR h.objs.size).filterMap λa=>if a=L\/(g.get? a).isSome=Ab then Ae else (h.get? a).map λo=>(a,o)
noncomputable def rest(g h:AJ)(L d:Ak):Pn:=(nG g h L).filter λp=>decide (p.1≠d)
structure Mod (K:Fg) (mg:Ah->Ao Al) (base:AJ):Prop where
 kin:K.In base
 glob:base.Ns AO mg
 blt:∃ mb,base.Ns Jo mb/\∀ x:Ah,x≠"__name__"->mb x=De x
 nolimit:base.NoLimit
structure Cx where
 prog:AK
 w:AI
 K:Fg
 mg:Ah->Ao Al
 base:AJ
 A:A4
 N:Ac Ah
 s₀:Ar
 H₀:Hp
 env:B5
 outer:Ac B5
 stack:Ac B5
 ex:Ac Ak
 fn:Ah->An
 calm:An
 pn:Pn
 xe:Al->Ar->Prop
variable{X:Cx}
noncomputable def yz(l:Ac B5):Ac Ak:=l.filterMap (·.frame)
noncomputable abbrev Cx.fs(X:Cx):Ac Ak:=yz X.outer
def ó(sc:Cb)(x:Ah):Prop:=sc.names.lookup x=Aa .local\/sc.names.lookup x=Aa .cell\/sc.names.lookup x=Aa .free
def qc(sc:Cb)(x:Ah):Prop:=sc.names.lookup x=Aa .local\/sc.names.lookup x=Aa .cell
noncomputable def zO(env:B5)(h:AJ)(m:Ah->Ao Al)(x:Ah)(u:Al):Prop:=
 (env.kindOf x=Aa .local/\m x=Aa u)\/((env.kindOf x=Aa .cell\/env.kindOf x=Aa .free)/\∃ c,env.cells.lookup x=Aa c/\h.IsCell c (Aa u))
structure Cx.Ok (X:Cx):Prop where
 mod:Mod X.K X.mg X.base
 kind:X.env.scope.kind=.function
 glob:X.env.globals=AO
 blt:X.env.builtins=Jo
 above:X.s₀.heap.objs.size<=X.env.locals
 inj:∀ x y c,X.env.cells.lookup x=Aa c->X.env.cells.lookup y=Aa c->x=y
 has:∀ x,(X.env.kindOf x=Aa .cell\/X.env.kindOf x=Aa .free)->∃ c,X.env.cells.lookup x=Aa c
 cab:∀ x c,X.fn x=Ab->X.env.cells.lookup x=Aa c->X.s₀.heap.objs.size<=c
 hd:X.calm=Ab->X.A.handled=Ae
 frames:X.A.frames=Aa X.stack
 stk:X.stack=X.outer\/(X.stack=X.env::X.outer/\X.env.frame=Aa X.env.locals)
 exf:∀ b∈X.ex,b≠X.env.locals/\∀ x c,X.env.cells.lookup x=Aa c->c≠b
 bs:∀ b o,X.base.get? b=Aa o->X.s₀.heap.get? b=Aa o/\X.H₀ b=Ae
 bsz:X.base.objs.size<=X.s₀.heap.objs.size
 noex:∀ b o,X.base.get? b=Aa o->b∉X.ex
 exfs:∀ b∈X.ex,b∉X.fs
 funs:X.s₀.heap.FunFrames X.base X.outer
 frf:∀ b∈X.fs,X.H₀ b=Ae
structure Z8 (X:Cx) (pI:Pn) (Y:Ac (Ao V)) (H:Hp) (s:Ar):Prop where
 ok:X.Ok
 os:s.os=X.s₀.os
 bare:FO s.gens
 base:Un X.fs X.ex X.H₀ H X.s₀.heap s.heap
 loc:∃ m,s.heap.Ns X.env.locals m/\∀(i:Ag)(x:Ah)(v:V),X.N[i]?=Aa x->Y[i]?=Aa (Aa v)->ó X.env.scope x->∃ u,Bt v u/\zO X.env s.heap m x u
 cell:∀ x c,X.env.cells.lookup x=Aa c->∃ v,s.heap.IsCell c v
 free:H X.env.locals=Ae
 freeC:∀ x c,X.env.cells.lookup x=Aa c->H c=Ae
 pin:∀ p∈X.pn++pI,s.heap.get? p.1=Aa p.2/\H p.1=Ae/\p.1≠X.env.locals/\p.1∉X.fs/\∀ v,p.2.data≠.cell v
 hok:zg X.prog X.w H s.heap
 len:Y.length=X.N.length
section
variable{X:Cx}{pI:Pn}{Y:Ac (Ao V)}{H H':Hp}{s:Ar}{h':AJ}
theorem Cx.Ok.nofr(ok:X.Ok)(e:X.base.get? b=Aa o):b∉X.fs:=λhb=>by
 have:=(ok.funs.mem hb).1;rw[e]at this;cases this
theorem Z8.bs(I:Z8 X pI Y H s):∀ b o,X.base.get? b=Aa o->s.heap.get? b=Aa o/\H b=Ae:=λb o e=>
 ⟨I.base.keep b o (I.ok.bs b o e).1 (I.ok.bs b o e).2 (I.ok.nofr e) (I.ok.noex b o e),I.base.free b o (I.ok.bs b o e).1 (I.ok.bs b o e).2 (I.ok.noex b o e)⟩
theorem Z8.bk(I:Z8 X pI Y H s):∀ b o,X.base.get? b=Aa o->s.heap.get? b=Aa o:=λb o e=>(I.bs b o e).1
theorem Z8.mod(I:Z8 X pI Y H s):Mod X.K X.mg X.base:=I.ok.mod
theorem Z8.kIn(I:Z8 X pI Y H s):X.K.In s.heap:=I.ok.mod.kin.keeps I.bk
theorem Z8.nolimit(I:Z8 X pI Y H s):s.heap.NoLimit:=I.ok.mod.nolimit.keeps I.bk
theorem Z8.fr(I:Z8 X pI Y H s):∃ m,Fr X.base X.env.locals s.heap m:=
 let ⟨m,hn,_⟩:=I.loc
 ⟨m,hn,I.bk,B8 I.ok.bsz I.ok.above⟩
theorem Z8.lt(I:Z8 X pI Y H s):X.env.locals<s.heap.objs.size:=let ⟨_,hn,_⟩:=I.loc;hn.lt
theorem Z8.sz(I:Z8 X pI Y H s):X.s₀.heap.objs.size<=s.heap.objs.size:=B8 I.ok.above (GM I.lt)
theorem Z8.nofs(I:Z8 X pI Y H s)(h:s.heap.objs.size<=a):a∉X.fs:=λhb=>by
 obtain⟨_,o,ho,_⟩:=I.ok.funs.mem hb;exact absurd (AZ (AS ho) (B8 I.sz h)) (BG _)
theorem Z8.cne(I:Z8 X pI Y H s):∀ x c,X.env.cells.lookup x=Aa c->c≠X.env.locals:=λx c e z=>by
 obtain⟨v,o,ho,hd⟩:=I.cell x c e;obtain⟨m,⟨o',es,ep,oz,m9,_⟩,_⟩:=I.loc;rw[z,oz]at ho;cases ho;rw[m9]at hd;cases hd
theorem Z8.funs(I:Z8 X pI Y H s):s.heap.FunFrames X.base X.outer:=by
 have all:∀(l:Ac B5),(∀ b∈yz l,b∈X.fs)->X.s₀.heap.FunFrames X.base l->s.heap.FunFrames X.base l:=by
  intro l
  induction l with
  |nil=>intro _ _;trivial
  |cons env r ih=>
   intro hs hl;obtain⟨hk,⟨L,o,hf,hn,ho,hd⟩,hr⟩:=hl;have hL:L∈X.fs:=hs L (by unfold yz;rw[G8,hf];exact AY)
   obtain⟨sl,e⟩:=I.base.slot L o ho (I.ok.frf L hL) hL λz=>I.ok.exfs L z hL
   exact⟨hk,⟨L,_,hf,hn,e,hd⟩,ih (λb hb=>hs b (by unfold yz;rw[G8,hf];exact AE _ hb)) hr⟩
 exact all X.outer (λ_ hb=>hb) I.ok.funs
theorem Z8.stack(I:Z8 X pI Y H s):s.heap.FunFrames X.base X.stack:=by
 rcases I.ok.stk with e|⟨e,hf⟩
 .rw[e];exact I.funs
 .rw[e];obtain⟨m,hn,_⟩:=I.loc;refine .cons (by rw[I.ok.kind];decide) hf hn ?_ I.funs
  exact Dt (B8 I.ok.bsz I.ok.above)
theorem Z8.stkSub(I:Z8 X pI Y H s):∀ b∈yz X.stack,b∈X.env.locals::X.fs:=λb hb=>by
 rcases I.ok.stk with e|⟨e,hf⟩
 .rw[e]at hb;exact AE _ hb
 .rw[e]at hb;unfold yz at hb;rw[G8,hf]at hb;exact hb
theorem Z8.stkFree(I:Z8 X pI Y H s):∀ b∈yz X.stack,H b=Ae:=λb hb=>by
 rcases A6.mp (I.stkSub b hb) with e|hb
 .rw[e];exact I.free
 .obtain⟨_,o,ho,_⟩:=I.ok.funs.mem hb;exact I.base.free b o ho (I.ok.frf b hb) λz=>I.ok.exfs b z hb
theorem Z8.step(I:Z8 X pI Y H s)(uf:∀ b∈ch,(b∈X.ex\/X.s₀.heap.objs.size<=b)/\b≠X.env.locals/\(∀ x c,X.env.cells.lookup x=Aa c->c≠b)/\∀ p∈X.pn++pI,p.1≠b)(keep:∀ b o,b≠X.env.locals->b∉X.fs->b∉ch->s.heap.get? b=Aa o->H b=Ae->h'.get? b=Aa o)(slot:∀ b o,b≠X.env.locals->b∈X.fs->b∉ch->s.heap.get? b=Aa o->H b=Ae->∃ sl,h'.get? b=Aa {o with slots:=sl})(free:∀ b o,b∉ch->s.heap.get? b=Aa o->H b=Ae->H' b=Ae)(there:∀ b o,b∉ch->s.heap.get? b=Aa o->∃ o',h'.get? b=Aa o')(tups:∀ b xs,H b=Aa (.tup xs)->H' b=Aa (.tup xs))(frzs:∀ b o u,H b=Aa (.frz o u)->H' b=Aa (.frz o u))(tbls:∀ b ps,H b=Aa (.tbl ps)->∃ more,H' b=Aa (.tbl (ps++more)))(ns:∀ m,s.heap.Ns X.env.locals m->h'.Ns X.env.locals m)(hok:zg X.prog X.w H' h')(hg:FO g'):Z8 X pI Y H' {s with heap:=h',gens:=g',drawn:=d',toks:=t'}:=by
 have neL:∀ b o,X.s₀.heap.get? b=Aa o->b≠X.env.locals:=λb o e=>BB (AZ (AS e) I.ok.above)
 have Ï:∀ b o,X.s₀.heap.get? b=Aa o->b∉X.ex->b∉ch:=λb o e hx hb=>by
  rcases (uf b hb).1 with z|z
  .exact hx z
  .exact absurd (AZ (AS e) z) (BG _)
 have cellK:∀ x c,X.env.cells.lookup x=Aa c->∀ v,s.heap.IsCell c v->h'.IsCell c v:=λx c e v ⟨o,ho,hd⟩=>by
  have cb:c∉ch:=λz=>(uf c z).2.2.1 x c e rfl
  by_cases hc:c∈X.fs
  .obtain⟨sl,q⟩:=slot c o (I.cne x c e) hc cb ho (I.freeC x c e);exact⟨_,q,hd⟩
  .exact⟨o,keep c o (I.cne x c e) hc cb ho (I.freeC x c e),hd⟩
 refine⟨I.ok,I.os,hg,⟨λb o e n hb hx=>?_,λb o e n hb hx=>?_,λb o e n hx=>?_,λb o e hx=>?_,λb xs e=>tups b xs (I.base.tups b xs e),λb o xs e=>frzs b o xs (I.base.frzs b o xs e),λb ps e=>?_⟩,?_,λx c e=>?_,?_,λx c e=>?_,λp hp=>?_,hok,I.len⟩
 .exact keep b o (neL b o e) hb (Ï b o e hx) (I.base.keep b o e n hb hx) (I.base.free b o e n hx)
 .obtain⟨sl,e1⟩:=I.base.slot b o e n hb hx;obtain⟨uy,e2⟩:=slot b _ (neL b o e) hb (Ï b o e hx) e1 (I.base.free b o e n hx);exact⟨uy,e2⟩
 .obtain⟨o',e1⟩:=I.base.there b o e hx;exact free b o' (Ï b o e hx) e1 (I.base.free b o e n hx)
 .obtain⟨o',e1⟩:=I.base.there b o e hx;exact there b o' (Ï b o e hx) e1
 .obtain⟨m1,e1⟩:=I.base.tbls b ps e;obtain⟨m2,e2⟩:=tbls b _ e1;exact⟨m1++m2,by rw[e2,Xq]⟩
 .obtain⟨m,hn,hl⟩:=I.loc;refine⟨m,ns m hn,λi x v e1 e2 e3=>?_⟩
  obtain⟨u,r,l⟩:=hl i x v e1 e2 e3;refine⟨u,r,?_⟩;rcases l with l|⟨k,c,e,z⟩
  .exact .inl l
  .exact .inr ⟨k,c,e,cellK x c e _ z⟩
 .obtain⟨v,z⟩:=I.cell x c e;exact⟨v,cellK x c e v z⟩
 .obtain⟨m,⟨o,_,_,ho,_⟩,_⟩:=I.loc;exact free _ o (λz=>(uf _ z).2.1 rfl) ho I.free
 .obtain⟨v,o,ho,hd⟩:=I.cell x c e;exact free c o (λz=>(uf c z).2.2.1 x c e rfl) ho (I.freeC x c e)
 .obtain⟨e,n,ne,nf,d⟩:=I.pin p hp;have cb:p.1∉ch:=λz=>(uf p.1 z).2.2.2 p hp rfl
  exact⟨keep p.1 p.2 ne nf cb e n,free p.1 p.2 cb e n,ne,nf,d⟩
theorem Z8.un(I:Z8 X pI Y H s)(u:Un X.fs [] H H' s.heap h')(hok:zg X.prog X.w H' h'):Z8 X pI Y H' {s with heap:=h',toks:=t'}:=by
 obtain⟨m,⟨o,es,ep,ho,r⟩,_⟩:=id I.loc;obtain⟨sl,hL⟩:=u.any ho I.free (by simp)
 exact I.step (g':=s.gens) (d':=s.drawn) (ch:=[]) (λ_ z=>nomatch z) (λb o _ hb _ e n=>u.keep b o e n hb (by simp)) (λb o _ hb _ e n=>u.slot b o e n hb (by simp)) (λb o _ e n=>u.free b o e n (by simp)) (λb o _ e=>u.there b o e (by simp)) u.tups u.frzs u.tbls (λm' hm=>by
  obtain⟨o',zi,jy,oz,r'⟩:=hm;rw[ho]at oz;cases oz;exact⟨_,zi,jy,hL,r'⟩) hok I.bare
theorem Z8.call(I:Z8 X pI Y H s)(u:Un (yz X.stack) ch H H' s.heap h')(hok:zg X.prog X.w H' h')(hg:FO g')(uf:∀ b∈ch,(b∈X.ex\/X.s₀.heap.objs.size<=b)/\b≠X.env.locals/\(∀ x c,X.env.cells.lookup x=Aa c->c≠b)/\∀ p∈X.pn++pI,p.1≠b):Z8 X pI Y H' {s with heap:=h',gens:=g',drawn:=d',toks:=t'}:=by
 obtain⟨m,⟨o,es,ep,ho,r⟩,_⟩:=id I.loc;obtain⟨sl,hL⟩:=u.any ho I.free λz=>(uf _ z).2.1 rfl
 exact I.step (ch:=ch) uf (λb o hL hb hc e n=>u.keep b o e n (λz=>(A6.mp (I.stkSub b z)).elim hL hb) hc) (λb o _ _ hc e n=>u.any e n hc) (λb o hc e n=>u.free b o e n hc) (λb o hc e=>u.there b o e hc) u.tups u.frzs u.tbls (λm' hm=>by
  obtain⟨o',zi,jy,oz,r'⟩:=hm;rw[ho]at oz;cases oz;exact⟨_,zi,jy,hL,r'⟩) hok hg
theorem Z8.turned(I:Z8 X pI Y H s)(k:∀ b o,b≠it->s.heap.get? b=Aa o->h'.get? b=Aa o)(hn:H it=Ae)(hL:it≠X.env.locals)(h1:it∈X.ex\/X.s₀.heap.objs.size<=it)(h2:∀ x c,X.env.cells.lookup x=Aa c->c≠it)(h3:∀ p∈X.pn++pI,p.1≠it):Z8 X pI Y H {s with heap:=h',toks:=t'}:=by
 have nit:∀ b u,H b=Aa u->b≠it:=λb u e z=>by rw[z,hn]at e;cases e
 refine I.step (g':=s.gens) (d':=s.drawn) (ch:=[it]) (λb hb=>?_) (λb o _ _ hc e _=>k b o (λz=>hc (by simp[z])) e) (λb o _ _ hc e _=>⟨o.slots,k b o (λz=>hc (by simp[z])) e⟩) (λ_ _ _ _ n=>n)
  (λb o hc e=>⟨o,k b o (λz=>hc (by simp[z])) e⟩) (λ_ _ e=>e) (λ_ _ _ e=>e) (λb ps e=>⟨#[],by rw[e];simp⟩) (λm hm=>?_) (λb u e=>?_) I.bare
 .have e:b=it:=by simpa using hb
  subst e;exact⟨h1,hL,h2,h3⟩
 .obtain⟨o,es,ep,ho,r⟩:=hm;exact⟨o,es,ep,k _ o (CG hL) ho,r⟩
 .refine(I.hok b u e).stay (λc v hc q=>k c v ?_ q) (λ_ q=>q) λ_ _ q=>q
  rcases hc with z|z
  .rw[z];exact nit b u e
  .exact nit c _ z
theorem Z8.tok(I:Z8 X pI Y H s)(t:Ag):Z8 X pI Y H {s with toks:=t}:=I.un (h':=s.heap) (t':=t) Un.refl I.hok
theorem Z8.kept{t':Ag}(I:Z8 X pI Y H s)(k:∀ b u,s.heap.get? b=Aa u->h'.get? b=Aa u):Z8 X pI Y H {s with heap:=h',toks:=t'}:=I.un (Un.kept k) (I.hok.kept k)
theorem Z8.laid{a:Ak}{o:HO}{t':Ag}(I:Z8 X pI Y H s)(k:∀ b u,s.heap.get? b=Aa u->h'.get? b=Aa u)(hp:s.heap.objs.size<=a)(new:ObjOk X.prog X.w (upd H a o) h' a o):Z8 X pI Y (upd H a o) {s with heap:=h',toks:=t'}:=I.un (Un.laid k hp (I.hok.fresh hp)) (I.hok.laid k hp new)
theorem Z8.write{x e:Ak}{o:HO}{t':Ag}(I:Z8 X pI Y H s)(mu:ϵ (H x))(he:e=x\/H e=Aa (.own x))(k:∀ b u,b≠e->s.heap.get? b=Aa u->h'.get? b=Aa u)(iw:∃ u,h'.get? e=Aa u)(new:ObjOk X.prog X.w (upd H x o) h' x o):Z8 X pI Y (upd H x o) {s with heap:=h',toks:=t'}:=I.un (Un.write mu he k iw) (I.hok.write mu he k iw new)
theorem Z8.weak{Y':Ac (Ao V)}(I:Z8 X pI Y H s)(hl:Y'.length=Y.length)(w:∀(i:Ag) v,Y'[i]?=Aa (Aa v)->Y[i]?=Aa (Aa v)):Z8 X pI Y' H s:=
 ⟨I.ok,I.os,I.bare,I.base,let ⟨m,hn,hl'⟩:=I.loc;⟨m,hn,λi x v e1 e2 e3=>hl' i x v e1 (w i v e2) e3⟩,I.cell,I.free,I.freeC,I.pin,I.hok,hl.trans I.len⟩
theorem Z8.pins_of{LE:Pn}(I:Z8 X pI Y H s)(h:∀ p∈LE,s.heap.get? p.1=Aa p.2/\H p.1=Ae/\p.1≠X.env.locals/\p.1∉X.fs/\∀ v,p.2.data≠.cell v):Z8 X LE Y H s:=
 ⟨I.ok,I.os,I.bare,I.base,I.loc,I.cell,I.free,I.freeC,λp hp=>(Eh.mp hp).elim (λz=>I.pin p (EN _ z)) (h p),I.hok,I.len⟩
theorem P6{N:Ac Ah}(hN:N.Nodup){j:Ag}(a:N[i]?=Aa x)(b:N[j]?=Aa x):i=j:=by
 obtain⟨h1,e1⟩:=A5.mp a;obtain⟨h2,e2⟩:=A5.mp b;exact(List.getElem_inj hN).mp (e1.trans e2.symm)
theorem Tn{A:A4}{E:Vq}(I:Z8 X pI Y H s)(hN:X.N.Nodup)(hi:X.N[i]?=Aa x)(hx:qc X.env.scope x)(r:Bt v u)(h:∀ s',Z8 X pI (Y.set i (Aa v)) H s'->(∃ a,FD a s.heap s'.heap/\(a=X.env.locals\/X.env.cells.lookup x=Aa a))->Q () s')(hf:X.fn x=Ab\/X.env.scope.names.lookup x=Aa .local:=by first|exact .inl rfl|exact .inr rfl|assumption):AA M A (storeName X.env x u) Q E s:=by
 obtain⟨m,hn,hl⟩:=id I.loc;have hcls:(X.env.scope.kind==.class||(X.env.scope.kind==.module&&X.env.locals != X.env.globals))=Af:=by rw[I.ok.kind];rfl
 have hiσ:i<Y.length:=by rw[I.len];exact(A5.mp hi).1
 have cne:=I.cne;have tracked:∀{a:Ak}{h':AJ},(∃ o,s.heap.get? a=Aa o/\H a=Ae)->FD a s.heap h'->zg X.prog X.w H h':=λ{a h'} ha hs b ob e=>by
  obtain⟨_,_,wp⟩:=ha;refine(I.hok b ob e).stay (λc w' hc q=>(hs.2 c ?_).trans q) (λ_ q=>q) λ_ _ q=>q
  rintro rfl;rcases hc with rfl|hc
  .rw[wp]at e;cases e
  .rw[wp]at hc;cases hc
 rcases hx with hk|hk
 .refine wpAny_storeName_local hk hn (λh' bg hs=>?_) hcls
  obtain⟨oL,_,_,hoL,_⟩:=id hn;refine h _ ⟨I.ok,I.os,I.bare,⟨λb o e n hb hx=>?_,λb o e n hb hx=>?_,I.base.free,λb o e hx=>?_,I.base.tups,I.base.frzs,I.base.tbls⟩,⟨_,bg,λj y v' e1 e2 e3=>?_⟩,λy c e=>?_,I.free,I.freeC,λp hp=>?_,tracked ⟨oL,hoL,I.free⟩ hs,by simpa using I.len⟩ ⟨_,hs,.inl rfl⟩
  .exact(hs.2 b (BB (AZ (AS e) I.ok.above))).trans (I.base.keep b o e n hb hx)
  .obtain⟨sl,e1⟩:=I.base.slot b o e n hb hx;exact⟨sl,(hs.2 b (BB (AZ (AS e) I.ok.above))).trans e1⟩
  .obtain⟨o',e1⟩:=I.base.there b o e hx;exact⟨o',(hs.2 b (BB (AZ (AS e) I.ok.above))).trans e1⟩
  .by_cases hj:j=i
   .subst hj;rw[hi]at e1;cases e1;rw[By hiσ]at e2;cases e2;exact⟨u,r,.inl ⟨hk,by simp⟩⟩
   .rw[GF (CG hj)]at e2;obtain⟨u',r',q⟩:=hl j y v' e1 e2 e3;refine⟨u',r',?_⟩;rcases q with ⟨k,e⟩|⟨k,c,e,z⟩
    .refine .inl ⟨k,?_⟩;have:y≠x:=λe=>hj (P6 hN e1 (e ▸ hi))
     simp[this,e]
    .exact .inr ⟨k,c,e,z.sameBut hs (cne y c e)⟩
  .obtain⟨w',z⟩:=I.cell y c e;exact⟨w',z.sameBut hs (cne y c e)⟩
  .obtain⟨e,n,ne,nf,d⟩:=I.pin p hp;exact⟨(hs.2 p.1 ne).trans e,n,ne,nf,d⟩
 .have av:X.fn x=Ab:=by
   rcases hf with z|z
   .exact z
   .rw[z]at hk;cases hk
  obtain⟨c,hc⟩:=I.ok.has x (.inl hk);obtain⟨w',z⟩:=I.cell x c hc;refine wpAny_storeName_cell I.ok.kind hk hc z (λh' qg hs=>?_)
  obtain⟨oc,iz,hocd⟩:=id z;refine h {s with heap:=h'} ⟨I.ok,I.os,I.bare,⟨λb o e n hb hx=>?_,λb o e n hb hx=>?_,I.base.free,λb o e hx=>?_,I.base.tups,I.base.frzs,I.base.tbls⟩,⟨m,hn.sameBut hs (CG (cne x c hc)),λj y v' e1 e2 e3=>?_⟩,λy c' e=>?_,I.free,I.freeC,λp hp=>?_,tracked ⟨oc,iz,I.freeC x c hc⟩ hs,by simpa using I.len⟩ ⟨c,hs,.inr hc⟩
  .exact(hs.2 b (BB (AZ (AS e) (I.ok.cab x c av hc)))).trans (I.base.keep b o e n hb hx)
  .obtain⟨sl,e1⟩:=I.base.slot b o e n hb hx;exact⟨sl,(hs.2 b (BB (AZ (AS e) (I.ok.cab x c av hc)))).trans e1⟩
  .obtain⟨o',e1⟩:=I.base.there b o e hx;exact⟨o',(hs.2 b (BB (AZ (AS e) (I.ok.cab x c av hc)))).trans e1⟩
  .by_cases hj:j=i
   .subst hj;rw[hi]at e1;cases e1;rw[By hiσ]at e2;cases e2;exact⟨u,r,.inr ⟨.inl hk,c,hc,qg⟩⟩
   .rw[GF (CG hj)]at e2;obtain⟨u',r',q⟩:=hl j y v' e1 e2 e3;refine⟨u',r',?_⟩;rcases q with q|⟨k,c',e,z'⟩
    .exact .inl q
    .refine .inr ⟨k,c',e,z'.sameBut hs ?_⟩;rintro rfl;exact hj (P6 hN e1 (I.ok.inj _ _ _ e hc ▸ hi))
  .by_cases hcc:c'=c
   .subst hcc;exact⟨_,qg⟩
   .obtain⟨w2,z2⟩:=I.cell y c' e;exact⟨w2,z2.sameBut hs hcc⟩
  .obtain⟨e,n,ne,nf,d⟩:=I.pin p hp;refine⟨(hs.2 p.1 ?_).trans e,n,ne,nf,d⟩;intro q;rw[q,iz]at e;have q':oc=p.2:=BD e;exact d w' (by rw[<-q'];exact hocd)
theorem P1{A:A4}{E:Vq}(I:Z8 X pI Y H s)(hN:X.N.Nodup)(hi:X.N[i]?=Aa x)(hx:qc X.env.scope x)(r:Bt v u)(h:∀ s',Z8 X pI (Y.set i (Aa v)) H s'->Q () s')(hf:X.fn x=Ab\/X.env.scope.names.lookup x=Aa .local:=by first|exact .inl rfl|exact .inr rfl|assumption):AA M A (storeName X.env x u) Q E s:=
 Tn I hN hi hx r (λs' I' _=>h s' I') hf
theorem Z8.call'{s':Ar}(I:Z8 X pI Y H s)(ho:s'.os=s.os)(u:Un (yz X.stack) ch H H' s.heap s'.heap)(hok:zg X.prog X.w H' s'.heap)(hg:FO s'.gens)(uf:∀ b∈ch,(b∈X.ex\/X.s₀.heap.objs.size<=b)/\b≠X.env.locals/\(∀ x c,X.env.cells.lookup x=Aa c->c≠b)/\∀ p∈X.pn++pI,p.1≠b):Z8 X pI Y H' s':=by
 obtain⟨h',g',d',t',o'⟩:=s';have e:o'=s.os:=ho;subst e;exact I.call (g':=g') (t':=t') (d':=d') u hok hg uf
end
abbrev XK:=Al->Ao Ak->Hp->Prop
abbrev St:=Ac (Ao V)
variable{Y:St}
abbrev VK:=V->Hp->Prop
abbrev TE:=St->Hp->VK->Prop
variable{te:TE}
abbrev TT:=St->Hp->(An->Hp->Prop)->Prop
variable{t:TT}
abbrev TA:=St->Hp->(Ac V->Hp->Prop)->Prop
variable{ta:TA}
structure xu where
 nx:St->Hp->Prop
 rt:VK
 bk:St->Hp->Prop:=λ_ _=>AM
 ct:St->Hp->Prop:=λ_ _=>AM
abbrev TS:=xu->St->Hp->Prop
def EP(X:Cx)(pI:Pn)(Y:St)(Q:VK)(u:Al)(s':Ar):Prop:=∃ v H',Z8 X pI Y H' s'/\Bt v u/\Q v H'
def TP(X:Cx)(pI:Pn)(Y:St)(Q:An->Hp->Prop)(b:An)(s':Ar):Prop:=∃ H',Z8 X pI Y H' s'/\Q b H'
def AP(X:Cx)(pI:Pn)(Y:St)(Q:Ac V->Hp->Prop)(us:Ac Al)(s':Ar):Prop:=∃ vs H',Z8 X pI Y H' s'/\A1 vs us/\Q vs H'
noncomputable def SP(X:Cx)(pI:Pn)(D:xu)(f:Flow)(s':Ar):Prop:=
  match f with
  |.next=>∃ Y' H',Z8 X pI Y' H' s'/\D.nx Y' H'
  |.brk=>∃ Y' H',Z8 X pI Y' H' s'/\D.bk Y' H'
  |.cont=>∃ Y' H',Z8 X pI Y' H' s'/\D.ct Y' H'
  |.ret u=>∃ v Y' H',Z8 X pI Y' H' s'/\Bt v u/\D.rt v H'
noncomputable def PE(X:Cx)(e:Aq)(t:TE):Prop:=
 ∀(pI:Pn)(s:Ar)(Y:St)(H:Hp)(Q:VK),Z8 X pI Y H s->t Y H Q->AA (model X.prog X.w) X.A (eval e X.env) (EP X pI Y Q) X.xe s
noncomputable def PT(X:Cx)(e:Aq)(t:TT):Prop:=
 ∀(pI:Pn)(s:Ar)(Y:St)(H:Hp)(Q:An->Hp->Prop),Z8 X pI Y H s->t Y H Q->AA (model X.prog X.w) X.A (Jg e X.env (eval e X.env)) (TP X pI Y Q) X.xe s
noncomputable def PW(X:Cx)(e:Aq)(t:TT):Prop:=
 ∀(whole:Fe Al)(pI:Pn)(s:Ar)(Y:St)(H:Hp)(Q:An->Hp->Prop),Z8 X pI Y H s->t Y H Q->AA (model X.prog X.w) X.A (Jg e X.env whole) (TP X pI Y Q) X.xe s
theorem PW.pt(h:PW X e t):PT X e t:=h _
noncomputable def PA(X:Cx)(es:Ac Aq)(t:TA):Prop:=
 ∀(pos:AF)(pI:Pn)(s:Ar)(Y:St)(H:Hp)(Q:Ac V->Hp->Prop),Z8 X pI Y H s->t Y H Q->AA (model X.prog X.w) X.A (spliced (Br pos (Aw es X.env))) (AP X pI Y Q) X.xe s
noncomputable def PS(X:Cx)(st:AL)(t:TS):Prop:=
 ∀(pI:Pn)(s:Ar)(Y:St)(H:Hp)(D:xu),Z8 X pI Y H s->t D Y H->AA (model X.prog X.w) X.A (exec st X.env) (SP X pI D) X.xe s
noncomputable def yp(X:Cx)(st:Ac AL)(t:TS):Prop:=
 ∀(pI:Pn)(s:Ar)(Y:St)(H:Hp)(D:xu),Z8 X pI Y H s->t D Y H->AA (model X.prog X.w) X.A (execs st X.env) (SP X pI D) X.xe s
theorem U4{t:Fe α}{Q Q':α->Ar->Prop}{A:A4}{E:Vq}(h:AA M A t Q E s)(hQ:∀ a s,Q a s->Q' a s):AA M A t Q' E s:=Bj h hQ λ_ _ x=>x
section
variable{X:Cx}
theorem bin{a b:Aq}{ta tb:TE}(ha:PE X a ta)(hb:PE X b tb){R:V->V->Hp->Prop}(I:Z8 X pI Y H s)(h:ta Y H λx H1=>tb Y H1 λy H2=>R x y H2){Q:α->Ar->Prop}{f:Al->Al->Fe α}(hf:∀ v u s2 x y H2,Z8 X pI Y H2 s2->Bt x v->Bt y u->R x y H2->AA (model X.prog X.w) X.A (f v u) Q X.xe s2):AA (model X.prog X.w) X.A (eval a X.env) (λv s₁=>AA (model X.prog X.w) X.A (eval b X.env) (λu s₂=>AA (model X.prog X.w) X.A (f v u) Q X.xe s₂) X.xe s₁) X.xe s:=by
 refine U4 (ha pI s Y H _ I h) λv s1 ⟨x,H1,I1,r1,q1⟩=>?_
 refine U4 (hb pI s1 Y H1 _ I1 q1) λu s2 ⟨y,H2,I2,r2,q2⟩=>?_
 exact hf v u s2 x y H2 I2 r1 r2 q2
def Ch(i:Ag):TE:=λY H Q=>∃ v,Y[i]?=Aa (Aa v)/\Q v H
def tC(v:V):TE:=λ_ H Q=>Q v H
theorem Dw(hN:X.N[i]?=Aa x)(hv:ó X.env.scope x)(hd:(x==("__debug__" : Ah))=Af:=by decide)(zy:(x==("__classdict__" : Ah))=Af:=by decide):PE X (.Name x pos) (Ch i):=by
 intro pI s Y H Q I h;obtain⟨v,e,h⟩:=h;obtain⟨m,hn,hl⟩:=I.loc;obtain⟨u,r,l⟩:=hl i x v hN e hv;have fin:EP X pI Y Q u s:=⟨v,H,I,r,h⟩;rcases l with ⟨hk,hm⟩|⟨hk,c,hc,vf⟩
 .exact LM (wpAny_loadName_local I.ok.kind hk hn hm fin) hd
 .rcases hk with hk|hk
  .exact LM (wpAny_loadName_cell I.ok.kind hk hc vf fin) hd
  .exact LM (wpAny_loadName_free I.ok.kind hk hc vf fin zy) hd
theorem Of{i j pos}:PE X (.Constant (.int i) j pos) (tC (.int i)):=λ_ _ _ H _ I h=>wpAny_Constant_int ⟨.int i,H,I.tok _,⟨_,rfl⟩,h⟩
theorem vC{b j pos}:PE X (.Constant (.bool b) j pos) (tC (.bl b)):=λ_ _ _ H _ I h=>Constant_bool ⟨.bl b,H,I,rfl,h⟩
theorem Oe{j pos}:PE X (.Constant .none j pos) (tC .non):=λ_ _ _ H _ I h=>Constant_none ⟨.non,H,I,rfl,h⟩
theorem KA{x j pos}:PE X (.Constant (.str x) j pos) (tC (.str x)):=λ_ _ _ H _ I h=>Calls.Constant_str ⟨.str x,H,I.tok _,⟨_,rfl⟩,h⟩
def Gl(X:Cx)(x:Ah):Prop:=X.env.kindOf x=Aa .globalImplicit
theorem Ju{E:Vq}{Q:Vq}(I:Z8 X pI Y H s)(hg:Gl X x)(hm:X.mg x=Aa u)(h:Q u s)(hd:(x==("__debug__" : Ah))=Af:=by decide):AA (model X.prog X.w) X.A (eval (.Name x pos) X.env) Q E s:=
 Yv I.ok.kind hg (Calls.loadGlobal_global (by rw[I.ok.glob];exact I.mod.glob.keeps I.bk) hm h) hd
theorem M9{E:Vq}{Q:Vq}(I:Z8 X pI Y H s)(hg:Gl X x)(hm:X.mg x=Ae)(hv:De x=Aa u)(h:Q u s)(hn:x≠"__name__" := by decide)(hd:(x==("__debug__" : Ah))=Af:=by decide):AA (model X.prog X.w) X.A (eval (.Name x pos) X.env) Q E s:=by
 obtain⟨mb,h1,h2⟩:=I.mod.blt;exact Yv I.ok.kind hg (Calls.loadGlobal_builtin (by rw[I.ok.glob];exact I.mod.glob.keeps I.bk) hm (by rw[I.ok.blt];exact h1.keeps I.bk) ((h2 x hn).trans hv) h) hd
theorem MY(hg:Gl X x)(hm:X.mg x=Aa u)(r:Bt v u)(hd:(x==("__debug__" : Ah))=Af:=by decide):PE X (.Name x pos) (tC v):=
 λ_ _ _ H _ I h=>Ju I hg hm ⟨v,H,I,r,h⟩ hd
theorem Ux(hg:Gl X x)(hm:X.mg x=Ae)(hv:De x=Aa u)(r:Bt v u)(hn:x≠"__name__" := by decide)(hd:(x==("__debug__" : Ah))=Af:=by decide):PE X (.Name x pos) (tC v):=
 λ_ _ _ H _ I h=>M9 I hg hm hv ⟨v,H,I,r,h⟩ hn hd
variable{a b:Aq}{ta tb:TE}{pos:AF}
variable{tA æ:TT}{rest:Ac Aq}
def yR(t u:TT):TT:=λY H Q=>t Y H λc H1=>if c=Ab then u Y H1 Q else Q Af H1
def tOr(t u:TT):TT:=λY H Q=>t Y H λc H1=>if c=Ab then Q Ab H1 else u Y H1 Q
def yK(t:TT):TT:=λY H Q=>t Y H λc H1=>Q (!c) H1
theorem Uv(ha:PT X a tA):PW X (.BoolOp .And [a] pos) tA:=by
 intro wh pI s Y H Q I h;refine isTrue_and (U4 (ha pI s Y H Q I h) λc s1 e=>?_)
 cases c with
 |true=>exact isTrue_and_nil e
 |false=>exact e
theorem Vz(ha:PT X a tA):PW X (.BoolOp .Or [a] pos) tA:=by
 intro wh pI s Y H Q I h;refine isTrue_or (U4 (ha pI s Y H Q I h) λc s1 e=>?_)
 cases c with
 |false=>exact isTrue_or_nil e
 |true=>exact e
theorem QC(ha:PT X a tA)(hb:PW X (.BoolOp .And (b::rest) pos) æ):PW X (.BoolOp .And (a::b::rest) pos) (yR tA æ):=by
 intro wh pI s Y H Q I h;refine isTrue_and (U4 (ha pI s Y H _ I h) λc s1 ⟨H1,I1,q1⟩=>?_)
 cases c with
 |true=>exact hb wh pI s1 Y H1 Q I1 q1
 |false=>exact⟨H1,I1,q1⟩
theorem Rb(ha:PT X a tA)(hb:PW X (.BoolOp .Or (b::rest) pos) æ):PW X (.BoolOp .Or (a::b::rest) pos) (tOr tA æ):=by
 intro wh pI s Y H Q I h;refine isTrue_or (U4 (ha pI s Y H _ I h) λc s1 ⟨H1,I1,q1⟩=>?_)
 cases c with
 |true=>exact⟨H1,I1,q1⟩
 |false=>exact hb wh pI s1 Y H1 Q I1 q1
theorem oM(ha:PT X a tA):PT X (.UnaryOp .Not a pos) (yK tA):=by
 intro pI s Y H Q I h;exact isTrue_not (ha pI s Y H (λc H1=>Q (!c) H1) I h)
def uP(ta tb:TE):TE:=λY H Q=>ta Y H λx H1=>∃ c,x=.bl c/\if c=Ab then tb Y H1 Q else Q (.bl Af) H1
def yJ(ta tb:TE):TE:=λY H Q=>ta Y H λx H1=>∃ c,x=.bl c/\if c=Ab then Q (.bl Ab) H1 else tb Y H1 Q
def uN(ta:TE):TE:=λY H Q=>ta Y H λx H1=>∃ c,x=.bl c/\Q (.bl (!c)) H1
theorem nK{op}{t:TE}(h:PE X a t):PE X (.BoolOp op [a] pos) t:=λpI s Y H Q I hw=>BoolOp_one (h pI s Y H Q I hw)
theorem nN(ha:PE X a ta)(hb:PE X (.BoolOp .And (b::rest) pos) tb):PE X (.BoolOp .And (a::b::rest) pos) (uP ta tb):=by
 intro pI s Y H Q I h;refine BoolOp_and (U4 (ha pI s Y H _ I h) λv s1 ⟨x,H1,I1,r1,q1⟩=>?_)
 obtain⟨c,rfl,q1⟩:=q1;cases r1;refine C3 ?_;cases c with
 |true=>exact hb pI s1 Y H1 Q I1 q1
 |false=>exact⟨.bl Af,H1,I1,rfl,q1⟩
theorem vB(ha:PE X a ta)(hb:PE X (.BoolOp .Or (b::rest) pos) tb):PE X (.BoolOp .Or (a::b::rest) pos) (yJ ta tb):=by
 intro pI s Y H Q I h;refine BoolOp_or (U4 (ha pI s Y H _ I h) λv s1 ⟨x,H1,I1,r1,q1⟩=>?_)
 obtain⟨c,rfl,q1⟩:=q1;cases r1;refine C3 ?_;cases c with
 |false=>exact hb pI s1 Y H1 Q I1 q1
 |true=>exact⟨.bl Ab,H1,I1,rfl,q1⟩
theorem nL(ha:PE X a ta):PE X (.UnaryOp .Not a pos) (uN ta):=by
 intro pI s Y H Q I h;refine UnaryOp_ (U4 (ha pI s Y H _ I h) λv s1 ⟨x,H1,I1,r1,q1⟩=>?_)
 obtain⟨c,rfl,q1⟩:=q1;cases r1;exact not_of (C3 ⟨.bl (!c),H1,I1,rfl,q1⟩)
end
noncomputable def Id(K:Fg)(H:Hp)(a:Ak)(xs:Ac V):Prop:=
 Rd H a (.lst xs) \/
  ∃(o:CW)(its:Bl Al)(n:Ag),K.lookup a=Aa o/\o.cls=.type "list"/\o.dict=Ae/\o.data=.seq its n/\its.size<=sizeLine/\A1 xs its.toList
noncomputable def yy(K:Fg)(H:Hp)(a:Ak)(xs:Ac V):Prop:=
 Rd H a (.tup xs) \/
  ∃(o:CW)(its:Bl Al)(n:Ag),K.lookup a=Aa o/\o.cls=.type "tuple"/\o.data=.seq its n/\its.size<=sizeLine/\A1 xs its.toList
noncomputable def zJ:Al->Ao V
 |.none=>Aa .non
 |.bool b=>Aa (.bl b)
 |.int i _=>Aa (.int i)
 |.str x _=>Aa (.str x)
 |.bytes b _=>Aa (.byt b)
 |.float b _=>Aa (.flt b)
 |.ref a=>Aa (.ref a)
 |.type n=>Aa (.ty n)
 |_=>Ae
theorem Bt.abs{x:V}(r:Bt x u):zJ u=Aa x:=by
 cases x with
 |non=>cases r;rfl
 |bl _=>cases r;rfl
 |int _=>obtain⟨t,rfl⟩:=r;rfl
 |str _=>obtain⟨t,rfl⟩:=r;rfl
 |byt _=>obtain⟨t,rfl⟩:=r;rfl
 |flt _=>obtain⟨t,rfl⟩:=r;rfl
 |ref _=>cases r;rfl
 |ty _=>cases r;rfl
theorem Bt.inj{x:V}(r:Bt x u)(q:Bt y u):x=y:=BD (r.abs.symm.trans q.abs)
theorem A1.inj:∀{xs ys:Ac V}{us:Ac Al},A1 xs us->A1 ys us->xs=ys
 |_,_,_,.nil,.nil=>rfl
 |_,_,_,.cons r t,.cons r' t'=>by rw[r.inj r',A1.inj t t']
section
variable{X:Cx}{pI:Pn}{Y:St}{H:Hp}{s:Ar}{a:Ak}{xs ys:Ac V}
theorem Id.of{K:Fg}(h:H a=Aa (.lst xs)):Id K H a xs:=.inl (.inl h)
theorem yy.of{K:Fg}(h:H a=Aa (.tup xs)):yy K H a xs:=.inl (.inl h)
theorem Z8.list(I:Z8 X pI Y H s)(h:Id X.K H a xs):∃ its:Ac Al,A1 xs its/\PlainL s.heap a its.toArray/\xs.length<=sizeLine:=by
 rcases h with h|⟨o,its,n,hk,hc,hd,hs,hz,r⟩
 .obtain⟨z,its,n,r,e⟩:=h.ok I.hok;exact⟨its,r,⟨_,n,e,rfl,rfl,rfl⟩,z⟩
 .refine⟨its.toList,r,⟨o,n,I.kIn a o hk,hc,hd,by simpa using hs⟩,?_⟩
  have e:=r.length;simp only[G7]at e;omega
theorem Z8.tuple(I:Z8 X pI Y H s)(h:yy X.K H a xs):∃ its:Ac Al,A1 xs its/\LH s.heap a its.toArray/\xs.length<=sizeLine:=by
 rcases h with h|⟨o,its,n,hk,hc,hs,hz,r⟩
 .obtain⟨z,its,r,p⟩:=h.ok I.hok;exact⟨its,r,p,z⟩
 .refine⟨its.toList,r,⟨o,I.kIn a o hk,hc,n,by simpa using hs⟩,?_⟩
  have e:=r.length;simp only[G7]at e;omega
theorem Z8.list_inj(I:Z8 X pI Y H s)(h:Id X.K H a xs)(h':Id X.K H a ys):xs=ys:=by
 obtain⟨its,r,⟨o,n,e,_,_,d⟩,_⟩:=I.list h;obtain⟨its',r',⟨o',n',e',_,_,d'⟩,_⟩:=I.list h';rw[e]at e';cases e';rw[d]at d'
 injection d' with d1 _
 have:its=its':=by simpa using congrArg JW d1
 subst this;exact r.inj r'
theorem Z8.tuple_inj(I:Z8 X pI Y H s)(h:yy X.K H a xs)(h':yy X.K H a ys):xs=ys:=by
 obtain⟨its,r,⟨o,e,_,n,d⟩,_⟩:=I.tuple h;obtain⟨its',r',⟨o',e',_,n',d'⟩,_⟩:=I.tuple h';rw[e]at e';cases e';rw[d]at d'
 injection d' with d1 _
 have:its=its':=by simpa using congrArg JW d1
 subst this;exact r.inj r'
end
noncomputable abbrev Cx.wish(X:Cx)(E:Vq):Cx:={X with xe:=E}
noncomputable abbrev Cx.nox(X:Cx):Cx:=X.wish λ_ _=>AM
theorem Cx.Ok.wish(ok:X.Ok)(E:Vq):(X.wish E).Ok:=
 ⟨ok.mod,ok.kind,ok.glob,ok.blt,ok.above,ok.inj,ok.has,ok.cab,ok.hd,ok.frames,ok.stk,ok.exf,ok.bs,ok.bsz,ok.noex,ok.exfs,ok.funs,ok.frf⟩
theorem Cx.Ok.unwish{E:Vq}(ok:(X.wish E).Ok):X.Ok:=
 ⟨ok.mod,ok.kind,ok.glob,ok.blt,ok.above,ok.inj,ok.has,ok.cab,ok.hd,ok.frames,ok.stk,ok.exf,ok.bs,ok.bsz,ok.noex,ok.exfs,ok.funs,ok.frf⟩
section
variable{X:Cx}{pI:Pn}{Y:St}{H:Hp}{s:Ar}{E:Vq}
theorem Z8.wish(I:Z8 X pI Y H s)(E:Vq):Z8 (X.wish E) pI Y H s:=⟨I.ok.wish E,I.os,I.bare,I.base,I.loc,I.cell,I.free,I.freeC,I.pin,I.hok,I.len⟩
theorem Z8.unwish(I:Z8 (X.wish E) pI Y H s):Z8 X pI Y H s:=⟨I.ok.unwish,I.os,I.bare,I.base,I.loc,I.cell,I.free,I.freeC,I.pin,I.hok,I.len⟩
theorem SP.unwish{D:xu}{f:Flow}{s':Ar}(h:SP (X.wish E) pI D f s'):SP X pI D f s':=by
 cases f with
 |next=>obtain⟨Y',H',I,q⟩:=h;exact⟨Y',H',I.unwish,q⟩
 |brk=>obtain⟨Y',H',I,q⟩:=h;exact⟨Y',H',I.unwish,q⟩
 |cont=>obtain⟨Y',H',I,q⟩:=h;exact⟨Y',H',I.unwish,q⟩
 |ret u=>obtain⟨v,Y',H',I,r,q⟩:=h;exact⟨v,Y',H',I.unwish,r,q⟩
theorem PE.nox{t:TE}(h:PE X.nox e t):PE X e t:=λpI s Y H Q I hw=>
 Bj (h pI s Y H Q (I.wish _) hw) (λ_ _ ⟨v,H',I',r,q⟩=>⟨v,H',I'.unwish,r,q⟩) λ_ _ z=>A7 z
theorem PT.nox(h:PT X.nox e t):PT X e t:=λpI s Y H Q I hw=>
 Bj (h pI s Y H Q (I.wish _) hw) (λ_ _ ⟨H',I',q⟩=>⟨H',I'.unwish,q⟩) λ_ _ z=>A7 z
theorem yp.nox{st:Ac AL}{t:TS}(h:yp X.nox st t):yp X st t:=λpI s Y H D I hw=>
 Bj (h pI s Y H D (I.wish _) hw) (λ_ _ q=>q.unwish) λ_ _ z=>A7 z
end
section
variable{X:Cx}{st:AL}{rest:Ac AL}{t u:TS}{e:Aq}{te:TE}{pos:AF}
def HK:TS:=λD Y H=>D.nx Y H
def RO(t u:TS):TS:=λD Y H=>t {D with nx:=u D} Y H
theorem GV:yp X [] HK:=λ_ _ Y H _ I h=>GQ ⟨Y,H,I,h⟩
theorem B9(h1:PS X st t)(h2:yp X rest u):yp X (st::rest) (RO t u):=by
 intro pI s Y H D I h;refine ZX (U4 (h1 pI s Y H {D with nx:=u D} I h) λf s1 q=>?_)
 cases f with
 |next=>
  obtain⟨Y',H',I',q⟩:=q;exact h2 pI s1 Y' H' D I' q
 |ret v=>exact q
 |brk=>exact q
 |cont=>exact q
theorem DT(h1:PS X st t):yp X [st] t:=by
 intro pI s Y H D I h;refine ZX (U4 (h1 pI s Y H D I h) λf s1 q=>?_)
 cases f with
 |next=>exact GQ q
 |ret v=>exact q
 |brk=>exact q
 |cont=>exact q
theorem Z8.quiet(I:Z8 X pI Y H s):interactive X.env=Af:=by simp[interactive,I.ok.kind]
def Q3(te:TE):TS:=λD Y H=>te Y H λ_ H1=>D.nx Y H1
theorem Kc(he:PE X e te)(hs:Dq e Ae pos.line X.env=pure Af:=by rfl):PS X (.Expr e pos) (Q3 te):=by
 intro pI s Y H D I h;exact wpAny_Expr_any (U4 (he pI s Y H _ I h) λv s1 ⟨x,H1,I1,r1,q1⟩=>⟨Y,H1,I1,q1⟩) I.quiet hs
def RP(te:TE):TS:=λD Y H=>te Y H D.rt
theorem Hi(he:PE X e te):PS X (.Return (Aa e) pos) (RP te):=by
 intro pI s Y H D I h;exact wpAny_Return_some (U4 (he pI s Y H _ I h) λv s1 ⟨x,H1,I1,r1,q1⟩=>⟨x,Y,H1,I1,r1,q1⟩)
def yM(c:TT)(t u:TS):TS:=λD Y H=>c Y H λb H1=>if b=Ab then t D Y H1 else u D Y H1
theorem FJ{c:Aq}{a b:Ac AL}{tc:TT}(hc:PT X c tc)(ha:yp X a t)(hb:yp X b u):PS X (.If c a b pos) (yM tc t u):=by
 intro pI s Y H D I h;refine wpAny_If (U4 (hc pI s Y H _ I h) λd s1 ⟨H1,I1,q1⟩=>?_)
 cases d with
 |true=>exact ha pI s1 Y H1 D I1 q1
 |false=>exact hb pI s1 Y H1 D I1 q1
def lW:TS:=λ_ _ _=>AM
theorem Js{wb:Ac AL}:yp X wb lW:=λ_ _ _ _ _ _ h=>h.elim
end
abbrev TG:=V->St->Hp->(St->Hp->Prop)->Prop
abbrev TGs:=Ac V->St->Hp->(St->Hp->Prop)->Prop
noncomputable def PG(X:Cx)(target:Aq)(t:TG):Prop:=
 ∀(pI:Pn)(s:Ar)(Y:St)(H:Hp)(v:V)(u:Al)(Q:St->Hp->Prop),Z8 X pI Y H s->Bt v u->t v Y H Q ->
  AA (model X.prog X.w) X.A (assign target X.env u) (λ_ s'=>∃ Y' H',Z8 X pI Y' H' s'/\Q Y' H') X.xe s
noncomputable def gi(X:Cx)(ts:Ac Aq)(t:TGs):Prop:=
 ∀(pI:Pn)(s:Ar)(Y:St)(H:Hp)(vs:Ac V)(us:Ac Al)(Q:St->Hp->Prop),Z8 X pI Y H s->A1 vs us->t vs Y H Q ->
  AA (model X.prog X.w) X.A (assignInOrder ((Cy ts X.env).map (·.2)) us) (λ_ s'=>∃ Y' H',Z8 X pI Y' H' s'/\Q Y' H') X.xe s
section
variable{X:Cx}{pos:AF}
def G0(i:Ag):TG:=λv Y H Q=>Q (Y.set i (Aa v)) H
theorem MX(hN:X.N.Nodup)(hi:X.N[i]?=Aa x)(hx:qc X.env.scope x)(hf:X.fn x=Ab\/X.env.scope.names.lookup x=Aa .local:=by first|exact .inl rfl|exact .inr rfl|assumption):PG X (.Name x pos) (G0 i):=by
 intro pI s Y H v u Q I r h;exact ZV (P1 I hN hi hx r (λs' I'=>⟨_,H,I',h⟩) hf)
def Ly:TGs:=λvs Y H Q=>vs=[]/\Q Y H
def Lm(t:TG)(u:TGs):TGs:=λvs Y H Q=>∃ v r,vs=v::r/\t v Y H λY' H'=>u r Y' H' Q
theorem iR:gi X [] Ly:=by
 intro pI s Y H vs us Q I r h;obtain⟨e,h⟩:=h;subst e;cases r;exact assignInOrder_nil ⟨Y,H,I,h⟩
theorem eQ{t:TG}{u:TGs}(h1:PG X e t)(h2:gi X es u)(hs:(Cy (e::es) X.env).map (·.2)=assign e X.env::(Cy es X.env).map (·.2):=by rfl):gi X (e::es) (Lm t u):=by
 intro pI s Y H vs us Q I r h;obtain⟨v,vr,e1,h⟩:=h;subst e1;cases r with
 |cons r rr=>
  rw[hs];refine assignInOrder_cons (U4 (h1 pI s Y H _ _ _ I r h) λ_ s1 ⟨Y1,H1,I1,q1⟩=>?_)
  exact h2 pI s1 Y1 H1 _ _ Q I1 rr q1
def OY(K:Fg)(n:Ag)(t:TGs):TG:=λv Y H Q=>∃ a xs,v=.ref a/\yy K H a xs/\xs.length=n/\t xs Y H Q
theorem VB{t:TGs}(hc:X.calm=Ab)(h:gi X es t)(hn:(Cy es X.env).length=n:=by rfl)(yu:(Cy es X.env).findIdx? (·.1)=Ae:=by rfl):PG X (.Tuple es k pos) (OY X.K n t):=by
 intro pI s Y H v u Q I r hw;obtain⟨a,xs,e1,hq,hl,hw⟩:=hw;subst e1;cases r;obtain⟨its,rv,ht,hz⟩:=I.tuple hq;refine assign_Tuple_tuple (I.ok.hd hc) ht (by simp[hn,<-hl,rv.length]) yu λh' hx=>?_
 have I1:Z8 X pI Y H {s with heap:=h'}:=I.kept (t':=s.toks) λb o e=>hx b o (BB (AS e)) e
 exact h pI _ Y H xs _ Q I1 (by simpa using rv) hw
def O6(te:TE)(g:TG):TS:=λD Y H=>te Y H λx H1=>g x Y H1 D.nx
theorem oP{g:TG}(he:PE X e te)(hg:PG X tg g)(hs:JV [tg] e pos.line X.env=pure Af:=by rfl)(hw:HE [tg] e X.env=pure Ae:=by rfl)(h1:(Cy [tg] X.env).map (·.2)=[assign tg X.env]:=by rfl):PS X (.Assign [tg] e pos) (O6 te g):=by
 intro pI s Y H D I h;refine wpAny_Assign_stores (U4 (he pI s Y H _ I h) λv s1 ⟨x,H1,I1,r1,q1⟩=>?_) hs hw
 rw[h1];exact U4 (hg pI s1 Y H1 x v _ I1 r1 q1) λ_ s2 q=>q
theorem EE{pos':AF}(hN:X.N.Nodup)(hi:X.N[i]?=Aa x)(hx:qc X.env.scope x)(he:PE X e te)(hs:Dq e (Aa (.Name x pos')) pos.line X.env=pure Af:=by rfl)(hf:X.fn x=Ab\/X.env.scope.names.lookup x=Aa .local:=by first|exact .inl rfl|exact .inr rfl|assumption):PS X (.Assign [.Name x pos'] e pos) (O6 te (G0 i)):=by
 intro pI s Y H D I h;refine wpAny_Assign_Name (U4 (he pI s Y H _ I h) λv s1 ⟨y,H1,I1,r1,q1⟩=>?_) hs
 exact P1 I1 hN hi hx r1 (λs2 I2=>⟨_,H1,I2,q1⟩) hf
end
section
variable{X:Cx}{pos:AF}
end
structure It where
 go:Ag->Hp->Prop
 yld:Ag->Hp->V->Hp->Prop
 stop:Ag->Hp->Prop
noncomputable def IS(X:Cx)(pI:Pn)(H:Hp)(b:Ak):Prop:=
 H b=Ae/\b≠X.env.locals/\b∉X.fs/\(b∈X.ex\/X.s₀.heap.objs.size<=b)/\(∀ x c,X.env.cells.lookup x=Aa c->c≠b)/\∀ p∈X.pn++pI,p.1≠b
theorem Z8.fpOk{H':Hp}(I:Z8 X pI Y H s)(hb:s.heap.objs.size<=b)(hn:H' b=Ae):IS X pI H' b:=by
 refine⟨hn,Yi (AZ I.lt hb),I.nofs hb,.inr (B8 I.sz hb),λx c e z=>?_,λp hp z=>?_⟩
 .obtain⟨v,q⟩:=I.cell x c e;exact absurd (AZ q.lt (by rw[z];exact hb)) (BG _)
 .exact absurd (AZ (AS (I.pin p hp).1) (by rw[z];exact hb)) (BG _)
structure qu (P:AK) (w:AI) (K:Fg) (tg:Aq) (J:It) (fp:Ac Ak) (it:Ak) (tn:Ag->AJ->Prop):Prop where
 mem:it∈fp
 obj:∀ i h,tn i h->∀ b∈fp,∃ o,h.get? b=Aa o/\∀ v,o.data≠.cell v
 keep:∀ i h h',tn i h->(∀ b∈fp,∀ o,h.get? b=Aa o->h'.get? b=Aa o)->tn i h'
 item:∀(X:Cx),X.prog=P->X.w=w->X.K=K->X.calm=Ab->∀(i:Ag)(pI:Pn)(s:Ar)(Y:St)(H:Hp)(E:Vq),Z8 X pI Y H s->(∀ b∈fp,IS X pI H b)->tn i s.heap->J.go i H ->
  AA (model P w) X.A (MD (.ref it)) (λr s1=>∃ u,r=Aa u /\
   AA (model P w) X.A (GO tg (.ref it) u) (λ_ s2=>∃ x H',Z8 X pI Y H' s2/\Bt x u/\J.yld i H x H'/\tn (i+1) s2.heap/\∀ b∈fp,H' b=Ae) E s1) E s
 done:∀(X:Cx),X.prog=P->X.w=w->X.K=K->X.calm=Ab->∀(i:Ag)(pI:Pn)(s:Ar)(Y:St)(H:Hp)(E:Vq),Z8 X pI Y H s->(∀ b∈fp,IS X pI H b)->tn i s.heap->J.stop i H ->
  AA (model P w) X.A (MD (.ref it)) (λr s1=>r=Ae/\Z8 X pI Y H s1) E s
 self:∀(A:A4)(i:Ag)(s:Ar)(Q:Vq)(E:Vq),tn i s.heap->Q (.ref it) s->AA (model P w) A (pyIter (.ref it)) Q E s
abbrev TI:=St->Hp->(It->Hp->Prop)->Prop
noncomputable def PIE(X:Cx)(pI:Pn)(Y:St)(tg:Aq)(R:It->Hp->Prop)(Î:Al)(s2:Ar):Prop:=
 ∃(it:Ak)(fp:Ac Ak)(tn:Ag->AJ->Prop)(J:It)(H':Hp),Î=.ref it/\Z8 X pI Y H' s2/\qu X.prog X.w X.K tg J fp it tn/\tn 0 s2.heap/\(∀ b∈fp,IS X pI H' b)/\R J H'
noncomputable def PI(X:Cx)(tg iter:Aq)(wi:TI):Prop:=
 ∀(pI:Pn)(s:Ar)(Y:St)(H:Hp)(R:It->Hp->Prop),Z8 X pI Y H s->wi Y H R ->
  AA (model X.prog X.w) X.A (eval iter X.env) (λv s1=>AA (model X.prog X.w) X.A (pyIter v) (PIE X pI Y tg R) X.xe s1) X.xe s
theorem Rk{A:A4}{E:Vq}{n:CQ}{vs:Bl Al}(ho:s.heap.get? it=Aa o)(hc:o.cls=.type n)(hd:o.data=.fields vs)(hn:["enumerate", "zip", "dict_itemiterator", "dict_reverseitemiterator", "odict_iterator", "itertools.zip_longest", "itertools.pairwise"].contains n=Af)(hQ:Q () s):AA M A (GO tg (.ref it) u) Q E s:=by
  unfold GO;cases tg<;>first
    |exact A2 hQ
    | (cases u<;>first
        |exact A2 hQ
        | (refine As (wpAny_load ho ?_)
           rw[hc,hd];show AA M A (if (["enumerate", "zip", "dict_itemiterator", "dict_reverseitemiterator", "odict_iterator", "itertools.zip_longest", "itertools.pairwise"].contains n&&vs[0]? == Aa (HA _))=Ab then _ else _) Q E s
           rw[Ay (by intro h;rw[hn,Bool.false_and]at h;cases h)]
           exact A2 hQ))
noncomputable def Itl(K:Fg)(a:Ak):It:=
 ⟨λi H=>∃ xs x,Id K H a xs/\xs[i]?=Aa x,λi H x H'=>H'=H/\∀ xs,Id K H a xs->xs[i]?=Aa x,λi H=>∃ xs,Id K H a xs/\xs.length<=i⟩
noncomputable def Itt(K:Fg)(a:Ak):It:=
 ⟨λi H=>∃ xs x,yy K H a xs/\xs[i]?=Aa x,λi H x H'=>H'=H/\∀ xs,yy K H a xs->xs[i]?=Aa x,λi H=>∃ xs,yy K H a xs/\xs.length<=i⟩
noncomputable def ñ(lo:Ai)(n:Ag):It:=⟨λi _=>i<n,λi H x H'=>H'=H/\x=.int (lo+i),λi _=>n<=i⟩
theorem aX{w:AI}{K:Fg}(a it:Ak):qu P w K tg (Itl K a) [it] it (λi h=>h.IsListIter it a i) where
  mem:=by simp
  obj:=λi h st b hb=>by
    have e:b=it:=by simpa using hb
    subst e;obtain⟨o,e,c,d⟩:=st;exact⟨o,e,λv z=>by rw[d]at z;cases z⟩
  keep:=λi h h' st k=>st.at λo e=>k it (by simp) o e
  item:=by
    intro X hP hw hK hc i pI s Y H E I hf st hg;subst hP hw hK;obtain⟨xs,x,hq,hx⟩:=hg;obtain⟨its,rv,p,hz⟩:=I.list hq;obtain⟨u,hu,ru⟩:=rv.get hx;obtain⟨f0,f1,f2,f3,f4,f5⟩:=hf it (by simp)
    refine Z_1 st p.isList (x:=u) (by simpa using hu) λh' t4 sb=>?_
    have I1:Z8 X pI Y H {s with heap:=h'}:=I.turned (t':=s.toks) (λb o hb e=>(sb.2 b hb).trans e) f0 f1 f3 f4 f5
    obtain⟨o,e,c,d⟩:=id t4;exact⟨u,rfl,Rk (s:={s with heap:=h'}) e c d (by decide) ⟨x,H,I1,ru,⟨rfl,λys hy=>by rw[I.list_inj hy hq];exact hx⟩,t4,λb hb=>(hf b hb).1⟩⟩
  done:=by
    intro X hP hw hK hc i pI s Y H E I hf st hg;subst hP hw hK;obtain⟨xs,hq,hx⟩:=hg;obtain⟨its,rv,p,hz⟩:=I.list hq;obtain⟨f0,f1,f2,f3,f4,f5⟩:=hf it (by simp)
    have hl:=rv.length;exact Z_0 (I.ok.hd hc) st p.isList (by simp;omega) λh' eb=>⟨rfl,I.turned (t':=s.toks) (λb o hb e=>eb b o hb e) f0 f1 f3 f4 f5⟩
  self:=λ_ _ _ _ _ st h=>wpAny_pyIter_listiter st h
theorem bA{w:AI}{K:Fg}(a it:Ak):qu P w K tg (Itt K a) [it] it (λi h=>h.IsTupleIter it a i) where
  mem:=by simp
  obj:=λi h st b hb=>by
    have e:b=it:=by simpa using hb
    subst e;obtain⟨o,e,c,d⟩:=st;exact⟨o,e,λv z=>by rw[d]at z;cases z⟩
  keep:=λi h h' st k=>st.at λo e=>k it (by simp) o e
  item:=by
    intro X hP hw hK hc i pI s Y H E I hf st hg;subst hP hw hK;obtain⟨xs,x,hq,hx⟩:=hg;obtain⟨its,rv,p,hz⟩:=I.tuple hq;obtain⟨u,hu,ru⟩:=rv.get hx;obtain⟨f0,f1,f2,f3,f4,f5⟩:=hf it (by simp)
    refine wpAny_pyNext_tuple_item st (show s.heap.IsTuple a its.toArray from p) (x:=u) (by simpa using hu) λh' t4 sb=>?_
    have I1:Z8 X pI Y H {s with heap:=h'}:=I.turned (t':=s.toks) (λb o hb e=>(sb.2 b hb).trans e) f0 f1 f3 f4 f5
    obtain⟨o,e,c,d⟩:=id t4;exact⟨u,rfl,Rk (s:={s with heap:=h'}) e c d (by decide) ⟨x,H,I1,ru,⟨rfl,λys hy=>by rw[I.tuple_inj hy hq];exact hx⟩,t4,λb hb=>(hf b hb).1⟩⟩
  done:=by
    intro X hP hw hK hc i pI s Y H E I hf st hg;subst hP hw hK;obtain⟨xs,hq,hx⟩:=hg;obtain⟨its,rv,p,hz⟩:=I.tuple hq;obtain⟨f0,f1,f2,f3,f4,f5⟩:=hf it (by simp)
    have hl:=rv.length;exact wpAny_pyNext_tuple_end (I.ok.hd hc) st (show s.heap.IsTuple a its.toArray from p) (by simp;omega) λh' eb=>⟨rfl,I.turned (t':=s.toks) (λb o hb e=>eb b o hb e) f0 f1 f3 f4 f5⟩
  self:=λ_ _ _ _ _ st h=>wpAny_pyIter_tupleiter st h
theorem bB{w:AI}{K:Fg}(it:Ak)(lo:Ai)(n:Ag):qu P w K tg (ñ lo n) [it] it (λi h=>IsRangeIter h it (lo+(i:Ag)*1) ((n:Ai)-(i:Ag)) 1) where
  mem:=by simp
  obj:=λi h st b hb=>by
    have e:b=it:=by simpa using hb
    subst e;exact⟨_,st,λv z=>by
      have z':Data.fields _=Mv v:=z;cases z'⟩
  keep:=λi h h' st k=>k it (by simp) _ st
  item:=by
    intro X hP hw hK hc i pI s Y H E I hf st hg;subst hP hw hK;obtain⟨f0,f1,f2,f3,f4,f5⟩:=hf it (by simp)
    have W:=Walks.range (prog:=X.prog) (w:=X.w) (I.ok.hd hc) it lo 1 n;refine W.item i s _ _ hg st λv h' tk hv t4 kk=>?_
    obtain⟨t,rfl⟩:=hv;have I1:Z8 X pI Y H {s with heap:=h',toks:=tk}:=I.turned (λb o hb e=>kk b o (by simpa using hb) e) f0 f1 f3 f4 f5
    refine⟨_,rfl,Rk (s:={s with heap:=h',toks:=tk}) (n := "range_iterator") t4 rfl rfl (by decide) ⟨.int (lo+i),H,I1,⟨t,?_⟩,⟨rfl,rfl⟩,t4,λb hb=>(hf b hb).1⟩⟩
    rw[XD]
  done:=by
    intro X hP hw hK hc i pI s Y H E I hf st hg;subst hP hw hK;obtain⟨f0,f1,f2,f3,f4,f5⟩:=hf it (by simp)
    exact wpAny_pyNext_range_end (I.ok.hd hc) st (by have:n<=i:=hg;omega) λh' eb=>⟨rfl,I.turned (t':=s.toks) (λb o hb e=>eb b o hb e) f0 f1 f3 f4 f5⟩
  self:=λ_ _ _ _ _ st h=>wpAny_pyIter_rangeiter st h
section
variable{X:Cx}{tg:Aq}
theorem TW{R:It->Hp->Prop}{E:Vq}{lo hi:Ai}{t u v:Ce}{tk:Ag}(I:Z8 X pI Y H s)(h1:-(2 ^ 62)<=lo)(h2:lo<2 ^ 62)(h3:-(2 ^ 62)<=hi)(h4:hi<2 ^ 62)(q:R (ñ lo (hi-lo).toNat) H):AA (model X.prog X.w) X.A (pyIter (.ref s.heap.objs.size)) (PIE X pI Y tg R) E { s with heap:=s.heap.push { cls:=.type "range",data:=.fields #[.int lo t,.int hi u,.int 1 v] },toks:=tk }:=by
 refine wpAny_pyIter_range (IsRange.new ..) (small_one h1 h2 h3 h4) ?_;have I1:Z8 X pI Y H { s with heap:=s.heap.push { cls:=.type "range",data:=.fields #[.int lo t,.int hi u,.int 1 v] },toks:=tk }:=I.kept λb o e=>AB _ e
 refine⟨(s.heap.push { cls:=.type "range",data:=.fields #[.int lo t,.int hi u,.int 1 v] }).objs.size,[(s.heap.push { cls:=.type "range",data:=.fields #[.int lo t,.int hi u,.int 1 v] }).objs.size],_,_,H,rfl,
  I1.kept (t':=tk) λb o e=>AB _ e,bB _ lo (hi-lo).toNat,?_,λb hb=>?_,q⟩
 .have e1:lo+((0:Ag):Ai)*1=lo:=by simp
  have e2:(((hi-lo).toNat:Ag):Ai)-((0:Ag):Ai)=Builtin.Range.rangeSize lo hi 1:=by rw[rangeSize_one];split<;>omega
  show IsRangeIter _ _ (lo+((0:Ag):Ai)*1) ((((hi-lo).toNat:Ag):Ai)-((0:Ag):Ai)) 1;rw[e1,e2];exact Bp _ rfl
 .have e:b=(s.heap.push { cls:=.type "range",data:=.fields #[.int lo t,.int hi u,.int 1 v] }).objs.size:=by simpa using hb
  subst e;exact I1.fpOk (AU _) (I1.hok.fresh (AU _))
def uY(ta:TA):TI:=λY H R=>ta Y H λvs H1=>∃ j:Ai,vs=[.int j]/\-(2 ^ 62)<=j/\j<2 ^ 62/\R (ñ 0 j.toNat) H1
def uX(ta:TA):TI:=λY H R=>ta Y H λvs H1=>∃ i j:Ai,vs=[.int i,.int j]/\(-(2 ^ 62)<=i/\i<2 ^ 62/\-(2 ^ 62)<=j/\j<2 ^ 62)/\R (ñ i (j-i).toNat) H1
theorem bR{a:Aq}(hg:Gl X "range")(hm:X.mg "range" = Ae)(ha:PA X [a] ta)(hs:Aw [a] X.env=[(Af,eval a X.env)]:=by rfl):PI X tg (.Call (.Name "range" p) [a] [] pos) (uY ta):=by
 intro pI s Y H R I h;refine Call_ (M9 I hg hm boot_range (EI (U4 (ha pos pI s Y H _ I h) λus s1 ⟨vs,H1,I1,r1,q1⟩=>?_) hs rfl))
 obtain⟨j,e,q1,q2,q⟩:=q1;subst e;cases r1 with
 |cons r rr=>
  cases rr;obtain⟨t,rfl⟩:=r;exact call_range_1 (TW I1 (by omega) (by omega) q1 q2 (by simpa using q))
theorem Tt{a b:Aq}(hg:Gl X "range")(hm:X.mg "range" = Ae)(ha:PA X [a,b] ta)(hs:Aw [a,b] X.env=[(Af,eval a X.env),(Af,eval b X.env)]:=by rfl)(o7:Aw [b] X.env=[(Af,eval b X.env)]:=by rfl):
  PI X tg (.Call (.Name "range" p) [a,b] [] pos) (uX ta):=by
 intro pI s Y H R I h;refine Call_ (M9 I hg hm boot_range (EI (U4 (ha pos pI s Y H _ I h) λus s1 ⟨vs,H1,I1,r1,q1⟩=>?_) (by rw[hs,o7]) (by rw[o7];rfl)))
 obtain⟨i,j,e,⟨q1,q2,q3,q4⟩,q⟩:=q1;subst e;cases r1 with
 |cons r rr=>
  cases rr with
  |cons r' rr=>
   cases rr;obtain⟨t,rfl⟩:=r;obtain⟨t',rfl⟩:=r';exact call_range_2 (TW I1 q1 q2 q3 q4 q)
def yN(wi:TI)(g:TG)(tb:TS):TS:=λD Y H=>wi Y H λJ H1=>∃ W:Ag->Ag->St->Hp->Prop,(∃ m,W 0 m Y H1)/\∀ i m Y H,W i m Y H ->
 (J.stop i H/\D.nx Y H)\/(J.go i H/\∃ N:St->Hp->Prop,(∀ Y' H',N Y' H'->∃ m',m'<m/\W (i+1) m' Y' H')/\∀ x H',J.yld i H x H'->g x Y H' λY2 H2=>tb {D with nx:=N,ct:=N,bk:=D.nx} Y2 H2)
noncomputable def Lb(fp:Ac Ak)(h:AJ):Pn:=fp.filterMap λb=>(h.get? b).map λo=>(b,o)
theorem NP(hb:b∈fp)(e:h.get? b=Aa o):(b,o)∈Lb fp h:=List.mem_filterMap.mpr ⟨b,hb,by rw[e];rfl⟩
theorem Tu{p:Ak×CW}(hp:p∈Lb fp h):p.1∈fp/\h.get? p.1=Aa p.2:=by
 obtain⟨b,hb,e⟩:=List.mem_filterMap.mp hp;cases q:h.get? b with
 |none=>rw[q]at e;cases e
 |some o=>
  rw[q]at e;have e':(b,o)=p:=BD e;subst e';exact⟨hb,q⟩
theorem Z8.pinned(I:Z8 X pI Y H s)(hf:∀ b∈fp,IS X pI H b)(ho:∀ b∈fp,∃ o,s.heap.get? b=Aa o/\∀ v,o.data≠.cell v):Z8 X (pI++Lb fp s.heap) Y H s:=
 I.pins_of λp hp=>(Eh.mp hp).elim (λz=>I.pin p (Bq _ z)) λz=>by
  obtain⟨hb,e⟩:=Tu z;obtain⟨f0,f1,f2,_⟩:=hf p.1 hb;obtain⟨o,e',d⟩:=ho p.1 hb;rw[e]at e';cases e';exact⟨e,f0,f1,f2,d⟩
theorem Z8.unpinned{pl:Pn}(I:Z8 X (pI++pl) Y H s):Z8 X pI Y H s:=I.pins_of λp hp=>I.pin p (Bq _ (EN _ hp))
theorem VA{iter:Aq}{wi:TI}{g:TG}{tb:TS}(hp:FE (model X.prog X.w) X.A X.env X.xe)(hc:X.calm=Ab)(hi:PI X tg iter wi)(hg:PG X tg g)(hb:yp X body tb)(hs:∀ x,CZ iter X.env x=pure x:=by intro _;rfl):PS X (.For tg iter body [] pos) (yN wi g tb):=by
 intro pI s Y H D I h;refine wpAny_For (U4 (hi pI s Y H _ I h) λv s1 h1=>U4 h1 λÎ s2 h2=>?_) hs
 obtain⟨it,fp,tn,J,H2,e,I2,T,st2,f2,W,⟨m0,w0⟩,turn⟩:=h2;subst e
 have lu:∀{H':Hp},(∀ b∈fp,H' b=Ae)->∀ b∈fp,IS X pI H' b:=λhn b hb=>⟨hn b hb,(f2 b hb).2⟩
 refine codeAny_forLoop_any (λn s'=>∃ i Y' H',Z8 X pI Y' H' s'/\tn i s'.heap/\(∀ b∈fp,H' b=Ae)/\W i n Y' H') ?_ m0 ⟨0,Y,H2,I2,st2,λb hb=>(f2 b hb).1,w0⟩
 rintro n s3 ⟨i,Y3,H3,I3,st3,fr3,w3⟩;rcases turn i n Y3 H3 w3 with ⟨stop,qn⟩|⟨go,N,hN,step⟩
 .refine Fx hp (U4 (T.done X rfl rfl rfl hc i pI s3 Y3 H3 X.xe I3 (lu fr3) st3 stop) λr s4 ⟨hr,I4⟩=>?_)
  subst hr;exact GQ ⟨Y3,H3,I4,qn⟩
 .refine Fx hp (U4 (T.item X rfl rfl rfl hc i pI s3 Y3 H3 X.xe I3 (lu fr3) st3 go) λr s4 ⟨u,hr,h4⟩=>?_)
  subst hr;refine Fx hp (U4 h4 λ_ s5 ⟨x,H5,I5,r5,y5,lr,fr5⟩=>?_)
  have gc:=I5.pinned (lu fr5) (T.obj _ _ lr);refine Fx hp (U4 (hg _ s5 Y3 H5 x u _ gc r5 (step x H5 y5)) λ_ s6 ⟨Y6,H6,I6,q6⟩=>?_)
  refine Fx hp (U4 (hb _ s6 Y6 H6 _ I6 q6) λf s7 q7=>?_)
  have again:∀{Y7:St}{H7:Hp},Z8 X (pI++Lb fp s5.heap) Y7 H7 s7->N Y7 H7->∃ m,m<n/\∃ i Y' H',Z8 X pI Y' H' s7/\tn i s7.heap/\(∀ b∈fp,H' b=Ae)/\W i m Y' H':=λ{Y7 H7} I7 n7=>by
   obtain⟨m',hm,w7⟩:=hN Y7 H7 n7;refine⟨m',hm,i+1,Y7,H7,I7.unpinned,T.keep _ _ _ lr λb hb o e=>(I7.pin (b,o) (Bq _ (Bq _ (NP hb e)))).1,λb hb=>?_,w7⟩
   obtain⟨o,e,d⟩:=T.obj _ _ lr b hb;exact(I7.pin (b,o) (Bq _ (Bq _ (NP hb e)))).2.1
  cases f with
  |next=>obtain⟨Y7,H7,I7,n7⟩:=q7;exact again I7 n7
  |cont=>obtain⟨Y7,H7,I7,n7⟩:=q7;exact again I7 n7
  |brk=>obtain⟨Y7,H7,I7,q7⟩:=q7;exact⟨Y7,H7,I7.unpinned,q7⟩
  |ret v=>obtain⟨x7,Y7,H7,I7,r7,q7⟩:=q7;exact⟨x7,Y7,H7,I7.unpinned,r7,q7⟩
end
abbrev R2:=V->V->Hp->VK->Prop
variable{r:R2}
noncomputable def zd(X:Cx)(f:Al->Al->Fe Al)(r:R2):Prop:=
 ∀(pI:Pn)(s:Ar)(Y:St)(H:Hp)(x y:V)(v u:Al)(Q:VK),Z8 X pI Y H s->Bt x v->Bt y u->r x y H Q ->
  AA (model X.prog X.w) X.A (f v u) (EP X pI Y Q) X.xe s
noncomputable def UnR(X:Cx)(f:Al->Fe Al)(r:V->Hp->VK->Prop):Prop:=
 ∀(pI:Pn)(s:Ar)(Y:St)(H:Hp)(x:V)(v:Al)(Q:VK),Z8 X pI Y H s->Bt x v->r x H Q ->
  AA (model X.prog X.w) X.A (f v) (EP X pI Y Q) X.xe s
noncomputable def Gs(X:Cx)(f:Al)(r:Ac V->Hp->VK->Prop):Prop:=
 ∀(pI:Pn)(s:Ar)(Y:St)(H:Hp)(xs:Ac V)(us:Ac Al)(Q:VK),Z8 X pI Y H s->A1 xs us->r xs H Q ->
  AA (model X.prog X.w) X.A (call f us) (EP X pI Y Q) X.xe s
noncomputable def zL(X:Cx)(r:V->Hp->(An->Hp->Prop)->Prop):Prop:=
 ∀(pI:Pn)(s:Ar)(Y:St)(H:Hp)(x:V)(v:Al)(Q:An->Hp->Prop),Z8 X pI Y H s->Bt x v->r x H Q ->
  AA (model X.prog X.w) X.A (truthy v) (TP X pI Y Q) X.xe s
def ç(r:R2)(ta tb:TE):TE:=λY H Q=>ta Y H λx H1=>tb Y H1 λy H2=>r x y H2 Q
def tUn(r:V->Hp->VK->Prop)(ta:TE):TE:=λY H Q=>ta Y H λx H1=>r x H1 Q
def rI(C:Ai->Ai->Prop)(g:Ai->Ai->V):R2:=λx y H Q=>∃ i j,x=.int i/\y=.int j/\C i j/\Q (g i j) H
def pi(g:Ai->Ai->V):R2:=λx y H Q=>∃ i j,x=.int i/\y=.int j/\Q (g i j) H
def rU(g:Ai->V):V->Hp->VK->Prop:=λx H Q=>∃ i,x=.int i/\Q (g i) H
section
variable{X:Cx}{a b c:Aq}{ta tb tc:TE}{pos:AF}
theorem R9(ha:PE X a ta)(hb:PE X b tb){R:V->V->Hp->Prop}(I:Z8 X pI Y H s)(h:ta Y H λx H1=>tb Y H1 λy H2=>R x y H2){Q:Vq}(hf:∀ v u s2 x y H2,Z8 X pI Y H2 s2->Bt x v->Bt y u->R x y H2->AA (model X.prog X.w) X.A (f v u) Q X.xe s2):AA (model X.prog X.w) X.A (eval a X.env) (λv s₁=>AA (model X.prog X.w) X.A (eval b X.env) (λu s₂=>AA (model X.prog X.w) X.A (f v u) Q X.xe s₂) X.xe s₁) X.xe s:=by
 refine U4 (ha pI s Y H _ I h) λv s1 ⟨x,H1,I1,r1,q1⟩=>?_
 refine U4 (hb pI s1 Y H1 _ I1 q1) λu s2 ⟨y,H2,I2,r2,q2⟩=>?_
 exact hf v u s2 x y H2 I2 r1 r2 q2
theorem V1{op:Gk}(ho:zd X (Cf op) r)(ha:PE X a ta)(hb:PE X b tb):PE X (.BinOp a op b pos) (ç r ta tb):=by
 intro pI s Y H Q I h;exact wpAny_BinOp (R9 ha hb I h λv u s2 x y H2 I2 rx ry q=>ho pI s2 Y H2 x y v u Q I2 rx ry q)
theorem wW{op:KY}{r:V->Hp->VK->Prop}(ho:UnR X (unaryOp op) r)(ha:PE X a ta):PE X (.UnaryOp op a pos) (tUn r ta):=by
 intro pI s Y H Q I h;exact UnaryOp_ (U4 (ha pI s Y H _ I h) λv s1 ⟨x,H1,I1,r1,q1⟩=>ho pI s1 Y H1 x v Q I1 r1 q1)
theorem Ö{C:Ai->Ai->Prop}(rule:∀(i j:Ai)(t u:Ce)(s:Ar)(Q:Vq)(E:Vq),C i j->Q (.int (g i j) s.toks) {s with toks:=s.toks+1}->AA (model X.prog X.w) X.A (f (.int i t) (.int j u)) Q E s):zd X f (rI C λi j=>.int (g i j)):=by
 intro pI s Y H x y v u Q I rx ry h;obtain⟨i,j,rfl,rfl,hc,q⟩:=h;obtain⟨t,rfl⟩:=rx;obtain⟨t',rfl⟩:=ry;exact rule i j t t' s _ _ hc ⟨.int (g i j),H,I.tok _,⟨_,rfl⟩,q⟩
theorem W3(rule:∀(i j:Ai)(t u:Ce)(s:Ar)(Q:Vq)(E:Vq),Q (.int (g i j) s.toks) {s with toks:=s.toks+1}->AA (model X.prog X.w) X.A (f (.int i t) (.int j u)) Q E s):zd X f (pi λi j=>.int (g i j)):=by
 intro pI s Y H x y v u Q I rx ry h;obtain⟨i,j,rfl,rfl,q⟩:=h;obtain⟨t,rfl⟩:=rx;obtain⟨t',rfl⟩:=ry;exact rule i j t t' s _ _ ⟨.int (g i j),H,I.tok _,⟨_,rfl⟩,q⟩
theorem Pa{g:Ai->Ai->An}(rule:∀(i j:Ai)(t u:Ce)(s:Ar)(Q:Vq)(E:Vq),Q (.bool (g i j)) s->AA (model X.prog X.w) X.A (f (.int i t) (.int j u)) Q E s):zd X f (pi λi j=>.bl (g i j)):=by
 intro pI s Y H x y v u Q I rx ry h;obtain⟨i,j,rfl,rfl,q⟩:=h;obtain⟨t,rfl⟩:=rx;obtain⟨t',rfl⟩:=ry;exact rule i j t t' s _ _ ⟨.bl (g i j),H,I,rfl,q⟩
def zQ(i j:Ai):Prop:=0<j/\j<1073741824
def zP(i j:Ai):Prop:=0<=j/\j<=1000000/\i.natAbs<2 ^ 64
def Pe(i j:Ai):Prop:=(-(2 ^ 64)<i/\i<2 ^ 64)\/(-(2 ^ 64)<j/\j<2 ^ 64)
theorem Pe.ok{i j:Ai}(h:Pe i j):MA i j:=by
 rcases h with ⟨h1,h2⟩|⟨h1,h2⟩
 .exact .of_left (intBits_le_64 h1 h2)
 .exact .of_right (intBits_le_64 h1 h2)
theorem qV:zd X (Cf .Add) (pi λi j=>.int (i+j)):=W3 λ_ _ _ _ _ _ _ q=>add_int q
theorem nO:zd X (Cf .Sub) (pi λi j=>.int (i-j)):=W3 λ_ _ _ _ _ _ _ q=>sub_int q
theorem lA:zd X (Cf .FloorDiv) (rI zQ λi j=>.int (i/j)):=Ö λi j _ _ _ _ _ hc q=>by
 have h1:(0:Ai)<j:=hc.1;have h2:j<1073741824:=hc.2;exact floordiv_int (by omega) (by rw[Int.fdiv_eq_ediv_of_nonneg i (by omega)];exact q) (.inl (PyProof.noPylong_small (by omega)))
theorem qT:zd X (Cf .Mod) (rI (λ_ j=>0<j) λi j=>.int (i%j)):=Ö λi j _ _ _ _ _ hc q=>by
 have h1:(0:Ai)<j:=hc;exact mod_int' (by omega) (by rw[Int.fmod_eq_emod_of_nonneg i (by omega)];exact q)
theorem nP:zd X (Cf .Pow) (rI zP λi j=>.int (i ^ j.toNat)):=Ö λ_ _ _ _ _ _ _ hc q=>pow_int_small hc.1 hc.2.1 hc.2.2 q
theorem unI{f:Al->Fe Al}{g:Ai->Ai}(rule:∀(i:Ai)(t:Ce)(s:Ar)(Q:Vq)(E:Vq),Q (.int (g i) s.toks) {s with toks:=s.toks+1}->AA (model X.prog X.w) X.A (f (.int i t)) Q E s):UnR X f (rU λi=>.int (g i)):=by
 intro pI s Y H x v Q I rx h;obtain⟨i,rfl,q⟩:=h;obtain⟨t,rfl⟩:=rx;exact rule i t s _ _ ⟨.int (g i),H,I.tok _,⟨_,rfl⟩,q⟩
theorem lQ:UnR X (unaryOp .USub) (rU λi=>.int (-i)):=unI λ_ _ _ _ _ q=>neg_int q
end
section
variable{X:Cx}{a b c:Aq}{ta tb tc:TE}{pos:AF}
theorem VM{Q:VK}{k k':An}(I:Z8 X pI Y H s)(q:Q (.bl k) H)(e:k=k'):EP X pI Y Q (.bool k') s:=by
 subst e;exact⟨.bl k,H,I,rfl,q⟩
theorem vG:zd X (CP .Lt) (pi λi j=>.bl (decide (i<j))):=Pa λ_ _ _ _ _ _ _ q=>lt_int q
theorem vH:zd X (CP .LtE) (pi λi j=>.bl (decide (i<=j))):=Pa λ_ _ _ _ _ _ _ q=>le_int q
theorem vJ:zd X (CP .Gt) (pi λi j=>.bl (decide (j<i))):=Pa λ_ _ _ _ _ _ _ q=>gt_int q
theorem vK:zd X (CP .GtE) (pi λi j=>.bl (decide (j<=i))):=Pa λ_ _ _ _ _ _ _ q=>ge_int q
theorem qU:zd X (CP .Is) (λx y H Q=>y=.non/\Q (.bl (decide (x=.non))) H):=by
 intro pI s Y H x y v u Q I rx ry h;obtain⟨rfl,q⟩:=h;cases ry;refine is_none_gen (VM I q ?_);cases x<;>first
  |(cases rx;rfl)
  |(obtain⟨t,rfl⟩:=rx;rfl)
theorem kY:zd X (CP .IsNot) (λx y H Q=>y=.non/\Q (.bl (!decide (x=.non))) H):=by
 intro pI s Y H x y v u Q I rx ry h;obtain⟨rfl,q⟩:=h;cases ry;refine isnot_none_gen (VM I q ?_);cases x<;>first
  |(cases rx;rfl)
  |(obtain⟨t,rfl⟩:=rx;rfl)
theorem zd.or{r':R2}(h:zd X f r)(h':zd X f r'):zd X f (λx y H Q=>r x y H Q\/r' x y H Q):=by
 intro pI s Y H x y v u Q I rx ry q;rcases q with q|q
 .exact h pI s Y H x y v u Q I rx ry q
 .exact h' pI s Y H x y v u Q I rx ry q
theorem Uw(ho:zd X (CP op) r)(ha:PE X a ta)(hb:PE X b tb)(hm:HC op b=Af):PE X (.Compare a [op] [b] pos) (ç r ta tb):=by
 intro pI s Y H Q I h;exact wpAny_Compare1 (R9 ha hb I h λv u s2 x y H2 I2 rx ry q=>ho pI s2 Y H2 x y v u Q I2 rx ry q) hm
def VY(t:TE):TT:=λY H Q=>t Y H λx H'=>∃ k,x=.bl k/\Q k H'
theorem LX(ho:zd X (CP op) r)(ha:PE X a ta)(hb:PE X b tb)(hm:HC op b=Af):PT X (.Compare a [op] [b] pos) (VY (ç r ta tb)):=by
 intro pI s Y H Q I h;refine wpAny_isTrue_Compare1 (U4 (ha pI s Y H _ I h) λv s1 ⟨x,H1,I1,r1,q1⟩=>U4 (hb pI s1 Y H1 _ I1 q1) λu s2 ⟨y,H2,I2,r2,q2⟩=>
  U4 (ho pI s2 Y H2 x y v u _ I2 r1 r2 q2) λc s3 ⟨z,H3,I3,r3,k,e,q3⟩=>?_) hm
 subst e;cases r3;exact C3 ⟨H3,I3,q3⟩
def oU(r r':R2)(ta tb tc:TE):TE:=λY H Q=>ta Y H λx H1=>tb Y H1 λy H2=>r x y H2 λz H3=>∃ k,z=.bl k /\
 (if k=Ab then tc Y H3 λw' H4=>r' y w' H4 Q else Q (.bl Af) H3)
theorem eO{op':DC}{r':R2}(ho:zd X (CP op) r)(oz:zd X (CP op') r')(ha:PE X a ta)(hb:PE X b tb)(hc:PE X c tc)(hm:lastMarks [op,op'] [b,c]=Af:=by with_unfolding_all rfl):PT X (.Compare a [op,op'] [b,c] pos) (VY (oU r r' ta tb tc)):=by
 intro pI s Y H Q I h;refine isTrue_chain (U4 (ha pI s Y H _ I h) λv s1 ⟨x,H1,I1,r1,q1⟩=>test_link (U4 (hb pI s1 Y H1 _ I1 q1) λu s2 ⟨y,H2,I2,r2,q2⟩=>
  U4 (ho pI s2 Y H2 x y v u _ I2 r1 r2 q2) λd s3 ⟨z,H3,I3,r3,k,e,q3⟩=>?_)) hm
 subst e;cases r3;refine C3 ?_;cases k with
 |false=>
  obtain⟨k',e',q'⟩:=q3;cases e';exact ite_ff ⟨H3,I3,q'⟩
 |true=>
  refine ite_tt (test_last (U4 (hc pI s3 Y H3 _ I3 q3) λw' s4 ⟨z',H4,I4,r4,q4⟩=>U4 (oz pI s4 Y H4 y z' u w' _ I4 r2 r4 q4) λd' s5 ⟨z2,H5,I5,r5,k2,e2,q5⟩=>?_))
  subst e2;cases r5;exact C3 ⟨H5,I5,q5⟩
noncomputable def WY(K:Fg)(x:V)(H:Hp)(k:An):Prop:=
  match x with
  |.non=>k=Af
  |.bl b=>k=b
  |.int i=>k=(i != 0)
  |.str y=>y.length<=sizeLine/\k=((y.length:Ai) != 0)
  |.byt y=>y.size<=sizeLine/\k=((y.size:Ai) != 0)
  |.ref p=>(∃ xs,Id K H p xs/\k=!xs.isEmpty)\/(∃ xs,yy K H p xs/\k=!xs.isEmpty)\/∃ kvs,H p=Aa (.dK kvs)/\k=!kvs.isEmpty
  |_=>AM
theorem aM{κ:Type}{kvs:Ac (κ×V)}{vs:Ac (κ×Al)}(r:KV kvs vs):(!vs.isEmpty)=!kvs.isEmpty:=by
 cases r<;>rfl
theorem SM{its:Ac Al}(r:A1 xs its):(!its.toArray.isEmpty)=!xs.isEmpty:=by
 cases r<;>simp
theorem L8:(sizeLine:Ag)<2 ^ 63:=by rw[Bz];decide
theorem lS:zL X (λx H Q=>∃ k,WY X.K x H k/\Q k H):=by
 intro pI s Y H x v Q I rx h;obtain⟨k,e,q⟩:=h;have hl:=L8;have hs:sizeLine=16777216:=Bz;cases x with
 |non=>
  cases rx;have e':k=Af:=e;subst e';exact truthy_none ⟨H,I,q⟩
 |bl b=>
  cases rx;have e':k=b:=e;subst e';exact C3 ⟨H,I,q⟩
 |int i=>
  obtain⟨t,rfl⟩:=rx;have e':k=(i != 0):=e;subst e';exact PySem.P.truthy_int ⟨H,I,q⟩
 |str y=>
  obtain⟨t,rfl⟩:=rx;obtain⟨hy,e'⟩:y.length<=sizeLine/\k=((y.length:Ai) != 0):=e;subst e';exact PySem.P.truthy_str (by omega) ⟨H,I.tok _,q⟩
 |byt y=>
  obtain⟨t,rfl⟩:=rx;obtain⟨hy,e'⟩:y.size<=sizeLine/\k=((y.size:Ai) != 0):=e;subst e';exact PySem.W.truthy_bytes (by omega) ⟨H,I.tok _,q⟩
 |ref p=>
  cases rx;have e':(∃ xs,Id X.K H p xs/\k=!xs.isEmpty)\/(∃ xs,yy X.K H p xs/\k=!xs.isEmpty)\/∃ kvs,H p=Aa (.dK kvs)/\k=!kvs.isEmpty:=e;rcases e' with ⟨xs,hx,e'⟩|⟨xs,hx,e'⟩|⟨kvs,hx,e'⟩
  .subst e';obtain⟨its,r,pl,hz⟩:=I.list hx;have U8:=r.length;exact wpAny_truthy_list pl.isList (by simp only[AX];omega) ⟨H,I.tok _,by rw[SM r];exact q⟩
  .subst e';obtain⟨its,r,pl,hz⟩:=I.tuple hx;have U8:=r.length;exact truthy_tuple pl (by simp only[AX];omega) ⟨H,I.tok _,by rw[SM r];exact q⟩
  .subst e';obtain⟨hz,hS,vs,r,m⟩:kvs.length<=sizeLine/\(p==GP)=Af/\∃ vs,KV kvs vs/\s.heap.DictOf (Qm X.prog X.w) p vs:=I.hok p _ hx;have U8:kvs.length=vs.length:=Zf r;exact wpAny_truthy_dict hS m (by omega) ⟨H,I.tok _,by rw[aM r];exact q⟩
 |_=>exact(show AM from e).elim
theorem eN(ha:PE X a ta)(he:∀ whole,Jg a X.env whole=(do let v <-whole;standAt a.pos;holding [v] (truthy v))):PT X a (λY H Q=>ta Y H λx H'=>∃ k,WY X.K x H' k/\Q k H'):=by
 intro pI s Y H Q I h;exact isTrue_plain (U4 (ha pI s Y H _ I h) λv s1 ⟨x,H1,I1,r1,q1⟩=>lS pI s1 Y H1 x v Q I1 r1 q1) (he _)
theorem bG:zd X (Cf .Add) (λx y H Q=>∃ i j,x=.str i/\y=.str j/\i.length+j.length<=sizeLine/\Q (.str (i++j)) H):=by
 intro pI s Y H x y v u Q I rx ry h;obtain⟨i,j,rfl,rfl,hz,q⟩:=h;obtain⟨t,rfl⟩:=rx;obtain⟨t',rfl⟩:=ry;exact add_str (λt' tk=>⟨.str (i++j),H,I.tok _,⟨_,rfl⟩,q⟩) hz
theorem KJ{x:V}(r:A1 [x] us):∃ u,us=[u]/\Bt x u:=by
 cases r with
 |cons r1 r2=>cases r2;exact⟨_,rfl,r1⟩
theorem Li{x:V}(r:A1 [x,y] us):∃ u w',us=[u,w']/\Bt x u/\Bt y w':=by
 cases r with
 |cons r1 r2=>
  cases r2 with
  |cons r3 r4=>cases r4;exact⟨_,_,rfl,r1,r3⟩
theorem cN(hc:X.calm=Ab):Gs X (.builtin "min") (λxs H Q=>∃ i j,xs=[.int i,.int j]/\Q (.int (if j<i then j else i)) H):=by
 intro pI s Y H xs us Q I r h;obtain⟨i,j,rfl,q⟩:=h;obtain⟨u,w',rfl,⟨t,rfl⟩,⟨t',rfl⟩⟩:=Li r;refine min_two_ints (I.ok.hd hc) λh' tk k=>⟨_,H,I.kept k,?_,q⟩
 by_cases hj:j<i
 .rw[Au hj,Au hj];exact⟨_,rfl⟩
 .rw[Ay hj,Ay hj];exact⟨_,rfl⟩
theorem Sq:Gs X (.type "str") (λxs H Q=>∃ i,xs=[.int i]/\i.natAbs.log2<1920/\Q (.str (toString i)) H):=by
 intro pI s Y H xs us Q I r h;obtain⟨i,rfl,hz,q⟩:=h;obtain⟨u,rfl,t,rfl⟩:=KJ r;exact PySem.P.str_of_int hz ⟨.str _,H,I.tok _,⟨_,rfl⟩,q⟩
end
structure vq (h:AJ) (x dx C:Ak) (mA:Ah->Ao Al):Prop where
 obj:h.get? x=Aa (Dv C dx)
 ns:h.Ns1 dx mA
 ne:dx≠x
theorem bJ(n:h.Ns1 dx mA):∃ od,h.get? dx=Aa od/\∀ name,Hb name od=Aa (mA name):=by
 obtain⟨o,es,ep,ho,hd,hk,_,hm⟩:=n;refine⟨o,ho,λname=>?_⟩
 have e:=hm name;unfold nsFind findBy at e;rw[<-Xr]at e;unfold Hb;rw[hd];dsimp only;split
 .rename_i y q;rw[q]at e;exact congrArg Aa e
 .rename_i q;rw[q]at e;have a:es.toList.any (·.refKey)=Af:=by
   rw[List.any_eq_false];intro y hy;obtain⟨z,t,hkey⟩:=hk y (Xu.mp hy);simp[DictEntry.refKey,hkey]
  have a':¬ es.toList.any (·.refKey)=Ab:=by rw[a];exact Ax
  rw[Ay a'];exact congrArg Aa e
theorem vq.look{x:Ak}(I:vq h x dx C mA):∃ od,PySem.W.InstAt h x (Dv C dx) C (Aa od)/\∀ name,Hb name od=Aa (mA name):=
 let ⟨od,ho,hl⟩:=bJ I.ns
 ⟨od,⟨I.obj,rfl,rfl,ho⟩,hl⟩
section
variable{prog:AK}{w:AI}{A:A4}{E:Vq}{s:Ar}{K:Fg}{x dx C f:Ak}{mA:Ah->Ao Al}{name:Ah}{v:Al}
theorem kQ{expr:An}{Q:Vq}(X:K.In s.heap)(I:vq s.heap x dx C mA)(hg:D8 K C name=Ab)(hh:Ew K C=Ab)(ha:At K (.ref C) name=Aa Ae)(hv:mA name=Aa v)(hv':ZF v=Ab)(h:Q v {s with toks:=s.toks+1}):AA (model prog w) A (KZ (.ref x) name expr) Q E s:=by
 obtain⟨od,J,hl⟩:=I.look;exact PySem.W.get_value X J (G9 hg).1 (PySem.W.findObj_own hh ha rfl (by rw[hl,hv])) hv' h
theorem fD{Q:Al×Ac Al->Ar->Prop}(X:K.In s.heap)(I:vq s.heap x dx C mA)(hg:D8 K C name=Ab)(hf:At K (.ref C) name=Aa (Aa (.ref f)))(ht:Cn K (.ref f)=Ab)(hv:mA name=Ae)(h:Q (.ref f,[.ref x]) s):AA (model prog w) A (getMethod (.ref x) name pl) Q E s:=by
 obtain⟨od,J,hl⟩:=I.look;exact PySem.W.method_fn X J (G9 hg).1 (G9 hg).2 hf (AD.mp ht) (by show (Hb name od).map (·.isSome)=Aa Af;rw[hl,hv];rfl) h
theorem jG{ns:Ac Ah}(X:K.In s.heap)(I:vq s.heap x dx C mA)(hs:At K (.ref C) "__setattr__" = Aa (Aa (.builtin "object.__setattr__")))(hp:F2 K C=Ab)(ht:IA K C name=Aa Ae)(hh:Ew K C=Ab)(hw:J8 mA ns)(hsz:ns.length<=sizeLine)(h:∀ h',vq h' x dx C (λy=>if y=name then Aa v else mA y)->FD dx s.heap h'->Q () {s with heap:=h',toks:=s.toks+2}):AA (model prog w) A (LO (.ref x) name v) Q E s:=by
  obtain⟨od,J,hl⟩:=I.look;refine PySem.W.set_plain X J hs (PySem.W.osa_open (s:={s with toks:=s.toks+1}) (r:=Ae) X J hp ht λb=>?_)
  obtain⟨cd,hc,m9⟩:=PySem.W.any_some hh;have hx:s.heap.get? x=Aa ⟨.ref C,Aa dx,.plain,#[]⟩:=I.obj;refine As (A2 (As (As (ZY hx (As (PySem.W.Looks.here (s:={s with toks:=s.toks+1}) (PySem.W.looks_clsIn X hc) ?_))))))
  rw[m9];refine A2 (a:=Aa dx) (As (A2 (As ?_)));refine wpAny_nsSet1 (s:={s with toks:=s.toks+1}) I.ns λh' iy o7=>?_
  obtain⟨oD,esD,epD,hoD,hdD,hcD⟩:=iy.count (PySem.Within.cons name v hw);refine As (ZZ hoD (by rw[hdD];exact ZP (B8 hcD (by rw[A8];omega))) ?_)
  exact A2 (h _ ⟨(o7.2 _ (CG I.ne)).trans I.obj,iy,I.ne⟩ o7)
theorem dU{R:Ii->Ar->Prop}{vs:Ac Al}(X:K.In s.heap)(hm:GN K C=Ab)(hi:At K (.ref C) "__init__" = Aa (Aa (.ref f)))(hf:Dp K (.ref f)=Aa (.type "function"))(h:EC (model prog w) (A.under (.builtin "type.__call__" ⟨.ref C::vs,kw⟩)) (.call (.ref f) ⟨.ref (s.heap.objs.size+1)::vs,kw⟩) (PySem.W.InitBack (s.heap.objs.size+1) R)
      {s with heap:=(s.heap.push CJ).push (Dv C s.heap.objs.size)}):EC (model prog w) A (.call (.ref C) ⟨vs,kw⟩) R s:=by
  obtain⟨hh,g,d,t,os⟩:=s;exact PySem.W.make_core (PySem.W.makes_of X hm) (Cp X hi) (λself=>PySem.W.bind_fn X self hf) (.inl rfl) h
end
noncomputable def Fk(f:Ah)(v:V):Ac (Ah×V)->Ac (Ah×V)
 |[]=>[(f,v)]
 |(g,x)::r=>if g=f then (g,v)::r else (g,x)::Fk f v r
theorem Si(f g:Ah)(v:V):∀ fs:Ac (Ah×V),(Fk f v fs).lookup g=if g=f then Aa v else fs.lookup g
 |[]=>by
  show BZ g [(f,v)]=_;by_cases h:g=f
  .have hb:(g==f)=Ab:=AD.mpr h;simp only[BZ,hb,Au h]
  .have hb:(g==f)=Af:=Bg.mpr h;simp only[BZ,hb,Ay h]
 |(k,x)::r=>by
  have ih:=Si f g v r;rw[show Fk f v ((k,x)::r)=(if k=f then (k,v)::r else (k,x)::Fk f v r) from rfl]
  by_cases hk:k=f
  .rw[Au hk];by_cases h:g=k
   .have hb:(g==k)=Ab:=AD.mpr h;simp only[BZ,hb,Au (h.trans hk)]
   .have hb:(g==k)=Af:=Bg.mpr h;simp only[BZ,hb,Ay (λe:g=f=>h (e.trans hk.symm))]
  .rw[Ay hk];by_cases h:g=k
   .have hb:(g==k)=Ab:=AD.mpr h;simp only[BZ,hb,Ay (λe:g=f=>hk (h.symm.trans e))]
   .have hb:(g==k)=Af:=Bg.mpr h;simp only[BZ,hb];exact ih
theorem PJ(f:Ah)(v:V):∀ fs:Ac (Ah×V),f∈(Fk f v fs).map (·.1)/\∀ g,g∈fs.map (·.1)->g∈(Fk f v fs).map (·.1)
 |[]=>⟨by simp[Fk],λg h=>by simp at h⟩
 |(k,x)::r=>by
  obtain⟨i1,i2⟩:=PJ f v r;rw[show Fk f v ((k,x)::r)=(if k=f then (k,v)::r else (k,x)::Fk f v r) from rfl]
  by_cases hk:k=f
  .rw[Au hk];subst hk;exact⟨by simp,λg h=>by simpa using h⟩
  .rw[Ay hk];refine⟨?_,λg h=>?_⟩
   .rw[BP];exact AE _ i1
   .rw[BP]at h ⊢;rcases A6.mp h with e|e
    .exact List.mem_cons.mpr (.inl e)
    .exact AE _ (i2 g e)
theorem Sj(f:Ah)(v:V):∀ fs:Ac (Ah×V),(Fk f v fs).length<=fs.length+1
 |[]=>by simp[Fk]
 |(k,x)::r=>by
  have ih:=Sj f v r;rw[show Fk f v ((k,x)::r)=(if k=f then (k,v)::r else (k,x)::Fk f v r) from rfl]
  by_cases hk:k=f
  .rw[Au hk,A8,A8];omega
  .rw[Ay hk,A8,A8];omega
theorem Ix.some_of{o:Ao Al}(r:Ix (Aa v) o):∃ u,o=Aa u/\Bt v u:=by
 cases o with
 |none=>exact(show AM from r).elim
 |some u=>exact⟨u,rfl,r⟩
theorem Ix.none_of{o:Ao Al}(r:Ix Ae o):o=Ae:=by
 cases o with
 |none=>rfl
 |some u=>exact(show AM from r).elim
theorem S5(r:Bt v u):ZF u=Ab:=by
 cases v with
 |non=>cases (show u=Du from r);rfl
 |bl b=>cases (show u=Jk b from r);rfl
 |int i=>obtain⟨t,e⟩:=(show ∃ t,u=GB i t from r);cases e;rfl
 |str x=>obtain⟨t,e⟩:=(show ∃ t,u=J6 x t from r);cases e;rfl
 |byt b=>obtain⟨t,e⟩:=(show ∃ t,u=Zv b t from r);cases e;rfl
 |flt b=>obtain⟨t,e⟩:=(show ∃ t,u=K2 b t from r);cases e;rfl
 |ref a=>cases (show u=Bm a from r);rfl
 |ty n=>cases (show u=Zw n from r);rfl
section
variable{P:AK}{w:AI}{H H':Hp}{h h':AJ}{a C dx:Ak}{fs fs':Ac (Ah×V)}
theorem N6(hok:zg P w H h)(e:H a=Aa (.ins C dx fs)):∃ mA,vq h a dx C mA/\(∀ f,Ix (fs.lookup f) (mA f))/\J8 mA (fs.map (·.1))/\fs.length<=1000/\H dx=Aa (.own a):=by
 obtain⟨d,z,ne,ob,mA,n,r,q⟩:=(show ObjOk P w H h a (.ins C dx fs) from hok a _ e)
 exact⟨mA,⟨ob,n,ne⟩,r,q,z,d⟩
end
structure wl (K:Fg) (C:Ak):Prop where
 pg:D8 K C Do=Ab
 hd:Ew K C=Ab
 po:F2 K C=Ab
 sa:At K (.ref C) "__setattr__" = Aa (Aa (.builtin "object.__setattr__"))
theorem wl.get{K:Fg}(c:wl K C)(f:Ah):D8 K C f=Ab:=c.pg
def FM(K:Fg)(C:Ak)(f:Ah):Prop:=At K (.ref C) f=Aa Ae
theorem FM.taker{K:Fg}{f:Ah}(n:FM K C f):IA K C f=Aa Ae:=by
 unfold IA;rw[show At K (.ref C) f=Aa Ae from n]
 rfl
structure zh (K:Fg) (C:Ak) (m:Ah) (f:Ak):Prop where
 at_:At K (.ref C) m=Aa (Aa (.ref f))
 fn:Cn K (.ref f)=Ab
 kp:Ba K (.ref f)=Ab
section
variable{X:Cx}{pI:Pn}{Y:St}{H:Hp}{s:Ar}{a C dx:Ak}{fs:Ac (Ah×V)}{f:Ah}{v:V}{A:A4}{E:Vq}
theorem SU{b:An}{Q:Vq}(I:Z8 X pI Y H s)(e:H a=Aa (.ins C dx fs))(c:wl X.K C)(n:FM X.K C f)(l:fs.lookup f=Aa v)(h:∀ u s',Z8 X pI Y H s'->Bt v u->Q u s'):AA (model X.prog X.w) A (KZ (.ref a) f b) Q E s:=by
 obtain⟨mA,O,r,_,_,_⟩:=N6 I.hok e;obtain⟨u,hu,ru⟩:=Ix.some_of (v:=v) (o:=mA f) (by rw[<-l];exact r f)
 exact kQ I.kIn O (c.get f) c.hd n hu (S5 ru) (h u _ (I.tok _) ru)
theorem NQ{m:Ah}{g:Ak}{Q:Al×Ac Al->Ar->Prop}(I:Z8 X pI Y H s)(e:H a=Aa (.ins C dx fs))(c:wl X.K C)(k:zh X.K C m g)(l:fs.lookup m=Ae)(h:Q (.ref g,[.ref a]) s):AA (model X.prog X.w) A (getMethod (.ref a) m pl) Q E s:=by
 obtain⟨mA,O,r,_,_,_⟩:=N6 I.hok e;have hn:mA m=Ae:=Ix.none_of (by rw[<-l];exact r m)
 exact fD I.kIn O (c.get m) k.at_ k.fn hn h
theorem bC(I:Z8 X pI Y H s)(e:H a=Aa (.ins C dx fs))(c:wl X.K C)(n:FM X.K C f)(hl:fs.length<1000)(ry:Bt y u)(h:∀ s',Z8 X pI Y (upd H a (.ins C dx (Fk f y fs))) s'->Q () s'):AA (model X.prog X.w) A (LO (.ref a) f u) Q E s:=by
 obtain⟨mA,O,r,wi,_,ho⟩:=N6 I.hok e;have hz:(fs.map (·.1)).length<=sizeLine:=by rw[Bc,Bz];omega
 refine jG I.kIn O c.sa c.po n.taker c.hd wi hz λh' O' sb=>h _ ?_
 have hd:∃ o,h'.get? dx=Aa o:=let ⟨o,_,_,e',_⟩:=O'.ns;⟨o,e'⟩
 refine I.write (x:=a) (e:=dx) (by rw[e];exact FW) (.inr ho) (λb q hb z=>(sb.2 b hb).trans z) hd ?_
 refine⟨by rw[AQ O.ne];exact ho,?_,O.ne,O'.obj,_,O'.ns,λg=>?_,λg hg=>?_⟩
 .have:=Sj f y fs;omega
 .show Ix ((Fk f y fs).lookup g) (if g=f then Aa u else mA g)
  rw[Si];by_cases q:g=f
  .rw[Au q,Au q];exact ry
  .rw[Ay q,Ay q];exact r g
 .by_cases q:g=f
  .rw[q];exact(PJ f y fs).1
  .refine(PJ f y fs).2 g (wi g λz=>hg ?_)
   show (if g=f then Aa u else mA g)=Ae
   rw[Ay q];exact z
theorem Z8.made(I:Z8 X pI Y H s):Z8 X pI Y (upd (upd H s.heap.objs.size (.own (s.heap.objs.size+1))) (s.heap.objs.size+1) (.ins C s.heap.objs.size [])) {s with heap:=(s.heap.push CJ).push (Dv C s.heap.objs.size)}:=by
  have e1:(s.heap.push CJ).get? s.heap.objs.size=Aa CJ:=Bp s.heap rfl;have e2:((s.heap.push CJ).push (Dv C s.heap.objs.size)).get? (s.heap.objs.size+1)=Aa (Dv C s.heap.objs.size):=by
    have:=Bp (s.heap.push CJ) (o:=Dv C s.heap.objs.size) rfl
    rwa [D1]at this
  have e3:(s.heap.push CJ).Ns s.heap.objs.size (λ_=>Ae):=⟨CJ,#[],_,e1,rfl,(λe he=>absurd he (by simp)),λ_=>rfl⟩
  have I1:=I.laid (a:=s.heap.objs.size) (o:=.own (s.heap.objs.size+1)) (h':=s.heap.push CJ) (t':=s.toks) (λb u q=>AB _ q) (AU _) ⟨_,e1⟩
  refine I1.laid (a:=s.heap.objs.size+1) (o:=.ins C s.heap.objs.size []) (t':=s.toks) (λb u q=>AB _ q) (Ye (D1 _ _)) ?_
  have ne:s.heap.objs.size≠s.heap.objs.size+1:=BB (Gj _);refine⟨by rw[AQ ne,BO],Ds _,ne,e2,λ_=>Ae,(Za e3).at λo q=>AB _ q,λ_=>FW,λy hy=>absurd rfl hy⟩
theorem Qu{prog:AK}{w:AI}{env:B5}{f:Ah}{Q:Vq}(hb:BH e f env (eval e env)=eval e env)(h:AA (model prog w) A (eval e env) (λo s₁=>AA (model prog w) A (KZ o f Ab) Q E s₁) E s):AA (model prog w) A (eval (.Attribute e f pos) env) Q E s:=
 Attribute_any_ h (by rw[arm_eval_Attribute,hb])
end
def yO(K:Fg)(ta:TE)(f:Ah):TE:=λY H Q=>ta Y H λx H1=>∃ a C dx fs v,x=.ref a/\H1 a=Aa (.ins C dx fs)/\wl K C/\FM K C f/\fs.lookup f=Aa v/\Q v H1
def yX(K:Fg)(ta tv:TE)(f:Ah):TS:=λD Y H=>tv Y H λy H1=>ta Y H1 λx H2=>∃ a C dx fs,x=.ref a/\H2 a=Aa (.ins C dx fs)/\wl K C/\FM K C f/\fs.length<1000 /\
 D.nx Y (upd H2 a (.ins C dx (Fk f y fs)))
section
variable{X:Cx}{o e value:Aq}{f:Ah}{pos pos' ez:AF}{ta tv:TE}
theorem Og(he:PE X e ta)(hb:BH e f X.env (eval e X.env)=eval e X.env):PE X (.Attribute e f pos) (yO X.K ta f):=by
 intro pI s Y H Q I h;refine Qu hb (U4 (he pI s Y H _ I h) λu s1 ⟨x,H1,I1,rx,a,C,dx,fs,v,ex,ea,c,n,l,q⟩=>?_)
 subst ex;obtain rfl:u=Bm a:=rx;exact SU I1 ea c n l λu' s2 I2 ru=>⟨v,H1,I2,ru,q⟩
theorem IK(ha:PE X o ta)(hv:PE X value tv)(hs:Dq value (Aa (.Attribute o f pos')) pos.line X.env=pure Af):PS X (.Assign [.Attribute o f pos'] value pos) (yX X.K ta tv f):=by
 intro pI s Y H D I h;refine ZQ (U4 (hv pI s Y H _ I h) λu s1 ⟨y,H1,I1,ry,q⟩=>U4 (ha pI s1 Y H1 _ I1 q) λov s2 ⟨x,H2,I2,rx,a,C,dx,fs,ex,ea,c,n,l,q2⟩=>?_) hs
 subst ex;obtain rfl:ov=Bm a:=rx;exact bC I2 ea c n l ry λs3 I3=>⟨Y,_,I3,q2⟩
end
section
variable{X:Cx}{pI:Pn}{Y:St}{H:Hp}{s:Ar}{A:A4}{E:Vq}{Q:Vq}{c:Al}{b:An}
inductive yj (K:Fg) (H:Hp):V->Al->Prop where
  |non:yj K H .non (.type "NoneType")
  |bl (x:An):yj K H (.bl x) (.type "bool")
  |int (i:Ai):yj K H (.int i) (.type "int")
  |str (x:Ah):yj K H (.str x) (.type "str")
  |flt (x:UInt64):yj K H (.flt x) (.type "float")
  |lst {a:Ak} {xs:Ac V} (e:H a=Aa (.lst xs)):yj K H (.ref a) (.type "list")
  |frz {a:Ak} {o:CW} {xs:Ac V} (e:H a=Aa (.frz o (.lst xs))):yj K H (.ref a) (.type "list")
  |tup {a:Ak} {xs:Ac V} (e:H a=Aa (.tup xs)):yj K H (.ref a) (.type "tuple")
  |dK {a:Ak} {kvs:Ac (Key×V)} (e:H a=Aa (.dK kvs)):yj K H (.ref a) (.type "dict")
  |dT {a:Ak} {kvs:Ac (Ac Key×V)} (e:H a=Aa (.dT kvs)):yj K H (.ref a) (.type "dict")
  |ins {a C dx:Ak} {fs:Ac (Ah×V)} (e:H a=Aa (.ins C dx fs)) (cl:wl K C) (ha:At K (.ref C) "__class__" = Aa (Aa (.builtin "object.__class__")))
      (hn:CY K (.builtin "object.__class__") "__get__" = Aa (Aa (.builtin "getset_descriptor.__get__"))) (htk:IB K (.builtin "object.__class__")=Aa Ab)
      (hm:Cj K C (.type "object")=Aa Ab):yj K H (.ref a) (.ref C)
theorem bK{x:V}{t:Al}(I:Z8 X pI Y H s)(rx:Bt x u)(ty:yj X.K H x t)(e:B7 X.K t c=Aa b)(h:∀ tk,Q (.bool b) {s with toks:=tk}):
  AA (model X.prog X.w) A (call (.builtin "isinstance") [u,c]) Q E s:=by
 cases ty with
 |non=>cases (show u=Du from rx);exact Co PySem.W.kitx_none I.kIn FW e (λz=>nomatch z) h
 |bl y=>cases (show u=Jk y from rx);exact Co PySem.W.kitx_bool I.kIn FW e (λz=>nomatch z) h
 |int i=>obtain⟨t,q⟩:=(show ∃ t,u=GB i t from rx);cases q;exact Co PySem.W.kitx_int I.kIn FW e (λz=>nomatch z) h
 |str y=>obtain⟨t,q⟩:=(show ∃ t,u=J6 y t from rx);cases q;exact Co PySem.W.kitx_str I.kIn FW e (λz=>nomatch z) h
 |flt y=>obtain⟨t,q⟩:=(show ∃ t,u=K2 y t from rx);cases q;exact Co PySem.W.kitx_float I.kIn FW e (λz=>nomatch z) h
 | @lst a xs ea=>
  cases (show u=Bm a from rx)
  obtain⟨_,_,n,_,h1⟩:=(show ObjOk X.prog X.w H s.heap a (.lst xs) from I.hok a _ ea)
  exact Co ZK I.kIn ⟨_,h1,rfl⟩ e (λz=>nomatch z) h
 | @frz a ob xs ea=>
  cases (show u=Bm a from rx)
  obtain⟨_,_,_,n,_,h1⟩:=(show ObjOk X.prog X.w H s.heap a (.frz ob (.lst xs)) from I.hok a _ ea)
  exact Co ZK I.kIn ⟨_,h1,rfl⟩ e (λz=>nomatch z) h
 | @tup a xs ea=>
  cases (show u=Bm a from rx)
  obtain⟨_,_,_,p⟩:=(show ObjOk X.prog X.w H s.heap a (.tup xs) from I.hok a _ ea)
  obtain⟨o,h1,h2,_⟩:=p;exact Co PySem.W.kitx_tuple I.kIn ⟨o,h1,h2⟩ e (λz=>nomatch z) h
 | @dK a kvs ea=>
  cases (show u=Bm a from rx)
  obtain⟨_,_,vs,_,p⟩:=(show ObjOk X.prog X.w H s.heap a (.dK kvs) from I.hok a _ ea)
  obtain⟨o,es,ep,h1,h2,_⟩:=p;exact Co ZJ I.kIn ⟨o,h1,h2.1⟩ e (λz=>nomatch z) h
 | @dT a kvs ea=>
  cases (show u=Bm a from rx)
  obtain⟨_,_,xs,_,o,es,ep,h1,h2,_⟩:=(show ObjOk X.prog X.w H s.heap a (.dT kvs) from I.hok a _ ea)
  exact Co ZJ I.kIn ⟨o,h1,h2.1⟩ e (λz=>nomatch z) h
 | @ins a C dx fs ea cl ha hn htk hm=>
  cases (show u=Bm a from rx)
  obtain⟨mA,O,_⟩:=N6 I.hok ea;obtain⟨od,J,_⟩:=O.look;exact Co (PySem.W.kitx_own (cl.get _) cl.hd ha hn htk hm) I.kIn J e (λz=>nomatch z) h
end
structure U5 (k:Ag) (A:A4):Prop where
 hd:A.handled=Ae
 dp:A.depth+3*k+5<He
 un:A.units+16*k+200<Bx
 gd:A.guards=Aa []
theorem U5.mono{j:Ag}{A:A4}(r:U5 k A)(h:j<=k):U5 j A:=⟨r.hd,by have:=r.dp;omega,by have:=r.un;omega,r.gd⟩
theorem U5.deeper{A:A4}(r:U5 (k+1) A)(env:B5):U5 k (A.deeper env):=
 ⟨r.hd,by have:=r.dp;show A.depth+1+3*k+5<_;omega,by have:=r.un;show A.units+3+16*k+200<_;omega,r.gd⟩
theorem U5.in1{A:A4}(r:U5 (k+1) A):U5 k A.in1:=
 ⟨r.hd,by have:=r.dp;show A.depth+3*k+5<_;omega,by have:=r.un;show A.units+1+16*k+200<_;omega,r.gd⟩
theorem SL{A:A4}:(A.under (.builtin "type.__call__" ⟨.ref C::us,kw⟩)).depth=A.depth+1:=by
 first|rfl|simp[JZ,Code.weight,Code.isCreation,Code.isGuard,Code.isCaller,Yw,J3,guardIds]
theorem SK{A:A4}:(A.under (.builtin "type.__call__" ⟨.ref C::us,kw⟩)).units=A.units+1:=by
 first|rfl|simp[JZ,Code.cUnits,Yw,J3]
theorem U5.make{A:A4}(r:U5 (k+1) A)(C:Ak)(us:Ac Al)(kw:Ac (Ah×Al)):U5 k (A.under (.builtin "type.__call__" ⟨.ref C::us,kw⟩)):=
 ⟨r.hd,by have:=r.dp;rw[SL];omega,by have:=r.un;rw[SK];omega,r.gd⟩
theorem U5.depth{A:A4}(r:U5 k A):A.depth<He:=by have:=r.dp;omega
theorem U5.units{A:A4}(r:U5 k A):A.units+64<Bx:=by have:=r.un;omega
def Mo:TA:=λ_ H Q=>Q [] H
def Lg(ta:TE)(tr:TA):TA:=λY H Q=>ta Y H λx H1=>tr Y H1 λxs H2=>Q (x::xs) H2
section
variable{X:Cx}{e:Aq}{es:Ac Aq}{te:TE}{t:TA}{pos:AF}
theorem Ca:PA X [] Mo:=λ_ _ _ _ H Q I h=>Calls.spliced_nil ⟨[],H,I,.nil,h⟩
theorem Bv(ha:PE X e te)(hr:PA X es t)(hs:Aw (e::es) X.env=(Af,eval e X.env)::Aw es X.env:=by rfl):PA X (e::es) (Lg te t):=by
 intro pos pI s Y H Q I h;rw[hs];show AA _ _ (spliced ((Af,eval e X.env)::Br pos (Aw es X.env))) _ _ s;refine Calls.spliced_cons (U4 (ha pI s Y H _ I h) λu s1 ⟨x,H1,I1,r1,q1⟩=>?_)
 exact U4 (hr pos pI s1 Y H1 _ I1 q1) λus s2 ⟨xs,H2,I2,r2,q2⟩=>⟨x::xs,H2,I2,.cons r1 r2,q2⟩
def yI(t:TA):TE:=λY H Q=>t Y H λxs H1=>xs.length<=sizeLine/\∀ p,H1 p=Ae->Q (.ref p) (upd H1 p (.tup xs))
def yL(t:TA):TE:=λY H Q=>t Y H λxs H1=>xs.length<=sizeLine/\∀ p,H1 p=Ae->Q (.ref p) (upd H1 p (.lst xs))
theorem Od{x1}(h:PA X es t):PE X (.Tuple es x1 pos) (yI t):=by
 intro pI s Y H Q I hq;refine wpAny_Tuple_spliced (U4 (h pos pI s Y H _ I hq) λus s1 ⟨xs,H1,I1,r,z,q⟩=>⟨by rw[<-r.length];exact z,?_⟩)
 have hf:H1 s1.heap.objs.size=Ae:=I1.hok.fresh (AU _);refine⟨.ref s1.heap.objs.size,upd H1 s1.heap.objs.size (.tup xs),I1.laid (t':=s1.toks) (λb u e=>AB _ e) (AU _) ?_,rfl,q _ hf⟩
 exact⟨z,us,r,⟨_,Bp _ rfl,rfl,_,rfl⟩⟩
theorem L6(h:PA X es t):PE X (.List es pos) (yL t):=by
 intro pI s Y H Q I hq;refine wpAny_List_spliced (U4 (h pos pI s Y H _ I hq) λus s1 ⟨xs,H1,I1,r,z,q⟩=>⟨by rw[<-r.length];exact z,?_⟩)
 have hf:H1 s1.heap.objs.size=Ae:=I1.hok.fresh (AU _);refine⟨.ref s1.heap.objs.size,upd H1 s1.heap.objs.size (.lst xs),I1.laid (t':=s1.toks) (λb u e=>AB _ e) (AU _) ?_,rfl,q _ hf⟩
 exact⟨z,us,0,r,Bp _ rfl⟩
end
abbrev Sp:=Ac V->Hp->VK->XK->Prop
variable{sp:Sp}
abbrev CXT:=Ac B5->Hp->Ar->XK->Al->Ar->Prop
variable{CX:CXT}
structure yo (P:AK) (w:AI) (K:Fg) (mg:Ah->Ao Al) (base:AJ) (A:A4) (outer:Ac B5) (s:Ar) (H:Hp):Prop where
 frames:A.frames=Aa outer
 mod:Mod K mg base
 bs:∀ b o,base.get? b=Aa o->s.heap.get? b=Aa o/\H b=Ae
 bsz:base.objs.size<=s.heap.objs.size
 funs:s.heap.FunFrames base outer
 frf:∀ b∈yz outer,H b=Ae
 hok:zg P w H s.heap
 bare:FO s.gens
noncomputable def CE(outer:Ac B5)(P:AK)(w:AI)(H:Hp)(s:Ar)(Q:VK)(u:Al)(s':Ar):Prop:=
 ∃ v H',s'.os=s.os/\FO s'.gens/\Un (yz outer) [] H H' s.heap s'.heap/\zg P w H' s'.heap/\Bt v u/\Q v H'
noncomputable def CR(CX:CXT)(outer:Ac B5)(P:AK)(w:AI)(H:Hp)(s:Ar)(Q:VK)(E:XK)(r:Ii)(s':Ar):Prop:=
  match r with
  |.ok (.ret u)=>CE outer P w H s Q u s'
  |.ok _=>AM
  |.error e=>CX outer H s E e s'
structure Y4 (P:AK) (w:AI) (K:Fg) (mg:Ah->Ao Al) (base:AJ) (CX:CXT) (k:Ag) (f:Ak) (fd:Bi) (ps:Ac Ah) (sp:Sp):Prop where
 len:∀ vs H Q E,sp vs H Q E->vs.length=ps.length
 run:∀(A:A4)(outer:Ac B5)(s:Ar)(H:Hp)(args:Args)(us:Ac Al)(vs:Ac V)(Q:VK)(E:XK),U5 k A->yo P w K mg base A outer s H->Gy s fd args (ps.zip us)->A1 vs us->sp vs H Q E ->
  EC (model P w) A (.call (.ref f) args) (CR CX outer P w H s Q E) s
theorem Y4.mono{P:AK}{w:AI}{K:Fg}{mg:Ah->Ao Al}{base:AJ}{CX:CXT}{j k:Ag}{f:Ak}{fd:Bi}{ps:Ac Ah}{sp:Sp}(F:Y4 P w K mg base CX j f fd ps sp)(h:j<=k):Y4 P w K mg base CX k f fd ps sp:=⟨F.len,λA outer s H args us vs Q E hr=>F.run A outer s H args us vs Q E (hr.mono h)⟩
theorem Y4.imp{w:AI}{K:Fg}{mg:Ah->Ao Al}{base:AJ}{f:Ak}{sp':Sp}(F:Y4 P w K mg base CX k f fd ps sp)(h:∀ vs H Q E,sp' vs H Q E->sp vs H Q E):Y4 P w K mg base CX k f fd ps sp':=
 ⟨λvs H Q E q=>F.len vs H Q E (h _ _ _ _ q),λA outer s H args us vs Q E hr he hb hv hs=>F.run A outer s H args us vs Q E hr he hb hv (h _ _ _ _ hs)⟩
theorem yo.make{w:AI}{K:Fg}{mg:Ah->Ao Al}{base:AJ}{A:A4}{outer:Ac B5}(e:yo P w K mg base A outer s H)(C:Ak)(us:Ac Al)(kw:Ac (Ah×Al)):
    yo P w K mg base (A.under (.builtin "type.__call__" ⟨.ref C::us,kw⟩)) outer s H:=⟨by first|exact e.frames|(simpa [JZ,Code.envs,J3,pushEnvs] using e.frames),e.mod,e.bs,e.bsz,e.funs,e.frf,e.hok,e.bare⟩
theorem yo.in1{w:AI}{K:Fg}{mg:Ah->Ao Al}{base:AJ}{A:A4}{outer:Ac B5}(e:yo P w K mg base A outer s H):yo P w K mg base A.in1 outer s H:=⟨e.frames,e.mod,e.bs,e.bsz,e.funs,e.frf,e.hok,e.bare⟩
section
variable{X:Cx}{pI:Pn}{Y:St}{H:Hp}{s s':Ar}
theorem Z8.env0(I:Z8 X pI Y H s):yo X.prog X.w X.K X.mg X.base X.A X.stack s H:=
 ⟨I.ok.frames,I.ok.mod,I.bs,B8 I.ok.bsz I.sz,I.stack,I.stkFree,I.hok,I.bare⟩
theorem Z8.after{Q:VK}(I:Z8 X pI Y H s)(h:CE X.stack X.prog X.w H s Q u s'):EP X pI Y Q u s':=by
 obtain⟨v,H',os,bare,un,hok,r,q⟩:=h;obtain⟨hh,g,d,t,os'⟩:=s';obtain rfl:os'=s.os:=os;exact⟨v,H',I.call (h':=hh) (g':=g) (d':=d) (t':=t) (ch:=[]) un hok bare (λb z=>absurd z (by simp)),r,q⟩
end
def V5(sp:Sp)(wn:Ac V)(E:XK)(t:TA):TE:=λY H Q=>t Y H λvs H1=>sp (vs++wn) H1 Q E
def Lf(C:Ak)(m:Ah)(sp:Sp)(wn:Ac V)(E:XK)(ta:TE)(t:TA):TE:=λY H Q=>ta Y H λx H1=>∃ a dx fs,x=.ref a/\H1 a=Aa (.ins C dx fs)/\fs.lookup m=Ae /\
 t Y H1 λvs H2=>sp (x::(vs++wn)) H2 Q E
def uO(C:Ak)(sp:Sp)(wn:Ac V)(E:XK)(t:TA):TE:=λY H Q=>t Y H λvs H1=>∀ x dx,H1 x=Ae->H1 dx=Ae->dx≠x ->
 sp (.ref x::(vs++wn)) (upd (upd H1 dx (.own x)) x (.ins C dx [])) (λv H2=>v=.non/\Q (.ref x) H2) E
noncomputable def CV(K:Fg)(fd:Bi)(ps:Ac Ah)(ds:Ac Al):Prop:=
 ∀(s:Ar)(us:Ac Al),K.In s.heap->(us++ds).length=ps.length->Gy s fd ⟨us,[]⟩ (ps.zip (us++ds))
theorem CV.all{K:Fg}(h:∀ us:Ac Al,us.length=ps.length->Hd fd ⟨us,[]⟩=pure (ps.zip us)):CV K fd ps []:=λs us _ hl=>by
 rw[BA]at hl ⊢;exact .of_eq (h us hl)
def HI(CX:CXT)(X:Cx)(E:XK):Prop:=∀(pI:Pn)(Y:St)(H:Hp)(s:Ar)(e:Al)(s':Ar),Z8 X pI Y H s->CX X.stack H s E e s'->X.xe e s'
section
variable{X:Cx}{CX:CXT}{k:Ag}{f C:Ak}{fd:Bi}{ps:Ac Ah}{sp:Sp}{wn:Ac V}{ds:Ac Al}{E:XK}{x m:Ah}{p pos apos:AF}{e o:Aq}{es:Ac Aq}{ta:TE}{t:TA}
theorem Oc{Q:VK}(F:Y4 X.prog X.w X.K X.mg X.base CX k f fd ps sp)(hr:U5 k X.A)(hb:CV X.K fd ps ds)(hd:A1 wn ds)(hx:HI CX X E)(I:Z8 X pI Y H s)(r:A1 vs us)(h:sp (vs++wn) H Q E):AA (model X.prog X.w) X.A (call (.ref f) us) (EP X pI Y Q) X.xe s:=by
 have r2:A1 (vs++wn) (us++ds):=r.append hd;have hl:(us++ds).length=ps.length:=by rw[<-r2.length];exact F.len _ _ _ _ h
 refine FV (ED (F.run X.A X.stack s H ⟨us,[]⟩ (us++ds) (vs++wn) Q E hr I.env0 (hb s us I.kIn hl) r2 h) λr s' hq=>?_)
 cases r with
 |error e=>exact hx pI Y H s e s' I hq
 |ok fl=>
  cases fl with
  |ret u=>exact I.after hq
  |next=>exact A7 hq
  |brk=>exact A7 hq
  |cont=>exact A7 hq
theorem Kd(F:Y4 X.prog X.w X.K X.mg X.base CX k f fd ps sp)(hr:U5 k X.A)(hg:Gl X x)(hm:X.mg x=Aa (.ref f))(hk:Ba X.K (.ref f)=Ab)(hb:CV X.K fd ps ds)(hd:A1 wn ds)(hx:HI CX X E)(ha:PA X (e::es) t)(zS:(x==("__debug__" : Ah))=Af:=by decide)(he:Aw (e::es) X.env=(Af,eval e X.env)::Aw es X.env:=by rfl)(zR:(Br pos (Aw es X.env)).any (·.1)=Af:=by rfl):PE X (.Call (.Name x p) (e::es) [] pos) (V5 sp wn E t):=by
 intro pI s Y H Q I h;refine DJ (Ju I hg hm ?_ zS);refine DI (h₀:=X.base) I.ok.mod.kin hk (U4 (ha pos pI s Y H _ I h) λus s1 ⟨vs,H1,I1,r,q⟩=>⟨I1.kIn,?_⟩) he zR
 exact Oc F hr hb hd hx I1 r q
structure Mk (K:Fg) (C f:Ak):Prop where
 makes:GN K C=Ab
 init:At K (.ref C) "__init__" = Aa (Aa (.ref f))
 fn:Cn K (.ref f)=Ab
 kp:Ba K (.ref C)=Ab
theorem TU{Q:VK}(M:Mk X.K C f)(F:Y4 X.prog X.w X.K X.mg X.base CX k f fd ps sp)(hr:U5 (k+1) X.A)(hb:CV X.K fd ps ds)(hd:A1 wn ds)(hx:HI CX X E)(I:Z8 X pI Y H s)(r:A1 vs us)(h:∀ x dx,H x=Ae->H dx=Ae->dx≠x->sp (.ref x::(vs++wn)) (upd (upd H dx (.own x)) x (.ins C dx [])) (λv H2=>v=.non/\Q (.ref x) H2) E):AA (model X.prog X.w) X.A (call (.ref C) us) (EP X pI Y Q) X.xe s:=by
 have hq:=h (s.heap.objs.size+1) s.heap.objs.size (I.hok.fresh (K1 _)) (I.hok.fresh (AU _)) (BB (Gj _));have I2:=Z8.made (C:=C) I;have r2:A1 (V.ref (s.heap.objs.size+1)::(vs++wn)) (Bm (s.heap.objs.size+1)::(us++ds)):=.cons rfl (r.append hd);have hl:(Bm (s.heap.objs.size+1)::us++ds).length=ps.length:=by
  have e:=r2.length;rw[F.len _ _ _ _ hq]at e;exact e.symm
 refine FV (dU (f:=f) I.kIn M.makes M.init (AD.mp M.fn) (ED (F.run _ X.stack _ _ ⟨Bm (s.heap.objs.size+1)::us,[]⟩ (Bm (s.heap.objs.size+1)::(us++ds)) _ _ E (hr.make C us [])
  (I2.env0.make C us []) (hb _ (Bm (s.heap.objs.size+1)::us) I2.kIn hl) r2 hq) λr s' bp=>?_))
 cases r with
 |error e=>exact hx pI Y _ _ e s' I2 bp
 |ok fl=>
  cases fl with
  |ret u=>
   obtain⟨v,H',I3,rv,ev,q3⟩:=I2.after bp;subst ev;exact⟨rv,⟨V.ref (s.heap.objs.size+1),H',I3,rfl,q3⟩⟩
  |next=>exact A7 bp
  |brk=>exact A7 bp
  |cont=>exact A7 bp
theorem iS(M:Mk X.K C f)(F:Y4 X.prog X.w X.K X.mg X.base CX k f fd ps sp)(hr:U5 (k+1) X.A)(hg:Gl X x)(hm:X.mg x=Aa (.ref C))(hb:CV X.K fd ps ds)(hd:A1 wn ds)(hx:HI CX X E)(ha:PA X (e::es) t)(zS:(x==("__debug__" : Ah))=Af:=by decide)(he:Aw (e::es) X.env=(Af,eval e X.env)::Aw es X.env:=by rfl)(zR:(Br pos (Aw es X.env)).any (·.1)=Af:=by rfl):PE X (.Call (.Name x p) (e::es) [] pos) (uO C sp wn E t):=by
 intro pI s Y H Q I h;refine DJ (Ju I hg hm ?_ zS);refine DI (h₀:=X.base) I.ok.mod.kin M.kp (U4 (ha pos pI s Y H _ I h) λus s1 ⟨vs,H1,I1,r,q⟩=>⟨I1.kIn,?_⟩) he zR
 exact TU M F hr hb hd hx I1 r q
end
section
variable{X:Cx}{CX:CXT}{k:Ag}{f C:Ak}{fd:Bi}{ps ks:Ac Ah}{sp:Sp}{E:XK}{x m:Ah}{p pos apos kpos:AF}{e o:Aq}{es:Ac Aq}{kws:Ac CB}{te ta:TE}{t tk:TA}{nm:Ao Ah}
variable{g:Ac Al->Ac Al->Ac Al}{gV:Ac V->Ac V->Ac V}
end
structure zX (N P:Ac Ah) (sc:Cb):Prop where
 kind:sc.kind=.function
 co:sc.isCoroutine=Af
 gen:sc.isGenerator=Af
 nd:N.Nodup
 pre:N.take P.length=P
 par:∀ x∈P,sc.names.lookup x=Aa .local\/sc.names.lookup x=Aa .cell
 nofree:∀ y∈sc.names,y.2≠.free
theorem Te{kindOf:Ah->Ao D7}{x:Ah}:∀{binds:Ac (Ah×Al)}{m:Ah->Ao Al},(∀ v,(x,v)∉binds)->Jn kindOf binds m x=m x
 |[],_,_=>rfl
 |(n,v)::r,m,h=>by
  unfold Jn;rw[Te λw hw=>h w (AE _ hw)]
  split
  .have:x≠n:=by rintro rfl;exact h v AY
   simp[this]
  .rfl
theorem Tg{kindOf:Ah->Ao D7}{x:Ah}:∀{binds:Ac (Ah×Al)}{m:Ah->Ao Al},(∀ v,(x,v)∉binds)->Jm kindOf binds m x=m x
 |[],_,_=>rfl
 |(n,v)::r,m,h=>by
  unfold Jm;rw[Tg λw hw=>h w (AE _ hw)]
  split
  .rfl
  .have:x≠n:=by rintro rfl;exact h v AY
   simp[this]
theorem Tf{kindOf:Ah->Ao D7}{x:Ah}{v:Al}:∀{P:Ac Ah}{vs:Ac Al}{i:Ag}{m:Ah->Ao Al},P.Nodup->P[i]?=Aa x->vs[i]?=Aa v->kindOf x=Aa .local->Jn kindOf (P.zip vs) m x=Aa v
 |[],_,_,_,_,h,_,_=>by simp at h
 |_::_,[],_,_,_,_,h,_=>by simp at h
 |p::P,w::vs,0,m,nd,h1,h2,hk=>by
  simp at h1 h2;subst h1;subst h2;show Jn kindOf ((p,w)::P.zip vs) m p=_;unfold Jn;rw[Te λv hv=>(GI.mp nd).1 (GJ hv).1,Au hk]
  simp
 |p::P,w::vs,i+1,m,nd,h1,h2,hk=>by
  show Jn kindOf ((p,w)::P.zip vs) m x=_;unfold Jn;exact Tf (i:=i) (GI.mp nd).2 (by simpa using h1) (by simpa using h2) hk
theorem Ti{kindOf:Ah->Ao D7}{x:Ah}{v:Al}:∀{P:Ac Ah}{vs:Ac Al}{i:Ag}{m:Ah->Ao Al},P.Nodup->P[i]?=Aa x->vs[i]?=Aa v->kindOf x≠Aa .local->Jm kindOf (P.zip vs) m x=Aa v
 |[],_,_,_,_,h,_,_=>by simp at h
 |_::_,[],_,_,_,_,h,_=>by simp at h
 |p::P,w::vs,0,m,nd,h1,h2,hk=>by
  simp at h1 h2;subst h1;subst h2;show Jm kindOf ((p,w)::P.zip vs) m p=_;unfold Jm;rw[Tg λv hv=>(GI.mp nd).1 (GJ hv).1,Ay hk]
  simp
 |p::P,w::vs,i+1,m,nd,h1,h2,hk=>by
  show Jm kindOf ((p,w)::P.zip vs) m x=_;unfold Jm;exact Ti (i:=i) (GI.mp nd).2 (by simpa using h1) (by simpa using h2) hk
noncomputable def start(N:Ac Ah)(vs:Ac V):St:=vs.map Aa++EA (N.length-vs.length) Ae
noncomputable def B1(CX:CXT)(P:AK)(w:AI)(K:Fg)(mg:Ah->Ao Al)(base:AJ)(N:Ac Ah)(qual:Ah)(scope:Cb)(f:Ak)(cd:Al)(A:A4)(outer:Ac B5)(s:Ar)(H:Hp)(E:XK):Cx where
 prog:=P
 w:=w
 K:=K
 mg:=mg
 base:=base
 A:=A.deeper (D3 qual scope s.heap.objs.size f cd)
 N:=N
 s₀:=s
 H₀:=H
 env:=D3 qual scope s.heap.objs.size f cd
 outer:=outer
 stack:=D3 qual scope s.heap.objs.size f cd::outer
 ex:=[]
 calm:=Ab
 fn:=λ_=>Ab
 pn:=[]
 xe:=λe s'=>AA (model P w) (A.deeper (D3 qual scope s.heap.objs.size f cd)) (leaving (D3 qual scope s.heap.objs.size f cd) e) (λ_ dh=>CX outer H s E e dh) (λe' dh=>CX outer H s E e' dh) s'
theorem Uq{sc:Cb}(h:sc.names.lookup x=Aa .cell):∃ c,(CO n sc.names []).lookup x=Aa c:=by
 have q:=Gd sc.names n [] (.inl h);exact CA.mp q
theorem PK{w:AI}{K:Fg}{mg:Ah->Ao Al}{base:AJ}{N ps:Ac Ah}{f:Ak}{cd:Al}{A:A4}{outer:Ac B5}{s1:Ar}{E:XK}(S:zX N ps scope)(hd:A.handled=Ae)(e0:yo P w K mg base A outer s H)(hl:vs.length=ps.length)(r:A1 vs us)(x:InCallC s s.heap.objs.size (Jn (D3 qual scope s.heap.objs.size f cd).kindOf (ps.zip us) λ_=>Ae) (CO (s.heap.objs.size+1) scope.names []) (Jm (D3 qual scope s.heap.objs.size f cd).kindOf (ps.zip us) λ_=>Ae) s1):Z8 (B1 CX P w K mg base N qual scope f cd A outer s H E) [] (start N vs) H s1:=by
 have zR:ps.length<=N.length:=by have:=congrArg XZ S.pre;rw[Ia]at this;omega
 obtain⟨h1,tk,rfl,hk⟩:=x.done;have ce:∀ b:Ak,b∉(B1 CX P w K mg base N qual scope f cd A outer s H E).ex:=λb z=>absurd (show b∈([]:Ac Ak) from z) (by simp)
 refine⟨⟨e0.mod,S.kind,rfl,rfl,AU _,λy z c h1 h2=>?_,λy hy=>?_,λy c _ h=>?_,λ_=>hd,Around.frames_deeper e0.frames,.inr ⟨rfl,rfl⟩,λb z=>absurd z (ce b),e0.bs,e0.bsz,λb _ _=>ce b,λb z=>absurd z (ce b),e0.funs,e0.frf⟩,
  rfl,e0.bare,Un.kept hk,⟨_,x.toInCall.ns,λi y v h1 h2 h3=>?_⟩,λy c h=>⟨_,x.cell y c h⟩,e0.hok.fresh (AU _),λy c h=>?_,λp hp=>absurd (show p∈([]:Pn) from hp) (by simp),e0.hok.kept hk,?_⟩
 .exact name_of_addr x.apart (CK h1) (CK h2)
 .have hy:scope.names.lookup y=Aa .cell\/scope.names.lookup y=Aa .free:=hy;rcases hy with hy|hy
  .exact Uq hy
  .exact absurd rfl (S.nofree _ (CK hy))
 .exact GM (x.above y c (CK h))
 .have hi:i<vs.length:=by
   unfold start at h2;by_cases hi:i<vs.length
   .exact hi
   .rw[XV (by simpa using hi)]at h2
    rw[XX]at h2;split at h2<;>cases h2
  have ha:vs[i]?=Aa v:=by
   unfold start at h2;rw[Fp (by simpa using hi),Ev]at h2
   cases e:vs[i]? with
   |none=>rw[e]at h2;cases h2
   |some a=>rw[e]at h2;cases h2;rfl
  obtain⟨u,hu,rv⟩:=r.get ha;have hp:ps[i]?=Aa y:=by
   rw[<-S.pre,List.getElem?_take_of_lt (by omega)];exact h1
  have ndP:ps.Nodup:=by rw[<-S.pre];exact S.nd.sublist (List.take_sublist _ _)
  refine⟨u,rv,?_⟩;rcases S.par y (GH hp) with k|k
  .exact .inl ⟨k,Tf ndP hp hu k⟩
  .obtain⟨c,e⟩:=Uq (n:=s.heap.objs.size+1) k;refine .inr ⟨.inl k,c,e,?_⟩;have q:=x.cell y c e;rw[Ti ndP hp hu (by show scope.names.lookup y≠_;rw[k];decide)]at q
   exact q
 .exact e0.hok.fresh (GM (x.above y c (CK h)))
 .unfold start;show _=N.length;rw[BV,Bc,X4];omega
theorem Hm{w:AI}{K:Fg}{mg:Ah->Ao Al}{base:AJ}{f:Ak}{name:Ah}{params:Mu}{dV kV doc pm cdv ct oc:Al}{an od:Ao Ak}{osl:Bl (Ao Al)}{N ps:Ac Ah}(lk:K.lookup f=Aa ⟨oc,od,.func (B2 name qual params body scope dV kV doc pm an cdv ct),osl⟩)(zy:DE K cdv qual=Ab)(S:zX N ps scope)(len:∀ vs H Q E,sp vs H Q E->vs.length=ps.length)(wo:∀(A:A4)(outer:Ac B5)(s:Ar)(H:Hp)(vs:Ac V)(Q:VK)(E:XK),U5 k (A.deeper (D3 qual scope s.heap.objs.size f cdv))->sp vs H Q E ->
   ∃ t,yp (B1 CX P w K mg base N qual scope f cdv A outer s H E) body t/\t {nx:=λ_ H'=>Q .non H',rt:=Q} (start N vs) H):Y4 P w K mg base CX (k+1) f (B2 name qual params body scope dV kV doc pm an cdv ct) ps sp:=by
 refine⟨len,λA outer s H args us vs Q E hr e0 hb r sf=>?_⟩
 have hl:=len _ _ _ _ sf;have KX:K.In s.heap:=e0.mod.kin.keeps λb o e=>(e0.bs b o e).1
 have lim:s.heap.NoLimit:=e0.mod.nolimit.keeps λb o e=>(e0.bs b o e).1
 have wq:∀ y∈ps.zip us,scope.names.lookup y.1=Aa .local\/(scope.names.lookup y.1=Aa .cell/\((CO (s.heap.objs.size+1) scope.names []).lookup y.1).isSome=Ab):=λ⟨n,v⟩ hy=>by
  rcases S.par n (GJ hy).1 with q|q
  .exact .inl q
  .exact .inr ⟨q,Gd _ _ _ (.inl q)⟩
 refine GC hr.depth (KX _ _ lk) rfl S.co S.gen rfl (Hy KX zy) (hb _ _ _ _ ?_);refine E7 S.kind wq λenv he s1 x=>?_
 subst he;refine⟨lim.keeps x.toInCall.keep,J9 ?_⟩;obtain⟨t,ht,hq⟩:=wo A outer s H vs Q E (hr.deeper _) sf;have I:Z8 (B1 CX P w K mg base N qual scope f cdv A outer s H E) [] (start N vs) H s1:=PK S hr.hd e0 hl r x;refine Bj (ht [] s1 (start N vs) H _ I hq) (λfl s' hs=>?_) λe s' hs=>hs
 have fin:∀{Y':St}{H':Hp}{v:V}{u:Al},Z8 (B1 CX P w K mg base N qual scope f cdv A outer s H E) [] Y' H' s'->Bt v u->Q v H'->CE outer P w H s Q u s':=
  λ{Y' H' v u} J rv q=>⟨v,H',J.os,J.bare,J.base,J.hok,rv,q⟩
 cases fl with
 |ret u=>
  obtain⟨v,Y',H',J,rv,q⟩:=hs;exact fin J rv q
 |next=>
  obtain⟨Y',H',J,q⟩:=hs;exact fin (v:=V.non) (u:=Du) J rfl q
 |brk=>
  obtain⟨_,_,_,q⟩:=hs;exact A7 q
 |cont=>
  obtain⟨_,_,_,q⟩:=hs;exact A7 q
section
variable{X:Cx}{x:Ah}{p pos:AF}{e:Aq}{es:Ac Aq}{t:TA}{id T:CQ}{r:Ac V->Hp->VK->Prop}
def tCB(r:Ac V->Hp->VK->Prop)(t:TA):TE:=λY H Q=>t Y H λvs H1=>r vs H1 Q
theorem Kl(hc:Gs X (.builtin id) r)(hg:Gl X x)(hm:X.mg x=Ae)(hv:De x=Aa (.builtin id))(ha:PA X (e::es) t)(hn:x≠"__name__" := by decide)(zS:(x==("__debug__" : Ah))=Af:=by decide)(he:Aw (e::es) X.env=(Af,eval e X.env)::Aw es X.env:=by rfl)(zR:(Br pos (Aw es X.env)).any (·.1)=Af:=by rfl):PE X (.Call (.Name x p) (e::es) [] pos) (tCB r t):=by
 intro pI s Y H Q I h;refine DJ (M9 I hg hm hv ?_ hn zS);exact PyProof.Rows.callWith_builtin1 (U4 (ha pos pI s Y H _ I h) λus s1 ⟨vs,H1,I1,r1,q1⟩=>hc pI s1 Y H1 vs us Q I1 r1 q1) he zR
theorem PH(hc:Gs X (.type T) r)(hg:Gl X x)(hm:X.mg x=Ae)(hv:De x=Aa (.type T))(ha:PA X (e::es) t)(hn:x≠"__name__" := by decide)(zS:(x==("__debug__" : Ah))=Af:=by decide)(he:Aw (e::es) X.env=(Af,eval e X.env)::Aw es X.env:=by rfl)(zR:(Br pos (Aw es X.env)).any (·.1)=Af:=by rfl):PE X (.Call (.Name x p) (e::es) [] pos) (tCB r t):=by
 intro pI s Y H Q I h;refine DJ (M9 I hg hm hv ?_ hn zS);exact EI (U4 (ha pos pI s Y H _ I h) λus s1 ⟨vs,H1,I1,r1,q1⟩=>hc pI s1 Y H1 vs us Q I1 r1 q1) he zR
end
end L2
namespace HT
open PySem PyProof.Rows
variable{sl:Ak}
section
open PySem.SeqAt
open PySem.AutoSeq1 (wpAny_loadPart')
open PySem.MeetsSeq PySem.MeetsSeq2 PySem.MeetsSeq3
end
section
variable{prog:AK}{w:AI}{A:A4}{E:Vq}{s:Ar}
theorem cat_tup{t b:Ak}{vs ws:Ac Al}{Q:Vq}(ht:LH s.heap t vs.toArray)(hb:LH s.heap b ws.toArray)(hv:vs≠[])(h1:ws=[]->Q (.ref t) s)(h2:ws≠[]->Q (.ref s.heap.objs.size) { s with heap:=s.heap.push { cls:=.type "tuple",data:=.seq (vs++ws).toArray } })(hsz:vs.length+ws.length<=sizeLine):AA (model prog w) A (Cf .Add (.ref t) (.ref b)) Q E s:=by
 obtain⟨⟨cls,dd,data,sl⟩,ho,hc,n,hd⟩:=id ht;obtain⟨⟨cls2,ö,data2,ã⟩,Ë,hc2,n2,hd2⟩:=id hb;simp only at hc hd hc2 hd2;subst hc hd hc2 hd2;have e:vs.toArray++ws.toArray=(vs++ws).toArray:=by simp
 by_cases hw:ws=[]
 .exact Ka ⟨_,ho,rfl⟩ ⟨_,Ë,rfl⟩ ZO seq_tuple_add Y_6 Y_1 (YZ _ _)
   (tuple_addW1 t b vs.toArray ws.toArray n n2 dd ö sl ã (by simpa using hv) (by simp[hw])) ⟨ho,Ë,h1 hw⟩
 .refine Ka ⟨_,ho,rfl⟩ ⟨_,Ë,rfl⟩ ZO seq_tuple_add Y_6 Y_1 (YZ _ _)
   (tuple_addW2 t b vs.toArray ws.toArray n n2 dd ö sl ã (by simpa using hv) (by simpa using hw) (by rw[AX,AX];exact hsz)) ⟨ho,Ë,?_⟩
  rw[e];exact h2 hw
noncomputable def sIx(n d:Ag):Ao Ai->Ag
 |none=>d
 |some v=>if v<0 then (v+(n:Ai)).toNat else min v.toNat n
theorem nV(n d:Ag)(hd:d<=n)(o:Ao Ai):sIx n d o<=n:=by
 cases o with
 |none=>exact hd
 |some v=>
  show (if v<0 then (v+(n:Ai)).toNat else min v.toNat n)<=n
  by_cases hv:v<0
  .rw[Au hv];omega
  .rw[Ay hv];exact Nat.min_le_right _ _
theorem UQ(v:Ai)(n d:Ag):(if v<0 then max (v+(n:Ai)) 0 else min v (n:Ai))=((sIx n d (Aa v):Ag):Ai):=by
 show (if v<0 then max (v+(n:Ai)) 0 else min v (n:Ai))=(((if v<0 then (v+(n:Ai)).toNat else min v.toNat n):Ag):Ai)
 by_cases hv:v<0
 .simp only[Au hv];omega
 .simp only[Ay hv];omega
theorem aQ(lo hi:Ao Ai)(n:Ag):Ft lo hi 1 (n:Ai)=(((sIx n 0 lo:Ag):Ai),((sIx n n hi:Ag):Ai)):=by
 have h1:¬ ((1:Ai)<0):=by omega
 unfold Ft;simp only[h1,JO];refine Mx ?_ ?_
 .cases lo with
  |none=>rfl
  |some v=>exact UQ v n 0
 .cases hi with
  |none=>rfl
  |some v=>exact UQ v n n
theorem bE(i j:Ag):DY (i:Ai) (j:Ai) 1=j-i:=by
 unfold DY;have h1:(1:Ai)>0:=by omega
 simp only[h1,EH,Int.ediv_one];split<;>omega
theorem SH{v:Al}{o:Ao Ai}{Q:Ao Ai->Ar->Prop}(p:Hx v o)(h:Q o s):AA (model prog w) A (Builtin.Slice.slicePartIndex v) Q E s:=by
 cases p with
 |none=>exact Yp h
 |int i t=>exact slicePart_int h
theorem Z_6{vl vu:Al}{lo hi:Ao Ai}{n:Ag}{Q:Ai×Ai×Ag->Ar->Prop}(hs:s.heap.IsSliceOf sl vl vu .none)(pl:Hx vl lo)(pu:Hx vu hi)(h:Q (((sIx n 0 lo:Ag):Ai),1,sIx n n hi-sIx n 0 lo) s):AA (model prog w) A (Yt (.ref sl) (pure (n:Ai))) Q E s:=by
 obtain⟨os,bn,hcs,É⟩:=id hs;unfold Yt Builtin.Slice.sliceFields;refine As (As (E9 bn É (x:=vl) rfl (As (E9 bn É (x:=vu) rfl (As (E9 bn É (x:=.none) rfl (A2 ?_)))))));refine As (Yp ?_);show AA _ _ (if ((1:Ai)==0)=Ab then _ else _) _ _ s
 rw[Ay (by decide)]
 refine As (SH pl (As (SH pu (As (A2 ?_)))));show AA _ _ (match Ft lo hi 1 (n:Ai) with|(lo,hi)=>pure (lo,(1:Ai),DY lo hi 1)) _ _ s
 rw[aQ lo hi n];show AA _ _ (pure (((sIx n 0 lo:Ag):Ai),(1:Ai),DY ((sIx n 0 lo:Ag):Ai) ((sIx n n hi:Ag):Ai) 1)) _ _ s;rw[bE];exact A2 h
theorem eP(xs:Bl Al)(i k:Ag):((BR k).filterMap fun(m:Ag)=>xs[((i:Ai)+(m:Ai)*1).toNat]?).toArray=((xs.toList.drop i).take k).toArray:=by
 have e:(fun(m:Ag)=>xs[((i:Ai)+(m:Ai)*1).toNat]?)=λm=>xs[i+m]?:=by
  funext m
  have:((i:Ai)+(m:Ai)*1).toNat=i+m:=by omega
  rw[this]
 rw[e];have:=pick_run xs i k;rw[List.filterMap_map]at this;have e2:((λx=>xs[x]?) ∘ λx=>i+x)=λm=>xs[i+m]?:=rfl
 rw[e2]at this;rw[this]
theorem getItem_tuple_cut{t:Ak}{items:Bl Al}{vl vu:Al}{lo hi:Ao Ai}{Q:Vq}(ht:LH s.heap t items)(hs:s.heap.IsSliceOf sl vl vu .none)(pl:Hx vl lo)(pu:Hx vu hi)(hw:¬ (sIx items.size 0 lo=0/\sIx items.size items.size hi=items.size))(h:Q (.ref s.heap.objs.size) { s with heap:=s.heap.push { cls:=.type "tuple",data:=.seq ((items.toList.drop (sIx items.size 0 lo)).take (sIx items.size items.size hi-sIx items.size 0 lo)).toArray } })(hsz:items.size<=sizeLine):AA (model prog w) A (K0 (.ref t) (.ref sl)) Q E s:=by
 have vh:sizeOk (.seq ((items.toList.drop (sIx items.size 0 lo)).take (sIx items.size items.size hi-sIx items.size 0 lo)).toArray):=by
  show ((items.toList.drop (sIx items.size 0 lo)).take (sIx items.size items.size hi-sIx items.size 0 lo)).toArray.size<=sizeLine;rw[AX,Ia,X1,G7];omega
 have hj:sIx items.size items.size hi<=items.size:=nV _ _ (AU _) hi;obtain⟨os,bn,hcs,É⟩:=id hs;have hTs:s.TypeIs (.ref sl) "slice" := ⟨os,bn,hcs⟩;unfold K0
 try with_reducible refine Ck ?_
 first|refine As (A2 ?_)|skip
 refine As (wpAny_sequenceKey ht.typeIs (by decide) ?_)
 refine As (wpAny_callSpecial?_slot (name:=Aj "__getitem__") ht.typeIs Yq
  (wpAny_call_entry Yq ht.typeIs entry_tuple_getitem ?_ (args_tuple_getitem _ _)))
 show AA _ _ (Builtin.Tuple.tupleItemsOf (.ref t) >>= _) _ _ s;refine As (tupleItemsOf_ ht ?_);refine As (wpAny_typeOf hTs ?_);rw[Au (by decide)]
 refine As (Z_6 hs pl pu ?_);have hno:¬ ((((sIx items.size 0 lo:Ag):Ai)==0&&(1:Ai)==1&&(sIx items.size items.size hi-sIx items.size 0 lo)==items.size)=Ab):=by
  intro q;rw[Am,Am]at q;have q1:((sIx items.size 0 lo:Ag):Ai)=0:=eq_of_beq q.1.1;have q2:sIx items.size items.size hi-sIx items.size 0 lo=items.size:=eq_of_beq q.2;exact hw ⟨by omega,by omega⟩
 show AA _ _ (if (((sIx items.size 0 lo:Ag):Ai)==0&&(1:Ai)==1&&(sIx items.size items.size hi-sIx items.size 0 lo)==items.size)=Ab then _ else _) _ _ s
 rw[Ay hno,eP]
 first
  |exact As (m:=D4 _) (DV (A2 ⟨_,rfl,A2 h⟩) vh)
  |exact As (m:=D4 _) (DV (As (A2 (A2 ⟨_,rfl,A2 h⟩))) vh)
  |exact As (As (m:=D4 _) (DV (A2 (A2 ⟨_,rfl,A2 h⟩)) vh))
  |exact As (As (m:=D4 _) (DV (A2 ⟨_,rfl,A2 h⟩) vh))
end
end HT
namespace L2
open PySem PySem.Spec PyProof.Rows
variable{r:V->Ao Ai->Ao Ai->Hp->VK->Prop}{xs:Ac V}{us its:Ac Al}{n t':Ag}{i:Ai}{α:Type}
abbrev TO:=St->Hp->(Ao Ai->Hp->Prop)->Prop
noncomputable def PO(X:Cx)(e:Ao Aq)(t:TO):Prop:=
 ∀(pI:Pn)(s:Ar)(Y:St)(H:Hp)(Q:Ao Ai->Hp->Prop),Z8 X pI Y H s->t Y H Q ->
  AA (model X.prog X.w) X.A (evalPart e X.env) (λu s'=>∃ o H',Z8 X pI Y H' s'/\Hx u o/\Q o H') X.xe s
def fY:TO:=λ_ H Q=>Q Ae H
def uM(t:TE):TO:=λY H Q=>t Y H λx H1=>∃ i,x=.int i/\Q (Aa i) H1
section
variable{X:Cx}{e:Aq}{te:TE}{lo hi:Ao Aq}{tl th:TO}{pos p2:AF}
theorem iQ:PO X Ae fY:=by
 intro pI s Y H Q I h;rw[evalPart_none];exact A2 ⟨Ae,H,I,.none,h⟩
theorem iP(h:PE X e te):PO X (Aa e) (uM te):=by
 intro pI s Y H Q I hw;rw[evalPart_some];refine U4 (h pI s Y H _ I hw) λu s1 ⟨x,H1,I1,r1,q1⟩=>?_
 obtain⟨i,rfl,q⟩:=q1;obtain⟨t,rfl⟩:=r1;exact⟨Aa i,H1,I1,.int i t,q⟩
noncomputable def qf(X:Cx)(r:V->Ao Ai->Ao Ai->Hp->VK->Prop):Prop:=
 ∀(pI:Pn)(s:Ar)(Y:St)(H:Hp)(x:V)(v vl vu:Al)(lo hi:Ao Ai)(sl:Ak)(Q:VK),Z8 X pI Y H s->Bt x v->s.heap.IsSliceOf sl vl vu .none->Hx vl lo->Hx vu hi->r x lo hi H Q ->
  ∃ T id,typeLookup (.type T) "__getitem__" = pure (Aa (.builtin id))/\s.TypeIs v T/\AA (model X.prog X.w) X.A (K0 v (.ref sl)) (EP X pI Y Q) X.xe s
theorem qf.or{r':V->Ao Ai->Ao Ai->Hp->VK->Prop}(h:qf X r)(h':qf X r'):qf X (λx lo hi H Q=>r x lo hi H Q\/r' x lo hi H Q):=by
 intro pI s Y H x v vl vu lo hi sl Q I rx hs pl pu q;rcases q with q|q
 .exact h pI s Y H x v vl vu lo hi sl Q I rx hs pl pu q
 .exact h' pI s Y H x v vl vu lo hi sl Q I rx hs pl pu q
def tSl(r:V->Ao Ai->Ao Ai->Hp->VK->Prop)(te:TE)(tl th:TO):TE:=λY H Q=>te Y H λx H1=>tl Y H1 λl H2=>th Y H2 λu H3=>r x l u H3 Q
theorem eS(hr:qf X r)(he:PE X e te)(hl:PO X lo tl)(hu:PO X hi th):PE X (.Subscript e (.Slice lo hi Ae p2) pos) (tSl r te tl th):=by
 intro pI s Y H Q I h;refine Subscript_ (U4 (he pI s Y H _ I h) λv s1 ⟨x,H1,I1,r1,q1⟩=>?_)
 refine wpAny_Slice (U4 (hl pI s1 Y H1 _ I1 q1) λvl s2 ⟨l,H2,I2,pl,q2⟩=>U4 (hu pI s2 Y H2 _ I2 q2) λvu s3 ⟨u,H3,I3,pu,q3⟩=>?_)
 rw[evalPart_none];refine A2 ?_;have I4:Z8 X pI Y H3 { s3 with heap:=s3.heap.push { cls:=.type "slice",data:=.fields #[vl,vu,.none] } }:=I3.kept (t':=s3.toks) λb ob q=>AB _ q
 obtain⟨T,id,hT,ht,hg⟩:=hr pI { s3 with heap:=s3.heap.push { cls:=.type "slice",data:=.fields #[vl,vu,.none] } } Y H3 x v vl vu l u s3.heap.objs.size Q I4 r1 (Heap.IsSliceOf.new ..) pl pu q3
 show AA (model X.prog X.w) X.A (subscriptTail e (.Slice lo hi Ae p2) v (.ref s3.heap.objs.size)) (EP X pI Y Q) X.xe { s3 with heap:=s3.heap.push { cls:=.type "slice",data:=.fields #[vl,vu,.none] } }
 exact tail_any (ops:=[.ref s3.heap.objs.size,v]) ht hT hg (by with_unfolding_all rfl)
noncomputable def KS(xs:Ac V)(lo hi:Ao Ai):Ac V:=(xs.drop (HT.sIx xs.length 0 lo)).take (HT.sIx xs.length xs.length hi-HT.sIx xs.length 0 lo)
theorem Sk(xs:Ac V)(lo hi:Ao Ai):(KS xs lo hi).length<=xs.length:=by
 unfold KS;rw[Ia,X1];omega
def Ww(K:Fg):V->Ao Ai->Ao Ai->Hp->VK->Prop:=λx lo hi H Q=>∃ a xs,x=.ref a/\yy K H a xs /\
 ¬ (HT.sIx xs.length 0 lo=0/\HT.sIx xs.length xs.length hi=xs.length)/\∀ p,H p=Ae->Q (.ref p) (upd H p (.tup (KS xs lo hi)))
theorem pG:qf X (Ww X.K):=by
 intro pI s Y H x v vl vu lo hi sl Q I rx hs pl pu h;obtain⟨a,xs,rfl,hx,hw,q⟩:=h;cases rx;obtain⟨its,r,ht,hz⟩:=I.tuple hx;have U8:its.toArray.size=xs.length:=by rw[AX];exact r.length.symm
 refine⟨"tuple",_,PyProof.Rows.slot_tuple_getitem.lookup,ht.typeIs,?_⟩;refine HT.getItem_tuple_cut ht hs pl pu (by rw[U8];exact hw) ?_ (by rw[U8];exact hz)
 rw[U8];refine⟨.ref s.heap.objs.size,_,I.laid (t':=s.toks) (o:=.tup (KS xs lo hi)) (λb ob q=>AB _ q) (AU _) ?_,rfl,q _ (I.hok.fresh (AU _))⟩
 exact⟨B8 (Sk xs lo hi) hz,_,(r.drop (HT.sIx xs.length 0 lo)).take (HT.sIx xs.length xs.length hi-HT.sIx xs.length 0 lo),Mt _ _⟩
def wR(K:Fg):R2:=λx y H Q=>∃ a b xs ys,x=.ref a/\y=.ref b/\yy K H a xs/\yy K H b ys/\xs≠[]/\xs.length+ys.length<=sizeLine /\
 (ys=[]->Q (.ref a) H)/\(ys≠[]->∀ p,H p=Ae->Q (.ref p) (upd H p (.tup (xs++ys))))
theorem A1.nil_iff(r:A1 xs us):us=[]↔xs=[]:=by
 cases r with
 |nil=>simp
 |cons _ _=>simp
theorem lB:zd X (Cf .Add) (wR X.K):=by
 intro pI s Y H x y v u Q I rx ry h;obtain⟨a,b,xs,ys,rfl,rfl,ha,hb,hx,hz,q1,q2⟩:=h;cases rx;cases ry;obtain⟨its,r1,p1,_⟩:=I.tuple ha;obtain⟨zt,r2,p2,_⟩:=I.tuple hb;refine HT.cat_tup p1 p2 (λz=>hx (r1.nil_iff.mp z)) (λz=>⟨.ref a,H,I,rfl,q1 (r2.nil_iff.mp z)⟩) (λz=>?_) (by rw[<-r1.length,<-r2.length];exact hz)
 refine⟨.ref s.heap.objs.size,_,I.laid (t':=s.toks) (o:=.tup (xs++ys)) (λb ob q=>AB _ q) (AU _) ?_,rfl,q2 (λw=>z (r2.nil_iff.mpr w)) _ (I.hok.fresh (AU _))⟩
 exact⟨by rw[BV];exact hz,_,r1.append r2,Mt _ _⟩
end
noncomputable def i5(n:Ag)(i:Ai):Ao Ag:=if 0<=i then (if i<n then Aa i.toNat else Ae) else if -(n:Ai)<=i then Aa (i+n).toNat else Ae
noncomputable def vv{α:Type}(xs:Ac α)(i:Ai):Ao α:=(i5 xs.length i).bind λj=>xs[j]?
theorem kD{j:Ag}(h:i5 n i=Aa j):seqIndex? i n=Aa j/\j<n/\-(n:Ai)<=i/\i<n:=by
 unfold i5 at h;by_cases h0:0<=i
 .rw[Au h0]at h;by_cases h1:i<n
  .rw[Au h1]at h;have e:i.toNat=j:=BD h;exact⟨by rw[seqIndex_of h0 h1,e],by omega,by omega,h1⟩
  .rw[Ay h1]at h;cases h
 .rw[Ay h0]at h;by_cases h1:-(n:Ai)<=i
  .rw[Au h1]at h;have e:(i+n).toNat=j:=BD h;exact⟨by rw[seqIndex_neg (by omega) h1,e],by omega,h1,by omega⟩
  .rw[Ay h1]at h;cases h
theorem Qv{xs:Ac α}{v:α}(h:vv xs i=Aa v):∃ j,seqIndex? i xs.length=Aa j/\xs[j]?=Aa v/\j<xs.length/\-(xs.length:Ai)<=i/\i<xs.length:=by
 unfold vv at h;cases e:i5 xs.length i with
 |none=>rw[e]at h;cases h
 |some j=>
  rw[e]at h;obtain⟨h1,h2,h3,h4⟩:=kD e;exact⟨j,h1,h,h2,h3,h4⟩
def N7(b:Aq):Prop:=∀ o i,subscripted b Af o i=operate [o,i] (K0 o i)
noncomputable def qb(X:Cx)(r:R2):Prop:=
 ∀(value slice:Aq)(pI:Pn)(s:Ar)(Y:St)(H:Hp)(x y:V)(v u:Al)(Q:VK),Z8 X pI Y H s->Bt x v->Bt y u->r x y H Q ->
  subscripted slice Af v u=operate [v,u] (K0 v u)->AA (model X.prog X.w) X.A (subscriptTail value slice v u) (EP X pI Y Q) X.xe s
noncomputable def qd(X:Cx)(id:CQ)(r:V->Ac V->Hp->VK->Prop):Prop:=
 ∀(pI:Pn)(s:Ar)(Y:St)(H:Hp)(x:V)(xs:Ac V)(v:Al)(us:Ac Al)(Q:VK),Z8 X pI Y H s->Bt x v->A1 xs us->r x xs H Q ->
  AA (model X.prog X.w) X.A (call (.builtin id) (v::us)) (EP X pI Y Q) X.xe s
section
variable{X:Cx}{a b:Aq}{ta tb:TE}{pos:AF}
theorem qb.or{r r':R2}(h:qb X r)(h':qb X r'):qb X (λx y H Q=>r x y H Q\/r' x y H Q):=by
 intro value slice pI s Y H x y v u Q I rx ry q hs;rcases q with q|q
 .exact h value slice pI s Y H x y v u Q I rx ry q hs
 .exact h' value slice pI s Y H x y v u Q I rx ry q hs
theorem qd.or{id:CQ}{r r':V->Ac V->Hp->VK->Prop}(h:qd X id r)(h':qd X id r'):qd X id (λx xs H Q=>r x xs H Q\/r' x xs H Q):=by
 intro pI s Y H x xs v us Q I rx rs q;rcases q with q|q
 .exact h pI s Y H x xs v us Q I rx rs q
 .exact h' pI s Y H x xs v us Q I rx rs q
theorem Re{r:R2}(hr:qb X r)(ha:PE X a ta)(hb:PE X b tb)(hs:N7 b):PE X (.Subscript a b pos) (ç r ta tb):=by
 intro pI s Y H Q I h;exact Subscript_ (R9 ha hb I h λv u s2 x y H2 I2 rx ry q=>hr a b pI s2 Y H2 x y v u Q I2 rx ry q (hs _ _))
def WB(K:Fg):R2:=λx y H Q=>∃ p xs i v,x=.ref p/\y=.int i/\Id K H p xs/\vv xs i=Aa v/\Q v H
def Wz(K:Fg):R2:=λx y H Q=>∃ p xs i v,x=.ref p/\y=.int i/\yy K H p xs/\vv xs i=Aa v/\Q v H
def WA:R2:=λx y H Q=>∃ z i c,x=.str z/\y=.int i/\z.length<=sizeLine/\vv z.cps.toList i=Aa c/\Q (.str ⟨#[c]⟩) H
theorem kC:qb X (WB X.K):=by
 intro value slice pI s Y H x y v u Q I rx ry h hs;obtain⟨p,xs,i,z,rfl,rfl,hq,he,q⟩:=h;cases rx;obtain⟨t,rfl⟩:=ry;obtain⟨its,r,pl,hz⟩:=I.list hq;obtain⟨j,h1,h2,h3,h4,h5⟩:=Qv he;obtain⟨w,ew,xh⟩:=r.get h2;have hl:=r.length;have hn:=L8;have fin:EP X pI Y Q w s:=⟨z,H,I,xh,q⟩;by_cases h0:0<=i
 .have hj:i.toNat=j:=by
   rw[seqIndex_of h0 h5]at h1;exact BD h1
  exact item_listR pl.isList h0 (by omega) (by rw[hj];simpa using ew) fin hs
 .have hj:(i+(its.toArray.size:Ai)).toNat=j:=by
   rw[seqIndex_neg (by omega) h4]at h1
   rw[AX,<-hl];exact BD h1
  exact F9 (x:=w) pl.isList.typeIs ZS.lookup
   (wpAny_getItem_list_neg (Q:=λr s'=>r=w/\EP X pI Y Q r s') pl.isList (by omega) (by rw[AX]<;>omega) (by omega) (by rw[hj];simpa using ew) ⟨rfl,fin⟩) hs
theorem VH:qb X (Wz X.K):=by
 intro value slice pI s Y H x y v u Q I rx ry h hs;obtain⟨p,xs,i,z,rfl,rfl,hq,he,q⟩:=h;cases rx;obtain⟨t,rfl⟩:=ry;obtain⟨its,r,pl,hz⟩:=I.tuple hq;obtain⟨j,h1,h2,h3,h4,h5⟩:=Qv he;obtain⟨w,ew,xh⟩:=r.get h2;have hl:=r.length;have hn:=L8;have fin:EP X pI Y Q w s:=⟨z,H,I,xh,q⟩;exact F9 (x:=w) pl.typeIs slot_tuple_getitem.lookup
  (getItem_tuple (j:=j) (Q:=λr s'=>r=w/\EP X pI Y Q r s') pl (by omega) (by omega) (by rw[AX,<-hl];exact h1) (by simpa using ew) ⟨rfl,fin⟩) hs
theorem qB:qb X WA:=by
 intro value slice pI s Y H x y v u Q I rx ry h hs;obtain⟨z,i,c,rfl,rfl,hz,he,q⟩:=h;obtain⟨t,rfl⟩:=rx;obtain⟨t',rfl⟩:=ry;obtain⟨j,h1,h2,h3,h4,h5⟩:=Qv he;have hl:z.cps.toList.length=z.length:=by simp[Str.length]
 rw[hl]at h1 h4 h5;have hn:=L8;exact tail_any (FQ s z t) slot_str_getitem.lookup (getItem_str (c:=c) (by
  have e1:decide (i < -(2 ^ 63:Ai))=Af:=BM (by omega)
  have e2:decide (i ≥ 2 ^ 63)=Af:=BM (by omega)
  rw[e1,e2,DQ]) (by rw[h1];simpa using h2) ⟨.str ⟨#[c]⟩,H,I.tok _,⟨_,rfl⟩,q⟩) hs
def rIx(K:Fg):R2:=λx y H Q=>WB K x y H Q\/Wz K x y H Q\/WA x y H Q
theorem qC:qb X (rIx X.K):=kC.or (VH.or qB)
theorem Z8.lst{pI:Pn}{Y:St}{H:Hp}{s:Ar}{p:Ak}{xs:Ac V}(I:Z8 X pI Y H s)(h:H p=Aa (.lst xs)):
  ∃(its:Ac Al)(n:Ag),A1 xs its/\s.heap.get? p=Aa { cls:=.type "list",data:=.seq its.toArray n }/\xs.length<=sizeLine:=by
 obtain⟨z,its,n,r,e⟩:=I.hok p _ h;exact⟨its,n,r,e,z⟩
theorem aE(lo hi:Ao Ai)(n:Ag):(E8 lo hi Ae n).1=((HT.sIx n 0 lo:Ag):Ai)/\(E8 lo hi Ae n).2.1=((HT.sIx n n hi:Ag):Ai)/\(E8 lo hi Ae n).2.2=1:=by
 refine⟨?_,?_,rfl⟩
 .cases lo with
  |none=>simp[E8,HT.sIx]
  |some i=>
   simp only[E8,HT.sIx,Yk,show (1:Ai)>0 by decide,EH]
   by_cases h:i<0
   .simp only[h,EH]<;>omega
   .simp only[h,JO]<;>omega
 .cases hi with
  |none=>simp[E8,HT.sIx]
  |some i=>
   simp only[E8,HT.sIx,Yk,show (1:Ai)>0 by decide,EH]
   by_cases h:i<0
   .simp only[h,EH]<;>omega
   .simp only[h,JO]<;>omega
theorem Z_9(its:Ac Al)(lo hi:Ao Ai):slicePick its.toArray lo hi Ae=((its.drop (HT.sIx its.length 0 lo)).take (HT.sIx its.length its.length hi-HT.sIx its.length 0 lo)).toArray:=by
 obtain⟨h1,h2,h3⟩:=aE lo hi its.toArray.size;unfold slicePick;rw[h1,h2,h3];simp only[sliceRange_one,pick_run,AX]<;>rfl
def Wy(K:Fg):V->Ao Ai->Ao Ai->Hp->VK->Prop:=λx lo hi H Q=>∃ a xs,x=.ref a/\Id K H a xs/\∀ p,H p=Ae->Q (.ref p) (upd H p (.lst (KS xs lo hi)))
theorem jE:qf X (Wy X.K):=by
 intro pI s Y H x v vl vu lo hi sl Q I rx hs pl pu h;obtain⟨a,xs,rfl,hx,q⟩:=h;cases rx;obtain⟨its,r,ht,hz⟩:=I.list hx;have U8:=r.length;refine⟨"list",_,ZS.lookup,ht.isList.typeIs,?_⟩;refine wpAny_getItem_list_slice ht.isList hs pl pu .none (by simp) ?_ (by rw[AX]<;>omega)
 rw[Z_9,<-U8];refine⟨.ref s.heap.objs.size,_,I.laid (t':=s.toks) (o:=.lst (KS xs lo hi)) (λb ob q=>AB _ q) (AU _) ?_,rfl,q _ (I.hok.fresh (AU _))⟩
 exact⟨B8 (Sk xs lo hi) hz,_,0,(r.drop (HT.sIx xs.length 0 lo)).take (HT.sIx xs.length xs.length hi-HT.sIx xs.length 0 lo),Bp _ rfl⟩
theorem NM:Gs X (.builtin "len") (λxs H Q=>∃ p ys,xs=[.ref p]/\(Id X.K H p ys\/yy X.K H p ys)/\Q (.int ys.length) H):=by
 intro pI s Y H xs us Q I r h;obtain⟨p,ys,rfl,hq,q⟩:=h;obtain⟨u,rfl,rx⟩:=KJ r;cases rx;have hn:=L8;rcases hq with hq|hq
 .obtain⟨its,r',pl,hz⟩:=I.list hq;have U8:=r'.length;exact Calls.call_len_list pl.isList (by simp only[AX]<;>omega) ⟨.int ys.length,H,I.tok _,⟨s.toks+1,by rw[AX,U8]⟩,q⟩
 .obtain⟨its,r',pl,hz⟩:=I.tuple hq;have U8:=r'.length;exact len_tuple pl (by simp only[AX]<;>omega) ⟨.int ys.length,H,I.tok _,⟨s.toks+1,by rw[AX,U8]⟩,q⟩
theorem aD:Gs X (.builtin "len") (λxs H Q=>∃ z,xs=[.str z]/\z.length<=sizeLine/\Q (.int z.length) H):=by
 intro pI s Y H xs us Q I r h;obtain⟨z,rfl,hz,q⟩:=h;obtain⟨u,rfl,t,rfl⟩:=KJ r;have hn:=L8;exact len_str (by omega) ⟨.int z.length,H,I.tok _,⟨_,rfl⟩,q⟩
theorem Gs.or{f:Al}{r r':Ac V->Hp->VK->Prop}(h:Gs X f r)(h':Gs X f r'):Gs X f (λxs H Q=>r xs H Q\/r' xs H Q):=by
 intro pI s Y H xs us Q I rs q;rcases q with q|q
 .exact h pI s Y H xs us Q I rs q
 .exact h' pI s Y H xs us Q I rs q
theorem Sr:Gs X (.type "list") (λxs H Q=>∃ p ys,xs=[.ref p]/\(Id X.K H p ys\/yy X.K H p ys)/\∀ l,H l=Ae->Q (.ref l) (upd H l (.lst ys))):=by
 intro pI s Y H xs us Q I r h;obtain⟨p,ys,rfl,hq,q⟩:=h;obtain⟨u,rfl,rx⟩:=KJ r;cases rx;have fin:∀(its:Ac Al),A1 ys its->ys.length<=sizeLine->∀(h':AJ)(c':Ag),(∀ b o',s.heap.get? b=Aa o'->h'.get? b=Aa o') ->
   h'.get? s.heap.objs.size=Aa { cls:=.type "list",dict:=Ae,data:=.seq its.toArray c',slots:=#[] }->EP X pI Y Q (.ref s.heap.objs.size) {s with heap:=h'}:=λits r' hz h' c' kp e=>
  ⟨.ref s.heap.objs.size,_,I.laid (t':=s.toks) kp (AU _) (show ObjOk X.prog X.w _ h' _ (.lst ys) from ⟨hz,its,c',r',e⟩),rfl,q _ (I.hok.fresh (AU _))⟩
 rcases hq with hq|hq
 .obtain⟨its,r',pl,hz⟩:=I.list hq;have U8:=r'.length;obtain⟨o,ho,hc,n,hd⟩:=pl.isList;exact call_list_seq p (.inl rfl) ho hc hd (λh' c' kp e=>fin its r' hz h' c' kp e) (by simp only[AX]<;>omega)
 .obtain⟨its,r',pl,hz⟩:=I.tuple hq;have U8:=r'.length;obtain⟨o,ho,hc,n,hd⟩:=pl;exact call_list_seq p (.inr rfl) ho hc hd (λh' c' kp e=>fin its r' hz h' c' kp e) (by simp only[AX]<;>omega)
theorem Sd:Gs X (.type "tuple") (λxs H Q=>∃ p ys,xs=[.ref p]/\((Id X.K H p ys/\∀ l,H l=Ae->Q (.ref l) (upd H l (.tup ys)))\/(yy X.K H p ys/\Q (.ref p) H))):=by
 intro pI s Y H xs us Q I r h;obtain⟨p,ys,rfl,h⟩:=h;obtain⟨u,rfl,rx⟩:=KJ r;cases rx;rcases h with ⟨hq,q⟩|⟨hq,q⟩
 .obtain⟨its,r',pl,hz⟩:=I.list hq;have U8:=r'.length;refine call_tuple_list pl.isList (λh' kp=>?_) (by simp only[AX]<;>omega)
  have I1:Z8 X pI Y H {s with heap:=h'}:=I.kept (t':=s.toks) kp
  have I2:Z8 X pI Y (upd H h'.objs.size (.tup ys)) { s with heap:=h'.push { cls:=.type "tuple",data:=.seq its.toArray } }:=
   I1.laid (t':=s.toks) (λb o e=>AB _ e) (AU _) (show ObjOk X.prog X.w _ _ _ (.tup ys) from ⟨hz,its,r',Mt _ _⟩)
  exact⟨.ref h'.objs.size,_,I2,rfl,q _ (I1.hok.fresh (AU _))⟩
 .obtain⟨its,r',pl,hz⟩:=I.tuple hq;exact call_tuple_same pl ⟨.ref p,H,I,rfl,q⟩
def tyV(K:Fg)(T:CQ)(x:V)(H:Hp):Prop:=match x with
  |.str _=>T = "str"
  |.int _=>T = "int"
  |.ref p=>(T = "list"/\∃ xs,Id K H p xs)\/(T = "tuple"/\∃ o,K.lookup p=Aa o/\o.cls=.type "tuple"/\o.dict=Ae) \/
      (T = "dict"/\((∃ kvs,H p=Aa (.dK kvs))\/∃ kvs,H p=Aa (.dT kvs)))\/(T = "set"/\∃ S n,H p=Aa (.set S n))
  |_=>AM
theorem Vd{pI:Pn}{Y:St}{H:Hp}{s:Ar}{T:CQ}{x:V}{v:Al}(I:Z8 X pI Y H s)(r:Bt x v)(ty:tyV X.K T x H):s.TypeIs v T/\∀ a,v=.ref a->∃ ob,s.heap.get? a=Aa ob/\ob.dict=Ae:=by
 cases x with
 |str z=>
  obtain⟨t,rfl⟩:=r;cases (show T = "str" from ty)
  exact⟨FQ s z t,λ_ e=>nomatch e⟩
 |int i=>
  obtain⟨t,rfl⟩:=r;cases (show T = "int" from ty)
  exact⟨typeIs_int s i t,λ_ e=>nomatch e⟩
 |ref p=>
  cases r;rcases ty with ⟨rfl,xs,hq⟩|⟨rfl,o,hk,hc,hd⟩|⟨rfl,hk⟩|⟨rfl,S,n,hk⟩
  .obtain⟨its,_,pl,_⟩:=I.list hq;refine⟨pl.isList.typeIs,λa e=>?_⟩
   cases e;obtain⟨o,n,e,c,hd,_⟩:=pl;exact⟨o,e,hd⟩
  .refine⟨⟨o,I.kIn p o hk,hc⟩,λa e=>?_⟩
   cases e;exact⟨o,I.kIn _ o hk,hd⟩
  .have z:∃ o,s.heap.get? p=Aa o/\o.ExactDict:=by
    rcases hk with ⟨kvs,hk⟩|⟨kvs,hk⟩
    .obtain⟨_,_,_,_,o,_,_,e,ex,_⟩:=I.hok p _ hk;exact⟨o,e,ex⟩
    .obtain⟨_,_,_,_,o,_,_,e,ex,_⟩:=I.hok p _ hk;exact⟨o,e,ex⟩
   obtain⟨o,e,ex⟩:=z;refine⟨⟨o,e,ex.1⟩,λa e2=>?_⟩
   cases e2;exact⟨o,e,ex.2.1⟩
  .obtain⟨o,_,_,_,e,ex,_⟩:=I.hok p _ hk;refine⟨⟨o,e,ex.1⟩,λa e2=>?_⟩
   cases e2;exact⟨o,e,ex.2.1⟩
 |_=>exact A7 ty
def yP(K:Fg)(T:CQ)(r:V->Ac V->Hp->VK->Prop)(to:TE):TE:=λY H Q=>to Y H λx H1=>tyV K T x H1/\r x [] H1 Q
def tBM(K:Fg)(T:CQ)(r:V->Ac V->Hp->VK->Prop)(to:TE)(t:TA):TE:=λY H Q=>to Y H λx H1=>tyV K T x H1/\t Y H1 λxs H2=>r x xs H2 Q
variable{o e:Aq}{es:Ac Aq}{to:TE}{t:TA}{name:Ah}{apos cpos:AF}{T id:CQ}{r:V->Ac V->Hp->VK->Prop}
theorem VE(pa:PlainAttrs T)(slot:Slot T name id)(hty:typeOf (.builtin id)=pure (.type "method_descriptor"))(hm:qd X id r)(ho:PE X o to)(U7:BH o name X.env (eval o X.env)=eval o X.env:=by rfl)(U6:(apos.endLine==cpos.line)=Ab:=by rfl):PE X (.Call (.Attribute o name apos) [] [] cpos) (yP X.K T r to):=by
 intro pI s Y H Q I h;refine wpAny_Call_method0_late U7 U6 (U4 (ho pI s Y H _ I h) λv s1 ⟨x,H1,I1,r1,ty,q1⟩=>?_)
 obtain⟨h1,h2⟩:=Vd I1 r1 ty;exact⟨T,id,pa,slot,hty,h1,h2,Gb rfl (PySem.evalArgs_none (hm pI s1 Y H1 x [] v [] Q I1 r1 .nil q1))⟩
theorem IL(pa:PlainAttrs T)(slot:Slot T name id)(hty:typeOf (.builtin id)=pure (.type "method_descriptor"))(hm:qd X id r)(ho:PE X o to)(ha:PA X (e::es) t)(U7:BH o name X.env (eval o X.env)=eval o X.env:=by rfl)(yt:((Br cpos (Aw (e::es) X.env)).all (λx=>!x.1)&&(D9 cpos (Dg [] X.env)).all (λx=>x.1.isSome)
   && decide ((e::es).length+([]:Ac CB).length+(if ([]:Ac CB).isEmpty then 0 else 1)<30))=Ab:=by rfl)(U6:(apos.endLine==cpos.line)=Ab:=by rfl)(hs:Aw (e::es) X.env=(Af,eval e X.env)::Aw es X.env:=by rfl)(kq:(Br cpos (Aw es X.env)).any (·.1)=Af:=by rfl):PE X (.Call (.Attribute o name apos) (e::es) [] cpos) (tBM X.K T r to t):=by
 intro pI s Y H Q I h;refine wpAny_Call_method_late U7 yt U6 rfl (U4 (ho pI s Y H _ I h) λv s1 ⟨x,H1,I1,r1,ty,q1⟩=>?_)
 obtain⟨h1,h2⟩:=Vd I1 r1 ty;refine⟨T,id,pa,slot,hty,h1,h2,?_⟩;have hA:=ha cpos pI s1 Y H1 _ I1 q1;rw[hs]at hA ⊢;refine Gb (by show (Af||(Br cpos (Aw es X.env)).any (·.1))=Af;rw[kq]<;>rfl) (EO ?_)
 exact U4 hA λus s2 ⟨vs,H2,I2,r2,q2⟩=>hm pI s2 Y H2 x vs v us Q I2 r1 r2 q2
end
noncomputable def MtM(X:Cx)(id:CQ)(r:V->Ac V->Hp->VK->Prop):Prop:=
 ∀(pI:Pn)(s:Ar)(Y:St)(H:Hp)(x:V)(xs:Ac V)(v:Al)(us:Ac Al)(Q:VK),Z8 X pI Y H s->Bt x v->A1 xs us->r x xs H Q ->
  AA (model X.prog X.w) X.A (call (.builtin id) (v::us)) (EP X pI Y Q) X.xe s
theorem A1.one:∀{x:V}{us:Ac Al},A1 [x] us->∃ u,us=[u]/\Bt x u
 |_,_,.cons r .nil=>⟨_,rfl,r⟩
theorem A1.zero:∀{us:Ac Al},A1 [] us->us=[]
 |_,.nil=>rfl
theorem A1.dropLast(h:A1 xs us):A1 xs.dropLast us.dropLast:=by
 induction h with
 |nil=>exact .nil
 |cons r t ih=>
  cases t with
  |nil=>exact .nil
  |cons q t'=>exact .cons r ih
theorem A1.eraseIdx:∀{xs:Ac V}{us:Ac Al}(i:Ag),A1 xs us->A1 (xs.eraseIdx i) (us.eraseIdx i)
 |_,_,_,.nil=>.nil
 |_,_,0,.cons _ t=>t
 |_,_,i+1,.cons r t=>.cons r (A1.eraseIdx i t)
theorem A1.reverse(h:A1 xs us):A1 xs.reverse us.reverse:=by
 induction h with
 |nil=>exact .nil
 |cons r t ih=>rw[Yc,Yc];exact A1.append ih (.cons r .nil)
theorem A1.rep{xs:Ac V}{us:Ac Al}(h:A1 xs us):∀ k:Ag,A1 (EA k xs).flatten (EA k us).flatten
 |0=>.nil
 |k+1=>by
  rw[Yb,Yb,XS,XS];exact A1.append h (A1.rep h k)
theorem aN(l:Ac α):l.eraseIdx (l.length-1)=l.dropLast:=by
 induction l with
 |nil=>rfl
 |cons a r ih=>
  cases r with
  |nil=>rfl
  |cons b r=>
   have e:(a::b::r).length-1=((b::r).length-1)+1:=by
    have h1:(a::b::r).length=r.length+2:=rfl;have h2:(b::r).length=r.length+1:=rfl;omega
   rw[e,List.eraseIdx_cons_succ,ih]
   all_goals rfl
section
variable{X:Cx}{pI:Pn}{Y:St}{H:Hp}{s:Ar}{l b:Ak}{xs ys zs:Ac V}
theorem Z8.lset{its':Ac Al}{f:Bl Al->Bl Al}(I:Z8 X pI Y H s)(hH:H l=Aa (.lst xs))(e:s.heap.get? l=Aa { cls:=.type "list",data:=.seq its.toArray n })(hf:f its.toArray=its'.toArray)(hv:A1 ys its')(hz:ys.length<=sizeLine):Z8 X pI Y (upd H l (.lst ys)) {s with heap:=s.heap.update l (Ze f),toks:=t'}:=by
 have q:=PySem.IsL.update e f;rw[hf]at q;refine I.write (x:=l) (e:=l) (by rw[hH];exact trivial) (.inl rfl) (λb' u hb hu=>(Dd s.heap (Ze f) (CG hb)).trans hu) ⟨_,q⟩ ?_
 exact⟨hz,its',_,hv,q⟩
theorem Z8.lnew(I:Z8 X pI Y H s)(hv:A1 ys its)(hz:ys.length<=sizeLine):
  Z8 X pI Y (upd H s.heap.objs.size (.lst ys)) { s with heap:=s.heap.push { cls:=.type "list",data:=.seq its.toArray },toks:=t' }:=
 I.laid (λ_ _ q=>AB _ q) (AU _) ⟨hz,its,0,hv,Bp _ rfl⟩
theorem Z8.fresh(I:Z8 X pI Y H s):H s.heap.objs.size=Ae:=I.hok.fresh (AU _)
theorem Z8.lstM(I:Z8 X pI Y H s)(hH:H l=Aa (.lst xs)):xs.length<=sizeLine/\∃(its:Ac Al)(n:Ag),A1 xs its/\xs.length=its.length/\s.heap.get? l=Aa { cls:=.type "list",data:=.seq its.toArray n }:=by
 obtain⟨z,its,n,r,e⟩:=I.hok l _ hH;exact⟨z,its,n,r,r.length,e⟩
end
section
variable{X:Cx}
def iI:V->Ac V->Hp->VK->Prop:=λx vs H Q=>∃ l xs y,x=.ref l/\vs=[y]/\H l=Aa (.lst xs)/\xs.length<sizeLine/\Q .non (upd H l (.lst (xs++[y])))
theorem NO:MtM X "list.append" iI:=by
 intro pI s Y H x vs v us Q I rx rv h;obtain⟨l,xs,y,rfl,rfl,hH,hz,q⟩:=h;cases rx;obtain⟨u,rfl,ru⟩:=rv.one;obtain⟨z,its,n,r,hl,e⟩:=I.lstM hH;refine EQ F.slot_list_append ⟨_,e,rfl⟩ F.entry_list_append (F.args_list_append_2 _ _) (PySem.list_append l its.toArray n u (by rw[AX];omega)) ⟨e,?_⟩
 refine⟨.non,_,I.lset (its':=its++[u]) hH e (by simp) (r.append (.cons ru .nil)) ?_,rfl,q⟩
 rw[BV,X5];omega
def xW:V->Ac V->Hp->VK->Prop:=λx vs H Q=>∃ l xs y,x=.ref l/\vs=[]/\H l=Aa (.lst xs)/\xs[xs.length-1]?=Aa y/\Q y (upd H l (.lst xs.dropLast))
theorem VG:MtM X "list.pop" xW:=by
 intro pI s Y H x vs v us Q I rx rv h;obtain⟨l,xs,y,rfl,rfl,hH,hy,q⟩:=h;cases rx;have hus:=rv.zero;subst hus;obtain⟨z,its,n,r,hl,e⟩:=I.lstM hH;obtain⟨u,hu,ru⟩:=r.get hy;have hy':its.toArray[its.toArray.size-1]?=Aa u:=by
  show its.toArray[its.length-1]?=Aa u;rw[<-Array.getElem?_toList,<-hl];exact hu
 refine EQ F.slot_list_pop ⟨_,e,rfl⟩ F.entry_list_pop (F.args_list_pop_1 _) (MeetsSeq.list_pop_last l its.toArray n u hy' (by rw[AX];omega)) ⟨e,?_⟩
 refine⟨y,_,I.lset (its':=its.dropLast) hH e ?_ r.dropLast ?_,ru,q⟩
 .show its.toArray.eraseIdxIfInBounds (its.toArray.size-1)=its.dropLast.toArray;rw[AX,List.eraseIdxIfInBounds_toArray,aN]
 .rw[List.length_dropLast];omega
end
section
variable{prog:AK}{w:AI}{A:A4}{E:Vq}{s:Ar}
set_option maxRecDepth 100000 in
end
section
variable{X:Cx}
end
end L2
namespace Att
open PySem PySem.W PySem.Calls PyProof.Rows
variable{P:MB}{h:AJ}{l:Gc}{n:Ag}
theorem Z_2:∀(ns:Ac Ai)(vs:Ac Al),WellAll P h vs (ns.map ZB)->Jc vs ns:=by
 intro ns
 induction ns with
 |nil=>
  intro vs w;rw[X7]at w;cases w;exact .nil
 |cons n ns ih=>
  intro vs w;rw[BP]at w;cases w with
  |cons a b=>
   cases a;exact .cons _ _ (ih _ b)
theorem bX(hn:l.most=Aa n){args:Ac WData}{vals:Ac Al}(o6:l.row.toRowW.claim.pre args=Ab)(hwl:WellAll P h vals args):
  ∃ a vs ns,vals=[Bm a]/\args=[WData.list (ns.map ZB)]/\h.get? a=Aa { cls:=.type "list",data:=.seq vs.toArray }/\Jc vs ns/\ns.length<=n:=by
 have hsh:WShape.hasAll [] args [.list .int]=Ab:=(pre_splitW o6).1;have hc:l.pre.holds [] {args:=args}=Ab:=(pre_splitW o6).2;obtain⟨d,r,rfl,h1,h2⟩:=hasAllW_cons hsh;obtain rfl:=hasAllW_nil h2;obtain⟨xs,rfl,h3⟩:=hasW_list h1;obtain⟨ns,rfl⟩:=items_int h3;have U8:ns.length<=n:=by
  unfold OpenLaw.pre at hc;have h4:(WTm.not (.lt (.lit (.int (n:Ai))) (.len (.arg 0)))).holds [] {args:=[.list (ns.map .int)]}=Ab:=by
   have h4:=(holds_andW hc).1;rw[hn]at h4;exact h4
  have h5:=condW_of h4 (w_not (w_lt w_lit (w_len_list (w_arg rfl))));rw[Bc]at h5;refine Nat.le_of_not_lt λq=>?_
  have q':(n:Ai)<((ns.length:Ag):Ai):=by omega
  first
   |(rw[CI q']at h5;exact absurd h5 (by decide))
   |(simp at h5;omega)
 cases hwl with
 |cons w1 w2=>
  cases w2;cases w1 with
  |list ho ka=>exact⟨_,_,ns,rfl,rfl,ho,Z_2 ns _ ka,U8⟩
theorem bQ(l:Gc)(args:Ac WData):l.row.toRowW.claim.post args (.bool Ab) args=Ab:=
 postW_of (r:=l.row.toRowW) (X:=(Ab==Ab))
  (show ZC [] (.bool Ab) .bool=Ab by first|rfl|decide|simp[ZC,WShape.arms,WShape.armsAll])
  (show (WTm.eq .res (.lit (.bool Ab))).value [] {args:=args,res:=Aa (.bool Ab),after:=args}=Aa (.bool (Ab==Ab)) from w_eq_bool (w_res rfl) w_lit) rfl
theorem attach_call{q:AK}{loose:Ac Ah}{XP:(Ah->Ao Al)->AJ->Prop}{YP:AI->AJ->Prop}{d:DefRec}(hn:l.most=Aa n)(ar:d.params.defaults=[])(call:∀(w:AI)(s₀ s₁:Ar)(mg mb:Ah->Ao Al)(fa:Ak)(o:CW)(pm cd doc:Al)(a:Ak)(vs:Ac Al)(ns:Ac Ai),
   Ground q loose [] XP w s₀ mg mb s₁.heap->YP w s₁.heap ->
   s₁.heap.get? fa=Aa o->o.data=.func (docDef d.name d.params d.body d.scope pm cd doc)->s₁.heap.CodeRec cd d.name->mg d.name=Aa (.ref fa) ->
   s₁.heap.get? a=Aa { cls:=.type "list",data:=.seq vs.toArray }->Jc vs ns->ns.length<=n->s₁.gens=#[] ->
   EC (model l.prog w) HX (.call (.ref fa) ⟨[.ref a],[]⟩) (λr s'=>r=.ok (.ret (.bool Ab))/\OldK s₁.heap s'.heap/\s'.os=s₁.os/\FO s'.gens) s₁):WalkO q loose XP YP l.row.toRowW d [] (λf vs=>LL f vs):=by
 intro w s₀ s₁ mg mb G Y_ fa o pm cd doc dV kV ho hd zy hD kn hg args vals as o6 hlay hrd hwl hlo;obtain rfl:dV=.none:=Dflts.none hD ar;obtain rfl:kV=.none:=Dflts.noKw hD;obtain⟨a,vs,ns,rfl,rfl,ko,rk,U8⟩:=bX hn o6 hwl;refine enter_call (ED (call w s₀ s₁ mg mb fa o pm cd doc a vs ns G Y_ ho (fd_plain hd) zy kn ko rk U8 hg) λr s' hq=>?_)
 obtain⟨rfl,h2,h3,h4⟩:=hq;exact⟨.inl ⟨.bool Ab,.bool Ab,[],rfl,λ_=>rfl,.bool Ab,bQ l _,λ_=>⟨List.Pairwise.nil,λ_ hm=>(nomatch hm)⟩⟩,h2,h3,h4⟩
section
variable{prog:AK}{w:AI}{A:A4}{E:Vq}{s:Ar}{K:Frag}
end
end Att
namespace L2
open PySem PySem.Spec PyProof.Rows
variable{k:Ag}{x:Ah}
theorem Tl:∀{vs:Ac Al}{ns:Ac Ai},Jc vs ns->A1 (ns.map V.int) vs
 |_,_,.nil=>.nil
 |_,_,.cons n t h=>.cons ⟨t,rfl⟩ (Tl h)
def RZ(H:Hp):Prop:=∀ b,H b=Ae\/∃ o xs,H b=Aa (.frz o (.lst xs))
theorem dB{P:AK}{w:AI}{K:Fg}{mg mb:Ah->Ao Al}{CX:CXT}{fa a:Ak}{fd:Bi}{sp:Sp}{s₁:Ar}{vs:Ac Al}{ns:Ac Ai}(KX:K.In s₁.heap)(hns:s₁.heap.Ns AO mg)(hb:s₁.heap.Ns Jo mb)(ke:∀ x:Ah,x≠"__name__"->mb x=De x)(hlim:s₁.heap.NoLimit)(hg:s₁.gens=#[])(ha:s₁.heap.get? a=Aa { cls:=.type "list",data:=.seq vs.toArray })(hi:Jc vs ns)(hl:ns.length<=sizeLine)(hr:U5 k HX)(F:∀ base:AJ,K.In base->base.Ns AO mg->Y4 P w K mg base CX k fa fd [x] sp)(am:∀(s:Ar)(u:Al),Gy s fd ⟨[u],[]⟩ [(x,u)])(sf:∀ H:Hp,RZ H->Id K H a (ns.map V.int)->sp [.ref a] H (λv _=>v=.bl Ab) λ_ _ _=>AM)(hCX:∀ H e s',CX [] H s₁ (λ_ _ _=>AM) e s'->AM):EC (model P w) HX (.call (.ref fa) ⟨[.ref a],[]⟩) (λr s'=>r=.ok (.ret (.bool Ab))/\OldK s₁.heap s'.heap/\s'.os=s₁.os/\FO s'.gens) s₁:=by
 have rv:=Tl hi;have lenV:=hi.length
 have core:∀ H:Hp,RZ H->Id K H a (ns.map V.int)->zg P w H s₁.heap->(∀ b,H b≠Ae->b=a)->(H a≠Ae->K.lookup a=Ae) ->
   EC (model P w) HX (.call (.ref fa) ⟨[.ref a],[]⟩) (λr s'=>r=.ok (.ret (.bool Ab))/\OldK s₁.heap s'.heap/\s'.os=s₁.os/\FO s'.gens) s₁:=by
  intro H hO hS hok hA hK;have va:∀{b:Ak}{o:CW},s₁.heap.get? b=Aa o->H b=Ae->(JM s₁.heap H).get? b=Aa o:=λe n=>fB e n
  have ce:∀{b:Ak}{o:CW}{es:Bl Mw}{ep:Ag},s₁.heap.get? b=Aa o->o.data=.dict es ep->H b=Ae:=λ{b o es ep} e d=>by
   cases q:H b with
   |none=>rfl
   |some u=>
    have e':b=a:=hA b (by rw[q];simp)
    subst e';rw[ha]at e;cases e;have d':Mz vs.toArray _=Data.dict es ep:=d;cases d'
  have Ð:∀{b:Ak}{m:Ah->Ao Al},s₁.heap.Ns b m->(JM s₁.heap H).Ns b m:=λ{b m} ⟨o,es,ep,e,d,r⟩=>⟨o,es,ep,va e (ce e d),d,r⟩
  have hKb:K.In (JM s₁.heap H):=λb o e=>va (KX b o e) (by
   cases q:H b with
   |none=>rfl
   |some u=>
    have e':b=a:=hA b (by rw[q];simp)
    subst e';rw[hK (by rw[q];simp)]at e;cases e)
  have hM:Mod K mg (JM s₁.heap H):=⟨hKb,Ð hns,⟨mb,Ð hb,ke⟩,let ⟨mc,h1,h2⟩:=hlim;⟨mc,Ð h1,h2⟩⟩
  have e0:yo P w K mg (JM s₁.heap H) HX [] s₁ H:=⟨rfl,hM,λb o e=>lJ e,Ye (cT _ _),trivial,λb hb=>absurd (show b∈([]:Ac Ak) from hb) (by simp),hok,.of_eq hg⟩
  refine ED ((F _ hKb (Ð hns)).run HX [] s₁ H ⟨[.ref a],[]⟩ [.ref a] [.ref a] _ _ hr e0 (am s₁ (.ref a)) (.cons rfl .nil) (sf H hO hS)) λr s' h=>?_
  cases r with
  |error e=>exact(hCX H e s' h).elim
  |ok fl=>
   cases fl with
   |next=>exact A7 h
   |brk=>exact A7 h
   |cont=>exact A7 h
   |ret u=>
    obtain⟨v,H',os,bare,un,hok',r',q⟩:=h;have q':v=.bl Ab:=q;subst q';obtain rfl:u=Jk Ab:=r';refine⟨rfl,OldK.of_keep λb o e=>?_,os,bare⟩
    cases q:H b with
    |none=>exact un.keep b o e q (by intro z;exact absurd (show b∈([]:Ac Ak) from z) (by simp)) (by simp)
    |some u=>
     rcases hO b with z|⟨ob,xs,z⟩
     .rw[q]at z;cases z
     .have z2:=un.frzs b ob _ z;obtain⟨e1,_⟩:=hok b _ z;obtain⟨e2,_⟩:=hok' b _ z2;rw[e]at e1;cases e1;exact e2
 cases hk:K.lookup a with
 |some o=>
  have e:=KX a o hk;rw[ha]at e;cases e;refine core (λ_=>Ae) (λ_=>.inl rfl) (.inr ⟨_,vs.toArray,_,hk,rfl,rfl,rfl,by rw[AX,lenV];exact hl,by simpa using rv⟩) (λb u z=>by have z':(Ae:Ao HO)=Aa u:=z;cases z') (λb z=>absurd rfl z) λz=>absurd rfl z
 |none=>
  refine core (λb=>if b=a then Aa (.frz { cls:=.type "list",data:=.seq vs.toArray } (.lst (ns.map V.int))) else Ae) (λb=>?_) (.inl (.inr ⟨{ cls:=.type "list",data:=.seq vs.toArray },Au rfl⟩)) (λb u z=>?_) (λb z=>?_) λ_=>hk
  .by_cases hb:b=a
   .exact .inr ⟨_,_,Au hb⟩
   .exact .inl (Ay hb)
  .by_cases hb:b=a
   .have z':=(Au hb).symm.trans z;cases z';subst hb;exact⟨ha,by rw[Bc];exact hl,vs,_,rv,ha⟩
   .have z':=(Ay hb).symm.trans z;cases z'
  .by_cases hb:b=a
   .exact hb
   .exact absurd (Ay hb) z
noncomputable abbrev KOf{K:Fg}{h:AJ}(_:K.In h):Fg:=K
theorem walk_of{l:Gc}{n:Ag}{q:AK}{loose:Ac Ah}{XP:(Ah->Ao Al)->AJ->Prop}{YP:AI->AJ->Prop}{d:DefRec}{K:MB->Fg}{CX:AI->CXT}{sp:AI->Sp}(hn:l.most=Aa n)(iy:n<=sizeLine)(ar:d.params.defaults=[])(hr:U5 k HX)(hY:∀(w:AI)(h:AJ),YP w h->(K w.params).In h)(F:∀(w:AI)(mg:Ah->Ao Al)(fa:Ak)(h:AJ),(K w.params).In h->h.Ns AO mg->mg d.name=Aa (.ref fa) ->
   ∃ fd:Bi,(∀(s:Ar)(u:Al),Gy s fd ⟨[u],[]⟩ [(x,u)]) /\
    ∀ base:AJ,(K w.params).In base->base.Ns AO mg->Y4 l.prog w (K w.params) mg base (CX w) k fa fd [x] (sp w))(sf:∀(w:AI)(H:Hp)(a:Ak)(ns:Ac Ai),ns.length<=n->RZ H->Id (K w.params) H a (ns.map V.int)->sp w [.ref a] H (λv _=>v=.bl Ab) λ_ _ _=>AM)(hCX:∀(w:AI)(H:Hp)(s:Ar)(e:Al)(s':Ar),CX w [] H s (λ_ _ _=>AM) e s'->AM):ZD q loose XP YP l.row.toRowW d [] (λf vs=>LL f vs):=by
 refine Att.attach_call hn ar λw s₀ s₁ mg mb fa o pm cd doc a vs ns G Y_ ho hd zy kn ko rk U8 hg=>?_
 have KX:=hY w _ Y_;obtain⟨fd,hb,hF⟩:=F w mg fa _ KX G.T.g kn;exact dB KX G.T.g G.T.b G.T.builtins G.T.nolimit hg ko rk (B8 U8 iy) hr hF hb (λH hO hS=>sf w H a ns U8 hO hS) λH e s'=>hCX w H s₁ e s'
end L2
namespace L2
open PySem PySem.Spec PyProof.Rows
noncomputable def Hg(s:AL):Mu:=match s with
  |.FunctionDef _ a _ _ _ _ _ _ _ _=>a
  |_=>{posonlyargs:=[],args:=[],vararg:=Ae,kwonlyargs:=[],kw_defaults:=[],kwarg:=Ae,defaults:=[]}
noncomputable def Dh(s:AL):Ac AL:=match s with
  |.FunctionDef _ _ b _ _ _ _ _ _ _=>b
  |_=>[]
noncomputable def AH(s:AL):Cb:=match s with
  |.FunctionDef _ _ _ _ _ _ sc _ _ _=>sc
  |_=>{kind:=.function,names:=[],isGenerator:=Af,isCoroutine:=Af}
noncomputable abbrev CX0:CXT:=λ_ _ _ _ _ _=>AM
noncomputable abbrev E0:XK:=λ_ _ _=>AM
structure qr (K:Fg) (x qual:Ah) (st:AL) (f:Ak) (fd:Bi):Prop where
 ex:∃(oc:Al)(od:Ao Ak)(kV doc pm:Al)(an:Ao Ak)(cdv ct:Al)(osl:Bl (Ao Al)),
  fd=B2 x qual (Hg st) (Dh st) (AH st) .none kV doc pm an cdv ct/\K.lookup f=Aa ⟨oc,od,.func fd,osl⟩/\DE K cdv qual=Ab
 kp:Ba K (.ref f)=Ab
section
variable{P:AK}{w:AI}{K:Fg}{mg:Ah->Ao Al}{base:AJ}
theorem qr.ok{x qual:Ah}{st:AL}{f:Ak}{fd:Bi}{N ps:Ac Ah}{k:Ag}{sp:Sp}(F:qr K x qual st f fd)(S:zX N ps (AH st))(len:∀ vs H Q E,sp vs H Q E->vs.length=ps.length)(wo:∀(cdv:Al)(A:A4)(outer:Ac B5)(s:Ar)(H:Hp)(vs:Ac V)(Q:VK)(E:XK),U5 k (A.deeper (D3 qual (AH st) s.heap.objs.size f cdv))->sp vs H Q E ->
   ∃ t,yp (B1 CX0 P w K mg base N qual (AH st) f cdv A outer s H E).nox (Dh st) t/\t {nx:=λ_ H'=>Q .non H',rt:=Q} (start N vs) H):Y4 P w K mg base CX0 (k+1) f fd ps sp:=by
 obtain⟨oc,od,kV,doc,pm,an,cdv,ct,osl,rfl,lk,zy⟩:=F.ex;refine Hm lk zy S len λA outer s H vs Q E hr sf=>?_
 obtain⟨t,h,q⟩:=wo cdv A outer s H vs Q E hr sf;exact⟨t,h.nox,q⟩
theorem qr.binds{x qual:Ah}{st:AL}{f:Ak}{fd:Bi}{ps:Ac Ah}(F:qr K x qual st f fd)(h:∀(kV doc pm:Al)(an:Ao Ak)(cdv ct:Al)(us:Ac Al),us.length=ps.length->Hd (B2 x qual (Hg st) (Dh st) (AH st) .none kV doc pm an cdv ct) ⟨us,[]⟩=pure (ps.zip us)):CV K fd ps []:=by
 obtain⟨oc,od,kV,doc,pm,an,cdv,ct,osl,rfl,lk,zy⟩:=F.ex;exact .all (h kV doc pm an cdv ct)
theorem QZ{x qual:Ah}{st:AL}{f:Ak}{oc:Al}{od an:Ao Ak}{osl:Bl (Ao Al)}{kV doc pm cdv ct:Al}(l:K.lookup f=Aa ⟨oc,od,.func (B2 x qual (Hg st) (Dh st) (AH st) .none kV doc pm an cdv ct),osl⟩)(c:DE K cdv qual=Ab)(k:Ba K (.ref f)=Ab):qr K x qual st f (B2 x qual (Hg st) (Dh st) (AH st) .none kV doc pm an cdv ct):=⟨⟨oc,od,kV,doc,pm,an,cdv,ct,osl,rfl,l,c⟩,k⟩
end
section
variable{X:Cx}
theorem pv(i:Ag){x:Ah}{pos:AF}(hN:X.N[i]?=Aa x:=by rfl)(hv:ó X.env.scope x:=by first|exact Or.inl rfl|exact Or.inr (Or.inl rfl)|exact Or.inr (Or.inr rfl))(hd:(x==("__debug__" : Ah))=Af:=by decide)(zy:(x==("__classdict__" : Ah))=Af:=by decide):PE X (.Name x pos) (Ch i):=Dw hN hv hd zy
end
def Az(H H':Hp):Prop:=∀ b o,H b=Aa o->H' b=Aa o
theorem Az.refl(H:Hp):Az H H:=λ_ _ h=>h
theorem Az.trans{H H1 H2:Hp}(a:Az H H1)(b:Az H1 H2):Az H H2:=λc o h=>b c o (a c o h)
theorem Az.free{H H':Hp}(e:Az H H'){l:Ak}(h:H' l=Ae):H l=Ae:=by
 cases q:H l with
 |none=>rfl
 |some o=>
  rw[e l o q]at h;cases h
theorem Az.seq{K:Fg}{H H':Hp}{a:Ak}{xs:Ac V}(e:Az H H')(h:Id K H a xs):Id K H' a xs:=by
 rcases h with (h|⟨o,h⟩)|h
 .exact .inl (.inl (e _ _ h))
 .exact .inl (.inr ⟨o,e _ _ h⟩)
 .exact .inr h
end L2
section
namespace Ov
open PySem
variable{α:Type}
inductive D where
 |non|bl (b:An)|int (i:Ai)|str (x:Ah)|tup (ds:Ac D)|lst (ds:Ac D)
 |obj (c:Ag) (fs:Ac (Ah×D))|exc (c:Ag) (fs:Ac (Ah×D))|dic (kvs:Ac (Ac Ai×D))
 deriving Inhabited
structure Ex where
 c:Ag
 fs:Ac (Ah×D)
 deriving Inhabited
inductive R (α:Type) where
 |ok (a:α)|exn (x:Ex)|bad
 deriving Inhabited
noncomputable def R.bind{α β:Type}(r:R α)(f:α->R β):R β:=match r with
  |.ok a=>f a
  |.exn x=>.exn x
  |.bad=>.bad
@[simp]theorem R.bind_ok{β:Type}(a:α)(f:α->R β):(R.ok a).bind f=f a:=rfl
theorem R.bind_assoc{β γ:Type}(r:R α)(f:α->R β)(g:β->R γ):(r.bind f).bind g=r.bind λa=>(f a).bind g:=by cases r<;>rfl
noncomputable def Db(n:Ag):An:=CF n 1000000
noncomputable def Fj(i j:Ai):An:=(decide (-(18446744073709551616:Ai)<i)&&decide (i<18446744073709551616))||(decide (-(18446744073709551616:Ai)<j)&&decide (j<18446744073709551616))
noncomputable def OL(i j:Ai):An:=decide (i.natAbs<2 ^ 2000)&&decide (j.natAbs<2 ^ 2000)
noncomputable def Dm:Gk->D->D->R D
 |.Add,.int i,.int j=>.ok (.int (i+j))
 |.Sub,.int i,.int j=>.ok (.int (i-j))
 |.Mult,.int i,.int j=>if (Fj i j||OL i j)=Ab then .ok (.int (i*j)) else .bad
 |.FloorDiv,.int i,.int j=>if 0<j/\j<1073741824 then .ok (.int (i/j)) else .bad
 |.Mod,.int i,.int j=>if 0<j then .ok (.int (i%j)) else .bad
 |.Pow,.int i,.int j=>if (0<=j/\j<=1000000)/\(-(18446744073709551616:Ai)<i/\i<18446744073709551616) then .ok (.int (i ^ j.toNat)) else .bad
 |.Add,.str x,.str y=>if Db (x.length+y.length)=Ab then .ok (.str (x++y)) else .bad
 |.Add,.lst x,.lst y=>if Db (x.length+y.length)=Ab then .ok (.lst (x++y)) else .bad
 |.Add,.tup x,.tup y=>if (!x.isEmpty&&Db (x.length+y.length))=Ab then .ok (.tup (x++y)) else .bad
 |_,_,_=>.bad
noncomputable def unD:KY->D->R D
 |.USub,.int i=>.ok (.int (-i))
 |_,_=>.bad
noncomputable def ô(b:An):Ai:=if b=Ab then 1 else 0
mutual
noncomputable def My:D->D->An
 |.non,.non=>Ab
 |.bl a,.bl b=>a==b
 |.bl a,.int j=>ô a==j
 |.int i,.bl b=>i==ô b
 |.int i,.int j=>i==j
 |.str x,.str y=>x==y
 |.tup xs,.tup ys=>KK xs ys
 |.lst xs,.lst ys=>KK xs ys
 |_,_=>Af
noncomputable def KK:Ac D->Ac D->An
 |[],[]=>Ab
 |x::xs,y::ys=>My x y&&KK xs ys
 |_,_=>Af
end
noncomputable def Y8:Ag->D->An
 |_,.non=>Ab
 |_,.bl _=>Ab
 |_,.int _=>Ab
 |_,.str _=>Ab
 |n+1,.tup xs=>xs.all (Y8 n)
 |n+1,.lst xs=>xs.all (Y8 n)
 |_,_=>Af
noncomputable def Mr:D->Ao (Ac Ai)
 |.tup ds=>keyDs ds
 |_=>Ae
where keyDs:Ac D->Ao (Ac Ai)
 |[]=>Aa []
 |.int i::r=>(keyDs r).map (i :: ·)
 |_=>Ae
noncomputable def i8:Ag->D->D->An
 |0,.int i,.int j=>decide (i<j)
 |n+1,.tup xs,.tup ys=>ltDs (i8 n) xs ys
 |_,_,_=>Af
where ltDs (lt:D->D->An):Ac D->Ac D->An
 |[],[]=>Af
 |[],_::_=>Ab
 |_::_,[]=>Af
 |x::xs,y::ys=>if My x y=Ab then ltDs lt xs ys else lt x y
noncomputable def Ý:Ag->D->An
 |0,.int _=>Ab
 |n+1,.tup xs=>xs.all (Ý n)
 |_,_=>Af
noncomputable def Xg(lt:D->D->An)(x:D):Ac D->Ac D
 |[]=>[x]
 |y::ys=>if lt y x=Ab then y::Xg lt x ys else x::y::ys
noncomputable def V8(lt:D->D->An):Ac D->Ac D
 |[]=>[]
 |x::xs=>Xg lt x (V8 lt xs)
noncomputable def W9:Ac D->An
 |[]=>Ab
 |x::xs=>xs.all (λy=>!My x y)&&W9 xs
noncomputable def WV:Ac D->An
 |[]=>Ab
 |[_]=>Ab
 |x::y::r=>i8 1 x y&&WV (y::r)
noncomputable def iZ(xs:Ac D):R (Ac D):=if (xs.all (λd=>Ý 1 d && !My d (.tup []))&&W9 xs&&(decide (xs.length<64)||(WV xs&&decide (xs.length<=1000))))=Ab then .ok (V8 (i8 1) xs) else .bad
noncomputable def Cq:DC->D->D->R D
  |.Eq,x,y=>if (Y8 5 x&&Y8 5 y)=Ab then .ok (.bl (My x y)) else .bad
  |.NotEq,x,y=>if (Y8 5 x&&Y8 5 y)=Ab then .ok (.bl (!My x y)) else .bad
  |.Lt,.int i,.int j=>.ok (.bl (decide (i<j)))
  |.LtE,.int i,.int j=>.ok (.bl (decide (i<=j)))
  |.Gt,.int i,.int j=>.ok (.bl (decide (j<i)))
  |.GtE,.int i,.int j=>.ok (.bl (decide (j<=i)))
  |.In,x,.lst ys=>if (Y8 5 x&&ys.all (Y8 5))=Ab then .ok (.bl (ys.any λy=>My y x)) else .bad
  |.In,x,.dic kvs=>match Mr x with
    |some k=>.ok (.bl (kvs.any λp=>p.1==k))
    |none=>.bad
  |.In,x,.tup ys=>if (Y8 5 x&&ys.all (Y8 5))=Ab then .ok (.bl (ys.any λy=>My y x)) else .bad
  |.NotIn,x,.lst ys=>if (Y8 5 x&&ys.all (Y8 5))=Ab then .ok (.bl (!ys.any λy=>My y x)) else .bad
  |.NotIn,x,.tup ys=>if (Y8 5 x&&ys.all (Y8 5))=Ab then .ok (.bl (!ys.any λy=>My y x)) else .bad
  |.Is,.non,.non=>.ok (.bl Ab)
  |.Is,.bl _,.non=>.ok (.bl Af)
  |.Is,.int _,.non=>.ok (.bl Af)
  |.Is,.str _,.non=>.ok (.bl Af)
  |.Is,.tup _,.non=>.ok (.bl Af)
  |.Is,.lst _,.non=>.ok (.bl Af)
  |.Is,.obj _ _,.non=>.ok (.bl Af)
  |.Is,.bl a,.bl b=>.ok (.bl (a==b))
  |.IsNot,.bl a,.bl b=>.ok (.bl (!(a==b)))
  |.IsNot,.non,.non=>.ok (.bl Af)
  |.IsNot,.bl _,.non=>.ok (.bl Ab)
  |.IsNot,.int _,.non=>.ok (.bl Ab)
  |.IsNot,.str _,.non=>.ok (.bl Ab)
  |.IsNot,.tup _,.non=>.ok (.bl Ab)
  |.IsNot,.lst _,.non=>.ok (.bl Ab)
  |.IsNot,.obj _ _,.non=>.ok (.bl Ab)
  |_,_,_=>.bad
noncomputable def Bs:D->R An
 |.non=>.ok Af
 |.bl b=>.ok b
 |.int i=>.ok (i != 0)
 |.str x=>if Db x.length=Ab then .ok (x.length != 0) else .bad
 |.tup xs=>.ok (!xs.isEmpty)
 |.lst xs=>.ok (!xs.isEmpty)
 |_=>.bad
noncomputable def qj(n:Ag)(i:Ai):Ao Ag:=if 0<=i then (if i<n then Aa i.toNat else Ae) else if -(n:Ai)<=i then Aa (i+n).toNat else Ae
noncomputable def DU(xs:Ac D)(i:Ai):R D:=match qj xs.length i with
  |some k=>match xs[k]? with
    |some d=>.ok d
    |none=>.bad
  |none=>.bad
noncomputable def rV(kvs:Ac (Ac Ai×D))(k:Ac Ai):Ao D:=(kvs.find? λp=>p.1==k).map (·.2)
noncomputable def VP(kvs:Ac (Ac Ai×D))(k:Ac Ai)(v:D):Ac (Ac Ai×D):=if (kvs.any λp=>p.1==k)=Ab then kvs.map (λp=>if (p.1==k)=Ab then (k,v) else p) else kvs++[(k,v)]
noncomputable def NC(x:Ah):Ac D:=x.cps.toList.map λc=>.str ⟨#[c]⟩
noncomputable def G3:D->D->R D
  |.str x,.int i=>if Db x.length=Ab then DU (NC x) i else .bad
  |.lst xs,.int i=>DU xs i
  |.tup xs,.int i=>DU xs i
  |.dic kvs,k=>match (Mr k).bind (rV kvs) with
    |some d=>.ok d
    |none=>.bad
  |_,_=>.bad
noncomputable def Hn:D->R Ai
 |.int i=>.ok i
 |_=>.bad
noncomputable def Dz:D->R An
 |.bl b=>.ok b
 |_=>.bad
noncomputable def G1:D->R (Ac D)
 |.lst xs=>.ok xs
 |.tup xs=>.ok xs
 |_=>.bad
noncomputable def xU:D->R (Ac D)
 |.lst xs=>.ok xs
 |_=>.bad
inductive BI where
 |len|abs|max|min|int|list|tuple|all|any|sum|sorted|str|count|stp|lset|tmin|tmax|tlt|rvs|sjoin|ssplit|index
 deriving DecidableEq,Inhabited
inductive Ki where
 |int|bool|str|list|tuple|verr|cls (c:Ag)
 deriving DecidableEq,Inhabited
mutual
inductive E where
 |non|bl (b:An)|int (i:Ai)|str (x:Ah)
 |var (i:Ag)|glob (g:Ag)
 |bin (op:Gk) (a b:E)|un (op:KY) (a:E)|no (a:E)
 |and (es:Es)|or (es:Es)
 |cmp (op:DC) (a b:E)|cmp2 (op op':DC) (a b c:E)
 |ite (c a b:E)
 |call (f:Ag) (as:Es)|bi (b:BI) (as:Es)
 |isi (a:E) (ks:Ac Ki)
 |idx (a i:E)|sl (a lo hi:E)
 |tup (es:Es)|lst (es:Es)
 |comp (elt:E) (t:Ag) (it:I) (c:E)|compT (elt:E) (ts:Ac Ag) (it:I) (c:E)|tupI (it:I)|dnew
 |fld (o:E) (f:Ah)|mkx (c:Ag) (as:Es)
 |ofl (o:E) (f:Ah)|iso (a:E) (k:Ag)|meth (m:Ah) (ms:Ac (Ag×Ag)) (o:E)|mkob (c:Ag) (e:E)|mkn (c:Ag) (as:Es)
inductive Es where
 |nil|cons (e:E) (es:Es)
inductive I where
 |e (a:E)|rng (a:E)|rng2 (a b:E)|zip (a b:E)|zip3 (a b c:E)|enm (a:E)
end
abbrev Sl:=Ao (D×An)
abbrev Rho:=Ac Sl
structure Z4 where
 F:Ag->Ac D->R D
 G:Ag->D
 up:Ag->Ac Ag
 fr:Ag->An
 xn:Ag->Ac D->R Ex
noncomputable def Iv(lo:Ai)(n:Ag):Ac D:=(BR n).map fun(k:Ag)=>D.int (lo+(k:Ai))
noncomputable def FK(lo hi:Ai):R (Ac D):=if (-(4611686018427387904:Ai)<=lo/\lo<4611686018427387904)/\(-(4611686018427387904:Ai)<=hi/\hi<4611686018427387904)/\hi-lo<1000000 then .ok (Iv lo (hi-lo).toNat) else .bad
noncomputable def nk(up:Ag->Ac Ag):Ki->D->An
 |.int,.int _=>Ab
 |.int,.bl _=>Ab
 |.bool,.bl _=>Ab
 |.str,.str _=>Ab
 |.list,.lst _=>Ab
 |.tuple,.tup _=>Ab
 |.cls c,.obj k _=>(up k).contains c
 |.cls c,.exc k _=>(up k).contains c
 |.verr,.exc _ _=>Ab
 |_,_=>Af
noncomputable def Lw:Ki->An
 |.cls _=>Ab
 |.verr=>Ab
 |_=>Af
noncomputable def G2(up:Ag->Ac Ag)(ks:Ac Ki)(x:D):R D:=match x with
  |.obj _ _=>.bad
  |.exc _ _=>if ks.all Lw=Ab then .ok (.bl (ks.any λk=>nk up k x)) else .bad
  |.dic _=>.bad
  |_=>if ks.any Lw=Ab then .bad else .ok (.bl (ks.any λk=>nk up k x))
noncomputable def IU:D->R An
 |.non=>.ok Af
 |.bl b=>.ok b
 |.int i=>.ok (i != 0)
 |_=>.bad
noncomputable def Ho:Ac D->R An
 |[]=>.ok Ab
 |x::r=>(IU x).bind λb=>(Ho r).bind λc=>.ok (b&&c)
noncomputable def RF:Ac D->R An
 |[]=>.ok Af
 |x::r=>(IU x).bind λb=>(RF r).bind λc=>.ok (b||c)
noncomputable def RQ:Ai->Ac D->R Ai
 |a,[]=>.ok a
 |a,.int i::r=>RQ (a+i) r
 |_,_=>.bad
noncomputable def WF:Ac D->Ac D->Ac D
 |x::xs,y::ys=>.tup [x,y]::WF xs ys
 |_,_=>[]
noncomputable def VZ:Ac D->Ac D->Ac D->Ac D
 |x::xs,y::ys,z::zs=>.tup [x,y,z]::VZ xs ys zs
 |_,_,_=>[]
noncomputable def uD(x y z:D):R (Ac D):=(G1 x).bind λxs=>(G1 y).bind λys=>(G1 z).bind λzs=>if 0<xs.length/\xs.length<=1000/\ys.length=xs.length/\zs.length=xs.length then .ok (VZ xs ys zs) else .bad
noncomputable def R7:Ai->Ac D->Ac D
 |_,[]=>[]
 |i,x::xs=>.tup [.int i,x]::R7 (i+1) xs
noncomputable def xq:Ag->D->An
 |_,.non=>Ab
 |_,.bl _=>Ab
 |_,.int _=>Ab
 |_,.str _=>Ab
 |n+1,.tup xs=>xs.all (xq n)
 |_,_=>Af
noncomputable def JG(fr:An):D->An
 |.lst ds=>fr&&ds.all (xq 5)
 |d=>xq 5 d
noncomputable def JE:Ac D->Ao (Ac Ai)
 |[]=>Aa []
 |.int i::r=>(JE r).map (i :: ·)
 |_=>Ae
noncomputable def IZ(i:Ai):Ac Ai->Ai
 |[]=>i
 |j::r=>IZ (if j<i then j else i) r
noncomputable def pk2(k n:Ag):Ac Ag:=(BR ((n-min k n+1)/2)).map λj=>min k n+2*j
noncomputable def yU(k:Ag)(xs:Ac D):Ac D:=(pk2 k xs.length).filterMap λi=>xs[i]?
noncomputable def ddS(zU:Ac Ai)(x:Ai):Ac Ai:=if zU.any (· == x)=Ab then zU else zU++[x]
noncomputable def ddN(is:Ac Ai):Ag:=(is.foldl ddS []).length
noncomputable def vU(xs:Ac D):R D:=match JE xs with
  |some is=>if CF is.length 4000=Ab then .ok (.int (ddN is)) else .bad
  |none=>.bad
noncomputable def mmD(mx:An)(x y:D):R D:=if [x,y].all (λd=>Ý 1 d && !My d (.tup []))=Ab then .ok (if (if mx=Ab then i8 1 x y else i8 1 y x)=Ab then y else x) else .bad
noncomputable def yH(x y:D):R D:=if [x,y].all (λd=>Ý 1 d && !My d (.tup []))=Ab then .ok (.bl (i8 1 x y)) else .bad
noncomputable def yZ(k:Ac Ai):Ai:=reduceHash (Builtin.Tuple.tupleHashOf (k.map hashInt))
noncomputable def Wl:Ac D->Ao (Ac (Ac Ai))
 |[]=>Aa []
 |.tup xs::r=>(JE xs).bind λk=>(Wl r).map (k :: ·)
 |_=>Ae
noncomputable def WM:Ac Ai->An
 |[]=>Ab
 |h::r=>!r.contains h&&WM r
noncomputable def vT(xs:Ac D):R D:=match Wl xs with
  |some ks=>if (CF ks.length 3&&WM (ks.map yZ))=Ab then .ok (.int ks.length) else .bad
  |none=>.bad
noncomputable def Mg:Ac D->Ao (Ac Ah)
 |[]=>Aa []
 |.str x::r=>(Mg r).map (x :: ·)
 |_=>Ae
noncomputable def QK(s:Ah)(xs:Ac D):R D:=match Mg xs with
  |some ss=>if J4 s ss=Ab then .ok (.str (Eo s ss)) else .bad
  |none=>.bad
noncomputable def Lu(i:Ai):An:=decide (i.natAbs<1000)
noncomputable def IV(x y:Ah):An:=CF x.length 1000000&&CF (Yu x (DB x y 0 x.length (x.length+1)) y.length).length 1000000
noncomputable def JN(x:Ah)(l h:Ao Ai):Ah:=if ((EJ l h 1 x.length).length==x.length)=Ab then x else ⟨((EJ l h 1 x.length).filterMap (x.cps[·]?)).toArray⟩
noncomputable def ON(xs:Ac D)(x:D):R D:=if (Y8 5 x&&xs.all (Y8 5))=Ab then (match xs.findIdx? λy=>My y x with
  |some j=>.ok (.int (j:Ag))
  | none=>.bad) else .bad
noncomputable def zr:BI->Ac D->R D
  |.len,[.lst xs]=>.ok (.int xs.length)
  |.len,[.tup xs]=>.ok (.int xs.length)
  |.len,[.str x]=>if Db x.length=Ab then .ok (.int x.length) else .bad
  |.abs,[.int i]=>.ok (.int (if i<0 then -i else i))
  |.max,[.int i,.int j]=>.ok (.int (if i<j then j else i))
  |.min,[.int i,.int j]=>.ok (.int (if j<i then j else i))
  |.min,[.lst xs]=>match JE xs with
    |some (i::is)=>.ok (.int (IZ i is))
    |_=>.bad
  |.int,[.int i]=>.ok (.int i)
  |.int,[.bl b]=>.ok (.int (ô b))
  |.list,[.lst xs]=>.ok (.lst xs)
  |.list,[.tup xs]=>.ok (.lst xs)
  |.tuple,[.lst xs]=>.ok (.tup xs)
  |.tuple,[.tup xs]=>.ok (.tup xs)
  |.all,[.lst xs]=>(Ho xs).bind λb=>.ok (.bl b)
  |.any,[.lst xs]=>(RF xs).bind λb=>.ok (.bl b)
  |.any,[.tup xs]=>(RF xs).bind λb=>.ok (.bl b)
  |.sum,[.lst xs]=>(RQ 0 xs).bind λi=>.ok (.int i)
  |.sum,[.tup xs]=>(RQ 0 xs).bind λi=>.ok (.int i)
  |.sorted,[.lst xs]=>(iZ xs).bind λys=>.ok (.lst ys)
  |.index,[.lst xs,x]=>ON xs x
  |.count,[.lst xs,x]=>if (Y8 5 x&&xs.all (Y8 5))=Ab then .ok (.int ((xs.filter λy=>My y x).length:Ag)) else .bad
  |.len,[.dic kvs]=>.ok (.int kvs.length)
  |.stp,[.lst xs,.int k]=>.ok (.lst (yU k.toNat xs))
  |.lset,[.lst xs]=>vU xs
  |.lset,[.tup xs]=>vT xs
  |.sjoin,[.str s,.lst xs]=>QK s xs
  |.str,[.int i]=>if Lu i=Ab then .ok (.str (Aj (toString i))) else .bad
  |.ssplit,[.str x,.str y]=>if (!(y.length==0)&&IV x y)=Ab then .ok (.lst ((DH x y).map D.str)) else .bad
  |.tmin,[x,y]=>mmD Af x y
  |.tmax,[x,y]=>mmD Ab x y
  |.tlt,[x,y]=>yH x y
  |.rvs,[.lst xs]=>.ok (.lst xs.reverse)
  |_,_=>.bad
noncomputable def slE(c:E)(d:D):R (Ao Ai):=match c with
  |.non=>.ok Ae
  |_=>(Hn d).bind λi=>.ok (Aa i)
noncomputable def IX(n d:Ag):Ao Ai->Ag
 |none=>d
 |some i=>if i<0 then (i+n).toNat else min i.toNat n
noncomputable def KU(xs:Ac D)(lo hi:Ao Ai):Ac D:=(xs.drop (IX xs.length 0 lo)).take (IX xs.length xs.length hi-IX xs.length 0 lo)
noncomputable def ä:D->Ao Ai->Ao Ai->R D
 |.lst xs,l,h=>.ok (.lst (KU xs l h))
 |.tup xs,l,h=>if (IX xs.length 0 l==0&&IX xs.length xs.length h==xs.length)=Ab then .bad else .ok (.tup (KU xs l h))
 |.str x,l,h=>if (Db x.length&&Db (JN x l h).length)=Ab then .ok (.str (JN x l h)) else .bad
 |_,_,_=>.bad
noncomputable def oup:Ag->Ac Ag
 |0=>[0]
 |1=>[1,0]
 |2=>[2,0]
 |_=>[]
noncomputable def Õ:D->Ah->R D
  |.obj _ fs,f=>match fs.lookup f with
    |some d=>.ok d
    |none=>.bad
  |_,_=>.bad
noncomputable def Xe(k:Ag):D->R D
 |.obj c _=>.ok (.bl ((oup c).contains k))
 |_=>.bad
noncomputable def OF(F:Ag->Ac D->R D)(m:Ah)(ms:Ac (Ag×Ag)):D->R D
  |.obj c fs=>match ms.lookup c with
    |some id=>if (fs.lookup m).isNone=Ab then F id [.obj c fs] else .bad
    |none=>.bad
  |_=>.bad
noncomputable def ET(c:Ag):D->R D
 |.tup [a,b]=>if xq 5 b=Ab then .ok (.obj c [("p",a),("triple",b)]) else .bad
 |_=>.bad
noncomputable def R5:D->Ah->R D
  |.exc _ fs,f=>match fs.lookup f with
    |some d=>.ok d
    |none=>.bad
  |_,_=>.bad
noncomputable def G5(U:Rho)(i:Ag):R D:=match U[i]? with
  |some (Aa (d,Af))=>.ok d
  |_=>.bad
noncomputable def xX:D->R D
 |.lst xs=>.ok (.lst xs)
 |_=>.bad
noncomputable def Da(U:Rho)(i:Ag):R D:=match U[i]? with
  |some (Aa (d,Af))=>.ok d
  |some (Aa (d,Ab))=>xX d
  |_=>.bad
noncomputable def â(U:Rho):E->An
  | .var i=>(match U[i]? with
    |some (Aa (_,Ab))=>Af
    | _=>Ab)
  |_=>Ab
noncomputable def KO(U:Rho):Es->An
 |.nil=>Ab
 |.cons e es=>â U e&&KO U es
noncomputable def IJ:Ac Ag->Ac D->Rho->Ao Rho
 |[],[],U=>Aa U
 |t::ts,d::ds,U=>IJ ts ds (U.set t (Aa (d,Af)))
 |_,_,_=>Ae
noncomputable def JA(ts:Ac Ag)(d:D)(U:Rho):R Rho:=match d with
  | .tup xs=>(match IJ ts xs U with
    |some U'=>.ok U'
    | none=>.bad)
  |_=>.bad
noncomputable def Ni(ts:Ac Ag)(d:D)(U:Rho):R Rho:=match d with
  | .lst xs=>(match IJ ts xs U with
    |some U'=>.ok U'
    | none=>.bad)
  |d=>JA ts d U
noncomputable def Cu(g:D->R An)(f:D->R D):Ac D->R (Ac D)
 |[]=>.ok []
 |x::xs=>(g x).bind λb=>if b=Ab then (f x).bind λy=>(Cu g f xs).bind λys=>.ok (y::ys) else Cu g f xs
noncomputable def zk{α:Type}:R α->R α
 |.ok a=>.ok a
 |_=>.bad
noncomputable def top(U:Rho)(e:E)(r:R D):R D:=match e with
  |.var i=>Da U i
  |_=>r
mutual
noncomputable def evE(Z:Z4)(U:Rho):E->R D
 |.non=>.ok .non
 |.bl b=>.ok (.bl b)
 |.int i=>.ok (.int i)
 |.str x=>.ok (.str x)
 |.var i=>G5 U i
 |.glob g=>.ok (Z.G g)
 |.bin op a b=>(top U a (evE Z U a)).bind λx=>(top U b (evE Z U b)).bind λy=>Dm op x y
 |.un op a=>(top U a (evE Z U a)).bind λx=>unD op x
 |.no a=>(top U a (evE Z U a)).bind λx=>(Dz x).bind λb=>.ok (.bl (!b))
 |.and es=>evN Z U es
 |.or es=>evO Z U es
 |.cmp op a b=>(top U a (evE Z U a)).bind λx=>(top U b (evE Z U b)).bind λy=>Cq op x y
 |.cmp2 op op' a b c=>(top U a (evE Z U a)).bind λx=>(top U b (evE Z U b)).bind λy=>(Cq op x y).bind λz=>(Dz z).bind λk=>if k=Ab then (top U c (evE Z U c)).bind λu=>Cq op' y u else .ok (.bl Af)
 |.ite c a b=>(top U c (evE Z U c)).bind λx=>(Bs x).bind λk=>if k=Ab then evE Z U a else evE Z U b
 |.call f as=>(yg Z U as).bind λxs=>(Z.F f xs).bind λd=>if KO U as=Ab then .ok d else if JG (Z.fr f) d=Ab then .ok d else .bad
 |.bi b as=>(yg Z U as).bind λxs=>zr b xs
 |.isi a ks=>(top U a (evE Z U a)).bind λx=>G2 Z.up ks x
 |.idx a i=>(top U a (evE Z U a)).bind λx=>(top U i (evE Z U i)).bind λy=>G3 x y
 |.sl a lo hi=>(top U a (evE Z U a)).bind λx=>(top U lo (evE Z U lo)).bind λl=>(slE lo l).bind λl'=>(top U hi (evE Z U hi)).bind λh=>(slE hi h).bind λh'=>ä x l' h'
 |.tup es=>(ye Z U es).bind λxs=>.ok (.tup xs)
 |.lst es=>(ye Z U es).bind λxs=>.ok (.lst xs)
 |.comp elt t it c=>(ig Z U it).bind λxs=>(zk (Cu (λx=>(top (U.set t (Aa (x,Af))) c (evE Z (U.set t (Aa (x,Af))) c)).bind Bs) (λx=>evE Z (U.set t (Aa (x,Af))) elt) xs)).bind λys=>.ok (.lst ys)
 |.compT elt ts it c=>(ig Z U it).bind λxs=>(zk (Cu (λx=>(JA ts x U).bind λU'=>(top U' c (evE Z U' c)).bind Bs) (λx=>(JA ts x U).bind λU'=>evE Z U' elt) xs)).bind λys=>.ok (.lst ys)
 |.tupI it=>(ig Z U it).bind λxs=>.ok (.tup xs)
 |.dnew=>.ok (.dic [])
 |.fld o f=>(top U o (evE Z U o)).bind λx=>R5 x f
 |.mkx c as=>(zk (ye Z U as)).bind λxs=>(Z.xn c xs).bind λx=>.ok (.exc x.c x.fs)
 |.ofl o f=>(top U o (evE Z U o)).bind λx=>Õ x f
 |.iso a k=>(top U a (evE Z U a)).bind λx=>Xe k x
 |.meth m ms o=>(top U o (evE Z U o)).bind λx=>OF Z.F m ms x
 |.mkob c e=>(zk (evE Z U e)).bind λx=>ET c x
 |.mkn c as=>(zk (ye Z U as)).bind λxs=>Z.F (900+c) xs
noncomputable def evN(Z:Z4)(U:Rho):Es->R D
 |.nil=>.bad
 |.cons e .nil=>evE Z U e
 |.cons e (.cons e' es)=>(evE Z U e).bind λx=>(Dz x).bind λc=>if c=Ab then evN Z U (.cons e' es) else .ok (.bl Af)
noncomputable def evO(Z:Z4)(U:Rho):Es->R D
 |.nil=>.bad
 |.cons e .nil=>evE Z U e
 |.cons e (.cons e' es)=>(evE Z U e).bind λx=>(Dz x).bind λc=>if c=Ab then .ok (.bl Ab) else evO Z U (.cons e' es)
noncomputable def ye(Z:Z4)(U:Rho):Es->R (Ac D)
 |.nil=>.ok []
 |.cons e es=>(evE Z U e).bind λx=>(ye Z U es).bind λxs=>.ok (x::xs)
noncomputable def yg(Z:Z4)(U:Rho):Es->R (Ac D)
 |.nil=>.ok []
 |.cons e es=>(top U e (evE Z U e)).bind λx=>(yg Z U es).bind λxs=>.ok (x::xs)
noncomputable def ig(Z:Z4)(U:Rho):I->R (Ac D)
 |.e a=>(evE Z U a).bind G1
 |.rng a=>(top U a (evE Z U a)).bind λx=>(Hn x).bind λj=>FK 0 j
 |.rng2 a b=>(top U a (evE Z U a)).bind λx=>(top U b (evE Z U b)).bind λy=>(Hn x).bind λi=>(Hn y).bind λj=>FK i j
 |.zip a b=>(evE Z U a).bind λx=>(evE Z U b).bind λy=>(G1 x).bind λxs=>(G1 y).bind λys=>.ok (WF xs ys)
 |.zip3 a b c=>(evE Z U a).bind λx=>(evE Z U b).bind λy=>(evE Z U c).bind λz=>uD x y z
 |.enm a=>(evE Z U a).bind λx=>(G1 x).bind λxs=>.ok (R7 0 xs)
end
noncomputable def Fn(Z:Z4):E->An
 |.lst _=>Ab
 |.comp _ _ _ _=>Ab
 |.compT _ _ _ _=>Ab
 |.dnew=>Ab
 |.bin .Add _ _=>Ab
 |.bi .list _=>Ab
 |.bi .sorted _=>Ab
 |.sl _ _ _=>Ab
 |.call f _=>Z.fr f
 |_=>Af
mutual
inductive S where
 |pass
 |asg (i:Ag) (fresh:An) (e:E)
 |asgT (ts:Ac Ag) (e:E)
 |expr (e:E)
 |ret (e:E)|retN
 |ife (c:E) (a b:Ss)
 |fors (t:Ag) (it:I) (body:Ss)
 |forT (ts:Ac Ag) (it:I) (body:Ss)
 |forO (i:Ag) (ts:Ac Ag) (body:Ss)
 |whl (c:E) (body:Ss)
 |rais (c:Ag) (as:Es)
 |tryx (body:Ss) (c:Ag) (x:Ag) (h:Ss)
 |try2 (body:Ss) (c:Ag) (x:Ag) (h:Ss) (c':Ag) (h' els:Ss)
 |app (i:Ag) (e:E)|ext (i:Ag) (e:E)|ins (i:Ag) (k e:E)|rev (i:Ag)|clr (i:Ag)
 |dput (i:Ag) (k e:E)|dsd (i:Ag) (k e:E)
 |put (i:Ag) (k e:E)
 |swp (i k l:Ag)
 |apop (j i:Ag) (e:E)
 |brk|cont
 |rel (i:Ag)
inductive Ss where
 |nil|cons (s:S) (ss:Ss)
end
inductive O where
 |next (U:Rho)|ret (d:D) (fr:An)|brk (U:Rho)|cont (U:Rho)|exn (x:Ex) (U:Rho)|bad
 deriving Inhabited
noncomputable def O.of{α:Type}(U:Rho)(r:R α)(f:α->O):O:=match r with
  |.ok a=>f a
  |.exn x=>.exn x U
  |.bad=>.bad
@[simp]theorem O.of_ok(U:Rho)(a:α)(f:α->O):O.of U (.ok a) f=f a:=rfl
noncomputable def Xo(Z:Z4)(U:Rho)(i:I):R (Ac D):=ig Z U i
noncomputable def F6(U:Rho)(i:Ag):R (Ac D):=match U[i]? with
  |some (Aa (.lst xs,Ab))=>.ok xs
  |_=>.bad
noncomputable def WD(U:Rho)(i:Ag):R (Ac (Ac Ai×D)):=match U[i]? with
  |some (Aa (.dic xs,Ab))=>.ok xs
  |_=>.bad
noncomputable def Wo(d:D):R (Ac Ai):=match Mr d with
  |some k=>.ok k
  |none=>.bad
noncomputable def xE:Ag:=4096
noncomputable def O.seq(o:O)(f:Rho->O):O:=match o with
  |.next U=>f U
  |.ret d b=>.ret d b
  |.brk U=>.brk U
  |.cont U=>.cont U
  |.exn x U=>.exn x U
  |.bad=>.bad
noncomputable def O.turn(o:O)(f:Rho->O):O:=match o with
  |.next U=>f U
  |.cont U=>f U
  |.brk U=>.next U
  |.ret d b=>.ret d b
  |.exn x U=>.exn x U
  |.bad=>.bad
noncomputable def Fo(body:D->Rho->O):Ac D->Rho->O
 |[],U=>.next U
 |x::xs,U=>(body x U).turn (Fo body xs)
noncomputable def WL(c:Rho->R An)(body:Rho->O):Ag->Rho->O
 |0,_=>.bad
 |n+1,U=>O.of U (c U) λb=>if b=Ab then (body U).turn (WL c body n) else .next U
noncomputable def We(U:Rho)(k:Ag):R Ai:=(G5 U k).bind Hn
noncomputable def yT(U:Rho)(d:D)(i k l:Ag):O:=match d with
  |.tup [x,y]=>O.of U (F6 U i) λxs=>O.of U (We U k) λa=>O.of U (We U l) λb=>match qj xs.length a,qj xs.length b with
    |some m,Aa n=>.next (U.set i (Aa (.lst ((xs.set m x).set n y),Ab)))
    |_,_=>.bad
  |_=>.bad
noncomputable def apD(U:Rho)(j i:Ag)(ys xs:Ac D)(n:Ai):O:=match qj xs.length n with
  | some m=>(match xs[m]? with
    |some d=>if (j != i&&(Db xs.length&&Db (ys.length+1)))=Ab then .next ((U.set i (Aa (.lst (xs.eraseIdx m),Ab))).set j (Aa (.lst (ys++[d]),Ab))) else .bad
    | none=>.bad)
  |none=>.bad
noncomputable def uv(i:Ag)(y:Ex)(U':Rho)(fh:Rho->O):O:=match fh (U'.set i (Aa (.exc y.c y.fs,Af))) with
  |.next qw=>.next (qw.set i Ae)
  |.ret d f=>.ret d f
  |_=>.bad
noncomputable def Wv(U:Rho)(i:Ag):D->O
 |.lst xs=>.next (U.set i (Aa (.lst xs,Af)))
 |_=>.bad
noncomputable def WC(U:Rho)(i:Ag):An:=match U[i]? with
  |some (Aa (.non,Ab))=>Ab
  |_=>Af
noncomputable def uH(i:Ag)(xs:Ac D):O->O
 |.next U=>if WC U i=Ab then .next (U.set i (Aa (.lst xs,Ab))) else .bad
 |.ret d fr=>.ret d fr
 |_=>.bad
mutual
noncomputable def xz(Z:Z4)(U:Rho):S->O
  |.pass=>.next U
  | .asg i fresh e=>O.of U (evE Z U e) λd=>if fresh=Ab then (if Fn Z e=Ab then (match d with
      |.lst xs=>.next (U.set i (Aa (.lst xs,Ab)))
      |.dic xs=>.next (U.set i (Aa (.dic xs,Ab)))
      | _=>.bad) else .bad) else .next (U.set i (Aa (d,Af)))
  |.asgT ts e=>O.of U (evE Z U e) λd=>O.of U (Ni ts d U) λU'=>.next U'
  |.expr e=>O.of U (evE Z U e) λ_=>.next U
  |.ret e=>O.of U (top U e (evE Z U e)) λd=>.ret d (Fn Z e||(match e with | .var i=>(match U[i]? with|some (Aa (_,o))=>o|_=>Af)|_=>Af))
  |.retN=>.ret .non Af
  |.ife c a b=>O.of U ((top U c (evE Z U c)).bind Bs) λk=>if k=Ab then Ty Z U a else Ty Z U b
  |.fors t it body=>O.of U (Xo Z U it) λxs=>Fo (λx U'=>Ty Z (U'.set t (Aa (x,Af))) body) xs U
  |.forT ts it body=>O.of U (Xo Z U it) λxs=>Fo (λx U'=>O.of U' (JA ts x U') λqw=>Ty Z qw body) xs U
  |.forO i ts body=>O.of U (F6 U i) λxs=>uH i xs (Fo (λx U'=>if WC U' i=Ab then O.of U' (JA ts x U') λqw=>Ty Z qw body else .bad) (R7 0 xs) (U.set i (Aa (.non,Ab))))
  |.whl c body=>WL (λU'=>(top U' c (evE Z U' c)).bind Bs) (λU'=>Ty Z U' body) xE U
  |.rais c as=>O.of U (zk (ye Z U as)) λxs=>O.of U (Z.xn c xs) λx=>.exn x U
  |.tryx body c x h=>match Ty Z U body with
      | .exn y U'=>if (Z.up y.c).contains c=Ab then (match Ty Z (U'.set x (Aa (.exc y.c y.fs,Af))) h with
          |.next qw=>.next (qw.set x Ae)
          |.ret d f=>.ret d f
          | _=>.bad) else .bad
      |o=>o
  |.try2 body c x h c' h' els=>match Ty Z U body with
      |.exn y U'=>if (Z.up y.c).contains c=Ab then uv x y U' (λr=>Ty Z r h) else if (Z.up y.c).contains c'=Ab then uv x y U' (λr=>Ty Z r h') else .bad
      |.next U'=>Ty Z U' els
      |o=>o
  |.app i e=>O.of U (F6 U i) λxs=>O.of U (evE Z U e) λd=>if Db (xs.length+1)=Ab then .next (U.set i (Aa (.lst (xs++[d]),Ab))) else .bad
  |.ext i e=>O.of U (F6 U i) λxs=>O.of U (evE Z U e) λd=>O.of U (xU d) λys=>if Db (xs.length+ys.length)=Ab then .next (U.set i (Aa (.lst (xs++ys),Ab))) else .bad
  |.ins i k e=>O.of U (F6 U i) λxs=>O.of U ((top U k (evE Z U k)).bind Hn) λj=>O.of U (evE Z U e) λd=>if (Db (xs.length+1)&&decide (0<=j)&&decide (j<=xs.length))=Ab then .next (U.set i (Aa (.lst (xs.take j.toNat++d::xs.drop j.toNat),Ab))) else .bad
  |.rev i=>O.of U (F6 U i) λxs=>.next (U.set i (Aa (.lst xs.reverse,Ab)))
  |.clr i=>O.of U (F6 U i) λ_=>.next (U.set i (Aa (.lst [],Ab)))
  |.dput i k e=>O.of U (evE Z U e) λd=>O.of U (WD U i) λxs=>O.of U ((evE Z U k).bind Wo) λj=>if Db (xs.length+1)=Ab then .next (U.set i (Aa (.dic (VP xs j d),Ab))) else .bad
  |.dsd i k e=>O.of U (WD U i) λxs=>O.of U ((evE Z U k).bind Wo) λj=>O.of U (evE Z U e) λd=>if Db (xs.length+1)=Ab then .next (U.set i (Aa (.dic (if (xs.any λp=>p.1==j)=Ab then xs else VP xs j d),Ab))) else .bad
  |.put i k e=>O.of U (evE Z U e) λd=>O.of U (F6 U i) λxs=>O.of U ((top U k (evE Z U k)).bind Hn) λj=>match qj xs.length j with
      |some n=>.next (U.set i (Aa (.lst (xs.set n d),Ab)))
      |none=>.bad
  |.swp i k l=>O.of U (evE Z U (.tup (.cons (.idx (.var i) (.var l)) (.cons (.idx (.var i) (.var k)) .nil)))) λd=>yT U d i k l
  |.apop j i e=>O.of U (F6 U j) λys=>O.of U (F6 U i) λxs=>O.of U (evE Z U e) λd=>O.of U (Hn d) λn=>apD U j i ys xs n
  |.brk=>.brk U
  |.cont=>.cont U
  |.rel i=>match U[i]? with
      |some (Aa (d,Ab))=>Wv U i d
      |_=>.next U
noncomputable def Ty(Z:Z4)(U:Rho):Ss->O
 |.nil=>.next U
 |.cons s ss=>(xz Z U s).seq λU'=>Ty Z U' ss
end
structure Df where
 n:Ag
 fr:An
 body:Ss
noncomputable def Bw(n:Ag)(ds:Ac D):Rho:=ds.map (λd=>Aa (d,Af))++EA (n-ds.length) Ae
noncomputable def bx:D->An
 |.lst _=>Ab
 |.dic _=>Ab
 |_=>Af
noncomputable def O.ans(fr:An)(o:O):R D:=match o with
  |.ret d b=>if (fr&&(!b&&bx d))=Ab then .bad else .ok d
  |.next _=>if fr=Ab then .bad else .ok .non
  |.exn x _=>.exn x
  |_=>.bad
noncomputable def Df.run(Z:Z4)(f:Df)(ds:Ac D):R D:=(Ty Z (Bw f.n ds) f.body).ans f.fr
structure Prg where
 xs:An
 defs:Ag->Df
 G:Ag->D
 up:Ag->Ac Ag
 xn:Ag->Ac D->R Ex
noncomputable def Et(xs:An)(r:R D):R D:=match xs with
  |true=>r
  |false=>zk r
noncomputable def Z6(P:Prg):Ag->Z4
 |0=>⟨λ_ _=>.bad,P.G,P.up,λi=>(P.defs i).fr,P.xn⟩
 |n+1=>⟨λi ds=>Et P.xs ((P.defs i).run (Z6 P n) ds),P.G,P.up,λi=>(P.defs i).fr,P.xn⟩
end Ov
end
section
namespace Ov
open PySem
variable{α:Type}{lo hi:Ai}
section
variable(Z:Z4)(U:Rho)
@[simp]theorem VO(b):evE Z U (.bl b)=.ok (.bl b):=rfl
@[simp]theorem Qs(b):evE Z U (.int b)=.ok (.int b):=rfl
@[simp]theorem Qr(b):evE Z U (.str b)=.ok (.str b):=rfl
@[simp]theorem UZ(op a b):evE Z U (.bin op a b)=(top U a (evE Z U a)).bind λx=>(top U b (evE Z U b)).bind λy=>Dm op x y:=rfl
@[simp]theorem Uo(e e' es):evN Z U (.cons e (.cons e' es))=(evE Z U e).bind λx=>(Dz x).bind λc=>if c=Ab then evN Z U (.cons e' es) else .ok (.bl Af):=rfl
@[simp]theorem Kx(op a b):evE Z U (.cmp op a b)=(top U a (evE Z U a)).bind λx=>(top U b (evE Z U b)).bind λy=>Cq op x y:=rfl
@[simp]theorem fK(f as):evE Z U (.call f as)=(yg Z U as).bind λxs=>(Z.F f xs).bind λd=>if KO U as=Ab then .ok d else if JG (Z.fr f) d=Ab then .ok d else .bad:=rfl
@[simp]theorem KG(f as):evE Z U (.bi f as)=(yg Z U as).bind λxs=>zr f xs:=rfl
@[simp]theorem NY(a i):evE Z U (.idx a i)=(top U a (evE Z U a)).bind λx=>(top U i (evE Z U i)).bind λy=>G3 x y:=rfl
@[simp]theorem kU(es):evE Z U (.tup es)=(ye Z U es).bind λxs=>.ok (.tup xs):=rfl
@[simp]theorem kW(es):evE Z U (.lst es)=(ye Z U es).bind λxs=>.ok (.lst xs):=rfl
noncomputable def cG(Z:Z4)(U:Rho)(t:Ag)(c:E):D->R An:=λx=>(top (U.set t (Aa (x,Af))) c (evE Z (U.set t (Aa (x,Af))) c)).bind Bs
noncomputable def cF(Z:Z4)(U:Rho)(t:Ag)(elt:E):D->R D:=λx=>evE Z (U.set t (Aa (x,Af))) elt
noncomputable def mkL(r:R (Ac D)):R D:=(zk r).bind λys=>.ok (.lst ys)
@[simp]theorem jT:ye Z U .nil=.ok []:=rfl
@[simp]theorem MR(e es):ye Z U (.cons e es)=(evE Z U e).bind λx=>(ye Z U es).bind λxs=>.ok (x::xs):=rfl
@[simp]theorem kX:yg Z U .nil=.ok []:=rfl
@[simp]theorem L5(e es):yg Z U (.cons e es)=(top U e (evE Z U e)).bind λx=>(yg Z U es).bind λxs=>.ok (x::xs):=rfl
variable(r:R D)
@[simp]theorem Io(i):top U (.var i) r=Da U i:=rfl
@[simp]theorem Vf(b):top U (.bl b) r=r:=rfl
@[simp]theorem Qc(b):top U (.int b) r=r:=rfl
@[simp]theorem Qj(b):top U (.str b) r=r:=rfl
@[simp]theorem fS(op a b):top U (.bin op a b) r=r:=rfl
@[simp]theorem N2(op a b):top U (.cmp op a b) r=r:=rfl
@[simp]theorem TN(a b):top U (.call a b) r=r:=rfl
@[simp]theorem N9(a b):top U (.bi a b) r=r:=rfl
end
@[simp]theorem ZpK(x:Sl)(U:Rho)(i:Ag)[NeZero i]:Da (x::U) i=Da U (i-1):=by
 obtain⟨j,rfl⟩:∃ j,i=j+1:=⟨i-1,by have:=Ms i;omega⟩
 rfl
@[simp]theorem ZpL(x:Sl)(U:Rho)(i:Ag)[NeZero i]:G5 (x::U) i=G5 U (i-1):=by
 obtain⟨j,rfl⟩:∃ j,i=j+1:=⟨i-1,by have:=Ms i;omega⟩
 rfl
noncomputable def lg(U:Rho)(i:Ag):An:=match U[i]? with
    |some (Aa (_,Ab))=>Af
    |_=>Ab
@[simp]theorem ZsU(x:D)(b:An)(U:Rho):lg (Aa (x,b)::U) 0=!b:=by cases b<;>rfl
@[simp]theorem Zqt(x:Sl)(U:Rho)(i:Ag)[NeZero i]:lg (x::U) i=lg U (i-1):=by
 obtain⟨j,rfl⟩:∃ j,i=j+1:=⟨i-1,by have:=Ms i;omega⟩
 rfl
section
variable(U:Rho)
@[simp]theorem bU(e es):KO U (.cons e es)=(â U e&&KO U es):=rfl
end
@[simp]theorem cP(ts ds)(U:Rho):Ni ts (.lst ds) U=match IJ ts ds U with
  |some U'=>.ok U'
  |none=>.bad:=rfl
@[simp]theorem aO(ts ds)(U:Rho):JA ts (.tup ds) U=match IJ ts ds U with
  |some U'=>.ok U'
  |none=>.bad:=rfl
@[simp]theorem Zs6{β:Type}(c:Prop)[JY c](a b:R α)(f:α->R β):(if c then a else b).bind f=if c then a.bind f else b.bind f:=by split<;>rfl
@[simp]theorem Zwe(U:Rho)(c:Prop)[JY c](a b:R α)(f:α->O):O.of U (if c then a else b) f=if c then O.of U a f else O.of U b f:=by split<;>rfl
@[simp]theorem ZuP{β:Type}(U:Rho)(a:R α)(g:α->R β)(f:β->O):O.of U (a.bind g) f=O.of U a λx=>O.of U (g x) f:=by cases a<;>rfl
@[simp]theorem rA(i j:Ai):Dm .Mult (.int i) (.int j)=if (Fj i j||OL i j)=Ab then .ok (.int (i*j)) else .bad:=rfl
@[simp]theorem kR(i j:Ai):Dm .FloorDiv (.int i) (.int j)=if 0<j/\j<1073741824 then .ok (.int (i/j)) else .bad:=rfl
@[simp]theorem rB(i j:Ai):Dm .Mod (.int i) (.int j)=if 0<j then .ok (.int (i%j)) else .bad:=rfl
@[simp]theorem oS(i j:Ai):Dm .Pow (.int i) (.int j)=if (0<=j/\j<=1000000)/\(-(18446744073709551616:Ai)<i/\i<18446744073709551616) then .ok (.int (i ^ j.toNat)) else .bad:=rfl
@[simp]theorem La(x y:Ah):Dm .Add (.str x) (.str y)=if Db (x.length+y.length)=Ab then .ok (.str (x++y)) else .bad:=rfl
@[simp]theorem Vw(x y:Ac D):Dm .Add (.lst x) (.lst y)=if Db (x.length+y.length)=Ab then .ok (.lst (x++y)) else .bad:=rfl
@[simp]theorem Vv(x y:Ac D):Dm .Add (.tup x) (.tup y)=if (!x.isEmpty&&Db (x.length+y.length))=Ab then .ok (.tup (x++y)) else .bad:=rfl
@[simp]theorem xK(x y:D):Cq .Eq x y=if (Y8 5 x&&Y8 5 y)=Ab then .ok (.bl (My x y)) else .bad:=rfl
@[simp]theorem vQ(x y:D):Cq .NotEq x y=if (Y8 5 x&&Y8 5 y)=Ab then .ok (.bl (!My x y)) else .bad:=rfl
@[simp]theorem yF(x:D)(ys:Ac D):Cq .In x (.lst ys)=if (Y8 5 x&&ys.all (Y8 5))=Ab then .ok (.bl (ys.any λy=>My y x)) else .bad:=rfl
@[simp]theorem yE(x:D)(ys:Ac D):Cq .In x (.tup ys)=if (Y8 5 x&&ys.all (Y8 5))=Ab then .ok (.bl (ys.any λy=>My y x)) else .bad:=rfl
@[simp]theorem vP(x:D)(ys:Ac D):Cq .NotIn x (.lst ys)=if (Y8 5 x&&ys.all (Y8 5))=Ab then .ok (.bl (!ys.any λy=>My y x)) else .bad:=rfl
@[simp]theorem vO(x:D)(ys:Ac D):Cq .NotIn x (.tup ys)=if (Y8 5 x&&ys.all (Y8 5))=Ab then .ok (.bl (!ys.any λy=>My y x)) else .bad:=rfl
@[simp]theorem PQ(x y:D)(xs ys:Ac D):KK (x::xs) (y::ys)=(My x y&&KK xs ys):=rfl
@[simp]theorem Zve(n)(i:Ai):Y8 n (.int i)=Ab:=by cases n<;>rfl
@[simp]theorem Zvc(n)(i:Ah):Y8 n (.str i)=Ab:=by cases n<;>rfl
@[simp]theorem Zvd(n):Y8 n .non=Ab:=by cases n<;>rfl
@[simp]theorem Sw(x r):Ho (x::r)=(IU x).bind λb=>(Ho r).bind λc=>.ok (b&&c):=rfl
@[simp]theorem uW(xs i):G3 (.lst xs) (.int i)=DU xs i:=rfl
@[simp]theorem uV(xs i):G3 (.tup xs) (.int i)=DU xs i:=rfl
@[simp]theorem wZ(i):zr .all [.lst i]=(Ho i).bind λb=>.ok (.bl b):=rfl
@[simp]theorem yV(xs lo hi):ä (.tup xs) lo hi=if (IX xs.length 0 lo==0&&IX xs.length xs.length hi==xs.length)=Ab then .bad else .ok (.tup (KU xs lo hi)):=rfl
theorem Uk{xs:Ac D}{i:Ai}{d:D}(h0:0<=i)(h:xs[i.toNat]?=Aa d):DU xs i=.ok d:=by
 unfold DU qj;obtain⟨h1,_⟩:=A5.mp h;rw[Au h0,Au (by omega)]
 dsimp only;rw[h]
section
variable(Z:Z4)(U:Rho)
noncomputable def Lx(Z:Z4)(ss:Ss)(o:O):O:=o.seq λU'=>Ty Z U' ss
@[simp]theorem cW(s ss):Ty Z U (.cons s ss)=Lx Z ss (xz Z U s):=rfl
@[simp]theorem Zwt(ss)(c:Prop)[JY c](a b:O):Lx Z ss (if c then a else b)=if c then Lx Z ss a else Lx Z ss b:=by split<;>rfl
@[simp]theorem Zws(o:O):Lx Z .nil o=o:=by cases o<;>rfl
noncomputable def EV(Z:Z4)(t:Ag)(body:Ss):D->Rho->O:=λx U'=>Ty Z (U'.set t (Aa (x,Af))) body
noncomputable def Zxr(Z:Z4)(t:Ag)(body:Ss)(U:Rho)(r:R (Ac D)):O:=O.of U r λxs=>Fo (EV Z t body) xs U
@[simp]theorem UY(e):xz Z U (.ret e)=O.of U (top U e (evE Z U e)) λd=>.ret d (Fn Z e||(match e with | .var i=>(match U[i]? with|some (Aa (_,o))=>o|_=>Af)|_=>Af)):=rfl
theorem fJ(i e):xz Z U (.asg i Ab e)=O.of U (evE Z U e) λd=>if Fn Z e=Ab then (match d with
      |.lst xs=>.next (U.set i (Aa (.lst xs,Ab)))
      |.dic xs=>.next (U.set i (Aa (.dic xs,Ab)))
      | _=>.bad) else .bad:=rfl
noncomputable def setF(U:Rho)(i:Ag):D->O
 |.lst xs=>.next (U.set i (Aa (.lst xs,Ab)))
 |.dic xs=>.next (U.set i (Aa (.dic xs,Ab)))
 |_=>.bad
@[simp]theorem cX(i e):xz Z U (.asg i Ab e)=O.of U (evE Z U e) λd=>if Fn Z e=Ab then setF U i d else .bad:=by
 rw[fJ]
 congr 1
@[simp]theorem Um(c as):xz Z U (.rais c as)=O.of U (zk (ye Z U as)) λxs=>O.of U (Z.xn c xs) λx=>.exn x U:=rfl
end
end Ov
namespace Ov
open PySem
theorem bN(h1:0<=lo)(h2:lo<1000000)(h3:0<=hi)(h4:hi<1000000):FK lo hi=.ok (Iv lo (hi-lo).toNat):=by
 unfold FK;rw[Au (by omega)]
theorem bO(h3:0<=hi)(h4:hi<1000000):FK 0 hi=.ok (Iv 0 hi.toNat):=by
 rw[bN (by omega) (by omega) h3 h4,XI]
theorem Pv(lo:Ai)(n:Ag):(Iv lo n).length=n:=by simp[Iv]
theorem fC{n i:Ag}{x:D}(h:(Iv lo n)[i]?=Aa x):i<n/\x=.int (lo+(i:Ai)):=by
 have hl:=(A5.mp h).1;rw[Pv]at hl;unfold Iv at h;rw[Ev,List.getElem?_range hl]at h;cases h;exact⟨hl,rfl⟩
noncomputable def Ss.take:Ag->Ss->Ss
 |0,_=>.nil
 |_,.nil=>.nil
 |n+1,.cons s ss=>.cons s (ss.take n)
noncomputable def Ss.drop:Ag->Ss->Ss
 |0,ss=>ss
 |_,.nil=>.nil
 |n+1,.cons _ ss=>ss.drop n
noncomputable def uh(c:Ag):Df:=⟨2,Af,.cons (.ret (.mkob c (.call 910 (.cons (.var 0) (.cons (.var 1) .nil))))) .nil⟩
noncomputable def kx:Df:=⟨2,Af,.cons (.ret (.tup (.cons (.var 0) (.cons (.call 17 (.cons (.var 0) (.cons (.var 1) .nil))) .nil)))) .nil⟩
end Ov
end
section
namespace Ov
noncomputable def w6:Ag->D->An
 |0,.int i=>decide (0<=i)&&decide (i<100)
 |n+1,.tup ds=>CF ds.length 8&&ds.all (w6 n)
 |_,_=>Af
noncomputable def b8(c:Ag)(f:PySem.Str):Ac D->R Ex
 |[d]=>if (w6 1 d||w6 2 d)=Ab then .ok ⟨c,[(f,d)]⟩ else .bad
 |_=>.bad
end Ov
end
section
namespace OvC
open PySem Ov PyProof.Rows
variable{j:Ai}
noncomputable abbrev scr(ns:Ac Ai):D:=.lst (ns.map .int)
noncomputable abbrev sh(d:D):Sl:=Aa (d,Af)
noncomputable abbrev si(i:Ai):Sl:=Aa (.int i,Af)
noncomputable def xP(ns:Ac Ai)(k:Ai):Ai:=if ns=[] then 0 else ns.getD (k%ns.length).toNat 0
noncomputable def Xb(ns:Ac Ai)(k:Ai):Ai:=(xP ns k%1000003+7919*k+11)*48271%1000033
noncomputable def oQ(ns:Ac Ai)(k:Ai):Ai:=[3,5,7,11].getD (Xb ns k/16%4).toNat 0
theorem Xl{P:Ag->Prop}(h0:P 0)(h1:P 1)(h2:P 2)(h3:P 3):P (j%4).toNat:=by
 have:(j%4).toNat=0\/(j%4).toNat=1\/(j%4).toNat=2\/(j%4).toNat=3:=by omega
 rcases this with e|e|e|e<;>rw[e]<;>assumption
def P4(p:Ai):Prop:=p=3\/p=5\/p=7\/p=11
noncomputable def pr4(j:Ai):Ai:=[3,5,7,11].getD (j%4).toNat 0
theorem oR(j):P4 (pr4 j):=by
 unfold pr4;exact Xl (P:=λj=>P4 ([3,5,7,11].getD j 0)) (.inl rfl) (.inr (.inl rfl)) (.inr (.inr (.inl rfl))) (.inr (.inr (.inr rfl)))
theorem P4.pos{p}(h:P4 p):0<p:=by rcases h with rfl|rfl|rfl|rfl<;>decide
theorem P4.lo{p}(h:P4 p):3<=p:=by rcases h with rfl|rfl|rfl|rfl<;>decide
theorem P4.hi{p}(h:P4 p):p<=11:=by rcases h with rfl|rfl|rfl|rfl<;>decide
theorem fE(j:Ai):DU [.int 3,.int 5,.int 7,.int 11] (j%4)=.ok (.int (pr4 j)):=by
 have h:=Xl (P:=λj=>[D.int 3,D.int 5,D.int 7,D.int 11][j]?=Aa (D.int ([3,5,7,11].getD j 0))) (j:=j) rfl rfl rfl rfl
 exact Uk (by omega) h
theorem M0{i:Ai}(h0:-18446744073709551616<i)(h1:i<18446744073709551616):Fj i j=Ab:=by simp[Fj];left;exact⟨h0,h1⟩
theorem N5{i:Ai}(h0:-18446744073709551616<j)(h1:j<18446744073709551616):Fj i j=Ab:=by simp[Fj];right;exact⟨h0,h1⟩
noncomputable def QT:Df:=⟨2,Af,(.cons (.ret (.bin .Mod (.var 1) (.var 0))) .nil)⟩
def Oi(Z:Z4):Prop:=∀ p n:Ai,0<p->Z.F 1 [.int p,.int n]=.ok (.int (n%p))
theorem oB(Z:Z4)(p n:Ai)(h:0<p):QT.run Z [.int p,.int n]=.ok (.int (n%p)):=by simp[QT,Df.run,Bw,h]
def mC(Z:Z4):Prop:=∀(ns:Ac Ai)(k:Ai),Z.F 3 [scr ns,.int k]=.ok (.int (Xb ns k))
def mB(Z:Z4):Prop:=∀(ns:Ac Ai)(k:Ai),Z.F 4 [scr ns,.int k]=.ok (.int (oQ ns k))
def lX(Z:Z4):Prop:=∀ x a b:Ai,Z.F 6 [.int x,.int a,.int b]=.ok (.bl (decide (a<=x)&&decide (x<=b)))
end OvC
end
namespace Ov
open PySem PySem.Spec PyProof.Rows L2
variable{K:Fg}{mg:Ah->Ao Al}{x:Ah}{A B:Ak->Prop}{H H' H1 H0:Hp}{p a b l q:Ak}{xs vs:Ac V}{v:V}{d:D}{Rp Rq:Hp->V->D->Prop}{r:R D}{Q:VK}{X:Cx}{e c tg iter elt:Aq}{U:Rho}{i n j:Ag}{Y:L2.St}{g:D->D->R D}{op:DC}{pI:Pn}{s:Ar}{its zt ys:Ac Al}{sg items:Bl Al}{h h' h2:AJ}{u:Al}{es ifs:Ac Aq}{fs fi:Rho->R (Ac D)}{Q':Ao Ai->Hp->Prop}{T:CQ}{α:Type}{D':xu}{pos' p2 pos pos2:AF}{fc:Rho->R An}{as:D->Rho->R Rho}{k:Ki}{up:Ag->Ac Ag}{scope:Cb}{env:B5}{cl:Ac (Ah×Ak)}{N':Ac Ah}{ts:Ac Ag}{fp:Ac Ak}{tt:TT}{te:TE}{J:It}{wi:TI}{t:An}
noncomputable def OW:Ag->Ah
 |0 => "Triple"
 |1 => "Point"
 |2 => "Line"
 |_ => ""
noncomputable def OC(K:Fg)(c:Ag):Ao Ak:=if c<3 then (match Bb K AO (OW c) with
  |some (Aa (.ref C))=>Aa C
  | _=>Ae) else Ae
noncomputable def F7:Ac (Ah×Ag×Ah):=[("0.told",0, "told"),("1.told",1, "told"),("2.told",2, "told"),("0.shown",0, "shown"),("1.shown",1, "shown"),("2.shown",2, "shown")]
noncomputable def IQ(K:Fg)(mg:Ah->Ao Al)(x:Ah):Ao Al:=match F7.lookup x with
  |some (c,m)=>(OC K c).bind λC=>(At K (.ref C) m).join
  |none=>mg x
theorem P9{v:Ao Al}(h:IQ K mg x=v)(e:F7.lookup x=Ae):mg x=v:=by
 unfold IQ at h
 rwa [e]at h
theorem cZ{m:Ah}{c:Ag}{C:Ak}{v:Al}(h:IQ K mg x=Aa v)(e:F7.lookup x=Aa (c,m))(hC:OC K c=Aa C):At K (.ref C) m=Aa (Aa v):=by
 unfold IQ at h;rw[e]at h;dsimp only at h;rw[hC]at h;have h':(At K (.ref C) m).join=Aa v:=h;cases q:At K (.ref C) m with
 |none=>rw[q]at h';cases h'
 |some u=>rw[q]at h';have:u=Aa v:=h';rw[this]
abbrev ClA:=Ag->Ao Ak
variable{CL:ClA}
def KL(K:Fg)(a:Ak)(xs:Ac V):Prop:=∃(o:CW)(its:Bl Al)(n:Ag),K.lookup a=Aa o/\o.cls=.type "list"/\o.dict=Ae/\o.data=.seq its n/\its.size<=sizeLine/\A1 xs its.toList
def KT(K:Fg)(a:Ak)(xs:Ac V):Prop:=∃(o:CW)(its:Bl Al)(n:Ag),K.lookup a=Aa o/\o.cls=.type "tuple"/\o.data=.seq its n/\its.size<=sizeLine/\A1 xs its.toList
section
variable(K:Fg)(CL:ClA)(H:Hp)(A:Ak->Prop)
mutual
def Z7:V->D->Prop
 |v,.non=>v=.non
 |v,.bl b=>v=.bl b
 |v,.int i=>v=.int i
 |v,.str x=>v=.str x
 |v,.tup ds=>∃ a xs,v=.ref a/\(¬ A a\/KT K a xs)/\yy K H a xs/\Z9 xs ds
 |v,.lst ds=>∃ a xs,v=.ref a/\(¬ A a\/KL K a xs)/\Id K H a xs/\Z9 xs ds
 |v,.obj c fs=>∃ a C dx vs,v=.ref a/\¬ A a/\OC K c=Aa C/\H a=Aa (.ins C dx vs)/\z9 vs fs
 |_,.dic _=>AM
 |v,.exc c fs=>∃ a C φ,v=.ref a/\¬ A a/\CL c=Aa C/\H a=Aa (.ext φ)/\(∀ h,φ h->∃ o,h.get? a=Aa o/\o.cls=.ref C)/\(fs=[]\/∃ dx vs,¬ A dx/\H dx=Aa (.xd vs)/\z9 vs fs/\∀ h,φ h->∃ o,h.get? a=Aa o/\o.dict=Aa dx/\∃ us,o.data=.fields us)
def Z9:Ac V->Ac D->Prop
 |[],[]=>F3
 |v::vs,d::ds=>Z7 v d/\Z9 vs ds
 |_,_=>AM
def z9:Ac (Ah×V)->Ac (Ah×D)->Prop
 |[],[]=>F3
 |v::vs,d::ds=>yq v d/\z9 vs ds
 |_,_=>AM
def yq:Ah×V->Ah×D->Prop
 |v,(n,d)=>v.1=n/\Z7 v.2 d
end
def Cv(v:V)(d:D):Prop:=Z7 K CL H A v d\/∃ a xs ds,v=.ref a/\d=.lst ds/\H a=Aa (.lst xs)/\Z9 K CL H A xs ds
end
def Kp(A:Ak->Prop)(H H':Hp):Prop:=∀ b o,H b=Aa o->¬ A b->H' b=Aa o
def zN:HO->Prop
 |.lst _=>F3
 |.ins _ _ _=>F3
 |_=>AM
def Tm(H:Hp)(A:Ak->Prop):Prop:=∀ a,A a->∃ o,H a=Aa o/\zN o
theorem Kp.of(h:Az H H'):Kp A H H':=λb o e _=>h b o e
theorem Tm.same(h:Tm H A)(s:Az H H'):Tm H' A:=λa ha=>let ⟨o,e,w⟩:=h a ha;⟨o,s _ _ e,w⟩
theorem Tm.new(h:Tm H A)(e:H p=Ae):¬ A p:=λha=>by
 obtain⟨o,q,_⟩:=h p ha;rw[e]at q;cases q
section
variable{K:Fg}{CL:ClA}{H H':Hp}{A B:Ak->Prop}
theorem V4{u:HO}(k:Kp A H H')(na:¬ A a)(h:Rd H a u):Rd H' a u:=by
 rcases h with h|⟨o,h⟩
 .exact .inl (k _ _ h na)
 .exact .inr ⟨o,k _ _ h na⟩
theorem QH(k:Kp A H H')(na:¬ A a\/KL K a xs)(h:Id K H a xs):Id K H' a xs:=na.elim (λna=>h.imp (V4 k na) id) .inr
theorem QG(k:Kp A H H')(na:¬ A a\/KT K a xs)(h:yy K H a xs):yy K H' a xs:=na.elim (λna=>h.imp (V4 k na) id) .inr
mutual
theorem Z7.kp(k:Kp A H H'):∀{v:V}(d:D),Z7 K CL H A v d->Z7 K CL H' A v d
 |_,.non,h=>h
 |_,.bl _,h=>h
 |_,.int _,h=>h
 |_,.str _,h=>h
 |_,.dic _,h=>h.elim
 |_,.tup ds,h=>by
  obtain⟨a,xs,e,na,s,r⟩:=h;exact⟨a,xs,e,na,by first|exact QG k na s|exact QH k na s,Z9.kp k ds r⟩
 |_,.lst ds,h=>by
  obtain⟨a,xs,e,na,s,r⟩:=h;exact⟨a,xs,e,na,by first|exact QG k na s|exact QH k na s,Z9.kp k ds r⟩
 |_,.obj c fs,h=>by
  obtain⟨a,C,dx,vs,e,na,c,s,r⟩:=h;exact⟨a,C,dx,vs,e,na,c,k _ _ s na,z9.kp k fs r⟩
 |_,.exc c fs,h=>by
  obtain⟨a,C,φ,e,na,c,s,p,q⟩:=h;refine⟨a,C,φ,e,na,c,k _ _ s na,p,q.imp id ?_⟩;rintro⟨dx,vs,nx,s2,r,z⟩;exact⟨dx,vs,nx,k _ _ s2 nx,z9.kp k fs r,z⟩
theorem Z9.kp(k:Kp A H H'):∀{vs:Ac V}(ds:Ac D),Z9 K CL H A vs ds->Z9 K CL H' A vs ds
 |[],[],h=>h
 |_::_,d::ds,h=>⟨Z7.kp k d h.1,Z9.kp k ds h.2⟩
 |[],_::_,h=>h.elim
 |_::_,[],h=>h.elim
theorem z9.kp(k:Kp A H H'):∀{vs:Ac (Ah×V)}(ds:Ac (Ah×D)),z9 K CL H A vs ds->z9 K CL H' A vs ds
 |[],[],h=>h
 |_::_,d::ds,h=>⟨yq.kp k d h.1,z9.kp k ds h.2⟩
 |[],_::_,h=>h.elim
 |_::_,[],h=>h.elim
theorem yq.kp(k:Kp A H H'):∀{v:Ah×V}(d:Ah×D),yq K CL H A v d->yq K CL H' A v d
 |_,(_,d),h=>⟨h.1,Z7.kp k d h.2⟩
end
mutual
theorem Z7.sub(k:∀ a,B a->A a):∀{v:V}(d:D),Z7 K CL H A v d->Z7 K CL H B v d
 |_,.non,h=>h
 |_,.bl _,h=>h
 |_,.int _,h=>h
 |_,.str _,h=>h
 |_,.dic _,h=>h.elim
 |_,.tup ds,h=>by
  obtain⟨a,xs,e,na,s,r⟩:=h;exact⟨a,xs,e,na.imp (λna z=>na (k _ z)) id,s,Z9.sub k ds r⟩
 |_,.lst ds,h=>by
  obtain⟨a,xs,e,na,s,r⟩:=h;exact⟨a,xs,e,na.imp (λna z=>na (k _ z)) id,s,Z9.sub k ds r⟩
 |_,.obj c fs,h=>by
  obtain⟨a,C,dx,vs,e,na,c,s,r⟩:=h;exact⟨a,C,dx,vs,e,λz=>na (k _ z),c,s,z9.sub k fs r⟩
 |_,.exc c fs,h=>by
  obtain⟨a,C,φ,e,na,c,s,p,q⟩:=h;refine⟨a,C,φ,e,λz=>na (k _ z),c,s,p,q.imp id ?_⟩
  rintro⟨dx,vs,nx,s2,r,z⟩;exact⟨dx,vs,λz=>nx (k _ z),s2,z9.sub k fs r,z⟩
theorem Z9.sub(k:∀ a,B a->A a):∀{vs:Ac V}(ds:Ac D),Z9 K CL H A vs ds->Z9 K CL H B vs ds
 |[],[],h=>h
 |_::_,d::ds,h=>⟨Z7.sub k d h.1,Z9.sub k ds h.2⟩
 |[],_::_,h=>h.elim
 |_::_,[],h=>h.elim
theorem z9.sub(k:∀ a,B a->A a):∀{vs:Ac (Ah×V)}(ds:Ac (Ah×D)),z9 K CL H A vs ds->z9 K CL H B vs ds
 |[],[],h=>h
 |_::_,d::ds,h=>⟨yq.sub k d h.1,z9.sub k ds h.2⟩
 |[],_::_,h=>h.elim
 |_::_,[],h=>h.elim
theorem yq.sub(k:∀ a,B a->A a):∀{v:Ah×V}(d:Ah×D),yq K CL H A v d->yq K CL H B v d
 |_,(_,d),h=>⟨h.1,Z7.sub k d h.2⟩
end
mutual
theorem Z7.wide(hp:∀ a,B a->A a\/H a=Ae):∀{v:V}(d:D),Z7 K CL H A v d->Z7 K CL H B v d
 |_,.non,h=>h
 |_,.bl _,h=>h
 |_,.int _,h=>h
 |_,.str _,h=>h
 |_,.dic _,h=>h.elim
 |_,.tup ds,h=>by
  obtain⟨a,xs,e,na,s,r⟩:=h;refine⟨a,xs,e,?_,s,Z9.wide hp ds r⟩;rcases s with s|s
  .refine na.imp (λna z=>(hp _ z).elim na λe=>?_) id
   rcases s with s|⟨o,s⟩<;>rw[e]at s<;>cases s
  .exact .inr s
 |_,.lst ds,h=>by
  obtain⟨a,xs,e,na,s,r⟩:=h;refine⟨a,xs,e,?_,s,Z9.wide hp ds r⟩;rcases s with s|s
  .refine na.imp (λna z=>(hp _ z).elim na λe=>?_) id
   rcases s with s|⟨o,s⟩<;>rw[e]at s<;>cases s
  .exact .inr s
 |_,.obj c fs,h=>by
  obtain⟨a,C,dx,vs,e,na,c,s,r⟩:=h;exact⟨a,C,dx,vs,e,(λz=>(hp _ z).elim na λe=>by rw[e]at s;cases s),c,s,z9.wide hp fs r⟩
 |_,.exc c fs,h=>by
  obtain⟨a,C,φ,e,na,c,s,p,q⟩:=h;refine⟨a,C,φ,e,(λz=>(hp _ z).elim na λe=>by rw[e]at s;cases s),c,s,p,q.imp id ?_⟩
  rintro⟨dx,vs,nx,s2,r,z⟩;exact⟨dx,vs,(λz=>(hp _ z).elim nx λe=>by rw[e]at s2;cases s2),s2,z9.wide hp fs r,z⟩
theorem Z9.wide(hp:∀ a,B a->A a\/H a=Ae):∀{vs:Ac V}(ds:Ac D),Z9 K CL H A vs ds->Z9 K CL H B vs ds
 |[],[],h=>h
 |_::_,d::ds,h=>⟨Z7.wide hp d h.1,Z9.wide hp ds h.2⟩
 |[],_::_,h=>h.elim
 |_::_,[],h=>h.elim
theorem z9.wide(hp:∀ a,B a->A a\/H a=Ae):∀{vs:Ac (Ah×V)}(ds:Ac (Ah×D)),z9 K CL H A vs ds->z9 K CL H B vs ds
 |[],[],h=>h
 |_::_,d::ds,h=>⟨yq.wide hp d h.1,z9.wide hp ds h.2⟩
 |[],_::_,h=>h.elim
 |_::_,[],h=>h.elim
theorem yq.wide(hp:∀ a,B a->A a\/H a=Ae):∀{v:Ah×V}(d:Ah×D),yq K CL H A v d->yq K CL H B v d
 |_,(_,d),h=>⟨h.1,Z7.wide hp d h.2⟩
end
theorem Z7.same(s:Az H H')(h:Z7 K CL H A v d):Z7 K CL H' A v d:=Z7.kp (Kp.of s) d h
theorem Z9.same{v:Ac V}{d:Ac D}(s:Az H H')(h:Z9 K CL H A v d):Z9 K CL H' A v d:=Z9.kp (Kp.of s) d h
theorem Cv.same{v:V}{d:D}(s:Az H H')(h:Cv K CL H A v d):Cv K CL H' A v d:=by
 rcases h with h|⟨a,xs,ds,e,e2,q,r⟩
 .exact .inl (h.same s)
 .exact .inr ⟨a,xs,ds,e,e2,s _ _ q,r.same s⟩
theorem Z9.length:∀{vs:Ac V}{ds:Ac D},Z9 K CL H A vs ds->vs.length=ds.length
 |[],[],_=>rfl
 |_::_,_::_,h=>congrArg (· + 1) (Z9.length h.2)
 |[],_::_,h=>h.elim
 |_::_,[],h=>h.elim
theorem Z9.append:∀{vs ws:Ac V}{ds es:Ac D},Z9 K CL H A vs ds->Z9 K CL H A ws es->Z9 K CL H A (vs++ws) (ds++es)
 |[],_,[],_,_,h=>h
 |_::_,_,_::_,_,h,g=>⟨h.1,Z9.append h.2 g⟩
 |[],_,_::_,_,h,_=>h.elim
 |_::_,_,[],_,h,_=>h.elim
theorem Z9.get:∀{vs:Ac V}{ds:Ac D}{i:Ag}{d:D},Z9 K CL H A vs ds->ds[i]?=Aa d->∃ v,vs[i]?=Aa v/\Z7 K CL H A v d
 |[],[],_,_,_,e=>by simp at e
 |v::_,_::_,0,_,h,e=>by simp at e;subst e;exact⟨v,rfl,h.1⟩
 |_::_,_::_,i+1,_,h,e=>by
  obtain⟨v,q,r⟩:=Z9.get (i:=i) h.2 (by simpa using e)
  exact⟨v,by simpa using q,r⟩
 |[],_::_,_,_,h,_=>h.elim
 |_::_,[],_,_,h,_=>h.elim
theorem Z9.take:∀{vs:Ac V}{ds:Ac D}(n:Ag),Z9 K CL H A vs ds->Z9 K CL H A (vs.take n) (ds.take n)
 |_,_,0,_=>trivial
 |[],[],_+1,_=>trivial
 |_::_,_::_,n+1,h=>⟨h.1,Z9.take n h.2⟩
 |[],_::_,_+1,h=>h.elim
 |_::_,[],_+1,h=>h.elim
theorem Z9.drop:∀{vs:Ac V}{ds:Ac D}(n:Ag),Z9 K CL H A vs ds->Z9 K CL H A (vs.drop n) (ds.drop n)
 |_,_,0,h=>h
 |[],[],_+1,_=>trivial
 |_::_,_::_,n+1,h=>Z9.drop n h.2
 |[],_::_,_+1,h=>h.elim
 |_::_,[],_+1,h=>h.elim
theorem Z9.set{x:V}{e:D}(r:Z7 K CL H A x e):∀{vs:Ac V}{ds:Ac D}(n:Ag),Z9 K CL H A vs ds->Z9 K CL H A (vs.set n x) (ds.set n e)
 |[],[],_,_=>trivial
 |_::_,_::_,0,h=>⟨r,h.2⟩
 |_::_,_::_,n+1,h=>⟨h.1,Z9.set r n h.2⟩
 |[],_::_,_,h=>h.elim
 |_::_,[],_,h=>h.elim
end
structure Y9 (K:Fg) (CL:ClA) (A:Ak->Prop) (U:Rho) (Y:L2.St) (H:Hp):Prop where
 sh:∀(i:Ag)(d:D),U[i]?=Aa (Aa (d,Af))->∃ v,Y[i]?=Aa (Aa v)/\Z7 K CL H A v d
 ow:∀(i:Ag)(d:D),U[i]?=Aa (Aa (d,Ab))->d≠.non->∃ a xs ds,Y[i]?=Aa (Aa (.ref a))/\d=.lst ds/\A a/\H a=Aa (.lst xs)/\Z9 K CL H A xs ds
 len:U.length=Y.length
theorem Y9.same{K:Fg}{CL:ClA}{A:Ak->Prop}{U:Rho}{Y:L2.St}{H H':Hp}(g:Y9 K CL A U Y H)(s:Az H H'):Y9 K CL A U Y H':=
 ⟨λi d e=>let ⟨v,q,r⟩:=g.sh i d e;⟨v,q,r.same s⟩,λi d e hn=>let ⟨a,xs,ds,q,z,na,h,r⟩:=g.ow i d e hn;⟨a,xs,ds,q,z,na,s _ _ h,r.same s⟩,g.len⟩
abbrev XW:=Ex->Hp->Prop
variable{W:XW}
def AW(Rp:Hp->V->D->Prop)(W:XW)(H:Hp)(r:R D)(Q:VK):Prop:=match r with
  |.ok d=>∀ v H',Az H H'->Rp H' v d->Q v H'
  |.exn x=>∀ H',Az H H'->W x H'
  |.bad=>AM
def Ip(Rp:Hp->Ac V->Ac D->Prop)(W:XW)(H:Hp)(r:R (Ac D))(Q:Ac V->Hp->Prop):Prop:=match r with
  |.ok d=>∀ v H',Az H H'->Rp H' v d->Q v H'
  |.exn x=>∀ H',Az H H'->W x H'
  |.bad=>AM
def CS(W:XW)(H:Hp)(r:R An)(Q:An->Hp->Prop):Prop:=match r with
  |.ok b=>∀ H',Az H H'->Q b H'
  |.exn x=>∀ H',Az H H'->W x H'
  |.bad=>AM
theorem AW.same(s:Az H H')(h:AW Rp W H r Q):AW Rp W H' r Q:=by
 cases r with
 |ok d=>exact λv H2 s2 q=>h v H2 (s.trans s2) q
 |exn x=>exact λH2 s2=>h H2 (s.trans s2)
 |bad=>exact h
theorem CS.same{r:R An}{Q:An->Hp->Prop}(s:Az H H')(h:CS W H r Q):CS W H' r Q:=by
 cases r with
 |ok d=>exact λH2 s2=>h H2 (s.trans s2)
 |exn x=>exact λH2 s2=>h H2 (s.trans s2)
 |bad=>exact h
theorem AW.bind{f:D->R D}{Q':VK}(h:AW Rq W H (r.bind f) Q)(k:∀ d v H',r=.ok d->Az H H'->Rp H' v d->AW Rq W H' (f d) Q->Q' v H'):AW Rp W H r Q':=by
 cases r with
 |ok d=>exact λv H2 s2 q=>k d v H2 rfl s2 q (AW.same s2 h)
 |exn x=>exact h
 |bad=>exact h
section
variable(X:Cx)(CL:ClA)(W:XW)
def SE(e:Aq)(f:Rho->R D):Prop:=∀ A,PE X e (λY H Q=>Tm H A/\∃ U,Y9 X.K CL A U Y H/\AW (λH=>Z7 X.K CL H A) W H (f U) Q)
def ST(e:Aq)(f:Rho->R D):Prop:=∀ A,PE X e (λY H Q=>Tm H A/\∃ U,Y9 X.K CL A U Y H/\AW (λH=>Cv X.K CL H A) W H (f U) Q)
def SB(e:Aq)(f:Rho->R An):Prop:=∀ A,PT X e (λY H Q=>Tm H A/\∃ U,Y9 X.K CL A U Y H/\CS W H (f U) Q)
def SA(es:Ac Aq)(f:Rho->R (Ac D)):Prop:=∀ A,PA X es (λY H Q=>Tm H A/\∃ U,Y9 X.K CL A U Y H/\Ip (λH=>Z9 X.K CL H A) W H (f U) Q)
end
theorem PE.weak{t t':TE}(h:PE X e t)(k:∀ Y H Q,t' Y H Q->t Y H Q):PE X e t':=λpI s Y H Q I q=>h pI s Y H Q I (k _ _ _ q)
theorem PT.weak{t t':TT}(h:PT X e t)(k:∀ Y H Q,t' Y H Q->t Y H Q):PT X e t':=λpI s Y H Q I q=>h pI s Y H Q I (k _ _ _ q)
theorem PA.weak{e:Ac Aq}{t t':TA}(h:PA X e t)(k:∀ Y H Q,t' Y H Q->t Y H Q):PA X e t':=λpos pI s Y H Q I q=>h pos pI s Y H Q I (k _ _ _ q)
noncomputable def ut(X:Cx)(CL:ClA)(W:XW)(f:Al->Al->Fe Al)(g:D->D->R D):Prop:=
 ∀ A,zd X f (λx y H Q=>Tm H A/\∃ dx dy,Cv X.K CL H A x dx/\Cv X.K CL H A y dy/\AW (λH=>Z7 X.K CL H A) W H (g dx dy) Q)
section
variable{X:Cx}{CL:ClA}{W:XW}{a b c:Aq}{fa fb fc:Rho->R D}{pos:AF}
theorem SE.st(h:SE X CL W a fa):ST X CL W a fa:=λA=>PE.weak (h A) λY H Q ⟨hA,U,g,p⟩=>⟨hA,U,g,by
 cases e:fa U with
 |ok d=>rw[e]at p;exact λv H' s r=>p v H' s (.inl r)
 |exn x=>rw[e]at p;exact p
 | bad=>rw[e]at p;exact p⟩
theorem SE.congr{f g:Rho->R D}(h:SE X CL W a f)(e:∀ U,g U=f U):SE X CL W a g:=λA=>PE.weak (h A) λY H Q ⟨hA,U,q,p⟩=>⟨hA,U,q,by rw[<-e];exact p⟩
theorem OG(h:PE X a (tC v))(r:∀ H A,Tm H A->Z7 X.K CL H A v d):SE X CL W a (λ_=>.ok d):=λA=>PE.weak h λY H Q ⟨hA,U,g,p⟩=>p v H (Az.refl H) (r H A hA)
theorem QN{i j}:SE X CL W (.Constant (.int i) j pos) (λ_=>.ok (.int i)):=OG Of λ_ _ _=>rfl
theorem OH{b j}:SE X CL W (.Constant (.bool b) j pos) (λ_=>.ok (.bl b)):=OG vC λ_ _ _=>rfl
theorem pL{j}:SE X CL W (.Constant .none j pos) (λ_=>.ok .non):=OG Oe λ_ _ _=>rfl
theorem M6{x j}:SE X CL W (.Constant (.str x) j pos) (λ_=>.ok (.str x)):=OG KA λ_ _ _=>rfl
theorem gU(h:G5 U i=.ok d):U[i]?=Aa (Aa (d,Af)):=by
 unfold G5 at h;split at h
 .rename_i e;cases h;exact e
 .cases h
theorem Ui(h:Da U i=.ok d):∃ o,U[i]?=Aa (Aa (d,o))/\(o=Ab->d≠.non):=by
 unfold Da at h;split at h
 .rename_i e;cases h;exact⟨_,e,λz=>nomatch z⟩
 .rename_i x e;cases x with
  |lst xs=>cases h;exact⟨_,e,λ_ z=>nomatch z⟩
  |_=>cases h
 .cases h
theorem cJ{x:Ex}(h:G5 U i=.exn x):AM:=by
 unfold G5 at h;split at h<;>cases h
theorem TL{x:Ex}(h:Da U i=.exn x):AM:=by
 unfold Da at h;split at h
 .cases h
 .rename_i y _;cases y<;>cases h
 .cases h
theorem Vp(h:PE X a (Ch i)):SE X CL W a (λU=>G5 U i):=λA=>PE.weak h λY H Q ⟨hA,U,g,p⟩=>by
 dsimp only at p;cases e:G5 U i with
 |ok d=>
  rw[e]at p;obtain⟨v,q,r⟩:=g.sh i d (gU e);exact⟨v,q,p v H (Az.refl H) r⟩
 |exn x=>exact(cJ e).elim
 |bad=>rw[e]at p;exact p.elim
theorem HG(h:PE X a (Ch i)):ST X CL W a (λU=>Da U i):=λA=>PE.weak h λY H Q ⟨hA,U,g,p⟩=>by
 dsimp only at p;cases e:Da U i with
 |ok d=>
  rw[e]at p;obtain⟨o,e,hn⟩:=Ui e;cases o with
  |false=>
   obtain⟨v,q,r⟩:=g.sh i d e;exact⟨v,q,p v H (Az.refl H) (.inl r)⟩
  |true=>
   obtain⟨x,xs,ds,q,rfl,ha,hh,r⟩:=g.ow i d e (hn rfl);exact⟨_,q,p _ H (Az.refl H) (.inr ⟨x,xs,ds,rfl,rfl,hh,r⟩)⟩
 |exn x=>exact(TL e).elim
 |bad=>rw[e]at p;exact p.elim
theorem ui(h:Tm H A/\∃ U,Y9 X.K CL A U Y H/\AW Rq W H ((fa U).bind λx=>(fb U).bind λy=>g x y) Q):Tm H A/\∃ U,Y9 X.K CL A U Y H/\AW (λH=>Cv X.K CL H A) W H (fa U) (λx H1=>Tm H1 A/\∃ U,Y9 X.K CL A U Y H1/\AW (λH=>Cv X.K CL H A) W H1 (fb U) (λy H2=>Tm H2 A/\∃ dx dy,Cv X.K CL H2 A x dx/\Cv X.K CL H2 A y dy/\AW Rq W H2 (g dx dy) Q)):=by
 obtain⟨hA,U,gd,p⟩:=h;refine⟨hA,U,gd,AW.bind p λdx x H1 _ s1 r1 p1=>⟨hA.same s1,U,gd.same s1,AW.bind p1 λdy y H2 _ s2 r2 p2=>⟨(hA.same s1).same s2,dx,dy,r1.same s2,r2,p2⟩⟩⟩
theorem QO{op:Gk}(ho:ut X CL W (Cf op) g)(ha:ST X CL W a fa)(hb:ST X CL W b fb):SE X CL W (.BinOp a op b pos) (λU=>(fa U).bind λx=>(fb U).bind λy=>g x y):=
 λA=>PE.weak (V1 (ho A) (ha A) (hb A)) λY H Q h=>ui h
theorem nQ(ho:ut X CL W (CP op) g)(ha:ST X CL W a fa)(hb:ST X CL W b fb)(hm:HC op b=Af):SE X CL W (.Compare a [op] [b] pos) (λU=>(fa U).bind λx=>(fb U).bind λy=>g x y):=
 λA=>PE.weak (Uw (ho A) (ha A) (hb A) hm) λY H Q h=>ui h
theorem Cv.int_of{i:Ai}(h:Cv K CL H A v (.int i)):v=.int i:=by
 rcases h with h|⟨_,_,_,_,e,_⟩
 .exact h
 .cases e
theorem Cv.str_of{i:Ah}(h:Cv K CL H A v (.str i)):v=.str i:=by
 rcases h with h|⟨_,_,_,_,e,_⟩
 .exact h
 .cases e
theorem Cv.bl_of{i:An}(h:Cv K CL H A v (.bl i)):v=.bl i:=by
 rcases h with h|⟨_,_,_,_,e,_⟩
 .exact h
 .cases e
theorem Cv.non_of(h:Cv K CL H A v .non):v=.non:=by
 rcases h with h|⟨_,_,_,_,e,_⟩
 .exact h
 .cases e
theorem Cv.lst_of{ds:Ac D}(h:Cv K CL H A v (.lst ds)):∃ a xs,v=.ref a/\Id K H a xs/\Z9 K CL H A xs ds:=by
 rcases h with ⟨a,xs,e,_,s,r⟩|⟨a,xs,es,rfl,e,s,r⟩
 .exact⟨a,xs,e,s,r⟩
 .cases e;exact⟨a,xs,rfl,Id.of s,r⟩
theorem Cv.tup_of{ds:Ac D}(h:Cv K CL H A v (.tup ds)):∃ a xs,v=.ref a/\(¬ A a\/KT K a xs)/\yy K H a xs/\Z9 K CL H A xs ds:=by
 rcases h with ⟨a,xs,e,n,s,r⟩|⟨_,_,_,_,e,_⟩
 .exact⟨a,xs,e,n,s,r⟩
 .cases e
theorem lL{i j:Ai}(h:Fj i j=Ab):Pe i j:=by
 unfold Fj at h;simp only[BX,Am,AG]at h;unfold Pe;omega
theorem UR{a:Ai}(h:a.natAbs<2 ^ 2000):Yr a<=2 ^ 20:=by
 unfold Yr;split
 .omega
 .rename_i hz;have h0:a.natAbs≠0:=by intro z;exact hz (by rw[Int.natAbs_eq_zero.mp z];rfl)
  have:=(Nat.log2_lt h0).mpr h;omega
theorem lK{i j:Ai}(h:(Fj i j||OL i j)=Ab):MA i j:=by
 rcases Bool.or_eq_true_iff.mp h with h|h
 .exact(lL h).ok
 .unfold OL at h;rw[Am,AG,AG]at h;exact .of_bits (UR h.1) (UR h.2)
theorem kZ:zd X (Cf .Mult) (rI MA λi j=>.int (i*j)):=Ö λ_ _ _ _ _ _ _ hc q=>mul_int q hc
theorem K8(h:Db n=Ab):n<=sizeLine:=by
 unfold Db at h;rw[Bz];have:=AR h;omega
theorem UF{ds:Ac D}(hA:Tm H A)(hp:H p=Ae)(r:Z9 K CL H A xs ds):Z7 K CL (upd H p (.lst xs)) A (.ref p) (.lst ds):=
 ⟨p,xs,rfl,.inl (hA.new hp),Id.of BO,r.same λb o e=>by rw[AQ (Er e hp)];exact e⟩
theorem N4{ds:Ac D}(hA:Tm H A)(hp:H p=Ae)(r:Z9 K CL H A xs ds):Z7 K CL (upd H p (.tup xs)) A (.ref p) (.tup ds):=
 ⟨p,xs,rfl,.inl (hA.new hp),yy.of BO,r.same λb o e=>by rw[AQ (Er e hp)];exact e⟩
theorem ES(h:H p=Ae)(o:HO):Az H (upd H p o):=λb u q=>by rw[AQ (Er q h)];exact q
def wS(K:Fg):R2:=λx y H Q=>∃ l b xs zs,x=.ref l/\y=.ref b/\Id K H l xs/\Id K H b zs/\xs.length+zs.length<=sizeLine/\∀ p,H p=Ae->Q (.ref p) (upd H p (.lst (xs++zs)))
end
section
variable{X:Cx}{CL:ClA}{W:XW}
theorem UA:zd X (Cf .Add) (wS X.K):=by
 intro pI s Y H x y v u Q I rx ry h;obtain⟨l,b,xs,zs,rfl,rfl,hH,hB,hz,q⟩:=h;cases rx;cases ry;obtain⟨its,r,⟨o,n,e,c,dd,dt⟩,z⟩:=I.list hH;obtain⟨zt,r2,⟨o2,n2,e2,c2,ö,dt2⟩,z2⟩:=I.list hB;have hl:=r.length;have ng:=r2.length;obtain⟨cls,dd0,data,sl⟩:=o;obtain⟨cls2,dd02,data2,ã⟩:=o2;simp only at c dd dt c2 ö dt2;subst c dd dt c2 ö dt2;have ea:its.toArray++zt.toArray=(its++zt).toArray:=by simp
 refine Ka ⟨_,e,rfl⟩ ⟨_,e2,rfl⟩ noFill_list_add seq_list_add PySem.F.slot_list_add PySem.F.entry_list_add (PySem.F.args_list_add_2 _ _) (list_addW l b its.toArray zt.toArray n n2 Ae Ae sl ã (by simp;omega)) ⟨e,e2,?_⟩
 rw[ea];exact⟨.ref _,_,I.lnew (t':=s.toks) (r.append r2) (by rw[BV];omega),rfl,q _ I.fresh⟩
theorem Uz:ut X CL W (Cf .Add) (Dm .Add):=by
 intro A pI s Y H x y v u Q I rx ry ⟨hA,dx,dy,hx,hy,p⟩;cases dx with
 |int i=>
  cases dy with
  |int j=>
   have ex:=hx.int_of;have ey:=hy.int_of
   subst ex ey;exact qV pI s Y H _ _ v u Q I rx ry ⟨i,j,rfl,rfl,p _ H (Az.refl H) rfl⟩
  |_=>exact p.elim
 |str i=>
  cases dy with
  |str j=>
   have ex:=hx.str_of;have ey:=hy.str_of
   subst ex ey;simp only[La]at p;split at p
   .rename_i h;exact bG pI s Y H _ _ v u Q I rx ry ⟨i,j,rfl,rfl,K8 h,p _ H (Az.refl H) rfl⟩
   .exact p.elim
  |_=>exact p.elim
 |lst ds=>
  cases dy with
  |lst es=>
   obtain⟨a,xs,rfl,s1,r1⟩:=hx.lst_of;obtain⟨b,ys,rfl,s2,r2⟩:=hy.lst_of;simp only[Vw]at p;split at p
   .rename_i h;refine UA pI s Y H _ _ v u Q I rx ry ⟨a,b,xs,ys,rfl,rfl,s1,s2,by rw[r1.length,r2.length];exact K8 h,λq hq=>?_⟩
    exact p _ _ (ES hq _) (UF hA hq (r1.append r2))
   .exact p.elim
  |_=>exact p.elim
 |tup ds=>
  cases dy with
  |tup es=>
   obtain⟨a,xs,rfl,na1,s1,r1⟩:=hx.tup_of;obtain⟨b,ys,rfl,_,s2,r2⟩:=hy.tup_of;simp only[Vv]at p;split at p
   .rename_i h;simp only[Am]at h;refine lB pI s Y H _ _ v u Q I rx ry ⟨a,b,xs,ys,rfl,rfl,s1,s2,?_,by rw[r1.length,r2.length];exact K8 h.2,λhy0=>?_,λ_ q hq=>?_⟩
    .rintro rfl;cases ds with
     |nil=>cases h.1
     |cons _ _=>exact r1.elim
    .subst hy0;cases es with
     |nil=>rw[BA]at p;exact p _ H (Az.refl H) ⟨a,xs,rfl,na1,s1,r1⟩
     |cons _ _=>exact r2.elim
    .exact p _ _ (ES hq _) (N4 hA hq (r1.append r2))
   .exact p.elim
  |_=>exact p.elim
 |_=>exact p.elim
theorem N3{op:Gk}{C:Ai->Ai->Prop}{g:Ai->Ai->Ai}(ho:zd X (Cf op) (rI C λi j=>.int (g i j)))(hg:∀ dx dy,(∃ i j,dx=.int i/\dy=.int j/\((C i j/\Dm op dx dy=.ok (.int (g i j)))\/Dm op dx dy=.bad))\/Dm op dx dy=.bad):ut X CL W (Cf op) (Dm op):=by
 intro A pI s Y H x y v u Q I rx ry ⟨hA,dx,dy,hx,hy,p⟩;rcases hg dx dy with ⟨i,j,rfl,rfl,⟨c,e⟩|e⟩|e
 .have ex:=hx.int_of;have ey:=hy.int_of
  subst ex ey;rw[e]at p;exact ho pI s Y H _ _ v u Q I rx ry ⟨i,j,rfl,rfl,c,p _ H (Az.refl H) rfl⟩
 .rw[e]at p;exact p.elim
 .rw[e]at p;exact p.elim
theorem hJ:ut X CL W (Cf .Sub) (Dm .Sub):=by
 intro A pI s Y H x y v u Q I rx ry ⟨hA,dx,dy,hx,hy,p⟩;cases dx with
 |int i=>
  cases dy with
  |int j=>
   have ex:=hx.int_of;have ey:=hy.int_of
   subst ex ey;exact nO pI s Y H _ _ v u Q I rx ry ⟨i,j,rfl,rfl,p _ H (Az.refl H) rfl⟩
  |_=>exact p.elim
 |_=>exact p.elim
theorem hU:ut X CL W (Cf .Mult) (Dm .Mult):=N3 kZ λdx dy=>by
 cases dx with
 |int i=>
  cases dy with
  |int j=>
   refine .inl ⟨i,j,rfl,rfl,?_⟩;rw[rA];split
   .rename_i h;exact .inl ⟨lK h,rfl⟩
   .exact .inr rfl
  |_=>exact .inr rfl
 |_=>exact .inr rfl
theorem eX:ut X CL W (Cf .FloorDiv) (Dm .FloorDiv):=N3 lA λdx dy=>by
 cases dx with
 |int i=>
  cases dy with
  |int j=>
   refine .inl ⟨i,j,rfl,rfl,?_⟩;rw[kR];split
   .rename_i h;exact .inl ⟨h,rfl⟩
   .exact .inr rfl
  |_=>exact .inr rfl
 |_=>exact .inr rfl
theorem hV:ut X CL W (Cf .Mod) (Dm .Mod):=N3 qT λdx dy=>by
 cases dx with
 |int i=>
  cases dy with
  |int j=>
   refine .inl ⟨i,j,rfl,rfl,?_⟩;rw[rB];split
   .rename_i h;exact .inl ⟨h,rfl⟩
   .exact .inr rfl
  |_=>exact .inr rfl
 |_=>exact .inr rfl
theorem hR:ut X CL W (Cf .Pow) (Dm .Pow):=N3 nP λdx dy=>by
 cases dx with
 |int i=>
  cases dy with
  |int j=>
   refine .inl ⟨i,j,rfl,rfl,?_⟩;rw[oS];split
   .rename_i h;exact .inl ⟨⟨h.1.1,h.1.2,by omega⟩,rfl⟩
   .exact .inr rfl
  |_=>exact .inr rfl
 |_=>exact .inr rfl
theorem Ql(op:Gk):ut X CL W (Cf op) (Dm op):=by
 cases op with
 |Add=>exact Uz
 |Sub=>exact hJ
 |Mult=>exact hU
 |FloorDiv=>exact eX
 |Mod=>exact hV
 |Pow=>exact hR
 |_=>
  intro A pI s Y H x y v u Q I rx ry ⟨hA,dx,dy,hx,hy,p⟩;exact p.elim
noncomputable abbrev A0:Ak->Prop:=λ_=>AM
theorem Cv.plain(h:Cv K CL H A v d):Z7 K CL H A0 v d:=by
 rcases h with h|⟨a,xs,ds,rfl,rfl,e,r⟩
 .exact Z7.sub (λ_ z=>z.elim) d h
 .exact⟨a,xs,rfl,.inl λz=>z.elim,Id.of e,Z9.sub (λ_ z=>z.elim) ds r⟩
mutual
theorem fL:∀(n:Ag)(d:D),Y8 n d=Ab->My d d=Ab
 |_,.non,_=>rfl
 |_,.bl b,_=>by simp
 |_,.int i,_=>by simp
 |_,.str x,_=>by simp
 |n+1,.tup ds,h=>by
  show KK ds ds=Ab;exact zw n ds h
 |n+1,.lst ds,h=>by
  show KK ds ds=Ab;exact zw n ds h
 |0,.tup ds,h=>by cases h
 |0,.lst ds,h=>by cases h
 |n,.obj _ _,h=>by cases n<;>cases h
 |n,.exc _ _,h=>by cases n<;>cases h
 |n,.dic _,h=>by cases n<;>cases h
theorem zw:∀(n:Ag)(ds:Ac D),ds.all (Y8 n)=Ab->KK ds ds=Ab
 |_,[],_=>rfl
 |n,d::ds,h=>by
  simp only[E3,Am]at h;simp only[PQ,Am];exact⟨fL n d h.1,zw n ds h.2⟩
end
theorem Sy{ys:Ac V}(I:Z8 X pI Y H s)(h:Id X.K H a xs)(h':yy X.K H a ys):AM:=by
 obtain⟨its,r,⟨o,n,e,c,_,_⟩,_⟩:=I.list h;obtain⟨its',r',⟨o',e',c',_⟩,_⟩:=I.tuple h';rw[e]at e';cases e';rw[c]at c'
 injection c' with z
 exact absurd z (by decide)
mutual
theorem MW{pI:Pn}{Y:L2.St}{H:Hp}{s:Ar}(I:Z8 X pI Y H s):∀(n:Ag)(d e:D){v:V},Y8 n d=Ab->Y8 n e=Ab->Z7 X.K CL H A0 v d->Z7 X.K CL H A0 v e->d=e
 |n,.tup ds,e,v,hd,he,r,q=>by
  obtain⟨a,xs,rfl,_,s1,r1⟩:=r;cases e with
  |tup es=>
   obtain⟨b,ys,e,_,s2,r2⟩:=q;cases e;have z:=I.tuple_inj s1 s2;subst z;cases n with
   |zero=>cases hd
   |succ n=>rw[yc I n ds es hd he r1 r2]
  |lst es=>
   obtain⟨b,ys,e,_,s2,r2⟩:=q;cases e;exact(Sy I s2 s1).elim
  |obj=>cases n<;>cases he
  |exc=>cases n<;>cases he
  |dic=>cases n<;>cases he
  |_=>cases q
 |n,.lst ds,e,v,hd,he,r,q=>by
  obtain⟨a,xs,rfl,_,s1,r1⟩:=r;cases e with
  |lst es=>
   obtain⟨b,ys,e,_,s2,r2⟩:=q;cases e;have z:=I.list_inj s1 s2;subst z;cases n with
   |zero=>cases hd
   |succ n=>rw[yc I n ds es hd he r1 r2]
  |tup es=>
   obtain⟨b,ys,e,_,s2,r2⟩:=q;cases e;exact(Sy I s1 s2).elim
  |obj=>cases n<;>cases he
  |exc=>cases n<;>cases he
  |dic=>cases n<;>cases he
  |_=>cases q
 |n,.obj _ _,e,v,hd,he,r,q=>by cases n<;>cases hd
 |n,.exc _ _,e,v,hd,he,r,q=>by cases n<;>cases hd
 |n,.dic _,e,v,hd,he,r,q=>by cases n<;>cases hd
 |n,.non,e,v,hd,he,r,q=>by
  cases r;cases e with
  |tup=>obtain⟨_,_,z,_⟩:=q;cases z
  |lst=>obtain⟨_,_,z,_⟩:=q;cases z
  |obj=>cases n<;>cases he
  |exc=>cases n<;>cases he
  |dic=>cases n<;>cases he
  |_=>cases q<;>rfl
 |n,.bl b,e,v,hd,he,r,q=>by
  cases r;cases e with
  |tup=>obtain⟨_,_,z,_⟩:=q;cases z
  |lst=>obtain⟨_,_,z,_⟩:=q;cases z
  |obj=>cases n<;>cases he
  |exc=>cases n<;>cases he
  |dic=>cases n<;>cases he
  |_=>cases q<;>rfl
 |n,.int b,e,v,hd,he,r,q=>by
  cases r;cases e with
  |tup=>obtain⟨_,_,z,_⟩:=q;cases z
  |lst=>obtain⟨_,_,z,_⟩:=q;cases z
  |obj=>cases n<;>cases he
  |exc=>cases n<;>cases he
  |dic=>cases n<;>cases he
  |_=>cases q<;>rfl
 |n,.str b,e,v,hd,he,r,q=>by
  cases r;cases e with
  |tup=>obtain⟨_,_,z,_⟩:=q;cases z
  |lst=>obtain⟨_,_,z,_⟩:=q;cases z
  |obj=>cases n<;>cases he
  |exc=>cases n<;>cases he
  |dic=>cases n<;>cases he
  |_=>cases q<;>rfl
theorem yc{pI:Pn}{Y:L2.St}{H:Hp}{s:Ar}(I:Z8 X pI Y H s):∀(n:Ag)(ds es:Ac D){xs:Ac V},ds.all (Y8 n)=Ab->es.all (Y8 n)=Ab->Z9 X.K CL H A0 xs ds->Z9 X.K CL H A0 xs es->ds=es
 |_,[],[],_,_,_,_,_=>rfl
 |n,d::ds,e::es,x::xs,hd,he,r,q=>by
  simp only[E3,Am]at hd he;rw[MW I n d e hd.1 he.1 r.1 q.1,yc I n ds es hd.2 he.2 r.2 q.2]
 |_,[],_::_,[],_,_,_,q=>q.elim
 |_,[],_::_,_::_,_,_,r,_=>r.elim
 |_,_::_,[],[],_,_,r,_=>r.elim
 |_,_::_,[],_::_,_,_,_,q=>q.elim
 |_,_::_,_::_,[],_,_,r,_=>r.elim
end
theorem MS:∀{ds es:Ac D},ds.length≠es.length->KK ds es=Af
 |[],[],h=>absurd rfl h
 |[],_::_,_=>rfl
 |_::_,[],_=>rfl
 |d::ds,e::es,h=>by
  simp only[PQ,MS (ds:=ds) (es:=es) (by simpa using h),Jb]
theorem Se(n:Ag)(f:Ag->An):(BR (n+1)).all f=(f 0&&(BR n).all λj=>f (j+1)):=by
 rw[List.range_succ_eq_map,E3,Ey];rfl
theorem MT:∀{ds es:Ac D},ds.length=es.length->KK ds es=(BR ds.length).all λj=>My (ds.getD j .non) (es.getD j .non)
 |[],[],_=>rfl
 |d::ds,e::es,h=>by
  rw[PQ,MT (ds:=ds) (es:=es) (by simpa using h),A8,Se]
  rfl
 |[],_::_,h=>by cases h
 |_::_,[],h=>by cases h
theorem Jz{ds:Ac D}(r:Z9 K CL H A0 xs ds)(rv:A1 xs its)(h:j<its.length):∃ x,Z7 K CL H A0 x (ds.getD j .non)/\Bt x its[j]:=by
 have e1:=rv.length;have e2:=r.length;have hd:ds[j]?=Aa (ds.getD j .non):=by
  rw[Di,Cz (by omega)];rfl
 obtain⟨x,hx,q⟩:=r.get hd;obtain⟨u,hu,ru⟩:=rv.get hx;refine⟨x,q,?_⟩;rw[Cz h]at hu;cases hu;exact ru
theorem IE{ds:Ac D}(h:ds.all (Y8 n)=Ab)(j:Ag):Y8 n (ds.getD j .non)=Ab:=by
 rw[Di];cases e:ds[j]? with
 |none=>cases n<;>rfl
 |some d=>exact Bh.mp h d (GH e)
def CM(B:A4)(s:Ar)(u t:Al)(k:An):Prop:=LJ B s u t k/\Ej B s u t k/\J5 B s u t (!k)
section
variable{B:A4}{s:Ar}
open SeqAt
theorem tY:CM B s .none .none Ab:=⟨RcAt.none_none,EqAt.same _,RcNeAt.none_none⟩
theorem wD(a b:An):CM B s (.bool a) (.bool b) (a==b):=⟨RcAt.bool_bool _ _,EqAt.bool_bool _ _,RcNeAt.bool_bool _ _⟩
theorem uB(b:An):CM B s .none (.bool b) Af:=⟨RcAt.none_bool _,EqAt.none_bool _,RcNeAt.none_bool _⟩
theorem wA(b:An):CM B s (.bool b) .none Af:=⟨RcAt.bool_none _,EqAt.bool_none _,RcNeAt.bool_none _⟩
theorem sZ(a:Ai)(t:Ce)(b:Ai)(u:Ce):CM B s (.int a t) (.int b u) (a==b):=⟨RcAt.int_int _ _ _ _,EqAt.int_int _ _ _ _,RcNeAt.int_int _ _ _ _⟩
theorem tR(a:Ah)(t:Ce)(b:Ah)(u:Ce):CM B s (.str a t) (.str b u) (a==b):=⟨RcAt.str_str _ _ _ _,EqAt.str_str _ _ _ _,RcNeAt.str_str _ _ _ _⟩
theorem sW(a:Ai)(t:Ce)(b:Ah)(u:Ce):CM B s (.int a t) (.str b u) Af:=⟨RcAt.int_str _ _ _ _,EqAt.int_str _ _ _ _,RcNeAt.int_str _ _ _ _⟩
theorem tU(a:Ah)(t:Ce)(b:Ai)(u:Ce):CM B s (.str a t) (.int b u) Af:=⟨RcAt.str_int _ _ _ _,EqAt.str_int _ _ _ _,RcNeAt.str_int _ _ _ _⟩
theorem uA(b:Ai)(u:Ce):CM B s .none (.int b u) Af:=⟨RcAt.none_int _ _,EqAt.none_int _ _,RcNeAt.none_int _ _⟩
theorem sX(b:Ai)(u:Ce):CM B s (.int b u) .none Af:=⟨RcAt.int_none _ _,EqAt.int_none _ _,RcNeAt.int_none _ _⟩
theorem tX(b:Ah)(u:Ce):CM B s .none (.str b u) Af:=⟨RcAt.none_str _ _,EqAt.none_str _ _,RcNeAt.none_str _ _⟩
theorem tS(b:Ah)(u:Ce):CM B s (.str b u) .none Af:=⟨RcAt.str_none _ _,EqAt.str_none _ _,RcNeAt.str_none _ _⟩
theorem wC(a:An)(b:Ai)(u:Ce):CM B s (.bool a) (.int b u) (ô a==b):=⟨RcAt.bool_int _ _ _,EqAt.bool_int _ _ _,RcNeAt.bool_int _ _ _⟩
theorem tB(a:An)(b:Ai)(u:Ce):CM B s (.int b u) (.bool a) (b==ô a):=⟨RcAt.int_bool _ _ _,EqAt.int_bool _ _ _,RcNeAt.int_bool _ _ _⟩
theorem vZ(a:An)(b:Ah)(u:Ce):CM B s (.bool a) (.str b u) Af:=⟨RcAt.bool_str _ _ _,EqAt.bool_str _ _ _,RcNeAt.bool_str _ _ _⟩
theorem tV(a:An)(b:Ah)(u:Ce):CM B s (.str b u) (.bool a) Af:=⟨RcAt.str_bool _ _ _,EqAt.str_bool _ _ _,RcNeAt.str_bool _ _ _⟩
variable{l:Ak}{items:Bl Al}
theorem sS(h:s.heap.IsList l items)(hu:B.units<Bx):CM B s (.ref l) .none Af:=⟨RcAt.list_none h hu,EqAt.list_none h hu,RcNeAt.list_none h hu⟩
theorem tZ(h:s.heap.IsList l items)(hu:B.units<Bx):CM B s .none (.ref l) Af:=⟨RcAt.none_list h hu,EqAt.none_list h hu,RcNeAt.none_list h hu⟩
theorem sU(b:An)(h:s.heap.IsList l items)(hu:B.units<Bx):CM B s (.ref l) (.bool b) Af:=⟨RcAt.list_bool b h hu,EqAt.list_bool b h hu,RcNeAt.list_bool b h hu⟩
theorem wB(b:An)(h:s.heap.IsList l items)(hu:B.units<Bx):CM B s (.bool b) (.ref l) Af:=⟨RcAt.bool_list b h hu,EqAt.bool_list b h hu,RcNeAt.bool_list b h hu⟩
theorem sT(b:Ai)(u:Ce)(h:s.heap.IsList l items)(hu:B.units<Bx):CM B s (.ref l) (.int b u) Af:=⟨RcAt.list_int b u h hu,EqAt.list_int b u h hu,RcNeAt.list_int b u h hu⟩
theorem sY(b:Ai)(u:Ce)(h:s.heap.IsList l items)(hu:B.units<Bx):CM B s (.int b u) (.ref l) Af:=⟨RcAt.int_list b u h hu,EqAt.int_list b u h hu,RcNeAt.int_list b u h hu⟩
theorem sR(b:Ah)(u:Ce)(h:s.heap.IsList l items)(hu:B.units<Bx):CM B s (.ref l) (.str b u) Af:=⟨RcAt.list_str b u h hu,EqAt.list_str b u h hu,RcNeAt.list_str b u h hu⟩
theorem tT(b:Ah)(u:Ce)(h:s.heap.IsList l items)(hu:B.units<Bx):CM B s (.str b u) (.ref l) Af:=⟨RcAt.str_list b u h hu,EqAt.str_list b u h hu,RcNeAt.str_list b u h hu⟩
theorem tL(h:s.heap.IsTuple l items)(hu:B.units<Bx):CM B s (.ref l) .none Af:=⟨RcAt.tuple_none h hu,EqAt.tuple_none h hu,RcNeAt.tuple_none h hu⟩
theorem tW(h:s.heap.IsTuple l items)(hu:B.units<Bx):CM B s .none (.ref l) Af:=⟨RcAt.none_tuple h hu,EqAt.none_tuple h hu,RcNeAt.none_tuple h hu⟩
theorem tP(b:An)(h:s.heap.IsTuple l items)(hu:B.units<Bx):CM B s (.ref l) (.bool b) Af:=⟨RcAt.tuple_bool b h hu,EqAt.tuple_bool b h hu,RcNeAt.tuple_bool b h hu⟩
theorem vY(b:An)(h:s.heap.IsTuple l items)(hu:B.units<Bx):CM B s (.bool b) (.ref l) Af:=⟨RcAt.bool_tuple b h hu,EqAt.bool_tuple b h hu,RcNeAt.bool_tuple b h hu⟩
theorem tO(b:Ai)(u:Ce)(h:s.heap.IsTuple l items)(hu:B.units<Bx):CM B s (.ref l) (.int b u) Af:=⟨RcAt.tuple_int b u h hu,EqAt.tuple_int b u h hu,RcNeAt.tuple_int b u h hu⟩
theorem sV(b:Ai)(u:Ce)(h:s.heap.IsTuple l items)(hu:B.units<Bx):CM B s (.int b u) (.ref l) Af:=⟨RcAt.int_tuple b u h hu,EqAt.int_tuple b u h hu,RcNeAt.int_tuple b u h hu⟩
theorem tK(b:Ah)(u:Ce)(h:s.heap.IsTuple l items)(hu:B.units<Bx):CM B s (.ref l) (.str b u) Af:=⟨RcAt.tuple_str b u h hu,EqAt.tuple_str b u h hu,RcNeAt.tuple_str b u h hu⟩
theorem tQ(b:Ah)(u:Ce)(h:s.heap.IsTuple l items)(hu:B.units<Bx):CM B s (.str b u) (.ref l) Af:=⟨RcAt.str_tuple b u h hu,EqAt.str_tuple b u h hu,RcNeAt.str_tuple b u h hu⟩
theorem uC(h:s.heap.IsList l items)(h2:s.heap.IsTuple b sg)(hu:B.units<Bx):CM B s (.ref l) (.ref b) Af:=⟨RcAt.list_tuple h h2 hu,EqAt.list_tuple h h2 hu,RcNeAt.list_tuple h h2 hu⟩
theorem tM(h:s.heap.IsTuple l items)(h2:s.heap.IsList b sg)(hu:B.units<Bx):CM B s (.ref l) (.ref b) Af:=⟨RcAt.tuple_list h h2 hu,EqAt.tuple_list h h2 hu,RcNeAt.tuple_list h h2 hu⟩
end
end
section
variable{X:Cx}{CL:ClA}{W:XW}
theorem Ma{its:Bl Al}(x:PlainL h a its):h.IsList a its:=let ⟨o,n,e,c,_,d⟩:=x;⟨o,e,c,n,d⟩
def zM(X:Cx)(CL:ClA)(H:Hp)(s:Ar)(d:D)(u:Al):Prop:=match d with
  |.non=>u=.none
  |.bl b=>u=.bool b
  |.int i=>∃ t,u=.int i t
  |.str x=>∃ t,u=.str x t
  |.tup ds=>∃ a xs its,u=.ref a/\Z9 X.K CL H A0 xs ds/\A1 xs its/\s.heap.IsTuple a its.toArray
  |.lst ds=>∃ a xs its,u=.ref a/\Z9 X.K CL H A0 xs ds/\A1 xs its/\s.heap.IsList a its.toArray
  |_=>AM
theorem UI(I:Z8 X pI Y H s)(hd:Y8 n d=Ab)(r:Z7 X.K CL H A0 v d)(q:Bt v u):zM X CL H s d u:=by
 cases d with
 |non=>cases r;exact q
 |bl b=>cases r;exact q
 |int b=>cases r;exact q
 |str b=>cases r;exact q
 |tup ds=>
  obtain⟨a,xs,rfl,_,sq,r⟩:=r;obtain⟨its,rv,p,_⟩:=I.tuple sq;cases q;exact⟨a,xs,its,rfl,r,rv,p⟩
 |lst ds=>
  obtain⟨a,xs,rfl,_,sq,r⟩:=r;obtain⟨its,rv,p,_⟩:=I.list sq;cases q;exact⟨a,xs,its,rfl,r,rv,Ma p⟩
 |obj=>cases n<;>cases hd
 |exc=>cases n<;>cases hd
 |dic=>cases n<;>cases hd
theorem iC{B:A4}{ds es:Ac D}(hl:s.heap.IsList l its.toArray)(hb:s.heap.IsList b zt.toArray)(e1:its.length=ds.length)(e2:zt.length=es.length)(hu:B.units<Bx)(hs:l=b->KK ds es=Ab)(he:∀ j (h1:j<its.length) (h2:j<zt.length),Ej B.in1 s its[j] zt[j] (My (ds.getD j .non) (es.getD j .non))):CM B s (.ref l) (.ref b) (KK ds es):=by
 have rc:LJ B s (.ref l) (.ref b) (KK ds es):=by
  by_cases hz:its.length=zt.length
  .have q:=SeqAt.RcAt.lists (e:=λj=>My (ds.getD j .non) (es.getD j .non)) hl hb (by simpa using hz) hu (λj h1 h2=>by simpa using he j (by simpa using h1) (by simpa using h2))
   rw[MT (by omega)]
   have e:its.toArray.size=ds.length:=by simpa using e1
   rwa [e]at q
  .rw[MS (by omega)]
   exact SeqAt.RcAt.lists_lengths hl hb (by simpa using hz) hu
 have ne:J5 B s (.ref l) (.ref b) (!KK ds es):=by
  by_cases hz:its.length=zt.length
  .have q:=SeqAt.RcNeAt.lists (e:=λj=>My (ds.getD j .non) (es.getD j .non)) hl hb (by simpa using hz) hu (λj h1 h2=>by simpa using he j (by simpa using h1) (by simpa using h2))
   rw[MT (by omega)]
   have e:its.toArray.size=ds.length:=by simpa using e1
   rwa [e]at q
  .rw[MS (by omega)]
   exact SeqAt.RcNeAt.lists_lengths hl hb (by simpa using hz) hu
 refine⟨rc,?_,ne⟩;by_cases hlb:l=b
 .rw[hs hlb,hlb];exact Zk _
 .exact Zj hlb rc
theorem iB{B:A4}{ds es:Ac D}(hl:s.heap.IsTuple l its.toArray)(hb:s.heap.IsTuple b zt.toArray)(e1:its.length=ds.length)(e2:zt.length=es.length)(hu:B.units<Bx)(hs:l=b->KK ds es=Ab)(he:∀ j (h1:j<its.length) (h2:j<zt.length),Ej B.in1 s its[j] zt[j] (My (ds.getD j .non) (es.getD j .non))):CM B s (.ref l) (.ref b) (KK ds es):=by
 have rc:LJ B s (.ref l) (.ref b) (KK ds es):=by
  have q:=SeqAt.RcAt.tuples (e:=λj=>My (ds.getD j .non) (es.getD j .non)) hl hb hu (λj h1 h2=>by simpa using he j (by simpa using h1) (by simpa using h2))
  have e:its.toArray.size=ds.length:=by simpa using e1
  have e':zt.toArray.size=es.length:=by simpa using e2
  rw[e,e']at q;by_cases hz:ds.length=es.length
  .rw[MT hz];rw[hz,Yg,BE,JQ]at q;rw[hz];exact q
  .rw[MS hz]
   rwa [Bg.mpr hz,Jb]at q
 have ne:J5 B s (.ref l) (.ref b) (!KK ds es):=by
  have q:=SeqAt.RcNeAt.tuples (e:=λj=>My (ds.getD j .non) (es.getD j .non)) hl hb hu (λj h1 h2=>by simpa using he j (by simpa using h1) (by simpa using h2))
  have e:its.toArray.size=ds.length:=by simpa using e1
  have e':zt.toArray.size=es.length:=by simpa using e2
  rw[e,e']at q;by_cases hz:ds.length=es.length
  .rw[MT hz];rw[hz,Yg,BE,JQ]at q;rw[hz];exact q
  .rw[MS hz]
   rwa [Bg.mpr hz,Jb]at q
 refine⟨rc,?_,ne⟩;by_cases hlb:l=b
 .rw[hs hlb,hlb];exact Zk _
 .exact Zj hlb rc
theorem Mb{pI:Pn}{Y:L2.St}{H:Hp}{s:Ar}(I:Z8 X pI Y H s):∀(n:Ag)(d e:D)(v w':V)(u t:Al)(B:A4),Y8 n d=Ab->Y8 n e=Ab->Z7 X.K CL H A0 v d->Z7 X.K CL H A0 w' e->Bt v u->Bt w' t->B.units+n<Bx->CM B s u t (My d e)
  |n,d,e,v,w',u,t,B,hd,he,r,q,rv,xh,hu=>by
    have xp:B.units<Bx:=by omega
    have sd:=UI I hd r rv;have se:=UI I he q xh
    match d,e,sd,se with
    |.non,.non,s1,s2=>cases s1;cases s2;exact tY
    |.non,.bl b,s1,s2=>cases s1;cases s2;exact uB b
    |.non,.int b,s1,s2=>cases s1;obtain⟨_,rfl⟩:=s2;exact uA b _
    |.non,.str b,s1,s2=>cases s1;obtain⟨_,rfl⟩:=s2;exact tX b _
    |.non,.tup es,s1,s2=>cases s1;obtain⟨_,_,_,rfl,_,_,p⟩:=s2;exact tW p xp
    |.non,.lst es,s1,s2=>cases s1;obtain⟨_,_,_,rfl,_,_,p⟩:=s2;exact tZ p xp
    |.bl a,.non,s1,s2=>cases s1;cases s2;exact wA a
    |.bl a,.bl b,s1,s2=>cases s1;cases s2;exact wD a b
    |.bl a,.int b,s1,s2=>cases s1;obtain⟨_,rfl⟩:=s2;exact wC a b _
    |.bl a,.str b,s1,s2=>cases s1;obtain⟨_,rfl⟩:=s2;exact vZ a b _
    |.bl a,.tup es,s1,s2=>cases s1;obtain⟨_,_,_,rfl,_,_,p⟩:=s2;exact vY a p xp
    |.bl a,.lst es,s1,s2=>cases s1;obtain⟨_,_,_,rfl,_,_,p⟩:=s2;exact wB a p xp
    |.int a,.non,s1,s2=>obtain⟨_,rfl⟩:=s1;cases s2;exact sX a _
    |.int a,.bl b,s1,s2=>obtain⟨_,rfl⟩:=s1;cases s2;exact tB b a _
    |.int a,.int b,s1,s2=>obtain⟨_,rfl⟩:=s1;obtain⟨_,rfl⟩:=s2;exact sZ a _ b _
    |.int a,.str b,s1,s2=>obtain⟨_,rfl⟩:=s1;obtain⟨_,rfl⟩:=s2;exact sW a _ b _
    |.int a,.tup es,s1,s2=>obtain⟨_,rfl⟩:=s1;obtain⟨_,_,_,rfl,_,_,p⟩:=s2;exact sV a _ p xp
    |.int a,.lst es,s1,s2=>obtain⟨_,rfl⟩:=s1;obtain⟨_,_,_,rfl,_,_,p⟩:=s2;exact sY a _ p xp
    |.str a,.non,s1,s2=>obtain⟨_,rfl⟩:=s1;cases s2;exact tS a _
    |.str a,.bl b,s1,s2=>obtain⟨_,rfl⟩:=s1;cases s2;exact tV b a _
    |.str a,.int b,s1,s2=>obtain⟨_,rfl⟩:=s1;obtain⟨_,rfl⟩:=s2;exact tU a _ b _
    |.str a,.str b,s1,s2=>obtain⟨_,rfl⟩:=s1;obtain⟨_,rfl⟩:=s2;exact tR a _ b _
    |.str a,.tup es,s1,s2=>obtain⟨_,rfl⟩:=s1;obtain⟨_,_,_,rfl,_,_,p⟩:=s2;exact tQ a _ p xp
    |.str a,.lst es,s1,s2=>obtain⟨_,rfl⟩:=s1;obtain⟨_,_,_,rfl,_,_,p⟩:=s2;exact tT a _ p xp
    |.tup ds,.non,s1,s2=>cases s2;obtain⟨_,_,_,rfl,_,_,p⟩:=s1;exact tL p xp
    |.tup ds,.bl b,s1,s2=>cases s2;obtain⟨_,_,_,rfl,_,_,p⟩:=s1;exact tP b p xp
    |.tup ds,.int b,s1,s2=>obtain⟨_,rfl⟩:=s2;obtain⟨_,_,_,rfl,_,_,p⟩:=s1;exact tO b _ p xp
    |.tup ds,.str b,s1,s2=>obtain⟨_,rfl⟩:=s2;obtain⟨_,_,_,rfl,_,_,p⟩:=s1;exact tK b _ p xp
    |.tup ds,.lst es,s1,s2=>obtain⟨_,_,_,rfl,_,_,p⟩:=s1;obtain⟨_,_,_,rfl,_,_,p2⟩:=s2;exact tM p p2 xp
    |.lst ds,.non,s1,s2=>cases s2;obtain⟨_,_,_,rfl,_,_,p⟩:=s1;exact sS p xp
    |.lst ds,.bl b,s1,s2=>cases s2;obtain⟨_,_,_,rfl,_,_,p⟩:=s1;exact sU b p xp
    |.lst ds,.int b,s1,s2=>obtain⟨_,rfl⟩:=s2;obtain⟨_,_,_,rfl,_,_,p⟩:=s1;exact sT b _ p xp
    |.lst ds,.str b,s1,s2=>obtain⟨_,rfl⟩:=s2;obtain⟨_,_,_,rfl,_,_,p⟩:=s1;exact sR b _ p xp
    |.lst ds,.tup es,s1,s2=>obtain⟨_,_,_,rfl,_,_,p⟩:=s1;obtain⟨_,_,_,rfl,_,_,p2⟩:=s2;exact uC p p2 xp
    |.tup ds,.tup es,s1,s2=>
      match n,hd,he,hu with
      |n+1,hd,he,hu=>
        obtain⟨a,xs,its,rfl,r1,v1,p1⟩:=s1;obtain⟨b,ys,zt,rfl,r2,v2,p2⟩:=s2;have l1:=v1.length;have l2:=r1.length;have l3:=v2.length;have l4:=r2.length
        refine iB p1 p2 (by omega) (by omega) xp (λhab=>?_) λj h1 h2=>?_
        · have e1:v=.ref a:=Bt.inj rv rfl;have e2:w'=.ref b:=Bt.inj xh rfl;subst e1 e2 hab;have z:=MW I (n+1) _ _ hd he r q
          injection z with z
          rw[z];exact zw n es he
        · obtain⟨x,rx,qx⟩:=Jz r1 v1 h1;obtain⟨y,ry,qy⟩:=Jz r2 v2 h2;exact(Mb I n _ _ x y _ _ B.in1 (IE hd j) (IE he j) rx ry qx qy (by show B.units+1+n<Bx;omega)).2.1
    |.lst ds,.lst es,s1,s2=>
      match n,hd,he,hu with
      |n+1,hd,he,hu=>
        obtain⟨a,xs,its,rfl,r1,v1,p1⟩:=s1;obtain⟨b,ys,zt,rfl,r2,v2,p2⟩:=s2;have l1:=v1.length;have l2:=r1.length;have l3:=v2.length;have l4:=r2.length
        refine iC p1 p2 (by omega) (by omega) xp (λhab=>?_) λj h1 h2=>?_
        · have e1:v=.ref a:=Bt.inj rv rfl;have e2:w'=.ref b:=Bt.inj xh rfl;subst e1 e2 hab;have z:=MW I (n+1) _ _ hd he r q
          injection z with z
          rw[z];exact zw n es he
        · obtain⟨x,rx,qx⟩:=Jz r1 v1 h1;obtain⟨y,ry,qy⟩:=Jz r2 v2 h2;exact(Mb I n _ _ x y _ _ B.in1 (IE hd j) (IE he j) rx ry qx qy (by show B.units+1+n<Bx;omega)).2.1
    |.obj _ _,_,s1,_=>exact s1.elim
    |.exc _ _,_,s1,_=>exact s1.elim
    |.dic _,_,s1,_=>exact s1.elim
    |_,.obj _ _,_,s2=>exact s2.elim
    |_,.exc _ _,_,s2=>exact s2.elim
    |_,.dic _,_,s2=>exact s2.elim
end
section
variable{X:Cx}{CL:ClA}{W:XW}
theorem N8(I:Z8 X pI Y H s){ds:Ac D}(B:A4)(hd:Y8 n d=Ab)(hs:ds.all (Y8 n)=Ab)(r:Z9 X.K CL H A0 xs ds)(rv:A1 xs its)(q:Z7 X.K CL H A0 v d)(qv:Bt v u)(hu:B.units+n<Bx):∃ e:Al->An,(∀ y,y∈its.toArray->Ej B s y u (e y))/\its.toArray.any e=ds.any λy=>My y d:=by
 have l1:=rv.length;have l2:=r.length
 have key:∀ y,y∈its->∃ k:An,Ej B s y u k/\∀ j (h:j<its.length),its[j]=y->My (ds.getD j .non) d=k:=λy hy=>by
  obtain⟨j,hj,rfl⟩:=Fb hy;obtain⟨x,rx,qx⟩:=Jz r rv hj;refine⟨My (ds.getD j .non) d,(Mb I n _ _ x v _ _ B (IE hs j) hd rx q qx qv hu).2.1,λj' ix e=>?_⟩
  obtain⟨x',jg,cz⟩:=Jz r rv ix;rw[e]at cz;have z:=Bt.inj qx cz;subst z;rw[MW I n _ _ (IE hs j') (IE hs j) jg rx]
 have wu:∀ y,∃ k:An,y∈its->Ej B s y u k/\∀ j (h:j<its.length),its[j]=y->My (ds.getD j .non) d=k:=λy=>by
  by_cases hy:y∈its
  .obtain⟨k,hk⟩:=key y hy;exact⟨k,λ_=>hk⟩
  .exact⟨Ab,λh=>absurd h hy⟩
 refine⟨λy=>Xx (wu y),λy hy=>(DN (wu y) (by simpa using hy)).1,?_⟩
 rw[DM];simp only[List.any_toArray,EK];constructor
 .rintro⟨y,hy,hk⟩;obtain⟨j,hj,rfl⟩:=Fb hy;have z:=(DN (wu its[j]) hy).2 j hj rfl;rw[hk]at z;refine⟨ds.getD j .non,?_,z⟩;rw[Di,Cz (by omega)]
  exact EM _
 .rintro⟨y,hy,hk⟩;obtain⟨j,hj,rfl⟩:=Fb hy;have ix:j<its.length:=by omega
  refine⟨its[j],EM _,?_⟩;have z:=(DN (wu its[j]) (EM _)).2 j ix rfl;rw[<-z,Di,Cz hj];exact hk
theorem NV{g:Ai->Ai->An}(ho:zd X (CP op) (pi λi j=>.bl (g i j)))(hg:∀ dx dy,(∃ i j,dx=.int i/\dy=.int j/\Cq op dx dy=.ok (.bl (g i j)))\/Cq op dx dy=.bad):ut X CL W (CP op) (Cq op):=by
 intro A pI s Y H x y v u Q I rx ry ⟨hA,dx,dy,hx,hy,p⟩;rcases hg dx dy with ⟨i,j,rfl,rfl,e⟩|e
 .have ex:=hx.int_of;have ey:=hy.int_of
  subst ex ey;rw[e]at p;exact ho pI s Y H _ _ v u Q I rx ry ⟨i,j,rfl,rfl,p _ H (Az.refl H) rfl⟩
 .rw[e]at p;exact p.elim
theorem VI{x:V}(h:Cv X.K CL H A x d)(hd:d≠.non):x≠.non:=by
 rintro rfl;have h:=h.plain;cases d with
 |non=>exact hd rfl
 |tup=>obtain⟨_,_,e,_⟩:=h;cases e
 |lst=>obtain⟨_,_,e,_⟩:=h;cases e
 |obj=>obtain⟨_,_,_,_,e,_⟩:=h;cases e
 |exc=>obtain⟨_,_,_,e,_⟩:=h;cases e
 |dic=>exact h.elim
 |_=>cases h
theorem IG(hu:X.A.units+64<Bx)(op:DC):ut X CL W (CP op) (Cq op):=by
 cases op with
 |Eq=>
  intro A pI s Y H x y v u Q I rx ry ⟨hA,dx,dy,hx,hy,p⟩;rw[xK]at p;split at p
  .rename_i h;simp only[Am]at h;exact(Mb I 5 dx dy x y v u X.A h.1 h.2 hx.plain hy.plain rx ry (by omega)).1 X.prog X.w X.xe _ ⟨.bl _,H,I,rfl,p _ H (Az.refl H) rfl⟩
  .exact p.elim
 |NotEq=>
  intro A pI s Y H x y v u Q I rx ry ⟨hA,dx,dy,hx,hy,p⟩;rw[vQ]at p;split at p
  .rename_i h;simp only[Am]at h;exact(Mb I 5 dx dy x y v u X.A h.1 h.2 hx.plain hy.plain rx ry (by omega)).2.2 X.prog X.w X.xe _ ⟨.bl _,H,I,rfl,p _ H (Az.refl H) rfl⟩
  .exact p.elim
 |Lt=>
  refine NV vG λdx dy=>?_
  cases dx with
  |int i=>
   cases dy with
   |int j=>exact .inl ⟨i,j,rfl,rfl,rfl⟩
   |_=>exact .inr rfl
  |_=>exact .inr rfl
 |LtE=>
  refine NV vH λdx dy=>?_
  cases dx with
  |int i=>
   cases dy with
   |int j=>exact .inl ⟨i,j,rfl,rfl,rfl⟩
   |_=>exact .inr rfl
  |_=>exact .inr rfl
 |Gt=>
  refine NV vJ λdx dy=>?_
  cases dx with
  |int i=>
   cases dy with
   |int j=>exact .inl ⟨i,j,rfl,rfl,rfl⟩
   |_=>exact .inr rfl
  |_=>exact .inr rfl
 |GtE=>
  refine NV vK λdx dy=>?_
  cases dx with
  |int i=>
   cases dy with
   |int j=>exact .inl ⟨i,j,rfl,rfl,rfl⟩
   |_=>exact .inr rfl
  |_=>exact .inr rfl
 |In=>
  intro A pI s Y H x y v u Q I rx ry ⟨hA,dx,dy,hx,hy,p⟩;cases dy with
  |lst es=>
   rw[yF]at p;split at p
   .rename_i h;simp only[Am]at h;obtain⟨a,xs,e,_,sq,r⟩:=hy.plain;subst e;cases ry;obtain⟨its,rv,pl,_⟩:=I.list sq;obtain⟨e,he,ha⟩:=N8 I (n:=5) X.A.in1 h.1 h.2 r rv hx.plain rx (by show X.A.units+1+5<Bx;omega)
    refine SeqAt.in_listAt e (Ma pl) he ?_;rw[ha];exact⟨.bl _,H,I,rfl,p _ H (Az.refl H) rfl⟩
   .exact p.elim
  |tup es=>
   rw[yE]at p;split at p
   .rename_i h;simp only[Am]at h;obtain⟨a,xs,e,_,sq,r⟩:=hy.plain;subst e;cases ry;obtain⟨its,rv,pl,_⟩:=I.tuple sq;obtain⟨e,he,ha⟩:=N8 I (n:=5) X.A.in1 h.1 h.2 r rv hx.plain rx (by show X.A.units+1+5<Bx;omega)
    refine SeqAt.in_tupleAt e pl he ?_;rw[ha];exact⟨.bl _,H,I,rfl,p _ H (Az.refl H) rfl⟩
   .exact p.elim
  |dic kvs=>exact hy.plain.elim
  |_=>exact p.elim
 |NotIn=>
  intro A pI s Y H x y v u Q I rx ry ⟨hA,dx,dy,hx,hy,p⟩;cases dy with
  |lst es=>
   rw[vP]at p;split at p
   .rename_i h;simp only[Am]at h;obtain⟨a,xs,e,_,sq,r⟩:=hy.plain;subst e;cases ry;obtain⟨its,rv,pl,_⟩:=I.list sq;obtain⟨e,he,ha⟩:=N8 I (n:=5) X.A.in1 h.1 h.2 r rv hx.plain rx (by show X.A.units+1+5<Bx;omega)
    refine SeqAt.notIn_listAt e (Ma pl) he ?_;rw[ha];exact⟨.bl _,H,I,rfl,p _ H (Az.refl H) rfl⟩
   .exact p.elim
  |tup es=>
   rw[vO]at p;split at p
   .rename_i h;simp only[Am]at h;obtain⟨a,xs,e,_,sq,r⟩:=hy.plain;subst e;cases ry;obtain⟨its,rv,pl,_⟩:=I.tuple sq;obtain⟨e,he,ha⟩:=N8 I (n:=5) X.A.in1 h.1 h.2 r rv hx.plain rx (by show X.A.units+1+5<Bx;omega)
    refine SeqAt.notIn_tupleAt e pl he ?_;rw[ha];exact⟨.bl _,H,I,rfl,p _ H (Az.refl H) rfl⟩
   .exact p.elim
  |_=>exact p.elim
 |Is=>
  intro A pI s Y H x y v u Q I rx ry ⟨hA,dx,dy,hx,hy,p⟩;cases dy with
  |non=>
   have ey:=hy.non_of;subst ey;refine qU pI s Y H _ _ v u Q I rx ry ⟨rfl,?_⟩;cases dx with
   |non=>
    have ex:=hx.non_of;subst ex;exact p _ H (Az.refl H) rfl
   |exc=>exact p.elim
   |dic=>exact p.elim
   |_=>rw[BM (VI hx (by simp))];exact p _ H (Az.refl H) rfl
  |bl b=>
   cases dx with
   |bl a=>
    have ey:=hy.bl_of;have ex:=hx.bl_of;subst ex ey;cases rx;cases ry;refine wpAny_is_plain rfl ⟨.bl (a==b),H,I,?_,p _ H (Az.refl H) rfl⟩;cases a<;>cases b<;>rfl
   |_=>exact p.elim
  |_=>cases dx<;>exact p.elim
 |IsNot=>
  intro A pI s Y H x y v u Q I rx ry ⟨hA,dx,dy,hx,hy,p⟩;cases dy with
  |non=>
   have ey:=hy.non_of;subst ey;refine kY pI s Y H _ _ v u Q I rx ry ⟨rfl,?_⟩;cases dx with
   |non=>
    have ex:=hx.non_of;subst ex;exact p _ H (Az.refl H) rfl
   |exc=>exact p.elim
   |dic=>exact p.elim
   |_=>rw[BM (VI hx (by simp))];exact p _ H (Az.refl H) rfl
  |bl b=>
   cases dx with
   |bl a=>
    have ey:=hy.bl_of;have ex:=hx.bl_of;subst ex ey;cases rx;cases ry;refine wpAny_isNot_plain rfl ⟨.bl (!(a==b)),H,I,?_,p _ H (Az.refl H) rfl⟩;cases a<;>cases b<;>rfl
   |_=>exact p.elim
  |_=>cases dx<;>exact p.elim
end
section
variable{X:Cx}{CL:ClA}{W:XW}{a b c:Aq}{fa fb fc:Rho->R D}{pos:AF}
theorem CS.bind{f:D->R An}{Q:An->Hp->Prop}{Q':VK}(h:CS W H (r.bind f) Q)(k:∀ d v H',r=.ok d->Az H H'->Rp H' v d->CS W H' (f d) Q->Q' v H'):AW Rp W H r Q':=by
 cases r with
 |ok d=>exact λv H2 s2 q=>k d v H2 rfl s2 q (CS.same s2 h)
 |exn x=>exact h
 |bad=>exact h
theorem CS.bindB{r:R An}{f:An->R An}{Q:An->Hp->Prop}{Q':An->Hp->Prop}(h:CS W H (r.bind f) Q)(k:∀ b H',r=.ok b->Az H H'->CS W H' (f b) Q->Q' b H'):CS W H r Q':=by
 cases r with
 |ok d=>exact λH2 s2=>k d H2 rfl s2 (CS.same s2 h)
 |exn x=>exact h
 |bad=>exact h
theorem Ip.bind{Rp:Hp->Ac V->Ac D->Prop}{r:R (Ac D)}{f:Ac D->R D}{Q':Ac V->Hp->Prop}(h:AW Rq W H (r.bind f) Q)(k:∀ d v H',r=.ok d->Az H H'->Rp H' v d->AW Rq W H' (f d) Q->Q' v H'):Ip Rp W H r Q':=by
 cases r with
 |ok d=>exact λv H2 s2 q=>k d v H2 rfl s2 q (AW.same s2 h)
 |exn x=>exact h
 |bad=>exact h
theorem pM(ha:ST X CL W a fa):SE X CL W (.UnaryOp .USub a pos) (λU=>(fa U).bind λx=>unD .USub x):=λA=>PE.weak (wW lQ (ha A)) λY H Q ⟨hA,U,g,p⟩=>⟨hA,U,g,AW.bind p λd v H1 _ s1 r1 p1=>by
 cases d with
 |int i=>
  have e:=r1.int_of;subst e;exact⟨i,rfl,p1 _ H1 (Az.refl H1) rfl⟩
 | _=>exact p1.elim⟩
theorem PC{f:An->R D}(h:AW Rq W H ((Dz d).bind f) Q):∃ c,d=.bl c/\AW Rq W H (f c) Q:=by
 cases d with
 |bl c=>exact⟨c,rfl,h⟩
 |_=>exact h.elim
theorem Vs(ha:ST X CL W a fa):SE X CL W (.UnaryOp .Not a pos) (λU=>(fa U).bind λx=>(Dz x).bind λb=>.ok (.bl (!b))):=λA=>PE.weak (nL (ha A)) λY H Q ⟨hA,U,g,p⟩=>⟨hA,U,g,AW.bind p λd v H1 _ s1 r1 p1=>by
 obtain⟨c,rfl,p2⟩:=PC p1;exact⟨c,r1.bl_of,p2 _ H1 (Az.refl H1) rfl⟩⟩
theorem QM{op}(ha:SE X CL W a fa):SE X CL W (.BoolOp op [a] pos) fa:=λA=>nK (ha A)
theorem U_7{rest:Ac Aq}(ha:SE X CL W a fa)(hb:SE X CL W (.BoolOp .And (b::rest) pos) fb):SE X CL W (.BoolOp .And (a::b::rest) pos) (λU=>(fa U).bind λx=>(Dz x).bind λc=>if c=Ab then fb U else .ok (.bl Af)):=
 λA=>PE.weak (nN (ha A) (hb A)) λY H Q ⟨hA,U,g,p⟩=>⟨hA,U,g,AW.bind p λd v H1 _ s1 r1 p1=>by
  obtain⟨c,rfl,p2⟩:=PC p1;refine⟨c,r1,?_⟩;cases c with
  |true=>exact⟨hA.same s1,U,g.same s1,p2⟩
  | false=>exact p2 _ H1 (Az.refl H1) rfl⟩
theorem tJ{rest:Ac Aq}(ha:SE X CL W a fa)(hb:SE X CL W (.BoolOp .Or (b::rest) pos) fb):SE X CL W (.BoolOp .Or (a::b::rest) pos) (λU=>(fa U).bind λx=>(Dz x).bind λc=>if c=Ab then .ok (.bl Ab) else fb U):=
 λA=>PE.weak (vB (ha A) (hb A)) λY H Q ⟨hA,U,g,p⟩=>⟨hA,U,g,AW.bind p λd v H1 _ s1 r1 p1=>by
  obtain⟨c,rfl,p2⟩:=PC p1;refine⟨c,r1,?_⟩;cases c with
  |false=>exact⟨hA.same s1,U,g.same s1,p2⟩
  | true=>exact p2 _ H1 (Az.refl H1) rfl⟩
theorem UX{xs:Ac D}{i:Ai}(h:DU xs i=.ok d):∃ k,qj xs.length i=Aa k/\xs[k]?=Aa d:=by
 unfold DU at h;split at h
 .rename_i k e;split at h
  .rename_i d' e';cases h;exact⟨k,e,e'⟩
  .cases h
 .cases h
theorem PY{xs:Ac D}{i:Ai}{x:Ex}(h:DU xs i=.exn x):AM:=by
 unfold DU at h;split at h
 .split at h<;>cases h
 .cases h
theorem US{ds:Ac D}{i:Ai}(r:Z9 K CL H A xs ds)(h:DU ds i=.ok d):∃ v,vv xs i=Aa v/\Z7 K CL H A v d:=by
 obtain⟨k,e,q⟩:=UX h;obtain⟨v,hv,rv⟩:=r.get q;refine⟨v,?_,rv⟩;unfold vv;have:i5 xs.length i=Aa k:=by rw[r.length];exact e
 rw[this];exact hv
theorem mW{z:Ah}{i:Ai}(h:DU (NC z) i=.ok d):∃ c,vv z.cps.toList i=Aa c/\d=.str ⟨#[c]⟩:=by
 obtain⟨k,e,q⟩:=UX h;unfold NC at e q;rw[Bc]at e;rw[Ev]at q;cases hc:z.cps.toList[k]? with
 |none=>rw[hc]at q;cases q
 |some c=>
  rw[hc]at q;refine⟨c,?_,(BD q).symm⟩;unfold vv;have:i5 z.cps.toList.length i=Aa k:=e;rw[this];exact hc
theorem SG(h:Db n=Ab):n<=sizeLine:=by
 unfold Db at h;have:=AR h;rw[Bz];omega
theorem U_5(hs:N7 b)(ha:ST X CL W a fa)(hb:ST X CL W b fb):SE X CL W (.Subscript a b pos) (λU=>(fa U).bind λx=>(fb U).bind λy=>G3 x y):=
 λA=>PE.weak (Re (r:=rIx X.K) qC (ha A) (hb A) hs) λY H Q h=>by
  obtain⟨hA,U,g,h⟩:=ui h;refine⟨hA,U,g,?_⟩;cases e:fa U with
  |bad=>rw[e]at h;exact h
  |exn x=>rw[e]at h;exact h
  |ok dx0=>
   rw[e]at h;intro x H1 s1 r1;obtain⟨j4,U1,g1,h1⟩:=h x H1 s1 r1;refine⟨j4,U1,g1,?_⟩;cases e1:fb U1 with
   |bad=>rw[e1]at h1;exact h1
   |exn x=>rw[e1]at h1;exact h1
   |ok dy0=>
    rw[e1]at h1;intro y H2 s2 r2;obtain⟨aj,dx,dy,rx,ry,p⟩:=h1 y H2 s2 r2;cases dy with
    |int i=>
     have ey:=ry.int_of;subst ey;cases dx with
     |lst ds=>
      obtain⟨q,xs,rfl,sq,r⟩:=rx.lst_of;rw[uW]at p;cases e2:DU ds i with
      |ok d=>
       rw[e2]at p;obtain⟨v,hv,rv⟩:=US r e2;exact .inl ⟨q,xs,i,v,rfl,rfl,sq,hv,p v H2 (Az.refl H2) rv⟩
      |exn x=>exact(PY e2).elim
      |bad=>rw[e2]at p;exact p.elim
     |tup ds=>
      obtain⟨q,xs,rfl,_,sq,r⟩:=rx.tup_of;rw[uV]at p;cases e2:DU ds i with
      |ok d=>
       rw[e2]at p;obtain⟨v,hv,rv⟩:=US r e2;exact .inr (.inl ⟨q,xs,i,v,rfl,rfl,sq,hv,p v H2 (Az.refl H2) rv⟩)
      |exn x=>exact(PY e2).elim
      |bad=>rw[e2]at p;exact p.elim
     |str z=>
      have ex:=rx.str_of;subst ex;have p':AW (λH=>Z7 X.K CL H A) W H2 (if Db z.length=Ab then DU (NC z) i else .bad) Q:=p
      split at p'
      .rename_i hz;cases e2:DU (NC z) i with
       |ok d=>
        rw[e2]at p';obtain⟨c,hc,rfl⟩:=mW e2;exact .inr (.inr ⟨z,i,c,rfl,rfl,SG hz,hc,p' _ H2 (Az.refl H2) rfl⟩)
       |exn x=>exact(PY e2).elim
       |bad=>rw[e2]at p';exact p'.elim
      .exact p'.elim
     |dic=>exact rx.plain.elim
     |_=>exact p.elim
    |_=>cases dx<;>first|exact p.elim|exact rx.plain.elim
theorem QS:SA X CL W [] (λ_=>.ok []):=λA=>PA.weak Ca λY H Q ⟨hA,U,g,p⟩=>p [] H (Az.refl H) trivial
theorem Qf(ha:SE X CL W a fa)(hs:SA X CL W es fs)(yu:Aw (a::es) X.env=(Af,eval a X.env)::Aw es X.env):SA X CL W (a::es) (λU=>(fa U).bind λx=>(fs U).bind λxs=>.ok (x::xs)):=
 λA=>PA.weak (Bv (ha A) (hs A) yu) λY H Q ⟨hA,U,g,p⟩=>by
  dsimp only at p;refine⟨hA,U,g,?_⟩;cases e:fa U with
  |bad=>rw[e]at p;exact p
  |exn x=>rw[e]at p;exact p
  |ok d=>
   rw[e]at p;intro v H1 s1 r1;refine⟨hA.same s1,U,g.same s1,?_⟩;cases e1:fs U with
   |bad=>rw[R.bind_ok,e1]at p;exact p
   |exn x=>rw[R.bind_ok,e1]at p;exact λH2 s2=>p H2 (s1.trans s2)
   |ok ds=>
    rw[R.bind_ok,e1]at p;exact λvs H2 s2 r2=>p (v::vs) H2 (s1.trans s2) ⟨r1.same s2,r2⟩
theorem Vr{k:Ag}(hs:SA X CL W es fs)(hz:∀ U ds,fs U=.ok ds->ds.length<=100000):SE X CL W (.Tuple es k pos) (λU=>(fs U).bind λxs=>.ok (.tup xs)):=
 λA=>PE.weak (Od (hs A)) λY H Q ⟨hA,U,g,p⟩=>⟨hA,U,g,Ip.bind p λds vs H1 e s1 r1 p1=>⟨by
  rw[r1.length,Bz];have:=hz U ds e;omega,λq hq=>p1 _ _ (ES hq _) (N4 (hA.same s1) hq r1)⟩⟩
def Lp(W:XW)(H:Hp)(r:R (Ao Ai))(Q:Ao Ai->Hp->Prop):Prop:=match r with
  |.ok o=>∀ H',Az H H'->Q o H'
  |.exn x=>∀ H',Az H H'->W x H'
  |.bad=>AM
theorem Lp.bind{r:R (Ao Ai)}{f:Ao Ai->R D}(h:AW Rq W H (r.bind f) Q)(k:∀ o H',r=.ok o->Az H H'->AW Rq W H' (f o) Q->Q' o H'):Lp W H r Q':=by
 cases r with
 |ok d=>exact λH2 s2=>k d H2 rfl s2 (AW.same s2 h)
 |exn x=>exact h
 |bad=>exact h
def SO(X:Cx)(CL:ClA)(W:XW)(e:Ao Aq)(f:Rho->R (Ao Ai)):Prop:=∀ A,PO X e (λY H Q=>Tm H A/\∃ U,Y9 X.K CL A U Y H/\Lp W H (f U) Q)
theorem PO.weak{e:Ao Aq}{t t':TO}(h:PO X e t)(k:∀ Y H Q,t' Y H Q->t Y H Q):PO X e t':=λpI s Y H Q I q=>h pI s Y H Q I (k _ _ _ q)
theorem jC:SO X CL W Ae (λ_=>.ok Ae):=λA=>PO.weak iQ λY H Q ⟨hA,U,g,p⟩=>p H (Az.refl H)
theorem jB(ha:ST X CL W a fa):SO X CL W (Aa a) (λU=>(fa U).bind λd=>(Hn d).bind λi=>.ok (Aa i)):=λA=>PO.weak (iP (ha A)) λY H Q ⟨hA,U,g,p⟩=>by
 dsimp only at p;refine⟨hA,U,g,?_⟩;cases e:fa U with
 |bad=>rw[e]at p;exact p
 |exn x=>rw[e]at p;exact p
 |ok d=>
  rw[e]at p;intro v H1 s1 r1;cases d with
  |int i=>exact⟨i,r1.int_of,p H1 s1⟩
  |_=>exact p.elim
theorem U_1{ds:Ac D}(lo hi:Ao Ai)(r:Z9 K CL H A xs ds):Z9 K CL H A (KS xs lo hi) (KU ds lo hi):=by
 unfold KS KU;have e:∀ d o,HT.sIx xs.length d o=IX ds.length d o:=λd o=>by rw[r.length];cases o<;>rfl
 rw[e,e,r.length];exact(r.drop _).take _
end
section
variable{X:Cx}{CL:ClA}{W:XW}{a b c:Aq}{fa fb fc:Rho->R D}{pos:AF}
def Gr(K:Fg)(CL:ClA)(H:Hp)(A:Ak->Prop):Ac V->Ac D->Prop
 |[],[]=>F3
 |v::vs,d::ds=>Cv K CL H A v d/\Gr K CL H A vs ds
 |_,_=>AM
theorem Gr.same{K:Fg}{H H':Hp}{A:Ak->Prop}(s:Az H H'):∀{vs:Ac V}{ds:Ac D},Gr K CL H A vs ds->Gr K CL H' A vs ds
 |[],[],h=>h
 |_::_,_::_,h=>⟨h.1.same s,Gr.same s h.2⟩
 |[],_::_,h=>h.elim
 |_::_,[],h=>h.elim
theorem Gr.one(h:Gr K CL H A vs [d]):∃ v,vs=[v]/\Cv K CL H A v d:=by
 cases vs with
 |nil=>exact h.elim
 |cons v vs=>
  cases vs with
  |nil=>exact⟨v,rfl,h.1⟩
  |cons=>exact h.2.elim
theorem Gr.two{e:D}(h:Gr K CL H A vs [d,e]):∃ v w',vs=[v,w']/\Cv K CL H A v d/\Cv K CL H A w' e:=by
 cases vs with
 |nil=>exact h.elim
 |cons v vs=>
  cases vs with
  |nil=>exact h.2.elim
  |cons w' vs=>
   cases vs with
   |nil=>exact⟨v,w',rfl,h.1,h.2.1⟩
   |cons=>exact h.2.2.elim
def uu(X:Cx)(CL:ClA)(W:XW)(es:Ac Aq)(f:Rho->R (Ac D)):Prop:=∀ A,PA X es (λY H Q=>Tm H A/\∃ U,Y9 X.K CL A U Y H/\Ip (λH=>Gr X.K CL H A) W H (f U) Q)
theorem UM:uu X CL W [] (λ_=>.ok []):=λA=>PA.weak Ca λY H Q ⟨hA,U,g,p⟩=>p [] H (Az.refl H) trivial
theorem TR(ha:ST X CL W a fa)(hs:uu X CL W es fs)(yu:Aw (a::es) X.env=(Af,eval a X.env)::Aw es X.env):uu X CL W (a::es) (λU=>(fa U).bind λx=>(fs U).bind λxs=>.ok (x::xs)):=
 λA=>PA.weak (Bv (ha A) (hs A) yu) λY H Q ⟨hA,U,g,p⟩=>by
  dsimp only at p;refine⟨hA,U,g,?_⟩;cases e:fa U with
  |bad=>rw[e]at p;exact p
  |exn x=>rw[e]at p;exact p
  |ok d=>
   rw[e]at p;intro v H1 s1 r1;refine⟨hA.same s1,U,g.same s1,?_⟩;cases e1:fs U with
   |bad=>rw[R.bind_ok,e1]at p;exact p
   |exn x=>rw[R.bind_ok,e1]at p;exact λH2 s2=>p H2 (s1.trans s2)
   |ok ds=>
    rw[R.bind_ok,e1]at p;exact λvs H2 s2 r2=>p (v::vs) H2 (s1.trans s2) ⟨r1.same s2,r2⟩
def Lq(X:Cx)(CL:ClA)(W:XW)(f:Al)(g:Ac D->R D):Prop:=∀ A,Gs X f (λxs H Q=>Tm H A/\∃ ds,Gr X.K CL H A xs ds/\AW (λH=>Z7 X.K CL H A) W H (g ds) Q)
theorem QP{id:CQ}{p:AF}{g:Ac D->R D}(hc:Lq X CL W (.builtin id) g)(hg:Gl X x)(hm:X.mg x=Ae)(hv:De x=Aa (.builtin id))(ha:uu X CL W (e::es) fs)(hn:x≠"__name__")(zS:(x==("__debug__" : Ah))=Af)(he:Aw (e::es) X.env=(Af,eval e X.env)::Aw es X.env)(zR:∀ pos,(Br pos (Aw es X.env)).any (·.1)=Af):SE X CL W (.Call (.Name x p) (e::es) [] pos) (λU=>(fs U).bind g):=λA=>PE.weak (Kl (hc A) hg hm hv (ha A) hn zS he (zR _)) λY H Q ⟨hA,U,gd,q⟩=>⟨hA,U,gd,Ip.bind q λds vs H1 _ s1 r1 p1=>⟨hA.same s1,ds,r1,p1⟩⟩
theorem U_6{p:AF}{g:Ac D->R D}(hc:Lq X CL W (.type T) g)(hg:Gl X x)(hm:X.mg x=Ae)(hv:De x=Aa (.type T))(ha:uu X CL W (e::es) fs)(hn:x≠"__name__")(zS:(x==("__debug__" : Ah))=Af)(he:Aw (e::es) X.env=(Af,eval e X.env)::Aw es X.env)(zR:∀ pos,(Br pos (Aw es X.env)).any (·.1)=Af):SE X CL W (.Call (.Name x p) (e::es) [] pos) (λU=>(fs U).bind g):=λA=>PE.weak (PH (hc A) hg hm hv (ha A) hn zS he (zR _)) λY H Q ⟨hA,U,gd,q⟩=>⟨hA,U,gd,Ip.bind q λds vs H1 _ s1 r1 p1=>⟨hA.same s1,ds,r1,p1⟩⟩
theorem rM:Lq X CL W (.builtin "len") (zr .len):=by
  intro A pI s Y H xs us Q I r ⟨hA,ds,rs,p⟩
  match ds,rs,p with
  |[.lst es],rs,p=>
    obtain⟨v,rfl,rv⟩:=rs.one;obtain⟨q,ys,rfl,sq,ry⟩:=rv.lst_of;exact NM pI s Y H _ us Q I r ⟨q,ys,rfl,.inl sq,p _ H (Az.refl H) (by rw[ry.length];rfl)⟩
  |[.tup es],rs,p=>
    obtain⟨v,rfl,rv⟩:=rs.one;obtain⟨q,ys,rfl,_,sq,ry⟩:=rv.tup_of;exact NM pI s Y H _ us Q I r ⟨q,ys,rfl,.inr sq,p _ H (Az.refl H) (by rw[ry.length];rfl)⟩
  |[.str x],rs,p=>
    obtain⟨v,rfl,rv⟩:=rs.one;have e:=rv.str_of;subst e;have p':AW (λH=>Z7 X.K CL H A) W H (if Db x.length=Ab then .ok (.int x.length) else .bad) Q:=p
    split at p'
    · rename_i h;exact aD pI s Y H _ us Q I r ⟨x,rfl,K8 h,p' _ H (Az.refl H) rfl⟩
    · exact p'.elim
  |[],_,p=>exact p.elim
  |[.non],_,p=>exact p.elim
  |[.bl _],_,p=>exact p.elim
  |[.int _],_,p=>exact p.elim
  |[.obj _ _],_,p=>exact p.elim
  |[.exc _ _],_,p=>exact p.elim
  |[.dic _],rs,p=>first|exact p.elim|(obtain⟨v,rfl,rv⟩:=rs.one;exact rv.plain.elim)
  |x::_::_,_,p=>cases x<;>exact p.elim
theorem Tv:∀(is:Ac Ai)(i:Ai),IZ i is∈i::is/\∀ a∈i::is,IZ i is<=a
 |[],i=>⟨AY,λa h=>by rw[List.mem_singleton]at h;rw[h];exact Xz _⟩
 |j::r,i=>by
  obtain⟨h1,h2⟩:=Tv r (if j<i then j else i)
  refine⟨?_,λa h=>?_⟩
  .show IZ (if j<i then j else i) r∈_
   rcases A6.mp h1 with e|e
   .rw[e];split
    .exact AE _ AY
    .exact AY
   .exact AE _ (AE _ e)
  .show IZ (if j<i then j else i) r<=a
   have h0:=h2 _ AY;rcases A6.mp h with e|e
   .subst e;refine XC h0 ?_;split<;>omega
   .rcases A6.mp e with e|e
    .subst e;refine XC h0 ?_;split<;>omega
    .exact h2 a (AE _ e)
theorem SN:∀{is:Ac Ai}{its:Ac Al},A1 (is.map V.int) its->∃ xs:Bl (Ai×Ce),its.toArray=MC xs/\xs.toList.map (·.1)=is
 |[],_,h=>by cases h;exact⟨#[],by simp[MC],rfl⟩
 |i::is,_,h=>by
  cases h with
  |cons h1 h2=>
   obtain⟨t,rfl⟩:=h1;obtain⟨xs,e1,e2⟩:=SN h2;refine⟨((i,t)::xs.toList).toArray,?_,?_⟩
   .apply Array.toList_inj.mp
    have e1':=congrArg JW e1;simp[MC]at e1' ⊢;exact e1'
   .simp[e2]
theorem cM(hc:X.calm=Ab):Gs X (.builtin "min") (λxs H Q=>∃ a i is,xs=[.ref a]/\Id X.K H a ((i::is).map V.int)/\Q (.int (IZ i is)) H):=by
 intro pI s Y H xs us Q I r h;obtain⟨a,i,is,rfl,sq,q⟩:=h;obtain⟨u,rfl,ru⟩:=KJ r;cases ru;obtain⟨its,rv,pl,hz⟩:=I.list sq;obtain⟨ys,e1,e2⟩:=SN rv;have hsz:0<ys.size:=by
  have:=congrArg XZ e2;simp at this;omega
 have hl:=pl.isList;rw[e1]at hl;refine min_intList (I.ok.hd hc) hl hsz λv h' tk hv hk=>?_
 obtain⟨t,rfl⟩:=intItems_at hv;obtain⟨h1,h2⟩:=argBest_lt (Jq ys) (ys.size-1);have nm:∀ j,j<ys.size->Jq ys j∈i::is:=λj hj=>by
  rw[<-e2];unfold Jq;rw[Xs hj];simp only[Ym,Option.getD_some];exact List.mem_map.mpr ⟨ys[j],by simp,rfl⟩
 have nx:∀ x∈i::is,∃ j,j<ys.size/\Jq ys j=x:=λx hx=>by
  rw[<-e2]at hx;obtain⟨y,hy,rfl⟩:=Ic.mp hx;obtain⟨j,hj,ej⟩:=Array.mem_iff_getElem.mp (Xu.mp hy);refine⟨j,hj,?_⟩;unfold Jq;rw[Xs hj,ej];rfl
 obtain⟨m1,m2⟩:=Tv is i;have em:Jq ys (argBest (λi j=>decide (Jq ys i<Jq ys j)) (ys.size-1))=IZ i is:=by
  refine Int.le_antisymm ?_ (m2 _ (nm _ (by omega)))
  obtain⟨j,hj,ej⟩:=nx _ m1;rw[<-ej];exact h2 j (by omega)
 rw[em];exact⟨.int (IZ i is),H,I.kept hk,⟨_,rfl⟩,q⟩
theorem SQ{K:Fg}{CL:ClA}{H:Hp}{A:Ak->Prop}:∀{es:Ac D}{is:Ac Ai}{ys:Ac V},JE es=Aa is->Z9 K CL H A ys es->ys=is.map V.int
 |[],_,[],h,_=>by cases h;rfl
 |[],_,_::_,_,r=>r.elim
 |_::_,_,[],_,r=>r.elim
 |e::es,is,y::ys,h,r=>by
  cases e with
  |int i=>
   have h':(JE es).map (i :: ·)=Aa is:=h;cases e2:JE es with
   |none=>rw[e2]at h';cases h'
   |some js=>
    rw[e2]at h';cases h';have ih:=SQ e2 r.2;have e1:y=.int i:=r.1;rw[ih,e1];rfl
  |_=>cases h
theorem bH(ds:Ac D)(hl:∀ es,ds≠[.lst es]):(∃ i j,ds=[.int i,.int j])\/zr .min ds=.bad:=by
 rcases ds with _|⟨x,_|⟨y,_|⟨z,r⟩⟩⟩
 .exact .inr rfl
 .cases x with
  |lst es=>exact absurd rfl (hl es)
  |_=>exact .inr rfl
 .cases x with
  |int i=>
   cases y with
   |int j=>exact .inl ⟨i,j,rfl⟩
   |_=>exact .inr rfl
  |_=>exact .inr rfl
 .cases x with
  |int i=>cases y<;>exact .inr rfl
  |_=>exact .inr rfl
theorem rL(hc:X.calm=Ab):Lq X CL W (.builtin "min") (zr .min):=by
  intro A pI s Y H xs us Q I r ⟨hA,ds,rs,p⟩;by_cases hls:∃ es,ds=[.lst es]
  · obtain⟨es,rfl⟩:=hls;obtain⟨v,rfl,rv⟩:=rs.one;obtain⟨a,ys,rfl,sq,ry⟩:=rv.lst_of;have p':AW (Z7 X.K CL · A) W H (match JE es with
      |some (i::is)=>R.ok (.int (IZ i is))
      | _=>.bad) Q:=p
    cases e1:JE es with
    |none=>rw[e1]at p';exact p'.elim
    |some is=>
      cases is with
      |nil=>rw[e1]at p';exact p'.elim
      |cons i is=>
        rw[e1]at p';have ey:=SQ e1 ry;subst ey;exact cM hc pI s Y H _ us Q I r ⟨a,i,is,rfl,sq,p' _ H (Az.refl H) rfl⟩
  rcases bH ds (λes z=>hls ⟨es,z⟩) with ⟨i,j,rfl⟩|e
  · obtain⟨v,w',rfl,rv,xh⟩:=rs.two;have e1:=rv.int_of;have e2:=xh.int_of
    subst e1 e2;exact cN hc pI s Y H _ us Q I r ⟨i,j,rfl,p _ H (Az.refl H) rfl⟩
  · rw[e]at p;exact p.elim
theorem eZ:Lq X CL W (.type "tuple") (zr .tuple):=by
  intro A pI s Y H xs us Q I r ⟨hA,ds,rs,p⟩
  match ds,rs,p with
  |[.lst es],rs,p=>
    obtain⟨v,rfl,rv⟩:=rs.one;obtain⟨q,ys,rfl,sq,ry⟩:=rv.lst_of;exact Sd pI s Y H _ us Q I r ⟨q,ys,rfl,.inl ⟨sq,λl hl=>p _ _ (ES hl _) (N4 hA hl ry)⟩⟩
  |[.tup es],rs,p=>
    obtain⟨v,rfl,rv⟩:=rs.one;obtain⟨q,ys,rfl,na,sq,ry⟩:=rv.tup_of;exact Sd pI s Y H _ us Q I r ⟨q,ys,rfl,.inr ⟨sq,p _ H (Az.refl H) ⟨q,ys,rfl,na,sq,ry⟩⟩⟩
  |[],_,p=>exact p.elim
  |[.non],_,p=>exact p.elim
  |[.bl _],_,p=>exact p.elim
  |[.int _],_,p=>exact p.elim
  |[.str _],_,p=>exact p.elim
  |[.obj _ _],_,p=>exact p.elim
  |[.exc _ _],_,p=>exact p.elim
  |[.dic _],rs,p=>first|exact p.elim|(obtain⟨v,rfl,rv⟩:=rs.one;exact rv.plain.elim)
  |x::_::_,_,p=>cases x<;>exact p.elim
end
section
variable{X:Cx}{CL:ClA}{W:XW}{a b c:Aq}{fa fb fc:Rho->R D}{pos:AF}
theorem SB.congr{f g:Rho->R An}(h:SB X CL W a f)(e:∀ U,g U=f U):SB X CL W a g:=λA=>PT.weak (h A) λY H Q ⟨hA,U,q,p⟩=>⟨hA,U,q,by rw[<-e];exact p⟩
theorem Va{f:Rho->R An}(ha:SB X CL W a f):SB X CL W (.UnaryOp .Not a pos) (λU=>(f U).bind λb=>.ok (!b)):=λA=>PT.weak (oM (ha A)) λY H Q ⟨hA,U,g,p⟩=>⟨hA,U,g,CS.bindB p λb H1 _ s1 p1=>p1 H1 (Az.refl H1)⟩
def SW(X:Cx)(CL:ClA)(W:XW)(e:Aq)(f:Rho->R An):Prop:=∀ A,PW X e (λY H Q=>Tm H A/\∃ U,Y9 X.K CL A U Y H/\CS W H (f U) Q)
theorem PW.weak{t t':TT}(h:PW X e t)(k:∀ Y H Q,t' Y H Q->t Y H Q):PW X e t':=λwh pI s Y H Q I q=>h wh pI s Y H Q I (k _ _ _ q)
theorem SW.sb{f:Rho->R An}(h:SW X CL W a f):SB X CL W a f:=λA=>PW.pt (h A)
theorem SW.congr{f g:Rho->R An}(h:SW X CL W a f)(e:∀ U,g U=f U):SW X CL W a g:=λA=>PW.weak (h A) λY H Q ⟨hA,U,q,p⟩=>⟨hA,U,q,by rw[<-e];exact p⟩
theorem Ua{f:Rho->R An}(ha:SB X CL W a f):SW X CL W (.BoolOp .And [a] pos) f:=λA=>Uv (ha A)
theorem Vk{f:Rho->R An}(ha:SB X CL W a f):SW X CL W (.BoolOp .Or [a] pos) f:=λA=>Vz (ha A)
theorem Vl{f g:Rho->R An}{rest:Ac Aq}(ha:SB X CL W a f)(hb:SW X CL W (.BoolOp .And (b::rest) pos) g):SW X CL W (.BoolOp .And (a::b::rest) pos) (λU=>(f U).bind λc=>if c=Ab then g U else .ok Af):=
 λA=>PW.weak (QC (ha A) (hb A)) λY H Q ⟨hA,U,gd,p⟩=>⟨hA,U,gd,CS.bindB p λc H1 _ s1 p1=>by
  cases c with
  |true=>exact⟨hA.same s1,U,gd.same s1,p1⟩
  | false=>exact p1 H1 (Az.refl H1)⟩
theorem V6{f g:Rho->R An}{rest:Ac Aq}(ha:SB X CL W a f)(hb:SW X CL W (.BoolOp .Or (b::rest) pos) g):SW X CL W (.BoolOp .Or (a::b::rest) pos) (λU=>(f U).bind λc=>if c=Ab then .ok Ab else g U):=
 λA=>PW.weak (Rb (ha A) (hb A)) λY H Q ⟨hA,U,gd,p⟩=>⟨hA,U,gd,CS.bindB p λc H1 _ s1 p1=>by
  cases c with
  |false=>exact⟨hA.same s1,U,gd.same s1,p1⟩
  | true=>exact p1 H1 (Az.refl H1)⟩
theorem Vb(ho:ut X CL W (CP op) g)(ha:ST X CL W a fa)(hb:ST X CL W b fb)(hm:HC op b=Af):SB X CL W (.Compare a [op] [b] pos) (λU=>(fa U).bind λx=>(fb U).bind λy=>(g x y).bind Dz):=
 λA=>PT.weak (LX (ho A) (ha A) (hb A) hm) λY H Q ⟨hA,U,gd,p⟩=>⟨hA,U,gd,CS.bind p λdx x H1 _ s1 r1 p1=>⟨hA.same s1,U,gd.same s1,CS.bind p1 λdy y H2 _ s2 r2 p2=>
  ⟨(hA.same s1).same s2,dx,dy,r1.same s2,r2,CS.bind p2 λdz z H3 _ s3 r3 p3=>by
   cases dz with
   |bl k=>exact⟨k,r3,p3 H3 (Az.refl H3)⟩
   | _=>exact p3.elim⟩⟩⟩
theorem eJ{op':DC}(hu:X.A.units+64<Bx)(ha:ST X CL W a fa)(hb:ST X CL W b fb)(hc:ST X CL W c fc)(hm:lastMarks [op,op'] [b,c]=Af):SB X CL W (.Compare a [op,op'] [b,c] pos) (λU=>(fa U).bind λx=>(fb U).bind λy=>(Cq op x y).bind λz=>(Dz z).bind λk=>if k=Ab then (fc U).bind λu=>(Cq op' y u).bind Dz else .ok Af):=
  λA=>PT.weak (eO (IG hu op A) (IG hu op' A) (ha A) (hb A) (hc A) hm) λY H Q ⟨hA,U,g,p⟩=>⟨hA,U,g,CS.bind p λdx x H1 _ s1 r1 p1=>⟨hA.same s1,U,g.same s1,CS.bind p1 λdy y H2 _ s2 r2 p2=>
    ⟨(hA.same s1).same s2,dx,dy,r1.same s2,r2,CS.bind p2 λdz z H3 _ s3 r3 p3=>by
      cases dz with
      |bl k=>
        refine⟨k,r3,?_⟩;cases k with
        |false=>exact⟨Af,rfl,p3 H3 (Az.refl H3)⟩
        | true=>exact⟨((hA.same s1).same s2).same s3,U,((g.same s1).same s2).same s3,CS.bind p3 λdu u H4 _ s4 r4 p5=>⟨(((hA.same s1).same s2).same s3).same s4,dy,du,(r2.same s3).same s4,r4,CS.bind p5 λdv v H5 _ s5 r5 p6=>by
            cases dv with
            |bl k'=>exact⟨k',r5,p6 H5 (Az.refl H5)⟩
            | _=>exact p6.elim⟩⟩
      | _=>exact p3.elim⟩⟩⟩
theorem QQ(ha:ST X CL W a fa)(he:∀ whole,Jg a X.env whole=(do let v <-whole;standAt a.pos;holding [v] (truthy v))):SB X CL W a (λU=>(fa U).bind Bs):=
 λA=>PT.weak (eN (ha A) he) λY H Q ⟨hA,U,g,p⟩=>⟨hA,U,g,CS.bind p λd v H1 _ s1 r1 p1=>by
  cases d with
  |non=>
   have e:=r1.non_of;subst e;exact⟨Af,rfl,p1 H1 (Az.refl H1)⟩
  |bl b=>
   have e:=r1.bl_of;subst e;exact⟨b,rfl,p1 H1 (Az.refl H1)⟩
  |int i=>
   have e:=r1.int_of;subst e;exact⟨_,rfl,p1 H1 (Az.refl H1)⟩
  |str x=>
   have e:=r1.str_of;subst e;have p2:CS W H1 (if Db x.length=Ab then .ok (x.length != 0) else .bad) Q:=p1
   split at p2
   .rename_i h;refine⟨_,⟨K8 h,rfl⟩,?_⟩;have e:((x.length:Ai) != 0)=(x.length != 0):=by
     rw[DM];simp
    rw[e];exact p2 H1 (Az.refl H1)
   .exact p2.elim
  |tup ds=>
   obtain⟨q,xs,rfl,_,sq,r⟩:=r1.tup_of;refine⟨_,.inr (.inl ⟨xs,sq,rfl⟩),?_⟩;have e:xs.isEmpty=ds.isEmpty:=by
    have:=r.length;cases xs<;>cases ds<;>first|rfl|cases this
   rw[e];exact p1 H1 (Az.refl H1)
  |lst ds=>
   obtain⟨q,xs,rfl,sq,r⟩:=r1.lst_of;refine⟨_,.inl ⟨xs,sq,rfl⟩,?_⟩;have e:xs.isEmpty=ds.isEmpty:=by
    have:=r.length;cases xs<;>cases ds<;>first|rfl|cases this
   rw[e];exact p1 H1 (Az.refl H1)
  | _=>exact p1.elim⟩
noncomputable def zK(K:Fg)(CL:ClA)(H:Hp)(A:Ak->Prop)(cls:Al)(dx:Ao Ak)(x:Ex):Prop:=
 ∃ C,CL x.c=Aa C/\cls=.ref C/\(x.fs=[]\/∃ d vs,dx=Aa d/\¬ A d/\H d=Aa (.xd vs)/\z9 K CL H A vs x.fs)
def Dy(K:Fg)(CL:ClA)(H:Hp)(cls:Al)(dx:Ao Ak)(x:Ex):Prop:=∀ A,Tm H A->zK K CL H A cls dx x
end
structure Fr where
 f:Ak->HO->Prop
 pin:Ag->Ak->HO->Prop
variable{Fz:Fr}
instance:CoeFun Fr λ_=>Ak->HO->Prop:=⟨Fr.f⟩
def BN(B:Ak->Prop)(U:Rho)(Y:L2.St):Ak->Prop:=λa=>B a\/∃(j:Ag)(d:D),U[j]?=Aa (Aa (d,Ab))/\Y[j]?=Aa (Aa (.ref a))
structure Sx (K:Fg) (CL:ClA) (Fz:Fr) (B:Ak->Prop) (U:Rho) (Y:L2.St) (H:Hp):Prop where
 good:Y9 K CL (BN B U Y) U Y H
 aok:Tm H (BN B U Y)
 new:∀(j:Ag)(d:D)(a:Ak),U[j]?=Aa (Aa (d,Ab))->Y[j]?=Aa (Aa (.ref a))->(∀ o,¬ Fz a o)/\¬ B a
 dis:∀(i j:Ag)(d e:D)(a:Ak),U[i]?=Aa (Aa (d,Ab))->U[j]?=Aa (Aa (e,Ab))->Y[i]?=Aa (Aa (.ref a))->Y[j]?=Aa (Aa (.ref a))->i=j
 same:∀ b o,Fz b o->H b=Aa o
 len:U.length=Y.length
 pin:∀ j:Ag,U[j]?=Aa (Aa (.non,Ab))->∃ a o,Fz.pin j a o/\Y[j]?=Aa (Aa (.ref a))/\H a=Aa o
def B4(K:Fg)(CL:ClA)(Fz:Fr)(B:Ak->Prop)(W:XW)(o:O)(D:xu):Prop:=match o with
  |.next U=>∀ Y H,Sx K CL Fz B U Y H->D.nx Y H
  |.brk U=>∀ Y H,Sx K CL Fz B U Y H->D.bk Y H
  |.cont U=>∀ Y H,Sx K CL Fz B U Y H->D.ct Y H
  |.ret d fr=>∀ v H,(∀ b o,Fz b o->H b=Aa o)->Z7 K CL H B v d->(fr=Ab->∀ ds,d=.lst ds->∃ a xs,v=.ref a/\(∀ o,¬ Fz a o)/\H a=Aa (.lst xs)/\Z9 K CL H (λb=>B b\/b=a) xs ds)->D.rt v H
  |.exn x _=>∀ H,(∀ b o,Fz b o->H b=Aa o)->W x H
  |.bad=>AM
section
variable{K:Fg}{CL:ClA}{Fz Fy:Fr}{B:Ak->Prop}{U:Rho}{Y:L2.St}{H H':Hp}
theorem Sx.mono(k:∀ b o,Fz b o->Fy b o)(kp:∀ j a xs,Fy.pin j a xs->Fz.pin j a xs)(x:Sx K CL Fy B U Y H):Sx K CL Fz B U Y H:=⟨x.good,x.aok,λj d a h1 h2=>⟨λo z=>(x.new j d a h1 h2).1 o (k _ _ z),(x.new j d a h1 h2).2⟩,x.dis,λb o z=>x.same b o (k _ _ z),x.len,λj h=>let ⟨a,xs,h1,h2⟩:=x.pin j h;⟨a,xs,kp _ _ _ h1,h2⟩⟩
theorem Sx.grow(x:Sx K CL Fz B U Y H)(s:Az H H'):Sx K CL Fz B U Y H':=⟨x.good.same s,x.aok.same s,x.new,x.dis,λb o z=>s _ _ (x.same b o z),x.len,λj h=>let ⟨a,xs,h1,h2,h3⟩:=x.pin j h;⟨a,xs,h1,h2,s _ _ h3⟩⟩
theorem Bu{l:Ac α}{v:α}(h:i≠j):(l.set i v)[j]?=l[j]?:=by rw[GF h]
theorem Ee{l:Ac α}{v w':α}(h:(l.set i v)[i]?=Aa w'):w'=v:=by
 rw[FY]at h;cases e:l[i]? with
 |none=>rw[e]at h;cases h
 |some x=>rw[e]at h;cases h;rfl
theorem Sx.set(x:Sx K CL Fz B U Y H){v:V}{d:D}(i:Ag)(r:Z7 K CL H (BN B U Y) v d):Sx K CL Fz B (U.set i (Aa (d,Af))) (Y.set i (Aa v)) H:=by
 have own:∀(j:Ag)(e:D),(U.set i (Aa (d,Af)))[j]?=Aa (Aa (e,Ab))->i≠j/\U[j]?=Aa (Aa (e,Ab)):=λj e h=>by
  by_cases hj:i=j
  .subst hj;have:=Ee h;cases this
  .exact⟨hj,by rw[Bu hj]at h;exact h⟩
 have sub:∀ a,BN B (U.set i (Aa (d,Af))) (Y.set i (Aa v)) a->BN B U Y a:=λa h=>by
  rcases h with h|⟨j,e,h1,h2⟩
  .exact .inl h
  .obtain⟨hj,h1⟩:=own j e h1;rw[Bu hj]at h2;exact .inr ⟨j,e,h1,h2⟩
 refine⟨⟨λj e h=>?_,λj e h hn=>?_,by rw[AT,AT];exact x.len⟩,λa h=>x.aok a (sub a h),λj e a h1 h2=>?_,λj k e f a h1 h2 h3 h4=>?_,x.same,by rw[AT,AT];exact x.len,λj h=>?_⟩
 .by_cases hj:i=j
  .subst hj;have e1:=Ee h;cases e1;refine⟨v,?_,Z7.sub sub _ r⟩;have hl:i<Y.length:=by
    rw[<-x.len];have:=(A5.mp h).1;simpa using this
   rw[By hl]
  .rw[Bu hj]at h;obtain⟨w',q,xh⟩:=x.good.sh j e h;exact⟨w',by rw[Bu hj];exact q,Z7.sub sub _ xh⟩
 .obtain⟨hj,h1⟩:=own j e h;obtain⟨a,xs,ds,q,z,ha,hh,rr⟩:=x.good.ow j e h1 hn;exact⟨a,xs,ds,by rw[Bu hj];exact q,z,.inr ⟨j,e,h,by rw[Bu hj];exact q⟩,hh,Z9.sub sub _ rr⟩
 .obtain⟨hj,h1⟩:=own j e h1;rw[Bu hj]at h2;exact x.new j e a h1 h2
 .obtain⟨hj,h1⟩:=own j e h1;obtain⟨hk,h2⟩:=own k f h2;rw[Bu hj]at h3;rw[Bu hk]at h4;exact x.dis j k e f a h1 h2 h3 h4
 .obtain⟨hj,h1⟩:=own j _ h;obtain⟨a,xs,p1,p2,p3⟩:=x.pin j h1;exact⟨a,xs,p1,by rw[Bu hj];exact p2,p3⟩
end
section
variable{X:Cx}{CL:ClA}{W:XW}{pos:AF}{e:Aq}{fe:Rho->R D}
def SS(X:Cx)(CL:ClA)(W:XW)(st:AL)(f:Rho->O):Prop:=∀ Fz B,PS X st (λD Y H=>∃ U,Sx X.K CL Fz B U Y H/\B4 X.K CL Fz B W (f U) D)
def wc(X:Cx)(CL:ClA)(W:XW)(st:Ac AL)(f:Rho->O):Prop:=∀ Fz B,yp X st (λD Y H=>∃ U,Sx X.K CL Fz B U Y H/\B4 X.K CL Fz B W (f U) D)
theorem PS.weak{e:AL}{t t':TS}(h:PS X e t)(k:∀ D Y H,t' D Y H->t D Y H):PS X e t':=λpI s Y H D I q=>h pI s Y H D I (k _ _ _ q)
theorem yp.weak{e:Ac AL}{t t':TS}(h:yp X e t)(k:∀ D Y H,t' D Y H->t D Y H):yp X e t':=λpI s Y H D I q=>h pI s Y H D I (k _ _ _ q)
theorem B4.ex{f:D->O}(x:Sx X.K CL Fz B U Y H)(h:B4 X.K CL Fz B W (O.of U r f) D')(k:∀ d v H',r=.ok d->Az H H'->Rp H' v d->Sx X.K CL Fz B U Y H'->B4 X.K CL Fz B W (f d) D'->Q v H'):AW Rp W H r Q:=by
 cases r with
 |ok d=>exact λv H' s r=>k d v H' rfl s r (x.grow s) h
 |exn y=>exact λH' s=>h H' λb o z=>s _ _ (x.same b o z)
 |bad=>exact h
theorem B4.exB{r:R An}{f:An->O}{Q:An->Hp->Prop}(x:Sx X.K CL Fz B U Y H)(h:B4 X.K CL Fz B W (O.of U r f) D')(k:∀ b H',r=.ok b->Az H H'->Sx X.K CL Fz B U Y H'->B4 X.K CL Fz B W (f b) D'->Q b H'):CS W H r Q:=by
 cases r with
 |ok d=>exact λH' s=>k d H' rfl s (x.grow s) h
 |exn y=>exact λH' s=>h H' λb o z=>s _ _ (x.same b o z)
 |bad=>exact h
theorem iW(he:SE X CL W e fe)(hs:Dq e Ae pos.line X.env=pure Af):SS X CL W (.Expr e pos) (λU=>O.of U (fe U) λ_=>.next U):=λFz B pI s Y H D I ⟨U,x,p⟩=>
 Kc (he (BN B U Y)) hs pI s Y H D I ⟨x.aok,U,x.good,B4.ex x p λd v H' _ s r x' q=>q Y H' x'⟩
theorem pA{n:Ah}(hN:X.N.Nodup)(hi:X.N[i]?=Aa n)(hx:qc X.env.scope n)(he:SE X CL W e fe)(hs:Dq e (Aa (.Name n pos')) pos.line X.env=pure Af)(hf:X.fn n=Ab\/X.env.scope.names.lookup n=Aa .local):SS X CL W (.Assign [.Name n pos'] e pos) (λU=>O.of U (fe U) λd=>.next (U.set i (Aa (d,Af)))):=λFz B pI s Y H D I ⟨U,x,p⟩=>
 EE hN hi hx (he (BN B U Y)) hs hf pI s Y H D I ⟨x.aok,U,x.good,B4.ex x p λd v H' _ s r x' q=>q _ H' (x'.set i r)⟩
theorem Uc(he:SE X CL W e fe):SS X CL W (.Return (Aa e) pos) (λU=>O.of U (fe U) λd=>.ret d Af):=λFz B pI s Y H D I ⟨U,x,p⟩=>
 Hi (he (BN B U Y)) pI s Y H D I ⟨x.aok,U,x.good,B4.ex x p λd v H' _ s r x' q=>q v H' x'.same (Z7.sub (λa h=>.inl h) _ r) λz=>nomatch z⟩
theorem V7{a b:Ac AL}{fa fb:Rho->O}(hc:SB X CL W c fc)(ha:wc X CL W a fa)(hb:wc X CL W b fb):SS X CL W (.If c a b pos) (λU=>O.of U (fc U) λk=>if k=Ab then fa U else fb U):=λFz B pI s Y H D I ⟨U,x,p⟩=>
 FJ (hc (BN B U Y)) (ha Fz B) (hb Fz B) pI s Y H D I ⟨x.aok,U,x.good,B4.exB x p λk H' _ s x' q=>by
  cases k with
  |true=>exact⟨U,x',q⟩
  | false=>exact⟨U,x',q⟩⟩
theorem Qe:wc X CL W [] (λU=>.next U):=λFz B=>yp.weak GV λD Y H ⟨U,x,p⟩=>p Y H x
theorem LY{st:AL}{rest:Ac AL}{f g:Rho->O}(h1:SS X CL W st f)(h2:wc X CL W rest g):wc X CL W (st::rest) (λU=>(f U).seq g):=λFz B=>yp.weak (B9 (h1 Fz B) (h2 Fz B)) λD Y H ⟨U,x,p⟩=>⟨U,x,by
 dsimp only at p;cases e:f U with
 |next U'=>rw[e]at p;exact λY' H' x'=>⟨U',x',p⟩
 |ret d b=>rw[e]at p;exact p
 |brk U'=>rw[e]at p;exact p
 |cont U'=>rw[e]at p;exact p
 |exn y U'=>rw[e]at p;exact p
 | bad=>rw[e]at p;exact p⟩
end
def LG(K:Fg)(CL:ClA)(A:Ak->Prop)(ds:Ac D)(J:It)(H1:Hp):Prop:=∀ H,Kp A H1 H->∀ i:Ag,(ds.length<=i->J.stop i H)/\∀ d,ds[i]?=Aa d->J.go i H/\∀ x H',J.yld i H x H'->Az H H'/\∀ B,(∀ a,B a->A a\/H1 a=Ae)->Tm H B->Z7 K CL H' B x d
def F5(K:Fg)(CL:ClA)(A:Ak->Prop)(W:XW)(H:Hp)(r:R (Ac D))(Q:It->Hp->Prop):Prop:=match r with
  |.ok ds=>∀ J H',Az H H'->LG K CL A ds J H'->ds.length<=sizeLine->Q J H'
  |.exn x=>∀ H',Az H H'->W x H'
  |.bad=>AM
def SI(X:Cx)(CL:ClA)(W:XW)(tg iter:Aq)(f:Rho->R (Ac D)):Prop:=∀ A,PI X tg iter (λY H R=>Tm H A/\∃ U,Y9 X.K CL A U Y H/\F5 X.K CL A W H (f U) R)
theorem PI.weak{t t':TI}(h:PI X tg e t)(k:∀ Y H Q,t' Y H Q->t Y H Q):PI X tg e t':=λpI s Y H Q I q=>h pI s Y H Q I (k _ _ _ q)
section
variable{X:Cx}{CL:ClA}{W:XW}{pos p:AF}{tg e a b:Aq}{fe fa fb:Rho->R D}
theorem F5.ex{f:D->R (Ac D)}{Q:It->Hp->Prop}{Q':VK}(h:F5 X.K CL A W H (r.bind f) Q)(k:∀ d v H',r=.ok d->Az H H'->Rp H' v d->F5 X.K CL A W H' (f d) Q->Q' v H'):AW Rp W H r Q':=by
  cases r with
  | ok d=>exact λv H' s q=>k d v H' rfl s q (by
      have h':F5 X.K CL A W H (f d) Q:=h;cases e:f d with
      |ok ds=>rw[e]at h';exact λJ H2 s2 y z=>h' J H2 (s.trans s2) y z
      |exn y=>rw[e]at h';exact λH2 s2=>h' H2 (s.trans s2)
      | bad=>rw[e]at h';exact h')
  |exn y=>exact h
  |bad=>exact h
theorem Tq{x:V}(r:Z7 K CL H1 A x d)(k:Kp A H1 H)(hB:∀ a,B a->A a\/H1 a=Ae):Z7 K CL H B x d:=by
 have r1:Z7 K CL H1 (λa=>A a\/B a) x d:=Z7.wide (λa ha=>ha.elim .inl (hB a)) _ r
 have r2:Z7 K CL H (λa=>A a\/B a) x d:=Z7.kp (λb o e na=>k b o e λz=>na (.inl z)) _ r1
 exact Z7.sub (λa ha=>.inr ha) _ r2
theorem aY{ds:Ac D}(na:¬ A q\/KL K q xs)(s:Id K H q xs)(r:Z9 K CL H A xs ds):LG K CL A ds (Itl K q) H:=λH' k i=>by
 have s':=QH k na s;refine⟨λh=>⟨xs,s',by rw[r.length];exact h⟩,λd hd=>?_⟩
 obtain⟨v,hv,rv⟩:=r.get hd;exact⟨⟨xs,v,s',hv⟩,λx H2 ⟨e,y⟩=>by
  subst e;have:=y xs s';rw[hv]at this;cases this;exact⟨Az.refl _,λB hB _=>Tq rv k hB⟩⟩
theorem bY{ds:Ac D}(na:¬ A q\/KT K q xs)(s:yy K H q xs)(r:Z9 K CL H A xs ds):LG K CL A ds (Itt K q) H:=λH' k i=>by
 have s':=QG k na s;refine⟨λh=>⟨xs,s',by rw[r.length];exact h⟩,λd hd=>?_⟩
 obtain⟨v,hv,rv⟩:=r.get hd;exact⟨⟨xs,v,s',hv⟩,λx H2 ⟨e,y⟩=>by
  subst e;have:=y xs s';rw[hv]at this;cases this;exact⟨Az.refl _,λB hB _=>Tq rv k hB⟩⟩
theorem T7(lo:Ai)(n:Ag):LG K CL A (Iv lo n) (ñ lo n) H:=λH' k i=>by
 refine⟨λh=>by rw[Pv]at h;exact h,λd hd=>?_⟩
 obtain⟨h1,rfl⟩:=fC hd;exact⟨h1,λx H2 ⟨e,y⟩=>by
  subst e y;exact⟨Az.refl _,λ_ _ _=>rfl⟩⟩
theorem nI{l:Aq}{tl:TE}(hl:PE X l tl):PI X tg l (λY H R=>tl Y H λx H1=>(∃ a,x=.ref a/\(∃ xs,Id X.K H1 a xs/\(xs.length<=sizeLine->R (Itl X.K a) H1)))\/∃ a,x=.ref a/\(∃ xs,yy X.K H1 a xs/\(xs.length<=sizeLine->R (Itt X.K a) H1))):=by
 intro pI s Y H R I h;refine U4 (hl pI s Y H _ I h) λv s1 ⟨x,H1,I1,r1,q1⟩=>?_
 rcases q1 with ⟨a,e,xs,hq,q⟩|⟨a,e,xs,hq,q⟩
 .subst e;cases r1;obtain⟨its,rv,p,hz⟩:=I1.list hq;refine HU p.isList ?_;refine⟨s1.heap.objs.size,[s1.heap.objs.size],_,_,H1,rfl,I1.kept (t':=s1.toks) λb o e=>AB _ e,aX a _,⟨_,Bp _ rfl,rfl,rfl⟩,λb hb=>?_,q hz⟩
  have e:b=s1.heap.objs.size:=by simpa using hb
  subst e;exact I1.fpOk (AU _) (I1.hok.fresh (AU _))
 .subst e;cases r1;obtain⟨its,rv,p,hz⟩:=I1.tuple hq;refine wpAny_pyIter_tuple (show s1.heap.IsTuple a its.toArray from p) ?_
  refine⟨s1.heap.objs.size,[s1.heap.objs.size],_,_,H1,rfl,I1.kept (t':=s1.toks) λb o e=>AB _ e,bA a _,⟨_,Bp _ rfl,rfl,rfl⟩,λb hb=>?_,q hz⟩
  have e:b=s1.heap.objs.size:=by simpa using hb
  subst e;exact I1.fpOk (AU _) (I1.hok.fresh (AU _))
theorem yW(he:SE X CL W e fe):SI X CL W tg e (λU=>(fe U).bind G1):=λA=>PI.weak (nI (he A)) λY H R ⟨hA,U,g,p⟩=>⟨hA,U,g,F5.ex p λd v H1 _ s1 r1 p1=>by
 cases d with
 |lst ds=>
  obtain⟨q,xs,rfl,na,sq,r⟩:=r1;exact .inl ⟨q,rfl,xs,sq,λhz=>p1 _ H1 (Az.refl H1) (aY na sq r) (by rw[<-r.length];exact hz)⟩
 |tup ds=>
  obtain⟨q,xs,rfl,na,sq,r⟩:=r1;exact .inr ⟨q,rfl,xs,sq,λhz=>p1 _ H1 (Az.refl H1) (bY na sq r) (by rw[<-r.length];exact hz)⟩
 | _=>exact p1.elim⟩
theorem Tr{lo hi:Ai}{ds:Ac D}(h:FK lo hi=.ok ds):(-(2 ^ 62)<=lo/\lo<2 ^ 62)/\(-(2 ^ 62)<=hi/\hi<2 ^ 62)/\ds=Iv lo (hi-lo).toNat/\(Iv lo (hi-lo).toNat).length<=sizeLine:=by
 unfold FK at h;split at h
 .rename_i q;cases h;exact⟨by omega,by omega,rfl,by rw[Pv,Bz];omega⟩
 .cases h
theorem SJ{lo hi:Ai}{x:Ex}(h:FK lo hi=.exn x):AM:=by
 unfold FK at h;split at h<;>cases h
theorem pJ(ha:ST X CL W a fa)(hg:Gl X "range")(hm:X.mg "range" = Ae)(hs:Aw [a] X.env=[(Af,eval a X.env)]):SI X CL W tg (.Call (.Name "range" p) [a] [] pos) (λU=>(fa U).bind λx=>(Hn x).bind λj=>FK 0 j):=
 λA=>PI.weak (bR hg hm (Bv (ha A) Ca hs) hs) λY H R ⟨hA,U,g,q⟩=>⟨hA,U,g,F5.ex q λd v H1 _ s1 r1 p1=>by
  cases d with
  |int j=>
   have e:=r1.int_of;subst e;have p2:F5 X.K CL A W H1 (FK 0 j) R:=p1;cases e2:FK 0 j with
   |ok ds=>
    rw[e2]at p2;obtain⟨_,h2,rfl,hz⟩:=Tr e2;exact⟨j,rfl,h2.1,h2.2,p2 _ H1 (Az.refl H1) (by rw[XI];exact T7 0 j.toNat) hz⟩
   |exn y=>exact(SJ e2).elim
   |bad=>rw[e2]at p2;exact p2.elim
  | _=>exact p1.elim⟩
theorem jF(ha:ST X CL W a fa)(hb:ST X CL W b fb)(hg:Gl X "range")(hm:X.mg "range" = Ae)(hs:Aw [a,b] X.env=[(Af,eval a X.env),(Af,eval b X.env)])(o7:Aw [b] X.env=[(Af,eval b X.env)]):
  SI X CL W tg (.Call (.Name "range" p) [a,b] [] pos) (λU=>(fa U).bind λx=>(fb U).bind λy=>(Hn x).bind λi=>(Hn y).bind λj=>FK i j):=
 λA=>PI.weak (Tt hg hm (Bv (ha A) (Bv (hb A) Ca o7) (by rw[hs,o7])) hs o7) λY H R ⟨hA,U,g,q⟩=>⟨hA,U,g,F5.ex q λd v H1 _ s1 r1 p1=>⟨hA.same s1,U,g.same s1,F5.ex p1 λd2 v2 H2 _ s2 r2 p2=>by
  cases d with
  |int i=>
   cases d2 with
   |int j=>
    have e:=r1.int_of;have e':=r2.int_of
    subst e e';have p3:F5 X.K CL A W H2 (FK i j) R:=p2;cases e2:FK i j with
    |ok ds=>
     rw[e2]at p3;obtain⟨h1,h2,rfl,hz⟩:=Tr e2;exact⟨i,j,rfl,⟨h1.1,h1.2,h2.1,h2.2⟩,p3 _ H2 (Az.refl H2) (T7 _ _) hz⟩
    |exn y=>exact(SJ e2).elim
    |bad=>rw[e2]at p3;exact p3.elim
   |_=>exact p2.elim
  | _=>exact p2.elim⟩⟩
theorem B4.exI{r:R (Ac D)}{f:Ac D->O}{Q:It->Hp->Prop}(x:Sx X.K CL Fz B U Y H)(h:B4 X.K CL Fz B W (O.of U r f) D')(k:∀ ds J H',r=.ok ds->Az H H'->LG X.K CL A ds J H'->ds.length<=sizeLine->Sx X.K CL Fz B U Y H'->B4 X.K CL Fz B W (f ds) D'->Q J H'):F5 X.K CL A W H r Q:=by
 cases r with
 |ok d=>exact λJ H' s y z=>k d J H' rfl s y z (x.grow s) h
 |exn y=>exact λH' s=>h H' λb o z=>s _ _ (x.same b o z)
 |bad=>exact h
theorem B4.turn{Fy:Fr}{o:O}{g:Rho->O}{N:L2.St->Hp->Prop}(hf:∀ b q,Fz b q->Fy b q)(hp:∀ j a xs,Fy.pin j a xs->Fz.pin j a xs)(h:B4 K CL Fz B W (o.turn g) D')(k:∀ U' Y' H',Sx K CL Fy B U' Y' H'->B4 K CL Fz B W (g U') D'->N Y' H'):B4 K CL Fy B W o {D' with nx:=N,ct:=N,bk:=D'.nx}:=by
 cases o with
 |next U'=>exact λY' H' x=>k U' Y' H' x h
 |cont U'=>exact λY' H' x=>k U' Y' H' x h
 |brk U'=>exact λY' H' x=>h Y' H' (x.mono hf hp)
 |ret d b=>exact λv H' s r n=>h v H' (λb o z=>s b o (hf b o z)) r λz ds e=>let ⟨a,xs,h1,h2,h3⟩:=n z ds e;⟨a,xs,h1,λo q=>h2 o (hf a o q),h3⟩
 |exn y U'=>exact λH' s=>h H' (λb o z=>s b o (hf b o z))
 |bad=>exact h
noncomputable def GZ(ts:Ac Ag)(U:Rho):Rho:=ts.foldl (λU t=>U.set t Ae) U
def GT(K:Fg)(CL:ClA)(as:D->Rho->R Rho)(g:TG):Prop:=∀ Fz B U Y H v d U' Q,Sx K CL Fz B U Y H->Z7 K CL H (BN B U Y) v d->as d U=.ok U'->(∀ Y',Sx K CL Fz B U' Y' H->Q Y' H)->g v Y H Q
theorem kM(i:Ag):GT K CL (λd U=>.ok (U.set i (Aa (d,Af)))) (G0 i):=λFz B U Y H v d U' Q x r e k=>by
 cases e;exact k _ (x.set i r)
theorem QY{K:Fg}{Fz:Fr}{B:Ak->Prop}{H:Hp}:∀(ts:Ac Ag)(ds:Ac D)(vs:Ac V)(U U':Rho)(Y:L2.St)(Q:L2.St->Hp->Prop),Sx K CL Fz B U Y H->Z9 K CL H (BN B U Y) vs ds->IJ ts ds U=Aa U'->(∀ Y',Sx K CL Fz B U' Y' H->Q Y' H)->(ts.foldr (λt u=>Lm (G0 t) u) Ly) vs Y H Q
 |[],[],[],U,U',Y,Q,x,_,e,k=>by
  cases e;exact⟨rfl,k Y x⟩
 |t::ts,d::ds,v::vs,U,U',Y,Q,x,r,e,k=>by
  refine⟨v,vs,rfl,QY ts ds vs _ U' _ Q (x.set t r.1) (Z9.sub (λa ha=>?_) ds r.2) e k⟩
  rcases ha with ha|⟨j,c,h1,h2⟩
  .exact .inl ha
  .by_cases hj:t=j
   .subst hj;have:=Ee h1;cases this
   .rw[Bu hj]at h1 h2;exact .inr ⟨j,c,h1,h2⟩
 |[],_::_,_,_,_,_,_,_,_,e,_=>by cases e
 |_::_,[],_,_,_,_,_,_,_,e,_=>by cases e
 |[],[],_::_,_,_,_,_,_,r,_,_=>r.elim
 |_::_,_::_,[],_,_,_,_,_,r,_,_=>r.elim
theorem Pt:∀(ts:Ac Ag)(ds:Ac D)(U U':Rho),IJ ts ds U=Aa U'->ds.length=ts.length
 |[],[],_,_,_=>rfl
 |_::ts,_::ds,_,_,e=>congrArg (· + 1) (Pt ts ds _ _ e)
 |[],_::_,_,_,e=>by cases e
 |_::_,[],_,_,e=>by cases e
theorem VL(ts:Ac Ag):GT K CL (JA ts) (OY K ts.length (ts.foldr (λt u=>Lm (G0 t) u) Ly)):=λFz B U Y H v d U' Q x r e k=>by
 cases d with
 |tup ds=>
  obtain⟨a,xs,rfl,na,sq,rs⟩:=r;rw[aO]at e;cases e2:IJ ts ds U with
  |none=>rw[e2]at e;cases e
  |some U2=>
   rw[e2]at e;cases e;exact⟨a,xs,rfl,sq,by rw[rs.length];exact Pt _ _ _ _ e2,QY ts ds xs U _ Y Q x rs e2 k⟩
 |_=>cases e
theorem Vn{body:Ac AL}{jz:Rho->O}{g:TG}(hp:FE (model X.prog X.w) X.A X.env X.xe)(hc:X.calm=Ab)(hGT:GT X.K CL as g)(hg:PG X tg g)(hit:SI X CL W tg iter fi)(hb:wc X CL W body jz)(hs:∀ x,CZ iter X.env x=pure x)(hax:∀ d U x,as d U≠.exn x):SS X CL W (.For tg iter body [] pos) (λU=>O.of U (fi U) λxs=>Fo (λx U'=>O.of U' (as x U') jz) xs U):=λFz B pI s Y H D I ⟨U,x,p⟩=>by
 refine VA hp hc (hit (BN B U Y)) hg (tb:=λD Y H=>∃ Fy,(λD Y H=>∃ U,Sx X.K CL Fy B U Y H/\B4 X.K CL Fy B W (jz U) D) D Y H) (λpI s Y H D I ⟨Fy,q⟩=>hb Fy B pI s Y H D I q) hs pI s Y H D I ⟨x.aok,U,x.good,B4.exI x p λds J H1 _ s1 y _ x1 q=>?_⟩
 let Fy:Fr:=⟨λb o=>H1 b=Aa o/\¬ ∃(j:Ag)(d:Ov.D),U[j]?=Aa (Aa (d,Ab))/\Y[j]?=Aa (Aa (.ref b)),Fz.pin⟩
 have hfy:∀ b o,Fz b o->Fy b o:=λb o z=>⟨x1.same b o z,λ⟨j,d,h1,h2⟩=>(x1.new j d b h1 h2).1 o z⟩
 have xy:Sx X.K CL Fy B U Y H1:=⟨x1.good,x1.aok,λj d a h1 h2=>⟨λo z=>z.2 ⟨j,d,h1,h2⟩,(x1.new j d a h1 h2).2⟩,x1.dis,λb o z=>z.1,x1.len,x1.pin⟩
 refine⟨λk m Y' H'=>m=ds.length-k/\k<=ds.length/\∃ U',Sx X.K CL Fy B U' Y' H'/\B4 X.K CL Fz B W (Fo (λx U'=>O.of U' (as x U') jz) (ds.drop k) U') D,⟨ds.length,by simp,Ds _,U,xy,q⟩,?_⟩
 rintro k m Y' H' ⟨rfl,hk,U',x',q'⟩;have kp:Kp (BN B U Y) H1 H':=λb o e na=>x'.same b o ⟨e,λz=>na (.inr z)⟩
 obtain⟨yst,ygo⟩:=y H' kp k;by_cases yn:k<ds.length
 .have hd:ds[k]?=Aa ds[k]:=Cz yn;obtain⟨hgo,hyl⟩:=ygo _ hd;refine .inr ⟨hgo,λY'' H''=>∃ qw,Sx X.K CL Fy B qw Y'' H''/\B4 X.K CL Fz B W (Fo (λx U'=>O.of U' (as x U') jz) (ds.drop (k+1)) qw) D,λY'' H'' z=>⟨ds.length-(k+1),by omega,rfl,yn,z⟩,λv H2 hv=>?_⟩
  obtain⟨e2,rv⟩:=hyl v H2 hv;rw[DW yn]at q';have q2:B4 X.K CL Fz B W ((O.of U' (as ds[k] U') jz).turn (Fo (λx U'=>O.of U' (as x U') jz) (ds.drop (k+1)))) D:=q'
  have rv':Z7 X.K CL H2 (BN B U' Y') v ds[k]:=rv _ (λa ha=>by
    rcases ha with ha|⟨j,d,h1,h2⟩
    .exact .inl (.inl ha)
    .cases e:H1 a with
     |none=>exact .inr rfl
     |some o=>
      by_cases ho:∃(j:Ag)(d:Ov.D),U[j]?=Aa (Aa (d,Ab))/\Y[j]?=Aa (Aa (.ref a))
      .exact .inl (.inr ho)
      .exact absurd ⟨e,ho⟩ ((x'.new j d a h1 h2).1 o)) x'.aok
  cases ea:as ds[k] U' with
  |bad=>rw[ea]at q2;exact q2.elim
  |exn z=>exact absurd ea (hax _ _ z)
  |ok U2=>
   rw[ea,O.of_ok]at q2;exact hGT Fy B U' Y' H2 v ds[k] U2 _ (x'.grow e2) rv' ea λY3 x3=>⟨Fy,U2,x3,B4.turn hfy (λ_ _ _ z=>z) q2 λU3 Y3 H3 x3 q3=>⟨U3,x3,q3⟩⟩
 .have we:ds.length<=k:=by omega
  rw[F8 we]at q';exact .inl ⟨yst we,q' Y' H' (x'.mono hfy λ_ _ _ z=>z)⟩
end
section
variable{X:Cx}{CL:ClA}{W:XW}{a b c:Aq}{fa fb fc:Rho->R D}{pos:AF}
noncomputable def t5:Ki->Ao CQ
 |.int=>Aa "int"
 |.bool=>Aa "bool"
 |.str=>Aa "str"
 |.list=>Aa "list"
 |.tuple=>Aa "tuple"
 |_=>Ae
noncomputable def QD:D->An
 |.obj _ _=>Af
 |.exc _ _=>Af
 |.dic _=>Af
 |_=>Ab
theorem qE{Q:Vq}{E:Vq}(I:Z8 X pI Y H s)(r:Cv X.K CL H A v d)(q:Bt v u)(hT:t5 k=Aa T)(hd:QD d=Ab)(h:∀ s',Z8 X pI Y H s'->Q (.bool (nk up k d)) s'):
  AA (model X.prog X.w) X.A (call (.builtin "isinstance") [u,.type T]) Q E s:=by
 have r':=r.plain;have it:=λt=>h _ (I.tok t)
 cases d with
 |obj=>cases hd
 |exc=>cases hd
 |dic=>cases hd
 |non=>
  cases r';cases q;cases k<;>simp only[t5]at hT<;>cases hT
  .exact IsiPair.NoneType_int (it _)
  .exact IsiPair.NoneType_bool (it _)
  .exact IsiPair.NoneType_str (it _)
  .exact IsiPair.NoneType_list (it _)
  .exact IsiPair.NoneType_tuple (it _)
 |bl b=>
  cases r';cases q;cases k<;>simp only[t5]at hT<;>cases hT
  .exact IsiPair.bool_int (h _ I)
  .exact IsiPair.bool_bool (h _ I)
  .exact IsiPair.bool_str (it _)
  .exact IsiPair.bool_list (it _)
  .exact IsiPair.bool_tuple (it _)
 |int i=>
  cases r';obtain⟨t,rfl⟩:=q;cases k<;>simp only[t5]at hT<;>cases hT
  .exact IsiPair.int_int (h _ I)
  .exact IsiPair.int_bool (it _)
  .exact IsiPair.int_str (it _)
  .exact IsiPair.int_list (it _)
  .exact IsiPair.int_tuple (it _)
 |str x=>
  cases r';obtain⟨t,rfl⟩:=q;cases k<;>simp only[t5]at hT<;>cases hT
  .exact IsiPair.str_int (it _)
  .exact IsiPair.str_bool (it _)
  .exact IsiPair.str_str (h _ I)
  .exact IsiPair.str_list (it _)
  .exact IsiPair.str_tuple (it _)
 |tup ds=>
  obtain⟨p,xs,rfl,_,sq,rr⟩:=r';obtain⟨its,rv,pt,_⟩:=I.tuple sq;cases q;have td:s.heap.IsTuple p its.toArray:=pt;cases k<;>simp only[t5]at hT<;>cases hT
  .exact IsiPair.isTuple_int td (λ_ _ e=>e) (it _)
  .exact IsiPair.isTuple_bool td (λ_ _ e=>e) (it _)
  .exact IsiPair.isTuple_str td (λ_ _ e=>e) (it _)
  .exact IsiPair.isTuple_list td (λ_ _ e=>e) (it _)
  .exact IsiPair.isTuple_tuple td (λ_ _ e=>e) (h _ I)
 |lst ds=>
  obtain⟨p,xs,rfl,_,sq,rr⟩:=r';obtain⟨its,rv,pl,_⟩:=I.list sq;cases q;have td:s.heap.IsList p its.toArray:=Ma pl;cases k<;>simp only[t5]at hT<;>cases hT
  .exact IsiPair.isList_int td (λ_ _ e=>e) (it _)
  .exact IsiPair.isList_bool td (λ_ _ e=>e) (it _)
  .exact IsiPair.isList_str td (λ_ _ e=>e) (it _)
  .exact IsiPair.isList_list td (λ_ _ e=>e) (h _ I)
  .exact IsiPair.isList_tuple td (λ_ _ e=>e) (it _)
theorem bL(hT:t5 k=Aa T)(p:AW Rp W H (G2 up [k] d) Q):QD d=Ab/\AW Rp W H (.ok (.bl (nk up k d))) Q:=by
 cases k<;>simp only[t5]at hT<;>cases hT<;>cases d<;>first|exact p.elim|exact⟨rfl,by simpa using p⟩
theorem pQ{p:AF}(hT:t5 k=Aa T)(hg:Gl X "isinstance")(hm:X.mg "isinstance" = Ae)(w9:Gl X x)(rm:X.mg x=Ae)(hv:De x=Aa (.type T))(hn:x≠"__name__")(zS:(x==("__debug__" : Ah))=Af)(ha:ST X CL W a fa)(he:Aw [a,.Name x p2] X.env=(Af,eval a X.env)::Aw [.Name x p2] X.env):SE X CL W (.Call (.Name "isinstance" p) [a,.Name x p2] [] pos) (λU=>(fa U).bind λx=>G2 up [k] x):=λA=>
 PE.weak (Kl (r:=λxs H Q=>∃ y d,xs=[y,.ty T]/\Cv X.K CL H A y d/\QD d=Ab/\Q (.bl (nk up k d)) H) (λpI s Y H xs us Q I r ⟨y,d,e,ry,hd,q⟩=>by
   subst e;obtain⟨u,w',rfl,r1,r2⟩:=Li r;cases r2;exact qE I ry r1 hT hd λs' I'=>⟨.bl _,H,I',rfl,q⟩)
  hg hm Fq (Bv (ha A) (Bv (Ux (v:=.ty T) w9 rm hv rfl hn zS) Ca rfl) he) (by decide) (by decide) he rfl) λY H Q ⟨hA,U,g,q⟩=>⟨hA,U,g,AW.bind q λd v H1 _ s1 r1 p1=>by
   obtain⟨hd,p2⟩:=bL hT p1;exact⟨v,d,rfl,r1,hd,p2 _ H1 (Az.refl H1) rfl⟩⟩
theorem gW{b:An}{A':A4}{E:Vq}{Q:An->Ar->Prop}{prog:AK}{w:AI}(r:Z7 X.K CL H A v d)(q:Bt v u)(h:IU d=.ok b)(hq:Q b s):AA (model prog w) A' (truthy u) Q E s:=by
 cases d with
 |non=>
  cases r;cases q;cases h;exact truthy_none hq
 |bl k=>
  cases r;cases q;cases h;exact C3 hq
 |int i=>
  cases r;obtain⟨t,rfl⟩:=q;cases h;exact truthy_int hq
 |_=>cases h
theorem Sh:∀{ds:Ac D}{b:An},Ho ds=.ok b->(∀ j,j<ds.length->∃ c,IU (ds.getD j .non)=.ok c)/\b=(BR ds.length).all λj=>match IU (ds.getD j .non) with
  |.ok c=>c
  |_=>Af
 |[],b,h=>by cases h;exact⟨λj hj=>absurd hj (Nat.not_lt_zero _),rfl⟩
 |d::ds,b,h=>by
  rw[Sw]at h;cases e:IU d with
  |bad=>rw[e]at h;cases h
  |exn x=>rw[e]at h;cases h
  |ok c=>
   rw[e,R.bind_ok]at h;cases e2:Ho ds with
   |bad=>rw[e2]at h;cases h
   |exn x=>rw[e2]at h;cases h
   |ok c2=>
    rw[e2,R.bind_ok]at h;cases h;obtain⟨h1,h2⟩:=Sh e2;refine⟨λj hj=>?_,?_⟩
    .cases j with
     |zero=>exact⟨c,e⟩
     |succ j=>exact h1 j (by simpa using hj)
    .rw[A8,Se,h2];show (c&&_)=((match IU d with | .ok c=>c|_=>Af)&&_)
     rw[e];rfl
theorem mZ{ds:Ac D}(r:Z9 X.K CL H A0 xs ds)(rv:A1 xs its){v:Al}(h:its.toArray[j]?=Aa v):j<ds.length/\∃ x,Z7 X.K CL H A0 x (ds.getD j .non)/\Bt x v:=by
 have h':its[j]?=Aa v:=by simpa using h
 obtain⟨hj,e⟩:=A5.mp h';obtain⟨x,rx,q⟩:=Jz r rv hj;have l1:=rv.length;have l2:=r.length
 exact⟨by omega,x,rx,by rw[<-e];exact q⟩
theorem vX{o:CW}(k:∀ b q,b∉[h.objs.size]->(h.push o).get? b=Aa q->h'.get? b=Aa q):∀ b q,h.get? b=Aa q->h'.get? b=Aa q:=λb q e=>k b q (by
 intro z;have:=BW.mp z;rw[this]at e;exact absurd (AS e) (BG _)) (AB _ e)
theorem rN(hc:X.calm=Ab):Lq X CL W (.builtin "all") (zr .all):=by
  intro A pI s Y H xs us Q I r ⟨hA,ds,rs,p⟩
  match ds,rs,p with
  |[.lst es],rs,p=>
    obtain⟨v,rfl,rv⟩:=rs.one;obtain⟨q,ys,e,_,sq,ry⟩:=rv.plain;subst e;obtain⟨u,rfl,ru⟩:=KJ r;cases ru;rw[wZ]at p;cases e1:Ho es with
    |bad=>rw[e1]at p;exact p.elim
    |exn x=>
      exfalso
      have:∀(es:Ac D) x,Ho es≠.exn x:=by
        intro es
        induction es with
        |nil=>intro x h;cases h
        |cons d ds ih=>
          intro x h;rw[Sw]at h;cases e:IU d with
          |bad=>rw[e]at h;cases h
          |exn y=>cases d<;>cases e
          |ok c=>
            rw[e,R.bind_ok]at h;cases e2:Ho ds with
            |bad=>rw[e2]at h;cases h
            |exn y=>exact ih y e2
            |ok c2=>rw[e2]at h;cases h
      exact this es x e1
    |ok b=>
      rw[e1,R.bind_ok]at p;obtain⟨h1,h2⟩:=Sh e1;obtain⟨its,rvv,pl,_⟩:=I.list sq;have yn:q<s.heap.objs.size:=by obtain⟨o,n,e,_⟩:=pl;exact AS e
      have hl:its.toArray.size=es.length:=by rw[AX,<-rvv.length,ry.length]
      refine call_all_walk (HU (Ma pl) ⟨s.heap.objs.size,_,_,_,_,_,(λj=>match IU (es.getD j .non) with | .ok c=>c|_=>Af),rfl,Walks.list (A:=X.A.in1) (I.ok.hd hc) s.heap.objs.size q (BB yn) its.toArray,⟨⟨_,Bp _ rfl,rfl,rfl⟩,(Ma pl).push _⟩,λj v s' Q' E' hv hQ=>?_,λh' tk k=>?_⟩)
      · obtain⟨hj,x,rx,qx⟩:=mZ ry rvv hv;obtain⟨c,ec⟩:=h1 j hj;exact gW rx qx ec (by dsimp only at hQ;rw[ec]at hQ;exact hQ)
      · rw[hl,<-h2];exact⟨.bl b,H,I.kept (vX k),rfl,p _ H (Az.refl H) rfl⟩
  |[],_,p=>exact p.elim
  |[.non],_,p=>exact p.elim
  |[.bl _],_,p=>exact p.elim
  |[.int _],_,p=>exact p.elim
  |[.str _],_,p=>exact p.elim
  |[.tup _],_,p=>exact p.elim
  |[.obj _ _],_,p=>exact p.elim
  |[.exc _ _],_,p=>exact p.elim
  |[.dic _],_,p=>exact p.elim
  |x::_::_,_,p=>cases x<;>exact p.elim
end
section
variable(K:Fg)(CL:ClA)
def xD(H0:Hp)(A:Ak->Prop)(H:Hp)(v:V)(d:D):Prop:=∀ ds,d=.lst ds->∃ a xs,v=.ref a/\H0 a=Ae/\H a=Aa (.lst xs)/\Z9 K CL H (λb=>A b\/b=a) xs ds
def Cw(fr:An)(H0:Hp)(A:Ak->Prop)(H:Hp)(v:V)(d:D):Prop:=Z7 K CL H A v d/\(fr=Ab->xD K CL H0 A H v d)
end
section
variable{X:Cx}{CL:ClA}{W:XW}{a b c:Aq}{fa fb fc:Rho->R D}{pos:AF}
def SC(X:Cx)(CL:ClA)(W:XW)(fr:An)(e:Aq)(f:Rho->R D):Prop:=∀ A,PE X e (λY H Q=>Tm H A/\∃ U,Y9 X.K CL A U Y H/\AW (Cw X.K CL fr H A) W H (f U) Q)
theorem SC.se{fr:An}(h:SC X CL W fr a fa):SE X CL W a fa:=λA=>PE.weak (h A) λY H Q ⟨hA,U,g,p⟩=>⟨hA,U,g,by
 cases e:fa U with
 |ok d=>rw[e]at p;exact λv H' s r=>p v H' s r.1
 |exn x=>rw[e]at p;exact p
 | bad=>rw[e]at p;exact p⟩
theorem SE.sc(h:SE X CL W a fa):SC X CL W Af a fa:=λA=>PE.weak (h A) λY H Q ⟨hA,U,g,p⟩=>⟨hA,U,g,by
 cases e:fa U with
 |ok d=>rw[e]at p;exact λv H' s r=>p v H' s ⟨r,λz=>nomatch z⟩
 |exn x=>rw[e]at p;exact p
 | bad=>rw[e]at p;exact p⟩
theorem SC.congr{fr:An}{f g:Rho->R D}(h:SC X CL W fr a f)(e:∀ U,g U=f U):SC X CL W fr a g:=λA=>PE.weak (h A) λY H Q ⟨hA,U,q,p⟩=>⟨hA,U,q,by rw[<-e];exact p⟩
theorem K4{ds:Ac D}(s:Az H0 H)(hA:Tm H A)(hp:H p=Ae)(r:Z9 K CL H A xs ds):Cw K CL Ab H0 A (upd H p (.lst xs)) (.ref p) (.lst ds):=
 ⟨UF hA hp r,λ_ vb e=>by
  cases e;exact⟨p,xs,rfl,s.free hp,BO,(Z9.wide (λa ha=>ha.imp id λe=>by rw[e];exact hp) _ r).same (ES hp _)⟩⟩
theorem Qk{fr:An}(r:Z7 K CL H A v d)(h:∀ ds,d≠.lst ds):Cw K CL fr H0 A H v d:=⟨r,λ_ ds e=>absurd e (h ds)⟩
theorem QJ(hs:SA X CL W es fs)(hz:∀ U ds,fs U=.ok ds->ds.length<=100000):SC X CL W Ab (.List es pos) (λU=>(fs U).bind λxs=>.ok (.lst xs)):=
 λA=>PE.weak (L6 (hs A)) λY H Q ⟨hA,U,g,p⟩=>⟨hA,U,g,Ip.bind p λds vs H1 e s1 r1 p1=>⟨by
  rw[r1.length,Bz];have:=hz U ds e;omega,λq hq=>p1 _ _ (ES hq _) (K4 s1 (hA.same s1) hq r1)⟩⟩
theorem AW.bindF{fr:An}{f:D->R D}{Q':VK}(h:AW (Cw K CL fr H A) W H (r.bind f) Q)(k:∀ d v H',r=.ok d->Az H H'->Rp H' v d->AW (Cw K CL fr H A) W H' (f d) Q->Q' v H'):AW Rp W H r Q':=by
 cases r with
 |ok d=>exact λv H2 s2 q=>k d v H2 rfl s2 q (AW.same s2 h)
 |exn x=>exact h
 |bad=>exact h
theorem Ip.bindF{Rp:Hp->Ac V->Ac D->Prop}{r:R (Ac D)}{f:Ac D->R D}{Q':Ac V->Hp->Prop}(h:AW Rq W H (r.bind f) Q)(k:∀ d v H',r=.ok d->Az H H'->Rp H' v d->AW Rq W H' (f d) Q->Q' v H'):Ip Rp W H r Q':=by
 cases r with
 |ok d=>exact λv H2 s2 q=>k d v H2 rfl s2 q (AW.same s2 h)
 |exn x=>exact h
 |bad=>exact h
theorem Lp.bindF{r:R (Ao Ai)}{f:Ao Ai->R D}(h:AW Rq W H (r.bind f) Q)(k:∀ o H',r=.ok o->Az H H'->AW Rq W H' (f o) Q->Q' o H'):Lp W H r Q':=by
 cases r with
 |ok d=>exact λH2 s2=>k d H2 rfl s2 (AW.same s2 h)
 |exn x=>exact h
 |bad=>exact h
def Wx:V->Ao Ai->Ao Ai->Hp->VK->Prop:=λx l h H Q=>∃ z,x=.str z/\(JN z l h).length<=sizeLine/\Q (.str (JN z l h)) H
theorem Uy{v:Al}{o:Ao Ai}(h:Hx v o):∃ p:Ao (Ai×Ce),v=partValue p/\p.map (·.1)=o:=by
 cases h with
 |none=>exact⟨Ae,rfl,rfl⟩
 |int i t=>exact⟨Aa (i,t),rfl,rfl⟩
theorem pH:qf X Wx:=by
 intro pI s Y H x v vl vu lo hi sl Q I rx hs pl pu h;obtain⟨z,rfl,hz,q⟩:=h;obtain⟨t,rfl⟩:=rx;obtain⟨l,rfl,el⟩:=Uy pl;obtain⟨u,rfl,eu⟩:=Uy pu;refine⟨"str",_,PySem.F.slot_str_getitem.lookup,FQ _ _ _,?_⟩;refine wpAny_getItem_str_slice (l:=l) (u:=u) (st:=Ae) hs rfl ?_;subst el eu;unfold sliceMade slicePicked;unfold JN at hz q;by_cases c:((EJ (l.map (·.1)) (u.map (·.1)) 1 z.length).length==z.length)=Ab
 .rw[Au c]at q;rw[Au (by rw[Am];exact⟨rfl,c⟩)]
  exact⟨.str z,H,I,⟨t,rfl⟩,q⟩
 .rw[Ay c]at q hz;rw[Ay (by rw[Am];exact λh=>c h.2)]
  exact⟨hz,.str _,H,I.tok _,⟨_,rfl⟩,q⟩
theorem tI{lo hi:Ao Aq}{fl fh:Rho->R (Ao Ai)}(ha:ST X CL W a fa)(hl:SO X CL W lo fl)(hh:SO X CL W hi fh):SC X CL W Ab (.Subscript a (.Slice lo hi Ae p2) pos) (λU=>(fa U).bind λx=>(fl U).bind λl=>(fh U).bind λh=>ä x l h):=
 λA=>PE.weak (eS (r:=λx l h H Q=>Wy X.K x l h H Q\/(Ww X.K x l h H Q\/Wx x l h H Q)) (qf.or jE (qf.or pG pH)) (ha A) (hl A) (hh A)) λY H Q ⟨hA,U,g,p⟩=>⟨hA,U,g,AW.bindF p λdx x H1 _ s1 r1 p1=>⟨hA.same s1,U,g.same s1,Lp.bindF p1 λl H2 _ s2 p2=>⟨(hA.same s1).same s2,U,(g.same s1).same s2,Lp.bindF p2 λh H3 _ s3 p3=>by
  cases dx with
  |lst ds=>
   obtain⟨q,xs,rfl,sq,r⟩:=((r1.same s2).same s3).lst_of;exact .inl ⟨q,xs,rfl,sq,λt ht=>p3 _ _ (ES ht _) (K4 ((s1.trans s2).trans s3) (((hA.same s1).same s2).same s3) ht (U_1 l h r))⟩
  |tup ds=>
   obtain⟨q,xs,rfl,_,sq,r⟩:=((r1.same s2).same s3).tup_of;rw[yV]at p3;split at p3
   .exact p3.elim
   .rename_i hw;refine .inr (.inl ⟨q,xs,rfl,sq,?_,λt ht=>p3 _ _ (ES ht _) (Qk (N4 (((hA.same s1).same s2).same s3) ht (U_1 l h r)) (by intro _ z;cases z))⟩)
    rintro⟨h1,h2⟩;refine hw ?_;have e:∀ d o,HT.sIx xs.length d o=IX ds.length d o:=λd o=>by rw[r.length];cases o<;>rfl
    rw[e]at h1 h2;rw[r.length]at h2;simp[h1,h2]
  |str z=>
   have e:=((r1.same s2).same s3).str_of;subst e;have p4:AW (Cw X.K CL Ab H A) W H3 (if (Db z.length&&Db (JN z l h).length)=Ab then .ok (.str (JN z l h)) else .bad) Q:=p3
   split at p4
   .rename_i hk;rw[Am]at hk;exact .inr (.inr ⟨z,rfl,SG hk.2,p4 _ H3 (Az.refl H3) (Qk rfl (by intro _ z;cases z))⟩)
   .exact p4.elim
  | _=>exact p3.elim⟩⟩⟩
noncomputable def OpN(X:Cx)(CL:ClA)(W:XW)(f:Al->Al->Fe Al)(g:D->D->R D):Prop:=
 ∀ A H0,zd X f (λx y H Q=>Az H0 H/\Tm H A/\∃ dx dy,Cv X.K CL H A x dx/\Cv X.K CL H A y dy/\AW (Cw X.K CL Ab H0 A) W H (g dx dy) Q)
theorem gZ:OpN X CL W (Cf .Add) (Dm .Add):=by
 intro A H0 pI s Y H x y v u Q I rx ry ⟨s0,hA,dx,dy,hx,hy,p⟩;have key:(∀ ds,dx≠.lst ds)->EP X pI Y Q=EP X pI Y Q->AA (model X.prog X.w) X.A (Cf .Add v u) (EP X pI Y Q) X.xe s:=λhd _=>by
  refine Uz (W:=W) A pI s Y H x y v u Q I rx ry ⟨hA,dx,dy,hx,hy,?_⟩;cases e:Dm .Add dx dy with
  |bad=>rw[e]at p;exact p
  |exn x=>rw[e]at p;exact p
  |ok d=>
   rw[e]at p;refine λv' H' s' r'=>p v' H' s' (Qk r' λds z=>?_)
   subst z;cases dx with
   |lst ds=>exact hd _ rfl
   |tup xs=>
    cases dy with
    |tup ys=>rw[Vv]at e;split at e<;>cases e
    |_=>cases e
   |str xs=>
    cases dy with
    |str ys=>rw[La]at e;split at e<;>cases e
    |_=>cases e
   |int i=>cases dy<;>cases e
   |_=>cases e
 cases dx with
 |lst ds=>
  cases dy with
  |lst es=>
   obtain⟨a,xs,rfl,s1,r1⟩:=hx.lst_of;obtain⟨b,ys,rfl,s2,r2⟩:=hy.lst_of;simp only[Vw]at p;split at p
   .rename_i h;refine UA pI s Y H _ _ v u Q I rx ry ⟨a,b,xs,ys,rfl,rfl,s1,s2,by rw[r1.length,r2.length];exact K8 h,λq hq=>?_⟩
    exact p _ _ (ES hq _) (K4 s0 hA hq (r1.append r2))
   .exact p.elim
  |_=>exact p.elim
 |_=>exact key (by intro _ z;cases z) rfl
theorem pF(ha:ST X CL W a fa)(hb:ST X CL W b fb):SC X CL W Ab (.BinOp a .Add b pos) (λU=>(fa U).bind λx=>(fb U).bind λy=>Dm .Add x y):=
 λA pI s Y H Q I h=>by
  obtain⟨hA,U,g,p⟩:=h;exact V1 (gZ (W:=W) A H) (ha A) (hb A) pI s Y H Q I ⟨hA,U,g,AW.bindF p λdx x H1 _ s1 r1 p1=>⟨hA.same s1,U,g.same s1,AW.bind (Rq:=Cw X.K CL Ab H A) p1 λdy y H2 _ s2 r2 p2=>⟨s1.trans s2,(hA.same s1).same s2,dx,dy,r1.same s2,r2,p2⟩⟩⟩
def Wr(X:Cx)(CL:ClA)(W:XW)(f:Al)(g:Ac D->R D):Prop:=∀ A H0,Gs X f (λxs H Q=>Az H0 H/\Tm H A/\∃ ds,Gr X.K CL H A xs ds/\AW (Cw X.K CL Ab H0 A) W H (g ds) Q)
theorem jW:Wr X CL W (.type "list") (zr .list):=by
  intro A H0 pI s Y H xs us Q I r ⟨s0,hA,ds,rs,p⟩
  match ds,rs,p with
  |[.lst es],rs,p=>
    obtain⟨v,rfl,rv⟩:=rs.one;obtain⟨q,ys,rfl,sq,ry⟩:=rv.lst_of;exact Sr pI s Y H _ us Q I r ⟨q,ys,rfl,.inl sq,λl hl=>p _ _ (ES hl _) (K4 s0 hA hl ry)⟩
  |[.tup es],rs,p=>
    obtain⟨v,rfl,rv⟩:=rs.one;obtain⟨q,ys,rfl,_,sq,ry⟩:=rv.tup_of;exact Sr pI s Y H _ us Q I r ⟨q,ys,rfl,.inr sq,λl hl=>p _ _ (ES hl _) (K4 s0 hA hl ry)⟩
  |[],_,p=>exact p.elim
  |[.non],_,p=>exact p.elim
  |[.bl _],_,p=>exact p.elim
  |[.int _],_,p=>exact p.elim
  |[.str _],_,p=>exact p.elim
  |[.obj _ _],_,p=>exact p.elim
  |[.exc _ _],_,p=>exact p.elim
  |[.dic _],_,p=>exact p.elim
  |x::_::_,_,p=>cases x<;>exact p.elim
theorem pE{p:AF}{g:Ac D->R D}(hc:Wr X CL W (.type T) g)(hg:Gl X x)(hm:X.mg x=Ae)(hv:De x=Aa (.type T))(ha:uu X CL W (e::es) fs)(hn:x≠"__name__")(zS:(x==("__debug__" : Ah))=Af)(he:Aw (e::es) X.env=(Af,eval e X.env)::Aw es X.env)(zR:∀ pos,(Br pos (Aw es X.env)).any (·.1)=Af):SC X CL W Ab (.Call (.Name x p) (e::es) [] pos) (λU=>(fs U).bind g):=λA pI s Y H Q I ⟨hA,U,gd,q⟩=>
 PH (hc A H) hg hm hv (ha A) hn zS he (zR _) pI s Y H Q I ⟨hA,U,gd,Ip.bindF q λds vs H1 _ s1 r1 p1=>⟨s1,hA.same s1,ds,r1,p1⟩⟩
mutual
theorem Rt{K:Fg}{H:Hp}{A:Ak->Prop}(hA:Tm H A):∀(n:Ag)(d:D){v:V},xq n d=Ab->Z7 K CL H A0 v d->Z7 K CL H A v d
 |_,.non,_,_,h=>h
 |_,.bl _,_,_,h=>h
 |_,.int _,_,_,h=>h
 |_,.str _,_,_,h=>h
 |0,.tup _,_,hn,_=>by cases hn
 |n+1,.tup ds,_,hn,h=>by
  obtain⟨a,xs,e,_,s,r⟩:=h;refine⟨a,xs,e,?_,s,vx hA n ds hn r⟩;rcases s with s|s
  .refine .inl λz=>?_
   obtain⟨ys,q,w⟩:=hA a z;rcases s with s|⟨o,s⟩<;>rw[q]at s<;>cases s<;>exact w
  .exact .inr s
 |n,.lst _,_,hn,_=>by cases n<;>cases hn
 |n,.obj _ _,_,hn,_=>by cases n<;>cases hn
 |n,.exc _ _,_,hn,_=>by cases n<;>cases hn
 |n,.dic _,_,hn,_=>by cases n<;>cases hn
theorem vx{K:Fg}{H:Hp}{A:Ak->Prop}(hA:Tm H A):∀(n:Ag)(ds:Ac D){vs:Ac V},ds.all (xq n)=Ab->Z9 K CL H A0 vs ds->Z9 K CL H A vs ds
 |_,[],[],_,h=>h
 |n,d::ds,_::_,hn,h=>by
  simp only[E3,Am]at hn;exact⟨Rt hA n d hn.1 h.1,vx hA n ds hn.2 h.2⟩
 |_,[],_::_,_,h=>h.elim
 |_,_::_,[],_,h=>h.elim
end
theorem VR{fr:An}(hA0:Tm H0 A)(s:Az H0 H)(hc:JG fr d=Ab)(r:Cw K CL fr H0 A0 H v d):Cw K CL fr H0 A H v d:=by
 have hA:=hA0.same s;cases d with
 |lst ds=>
  have qg:(fr&&ds.all (xq 5))=Ab:=hc;rw[Am]at qg;obtain⟨a,xs,e,h0,h1,rs⟩:=r.2 qg.1 ds rfl;have aj:Tm H (λb=>A b\/b=a):=λb hb=>hb.elim (hA b) λe=>by rw[e];exact⟨_,h1,trivial⟩
  have w5:=vx aj 5 ds qg.2 (Z9.sub (λ_ z=>z.elim) _ rs)
  refine⟨⟨a,xs,e,.inl (hA0.new h0),Id.of h1,Z9.sub (λ_ z=>.inl z) _ w5⟩,λ_ vb e'=>?_⟩
  cases e';exact⟨a,xs,e,h0,h1,w5⟩
 |_=>exact⟨Rt hA 5 _ hc r.1,λ_ _ z=>nomatch z⟩
def spD(K:Fg)(CL:ClA)(n:Ag)(fr:An)(F:Ac D->R D):Sp:=λvs H Q E=>∃(ds:Ac D)(A:Ak->Prop),vs.length=n/\Tm H A/\Z9 K CL H A vs ds/\(match F ds with
  |.ok d=>∀ v H',Az H H'->Cw K CL fr H A H' v d->Q v H'
  |.exn x=>∀ cls dx H',Az H H'->Dy K CL H' cls dx x->E cls dx H'
  | .bad=>AM)
def EKW(K:Fg)(CL:ClA)(A:Ak->Prop)(W:XW):XK:=λcls dx H'=>∃ x,Dy K CL H' cls dx x/\W x H'
theorem Gr.plain{K:Fg}{H:Hp}{A:Ak->Prop}:∀{vs:Ac V}{ds:Ac D},Gr K CL H A vs ds->Z9 K CL H A0 vs ds
 |[],[],h=>trivial
 |_::_,_::_,h=>⟨h.1.plain,Gr.plain h.2⟩
 |[],_::_,h=>h.elim
 |_::_,[],h=>h.elim
theorem jL{CX:CXT}{k:Ag}{fr:An}{f:Ak}{fd:Bi}{ps:Ac Ah}{F:Ac D->R D}{p:AF}{ft:Rho->R (Ac D)}{sh:Rho->An}(G:Y4 X.prog X.w X.K X.mg X.base CX k f fd ps (spD X.K CL n fr F))(hr:U5 k X.A)(hg:Gl X x)(hm:X.mg x=Aa (.ref f))(hk:Ba X.K (.ref f)=Ab)(hb:CV X.K fd ps [])(hx:∀ A,HI CX X (EKW X.K CL A W))(ha:SA X CL W (e::es) fs)(hat:uu X CL W (e::es) ft)(yu:∀ U,sh U=Ab->ft U=fs U)(hn:∀ U ds,ft U=.ok ds->ds.length=n)(zS:(x==("__debug__" : Ah))=Af)(he:Aw (e::es) X.env=(Af,eval e X.env)::Aw es X.env)(zR:∀ pos,(Br pos (Aw es X.env)).any (·.1)=Af):SC X CL W fr (.Call (.Name x p) (e::es) [] pos) (λU=>(ft U).bind λds=>(F ds).bind λd=>if sh U=Ab then .ok d else if JG fr d=Ab then .ok d else .bad):=λA pI s Y H Q I ⟨hA,U,gd,q⟩=>by
 dsimp only at q;by_cases hs:sh U=Ab
 .rw[yu U hs]at q;refine Kd G hr hg hm hk hb .nil (hx A) (ha A) zS he (zR _) pI s Y H Q I ⟨hA,U,gd,?_⟩;cases e1:fs U with
  |bad=>rw[e1]at q;exact q
  |exn y=>rw[e1]at q;exact q
  |ok ds=>
   rw[e1]at q;intro vs H1 s1 r1;refine⟨ds,A,by rw[BA,r1.length];exact hn U ds (by rw[yu U hs];exact e1),hA.same s1,by rw[BA];exact r1,?_⟩
   have q':AW (Cw X.K CL fr H A) W H ((F ds).bind λd=>if sh U=Ab then .ok d else if JG fr d=Ab then .ok d else .bad) Q:=q
   cases e2:F ds with
   |ok d=>
    rw[e2,R.bind_ok,Au hs]at q';exact λv H2 s2 r2=>q' v H2 (s1.trans s2) ⟨r2.1,λz vb e'=>let ⟨a,xs,z1,z2,z3⟩:=r2.2 z vb e';⟨a,xs,z1,s1.free z2,z3⟩⟩
   |exn y=>rw[e2]at q';exact λcls dx H2 s2 xr=>⟨y,xr,q' H2 (s1.trans s2)⟩
   |bad=>rw[e2]at q';exact q'.elim
 .refine Kd G hr hg hm hk hb .nil (hx A0) (hat A) zS he (zR _) pI s Y H Q I ⟨hA,U,gd,?_⟩;cases e1:ft U with
  |bad=>rw[e1]at q;exact q
  |exn y=>rw[e1]at q;exact q
  |ok ds=>
   rw[e1]at q;intro vs H1 s1 r1;refine⟨ds,A0,by rw[BA,r1.plain.length];exact hn U ds e1,λ_ z=>z.elim,by rw[BA];exact r1.plain,?_⟩
   have q':AW (Cw X.K CL fr H A) W H ((F ds).bind λd=>if sh U=Ab then .ok d else if JG fr d=Ab then .ok d else .bad) Q:=q
   cases e2:F ds with
   |ok d=>
    rw[e2,R.bind_ok,Ay hs]at q';split at q'
    .rename_i hc;exact λv H2 s2 r2=>q' v H2 (s1.trans s2) (VR hA (s1.trans s2) hc ⟨r2.1,λz vb e'=>let ⟨a,xs,z1,z2,z3⟩:=r2.2 z vb e';⟨a,xs,z1,s1.free z2,z3⟩⟩)
    .exact q'.elim
   |exn y=>rw[e2]at q';exact λcls dx H2 s2 xr=>⟨y,xr,q' H2 (s1.trans s2)⟩
   |bad=>rw[e2]at q';exact q'.elim
end
theorem PU(env:B5):∀(ns:Ac (Ah×D7))(zU:Ac (Ah×Ak)),(∀ x∈ns,x.2=.free->∃ c,env.cells.lookup x.1=Aa c)->(∀ x c,zU.lookup x=Aa c->env.cells.lookup x=Aa c) ->
  ∃ cl,(forIn ns zU fun(x:Ah×D7)(cs:Ac (Ah×Ak))=>(if (x.2==.free)=Ab then do let c <-cellOf env x.1;pure (Eg ((x.1,c)::cs)) else pure (Eg cs):Fe (ForInStep (Ac (Ah×Ak)))))=pure cl /\
   (∀ x c,cl.lookup x=Aa c->env.cells.lookup x=Aa c)/\(∀ x,((x,DR)∈ns\/∃ c,zU.lookup x=Aa c)->∃ c,cl.lookup x=Aa c)
 |[],zU,_,h2=>⟨zU,by rw[XU],h2,λx hx=>hx.elim (λz=>nomatch z) id⟩
 |(n,k)::r,zU,h1,h2=>by
  rw[List.forIn_cons];by_cases hk:k=.free
  .subst hk;obtain⟨c,hc⟩:=h1 (n,.free) AY rfl;obtain⟨cl,e,p,q⟩:=PU env r ((n,c)::zU) (λx hx=>h1 x (AE _ hx)) (λx d hd=>by
    rw[Cr]at hd;split at hd
    .rename_i hx;cases hd;rw[eq_of_beq hx];exact hc
    .exact h2 x d hd)
   refine⟨cl,?_,p,λx hx=>q x ?_⟩
   .have e1:cellOf env n=pure c:=by unfold cellOf;dsimp only at hc;rw[hc]
    rw[Au (by rfl),e1]
    exact e
   .rcases hx with hx|⟨d,hd⟩
    .rcases A6.mp hx with z|z
     .cases z;exact .inr ⟨c,by simp[Cr]⟩
     .exact .inl z
    .by_cases qh:x=n
     .exact .inr ⟨c,by subst qh;simp[Cr]⟩
     .exact .inr ⟨d,by rw[Cr];rw[Bg.mpr qh];exact hd⟩
  .obtain⟨cl,e,p,q⟩:=PU env r zU (λx hx=>h1 x (AE _ hx)) h2
   refine⟨cl,?_,p,λx hx=>q x ?_⟩
   .rw[Ay (by simpa using hk)]
    exact e
   .rcases hx with hx|hx
    .rcases A6.mp hx with z|z
     .cases z;exact absurd rfl hk
     .exact .inl z
    .exact .inr hx
theorem SX(h:∀ x∈scope.names,x.2=.free->∃ c,env.cells.lookup x.1=Aa c):∃ cl,closureFor scope env=pure cl/\(∀ x c,cl.lookup x=Aa c->env.cells.lookup x=Aa c)/\∀ x,(x,DR)∈scope.names->∃ c,cl.lookup x=Aa c:=by
 obtain⟨cl,e,p,q⟩:=PU env scope.names [] h (λx c z=>by simp at z)
 refine⟨cl,?_,p,λx hx=>q x (.inl hx)⟩
 unfold closureFor
 first
  |exact e
  |(simp only[bind_pure];exact e)
  |(rw[show (forIn scope.names ([]:Ac (Ah×Ak)) _:Fe _)=pure cl from e];rfl)
theorem Py:∀(names:Ac (Ah×D7))(h:AJ)(zU:Ac (Ah×Ak))(x:Ah)(c:Ak),(CO h.objs.size names zU).lookup x=Aa c->zU.lookup x=Aa c\/((x,B0)∈names/\h.objs.size<=c/\(Hz h names).IsCell c Ae)
 |[],_,_,_,_,e=>.inl e
 |(n,k)::r,h,zU,x,c,e=>by
  unfold CO at e;unfold Hz;by_cases hk:(k==B0)=Ab
  .rw[Au hk]at e ⊢;have hs:h.objs.size+1=(h.push { cls:=.type "cell",data:=.cell Ae }).objs.size:=(D1 ..).symm;rw[hs]at e;rcases Py r _ _ x c e with q|⟨q1,q2,q3⟩
   .rw[Cr]at q;cases hx:x==n with
    |true=>
     rw[hx]at q;cases q;refine .inr ⟨?_,AU _,?_⟩
     .rw[eq_of_beq hx,eq_of_beq hk];exact AY
     .exact⟨_,ID r _ _ _ (Bp _ rfl),rfl⟩
    |false=>rw[hx]at q;exact .inl q
   .exact .inr ⟨AE _ q1,by omega,q3⟩
  .rw[Ay hk]at e ⊢;rcases Py r h zU x c e with q|⟨q1,q2,q3⟩
   .exact .inl q
   .exact .inr ⟨AE _ q1,q2,q3⟩
theorem Pz:∀(names:Ac (Ah×D7))(h:AJ)(zU:Ac (Ah×Ak)),(∀ x y c,zU.lookup x=Aa c->zU.lookup y=Aa c->x=y)->(∀ x c,zU.lookup x=Aa c->c<h.objs.size)->∀ x y c,(CO h.objs.size names zU).lookup x=Aa c->(CO h.objs.size names zU).lookup y=Aa c->x=y
 |[],_,_,i,_,x,y,c,e1,e2=>i x y c e1 e2
 |(n,k)::r,h,zU,i,b,x,y,c,e1,e2=>by
  unfold CO at e1 e2;by_cases hk:(k==B0)=Ab
  .rw[Au hk]at e1 e2;have hs:h.objs.size+1=(h.push { cls:=.type "cell",data:=.cell Ae }).objs.size:=(D1 ..).symm;rw[hs]at e1 e2;have look:∀ z d,BZ z ((n,h.objs.size)::zU)=Aa d->(z=n/\d=h.objs.size)\/(z≠n/\zU.lookup z=Aa d):=λz d q=>by
    rw[Cr]at q;cases hx:z==n with
    |true=>rw[hx]at q;cases q;exact .inl ⟨eq_of_beq hx,rfl⟩
    |false=>rw[hx]at q;exact .inr ⟨λe=>by rw[e]at hx;simp at hx,q⟩
   refine Pz r _ _ (λz z' d q q'=>?_) (λz d q=>?_) x y c e1 e2
   .rcases look z d q with ⟨rfl,q1⟩|⟨_,q1⟩<;>rcases look z' d q' with ⟨rfl,q2⟩|⟨_,q2⟩
    .rfl
    .exact absurd (b _ _ q2) (by rw[q1];exact BG _)
    .exact absurd (b _ _ q1) (by rw[q2];exact BG _)
    .exact i _ _ _ q1 q2
   .rw[<-hs];rcases look z d q with ⟨_,q1⟩|⟨_,q1⟩
    .rw[q1];exact Gj _
    .exact HQ (b _ _ q1)
  .rw[Ay hk]at e1 e2;exact Pz r h zU i b x y c e1 e2
theorem PV:∀(names:Ac (Ah×D7))(n:Ag)(zU:Ac (Ah×Ak))(x:Ah),(x,B0)∉names->(CO n names zU).lookup x=zU.lookup x
 |[],_,_,_,_=>rfl
 |(m,k)::r,n,zU,x,hx=>by
  unfold CO;have hr:(x,B0)∉r:=λz=>hx (AE _ z)
  by_cases hk:(k==B0)=Ab
  .rw[Au hk,PV r _ _ x hr,Cr];cases q:x==m with
   |true=>exact absurd (by rw[eq_of_beq q,eq_of_beq hk];exact AY) hx
   |false=>rfl
  .rw[Ay hk];exact PV r n zU x hr
theorem PB(n0:Ag):∀(names:Ac (Ah×D7))(n:Ag)(zU:Ac (Ah×Ak))(x:Ah),n0<=n->((x,B0)∈names\/∃ c,zU.lookup x=Aa c/\n0<=c)->∃ c,(CO n names zU).lookup x=Aa c/\n0<=c
 |[],_,_,_,_,h=>h.elim (λz=>nomatch z) id
 |(m,k)::r,n,zU,x,hn,h=>by
  unfold CO;by_cases hk:(k==B0)=Ab
  .rw[Au hk];refine PB n0 r _ _ x (by omega) ?_
   by_cases hx:(x==m)=Ab
   .exact .inr ⟨n,by rw[Cr,hx],hn⟩
   .rcases h with h|⟨c,h,hc⟩
    .rcases A6.mp h with z|z
     .cases z;simp at hx
     .exact .inl z
    .exact .inr ⟨c,by rw[Cr];simp only[hx];exact h,hc⟩
  .rw[Ay hk];refine PB n0 r _ _ x hn (h.imp (λh=>?_) id)
   rcases A6.mp h with z|z
   .cases z;simp at hk
   .exact z
theorem aA{M:Ht}{A:A4}{E:Vq}{globals:Ak}{qual:Ah}{Q:B5->Ar->Prop}(hQ:Q (newEnv scope s.heap.objs.size globals (CO (s.heap.objs.size+1) scope.names cl) qual Ae .none (Aa env) Jo) { s with heap:=Hz (s.heap.push { cls:=.type "dict",data:=.dict #[] }) scope.names }):AA M A (Jh scope globals cl [] qual Ae .none (Aa env)) Q E s:=by
 simp only[Jh,Option.isSome_some,EH];refine As (wpAny_alloc ?_);refine As (wpAny_layCells _ (λname kind cells=>by cases hkc:kind==B0<;>simp[hkc]) _ _ _ _ ?_)
 rw[show ({ s with heap:=s.heap.push { cls:=.type "dict",data:=.dict #[] } }:Ar).heap.objs.size=s.heap.objs.size+1 from D1 ..]
 rw[XU];exact As (A2 (A2 hQ))
noncomputable def zc(X:Cx)(scope:Cb)(cl:Ac (Ah×Ak))(C:Ak)(N':Ac Ah)(s₀:Ar)(H₀:Hp)(fp:Ac Ak):Cx where
 prog:=X.prog
 w:=X.w
 K:=X.K
 mg:=X.mg
 base:=X.base
 A:=X.A
 N:=N'
 s₀:=s₀
 H₀:=H₀
 env:=compEnvC scope cl C X.env
 outer:=X.stack
 stack:=X.stack
 ex:=fp
 fn:=λx=>scope.names.lookup x==Aa B0
 calm:=X.calm
 pn:=[]
 xe:=λ_ _=>AM
theorem NJ{env:B5}:∀{names:Ac (Ah×D7)}{x:Ah}{k:D7},(names.map λ(n,k)=>if (k==DR&&env.scope.kind==.function&&env.kindOf n==Aa .cell) then (n,B0) else (n,k)).lookup x=Aa k->names.lookup x=Aa k\/(k=.cell/\names.lookup x=Aa .free)
 |[],_,_,h=>by simp at h
 |(n,j)::r,x,k,h=>by
  have ih:=@NJ env r x k;have h':BZ x ((if (j==DR&&env.scope.kind==.function&&env.kindOf n==Aa .cell)=Ab then (n,B0) else (n,j))::(r.map λ(n,k)=>if (k==DR&&env.scope.kind==.function&&env.kindOf n==Aa .cell) then (n,B0) else (n,k)))=Aa k:=h
  by_cases hc:(j==DR&&env.scope.kind==.function&&env.kindOf n==Aa .cell)=Ab
  .rw[Au hc]at h';rw[Cr]at h' ⊢;cases hx:x==n with
   |true=>
    rw[hx]at h';cases h';simp only[Am]at hc;exact .inr ⟨rfl,by rw[eq_of_beq hc.1.1]⟩
   |false=>rw[hx]at h';exact ih h'
  .rw[Ay hc]at h';rw[Cr]at h' ⊢;cases hx:x==n with
   |true=>rw[hx]at h';exact .inl h'
   |false=>rw[hx]at h';exact ih h'
structure zx (X:Cx) (scope:Cb) (N':Ac Ah) (ts:Ac Ag):Prop where
 kind:scope.kind=.function
 uniq:∀ y∈scope.names,scope.names.lookup y.1=Aa y.2
 names:∀ y∈scope.names,y.2=.local->scope.names.lookup y.1=Aa .local
 free:∀ y∈scope.names,y.2=.free->X.env.scope.names.lookup y.1=Aa .cell\/X.env.scope.names.lookup y.1=Aa .free
 len:N'.length=X.N.length
 same:∀ i x,N'[i]?=Aa x->scope.names.lookup x=Aa .free->i∉ts->X.N[i]?=Aa x
 loc:∀ i x,N'[i]?=Aa x->(scope.names.lookup x=Aa .local\/scope.names.lookup x=Aa .cell)->i∈ts
structure qo (X:Cx) (scope:Cb) (cl:Ac (Ah×Ak)) (C:Ak) (h:AJ):Prop where
 own:∀ x c,cl.lookup x=Aa c->X.env.cells.lookup x=Aa c\/(scope.names.lookup x=Aa .cell/\C<c/\h.IsCell c Ae)
 inj:∀ x y c,cl.lookup x=Aa c->cl.lookup y=Aa c->x=y
 has:∀ x,scope.names.lookup x=Aa .cell->∃ c,cl.lookup x=Aa c/\C<c
 fr:∀ x,(x,DR)∈scope.names->∃ c,cl.lookup x=Aa c/\X.env.cells.lookup x=Aa c
section
variable{X:Cx}{pI:Pn}{Y:L2.St}{H:Hp}{s:Ar}
noncomputable def hideT(ts:Ac Ag)(Y:L2.St):L2.St:=ts.foldl (λY t=>Y.set t Ae) Y
theorem PL:∀(ts:Ac Ag)(Y:L2.St),(hideT ts Y).length=Y.length
 |[],_=>rfl
 |t::ts,Y=>by show (hideT ts (Y.set t Ae)).length=_;rw[PL ts,AT]
theorem S4:∀(ts:Ac Ag)(Y:L2.St){i:Ag}{v:V},(hideT ts Y)[i]?=Aa (Aa v)->Y[i]?=Aa (Aa v)/\i∉ts
 |[],_,_,_,h=>⟨h,by simp⟩
 |t::ts,Y,i,v,h=>by
  obtain⟨h1,h2⟩:=S4 ts (Y.set t Ae) (i:=i) (v:=v) h;by_cases e:t=i
  .subst e;have:=Ee h1;cases this
  .rw[Bu e]at h1;exact⟨h1,by simp only[A6,ND];exact⟨λz=>e z.symm,h2⟩⟩
theorem aH{tk:Ag}{C:Ak}{m:Ah->Ao Al}(I:Z8 X pI Y H s)(B:zx X scope N' ts)(hf:∀ b∈fp,IS X pI H b)(kf:∀ b∈fp,b<s.heap.objs.size)(hb:qo X scope cl C h')(hk:∀ b o,s.heap.get? b=Aa o->h'.get? b=Aa o)(hC:s.heap.objs.size<=C)(hn:h'.Ns C m):Z8 (zc X scope cl C N' s H fp) [] (hideT ts Y) H {s with heap:=h',toks:=tk}:=by
 have stf:∀ b∈fp,b∉yz X.stack:=λb hb z=>by
  rcases A6.mp (I.stkSub b z) with e|e
  .exact(hf b hb).2.1 e
  .exact(hf b hb).2.2.1 e
 have ú:∀ x,((relabel scope X.env).names.lookup x=Aa .cell\/(relabel scope X.env).names.lookup x=Aa .free)->scope.names.lookup x=Aa .free\/scope.names.lookup x=Aa .cell:=λx hx=>by
  rcases hx with z|z
  .rcases NJ z with z|⟨_,z⟩
   .exact .inr z
   .exact .inl z
  .rcases NJ z with z|⟨z,_⟩
   .exact .inl z
   .cases z
 have gtC:∀ c:Ak,C<c->s.heap.objs.size<=c:=λc z=>B8 hC (GM z)
 have cellK:∀ c v,s.heap.IsCell c v->h'.IsCell c v:=λc v ⟨o,ho,hd⟩=>⟨o,hk _ _ ho,hd⟩
 refine⟨⟨I.ok.mod,B.kind,I.ok.glob,I.ok.blt,hC,hb.inj,λx hx=>?_,λx c h e=>?_,I.ok.hd,I.ok.frames,.inl rfl,λb ke=>⟨?_,λx c e=>?_⟩,I.bs,B8 I.ok.bsz I.sz,λb o e ke=>?_,stf,I.stack,I.stkFree⟩,rfl,I.bare,Un.kept hk,⟨m,hn,λi x v h1 h2 h3=>?_⟩,λx c e=>?_,I.hok.fresh hC,λx c e=>(hb.own x c e).elim (I.freeC x c) (λz=>I.hok.fresh (gtC c z.2.1)),λp hp=>absurd (show p∈([]:Pn) from hp) (by simp),I.hok.kept hk,?_⟩
 .rcases ú x hx with z|z
  .obtain⟨c,q,_⟩:=hb.fr x (CK z);exact⟨c,q⟩
  .obtain⟨c,q,_⟩:=hb.has x z;exact⟨c,q⟩
 .obtain⟨c',q,z⟩:=hb.has x (eq_of_beq h);have e':cl.lookup x=Aa c:=e;rw[q]at e';cases e';exact gtC _ z
 .intro z;have z':b=C:=z;have:=kf b ke;rw[z']at this;exact absurd (AZ this hC) (BG _)
 .rcases hb.own x c e with z|z
  .exact(hf b ke).2.2.2.2.1 x c z
  .intro q;have:=kf b ke;have:=gtC c z.2.1;rw[q]at this;exact absurd ‹b<_› (Yj.mpr this)
 .rcases (hf b ke).2.2.2.1 with z|z
  .exact I.ok.noex b o e z
  .exact absurd (AZ (AS e) (B8 I.ok.bsz z)) (BG _)
 .obtain⟨h2,bv⟩:=S4 ts Y h2;have h3':(relabel scope X.env).names.lookup x=Aa .local\/(relabel scope X.env).names.lookup x=Aa .cell\/(relabel scope X.env).names.lookup x=Aa .free:=h3;have m8:N'[i]?=Aa x:=h1;rcases h3' with z|z
  .rcases NJ z with z|⟨z,_⟩
   .exact absurd (B.loc i x m8 (.inl z)) bv
   .cases z
  .have fr:=(ú x z).resolve_right λq=>bv (B.loc i x m8 (.inr q))
   have hm:=CK fr;have hX:=B.same i x m8 fr bv;obtain⟨m0,hn0,hl0⟩:=I.loc;obtain⟨u,ru,lk⟩:=hl0 i x v hX h2 (by
    rcases B.free _ hm rfl with q|q
    .exact .inr (.inl q)
    .exact .inr (.inr q))
   refine⟨u,ru,?_⟩;obtain⟨c,hc,iv⟩:=hb.fr x hm;rcases lk with ⟨q,_⟩|⟨_,c',qg,vf⟩
   .have q':X.env.scope.names.lookup x=Aa .local:=q;rcases B.free _ hm rfl with p|p
    .rw[show X.env.scope.names.lookup x=_ from p]at q';cases q'
    .rw[show X.env.scope.names.lookup x=_ from p]at q';cases q'
   .have e:=iv;rw[qg]at e;cases e;exact .inr ⟨z,c,hc,cellK _ _ vf⟩
 .rcases hb.own x c e with z|z
  .obtain⟨v,q⟩:=I.cell x c z;exact⟨v,cellK _ _ q⟩
  .exact⟨_,z.2.2⟩
 .show (hideT ts Y).length=N'.length;rw[PL,I.len,B.len]
theorem Td{C D:Ak}{s':Ar}{Y':L2.St}{LE:Pn}{xm:AJ}(I:Z8 X pI Y H s)(hf:∀ b∈fp,IS X pI H b)(I':Z8 (zc X scope cl C N' s H fp) LE Y' H' s')(hD:s.heap.objs.size<=D)(ox:D≠C)(hC:s.heap.objs.size<=C)(hd:s'.heap.get? D=Aa { cls:=.type "list",data:=.seq ys.toArray n })(iq:H' D=Ae)(rv:A1 xs ys)(hz:xs.length<=sizeLine)(hs:FD C s'.heap xm):Z8 X pI Y (upd H' D (.lst xs)) {s' with heap:=xm}:=by
  have u:Un (yz X.stack) fp H H' s.heap s'.heap:=I'.base;have lt:∀ b o,s.heap.get? b=Aa o->b≠C/\b≠D:=λb o e=>⟨λz=>absurd (AZ (AS e) (z ▸ hC)) (BG _),λz=>absurd (AZ (AS e) (z ▸ hD)) (BG _)⟩
  have HD:H D=Ae:=I.hok.fresh hD;have Ç:H' C=Ae:=I'.free;have kb:∀ b o,b≠C->s'.heap.get? b=Aa o->xm.get? b=Aa o:=λb o hb e=>(hs.2 b hb).trans e
  have u2:Un (yz X.stack) fp H (upd H' D (.lst xs)) s.heap xm:=⟨λb o e q hb hx=>kb b o (lt b o e).1 (u.keep b o e q hb hx),λb o e q hb hx=>by
      obtain⟨sl,e1⟩:=u.slot b o e q hb hx;exact⟨sl,kb b _ (lt b o e).1 e1⟩,λb o e q hx=>by rw[AQ (lt b o e).2];exact u.free b o e q hx,λb o e hx=>by
      obtain⟨o',e1⟩:=u.there b o e hx;exact⟨o',kb b _ (lt b o e).1 e1⟩,λb zs q=>by rw[AQ (Er q HD)];exact u.tups b zs q,λb o zs q=>by rw[AQ (Er q HD)];exact u.frzs b o zs q,λb ps q=>by rw[AQ (Er q HD)];exact u.tbls b ps q⟩
  have hok:zg X.prog X.w (upd H' D (.lst xs)) xm:=λb o e=>by
    by_cases hb:b=D
    · subst hb;rw[BO]at e;cases e;exact⟨hz,ys,n,rv,kb _ _ ox hd⟩
    · rw[AQ hb]at e;refine(I'.hok b o e).stay (λc v hc q=>kb c v ?_ q) (λc q=>by rw[AQ (Er q iq)];exact q) λc zs q=>by rw[AQ (Er q iq)];exact q
      rcases hc with rfl|hc
      · exact Er e Ç
      · exact Er hc Ç
  exact I.call' (s':={s' with heap:=xm}) (ch:=fp) I'.os u2 hok I'.bare λb hb=>⟨(hf b hb).2.2.2.1,(hf b hb).2.1,(hf b hb).2.2.2.2.1,(hf b hb).2.2.2.2.2⟩
end
def gj(X:Cx)(ifs:Ac Aq)(tt:TT):Prop:=∀(pI:Pn)(s:Ar)(Y:L2.St)(H:Hp)(Q:An->Hp->Prop),Z8 X pI Y H s->tt Y H Q ->
 AA (model X.prog X.w) X.A (forIn ifs Ab λc r=>if r=Ab then do let ok <-Jg c X.env (eval c X.env);pure (Eg ok) else pure (Eg r)) (TP X pI Y Q) X.xe s
theorem iK:gj X [] (λY H Q=>Q Ab H):=λpI s Y H Q I h=>wpAny_tests_nil ⟨H,I,h⟩
theorem iJ{t:TT}(h:PT X c t):gj X [c] t:=λpI s Y H Q I q=>wpAny_tests_one (h pI s Y H Q I q)
theorem aR{D:Ak}{y:Al}{E:Vq}{Q:Vq}(I:Z8 X ((D,{ cls:=.type "list",data:=.seq ys.toArray n })::pI) Y H s)(hD:X.s₀.heap.objs.size<=D)(hp:∀ p∈X.pn++pI,p.1≠D)(hc:∀ x c,X.env.cells.lookup x=Aa c->c≠D)(hz:ys.length<=sizeLine)(h:∀ s',Z8 X ((D,{ cls:=.type "list",data:=.seq (ys++[y]).toArray (n+1) })::pI) Y H s'->(∀ b o,b≠D->s.heap.get? b=Aa o->s'.heap.get? b=Aa o)->Q .none s'):AA (model X.prog X.w) X.A (call (.builtin "list.append") [.ref D,y]) Q E s:=by
 obtain⟨e,hn,hL,kg,_⟩:=I.pin (D,{ cls:=.type "list",data:=.seq ys.toArray n }) (Bq _ AY);refine append_at (hsz:=by rw[AX];exact hz) e λh' hs hd=>?_
 have m9:h'.get? D=Aa { cls:=.type "list",data:=.seq (ys++[y]).toArray (n+1) }:=by rw[hd];simp
 have kb:∀ b o,b≠D->s.heap.get? b=Aa o->h'.get? b=Aa o:=λb o hb q=>(hs.2 b hb).trans q
 have I0:Z8 X pI Y H s:=I.pins_of λp hp=>I.pin p (Bq _ (AE _ hp))
 have I1:Z8 X pI Y H {s with heap:=h'}:=I0.turned (t':=s.toks) kb hn hL (.inr hD) hc hp
 refine h _ (I1.pins_of λp hp=>?_) kb
 rcases A6.mp hp with rfl|hp
 .exact⟨m9,hn,hL,kg,λv z=>by
   have z':Mz _ _=Mv v:=z;cases z'⟩
 .exact I1.pin p (Bq _ hp)
section
variable{prog:AK}{w:AI}{A:A4}{R:Ii->Ar->Prop}{s:Ar}
theorem aG{target:Aq}{it zU:Al}(I:Ag->Ar->Prop)(turn:∀ n s,I n s->AA (model prog w) A (MD it) (λr s₁=>match r with
      |none=>R (.ok .next) s₁
      | some v=>AA (model prog w) A (GO target it v) (λ_ s₁'=>AA (model prog w) A (assign target env v) (λ_ s₂=>
          AA (model prog w) A (forIn ifs Ab λc r=>if r=Ab then do let ok <-Jg c env (eval c env);pure (Eg ok) else pure (Eg r)) (λok s₃=>
            if ok=Ab then AA (model prog w) A (eval elt env) (λx s₄=>
              AA (model prog w) A (call (.builtin "list.append") [zU,x]) (λ_ s₅=>∃ m,m<n/\I m s₅) (Ji (model prog w) A env λe s'=>R (.error e) s') s₄) (Ji (model prog w) A env λe s'=>R (.error e) s') s₃
            else ∃ m,m<n/\I m s₃) (Ji (model prog w) A env λe s'=>R (.error e) s') s₂) (Ji (model prog w) A env λe s'=>R (.error e) s') s₁') (Ji (model prog w) A env λe s'=>R (.error e) s') s₁) (Ji (model prog w) A env λe s'=>R (.error e) s') s)(n:Ag)(h:I n s):EC (model prog w) A (.compLoop (.ListComp elt [⟨target,iter,ifs,0⟩] scope pos) 0 it zU env) R s:=by
  refine codeAny_loop rfl I (λn s hI=>?_) n h
  show AA _ A ((compTurn (.ListComp elt [⟨target,iter,ifs,0⟩] scope pos) 0 it zU env).onRaise (λx=>do FG x env;theTreesLotGoes x)) _ _ s
  refine wpAny_noted ?_;rw[compTurn_list];refine As (CT (As (Bj (turn n s hI) (λr s₁ h₁=>?_) λ_ _ h'=>h')))
  cases r with
  |none=>exact A2 h₁
  |some v=>
    refine As (Bj h₁ (λ_ s₁' h₁'=>?_) λ_ _ h'=>h')
    refine As (Bj h₁' (λ_ s₂ h₂=>As (Bj h₂ (λok s₃ h₃=>?_) λ_ _ h'=>h')) λ_ _ h'=>h')
    cases ok with
    |false=>exact A2 ⟨rfl,h₃⟩
    |true=>
      exact As (As (Bj h₃ (λx s₄ h₄=>As (Bj h₄ (λ_ s₅ h₅=>A2 (A2 ⟨rfl,h₅⟩)) λ_ _ h'=>h')) λ_ _ h'=>h'))
end
def MM(J:It)(ts:Ac Ag)(g:TG)(tt:TT)(te:TE)(Y:L2.St)(H:Hp)(Q:VK):Prop:=∃ W:Ag->Ag->Ac V->L2.St->Hp->Prop,(∃ m,W 0 m [] (hideT ts Y) H)/\∀ i m xs Y H,W i m xs Y H ->
 (J.stop i H/\∀ p,H p=Ae->Q (.ref p) (upd H p (.lst xs))) \/
 (J.go i H/\xs.length<sizeLine/\∀ x H',J.yld i H x H'->g x Y H' λY2 H2=>tt Y2 H2 λb H3=>if b=Ab then te Y2 H3 λy H4=>∃ m',m'<m/\W (i+1) m' (xs++[y]) Y2 H4 else ∃ m',m'<m/\W (i+1) m' xs Y2 H3)
theorem Up{g:TG}{it:Ak}{tn:Ag->AJ->Prop}{E:Vq}{RR:Al->Ak->Ii->Ar->Prop}(hc:X.calm=Ab)(B:zx X scope N' ts)(I:Z8 X pI Y H s)(T:qu X.prog X.w X.K tg J fp it tn)(st:tn 0 s.heap)(hf:∀ b∈fp,IS X pI H b)(yh:∀ x c,cl.lookup x=Aa c->X.env.cells.lookup x=Aa c)(rh:∀ x,(x,DR)∈scope.names->∃ c,cl.lookup x=Aa c)(hg:∀ cl C s H,PG (zc X scope cl C N' s H fp) tg g)(ht:∀ cl C s H,gj (zc X scope cl C N' s H fp) ifs tt)(he:∀ cl C s H,PE (zc X scope cl C N' s H fp) elt te)(h:MM J ts g tt te Y H Q)(hRR:∀ cl D C s' H' Y' LE xs ys n m,Z8 (zc X scope cl C N' s H fp) LE Y' H' s'->s'.heap.get? D=Aa { cls:=.type "list",data:=.seq (FA ys) n }->H' D=Ae->A1 xs ys->xs.length<=sizeLine->s.heap.objs.size<=D->D≠C->s.heap.objs.size<=C->s'.heap.Ns C m->Q (.ref D) (upd H' D (.lst xs))->RR (.ref D) C (.ok .next) s'):AA (model X.prog X.w) X.A (newList []) (λzU s₃=>AA (model X.prog X.w) X.A (Jh scope X.env.globals cl [] X.env.qual Ae .none (Aa X.env)) (λõ s₄=>EC (model X.prog X.w) X.A (.compStart (.ListComp elt [⟨tg,iter,ifs,0⟩] scope pos) 0 (.ref it) zU {õ with scope:=relabel scope X.env}) (RR zU õ.locals) s₄) E s₃) E s:=by
 refine DV (aA ?_);dsimp only;generalize hH2:s.heap.push { cls:=.type "list",dict:=Ae,data:=.seq ([]:Ac Al).toArray }=H2;have bh:(Hz (H2.push { cls:=.type "dict",data:=.dict #[] }) scope.names).Ns H2.objs.size (λ_=>Ae):=(Heap.Ns.new H2 (.type "dict")).keeps (ID _ _)
 have kl:∀ b o,H2.get? b=Aa o->(Hz (H2.push { cls:=.type "dict",data:=.dict #[] }) scope.names).get? b=Aa o:=λb o e=>ID _ _ b o (AB _ e)
 have o5:=Py scope.names (H2.push { cls:=.type "dict",data:=.dict #[] }) cl;have ki:=Pz scope.names (H2.push { cls:=.type "dict",data:=.dict #[] }) cl;rw[D1]at o5 ki;generalize hcl':CO (H2.objs.size+1) scope.names cl=xl at o5 ki;have hcf:∀ x,(x,B0)∉scope.names->xl.lookup x=cl.lookup x:=λx hx=>by rw[<-hcl'];exact PV _ _ _ x hx
 have uf:∀ x,(x,B0)∈scope.names->∃ c,xl.lookup x=Aa c/\H2.objs.size+1<=c:=λx hx=>by rw[<-hcl'];exact PB _ _ _ _ x (AU _) (.inl hx)
 generalize hh₁:Hz (H2.push { cls:=.type "dict",data:=.dict #[] }) scope.names=h₁ at bh kl o5;have hC:H2.objs.size=s.heap.objs.size+1:=by rw[<-hH2,D1]
 have re:s.heap.objs.size<=H2.objs.size:=by rw[hC];exact K1 _
 have ox:s.heap.objs.size≠H2.objs.size:=by rw[hC];exact BB (Gj _)
 have below:∀ b,b<s.heap.objs.size->b≠H2.objs.size:=λb hb=>by rw[hC];exact BB (HQ hb)
 have old:∀ b o,s.heap.get? b=Aa o->h₁.get? b=Aa o:=λb o e=>kl b o (hH2 ▸ AB _ e)
 have hacc:h₁.get? s.heap.objs.size=Aa { cls:=.type "list",data:=.seq ([]:Ac Al).toArray 0 }:=kl _ _ (hH2 ▸ Bp _ rfl);have clt:∀ x c,cl.lookup x=Aa c->c<s.heap.objs.size:=λx c e=>by
  obtain⟨v,q⟩:=I.cell x c (yh x c e);exact q.lt
 have bc:qo X scope xl H2.objs.size h₁:=by
  refine⟨λx c e=>?_,ki (λx y c e1 e2=>I.ok.inj x y c (yh x c e1) (yh y c e2)) (λx c e=>HQ (AZ (clt x c e) re)),λx hx=>?_,λx hx=>?_⟩
  .rcases o5 x c e with q|⟨q1,q2,q3⟩
   .exact .inl (yh x c q)
   .exact .inr ⟨B.uniq _ q1,q2,q3⟩
  .have hm:=CK hx;obtain⟨c,e,hc⟩:=uf x hm;exact⟨c,e,hc⟩
  .have hno:(x,B0)∉scope.names:=λz=>by
    have e1:=B.uniq _ hx;have e2:=B.uniq _ z;rw[show scope.names.lookup x=_ from e1]at e2
    cases e2
   obtain⟨c,e⟩:=rh x hx;exact⟨c,by rw[hcf x hno];exact e,yh x c e⟩
 have kf:∀ b∈fp,b<s.heap.objs.size:=λb hb=>by
  obtain⟨o,e,_⟩:=T.obj 0 _ st b hb;exact AS e
 generalize hD:s.heap.objs.size=D,hC':H2.objs.size=C at *;have I0:Z8 (zc X scope xl C N' s H fp) [] (hideT ts Y) H {s with heap:=h₁,toks:=s.toks+([]:Ac (Ah×Al)).length}:=aH (tk:=s.toks+([]:Ac (Ah×Al)).length) I B hf (λb hb=>by rw[hD];exact kf b hb) bc old (by rw[hD];exact re) bh
 have nD:H D=Ae:=I.hok.fresh (by rw[hD];exact AU _)
 have noD:∀ b∈fp,b≠D:=λb hb=>BB (kf b hb)
 have noC:∀ b∈fp,b≠C:=λb hb=>below b (kf b hb)
 have stfs:D∉yz X.stack:=λz=>by
  obtain⟨_,o,ho,_⟩:=I.stack.mem z;exact absurd (AS ho) (by rw[hD];exact BG _)
 have cD:∀ x c,xl.lookup x=Aa c->c≠D:=λx c e z=>by
  rcases bc.own x c e with q|⟨_,q,_⟩
  .obtain⟨v,q⟩:=I.cell x c q;exact absurd q.lt (by rw[z,hD];exact BG _)
  .rw[z]at q;exact absurd (AZ q re) (BG _)
 have I1:Z8 (zc X scope xl C N' s H fp) [(D,{ cls:=.type "list",data:=.seq ([]:Ac Al).toArray 0 })] (hideT ts Y) H {s with heap:=h₁,toks:=s.toks+([]:Ac (Ah×Al)).length}:=I0.pins_of λp hp=>by
  have e:=BW.mp hp;subst e;exact⟨hacc,nD,ox,stfs,λv z=>by
   have z':Mz _ _=Mv v:=z;cases z'⟩
 have st1:tn 0 h₁:=T.keep _ _ _ st λb _ o e=>old b o e
 obtain⟨W,⟨m0,w0⟩,turn⟩:=h;have fpk:∀{pl:Pn}{H':Hp},(∀ p∈pl,p.1=D)->(∀ b∈fp,H' b=Ae)->∀ b∈fp,IS (zc X scope xl C N' s H fp) pl H' b:=λ{pl H'} hp hn b hb=>
  ⟨hn b hb,noC b hb,λz=>by
   rcases A6.mp (I.stkSub b z) with e|e
   .exact(hf b hb).2.1 e
   .exact(hf b hb).2.2.1 e,.inl hb,λx c e=>(bc.own x c e).elim ((hf b hb).2.2.2.2.1 x c) (λz q=>absurd (FB re z.2.1) (Yj.mpr (by rw[q];exact GM (kf b hb)))),λp Ì=>by
   have zZ:p∈pl:=Ì;rw[hp p zZ];exact(noD b hb).symm⟩
 have loop:∀ s₃:Ar,s₃={s with heap:=h₁,toks:=s.toks+([]:Ac (Ah×Al)).length} ->
   EC (model X.prog X.w) X.A (.compLoop (.ListComp elt [⟨tg,iter,ifs,0⟩] scope pos) 0 (.ref it) (.ref D) (compEnvC scope xl C X.env)) (RR (.ref D) C) s₃:=by
  rintro s₃ rfl;refine aG (λk s'=>∃ i Y' H' xs ys n,Z8 (zc X scope xl C N' s H fp) [(D,{ cls:=.type "list",data:=.seq (FA ys) n })] Y' H' s'/\tn i s'.heap/\(∀ b∈fp,H' b=Ae)/\A1 xs ys/\xs.length<=sizeLine/\W i k xs Y' H') ?_ m0
   ⟨0,_,H,[],[],0,I1,st1,λb hb=>(hf b hb).1,.nil,Ds _,w0⟩
  rintro k s' ⟨i,Y',H',xs,ys,n,I',t4,fr',rv,hz,w'⟩;have one:∀ p∈[((D,{ cls:=.type "list",data:=.seq (FA ys) n }):Ak×CW)],p.1=D:=λp hp=>by rw[BW.mp hp]
  rcases turn i k xs Y' H' w' with ⟨stop,q⟩|⟨go,yn,step⟩
  .refine Bj (T.done (zc X scope xl C N' s H fp) rfl rfl rfl hc i _ s' Y' H' (λ_ _=>AM) I' (fpk one fr') t4 stop) (λr s1 ⟨hr,J1⟩=>?_) λ_ _ f=>f.elim
   subst hr;obtain⟨e,hn,_⟩:=J1.pin _ (Bq _ AY);obtain⟨m,hm,_⟩:=J1.loc;exact hRR xl D C s1 H' Y' _ xs ys n m J1 e hn rv hz (AU _) ox re hm (q D hn)
  .refine Bj (T.item (zc X scope xl C N' s H fp) rfl rfl rfl hc i _ s' Y' H' (λ_ _=>AM) I' (fpk one fr') t4 go) (λr s1 ⟨u,hr,h4⟩=>?_) λ_ _ f=>f.elim
   subst hr;refine Bj h4 (λ_ s5 ⟨x,H5,I5,r5,y5,lr,fr5⟩=>?_) λ_ _ f=>f.elim
   have gc:=I5.pinned (fpk one fr5) (T.obj _ _ lr);refine Bj (hg xl C s H _ s5 Y' H5 x u _ gc r5 (step x H5 y5)) (λ_ s6 ⟨Y6,H6,I6,q6⟩=>?_) λ_ _ f=>f.elim
   refine Bj (ht xl C s H _ s6 Y6 H6 _ I6 q6) (λok s7 ⟨H7,I7,q7⟩=>?_) λ_ _ f=>f.elim
   have again:∀{s8:Ar}{H8:Hp}{ys':Ac Al}{n':Ag},Z8 (zc X scope xl C N' s H fp) ((D,{ cls:=.type "list",data:=.seq (FA ys') n' })::Lb fp s5.heap) Y6 H8 s8->Z8 (zc X scope xl C N' s H fp) [(D,{ cls:=.type "list",data:=.seq (FA ys') n' })] Y6 H8 s8/\tn (i+1) s8.heap/\∀ b∈fp,H8 b=Ae:=λ{s8 H8 ys' n'} I8=>
    ⟨I8.pins_of λp hp=>I8.pin p (Bq _ (by rw[BW.mp hp];exact AY)),T.keep _ _ _ lr λb hb o e=>(I8.pin (b,o) (Bq _ (AE _ (NP hb e)))).1,λb hb=>by
     obtain⟨o,e,d⟩:=T.obj _ _ lr b hb;exact(I8.pin (b,o) (Bq _ (AE _ (NP hb e)))).2.1⟩
   cases ok with
   |false=>
    rw[Ay (by decide)]at q7
    obtain⟨m',hm,w7⟩:=q7;obtain⟨a1,a2,a3⟩:=again I7;rw[Ay (by decide)]
    exact⟨m',hm,i+1,Y6,H7,xs,ys,n,a1,a2,a3,rv,hz,w7⟩
   |true=>
    rw[Au rfl]at q7;rw[Au rfl];refine Bj (he xl C s H _ s7 Y6 H7 _ I7 q7) (λval s8 ⟨y,H8,I8,r8,m',hm,w8⟩=>?_) λ_ _ f=>f.elim
    have hl:=rv.length;refine aR (X:=zc X scope xl C N' s H fp) (ys:=ys) (n:=n) (pI:=Lb fp s5.heap) I8 (by show s.heap.objs.size<=D;rw[hD];exact AU _) (λp hp=>?_) cD (by omega) λs9 I9 kb=>?_
    .have zZ:p∈Lb fp s5.heap:=hp;exact noD _ (Tu zZ).1
    .obtain⟨a1,a2,a3⟩:=again I9;exact⟨m',hm,i+1,Y6,H8,xs++[y],ys++[val],n+1,a1,a2,a3,rv.append (.cons r8 .nil),by rw[BV];exact yn,w8⟩
 exact codeAny_compStart_list (loop _ rfl) (T.self _ 0 _ _ _ st1 (loop _ rfl))
theorem gX{g:TG}(hc:X.calm=Ab)(B:zx X scope N' ts)(hi:PI X tg iter wi)(hg:∀ cl C s H fp,PG (zc X scope cl C N' s H fp) tg g)(ht:∀ cl C s H fp,gj (zc X scope cl C N' s H fp) ifs tt)(he:∀ cl C s H fp,PE (zc X scope cl C N' s H fp) elt te)(hs:∀ x,CZ iter X.env x=pure x):PE X (.ListComp elt [⟨tg,iter,ifs,0⟩] scope pos) (λY H Q=>wi Y H λJ H1=>MM J ts g tt te Y H1 Q):=by
 intro pI s Y H Q I h;obtain⟨cl,ri,yh,rh⟩:=SX (scope:=scope) (env:=X.env) λx hx hk=>I.ok.has x.1 ((B.free x hx hk).imp id id)
 rw[eval_ListComp];refine ZW (use:=Ae) rfl hs ri B.kind B.names (U4 (hi pI s Y H _ I h) λv s1 h1=>U4 h1 λÎ s2 h2=>?_)
 obtain⟨it,fp,tn,J,H2,e,I2,T,st2,f2,h3⟩:=h2;subst e;refine Up (RR:=λzU C=>compPost (model X.prog X.w) X.A X.xe Ae (EP X pI Y Q) zU C) hc B I2 T st2 f2 yh rh (λcl C s H=>hg cl C s H fp) (λcl C s H=>ht cl C s H fp) (λcl C s H=>he cl C s H fp) h3 λxl D C s' H' Y' LE xs ys n m I' hd iq rv hz hD ox hC hm q=>?_
 exact⟨m,hm,λxm ku=>⟨.ref D,_,Td I2 f2 I' hD ox hC hd iq rv hz ku,rfl,q⟩⟩
theorem iO{n:Ah}{g:TG}(hc:X.calm=Ab)(B:zx X scope N' ts)(hi:PI X tg iter wi)(hg:∀ cl C s H fp,PG (zc X scope cl C N' s H fp) tg g)(ht:∀ cl C s H fp,gj (zc X scope cl C N' s H fp) ifs tt)(he:∀ cl C s H fp,PE (zc X scope cl C N' s H fp) elt te)(hs:∀ x,CZ iter X.env x=pure x)(hN:X.N.Nodup)(rq:X.N[i]?=Aa n)(hx:X.env.scope.names.lookup n=Aa .local)(bt:Dq (.ListComp elt [⟨tg,iter,ifs,0⟩] scope pos) (Aa (.Name n pos')) pos2.line X.env=pure Ab):PS X (.Assign [.Name n pos'] (.ListComp elt [⟨tg,iter,ifs,0⟩] scope pos) pos2) (O6 (λY H Q=>wi Y H λJ H1=>MM J ts g tt te Y H1 Q) (G0 i)):=by
 intro pI s Y H Dn I h;obtain⟨cl,ri,yh,rh⟩:=SX (scope:=scope) (env:=X.env) λx hx hk=>I.ok.has x.1 ((B.free x hx hk).imp id id)
 rw[exec_Assign_Name_used _ _ _ _ bt];refine As (CT (As ?_));show AA _ X.A (do let _ <-comprehension (.ListComp elt [⟨tg,iter,ifs,0⟩] scope pos) scope X.env _ (newList []) Af (eval iter X.env) (Aa (assign (.Name n pos') X.env))) _ _ s
 refine As (Bj (ZW (use:=Aa (assign (.Name n pos') X.env)) (Q:=λ_ s'=>SP X pI Dn .next s') rfl hs ri B.kind B.names
  (U4 (hi pI s Y H _ I h) λv s1 h1=>U4 h1 λÎ s2 h2=>?_)) (λ_ s' hq=>A2 (A2 hq)) λ_ _ e=>e)
 obtain⟨it,fp,tn,J,H2,e,I2,T,st2,f2,h3⟩:=h2;subst e;refine Up (RR:=λzU C=>compPost (model X.prog X.w) X.A X.xe (Aa (assign (.Name n pos') X.env)) (λ_ s'=>SP X pI Dn .next s') zU C) hc B I2 T st2 f2 yh rh (λcl C s H=>hg cl C s H fp) (λcl C s H=>ht cl C s H fp) (λcl C s H=>he cl C s H fp) h3 λxl D C s' H' Y' LE xs ys n' m I' hd iq rv hz hD ox hC hm q=>?_
 have J0:Z8 X pI Y (upd H' D (.lst xs)) s':=Td I2 f2 I' hD ox hC hd iq rv hz (Zb ..);refine ZV (Tn J0 hN rq (.inl hx) (show Bt (.ref D) (.ref D) from rfl) (λdh J1 ⟨a,sb,ha⟩=>?_) (.inr hx))
 have hC0:X.s₀.heap.objs.size<=C:=B8 I2.sz hC;have hL:C≠X.env.locals:=λz=>absurd (AZ I2.lt (z ▸ hC)) (BG _)
 have hcC:∀ x c,X.env.cells.lookup x=Aa c->c≠C:=λx c e z=>by
  obtain⟨v,q'⟩:=I2.cell x c e;exact absurd (AZ q'.lt (by rw[z];exact hC)) (BG _)
 have hp:∀ p∈X.pn++pI,p.1≠C:=λp hp z=>absurd (AZ (AS (I2.pin p hp).1) (by rw[z];exact hC)) (BG _)
 have Ç:upd H' D (.lst xs) C=Ae:=by rw[AQ ox.symm];exact I'.free
 have hCa:C≠a:=by
  rcases ha with rfl|ha
  .exact hL
  .exact λz=>hcC n a ha z.symm
 refine⟨m,hm.sameBut sb hCa,λxm ku=>⟨_,_,J1.turned (t':=dh.toks) (λb o hb e=>(ku.2 b hb).trans e) Ç hL (.inr hC0) hcC hp,q⟩⟩
theorem PN:∀(ts:Ac Ag)(U:Rho)(j:Ag),(GZ ts U)[j]?=if j∈ts then (U[j]?).map (λ_=>Ae) else U[j]?
 |[],U,j=>by simp[GZ]
 |t::ts,U,j=>by
  show (GZ ts (U.set t Ae))[j]?=_;rw[PN ts];by_cases h1:j∈ts
  .rw[Au h1,Au (AE _ h1)];by_cases h2:t=j
   .subst h2;rw[FY];cases U[t]?<;>rfl
   .rw[Bu h2]
  .rw[Ay h1];by_cases h2:t=j
   .subst h2;rw[Au AY,FY];cases U[t]?<;>rfl
   .rw[Bu h2,Ay (by simp only[A6,ND];exact⟨λz=>h2 z.symm,h1⟩)]
theorem PM:∀(ts:Ac Ag)(U:Rho),(GZ ts U).length=U.length
 |[],_=>rfl
 |t::ts,U=>by show (GZ ts (U.set t Ae)).length=_;rw[PM ts,AT]
theorem Pu:∀(ts:Ac Ag)(Y:L2.St){i:Ag},i∉ts->(hideT ts Y)[i]?=Y[i]?
 |[],_,_,_=>rfl
 |t::ts,Y,i,h=>by
  simp only[A6,ND]at h;show (hideT ts (Y.set t Ae))[i]?=_;rw[Pu ts _ h.2,Bu (λz=>h.1 z.symm)]
section
variable{K:Fg}{CL:ClA}{A:Ak->Prop}{U U':Rho}{Y:L2.St}{H:Hp}
theorem Y9.less(g:Y9 K CL A U Y H)(hl:U'.length=U.length)(h:∀(i:Ag)(d:D)(o:An),U'[i]?=Aa (Aa (d,o))->U[i]?=Aa (Aa (d,o))):Y9 K CL A U' Y H:=⟨λi d e=>g.sh i d (h i d Af e),λi d e hn=>g.ow i d (h i d Ab e) hn,hl.trans g.len⟩
theorem Y9.put(g:Y9 K CL A U Y H)(t:Ag)(r:Z7 K CL H A v d):Y9 K CL A (U.set t (Aa (d,Af))) (Y.set t (Aa v)) H:=by
 refine⟨λj e h=>?_,λj e h hn=>?_,by rw[AT,AT];exact g.len⟩
 .by_cases hj:t=j
  .subst hj;have e1:=Ee h;cases e1;have hl:t<Y.length:=by
    rw[<-g.len];have:=(A5.mp h).1;simpa using this
   exact⟨v,by rw[By hl],r⟩
  .rw[Bu hj]at h;obtain⟨w',q,xh⟩:=g.sh j e h;exact⟨w',by rw[Bu hj];exact q,xh⟩
 .have hj:t≠j:=by
   rintro rfl;have:=Ee h;cases this
  rw[Bu hj]at h;obtain⟨a,xs,ds,q,z⟩:=g.ow j e h hn;exact⟨a,xs,ds,by rw[Bu hj];exact q,z⟩
theorem Y9.hide(g:Y9 K CL A U Y H)(ts:Ac Ag):Y9 K CL A (GZ ts U) Y H:=g.less (PM _ _) λi d o e=>by
 rw[PN]at e;split at e
 .cases q:U[i]? with
  |none=>rw[q]at e;cases e
  |some x=>rw[q]at e;cases e
 .exact e
theorem Y9.hideT(g:Y9 K CL A U Y H)(ts:Ac Ag):Y9 K CL A (GZ ts U) (hideT ts Y) H:=by
 have key:∀ i x,(GZ ts U)[i]?=Aa (Aa x)->U[i]?=Aa (Aa x)/\i∉ts:=λi x e=>by
  rw[PN]at e;split at e
  .cases q:U[i]? with
   |none=>rw[q]at e;cases e
   |some x=>rw[q]at e;cases e
  .exact⟨e,by assumption⟩
 refine⟨λi d e=>?_,λi d e hn=>?_,by rw[PM,PL];exact g.len⟩
 .obtain⟨e1,e2⟩:=key i _ e;obtain⟨v,q,r⟩:=g.sh i d e1;exact⟨v,by rw[Pu _ _ e2];exact q,r⟩
 .obtain⟨e1,e2⟩:=key i _ e;obtain⟨a,xs,ds,q,r⟩:=g.ow i d e1 hn;exact⟨a,xs,ds,by rw[Pu _ _ e2];exact q,r⟩
end
def GG(K:Fg)(CL:ClA)(ts:Ac Ag)(as:D->Rho->R Rho)(g:TG):Prop:=∀ A U Y H v d U' Q,Y9 K CL A (GZ ts U) Y H->Z7 K CL H A v d->as d U=.ok U'->(∀ Y',Y9 K CL A U' Y' H->Y9 K CL A (GZ ts U) Y' H->Q Y' H)->g v Y H Q
theorem kO(i:Ag):GG K CL [i] (λd U=>.ok (U.set i (Aa (d,Af)))) (G0 i):=λA U Y H v d U' Q g r e k=>by
 cases e;have g2:=g.put i r;have e1:(GZ [i] U).set i (Aa (d,Af))=U.set i (Aa (d,Af)):=by
  show (U.set i Ae).set i (Aa (d,Af))=_;rw[Yd]
 rw[e1]at g2;refine k _ g2 ?_;have:=g2.hide [i];have e2:GZ [i] (U.set i (Aa (d,Af)))=GZ [i] U:=by
  show (U.set i _).set i Ae=U.set i Ae;rw[Yd]
 rwa [e2]at this
noncomputable abbrev W0:XW:=λ_ _=>AM
def jr(X:Cx)(CL:ClA)(ifs:Ac Aq)(f:Rho->R An):Prop:=∀ A,gj X ifs (λY H Q=>Tm H A/\∃ U,Y9 X.K CL A U Y H/\CS W0 H (f U) Q)
theorem gA:jr X CL [] (λ_=>.ok Ab):=λA pI s Y H Q I ⟨hA,U,g,p⟩=>iK pI s Y H Q I (p H (Az.refl H))
theorem fZ{f:Rho->R An}(h:SB X CL W0 c f):jr X CL [c] f:=λA pI s Y H Q I q=>iJ (h A) pI s Y H Q I q
section
variable{X:Cx}{CL:ClA}{W:XW}{tg iter elt:Aq}{ifs:Ac Aq}{scope:Cb}{pos:AF}{N':Ac Ah}{ts:Ac Ag}{fi:Rho->R (Ac D)}{fc:Rho->R An}{fe:Rho->R D}{as:D->Rho->R Rho}{g:TG}
theorem Z_7{g:D->R An}{f:D->R D}{x:D}{xs ys:Ac D}(h:Cu g f (x::xs)=.ok ys):(g x=.ok Af/\Cu g f xs=.ok ys)\/∃ y r,g x=.ok Ab/\f x=.ok y/\Cu g f xs=.ok r/\ys=y::r:=by
 unfold Cu at h;cases e:g x with
 |bad=>rw[e]at h;cases h
 |exn z=>rw[e]at h;cases h
 |ok b=>
  rw[e,R.bind_ok]at h;cases b with
  |false=>exact .inl ⟨rfl,h⟩
  |true=>
   rw[Au rfl]at h;cases e2:f x with
   |bad=>rw[e2]at h;cases h
   |exn z=>rw[e2]at h;cases h
   |ok y=>
    rw[e2,R.bind_ok]at h;cases e3:Cu g f xs with
    |bad=>rw[e3]at h;cases h
    |exn z=>rw[e3]at h;cases h
    |ok r=>
     rw[e3,R.bind_ok]at h;cases h;exact .inr ⟨y,r,rfl,rfl,rfl,rfl⟩
theorem K3{β:Type}{r:R α}{f:α->R β}{b:β}(h:r.bind f=.ok b):∃ a,r=.ok a/\f a=.ok b:=by
 cases r with
 |ok a=>exact⟨a,rfl,h⟩
 |exn x=>cases h
 |bad=>cases h
theorem cY{ds ys:Ac D}(ue:GG K CL ts as g)(hA:Tm H1 A)(gd:Y9 K CL A U Y H1)(yl:LG K CL A ds J H1)(hz:ds.length<=sizeLine)(hcp:Cu (λx=>(as x U).bind fc) (λx=>(as x U).bind fe) ds=.ok ys)(q:∀ xs H2,Az H1 H2->Z9 K CL H2 A xs ys->∀ p,H2 p=Ae->Q (.ref p) (upd H2 p (.lst xs))):MM J ts g (λY H Q=>Tm H A/\∃ U,Y9 K CL A U Y H/\CS W0 H (fc U) Q) (λY H Q=>Tm H A/\∃ U,Y9 K CL A U Y H/\AW (λH=>Z7 K CL H A) W0 H (fe U) Q) Y H1 Q:=by
 refine⟨λi m xs Y' H'=>m=ds.length-i/\i<=ds.length/\xs.length<=i/\Az H1 H'/\Y9 K CL A (GZ ts U) Y' H'/\∃ outs rest,Z9 K CL H' A xs outs/\Cu (λx=>(as x U).bind fc) (λx=>(as x U).bind fe) (ds.drop i)=.ok rest/\ys=outs++rest,
  ⟨ds.length,by simp,Ds _,AU _,Az.refl _,gd.hideT ts,[],ys,trivial,hcp,rfl⟩,?_⟩
 rintro i m xs Y' H' ⟨rfl,hi,hxl,sm,g',outs,rest,rs,hc,e⟩;obtain⟨yst,ygo⟩:=yl H' (Kp.of sm) i;by_cases yn:i<ds.length
 .have hd:ds[i]?=Aa ds[i]:=Cz yn;obtain⟨hgo,hyl⟩:=ygo _ hd;refine .inr ⟨hgo,by omega,λx H2 hx=>?_⟩
  obtain⟨s2,rx⟩:=hyl x H2 hx;have jg:=rx A (λa ha=>.inl ha) (hA.same sm)
  rw[DW yn]at hc;have ze:=sm.trans s2;rcases Z_7 hc with ⟨h1,h2⟩|⟨y,r,h1,h2,h3,h4⟩
  .obtain⟨U',ea,ec⟩:=K3 h1;refine ue A U Y' H2 x ds[i] U' _ (g'.same s2) jg ea λY3 g3 g4=>⟨hA.same ze,U',g3,?_⟩
   rw[ec];exact λH3 s3=>by
    dsimp only;rw[Ay (by decide)]
    exact⟨ds.length-(i+1),by omega,rfl,yn,by omega,ze.trans s3,g4.same s3,outs,rest,(rs.same s2).same s3,h2,e⟩
  .obtain⟨U',ea,ec⟩:=K3 h1;obtain⟨U2,ea2,ee⟩:=K3 h2;rw[ea]at ea2;cases ea2;refine ue A U Y' H2 x ds[i] U' _ (g'.same s2) jg ea λY3 g3 g4=>⟨hA.same ze,U',g3,?_⟩
   rw[ec];exact λH3 s3=>by
    dsimp only;rw[Au rfl];refine⟨(hA.same ze).same s3,U',g3.same s3,?_⟩;rw[ee];exact λv H4 s4 r4=>⟨ds.length-(i+1),by omega,rfl,yn,by rw[BV,X5];omega,(ze.trans s3).trans s4,(g4.same s3).same s4,outs++[y],r,(((rs.same s2).same s3).same s4).append ⟨r4,trivial⟩,h3,by rw[e,h4];simp⟩
 .have we:ds.length<=i:=by omega
  rw[F8 we]at hc;have hr:rest=[]:=by cases hc;rfl
  subst hr;rw[BA]at e;subst e;exact .inl ⟨yst we,λp hp=>q xs H' sm rs p hp⟩
theorem F5.ok_of{r:R (Ac D)}{f:Ac D->R D}{Q':It->Hp->Prop}(h:AW Rq W H (r.bind f) Q)(k:∀ ds J H',r=.ok ds->Az H H'->LG K CL A ds J H'->ds.length<=sizeLine->AW Rq W H' (f ds) Q->Q' J H'):F5 K CL A W H r Q':=by
 cases r with
 |ok d=>exact λJ H2 s2 y z=>k d J H2 rfl s2 y z (AW.same s2 h)
 |exn x=>exact h
 |bad=>exact h
theorem qZ{r:R α}{a:α}(h:zk r=.ok a):r=.ok a:=by
 cases r with
 |ok b=>exact h
 |exn x=>cases h
 |bad=>cases h
theorem Tb(ue:GG X.K CL ts as g)(hA:Tm H A)(gd:Y9 X.K CL A U Y H)(p:AW (Cw X.K CL Ab H A) W H ((fi U).bind λxs=>(zk (Cu (λx=>(as x U).bind fc) (λx=>(as x U).bind fe) xs)).bind λys=>.ok (.lst ys)) Q):F5 X.K CL A W H (fi U) (λJ H1=>MM J ts g (λY H Q=>Tm H A/\∃ U,Y9 X.K CL A U Y H/\CS W0 H (fc U) Q) (λY H Q=>Tm H A/\∃ U,Y9 X.K CL A U Y H/\AW (λH=>Z7 X.K CL H A) W0 H (fe U) Q) Y H1 Q):=
 F5.ok_of p λds J H1 e1 s1 yl hz p1=>by
  cases e2:zk (Cu (λx=>(as x U).bind fc) (λx=>(as x U).bind fe) ds) with
  |ok ys=>
   rw[e2]at p1;exact cY ue (hA.same s1) (gd.same s1) yl hz (qZ e2) λxs H2 s2 rs q hq=>p1 _ _ (s2.trans (ES hq _)) (K4 (s1.trans s2) ((hA.same s1).same s2) hq rs)
  |exn x=>rw[e2]at p1;cases hq:Cu (λx=>(as x U).bind fc) (λx=>(as x U).bind fe) ds<;>rw[hq]at e2<;>cases e2
  |bad=>rw[e2]at p1;exact p1.elim
theorem jK(hc:X.calm=Ab)(B:zx X scope N' ts)(hi:SI X CL W tg iter fi)(ue:GG X.K CL ts as g)(hg:∀ cl C s H fp,PG (zc X scope cl C N' s H fp) tg g)(ht:∀ cl C s H fp,jr (zc X scope cl C N' s H fp) CL ifs fc)(he:∀ cl C s H fp,SE (zc X scope cl C N' s H fp) CL W0 elt fe)(hs:∀ x,CZ iter X.env x=pure x):SC X CL W Ab (.ListComp elt [⟨tg,iter,ifs,0⟩] scope pos) (λU=>(fi U).bind λxs=>(zk (Cu (λx=>(as x U).bind fc) (λx=>(as x U).bind fe) xs)).bind λys=>.ok (.lst ys)):=λA pI s Y H Q I ⟨hA,U,gd,p⟩=>
 gX hc B (hi A) hg (λcl C s H fp=>ht cl C s H fp A) (λcl C s H fp=>he cl C s H fp A) hs pI s Y H Q I ⟨hA,U,gd,Tb ue hA gd p⟩
end
section
variable{K:Fg}{CL:ClA}{Fz:Fr}{B:Ak->Prop}{U:Rho}{Y:L2.St}{H H':Hp}
theorem Sx.setF(x:Sx K CL Fz B U Y H)(s:Az H H'){ds:Ac D}(h0:H a=Ae)(h1:H' a=Aa (.lst xs))(r:Z9 K CL H' (λb=>BN B U Y b\/b=a) xs ds):Sx K CL Fz B (U.set i (Aa (.lst ds,Ab))) (Y.set i (Aa (.ref a))) H':=by
 have nA:¬ BN B U Y a:=x.aok.new h0;have own:∀(j:Ag)(e:D),(U.set i (Aa (.lst ds,Ab)))[j]?=Aa (Aa (e,Ab))->(i=j/\e=.lst ds)\/(i≠j/\U[j]?=Aa (Aa (e,Ab))):=λj e h=>by
  by_cases hj:i=j
  .subst hj;have:=Ee h;cases this;exact .inl ⟨rfl,rfl⟩
  .exact .inr ⟨hj,by rw[Bu hj]at h;exact h⟩
 have vv:∀{j:Ag}{y:Sl},(U.set i (Aa (.lst ds,Ab)))[j]?=Aa y->i=j->(Y.set i (Aa (.ref a)))[j]?=Aa (Aa (.ref a)):=λ{j y} h e=>by
  subst e;have hl:i<Y.length:=by
   rw[<-x.len];have:=(A5.mp h).1;simpa using this
  rw[By hl]
 have sub:∀ b,BN B (U.set i (Aa (.lst ds,Ab))) (Y.set i (Aa (.ref a))) b->BN B U Y b\/b=a:=λb h=>by
  rcases h with h|⟨j,e,h1,h2⟩
  .exact .inl (.inl h)
  .rcases own j e h1 with ⟨hj,_⟩|⟨hj,m8⟩
   .rw[vv h1 hj]at h2;cases h2;exact .inr rfl
   .rw[Bu hj]at h2;exact .inl (.inr ⟨j,e,m8,h2⟩)
 have wide:∀{v:V}{d:D},Z7 K CL H (BN B U Y) v d->Z7 K CL H' (BN B (U.set i (Aa (.lst ds,Ab))) (Y.set i (Aa (.ref a)))) v d:=λr=>(Z7.wide (λb hb=>(sub b hb).imp id λe=>by rw[e];exact h0) _ r).same s
 have fx:∀{v:Ac V}{d:Ac D},Z9 K CL H (BN B U Y) v d->Z9 K CL H' (BN B (U.set i (Aa (.lst ds,Ab))) (Y.set i (Aa (.ref a)))) v d:=λr=>(Z9.wide (λb hb=>(sub b hb).imp id λe=>by rw[e];exact h0) _ r).same s
 refine⟨⟨λj e h=>?_,λj e h hn=>?_,by rw[AT,AT];exact x.len⟩,λb h=>?_,λj e b g1 g2=>?_,λj k e f b g1 g2 g3 g4=>?_,λb o z=>s _ _ (x.same b o z),by rw[AT,AT];exact x.len,λj h=>?_⟩
 .have hj:i≠j:=by
   rintro rfl;have:=Ee h;cases this
  rw[Bu hj]at h;obtain⟨w',q,xh⟩:=x.good.sh j e h;exact⟨w',by rw[Bu hj];exact q,wide xh⟩
 .rcases own j e h with ⟨hj,rfl⟩|⟨hj,h'⟩
  .have q:=vv h hj;exact⟨a,xs,ds,q,rfl,.inr ⟨j,_,h,q⟩,h1,Z9.sub sub _ r⟩
  .obtain⟨b,ys,es,q,z,ha,hh,rr⟩:=x.good.ow j e h' hn;have q':(Y.set i (Aa (.ref a)))[j]?=Aa (Aa (.ref b)):=by rw[Bu hj];exact q
   exact⟨b,ys,es,q',z,.inr ⟨j,e,h,q'⟩,s _ _ hh,fx rr⟩
 .rcases sub b h with z|z
  .obtain⟨ys,q,w⟩:=x.aok b z;exact⟨ys,s _ _ q,w⟩
  .rw[z];exact⟨_,h1,trivial⟩
 .rcases own j e g1 with ⟨hj,_⟩|⟨hj,h'⟩
  .rw[vv g1 hj]at g2;cases g2;refine⟨λo z=>?_,λz=>nA (.inl z)⟩
   have:=x.same a o z;rw[h0]at this;cases this
  .rw[Bu hj]at g2;exact x.new j e b h' g2
 .rcases own j e g1 with ⟨hj,_⟩|⟨hj,h'⟩
  .rw[vv g1 hj]at g3;cases g3;rcases own k f g2 with ⟨hk,_⟩|⟨hk,xm⟩
   .exact hj.symm.trans hk
   .rw[Bu hk]at g4;exact absurd (.inr ⟨k,f,xm,g4⟩) nA
  .rw[Bu hj]at g3;rcases own k f g2 with ⟨hk,_⟩|⟨hk,xm⟩
   .rw[vv g2 hk]at g4;cases g4;exact absurd (.inr ⟨j,e,h',g3⟩) nA
   .rw[Bu hk]at g4;exact x.dis j k e f b h' xm g3 g4
 .rcases own j _ h with ⟨_,z⟩|⟨hj,h'⟩
  .cases z
  .obtain⟨b,ys,p1,p2,p3⟩:=x.pin j h';exact⟨b,ys,p1,by rw[Bu hj];exact p2,s _ _ p3⟩
theorem Sx.upd(x:Sx K CL Fz B U Y H){i:Ag}{d:D}{a:Ak}{xs:Ac V}{ds:Ac D}(hi:U[i]?=Aa (Aa (d,Ab)))(ha:Y[i]?=Aa (Aa (.ref a)))(r:Z9 K CL H (BN B U Y) xs ds):Sx K CL Fz B (U.set i (Aa (.lst ds,Ab))) Y (L2.upd H a (.lst xs)):=by
 have oa:BN B U Y a:=.inr ⟨i,d,hi,ha⟩;have hil:i<U.length:=(A5.mp hi).1;have get:∀(j:Ag)(e:D),(U.set i (Aa (.lst ds,Ab)))[j]?=Aa (Aa (e,Ab))↔(i=j/\e=.lst ds)\/(i≠j/\U[j]?=Aa (Aa (e,Ab))):=λj e=>by
  by_cases hj:i=j
  .subst hj;rw[By hil];simp;exact⟨λz=>z.symm,λz=>z.symm⟩
  .rw[Bu hj];simp[hj]
 have same:∀ b,BN B (U.set i (Aa (.lst ds,Ab))) Y b↔BN B U Y b:=λb=>by
  constructor
  .rintro (h|⟨j,e,h1,h2⟩)
   .exact .inl h
   .rcases (get j e).mp h1 with ⟨rfl,_⟩|⟨_,h1⟩
    .exact .inr ⟨i,d,hi,h2⟩
    .exact .inr ⟨j,e,h1,h2⟩
  .rintro (h|⟨j,e,h1,h2⟩)
   .exact .inl h
   .by_cases hj:i=j
    .subst hj;exact .inr ⟨i,.lst ds,(get i _).mpr (.inl ⟨rfl,rfl⟩),h2⟩
    .exact .inr ⟨j,e,(get j e).mpr (.inr ⟨hj,h1⟩),h2⟩
 have kp:Kp (BN B U Y) H (L2.upd H a (.lst xs)):=λb o e na=>by
  have wz:b≠a:=by
   rintro rfl;exact na oa
  rw[AQ wz];exact e
 refine⟨⟨λj e h=>?_,λj e h hn=>?_,by rw[AT];exact x.len⟩,λb h=>?_,λj e b g1 g2=>?_,λj k e f b g1 g2 g3 g4=>?_,λb o z=>?_,by rw[AT];exact x.len,λj h=>?_⟩
 .have hj:i≠j:=by
   rintro rfl;have:=Ee h;cases this
  rw[Bu hj]at h;obtain⟨w',q,xh⟩:=x.good.sh j e h;exact⟨w',q,Z7.sub (λb hb=>(same b).mp hb) _ (Z7.kp kp _ xh)⟩
 .rcases (get j e).mp h with ⟨rfl,rfl⟩|⟨hj,h'⟩
  .exact⟨a,xs,ds,ha,rfl,(same a).mpr oa,BO,Z9.sub (λb hb=>(same b).mp hb) _ (Z9.kp kp _ r)⟩
  .obtain⟨b,ys,es,q,z,hb,hh,rr⟩:=x.good.ow j e h' hn;have wz:b≠a:=λz=>hj (x.dis i j d e a hi h' ha (z ▸ q))
   exact⟨b,ys,es,q,z,(same b).mpr hb,by rw[AQ wz];exact hh,Z9.sub (λb hb=>(same b).mp hb) _ (Z9.kp kp _ rr)⟩
 .obtain⟨ys,q,w⟩:=x.aok b ((same b).mp h);by_cases e:b=a
  .rw[e];exact⟨_,BO,trivial⟩
  .exact⟨ys,by rw[AQ e];exact q,w⟩
 .rcases (get j e).mp g1 with ⟨rfl,_⟩|⟨_,h'⟩
  .exact x.new i d b hi g2
  .exact x.new j e b h' g2
 .rcases (get j e).mp g1 with ⟨rfl,_⟩|⟨hj,h'⟩
  .rcases (get k f).mp g2 with ⟨rfl,_⟩|⟨hk,xm⟩
   .rfl
   .exact x.dis i k d f b hi xm g3 g4
  .rcases (get k f).mp g2 with ⟨rfl,_⟩|⟨hk,xm⟩
   .exact x.dis j i e d b h' hi g3 g4
   .exact x.dis j k e f b h' xm g3 g4
 .have wz:b≠a:=λe=>(x.new i d a hi ha).1 o (e ▸ z)
  rw[AQ wz];exact x.same b o z
 .rcases (get j _).mp h with ⟨_,z⟩|⟨hj,h'⟩
  .cases z
  .obtain⟨b,ys,p1,p2,p3⟩:=x.pin j h';have wz:b≠a:=λz=>hj (x.dis i j d _ a hi h' ha (z ▸ p2))
   exact⟨b,ys,p1,p2,by rw[AQ wz];exact p3⟩
theorem Sx.rel(x:Sx K CL Fz B U Y H)(hi:U[i]?=Aa (Aa (d,Ab)))(hn:d≠.non):Sx K CL Fz B (U.set i (Aa (d,Af))) Y H:=by
 obtain⟨a,xs,ds,q,rfl,oa,hh,rr⟩:=x.good.ow i d hi hn;have own:∀(j:Ag)(e:D),(U.set i (Aa (.lst ds,Af)))[j]?=Aa (Aa (e,Ab))->i≠j/\U[j]?=Aa (Aa (e,Ab)):=λj e h=>by
  by_cases hj:i=j
  .subst hj;have:=Ee h;cases this
  .exact⟨hj,by rw[Bu hj]at h;exact h⟩
 have sub:∀ b,BN B (U.set i (Aa (.lst ds,Af))) Y b->BN B U Y b:=λb h=>by
  rcases h with h|⟨j,e,h1,h2⟩
  .exact .inl h
  .exact .inr ⟨j,e,(own j e h1).2,h2⟩
 have na:¬ BN B (U.set i (Aa (.lst ds,Af))) Y a:=λh=>by
  rcases h with h|⟨j,e,h1,h2⟩
  .exact(x.new i _ a hi q).2 h
  .obtain⟨hj,h1⟩:=own j e h1;exact hj (x.dis i j _ e a hi h1 q h2)
 refine⟨⟨λj e h=>?_,λj e h hn=>?_,by rw[AT];exact x.len⟩,λb h=>x.aok b (sub b h),λj e b g1 g2=>x.new j e b (own j e g1).2 g2,λj k e f b g1 g2 g3 g4=>x.dis j k e f b (own j e g1).2 (own k f g2).2 g3 g4,x.same,by rw[AT];exact x.len,λj h=>x.pin j (own j _ h).2⟩
 .by_cases hj:i=j
  .subst hj;have e1:=Ee h;cases e1;exact⟨_,q,a,xs,rfl,.inl na,Id.of hh,Z9.sub sub _ rr⟩
  .rw[Bu hj]at h;obtain⟨w',q',xh⟩:=x.good.sh j e h;exact⟨w',q',Z7.sub sub _ xh⟩
 .obtain⟨hj,h'⟩:=own j e h;obtain⟨b,ys,es,q',z,hb,hh',rr'⟩:=x.good.ow j e h' hn;exact⟨b,ys,es,q',z,.inr ⟨j,e,h,q'⟩,hh',Z9.sub sub _ rr'⟩
end
section
variable{X:Cx}{CL:ClA}{W:XW}{pos:AF}{e:Aq}{fe:Rho->R D}{fr:An}
theorem B4.exC{f:D->O}(x:Sx X.K CL Fz B U Y H)(h:B4 X.K CL Fz B W (O.of U r f) D')(k:∀ d v H',r=.ok d->Az H H'->Cw X.K CL fr H A H' v d->Sx X.K CL Fz B U Y H'->B4 X.K CL Fz B W (f d) D'->Q v H'):AW (Cw X.K CL fr H A) W H r Q:=by
 cases r with
 |ok d=>exact λv H' s r=>k d v H' rfl s r (x.grow s) h
 |exn y=>exact λH' s=>h H' λb o z=>s _ _ (x.same b o z)
 |bad=>exact h
def gk(X:Cx)(CL:ClA)(W:XW)(fr:An)(i:Ag)(st:AL)(f:Rho->R D):Prop:=∀ A,PS X st (O6 (λY H Q=>Tm H A/\∃ U,Y9 X.K CL A U Y H/\AW (Cw X.K CL fr H A) W H (f U) Q) (G0 i))
theorem SC.sas{n:Ah}(hN:X.N.Nodup)(hi:X.N[i]?=Aa n)(hx:qc X.env.scope n)(he:SC X CL W fr e fe)(hs:Dq e (Aa (.Name n pos')) pos.line X.env=pure Af)(hf:X.fn n=Ab\/X.env.scope.names.lookup n=Aa .local):gk X CL W fr i (.Assign [.Name n pos'] e pos) fe:=
 λA=>EE hN hi hx (he A) hs hf
theorem eL{n:Ah}{fe:Rho->R D}{g:TG}(hc:X.calm=Ab)(B:zx X scope N' ts)(hi:SI X CL W tg iter fi)(ue:GG X.K CL ts as g)(hg:∀ cl C s H fp,PG (zc X scope cl C N' s H fp) tg g)(ht:∀ cl C s H fp,jr (zc X scope cl C N' s H fp) CL ifs fc)(he:∀ cl C s H fp,SE (zc X scope cl C N' s H fp) CL W0 elt fe)(hs:∀ x,CZ iter X.env x=pure x)(hN:X.N.Nodup)(rq:X.N[i]?=Aa n)(hx:X.env.scope.names.lookup n=Aa .local)(bt:Dq (.ListComp elt [⟨tg,iter,ifs,0⟩] scope pos) (Aa (.Name n pos')) pos2.line X.env=pure Ab):gk X CL W Ab i (.Assign [.Name n pos'] (.ListComp elt [⟨tg,iter,ifs,0⟩] scope pos) pos2) (λU=>(fi U).bind λxs=>(zk (Cu (λx=>(as x U).bind fc) (λx=>(as x U).bind fe) xs)).bind λys=>.ok (.lst ys)):=λA pI s Y H Dn I ⟨hA,U,gd,p⟩=>
 iO hc B (hi A) hg (λcl C s H fp=>ht cl C s H fp A) (λcl C s H fp=>he cl C s H fp A) hs hN rq hx bt pI s Y H Dn I ⟨hA,U,gd,Tb ue hA gd p⟩
theorem Vo{st:AL}(h:gk X CL W fr i st fe):SS X CL W st (λU=>O.of U (fe U) λd=>.next (U.set i (Aa (d,Af)))):=λFz B pI s Y H D I ⟨U,x,p⟩=>
 h (BN B U Y) pI s Y H D I ⟨x.aok,U,x.good,B4.exC x p λd v H' _ s r x' q=>q _ H' (x'.set i r.1)⟩
theorem UG{st:AL}(h:gk X CL W Ab i st fe):SS X CL W st (λU=>O.of U (fe U) λd=>setF U i d):=λFz B pI s Y H D I ⟨U,x,p⟩=>
 h (BN B U Y) pI s Y H D I ⟨x.aok,U,x.good,B4.exC x p λd v H' _ s r x' q=>by
  cases d with
  |lst ds=>
   obtain⟨a,xs,rfl,h0,h1,rs⟩:=r.2 rfl ds rfl;exact q _ H' (x.setF s h0 h1 rs)
  |dic ds=>exact r.1.elim
  | _=>exact q.elim⟩
theorem iV(he:SC X CL W Ab e fe):SS X CL W (.Return (Aa e) pos) (λU=>O.of U (fe U) λd=>.ret d Ab):=λFz B pI s Y H D I ⟨U,x,p⟩=>
 Hi (he (BN B U Y)) pI s Y H D I ⟨x.aok,U,x.good,B4.exC x p λd v H' _ s r x' q=>q v H' x'.same (Z7.sub (λa h=>.inl h) _ r.1) λ_ ds e=>by
  obtain⟨a,xs,h0,h1,h2,h3⟩:=r.2 rfl ds e;refine⟨a,xs,h0,λo z=>?_,h2,Z9.sub (λb hb=>hb.imp .inl id) _ h3⟩
  have:=x.same a o z;rw[h1]at this;cases this⟩
noncomputable def RT(U:Rho)(i:Ag):An:=match U[i]? with
  |some (Aa (_,o))=>o
  |_=>Af
theorem Ub(he:PE X e (Ch i)):SS X CL W (.Return (Aa e) pos) (λU=>O.of U (Da U i) λd=>.ret d (RT U i)):=λFz B pI s Y H D I ⟨U,x,p⟩=>
 Hi he pI s Y H D I (by
  dsimp only at p;cases e:Da U i with
  |bad=>rw[e]at p;exact p.elim
  |exn z=>exact(TL e).elim
  |ok d=>
   rw[e]at p;obtain⟨o,e,hn⟩:=Ui e;have eo:RT U i=o:=by unfold RT;rw[e]
   rw[O.of_ok,eo]at p;cases o with
   |false=>
    obtain⟨v,q,r⟩:=x.good.sh i d e;exact⟨v,q,p v H x.same (Z7.sub (λa h=>.inl h) _ r) λz=>nomatch z⟩
   |true=>
    obtain⟨a,xs,ds,q,rfl,ha,hh,r⟩:=x.good.ow i d e (hn rfl);obtain⟨n1,n2⟩:=x.new i _ a e q;refine⟨_,q,p _ H x.same ⟨a,xs,rfl,.inl n2,Id.of hh,Z9.sub (λa h=>.inl h) _ r⟩ λ_ vb e'=>?_⟩
    cases e';exact⟨a,xs,rfl,n1,hh,Z9.sub (λb hb=>hb.elim .inl λz=>z ▸ ha) _ r⟩)
theorem gY{ds:Ac D}(h:F6 U i=.ok ds):U[i]?=Aa (Aa (.lst ds,Ab)):=by
 unfold F6 at h;split at h
 .rename_i e;cases h;exact e
 .cases h
theorem eW{x:Ex}(h:F6 U i=.exn x):AM:=by
 unfold F6 at h;split at h<;>cases h
variable{o:Aq}{i:Ag}{apos cpos:AF}
theorem pB(ho:PE X o (Ch i))(he:SE X CL W e fe)(U7:BH o "append" X.env (eval o X.env)=eval o X.env)(yt:((Br cpos (Aw [e] X.env)).all (λx=>!x.1)&&(D9 cpos (Dg [] X.env)).all (λx=>x.1.isSome)&&decide ([e].length+([]:Ac CB).length+(if ([]:Ac CB).isEmpty then 0 else 1)<30))=Ab)(U6:(apos.endLine==cpos.line)=Ab)(hs:Aw [e] X.env=[(Af,eval e X.env)])(bt:Dq (.Call (.Attribute o "append" apos) [e] [] cpos) Ae pos.line X.env=pure Af):
  SS X CL W (.Expr (.Call (.Attribute o "append" apos) [e] [] cpos) pos) (λU=>O.of U (F6 U i) λxs=>O.of U (fe U) λd=>if Db (xs.length+1)=Ab then .next (U.set i (Aa (.lst (xs++[d]),Ab))) else .bad):=λFz B pI s Y H D I ⟨U,x,p⟩=>by
 refine Kc (IL BJ D5 D6 NO ho (Bv (he (BN B U Y)) Ca hs) U7 yt U6 hs rfl) bt pI s Y H D I ?_;dsimp only at p;cases e1:F6 U i with
 |bad=>rw[e1]at p;exact p.elim
 |exn z=>exact(eW e1).elim
 |ok ds=>
  rw[e1,O.of_ok]at p;have hi:=gY e1;obtain⟨a,xs,vb,q,e2,ha,hh,r⟩:=x.good.ow i _ hi (λz=>nomatch z)
  cases e2;refine⟨_,q,.inl ⟨rfl,xs,Id.of hh⟩,x.aok,U,x.good,B4.ex x p λd v H' _ s rv x' q'=>?_⟩
  split at q'
  .rename_i hz;refine⟨a,xs,v,rfl,rfl,s _ _ hh,?_,q' _ _ (x'.upd hi q ((r.same s).append ⟨rv,trivial⟩))⟩;have:=K8 hz;rw[r.length];omega
  .exact q'.elim
theorem iX{as:Ov.D->Rho->R Rho}{g:TG}(hGT:GT X.K CL as g)(hg:PG X tg g)(he:SE X CL W e fe)(hs:JV [tg] e pos.line X.env=pure Af)(hw:HE [tg] e X.env=pure Ae)(h1:(Cy [tg] X.env).map (·.2)=[assign tg X.env])(hax:∀ d U x,as d U≠.exn x):SS X CL W (.Assign [tg] e pos) (λU=>O.of U (fe U) λd=>O.of U (as d U) λU'=>.next U'):=λFz B pI s Y H D I ⟨U,x,p⟩=>
 oP (he (BN B U Y)) hg hs hw h1 pI s Y H D I ⟨x.aok,U,x.good,B4.ex x p λd v H' _ s rv x' q'=>by
  cases ea:as d U with
  |bad=>rw[ea]at q';exact q'.elim
  |exn z=>exact absurd ea (hax _ _ z)
  |ok U2=>
   rw[ea,O.of_ok]at q';exact hGT Fz B U Y H' v d U2 _ x' rv ea λY' x3=>q' Y' H' x3⟩
theorem iU{rest:Ac AL}{f:Rho->O}(i:Ag)(h:wc X CL W rest f):wc X CL W rest (λU=>(match U[i]? with
   |some (Aa (d,Ab))=>Wv U i d
   | _=>O.next U).seq f):=λFz B=>yp.weak (h Fz B) λD Y H ⟨U,x,p⟩=>by
 dsimp only at p;split at p
 .rename_i d e;cases d with
  |lst xs=>exact⟨_,x.rel e (λz=>nomatch z),p⟩
  |_=>exact p.elim
 .exact⟨U,x,p⟩
end
section
variable{X:Cx}{CL:ClA}{W:XW}{pos:AF}{e k o:Aq}{fe fk:Rho->R D}{i:Ag}{apos cpos:AF}
theorem A1.take(r:A1 xs its):∀ n,A1 (xs.take n) (its.take n):=by
 induction r with
 |nil=>intro n;simp;exact .nil
 |cons h _ ih=>
  intro n;cases n with
  |zero=>exact .nil
  |succ n=>exact .cons h (ih n)
theorem A1.drop(r:A1 xs its):∀ n,A1 (xs.drop n) (its.drop n):=by
 induction r with
 |nil=>intro n;simp;exact .nil
 |cons h t ih=>
  intro n;cases n with
  |zero=>exact .cons h t
  |succ n=>exact ih n
end
section
variable{prog:AK}{w:AI}{A:A4}{E:Vq}{s:Ar}
end
def JJ(t:An)(h:AJ)(j l:Ak)(i:Ag):Prop:=match t with
  |true=>h.IsTupleIter j l i
  |false=>h.IsListIter j l i
def KQ(t:An)(h:AJ)(l:Ak)(its:Bl Al):Prop:=match t with
  |true=>h.IsTuple l its
  |false=>h.IsList l its
theorem nb2{I l c:Ag}(b:l<I)(h:c∈[I+1,l]):c≠I/\c≠I+3/\c≠I+4:=by
 have h':c=I+1\/c=l:=by simpa using h
 omega
section
variable{prog:AK}{w:AI}{A:A4}{E:Vq}{s:Ar}
end
theorem JJ.at'{j:Ak}(z:JJ t h j l i)(k:∀ o,h.get? j=Aa o->h2.get? j=Aa o):JJ t h2 j l i:=by
 cases t with
 |true=>exact PySem.Heap.IsTupleIter.at z k
 |false=>exact PySem.Heap.IsListIter.at z k
section
variable{prog:AK}{w:AI}{A:A4}{E:Vq}{s:Ar}
theorem KQ.push{its:Bl Al}(z:KQ t h l its)(o:CW):KQ t (h.push o) l its:=by
 cases t with
 |true=>exact PySem.Heap.IsTuple.at z λ_ e=>AB _ e
 |false=>exact PySem.Heap.IsList.at z λ_ e=>AB _ e
end
theorem KQ.lt{its:Bl Al}(z:KQ t h a its):a<h.objs.size:=by
 cases t with
 |true=>obtain⟨o,e,_⟩:=z;exact AS e
 |false=>obtain⟨o,e,_⟩:=z;exact AS e
section
variable{X:Cx}{CL:ClA}{W:XW}{pos p:AF}{a b:Aq}{fa fb:Rho->R D}
end
theorem JJ.keep{l:Ag}(z:JJ t h j l i)(k:∀ o,h.get? j=Aa o->h2.get? j=Aa o):JJ t h2 j l i:=by
 cases t with
 |true=>exact PySem.Heap.IsTupleIter.at z k
 |false=>exact PySem.Heap.IsListIter.at z k
section
variable{prog:AK}{w:AI}{A:A4}{E:Vq}{s:Ar}
end
section
variable{X:Cx}{CL:ClA}{W:XW}{pos p:AF}{a:Aq}{fa:Rho->R D}
end
noncomputable abbrev W1(h:AJ)(z TI TO:Ak)(f0 f1:Al):Prop:=h.get? z=Aa { cls:=.type "zip",dict:=Ae,data:=.fields #[f0,f1,.bool Af,.ref TI,.ref TO],slots:=#[] }
noncomputable abbrev W2(h:AJ)(T:Ak)(a b c:Al):Prop:=h.get? T=Aa { cls:=.type "tuple",data:=.seq #[a,b,c] }
section
variable{prog:AK}{w:AI}{A:A4}{E:Vq}{s:Ar}
def ju(t1 t2 t3:An)(I l1 l2 l3 i:Ag)(h:AJ):Prop:=W2 h (I+3) (.ref (I+0)) (.ref (I+1)) (.ref (I+2))/\JJ t1 h (I+0) l1 i/\JJ t2 h (I+1) l2 i/\JJ t3 h (I+2) l3 i/\(∃ a b c,W2 h (I+4) a b c) /\
 (W1 h (I+5) (I+3) (I+4) .none (.bool Af)\/∃(T1:Ag)(f1:An),W1 h (I+5) (I+3) (I+4) (HA T1) (.bool f1))
end
section
variable{prog:AK}{w:AI}{A:A4}{R:Ii->Ar->Prop}
theorem KQ.at'{its:Bl Al}(z:KQ t h l its)(k:∀ o,h.get? l=Aa o->h2.get? l=Aa o):KQ t h2 l its:=by
 cases t with
 |true=>exact PySem.Heap.IsTuple.at z k
 |false=>exact PySem.Heap.IsList.at z k
theorem ju.at'{t1 t2 t3:An}{I l1 l2 l3 i:Ag}{h h2:AJ}(z:ju t1 t2 t3 I l1 l2 l3 i h)(k:∀ j,j<=5->∀ o,h.get? (I+j)=Aa o->h2.get? (I+j)=Aa o):ju t1 t2 t3 I l1 l2 l3 i h2:=by
 obtain⟨zI,i1,i2,i3,⟨a,b,c,hO⟩,zz⟩:=z;exact⟨k 3 (by decide) _ zI,i1.at' λo q=>k 0 (by decide) o q,i2.at' λo q=>k 1 (by decide) o q,i3.at' λo q=>k 2 (by decide) o q,⟨a,b,c,k 4 (by decide) _ hO⟩,zz.imp (k 5 (by decide) _) λ⟨T1,f1,hz⟩=>⟨T1,f1,k 5 (by decide) _ hz⟩⟩
end
section
variable{prog:AK}{w:AI}{A:A4}{E:Vq}{s:Ar}
end
theorem ju.ty{t1 t2 t3:An}{I l1 l2 l3 i:Ag}(z:ju t1 t2 t3 I l1 l2 l3 i s.heap):s.TypeIs (.ref (I+5)) "zip" := by
 obtain⟨_,_,_,_,_,hz|⟨_,_,hz⟩⟩:=z
 .exact⟨_,hz,rfl⟩
 .exact⟨_,hz,rfl⟩
theorem ju.lt{t1 t2 t3:An}{I l1 l2 l3 i:Ag}(z:ju t1 t2 t3 I l1 l2 l3 i s.heap):I+5<s.heap.objs.size:=by
 obtain⟨o,h,_⟩:=z.ty;exact AS h
section
variable{prog:AK}{w:AI}{A:A4}{E:Vq}{s:Ar}
end
section
variable{X:Cx}{CL:ClA}{W:XW}{pos p pos' p':AF}{a b c:Aq}{fa fb fc:Rho->R D}
end
section
variable{X:Cx}{CL:ClA}{W:XW}{pos p ez:AF}{a b c:Aq}{fa fb fc:Rho->R D}{x:Ah}
end
section
variable{X:Cx}{CL:ClA}{W:XW}{a:Aq}{fa:Rho->R D}
end
section
variable{X:Cx}{CL:ClA}{W:XW}{o o' e:Aq}{fe:Rho->R D}{i j:Ag}{apos cpos apos' cpos' pos:AF}
end
theorem UO{e:Al->An}{f:D->An}:∀{its:Ac Al}{ds:Ac D},its.length=ds.length->(∀ j (h:j<its.length),e its[j]=f (ds.getD j .non))->its.countP e=(ds.filter f).length
 |[],[],_,_=>rfl
 |y::its,d::ds,hl,h=>by
  have h0:e y=f d:=h 0 (by simp)
  have ih:=UO (its:=its) (ds:=ds) (by simpa using hl) λj hj=>by
   have:=h (j+1) (by simpa using hj)
   simpa using this
  rw[List.countP_cons,List.filter_cons,ih,h0];cases f d<;>simp
 |[],_::_,hl,_=>by simp at hl
 |_::_,[],hl,_=>by simp at hl
section
variable{X:Cx}{CL:ClA}{W:XW}
theorem VV(I:Z8 X pI Y H s){ds:Ac D}(B:A4)(hd:Y8 n d=Ab)(hs:ds.all (Y8 n)=Ab)(r:Z9 X.K CL H A0 xs ds)(rv:A1 xs its)(q:Z7 X.K CL H A0 v d)(qv:Bt v u)(hu:B.units+n<Bx):∃ e:Al->An,(∀ y,y∈its.toArray->Ej B s y u (e y))/\∀ j (h:j<its.length),e its[j]=My (ds.getD j .non) d:=by
 have l1:=rv.length;have l2:=r.length
 have key:∀ y,y∈its->∃ k:An,Ej B s y u k/\∀ j (h:j<its.length),its[j]=y->My (ds.getD j .non) d=k:=λy hy=>by
  obtain⟨j,hj,rfl⟩:=Fb hy;obtain⟨x,rx,qx⟩:=Jz r rv hj;refine⟨My (ds.getD j .non) d,(Mb I n _ _ x v _ _ B (IE hs j) hd rx q qx qv hu).2.1,λj' ix e=>?_⟩
  obtain⟨x',jg,cz⟩:=Jz r rv ix;rw[e]at cz;have z:=Bt.inj qx cz;subst z;rw[MW I n _ _ (IE hs j') (IE hs j) jg rx]
 have wu:∀ y,∃ k:An,y∈its->Ej B s y u k/\∀ j (h:j<its.length),its[j]=y->My (ds.getD j .non) d=k:=λy=>by
  by_cases hy:y∈its
  .obtain⟨k,hk⟩:=key y hy;exact⟨k,λ_=>hk⟩
  .exact⟨Ab,λh=>absurd h hy⟩
 exact⟨λy=>Xx (wu y),λy hy=>(DN (wu y) (by simpa using hy)).1,λj hj=>((DN (wu its[j]) (EM _)).2 j hj rfl).symm⟩
def oK(K:Fg)(CL:ClA):V->Ac V->Hp->VK->Prop:=λx vs H Q=>∃ l xs ds v d,x=.ref l/\vs=[v]/\Id K H l xs/\Z9 K CL H A0 xs ds/\Z7 K CL H A0 v d/\Y8 5 d=Ab/\ds.all (Y8 5)=Ab/\Q (.int ((ds.filter λy=>My y d).length:Ag)) H
theorem P7(hu:X.A.units+64<Bx):qd X "list.count" (oK X.K CL):=by
 intro pI s Y H x vs v us Q I rx rv h;obtain⟨l,xs,ds,y,d,rfl,rfl,sq,rs,ry,h1,h2,q⟩:=h;cases rx;obtain⟨u,rfl,ru⟩:=rv.one;obtain⟨its,r,pl,hz⟩:=I.list sq;obtain⟨⟨c,dct,dt,sl⟩,n,e,hc,hd,oy⟩:=pl;obtain⟨f,hf,hn⟩:=VV I (n:=5) X.A.in1 h1 h2 rs r ry ru (by show X.A.units+1+5<Bx;omega)
 replace hc:c=.type "list" := hc;replace oy:dt=.seq its.toArray n:=oy;subst hc oy;refine EQ Ed ⟨_,e,rfl⟩ PySem.F.entry_list_count (PySem.F.args_list_count_2 _ _) (SeqAt.list_countAt l its.toArray n dct sl u f) ⟨e,hf,?_⟩;refine⟨.int _,H,I.tok _,⟨_,rfl⟩,?_⟩;rw[UO (f:=λy=>My y d) (by rw[<-r.length,rs.length]) hn]
 exact q
theorem eE{o y:Aq}{apos cpos:AF}{fo:Rho->R D}{j:Ai}(hu:X.A.units+64<Bx)(ho:ST X CL W o fo)(hy:SE X CL W y (λ_=>.ok (.int j)))(U7:BH o "count" X.env (eval o X.env)=eval o X.env)(yt:((Br cpos (Aw [y] X.env)).all (λx=>!x.1)&&(D9 cpos (Dg [] X.env)).all (λx=>x.1.isSome)&&decide ([y].length+([]:Ac CB).length+(if ([]:Ac CB).isEmpty then 0 else 1)<30))=Ab)(U6:(apos.endLine==cpos.line)=Ab)(hs:Aw [y] X.env=[(Af,eval y X.env)]):
  SE X CL W (.Call (.Attribute o "count" apos) [y] [] cpos) (λU=>(fo U).bind λx=>zr .count [x,.int j]):=λA=>
 PE.weak (IL BJ Ed F0 (P7 (CL:=CL) hu) (ho A) (Bv (hy A) Ca hs) U7 yt U6 hs rfl) λY H Q ⟨hA,U,g,p⟩=>⟨hA,U,g,AW.bind p λd v H1 _ s1 r1 p1=>by
  cases d with
  |lst ds=>
   obtain⟨a,xs,rfl,sq,rs⟩:=r1.lst_of;refine⟨.inl ⟨rfl,xs,sq⟩,hA.same s1,U,g.same s1,λv' H2 s2 r2=>?_⟩
   have r3:Z7 X.K CL H2 A0 (.ref a) (.lst ds):=(Cv.same s2 r1).plain;obtain⟨a',mq,e',_,lq,w5⟩:=r3;cases e';replace p1:AW (λH=>Z7 X.K CL H A) W H1 (if (Y8 5 (.int j)&&ds.all (Y8 5))=Ab then .ok (.int ((ds.filter λy=>My y (.int j)).length:Ag)) else .bad) Q:=p1
   split at p1
   .rename_i h;simp only[Am]at h;have e2:v'=.int j:=r2;subst e2;exact⟨a,mq,ds,.int j,.int j,rfl,rfl,lq,w5,rfl,h.1,h.2,p1 _ H2 s2 rfl⟩
   .exact p1.elim
  | _=>exact p1.elim⟩
end
section
variable{X:Cx}
variable{CL:ClA}{W:XW}{pos p pos' p':AF}{a b:Aq}{fa fb:Rho->R D}
end
section
variable{X:Cx}{CL:ClA}{W:XW}{e o o' k l:Aq}{fe:Rho->R Ov.D}{i ik il:Ag}{pos spos spos' ez:AF}{kt:Ag}
end
section
variable{prog:AK}{w:AI}{A:A4}{E:Vq}{s:Ar}
theorem Ta{it t:Ak}{items:Bl Al}(wz:t≠it):∀(n i:Ag)(s:Ar)(Q:Ac Al->Ar->Prop),s.heap.IsListIter it t i->s.heap.IsList t items->i+n<=items.size->(∀ h',h'.IsListIter it t (i+n)->FD it s.heap h'->Q ((items.toList.drop i).take n) {s with heap:=h'})->AA (model prog w) A (draw (.ref it) n) Q E s
 |0,i,s,Q,hit,_,_,hQ=>by
  show AA _ _ (pure []) Q E s;exact A2 (by simpa using hQ s.heap hit (Zb ..))
 |n+1,i,s,Q,hit,ht,hle,hQ=>by
  have yn:i<items.size:=by omega
  show AA _ _ (MD (.ref it) >>= _) Q E s;refine As (Z_1 hit ht (x:=items[i]) (by simp[yn]) λh₁ kj bu=>?_)
  refine As (Ck (Ta wz n (i+1) _ _ kj (ht.extBut bu.extBut wz) (by omega) λh₂ hit₂ hs₂=>A2 ?_))
  have hd:items.toList.drop i=items[i]::items.toList.drop (i+1):=by simp[DW,yn]
  have:=hQ h₂ (by rw[show i+(n+1)=i+1+n by omega];exact hit₂) (bu.trans hs₂)
  rwa [hd,List.take_succ_cons]at this
theorem Z_5{t:Ak}{Q:Ac Al->Ar->Prop}(hh:A.handled=Ae)(ht:s.heap.IsList t items)(hQ:∀ h',Y_9 s.heap.objs.size s.heap h'->Q items.toList {s with heap:=h'}):AA (model prog w) A (unpackItems (.ref t) items.size Ae) Q E s:=by
 have yn:t≠s.heap.objs.size:=by obtain⟨o,ho,_⟩:=ht;exact BB (AS ho)
 have Í:(s.heap.push { cls:=.type "list_iterator",data:=.fields #[.ref t,.int 0 0] }).IsList t items:=by
  obtain⟨o,ho,r⟩:=ht;exact⟨o,AB _ ho,r⟩
 unfold unpackItems;refine As ?_
 .unfold notIterableAtAll;refine As (wpAny_specialOf ht.typeIs slot_list_iter.lookup ?_);refine A2 ?_;simp only[Xv,JO];refine As (Ck (HU ht ?_));refine As (Ck (Ta yn items.size 0 _ _ ⟨_,Bp _ rfl,rfl,rfl⟩ Í (by omega) λh₁ kj bu=>?_))
  have ka:List.take items.size (List.drop 0 items.toList)=items.toList:=by
   rw[XQ];exact List.take_of_length_le (by simp)
  rw[ka];rw[Ay (by simp)]
  have ht₁:h₁.IsList t items:=Í.extBut bu.extBut yn;refine As (Ck (Z_0 hh kj ht₁ (by simp) λh₂ he₂=>?_))
  simp only[Option.isSome_none,Xv,JO];refine A2 (hQ h₂ λb o hb e=>he₂ b o hb (bu.extBut b o hb (AB _ e)))
theorem Z_4{ot:Ac Aq}{x1}{t:Ak}{Q:Ea->Ar->Prop}(hh:A.handled=Ae)(ht:s.heap.IsList t items) (hn:(Cy ot env).length=items.size) (bq:(Cy ot env).findIdx? (·.1)=Ae) (h:∀ h',Y_9 s.heap.objs.size s.heap h'->AA (model prog w) A (assignInOrder ((Cy ot env).map (·.2)) items.toList) Q E {s with heap:=h'}):AA (model prog w) A (assign (.Tuple ot x1 pos) env (.ref t)) Q E s:=by
 rw[assign_Tuple];refine As (CT ?_);unfold unpack;rw[hn,bq];exact As (Ck (Z_5 hh ht h))
end
section
variable{X:Cx}{pos:AF}{CL:ClA}
def gSq(K:Fg)(n:Ag)(t:TGs):TG:=λv Y H Q=>OY K n t v Y H Q\/∃ a xs,v=.ref a/\Id K H a xs/\xs.length=n/\t xs Y H Q
theorem wV{k:Ag}{t:TGs}(hc:X.calm=Ab)(h:gi X es t)(hn:(Cy es X.env).length=n)(yu:(Cy es X.env).findIdx? (·.1)=Ae):PG X (.Tuple es k pos) (gSq X.K n t):=by
 intro pI s Y H v u Q I r hw;rcases hw with hw|hw
 .exact VB hc h hn yu pI s Y H v u Q I r hw
 .obtain⟨a,xs,e1,hq,hl,hw⟩:=hw;subst e1;cases r;obtain⟨its,rv,ht,hz⟩:=I.list hq;refine Z_4 (I.ok.hd hc) ht.isList (by simp[hn,<-hl,rv.length]) yu λh' hx=>?_
  have I1:Z8 X pI Y H {s with heap:=h'}:=I.kept (t':=s.toks) λb o e=>hx b o (BB (AS e)) e
  exact h pI _ Y H xs _ Q I1 (by simpa using rv) hw
theorem vA(ts:Ac Ag):GT K CL (Ni ts) (gSq K ts.length (ts.foldr (λt u=>Lm (G0 t) u) Ly)):=λFz B U Y H v d U' Q x r e k=>by
 cases d with
 |lst ds=>
  obtain⟨a,xs,rfl,na,sq,rs⟩:=r;rw[cP]at e;cases e2:IJ ts ds U with
  |none=>rw[e2]at e;cases e
  |some U2=>
   rw[e2]at e;cases e;exact .inr ⟨a,xs,rfl,sq,by rw[rs.length];exact Pt _ _ _ _ e2,QY ts ds xs U _ Y Q x rs e2 k⟩
 |_=>exact .inl (VL ts Fz B U Y H v _ U' Q x r e k)
end
section
variable{X:Cx}{CL:ClA}{W:XW}
end
end Ov
namespace Ov
open PySem PySem.W PyProof.Rows
variable{p:Bl Ag}{m:Ag}
def Kr{α:Type}(lt:Ag->Ag->An)(n:Ag):KasT α->(α->Prop)->Prop
 |.ret a,Q=>Q a
 |.ask i j k,Q=>i<n/\j<n/\Kr lt n (k (lt i j)) Q
theorem Kr.mono{α:Type}{lt:Ag->Ag->An}{n:Ag}{Q Q':α->Prop}:∀{t:KasT α},Kr lt n t Q->(∀ a,Q a->Q' a)->Kr lt n t Q'
 |.ret _,h,k=>k _ h
 |.ask i j f,h,k=>⟨h.1,h.2.1,Kr.mono (t:=f (lt i j)) h.2.2 k⟩
theorem Kr.bind{α β:Type}{lt:Ag->Ag->An}{n:Ag}{f:α->KasT β}{Q:β->Prop}:∀{t:KasT α},Kr lt n t (λa=>Kr lt n (f a) Q)->Kr lt n (t.bind f) Q
 |.ret _,h=>h
 |.ask i j k,h=>⟨h.1,h.2.1,Kr.bind (t:=k (lt i j)) h.2.2⟩
structure Sto (lt:Ag->Ag->An) (n:Ag):Prop where
 tr:∀ i j k,i<n->j<n->k<n->lt i j=Ab->lt j k=Ab->lt i k=Ab
 tot:∀ i j,i<n->j<n->i≠j->lt i j=Af->lt j i=Ab
 asy:∀ i j,i<n->j<n->lt i j=Ab->lt j i=Af
noncomputable def qz(p:Bl Ag)(x:Ag):Ag:=p.getD x 0
structure Pm (n:Ag) (p:Bl Ag):Prop where
 sz:p.size=n
 lt:∀ x,x<n->qz p x<n
 inj:∀ x y,x<n->y<n->qz p x=qz p y->x=y
section
variable{lt:Ag->Ag->An}{n:Ag}
def RY(lt:Ag->Ag->An)(p:Bl Ag)(m:Ag):Prop:=∀ x y,x<y->y<m->lt (qz p x) (qz p y)=Ab
def R4(lt:Ag->Ag->An)(p:Bl Ag)(m:Ag):Prop:=∀ x y,x<y->y<m->lt (qz p y) (qz p x)=Ab
theorem RY.succ(S:Sto lt n)(hp:Pm n p)(h1:1<=m)(hm:m<n)(h:RY lt p m)(e:lt (qz p (m-1)) (qz p m)=Ab):RY lt p (m+1):=λx y hxy hy=>by
 by_cases hym:y<m
 .exact h x y hxy hym
 .have:y=m:=by omega
  subst this;by_cases hx:x=y-1
  .rw[hx];exact e
  .exact S.tr _ _ _ (hp.lt _ (by omega)) (hp.lt _ (by omega)) (hp.lt _ hm) (h x (y-1) (by omega) (by omega)) e
theorem R4.succ(S:Sto lt n)(hp:Pm n p)(h1:1<=m)(hm:m<n)(h:R4 lt p m)(e:lt (qz p m) (qz p (m-1))=Ab):R4 lt p (m+1):=λx y hxy hy=>by
 by_cases hym:y<m
 .exact h x y hxy hym
 .have:y=m:=by omega
  subst this;by_cases hx:x=y-1
  .rw[hx];exact e
  .exact S.tr _ _ _ (hp.lt _ hm) (hp.lt _ (by omega)) (hp.lt _ (by omega)) e (h x (y-1) (by omega) (by omega))
end
section
variable{prog:AK}{w:AI}{A:A4}{E:Vq}{κ:SortKind}{it:Bl Keyed}
end
section
variable{lt:Ag->Ag->An}{n:Ag}
end
def Qw(h:AJ)(v:Al)(r:Ac Ai):Prop:=∃ a its,v=.ref a/\LH h a its/\Jc its.toList r/\r≠[]
theorem Qw.kept{h h':AJ}{v:Al}{r:Ac Ai}(t:Qw h v r)(k:∀ b o,h.get? b=Aa o->h'.get? b=Aa o):Qw h' v r:=by
 obtain⟨a,its,e,⟨o,ho,q⟩,i,n⟩:=t;exact⟨a,its,e,⟨o,k _ _ ho,q⟩,i,n⟩
section
variable{prog:AK}{w:AI}{A:A4}{E:Vq}{s:Ar}
end
end Ov
section
namespace Ov
open PySem PySem.Spec PyProof.Rows L2
section
variable{X:Cx}{CL:ClA}{W:XW}
end
end Ov
end
section
namespace Ov
open PySem PySem.Spec PyProof.Rows
section
variable{t:SetTable}{hashAt:Ag->Ai}{h:Ai}
noncomputable def stand(i b:Ag):SetTable.Probe:=⟨i,0,i,b,Ae⟩
end
section
variable{prog:AK}{w:AI}{A:A4}{E:Vq}{s:Ar}{K:Type} [DecidableEq K] {knd:KeyKind prog w K}
end
section
variable{prog:AK}{w:AI}{A:A4}{R:Ii->Ar->Prop}{I:Ak}{fp wr:Ac Ak}{G:Bl En->Bl En->Prop}{n:Ag}{P:Ag->Al->Prop}{St:Ag->Ar->Prop}
end
section
variable{prog:AK}{w:AI}{A:A4}{E:Vq}{s:Ar}
end
end Ov
end
namespace Ov
open PySem PySem.Spec PyProof.Rows L2
variable{h h':AJ}{P:AK}{w:AI}{H H':Hp}{oe:CW}{vs:Bl Al}{Q:Ea->Ar->Prop}{T' C C' OV:Ak}{a0 cdv:Al}{X:Cx}{pI:Pn}{Y:L2.St}{K:Fg}{x name qual z par x0 x1 x2 txt dw:Ah}{v:Ao Al}{M:Ht}{tk:Ce}{fill expr:An}{φ:AJ->Prop}{CL:ClA}{Fz:Fr}{B A:Ak->Prop}{U:Rho}{W:XW}{hs b4:Ac AL}{h0:AL}{fh:Rho->O}{dx an od:Ao Ak}{Xw:Vq}{xn:Ag->Ac D->R Ex}{up:Ag->Ac Ag}{Rp:Hp->V->D->Prop}{kk k id:Ag}{scope:Cb}{osl:Bl (Ao Al)}{sp:Sp}{fd:Bi}{F FR:Ac D->R D}{p1 p2 p3 p4 p8 p10 pos apos p5 p6 cpos p7 p9 w4 wg ux uj uk ul vj um pf nu nv kz cj ja:AF}{ev e1 c1 c4:Aq}{outer:Ac B5}{fy fo:Rho->R D}{Z:Z4}{d1 d2 dd:D}{α:Type}{as:Es}{env:B5}{xs ys:Ac Aq}{ts:Ac Ag}{y1 y2:V}{tb:L2.St->XK->TS}
section
variable{X:Cx}
def O4(K:Fg)(H:Hp):Ac V->Ac (Ac Ai)->Prop
 |[],[]=>F3
 |x::xs,k::ks=>(∃ b,x=.ref b/\yy K H b (k.map V.int))/\O4 K H xs ks
 |_,_=>AM
theorem O4.length{K:Fg}{H:Hp}:∀{xs:Ac V}{ks:Ac (Ac Ai)},O4 K H xs ks->xs.length=ks.length
 |[],[],_=>rfl
 |_::_,_::_,h=>congrArg (· + 1) (O4.length h.2)
 |[],_::_,h=>h.elim
 |_::_,[],h=>h.elim
variable{CL:ClA}{W:XW}{pos p pos' p':AF}{a:Aq}{fa:Rho->R D}
end
section
end
section
variable{X:Cx}
variable{CL:ClA}{W:XW}{o e:Aq}{fe:Rho->R D}{i:Ag}{apos cpos pos:AF}
end
section
open PySem.AutoSeq1 (wpAny_loadPart')
end
section
variable{prog:AK}{w:AI}{A:A4}{R:Ii->Ar->Prop}{I S T:Ak}{u v:Al}{c:Ag}{P:Ag->Al->Prop}{St:Ag->AJ->Prop}{s:Ar}{r q:Ac Ai}
end
section
variable{X:Cx}{CL:ClA}{W:XW}
end
def Pd(e T:Ak)(cls:Al)(dx:Ao Ak)(fl:Al)(h:AJ):Prop:=∃ oe vs oT ts a0,h.get? e=Aa oe/\oe.cls=cls/\oe.dict=dx/\vs[0]?=Aa a0/\oe.data=.fields vs/\vs[1]?=Aa (.ref T)/\T≠e/\h.get? T=Aa oT/\oT.data=.fields ts/\ts[3]?=Aa fl
noncomputable abbrev vo(e T:Ak)(cls:Al)(dx:Ao Ak)(h:AJ):Prop:=Pd e T cls dx Du h
noncomputable def Gq(C:Ak)(dx:Ao Ak)(t:Ak):CW:={cls:=.ref C,dict:=dx,data:=.fields #[.ref t,.none,.none,.none,.bool Af,.none]}
structure zT (ex fs:Ac Ak) (h h':AJ):Prop where
 keep:∀ b o,h.get? b=Aa o->b∉ex->b∉fs->h'.get? b=Aa o
 slot:∀ b o,h.get? b=Aa o->b∈fs->∃ sl,h'.get? b=Aa {o with slots:=sl}
theorem zT.trans{ex fs:Ac Ak}{h1 h2:AJ}(a:zT ex fs h h1)(b:zT ex fs h1 h2):zT ex fs h h2:=
 ⟨λc o q n m=>b.keep c o (a.keep c o q n m) n m,λc o q m=>by
  obtain⟨sl,e1⟩:=a.slot c o q m;obtain⟨uy,e2⟩:=b.slot c _ e1 m;exact⟨uy,e2⟩⟩
theorem ObjOk.isThere{a:Ak}:∀(o:HO),L2.ObjOk P w H h a o->∃ ob,h.get? a=Aa ob
 |.lst _,x=>by obtain⟨_,_,_,_,e⟩:=x;exact⟨_,e⟩
 |.tup _,x=>by obtain⟨_,_,_,p⟩:=x;obtain⟨o,e,_⟩:=p;exact⟨_,e⟩
 |.dK _,x=>by obtain⟨_,_,_,_,o,_,_,e,_⟩:=x;exact⟨_,e⟩
 |.dT _,x=>by obtain⟨_,_,_,_,o,_,_,e,_⟩:=x;exact⟨_,e⟩
 |.set _ _,x=>by obtain⟨o,_,_,_,e,_⟩:=x;exact⟨_,e⟩
 |.ins _ _ _,x=>by obtain⟨_,_,_,e,_⟩:=x;exact⟨_,e⟩
 |.own _,x=>x
 |.xd _,x=>by obtain⟨_,⟨_,_,_,e,_⟩,_⟩:=x;exact⟨_,e⟩
 |.met _ _,x=>⟨_,x⟩
 |.rng _ _,x=>by obtain⟨_,_,_,e⟩:=x;exact⟨_,e⟩
 |.frz _ _,x=>⟨_,x.1⟩
 |.tbl _,x=>⟨_,x⟩
 |.ext _,x=>x.2.1
theorem L4{a:Ak}(x:zg P w H h)(e:h.get? a=Ae):H a=Ae:=by
 cases q:H a with
 |none=>rfl
 |some o=>
  obtain⟨ob,z⟩:=ObjOk.isThere o (x a o q);rw[e]at z;cases z
theorem zg.shift{ex fs:Ac Ak}(x:zg P w H h)(sh:zT ex fs h h')(h1:∀ b∈ex,H b=Ae)(h2:∀ b∈fs,H b=Ae):zg P w H h':=λa o e=>
 (x a o e).stay (λb u hb q=>by
  have hs:∃ v,H b=Aa v:=by
   rcases hb with rfl|hb
   .exact⟨_,e⟩
   .exact⟨_,hb⟩
  obtain⟨v,hv⟩:=hs;exact sh.keep b u q (λz=>by rw[h1 b z]at hv;cases hv) (λz=>by rw[h2 b z]at hv;cases hv)) (λ_ q=>q) λ_ _ q=>q
theorem Un.shift{Å fs ex:Ac Ak}{h0:AJ}(u:Un Å [] H H' h0 h)(sh:zT ex fs h h')(h1:∀ b∈ex,h0.get? b=Ae)(h2:∀ b∈fs,b∈Å\/h0.get? b=Ae):Un Å [] H H' h0 h' where
 keep:=λb o q n hb hx=>sh.keep b o (u.keep b o q n hb hx) (λz=>by rw[h1 b z]at q;cases q) λz=>(h2 b z).elim hb λe=>by rw[e]at q;cases q
 slot:=λb o q n hb hx=>by
  obtain⟨sl,e1⟩:=u.slot b o q n hb hx;by_cases hf:b∈fs
  .obtain⟨uy,e2⟩:=sh.slot b _ e1 hf;exact⟨uy,e2⟩
  .exact⟨sl,sh.keep b _ e1 (λz=>by rw[h1 b z]at q;cases q) hf⟩
 free:=u.free
 there:=λb o q hx=>by
  obtain⟨o',e1⟩:=u.there b o q hx;by_cases hf:b∈fs
  .obtain⟨uy,e2⟩:=sh.slot b _ e1 hf;exact⟨_,e2⟩
  .exact⟨o',sh.keep b _ e1 (λz=>by rw[h1 b z]at q;cases q) hf⟩
 tups:=u.tups
 frzs:=u.frzs
 tbls:=u.tbls
theorem jV(f:Bl Al->Bl Al)(o:CW):(Gf f o).dict=o.dict:=by
 obtain⟨c,d,dt,sl⟩:=o;cases dt<;>rfl
section
variable{M:Ht}{A:A4}{E:Vq}{s:Ar}{env:B5}{outer:Ac B5}{L e T:Ak}{cls:Al}{dx:Ao Ak}{base h:AJ}
theorem Ts{hd:Al}{nx:An}(xo:A.frames=Aa (env::outer))(hf:env.frame=Aa L)(ff:s.heap.FunFrames base (env::outer))(he:s.heap.get? e=Aa oe)(dt:oe.data=.fields vs)(hz:1<vs.size)(hQ:∀ h' T' oT ts,h'.get? e=Aa (Gf (·.setIfInBounds 1 (.ref T')) oe)->T'≠e->s.heap.get? T'=Ae->h'.get? T'=Aa oT->oT.data=.fields ts->ts[3]?=Aa (HA L)->zT [e] (yz (env::outer)) s.heap h'->Q () {s with heap:=h'}):
  AA M A (do
   let fr <-frameOf env
   let pl <-entryPlaceOf L nx
   let en <-Yx hd fr .none (HA L) .none pl
   setField (.ref e) 1 en) Q E s:=by
 have nf:e∉yz (env::outer):=λz=>by
  obtain⟨_,o,q,n⟩:=ff.mem z;rw[he]at q;cases q;exact n vs dt
 refine As (wpAny_frameOf_fun xo ff hf λk1 so=>As (wpAny_entryPlaceOf λpl ip=>?_))
 obtain⟨sz,sm,sl⟩:=so;have e1:k1.get? e=Aa oe:=(sm e nf).trans he;unfold Yx;unfold newFields;refine As (DV ?_ (ip.sizeOk5 _ _ _ _ _));generalize hX:({ cls:=.type "traceback",dict:=Ae,data:=.fields ([hd,.ref L,.none,HA L,.none]++(if pl.isEmpty then EA 6 Du else pl)).toArray }:CW)=ob
 have od:ob.data=.fields ([hd,.ref L,.none,HA L,.none]++(if pl.isEmpty then EA 6 Du else pl)).toArray:=by rw[<-hX]
 have nl:k1.objs.size≠e:=Yi (AS e1);have e2:=AB ob e1;refine Jj e2 dt hz ?_;have up:∀ b,b≠e->((k1.push ob).update e (Gf (·.setIfInBounds 1 (.ref k1.objs.size)))).get? b=(k1.push ob).get? b:=λb nb=>Dd _ _ (CG nb)
 have lf:ob.isFreed=Af:=by rw[<-hX];rfl
 refine hQ _ k1.objs.size ob _ (DO _ e2 (Gz (Ei dt _))) nl ?_ ((up _ nl).trans (Bp k1 lf)) od ?_ ⟨λb o q n1 n2=>?_,λb o q hb=>?_⟩
 .rw[sz];exact Dt (AU _)
 .simp
 .have nb:b≠e:=λz=>n1 (by rw[z];exact AY)
  rw[up b nb];exact AB ob ((sm b n2).trans q)
 .obtain⟨uy,q'⟩:=sl b o q;have nb:b≠e:=λz=>nf (z ▸ hb)
  exact⟨uy,(up b nb).trans (AB ob q')⟩
theorem S8{oT:CW}{ts:Bl Al}{fl:Al}(hc:oe.cls=cls)(hx:oe.dict=dx)(h0:vs[0]?=Aa a0)(dt:oe.data=.fields vs)(hz:1<vs.size)(g:h'.get? e=Aa (Gf (·.setIfInBounds 1 (.ref T')) oe))(ne:T'≠e)(gT:h'.get? T'=Aa oT)(dT:oT.data=.fields ts)(f3:ts[3]?=Aa fl):Pd e T' cls dx fl h':=
 ⟨_,_,oT,ts,a0,g,(Obj.cls_mapFields _ _).trans hc,(jV _ _).trans hx,by rw[Array.getElem?_setIfInBounds_ne (by decide)];exact h0,Ei dt _,by simp[hz],ne,gT,dT,f3⟩
theorem LR{i:Ag}{v:Al}(q:vs[i]?=Aa v):i<vs.size:=(Array.getElem?_eq_some_iff.mp q).1
theorem Ul(xo:A.frames=Aa (env::outer))(hf:env.frame=Aa L)(ff:s.heap.FunFrames base (env::outer))(fl:vo e T cls dx s.heap)(hQ:∀ h' T',Pd e T' cls dx (HA L) h'->zT [e,T] (yz (env::outer)) s.heap h'->s.heap.get? T'=Ae->Q () {s with heap:=h'}):AA M A (FG (.ref e) env) Q E s:=by
 obtain⟨oe,vs,oT,ts,a0,he,hc,hx,h0,dt,h1,ne,hT,dT,h3⟩:=fl;have z3:=LR h3;unfold FG;simp only[hf];refine As (E9 he dt h1 ?_);rw[Au (by simp:(Bm T != Du)=Ab)]
 refine As (E9 hT dT h3 ?_);rw[Ay (by simp[HA]:¬ (Du==HA L)=Ab)]
 refine As (Jj hT dT z3 ?_);have up:∀ b,b≠T->(s.heap.update T (Gf (·.setIfInBounds 3 Du))).get? b=s.heap.get? b:=λb nb=>Dd _ _ (CG nb)
 have rcd:∀ b o,s.heap.get? b=Aa o->(∀ us,o.data≠.fields us)->b≠T:=λb o q n z=>by
  rw[z,hT]at q;cases q;exact n ts dT
 refine Ts (base:=base) xo hf (ff.of_keeps λb o q n=>⟨o,(up b (rcd b o q n)).trans q,rfl⟩) ((up e (CG ne)).trans he) dt (LR h1) λh' T' oT' xw g nT gn gT dT' f3 sh=>?_
 have T0:s.heap.get? T'=Ae:=by
  by_cases z:T'=T
  .rw[z]at gn;rw[DO _ hT (Gz (Ei dT _))]at gn;cases gn
  .rw[<-up T' z];exact gn
 refine hQ h' T' (S8 hc hx h0 dt (LR h1) g nT gT dT' f3) ⟨λb o q n1 n2=>?_,λb o q hb=>?_⟩ T0
 .simp only[A6,List.not_mem_nil,or_false,ND]at n1;exact sh.keep b o ((up b n1.2).trans q) (by simp[n1.1]) n2
 .obtain⟨_,o',q',n⟩:=ff.mem hb;rw[q]at q';cases q';exact sh.slot b o ((up b (rcd b o q n)).trans q) hb
theorem NW{fv:Al}(fl:Pd e T cls dx fv s.heap)(hQ:∀ h',vo e T cls dx h'->(∀ b o,b≠T->s.heap.get? b=Aa o->h'.get? b=Aa o)->Q () {s with heap:=h'}):AA M A (GD (.ref e) Ae) Q E s:=by
 obtain⟨oe,vs,oT,ts,a0,he,hc,hx,h0,dt,h1,ne,hT,dT,h3⟩:=fl;have z3:=LR h3;unfold GD;refine As (E9 he dt h1 ?_);rw[Au (by simp:(Bm T != Du)=Ab)]
 refine Jj hT dT z3 (hQ _ ?_ λb o nb q=>(Dd _ _ (CG nb)).trans q)
 exact⟨oe,vs,_,_,a0,(Dd _ _ ne).trans he,hc,hx,h0,dt,h1,ne,DO _ hT (Gz (Ei dT _)),Ei dT _,by simp[z3]⟩
theorem PF{h1 h2:AJ}{ex:Ac Ak}(ff:s.heap.FunFrames base (env::outer))(sh:zT ex (yz (env::outer)) s.heap h1)(hT:s.heap.get? T'=Ae)(k:∀ b o,b≠T'->h1.get? b=Aa o->h2.get? b=Aa o):zT ex (yz (env::outer)) s.heap h2:=
 ⟨λb o q n1 n2=>k b o (λz=>by rw[z,hT]at q;cases q) (sh.keep b o q n1 n2),λb o q hb=>let ⟨sl,q'⟩:=sh.slot b o q hb;⟨sl,k b _ (λz=>by rw[z,hT]at q;cases q) q'⟩⟩
theorem cU(xo:A.frames=Aa (env::outer))(hf:env.frame=Aa L)(ff:s.heap.FunFrames base (env::outer))(fl:vo e T cls dx s.heap)(hQ:∀ h' T',vo e T' cls dx h'->zT [e,T] (yz (env::outer)) s.heap h'->(T'=T\/s.heap.get? T'=Ae)->Q () {s with heap:=h'}):AA M A (leaving env (.ref e)) Q E s:=by
 unfold leaving;exact As (Ul xo hf ff fl λh1 T' f1 sh hT=>NW f1 λh2 f2 k=>hQ h2 T' f2 (PF ff sh hT k) (.inr hT))
theorem aK(xo:A.frames=Aa (env::outer))(hf:env.frame=Aa L)(ff:s.heap.FunFrames base (env::outer))(he:s.heap.get? e=Aa oe)(hc:oe.cls=cls)(hx:oe.dict=dx)(dt:oe.data=.fields vs)(h0:vs[0]?=Aa a0)(h1:vs[1]?=Aa .none)(hQ:∀ h' T',vo e T' cls dx h'->zT [e] (yz (env::outer)) s.heap h'->s.heap.get? T'=Ae->Q () {s with heap:=h'}):AA M A (leaving env (.ref e)) Q E s:=by
 unfold leaving FG;simp only[hf];refine As (As (E9 he dt h1 ?_));rw[Ay (by decide)]
 exact Ts (base:=base) xo hf ff he dt (LR h1) λh' T' oT ts g nT gn gT dT f3 sh=>NW (S8 hc hx h0 dt (LR h1) g nT gT dT f3) λh2 f2 k=>hQ h2 T' f2 (PF ff sh gn k) gn
theorem fG(xo:A.frames=Aa (env::outer))(hf:env.frame=Aa L)(ff:s.heap.FunFrames base (env::outer))(fl:vo e T cls dx s.heap)(hQ:∀ h' T',vo e T' cls dx h'->zT [e,T] (yz (env::outer)) s.heap h'->(T'=T\/s.heap.get? T'=Ae)->Q () {s with heap:=h'}):AA M A (FG (.ref e) env) (λ_ s2=>AA M A (GD (.ref e) Ae) Q E s2) E s:=
 Ul xo hf ff fl λh1 T' f1 sh hT=>NW f1 λh2 f2 k=>hQ h2 T' f2 (PF ff sh hT k) (.inr hT)
theorem cV{l:Ac B5}{A':A4}(ff:s.heap.FunFrames base l)(fl:vo e T cls dx s.heap)(hQ:∀ h' T',vo e T' cls dx h'->zT [e,T] (yz l) s.heap h'->(T'=T\/s.heap.get? T'=Ae)->Q () {s with heap:=h'}):AA M A' (GD (.ref e) Ae) Q E s:=by
 obtain⟨oe,vs,oT,ts,a0,he,hc,hx,h0,dt,h1,ne,hT,dT,h3⟩:=id fl;refine NW fl λh' f' k=>hQ h' T f' ⟨λb o q n1 n2=>k b o (λz=>n1 (by rw[z];simp)) q,λb o q hb=>⟨o.slots,k b o (λz=>?_) q⟩⟩ (.inl rfl)
 obtain⟨_,o',q',n⟩:=ff.mem hb;rw[z,hT]at q';cases q';exact n ts dT
end
def CXR(P:AK)(w:AI):CXT:=λouter H s E ev s'=>∃ e T cls dx H',ev=.ref e/\s'.os=s.os/\FO s'.gens/\Un (yz outer) [] H H' s.heap s'.heap/\zg P w H' s'.heap/\vo e T cls dx s'.heap/\H' e=Ae/\H' T=Ae/\s.heap.get? e=Ae/\s.heap.get? T=Ae/\E cls dx H'
def Ny(X:Cx)(CL:ClA)(W:XW):Prop:=∀ pI Y H s e C dx t x,Z8 X pI Y H s->(X.ex=[]->X.s₀.heap.get? e=Ae)->H e=Ae->s.heap.get? e=Aa (Gq C dx t)->Dy X.K CL H (.ref C) dx x->W x H->X.xe (.ref e) s
section
variable{P:AK}{w:AI}{K:Fg}{mg:Ah->Ao Al}{base:AJ}{N:Ac Ah}{qual:Ah}{scope:Cb}{f:Ak}{cd:Al}{A:A4}{outer:Ac B5}{s:Ar}{H:Hp}{E:XK}{CL:ClA}{W:XW}
theorem Qq{s:Ar}(I:Z8 X pI Y H s):∀ b∈yz X.stack,b∈X.fs\/X.s₀.heap.get? b=Ae:=λb hb=>by
 rcases A6.mp (I.stkSub b hb) with z|z
 .exact .inr (by rw[z];exact Dt I.ok.above)
 .exact .inl z
theorem K7{s:Ar}{b:Ak}(I:Z8 X pI Y H s)(hx:X.ex=[])(h:s.heap.get? b=Ae):X.s₀.heap.get? b=Ae:=by
 cases q:X.s₀.heap.get? b with
 |none=>rfl
 |some o=>
  obtain⟨o',z⟩:=I.base.there b o q (by rw[hx];simp)
  rw[h]at z;cases z
theorem OK(hE:∀ x cls dx H',W x H'->Dy K CL H' cls dx x->E cls dx H'):∀ A',HI (CXR P w) (B1 (CXR P w) P w K mg base N qual scope f cd A outer s H E) (EKW K CL A' W):=by
 intro A' pI Y H1 s1 ev s2 I h;obtain⟨e,T,cls,dx,H',rfl,os,bare,un,hok,fl,he,hT,ne,nT,x,xr,wx⟩:=h;have I':=I.call' (s':=s2) (ch:=[]) os un hok bare (λb z=>absurd z (by simp))
 have hb0:Un (yz outer) [] H H' s.heap s2.heap:=I'.base;show AA (model P w) (A.deeper (D3 qual scope s.heap.objs.size f cd)) (leaving (D3 qual scope s.heap.objs.size f cd) (.ref e)) _ _ s2;refine cU (L:=s.heap.objs.size) I'.ok.frames rfl I'.stack fl λh' T' fl' sh ak=>?_
 have e0:s.heap.get? e=Ae:=K7 I rfl ne;have T0:s.heap.get? T=Ae:=K7 I rfl nT;refine⟨e,T',cls,dx,H',rfl,I'.os,bare,Un.shift hb0 sh ?_ (Qq I'),zg.shift hok sh ?_ I'.stkFree,fl',he,?_,e0,?_,?_⟩
 .intro b hb;rcases A6.mp hb with rfl|hb
  .exact e0
  .rw[BW.mp hb];exact T0
 .intro b hb;rcases A6.mp hb with rfl|hb
  .exact he
  .rw[BW.mp hb];exact hT
 .rcases ak with rfl|z
  .exact hT
  .exact L4 hok z
 .rcases ak with rfl|z
  .exact T0
  .exact K7 I' rfl z
 .exact hE x cls dx H' wx xr
theorem Þ(hE:∀ x cls dx H',W x H'->Dy K CL H' cls dx x->E cls dx H'):Ny (B1 (CXR P w) P w K mg base N qual scope f cd A outer s H E) CL W:=by
 intro pI Y H1 s1 e C dx t x I e0 he ge xr hw;have hb0:Un (yz outer) [] H H1 s.heap s1.heap:=I.base;have e0':s.heap.get? e=Ae:=e0 rfl;show AA (model P w) (A.deeper (D3 qual scope s.heap.objs.size f cd)) (leaving (D3 qual scope s.heap.objs.size f cd) (.ref e)) _ _ s1;refine aK (cls:=.ref C) (dx:=dx) (L:=s.heap.objs.size) I.ok.frames rfl I.stack ge rfl rfl rfl (a0:=.ref t) rfl rfl λh' T' fl' sh ak=>?_
 have one:∀{Z_:Ak->Prop},Z_ e->∀ b∈[e],Z_ b:=λ{Z_} z b hb=>by rw[BW.mp hb];exact z
 exact⟨e,T',.ref C,dx,H1,rfl,I.os,I.bare,Un.shift hb0 sh (one e0') (Qq I),zg.shift I.hok sh (one (Z_:=λb=>H1 b=Ae) he) I.stkFree,fl',he,L4 I.hok ak,e0',K7 I rfl ak,hE x _ dx H1 hw xr⟩
theorem sy:FE (model P w) (B1 (CXR P w) P w K mg base N qual scope f cd A outer s H E).A (B1 (CXR P w) P w K mg base N qual scope f cd A outer s H E).env (B1 (CXR P w) P w K mg base N qual scope f cd A outer s H E).xe:=Zg
end
noncomputable def ua:Ac Al:=[.type "ValueError",.type "Exception",.type "BaseException",.type "object"]
noncomputable def DF(K:Fg)(C:Ak)(v:Ao Al):An:=match K.lookup C with
  | some ⟨.type "type",_,.cls c,z⟩=>(match c.mro,z.toList with
    |.ref c0::tl,[_,_,_,_,Aa (.builtin nw),_]=>c0==C&&(nw == "ValueError.__new__" && (!c.hasDel&&(PySem.W.tailIn K ua tl&&(ZM K c.ns&&Bb K c.ns "__init__" == Aa v))))
    | _,_=>Af)
  |_=>Af
theorem gH(q:JU K C ua "ValueError.__new__" = Ab):DF K C Ae=Ab:=by
 unfold JU at q;unfold DF;split at q
 .rename_i dd cd sl ho;split at q
  .rename_i C' bm k0 k1 k2 k3 n k5 hm hs;simp only[Am]at q;obtain⟨⟨⟨⟨⟨h1,h2⟩,h3⟩,h4⟩,h5⟩,h6⟩:=q;simp only[ho,hm,hs,Am];exact⟨h1,h2,h3,h4,h5,h6⟩
  .cases q
 .cases q
structure zv (K:Fg) (C:Ak):Prop where
 exc:∃ v,DF K C v=Ab
 ga:At K (.ref C) "__getattribute__" = Aa (Aa (.builtin "BaseException.__getattribute__"))
 gt:At K (.ref C) "__getattr__" = Aa Ae
 cl:At K (.ref C) "__class__" = Aa (Aa (.builtin "object.__class__"))
 ob:Cj K C (.type "object")=Aa Ab
 be:BQ K (.ref C) (.type "BaseException")=Aa Ab
 cs:(Dx K C).isSome=Ab
 ve:B7 K (.ref C) (.type "ValueError")=Aa Ab
def ud(e C:Ak)(h:AJ):Prop:=∃ o,h.get? e=Aa o/\o.cls=.ref C
theorem qY{N:Ak}{m:Ah->Ao Al}{v:Al}(X:K.In h)(G:h.Ns N m)(q:Bb K N x=Aa (Aa v)):m x=Aa v:=by
 obtain⟨ob,es,ep,g,dt,_,fd⟩:=G;unfold Bb at q;split at q
 .rename_i zi n' sl lk;have g':=X _ _ lk;rw[g]at g';cases g';cases dt;split at q
  .rename_i hf;cases q;rw[<-fd];unfold nsFind findBy;rw[<-Xr,hf];rfl
  .by_cases z:(es.toList.any λy=>y.refKey)=Ab
   .rw[Au z]at q;cases q
   .rw[Ay z]at q;cases q
 .cases q
theorem PZ{h0:AJ}(X0:K.In h0)(q:DF K C v=Ab):
  ∃ bm N nm qn bs hd sn sub ab col dd k0 k1 k2 k3 k5 mN,(∀ h:AJ,K.In h->h.get? C=Aa (Ct nm qn C N bs bm hd sn sub ab col dd k0 k1 k2 k3 k5 "ValueError.__new__")/\h.Ns N mN/\D2 h ua bm)/\mN "__init__" = v/\bm.contains (.type "BaseException")=Ab:=by
 unfold DF at q;split at q
 .rename_i dd cd sl ho;split at q
  .rename_i C' bm k0 k1 k2 k3 n k5 hm hs;simp only[Am,AD,Bf]at q;obtain⟨rfl,rfl,aq,ht,hok,rq⟩:=q;obtain⟨nm,bs,mro,ns,qn,hd,sn,sub,ab,col,del⟩:=cd;dsimp only at hm aq hok rq;subst hm aq;have hsl:sl=#[k0,k1,k2,k3,Aa (.builtin "ValueError.__new__"),k5]:=by
    obtain⟨l⟩:=sl;simp only at hs;rw[hs]
   subst hsl;have kN:∃ o,K.lookup ns=Aa o:=by
    unfold ZM at hok;split at hok
    .rename_i z;exact⟨_,z⟩
    .cases hok
   obtain⟨oN,hoN⟩:=kN;have nsAt:∀ h:AJ,K.In h->h.Ns ns (h0.nsMap ns):=λh X=>by
    obtain⟨o,es,ep,e1,r⟩:=Heap.Ns.of_isNs (ZG X0 hok);have e2:=X0 _ _ hoN;rw[e1]at e2;cases e2;exact⟨_,es,ep,X _ _ hoN,r⟩
   refine⟨bm,ns,nm,qn,bs,hd,sn,sub,ab,col,dd,k0,k1,k2,k3,k5,h0.nsMap ns,λh X=>⟨X _ _ ho,nsAt h X,ZN X ht⟩,?_,(ZN X0 ht).hasType (by decide)⟩
   cases v with
   |none=>exact PySem.W.nsMap_none_of_in X0 hok rq
   |some u=>exact qY X0 (.of_isNs (ZG X0 hok)) rq
  .cases q
 .cases q
theorem kT(X:K.In h)(q:DF K C v=Ab):
  ∃ bm N nm qn bs hd sn sub ab col dd k0 k1 k2 k3 k5 mN,h.get? C=Aa (Ct nm qn C N bs bm hd sn sub ab col dd k0 k1 k2 k3 k5 "ValueError.__new__")/\h.Ns N mN/\mN "__init__" = v/\D2 h ua bm:=by
 obtain⟨bm,N,nm,qn,bs,hd,sn,sub,ab,col,dd,k0,k1,k2,k3,k5,mN,ho,hi,_⟩:=PZ X q;obtain⟨o1,o2,o3⟩:=ho h X;exact⟨bm,N,nm,qn,bs,hd,sn,sub,ab,col,dd,k0,k1,k2,k3,k5,mN,o1,o2,hi,o3⟩
section
variable{prog:AK}{w:AI}{A:A4}{E:Vq}{h:AJ}{g:Bl En}{d:Iy}{t:Ag}{os:BS}{K:Fg}{e C:Ak}
theorem Kz(p:ud e C h):PySem.W.Looks M h (typeOf (.ref e)) (.ref C):=by
 obtain⟨o,h1,h2⟩:=p;exact h2 ▸ (PySem.W.Looks.ld h1).andThen .now
theorem cE{R:Ii->Ar->Prop}{tp:Al}(X:K.In h)(p:ud e C h)(hm:Cj K C (.type "object")=Aa Ab)(hq:R (.ok (.ret (.ref C))) ⟨h,g,d,t,os⟩):
  EC (model prog w) A (.call (.builtin "getset_descriptor.__get__") ⟨[.builtin "object.__class__",.ref e,tp],[]⟩) R ⟨h,g,d,t,os⟩:=by
 have L0:=Kz (M:=model prog w) p;have L1:=PySem.W.looks_mroIn (M:=model prog w) X hm;refine DZ PySem.W.KF.slot_gs.plain PySem.W.KF.entry_gs (PySem.W.KF.slot_gs.check _ _ _ _ _ _ _ _ PySem.W.KF.type_class (PySem.W.KF.args_gs _ _ _) ?_);unfold Builtin.«getset_descriptor.__get__» Builtin.Getset_descriptor.descrGet;rw[PySem.W.dga_obj];refine As (A2 ?_);unfold Builtin.Getset_descriptor.descrGetter Builtin.Getset_descriptor.descrCheckInstance Builtin.Getset_descriptor.descrNameAndClass Jp;simp only[PySem.W.KF.owner_class]
 repeat lk
 refine⟨Hw _ (by decide+kernel),codeAny_builtin PySem.W.KF.entry_class ?_⟩
 unfold Builtin.«object.__class__» shownTypeOf
 repeat lk
 exact hq
theorem aZ{Q:Fin->Ar->Prop}(X:K.In h)(x:zv K C)(p:ud e C h)(hq:Q (.done (.ret (.ref C))) ⟨h,g,d,t,os⟩):
  AA (model prog w) A (Builtin.«object.__getattribute__» ⟨[.ref e,.str "__class__" tk],[]⟩) Q E ⟨h,g,d,t,os⟩:=by
 have L0:=Kz (M:=model prog w) p;have L1:=Cp (M:=model prog w) X x.cl;have hT5:(⟨h,g,d,t,os⟩:Ar).TypeIs (.builtin "object.__class__") "getset_descriptor" := Y_7;have f5:=Y_7;have f6:=F.slot_gs_get.lookup;have f7:=F.slot_gs_set.lookup
 repeat (any_goals (first|assumption|with_reducible refine L0.at ?_|with_reducible refine L1.at ?_|wp_step))
 refine cE X p x.ob ?_
 repeat (any_goals (first|assumption|wp_step))
theorem Sz{nn:Al}(X:K.In h)(x:zv K C)(p:ud e C h)(hq:Q () ⟨h,g,d,t,os⟩):AA M A (Gm "BaseException.__getattribute__" ⟨[.ref e,nn],[]⟩) Q E ⟨h,g,d,t,os⟩:=by
 have hk:builtinKind "BaseException.__getattribute__" = Aa .slot:=by decide+kernel
 have kv:splitId "BaseException.__getattribute__" = Aa ("BaseException", "__getattribute__"):=by decide+kernel
 have L0:=Kz (M:=M) p;have L1:=ZL (M:=M) X x.be;have ha:=F.args_bexc_ga (.ref e) nn;simp only[Gm,hk,kv];refine As ?_
 .unfold Jp
  repeat (first|(with_reducible refine As (L0.at ?_))|(with_reducible refine L1.at ?_)|wp_step)
  exact hq
theorem gJ{Q:Vq}(X:K.In h)(x:zv K C)(p:ud e C h)(hq:Q (.ref C) ⟨h,g,d,t,os⟩):AA (model prog w) A (getAttrBy (.ref e) (.str "__class__" tk) fill expr) Q E ⟨h,g,d,t,os⟩:=by
 have L0:=Kz (M:=model prog w) p;have L1:=Cp (M:=model prog w) X x.ga;have L2:=Cp (M:=model prog w) X x.gt;have f3:=F1.ga.bind (.ref e);have hx0:(expr&&Kb (Dj "BaseException.__getattribute__"))=Af:=by cases expr<;>rfl
 have hx2:(Dj "BaseException.__getattribute__" == Dj "object.__getattribute__")=Af:=by decide+kernel
 have hx1:(Kb (Bm C)&&Dj "BaseException.__getattribute__" == Dj "object.__getattribute__")=Af:=by rw[hx2];rfl
 repeat (any_goals (first|assumption|with_reducible refine L0.at ?_|with_reducible refine L1.at ?_|with_reducible refine L2.at ?_|wp_step))
 refine DZ F1.ga.plain Y_0 (Sz X x p (aZ X x p ?_))
 repeat (any_goals (first|assumption|wp_step))
theorem aV{Q:Ao Al->Ar->Prop}(X:K.In h)(x:zv K C)(p:ud e C h)(hq:Q (Aa (.ref C)) ⟨h,g,d,t+1,os⟩):AA (model prog w) A (getAttr? (.ref e) "__class__") Q E ⟨h,g,d,t,os⟩:=by
 unfold getAttr? getAttrBy?
 repeat (any_goals (first|assumption|with_reducible apply gJ X x p|wp_step))
end
theorem TF{e C:Ak}(x:zv K C):PySem.W.KitX K (.ref e) (.ref C) (ud e C) where
 ty:=λM h _ p=>Kz p
 it:=λM h X _=>by
  obtain⟨cd,hc⟩:=CA.mp x.cs;unfold Dx at hc;split at hc
  .rename_i c' d' cd' uy ho;intro A' Q' E' s' k q;unfold isType loadHead;exact As (ZY (k _ _ (X _ _ ho)) (A2 q))
  .cases hc
 ne:=λh tp dd its n sl X Í=>by
  obtain⟨cd,hc⟩:=CA.mp x.cs;refine Bool.eq_false_iff.mpr λq=>?_
  have e:C=tp:=JT (AD.mp q);subst e;unfold Dx at hc;split at hc
  .rename_i c' d' cd' uy ho;have z:=(X _ _ ho).symm.trans Í;cases z
  .cases hc
 ca:=λ{_ _ _ _ _ s} X p k=>by
  obtain⟨h,g,d,t,os⟩:=s;exact aV X x p k
theorem cH{A:A4}{E:Vq}{g:Bl En}{d:Iy}{t:Ag}{os:BS}{e C C':Ak}{b:An}{Q:An->Ar->Prop}(X:K.In h)(p:ud e C h)(x':zv K C')(hs:BQ K (.ref C) (.ref C')=Aa b)(hq:Q b ⟨h,g,d,t,os⟩):AA M A (excMatches (.ref e) (.ref C')) Q E ⟨h,g,d,t,os⟩:=by
 obtain⟨bm,N,nm,qn,bs,hd,sn,sub,ab,col,dd,k0,k1,k2,k3,k5,mN,hC',_,_,T⟩:=kT X x'.exc.choose_spec;have hcB:(Bm C'::bm).contains (.type "BaseException")=Ab:=by rw[Hv,T.hasType (show ua.contains (.type "BaseException")=Ab by decide),JX]
 have L0:=Kz (M:=M) p;have L1:=ZL (M:=M) X hs;have f:=tc_notTuple;unfold excMatches
 repeat (first|(with_reducible refine As (L0.at ?_))|(with_reducible refine L1.at ?_)|(with_reducible refine As (L1.at ?_))|with_reducible refine Cd hC' ?_|(with_reducible refine Fh hC' ?_;rw[hcB])|wp_step)
 all_goals first|exact hq|(cases b<;>(wp_walk;exact hq))
def HP(X:Cx)(pI:Pn)(e:Ak):Prop:=e≠X.env.locals/\(∀ x c,X.env.cells.lookup x=Aa c->c≠e)/\(∀ p∈X.pn++pI,p.1≠e)/\X.s₀.heap.get? e=Ae
section
variable{X:Cx}{pI:Pn}{Y:L2.St}{H:Hp}{s:Ar}{e:Ak}
theorem ML(I:Z8 X pI Y H s)(hx:X.ex=[])(h:s.heap.get? e=Ae):HP X pI e:=by
 refine⟨?_,λx c q z=>?_,λp hp z=>?_,K7 I hx h⟩
 .rintro rfl;obtain⟨m,⟨o,_,_,ho,_⟩,_⟩:=I.loc;rw[h]at ho;cases ho
 .obtain⟨v,o,ho,_⟩:=I.cell x c q;rw[z,h]at ho;cases ho
 .obtain⟨q,_⟩:=I.pin p hp;rw[z,h]at q;cases q
theorem SY{ex:Ac Ak}(I:Z8 X pI Y H s)(hx:X.ex=[])(sh:zT ex (yz X.stack) s.heap h')(ha:∀ b∈ex,HP X pI b)(hH:∀ b∈ex,H b=Ae):Z8 X pI Y H {s with heap:=h'}:=by
 have kp:∀ b o,s.heap.get? b=Aa o->b∉ex->∃ sl,h'.get? b=Aa {o with slots:=sl}:=λb o q n=>by
  by_cases hb:b∈yz X.stack
  .exact sh.slot b o q hb
  .exact⟨o.slots,sh.keep b o q n hb⟩
 have cellK:∀ x c,X.env.cells.lookup x=Aa c->∀ v,s.heap.IsCell c v->h'.IsCell c v:=λx c q v ⟨o,ho,hd⟩=>by
  obtain⟨sl,z⟩:=kp c o ho λz=>(ha c z).2.1 x c q rfl
  exact⟨_,z,hd⟩
 refine⟨I.ok,I.os,I.bare,?_,?_,λx c q=>?_,I.free,I.freeC,λp hp=>?_,zg.shift I.hok sh hH I.stkFree,I.len⟩
 .have b0:=I.base;rw[hx]at b0 ⊢;exact Un.shift b0 sh (λb hb=>(ha b hb).2.2.2) (Qq I)
 .obtain⟨m,⟨o,es,ep,ho,r⟩,hl⟩:=I.loc;obtain⟨sl,z⟩:=kp _ o ho λz=>(ha _ z).1 rfl
  refine⟨m,⟨_,es,ep,z,r⟩,λi x v e1 e2 e3=>?_⟩
  obtain⟨u,ru,l⟩:=hl i x v e1 e2 e3;refine⟨u,ru,?_⟩;rcases l with l|⟨k,c,q,z⟩
  .exact .inl l
  .exact .inr ⟨k,c,q,cellK x c q _ z⟩
 .obtain⟨v,z⟩:=I.cell x c q;exact⟨v,cellK x c q v z⟩
 .obtain⟨q,n,ne,nf,d⟩:=I.pin p hp;exact⟨sh.keep p.1 p.2 q (λz=>(ha p.1 z).2.2.1 p hp rfl) (λz=>(A6.mp (I.stkSub p.1 z)).elim ne nf),n,ne,nf,d⟩
theorem cR(I:Z8 X pI Y H s)(hx:X.ex=[])(ha:HP X pI e)(hH:H e=Ae)(ho:∃ o,s.heap.get? e=Aa o)(p:φ s.heap)(hφ:∀ h1 h2:AJ,φ h1->(∀ o,h1.get? e=Aa o->h2.get? e=Aa o)->φ h2):Z8 X pI Y (upd H e (.ext φ)) s:=by
 have ne:∀ b o,H b=Aa o->b≠e:=λb o q z=>by rw[z,hH]at q;cases q
 refine⟨I.ok,I.os,I.bare,⟨I.base.keep,I.base.slot,λb o q n hb=>?_,I.base.there,λb xs q=>?_,λb o u q=>?_,λb ps q=>?_⟩,I.loc,I.cell,?_,λx c q=>?_,λp hp=>?_,λb o q=>?_,I.len⟩
 .rw[AQ λz=>by rw[z,ha.2.2.2]at q;cases q]
  exact I.base.free b o q n hb
 .have:=I.base.tups b xs q;rw[AQ (ne _ _ this)];exact this
 .have:=I.base.frzs b o u q;rw[AQ (ne _ _ this)];exact this
 .obtain⟨more,this⟩:=I.base.tbls b ps q;exact⟨more,by rw[AQ (ne _ _ this)];exact this⟩
 .rw[AQ λz=>ha.1 z.symm];exact I.free
 .rw[AQ (ha.2.1 x c q)];exact I.freeC x c q
 .obtain⟨q,n,r⟩:=I.pin p hp;exact⟨q,by rw[AQ (ha.2.2.1 p hp)];exact n,r⟩
 .by_cases hb:b=e
  .subst hb;rw[BO]at q;cases q;exact⟨p,ho,hφ⟩
  .rw[AQ hb]at q;exact(I.hok b o q).stay (λc v hc z=>z) (λc z=>by rw[AQ (ne _ _ z)];exact z) λc zs z=>by rw[AQ (ne _ _ z)];exact z
theorem bM{i:Ag}{n:Ah}{m:Ah->Ao Al}{tk:Ag}(I:Z8 X pI Y H s)(hN:X.N.Nodup)(hi:X.N[i]?=Aa n)(hn:s.heap.Ns X.env.locals m)(bg:h'.Ns X.env.locals (λx=>if x=n then v else m x))(hs:FD X.env.locals s.heap h'):Z8 X pI (Y.set i Ae) H {s with heap:=h',toks:=tk}:=by
 obtain⟨m0,hn0,hl⟩:=I.loc;have em:m0=m:=by
  obtain⟨o,es,ep,h1,h2,_,h3⟩:=hn0;obtain⟨o',zi,jy,m8,h2',_,h3'⟩:=hn;rw[h1]at m8;cases m8;rw[h2]at h2';cases h2'
  funext y
  rw[<-h3,<-h3']
 subst em;obtain⟨oL,_,_,hoL,_⟩:=id hn;have lt:∀ b o,X.s₀.heap.get? b=Aa o->b≠X.env.locals:=λb o q=>BB (AZ (AS q) I.ok.above)
 refine⟨I.ok,I.os,I.bare,⟨λb o q n hb hx=>?_,λb o q n hb hx=>?_,I.base.free,λb o q hx=>?_,I.base.tups,I.base.frzs,I.base.tbls⟩,⟨_,bg,λj y v' e1 e2 e3=>?_⟩,λy c q=>?_,I.free,I.freeC,λp hp=>?_,λb ob q=>?_,by rw[AT];exact I.len⟩
 .exact(hs.2 b (lt b o q)).trans (I.base.keep b o q n hb hx)
 .obtain⟨sl,e1⟩:=I.base.slot b o q n hb hx;exact⟨sl,(hs.2 b (lt b o q)).trans e1⟩
 .obtain⟨o',e1⟩:=I.base.there b o q hx;exact⟨o',(hs.2 b (lt b o q)).trans e1⟩
 .by_cases hj:i=j
  .subst hj;have:=Ee e2;cases this
  .rw[Bu hj]at e2;obtain⟨u',r',q⟩:=hl j y v' e1 e2 e3;refine⟨u',r',?_⟩;rcases q with ⟨k,e⟩|⟨k,c,e,z⟩
   .refine .inl ⟨k,?_⟩;have:y≠n:=λe=>hj (P6 hN hi (e ▸ e1))
    simp[this,e]
   .exact .inr ⟨k,c,e,z.sameBut hs (I.cne y c e)⟩
 .obtain⟨w',z⟩:=I.cell y c q;exact⟨w',z.sameBut hs (I.cne y c q)⟩
 .obtain⟨q,n,ne,nf,d⟩:=I.pin p hp;exact⟨(hs.2 p.1 ne).trans q,n,ne,nf,d⟩
 .refine(I.hok b ob q).stay (λc w' hc z=>(hs.2 c ?_).trans z) (λ_ q=>q) λ_ _ q=>q
  rintro rfl;have wp:=I.free;rcases hc with z|hc
  .rw[<-z,wp]at q;cases q
  .rw[wp]at hc;cases hc
end
noncomputable def Cx.hot(X:Cx)(e:Ak):Cx:={X with A:=X.A.mark (Aa (.ref e)),calm:=Af,xe:=λ_ _=>AM}
section
variable{X:Cx}{pI:Pn}{Y:L2.St}{H:Hp}{s:Ar}{e:Ak}
theorem qX(ok:X.Ok):(Cx.hot X e).Ok:=⟨ok.mod,ok.kind,ok.glob,ok.blt,ok.above,ok.inj,ok.has,ok.cab,λz=>(nomatch z),ok.frames,ok.stk,ok.exf,ok.bs,ok.bsz,ok.noex,ok.exfs,ok.funs,ok.frf⟩
theorem Qn(I:Z8 X pI Y H s)(e:Ak):Z8 (Cx.hot X e) pI Y H s:=⟨qX I.ok,I.os,I.bare,I.base,I.loc,I.cell,I.free,I.freeC,I.pin,I.hok,I.len⟩
theorem dF(ok:X.Ok)(I:Z8 (Cx.hot X e) pI Y H s):Z8 X pI Y H s:=⟨ok,I.os,I.bare,I.base,I.loc,I.cell,I.free,I.freeC,I.pin,I.hok,I.len⟩
theorem Sx.unset(x:Sx K CL Fz B U Y H)(i:Ag):Sx K CL Fz B (U.set i Ae) (Y.set i Ae) H:=by
 have get:∀(j:Ag)(y:D×An),(U.set i Ae)[j]?=Aa (Aa y)->i≠j/\U[j]?=Aa (Aa y):=λj y h=>by
  by_cases hj:i=j
  .subst hj;have:=Ee h;cases this
  .exact⟨hj,by rw[Bu hj]at h;exact h⟩
 have sub:∀ a,BN B (U.set i Ae) (Y.set i Ae) a->BN B U Y a:=λa h=>by
  rcases h with h|⟨j,d,h1,h2⟩
  .exact .inl h
  .obtain⟨hj,h1⟩:=get j _ h1;rw[Bu hj]at h2;exact .inr ⟨j,d,h1,h2⟩
 refine⟨⟨λj d h=>?_,λj d h hn=>?_,by rw[AT,AT];exact x.len⟩,λa h=>x.aok a (sub a h),λj d a h1 h2=>?_,λj k d f a h1 h2 h3 h4=>?_,x.same,by rw[AT,AT];exact x.len,λj h=>?_⟩
 .obtain⟨hj,h1⟩:=get j _ h;obtain⟨v,q,r⟩:=x.good.sh j d h1;exact⟨v,by rw[Bu hj];exact q,Z7.sub sub _ r⟩
 .obtain⟨hj,h1⟩:=get j _ h;obtain⟨a,xs,ds,q,z,ha,hh,rr⟩:=x.good.ow j d h1 hn;exact⟨a,xs,ds,by rw[Bu hj];exact q,z,.inr ⟨j,d,h,by rw[Bu hj];exact q⟩,hh,Z9.sub sub _ rr⟩
 .obtain⟨hj,h1⟩:=get j _ h1;rw[Bu hj]at h2;exact x.new j d a h1 h2
 .obtain⟨hj,h1⟩:=get j _ h1;obtain⟨hk,h2⟩:=get k _ h2;rw[Bu hj]at h3;rw[Bu hk]at h4;exact x.dis j k d f a h1 h2 h3 h4
 .obtain⟨hj,h1⟩:=get j _ h;obtain⟨a,xs,p1,p2,p3⟩:=x.pin j h1;exact⟨a,xs,p1,by rw[Bu hj];exact p2,p3⟩
end
def JH(e C:Ak)(dx:Ao Ak)(h:AJ):Prop:=∃ o,h.get? e=Aa o/\o.cls=.ref C/\o.dict=dx/\∃ us,o.data=.fields us
noncomputable def Nj(X:Cx)(CL:ClA)(pI:Pn)(Y:L2.St)(H:Hp)(y:Ex)(Xw:Vq):Prop:=
 ∀ s' H' e T cls dx,Z8 X pI Y H' s'->Az H H'->vo e T cls dx s'.heap->H' e=Ae->H' T=Ae->HP X pI e->HP X pI T->Dy X.K CL H' cls dx y->Xw (.ref e) s'
def STB(X:Cx)(CL:ClA)(body:Ac AL)(f:Rho->O):Prop:=∀ Fz B pI s Y H D U (Xw:Vq),FE (model X.prog X.w) X.A X.env Xw->Z8 X pI Y H s->Sx X.K CL Fz B U Y H ->
  (match f U with
   |.exn y U'=>U'=U->Nj X CL pI Y H y Xw
   | o=>B4 X.K CL Fz B (λ_ _=>AM) o D)->(∀ y U',f U=.exn y U'->U'=U)->AA (model X.prog X.w) X.A (execs body X.env) (SP X pI D) Xw s
theorem Qo{i:Ag}{g n:Ah}{p1 hp:AF}{b:An}{rest:Ac ExceptHandler}{s1:Ar}{U':Rho}{D:xu}{e T1:Ak}{y:Ex}(hx:X.ex=[])(hN:X.N.Nodup)(hi:X.N[i]?=Aa n)(hl:X.env.scope.names.lookup n=Aa .local)(hg:Gl X g)(hm:X.mg g=Aa (.ref C'))(zS:(g==("__debug__" : Ah))=Af)(xc:zv X.K C')(hsu:BQ X.K (.ref C) (.ref C')=Aa b)(hh:∀ e,wc (Cx.hot X e) CL (λ_ _=>AM) (h0::hs) fh)(I1:Z8 X pI Y H' s1)(ou:vo e T1 (.ref C) dx s1.heap)(ae:HP X pI e)(gp:HP X pI T1)(he:H' e=Ae)(gb:H' T1=Ae)(gx:Sx X.K CL Fz B U' Y H')(yh:CL y.c=Aa C)(xr:Dy X.K CL H' (.ref C) dx y)(p2:b=Ab->B4 X.K CL Fz B W (uv i y U' fh) D)(p3:b=Af->AA (model X.prog X.w) X.A (Ij (.ref e) X.env rest) (SP X pI D) X.xe s1):AA (model X.prog X.w) X.A (Ij (.ref e) X.env (.ExceptHandler (Aa (.Name g p1)) (Aa n) (h0::hs) hp::rest)) (SP X pI D) X.xe s1:=by
 obtain⟨Cx0,hcl0,ecl,kg⟩:=xr (BN B U' Y) gx.aok;have xat:∀{h:AJ}{T:Ak},vo e T (.ref C) dx h->ud e C h:=λ{h T} z=>by
  obtain⟨oe,_,_,_,_,z1,z2,_⟩:=z;exact⟨oe,z1,z2⟩
 have xad:∀{h:AJ}{T:Ak},vo e T (.ref C) dx h->JH e C dx h:=λ{h T} z=>by
  obtain⟨oe,vs,_,_,_,z1,z2,z3,_,z4,_⟩:=z;exact⟨oe,z1,z2,z3,vs,z4⟩
 have two:∀{T:Ak}{Z_:Ak->Prop},Z_ e->Z_ T->∀ b∈[e,T],Z_ b:=λ{T Z_} h1 h2 b hb=>by
  rcases A6.mp hb with rfl|hb
  .exact h1
  .rw[BW.mp hb];exact h2
 refine wpAny_handleBy_cons (codeAny_handlers_test (Ju (X:=Cx.hot X e) (Qn I1 e) hg hm ?_ zS)) (by intro q;cases q)
 refine cH (K:=X.K) I1.kIn (xat ou) xc hsu ?_;cases b with
 |false=>exact p3 rfl
 |true=>
 have p2:=p2 rfl;refine codeAny_handlers_suite_as ?_;refine cV (base:=X.base) (l:=X.stack) I1.stack ou λh3 T3 fl3 sh3 hT3=>?_
 have I3:=SY I1 hx sh3 (two ae gp) (two (Z_:=λb=>H' b=Ae) he gb)
 obtain⟨oe,oeg,oec⟩:=xad fl3;have I3':=cR (φ:=JH e C dx) I3 hx ae he ⟨oe,oeg⟩ ⟨oe,oeg,oec⟩ λh1 h2 ⟨o,q1,q2⟩ k=>⟨o,k o q1,q2⟩
 have wj:Az H' (upd H' e (.ext (JH e C dx))):=λb o q=>by rw[AQ λz=>by rw[z,he]at q;cases q];exact q
 refine P1 (X:=Cx.hot X e) (i:=i) (v:=.ref e) (Qn I3' e) hN hi (.inl hl) rfl (λs4 I4=>?_) (.inr hl)
 have x3:=gx.grow wj;have nA:¬ BN B U' Y e:=λz=>by
  obtain⟨xs,q,w⟩:=x3.aok e z;rw[BO]at q;cases q;exact w
 have rp:Z7 X.K CL (upd H' e (.ext (JH e C dx))) (BN B U' Y) (.ref e) (.exc y.c y.fs):=by
  refine⟨e,C,JH e C dx,rfl,nA,yh,BO,λh ⟨o,z1,z2,_⟩=>⟨o,z1,z2⟩,?_⟩
  rcases kg with z|⟨d,vs,ed,nd,hd,rf⟩
  .exact .inl z
  .exact .inr ⟨d,vs,nd,wj _ _ hd,z9.kp (Kp.of wj) _ rf,λh ⟨o,z1,_,z3,z4⟩=>⟨o,z1,z3.trans ed,z4⟩⟩
 have x4:=x3.set i rp;have fin:∀{s5:Ar}{Y5:L2.St}{H5:Hp}{Q:Ea->Ar->Prop},Z8 (Cx.hot X e) pI Y5 H5 s5->(∀ s6,Z8 X pI (Y5.set i Ae) H5 s6->Q () s6)->AA (model X.prog X.w) X.A (do bindName X.env n .none;unbindBehindTheSuite X.env n hp) Q X.xe s5:=λ{s5 Y5 H5 Q} I5 k=>by
  have gc:=dF I1.ok I5;obtain⟨m,hn,_⟩:=id gc.loc;refine wpAny_nameGoes_keeps hl hn (by rw[I1.ok.kind];rfl) λh6 v6 hn6 sb6=>?_
  exact k _ (bM gc hN hi hn hn6 sb6)
 refine Bj (hh e Fz B pI s4 _ _ {nx:=λY5 H5=>D.nx (Y5.set i Ae) H5,rt:=D.rt} I4 ⟨_,x4,?_⟩) (λf s5 hf=>?_) λ_ _ z=>A7 z
 .unfold uv at p2;cases ef:fh (U'.set i (Aa (.exc y.c y.fs,Af))) with
  |next qw=>rw[ef]at p2;exact λY5 H5 x5=>p2 _ _ (x5.unset i)
  |ret d b=>rw[ef]at p2;exact p2
  |brk _=>rw[ef]at p2;exact p2.elim
  |cont _=>rw[ef]at p2;exact p2.elim
  |exn _ _=>rw[ef]at p2;exact p2.elim
  |bad=>rw[ef]at p2;exact p2.elim
 .cases f with
  |next=>
   obtain⟨Y5,H5,I5,q⟩:=hf;exact fin I5 λs6 I6=>⟨_,H5,I6,q⟩
  |ret u=>
   obtain⟨v,Y5,H5,I5,r,q⟩:=hf;exact fin I5 λs6 I6=>⟨v,_,H5,I6,r,q⟩
  |brk=>obtain⟨_,_,_,q⟩:=hf;exact A7 q
  |cont=>obtain⟨_,_,_,q⟩:=hf;exact A7 q
def Pc(X:Cx)(CL:ClA)(up:Ag->Ac Ag)(g:Ah)(c:Ag):Prop:=∃ C',Gl X g/\X.mg g=Aa (.ref C')/\(g==("__debug__" : Ah))=Af/\zv X.K C'/\∀ c' C,CL c'=Aa C->BQ X.K (.ref C) (.ref C')=Aa ((up c').contains c)
theorem TM{y:Ex}{Q:Flow->Ar->Prop}{hd:Ac ExceptHandler}(hx:X.ex=[])(yu:X.stack=X.env::X.outer)(au:X.env.frame=Aa X.env.locals)(k:∀ e T1 cls dx H' s1,Z8 X pI Y H' s1->Az H H'->vo e T1 cls dx s1.heap->HP X pI e->HP X pI T1->H' e=Ae->H' T1=Ae->Dy X.K CL H' cls dx y->AA (model X.prog X.w) X.A (Ij (.ref e) X.env hd) Q X.xe s1):Nj X CL pI Y H y (λev s1=>AA (model X.prog X.w) X.A (FG ev X.env) (λ_ s2=>AA (model X.prog X.w) X.A (GD ev Ae) (λ_ s3=>AA (model X.prog X.w) X.A (Ij ev X.env hd) Q X.xe s3) X.xe s2) X.xe s1):=by
 intro s' H' e T cls dx I' sm fl he hT ae aT xr;have two:∀{T:Ak}{Z_:Ak->Prop},Z_ e->Z_ T->∀ b∈[e,T],Z_ b:=λ{T Z_} h1 h2 b hb=>by
  rcases A6.mp hb with rfl|hb
  .exact h1
  .rw[BW.mp hb];exact h2
 have xo:X.A.frames=Aa (X.env::X.outer):=by rw[<-yu];exact I'.ok.frames
 refine fG (base:=X.base) xo au (by rw[<-yu];exact I'.stack) fl λh1 T1 ou sh1 hT1=>?_
 rw[<-yu]at sh1;exact k e T1 cls dx H' _ (SY I' hx sh1 (two ae aT) (two (Z_:=λb=>H' b=Ae) he hT)) sm ou ae (hT1.elim (λz=>z ▸ aT) λz=>ML I' hx z) he (hT1.elim (λz=>z ▸ hT) λz=>L4 I'.hok z) xr
noncomputable def Cx.pw(X:Cx)(pI:Pn)(Xw:Vq):Cx:={X with pn:=X.pn++pI,xe:=Xw}
section
variable{X:Cx}{pI LE:Pn}{Y:L2.St}{H:Hp}{s:Ar}{Xw:Vq}
theorem vL(ok:X.Ok):(Cx.pw X pI Xw).Ok:=⟨ok.mod,ok.kind,ok.glob,ok.blt,ok.above,ok.inj,ok.has,ok.cab,ok.hd,ok.frames,ok.stk,ok.exf,ok.bs,ok.bsz,ok.noex,ok.exfs,ok.funs,ok.frf⟩
theorem QU(I:Z8 X pI Y H s)(Xw:Vq):Z8 (Cx.pw X pI Xw) [] Y H s:=⟨vL I.ok,I.os,I.bare,I.base,I.loc,I.cell,I.free,I.freeC,λp hp=>I.pin p (by
 rcases Eh.mp hp with z|z
 .exact z
 .exact absurd z (by simp)),I.hok,I.len⟩
theorem MQ(ok:X.Ok)(I:Z8 (Cx.pw X pI Xw) LE Y H s):Z8 X pI Y H s:=⟨ok,I.os,I.bare,I.base,I.loc,I.cell,I.free,I.freeC,λp hp=>I.pin p (EN _ hp),I.hok,I.len⟩
theorem iY(ok:X.Ok){D:xu}{f:Flow}{s':Ar}(h:SP (Cx.pw X pI Xw) LE D f s'):SP X pI D f s':=by
 cases f with
 |next=>obtain⟨Y',H',I,q⟩:=h;exact⟨Y',H',MQ ok I,q⟩
 |brk=>obtain⟨Y',H',I,q⟩:=h;exact⟨Y',H',MQ ok I,q⟩
 |cont=>obtain⟨Y',H',I,q⟩:=h;exact⟨Y',H',MQ ok I,q⟩
 |ret u=>obtain⟨v,Y',H',I,r,q⟩:=h;exact⟨v,Y',H',MQ ok I,r,q⟩
end
section
variable{X:Cx}{CL:ClA}{k n:Ag}{fr:An}{f:Ak}{fd:Bi}{ps:Ac Ah}{F:Ac D->R D}{x:Ah}{p pos pos2:AF}{e:Aq}{es:Ac Aq}{fs ft:Rho->R (Ac D)}{sh:Rho->An}
theorem Ug{y:Ex}(hx:X.ex=[])(ok:X.Ok)(q:Nj X CL pI Y H y Xw):∀ LE H1 s1 e s',Z8 (Cx.pw X pI Xw) LE Y H1 s1->CXR X.prog X.w (Cx.pw X pI Xw).stack H1 s1 (λcls dx H'=>Dy X.K CL H' cls dx y/\Az H H') e s'->(Cx.pw X pI Xw).xe e s':=by
 intro LE H1 s1 ev s' J h;obtain⟨e,T,cls,dx,H',rfl,os,bare,un,hok,fl,he,hT,ne,nT,xr,sm⟩:=h;have J':=MQ ok J;have J2:=J'.call' (s':=s') (ch:=[]) os un hok bare (λb z=>absurd z (by simp))
 exact q s' H' e T cls dx J2 sm fl he hT (ML J' hx ne) (ML J' hx nT) xr
theorem gR:∀ LE H1 s1 e s',Z8 (Cx.pw X pI Xw) LE Y H1 s1->CXR X.prog X.w (Cx.pw X pI Xw).stack H1 s1 (λ_ _ _=>AM) e s'->(Cx.pw X pI Xw).xe e s':=by
 intro LE H1 s1 ev s' J h;obtain⟨e,T,cls,dx,H',rfl,os,bare,un,hok,fl,he,hT,ne,nT,w⟩:=h;exact w.elim
variable(hx0:X.ex=[])(G:Y4 X.prog X.w X.K X.mg X.base (CXR X.prog X.w) k f fd ps (spD X.K CL n fr F))(hr:U5 k X.A)(hg:Gl X x)(hm:X.mg x=Aa (.ref f))
    (hk:Ba X.K (.ref f)=Ab) (hb:CV X.K fd ps []) (yu:∀ U,sh U=Ab->ft U=fs U) (hn:∀ U ds,ft U=.ok ds->ds.length=n) (hnx:∀ U y,ft U≠.exn y)
    (zS:(x==("__debug__" : Ah))=Af) (he:Aw (e::es) X.env=(Af,eval e X.env)::Aw es X.env) (zR:∀ pos,(Br pos (Aw es X.env)).any (·.1)=Af)
    (ha:∀ pI Xw,FE (model X.prog X.w) X.A X.env Xw->SA (Cx.pw X pI Xw) CL (λ_ _=>AM) (e::es) fs/\uu (Cx.pw X pI Xw) CL (λ_ _=>AM) (e::es) ft)
include hx0 G hr hg hm hk hb yu hn hnx zS he zR ha
end
section
variable{X:Cx}{CL:ClA}{W:XW}
theorem dW{c:Ag}{g:Ah}{np cpos pos:AF}{e:Aq}{es:Ac Aq}{fs:Rho->R (Ac D)}(vd:X.calm=Ab)(rz:Ny X CL W)(hg:Gl X g)(hm:X.mg g=Aa (.ref C))(zS:(g==("__debug__" : Ah))=Af)(xc:DF X.K C Ae=Ab)(yh:CL c=Aa C)(ha:SA X CL W (e::es) fs)(qh:∀ ds,xn c ds=.bad\/xn c ds=.ok ⟨c,[]⟩)(he:Aw (e::es) X.env=(Af,eval e X.env)::Aw es X.env)(zR:∀ pos,(Br pos (Aw es X.env)).any (·.1)=Af)(hz:∀ U ds,fs U=.ok ds->ds.length<=100000):SS X CL W (.Raise (Aa (.Call (.Name g np) (e::es) [] cpos)) Ae pos) (λU=>O.of U (zk (fs U)) λxs=>O.of U (xn c xs) λx=>.exn x U):=λFz B pI s Y H D I ⟨U,x,p⟩=>by
 dsimp only at p;cases e1:fs U with
 |bad=>rw[e1]at p;exact p.elim
 |exn y=>rw[e1]at p;exact p.elim
 |ok ds=>
  rw[e1]at p;have p2:B4 X.K CL Fz B W (O.of U (xn c ds) λx=>.exn x U) D:=p
  rcases qh ds with e2|e2
  .rw[e2]at p2;exact p2.elim
  .rw[e2]at p2;have p3:∀ H,(∀ b o,Fz b o->H b=Aa o)->W ⟨c,[]⟩ H:=p2;obtain⟨bm,N,nm,qn,bs,hd,sn,sub,ab,col,dd,k0,k1,k2,k3,k5,mN,uw,rq,U7⟩:=PZ I.kIn xc;refine wpAny_Raise_call_subT (bmB:=ua) (nm:=nm) (q:=qn) (C:=C) (N:=N) (bs:=bs) (bm:=bm) (hdct:=hd) (sn:=sn) (sub:=sub) (ab:=ab) (col:=col) (dd:=dd) (k0:=k0) (k1:=k1) (k2:=k2) (k3:=k3) (k5:=k5) (mN:=mN) E5 U7 (I.ok.hd vd) (by rw[he];show (Af||(Br cpos (Aw es X.env)).any (·.1))=Af;rw[zR];rfl) rq ?_
   refine Ju I hg hm ⟨rfl,?_⟩ zS;have q1:=ha (BN B U Y) cpos pI s Y H (λvs H1=>Az H H1/\vs.length=ds.length) I ⟨x.aok,U,x.good,by rw[e1];exact λvs H1 s1 r1=>⟨s1,r1.length⟩⟩
   rw[he]at q1 ⊢;refine EO (Bj q1 (λus s2 ⟨vs,H2,I2,r2,s2',hl⟩=>⟨rfl,?_⟩) λ_ _ z=>z)
   obtain⟨o1,o2,o3⟩:=uw _ I2.kIn;refine⟨?_,o1,o2,o3,λh' ev vg=>?_⟩
   .rw[<-r2.length,hl,Bz];have:=hz U ds e1;omega
   .obtain⟨t,ge,_⟩:=vg.there;have I3:Z8 X pI Y H2 {s2 with heap:=h'}:=I2.kept (t':=s2.toks) vg.keeps
    exact rz pI Y H2 _ ev C Ae t ⟨c,[]⟩ I3 (λhx=>K7 I2 hx vg.new) (L4 I2.hok vg.new) ge (λA _=>⟨C,yh,rfl,.inl rfl⟩) (p3 H2 λb o z=>s2' _ _ (x.same b o z))
def M5(K:Fg)(CL:ClA)(up:Ag->Ac Ag)(c':Ag)(C':Ak):Prop:=∀ c C,CL c=Aa C->B7 K (.ref C) (.ref C')=Aa ((up c).contains c')
theorem TH{s:Ar}{a C:Ak}{cv:Al}{b:An}{Q:VK}(I:Z8 X pI Y H s)(ha:H a=Aa (.ext φ))(hφ:∀ h,φ h->∃ o,h.get? a=Aa o/\o.cls=.ref C)(xc:zv X.K C)(e:B7 X.K (.ref C) cv=Aa b)(q:Q (.bl b) H):
  AA (model X.prog X.w) X.A (call (.builtin "isinstance") [.ref a,cv]) (EP X pI Y Q) X.xe s:=by
 have p:ud a C s.heap:=hφ _ (I.hok a _ ha).1;exact Co (TF xc) I.kIn p e (by intro z;cases z) λtk=>⟨.bl b,H,I.tok tk,rfl,q⟩
theorem Tk:∀(Cs:Ac Ak){its:Ac Al},A1 (Cs.map V.ref) its->its=Cs.map Bm
 |[],_,rv=>by cases rv;rfl
 |c::cs,_,rv=>by
  cases rv with
  |cons h1 h2=>rw[Tk cs h2];cases h1;rfl
theorem kE{s:Ar}{a C tp:Ak}{Cs:Ac Ak}{b:An}{Q:VK}(I:Z8 X pI Y H s)(ha:H a=Aa (.ext φ))(hφ:∀ h,φ h->∃ o,h.get? a=Aa o/\o.cls=.ref C)(xc:zv X.K C)(ht:H tp=Aa (.tup (Cs.map V.ref)))(e:Je X.K (.ref C) (Cs.map Bm)=Aa b)(q:Q (.bl b) H):
  AA (model X.prog X.w) X.A (call (.builtin "isinstance") [.ref a,.ref tp]) (EP X pI Y Q) X.xe s:=by
 have p:ud a C s.heap:=hφ _ (I.hok a _ ha).1;obtain⟨_,its,rv,⟨o,ho,hc,n,hd⟩⟩:=I.hok tp _ ht;have ei:its=Cs.map Bm:=Tk Cs rv;subst ei;obtain⟨cls,dd,dat,sl⟩:=o;have qg:cls=.type "tuple" := hc;have m9:dat=.seq (FA (Cs.map Bm)) n:=hd;subst qg m9;exact PySem.W.kia_tup (TF xc) I.kIn p ho e (by intro z;cases z) λtk=>⟨.bl b,H,I.tok tk,rfl,q⟩
theorem Uu{K:Fg}{up:Ag->Ac Ag}{c:Ag}{C:Ak}(h:CL c=Aa C):∀(cs:Ac (Ag×Ak)),(∀ p∈cs,M5 K CL up p.1 p.2)->Je K (.ref C) ((cs.map λq:Ag×Ak=>q.2).map Bm)=Aa (cs.any λp=>(up c).contains p.1)
  |[],_=>rfl
  |p::cs,hk=>by
    have h1:=hk p AY c C h;have h2:=Uu h cs λq hq=>hk q (AE _ hq)
    show (match B7 K (.ref C) (.ref p.2) with
      |some Ab=>Aa Ab
      |some Af=>Je K (.ref C) ((cs.map λq:Ag×Ak=>q.2).map Bm)
      | none=>Ae)=_
    rw[h1,JR];cases (up c).contains p.1 with
    |true=>rfl
    |false=>rw[h2];rfl
theorem Qb{ks:Ac Ki}{d:D}{Q:VK}(hk:ks.all Lw=Ab)(wz:ks≠[])(p:AW Rp W H (G2 up ks d) Q):∃ c fs,d=.exc c fs/\AW Rp W H (.ok (.bl (ks.any λk=>nk up k d))) Q:=by
 have ha:ks.any Lw=Ab:=by
  cases ks with
  |nil=>exact absurd rfl wz
  |cons k ks=>simp only[E3,Am]at hk;simp[JR,hk.1]
 cases d with
 | exc c fs=>exact⟨c,fs,rfl,by
   have p':AW Rp W H (if ks.all Lw=Ab then .ok (.bl (ks.any λk=>nk up k (.exc c fs))) else .bad) Q:=p
   rw[Au hk]at p';exact p'⟩
 |obj c fs=>exact A7 p
 |dic _=>exact A7 p
 |non=>simp only[G2,ha,EH]at p;exact A7 p
 |bl _=>simp only[G2,ha,EH]at p;exact A7 p
 |int _=>simp only[G2,ha,EH]at p;exact A7 p
 |str _=>simp only[G2,ha,EH]at p;exact A7 p
 |tup _=>simp only[G2,ha,EH]at p;exact A7 p
 |lst _=>simp only[G2,ha,EH]at p;exact A7 p
theorem Qh{v:V}{c:Ag}{fs:Ac (Ah×D)}(r:Cv K CL H A v (.exc c fs)):∃ a C φ,v=.ref a/\CL c=Aa C/\H a=Aa (.ext φ)/\∀ h,φ h->∃ o,h.get? a=Aa o/\o.cls=.ref C:=by
 rcases r with ⟨a,C,φ,e,_,hc,hH,hφ,_⟩|⟨a,xs,ds,_,z,_⟩
 .exact⟨a,C,φ,e,hc,hH,hφ⟩
 .cases z
variable{a:Aq}{fa:Rho->R D}{up:Ag->Ac Ag}{x:Ah}{p p2 pos:AF}
theorem U_4{c':Ag}(ni:∀ c C,CL c=Aa C->zv X.K C)(hg:Gl X "isinstance")(hm:X.mg "isinstance" = Ae)(w9:Gl X x)(rm:X.mg x=Aa (.ref C'))(rl:M5 X.K CL up c' C')(zS:(x==("__debug__" : Ah))=Af)(ha:ST X CL W a fa)(he:Aw [a,.Name x p2] X.env=(Af,eval a X.env)::Aw [.Name x p2] X.env):SE X CL W (.Call (.Name "isinstance" p) [a,.Name x p2] [] pos) (λU=>(fa U).bind λx=>G2 up [.cls c'] x):=λA=>
 PE.weak (Kl (r:=λxs H Q=>∃ a C φ c,xs=[.ref a,.ref C']/\CL c=Aa C/\H a=Aa (.ext φ)/\(∀ h,φ h->∃ o,h.get? a=Aa o/\o.cls=.ref C)/\Q (.bl ((up c).contains c')) H) (λpI s Y H xs us Q I r ⟨b,C,φ,c,e,hc,hH,hφ,q⟩=>by
   subst e;obtain⟨u,w',rfl,r1,r2⟩:=Li r;cases r1;cases r2;exact TH I hH hφ (ni c C hc) (rl c C hc) q)
  hg hm Fq (Bv (ha A) (Bv (MY (v:=.ref C') w9 rm rfl zS) Ca rfl) he) (by decide) (by decide) he rfl) λY H Q ⟨hA,U,g,q⟩=>⟨hA,U,g,AW.bind q λd v H1 _ s1 r1 p1=>by
   obtain⟨c,fs,rfl,p2⟩:=Qb (by rfl) (by simp) p1
   obtain⟨b,C,φ,rfl,hc,hH,hφ⟩:=Qh r1;refine⟨b,C,φ,c,rfl,hc,hH,hφ,p2 _ H1 (Az.refl H1) ?_⟩;exact congrArg V.bl (DQ _).symm⟩
theorem U_3(ni:∀ c C,CL c=Aa C->zv X.K C)(hg:Gl X "isinstance")(hm:X.mg "isinstance" = Ae)(w9:Gl X "ValueError")(rm:X.mg "ValueError" = Ae)(ha:ST X CL W a fa)(he:Aw [a,.Name "ValueError" p2] X.env=(Af,eval a X.env)::Aw [.Name "ValueError" p2] X.env):SE X CL W (.Call (.Name "isinstance" p) [a,.Name "ValueError" p2] [] pos) (λU=>(fa U).bind λx=>G2 up [.verr] x):=λA=>
 PE.weak (Kl (r:=λxs H Q=>∃ a C φ c,xs=[.ref a,.ty "ValueError"]/\CL c=Aa C/\H a=Aa (.ext φ)/\(∀ h,φ h->∃ o,h.get? a=Aa o/\o.cls=.ref C)/\Q (.bl Ab) H) (λpI s Y H xs us Q I r ⟨b,C,φ,c,e,hc,hH,hφ,q⟩=>by
   subst e;obtain⟨u,w',rfl,r1,r2⟩:=Li r;cases r1;cases r2;exact TH I hH hφ (ni c C hc) (ni c C hc).ve q)
  hg hm Fq (Bv (ha A) (Bv (Ux (v:=.ty "ValueError") w9 rm PyProof.Rows.Boot.«ValueError» rfl (by decide) (by decide)) Ca rfl) he) (by decide) (by decide) he rfl) λY H Q ⟨hA,U,g,q⟩=>⟨hA,U,g,AW.bind q λd v H1 _ s1 r1 p1=>by
   obtain⟨c,fs,rfl,p2⟩:=Qb (by rfl) (by simp) p1
   obtain⟨b,C,φ,rfl,hc,hH,hφ⟩:=Qh r1;refine⟨b,C,φ,c,rfl,hc,hH,hφ,p2 _ H1 (Az.refl H1) ?_⟩;exact congrArg V.bl (DQ _).symm⟩
theorem nF(up:Ag->Ac Ag)(c:Ag)(fs:Ac (Ah×D))(cs:Ac (Ag×Ak)):((cs.map λq=>Ki.cls q.1).any λk=>nk up k (.exc c fs))=cs.any λq=>(up c).contains q.1:=XM
def WO(Cs:Ac Ak):TA:=λ_ H Q=>Q (Cs.map V.ref) H
theorem pO{ts:Ac Aq}{cs:Ac (Ag×Ak)}(ni:∀ c C,CL c=Aa C->zv X.K C)(hg:Gl X "isinstance")(hm:X.mg "isinstance" = Ae)(bv:PA X ts (WO (cs.map λq:Ag×Ak=>q.2)))(wz:cs≠[])(hl:cs.length<=1000)(rl:∀ q∈cs,M5 X.K CL up q.1 q.2)(ha:ST X CL W a fa)(he:Aw [a,.Tuple ts kk p2] X.env=(Af,eval a X.env)::Aw [.Tuple ts kk p2] X.env):SE X CL W (.Call (.Name "isinstance" p) [a,.Tuple ts kk p2] [] pos) (λU=>(fa U).bind λx=>G2 up (cs.map λq=>.cls q.1) x):=λA=>
 PE.weak (Kl (r:=λxs H Q=>∃ a C φ c tp,xs=[.ref a,.ref tp]/\CL c=Aa C/\H a=Aa (.ext φ)/\(∀ h,φ h->∃ o,h.get? a=Aa o/\o.cls=.ref C)/\H tp=Aa (.tup ((cs.map λq:Ag×Ak=>q.2).map V.ref))/\Q (.bl (cs.any λq=>(up c).contains q.1)) H) (λpI s Y H xs us Q I r ⟨b,C,φ,c,tp,e,hc,hH,hφ,ht,q⟩=>by
   subst e;obtain⟨u,w',rfl,r1,r2⟩:=Li r;cases r1;cases r2;exact kE I hH hφ (ni c C hc) ht (Uu hc cs rl) q)
  hg hm Fq (Bv (ha A) (Bv (Od bv) Ca rfl) he) (by decide) (by decide) he rfl) λY H Q ⟨hA,U,g,q⟩=>⟨hA,U,g,AW.bind q λd v H1 _ s1 r1 p1=>by
   have hk:(cs.map λq=>Ki.cls q.1).all Lw=Ab:=by simp[Ey,Lw]
   obtain⟨c,fs,rfl,p2⟩:=Qb hk (by simpa using wz) p1
   obtain⟨b,C,φ,rfl,hc,hH,hφ⟩:=Qh r1;refine⟨by rw[Bc,Bc,Bz];omega,λt ht=>?_⟩
   have hbt:b≠t:=Er hH ht;refine⟨b,C,φ,c,t,rfl,hc,by rw[AQ hbt];exact hH,hφ,BO,p2 _ _ (ES ht _) ?_⟩
   exact congrArg V.bl (nF up c fs cs).symm⟩
end
theorem VN(q:DF K C v=Ab):∃ dd cd sl bm,K.lookup C=Aa ⟨.type "type",dd,.cls cd,sl⟩/\cd.mro=.ref C::bm:=by
 unfold DF at q;split at q
 .rename_i dd cd sl ho;split at q
  .rename_i C' bm k0 k1 k2 k3 n k5 hm hs;simp only[Am,AD,Bf]at q;obtain⟨rfl,_⟩:=q;exact⟨dd,cd,sl,bm,ho,hm⟩
  .cases q
 .cases q
theorem NX(q:DF K C v=Ab):∃ cd bm,Dx K C=Aa cd/\cd.mro=.ref C::bm:=by
 obtain⟨dd,cd,sl,bm,h1,h2⟩:=VN q;exact⟨cd,bm,by unfold Dx;rw[h1],h2⟩
theorem pU(q:DF K C v=Ab):Dp K (.ref C)=Aa (.type "type"):=by
 obtain⟨dd,cd,sl,bm,h1,h2⟩:=VN q;show (K.lookup C).map _=_;rw[h1];rfl
theorem jZ{v:An}{i i':Ao Al}(q:DF K C i=Ab)(q':DF K C' i'=Ab)(su:BQ K (.ref C) (.ref C')=Aa v):B7 K (.ref C) (.ref C')=Aa v:=by
 unfold B7;by_cases e:C=C'
 .subst e;obtain⟨cd,bm,h1,h2⟩:=NX q;have lw:Cj K C (.ref C)=Aa v:=su;have:v=Ab:=by
   unfold Cj at lw;rw[h1,Ie,h2,Ay (by simp)]at lw
   rw[<-BD lw];simp
  rw[Au (by simp),this]
 .rw[Ay (λz=>e (JT (AD.mp z)))]
  obtain⟨cd,bm,h1,h2⟩:=NX q';show (if ((Dx K C').isSome&&Dp K (.ref C')==Aa (.type "type"))=Ab then BQ K (.ref C) (.ref C') else Ae)=_
  rw[h1,pU q',Au (by simp),su]
theorem uF(exc:DF K C v=Ab)(ga:At K (.ref C) "__getattribute__" = Aa (Aa (.builtin "BaseException.__getattribute__")))(gt:At K (.ref C) "__getattr__" = Aa Ae)(cl:At K (.ref C) "__class__" = Aa (Aa (.builtin "object.__class__")))(ob:Cj K C (.type "object")=Aa Ab)(be:BQ K (.ref C) (.type "BaseException")=Aa Ab)(sv:BQ K (.ref C) (.type "ValueError")=Aa Ab):zv K C:=by
 obtain⟨cd,bm,h1,h2⟩:=NX exc;refine⟨⟨v,exc⟩,ga,gt,cl,ob,be,by rw[h1];rfl,?_⟩
 unfold B7;rw[Ay (λz=>by cases AD.mp z)]
 have hm:ZI "ValueError" = Ab:=by decide+kernel
 show (if ZI "ValueError" = Ab then BQ K (.ref C) (.type "ValueError") else Ae)=_
 rw[Au hm,sv]
noncomputable abbrev JI:CXT:=λ_ _ _ _ _ _=>AM
structure xk (P:AK) (w:AI) (K:Fg) (mg:Ah->Ao Al) (base:AJ) (k:Ag) (f:Ak) (fd:Bi) (ps:Ac Ah) (sp:Sp):Prop where
 len:∀ vs H Q E,sp vs H Q E->vs.length=ps.length
 run:∀(A:A4)(ev:Ak)(outer:Ac B5)(s:Ar)(H:Hp)(args:Args)(us:Ac Al)(vs:Ac V)(Q:VK)(E:XK),U5 k A->yo P w K mg base (A.mark (Aa (.ref ev))) outer s H->Gy s fd args (ps.zip us)->A1 vs us->sp vs H Q E ->
  EC (model P w) (A.mark (Aa (.ref ev))) (.call (.ref f) args) (CR JI outer P w H s Q E) s
theorem qI{mg:Ah->Ao Al}{base:AJ}{f:Ak}{params:Mu}{body:Ac AL}{dV kV doc pm cdv ct oc:Al}{N ps:Ac Ah}(lk:K.lookup f=Aa ⟨oc,od,.func (B2 name qual params body scope dV kV doc pm an cdv ct),osl⟩)(zy:DE K cdv qual=Ab)(S:zX N ps scope)(len:∀ vs H Q E,sp vs H Q E->vs.length=ps.length)(wo:∀(A:A4)(ev:Ak)(outer:Ac B5)(s:Ar)(H:Hp)(vs:Ac V)(Q:VK)(E:XK),U5 k (A.deeper (D3 qual scope s.heap.objs.size f cdv))->sp vs H Q E ->
   ∃ t,yp (Cx.hot (B1 JI P w K mg base N qual scope f cdv A outer s H E) ev) body t/\t {nx:=λ_ H'=>Q .non H',rt:=Q} (start N vs) H):xk P w K mg base (k+1) f (B2 name qual params body scope dV kV doc pm an cdv ct) ps sp:=by
 refine⟨len,λA ev outer s H args us vs Q E hr e0 hb r sf=>?_⟩
 have hl:=len _ _ _ _ sf;have e1:yo P w K mg base A outer s H:=⟨e0.frames,e0.mod,e0.bs,e0.bsz,e0.funs,e0.frf,e0.hok,e0.bare⟩;have KX:K.In s.heap:=e0.mod.kin.keeps λb o e=>(e0.bs b o e).1
 have lim:s.heap.NoLimit:=e0.mod.nolimit.keeps λb o e=>(e0.bs b o e).1
 have wq:∀ y∈ps.zip us,scope.names.lookup y.1=Aa .local\/(scope.names.lookup y.1=Aa .cell/\((CO (s.heap.objs.size+1) scope.names []).lookup y.1).isSome=Ab):=λ⟨n,v⟩ hy=>by
  rcases S.par n (GJ hy).1 with q|q
  .exact .inl q
  .exact .inr ⟨q,Gd _ _ _ (.inl q)⟩
 have hdp:(A.mark (Aa (.ref ev))).depth<He:=hr.depth;refine GC hdp (KX _ _ lk) rfl S.co S.gen rfl (Hy KX zy) (hb _ _ _ _ ?_);refine E7 S.kind wq λenv he s1 x=>?_
 subst he;refine⟨lim.keeps x.toInCall.keep,J9 ?_⟩;obtain⟨t,ht,hq⟩:=wo A ev outer s H vs Q E (hr.deeper _) sf;have I:Z8 (B1 JI P w K mg base N qual scope f cdv A outer s H E) [] (start N vs) H s1:=PK S hr.hd e1 hl r x;refine Bj (ht [] s1 (start N vs) H _ (Qn I ev) hq) (λfl s' hs=>?_) λe s' hs=>hs.elim
 have fin:∀{Y':L2.St}{H':Hp}{v:V}{u:Al},Z8 (Cx.hot (B1 JI P w K mg base N qual scope f cdv A outer s H E) ev) [] Y' H' s'->Bt v u->Q v H'->CE outer P w H s Q u s':=
  λ{Y' H' v u} J rv q=>⟨v,H',J.os,J.bare,J.base,J.hok,rv,q⟩
 cases fl with
 |ret u=>
  obtain⟨v,Y',H',J,rv,q⟩:=hs;exact fin J rv q
 |next=>
  obtain⟨Y',H',J,q⟩:=hs;exact fin (v:=V.non) (u:=Du) J rfl q
 |brk=>
  obtain⟨_,_,_,q⟩:=hs;exact A7 q
 |cont=>
  obtain⟨_,_,_,q⟩:=hs;exact A7 q
theorem dC{v:An}{i:Ao Al}(q:DF K C i=Ab)(mr:Cj K C' (.type "object")=Aa Ab)(ty:Dp K (.ref C')=Aa (.type "type"))(su:BQ K (.ref C) (.ref C')=Aa v):B7 K (.ref C) (.ref C')=Aa v:=by
 unfold B7;by_cases e:C=C'
 .subst e;obtain⟨cd,bm,h1,h2⟩:=NX q;have lw:Cj K C (.ref C)=Aa v:=su;have:v=Ab:=by
   unfold Cj at lw;rw[h1,Ie,h2,Ay (by simp)]at lw
   rw[<-BD lw];simp
  rw[Au (by simp),this]
 .rw[Ay (λz=>e (JT (AD.mp z)))]
  show (if ((Dx K C').isSome&&Dp K (.ref C')==Aa (.type "type"))=Ab then BQ K (.ref C) (.ref C') else Ae)=_
  have cs:(Dx K C').isSome=Ab:=by
   unfold Cj at mr;cases e1:Dx K C' with
   |none=>rw[e1]at mr;cases mr
   |some cd=>rfl
  rw[cs,ty,Au (by simp),su]
def spH(K:Fg)(CL:ClA)(n:Ag)(fr:An)(F:Ac D->R D):Sp:=λvs H Q _=>∃(ds:Ac D)(A:Ak->Prop),vs.length=n/\Tm H A/\Z9 K CL H A vs ds/\(match F ds with
  |.ok d=>∀ v H',Az H H'->Cw K CL fr H A H' v d->Q v H'
  |.exn _=>AM
  | .bad=>AM)
section
variable{X:Cx}{CL:ClA}{ev:Ak}
theorem TX{f:Ak}{ps:Ac Ah}{E:XK}{p pos:AF}{e:Aq}{es:Ac Aq}{t:TA}(F:xk X.prog X.w X.K X.mg X.base k f fd ps sp)(hr:U5 k X.A)(hg:Gl X x)(hm:X.mg x=Aa (.ref f))(hk:Ba X.K (.ref f)=Ab)(hb:CV X.K fd ps [])(ha:PA (Cx.hot X ev) (e::es) t)(zS:(x==("__debug__" : Ah))=Af)(he:Aw (e::es) X.env=(Af,eval e X.env)::Aw es X.env)(zR:(Br pos (Aw es X.env)).any (·.1)=Af):PE (Cx.hot X ev) (.Call (.Name x p) (e::es) [] pos) (λY H Q=>t Y H λvs H1=>sp vs H1 Q E):=by
 intro pI s Y H Q I h;refine DJ (Ju (X:=Cx.hot X ev) I hg hm ?_ zS);refine DI (h₀:=X.base) I.ok.mod.kin hk (U4 (ha pos pI s Y H _ I h) λus s1 ⟨vs,H1,I1,r,q⟩=>⟨I1.kIn,?_⟩) he zR
 have hl:us.length=ps.length:=by rw[<-r.length];exact F.len _ _ _ _ q
 have al:Gy s1 fd ⟨us,[]⟩ (ps.zip us):=by
  have:=hb s1 us I1.kIn (by rw[BA];exact hl)
  rwa [BA]at this
 refine FV (ED (F.run X.A ev X.stack s1 H1 ⟨us,[]⟩ us vs Q E hr I1.env0 al r q) λr s' hq=>?_)
 cases r with
 |error e=>exact A7 hq
 |ok fl=>
  cases fl with
  |ret u=>exact I1.after hq
  |next=>exact A7 hq
  |brk=>exact A7 hq
  |cont=>exact A7 hq
theorem eI{k n:Ag}{fr:An}{f:Ak}{ps:Ac Ah}{p pos:AF}{e:Aq}{es:Ac Aq}{fs ft:Rho->R (Ac D)}{sh:Rho->An}(G:xk X.prog X.w X.K X.mg X.base k f fd ps (spH X.K CL n fr F))(hr:U5 k X.A)(hg:Gl X x)(hm:X.mg x=Aa (.ref f))(hk:Ba X.K (.ref f)=Ab)(hb:CV X.K fd ps [])(ha:SA (Cx.hot X ev) CL (λ_ _=>AM) (e::es) fs)(hat:uu (Cx.hot X ev) CL (λ_ _=>AM) (e::es) ft)(yu:∀ U,sh U=Ab->ft U=fs U)(hn:∀ U ds,ft U=.ok ds->ds.length=n)(zS:(x==("__debug__" : Ah))=Af)(he:Aw (e::es) X.env=(Af,eval e X.env)::Aw es X.env)(zR:∀ pos,(Br pos (Aw es X.env)).any (·.1)=Af):SC (Cx.hot X ev) CL (λ_ _=>AM) fr (.Call (.Name x p) (e::es) [] pos) (λU=>(ft U).bind λds=>(F ds).bind λd=>if sh U=Ab then .ok d else if JG fr d=Ab then .ok d else .bad):=λA pI s Y H Q I ⟨hA,U,gd,q⟩=>by
 dsimp only at q;by_cases hs:sh U=Ab
 .rw[yu U hs]at q;refine TX (E:=λ_ _ _=>AM) G hr hg hm hk hb (ha A) zS he (zR _) pI s Y H Q I ⟨hA,U,gd,?_⟩
  cases e1:fs U with
  |bad=>rw[e1]at q;exact q
  |exn y=>rw[e1]at q;exact q
  |ok ds=>
   rw[e1]at q;intro vs H1 s1 r1;refine⟨ds,A,by rw[r1.length];exact hn U ds (by rw[yu U hs];exact e1),hA.same s1,r1,?_⟩
   have q':AW (Cw X.K CL fr H A) (λ_ _=>AM) H ((F ds).bind λd=>if sh U=Ab then .ok d else if JG fr d=Ab then .ok d else .bad) Q:=q
   cases e2:F ds with
   |ok d=>
    rw[e2,R.bind_ok,Au hs]at q';exact λv H2 s2 r2=>q' v H2 (s1.trans s2) ⟨r2.1,λz vb e'=>let ⟨a,xs,z1,z2,z3⟩:=r2.2 z vb e';⟨a,xs,z1,s1.free z2,z3⟩⟩
   |exn y=>rw[e2]at q';exact(q' H (Az.refl H)).elim
   |bad=>rw[e2]at q';exact q'.elim
 .refine TX (E:=λ_ _ _=>AM) G hr hg hm hk hb (hat A) zS he (zR _) pI s Y H Q I ⟨hA,U,gd,?_⟩
  cases e1:ft U with
  |bad=>rw[e1]at q;exact q
  |exn y=>rw[e1]at q;exact q
  |ok ds=>
   rw[e1]at q;intro vs H1 s1 r1;refine⟨ds,A0,by rw[r1.plain.length];exact hn U ds e1,λ_ z=>z.elim,r1.plain,?_⟩
   have q':AW (Cw X.K CL fr H A) (λ_ _=>AM) H ((F ds).bind λd=>if sh U=Ab then .ok d else if JG fr d=Ab then .ok d else .bad) Q:=q
   cases e2:F ds with
   |ok d=>
    rw[e2,R.bind_ok,Ay hs]at q';split at q'
    .rename_i hc;exact λv H2 s2 r2=>q' v H2 (s1.trans s2) (VR hA (s1.trans s2) hc ⟨r2.1,λz vb e'=>let ⟨a,xs,z1,z2,z3⟩:=r2.2 z vb e';⟨a,xs,z1,s1.free z2,z3⟩⟩)
    .exact q'.elim
   |exn y=>rw[e2]at q';exact(q' H (Az.refl H)).elim
   |bad=>rw[e2]at q';exact q'.elim
end
section
variable{M:Ht}{A:A4}{E:Vq}{s:Ar}{env:B5}{nm q:Ah}{C N:Ak}{bs bm bmB:Ac Al}{hdct:An}{sn:Ac Ah}{sub:Ac Al}{ab:An}{col:Ao An}{dd:Ao Ak}{k0 k1 k2 k3 k5:Ao Al}{B newId zo:CQ}
theorem jR{x:Fe Al}{Q:Flow->Ar->Prop}(hb:bm.contains (.type "BaseException")=Ab)(hh:A.handled=Ae)(h:AA M A x (λv s'=>∃ e t dx,v=.ref e/\s'.heap.get? C=Aa (Ct nm q C N bs bm hdct sn sub ab col dd k0 k1 k2 k3 k5 newId)/\s'.heap.get? e=Aa (Gq C dx t)/\E (.ref e) s') E s):AA M A (raiseStmt env (Aa x) Ae) Q E s:=by
 have hB:(Bm C::bm).contains (.type "BaseException")=Ab:=by rw[Hv,hb,JX]
 unfold raiseStmt;refine As (Bj h (λv s' z=>?_) λ_ _ z=>z)
 obtain⟨e,t,dx,rfl,gC,ge,hE⟩:=z;obtain⟨hp,g,d,tk,os⟩:=s';unfold Gq at ge
 repeat (first|(with_reducible refine Cd ge ?_)|(with_reducible refine Cd gC ?_)|(with_reducible refine Fh gC ?_;rw[hB])|wp_step)
 exact wpAny_raiseNew_none hh hE
end
section
variable{prog:AK}{w:AI}{A:A4}{E:Vq}{h:AJ}{g:Bl En}{d:Iy}{t:Ag}{os:BS}
variable{nm q:Ah}{C N fI:Ak}{bs bm bmB:Ac Al}{hdct:An}{sn:Ac Ah}{sub:Ac Al}{ab:An}{col:Ao An}{dd:Ao Ak}{k0 k1 k2 k3 k5:Ao Al}{B newId zo:CQ}{mN:Ah->Ao Al}{rest:Ac Al}{oI:CW}
theorem gE{Q:Fin->Ar->Prop}(F:Ig B newId zo bmB)(T:D2 h bmB bm)(gC:h.get? C=Aa (Ct nm q C N bs bm hdct sn sub ab col dd k0 k1 k2 k3 k5 newId))(hn:h.Ns N mN)(hi:mN "__init__" = Aa (.ref fI))(gI:h.get? fI=Aa oI)(cI:oI.cls=.type "function")(hl:rest.length<=sizeLine)(hq:∀ h' e,Jd h h' e (.ref C) rest->AA (model prog w) A (call (.ref fI) (.ref e::rest)) (λr s'=>r=.none/\Q (.done (.ret (.ref e))) s') E ⟨h',g,d,t,os⟩):AA (model prog w) A (Builtin.«type.__call__» ⟨.ref C::rest,[]⟩) Q E ⟨h,g,d,t,os⟩:=by
 repeat (first|(with_reducible refine Cd gC ?_)|(with_reducible refine wpAny_madeBy_exc gC ?_)|wp_step)
 refine codeAny_call_builtin_code (Hw _ F.quiet) (wpAny_check_new_subT F T gC (codeAny_exc_new_subT F T gC ?_ hl));show AA _ _ _ _ _ _;have kp:∀ b o,h.get? b=Aa o->((h.push { cls:=.type "tuple",data:=.seq rest.toArray }).push {cls:=.ref C,data:=.fields #[.ref h.objs.size,.none,.none,.none,.bool Af,.none]}).get? b=Aa o:=λb o z=>AB _ (AB _ z)
 have ge:((h.push { cls:=.type "tuple",data:=.seq rest.toArray }).push {cls:=.ref C,data:=.fields #[.ref h.objs.size,.none,.none,.none,.bool Af,.none]}).get? (h.objs.size+1)=Aa {cls:=.ref C,data:=.fields #[.ref h.objs.size,.none,.none,.none,.bool Af,.none]}:=by heap_get
 have gt:((h.push { cls:=.type "tuple",data:=.seq rest.toArray }).push {cls:=.ref C,data:=.fields #[.ref h.objs.size,.none,.none,.none,.bool Af,.none]}).get? h.objs.size=Aa { cls:=.type "tuple",data:=.seq rest.toArray }:=AB _ (Zc rfl rfl);generalize (h.push { cls:=.type "tuple",data:=.seq rest.toArray }).push {cls:=.ref C,data:=.fields #[.ref h.objs.size,.none,.none,.none,.bool Af,.none]}=h2 at *;have gC2:=kp _ _ gC;have gI2:=kp _ _ gI;have iy:h2.Ns N mN:=let ⟨o,es,ep,z,r⟩:=hn;⟨o,es,ep,kp _ _ z,r⟩
 have T2:=T.keeps (h':=h2) kp;have cC:(Bm C::bm).contains (.ref C)=Ab:=by simp
 unfold Jp
 repeat (first|(with_reducible refine Cd ge ?_)|(with_reducible refine Fh gC2 ?_;rw[cC])|wp_step)
 show AA _ _ (typeLookup (.ref C) _) _ _ _;refine wpAny_typeLookup_tail gC2 iy T2 F.mroIs F.init.lookup ?_;rw[hi];refine Ck (As ?_);unfold bindSpecial;refine As (wpAny_typeOf (T := "function") ⟨_,gI2,cI⟩ ?_);rw[Au (by decide)]
 refine A2 (As (Bj (hq h2 (h.objs.size+1) ⟨kp,Dt (K1 _),h.objs.size,ge,Dt (AU _),gt⟩) (λr s' z=>?_) λ_ _ z=>z))
 obtain⟨rfl,z⟩:=z
 wp_walk
 exact z
theorem gG{Q:Vq}(F:Ig B newId zo bmB)(T:D2 h bmB bm)(gC:h.get? C=Aa (Ct nm q C N bs bm hdct sn sub ab col dd k0 k1 k2 k3 k5 newId))(hn:h.Ns N mN)(hi:mN "__init__" = Aa (.ref fI))(gI:h.get? fI=Aa oI)(cI:oI.cls=.type "function")(hl:rest.length<=sizeLine)(hq:∀ h' e,Jd h h' e (.ref C) rest->AA (model prog w) (A.under (.builtin "type.__call__" ⟨.ref C::rest,[]⟩)) (call (.ref fI) (.ref e::rest)) (λr s'=>r=.none/\Q (.ref e) s') E ⟨h',g,d,t,os⟩):AA (model prog w) A (call (.ref C) rest) Q E ⟨h,g,d,t,os⟩:=by
 have l1:=tc_lookup;have l2:=tc_bind (.ref C);have ty:(⟨h,g,d,t,os⟩:Ar).TypeIs (.ref C) "type" := ⟨_,gC,rfl⟩;refine FV (codeAny_of_tree ?_);show AA _ _ (callAny (.ref C) _) _ _ _
 repeat (any_goals (first|assumption|(with_reducible refine Cd gC ?_)|wp_step))
 refine⟨rfl,codeAny_call_builtin_at (Hw _ (by decide+kernel)) entry_typeCall (wpAny_check_type_call_sub gC (gE F T gC hn hi gI cI hl λh' e m=>?_))⟩
 exact hq h' e m
end
section
variable{prog:AK}{w:AI}{A:A4}{E:Vq}{s:Ar}{env:B5}
variable{nm q:Ah}{C N fI:Ak}{bs bm bmB:Ac Al}{hdct:An}{sn:Ac Ah}{sub:Ac Al}{ab:An}{col:Ao An}{dd:Ao Ak}{k0 k1 k2 k3 k5:Ao Al}{B newId zo:CQ}{mN:Ah->Ao Al}
theorem bZ{Q:Flow->Ar->Prop}{np cpos pos:AF}{args:Ac Aq}(F:Ig B newId zo bmB)(hb:bm.contains (.type "BaseException")=Ab)(hh:A.handled=Ae)(hp:(Br cpos (Aw args env)).any (·.1)=Af)(hi:mN "__init__" = Aa (.ref fI))(h:AA (model prog w) A (eval (.Name x np) env) (λf s1=>f=.ref C/\AA (model prog w) A (evalArgs (.ref C) Ab (Br cpos (Aw args env)) [])
   (λa s2=>a.kw=[]/\a.pos.length<=sizeLine/\s2.heap.get? C=Aa (Ct nm q C N bs bm hdct sn sub ab col dd k0 k1 k2 k3 k5 newId)/\s2.heap.Ns N mN/\D2 s2.heap bmB bm/\(∃ oI,s2.heap.get? fI=Aa oI/\oI.cls=.type "function") /\
    ∀ h' e,Jd s2.heap h' e (.ref C) a.pos->AA (model prog w) (A.under (.builtin "type.__call__" ⟨.ref C::a.pos,[]⟩)) (call (.ref fI) (.ref e::a.pos)) (λr s'=>r=.none/\∃ t dx,s'.heap.get? C=Aa (Ct nm q C N bs bm hdct sn sub ab col dd k0 k1 k2 k3 k5 newId)/\s'.heap.get? e=Aa (Gq C dx t)/\E (.ref e) s') E {s2 with heap:=h'}) E s1) E s):AA (model prog w) A (exec (.Raise (Aa (.Call (.Name x np) args [] cpos)) Ae pos) env) Q E s:=by
 rw[arm_exec_Raise]
 try simp only[evalOpt,Option.map]
 refine As (CT (jR (nm:=nm) (q:=q) (C:=C) (N:=N) (bs:=bs) (bm:=bm) (hdct:=hdct) (sn:=sn) (sub:=sub) (ab:=ab) (col:=col) (dd:=dd) (k0:=k0) (k1:=k1) (k2:=k2) (k3:=k3) (k5:=k5) (newId:=newId) hb hh ?_));refine As (Bj (wpAny_Call_ofName (Bj h (λf s1 z=>?_) λ_ _ z=>z)) (λv s3 z=>As (CT (A2 z))) λ_ _ z=>z)
 obtain⟨rfl,z⟩:=z;unfold callWith;refine As (Ck (Bj z (λa s2 y=>As (CT ?_)) λ_ _ y=>y))
 obtain⟨us,kw⟩:=a;obtain⟨hk,hl,gC,hn,T,⟨oI,gI,cI⟩,k⟩:=y;obtain rfl:kw=[]:=hk;obtain⟨zZ,g,d,tk,os⟩:=s2;simp only[hp];refine As (wpAny_keeperOf_exc gC (As (gG F T gC hn hi gI cI hl λh' e m=>Bj (k h' e m) (λr s' y=>?_) λ_ _ y=>y)))
 obtain⟨rfl,t,dx,c1,c2,c3⟩:=y;exact⟨rfl,As (Ck (wpAny_point (A2 ⟨e,t,dx,rfl,c1,c2,c3⟩)))⟩
end
section
variable{prog:AK}{w:AI}{A:A4}{E:Vq}{h:AJ}{g:Bl En}{d:Iy}{oh:Ag}{os:BS}
variable{nm q:Ah}{C N e t:Ak}{dx:Ao Ak}{bs bm bmB:Ac Al}{hdct:An}{sn:Ac Ah}{sub:Ac Al}{ab:An}{col:Ao An}{dd:Ao Ak}{k0 k1 k2 k3 k5:Ao Al}{B newId zo:CQ}
theorem mJ{Q:Vq}(F:Ig B newId zo bmB)(T:D2 h bmB bm)(gC:h.get? C=Aa (Ct nm q C N bs bm hdct sn sub ab col dd k0 k1 k2 k3 k5 newId))(ge:h.get? e=Aa (Gq C dx t))(hq:∀ h' t',(∀ b o,b≠e->h.get? b=Aa o->h'.get? b=Aa o)->h'.get? e=Aa (Gq C dx t')->Q .none ⟨h',g,d,oh,os⟩):AA (model prog w) A (call (.builtin zo) [.ref e,.str z tk]) Q E ⟨h,g,d,oh,os⟩:=by
 refine FV (DZ F.init.plain F.initEntry (wpAny_check_init_subT F T gC ge rfl ?_));unfold Gq at ge
 wp_walk
 refine hq _ h.objs.size (λb o nb z=>(Dd _ _ (CG nb)).trans (AB _ z)) ?_
 rw[DO _ (AB _ ge) rfl];rfl
end
noncomputable def mj:Ag->Ag
 |0=>4
 |n+1=>8*mj n+19
theorem UV:∀ n:Fin 100,(Aj (toString ((n.val:Ag):Ai))).length<=4:=by decide+kernel
theorem Vm{α:Type}(f:α->Ag){m:Ag}:∀ l:Ac α,(∀ x∈l,f x<=m)->(l.map f).sum<=l.length*m
 |[],_=>by simp
 |x::l,h=>by
  have h1:=h x AY;have h2:=Vm f l λy hy=>h y (AE _ hy)
  rw[BP,List.sum_cons,A8,Nat.succ_mul];omega
section
variable{X:Cx}{CL:ClA}{pI:Pn}{Y:L2.St}{H:Hp}{s:Ar}
structure Shw (h:AJ) (n:Ag) (u:Al) (pd:LI):Prop where
 rd:Reads h u pd []
 sh:pd.showable=Ab
 nd:pd.hasDict=Af
 dp:pd.depth<=n
 ln:pd.shown.length<=mj n
inductive qt (h:AJ) (n:Ag):Ac Al->Ac LI->Prop where
 |nil:qt h n [] []
 |cons {u:Al} {pd:LI} {us:Ac Al} {pds:Ac LI}:Shw h n u pd->qt h n us pds->qt h n (u::us) (pd::pds)
theorem UH{h:AJ}{n:Ag}:∀{us:Ac Al}{pds:Ac LI},qt h n us pds->ReadsAll h us pds []/\Zi pds=Ab/\Zh pds=Af/\Iz pds<=n/\(∀ t∈DP pds,t.length<=mj n)/\(DP pds).length=us.length
 |[],[],_=>⟨.nil,rfl,rfl,Ds _,(λ_ h=>nomatch h),rfl⟩
 |u::us,pd::pds,.cons h1 h2=>by
  obtain⟨a,b,c,d,e,f⟩:=UH h2;refine⟨.cons h1.rd a,?_,?_,?_,?_,?_⟩
  .show (pd.showable&&Zi pds)=Ab;rw[h1.sh,b];rfl
  .show (pd.hasDict||Zh pds)=Af;rw[h1.nd,c];rfl
  .show max pd.depth (Iz pds)<=n;exact Nat.max_le.mpr ⟨h1.dp,d⟩
  .intro t ht;rcases A6.mp ht with rfl|ht
   .exact h1.ln
   .exact e t ht
  .show (DP pds).length+1=us.length+1;rw[f]
theorem uG(I:Z8 X pI Y H s):∀(n:Ag){d:D}{v:V}{u:Al},w6 n d=Ab->Z7 X.K CL H A v d->Bt v u->∃ pd,Shw s.heap n u pd:=by
 intro n
 induction n with
 |zero=>
  intro d v u hx r rv;cases d with
  |int i=>
   have e:v=.int i:=r;subst e;obtain⟨t,rfl⟩:=rv;simp only[w6,Am,AG]at hx;refine⟨.int i,.int i t,?_,rfl,AU _,?_⟩
   .show decide (i.natAbs.log2<1920)=Ab;refine CI (FB (Gi _) (by omega))
   .have:=UV ⟨i.toNat,by omega⟩
    rwa [show ((i.toNat:Ag):Ai)=i by omega]at this
  |_=>exact absurd (show Af=Ab from hx) Ax
 |succ n ih0=>
  intro d v u hx r rv;cases d with
  |tup ds=>
   obtain⟨a,xs,rfl,_,sq,rs⟩:=r;cases rv;obtain⟨its,vs,⟨o,ho,hc,m,hd⟩,hz⟩:=I.tuple sq;simp only[w6,Am,Bh]at hx;have key:∀{xs:Ac V}{ds:Ac D}{its:Ac Al},(∀ d∈ds,w6 n d=Ab)->Z9 X.K CL H A xs ds->A1 xs its->∃ pds,qt s.heap n its pds:=λ{xs}=>by
    induction xs with
    |nil=>
     intro ds its _ rs vs;cases vs;exact⟨[],.nil⟩
    |cons x xs ih=>
     intro ds its hd rs vs;cases ds with
     |nil=>exact rs.elim
     |cons d ds=>
      cases vs with
      |cons v1 v2=>
       obtain⟨pd,h1⟩:=ih0 (hd d AY) rs.1 v1;obtain⟨pds,h2⟩:=ih (λe he=>hd e (AE _ he)) rs.2 v2
       exact⟨pd::pds,.cons h1 h2⟩
   obtain⟨pds,hf⟩:=key hx.2 rs vs;obtain⟨p1,p2,p3,p4,p5,p6⟩:=UH hf;have l8:its.length<=8:=by
    have h8:=Nat.ble_eq.mp hx.1;rw[<-vs.length,rs.length];exact h8
   refine⟨.tuple pds,.tuple ho hc hd (by simpa using p1),p2,p3,?_,?_⟩
   .show Iz pds+1<=n+1;omega
   .show (tupleText (DP pds)).length<=8*mj n+19;have h1:=tupleText_len_le (DP pds);have h2:=Vm (λt:Ah=>t.length) (DP pds) p5
    have h3:(DP pds).length*mj n<=8*mj n:=Nat.mul_le_mul_right _ (by omega)
    omega
  |_=>exact absurd (show Af=Ab from hx) Ax
end
section
variable{X:Cx}{CL:ClA}
def tFs(K:Fg)(CL:ClA)(i:Ag):TE:=λY H Q=>∃ v d A n,Y[i]?=Aa (Aa v)/\Z7 K CL H A v d/\w6 n d=Ab/\n<=2/\∀ t:Ah,Q (.str t) H
def tFm(K:Fg)(CL:ClA)(i:Ag):TE:=λY H Q=>∃ v d A n,Y[i]?=Aa (Aa v)/\Z7 K CL H A v d/\w6 n d=Ab/\n<=2/\∀ t:Ah,t.length<=500->Q (.str t) H
theorem VD{e:Aq}{i:Ag}(hu:X.A.units+64<Bx)(hg:X.A.guards=Aa [])(he:PE X e (Ch i)):PE X (.FormattedValue e (-1) Ae p1) (tFm X.K CL i):=by
 intro pI s Y H Q I ⟨v,d,A,n,hv,r,hx,hn,q⟩;refine wpAny_FormattedValue_plain (U4 (he pI s Y H (λx H1=>x=v/\H1=H) I ⟨v,hv,rfl,rfl⟩) λu s1 ⟨x,H1,I1,r1,e1,e2⟩=>?_)
 subst e1 e2;have zl:sizeLine ≥ 2000:=by decide
 obtain⟨pd,sw⟩:=uG I1 n hx r r1;have bg:n=0\/n=1\/n=2:=by omega
 have xb:mj n<=500:=by rcases bg with rfl|rfl|rfl<;>decide
 have ln:=sw.ln;have dp:=sw.dp;cases d with
 |int j=>
  have e:x=.int j:=r;subst e;obtain⟨t,rfl⟩:=r1;cases n with
  |zero=>
   have hx':(decide (0<=j)&&decide (j<100))=Ab:=hx;rw[Am,AG,AG]at hx';have il:=UV ⟨j.toNat,by omega⟩
   rw[show ((j.toNat:Ag):Ai)=j by omega]at il
   exact formatField_int_small (FB (Gi _) (by omega)) ⟨.str _,H1,I1.tok _,⟨_,rfl⟩,q _ (B8 il (by omega))⟩
  |succ n=>cases hx
 |tup ds=>
  obtain⟨a,xs,rfl,_,sq,rs⟩:=r;cases r1;refine formatField_of_reads sw.rd sw.sh (λz=>by rw[sw.nd]at z;cases z) hg (by omega) (λ_ _ z=>z) (λh' tk1 è kp=>?_) (by omega)
  exact⟨.str pd.shown,H1,I1.kept kp,⟨_,rfl⟩,q _ (by omega)⟩
 |_=>cases n<;>cases hx
theorem iT{e:Aq}{i:Ag}(hu:X.A.units+64<Bx)(hg:X.A.guards=Aa [])(hz:z.length<=1000)(he:PE X e (Ch i)):PE X (.JoinedStr [.FormattedValue e (-1) Ae p1,.Constant (.str z) k p2] p3) (tFs X.K CL i):=by
 intro pI s Y H Q I ⟨v,d,A,n,hv,r,hx,hn,q⟩;have zl:sizeLine ≥ 2000:=by decide
 refine ZT ?_;show AA (model X.prog X.w) X.A (eval (.FormattedValue e (-1) Ae p1) X.env) (λv s1=>∃ y t,v=.str y t/\(Do++y).length<=sizeLine/\Joins (model X.prog X.w) X.A X.xe [eval (.Constant (.str z) k p2) X.env] (Do++y) _ s1) X.xe s
 refine U4 (VD (CL:=CL) hu hg he pI s Y H (λx H1=>∃ y:Ah,x=.str y/\y.length<=500/\H1=H) I ⟨v,d,A,n,hv,r,hx,hn,λt ht=>⟨t,rfl,ht,rfl⟩⟩) λu s1 ⟨x,H1,I1,r1,y,e1,hy,e2⟩=>?_
 subst e1 e2;obtain⟨t1,rfl⟩:=r1;have l0:(Do++y).length<=500:=by
  rw[Gh];have:Do.length=0:=rfl;omega
 refine⟨y,t1,rfl,by omega,?_⟩
 show AA (model X.prog X.w) X.A (eval (.Constant (.str z) k p2) X.env) _ X.xe s1;refine U4 (KA (X:=X) pI _ Y H1 (λx H2=>x=.str z/\H2=H1) I1 ⟨rfl,rfl⟩) λu2 s2 ⟨x2,H2,I3,r3,e3,e4⟩=>?_
 subst e3 e4;obtain⟨t3,rfl⟩:=r3;have l1:(Do++y++z).length<=sizeLine:=by
  rw[Gh];omega
 exact⟨z,t3,rfl,l1,l1,⟨.str _,H2,I3.tok _,⟨_,rfl⟩,q _⟩⟩
theorem eV{e:Aq}{i:Ag}{z':Ah}{k':Ag}{p0:AF}(hu:X.A.units+64<Bx)(hg:X.A.guards=Aa [])(bw:z'.length<=400)(hz:z.length<=1000)(he:PE X e (Ch i)):PE X (.JoinedStr [.Constant (.str z') k' p0,.FormattedValue e (-1) Ae p1,.Constant (.str z) k p2] p3) (tFs X.K CL i):=by
 intro pI s Y H Q I ⟨v,d,A,n,hv,r,hx,hn,q⟩;have zl:sizeLine ≥ 2000:=by decide
 refine ZT ?_;show AA (model X.prog X.w) X.A (eval (.Constant (.str z') k' p0) X.env) (λv s1=>∃ y t,v=.str y t/\(Do++y).length<=sizeLine/\Joins (model X.prog X.w) X.A X.xe [eval (.FormattedValue e (-1) Ae p1) X.env,eval (.Constant (.str z) k p2) X.env] (Do++y) _ s1) X.xe s
 refine U4 (KA (X:=X) pI _ Y H (λx H2=>x=.str z'/\H2=H) I ⟨rfl,rfl⟩) λu0 s0 ⟨x0,H0,I0,r0,e0,e00⟩=>?_
 subst e0 e00;obtain⟨t0,rfl⟩:=r0;have le:(Do++z').length<=400:=by
  rw[Gh];have:Do.length=0:=rfl;omega
 refine⟨z',t0,rfl,by omega,?_⟩
 show AA (model X.prog X.w) X.A (eval (.FormattedValue e (-1) Ae p1) X.env) _ X.xe s0;refine U4 (VD (CL:=CL) hu hg he pI s0 Y H0 (λx H1=>∃ y:Ah,x=.str y/\y.length<=500/\H1=H0) I0 ⟨v,d,A,n,hv,r,hx,hn,λt ht=>⟨t,rfl,ht,rfl⟩⟩) λu s1 ⟨x,H1,I1,r1,y,e1,hy,e2⟩=>?_
 subst e1 e2;obtain⟨t1,rfl⟩:=r1;have l0:(Do++z'++y).length<=900:=by
  rw[Gh];omega
 refine⟨y,t1,rfl,by omega,?_⟩
 show AA (model X.prog X.w) X.A (eval (.Constant (.str z) k p2) X.env) _ X.xe s1;refine U4 (KA (X:=X) pI _ Y H1 (λx H2=>x=.str z/\H2=H1) I1 ⟨rfl,rfl⟩) λu2 s2 ⟨x2,H2,I3,r3,e3,e4⟩=>?_
 subst e3 e4;obtain⟨t3,rfl⟩:=r3;have l1:(Do++z'++y++z).length<=sizeLine:=by
  rw[Gh];omega
 exact⟨z,t3,rfl,l1,l1,⟨.str _,H2,I3.tok _,⟨_,rfl⟩,q _⟩⟩
structure ur (par:Ah) (j:Aq):Prop where
 st:∀ env,Aw [j] env=[(Af,eval j env)]
 pe:∀(X:Cx)(CL:ClA)(i:Ag),X.A.units+64<Bx->X.A.guards=Aa []->(∀ p,PE X (.Name par p) (Ch i))->PE X j (tFs X.K CL i)
theorem qQ(hz:z.length<=1000):ur par (.JoinedStr [.FormattedValue (.Name par p1) (-1) Ae p2,.Constant (.str z) k p3] p4):=⟨λ_=>rfl,λ_ _ _ hu hg he=>iT hu hg hz (he _)⟩
theorem fF{z':Ah}{k':Ag}{p0:AF}(bw:z'.length<=400)(hz:z.length<=1000):ur par (.JoinedStr [.Constant (.str z') k' p0,.FormattedValue (.Name par p1) (-1) Ae p2,.Constant (.str z) k p3] p4):=⟨λ_=>rfl,λ_ _ _ hu hg he=>eV hu hg bw hz (he _)⟩
end
def wy(e C:Ak)(dx:Ao Ak)(t:Ak):AJ->Prop:=λh=>h.get? e=Aa (Gq C dx t)
theorem QA{e C:Ak}{t:Ak}:∀ h1 h2:AJ,wy e C dx t h1->(∀ o,h1.get? e=Aa o->h2.get? e=Aa o)->wy e C dx t h2:=λ_ _ p k=>k _ p
section
variable{X:Cx}{CL:ClA}{C:Ak}{nm q:Ah}{N:Ak}{bs bm:Ac Al}{hdct:An}{sn:Ac Ah}{sub:Ac Al}{ab:An}{col:Ao An}{dd:Ao Ak}{k0 k1 k2 k3 k5:Ao Al}
theorem eU{g:Ah}{np apos cpos:AF}{es ej:Aq}{i j:Ag}(uw:∀ h:AJ,X.K.In h->h.get? C=Aa (Ct nm q C N bs bm hdct sn sub ab col dd k0 k1 k2 k3 k5 "ValueError.__new__")/\D2 h ua bm)(hg:Gl X g)(hm:X.mg g=Aa (.ref OV))(zS:(g==("__debug__" : Ah))=Af)(s1:CY X.K (.ref OV) "__getattribute__" = Aa (Aa (.builtin "type.__getattribute__")))(s2:Fw X.K OV (.type "type")=Ab)(s3:Fv X.K (.ref OV) (.type "type") "__init__" = Aa (.val (.builtin "ValueError.__init__")))(U6:(apos.endLine==cpos.line)=Ab)(he:PE X es (Ch i))(hj:PE X ej (tFs X.K CL j))(sA:Aw [es,ej] X.env=(Af,eval es X.env)::Aw [ej] X.env)(sB:Aw [ej] X.env=[(Af,eval ej X.env)]):
  PE X (.Call (.Attribute (.Name g np) "__init__" apos) [es,ej] [] cpos) (λY H Q=>∃ e dx t v d A n,Y[i]?=Aa (Aa (.ref e))/\H e=Aa (.ext (wy e C dx t))/\Y[j]?=Aa (Aa v)/\Z7 X.K CL H A v d/\w6 n d=Ab/\n<=2/\∀ t',Q .non (upd H e (.ext (wy e C dx t')))):=by
 have st1:Aw [es,ej] X.env=[(Af,eval es X.env),(Af,eval ej X.env)]:=by rw[sA,sB]
 intro pI s Y H Q I ⟨e,dx,t,v,d,A,n,h1,h2,h3,r,hx,hn,hq⟩;rw[Gg];refine As (show AA (model X.prog X.w) X.A (eval (.Name g np) X.env) _ X.xe s from Ju I hg hm ?_ zS)
 refine As (CT ?_);have form:FP ([es,ej].length+([]:Ac CB).length) (Br cpos (Aw [es,ej] X.env)) (D9 cpos (Dg [] X.env))=Ab:=by
  rw[st1];rfl
 have mpos:Dl Ab (.Name g np) X.env apos cpos=pure cpos:=by
  unfold Dl;simp[U6]
 unfold HV;rw[form];refine As (Ck (PySem.W.method_cls I.kIn s1 (PySem.W.cls_value I.kIn s2 s3 rfl ?_)));refine As (Ge mpos ?_);have I1:=I.tok (s.toks+1);have pa:PA X [es,ej] _:=Bv he (Bv hj Ca sB) sA;have hA:=pa cpos pI {s with toks:=s.toks+1} Y H (λxs H'=>H'=H/\∃ z,xs=[.ref e,.str z]) I1 ⟨_,h1,⟨v,d,A,n,h3,r,hx,hn,λz=>⟨rfl,z,rfl⟩⟩⟩
 rw[st1]at hA ⊢;refine Gb rfl (EO (U4 hA λus s2 ⟨xs,H2,I2,rv,e2,z,ex⟩=>?_))
 subst e2 ex;obtain⟨u1,u2,rfl,tf,uo⟩:=Li rv;cases tf;obtain⟨tk,rfl⟩:=uo;obtain⟨gC,T⟩:=uw _ I2.kIn;have ge:wy e C dx t s2.heap:=(I2.hok e _ h2).1;obtain⟨hp,g2,d2,è,os2⟩:=s2;refine mJ E5 T gC ge λh' t' kp vc=>?_
 refine⟨.non,_,I2.write (x:=e) (e:=e) (o:=.ext (wy e C dx t')) (t':=è) (by rw[h2];exact trivial) (.inl rfl) kp ⟨_,vc⟩ ⟨vc,⟨_,vc⟩,QA⟩,rfl,hq t'⟩
end
theorem aF{bmB bm:Ac Al}(T:D2 h bmB bm){self:Al}{fw:Ah}(hb:refuseLoop self fw bmB=pure ()):refuseLoop self fw bm=pure ():=by
 induction T with
 |base=>exact hb
 |own _ _ _ _ ih=>rw[ZR];exact ih
section
variable{prog:AK}{w:AI}{A:A4}{E:Vq}{h:AJ}{g:Bl En}{d:Iy}{oh:Ag}{os:BS}{K:Fg}
variable{nm q:Ah}{C N e t:Ak}{bs bm bmB:Ac Al}{sn:Ac Ah}{sub:Ac Al}{ab:An}{col:Ao An}{dd:Ao Ak}{k0 k1 k2 k3 k5:Ao Al}{B newId sa owner:CQ}
theorem gK{Q:Fin->Ar->Prop}{v:Al}(X:K.In h)(SF:LK B bmB sa owner)(T:D2 h bmB bm)(gC:h.get? C=Aa (Ct nm q C N bs bm Ab sn sub ab col dd k0 k1 k2 k3 k5 newId))(hf:At K (.ref C) name=Aa Ae)(ge:h.get? e=Aa (Gq C Ae t))(hq:∀ h' dx mh,(∀ b o,b≠e->h.get? b=Aa o->h'.get? b=Aa o)->h'.get? e=Aa (Gq C (Aa dx) t)->h.get? dx=Ae->h'.Ns1 dx (λy=>if y=name then Aa v else Ae)->Q (.done (.ret .none)) ⟨h',g,d,mh,os⟩):AA (model prog w) A (Builtin.«object.__setattr__» ⟨[.ref e,.str name tk,v],[]⟩) Q E ⟨h,g,d,oh,os⟩:=by
  have pass:=aF T (SF.passes (.ref e));have L1:=Cp (M:=model prog w) X hf;obtain⟨o,ho⟩:∃ o,Gq C Ae t=o:=⟨_,rfl⟩;rw[ho]at ge;have oc:o.cls=.ref C:=by rw[<-ho];rfl
  unfold Builtin.«object.__setattr__»
  repeat (first|rw[refuse_eq]|(rw[ZR,pass])|(with_reducible refine Cd ge ?_;rw[oc])|(with_reducible refine wpAny_mroOf_exc gC ?_)|(with_reducible refine L1.at ?_)|(with_reducible refine As (L1.at ?_))|wp_step)
  have od:o.dict=Ae:=by rw[<-ho];rfl
  have odt:o.data=.fields #[.ref t,.none,.none,.none,.bool Af,.none]:=by rw[<-ho];rfl
  rw[od,odt,Ay (by simp[typeHasDict])]
  let D:CW:={ cls:=.type "dict",data:=.dict #[] }
  have g1:(h.push D).get? e=Aa o:=AB _ ge;have ne:e≠h.objs.size:=BB (AS ge);refine As (wpAny_alloc' ?_);refine As (wpAny_update' g1 ?_);refine A2 ?_
  let U_:CW->CW:=λo=>{cls:=o.cls,dict:=Aa h.objs.size,data:=o.data,slots:=o.slots}
  have gD:((h.push D).update e U_).get? h.objs.size=Aa D:=(Zd _ _ _ _ ne.symm).trans (Zc rfl rfl);have nD:((h.push D).update e U_).Ns h.objs.size (λ_=>Ae):=⟨_,#[],_,gD,rfl,λz hz=>absurd hz (by simp),λ_=>rfl⟩
  change AA _ _ (Ys h.objs.size (.str name tk) name v) _ _ _;unfold Ys Builtin.ObjectAttr.newKeyGuard;refine As (A2 (As (wpAny_nsSet1 (Za nD) λk hk hs=>?_)))
  obtain⟨oD,eD,pD,q1,q2,q3⟩:=hk.count (Within.cons name v Within.nil);have le:oD.data.pastItsLine=Ae:=by
    rw[q2];refine ZP (B8 q3 ?_);rw[A8,X3,Bz];omega
  refine As (ZZ q1 le ?_)
  wp_walk
  refine hq k h.objs.size _ (λb ob nb hb=>?_) ?_ (Dt (AU _)) hk
  · rw[hs.2 b (BB (AS hb)),Zd _ _ _ _ nb];exact AB _ hb
  · rw[hs.2 e ne];have:Aa (Gq C (Aa h.objs.size) t)=Aa (U_ o):=by rw[<-ho];rfl
    rw[this];exact DO _ g1 (by rw[<-ho];rfl)
end
section
variable{prog:AK}{w:AI}{A:A4}{E:Vq}{h:AJ}{g:Bl En}{d:Iy}{oh:Ag}{os:BS}{K:Fg}
variable{nm q:Ah}{C N e t:Ak}{bs bm bmB:Ac Al}{sn:Ac Ah}{sub:Ac Al}{ab:An}{col:Ao An}{dd:Ao Ak}{k0 k1 k2 k3 k5:Ao Al}{B newId sa owner:CQ}
theorem gL{o:CW}{a b:Al}(SF:LK B bmB sa owner)(T:D2 h bmB bm)(gC:h.get? C=Aa (Ct nm q C N bs bm Ab sn sub ab col dd k0 k1 k2 k3 k5 newId))(ge:h.get? e=Aa o)(hc:o.cls=.ref C)(hq:Q () ⟨h,g,d,oh,os⟩):AA M A (Gm sa ⟨[.ref e,a,b],[]⟩) Q E ⟨h,g,d,oh,os⟩:=by
 have hb:(Bm C::bm).contains (.type owner)=Ab:=by rw[Hv,T.hasType SF.hasOwner,JX]
 have ha:=SF.args (.ref e) a b;simp only[Gm,SF.kind,SF.split];refine As ?_;unfold Jp
 repeat (first|(with_reducible refine Cd ge ?_;rw[hc])|(with_reducible refine Fh gC ?_;rw[hb])|wp_step)
 unfold argsOk at ha;split
 .rename_i sig hs;rw[hs]at ha;refine Ge ha ?_;exact hq
 .exact A2 hq
theorem mI{v:Al}(X:K.In h)(SF:LK B bmB sa owner)(T:D2 h bmB bm)(gC:h.get? C=Aa (Ct nm q C N bs bm Ab sn sub ab col dd k0 k1 k2 k3 k5 newId))(hf:At K (.ref C) name=Aa Ae)(hs:At K (.ref C) "__setattr__" = Aa (Aa (.builtin sa)))(ge:h.get? e=Aa (Gq C Ae t))(hq:∀ h' dx mh,(∀ b o,b≠e->h.get? b=Aa o->h'.get? b=Aa o)->h'.get? e=Aa (Gq C (Aa dx) t)->h.get? dx=Ae->h'.Ns1 dx (λy=>if y=name then Aa v else Ae)->Q () ⟨h',g,d,mh,os⟩):AA (model prog w) A (LO (.ref e) name v) Q E ⟨h,g,d,oh,os⟩:=by
 have f3:=SF.slot.bind (.ref e);have L1:=Cp (M:=model prog w) X hs;obtain⟨o,ho⟩:∃ o,Gq C Ae t=o:=⟨_,rfl⟩;have oc:o.cls=.ref C:=by rw[<-ho];rfl
 have vc:=ge;rw[ho]at vc;unfold LO callSpecial? specialOf
 repeat (any_goals (first|assumption|(with_reducible refine Cd vc ?_;rw[oc])|(with_reducible refine As (L1.at ?_))|(with_reducible refine L1.at ?_)|wp_step))
 refine DZ SF.slot.plain SF.entry (gL SF T gC vc oc (gK X SF T gC hf ge λh' dx mh k1 k2 k3 k4=>?_))
 repeat (any_goals (first|assumption|wp_step))
 exact hq h' dx mh k1 k2 k3 k4
end
section
variable{X:Cx}{pI:Pn}{Y:L2.St}{H:Hp}{s:Ar}{e:Ak}
theorem UU{o:HO}(I:Z8 X pI Y H s)(ha:HP X pI e)(hH:H e=Ae)(ho:ObjOk X.prog X.w (upd H e o) s.heap e o):Z8 X pI Y (upd H e o) s:=by
 have ne:∀ b o,H b=Aa o->b≠e:=λb o q z=>by rw[z,hH]at q;cases q
 refine⟨I.ok,I.os,I.bare,⟨I.base.keep,I.base.slot,λb o q n hb=>?_,I.base.there,λb xs q=>?_,λb o u q=>?_,λb ps q=>?_⟩,I.loc,I.cell,?_,λx c q=>?_,λp hp=>?_,λb o q=>?_,I.len⟩
 .rw[AQ λz=>by rw[z,ha.2.2.2]at q;cases q]
  exact I.base.free b o q n hb
 .have:=I.base.tups b xs q;rw[AQ (ne _ _ this)];exact this
 .have:=I.base.frzs b o u q;rw[AQ (ne _ _ this)];exact this
 .obtain⟨more,this⟩:=I.base.tbls b ps q;exact⟨more,by rw[AQ (ne _ _ this)];exact this⟩
 .rw[AQ λz=>ha.1 z.symm];exact I.free
 .rw[AQ (ha.2.1 x c q)];exact I.freeC x c q
 .obtain⟨q,n,r⟩:=I.pin p hp;exact⟨q,by rw[AQ (ha.2.2.1 p hp)];exact n,r⟩
 .by_cases hb:b=e
  .subst hb;rw[BO]at q;cases q;exact ho
  .rw[AQ hb]at q;exact(I.hok b o q).stay (λc v hc z=>z) (λc z=>by rw[AQ (ne _ _ z)];exact z) λc zs z=>by rw[AQ (ne _ _ z)];exact z
theorem dE(I:Z8 X pI Y H s)(hH:H e=Aa (.ext φ))(h0:X.s₀.heap.get? e=Ae)(h1:X.ex=[]->F3):Z8 X pI Y (λb=>if b=e then Ae else H b) s:=by
 have get:∀ b o,(if b=e then Ae else H b)=Aa o->b≠e/\H b=Aa o:=λb o q=>by
  by_cases z:b=e
  .rw[Au z]at q;cases q
  .rw[Ay z]at q;exact⟨z,q⟩
 have put:∀ b o,H b=Aa o->o≠.ext φ->(if b=e then Ae else H b)=Aa o:=λb o q n=>by
  by_cases z:b=e
  .rw[z,hH]at q;cases q;exact absurd rfl n
  .rw[Ay z];exact q
 have non:∀ b,H b=Ae->(if b=e then Ae else H b)=Ae:=λb q=>by
  by_cases z:b=e
  .rw[Au z]
  .rw[Ay z];exact q
 refine⟨I.ok,I.os,I.bare,⟨λb o q n hb hx=>?_,I.base.slot,λb o q n hb=>?_,I.base.there,λb xs q=>?_,λb o u q=>?_,λb ps q=>?_⟩,I.loc,I.cell,non _ I.free,λx c q=>non _ (I.freeC x c q),λp hp=>?_,λb o q=>?_,I.len⟩
 .exact I.base.keep b o q n hb hx
 .exact non b (I.base.free b o q n hb)
 .exact put b _ (I.base.tups b xs q) (by intro z;cases z)
 .exact put b _ (I.base.frzs b o u q) (by intro z;cases z)
 .obtain⟨more,this⟩:=I.base.tbls b ps q;exact⟨more,put b _ this (by intro z;cases z)⟩
 .obtain⟨q,n,r⟩:=I.pin p hp;exact⟨q,non _ n,r⟩
 .obtain⟨nb,q⟩:=get b o q;exact(I.hok b o q).stay (λc v hc z=>z) (λc z=>put c _ z (by intro z;cases z)) λc zs z=>put c _ z (by intro z;cases z)
end
section
variable{X:Cx}{C:Ak}{nm q:Ah}{N:Ak}{bs bm:Ac Al}{sn:Ac Ah}{sub:Ac Al}{ab:An}{col:Ao An}{dd:Ao Ak}{k0 k1 k2 k3 k5:Ao Al}
theorem iL{i j:Ag}{f:Ah}{eo:Aq}(uw:∀ h:AJ,X.K.In h->h.get? C=Aa (Ct nm q C N bs bm Ab sn sub ab col dd k0 k1 k2 k3 k5 "ValueError.__new__")/\D2 h ua bm)(hx:X.ex=[])(hf:At X.K (.ref C) f=Aa Ae)(hs:At X.K (.ref C) "__setattr__" = Aa (Aa (.builtin "object.__setattr__")))(he:PE X eo (Ch i))(hv:PE X ev (Ch j))(sw:Dq ev (Aa (.Attribute eo f p8)) p10.line X.env=pure Af):PS X (.Assign [.Attribute eo f p8] ev p10) (λD Y H=>∃ e t v,Y[i]?=Aa (Aa (.ref e))/\H e=Aa (.ext (wy e C Ae t))/\Y[j]?=Aa (Aa v)/\∀ dx,H dx=Ae->dx≠e->D.nx Y (upd (upd H e (.ext (wy e C (Aa dx) t))) dx (.xd [(f,v)]))):=by
 intro pI s Y H D I ⟨e,t,v,h1,h2,h3,hq⟩;refine ZQ (U4 (hv pI s Y H (λx H1=>x=v/\H1=H) I ⟨v,h3,rfl,rfl⟩) λu s1 ⟨x,H1,I1,r1,e1,e2⟩=>?_) sw
 subst e1 e2;refine U4 (he pI s1 Y H1 (λx H2=>x=.ref e/\H2=H1) I1 ⟨_,h1,rfl,rfl⟩) λu2 s2 ⟨x2,H2,I2,r2,e3,e4⟩=>?_
 subst e3 e4;cases r2;obtain⟨gC,T⟩:=uw _ I2.kIn;have ge:wy e C Ae t s2.heap:=(I2.hok e _ h2).1;obtain⟨hp,g2,d2,è,os2⟩:=s2;refine mI I2.kIn PySem.F.store_ValueError T gC hf hs ge λh' dx mh kp vc nd ns=>?_
 have nH:H2 dx=Ae:=L4 I2.hok nd;have nde:dx≠e:=λz=>by rw[z,h2]at nH;cases nH
 have ap:HP X pI dx:=ML I2 hx nd;have I3:=I2.write (x:=e) (e:=e) (o:=.ext (wy e C (Aa dx) t)) (t':=mh) (by rw[h2];exact trivial) (.inl rfl) kp ⟨_,vc⟩ ⟨vc,⟨_,vc⟩,QA⟩
 have I4:=UU (o:=.xd [(f,x)]) I3 ap (by rw[AQ nde];exact nH) ⟨_,ns,λy=>by
  by_cases z:y=f
  .subst z;rw[Au rfl];simp only[BZ,BE];exact r1
  .rw[Ay z];have:(y==f)=Af:=by simp[z]
   simp only[BZ,this]
   trivial⟩
 exact⟨Y,_,I4,hq dx nH nde⟩
end
noncomputable def G4(K:Fg)(C:Ak):An:=match K.lookup C with
  |some ⟨_,_,.cls c,_⟩=>c.hasDict
  |_=>Af
noncomputable def RS(g par f:Ah)(j:Aq)(np apos p1 cpos p6 p7 p8 p9 p10:AF):Ac AL:=
 [.Expr (.Call (.Attribute (.Name g np) "__init__" apos) [.Name "self" p1,j] [] cpos) p6,.Assign [.Attribute (.Name "self" p7) f p8] (.Name par p9) p10]
inductive mv (K:Fg) (mg:Ah->Ao Al) (C:Ak) (f:Ah):Prop
 |mk {fI OV:Ak} {x qual g par:Ah} {j:Aq} {st:AL} {fd:Bi} {np apos p1 cpos p6 p7 p8 p9 p10:AF} (xc:DF K C (Aa (.ref fI))=Ab) (dc:G4 K C=Ab) (fn:qr K x qual st fI fd) (ty:Dp K (.ref fI)=Aa (.type "function"))
  (S:zX ["self",par] ["self",par] (AH st)) (l1:(AH st).names.lookup ("self" : Ah)=Aa .local) (l2:(AH st).names.lookup par=Aa .local) (bd:CV K fd ["self",par] []) (body:Dh st=RS g par f j np apos p1 cpos p6 p7 p8 p9 p10)
  (gl:(AH st).names.lookup g=Aa .globalImplicit) (mo:mg g=Aa (.ref OV)) (dg:(g==("__debug__" : Ah))=Af) (dp:(par==("__debug__" : Ah))=Af) (dq:(par==("__classdict__" : Ah))=Af)
  (s1:CY K (.ref OV) "__getattribute__" = Aa (Aa (.builtin "type.__getattribute__"))) (s2:Fw K OV (.type "type")=Ab) (s3:Fv K (.ref OV) (.type "type") "__init__" = Aa (.val (.builtin "ValueError.__init__")))
  (hl:(apos.endLine==cpos.line)=Ab) (hz:ur par j) (hf:At K (.ref C) f=Aa Ae) (hs:At K (.ref C) "__setattr__" = Aa (Aa (.builtin "object.__setattr__"))):mv K mg C f
section
variable{P:AK}{w:AI}{K:Fg}{mg:Ah->Ao Al}{base:AJ}{CL:ClA}{C fI OV:Ak}{x qual g par f:Ah}{j:Aq}{st:AL}{fd:Bi}{np apos p1 cpos p6 p7 p8 p9 p10:AF}
variable{nm q:Ah}{N:Ak}{bs bm:Ac Al}{sn:Ac Ah}{sub:Ac Al}{ab:An}{col:Ao An}{dd:Ao Ak}{k0 k1 k2 k3 k5:Ao Al}
theorem kI(uw:∀ h:AJ,K.In h->h.get? C=Aa (Ct nm q C N bs bm Ab sn sub ab col dd k0 k1 k2 k3 k5 "ValueError.__new__")/\D2 h ua bm)(fn:qr K x qual st fI fd)(S:zX ["self",par] ["self",par] (AH st))(l1:(AH st).names.lookup ("self" : Ah)=Aa .local)(l2:(AH st).names.lookup par=Aa .local)(bd:CV K fd ["self",par] [])(body:Dh st=RS g par f j np apos p1 cpos p6 p7 p8 p9 p10)(gl:(AH st).names.lookup g=Aa .globalImplicit)(mo:mg g=Aa (.ref OV))(dg:(g==("__debug__" : Ah))=Af)(dp:(par==("__debug__" : Ah))=Af)(dq:(par==("__classdict__" : Ah))=Af)(s1:CY K (.ref OV) "__getattribute__" = Aa (Aa (.builtin "type.__getattribute__")))(s2:Fw K OV (.type "type")=Ab)(s3:Fv K (.ref OV) (.type "type") "__init__" = Aa (.val (.builtin "ValueError.__init__")))(hl:(apos.endLine==cpos.line)=Ab)(hz:ur par j)(hf:At K (.ref C) f=Aa Ae)(hs:At K (.ref C) "__setattr__" = Aa (Aa (.builtin "object.__setattr__"))){A:A4}{s:Ar}{E:XK}{e t:Ak}{v:V}{u:Al}{d:D}{n:Ag}(hh:A.handled=Ae)(hdp:A.depth<He)(hun:A.units+70<Bx)(hgd:A.guards=Aa [])(e0:yo P w K mg base A outer s H)(he:H e=Aa (.ext (wy e C Ae t)))(rp:Z7 K CL H B v d)(hx:w6 n d=Ab)(hn:n<=2)(r:Bt v u):EC (model P w) A (.call (.ref fI) ⟨[.ref e,u],[]⟩) (CR JI outer P w H s (λy H'=>y=.non/\∃ t' dx,H dx=Ae/\dx≠e/\H'=upd (upd H e (.ext (wy e C (Aa dx) t'))) dx (.xd [(f,v)])) E) s:=by
 obtain⟨oc,od,kV,doc,pm,an,cdv,ct,osl,rfl,lk,zy⟩:=fn.ex;have KX:K.In s.heap:=e0.mod.kin.keeps λb o e=>(e0.bs b o e).1
 have lim:s.heap.NoLimit:=e0.mod.nolimit.keeps λb o e=>(e0.bs b o e).1
 have wq:∀ y∈(["self",par]:Ac Ah).zip [Bm e,u],(AH st).names.lookup y.1=Aa .local\/((AH st).names.lookup y.1=Aa .cell/\((CO (s.heap.objs.size+1) (AH st).names []).lookup y.1).isSome=Ab):=λy hy=>by
  refine .inl ?_;rcases A6.mp hy with rfl|hy
  .exact l1
  .rw[BW.mp hy];exact l2
 have rv:A1 [.ref e,v] [.ref e,u]:=.cons rfl (.cons r .nil);refine GC hdp (KX _ _ lk) rfl S.co S.gen rfl (Hy KX zy) (bd s [.ref e,u] KX rfl _ _ _ _ ?_);refine E7 S.kind wq λenv hen ß x=>?_
 subst hen;refine⟨lim.keeps x.toInCall.keep,J9 ?_⟩;have I:Z8 (B1 JI P w K mg base ["self",par] qual (AH st) fI cdv A outer s H E) [] (start ["self",par] [.ref e,v]) H ß:=PK S hh e0 rfl rv x;generalize hX:B1 JI P w K mg base ["self",par] qual (AH st) fI cdv A outer s H E=X at I;have U9:∀ p,PE X (.Name "self" p) (Ch 0):=λp=>by rw[<-hX];exact Dw rfl (.inl l1)
 have cy:∀ p,PE X (.Name par p) (Ch 1):=λp=>by rw[<-hX];exact Dw rfl (.inl l2) dp dq
 have st1:=eU (X:=X) (CL:=CL) (C:=C) (g:=g) (np:=np) (apos:=apos) (cpos:=cpos) (i:=0) (j:=1) (OV:=OV) (by rw[<-hX];exact uw) (by rw[<-hX];exact gl) (by rw[<-hX];exact mo) dg (by rw[<-hX];exact s1) (by rw[<-hX];exact s2) (by rw[<-hX];exact s3) hl (U9 p1)
  (hz.pe X CL 1 (by rw[<-hX];show A.units+3+64<Bx;omega) (by rw[<-hX];exact hgd) cy) rfl (hz.st _)
 have st2:=iL (X:=X) (p8:=p8) (p10:=p10) (by rw[<-hX];exact uw) (by rw[<-hX];rfl) (by rw[<-hX];exact hf) (by rw[<-hX];exact hs) (U9 p7) (cy p9) rfl
 have all:=B9 (Kc (pos:=p6) st1 rfl) (DT st2);have hk:=all [] ß _ H {nx:=λ_ H'=>∃ t' dx,H dx=Ae/\dx≠e/\H'=upd (upd H e (.ext (wy e C (Aa dx) t'))) dx (.xd [(f,v)]),rt:=λ_ _=>AM} I ⟨e,Ae,t,v,d,B,n,rfl,he,rfl,by rw[<-hX];exact rp,hx,hn,λt'=>⟨e,t',v,rfl,BO,rfl,λdx h1 h2=>⟨t',dx,by rw[AQ h2]at h1;exact h1,h2,by rw[Uj]⟩⟩⟩
 rw[body];refine Bj (by rw[<-hX]at hk;exact hk) (λfl s' Ê=>?_) λev s' hev=>hev
 cases fl with
 |next=>
  obtain⟨Y',H',J,w'⟩:=Ê;exact⟨.non,H',J.os,J.bare,J.base,J.hok,rfl,rfl,w'⟩
 |ret y=>obtain⟨_,_,_,_,_,w'⟩:=Ê;exact w'.elim
 |brk=>obtain⟨_,_,_,w'⟩:=Ê;exact w'.elim
 |cont=>obtain⟨_,_,_,w'⟩:=Ê;exact w'.elim
end
theorem V0:∀(n m:Ag)(d:D),w6 n d=Ab->n+1<=m->xq m d=Ab
 |0,m+1,.int i,_,_=>rfl
 |n+1,m+1,.tup ds,h,hm=>by
  have h':(CF ds.length 8&&ds.all (w6 n))=Ab:=h;rw[Am]at h';show ds.all (xq m)=Ab;rw[Bh]at h' ⊢;exact λx hx=>V0 n m x (h'.2 x hx) (by omega)
 |0,_,.tup _,h,_=>nomatch h
 |n+1,_,.int _,h,_=>nomatch h
section
variable{X:Cx}{CL:ClA}{W:XW}
def Nk(xn:Ag->Ac D->R Ex)(c:Ag)(f:Ah)(ds:Ac D):Prop:=∃ d n,ds=[d]/\w6 n d=Ab/\n<=2/\xn c ds=.ok ⟨c,[(f,d)]⟩
theorem bT{c k:Ag}{g:Ah}{np cpos pos:AF}{e:Aq}{es:Ac Aq}{fs:Rho->R (Ac D)}(vd:X.calm=Ab)(hx:X.ex=[])(hr:U5 k X.A)(rz:Ny X CL W)(hg:Gl X g)(hm:X.mg g=Aa (.ref C))(zS:(g==("__debug__" : Ah))=Af)(yh:CL c=Aa C)(ha:SA X CL W (e::es) fs)(qh:∀ ds,xn c ds=.bad\/(xn c ds=.ok ⟨c,[]⟩/\DF X.K C Ae=Ab)\/∃ f,mv X.K X.mg C f/\Nk xn c f ds)(he:Aw (e::es) X.env=(Af,eval e X.env)::Aw es X.env)(zR:∀ pos,(Br pos (Aw es X.env)).any (·.1)=Af)(hz:∀ U ds,fs U=.ok ds->ds.length<=100000):SS X CL W (.Raise (Aa (.Call (.Name g np) (e::es) [] cpos)) Ae pos) (λU=>O.of U (zk (fs U)) λxs=>O.of U (xn c xs) λx=>.exn x U):=λFz B pI s Y H D I ⟨U,x,p⟩=>by
 have hpl':(Br cpos (Aw (e::es) X.env)).any (·.1)=Af:=by rw[he];show (Af||(Br cpos (Aw es X.env)).any (·.1))=Af;rw[zR];rfl
 cases e1:fs U with
 |bad=>dsimp only at p;rw[e1]at p;exact p.elim
 |exn y=>dsimp only at p;rw[e1]at p;exact p.elim
 |ok ds=>
  rcases qh ds with e2|⟨e2,xc⟩|⟨f,xi,d,n,rfl,xf,hn,e2⟩
  .dsimp only at p;rw[e1]at p;have p2:B4 X.K CL Fz B W (O.of U (xn c ds) λx=>.exn x U) D:=p
   rw[e2]at p2;exact p2.elim
  .refine dW (fs:=fs) (xn:=λ_ vb=>match xn c vb with | .ok ⟨_,[]⟩=>.ok ⟨c,[]⟩|_=>.bad) vd rz hg hm zS xc yh ha (λvb=>by
    split
    .exact .inr rfl
    .exact .inl rfl) he zR hz Fz B pI s Y H D I ⟨U,x,?_⟩
   dsimp only at p ⊢;rw[e1]at p ⊢;have p2:B4 X.K CL Fz B W (O.of U (xn c ds) λx=>.exn x U) D:=p
   rw[e2]at p2;show B4 X.K CL Fz B W (O.of U (match xn c ds with | .ok ⟨_,[]⟩=>(.ok ⟨c,[]⟩:R Ex)|_=>.bad) λx=>.exn x U) D
   rw[e2];exact p2
  .dsimp only at p;rw[e1]at p;have p2:B4 X.K CL Fz B W (O.of U (xn c [d]) λx=>.exn x U) D:=p
   rw[e2]at p2;have p3:∀ H,(∀ b o,Fz b o->H b=Aa o)->W ⟨c,[(f,d)]⟩ H:=p2;cases xi with
   |mk xc dc fn ty S l1 l2 bd body gl mo dg dp dq w1 w2 w3 hl hz0 hf hs=>
    rename_i fI OV x0 qual g0 par j0 st fd np0 apos q1 cpos0 q6 q7 q8 q9 q10;obtain⟨bm,N,nm,qn,bs,hd,sn,sub,ab,col,dd,k0,k1,k2,k3,k5,mN,uw,rq,U7⟩:=PZ I.kIn xc;have oy:hd=Ab:=by
     unfold G4 at dc;split at dc
     .rename_i c0 d0 cd sl lk;have g1:=I.kIn _ _ lk;rw[(uw _ I.kIn).1]at g1;unfold Ct at g1;cases g1;exact dc
     .cases dc
    subst oy;have bj:∀ h:AJ,X.K.In h->h.get? C=Aa (Ct nm qn C N bs bm Ab sn sub ab col dd k0 k1 k2 k3 k5 "ValueError.__new__")/\D2 h ua bm:=λh z=>⟨(uw h z).1,(uw h z).2.2⟩
    refine bZ (bmB:=ua) (nm:=nm) (q:=qn) (C:=C) (N:=N) (fI:=fI) (bs:=bs) (bm:=bm) (hdct:=Ab) (sn:=sn) (sub:=sub) (ab:=ab) (col:=col) (dd:=dd) (k0:=k0) (k1:=k1) (k2:=k2) (k3:=k3) (k5:=k5) (mN:=mN) E5 U7 (I.ok.hd vd) hpl' rq ?_;refine Ju I hg hm ⟨rfl,?_⟩ zS;have q1:=ha (BN B U Y) cpos pI s Y H (λvs H1=>Az H H1/\Z9 X.K CL H1 (BN B U Y) vs [d]) I ⟨x.aok,U,x.good,by rw[e1];exact λvs H1 s1 r1=>⟨s1,r1⟩⟩
    rw[he]at q1 ⊢;refine EO (Bj q1 (λus s2 ⟨vs,H2,I2,r2,ze,vn⟩=>⟨rfl,?_⟩) λ_ _ z=>z)
    cases vs with
    |nil=>exact vn.elim
    |cons v vs=>
     cases vs with
     |cons=>exact vn.2.elim
     |nil=>
      obtain⟨u,rfl,ru⟩:=KJ r2;obtain⟨o1,o2,o3⟩:=uw _ I2.kIn;obtain⟨oc,od,kV,doc,pm,an,cdv,ct,osl,efd,lk,zy⟩:=fn.ex;have coc:oc=.type "function" := by
       have ty':(X.K.lookup fI).map _=_:=ty;rw[lk]at ty';exact BD ty'
      refine⟨by rw[Bz];show 1<=_;omega,o1,o2,o3,⟨_,I2.kIn _ _ lk,coc⟩,λh' e0 made=>?_⟩
      obtain⟨t,ge,_⟩:=made.there;have I3:Z8 X pI Y H2 {s2 with heap:=h'}:=I2.kept (t':=s2.toks) made.keeps
      have ap:HP X pI e0:=ML I2 hx made.new;have n0:H2 e0=Ae:=L4 I2.hok made.new;have I4:=UU (o:=.ext (wy e0 C Ae t)) I3 ap n0 ⟨ge,⟨_,ge⟩,QA⟩;have wk:Az H2 (upd H2 e0 (.ext (wy e0 C Ae t))):=λb o z=>by rw[AQ λy=>by rw[y,n0]at z;cases z];exact z
      have ru0:=hr.mono (Ds k);have run:=kI (P:=X.prog) (w:=X.w) (mg:=X.mg) (base:=X.base) (CL:=CL) (E:=λ_ _ _=>AM) (B:=BN B U Y) (H:=upd H2 e0 (.ext (wy e0 C Ae t))) (t:=t) bj fn S l1 l2 bd body gl mo dg dp dq w1 w2 w3 hl hz0 hf hs (A:=X.A.under (.builtin "type.__call__" ⟨.ref C::[u],[]⟩)) (outer:=X.stack) hr.hd (by rw[SL];have:=ru0.dp;omega) (by rw[SK];have:=ru0.un;omega) hr.gd (I4.env0.make C [u] []) BO (Z7.same wk vn.1) xf hn ru
      refine FV (ED run λr s' hq=>?_)
      cases r with
      |error _=>exact A7 hq
      |ok fl=>
       cases fl with
       |next=>exact A7 hq
       |brk=>exact A7 hq
       |cont=>exact A7 hq
       |ret u'=>
        obtain⟨v',H5,I5,rr,ev,t',dx,i9,dne,eH⟩:=I4.after hq;subst ev;cases rr;have nd2:H2 dx=Ae:=by rw[AQ dne]at i9;exact i9
        rw[Uj]at eH;have H5e:H5 e0=Aa (.ext (wy e0 C (Aa dx) t')):=by rw[eH,AQ (CG dne),BO]
        have ge5:wy e0 C (Aa dx) t' s'.heap:=(I5.hok e0 _ H5e).1;have I6:=dE I5 H5e ap.2.2.2 λ_=>trivial
        have H6d:(if dx=e0 then Ae else H5 dx)=Aa (.xd [(f,v)]):=by rw[Ay dne,eH,BO]
        have li:Az H2 (λb=>if b=e0 then Ae else H5 b):=λb o z=>by
         have nb:b≠e0:=λy=>by rw[y,n0]at z;cases z
         have nb2:b≠dx:=λy=>by rw[y,nd2]at z;cases z
         show (if b=e0 then Ae else H5 b)=Aa o
         rw[Ay nb,eH,AQ nb2,AQ nb];exact z
        refine⟨rfl,t',Aa dx,(bj _ I6.kIn).1,ge5,rz pI Y _ s' e0 C (Aa dx) t' ⟨c,[(f,d)]⟩ I6 (λhx=>K7 I2 hx made.new) (Au rfl) ge5 (λA hA=>⟨C,yh,rfl,.inr ⟨dx,[(f,v)],rfl,λz=>?_,H6d,⟨rfl,?_⟩,trivial⟩⟩) (p3 _ λb o z=>li _ _ (ze _ _ (x.same b o z)))⟩
        .obtain⟨ys,q,w⟩:=hA dx z;have q':(if dx=e0 then Ae else H5 dx)=Aa ys:=q
         rw[H6d]at q';cases q';exact w
        .exact Rt hA 5 d (V0 n 5 d xf (by omega)) (Z7.sub (λ_ z=>z.elim) _ (Z7.same li vn.1))
end
section
variable{prog:AK}{w:AI}{A:A4}{E:Vq}{h:AJ}{g:Bl En}{d:Iy}{t:Ag}{os:BS}{K:Fg}{e C dx:Ak}{f:Ah}{mA:Ah->Ao Al}{v:Al}
theorem QB(p:JH e C (Aa dx) h):ud e C h:=let ⟨o,a,b,_⟩:=p;⟨o,a,b⟩
theorem aU{Q:Fin->Ar->Prop}(X:K.In h)(hf:At K (.ref C) f=Aa Ae)(hd:G4 K C=Ab)(p:JH e C (Aa dx) h)(hn:h.Ns1 dx mA)(hv:mA f=Aa v)(hq:Q (.done (.ret v)) ⟨h,g,d,t,os⟩):AA (model prog w) A (Builtin.«object.__getattribute__» ⟨[.ref e,.str f tk],[]⟩) Q E ⟨h,g,d,t,os⟩:=by
 have L0:=Kz (M:=model prog w) (QB p);have L1:=Cp (M:=model prog w) X hf;obtain⟨o,ge,oc,od,us,dt⟩:=p;unfold G4 at hd;split at hd
 .rename_i c' d' cd' uy lk;have gC:=X _ _ lk;unfold Builtin.«object.__getattribute__»
  repeat (any_goals (first|assumption|with_reducible refine L0.at ?_|with_reducible refine L1.at ?_|wp_step))
  rw[dt];unfold instanceDict
  repeat (first|(with_reducible refine Cd ge ?_;rw[oc])|with_reducible refine Cd gC ?_|wp_step)
  rw[od]
  repeat (first|(with_reducible refine wpAny_nsGet hn.ns ?_;rw[hv])|wp_step)
  exact hq
 .cases hd
theorem mH{Q:Vq}(X:K.In h)(x:zv K C)(hf:At K (.ref C) f=Aa Ae)(hd:G4 K C=Ab)(p:JH e C (Aa dx) h)(hn:h.Ns1 dx mA)(hv:mA f=Aa v)(hh:handedOut v=pure v)(hq:Q v ⟨h,g,d,t,os⟩):AA (model prog w) A (getAttrBy (.ref e) (.str f tk) fill expr) Q E ⟨h,g,d,t,os⟩:=by
 have L0:=Kz (M:=model prog w) (QB p);have L1:=Cp (M:=model prog w) X x.ga;have L2:=Cp (M:=model prog w) X x.gt;have f3:=F1.ga.bind (.ref e);have hx0:(expr&&Kb (Dj "BaseException.__getattribute__"))=Af:=by cases expr<;>rfl
 have hx2:(Dj "BaseException.__getattribute__" == Dj "object.__getattribute__")=Af:=by decide+kernel
 have hx1:(Kb (Bm C)&&Dj "BaseException.__getattribute__" == Dj "object.__getattribute__")=Af:=by rw[hx2];rfl
 repeat (any_goals (first|assumption|with_reducible refine L0.at ?_|with_reducible refine L1.at ?_|with_reducible refine L2.at ?_|wp_step))
 refine DZ F1.ga.plain Y_0 (Sz X x (QB p) (aU X hf hd p hn hv ?_))
 repeat (any_goals (first|assumption|wp_step))
 all_goals trace_state
theorem cA{b:An}{Q:Vq}(X:K.In h)(x:zv K C)(hf:At K (.ref C) f=Aa Ae)(hd:G4 K C=Ab)(p:JH e C (Aa dx) h)(hn:h.Ns1 dx mA)(hv:mA f=Aa v)(hh:handedOut v=pure v)(hq:Q v ⟨h,g,d,t+1,os⟩):AA (model prog w) A (KZ (.ref e) f b) Q E ⟨h,g,d,t,os⟩:=by
 unfold KZ
 repeat (any_goals (first|assumption|with_reducible apply mH X x hf hd p hn hv hh|wp_step))
end
section
variable{X:Cx}{CL:ClA}{W:XW}{K:Fg}{H:Hp}{A:Ak->Prop}
theorem P2{f:Ah}{d:D}:∀{vs:Ac (Ah×V)}{fs:Ac (Ah×D)},z9 K CL H A vs fs->fs.lookup f=Aa d->∃ v,vs.lookup f=Aa v/\Z7 K CL H A v d
 |[],[],_,q=>nomatch q
 |(n,v)::vs,(m,d')::fs,⟨⟨e,r⟩,rs⟩,q=>by
  have e':n=m:=e;subst e';by_cases z:(f==n)=Ab
  .simp only[BZ,z]at q ⊢;cases q;exact⟨v,rfl,r⟩
  .simp only[BZ,z]at q ⊢;exact P2 rs q
theorem UJ{a:Aq}{fa:Rho->R D}{f:Ah}(ni:∀ c C,CL c=Aa C->zv X.K C)(hnf:∀ c C,CL c=Aa C->G4 X.K C=Ab/\At X.K (.ref C) f=Aa Ae)(ha:ST X CL W a fa)(hb:BH a f X.env (eval a X.env)=eval a X.env):SE X CL W (.Attribute a f pos) (λU=>(fa U).bind λx=>R5 x f):=λA=>by
 intro pI s Y H Q I ⟨hA,U,gd,q⟩;refine Qu hb (U4 (ha A pI s Y H _ I ⟨hA,U,gd,AW.bind q (Q':=λv H1=>∃ d,Cv X.K CL H1 A v d/\AW (λH2=>Z7 X.K CL H2 A) W H1 (R5 d f) Q) λd v H1 _ s1 r1 p1=>⟨d,r1,p1⟩⟩) λu s1 ⟨v,H1,I1,rv,d,rp,p1⟩=>?_)
 cases d with
 |exc c fs=>
  have p2:AW (λH2=>Z7 X.K CL H2 A) W H1 (match fs.lookup f with|some d=>.ok d|none=>.bad) Q:=p1
  cases el:fs.lookup f with
  |none=>rw[el]at p2;exact p2.elim
  |some d=>
   rw[el]at p2;rcases rp with ⟨e,C,φ,rfl,_,hc,hH,hφ,kg⟩|⟨a,xs,ds,_,z,_⟩
   .rcases kg with z|⟨dx,vs,nd,hd,rf,hφ2⟩
    .rw[z]at el;cases el
    .obtain⟨y,l,ry⟩:=P2 rf el;cases rv;have ph:=(I1.hok e _ hH).1;obtain⟨o,ge,oc⟩:=hφ _ ph;obtain⟨o',vc,od,us,odt⟩:=hφ2 _ ph;rw[ge]at vc;cases vc;obtain⟨mA,hn,rel⟩:=I1.hok dx _ hd;obtain⟨u',hu,ru⟩:=Ix.some_of (v:=y) (o:=mA f) (by rw[<-l];exact rel f)
     obtain⟨k1,k2⟩:=hnf c C hc;obtain⟨hp,g2,d2,è,os2⟩:=s1;exact cA I1.kIn (ni c C hc) k2 k1 ⟨o,ge,oc,od,us,odt⟩ hn hu (PySem.W.handedOut_of (S5 ru)) ⟨y,H1,I1.tok _,ru,p2 y H1 (Az.refl H1) ry⟩
   .cases z
 |_=>exact p1.elim
end
section
variable{X:Cx}{CL:ClA}{W:XW}
end
theorem cL:∀{ss:Ac Ah}{its:Ac Al},A1 (ss.map V.str) its->∃ l:Ac (Ah×Ce),its=strValues l/\l.map (·.1)=ss:=by
 intro ss
 induction ss with
 |nil=>intro its v;cases v;exact⟨[],rfl,rfl⟩
 |cons x ss ih=>
  intro its v;cases v with
  |cons v1 v2=>
   obtain⟨t,rfl⟩:=v1;obtain⟨l,e1,e2⟩:=ih v2;exact⟨(x,t)::l,by rw[e1];rfl,by rw[BP,e2]⟩
section
variable{X:Cx}{CL:ClA}{W:XW}
def wQ(K:Fg):V->Ac V->Hp->VK->Prop:=λx xs H Q=>∃ sep q ss,x=.str sep/\xs=[.ref q]/\Id K H q (ss.map V.str)/\J4 sep ss=Ab/\Q (.str (Eo sep ss)) H
theorem lM:qd X "str.join" (wQ X.K):=by
 intro pI s Y H x vs v us Q I rx rv h;obtain⟨sep,l,ss,rfl,rfl,sq,hok,q⟩:=h;obtain⟨t,rfl⟩:=rx;obtain⟨u,rfl,ru⟩:=rv.one;cases ru;obtain⟨its,r,pl,hz⟩:=I.list sq;obtain⟨ls,rfl,rfl⟩:=cL r;unfold J4 at hok;rw[Bf]at hok;refine EQ Y_5 (FQ _ _ _) PySem.F.entry_str_join (PySem.F.args_str_join_2 _ _) (meets_str_join_list sep t l ls hok) ⟨pl.isList,post_join ls ⟨joinFit_length hok,λt' k=>?_⟩⟩
 exact⟨.str _,H,I.kept (t':=k) λ_ _ e=>e,⟨_,rfl⟩,q⟩
theorem aI:∀{es:Ac D}{ss:Ac Ah}{ys:Ac V},Mg es=Aa ss->Z9 K CL H A ys es->ys=ss.map V.str:=by
 intro es
 induction es with
 |nil=>
  intro ss ys h r;cases h;cases ys with
  |nil=>rfl
  |cons=>exact r.elim
 |cons e es ih=>
  intro ss ys h r;cases ys with
  |nil=>exact r.elim
  |cons y ys=>
   cases e with
   |str x=>
    have h':(Mg es).map (x :: ·)=Aa ss:=h;cases e2:Mg es with
    |none=>rw[e2]at h';cases h'
    |some js=>
     rw[e2]at h';cases h';have e1:y=.str x:=r.1;rw[ih e2 r.2,e1];rfl
   |_=>cases h
theorem jJ{y:Aq}{s:Ah}{p apos cpos:AF}(hy:SE X CL W y fy)(U7:BH (.Constant (.str s) k p) "join" X.env (eval (.Constant (.str s) k p) X.env)=eval (.Constant (.str s) k p) X.env)(yt:((Br cpos (Aw [y] X.env)).all (λx=>!x.1)&&(D9 cpos (Dg [] X.env)).all (λx=>x.1.isSome)&&decide ([y].length+([]:Ac CB).length+(if ([]:Ac CB).isEmpty then 0 else 1)<30))=Ab)(U6:(apos.endLine==cpos.line)=Ab)(hs:Aw [y] X.env=[(Af,eval y X.env)]):
  SE X CL W (.Call (.Attribute (.Constant (.str s) k p) "join" apos) [y] [] cpos) (λU=>(fy U).bind λx=>zr .sjoin [.str s,x]):=λA=>
 PE.weak (IL Y_2 Y_5 PySem.F.type_str_join lM (M6 (X:=X) (CL:=CL) (W:=W) A) (Bv (hy A) Ca hs) U7 yt U6 hs rfl) λY H Q ⟨hA,U,g,p⟩=>⟨hA,U,g,λv H1 s1 r1=>by
  dsimp only at p;have ev:v=.str s:=r1;subst ev;refine⟨rfl,hA.same s1,U,g.same s1,?_⟩;cases e:fy U with
  |bad=>rw[e]at p;exact p.elim
  |exn x=>rw[e]at p;exact λH2 s2=>p H2 (s1.trans s2)
  |ok d=>
   rw[e]at p;intro v' H2 s2 r2;have p1:AW (λH=>Z7 X.K CL H A) W H (zr .sjoin [.str s,d]) Q:=p
   cases d with
   |lst ds=>
    obtain⟨a,xs,rfl,_,sq,rs⟩:=r2;have p2:AW (λH=>Z7 X.K CL H A) W H (QK s ds) Q:=p1
    unfold QK at p2;cases e3:Mg ds with
    |none=>rw[e3]at p2;exact p2.elim
    |some ss=>
     rw[e3]at p2;dsimp only at p2;split at p2
     .rename_i hok;have ex:=aI e3 rs;subst ex;exact⟨s,a,ss,rfl,rfl,sq,hok,p2 _ H2 (s1.trans s2) rfl⟩
     .exact p2.elim
   | _=>exact p1.elim⟩
end
theorem Tj:∀(l:Ac Ah)(k:Ag),A1 (l.map V.str) (strsFrom k l)
 |[],_=>.nil
 |_::r,k=>.cons ⟨_,rfl⟩ (Tj r (k+1))
section
variable{X:Cx}{CL:ClA}{W:XW}
def oH:V->Ac V->Hp->VK->Prop:=λx xs H Q=>∃ z y,x=.str z/\xs=[.str y]/\(y.length==0)=Af/\IV z y=Ab/\∀ p,H p=Ae->Q (.ref p) (upd H p (.lst ((DH z y).map V.str)))
theorem dR:qd X "str.split" oH:=by
 intro pI s Y H x vs v us Q I rx rv h;obtain⟨z,y,rfl,rfl,hy,hok,q⟩:=h;obtain⟨t,rfl⟩:=rx;obtain⟨u0,rfl,ru⟩:=rv.one;obtain⟨u,rfl⟩:=ru;unfold IV at hok;rw[Am]at hok;have z1:z.length<=sizeLine:=by have:=AR hok.1;rw[Bz];omega
 have z2:(Yu z (DB z y 0 z.length (z.length+1)) y.length).length<=sizeLine:=by have:=AR hok.2;rw[Bz];omega
 have one:∀(l:Ac Ah)(its:Ac Al)(tk:Ag),DH z y=l->l.length<=sizeLine->A1 (l.map V.str) its->EP X pI Y Q (.ref s.heap.objs.size) { s with heap:=s.heap.push { cls:=.type "list",data:=.seq its.toArray },toks:=tk }:=λl its tk e hl hv=>
  ⟨.ref s.heap.objs.size,_,I.laid (t':=tk) (o:=.lst (l.map V.str)) (λb ob q=>AB _ q) (AU _) ⟨by rw[Bc];exact hl,its,0,hv,Bp _ rfl⟩,rfl,by rw[<-e];exact q _ (I.hok.fresh (AU _))⟩
 have n8:1<=sizeLine:=by decide
 cases h1:(decide (z.length<y.length)||decide (DD z<DD y))
 .cases hf:(DB z y 0 z.length (z.length+1)).isEmpty
  .exact EQ Em (FQ _ _ _) FZ (FC _ _) (meets_str_split_sep z y t u h1 hy hf z1 z2) (one _ _ _ ((Ay (Ha h1)).trans (Ay (Ha hf))) z2 (Tj _ _))
  .exact EQ Em (FQ _ _ _) FZ (FC _ _) (meets_str_split_not_found z y t u h1 hy hf) (one [z] [.str z t] s.toks ((Ay (Ha h1)).trans (Au hf)) n8 (.cons ⟨_,rfl⟩ .nil))
 .exact EQ Em (FQ _ _ _) FZ (FC _ _) (meets_str_split_cannot_occur z y t u h1) (one [z] [.str z t] s.toks (Au h1) n8 (.cons ⟨_,rfl⟩ .nil))
theorem To{K:Fg}{H:Hp}{A:Ak->Prop}:∀ l:Ac Ah,Z9 K CL H A (l.map V.str) (l.map D.str)
 |[]=>trivial
 |_::r=>⟨rfl,To r⟩
theorem dZ{o:Aq}{y:Ah}{p apos cpos:AF}(ho:ST X CL W o fo)(U7:BH o "split" X.env (eval o X.env)=eval o X.env)(U6:(apos.endLine==cpos.line)=Ab):SC X CL W Ab (.Call (.Attribute o "split" apos) [.Constant (.str y) k p] [] cpos) (λU=>(fo U).bind λx=>zr .ssplit [x,.str y]):=λA=>
 PE.weak (IL Y_2 Em PySem.F.type_str_split dR (ho A) (Bv (M6 (X:=X) (CL:=CL) (W:=W) A) Ca rfl) U7 rfl U6 rfl rfl) λY H Q ⟨hA,U,g,q⟩=>⟨hA,U,g,AW.bind q λd v H1 _ s1 r1 p1=>by
  cases d with
  |str z=>
   have e:=r1.str_of;subst e;refine⟨rfl,hA.same s1,U,g.same s1,λv' H2 s2 r2=>?_⟩
   have e2:v'=.str y:=r2;subst e2;have p2:AW (Cw X.K CL Ab H A) W H1 (if (!(y.length==0)&&IV z y)=Ab then .ok (.lst ((DH z y).map D.str)) else .bad) Q:=p1
   split at p2
   .rename_i hk;rw[Am,Bf]at hk;exact⟨z,y,rfl,rfl,hk.1,hk.2,λa ha=>p2 _ _ (s2.trans (ES ha _)) (K4 (s1.trans s2) ((hA.same s1).same s2) ha (To _))⟩
   .exact p2.elim
  | _=>exact p1.elim⟩
theorem rK:Lq X CL W (.type "str") (zr .str):=by
  intro A pI s Y H xs us Q I r ⟨hA,ds,rs,p⟩
  match ds,rs,p with
  |[.int i],rs,p=>
    obtain⟨v,rfl,rv⟩:=rs.one;have e:=rv.int_of;subst e;have p2:AW (λH=>Z7 X.K CL H A) W H (if Lu i=Ab then .ok (.str (Aj (toString i))) else .bad) Q:=p
    split at p2
    · rename_i hk;have we:i.natAbs<1000:=AN hk;exact Sq pI s Y H _ us Q I r ⟨i,rfl,FB (Gi _) (Nat.lt_trans we (by decide)),p2 _ H (Az.refl H) rfl⟩
    · exact p2.elim
  |[.bl _],_,p=>exact p.elim
  |[],_,p=>exact p.elim
  |[.non],_,p=>exact p.elim
  |[.str _],_,p=>exact p.elim
  |[.tup _],_,p=>exact p.elim
  |[.lst _],_,p=>exact p.elim
  |[.obj _ _],_,p=>exact p.elim
  |[.exc _ _],_,p=>exact p.elim
  |[.dic _],rs,p=>first|exact p.elim|(obtain⟨v,rfl,rv⟩:=rs.one;exact rv.plain.elim)
  |x::_::_,_,p=>cases x<;>exact p.elim
end
structure ol (K:Fg) (C:Ak):Prop where
 cl:wl K C
 np:FM K C "p"
 nt:FM K C "triple"
 ha:At K (.ref C) "__class__" = Aa (Aa (.builtin "object.__class__"))
 hn:CY K (.builtin "object.__class__") "__get__" = Aa (Aa (.builtin "getset_descriptor.__get__"))
 htk:IB K (.builtin "object.__class__")=Aa Ab
 hm:Cj K C (.type "object")=Aa Ab
theorem Tp{K:Fg}{CL:ClA}{H:Hp}{A:Ak->Prop}{f:Ah}:∀{vs:Ac (Ah×V)}{fs:Ac (Ah×D)},z9 K CL H A vs fs->fs.lookup f=Ae->vs.lookup f=Ae
 |[],[],_,_=>rfl
 |v::vs,(n,d)::fs,h,q=>by
  obtain⟨⟨e,_⟩,h2⟩:=h;obtain⟨m,y⟩:=v;have e':m=n:=e;subst e';by_cases z:(f==m)=Ab
  .simp only[BZ,z]at q;cases q
  .have z':(f==m)=Af:=by simpa using z
   simp only[BZ,z']at q ⊢;exact Tp h2 q
 |[],_::_,h,_=>h.elim
 |_::_,[],h,_=>h.elim
section
variable{CL:ClA}{K:Fg}{H:Hp}{A:Ak->Prop}{x C dx:Ak}{vs:Ac (Ah×V)}{o:HO}
mutual
theorem VF(hx:H x=Aa (.ins C dx vs)):∀(n:Ag)(d:D){v:V},xq n d=Ab->Z7 K CL H A v d->Z7 K CL (upd H x o) A v d
 |_,.non,_,_,h=>h
 |_,.bl _,_,_,h=>h
 |_,.int _,_,_,h=>h
 |_,.str _,_,_,h=>h
 |0,.tup _,_,hn,_=>by cases hn
 |n+1,.tup ds,_,hn,h=>by
  obtain⟨a,xs,e,na,s,r⟩:=h;refine⟨a,xs,e,na,?_,vi hx n ds hn r⟩;rcases s with s|s
  .rcases s with s|⟨ob,s⟩
   .exact .inl (.inl (by rw[AQ λz=>by rw[z,hx]at s;cases s];exact s))
   .exact .inl (.inr ⟨ob,by rw[AQ λz=>by rw[z,hx]at s;cases s];exact s⟩)
  .exact .inr s
 |n,.lst _,_,hn,_=>by cases n<;>cases hn
 |n,.obj _ _,_,hn,_=>by cases n<;>cases hn
 |n,.exc _ _,_,hn,_=>by cases n<;>cases hn
 |n,.dic _,_,hn,_=>by cases n<;>cases hn
theorem vi(hx:H x=Aa (.ins C dx vs)):∀(n:Ag)(ds:Ac D){us:Ac V},ds.all (xq n)=Ab->Z9 K CL H A us ds->Z9 K CL (upd H x o) A us ds
 |_,[],[],_,h=>h
 |n,d::ds,_::_,hn,h=>by
  simp only[E3,Am]at hn;exact⟨VF hx n d hn.1 h.1,vi hx n ds hn.2 h.2⟩
 |_,[],_::_,_,h=>h.elim
 |_,_::_,[],_,h=>h.elim
end
theorem Qg{v:V}{c:Ag}{fs:Ac (Ah×D)}(r:Cv K CL H A v (.obj c fs)):∃ a C dx vs,v=.ref a/\¬ A a/\OC K c=Aa C/\H a=Aa (.ins C dx vs)/\z9 K CL H A vs fs:=by
 rcases r with r|⟨a,xs,ds,_,z,_⟩
 .exact r
 .cases z
end
section
variable{X:Cx}{CL:ClA}{W:XW}{a:Aq}{fa:Rho->R D}
theorem pK{f:Ah}(ho:∀ c C,OC X.K c=Aa C->wl X.K C/\FM X.K C f)(ha:ST X CL W a fa)(hb:BH a f X.env (eval a X.env)=eval a X.env):SE X CL W (.Attribute a f pos) (λU=>(fa U).bind λx=>Õ x f):=λA=>by
 intro pI s Y H Q I ⟨hA,U,gd,q⟩;refine Qu hb (U4 (ha A pI s Y H _ I ⟨hA,U,gd,AW.bind q (Q':=λv H1=>∃ d,Cv X.K CL H1 A v d/\AW (λH2=>Z7 X.K CL H2 A) W H1 (Õ d f) Q) λd v H1 _ s1 r1 p1=>⟨d,r1,p1⟩⟩) λu s1 ⟨v,H1,I1,rv,d,rp,p1⟩=>?_)
 cases d with
 |obj c fs=>
  have p2:AW (λH2=>Z7 X.K CL H2 A) W H1 (match fs.lookup f with|some d=>.ok d|none=>.bad) Q:=p1
  cases el:fs.lookup f with
  |none=>rw[el]at p2;exact p2.elim
  |some d=>
   rw[el]at p2;obtain⟨e,C,dx,vs,rfl,_,hc,hH,rf⟩:=Qg rp;obtain⟨y,l,ry⟩:=P2 rf el;cases rv;obtain⟨k1,k2⟩:=ho c C hc;exact SU I1 hH k1 k2 l λu s' I2 ru=>⟨y,H1,I2,ru,p2 y H1 (Az.refl H1) ry⟩
 |_=>exact p1.elim
theorem pP{p p2 pos:AF}(iz:∀ c C,OC X.K c=Aa C->ol X.K C)(hg:Gl X "isinstance")(hm:X.mg "isinstance" = Ae)(w9:Gl X x)(rm:X.mg x=Aa (.ref C'))(rl:∀ c C,OC X.K c=Aa C->B7 X.K (.ref C) (.ref C')=Aa ((oup c).contains k))(zS:(x==("__debug__" : Ah))=Af)(ha:ST X CL W a fa)(he:Aw [a,.Name x p2] X.env=(Af,eval a X.env)::Aw [.Name x p2] X.env):SE X CL W (.Call (.Name "isinstance" p) [a,.Name x p2] [] pos) (λU=>(fa U).bind λx=>Xe k x):=λA=>
 PE.weak (Kl (r:=λxs H Q=>∃ a C dx vs c,xs=[.ref a,.ref C']/\OC X.K c=Aa C/\H a=Aa (.ins C dx vs)/\Q (.bl ((oup c).contains k)) H) (λpI s Y H xs us Q I r ⟨b,C,dx,vs,c,e,hc,hH,q⟩=>by
   subst e;obtain⟨u,w',rfl,r1,r2⟩:=Li r;cases r2;have o:=iz c C hc;exact bK I r1 (.ins hH o.cl o.ha o.hn o.htk o.hm) (rl c C hc) λtk=>⟨.bl _,H,I.tok tk,rfl,q⟩)
  hg hm Fq (Bv (ha A) (Bv (MY (v:=.ref C') w9 rm rfl zS) Ca rfl) he) (by decide) (by decide) he rfl) λY H Q ⟨hA,U,g,q⟩=>⟨hA,U,g,AW.bind q λd v H1 _ s1 r1 p1=>by
   cases d with
   |obj c fs=>
    obtain⟨b,C,dx,vs,rfl,_,hc,hH,_⟩:=Qg r1;exact⟨b,C,dx,vs,c,rfl,hc,hH,p1 _ H1 (Az.refl H1) rfl⟩
   | _=>exact p1.elim⟩
theorem jH{m:Ah}{ms:Ac (Ag×Ag)}{F:Ag->Ac D->R D}(hr:U5 k X.A)(hx:∀ A,HI (CXR X.prog X.w) X (EKW X.K CL A W))(ha:ST X CL W a fa)(hms:∀ c id C,ms.lookup c=Aa id->OC X.K c=Aa C->∃ f fd ps fr,wl X.K C/\zh X.K C m f/\CV X.K fd ps []/\Y4 X.prog X.w X.K X.mg X.base (CXR X.prog X.w) k f fd ps (spD X.K CL 1 fr (F id)))(U7:BH a m X.env (eval a X.env)=eval a X.env)(U6:(apos.endLine==pos.line)=Ab):SE X CL W (.Call (.Attribute a m apos) [] [] pos) (λU=>(fa U).bind λx=>OF F m ms x):=λA=>by
 intro pI s Y H Q I ⟨hA,U,gd,q⟩;rw[Gg,U7];refine As (U4 (ha A pI s Y H (λv H1=>Az H H1/\∃ d,Cv X.K CL H1 A v d/\AW (λH2=>Z7 X.K CL H2 A) W H1 (OF F m ms d) Q) I ⟨hA,U,gd,AW.bind q λd v H1 _ s1 r1 p1=>⟨s1,d,r1,p1⟩⟩) λu s1 ⟨v,H1,I1,rv,ß,d,rp,p1⟩=>?_)
 refine As (CT ?_);have ya:FP (([]:Ac Aq).length+([]:Ac CB).length) (Br pos (Aw [] X.env)) (D9 pos (Dg [] X.env))=Ab:=rfl;have vw:Dl Ab a X.env apos pos=pure pos:=by
  unfold Dl;simp[U6]
 unfold HV;rw[ya];cases d with
 |obj c fs=>
  have p2:AW (λH2=>Z7 X.K CL H2 A) W H1 (match ms.lookup c with|some id=>if (fs.lookup m).isNone=Ab then F id [.obj c fs] else .bad|none=>.bad) Q:=p1
  cases el:ms.lookup c with
  |none=>rw[el]at p2;exact p2.elim
  |some id=>
   rw[el]at p2;dsimp only at p2;split at p2
   .rename_i hn;obtain⟨e,C,dx,vs,rfl,na,hc,hH,rf⟩:=Qg rp;obtain⟨f,fd,ps,fr,cl,me,hb,G⟩:=hms c id C el hc;cases rv;refine As (Ck (NQ I1 hH cl me (Tp rf (DX.mp hn)) ?_));refine As (Ge vw ?_);refine ZE (first:=[.ref e]) I1.kIn me.kp (Oc (us:=[.ref e]) (vs:=[.ref e]) G hr hb .nil (hx A) I1 (.cons rfl .nil) ?_)
    refine⟨[.obj c fs],A,rfl,hA.same ß,⟨⟨e,C,dx,vs,rfl,na,hc,hH,rf⟩,trivial⟩,?_⟩;cases e2:F id [.obj c fs] with
    |ok d=>rw[e2]at p2;exact λv H2 s2 r2=>p2 v H2 s2 r2.1
    |exn y=>rw[e2]at p2;exact λcls dx H2 s2 xr=>⟨y,xr,p2 H2 s2⟩
    |bad=>rw[e2]at p2;exact p2.elim
   .exact p2.elim
 |_=>exact p1.elim
def spI(K:Fg)(CL:ClA)(G:Ac D->R D):Sp:=λvs H Q _=>∃(x C dx:Ak)(us:Ac V)(ds:Ac D)(A:Ak->Prop)(H0:Hp),vs=.ref x::us/\us.length=2/\wl K C/\FM K C "p"/\FM K C "triple"/\H x=Aa (.ins C dx [])/\H0 x=Ae/\Az H0 H/\Tm H0 A/\Z9 K CL H0 A us ds/\(match G ds with
  |.ok d=>∀ d1 d2,d=.tup [d1,d2]->∀ v1 v2 H',Az H0 H'->H' x=Aa (.ins C dx [("p",v1),("triple",v2)])->Z7 K CL H' A v1 d1->Z7 K CL H' A v2 d2->Q .non H'
  | _=>AM)
theorem lN{c:Ag}{d:D}{Q:VK}(p:AW Rp W H (ET c d) Q):∃ d1 d2,d=.tup [d1,d2]/\ET c d=.ok (.obj c [("p",d1),("triple",d2)]):=by
  cases d with
  |tup ds=>
    match ds,p with
    |[],p=>exact p.elim
    |[_],p=>exact p.elim
    |_::_::_::_,p=>exact p.elim
    |[a,b],p=>
      refine⟨a,b,rfl,?_⟩;have p2:AW Rp W H (if xq 5 b=Ab then .ok (.obj c [("p",a),("triple",b)]) else .bad) Q:=p
      show (if xq 5 b=Ab then R.ok (D.obj c [("p",a),("triple",b)]) else .bad)=_
      split at p2
      · rename_i z;rw[Au z]
      · exact p2.elim
  |_=>exact p.elim
theorem jI{c k:Ag}{C f:Ak}{g:Ah}{np pos:AF}{e:Aq}{es:Ac Aq}{fs:Rho->R (Ac D)}{G:Ac D->R D}(M:Mk X.K C f)(iz:OC X.K c=Aa C)(o:ol X.K C)(FI:Y4 X.prog X.w X.K X.mg X.base (CXR X.prog X.w) k f fd ["self", "p", "numbers"] (spI X.K CL G))(hr:U5 (k+1) X.A)(hb:CV X.K fd ["self", "p", "numbers"] [])(hx:∀ A,HI (CXR X.prog X.w) X (EKW X.K CL A W))(hF:∀ ds,ds.length=2->F ds=.bad\/F ds=(G ds).bind (ET c))(hG:∀ ds y,G ds≠.exn y)(hg:Gl X g)(hm:X.mg g=Aa (.ref C))(zS:(g==("__debug__" : Ah))=Af)(ha:SA X CL W (e::es) fs)(hn:∀ U ds,fs U=.ok ds->ds.length=2)(he:Aw (e::es) X.env=(Af,eval e X.env)::Aw es X.env)(zR:(Br pos (Aw es X.env)).any (·.1)=Af):SE X CL W (.Call (.Name g np) (e::es) [] pos) (λU=>(zk (fs U)).bind λds=>F ds):=λA=>by
 intro pI s Y H Q I ⟨hA,U,gd,p⟩;dsimp only at p;refine DJ (Ju I hg hm ?_ zS);have q1:=ha A pos pI s Y H (λvs H1=>∃ ds,Az H H1/\ds.length=2/\Z9 X.K CL H1 A vs ds/\AW (λH=>Z7 X.K CL H A) W H (F ds) Q) I ⟨hA,U,gd,by
  cases e1:fs U with
  |bad=>rw[e1]at p;exact p
  |exn y=>rw[e1]at p;exact p.elim
  | ok ds=>rw[e1]at p;exact λvs H1 s1 r1=>⟨ds,s1,hn U ds e1,r1,p⟩⟩
 refine DI (h₀:=X.base) I.ok.mod.kin M.kp (U4 q1 λus s1 ⟨vs,H1,I1,r,ds,sm,hl,vn,q⟩=>⟨I1.kIn,?_⟩) he zR
 rcases hF ds hl with z|z
 .rw[z]at q;exact q.elim
 .rw[z]at q;cases e2:G ds with
  |bad=>rw[e2]at q;exact q.elim
  |exn y=>exact absurd e2 (hG ds y)
  |ok d=>
   rw[e2]at q;have q':AW (λH=>Z7 X.K CL H A) W H (ET c d) Q:=q
   obtain⟨d1,d2,rfl,em⟩:=lN q';rw[em]at q';refine TU (Q:=Q) (E:=EKW X.K CL A W) M FI hr hb .nil (hx A) I1 r λx dx nx i9 ne=>?_
   refine⟨x,C,dx,vs,ds,A,H1,by rw[BA],by rw[vn.length];exact hl,o.cl,o.np,o.nt,BO,nx,λb ob h=>?_,hA.same sm,vn,?_⟩
   .have n1:b≠x:=λz=>by rw[z,nx]at h;cases h
    have n2:b≠dx:=λz=>by rw[z,i9]at h;cases h
    rw[AQ n1,AQ n2];exact h
   .rw[e2];exact λe1 e3 ee v1 v2 H' ze hx' r1 r2=>by
     cases ee;exact⟨rfl,q' _ H' (sm.trans ze) ⟨x,C,dx,_,rfl,(hA.same sm).new nx,iz,hx',⟨⟨rfl,r1⟩,⟨rfl,r2⟩,trivial⟩⟩⟩
theorem cS{p0:AF}{t0:Cx}{H0:Hp}{x dx:Ak}{v1 v2:V}{Q:VK}(U9:∀ p,PE X (.Name "self" p) (Ch 0))(pp:∀ p,PE X (.Name "p" p) (Ch 1))(hv:SE X CL W ev (λU=>evE Z U (.call id (.cons (.var 1) (.cons (.var 2) .nil)))))(hs:Dq ev (Aa (.Attribute (.Name "self" p3) "triple" p4)) p5.line X.env=pure Af):
    ∃ t,yp X [.Assign [.Attribute (.Name "self" p0) "p" p1] (.Name "p" p2) p6,.Assign [.Attribute (.Name "self" p3) "triple" p4] ev p5] t /\
      (Y=[Aa (.ref x),Aa v1,Aa v2]->wl X.K C->FM X.K C "p"->FM X.K C "triple"->H x=Aa (.ins C dx [])->H0 x=Ae->Az H0 H->Tm H0 A->Z7 X.K CL H0 A v1 d1->Z7 X.K CL H0 A v2 d2 ->
        (∃ t,Z.F id [d1,d2]=.ok t/\xq 5 t=Ab/\∀ w1 w2 H',Az H0 H'->H' x=Aa (.ins C dx [("p",w1),("triple",w2)])->Z7 X.K CL H' A w1 d1->Z7 X.K CL H' A w2 t->Q .non H')->t {nx:=λ_ H'=>Q .non H',rt:=Q} Y H):=by
  have all:=B9 (IK (X:=X) (f := "p") (pos:=p6) (pos':=p1) (U9 p0) (pp p2) rfl) (DT (IK (X:=X) (f := "triple") (pos:=p5) (pos':=p4) (U9 p3) (hv A) hs));refine⟨_,all,?_⟩;rintro rfl cl np nt hx h0 sm hA r1 r2 ⟨t,ef,hnl,q⟩;have nx:∀ b o,H0 b=Aa o->b≠x:=λb o e z=>by rw[z,h0]at e;cases e
  have ze:Az H0 (upd H x (.ins C dx (Fk "p" v1 []))):=λb o e=>by rw[AQ (nx b o e)];exact sm b o e
  refine⟨v1,rfl,.ref x,rfl,x,C,dx,[],rfl,hx,cl,np,by decide,hA.same ze,[Ae,Aa (d1,Af),Aa (d2,Af)],⟨λi d h=>?_,λi d h=>?_,rfl⟩,?_⟩
  · match i,h with
    |0,h=>cases h
    |1,h=>cases h;exact⟨v1,rfl,Z7.same ze r1⟩
    |2,h=>cases h;exact⟨v2,rfl,Z7.same ze r2⟩
    |n+3,h=>cases h
  · match i,h with
    |0,h=>cases h
    |1,h=>cases h
    |2,h=>cases h
    |n+3,h=>cases h
  · have ee:evE Z [Ae,Aa (d1,Af),Aa (d2,Af)] (.call id (.cons (.var 1) (.cons (.var 2) .nil)))=.ok t:=by
      show ((Z.F id [d1,d2]).bind λd=>.ok d)=_
      rw[ef];rfl
    dsimp only;rw[ee];intro w2 H3 s3 r3;have hx3:H3 x=Aa (.ins C dx [("p",v1)]):=s3 _ _ BO;refine⟨.ref x,rfl,x,C,dx,[("p",v1)],rfl,hx3,cl,nt,show 1<1000 by decide,?_⟩
    have wk:Az H0 (upd H3 x (.ins C dx (Fk "triple" w2 [("p",v1)]))):=λb o e=>by rw[AQ (nx b o e)];exact s3 _ _ (ze b o e)
    exact q v1 w2 _ wk BO (Z7.same wk r1) (VF hx3 5 t hnl r3)
end
theorem II{i:Ag}{d d':D}(hi:U[i]?=Aa (Aa (d,Ab)))(j:Ag)(e:D):(U.set i (Aa (d',Ab)))[j]?=Aa (Aa (e,Ab))↔(i=j/\e=d')\/(i≠j/\U[j]?=Aa (Aa (e,Ab))):=by
 have hil:=(A5.mp hi).1;by_cases hj:i=j
 .subst hj;rw[By hil];simp;exact⟨λz=>z.symm,λz=>z.symm⟩
 .rw[Bu hj];simp[hj]
theorem Jv{i:Ag}{d d':D}(hi:U[i]?=Aa (Aa (d,Ab)))(b:Ak):BN B (U.set i (Aa (d',Ab))) Y b↔BN B U Y b:=by
 constructor
 .rintro (h|⟨j,e,h1,h2⟩)
  .exact .inl h
  .rcases (II hi j e).mp h1 with ⟨rfl,_⟩|⟨_,h1⟩
   .exact .inr ⟨i,d,hi,h2⟩
   .exact .inr ⟨j,e,h1,h2⟩
 .rintro (h|⟨j,e,h1,h2⟩)
  .exact .inl h
  .by_cases hj:i=j
   .subst hj;exact .inr ⟨i,d',(II hi i _).mpr (.inl ⟨rfl,rfl⟩),h2⟩
   .exact .inr ⟨j,e,(II hi j e).mpr (.inr ⟨hj,h1⟩),h2⟩
section
variable{K:Fg}{CL:ClA}{Fz Fy:Fr}{B:Ak->Prop}{U:Rho}{Y:L2.St}{H:Hp}{W:XW}
theorem Sx.dis2(x:Sx K CL Fz B U Y H){i:Ag}{d d':D}(hi:U[i]?=Aa (Aa (d,Ab)))(j k:Ag)(e f:D)(b:Ak)(g1:(U.set i (Aa (d',Ab)))[j]?=Aa (Aa (e,Ab)))(g2:(U.set i (Aa (d',Ab)))[k]?=Aa (Aa (f,Ab)))(g3:Y[j]?=Aa (Aa (.ref b)))(g4:Y[k]?=Aa (Aa (.ref b))):j=k:=by
 rcases (II hi j e).mp g1 with ⟨rfl,_⟩|⟨hj,h'⟩
 .rcases (II hi k f).mp g2 with ⟨rfl,_⟩|⟨hk,xm⟩
  .rfl
  .exact x.dis i k d f b hi xm g3 g4
 .rcases (II hi k f).mp g2 with ⟨rfl,_⟩|⟨hk,xm⟩
  .exact x.dis j i e d b h' hi g3 g4
  .exact x.dis j k e f b h' xm g3 g4
theorem Sx.new2(x:Sx K CL Fz B U Y H){i:Ag}{d d':D}(hi:U[i]?=Aa (Aa (d,Ab)))(j:Ag)(e:D)(b:Ak)(g1:(U.set i (Aa (d',Ab)))[j]?=Aa (Aa (e,Ab)))(g2:Y[j]?=Aa (Aa (.ref b))):((∀ o,¬ Fz b o)/\¬ B b)/\∃(j:Ag)(d:D),U[j]?=Aa (Aa (d,Ab))/\Y[j]?=Aa (Aa (.ref b)):=by
 rcases (II hi j e).mp g1 with ⟨rfl,_⟩|⟨_,h'⟩
 .exact⟨x.new i d b hi g2,i,d,hi,g2⟩
 .exact⟨x.new j e b h' g2,j,e,h',g2⟩
theorem Sx.sh2(x:Sx K CL Fz B U Y H){i:Ag}{d d':D}(hi:U[i]?=Aa (Aa (d,Ab)))(j:Ag)(e:D)(h:(U.set i (Aa (d',Ab)))[j]?=Aa (Aa (e,Af))):∃ v,Y[j]?=Aa (Aa v)/\Z7 K CL H (BN B (U.set i (Aa (d',Ab))) Y) v e:=by
 have hj:i≠j:=by
  rintro rfl;have:=Ee h;cases this
 rw[Bu hj]at h;obtain⟨v,q,r⟩:=x.good.sh j e h;exact⟨v,q,Z7.sub (λb hb=>(Jv hi b).mp hb) _ r⟩
theorem Sx.pinned(x:Sx K CL Fz B U Y H){i:Ag}{ds:Ac D}{a:Ak}{xs:Ac V}(hi:U[i]?=Aa (Aa (.lst ds,Ab)))(ha:Y[i]?=Aa (Aa (.ref a)))(hh:H a=Aa (.lst xs)):Sx K CL ⟨λb o=>H b=Aa o/\¬ ∃(j:Ag)(d:D),U[j]?=Aa (Aa (d,Ab))/\Y[j]?=Aa (Aa (.ref b)),λj b ys=>(j=i/\b=a/\ys=.lst xs)\/(j≠i/\Fz.pin j b ys)⟩ B (U.set i (Aa (.non,Ab))) Y H:=by
 refine⟨⟨x.sh2 hi,λj e h hn=>?_,by rw[AT];exact x.len⟩,λb h=>x.aok b ((Jv hi b).mp h),λj e b g1 g2=>⟨λo z=>z.2 (x.new2 hi j e b g1 g2).2,(x.new2 hi j e b g1 g2).1.2⟩,x.dis2 hi,λb o z=>z.1,by rw[AT];exact x.len,λj h=>?_⟩
 .rcases (II hi j e).mp h with ⟨_,rfl⟩|⟨hj,h'⟩
  .exact absurd rfl hn
  .obtain⟨b,ys,es,q,z,hb,h2,rr⟩:=x.good.ow j e h' hn;exact⟨b,ys,es,q,z,(Jv hi b).mpr hb,h2,Z9.sub (λb hb=>(Jv hi b).mp hb) _ rr⟩
 .by_cases hj:i=j
  .exact⟨a,_,.inl ⟨hj.symm,rfl,rfl⟩,hj ▸ ha,hh⟩
  .rw[Bu hj]at h;obtain⟨b,ys,p1,p2⟩:=x.pin j h;exact⟨b,ys,.inr ⟨CG hj,p1⟩,p2⟩
theorem Sx.unpinned(x:Sx K CL Fy B U Y H){i:Ag}{ds:Ac D}{a:Ak}{xs:Ac V}(hi:U[i]?=Aa (Aa (.non,Ab)))(hf:∀ b o,Fz b o->Fy b o)(hpn:∀ j b ys,Fy.pin j b ys->(j=i/\b=a/\ys=.lst xs)\/(j≠i/\Fz.pin j b ys))(r:Z9 K CL H (BN B U Y) xs ds):Sx K CL Fz B (U.set i (Aa (.lst ds,Ab))) Y H:=by
 refine⟨⟨x.sh2 hi,λj e h hn=>?_,by rw[AT];exact x.len⟩,λb h=>x.aok b ((Jv hi b).mp h),λj e b g1 g2=>⟨λo z=>(x.new2 hi j e b g1 g2).1.1 o (hf b o z),(x.new2 hi j e b g1 g2).1.2⟩,x.dis2 hi,λb o z=>x.same b o (hf b o z),by rw[AT];exact x.len,λj h=>?_⟩
 .rcases (II hi j e).mp h with ⟨rfl,rfl⟩|⟨hj,h'⟩
  .obtain⟨b,ys,p1,p2,p3⟩:=x.pin i hi;rcases hpn i b ys p1 with ⟨_,rfl,rfl⟩|⟨z,_⟩
   .exact⟨b,xs,ds,p2,rfl,(Jv hi b).mpr (.inr ⟨i,.non,hi,p2⟩),p3,Z9.sub (λb hb=>(Jv hi b).mp hb) _ r⟩
   .exact absurd rfl z
  .obtain⟨b,ys,es,q,z,hb,h2,rr⟩:=x.good.ow j e h' hn;exact⟨b,ys,es,q,z,(Jv hi b).mpr hb,h2,Z9.sub (λb hb=>(Jv hi b).mp hb) _ rr⟩
 .rcases (II hi j _).mp h with ⟨_,z⟩|⟨hj,h'⟩
  .cases z
  .obtain⟨b,ys,p1,p2⟩:=x.pin j h';rcases hpn j b ys p1 with ⟨z,_⟩|⟨_,z⟩
   .exact absurd z.symm hj
   .exact⟨b,ys,z,p2⟩
end
section
variable{X:Cx}{CL:ClA}{W:XW}
end
section
variable{X:Cx}{CL:ClA}{W:XW}
def oJ(K:Fg)(CL:ClA):V->Ac V->Hp->VK->Prop:=λx vs H Q=>∃ l xs ds v d j,x=.ref l/\vs=[v]/\Id K H l xs/\Z9 K CL H A0 xs ds/\Z7 K CL H A0 v d/\Y8 5 d=Ab/\ds.all (Y8 5)=Ab/\(ds.findIdx? λy=>My y d)=Aa j/\Q (.int (j:Ag)) H
theorem dS(hu:X.A.units+64<Bx):qd X "list.index" (oJ X.K CL):=by
 intro pI s Y H x vs v us Q I rx rv h;obtain⟨l,xs,ds,y,d,j,rfl,rfl,sq,rs,ry,h1,h2,hj,q⟩:=h;cases rx;obtain⟨u,rfl,ru⟩:=rv.one;obtain⟨its,r,pl,hz⟩:=I.list sq;obtain⟨⟨c,dct,dt,sl⟩,n,e,hc,hd,oy⟩:=pl;obtain⟨f,hf,hn⟩:=VV I (n:=5) X.A.in1 h1 h2 rs r ry ru (by show X.A.units+1+5<Bx;omega)
 replace hc:c=.type "list" := hc;replace oy:dt=.seq its.toArray n:=oy;subst hc oy;have hl:its.length=ds.length:=by rw[<-r.length,rs.length]
 obtain⟨g1,g2,g3⟩:=List.findIdx?_eq_some_iff_getElem.mp hj;have gd:∀ m (h:m<ds.length),ds.getD m .non=ds[m]:=λm h=>by rw[Di,Cz h];rfl
 have hzl:its.length<=sizeLine:=by rw[hl,<-rs.length];exact hz
 have zl:sizeLine<2 ^ 62:=by decide
 refine EQ Y_3 ⟨_,e,rfl⟩ PySem.F.entry_list_index (PySem.F.args_list_index_2 _ _) (SeqAt.list_indexAt l its.toArray n dct sl u f j (by rw[AX];omega) (by omega) ?_ ?_) ⟨e,hf,?_⟩
 .have:=hn j (by omega)
  rw[gd j g1]at this;simpa [g2] using this
 .intro m hm hmj;have hm':m<its.length:=by rw[AX]at hm;exact hm
  have:=hn m hm';rw[gd m (by omega)]at this
  have h3:My ds[m] d=Af:=by
   have:=g3 m hmj;simpa using this
  rw[h3]at this;simpa using this
 .exact⟨.int _,H,I.tok _,⟨_,rfl⟩,q⟩
theorem eB{o y:Aq}(hu:X.A.units+64<Bx)(ho:ST X CL W o fo)(hy:ST X CL W y fy)(hny:∀ U e,fy U≠.exn e)(U7:BH o "index" X.env (eval o X.env)=eval o X.env)(yt:((Br cpos (Aw [y] X.env)).all (λx=>!x.1)&&(D9 cpos (Dg [] X.env)).all (λx=>x.1.isSome)&&decide ([y].length+([]:Ac CB).length+(if ([]:Ac CB).isEmpty then 0 else 1)<30))=Ab)(U6:(apos.endLine==cpos.line)=Ab)(hs:Aw [y] X.env=[(Af,eval y X.env)]):
  SE X CL W (.Call (.Attribute o "index" apos) [y] [] cpos) (λU=>(fo U).bind λx=>(fy U).bind λd=>match x with | .lst xs=>ON xs d|_=>.bad):=λA=>
 PE.weak (IL BJ Y_3 PySem.F.type_list_index (dS (CL:=CL) hu) (ho A) (Bv (hy A) Ca hs) U7 yt U6 hs rfl) λY H Q ⟨hA,U,g,p⟩=>⟨hA,U,g,AW.bind p λd v H1 _ s1 r1 p1=>by
  have nb:∀{f:D->R D},(∀ d,f d=.bad)->AW (λH=>Z7 X.K CL H A) W H1 ((fy U).bind f) Q->AM:=λ{f} hf z=>by
   cases e:fy U with
   |ok d2=>rw[e]at z;have z':AW (λH=>Z7 X.K CL H A) W H1 (f d2) Q:=z;rw[hf]at z';exact z'
   |exn e'=>exact hny U e' e
   |bad=>rw[e]at z;exact z
  cases d with
  |lst ds=>
   obtain⟨a,xs,rfl,sq,rs⟩:=r1.lst_of;refine⟨.inl ⟨rfl,xs,sq⟩,hA.same s1,U,g.same s1,AW.bind p1 λd2 v' H2 _ s2 r2 p2=>?_⟩
   have r3:Z7 X.K CL H2 A0 (.ref a) (.lst ds):=(Cv.same s2 r1).plain;obtain⟨a',mq,e',_,lq,w5⟩:=r3;cases e';replace p2:AW (λH=>Z7 X.K CL H A) W H2 (ON ds d2) Q:=p2
   unfold ON at p2;split at p2
   .rename_i h;simp only[Am]at h;cases e3:ds.findIdx? λy=>My y d2 with
    |none=>rw[e3]at p2;exact p2.elim
    |some j=>
     rw[e3]at p2;exact⟨a,mq,ds,v',d2,j,rfl,rfl,lq,w5,r2.plain,h.1,h.2,e3,p2 _ H2 (Az.refl H2) rfl⟩
   .exact p2.elim
  | _=>exact(nb (λ_=>rfl) p1).elim⟩
end
section
variable{X:Cx}{CL:ClA}{W:XW}
theorem bW{o y:Aq}{j:An}(hu:X.A.units+64<Bx)(ho:ST X CL W o fo)(hy:SE X CL W y (λ_=>.ok (.bl j)))(U7:BH o "count" X.env (eval o X.env)=eval o X.env)(yt:((Br cpos (Aw [y] X.env)).all (λx=>!x.1)&&(D9 cpos (Dg [] X.env)).all (λx=>x.1.isSome)&&decide ([y].length+([]:Ac CB).length+(if ([]:Ac CB).isEmpty then 0 else 1)<30))=Ab)(U6:(apos.endLine==cpos.line)=Ab)(hs:Aw [y] X.env=[(Af,eval y X.env)]):
  SE X CL W (.Call (.Attribute o "count" apos) [y] [] cpos) (λU=>(fo U).bind λx=>zr .count [x,.bl j]):=λA=>
 PE.weak (IL BJ Ed F0 (P7 (CL:=CL) hu) (ho A) (Bv (hy A) Ca hs) U7 yt U6 hs rfl) λY H Q ⟨hA,U,g,p⟩=>⟨hA,U,g,AW.bind p λd v H1 _ s1 r1 p1=>by
  cases d with
  |lst ds=>
   obtain⟨a,xs,rfl,sq,rs⟩:=r1.lst_of;refine⟨.inl ⟨rfl,xs,sq⟩,hA.same s1,U,g.same s1,λv' H2 s2 r2=>?_⟩
   have r3:Z7 X.K CL H2 A0 (.ref a) (.lst ds):=(Cv.same s2 r1).plain;obtain⟨a',mq,e',_,lq,w5⟩:=r3;cases e';replace p1:AW (λH=>Z7 X.K CL H A) W H1 (if (Y8 5 (.bl j)&&ds.all (Y8 5))=Ab then .ok (.int ((ds.filter λy=>My y (.bl j)).length:Ag)) else .bad) Q:=p1
   split at p1
   .rename_i h;simp only[Am]at h;have e2:v'=.bl j:=r2;subst e2;exact⟨a,mq,ds,.bl j,.bl j,rfl,rfl,lq,w5,rfl,h.1,h.2,p1 _ H2 s2 rfl⟩
   .exact p1.elim
  | _=>exact p1.elim⟩
end
noncomputable def iv:Aq->Ao (Ah×Ai)
 |.Compare (.Call (.Attribute (.Name y _) m ap) [.Constant (.bool Ab) _ _] [] cp) [.NotEq] [.Constant (.int k) _ _] _=>if (m==("count" : Ah)&&ap.endLine==cp.line)=Ab then Aa (y,k) else Ae
 |_=>Ae
theorem qL{e:Aq}{q:Ah×Ai}(h:iv e=Aa q):∃ p1 p2 k1 p3 p4 k2 p5 p6,e=.Compare (.Call (.Attribute (.Name q.1 p1) "count" p2) [.Constant (.bool Ab) k1 p3] [] p4) [.NotEq] [.Constant (.int q.2) k2 p5] p6/\(p2.endLine==p4.line)=Ab:=by
 unfold iv at h;split at h
 .split at h
  .rename_i z;simp only[Am,AD]at z;cases h;rw[z.1];exact⟨_,_,_,_,_,_,_,_,rfl,by rw[z.2];exact BE _⟩
  .cases h
 .cases h
noncomputable def ax:Aq->Ao (Ah×Ah)
 |.Subscript (.Name z _) (.Call (.Attribute (.Name y _) m ap) [.Constant (.bool Ab) _ _] [] cp) _=>if (m==("index" : Ah)&&ap.endLine==cp.line)=Ab then Aa (z,y) else Ae
 |_=>Ae
theorem qJ{e:Aq}{q:Ah×Ah}(h:ax e=Aa q):∃ p0 p1 p2 k1 p3 p4 p5,e=.Subscript (.Name q.1 p0) (.Call (.Attribute (.Name q.2 p1) "index" p2) [.Constant (.bool Ab) k1 p3] [] p4) p5/\(p2.endLine==p4.line)=Ab:=by
 unfold ax at h;split at h
 .split at h
  .rename_i z;simp only[Am,AD]at z;cases h;rw[z.1];exact⟨_,_,_,_,_,_,_,rfl,by rw[z.2];exact BE _⟩
  .cases h
 .cases h
noncomputable def È:E->Ao (Ag×Ai)
 |.cmp .NotEq (.bi .count (.cons (.var i) (.cons (.bl Ab) .nil))) (.int k)=>Aa (i,k)
 |_=>Ae
theorem qM{e:E}{q:Ag×Ai}(h:È e=Aa q):e=.cmp .NotEq (.bi .count (.cons (.var q.1) (.cons (.bl Ab) .nil))) (.int q.2):=by
 unfold È at h;split at h
 .cases h;rfl
 .cases h
noncomputable def aw:E->Ao (Ag×Ag)
 |.idx (.var j) (.bi .index (.cons (.var i) (.cons (.bl Ab) .nil)))=>Aa (j,i)
 |_=>Ae
theorem qK{e:E}{q:Ag×Ag}(h:aw e=Aa q):e=.idx (.var q.1) (.bi .index (.cons (.var q.2) (.cons (.bl Ab) .nil))):=by
 unfold aw at h;split at h
 .cases h;rfl
 .cases h
theorem U0{P:Prop}(h:Af=Ab):P:=nomatch h
structure Tc where
 sc:Cb
 N:Ac Ah
 fns:Ac (Ah×Ag×Ag)
 bl:Ac Ah
 rzs:Ac (Ah×Ag)
 exs:Ac (Ah×Ag)
 gls:Ac (Ah×Ag)
 tp:An
noncomputable def RM(T:Tc)(x:Ah):An:=match T.sc.names.lookup x with
  |some .local=>Ab
  |some .cell=>Ab
  |some .free=>Ab
  |_=>Af
noncomputable def LB(T:Tc)(x:Ah):An:=match T.sc.names.lookup x with
  |some .local=>Ab
  |some .cell=>Ab
  |_=>Af
noncomputable def zn(T:Tc)(x:Ah):An:=T.sc.names.lookup x==Aa .globalImplicit
noncomputable def FN(x:Ah):An:=(!(x==("__debug__" : Ah)) && !(x==("__classdict__" : Ah)) && !(x==("__name__" : Ah)))&&(F7.lookup x).isNone
noncomputable def xa(T:Tc)(x:Ah)(i:Ag):An:=T.N[i]? == Aa x&&RM T x&&FN x
noncomputable def yi(T:Tc)(x:Ah):An:=T.bl.contains x&&zn T x&&FN x
theorem Bk{a b:An}(h:(a&&b)=Ab):a=Ab/\b=Ab:=(Am a b).mp h
theorem vy{a b:An}(h:(a||b)=Ab):a=Ab\/b=Ab:=(BX a b).mp h
noncomputable def Ep(e:Aq)(F:Ah->An):An:=if c:e.ctorIdx=23 then YQ (motive_1:=λ_=>An) e c λx _=>F x else Af
theorem ER{e:Aq}{F:Ah->An}(h:Ep e F=Ab):∃ x p,e=YO x p/\F x=Ab:=by
 by_cases c:e.ctorIdx=23
 .exact YQ (motive_1:=λe=>Ep e F=Ab->∃ x p,e=YO x p/\F x=Ab) e c (λx p h=>⟨x,p,rfl,h⟩) h
 .exact U0 ((Cc c).symm.trans h)
noncomputable def HM(e:Aq)(F:Const->An):An:=if c:e.ctorIdx=19 then YJ (motive_1:=λ_=>An) e c λc _ _=>F c else Af
theorem Km{e:Aq}{F:Const->An}(h:HM e F=Ab):∃ c u p,e=YI c u p/\F c=Ab:=by
 by_cases c:e.ctorIdx=19
 .exact YJ (motive_1:=λe=>HM e F=Ab->∃ c u p,e=YI c u p/\F c=Ab) e c (λc u p h=>⟨c,u,p,rfl,h⟩) h
 .exact U0 ((Cc c).symm.trans h)
noncomputable def OB(e:Aq)(F:Aq->Gk->Aq->An):An:=if c:e.ctorIdx=2 then YB (motive_1:=λ_=>An) e c λx o y _=>F x o y else Af
theorem Tx{e:Aq}{F:Aq->Gk->Aq->An}(h:OB e F=Ab):∃ x o y p,e=YA x o y p/\F x o y=Ab:=by
 by_cases c:e.ctorIdx=2
 .exact YB (motive_1:=λe=>OB e F=Ab->∃ x o y p,e=YA x o y p/\F x o y=Ab) e c (λx o y p h=>⟨x,o,y,p,rfl,h⟩) h
 .exact U0 ((Cc c).symm.trans h)
noncomputable def IY(e:Aq)(F:KY->Aq->An):An:=if c:e.ctorIdx=3 then YY (motive_1:=λ_=>An) e c λo x _=>F o x else Af
theorem MZ{e:Aq}{F:KY->Aq->An}(h:IY e F=Ab):∃ o x p,e=YX o x p/\F o x=Ab:=by
 by_cases c:e.ctorIdx=3
 .exact YY (motive_1:=λe=>IY e F=Ab->∃ o x p,e=YX o x p/\F o x=Ab) e c (λo x p h=>⟨o,x,p,rfl,h⟩) h
 .exact U0 ((Cc c).symm.trans h)
noncomputable def IP(e:Aq)(F:BoolOp->Ac Aq->AF->An):An:=if c:e.ctorIdx=0 then YD (motive_1:=λ_=>An) e c λo xs p=>F o xs p else Af
theorem LZ{e:Aq}{F:BoolOp->Ac Aq->AF->An}(h:IP e F=Ab):∃ o xs p,e=YC o xs p/\F o xs p=Ab:=by
 by_cases c:e.ctorIdx=0
 .exact YD (motive_1:=λe=>IP e F=Ab->∃ o xs p,e=YC o xs p/\F o xs p=Ab) e c (λo xs p h=>⟨o,xs,p,rfl,h⟩) h
 .exact U0 ((Cc c).symm.trans h)
noncomputable def Nf(e:Aq)(F:Aq->Ac DC->Ac Aq->An):An:=if c:e.ctorIdx=15 then YH (motive_1:=λ_=>An) e c λx os ys _=>F x os ys else Af
theorem T6{e:Aq}{F:Aq->Ac DC->Ac Aq->An}(h:Nf e F=Ab):∃ x os ys p,e=YG x os ys p/\F x os ys=Ab:=by
 by_cases c:e.ctorIdx=15
 .exact YH (motive_1:=λe=>Nf e F=Ab->∃ x os ys p,e=YG x os ys p/\F x os ys=Ab) e c (λx os ys p h=>⟨x,os,ys,p,rfl,h⟩) h
 .exact U0 ((Cc c).symm.trans h)
noncomputable def JC(e:Aq)(F:Aq->Ac Aq->Ac CB->AF->An):An:=if c:e.ctorIdx=16 then YF (motive_1:=λ_=>An) e c λf as ks p=>F f as ks p else Af
theorem MP{e:Aq}{F:Aq->Ac Aq->Ac CB->AF->An}(h:JC e F=Ab):∃ f as ks p,e=YE f as ks p/\F f as ks p=Ab:=by
 by_cases c:e.ctorIdx=16
 .exact YF (motive_1:=λe=>JC e F=Ab->∃ f as ks p,e=YE f as ks p/\F f as ks p=Ab) e c (λf as ks p h=>⟨f,as,ks,p,rfl,h⟩) h
 .exact U0 ((Cc c).symm.trans h)
noncomputable def Iq(e:Aq)(F:Aq->Ah->AF->An):An:=if c:e.ctorIdx=20 then Yz (motive_1:=λ_=>An) e c λo m p=>F o m p else Af
theorem K6{e:Aq}{F:Aq->Ah->AF->An}(h:Iq e F=Ab):∃ o m p,e=Yy o m p/\F o m p=Ab:=by
 by_cases c:e.ctorIdx=20
 .exact Yz (motive_1:=λe=>Iq e F=Ab->∃ o m p,e=Yy o m p/\F o m p=Ab) e c (λo m p h=>⟨o,m,p,rfl,h⟩) h
 .exact U0 ((Cc c).symm.trans h)
noncomputable def Op(e:Aq)(F:Aq->Aq->An):An:=if c:e.ctorIdx=21 then YU (motive_1:=λ_=>An) e c λx y _=>F x y else Af
theorem TY{e:Aq}{F:Aq->Aq->An}(h:Op e F=Ab):∃ x y p,e=YT x y p/\F x y=Ab:=by
 by_cases c:e.ctorIdx=21
 .exact YU (motive_1:=λe=>Op e F=Ab->∃ x y p,e=YT x y p/\F x y=Ab) e c (λx y p h=>⟨x,y,p,rfl,h⟩) h
 .exact U0 ((Cc c).symm.trans h)
noncomputable def Rm(e:Aq)(F:Ao Aq->Ao Aq->Ao Aq->An):An:=if c:e.ctorIdx=26 then YS (motive_1:=λ_=>An) e c λl u s _=>F l u s else Af
theorem dG{e:Aq}{F:Ao Aq->Ao Aq->Ao Aq->An}(h:Rm e F=Ab):∃ l u s p,e=YR l u s p/\F l u s=Ab:=by
 by_cases c:e.ctorIdx=26
 .exact YS (motive_1:=λe=>Rm e F=Ab->∃ l u s p,e=YR l u s p/\F l u s=Ab) e c (λl u s p h=>⟨l,u,s,p,rfl,h⟩) h
 .exact U0 ((Cc c).symm.trans h)
noncomputable def Ll(e:Aq)(F:Ac Aq->An):An:=if c:e.ctorIdx=25 then YW (motive_1:=λ_=>An) e c λxs _ _=>F xs else Af
theorem MO{e:Aq}{F:Ac Aq->An}(h:Ll e F=Ab):∃ xs c p,e=YV xs c p/\F xs=Ab:=by
 by_cases c:e.ctorIdx=25
 .exact YW (motive_1:=λe=>Ll e F=Ab->∃ xs c p,e=YV xs c p/\F xs=Ab) e c (λxs c p h=>⟨xs,c,p,rfl,h⟩) h
 .exact U0 ((Cc c).symm.trans h)
noncomputable def Ot(e:Aq)(F:Ac Aq->An):An:=if c:e.ctorIdx=24 then YL (motive_1:=λ_=>An) e c λxs _=>F xs else Af
theorem P5{e:Aq}{F:Ac Aq->An}(h:Ot e F=Ab):∃ xs p,e=YK xs p/\F xs=Ab:=by
 by_cases c:e.ctorIdx=24
 .exact YL (motive_1:=λe=>Ot e F=Ab->∃ xs p,e=YK xs p/\F xs=Ab) e c (λxs p h=>⟨xs,p,rfl,h⟩) h
 .exact U0 ((Cc c).symm.trans h)
noncomputable def Rn(e:Aq)(F:Aq->Ac JS->Cb->An):An:=if c:e.ctorIdx=8 then YN (motive_1:=λ_=>An) e c λx gs sc _=>F x gs sc else Af
theorem dJ{e:Aq}{F:Aq->Ac JS->Cb->An}(h:Rn e F=Ab):∃ x gs sc p,e=YM x gs sc p/\F x gs sc=Ab:=by
 by_cases c:e.ctorIdx=8
 .exact YN (motive_1:=λe=>Rn e F=Ab->∃ x gs sc p,e=YM x gs sc p/\F x gs sc=Ab) e c (λx gs sc p h=>⟨x,gs,sc,p,rfl,h⟩) h
 .exact U0 ((Cc c).symm.trans h)
noncomputable def Ro(e:AL)(F:Ac Aq->Aq->An):An:=if c:e.ctorIdx=5 then Zm (motive_2:=λ_=>An) e c λts v _=>F ts v else Af
theorem dO{e:AL}{F:Ac Aq->Aq->An}(h:Ro e F=Ab):∃ ts v p,e=Zl ts v p/\F ts v=Ab:=by
 by_cases c:e.ctorIdx=5
 .exact Zm (motive_2:=λe=>Ro e F=Ab->∃ ts v p,e=Zl ts v p/\F ts v=Ab) e c (λts v p h=>⟨ts,v,p,rfl,h⟩) h
 .exact U0 ((Cc c).symm.trans h)
noncomputable def Ow(e:AL)(F:Aq->An):An:=if c:e.ctorIdx=24 then Zo (motive_2:=λ_=>An) e c λv _=>F v else Af
theorem T5{e:AL}{F:Aq->An}(h:Ow e F=Ab):∃ v p,e=Zn v p/\F v=Ab:=by
 by_cases c:e.ctorIdx=24
 .exact Zo (motive_2:=λe=>Ow e F=Ab->∃ v p,e=Zn v p/\F v=Ab) e c (λv p h=>⟨v,p,rfl,h⟩) h
 .exact U0 ((Cc c).symm.trans h)
noncomputable def Oq(e:AL)(F:Ao Aq->An):An:=if c:e.ctorIdx=3 then Zu (motive_2:=λ_=>An) e c λo _=>F o else Af
theorem TZ{e:AL}{F:Ao Aq->An}(h:Oq e F=Ab):∃ o p,e=Zt o p/\F o=Ab:=by
 by_cases c:e.ctorIdx=3
 .exact Zu (motive_2:=λe=>Oq e F=Ab->∃ o p,e=Zt o p/\F o=Ab) e c (λo p h=>⟨o,p,rfl,h⟩) h
 .exact U0 ((Cc c).symm.trans h)
noncomputable def Pb(e:AL)(F:Aq->Ac AL->Ac AL->An):An:=if c:e.ctorIdx=12 then Zq (motive_2:=λ_=>An) e c λt xs ys _=>F t xs ys else Af
theorem UD{e:AL}{F:Aq->Ac AL->Ac AL->An}(h:Pb e F=Ab):∃ t xs ys p,e=Stmt.If t xs ys p/\F t xs ys=Ab:=by
 by_cases c:e.ctorIdx=12
 .exact Zq (motive_2:=λe=>Pb e F=Ab->∃ t xs ys p,e=Stmt.If t xs ys p/\F t xs ys=Ab) e c (λt xs ys p h=>⟨t,xs,ys,p,rfl,h⟩) h
 .exact U0 ((Cc c).symm.trans h)
noncomputable def Ou(e:AL)(F:Aq->Aq->Ac AL->Ac AL->An):An:=if c:e.ctorIdx=9 then Zp (motive_2:=λ_=>An) e c λt it xs ys _=>F t it xs ys else Af
theorem T4{e:AL}{F:Aq->Aq->Ac AL->Ac AL->An}(h:Ou e F=Ab):∃ t it xs ys p,e=Stmt.For t it xs ys p/\F t it xs ys=Ab:=by
 by_cases c:e.ctorIdx=9
 .exact Zp (motive_2:=λe=>Ou e F=Ab->∃ t it xs ys p,e=Stmt.For t it xs ys p/\F t it xs ys=Ab) e c (λt it xs ys p h=>⟨t,it,xs,ys,p,rfl,h⟩) h
 .exact U0 ((Cc c).symm.trans h)
noncomputable def Os(e:AL)(F:Ao Aq->Ao Aq->An):An:=if c:e.ctorIdx=16 then Zs (motive_2:=λ_=>An) e c λa b _=>F a b else Af
theorem dH{e:AL}{F:Ao Aq->Ao Aq->An}(h:Os e F=Ab):∃ a b p,e=Zr a b p/\F a b=Ab:=by
 by_cases c:e.ctorIdx=16
 .exact Zs (motive_2:=λe=>Os e F=Ab->∃ a b p,e=Zr a b p/\F a b=Ab) e c (λa b p h=>⟨a,b,p,rfl,h⟩) h
 .exact U0 ((Cc c).symm.trans h)
noncomputable def Jw{α:Type}:Ac α->(α->Ac α->An)->An
 |[],_=>Af
 |x::xs,F=>F x xs
theorem Kk{l:Ac α}{F:α->Ac α->An}(h:Jw l F=Ab):∃ x xs,l=x::xs/\F x xs=Ab:=by
 cases l with
 |nil=>exact U0 h
 |cons x xs=>exact⟨x,xs,rfl,h⟩
theorem GX{l:Ac α}(h:l.isEmpty=Ab):l=[]:=List.isEmpty_iff.mp h
noncomputable def EF{α:Type}(l:Ac α)(F:α->An):An:=Jw l λx r=>r.isEmpty&&F x
theorem Go{l:Ac α}{F:α->An}(h:EF l F=Ab):∃ x,l=[x]/\F x=Ab:=by
 obtain⟨x,r,rfl,h⟩:=Kk h;obtain⟨h1,h2⟩:=Bk h;exact⟨x,by rw[GX h1],h2⟩
noncomputable def IM{α:Type}(l:Ac α)(F:α->α->An):An:=Jw l λx r=>EF r λy=>F x y
theorem K5{l:Ac α}{F:α->α->An}(h:IM l F=Ab):∃ x y,l=[x,y]/\F x y=Ab:=by
 obtain⟨x,r,rfl,h⟩:=Kk h;obtain⟨y,rfl,h⟩:=Go h;exact⟨x,y,rfl,h⟩
noncomputable def JD(e:Aq)(F:Ah->Ac Aq->An):An:=JC e λf as ks _=>Ep f λg=>ks.isEmpty&&F g as
theorem Kn{e:Aq}{F:Ah->Ac Aq->An}(h:JD e F=Ab):∃ g p as q,e=.Call (.Name g p) as [] q/\F g as=Ab:=by
 obtain⟨f,as,ks,q,rfl,h⟩:=MP h;obtain⟨g,p,rfl,h⟩:=ER h;obtain⟨h1,h2⟩:=Bk h;exact⟨g,p,as,q,by rw[GX h1],h2⟩
noncomputable def L7(e:Aq)(F:Ah->Aq->Ac Aq->An):An:=JD e λg l=>Jw l λx xs=>F g x xs
theorem NN{e:Aq}{F:Ah->Aq->Ac Aq->An}(h:L7 e F=Ab):∃ g p x xs q,e=.Call (.Name g p) (x::xs) [] q/\F g x xs=Ab:=by
 obtain⟨g,p,as,q,rfl,h⟩:=Kn h;obtain⟨x,xs,rfl,h⟩:=Kk h;exact⟨g,p,x,xs,q,rfl,h⟩
noncomputable def Wg(st:AL)(F:Ah->Ah->Ac Aq->An):An:=Ow st λe=>JC e λf as ks cp=>Iq f λo m ap=>Ep o λx=>ks.isEmpty&&(ap.endLine==cp.line&&F x m as)
theorem dI{st:AL}{F:Ah->Ah->Ac Aq->An}(h:Wg st F=Ab):∃ x p m ap as cp q,st=.Expr (.Call (.Attribute (.Name x p) m ap) as [] cp) q/\ap.endLine=cp.line/\F x m as=Ab:=by
 obtain⟨e,q,rfl,h⟩:=T5 h;obtain⟨f,as,ks,cp,rfl,h⟩:=MP h;obtain⟨o,m,ap,rfl,h⟩:=K6 h;obtain⟨x,p,rfl,h⟩:=ER h;obtain⟨h1,h⟩:=Bk h;obtain⟨h2,h3⟩:=Bk h;exact⟨x,p,m,ap,as,cp,q,by rw[GX h1],eq_of_beq h2,h3⟩
noncomputable def Rs(st:AL)(F:Aq->Aq->An):An:=Ro st λts v=>EF ts λt=>F t v
theorem TB{st:AL}{F:Aq->Aq->An}(h:Rs st F=Ab):∃ t v q,st=.Assign [t] v q/\F t v=Ab:=by
 obtain⟨ts,v,q,rfl,h⟩:=dO h;obtain⟨t,rfl,h⟩:=Go h;exact⟨t,v,q,rfl,h⟩
noncomputable def Rr(st:AL)(F:Ah->Aq->An):An:=Rs st λt v=>Ep t λx=>F x v
theorem Tz{st:AL}{F:Ah->Aq->An}(h:Rr st F=Ab):∃ x p v q,st=.Assign [.Name x p] v q/\F x v=Ab:=by
 obtain⟨t,v,q,rfl,h⟩:=TB h;obtain⟨x,p,rfl,h⟩:=ER h;exact⟨x,p,v,q,rfl,h⟩
noncomputable def W4(e:Aq)(F:Aq->Aq->Aq->Ac Aq->Cb->An):An:=Rn e λx gs sc=>EF gs λg=>decide (g.is_async=0)&&F x g.target g.iter g.ifs sc
theorem lE{e:Aq}{F:Aq->Aq->Aq->Ac Aq->Cb->An}(h:W4 e F=Ab):∃ x t it ifs sc p,e=.ListComp x [⟨t,it,ifs,0⟩] sc p/\F x t it ifs sc=Ab:=by
 obtain⟨x,gs,sc,p,rfl,h⟩:=dJ h;obtain⟨g,rfl,h⟩:=Go h;obtain⟨t,it,ifs,a⟩:=g;obtain⟨h1,h2⟩:=Bk h;have h1:a=0:=AN h1;subst h1;exact⟨x,t,it,ifs,sc,p,rfl,h2⟩
noncomputable def Lz(e:E)(F:E->An):An:=if c:e.ctorIdx=8 then E.no.elim (motive_1:=λ_=>An) e c F else Af
theorem UC{e:E}{F:E->An}(h:Lz e F=Ab):∃ a,e=E.no a/\F a=Ab:=by
 by_cases c:e.ctorIdx=8
 .exact E.no.elim (motive_1:=λe=>Lz e F=Ab->∃ a,e=E.no a/\F a=Ab) e c (λa h=>⟨a,rfl,h⟩) h
 .exact U0 ((Cc c).symm.trans h)
noncomputable def Mj(e:E)(F:Es->An):An:=if c:e.ctorIdx=9 then E.and.elim (motive_1:=λ_=>An) e c F else Af
theorem TC{e:E}{F:Es->An}(h:Mj e F=Ab):∃ es,e=E.and es/\F es=Ab:=by
 by_cases c:e.ctorIdx=9
 .exact E.and.elim (motive_1:=λe=>Mj e F=Ab->∃ es,e=E.and es/\F es=Ab) e c (λes h=>⟨es,rfl,h⟩) h
 .exact U0 ((Cc c).symm.trans h)
noncomputable def Mq(e:E)(F:Es->An):An:=if c:e.ctorIdx=10 then E.or.elim (motive_1:=λ_=>An) e c F else Af
theorem UB{e:E}{F:Es->An}(h:Mq e F=Ab):∃ es,e=E.or es/\F es=Ab:=by
 by_cases c:e.ctorIdx=10
 .exact E.or.elim (motive_1:=λe=>Mq e F=Ab->∃ es,e=E.or es/\F es=Ab) e c (λes h=>⟨es,rfl,h⟩) h
 .exact U0 ((Cc c).symm.trans h)
noncomputable def Ox(e:E)(F:DC->E->E->An):An:=if c:e.ctorIdx=11 then E.cmp.elim (motive_1:=λ_=>An) e c F else Af
theorem dL{e:E}{F:DC->E->E->An}(h:Ox e F=Ab):∃ o a b,e=E.cmp o a b/\F o a b=Ab:=by
 by_cases c:e.ctorIdx=11
 .exact E.cmp.elim (motive_1:=λe=>Ox e F=Ab->∃ o a b,e=E.cmp o a b/\F o a b=Ab) e c (λo a b h=>⟨o,a,b,rfl,h⟩) h
 .exact U0 ((Cc c).symm.trans h)
noncomputable def Oy(e:E)(F:DC->DC->E->E->E->An):An:=if c:e.ctorIdx=12 then E.cmp2.elim (motive_1:=λ_=>An) e c F else Af
theorem dM{e:E}{F:DC->DC->E->E->E->An}(h:Oy e F=Ab):∃ o q a b c,e=E.cmp2 o q a b c/\F o q a b c=Ab:=by
 by_cases c:e.ctorIdx=12
 .exact E.cmp2.elim (motive_1:=λe=>Oy e F=Ab->∃ o q a b c,e=E.cmp2 o q a b c/\F o q a b c=Ab) e c (λo q a b c h=>⟨o,q,a,b,c,rfl,h⟩) h
 .exact U0 ((Cc c).symm.trans h)
noncomputable def Oz(e:E)(F:BI->Es->An):An:=if c:e.ctorIdx=15 then E.bi.elim (motive_1:=λ_=>An) e c F else Af
theorem dN{e:E}{F:BI->Es->An}(h:Oz e F=Ab):∃ b as,e=E.bi b as/\F b as=Ab:=by
 by_cases c:e.ctorIdx=15
 .exact E.bi.elim (motive_1:=λe=>Oz e F=Ab->∃ b as,e=E.bi b as/\F b as=Ab) e c (λb as h=>⟨b,as,rfl,h⟩) h
 .exact U0 ((Cc c).symm.trans h)
noncomputable def RV(e:E)(F:An->An):An:=if c:e.ctorIdx=1 then E.bl.elim (motive_1:=λ_=>An) e c F else Af
theorem lG{e:E}{F:An->An}(h:RV e F=Ab):∃ b,e=E.bl b/\F b=Ab:=by
 by_cases c:e.ctorIdx=1
 .exact E.bl.elim (motive_1:=λe=>RV e F=Ab->∃ b,e=E.bl b/\F b=Ab) e c (λb h=>⟨b,rfl,h⟩) h
 .exact U0 ((Cc c).symm.trans h)
noncomputable def KM(e:E)(F:Ag->An):An:=if c:e.ctorIdx=4 then E.var.elim (motive_1:=λ_=>An) e c F else Af
theorem MN{e:E}{F:Ag->An}(h:KM e F=Ab):∃ i,e=E.var i/\F i=Ab:=by
 by_cases c:e.ctorIdx=4
 .exact E.var.elim (motive_1:=λe=>KM e F=Ab->∃ i,e=E.var i/\F i=Ab) e c (λi h=>⟨i,rfl,h⟩) h
 .exact U0 ((Cc c).symm.trans h)
noncomputable def On(e:E):An:=decide (e.ctorIdx=0)
theorem dD{e:E}(h:On e=Ab):e=.non:=E.non.elim (motive_1:=λe=>e=.non) e (AN h) rfl
noncomputable def D0:Aq->An
 |.Starred _ _=>Af
 |_=>Ab
noncomputable def UE:Aq->An
 |.Slice _ _ _ _=>Af
 |_=>Ab
noncomputable def OD:Aq->An
 |.Set _ _ _=>Af
 |_=>Ab
noncomputable def F4:Aq->An
 |.ListComp _ _ _ _=>Af
 |.SetComp _ _ _ _=>Af
 |.DictComp _ _ _ _ _=>Af
 |_=>Ab
noncomputable def WN(tu:An):Aq->An
 |.Tuple ..=>tu
 |.Name ..=>!tu
 |_=>Af
noncomputable def uS:Aq->An
 |.Tuple _ _ _=>Ab
 |_=>Af
noncomputable def Wh:Aq->An
 |.Tuple _ _ _=>Af
 |_=>Ab
noncomputable def RU:Es->Ao E
  | .cons a r=>(match r with
    |.nil=>Aa a
    | _=>Ae)
  |.nil=>Ae
theorem lD{a:E}(q:RU as=Aa a):as=.cons a .nil:=by
 cases as with
 |nil=>cases q
 |cons b r=>
  cases r with
  |nil=>cases q;rfl
  |cons=>cases q
noncomputable def No(b:BI)(e:E):Ao E:=match e with
  |.bi b' as=>if b'=b then RU as else Ae
  |_=>Ae
noncomputable def isZ:E->An
 |.int i=>i==0
 |_=>Af
noncomputable def OE(c:E):Ao E:=match c with
  |.cmp op x y=>if (decide (op=.NotEq)&&isZ y)=Ab then (No .len x).bind (No .list) else Ae
  |_=>Ae
theorem Ue{b:BI}{e a:E}(h:No b e=Aa a):e=.bi b (.cons a .nil):=by
 cases e with
 |bi b' as=>
  replace h:(if b'=b then RU as else Ae)=Aa a:=h
  by_cases z:b'=b
  .rw[Au z]at h;rw[z,lD h]
  .rw[Ay z]at h;cases h
 |_=>exact nomatch (show Ae=Aa a from h)
theorem dP{c a:E}(h:OE c=Aa a):c=.cmp .NotEq (.bi .len (.cons (.bi .list (.cons a .nil)) .nil)) (.int 0):=by
 cases c with
 |cmp op x y=>
  replace h:(if (decide (op=.NotEq)&&isZ y)=Ab then (No .len x).bind (No .list) else Ae)=Aa a:=h
  by_cases z:(decide (op=.NotEq)&&isZ y)=Ab
  .rw[Au z]at h;obtain⟨z1,z2⟩:=Bool.and_eq_true_iff.mp z;obtain rfl:=AN z1;obtain⟨x1,e1,e2⟩:=AC.mp h;rw[Ue e1,Ue e2];cases y with
   |int i=>rw[eq_of_beq (show (i==0)=Ab from z2)]
   |_=>cases z2
  .rw[Ay z]at h;cases h
 |_=>exact nomatch (show Ae=Aa a from h)
noncomputable def Ik:Aq->An
 |.UnaryOp _ _ _=>Af
 |.BoolOp _ _ _=>Af
 |.IfExp _ _ _ _=>Af
 |.Compare _ _ _ _=>Af
 |_=>Ab
noncomputable def Ru:Ki->Ao Ah
 |.int=>Aa "int"
 |.bool=>Aa "bool"
 |.str=>Aa "str"
 |.list=>Aa "list"
 |.tuple=>Aa "tuple"
 |_=>Ae
noncomputable def Rv:BI->Ao Ah
 |.len=>Aa "len"
 |.abs=>Ae
 |.max=>Ae
 |.min=>Aa "min"
 |.int=>Ae
 |.list=>Aa "list"
 |.tuple=>Aa "tuple"
 |.all=>Aa "all"
 |.any=>Ae
 |.sum=>Ae
 |.sorted=>Ae
 |.str=>Aa "str"
 |.tmin=>Ae
 |.tmax=>Ae
 |_=>Ae
noncomputable def Ra(o scope:Cb):Cb:={scope with names:=scope.names.map λ(n,k)=>if (k==.free&&o.kind==.function&&o.names.lookup n==Aa .cell) then (n,.cell) else (n,k)}
noncomputable def Np:Ac Ag->Ac Ah->Ac Ah->Ac Ah
 |t::ts,x::xs,N=>Np ts xs ((N.map λy=>if y==x then N.getD t x else y).set t x)
 |_,_,N=>N
noncomputable def Jx:Ac Ah->An
 |[]=>Ab
 |x::xs=>!xs.contains x&&Jx xs
noncomputable def O1(T:Tc)(scope:Cb)(ts:Ac Ag)(N':Ac Ah):An:=
  scope.kind==.function&&scope.names.all (λy=>scope.names.lookup y.1==Aa y.2) &&
  scope.names.all (λy=>y.2 != .free||T.sc.names.lookup y.1==Aa .cell||T.sc.names.lookup y.1==Aa .free) &&
  N'.length==T.N.length&&Jx N' &&
  (BR N'.length).all λi=>ts.contains i||(match N'[i]? with
    |some x=>(scope.names.lookup x != Aa .local&&scope.names.lookup x != Aa .cell)&&(scope.names.lookup x != Aa .free||T.N[i]? == Aa x)
    | none=>Ab)
noncomputable def GR:Ac Aq->Ao (Ac Ah)
 |[]=>Aa []
 |.Name x _::r=>(GR r).map (x :: ·)
 |_=>Ae
noncomputable def n9(ys:Ac Aq):Ac Ah:=(GR ys).getD []
noncomputable def tgO(T:Tc)(scope:Cb)(t:Ag)(x:Ah):An:=T.N[t]? == Aa x&&(T.sc.names.lookup x==Aa .local||(T.sc.names.lookup x==Aa .cell&&scope.names.lookup x==Aa .cell))
noncomputable def qm(T:Tc):Ac Ag->Ac Ah->An
 |[],[]=>Ab
 |t::ts,x::xs=>T.N[t]? == Aa x&&LB T x&&qm T ts xs
 |_,_=>Af
noncomputable def Tc.blk(T:Tc)(scope:Cb)(ts:Ac Ag)(xs:Ac Ah):Tc:={T with sc:=Ra T.sc scope,N:=Np ts xs T.N,tp:=Af}
noncomputable def zC(f:Ah):An:=(f==("triple" : Ah)||(f==("points" : Ah)||f==("row" : Ah)))
noncomputable def Ml:Aq->An
 |.Call _ [] _ _=>Af
 |_=>Ab
theorem Oa{o:Aq}{f:Ah}{w:Fe Al}(h:Ml o=Ab):BH o f env w=w:=by
 cases o with
 |Call g as ks p=>
  cases as with
  |nil=>cases h
  |cons=>cases g<;>rfl
 |_=>rfl
noncomputable def ug(l:Ac (Ah×Ag))(g:Ah)(c:Ag):An:=l.any λp=>p.1==g&&p.2==c
noncomputable def Ô(T:Tc)(t:Ah)(k:Ag):An:=t==OW k&&decide (k<3)&&zn T t&&FN t
noncomputable def yC(T:Tc)(t:Ah):Ki->An
 |.verr=>t==("ValueError" : Ah)&&yi T t
 |.cls c=>ug T.exs t c&&zn T t&&FN t
 |_=>Af
noncomputable def WW:Aq->Ao (Aq×Aq×AF)
  | .Compare x ops ys p=>(match ops with
    | [.Lt]=>(match ys with
      |[y]=>Aa (x,y,p)
      | _=>Ae)
    | _=>Ae)
  |_=>Ae
noncomputable def RB(_:Es):Ao (E×E):=Ae
noncomputable def RN(_:Tc)(_:Tc->Aq->E->An)(_:Aq)(_:Ac DC)(_:Ac Aq)(_:BI)(_:Es):An:=Af
noncomputable def R8(T:Tc)(e:Aq)(b:BI)(as:Es):An:=match e with
  |.Call (.Attribute (.Name x _) m ap) [.Constant (.int j) _ _] [] cp=>decide (b=.count)&&m==("count" : Ah)&&ap.endLine==cp.line&&(match as with | .cons (.var i) (.cons (.int j') .nil)=>xa T x i&&decide (j=j')|_=>Af)
  |.Call (.Attribute (.Name x _) m ap) [.Constant (.str j) _ _] [] cp=>decide (b=.count)&&m==("count" : Ah)&&ap.endLine==cp.line&&(match as with | .cons (.var i) (.cons (.str j') .nil)=>xa T x i&&decide (j=j')|_=>Af)
  |_=>Af
noncomputable def Vt:Aq->Ao (Ah×AF)
 |.Name x p=>Aa (x,p)
 |_=>Ae
noncomputable def Vu:Aq->Ao (Aq×Ac Aq×Ac CB×AF)
 |.Call f as ks p=>Aa (f,as,ks,p)
 |_=>Ae
noncomputable def xT:Aq->Ao (Ac Aq×Ag×AF)
 |.Tuple es k p=>Aa (es,k,p)
 |_=>Ae
noncomputable def one{α:Type}:Ac α->Ao α
 |[a]=>Aa a
 |_=>Ae
noncomputable def Xp(e:Aq):Ao (Ah×Ah×Ac Aq):=(Vu e).bind λc=>(Vt c.1).bind λg=>(one c.2.1).bind λa=>(Vu a).bind λd=>(Vt d.1).bind λh=>if (c.2.2.1.isEmpty&&d.2.2.1.isEmpty)=Ab then Aa (g.1,h.1,d.2.1) else Ae
noncomputable def Xd(e:Aq):Ao (Ah×Ah×Aq×Aq):=match Xp e with
  | some (g,h,bs)=>(match bs with
    |[x,y]=>Aa (g,h,x,y)
    | _=>Ae)
  |none=>Ae
noncomputable def RE(_:Es):Ao (E×E):=Ae
noncomputable def Xc(e:Aq):Ao (Ah×Ah×Aq):=match Xp e with
  | some (g,h,bs)=>(match bs with
    |[x]=>Aa (g,h,x)
    | _=>Ae)
  |none=>Ae
noncomputable def O3:Es->Ao (Ah×E)
  | .cons a r=>(match a with
    | .str s=>(match r with
      | .cons b r'=>(match r' with
        | .nil=>(match b with
          |.var _=>Ae
          | b=>Aa (s,b))
        | _=>Ae)
      | _=>Ae)
    | _=>Ae)
  |.nil=>Ae
theorem nE{s:Ah}{a:E}(q:O3 as=Aa (s,a)):as=.cons (.str s) (.cons a .nil)/\∀ U r,top U a r=r:=by
 cases as with
 |nil=>cases q
 |cons a r=>
  cases a with
  |str s=>
   cases r with
   |nil=>cases q
   |cons b r'=>
    cases r' with
    |nil=>cases b<;>first|(cases q;exact⟨rfl,λ_ _=>rfl⟩)|cases q
    |cons=>cases q
  |_=>cases q
noncomputable def O2:Es->Ao (E×Ah)
  | .cons a r=>(match r with
    | .cons b r'=>(match b with
      | .str y=>(match r' with
        |.nil=>Aa (a,y)
        | _=>Ae)
      | _=>Ae)
    | _=>Ae)
  |.nil=>Ae
theorem nB{s:Ah}{a:E}(q:O2 as=Aa (a,s)):as=.cons a (.cons (.str s) .nil):=by
 cases as with
 |nil=>cases q
 |cons a r=>
  cases r with
  |nil=>cases q
  |cons b r'=>
   cases b with
   |str s=>
    cases r' with
    |nil=>cases q;rfl
    |cons=>cases q
   |_=>cases q
noncomputable def RD(_:Es):Ao E:=Ae
noncomputable def two(e:Aq):Ao (Aq×Aq):=(xT e).bind λt=>match t.1 with
  |[a,b]=>Aa (a,b)
  |_=>Ae
noncomputable def Sb(_:Es):Ao E:=Ae
noncomputable def WT(_:Aq):Ao Aq:=Ae
noncomputable def WQ:Aq->Ao (Aq×Ai)
  | .Subscript v s _=>(match s with
    | .Slice lo hi st _=>(match lo with
      | some (.Constant (.int k) _ _)=>(match hi with
        | none=>(match st with
          |some (.Constant (.int j) _ _)=>if j=2 then Aa (v,k) else Ae
          | _=>Ae)
        | some _=>Ae)
      | _=>Ae)
    | _=>Ae)
  |_=>Ae
noncomputable def RC(_:Es):Ao (E×Ai):=Ae
mutual
noncomputable def Be:Ag->Tc->Aq->E->An
  |0,_,_,_=>Af
  |n+1,T,e,c=>match c with
    |.non=>HM e λc=>decide (c=.none)
    |.bl b=>HM e λc=>decide (c=.bool b)
    |.int i=>HM e λc=>decide (c=.int i)
    |.str x=>HM e λc=>decide (c=.str x)
    |.var i=>Ep e λx=>xa T x i
    |.glob g=>Ep e λx=>ug T.gls x g&&zn T x&&FN x
    |.bin op a b=>OB e λx op' y=>decide (op'=op)&&Be n T x a&&Be n T y b
    |.un op a=>IY e λo x=>decide (o=.USub)&&(decide (op=.USub)&&Be n T x a)
    |.no a=>IY e λo x=>decide (o=.Not)&&Be n T x a
    |.and es=>IP e λo xs _=>decide (o=.And)&&(Cl n T xs es && !xs.isEmpty)
    |.or es=>IP e λo xs _=>decide (o=.Or)&&(Cl n T xs es && !xs.isEmpty)
    |.cmp op a b=>Nf e λx os ys=>EF os λop'=>EF ys λy=>decide (op'=op) && !behindInMarks op y&&Be n T x a&&Be n T y b
    |.cmp2 nr ui a b c=>Af
    |.ite c a b=>Af
    |.call f as=>L7 e λg x xs=>(T.fns.any λp=>p.1==g&&p.2.1==f&&p.2.2==xs.length+1)&&decide (xs.length<900)&&zn T g&&FN g&&Cl n T (x::xs) as
    |.bi b as=>(L7 e λg x xs=>Rv b==Aa g&&yi T g&&Cl n T (x::xs) as)||R8 T e b as||(match RE as with|some (a,c)=>(match Xd e with|some (g,h,x,y)=>decide (b=.list)&&g==("list" : Ah)&&h==("range" : Ah)&&yi T g&&yi T h&&D0 x&&D0 y&&Be n T x a&&Be n T y c|none=>Af)|none=>Af)||(match RC as with|some (a,k)=>(match WQ e with|some (x,j)=>decide (b=.stp)&&decide (j=k)&&decide (0<=k)&&Be n T x a|none=>Af)|none=>Af)||(match RD as with|some a=>(match Xc e with|some (g,h,x)=>decide (b=.lset)&&g==("len" : Ah)&&h==("set" : Ah)&&yi T g&&yi T h&&D0 x&&Be n T x a|none=>Af)|none=>Af)||(match RB as with|some (a,c)=>(match WW e with|some (x,y,_)=>decide (b=.tlt) && !behindInMarks .Lt y&&Be n T x a&&Be n T y c|none=>Af)|none=>Af)||(match O3 as with|some (s,a)=>JC e λf l ks cp=>ks.isEmpty&&(Iq f λo m ap=>m==("join" : Ah)&&ap.endLine==cp.line&&(HM o λc=>decide (c=.str s)&&decide (b=.sjoin)&&(EF l λy=>D0 y&&Be n T y a)))|none=>Af)||(match O2 as with|some (a,s)=>JC e λf l ks cp=>ks.isEmpty&&(Iq f λo m ap=>m==("split" : Ah)&&ap.endLine==cp.line&&Ml o&&Be n T o a&&(EF l λy=>HM y λc=>decide (c=.str s)&&decide (b=.ssplit)))|none=>Af)||(match Sb as with|some a=>(match WT e with|some x=>decide (b=.rvs)&&Be n T x a|none=>Af)|none=>Af)
    |.isi a ks=>(EF ks λk=>JD e λg l=>IM l λx t=>Ep t λt=>g==("isinstance" : Ah)&&yi T g&&Ru k==Aa t&&yi T t&&D0 x&&Be n T x a)||(EF ks λk=>JD e λg l=>IM l λx t=>Ep t λt=>g==("isinstance" : Ah)&&yi T g&&D0 x&&Be n T x a&&yC T t k)
    |.idx a i=>Op e λx y=>UE y&&Be n T x a&&Be n T y i
    |.sl a lo hi=>Op e λx s=>Rm s λl h st=>st.isNone&&(Be n T x a&&om n T l lo&&om n T h hi)
    |.tup es=>Ll e λxs=>Cl n T xs es&&decide (xs.length<=1000)
    |.lst es=>Ot e λxs=>Cl n T xs es&&decide (xs.length<=1000)
    |.comp elt t it c=>W4 e λx tg iter ifs scope=>Ep tg λy=>ra n T Af iter it&&OD iter&&O1 T scope [t] (Np [t] [y] T.N)&&tgO (T.blk scope [t] [y]) scope t y&&jx n (T.blk scope [t] [y]) ifs c&&Be n (T.blk scope [t] [y]) x elt
    |.compT elt ts it c=>Af
    |.tupI _=>Af
    |.dnew=>Af
    |.fld o f=>Iq e λw g _=>g==f&&zC f&&Ml w&&Be n T w o
    |.ofl o f=>Iq e λw g _=>g==f&&f==("triple" : Ah)&&Ml w&&Be n T w o
    |.iso a k=>JD e λg l=>IM l λx t=>Ep t λt=>g==("isinstance" : Ah)&&yi T g&&D0 x&&Be n T x a&&Ô T t k
    |.meth m ms o=>JC e λf l ks cp=>ks.isEmpty&&(l.isEmpty&&(Iq f λw g ap=>g==m&&(m==("told" : Ah)||m==("shown" : Ah))&&ap.endLine==cp.line&&Ml w&&Be n T w o&&ms.all λq=>T.fns.any λp=>(F7.lookup p.1==Aa (q.1,m))&&p.2.1==q.2&&p.2.2==1))
    |.mkob _ _=>Af
    |.mkn c as=>L7 e λg x xs=>Ô T g c&&xs.length==1&&Cl n T (x::xs) as
    |.mkx _ _=>Af
noncomputable def Eb:Ag->Tc->Aq->E->An
 |0,_,_,_=>Af
 |n+1,T,e,c=>(IY e λo x=>decide (o=.Not)&&(Lz c λa=>Eb n T x a)) ||
  (IP e λo xs _=>(decide (o=.And)&&(Mj c λes=>yk n T xs es && !xs.isEmpty))||(decide (o=.Or)&&(Mq c λes=>yk n T xs es && !xs.isEmpty))) ||
  (Nf e λx os ys=>(Ox c λop a b=>EF os λop'=>EF ys λy=>decide (op'=op) && !behindInMarks op y&&Be n T x a&&Be n T y b) ||
   (Oy c λnr ui a b c=>IM os λo1 o2=>IM ys λy z=>decide (o1=nr)&&decide (o2=ui) && !lastMarks [nr,ui] [y,z]&&Be n T x a&&Be n T y b&&Be n T z c) ||
   (Oz c λb as=>RN T (Be n) x os ys b as)) ||
  Ik e&&((match OE c with|some a=>Be n T e a|none=>Af)||Be n T e c)
noncomputable def yk:Ag->Tc->Ac Aq->Es->An
  |0,_,_,_=>Af
  |n+1,T,xs,es=>match xs,es with
    |[],.nil=>Ab
    |x::xs,.cons e es=>Eb n T x e&&yk n T xs es
    |_,_=>Af
noncomputable def Cl:Ag->Tc->Ac Aq->Es->An
  |0,_,_,_=>Af
  |n+1,T,xs,es=>match xs,es with
    |[],.nil=>Ab
    |x::xs,.cons e es=>D0 x&&Be n T x e&&Cl n T xs es
    |_,_=>Af
noncomputable def om:Ag->Tc->Ao Aq->E->An
  |0,_,_,_=>Af
  |n+1,T,x,e=>match x with
    |none=>On e
    |some x=>!(On e)&&Be n T x e
noncomputable def jx:Ag->Tc->Ac Aq->E->An
  |0,_,_,_=>Af
  |n+1,T,xs,e=>match xs with
    |[]=>RV e λb=>b
    |x::r=>r.isEmpty&&Eb n T x e
noncomputable def ra:Ag->Tc->An->Aq->I->An
  |0,_,_,_,_=>Af
  |n+1,T,tu,e,i=>match i with
    |.e a=>Be n T e a
    |.rng a=>JD e λg l=>EF l λx=>g==("range" : Ah)&&yi T g&&D0 x&&Be n T x a
    |.enm a=>Af
    |.zip a b=>Af
    |.rng2 a b=>JD e λg l=>IM l λx y=>g==("range" : Ah)&&yi T g&&D0 x&&D0 y&&Be n T x a&&Be n T y b
    |.zip3 a b c=>Af
end
noncomputable def IT:Aq->Ao (Ah×AF)
 |.Name x p=>Aa (x,p)
 |_=>Ae
theorem Jt{e:Aq}{t:Ah×AF}(h:IT e=Aa t):e=.Name t.1 t.2:=by
 cases e with
 |Name x p=>cases h;rfl
 |_=>exact nomatch (show Ae=Aa t from h)
noncomputable def WJ:Aq->Ao (Aq×Ac Aq×AF)
  | .Call f as ks p=>(match ks with
    |[]=>Aa (f,as,p)
    | _=>Ae)
  |_=>Ae
theorem gP{e:Aq}{t:Aq×Ac Aq×AF}(h:WJ e=Aa t):e=.Call t.1 t.2.1 [] t.2.2:=by
 cases e with
 |Call f as ks p=>
  cases ks with
  |nil=>cases h;rfl
  |cons=>exact nomatch (show Ae=Aa t from h)
 |_=>exact nomatch (show Ae=Aa t from h)
noncomputable def Nn{α:Type}:Ac α->Ao (α×α)
 |[a,b]=>Aa (a,b)
 |_=>Ae
theorem N1{l:Ac α}{t:α×α}(h:Nn l=Aa t):l=[t.1,t.2]:=by
 cases l with
 |nil=>exact nomatch (show Ae=Aa t from h)
 |cons a l=>
  cases l with
  |nil=>exact nomatch (show Ae=Aa t from h)
  |cons b l=>
   cases l with
   |nil=>cases h;rfl
   |cons=>exact nomatch (show Ae=Aa t from h)
noncomputable def W5(e:Aq)(F:Ah->Ah->Aq->An):An:=JD e λg l=>IM l λa t=>Ep a λv=>F g v t
theorem lF{e:Aq}{F:Ah->Ah->Aq->An}(h:W5 e F=Ab):∃ g p v q t r,e=.Call (.Name g p) [.Name v q,t] [] r/\F g v t=Ab:=by
 obtain⟨g,p,l,r,rfl,h⟩:=Kn h;obtain⟨a,t,rfl,h⟩:=K5 h;obtain⟨v,q,rfl,h⟩:=ER h;exact⟨g,p,v,q,t,r,rfl,h⟩
noncomputable def Rh(T:Tc):Ac Aq->Ac Ki->An
  |[],ks=>ks.isEmpty
  | e::r,ks=>Jw ks λk ks=>Ep e λt=>(match k with
    |.cls c=>ug T.exs t c&&zn T t&&FN t
    | _=>Af)&&Rh T r ks
noncomputable def Xj(T:Tc)(g:Ah)(f:Ag):An:=(T.fns.any λp=>p.1==g&&p.2.1==f&&p.2.2==1001)&&zn T g&&FN g
noncomputable def Nh(f:Aq->E->An):Ac Aq->Es->An
 |[],.nil=>Ab
 |x::xs,.cons e es=>D0 x&&f x e&&Nh f xs es
 |_,_=>Af
noncomputable def xO(T:Tc)(t:Aq)(ks:Ac Ki):An:=Jw ks λk r=>match k with
  |.verr=>r.isEmpty&&(Ep t λt=>t==("ValueError" : Ah)&&yi T t)
  | .cls c=>(match r with
    |[]=>Ep t λt=>ug T.exs t c&&zn T t&&FN t
    | k2::r=>Ll t λts=>Rh T ts (.cls c::k2::r)&&decide (ts.length<=1000))
  |_=>Af
noncomputable def EU:Ag->Tc->Ag->Aq->E->An
  |0,_,_,_,_=>Af
  |n+1,T,x,e,c=>match c with
    |.bl b=>HM e λk=>decide (k=.bool b)
    |.no a=>IY e λo y=>decide (o=.Not)&&EU n T x y a
    | .and es=>(match es with
      |.nil=>Af
      | .cons a r=>(match r with
        |.nil=>IP e λo l _=>decide (o=.And)&&(EF l λy=>EU n T x y a)
        | .cons a' as=>IP e λo l p=>decide (o=.And)&&(Jw l λy l=>Jw l λz zs=>EU n T x y a&&EU n T x (.BoolOp .And (z::zs) p) (.and (.cons a' as)))))
    |.isi a ks=>KM a λi=>W5 e λg v t=>i==x&&g==("isinstance" : Ah)&&yi T g&&xa T v x&&xO T t ks
    | .call f as=>(match as with
      |.nil=>Af
      | .cons a r=>(match r with
        |.nil=>KM a λi=>JD e λg l=>EF l λw=>Ep w λv=>Xj T g f&&xa T v i
        | .cons _ _=>Af))
    |.str s=>HM e λk=>decide (k=.str s)
    |.lst es=>Ot e λxs=>Nh (EU n T x) xs es&&decide (xs.length<=1000)
    |.tup es=>Ll e λxs=>Nh (EU n T x) xs es&&decide (xs.length<=1000)
    |.bin op a b=>decide (op=.Add)&&(KM a λi=>OB e λl o y=>decide (o=.Add)&&(Ep l λv=>xa T v i&&EU n T x y b))
    |.idx a b=>(match aw (.idx a b),ax e with|some (j,i),Aa (z,y)=>xa T z j&&xa T y i|_,_=>Af)
    |.fld o f=>KM o λi=>Iq e λw g _=>Ep w λv=>i==x&&g==f&&(f==("triple" : Ah)||(f==("points" : Ah)||f==("row" : Ah)))&&xa T v x
    |_=>Af
noncomputable def hc1(T:Tc)(y:Aq)(e:E):An:=(match È e,iv y with|some (i,k),Aa (z,k')=>xa T z i&&decide (k=k')|_,_=>Af)
noncomputable def Me(n:Ag)(T:Tc)(x:Ag)(y:Aq)(e:E):An:=hc1 T y e||(IY y λo z=>decide (o=.Not)&&(Lz e λa=>Ik z&&EU n T x z a))||(Ik y&&EU n T x y e)
noncomputable def Jy(n:Ag)(T:Tc)(x:Ag):Ac Aq->Es->An
 |[],.nil=>Ab
 |y::ys,.cons e es=>Me n T x y e&&Jy n T x ys es
 |_,_=>Af
noncomputable def Wt(n:Ag)(T:Tc)(x:Ag)(e:Aq)(c:E):An:=(IP e λo ys _=>(decide (o=.Or)&&(Mq c λes=>Jy n T x ys es && !ys.isEmpty))||(decide (o=.And)&&(Mj c λes=>Jy n T x ys es && !ys.isEmpty)))||Me n T x e c
noncomputable def Xf:E->An
 |.isi _ _=>Ab
 |.bl _=>Ab
 |.str _=>Ab
 |.idx _ _=>Ab
 |_=>Af
noncomputable def yD:E->An
 |.lst _=>Ab
 |_=>Af
noncomputable def xN(n:Ag)(T:Tc)(x:Ag)(v:Aq)(e:E):An:=(KM e λi=>Ep v λy=>xa T y i)||(Xf e&&EU n T x v e)
noncomputable def Lo:Ag->Tc->Ag->Ac AL->Ss->An
  |0,_,_,_,_=>Af
  |n+1,T,x,wb,ss=>match ss with
    |.nil=>wb.isEmpty
    | .cons s ss=>Jw wb λst r=>(match s with
      |.asg i b e=>Rr st λy v=>T.N[i]? == Aa y&&LB T y&&F4 v&&EU n T x v e&&(!b||yD e)
      | .ife c a b=>(match b with
        |.nil=>Pb st λt xs ys=>ys.isEmpty&&(Wt n T x t c&&Lo n T x xs a)
        | .cons _ _=>Af)
      | .ret e=>Oq st λo=>(match o with
        |some v=>xN n T x v e
        | none=>Af)
      |.app _ _=>Af
      | _=>Af)&&Lo n T x r ss
noncomputable def zG:E->An
  | .bi b as=>(match b,as with
    |.len,.nil=>Ab
    | _,_=>Af)
  |_=>Af
noncomputable def zF:S->An
 |.expr e=>zG e
 |_=>Af
noncomputable def O0:Ss->An
 |.cons s _=>zF s
 |.nil=>Af
noncomputable def ao(T:Tc)(g:Ah)(c:Ag):An:=ug T.exs g c&&ug T.rzs g c&&zn T g&&FN g
mutual
noncomputable def Ja:Ag->Tc->AL->S->An
  |0,_,_,_=>Af
  |n+1,T,st,s=>match s with
    |.pass=>Af
    |.brk=>Af
    |.cont=>Af
    |.asg i _ e=>Rr st λx v=>T.N[i]? == Aa x&&LB T x&&Be n T v e
    |.asgT ts e=>Rs st λt v=>Ll t λys=>(GR ys).isSome&&qm T ts (n9 ys)&&(Wh v||CF 4 ys.length)&&Be n T v e
    |.expr e=>Ow st λv=>F4 v&&Be n T v e
    |.ret e=>Oq st λo=>match o with|some v=>Be n T v e|none=>Af
    |.retN=>Af
    |.ife c a b=>Pb st λt xs ys=>Eb n T t c&&zV n T xs a&&zV n T ys b
    |.fors t it body=>Ou st λtg iter xs ys=>ys.isEmpty&&(Ep tg λx=>qm T [t] [x]&&OD iter&&ra n T Af iter it&&zV n T xs body)
    |.forT ts it body=>Ou st λtg iter xs zs=>zs.isEmpty&&(Ll tg λys=>(GR ys).isSome&&qm T ts (n9 ys)&&OD iter&&ra n T Ab iter it&&zV n T xs body)
    |.forO _ _ _=>Af
    |.whl c body=>Af
    |.rais c as=>!(T.rzs.any λp=>p.2==c)||(Os st λa b=>b.isNone&&(match a with|some e=>L7 e λg x xs=>ug T.rzs g c&&zn T g&&FN g&&decide (xs.length<=1000)&&Cl n T (x::xs) as|none=>Af))
    |.tryx _ _ _ _=>Af
    |.try2 _ _ _ _ _ _ _=>Af
    |.app i e=>Wg st λx m l=>EF l λv=>m==("append" : Ah)&&xa T x i&&D0 v&&Be n T v e
    |.ext i e=>Af
    |.rev i=>Af
    |.clr i=>Af
    |.put i k e=>Af
    |.swp _ _ _=>Af
    |.apop _ _ _=>Af
    |.ins i k e=>Af
    |.dput _ _ _=>Af
    |.dsd _ _ _=>Af
    |.rel _=>Af
noncomputable def zV:Ag->Tc->Ac AL->Ss->An
  |0,_,_,_=>Af
  | n+1,T,wb,ss=>(match ss with
    |.nil=>wb.isEmpty
    |.cons (.rel i) ss=>zV n T wb ss
    | .cons s ss=>(match wb with
      |st::r=>Ja n T st s&&zV n T r ss
      | []=>Af))||O0 ss
end
noncomputable def Gw(fuel:Ag)(hot:An)(fns:Ac (Ah×Ag×Ag))(bl:Ac Ah)(rzs exs gls:Ac (Ah×Ag))(ps N:Ac Ah)(st:AL)(df:Df):An:=
  let sc:=AH st
  sc.kind==.function && !sc.isCoroutine && !sc.isGenerator&&Jx N&&N.take ps.length==ps&&ps.all (λx=>sc.names.lookup x==Aa .local||sc.names.lookup x==Aa .cell)&&sc.names.all (λy=>y.2 != .free)&&N.length==df.n &&
  (match hot with
  |true=>Lo fuel ⟨sc,N,fns,bl,rzs,exs,gls,Ab⟩ 0 (Dh st) df.body
  | false=>zV fuel ⟨sc,N,fns,bl,rzs,exs,gls,Ab⟩ (Dh st) df.body)
structure XT (up:Ag->Ac Ag) (xn:Ag->Ac D->R Ex) (CL:ClA) (rzs exs:Ac (Ah×Ag)) (K:Fg) (mg:Ah->Ao Al):Prop where
 xc:∀ c C,CL c=Aa C->zv K C
 rz:∀ p∈rzs,∃ C,CL p.2=Aa C/\mg p.1=Aa (.ref C)
 ex:∀ p∈exs,∃ C,mg p.1=Aa (.ref C)/\M5 K CL up p.2 C/\∀ c D,CL c=Aa D->BQ K (.ref D) (.ref C)=Aa ((up c).contains p.2)
 made:∀ c C ds,CL c=Aa C->xn c ds=.bad\/(xn c ds=.ok ⟨c,[]⟩/\DF K C Ae=Ab)\/∃ f,mv K mg C f/\Nk xn c f ds
 nf:∀ c C,CL c=Aa C->∀ f:Ah,(f==("triple" : Ah)||(f==("points" : Ah)||f==("row" : Ah)))=Ab->G4 K C=Ab/\At K (.ref C) f=Aa Ae
 xb:∀ c,(∀ p∈rzs,p.2≠c)->∀ ds,xn c ds=.bad
def JL(K:Fg)(mg:Ah->Ao Al)(CL:ClA)(x:Ah)(d:D):Prop:=∃ u v,mg x=Aa u/\Bt v u/\∀ H A,Z7 K CL H A v d
structure OS (K:Fg) (mg:Ah->Ao Al):Prop where
 oc:∀ c C,OC K c=Aa C->ol K C
 kit:∀ c C c' C',OC K c=Aa C->OC K c'=Aa C'->B7 K (.ref C) (.ref C')=Aa ((oup c).contains c')
 at_:∀ c,c<3->∃ C,OC K c=Aa C/\mg (OW c)=Aa (.ref C)
 mf:∀ c C m f,OC K c=Aa C->(m==("told" : Ah)||m==("shown" : Ah))=Ab->At K (.ref C) m=Aa (Aa (.ref f))->Cn K (.ref f)=Ab
def gh(P:AK)(w:AI)(K:Fg)(mg:Ah->Ao Al)(base:AJ)(CL:ClA)(F:Ag->Ac D->R D)(k c:Ag):Prop:=(∀ ds,F (900+c) ds=.bad)\/∃ C f fd G k',OC K c=Aa C/\Mk K C f/\CV K fd ["self", "p", "numbers"] []/\k'+1=k/\Y4 P w K mg base (CXR P w) k' f fd ["self", "p", "numbers"] (spI K CL G)/\(∀ ds,ds.length=2->F (900+c) ds=.bad\/F (900+c) ds=(G ds).bind (ET c))/\∀ ds y,G ds≠.exn y
structure VX (Z:Z4) (CL:ClA) (k:Ag) (W:XW) (T:Tc) (X:Cx):Prop where
 sc:X.env.scope=T.sc
 kd:T.sc.kind=.function
 N:X.N=T.N
 nd:T.N.Nodup
 calm:X.calm=Ab
 room:U5 k X.A
 bl:∀ x,x∈T.bl->X.mg x=Ae
 os:OS X.K X.mg
 mkr:∀ c,c<3->gh X.prog X.w X.K X.mg X.base CL Z.F k c
 fn:∀ p∈T.fns,∃ f fd ps,IQ X.K X.mg p.1=Aa (.ref f)/\Ba X.K (.ref f)=Ab/\CV X.K fd ps []/\ps.length=p.2.2%1000/\(p.2.2<1000->Y4 X.prog X.w X.K X.mg X.base (CXR X.prog X.w) k f fd ps (spD X.K CL (p.2.2%1000) (Z.fr p.2.1) (Z.F p.2.1)))/\(1000<=p.2.2->xk X.prog X.w X.K X.mg X.base k f fd ps (spH X.K CL (p.2.2%1000) (Z.fr p.2.1) (Z.F p.2.1)))
 own:FE (model X.prog X.w) X.A X.env X.xe
 px:∀ A,HI (CXR X.prog X.w) X (EKW X.K CL A W)
 rz:Ny X CL W
 xt:XT Z.up Z.xn CL T.rzs T.exs X.K X.mg
 gl:∀ p∈T.gls,JL X.K X.mg CL p.1 (Z.G p.2)
 ex:T.tp=Ab->X.ex=[]
theorem QE:∀ A,HI (CXR X.prog X.w) X (EKW X.K CL A W0):=λA pI Y H s ev s' I h=>by
 obtain⟨e,T,cls,dx,H',_,_,_,_,_,_,_,_,_,_,x,_,w⟩:=h;exact w.elim
theorem RG:Ny X CL W0:=λ_ _ _ _ _ _ _ _ _ _ _ _ _ _ z=>z.elim
def Rf{α:Type}(g f:Rho->R α):Prop:=∀ U,g U=.bad\/g U=f U
section
variable{X:Cx}{CL:ClA}{W:XW}{a:Aq}{f g:Rho->R D}
theorem SE.ref(h:SE X CL W a f)(r:Rf g f):SE X CL W a g:=λA=>PE.weak (h A) λY H Q ⟨hA,U,q,p⟩=>⟨hA,U,q,by
 rcases r U with e|e
 .rw[e]at p;exact p.elim
 .rw[e]at p;exact p⟩
theorem SB.ref{f g:Rho->R An}(h:SB X CL W a f)(r:Rf g f):SB X CL W a g:=λA=>PT.weak (h A) λY H Q ⟨hA,U,q,p⟩=>⟨hA,U,q,by
 rcases r U with e|e
 .rw[e]at p;exact p.elim
 .rw[e]at p;exact p⟩
theorem SW.ref{f g:Rho->R An}(h:SW X CL W a f)(r:Rf g f):SW X CL W a g:=λA=>PW.weak (h A) λY H Q ⟨hA,U,q,p⟩=>⟨hA,U,q,by
 rcases r U with e|e
 .rw[e]at p;exact p.elim
 .rw[e]at p;exact p⟩
theorem SC.ref{fr:An}(h:SC X CL W fr a f)(r:Rf g f):SC X CL W fr a g:=λA=>PE.weak (h A) λY H Q ⟨hA,U,q,p⟩=>⟨hA,U,q,by
 rcases r U with e|e
 .rw[e]at p;exact p.elim
 .rw[e]at p;exact p⟩
theorem SS.ref{st:AL}{f g:Rho->O}(h:SS X CL W st f)(r:∀ U,g U=.bad\/g U=f U):SS X CL W st g:=λFz B=>PS.weak (h Fz B) λD Y H ⟨U,x,p⟩=>⟨U,x,by
 rcases r U with e|e
 .rw[e]at p;exact p.elim
 .rw[e]at p;exact p⟩
end
theorem IF:∀{l:Ac Ah},Jx l=Ab->l.Nodup
 |[],_=>X9
 |x::xs,h=>by
  unfold Jx at h;simp only[Am,Bf,XN,decide_eq_false_iff_not]at h;exact List.nodup_cons.mpr ⟨h.1,IF h.2⟩
section
variable{T:Tc}{X:Cx}{Z:Z4}{CL:ClA}{k:Ag}{W:XW}
theorem Uh(h:RM T x=Ab):ó T.sc x:=by
 unfold RM at h;split at h
 .exact .inl (by assumption)
 .exact .inr (.inl (by assumption))
 .exact .inr (.inr (by assumption))
 .cases h
theorem M1(h:LB T x=Ab):qc T.sc x:=by
 unfold LB at h;split at h
 .exact .inl (by assumption)
 .exact .inr (by assumption)
 .cases h
theorem Ur(h:FN x=Ab):F7.lookup x=Ae:=by
 unfold FN at h;exact DX.mp (Bk h).2
theorem Hf(h:FN x=Ab):(x==("__debug__" : Ah))=Af/\(x==("__classdict__" : Ah))=Af/\x≠"__name__" := by
 unfold FN at h;replace h:=(Bk h).1;simp only[Am,Bf]at h;exact⟨h.1.1,h.1.2,λe=>by subst e;exact absurd h.2 (by simp)⟩
theorem L9{i:Ag}(v:VX Z CL k W T X)(h:xa T x i=Ab):PE X (.Name x pos) (Ch i):=by
 unfold xa at h;simp only[Am,AD]at h;obtain⟨h2,h3,_⟩:=Hf h.2;exact Dw (by rw[v.N];exact h.1.1) (by rw[v.sc];exact Uh h.1.2) h2 h3
theorem Hj(v:VX Z CL k W T X)(h:yi T x=Ab):Gl X x/\X.mg x=Ae/\x≠"__name__"/\(x==("__debug__" : Ah))=Af:=by
 unfold yi zn at h;simp only[Am,AD,XN,AG]at h;obtain⟨h2,h3,h4⟩:=Hf h.2;exact⟨by show X.env.scope.names.lookup x=_;rw[v.sc];exact h.1.2,v.bl x h.1.1,h4,h2⟩
theorem DS{x:Aq}(h:D0 x=Ab):Aw (x::xs) env=(Af,eval x env)::Aw xs env:=by
 cases x<;>first|rfl|cases h
theorem eA{y:Aq}(h:UE y=Ab):N7 y:=by
 intro o i;cases y<;>first|rfl|cases h
theorem QL{e:Aq}(h:OD e=Ab):∀ x,CZ e env x=pure x:=by
 intro x;cases e<;>first|rfl|cases h
theorem HJ{e:Aq}{t:Ao Aq}{l:Ag}(h:F4 e=Ab):Dq e t l env=pure Af:=by
 cases e<;>first|rfl|cases h
theorem Qd{e:Aq}(h:Ik e=Ab):∀ whole,Jg e env whole=(do let v <-whole;standAt e.pos;holding [v] (truthy v)):=by
 intro whole;cases e<;>first|rfl|cases h
theorem bD(v:VX Z CL k W T X)(scope:Cb):relabel scope X.env=Ra T.sc scope:=by
 unfold relabel Ra;have:∀ n,X.env.kindOf n=T.sc.names.lookup n:=λn=>by show X.env.scope.names.lookup n=_;rw[v.sc]
 simp only[this,v.sc]
theorem VU{N':Ac Ah}(v:VX Z CL k W T X)(h:O1 T scope ts N'=Ab):zx X scope N' ts/\N'.Nodup/\scope.kind=.function:=by
 unfold O1 at h;simp only[Am,AD,Bh,BX,EZ,JP]at h;obtain⟨⟨⟨⟨⟨h1,h2⟩,h4⟩,h5⟩,h6⟩,h7⟩:=h;have at7:∀ i x,N'[i]?=Aa x->i∈ts\/((scope.names.lookup x≠Aa .local/\scope.names.lookup x≠Aa .cell)/\(scope.names.lookup x≠Aa .free\/T.N[i]?=Aa x)):=λi x e=>by
  have hi:=(A5.mp e).1;have:=h7 i (CU.mpr hi);rcases this with z|z
  .exact .inl (by simpa using z)
  .rw[e]at z;simp only[Am,EZ,JP,BX,AD]at z;exact .inr z
 refine⟨⟨h1,h2,λy hy hl=>by rw[h2 y hy,hl],λy hy hf=>?_,by rw[v.N];exact h5,λi x e hf hn=>?_,λi x e hl=>?_⟩,IF h6,h1⟩
 .rw[v.sc];rcases h4 y hy with (z|z)|z
  .exact absurd hf z
  .exact .inl z
  .exact .inr z
 .rw[v.N];rcases at7 i x e with z|⟨_,z⟩
  .exact absurd z hn
  .exact z.resolve_left λq=>q hf
 .rcases at7 i x e with z|⟨z,_⟩
  .exact z
  .exact hl.elim (λq=>absurd q z.1) (λq=>absurd q z.2)
theorem VX.blk{xs:Ac Ah}{cl:Ac (Ah×Ak)}{s:Ar}{fp:Ac Ak}(v:VX Z CL k W T X)(h:O1 T scope ts (Np ts xs T.N)=Ab):VX Z CL k W0 (T.blk scope ts xs) (zc X scope cl C (Np ts xs T.N) s H fp):=by
 obtain⟨_,h2,h3⟩:=VU v h;exact⟨bD v scope,h3,rfl,h2,v.calm,v.room,v.bl,v.os,v.mkr,v.fn,PassesOwn.never,QE,RG,v.xt,v.gl,λz=>nomatch z⟩
theorem fV{t:Ag}(v:VX Z CL k W T X)(av:scope.names.lookup x=Aa .cell->X.fn x=Ab)(h:tgO T scope t x=Ab):PG X (.Name x pos) (G0 t):=by
 unfold tgO at h;simp only[Am,BX,AD]at h;rcases h with ⟨h1,h2|h2⟩
 .exact MX (by rw[v.N];exact v.nd) (by rw[v.N];exact h1) (by rw[v.sc];exact .inl h2) (.inr (by rw[v.sc];exact h2))
 .exact MX (by rw[v.N];exact v.nd) (by rw[v.N];exact h1) (by rw[v.sc];exact .inr h2.1) (.inl (av h2.2))
theorem So{y:Aq}{r:Ac Aq}{zs:Ac Ah}(h:GR (y::r)=Aa zs):∃ x p ws,y=.Name x p/\GR r=Aa ws/\zs=x::ws:=by
 cases y with
 |Name x p=>
  have h':(GR r).map (x :: ·)=Aa zs:=h;cases e:GR r with
  |none=>rw[e]at h';cases h'
  |some ws=>rw[e]at h';cases h';exact⟨x,p,ws,rfl,rfl,rfl⟩
 |_=>cases h
theorem S9(x:Ah)(p:AF)(r:Ac Aq)(env:B5):Cy (.Name x p::r) env=(Af,assign (.Name x p) env)::Cy r env:=rfl
theorem Sn:∀(ys:Ac Aq)(zs:Ac Ah),GR ys=Aa zs->(Cy ys env).length=ys.length/\(Cy ys env).findIdx? (·.1)=Ae/\(Cy ys env).map (·.2)=ys.map λy=>assign y env:=by
 intro ys
 induction ys with
 |nil=>intro _ _;exact⟨rfl,rfl,rfl⟩
 |cons y r ih=>
  intro zs h;obtain⟨x,p,ws,rfl,e,rfl⟩:=So h;obtain⟨h1,h2,h3⟩:=ih ws e;rw[S9];refine⟨?_,?_,?_⟩
  .rw[A8,A8,h1]
  .rw[List.findIdx?_cons,h2];simp
  .rw[BP,BP,h3]
end
noncomputable def Es.len:Es->Ag
 |.nil=>0
 |.cons _ es=>es.len+1
theorem Ky(Z:Z4)(U:Rho):∀(es:Es)(ds:Ac D),ye Z U es=.ok ds->ds.length=es.len
 |.nil,ds,h=>by cases h;rfl
 |.cons e es,ds,h=>by
  obtain⟨x,h1,h2⟩:=K3 (MR Z U e es ▸ h);obtain⟨xs,h3,h4⟩:=K3 h2;cases h4;exact congrArg (· + 1) (Ky Z U es xs h3)
theorem Qt(Z:Z4)(U:Rho):∀(es:Es)(ds:Ac D),yg Z U es=.ok ds->ds.length=es.len
 |.nil,ds,h=>by cases h;rfl
 |.cons e es,ds,h=>by
  obtain⟨x,h1,h2⟩:=K3 (L5 Z U e es ▸ h);obtain⟨xs,h3,h4⟩:=K3 h2;cases h4;exact congrArg (· + 1) (Qt Z U es xs h3)
theorem Ve(Z:Z4)(U:Rho)(e:E)(h:â U e=Ab):top U e (evE Z U e)=evE Z U e:=by
 cases e with
 |var i=>
  show Da U i=G5 U i;have h':lg U i=Ab:=h;unfold lg at h';unfold Da G5;cases q:U[i]? with
  |none=>rfl
  |some x=>
   cases x with
   |none=>rfl
   |some y=>
    obtain⟨d,o⟩:=y;cases o with
    |true=>rw[q]at h';cases h'
    |false=>rfl
 |_=>rfl
theorem Q0(Z:Z4)(U:Rho):∀(es:Es),KO U es=Ab->yg Z U es=ye Z U es
 |.nil,_=>rfl
 |.cons e es,h=>by
  simp only[bU,Am]at h;rw[MR,L5,Ve Z U e h.1,Q0 Z U es h.2]
theorem Qx(Z:Z4)(c:E):Rf (λU=>evE Z U c) (λU=>top U c (evE Z U c)):=λU=>by
 by_cases h:â U c=Ab
 .exact .inr (Ve Z U c h).symm
 .cases c with
  |var i=>
   refine .inl ?_;show G5 U i=.bad;have h':¬ lg U i=Ab:=h;unfold lg at h';unfold G5;cases q:U[i]? with
   |none=>rfl
   |some x=>
    cases x with
    |none=>rfl
    |some y=>
     obtain⟨d,o⟩:=y;cases o with
     |true=>rfl
     |false=>rw[q]at h';exact absurd rfl h'
  |_=>exact absurd rfl h
def Ϸ(X:Cx)(CL:ClA)(W:XW)(e:Aq)(f:Rho->R D):Prop:=∃ tg iter elt ifs scope pos N' ts fi fc fe as g,e=.ListComp elt [⟨tg,iter,ifs,0⟩] scope pos/\zx X scope N' ts/\SI X CL W tg iter fi/\GG X.K CL ts as g /\
 (∀ cl C s H fp,PG (zc X scope cl C N' s H fp) tg g)/\(∀ cl C s H fp,jr (zc X scope cl C N' s H fp) CL ifs fc)/\(∀ cl C s H fp,SE (zc X scope cl C N' s H fp) CL W0 elt fe)/\(∀ x,CZ iter X.env x=pure x) /\
 ∀ U,f U=(fi U).bind λxs=>(zk (Cu (λx=>(as x U).bind fc) (λx=>(as x U).bind fe) xs)).bind λys=>.ok (.lst ys)
theorem Ϸ.sc{e:Aq}{f:Rho->R D}(hc:X.calm=Ab)(h:Ϸ X CL W e f):SC X CL W Ab e f:=by
 obtain⟨tg,iter,elt,ifs,scope,pos,N',ts,fi,fc,fe,as,g,rfl,B,hi,ue,hg,ht,he,hs,ef⟩:=h;exact SC.congr (jK hc B hi ue hg ht he hs) ef
structure vt (Z:Z4) (CL:ClA) (W:XW) (X:Cx) (e:Aq) (c:E):Prop where
 se:SE X CL W e (λU=>evE Z U c)
 st:ST X CL W e (λU=>top U c (evE Z U c))
 nw:Fn Z c=Ab->SC X CL W Ab e (λU=>evE Z U c)
 cp:F4 e=Af->Ϸ X CL W e (λU=>evE Z U c)
section
variable{Z:Z4}{CL:ClA}{W:XW}{X:Cx}{e:Aq}{c:E}
theorem Dr(h:SE X CL W e (λU=>evE Z U c))(ht:∀ U r,top U c r=r)(hn:Fn Z c=Af)(hc:F4 e=Ab):vt Z CL W X e c:=
 ⟨h,by simp only[ht];exact h.st,λz=>absurd z (by rw[hn];decide),λz=>absurd z (by rw[hc];decide)⟩
theorem QF(h:SC X CL W Ab e (λU=>evE Z U c))(ht:∀ U r,top U c r=r)(hc:F4 e=Ab):vt Z CL W X e c:=
 ⟨h.se,by simp only[ht];exact h.se.st,λ_=>h,λz=>absurd z (by rw[hc];decide)⟩
theorem vM(hc:X.calm=Ab)(h:Ϸ X CL W e (λU=>evE Z U c))(ht:∀ U r,top U c r=r):vt Z CL W X e c:=
 ⟨(h.sc hc).se,by simp only[ht];exact(h.sc hc).se.st,λ_=>h.sc hc,λ_=>h⟩
end
theorem xQ{k:Ki}(h:Ru k=Aa x):∃ T,t5 k=Aa T/\De x=Aa (.type T):=by
 cases k<;>simp only[Ru]at h<;>cases h
 .exact⟨_,rfl,PyProof.Rows.boot_int⟩
 .exact⟨_,rfl,PyProof.Rows.boot_bool⟩
 .exact⟨_,rfl,Gx⟩
 .exact⟨_,rfl,Yn⟩
 .exact⟨_,rfl,Yo⟩
structure wm (Z:Z4) (CL:ClA) (k:Ag) (n:Ag):Prop where
 e:∀(W:XW)(T:Tc)(X:Cx)(x:Aq)(c:E),VX Z CL k W T X->Be n T x c=Ab->vt Z CL W X x c
 b:∀(W:XW)(T:Tc)(X:Cx)(x:Aq)(c:E),VX Z CL k W T X->Eb n T x c=Ab->SB X CL W x (λU=>(top U c (evE Z U c)).bind Bs)
 bs:∀(W:XW)(T:Tc)(X:Cx)(xs:Ac Aq)(es:Es)(pos:AF),VX Z CL k W T X->yk n T xs es=Ab->xs≠[]->SW X CL W (.BoolOp .And xs pos) (λU=>(evN Z U es).bind Bs)/\SW X CL W (.BoolOp .Or xs pos) (λU=>(evO Z U es).bind Bs)
 es:∀(W:XW)(T:Tc)(X:Cx)(xs:Ac Aq)(es:Es),VX Z CL k W T X->Cl n T xs es=Ab->SA X CL W xs (λU=>ye Z U es)/\uu X CL W xs (λU=>yg Z U es)/\xs.length=es.len/\(∀ pos,xs≠[]->SE X CL W (.BoolOp .And xs pos) (λU=>evN Z U es)/\SE X CL W (.BoolOp .Or xs pos) (λU=>evO Z U es))/\(∀ pos,(Br pos (Aw xs X.env)).any (·.1)=Af)
 o:∀(W:XW)(T:Tc)(X:Cx)(x:Ao Aq)(c:E),VX Z CL k W T X->om n T x c=Ab->SO X CL W x (λU=>(top U c (evE Z U c)).bind (slE c))
 t:∀(T:Tc)(X:Cx)(xs:Ac Aq)(c:E),VX Z CL k W0 T X->jx n T xs c=Ab->jr X CL xs (λU=>(top U c (evE Z U c)).bind Bs)
 i:∀(W:XW)(T:Tc)(X:Cx)(tu:An)(tg x:Aq)(i:I),VX Z CL k W T X->WN tu tg=Ab->ra n T tu x i=Ab->SI X CL W tg x (λU=>ig Z U i)
section
variable{Z:Z4}{CL:ClA}{W:XW}{k n:Ag}{T:Tc}{X:Cx}
theorem dY:wm Z CL k 0:=⟨λ_ _ _ _ _ _ h=>U0 h,λ_ _ _ _ _ _ h=>U0 h,λ_ _ _ _ _ _ _ h=>U0 h,λ_ _ _ _ _ _ h=>U0 h,λ_ _ _ _ _ _ h=>U0 h,λ_ _ _ _ _ h=>U0 h,λ_ _ _ _ _ _ _ _ _ h=>U0 h⟩
theorem Su{x:Aq}(h:D0 x=Ab)(hx:(Br pos (Aw xs env)).any (·.1)=Af):(Br pos (Aw (x::xs) env)).any (·.1)=Af:=by
 rw[DS h];show (Af||(Br pos (Aw xs env)).any (·.1))=Af;rw[hx];rfl
theorem oY(S:wm Z CL k n)(W:XW)(T:Tc)(X:Cx)(xs:Ac Aq)(es:Es)(v:VX Z CL k W T X)(h:Cl (n+1) T xs es=Ab):SA X CL W xs (λU=>ye Z U es)/\uu X CL W xs (λU=>yg Z U es)/\xs.length=es.len/\(∀ pos,xs≠[]->SE X CL W (.BoolOp .And xs pos) (λU=>evN Z U es)/\SE X CL W (.BoolOp .Or xs pos) (λU=>evO Z U es))/\(∀ pos,(Br pos (Aw xs X.env)).any (·.1)=Af):=by
 cases xs with
 |nil=>
  cases es with
  |nil=>exact⟨QS,UM,rfl,λ_ z=>absurd rfl z,λ_=>rfl⟩
  |cons=>exact U0 h
 |cons x xs=>
  cases es with
  |nil=>exact U0 h
  |cons e es=>
   replace h:(D0 x&&Be n T x e&&Cl n T xs es)=Ab:=h;simp only[Am]at h;obtain⟨⟨h0,h1⟩,h2⟩:=h;have he:=S.e W T X x e v h1;obtain⟨a1,a2,a3,a4,a5⟩:=S.es W T X xs es v h2;refine⟨Qf he.se a1 (DS h0),TR he.st a2 (DS h0),congrArg (· + 1) a3,λpos _=>?_,λpos=>Su h0 (a5 pos)⟩
   cases xs with
   |nil=>
    cases es with
    |nil=>exact⟨QM he.se,QM he.se⟩
    |cons=>cases a3
   |cons y ys=>
    cases es with
    |nil=>cases a3
    |cons e' zi=>
     obtain⟨b1,b2⟩:=a4 pos (by simp)
     exact⟨U_7 he.se b1,tJ he.se b2⟩
theorem tD(S:wm Z CL k n)(W:XW)(T:Tc)(X:Cx)(x:Ao Aq)(c:E)(v:VX Z CL k W T X)(h:om (n+1) T x c=Ab):SO X CL W x (λU=>(top U c (evE Z U c)).bind (slE c)):=by
 cases x with
 |none=>
  obtain rfl:=dD h;exact jC
 |some x=>
  replace h:(!(On c)&&Be n T x c)=Ab:=h;rw[Am]at h;have q:=jB (S.e W T X x c v h.2).st;have e:slE c=λd=>(Hn d).bind λi=>.ok (Aa i):=by
   funext d
   cases c<;>first|rfl|exact absurd (show Af=Ab from h.1) Ax
  rw[e];exact q
theorem uQ(S:wm Z CL k n)(T:Tc)(X:Cx)(xs:Ac Aq)(c:E)(v:VX Z CL k W0 T X)(h:jx (n+1) T xs c=Ab):jr X CL xs (λU=>(top U c (evE Z U c)).bind Bs):=by
 cases xs with
 |nil=>
  replace h:=lG h;obtain⟨b,rfl,h⟩:=h;subst h;exact gA
 |cons x xs=>
  replace h:(xs.isEmpty&&Eb n T x c)=Ab:=h;rw[Am]at h;obtain rfl:=GX h.1;exact fZ (S.b W0 T X x c v h.2)
theorem tE(S:wm Z CL k n)(W:XW)(T:Tc)(X:Cx)(tu:An)(tg x:Aq)(i:I)(v:VX Z CL k W T X)(ht':WN tu tg=Ab)(h:ra (n+1) T tu x i=Ab):SI X CL W tg x (λU=>ig Z U i):=by
 have ht:tu=Ab->uS tg=Ab:=λz=>by
  subst z;cases tg<;>first|rfl|cases ht'
 cases i with
 |e a=>
  exact yW (S.e W T X x a v h).se
 |rng a=>
  replace h:=Kn h;obtain⟨g,pp,l,qq,rfl,h⟩:=h;replace h:=Go h;obtain⟨y,rfl,h⟩:=h;simp only[Am,AD]at h;obtain⟨⟨⟨rfl,h1⟩,h2⟩,h3⟩:=h;obtain⟨g1,g2,_,_⟩:=Hj v h1;exact pJ (S.e W T X _ a v h3).st g1 g2 (DS h2)
 |rng2 a b=>
  replace h:=Kn h;obtain⟨g,pp,l,qq,rfl,h⟩:=h;replace h:=K5 h;obtain⟨y,z,rfl,h⟩:=h;simp only[Am,AD]at h;obtain⟨⟨⟨⟨⟨rfl,h1⟩,h2⟩,h3⟩,h4⟩,h5⟩:=h;obtain⟨g1,g2,_,_⟩:=Hj v h1;exact jF (S.e W T X _ a v h4).st (S.e W T X _ b v h5).st g1 g2 (by rw[DS h2,DS h3];rfl) (by rw[DS h3];rfl)
 |zip a b=>exact absurd (show Af=Ab from h) Ax
 |zip3 a b c=>exact absurd (show Af=Ab from h) Ax
 |enm a=>exact absurd (show Af=Ab from h) Ax
theorem L3{c:Prop}[JY c]{b:An}:(if c then R.ok (D.bl b) else .bad)=.bad\/∃ b',(if c then R.ok (D.bl b) else .bad)=.ok (.bl b'):=by
 by_cases h:c
 .rw[Au h];exact .inr ⟨_,rfl⟩
 .rw[Ay h];exact .inl rfl
theorem fO(op:DC)(d d':D):Cq op d d'=.bad\/∃ b,Cq op d d'=.ok (.bl b):=by
 cases op with
 |Eq=>exact L3
 |NotEq=>exact L3
 |In=>
  cases d' with
  |lst ys=>exact L3
  |tup ys=>exact L3
  |dic kvs=>
   show (match Mr d with|some k=>R.ok (D.bl (kvs.any λp=>p.1==k))|none=>.bad)=.bad\/∃ b,(match Mr d with|some k=>R.ok (D.bl (kvs.any λp=>p.1==k))|none=>.bad)=.ok (.bl b)
   cases Mr d with
   |some k=>exact .inr ⟨_,rfl⟩
   |none=>exact .inl rfl
  |_=>exact .inl rfl
 |NotIn=>
  cases d' with
  |lst ys=>exact L3
  |tup ys=>exact L3
  |_=>exact .inl rfl
 |Is=>
  cases d' with
  |non=>cases d<;>first|exact .inr ⟨_,rfl⟩|exact .inl rfl
  |_=>cases d<;>first|exact .inl rfl|exact .inr ⟨_,rfl⟩
 |IsNot=>
  cases d' with
  |non=>cases d<;>first|exact .inr ⟨_,rfl⟩|exact .inl rfl
  |_=>cases d<;>first|exact .inl rfl|exact .inr ⟨_,rfl⟩
 |_=>
  cases d with
  |int i=>cases d'<;>first|exact .inr ⟨_,rfl⟩|exact .inl rfl
  |_=>exact .inl rfl
theorem UP(op:DC)(d d':D):(Cq op d d').bind Bs=.bad\/(Cq op d d').bind Bs=(Cq op d d').bind Dz:=by
 rcases fO op d d' with h|⟨b,h⟩
 .rw[h];exact .inl rfl
 .rw[h];exact .inr rfl
theorem VT(e e':E)(es:Es):Rf (λU=>(evN Z U (.cons e (.cons e' es))).bind Bs) (λU=>((top U e (evE Z U e)).bind Bs).bind λc=>if c=Ab then (evN Z U (.cons e' es)).bind Bs else .ok Af):=λU=>by
 have e0:evN Z U (.cons e (.cons e' es))=(evE Z U e).bind λx=>(Dz x).bind λc=>if c=Ab then evN Z U (.cons e' es) else .ok (.bl Af):=rfl
 dsimp only;rw[e0];rcases Qx Z e U with z|z<;>dsimp only at z
 .rw[z];exact .inl rfl
 .rw[<-z];cases evE Z U e with
  |bad=>exact .inl rfl
  |exn x=>exact .inr rfl
  |ok d=>
   cases d with
   |bl b=>cases b<;>exact .inr rfl
   |_=>exact .inl rfl
theorem VS(e e':E)(es:Es):Rf (λU=>(evO Z U (.cons e (.cons e' es))).bind Bs) (λU=>((top U e (evE Z U e)).bind Bs).bind λc=>if c=Ab then .ok Ab else (evO Z U (.cons e' es)).bind Bs):=λU=>by
 have e0:evO Z U (.cons e (.cons e' es))=(evE Z U e).bind λx=>(Dz x).bind λc=>if c=Ab then .ok (.bl Ab) else evO Z U (.cons e' es):=rfl
 dsimp only;rw[e0];rcases Qx Z e U with z|z<;>dsimp only at z
 .rw[z];exact .inl rfl
 .rw[<-z];cases evE Z U e with
  |bad=>exact .inl rfl
  |exn x=>exact .inr rfl
  |ok d=>
   cases d with
   |bl b=>cases b<;>exact .inr rfl
   |_=>exact .inl rfl
theorem Rf.tru(e:E):Rf (λU=>(evE Z U e).bind Bs) (λU=>(top U e (evE Z U e)).bind Bs):=λU=>by
 rcases Qx Z e U with z|z<;>dsimp only at z ⊢
 .rw[z];exact .inl rfl
 .rw[<-z];exact .inr rfl
theorem oZ(S:wm Z CL k n)(W:XW)(T:Tc)(X:Cx)(xs:Ac Aq)(es:Es)(pos:AF)(v:VX Z CL k W T X)(h:yk (n+1) T xs es=Ab)(wz:xs≠[]):SW X CL W (.BoolOp .And xs pos) (λU=>(evN Z U es).bind Bs)/\SW X CL W (.BoolOp .Or xs pos) (λU=>(evO Z U es).bind Bs):=by
 cases xs with
 |nil=>exact absurd rfl wz
 |cons x xs=>
  cases es with
  |nil=>exact U0 h
  |cons e es=>
   replace h:(Eb n T x e&&yk n T xs es)=Ab:=h;simp only[Am]at h;obtain⟨h1,h2⟩:=h;have he:=S.b W T X x e v h1;cases xs with
   |nil=>
    cases es with
    |nil=>exact⟨SW.ref (Ua he) (Rf.tru e),SW.ref (Vk he) (Rf.tru e)⟩
    |cons=>
     cases n with
     |zero=>exact absurd (show Af=Ab from h2) Ax
     |succ n=>exact absurd (show Af=Ab from h2) Ax
   |cons y ys=>
    cases es with
    |nil=>
     cases n with
     |zero=>exact absurd (show Af=Ab from h2) Ax
     |succ n=>exact absurd (show Af=Ab from h2) Ax
    |cons e' zi=>
     obtain⟨b1,b2⟩:=S.bs W T X (y::ys) (.cons e' zi) pos v h2 (by simp)
     exact⟨SW.ref (Vl he b1) (VT e e' zi),SW.ref (V6 he b2) (VS e e' zi)⟩
theorem fT(S:wm Z CL k n){x:Aq}{ops:Ac DC}{b:BI}(v:VX Z CL k W T X)(h:RN T (Be n) x ops ys b as=Ab):SB X CL W (.Compare x ops ys pos) (λU=>(top U (.bi b as) (evE Z U (.bi b as))).bind Bs):=by
 exact absurd (show Af=Ab from h) Ax
theorem tG(S:wm Z CL k n)(W:XW)(T:Tc)(X:Cx)(x:Aq)(c:E)(v:VX Z CL k W T X)(h:Eb (n+1) T x c=Ab):SB X CL W x (λU=>(top U c (evE Z U c)).bind Bs):=by
 have plain:∀ e,Ik e=Ab->Be n T e c=Ab->SB X CL W e (λU=>(top U c (evE Z U c)).bind Bs):=λe h1 h2=>QQ (S.e W T X e c v h2).st (Qd h1)
 replace h:((IY x λo x=>decide (o=.Not)&&(Lz c λa=>Eb n T x a))||(IP x λo xs _=>(decide (o=.And)&&(Mj c λes=>yk n T xs es && !xs.isEmpty))||(decide (o=.Or)&&(Mq c λes=>yk n T xs es && !xs.isEmpty)))||(Nf x λx os ys=>(Ox c λop a b=>EF os λop'=>EF ys λy=>decide (op'=op) && !behindInMarks op y&&Be n T x a&&Be n T y b)||(Oy c λnr ui a b c=>IM os λo1 o2=>IM ys λy z=>decide (o1=nr)&&decide (o2=ui) && !lastMarks [nr,ui] [y,z]&&Be n T x a&&Be n T y b&&Be n T z c)||(Oz c λb as=>RN T (Be n) x os ys b as))||Ik x&&((match OE c with|some a=>Be n T x a|none=>Af)||Be n T x c))=Ab:=h
 replace h:=(vy h).imp_left λz=>(vy z).imp_left vy
 rcases h with ((h|h)|h)|h
 .replace h:=MZ h;obtain⟨o,y,p,rfl,h⟩:=h;replace h:=Bk h;obtain⟨h0,h⟩:=h;obtain rfl:=AN h0;replace h:=UC h;obtain⟨a,rfl,h⟩:=h
  .skip
   refine SB.ref (Va (S.b W T X _ a v h)) λU=>?_
   show ((top U a (evE Z U a)).bind λx=>(Dz x).bind λb=>.ok (.bl (!b))).bind Bs=.bad\/((top U a (evE Z U a)).bind λx=>(Dz x).bind λb=>.ok (.bl (!b))).bind Bs=_
   cases top U a (evE Z U a) with
   |bad=>exact .inl rfl
   |exn x=>exact .inr rfl
   |ok d=>cases d<;>first|exact .inr rfl|exact .inl rfl
 .replace h:=LZ h;obtain⟨o,ys,p,rfl,h⟩:=h;replace h:=vy h;rcases h with h|h
  .replace h:=Bk h;obtain⟨h0,h⟩:=h;obtain rfl:=AN h0;replace h:=TC h;obtain⟨es,rfl,h⟩:=h;simp only[Am,Bf,CN]at h;exact(S.bs W T X _ _ _ v h.1 h.2).1.sb
  .replace h:=Bk h;obtain⟨h0,h⟩:=h;obtain rfl:=AN h0;replace h:=UB h;obtain⟨es,rfl,h⟩:=h;simp only[Am,Bf,CN]at h;exact(S.bs W T X _ _ _ v h.1 h.2).2.sb
 .replace h:=T6 h;obtain⟨w,os,ys,p,rfl,h⟩:=h;replace h:=(vy h).imp_left vy;rcases h with (h|h)|h
  .replace h:=dL h;obtain⟨op,a,b,rfl,h⟩:=h;replace h:=Go h;obtain⟨op',rfl,h⟩:=h;replace h:=Go h;obtain⟨y,rfl,h⟩:=h
   .simp only[Am,Bf,AG]at h;obtain⟨⟨⟨rfl,h1⟩,h2⟩,h3⟩:=h;refine SB.ref (Vb (IG v.room.units _) (S.e W T X _ a v h2).st (S.e W T X _ b v h3).st h1) λU=>?_
    show ((top U a (evE Z U a)).bind λx=>(top U b (evE Z U b)).bind λy=>Cq op' x y).bind Bs=.bad\/((top U a (evE Z U a)).bind λx=>(top U b (evE Z U b)).bind λy=>Cq op' x y).bind Bs=_
    cases top U a (evE Z U a) with
    |bad=>exact .inl rfl
    |exn x=>exact .inr rfl
    |ok d=>
     cases top U b (evE Z U b) with
     |bad=>exact .inl rfl
     |exn x=>exact .inr rfl
     |ok d'=>
      dsimp only[R.bind];exact UP _ d d'
  .replace h:=dM h;obtain⟨nr,ui,a,b,c,rfl,h⟩:=h;replace h:=K5 h;obtain⟨o1,o2,rfl,h⟩:=h;replace h:=K5 h;obtain⟨y,z,rfl,h⟩:=h
   .simp only[Am,Bf,AG]at h;obtain⟨⟨⟨⟨⟨rfl,rfl⟩,h1⟩,h2⟩,h3⟩,h4⟩:=h;refine SB.ref (eJ v.room.units (S.e W T X _ a v h2).st (S.e W T X _ b v h3).st (S.e W T X _ c v h4).st h1) λU=>?_
    show ((top U a (evE Z U a)).bind λx=>(top U b (evE Z U b)).bind λy=>(Cq o1 x y).bind λz=>(Dz z).bind λk=>if k=Ab then (top U c (evE Z U c)).bind λu=>Cq o2 y u else .ok (.bl Af)).bind Bs=.bad\/((top U a (evE Z U a)).bind λx=>(top U b (evE Z U b)).bind λy=>(Cq o1 x y).bind λz=>(Dz z).bind λk=>if k=Ab then (top U c (evE Z U c)).bind λu=>Cq o2 y u else .ok (.bl Af)).bind Bs=_
    cases top U a (evE Z U a) with
    |bad=>exact .inl rfl
    |exn x=>exact .inr rfl
    |ok d=>
     cases top U b (evE Z U b) with
     |bad=>exact .inl rfl
     |exn x=>exact .inr rfl
     |ok d'=>
      dsimp only[R.bind];cases Cq o1 d d' with
      |bad=>exact .inl rfl
      |exn x=>exact .inr rfl
      |ok d3=>
       cases d3 with
       |bl k=>
        cases k with
        |false=>exact .inr rfl
        |true=>
         dsimp only[R.bind,Dz];rw[Au rfl,Au rfl];cases top U c (evE Z U c) with
         |bad=>exact .inl rfl
         |exn x=>exact .inr rfl
         |ok d4=>exact UP _ d' d4
       |_=>exact .inl rfl
  .replace h:=dN h;obtain⟨b,as,rfl,h⟩:=h;exact fT S v h
 .obtain⟨h1,h2⟩:=Bk h;rcases vy h2 with h2|h2
  .cases e1:OE c with
   |none=>rw[e1]at h2;cases h2
   |some a=>
    rw[e1]at h2;rw[dP e1];refine SB.ref (QQ (S.e W T X x a v h2).st (Qd h1)) λU=>?_
    have e2:top U (.cmp .NotEq (.bi .len (.cons (.bi .list (.cons a .nil)) .nil)) (.int 0)) (evE Z U (.cmp .NotEq (.bi .len (.cons (.bi .list (.cons a .nil)) .nil)) (.int 0)))=(top U a (evE Z U a)).bind λx=>(zr .list [x]).bind λy=>(zr .len [y]).bind λz=>Cq .NotEq z (.int 0):=by
     show evE Z U (.cmp .NotEq (.bi .len (.cons (.bi .list (.cons a .nil)) .nil)) (.int 0))=_;simp only[Kx,N9,KG,yg,R.bind_assoc,R.bind_ok,Qc,Qs]
    rw[e2];cases top U a (evE Z U a) with
    |bad=>exact .inl rfl
    |exn x=>exact .inr rfl
    |ok d=>
     have key:∀ xs:Ac D,(Cq .NotEq (.int (xs.length:Ai)) (.int 0)).bind Bs=.ok (!xs.isEmpty):=λxs=>by
      cases xs<;>rfl
     cases d with
     |lst xs=>exact .inr (key xs)
     |tup xs=>exact .inr (key xs)
     |_=>exact .inl rfl
  .exact plain _ h1 h2
end
section
variable{Z:Z4}{CL:ClA}{W:XW}{k n:Ag}{T:Tc}{X:Cx}
theorem xS{b:BI}{g:Ah}{p pos:AF}{x:Aq}(v:VX Z CL k W T X)(hb:Rv b=Aa g)(hg:yi T g=Ab)(hs:uu X CL W (x::xs) (λU=>yg Z U as))(h0:D0 x=Ab)(zR:∀ pos,(Br pos (Aw xs X.env)).any (·.1)=Af):vt Z CL W X (.Call (.Name g p) (x::xs) [] pos) (.bi b as):=by
 obtain⟨g1,g2,g3,g4⟩:=Hj v hg;cases b<;>simp only[Rv]at hb<;>cases hb
 .exact Dr (QP rM g1 g2 Jf hs g3 g4 (DS h0) zR) (λ_ _=>rfl) rfl rfl
 .exact Dr (QP (rL v.calm) g1 g2 PyProof.Rows.boot_min hs g3 g4 (DS h0) zR) (λ_ _=>rfl) rfl rfl
 .exact QF (pE jW g1 g2 Yn hs g3 g4 (DS h0) zR) (λ_ _=>rfl) rfl
 .exact Dr (U_6 eZ g1 g2 Yo hs g3 g4 (DS h0) zR) (λ_ _=>rfl) rfl rfl
 .exact Dr (QP (rN v.calm) g1 g2 PyProof.Rows.boot_all hs g3 g4 (DS h0) zR) (λ_ _=>rfl) rfl rfl
 .exact Dr (U_6 rK g1 g2 Gx hs g3 g4 (DS h0) zR) (λ_ _=>rfl) rfl rfl
theorem aL{β:Type}[BEq α][LawfulBEq α]{a:α}{b:β}:∀{l:Ac (α×β)},l.lookup a=Aa b->(a,b)∈l:=by
 intro l
 induction l with
 |nil=>intro h;cases h
 |cons p r ih=>
  intro h;obtain⟨x,y⟩:=p;by_cases z:(a==x)=Ab
  .simp only[BZ,z]at h;cases h;rw[eq_of_beq z];exact AY
  .have z':(a==x)=Af:=by simpa using z
   simp only[BZ,z']at h;exact AE _ (ih h)
theorem Lc{l:Ac (Ah×Ag)}{g:Ah}{c:Ag}(h:ug l g c=Ab):(g,c)∈l:=by
 unfold ug at h;simp only[EK,Am,AD]at h;obtain⟨p,hp,rfl,rfl⟩:=h;exact hp
theorem MJ{x:Aq}{es:Es}(h:Cl n T (x::xs) es=Ab):D0 x=Ab/\∃ e zi,es=.cons e zi/\∃ m,n=m+1/\Cl m T xs zi=Ab:=by
 cases n with
 |zero=>exact U0 h
 |succ m=>
  cases es with
  |nil=>exact U0 h
  |cons e es=>
   replace h:(D0 x&&Be m T x e&&Cl m T xs es)=Ab:=h;simp only[Am]at h;exact⟨h.1.1,e,es,rfl,m,rfl,h.2⟩
theorem NR:∀(m:Ag)(xs:Ac Aq)(es:Es),Cl m T xs es=Ab->∀ pos,(Br pos (Aw xs X.env)).any (·.1)=Af:=by
 intro m
 induction m with
 |zero=>intro xs es h;exact U0 h
 |succ m ih=>
  intro xs es h pos;cases xs with
  |nil=>rfl
  |cons x xs=>
   obtain⟨h0,e,zi,rfl,m',e1,h1⟩:=MJ h;cases e1;exact Su h0 (ih xs zi h1 pos)
theorem bV{o y:Aq}{j:Ah}(hu:X.A.units+64<Bx)(ho:ST X CL W o fo)(hy:SE X CL W y (λ_=>.ok (.str j)))(U7:BH o "count" X.env (eval o X.env)=eval o X.env)(yt:((Br cpos (Aw [y] X.env)).all (λx=>!x.1)&&(D9 cpos (Dg [] X.env)).all (λx=>x.1.isSome)&&decide ([y].length+([]:Ac CB).length+(if ([]:Ac CB).isEmpty then 0 else 1)<30))=Ab)(U6:(apos.endLine==cpos.line)=Ab)(hs:Aw [y] X.env=[(Af,eval y X.env)]):
  SE X CL W (.Call (.Attribute o "count" apos) [y] [] cpos) (λU=>(fo U).bind λx=>zr .count [x,.str j]):=λA=>
 PE.weak (IL BJ Ed F0 (P7 (CL:=CL) hu) (ho A) (Bv (hy A) Ca hs) U7 yt U6 hs rfl) λY H Q ⟨hA,U,g,p⟩=>⟨hA,U,g,AW.bind p λd v H1 _ s1 r1 p1=>by
  cases d with
  |lst ds=>
   obtain⟨a,xs,rfl,sq,rs⟩:=r1.lst_of;refine⟨.inl ⟨rfl,xs,sq⟩,hA.same s1,U,g.same s1,λv' H2 s2 r2=>?_⟩
   have r3:Z7 X.K CL H2 A0 (.ref a) (.lst ds):=(Cv.same s2 r1).plain;obtain⟨a',mq,e',_,lq,w5⟩:=r3;cases e';replace p1:AW (λH=>Z7 X.K CL H A) W H1 (if (Y8 5 (.str j)&&ds.all (Y8 5))=Ab then .ok (.int ((ds.filter λy=>My y (.str j)).length:Ag)) else .bad) Q:=p1
   split at p1
   .rename_i h;simp only[Am]at h;have e2:v'=.str j:=r2;subst e2;exact⟨a,mq,ds,.str j,.str j,rfl,rfl,lq,w5,rfl,h.1,h.2,p1 _ H2 s2 rfl⟩
   .exact p1.elim
  | _=>exact p1.elim⟩
theorem kA(S:wm Z CL k n){x:Aq}{b:BI}(v:VX Z CL k W T X)(h:(match O3 as with|some (s,a)=>JC x λf l ks cp=>ks.isEmpty&&(Iq f λo m ap=>m==("join" : Ah)&&ap.endLine==cp.line&&(HM o λc=>decide (c=.str s)&&decide (b=.sjoin)&&(EF l λy=>D0 y&&Be n T y a)))|none=>Af)=Ab):vt Z CL W X x (.bi b as):=by
 cases q1:O3 as with
 |none=>rw[q1]at h;cases h
 |some t=>
  obtain⟨s,a⟩:=t;rw[q1]at h;obtain⟨e,te⟩:=nE q1;subst e;replace h:=MP h;obtain⟨f,l,ks,cp,rfl,h⟩:=h;replace h:=Bk h;obtain⟨h0,h⟩:=h;obtain rfl:=GX h0;replace h:=K6 h;obtain⟨o,m,ap,rfl,h⟩:=h;replace h:=Bk h;obtain⟨h1,h⟩:=h;replace h1:=Bk h1;obtain⟨h1,h2⟩:=h1;obtain rfl:=eq_of_beq h1;replace h:=Km h;obtain⟨c,u,p,rfl,h⟩:=h;replace h:=Bk h;obtain⟨h3,h⟩:=h;replace h3:=Bk h3;obtain⟨h3,h4⟩:=h3;obtain rfl:=AN h3;obtain rfl:=AN h4;replace h:=Go h;obtain⟨y,rfl,h⟩:=h;replace h:=Bk h;obtain⟨h5,h6⟩:=h;refine Dr (SE.congr (jJ (S.e W T X _ a v h6).se rfl (by rw[DS h5];rfl) h2 (by rw[DS h5];rfl)) λU=>?_) (λ_ _=>rfl) rfl rfl
  simp only[KG,yg,R.bind_assoc,R.bind_ok,Qj,Qr,te]
theorem dX(S:wm Z CL k n){x:Aq}{b:BI}(v:VX Z CL k W T X)(h:(match O2 as with|some (a,s)=>JC x λf l ks cp=>ks.isEmpty&&(Iq f λo m ap=>m==("split" : Ah)&&ap.endLine==cp.line&&Ml o&&Be n T o a&&(EF l λy=>HM y λc=>decide (c=.str s)&&decide (b=.ssplit)))|none=>Af)=Ab):vt Z CL W X x (.bi b as):=by
 cases q1:O2 as with
 |none=>rw[q1]at h;cases h
 |some t=>
  obtain⟨a,s⟩:=t;rw[q1]at h;have e:=nB q1;subst e;replace h:=MP h;obtain⟨f,l,ks,cp,rfl,h⟩:=h;replace h:=Bk h;obtain⟨h0,h⟩:=h;obtain rfl:=GX h0;replace h:=K6 h;obtain⟨o,m,ap,rfl,h⟩:=h;replace h:=Bk h;obtain⟨h1,h⟩:=h;replace h1:=Bk h1;obtain⟨h1,h6⟩:=h1;replace h1:=Bk h1;obtain⟨h1,h3⟩:=h1;replace h1:=Bk h1;obtain⟨h1,h2⟩:=h1;obtain rfl:=eq_of_beq h1;replace h:=Go h;obtain⟨y,rfl,h⟩:=h;replace h:=Km h;obtain⟨c,u,p,rfl,h⟩:=h;replace h:=Bk h;obtain⟨h4,h5⟩:=h;obtain rfl:=AN h4;obtain rfl:=AN h5;refine Dr (SE.congr (dZ (S.e W T X _ a v h6).st (Oa h3) h2).se λU=>?_) (λ_ _=>rfl) rfl rfl
  simp only[KG,yg,R.bind_assoc,R.bind_ok,Qj,Qr]
theorem nW(S:wm Z CL k n){x:Aq}{b:BI}(v:VX Z CL k W T X)(h:(match Sb as with|some a=>(match WT x with|some y=>decide (b=.rvs)&&Be n T y a|none=>Af)|none=>Af)=Ab):vt Z CL W X x (.bi b as):=by
 simp[Sb]at h
theorem lT(S:wm Z CL k n){x:Aq}{b:BI}(v:VX Z CL k W T X)(h:(match RB as with|some (a,c)=>(match WW x with|some (y,z,_)=>decide (b=.tlt) && !behindInMarks .Lt z&&Be n T y a&&Be n T z c|none=>Af)|none=>Af)=Ab):vt Z CL W X x (.bi b as):=by
 simp[RB]at h
theorem sF{x:Aq}{b:BI}(v:VX Z CL k W T X)(h:R8 T x b as=Ab):vt Z CL W X x (.bi b as):=by
 unfold R8 at h;split at h
 .simp only[Am,AD,AG]at h;obtain⟨⟨⟨rfl,rfl⟩,h2⟩,h3⟩:=h;split at h3
  .simp only[Am,AG]at h3;obtain⟨h3,rfl⟩:=h3;refine Dr (SE.congr (eE v.room.units (HG (L9 v h3)) (j:=_) QN rfl rfl (by rw[h2];exact BE _) rfl) λU=>?_) (λ_ _=>rfl) rfl rfl
   simp only[KG,yg,R.bind_assoc,R.bind_ok,Qc,Qs];rfl
  .cases h3
 .simp only[Am,AD,AG]at h;obtain⟨⟨⟨rfl,rfl⟩,h2⟩,h3⟩:=h;split at h3
  .simp only[Am,AG]at h3;obtain⟨h3,rfl⟩:=h3;refine Dr (SE.congr (bV v.room.units (HG (L9 v h3)) (j:=_) M6 rfl rfl (by rw[h2];exact BE _) rfl) λU=>?_) (λ_ _=>rfl) rfl rfl
   simp only[KG,yg,R.bind_assoc,R.bind_ok,Qj,Qr];rfl
  .cases h3
 .cases h
theorem oW(S:wm Z CL k n){x:Aq}{b:BI}(v:VX Z CL k W T X)(h:(match RC as with|some (a,k)=>(match WQ x with|some (y,j)=>decide (b=.stp)&&decide (j=k)&&decide (0<=k)&&Be n T y a|none=>Af)|none=>Af)=Ab):vt Z CL W X x (.bi b as):=by
 simp[RC]at h
theorem rE(S:wm Z CL k n){x:Aq}{b:BI}(v:VX Z CL k W T X)(h:(match RE as with|some (a,c)=>(match Xd x with|some (g,h,y,z)=>decide (b=.list)&&g==("list" : Ah)&&h==("range" : Ah)&&yi T g&&yi T h&&D0 y&&D0 z&&Be n T y a&&Be n T z c|none=>Af)|none=>Af)=Ab):vt Z CL W X x (.bi b as):=by
 simp[RE]at h
theorem lO(S:wm Z CL k n){x:Aq}{b:BI}(v:VX Z CL k W T X)(h:(match RD as with|some a=>(match Xc x with|some (g,h,y)=>decide (b=.lset)&&g==("len" : Ah)&&h==("set" : Ah)&&yi T g&&yi T h&&D0 y&&Be n T y a|none=>Af)|none=>Af)=Ab):vt Z CL W X x (.bi b as):=by
 simp[RD]at h
theorem tF(S:wm Z CL k n)(W:XW)(T:Tc)(X:Cx)(x:Aq)(c:E)(v:VX Z CL k W T X)(h:Be (n+1) T x c=Ab):vt Z CL W X x c:=by
 cases c with
 |non=>
  replace h:=Km h;obtain⟨c,u,p,rfl,h⟩:=h;obtain rfl:=AN h;exact Dr pL (λ_ _=>rfl) rfl rfl
 |bl b=>
  replace h:=Km h;obtain⟨c,u,p,rfl,h⟩:=h;obtain rfl:=AN h;exact Dr OH (λ_ _=>rfl) rfl rfl
 |int i=>
  replace h:=Km h;obtain⟨c,u,p,rfl,h⟩:=h;obtain rfl:=AN h;exact Dr QN (λ_ _=>rfl) rfl rfl
 |str i=>
  replace h:=Km h;obtain⟨c,u,p,rfl,h⟩:=h;obtain rfl:=AN h;exact Dr M6 (λ_ _=>rfl) rfl rfl
 |var i=>
  replace h:=ER h;obtain⟨y,p,rfl,h⟩:=h;exact⟨Vp (L9 v h),HG (L9 v h),λz=>(nomatch z),λz=>(nomatch z)⟩
 |glob g=>
  replace h:=ER h;obtain⟨y,p,rfl,h⟩:=h;simp only[Am]at h;obtain⟨⟨h1,h2⟩,h3⟩:=h;obtain⟨u,w',m1,m2,m3⟩:=v.gl _ (Lc h1);obtain⟨n2,_,_⟩:=Hf h3;refine Dr (λA=>PE.weak (MY (by unfold zn at h2;show X.env.scope.names.lookup _=_;rw[v.sc];exact eq_of_beq h2) m1 m2 n2) λY H Q ⟨hA,U,gd,p⟩=>?_) (λ_ _=>rfl) rfl rfl
  exact p w' H (Az.refl H) (m3 H A)
 |bin op a b=>
  replace h:=Tx h;obtain⟨y,op',z,p,rfl,h⟩:=h;simp only[Am,AG]at h;obtain⟨⟨rfl,h1⟩,h2⟩:=h;have ha:=(S.e W T X _ a v h1).st;have hb:=(S.e W T X _ b v h2).st;refine⟨QO (Ql _) ha hb,(QO (Ql _) ha hb).st,λz=>?_,λz=>nomatch z⟩
  cases op'<;>first|exact pF ha hb|cases z
 |un op a=>
  replace h:=MZ h;obtain⟨o,y,p,rfl,h⟩:=h;replace h:=Bk h;obtain⟨h0,h⟩:=h;obtain rfl:=AN h0;simp only[Am,AG]at h;obtain⟨rfl,h1⟩:=h;exact Dr (pM (S.e W T X _ a v h1).st) (λ_ _=>rfl) rfl rfl
 |no a=>
  replace h:=MZ h;obtain⟨o,y,p,rfl,h⟩:=h;replace h:=Bk h;obtain⟨h0,h⟩:=h;obtain rfl:=AN h0;exact Dr (Vs (S.e W T X _ a v h).st) (λ_ _=>rfl) rfl rfl
 |and es=>
  replace h:=LZ h;obtain⟨o,ys,p,rfl,h⟩:=h;replace h:=Bk h;obtain⟨h0,h⟩:=h;obtain rfl:=AN h0;simp only[Am,Bf,CN]at h;exact Dr ((S.es W T X _ es v h.1).2.2.2.1 _ h.2).1 (λ_ _=>rfl) rfl rfl
 |or es=>
  replace h:=LZ h;obtain⟨o,ys,p,rfl,h⟩:=h;replace h:=Bk h;obtain⟨h0,h⟩:=h;obtain rfl:=AN h0;simp only[Am,Bf,CN]at h;exact Dr ((S.es W T X _ es v h.1).2.2.2.1 _ h.2).2 (λ_ _=>rfl) rfl rfl
 |cmp op a b=>
  replace h:=T6 h;obtain⟨y,os,ys,p,rfl,h⟩:=h;replace h:=Go h;obtain⟨op',rfl,h⟩:=h;replace h:=Go h;obtain⟨z,rfl,h⟩:=h;simp only[Am,Bf,AG]at h;obtain⟨⟨⟨rfl,h1⟩,h2⟩,h3⟩:=h;exact Dr (nQ (IG v.room.units _) (S.e W T X _ a v h2).st (S.e W T X _ b v h3).st h1) (λ_ _=>rfl) rfl rfl
 |cmp2 nr ui a b c=>exact absurd (show Af=Ab from h) Ax
 |ite c a b=>exact absurd (show Af=Ab from h) Ax
 |call f as=>
  replace h:=NN h;obtain⟨g,pp,y,ys,qq,rfl,h⟩:=h;simp only[Am,EK,AD,AG]at h;obtain⟨⟨⟨⟨⟨p,hp,⟨rfl,rfl⟩,hl⟩,h900⟩,h1⟩,h2⟩,h3⟩:=h;obtain⟨fa,fd,ps,m1,m2,m3,m4,m5,_⟩:=v.fn p hp;have yn:p.2.2<1000:=by omega
  rw[Yh yn]at m4 m5;have m5:=m5 yn;obtain⟨n2,n3,n4⟩:=Hf h2;replace m1:=P9 m1 (Ur h2);obtain⟨a1,a2,a3,a4,a5⟩:=S.es W T X _ as v h3;obtain⟨s0,e,zi,rfl,m,rfl,s1⟩:=MJ h3;have q:SC X CL W (Z.fr p.2.1) (.Call (.Name p.1 pp) (y::ys) [] qq) (λU=>evE Z U (.call p.2.1 (.cons e zi))):=jL (sh:=λU=>KO U (.cons e zi)) m5 v.room (by unfold zn at h1;show X.env.scope.names.lookup p.1=_;rw[v.sc];exact eq_of_beq h1) m1 m2 m3 v.px a1 a2 (λU z=>Q0 Z U _ z) (λU ds z=>by rw[Qt Z U _ _ z,<-a3,hl];rfl) n2 (DS s0) (NR m ys zi s1)
  exact⟨q.se,q.se.st,λz=>by
   have z':Z.fr p.2.1=Ab:=z;rw[z']at q;exact q,λz=>nomatch z⟩
 |bi b as=>
  unfold Be at h;dsimp only at h;simp only[BX]at h;rcases h with (((((((h|h)|h)|h)|h)|h)|h)|h)|h
  .replace h:=NN h;obtain⟨g,pp,y,ys,qq,rfl,h⟩:=h;simp only[Am,AD]at h;obtain⟨⟨h1,h2⟩,h3⟩:=h;obtain⟨s0,e,zi,rfl,m,rfl,s1⟩:=MJ h3;exact xS v h1 h2 (S.es W T X _ _ v h3).2.1 s0 (NR m _ zi s1)
  .exact sF v h
  .exact rE S v h
  .exact oW S v h
  .exact lO S v h
  .exact lT S v h
  .exact kA S v h
  .exact dX S v h
  .exact nW S v h
 |isi a ks=>
  replace h:=vy h;rcases h with h|h
  .skip
   replace h:=Go h;obtain⟨k',rfl,h⟩:=h;replace h:=Kn h;obtain⟨g,pp,l,qq,rfl,h⟩:=h;replace h:=K5 h;obtain⟨y,t,rfl,h⟩:=h;replace h:=ER h;obtain⟨t,pt,rfl,h⟩:=h;simp only[Am,AD]at h;obtain⟨⟨⟨⟨⟨rfl,h1⟩,h2⟩,h3⟩,h4⟩,h5⟩:=h;obtain⟨g1,g2,_,_⟩:=Hj v h1;obtain⟨b1,b2,b3,b4⟩:=Hj v h3;obtain⟨ty,t1,t2⟩:=xQ h2;exact Dr (pQ t1 g1 g2 b1 b2 t2 b3 b4 (S.e W T X _ a v h5).st (DS h4)) (λ_ _=>rfl) rfl rfl
  .replace h:=Go h;obtain⟨k',rfl,h⟩:=h;replace h:=Kn h;obtain⟨g,pp,l,qq,rfl,h⟩:=h;replace h:=K5 h;obtain⟨y,t,rfl,h⟩:=h;replace h:=ER h;obtain⟨t,pt,rfl,h⟩:=h;simp only[Am,AD]at h;obtain⟨⟨⟨⟨rfl,h1⟩,h4⟩,h5⟩,h6⟩:=h;obtain⟨g1,g2,_,_⟩:=Hj v h1;cases k' with
   |verr=>
    replace h6:=Bk (a:=t==("ValueError" : Ah)) h6;obtain⟨h6,h7⟩:=h6;obtain rfl:=eq_of_beq h6;obtain⟨b1,b2,_,_⟩:=Hj v h7;exact Dr (U_3 v.xt.xc g1 g2 b1 b2 (S.e W T X _ a v h5).st (DS h4)) (λ_ _=>rfl) rfl rfl
   |cls c=>
    replace h6:=Bk (a:=ug T.exs t c&&zn T t) h6;obtain⟨h6,h8⟩:=h6;replace h6:=Bk h6;obtain⟨h6,h7⟩:=h6;obtain⟨C,m1,m3,_⟩:=v.xt.ex _ (Lc h6);obtain⟨n2,_,_⟩:=Hf h8;exact Dr (U_4 v.xt.xc g1 g2 (by unfold zn at h7;show X.env.scope.names.lookup _=_;rw[v.sc];exact eq_of_beq h7) m1 m3 n2 (S.e W T X _ a v h5).st (DS h4)) (λ_ _=>rfl) rfl rfl
   |_=>exact U0 h6
 |idx a i=>
  replace h:=TY h;obtain⟨y,z,p,rfl,h⟩:=h;simp only[Am]at h;obtain⟨⟨h1,h2⟩,h3⟩:=h;exact Dr (U_5 (eA h1) (S.e W T X _ a v h2).st (S.e W T X _ i v h3).st) (λ_ _=>rfl) rfl rfl
 |sl a lo hi=>
  replace h:=TY h;obtain⟨y,s,p,rfl,h⟩:=h;replace h:=dG h;obtain⟨l,u,st,p',rfl,h⟩:=h;replace h:=Bk h;obtain⟨h0,h⟩:=h;obtain rfl:=DX.mp h0;simp only[Am]at h;obtain⟨⟨h1,h2⟩,h3⟩:=h;refine QF (SC.congr (tI (S.e W T X _ a v h1).st (S.o W T X _ lo v h2) (S.o W T X _ hi v h3)) λU=>?_) (λ_ _=>rfl) rfl
  show ((top U a (evE Z U a)).bind λx=>(top U lo (evE Z U lo)).bind λl=>(slE lo l).bind λl'=>(top U hi (evE Z U hi)).bind λh=>(slE hi h).bind λh'=>ä x l' h')=_
  simp only[R.bind_assoc]
 |tup es=>
  replace h:=MO h;obtain⟨ys,cc,p,rfl,h⟩:=h;simp only[Am,AG]at h;have q:=S.es W T X _ es v h.1;exact Dr (Vr q.1 λU ds z=>by rw[Ky Z U _ _ z,<-q.2.2.1];omega) (λ_ _=>rfl) rfl rfl
 |lst es=>
  replace h:=P5 h;obtain⟨ys,p,rfl,h⟩:=h;simp only[Am,AG]at h;have q:=S.es W T X _ es v h.1;exact QF (QJ q.1 λU ds z=>by rw[Ky Z U _ _ z,<-q.2.2.1];omega) (λ_ _=>rfl) rfl
 |comp elt t it c=>
  replace h:=lE (e:=x) (F:=_) (by unfold Be at h;exact h)
  obtain⟨y,tg,it',ifs,scope,p,rfl,h⟩:=h;replace h:=ER h;obtain⟨w,pw,rfl,h⟩:=h;simp only[Am]at h;obtain⟨⟨⟨⟨⟨h1,h2⟩,h3⟩,h4⟩,h5⟩,h6⟩:=h;refine vM v.calm ⟨_,_,_,_,_,_,_,_,_,_,_,_,_,rfl,(VU v h3).1,S.i W T X Af _ _ it v rfl h1,kO t,λcl C s H fp=>fV (v.blk h3) (λz=>AD.mpr z) h4,λcl C s H fp=>S.t _ _ _ c (v.blk h3) h5,λcl C s H fp=>(S.e W0 _ _ _ elt (v.blk h3) h6).se,QL h2,λU=>rfl⟩ (λ_ _=>rfl)
 |compT elt ts it c=>exact absurd (show Af=Ab from h) Ax
 |tupI it=>exact absurd (show Af=Ab from h) Ax
 |dnew=>exact U0 h
 |fld o f=>
  replace h:=K6 h;obtain⟨w,g,p,rfl,h⟩:=h;simp only[Am,AD]at h;obtain⟨⟨⟨rfl,h2⟩,h3⟩,h4⟩:=h;exact Dr (UJ v.xt.xc (λc C z=>v.xt.nf c C z _ h2) (S.e W T X _ o v h4).st (Oa h3)) (λ_ _=>rfl) rfl rfl
 |ofl o f=>
  replace h:=K6 h;obtain⟨w,g,p,rfl,h⟩:=h;simp only[Am,AD]at h;obtain⟨⟨⟨rfl,h2⟩,h3⟩,h4⟩:=h;refine Dr (pK (λc C z=>?_) (S.e W T X _ o v h4).st (Oa h3)) (λ_ _=>rfl) rfl rfl
  rw[h2];exact⟨(v.os.oc c C z).cl,(v.os.oc c C z).nt⟩
 |iso a k'=>
  replace h:=Kn h;obtain⟨g,pp,l,qq,rfl,h⟩:=h;replace h:=K5 h;obtain⟨y,t,rfl,h⟩:=h;replace h:=ER h;obtain⟨t,pt,rfl,h⟩:=h;unfold Ô at h;simp only[Am,AD,AG]at h;obtain⟨⟨⟨⟨rfl,h1⟩,h4⟩,h5⟩,⟨⟨⟨e6,h7⟩,h8⟩,h9⟩⟩:=h;obtain⟨g1,g2,_,_⟩:=Hj v h1;obtain⟨n2,_,_⟩:=Hf h9;obtain⟨C',o1,o2⟩:=v.os.at_ k' h7;exact Dr (pP v.os.oc g1 g2 (by unfold zn at h8;show X.env.scope.names.lookup _=_;rw[v.sc];exact eq_of_beq h8) (by rw[e6];exact o2) (λc C z=>v.os.kit c C k' C' z o1) n2 (S.e W T X _ a v h5).st (DS h4)) (λ_ _=>rfl) rfl rfl
 |meth m ms o=>
  replace h:=MP h;obtain⟨f,l,ks,cp,rfl,h⟩:=h;replace h:=Bk h;obtain⟨h0,h⟩:=h;obtain rfl:=GX h0;replace h:=Bk h;obtain⟨m7,h⟩:=h;obtain rfl:=GX m7;replace h:=K6 h;obtain⟨w,g,ap,rfl,h⟩:=h;replace h:=Bk h;obtain⟨h,h5⟩:=h;replace h:=Bk h;obtain⟨h,h4⟩:=h;replace h:=Bk h;obtain⟨h,h3⟩:=h;replace h:=Bk h;obtain⟨h,h2⟩:=h;replace h:=Bk h;obtain⟨h,h1⟩:=h;obtain rfl:=eq_of_beq h;refine Dr (jH v.room v.px (S.e W T X _ o v h4).st (λc id C hl hC=>?_) (Oa h3) h2) (λ_ _=>rfl) rfl rfl
  have hm:=Bh.mp h5 _ (aL hl);simp only[EK,Am,AD]at hm;obtain⟨p,hp,⟨e1,e2⟩,e3⟩:=hm;obtain⟨fa,fd,ps,m1,m2,m3,m4,m5,_⟩:=v.fn p hp;have m5:=m5 (by omega)
  rw[e3,e2]at m5;have jv:=cZ m1 e1 hC;exact⟨fa,fd,ps,_,(v.os.oc c C hC).cl,⟨jv,v.os.mf c C _ fa hC h1 jv,m2⟩,m3,m5⟩
 |mkob c e=>exact U0 h
 |mkn c as=>
  replace h:=NN h;obtain⟨g,np,x,xs,cpos,rfl,h⟩:=h;unfold Ô at h;simp only[Am,AD,AG]at h;obtain⟨⟨⟨⟨⟨e6,h7⟩,h8⟩,h9⟩,hl⟩,h5⟩:=h;obtain⟨n2,_,_⟩:=Hf h9;obtain⟨s0,e,zi,rfl,m,rfl,s1⟩:=MJ h5;have q:=S.es W T X _ _ v h5;rcases v.mkr c h7 with hb|⟨C,f,fd,G,k',o1,M,hb,hk,FI,hF,hG⟩
  .refine Dr (λA pI s Y H Q I ⟨hA,U,gd,p⟩=>?_) (λ_ _=>rfl) rfl rfl
   have p':AW (λH=>Z7 X.K CL H A) W H ((zk (ye Z U (.cons e zi))).bind λxs=>Z.F (900+c) xs) Q:=p
   cases e1:ye Z U (.cons e zi) with
   |bad=>rw[e1]at p';exact p'.elim
   |exn y=>rw[e1]at p';exact p'.elim
   |ok ds=>rw[e1]at p';have p2:AW (λH=>Z7 X.K CL H A) W H (Z.F (900+c) ds) Q:=p';rw[hb ds]at p2;exact p2.elim
  .obtain⟨C',o2,o3⟩:=v.os.at_ c h7;have:C'=C:=by rw[o1]at o2;exact(BD o2).symm
   subst this;subst hk;exact Dr (jI M o1 (v.os.oc c _ o1) FI v.room hb v.px hF hG (by unfold zn at h8;show X.env.scope.names.lookup g=_;rw[v.sc];exact eq_of_beq h8) (by rw[e6];exact o3) n2 q.1 (λU ds z=>by rw[Ky Z U _ _ z,<-q.2.2.1,A8,hl]) (DS s0) (NR m xs zi s1 _)) (λ_ _=>rfl) rfl rfl
 |mkx c as=>exact absurd (show Af=Ab from h) Ax
theorem zp:∀ n,wm Z CL k n
 |0=>dY
 |n+1=>⟨tF (zp n),tG (zp n),oZ (zp n),oY (zp n),tD (zp n),uQ (zp n),tE (zp n)⟩
end
section
variable{Z:Z4}{CL:ClA}{W:XW}{k n:Ag}{T:Tc}{X:Cx}
theorem fX{t:Ag}(v:VX Z CL k W T X)(hf:∀ x,X.fn x=Ab)(h:qm T [t] [x]=Ab):PG X (.Name x pos) (G0 t):=by
 unfold qm at h;simp only[Am,AD]at h;exact MX (by rw[v.N];exact v.nd) (by rw[v.N];exact h.1.1) (by rw[v.sc];exact M1 h.1.2) (.inl (hf x))
theorem T8(v:VX Z CL k W T X)(hf:∀ x,X.fn x=Ab):∀(ys:Ac Aq)(ts:Ac Ag)(zs:Ac Ah),GR ys=Aa zs->qm T ts zs=Ab->gi X ys (ts.foldr (λt u=>Lm (G0 t) u) Ly)/\ts.length=ys.length:=by
 intro ys
 induction ys with
 |nil=>
  intro ts zs e h;cases e;cases ts with
  |nil=>exact⟨iR,rfl⟩
  |cons t ts=>cases h
 |cons y r ih=>
  intro ts zs e h;obtain⟨x,p,ws,rfl,e2,rfl⟩:=So e;cases ts with
  |nil=>cases h
  |cons t ts=>
   have h':(T.N[t]? == Aa x&&LB T x&&qm T ts ws)=Ab:=h;simp only[Am,AD]at h';obtain⟨h1,h2⟩:=ih ts ws e2 h'.2;exact⟨eQ (MX (by rw[v.N];exact v.nd) (by rw[v.N];exact h'.1.1) (by rw[v.sc];exact M1 h'.1.2) (.inl (hf x))) h1 (by rw[S9];rfl),congrArg (· + 1) h2⟩
theorem fW(v:VX Z CL k W T X)(hf:∀ x,X.fn x=Ab)(hn:(GR ys).isSome=Ab)(h:qm T ts (n9 ys)=Ab):PG X (.Tuple ys kk pos) (OY X.K ts.length (ts.foldr (λt u=>Lm (G0 t) u) Ly)):=by
 cases e:GR ys with
 |none=>rw[e]at hn;cases hn
 |some zs=>
  have e2:n9 ys=zs:=by unfold n9;rw[e];rfl
  rw[e2]at h;obtain⟨h1,h2⟩:=T8 v hf ys ts zs e h;obtain⟨h3,h4,_⟩:=Sn (env:=X.env) ys zs e;exact VB v.calm h1 (by rw[h3,h2]) h4
theorem lU(v:VX Z CL k W T X)(hf:∀ x,X.fn x=Ab)(hn:(GR ys).isSome=Ab)(h:qm T ts (n9 ys)=Ab):PG X (.Tuple ys kk pos) (gSq X.K ts.length (ts.foldr (λt u=>Lm (G0 t) u) Ly)):=by
 cases e:GR ys with
 |none=>rw[e]at hn;cases hn
 |some zs=>
  have e2:n9 ys=zs:=by unfold n9;rw[e];rfl
  rw[e2]at h;obtain⟨h1,h2⟩:=T8 v hf ys ts zs e h;obtain⟨h3,h4,_⟩:=Sn (env:=X.env) ys zs e;exact wV v.calm h1 (by rw[h3,h2]) h4
theorem lR{e:Aq}(h:(Wh e||CF 4 ys.length)=Ab):HE [.Tuple ys kk pos] e env=pure Ae:=by
 cases e with
 |Tuple vs a b=>
  have h4:=AR (show CF 4 ys.length=Ab from h)
  have e2:(ys.length==2)=Af:=by rw[Bg];omega
  have e3:(ys.length==3)=Af:=by rw[Bg];omega
  unfold HE;dsimp only;rw[e2,e3];rfl
 |_=>rfl
theorem Sv(ts:Ac Ag):∀ d U x,JA ts d U≠.exn x:=λd U x h=>by
 unfold JA at h;cases d with
 |tup xs=>
  dsimp only at h;cases e:IJ ts xs U with
  |some r=>rw[e]at h;cases h
  |none=>rw[e]at h;cases h
 |_=>cases h
theorem cO(ts:Ac Ag):∀ d U x,Ni ts d U≠.exn x:=λd U x h=>by
 unfold Ni at h;split at h
 .split at h<;>cases h
 .exact Sv ts _ U x h
theorem cK{elt:Aq}{gs:Ac JS}{pos':AF}{l:Ag}:∃ b,Dq (.ListComp elt gs scope pos) (Aa (.Name x pos')) l env=pure b/\(b=Ab->env.scope.names.lookup x=Aa .local):=by
 refine⟨_,rfl,λh=>?_⟩
 simp only[Am,AD]at h;exact h.1.1.2
theorem QR{p pos:AF}{v0:Aq}{i:Ag}{e:E}{fr:An}(v:VX Z CL k W T X)(hf:∀ x,X.fn x=Ab)(hi:T.N[i]?=Aa x)(hl:LB T x=Ab)(o:vt Z CL W X v0 e)(xo:fr=Ab->Fn Z e=Ab):gk X CL W fr i (.Assign [.Name x p] v0 pos) (λU=>evE Z U e):=by
 have hN:X.N.Nodup:=by rw[v.N];exact v.nd
 have hi':X.N[i]?=Aa x:=by rw[v.N];exact hi
 have hx:qc X.env.scope x:=by rw[v.sc];exact M1 hl
 have sc:SC X CL W fr v0 (λU=>evE Z U e):=by
  cases fr with
  |false=>exact o.se.sc
  |true=>exact o.nw (xo rfl)
 cases hc:F4 v0 with
 |true=>exact SC.sas hN hi' hx sc (HJ hc) (.inl (hf x))
 |false=>
  obtain⟨tg,iter,elt,ifs,scope,pos2,N',ts,fi,fc,fe,as,g,rfl,B,h2,ue,hg,ht,he,hs,ef⟩:=o.cp hc;obtain⟨b,hb,al⟩:=cK (elt:=elt) (gs:=[⟨tg,iter,ifs,0⟩]) (scope:=scope) (pos:=pos2) (pos':=p) (x:=x) (l:=pos.line) (env:=X.env);cases b with
  |false=>exact SC.sas hN hi' hx sc hb (.inl (hf x))
  |true=>
   have q:=eL (pos2:=pos) v.calm B h2 ue hg ht he hs hN hi' (al rfl) hb;have q':gk X CL W Ab i (.Assign [.Name x p] (.ListComp elt [⟨tg,iter,ifs,0⟩] scope pos2) pos) (λU=>evE Z U e):=by
    have:(λU=>evE Z U e)=_:=funext ef
    rw[this];exact q
   cases fr with
   |true=>exact q'
   | false=>exact λA=>PS.weak (q' A) λD Y H ⟨hA,U,gd,z⟩=>⟨hA,U,gd,by
     dsimp only at z ⊢;cases e0:evE Z U e with
     |ok d=>
      rw[e0]at z;exact λv' H' s' r'=>z v' H' s' ⟨r'.1,λ_=>r'.2 rfl⟩
     |exn y=>rw[e0]at z;exact z
     | bad=>rw[e0]at z;exact z⟩
theorem jA{e t:Aq}{l:Ag}(h:∀ x p,t≠.Name x p):JV [t] e l env=pure Af:=by
 show Dq e (Aa t) l env=pure Af;cases e<;>first|rfl|(cases t<;>first|rfl|exact absurd rfl (h _ _))
theorem S7(U:Rho)(e:E)(h:∀ i,e≠.var i):xz Z U (.ret e)=O.of U (evE Z U e) λd=>.ret d (Fn Z e):=by
 have k:∀ b:An,b=Af->top U e (evE Z U e)=evE Z U e->(O.of U (top U e (evE Z U e)) λd=>.ret d (Fn Z e||b))=O.of U (evE Z U e) λd=>.ret d (Fn Z e):=λb hb ht=>by
  rw[hb,ht];simp only[DQ]
 rw[UY];cases e with
 |var i=>exact absurd rfl (h i)
 |_=>exact k _ rfl rfl
structure qp (X:Cx):Prop where
 fn:∀ x,X.fn x=Ab
 ex:X.ex=[]
 st:X.stack=X.env::X.outer
 fm:X.env.frame=Aa X.env.locals
structure jt (Z:Z4) (CL:ClA) (k:Ag) (n:Ag):Prop where
 s:∀(W:XW)(T:Tc)(X:Cx)(x:AL)(c:S),VX Z CL k W T X->qp X->Ja n T x c=Ab->SS X CL W x (λU=>xz Z U c)
 ss:∀(W:XW)(T:Tc)(X:Cx)(x:Ac AL)(c:Ss),VX Z CL k W T X->qp X->zV n T x c=Ab->wc X CL W x (λU=>Ty Z U c)
theorem VX.pw(v:VX Z CL k W T X)(own:FE (model X.prog X.w) X.A X.env Xw):VX Z CL k W0 T (Cx.pw X pI Xw):=⟨v.sc,v.kd,v.N,v.nd,v.calm,v.room,v.bl,v.os,v.mkr,v.fn,own,QE,RG,v.xt,v.gl,v.ex⟩
theorem STB.congr{st:Ac AL}{f g:Rho->O}(h:STB X CL st f)(e:∀ U,g U=f U):STB X CL st g:=by
 have:g=f:=funext e;rw[this];exact h
theorem IH{i:Ag}{e:Ak}(v:VX Z CL k W T X)(h:xa T x i=Ab):PE (Cx.hot X e) (.Name x pos) (Ch i):=by
 unfold xa at h;simp only[Am,AD]at h;obtain⟨h2,h3,_⟩:=Hf h.2;exact Dw (by show X.N[i]?=_;rw[v.N];exact h.1.1) (by show ó X.env.scope x;rw[v.sc];exact Uh h.1.2) h2 h3
theorem QW{x:Ag}{t:Aq}{c:E}:∀{n:Ag},EU n T x t c=Ab->∀ U r,top U c r=r:=λ{n} h=>by
 cases n with
 |zero=>exact U0 h
 |succ n=>
  cases c with
  |var i=>exact U0 h
  |_=>exact λ_ _=>rfl
theorem fR(v:VX Z CL k W T X)(e:Ak):∀(ts:Ac Aq)(ks:Ac Ki),Rh T ts ks=Ab->∃ cs:Ac (Ag×Ak),ks=cs.map (λq=>Ki.cls q.1)/\cs.length=ts.length/\PA (Cx.hot X e) ts (WO (cs.map λq:Ag×Ak=>q.2))/\∀ q∈cs,M5 X.K CL Z.up q.1 q.2:=by
 intro ts
 induction ts with
 |nil=>
  intro ks h;obtain rfl:=GX h;exact⟨[],rfl,rfl,Ca,λq hq=>nomatch hq⟩
 |cons t ts ih=>
  intro ks h;replace h:=Kk h;obtain⟨kk,ks,rfl,h⟩:=h;replace h:=ER h;obtain⟨t,p,rfl,h⟩:=h;replace h:=Bk h;obtain⟨h,h4⟩:=h;cases kk with
  |cls c=>
   replace h:(ug T.exs t c&&zn T t&&FN t)=Ab:=h;simp only[Am]at h;obtain⟨⟨h1,h2⟩,h3⟩:=h;obtain⟨cs,e1,e2,e3,e4⟩:=ih ks h4;obtain⟨C,m1,m3,_⟩:=v.xt.ex _ (Lc h1);obtain⟨n2,_,_⟩:=Hf h3;refine⟨(c,C)::cs,by rw[e1];rfl,by rw[A8,A8,e2],?_,λq hq=>?_⟩
   .exact Bv (MY (X:=Cx.hot X e) (v:=.ref C) (by unfold zn at h2;show X.env.scope.names.lookup t=_;rw[v.sc];exact eq_of_beq h2) m1 rfl n2) e3 rfl
   .rcases A6.mp hq with rfl|hq
    .exact m3
    .exact e4 q hq
  |_=>exact U0 h
theorem OP{e:Ak}{f:Aq->E->An}(ih:∀ t c,f t c=Ab->SE (Cx.hot X e) CL W0 t (λU=>evE Z U c)):∀(xs:Ac Aq)(es:Es),Nh f xs es=Ab->SA (Cx.hot X e) CL W0 xs (λU=>ye Z U es)/\xs.length=es.len
 |[],.nil,_=>⟨QS,rfl⟩
 |[],.cons _ _,h=>nomatch (show Af=Ab from h)
 |_::_,.nil,h=>nomatch (show Af=Ab from h)
 |x::xs,.cons c es,h=>by
  have h:(D0 x&&f x c&&Nh f xs es)=Ab:=h;simp only[Am]at h;obtain⟨⟨h1,h2⟩,h3⟩:=h;obtain⟨q,l⟩:=OP ih xs es h3;exact⟨Qf (ih x c h2) q (DS h1),by rw[A8,l];rfl⟩
theorem OQ(v:VX Z CL k W T X)(e:Ak)(x:Ag):∀(n:Ag)(t:Aq)(c:E),EU n T x t c=Ab->SE (Cx.hot X e) CL W0 t (λU=>evE Z U c):=by
 intro n
 induction n with
 |zero=>intro t c h;exact U0 h
 |succ n ih=>
  intro t c h;cases c with
  |bl b=>
   replace h:=Km h;obtain⟨k,u,p,rfl,h⟩:=h;obtain rfl:=AN h;exact OH
  |no a=>
   replace h:=MZ h;obtain⟨o,y,p,rfl,h⟩:=h;replace h:=Bk h;obtain⟨h0,h⟩:=h;obtain rfl:=AN h0;have q:=(ih _ _ h).st;refine SE.congr (Vs q) λU=>?_
   show ((top U a (evE Z U a)).bind λx=>(Dz x).bind λb=>R.ok (D.bl (!b)))=_
   rw[QW h]
  |and es=>
   cases es with
   |nil=>exact U0 h
   |cons a as=>
    cases as with
    |nil=>
     replace h:=LZ h;obtain⟨o,l,p,rfl,h⟩:=h;replace h:=Bk h;obtain⟨h0,h⟩:=h;obtain rfl:=AN h0;replace h:=Go h;obtain⟨y,rfl,h⟩:=h;exact SE.congr (QM (ih _ _ h)) λU=>rfl
    |cons a' as=>
     replace h:=LZ h;obtain⟨o,l,p,rfl,h⟩:=h;replace h:=Bk h;obtain⟨h0,h⟩:=h;obtain rfl:=AN h0;replace h:=Kk h;obtain⟨y,l,rfl,h⟩:=h;replace h:=Kk h;obtain⟨z,zs,rfl,h⟩:=h;exact SE.congr (U_7 (ih _ _ (Bk h).1) (ih _ _ (Bk h).2)) λU=>rfl
  |isi a ks=>
   replace h:=MN h;obtain⟨i,rfl,h⟩:=h;replace h:=lF h;obtain⟨g,pp,w,pq,u,pr,rfl,h⟩:=h;simp only[Am,AD]at h;obtain⟨⟨⟨⟨rfl,rfl⟩,h3⟩,h4⟩,h⟩:=h;obtain⟨g1,g2,_,_⟩:=Hj v h3;replace h:=Kk h;obtain⟨kk,ks,rfl,h⟩:=h;cases kk with
   |verr=>
    replace h:=Bk h;obtain⟨h0,h⟩:=h;obtain rfl:=GX h0;replace h:=ER h;obtain⟨t,pt,rfl,h⟩:=h;simp only[Am,AD]at h;obtain⟨h5,h6⟩:=h;obtain⟨b1,b2,_,_⟩:=Hj v h6;rw[h5]at b1 b2 ⊢;exact U_3 (X:=Cx.hot X e) v.xt.xc g1 g2 b1 b2 (HG (IH v h4)) rfl
   |cls c=>
    cases ks with
    |nil=>
     replace h:=ER h;obtain⟨t,pt,rfl,h⟩:=h;simp only[Am]at h;obtain⟨⟨h5,h6⟩,h7⟩:=h;obtain⟨C,m1,m3,_⟩:=v.xt.ex _ (Lc h5);obtain⟨n2,_,_⟩:=Hf h7;exact U_4 (X:=Cx.hot X e) v.xt.xc g1 g2 (by unfold zn at h6;show X.env.scope.names.lookup _=_;rw[v.sc];exact eq_of_beq h6) m1 m3 n2 (HG (IH v h4)) rfl
    |cons k2 ks=>
     replace h:=MO h;obtain⟨ts,z1,z2,rfl,h⟩:=h;replace h:=Bk h;obtain⟨h5,h6⟩:=h;obtain⟨cs,e1,e2,e3,e4⟩:=fR v e _ _ h5;have wz:cs≠[]:=by rintro rfl;cases e1
     rw[e1];exact pO (X:=Cx.hot X e) (W:=W0) (up:=Z.up) v.xt.xc g1 g2 e3 wz (by rw[e2];exact AN h6) e4 (HG (IH v h4)) rfl
   |_=>exact U0 h
  |idx a b=>
   replace h:(match aw (.idx a b),ax t with|some (j,i),Aa (z,y)=>xa T z j&&xa T y i|_,_=>Af)=Ab:=h
   cases h1:aw (.idx a b) with
   |none=>rw[h1]at h;exact U0 h
   |some q1=>
    cases h2:ax t with
    |none=>rw[h1,h2]at h;exact U0 h
    |some q2=>
     rw[h1,h2]at h;obtain⟨h3,h4⟩:=Bk h;obtain⟨p0,p1,p2,k1,p3,p4,p5,e1,hl⟩:=qJ h2;rw[e1,qK h1];refine SE.congr (U_5 (X:=Cx.hot X e) (λ_ _=>rfl) (HG (IH v h3)) (eB (X:=Cx.hot X e) v.room.units (HG (IH v h4)) OH.st (λU e z=>nomatch z) rfl rfl hl rfl).st) λU=>?_
     simp only[NY,KG,yg,R.bind_assoc,R.bind_ok,Vf,VO,N9,Io]
     congr 1;funext x;congr 1;funext y
     cases y<;>rfl
  |call f as=>
   cases as with
   |nil=>exact U0 h
   |cons a as=>
    cases as with
    |cons=>exact U0 h
    |nil=>
    replace h:=MN h;obtain⟨i,rfl,h⟩:=h;replace h:=Kn h;obtain⟨g,p0,l,p2,rfl,h⟩:=h;replace h:=Go h;obtain⟨w,rfl,h⟩:=h;replace h:=ER h;obtain⟨w0,p1,rfl,h⟩:=h;replace h:=Bk h;obtain⟨h1,h4⟩:=h;unfold Xj at h1;simp only[Am,EK,AD]at h1;obtain⟨⟨⟨p,hp,⟨rfl,rfl⟩,hl⟩,g1⟩,g2⟩:=h1;obtain⟨fa,fd,ps,m1,m2,m3,m4,_,m5⟩:=v.fn p hp;have m5:=m5 (by omega)
    obtain⟨n2,_,_⟩:=Hf g2;replace m1:=P9 m1 (Ur g2);have hv:=IH (e:=e) (pos:=p1) v h4;have a1:SA (Cx.hot X e) CL W0 [.Name w0 p1] (λU=>ye Z U (.cons (.var i) .nil)):=Qf (Vp hv) QS rfl
    have a2:uu (Cx.hot X e) CL W0 [.Name w0 p1] (λU=>yg Z U (.cons (.var i) .nil)):=TR (HG hv) UM rfl
    exact(eI (X:=X) (ev:=e) (sh:=λU=>KO U (.cons (.var i) .nil)) m5 v.room (by unfold zn at g1;show X.env.scope.names.lookup p.1=_;rw[v.sc];exact eq_of_beq g1) m1 m2 m3 a1 a2 (λU z=>Q0 Z U _ z) (λU ds z=>by rw[Qt Z U _ _ z,hl];rfl) n2 rfl (λ_=>rfl)).se
  |str s=>
   replace h:=Km h;obtain⟨k,u,p,rfl,h⟩:=h;obtain rfl:=AN h;exact M6
  |lst es=>
   replace h:=P5 h;obtain⟨xs,p,rfl,h⟩:=h;simp only[Am,AG]at h;obtain⟨q,ql⟩:=OP (ih) _ _ h.1;exact(QJ q λU ds z=>by rw[Ky Z U _ _ z,<-ql];omega).se
  |tup es=>
   replace h:=MO h;obtain⟨xs,cc,p,rfl,h⟩:=h;simp only[Am,AG]at h;obtain⟨q,ql⟩:=OP (ih) _ _ h.1;exact Vr q λU ds z=>by rw[Ky Z U _ _ z,<-ql];omega
  |bin op a b=>
   replace h:=Bk h;obtain⟨h0,h⟩:=h;obtain rfl:=AN h0;replace h:=MN h;obtain⟨i,rfl,h⟩:=h;replace h:=Tx h;obtain⟨l,o,y,p,rfl,h⟩:=h;replace h:=Bk h;obtain⟨h0,h⟩:=h;obtain rfl:=AN h0;replace h:=ER h;obtain⟨w,pw,rfl,h⟩:=h;replace h:=Bk h;obtain⟨h1,h2⟩:=h;refine SE.congr (QO (Ql .Add) (HG (IH v h1)) (ih _ _ h2).st) λU=>?_
   show ((Da U i).bind λx=>(top U b (evE Z U b)).bind λy=>Dm .Add x y)=_
   rw[QW h2]
  |fld o f=>
   replace h:=MN h;obtain⟨i,rfl,h⟩:=h;replace h:=K6 h;obtain⟨w,g,p,rfl,h⟩:=h;replace h:=ER h;obtain⟨w,pw,rfl,h⟩:=h;simp only[Am,AD]at h;obtain⟨⟨⟨rfl,rfl⟩,h3⟩,h4⟩:=h;exact UJ (X:=Cx.hot X e) v.xt.xc (λc C z=>v.xt.nf c C z _ h3) (HG (IH v h4)) rfl
  |_=>exact U0 h
theorem Rj(v:VX Z CL k W T X)(e:Ak)(x n:Ag)(y:Aq)(c:E)(h:Me n T x y c=Ab):SB (Cx.hot X e) CL W0 y (λU=>(top U c (evE Z U c)).bind Bs):=by
 have one:∀{y:Aq}{c:E},(Ik y&&EU n T x y c)=Ab->SB (Cx.hot X e) CL W0 y (λU=>(top U c (evE Z U c)).bind Bs):=λ{y c} h=>by
  rw[Am]at h;exact SB.congr (QQ ((OQ v e x n y c h.2).st) (Qd h.1)) λU=>by rw[QW h.2]
 replace h:(hc1 T y c||(IY y λo z=>decide (o=.Not)&&(Lz c λa=>Ik z&&EU n T x z a))||(Ik y&&EU n T x y c))=Ab:=h
 rw[Bool.or_assoc]at h;replace h:=vy h;rcases h with h|h
 .unfold hc1 at h;cases h1:È c with
  |none=>rw[h1]at h;exact U0 h
  |some q1=>
   cases h2:iv y with
   |none=>rw[h1,h2]at h;exact U0 h
   |some q2=>
    rw[h1,h2]at h;obtain⟨h3,h4⟩:=Bk h;have h4:q1.2=q2.2:=AN h4;obtain⟨p1,p2,k1,p3,p4,k2,p5,p6,e1,hl⟩:=qL h2;rw[e1,qM h1,h4];refine SB.congr (Vb (X:=Cx.hot X e) (IG (show (Cx.hot X e).A.units+64<Bx from v.room.units) .NotEq) (bW (X:=Cx.hot X e) v.room.units (HG (IH v h3)) OH rfl rfl hl rfl).st QN.st rfl) λU=>?_
    simp only[Kx,KG,yg,R.bind_assoc,R.bind_ok,Vf,VO,N9,Qc,Qs,Io,N2]
    congr 1;funext x;congr 1;funext y
    have:∀ u v:D,(Cq .NotEq u v).bind Bs=(Cq .NotEq u v).bind Dz:=λu v=>by
     show (if (Y8 5 u&&Y8 5 v)=Ab then R.ok (D.bl (!My u v)) else .bad).bind Bs=(if (Y8 5 u&&Y8 5 v)=Ab then R.ok (D.bl (!My u v)) else .bad).bind Dz
     split<;>rfl
    exact this _ _
 replace h:((IY y λo z=>decide (o=.Not)&&(Lz c λa=>Ik z&&EU n T x z a))||(Ik y&&EU n T x y c))=Ab:=h
 replace h:=vy h;rcases h with h|h
 .replace h:=MZ h;obtain⟨o,z,p,rfl,h⟩:=h;replace h:=Bk h;obtain⟨h0,h⟩:=h;obtain rfl:=AN h0;replace h:=UC h;obtain⟨a,rfl,h⟩:=h
  .skip
   refine SB.ref (Va (one h)) λU=>?_
   show (((top U a (evE Z U a)).bind λx=>(Dz x).bind λb=>R.ok (D.bl (!b))).bind Bs)=.bad\/(((top U a (evE Z U a)).bind λx=>(Dz x).bind λb=>R.ok (D.bl (!b))).bind Bs)=((top U a (evE Z U a)).bind Bs).bind λb=>.ok (!b)
   cases top U a (evE Z U a) with
   |ok d=>cases d<;>first|exact .inl rfl|exact .inr rfl
   |exn y=>exact .inr rfl
   |bad=>exact .inl rfl
 .exact one h
theorem qN(v:VX Z CL k W T X)(e:Ak)(x n:Ag)(pos:AF):∀(ys:Ac Aq)(es:Es),Jy n T x ys es=Ab->ys≠[]->SW (Cx.hot X e) CL W0 (.BoolOp .Or ys pos) (λU=>(evO Z U es).bind Bs):=by
 intro ys
 induction ys with
 |nil=>intro es _ h;exact absurd rfl h
 |cons y ys ih=>
  intro es h _;cases es with
  |nil=>exact U0 h
  |cons c es=>
   replace h:(Me n T x y c&&Jy n T x ys es)=Ab:=h;simp only[Am]at h;obtain⟨h1,h3⟩:=h;have he:=Rj v e x n y c h1;cases ys with
   |nil=>
    cases es with
    |nil=>exact SW.ref (Vk he) (Rf.tru c)
    |cons=>exact absurd (show Af=Ab from h3) Ax
   |cons z zs=>
    cases es with
    |nil=>exact absurd (show Af=Ab from h3) Ax
    |cons c' zi=>exact SW.ref (V6 he (ih (.cons c' zi) h3 (by simp))) (VS c c' zi)
theorem qO(v:VX Z CL k W T X)(e:Ak)(x n:Ag)(pos:AF):∀(ys:Ac Aq)(es:Es),Jy n T x ys es=Ab->ys≠[]->SW (Cx.hot X e) CL W0 (.BoolOp .And ys pos) (λU=>(evN Z U es).bind Bs):=by
 intro ys
 induction ys with
 |nil=>intro es _ h;exact absurd rfl h
 |cons y ys ih=>
  intro es h _;cases es with
  |nil=>exact U0 h
  |cons c es=>
   replace h:(Me n T x y c&&Jy n T x ys es)=Ab:=h;simp only[Am]at h;obtain⟨h1,h3⟩:=h;have he:=Rj v e x n y c h1;cases ys with
   |nil=>
    cases es with
    |nil=>exact SW.ref (Ua he) (Rf.tru c)
    |cons=>exact absurd (show Af=Ab from h3) Ax
   |cons z zs=>
    cases es with
    |nil=>exact absurd (show Af=Ab from h3) Ax
    |cons c' zi=>exact SW.ref (Vl he (ih (.cons c' zi) h3 (by simp))) (VT c c' zi)
theorem uZ(v:VX Z CL k W T X)(e:Ak)(x n:Ag)(t:Aq)(c:E)(h:Wt n T x t c=Ab):SB (Cx.hot X e) CL W0 t (λU=>(top U c (evE Z U c)).bind Bs):=by
 replace h:((IP t λo ys _=>(decide (o=.Or)&&(Mq c λes=>Jy n T x ys es && !ys.isEmpty))||(decide (o=.And)&&(Mj c λes=>Jy n T x ys es && !ys.isEmpty)))||Me n T x t c)=Ab:=h
 replace h:=vy h;rcases h with h|h
 .replace h:=LZ h;obtain⟨o,ys,p,rfl,h⟩:=h;replace h:=vy h;rcases h with h|h
  .replace h:=Bk h;obtain⟨h0,h⟩:=h;obtain rfl:=AN h0;replace h:=UB h;obtain⟨es,rfl,h⟩:=h;simp only[Am,Bf,CN]at h;exact(qN v e x n _ _ _ h.1 h.2).sb
  .replace h:=Bk h;obtain⟨h0,h⟩:=h;obtain rfl:=AN h0;replace h:=TC h;obtain⟨es,rfl,h⟩:=h;simp only[Am,Bf,CN]at h;exact(qO v e x n _ _ _ h.1 h.2).sb
 .exact Rj v e x n _ c h
theorem OO(v:VX Z CL k W T X)(hf:qp X)(e:Ak)(x:Ag):∀(n:Ag)(wb:Ac AL)(ss:Ss),Lo n T x wb ss=Ab->wc (Cx.hot X e) CL W0 wb (λU=>Ty Z U ss):=by
 intro n
 induction n with
 |zero=>intro t c h;exact U0 h
 |succ n ih=>
  intro wb jh h;cases jh with
  |nil=>
   obtain rfl:=GX h;exact Qe
  |cons s jh=>
   replace h:=Kk h;obtain⟨st,r,rfl,h⟩:=h;replace h:=Bk h;obtain⟨h,h5⟩:=h;cases s with
   |asg i b e0=>
    replace h:=Tz h;obtain⟨y,py,v0,pos,rfl,h⟩:=h;simp only[Am,AD]at h;obtain⟨⟨⟨⟨h1,h2⟩,h3⟩,h4⟩,h6⟩:=h;cases b with
    |true=>
     cases e0 with
     |lst es=>
      have sc:SC (Cx.hot X e) CL W0 Ab v0 (λU=>evE Z U (.lst es)):=by
       cases n with
       |zero=>exact absurd (show Af=Ab from h4) Ax
       |succ n=>
        replace h4:=P5 h4;obtain⟨l,pl,rfl,h4⟩:=h4;obtain⟨q,ql⟩:=OP (OQ v e x n) _ _ (Bk h4).1;have hle:=AN (Bk h4).2;exact QJ q λU ds z=>by rw[Ky Z U _ _ z,<-ql];omega
      have q:=LY (UG (SC.sas (X:=Cx.hot X e) (pos:=pos) (pos':=py) (by show X.N.Nodup;rw[v.N];exact v.nd) (by show X.N[i]?=_;rw[v.N];exact h1) (by show qc X.env.scope _;rw[v.sc];exact M1 h2) sc (HJ h3) (.inl (hf.fn _)))) (ih _ _ h5)
      have ef:(λU=>Ty Z U (.cons (.asg i Ab (.lst es)) jh))=λU=>(O.of U (evE Z U (.lst es)) λd=>setF U i d).seq λU=>Ty Z U jh:=by
       funext U
       show (xz Z U (.asg i Ab (.lst es))).seq _=_;rw[cX];rfl
      rw[ef];exact q
     |_=>exact absurd (show Af=Ab from h6) Ax
    |false=>
    exact LY (pA (X:=Cx.hot X e) (by show X.N.Nodup;rw[v.N];exact v.nd) (by show X.N[_]?=_;rw[v.N];exact h1) (by show qc X.env.scope _;rw[v.sc];exact M1 h2) (OQ v e x n _ _ h4) (HJ h3) (.inl (hf.fn _))) (ih _ _ h5)
   |ife c a b=>
    cases b with
    |cons=>exact U0 h
    |nil=>
    replace h:=UD h;obtain⟨t,xs,ys,pos,rfl,h⟩:=h;replace h:=Bk h;obtain⟨h0,h⟩:=h;obtain rfl:=GX h0;replace h:=Bk h;obtain⟨h1,h2⟩:=h;exact LY (V7 (X:=Cx.hot X e) (uZ v e x n _ _ h1) (ih _ _ h2) Qe) (ih _ _ h5)
   |ret e0=>
    replace h:=TZ h;obtain⟨o,pos,rfl,h⟩:=h;cases o with
    |none=>exact U0 h
    |some v0=>
    replace h:((KM e0 λi=>Ep v0 λy=>xa T y i)||(Xf e0&&EU n T x v0 e0))=Ab:=h
    replace h:=vy h;rcases h with h|h
    .replace h:=MN h;obtain⟨i,rfl,h⟩:=h;replace h:=ER h;obtain⟨y,py,rfl,h⟩:=h;exact LY (Ub (X:=Cx.hot X e) (pos:=pos) (IH v h)) (ih _ _ h5)
    replace h:=Bk h;obtain⟨h0,h1⟩:=h;have q:=LY (Uc (X:=Cx.hot X e) (pos:=pos) (OQ v e x n _ _ h1)) (ih _ _ h5);have ef:(λU=>Ty Z U (.cons (.ret e0) jh))=λU=>(O.of U (evE Z U e0) λd=>O.ret d Af).seq λU=>Ty Z U jh:=by
     funext U
     cases e0<;>first|rfl|(cases h0;done)
    rw[ef];exact q
   |app i e0=>exact absurd (show Af=Ab from h) Ax
   |_=>exact U0 h
theorem QX{g:Ah}{c:Ag}(v:VX Z CL k W T X)(h:ao T g c=Ab):Pc X CL Z.up g c:=by
 unfold ao at h;simp only[Am]at h;obtain⟨⟨⟨i1,i0⟩,i2⟩,i3⟩:=h;obtain⟨C,m1,m3,m4⟩:=v.xt.ex _ (Lc i1);obtain⟨C0,r1,r2⟩:=v.xt.rz _ (Lc i0);obtain⟨n2,_,_⟩:=Hf i3;refine⟨C,by unfold zn at i2;show X.env.scope.names.lookup g=_;rw[v.sc];exact eq_of_beq i2,m1,n2,?_,λc' D hD=>m4 c' D hD⟩
 have e0:=m1.symm.trans r2;cases e0;exact v.xt.xc _ _ r1
theorem uR(Z_:jt Z CL k n)(W:XW)(T:Tc)(X:Cx)(st:AL)(c:S)(v:VX Z CL k W T X)(hf:qp X)(h:Ja (n+1) T st c=Ab):SS X CL W st (λU=>xz Z U c):=by
  have E:=zp (Z:=Z) (CL:=CL) (k:=k) n;cases c with
  |pass=>exact absurd (show Af=Ab from h) Ax
  |brk=>exact absurd (show Af=Ab from h) Ax
  |cont=>exact absurd (show Af=Ab from h) Ax
  |asg i fresh e=>
    replace h:=Tz h;obtain⟨x,px,v0,pos,rfl,h⟩:=h;simp only[Am,AD]at h;obtain⟨⟨h1,h2⟩,h3⟩:=h;have o:=E.e W T X _ e v h3;cases fresh with
    |false=>exact Vo (QR (fr:=Af) v hf.fn h1 h2 o (λz=>nomatch z))
    |true=>
      cases hn:Fn Z e with
      |true=>
        refine SS.ref (UG (QR (fr:=Ab) v hf.fn h1 h2 o (λ_=>hn))) λU=>.inr ?_
        show O.of U (evE Z U e) (λd=>if Ab=Ab then (if Fn Z e=Ab then (match d with
          |.lst xs=>.next (U.set i (Aa (.lst xs,Ab)))
          |.dic xs=>.next (U.set i (Aa (.dic xs,Ab)))
          | _=>.bad) else .bad) else .next (U.set i (Aa (d,Af))))=_
        rw[hn];rfl
      |false=>
        refine SS.ref (Vo (QR (fr:=Af) v hf.fn h1 h2 o (λz=>nomatch z))) λU=>?_
        have e0:xz Z U (.asg i Ab e)=O.of U (evE Z U e) (λd=>if Ab=Ab then (if Fn Z e=Ab then (match d with
          |.lst xs=>.next (U.set i (Aa (.lst xs,Ab)))
          |.dic xs=>.next (U.set i (Aa (.dic xs,Ab)))
          | _=>.bad) else .bad) else .next (U.set i (Aa (d,Af)))):=rfl
        rw[e0,hn];cases evE Z U e with
        |ok d=>exact .inl rfl
        |exn y=>exact .inr rfl
        |bad=>exact .inl rfl
  |asgT ts e=>
    replace h:=TB h;obtain⟨t,v0,pos,rfl,h⟩:=h;replace h:=MO h;obtain⟨ys,cc,pw,rfl,h⟩:=h;simp only[Am]at h;obtain⟨⟨⟨h1,h2⟩,h3⟩,h5⟩:=h;exact iX (vA ts) (lU v hf.fn h1 h2) (E.e W T X _ e v h5).se (jA (λ_ _ z=>by cases z)) (lR h3) rfl (cO ts)
  |expr e=>
    replace h:=T5 h;obtain⟨v0,pos,rfl,h⟩:=h;simp only[Am]at h;exact iW (E.e W T X _ e v h.2).se (HJ h.1)
  |ret e=>
    replace h:=TZ h;obtain⟨o,pos,rfl,h⟩:=h;cases o with
    |none=>exact U0 h
    |some v0=>
    replace h:Be n T v0 e=Ab:=h;have o:=E.e W T X _ e v h;cases hv:Fn Z e with
    |true=>
      refine SS.ref (iV (o.nw hv)) λU=>.inr ?_
      rw[S7 U e (λi z=>by subst z;cases hv),hv]
    |false=>
      cases e with
      |var i=>
        cases n with
        |zero=>exact U0 h
        |succ n=>
          replace h:=ER h;obtain⟨y,py,rfl,h⟩:=h;exact Ub (L9 v h)
      |_=>
        refine SS.ref (Uc o.se) λU=>.inr ?_
        rw[S7 U _ (by intro i z;cases z),hv]
  |retN=>exact absurd (show Af=Ab from h) Ax
  |ife c a b=>
    replace h:=UD h;obtain⟨t,xs,ys,pos,rfl,h⟩:=h;simp only[Am]at h;exact V7 (E.b W T X _ c v h.1.1) (Z_.ss W T X _ a v hf h.1.2) (Z_.ss W T X _ b v hf h.2)
  |fors t it body=>
    replace h:=T4 h;obtain⟨tg,it',xs,ys,pos,rfl,h⟩:=h;replace h:=Bk h;obtain⟨hn,h⟩:=h;obtain rfl:=GX hn;replace h:=ER h;obtain⟨y,py,rfl,h⟩:=h;simp only[Am]at h;obtain⟨⟨⟨h1,h2⟩,h3⟩,h4⟩:=h;exact Vn v.own v.calm (kM t) (fX v hf.fn h1) (E.i W T X Af _ _ it v rfl h3) (Z_.ss W T X _ body v hf h4) (QL h2) (λ_ _ _ z=>nomatch z)
  |forT ts it body=>
    replace h:=T4 h;obtain⟨tg,it',xs,zs,pos,rfl,h⟩:=h;replace h:=Bk h;obtain⟨hn,h⟩:=h;obtain rfl:=GX hn;replace h:=MO h;obtain⟨ys,cc,py,rfl,h⟩:=h;simp only[Am]at h;obtain⟨⟨⟨⟨h0,h1⟩,h2⟩,h3⟩,h4⟩:=h;exact Vn v.own v.calm (VL ts) (fW v hf.fn h0 h1) (E.i W T X Ab _ _ it v rfl h3) (Z_.ss W T X _ body v hf h4) (QL h2) (Sv ts)
  |forO i ts body=>exact absurd (show Af=Ab from h) Ax
  |whl c body=>exact absurd (show Af=Ab from h) Ax
  |rais c as=>
    replace h:(!(T.rzs.any λp=>p.2==c)||(Os st λa b=>b.isNone&&(match a with|some e=>L7 e λg x xs=>ug T.rzs g c&&zn T g&&FN g&&decide (xs.length<=1000)&&Cl n T (x::xs) as|none=>Af)))=Ab:=h
    cases hc:T.rzs.any (λp=>p.2==c) with
    |false=>
      have hb:∀ ds,Z.xn c ds=.bad:=v.xt.xb c λp hp z=>by
        have:T.rzs.any (λp=>p.2==c)=Ab:=List.any_eq_true.mpr ⟨p,hp,AD.mpr z⟩
        rw[hc]at this;cases this
      intro Fz B pI s Y H D I ⟨U,x,p⟩;have p':B4 X.K CL Fz B W (O.of U (zk (ye Z U as)) λxs=>O.of U (Z.xn c xs) λx=>.exn x U) D:=p
      cases e1:ye Z U as with
      |bad=>rw[e1]at p';exact p'.elim
      |exn y=>rw[e1]at p';exact p'.elim
      |ok ds=>
        rw[e1]at p';have p2:B4 X.K CL Fz B W (O.of U (Z.xn c ds) λx=>.exn x U) D:=p'
        rw[hb ds]at p2;exact p2.elim
    |true=>
      rw[hc,Bool.not_true,Bool.false_or]at h;replace h:=dH h;obtain⟨ea,eb,pos,rfl,h⟩:=h;replace h:=Bk h;obtain⟨h0,h⟩:=h;obtain rfl:=DX.mp h0;cases ea with
      |none=>exact U0 h
      |some e0=>
        replace h:=NN h;obtain⟨g,np,x,xs,cpos,rfl,h⟩:=h;simp only[Am,AG]at h;obtain⟨⟨⟨⟨h1,h2⟩,h3⟩,h4⟩,h5⟩:=h;obtain⟨C,m1,m2⟩:=v.xt.rz _ (Lc h1);obtain⟨n2,_,_⟩:=Hf h3;obtain⟨s0,e,zi,rfl,m,rfl,s1⟩:=MJ h5;have q:=E.es W T X _ _ v h5;exact bT v.calm hf.ex v.room v.rz (by unfold zn at h2;show X.env.scope.names.lookup g=_;rw[v.sc];exact eq_of_beq h2) m2 n2 m1 q.1 (λds=>v.xt.made c C ds m1) (DS s0) (NR m xs zi s1) (λU ds z=>by rw[Ky Z U _ _ z,<-q.2.2.1,A8];omega)
  |app i e=>
    replace h:=dI h;obtain⟨x,px,m,ap,l,cp,pos,rfl,h2,h⟩:=h;replace h:=Go h;obtain⟨v0,rfl,h⟩:=h;simp only[Am,AD]at h;obtain⟨⟨⟨rfl,h1⟩,h3⟩,h4⟩:=h;exact pB (L9 v h1) (E.e W T X _ e v h4).se rfl (by rw[DS h3];rfl) (by rw[h2];exact BE _) (DS h3) rfl
  |ext i e=>exact absurd (show Af=Ab from h) Ax
  |rev i=>exact absurd (show Af=Ab from h) Ax
  |clr i=>exact absurd (show Af=Ab from h) Ax
  |put i k e=>exact absurd (show Af=Ab from h) Ax
  |tryx body c x hh=>exact absurd (show Af=Ab from h) Ax
  |try2 body c x hd c' m9 els=>exact absurd (show Af=Ab from h) Ax
  |swp i k l=>exact absurd (show Af=Ab from h) Ax
  |apop j i e=>exact absurd (show Af=Ab from h) Ax
  |ins i k e=>exact absurd (show Af=Ab from h) Ax
  |dput=>exact U0 h
  |dsd=>exact U0 h
  |rel=>exact U0 h
theorem fA{c:Ss}(h:O0 c=Ab)(U:Rho):Ty Z U c=.bad:=by
 cases c with
 |nil=>cases h
 |cons s ss=>
  cases s with
  |expr e=>
   cases e with
   |bi b as=>
    cases as with
    |nil=>
     cases b with
     |len=>rfl
     |_=>exact U0 h
    |cons=>cases b<;>exact U0 h
   |_=>exact U0 h
  |_=>exact U0 h
theorem oX(Z_:jt Z CL k n)(W:XW)(T:Tc)(X:Cx)(xs:Ac AL)(c:Ss)(v:VX Z CL k W T X)(hf:qp X)(h:zV (n+1) T xs c=Ab):wc X CL W xs (λU=>Ty Z U c):=by
 by_cases hb:O0 c=Ab
 .exact λFz B pI s Y H D I ⟨U,x,p⟩=>by
   dsimp only at p;rw[fA hb]at p;exact p.elim
 have hb:O0 c=Af:=by simpa using hb
 cases c with
 |nil=>
  simp only[zV,hb,DQ,List.isEmpty_iff]at h;subst h;exact Qe
 |cons s ss=>
  by_cases hr:∃ i,s=.rel i
  .obtain⟨i,rfl⟩:=hr;simp only[zV,hb,DQ]at h;exact iU i (Z_.ss W T X xs ss v hf h)
  .cases xs with
   |nil=>cases s<;>first|(simp[zV,hb]at h;done)|exact absurd ⟨_,rfl⟩ hr
   |cons st r=>
    have h':Ja n T st s=Ab/\zV n T r ss=Ab:=by
     cases s<;>first|(simp only[zV,hb,DQ,Am]at h;exact h)|exact absurd ⟨_,rfl⟩ hr
    exact LY (Z_.s W T X st s v hf h'.1) (Z_.ss W T X r ss v hf h'.2)
theorem IW:∀ n,jt Z CL k n
 |0=>⟨λ_ _ _ _ _ _ _ h=>U0 h,λ_ _ _ _ _ _ _ h=>U0 h⟩
 |n+1=>⟨uR (IW n),oX (IW n)⟩
end
theorem LU{n:Ag}{ds:Ac D}{i:Ag}{d:D}{o:An}(h:(Bw n ds)[i]?=Aa (Aa (d,o))):o=Af/\ds[i]?=Aa d:=by
 unfold Bw at h;by_cases hi:i<ds.length
 .rw[Fp (by simpa using hi),Ev]at h
  cases e:ds[i]? with
  |none=>rw[e]at h;cases h
  |some x=>rw[e]at h;cases h;exact⟨rfl,rfl⟩
 .rw[XV (by simpa using Nat.le_of_not_lt hi),XX]at h
  split at h<;>cases h
theorem aJ{N:Ac Ah}{vs:Ac V}{i:Ag}{v:V}(h:vs[i]?=Aa v):(L2.start N vs)[i]?=Aa (Aa v):=by
 unfold L2.start;have hi:=(A5.mp h).1;rw[Fp (by simpa using hi),Ev,h]
 rfl
theorem TQ{N:Ac Ah}{n:Ag}{vs:Ac V}{ds:Ac D}(hn:N.length=n)(hA:Tm H A)(r:Z9 K CL H A vs ds):Sx K CL ⟨λb o=>H b=Aa o,λ_ _ _=>AM⟩ A (Bw n ds) (L2.start N vs) H:=by
 have own:∀ a,BN A (Bw n ds) (L2.start N vs) a->A a:=λa h=>by
  rcases h with h|⟨j,d,h,_⟩
  .exact h
  .exact absurd (LU h).1 (by decide)
 have U8:(Bw n ds).length=(L2.start N vs).length:=by
  unfold Bw L2.start;simp only[BV,Bc,X4,r.length,hn]
 refine⟨⟨λi d h=>?_,λi d h _=>absurd (LU h).1 (by decide),U8⟩,λa h=>hA a (own a h),λj d a h _=>absurd (LU h).1 (by decide),λi j d e a h _ _ _=>absurd (LU h).1 (by decide),λb o h=>h,U8,λj h=>absurd (LU h).1 (by decide)⟩
 obtain⟨v,h1,h2⟩:=r.get (LU h).2;exact⟨v,aJ h1,Z7.sub own _ h2⟩
structure zf (K:Fg) (x qual:Ah) (st:AL) (f:Ak) (fd:Bi):Prop where
 ex:∃(oc:Al)(od:Ao Ak)(dV kV doc pm:Al)(an:Ao Ak)(cdv ct:Al)(osl:Bl (Ao Al)),
  fd=B2 x qual (Hg st) (Dh st) (AH st) dV kV doc pm an cdv ct/\K.lookup f=Aa ⟨oc,od,.func fd,osl⟩/\DE K cdv qual=Ab
 kp:Ba K (.ref f)=Ab
theorem Hl{st:AL}{f:Ak}(F:qr K x qual st f fd):zf K x qual st f fd:=by
 obtain⟨oc,od,kV,doc,pm,an,cdv,ct,osl,e,lk,zy⟩:=F.ex;exact⟨⟨oc,od,.none,kV,doc,pm,an,cdv,ct,osl,e,lk,zy⟩,F.kp⟩
def KP(K:Fg)(mg:Ah->Ao Al)(fns:Ac (Ah×Ag×Ag))(bl:Ac Ah)(rzs exs gls:Ac (Ah×Ag))(Pg:Prg)(fuel:Ag)(p:Ah×Ag×Ag):Prop:=∃ f fd ps qual st N,IQ K mg p.1=Aa (.ref f)/\(∃ x,zf K x qual st f fd)/\CV K fd ps []/\ps.length=p.2.2%1000/\Gw fuel (CF 1000 p.2.2) fns bl rzs exs gls ps N st (Pg.defs p.2.1)=Ab
noncomputable def Q5:AL->Ao (Aq×Aq×AF)
  | .Assign ts v p=>(match ts with
    |[t]=>Aa (t,v,p)
    | _=>Ae)
  |_=>Ae
theorem TK{e:AL}{t:Aq×Aq×AF}(h:Q5 e=Aa t):e=.Assign [t.1] t.2.1 t.2.2:=by
 cases e with
 |Assign ts v p=>
  cases ts with
  |nil=>exact nomatch (show Ae=Aa t from h)
  |cons a ts=>
   cases ts with
   |nil=>cases h;rfl
   |cons=>exact nomatch (show Ae=Aa t from h)
 |_=>exact nomatch (show Ae=Aa t from h)
noncomputable def Q4:Aq->Ao (Aq×Ah×AF)
 |.Attribute e x p=>Aa (e,x,p)
 |_=>Ae
theorem TJ{e:Aq}{t:Aq×Ah×AF}(h:Q4 e=Aa t):e=.Attribute t.1 t.2.1 t.2.2:=by
 cases e with
 |Attribute e x p=>cases h;rfl
 |_=>exact nomatch (show Ae=Aa t from h)
noncomputable def W6(n:Ag)(T:Tc)(b:Ac AL):Ao Ea:=(Nn b).bind λs=>(Q5 s.1).bind λt1=>(Q4 t1.1).bind λa1=>(IT a1.1).bind λs1=>(IT t1.2.1).bind λq1=>(Q5 s.2).bind λt2=>(Q4 t2.1).bind λa2=>(IT a2.1).bind λs2=>
 if (s1.1==("self" : Ah)&&(a1.2.1==("p" : Ah)&&(q1.1==("p" : Ah)&&(s2.1==("self" : Ah)&&(a2.2.1==("triple" : Ah)&&(F4 t2.2.1&&Be n T t2.2.1 (.call 17 (.cons (.var 1) (.cons (.var 2) .nil)))))))))=Ab then Aa () else Ae
theorem lI{n:Ag}{T:Tc}{b:Ac AL}{u:Ea}(h:W6 n T b=Aa u):∃ p0 p1 p2 p3 p4 p5 p6 ev,b=[.Assign [.Attribute (.Name "self" p0) "p" p1] (.Name "p" p2) p6,.Assign [.Attribute (.Name "self" p3) "triple" p4] ev p5]/\F4 ev=Ab/\Be n T ev (.call 17 (.cons (.var 1) (.cons (.var 2) .nil)))=Ab:=by
 obtain⟨s,e1,h⟩:=AC.mp h;obtain⟨t1,e2,h⟩:=AC.mp h;obtain⟨a1,e3,h⟩:=AC.mp h;obtain⟨s1,e4,h⟩:=AC.mp h;obtain⟨q1,e5,h⟩:=AC.mp h;obtain⟨t2,e6,h⟩:=AC.mp h;obtain⟨a2,e7,h⟩:=AC.mp h;obtain⟨s2,e8,h⟩:=AC.mp h;split at h
 .rename_i hc;simp only[Am,AD]at hc;obtain⟨c1,c2,c3,c4,c5,c6,c7⟩:=hc;rw[N1 e1,TK e2,TJ e3,Jt e4,Jt e5,TK e6,TJ e7,Jt e8,c1,c2,c3,c4,c5];exact⟨_,_,_,_,_,_,_,_,rfl,c6,c7⟩
 .cases h
noncomputable def Nt(fuel:Ag)(fns:Ac (Ah×Ag×Ag))(bl:Ac Ah)(rzs exs gls:Ac (Ah×Ag))(st:AL):An:=
 (AH st).kind==.function&&((AH st).isCoroutine==Af&&((AH st).isGenerator==Af&&((AH st).names.lookup ("self" : Ah)==Aa .local&&((AH st).names.lookup ("p" : Ah)==Aa .local&&((AH st).names.lookup ("numbers" : Ah)==Aa .local&&(((AH st).names.all λy=>y.2 != .free) &&
  (W6 fuel ⟨AH st,["self", "p", "numbers"],fns,bl,rzs,exs,gls,Ab⟩ (Dh st)).isSome))))))
noncomputable def HN(s:AL)(j:Ag):AL:=match s with
  |.ClassDef _ _ _ b _ _ _ _ _ _ _=>b.getD j s
  |s=>s
def InR(K:Fg)(fns:Ac (Ah×Ag×Ag))(bl:Ac Ah)(rzs exs gls:Ac (Ah×Ag))(Pg:Prg)(fuel:Ag):Prop:=(∀ c,c<3->Pg.defs (900+c)=uh c)/\Pg.defs 910=kx/\∃ f fd x qual st,zf K x qual st f fd/\CV K fd ["self", "p", "numbers"] []/\Nt fuel fns bl rzs exs gls st=Ab/\∀ c,c<3->∃ C,OC K c=Aa C/\Mk K C f
structure ww (K:Fg) (mg:Ah->Ao Al) (CL:ClA) (fns:Ac (Ah×Ag×Ag)) (bl:Ac Ah) (rzs exs gls:Ac (Ah×Ag)) (Pg:Prg) (fuel:Ag):Prop where
 os:OS K mg
 ini:InR K fns bl rzs exs gls Pg fuel
 xt:XT Pg.up Pg.xn CL rzs exs K mg
 bln:∀ x,x∈bl->mg x=Ae
 gl:∀ p∈gls,JL K mg CL p.1 (Pg.G p.2)
 fn:∀ p∈fns,KP K mg fns bl rzs exs gls Pg fuel p
theorem Oh(Pg:Prg)(n i:Ag):(Z6 Pg n).fr i=(Pg.defs i).fr:=by cases n<;>rfl
theorem KD(Pg:Prg)(n:Ag):(Z6 Pg n).up=Pg.up:=by cases n<;>rfl
theorem KH(Pg:Prg)(n:Ag):(Z6 Pg n).G=Pg.G:=by cases n<;>rfl
theorem Ld(Pg:Prg)(n:Ag):(Z6 Pg n).xn=Pg.xn:=by cases n<;>rfl
section
variable{P:AK}{w:AI}{K:Fg}{mg:Ah->Ao Al}{base:AJ}{CL:ClA}{fns:Ac (Ah×Ag×Ag)}{bl:Ac Ah}{rzs exs gls:Ac (Ah×Ag)}{Pg:Prg}{fuel:Ag}
def jm(P:AK)(w:AI)(K:Fg)(mg:Ah->Ao Al)(base:AJ)(CL:ClA)(Pg:Prg)(n:Ag)(p:Ah×Ag×Ag):Prop:=∃ f fd ps,IQ K mg p.1=Aa (.ref f)/\Ba K (.ref f)=Ab/\CV K fd ps []/\ps.length=p.2.2%1000/\(p.2.2<1000->Y4 P w K mg base (CXR P w) n f fd ps (spD K CL (p.2.2%1000) ((Z6 Pg n).fr p.2.1) ((Z6 Pg n).F p.2.1)))/\(1000<=p.2.2->xk P w K mg base n f fd ps (spH K CL (p.2.2%1000) ((Z6 Pg n).fr p.2.1) ((Z6 Pg n).F p.2.1)))
theorem rX(t:ww K mg CL fns bl rzs exs gls Pg fuel){n:Ag}(km:∀ q∈fns,jm P w K mg base CL Pg n q)(bf:∀ c,c<3->gh P w K mg base CL (Z6 Pg n).F n c){st:AL}{f:Ak}{ps N:Ac Ah}{m id:Ag}(h2:zf K x qual st f fd)(h4:ps.length=m)(h5:Gw fuel Af fns bl rzs exs gls ps N st (Pg.defs id)=Ab):Y4 P w K mg base (CXR P w) (n+1) f fd ps (spD K CL m ((Z6 Pg (n+1)).fr id) ((Z6 Pg (n+1)).F id)):=by
  unfold Gw at h5;simp only[Am,AD,Bf,Bh,BX,EZ,JP]at h5;obtain⟨⟨⟨⟨⟨⟨⟨⟨c1,c2⟩,c3⟩,c4⟩,c5⟩,c6⟩,c7⟩,c8⟩,c9⟩:=h5;obtain⟨oc,od,dV,kV,doc,pm,an,cdv,ct,osl,rfl,lk,zy⟩:=h2.ex;refine Hm (N:=N) lk zy ⟨c1,c2,c3,IF c4,c5,c6,c7⟩ (λvs H Q E ⟨ds,A,z,_⟩=>z.trans h4.symm) λA outer s H vs Q E hr ⟨ds,B,hl,hA,wt,Z0⟩=>?_
  have xt:XT (Z6 Pg n).up (Z6 Pg n).xn CL rzs exs K mg:=by rw[KD,Ld];exact t.xt
  have gl:∀ p∈gls,JL K mg CL p.1 ((Z6 Pg n).G p.2):=by rw[KH];exact t.gl
  have key:∀ W:XW,(∀ x cls dx H',W x H'->Dy K CL H' cls dx x->E cls dx H')->B4 K CL ⟨λb o=>H b=Aa o,λ_ _ _=>AM⟩ B W (Ty (Z6 Pg n) (Bw (Pg.defs id).n ds) (Pg.defs id).body) {nx:=λ_ H'=>Q .non H',rt:=Q} ->
      ∃ t,yp (B1 (CXR P w) P w K mg base N qual (AH st) f cdv A outer s H E) (Dh st) t/\t {nx:=λ_ H'=>Q .non H',rt:=Q} (start N vs) H:=λW hW hp=>by
    have v:VX (Z6 Pg n) CL n W ⟨AH st,N,fns,bl,rzs,exs,gls,Ab⟩ (B1 (CXR P w) P w K mg base N qual (AH st) f cdv A outer s H E):=⟨rfl,c1,rfl,IF c4,rfl,hr,t.bln,t.os,bf,km,sy,OK hW,Þ hW,xt,gl,λ_=>rfl⟩
    exact⟨_,(IW fuel).ss W _ _ _ (Pg.defs id).body v ⟨λ_=>rfl,rfl,rfl,rfl⟩ c9 ⟨λb o=>H b=Aa o,λ_ _ _=>AM⟩ B,_,TQ c8 hA wt,hp⟩
  have no:∀ x cls dx H',W0 x H'->Dy K CL H' cls dx x->E cls dx H':=λ_ _ _ _ z=>z.elim
  have e:(Z6 Pg (n+1)).F id ds=Et Pg.xs ((Ty (Z6 Pg n) (Bw (Pg.defs id).n ds) (Pg.defs id).body).ans (Pg.defs id).fr):=rfl;rw[e,Oh]at Z0;have zb:∀ r:R D,(∀ x,r≠.exn x)->Et Pg.xs r=r:=λr hr=>by
    cases Pg.xs<;>cases r<;>first|rfl|exact absurd rfl (hr _)
  cases eo:Ty (Z6 Pg n) (Bw (Pg.defs id).n ds) (Pg.defs id).body with
  |next U'=>
    refine key W0 no ?_;rw[eo]at Z0 ⊢;cases ef:(Pg.defs id).fr with
    |true=>rw[ef]at Z0;rw[zb _ (by intro x z;cases z)]at Z0;exact Z0.elim
    |false=>
      rw[ef]at Z0;rw[zb _ (by intro x z;cases z)]at Z0
      exact λY' H' x'=>Z0 .non H' (λb o z=>x'.same b o z) ⟨rfl,λz=>nomatch z⟩
  |ret d b=>
    refine key W0 no ?_;rw[eo]at Z0 ⊢;intro v H' sm rp fr;have zZ:(match Et Pg.xs (if ((Pg.defs id).fr&&(!b&&bx d))=Ab then R.bad else R.ok d) with
      |.ok d=>∀ v H',Az H H'->Cw K CL (Pg.defs id).fr H B H' v d->Q v H'
      |.exn x=>∀ cls dx H',Az H H'->Dy K CL H' cls dx x->E cls dx H'
      | .bad=>AM):=Z0
    cases ec:((Pg.defs id).fr&&(!b&&bx d)) with
    |true=>rw[ec,Au rfl,zb _ (by intro x z;cases z)]at zZ;exact zZ.elim
    |false=>
      rw[ec,Ay (by decide),zb _ (by intro x z;cases z)]at zZ
      refine zZ v H' sm ⟨rp,λefr es hd=>?_⟩
      subst hd;have eb:b=Ab:=by
        cases b with
        |true=>rfl
        |false=>rw[efr]at ec;cases ec
      obtain⟨a,xs,h1,h2,h3,h4⟩:=fr eb es rfl;refine⟨a,xs,h1,?_,h3,h4⟩;cases ha:H a with
      |none=>rfl
      |some o=>exact absurd ha (h2 o)
  |brk U'=>rw[eo]at Z0;have zZ:(match Et Pg.xs (R.bad:R D) with | .ok _=>_ | .exn _=>_ | .bad=>AM):=Z0;rw[zb _ (by intro x z;cases z)]at zZ;exact zZ.elim
  |cont U'=>rw[eo]at Z0;have zZ:(match Et Pg.xs (R.bad:R D) with | .ok _=>_ | .exn _=>_ | .bad=>AM):=Z0;rw[zb _ (by intro x z;cases z)]at zZ;exact zZ.elim
  |bad=>rw[eo]at Z0;have zZ:(match Et Pg.xs (R.bad:R D) with | .ok _=>_ | .exn _=>_ | .bad=>AM):=Z0;rw[zb _ (by intro x z;cases z)]at zZ;exact zZ.elim
  |exn x U'=>
    rw[eo]at Z0;have zZ:(match Et Pg.xs (R.exn x:R D) with
      |.ok d=>∀ v H',Az H H'->Cw K CL (Pg.defs id).fr H B H' v d->Q v H'
      |.exn x=>∀ cls dx H',Az H H'->Dy K CL H' cls dx x->E cls dx H'
      | .bad=>AM):=Z0
    cases ex:Pg.xs with
    |false=>rw[ex]at zZ;exact zZ.elim
    |true=>
      rw[ex]at zZ;have hp3:∀ cls dx H',Az H H'->Dy K CL H' cls dx x->E cls dx H':=zZ;refine key (λy H'=>y=x/\Az H H') (λy cls dx H' ⟨e1,sm⟩ xr=>?_) ?_
      · subst e1;exact hp3 cls dx H' sm xr
      · rw[eo];exact λH' sm=>⟨rfl,sm⟩
theorem qH(t:ww K mg CL fns bl rzs exs gls Pg fuel){n:Ag}(km:∀ q∈fns,jm P w K mg base CL Pg n q)(bf:∀ c,c<3->gh P w K mg base CL (Z6 Pg n).F n c){st:AL}{f:Ak}{ps N:Ac Ah}{m id:Ag}(h2:zf K x qual st f fd)(h4:ps.length=m)(h5:Gw fuel Ab fns bl rzs exs gls ps N st (Pg.defs id)=Ab):xk P w K mg base (n+1) f fd ps (spH K CL m ((Z6 Pg (n+1)).fr id) ((Z6 Pg (n+1)).F id)):=by
  unfold Gw at h5;simp only[Am,AD,Bf,Bh,BX,EZ,JP]at h5;obtain⟨⟨⟨⟨⟨⟨⟨⟨c1,c2⟩,c3⟩,c4⟩,c5⟩,c6⟩,c7⟩,c8⟩,c9⟩:=h5;obtain⟨oc,od,dV,kV,doc,pm,an,cdv,ct,osl,rfl,lk,zy⟩:=h2.ex;refine qI (N:=N) lk zy ⟨c1,c2,c3,IF c4,c5,c6,c7⟩ (λvs H Q E ⟨ds,A,z,_⟩=>z.trans h4.symm) λA ev outer s H vs Q E hr ⟨ds,B,hl,hA,wt,Z0⟩=>?_
  have xt:XT (Z6 Pg n).up (Z6 Pg n).xn CL rzs exs K mg:=by rw[KD,Ld];exact t.xt
  have gl:∀ p∈gls,JL K mg CL p.1 ((Z6 Pg n).G p.2):=by rw[KH];exact t.gl
  have key:B4 K CL ⟨λb o=>H b=Aa o,λ_ _ _=>AM⟩ B W0 (Ty (Z6 Pg n) (Bw (Pg.defs id).n ds) (Pg.defs id).body) {nx:=λ_ H'=>Q .non H',rt:=Q} ->
      ∃ t,yp (Cx.hot (B1 JI P w K mg base N qual (AH st) f cdv A outer s H E) ev) (Dh st) t/\t {nx:=λ_ H'=>Q .non H',rt:=Q} (start N vs) H:=λhp=>by
    have v:VX (Z6 Pg n) CL n W0 ⟨AH st,N,fns,bl,rzs,exs,gls,Ab⟩ (B1 JI P w K mg base N qual (AH st) f cdv A outer s H E):=⟨rfl,c1,rfl,IF c4,rfl,hr,t.bln,t.os,bf,km,Zg,QE,RG,xt,gl,λ_=>rfl⟩
    exact⟨_,OO v ⟨λ_=>rfl,rfl,rfl,rfl⟩ ev 0 fuel _ (Pg.defs id).body c9 ⟨λb o=>H b=Aa o,λ_ _ _=>AM⟩ B,_,TQ c8 hA wt,hp⟩
  have e:(Z6 Pg (n+1)).F id ds=Et Pg.xs ((Ty (Z6 Pg n) (Bw (Pg.defs id).n ds) (Pg.defs id).body).ans (Pg.defs id).fr):=rfl;rw[e,Oh]at Z0;have zb:∀ r:R D,(∀ x,r≠.exn x)->Et Pg.xs r=r:=λr hr=>by
    cases Pg.xs<;>cases r<;>first|rfl|exact absurd rfl (hr _)
  refine key ?_;cases eo:Ty (Z6 Pg n) (Bw (Pg.defs id).n ds) (Pg.defs id).body with
  |next U'=>
    rw[eo]at Z0;cases ef:(Pg.defs id).fr with
    |true=>rw[ef]at Z0;rw[zb _ (by intro x z;cases z)]at Z0;exact Z0.elim
    |false=>
      rw[ef]at Z0;rw[zb _ (by intro x z;cases z)]at Z0
      exact λY' H' x'=>Z0 .non H' (λb o z=>x'.same b o z) ⟨rfl,λz=>nomatch z⟩
  |ret d b=>
    rw[eo]at Z0;intro v H' sm rp fr;have zZ:(match Et Pg.xs (if ((Pg.defs id).fr&&(!b&&bx d))=Ab then R.bad else R.ok d) with
      |.ok d=>∀ v H',Az H H'->Cw K CL (Pg.defs id).fr H B H' v d->Q v H'
      |.exn x=>AM
      | .bad=>AM):=Z0
    cases ec:((Pg.defs id).fr&&(!b&&bx d)) with
    |true=>rw[ec,Au rfl,zb _ (by intro x z;cases z)]at zZ;exact zZ.elim
    |false=>
      rw[ec,Ay (by decide),zb _ (by intro x z;cases z)]at zZ
      refine zZ v H' sm ⟨rp,λefr es hd=>?_⟩
      subst hd;have eb:b=Ab:=by
        cases b with
        |true=>rfl
        |false=>rw[efr]at ec;cases ec
      obtain⟨a,xs,h1,h2,h3,h4⟩:=fr eb es rfl;refine⟨a,xs,h1,?_,h3,h4⟩;cases ha:H a with
      |none=>rfl
      |some o=>exact absurd ha (h2 o)
  |brk U'=>rw[eo]at Z0;have zZ:(match Et Pg.xs (R.bad:R D) with | .ok _=>_ | .exn _=>_ | .bad=>AM):=Z0;rw[zb _ (by intro x z;cases z)]at zZ;exact zZ.elim
  |cont U'=>rw[eo]at Z0;have zZ:(match Et Pg.xs (R.bad:R D) with | .ok _=>_ | .exn _=>_ | .bad=>AM):=Z0;rw[zb _ (by intro x z;cases z)]at zZ;exact zZ.elim
  |bad=>rw[eo]at Z0;have zZ:(match Et Pg.xs (R.bad:R D) with | .ok _=>_ | .exn _=>_ | .bad=>AM):=Z0;rw[zb _ (by intro x z;cases z)]at zZ;exact zZ.elim
  |exn x U'=>
    rw[eo]at Z0;have zZ:(match Et Pg.xs (R.exn x:R D) with
      |.ok d=>∀ v H',Az H H'->Cw K CL (Pg.defs id).fr H B H' v d->Q v H'
      |.exn x=>AM
      | .bad=>AM):=Z0
    exfalso
    cases ex:Pg.xs with
    |false=>rw[ex]at zZ;exact zZ
    |true=>
      rwa [ex]at zZ
noncomputable def Gn(Pg:Prg)(n:Ag):Ac D->R D
  | [d1,d2]=>(match (Z6 Pg n).F 17 [d1,d2] with
    |.ok t=>if xq 5 t=Ab then .ok (.tup [d1,t]) else .bad
    | _=>.bad)
  |_=>.bad
theorem rS(Pg:Prg)(n:Ag)(ds:Ac D)(y:Ex):Gn Pg n ds≠.exn y:=by
  match ds with
  |[]=>exact λz=>nomatch z
  |[_]=>exact λz=>nomatch z
  |_::_::_::_=>exact λz=>nomatch z
  |[d1,d2]=>
    show (match (Z6 Pg n).F 17 [d1,d2] with
      |.ok t=>if xq 5 t=Ab then .ok (.tup [d1,t]) else .bad
      | _=>.bad:R D)≠.exn y
    split
    · split<;>exact λz=>nomatch z
    · exact λz=>nomatch z
theorem kH(t:ww K mg CL fns bl rzs exs gls Pg fuel){n:Ag}(km:∀ q∈fns,jm P w K mg base CL Pg n q)(bf:∀ c,c<3->gh P w K mg base CL (Z6 Pg n).F n c){st:AL}{f:Ak}(h2:zf K x qual st f fd)(h5:Nt fuel fns bl rzs exs gls st=Ab):
    Y4 P w K mg base (CXR P w) (n+1) f fd ["self", "p", "numbers"] (spI K CL (Gn Pg n)):=by
  unfold Nt at h5;simp only[Am,AD,Bh,EZ,JP]at h5;obtain⟨c1,c2,c3,c4,c5,c6,c7,c8⟩:=h5;obtain⟨u,c8⟩:=CA.mp c8;obtain⟨p0,p1,p2,p3,p4,p5,p6,ev,eb,hnc,hck⟩:=lI c8;obtain⟨oc,od,dV,kV,doc,pm,an,cdv,ct,osl,rfl,lk,zy⟩:=h2.ex;refine Hm (N:=["self", "p", "numbers"]) lk zy ⟨c1,c2,c3,by decide,rfl,λy hy=>?_,c7⟩ (λvs H Q E ⟨x,C,dx,us,ds,A,H0,e,z,_⟩=>by rw[e,A8,z];rfl) λA outer s H vs Q E hr ⟨x,C,dx,us,ds,B,H0,e,hl,cl,np,nt,hx,h0,sm,hA,wt,Z0⟩=>?_
  · rcases A6.mp hy with rfl|hy
    · exact .inl c4
    · rcases A6.mp hy with rfl|hy
      · exact .inl c5
      · rw[BW.mp hy];exact .inl c6
  subst e;have xt:XT (Z6 Pg n).up (Z6 Pg n).xn CL rzs exs K mg:=by rw[KD,Ld];exact t.xt
  have gl:∀ p∈gls,JL K mg CL p.1 ((Z6 Pg n).G p.2):=by rw[KH];exact t.gl
  have no:∀ x cls dx H',W0 x H'->Dy K CL H' cls dx x->E cls dx H':=λ_ _ _ _ z=>z.elim
  have v:VX (Z6 Pg n) CL n W0 ⟨AH st,["self", "p", "numbers"],fns,bl,rzs,exs,gls,Ab⟩ (B1 (CXR P w) P w K mg base ["self", "p", "numbers"] qual (AH st) f cdv A outer s H E):=⟨rfl,c1,rfl,(show (["self", "p", "numbers"]:Ac Ah).Nodup by decide),rfl,hr,t.bln,t.os,bf,km,sy,OK no,Þ no,xt,gl,λ_=>rfl⟩
  match us,hl with
  |[v1,v2],_=>
    match ds,wt with
    |[],r=>exact r.elim
    |[_],r=>exact r.2.elim
    |_::_::_::_,r=>exact r.2.2.elim
    |[d1,d2],r=>
      have sv:=((zp fuel).e W0 _ _ ev _ v hck).se;obtain⟨tt,pss,rd⟩:=cS (H:=H) (H0:=H0) (x:=x) (C:=C) (dx:=dx) (v1:=v1) (v2:=v2) (d1:=d1) (d2:=d2) (A:=B) (Q:=Q) (Y:=L2.start ["self", "p", "numbers"] [.ref x,v1,v2]) (p0:=p0) (p1:=p1) (p2:=p2) (p3:=p3) (p4:=p4) (p5:=p5) (p6:=p6) (t0:=B1 (CXR P w) P w K mg base ["self", "p", "numbers"] qual (AH st) f cdv A outer s H E)
        (λp=>Dw rfl (.inl c4)) (λp=>Dw rfl (.inl c5)) sv (HJ hnc)
      refine⟨tt,by rw[eb];exact pss,rd rfl cl np nt hx h0 sm hA r.1 r.2.1 ?_⟩
      have zZ:(match (match (Z6 Pg n).F 17 [d1,d2] with
          |.ok t=>if xq 5 t=Ab then R.ok (D.tup [d1,t]) else .bad
          | _=>.bad) with
        |.ok d=>∀ e1 e2,d=.tup [e1,e2]->∀ v1 v2 H',Az H0 H'->H' x=Aa (.ins C dx [("p",v1),("triple",v2)])->Z7 K CL H' B v1 e1->Z7 K CL H' B v2 e2->Q .non H'
        | _=>AM):=Z0
      cases e17:(Z6 Pg n).F 17 [d1,d2] with
      |bad=>rw[e17]at zZ;exact zZ.elim
      |exn y=>rw[e17]at zZ;exact zZ.elim
      |ok t0=>
        rw[e17]at zZ;dsimp only at zZ;by_cases hn:xq 5 t0=Ab
        · rw[Au hn]at zZ;exact⟨t0,rfl,hn,λw1 w2 H' a b c d=>zZ _ _ rfl w1 w2 H' a b c d⟩
        · rw[Ay hn]at zZ;exact zZ.elim
theorem mkF{c:Ag}:(uh c).run Z [d1,d2]=(zk (Z.F 910 [d1,d2])).bind (ET c):=by
 simp only[Df.run,uh,Bw,cW,UY];show (O.seq (O.of _ ((zk ((Z.F 910 [d1,d2]).bind λd=>.ok d)).bind λx=>ET c x) λd=>O.ret d _) _).ans Af=_
 have nx:∀ d y,ET c d≠.exn y:=λd y z=>by
  unfold ET at z;split at z
  .split at z<;>cases z
  .cases z
 cases Z.F 910 [d1,d2] with
 |bad=>rfl
 |exn y=>rfl
 |ok d=>
  show (O.seq (O.of _ (ET c d) λd=>O.ret d _) _).ans Af=ET c d
  cases e:ET c d with
  |ok _=>rfl
  |bad=>rfl
  |exn y=>exact absurd e (nx d y)
theorem inF:zk (kx.run Z [d1,d2])=zk ((Z.F 17 [d1,d2]).bind λt=>.ok (.tup [d1,t])):=by
 simp[Df.run,kx,Bw];cases Z.F 17 [d1,d2]<;>rfl
theorem Wj(t:ww K mg CL fns bl rzs exs gls Pg fuel):∀ n,(∀ m,m<=n->∀ q∈fns,jm P w K mg base CL Pg m q)->∀ c,c<3->gh P w K mg base CL (Z6 Pg n).F n c:=by
  intro n
  induction n using Nat.strongRecOn with
  |ind n ih=>
    intro hl c hc;obtain⟨i1,i2,f,fd,x,qual,st,h2,h3,h5,h6⟩:=t.ini
    match n,ih,hl with
    |0,_,_=>exact .inl λds=>rfl
    |1,_,_=>
      refine .inl λds=>?_
      have e:(Z6 Pg 1).F (900+c) ds=Et Pg.xs ((Pg.defs (900+c)).run (Z6 Pg 0) ds):=rfl;rw[e,i1 c hc];have e2:(uh c).run (Z6 Pg 0) ds=.bad:=by
        match ds with
        |[]=>rfl
        |[_]=>rfl
        |_::_::_=>rfl
      rw[e2];cases Pg.xs<;>rfl
    |m+2,ih,hl=>
      obtain⟨C,o1,M⟩:=h6 c hc;refine .inr ⟨C,f,fd,Gn Pg m,m+1,o1,M,h3,rfl,kH t (λq hq=>hl m (by omega) q hq) (ih m (by omega) λk hk=>hl k (by omega)) h2 h5,λds hd=>?_,rS Pg m⟩
      match ds,hd with
      |[d1,d2],_=>
        have cutN:∀ r:R D,zk (Et Pg.xs r)=zk r:=λr=>by cases Pg.xs<;>cases r<;>rfl
        have e:(Z6 Pg (m+2)).F (900+c) [d1,d2]=Et Pg.xs ((Pg.defs (900+c)).run (Z6 Pg (m+1)) [d1,d2]):=rfl;have e0:(Z6 Pg (m+1)).F 910 [d1,d2]=Et Pg.xs ((Pg.defs 910).run (Z6 Pg m) [d1,d2]):=rfl;rw[e,i1 c hc,mkF,e0,i2,cutN,inF];cases e17:(Z6 Pg m).F 17 [d1,d2] with
        |bad=>refine .inl ?_;cases Pg.xs<;>rfl
        |exn y=>refine .inl ?_;cases Pg.xs<;>rfl
        |ok t0=>
          by_cases hn:xq 5 t0=Ab
          · refine .inr ?_;have g:Gn Pg m [d1,d2]=.ok (.tup [d1,t0]):=by
              show (match (Z6 Pg m).F 17 [d1,d2] with
                |.ok t=>if xq 5 t=Ab then .ok (.tup [d1,t]) else .bad
                | _=>.bad:R D)=_
              rw[e17];exact Au hn
            rw[g];show Et Pg.xs (ET c (.tup [d1,t0]))=ET c (.tup [d1,t0]);have:ET c (.tup [d1,t0])=.ok (.obj c [("p",d1),("triple",t0)]):=Au hn;rw[this];cases Pg.xs<;>rfl
          · refine .inl ?_;have:ET c (.tup [d1,t0])=.bad:=Ay hn;show Et Pg.xs (ET c (.tup [d1,t0]))=.bad;rw[this];cases Pg.xs<;>rfl
theorem T9(t:ww K mg CL fns bl rzs exs gls Pg fuel):∀ n m,m<=n->∀ p∈fns,jm P w K mg base CL Pg m p:=by
 have zero:∀ p∈fns,jm P w K mg base CL Pg 0 p:=λp hp=>by
  obtain⟨f,fd,ps,qual,st,N,h1,⟨x0,h2⟩,h3,h4,h5⟩:=t.fn p hp;exact⟨f,fd,ps,h1,h2.kp,h3,h4,λ_=>⟨λvs H Q E ⟨ds,A,_,_,_,z⟩=>z.elim,λA outer s H args us vs Q E _ _ _ _ ⟨ds,A,_,_,_,z⟩=>z.elim⟩,λ_=>⟨λvs H Q E ⟨ds,A,_,_,_,z⟩=>z.elim,λA ev outer s H args us vs Q E _ _ _ _ ⟨ds,A,_,_,_,z⟩=>z.elim⟩⟩
 intro n
 induction n with
 |zero=>intro m hm p hp;obtain rfl:=Nat.le_zero.mp hm;exact zero p hp
 |succ n ih=>
  intro m hm p hp;by_cases hmn:m<=n
  .exact ih m hmn p hp
  .have:m=n+1:=by omega
   subst this;have mk:=Wj (P:=P) (w:=w) (base:=base) t n ih;obtain⟨f,fd,ps,qual,st,N,h1,⟨x0,h2⟩,h3,h4,h5⟩:=t.fn p hp;refine⟨f,fd,ps,h1,h2.kp,h3,h4,λyn=>?_,λhge=>?_⟩
   .have eb:CF 1000 p.2.2=Af:=by
     cases e:CF 1000 p.2.2 with
     |false=>rfl
     |true=>exact absurd (AR e) (by omega)
    rw[eb]at h5;exact rX t (λq hq=>ih n (AU _) q hq) mk h2 h4 h5
   .rw[Nat.ble_eq_true_of_le hge]at h5;exact qH t (λq hq=>ih n (AU _) q hq) mk h2 h4 h5
theorem Vi(t:ww K mg CL fns bl rzs exs gls Pg fuel)(n:Ag):∀ p∈fns,jm P w K mg base CL Pg n p:=T9 t n n (AU _)
theorem Vj(t:ww K mg CL fns bl rzs exs gls Pg fuel)(n:Ag):∀ c,c<3->gh P w K mg base CL (Z6 Pg n).F n c:=Wj t n (T9 t n)
theorem qP{i:Ai}{u:Ce}(h:mg x=Aa (.int i u)):JL K mg CL x (.int i):=⟨_,.int i,h,⟨_,rfl⟩,λ_ _=>rfl⟩
theorem Qp{a:Ak}{dd:Ao Ak}{its:Ac Al}{n:Ag}{sl:Bl (Ao Al)}{is:Ac Ah}(h:mg x=Aa (.ref a))(l:K.lookup a=Aa ⟨.type "tuple",dd,.seq its.toArray n,sl⟩)(hv:A1 (is.map V.str) its)(hz:its.length<=1000):JL K mg CL x (.tup (is.map D.str)):=by
 have rs:∀(H:Hp)(A:Ak->Prop)(l:Ac Ah),Z9 K CL H A (l.map V.str) (l.map D.str):=λH A l=>by
  induction l with
  |nil=>trivial
  |cons x l ih=>exact⟨rfl,ih⟩
 have kt:KT K a (is.map V.str):=⟨_,_,_,l,rfl,rfl,by rw[AX,Bz];omega,hv⟩
 exact⟨_,.ref a,h,rfl,λH A=>⟨a,is.map V.str,rfl,.inr kt,.inr kt,rs H A is⟩⟩
theorem rY{s s':Ar}{e:Al}(h:CXR P w [] H s (λ_ _ _=>AM) e s'):AM:=by
 obtain⟨_,_,_,_,_,_,_,_,_,_,_,_,_,_,_,z⟩:=h;exact z
noncomputable def WI:AL->Ao (Aq×AF)
 |.Expr e p=>Aa (e,p)
 |_=>Ae
theorem gO{e:AL}{t:Aq×AF}(h:WI e=Aa t):e=.Expr t.1 t.2:=by
 cases e with
 |Expr x p=>cases h;rfl
 |_=>exact nomatch (show Ae=Aa t from h)
noncomputable def WK:AL->Ao (Aq×Aq×AF)
  | .Assign ts v p=>(match ts with
    |[t]=>Aa (t,v,p)
    | _=>Ae)
  |_=>Ae
theorem gQ{e:AL}{t:Aq×Aq×AF}(h:WK e=Aa t):e=.Assign [t.1] t.2.1 t.2.2:=by
 cases e with
 |Assign ts v p=>
  cases ts with
  |nil=>exact nomatch (show Ae=Aa t from h)
  |cons a ts=>
   cases ts with
   |nil=>cases h;rfl
   |cons=>exact nomatch (show Ae=Aa t from h)
 |_=>exact nomatch (show Ae=Aa t from h)
noncomputable def RJ:Aq->Ao (Aq×Ah×AF)
 |.Attribute e x p=>Aa (e,x,p)
 |_=>Ae
theorem Uf{e:Aq}{t:Aq×Ah×AF}(h:RJ e=Aa t):e=.Attribute t.1 t.2.1 t.2.2:=by
 cases e with
 |Attribute e x p=>cases h;rfl
 |_=>exact nomatch (show Ae=Aa t from h)
noncomputable def WH:Aq->Ao (Ac Aq×AF)
 |.JoinedStr l p=>Aa (l,p)
 |_=>Ae
theorem gN{e:Aq}{t:Ac Aq×AF}(h:WH e=Aa t):e=.JoinedStr t.1 t.2:=by
 cases e with
 |JoinedStr l p=>cases h;rfl
 |_=>exact nomatch (show Ae=Aa t from h)
noncomputable def RI:Aq->Ao (Aq×Ai×AF)
  | .FormattedValue e n f p=>(match f with
    |none=>Aa (e,n,p)
    | _=>Ae)
  |_=>Ae
theorem Ud{e:Aq}{t:Aq×Ai×AF}(h:RI e=Aa t):e=.FormattedValue t.1 t.2.1 Ae t.2.2:=by
 cases e with
 |FormattedValue e n f p=>
  cases f with
  |none=>cases h;rfl
  |some=>exact nomatch (show Ae=Aa t from h)
 |_=>exact nomatch (show Ae=Aa t from h)
noncomputable def O5:Aq->Ao (Ah×Ag×AF)
  | .Constant c k p=>(match c with
    |.str z=>Aa (z,k,p)
    | _=>Ae)
  |_=>Ae
theorem Qi{e:Aq}{t:Ah×Ag×AF}(h:O5 e=Aa t):e=.Constant (.str t.1) t.2.1 t.2.2:=by
 cases e with
 |Constant c k p=>
  cases c with
  |str z=>cases h;rfl
  |_=>exact nomatch (show Ae=Aa t from h)
 |_=>exact nomatch (show Ae=Aa t from h)
noncomputable def WG{α:Type}:Ac α->Ao (α×α×α)
 |[a,b,c]=>Aa (a,b,c)
 |_=>Ae
theorem gM{l:Ac α}{t:α×α×α}(h:WG l=Aa t):l=[t.1,t.2.1,t.2.2]:=by
  match l,h with
  |[a,b,c],h=>cases h;rfl
  |[],h=>cases h
  |[_],h=>cases h
  |[_,_],h=>cases h
  |_::_::_::_::_,h=>cases h
noncomputable def zB(par:Ah)(j:Ac Aq):Ao Ea:=(Nn j).bind λfk=>(RI fk.1).bind λfm=>(IT fm.1).bind λq1=>(O5 fk.2).bind λz=>if (q1.1==par&&(decide (fm.2.1=-1)&&CF z.1.length 1000))=Ab then Aa () else Ae
noncomputable def zA(par:Ah)(j:Ac Aq):Ao Ea:=(WG j).bind λfk=>(O5 fk.1).bind λy=>(RI fk.2.1).bind λfm=>(IT fm.1).bind λq1=>(O5 fk.2.2).bind λz=>if (q1.1==par&&(decide (fm.2.1=-1)&&(CF y.1.length 400&&CF z.1.length 1000)))=Ab then Aa () else Ae
noncomputable def fsX(par:Ah)(e:Aq):Ao Ea:=(WH e).bind λj=>if ((zB par j.1).isSome||(zA par j.1).isSome)=Ab then Aa () else Ae
theorem qR{e:Aq}{u:Ea}(h:fsX par e=Aa u):ur par e:=by
 obtain⟨j,e1,h⟩:=AC.mp h;rw[gN e1];split at h
 .rename_i hc;rcases vy hc with hc|hc
  .obtain⟨_,h⟩:=CA.mp hc;obtain⟨fk,e2,h⟩:=AC.mp h;obtain⟨fm,e3,h⟩:=AC.mp h;obtain⟨q1,e4,h⟩:=AC.mp h;obtain⟨z,e5,h⟩:=AC.mp h;split at h
   .rename_i hc;simp only[Am,AD,AG]at hc;obtain⟨c1,c2,c3⟩:=hc;rw[N1 e2,Ud e3,Jt e4,Qi e5,c1,c2];exact qQ (AR c3)
   .cases h
  .obtain⟨_,h⟩:=CA.mp hc;obtain⟨fk,e2,h⟩:=AC.mp h;obtain⟨y,e6,h⟩:=AC.mp h;obtain⟨fm,e3,h⟩:=AC.mp h;obtain⟨q1,e4,h⟩:=AC.mp h;obtain⟨z,e5,h⟩:=AC.mp h;split at h
   .rename_i hc;simp only[Am,AD,AG]at hc;obtain⟨c1,c2,c4,c3⟩:=hc;rw[gM e2,Qi e6,Ud e3,Jt e4,Qi e5,c1,c2];exact fF (AR c4) (AR c3)
   .cases h
 .cases h
noncomputable def Xh(g par f:Ah)(b:Ac AL):Ao Ea:=(Nn b).bind λs=>(WI s.1).bind λc=>(WJ c.1).bind λcl=>(RJ cl.1).bind λjv=>(IT jv.1).bind λg1=>(Nn cl.2.1).bind λab=>(IT ab.1).bind λs1=>(fsX par ab.2).bind λ_=>(WK s.2).bind λt=>(RJ t.1).bind λat2=>(IT at2.1).bind λs2=>(IT t.2.1).bind λq2=>
 if (g1.1==g&&(jv.2.1==("__init__" : Ah)&&(s1.1==("self" : Ah)&&(s2.1==("self" : Ah)&&(at2.2.1==f&&(q2.1==par&&jv.2.2.endLine==cl.2.2.line))))))=Ab then Aa () else Ae
noncomputable def Xi(g par f:Ah)(b:Ac AL):An:=(Xh g par f b).isSome
theorem kJ{g par f:Ah}{b:Ac AL}(h:Xi g par f b=Ab):∃ j np apos p1 cpos p6 p7 p8 p9 p10,b=RS g par f j np apos p1 cpos p6 p7 p8 p9 p10/\(apos.endLine==cpos.line)=Ab/\ur par j:=by
 obtain⟨_,h⟩:=CA.mp (show (Xh g par f b).isSome=Ab from h)
 obtain⟨s,e1,h⟩:=AC.mp h;obtain⟨c,e2,h⟩:=AC.mp h;obtain⟨cl,e3,h⟩:=AC.mp h;obtain⟨jv,e4,h⟩:=AC.mp h;obtain⟨g1,e5,h⟩:=AC.mp h;obtain⟨ab,e6,h⟩:=AC.mp h;obtain⟨s1,e7,h⟩:=AC.mp h;obtain⟨_,e8,h⟩:=AC.mp h;obtain⟨t,f4,h⟩:=AC.mp h;obtain⟨at2,f5,h⟩:=AC.mp h;obtain⟨s2,f6,h⟩:=AC.mp h;obtain⟨q2,f7,h⟩:=AC.mp h;split at h
 .rename_i hc;simp only[Am,AD,AG]at hc;obtain⟨c1,c2,c3,c6,c7,c8,h1⟩:=hc;rw[N1 e1,gO e2,gP e3,Uf e4,Jt e5,N1 e6,Jt e7,gQ f4,Uf f5,Jt f6,Jt f7,c1,c2,c3,c6,c7,c8];exact⟨_,_,_,_,_,_,_,_,_,_,rfl,by rw[AD];exact h1,qR e8⟩
 .cases h
noncomputable def Nr(g par f:Ah)(st:AL):An:=
 (AH st).kind==.function&&((AH st).isCoroutine==Af&&((AH st).isGenerator==Af&&(Jx ["self",par]&&((AH st).names.lookup ("self" : Ah)==Aa .local&&((AH st).names.lookup par==Aa .local&&(((AH st).names.all λy=>y.2 != .free) &&
  ((AH st).names.lookup g==Aa .globalImplicit&&(g != ("__debug__" : Ah)&&(par != ("__debug__" : Ah)&&(par != ("__classdict__" : Ah)&&Xi g par f (Dh st)))))))))))
noncomputable def Oo(s:AL):AL:=match s with
  |.ClassDef _ _ _ (b::_) _ _ _ _ _ _ _=>b
  |s=>s
def gf(K:Fg)(f:Ak)(qual:Ah)(st:AL):Prop:=∃ fd,qr K "__init__" qual st f fd
theorem ini_mk{st:AL}{f:Ak}{oc:Al}{kV doc pm cdv ct:Al}(l:K.lookup f=Aa ⟨oc,od,.func (B2 "__init__" qual (Hg st) (Dh st) (AH st) .none kV doc pm an cdv ct),osl⟩)(c:DE K cdv qual=Ab)(k:Ba K (.ref f)=Ab):gf K f qual st:=⟨_,QZ l c k⟩
theorem mG{fI:Ak}{g par f qual:Ah}{st:AL}(a:gf K fI qual st)(hk:Nr g par f st=Ab)(hb:∀(u0 u1 kV doc pm:Al)(an:Ao Ak)(cdv ct:Al),Hd (B2 "__init__" qual (Hg st) (Dh st) (AH st) .none kV doc pm an cdv ct) ⟨[u0,u1],[]⟩=pure ((["self",par]:Ac Ah).zip [u0,u1]))(xc:DF K C (Aa (.ref fI))=Ab)(dc:G4 K C=Ab)(ty:Dp K (.ref fI)=Aa (.type "function"))(mo:mg g=Aa (.ref OV))(s1:CY K (.ref OV) "__getattribute__" = Aa (Aa (.builtin "type.__getattribute__")))(s2:Fw K OV (.type "type")=Ab)(s3:Fv K (.ref OV) (.type "type") "__init__" = Aa (.val (.builtin "ValueError.__init__")))(hf:At K (.ref C) f=Aa Ae)(hs:At K (.ref C) "__setattr__" = Aa (Aa (.builtin "object.__setattr__"))):mv K mg C f:=by
 obtain⟨fd,fn⟩:=a;unfold Nr at hk;simp only[Am,AD,Bh,EZ,JP]at hk;obtain⟨c1,c2,c3,c4,c5,c6,c7,c8,c9,c10,c11,c12⟩:=hk;obtain⟨j,np,apos,p1,cpos,p6,p7,p8,p9,p10,eb,hl,hz⟩:=kJ c12;exact .mk xc dc fn ty ⟨c1,c2,c3,IF c4,rfl,λx hx=>by
  rcases A6.mp hx with rfl|hx
  .exact .inl c5
  .rw[BW.mp hx];exact .inl c6,c7⟩ c5 c6 (fn.binds λkV doc pm an cdv ct us hu=>match us,hu with | [u0,u1],_=>hb u0 u1 kV doc pm an cdv ct) eb c8 mo (by simpa using c9) (by simpa using c10) (by simpa using c11) s1 s2 s3 hl hz hf hs
theorem vS{c:Ag}(h:∀ ds,xn c ds=.bad\/xn c ds=.ok ⟨c,[]⟩)(e:DF K C Ae=Ab)(ds:Ac D):xn c ds=.bad\/(xn c ds=.ok ⟨c,[]⟩/\DF K C Ae=Ab)\/∃ f,mv K mg C f/\Nk xn c f ds:=(h ds).imp id λz=>.inl ⟨z,e⟩
theorem vR{c:Ag}{f:Ah}(h:∀ ds,xn c ds=b8 c f ds)(x:mv K mg C f)(ds:Ac D):xn c ds=.bad\/(xn c ds=.ok ⟨c,[]⟩/\DF K C Ae=Ab)\/∃ f,mv K mg C f/\Nk xn c f ds:=by
  have e:=h ds
  match ds,e with
  |[],e=>exact .inl e
  |_::_::_,e=>exact .inl e
  |[d],e=>
    have e':xn c [d]=if (w6 1 d||w6 2 d)=Ab then .ok ⟨c,[(f,d)]⟩ else .bad:=e
    by_cases z:(w6 1 d||w6 2 d)=Ab
    · rw[Au z]at e';refine .inr (.inr ⟨f,x,d,?_⟩);rw[BX]at z;rcases z with z|z
      · exact⟨1,rfl,z,by decide,e'⟩
      · exact⟨2,rfl,z,by decide,e'⟩
    · rw[Ay z]at e';exact .inl e'
theorem Wi(dc:G4 K C=Ab)(h1:At K (.ref C) "triple" = Aa Ae)(h2:At K (.ref C) "points" = Aa Ae)(h3:At K (.ref C) "row" = Aa Ae)(f:Ah)(h:(f==("triple" : Ah)||(f==("points" : Ah)||f==("row" : Ah)))=Ab):G4 K C=Ab/\At K (.ref C) f=Aa Ae:=by
 rw[BX,BX]at h;rcases h with h|h|h
 .rw[eq_of_beq h];exact⟨dc,h1⟩
 .rw[eq_of_beq h];exact⟨dc,h2⟩
 .rw[eq_of_beq h];exact⟨dc,h3⟩
structure XA (K:Fg) (c:Ah) (x:Ak) (i:Ao Al):Prop where
 n:Bb K AO c=Aa (Aa (.ref x))
 y:DF K x i=Ab
 dc:G4 K x=Ab
 ft:At K (.ref x) "triple" = Aa Ae
 fp:At K (.ref x) "points" = Aa Ae
 fr:At K (.ref x) "row" = Aa Ae
 ok:zv K x
theorem xcls_l{x:Ak}(e:JU K x [.type "ValueError",.type "Exception",.type "BaseException",.type "object"] "ValueError.__new__" = Ab):DF K x Ae=Ab:=gH e
theorem xa_mk{c:Ah}{x:Ak}{i:Ao Al}(n:Bb K AO c=Aa (Aa (.ref x)))(e:DF K x i=Ab)(dc:G4 K x=Ab)(ft:At K (.ref x) "triple" = Aa Ae)(fp:At K (.ref x) "points" = Aa Ae)(fr:At K (.ref x) "row" = Aa Ae)(ga:At K (.ref x) "__getattribute__" = Aa (Aa (.builtin "BaseException.__getattribute__")))(gt:At K (.ref x) "__getattr__" = Aa Ae)(cl:At K (.ref x) "__class__" = Aa (Aa (.builtin "object.__class__")))(ob:Cj K x (.type "object")=Aa Ab)(be:BQ K (.ref x) (.type "BaseException")=Aa Ab)(sv:BQ K (.ref x) (.type "ValueError")=Aa Ab):XA K c x i:=⟨n,e,dc,ft,fp,fr,uF e ga gt cl ob be sv⟩
structure XB (K:Fg) (c:Ah) (x i:Ak) (q:Ah) (st:AL):Prop where
 fi:At K (.ref x) "__init__" = Aa (Aa (.ref i))
 a:XA K c x (Aa (.ref i))
 ii:gf K i q st
 ti:Dp K (.ref i)=Aa (.type "function")
 sn:At K (.ref x) "__setattr__" = Aa (Aa (.builtin "object.__setattr__"))
structure XE (K:Fg) (c:Ah) (x:Ak):Prop where
 n:Bb K AO c=Aa (Aa (.ref x))
 cs:Cj K x (.type "object")=Aa Ab
 ty:Dp K (.ref x)=Aa (.type "type")
structure XO (K:Fg) (x:Ak):Prop where
 sa:CY K (.ref x) "__getattribute__" = Aa (Aa (.builtin "type.__getattribute__"))
 sb:Fw K x (.type "type")=Ab
 sc:Fv K (.ref x) (.type "type") "__init__" = Aa (.val (.builtin "ValueError.__init__"))
def uc(K:Fg)(C:Ak)(l:Ac (Ak×An)):Prop:=∀ q∈l,BQ K (.ref q.1) (.ref C)=Aa q.2
def KC(K:Fg)(C:Ak):Prop:=∀ x i v,DF K x i=Ab->BQ K (.ref x) (.ref C)=Aa v->B7 K (.ref x) (.ref C)=Aa v
theorem XA.kc{c:Ah}{x:Ak}{i:Ao Al}(a:XA K c x i):KC K x:=λ_ _ _ y s=>jZ y a.y s
theorem XE.kc{c:Ah}{x:Ak}(a:XE K c x):KC K x:=λ_ _ _ y s=>dC y a.cs a.ty s
noncomputable def mw:Ac (Ag×Ak)->Ag->Ao Ak
 |[],_=>Ae
 |p::r,c=>if Nat.beq c p.1=Ab then Aa p.2 else mw r c
theorem M4{c:Ag}:∀{l:Ac (Ag×Ak)},mw l c=Aa C->(c,C)∈l:=by
 intro l
 induction l with
 |nil=>intro q;cases q
 |cons p r ih=>
  intro q;obtain⟨n,x⟩:=p;by_cases e:Nat.beq c n=Ab
  .cases Nat.eq_of_beq_eq_true e;cases (show Aa x=Aa C from (Au e).symm.trans q)
   exact AY
  .exact AE _ (ih ((Ay e).symm.trans q))
structure XR (K:Fg) (mg:Ah->Ao Al) (xn:Ag->Ac D->R Ex) (p:Ag×Ak):Prop where
 ok:zv K p.2
 nf:∀ f:Ah,(f==("triple" : Ah)||(f==("points" : Ah)||f==("row" : Ah)))=Ab->G4 K p.2=Ab/\At K (.ref p.2) f=Aa Ae
 md:∀ ds,xn p.1 ds=.bad\/(xn p.1 ds=.ok ⟨p.1,[]⟩/\DF K p.2 Ae=Ab)\/∃ f,mv K mg p.2 f/\Nk xn p.1 f ds
theorem XA.row{c:Ah}{x:Ak}(a:XA K c x Ae)(h:∀ ds,xn k ds=.bad\/xn k ds=.ok ⟨k,[]⟩):XR K mg xn (k,x):=⟨a.ok,Wi a.dc a.ft a.fp a.fr,vS h a.y⟩
theorem XB.row{c q:Ah}{x i o:Ak}{st:AL}{g par f:Ah}(X:K.In h)(G:h.Ns AO mg)(b:XB K c x i q st)(w:XO K o)(no:Bb K AO g=Aa (Aa (.ref o)))(hf:f = "triple"\/f = "points")(hk:Nr g par f st=Ab)(hb:∀(u0 u1 kV doc pm:Al)(an:Ao Ak)(cdv ct:Al),Hd (B2 "__init__" q (Hg st) (Dh st) (AH st) .none kV doc pm an cdv ct) ⟨[u0,u1],[]⟩=pure ((["self",par]:Ac Ah).zip [u0,u1]))(hx:∀ ds,xn k ds=b8 k f ds):XR K mg xn (k,x):=
 ⟨b.a.ok,Wi b.a.dc b.a.ft b.a.fp b.a.fr,vR hx (mG b.ii hk hb b.a.y b.a.dc b.ti (A3 X G no) w.sa w.sb w.sc (by rcases hf with rfl|rfl;exact b.a.ft;exact b.a.fp) b.sn)⟩
theorem uE{l:Ac (Ag×Ak)}{rzs exs:Ac (Ah×Ag)}(r:∀ p∈l,XR K mg xn p)(rz:∀ p∈rzs,∃ C,mw l p.2=Aa C/\mg p.1=Aa (.ref C))(ex:∀ p∈exs,∃ C,mg p.1=Aa (.ref C)/\KC K C/\uc K C (l.map λq=>(q.2,(up q.1).contains p.2)))(xb:∀ c,(∀ p∈rzs,p.2≠c)->∀ ds,xn c ds=.bad):XT up xn (mw l) rzs exs K mg:=by
 refine⟨λc C q=>(r _ (M4 q)).ok,rz,λp hp=>?_,λc C ds q=>(r _ (M4 q)).md ds,λc C q=>(r _ (M4 q)).nf,xb⟩
 obtain⟨C,e,kc,su⟩:=ex p hp;have s:∀ c D,mw l c=Aa D->BQ K (.ref D) (.ref C)=Aa ((up c).contains p.2):=λc D q=>su _ (List.mem_map_of_mem (f:=λq:Ag×Ak=>(q.2,(up q.1).contains p.2)) (M4 q))
 exact⟨C,e,λc D q=>let ⟨_,y⟩:=(r _ (M4 q)).ok.exc;kc _ _ _ y (s c D q),s⟩
def Na(K:Fg):Sp:=λvs H Q _=>∃(a:Ak)(ns:Ac Ai),vs=[.ref a]/\ns.length<=63/\Id K H a (ns.map V.int)/\∀ v H',v=V.bl Ab->Q v H'
theorem law_fn{CX:CXT}{f:Ak}{ps:Ac Ah}(G:Y4 P w K mg base CX k f fd ps (spD K CL 1 Af F))(h:∀ ns:Ac Ai,F [.lst (ns.map .int)]=.ok (.bl Ab)):Y4 P w K mg base CX k f fd ps (Na K):=G.imp λvs H Q E ⟨a,ns,e,hl,hS,q⟩=>by
 subst e;have rs:∀ l:Ac Ai,Z9 K CL H A0 (l.map V.int) (l.map D.int):=λl=>by
  induction l with
  |nil=>trivial
  |cons x l ih=>exact⟨rfl,ih⟩
 refine⟨[.lst (ns.map .int)],A0,rfl,λ_ z=>z.elim,⟨⟨a,_,rfl,.inl (λz=>z),hS,rs ns⟩,trivial⟩,?_⟩
 rw[h ns];exact λv H' _ r=>q v H' r.1
theorem all_nil{Q:α->Prop}:∀ x∈([]:Ac α),Q x:=λ_ h=>nomatch h
theorem all_cons{Q:α->Prop}{a:α}{l:Ac α}(h1:Q a)(h2:∀ x∈l,Q x):∀ x∈a::l,Q x:=List.forall_mem_cons.2 ⟨h1,h2⟩
def za(K:Fg)(f:Ak)(n:Ah)(st:AL):Prop:=∃ fd,qr K n n st f fd/\Bb K AO n=Aa (Aa (.ref f))
theorem fni{n:Ah}{st:AL}{f:Ak}{oc:Al}{kV doc pm cdv ct:Al}(a:Bb K AO n=Aa (Aa (.ref f)))(l:K.lookup f=Aa ⟨oc,od,.func (B2 n n (Hg st) (Dh st) (AH st) .none kV doc pm an cdv ct),osl⟩)(c:DE K cdv n=Ab)(k:Ba K (.ref f)=Ab):za K f n st:=⟨_,QZ l c k,a⟩
def Bd(n:Ah)(st:AL)(ps:Ac Ah)(us:Ac Al):Prop:=∀(kV doc pm:Al)(an:Ao Ak)(cdv ct:Al),Hd (B2 n n (Hg st) (Dh st) (AH st) .none kV doc pm an cdv ct) ⟨us,[]⟩=pure (ps.zip us)
theorem dA(h:mg x=v)(e:F7.lookup x=Ae):IQ K mg x=v:=by
 unfold IQ;rw[e];exact h
def oj(K:Fg)(f:Ak)(m q:Ah)(st:AL):Prop:=∃ fd,qr K m q st f fd
theorem mei{m q:Ah}{st:AL}{f:Ak}{oc:Al}{kV doc pm cdv ct:Al}(l:K.lookup f=Aa ⟨oc,od,.func (B2 m q (Hg st) (Dh st) (AH st) .none kV doc pm an cdv ct),osl⟩)(c:DE K cdv q=Ab)(k:Ba K (.ref f)=Ab):oj K f m q st:=⟨_,QZ l c k⟩
theorem WU{key m q:Ah}{c:Ag}{C f:Ak}{st:AL}{N:Ac Ah}(id:Ag)(hk:F7.lookup key=Aa (c,m))(hC:OC K c=Aa C)(hf:At K (.ref C) m=Aa (Aa (.ref f)))(A:oj K f m q st)(hc:Gw fuel Af fns bl rzs exs gls ["self"] N st (Pg.defs id)=Ab)(hb:∀(u0 kV doc pm:Al)(an:Ao Ak)(cdv ct:Al),Hd (B2 m q (Hg st) (Dh st) (AH st) .none kV doc pm an cdv ct) ⟨[u0],[]⟩=pure ((["self"]:Ac Ah).zip [u0])):KP K mg fns bl rzs exs gls Pg fuel (key,id,1):=by
 obtain⟨fd,F⟩:=A;refine⟨_,_,["self"],_,_,_,?_,⟨_,Hl F⟩,F.binds λkV doc pm an cdv ct us hu=>match us,hu with | [u0],_=>hb u0 kV doc pm an cdv ct,rfl,hc⟩
 unfold IQ;rw[show F7.lookup (key,id,1).1=Aa (c,m) from hk]
 dsimp only;rw[hC];show (At K (.ref C) m).join=_;rw[hf];rfl
structure OA (K:Fg) (n:Ah) (C t s f:Ak):Prop where
 n:Bb K AO n=Aa (Aa (.ref C))
 o:ol K C
 ft:At K (.ref C) "told" = Aa (Aa (.ref t))
 fs:At K (.ref C) "shown" = Aa (Aa (.ref s))
 nt:Cn K (.ref t)=Ab
 ns:Cn K (.ref s)=Ab
 m:Mk K C f
theorem oa_mk{n:Ah}{C t s f:Ak}(n1:Bb K AO n=Aa (Aa (.ref C)))(i:At K (.ref C) "__init__" = Aa (Aa (.ref f)))(ft:At K (.ref C) "told" = Aa (Aa (.ref t)))(fs:At K (.ref C) "shown" = Aa (Aa (.ref s)))(pg:D8 K C Do=Ab)(hd:Ew K C=Ab)(po:F2 K C=Ab)(sa:At K (.ref C) "__setattr__" = Aa (Aa (.builtin "object.__setattr__")))(np:At K (.ref C) "p" = Aa Ae)(nt:At K (.ref C) "triple" = Aa Ae)(ha:At K (.ref C) "__class__" = Aa (Aa (.builtin "object.__class__")))(hn:CY K (.builtin "object.__class__") "__get__" = Aa (Aa (.builtin "getset_descriptor.__get__")))(htk:IB K (.builtin "object.__class__")=Aa Ab)(hm:Cj K C (.type "object")=Aa Ab)(t1:Cn K (.ref t)=Ab)(s1:Cn K (.ref s)=Ab)(mk:GN K C=Ab)(f1:Cn K (.ref f)=Ab)(kp:Ba K (.ref C)=Ab):OA K n C t s f:=
 ⟨n1,⟨⟨pg,hd,po,sa⟩,np,nt,ha,hn,htk,hm⟩,ft,fs,t1,s1,⟨mk,i,f1,kp⟩⟩
theorem KN{c:Ag}(h:c<3)(n:Bb K AO (OW c)=Aa (Aa (.ref C))):OC K c=Aa C:=by
 unfold OC;rw[Au h,n]
def gg(K:Fg)(C:Ak)(l:Ac (Ak×An)):Prop:=∀ q∈l,B7 K (.ref C) (.ref q.1)=Aa q.2
theorem vF{C0 C1 C2 t0 t1 t2 s0 s1 s2 f:Ak}(X:K.In h)(G:h.Ns AO mg)(a0:OA K "Triple" C0 t0 s0 f)(a1:OA K "Point" C1 t1 s1 f)(a2:OA K "Line" C2 t2 s2 f)(k0:gg K C0 [(C0,Ab),(C1,Af),(C2,Af)])(k1:gg K C1 [(C0,Ab),(C1,Ab),(C2,Af)])(k2:gg K C2 [(C0,Ab),(C1,Af),(C2,Ab)]):OS K mg:=by
  have e0:OC K 0=Aa C0:=KN (by decide) a0.n
  have e1:OC K 1=Aa C1:=KN (by decide) a1.n
  have e2:OC K 2=Aa C2:=KN (by decide) a2.n
  have three:∀ c C,OC K c=Aa C->(c=0/\C=C0)\/(c=1/\C=C1)\/(c=2/\C=C2):=λc C e=>by
    match c,e with
    |0,e=>exact .inl ⟨rfl,(BD (e0.symm.trans e)).symm⟩
    |1,e=>exact .inr (.inl ⟨rfl,(BD (e1.symm.trans e)).symm⟩)
    |2,e=>exact .inr (.inr ⟨rfl,(BD (e2.symm.trans e)).symm⟩)
    |n+3,e=>
      unfold OC at e;rw[Ay (by omega)]at e
      cases e
  have fu:∀{f f':Ak}{r:Ao (Ao Al)},r=Aa (Aa (.ref f))->r=Aa (Aa (.ref f'))->f'=f:=λa b=>by rw[a]at b;cases b;rfl
  refine⟨λc C e=>?_,λc C c' C' e e'=>?_,λc hc=>?_,λc C m f' e hm hf=>?_⟩
  · rcases three c C e with ⟨rfl,rfl⟩|⟨rfl,rfl⟩|⟨rfl,rfl⟩
    · exact a0.o
    · exact a1.o
    · exact a2.o
  · rcases three c C e with ⟨rfl,rfl⟩|⟨rfl,rfl⟩|⟨rfl,rfl⟩<;>rcases three c' C' e' with ⟨rfl,rfl⟩|⟨rfl,rfl⟩|⟨rfl,rfl⟩
    · exact k0 (_,Ab) (by simp)
    · exact k0 (_,Af) (by simp)
    · exact k0 (_,Af) (by simp)
    · exact k1 (_,Ab) (by simp)
    · exact k1 (_,Ab) (by simp)
    · exact k1 (_,Af) (by simp)
    · exact k2 (_,Ab) (by simp)
    · exact k2 (_,Af) (by simp)
    · exact k2 (_,Ab) (by simp)
  · match c,hc with
    |0,_=>exact⟨_,e0,A3 X G a0.n⟩
    |1,_=>exact⟨_,e1,A3 X G a1.n⟩
    |2,_=>exact⟨_,e2,A3 X G a2.n⟩
    |n+3,h=>omega
  · rcases vy hm with z|z
    · obtain rfl:=eq_of_beq z;rcases three c C e with ⟨rfl,rfl⟩|⟨rfl,rfl⟩|⟨rfl,rfl⟩
      · rw[fu a0.ft hf];exact a0.nt
      · rw[fu a1.ft hf];exact a1.nt
      · rw[fu a2.ft hf];exact a2.nt
    · obtain rfl:=eq_of_beq z;rcases three c C e with ⟨rfl,rfl⟩|⟨rfl,rfl⟩|⟨rfl,rfl⟩
      · rw[fu a0.fs hf];exact a0.ns
      · rw[fu a1.fs hf];exact a1.ns
      · rw[fu a2.fs hf];exact a2.ns
theorem uT{C0 C1 C2 t0 t1 t2 s0 s1 s2 f:Ak}{q:Ah}{st:AL}(a0:OA K "Triple" C0 t0 s0 f)(a1:OA K "Point" C1 t1 s1 f)(a2:OA K "Line" C2 t2 s2 f)(A:gf K f q st)(hc:Nt fuel fns bl rzs exs gls st=Ab)(d0:Pg.defs 900=uh 0)(d1:Pg.defs 901=uh 1)(d2:Pg.defs 902=uh 2)(d3:Pg.defs 910=kx)(hb:∀(u0 u1 u2 kV doc pm:Al)(an:Ao Ak)(cdv ct:Al),Hd (B2 "__init__" q (Hg st) (Dh st) (AH st) .none kV doc pm an cdv ct) ⟨[u0,u1,u2],[]⟩=pure ((["self", "p", "numbers"]:Ac Ah).zip [u0,u1,u2])):InR K fns bl rzs exs gls Pg fuel:=by
  obtain⟨fd,F⟩:=A;refine⟨λc hc=>?_,d3,f,fd,_,q,st,Hl F,F.binds λkV doc pm an cdv ct us hu=>match us,hu with | [u0,u1,u2],_=>hb u0 u1 u2 kV doc pm an cdv ct,hc,λc hc=>?_⟩
  · match c,hc with
    |0,_=>exact d0
    |1,_=>exact d1
    |2,_=>exact d2
    |n+3,h=>omega
  · match c,hc with
    |0,_=>exact⟨_,KN (by decide) a0.n,a0.m⟩
    |1,_=>exact⟨_,KN (by decide) a1.n,a1.m⟩
    |2,_=>exact⟨_,KN (by decide) a2.n,a2.m⟩
    |n+3,h=>omega
theorem M7{n:Ah}{f:Ak}{st:AL}{ps N:Ac Ah}(m id:Ag)(hm:F7.lookup n=Ae)(X:K.In h)(G:h.Ns AO mg)(A:za K f n st)(hl:ps.length=m%1000)(hc:Gw fuel (CF 1000 m) fns bl rzs exs gls ps N st (Pg.defs id)=Ab)(hb:∀ us:Ac Al,us.length=ps.length->Bd n st ps us):KP K mg fns bl rzs exs gls Pg fuel (n,id,m):=by
 obtain⟨fd,F,a⟩:=A;exact⟨_,_,_,_,_,_,dA (A3 X G a) hm,⟨_,Hl F⟩,F.binds λkV doc pm an cdv ct us hu=>hb us hu kV doc pm an cdv ct,hl,hc⟩
theorem Nu{l:Ac α}(h:l.length=0):l=[]:=Eu h
theorem EY{l:Ac α}{n:Ag}(h:l.length=n+1):∃ a r,l=a::r/\r.length=n:=by
 cases l with
 |nil=>cases h
 |cons a r=>exact⟨a,r,rfl,Nat.succ.inj h⟩
theorem Mp{n:Ah}{f:Ak}{st:AL}{N:Ac Ah}(m id:Ag)(hm:F7.lookup n=Ae)(X:K.In h)(G:h.Ns AO mg)(A:za K f n st)(hl:1=m%1000)(hc:Gw fuel (CF 1000 m) fns bl rzs exs gls [x0] N st (Pg.defs id)=Ab)(hb:∀ u0,Bd n st [x0] [u0]):KP K mg fns bl rzs exs gls Pg fuel (n,id,m):=
 M7 (ps:=[x0]) m id hm X G A hl hc λus hu=>by obtain⟨u0,v0,rfl,h0⟩:=EY hu;obtain rfl:=Nu h0;exact hb u0
theorem Iu{n:Ah}{f:Ak}{st:AL}{N:Ac Ah}(m id:Ag)(hm:F7.lookup n=Ae)(X:K.In h)(G:h.Ns AO mg)(A:za K f n st)(hl:2=m%1000)(hc:Gw fuel (CF 1000 m) fns bl rzs exs gls [x0,x1] N st (Pg.defs id)=Ab)(hb:∀ u0 u1,Bd n st [x0,x1] [u0,u1]):KP K mg fns bl rzs exs gls Pg fuel (n,id,m):=
 M7 (ps:=[x0,x1]) m id hm X G A hl hc λus hu=>by obtain⟨u0,v0,rfl,h0⟩:=EY hu;obtain⟨u1,v1,rfl,h1⟩:=EY h0;obtain rfl:=Nu h1;exact hb u0 u1
theorem yY{n:Ah}{f:Ak}{st:AL}{N:Ac Ah}(m id:Ag)(hm:F7.lookup n=Ae)(X:K.In h)(G:h.Ns AO mg)(A:za K f n st)(hl:3=m%1000)(hc:Gw fuel (CF 1000 m) fns bl rzs exs gls [x0,x1,x2] N st (Pg.defs id)=Ab)(hb:∀ u0 u1 u2,Bd n st [x0,x1,x2] [u0,u1,u2]):KP K mg fns bl rzs exs gls Pg fuel (n,id,m):=
 M7 (ps:=[x0,x1,x2]) m id hm X G A hl hc λus hu=>by obtain⟨u0,v0,rfl,h0⟩:=EY hu;obtain⟨u1,v1,rfl,h1⟩:=EY h0;obtain⟨u2,v2,rfl,h2⟩:=EY h1;obtain rfl:=Nu h2;exact hb u0 u1 u2
theorem Wu{n:Ah}{f:Ak}{st:AL}{N:Ac Ah}{x3:Ah}(m id:Ag)(hm:F7.lookup n=Ae)(X:K.In h)(G:h.Ns AO mg)(A:za K f n st)(hl:4=m%1000)(hc:Gw fuel (CF 1000 m) fns bl rzs exs gls [x0,x1,x2,x3] N st (Pg.defs id)=Ab)(hb:∀ u0 u1 u2 u3,Bd n st [x0,x1,x2,x3] [u0,u1,u2,u3]):KP K mg fns bl rzs exs gls Pg fuel (n,id,m):=
 M7 (ps:=[x0,x1,x2,x3]) m id hm X G A hl hc λus hu=>by obtain⟨u0,v0,rfl,h0⟩:=EY hu;obtain⟨u1,v1,rfl,h1⟩:=EY h0;obtain⟨u2,v2,rfl,h2⟩:=EY h1;obtain⟨u3,v3,rfl,h3⟩:=EY h2;obtain rfl:=Nu h3;exact hb u0 u1 u2 u3
theorem xg{n:Ah}{f:Ak}{st:AL}{N:Ac Ah}{x3 x4 x5 x6 x7 x8:Ah}(m id:Ag)(hm:F7.lookup n=Ae)(X:K.In h)(G:h.Ns AO mg)(A:za K f n st)(hl:9=m%1000)(hc:Gw fuel (CF 1000 m) fns bl rzs exs gls [x0,x1,x2,x3,x4,x5,x6,x7,x8] N st (Pg.defs id)=Ab)(hb:∀ u0 u1 u2 u3 u4 u5 u6 u7 u8,Bd n st [x0,x1,x2,x3,x4,x5,x6,x7,x8] [u0,u1,u2,u3,u4,u5,u6,u7,u8]):KP K mg fns bl rzs exs gls Pg fuel (n,id,m):=
 M7 (ps:=[x0,x1,x2,x3,x4,x5,x6,x7,x8]) m id hm X G A hl hc λus hu=>by obtain⟨u0,v0,rfl,h0⟩:=EY hu;obtain⟨u1,v1,rfl,h1⟩:=EY h0;obtain⟨u2,v2,rfl,h2⟩:=EY h1;obtain⟨u3,v3,rfl,h3⟩:=EY h2;obtain⟨u4,v4,rfl,h4⟩:=EY h3;obtain⟨u5,v5,rfl,h5⟩:=EY h4;obtain⟨u6,v6,rfl,h6⟩:=EY h5;obtain⟨u7,v7,rfl,h7⟩:=EY h6;obtain⟨u8,v8,rfl,h8⟩:=EY h7;obtain rfl:=Nu h8;exact hb u0 u1 u2 u3 u4 u5 u6 u7 u8
end
structure Dk where
 p:D
 l:Ac D
 c:D
 ps:Ac D
variable{q:Dk}
inductive RK where
 |ok (d:D) (q:Dk)|exn (x:Ex)|bad
variable{G:Dk->Ac D->RK}
def qe(r:RK)(P:D->Dk->Prop)(Z_:Ex->Prop):Prop:=match r with
  |.ok d q=>P d q
  |.exn x=>Z_ x
  |.bad=>AM
noncomputable def yx(v1 v2 v3:V)(la:Ak):Ac (Ah×V):=[("p",v1),("points",v2),("curve",v3),("past",.ref la)]
section
variable(K:Fg)(CL:ClA)
def DK(H:Hp)(A:Ak->Prop)(C a la:Ak)(q:Dk):Prop:=∃ dx v1 v2 v3 xs,H a=Aa (.ins C dx (yx v1 v2 v3 la))/\H la=Aa (.lst xs)/\Z7 K CL H A v1 q.p/\Z7 K CL H A v2 (.lst q.l)/\Z7 K CL H A v3 q.c/\Z9 K CL H A xs q.ps
def KB(a la:Ak)(H H':Hp):Prop:=∀ b o,H b=Aa o->b≠a->b≠la->H' b=Aa o
def AV(A:Ak->Prop)(v:V):Ak->Prop:=λb=>A b\/v=.ref b
def wa(C:Ak)(m:Ag)(G:Dk->Ac D->RK):Sp:=λvs H Q E=>∃(a la:Ak)(us:Ac V)(ds:Ac D)(A:Ak->Prop)(q:Dk),vs=.ref a::us/\us.length=m/\Tm H A/\A a/\A la/\Z9 K CL H A us ds/\DK K CL H A C a la q/\qe (G q ds) (λd q'=>∀ v H',KB a la H H'->Cw K CL Ab H A H' v d->DK K CL H' (AV A v) C a la q'->Q v H') (λx=>∀ cls dx H',Az H H'->Dy K CL H' cls dx x->E cls dx H')
end
section
variable{K:Fg}{CL:ClA}{H H' H2:Hp}{A:Ak->Prop}{C a la:Ak}{q:Dk}
theorem KB.kp(k:KB a la H H')(ha:A a)(hl:A la):Kp A H H':=λb o e n=>k b o e (λz=>n (z ▸ ha)) λz=>n (z ▸ hl)
theorem KB.of(s:Az H H'):KB a la H H':=λb o e _ _=>s b o e
theorem KB.trans(k:KB a la H H')(k':KB a la H' H2):KB a la H H2:=λb o e n m=>k' b o (k b o e n m) n m
theorem DK.same(d:DK K CL H A C a la q)(s:Az H H'):DK K CL H' A C a la q:=by
 obtain⟨dx,v1,v2,v3,xs,h1,h2,r1,r2,r3,r4⟩:=d;exact⟨dx,v1,v2,v3,xs,s _ _ h1,s _ _ h2,r1.same s,r2.same s,r3.same s,r4.same s⟩
theorem DK.sub{A':Ak->Prop}(d:DK K CL H A C a la q)(k:∀ b,A' b->A b):DK K CL H A' C a la q:=by
 obtain⟨dx,v1,v2,v3,xs,h1,h2,r1,r2,r3,r4⟩:=d;exact⟨dx,v1,v2,v3,xs,h1,h2,Z7.sub k _ r1,Z7.sub k _ r2,Z7.sub k _ r3,Z9.sub k _ r4⟩
theorem DK.un{v:V}(d:DK K CL H (AV A v) C a la q):DK K CL H A C a la q:=d.sub λ_ h=>.inl h
theorem DK.non(d:DK K CL H A C a la q):DK K CL H (AV A .non) C a la q:=d.sub λ_ h=>h.elim id λz=>nomatch z
theorem DK.new{t:Ak}(d:DK K CL H A C a la q)(ht:H t=Ae):DK K CL H (AV A (.ref t)) C a la q:=by
 obtain⟨dx,v1,v2,v3,xs,h1,h2,r1,r2,r3,r4⟩:=d;have k:∀ b,AV A (.ref t) b->A b\/H b=Ae:=λb h=>h.imp id λz=>by cases z;exact ht
 exact⟨dx,v1,v2,v3,xs,h1,h2,Z7.wide k _ r1,Z7.wide k _ r2,Z7.wide k _ r3,Z9.wide k _ r4⟩
theorem DK.aok(d:DK K CL H' A C a la q)(k:KB a la H H')(h:Tm H A):Tm H' A:=λb hb=>by
 obtain⟨dx,v1,v2,v3,xs,h1,h2,_⟩:=d;by_cases e1:b=a
 .rw[e1];exact⟨_,h1,trivial⟩
 .by_cases e2:b=la
  .rw[e2];exact⟨_,h2,trivial⟩
  .obtain⟨o,ho,w⟩:=h b hb;exact⟨o,k b o ho e1 e2,w⟩
end
structure uq (K:Fg) (C:Ak):Prop where
 cl:wl K C
 n1:FM K C "p"
 n2:FM K C "points"
 n3:FM K C "curve"
 n4:FM K C "past"
section
variable{X:Cx}{C:Ak}(dc:uq X.K C)(ps:∀ p,PE X (.Name "self" p) (Ch 0))
include dc ps
theorem Q8{p p':AF}:PE X (.Attribute (.Name "self" p) "p" p') (λY H Q=>∃ a dx v1 v2 v3 la,Y[0]?=Aa (Aa (.ref a))/\H a=Aa (.ins C dx (yx v1 v2 v3 la))/\Q v1 H):=
 PE.weak (Og (ps p) rfl) λY H Q ⟨a,dx,v1,v2,v3,la,h1,h2,q⟩=>⟨_,h1,a,C,dx,_,v1,rfl,h2,dc.cl,dc.n1,rfl,q⟩
theorem Nd{p p':AF}:PE X (.Attribute (.Name "self" p) "points" p') (λY H Q=>∃ a dx v1 v2 v3 la,Y[0]?=Aa (Aa (.ref a))/\H a=Aa (.ins C dx (yx v1 v2 v3 la))/\Q v2 H):=
 PE.weak (Og (ps p) rfl) λY H Q ⟨a,dx,v1,v2,v3,la,h1,h2,q⟩=>⟨_,h1,a,C,dx,_,v2,rfl,h2,dc.cl,dc.n2,rfl,q⟩
theorem V2{p p':AF}:PE X (.Attribute (.Name "self" p) "curve" p') (λY H Q=>∃ a dx v1 v2 v3 la,Y[0]?=Aa (Aa (.ref a))/\H a=Aa (.ins C dx (yx v1 v2 v3 la))/\Q v3 H):=
 PE.weak (Og (ps p) rfl) λY H Q ⟨a,dx,v1,v2,v3,la,h1,h2,q⟩=>⟨_,h1,a,C,dx,_,v3,rfl,h2,dc.cl,dc.n3,rfl,q⟩
theorem Q9{p p':AF}:PE X (.Attribute (.Name "self" p) "past" p') (λY H Q=>∃ a dx v1 v2 v3 la,Y[0]?=Aa (Aa (.ref a))/\H a=Aa (.ins C dx (yx v1 v2 v3 la))/\Q (.ref la) H):=
 PE.weak (Og (ps p) rfl) λY H Q ⟨a,dx,v1,v2,v3,la,h1,h2,q⟩=>⟨_,h1,a,C,dx,_,.ref la,rfl,h2,dc.cl,dc.n4,rfl,q⟩
end
noncomputable def tj(ps N:Ac Ah)(st:AL):An:=(AH st).kind==.function&&(!(AH st).isCoroutine&&(!(AH st).isGenerator&&(Jx N&&(N.take ps.length==ps&&(N.all (λx=>(AH st).names.lookup x==Aa .local)&&(AH st).names.all (λy=>y.2 != .free))))))
structure ScO (ps N:Ac Ah) (st:AL):Prop where
 fs:zX N ps (AH st)
 loc:∀ x∈N,(AH st).names.lookup x=Aa .local
theorem JB{ps N:Ac Ah}{st:AL}(h:tj ps N st=Ab):ScO ps N st:=by
 unfold tj at h;simp only[Am,AD,Bf,Bh,EZ,JP]at h;obtain⟨c1,c2,c3,c4,c5,c6,c7⟩:=h;exact⟨⟨c1,c2,c3,IF c4,c5,λx hx=>.inl (c6 x (by rw[<-c5]at hx;exact List.mem_of_mem_take hx)),c7⟩,c6⟩
noncomputable def WE(K:Fg)(CL:ClA)(E:XK):XW:=λy H'=>∀ cls dx,Dy K CL H' cls dx y->E cls dx H'
section
variable{X:Cx}{C:Ak}
theorem eY{k}(dc:uq X.K C)(ps:∀ p,PE X (.Name "self" p) (Ch 0))(pl:∀ p,PE X (.Name "points" p) (Ch 1))(pc:∀ p,PE X (.Name "curve" p) (Ch 2))(hl:(p3.endLine==p9.line)=Ab):
  yp X [.Expr (.Call (.Attribute (.Attribute (.Name "self" p1) "past" p2) "append" p3) [.Tuple [.Attribute (.Name "self" p4) "points" p5,.Attribute (.Name "self" p6) "curve" p7] k p8] [] p9) p10,.Assign [.Attribute (.Name "self" w4) "points" wg] (.Name "points" ux) uj,.Assign [.Attribute (.Name "self" uk) "curve" ul] (.Name "curve" vj) um]
   (λD Y H=>∃ a la y2 y3 dx v1 v2 v3 xs,Y[0]?=Aa (Aa (.ref a))/\Y[1]?=Aa (Aa y2)/\Y[2]?=Aa (Aa y3)/\H a=Aa (.ins C dx (yx v1 v2 v3 la))/\H la=Aa (.lst xs)/\xs.length<sizeLine/\∀ t,H t=Ae->D.nx Y (upd (upd (upd (upd H t (.tup [v2,v3])) la (.lst (xs++[.ref t]))) a (.ins C dx (yx v1 y2 v3 la))) a (.ins C dx (yx v1 y2 y3 la)))):=by
 refine yp.weak (B9 (Kc (IL BJ D5 D6 NO (Q9 dc ps) (Bv (Od (Bv (Nd dc ps) (Bv (V2 dc ps) Ca rfl) rfl)) Ca rfl) rfl rfl hl rfl rfl) rfl) (B9 (IK (ps w4) (pl ux) rfl) (DT (IK (ps uk) (pc vj) rfl)))) ?_;rintro D Y H ⟨a,la,y2,y3,dx,v1,v2,v3,xs,s0,s1,s2,ha,zj,hz,q⟩;have ne:la≠a:=λz=>by rw[z,ha]at zj;cases zj
 refine⟨a,dx,v1,v2,v3,la,s0,ha,.inl ⟨rfl,xs,Id.of zj⟩,a,dx,v1,v2,v3,la,s0,ha,a,dx,v1,v2,v3,la,s0,ha,by rw[Bz];exact AR rfl,λt ht=>?_⟩
 have nt:t≠la:=λz=>by rw[z,zj]at ht;cases ht
 have Ñ:t≠a:=λz=>by rw[z,ha]at ht;cases ht
 have h1:(upd (upd H t (.tup [v2,v3])) la (.lst (xs++[.ref t]))) a=Aa (.ins C dx (yx v1 v2 v3 la)):=by rw[AQ (CG ne),AQ (CG Ñ)];exact ha
 exact⟨la,xs,.ref t,rfl,rfl,by rw[AQ (CG nt)];exact zj,hz,y2,s1,.ref a,s0,a,C,dx,_,rfl,h1,dc.cl,dc.n2,AR rfl,y3,s2,.ref a,s0,a,C,dx,_,rfl,BO,dc.cl,dc.n3,AR rfl,q t ht⟩
noncomputable def G6(q:Dk)(l:Ac D)(c:D):Dk:=⟨q.p,l,c,q.ps++[.tup [.lst q.l,q.c]]⟩
noncomputable def OZ(q:Dk):Ac D->RK
 |[.lst l,c]=>if q.ps.length<900 then .ok .non (G6 q l c) else .bad
 |_=>.bad
end
section
variable{P:AK}{w:AI}{K:Fg}{mg:Ah->Ao Al}{base:AJ}{CL:ClA}{n:Ag}{C:Ak}
theorem sQ{st:AL}{f:Ak}{k}(dc:uq K C)(hf:zf K x qual st f fd)(hs:tj ["self", "points", "curve"] ["self", "points", "curve"] st=Ab)(hl:(p3.endLine==p9.line)=Ab)
    (hb:Dh st=[.Expr (.Call (.Attribute (.Attribute (.Name "self" p1) "past" p2) "append" p3) [.Tuple [.Attribute (.Name "self" p4) "points" p5,.Attribute (.Name "self" p6) "curve" p7] k p8] [] p9) p10,.Assign [.Attribute (.Name "self" w4) "points" wg] (.Name "points" ux) uj,.Assign [.Attribute (.Name "self" uk) "curve" ul] (.Name "curve" vj) um]):
    Y4 P w K mg base (CXR P w) (n+1) f fd ["self", "points", "curve"] (wa K CL C 2 OZ):=by
  obtain⟨oc,od,dV,kV,doc,pm,an,cdv,ct,osl,rfl,lk,zy⟩:=hf.ex;have sc:=JB hs;refine Hm lk zy sc.fs (λvs H Q E ⟨a,la,us,ds,A,q,e,z,_⟩=>by rw[e,A8,z];rfl) λA outer s H vs Q E hr ⟨a,la,us,ds,B,q,e,U8,hA,ha,zj,rs,dk,hp⟩=>?_
  subst e;rw[hb];refine⟨_,eY dc (λp=>Dw rfl (.inl (sc.loc "self" (by simp)))) (λp=>Dw rfl (.inl (sc.loc "points" (by simp)))) (λp=>Dw rfl (.inl (sc.loc "curve" (by simp)))) hl,?_⟩
  match us,ds,U8,rs with
  |[y2,y3],[d2,d3],_,⟨r2,r3,_⟩=>
    cases d2 with
    |lst l=>
      have hp:qe (if q.ps.length<900 then RK.ok .non (G6 q l d3) else .bad) _ _:=hp
      by_cases hz:q.ps.length<900
      · rw[Au hz]at hp;obtain⟨dx,v1,v2,v3,xs,h1,h2,r4,r5,r6,r7⟩:=dk;have ne:la≠a:=λz=>by rw[z,h1]at h2;cases h2
        refine⟨a,la,y2,y3,dx,v1,v2,v3,xs,rfl,rfl,rfl,h1,h2,by rw[r7.length,Bz];omega,λt ht=>?_⟩
        have kb:KB a la H (upd (upd (upd (upd H t (.tup [v2,v3])) la (.lst (xs++[.ref t]))) a (.ins C dx (yx v1 y2 v3 la))) a (.ins C dx (yx v1 y2 y3 la))):=λb o e n1 n2=>by
          rw[AQ n1,AQ n1,AQ n2,AQ (Er e ht)];exact e
        have kp:=kb.kp ha zj;have nt:t≠la:=λz=>by rw[z,h2]at ht;cases ht
        have Ñ:t≠a:=λz=>by rw[z,h1]at ht;cases ht
        refine hp .non _ kb ⟨rfl,λ_ _ z=>nomatch z⟩ (DK.non ⟨dx,v1,y2,y3,xs++[.ref t],BO,?_,Z7.kp kp _ r4,Z7.kp kp _ r2,Z7.kp kp _ r3,(Z9.kp kp _ r7).append ⟨⟨t,[v2,v3],rfl,.inl (hA.new ht),yy.of ?_,Z7.kp kp _ r5,Z7.kp kp _ r6,trivial⟩,trivial⟩⟩)
        · rw[AQ ne,AQ ne];exact BO
        · rw[AQ Ñ,AQ Ñ,AQ nt];exact BO
      · rw[Ay hz]at hp;exact hp.elim
    |_=>exact hp.elim
  |[_,_],[],_,r=>exact r.elim
  |[_,_],[_],_,r=>exact r.2.elim
  |[_,_],_::_::_::_,_,r=>exact r.2.2.elim
end
section
variable{K:Fg}{CL:ClA}{H:Hp}{A:Ak->Prop}{U:Rho}{Y:L2.St}
theorem Ol(hA:Tm H A)(g:Y9 K CL A U Y H)(no:∀(i:Ag)(d:D),U[i]?≠Aa (Aa (d,Ab))):Sx K CL ⟨λb o=>H b=Aa o,λ_ _ _=>AM⟩ A U Y H:=by
 have own:∀ b,BN A U Y b->A b:=λb h=>h.elim id λ⟨j,d,h1,_⟩=>absurd h1 (no j d)
 exact⟨⟨λi d h=>let ⟨v,q,r⟩:=g.sh i d h;⟨v,q,Z7.sub own _ r⟩,λi d h=>absurd h (no i d),g.len⟩,λb h=>hA b (own b h),λj d b h=>absurd h (no j d),λi j d e b h=>absurd h (no i d),λ_ _ z=>z,g.len,λj h=>absurd h (no j _)⟩
def î(K:Fg)(CL:ClA)(A:Ak->Prop)(H:Hp):Rho->L2.St->Prop
 |[],[]=>F3
 |some (d,o)::U,v::Y=>(o=Af/\∃ u,v=Aa u/\Z7 K CL H A u d)/\î K CL A H U Y
 |none::U,_::Y=>î K CL A H U Y
 |_,_=>AM
theorem HF:∀{U:Rho}{Y:L2.St},î K CL A H U Y->Y9 K CL A U Y H/\∀(i:Ag)(d:D),U[i]?≠Aa (Aa (d,Ab))
 |[],[],_=>⟨⟨λi d h=>by simp at h,λi d h=>by simp at h,rfl⟩,λi d h=>by simp at h⟩
 |some (d,o)::U,v::Y,h=>by
  obtain⟨⟨e,u,rfl,r⟩,h⟩:=h;subst e;obtain⟨g,n⟩:=HF h;have n':∀(i:Ag)(e:D),(Aa (d,Af)::U)[i]?≠Aa (Aa (e,Ab)):=λi e z=>by
   cases i with
   |zero=>cases z
   |succ i=>exact n i e z
  refine⟨⟨λi e z=>?_,λi e z=>absurd z (n' i e),congrArg (· + 1) g.len⟩,n'⟩
  cases i with
  |zero=>cases z;exact⟨u,rfl,r⟩
  |succ i=>exact g.sh i e z
 |none::U,v::Y,h=>by
  obtain⟨g,n⟩:=HF (show î K CL A H U Y from h)
  have n':∀(i:Ag)(e:D),(Ae::U)[i]?≠Aa (Aa (e,Ab)):=λi e z=>by
   cases i with
   |zero=>cases z
   |succ i=>exact n i e z
  refine⟨⟨λi e z=>?_,λi e z=>absurd z (n' i e),congrArg (· + 1) g.len⟩,n'⟩
  cases i with
  |zero=>cases z
  |succ i=>exact g.sh i e z
 |[],_::_,h=>h.elim
 |some (_,_)::_,[],h=>h.elim
 |none::_,[],h=>h.elim
end
section
variable{P:AK}{w:AI}{K:Fg}{mg:Ah->Ao Al}{base:AJ}{CL:ClA}{fns:Ac (Ah×Ag×Ag)}{bl:Ac Ah}{rzs exs gls:Ac (Ah×Ag)}{Pg:Prg}{fuel n:Ag}{C:Ak}
theorem Lr(t:ww K mg CL fns bl rzs exs gls Pg fuel){ps N:Ac Ah}{st:AL}{f:Ak}{A:A4}{s:Ar}{E:XK}(sc:ScO ps N st)(hr:U5 n (A.deeper (D3 qual (AH st) s.heap.objs.size f cdv))):VX (Z6 Pg n) CL n (WE K CL E) ⟨AH st,N,fns,bl,rzs,exs,gls,Ab⟩ (B1 (CXR P w) P w K mg base N qual (AH st) f cdv A outer s H E):=by
 have hW:∀ x cls dx H',WE K CL E x H'->Dy K CL H' cls dx x->E cls dx H':=λx cls dx H' z r=>z cls dx r
 have xt:XT (Z6 Pg n).up (Z6 Pg n).xn CL rzs exs K mg:=by rw[KD,Ld];exact t.xt
 have gl:∀ p∈gls,JL K mg CL p.1 ((Z6 Pg n).G p.2):=by rw[KH];exact t.gl
 exact⟨rfl,sc.fs.kind,rfl,sc.fs.nd,rfl,hr,t.bln,t.os,Vj t n,Vi t n,sy,OK hW,Þ hW,xt,gl,λ_=>rfl⟩
end
section
variable{X:Cx}{C:Ak}(dc:uq X.K C)(ps:∀ p,PE X (.Name "self" p) (Ch 0))(hu:X.A.units+64<Bx)(gn:Gl X "len")(mn:X.mg "len" = Ae)
include dc ps hu gn mn
theorem oO{k}:PT X (.Compare (.Call (.Name "len" p1) [.Attribute (.Name "self" p2) "past" p3] [] p4) [.Eq] [.Constant (.int 0) k p5] p6) (λY H Q=>∃ a dx v1 v2 v3 la xs,Y[0]?=Aa (Aa (.ref a))/\H a=Aa (.ins C dx (yx v1 v2 v3 la))/\H la=Aa (.lst xs)/\∀ H',Az H H'->Q (decide (xs.length=0)) H'):=by
 refine PT.weak (LX (IG (W:=W0) (CL:=λ_=>Ae) hu .Eq A0) (Kl NM gn mn Jf (Bv (Q9 dc ps) Ca rfl) (by decide) (by decide) rfl rfl) Of rfl) ?_
 rintro Y H Q ⟨a,dx,v1,v2,v3,la,xs,s0,ha,zj,q⟩;refine⟨a,dx,v1,v2,v3,la,s0,ha,la,xs,rfl,.inl (Id.of zj),λ_ z=>z.elim,.int xs.length,.int 0,.inl rfl,.inl rfl,?_⟩
 intro v H' sm r;refine⟨_,r,?_⟩;have e:My (.int xs.length) (.int 0)=decide (xs.length=0):=by
  show ((xs.length:Ai)==0)=_;rw[DM];simp
 rw[e];exact q H' sm
theorem nJ(gs:Gl X "str")(ms:X.mg "str" = Ae):PE X (.List [.Call (.Name "str" p1) [.Call (.Name "len" p2) [.Attribute (.Name "self" p3) "points" p4] [] p5] [] p6] p7) (λY H Q=>∃ a dx v1 v2 v3 la xs,Y[0]?=Aa (Aa (.ref a))/\H a=Aa (.ins C dx (yx v1 v2 v3 la))/\Id X.K H (match v2 with | .ref l=>l|_=>0) xs/\(∃ l,v2=.ref l)/\xs.length<1000/\∀ t,H t=Ae->Q (.ref t) (upd H t (.lst [.str (toString (xs.length:Ai))]))):=by
 refine PE.weak (L6 (Bv (PH Sq gs ms Gx (Bv (Kl NM gn mn Jf (Bv (Nd dc ps) Ca rfl) (by decide) (by decide) rfl rfl) Ca rfl) (by decide) (by decide) rfl rfl) Ca rfl)) ?_
 rintro Y H Q ⟨a,dx,v1,v2,v3,la,xs,s0,ha,hl,⟨l,rfl⟩,hz,q⟩;refine⟨a,dx,v1,_,v3,la,s0,ha,l,xs,rfl,.inl hl,xs.length,rfl,?_,by rw[Bz];exact AR rfl,q⟩
 have:=Gi xs.length;rw[Hu];omega
end
noncomputable def Hq(q:Dk):Ac D->RK
  | []=>(match q.ps.getLast? with
    |none=>.exn ⟨17,[]⟩
    |some (.tup [.lst l,c])=>if l.length<900 then .ok (.lst [.str (toString (l.length:Ai))]) ⟨q.p,l,c,q.ps.dropLast⟩ else .bad
    | _=>.bad)
  |_=>.bad
theorem aW(q:Dk):(q.ps=[]/\Hq q []=.exn ⟨17,[]⟩)\/(∃ l c,q.ps.getLast?=Aa (.tup [.lst l,c])/\l.length<900/\Hq q []=.ok (.lst [.str (toString (l.length:Ai))]) ⟨q.p,l,c,q.ps.dropLast⟩)\/Hq q []=.bad:=by
 cases el:q.ps.getLast? with
 |none=>exact .inl ⟨List.getLast?_eq_none_iff.mp el,by unfold Hq;simp only[el]⟩
 |some d=>
  refine .inr ?_;have no:(∀ l c,d≠.tup [.lst l,c])->Hq q []=.bad:=λh=>by
   unfold Hq;simp only[el];split
   .rename_i z;cases z
   .rename_i l c z;exact absurd (BD z) (h l c)
   .rfl
  by_cases h:∃ l c,d=.tup [.lst l,c]
  .obtain⟨l,c,rfl⟩:=h;by_cases hz:l.length<900
   .exact .inl ⟨l,c,rfl,hz,by unfold Hq;simp only[el,Au hz]⟩
   .exact .inr (by unfold Hq;simp only[el,Ay hz])
  .exact .inr (no λl c e=>h ⟨l,c,e⟩)
theorem ü{u:Ao V}{y:V}{d:D}(r:Z7 K CL H A y d):Y9 K CL A [Ae,Aa (d,Af)] [u,Aa y] H:=(HF (K:=K) (CL:=CL) (A:=A) (H:=H) (U:=[Ae,Aa (d,Af)]) (Y:=[u,Aa y]) ⟨⟨rfl,y,rfl,r⟩,trivial⟩).1
section
variable{P:AK}{w:AI}{K:Fg}{mg:Ah->Ao Al}{base:AJ}{CL:ClA}{fns:Ac (Ah×Ag×Ag)}{bl:Ac Ah}{rzs exs gls:Ac (Ah×Ag)}{Pg:Prg}{fuel n:Ag}{C:Ak}
theorem lP(t:ww K mg CL fns bl rzs exs gls Pg fuel){st sr:AL}{e0:Aq}{f:Ak}{ck cq k9:AF}{k}(dc:uq K C)(hf:zf K x qual st f fd)(hs:tj ["self"] ["self", "ahead"] st=Ab)
  (hb:Dh st=[.If (.Compare (.Call (.Name "len" p1) [.Attribute (.Name "self" p2) "past" p3] [] p4) [.Eq] [.Constant (.int 0) k p5] p6) [sr] [] p7,.Assign [.Name "ahead" p8] (.Call (.Attribute (.Attribute (.Name "self" p9) "past" p10) "pop" w4) [] [] wg) ux,.Assign [.Attribute (.Name "self" uj) "points" uk] e0 ul,.Assign [.Attribute (.Name "self" vj) "curve" um] e1 pf,.Return (Aa (.List [.Call (.Name "str" nu) [.Call (.Name "len" nv) [.Attribute (.Name "self" kz) "points" cj] [] ja] [] ck] cq)) k9])
  (hl:(w4.endLine==wg.line)=Ab) (hg:(yi ⟨AH st,["self", "ahead"],fns,bl,rzs,exs,gls,Ab⟩ "len" && yi ⟨AH st,["self", "ahead"],fns,bl,rzs,exs,gls,Ab⟩ "str")=Ab)
  (c0:Be fuel ⟨AH st,["self", "ahead"],fns,bl,rzs,exs,gls,Ab⟩ e0 (.idx (.var 1) (.int 0))=Ab) (c1:Be fuel ⟨AH st,["self", "ahead"],fns,bl,rzs,exs,gls,Ab⟩ e1 (.idx (.var 1) (.int 1))=Ab) (nc:(F4 e0&&F4 e1)=Ab)
  (cr:Ja fuel ⟨AH st,["self", "ahead"],fns,bl,rzs,exs,gls,Ab⟩ sr (.rais 17 (.cons (.str txt) .nil))=Ab) (qh:Pg.xn 17 [.str txt]=.ok ⟨17,[]⟩):
  Y4 P w K mg base (CXR P w) (n+1) f fd ["self"] (wa K CL C 0 Hq):=by
 obtain⟨oc,od,dV,kV,doc,pm,an,cdv,ct,osl,rfl,lk,zy⟩:=hf.ex;have sc:=JB hs;refine Hm lk zy sc.fs (λvs H Q E ⟨a,la,us,ds,A,q,e,z,_⟩=>by rw[e,A8,z];rfl) λA outer s H vs Q E hr ⟨a,la,us,ds,B,q,e,U8,hA,ha,zj,rs,dk,hp⟩=>?_
 subst e;rw[hb];have v:=Lr (P:=P) (w:=w) (base:=base) (outer:=outer) (H:=H) (E:=E) t sc hr;obtain⟨kh,w9⟩:=Bk hg;obtain⟨b9,nc2⟩:=Bk nc;obtain⟨g1,g2,_,_⟩:=Hj v kh;obtain⟨g3,g4,_,_⟩:=Hj v w9;have U9:∀ p,PE (B1 (CXR P w) P w K mg base ["self", "ahead"] qual (AH st) f cdv A outer s H E) (.Name "self" p) (Ch 0):=λp=>Dw rfl (.inl (sc.loc "self" (by simp)))
 have s0:=((zp fuel).e _ _ _ e0 _ v c0).se B;have s1:=((zp fuel).e _ _ _ e1 _ v c1).se B;have sr':=(IW fuel).s _ _ _ sr _ v ⟨λ_=>rfl,rfl,rfl,rfl⟩ cr ⟨λb o=>H b=Aa o,λ_ _ _=>AM⟩ B
 refine⟨_,B9 (FJ (oO dc U9 v.room.units g1 g2) (DT sr') GV) (B9 (EE (i:=1) sc.fs.nd rfl (.inl (sc.loc "ahead" (by simp))) (VE BJ Y_4 Y_8 VG (Q9 dc U9) rfl hl) rfl (.inl rfl)) (B9 (IK (U9 uj) s0 (HJ b9)) (B9 (IK (U9 vj) s1 (HJ nc2)) (DT (Hi (nJ dc U9 v.room.units g1 g2 g3 g4)))))),?_⟩
 have e0:us=[]:=Eu U8;subst e0;have ed:ds=[]:=by cases ds with|nil=>rfl|cons=>exact rs.elim
 subst ed;obtain⟨dx,v1,v2,v3,xs,h1,h2,r4,r5,r6,r7⟩:=dk;have ne:la≠a:=λz=>by rw[z,h1]at h2;cases h2
 have lx:=r7.length;have ho:=aW q;generalize Hq q []=r at hp ho;refine⟨a,dx,v1,v2,v3,la,xs,rfl,h1,h2,λH1 sm=>?_⟩
 have j4:=hA.same sm;dsimp only;rcases ho with ⟨e1,rfl⟩|⟨l,c,el,hl9,rfl⟩|rfl
 .rw[e1]at lx;rw[Au (by rw[lx];rfl)]
  have g:=HF (K:=K) (CL:=CL) (A:=B) (H:=H1) (U:=[Ae,Ae]) (Y:=[Aa (.ref a),Ae]) trivial;have sx:Sx K CL ⟨λb o=>H b=Aa o,λ_ _ _=>AM⟩ B [Ae,Ae] (L2.start ["self", "ahead"] [.ref a]) H1:=Sx.mono (Fy:=⟨λb o=>H1 b=Aa o,λ_ _ _=>AM⟩) (λb o z=>sm b o z) (λ_ _ _ z=>z) (Ol j4 g.1 g.2)
  refine⟨[Ae,Ae],sx,?_⟩;have e2:ye (Z6 Pg n) [Ae,Ae] (.cons (.str txt) .nil)=.ok [.str txt]:=rfl;rw[Um,e2];show B4 K CL _ B (WE K CL E) (O.of _ ((Z6 Pg n).xn 17 [.str txt]) λx=>.exn x _) _
  rw[Ld,qh];exact λH2 s2 cls dx xr=>hp cls dx H2 (λb o z=>s2 b o z) xr
 .have e1:q.ps≠[]:=λz=>by rw[z]at el;cases el
  have lp:0<q.ps.length:=List.length_pos_iff.mpr e1;rw[Ay (by rw[AG];omega)]
  rw[XY]at el;obtain⟨y,hy,ry⟩:=r7.get el;rw[<-lx]at hy;refine⟨a,dx,v1,v2,v3,la,rfl,sm _ _ h1,.inl ⟨rfl,xs,Id.of (sm _ _ h2)⟩,la,xs,y,rfl,rfl,sm _ _ h2,hy,?_⟩;have k2:KB a la H (upd H1 la (.lst xs.dropLast)):=λb o e n1 n2=>by rw[AQ n2];exact sm _ _ e
  have aj:Tm (upd H1 la (.lst xs.dropLast)) B:=λb hb=>by
   by_cases e:b=la
   .rw[e];exact⟨_,BO,trivial⟩
   .rw[AQ e];exact j4 b hb
  have a2:(upd H1 la (.lst xs.dropLast)) a=Aa (.ins C dx (yx v1 v2 v3 la)):=by rw[AQ (CG ne)];exact sm _ _ h1
  refine⟨aj,[Ae,Aa (.tup [.lst l,c],Af)],ü (Z7.kp (k2.kp ha zj) _ ry),?_⟩;have w1:evE (Z6 Pg n) [Ae,Aa (.tup [.lst l,c],Af)] (.idx (.var 1) (.int 0))=.ok (.lst l):=rfl;have w2:evE (Z6 Pg n) [Ae,Aa (.tup [.lst l,c],Af)] (.idx (.var 1) (.int 1))=.ok c:=rfl;show AW _ _ _ (evE (Z6 Pg n) [Ae,Aa (.tup [.lst l,c],Af)] (.idx (.var 1) (.int 0))) _;rw[w1];intro y1 H3 s3 ry1;have a3:=s3 _ _ a2;have k4:KB a la H (upd H3 a (.ins C dx (yx v1 y1 v3 la))):=λb o e n1 n2=>by rw[AQ n1];exact s3 _ _ (k2 b o e n1 n2)
  have k34:KB a la H3 (upd H3 a (.ins C dx (yx v1 y1 v3 la))):=λb o e n1 n2=>by rw[AQ n1];exact e
  refine⟨.ref a,rfl,a,C,dx,_,rfl,a3,dc.cl,dc.n2,AR rfl,?_⟩;have hA4:Tm (upd H3 a (.ins C dx (yx v1 y1 v3 la))) B:=λb hb=>by
   by_cases e:b=a
   .rw[e];exact⟨_,BO,trivial⟩
   .rw[AQ e];exact aj.same s3 b hb
  refine⟨hA4,[Ae,Aa (.tup [.lst l,c],Af)],ü (Z7.kp (k4.kp ha zj) _ ry),?_⟩;show AW _ _ _ (evE (Z6 Pg n) [Ae,Aa (.tup [.lst l,c],Af)] (.idx (.var 1) (.int 1))) _;rw[w2];intro y2 H5 s5 de;have k6:KB a la H (upd H5 a (.ins C dx (yx v1 y1 y2 la))):=λb o e n1 n2=>by rw[AQ n1];exact s5 _ _ (k4 b o e n1 n2)
  have k36:KB a la H3 (upd H5 a (.ins C dx (yx v1 y1 y2 la))):=λb o e n1 n2=>by rw[AQ n1];exact s5 _ _ (k34 b o e n1 n2)
  have k56:KB a la H5 (upd H5 a (.ins C dx (yx v1 y1 y2 la))):=λb o e n1 n2=>by rw[AQ n1];exact e
  refine⟨.ref a,rfl,a,C,dx,_,rfl,s5 _ _ BO,dc.cl,dc.n3,AR rfl,?_⟩;have R1:Z7 K CL (upd H5 a (.ins C dx (yx v1 y1 y2 la))) B y1 (.lst l):=Z7.kp (k36.kp ha zj) _ ry1;obtain⟨l1,ys,rfl,nl1,sq1,rl1⟩:=R1;have l6:(upd H5 a (.ins C dx (yx v1 (.ref l1) y2 la))) la=Aa (.lst xs.dropLast):=by
   rw[AQ ne];refine s5 _ _ ?_;rw[AQ ne];exact s3 _ _ BO
  have hA6:Tm (upd H5 a (.ins C dx (yx v1 (.ref l1) y2 la))) B:=λb hb=>by
   by_cases e:b=a
   .rw[e];exact⟨_,BO,trivial⟩
   .rw[AQ e];exact hA4.same s5 b hb
  have ly:=rl1.length;refine⟨a,dx,v1,.ref l1,y2,la,ys,rfl,BO,sq1,⟨l1,rfl⟩,by omega,λt ht=>?_⟩
  have ht:(upd H5 a (.ins C dx (yx v1 (.ref l1) y2 la))) t=Ae:=ht;have s7:Az (upd H5 a (.ins C dx (yx v1 (.ref l1) y2 la))) (upd (upd H5 a (.ins C dx (yx v1 (.ref l1) y2 la))) t (.lst [.str (toString (ys.length:Ai))])):=ES ht _;have tN:H t=Ae:=by
   cases e:H t with
   |none=>rfl
   |some o=>
    by_cases n1:t=a
    .rw[n1,BO]at ht;cases ht
    .by_cases n2:t=la
     .rw[n2,l6]at ht;cases ht
     .rw[k6 t o e n1 n2]at ht;cases ht
  refine hp (.ref t) _ (k6.trans (KB.of s7)) ⟨?_,λ_ es ee=>?_⟩ (DK.same (DK.new ⟨dx,v1,.ref l1,y2,xs.dropLast,BO,l6,Z7.kp (k6.kp ha zj) _ r4,⟨l1,ys,rfl,nl1,sq1,rl1⟩,Z7.kp (k56.kp ha zj) _ de,?_⟩ ht) s7)
  .rw[<-ly];exact⟨t,_,rfl,.inl (hA6.new ht),Id.of BO,rfl,trivial⟩
  .cases ee;rw[<-ly];exact⟨t,_,rfl,tN,BO,rfl,trivial⟩
  .have:=Z9.take (xs.length-1) (Z9.kp (k6.kp ha zj) _ r7);rw[<-Ez]at this
   rwa [lx,<-Ez]at this
 .exact hp.elim
end
section
variable{Z:Z4}{CL:ClA}{W:XW}{k:Ag}{T:Tc}{X:Cx}
theorem OJ(v:VX Z CL k W T X){g:Ah}{id m:Ag}{e:Aq}{es:Ac Aq}{ta:TA}{p pos:AF}(hm:(g,id,m)∈T.fns)(h1:m<1000)(hmt:F7.lookup g=Ae)(rj:zn T g=Ab)(ha:PA X (e::es) ta)(zS:(g==("__debug__" : Ah))=Af:=by decide)(he:Aw (e::es) X.env=(Af,eval e X.env)::Aw es X.env:=by rfl)(zR:(Br pos (Aw es X.env)).any (·.1)=Af:=by rfl):PE X (.Call (.Name g p) (e::es) [] pos) (V5 (spD X.K CL m (Z.fr id) (Z.F id)) [] (EKW X.K CL A0 W) ta):=by
 obtain⟨f,fd,ps,hl,kp,hb,U8,F,_⟩:=v.fn _ hm;have F:=F h1;have em:(g,id,m).2.2%1000=m:=Yh h1;rw[em]at F;refine Kd F v.room ?_ (P9 hl hmt) kp hb .nil (v.px A0) ha zS he zR;show X.env.scope.names.lookup g=_;rw[v.sc];exact AD.mp rj
end
section
variable{K:Fg}{CL:ClA}{H H1 H2:Hp}{A:Ak->Prop}{us:Ac V}{ds:Ac D}{v:V}{d:D}
theorem NU(hl:us.length=1)(r:Z9 K CL H A us ds):∃ u d,us=[u]/\ds=[d]/\Z7 K CL H A u d:=by
  match us,ds,hl,r with
  |[u],[d],_,r=>exact⟨u,d,rfl,rfl,r.1⟩
  |[_],[],_,r=>exact r.elim
  |[_],_::_::_,_,r=>exact r.2.elim
theorem TV(hl:us.length=2)(r:Z9 K CL H A us ds):∃ u d u' d',us=[u,u']/\ds=[d,d']/\Z7 K CL H A u d/\Z7 K CL H A u' d':=by
  match us,ds,hl,r with
  |[u,u'],[d,d'],_,r=>exact⟨u,d,u',d',rfl,rfl,r.1,r.2.1⟩
  |[_,_],[],_,r=>exact r.elim
  |[_,_],[_],_,r=>exact r.2.elim
  |[_,_],_::_::_::_,_,r=>exact r.2.2.elim
theorem P3(sm:Az H H1)(r:Cw K CL Ab H1 A H2 v d):Cw K CL Ab H A H2 v d:=⟨r.1,λ_ es ee=>by
 obtain⟨l,ys,e1,e2,e3,e4⟩:=r.2 rfl es ee;refine⟨l,ys,e1,?_,e3,e4⟩;cases eh:H l with
 |none=>rfl
 | some o=>rw[sm _ _ eh]at e2;cases e2⟩
end
section
variable{X:Cx}{CX:CXT}{k:Ag}{f C:Ak}{fd:Bi}{ps:Ac Ah}{sp:Sp}{E:XK}{m:Ah}{pos apos:AF}{e o:Aq}{es:Ac Aq}{ta:TE}{t:TA}
theorem Rc(he:PE X o ta)(c:wl X.K C)(hm:zh X.K C m f)(F:Y4 X.prog X.w X.K X.mg X.base CX k f fd ps sp)(hr:U5 k X.A)(hb:CV X.K fd ps [])(hx:HI CX X E)(ha:PA X (e::es) t)(U6:(apos.endLine==pos.line)=Ab)(ya:FP ((e::es).length+([]:Ac CB).length) (Br pos (Aw (e::es) X.env)) (D9 pos (Dg [] X.env))=Ab:=by rfl)(U7:BH o m X.env (eval o X.env)=eval o X.env:=by rfl)(yu:Aw (e::es) X.env=(Af,eval e X.env)::Aw es X.env:=by rfl)(zR:(Br pos (Aw es X.env)).any (·.1)=Af:=by rfl):PE X (.Call (.Attribute o m apos) (e::es) [] pos) (Lf C m sp [] E ta t):=by
 intro pI s Y H Q I h;rw[Gg,U7];refine As (U4 (he pI s Y H _ I h) λu s1 ⟨x,H1,I1,rx,a,dx,fs,ex,ea,l,q⟩=>?_)
 subst ex;obtain rfl:u=Bm a:=rx;refine As (CT ?_);have vw:Dl Ab o X.env apos pos=pure pos:=by
  unfold Dl;simp[U6]
 unfold HV;rw[ya];refine As (Ck (NQ I1 ea c hm l ?_));refine As (Ge vw ?_);refine DI (first:=[.ref a]) (h₀:=X.base) I.ok.mod.kin hm.kp (U4 (ha pos pI s1 Y H1 _ I1 q) λus s2 ⟨vs,H2,I2,r,q2⟩=>⟨I2.kIn,?_⟩) yu zR
 exact Oc (us:=.ref a::us) (vs:=.ref a::vs) F hr hb .nil hx I2 (.cons rfl r) q2
theorem nM(he:PE X o ta)(c:wl X.K C)(hm:zh X.K C m f)(F:Y4 X.prog X.w X.K X.mg X.base CX k f fd ps sp)(hr:U5 k X.A)(hb:CV X.K fd ps [])(hx:HI CX X E)(U6:(apos.endLine==pos.line)=Ab)(U7:BH o m X.env (eval o X.env)=eval o X.env:=by rfl):PE X (.Call (.Attribute o m apos) [] [] pos) (Lf C m sp [] E ta Mo):=by
 intro pI s Y H Q I h;rw[Gg,U7];refine As (U4 (he pI s Y H _ I h) λu s1 ⟨x,H1,I1,rx,a,dx,fs,ex,ea,l,q⟩=>?_)
 subst ex;obtain rfl:u=Bm a:=rx;refine As (CT ?_);have ya:FP (([]:Ac Aq).length+([]:Ac CB).length) (Br pos (Aw [] X.env)) (D9 pos (Dg [] X.env))=Ab:=rfl;have vw:Dl Ab o X.env apos pos=pure pos:=by
  unfold Dl;simp[U6]
 unfold HV;rw[ya];refine As (Ck (NQ I1 ea c hm l ?_));refine As (Ge vw ?_);exact ZE (first:=[.ref a]) I1.kIn hm.kp (Oc (us:=[.ref a]) (vs:=[.ref a]) F hr hb .nil hx I1 (.cons rfl .nil) q)
end
noncomputable def Wk(r:R D)(q:Dk):RK:=match r with
  |.ok (.lst es)=>.ok (.lst es) q
  |.exn x=>.exn x
  |_=>.bad
noncomputable def OX(Z:Z4)(id:Ag)(q:Dk):Ac D->RK
 |[.str w]=>if w = "points" then Wk (Z.F id [q.p,.lst q.l]) q else .bad
 |_=>.bad
section
variable{P:AK}{w:AI}{K:Fg}{mg:Ah->Ao Al}{base:AJ}{CL:ClA}{fns:Ac (Ah×Ag×Ag)}{bl:Ac Ah}{rzs exs gls:Ac (Ah×Ag)}{Pg:Prg}{fuel n:Ag}{C:Ak}
theorem rC(t:ww K mg CL fns bl rzs exs gls Pg fuel){st s2 s3:AL}{f:Ak}(dc:uq K C)(hf:zf K x qual st f fd)(hs:tj ["self", "word"] ["self", "word"] st=Ab)(hb:Dh st=[.If c1 [.Return (Aa (.Call (.Name "point_texts" p1) [.Attribute (.Name "self" p2) "p" p3,.Attribute (.Name "self" p4) "points" p5] [] p6)) p7] [] p8,s2,s3])(hm:((("point_texts" : Ah),id,2):Ah×Ag×Ag)∈fns)(rj:zn ⟨AH st,["self", "word"],fns,bl,rzs,exs,gls,Ab⟩ "point_texts" = Ab)(xo:(Pg.defs id).fr=Ab)(cc:Eb fuel ⟨AH st,["self", "word"],fns,bl,rzs,exs,gls,Ab⟩ c1 (.cmp .Eq (.var 1) (.str "points"))=Ab):
  Y4 P w K mg base (CXR P w) (n+1) f fd ["self", "word"] (wa K CL C 1 (OX (Z6 Pg n) id)):=by
 obtain⟨oc,od,dV,kV,doc,pm,an,cdv,ct,osl,rfl,lk,zy⟩:=hf.ex;have sc:=JB hs;refine Hm lk zy sc.fs (λvs H Q E ⟨a,la,us,ds,A,q,e,z,_⟩=>by rw[e,A8,z];rfl) λA outer s H vs Q E hr ⟨a,la,us,ds,B,q,e,U8,hA,ha,zj,rs,dk,hp⟩=>?_
 subst e;rw[hb];have v:=Lr (P:=P) (w:=w) (base:=base) (outer:=outer) (H:=H) (E:=E) t sc hr;have U9:∀ p,PE (B1 (CXR P w) P w K mg base ["self", "word"] qual (AH st) f cdv A outer s H E) (.Name "self" p) (Ch 0):=λp=>Dw rfl (.inl (sc.loc "self" (by simp)))
 have c1':=(zp fuel).b _ _ _ c1 _ v cc B;refine⟨_,B9 (FJ c1' (DT (Hi (OJ v hm (by decide) rfl rj (Bv (Q8 dc U9) (Bv (Nd dc U9) Ca rfl) rfl)))) GV) Js,?_⟩
 obtain⟨dx,v1,v2,v3,xs,h1,h2,r4,r5,r6,r7⟩:=dk;obtain⟨u,d,rfl,rfl,ru⟩:=NU U8 rs;cases d with
 |str z=>
  have hq:qe (if z = "points" then Wk ((Z6 Pg n).F id [q.p,.lst q.l]) q else .bad) _ _:=hp
  by_cases hz:z = "points"
  .rw[Au hz]at hq;subst hz;refine⟨hA,[Ae,Aa (.str "points",Af)],ü ru,?_⟩;show CS _ _ (R.ok Ab) _;intro H1 sm;dsimp only;rw[Au rfl];refine⟨a,dx,v1,v2,v3,la,rfl,sm _ _ h1,a,dx,v1,v2,v3,la,rfl,sm _ _ h1,[q.p,.lst q.l],B,rfl,hA.same sm,⟨r4.same sm,r5.same sm,trivial⟩,?_⟩;cases e:(Z6 Pg n).F id [q.p,.lst q.l] with
   |bad=>rw[e]at hq;exact hq.elim
   |exn y=>rw[e]at hq;exact λcls dx H2 s2 xr=>⟨y,xr,λcls dx xr=>hq cls dx H2 (sm.trans s2) xr⟩
   |ok d=>
    rw[e]at hq;cases d with
    |lst es=>
     intro y H2 s2 ry;rw[Oh,xo]at ry;obtain⟨l,ys,e1,e2,_,_⟩:=ry.2 rfl es rfl;subst e1;exact hq _ H2 (KB.of (sm.trans s2)) (P3 sm ry) (DK.same (DK.new (DK.same ⟨dx,v1,v2,v3,xs,h1,h2,r4,r5,r6,r7⟩ sm) e2) s2)
    |_=>exact hq.elim
  .rw[Ay hz]at hq;exact hq.elim
 |_=>exact hp.elim
end
noncomputable def Nv(Z:Z4)(ip it:Ag)(q:Dk):Ac D->RK
  | [.str w,fm]=>(match (if w = "put" then Z.F ip [.lst q.l,fm] else if w = "take" then Z.F it [.lst q.l,fm] else .bad) with
    |.ok (.lst l)=>if q.ps.length<900/\l.length<900 then .ok (.lst [.str (toString (l.length:Ai))]) (G6 q l q.c) else .bad
    |.exn x=>.exn x
    | _=>.bad)
  |_=>.bad
theorem pV{i:Ag}{l:Ac D}(h:U[i]?=Aa (Aa (.lst l,Af)))(hz:l.length<900):evE Z U (.lst (.cons (.bi .str (.cons (.bi .len (.cons (.var i) .nil)) .nil)) .nil))=.ok (.lst [.str (toString (l.length:Ai))]):=by
 have e1:zr .str [.int l.length]=.ok (.str (toString (l.length:Ai))):=Au (by unfold Lu;rw[Hu,AG];omega)
 have e2:Da U i=.ok (.lst l):=by unfold Da;rw[h]
 have e3:zr .len [.lst l]=.ok (.int l.length):=rfl;simp only[kW,MR,KG,L5,Io,N9,e2,R.bind_ok,kX,e3,jT,e1]
theorem iE{H3 H4:Hp}{C a la:Ak}{v:V}{d:D}(kb:KB a la H H3)(dk:DK K CL H3 A C a la q)(r:Cw K CL Ab H3 A H4 v d):Cw K CL Ab H A H4 v d:=⟨r.1,λ_ es ee=>by
 obtain⟨l,ys,e1,e2,e3,e4⟩:=r.2 rfl es ee;obtain⟨dx,v1,v2,v3,xs,h1,h2,_⟩:=dk;refine⟨l,ys,e1,?_,e3,e4⟩;cases eh:H l with
 |none=>rfl
 |some o=>
  rw[kb l o eh (λz=>by rw[z,h1]at e2;cases e2) λz=>by rw[z,h2]at e2;cases e2]at e2
  cases e2⟩
theorem Æ{u u3:Ao V}(r1:Z7 K CL H A y1 d1)(r2:Z7 K CL H A y2 d2):Y9 K CL A [Ae,Aa (d1,Af),Aa (d2,Af),Ae] [u,Aa y1,Aa y2,u3] H:=(HF (K:=K) (CL:=CL) (A:=A) (H:=H) (U:=[Ae,Aa (d1,Af),Aa (d2,Af),Ae]) (Y:=[u,Aa y1,Aa y2,u3]) ⟨⟨rfl,y1,rfl,r1⟩,⟨rfl,y2,rfl,r2⟩,trivial⟩).1
theorem gd4{u u1 u2:Ao V}{y:V}{d:D}(r:Z7 K CL H A y d):Y9 K CL A [Ae,Ae,Ae,Aa (d,Af)] [u,u1,u2,Aa y] H:=(HF (K:=K) (CL:=CL) (A:=A) (H:=H) (U:=[Ae,Ae,Ae,Aa (d,Af)]) (Y:=[u,u1,u2,Aa y]) ⟨⟨rfl,y,rfl,r⟩,trivial⟩).1
section
variable{P:AK}{w:AI}{K:Fg}{mg:Ah->Ao Al}{base:AJ}{CL:ClA}{fns:Ac (Ah×Ag×Ag)}{bl:Ac Ah}{rzs exs gls:Ac (Ah×Ag)}{Pg:Prg}{fuel n:Ag}{C:Ak}
theorem rH(t:ww K mg CL fns bl rzs exs gls Pg fuel){st:AL}{c2 er:Aq}{s3:Ac AL}{f g:Ak}{gd:Bi}{ip it:Ag}(dc:uq K C)(hf:zf K x qual st f fd)(hs:tj ["self", "word", "form"] ["self", "word", "form", "points"] st=Ab)(hb:Dh st=[.If c1 [.Assign [.Name "points" p1] (.Call (.Name "put_in" p2) [.Attribute (.Name "self" p3) "points" p4,.Name "form" p5] [] p6) p7] [.If c2 [.Assign [.Name "points" p8] (.Call (.Name "taken_out" p9) [.Attribute (.Name "self" p10) "points" w4,.Name "form" wg] [] ux) uj] s3 uk] ul,.Expr (.Call (.Attribute (.Name "self" vj) "changed" um) [.Name "points" pf,.Attribute (.Name "self" nu) "curve" nv] [] kz) cj,.Return (Aa er) ja])(hm1:((("put_in" : Ah),ip,2):Ah×Ag×Ag)∈fns)(rm:((("taken_out" : Ah),it,2):Ah×Ag×Ag)∈fns)(rj:(zn ⟨AH st,["self", "word", "form", "points"],fns,bl,rzs,exs,gls,Ab⟩ "put_in" && zn ⟨AH st,["self", "word", "form", "points"],fns,bl,rzs,exs,gls,Ab⟩ "taken_out")=Ab)(hl:(um.endLine==kz.line)=Ab)(xo:(Pg.defs ip).fr=Ab/\(Pg.defs it).fr=Ab)(cc1:Eb fuel ⟨AH st,["self", "word", "form", "points"],fns,bl,rzs,exs,gls,Ab⟩ c1 (.cmp .Eq (.var 1) (.str "put"))=Ab)(cc2:Eb fuel ⟨AH st,["self", "word", "form", "points"],fns,bl,rzs,exs,gls,Ab⟩ c2 (.cmp .Eq (.var 1) (.str "take"))=Ab)(cr:Be fuel ⟨AH st,["self", "word", "form", "points"],fns,bl,rzs,exs,gls,Ab⟩ er (.lst (.cons (.bi .str (.cons (.bi .len (.cons (.var 3) .nil)) .nil)) .nil))=Ab)(me:zh K C "changed" g)(hbg:CV K gd ["self", "points", "curve"] [])(G:Y4 P w K mg base (CXR P w) n g gd ["self", "points", "curve"] (wa K CL C 2 OZ)):
    Y4 P w K mg base (CXR P w) (n+1) f fd ["self", "word", "form"] (wa K CL C 2 (Nv (Z6 Pg n) ip it)):=by
  obtain⟨oc,od,dV,kV,doc,pm,an,cdv,ct,osl,rfl,lk,zy⟩:=hf.ex;have sc:=JB hs;refine Hm lk zy sc.fs (λvs H Q E ⟨a,la,us,ds,A,q,e,z,_⟩=>by rw[e,A8,z];rfl) λA outer s H vs Q E hr ⟨a,la,us,ds,B,q,e,U8,hA,ha,zj,rs,dk,hp⟩=>?_
  subst e;rw[hb];have v:=Lr (P:=P) (w:=w) (base:=base) (outer:=outer) (H:=H) (E:=E) t sc hr;obtain⟨kh,w9⟩:=Bk rj;have U9:∀ p,PE (B1 (CXR P w) P w K mg base ["self", "word", "form", "points"] qual (AH st) f cdv A outer s H E) (.Name "self" p) (Ch 0):=λp=>Dw rfl (.inl (sc.loc "self" (by simp)))
  have vk:∀ p,PE (B1 (CXR P w) P w K mg base ["self", "word", "form", "points"] qual (AH st) f cdv A outer s H E) (.Name "form" p) (Ch 2):=λp=>Dw rfl (.inl (sc.loc "form" (by simp)))
  have ppts:∀ p,PE (B1 (CXR P w) P w K mg base ["self", "word", "form", "points"] qual (AH st) f cdv A outer s H E) (.Name "points" p) (Ch 3):=λp=>Dw rfl (.inl (sc.loc "points" (by simp)))
  have c1':=(zp fuel).b _ _ _ c1 _ v cc1 B;have c2':=(zp fuel).b _ _ _ c2 _ v cc2 B;have r':=((zp fuel).e _ _ _ er _ v cr).nw rfl B;refine⟨_,B9 (FJ c1' (DT (EE (i:=3) sc.fs.nd rfl (.inl (sc.loc "points" (by simp))) (OJ v hm1 (by decide) rfl kh (Bv (Nd dc U9) (Bv (vk p5) Ca rfl) rfl)) rfl (.inl rfl)))
    (DT (FJ c2' (DT (EE (i:=3) sc.fs.nd rfl (.inl (sc.loc "points" (by simp))) (OJ v rm (by decide) rfl w9 (Bv (Nd dc U9) (Bv (vk wg) Ca rfl) rfl)) rfl (.inl rfl))) Js)))
    (B9 (Kc (Rc (U9 vj) dc.cl me G v.room hbg (v.px A0) (Bv (ppts pf) (Bv (V2 dc U9) Ca rfl) rfl) hl) rfl) (DT (Hi r'))),?_⟩
  obtain⟨dx,v1,v2,v3,xs,h1,h2,r4,r5,r6,r7⟩:=dk;obtain⟨u1,d1,u2,d2,rfl,rfl,tf,uo⟩:=TV U8 rs;cases d1 with
  |str z=>
    have fin:∀(l:Ac D)(y:V)(H2:Hp),Az H H2->Cw K CL Ab H B H2 y (.lst l)->q.ps.length<900/\l.length<900->(∀ v H',KB a la H H'->Cw K CL Ab H B H' v (.lst [.str (toString (l.length:Ai))])->DK K CL H' (AV B v) C a la (G6 q l q.c)->Q v H')->(RO (Q3 (Lf C "changed" (wa K CL C 2 OZ) [] (EKW K CL A0 (WE K CL E)) (Ch 0) (Lg (Ch 3) (Lg (λY H Q=>∃ a dx v1 v2 v3 la,Y[0]?=Aa (Aa (V.ref a))/\H a=Aa (HO.ins C dx (yx v1 v2 v3 la))/\Q v3 H) Mo)))) (RP λY H Q=>Tm H B/\∃ U,Y9 K CL B U Y H/\AW (Cw K CL Ab H B) (WE K CL E) H (evE (Z6 Pg n) U (.lst (.cons (.bi .str (.cons (.bi .len (.cons (.var 3) .nil)) .nil)) .nil))) Q)) {nx:=λ_ H'=>Q .non H',rt:=Q} [Aa (.ref a),Aa u1,Aa u2,Aa y] H2:=λl y H2 sm ry hz hq=>by
      refine⟨.ref a,rfl,a,dx,_,rfl,sm _ _ h1,rfl,y,rfl,a,dx,v1,v2,v3,la,rfl,sm _ _ h1,a,la,[y,v3],[.lst l,q.c],B,q,rfl,rfl,hA.same sm,ha,zj,⟨ry.1,r6.same sm,trivial⟩,DK.same ⟨dx,v1,v2,v3,xs,h1,h2,r4,r5,r6,r7⟩ sm,?_⟩;show qe (if q.ps.length<900 then RK.ok .non (G6 q l q.c) else .bad) _ _
      rw[Au hz.1];intro v' H3 kb _ ø;have ø:=ø.un;have hA3:Tm H3 B:=ø.aok kb (hA.same sm);refine⟨hA3,[Ae,Ae,Ae,Aa (.lst l,Af)],gd4 (Z7.kp (kb.kp ha zj) _ ry.1),?_⟩;have ev:=pV (Z:=Z6 Pg n) (U:=[Ae,Ae,Ae,Aa (.lst l,Af)]) (i:=3) rfl hz.2;rw[ev];intro v4 H4 s4 r4';obtain⟨l4,ys4,f1,f2,_,_⟩:=r4'.2 rfl _ rfl;subst f1;exact hq _ H4 (((KB.of sm).trans kb).trans (KB.of s4)) (iE ((KB.of sm).trans kb) ø r4') ((ø.new f2).same s4)
    have call:∀(id:Ag)(H1:Hp),Az H H1->(Pg.defs id).fr=Ab->(∀ l,(Z6 Pg n).F id [.lst q.l,d2]=.ok (.lst l)->q.ps.length<900/\l.length<900/\∀ v H',KB a la H H'->Cw K CL Ab H B H' v (.lst [.str (toString (l.length:Ai))])->DK K CL H' (AV B v) C a la (G6 q l q.c)->Q v H')->(∀ y,(Z6 Pg n).F id [.lst q.l,d2]=.exn y->∀ cls dx H',Az H H'->Dy K CL H' cls dx y->E cls dx H')->(∀ d,(Z6 Pg n).F id [.lst q.l,d2]=.ok d->∃ l,d=.lst l)->(Z6 Pg n).F id [.lst q.l,d2]≠.bad ->
        spD K CL 2 ((Z6 Pg n).fr id) ((Z6 Pg n).F id) ([v2,u2]++[]) H1 (λy H2=>(RO (Q3 (Lf C "changed" (wa K CL C 2 OZ) [] (EKW K CL A0 (WE K CL E)) (Ch 0) (Lg (Ch 3) (Lg (λY H Q=>∃ a dx v1 v2 v3 la,Y[0]?=Aa (Aa (V.ref a))/\H a=Aa (HO.ins C dx (yx v1 v2 v3 la))/\Q v3 H) Mo)))) (RP λY H Q=>Tm H B/\∃ U,Y9 K CL B U Y H/\AW (Cw K CL Ab H B) (WE K CL E) H (evE (Z6 Pg n) U (.lst (.cons (.bi .str (.cons (.bi .len (.cons (.var 3) .nil)) .nil)) .nil))) Q)) {nx:=λ_ H'=>Q .non H',rt:=Q} [Aa (.ref a),Aa u1,Aa u2,Aa y] H2) (EKW K CL A0 (WE K CL E)):=λid H1 sm xo o1 o2 o3 o4=>by
      refine⟨[.lst q.l,d2],B,rfl,hA.same sm,⟨r5.same sm,uo.same sm,trivial⟩,?_⟩;cases e:(Z6 Pg n).F id [.lst q.l,d2] with
      |bad=>exact absurd e o4
      |exn y=>exact λcls dx H2 s2 xr=>⟨y,xr,λcls dx xr=>o2 y e cls dx H2 (sm.trans s2) xr⟩
      |ok d=>
        obtain⟨l,rfl⟩:=o3 d e;obtain⟨z1,z2,z3⟩:=o1 l e;intro y H2 s2 ry;rw[Oh,xo]at ry;exact fin l y H2 (sm.trans s2) (P3 sm ry) ⟨z1,z2⟩ z3
    have hq:qe (match (if z = "put" then (Z6 Pg n).F ip [.lst q.l,d2] else if z = "take" then (Z6 Pg n).F it [.lst q.l,d2] else .bad) with
      |.ok (.lst l)=>if q.ps.length<900/\l.length<900 then .ok (.lst [.str (toString (l.length:Ai))]) (G6 q l q.c) else .bad
      |.exn x=>.exn x
      | _=>.bad) _ _:=hp
    have each:∀ r:R D,qe (match r with
      |.ok (.lst l)=>if q.ps.length<900/\l.length<900 then RK.ok (.lst [.str (toString (l.length:Ai))]) (G6 q l q.c) else .bad
      |.exn x=>.exn x
      | _=>.bad) (λd q'=>∀ v H',KB a la H H'->Cw K CL Ab H B H' v d->DK K CL H' (AV B v) C a la q'->Q v H') (λx=>∀ cls dx H',Az H H'->Dy K CL H' cls dx x->E cls dx H')->(∀ l,r=.ok (.lst l)->q.ps.length<900/\l.length<900/\∀ v H',KB a la H H'->Cw K CL Ab H B H' v (.lst [.str (toString (l.length:Ai))])->DK K CL H' (AV B v) C a la (G6 q l q.c)->Q v H')/\(∀ y,r=.exn y->∀ cls dx H',Az H H'->Dy K CL H' cls dx y->E cls dx H')/\(∀ d,r=.ok d->∃ l,d=.lst l)/\r≠.bad:=λr h=>by
      cases r with
      |bad=>exact h.elim
      |exn y=>exact⟨λl e=>(nomatch e),λy' e=>(by cases e;exact h),λd e=>(nomatch e),λe=>nomatch e⟩
      |ok d=>
        cases d with
        |lst l=>
          have h:qe (if q.ps.length<900/\l.length<900 then RK.ok (.lst [.str (toString (l.length:Ai))]) (G6 q l q.c) else .bad) _ _:=h
          by_cases hz:q.ps.length<900/\l.length<900
          · rw[Au hz]at h;exact⟨λl e=>(by cases e;exact⟨hz.1,hz.2,h⟩),λy' e=>(nomatch e),λd e=>(by cases e;exact⟨l,rfl⟩),λe=>nomatch e⟩
          · rw[Ay hz]at h;exact h.elim
        |_=>exact h.elim
    have ê:∀ s:Ah,((top [Ae,Aa (D.str z,Af),Aa (d2,Af),Ae] (.cmp .Eq (.var 1) (.str s)) (evE (Z6 Pg n) [Ae,Aa (D.str z,Af),Aa (d2,Af),Ae] (.cmp .Eq (.var 1) (.str s)))).bind Bs)=.ok (decide (z=s)):=λs=>by
      show R.ok (z==s)=_
      congr 1
    refine⟨hA,[Ae,Aa (.str z,Af),Aa (d2,Af),Ae],Æ tf uo,?_⟩;dsimp only;rw[ê "put"];intro H1 sm;by_cases z1:z = "put"
    · rw[Au z1]at hq;obtain⟨o1,o2,o3,o4⟩:=each _ hq;rw[Au (CI z1)];exact⟨a,dx,v1,v2,v3,la,rfl,sm _ _ h1,u2,rfl,call ip H1 sm xo.1 o1 o2 o3 o4⟩
    · rw[Ay z1]at hq;rw[Ay (by rw[BM z1];exact Ax)]
      refine⟨hA.same sm,[Ae,Aa (.str z,Af),Aa (d2,Af),Ae],Æ (tf.same sm) (uo.same sm),?_⟩;rw[ê "take"];intro H2 ze;by_cases z2:z = "take"
      · rw[Au z2]at hq;obtain⟨o1,o2,o3,o4⟩:=each _ hq;rw[Au (CI z2)];exact⟨a,dx,v1,v2,v3,la,rfl,ze _ _ (sm _ _ h1),u2,rfl,call it H2 (sm.trans ze) xo.2 o1 o2 o3 o4⟩
      · rw[Ay z2]at hq;exact hq.elim
  |_=>exact hp.elim
end
def Mf(P:AK)(w:AI)(K:Fg)(a:Ak)(cnt:Ac (Ah×Ai)):Prop:=(a==GP)=Af/\∃(o:CW)(es:Bl Mw)(ep:Ag)(kvs:Ac (Ah×Al)),K.lookup a=Aa o/\o.ExactDict/\o.data=.dict es ep/\KeysOf (E6 P w) es/\Pairs (E6 P w) es.toList kvs/\(kvs.map (·.1)).Nodup/\∀ z,(FU kvs z=Ae/\cnt.lookup z=Ae)\/∃ i t,FU kvs z=Aa (.int i t)/\cnt.lookup z=Aa i
section
variable{X:Cx}{a:Ak}{cnt:Ac (Ah×Ai)}
theorem U_2(c:Mf X.prog X.w X.K a cnt){s:Ar}(I:Z8 X pI Y H s):∃ kvs,s.heap.MapOf (E6 X.prog X.w) a (FU kvs)/\s.TypeIs (.ref a) "dict"/\∀ z,(FU kvs z=Ae/\cnt.lookup z=Ae)\/∃ i t,FU kvs z=Aa (.int i t)/\cnt.lookup z=Aa i:=by
 obtain⟨_,o,es,ep,kvs,h1,h2,h3,h4,h5,h6,h7⟩:=c;have ho:=I.kIn _ _ h1;exact⟨kvs,Heap.DictOf.mapOf ⟨o,es,ep,ho,h2,h3,h4,h5,h6⟩,⟨o,ho,h2.1⟩,h7⟩
theorem qS(c:Mf X.prog X.w X.K a cnt):zd X (CP .NotIn) (λx y H Q=>∃ z,x=.str z/\y=.ref a/\Q (.bl (!(cnt.lookup z).isSome)) H):=by
 intro pI s Y H x y v u Q I rx ry ⟨z,e1,e2,q⟩;subst e1 e2;obtain⟨t,rfl⟩:=rx;cases ry;obtain⟨kvs,m,ty,hz⟩:=U_2 c I;refine wpAny_notIn_of (knd:=E6 X.prog X.w) (k:=z) (by show (z==z)=Ab;exact BE _) c.1 m ?_
 have e:(FU kvs z).isSome=(cnt.lookup z).isSome:=by
  rcases hz z with ⟨h1,h2⟩|⟨i,t,h1,h2⟩<;>rw[h1,h2]<;>rfl
 rw[e];exact⟨.bl _,H,I.tok _,rfl,q⟩
theorem qD(c:Mf X.prog X.w X.K a cnt):qb X (λx y H Q=>∃ z i,x=.ref a/\y=.str z/\cnt.lookup z=Aa i/\Q (.int i) H):=by
 intro value slice pI s Y H x y v u Q I rx ry ⟨z,i,e1,e2,e3,q⟩ hs;subst e1 e2;obtain⟨t,rfl⟩:=ry;cases rx;obtain⟨kvs,m,ty,hz⟩:=U_2 c I;rcases hz z with ⟨h1,h2⟩|⟨j,t',h1,h2⟩
 .rw[e3]at h2;cases h2
 .rw[e3]at h2;cases h2;exact F9 ty slot_dict_getitem.lookup (wpAny_getItem_of (knd:=E6 X.prog X.w) (k:=z) (Q:=λr s'=>r=GB i t'/\EP X pI Y Q r s') (by show (z==z)=Ab;exact BE _) m h1 ⟨rfl,.int i,H,I.tok _,⟨_,rfl⟩,q⟩) hs
end
noncomputable def Ls(Z:Z4)(ir:Ag)(cnt:Ac (Ah×Ai)):Ac D->R D
  | [p,.lst (.str w::ws)]=>(match Z.F ir [p,.lst ws] with
    |.ok .non=>.exn ⟨12,[]⟩
    | .ok (.lst rs)=>(match cnt.lookup w with
      |none=>.exn ⟨12,[]⟩
      | some k=>if (rs.length:Ai)=k then .ok (.lst rs) else .exn ⟨12,[]⟩)
    |.exn y=>.exn y
    | _=>.bad)
  |_=>.bad
theorem iD(Z:Z4)(ir:Ag)(cnt:Ac (Ah×Ai))(d1 d2:D):Ls Z ir cnt [d1,d2]=.bad\/∃ w ws,d2=.lst (.str w::ws):=by
 cases d2 with
 |lst xs=>
  cases xs with
  |nil=>exact .inl rfl
  |cons x ws=>
   cases x with
   |str w=>exact .inr ⟨w,ws,rfl⟩
   |_=>exact .inl rfl
 |_=>exact .inl rfl
theorem gd5{u:Ao V}(r1:Z7 K CL H A y1 d1)(r2:Z7 K CL H A y2 d2):Y9 K CL A [Aa (d1,Af),Aa (d2,Af),Ae] [Aa y1,Aa y2,u] H:=(HF (K:=K) (CL:=CL) (A:=A) (H:=H) (U:=[Aa (d1,Af),Aa (d2,Af),Ae]) (Y:=[Aa y1,Aa y2,u]) ⟨⟨rfl,y1,rfl,r1⟩,⟨rfl,y2,rfl,r2⟩,trivial⟩).1
theorem ý{y3:V}{d3:D}(r1:Z7 K CL H A y1 d1)(r2:Z7 K CL H A y2 d2)(r3:Z7 K CL H A y3 d3):Y9 K CL A [Aa (d1,Af),Aa (d2,Af),Aa (d3,Af)] [Aa y1,Aa y2,Aa y3] H:=(HF (K:=K) (CL:=CL) (A:=A) (H:=H) (U:=[Aa (d1,Af),Aa (d2,Af),Aa (d3,Af)]) (Y:=[Aa y1,Aa y2,Aa y3]) ⟨⟨rfl,y1,rfl,r1⟩,⟨rfl,y2,rfl,r2⟩,⟨rfl,y3,rfl,r3⟩,trivial⟩).1
theorem Rl{i:Ag}{x:D}{ws:Ac D}(h:U[i]?=Aa (Aa (.lst (x::ws),Af))):evE Z U (.idx (.var i) (.int 0))=.ok x:=by
 have e2:Da U i=.ok (.lst (x::ws)):=by unfold Da;rw[h]
 have e3:G3 (.lst (x::ws)) (.int 0)=.ok x:=by
  show DU (x::ws) 0=.ok x;unfold DU qj;simp
 rw[NY,Io,e2];exact e3
theorem zD(x:D)(ws:Ac D):KU (x::ws) (Aa 1) Ae=ws:=by
 unfold KU;simp[IX]
section
variable{P:AK}{w:AI}{K:Fg}{mg:Ah->Ao Al}{base:AJ}{CL:ClA}{fns:Ac (Ah×Ag×Ag)}{bl:Ac Ah}{rzs exs gls:Ac (Ah×Ag)}{Pg:Prg}{fuel n:Ag}
theorem nX(t:ww K mg CL fns bl rzs exs gls Pg fuel){st sr:AL}{el ew Ä:Aq}{f aC:Ak}{ir:Ag}{cnt:Ac (Ah×Ai)}(hc:Mf P w K aC cnt)(kn:mg "COUNTS" = Aa (.ref aC))(hf:zf K x qual st f fd)(hs:tj ["p", "words"] ["p", "words", "rests"] st=Ab)(hb:Dh st=[.Assign [.Name "rests" p1] e1 p2,.If (.BoolOp .Or [c1,.Compare ew [.NotIn] [.Name "COUNTS" p3] p4,.Compare el [.NotEq] [.Subscript (.Name "COUNTS" p5) Ä p6] p7] p8) [sr] [] p9,.Return (Aa (.Name "rests" p10)) w4])(rj:zn ⟨AH st,["p", "words", "rests"],fns,bl,rzs,exs,gls,Ab⟩ "COUNTS" = Ab)(k1:Be fuel ⟨AH st,["p", "words", "rests"],fns,bl,rzs,exs,gls,Ab⟩ e1 (.call ir (.cons (.var 0) (.cons (.sl (.var 1) (.int 1) .non) .nil)))=Ab)(nc:F4 e1=Ab)(k2:Eb fuel ⟨AH st,["p", "words", "rests"],fns,bl,rzs,exs,gls,Ab⟩ c1 (.cmp .Is (.var 2) .non)=Ab)(k3:Be fuel ⟨AH st,["p", "words", "rests"],fns,bl,rzs,exs,gls,Ab⟩ ew (.idx (.var 1) (.int 0))=Ab)(k3':Be fuel ⟨AH st,["p", "words", "rests"],fns,bl,rzs,exs,gls,Ab⟩ Ä (.idx (.var 1) (.int 0))=Ab)(hpx:N7 Ä)(k4:Be fuel ⟨AH st,["p", "words", "rests"],fns,bl,rzs,exs,gls,Ab⟩ el (.bi .len (.cons (.var 2) .nil))=Ab)(k5:Ja fuel ⟨AH st,["p", "words", "rests"],fns,bl,rzs,exs,gls,Ab⟩ sr (.rais 12 (.cons (.str txt) .nil))=Ab)(qh:Pg.xn 12 [.str txt]=.ok ⟨12,[]⟩):
    Y4 P w K mg base (CXR P w) (n+1) f fd ["p", "words"] (spD K CL 2 Af (Ls (Z6 Pg n) ir cnt)):=by
  obtain⟨oc,od,dV,kV,doc,pm,an,cdv,ct,osl,rfl,lk,zy⟩:=hf.ex;have sc:=JB hs;refine Hm lk zy sc.fs (λvs H Q E ⟨ds,A,z,_⟩=>z) λA outer s H vs Q E hr ⟨ds,B,U8,hA,rs,hp⟩=>?_
  rw[hb];have v:=Lr (P:=P) (w:=w) (base:=base) (outer:=outer) (H:=H) (E:=E) t sc hr;have hg:Gl (B1 (CXR P w) P w K mg base ["p", "words", "rests"] qual (AH st) f cdv A outer s H E) "COUNTS" := AD.mp rj;have E1:=((zp fuel).e _ _ _ e1 _ v k1).se B;have C1:=(zp fuel).b _ _ _ c1 _ v k2 B;have EW:=((zp fuel).e _ _ _ ew _ v k3).se B;have EW':=((zp fuel).e _ _ _ Ä _ v k3').se B;have EL:=((zp fuel).e _ _ _ el _ v k4).st B;have SR:=(IW fuel).s _ _ _ sr _ v ⟨λ_=>rfl,rfl,rfl,rfl⟩ k5 ⟨λb o=>H b=Aa o,λ_ _ _=>AM⟩ B
  have cn:∀ p,PE (B1 (CXR P w) P w K mg base ["p", "words", "rests"] qual (AH st) f cdv A outer s H E) (.Name "COUNTS" p) (tC (.ref aC)):=λp=>MY hg kn rfl
  refine⟨_,B9 (EE (i:=2) sc.fs.nd rfl (.inl (sc.loc "rests" (by simp))) E1 (HJ nc) (.inl rfl)) (B9 (FJ (PW.pt (Rb C1 (Rb (LX (qS (X:=B1 (CXR P w) P w K mg base ["p", "words", "rests"] qual (AH st) f cdv A outer s H E) hc) EW (cn p3) rfl) (Vz (LX (IG (W:=WE K CL E) (CL:=CL) v.room.units .NotEq B) EL (Re (qD (X:=B1 (CXR P w) P w K mg base ["p", "words", "rests"] qual (AH st) f cdv A outer s H E) hc) (cn p5) EW' hpx) rfl))))) (DT SR) GV) (DT (Hi (Dw (i:=2) rfl (.inl (sc.loc "rests" (by simp))))))),?_⟩
  obtain⟨u1,d1,u2,d2,rfl,rfl,tf,uo⟩:=TV U8 rs;rcases iD (Z6 Pg n) ir cnt d1 d2 with hz|⟨z,ws,rfl⟩
  · rw[hz]at hp;exact hp.elim
  have hp:(match (match (Z6 Pg n).F ir [d1,.lst ws] with
      |.ok .non=>R.exn ⟨12,[]⟩
      | .ok (.lst rs)=>(match cnt.lookup z with
        |none=>.exn ⟨12,[]⟩
        | some k=>if (rs.length:Ai)=k then .ok (D.lst rs) else .exn ⟨12,[]⟩)
      |.exn y=>.exn y
      | _=>.bad) with
    |.ok d=>∀ v H',Az H H'->Cw K CL Af H B H' v d->Q v H'
    |.exn x=>∀ cls dx H',Az H H'->Dy K CL H' cls dx x->E cls dx H'
    | .bad=>AM):=hp
  refine⟨hA,[Aa (d1,Af),Aa (.lst (.str z::ws),Af),Ae],gd5 tf uo,?_⟩;have Ã:evE (Z6 Pg n) [Aa (d1,Af),Aa (.lst (.str z::ws),Af),Ae] (.call ir (.cons (.var 0) (.cons (.sl (.var 1) (.int 1) .non) .nil)))=(Z6 Pg n).F ir [d1,.lst ws]:=by
    show ((Z6 Pg n).F ir [d1,D.lst (KU (D.str z::ws) (Aa 1) Ae)]).bind _=_;rw[zD];cases (Z6 Pg n).F ir [d1,D.lst ws]<;>rfl
  show AW _ _ _ (evE (Z6 Pg n) [Aa (d1,Af),Aa (.lst (.str z::ws),Af),Ae] (.call ir (.cons (.var 0) (.cons (.sl (.var 1) (.int 1) .non) .nil)))) _;rw[Ã];have rais:∀(y:V)(H1:Hp)(D':xu),Az H H1->(∀ cls dx H',Az H H'->Dy K CL H' cls dx ⟨12,[]⟩->E cls dx H')->∃ U,Sx K CL ⟨λb o=>H b=Aa o,λ_ _ _=>AM⟩ B U [Aa u1,Aa u2,Aa y] H1/\B4 K CL ⟨λb o=>H b=Aa o,λ_ _ _=>AM⟩ B (WE K CL E) (xz (Z6 Pg n) U (.rais 12 (.cons (.str txt) .nil))) D':=λy H1 D' sm hx=>by
    have g:=HF (K:=K) (CL:=CL) (A:=B) (H:=H1) (U:=[Ae,Ae,Ae]) (Y:=[Aa u1,Aa u2,Aa y]) trivial;refine⟨[Ae,Ae,Ae],Sx.mono (Fy:=⟨λb o=>H1 b=Aa o,λ_ _ _=>AM⟩) (λb o z=>sm b o z) (λ_ _ _ z=>z) (Ol (hA.same sm) g.1 g.2),?_⟩
    have e2:ye (Z6 Pg n) [Ae,Ae,Ae] (.cons (.str txt) .nil)=.ok [.str txt]:=rfl;rw[Um,e2];show B4 K CL _ B (WE K CL E) (O.of _ ((Z6 Pg n).xn 12 [.str txt]) λx=>.exn x _) _
    rw[Ld,qh];exact λH2 s2 cls dx xr=>hx cls dx H2 (λb o z=>s2 b o z) xr
  cases eF:(Z6 Pg n).F ir [d1,.lst ws] with
  |bad=>rw[eF]at hp;exact hp.elim
  |exn y=>rw[eF]at hp;exact λH1 sm cls dx xr=>hp cls dx H1 sm xr
  |ok d3=>
    rw[eF]at hp;intro y H1 sm ry;cases d3 with
    |non=>
      refine⟨hA.same sm,_,ý (tf.same sm) (uo.same sm) ry,?_⟩;show CS _ _ (R.ok Ab) _;intro H2 ze;dsimp only;rw[Au rfl,Au rfl];exact rais y H2 _ (sm.trans ze) hp
    |lst w5=>
      refine⟨hA.same sm,_,ý (tf.same sm) (uo.same sm) ry,?_⟩;show CS _ _ (R.ok Af) _;intro H2 ze;dsimp only;rw[Ay Ax];have å:=sm.trans ze;refine⟨hA.same å,_,ý (tf.same å) (uo.same å) (ry.same ze),?_⟩;rw[Rl (x:=.str z) (ws:=ws) rfl];intro yw H3 wj ryw;have eyw:yw=.str z:=ryw;subst eyw;refine⟨z,rfl,rfl,_,rfl,?_⟩;have tz:=å.trans wj;cases ec:cnt.lookup z with
      |none=>
        rw[ec]at hp;dsimp only[Yl];rw[Au (by rfl),Au rfl]
        exact rais y H3 _ tz hp
      |some k=>
        rw[ec]at hp;dsimp only[Yl];rw[Ay (by decide)]
        refine⟨hA.same tz,_,ý (tf.same tz) (uo.same tz) (ry.same (ze.trans wj)),?_⟩;show AW _ _ _ (R.ok (.int w5.length)) _;intro yl H4 wk ryl;have pz:=tz.trans wk;refine⟨hA.same pz,_,ý (tf.same pz) (uo.same pz) (ry.same ((ze.trans wj).trans wk)),?_⟩;rw[Rl (x:=.str z) (ws:=ws) rfl];intro yw2 H5 u9 ryw2;have eyw2:yw2=.str z:=ryw2;subst eyw2;have d7:=pz.trans u9;refine⟨z,k,rfl,rfl,ec,hA.same d7,.int w5.length,.int k,ryl.same u9,.inl rfl,?_⟩;show AW _ _ _ (R.ok (.bl (!((w5.length:Ai)==k)))) _;intro yb H6 li ryb;refine⟨_,ryb,?_⟩;have d8:=d7.trans li;dsimp only;by_cases hk:(w5.length:Ai)=k
        · dsimp only at hp;rw[Au hk]at hp;rw[Ay (by rw[hk];simp)]
          exact⟨y,rfl,hp y H6 d8 ⟨ry.same ((((ze.trans wj).trans wk).trans u9).trans li),λz=>nomatch z⟩⟩
        · dsimp only at hp;rw[Ay hk]at hp;rw[Au (by simp[hk])]
          exact rais y H6 _ d8 hp
    |_=>exact hp.elim
end
noncomputable def nj(ls:Ac Ah)(w:Ah):An:=ls.any (· == w)
noncomputable def O8(la lm ll:Ac Ah)(Gl Gu Ga:Dk->Ac D->RK)(q:Dk)(w:Ah)(fm:D):RK:=if nj la w=Ab then .bad else if nj lm w=Ab then .bad else if nj ll w=Ab then Gl q [.str w,fm] else if w = "undo" then Gu q [] else Ga q [.str w]
noncomputable def Hs(la lm ll:Ac Ah)(cs:Ah->R D)(FR FT:Ac D->R D)(Gl Gu Ga:Dk->Ac D->RK)(q:Dk):Ac D->RK
  | [.str r]=>(match cs r with
    | .ok (.lst (.str w::ws))=>(match FR [q.p,.lst (.str w::ws)] with
      | .ok rs=>(match FT [q.p,rs] with
        |.ok fm=>O8 la lm ll Gl Gu Ga q w fm
        |.exn y=>.exn y
        | .bad=>.bad)
      |.exn y=>.exn y
      | .bad=>.bad)
    | _=>.bad)
  |_=>.bad
theorem jP{la lm ll:Ac Ah}{cs:Ah->R D}{FT:Ac D->R D}{Gl Gu Ga:Dk->Ac D->RK}{d:D}:Hs la lm ll cs FR FT Gl Gu Ga q [d]=.bad\/∃ r w ws,d=.str r/\cs r=.ok (.lst (.str w::ws))/\Hs la lm ll cs FR FT Gl Gu Ga q [d]=(match FR [q.p,.lst (.str w::ws)] with
      | .ok rs=>(match FT [q.p,rs] with
        |.ok fm=>O8 la lm ll Gl Gu Ga q w fm
        |.exn y=>.exn y
        | .bad=>.bad)
      |.exn y=>.exn y
      | .bad=>.bad):=by
  cases d with
  |str r=>
    cases e:cs r with
    |ok d=>
      have no:(∀ w ws,d≠.lst (.str w::ws))->Hs la lm ll cs FR FT Gl Gu Ga q [.str r]=.bad:=λh=>by
        unfold Hs;simp only[e];split
        · rename_i w ws z;exact absurd (by injection z) (h w ws)
        · rfl
      by_cases h:∃ w ws,d=.lst (.str w::ws)
      · obtain⟨w,ws,rfl⟩:=h;exact .inr ⟨r,w,ws,rfl,e,by unfold Hs;simp only[e]⟩
      · exact .inl (no λw ws z=>h ⟨w,ws,z⟩)
    |exn y=>exact .inl (by unfold Hs;simp only[e])
    |bad=>exact .inl (by unfold Hs;simp only[e])
  |_=>exact .inl rfl
theorem OM{g i:Ag}{ls:Ac Ah}{w:Ah}(hG:Z.G g=.tup (ls.map .str))(hi:U[i]?=Aa (Aa (.str w,Af))):(top U (.cmp .In (.var i) (.glob g)) (evE Z U (.cmp .In (.var i) (.glob g)))).bind Bs=.ok (nj ls w):=by
 have e2:Da U i=.ok (.str w):=by unfold Da;rw[hi]
 have e3:Cq .In (.str w) (.tup (ls.map .str))=.ok (.bl (nj ls w)):=by
  show (if (Y8 5 (.str w)&&(ls.map D.str).all (Y8 5))=Ab then R.ok (D.bl ((ls.map D.str).any λy=>My y (.str w))) else .bad)=_
  rw[Au (by rw[Am];exact⟨rfl,by rw[Ey,Bh];intro _ _;rfl⟩),XM]
  rfl
 rw[N2,Kx,Io,e2,R.bind_ok];show ((R.ok (Z.G g)).bind λy=>Cq .In (.str w) y).bind Bs=_
 rw[hG,R.bind_ok,e3];rfl
theorem K9{r:R D}{d:D}{Q:VK}(e:r=.ok d)(h:∀ v H',Az H H'->Rp H' v d->Q v H'):AW Rp W H r Q:=by rw[e];exact h
theorem Il{r:R An}{b:An}{Q:An->Hp->Prop}(e:r=.ok b)(h:∀ H',Az H H'->Q b H'):CS W H r Q:=by rw[e];exact h
noncomputable def ij(K:Fg)(CL:ClA)(A:Ak->Prop)(H:Hp)(U:Rho)(Y:L2.St)(h:î K CL A H U Y):Y9 K CL A U Y H:=(HF h).1
section
variable{P:AK}{w:AI}{K:Fg}{mg:Ah->Ao Al}{base:AJ}{CL:ClA}{fns:Ac (Ah×Ag×Ag)}{bl:Ac Ah}{rzs exs gls:Ac (Ah×Ag)}{Pg:Prg}{fuel n:Ag}{C:Ak}
theorem nU(t:ww K mg CL fns bl rzs exs gls Pg fuel){st:AL}{e2 c4' c5 c6 c7 c8:Aq}{b5 b6:Ac AL}{f fr fl fu fa:Ak}{frd fld fud fad:Bi}{ck cq k9 jb jc Ù cu cw cx Ú Û Ü:AF}{tb:Ag}{cs:E}{ga gm gl:Ag}{la lm ll:Ac Ah}{Gl' Gu Ga:Dk->Ac D->RK}(dc:uq K C)(hf:zf K x qual st f fd)(hs:tj ["self", "row"] ["self", "row", "words", "word", "form"] st=Ab)(hb:Dh st=[.Assign [.Name "words" p1] e1 p2,.Assign [.Name "word" p3] e2 p4,.Assign [.Name "form" p5] (.Call (.Name "told_by" p6) [.Attribute (.Name "self" p7) "p" p8,.Call (.Name "rests_of_row" p9) [.Attribute (.Name "self" p10) "p" w4,.Name "words" wg] [] ux] [] uj) uk,.If (.BoolOp .And [c4,c4'] ul) b4 [] vj,.If c5 b5 [] um,.If c6 b6 [] pf,.If c7 [.Return (Aa (.Call (.Attribute (.Name "self" nu) "list_changed" nv) [.Name "word" kz,.Name "form" cj] [] ja)) ck] [] cq,.If c8 [.Return (Aa (.Call (.Attribute (.Name "self" k9) "undone" jb) [] [] jc)) Ù] [] cu,.Return (Aa (.Call (.Attribute (.Name "self" cw) "list_asked" cx) [.Name "word" Ú] [] Û)) Ü])(hl:((nv.endLine==ja.line)&&((jb.endLine==jc.line)&&(cx.endLine==Û.line)))=Ab)(hm:((("told_by" : Ah),tb,2):Ah×Ag×Ag)∈fns)(rj:(zn ⟨AH st,["self", "row", "words", "word", "form"],fns,bl,rzs,exs,gls,Ab⟩ "told_by" && zn ⟨AH st,["self", "row", "words", "word", "form"],fns,bl,rzs,exs,gls,Ab⟩ "rests_of_row")=Ab)(k1:Be fuel ⟨AH st,["self", "row", "words", "word", "form"],fns,bl,rzs,exs,gls,Ab⟩ e1 cs=Ab)(k2:Be fuel ⟨AH st,["self", "row", "words", "word", "form"],fns,bl,rzs,exs,gls,Ab⟩ e2 (.idx (.var 2) (.int 0))=Ab)(nc:(F4 e1&&F4 e2)=Ab)(k4:Eb fuel ⟨AH st,["self", "row", "words", "word", "form"],fns,bl,rzs,exs,gls,Ab⟩ c4 (.cmp .In (.var 3) (.glob ga))=Ab)(k5:Eb fuel ⟨AH st,["self", "row", "words", "word", "form"],fns,bl,rzs,exs,gls,Ab⟩ c5 (.cmp .In (.var 3) (.glob ga))=Ab)(k6:Eb fuel ⟨AH st,["self", "row", "words", "word", "form"],fns,bl,rzs,exs,gls,Ab⟩ c6 (.cmp .In (.var 3) (.glob gm))=Ab)(k7:Eb fuel ⟨AH st,["self", "row", "words", "word", "form"],fns,bl,rzs,exs,gls,Ab⟩ c7 (.cmp .In (.var 3) (.glob gl))=Ab)(k8:Eb fuel ⟨AH st,["self", "row", "words", "word", "form"],fns,bl,rzs,exs,gls,Ab⟩ c8 (.cmp .Eq (.var 3) (.str "undo"))=Ab)(ha':Pg.G ga=.tup (la.map .str))(hm':Pg.G gm=.tup (lm.map .str))(hl':Pg.G gl=.tup (ll.map .str))(mr:mg "rests_of_row" = Aa (.ref fr))(kr:Ba K (.ref fr)=Ab)(br:CV K frd ["p", "words"] [])(FRok:Y4 P w K mg base (CXR P w) n fr frd ["p", "words"] (spD K CL 2 Af FR))(ml:zh K C "list_changed" fl)(bll:CV K fld ["self", "word", "form"] [])(GL:Y4 P w K mg base (CXR P w) n fl fld ["self", "word", "form"] (wa K CL C 2 Gl'))(mu:zh K C "undone" fu)(blu:CV K fud ["self"] [])(GU:Y4 P w K mg base (CXR P w) n fu fud ["self"] (wa K CL C 0 Gu))(ma:zh K C "list_asked" fa)(bla:CV K fad ["self", "word"] [])(GA:Y4 P w K mg base (CXR P w) n fa fad ["self", "word"] (wa K CL C 1 Ga)):
  Y4 P w K mg base (CXR P w) (n+1) f fd ["self", "row"] (wa K CL C 1 (Hs la lm ll (λr=>evE (Z6 Pg n) [Ae,Aa (.str r,Af),Ae,Ae,Ae] cs) FR ((Z6 Pg n).F tb) Gl' Gu Ga)):=by
 obtain⟨oc,od,dV,kV,doc,pm,an,cdv,ct,osl,rfl,lk,zy⟩:=hf.ex;have sc:=JB hs;refine Hm lk zy sc.fs (λvs H Q E ⟨a,la,us,ds,A,q,e,z,_⟩=>by rw[e,A8,z];rfl) λA outer s H vs Q E hr ⟨a,o8,us,ds,B,q,e,U8,hA,ha,zj,rs,dk,hp⟩=>?_
 subst e;rw[hb];have v:=Lr (P:=P) (w:=w) (base:=base) (outer:=outer) (H:=H) (E:=E) t sc hr;obtain⟨kh,w9⟩:=Bk rj;obtain⟨hl1,ng⟩:=Bk hl;obtain⟨ng,hl3⟩:=Bk ng;obtain⟨b9,nc2⟩:=Bk nc;have U9:∀ p,PE (B1 (CXR P w) P w K mg base ["self", "row", "words", "word", "form"] qual (AH st) f cdv A outer s H E) (.Name "self" p) (Ch 0):=λp=>Dw rfl (.inl (sc.loc "self" (by simp)))
 have lb:∀ p,PE (B1 (CXR P w) P w K mg base ["self", "row", "words", "word", "form"] qual (AH st) f cdv A outer s H E) (.Name "words" p) (Ch 2):=λp=>Dw rfl (.inl (sc.loc "words" (by simp)))
 have n5:∀ p,PE (B1 (CXR P w) P w K mg base ["self", "row", "words", "word", "form"] qual (AH st) f cdv A outer s H E) (.Name "word" p) (Ch 3):=λp=>Dw rfl (.inl (sc.loc "word" (by simp)))
 have vk:∀ p,PE (B1 (CXR P w) P w K mg base ["self", "row", "words", "word", "form"] qual (AH st) f cdv A outer s H E) (.Name "form" p) (Ch 4):=λp=>Dw rfl (.inl (sc.loc "form" (by simp)))
 have E1:=((zp fuel).e _ _ _ e1 _ v k1).se B;have E2:=((zp fuel).e _ _ _ e2 _ v k2).se B;have C4:=(zp fuel).b _ _ _ c4 _ v k4 B;have C5:=(zp fuel).b _ _ _ c5 _ v k5 B;have C6:=(zp fuel).b _ _ _ c6 _ v k6 B;have C7:=(zp fuel).b _ _ _ c7 _ v k7 B;have C8:=(zp fuel).b _ _ _ c8 _ v k8 B;have hgr:Gl (B1 (CXR P w) P w K mg base ["self", "row", "words", "word", "form"] qual (AH st) f cdv A outer s H E) "rests_of_row" := AD.mp w9;have nev:PW (B1 (CXR P w) P w K mg base ["self", "row", "words", "word", "form"] qual (AH st) f cdv A outer s H E) (.BoolOp .And [c4'] ul) (λ_ _ _=>AM):=λ_ _ _ _ _ _ _ h=>h.elim
 refine⟨_,B9 (EE (i:=2) sc.fs.nd rfl (.inl (sc.loc "words" (by simp))) E1 (HJ b9) (.inl rfl)) (B9 (EE (i:=3) sc.fs.nd rfl (.inl (sc.loc "word" (by simp))) E2 (HJ nc2) (.inl rfl)) (B9 (EE (i:=4) sc.fs.nd rfl (.inl (sc.loc "form" (by simp))) (OJ v hm (by decide) rfl kh (Bv (Q8 dc U9) (Bv (Kd FRok v.room hgr mr kr br .nil (v.px A0) (Bv (Q8 dc U9) (Bv (lb wg) Ca rfl) rfl) (by decide) rfl rfl) Ca rfl) rfl)) rfl (.inl rfl))
  (B9 (FJ (PW.pt (QC C4 nev)) Js GV) (B9 (FJ C5 Js GV) (B9 (FJ C6 Js GV) (B9 (FJ C7 (DT (Hi (Rc (U9 nu) dc.cl ml GL v.room bll (v.px A0) (Bv (n5 kz) (Bv (vk cj) Ca rfl) rfl) hl1))) GV) (B9 (FJ C8 (DT (Hi (nM (U9 k9) dc.cl mu GU v.room blu (v.px A0) ng))) GV) (DT (Hi (Rc (U9 cw) dc.cl ma GA v.room bla (v.px A0) (Bv (n5 Ú) Ca rfl) hl3)))))))))),?_⟩
 obtain⟨u,d,rfl,rfl,ru⟩:=NU U8 rs;rcases jP (la:=la) (lm:=lm) (ll:=ll) (cs:=λr=>evE (Z6 Pg n) [Ae,Aa (.str r,Af),Ae,Ae,Ae] cs) (FR:=FR) (FT:=(Z6 Pg n).F tb) (Gl:=Gl') (Gu:=Gu) (Ga:=Ga) (q:=q) (d:=d) with hz|⟨r,wd,ws,rfl,ecs,eG⟩
 .rw[hz]at hp;exact hp.elim
 rw[eG]at hp;have oq:=dk;obtain⟨dx,v1,v2,v3,xs,h1,h2,r4,r5,r6,r7⟩:=dk;refine⟨hA,[Ae,Aa (.str r,Af),Ae,Ae,Ae],ij K CL B H _ [Aa (.ref a),Aa u,Ae,Ae,Ae] ⟨⟨rfl,u,rfl,ru⟩,trivial⟩,?_⟩;show AW _ _ _ (evE (Z6 Pg n) [Ae,Aa (.str r,Af),Ae,Ae,Ae] cs) _;rw[show evE (Z6 Pg n) [Ae,Aa (.str r,Af),Ae,Ae,Ae] cs=.ok (.lst (.str wd::ws)) from ecs]
 intro y2 H1 pk de;refine⟨hA.same pk,[Ae,Aa (.str r,Af),Aa (.lst (.str wd::ws),Af),Ae,Ae],ij K CL B H1 _ [Aa (.ref a),Aa u,Aa y2,Ae,Ae] ⟨⟨rfl,u,rfl,ru.same pk⟩,⟨rfl,y2,rfl,de⟩,trivial⟩,?_⟩;refine K9 (Rl (x:=.str wd) (ws:=ws) rfl) λy3 H2 ze ry3=>?_
 have s2:=pk.trans ze;refine⟨a,dx,v1,v2,v3,o8,rfl,s2 _ _ h1,a,dx,v1,v2,v3,o8,rfl,s2 _ _ h1,y2,rfl,[q.p,.lst (.str wd::ws)],B,rfl,hA.same s2,⟨r4.same s2,de.same ze,trivial⟩,?_⟩;cases eR:FR [q.p,.lst (.str wd::ws)] with
 |bad=>rw[eR]at hp;exact hp.elim
 |exn y=>rw[eR]at hp;exact λcls dx H3 wj xr=>⟨y,xr,λcls dx xr=>hp cls dx H3 (s2.trans wj) xr⟩
 |ok w5=>
  rw[eR]at hp;dsimp only at hp;intro yr H3 wj ryr;have s3:=s2.trans wj;refine⟨[q.p,w5],B,rfl,hA.same s3,⟨r4.same s3,ryr.1,trivial⟩,?_⟩;cases eT:(Z6 Pg n).F tb [q.p,w5] with
  |bad=>rw[eT]at hp;exact hp.elim
  |exn y=>rw[eT]at hp;exact λcls dx H4 wk xr=>⟨y,xr,λcls dx xr=>hp cls dx H4 (s3.trans wk) xr⟩
  |ok fm=>
   rw[eT]at hp;dsimp only at hp;intro yf H4 wk ryf;have s4:=s3.trans wk;have gd:∀ H',Az H4 H'->Y9 K CL B [Ae,Aa (.str r,Af),Aa (.lst (.str wd::ws),Af),Aa (.str wd,Af),Aa (fm,Af)] [Aa (.ref a),Aa u,Aa y2,Aa y3,Aa yf] H':=λH' sm=>ij K CL B H' _ _ ⟨⟨rfl,u,rfl,ru.same (s4.trans sm)⟩,⟨rfl,y2,rfl,de.same (((ze.trans wj).trans wk).trans sm)⟩,⟨rfl,y3,rfl,ry3.same ((wj.trans wk).trans sm)⟩,⟨rfl,yf,rfl,ryf.1.same sm⟩,trivial⟩
   have hGa:(Z6 Pg n).G ga=.tup (la.map .str):=by rw[KH];exact ha'
   have hGm:(Z6 Pg n).G gm=.tup (lm.map .str):=by rw[KH];exact hm'
   have hGl:(Z6 Pg n).G gl=.tup (ll.map .str):=by rw[KH];exact hl'
   refine⟨hA.same s4,_,gd H4 (Az.refl _),?_⟩;refine Il (OM (w:=wd) hGa rfl) λH5 u9=>?_
   unfold O8 at hp;cases ia:nj la wd with
   |true=>rw[ia,Au rfl]at hp;exact hp.elim
   |false=>
   rw[ia,Ay Ax]at hp;show HK _ _ H5;refine⟨(hA.same s4).same u9,_,gd H5 u9,?_⟩;refine Il ((OM (w:=wd) hGa rfl).trans (by rw[ia])) λH6 li=>?_
   show HK _ _ H6;have s56:=u9.trans li;refine⟨(hA.same s4).same s56,_,gd H6 s56,?_⟩;refine Il (OM (w:=wd) hGm rfl) λH7 sm7=>?_
   cases im:nj lm wd with
   |true=>rw[im,Au rfl]at hp;exact hp.elim
   |false=>
   rw[im,Ay Ax]at hp;show HK _ _ H7;have s57:=s56.trans sm7;refine⟨(hA.same s4).same s57,_,gd H7 s57,?_⟩;refine Il (OM (w:=wd) hGl rfl) λH8 sm8=>?_
   have dl:=s57.trans sm8;have s8:=s4.trans dl;have step:∀(r:RK)(H':Hp),Az H H'->qe r (λd q'=>∀ v H',KB a o8 H H'->Cw K CL Ab H B H' v d->DK K CL H' (AV B v) C a o8 q'->Q v H') (λx=>∀ cls dx H',Az H H'->Dy K CL H' cls dx x->E cls dx H')->qe r (λd q'=>∀ v H2,KB a o8 H' H2->Cw K CL Ab H' B H2 v d->DK K CL H2 (AV B v) C a o8 q'->Q v H2) (λx=>∀ cls dx H2,Az H' H2->Dy K CL H2 cls dx x->EKW K CL A0 (WE K CL E) cls dx H2):=λr H' sm h=>by
    cases r with
    |bad=>exact h.elim
    |exn y=>exact λcls dx H2 s2 xr=>⟨y,xr,λcls dx xr=>h cls dx H2 (sm.trans s2) xr⟩
    |ok d q'=>exact λv H2 kb rc dk=>h v H2 ((KB.of sm).trans kb) (P3 sm rc) dk
   cases il:nj ll wd with
   |true=>
    rw[il,Au rfl]at hp;exact⟨.ref a,rfl,a,dx,_,rfl,s8 _ _ h1,rfl,y3,rfl,yf,rfl,a,o8,[y3,yf],[.str wd,fm],B,q,rfl,rfl,hA.same s8,ha,zj,⟨ry3.same ((wj.trans wk).trans dl),ryf.1.same dl,trivial⟩,oq.same s8,step _ H8 s8 hp⟩
   |false=>
   rw[il,Ay Ax]at hp;show HK _ _ H8;refine⟨hA.same s8,_,gd H8 dl,?_⟩;have ê:((top [Ae,Aa (D.str r,Af),Aa (D.lst (D.str wd::ws),Af),Aa (D.str wd,Af),Aa (fm,Af)] (.cmp .Eq (.var 3) (.str "undo")) (evE (Z6 Pg n) [Ae,Aa (D.str r,Af),Aa (D.lst (D.str wd::ws),Af),Aa (D.str wd,Af),Aa (fm,Af)] (.cmp .Eq (.var 3) (.str "undo")))).bind Bs)=.ok (decide (wd = "undo")):=by
    show R.ok (wd == "undo")=_
    congr 1
   refine Il ê λH9 qk=>?_
   have s9:=s8.trans qk;by_cases iu:wd = "undo"
   .rw[Au iu]at hp;rw[CI iu];exact⟨.ref a,rfl,a,dx,_,rfl,s9 _ _ h1,rfl,a,o8,[],[],B,q,rfl,rfl,hA.same s9,ha,zj,trivial,oq.same s9,step _ H9 s9 hp⟩
   .rw[Ay iu]at hp;rw[BM iu];show HK _ _ H9;exact⟨.ref a,rfl,a,dx,_,rfl,s9 _ _ h1,rfl,y3,rfl,a,o8,[y3],[.str wd],B,q,rfl,rfl,hA.same s9,ha,zj,⟨ry3.same (((wj.trans wk).trans dl).trans qk),trivial⟩,oq.same s9,step _ H9 s9 hp⟩
end
def spN(C:Ak):Sp:=λvs H Q E=>∃ x dx u,vs=[.ref x,u]/\H x=Aa (.ins C dx [])/\∀ H' l1 l2,H l1=Ae->H l2=Ae->l1≠l2->H' x=Aa (.ins C dx (yx u (.ref l1) .non l2))->H' l1=Aa (.lst [])->H' l2=Aa (.lst [])->(∀ b o,H b=Aa o->b≠x->H' b=Aa o)->Q .non H'
section
variable{P:AK}{w:AI}{K:Fg}{mg:Ah->Ao Al}{base:AJ}{n:Ag}{C:Ak}
theorem qG{st:AL}{f:Ak}{k}(dc:uq K C)(hf:zf K x qual st f fd)(hs:tj ["self", "p"] ["self", "p"] st=Ab)
  (hb:Dh st=[.Assign [.Attribute (.Name "self" p1) "p" p2] (.Name "p" p3) p4,.Assign [.Attribute (.Name "self" p5) "points" p6] (.List [] p7) p8,.Assign [.Attribute (.Name "self" p9) "curve" p10] (.Constant .none k w4) wg,.Assign [.Attribute (.Name "self" ux) "past" uj] (.List [] uk) ul]):
  Y4 P w K mg base (CXR P w) (n+1) f fd ["self", "p"] (spN C):=by
 obtain⟨oc,od,dV,kV,doc,pm,an,cdv,ct,osl,rfl,lk,zy⟩:=hf.ex;have sc:=JB hs;refine Hm lk zy sc.fs (λvs H Q E ⟨a,dx,u,e,_⟩=>by rw[e];rfl) λA outer s H vs Q E hr ⟨a,dx,u,e,ha,q⟩=>?_
 subst e;rw[hb];have U9:∀ p,PE (B1 (CXR P w) P w K mg base ["self", "p"] qual (AH st) f cdv A outer s H E) (.Name "self" p) (Ch 0):=λp=>Dw rfl (.inl (sc.loc "self" (by simp)))
 have pp:∀ p,PE (B1 (CXR P w) P w K mg base ["self", "p"] qual (AH st) f cdv A outer s H E) (.Name "p" p) (Ch 1):=λp=>Dw rfl (.inl (sc.loc "p" (by simp)))
 refine⟨_,B9 (IK (U9 p1) (pp p3) rfl) (B9 (IK (U9 p5) (L6 Ca) rfl) (B9 (IK (U9 p9) Oe rfl) (DT (IK (U9 ux) (L6 Ca) rfl)))),?_⟩;refine⟨u,rfl,.ref a,rfl,a,C,dx,[],rfl,ha,dc.cl,dc.n1,by decide,Ds _,λl1 h1=>?_⟩
 have n1:l1≠a:=λz=>by rw[z,BO]at h1;cases h1
 refine⟨.ref a,rfl,a,C,dx,[("p",u)],rfl,by rw[AQ (CG n1)];exact BO,dc.cl,dc.n2,AR rfl,.ref a,rfl,a,C,dx,[("p",u),("points",.ref l1)],rfl,BO,dc.cl,dc.n3,AR rfl,Ds _,λl2 h2=>?_⟩
 have n2:l2≠a:=λz=>by rw[z,BO]at h2;cases h2
 rw[AQ n2,AQ n2]at h2;have n3:l1≠l2:=λz=>by rw[<-z,BO]at h2;cases h2
 refine⟨.ref a,rfl,a,C,dx,[("p",u),("points",.ref l1),("curve",.non)],rfl,by rw[AQ (CG n2)];exact BO,dc.cl,dc.n4,AR rfl,?_⟩
 rw[AQ n1]at h1;rw[AQ (CG n3),AQ n2]at h2;refine q _ l1 l2 h1 h2 n3 BO ?_ ?_ λb o e n=>?_
 .rw[AQ n1,AQ n3,AQ n1,AQ n1];exact BO
 .rw[AQ n2];exact BO
 .have e1:b≠l1:=Er e h1;have e2:b≠l2:=Er e h2;rw[AQ n,AQ e2,AQ n,AQ n,AQ e1,AQ n];exact e
end
section
variable{X:Cx}{CL:ClA}{W:XW}
def Ϲ(X:Cx)(jw:AL)(tb:L2.St->XK->TS):Prop:=∀ pI Xw,FE (model X.prog X.w) X.A X.env Xw->∀(Y0:L2.St)(E0:XK),(∀ LE H1 s1 ev s',Z8 (Cx.pw X pI Xw) LE Y0 H1 s1->CXR X.prog X.w (Cx.pw X pI Xw).stack H1 s1 E0 ev s'->(Cx.pw X pI Xw).xe ev s')->PS (Cx.pw X pI Xw) jw (tb Y0 E0)
theorem iN{c i:Ag}{g nm:Ah}{jw:AL}{p1 hp pos:AF}(hx:X.ex=[])(yu:X.stack=X.env::X.outer)(au:X.env.frame=Aa X.env.locals)(hN:X.N.Nodup)(hi:X.N[i]?=Aa nm)(hl:X.env.scope.names.lookup nm=Aa .local)(h1:Pc X CL up g c)(hb:Ϲ X jw tb)(hh:∀ e,wc (Cx.hot X e) CL (λ_ _=>AM) (h0::hs) fh):PS X (.Try [jw] [.ExceptHandler (Aa (.Name g p1)) (Aa nm) (h0::hs) hp] [] [] pos) (λD Y H=>tb Y (λ_ _ _=>AM) D Y H\/∃(y:Ex)(Fz:Fr)(B:Ak->Prop)(U:Rho),(up y.c).contains c=Ab/\Sx X.K CL Fz B U Y H/\B4 X.K CL Fz B W (uv i y U fh) D/\tb Y (λcls dx H'=>Dy X.K CL H' cls dx y/\Az H H') {nx:=λ_ _=>AM,rt:=λ_ _=>AM} Y H):=λpI s Y H D I h=>by
 refine ZU ?_;rcases h with h|⟨y,Fz,B,U,hc,sx,hpo,h⟩
 .refine Bj (DT (hb pI _ HR Y _ gR) [] s Y H D (QU I _) h) (λf s1 hf=>?_) λ_ _ z=>z
  have hf:=iY I.ok hf;cases f with
  |next=>exact GQ hf
  |ret u=>exact hf
  |brk=>exact hf
  |cont=>exact hf
 .have qa:Nj X CL pI Y H y (λev s1=>AA (model X.prog X.w) X.A (FG ev X.env) (λ_ s2=>AA (model X.prog X.w) X.A (GD ev Ae) (λ_ s3=>AA (model X.prog X.w) X.A (Ij ev X.env [.ExceptHandler (Aa (.Name g p1)) (Aa nm) (h0::hs) hp]) (SP X pI D) X.xe s3) X.xe s2) X.xe s1):=by
   refine TM hx yu au λe T1 cls dx H' s1 I1 sm ou ae gp he gb xr=>?_
   have gx:=sx.grow sm;obtain⟨C,yh,rfl,_⟩:=xr (BN B U Y) gx.aok;obtain⟨C',hg,hm,zS,xc,hup⟩:=h1;exact Qo (W:=W) hx hN hi hl hg hm zS xc (hup y.c C yh) hh I1 ou ae gp he gb gx yh xr (λ_=>hpo) (λz=>by rw[hc]at z;cases z)
  refine Bj (DT (hb pI _ HR Y _ (Ug hx I.ok qa)) [] s Y H _ (QU I _) h) (λf s1 hf=>?_) λ_ _ z=>z
  cases f with
  |next=>obtain⟨_,_,_,z⟩:=hf;exact z.elim
  |ret u=>obtain⟨_,_,_,_,_,z⟩:=hf;exact z.elim
  |brk=>obtain⟨_,_,_,z⟩:=hf;exact z.elim
  |cont=>obtain⟨_,_,_,z⟩:=hf;exact z.elim
end
section
variable{X:Cx}{CX:CXT}{k:Ag}{f C:Ak}{fd:Bi}{ps:Ac Ah}{sp:Sp}{E:XK}{m:Ah}{pos apos:AF}{e o:Aq}{es:Ac Aq}{ta:TE}{t:TA}{Y0:L2.St}
theorem jS{s:Ar}{Q:VK}{us:Ac Al}{vs:Ac V}(F:Y4 X.prog X.w X.K X.mg X.base CX k f fd ps sp)(hr:U5 k X.A)(hb:CV X.K fd ps [])(hx:∀ pI H s e s',Z8 X pI Y0 H s->CX X.stack H s E e s'->X.xe e s')(I:Z8 X pI Y0 H s)(r:A1 vs us)(q:sp vs H Q E):AA (model X.prog X.w) X.A (call (.ref f) us) (EP X pI Y0 Q) X.xe s:=by
 have hl:us.length=ps.length:=by rw[<-r.length];exact F.len _ _ _ _ q
 have al:Gy s fd ⟨us,[]⟩ (ps.zip us):=by
  have:=hb s us I.kIn (by rw[BA];exact hl)
  rwa [BA]at this
 refine FV (ED (F.run X.A X.stack s H ⟨us,[]⟩ us vs Q E hr I.env0 al r q) λr s' hq=>?_)
 cases r with
 |error e=>exact hx pI H s e s' I hq
 |ok fl=>
  cases fl with
  |ret u=>exact I.after hq
  |next=>exact A7 hq
  |brk=>exact A7 hq
  |cont=>exact A7 hq
theorem VC(he:PE X o ta)(c:wl X.K C)(hm:zh X.K C m f)(F:Y4 X.prog X.w X.K X.mg X.base CX k f fd ps sp)(hr:U5 k X.A)(hb:CV X.K fd ps [])(hx:∀ pI H s ev s',Z8 X pI Y0 H s->CX X.stack H s E ev s'->X.xe ev s')(ha:PA X (e::es) t)(U6:(apos.endLine==pos.line)=Ab)(ya:FP ((e::es).length+([]:Ac CB).length) (Br pos (Aw (e::es) X.env)) (D9 pos (Dg [] X.env))=Ab:=by rfl)(U7:BH o m X.env (eval o X.env)=eval o X.env:=by rfl)(yu:Aw (e::es) X.env=(Af,eval e X.env)::Aw es X.env:=by rfl)(zR:(Br pos (Aw es X.env)).any (·.1)=Af:=by rfl):PE X (.Call (.Attribute o m apos) (e::es) [] pos) (λY H Q=>Y=Y0/\Lf C m sp [] E ta t Y H Q):=by
 intro pI s Y H Q I ⟨e0,h⟩;subst e0;rw[Gg,U7];refine As (U4 (he pI s Y H _ I h) λu s1 ⟨x,H1,I1,rx,a,dx,fs,ex,ea,l,q⟩=>?_)
 subst ex;obtain rfl:u=Bm a:=rx;refine As (CT ?_);have vw:Dl Ab o X.env apos pos=pure pos:=by
  unfold Dl;simp[U6]
 unfold HV;rw[ya];refine As (Ck (NQ I1 ea c hm l ?_));refine As (Ge vw ?_);refine DI (first:=[.ref a]) (h₀:=X.base) I.ok.mod.kin hm.kp (U4 (ha pos pI s1 Y H1 _ I1 q) λus s2 ⟨vs,H2,I2,r,q2⟩=>⟨I2.kIn,?_⟩) yu zR
 have q2:sp (V.ref a::(vs++[])) H2 Q E:=q2;rw[BA]at q2;exact jS (us:=.ref a::us) (vs:=.ref a::vs) F hr hb hx I2 (.cons rfl r) q2
end
section
variable(K:Fg)(CL:ClA)
def Rz(H:Hp)(A:Ak->Prop)(H':Hp)(v x:V)(d:D):Prop:=∃ nm d2 t,d=.tup [.str nm,d2]/\v=.ref t/\H' t=Aa (.tup [.str nm,x])/\¬ A t/\Cw K CL Ab H A H' x d2
def spS(C:Ak)(m:Ag)(G:Dk->Ac D->RK):Sp:=λvs H Q E=>∃(a la:Ak)(us:Ac V)(ds:Ac D)(A:Ak->Prop)(q:Dk),vs=.ref a::us/\us.length=m/\Tm H A/\A a/\A la/\Z9 K CL H A us ds/\DK K CL H A C a la q/\qe (G q ds) (λd q'=>∀ v x H',KB a la H H'->Rz K CL H A H' v x d->DK K CL H' (AV A x) C a la q'->Q v H') (λ_=>AM)
end
noncomputable def n6(up:Ag->Ac Ag)(FT FH:Ac D->R D)(G:Dk->Ac D->RK)(q:Dk)(ds:Ac D):RK:=match G q ds with
  | .ok (.lst ts) q'=>(match FT [.lst ts] with
    |.ok (.bl Ab)=>.ok (.tup [.str "told",.lst ts]) q'
    | _=>.bad)
  | .exn y=>(match FH [.exc y.c y.fs] with
    |.ok (.str nm)=>if (up y.c).contains 0=Ab/\nm≠"told" then .ok (.tup [.str nm,.non]) q else .bad
    | _=>.bad)
  |_=>.bad
theorem nR(up:Ag->Ac Ag)(FT FH:Ac D->R D)(G:Dk->Ac D->RK)(q:Dk)(ds:Ac D):n6 up FT FH G q ds=.bad\/(∃ ts q',G q ds=.ok (.lst ts) q'/\FT [.lst ts]=.ok (.bl Ab)/\n6 up FT FH G q ds=.ok (.tup [.str "told",.lst ts]) q')\/∃ y nm,G q ds=.exn y/\FH [.exc y.c y.fs]=.ok (.str nm)/\(up y.c).contains 0=Ab/\nm≠"told"/\n6 up FT FH G q ds=.ok (.tup [.str nm,.non]) q:=by
 unfold n6;cases e:G q ds with
 |bad=>exact .inl rfl
 |ok d q'=>
  cases d with
  |lst ts=>
   dsimp only;cases e2:FT [.lst ts] with
   |ok b=>
    cases b with
    |bl b=>
     cases b with
     |true=>exact .inr (.inl ⟨ts,q',rfl,e2,rfl⟩)
     |false=>exact .inl rfl
    |_=>exact .inl rfl
   |_=>exact .inl rfl
  |_=>exact .inl rfl
 |exn y=>
  dsimp only;cases e2:FH [.exc y.c y.fs] with
  |ok b=>
   cases b with
   |str nm=>
    by_cases h:(up y.c).contains 0=Ab/\nm≠"told"
    .exact .inr (.inr ⟨y,nm,rfl,e2,h.1,h.2,Au h⟩)
    .exact .inl (Ay h)
   |_=>exact .inl rfl
  |_=>exact .inl rfl
section
variable{P:AK}{w:AI}{K:Fg}{mg:Ah->Ao Al}{base:AJ}{CL:ClA}{fns:Ac (Ah×Ag×Ag)}{bl:Ac Ah}{rzs exs gls:Ac (Ah×Ag)}{Pg:Prg}{fuel n:Ag}{C:Ak}
theorem jQ(t:ww K mg CL fns bl rzs exs gls Pg fuel){st h0:AL}{f fy:Ak}{û:Bi}{k1 k2 k3}{tx rf:Ag}(dc:uq K C)(hf:zf K x qual st f fd)(hs:tj ["_law_desk", "_law_row_here"] ["_law_desk", "_law_row_here", "_law_answer", "_law_word", "_law_error"] st=Ab)
    (hb:Dh st=[.Assign [.Name "_law_answer" p1] (.Constant .none k1 p2) p3,.Assign [.Name "_law_word" p4] (.Constant (.str "told") k2 p5) p6,.Try [.Assign [.Name "_law_answer" p7] (.Call (.Attribute (.Name "_law_desk" p8) "say" p9) [.Name "_law_row_here" p10] [] w4) wg] [.ExceptHandler (Aa (.Name "OvalError" ux)) (Aa "_law_error") [h0] uj] [] [] uk,.If c4 b4 [] ul,.Return (Aa (.Tuple [.Name "_law_word" vj,.Name "_law_answer" um] k3 pf)) nu])
    (hl:(p9.endLine==w4.line)=Ab) (hd:ao ⟨AH st,["_law_desk", "_law_row_here", "_law_answer", "_law_word", "_law_error"],fns,bl,rzs,exs,gls,Ab⟩ "OvalError" 0=Ab)
    (k0:Lo fuel ⟨AH st,["_law_desk", "_law_row_here", "_law_answer", "_law_word", "_law_error"],fns,bl,rzs,exs,gls,Ab⟩ 4 [h0] (.cons (.asg 3 Af (.call rf (.cons (.var 4) .nil))) .nil)=Ab)
    (k4:Eb fuel ⟨AH st,["_law_desk", "_law_row_here", "_law_answer", "_law_word", "_law_error"],fns,bl,rzs,exs,gls,Ab⟩ c4 (.and (.cons (.cmp .Eq (.var 3) (.str "told")) (.cons (.no (.call tx (.cons (.var 2) .nil))) .nil)))=Ab)
    (my:zh K C "say" fy) (by':CV K û ["self", "row"] []) (GY:Y4 P w K mg base (CXR P w) n fy û ["self", "row"] (wa K CL C 1 G)):
    Y4 P w K mg base (CXR P w) (n+1) f fd ["_law_desk", "_law_row_here"] (spS K CL C 1 (n6 Pg.up ((Z6 Pg n).F tx) ((Z6 Pg n).F rf) G)):=by
  obtain⟨oc,od,dV,kV,doc,pm,an,cdv,ct,osl,rfl,lk,zy⟩:=hf.ex;have sc:=JB hs;refine Hm lk zy sc.fs (λvs H Q E ⟨a,la,us,ds,A,q,e,z,_⟩=>by rw[e,A8,z];rfl) λA outer s H vs Q E hr ⟨a,la,us,ds,B,q,e,U8,hA,ha,zj,rs,dk,hp⟩=>?_
  subst e;rw[hb];have v:=Lr (P:=P) (w:=w) (base:=base) (outer:=outer) (H:=H) (E:=E) t sc hr;have pv:∀(i:Ag)(nm:Ah)(p:AF),(["_law_desk", "_law_row_here", "_law_answer", "_law_word", "_law_error"]:Ac Ah)[i]?=Aa nm->(nm==("__debug__" : Ah))=Af->(nm==("__classdict__" : Ah))=Af->PE (B1 (CXR P w) P w K mg base ["_law_desk", "_law_row_here", "_law_answer", "_law_word", "_law_error"] qual (AH st) f cdv A outer s H E) (.Name nm p) (Ch i):=λi nm p h d1 d2=>Dw h (.inl (sc.loc nm (GH h))) d1 d2
  have C4:=(zp fuel).b _ _ _ c4 _ v k4 B;have HH:=λe=>OO v ⟨λ_=>rfl,rfl,rfl,rfl⟩ e 4 fuel _ _ k0
  have tbd:Ϲ (B1 (CXR P w) P w K mg base ["_law_desk", "_law_row_here", "_law_answer", "_law_word", "_law_error"] qual (AH st) f cdv A outer s H E) (.Assign [.Name "_law_answer" p7] (.Call (.Attribute (.Name "_law_desk" p8) "say" p9) [.Name "_law_row_here" p10] [] w4) wg) (λY0 E0 D Y H'=>Y=Y0/\Lf C "say" (wa K CL C 1 G) [] E0 (Ch 0) (Lg (Ch 1) Mo) Y H' λu H1=>D.nx (Y.set 2 (Aa u)) H1):=λpI Xw _ Y0 E0 hx=>
    EE (X:=Cx.pw (B1 (CXR P w) P w K mg base ["_law_desk", "_law_row_here", "_law_answer", "_law_word", "_law_error"] qual (AH st) f cdv A outer s H E) pI Xw) (i:=2) sc.fs.nd rfl (.inl (sc.loc "_law_answer" (by simp))) (VC (Y0:=Y0) (E:=E0) (Dw (i:=0) rfl (.inl (sc.loc "_law_desk" (by simp)))) dc.cl my GY v.room by' hx (Bv (Dw (i:=1) rfl (.inl (sc.loc "_law_row_here" (by simp)))) Ca rfl) hl) rfl (.inl rfl)
  refine⟨_,B9 (EE (i:=2) sc.fs.nd rfl (.inl (sc.loc "_law_answer" (by simp))) Oe rfl (.inl rfl)) (B9 (EE (i:=3) sc.fs.nd rfl (.inl (sc.loc "_law_word" (by simp))) KA rfl (.inl rfl)) (B9 (iN (W:=W0) (i:=4) rfl rfl rfl sc.fs.nd rfl (sc.loc "_law_error" (by simp)) (QX v hd) tbd HH) (B9 (FJ C4 Js GV) (DT (Hi (Od (Bv (pv 3 _ vj rfl rfl rfl) (Bv (pv 2 _ um rfl rfl rfl) Ca rfl) rfl))))))),?_⟩
  obtain⟨u,d,rfl,rfl,ru⟩:=NU U8 rs;have oq:=dk;obtain⟨dx,v1,v2,v3,xs,h1,h2,r4,r5,r6,r7⟩:=dk;rcases nR Pg.up ((Z6 Pg n).F tx) ((Z6 Pg n).F rf) G q [d] with hz|⟨ts,q',e1,e2,e3⟩|⟨y,nm,e1,e2,e3,e4,e5⟩
  · rw[hz]at hp;exact hp.elim
  · rw[e3]at hp;refine .inl ⟨rfl,.ref a,rfl,a,dx,_,rfl,h1,rfl,u,rfl,a,la,[u],[d],B,q,rfl,rfl,hA,ha,zj,⟨ru,trivial⟩,oq,?_⟩;rw[e1];intro y H1 kb rc dk1;have j4:=dk1.un.aok kb hA;refine⟨j4,[Ae,Ae,Aa (.lst ts,Af),Aa (.str "told",Af),Ae],ij K CL B H1 _ [Aa (.ref a),Aa u,Aa y,Aa (.str "told"),Ae] ⟨⟨rfl,y,rfl,rc.1⟩,⟨rfl,_,rfl,rfl⟩,trivial⟩,?_⟩;have ev:((top [Ae,Ae,Aa (D.lst ts,Af),Aa (D.str "told",Af),Ae] (.and (.cons (.cmp .Eq (.var 3) (.str "told")) (.cons (.no (.call tx (.cons (.var 2) .nil))) .nil))) (evE (Z6 Pg n) [Ae,Ae,Aa (D.lst ts,Af),Aa (D.str "told",Af),Ae] (.and (.cons (.cmp .Eq (.var 3) (.str "told")) (.cons (.no (.call tx (.cons (.var 2) .nil))) .nil))))).bind Bs)=.ok Af:=by
      have e2':(Z6 Pg n).F tx [D.lst ts]=.ok (.bl Ab):=e2;have z1:evE (Z6 Pg n) [Ae,Ae,Aa (D.lst ts,Af),Aa (D.str "told",Af),Ae] (.call tx (.cons (.var 2) .nil))=.ok (.bl Ab):=by
        show ((Z6 Pg n).F tx [D.lst ts]).bind _=_;rw[e2'];rfl
      have z2:evE (Z6 Pg n) [Ae,Ae,Aa (D.lst ts,Af),Aa (D.str "told",Af),Ae] (.cmp .Eq (.var 3) (.str "told"))=.ok (.bl Ab):=rfl;simp[z1,z2,Dz,Bs]
    refine Il ev λH2 sm=>?_
    show HK _ _ H2;refine⟨.str "told",rfl,y,rfl,by rw[Bz];exact AR rfl,λtt ht=>?_⟩
    have s3:=sm.trans (ES ht (.tup [.str "told",y]));refine hp (.ref tt) y _ (kb.trans (KB.of s3)) ⟨"told",.lst ts,tt,rfl,rfl,BO,(j4.same sm).new ht,Z7.same s3 rc.1,λz es ee=>?_⟩ (dk1.same s3)
    obtain⟨l,ys,f1,f2,f3,f4⟩:=rc.2 z es ee;exact⟨l,ys,f1,f2,s3 _ _ f3,f4.same s3⟩
  · rw[e5]at hp;have g:=HF (K:=K) (CL:=CL) (A:=B) (H:=H) (U:=[Ae,Ae,Aa (.non,Af),Aa (.str "told",Af),Ae]) (Y:=[Aa (.ref a),Aa u,Aa .non,Aa (.str "told"),Ae]) ⟨⟨rfl,_,rfl,rfl⟩,⟨rfl,_,rfl,rfl⟩,trivial⟩;refine .inr ⟨y,⟨λb o=>H b=Aa o,λ_ _ _=>AM⟩,B,[Ae,Ae,Aa (.non,Af),Aa (.str "told",Af),Ae],?_,Ol hA g.1 g.2,?_,rfl,.ref a,rfl,a,dx,_,rfl,h1,rfl,u,rfl,a,la,[u],[d],B,q,rfl,rfl,hA,ha,zj,⟨ru,trivial⟩,oq,?_⟩
    · rw[KD];exact e3
    · have eh:uv 4 y [Ae,Ae,Aa (.non,Af),Aa (.str "told",Af),Ae] (λU=>Ty (Z6 Pg n) U (.cons (.asg 3 Af (.call rf (.cons (.var 4) .nil))) .nil))=.next [Ae,Ae,Aa (.non,Af),Aa (.str nm,Af),Ae]:=by
        have e2':(Z6 Pg n).F rf [D.exc y.c y.fs]=.ok (.str nm):=e2;have z1:evE (Z6 Pg n) [Ae,Ae,Aa (.non,Af),Aa (.str "told",Af),Aa (.exc y.c y.fs,Af)] (.call rf (.cons (.var 4) .nil))=.ok (.str nm):=by
          show ((Z6 Pg n).F rf [D.exc y.c y.fs]).bind _=_;rw[e2'];rfl
        unfold uv;simp[z1]
      rw[eh];intro Y' H' sx;have no:∀(i:Ag)(d:D),([Ae,Ae,Aa (D.non,Af),Aa (D.str nm,Af),Ae]:Rho)[i]?≠Aa (Aa (d,Ab)):=λi d h=>by
        match i,h with
        |0,h=>cases h
        |1,h=>cases h
        |2,h=>cases h
        |3,h=>cases h
        |4,h=>cases h
        |_+5,h=>cases h
      have own:∀ b,BN B [Ae,Ae,Aa (.non,Af),Aa (.str nm,Af),Ae] Y' b->B b:=λb h=>h.elim id λ⟨j,d,h1,_⟩=>absurd h1 (no j d)
      have sm:Az H H':=λb o z=>sx.same b o z
      have g2:Y9 K CL B [Ae,Ae,Aa (.non,Af),Aa (.str nm,Af),Ae] Y' H':=⟨λi d h=>let ⟨v,q,r⟩:=sx.good.sh i d h;⟨v,q,Z7.sub (λb hb=>.inl hb) _ r⟩,λi d h=>absurd h (no i d),sx.len⟩
      obtain⟨w2,hw2,db⟩:=g2.sh 2 .non rfl;obtain⟨w3,hw3,rw3⟩:=g2.sh 3 (.str nm) rfl;have db:w2=.non:=db;have rw3:w3=.str nm:=rw3;subst db rw3;refine⟨hA.same sm,_,g2,?_⟩;have ev:((top [Ae,Ae,Aa (D.non,Af),Aa (D.str nm,Af),Ae] (.and (.cons (.cmp .Eq (.var 3) (.str "told")) (.cons (.no (.call tx (.cons (.var 2) .nil))) .nil))) (evE (Z6 Pg n) [Ae,Ae,Aa (D.non,Af),Aa (D.str nm,Af),Ae] (.and (.cons (.cmp .Eq (.var 3) (.str "told")) (.cons (.no (.call tx (.cons (.var 2) .nil))) .nil))))).bind Bs)=.ok Af:=by
        have z2:evE (Z6 Pg n) [Ae,Ae,Aa (D.non,Af),Aa (D.str nm,Af),Ae] (.cmp .Eq (.var 3) (.str "told"))=.ok (.bl Af):=by
          show R.ok (D.bl (nm == "told"))=_;rw[Bg.mpr e4]
        simp[z2,Dz,Bs]
      refine Il ev λH2 ze=>?_
      show HK _ _ H2;refine⟨.str nm,hw3,.non,hw2,by rw[Bz];exact AR rfl,λtt ht=>?_⟩
      have s3:=(sm.trans ze).trans (ES ht (.tup [.str nm,.non]));exact hp (.ref tt) .non _ (KB.of s3) ⟨nm,.non,tt,rfl,rfl,BO,(hA.same (sm.trans ze)).new ht,rfl,λz es ee=>nomatch ee⟩ (oq.non.same s3)
    · rw[e1];exact λcls dx H' sm xr=>⟨xr,sm⟩
end
section
variable{X:Cx}{CL:ClA}{W:XW}
theorem iM{c c' i:Ag}{g g' nm:Ah}{jw m7:AL}{hs':Ac AL}{p1 p1' hp Ì pos:AF}{fh':Rho->O}(hx:X.ex=[])(yu:X.stack=X.env::X.outer)(au:X.env.frame=Aa X.env.locals)(hN:X.N.Nodup)(hi:X.N[i]?=Aa nm)(hl:X.env.scope.names.lookup nm=Aa .local)(h1:Pc X CL up g c)(h2:Pc X CL up g' c')(hb:Ϲ X jw tb)(hh:∀ e,wc (Cx.hot X e) CL (λ_ _=>AM) (h0::hs) fh)(hh':∀ e,wc (Cx.hot X e) CL (λ_ _=>AM) (m7::hs') fh'):PS X (.Try [jw] [.ExceptHandler (Aa (.Name g p1)) (Aa nm) (h0::hs) hp,.ExceptHandler (Aa (.Name g' p1')) (Aa nm) (m7::hs') Ì] [] [] pos) (λD Y H=>∃(y:Ex)(Fz:Fr)(B:Ak->Prop)(U:Rho),Sx X.K CL Fz B U Y H/\B4 X.K CL Fz B W (if (up y.c).contains c=Ab then uv i y U fh else if (up y.c).contains c'=Ab then uv i y U fh' else .bad) D/\tb Y (λcls dx H'=>Dy X.K CL H' cls dx y/\Az H H') {nx:=λ_ _=>AM,rt:=λ_ _=>AM} Y H):=λpI s Y H D I ⟨y,Fz,B,U,sx,p2,h⟩=>by
 refine ZU ?_;have qa:Nj X CL pI Y H y (λev s1=>AA (model X.prog X.w) X.A (FG ev X.env) (λ_ s2=>AA (model X.prog X.w) X.A (GD ev Ae) (λ_ s3=>AA (model X.prog X.w) X.A (Ij ev X.env [.ExceptHandler (Aa (.Name g p1)) (Aa nm) (h0::hs) hp,.ExceptHandler (Aa (.Name g' p1')) (Aa nm) (m7::hs') Ì]) (SP X pI D) X.xe s3) X.xe s2) X.xe s1):=by
  refine TM hx yu au λe T1 cls dx H' s1 I1 sm ou ae gp he gb xr=>?_
  have gx:=sx.grow sm;obtain⟨C,yh,rfl,_⟩:=xr (BN B U Y) gx.aok;obtain⟨C1,hg,hm,zS,xc,hup⟩:=h1;obtain⟨C2,w9,rm,hdb2,xc2,hup2⟩:=h2;refine Qo (W:=W) hx hN hi hl hg hm zS xc (hup y.c C yh) hh I1 ou ae gp he gb gx yh xr (λhc=>?_) (λhc=>?_)
  .rw[Au hc]at p2;exact p2
  .rw[Ay (by rw[hc];exact Ax)]at p2
   refine Qo (W:=W) hx hN hi hl w9 rm hdb2 xc2 (hup2 y.c C yh) hh' I1 ou ae gp he gb gx yh xr (λhc=>?_) (λhc=>?_)
   .rw[Au hc]at p2;exact p2
   .rw[Ay (by rw[hc];exact Ax)]at p2;exact p2.elim
 refine Bj (DT (hb pI _ HR Y _ (Ug hx I.ok qa)) [] s Y H _ (QU I _) h) (λf s1 hf=>?_) λ_ _ z=>z
 cases f with
 |next=>obtain⟨_,_,_,z⟩:=hf;exact z.elim
 |ret u=>obtain⟨_,_,_,_,_,z⟩:=hf;exact z.elim
 |brk=>obtain⟨_,_,_,z⟩:=hf;exact z.elim
 |cont=>obtain⟨_,_,_,z⟩:=hf;exact z.elim
end
def spF(K:Fg)(CL:ClA)(up:Ag->Ac Ag)(C:Ak)(G:Dk->Ac D->RK):Sp:=λvs H Q E=>∃(a la:Ak)(us:Ac V)(ds:Ac D)(A:Ak->Prop)(q:Dk)(y:Ex)(d:D),vs=.ref a::us/\us.length=1/\Tm H A/\A a/\A la/\Z9 K CL H A us ds/\DK K CL H A C a la q/\G q ds=.exn y/\((up y.c).contains 107=Ab\/(up y.c).contains 108=Ab)/\y.fs=[(("triple" : Ah),d)]/\∀ v H',Az H H'->Z7 K CL H' A v d->Q v H'
section
variable{P:AK}{w:AI}{K:Fg}{mg:Ah->Ao Al}{base:AJ}{CL:ClA}{fns:Ac (Ah×Ag×Ag)}{bl:Ac Ah}{rzs exs gls:Ac (Ah×Ag)}{Pg:Prg}{fuel n:Ag}{C:Ak}
theorem fH(t:ww K mg CL fns bl rzs exs gls Pg fuel){st h0 m7:AL}{f fy:Ak}{û:Bi}{k1}(dc:uq K C)(hf:zf K x qual st f fd)(hs:tj ["_law_desk", "_law_row_here"] ["_law_desk", "_law_row_here", "_law_triple_here", "_law_error"] st=Ab)
  (hb:Dh st=[.Assign [.Name "_law_triple_here" p1] (.Constant .none k1 p2) p3,.Try [.Expr (.Call (.Attribute (.Name "_law_desk" p8) "say" p9) [.Name "_law_row_here" p10] [] w4) wg] [.ExceptHandler (Aa (.Name "Alike" ux)) (Aa "_law_error") [h0] uj,.ExceptHandler (Aa (.Name "NotOn" uk)) (Aa "_law_error") [m7] ul] [] [] vj,.Return (Aa (.Name "_law_triple_here" um)) pf])
  (hl:(p9.endLine==w4.line)=Ab) (hd:(ao ⟨AH st,["_law_desk", "_law_row_here", "_law_triple_here", "_law_error"],fns,bl,rzs,exs,gls,Ab⟩ "Alike" 107&&ao ⟨AH st,["_law_desk", "_law_row_here", "_law_triple_here", "_law_error"],fns,bl,rzs,exs,gls,Ab⟩ "NotOn" 108)=Ab)
  (k0:Lo fuel ⟨AH st,["_law_desk", "_law_row_here", "_law_triple_here", "_law_error"],fns,bl,rzs,exs,gls,Ab⟩ 3 [h0] (.cons (.asg 2 Af (.fld (.var 3) "triple")) .nil)=Ab) (k0':Lo fuel ⟨AH st,["_law_desk", "_law_row_here", "_law_triple_here", "_law_error"],fns,bl,rzs,exs,gls,Ab⟩ 3 [m7] (.cons (.asg 2 Af (.fld (.var 3) "triple")) .nil)=Ab)
  (my:zh K C "say" fy) (by':CV K û ["self", "row"] []) (GY:Y4 P w K mg base (CXR P w) n fy û ["self", "row"] (wa K CL C 1 G)):
  Y4 P w K mg base (CXR P w) (n+1) f fd ["_law_desk", "_law_row_here"] (spF K CL Pg.up C G):=by
 obtain⟨oc,od,dV,kV,doc,pm,an,cdv,ct,osl,rfl,lk,zy⟩:=hf.ex;have sc:=JB hs;refine Hm lk zy sc.fs (λvs H Q E ⟨a,la,us,ds,A,q,y,d,e,z,_⟩=>by rw[e,A8,z];rfl) λA outer s H vs Q E hr ⟨a,la,us,ds,B,q,y,d3,e,U8,hA,ha,zj,rs,dk,eG,hc,kg,hp⟩=>?_
 subst e;rw[hb];have v:=Lr (P:=P) (w:=w) (base:=base) (outer:=outer) (H:=H) (E:=E) t sc hr;obtain⟨hd1,hd2⟩:=Bk hd;have HH:=λe=>OO v ⟨λ_=>rfl,rfl,rfl,rfl⟩ e 3 fuel _ _ k0
 have HH':=λe=>OO v ⟨λ_=>rfl,rfl,rfl,rfl⟩ e 3 fuel _ _ k0'
 have tbd:Ϲ (B1 (CXR P w) P w K mg base ["_law_desk", "_law_row_here", "_law_triple_here", "_law_error"] qual (AH st) f cdv A outer s H E) (.Expr (.Call (.Attribute (.Name "_law_desk" p8) "say" p9) [.Name "_law_row_here" p10] [] w4) wg) (λY0 E0 D Y H'=>Y=Y0/\Lf C "say" (wa K CL C 1 G) [] E0 (Ch 0) (Lg (Ch 1) Mo) Y H' λu H1=>D.nx Y H1):=λpI Xw _ Y0 E0 hx=>
  Kc (X:=Cx.pw (B1 (CXR P w) P w K mg base ["_law_desk", "_law_row_here", "_law_triple_here", "_law_error"] qual (AH st) f cdv A outer s H E) pI Xw) (VC (Y0:=Y0) (E:=E0) (Dw (i:=0) rfl (.inl (sc.loc "_law_desk" (by simp)))) dc.cl my GY v.room by' hx (Bv (Dw (i:=1) rfl (.inl (sc.loc "_law_row_here" (by simp)))) Ca rfl) hl) rfl
 refine⟨_,B9 (EE (i:=2) sc.fs.nd rfl (.inl (sc.loc "_law_triple_here" (by simp))) Oe rfl (.inl rfl)) (B9 (iM (W:=W0) (i:=3) rfl rfl rfl sc.fs.nd rfl (sc.loc "_law_error" (by simp)) (QX v hd1) (QX v hd2) tbd HH HH') (DT (Hi (Dw (i:=2) rfl (.inl (sc.loc "_law_triple_here" (by simp))))))),?_⟩
 obtain⟨u,d,rfl,rfl,ru⟩:=NU U8 rs;have oq:=dk;obtain⟨dx,v1,v2,v3,xs,h1,h2,r4,r5,r6,r7⟩:=dk;have g:=HF (K:=K) (CL:=CL) (A:=B) (H:=H) (U:=[Ae,Ae,Aa (.non,Af),Ae]) (Y:=[Aa (.ref a),Aa u,Aa .non,Ae]) ⟨⟨rfl,_,rfl,rfl⟩,trivial⟩;refine⟨y,⟨λb o=>H b=Aa o,λ_ _ _=>AM⟩,B,[Ae,Ae,Aa (.non,Af),Ae],Ol hA g.1 g.2,?_,rfl,.ref a,rfl,a,dx,_,rfl,h1,rfl,u,rfl,a,la,[u],[d],B,q,rfl,rfl,hA,ha,zj,⟨ru,trivial⟩,oq,?_⟩
 .have eh:uv 3 y [Ae,Ae,Aa (.non,Af),Ae] (λU=>Ty (Z6 Pg n) U (.cons (.asg 2 Af (.fld (.var 3) "triple")) .nil))=.next [Ae,Ae,Aa (d3,Af),Ae]:=by
   have z1:evE (Z6 Pg n) [Ae,Ae,Aa (.non,Af),Aa (.exc y.c y.fs,Af)] (.fld (.var 3) "triple")=.ok d3:=by
    rw[kg];rfl
   unfold uv;simp[z1]
  have ei:(if ((Z6 Pg n).up y.c).contains 107=Ab then uv 3 y [Ae,Ae,Aa (.non,Af),Ae] (λU=>Ty (Z6 Pg n) U (.cons (.asg 2 Af (.fld (.var 3) "triple")) .nil)) else if ((Z6 Pg n).up y.c).contains 108=Ab then uv 3 y [Ae,Ae,Aa (.non,Af),Ae] (λU=>Ty (Z6 Pg n) U (.cons (.asg 2 Af (.fld (.var 3) "triple")) .nil)) else .bad)=.next [Ae,Ae,Aa (d3,Af),Ae]:=by
   rw[eh,KD];rcases hc with h|h
   .rw[Au h]
   .by_cases h':(Pg.up y.c).contains 107=Ab
    .rw[Au h']
    .rw[Ay h',Au h]
  rw[ei];intro Y' H' sx;have sm:Az H H':=λb o z=>sx.same b o z
  obtain⟨w2,hw2,db⟩:=sx.good.sh 2 d3 rfl;exact⟨w2,hw2,hp w2 H' sm (Z7.sub (λb hb=>.inl hb) _ db)⟩
 .rw[eG];exact λcls dx H' sm xr=>⟨xr,sm⟩
end
def Ap(a la pa:Ak):Ak->Prop:=λb=>b=a\/b=la\/b=pa
def Ad(a la:Ak):Ak->Prop:=λb=>b=a\/b=la
def NT(U:Rho):Prop:=∀(i:Ag)(d:D),U[i]?≠Aa (Aa (d,Ab))
noncomputable def cg:Rho->An
 |[]=>Ab
 |some (_,Ab)::_=>Af
 |_::r=>cg r
theorem Ir:∀{U:Rho},cg U=Ab->NT U
 |[],_,i,d,h=>by simp at h
 |none::r,h,0,d,z=>by cases z
 |some (_,Af)::r,h,0,d,z=>by cases z
 |some (_,Ab)::r,h,_,d,z=>by cases h
 |none::r,h,i+1,d,z=>Ir (U:=r) h i d z
 |some (_,Af)::r,h,i+1,d,z=>Ir (U:=r) h i d z
noncomputable def LT(U:Rho):Rho:=(U.set 2 (Aa (.non,Ab))).set 4 (Aa (.non,Ab))
noncomputable def FzD(H:Hp)(a pa:Ak):Fr:=⟨λb o=>H b=Aa o/\b≠a/\b≠pa,λj b o=>(j=2/\b=a/\H a=Aa o)\/(j=4/\b=pa/\H pa=Aa o)⟩
noncomputable abbrev BL(la:Ak):Ak->Prop:=λb=>b=la
structure LS (K:Fg) (CL:ClA) (C a la pa:Ak) (U:Rho) (q:Dk) (ps:Ac D) (Y:L2.St) (H:Hp):Prop where
 g:Y9 K CL (Ap a la pa) U Y H
 nt:NT U
 n2:U[2]?=Aa Ae
 n4:U[4]?=Aa Ae
 s2:Y[2]?=Aa (Aa (.ref a))
 s4:Y[4]?=Aa (Aa (.ref pa))
 hp:∃ xs,H pa=Aa (.lst xs)/\Z9 K CL H (Ap a la pa) xs ps
 dk:DK K CL H (Ap a la pa) C a la q
 ne:pa≠la
def i6:Rho->Rho->Prop
 |[],[]=>F3
 |x::r,y::s=>(x=Ae\/x=y)/\i6 r s
 |_,_=>AM
theorem Ut:∀{r s:Rho}{i:Ag}{x:D×An},i6 r s->r[i]?=Aa (Aa x)->s[i]?=Aa (Aa x)
 |_::_,_::_,0,x,h,e=>by
  rcases h.1 with z|z
  .rw[z]at e;cases e
  .rw[z]at e;exact e
 |_::_,_::_,i+1,x,h,e=>Ut (i:=i) h.2 e
 |[],[],_,x,h,e=>by simp at e
 |[],_::_,_,_,h,_=>h.elim
 |_::_,[],_,_,h,_=>h.elim
theorem Us:∀{r s:Rho},i6 r s->r.length=s.length
 |[],[],_=>rfl
 |_::_,_::_,h=>congrArg (· + 1) (Us h.2)
 |[],_::_,h=>h.elim
 |_::_,[],h=>h.elim
section
variable{K:Fg}{CL:ClA}{C a la pa:Ak}{U U':Rho}{q q':Dk}{ps:Ac D}{Y Y':L2.St}{H H':Hp}{A A':Ak->Prop}
theorem Y9.le(g:Y9 K CL A U Y H)(nt:NT U')(l:i6 U' U)(k:∀ b,A' b->A b):Y9 K CL A' U' Y H:=
 ⟨λi d h=>let ⟨v,e,r⟩:=g.sh i d (Ut l h);⟨v,e,Z7.sub k _ r⟩,λi d h=>absurd h (nt i d),(Us l).trans g.len⟩
theorem LS.neA(j:LS K CL C a la pa U q ps Y H):pa≠a:=λz=>by
 obtain⟨xs,h,_⟩:=j.hp;obtain⟨dx,v1,v2,v3,ys,h1,_⟩:=j.dk;rw[z,h1]at h;cases h
theorem LS.aok(j:LS K CL C a la pa U q ps Y H):Tm H (Ap a la pa):=λb hb=>by
 obtain⟨xs,h,_⟩:=j.hp;obtain⟨dx,v1,v2,v3,ys,h1,h2,_⟩:=j.dk;rcases hb with rfl|rfl|rfl
 .exact⟨_,h1,trivial⟩
 .exact⟨_,h2,trivial⟩
 .exact⟨_,h,trivial⟩
theorem IR:∀ b,Ad a la b->Ap a la pa b:=λb h=>h.imp id .inl
theorem Tm.sub(h:Tm H A)(k:∀ b,A' b->A b):Tm H A':=λb hb=>h b (k b hb)
theorem LS.same(j:LS K CL C a la pa U q ps Y H)(s:Az H H'):LS K CL C a la pa U q ps Y H':=
 ⟨j.g.same s,j.nt,j.n2,j.n4,j.s2,j.s4,let ⟨xs,h,r⟩:=j.hp;⟨xs,s _ _ h,r.same s⟩,j.dk.same s,j.ne⟩
theorem LS.le(j:LS K CL C a la pa U q ps Y H)(nt:NT U')(n2:U'[2]?=Aa Ae)(n4:U'[4]?=Aa Ae)(l:i6 U' U):LS K CL C a la pa U' q ps Y H:=
 ⟨j.g.le nt l λ_ h=>h,nt,n2,n4,j.s2,j.s4,j.hp,j.dk,j.ne⟩
theorem LS.set{i:Ag}{v:V}{d:D}(j:LS K CL C a la pa U q ps Y H)(i2:i≠2)(i4:i≠4)(r:Z7 K CL H (Ap a la pa) v d):LS K CL C a la pa (U.set i (Aa (d,Af))) q ps (Y.set i (Aa v)) H:=by
 have nt:NT (U.set i (Aa (d,Af))):=λk e h=>by
  by_cases z:i=k
  .subst z;cases Ee h
  .rw[Bu z]at h;exact j.nt k e h
 refine⟨⟨λk e h=>?_,λk e h=>absurd h (nt k e),by rw[AT,AT];exact j.g.len⟩,nt,by rw[Bu i2];exact j.n2,by rw[Bu i4];exact j.n4,by rw[Bu i2];exact j.s2,by rw[Bu i4];exact j.s4,j.hp,j.dk,j.ne⟩
 by_cases z:i=k
 .subst z;cases Ee h;have hl:i<Y.length:=by
   rw[<-j.g.len];have:=(A5.mp h).1
   rwa [AT]at this
  exact⟨v,by rw[By hl],r⟩
 .rw[Bu z]at h ⊢;exact j.g.sh k e h
theorem LS.kb(j:LS K CL C a la pa U q ps Y H)(kb:KB a la H H')(d:DK K CL H' (Ap a la pa) C a la q'):LS K CL C a la pa U q' ps Y H':=by
 have kp:=kb.kp (A:=Ap a la pa) (.inl rfl) (.inr (.inl rfl));exact⟨⟨λi e h=>let ⟨v,z,r⟩:=j.g.sh i e h;⟨v,z,Z7.kp kp _ r⟩,λi e h=>absurd h (j.nt i e),j.g.len⟩,j.nt,j.n2,j.n4,j.s2,j.s4,let ⟨xs,h,r⟩:=j.hp;⟨xs,kb _ _ h j.neA j.ne,Z9.kp kp _ r⟩,d,j.ne⟩
theorem LS.put{xs:Ac V}{ds:Ac D}(j:LS K CL C a la pa U q ps Y H)(r:Z9 K CL H (Ap a la pa) xs ds):LS K CL C a la pa U q ds Y (upd H pa (.lst xs)):=by
 have kp:Kp (Ap a la pa) H (upd H pa (.lst xs)):=λb o e na=>by rw[AQ λz=>na (.inr (.inr z))];exact e
 obtain⟨dx,v1,v2,v3,ys,h1,h2,r4,r5,r6,r7⟩:=j.dk;exact⟨⟨λi e h=>let ⟨v,z,r⟩:=j.g.sh i e h;⟨v,z,Z7.kp kp _ r⟩,λi e h=>absurd h (j.nt i e),j.g.len⟩,j.nt,j.n2,j.n4,j.s2,j.s4,⟨xs,BO,Z9.kp kp _ r⟩,⟨dx,v1,v2,v3,ys,by rw[AQ (CG j.neA)];exact h1,by rw[AQ (CG j.ne)];exact h2,Z7.kp kp _ r4,Z7.kp kp _ r5,Z7.kp kp _ r6,Z9.kp kp _ r7⟩,j.ne⟩
theorem Qy(nt:NT U){i:Ag}{d:D}(h:(LT U)[i]?=Aa (Aa (d,Ab))):d=.non/\(i=2\/i=4):=by
 unfold LT at h;by_cases z4:4=i
 .subst z4;cases Ee h;exact⟨rfl,.inr rfl⟩
 .rw[Bu z4]at h;by_cases z2:2=i
  .subst z2;cases Ee h;exact⟨rfl,.inl rfl⟩
  .rw[Bu z2]at h;exact absurd h (nt i d)
theorem uJ{i:Ag}{d:D}(h:(LT U)[i]?=Aa (Aa (d,Af))):U[i]?=Aa (Aa (d,Af)):=by
 unfold LT at h;by_cases z4:4=i
 .subst z4;cases Ee h
 .rw[Bu z4]at h;by_cases z2:2=i
  .subst z2;cases Ee h
  .rw[Bu z2]at h;exact h
theorem Vh(n2:U[2]?=Aa Ae):(LT U)[2]?=Aa (Aa (.non,Ab)):=by
 unfold LT;rw[Bu (by decide),By (A5.mp n2).1]
theorem Vg(n4:U[4]?=Aa Ae):(LT U)[4]?=Aa (Aa (.non,Ab)):=by
 unfold LT;rw[By (by rw[AT];exact(A5.mp n4).1)]
theorem Qz:(LT U).length=U.length:=by unfold LT;rw[AT,AT]
theorem fU{i:Ag}{d:D}(n2:U[2]?=Aa Ae)(n4:U[4]?=Aa Ae)(h:U[i]?=Aa (Aa (d,Af))):(LT U)[i]?=Aa (Aa (d,Af)):=by
 unfold LT;have z4:4≠i:=λz=>by rw[<-z,n4]at h;cases h
 have z2:2≠i:=λz=>by rw[<-z,n2]at h;cases h
 rw[Bu z4,Bu z2];exact h
theorem LS.sx(j:LS K CL C a la pa U q ps Y H):Sx K CL (FzD H a pa) (BL la) (LT U) Y H:=by
 obtain⟨xs,h,_⟩:=j.hp;obtain⟨dx,v1,v2,v3,ys,h1,h2,_⟩:=j.dk;have at':∀{i:Ag}{d:D}{b:Ak},(LT U)[i]?=Aa (Aa (d,Ab))->Y[i]?=Aa (Aa (.ref b))->(i=2/\b=a)\/(i=4/\b=pa):=λh e=>by
  rcases (Qy j.nt h).2 with rfl|rfl
  .rw[j.s2]at e;cases e;exact .inl ⟨rfl,rfl⟩
  .rw[j.s4]at e;cases e;exact .inr ⟨rfl,rfl⟩
 have own:∀ b,BN (BL la) (LT U) Y b->Ap a la pa b:=λb h=>by
  rcases h with h|⟨i,d,h1,h2⟩
  .exact .inr (.inl h)
  .rcases at' h1 h2 with ⟨_,z⟩|⟨_,z⟩
   .exact .inl z
   .exact .inr (.inr z)
 refine⟨⟨λi d e=>let ⟨v,z,r⟩:=j.g.sh i d (uJ e);⟨v,z,Z7.sub own _ r⟩,λi d e n=>absurd (Qy j.nt e).1 n,Qz.trans j.g.len⟩,Tm.sub j.aok own,λi d b e1 e2=>?_,λi k d e b x1 x2 x3 x4=>?_,λb o z=>z.1,Qz.trans j.g.len,λi e=>?_⟩
 .rcases at' e1 e2 with ⟨_,z⟩|⟨_,z⟩
  .exact⟨λo y=>y.2.1 z,λy=>by have y:b=la:=y;rw[y]at z;rw[z,h1]at h2;cases h2⟩
  .exact⟨λo y=>y.2.2 z,λy=>j.ne (z.symm.trans y)⟩
 .rcases at' x1 x3 with ⟨z1,z2⟩|⟨z1,z2⟩<;>rcases at' x2 x4 with ⟨z3,z4⟩|⟨z3,z4⟩
  .rw[z1,z3]
  .exact absurd (z4.symm.trans z2) j.neA
  .exact absurd (z2.symm.trans z4) j.neA
  .rw[z1,z3]
 .rcases (Qy j.nt e).2 with rfl|rfl
  .exact⟨a,_,.inl ⟨rfl,rfl,h1⟩,j.s2,h1⟩
  .exact⟨pa,_,.inr ⟨rfl,rfl,h⟩,j.s4,h⟩
theorem LS.nx(j:LS K CL C a la pa U q ps Y H)(nt:NT U')(n2:U'[2]?=Aa Ae)(n4:U'[4]?=Aa Ae)(x:Sx K CL (FzD H a pa) (BL la) (LT U') Y' H'):Az H H'/\LS K CL C a la pa U' q ps Y' H':=by
 obtain⟨b2,o2,p2,s2,h2⟩:=x.pin 2 (Vh n2);obtain⟨b4,o4,p4,s4,h4⟩:=x.pin 4 (Vg n4);have e2:b2=a/\H a=Aa o2:=by
  rcases p2 with ⟨_,z1,z2⟩|⟨z,_⟩
  .exact⟨z1,z2⟩
  .cases z
 have e4:b4=pa/\H pa=Aa o4:=by
  rcases p4 with ⟨z,_⟩|⟨_,z1,z2⟩
  .cases z
  .exact⟨z1,z2⟩
 obtain⟨rfl,ha⟩:=e2;obtain⟨rfl,hp⟩:=e4;have sm:Az H H':=λb o e=>by
  by_cases z1:b=b2
  .subst z1;rw[ha]at e;cases e;exact h2
  .by_cases z2:b=b4
   .subst z2;rw[hp]at e;cases e;exact h4
   .exact x.same b o ⟨e,z1,z2⟩
 have own:∀ b,Ap b2 la b4 b->BN (BL la) (LT U') Y' b:=λb h=>by
  rcases h with rfl|rfl|rfl
  .exact .inr ⟨2,.non,Vh n2,s2⟩
  .exact .inl rfl
  .exact .inr ⟨4,.non,Vg n4,s4⟩
 have j':=j.same sm;exact⟨sm,⟨λi d e=>let ⟨v,z,r⟩:=x.good.sh i d (fU n2 n4 e);⟨v,z,Z7.sub own _ r⟩,λi d e=>absurd e (nt i d),Qz.symm.trans x.len⟩,nt,n2,n4,s2,s4,j'.hp,j'.dk,j'.ne⟩
end
section
variable{X:Cx}{CL:ClA}{W:XW}{C:Ak}
theorem Om{st:AL}{f:Rho->O}(h:SS X CL W st f):PS X st (λD Y H=>∃ a la pa U U' q ps,LS X.K CL C a la pa U q ps Y H/\f (LT U)=.next (LT U')/\cg U'=Ab/\U'[2]?=Aa Ae/\U'[4]?=Aa Ae/\∀ Y' H',Az H H'->LS X.K CL C a la pa U' q ps Y' H'->D.nx Y' H'):=λpI s Y H D I ⟨a,la,pa,U,U',q,ps,j,e,nt,n2,n4,k⟩=>by
 refine h _ _ pI s Y H D I ⟨LT U,j.sx,?_⟩;rw[e];intro Y' H' x';obtain⟨sm,j'⟩:=j.nx (Ir nt) n2 n4 x';exact k Y' H' sm j'
theorem rD{wb:Ac AL}{f:Rho->O}(h:wc X CL W wb f):yp X wb (λD Y H=>∃ a la pa U U' q ps,LS X.K CL C a la pa U q ps Y H/\f (LT U)=.next (LT U')/\cg U'=Ab/\U'[2]?=Aa Ae/\U'[4]?=Aa Ae/\∀ Y' H',Az H H'->LS X.K CL C a la pa U' q ps Y' H'->D.nx Y' H'):=λpI s Y H D I ⟨a,la,pa,U,U',q,ps,j,e,nt,n2,n4,k⟩=>by
 refine h _ _ pI s Y H D I ⟨LT U,j.sx,?_⟩;rw[e];intro Y' H' x';obtain⟨sm,j'⟩:=j.nx (Ir nt) n2 n4 x';exact k Y' H' sm j'
theorem Q7{e:Aq}{t:α->TE}(h:∀ A,PE X e (t A)):PE X e (λY H Q=>∃ A,t A Y H Q):=λpI s Y H Q I ⟨A,q⟩=>h A pI s Y H Q I q
theorem Mi{e:Aq}{t:α->TT}(h:∀ A,PT X e (t A)):PT X e (λY H Q=>∃ A,t A Y H Q):=λpI s Y H Q I ⟨A,q⟩=>h A pI s Y H Q I q
end
noncomputable def wv(ps R A:Ac Ah)(st:AL):An:=(AH st).kind==.function&&(!(AH st).isCoroutine&&(!(AH st).isGenerator&&(Jx (R++A)&&((R++A).take ps.length==ps&&(ps.all (λx=>(AH st).names.lookup x==Aa .local)&&(R.all (λx=>(AH st).names.lookup x==Aa .local||(AH st).names.lookup x==Aa .cell)&&(AH st).names.all (λy=>y.2 != .free)))))))
structure ScL (ps R A:Ac Ah) (st:AL):Prop where
 fs:zX (R++A) ps (AH st)
 loc:∀ x∈R,(AH st).names.lookup x=Aa .local\/(AH st).names.lookup x=Aa .cell
theorem nS{ps R A:Ac Ah}{st:AL}(h:wv ps R A st=Ab):ScL ps R A st:=by
 unfold wv at h;simp only[Am,BX,AD,Bf,Bh,EZ,JP]at h;obtain⟨c1,c2,c3,c4,c5,c6,c7,c8⟩:=h;exact⟨⟨c1,c2,c3,IF c4,c5,λx hx=>.inl (c6 x hx),c8⟩,c7⟩
section
variable{P:AK}{w:AI}{K:Fg}{mg:Ah->Ao Al}{base:AJ}{CL:ClA}{fns:Ac (Ah×Ag×Ag)}{bl:Ac Ah}{rzs exs gls:Ac (Ah×Ag)}{Pg:Prg}{fuel n:Ag}
theorem yG(t:ww K mg CL fns bl rzs exs gls Pg fuel){ps N:Ac Ah}{st:AL}{f:Ak}{A:A4}{s:Ar}{E:XK}(fs:zX N ps (AH st))(hr:U5 n (A.deeper (D3 qual (AH st) s.heap.objs.size f cdv))):VX (Z6 Pg n) CL n (WE K CL E) ⟨AH st,N,fns,bl,rzs,exs,gls,Ab⟩ (B1 (CXR P w) P w K mg base N qual (AH st) f cdv A outer s H E):=by
 have hW:∀ x cls dx H',WE K CL E x H'->Dy K CL H' cls dx x->E cls dx H':=λx cls dx H' z r=>z cls dx r
 have xt:XT (Z6 Pg n).up (Z6 Pg n).xn CL rzs exs K mg:=by rw[KD,Ld];exact t.xt
 have gl:∀ p∈gls,JL K mg CL p.1 ((Z6 Pg n).G p.2):=by rw[KH];exact t.gl
 exact⟨rfl,fs.kind,rfl,fs.nd,rfl,hr,t.bln,t.os,Vj t n,Vi t n,sy,OK hW,Þ hW,xt,gl,λ_=>rfl⟩
end
noncomputable def zY(l k w pt row due:Sl)(scr p:D):Rho:=[Aa (scr,Af),Aa (p,Af),Ae,l,Ae,k,w,pt,row,due,Ae,Ae,Ae]
noncomputable abbrev Z5(d:D):Sl:=Aa (d,Af)
noncomputable def t6:E:=.cmp .In (.idx (.var 9) (.int 0)) (.tup (.cons (.str "alike") (.cons (.str "not on") .nil)))
noncomputable def t7:E:=.and (.cons (.cmp .Eq (.idx (.var 9) (.int 0)) (.str "told")) (.cons (.cmp .Eq (.var 6) (.str "undo")) .nil))
noncomputable def t8:E:=.and (.cons (.cmp .Eq (.idx (.var 9) (.int 0)) (.str "told")) (.cons (.cmp .NotEq (.var 6) (.str "points")) .nil))
noncomputable def t9:E:=.cmp .NotEq (.var 10) (.var 9)
def LD(Z:Z4)(s1 s2 s3:S)(e4:E)(bb:Ss)(GS GY:Dk->Ac D->RK)(scr p:D)(fin:Dk->Ac D->Prop):Ac Ai->Dk->Ac D->Ac D->Prop
  |[],q,l,_=>fin q l
  |k::ks,q,l,ps=>∃(w row dw:Ah)(pt dd fd:D)(q':Dk),
      xz Z (LT (zY (Z5 (.lst l)) (Z5 (.int k)) Ae Ae Ae Ae scr p)) s1=.next (LT (zY (Z5 (.lst l)) (Z5 (.int k)) (Z5 (.str w)) (Z5 pt) Ae Ae scr p)) /\
      xz Z (LT (zY (Z5 (.lst l)) (Z5 (.int k)) (Z5 (.str w)) (Z5 pt) Ae Ae scr p)) s2=.next (LT (zY (Z5 (.lst l)) (Z5 (.int k)) (Z5 (.str w)) (Z5 pt) (Z5 (.str w)) Ae scr p)) /\
      xz Z (LT (zY (Z5 (.lst l)) (Z5 (.int k)) (Z5 (.str w)) (Z5 pt) (Z5 (.str w)) Ae scr p)) s3=.next (LT (zY (Z5 (.lst l)) (Z5 (.int k)) (Z5 (.str w)) (Z5 pt) (Z5 (.str row)) Ae scr p)) /\
      evE Z [Ae,Ae,Ae,Z5 (.lst l),Z5 (.lst ps),Ae,Z5 (.str w),Z5 pt,Ae,Ae,Ae,Ae,Ae] e4=.ok (.tup [.str dw,dd]) /\
      GS q [.str row]=.ok fd q'/\Y8 5 fd=Ab/\Y8 5 (.tup [.str dw,dd])=Ab/\My fd (.tup [.str dw,dd])=Ab /\
      ((dw = "alike"\/dw = "not on")->∃ y d,GY q' [.str row]=.exn y/\((Z.up y.c).contains 107=Ab\/(Z.up y.c).contains 108=Ab)/\y.fs=[(("triple" : Ah),d)]/\Y8 5 d=Ab/\Y8 5 pt=Ab/\My d pt=Ab) /\
      (if dw = "told"/\w = "undo" then ∃ l',ps.getLast?=Aa (.lst l')/\LD Z s1 s2 s3 e4 bb GS GY scr p fin ks q' l' ps.dropLast
       else if dw = "told"/\w≠"points" then ps.length<900/\∃ l',Ty Z (LT (zY (Z5 (.lst l)) (Z5 (.int k)) (Z5 (.str w)) (Z5 pt) Ae Ae scr p)) bb=.next (LT (zY (Z5 (.lst l')) (Z5 (.int k)) (Z5 (.str w)) (Z5 pt) Ae Ae scr p))/\LD Z s1 s2 s3 e4 bb GS GY scr p fin ks q' l' (ps++[.lst l])
       else LD Z s1 s2 s3 e4 bb GS GY scr p fin ks q' l ps)
theorem xJ(h:U[9]?=Aa (Z5 (.tup [.str dw,dd]))):(top U t6 (evE Z U t6)).bind Bs=.ok (("alike" == dw)||(("not on" == dw)||false)):=by
 have e2:Da U 9=.ok (.tup [.str dw,dd]):=by unfold Da;rw[h]
 unfold t6;rw[N2,Kx];have e3:top U (.idx (.var 9) (.int 0)) (evE Z U (.idx (.var 9) (.int 0)))=.ok (.str dw):=by
  show evE Z U (.idx (.var 9) (.int 0))=_;rw[NY,Io,e2];rfl
 rw[e3];rfl
theorem Wb{dw s:Ah}(h:U[9]?=Aa (Z5 (.tup [.str dw,dd]))):evE Z U (.cmp .Eq (.idx (.var 9) (.int 0)) (.str s))=.ok (.bl (dw==s)):=by
 have e2:Da U 9=.ok (.tup [.str dw,dd]):=by unfold Da;rw[h]
 rw[Kx];have e3:top U (.idx (.var 9) (.int 0)) (evE Z U (.idx (.var 9) (.int 0)))=.ok (.str dw):=by
  show evE Z U (.idx (.var 9) (.int 0))=_;rw[NY,Io,e2];rfl
 rw[e3];rfl
theorem xI{w:Ah}(h:U[9]?=Aa (Z5 (.tup [.str dw,dd])))(h':U[6]?=Aa (Z5 (.str w))):(top U t7 (evE Z U t7)).bind Bs=.ok (decide (dw = "told"/\w = "undo")):=by
 have e2:Da U 6=.ok (.str w):=by unfold Da;rw[h']
 have e3:evE Z U (.cmp .Eq (.var 6) (.str "undo"))=.ok (.bl (w == "undo")):=by
  rw[Kx,Io,e2];rfl
 show (evN Z U (.cons _ (.cons _ .nil))).bind Bs=_;rw[Uo,Wb h];show (if (dw == "told")=Ab then evN Z U (.cons (.cmp .Eq (.var 6) (.str "undo")) .nil) else R.ok (D.bl Af)).bind Bs=_
 by_cases z:dw = "told"
 .rw[Au (AD.mpr z)];show (evE Z U (.cmp .Eq (.var 6) (.str "undo"))).bind Bs=_;rw[e3];show R.ok (w == "undo")=_
  congr 1
  by_cases z2:w = "undo"
  .rw[CI ⟨z,z2⟩];exact AD.mpr z2
  .rw[BM λy=>z2 y.2];exact Bg.mpr z2
 .rw[Ay (by rw[AD];exact z),BM λy=>z y.1]
  rfl
theorem xH{w:Ah}(h:U[9]?=Aa (Z5 (.tup [.str dw,dd])))(h':U[6]?=Aa (Z5 (.str w))):(top U t8 (evE Z U t8)).bind Bs=.ok (decide (dw = "told"/\w≠"points")):=by
 have e2:Da U 6=.ok (.str w):=by unfold Da;rw[h']
 have e3:evE Z U (.cmp .NotEq (.var 6) (.str "points"))=.ok (.bl (!(w == "points"))):=by
  rw[Kx,Io,e2];rfl
 show (evN Z U (.cons _ (.cons _ .nil))).bind Bs=_;rw[Uo,Wb h];show (if (dw == "told")=Ab then evN Z U (.cons (.cmp .NotEq (.var 6) (.str "points")) .nil) else R.ok (D.bl Af)).bind Bs=_
 by_cases z:dw = "told"
 .rw[Au (AD.mpr z)];show (evE Z U (.cmp .NotEq (.var 6) (.str "points"))).bind Bs=_;rw[e3];show R.ok (!(w == "points"))=_
  congr 1
  by_cases z2:w = "points"
  .rw[BM λy=>y.2 z2,AD.mpr z2];rfl
  .rw[CI ⟨z,z2⟩,Bg.mpr z2];rfl
 .rw[Ay (by rw[AD];exact z),BM λy=>z y.1]
  rfl
section
variable{K:Fg}{CL:ClA}{C a la pa:Ak}{U:Rho}{q:Dk}{ps:Ac D}{Y:L2.St}{H H':Hp}
theorem Rz.rep{A':Ak->Prop}{v x:V}{d:D}(r:Rz K CL H A H' v x d)(k:∀ b,A' b->A b):Z7 K CL H' A' v d:=by
 obtain⟨nm,d2,t,rfl,rfl,h,na,rc⟩:=r;exact⟨t,[.str nm,x],rfl,.inl λz=>na (k _ z),yy.of h,rfl,Z7.sub k _ rc.1,trivial⟩
theorem LS.past(j:LS K CL C a la pa U q ps Y H):Z7 K CL H (Ad a la) (.ref pa) (.lst ps):=by
 obtain⟨xs,h,r⟩:=j.hp;exact⟨pa,xs,rfl,.inl λz=>z.elim j.neA j.ne,Id.of h,Z9.sub IR _ r⟩
end
section
variable{K:Fg}{CL:ClA}{C a la pa:Ak}{U U':Rho}{q:Dk}{ps:Ac D}{Y:L2.St}{H H':Hp}
theorem LS.junk{i:Ag}{v:Ao V}(j:LS K CL C a la pa U q ps Y H)(i2:i≠2)(i4:i≠4)(hn:U[i]?=Aa Ae):LS K CL C a la pa U q ps (Y.set i v) H:=by
 refine⟨⟨λk e h=>?_,λk e h=>absurd h (j.nt k e),by rw[AT];exact j.g.len⟩,j.nt,j.n2,j.n4,by rw[Bu i2];exact j.s2,by rw[Bu i4];exact j.s4,j.hp,j.dk,j.ne⟩
 have z:i≠k:=λz=>by rw[<-z,hn]at h;cases h
 rw[Bu z];exact j.g.sh k e h
theorem LS.at{i:Ag}{v:V}(j:LS K CL C a la pa U q ps Y H)(hn:U[i]?=Aa Ae):(Y.set i (Aa v))[i]?=Aa (Aa v):=by
 rw[By];rw[<-j.g.len];exact(A5.mp hn).1
theorem LS.look{i:Ag}{v:V}{d:D}(j:LS K CL C a la pa U q ps Y H)(nt:cg U'=Ab)(l:i6 U' U)(k:∀ b,A b->Ap a la pa b)(hi:Y[i]?=Aa (Aa v))(r:Z7 K CL H A v d):Y9 K CL A (U'.set i (Aa (d,Af))) Y H:=by
 have g:=j.g.le (Ir nt) l k;refine⟨λm e h=>?_,λm e h=>?_,by rw[AT];exact g.len⟩
 .by_cases z:i=m
  .subst z;cases Ee h;exact⟨v,hi,r⟩
  .rw[Bu z]at h;exact g.sh m e h
 .by_cases z:i=m
  .subst z;cases Ee h
  .rw[Bu z]at h;exact absurd h (Ir nt m e)
end
theorem xG{d9 ie:D}(h9:U[9]?=Aa (Z5 d9))(h10:U[10]?=Aa (Z5 ie))(f9:Y8 5 d9=Ab)(f10:Y8 5 ie=Ab)(e:My ie d9=Ab):(top U t9 (evE Z U t9)).bind Bs=.ok Af:=by
 have e2:Da U 9=.ok d9:=by unfold Da;rw[h9]
 have e3:Da U 10=.ok ie:=by unfold Da;rw[h10]
 unfold t9;rw[N2,Kx,Io,Io,e2,e3];show (if (Y8 5 ie&&Y8 5 d9)=Ab then R.ok (D.bl (!My ie d9)) else .bad).bind Bs=_
 rw[Au (by rw[f9,f10];rfl),e]
 rfl
noncomputable abbrev yd:Ac Ah:=["_law_script", "_law_p", "_law_desk", "_law_listed", "_law_past", "_law_k", "_law_word", "_law_point", "_law_row_here", "_law_due_here", "_law_found"]
noncomputable abbrev xx:Ac Ah:=["#11", "#12"]
def WZ(Z:Z4)(c1 cB:E)(s1 s2 s3:S)(e4:E)(bb:Ss)(s6:S)(GS GY:Dk->Ac D->RK)(scr:D):Prop:=∃(p:D)(m:Ai),evE Z [Z5 scr,Ae,Ae,Ae,Ae,Ae,Ae,Ae,Ae,Ae,Ae,Ae,Ae] c1=.ok p/\evE Z (zY (Z5 (.lst [])) Ae Ae Ae Ae Ae scr p) cB=.ok (.int m)/\0<=m/\m<=1000 /\
 LD Z s1 s2 s3 e4 bb GS GY scr p (λq l=>∃ ts xw,xz Z (LT (zY (Z5 (.lst l)) Ae Ae Ae Ae Ae scr p)) s6=.next (LT (zY (Z5 (.lst l)) Ae Ae Ae Ae (Z5 (.tup [.str "told",.lst ts])) scr p))/\GS q [.str "points"]=.ok (.tup [.str "told",.lst xw]) q/\Y8 4 (.lst ts)=Ab/\Y8 4 (.lst xw)=Ab/\KK xw ts=Ab/\xw.length<900) ((BR (m-1).toNat).map fun(i:Ag)=>1+(i:Ai)) ⟨p,[],.non,[]⟩ [] []
theorem VQ{d d':D}(f1:Y8 5 d=Ab)(f2:Y8 5 d'=Ab)(e:My d d'=Ab):Cq .NotEq d d'=.ok (.bl Af):=by
 show (if (Y8 5 d&&Y8 5 d')=Ab then R.ok (D.bl (!My d d')) else .bad)=_
 rw[Au (by rw[f1,f2];rfl),e]
 rfl
theorem jX{d d':D}(f1:Y8 5 d=Ab)(f2:Y8 5 d'=Ab)(e:My d d'=Ab):Cq .Eq d d'=.ok (.bl Ab):=by
 show (if (Y8 5 d&&Y8 5 d')=Ab then R.ok (D.bl (My d d')) else .bad)=_
 rw[Au (by rw[f1,f2];rfl),e]
section
variable{P:AK}{w:AI}{K:Fg}{mg:Ah->Ao Al}{base:AJ}{CL:ClA}{fns:Ac (Ah×Ag×Ag)}{bl:Ac Ah}{rzs exs gls:Ac (Ah×Ag)}{Pg:Prg}{fuel n:Ag}{C:Ak}
theorem rJ(t:ww K mg CL fns bl rzs exs gls Pg fuel){st:AL}{x1 yB x4 x6 x7 x8 x9:Aq}{aB:Ac Aq}{kB:Ac CB}{b1 b2 b3 b6 r5 r6 r8:AL}{bs:Ac AL}{f fI fs ff:Ak}{fId fsd ffd:Bi}{k1 k2 k3 k4 k5}{ck cq k9 jb jc Ù cu cw cx Ú Û Ü p37 p38 p39 p40 p41 p42 p43 p44 p45 p46 p47 p48 p49 p50 p51 p52 p53 p54 p55 p56 p57 p58 p59 p60 p61 p62 p63 p64 p65 p66 p67 p68 p69:AF}{c1 cB c4:E}{s1 s2 s3 s6:S}{bb:Ss}{GS:Dk->Ac D->RK}(dc:uq K C)(hf:zf K x qual st f fd)(hs:wv ["_law_script"] yd xx st=Ab)
  (hb:Dh st=[.Assign [.Name "_law_p" p1] x1 p2,.Assign [.Name "_law_desk" p3] (.Call (.Name "Desk" p4) [.Name "_law_p" p5] [] p6) p7,.Assign [.Name "_law_listed" p8] (.List [] p9) p10,.Assign [.Name "_law_past" w4] (.List [] wg) ux,
   .For (.Name "_law_k" uj) (.Call (.Name "range" uk) [.Constant (.int 1) k1 ul,.Call yB aB kB p69] [] vj) [b1,b2,b3,.Assign [.Name "_law_due_here" um] x4 pf,
    .If (.Compare (.Call (.Name "_law_said" nu) [.Name "_law_desk" nv,.Name "_law_row_here" kz] [] cj) [.NotEq] [.Name "_law_due_here" ja] ck) [r5] [] cq,
    .If (.BoolOp .And [x6,.Compare (.Call (.Name "_law_field" k9) [.Name "_law_desk" jb,.Name "_law_row_here" jc] [] Ù) [.NotEq] [.Name "_law_point" cu] cw] cx) [r6] [] Ú,
    .If x7 [.Assign [.Name "_law_listed" Û] (.Call (.Attribute (.Name "_law_past" Ü) "pop" p37) [] [] p38) p39] [.If x8 (.Expr (.Call (.Attribute (.Name "_law_past" p40) "append" p41) [.Name "_law_listed" p42] [] p43) p44::bs) [] p45] p46] [] p47,
   b6,.Assign [.Name "_law_found" p48] (.Call (.Name "_law_said" p49) [.Name "_law_desk" p50,.Constant (.str "points") k2 p51] [] p52) p53,.If x9 [r8] [] p54,
   .Expr (.Call (.Attribute (.Subscript (.Name "_law_found" p55) (.Constant (.int 1) k3 p56) p57) "append" p58) [.Constant (.str "( )") k4 p59] [] p60) p61,
   .Return (Aa (.Compare (.Call (.Name "_law_said" p62) [.Name "_law_desk" p63,.Constant (.str "points") k5 p64] [] p65) [.Eq] [.Name "_law_due_here" p66] p67)) p68])
  (hln:((p37.endLine==p38.line)&&((p41.endLine==p43.line)&&(p58.endLine==p60.line)))=Ab)
  (rj:(zn ⟨AH st,yd++xx,fns,bl,rzs,exs,gls,Ab⟩ "Desk" && (zn ⟨AH st,yd++xx,fns,bl,rzs,exs,gls,Ab⟩ "_law_said" && (zn ⟨AH st,yd++xx,fns,bl,rzs,exs,gls,Ab⟩ "_law_field" && yi ⟨AH st,yd++xx,fns,bl,rzs,exs,gls,Ab⟩ "range")))=Ab)
  (nc:(F4 x1&&F4 x4)=Ab)
  (g1:Be fuel ⟨AH st,yd++xx,fns,bl,rzs,exs,gls,Ab⟩ x1 c1=Ab) (gB:Be fuel ⟨AH st,yd++xx,fns,bl,rzs,exs,gls,Ab⟩ (.Call yB aB kB p69) cB=Ab) (g4:Be fuel ⟨AH st,yd++xx,fns,bl,rzs,exs,gls,Ab⟩ x4 c4=Ab)
  (gb1:Ja fuel ⟨AH st,yd++xx,fns,bl,rzs,exs,gls,Ab⟩ b1 s1=Ab) (gb2:Ja fuel ⟨AH st,yd++xx,fns,bl,rzs,exs,gls,Ab⟩ b2 s2=Ab) (gb3:Ja fuel ⟨AH st,yd++xx,fns,bl,rzs,exs,gls,Ab⟩ b3 s3=Ab) (gb6:Ja fuel ⟨AH st,yd++xx,fns,bl,rzs,exs,gls,Ab⟩ b6 s6=Ab) (gbs:zV fuel ⟨AH st,yd++xx,fns,bl,rzs,exs,gls,Ab⟩ bs bb=Ab)
  (g6:Eb fuel ⟨AH st,yd++xx,fns,bl,rzs,exs,gls,Ab⟩ x6 t6=Ab) (g7:Eb fuel ⟨AH st,yd++xx,fns,bl,rzs,exs,gls,Ab⟩ x7 t7=Ab) (g8:Eb fuel ⟨AH st,yd++xx,fns,bl,rzs,exs,gls,Ab⟩ x8 t8=Ab) (g9:Eb fuel ⟨AH st,yd++xx,fns,bl,rzs,exs,gls,Ab⟩ x9 t9=Ab)
  (MI:Mk K C fI) (mD:mg "Desk" = Aa (.ref C)) (bI:CV K fId ["self", "p"] []) (FI:Y4 P w K mg base (CXR P w) n fI fId ["self", "p"] (spN C))
  (mS:mg "_law_said" = Aa (.ref fs)) (kS:Ba K (.ref fs)=Ab) (bS:CV K fsd ["_law_desk", "_law_row_here"] []) (FS:Y4 P w K mg base (CXR P w) (n+1) fs fsd ["_law_desk", "_law_row_here"] (spS K CL C 1 GS))
  (mF:mg "_law_field" = Aa (.ref ff)) (kF:Ba K (.ref ff)=Ab) (bF:CV K ffd ["_law_desk", "_law_row_here"] []) (FF:Y4 P w K mg base (CXR P w) (n+1) ff ffd ["_law_desk", "_law_row_here"] (spF K CL Pg.up C G))
  (hL:∀ ns:Ac Ai,ns.length<=63->WZ (Z6 Pg (n+1)) c1 cB s1 s2 s3 c4 bb s6 GS G (.lst (ns.map .int))):
  Y4 P w K mg base (CXR P w) (n+1+1) f fd ["_law_script"] (Na K):=by
 obtain⟨oc,od,dV,kV,doc,pm,an,cdv,ct,osl,rfl,lk,zy⟩:=hf.ex;have sc:=nS hs;refine Hm lk zy sc.fs (λvs H Q E ⟨a,ns,e,z,_⟩=>by rw[e];rfl) λA outer s H vs Q E hr ⟨a0,ns,e,U8,hS,hq⟩=>?_
 subst e;rw[hb];have v:=yG (P:=P) (w:=w) (base:=base) (outer:=outer) (H:=H) (E:=E) t sc.fs hr;obtain⟨hl1,ng⟩:=Bk hln;obtain⟨ng,hl3⟩:=Bk ng;obtain⟨kh,w9⟩:=Bk rj;obtain⟨w9,hg3⟩:=Bk w9;obtain⟨hg3,hg4⟩:=Bk hg3;obtain⟨gr,mr,_,_⟩:=Hj v hg4;obtain⟨b9,nc4⟩:=Bk nc;have pv:∀(i:Ag)(nm:Ah)(p:AF),(yd++xx)[i]?=Aa nm->nm∈yd->(nm==("__debug__" : Ah))=Af->(nm==("__classdict__" : Ah))=Af->PE (B1 (CXR P w) P w K mg base (yd++xx) qual (AH st) f cdv A outer s H E) (.Name nm p) (Ch i):=λi nm p h hm d1 d2=>Dw h ((sc.loc nm hm).imp_right .inl) d1 d2
 have gD:Gl (B1 (CXR P w) P w K mg base (yd++xx) qual (AH st) f cdv A outer s H E) "Desk" := AD.mp kh;have gS:Gl (B1 (CXR P w) P w K mg base (yd++xx) qual (AH st) f cdv A outer s H E) "_law_said" := AD.mp w9;have gF:Gl (B1 (CXR P w) P w K mg base (yd++xx) qual (AH st) f cdv A outer s H E) "_law_field" := AD.mp hg3;have E1:=((zp fuel).e _ _ _ x1 _ v g1).se A0;have EB:=((zp fuel).e _ _ _ (.Call yB aB kB p69) _ v gB).se;have E4:=((zp fuel).e _ _ _ x4 _ v g4).se;have S1:=(IW fuel).s _ _ _ b1 _ v ⟨λ_=>rfl,rfl,rfl,rfl⟩ gb1
 have S2:=(IW fuel).s _ _ _ b2 _ v ⟨λ_=>rfl,rfl,rfl,rfl⟩ gb2
 have S3:=(IW fuel).s _ _ _ b3 _ v ⟨λ_=>rfl,rfl,rfl,rfl⟩ gb3
 have S6:=(IW fuel).s _ _ _ b6 _ v ⟨λ_=>rfl,rfl,rfl,rfl⟩ gb6
 have SB':=(IW fuel).ss _ _ _ bs _ v ⟨λ_=>rfl,rfl,rfl,rfl⟩ gbs
 have C6:=(zp fuel).b _ _ _ x6 _ v g6;have C7:=(zp fuel).b _ _ _ x7 _ v g7;have C8:=(zp fuel).b _ _ _ x8 _ v g8;have C9:=(zp fuel).b _ _ _ x9 _ v g9;have B6:PT (B1 (CXR P w) P w K mg base (yd++xx) qual (AH st) f cdv A outer s H E) (.BoolOp .And [x6,.Compare (.Call (.Name "_law_field" k9) [.Name "_law_desk" jb,.Name "_law_row_here" jc] [] Ù) [.NotEq] [.Name "_law_point" cu] cw] cx) (λY H' Q'=>∃ a la pa l k w' scr p U q ps dv dw row dd pt,LS K CL C a la pa U q ps Y H'/\Y[9]?=Aa (Aa dv)/\Z7 K CL H' (Ad a la) dv (.tup [.str dw,dd])/\((dw = "alike"\/dw = "not on")->∃ y d,G q [.str row]=.exn y/\(((Z6 Pg (n+1)).up y.c).contains 107=Ab\/((Z6 Pg (n+1)).up y.c).contains 108=Ab)/\y.fs=[(("triple" : Ah),d)]/\Y8 5 d=Ab/\Y8 5 pt=Ab/\My d pt=Ab)/\U=zY l k w' (Z5 pt) (Z5 (.str row)) Ae scr p/\∀ H2,Az H' H2->Q' Af H2):=by
  refine PT.weak (PW.pt (QC (Mi C6) (Uv (Mi λA=>LX (IG (W:=WE K CL E) (CL:=CL) v.room.units .NotEq A) (Kd FF v.room gF mF kF bF .nil (v.px A0) (Bv (pv 2 _ jb rfl (by simp) rfl rfl) (Bv (pv 8 _ jc rfl (by simp) rfl rfl) Ca rfl) rfl) (by decide) rfl rfl) (pv 7 _ cu rfl (by simp) rfl rfl) rfl)))) ?_
  rintro Y H' Q' ⟨a,la,pa,l,k,w',scr,p,U,q,ps,dv,dw,row,dd,pt,j,e9,je,y6,rfl,hQ⟩;refine⟨Ad a la,Tm.sub j.aok IR,_,j.look (i:=9) (U':=[Ae,Ae,Ae,Ae,Ae,Ae,Ae,Ae,Ae,Ae,Ae,Ae,Ae]) rfl ⟨.inl rfl,.inl rfl,.inl rfl,.inl rfl,.inl rfl,.inl rfl,.inl rfl,.inl rfl,.inl rfl,.inl rfl,.inl rfl,.inl rfl,.inl rfl,trivial⟩ IR e9 je,Il (xJ rfl) λH1 pk=>?_⟩
  by_cases hx:dw = "alike"\/dw = "not on"
  .have hc:(("alike" == dw)||(("not on" == dw)||false))=Ab:=by
    rcases hx with rfl|rfl
    .rfl
    .rfl
   rw[hc,Au rfl];have j1:=j.same pk;obtain⟨y,d,e1,e2,e3,e4,e5,e6⟩:=y6 hx;obtain⟨rv,hrv,rrv⟩:=j1.g.sh 8 (.str row) rfl;obtain⟨tv,htv,rtv⟩:=j1.g.sh 7 pt rfl;rw[KD]at e2;refine⟨Ap a la pa,.ref a,j1.s2,rv,hrv,a,la,[rv],[.str row],Ap a la pa,q,y,d,rfl,rfl,j1.aok,.inl rfl,.inr (.inl rfl),⟨rrv,trivial⟩,j1.dk,e1,e2,e3,λv5 H5 u9 r5=>?_⟩
   exact⟨tv,htv,j1.aok.same u9,d,pt,.inl r5,.inl (rtv.same u9),K9 (VQ e4 e5 e6) λb5 jk tm rb=>⟨Af,rb,hQ jk ((pk.trans u9).trans tm)⟩⟩
  .have hc:(("alike" == dw)||(("not on" == dw)||false))=Af:=by
    rw[DQ,Bool.or_eq_false_iff];exact⟨Bg.mpr λz=>hx (.inl z.symm),Bg.mpr λz=>hx (.inr z.symm)⟩
   rw[hc,Ay Ax];exact hQ H1 pk
 refine⟨_,B9 (EE (i:=1) sc.fs.nd rfl (sc.loc "_law_p" (by simp)) E1 (HJ b9) (.inl rfl))
  (B9 (EE (i:=2) sc.fs.nd rfl (sc.loc "_law_desk" (by simp)) (iS MI FI v.room gD mD bI .nil (v.px A0) (Bv (pv 1 _ p5 rfl (by simp) rfl rfl) Ca rfl)) rfl (.inl rfl))
  (B9 (EE (i:=3) sc.fs.nd rfl (sc.loc "_law_listed" (by simp)) (L6 Ca) rfl (.inl rfl))
  (B9 (EE (i:=4) sc.fs.nd rfl (sc.loc "_law_past" (by simp)) (L6 Ca) rfl (.inl rfl))
  (B9 (VA v.own rfl (Tt gr mr (Bv Of (Bv (Q7 EB) Ca rfl) rfl)) (MX (i:=5) sc.fs.nd rfl (sc.loc "_law_k" (by simp)) (.inl rfl))
   (B9 (Om (C:=C) S1) (B9 (Om (C:=C) S2) (B9 (Om (C:=C) S3) (B9 (EE (i:=9) sc.fs.nd rfl (sc.loc "_law_due_here" (by simp)) (Q7 E4) (HJ nc4) (.inl rfl))
   (B9 (FJ (Mi λA=>LX (IG (W:=WE K CL E) (CL:=CL) v.room.units .NotEq A) (Kd FS v.room gS mS kS bS .nil (v.px A0) (Bv (pv 2 _ nv rfl (by simp) rfl rfl) (Bv (pv 8 _ kz rfl (by simp) rfl rfl) Ca rfl) rfl) (by decide) rfl rfl) (pv 9 _ ja rfl (by simp) rfl rfl) rfl) Js GV)
   (B9 (FJ B6 Js GV)
   (DT (FJ (Mi C7) (DT (EE (i:=3) sc.fs.nd rfl (sc.loc "_law_listed" (by simp)) (VE BJ Y_4 Y_8 VG (pv 4 _ Ü rfl (by simp) rfl rfl) rfl hl1) rfl (.inl rfl)))
    (DT (FJ (Mi C8) (B9 (Kc (IL BJ D5 D6 NO (pv 4 _ p40 rfl (by simp) rfl rfl) (Bv (pv 3 _ p42 rfl (by simp) rfl rfl) Ca rfl) rfl rfl ng rfl rfl) rfl) (rD (C:=C) SB')) GV))))))))))
   (λ_=>rfl))
  (B9 (Om (C:=C) S6)
  (B9 (EE (i:=10) sc.fs.nd rfl (sc.loc "_law_found" (by simp)) (Kd FS v.room gS mS kS bS .nil (v.px A0) (Bv (pv 2 _ p50 rfl (by simp) rfl rfl) (Bv KA Ca rfl) rfl) (by decide) rfl rfl) rfl (.inl rfl))
  (B9 (FJ (Mi C9) Js GV)
  (B9 (Kc (IL BJ D5 D6 NO (Re VH (pv 10 _ p55 rfl (by simp) rfl rfl) Of (λ_ _=>rfl)) (Bv KA Ca rfl) rfl rfl hl3 rfl rfl) rfl)
  (DT (Hi (Q7 λA=>Uw (IG (W:=WE K CL E) (CL:=CL) v.room.units .Eq A) (Kd FS v.room gS mS kS bS .nil (v.px A0) (Bv (pv 2 _ p63 rfl (by simp) rfl rfl) (Bv KA Ca rfl) rfl) (by decide) rfl rfl) (pv 9 _ p66 rfl (by simp) rfl rfl) rfl))))))))))),?_⟩
 have rs:∀ l:Ac Ai,Z9 K CL H A0 (l.map V.int) (l.map D.int):=λl=>by
  induction l with
  |nil=>trivial
  |cons x l ih=>exact⟨rfl,ih⟩
 have r0:Z7 K CL H A0 (.ref a0) (.lst (ns.map .int)):=⟨a0,_,rfl,.inl (λz=>z),hS,rs ns⟩
 obtain⟨p,m,Ã,yg,hm0,hm1,hlp⟩:=hL ns U8;generalize (D.lst (ns.map .int))=scr at r0 Ã yg hlp;refine⟨λ_ z=>z.elim,[Z5 scr,Ae,Ae,Ae,Ae,Ae,Ae,Ae,Ae,Ae,Ae,Ae,Ae],ij K CL A0 H _ [Aa (.ref a0),Ae,Ae,Ae,Ae,Ae,Ae,Ae,Ae,Ae,Ae,Ae,Ae] ⟨⟨rfl,_,rfl,r0⟩,trivial⟩,K9 Ã λvp H1 pk rp=>?_⟩
 refine⟨vp,rfl,λa dx na i9 ned=>?_⟩
 refine⟨a,dx,vp,rfl,BO,λH2 l1 la n1 n2 n12 ha ay zj keep=>⟨rfl,?_⟩⟩
 refine⟨Ds _,λl3 h3=>⟨Ds _,λpa h4=>?_⟩⟩
 have h3:H2 l3=Ae:=h3;have h4:(upd H2 l3 (.lst [])) pa=Ae:=h4;have n1a:l1≠a:=λz=>by rw[z,BO]at n1;cases n1
 have n2a:la≠a:=λz=>by rw[z,BO]at n2;cases n2
 have n1d:l1≠dx:=λz=>by rw[AQ n1a,z,BO]at n1;cases n1
 have n2d:la≠dx:=λz=>by rw[AQ n2a,z,BO]at n2;cases n2
 have n1':H1 l1=Ae:=by rw[AQ n1a,AQ n1d]at n1;exact n1
 have n2':H1 la=Ae:=by rw[AQ n2a,AQ n2d]at n2;exact n2
 have dr:Az H1 H2:=λb o e=>by
  have z1:b≠a:=Er e na;have z2:b≠dx:=Er e i9;exact keep b o (by rw[AQ z1,AQ z2];exact e) z1
 have q3:Az H2 (upd H2 l3 (.lst [])):=ES h3 _;have q4:Az (upd H2 l3 (.lst [])) (upd (upd H2 l3 (.lst [])) pa (.lst [])):=ES h4 _;have à:=q3.trans q4;have s14:=dr.trans à;have npa:H1 pa=Ae:=by
  cases e:H1 pa with
  |none=>rfl
  |some o=>rw[q3 _ _ (dr _ _ e)]at h4;cases h4
 have l3a:l3≠a:=λz=>by rw[z,ha]at h3;cases h3
 have l3l:l3≠la:=λz=>by rw[z,zj]at h3;cases h3
 have pl3:pa≠l3:=λz=>by rw[z,BO]at h4;cases h4
 have io:H2 pa=Ae:=by rw[AQ pl3]at h4;exact h4
 have paa:pa≠a:=λz=>by rw[z,ha]at io;cases io
 have pal:pa≠la:=λz=>by rw[z,zj]at io;cases io
 have pl1:pa≠l1:=λz=>by rw[z,ay]at io;cases io
 have wd:∀ b,Ap a la pa b->A0 b\/H1 b=Ae:=λb hb=>.inr (by rcases hb with rfl|rfl|rfl<;>assumption)
 have R0:Z7 K CL (upd (upd H2 l3 (.lst [])) pa (.lst [])) (Ap a la pa) (.ref a0) scr:=Z7.same s14 (Z7.wide wd _ (r0.same pk));have Rp:Z7 K CL (upd (upd H2 l3 (.lst [])) pa (.lst [])) (Ap a la pa) vp p:=Z7.same s14 (Z7.wide wd _ rp);have j0:LS K CL C a la pa (zY (Z5 (.lst [])) Ae Ae Ae Ae Ae scr p) ⟨p,[],.non,[]⟩ [] [Aa (.ref a0),Aa vp,Aa (.ref a),Aa (.ref l3),Aa (.ref pa),Ae,Ae,Ae,Ae,Ae,Ae,Ae,Ae] (upd (upd H2 l3 (.lst [])) pa (.lst [])):=by
  refine⟨ij K CL (Ap a la pa) _ _ _ ⟨⟨rfl,_,rfl,R0⟩,⟨rfl,_,rfl,Rp⟩,⟨rfl,_,rfl,l3,[],rfl,.inl ?_,Id.of (q4 _ _ BO),trivial⟩,trivial⟩,Ir rfl,rfl,rfl,rfl,rfl,⟨[],BO,trivial⟩,⟨dx,vp,.ref l1,.non,[],à _ _ ha,à _ _ zj,Rp,⟨l1,[],rfl,.inl ?_,Id.of (à _ _ ay),trivial⟩,rfl,trivial⟩,pal⟩
  .rintro (z|z|z)
   .exact l3a z
   .exact l3l z
   .exact pl3 z.symm
  .rintro (z|z|z)
   .exact n1a z
   .exact n12 z
   .exact pl1 z.symm
 refine⟨Ap a la pa,j0.aok,_,j0.g,K9 yg λvm H5 u9 rvm=>?_⟩
 have evm:vm=.int m:=rvm;subst evm;have j1:=j0.same u9;refine⟨1,m,rfl,⟨by omega,by omega,by omega,by omega⟩,?_⟩
 generalize (m-1).toNat=N at hlp ⊢;refine⟨λi mm Y H'=>mm=N-i/\i<=N/\∃ q l ps,LS K CL C a la pa (zY (Z5 (.lst l)) Ae Ae Ae Ae Ae scr p) q ps Y H'/\LD (Z6 Pg (n+1)) s1 s2 s3 c4 bb GS G scr p (λq l=>∃ ts xw,xz (Z6 Pg (n+1)) (LT (zY (Z5 (.lst l)) Ae Ae Ae Ae Ae scr p)) s6=.next (LT (zY (Z5 (.lst l)) Ae Ae Ae Ae (Z5 (.tup [.str "told",.lst ts])) scr p))/\GS q [.str "points"]=.ok (.tup [.str "told",.lst xw]) q/\Y8 4 (.lst ts)=Ab/\Y8 4 (.lst xw)=Ab/\KK xw ts=Ab/\xw.length<900) (((BR N).map fun(i:Ag)=>1+(i:Ai)).drop i) q l ps,⟨N,by simp,Ds _,_,_,_,j1,by rw[XQ];exact hlp⟩,?_⟩
 rintro i mm Y H6 ⟨rfl,hi,q,l,ps,j,lp⟩;by_cases yn:i<N
 .have ed:((BR N).map fun(i:Ag)=>1+(i:Ai)).drop i=(1+(i:Ai))::((BR N).map fun(i:Ag)=>1+(i:Ai)).drop (i+1):=by
   rw[DW (by simpa using yn)]
   congr 1
   simp
  rw[ed]at lp;refine .inr ⟨yn,λY' H'=>∃ q l ps,LS K CL C a la pa (zY (Z5 (.lst l)) Ae Ae Ae Ae Ae scr p) q ps Y' H'/\LD (Z6 Pg (n+1)) s1 s2 s3 c4 bb GS G scr p _ (((BR N).map fun(i:Ag)=>1+(i:Ai)).drop (i+1)) q l ps,λY' H' z=>⟨N-(i+1),by omega,rfl,yn,z⟩,λxv H7 ⟨e7,ex⟩=>?_⟩
  subst e7 ex;obtain⟨jj,row,dw,pt,dd,fd',q',y1,y2,y3,y4,y5,f1,f2,f3,y6,y7⟩:=lp;have j5:LS K CL C a la pa (zY (Z5 (.lst l)) (Z5 (.int (1+(i:Ai)))) Ae Ae Ae Ae scr p) q ps (Y.set 5 (Aa (.int (1+(i:Ai))))) H7:=j.set (i:=5) (d:=.int (1+(i:Ai))) (by decide) (by decide) rfl
  refine⟨a,la,pa,_,_,q,ps,j5,y1,rfl,rfl,rfl,λY1 H8 sm8 j6=>?_⟩
  refine⟨a,la,pa,_,_,q,ps,j6,y2,rfl,rfl,rfl,λY2 H9 qk j7=>?_⟩
  refine⟨a,la,pa,_,_,q,ps,j7,y3,rfl,rfl,rfl,λY3 H10 sm10 j8=>?_⟩
  refine⟨Ad a la,Tm.sub j8.aok IR,_,j8.look (i:=4) (U':=[Ae,Ae,Ae,Z5 (.lst l),Ae,Ae,Z5 (.str jj),Z5 pt,Ae,Ae,Ae,Ae,Ae]) rfl ⟨.inl rfl,.inl rfl,.inl rfl,.inr rfl,.inl rfl,.inl rfl,.inr rfl,.inr rfl,.inl rfl,.inl rfl,.inl rfl,.inl rfl,.inl rfl,trivial⟩ IR j8.s4 j8.past,K9 y4 λdv H11 sm11 je=>?_⟩
  have e9:(Y3.set 9 (Aa dv))[9]?=Aa (Aa dv):=j8.at (i:=9) rfl;have j9:=(j8.same sm11).junk (i:=9) (v:=Aa dv) (by decide) (by decide) rfl
  obtain⟨rv,hrv,rrv⟩:=j9.g.sh 8 (.str row) rfl;refine⟨Ad a la,.ref a,j9.s2,rv,hrv,a,la,[rv],[.str row],Ap a la pa,q,rfl,rfl,j9.aok,.inl rfl,.inr (.inl rfl),⟨rrv,trivial⟩,j9.dk,?_⟩;rw[y5];intro v5 x5 H12 kb rn dk5;have j10:=j9.kb kb dk5.un;refine⟨dv,e9,Tm.sub j10.aok IR,fd',.tup [.str dw,dd],.inl (rn.rep IR),.inl (Z7.kp (kb.kp (.inl rfl) (.inr rfl)) _ je),K9 (VQ f1 f2 f3) λb5 jk tm rb=>⟨Af,rb,?_⟩⟩
  have pj:Z7 K CL jk (Ad a la) dv (.tup [.str dw,dd]):=Z7.same tm (Z7.kp (kb.kp (.inl rfl) (.inr rfl)) _ je);have j11:=j10.same tm;show HK _ _ jk;have g6':∀ H',Az jk H'->Y9 K CL (Ad a la) [Ae,Ae,Ae,Ae,Ae,Ae,Z5 (.str jj),Ae,Ae,Z5 (.tup [.str dw,dd]),Ae,Ae,Ae] (Y3.set 9 (Aa dv)) H':=λH' sm=>(j11.same sm).look (i:=9) (U':=[Ae,Ae,Ae,Ae,Ae,Ae,Z5 (.str jj),Ae,Ae,Ae,Ae,Ae,Ae]) rfl ⟨.inl rfl,.inl rfl,.inl rfl,.inl rfl,.inl rfl,.inl rfl,.inr rfl,.inl rfl,.inl rfl,.inl rfl,.inl rfl,.inl rfl,.inl rfl,trivial⟩ IR e9 (pj.same sm)
  refine⟨a,la,pa,_,_,_,_,_,_,q',ps,dv,dw,row,dd,pt,j11,e9,pj,y6,rfl,λH14 lh=>?_⟩
  show HK _ _ H14;have j12:=j11.same lh;refine⟨Ad a la,Tm.sub j12.aok IR,_,g6' H14 lh,Il (xI rfl rfl) λï d6=>?_⟩
  have bz:=j12.same d6;by_cases h7:dw = "told"/\jj = "undo"
  .rw[Au h7]at y7;obtain⟨l',el,y8⟩:=y7;dsimp only;rw[Au (CI h7)];obtain⟨xs,bo,vn⟩:=bz.hp;rw[XY]at el;obtain⟨y,hy,ry⟩:=vn.get el;have lx:=vn.length;rw[<-lx]at hy;refine⟨.ref pa,bz.s4,.inl ⟨rfl,xs,Id.of bo⟩,pa,xs,y,rfl,rfl,bo,hy,?_⟩;have rd:Z9 K CL ï (Ap a la pa) xs.dropLast ps.dropLast:=by
    have:=Z9.take (xs.length-1) vn
    rwa [<-Ez,lx,<-Ez]at this
   have kpp:Kp (Ap a la pa) ï (upd ï pa (.lst xs.dropLast)):=λb o e na=>by rw[AQ λz=>na (.inr (.inr z))];exact e
   have ky:=(bz.put rd).set (i:=3) (by decide) (by decide) (Z7.kp kpp _ ry)
   exact⟨q',l',_,ky.le (Ir rfl) rfl rfl ⟨.inr rfl,.inr rfl,.inl rfl,.inr rfl,.inl rfl,.inl rfl,.inl rfl,.inl rfl,.inl rfl,.inl rfl,.inl rfl,.inl rfl,.inl rfl,trivial⟩,y8⟩
  .rw[Ay h7]at y7;dsimp only;rw[Ay (by rw[AG];exact h7)]
   refine⟨Ad a la,Tm.sub bz.aok IR,_,g6' ï (lh.trans d6),Il (xH rfl rfl) λH16 sm16=>?_⟩
   have ky:=bz.same sm16;by_cases h8:dw = "told"/\jj≠"points"
   .rw[Au h8]at y7;obtain⟨hz,l',y8,y9⟩:=y7;rw[Au (CI h8)];obtain⟨xs,bo,vn⟩:=ky.hp;obtain⟨lv,km,rlv⟩:=ky.g.sh 3 (.lst l) rfl;have lx:=vn.length;refine⟨.ref pa,ky.s4,.inl ⟨rfl,xs,Id.of bo⟩,lv,km,pa,xs,lv,rfl,rfl,bo,by rw[lx,Bz];omega,?_⟩
    have j15:=(ky.put (vn.append (show Z9 K CL H16 (Ap a la pa) [lv] [.lst l] from ⟨rlv,trivial⟩))).le (U':=zY (Z5 (.lst l)) (Z5 (.int (1+(i:Ai)))) (Z5 (.str jj)) (Z5 pt) Ae Ae scr p) (Ir rfl) rfl rfl ⟨.inr rfl,.inr rfl,.inl rfl,.inr rfl,.inl rfl,.inr rfl,.inr rfl,.inr rfl,.inl rfl,.inl rfl,.inl rfl,.inl rfl,.inl rfl,trivial⟩
    refine⟨a,la,pa,_,_,q',_,j15,y8,rfl,rfl,rfl,λY5 H17 sm17 j16=>?_⟩
    exact⟨q',l',_,j16.le (Ir rfl) rfl rfl ⟨.inr rfl,.inr rfl,.inl rfl,.inr rfl,.inl rfl,.inl rfl,.inl rfl,.inl rfl,.inl rfl,.inl rfl,.inl rfl,.inl rfl,.inl rfl,trivial⟩,y9⟩
   .rw[Ay h8]at y7;rw[Ay (by rw[AG];exact h8)]
    show HK _ _ H16;exact⟨q',l,_,ky.le (Ir rfl) rfl rfl ⟨.inr rfl,.inr rfl,.inl rfl,.inr rfl,.inl rfl,.inl rfl,.inl rfl,.inl rfl,.inl rfl,.inl rfl,.inl rfl,.inl rfl,.inl rfl,trivial⟩,y7⟩
 .have hN:i=N:=by omega
  subst hN;rw[F8 (by simp)]at lp
  obtain⟨ts,xw,y1,y2,f1,f2,f3,f4⟩:=lp;refine .inl ⟨AU _,?_⟩;refine⟨a,la,pa,_,_,q,ps,j,y1,rfl,rfl,rfl,λY1 H7 sm7 j2=>?_⟩
  refine⟨.ref a,j2.s2,a,la,[.str "points"],[.str "points"],Ap a la pa,q,rfl,rfl,j2.aok,.inl rfl,.inr (.inl rfl),⟨rfl,trivial⟩,j2.dk,?_⟩;rw[y2];intro v8 x8 H8 kb rn dk8;have j3:=(j2.kb kb dk8.un).junk (i:=10) (v:=Aa v8) (by decide) (by decide) rfl
  have e10:(Y1.set 10 (Aa v8))[10]?=Aa (Aa v8):=j2.at (i:=10) rfl;have fd2:Y8 5 (.tup [.str "told",.lst ts])=Ab:=by
   show (Ab&&(Y8 4 (.lst ts)&&Ab))=Ab;rw[f1];rfl
  have ù:Y8 5 (.tup [.str "told",.lst xw])=Ab:=by
   show (Ab&&(Y8 4 (.lst xw)&&Ab))=Ab;rw[f2];rfl
  have eq2:My (.tup [.str "told",.lst xw]) (.tup [.str "told",.lst ts])=Ab:=by
   show (Ab&&(KK xw ts&&Ab))=Ab;rw[f3];rfl
  refine⟨Ap a la pa,j3.aok,_,j3.look (i:=10) (U':=[Ae,Ae,Ae,Ae,Ae,Ae,Ae,Ae,Ae,Z5 (.tup [.str "told",.lst ts]),Ae,Ae,Ae]) rfl ⟨.inl rfl,.inl rfl,.inl rfl,.inl rfl,.inl rfl,.inl rfl,.inl rfl,.inl rfl,.inl rfl,.inr rfl,.inl rfl,.inl rfl,.inl rfl,trivial⟩ (λ_ h=>h) e10 (rn.rep λ_ h=>h),Il (xG rfl rfl fd2 ù eq2) λH9 qk=>?_⟩
  show HK _ _ H9;have rdue:=j2.g.sh 9 (.tup [.str "told",.lst ts]) rfl;obtain⟨dv,hdv,je⟩:=rdue;obtain⟨nm,d2,tt,ee,ev,ht,_,rc⟩:=rn;cases ee;subst ev;obtain⟨l5,ys,ex,az,ba,rys⟩:=rc.2 rfl xw rfl;subst ex;have ly:=rys.length;refine⟨.ref tt,e10,tt,[.str "told",.ref l5],1,.ref l5,rfl,rfl,yy.of (qk _ _ ht),rfl,.inl ⟨rfl,ys,Id.of (qk _ _ ba)⟩,l5,ys,.str "( )",rfl,rfl,qk _ _ ba,by rw[ly,Bz];omega,?_⟩
  have wd5:∀ b,AV (Ap a la pa) (.ref l5) b->Ap a la pa b\/H7 b=Ae:=λb h=>h.imp id λz=>by cases z;exact az
  have b7:Kp (AV (Ap a la pa) (.ref l5)) H9 (upd H9 l5 (.lst (ys++[.str "( )"]))):=λb o e na=>by
   rw[AQ λz=>na (.inr (by rw[z]))];exact e
  have pj:Z7 K CL (upd H9 l5 (.lst (ys++[.str "( )"]))) (Ap a la pa) dv (.tup [.str "told",.lst ts]):=Z7.sub (λb h=>.inl h) _ (Z7.kp b7 _ (Z7.same qk (Z7.kp (A:=AV (Ap a la pa) (.ref l5)) (kb.kp (.inl (.inl rfl)) (.inl (.inr (.inl rfl)))) _ (Z7.wide wd5 _ je))))
  have la5:¬ Ap a la pa l5:=j2.aok.new az;have zu:DK K CL (upd H9 l5 (.lst (ys++[.str "( )"]))) (Ap a la pa) C a la q:=by
   obtain⟨dx,v1,v2,v3,zs,h1,h2,r4,r5,r6,r7⟩:=dk8.same qk;exact DK.un (v:=.ref l5) ⟨dx,v1,v2,v3,zs,by rw[AQ λz=>la5 (.inl z.symm)];exact h1,by rw[AQ λz=>la5 (.inr (.inl z.symm))];exact h2,Z7.kp b7 _ r4,Z7.kp b7 _ r5,Z7.kp b7 _ r6,Z9.kp b7 _ r7⟩
  have ok9:Tm (upd H9 l5 (.lst (ys++[.str "( )"]))) (Ap a la pa):=λb hb=>by
   have z5:b≠l5:=λz=>la5 (by rw[<-z];exact hb)
   rw[AQ z5];exact(j3.aok.same qk) b hb
  refine⟨Ap a la pa,.ref a,j3.s2,a,la,[.str "points"],[.str "points"],Ap a la pa,q,rfl,rfl,ok9,.inl rfl,.inr (.inl rfl),⟨rfl,trivial⟩,zu,?_⟩;rw[y2];intro v9 x9 H10 kb2 rn2 dk10;have e9:(Y1.set 10 (Aa (.ref tt)))[9]?=Aa (Aa dv):=by rw[Bu (by decide)];exact hdv
  refine⟨dv,e9,dk10.un.aok kb2 ok9,_,_,.inl (rn2.rep λ_ h=>h),.inl (Z7.kp (kb2.kp (.inl rfl) (.inr (.inl rfl))) _ pj),K9 (jX ù fd2 eq2) λb5 jk tm rb=>hq b5 jk rb⟩
end
theorem sG{a:Ak}{ep:Ag}{xs:Ac (Ah×Ai×Ce×Ce)}(ha:(a==GP)=Af)(lk:K.lookup a=Aa ⟨.type "dict",Ae,.dict (xs.map λx=>(⟨hashStr w x.1,.str x.1 x.2.2.1,.int x.2.1 x.2.2.2⟩:Mw)).toArray ep,#[]⟩)(nd:Jx (xs.map (·.1))=Ab):Mf P w K a (xs.map λx=>(x.1,x.2.1)):=by
 refine⟨ha,_,_,ep,xs.map λx=>(x.1,.int x.2.1 x.2.2.2),lk,⟨rfl,rfl,rfl⟩,rfl,λe he=>?_,?_,?_,λz=>?_⟩
 .rw[List.mem_toArray]at he;obtain⟨x,_,rfl⟩:=Ic.mp he;exact⟨x.1,BE _,rfl⟩
 .clear nd lk
  show Pairs (E6 P w) (xs.map _) _
  induction xs with
  |nil=>exact .nil
  |cons x xs ih=>exact .cons (BE _) rfl ih
 .rw[Ib];exact IF nd
 .clear nd lk
  induction xs with
  |nil=>exact .inl ⟨rfl,rfl⟩
  |cons x xs ih=>
   by_cases h:x.1=z
   .subst h;refine .inr ⟨x.2.1,x.2.2.2,?_,?_⟩
    .simp[FU]
    .simp[BZ]
   .have h2:(z==x.1)=Af:=Bg.mpr λy=>h y.symm
    have e1:FU ((x::xs).map λx=>(x.1,GB x.2.1 x.2.2.2)) z=FU (xs.map λx=>(x.1,GB x.2.1 x.2.2.2)) z:=by
     simp[FU,h]
    have e2:((x::xs).map λx=>(x.1,x.2.1)).lookup z=(xs.map λx=>(x.1,x.2.1)).lookup z:=by
     simp[BZ,h2]
    rw[e1,e2];exact ih
structure DA (K:Fg) (C fi fs fl fc fu fa:Ak):Prop where
 n:Bb K AO "Desk" = Aa (Aa (.ref C))
 d:uq K C
 m:Mk K C fi
 s:zh K C "say" fs
 l:zh K C "list_changed" fl
 c:zh K C "changed" fc
 u:zh K C "undone" fu
 a:zh K C "list_asked" fa
theorem da_mk{C fi fs fl fc fu fa:Ak}(n1:Bb K AO "Desk" = Aa (Aa (.ref C)))(i:At K (.ref C) "__init__" = Aa (Aa (.ref fi)))(a1:At K (.ref C) "say" = Aa (Aa (.ref fs)))(a2:At K (.ref C) "list_changed" = Aa (Aa (.ref fl)))(a3:At K (.ref C) "changed" = Aa (Aa (.ref fc)))(a4:At K (.ref C) "undone" = Aa (Aa (.ref fu)))(a5:At K (.ref C) "list_asked" = Aa (Aa (.ref fa)))(pg:D8 K C Do=Ab)(hd:Ew K C=Ab)(po:F2 K C=Ab)(sa:At K (.ref C) "__setattr__" = Aa (Aa (.builtin "object.__setattr__")))(np:At K (.ref C) "p" = Aa Ae)(nl:At K (.ref C) "points" = Aa Ae)(nc:At K (.ref C) "curve" = Aa Ae)(nh:At K (.ref C) "past" = Aa Ae)(mk:GN K C=Ab)(kp:Ba K (.ref C)=Ab)(f0:Cn K (.ref fi)=Ab)(f1:Cn K (.ref fs)=Ab)(f2:Cn K (.ref fl)=Ab)(f3:Cn K (.ref fc)=Ab)(f4:Cn K (.ref fu)=Ab)(f5:Cn K (.ref fa)=Ab)(k1:Ba K (.ref fs)=Ab)(k2:Ba K (.ref fl)=Ab)(k3:Ba K (.ref fc)=Ab)(k4:Ba K (.ref fu)=Ab)(k5:Ba K (.ref fa)=Ab):DA K C fi fs fl fc fu fa:=
 ⟨n1,⟨⟨pg,hd,po,sa⟩,np,nl,nc,nh⟩,⟨mk,i,f0,kp⟩,⟨a1,f1,k1⟩,⟨a2,f2,k2⟩,⟨a3,f3,k3⟩,⟨a4,f4,k4⟩,⟨a5,f5,k5⟩⟩
end Ov
namespace OvC
open PySem Ov
variable{x p k:Ai}{n:Ag}{Z:Z4}{w:Ah}{t:An}{α:Type}{U:Rho}{o:O}
noncomputable abbrev tr(a b c:Ai):D:=.tup [.int a,.int b,.int c]
noncomputable def det(a0 a1 a2 b0 b1 b2 c0 c1 c2:Ai):Ai:=a0*(b1*c2-b2*c1)-a1*(b0*c2-b2*c0)+a2*(b0*c1-b1*c0)
def Sm(x:Ai):Prop:=0<=x/\x<11
theorem mo(h:Sm x)(y:Ai):Fj x y=Ab:=M0 (by have:=h.1;omega) (by have:=h.2;omega)
def cQ(Z:Z4):Prop:=∀ p a0 a1 a2 b0 b1 b2 c0 c1 c2:Ai,0<p->Sm a0->Sm a1->Sm a2->Sm b0->Sm b1->Sm b2->Z.F 61 [.int p,tr a0 a1 a2,tr b0 b1 b2,tr c0 c1 c2]=.ok (.int (det a0 a1 a2 b0 b1 b2 c0 c1 c2%p))
def aS(Z:Z4):Prop:=∀ p a0 a1 a2 b0 b1 b2 c0 c1 c2:Ai,0<p->Sm a0->Sm a1->Sm a2->Sm b0->Sm b1->Sm b2->Z.F 62 [tr a0 a1 a2,tr b0 b1 b2,tr c0 c1 c2,.int p]=.ok (.int (det a0 a1 a2 b0 b1 b2 c0 c1 c2%p))
def lZ(Z:Z4):Prop:=∀ m p:Ai,0<p->p<12->Z.F 63 [.int m,.int p]=.ok (tr (m%p) (m/p%p) (m/(p*p)%p))
structure H12 (Z:Z4):Prop where
 ms:cQ Z
 lm:aS Z
 wh:lX Z
 rs:lZ Z
 mx:mC Z
 pr:mB Z
theorem Sm.of(h:P4 p)(x:Ai):Sm (x%p):=⟨BY _ (by have:=h.pos;omega),by have:=BU x h.pos;have:=h.hi;omega⟩
theorem SV{body:D->Rho->O}(I:Rho->Prop)(g:Ai->An):∀(L:Ac Ai),(∀ t∈L,∀ U,I U->(g t=Ab/\body (.int t) U=.ret (.int t) Af)\/(g t=Af/\∃ U',body (.int t) U=.next U'/\I U'))->∀ U,I U->(∃ t∈L,g t=Ab/\Fo body (L.map D.int) U=.ret (.int t) Af)\/((∀ t∈L,g t=Af)/\∃ U',Fo body (L.map D.int) U=.next U'/\I U')
 |[],_,U,i=>.inr ⟨(λ_ h=>nomatch h),U,rfl,i⟩
 |m::L,h,U,i=>by
  rcases h m (AY ..) U i with ⟨e1,e2⟩|⟨e1,U',e2,i'⟩
  .refine .inl ⟨m,AY ..,e1,?_⟩;show (body (.int m) U).turn _=_;rw[e2];rfl
  .rcases SV I g L (λm' h'=>h m' (AE _ h')) U' i' with ⟨t,ht,a,b⟩|⟨a,r,b,c⟩
   .refine .inl ⟨t,AE _ ht,a,?_⟩;show (body (.int m) U).turn _=_;rw[e2];exact b
   .refine .inr ⟨λt ht=>?_,r,?_,c⟩
    .rcases A6.mp ht with rfl|ht
     .exact e1
     .exact a t ht
    .show (body (.int m) U).turn _=_;rw[e2];exact b
noncomputable def LQ:Ss:=(.cons (.ife (.cmp .Eq (.call 1 (.cons (.var 0) (.cons (.bin .Mult (.var 1) (.var 2)) .nil))) (.int 1)) (.cons (.ret (.var 2)) .nil) .nil) .nil)
noncomputable def NL:Df:=⟨3,Af,(.cons (.fors 2 (.rng2 (.int 1) (.var 0)) LQ) (.cons (.rais 2 (.cons (.str (Aj "a number with the rest 0 is not turned over")) .nil)) .nil))⟩
noncomputable def Mm(p:Ai):Ac Ai:=(BR (p-1).toNat).map fun(k:Ag)=>1+(k:Ai)
theorem P8{t:Ai}:t∈Mm p↔1<=t/\t<p:=by
 unfold Mm;rw[List.mem_map];constructor
 .rintro⟨k,hk,rfl⟩;have:=CU.mp hk;omega
 .rintro⟨h1,h2⟩;exact⟨(t-1).toNat,CU.mpr (by omega),by omega⟩
theorem eM(h:P4 p):FK 1 p=.ok ((Mm p).map D.int):=by
 rcases h with rfl|rfl|rfl|rfl<;>rfl
theorem kG:∀ p:Fin 12,(p.val=3\/p.val=5\/p.val=7\/p.val=11)->∀ r:Fin 12,r.val<p.val->r.val≠0->∃ t:Fin 12,1<=t.val/\t.val<p.val/\r.val*t.val%p.val=1:=by decide+kernel
theorem M2{n:Ai}(h:P4 p)(hn:n%p≠0):∃ t,1<=t/\t<p/\n*t%p=1:=by
 have p0:0<p/\p<12:=by rcases h with rfl|rfl|rfl|rfl<;>decide
 obtain⟨q,rfl⟩:∃ q:Ag,p=q:=⟨p.toNat,by omega⟩
 have h0:=BY n (b:=(q:Ai)) (by omega)
 have h1:=BU n p0.1;obtain⟨r,hr⟩:∃ r:Ag,n%(q:Ai)=r:=⟨(n%(q:Ai)).toNat,by omega⟩
 obtain⟨t,t1,t2,t3⟩:=kG ⟨q,by omega⟩ (by rcases h with e|e|e|e<;>simp<;>omega) ⟨r,by omega⟩ (by show r<q;omega) (by show r≠0;omega)
 refine⟨(t.val:Ai),by omega,by show (t.val:Ai)<q;exact Int.ofNat_lt.mpr t2,?_⟩
 have e:((r*t.val%q:Ag):Ai)=1:=by rw[show r*t.val%q=1 from t3];rfl
 rw[<-e,Int.natCast_emod,Int.natCast_mul,<-hr];exact(BK n _ _).trans (by rw[BK (n%(q:Ai)) (t.val:Ai) (q:Ai),Bo n (Cm _)])
def JK(p n t:Ai):Prop:=1<=t/\t<p/\n*t%p=1
theorem SZ{n t u:Ai}(h1:JK p n t)(h2:JK p n u):t=u:=by
 have hp:1<p:=by have:=h1.1;have:=h1.2.1;omega
 have e:t%p=u%p:=by
  have a:t%p=t*(n*u)%p:=by rw[BK,h2.2.2,XD,Bo _ (Cm p)]
  have b:u%p=(n*t)*u%p:=by rw[BK (n*t) u p,h1.2.2,El,Bo _ (Cm p)]
  rw[a,b]
  congr 1
  rw[<-HB,GE t n]
 rwa [BF (by have:=h1.1;omega) h1.2.1,BF (by have:=h2.1;omega) h2.2.1]at e
theorem M8{c:Ai}(hp:P4 p)(hc:c%p≠0)(hx:x%p≠0):c*x%p≠0:=λz=>by
 obtain⟨t,_,_,e⟩:=M2 hp hc;refine hx ?_;have e1:x%p=(c*t)*x%p:=by rw[BK (c*t) x p,e,El,Bo _ (Cm p)]
 rw[e1,show c*t*x=t*(c*x) by rw[GE c t,HB],BK,z,XF,XJ]
noncomputable def Ef(p:Ai):Ac Ai->Ao Ai
 |[]=>Ae
 |x::xs=>if x%p=0 then Ef p xs else Aa (x%p)
theorem Tw{p l:Ai}(hp:0<p):∀{xs:Ac Ai},Ef p xs=Aa l->l%p≠0/\0<l/\l<p
 |[],h=>by cases h
 |x::xs,h=>by
  unfold Ef at h;by_cases hx:x%p=0
  .rw[Au hx]at h;exact Tw hp h
  .rw[Ay hx]at h;cases h;have h0:=BY x (b:=p) (by omega)
   have h1:=BU x hp;exact⟨by rw[Bo _ (Cm p)];exact hx,by omega,h1⟩
theorem Qa{p c:Ai}(hp:P4 p)(hc:c%p≠0){f:Ai->Ai}(hf:∀ x,f x%p=c*x%p):∀ xs:Ac Ai,Ef p (xs.map f)=(Ef p xs).map λl=>c*l%p
 |[]=>rfl
 |x::xs=>by
  rw[BP];unfold Ef;rw[hf x];by_cases hx:x%p=0
  .rw[Au hx,Au (by rw[BK,hx,XF,XJ]),Qa hp hc hf xs]
  .rw[Ay hx,Ay (M8 hp hc hx),Ym]
   congr 1
   rw[BK c (x%p),Bo _ (Cm p),<-BK]
noncomputable def ds(xs:Ac Ai):Ac D:=xs.map D.int
noncomputable def EX(b:An)(xs:Ac Ai):D:=if b=Ab then .tup (ds xs) else .lst (ds xs)
theorem aP(b xs):G1 (EX b xs)=.ok (ds xs):=by unfold EX;cases b<;>rfl
theorem PR{g:D->R An}{f:D->R D}{φ:Ai->Ai}:∀(xs:Ac Ai),(∀ x∈xs,g (.int x)=.ok Ab/\f (.int x)=.ok (.int (φ x)))->Cu g f (ds xs)=.ok (ds (xs.map φ))
 |[],_=>rfl
 |x::xs,h=>by
  obtain⟨h1,h2⟩:=h x (AY ..);show (g (.int x)).bind _=_;rw[h1,R.bind_ok,Au rfl,h2,R.bind_ok];show (Cu g f (ds xs)).bind _=_;rw[PR xs λy hy=>h y (AE _ hy)]
  rfl
noncomputable def DL:E:=(.bl Ab)
noncomputable def Pl:E:=(.call 1 (.cons (.var 0) (.cons (.var 5) .nil)))
noncomputable def Pk:E:=(.call 1 (.cons (.var 0) (.cons (.bin .Mult (.var 4) (.var 6)) .nil)))
noncomputable def Im:Ss:=(.cons (.ife (.cmp .NotEq (.var 3) (.int 0)) (.cons (.asg 4 Af (.call 9 (.cons (.var 0) (.cons (.var 3) .nil)))) (.cons (.ret (.bi .tuple (.cons (.comp Pk 6 (.e (.var 2)) DL) .nil))) .nil)) .nil) .nil)
noncomputable def NS:Df:=⟨7,Af,(.cons (.asg 2 Af (.comp Pl 5 (.e (.var 1)) DL)) (.cons (.fors 3 (.e (.var 2)) Im) (.cons (.rais 3 (.cons (.str (Aj "all the numbers have the rest 0")) .nil)) .nil)))⟩
noncomputable def m6(p t:Ai)(xs:Ac Ai):Ac Ai:=xs.map λx=>t*(x%p)%p
section
variable{Z:Z4}{p:Ai}{xs:Ac Ai}{b:An}
end
noncomputable abbrev own(xs:Ac Ai):Sl:=Aa (.lst (ds xs),Ab)
section
variable{Z:Z4}{ns:Ac Ai}{a1 a2 a4 a6 a7 a8 a9 b0 b1 b2 b3 b4:Sl}{p:Ai}
end
theorem dQ{p c l t:Ai}(hp:P4 p)(hc:c%p≠0)(hl:l%p≠0)(it:JK p l t){f:Ai->Ai}(hf:∀ x,f x%p=c*x%p)(xs:Ac Ai):∃ u,JK p (c*l%p) u/\m6 p u (xs.map f)=m6 p t xs:=by
 have h1:(c*l%p)%p≠0:=by rw[Bo _ (Cm p)];exact M8 hp hc hl
 obtain⟨u,u1,u2,u3⟩:=M2 hp h1;refine⟨u,⟨u1,u2,u3⟩,?_⟩;unfold m6;rw[Ib];refine List.map_congr_left λx _=>?_
 show u*(f x%p)%p=t*(x%p)%p;have u4:c*l*u%p=1:=by rw[<-u3,BK (c*l%p) u p,Bo _ (Cm p),<-BK]
 have e1:u*(f x%p)%p=u*(c*x)%p:=by rw[hf,BK u (c*x%p) p,Bo _ (Cm p),<-BK]
 have e2:t*(x%p)%p=t*x%p:=by rw[BK t (x%p) p,Bo _ (Cm p),<-BK]
 have e3:u*(c*x)%p=(l*t)*(u*(c*x))%p:=by rw[BK (l*t) _ p,it.2.2,El,Bo _ (Cm p)]
 have e4:t*x%p=(c*l*u)*(t*x)%p:=by rw[BK (c*l*u) _ p,u4,El,Bo _ (Cm p)]
 rw[e1,e2,e3,e4]
 congr 1
 grind
section
variable{Z:Z4}{ns:Ac Ai}{a1 a4 a6 a7 a8 a9 b2 b3 b4:Sl}{p m:Ai}{xs:Ac Ai}
end
def Cg(p x y:Ai):Prop:=x%p=y%p
section
variable{p a b c d:Ai}
theorem Cg.rfl:Cg p a a:=Eq.refl _
theorem Cg.of(h:a=b):Cg p a b:=by unfold Cg;rw[h]
theorem Cg.trans{a b c:Ai}(h:Cg p a b)(g:Cg p b c):Cg p a c:=Eq.trans h g
theorem Cg.symm(h:Cg p a b):Cg p b a:=NE h
theorem Cg.add(h:Cg p a b)(g:Cg p c d):Cg p (a+c) (b+d):=by unfold Cg at *;rw[Xy,h,g,<-Xy]
theorem Cg.sub(h:Cg p a b)(g:Cg p c d):Cg p (a-c) (b-d):=by unfold Cg at *;rw[XH,h,g,<-XH]
theorem Cg.mul(h:Cg p a b)(g:Cg p c d):Cg p (a*c) (b*d):=by unfold Cg at *;rw[BK,h,g,<-BK]
end
theorem P4.m1(h:P4 p):(-1:Ai)%p≠0:=by rcases h with rfl|rfl|rfl|rfl<;>decide
theorem P4.o1(h:P4 p):(1:Ai)%p≠0:=by rcases h with rfl|rfl|rfl|rfl<;>decide
abbrev R3:=Ai×Ai×Ai
variable{a q:R3}
noncomputable def RW(a:R3):D:=.lst [.int a.1,.int a.2.1,.int a.2.2]
noncomputable def Lv(a b c:R3):Ai:=det a.1 a.2.1 a.2.2 b.1 b.2.1 b.2.2 c.1 c.2.1 c.2.2
def zq(p:Ai)(a:R3):Prop:=(0<=a.1/\a.1<p)/\(0<=a.2.1/\a.2.1<p)/\(0<=a.2.2/\a.2.2<p)
structure qs (p:Ai) (a b c:R3):Prop where
 p4:P4 p
 ia:zq p a
 ib:zq p b
 ic:zq p c
 nz:Lv a b c%p≠0
theorem qs.of{a b c a' b' c':R3}(h:qs p a b c)(hk:k%p≠0)(e:Cg p (Lv a' b' c') (k*Lv a b c))(hin:zq p a'/\zq p b'/\zq p c'):qs p a' b' c':=⟨h.p4,hin.1,hin.2.1,hin.2.2,by rw[show Lv a' b' c'%p=_ from e];exact M8 h.p4 hk h.nz⟩
theorem kP{ns:Ac Ai}(h0:0<=k)(h1:k<ns.length):DU (ns.map D.int) k=.ok (.int (ns.getD k.toNat 0)):=Uk h0 (by
 have:k.toNat<ns.length:=by omega
 simp[this])
noncomputable abbrev sy(a b c:R3):Sl:=Aa (.lst [RW a,RW b,RW c],Ab)
section
variable{Z:Z4}{ns:Ac Ai}{at_ many s5 s0 s1 s2:Sl}{p t m:Ai}{a b c:R3}
end
section
variable{Z:Z4}{ns:Ac Ai}{many s5 s6 s7 s8 s9 s0 s1 s2:Sl}{p:Ai}{a b c:R3}
end
def Bd(n:Ag)(x:Ai):Prop:=x.natAbs<2 ^ n
theorem Bd.mul{m:Ag}{y:Ai}(h:Bd m x)(g:Bd n y):Bd (m+n) (x*y):=by
 unfold Bd at *;rw[Int.natAbs_mul,Nat.pow_add];exact Nat.mul_lt_mul'' h g
theorem Bd.sub{y:Ai}(h:Bd n x)(g:Bd n y):Bd (n+1) (x-y):=by
 unfold Bd at *;rw[Nat.pow_succ];omega
def B3(a:R3):Prop:=Bd 300 a.1/\Bd 300 a.2.1/\Bd 300 a.2.2
noncomputable def Av(q:An)(a:R3):D:=EX q [a.1,a.2.1,a.2.2]
def mE(Z:Z4):Prop:=∀(p:Ai)(q:An)(a b c:R3),0<p->B3 a->B3 b->B3 c->Z.F 61 [.int p,Av q a,Av q b,Av q c]=.ok (.int (Lv a b c%p))
section
variable{Z:Z4}{ns:Ac Ai}{p t:Ai}{a b c r:R3}{made s6 s7:Sl}
end
section
variable{Z:Z4}{ns:Ac Ai}{p m:Ai}{a b c:R3}{fa fb fc:R3}{q:An}{s9 s0 s1 s2:Sl}
end
def PD(Z:Z4):Prop:=∀ p n:Ai,P4 p->n%p≠0->∃ t,1<=t/\t<p/\n*t%p=1/\Z.F 9 [.int p,.int n]=.ok (.int t)
def NZ(Z:Z4):Prop:=∀(p:Ai)(b:An)(xs:Ac Ai)(l t:Ai),P4 p->Ef p xs=Aa l->JK p l t->Z.F 17 [.int p,EX b xs]=.ok (.tup (ds (m6 p t xs)))
theorem bP(hr:Oi Z)(p n:Ai)(hp:P4 p)(z:n%p≠0):∃ t,1<=t/\t<p/\n*t%p=1/\NL.run Z [.int p,.int n]=.ok (.int t):=by
 have p0:=hp.pos;have ph:=hp.hi;have body:∀ t∈Mm p,∀ U,(∃ s,U=[si p,si n,s])->(decide (n*t%p=1)=Ab/\EV Z 2 LQ (.int t) U=.ret (.int t) Af)\/(decide (n*t%p=1)=Af/\∃ U',EV Z 2 LQ (.int t) U=.next U'/\∃ s,U'=[si p,si n,s]):=by
  rintro t ht U ⟨s,rfl⟩;obtain⟨t1,t2⟩:=P8.mp ht;have m:Fj n t=Ab:=N5 (by omega) (by omega)
  by_cases e:n*t%p=1
  .exact .inl ⟨by simp[e],by simp[EV,LQ,hr p (n*t) p0,m,e,Fn]⟩
  .exact .inr ⟨by simp[e],_,by simp[EV,LQ,hr p (n*t) p0,m,e];rfl,_,rfl⟩
 have run:∀ o,Fo (EV Z 2 LQ) ((Mm p).map D.int) [si p,si n,Ae]=o->NL.run Z [.int p,.int n]=(Lx Z (.cons (.rais 2 (.cons (.str (Aj "a number with the rest 0 is not turned over")) .nil)) .nil) o).ans Af:=by
  rintro o rfl;simp[NL,Df.run,Bw,eM hp]
 rcases SV (λU=>∃ s,U=[si p,si n,s]) (λt=>decide (n*t%p=1)) (Mm p) body [si p,si n,Ae] ⟨_,rfl⟩ with ⟨t,ht,a,b⟩|⟨a,r,b,s,rfl⟩
 .obtain⟨t1,t2⟩:=P8.mp ht;have a':n*t%p=1:=by simpa using a
  exact⟨t,t1,t2,a',by rw[run _ b];rfl⟩
 .obtain⟨t,t1,t2,e⟩:=M2 hp z;have:=a t (P8.mpr ⟨t1,t2⟩);simp[e]at this
section
variable{Z:Z4}{p:Ai}{xs:Ac Ai}{b:An}
theorem TD(hr:Oi Z)(ht:PD Z)(hp:P4 p)(rs:Ac Ai):∀(ys:Ac Ai),(∀ y∈ys,0<=y/\y<p)->∀ s3,(Ef p ys=Ae->∃ s3',Fo (EV Z 3 Im) (ds ys) [si p,sh (EX b xs),sh (.lst (ds rs)),s3,Ae,Ae,Ae]=.next [si p,sh (EX b xs),sh (.lst (ds rs)),s3',Ae,Ae,Ae])/\(∀ l t,Ef p ys=Aa l->JK p l t->Fo (EV Z 3 Im) (ds ys) [si p,sh (EX b xs),sh (.lst (ds rs)),s3,Ae,Ae,Ae]=.ret (.tup (ds (rs.map λr=>t*r%p))) Af)
 |[],_,s3=>⟨λ_=>⟨s3,rfl⟩,(λl t h=>nomatch h)⟩
 |y::ys,hy,s3=>by
  obtain⟨y0,y1⟩:=hy y (AY ..);have ym:y%p=y:=BF y0 y1;have ih:=TD hr ht hp rs ys (λz hz=>hy z (AE _ hz)) (si y)
  have step:∀ o,EV Z 3 Im (.int y) [si p,sh (EX b xs),sh (.lst (ds rs)),s3,Ae,Ae,Ae]=o->Fo (EV Z 3 Im) (ds (y::ys)) [si p,sh (EX b xs),sh (.lst (ds rs)),s3,Ae,Ae,Ae]=o.turn (Fo (EV Z 3 Im) (ds ys)):=by
   rintro o rfl;rfl
  unfold Ef;rw[ym];by_cases hz:y=0
  .have e:EV Z 3 Im (.int y) [si p,sh (EX b xs),sh (.lst (ds rs)),s3,Ae,Ae,Ae]=.next [si p,sh (EX b xs),sh (.lst (ds rs)),si y,Ae,Ae,Ae]:=by
    simp[EV,Im,hz]
   rw[Au hz,step _ e];exact ih
  .rw[Ay hz];refine⟨(λz=>nomatch z),λl t e it=>?_⟩
   cases e;obtain⟨u,u1,u2,u3,u4⟩:=ht p y hp (by rw[ym];exact hz)
   have:t=u:=SZ it ⟨u1,u2,u3⟩;subst this;have p0:=hp.pos;have ph:=hp.hi;have cp:Cu (cG Z [si p,sh (EX b xs),sh (.lst (ds rs)),si y,si t,Ae,Ae] 6 DL) (cF Z [si p,sh (EX b xs),sh (.lst (ds rs)),si y,si t,Ae,Ae] 6 Pk) (ds rs)=.ok (ds (rs.map λr=>t*r%p)):=by
    refine PR rs λr _=>⟨rfl,?_⟩
    have m:Fj t r=Ab:=M0 (by omega) (by omega)
    simp[cF,Pk,m,hr p (t*r) p0]
   have e:EV Z 3 Im (.int y) [si p,sh (EX b xs),sh (.lst (ds rs)),s3,Ae,Ae,Ae]=.ret (.tup (ds (rs.map λr=>t*r%p))) Af:=by
    simp[EV,Im,hz,u4,cp,Fn]
   rw[step _ e];rfl
theorem iH(hr:Oi Z)(ht:PD Z)(hp:P4 p){l t:Ai}(e:Ef p xs=Aa l)(it:JK p l t):NS.run Z [.int p,EX b xs]=.ok (.tup (ds (m6 p t xs))):=by
 have p0:=hp.pos;have cp:Cu (cG Z [si p,sh (EX b xs),Ae,Ae,Ae,Ae,Ae] 5 DL) (cF Z [si p,sh (EX b xs),Ae,Ae,Ae,Ae,Ae] 5 Pl) (ds xs)=.ok (ds (xs.map λx=>x%p)):=by
  refine PR xs λx _=>⟨rfl,?_⟩
  simp[cF,Pl,hr p x p0]
 have run:∀ o,Fo (EV Z 3 Im) (ds (xs.map λx=>x%p)) [si p,sh (EX b xs),sh (.lst (ds (xs.map λx=>x%p))),Ae,Ae,Ae,Ae]=o->NS.run Z [.int p,EX b xs]=(Lx Z (.cons (.rais 3 (.cons (.str (Aj "all the numbers have the rest 0")) .nil)) .nil) o).ans Af:=by
  rintro o rfl;simp[NS,Df.run,Bw,aP,cp]
 have le:Ef p (xs.map λx=>x%p)=Ef p xs:=by
  have:=Qa (c:=1) hp (by rcases hp with rfl|rfl|rfl|rfl<;>decide) (f:=λx=>x%p) (λx=>by rw[El,Bo _ (Cm p)]) xs
  rw[this];cases e:Ef p xs with
  |none=>rfl
  |some l=>
   obtain⟨_,l0,l1⟩:=Tw p0 e;simp[BF (Int.le_of_lt l0) l1]
 obtain⟨a,c⟩:=TD (b:=b) (xs:=xs) hr ht hp (xs.map λx=>x%p) (xs.map λx=>x%p) (λy hy=>by
  obtain⟨x,_,rfl⟩:=Ic.mp hy;exact⟨BY _ (by omega),BU _ p0⟩) Ae
 rw[le]at a c;rw[run _ (c l t e it)];simp[m6,Ib,Function.comp_def]
end
theorem QI(q:An)(a:R3):G1 (Av q a)=.ok [.int a.1,.int a.2.1,.int a.2.2]:=by cases q<;>rfl
noncomputable def NB(a b c:R3):R3:=(a.1,b.1,c.1)
noncomputable def NA(a b c:R3):R3:=(a.2.1,b.2.1,c.2.1)
noncomputable def Nz(a b c:R3):R3:=(a.2.2,b.2.2,c.2.2)
noncomputable def KR(a x:R3):Ai:=a.1*x.1+a.2.1*x.2.1+a.2.2*x.2.2
theorem U_0:∀ xs ys:Ac Ai,KK (ds xs) (ds ys)=decide (xs=ys)
 |[],[]=>rfl
 |[],_::_=>rfl
 |_::_,[]=>rfl
 |x::xs,y::ys=>by
  show ((x==y)&&KK (ds xs) (ds ys))=_;rw[U_0 xs ys,DM];simp
theorem M3(a b:R3):My (Av Ab a) (Av Ab b)=decide (a=b):=by
 show KK (ds [a.1,a.2.1,a.2.2]) (ds [b.1,b.2.1,b.2.2])=_;rw[U_0,DM];simp only[List.cons.injEq,and_true,AG];exact⟨λ⟨h1,h2,h3⟩=>by obtain⟨a1,a2,a3⟩:=a;obtain⟨b1,b2,b3⟩:=b;simp at h1 h2 h3;rw[h1,h2,h3],λh=>by rw[h];exact⟨rfl,rfl,rfl⟩⟩
theorem uU(hp:P4 p)(h0:0<=x)(h1:x<p):Bd 10 x:=by
 unfold Bd;have:=hp.hi;omega
theorem Bd.mono{m:Ag}(h:Bd m x)(hm:m<=n):Bd n x:=AZ h (Nat.pow_le_pow_right (by decide) hm)
def Bn(n:Ag)(a:R3):Prop:=Bd n a.1/\Bd n a.2.1/\Bd n a.2.2
theorem Bn.b3(h:Bn n a)(hn:n<=300):B3 a:=⟨h.1.mono hn,h.2.1.mono hn,h.2.2.mono hn⟩
noncomputable def Hr(k:Ai)(a:R3):R3:=(k*a.1,k*a.2.1,k*a.2.2)
noncomputable def fk0(p:Ai)(a b c d:R3):Ai:=Lv d b c%p
noncomputable def Å(p:Ai)(a b c d:R3):R3:=Hr (fk0 p a b c d) a
def IO(p:Ai)(x y:R3):Prop:=Cg p x.1 y.1/\Cg p x.2.1 y.2.1/\Cg p x.2.2 y.2.2
section
variable{p:Ai}{a b c a' b' c' x y z x':R3}{k l m k':Ai}
theorem IO.rfl:IO p a a:=⟨Cg.rfl,Cg.rfl,Cg.rfl⟩
theorem IO.of(h:a=b):IO p a b:=by rw[h];exact IO.rfl
theorem IO.trans(h:IO p a b)(g:IO p b c):IO p a c:=⟨h.1.trans g.1,h.2.1.trans g.2.1,h.2.2.trans g.2.2⟩
theorem IO.symm(h:IO p a b):IO p b a:=⟨h.1.symm,h.2.1.symm,h.2.2.symm⟩
theorem IO.sc(hk:Cg p k k')(h:IO p a b):IO p (Hr k a) (Hr k' b):=⟨hk.mul h.1,hk.mul h.2.1,hk.mul h.2.2⟩
theorem Le(ha:IO p a a')(hb:IO p b b'):Cg p (KR a b) (KR a' b'):=((ha.1.mul hb.1).add (ha.2.1.mul hb.2.1)).add (ha.2.2.mul hb.2.2)
theorem sE(ha:IO p a a')(hb:IO p b b')(hc:IO p c c'):IO p (NB a b c) (NB a' b' c')/\IO p (NA a b c) (NA a' b' c')/\IO p (Nz a b c) (Nz a' b' c'):=⟨⟨ha.1,hb.1,hc.1⟩,⟨ha.2.1,hb.2.1,hc.2.1⟩,⟨ha.2.2,hb.2.2,hc.2.2⟩⟩
noncomputable def ap(a b c x:R3):R3:=(KR a x,KR b x,KR c x)
theorem V3(k l:Ai)(x:R3):Hr k (Hr l x)=Hr (k*l) x:=by
 unfold Hr;simp only[HB]
theorem wX(a b c x:R3)(k:Ai):ap a b c (Hr k x)=Hr k (ap a b c x):=by
 unfold ap Hr KR;refine Mx ?_ (Mx ?_ ?_)<;>(simp only;grind)
end
section
variable{p:Ai}{a b c f0 f1 f2 f3 g0 g1 g2 g3:R3}{d0 d1 d2 d3:Ai}
end
section
variable{Z:Z4}{ns:Ac Ai}
end
section
variable{Z:Z4}{ns:Ac Ai}{many s5 s6 s7 s8 s9 s0 s1 s2:Sl}{p:Ai}{a b c:R3}
end
def InL(p:Ai)(xs:Ac Ai):Prop:=∀ x∈xs,0<=x/\x<p
theorem InL.set{xs:Ac Ai}(h:InL p xs)(k:Ag){v:Ai}(h0:0<=v)(h1:v<p):InL p (xs.set k v):=λx hx=>by
 rcases List.mem_or_eq_of_mem_set hx with z|rfl
 .exact h x z
 .exact⟨h0,h1⟩
section
variable{Z:Z4}{ns:Ac Ai}{p at_:Ai}
end
section
variable{Z:Z4}{ns:Ac Ai}{p t:Ai}
end
structure C6 where
 c0:Ai
 c1:Ai
 c2:Ai
 c3:Ai
 c4:Ai
 c5:Ai
noncomputable def C6.l(C:C6):Ac Ai:=[C.c0,C.c1,C.c2,C.c3,C.c4,C.c5]
noncomputable def vI(C:C6)(x:R3):Ai:=C.c0*x.1*x.1+C.c1*x.2.1*x.2.1+C.c2*x.2.2*x.2.2+(C.c3*x.1*x.2.1+C.c4*x.1*x.2.2+C.c5*x.2.1*x.2.2)
noncomputable def ë(C:C6):R3:=(2*C.c0,C.c3,C.c4)
noncomputable def ì(C:C6):R3:=(C.c3,2*C.c1,C.c5)
noncomputable def í(C:C6):R3:=(C.c4,C.c5,2*C.c2)
noncomputable def bI(C:C6)(x y:R3):Ai:=KR (ap (ë C) (ì C) (í C) x) y
noncomputable def wv(k:Ai)(C:C6):C6:=⟨k*C.c0,k*C.c1,k*C.c2,k*C.c3,k*C.c4,k*C.c5⟩
def yv(p:Ai)(C D:C6):Prop:=Cg p C.c0 D.c0/\Cg p C.c1 D.c1/\Cg p C.c2 D.c2/\Cg p C.c3 D.c3/\Cg p C.c4 D.c4/\Cg p C.c5 D.c5
noncomputable def pb(C:C6)(a b c:R3):C6:=⟨vI C (NB a b c),vI C (NA a b c),vI C (Nz a b c),bI C (NB a b c) (NA a b c),bI C (NB a b c) (Nz a b c),bI C (NA a b c) (Nz a b c)⟩
section
variable{p:Ai}{C D E:C6}{a b c a' b' c' x y x' y':R3}{k k':Ai}
theorem C6.ext'(h0:C.c0=D.c0)(h1:C.c1=D.c1)(h2:C.c2=D.c2)(h3:C.c3=D.c3)(h4:C.c4=D.c4)(h5:C.c5=D.c5):C=D:=by
 cases C;cases D;simp_all
theorem yv.rfl:yv p C C:=⟨Cg.rfl,Cg.rfl,Cg.rfl,Cg.rfl,Cg.rfl,Cg.rfl⟩
theorem yv.of(h:C=D):yv p C D:=by rw[h];exact yv.rfl
theorem yv.symm(h:yv p C D):yv p D C:=⟨h.1.symm,h.2.1.symm,h.2.2.1.symm,h.2.2.2.1.symm,h.2.2.2.2.1.symm,h.2.2.2.2.2.symm⟩
theorem yv.trans(h:yv p C D)(g:yv p D E):yv p C E:=⟨h.1.trans g.1,h.2.1.trans g.2.1,h.2.2.1.trans g.2.2.1,h.2.2.2.1.trans g.2.2.2.1,h.2.2.2.2.1.trans g.2.2.2.2.1,h.2.2.2.2.2.trans g.2.2.2.2.2⟩
theorem yv.sc(hk:Cg p k k')(h:yv p C D):yv p (wv k C) (wv k' D):=⟨hk.mul h.1,hk.mul h.2.1,hk.mul h.2.2.1,hk.mul h.2.2.2.1,hk.mul h.2.2.2.2.1,hk.mul h.2.2.2.2.2⟩
theorem Q6(h:yv p C D)(hx:IO p x x'):Cg p (vI C x) (vI D x'):=
 (((((h.1.mul hx.1).mul hx.1).add ((h.2.1.mul hx.2.1).mul hx.2.1)).add ((h.2.2.1.mul hx.2.2).mul hx.2.2))).add ((((h.2.2.2.1.mul hx.1).mul hx.2.1).add ((h.2.2.2.2.1.mul hx.1).mul hx.2.2)).add ((h.2.2.2.2.2.mul hx.2.1).mul hx.2.2))
theorem uI(h:yv p C D):IO p (ë C) (ë D)/\IO p (ì C) (ì D)/\IO p (í C) (í D):=
 ⟨⟨Cg.rfl.mul h.1,h.2.2.2.1,h.2.2.2.2.1⟩,⟨h.2.2.2.1,Cg.rfl.mul h.2.1,h.2.2.2.2.2⟩,⟨h.2.2.2.2.1,h.2.2.2.2.2,Cg.rfl.mul h.2.2.1⟩⟩
theorem rO(ha:IO p a a')(hb:IO p b b')(hc:IO p c c')(hx:IO p x x'):IO p (ap a b c x) (ap a' b' c' x'):=⟨Le ha hx,Le hb hx,Le hc hx⟩
theorem RA(h:yv p C D)(hx:IO p x x')(hy:IO p y y'):Cg p (bI C x y) (bI D x' y'):=
 let ⟨t0,t1,t2⟩:=uI h
 Le (rO t0 t1 t2 hx) hy
theorem vE(h:yv p C D)(ha:IO p a a')(hb:IO p b b')(hc:IO p c c'):yv p (pb C a b c) (pb D a' b' c'):=
 let ⟨s0,s1,s2⟩:=sE ha hb hc
 ⟨Q6 h s0,Q6 h s1,Q6 h s2,RA h s0 s1,RA h s0 s2,RA h s1 s2⟩
theorem U_8(k l:Ai)(C:C6):wv k (wv l C)=wv (k*l) C:=by
 unfold wv;simp only[HB]
theorem UK(C:C6):wv 1 C=C:=by unfold wv;simp only[El]
theorem vD(k:Ai)(C:C6)(a b c:R3):pb (wv k C) a b c=wv k (pb C a b c):=by
 unfold pb wv vI bI ap ë ì í KR;refine C6.ext' ?_ ?_ ?_ ?_ ?_ ?_<;>(simp only;grind)
def ub(p:Ai)(C D:C6):Prop:=∃ d,d%p≠0/\yv p C (wv d D)
theorem ub.rfl(hp:P4 p):ub p C C:=⟨1,hp.o1,yv.of (UK C).symm⟩
theorem ub.trans(hp:P4 p)(i:ub p C D)(j:ub p D E):ub p C E:=by
 obtain⟨d,dz,e⟩:=i;obtain⟨d',dz',e'⟩:=j;exact⟨d*d',M8 hp dz dz',e.trans ((yv.sc Cg.rfl e').trans (yv.of (U_8 _ _ _)))⟩
theorem qF(hp:P4 p)(dz:k%p≠0):∃ u,u%p≠0/\Cg p (u*k) 1:=by
 obtain⟨u,u1,u2,u3⟩:=M2 hp dz;refine⟨u,by rw[BF (by omega) u2];omega,?_⟩
 show u*k%p=1%p;rw[GE,u3,BF (by decide) (by have:=hp.lo;omega)]
theorem ub.symm(hp:P4 p)(i:ub p C D):ub p D C:=by
 obtain⟨d,dz,e⟩:=i;obtain⟨u,uz,o⟩:=qF hp dz;refine⟨u,uz,?_⟩;have q:=yv.sc (k:=u) (k':=u) Cg.rfl e;rw[U_8]at q;exact(q.trans ((yv.sc o yv.rfl).trans (yv.of (UK D)))).symm
theorem ub.pb(i:ub p C D):ub p (OvC.pb C a b c) (OvC.pb D a b c):=by
 obtain⟨d,dz,e⟩:=i;exact⟨d,dz,(vE e IO.rfl IO.rfl IO.rfl).trans (yv.of (vD d D a b c))⟩
def InC(p:Ai)(C:C6):Prop:=∀ x∈C.l,0<=x/\x<p
end
structure BC (C:C6):Prop where
 b0:Bd 10 C.c0
 b1:Bd 10 C.c1
 b2:Bd 10 C.c2
 b3:Bd 10 C.c3
 b4:Bd 10 C.c4
 b5:Bd 10 C.c5
theorem InC.b{C:C6}(hp:P4 p)(h:InC p C):BC C:=by
 have k:∀ x∈C.l,Bd 10 x:=λx hx=>uU hp (h x hx).1 (h x hx).2
 exact⟨k _ (by simp[C6.l]),k _ (by simp[C6.l]),k _ (by simp[C6.l]),k _ (by simp[C6.l]),k _ (by simp[C6.l]),k _ (by simp[C6.l])⟩
noncomputable def t0(p:Ai)(C:C6):R3:=(2*C.c0%p,C.c3,C.c4)
noncomputable def t1(p:Ai)(C:C6):R3:=(C.c3,2*C.c1%p,C.c5)
noncomputable def t2(p:Ai)(C:C6):R3:=(C.c4,C.c5,2*C.c2%p)
section
variable{Z:Z4}{ns:Ac Ai}{p at_:Ai}{φ:Ai->Ai}
end
def Pr(p:Ai)(x y:R3):Prop:=∃ d,d%p≠0/\IO p x (Hr d y)
section
variable{p:Ai}{a b c x y z f g h:R3}{k:Ai}
theorem U_9(x:R3):Hr 1 x=x:=by unfold Hr;simp only[El]
theorem Pr.rfl(hp:P4 p):Pr p x x:=⟨1,hp.o1,IO.of (U_9 x).symm⟩
theorem Pr.trans(hp:P4 p)(i:Pr p x y)(j:Pr p y z):Pr p x z:=by
 obtain⟨d,dz,e⟩:=i;obtain⟨d',dz',e'⟩:=j;exact⟨d*d',M8 hp dz dz',e.trans ((IO.sc Cg.rfl e').trans (IO.of (V3 _ _ _)))⟩
theorem Pr.symm(hp:P4 p)(i:Pr p x y):Pr p y x:=by
 obtain⟨d,dz,e⟩:=i;obtain⟨u,u1,u2,u3⟩:=M2 hp dz;have uz:u%p≠0:=by rw[BF (by omega) u2];omega
 have o:Cg p (u*d) 1:=by
  show u*d%p=1%p;rw[GE,u3,BF (by decide) (by have:=hp.lo;omega)]
 refine⟨u,uz,?_⟩;have q:=IO.sc (k:=u) (k':=u) Cg.rfl e;rw[V3]at q;exact(q.trans ((IO.sc o IO.rfl).trans (IO.of (U_9 y)))).symm
theorem wY{a' b' c' x':R3}(ha:IO p a a')(hb:IO p b b')(hc:IO p c c')(hx:IO p x x'):IO p (ap a b c x) (ap a' b' c' x'):=⟨Le ha hx,Le hb hx,Le hc hx⟩
theorem Pr.ap(i:Pr p x y):Pr p (OvC.ap a b c x) (OvC.ap a b c y):=by
 obtain⟨d,dz,e⟩:=i;exact⟨d,dz,(wY IO.rfl IO.rfl IO.rfl e).trans (IO.of (wX a b c y d))⟩
end
noncomputable def oi(g:R3):Ac Ai:=[g.1,g.2.1,g.2.2]
section
variable{p:Ai}{a b c a' b' c' f0 f1 f2 f3 g0 g1 g2 g3 h0 h1 h2 h3:R3}
end
section
variable{Z:Z4}{ns:Ac Ai}{p:Ai}
end
def Oj(Z:Z4)(mid:Ag)(ns:Ac Ai):Prop:=∀ k:Ai,0<=k->∃ m,0<=m/\Z.F mid [scr ns,.int k]=.ok (.int m)
section
variable{Z:Z4}{ns:Ac Ai}{mid:Ag}{p:Ai}{a b c:R3}{s2 s4 s5 s6 s7 s8:Sl}
end
theorem rG(h:1<p):Ef p [0,0,1]=Aa 1:=by
 simp[Ef,BF (by decide:(0:Ai)<=1) h]
theorem vV(h:1<p)(z:Ai):Ef p [0,1,z]=Aa 1:=by
 simp[Ef,BF (by decide:(0:Ai)<=1) h]
theorem xZ(h:1<p)(y z:Ai):Ef p [1,y,z]=Aa 1:=by
 simp[Ef,BF (by decide:(0:Ai)<=1) h]
noncomputable def jd(a b:R3):C6:=⟨a.1*b.1,a.2.1*b.2.1,a.2.2*b.2.2,a.1*b.2.1+a.2.1*b.1,a.1*b.2.2+a.2.2*b.1,a.2.1*b.2.2+a.2.2*b.2.1⟩
noncomputable def WP(C D:C6):C6:=⟨C.c0-D.c0,C.c1-D.c1,C.c2-D.c2,C.c3-D.c3,C.c4-D.c4,C.c5-D.c5⟩
section
variable{Z:Z4}{ns:Ac Ai}{p:Ai}{C:C6}{s3 s4 s5 s6 s7 s8:Sl}
end
section
variable{Z:Z4}{ns:Ac Ai}
end
section
variable{Z:Z4}{ns:Ac Ai}{p:Ai}{C:C6}{s3 s4 s5 s6 s7 s8:Sl}
end
def NF(p:Ai)(x:R3):Prop:=zq p x/\Ef p (oi x)=Aa 1
noncomputable def ny(p n:Ai):R3:=if n=0 then (0,0,1) else if n<=p then (0,1,n-1) else (1,(n-p-1)/p,(n-p-1)%p)
theorem wT{n:Ai}(hp:P4 p)(h0:0<=n)(h1:n<p*p+p+1):NF p (ny p n):=by
 have p1:1<p:=by have:=hp.lo;omega
 have p0:=hp.pos;unfold ny;by_cases z:n=0
 .rw[Au z];exact⟨⟨⟨by decide,p0⟩,⟨by decide,p0⟩,⟨by decide,p1⟩⟩,rG p1⟩
 .rw[Ay z];by_cases z1:n<=p
  .rw[Au z1];exact⟨⟨⟨Xz 0,p0⟩,⟨(by decide:(0:Ai)<=1),p1⟩,⟨by show 0<=n-1;omega,by show n-1<p;omega⟩⟩,vV p1 _⟩
  .rw[Ay z1];have d0:0<=(n-p-1)/p:=Int.ediv_nonneg (by omega) (by omega)
   have d1:(n-p-1)/p<p:=by rw[Int.ediv_lt_iff_lt_mul p0];omega
   exact⟨⟨⟨(by decide:(0:Ai)<=1),p1⟩,⟨d0,d1⟩,⟨BY _ (by omega),BU _ p0⟩⟩,xZ p1 _ _⟩
noncomputable def q4(w:Ag)(k:Ai)(y:R3):Ai:=match w with
  |0=>y.1*y.2.2-y.2.1*y.2.1
  |1=>y.1*y.1
  |2=>y.1*y.2.1
  |_=>y.1*y.1-k*(y.2.1*y.2.1)
noncomputable def E4(w:Ag)(k:Ai)(a b c:R3):C6:=match w with
  |0=>WP (jd a c) (jd b b)
  |1=>jd a a
  |2=>jd a b
  |_=>WP (jd a a) (wv k (jd b b))
noncomputable def qa(p:Ai)(w:Ag):Ag:=match w with
  |0=>(p+1).toNat
  |1=>(p+1).toNat
  |2=>(2*p+1).toNat
  |_=>1
section
variable{Z:Z4}{p i j k d N:Ai}{PP x y u:D}{RL:Ac D}{s t s' t' v:Sl}
end
section
variable{Z:Z4}{p:Ai}{pts:Ac R3}
end
def rP(Z:Z4)(ns:Ac Ai):Prop:=∀ k,0<=k->∃ p,P4 p/\Z.F 39 [scr ns,.int k]=.ok (.int p)
def lY(Z:Z4)(ns:Ac Ai):Prop:=∀(p k:Ai),P4 p->0<=k->∃ a b c,NF p a/\NF p b/\NF p c/\Z.F 74 [scr ns,.int k,.int p]=.ok (.tup [Av Ab a,Av Ab b,Av Ab c])
noncomputable def sp7:Ah:=Aj " "
noncomputable def dg(n:Ag):Ah:=if n<10 then ⟨#[48+n]⟩ else ⟨#[49,48]⟩
theorem oV:∀ n:Ag,n<11->Aj (toString (n:Ai))=dg n:=by decide+kernel
theorem rW:∀ a:Ag,a<11->∀ b:Ag,b<11->(dg a==dg b)=(a==b):=by decide+kernel
noncomputable def br0(s:An):Ah:=if s=Ab then Aj "[" else Aj "("
noncomputable def br1(s:An):Ah:=if s=Ab then Aj "]" else Aj ")"
noncomputable def jn(a b c:Ag):Ah:=Eo sp7 [dg a,dg b,dg c]
noncomputable def tx(s:An)(a b c:Ag):Ah:=br0 s++jn a b c++br1 s
def Sg(u:Ah):Prop:=(∃ x,u=⟨#[x]⟩)\/∃ x y,u=⟨#[x,y]⟩
theorem Rg(a:Ag):Sg (dg a):=by
 unfold dg;by_cases h:a<10
 .rw[Au h];exact .inl ⟨_,rfl⟩
 .rw[Ay h];exact .inr ⟨_,_,rfl⟩
structure JF (u v w:Ah):Prop where
 jo:J4 sp7 [u,v,w]=Ab
 ln:(Eo sp7 [u,v,w]).length<=10
 cut:∀ b d:Ag,JN ((⟨#[b]⟩:Ah)++Eo sp7 [u,v,w]++⟨#[d]⟩) (Aa 1) (Aa (-1))=Eo sp7 [u,v,w]
 tl:∀ b d:Ag,((⟨#[b]⟩:Ah)++Eo sp7 [u,v,w]++⟨#[d]⟩).length<=20
 i0:∀ b d:Ag,G3 (.str ((⟨#[b]⟩:Ah)++Eo sp7 [u,v,w]++⟨#[d]⟩)) (.int 0)=.ok (.str ⟨#[b]⟩)
 i1:∀ b d:Ag,G3 (.str ((⟨#[b]⟩:Ah)++Eo sp7 [u,v,w]++⟨#[d]⟩)) (.int (-1))=.ok (.str ⟨#[d]⟩)
theorem jf{u v:Ah}(hu:Sg u)(hv:Sg v)(hw:Sg w):JF u v w:=by
 rcases hu with ⟨x,rfl⟩|⟨x,x',rfl⟩<;>rcases hv with ⟨y,rfl⟩|⟨y,y',rfl⟩<;>rcases hw with ⟨z,rfl⟩|⟨z,z',rfl⟩ <;>
  exact⟨by kernel_rfl,AR (by kernel_rfl),λb d=>by kernel_rfl,λb d=>AR (by kernel_rfl),λb d=>by kernel_rfl,λb d=>by kernel_rfl⟩
theorem mY(s:An):∃ b,br0 s=⟨#[b]⟩:=by
 cases s with
 |false=>exact⟨40,by kernel_rfl⟩
 |true=>exact⟨91,by kernel_rfl⟩
theorem mX(s:An):∃ b,br1 s=⟨#[b]⟩:=by
 cases s with
 |false=>exact⟨41,by kernel_rfl⟩
 |true=>exact⟨93,by kernel_rfl⟩
theorem tH{x y:Ah}{l:Ac Ah}(h:DH x y=l)(hl:l.length=3)(hx:x.length<=20):IV x y=Ab:=by
 unfold DH at h;have no:¬ ([x]=l):=λz=>by rw[<-z]at hl;simp at hl
 by_cases h1:(decide (x.length<y.length)||decide (DD x<DD y))=Ab
 .rw[Au h1]at h;exact absurd h no
 .rw[Ay h1]at h;by_cases h2:(DB x y 0 x.length (x.length+1)).isEmpty=Ab
  .rw[Au h2]at h;exact absurd h no
  .rw[Ay h2]at h;unfold IV;rw[h,hl,Am];exact⟨GK.mpr (by omega),rfl⟩
noncomputable def Hk(a:Ag):An:=(BR 11).all λb=>(BR 11).all λc=>DH (jn a b c) sp7==[dg a,dg b,dg c]
theorem tA0:Hk 0=Ab:=by decide+kernel
theorem tA1:Hk 1=Ab:=by decide+kernel
theorem tA2:Hk 2=Ab:=by decide+kernel
theorem tA3:Hk 3=Ab:=by decide+kernel
theorem tA4:Hk 4=Ab:=by decide+kernel
theorem tA5:Hk 5=Ab:=by decide+kernel
theorem tA6:Hk 6=Ab:=by decide+kernel
theorem tA7:Hk 7=Ab:=by decide+kernel
theorem tA8:Hk 8=Ab:=by decide+kernel
theorem tA9:Hk 9=Ab:=by decide+kernel
theorem yS:Hk 10=Ab:=by decide+kernel
theorem uL:∀ a:Ag,a<11->Hk a=Ab
 |0,_=>tA0
 |1,_=>tA1
 |2,_=>tA2
 |3,_=>tA3
 |4,_=>tA4
 |5,_=>tA5
 |6,_=>tA6
 |7,_=>tA7
 |8,_=>tA8
 |9,_=>tA9
 |10,_=>yS
 |n+11,h=>absurd h (by omega)
noncomputable def LP:E:=(.bi .str (.cons (.var 1) .nil))
noncomputable def P0:Df:=⟨2,Af,(.cons (.ret (.bi .sjoin (.cons (.str (Aj " ")) (.cons (.comp LP 1 (.e (.var 0)) DL) .nil)))) .nil)⟩
noncomputable def NH:Ss:=(.cons (.ife (.cmp .Eq (.var 1) (.bi .str (.cons (.var 2) .nil))) (.cons (.ret (.var 2)) .nil) .nil) .nil)
noncomputable def Pw:Df:=⟨3,Af,(.cons (.fors 2 (.rng (.var 0)) NH) (.cons (.ret .non) .nil))⟩
noncomputable def Pp:E:=(.call 33 (.cons (.var 0) (.cons (.var 3) .nil)))
noncomputable def MK:Df:=⟨4,Af,(.cons (.asg 2 Af (.comp Pp 3 (.e (.var 1)) DL)) (.cons (.ife (.cmp .In .non (.var 2)) (.cons (.ret .non) .nil) .nil) (.cons (.ret (.var 2)) .nil)))⟩
noncomputable def Z_8:Df:=⟨1,Af,(.cons (.ret (.ofl (.var 0) (Aj "triple"))) .nil)⟩
noncomputable def Pj:Df:=⟨1,Af,(.cons (.ret (.bin .Add (.bin .Add (.str (Aj "(")) (.call 25 (.cons (.ofl (.var 0) (Aj "triple")) .nil))) (.str (Aj ")")))) .nil)⟩
structure TxF (a b c:Ag):Prop where
 jo:J4 sp7 [dg a,dg b,dg c]=Ab
 spl:DH (jn a b c) sp7=[dg a,dg b,dg c]
 spo:IV (jn a b c) sp7=Ab
 ln:(jn a b c).length<=10
 cut:∀ s,JN (tx s a b c) (Aa 1) (Aa (-1))=jn a b c
 tl:∀ s,(tx s a b c).length<=20
 i0:∀ s,G3 (.str (tx s a b c)) (.int 0)=.ok (.str (br0 s))
 i1:∀ s,G3 (.str (tx s a b c)) (.int (-1))=.ok (.str (br1 s))
theorem txf{a b c:Ag}(ha:a<11)(hb:b<11)(hc:c<11):TxF a b c:=by
 have h:=uL a ha;unfold Hk at h;rw[Bh]at h;have h:=h b (CU.mpr hb);rw[Bh]at h;have h:=eq_of_beq (h c (CU.mpr hc));have j:=jf (Rg a) (Rg b) (Rg c);have ln:(jn a b c).length<=10:=j.ln;have tw:∀ s,∃ b' d',tx s a b c=(⟨#[b']⟩:Ah)++Eo sp7 [dg a,dg b,dg c]++⟨#[d']⟩/\br0 s=⟨#[b']⟩/\br1 s=⟨#[d']⟩:=λs=>by
  obtain⟨b',e1⟩:=mY s;obtain⟨d',e2⟩:=mX s;exact⟨b',d',by unfold tx;rw[e1,e2];rfl,e1,e2⟩
 refine⟨j.jo,h,tH h rfl (by omega),ln,λs=>?_,λs=>?_,λs=>?_,λs=>?_⟩<;>obtain⟨b',d',e,e1,e2⟩:=tw s
 .rw[e];exact j.cut b' d'
 .rw[e];exact j.tl b' d'
 .rw[e,e1];exact j.i0 b' d'
 .rw[e,e2];exact j.i1 b' d'
noncomputable def jq(q:R3):Ah:=jn q.1.toNat q.2.1.toNat q.2.2.toNat
noncomputable def tq(s:An)(q:R3):Ah:=tx s q.1.toNat q.2.1.toNat q.2.2.toNat
theorem QV(hp:P4 p)(h:zq p q):TxF q.1.toNat q.2.1.toNat q.2.2.toNat:=by
 have:=hp.hi;obtain⟨⟨a0,a1⟩,⟨b0,b1⟩,c0,c1⟩:=h;exact txf (by omega) (by omega) (by omega)
theorem Ob(h0:0<=x)(h1:x<11):zr .str [.int x]=.ok (.str (dg x.toNat)):=by
 obtain⟨n,rfl⟩:=FX h0;show (if Lu (n:Ai)=Ab then R.ok (D.str (Aj (toString (n:Ai)))) else .bad)=_
 have:Lu (n:Ai)=Ab:=by unfold Lu;simp;omega
 rw[Au this,oV n (by omega)]
 rfl
theorem UW(hp:P4 p)(h:zq p q):zr .str [.int q.1]=.ok (.str (dg q.1.toNat))/\zr .str [.int q.2.1]=.ok (.str (dg q.2.1.toNat))/\zr .str [.int q.2.2]=.ok (.str (dg q.2.2.toNat)):=by
 have:=hp.hi;obtain⟨⟨a0,a1⟩,⟨b0,b1⟩,c0,c1⟩:=h;exact⟨Ob a0 (by omega),Ob b0 (by omega),Ob c0 (by omega)⟩
theorem Wd(hp:P4 p)(h:zq p q):zr .sjoin [.str (Aj " "),.lst [.str (dg q.1.toNat),.str (dg q.2.1.toNat),.str (dg q.2.2.toNat)]]=.ok (.str (jq q)):=by
 show (if J4 sp7 [dg q.1.toNat,dg q.2.1.toNat,dg q.2.2.toNat]=Ab then R.ok (D.str (Eo sp7 [dg q.1.toNat,dg q.2.1.toNat,dg q.2.2.toNat])) else .bad)=_
 rw[Au (QV hp h).jo];rfl
theorem rF(s:An):(br0 s).length=1/\(br1 s).length=1:=by cases s<;>exact⟨rfl,rfl⟩
theorem sz7(h:n<=1000):Db n=Ab:=GK.mpr (by omega)
theorem WX(hp:P4 p)(h:zq p q)(s:An):Dm .Add (.str (br0 s)) (.str (jq q))=.ok (.str (br0 s++jq q))/\Dm .Add (.str (br0 s++jq q)) (.str (br1 s))=.ok (.str (tq s q)):=by
 have t:=QV hp h;have l:=rF s;have lj:(jq q).length<=10:=t.ln;have la:(br0 s++jq q).length=(br0 s).length+(jq q).length:=Array.size_append;rw[La,La,Au (sz7 (by omega)),Au (sz7 (by omega))]
 exact⟨rfl,rfl⟩
section
variable{Z:Z4}
def Vx(Z:Z4):Prop:=∀(p:Ai)(q:R3),P4 p->zq p q->Z.F 25 [Av Ab q]=.ok (.str (jq q))
theorem oA(Z:Z4)(p:Ai)(q:R3)(hp:P4 p)(h:zq p q):P0.run Z [Av Ab q]=.ok (.str (jq q)):=by
 obtain⟨s0,s1,s2⟩:=UW hp h;have e:Cu (cG Z [sh (Av Ab q),Ae] 1 DL) (cF Z [sh (Av Ab q),Ae] 1 LP) [.int q.1,.int q.2.1,.int q.2.2]=.ok [.str (dg q.1.toNat),.str (dg q.2.1.toNat),.str (dg q.2.2.toNat)]:=by
  simp[Cu,cG,cF,DL,LP,s0,s1,s2]
 have j:=Wd hp h;have sq:=QI Ab q;generalize Av Ab q=Q at *;simp[P0,Df.run,Bw,sq,e,j]
noncomputable def cl7(s:An):Ag:=if s=Ab then 2 else 1
noncomputable def qi(p:Ai)(s:An)(q:R3):D:=.obj (cl7 s) [("p",.int p),("triple",Av Ab q)]
theorem vN(p:Ai)(s:An)(q:R3):Õ (qi p s q) (Aj "triple")=.ok (Av Ab q):=rfl
theorem wI(hr:Vx Z)(p:Ai)(q:R3)(hp:P4 p)(h:zq p q):Pj.run Z [qi p Af q]=.ok (.str (tq Af q)):=by
 have e:=vN p Af q;have r:=hr p q hp h;obtain⟨a1,a2⟩:=WX hp h Af;have b0:br0 Af=Aj "(" := rfl
 have b1:br1 Af=Aj ")" := rfl
 rw[b0]at a1 a2;rw[b1]at a2;generalize qi p Af q=o,Av Ab q=Q at *;simp[Pj,Df.run,Bw,e,r,a1,a2,-La]
def Fm(p:Ai)(q a:R3):Prop:=∃ l u,Ef p (oi q)=Aa l/\JK p l u/\m6 p u (oi q)=oi a
def Wq(Z:Z4):Prop:=∀(p:Ai)(b:An)(q a:R3),P4 p->Fm p q a->Z.F 910 [.int p,Av b q]=.ok (.tup [.int p,Av Ab a])
theorem Wf(hf:NZ Z)(b:An)(hp:P4 p)(h:Fm p q a):Z.F 17 [.int p,Av b q]=.ok (Av Ab a):=by
 obtain⟨l,u,h1,h2,h3⟩:=h;have e:=hf p b (oi q) l u hp h1 h2
 rwa [h3]at e
theorem wP(hf:NZ Z)(p:Ai)(b:An)(q a:R3)(hp:P4 p)(h:Fm p q a):kx.run Z [.int p,Av b q]=.ok (.tup [.int p,Av Ab a]):=by
 have e:=Wf hf b hp h;generalize Av b q=Q,Av Ab a=A at *;simp[kx,Df.run,Bw,e]
theorem wO(hi:Wq Z)(c:Ag)(p:Ai)(b:An)(q a:R3)(hp:P4 p)(h:Fm p q a):(uh c).run Z [.int p,Av b q]=.ok (.obj c [("p",.int p),("triple",Av Ab a)]):=by
 have e:=hi p b q a hp h;have m:ET c (.tup [.int p,Av Ab a])=.ok (.obj c [("p",.int p),("triple",Av Ab a)]):=rfl;generalize Av b q=Q,Av Ab a=A at *;simp[uh,Df.run,Bw,e,m,zk]
end
noncomputable def zm(t:An):Ah:=if t=Ab then Aj "take" else Aj "put"
noncomputable def vz(t:An)(a b c:Ag):Ah:=zm t++sp7++jn a b c
noncomputable def Hh(t:An)(a:Ag):An:=(BR 11).all λb=>(BR 11).all λc=>(DH (vz t a b c) sp7==[zm t,dg a,dg b,dg c])&&CF (vz t a b c).length 20
theorem tB0:∀ t,Hh t 0=Ab:=by decide+kernel
theorem tB1:∀ t,Hh t 1=Ab:=by decide+kernel
theorem tB2:∀ t,Hh t 2=Ab:=by decide+kernel
theorem tB3:∀ t,Hh t 3=Ab:=by decide+kernel
theorem tB4:∀ t,Hh t 4=Ab:=by decide+kernel
theorem tB5:∀ t,Hh t 5=Ab:=by decide+kernel
theorem tB6:∀ t,Hh t 6=Ab:=by decide+kernel
theorem tB7:∀ t,Hh t 7=Ab:=by decide+kernel
theorem tB8:∀ t,Hh t 8=Ab:=by decide+kernel
theorem tB9:∀ t,Hh t 9=Ab:=by decide+kernel
theorem yQ:∀ t,Hh t 10=Ab:=by decide+kernel
theorem lV(t:An):∀ a:Ag,a<11->Hh t a=Ab
 |0,_=>tB0 t
 |1,_=>tB1 t
 |2,_=>tB2 t
 |3,_=>tB3 t
 |4,_=>tB4 t
 |5,_=>tB5 t
 |6,_=>tB6 t
 |7,_=>tB7 t
 |8,_=>tB8 t
 |9,_=>tB9 t
 |10,_=>yQ t
 |n+11,h=>absurd h (by omega)
theorem pC{a b c:Ag}(ha:a<11)(hb:b<11)(hc:c<11):DH (vz t a b c) sp7=[zm t,dg a,dg b,dg c]/\(vz t a b c).length<=20:=by
 have h:=lV t a ha;unfold Hh at h;rw[Bh]at h;have h:=h b (CU.mpr hb);rw[Bh]at h;have h:=h c (CU.mpr hc);rw[Am]at h;exact⟨eq_of_beq h.1,AR h.2⟩
theorem cs9{a b c:Ag}(ha:a<11)(hb:b<11)(hc:c<11):zr .ssplit [.str (vz t a b c),.str sp7]=.ok (.lst [.str (zm t),.str (dg a),.str (dg b),.str (dg c)]):=by
 obtain⟨e,hl⟩:=pC (t:=t) ha hb hc;have so:IV (vz t a b c) sp7=Ab:=by
  unfold DH at e;have no:¬ ([vz t a b c]=[zm t,dg a,dg b,dg c]):=λz=>by simp at z
  by_cases h1:(decide ((vz t a b c).length<sp7.length)||decide (DD (vz t a b c)<DD sp7))=Ab
  .rw[Au h1]at e;exact absurd e no
  .rw[Ay h1]at e;by_cases h2:(DB (vz t a b c) sp7 0 (vz t a b c).length ((vz t a b c).length+1)).isEmpty=Ab
   .rw[Au h2]at e;exact absurd e no
   .rw[Ay h2]at e;unfold IV;rw[e,Am];exact⟨GK.mpr (by omega),rfl⟩
 show (if (!(sp7.length==0)&&IV (vz t a b c) sp7)=Ab then R.ok (D.lst ((DH (vz t a b c) sp7).map D.str)) else .bad)=_
 rw[Au (by rw[so];rfl),e]
 rfl
theorem xL:zr .ssplit [.str (Aj "points"),.str sp7]=.ok (.lst [.str (Aj "points")]):=by kernel_rfl
theorem Ws:zr .ssplit [.str (Aj "undo"),.str sp7]=.ok (.lst [.str (Aj "undo")]):=by kernel_rfl
section
variable{Z:Z4}
theorem Wa{body:D->Rho->O}(I:Rho->Prop)(x:Ag):∀(l:Ac Ag),(∀ j∈l,∀ U,I U->(j=x->body (.int (j:Ai)) U=.ret (.int (x:Ai)) Af)/\(j≠x->∃ U',body (.int (j:Ai)) U=.next U'/\I U'))->x∈l->∀ U,I U->Fo body (l.map fun(k:Ag)=>D.int (k:Ai)) U=.ret (.int (x:Ai)) Af
 |[],_,hx,_,_=>absurd hx (by simp)
 |j::l,h,hx,U,hI=>by
  obtain⟨h1,h2⟩:=h j (AY ..) U hI;show (body (.int (j:Ai)) U).turn _=_;by_cases e:j=x
  .rw[h1 e];rfl
  .obtain⟨U',e1,I'⟩:=h2 e;rw[e1];exact Wa I x l (λk hk=>h k (AE _ hk)) ((A6.mp hx).resolve_left (CG e)) U' I'
def Wp(Z:Z4):Prop:=∀(p x:Ai),P4 p->0<=x->x<p->Z.F 33 [.int p,.str (dg x.toNat)]=.ok (.int x)
theorem wM(Z:Z4)(p x:Ai)(hp:P4 p)(h0:0<=x)(h1:x<p):Pw.run Z [.int p,.str (dg x.toNat)]=.ok (.int x):=by
 have ph:=hp.hi;have pp:=hp.pos;obtain⟨n,rfl⟩:=FX h0;have hn:n<11:=by omega
 have tn:((n:Ai)).toNat=n:=rfl;rw[tn];have rg:FK 0 p=.ok ((BR p.toNat).map fun(k:Ag)=>D.int (k:Ai)):=by
  rw[bO (by omega) (by omega)]
  simp[Iv]
 have key:=Wa (body:=EV Z 2 NH) (λU=>∃ s,U=[si p,sh (.str (dg n)),s]) n (BR p.toNat) (by
  rintro j hj U ⟨s,rfl⟩;have ix:=CU.mp hj;have jl:j<11:=by omega
  have st:zr .str [.int (j:Ai)]=.ok (.str (dg j)):=Ob (by omega) (by omega)
  have eq:(dg n==dg j)=(n==j):=rW n hn j jl;refine⟨λe=>?_,λe=>⟨[si p,sh (.str (dg n)),si (j:Ai)],?_,_,rfl⟩⟩
  .subst e;generalize dg j=dj at *;simp[EV,NH,st,Fn]
  .have ne:dg n≠dg j:=λz=>by
    rw[z]at eq;have:(n==j)=Ab:=by rw[<-eq];simp
    exact e (by have:=eq_of_beq this;exact this.symm)
   generalize dg j=dj,dg n=dn at *;simp[EV,NH,st,ne]) (CU.mpr (by omega)) [si p,sh (.str (dg n)),Ae] ⟨_,rfl⟩
 generalize dg n=dn at *;simp[Pw,Df.run,Bw,rg,key]
theorem nZ(hr:Wp Z)(p:Ai)(q:R3)(hp:P4 p)(h:zq p q):MK.run Z [.int p,.lst [.str (dg q.1.toNat),.str (dg q.2.1.toNat),.str (dg q.2.2.toNat)]]=.ok (Av Af q):=by
 have e1:=hr p q.1 hp h.1.1 h.1.2;have e2:=hr p q.2.1 hp h.2.1.1 h.2.1.2;have e3:=hr p q.2.2 hp h.2.2.1 h.2.2.2;generalize dg q.1.toNat=d1,dg q.2.1.toNat=d2,dg q.2.2.toNat=d3 at *;have e:Cu (cG Z [si p,sh (.lst [.str d1,.str d2,.str d3]),Ae,Ae] 3 DL) (cF Z [si p,sh (.lst [.str d1,.str d2,.str d3]),Ae,Ae] 3 Pp) [.str d1,.str d2,.str d3]=.ok [.int q.1,.int q.2.1,.int q.2.2]:=by
  simp[Cu,cG,cF,DL,Pp,e1,e2,e3]
 have ci:Cq .In .non (.lst [.int q.1,.int q.2.1,.int q.2.2])=.ok (.bl Af):=rfl;simp[MK,Df.run,Bw,e,ci];rfl
abbrev Th:=An×R3×Ai
end
def Thv(p:Ai)(t:Th):Prop:=NF p t.2.1/\1<=t.2.2/\t.2.2<p
noncomputable def á(p:Ai)(t:Th):R3:=(t.2.2*t.2.1.1%p,t.2.2*t.2.1.2.1%p,t.2.2*t.2.1.2.2%p)
theorem Ri(hp:P4 p):JK p 1 1:=by
 have:=hp.lo;exact⟨by omega,by omega,BF (by omega) (by omega)⟩
theorem V9(hp:P4 p)(h:NF p a):Fm p a a:=by
 refine⟨1,1,h.2,Ri hp,?_⟩;obtain⟨⟨⟨a0,a1⟩,⟨b0,b1⟩,c0,c1⟩,_⟩:=h;have e:∀ x:Ai,0<=x->x<p->1*(x%p)%p=x:=λx h0 h1=>by rw[El,Bo _ (Cm p),BF h0 h1]
 simp only[m6,oi,BP,X7,e _ a0 a1,e _ b0 b1,e _ c0 c1]
theorem VJ(hp:P4 p)(t:Th):zq p (á p t):=by
 have p0:=hp.pos;have f:∀ x:Ai,0<=x%p/\x%p<p:=λx=>⟨BY _ (by omega),BU _ p0⟩
 exact⟨f _,f _,f _⟩
theorem pR{t:Th}(hp:P4 p)(h:Thv p t):Fm p (á p t) t.2.1:=by
 obtain⟨hn,f1,f2⟩:=h;have hc:t.2.2%p≠0:=by rw[BF (by omega) f2];omega
 have hl:(1:Ai)%p≠0:=hp.o1;have hf:∀ x:Ai,(t.2.2*x%p)%p=t.2.2*x%p:=λx=>Bo _ (Cm p)
 obtain⟨u,h1,h2⟩:=dQ hp hc hl (Ri hp) (f:=λx=>t.2.2*x%p) hf (oi t.2.1)
 have e:=Qa hp hc (f:=λx=>t.2.2*x%p) hf (oi t.2.1)
 rw[hn.2]at e;obtain⟨l',u',g1,g2,g3⟩:=V9 hp hn;rw[hn.2]at g1;cases g1;have:u'=1:=SZ g2 (Ri hp);subst this;exact⟨_,u,e,h1,h2.trans g3⟩
section
variable{Z:Z4}{ns:Ac Ai}{p:Ai}
end
noncomputable def MG:Df:=⟨2,Af,(.cons (.asg 1 Af (.bin .Mod (.var 1) (.bin .Add (.bin .Add (.bin .Mult (.var 0) (.var 0)) (.var 0)) (.int 1)))) (.cons (.ife (.cmp .Eq (.var 1) (.int 0)) (.cons (.ret (.tup (.cons (.int 0) (.cons (.int 0) (.cons (.int 1) .nil))))) .nil) .nil) (.cons (.ife (.cmp .LtE (.var 1) (.var 0)) (.cons (.ret (.tup (.cons (.int 0) (.cons (.int 1) (.cons (.bin .Sub (.var 1) (.int 1)) .nil))))) .nil) .nil) (.cons (.ret (.tup (.cons (.int 1) (.cons (.bin .FloorDiv (.bin .Sub (.bin .Sub (.var 1) (.var 0)) (.int 1)) (.var 0)) (.cons (.bin .Mod (.bin .Sub (.bin .Sub (.var 1) (.var 0)) (.int 1)) (.var 0)) .nil))))) .nil))))⟩
def Vy(Z:Z4):Prop:=∀(p n:Ai),P4 p->Z.F 93 [.int p,.int n]=.ok (Av Ab (ny p (n%(p*p+p+1))))
theorem pN{n:Ai}(hp:P4 p):0<p*p+p+1/\0<=n%(p*p+p+1)/\n%(p*p+p+1)<p*p+p+1:=by
 have p0:=hp.pos;have N0:0<p*p+p+1:=by have:=Int.mul_pos p0 p0;omega
 exact⟨N0,BY n (XG N0),BU n N0⟩
theorem oF(Z:Z4)(p n:Ai)(hp:P4 p):MG.run Z [.int p,.int n]=.ok (Av Ab (ny p (n%(p*p+p+1)))):=by
 have pp:Fj p p=Ab:=M0 (by have:=hp.lo;omega) (by have:=hp.hi;omega)
 have p0:=hp.pos;have ph:=hp.hi;obtain⟨N0,h0,h1⟩:=pN (n:=n) hp;have pb:p<1073741824:=by omega
 generalize hr:n%(p*p+p+1)=r at *;unfold ny;by_cases z0:r=0
 .rw[Au z0];simp[MG,Df.run,Bw,pp,N0,hr,z0];rfl
 .rw[Ay z0];by_cases z1:r<=p
  .rw[Au z1];simp[MG,Df.run,Bw,pp,N0,hr,z0,z1];rfl
  .rw[Ay z1];simp[MG,Df.run,Bw,pp,N0,hr,z0,z1,p0,pb];rfl
def rR(Z:Z4):Prop:=∀(p:Ai)(a b c:R3),P4 p->NF p a->NF p b->NF p c->a≠b->Z.F 75 [.int p,Av Ab a,Av Ab b,Av Ab c]=.ok (.bl Ab)
theorem UT(x:R3)(l:Ac R3):(l.map (Av Ab)).any (λy=>My y (Av Ab x))=decide (x∈l):=by
 induction l with
 |nil=>simp
 |cons y l ih=>
  rw[BP,JR,ih,M3,DM,BX,AG,AG,AG,A6];exact or_congr ⟨NE,NE⟩ Iff.rfl
def rQ(Z:Z4):Prop:=∀(p:Ai)(a b c:R3),P4 p->NF p a->NF p b->NF p c->a≠b->b≠c->c≠a->Lv a b c%p≠0->Z.F 76 [.int p,Av Ab a,Av Ab b,Av Ab c]=.ok (.bl Ab)
structure ï (Z:Z4) (ns:Ac Ai):Prop where
 pr:rP Z ns
 three:lY Z ns
 comm:rR Z
 corn:rQ Z
 meas:mE Z
section
variable{Z:Z4}{ns:Ac Ai}{s1 s2 s3 s4 s5:Sl}
end
noncomputable def NI:Df:=⟨3,Af,(.cons (.asg 2 Af (.int 0)) (.cons (.ife (.cmp .Gt (.bi .len (.cons (.var 0) .nil)) (.int 0)) (.cons (.asg 2 Af (.idx (.var 0) (.bin .Mod (.var 1) (.bi .len (.cons (.var 0) .nil))))) .nil) .nil) (.cons (.ret (.bin .Mod (.bin .Mult (.bin .Mod (.bin .Mult (.bin .Add (.bin .Add (.bin .Mod (.var 2) (.int 1000003)) (.bin .Mult (.int 7919) (.var 1))) (.int 11)) (.int 48271)) (.int 1000033)) (.int 69621)) (.int 999983))) .nil)))⟩
noncomputable def Ph:Df:=⟨1,Af,(.cons (.ret (.idx (.lst (.cons (.int 3) (.cons (.int 5) (.cons (.int 7) (.cons (.int 11) .nil))))) (.bin .Mod (.call 354 (.cons (.var 0) (.cons (.int 0) .nil))) (.int 4)))) .nil)⟩
noncomputable def PX:Df:=⟨2,Af,(.cons (.ret (.bi .sjoin (.cons (.str (Aj " ")) (.cons (.comp LP 1 (.e (.var 0)) DL) .nil)))) .nil)⟩
noncomputable def Po:Df:=⟨1,Af,(.cons (.ret (.bin .Add (.bin .Add (.str (Aj "(")) (.call 357 (.cons (.var 0) .nil))) (.str (Aj ")")))) .nil)⟩
noncomputable def Pq:E:=(.bin .Mod (.bin .Mult (.var 4) (.var 3)) (.var 0))
noncomputable def Px:Df:=⟨5,Af,(.cons (.asg 3 Af (.bin .Add (.int 1) (.bin .Mod (.var 2) (.bin .Sub (.var 0) (.int 1))))) (.cons (.ret (.call 357 (.cons (.comp Pq 4 (.e (.var 1)) DL) .nil))) .nil))⟩
noncomputable def Gp:Df:=⟨6,Af,(.cons (.asg 4 Af (.call 354 (.cons (.var 0) (.cons (.var 2) .nil)))) (.cons (.ife (.and (.cons (.cmp .Eq (.bin .Mod (.call 354 (.cons (.var 0) (.cons (.int 62) .nil))) (.int 3)) (.int 0)) (.cons (.cmp .Lt (.var 2) (.int 45)) (.cons (.cmp .Lt (.bin .Mod (.var 4) (.int 8)) (.int 7)) .nil)))) (.cons (.ret (.tup (.cons (.str (Aj "put")) (.cons (.call 93 (.cons (.var 1) (.cons (.bin .Add (.bin .Mult (.int 5) (.var 2)) (.call 354 (.cons (.var 0) (.cons (.int 63) .nil)))) .nil))) .nil)))) .nil) .nil) (.cons (.asg 5 Af (.call 93 (.cons (.var 1) (.cons (.bin .Mod (.bin .FloorDiv (.var 4) (.int 64)) (.idx (.lst (.cons (.int 12) (.cons (.int 133) .nil))) (.bin .Mod (.bin .FloorDiv (.var 4) (.int 8)) (.int 2)))) .nil)))) (.cons (.ife (.cmp .Lt (.bin .Mod (.var 4) (.int 8)) (.int 5)) (.cons (.ret (.tup (.cons (.str (Aj "put")) (.cons (.var 5) .nil)))) .nil) .nil) (.cons (.ife (.and (.cons (.cmp .Eq (.bin .Mod (.var 4) (.int 8)) (.int 5)) (.cons (.cmp .NotEq (.bi .len (.cons (.bi .list (.cons (.var 3) .nil)) .nil)) (.int 0)) (.cons (.cmp .Gt (.bin .Mod (.bin .FloorDiv (.var 4) (.int 16)) (.int 4)) (.int 0)) .nil)))) (.cons (.ret (.tup (.cons (.str (Aj "take")) (.cons (.idx (.var 3) (.bin .Mod (.bin .FloorDiv (.var 4) (.int 64)) (.bi .len (.cons (.var 3) .nil)))) .nil)))) .nil) .nil) (.cons (.ret (.tup (.cons (.idx (.lst (.cons (.str (Aj "take")) (.cons (.str (Aj "undo")) (.cons (.str (Aj "points")) .nil)))) (.bin .Sub (.bin .Mod (.var 4) (.int 8)) (.int 5))) (.cons (.var 5) .nil)))) .nil))))))⟩
noncomputable def MF:E:=(.call 358 (.cons (.var 4) .nil))
noncomputable def GW:Df:=⟨5,Af,(.cons (.ife (.and (.cons (.cmp .Eq (.var 0) (.str (Aj "put"))) (.cons (.cmp .In (.var 1) (.var 2)) .nil))) (.cons (.ret (.tup (.cons (.str (Aj "alike")) (.cons .non .nil)))) .nil) .nil) (.cons (.ife (.and (.cons (.cmp .Eq (.var 0) (.str (Aj "put"))) (.cons (.cmp .Eq (.bi .len (.cons (.var 2) .nil)) (.int 30)) .nil))) (.cons (.ret (.tup (.cons (.str (Aj "many")) (.cons .non .nil)))) .nil) .nil) (.cons (.ife (.and (.cons (.cmp .Eq (.var 0) (.str (Aj "take"))) (.cons (.cmp .NotIn (.var 1) (.var 2)) .nil))) (.cons (.ret (.tup (.cons (.str (Aj "not on")) (.cons .non .nil)))) .nil) .nil) (.cons (.ife (.and (.cons (.cmp .Eq (.var 0) (.str (Aj "undo"))) (.cons (.no (.cmp .NotEq (.bi .len (.cons (.bi .list (.cons (.var 3) .nil)) .nil)) (.int 0))) .nil))) (.cons (.ret (.tup (.cons (.str (Aj "nothing")) (.cons .non .nil)))) .nil) .nil) (.cons (.ife (.cmp .Eq (.var 0) (.str (Aj "points"))) (.cons (.ret (.tup (.cons (.str (Aj "told")) (.cons (.comp MF 4 (.e (.var 2)) DL) .nil)))) .nil) .nil) (.cons (.ife (.cmp .Eq (.var 0) (.str (Aj "put"))) (.cons (.ret (.tup (.cons (.str (Aj "told")) (.cons (.lst (.cons (.bi .str (.cons (.bin .Add (.bi .len (.cons (.var 2) .nil)) (.int 1)) .nil)) .nil)) .nil)))) .nil) .nil) (.cons (.ife (.cmp .Eq (.var 0) (.str (Aj "take"))) (.cons (.ret (.tup (.cons (.str (Aj "told")) (.cons (.lst (.cons (.bi .str (.cons (.bin .Sub (.bi .len (.cons (.var 2) .nil)) (.int 1)) .nil)) .nil)) .nil)))) .nil) .nil) (.cons (.ret (.tup (.cons (.str (Aj "told")) (.cons (.lst (.cons (.bi .str (.cons (.bi .len (.cons (.idx (.var 3) (.un .USub (.int 1))) .nil)) .nil)) .nil)) .nil)))) .nil))))))))⟩
noncomputable def Sc:E:=(.isi (.var 1) [.str])
noncomputable def Pf:Df:=⟨2,Af,(.cons (.ret (.and (.cons (.isi (.var 0) [.list]) (.cons (.bi .all (.cons (.comp Sc 1 (.e (.var 0)) DL) .nil)) .nil)))) .nil)⟩
noncomputable def MH:Df:=⟨3,Af,(.cons (.asg 1 Af (.lst (.cons (.isi (.var 0) [.cls 12]) (.cons (.isi (.var 0) [.cls 3]) (.cons (.isi (.var 0) [.cls 5]) (.cons (.isi (.var 0) [.cls 107]) .nil)))))) (.cons (.asg 1 Af (.bin .Add (.var 1) (.lst (.cons (.isi (.var 0) [.cls 108]) (.cons (.isi (.var 0) [.cls 15]) (.cons (.isi (.var 0) [.cls 17]) .nil)))))) (.cons (.asg 1 Af (.bin .Add (.var 1) (.lst (.cons (.isi (.var 0) [.cls 13]) (.cons (.isi (.var 0) [.cls 118]) (.cons (.isi (.var 0) [.cls 14]) .nil)))))) (.cons (.asg 2 Af (.lst (.cons (.str (Aj "row")) (.cons (.str (Aj "triple")) (.cons (.str (Aj "curve")) (.cons (.str (Aj "alike")) (.cons (.str (Aj "not on")) (.cons (.str (Aj "many")) (.cons (.str (Aj "nothing")) (.cons (.str (Aj "count")) (.cons (.str (Aj "line")) (.cons (.str (Aj "not whole")) .nil)))))))))))) (.cons (.ife (.or (.cons (.cmp .NotEq (.bi .count (.cons (.var 1) (.cons (.bl Ab) .nil))) (.int 1)) (.cons (.no (.isi (.var 0) [.verr])) .nil))) (.cons (.ret (.str (Aj "none of these"))) .nil) .nil) (.cons (.ret (.idx (.var 2) (.bi .index (.cons (.var 1) (.cons (.bl Ab) .nil))))) .nil))))))⟩
noncomputable def MV:Df:=⟨2,Af,(.cons (.ife (.cmp .Eq (.bi .len (.cons (.var 1) .nil)) (.int 3)) (.cons (.ret (.call 17 (.cons (.var 0) (.cons (.var 1) .nil)))) .nil) .nil) (.cons (.ife (.cmp .Eq (.bi .len (.cons (.var 1) .nil)) (.int 6)) (.cons (.expr (.bi .len .nil)) .nil) .nil) (.cons (.ret .non) .nil)))⟩
noncomputable def MU:Df:=⟨2,Ab,(.cons (.ife (.cmp .In (.var 1) (.var 0)) (.cons (.rais 107 (.cons (.var 1) .nil)) .nil) .nil) (.cons (.ife (.cmp .GtE (.bi .len (.cons (.var 0) .nil)) (.glob 5)) (.cons (.rais 15 (.cons (.str (Aj "there are thirty points already")) .nil)) .nil) .nil) (.cons (.ret (.bin .Add (.var 0) (.lst (.cons (.var 1) .nil)))) .nil)))⟩
noncomputable def NG:E:=(.cmp .NotEq (.var 2) (.var 1))
noncomputable def Ps:E:=(.var 2)
noncomputable def NK:Df:=⟨3,Ab,(.cons (.ife (.cmp .NotIn (.var 1) (.var 0)) (.cons (.rais 108 (.cons (.var 1) .nil)) .nil) .nil) (.cons (.ret (.comp Ps 2 (.e (.var 0)) NG)) .nil))⟩
noncomputable def ME:E:=(.meth (Aj "shown") [(1,931)] (.mkn 1 (.cons (.var 0) (.cons (.var 2) .nil))))
noncomputable def Pi:Df:=⟨3,Ab,(.cons (.ret (.comp ME 2 (.e (.var 1)) DL)) .nil)⟩
section
variable{Z:Z4}{ns:Ac Ai}
theorem iG(Z:Z4)(ns:Ac Ai)(k:Ai)(h0:0<=k):∃ m,0<=m/\NI.run Z [scr ns,.int k]=.ok (.int m):=by
 have m1:Fj 7919 k=Ab:=M0 (by decide) (by decide)
 have m2:∀ x,Fj x 48271=Ab:=λx=>N5 (by decide) (by decide)
 have m3:∀ x,Fj x 69621=Ab:=λx=>N5 (by decide) (by decide)
 by_cases h1:(0:Ai)<ns.length
 .have g:=kP (ns:=ns) (k:=k%ns.length) (BY _ (by omega)) (BU _ h1)
  generalize ns.getD (k%(ns.length:Ai)).toNat 0=x at g;refine⟨(x%1000003+7919*k+11)*48271%1000033*69621%999983,BY _ (by decide),?_⟩
  have h1n:0<ns.length:=by omega
  simp[NI,Df.run,Bw,h1n,g,m1,m2,m3]
 .refine⟨(0%1000003+7919*k+11)*48271%1000033*69621%999983,BY _ (by decide),?_⟩
  have h1n:¬ 0<ns.length:=by omega
  simp[NI,Df.run,Bw,h1n,m1,m2,m3]
theorem oG(h:Oj Z 354 ns):∃ p,P4 p/\Ph.run Z [scr ns]=.ok (.int p):=by
 obtain⟨m,m0,e⟩:=h 0 (by decide)
 refine⟨_,oR m,?_⟩;simp[Ph,Df.run,Bw,e,fE]
def Rx(Z:Z4):Prop:=∀(p:Ai)(b:An)(q:R3),P4 p->zq p q->Z.F 357 [Av b q]=.ok (.str (jq q))
theorem wE(Z:Z4)(p:Ai)(b:An)(q:R3)(hp:P4 p)(h:zq p q):PX.run Z [Av b q]=.ok (.str (jq q)):=by
 obtain⟨s0,s1,s2⟩:=UW hp h;have e:Cu (cG Z [sh (Av b q),Ae] 1 DL) (cF Z [sh (Av b q),Ae] 1 LP) [.int q.1,.int q.2.1,.int q.2.2]=.ok [.str (dg q.1.toNat),.str (dg q.2.1.toNat),.str (dg q.2.2.toNat)]:=by
  simp[Cu,cG,cF,DL,LP,s0,s1,s2]
 have j:=Wd hp h;have sq:=QI b q;generalize Av b q=Q at *;simp[PX,Df.run,Bw,sq,e,j]
def Ry(Z:Z4):Prop:=∀(p:Ai)(q:R3),P4 p->zq p q->Z.F 358 [Av Ab q]=.ok (.str (tq Af q))
theorem wN(hr:Rx Z)(p:Ai)(q:R3)(hp:P4 p)(h:zq p q):Po.run Z [Av Ab q]=.ok (.str (tq Af q)):=by
 have r:=hr p Ab q hp h;obtain⟨a1,a2⟩:=WX hp h Af;have b0:br0 Af=Aj "(" := rfl
 have b1:br1 Af=Aj ")" := rfl
 rw[b0]at a1 a2;rw[b1]at a2;generalize Av Ab q=Q at *;simp[Po,Df.run,Bw,r,a1,a2,-La]
def xC(Z:Z4):Prop:=∀(p m:Ai)(q:R3),P4 p->0<=m->NF p q->∃ a,zq p a/\Fm p a q/\Z.F 359 [.int p,Av Ab q,.int m]=.ok (.str (jq a))
theorem wK(hr:Rx Z)(p m:Ai)(q:R3)(hp:P4 p)(m0:0<=m)(h:NF p q):∃ a,zq p a/\Fm p a q/\Px.run Z [.int p,Av Ab q,.int m]=.ok (.str (jq a)):=by
 have lo:=hp.lo;have hi:=hp.hi;have t0:0<=m%(p-1):=BY _ (by omega)
 have t1:m%(p-1)<p-1:=BU _ (by omega)
 have hv:Thv p (Af,q,1+m%(p-1)):=⟨h,by show 1<=1+m%(p-1);omega,by show 1+m%(p-1)<p;omega⟩
 refine⟨á p (Af,q,1+m%(p-1)),VJ hp _,pR hp hv,?_⟩;have r:=hr p Af _ hp (VJ hp (Af,q,1+m%(p-1)));have pm:0<p-1:=by omega
 have p0:=hp.pos;generalize ht:1+m%(p-1)=t at *;have mo:∀ x,Fj x t=Ab:=λx=>N5 (by omega) (by omega)
 have cm:∀ x:Ai,x*t%p=t*x%p:=λx=>by rw[GE]
 have e:Cu (cG Z [si p,sh (Av Ab q),si m,si t,Ae] 4 DL) (cF Z [si p,sh (Av Ab q),si m,si t,Ae] 4 Pq) [.int q.1,.int q.2.1,.int q.2.2]=.ok [.int (t*q.1%p),.int (t*q.2.1%p),.int (t*q.2.2%p)]:=by
  simp[Cu,cG,cF,DL,Pq,mo,p0,cm]
 have sq:=QI Ab q;have r':Z.F 357 [.lst [.int (t*q.1%p),.int (t*q.2.1%p),.int (t*q.2.2%p)]]=.ok (.str (jq (á p (Af,q,t)))):=r;generalize Av Ab q=Q at *;have p1:1<p:=by omega
 simp[Px,Df.run,Bw,p1,ht,sq,e,r']
end
section
variable{Z:Z4}{ns:Ac Ai}{p:Ai}
theorem nf9(hp:P4 p)(n:Ai):NF p (ny p (n%(p*p+p+1))):=let ⟨_,h0,h1⟩:=pN (n:=n) hp;wT hp h0 h1
def Ϻ(w:Ah):Prop:=w=Aj "put"\/w=Aj "take"\/w=Aj "undo"\/w=Aj "points"
theorem i12(m:Ai):∃ a,0<a/\G3 (.lst [.int 12,.int 133]) (.int (m%2))=.ok (.int a):=by
 have h0:0<=m%2:=BY _ (by decide)
 have h1:m%2<2:=BU _ (by decide)
 rcases (show m%2=0\/m%2=1 by omega) with e|e<;>rw[e]
 .exact⟨12,by decide,rfl⟩
 .exact⟨133,by decide,rfl⟩
noncomputable def A9(l:Ac R3):D:=.lst (l.map (Av Ab))
theorem iw9{m:Ai}(h0:5<=m%8)(h1:m%8<8):∃ w,Ϻ w/\G3 (.lst [.str (Aj "take"),.str (Aj "undo"),.str (Aj "points")]) (.int (m%8-5))=.ok (.str w):=by
 rcases (show m%8=5\/m%8=6\/m%8=7 by omega) with e|e|e<;>rw[e]
 .exact⟨_,.inr (.inl rfl),rfl⟩
 .exact⟨_,.inr (.inr (.inl rfl)),rfl⟩
 .exact⟨_,.inr (.inr (.inr rfl)),rfl⟩
theorem ix9{l:Ac R3}{n:Ai}(h:l≠[]):∃ q∈l,G3 (A9 l) (.int (n%(l.length:Ai)))=.ok (Av Ab q):=by
 have hl:(0:Ai)<l.length:=by
  cases l with
  |nil=>exact absurd rfl h
  |cons x r=>simp
 have h0:=BY n (XG hl);have h1:=BU n hl;generalize n%(l.length:Ai)=k at h0 h1;obtain⟨j,rfl⟩:=FX h0;have hj:j<l.length:=by omega
 refine⟨l[j],EM hj,?_⟩;show DU (l.map (Av Ab)) (j:Ai)=_;unfold DU qj;rw[Au h0,Bc,Au h1];simp[hj]
theorem ls9(l:Ac R3):zr .list [A9 l]=.ok (A9 l):=rfl
theorem i7(l:Ac R3):zr .len [A9 l]=.ok (.int l.length):=by
 show R.ok (D.int (l.map (Av Ab)).length)=_;rw[Bc]
def xB(Z:Z4)(ns:Ac Ai):Prop:=∀(p k:Ai)(l:Ac R3),P4 p->0<=k->(∀ q∈l,NF p q)->∃ w q,Ϻ w/\NF p q/\Z.F 363 [scr ns,.int p,.int k,A9 l]=.ok (.tup [.str w,Av Ab q])
theorem wJ(hm:Oj Z 354 ns)(ht:Vy Z)(p k:Ai)(l:Ac R3)(hp:P4 p)(k0:0<=k)(hl:∀ q∈l,NF p q):∃ w q,Ϻ w/\NF p q/\Gp.run Z [scr ns,.int p,.int k,A9 l]=.ok (.tup [.str w,Av Ab q]):=by
 obtain⟨m,m0,e1⟩:=hm k k0;obtain⟨m2,_,e2⟩:=hm 62 (by decide)
 obtain⟨m3,_,e3⟩:=hm 63 (by decide)
 obtain⟨a,a0,e4⟩:=i12 (m/8);have r0:0<=m%8:=BY _ (by decide)
 have r1:m%8<8:=BU _ (by decide)
 have t1:=ht p (5*k+m3) hp;have t2:=ht p (m/64%a) hp;have n1:=nf9 hp (5*k+m3);have n2:=nf9 hp (m/64%a);have m5:Fj 5 k=Ab:=M0 (by decide) (by decide)
 have a1:¬ a=0:=by omega
 have ab:a<1073741824\/F3:=.inr trivial;generalize ny p ((5*k+m3)%(p*p+p+1))=q1,ny p (m/64%a%(p*p+p+1))=q2 at *;by_cases c1:m2%3=0/\k<45/\m%8<7
 .refine⟨_,q1,.inl rfl,n1,?_⟩;obtain⟨c1,c2,c3⟩:=c1;generalize Av Ab q1=Q1,Av Ab q2=Q2 at *;simp[Gp,Df.run,Bw,e1,e2,e3,c1,c2,c3,m5,t1]
 .have X:¬ m2%3=0\/(m2%3=0/\¬ k<45)\/(m2%3=0/\k<45/\¬ m%8<7):=by
   by_cases x1:m2%3=0
   .by_cases x2:k<45
    .exact .inr (.inr ⟨x1,x2,λz=>c1 ⟨x1,x2,z⟩⟩)
    .exact .inr (.inl ⟨x1,x2⟩)
   .exact .inl x1
  clear c1 t1 n1
  by_cases c2:m%8<5
  .refine⟨_,q2,.inl rfl,n2,?_⟩;generalize Av Ab q2=Q2 at *;rcases X with x1|⟨x1,x2⟩|⟨x1,x2,x3⟩
   .simp[Gp,Df.run,Bw,e1,e2,e3,e4,x1,c2,m5,t2,a0]
   .simp[Gp,Df.run,Bw,e1,e2,e3,e4,x1,x2,c2,m5,t2,a0]
   .simp[Gp,Df.run,Bw,e1,e2,e3,e4,x1,x2,x3,c2,m5,t2,a0]
  .by_cases d:m%8=5/\l≠[]/\0<m/16%4
   .obtain⟨d1,d2,d3⟩:=d;obtain⟨q,hq,e5⟩:=ix9 (n:=m/64) d2;refine⟨_,q,.inr (.inl rfl),hl q hq,?_⟩;have l1:=ls9 l;have l2:=i7 l;have l3:¬ (l.length:Ai)=0:=λz=>d2 (Eu (by omega))
    have l4:(0:Ai)<l.length:=by omega
    have l5:¬ l.length=0:=by omega
    have l6:0<l.length:=by omega
    generalize A9 l=L,Av Ab q2=Q2,Av Ab q=Q at *;have d4:¬ (5:Ai)<5:=by decide
    rcases X with x1|⟨x1,x2⟩|⟨x1,x2,x3⟩
    .simp[Gp,Df.run,Bw,e1,e2,e3,e4,x1,d1,d2,d3,m5,t2,a0,l1,l2,l3,l4,l6,e5]
    .simp[Gp,Df.run,Bw,e1,e2,e3,e4,x1,x2,d1,d2,d3,m5,t2,a0,l1,l2,l3,l4,l6,e5]
    .exact absurd (by omega) x3
   .obtain⟨w,hw,e6⟩:=iw9 (m:=m) (by omega) r1
    refine⟨w,q2,hw,n2,?_⟩;have l1:=ls9 l;have l2:=i7 l;have Y_:¬ m%8=5\/(m%8=5/\l.length=0)\/(m%8=5/\¬ l.length=0/\¬ 0<m/16%4):=by
     by_cases x1:m%8=5
     .by_cases x2:l.length=0
      .exact .inr (.inl ⟨x1,x2⟩)
      .exact .inr (.inr ⟨x1,x2,λz=>d ⟨x1,λy=>x2 (by rw[y];rfl),z⟩⟩)
     .exact .inl x1
    generalize A9 l=L,Av Ab q2=Q2 at *;have hb:∀ U:Rho,U=[sh (scr ns),si p,si k,sh L,si m,sh Q2]->U=U:=λ_ _=>rfl
    rcases X with x1|⟨x1,x2⟩|⟨x1,x2,x3⟩<;>rcases Y_ with y1|⟨y1,y2⟩|⟨y1,y2,y3⟩
    .simp[Gp,Df.run,Bw,e1,e2,e3,e4,x1,c2,y1,m5,t2,a0,l1,l2,e6]
    .simp[Gp,Df.run,Bw,e1,e2,e3,e4,x1,c2,y1,y2,m5,t2,a0,l1,l2]at e6 ⊢;simp[e6]
    .simp[Gp,Df.run,Bw,e1,e2,e3,e4,x1,c2,y1,y2,y3,m5,t2,a0,l1,l2]at e6 ⊢;simp[e6]
    .simp[Gp,Df.run,Bw,e1,e2,e3,e4,x1,x2,c2,y1,m5,t2,a0,l1,l2,e6]
    .simp[Gp,Df.run,Bw,e1,e2,e3,e4,x1,x2,c2,y1,y2,m5,t2,a0,l1,l2]at e6 ⊢;simp[e6]
    .simp[Gp,Df.run,Bw,e1,e2,e3,e4,x1,x2,c2,y1,y2,y3,m5,t2,a0,l1,l2]at e6 ⊢;simp[e6]
    .simp[Gp,Df.run,Bw,e1,e2,e3,e4,x1,x2,x3,c2,y1,m5,t2,a0,l1,l2,e6]
    .exact absurd (by omega) x3
    .exact absurd (by omega) x3
end
section
variable{Z:Z4}{ns:Ac Ai}{p:Ai}
theorem in9(q:R3)(l:Ac R3):Cq .In (Av Ab q) (A9 l)=.ok (.bl (decide (q∈l))):=by
 show (if (Y8 5 (Av Ab q)&&(l.map (Av Ab)).all (Y8 5))=Ab then R.ok (D.bl ((l.map (Av Ab)).any λy=>My y (Av Ab q))) else .bad)=_
 rw[UT,Au];rw[Am];exact⟨rfl,by rw[Ey,Bh];intro _ _;rfl⟩
theorem Xa(q:R3)(l:Ac R3):Cq .NotIn (Av Ab q) (A9 l)=.ok (.bl (!decide (q∈l))):=by
 show (if (Y8 5 (Av Ab q)&&(l.map (Av Ab)).all (Y8 5))=Ab then R.ok (D.bl (!(l.map (Av Ab)).any λy=>My y (Av Ab q))) else .bad)=_
 rw[UT,Au];rw[Am];exact⟨rfl,by rw[Ey,Bh];intro _ _;rfl⟩
theorem zH(l:Ac R3)(q:R3)(h:l.length<=900):Dm .Add (A9 l) (.lst [Av Ab q])=.ok (A9 (l++[q])):=by
 show (if Db ((l.map (Av Ab)).length+1)=Ab then R.ok (D.lst (l.map (Av Ab)++[Av Ab q])) else .bad)=_
 rw[Au (show Db ((l.map (Av Ab)).length+1)=Ab from GK.mpr (by rw[Bc];omega))]
 unfold A9;rw[X6];rfl
def ò(q:R3):Prop:=∃ p,P4 p/\zq p q
structure XN9 (Z:Z4):Prop where
 g5:Z.G 5=.int 30
 x107:∀ q,ò q->Z.xn 107 [Av Ab q]=.ok ⟨107,[(("triple" : Ah),Av Ab q)]⟩
 x108:∀ q,ò q->Z.xn 108 [Av Ab q]=.ok ⟨108,[(("triple" : Ah),Av Ab q)]⟩
 x15:∀ d,Z.xn 15 [d]=.ok ⟨15,[]⟩
theorem oC(hx:XN9 Z)(l:Ac R3)(q:R3)(hq:ò q)(h:l.length<=30):MU.run Z [A9 l,Av Ab q]=if q∈l then .exn ⟨107,[(("triple" : Ah),Av Ab q)]⟩ else if l.length=30 then .exn ⟨15,[]⟩ else .ok (A9 (l++[q])):=by
 have e1:=in9 q l;have e2:=i7 l;have e3:=zH l q (by omega)
 have x1:=hx.x107 q hq;have x2:=hx.x15 (.str (Aj "there are thirty points already"));have g5:=hx.g5;generalize A9 (l++[q])=L',A9 l=L,Av Ab q=Q at *;by_cases c1:q∈l
 .rw[Au c1];simp[MU,Df.run,Bw,e1,c1,x1,zk]
 .rw[Ay c1];by_cases c2:l.length=30
  .rw[Au c2];have c3:(30:Ai)<=(l.length:Ai):=by omega
   simp[MU,Df.run,Bw,e1,c1,e2,c2,c3,g5,x2,zk]
  .rw[Ay c2];have c3:¬ (30:Ai)<=(l.length:Ai):=by omega
   simp[MU,Df.run,Bw,e1,c1,e2,c3,g5,e3];exact λz=>nomatch (show Ab=Af from z)
theorem xM(q:R3):∀(l:Ac R3),Cu (cG Z [sh (A9 l),sh (Av Ab q),Ae] 2 NG) (cF Z [sh (A9 l),sh (Av Ab q),Ae] 2 Ps) (l.map (Av Ab))=.ok ((l.filter λx=>!decide (x=q)).map (Av Ab)):=λl=>by
 generalize A9 l=L
 induction l with
 |nil=>rfl
 |cons x l ih=>
  have e:cG Z [sh L,sh (Av Ab q),Ae] 2 NG (Av Ab x)=.ok (!decide (x=q)):=by
   have:Cq .NotEq (Av Ab x) (Av Ab q)=.ok (.bl (!decide (x=q))):=by
    show (if (Y8 5 (Av Ab x)&&Y8 5 (Av Ab q))=Ab then R.ok (D.bl (!My (Av Ab x) (Av Ab q))) else .bad)=_
    rw[M3,Au (by rfl)]
   show (Cq .NotEq (Av Ab x) (Av Ab q)).bind Bs=_;rw[this];rfl
  have e2:cF Z [sh L,sh (Av Ab q),Ae] 2 Ps (Av Ab x)=.ok (Av Ab x):=rfl;rw[BP];show (cG Z [sh L,sh (Av Ab q),Ae] 2 NG (Av Ab x)).bind _=_;rw[e];by_cases c:x=q
  .simp[c];exact ih
  .simp[c,e2];rw[ih];rfl
theorem iF(hx:XN9 Z)(l:Ac R3)(q:R3)(hq:ò q):NK.run Z [A9 l,Av Ab q]=if q∈l then .ok (A9 (l.filter λx=>!decide (x=q))) else .exn ⟨108,[(("triple" : Ah),Av Ab q)]⟩:=by
 have e1:=Xa q l;have e2:=xM (Z:=Z) q l;have x1:=hx.x108 q hq;have sq:G1 (A9 l)=.ok (l.map (Av Ab)):=rfl;have e3:A9 (l.filter λx=>!decide (x=q))=.lst ((l.filter λx=>!decide (x=q)).map (Av Ab)):=rfl
 rw[e3];generalize (l.filter λx=>!decide (x=q)).map (Av Ab)=M' at *
 generalize l.map (Av Ab)=M at e2 sq;generalize A9 l=L,Av Ab q=Q at *;by_cases c1:q∈l
 .rw[Au c1];simp[NK,Df.run,Bw,e1,c1,sq,e2];rfl
 .rw[Ay c1];simp[NK,Df.run,Bw,e1,c1,x1,zk]
noncomputable def Ec(l:Ac R3):Ac D:=l.map λq=>.str (tq Af q)
theorem oE(hm:∀(p:Ai)(b:An)(q a:R3),P4 p->Fm p q a->Z.F 901 [.int p,Av b q]=.ok (qi p Af a))(hs:∀(p:Ai)(q:R3),P4 p->zq p q->Z.F 931 [qi p Af q]=.ok (.str (tq Af q)))(p:Ai)(l:Ac R3)(hp:P4 p)(hl:∀ q∈l,NF p q):Pi.run Z [.int p,A9 l]=.ok (.lst (Ec l)):=by
 have e:∀(L:D)(l:Ac R3),(∀ q∈l,NF p q)->Cu (cG Z [si p,sh L,Ae] 2 DL) (cF Z [si p,sh L,Ae] 2 ME) (l.map (Av Ab))=.ok (Ec l):=λL l hl=>by
  induction l with
  |nil=>rfl
  |cons x l ih=>
   have hx:=hl x (by simp)
   have e1:cG Z [si p,sh L,Ae] 2 DL (Av Ab x)=.ok Ab:=rfl;have e2:cF Z [si p,sh L,Ae] 2 ME (Av Ab x)=.ok (.str (tq Af x)):=by
    have m':=hm p Ab x x hp (V9 hp hx);have s':=hs p x hp hx.1;have md:OF Z.F (Aj "shown") [(1,931)] (qi p Af x)=Z.F 931 [qi p Af x]:=rfl;generalize qi p Af x=O,Av Ab x=X at *;simp[cF,ME,m',s',md,zk]
   rw[BP];show (cG Z [si p,sh L,Ae] 2 DL (Av Ab x)).bind _=_;rw[e1];show (cF Z [si p,sh L,Ae] 2 ME (Av Ab x)).bind _=_;rw[e2];show (Cu _ _ (l.map (Av Ab))).bind _=_;rw[ih λq hq=>hl q (AE _ hq)]
   rfl
 have e:=e (A9 l) l hl;have sq:G1 (A9 l)=.ok (l.map (Av Ab)):=rfl;generalize l.map (Av Ab)=M at e sq;generalize A9 l=L at *;simp[Pi,Df.run,Bw,sq,e];rfl
theorem wL(Z:Z4)(p:Ai):MK.run Z [.int p,.lst []]=.ok (.lst []):=by
 have ci:Cq .In .non (.lst [])=.ok (.bl Af):=rfl;simp[MK,Df.run,Bw,ci,Cu]
theorem wG(hf:NZ Z)(p:Ai)(a q:R3)(hp:P4 p)(h:Fm p a q):MV.run Z [.int p,Av Af a]=.ok (Av Ab q):=by
 have e:=Wf hf Af hp h;have l:zr .len [Av Af a]=.ok (.int 3):=rfl;generalize Av Af a=A,Av Ab q=Q at *;simp[MV,Df.run,Bw,e,l]
theorem wH(Z:Z4)(p:Ai):MV.run Z [.int p,.lst []]=.ok .non:=by
 simp[MV,Df.run,Bw]
end
section
variable{Z:Z4}{ns:Ac Ai}{p:Ai}
noncomputable def wf(n:Ag):D:=.str (Aj (toString (n:Ai)))
theorem bs9(h:n<=900):zr .str [.int (n:Ai)]=.ok (wf n):=Au (by unfold Lu;rw[Hu,AG];omega)
noncomputable def DG(hs:Ac (Ac R3)):D:=.lst (hs.map A9)
noncomputable def pr9(x:Ah)(d:D):D:=.tup [.str x,d]
theorem Ks:¬ Aj "put" = Aj "take" := by decide
theorem Kq:¬ Aj "put" = Aj "undo" := by decide
theorem Kt:¬ Aj "put" = Aj "points" := by decide
theorem Kj:¬ Aj "take" = Aj "put" := by decide
theorem Kh:¬ Aj "take" = Aj "undo" := by decide
theorem Ko:¬ Aj "take" = Aj "points" := by decide
theorem Kf:¬ Aj "undo" = Aj "put" := by decide
theorem Ke:¬ Aj "undo" = Aj "take" := by decide
theorem Kg:¬ Aj "undo" = Aj "points" := by decide
theorem Kw:¬ Aj "points" = Aj "put" := by decide
theorem Kv:¬ Aj "points" = Aj "take" := by decide
theorem Ku:¬ Aj "points" = Aj "undo" := by decide
theorem pW(Z:Z4)(q:R3)(l:Ac R3)(hs:Ac (Ac R3))(h:l.length<=30):GW.run Z [.str (Aj "put"),Av Ab q,A9 l,DG hs]=.ok (if q∈l then pr9 (Aj "alike") .non else if l.length=30 then pr9 (Aj "many") .non else pr9 (Aj "told") (.lst [wf (l.length+1)])):=by
 have e1:=in9 q l;have e2:=i7 l;have b:=bs9 (n:=l.length+1) (by omega)
 rw[show ((l.length+1:Ag):Ai)=(l.length:Ai)+1 by omega]at b
 unfold pr9;generalize wf (l.length+1)=S,A9 l=L,Av Ab q=Q,DG hs=P at *;by_cases c1:q∈l
 .rw[Au c1];simp[GW,Df.run,Bw,Ks,Kq,Kt,Kj,Kh,Ko,Kf,Ke,Kg,Kw,Kv,Ku,e1,c1]
 .rw[Ay c1];by_cases c2:l.length=30
  .rw[Au c2];have c3:(l.length:Ai)=30:=by omega
   simp[GW,Df.run,Bw,Ks,Kq,Kt,Kj,Kh,Ko,Kf,Ke,Kg,Kw,Kv,Ku,e1,c1,e2,c3]
  .rw[Ay c2];have c3:¬ (l.length:Ai)=30:=by omega
   simp[GW,Df.run,Bw,Ks,Kq,Kt,Kj,Kh,Ko,Kf,Ke,Kg,Kw,Kv,Ku,e1,c1,e2,c3,b]
theorem jU(Z:Z4)(q:R3)(l:Ac R3)(hs:Ac (Ac R3))(h:l.length<=30):GW.run Z [.str (Aj "take"),Av Ab q,A9 l,DG hs]=.ok (if q∈l then pr9 (Aj "told") (.lst [wf (l.length-1)]) else pr9 (Aj "not on") .non):=by
 have e1:=Xa q l;have e0:=in9 q l;have e2:=i7 l;unfold pr9;by_cases c1:q∈l
 .rw[Au c1];have hl:0<l.length:=List.length_pos_of_mem c1;have b:=bs9 (n:=l.length-1) (by omega)
  rw[show ((l.length-1:Ag):Ai)=(l.length:Ai)-1 by omega]at b
  generalize wf (l.length-1)=S,A9 l=L,Av Ab q=Q,DG hs=P at *;simp[GW,Df.run,Bw,Ks,Kq,Kt,Kj,Kh,Ko,Kf,Ke,Kg,Kw,Kv,Ku,e1,c1,e2,b]
 .rw[Ay c1];generalize A9 l=L,Av Ab q=Q,DG hs=P at *;simp[GW,Df.run,Bw,Ks,Kq,Kt,Kj,Kh,Ko,Kf,Ke,Kg,Kw,Kv,Ku,e1,c1]
theorem rT(hp:P4 p)(ht:Ry Z)(q:R3)(l:Ac R3)(hs:Ac (Ac R3))(hl:∀ x∈l,NF p x):GW.run Z [.str (Aj "points"),Av Ab q,A9 l,DG hs]=.ok (pr9 (Aj "told") (.lst (Ec l))):=by
  have e:∀(U:Rho)(l:Ac R3),U.length=5->(∀ q∈l,NF p q)->Cu (cG Z U 4 DL) (cF Z U 4 MF) (l.map (Av Ab))=.ok (Ec l):=λU l hρ hl=>by
    induction l with
    |nil=>rfl
    |cons x l ih=>
      have hx:=hl x (by simp)
      have e1:cG Z U 4 DL (Av Ab x)=.ok Ab:=rfl;have e2:cF Z U 4 MF (Av Ab x)=.ok (.str (tq Af x)):=by
        have s:=ht p x hp hx.1
        match U,hρ with
        |[r0,r1,r2,r3,r4],_=>
          generalize Av Ab x=X at *;simp[cF,MF,s]
      rw[BP];show (cG Z U 4 DL (Av Ab x)).bind _=_;rw[e1];show (cF Z U 4 MF (Av Ab x)).bind _=_;rw[e2];show (Cu _ _ (l.map (Av Ab))).bind _=_;rw[ih λq hq=>hl q (AE _ hq)]
      rfl
  have e:=e [sh (.str (Aj "points")),sh (Av Ab q),sh (A9 l),sh (DG hs),Ae] l rfl hl;have sq:G1 (A9 l)=.ok (l.map (Av Ab)):=rfl;unfold pr9;generalize Ec l=T at *;generalize l.map (Av Ab)=M at e sq;generalize A9 l=L,Av Ab q=Q,DG hs=P at *;simp[GW,Df.run,Bw,Ks,Kq,Kt,Kj,Kh,Ko,Kf,Ke,Kg,Kw,Kv,Ku,sq,e]
theorem fN(Z:Z4)(q:R3)(l:Ac R3):GW.run Z [.str (Aj "undo"),Av Ab q,A9 l,DG []]=.ok (pr9 (Aj "nothing") .non):=by
 have a1:zr .list [DG []]=.ok (DG []):=rfl;have a2:zr .len [DG []]=.ok (.int 0):=rfl;unfold pr9;generalize A9 l=L,Av Ab q=Q,DG []=P at *;simp[GW,Df.run,Bw,Ks,Kq,Kt,Kj,Kh,Ko,Kf,Ke,Kg,Kw,Kv,Ku,a1,a2]
theorem fM(Z:Z4)(q:R3)(l h:Ac R3)(hs:Ac (Ac R3))(hh:h.length<=30):GW.run Z [.str (Aj "undo"),Av Ab q,A9 l,DG (hs++[h])]=.ok (pr9 (Aj "told") (.lst [wf h.length])):=by
 have a1:zr .list [DG (hs++[h])]=.ok (DG (hs++[h])):=rfl;have a2:zr .len [DG (hs++[h])]=.ok (.int ((hs.length+1:Ag):Ai)):=by
  show R.ok (D.int ((hs++[h]).map A9).length)=_;rw[Bc,BV];rfl
 have a3:¬ ((hs.length+1:Ag):Ai)=0:=by omega
 have a4:G3 (DG (hs++[h])) (.int (-1))=.ok (A9 h):=by
  show DU ((hs++[h]).map A9) (-1)=_;unfold DU qj;rw[Ay (by decide),Bc,BV]
  rw[Au (by simp;omega)]
  have:(-1+((hs.length+[h].length:Ag):Ai)).toNat=hs.length:=by simp;omega
  rw[this];simp
 have a5:=i7 h;have b:=bs9 (n:=h.length) (by omega)
 unfold pr9;generalize ((hs.length+1:Ag):Ai)=N,wf h.length=S,A9 h=H,A9 l=L,Av Ab q=Q,DG (hs++[h])=P at *;simp[GW,Df.run,Bw,Ks,Kq,Kt,Kj,Kh,Ko,Kf,Ke,Kg,Kw,Kv,Ku,a1,a2,a3,a4,a5,b]
theorem nY(Z:Z4)(ts:Ac Ah):Pf.run Z [.lst (ts.map .str)]=.ok (.bl Ab):=by
 have e:∀(L:D)(ts:Ac Ah),Cu (cG Z [sh L,Ae] 1 DL) (cF Z [sh L,Ae] 1 Sc) (ts.map .str)=.ok (ts.map λ_=>.bl Ab):=λL ts=>by
  induction ts with
  |nil=>rfl
  |cons x l ih=>
   rw[BP];show (Cu _ _ (l.map D.str)).bind _=_;rw[ih];rfl
 have a:∀ ts:Ac Ah,zr .all [.lst (ts.map λ_=>D.bl Ab)]=.ok (.bl Ab):=λts=>by
  have:∀ ts:Ac Ah,Ho (ts.map λ_=>D.bl Ab)=.ok Ab:=λts=>by
   induction ts with
   |nil=>rfl
   |cons x l ih=>rw[BP];show (Ho (l.map λ_=>D.bl Ab)).bind _=_;rw[ih];rfl
  show (Ho (ts.map λ_=>D.bl Ab)).bind _=_
  rw[this];rfl
 have e1:=e (.lst (ts.map .str)) ts;have e2:=a ts;have is:G2 Z.up [.list] (.lst (ts.map .str))=.ok (.bl Ab):=rfl;have sq:G1 (.lst (ts.map .str))=.ok (ts.map D.str):=rfl;generalize (ts.map λ_=>D.bl Ab)=B,ts.map D.str=M at *
 generalize D.lst M=L at *;simp[Pf,Df.run,Bw,e1,e2,is,sq]
end
noncomputable def zu(p:Ai)(l:Ac R3)(hs:Ac (Ac R3)):Dk:=⟨.int p,l.map (Av Ab),.non,hs.map λh=>.tup [A9 h,.non]⟩
noncomputable def laW:Ac Ah:=["kind", "side", "polar", "pole"]
noncomputable def lmW:Ac Ah:=["five", "curve"]
noncomputable def llW:Ac Ah:=["put", "take", "grow"]
noncomputable def KW:Ac (Ah×Ai):=[("put",3),("take",3),("grow",0),("five",0),("curve",6),("undo",0),("points",0),("look",0),("draw",0),("kind",0),("side",3),("polar",3),("pole",3)]
noncomputable def gq:E:=.bi .ssplit (.cons (.var 1) (.cons (.str (Aj " ")) .nil))
noncomputable def Gv(Z1 Z2:Z4):Dk->Ac D->RK:=Hs laW lmW llW (λr=>evE Z2 [Ae,Aa (.str r,Af),Ae,Ae,Ae] gq) (Ls Z1 34 KW) (Z2.F 347) (Nv Z1 348 349) Hq (OX Z1 350)
structure H9 (Z1 Z2:Z4) (p:Ai):Prop where
 put:∀(l:Ac R3)(q:R3),zq p q->l.length<=30->Z1.F 348 [A9 l,Av Ab q]=if q∈l then .exn ⟨107,[(("triple" : Ah),Av Ab q)]⟩ else if l.length=30 then .exn ⟨15,[]⟩ else .ok (A9 (l++[q]))
 take:∀(l:Ac R3)(q:R3),zq p q->Z1.F 349 [A9 l,Av Ab q]=if q∈l then .ok (A9 (l.filter λx=>!decide (x=q))) else .exn ⟨108,[(("triple" : Ah),Av Ab q)]⟩
 pts:∀ l:Ac R3,(∀ q∈l,NF p q)->Z1.F 350 [.int p,A9 l]=.ok (.lst (Ec l))
 rr3:∀ a:R3,zq p a->Z1.F 34 [.int p,.lst [.str (dg a.1.toNat),.str (dg a.2.1.toNat),.str (dg a.2.2.toNat)]]=.ok (Av Af a)
 rr0:Z1.F 34 [.int p,.lst []]=.ok (.lst [])
 tb3:∀ a q:R3,Fm p a q->Z2.F 347 [.int p,Av Af a]=.ok (Av Ab q)
 tb0:Z2.F 347 [.int p,.lst []]=.ok .non
section
variable{Z1 Z2:Z4}{p:Ai}{a q:R3}{l:Ac R3}{hs:Ac (Ac R3)}
noncomputable def xg(t:An)(a:R3):Ah:=vz t a.1.toNat a.2.1.toNat a.2.2.toNat
theorem rZ(hp:P4 p)(h:zq p a)(t:An):evE Z2 [Ae,Aa (.str (xg t a),Af),Ae,Ae,Ae] gq=.ok (.lst [.str (zm t),.str (dg a.1.toNat),.str (dg a.2.1.toNat),.str (dg a.2.2.toNat)]):=by
 have:=hp.hi;obtain⟨⟨a0,a1⟩,⟨b0,b1⟩,c0,c1⟩:=h;have e:=cs9 (t:=t) (a:=a.1.toNat) (b:=a.2.1.toNat) (c:=a.2.2.toNat) (by omega) (by omega) (by omega)
 show zr .ssplit [.str (xg t a),.str sp7]=_;exact e
theorem xV(h:H9 Z1 Z2 p)(hi:zq p a)(t:An):Ls Z1 34 KW [.int p,.lst [.str (zm t),.str (dg a.1.toNat),.str (dg a.2.1.toNat),.str (dg a.2.2.toNat)]]=.ok (Av Af a):=by
 unfold Ls;dsimp only;rw[h.rr3 a hi];have:KW.lookup (zm t)=Aa 3:=by cases t<;>decide
 show (match KW.lookup (zm t) with|none=>R.exn ⟨12,[]⟩|some k=>if (([D.int a.1,.int a.2.1,.int a.2.2]:Ac D).length:Ai)=k then .ok (D.lst [.int a.1,.int a.2.1,.int a.2.2]) else .exn ⟨12,[]⟩)=_
 rw[this];rfl
theorem RX(h:H9 Z1 Z2 p)(hw:KW.lookup w=Aa 0):Ls Z1 34 KW [.int p,.lst [.str w]]=.ok (.lst []):=by
 unfold Ls;dsimp only;rw[h.rr0];show (match KW.lookup w with|none=>R.exn ⟨12,[]⟩|some k=>if ((([]:Ac D).length:Ag):Ai)=k then .ok (D.lst []) else .exn ⟨12,[]⟩)=_
 rw[hw];rfl
theorem Vc(h:H9 Z1 Z2 p)(hp:P4 p)(hi:zq p a)(hf:Fm p a q)(t:An):Gv Z1 Z2 (zu p l hs) [.str (xg t a)]=Nv Z1 348 349 (zu p l hs) [.str (zm t),Av Ab q]:=by
 unfold Gv Hs;dsimp only;rw[rZ hp hi t];dsimp only;rw[show (zu p l hs).p=D.int p from rfl,xV h hi t]
 dsimp only;rw[h.tb3 a q hf];dsimp only;unfold O8;cases t<;>rfl
theorem jO(h:H9 Z1 Z2 p)(hq:zq p q)(hp:P4 p)(hi:zq p a)(hf:Fm p a q)(hl:l.length<=30)(hh:hs.length<900):Gv Z1 Z2 (zu p l hs) [.str (xg Af a)]=if q∈l then .exn ⟨107,[(("triple" : Ah),Av Ab q)]⟩ else if l.length=30 then .exn ⟨15,[]⟩ else .ok (.lst [wf (l.length+1)]) (zu p (l++[q]) (hs++[l])):=by
 rw[Vc h hp hi hf];unfold Nv;dsimp only;rw[Au (show zm Af=("put" : Ah) from rfl)]
 have e:=h.put l q hq hl;rw[show D.lst (zu p l hs).l=A9 l from rfl,e]
 by_cases c1:q∈l
 .rw[Au c1,Au c1]
 .rw[Ay c1,Ay c1];by_cases c2:l.length=30
  .rw[Au c2,Au c2]
  .rw[Ay c2,Ay c2];show (if (zu p l hs).ps.length<900/\((l++[q]).map (Av Ab)).length<900 then RK.ok (.lst [.str (toString (((l++[q]).map (Av Ab)).length:Ai))]) (G6 (zu p l hs) ((l++[q]).map (Av Ab)) (zu p l hs).c) else .bad)=_
   have e1:((l++[q]).map (Av Ab)).length=l.length+1:=by simp
   have e2:(zu p l hs).ps.length=hs.length:=by simp[zu]
   rw[Au (by rw[e1,e2];omega),e1]
   unfold wf G6 zu;simp[A9]
theorem eK(h:H9 Z1 Z2 p)(hq:zq p q)(hp:P4 p)(hi:zq p a)(hf:Fm p a q)(hl:l.length<=30)(hh:hs.length<900)(hn:l.Nodup):Gv Z1 Z2 (zu p l hs) [.str (xg Ab a)]=if q∈l then .ok (.lst [wf (l.length-1)]) (zu p (l.filter λx=>!decide (x=q)) (hs++[l])) else .exn ⟨108,[(("triple" : Ah),Av Ab q)]⟩:=by
 rw[Vc h hp hi hf];unfold Nv;dsimp only;rw[Ay (show ¬ zm Ab=("put" : Ah) from by decide),Au (show zm Ab=("take" : Ah) from rfl)]
 have e:=h.take l q hq;rw[show D.lst (zu p l hs).l=A9 l from rfl,e]
 by_cases c1:q∈l
 .rw[Au c1,Au c1];show (if (zu p l hs).ps.length<900/\((l.filter λx=>!decide (x=q)).map (Av Ab)).length<900 then RK.ok (.lst [.str (toString (((l.filter λx=>!decide (x=q)).map (Av Ab)).length:Ai))]) (G6 (zu p l hs) ((l.filter λx=>!decide (x=q)).map (Av Ab)) (zu p l hs).c) else .bad)=_
  have e1:((l.filter λx=>!decide (x=q)).map (Av Ab)).length=l.length-1:=by
   rw[Bc];have:=List.Nodup.erase_eq_filter hn q;have e3:(l.filter λx=>!decide (x=q))=l.erase q:=by
    rw[this]
    congr 1
    funext x
    simp only[bne];rw[DM];simp
   rw[e3,List.length_erase_of_mem c1]
  have e2:(zu p l hs).ps.length=hs.length:=by simp[zu]
  rw[Au (by rw[e1,e2];omega),e1]
  unfold wf G6 zu;simp[A9]
 .rw[Ay c1,Ay c1]
theorem UL(h:H9 Z1 Z2 p)(hl:∀ q∈l,NF p q):Gv Z1 Z2 (zu p l hs) [.str (Aj "points")]=.ok (.lst (Ec l)) (zu p l hs):=by
 unfold Gv Hs;dsimp only;rw[show evE Z2 [Ae,Aa (.str (Aj "points"),Af),Ae,Ae,Ae] gq=.ok (.lst [.str (Aj "points")]) from xL]
 dsimp only;rw[show (zu p l hs).p=D.int p from rfl,RX h (by decide)]
 dsimp only;rw[h.tb0];show OX Z1 350 (zu p l hs) [.str (Aj "points")]=_;unfold OX;dsimp only;rw[Au rfl,show (zu p l hs).p=D.int p from rfl,show D.lst (zu p l hs).l=A9 l from rfl,h.pts l hl]
 rfl
theorem jN(h:H9 Z1 Z2 p):Gv Z1 Z2 (zu p l []) [.str (Aj "undo")]=.exn ⟨17,[]⟩:=by
 unfold Gv Hs;dsimp only;rw[show evE Z2 [Ae,Aa (.str (Aj "undo"),Af),Ae,Ae,Ae] gq=.ok (.lst [.str (Aj "undo")]) from Ws]
 dsimp only;rw[show (zu p l []).p=D.int p from rfl,RX h (by decide)]
 dsimp only;rw[h.tb0];rfl
theorem jM(h:H9 Z1 Z2 p){g:Ac R3}(hg:g.length<=30):Gv Z1 Z2 (zu p l (hs++[g])) [.str (Aj "undo")]=.ok (.lst [wf g.length]) (zu p g hs):=by
 unfold Gv Hs;dsimp only;rw[show evE Z2 [Ae,Aa (.str (Aj "undo"),Af),Ae,Ae,Ae] gq=.ok (.lst [.str (Aj "undo")]) from Ws]
 dsimp only;rw[show (zu p l (hs++[g])).p=D.int p from rfl,RX h (by decide)]
 dsimp only;rw[h.tb0];show Hq (zu p l (hs++[g])) []=_;have e:(zu p l (hs++[g])).ps.getLast?=Aa (.tup [.lst (g.map (Av Ab)),.non]):=by
  unfold zu;simp[A9]
 unfold Hq;simp only[e];rw[Au (by rw[Bc];omega),Bc]
 unfold wf zu;simp
end
noncomputable def Mn:Ag->Ac Ag
 |0=>[0]
 |12=>[12,0]
 |15=>[15,0]
 |17=>[17,0]
 |107=>[107,0]
 |108=>[108,0]
 |_=>[]
theorem O9(hu:Z.up=Mn)(d:D):MH.run Z [.exc 107 [(("triple" : Ah),d)]]=.ok (.str (Aj "alike"))/\MH.run Z [.exc 108 [(("triple" : Ah),d)]]=.ok (.str (Aj "not on"))/\MH.run Z [.exc 15 []]=.ok (.str (Aj "many"))/\MH.run Z [.exc 17 []]=.ok (.str (Aj "nothing")):=by
 obtain⟨F,G,up,fr,xn⟩:=Z;have hu:up=Mn:=hu;subst hu;exact⟨rfl,rfl,rfl,rfl⟩
noncomputable def lc(Z1 Z2 Z3:Z4):Dk->Ac D->RK:=n6 Mn (Z3.F 356) (Z3.F 360) (Gv Z1 Z2)
structure ð (Z3:Z4):Prop where
 tx:∀ ts:Ac Ah,Z3.F 356 [.lst (ts.map .str)]=.ok (.bl Ab)
 r107:∀ d,Z3.F 360 [.exc 107 [(("triple" : Ah),d)]]=.ok (.str (Aj "alike"))
 r108:∀ d,Z3.F 360 [.exc 108 [(("triple" : Ah),d)]]=.ok (.str (Aj "not on"))
 r15:Z3.F 360 [.exc 15 []]=.ok (.str (Aj "many"))
 r17:Z3.F 360 [.exc 17 []]=.ok (.str (Aj "nothing"))
section
variable{Z1 Z2 Z3:Z4}{p:Ai}{a q:R3}{l:Ac R3}{hs:Ac (Ac R3)}{k k':Dk}{ds:Ac D}
theorem Ng(h:ð Z3){ts:Ac Ah}(e:Gv Z1 Z2 k ds=.ok (.lst (ts.map .str)) k'):lc Z1 Z2 Z3 k ds=.ok (pr9 (Aj "told") (.lst (ts.map .str))) k':=by
 unfold lc n6;rw[e];dsimp only;rw[h.tx];rfl
theorem O7(h:ð Z3){y:Ex}{nm:Ah}(e:Gv Z1 Z2 k ds=.exn y)(r:Z3.F 360 [.exc y.c y.fs]=.ok (.str nm))(hu:(Mn y.c).contains 0=Ab/\nm≠Aj "told"):lc Z1 Z2 Z3 k ds=.ok (pr9 nm .non) k:=by
 unfold lc n6;rw[e];dsimp only;rw[r];exact Au hu
theorem Xm(x:Ah)(l:Ac R3):Y8 5 (pr9 x (.lst (Ec l)))=Ab:=by
 show (Ab&&((Ec l).all (Y8 3)&&Ab))=Ab;rw[Bool.true_and,JQ];unfold Ec;rw[Ey,Bh];intro _ _;rfl
theorem R6:∀ ts:Ac Ah,KK (ts.map .str) (ts.map .str)=Ab
 |[]=>rfl
 |t::ts=>by
  show ((t==t)&&KK (ts.map .str) (ts.map .str))=Ab;rw[R6 ts,BE];rfl
theorem LV(l:Ac R3):Ec l=(l.map λq=>tq Af q).map D.str:=by
 unfold Ec;rw[Ib];rfl
theorem OR(x:Ah)(ts:Ac Ah):My (pr9 x (.lst (ts.map .str))) (pr9 x (.lst (ts.map .str)))=Ab:=by
 show ((x==x)&&(KK (ts.map .str) (ts.map .str)&&Ab))=Ab;rw[R6,BE];rfl
theorem OT(x:Ah):My (pr9 x .non) (pr9 x .non)=Ab:=by
 show ((x==x)&&(Ab&&Ab))=Ab;rw[BE];rfl
end
noncomputable def Nc:S:=.asgT [6,7] (.call 363 (.cons (.var 0) (.cons (.var 1) (.cons (.var 5) (.cons (.var 3) .nil)))))
noncomputable def OI:S:=.asg 8 Af (.var 6)
noncomputable def Lh:S:=.ife (.or (.cons (.cmp .Eq (.var 6) (.str (Aj "put"))) (.cons (.cmp .Eq (.var 6) (.str (Aj "take"))) .nil))) (.cons (.asg 8 Af (.bin .Add (.bin .Add (.var 6) (.str (Aj " "))) (.call 359 (.cons (.var 1) (.cons (.var 7) (.cons (.call 354 (.cons (.var 0) (.cons (.bin .Add (.int 70) (.var 5)) .nil))) .nil)))))) .nil) .nil
noncomputable def OU:E:=.call 364 (.cons (.var 6) (.cons (.var 7) (.cons (.var 3) (.cons (.var 4) .nil))))
noncomputable def Lj:E:=.cmp .NotEq (.var 11) (.var 7)
noncomputable def Md:E:=.var 11
noncomputable def Nx:Ss:=.cons (.asg 3 Ab (.comp Md 11 (.e (.var 3)) Lj)) (.cons (.ife (.cmp .Eq (.var 6) (.str (Aj "put"))) (.cons (.app 3 (.var 7)) .nil) .nil) (.cons (.rel 3) .nil))
noncomputable def Lk:E:=.bl Ab
noncomputable def Ln:E:=.call 358 (.cons (.var 12) .nil)
noncomputable def Nb:S:=.asg 9 Af (.tup (.cons (.str (Aj "told")) (.cons (.comp Ln 12 (.e (.var 3)) Lk) .nil)))
noncomputable def Wn:E:=.call 355 (.cons (.var 0) .nil)
noncomputable def Wm:E:=.bi .min (.cons (.bi .len (.cons (.var 0) .nil)) (.cons (.int 61) .nil))
structure fz (Z:Z4) (ns:Ac Ai):Prop where
 mi:Oj Z 354 ns
 rw:xB Z ns
 rs:xC Z
 pt:Ry Z
 dp:∀(q:R3)(l:Ac R3)(hs:Ac (Ac R3)),l.length<=30->Z.F 364 [.str (Aj "put"),Av Ab q,A9 l,DG hs]=.ok (if q∈l then pr9 (Aj "alike") .non else if l.length=30 then pr9 (Aj "many") .non else pr9 (Aj "told") (.lst [wf (l.length+1)]))
 dt:∀(q:R3)(l:Ac R3)(hs:Ac (Ac R3)),l.length<=30->Z.F 364 [.str (Aj "take"),Av Ab q,A9 l,DG hs]=.ok (if q∈l then pr9 (Aj "told") (.lst [wf (l.length-1)]) else pr9 (Aj "not on") .non)
 dq:∀(p:Ai)(q:R3)(l:Ac R3)(hs:Ac (Ac R3)),P4 p->(∀ x∈l,NF p x)->Z.F 364 [.str (Aj "points"),Av Ab q,A9 l,DG hs]=.ok (pr9 (Aj "told") (.lst (Ec l)))
 d0:∀(q:R3)(l:Ac R3),Z.F 364 [.str (Aj "undo"),Av Ab q,A9 l,DG []]=.ok (pr9 (Aj "nothing") .non)
 d1:∀(q:R3)(l h:Ac R3)(hs:Ac (Ac R3)),h.length<=30->Z.F 364 [.str (Aj "undo"),Av Ab q,A9 l,DG (hs++[h])]=.ok (pr9 (Aj "told") (.lst [wf h.length]))
 up:Z.up=Mn
theorem W7{a b:R α}{k:α->O}(e:a=b)(h:O.of U b k=o):O.of U a k=o:=e ▸ h
theorem W8{β:Type}{a b:R α}{f:α->R β}{k:β->O}(e:a=b)(h:O.of U (b.bind f) k=o):O.of U (a.bind f) k=o:=e ▸ h
theorem xY{a b:R α}{k:α->O}{s:Rho->O}(e:a=b)(h:(O.of U b k).seq s=o):(O.of U a k).seq s=o:=e ▸ h
section
variable{Z Z1 Z2 Z3:Z4}{ns:Ac Ai}{p k:Ai}{a q:R3}{l:Ac R3}{hs:Ac (Ac R3)}
theorem st1(h:fz Z ns)(hp:P4 p)(k0:0<=k)(hl:∀ x∈l,NF p x):∃ w q,Ϻ w/\NF p q/\xz Z (LT (zY (Z5 (A9 l)) (Z5 (.int k)) Ae Ae Ae Ae (scr ns) (.int p))) Nc=.next (LT (zY (Z5 (A9 l)) (Z5 (.int k)) (Z5 (.str w)) (Z5 (Av Ab q)) Ae Ae (scr ns) (.int p))):=by
 obtain⟨w,q,hw,hq,e⟩:=h.rw p k l hp k0 hl;refine⟨w,q,hw,hq,?_⟩;generalize A9 l=L,Av Ab q=Q,scr ns=S at *;have e2:evE Z (LT (zY (Z5 L) (Z5 (.int k)) Ae Ae Ae Ae S (.int p))) (.call 363 (.cons (.var 0) (.cons (.var 1) (.cons (.var 5) (.cons (.var 3) .nil)))))=.ok (.tup [.str w,Q]):=by
  show (Z.F 363 [S,.int p,.int k,L]).bind _=_;rw[e];rfl
 unfold Nc;exact W7 e2 rfl
theorem st2{L Q S:D}:xz Z (LT (zY (Z5 L) (Z5 (.int k)) (Z5 (.str w)) (Z5 Q) Ae Ae S (.int p))) OI=.next (LT (zY (Z5 L) (Z5 (.int k)) (Z5 (.str w)) (Z5 Q) (Z5 (.str w)) Ae S (.int p))):=rfl
theorem WS{L Q S:D}(h1:¬ w=Aj "put")(h2:¬ w=Aj "take"):xz Z (LT (zY (Z5 L) (Z5 (.int k)) (Z5 (.str w)) (Z5 Q) (Z5 (.str w)) Ae S (.int p))) Lh=.next (LT (zY (Z5 L) (Z5 (.int k)) (Z5 (.str w)) (Z5 Q) (Z5 (.str w)) Ae S (.int p))):=by
 have e:evE Z (LT (zY (Z5 L) (Z5 (.int k)) (Z5 (.str w)) (Z5 Q) (Z5 (.str w)) Ae S (.int p))) (.or (.cons (.cmp .Eq (.var 6) (.str (Aj "put"))) (.cons (.cmp .Eq (.var 6) (.str (Aj "take"))) .nil)))=.ok (.bl Af):=by
  show (R.ok (D.bl (w==Aj "put"))).bind (λx=>(Dz x).bind λc=>if c=Ab then R.ok (D.bl Ab) else R.ok (D.bl (w==Aj "take")))=_
  rw[Bg.mpr h1,Bg.mpr h2];rfl
 unfold Lh;exact W8 e rfl
theorem WR(h:fz Z ns)(hp:P4 p)(k0:0<=k){L:D}(t:An)(hq:NF p q):∃ a,zq p a/\Fm p a q/\xz Z (LT (zY (Z5 L) (Z5 (.int k)) (Z5 (.str (zm t))) (Z5 (Av Ab q)) (Z5 (.str (zm t))) Ae (scr ns) (.int p))) Lh=.next (LT (zY (Z5 L) (Z5 (.int k)) (Z5 (.str (zm t))) (Z5 (Av Ab q)) (Z5 (.str (xg t a))) Ae (scr ns) (.int p))):=by
 obtain⟨m,m0,e1⟩:=h.mi (70+k) (by omega)
 obtain⟨a,ha,hf,e2⟩:=h.rs p m q hp m0 hq;refine⟨a,ha,hf,?_⟩;have lj:(jq a).length<=10:=(QV hp ha).ln;have b1:Dm .Add (.str (zm t)) (.str sp7)=.ok (.str (zm t++sp7)):=by cases t<;>rfl
 have b2:Dm .Add (.str (zm t++sp7)) (.str (jq a))=.ok (.str (xg t a)):=by
  rw[La,Au]
  .rfl
  .have:(zm t++sp7).length<=5:=by cases t<;>decide
   exact sz7 (by omega)
 generalize Av Ab q=Q,scr ns=S,xg t a=Rw,jq a=J at *;have e3:evE Z (LT (zY (Z5 L) (Z5 (.int k)) (Z5 (.str (zm t))) (Z5 Q) (Z5 (.str (zm t))) Ae S (.int p))) (.bin .Add (.bin .Add (.var 6) (.str (Aj " "))) (.call 359 (.cons (.var 1) (.cons (.var 7) (.cons (.call 354 (.cons (.var 0) (.cons (.bin .Add (.int 70) (.var 5)) .nil))) .nil)))))=.ok (.str Rw):=by
  have z1:evE Z (LT (zY (Z5 L) (Z5 (.int k)) (Z5 (.str (zm t))) (Z5 Q) (Z5 (.str (zm t))) Ae S (.int p))) (.call 354 (.cons (.var 0) (.cons (.bin .Add (.int 70) (.var 5)) .nil)))=.ok (.int m):=by
   show (Z.F 354 [S,.int (70+k)]).bind _=_;rw[e1];rfl
  have z2:evE Z (LT (zY (Z5 L) (Z5 (.int k)) (Z5 (.str (zm t))) (Z5 Q) (Z5 (.str (zm t))) Ae S (.int p))) (.call 359 (.cons (.var 1) (.cons (.var 7) (.cons (.call 354 (.cons (.var 0) (.cons (.bin .Add (.int 70) (.var 5)) .nil))) .nil))))=.ok (.str J):=by
   rw[fK,L5,L5,L5,TN,z1];show (Z.F 359 [.int p,Q,.int m]).bind _=_;rw[e2];rfl
  rw[UZ,TN,z2,fS,UZ];show ((Dm .Add (.str (zm t)) (.str sp7)).bind λx=>(R.ok (D.str J)).bind λy=>Dm .Add x y)=_
  rw[b1];exact b2
 have e4:evE Z (LT (zY (Z5 L) (Z5 (.int k)) (Z5 (.str (zm t))) (Z5 Q) (Z5 (.str (zm t))) Ae S (.int p))) (.or (.cons (.cmp .Eq (.var 6) (.str (Aj "put"))) (.cons (.cmp .Eq (.var 6) (.str (Aj "take"))) .nil)))=.ok (.bl Ab):=by
  cases t<;>rfl
 unfold Lh;refine W8 e4 ?_;exact xY e3 rfl
end
section
variable{Z Z1 Z2 Z3:Z4}{ns:Ac Ai}{p k:Ai}{a q:R3}{l:Ac R3}{hs:Ac (Ac R3)}
theorem Nq{d:D}(e:Z.F 364 [.str w,Av Ab q,A9 l,DG hs]=.ok d):evE Z [Ae,Ae,Ae,Z5 (A9 l),Z5 (DG hs),Ae,Z5 (.str w),Z5 (Av Ab q),Ae,Ae,Ae,Ae,Ae] OU=.ok d:=by
 generalize A9 l=L,Av Ab q=Q,DG hs=P at *;show (Z.F 364 [.str w,Q,L,P]).bind _=_;rw[e];rfl
theorem sD(q:R3)(U:Rho)(hρ:∃ L K W S p',U=LT (zY L K W (Z5 (Av Ab q)) Ae Ae S p')):∀ l:Ac R3,Cu (cG Z U 11 Lj) (cF Z U 11 Md) (l.map (Av Ab))=.ok ((l.filter λx=>!decide (x=q)).map (Av Ab)):=λl=>by
 obtain⟨L,K,W,S,p',rfl⟩:=hρ
 induction l with
 |nil=>rfl
 |cons x l ih=>
  have e:cG Z (LT (zY L K W (Z5 (Av Ab q)) Ae Ae S p')) 11 Lj (Av Ab x)=.ok (!decide (x=q)):=by
   have:Cq .NotEq (Av Ab x) (Av Ab q)=.ok (.bl (!decide (x=q))):=by
    show (if (Y8 5 (Av Ab x)&&Y8 5 (Av Ab q))=Ab then R.ok (D.bl (!My (Av Ab x) (Av Ab q))) else .bad)=_
    rw[M3,Au (by rfl)]
   show (Cq .NotEq (Av Ab x) (Av Ab q)).bind Bs=_;rw[this];rfl
  have e2:cF Z (LT (zY L K W (Z5 (Av Ab q)) Ae Ae S p')) 11 Md (Av Ab x)=.ok (Av Ab x):=rfl;rw[BP];show (cG Z _ 11 Lj (Av Ab x)).bind _=_;rw[e];by_cases c:x=q
  .simp[c];exact ih
  .simp[c,e2];rw[ih];rfl
theorem bb9(t:An)(hl:l.length<=900):Ty Z (LT (zY (Z5 (A9 l)) (Z5 (.int k)) (Z5 (.str (zm t))) (Z5 (Av Ab q)) Ae Ae (scr ns) (.int p))) Nx=.next (LT (zY (Z5 (A9 ((l.filter λx=>!decide (x=q))++if t=Ab then [] else [q]))) (Z5 (.int k)) (Z5 (.str (zm t))) (Z5 (Av Ab q)) Ae Ae (scr ns) (.int p))):=by
 have e:=sD (Z:=Z) q (LT (zY (Z5 (A9 l)) (Z5 (.int k)) (Z5 (.str (zm t))) (Z5 (Av Ab q)) Ae Ae (scr ns) (.int p))) ⟨_,_,_,_,_,rfl⟩ l;have e1:evE Z (LT (zY (Z5 (A9 l)) (Z5 (.int k)) (Z5 (.str (zm t))) (Z5 (Av Ab q)) Ae Ae (scr ns) (.int p))) (.comp Md 11 (.e (.var 3)) Lj)=.ok (.lst ((l.filter λx=>!decide (x=q)).map (Av Ab))):=by
  show (zk (Cu (cG Z _ 11 Lj) (cF Z _ 11 Md) (l.map (Av Ab)))).bind _=_;rw[e];rfl
 have hf:(l.filter λx=>!decide (x=q)).length<=l.length:=X2 _ _
 generalize (l.filter λx=>!decide (x=q))=f at *
 unfold Nx;show (O.of _ (evE Z _ (.comp Md 11 (.e (.var 3)) Lj)) _).seq _=_;rw[e1];cases t with
 |true=>
  rw[Au rfl,BA];rfl
 |false=>
  rw[Ay (by decide)]
  have sz:Db ((f.map (Av Ab)).length+1)=Ab:=GK.mpr (by rw[Bc];omega)
  show O.seq (O.seq (if Db ((f.map (Av Ab)).length+1)=Ab then _ else _) _) _=_
  rw[Au sz];unfold A9;rw[X6];rfl
theorem st6(h:fz Z ns)(hp:P4 p)(hl:∀ x∈l,NF p x):xz Z (LT (zY (Z5 (A9 l)) Ae Ae Ae Ae Ae (scr ns) (.int p))) Nb=.next (LT (zY (Z5 (A9 l)) Ae Ae Ae Ae (Z5 (.tup [.str (Aj "told"),.lst (Ec l)])) (scr ns) (.int p))):=by
 have e:∀(L S:D)(l:Ac R3),(∀ q∈l,NF p q)->Cu (cG Z (LT (zY (Z5 L) Ae Ae Ae Ae Ae S (.int p))) 12 Lk) (cF Z (LT (zY (Z5 L) Ae Ae Ae Ae Ae S (.int p))) 12 Ln) (l.map (Av Ab))=.ok (Ec l):=λL S l hl=>by
  induction l with
  |nil=>rfl
  |cons x l ih=>
   have hx:=hl x (by simp)
   have s:=h.pt p x hp hx.1;have e1:cG Z (LT (zY (Z5 L) Ae Ae Ae Ae Ae S (.int p))) 12 Lk (Av Ab x)=.ok Ab:=rfl;have e2:cF Z (LT (zY (Z5 L) Ae Ae Ae Ae Ae S (.int p))) 12 Ln (Av Ab x)=.ok (.str (tq Af x)):=by
    show (Z.F 358 [Av Ab x]).bind _=_;rw[s];rfl
   rw[BP];show (cG Z _ 12 Lk (Av Ab x)).bind _=_;rw[e1];show (cF Z _ 12 Ln (Av Ab x)).bind _=_;rw[e2];show (Cu _ _ (l.map (Av Ab))).bind _=_;rw[ih λq hq=>hl q (AE _ hq)]
   rfl
 have e1:evE Z (LT (zY (Z5 (A9 l)) Ae Ae Ae Ae Ae (scr ns) (.int p))) (.tup (.cons (.str (Aj "told")) (.cons (.comp Ln 12 (.e (.var 3)) Lk) .nil)))=.ok (.tup [.str (Aj "told"),.lst (Ec l)]):=by
  have ec:evE Z (LT (zY (Z5 (A9 l)) Ae Ae Ae Ae Ae (scr ns) (.int p))) (.comp Ln 12 (.e (.var 3)) Lk)=.ok (.lst (Ec l)):=by
   show (zk (Cu (cG Z _ 12 Lk) (cF Z _ 12 Ln) (l.map (Av Ab)))).bind _=_;rw[e (A9 l) (scr ns) l hl];rfl
  rw[kU,MR,MR,ec];rfl
 unfold Nb;exact W7 e1 rfl
structure jp (p:Ai) (l:Ac R3):Prop where
 ln:l.length<=30
 nd:l.Nodup
 nf:∀ q∈l,NF p q
def Xn(Z:Z4)(GS:Dk->Ac D->RK)(ns:Ac Ai)(p:Ai)(q:Dk)(l:Ac D):Prop:=∃ ts xw,xz Z (LT (zY (Z5 (.lst l)) Ae Ae Ae Ae Ae (scr ns) (.int p))) Nb=.next (LT (zY (Z5 (.lst l)) Ae Ae Ae Ae (Z5 (.tup [.str "told",.lst ts])) (scr ns) (.int p)))/\GS q [.str "points"]=.ok (.tup [.str "told",.lst xw]) q/\Y8 4 (.lst ts)=Ab/\Y8 4 (.lst xw)=Ab/\KK xw ts=Ab/\xw.length<900
theorem pS(h:fz Z ns)(h1:H9 Z1 Z2 p)(h3:ð Z3)(hp:P4 p)(o:jp p l):Xn Z (lc Z1 Z2 Z3) ns p (zu p l hs) (l.map (Av Ab)):=by
 have e:=UL (hs:=hs) h1 o.nf;rw[LV]at e;have s:=Ng h3 e;have f:Y8 4 (.lst (Ec l))=Ab:=by
  show (Ec l).all (Y8 3)=Ab;unfold Ec;rw[Ey,Bh];intro _ _;rfl
 refine⟨Ec l,Ec l,st6 h hp o.nf,?_,f,f,?_,?_⟩
 .rw[LV];exact s
 .rw[LV];exact R6 _
 .unfold Ec;rw[Bc];have:=o.ln;omega
end
section
variable{Z Z1 Z2 Z3:Z4}{ns:Ac Ai}{p:Ai}
theorem jD(l:Ac α)(h:l≠[]):∃ i x,l=i++[x]:=⟨l.dropLast,l.getLast h,(List.dropLast_concat_getLast h).symm⟩
theorem qW{l:Ac R3}(o:jp p l)(hq:NF p q)(h1:q∉l)(h2:¬ l.length=30):jp p (l++[q]):=by
 have:=o.ln;refine⟨by simp;omega,?_,λx hx=>?_⟩
 .rw[List.nodup_append];refine⟨o.nd,by simp,λa ha b hb=>?_⟩
  simp at hb;subst hb;exact λz=>h1 (z ▸ ha)
 .rcases Eh.mp hx with h|h
  .exact o.nf x h
  .simp at h;rw[h];exact hq
theorem lH{l:Ac R3}(o:jp p l):jp p (l.filter λx=>!decide (x=q)):=by
 have:=X2 (λx=>!decide (x=q)) l
 have:=o.ln;exact⟨by omega,o.nd.sublist List.filter_sublist,λx hx=>o.nf x (X8.mp hx).1⟩
theorem pT{l:Ac R3}(h:q∉l):(l.filter λx=>!decide (x=q))=l:=by
 rw[List.filter_eq_self];intro x hx;have:x≠q:=λz=>h (z ▸ hx)
 simp[this]
noncomputable abbrev Lp9(Z:Z4)(GS GY:Dk->Ac D->RK)(ns:Ac Ai)(p:Ai):Ac Ai->Dk->Ac D->Ac D->Prop:=LD Z Nc OI Lh OU Nx GS GY (scr ns) (.int p) (Xn Z GS ns p)
theorem o9(h:fz Z ns)(h1:H9 Z1 Z2 p)(h3:ð Z3)(hp:P4 p):∀(ks:Ac Ai)(l:Ac R3)(hs:Ac (Ac R3)),(∀ k∈ks,0<=k)->jp p l->(∀ g∈hs,jp p g)->hs.length+ks.length<=800->Lp9 Z (lc Z1 Z2 Z3) (Gv Z1 Z2) ns p ks (zu p l hs) (l.map (Av Ab)) (hs.map A9)
 |[],l,hs,_,o,_,_=>pS h h1 h3 hp o
 |k::ks,l,hs,hk,o,os,hz=>by
  have k0:=hk k (by simp)
  have we:∀ k∈ks,0<=k:=λx hx=>hk x (AE _ hx)
  have bw:hs.length+1+ks.length<=800:=by simp at hz;omega
  obtain⟨w,q,hw,hq,e1⟩:=st1 h hp k0 o.nf;rcases hw with rfl|rfl|rfl|rfl
  .obtain⟨a,ha,hf,e3⟩:=WR (k:=k) (L:=A9 l) h hp k0 Af hq;have ed:=Nq (h.dp q l hs o.ln);have es:=jO (l:=l) (hs:=hs) h1 hq.1 hp ha hf o.ln (by omega)
   by_cases c1:q∈l
   .rw[Au c1]at ed es;refine⟨_,_,Aj "alike",Av Ab q,.non,_,_,e1,st2,e3,ed,O7 h3 es (h3.r107 _) ⟨rfl,by decide⟩,rfl,rfl,OT _,λ_=>⟨_,_,es,.inl (by rw[h.up];rfl),rfl,rfl,rfl,?_⟩,?_⟩
    .rw[M3];exact CI rfl
    .rw[Ay (λz=>absurd z.1 (by decide)),Ay (λz=>absurd z.1 (by decide))]
     exact o9 h h1 h3 hp ks l hs we o os (by omega)
   .rw[Ay c1]at ed es;by_cases c2:l.length=30
    .rw[Au c2]at ed es;refine⟨_,_,Aj "many",Av Ab q,.non,_,_,e1,st2,e3,ed,O7 h3 es h3.r15 ⟨rfl,by decide⟩,rfl,rfl,OT _,λz=>absurd z (by decide),?_⟩
     rw[Ay (λz=>absurd z.1 (by decide)),Ay (λz=>absurd z.1 (by decide))]
     exact o9 h h1 h3 hp ks l hs we o os (by omega)
    .rw[Ay c2]at ed es;refine⟨_,_,Aj "told",Av Ab q,_,_,_,e1,st2,e3,ed,Ng (ts:=[Aj (toString ((l.length+1:Ag):Ai))]) h3 es,rfl,rfl,OR _ _,λz=>absurd z (by decide),?_⟩
     rw[Ay (λz=>absurd z.2 (by decide)),Au ⟨rfl,by decide⟩]
     refine⟨by rw[Bc];omega,(l++[q]).map (Av Ab),?_,?_⟩
     .have:=bb9 (Z:=Z) (ns:=ns) (p:=p) (k:=k) (q:=q) (l:=l) Af (by have:=o.ln;omega)
      rwa [pT c1]at this
     .have:=o9 h h1 h3 hp ks (l++[q]) (hs++[l]) we (qW o hq c1 c2) (λg hg=>(Eh.mp hg).elim (os g) λz=>by simp at z;rw[z];exact o) (by rw[BV];simp;omega)
      have e9:(hs++[l]).map A9=hs.map A9++[A9 l]:=by simp
      rwa [e9]at this
  .obtain⟨a,ha,hf,e3⟩:=WR (k:=k) (L:=A9 l) h hp k0 Ab hq;have ed:=Nq (h.dt q l hs o.ln);have es:=eK (l:=l) (hs:=hs) h1 hq.1 hp ha hf o.ln (by omega) o.nd
   by_cases c1:q∈l
   .rw[Au c1]at ed es;refine⟨_,_,Aj "told",Av Ab q,_,_,_,e1,st2,e3,ed,Ng (ts:=[Aj (toString ((l.length-1:Ag):Ai))]) h3 es,rfl,rfl,OR _ _,λz=>absurd z (by decide),?_⟩
    rw[Ay (λz=>absurd z.2 (by decide)),Au ⟨rfl,by decide⟩]
    refine⟨by rw[Bc];omega,(l.filter λx=>!decide (x=q)).map (Av Ab),?_,?_⟩
    .have:=bb9 (Z:=Z) (ns:=ns) (p:=p) (k:=k) (q:=q) (l:=l) Ab (by have:=o.ln;omega)
     rwa [Au rfl,BA]at this
    .have:=o9 h h1 h3 hp ks (l.filter λx=>!decide (x=q)) (hs++[l]) we (lH o) (λg hg=>(Eh.mp hg).elim (os g) λz=>by simp at z;rw[z];exact o) (by rw[BV];simp;omega)
     have e9:(hs++[l]).map A9=hs.map A9++[A9 l]:=by simp
     rwa [e9]at this
   .rw[Ay c1]at ed es;refine⟨_,_,Aj "not on",Av Ab q,.non,_,_,e1,st2,e3,ed,O7 h3 es (h3.r108 _) ⟨rfl,by decide⟩,rfl,rfl,OT _,λ_=>⟨_,_,es,.inr (by rw[h.up];rfl),rfl,rfl,rfl,?_⟩,?_⟩
    .rw[M3];exact CI rfl
    .rw[Ay (λz=>absurd z.1 (by decide)),Ay (λz=>absurd z.1 (by decide))]
     exact o9 h h1 h3 hp ks l hs we o os (by omega)
  .have e3:=WS (Z:=Z) (p:=p) (k:=k) (w:=Aj "undo") (L:=A9 l) (Q:=Av Ab q) (S:=scr ns) (by decide) (by decide)
   by_cases c1:hs=[]
   .subst c1;have ed:=Nq (h.d0 q l);have es:=jN (l:=l) h1;refine⟨_,_,Aj "nothing",Av Ab q,.non,_,_,e1,st2,e3,ed,O7 h3 es h3.r17 ⟨rfl,by decide⟩,rfl,rfl,OT _,λz=>absurd z (by decide),?_⟩
    rw[Ay (λz=>absurd z.1 (by decide)),Ay (λz=>absurd z.1 (by decide))]
    exact o9 h h1 h3 hp ks l [] we o os (by simp at hz ⊢;omega)
   .obtain⟨gs,g,rfl⟩:=jD hs c1;have og:=os g (by simp)
    have ed:=Nq (h.d1 q l g gs og.ln);have es:=jM (l:=l) (hs:=gs) h1 og.ln;refine⟨_,_,Aj "told",Av Ab q,_,_,_,e1,st2,e3,ed,Ng (ts:=[Aj (toString ((g.length:Ag):Ai))]) h3 es,rfl,rfl,OR _ _,λz=>absurd z (by decide),?_⟩
    rw[Au ⟨rfl,rfl⟩];refine⟨g.map (Av Ab),by simp[A9],?_⟩
    have:=o9 h h1 h3 hp ks g gs we og (λx hx=>os x (EN _ hx)) (by rw[BV]at bw;simp at bw;omega)
    have e9:((gs++[g]).map A9).dropLast=gs.map A9:=by simp
    rw[e9];exact this
  .have e3:=WS (Z:=Z) (p:=p) (k:=k) (w:=Aj "points") (L:=A9 l) (Q:=Av Ab q) (S:=scr ns) (by decide) (by decide)
   have ed:=Nq (h.dq p q l hs hp o.nf);have es:=UL (hs:=hs) h1 o.nf;rw[LV]at ed es;refine⟨_,_,Aj "told",Av Ab q,_,_,_,e1,st2,e3,ed,Ng h3 es,by rw[<-LV];exact Xm _ l,by rw[<-LV];exact Xm _ l,OR _ _,λz=>absurd z (by decide),?_⟩
   rw[Ay (λz=>absurd z.2 (by decide)),Ay (λz=>absurd rfl z.2)]
   exact o9 h h1 h3 hp ks l hs we o os (by omega)
end
theorem mk9(c:Ag)(q:R3)(h:ò q):b8 c "triple" [Av Ab q]=.ok ⟨c,[(("triple" : Ah),Av Ab q)]⟩:=by
 obtain⟨p,hp,⟨a0,a1⟩,⟨b0,b1⟩,c0,c1⟩:=h;have:=hp.hi;refine Au ?_;rw[BX];refine .inl ?_;show (Ab&&((decide (0<=q.1)&&decide (q.1<100))&&((decide (0<=q.2.1)&&decide (q.2.1<100))&&((decide (0<=q.2.2)&&decide (q.2.2<100))&&Ab))))=Ab;simp only[Am,AG];exact⟨trivial,⟨a0,by omega⟩,⟨b0,by omega⟩,⟨c0,by omega⟩,trivial⟩
noncomputable def RH:Ag->Ac D->R Ex
 |12,ds=>.ok ⟨12,[]⟩
 |15,ds=>.ok ⟨15,[]⟩
 |17,ds=>.ok ⟨17,[]⟩
 |107,ds=>b8 107 "triple" ds
 |108,ds=>b8 108 "triple" ds
 |_,_=>.bad
noncomputable def G95:Ag->D
 |2=>.tup (llW.map .str)
 |3=>.tup (lmW.map .str)
 |4=>.tup (laW.map .str)
 |5=>.int 30
 |_=>.non
noncomputable def zW:Prg:=⟨Ab,fun
 |1=>QT
 |9=>NL
 |17=>NS
 |25=>P0
 |33=>Pw
 |34=>MK
 |347=>MV
 |348=>MU
 |349=>NK
 |350=>Pi
 |354=>NI
 |355=>Ph
 |93=>MG
 |356=>Pf
 |357=>PX
 |358=>Po
 |359=>Px
 |360=>MH
 |363=>Gp
 |364=>GW
 |900=>uh 0
 |901=>uh 1
 |902=>uh 2
 |910=>kx
 |920=>Z_8
 |931=>Pj
 | _=>⟨0,Af,.nil⟩,G95,Mn,RH⟩
theorem vW(ns:Ac Ai)(hl:ns.length<=63):WZ (Z6 zW 9) Wn Wm Nc OI Lh OU Nx Nb (lc (Z6 zW 6) (Z6 zW 7) (Z6 zW 8)) (Gv (Z6 zW 6) (Z6 zW 7)) (scr ns):=by
 have rs:∀ n,Oi (Z6 zW (n+1)):=λn p m hp=>oB (Z6 zW n) p m hp
 have tu:∀ n,PD (Z6 zW (n+2)):=λn p m hp z=>bP (rs n) p m hp z
 have fo:∀ n,NZ (Z6 zW (n+3)):=λn p b xs l t hp e it=>iH (rs (n+1)) (tu n) hp e it
 have ii:∀ n,Wq (Z6 zW (n+4)):=λn p b q a hp h=>wP (fo n) p b q a hp h
 have ma:∀ n (p:Ai) (b:An) (q a:R3),P4 p->Fm p q a->(Z6 zW (n+5)).F 901 [.int p,Av b q]=.ok (qi p Af a):=λn p b q a hp h=>wO (ii n) 1 p b q a hp h
 have ro:∀ n,Vx (Z6 zW (n+1)):=λn p q hp h=>oA (Z6 zW n) p q hp h
 have sw:∀ n (p:Ai) (q:R3),P4 p->zq p q->(Z6 zW (n+2)).F 931 [qi p Af q]=.ok (.str (tq Af q)):=λn p q hp h=>wI (ro n) p q hp h
 have rr:∀ n,Wp (Z6 zW (n+1)):=λn p x hp h0 h1=>wM (Z6 zW n) p x hp h0 h1
 have tx:∀ n,Rx (Z6 zW (n+1)):=λn p b q hp h=>wE (Z6 zW n) p b q hp h
 have pt:∀ n,Ry (Z6 zW (n+2)):=λn p q hp h=>wN (tx n) p q hp h
 have mi:∀ n,Oj (Z6 zW (n+1)) 354 ns:=λn k hk=>iG (Z6 zW n) ns k hk
 have tr:∀ n,Vy (Z6 zW (n+1)):=λn p k hp=>oF (Z6 zW n) p k hp
 have xn:∀ n,XN9 (Z6 zW (n+1)):=λn=>⟨rfl,λq h=>mk9 107 q h,λq h=>mk9 108 q h,λd=>rfl⟩
 obtain⟨p,hp,ep⟩:=oG (mi 7);have H1:H9 (Z6 zW 6) (Z6 zW 7) p:=⟨λl q hq h=>oC (xn 4) l q ⟨p,hp,hq⟩ h,λl q hq=>iF (xn 4) l q ⟨p,hp,hq⟩,λl h=>oE (ma 0) (sw 3) p l hp h,λa h=>nZ (rr 4) p a hp h,wL (Z6 zW 5) p,λa q h=>wG (fo 3) p a q hp h,wH (Z6 zW 6) p⟩
 have H3:ð (Z6 zW 8):=⟨λts=>nY (Z6 zW 7) ts,λd=>(O9 (Z:=Z6 zW 7) rfl d).1,λd=>(O9 (Z:=Z6 zW 7) rfl d).2.1,(O9 (Z:=Z6 zW 7) rfl .non).2.2.1,(O9 (Z:=Z6 zW 7) rfl .non).2.2.2⟩
 have HL:fz (Z6 zW 9) ns:=⟨mi 8,λp k l hp k0 h=>wJ (mi 7) (tr 7) p k l hp k0 h,λp m q hp m0 h=>wK (tx 7) p m q hp m0 h,pt 7,λq l hs h=>pW (Z6 zW 8) q l hs h,λq l hs h=>jU (Z6 zW 8) q l hs h,λp q l hs hp h=>rT hp (pt 6) q l hs h,λq l=>fN (Z6 zW 8) q l,λq l h hs hh=>fM (Z6 zW 8) q l h hs hh,rfl⟩
 have jy:(Z6 zW 9).F 355 [scr ns]=.ok (.int p):=ep;refine⟨.int p,if (ns.length:Ai)>61 then 61 else (ns.length:Ai),?_,?_,?_,?_,?_⟩
 .generalize scr ns=S at jy ⊢;show ((Z6 zW 9).F 355 [S]).bind _=_;rw[jy];rfl
 .show R.ok (D.int (if (61:Ai)<((ns.map D.int).length:Ag) then 61 else ((ns.map D.int).length:Ag)))=_
  rw[Bc]
 .split<;>omega
 .split<;>omega
 .refine o9 HL H1 H3 hp _ [] [] (λk hk=>?_) ⟨by simp,X9,λ_ h=>by simp at h⟩ (λ_ h=>by simp at h) ?_
  .obtain⟨i,_,rfl⟩:=Ic.mp hk;omega
  .rw[Bc,List.length_range];simp only[X3];split<;>omega
end OvC
namespace OvC
open PySem PySem.Spec PyProof.Rows Ov L2
variable{l:Gc}
noncomputable def Nm:Ac (Ah×Ag×Ag):=([("rest",1,2),("turned_over",9,2),("one_form",17,2),("row_of",25,1),("rest_read",33,2),("rests_read",34,2),("told_by",347,2),("put_in",348,2),("taken_out",349,2),("point_texts",350,2),("_law_mixed",354,2),("_law_prime",355,1),("_law_triple",93,2),("_law_texts",356,1),("_law_text",357,1),("_law_point_text",358,1),("_law_rested",359,3),("_law_refusal",360,1001),("_law_row",363,4),("_law_due",364,4),("1.told",920,1),("1.shown",931,1)]:Ac (Ah×Ag×Ag))
noncomputable def Nw:Ac Ah:=["ValueError", "all", "isinstance", "len", "list", "min", "range", "str", "tuple"]
noncomputable def Mh:Ac (Ah×Ag):=[("NoRow",12),("Alike",107),("TooMany",15),("NotOn",108),("NothingDone",17),("OvalError",0)]
noncomputable def Mc:Ac (Ah×Ag):=[("NoRow",12),("NoTriple",3),("NoCurve",5),("Alike",107),("NotOn",108),("TooMany",15),("NothingDone",17),("NoCount",13),("OnLine",118),("NotWhole",14),("OvalError",0)]
noncomputable def Nl:Ac (Ah×Ag):=[("OF_THE_LIST",2),("MAKE_A_CURVE",3),("ASK_THE_CURVE",4),("MOST",5)]
noncomputable abbrev xj(h:An)(n:Ag)(N:Ac Ah)(i d:Ag):An:=Gw 80 h Nm Nw Mh Mc Nl (N.take n) N (tp95 i) (zW.defs d)
theorem sP:xj Af 2 ["p", "n"] 16 1=Ab:=by decide+kernel
theorem sO:xj Af 2 ["p", "n", "turned"] 17 9=Ab:=by decide+kernel
theorem sN:xj Af 2 ["p", "numbers", "rests", "first", "factor", "#5", "#6"] 19 17=Ab:=by decide+kernel
theorem sM:xj Af 1 ["triple", "#1"] 22 25=Ab:=by decide+kernel
theorem sL:xj Af 2 ["p", "word", "number"] 91 33=Ab:=by decide+kernel
theorem sK:xj Af 2 ["p", "words", "rests", "#3"] 92 34=Ab:=by decide+kernel
theorem sJ:xj Af 2 ["p", "rests"] 100 347=Ab:=by decide+kernel
theorem sI:xj Af 2 ["points", "point"] 101 348=Ab:=by decide+kernel
theorem sH:xj Af 2 ["points", "point", "#2"] 102 349=Ab:=by decide+kernel
theorem mV:xj Af 2 ["p", "points", "#2"] 103 350=Ab:=by decide+kernel
theorem mU:xj Af 2 ["_law_script", "_law_k", "_law_cell"] 109 354=Ab:=by decide+kernel
theorem mT:xj Af 1 ["_law_script"] 110 355=Ab:=by decide+kernel
theorem mR:xj Af 2 ["_law_p", "_law_number"] 111 93=Ab:=by decide+kernel
theorem mQ:xj Af 1 ["_law_found", "#1"] 113 356=Ab:=by decide+kernel
theorem mP:xj Af 1 ["_law_numbers", "#1"] 114 357=Ab:=by decide+kernel
theorem mO:xj Af 1 ["_law_point"] 115 358=Ab:=by decide+kernel
theorem mM:xj Af 3 ["_law_p", "_law_triple_here", "_law_cell", "_law_times", "#4"] 116 359=Ab:=by decide+kernel
theorem mL:xj Ab 1 ["_law_error", "_law_told", "_law_names"] 117 360=Ab:=by decide+kernel
theorem mK:xj Af 4 ["_law_script", "_law_p", "_law_k", "_law_listed", "_law_cell", "_law_point"] 120 363=Ab:=by decide+kernel
theorem jY:xj Af 4 ["_law_word", "_law_point", "_law_listed", "_law_past", "#4"] 121 364=Ab:=by decide+kernel
theorem fQ:Gw 80 Af Nm Nw Mh Mc Nl ["self"] ["self"] (HN (tp95 23) 1) (zW.defs 920)=Ab:=by decide+kernel
theorem fP:Gw 80 Af Nm Nw Mh Mc Nl ["self"] ["self"] (HN (tp95 24) 0) (zW.defs 931)=Ab:=by decide+kernel
theorem zE:Nt 80 Nm Nw Mh Mc Nl (HN (tp95 23) 0)=Ab:=by decide+kernel
theorem kL:Nr "OvalError" "triple" "triple" (Oo (tp95 12))=Ab:=by decide+kernel
theorem kK:Nr "OvalError" "triple" "triple" (Oo (tp95 13))=Ab:=by decide+kernel
set_option maxHeartbeats 0 in
theorem all95{w:AI}{K:Fg}{h:AJ}{mg:Ah->Ao Al}{fa f0 f1 f2 f3 f4 f5 f6 f7 f8 f9 f10 f11 f12 f13 f14 f15 f16 f17 f18 f19 f20 f21 f22 f23 x0 x1 x2 x3 x4 x5 x6 x7 x8 x9 x10 ix1 ix3:Ak}(X:K.In h)(G:h.Ns AO mg)(hfa:mg "law" = Aa (.ref fa)){o0 o1 o2 mt ms0 ms1 ms2 fi:Ak}{oD d0 d1 d2 d3 d4 d5 gC:Ak}{eC:Ag}{tC0 uC0 tC1 uC1 tC2 uC2 tC3 uC3 tC4 uC4 tC5 uC5 tC6 uC6 tC7 uC7 tC8 uC8 tC9 uC9 eg fg ek fj et fq:Ce}{g2:Ak}{ü:Ao Ak}{gm2:Ag}{gs2:Bl (Ao Al)}{þ ÿ aa:Ce}{g3:Ak}{Æ:Ao Ak}{gm3:Ag}{gs3:Bl (Ao Al)}{ac ad:Ce}{g4:Ak}{gd4:Ao Ak}{gm4:Ag}{gs4:Bl (Ao Al)}{af ag ah ai:Ce}{gu5:Ce}(a0:za K f0 "rest" (tp95 16))(a1:za K f1 "turned_over" (tp95 17))(a2:za K f2 "one_form" (tp95 19))(a3:za K f3 "row_of" (tp95 22))(a4:za K f4 "rest_read" (tp95 91))(a5:za K f5 "rests_read" (tp95 92))(a6:za K f6 "rests_of_row" (tp95 99))(a7:za K f7 "told_by" (tp95 100))(a8:za K f8 "put_in" (tp95 101))(a9:za K f9 "taken_out" (tp95 102))(a10:za K f10 "point_texts" (tp95 103))(a11:za K f11 "_law_mixed" (tp95 109))(a12:za K f12 "_law_prime" (tp95 110))(a13:za K f13 "_law_triple" (tp95 111))(a14:za K f14 "_law_texts" (tp95 113))(a15:za K f15 "_law_text" (tp95 114))(a16:za K f16 "_law_point_text" (tp95 115))(a17:za K f17 "_law_rested" (tp95 116))(a18:za K f18 "_law_refusal" (tp95 117))(a19:za K f19 "_law_said" (tp95 118))(a20:za K f20 "_law_field" (tp95 119))(a21:za K f21 "_law_row" (tp95 120))(a22:za K f22 "_law_due" (tp95 121))(a23:za K f23 "law" (tp95 122))(Ò:OA K "Triple" o0 mt ms0 fi)(nq:OA K "Point" o1 mt ms1 fi)(Ó:OA K "Line" o2 mt ms2 fi)(kt0:gg K o0 [(o0,Ab),(o1,Af),(o2,Af)])(kt1:gg K o1 [(o0,Ab),(o1,Ab),(o2,Af)])(kt2:gg K o2 [(o0,Ab),(o1,Af),(o2,Ab)])(ii:gf K fi "Triple.__init__" (HN (tp95 23) 0))(sj:oj K mt "told" "Triple.told" (HN (tp95 23) 1))(sk:oj K ms1 "shown" "Point.shown" (HN (tp95 24) 0))(da:DA K oD d0 d1 d2 d3 d4 d5)(di:gf K d0 "Desk.__init__" (HN (tp95 107) 0))(dm1:oj K d1 "say" "Desk.say" (HN (tp95 107) 1))(dm2:oj K d2 "list_changed" "Desk.list_changed" (HN (tp95 107) 4))(dm3:oj K d3 "changed" "Desk.changed" (HN (tp95 107) 5))(dm4:oj K d4 "undone" "Desk.undone" (HN (tp95 107) 6))(dm5:oj K d5 "list_asked" "Desk.list_asked" (HN (tp95 107) 7))(nC:Bb K AO "COUNTS" = Aa (Aa (.ref gC)))(lC:K.lookup gC=Aa ⟨.type "dict",Ae,.dict #[⟨Ci w.params "put",.str "put" tC0,.int 3 uC0⟩,⟨Ci w.params "take",.str "take" tC1,.int 3 uC1⟩,⟨Ci w.params "grow",.str "grow" tC2,.int 0 uC2⟩,⟨Ci w.params "five",.str "five" tC3,.int 0 uC3⟩,⟨Ci w.params "curve",.str "curve" tC4,.int 6 uC4⟩,⟨Ci w.params "undo",.str "undo" tC5,.int 0 uC5⟩,⟨Ci w.params "points",.str "points" tC6,.int 0 uC6⟩,⟨Ci w.params "look",.str "look" tC7,.int 0 uC7⟩,⟨Ci w.params "draw",.str "draw" tC8,.int 0 uC8⟩,⟨Ci w.params "kind",.str "kind" tC9,.int 0 uC9⟩,⟨Ci w.params "side",.str "side" eg,.int 3 fg⟩,⟨Ci w.params "polar",.str "polar" ek,.int 3 fj⟩,⟨Ci w.params "pole",.str "pole" et,.int 3 fq⟩] eC,#[]⟩)(sC:(gC==GP)=Af)(gu:XA K "NoRow" x0 Ae)(gv:XB K "Alike" x1 ix1 "Alike.__init__" (Oo (tp95 12)))(gw:XA K "TooMany" x2 Ae)(gy:XB K "NotOn" x3 ix3 "NotOn.__init__" (Oo (tp95 13)))(gz:XA K "NothingDone" x4 Ae)(mz:XA K "OvalError" x5 Ae)(Ø:XO K x5)(ϻ:XE K "NoTriple" x6)(À:XE K "NoCurve" x7)(Á:XE K "NoCount" x8)(Â:XE K "OnLine" x9)(oo:XE K "NotWhole" x10)(sx0:uc K x0 [(x0,Ab),(x1,Af),(x2,Af),(x3,Af),(x4,Af),(x5,Af)])(sx6:uc K x6 [(x0,Af),(x1,Af),(x2,Af),(x3,Af),(x4,Af),(x5,Af)])(sx7:uc K x7 [(x0,Af),(x1,Af),(x2,Af),(x3,Af),(x4,Af),(x5,Af)])(sx1:uc K x1 [(x0,Af),(x1,Ab),(x2,Af),(x3,Af),(x4,Af),(x5,Af)])(sx3:uc K x3 [(x0,Af),(x1,Af),(x2,Af),(x3,Ab),(x4,Af),(x5,Af)])(sx2:uc K x2 [(x0,Af),(x1,Af),(x2,Ab),(x3,Af),(x4,Af),(x5,Af)])(sx4:uc K x4 [(x0,Af),(x1,Af),(x2,Af),(x3,Af),(x4,Ab),(x5,Af)])(sx8:uc K x8 [(x0,Af),(x1,Af),(x2,Af),(x3,Af),(x4,Af),(x5,Af)])(sx9:uc K x9 [(x0,Af),(x1,Af),(x2,Af),(x3,Af),(x4,Af),(x5,Af)])(lz:uc K x10 [(x0,Af),(x1,Af),(x2,Af),(x3,Af),(x4,Af),(x5,Af)])(sx5:uc K x5 [(x0,Ab),(x1,Ab),(x2,Ab),(x3,Ab),(x4,Ab),(x5,Ab)])(gn2:Bb K AO "OF_THE_LIST" = Aa (Aa (.ref g2)))(gk2:K.lookup g2=Aa ⟨.type "tuple",ü,.seq #[.str (Aj "put") þ,.str (Aj "take") ÿ,.str (Aj "grow") aa] gm2,gs2⟩)(gn3:Bb K AO "MAKE_A_CURVE" = Aa (Aa (.ref g3)))(gk3:K.lookup g3=Aa ⟨.type "tuple",Æ,.seq #[.str (Aj "five") ac,.str (Aj "curve") ad] gm3,gs3⟩)(gn4:Bb K AO "ASK_THE_CURVE" = Aa (Aa (.ref g4)))(gk4:K.lookup g4=Aa ⟨.type "tuple",gd4,.seq #[.str (Aj "kind") af,.str (Aj "side") ag,.str (Aj "polar") ah,.str (Aj "pole") ai] gm4,gs4⟩)(gn5:Bb K AO "MOST" = Aa (Aa (.int 30 gu5)))(z0:Bb K AO "ValueError" = Aa Ae)(z1:Bb K AO "all" = Aa Ae)(z2:Bb K AO "isinstance" = Aa Ae)(z3:Bb K AO "len" = Aa Ae)(z4:Bb K AO "list" = Aa Ae)(z5:Bb K AO "min" = Aa Ae)(z6:Bb K AO "range" = Aa Ae)(z7:Bb K AO "str" = Aa Ae)(z8:Bb K AO "tuple" = Aa Ae):
  ∃ fd:Bi,(∀(s:Ar)(v:Al),Gy s fd ⟨[v],[]⟩ [("_law_script",v)])/\∀ base:AJ,K.In base->base.Ns AO mg->Y4 l.prog w K mg base (CXR l.prog w) 10 fa fd ["_law_script"] (Na K):=by
 obtain⟨_,F,e⟩:=a23;obtain⟨_,_,_,_,_,_,_,_,_,rfl,_,_⟩:=F.ex;cases hfa.symm.trans (A3 X G e);have XT95:XT zW.up zW.xn (mw [(12,x0),(107,x1),(15,x2),(108,x3),(17,x4),(0,x5)]) Mh Mc K mg:=by
  refine uE (all_cons (gu.row λ_=>by first|exact .inr rfl|exact .inl rfl) (all_cons (XB.row X G gv Ø mz.n (.inl rfl) kL (λ_ _ _ _ _ _ _ _=>rfl) λ_=>rfl) (all_cons (gw.row λ_=>by first|exact .inr rfl|exact .inl rfl) (all_cons (XB.row X G gy Ø mz.n (.inl rfl) kK (λ_ _ _ _ _ _ _ _=>rfl) λ_=>rfl) (all_cons (gz.row λ_=>by first|exact .inr rfl|exact .inl rfl) (all_cons (mz.row λ_=>by first|exact .inr rfl|exact .inl rfl) (all_nil))))))) (all_cons ⟨_,rfl,A3 X G gu.n⟩ (all_cons ⟨_,rfl,A3 X G gv.a.n⟩ (all_cons ⟨_,rfl,A3 X G gw.n⟩ (all_cons ⟨_,rfl,A3 X G gy.a.n⟩ (all_cons ⟨_,rfl,A3 X G gz.n⟩ (all_cons ⟨_,rfl,A3 X G mz.n⟩ (all_nil))))))) (all_cons ⟨_,A3 X G gu.n,gu.kc,sx0⟩ (all_cons ⟨_,A3 X G ϻ.n,ϻ.kc,sx6⟩ (all_cons ⟨_,A3 X G À.n,À.kc,sx7⟩ (all_cons ⟨_,A3 X G gv.a.n,gv.a.kc,sx1⟩ (all_cons ⟨_,A3 X G gy.a.n,gy.a.kc,sx3⟩ (all_cons ⟨_,A3 X G gw.n,gw.kc,sx2⟩ (all_cons ⟨_,A3 X G gz.n,gz.kc,sx4⟩ (all_cons ⟨_,A3 X G Á.n,Á.kc,sx8⟩ (all_cons ⟨_,A3 X G Â.n,Â.kc,sx9⟩ (all_cons ⟨_,A3 X G oo.n,oo.kc,lz⟩ (all_cons ⟨_,A3 X G mz.n,mz.kc,sx5⟩ (all_nil)))))))))))) ?_
  intro c q ds;show RH c ds=.bad;unfold RH;split<;>first|rfl|exact absurd rfl (q ("NoRow",12) (by decide))|exact absurd rfl (q ("Alike",107) (by decide))|exact absurd rfl (q ("TooMany",15) (by decide))|exact absurd rfl (q ("NotOn",108) (by decide))|exact absurd rfl (q ("NothingDone",17) (by decide))|exact absurd rfl (q ("OvalError",0) (by decide))
 have T:ww K mg (mw [(12,x0),(107,x1),(15,x2),(108,x3),(17,x4),(0,x5)]) Nm Nw Mh Mc Nl zW 80:=⟨vF X G Ò nq Ó kt0 kt1 kt2,uT Ò nq Ó ii zE rfl rfl rfl rfl λ_ _ _ _ _ _ _ _ _=>rfl,XT95,all_cons (CD X G z0) (all_cons (CD X G z1) (all_cons (CD X G z2) (all_cons (CD X G z3) (all_cons (CD X G z4) (all_cons (CD X G z5) (all_cons (CD X G z6) (all_cons (CD X G z7) (all_cons (CD X G z8) (all_nil))))))))),all_cons (Qp (is:=[Aj "put",Aj "take",Aj "grow"]) (A3 X G gn2) gk2 (.cons ⟨_,rfl⟩ (.cons ⟨_,rfl⟩ (.cons ⟨_,rfl⟩ (.nil)))) (by simp)) (all_cons (Qp (is:=[Aj "five",Aj "curve"]) (A3 X G gn3) gk3 (.cons ⟨_,rfl⟩ (.cons ⟨_,rfl⟩ (.nil))) (by simp)) (all_cons (Qp (is:=[Aj "kind",Aj "side",Aj "polar",Aj "pole"]) (A3 X G gn4) gk4 (.cons ⟨_,rfl⟩ (.cons ⟨_,rfl⟩ (.cons ⟨_,rfl⟩ (.cons ⟨_,rfl⟩ (.nil))))) (by simp)) (all_cons (qP (A3 X G gn5)) (all_nil)))),all_cons (Iu 2 1 (by decide+kernel) X G a0 rfl sP λ_ _ _ _ _ _ _ _=>rfl) (all_cons (Iu 2 9 (by decide+kernel) X G a1 rfl sO λ_ _ _ _ _ _ _ _=>rfl) (all_cons (Iu 2 17 (by decide+kernel) X G a2 rfl sN λ_ _ _ _ _ _ _ _=>rfl) (all_cons (Mp 1 25 (by decide+kernel) X G a3 rfl sM λ_ _ _ _ _ _ _=>rfl) (all_cons (Iu 2 33 (by decide+kernel) X G a4 rfl sL λ_ _ _ _ _ _ _ _=>rfl) (all_cons (Iu 2 34 (by decide+kernel) X G a5 rfl sK λ_ _ _ _ _ _ _ _=>rfl) (all_cons (Iu 2 347 (by decide+kernel) X G a7 rfl sJ λ_ _ _ _ _ _ _ _=>rfl) (all_cons (Iu 2 348 (by decide+kernel) X G a8 rfl sI λ_ _ _ _ _ _ _ _=>rfl) (all_cons (Iu 2 349 (by decide+kernel) X G a9 rfl sH λ_ _ _ _ _ _ _ _=>rfl) (all_cons (Iu 2 350 (by decide+kernel) X G a10 rfl mV λ_ _ _ _ _ _ _ _=>rfl) (all_cons (Iu 2 354 (by decide+kernel) X G a11 rfl mU λ_ _ _ _ _ _ _ _=>rfl) (all_cons (Mp 1 355 (by decide+kernel) X G a12 rfl mT λ_ _ _ _ _ _ _=>rfl) (all_cons (Iu 2 93 (by decide+kernel) X G a13 rfl mR λ_ _ _ _ _ _ _ _=>rfl) (all_cons (Mp 1 356 (by decide+kernel) X G a14 rfl mQ λ_ _ _ _ _ _ _=>rfl) (all_cons (Mp 1 357 (by decide+kernel) X G a15 rfl mP λ_ _ _ _ _ _ _=>rfl) (all_cons (Mp 1 358 (by decide+kernel) X G a16 rfl mO λ_ _ _ _ _ _ _=>rfl) (all_cons (yY 3 359 (by decide+kernel) X G a17 rfl mM λ_ _ _ _ _ _ _ _ _=>rfl) (all_cons (Mp 1001 360 (by decide+kernel) X G a18 rfl mL λ_ _ _ _ _ _ _=>rfl) (all_cons (Wu 4 363 (by decide+kernel) X G a21 rfl mK λ_ _ _ _ _ _ _ _ _ _=>rfl) (all_cons (Wu 4 364 (by decide+kernel) X G a22 rfl jY λ_ _ _ _ _ _ _ _ _ _=>rfl) (all_cons (WU 920 (by decide+kernel) (KN (by decide:1<3) nq.n) nq.ft sj fQ λ_ _ _ _ _ _ _=>rfl) (all_cons (WU 931 (by decide+kernel) (KN (by decide:1<3) nq.n) nq.fs sk fP λ_ _ _ _ _ _ _=>rfl) (all_nil))))))))))))))))))))))⟩
 obtain⟨_,Fi⟩:=di;obtain⟨_,Fs⟩:=dm1;obtain⟨_,Fl⟩:=dm2;obtain⟨_,Fc⟩:=dm3;obtain⟨_,Fu⟩:=dm4;obtain⟨_,Fa⟩:=dm5;obtain⟨_,Fr,er⟩:=a6;obtain⟨_,Fd,ed⟩:=a19;obtain⟨_,Ff,ef⟩:=a20;have cC:Mf l.prog w K gC KW:=sG (xs:=[("put",3,tC0,uC0),("take",3,tC1,uC1),("grow",0,tC2,uC2),("five",0,tC3,uC3),("curve",6,tC4,uC4),("undo",0,tC5,uC5),("points",0,tC6,uC6),("look",0,tC7,uC7),("draw",0,tC8,uC8),("kind",0,tC9,uC9),("side",3,eg,fg),("polar",3,ek,fj),("pole",3,et,fq)]) sC lC rfl
 refine' ⟨_,?b,λbase _ _=>?g⟩
 case g=>
  have CH:=sQ (P:=l.prog) (w:=w) (mg:=mg) (base:=base) (CL:=(mw [(12,x0),(107,x1),(15,x2),(108,x3),(17,x4),(0,x5)])) (n:=5) da.d (Hl Fc) (by decide+kernel) (by decide+kernel) rfl
  have LC:=rH (P:=l.prog) (w:=w) (base:=base) (n:=6) (ip:=348) (it:=349) T da.d (Hl Fl) (by decide+kernel) rfl (by decide+kernel) (by decide+kernel) (by decide+kernel) (by decide+kernel) ⟨rfl,rfl⟩ (by decide+kernel) (by decide+kernel) (by decide+kernel) da.c (Fc.binds λkV doc pm an cdv ct us hu=>match us,hu with | [u0,u1,u2],_=>rfl) CH
  have UN:=lP (P:=l.prog) (w:=w) (base:=base) (n:=6) (txt := "there is nothing to undo") T da.d (Hl Fu) (by decide+kernel) rfl (by decide+kernel) (by decide+kernel) (by decide+kernel) (by decide+kernel) (by decide+kernel) (by decide+kernel) rfl
  have LA:=rC (P:=l.prog) (w:=w) (base:=base) (n:=6) (id:=350) T da.d (Hl Fa) (by decide+kernel) rfl (by decide+kernel) (by decide+kernel) rfl (by decide+kernel)
  have RR:=nX (P:=l.prog) (w:=w) (base:=base) (n:=6) (ir:=34) (txt := "no row of a desk") T cC (A3 X G nC) (Hl Fr) (by decide+kernel) rfl (by decide+kernel) (by decide+kernel) (by decide+kernel) (by decide+kernel) (by decide+kernel) (by decide+kernel) (λ_ _=>rfl) (by decide+kernel) (by decide+kernel) rfl
  have SA:=nU (P:=l.prog) (w:=w) (base:=base) (n:=7) (tb:=347) (cs:=gq) (ga:=4) (gm:=3) (gl:=2) (la:=laW) (lm:=lmW) (ll:=llW) T da.d (Hl Fs) (by decide+kernel) rfl (by decide+kernel) (by decide+kernel) (by decide+kernel) (by decide+kernel) (by decide+kernel) (by decide+kernel) (by decide+kernel) (by decide+kernel) (by decide+kernel) (by decide+kernel) (by decide+kernel) rfl rfl rfl (A3 X G er) Fr.kp (Fr.binds λkV doc pm an cdv ct us hu=>match us,hu with | [u0,u1],_=>rfl) RR da.l (Fl.binds λkV doc pm an cdv ct us hu=>match us,hu with | [u0,u1,u2],_=>rfl) LC da.u (Fu.binds λkV doc pm an cdv ct us hu=>match us,hu with | [u0],_=>rfl) UN da.a (Fa.binds λkV doc pm an cdv ct us hu=>match us,hu with | [u0,u1],_=>rfl) LA
  have SD:=jQ (P:=l.prog) (w:=w) (base:=base) (n:=8) (tx:=356) (rf:=360) T da.d (Hl Fd) (by decide+kernel) rfl (by decide+kernel) (by decide+kernel) (by decide+kernel) (by decide+kernel) da.s (Fs.binds λkV doc pm an cdv ct us hu=>match us,hu with | [u0,u1],_=>rfl) SA
  have FL:=fH (P:=l.prog) (w:=w) (base:=base) (n:=8) T da.d (Hl Ff) (by decide+kernel) rfl (by decide+kernel) (by decide+kernel) (by decide+kernel) (by decide+kernel) da.s (Fs.binds λkV doc pm an cdv ct us hu=>match us,hu with | [u0,u1],_=>rfl) SA
  have IN:=qG (P:=l.prog) (w:=w) (mg:=mg) (base:=base) (n:=7) da.d (Hl Fi) (by decide+kernel) rfl
  have LW:=rJ (n:=8) (c1:=Wn) (cB:=Wm) (c4:=OU) (s1:=Nc) (s2:=OI) (s3:=Lh) (s6:=Nb) (bb:=Nx) T da.d (Hl F) (by decide+kernel) rfl (by decide+kernel) (by decide+kernel) (by decide+kernel) (by decide+kernel) (by decide+kernel) (by decide+kernel) (by decide+kernel) (by decide+kernel) (by decide+kernel) (by decide+kernel) (by decide+kernel) (by decide+kernel) (by decide+kernel) (by decide+kernel) (by decide+kernel) da.m (A3 X G da.n) (Fi.binds λkV doc pm an cdv ct us hu=>match us,hu with | [u0,u1],_=>rfl) IN (A3 X G ed) Fd.kp (Fd.binds λkV doc pm an cdv ct us hu=>match us,hu with | [u0,u1],_=>rfl) SD (A3 X G ef) Ff.kp (Ff.binds λkV doc pm an cdv ct us hu=>match us,hu with | [u0,u1],_=>rfl) FL vW
  exact LW
 case b=>exact λs v=>.of_eq rfl
theorem walk95{q:AK}{loose:Ac Ah}{XP:(Ah->Ao Al)->AJ->Prop}{YP:AI->AJ->Prop}{d:DefRec}{K:MB->Fg}(hn:l.most=Aa 63)(ar:d.params.defaults=[])(hY:∀(w:AI)(h:AJ),YP w h->(K w.params).In h)(F:∀(w:AI)(mg:Ah->Ao Al)(fa:Ak)(h:AJ),(K w.params).In h->h.Ns AO mg->mg d.name=Aa (.ref fa) ->
   ∃ fd:Bi,(∀(s:Ar)(u:Al),Gy s fd ⟨[u],[]⟩ [("_law_script",u)])/\∀ base:AJ,(K w.params).In base->base.Ns AO mg->Y4 l.prog w (K w.params) mg base (CXR l.prog w) 10 fa fd ["_law_script"] (Na (K w.params))):ZD q loose XP YP l.row.toRowW d [] (λf vs=>LL f vs):=
 L2.walk_of (n:=63) (k:=10) (x := "_law_script") (CX:=λw=>CXR l.prog w) (sp:=λw=>Na (K w.params)) hn (by decide) ar ⟨rfl,by decide,by decide,rfl⟩ hY F (λ_ H a ns hl _ hS=>⟨a,ns,rfl,hl,hS,λ_ _ z=>z⟩) λ_ _ _ _ _ z=>rY z
end OvC
open PySem PySem.W PyProof.Rows
set_option hygiene false
set_option maxRecDepth 100000 in
set_option maxHeartbeats 0 in
theorem PySem.Challenge.cw_ovalfield_k95_a_list_of_points_holds : PySem.Challenge.rw_ovalfield_k95_a_list_of_points.Holds := by
 refine OvC.hold95.go (λw os=>(OvC.reckA95 w os).1) (λw os=>(OvC.reckA95 w os).2.1) (λw os=>(OvC.reckA95 w os).2.2.1) (λw os=>(OvC.reckA95 w os).2.2.2.1) (λw os=>(OvC.reckA95 w os).2.2.2.2.1) (λw os=>(OvC.reckA95 w os).2.2.2.2.2.1) (λw os=>(OvC.reckA95 w os).2.2.2.2.2.2.1) (λw os=>(OvC.reckA95 w os).2.2.2.2.2.2.2.1) (λw os=>(OvC.reckA95 w os).2.2.2.2.2.2.2.2.1) (λw os=>(OvC.reckA95 w os).2.2.2.2.2.2.2.2.2) (λw os=>OvC.reck95_2 w os) ?_
 intro dm;refine OvC.walk95 (l:=PySem.Challenge.rw_ovalfield_k95_a_list_of_points) rfl rfl (λw h Y_=>ZH Y_) ?F
 case F=>
  intro w mg fa h KX G kn
  refine' OvC.all95 KX G kn ?a0 ?a1 ?a2 ?a3 ?a4 ?a5 ?a6 ?a7 ?a8 ?a9 ?a10 ?a11 ?a12 ?a13 ?a14 ?a15 ?a16 ?a17 ?a18 ?a19 ?a20 ?a21 ?a22 ?a23 ?Ò ?nq ?Ó ?kt0 ?kt1 ?kt2 ?ii ?sj ?sk ?da ?di ?dm1 ?dm2 ?dm3 ?dm4 ?dm5 ?nC ?lC ?sC ?gu ?gv ?gw ?gy ?gz ?mz ?Ø ?ϻ ?À ?Á ?Â ?oo ?sx0 ?sx6 ?sx7 ?sx1 ?sx3 ?sx2 ?sx4 ?sx8 ?sx9 ?lz ?sx5 ?gn2 ?gk2 ?gn3 ?gk3 ?gn4 ?gk4 ?gn5 ?z0 ?z1 ?z2 ?z3 ?z4 ?z5 ?z6 ?z7 ?z8
  case a0|a1|a2|a3|a4|a5|a6|a7|a8|a9|a10|a11|a12|a13|a14|a15|a16|a17|a18|a19|a20|a21|a22|a23=>(refine' Ov.fni ?a ?l ?c ?k;(case a=>k_is);(case l=>k_is);(case c=>k_is);(case k=>k_is))
  case Ò|nq|Ó=>(refine' Ov.oa_mk ?n ?i ?ft ?fs ?q1 ?q2 ?q3 ?q4 ?q5 ?q6 ?q7 ?q8 ?q9 ?r1 ?r2 ?r3 ?r4 ?r5 ?r6;(case n=>k_is);(case i=>k_is);(case ft=>k_is);(case fs=>k_is);(case q1|q2|q3|q4|q5|q6|q7|q8|q9|r1|r2|r3|r4|r5|r6=>k_is))
  case kt0|kt1|kt2=>(refine' Ov.all_cons ?q0 (Ov.all_cons ?q1 (Ov.all_cons ?q2 Ov.all_nil));(case q0|q1|q2=>dsimp only;kit_is))
  case ii=>(refine' Ov.ini_mk ?l ?m ?k;(case l=>k_is);(case m=>k_is);(case k=>k_is))
  case sj|sk=>(refine' Ov.mei ?l ?m ?k;(case l=>k_is);(case m=>k_is);(case k=>k_is))
  case da=>(refine' Ov.da_mk ?n ?i ?a1 ?a2 ?a3 ?a4 ?a5 ?p1 ?p2 ?p3 ?p4 ?p5 ?p6 ?p7 ?p8 ?p9 ?p10 ?w4 ?wg ?ux ?uj ?uk ?ul ?vj ?um ?pf ?nu ?nv;(case n=>k_is);(case i=>k_is);(case a1=>k_is);(case a2=>k_is);(case a3=>k_is);(case a4=>k_is);(case a5=>k_is);(case p1|p2|p3|p4|p5|p6|p7|p8|p9|p10|w4|wg|ux|uj|uk|ul|vj|um|pf|nu|nv=>k_is))
  case di=>(refine' Ov.ini_mk ?l ?m ?k;(case l=>k_is);(case m=>k_is);(case k=>k_is))
  case dm1|dm2|dm3|dm4|dm5=>(refine' Ov.mei ?l ?m ?k;(case l=>k_is);(case m=>k_is);(case k=>k_is))
  case nC=>k_is
  case lC=>k_is
  case sC=>rfl
  case gu|gw|gz|mz=>(refine' Ov.xa_mk ?n (Ov.xcls_l ?e) ?d ?f ?g ?r ?a ?b ?c ?o ?h ?v;(case n=>k_is);(case e=>k_exc);(case d=>kernel_rfl);(case f|g|r|a|b|c|o|h|v=>k_is))
  case gv|gy=>(refine' Ov.XB.mk ?i (Ov.xa_mk ?n ?e ?d ?f ?g ?r ?a ?b ?c ?o ?h ?v) (Ov.ini_mk ?l ?m ?k) ?t ?s;(case n=>k_is);(case i=>k_is);(case l=>k_is);(case e|d=>kernel_rfl);(case m|k|t|s|f|g|r|a|b|c|o|h|v=>k_is))
  case ϻ|À|Á|Â|oo=>(refine' Ov.XE.mk ?a ?b ?c;(case a=>k_is);(case b|c=>k_is))
  case Ø=>(refine' Ov.XO.mk ?a ?b ?c;(case a|b|c=>k_is))
  case sx0|sx6|sx7|sx1|sx3|sx2|sx4|sx8|sx9|lz|sx5=>(refine' Ov.all_cons ?q0 (Ov.all_cons ?q1 (Ov.all_cons ?q2 (Ov.all_cons ?q3 (Ov.all_cons ?q4 (Ov.all_cons ?q5 (Ov.all_nil))))));(case q0|q1|q2|q3|q4|q5=>dsimp only;k_is))
  case gn2|gk2|gn3|gk3|gn4|gk4|gn5|z0|z1|z2|z3|z4|z5|z6|z7|z8=>k_is
import PyProof.Rows.All
import Wide.All
import OpenK.AllK
import Wide.FinOn
import PyProof.EqAt
import KE.KSortTup
import PyProof.EqKinds
import PyProof.TupleCall
import Lean
import PySem.Challenge.RW_ovalfield_k95_a_list_of_points
set_option Elab.async false
set_option linter.all false
set_option maxRecDepth 100000
set_option maxHeartbeats 4000000
open Option renaming some→Aa,none→Af,bind_eq_some_iff→AC,isSome_iff_exists→Cz,isNone_iff_eq_none→DX,bind_some→Ig,getD_none→YG,isSome→YH,map_some→YI
open Bool renaming true→Ab,false→Ae,and_eq_true→An,false_ne_true→Ax,not_eq_true'→Bf,or_eq_true→BV,eq_iff_iff→DM,or_false→DQ,and_false→Jf,and_true→JU,or_true→J4,false_eq_true→X2
open _root_ renaming List→Ac,Nat→Ag,Int→Ai,Bool→Am,Option→Ao,if_pos→Au,if_neg→Ay,beq_iff_eq→AF,of_decide_eq_true→AJ,decide_eq_true_eq→AM,False→AN,beq_eq_false_iff_ne→Bg,Array→Bl,decide_eq_false→BH,dif_neg→B7,beq_self_eq_true→Cv,decide_eq_true→CG,String→CP,Unit→D9,if_true→EM,bne_iff_ne→E8,True→F7,ne_true_of_eq_false→Hc,Decidable→IA,if_false→JS,ne_eq→JT,not_or→NJ
open PySem renaming Str→Ah,Addr→Ak,Value→Al,Expr→Aq,Shared→Ar,wpAny_bind→As,starEach→Aw,wpAny→AA,Pos→AE,World→AH,Heap→AI,Program→AK,Stmt→AL,mainGlobals→AO,wpAny_pure→A2,Around→A4,FuncData→Bj,wpAny_mono→Bk,backTo→Bv,sizeLine_eq→By,cLine→BD,OsState→BQ,attributeBase→BZ,Env→B4,Scope→Ca,wpAny_loadPart_at→Cb,Tok→Cd,binaryOp→Ce,wpAny_holding→Ck,excClassObj→Cu,assignEach→Cw,mem_of_lookup→CJ,cellsFrom→CN,compareOp→CO,wpAny_standAt→CT,Keyword→CV,Obj→CZ,foldedSetIterable→Da,wpAny_truthy_bool→Db,treeTable→Dd,bootBuiltins→Dg,methodCallPos→Dm,swapsWith→Dq,CmpOp→DB,keywordEach→DG,wpAny_Call_Name_kw→DJ,wpAny_newObj_type→DV,codeAny_call_builtin→DZ,OwnTail→D2,NameKind→D7,GenState→Eo,codeAny→EF,codeAny_mono→EG,backToKw→EU,call_meets→EV,strKind→Fe,wpAny_newFunctionEnv_cells→Fh,sliceBounds→Fj,wpAny_field→Fk,Sem→Fo,wpAny_isSubtype_exc→Fp,wpAny_passesOwn→FD,PassesOwn→FM,noteFrame→FN,methodCallForm→FX,typeIs_str→FY,valueAt→FZ,wpAny_call→F0,wpAny_of_eq→Gi,arm_eval_Call→Gk,strLen_append→Gm,Operator→Gq,checkBuiltinCall→Gr,BindsTo→GC,codeAny_call_function→GF,setFlight→GH,letOwnedTupleGo→GR,sysModules→GV,wpAny_execs_nil→GW,bindArgs→Hf,recursionLimit→Hg,Model→Hu,IsPart→Hy,pushCells→HA,rawInt→HB,behindInMarks→HE,swappedStores→HF,wpAny_pyIter_list→HV,methodCall→HW,callerA→HY,ExcBaseFacts→Ih,Paired→Ii,Result→Ij,handleBy→Ik,Drawn→IB,importedModules→IF,pushCells_keeps→IG,boot_len→Jj,isTrue→Jk,newFunctionEnv→Jl,notedBy→Jm,wpAny_setField→Jn,bindC→Jq,bindL→Jr,builtinsNs→Js,isInstance→Jt,numAt→Ju,Comprehension→JW,swapsWithSole→JZ,JoinOk→J7,Within→Kb,codeAny_func→Kc,concat_meets→Kd,onTheHeap→Ke,UnaryOp→K0,getAttr→K1,getItem→K2,PyData→LJ,StoreFacts→LL,call→LM,wpAny_Name→LN,setAttr→LP,Arguments→Mz,DictEntry→MB,IntMulOk→ME,Params→MF,intItems→MG,pyNext→MH,noFill_tuple_add→aE,pastItsLine_dict→aF,plainObj_wpAny_Assign_Attribute→aG,refuseLoop_ref→aH,slot_list_getitem→aI,wpAny_JoinedStr→aJ,wpAny_Try_except→aK,wpAny_assign_Name→aL,wpAny_comprehension_free→aM,wpAny_execs_cons→aN,wpAny_loadPart→aO,wpAny_lookBehind→aP,wpAny_pyNext_list_end→aQ,wpAny_pyNext_list_item→aR
open PySem.Str renaming ofString→Aj,empty→Do
open PySem.W renaming findIn→At,mg_of→A3,keepIn→Ba,nsIn→Bb,subIn→BN,fnOf→B1,kitOne→B5,mroIn→Cj,isFn→Cn,kia_one→Co,looks_findIn→Cp,look_both→CB,mg_none_of→CC,emptyDict→CI,specialIn→C3,typeIn→Dp,instObj→Dv,clsIn→Dx,codeIn→DD,callWith_K→DI,plainGet→D8,boot_heap→El,hasDictIn→EA,findCls→FB,readsIn→FC,plainOver→F6,OpenLaw→Gg,cellsFrom_some→Gh,makesIn→GQ,plainGet_of→Hb,lookIn→Hd,topFrame→He,codeRec_of→Hz,methodObj→HU,topStub→HX,takerIn→ID,takesIn→IE,kitAny→Ji,piecesOf→Jp,excIn→JY,topRun→Ka,WalkO→Z_0,callWith_K0→Z_1,handedIn→Z_2,isNs_of_in→Z_4,kIn_of→Z_5,kitMeta→Z_6,kitx_dict→Z_7,kitx_list→Z_8,looks_subIn→Z_9,nsOkIn→aA,tail_of_in→aD
open PySem.Heap renaming get?_push_of_some→AB,lt_size→AS,get?_push_size→Bp,get?_update_other→De,get?_none_of_le→Dt,get?_update_self→DO,size_push→D1,SameBut→FK,MadeExcOf→Jh,ExtBut→Zw,get?_push_at→Zz,get?_update_ne→ZA
open List renaming mem_cons_of_mem→AD,length_set→AT,size_toArray→AW,mem_cons_self→AY,getElem?_eq_some_iff→A5,mem_cons→A6,length_map→Bc,all_eq_true→Bh,length_cons→Bi,mem_append_right→Br,getElem?_set_self→Bx,append_nil→Bz,map_cons→BM,range→BO,length_append→BS,mem_singleton→BU,lookup→BX,lookup_cons→Ct,getElem?_eq_getElem→Cy,isEmpty_eq_false_iff→CM,mem_range→CU,getD_eq_getElem?_getD→Dj,drop_eq_getElem_cons→DW,mem_append→Ei,eq_nil_of_length_eq_zero→Ey,getElem?_map→Ez,all_map→EC,dropLast_eq_take→ED,replicate→EE,any_eq_true→EQ,getElem_mem→ER,mem_append_left→ES,all_cons→E9,getElem_of_mem→Fn,getElem?_append_left→Fw,toArray→FE,getElem?_set_self'→F3,drop_eq_nil_of_le→Gd,getElem?_set_ne→GJ,mem_of_getElem?→GK,nodup_cons→GM,of_mem_zip→GN,filterMap_cons→Ha,contains_cons→Hw,length_take→Ib,map_map→Ic,mem_map→Ie,any_cons→JV,any_map→Ye,contains_eq_mem→Yg,drop_zero→Yh,flatten_cons→Yi,forIn_nil→Yj,getElem?_append_right→Yk,getElem?_replicate→Yl,getLast?_eq_getElem?→Ym,isEmpty_iff→Yn,length→Yo,length_drop→Yp,length_filter_le→Yq,length_nil→Yr,length_replicate→Ys,length_singleton→Yt,map_append→Yu,map_nil→Yv,mem_filter→Yw,nodup_nil→Yx,replicate_succ→Yy,reverse_cons→Yz,set_set→YA
open Nat renaming le_of_ble_eq_true→AR,le_refl→AU,lt_of_lt_of_le→AZ,ne_of_lt→BA,lt_irrefl→BF,le_trans→B8,ble→CD,zero_le→Ds,lt_of_le_of_lt→FG,log2_le_self→Go,lt_succ_self→Gp,ble_eq→GO,le_of_lt→GP,lt_succ_of_lt→HR,le_succ→K3,blt→LO,le_of_eq→YB,min_self→YC,mod_eq_of_lt→YD,ne_of_gt→YE,not_lt→YF
open False renaming elim→A7
open PySem.Value renaming ref→Bm,builtin→Dl,none→Du,int→GE,bool→Jo,str→J9,float→K4,bytes→ZS,type→ZT
open Int renaming emod_emod_of_dvd→Bo,emod_eq_of_lt→BE,mul_emod→BG,emod_lt_of_pos→BR,emod_nonneg→BW,dvd_refl→Cm,one_mul→Em,eq_ofNat_of_zero_le→F2,mul_comm→GI,natAbs_natCast→Hv,mul_assoc→HC,add_emod→X4,le_refl→X5,le_trans→X6,mul_one→X7,mul_zero→X8,ne_of_gt→X9,sub_emod→Yb,sub_zero→Yc,zero_emod→Yd
open Option.some renaming inj→BB
open PySem.NameKind renaming cell→BY,free→DR
open PySem.F renaming plainAttrs_list→Cc,slot_list_append→D5,type_list_append→D6,slot_str_split→En,excBase_ValueError→Fb,args_str_split_2→FJ,entry_str_split→F4,attr_ValueError→F5,args_tuple_add_2→Zl,entry_bexc_ga→Zm,entry_tuple_add→Zn,plainAttrs_str→Zo,slot_list_count→Zp,slot_list_index→Zq,slot_list_pop→Zr,slot_str_join→Zs,slot_tuple_add→Zt,typeOf_object_class→Zu,type_list_pop→Zv
open PySem.PyData renaming keyHash→Ci,shownAll→DP,depthAll→IC,hasDictAll→ZE,showableAll→ZF
open Ne renaming symm→CF
open PySem.Builtin.Str renaming occurrences→Dz,strKind→DC,strSliceIndices→EO,partsBetween→YR
open PySem.Txt renaming split→DH,join→Ep
open Classical renaming choose_spec→DN,choose→X3
open PySem.Builtin.Slice renaming slicePlaces→DY,sliceAdjust→FA,sliceApplied→YQ
open PyProof.Rows renaming envOfC→D3,callWith_type1→EN,boot_isinstance→Fx,AllBare→FW,subscriptTail_builtinR→Ge,boot_str→GB,IntsAre→Jg,IsTup→LI,boot_list→YJ,boot_tuple→YK,slicePart_none→YL,slot_tuple_getitem→YM
open PySem.Builtin.Tuple renaming tupleExact→D4
open ForInStep renaming yield→Eh
open PySem.Obj renaming data_mapFields→Ej,mapFields→Gj,isFreed_of_fields→GD,mapSeq→ZB
open PySem.SeqAt renaming EqAt→Ek,RcNeAt→J8,RcAt→LK
open PySem.Calls renaming evalArgs_plain→ET,callWith_builtin→Gf,Name_function_global→YS
open True renaming intro→F1
open Array renaming length_toList→G9,toList→J3,append_assoc→XX,find?_toList→XY,getElem?_eq_getElem→XZ,mem_toList_iff→X1
open PySem.Code renaming quiet_builtin→Hx,isFrame→J6,frames→YT
open PySem.PassesOwn renaming looking→HS,leaving→ZD
open Sum renaming inl→HZ,inr→Ia
open PySem.Value.ref renaming inj→JX
open PySem.Around renaming under→J5
open NeZero renaming ne→Mw
open PyProof.Rows.IsTup renaming new→Mx
open PySem.Data renaming cell→MA,seq→MD
open Prod renaming ext→MC
open Eq renaming symm→NK
open PySem.Builtin.Int renaming intBits→YN
open PySem.Builtin.ObjectAttr renaming storeInDict→YO
open PySem.EntryCells renaming newEntry→YU
open PySem.Expr renaming Attribute→YV,BinOp→YX,BoolOp→YZ,Call→Y_1,Compare→Y_3,Constant→Y_5,List→Y_7,ListComp→Y_9,Name→Zb,Slice→Zd,Subscript→Zf,Tuple→Zh,UnaryOp→Zj
open PySem.Expr.Attribute renaming elim→YW
open PySem.Expr.BinOp renaming elim→YY
open PySem.Expr.BoolOp renaming elim→Y_0
open PySem.Expr.Call renaming elim→Y_2
open PySem.Expr.Compare renaming elim→Y_4
open PySem.Expr.Constant renaming elim→Y_6
open PySem.Expr.List renaming elim→Y_8
open PySem.Expr.ListComp renaming elim→Za
open PySem.Expr.Name renaming elim→Zc
open PySem.Expr.Slice renaming elim→Ze
open PySem.Expr.Subscript renaming elim→Zg
open PySem.Expr.Tuple renaming elim→Zi
open PySem.Expr.UnaryOp renaming elim→Zk
open PySem.Heap.Ns1 renaming of_empty→Zx
open PySem.Heap.SameBut renaming refl→Zy
open PySem.Paired renaming length→ZC
open PySem.SeqAt.EqAt renaming of_refs→ZG,same→ZH
open PySem.Stmt renaming Assign→ZI,Expr→ZK,Raise→ZO,Return→ZQ
open PySem.Stmt.Assign renaming elim→ZJ
open PySem.Stmt.Expr renaming elim→ZL
open PySem.Stmt.For renaming elim→ZM
open PySem.Stmt.If renaming elim→ZN
open PySem.Stmt.Raise renaming elim→ZP
open PySem.Stmt.Return renaming elim→ZR
open PySem.W.Fast renaming te10110043849684766642→ZU,te12563942051412417395→ZV,te14364793385576792824→ZW,tw14364793385576792824→ZX
open PySem.W.WData renaming int→ZY
open PySem.W.WShape renaming has→ZZ
abbrev Fg:=PySem.W.Frag
abbrev Pn:=Ac (PySem.Addr×PySem.Obj)
abbrev Vq:=PySem.Value->PySem.Shared->Prop
set_option genSizeOfSpec false
section
open PySem PySem.W PyProof.Rows
variable{α:Type}
namespace OvC
noncomputable def tp95(i:Ag):AL:=PySem.Challenge.pw_ovalfield_k95_a_list_of_points.main.body.getD i (.Pass ⟨0,0,0,0⟩)
noncomputable def Wm:Ag->BT->Ac CZ->BT
 |_,t,[]=>t
 |n,t,o::r=>Wm (n+1) (t.ins n o) r
noncomputable def i8(s:Ar):SharedT:=⟨Wm 0 .nil s.heap.objs.toList,s.heap.objs.size,s.heap.life,s.gens,s.drawn,s.toks,s.os⟩
noncomputable abbrev EK:AK:=PySem.Challenge.pw_ovalfield_k95_a_list_of_points
noncomputable def KM:B4:={scope:=EK.main.scope,locals:=mainNs,globals:=mainNs,cells:=[],code:=.ref 13,frame:=Aa 14}
noncomputable def LD:Ac AL:=behindTheImports EK
noncomputable def Iy:Code:=.body LD KM
noncomputable def S0(w:AH)(os:BQ):Ar:=⟨El w.params,#[],boot_drawn,boot_toks,os⟩
noncomputable def Sa(w:AH)(os:BQ):Ar:=match PySem.W.Fast.tw15667345088766844465 ZX EK w 11 (Aa (.ref 6)) 12 (S0 w os) (HX EK) with
  |some (s,_)=>s
  |none=>S0 w os
noncomputable def uG:Thread:=⟨(PySem.W.Fast.tw12563942051412417395 LD KM).wrap doneF deadEnd id id,Iy,⟨0,0,0,0⟩,[He ⟨0,0,0,0⟩]⟩
noncomputable def Ϫ(w:AH)(os:BQ):SharedT:=match PySem.W.Fast.tw10110043849684766642 ZX EK w 11 (Aa (.ref 6)) 1 7122 (i8 (Sa w os)) uG with
  |some (_,s,_,_)=>s
  |none=>i8 (Sa w os)
noncomputable def wF(b:Am)(w:AH):AH:=w.withFollow "special-get-raises" b
noncomputable def Sf(w:AH)(os:BQ):Ar:=(Ϫ (wF Ae w) os).abs
noncomputable def Xe(t:BT)(n a:Ag):Ao CZ:=match LO a n with
  |true=>alive ((t.get a).getD default)
  |false=>Af
theorem getT_eq(t:BT)(n:Ag)(life:Life):(absHeap t n life).get?=Xe t n:=by
 funext a
 unfold Xe;by_cases h:a<n
 .have e:LO a n=Ab:=GO.mpr h;rw[e];dsimp only;unfold Heap.get?;rw[absHeap_at,Au h];generalize (t.get a).getD default=o;obtain⟨c,d,dt,sl⟩:=o;cases dt<;>rfl
 .have e:LO a n=Ae:=by
   cases q:LO a n with
   |false=>rfl
   |true=>exact absurd (AR q) h
  rw[e,abs_get_none h]
theorem left_tree{p q:AK}{loose:Ac Ah}{Xt:Ar->Am}{Yf:Ar->α}{Ya:AH->α}{N M m:Ag}{ann:Ao Al}{Z_:AH->BQ->Ar}(o:∀ w:AH,(fencedOpening Dd p w N).map (λs=>(s.heap,s.gens,s.drawn,s.toks))=Aa (El w.params,#[],boot_drawn,boot_toks))(z:∀ w:AH,(El w.params).isNs AO=Ab/\(El w.params).objs.size=m/\(El w.params).nsMap AO "__annotations__" = ann)(r:∀ w os,Ka Dd p w m ann M (S0 w os) (HX p)=Aa (Z_ w os))(le:M<=N)(l:∀ w os,(staticsOk (IF p.main.body) (El w.params) (Z_ w os).heap&&namesBound p (Z_ w os).heap&&gensDone (Z_ w os)&&laidKept (El w.params) (Z_ w os).heap)=Ab)(k:∀ w os,(openSeen q loose (IF p.main.body) Xt Ab (Z_ w os),Yf (Z_ w os))=(openGood q loose,Ya w)):LeftO p q loose Xt Yf Ya N:=λw=>by
 obtain⟨s,e1,e2⟩:=Option.map_eq_some_iff.mp (o w);obtain⟨z1,z2,z3⟩:=z w;cases s with
 |mk h g d t os=>
  cases e2;have e3:=topRun_mono (N-M) _ _ _ _ (r w os);have e4:M+(N-M)=N:=by omega
  rw[e4]at e3;unfold openEnds;rw[e1,Ig];have e5:topFrom Dd p w N (S0 w os)=Aa (Z_ w os):=by
   unfold topFrom;rw[show (S0 w os).heap=El w.params from rfl,z1,z2,z3,e3]
   show (match (staticsOk (IF p.main.body) (El w.params) (Z_ w os).heap&&namesBound p (Z_ w os).heap&&gensDone (Z_ w os)&&laidKept (El w.params) (Z_ w os).heap) with|true=>Aa (Z_ w os)|false=>Af)=_
   rw[l w os]
  show (topFrom Dd p w N (S0 w os)).map _=_;rw[e5];exact congrArg Aa (k w os)
theorem pair_eq{β:Type}{a a':α}{b b':β}(h:a=a')(k:b=b'):(a,b)=(a',b'):=by rw[h,k]
theorem uX(w:AH)(os:BQ):topGo Dd EK w 11 (Aa (.ref 6)) 12 (S0 w os) (HX EK)=Aa (Sa w os,⟨denote Dd (.body LD KM),Iy,⟨0,0,0,0⟩,[He ⟨0,0,0,0⟩]⟩):=by kernel_rfl
theorem yE(w:AH)(s:Ar):segRun Dd EK w 11 (Aa (.ref 6)) 1 1 s (blockOf LD KM Iy ⟨0,0,0,0⟩ [He ⟨0,0,0,0⟩])=Aa (.next,s,Iy,⟨0,0,0,0⟩):=by kernel_rfl
theorem yL(w:AH)(os:BQ):(i8 (Sa w os)).abs=Sa w os:=by kernel_rfl
theorem wP(w:AH)(s:Ar):Ka Dd EK w 11 (Aa (.ref 6)) 3 s (restOf [] KM Iy ⟨517,0,544,58⟩ [He ⟨0,0,0,0⟩])=Aa s:=by
 cases s
 kernel_rfl
theorem jJ(w:AH)(os:BQ):segRunT Dd EK (wF Ae w) 11 (Aa (.ref 6)) 1 7122 (i8 (Sa (wF Ae w) os)) (Jp LD KM Iy ⟨0,0,0,0⟩ [He ⟨0,0,0,0⟩])=Aa (.next,Ϫ (wF Ae w) os,Iy,⟨517,0,544,58⟩):=by
 unfold Jp;rw[ZU,ZW,ZV]
 kernel_rfl
theorem jI(w:AH)(os:BQ):segRunT Dd EK (wF Ab w) 11 (Aa (.ref 6)) 1 7122 (i8 (Sa (wF Ab w) os)) (Jp LD KM Iy ⟨0,0,0,0⟩ [He ⟨0,0,0,0⟩])=Aa (.next,Ϫ (wF Ae w) os,Iy,⟨517,0,544,58⟩):=by
 unfold Jp;rw[ZU,ZW,ZV]
 kernel_rfl
theorem run95(w:AH)(os:BQ):Ka Dd EK w 11 (Aa (.ref 6)) (12+(1+(7122+3))) (S0 w os) (HX EK)=Aa (Sf w os):=by
 have key:∀ w',segRunT Dd EK w' 11 (Aa (.ref 6)) 1 7122 (i8 (Sa w' os)) (Jp LD KM Iy ⟨0,0,0,0⟩ [He ⟨0,0,0,0⟩])=Aa (.next,Ϫ (wF Ae w) os,Iy,⟨517,0,544,58⟩)->Ka Dd EK w' 11 (Aa (.ref 6)) (12+(1+(7122+3))) (S0 w' os) (HX EK)=Aa (Sf w os):=λw' h=>by
  have h1:=segRun_of h;rw[yL]at h1;have h2:=piece_app (rest:=[]) h1 (wP w' _);rw[Bz]at h2;exact go_top (uX w' os) (piece_block (yE w' _) h2)
 have fin:∀ b,w.params.followText "special-get-raises" = b->Ka Dd EK (wF b w) 11 (Aa (.ref 6)) (12+(1+(7122+3))) (S0 (wF b w) os) (HX EK)=Aa (Sf w os)->Ka Dd EK w 11 (Aa (.ref 6)) (12+(1+(7122+3))) (S0 w os) (HX EK)=Aa (Sf w os):=λb hb h=>by
  generalize Sf w os=z at h ⊢;have e:wF b w=w:=by rw[<-hb];exact World.withFollow_self w "special-get-raises"
  rw[e]at h;exact h
 cases hb:w.params.followText "special-get-raises" with
 |false=>exact fin Ae hb (key _ (jJ w os))
 |true=>exact fin Ab hb (key _ (jI w os))
theorem said95:PySem.Challenge.rw_ovalfield_k95_a_list_of_points.wellSaid=Ab:=by
 unfold OpenLaw.wellSaid;refine CB (CB (CB (CB (CB (CB (CB (CB (CB (CB (CB (CB (CB (CB (CB (CB (CB (CB ?c0 ?c1) ?c2) ?c3) ?c4) ?c5) ?c6) ?c7) ?c8) ?c9) ?c10) ?c11) ?c12) ?c13) ?c14) ?c15) ?c16) ?c17) ?c18
 case c0=>decide+kernel
 case c1=>decide+kernel
 case c2=>decide+kernel
 case c3=>decide+kernel
 case c4=>decide+kernel
 case c5=>decide+kernel
 case c6=>decide+kernel
 case c7=>decide+kernel
 case c8=>decide+kernel
 case c9=>decide+kernel
 case c10=>decide+kernel
 case c11=>decide+kernel
 case c12=>decide+kernel
 case c13=>decide+kernel
 case c14=>decide+kernel
 case c15=>decide+kernel
 case c16=>decide+kernel
 case c17=>decide+kernel
 case c18=>decide+kernel
set_option genInjectivity false in
structure Tre (P:Prop) where
 (α1 α2 α3 α4 α5 α6 α7 α8 α9 α10 α11  : Type)
 (l1 r1:AH->BQ->α1)
 (l2 r2:AH->BQ->α2)
 (l3 r3:AH->BQ->α3)
 (l4 r4:AH->BQ->α4)
 (l5 r5:AH->BQ->α5)
 (l6 r6:AH->BQ->α6)
 (l7 r7:AH->BQ->α7)
 (l8 r8:AH->BQ->α8)
 (l9 r9:AH->BQ->α9)
 (l10 r10:AH->BQ->α10)
 (l11 r11:AH->BQ->α11)
 X:Prop
 go:(∀ w os,l1 w os=r1 w os)->(∀ w os,l2 w os=r2 w os)->(∀ w os,l3 w os=r3 w os)->(∀ w os,l4 w os=r4 w os)->(∀ w os,l5 w os=r5 w os)->(∀ w os,l6 w os=r6 w os)->(∀ w os,l7 w os=r7 w os)->(∀ w os,l8 w os=r8 w os)->(∀ w os,l9 w os=r9 w os)->(∀ w os,l10 w os=r10 w os)->(∀ w os,l11 w os=r11 w os)->X->P
noncomputable def loose95:Ac Ah:=(["_wall", "OvalError", "NoOver", "NoTriple", "NoTable", "NoCount", "NoCurve", "NotWhole", "TooMany", "NoRow", "NothingDone", "Alike", "NotOn", "OnLine", "rest", "turned_over", "one_form", "crossed", "lies", "row_of", "Triple", "Point", "Line", "on", "join", "measure", "first_three", "ask_unlike", "ask_no_three", "triples"]:Ac Ah)++(["points_on", "columns", "sums_by", "table_of", "crossed_rows", "led", "after", "table_back", "curve_of", "plain_curve", "value", "points_of", "twice_table", "is_whole", "mixed", "moved", "scaled", "frame_table", "frame_move", "SIDES", "ask_whole", "polar_table", "polar", "pole", "met_by", "side", "frame_on", "curve_move", "crossing", "two_lines"]:Ac Ah)++(["kind", "picture_rows", "row_drawn", "drawn", "first_four", "lines_multiplied", "five_curve", "curve_through", "on_any", "still_fitting", "fitting", "curve_on", "first_two", "end_rows", "look", "ask_set", "grown", "rest_read", "rests_read", "COUNTS", "OF_THE_LIST", "MAKE_A_CURVE", "ASK_THE_CURVE", "MOST", "rests_of_row", "told_by", "put_in", "taken_out", "point_texts", "line_texts"]:Ac Ah)++(["look_text", "kind_text", "Desk", "_law_mixed", "_law_prime", "_law_triple", "_law_whole", "_law_texts", "_law_text", "_law_point_text", "_law_rested", "_law_refusal", "_law_said", "_law_field", "_law_row", "_law_due"]:Ac Ah)
end OvC
noncomputable def OvC.view95:PySem.Program:={ PySem.Challenge.pw_ovalfield_k95_a_list_of_points with main:={PySem.Challenge.pw_ovalfield_k95_a_list_of_points.main with body:=[OvC.tp95 122]} }
set_option hygiene false
local macro_rules | `(tactic| o_head $H)=>`(tactic| refine holds_open (q:=OvC.view95) (loose:=OvC.loose95) (Xt:=fun s=>xlAt OvC.view95 [] s&&recOk (RowW.records (OpenRow.toRowW (PySem.Challenge.rw_ovalfield_k95_a_list_of_points.row))) s) (XP:=XL OvC.view95 []) (Yf:=Hook.obs $H) (Ya:=Hook.val $H) (YP:=Hook.says $H) (N:=14264) ?hl (Hook.of $H) (Hook.keeps $H) (fun s e=>xl_of s (Bool.and_eq_true_iff.mp e).1) XL.keeps (by rfl) (by rfl) (by rfl) (fun s e=>recFacts_of (Bool.and_eq_true_iff.mp e).2) (by rfl) (by first|assumption|decide +kernel) (by decide +kernel) ⟨rfl,rfl,rfl,rfl,rfl,by decide +kernel⟩ ?hw ?hc)
set_option maxRecDepth 100000 in
set_option maxHeartbeats 0 in
noncomputable def OvC.hold95:OvC.Tre PySem.Challenge.rw_ovalfield_k95_a_list_of_points.Holds:=by
 refine' ⟨_,_,_,_,_,_,_,_,_,_,_,_,_,_,_,_,_,_,_,_,_,_,_,_,_,_,_,_,_,_,_,_,_,_,λg1 g2 g3 g4 g5 g6 g7 g8 g9 g10 g11 x=>_⟩
 rotate_right
 w_on;refine holds_law OvC.said95 λcq=>?_;k_head
 (case hl=>refine OvC.left_tree (Z_:=OvC.Sf) (M:=7138) (m:=11) (ann:=Aa (.ref 6)) ?o ?z ?r ?le ?l ?k;(case o=>exact boot_open (by kernel_rfl) (by decide+kernel) (λs=>by kernel_rfl));(case z=>intro w;refine⟨?a,?b,?c⟩;all_goals kernel_rfl);(case r=>exact OvC.run95);(case le=>decide);(case l=>intro w os;exact g1 w os);(case k=>intro w os;refine OvC.pair_eq ?k1 ?k2;(case k1=>rw[PySem.W.Fast.te4187177175401517315];unfold PySem.W.Fast.tw4187177175401517315 openGood;refine OvC.pair_eq ?q1 (OvC.pair_eq ?q2 (OvC.pair_eq ?q3 (OvC.pair_eq ?q4 (OvC.pair_eq ?q5 (OvC.pair_eq ?q6 (OvC.pair_eq ?q7 (OvC.pair_eq ?q8 ?q9)))))));(case q1=>exact g2 w os);(case q2=>exact g3 w os);(case q3=>exact g4 w os);(case q4=>exact g5 w os);(case q5=>exact g6 w os);(case q6=>exact g7 w os);(case q7=>exact g8 w os);(case q8=>exact g9 w os);(case q9=>exact g10 w os));(case k2=>show List.map (absHeap _ _ _).get? _=_;rw[OvC.getT_eq];exact g11 w os)))
 (case hw=>w_witness2)
 k_fill
 revert cq
 exact x
theorem OvC.reck95_1(w:AH)(os:BQ):(OvC.hold95.l1 w os,OvC.hold95.l2 w os,OvC.hold95.l3 w os,OvC.hold95.l4 w os,OvC.hold95.l5 w os,OvC.hold95.l6 w os,OvC.hold95.l7 w os,OvC.hold95.l8 w os,OvC.hold95.l9 w os,OvC.hold95.l10 w os)=(OvC.hold95.r1 w os,OvC.hold95.r2 w os,OvC.hold95.r3 w os,OvC.hold95.r4 w os,OvC.hold95.r5 w os,OvC.hold95.r6 w os,OvC.hold95.r7 w os,OvC.hold95.r8 w os,OvC.hold95.r9 w os,OvC.hold95.r10 w os):=by kernel_rfl
theorem OvC.reckA95(w:AH)(os:BQ):OvC.hold95.l1 w os=OvC.hold95.r1 w os/\OvC.hold95.l2 w os=OvC.hold95.r2 w os/\OvC.hold95.l3 w os=OvC.hold95.r3 w os/\OvC.hold95.l4 w os=OvC.hold95.r4 w os/\OvC.hold95.l5 w os=OvC.hold95.r5 w os/\OvC.hold95.l6 w os=OvC.hold95.r6 w os/\OvC.hold95.l7 w os=OvC.hold95.r7 w os/\OvC.hold95.l8 w os=OvC.hold95.r8 w os/\OvC.hold95.l9 w os=OvC.hold95.r9 w os/\OvC.hold95.l10 w os=OvC.hold95.r10 w os:=by
 have h:=OvC.reck95_1 w os;simp only[Prod.mk.injEq]at h;exact h
theorem OvC.reck95_2(w:AH)(os:BQ):OvC.hold95.l11 w os=OvC.hold95.r11 w os:=by kernel_rfl
end
namespace L2
open PySem PySem.Spec PyProof.Rows
variable{us:Ac Al}{a b it dx C:Ak}{P:AK}{h:AI}{o:CZ}{g':Bl Eo}{t' i k n:Ag}{d':IB}{ch fp:Ac Ak}{x qual:Ah}{M:Hu}{u:Al}{Q:D9->Ar->Prop}{e tg:Aq}{α:Type}{s:Ar}{pI:Pn}{pos p:AE}{es:Ac Aq}{body:Ac AL}{f:Al->Al->Fo Al}{g:Ai->Ai->Ai}{op:DB}{mA:Ah->Ao Al}{pl:Fo Am}{kw:Ac (Ah×Al)}{fd:Bj}{ps:Ac Ah}{scope:Ca}
abbrev Key:=Sum Ai Ah
noncomputable def WA:Key->Al->Am
 |.inl k,v=>Value.isInt k v
 |.inr x,v=>Value.isStrOf x v
noncomputable def zN(w:AH):Key->Ai
 |.inl k=>hashInt k
 |.inr x=>hashStr w x
theorem Jv:∀{k:Key}{v:Al},WA k v=Ab->(∃ i t,k=HZ i/\v=GE i t)\/(∃ x t,k=Ia x/\v=J9 x t)
 |.inl i,v,h=>by
  obtain⟨t,e⟩:=Value.isInt_shape (k:=i) (v:=v) h;exact .inl ⟨i,t,rfl,e⟩
 |.inr x,v,h=>by
  obtain⟨t,e⟩:=Value.isStrOf_shape (x:=x) (v:=v) h;exact .inr ⟨x,t,rfl,e⟩
theorem sS(a b:Ai):decide ((HZ a:Key)=HZ b)=(a==b):=by
 by_cases e:a=b
 .subst e;simp
 .have h:¬ (HZ a:Key)=HZ b:=λq=>e (Sum.inl.inj q)
  rw[BH h];exact(Bg.mpr e).symm
theorem pV(a b:Ah):decide ((Ia a:Key)=Ia b)=decide (a=b):=by
 by_cases e:a=b
 .subst e;simp
 .have h:¬ (Ia a:Key)=Ia b:=λq=>e (Sum.inr.inj q)
  rw[BH h,BH e]
theorem sR(a:Ai)(b:Ah):decide ((HZ a:Key)=Ia b)=Ae:=BH (λq=>nomatch q)
theorem pW(a:Ah)(b:Ai):decide ((Ia a:Key)=HZ b)=Ae:=BH (λq=>nomatch q)
noncomputable def Qt(prog:AK)(w:AH):PySem.KeyKind prog w Key where
 is:=WA
 hash:=zN w
 inj:=λv a b ha hb=>by
  rcases Jv ha with ⟨i,t,rfl,rfl⟩|⟨x,t,rfl,rfl⟩
  .rcases Jv hb with ⟨j,u,rfl,e⟩|⟨y,u,rfl,e⟩
   .injection e with e1 _;rw[e1]
   .exact nomatch e
  .rcases Jv hb with ⟨j,u,rfl,e⟩|⟨y,u,rfl,e⟩
   .exact nomatch e
   .injection e with e1 _;rw[e1]
 byValue:=λk v h=>by
  rcases Jv h with ⟨i,t,rfl,rfl⟩|⟨x,t,rfl,rfl⟩<;>rfl
 pyHash:=λhv h=>by
  rcases Jv hv with ⟨i,t,rfl,rfl⟩|⟨x,t,rfl,rfl⟩
  .exact wpAny_pyHash_int h
  .exact wpAny_pyHash_str h
 eqBool:=λhu hv h=>by
  rcases Jv hu with ⟨i,t,rfl,rfl⟩|⟨x,t,rfl,rfl⟩
  .rcases Jv hv with ⟨j,u,rfl,rfl⟩|⟨y,u,rfl,rfl⟩
   .rw[sS]at h;exact wpAny_eqBool_int h
   .rw[sR]at h;exact SeqAt.EqAt.int_str i t y u _ _ _ _ h
  .rcases Jv hv with ⟨j,u,rfl,rfl⟩|⟨y,u,rfl,rfl⟩
   .rw[pW]at h;exact SeqAt.EqAt.str_int x t j u _ _ _ _ h
   .rw[pV]at h;exact wpAny_eqBool_str h
 «strs»:=λk x t v h=>by
  rcases Jv h with ⟨i,u,rfl,e⟩|⟨y,u,rfl,e⟩
  .exact nomatch e
  .injection e with e1 _
   subst e1;cases v<;>rfl
inductive V where
 |O|bl (b:Am)|int (i:Ai)|str (x:Ah)|byt (b:Bl UInt8)|flt (b:UInt64)|ref (a:Ak)|ty (n:CP)
 deriving DecidableEq
variable{xs vs:Ac V}{v y:V}
def Bs:V->Al->Prop
 |.O,u=>u=Du
 |.bl b,u=>u=Jo b
 |.int i,u=>∃ t,u=GE i t
 |.str x,u=>∃ t,u=J9 x t
 |.byt b,u=>∃ t,u=ZS b t
 |.flt b,u=>∃ t,u=K4 b t
 |.ref a,u=>u=Bm a
 |.ty n,u=>u=ZT n
noncomputable abbrev A1:Ac V->Ac Al->Prop:=Ii Bs
theorem A1.length(r:A1 xs us):xs.length=us.length:=ZC r
theorem A1.get:∀{xs:Ac V}{us:Ac Al}{i:Ag}{x:V},A1 xs us->xs[i]?=Aa x->∃ u,us[i]?=Aa u/\Bs x u
 |_,_,_,_,.nil,e=>by simp at e
 |_,_,0,_,.cons r _,e=>by simp at e;subst e;exact⟨_,rfl,r⟩
 |_,_,i+1,x,.cons _ t,e=>by
  obtain⟨u,h1,h2⟩:=A1.get (i:=i) (x:=x) t (by simpa using e)
  exact⟨u,by simpa using h1,h2⟩
theorem A1.set{x:V}{u:Al}(r:Bs x u):∀{xs:Ac V}{us:Ac Al}(i:Ag),A1 xs us->A1 (xs.set i x) (us.set i u)
 |_,_,_,.nil=>.nil
 |_,_,0,.cons _ t=>.cons r t
 |_,_,i+1,.cons q t=>.cons q (A1.set r i t)
theorem A1.append:∀{xs ys:Ac V}{us ws:Ac Al},A1 xs us->A1 ys ws->A1 (xs++ys) (us++ws)
 |_,_,_,_,.nil,s=>s
 |_,_,_,_,.cons r t,s=>.cons r (A1.append t s)
theorem A1.take:∀{xs:Ac V}{us:Ac Al}(n:Ag),A1 xs us->A1 (xs.take n) (us.take n)
 |_,_,0,_=>.nil
 |_,_,_+1,.nil=>.nil
 |_,_,n+1,.cons r t=>.cons r (A1.take n t)
theorem A1.drop:∀{xs:Ac V}{us:Ac Al}(n:Ag),A1 xs us->A1 (xs.drop n) (us.drop n)
 |_,_,0,r=>r
 |_,_,_+1,.nil=>.nil
 |_,_,n+1,.cons _ t=>A1.drop n t
theorem A1.none_of:∀{xs:Ac V}{us:Ac Al}{i:Ag},A1 xs us->xs[i]?=Af->us[i]?=Af:=λ{xs us i} r e=>by
 have h1:=r.length;have h2:xs.length<=i:=List.getElem?_eq_none_iff.mp e;exact List.getElem?_eq_none_iff.mpr (by omega)
def Ix:Ao V->Ao Al->Prop
 |some v,Aa u=>Bs v u
 |none,Af=>F7
 |_,_=>AN
def KV{κ:Type}:Ac (κ×V)->Ac (κ×Al)->Prop:=Ii fun(p:κ×V)(q:κ×Al)=>p.1=q.1/\Bs p.2 q.2
noncomputable def kV:Key->V
 |.inl i=>.int i
 |.inr x=>.str x
inductive HO where
 |L (xs:Ac V)
 |H (xs:Ac V)
 |dK (kvs:Ac (Key×V))|dT (kvs:Ac (Ac Key×V))
 |set (S:Ai->Am) (n:Ag)
 |ins (C dx:Ak) (fs:Ac (Ah×V))
 |own (x:Ak)
 |xd (fs:Ac (Ah×V))
 |met (f x:Ak)
 |rng (lo hi:Ai)
 |frz (o:CZ) (u:HO)
 |tbl (ps:Bl Al)
 |ext (φ:AI->Prop)
abbrev Hp:=Ak->Ao HO
noncomputable def upd(H:Hp)(a:Ak)(o:HO):Hp:=λb=>if b=a then Aa o else H b
theorem BK{H:Hp}{o:HO}:upd H a o a=Aa o:=by unfold upd;rw[Au rfl]
theorem AQ{H:Hp}{o:HO}(h:b≠a):upd H a o b=H b:=by unfold upd;rw[Ay h]
theorem Uj{H:Hp}{o u:HO}:upd (upd H a o) a u=upd H a u:=by
 funext b;unfold upd;split<;>rfl
theorem Er{H:Hp}{o:HO}(h:H a=Aa o)(h':H b=Af):a≠b:=by
 intro e;subst e;rw[h]at h';cases h'
section
variable(P:AK)(w:AH)
def ObjOk(H:Hp)(h:AI)(a:Ak):HO->Prop
  |.L xs=>xs.length<=sizeLine/\∃(its:Ac Al)(n:Ag),A1 xs its/\h.get? a=Aa { cls:=.type "list",data:=.seq its.toArray n }
  |.H xs=>xs.length<=sizeLine/\∃ its:Ac Al,A1 xs its/\LI h a its.toArray
  |.dK kvs=>kvs.length<=sizeLine/\(a==GV)=Ae/\∃ vs,KV kvs vs/\h.DictOf (Qt P w) a vs
  |.dT kvs=>kvs.length<=sizeLine/\(a==GV)=Ae/\∃ xs:Ac (Ac Key×Ak×Al),
      Ii (fun(p:Ac Key×V)(q:Ac Key×Ak×Al)=>p.1=q.1/\H q.2.1=Aa (.H (p.1.map kV))/\Bs p.2 q.2.2) kvs xs /\
      ∃ o es ep,h.get? a=Aa o/\o.ExactDict/\o.data=.dict es ep/\es.toList=xs.map (entryOfKey (tupleKind (Qt P w)))/\(xs.map (·.1)).Nodup
  |.set S n=>h.SetOf (intKind P w) a S n
  |.ins C dx fs=>H dx=Aa (.own a)/\fs.length<=1000/\dx≠a/\h.get? a=Aa (Dv C dx) /\
      ∃ mA,h.Ns1 dx mA/\(∀ f,Ix (fs.lookup f) (mA f))/\Kb mA (fs.map (·.1))
  |.own _=>∃ o,h.get? a=Aa o
  |.xd fs=>∃ mA,h.Ns1 a mA/\∀ f,Ix (fs.lookup f) (mA f)
  |.rng lo hi=>∃ t u v,h.get? a=Aa { cls:=.type "range",data:=.fields #[.int lo t,.int hi u,.int 1 v] }
  |.frz o u=>h.get? a=Aa o/\ObjOk H h a u
  |.tbl ps=>h.get? a=Aa {cls:=.none,data:=.fields ps}
  |.met f x=>h.get? a=Aa (HU (.ref f) (.ref x))
  |.ext φ=>φ h/\(∃ o,h.get? a=Aa o)/\∀ h1 h2:AI,φ h1->(∀ o,h1.get? a=Aa o->h2.get? a=Aa o)->φ h2
def yy(H:Hp)(h:AI):Prop:=∀ a o,H a=Aa o->ObjOk P w H h a o
end
section
variable{P:AK}{w:AH}{H H':Hp}{h h':AI}{a:Ak}{o:HO}
theorem ObjOk.lt(x:ObjOk P w H h a o):a<h.objs.size:=by
 cases o with
 |L xs=>obtain⟨_,_,_,_,e⟩:=x;exact AS e
 |H xs=>obtain⟨_,_,_,p⟩:=x;exact p.lt
 |dK kvs=>obtain⟨_,_,_,_,o,_,_,e,_⟩:=x;exact AS e
 |dT kvs=>obtain⟨_,_,_,_,o,_,_,e,_⟩:=x;exact AS e
 |set S n=>obtain⟨o,_,_,_,e,_⟩:=x;exact AS e
 |ins C dx fs=>obtain⟨_,_,_,e,_⟩:=x;exact AS e
 |own y=>obtain⟨_,e⟩:=x;exact AS e
 |xd fs=>obtain⟨_,⟨_,_,_,e,_⟩,_⟩:=x;exact AS e
 |rng lo hi=>obtain⟨_,_,_,e⟩:=x;exact AS e
 |frz ob u=>obtain⟨e,_⟩:=x;exact AS e
 |tbl ps=>exact AS (show h.get? a=Aa _ from x)
 |met f y=>exact AS (show h.get? a=Aa _ from x)
 |ext φ=>obtain⟨_,⟨_,e⟩,_⟩:=x;exact AS e
theorem Ii.mapP{α β:Type}{F G:α->β->Prop}:∀{l₁:Ac α}{l₂:Ac β},Ii F l₁ l₂->(∀ a b,F a b->G a b)->Ii G l₁ l₂
 |_,_,.nil,_=>.nil
 |_,_,.cons r t,f=>.cons (f _ _ r) (Ii.mapP t f)
theorem ObjOk.stay(x:ObjOk P w H h a o)(k:∀ b u,(b=a\/H b=Aa (.own a))->h.get? b=Aa u->h'.get? b=Aa u)(ho:∀ b,H b=Aa (.own a)->H' b=Aa (.own a))(ht:∀ b xs,H b=Aa (.H xs)->H' b=Aa (.H xs)):ObjOk P w H' h' a o:=by
 induction o with
 |L xs=>obtain⟨z,its,n,r,e⟩:=x;exact⟨z,its,n,r,k _ _ (.inl rfl) e⟩
 |H xs=>obtain⟨z,its,r,ob,e,c⟩:=x;exact⟨z,its,r,ob,k _ _ (.inl rfl) e,c⟩
 |dK kvs=>obtain⟨z,y,vs,r,ob,es,ep,e,c⟩:=x;exact⟨z,y,vs,r,ob,es,ep,k _ _ (.inl rfl) e,c⟩
 |dT kvs=>
  obtain⟨z,y,xs,r,ob,es,ep,e,c⟩:=x;exact⟨z,y,xs,Ii.mapP r λp q z=>⟨z.1,ht _ _ z.2.1,z.2.2⟩,ob,es,ep,k _ _ (.inl rfl) e,c⟩
 |set S n=>obtain⟨ob,es,ep,t,e,c⟩:=x;exact⟨ob,es,ep,t,k _ _ (.inl rfl) e,c⟩
 |ins C dx fs=>
  obtain⟨d,z,ne,e,mA,⟨od,es,ep,e2,c⟩,r⟩:=x;exact⟨ho _ d,z,ne,k _ _ (.inl rfl) e,mA,⟨od,es,ep,k _ _ (.inr d) e2,c⟩,r⟩
 |own y=>obtain⟨ob,e⟩:=x;exact⟨ob,k _ _ (.inl rfl) e⟩
 |xd fs=>obtain⟨mA,⟨od,es,ep,e,c⟩,r⟩:=x;exact⟨mA,⟨od,es,ep,k _ _ (.inl rfl) e,c⟩,r⟩
 |rng lo hi=>obtain⟨t,u,v,e⟩:=x;exact⟨t,u,v,k _ _ (.inl rfl) e⟩
 |frz ob u ih=>obtain⟨e,q⟩:=x;exact⟨k _ _ (.inl rfl) e,ih q⟩
 |tbl ps=>
  have e:h.get? a=Aa {cls:=.none,data:=.fields ps}:=x;show h'.get? a=Aa {cls:=.none,data:=.fields ps};exact k a _ (.inl rfl) e
 |met f y=>
  have e:h.get? a=Aa (HU (.ref f) (.ref y)):=x;show h'.get? a=Aa (HU (.ref f) (.ref y));exact k a _ (.inl rfl) e
 |ext φ=>obtain⟨p,⟨o,e⟩,st⟩:=x;exact⟨st _ _ p λo q=>k _ _ (.inl rfl) q,⟨o,k _ _ (.inl rfl) e⟩,st⟩
theorem yy.lt(x:yy P w H h)(e:H a=Aa o):a<h.objs.size:=(x a o e).lt
theorem yy.fresh(x:yy P w H h)(e:h.objs.size<=a):H a=Af:=by
 cases q:H a with
 |none=>rfl
 |some u=>exact absurd (AZ (x.lt q) e) (BF _)
theorem yy.kept(x:yy P w H h)(k:∀ b u,h.get? b=Aa u->h'.get? b=Aa u):yy P w H h':=λa o e=>
 (x a o e).stay (λb u _ q=>k b u q) (λ_ q=>q) λ_ _ q=>q
theorem yy.laid(x:yy P w H h)(k:∀ b u,h.get? b=Aa u->h'.get? b=Aa u)(hp:h.objs.size<=a)(new:ObjOk P w (upd H a o) h' a o):yy P w (upd H a o) h':=λb u e=>by
 have hn:=x.fresh hp;by_cases hb:b=a
 .subst hb;rw[BK]at e;cases e;exact new
 .rw[AQ hb]at e;exact(x b u e).stay (λc v _ q=>k c v q) (λc q=>by rw[AQ (Er q hn)];exact q) λc xs q=>by rw[AQ (Er q hn)];exact q
end
def Rd(H:Hp)(a:Ak)(u:HO):Prop:=H a=Aa u\/∃ o,H a=Aa (.frz o u)
theorem Rd.of{H:Hp}{u:HO}(h:H a=Aa u):Rd H a u:=.inl h
theorem Rd.ok{w:AH}{H:Hp}{u:HO}(r:Rd H a u)(x:yy P w H h):ObjOk P w H h a u:=by
 rcases r with r|⟨o,r⟩
 .exact x a u r
 .obtain⟨_,q⟩:=x a _ r;exact q
def Ϩ:Ao HO->Prop
 |some (.L _)=>F7
 |some (.dK _)=>F7
 |some (.dT _)=>F7
 |some (.set _ _)=>F7
 |some (.ins _ _ _)=>F7
 |some (.ext _)=>F7
 |_=>AN
section
variable{P:AK}{w:AH}{H:Hp}{h h':AI}{x e:Ak}{o':HO}
theorem yy.write(ok:yy P w H h)(mu:Ϩ (H x))(he:e=x\/H e=Aa (.own x))(k:∀ b u,b≠e->h.get? b=Aa u->h'.get? b=Aa u)(gu:∃ u,h'.get? e=Aa u)(new:ObjOk P w (upd H x o') h' x o'):yy P w (upd H x o') h':=λb u q=>by
 have bu:∀ c y,H c=Aa (.own y)->c≠x:=λc y r z=>by subst z;rw[r]at mu;exact mu
 have ntup:∀ c xs,H c=Aa (.H xs)->c≠x:=λc xs r z=>by subst z;rw[r]at mu;exact mu
 by_cases hb:b=x
 .subst hb;rw[BK]at q;cases q;exact new
 .rw[AQ hb]at q;by_cases hbe:b=e
  .have q':H b=Aa (.own x):=by
    rcases he with z|z
    .exact absurd (hbe.trans z) hb
    .rw[hbe];exact z
   rw[q]at q';cases q';obtain⟨v,hv⟩:=gu;exact⟨v,by rw[hbe];exact hv⟩
  .refine(ok b u q).stay (λc v hc r=>k c v ?_ r) (λc r=>by rw[AQ (bu c b r)];exact r) λc xs r=>by rw[AQ (ntup c xs r)];exact r
   rcases hc with rfl|hc
   .exact hbe
   .rintro rfl;rcases he with z|z
    .exact bu c b hc z
    .rw[hc]at z;cases z;exact hb rfl
end
structure Un (fs ex:Ac Ak) (H H':Hp) (h h':AI):Prop where
 keep:∀ b o,h.get? b=Aa o->H b=Af->b∉fs->b∉ex->h'.get? b=Aa o
 slot:∀ b o,h.get? b=Aa o->H b=Af->b∈fs->b∉ex->∃ sl,h'.get? b=Aa {o with slots:=sl}
 free:∀ b o,h.get? b=Aa o->H b=Af->b∉ex->H' b=Af
 there:∀ b o,h.get? b=Aa o->b∉ex->∃ o',h'.get? b=Aa o'
 tups:∀ b xs,H b=Aa (.H xs)->H' b=Aa (.H xs)
 frzs:∀ b o u,H b=Aa (.frz o u)->H' b=Aa (.frz o u)
 tbls:∀ b ps,H b=Aa (.tbl ps)->∃ more,H' b=Aa (.tbl (ps++more))
section
variable{fs fs' ex ex':Ac Ak}{H H1 H2:Hp}{h h1 h2 h':AI}{a x e:Ak}{o:HO}
theorem Un.any(u:Un fs ex H H1 h h1){ob:CZ}(q:h.get? b=Aa ob)(n:H b=Af)(hx:b∉ex):∃ sl,h1.get? b=Aa {ob with slots:=sl}:=by
 by_cases hb:b∈fs
 .exact u.slot b ob q n hb hx
 .exact⟨ob.slots,u.keep b ob q n hb hx⟩
theorem Un.trans(a:Un fs ex H H1 h h1)(b:Un fs ex H1 H2 h1 h2):Un fs ex H H2 h h2 where
 keep:=λc ob q n hc hx=>b.keep c ob (a.keep c ob q n hc hx) (a.free c ob q n hx) hc hx
 slot:=λc ob q n hc hx=>by
  obtain⟨sl,e1⟩:=a.slot c ob q n hc hx;obtain⟨uj,e2⟩:=b.slot c _ e1 (a.free c ob q n hx) hc hx;exact⟨uj,e2⟩
 free:=λc ob q n hx=>by
  obtain⟨o',e1⟩:=a.there c ob q hx;exact b.free c o' e1 (a.free c ob q n hx) hx
 there:=λc ob q hx=>by
  obtain⟨o',e1⟩:=a.there c ob q hx;exact b.there c o' e1 hx
 tups:=λc xs q=>b.tups c xs (a.tups c xs q)
 frzs:=λc ob xs q=>b.frzs c ob xs (a.frzs c ob xs q)
 tbls:=λc ps q=>by
  obtain⟨m1,e1⟩:=a.tbls c ps q;obtain⟨m2,e2⟩:=b.tbls c _ e1;exact⟨m1++m2,by rw[e2,XX]⟩
theorem Un.kept(k:∀ b u,h.get? b=Aa u->h'.get? b=Aa u):Un fs ex H H h h':=
 ⟨λb ob q _ _ _=>k b ob q,λb ob q _ _ _=>⟨ob.slots,k b ob q⟩,λ_ _ _ n _=>n,λb ob q _=>⟨ob,k b ob q⟩,λ_ _ q=>q,λ_ _ _ q=>q,λ_ ps q=>⟨#[],by rw[q];simp⟩⟩
theorem Un.refl:Un fs ex H H h h:=Un.kept λ_ _ q=>q
theorem Un.laid(k:∀ b u,h.get? b=Aa u->h'.get? b=Aa u)(hp:h.objs.size<=a)(hn:H a=Af):Un fs ex H (upd H a o) h h' where
 keep:=λb u q _ _ _=>k b u q
 slot:=λb u q _ _ _=>⟨u.slots,k b u q⟩
 free:=λb u q n _=>by rw[AQ (BA (AZ (AS q) hp))];exact n
 there:=λb u q _=>⟨u,k b u q⟩
 tups:=λb xs q=>by rw[AQ (Er q hn)];exact q
 frzs:=λb u xs q=>by rw[AQ (Er q hn)];exact q
 tbls:=λb ps q=>⟨#[],by rw[AQ (Er q hn),q];simp⟩
theorem Un.write(mu:Ϩ (H x))(he:e=x\/H e=Aa (.own x))(k:∀ b u,b≠e->h.get? b=Aa u->h'.get? b=Aa u)(gu:∃ u,h'.get? e=Aa u):Un fs ex H (upd H x o) h h':=by
 have hx:∀ b,H b=Af->b≠x:=λb n z=>by subst z;rw[n]at mu;exact mu
 have hb:∀ b,H b=Af->b≠e:=λb n z=>by
  subst z;rcases he with r|r
  .exact hx b n r
  .rw[n]at r;cases r
 have hm:∀ b u,H b=Aa u->¬ Ϩ (Aa u)->b≠x:=λb u q nm z=>by subst z;rw[q]at mu;exact nm mu
 refine⟨λb u q n _ _=>k b u (hb b n) q,λb u q n _ _=>⟨u.slots,k b u (hb b n) q⟩,λb u q n _=>by rw[AQ (hx b n)];exact n,λb u q _=>?_,
  λb xs q=>by rw[AQ (hm b _ q λz=>z)];exact q,λb u xs q=>by rw[AQ (hm b _ q λz=>z)];exact q,λb ps q=>⟨#[],by rw[AQ (hm b _ q λz=>z),q];simp⟩⟩
 by_cases hbe:b=e
 .subst hbe;exact gu
 .exact⟨u,k b u hbe q⟩
theorem Un.mono(u:Un fs ex H H1 h h1)(hs:∀ b∈fs,b∈fs')(hx:∀ b∈ex,b∈ex'):Un fs' ex' H H1 h h1:=
 ⟨λb ob q n hb he=>u.keep b ob q n (λz=>hb (hs b z)) λz=>he (hx b z),λ_ _ q n _ he=>u.any q n λz=>he (hx _ z),λb ob q n he=>u.free b ob q n λz=>he (hx b z),λb ob q he=>u.there b ob q λz=>he (hx b z),u.tups,u.frzs,u.tbls⟩
end
noncomputable def Ú(h:AI)(H:Hp):Ac Ak:=(BO h.objs.size).filter λa=>(H a).isSome
noncomputable def JR(h:AI)(H:Hp):AI:=PySem.W.hideAll h (Ú h H)
theorem dX(h:AI)(H:Hp):(JR h H).objs.size=h.objs.size:=PySem.W.hideAll_size _ _
theorem gR{H:Hp}(e:h.get? b=Aa o)(n:H b=Af):(JR h H).get? b=Aa o:=
 PySem.W.hideAll_get _ e λhm=>by
  have q:(H b).isSome=Ab:=(Yw.mp hm).2;rw[n]at q;simp at q
theorem lB{H:Hp}(e:(JR h H).get? b=Aa o):h.get? b=Aa o/\H b=Af:=by
 have e':h.get? b=Aa o:=PySem.W.of_hideAll (Ú h H) e;refine⟨e',?_⟩;cases q:H b with
 |none=>rfl
 |some x=>
  have hm:b∈Ú h H:=List.mem_filter.mpr ⟨CU.mpr (AS e'),by simp[q]⟩
  have z:(JR h H).get? b=Af:=PySem.W.hideAll_none (Ú h H) hm;rw[z]at e;cases e
noncomputable def mY(g h:AI)(L:Ak):Pn:=(BO h.objs.size).filterMap λa=>if a=L\/(g.get? a).isSome=Ab then Af else (h.get? a).map λo=>(a,o)
noncomputable def rest(g h:AI)(L d:Ak):Pn:=(mY g h L).filter λp=>decide (p.1≠d)
structure Mod (K:Fg) (mg:Ah->Ao Al) (base:AI):Prop where
 kin:K.In base
 glob:base.Ns AO mg
 blt:∃ mb,base.Ns Js mb/\∀ x:Ah,x≠"__name__"->mb x=Dg x
 nolimit:base.NoLimit
structure Cx where
 prog:AK
 w:AH
 K:Fg
 mg:Ah->Ao Al
 base:AI
 A:A4
 N:Ac Ah
 s₀:Ar
 H₀:Hp
 env:B4
 outer:Ac B4
 stack:Ac B4
 ex:Ac Ak
 fn:Ah->Am
 calm:Am
 pn:Pn
 xe:Al->Ar->Prop
variable{X:Cx}
noncomputable def yn(l:Ac B4):Ac Ak:=l.filterMap (·.frame)
noncomputable abbrev Cx.fs(X:Cx):Ac Ak:=yn X.outer
def å(sc:Ca)(x:Ah):Prop:=sc.names.lookup x=Aa .local\/sc.names.lookup x=Aa .cell\/sc.names.lookup x=Aa .free
def o6(sc:Ca)(x:Ah):Prop:=sc.names.lookup x=Aa .local\/sc.names.lookup x=Aa .cell
noncomputable def aY(env:B4)(h:AI)(m:Ah->Ao Al)(x:Ah)(u:Al):Prop:=
 (env.kindOf x=Aa .local/\m x=Aa u)\/((env.kindOf x=Aa .cell\/env.kindOf x=Aa .free)/\∃ c,env.cells.lookup x=Aa c/\h.IsCell c (Aa u))
structure Cx.Ok (X:Cx):Prop where
 mod:Mod X.K X.mg X.base
 kind:X.env.scope.kind=.function
 glob:X.env.globals=AO
 blt:X.env.builtins=Js
 above:X.s₀.heap.objs.size<=X.env.locals
 inj:∀ x y c,X.env.cells.lookup x=Aa c->X.env.cells.lookup y=Aa c->x=y
 has:∀ x,(X.env.kindOf x=Aa .cell\/X.env.kindOf x=Aa .free)->∃ c,X.env.cells.lookup x=Aa c
 cab:∀ x c,X.fn x=Ab->X.env.cells.lookup x=Aa c->X.s₀.heap.objs.size<=c
 hd:X.calm=Ab->X.A.handled=Af
 frames:X.A.frames=Aa X.stack
 stk:X.stack=X.outer\/(X.stack=X.env::X.outer/\X.env.frame=Aa X.env.locals)
 exf:∀ b∈X.ex,b≠X.env.locals/\∀ x c,X.env.cells.lookup x=Aa c->c≠b
 bs:∀ b o,X.base.get? b=Aa o->X.s₀.heap.get? b=Aa o/\X.H₀ b=Af
 bsz:X.base.objs.size<=X.s₀.heap.objs.size
 noex:∀ b o,X.base.get? b=Aa o->b∉X.ex
 exfs:∀ b∈X.ex,b∉X.fs
 funs:X.s₀.heap.FunFrames X.base X.outer
 frf:∀ b∈X.fs,X.H₀ b=Af
structure Z8 (X:Cx) (pI:Pn) (Y:Ac (Ao V)) (H:Hp) (s:Ar):Prop where
 ok:X.Ok
 os:s.os=X.s₀.os
 bare:FW s.gens
 base:Un X.fs X.ex X.H₀ H X.s₀.heap s.heap
 loc:∃ m,s.heap.Ns X.env.locals m/\∀(i:Ag)(x:Ah)(v:V),X.N[i]?=Aa x->Y[i]?=Aa (Aa v)->å X.env.scope x->∃ u,Bs v u/\aY X.env s.heap m x u
 cell:∀ x c,X.env.cells.lookup x=Aa c->∃ v,s.heap.IsCell c v
 free:H X.env.locals=Af
 freeC:∀ x c,X.env.cells.lookup x=Aa c->H c=Af
 pin:∀ p∈X.pn++pI,s.heap.get? p.1=Aa p.2/\H p.1=Af/\p.1≠X.env.locals/\p.1∉X.fs/\∀ v,p.2.data≠.cell v
 hok:yy X.prog X.w H s.heap
 len:Y.length=X.N.length
section
variable{X:Cx}{pI:Pn}{Y:Ac (Ao V)}{H H':Hp}{s:Ar}{h':AI}
theorem Cx.Ok.nofr(ok:X.Ok)(e:X.base.get? b=Aa o):b∉X.fs:=λhb=>by
 have:=(ok.funs.mem hb).1;rw[e]at this;cases this
theorem Z8.bs(I:Z8 X pI Y H s):∀ b o,X.base.get? b=Aa o->s.heap.get? b=Aa o/\H b=Af:=λb o e=>
 ⟨I.base.keep b o (I.ok.bs b o e).1 (I.ok.bs b o e).2 (I.ok.nofr e) (I.ok.noex b o e),I.base.free b o (I.ok.bs b o e).1 (I.ok.bs b o e).2 (I.ok.noex b o e)⟩
theorem Z8.bk(I:Z8 X pI Y H s):∀ b o,X.base.get? b=Aa o->s.heap.get? b=Aa o:=λb o e=>(I.bs b o e).1
theorem Z8.mod(I:Z8 X pI Y H s):Mod X.K X.mg X.base:=I.ok.mod
theorem Z8.kIn(I:Z8 X pI Y H s):X.K.In s.heap:=I.ok.mod.kin.keeps I.bk
theorem Z8.nolimit(I:Z8 X pI Y H s):s.heap.NoLimit:=I.ok.mod.nolimit.keeps I.bk
theorem Z8.fr(I:Z8 X pI Y H s):∃ m,Fr X.base X.env.locals s.heap m:=
 let ⟨m,hn,_⟩:=I.loc
 ⟨m,hn,I.bk,B8 I.ok.bsz I.ok.above⟩
theorem Z8.lt(I:Z8 X pI Y H s):X.env.locals<s.heap.objs.size:=let ⟨_,hn,_⟩:=I.loc;hn.lt
theorem Z8.sz(I:Z8 X pI Y H s):X.s₀.heap.objs.size<=s.heap.objs.size:=B8 I.ok.above (GP I.lt)
theorem Z8.nofs(I:Z8 X pI Y H s)(h:s.heap.objs.size<=a):a∉X.fs:=λhb=>by
 obtain⟨_,o,ho,_⟩:=I.ok.funs.mem hb;exact absurd (AZ (AS ho) (B8 I.sz h)) (BF _)
theorem Z8.cne(I:Z8 X pI Y H s):∀ x c,X.env.cells.lookup x=Aa c->c≠X.env.locals:=λx c e z=>by
 obtain⟨v,o,ho,hd⟩:=I.cell x c e;obtain⟨m,⟨o',es,ep,oi,lw,_⟩,_⟩:=I.loc;rw[z,oi]at ho;cases ho;rw[lw]at hd;cases hd
theorem Z8.funs(I:Z8 X pI Y H s):s.heap.FunFrames X.base X.outer:=by
 have all:∀(l:Ac B4),(∀ b∈yn l,b∈X.fs)->X.s₀.heap.FunFrames X.base l->s.heap.FunFrames X.base l:=by
  intro l
  induction l with
  |nil=>intro _ _;trivial
  |cons env r ih=>
   intro hs hl;obtain⟨hk,⟨L,o,hf,hn,ho,hd⟩,hr⟩:=hl;have hL:L∈X.fs:=hs L (by unfold yn;rw[Ha,hf];exact AY)
   obtain⟨sl,e⟩:=I.base.slot L o ho (I.ok.frf L hL) hL λz=>I.ok.exfs L z hL
   exact⟨hk,⟨L,_,hf,hn,e,hd⟩,ih (λb hb=>hs b (by unfold yn;rw[Ha,hf];exact AD _ hb)) hr⟩
 exact all X.outer (λ_ hb=>hb) I.ok.funs
theorem Z8.stack(I:Z8 X pI Y H s):s.heap.FunFrames X.base X.stack:=by
 rcases I.ok.stk with e|⟨e,hf⟩
 .rw[e];exact I.funs
 .rw[e];obtain⟨m,hn,_⟩:=I.loc;refine .cons (by rw[I.ok.kind];decide) hf hn ?_ I.funs
  exact Dt (B8 I.ok.bsz I.ok.above)
theorem Z8.stkSub(I:Z8 X pI Y H s):∀ b∈yn X.stack,b∈X.env.locals::X.fs:=λb hb=>by
 rcases I.ok.stk with e|⟨e,hf⟩
 .rw[e]at hb;exact AD _ hb
 .rw[e]at hb;unfold yn at hb;rw[Ha,hf]at hb;exact hb
theorem Z8.stkFree(I:Z8 X pI Y H s):∀ b∈yn X.stack,H b=Af:=λb hb=>by
 rcases A6.mp (I.stkSub b hb) with e|hb
 .rw[e];exact I.free
 .obtain⟨_,o,ho,_⟩:=I.ok.funs.mem hb;exact I.base.free b o ho (I.ok.frf b hb) λz=>I.ok.exfs b z hb
theorem Z8.step(I:Z8 X pI Y H s)(sy:∀ b∈ch,(b∈X.ex\/X.s₀.heap.objs.size<=b)/\b≠X.env.locals/\(∀ x c,X.env.cells.lookup x=Aa c->c≠b)/\∀ p∈X.pn++pI,p.1≠b)(keep:∀ b o,b≠X.env.locals->b∉X.fs->b∉ch->s.heap.get? b=Aa o->H b=Af->h'.get? b=Aa o)(slot:∀ b o,b≠X.env.locals->b∈X.fs->b∉ch->s.heap.get? b=Aa o->H b=Af->∃ sl,h'.get? b=Aa {o with slots:=sl})(free:∀ b o,b∉ch->s.heap.get? b=Aa o->H b=Af->H' b=Af)(there:∀ b o,b∉ch->s.heap.get? b=Aa o->∃ o',h'.get? b=Aa o')(tups:∀ b xs,H b=Aa (.H xs)->H' b=Aa (.H xs))(frzs:∀ b o u,H b=Aa (.frz o u)->H' b=Aa (.frz o u))(tbls:∀ b ps,H b=Aa (.tbl ps)->∃ more,H' b=Aa (.tbl (ps++more)))(ns:∀ m,s.heap.Ns X.env.locals m->h'.Ns X.env.locals m)(hok:yy X.prog X.w H' h')(hg:FW g'):Z8 X pI Y H' {s with heap:=h',gens:=g',drawn:=d',toks:=t'}:=by
 have neL:∀ b o,X.s₀.heap.get? b=Aa o->b≠X.env.locals:=λb o e=>BA (AZ (AS e) I.ok.above)
 have Á:∀ b o,X.s₀.heap.get? b=Aa o->b∉X.ex->b∉ch:=λb o e hx hb=>by
  rcases (sy b hb).1 with z|z
  .exact hx z
  .exact absurd (AZ (AS e) z) (BF _)
 have cellK:∀ x c,X.env.cells.lookup x=Aa c->∀ v,s.heap.IsCell c v->h'.IsCell c v:=λx c e v ⟨o,ho,hd⟩=>by
  have bq:c∉ch:=λz=>(sy c z).2.2.1 x c e rfl
  by_cases hc:c∈X.fs
  .obtain⟨sl,q⟩:=slot c o (I.cne x c e) hc bq ho (I.freeC x c e);exact⟨_,q,hd⟩
  .exact⟨o,keep c o (I.cne x c e) hc bq ho (I.freeC x c e),hd⟩
 refine⟨I.ok,I.os,hg,⟨λb o e n hb hx=>?_,λb o e n hb hx=>?_,λb o e n hx=>?_,λb o e hx=>?_,λb xs e=>tups b xs (I.base.tups b xs e),λb o xs e=>frzs b o xs (I.base.frzs b o xs e),λb ps e=>?_⟩,?_,λx c e=>?_,?_,λx c e=>?_,λp hp=>?_,hok,I.len⟩
 .exact keep b o (neL b o e) hb (Á b o e hx) (I.base.keep b o e n hb hx) (I.base.free b o e n hx)
 .obtain⟨sl,e1⟩:=I.base.slot b o e n hb hx;obtain⟨uj,e2⟩:=slot b _ (neL b o e) hb (Á b o e hx) e1 (I.base.free b o e n hx);exact⟨uj,e2⟩
 .obtain⟨o',e1⟩:=I.base.there b o e hx;exact free b o' (Á b o e hx) e1 (I.base.free b o e n hx)
 .obtain⟨o',e1⟩:=I.base.there b o e hx;exact there b o' (Á b o e hx) e1
 .obtain⟨m1,e1⟩:=I.base.tbls b ps e;obtain⟨m2,e2⟩:=tbls b _ e1;exact⟨m1++m2,by rw[e2,XX]⟩
 .obtain⟨m,hn,hl⟩:=I.loc;refine⟨m,ns m hn,λi x v e1 e2 e3=>?_⟩
  obtain⟨u,r,l⟩:=hl i x v e1 e2 e3;refine⟨u,r,?_⟩;rcases l with l|⟨k,c,e,z⟩
  .exact .inl l
  .exact .inr ⟨k,c,e,cellK x c e _ z⟩
 .obtain⟨v,z⟩:=I.cell x c e;exact⟨v,cellK x c e v z⟩
 .obtain⟨m,⟨o,_,_,ho,_⟩,_⟩:=I.loc;exact free _ o (λz=>(sy _ z).2.1 rfl) ho I.free
 .obtain⟨v,o,ho,hd⟩:=I.cell x c e;exact free c o (λz=>(sy c z).2.2.1 x c e rfl) ho (I.freeC x c e)
 .obtain⟨e,n,ne,nf,d⟩:=I.pin p hp;have bq:p.1∉ch:=λz=>(sy p.1 z).2.2.2 p hp rfl
  exact⟨keep p.1 p.2 ne nf bq e n,free p.1 p.2 bq e n,ne,nf,d⟩
theorem Z8.un(I:Z8 X pI Y H s)(u:Un X.fs [] H H' s.heap h')(hok:yy X.prog X.w H' h'):Z8 X pI Y H' {s with heap:=h',toks:=t'}:=by
 obtain⟨m,⟨o,es,ep,ho,r⟩,_⟩:=id I.loc;obtain⟨sl,hL⟩:=u.any ho I.free (by simp)
 exact I.step (g':=s.gens) (d':=s.drawn) (ch:=[]) (λ_ z=>nomatch z) (λb o _ hb _ e n=>u.keep b o e n hb (by simp)) (λb o _ hb _ e n=>u.slot b o e n hb (by simp)) (λb o _ e n=>u.free b o e n (by simp)) (λb o _ e=>u.there b o e (by simp)) u.tups u.frzs u.tbls (λm' hm=>by
  obtain⟨o',za,jk,oi,r'⟩:=hm;rw[ho]at oi;cases oi;exact⟨_,za,jk,hL,r'⟩) hok I.bare
theorem Z8.call(I:Z8 X pI Y H s)(u:Un (yn X.stack) ch H H' s.heap h')(hok:yy X.prog X.w H' h')(hg:FW g')(sy:∀ b∈ch,(b∈X.ex\/X.s₀.heap.objs.size<=b)/\b≠X.env.locals/\(∀ x c,X.env.cells.lookup x=Aa c->c≠b)/\∀ p∈X.pn++pI,p.1≠b):Z8 X pI Y H' {s with heap:=h',gens:=g',drawn:=d',toks:=t'}:=by
 obtain⟨m,⟨o,es,ep,ho,r⟩,_⟩:=id I.loc;obtain⟨sl,hL⟩:=u.any ho I.free λz=>(sy _ z).2.1 rfl
 exact I.step (ch:=ch) sy (λb o hL hb hc e n=>u.keep b o e n (λz=>(A6.mp (I.stkSub b z)).elim hL hb) hc) (λb o _ _ hc e n=>u.any e n hc) (λb o hc e n=>u.free b o e n hc) (λb o hc e=>u.there b o e hc) u.tups u.frzs u.tbls (λm' hm=>by
  obtain⟨o',za,jk,oi,r'⟩:=hm;rw[ho]at oi;cases oi;exact⟨_,za,jk,hL,r'⟩) hok hg
theorem Z8.turned(I:Z8 X pI Y H s)(k:∀ b o,b≠it->s.heap.get? b=Aa o->h'.get? b=Aa o)(hn:H it=Af)(hL:it≠X.env.locals)(h1:it∈X.ex\/X.s₀.heap.objs.size<=it)(h2:∀ x c,X.env.cells.lookup x=Aa c->c≠it)(h3:∀ p∈X.pn++pI,p.1≠it):Z8 X pI Y H {s with heap:=h',toks:=t'}:=by
 have nit:∀ b u,H b=Aa u->b≠it:=λb u e z=>by rw[z,hn]at e;cases e
 refine I.step (g':=s.gens) (d':=s.drawn) (ch:=[it]) (λb hb=>?_) (λb o _ _ hc e _=>k b o (λz=>hc (by simp[z])) e) (λb o _ _ hc e _=>⟨o.slots,k b o (λz=>hc (by simp[z])) e⟩) (λ_ _ _ _ n=>n)
  (λb o hc e=>⟨o,k b o (λz=>hc (by simp[z])) e⟩) (λ_ _ e=>e) (λ_ _ _ e=>e) (λb ps e=>⟨#[],by rw[e];simp⟩) (λm hm=>?_) (λb u e=>?_) I.bare
 .have e:b=it:=by simpa using hb
  subst e;exact⟨h1,hL,h2,h3⟩
 .obtain⟨o,es,ep,ho,r⟩:=hm;exact⟨o,es,ep,k _ o (CF hL) ho,r⟩
 .refine(I.hok b u e).stay (λc v hc q=>k c v ?_ q) (λ_ q=>q) λ_ _ q=>q
  rcases hc with z|z
  .rw[z];exact nit b u e
  .exact nit c _ z
theorem Z8.tok(I:Z8 X pI Y H s)(t:Ag):Z8 X pI Y H {s with toks:=t}:=I.un (h':=s.heap) (t':=t) Un.refl I.hok
theorem Z8.kept{t':Ag}(I:Z8 X pI Y H s)(k:∀ b u,s.heap.get? b=Aa u->h'.get? b=Aa u):Z8 X pI Y H {s with heap:=h',toks:=t'}:=I.un (Un.kept k) (I.hok.kept k)
theorem Z8.laid{a:Ak}{o:HO}{t':Ag}(I:Z8 X pI Y H s)(k:∀ b u,s.heap.get? b=Aa u->h'.get? b=Aa u)(hp:s.heap.objs.size<=a)(new:ObjOk X.prog X.w (upd H a o) h' a o):Z8 X pI Y (upd H a o) {s with heap:=h',toks:=t'}:=I.un (Un.laid k hp (I.hok.fresh hp)) (I.hok.laid k hp new)
theorem Z8.write{x e:Ak}{o:HO}{t':Ag}(I:Z8 X pI Y H s)(mu:Ϩ (H x))(he:e=x\/H e=Aa (.own x))(k:∀ b u,b≠e->s.heap.get? b=Aa u->h'.get? b=Aa u)(gu:∃ u,h'.get? e=Aa u)(new:ObjOk X.prog X.w (upd H x o) h' x o):Z8 X pI Y (upd H x o) {s with heap:=h',toks:=t'}:=I.un (Un.write mu he k gu) (I.hok.write mu he k gu new)
theorem Z8.weak{Y':Ac (Ao V)}(I:Z8 X pI Y H s)(hl:Y'.length=Y.length)(w:∀(i:Ag) v,Y'[i]?=Aa (Aa v)->Y[i]?=Aa (Aa v)):Z8 X pI Y' H s:=
 ⟨I.ok,I.os,I.bare,I.base,let ⟨m,hn,hl'⟩:=I.loc;⟨m,hn,λi x v e1 e2 e3=>hl' i x v e1 (w i v e2) e3⟩,I.cell,I.free,I.freeC,I.pin,I.hok,hl.trans I.len⟩
theorem Z8.pins_of{LE:Pn}(I:Z8 X pI Y H s)(h:∀ p∈LE,s.heap.get? p.1=Aa p.2/\H p.1=Af/\p.1≠X.env.locals/\p.1∉X.fs/\∀ v,p.2.data≠.cell v):Z8 X LE Y H s:=
 ⟨I.ok,I.os,I.bare,I.base,I.loc,I.cell,I.free,I.freeC,λp hp=>(Ei.mp hp).elim (λz=>I.pin p (ES _ z)) (h p),I.hok,I.len⟩
theorem Qh{N:Ac Ah}(hN:N.Nodup){j:Ag}(a:N[i]?=Aa x)(b:N[j]?=Aa x):i=j:=by
 obtain⟨h1,e1⟩:=A5.mp a;obtain⟨h2,e2⟩:=A5.mp b;exact(List.getElem_inj hN).mp (e1.trans e2.symm)
theorem Tw{A:A4}{E:Vq}(I:Z8 X pI Y H s)(hN:X.N.Nodup)(hi:X.N[i]?=Aa x)(hx:o6 X.env.scope x)(r:Bs v u)(h:∀ s',Z8 X pI (Y.set i (Aa v)) H s'->(∃ a,FK a s.heap s'.heap/\(a=X.env.locals\/X.env.cells.lookup x=Aa a))->Q () s')(hf:X.fn x=Ab\/X.env.scope.names.lookup x=Aa .local:=by first|exact .inl rfl|exact .inr rfl|assumption):AA M A (storeName X.env x u) Q E s:=by
 obtain⟨m,hn,hl⟩:=id I.loc;have hcls:(X.env.scope.kind==.class||(X.env.scope.kind==.module&&X.env.locals != X.env.globals))=Ae:=by rw[I.ok.kind];rfl
 have hiσ:i<Y.length:=by rw[I.len];exact(A5.mp hi).1
 have cne:=I.cne;have tracked:∀{a:Ak}{h':AI},(∃ o,s.heap.get? a=Aa o/\H a=Af)->FK a s.heap h'->yy X.prog X.w H h':=λ{a h'} ha hs b ob e=>by
  obtain⟨_,_,wc⟩:=ha;refine(I.hok b ob e).stay (λc w' hc q=>(hs.2 c ?_).trans q) (λ_ q=>q) λ_ _ q=>q
  rintro rfl;rcases hc with rfl|hc
  .rw[wc]at e;cases e
  .rw[wc]at hc;cases hc
 rcases hx with hk|hk
 .refine wpAny_storeName_local hk hn (λh' ar hs=>?_) hcls
  obtain⟨oL,_,_,hoL,_⟩:=id hn;refine h _ ⟨I.ok,I.os,I.bare,⟨λb o e n hb hx=>?_,λb o e n hb hx=>?_,I.base.free,λb o e hx=>?_,I.base.tups,I.base.frzs,I.base.tbls⟩,⟨_,ar,λj y v' e1 e2 e3=>?_⟩,λy c e=>?_,I.free,I.freeC,λp hp=>?_,tracked ⟨oL,hoL,I.free⟩ hs,by simpa using I.len⟩ ⟨_,hs,.inl rfl⟩
  .exact(hs.2 b (BA (AZ (AS e) I.ok.above))).trans (I.base.keep b o e n hb hx)
  .obtain⟨sl,e1⟩:=I.base.slot b o e n hb hx;exact⟨sl,(hs.2 b (BA (AZ (AS e) I.ok.above))).trans e1⟩
  .obtain⟨o',e1⟩:=I.base.there b o e hx;exact⟨o',(hs.2 b (BA (AZ (AS e) I.ok.above))).trans e1⟩
  .by_cases hj:j=i
   .subst hj;rw[hi]at e1;cases e1;rw[Bx hiσ]at e2;cases e2;exact⟨u,r,.inl ⟨hk,by simp⟩⟩
   .rw[GJ (CF hj)]at e2;obtain⟨u',r',q⟩:=hl j y v' e1 e2 e3;refine⟨u',r',?_⟩;rcases q with ⟨k,e⟩|⟨k,c,e,z⟩
    .refine .inl ⟨k,?_⟩;have:y≠x:=λe=>hj (Qh hN e1 (e ▸ hi))
     simp[this,e]
    .exact .inr ⟨k,c,e,z.sameBut hs (cne y c e)⟩
  .obtain⟨w',z⟩:=I.cell y c e;exact⟨w',z.sameBut hs (cne y c e)⟩
  .obtain⟨e,n,ne,nf,d⟩:=I.pin p hp;exact⟨(hs.2 p.1 ne).trans e,n,ne,nf,d⟩
 .have ak:X.fn x=Ab:=by
   rcases hf with z|z
   .exact z
   .rw[z]at hk;cases hk
  obtain⟨c,hc⟩:=I.ok.has x (.inl hk);obtain⟨w',z⟩:=I.cell x c hc;refine wpAny_storeName_cell I.ok.kind hk hc z (λh' o9 hs=>?_)
  obtain⟨oc,gy,hocd⟩:=id z;refine h {s with heap:=h'} ⟨I.ok,I.os,I.bare,⟨λb o e n hb hx=>?_,λb o e n hb hx=>?_,I.base.free,λb o e hx=>?_,I.base.tups,I.base.frzs,I.base.tbls⟩,⟨m,hn.sameBut hs (CF (cne x c hc)),λj y v' e1 e2 e3=>?_⟩,λy c' e=>?_,I.free,I.freeC,λp hp=>?_,tracked ⟨oc,gy,I.freeC x c hc⟩ hs,by simpa using I.len⟩ ⟨c,hs,.inr hc⟩
  .exact(hs.2 b (BA (AZ (AS e) (I.ok.cab x c ak hc)))).trans (I.base.keep b o e n hb hx)
  .obtain⟨sl,e1⟩:=I.base.slot b o e n hb hx;exact⟨sl,(hs.2 b (BA (AZ (AS e) (I.ok.cab x c ak hc)))).trans e1⟩
  .obtain⟨o',e1⟩:=I.base.there b o e hx;exact⟨o',(hs.2 b (BA (AZ (AS e) (I.ok.cab x c ak hc)))).trans e1⟩
  .by_cases hj:j=i
   .subst hj;rw[hi]at e1;cases e1;rw[Bx hiσ]at e2;cases e2;exact⟨u,r,.inr ⟨.inl hk,c,hc,o9⟩⟩
   .rw[GJ (CF hj)]at e2;obtain⟨u',r',q⟩:=hl j y v' e1 e2 e3;refine⟨u',r',?_⟩;rcases q with q|⟨k,c',e,z'⟩
    .exact .inl q
    .refine .inr ⟨k,c',e,z'.sameBut hs ?_⟩;rintro rfl;exact hj (Qh hN e1 (I.ok.inj _ _ _ e hc ▸ hi))
  .by_cases hcc:c'=c
   .subst hcc;exact⟨_,o9⟩
   .obtain⟨w2,z2⟩:=I.cell y c' e;exact⟨w2,z2.sameBut hs hcc⟩
  .obtain⟨e,n,ne,nf,d⟩:=I.pin p hp;refine⟨(hs.2 p.1 ?_).trans e,n,ne,nf,d⟩;intro q;rw[q,gy]at e;have q':oc=p.2:=BB e;exact d w' (by rw[<-q'];exact hocd)
theorem Qb{A:A4}{E:Vq}(I:Z8 X pI Y H s)(hN:X.N.Nodup)(hi:X.N[i]?=Aa x)(hx:o6 X.env.scope x)(r:Bs v u)(h:∀ s',Z8 X pI (Y.set i (Aa v)) H s'->Q () s')(hf:X.fn x=Ab\/X.env.scope.names.lookup x=Aa .local:=by first|exact .inl rfl|exact .inr rfl|assumption):AA M A (storeName X.env x u) Q E s:=
 Tw I hN hi hx r (λs' I' _=>h s' I') hf
theorem Z8.call'{s':Ar}(I:Z8 X pI Y H s)(ho:s'.os=s.os)(u:Un (yn X.stack) ch H H' s.heap s'.heap)(hok:yy X.prog X.w H' s'.heap)(hg:FW s'.gens)(sy:∀ b∈ch,(b∈X.ex\/X.s₀.heap.objs.size<=b)/\b≠X.env.locals/\(∀ x c,X.env.cells.lookup x=Aa c->c≠b)/\∀ p∈X.pn++pI,p.1≠b):Z8 X pI Y H' s':=by
 obtain⟨h',g',d',t',o'⟩:=s';have e:o'=s.os:=ho;subst e;exact I.call (g':=g') (t':=t') (d':=d') u hok hg sy
end
abbrev XK:=Al->Ao Ak->Hp->Prop
abbrev St:=Ac (Ao V)
variable{Y:St}
abbrev VK:=V->Hp->Prop
abbrev TE:=St->Hp->VK->Prop
variable{te:TE}
abbrev TT:=St->Hp->(Am->Hp->Prop)->Prop
variable{t:TT}
abbrev TA:=St->Hp->(Ac V->Hp->Prop)->Prop
variable{ta:TA}
structure xk where
 nx:St->Hp->Prop
 rt:VK
 bk:St->Hp->Prop:=λ_ _=>AN
 ct:St->Hp->Prop:=λ_ _=>AN
abbrev TS:=xk->St->Hp->Prop
def EP(X:Cx)(pI:Pn)(Y:St)(Q:VK)(u:Al)(s':Ar):Prop:=∃ v H',Z8 X pI Y H' s'/\Bs v u/\Q v H'
def TP(X:Cx)(pI:Pn)(Y:St)(Q:Am->Hp->Prop)(b:Am)(s':Ar):Prop:=∃ H',Z8 X pI Y H' s'/\Q b H'
def AP(X:Cx)(pI:Pn)(Y:St)(Q:Ac V->Hp->Prop)(us:Ac Al)(s':Ar):Prop:=∃ vs H',Z8 X pI Y H' s'/\A1 vs us/\Q vs H'
noncomputable def SP(X:Cx)(pI:Pn)(D:xk)(f:Flow)(s':Ar):Prop:=
  match f with
  |.next=>∃ Y' H',Z8 X pI Y' H' s'/\D.nx Y' H'
  |.brk=>∃ Y' H',Z8 X pI Y' H' s'/\D.bk Y' H'
  |.cont=>∃ Y' H',Z8 X pI Y' H' s'/\D.ct Y' H'
  |.ret u=>∃ v Y' H',Z8 X pI Y' H' s'/\Bs v u/\D.rt v H'
noncomputable def PE(X:Cx)(e:Aq)(t:TE):Prop:=
 ∀(pI:Pn)(s:Ar)(Y:St)(H:Hp)(Q:VK),Z8 X pI Y H s->t Y H Q->AA (model X.prog X.w) X.A (eval e X.env) (EP X pI Y Q) X.xe s
noncomputable def PT(X:Cx)(e:Aq)(t:TT):Prop:=
 ∀(pI:Pn)(s:Ar)(Y:St)(H:Hp)(Q:Am->Hp->Prop),Z8 X pI Y H s->t Y H Q->AA (model X.prog X.w) X.A (Jk e X.env (eval e X.env)) (TP X pI Y Q) X.xe s
noncomputable def PW(X:Cx)(e:Aq)(t:TT):Prop:=
 ∀(whole:Fo Al)(pI:Pn)(s:Ar)(Y:St)(H:Hp)(Q:Am->Hp->Prop),Z8 X pI Y H s->t Y H Q->AA (model X.prog X.w) X.A (Jk e X.env whole) (TP X pI Y Q) X.xe s
theorem PW.pt(h:PW X e t):PT X e t:=h _
noncomputable def PA(X:Cx)(es:Ac Aq)(t:TA):Prop:=
 ∀(pos:AE)(pI:Pn)(s:Ar)(Y:St)(H:Hp)(Q:Ac V->Hp->Prop),Z8 X pI Y H s->t Y H Q->AA (model X.prog X.w) X.A (spliced (Bv pos (Aw es X.env))) (AP X pI Y Q) X.xe s
noncomputable def PS(X:Cx)(st:AL)(t:TS):Prop:=
 ∀(pI:Pn)(s:Ar)(Y:St)(H:Hp)(D:xk),Z8 X pI Y H s->t D Y H->AA (model X.prog X.w) X.A (exec st X.env) (SP X pI D) X.xe s
noncomputable def ye(X:Cx)(st:Ac AL)(t:TS):Prop:=
 ∀(pI:Pn)(s:Ar)(Y:St)(H:Hp)(D:xk),Z8 X pI Y H s->t D Y H->AA (model X.prog X.w) X.A (execs st X.env) (SP X pI D) X.xe s
theorem U5{t:Fo α}{Q Q':α->Ar->Prop}{A:A4}{E:Vq}(h:AA M A t Q E s)(hQ:∀ a s,Q a s->Q' a s):AA M A t Q' E s:=Bk h hQ λ_ _ x=>x
section
variable{X:Cx}
theorem bin{a b:Aq}{ta tb:TE}(ha:PE X a ta)(hb:PE X b tb){H:Hp}{R:V->V->Hp->Prop}(I:Z8 X pI Y H s)(h:ta Y H λx H1=>tb Y H1 λy H2=>R x y H2){Q:α->Ar->Prop}{f:Al->Al->Fo α}(hf:∀ v u s2 x y H2,Z8 X pI Y H2 s2->Bs x v->Bs y u->R x y H2->AA (model X.prog X.w) X.A (f v u) Q X.xe s2):AA (model X.prog X.w) X.A (eval a X.env) (λv s₁=>AA (model X.prog X.w) X.A (eval b X.env) (λu s₂=>AA (model X.prog X.w) X.A (f v u) Q X.xe s₂) X.xe s₁) X.xe s:=by
 refine U5 (ha pI s Y H _ I h) λv s1 ⟨x,H1,I1,r1,q1⟩=>?_
 refine U5 (hb pI s1 Y H1 _ I1 q1) λu s2 ⟨y,H2,I2,r2,q2⟩=>?_
 exact hf v u s2 x y H2 I2 r1 r2 q2
def Ch(i:Ag):TE:=λY H Q=>∃ v,Y[i]?=Aa (Aa v)/\Q v H
def tC(v:V):TE:=λ_ H Q=>Q v H
theorem Dw(hN:X.N[i]?=Aa x)(hv:å X.env.scope x)(hd:(x==("__debug__" : Ah))=Ae:=by decide)(zo:(x==("__classdict__" : Ah))=Ae:=by decide):PE X (.Name x pos) (Ch i):=by
 intro pI s Y H Q I h;obtain⟨v,e,h⟩:=h;obtain⟨m,hn,hl⟩:=I.loc;obtain⟨u,r,l⟩:=hl i x v hN e hv;have fin:EP X pI Y Q u s:=⟨v,H,I,r,h⟩;rcases l with ⟨hk,hm⟩|⟨hk,c,hc,ur⟩
 .exact LN (wpAny_loadName_local I.ok.kind hk hn hm fin) hd
 .rcases hk with hk|hk
  .exact LN (wpAny_loadName_cell I.ok.kind hk hc ur fin) hd
  .exact LN (wpAny_loadName_free I.ok.kind hk hc ur fin zo) hd
theorem Ol{i j pos}:PE X (.Constant (.int i) j pos) (tC (.int i)):=λ_ _ _ H _ I h=>wpAny_Constant_int ⟨.int i,H,I.tok _,⟨_,rfl⟩,h⟩
theorem xK{b j pos}:PE X (.Constant (.bool b) j pos) (tC (.bl b)):=λ_ _ _ H _ I h=>Constant_bool ⟨.bl b,H,I,rfl,h⟩
theorem Oj{j pos}:PE X (.Constant .none j pos) (tC .O):=λ_ _ _ H _ I h=>Constant_none ⟨.O,H,I,rfl,h⟩
theorem KH{x j pos}:PE X (.Constant (.str x) j pos) (tC (.str x)):=λ_ _ _ H _ I h=>Calls.Constant_str ⟨.str x,H,I.tok _,⟨_,rfl⟩,h⟩
def Gl(X:Cx)(x:Ah):Prop:=X.env.kindOf x=Aa .globalImplicit
theorem Jy{E:Vq}{H:Hp}{Q:Vq}(I:Z8 X pI Y H s)(hg:Gl X x)(hm:X.mg x=Aa u)(h:Q u s)(hd:(x==("__debug__" : Ah))=Ae:=by decide):AA (model X.prog X.w) X.A (eval (.Name x pos) X.env) Q E s:=
 YS I.ok.kind hg (Calls.loadGlobal_global (by rw[I.ok.glob];exact I.mod.glob.keeps I.bk) hm h) hd
theorem M5{E:Vq}{H:Hp}{Q:Vq}(I:Z8 X pI Y H s)(hg:Gl X x)(hm:X.mg x=Af)(hv:Dg x=Aa u)(h:Q u s)(hn:x≠"__name__" := by decide)(hd:(x==("__debug__" : Ah))=Ae:=by decide):AA (model X.prog X.w) X.A (eval (.Name x pos) X.env) Q E s:=by
 obtain⟨mb,h1,h2⟩:=I.mod.blt;exact YS I.ok.kind hg (Calls.loadGlobal_builtin (by rw[I.ok.glob];exact I.mod.glob.keeps I.bk) hm (by rw[I.ok.blt];exact h1.keeps I.bk) ((h2 x hn).trans hv) h) hd
theorem M1(hg:Gl X x)(hm:X.mg x=Aa u)(r:Bs v u)(hd:(x==("__debug__" : Ah))=Ae:=by decide):PE X (.Name x pos) (tC v):=
 λ_ _ _ H _ I h=>Jy I hg hm ⟨v,H,I,r,h⟩ hd
theorem UI(hg:Gl X x)(hm:X.mg x=Af)(hv:Dg x=Aa u)(r:Bs v u)(hn:x≠"__name__" := by decide)(hd:(x==("__debug__" : Ah))=Ae:=by decide):PE X (.Name x pos) (tC v):=
 λ_ _ _ H _ I h=>M5 I hg hm hv ⟨v,H,I,r,h⟩ hn hd
variable{a b:Aq}{ta tb:TE}{pos:AE}
variable{tA Ö:TT}{rest:Ac Aq}
def ag(t u:TT):TT:=λY H Q=>t Y H λc H1=>if c=Ab then u Y H1 Q else Q Ae H1
def tOr(t u:TT):TT:=λY H Q=>t Y H λc H1=>if c=Ab then Q Ab H1 else u Y H1 Q
def zW(t:TT):TT:=λY H Q=>t Y H λc H1=>Q (!c) H1
theorem UG(ha:PT X a tA):PW X (.BoolOp .And [a] pos) tA:=by
 intro wh pI s Y H Q I h;refine isTrue_and (U5 (ha pI s Y H Q I h) λc s1 e=>?_)
 cases c with
 |true=>exact isTrue_and_nil e
 |false=>exact e
theorem V3(ha:PT X a tA):PW X (.BoolOp .Or [a] pos) tA:=by
 intro wh pI s Y H Q I h;refine isTrue_or (U5 (ha pI s Y H Q I h) λc s1 e=>?_)
 cases c with
 |false=>exact isTrue_or_nil e
 |true=>exact e
theorem QK(ha:PT X a tA)(hb:PW X (.BoolOp .And (b::rest) pos) Ö):PW X (.BoolOp .And (a::b::rest) pos) (ag tA Ö):=by
 intro wh pI s Y H Q I h;refine isTrue_and (U5 (ha pI s Y H _ I h) λc s1 ⟨H1,I1,q1⟩=>?_)
 cases c with
 |true=>exact hb wh pI s1 Y H1 Q I1 q1
 |false=>exact⟨H1,I1,q1⟩
theorem Q9(ha:PT X a tA)(hb:PW X (.BoolOp .Or (b::rest) pos) Ö):PW X (.BoolOp .Or (a::b::rest) pos) (tOr tA Ö):=by
 intro wh pI s Y H Q I h;refine isTrue_or (U5 (ha pI s Y H _ I h) λc s1 ⟨H1,I1,q1⟩=>?_)
 cases c with
 |true=>exact⟨H1,I1,q1⟩
 |false=>exact hb wh pI s1 Y H1 Q I1 q1
theorem rG(ha:PT X a tA):PT X (.UnaryOp .Not a pos) (zW tA):=by
 intro pI s Y H Q I h;exact isTrue_not (ha pI s Y H (λc H1=>Q (!c) H1) I h)
def tU(ta tb:TE):TE:=λY H Q=>ta Y H λx H1=>∃ c,x=.bl c/\if c=Ab then tb Y H1 Q else Q (.bl Ae) H1
def zV(ta tb:TE):TE:=λY H Q=>ta Y H λx H1=>∃ c,x=.bl c/\if c=Ab then Q (.bl Ab) H1 else tb Y H1 Q
def uJ(ta:TE):TE:=λY H Q=>ta Y H λx H1=>∃ c,x=.bl c/\Q (.bl (!c)) H1
theorem pX{op}{t:TE}(h:PE X a t):PE X (.BoolOp op [a] pos) t:=λpI s Y H Q I hw=>BoolOp_one (h pI s Y H Q I hw)
theorem qA(ha:PE X a ta)(hb:PE X (.BoolOp .And (b::rest) pos) tb):PE X (.BoolOp .And (a::b::rest) pos) (tU ta tb):=by
 intro pI s Y H Q I h;refine BoolOp_and (U5 (ha pI s Y H _ I h) λv s1 ⟨x,H1,I1,r1,q1⟩=>?_)
 obtain⟨c,rfl,q1⟩:=q1;cases r1;refine Db ?_;cases c with
 |true=>exact hb pI s1 Y H1 Q I1 q1
 |false=>exact⟨.bl Ae,H1,I1,rfl,q1⟩
theorem xJ(ha:PE X a ta)(hb:PE X (.BoolOp .Or (b::rest) pos) tb):PE X (.BoolOp .Or (a::b::rest) pos) (zV ta tb):=by
 intro pI s Y H Q I h;refine BoolOp_or (U5 (ha pI s Y H _ I h) λv s1 ⟨x,H1,I1,r1,q1⟩=>?_)
 obtain⟨c,rfl,q1⟩:=q1;cases r1;refine Db ?_;cases c with
 |false=>exact hb pI s1 Y H1 Q I1 q1
 |true=>exact⟨.bl Ab,H1,I1,rfl,q1⟩
theorem pY(ha:PE X a ta):PE X (.UnaryOp .Not a pos) (uJ ta):=by
 intro pI s Y H Q I h;refine UnaryOp_ (U5 (ha pI s Y H _ I h) λv s1 ⟨x,H1,I1,r1,q1⟩=>?_)
 obtain⟨c,rfl,q1⟩:=q1;cases r1;exact not_of (Db ⟨.bl (!c),H1,I1,rfl,q1⟩)
end
noncomputable def IO(K:Fg)(H:Hp)(a:Ak)(xs:Ac V):Prop:=
 Rd H a (.L xs) \/
  ∃(o:CZ)(its:Bl Al)(n:Ag),K.lookup a=Aa o/\o.cls=.type "list"/\o.dict=Af/\o.data=.seq its n/\its.size<=sizeLine/\A1 xs its.toList
noncomputable def yk(K:Fg)(H:Hp)(a:Ak)(xs:Ac V):Prop:=
 Rd H a (.H xs) \/
  ∃(o:CZ)(its:Bl Al)(n:Ag),K.lookup a=Aa o/\o.cls=.type "tuple"/\o.data=.seq its n/\its.size<=sizeLine/\A1 xs its.toList
noncomputable def aS:Al->Ao V
 |.none=>Aa .O
 |.bool b=>Aa (.bl b)
 |.int i _=>Aa (.int i)
 |.str x _=>Aa (.str x)
 |.bytes b _=>Aa (.byt b)
 |.float b _=>Aa (.flt b)
 |.ref a=>Aa (.ref a)
 |.type n=>Aa (.ty n)
 |_=>Af
theorem Bs.abs{x:V}(r:Bs x u):aS u=Aa x:=by
 cases x with
 |O=>cases r;rfl
 |bl _=>cases r;rfl
 |int _=>obtain⟨t,rfl⟩:=r;rfl
 |str _=>obtain⟨t,rfl⟩:=r;rfl
 |byt _=>obtain⟨t,rfl⟩:=r;rfl
 |flt _=>obtain⟨t,rfl⟩:=r;rfl
 |ref _=>cases r;rfl
 |ty _=>cases r;rfl
theorem Bs.inj{x:V}(r:Bs x u)(q:Bs y u):x=y:=BB (r.abs.symm.trans q.abs)
theorem A1.inj:∀{xs ys:Ac V}{us:Ac Al},A1 xs us->A1 ys us->xs=ys
 |_,_,_,.nil,.nil=>rfl
 |_,_,_,.cons r t,.cons r' t'=>by rw[r.inj r',A1.inj t t']
section
variable{X:Cx}{pI:Pn}{Y:St}{H:Hp}{s:Ar}{a:Ak}{xs ys:Ac V}
theorem IO.of{K:Fg}(h:H a=Aa (.L xs)):IO K H a xs:=.inl (.inl h)
theorem yk.of{K:Fg}(h:H a=Aa (.H xs)):yk K H a xs:=.inl (.inl h)
theorem Z8.list(I:Z8 X pI Y H s)(h:IO X.K H a xs):∃ its:Ac Al,A1 xs its/\PlainL s.heap a its.toArray/\xs.length<=sizeLine:=by
 rcases h with h|⟨o,its,n,hk,hc,hd,hs,hz,r⟩
 .obtain⟨z,its,n,r,e⟩:=h.ok I.hok;exact⟨its,r,⟨_,n,e,rfl,rfl,rfl⟩,z⟩
 .refine⟨its.toList,r,⟨o,n,I.kIn a o hk,hc,hd,by simpa using hs⟩,?_⟩
  have e:=r.length;simp only[G9]at e;omega
theorem Z8.tuple(I:Z8 X pI Y H s)(h:yk X.K H a xs):∃ its:Ac Al,A1 xs its/\LI s.heap a its.toArray/\xs.length<=sizeLine:=by
 rcases h with h|⟨o,its,n,hk,hc,hs,hz,r⟩
 .obtain⟨z,its,r,p⟩:=h.ok I.hok;exact⟨its,r,p,z⟩
 .refine⟨its.toList,r,⟨o,I.kIn a o hk,hc,n,by simpa using hs⟩,?_⟩
  have e:=r.length;simp only[G9]at e;omega
theorem Z8.list_inj(I:Z8 X pI Y H s)(h:IO X.K H a xs)(h':IO X.K H a ys):xs=ys:=by
 obtain⟨its,r,⟨o,n,e,_,_,d⟩,_⟩:=I.list h;obtain⟨its',r',⟨o',n',e',_,_,d'⟩,_⟩:=I.list h';rw[e]at e';cases e';rw[d]at d'
 injection d' with d1 _
 have:its=its':=by simpa using congrArg J3 d1
 subst this;exact r.inj r'
theorem Z8.tuple_inj(I:Z8 X pI Y H s)(h:yk X.K H a xs)(h':yk X.K H a ys):xs=ys:=by
 obtain⟨its,r,⟨o,e,_,n,d⟩,_⟩:=I.tuple h;obtain⟨its',r',⟨o',e',_,n',d'⟩,_⟩:=I.tuple h';rw[e]at e';cases e';rw[d]at d'
 injection d' with d1 _
 have:its=its':=by simpa using congrArg J3 d1
 subst this;exact r.inj r'
end
noncomputable abbrev Cx.wish(X:Cx)(E:Vq):Cx:={X with xe:=E}
noncomputable abbrev Cx.nox(X:Cx):Cx:=X.wish λ_ _=>AN
theorem Cx.Ok.wish(ok:X.Ok)(E:Vq):(X.wish E).Ok:=
 ⟨ok.mod,ok.kind,ok.glob,ok.blt,ok.above,ok.inj,ok.has,ok.cab,ok.hd,ok.frames,ok.stk,ok.exf,ok.bs,ok.bsz,ok.noex,ok.exfs,ok.funs,ok.frf⟩
theorem Cx.Ok.unwish{E:Vq}(ok:(X.wish E).Ok):X.Ok:=
 ⟨ok.mod,ok.kind,ok.glob,ok.blt,ok.above,ok.inj,ok.has,ok.cab,ok.hd,ok.frames,ok.stk,ok.exf,ok.bs,ok.bsz,ok.noex,ok.exfs,ok.funs,ok.frf⟩
section
variable{X:Cx}{pI:Pn}{Y:St}{H:Hp}{s:Ar}{E:Vq}
theorem Z8.wish(I:Z8 X pI Y H s)(E:Vq):Z8 (X.wish E) pI Y H s:=⟨I.ok.wish E,I.os,I.bare,I.base,I.loc,I.cell,I.free,I.freeC,I.pin,I.hok,I.len⟩
theorem Z8.unwish(I:Z8 (X.wish E) pI Y H s):Z8 X pI Y H s:=⟨I.ok.unwish,I.os,I.bare,I.base,I.loc,I.cell,I.free,I.freeC,I.pin,I.hok,I.len⟩
theorem SP.unwish{D:xk}{f:Flow}{s':Ar}(h:SP (X.wish E) pI D f s'):SP X pI D f s':=by
 cases f with
 |next=>obtain⟨Y',H',I,q⟩:=h;exact⟨Y',H',I.unwish,q⟩
 |brk=>obtain⟨Y',H',I,q⟩:=h;exact⟨Y',H',I.unwish,q⟩
 |cont=>obtain⟨Y',H',I,q⟩:=h;exact⟨Y',H',I.unwish,q⟩
 |ret u=>obtain⟨v,Y',H',I,r,q⟩:=h;exact⟨v,Y',H',I.unwish,r,q⟩
theorem PE.nox{t:TE}(h:PE X.nox e t):PE X e t:=λpI s Y H Q I hw=>
 Bk (h pI s Y H Q (I.wish _) hw) (λ_ _ ⟨v,H',I',r,q⟩=>⟨v,H',I'.unwish,r,q⟩) λ_ _ z=>A7 z
theorem PT.nox(h:PT X.nox e t):PT X e t:=λpI s Y H Q I hw=>
 Bk (h pI s Y H Q (I.wish _) hw) (λ_ _ ⟨H',I',q⟩=>⟨H',I'.unwish,q⟩) λ_ _ z=>A7 z
theorem ye.nox{st:Ac AL}{t:TS}(h:ye X.nox st t):ye X st t:=λpI s Y H D I hw=>
 Bk (h pI s Y H D (I.wish _) hw) (λ_ _ q=>q.unwish) λ_ _ z=>A7 z
end
section
variable{X:Cx}{st:AL}{rest:Ac AL}{t u:TS}{e:Aq}{te:TE}{pos:AE}
def HM:TS:=λD Y H=>D.nx Y H
def RT(t u:TS):TS:=λD Y H=>t {D with nx:=u D} Y H
theorem GZ:ye X [] HM:=λ_ _ Y H _ I h=>GW ⟨Y,H,I,h⟩
theorem B9(h1:PS X st t)(h2:ye X rest u):ye X (st::rest) (RT t u):=by
 intro pI s Y H D I h;refine aN (U5 (h1 pI s Y H {D with nx:=u D} I h) λf s1 q=>?_)
 cases f with
 |next=>
  obtain⟨Y',H',I',q⟩:=q;exact h2 pI s1 Y' H' D I' q
 |ret v=>exact q
 |brk=>exact q
 |cont=>exact q
theorem DT(h1:PS X st t):ye X [st] t:=by
 intro pI s Y H D I h;refine aN (U5 (h1 pI s Y H D I h) λf s1 q=>?_)
 cases f with
 |next=>exact GW q
 |ret v=>exact q
 |brk=>exact q
 |cont=>exact q
theorem Z8.quiet{H:Hp}(I:Z8 X pI Y H s):interactive X.env=Ae:=by simp[interactive,I.ok.kind]
def Rc(te:TE):TS:=λD Y H=>te Y H λ_ H1=>D.nx Y H1
theorem Kf(he:PE X e te)(hs:Dq e Af pos.line X.env=pure Ae:=by rfl):PS X (.Expr e pos) (Rc te):=by
 intro pI s Y H D I h;exact wpAny_Expr_any (U5 (he pI s Y H _ I h) λv s1 ⟨x,H1,I1,r1,q1⟩=>⟨Y,H1,I1,q1⟩) I.quiet hs
def RU(te:TE):TS:=λD Y H=>te Y H D.rt
theorem Hl(he:PE X e te):PS X (.Return (Aa e) pos) (RU te):=by
 intro pI s Y H D I h;exact wpAny_Return_some (U5 (he pI s Y H _ I h) λv s1 ⟨x,H1,I1,r1,q1⟩=>⟨x,Y,H1,I1,r1,q1⟩)
def zY(c:TT)(t u:TS):TS:=λD Y H=>c Y H λb H1=>if b=Ab then t D Y H1 else u D Y H1
theorem FP{c:Aq}{a b:Ac AL}{tc:TT}(hc:PT X c tc)(ha:ye X a t)(hb:ye X b u):PS X (.If c a b pos) (zY tc t u):=by
 intro pI s Y H D I h;refine wpAny_If (U5 (hc pI s Y H _ I h) λd s1 ⟨H1,I1,q1⟩=>?_)
 cases d with
 |true=>exact ha pI s1 Y H1 D I1 q1
 |false=>exact hb pI s1 Y H1 D I1 q1
def oP:TS:=λ_ _ _=>AN
theorem Jw{vo:Ac AL}:ye X vo oP:=λ_ _ _ _ _ _ h=>h.elim
end
abbrev TG:=V->St->Hp->(St->Hp->Prop)->Prop
abbrev TGs:=Ac V->St->Hp->(St->Hp->Prop)->Prop
noncomputable def PG(X:Cx)(target:Aq)(t:TG):Prop:=
 ∀(pI:Pn)(s:Ar)(Y:St)(H:Hp)(v:V)(u:Al)(Q:St->Hp->Prop),Z8 X pI Y H s->Bs v u->t v Y H Q ->
  AA (model X.prog X.w) X.A (assign target X.env u) (λ_ s'=>∃ Y' H',Z8 X pI Y' H' s'/\Q Y' H') X.xe s
noncomputable def fq(X:Cx)(ts:Ac Aq)(t:TGs):Prop:=
 ∀(pI:Pn)(s:Ar)(Y:St)(H:Hp)(vs:Ac V)(us:Ac Al)(Q:St->Hp->Prop),Z8 X pI Y H s->A1 vs us->t vs Y H Q ->
  AA (model X.prog X.w) X.A (assignInOrder ((Cw ts X.env).map (·.2)) us) (λ_ s'=>∃ Y' H',Z8 X pI Y' H' s'/\Q Y' H') X.xe s
section
variable{X:Cx}{pos:AE}
def G5(i:Ag):TG:=λv Y H Q=>Q (Y.set i (Aa v)) H
theorem M0(hN:X.N.Nodup)(hi:X.N[i]?=Aa x)(hx:o6 X.env.scope x)(hf:X.fn x=Ab\/X.env.scope.names.lookup x=Aa .local:=by first|exact .inl rfl|exact .inr rfl|assumption):PG X (.Name x pos) (G5 i):=by
 intro pI s Y H v u Q I r h;exact aL (Qb I hN hi hx r (λs' I'=>⟨_,H,I',h⟩) hf)
def LG:TGs:=λvs Y H Q=>vs=[]/\Q Y H
def Lp(t:TG)(u:TGs):TGs:=λvs Y H Q=>∃ v r,vs=v::r/\t v Y H λY' H'=>u r Y' H' Q
theorem lO:fq X [] LG:=by
 intro pI s Y H vs us Q I r h;obtain⟨e,h⟩:=h;subst e;cases r;exact assignInOrder_nil ⟨Y,H,I,h⟩
theorem eO{t:TG}{u:TGs}(h1:PG X e t)(h2:fq X es u)(hs:(Cw (e::es) X.env).map (·.2)=assign e X.env::(Cw es X.env).map (·.2):=by rfl):fq X (e::es) (Lp t u):=by
 intro pI s Y H vs us Q I r h;obtain⟨v,vr,e1,h⟩:=h;subst e1;cases r with
 |cons r rr=>
  rw[hs];refine assignInOrder_cons (U5 (h1 pI s Y H _ _ _ I r h) λ_ s1 ⟨Y1,H1,I1,q1⟩=>?_)
  exact h2 pI s1 Y1 H1 _ _ Q I1 rr q1
def Pb(K:Fg)(n:Ag)(t:TGs):TG:=λv Y H Q=>∃ a xs,v=.ref a/\yk K H a xs/\xs.length=n/\t xs Y H Q
theorem V5{t:TGs}(hc:X.calm=Ab)(h:fq X es t)(hn:(Cw es X.env).length=n:=by rfl)(yh:(Cw es X.env).findIdx? (·.1)=Af:=by rfl):PG X (.Tuple es k pos) (Pb X.K n t):=by
 intro pI s Y H v u Q I r hw;obtain⟨a,xs,e1,hq,hl,hw⟩:=hw;subst e1;cases r;obtain⟨its,rv,ht,hz⟩:=I.tuple hq;refine assign_Tuple_tuple (I.ok.hd hc) ht (by simp[hn,<-hl,rv.length]) yh λh' hx=>?_
 have I1:Z8 X pI Y H {s with heap:=h'}:=I.kept (t':=s.toks) λb o e=>hx b o (BA (AS e)) e
 exact h pI _ Y H xs _ Q I1 (by simpa using rv) hw
def O1(te:TE)(g:TG):TS:=λD Y H=>te Y H λx H1=>g x Y H1 D.nx
theorem rJ{g:TG}(he:PE X e te)(hg:PG X tg g)(hs:JZ [tg] e pos.line X.env=pure Ae:=by rfl)(hw:HF [tg] e X.env=pure Af:=by rfl)(h1:(Cw [tg] X.env).map (·.2)=[assign tg X.env]:=by rfl):PS X (.Assign [tg] e pos) (O1 te g):=by
 intro pI s Y H D I h;refine wpAny_Assign_stores (U5 (he pI s Y H _ I h) λv s1 ⟨x,H1,I1,r1,q1⟩=>?_) hs hw
 rw[h1];exact U5 (hg pI s1 Y H1 x v _ I1 r1 q1) λ_ s2 q=>q
theorem EH{pos':AE}(hN:X.N.Nodup)(hi:X.N[i]?=Aa x)(hx:o6 X.env.scope x)(he:PE X e te)(hs:Dq e (Aa (.Name x pos')) pos.line X.env=pure Ae:=by rfl)(hf:X.fn x=Ab\/X.env.scope.names.lookup x=Aa .local:=by first|exact .inl rfl|exact .inr rfl|assumption):PS X (.Assign [.Name x pos'] e pos) (O1 te (G5 i)):=by
 intro pI s Y H D I h;refine wpAny_Assign_Name (U5 (he pI s Y H _ I h) λv s1 ⟨y,H1,I1,r1,q1⟩=>?_) hs
 exact Qb I1 hN hi hx r1 (λs2 I2=>⟨_,H1,I2,q1⟩) hf
end
section
variable{X:Cx}{pos:AE}
end
structure It where
 go:Ag->Hp->Prop
 yld:Ag->Hp->V->Hp->Prop
 stop:Ag->Hp->Prop
noncomputable def Je(X:Cx)(pI:Pn)(H:Hp)(b:Ak):Prop:=
 H b=Af/\b≠X.env.locals/\b∉X.fs/\(b∈X.ex\/X.s₀.heap.objs.size<=b)/\(∀ x c,X.env.cells.lookup x=Aa c->c≠b)/\∀ p∈X.pn++pI,p.1≠b
theorem Z8.fpOk{H H':Hp}(I:Z8 X pI Y H s)(hb:s.heap.objs.size<=b)(hn:H' b=Af):Je X pI H' b:=by
 refine⟨hn,YE (AZ I.lt hb),I.nofs hb,.inr (B8 I.sz hb),λx c e z=>?_,λp hp z=>?_⟩
 .obtain⟨v,q⟩:=I.cell x c e;exact absurd (AZ q.lt (by rw[z];exact hb)) (BF _)
 .exact absurd (AZ (AS (I.pin p hp).1) (by rw[z];exact hb)) (BF _)
structure qf (P:AK) (w:AH) (K:Fg) (tg:Aq) (J:It) (fp:Ac Ak) (it:Ak) (tn:Ag->AI->Prop):Prop where
 mem:it∈fp
 obj:∀ i h,tn i h->∀ b∈fp,∃ o,h.get? b=Aa o/\∀ v,o.data≠.cell v
 keep:∀ i h h',tn i h->(∀ b∈fp,∀ o,h.get? b=Aa o->h'.get? b=Aa o)->tn i h'
 item:∀(X:Cx),X.prog=P->X.w=w->X.K=K->X.calm=Ab->∀(i:Ag)(pI:Pn)(s:Ar)(Y:St)(H:Hp)(E:Vq),Z8 X pI Y H s->(∀ b∈fp,Je X pI H b)->tn i s.heap->J.go i H ->
  AA (model P w) X.A (MH (.ref it)) (λr s1=>∃ u,r=Aa u /\
   AA (model P w) X.A (GR tg (.ref it) u) (λ_ s2=>∃ x H',Z8 X pI Y H' s2/\Bs x u/\J.yld i H x H'/\tn (i+1) s2.heap/\∀ b∈fp,H' b=Af) E s1) E s
 done:∀(X:Cx),X.prog=P->X.w=w->X.K=K->X.calm=Ab->∀(i:Ag)(pI:Pn)(s:Ar)(Y:St)(H:Hp)(E:Vq),Z8 X pI Y H s->(∀ b∈fp,Je X pI H b)->tn i s.heap->J.stop i H ->
  AA (model P w) X.A (MH (.ref it)) (λr s1=>r=Af/\Z8 X pI Y H s1) E s
 self:∀(A:A4)(i:Ag)(s:Ar)(Q:Vq)(E:Vq),tn i s.heap->Q (.ref it) s->AA (model P w) A (pyIter (.ref it)) Q E s
abbrev TI:=St->Hp->(It->Hp->Prop)->Prop
noncomputable def PIE(X:Cx)(pI:Pn)(Y:St)(tg:Aq)(R:It->Hp->Prop)(À:Al)(s2:Ar):Prop:=
 ∃(it:Ak)(fp:Ac Ak)(tn:Ag->AI->Prop)(J:It)(H':Hp),À=.ref it/\Z8 X pI Y H' s2/\qf X.prog X.w X.K tg J fp it tn/\tn 0 s2.heap/\(∀ b∈fp,Je X pI H' b)/\R J H'
noncomputable def PI(X:Cx)(tg iter:Aq)(wi:TI):Prop:=
 ∀(pI:Pn)(s:Ar)(Y:St)(H:Hp)(R:It->Hp->Prop),Z8 X pI Y H s->wi Y H R ->
  AA (model X.prog X.w) X.A (eval iter X.env) (λv s1=>AA (model X.prog X.w) X.A (pyIter v) (PIE X pI Y tg R) X.xe s1) X.xe s
theorem RI{A:A4}{E:Vq}{n:CP}{vs:Bl Al}(ho:s.heap.get? it=Aa o)(hc:o.cls=.type n)(hd:o.data=.fields vs)(hn:["enumerate", "zip", "dict_itemiterator", "dict_reverseitemiterator", "odict_iterator", "itertools.zip_longest", "itertools.pairwise"].contains n=Ae)(hQ:Q () s):AA M A (GR tg (.ref it) u) Q E s:=by
  unfold GR;cases tg<;>first
    |exact A2 hQ
    | (cases u<;>first
        |exact A2 hQ
        | (refine As (wpAny_load ho ?_)
           rw[hc,hd];show AA M A (if (["enumerate", "zip", "dict_itemiterator", "dict_reverseitemiterator", "odict_iterator", "itertools.zip_longest", "itertools.pairwise"].contains n&&vs[0]? == Aa (HB _))=Ab then _ else _) Q E s
           rw[Ay (by intro h;rw[hn,Bool.false_and]at h;cases h)]
           exact A2 hQ))
noncomputable def Itl(K:Fg)(a:Ak):It:=
 ⟨λi H=>∃ xs x,IO K H a xs/\xs[i]?=Aa x,λi H x H'=>H'=H/\∀ xs,IO K H a xs->xs[i]?=Aa x,λi H=>∃ xs,IO K H a xs/\xs.length<=i⟩
noncomputable def Itt(K:Fg)(a:Ak):It:=
 ⟨λi H=>∃ xs x,yk K H a xs/\xs[i]?=Aa x,λi H x H'=>H'=H/\∀ xs,yk K H a xs->xs[i]?=Aa x,λi H=>∃ xs,yk K H a xs/\xs.length<=i⟩
noncomputable def ã(lo:Ai)(n:Ag):It:=⟨λi _=>i<n,λi H x H'=>H'=H/\x=.int (lo+i),λi _=>n<=i⟩
theorem bR{w:AH}{K:Fg}(a it:Ak):qf P w K tg (Itl K a) [it] it (λi h=>h.IsListIter it a i) where
  mem:=by simp
  obj:=λi h st b hb=>by
    have e:b=it:=by simpa using hb
    subst e;obtain⟨o,e,c,d⟩:=st;exact⟨o,e,λv z=>by rw[d]at z;cases z⟩
  keep:=λi h h' st k=>st.at λo e=>k it (by simp) o e
  item:=by
    intro X hP hw hK hc i pI s Y H E I hf st hg;subst hP hw hK;obtain⟨xs,x,hq,hx⟩:=hg;obtain⟨its,rv,p,hz⟩:=I.list hq;obtain⟨u,hu,ru⟩:=rv.get hx;obtain⟨f0,f1,f2,f3,f4,f5⟩:=hf it (by simp)
    refine aR st p.isList (x:=u) (by simpa using hu) λh' rl sb=>?_
    have I1:Z8 X pI Y H {s with heap:=h'}:=I.turned (t':=s.toks) (λb o hb e=>(sb.2 b hb).trans e) f0 f1 f3 f4 f5
    obtain⟨o,e,c,d⟩:=id rl;exact⟨u,rfl,RI (s:={s with heap:=h'}) e c d (by decide) ⟨x,H,I1,ru,⟨rfl,λys hy=>by rw[I.list_inj hy hq];exact hx⟩,rl,λb hb=>(hf b hb).1⟩⟩
  done:=by
    intro X hP hw hK hc i pI s Y H E I hf st hg;subst hP hw hK;obtain⟨xs,hq,hx⟩:=hg;obtain⟨its,rv,p,hz⟩:=I.list hq;obtain⟨f0,f1,f2,f3,f4,f5⟩:=hf it (by simp)
    have hl:=rv.length;exact aQ (I.ok.hd hc) st p.isList (by simp;omega) λh' eb=>⟨rfl,I.turned (t':=s.toks) (λb o hb e=>eb b o hb e) f0 f1 f3 f4 f5⟩
  self:=λ_ _ _ _ _ st h=>wpAny_pyIter_listiter st h
theorem cN{w:AH}{K:Fg}(a it:Ak):qf P w K tg (Itt K a) [it] it (λi h=>h.IsTupleIter it a i) where
  mem:=by simp
  obj:=λi h st b hb=>by
    have e:b=it:=by simpa using hb
    subst e;obtain⟨o,e,c,d⟩:=st;exact⟨o,e,λv z=>by rw[d]at z;cases z⟩
  keep:=λi h h' st k=>st.at λo e=>k it (by simp) o e
  item:=by
    intro X hP hw hK hc i pI s Y H E I hf st hg;subst hP hw hK;obtain⟨xs,x,hq,hx⟩:=hg;obtain⟨its,rv,p,hz⟩:=I.tuple hq;obtain⟨u,hu,ru⟩:=rv.get hx;obtain⟨f0,f1,f2,f3,f4,f5⟩:=hf it (by simp)
    refine wpAny_pyNext_tuple_item st (show s.heap.IsTuple a its.toArray from p) (x:=u) (by simpa using hu) λh' rl sb=>?_
    have I1:Z8 X pI Y H {s with heap:=h'}:=I.turned (t':=s.toks) (λb o hb e=>(sb.2 b hb).trans e) f0 f1 f3 f4 f5
    obtain⟨o,e,c,d⟩:=id rl;exact⟨u,rfl,RI (s:={s with heap:=h'}) e c d (by decide) ⟨x,H,I1,ru,⟨rfl,λys hy=>by rw[I.tuple_inj hy hq];exact hx⟩,rl,λb hb=>(hf b hb).1⟩⟩
  done:=by
    intro X hP hw hK hc i pI s Y H E I hf st hg;subst hP hw hK;obtain⟨xs,hq,hx⟩:=hg;obtain⟨its,rv,p,hz⟩:=I.tuple hq;obtain⟨f0,f1,f2,f3,f4,f5⟩:=hf it (by simp)
    have hl:=rv.length;exact wpAny_pyNext_tuple_end (I.ok.hd hc) st (show s.heap.IsTuple a its.toArray from p) (by simp;omega) λh' eb=>⟨rfl,I.turned (t':=s.toks) (λb o hb e=>eb b o hb e) f0 f1 f3 f4 f5⟩
  self:=λ_ _ _ _ _ st h=>wpAny_pyIter_tupleiter st h
theorem cO{w:AH}{K:Fg}(it:Ak)(lo:Ai)(n:Ag):qf P w K tg (ã lo n) [it] it (λi h=>IsRangeIter h it (lo+(i:Ag)*1) ((n:Ai)-(i:Ag)) 1) where
  mem:=by simp
  obj:=λi h st b hb=>by
    have e:b=it:=by simpa using hb
    subst e;exact⟨_,st,λv z=>by
      have z':Data.fields _=MA v:=z;cases z'⟩
  keep:=λi h h' st k=>k it (by simp) _ st
  item:=by
    intro X hP hw hK hc i pI s Y H E I hf st hg;subst hP hw hK;obtain⟨f0,f1,f2,f3,f4,f5⟩:=hf it (by simp)
    have W:=Walks.range (prog:=X.prog) (w:=X.w) (I.ok.hd hc) it lo 1 n;refine W.item i s _ _ hg st λv h' tk hv rl kk=>?_
    obtain⟨t,rfl⟩:=hv;have I1:Z8 X pI Y H {s with heap:=h',toks:=tk}:=I.turned (λb o hb e=>kk b o (by simpa using hb) e) f0 f1 f3 f4 f5
    refine⟨_,rfl,RI (s:={s with heap:=h',toks:=tk}) (n := "range_iterator") rl rfl rfl (by decide) ⟨.int (lo+i),H,I1,⟨t,?_⟩,⟨rfl,rfl⟩,rl,λb hb=>(hf b hb).1⟩⟩
    rw[X7]
  done:=by
    intro X hP hw hK hc i pI s Y H E I hf st hg;subst hP hw hK;obtain⟨f0,f1,f2,f3,f4,f5⟩:=hf it (by simp)
    exact wpAny_pyNext_range_end (I.ok.hd hc) st (by have:n<=i:=hg;omega) λh' eb=>⟨rfl,I.turned (t':=s.toks) (λb o hb e=>eb b o hb e) f0 f1 f3 f4 f5⟩
  self:=λ_ _ _ _ _ st h=>wpAny_pyIter_rangeiter st h
section
variable{X:Cx}{tg:Aq}
theorem Ub{H:Hp}{R:It->Hp->Prop}{E:Vq}{lo hi:Ai}{t u v:Cd}{tk:Ag}(I:Z8 X pI Y H s)(h1:-(2 ^ 62)<=lo)(h2:lo<2 ^ 62)(h3:-(2 ^ 62)<=hi)(h4:hi<2 ^ 62)(q:R (ã lo (hi-lo).toNat) H):AA (model X.prog X.w) X.A (pyIter (.ref s.heap.objs.size)) (PIE X pI Y tg R) E { s with heap:=s.heap.push { cls:=.type "range",data:=.fields #[.int lo t,.int hi u,.int 1 v] },toks:=tk }:=by
 refine wpAny_pyIter_range (IsRange.new ..) (small_one h1 h2 h3 h4) ?_;have I1:Z8 X pI Y H { s with heap:=s.heap.push { cls:=.type "range",data:=.fields #[.int lo t,.int hi u,.int 1 v] },toks:=tk }:=I.kept λb o e=>AB _ e
 refine⟨(s.heap.push { cls:=.type "range",data:=.fields #[.int lo t,.int hi u,.int 1 v] }).objs.size,[(s.heap.push { cls:=.type "range",data:=.fields #[.int lo t,.int hi u,.int 1 v] }).objs.size],_,_,H,rfl,
  I1.kept (t':=tk) λb o e=>AB _ e,cO _ lo (hi-lo).toNat,?_,λb hb=>?_,q⟩
 .have e1:lo+((0:Ag):Ai)*1=lo:=by simp
  have e2:(((hi-lo).toNat:Ag):Ai)-((0:Ag):Ai)=Builtin.Range.rangeSize lo hi 1:=by rw[rangeSize_one];split<;>omega
  show IsRangeIter _ _ (lo+((0:Ag):Ai)*1) ((((hi-lo).toNat:Ag):Ai)-((0:Ag):Ai)) 1;rw[e1,e2];exact Bp _ rfl
 .have e:b=(s.heap.push { cls:=.type "range",data:=.fields #[.int lo t,.int hi u,.int 1 v] }).objs.size:=by simpa using hb
  subst e;exact I1.fpOk (AU _) (I1.hok.fresh (AU _))
def xD(ta:TA):TI:=λY H R=>ta Y H λvs H1=>∃ j:Ai,vs=[.int j]/\-(2 ^ 62)<=j/\j<2 ^ 62/\R (ã 0 j.toNat) H1
def xC(ta:TA):TI:=λY H R=>ta Y H λvs H1=>∃ i j:Ai,vs=[.int i,.int j]/\(-(2 ^ 62)<=i/\i<2 ^ 62/\-(2 ^ 62)<=j/\j<2 ^ 62)/\R (ã i (j-i).toNat) H1
theorem cX{a:Aq}(hg:Gl X "range")(hm:X.mg "range" = Af)(ha:PA X [a] ta)(hs:Aw [a] X.env=[(Ae,eval a X.env)]:=by rfl):PI X tg (.Call (.Name "range" p) [a] [] pos) (xD ta):=by
 intro pI s Y H R I h;refine Call_ (M5 I hg hm boot_range (EN (U5 (ha pos pI s Y H _ I h) λus s1 ⟨vs,H1,I1,r1,q1⟩=>?_) hs rfl))
 obtain⟨j,e,q1,q2,q⟩:=q1;subst e;cases r1 with
 |cons r rr=>
  cases rr;obtain⟨t,rfl⟩:=r;exact call_range_1 (Ub I1 (by omega) (by omega) q1 q2 (by simpa using q))
theorem TF{a b:Aq}(hg:Gl X "range")(hm:X.mg "range" = Af)(ha:PA X [a,b] ta)(hs:Aw [a,b] X.env=[(Ae,eval a X.env),(Ae,eval b X.env)]:=by rfl)(om:Aw [b] X.env=[(Ae,eval b X.env)]:=by rfl):
  PI X tg (.Call (.Name "range" p) [a,b] [] pos) (xC ta):=by
 intro pI s Y H R I h;refine Call_ (M5 I hg hm boot_range (EN (U5 (ha pos pI s Y H _ I h) λus s1 ⟨vs,H1,I1,r1,q1⟩=>?_) (by rw[hs,om]) (by rw[om];rfl)))
 obtain⟨i,j,e,⟨q1,q2,q3,q4⟩,q⟩:=q1;subst e;cases r1 with
 |cons r rr=>
  cases rr with
  |cons r' rr=>
   cases rr;obtain⟨t,rfl⟩:=r;obtain⟨t',rfl⟩:=r';exact call_range_2 (Ub I1 q1 q2 q3 q4 q)
def zZ(wi:TI)(g:TG)(tb:TS):TS:=λD Y H=>wi Y H λJ H1=>∃ W:Ag->Ag->St->Hp->Prop,(∃ m,W 0 m Y H1)/\∀ i m Y H,W i m Y H ->
 (J.stop i H/\D.nx Y H)\/(J.go i H/\∃ N:St->Hp->Prop,(∀ Y' H',N Y' H'->∃ m',m'<m/\W (i+1) m' Y' H')/\∀ x H',J.yld i H x H'->g x Y H' λY2 H2=>tb {D with nx:=N,ct:=N,bk:=D.nx} Y2 H2)
noncomputable def Ld(fp:Ac Ak)(h:AI):Pn:=fp.filterMap λb=>(h.get? b).map λo=>(b,o)
theorem NW(hb:b∈fp)(e:h.get? b=Aa o):(b,o)∈Ld fp h:=List.mem_filterMap.mpr ⟨b,hb,by rw[e];rfl⟩
theorem TH{p:Ak×CZ}(hp:p∈Ld fp h):p.1∈fp/\h.get? p.1=Aa p.2:=by
 obtain⟨b,hb,e⟩:=List.mem_filterMap.mp hp;cases q:h.get? b with
 |none=>rw[q]at e;cases e
 |some o=>
  rw[q]at e;have e':(b,o)=p:=BB e;subst e';exact⟨hb,q⟩
theorem Z8.pinned{H:Hp}(I:Z8 X pI Y H s)(hf:∀ b∈fp,Je X pI H b)(ho:∀ b∈fp,∃ o,s.heap.get? b=Aa o/\∀ v,o.data≠.cell v):Z8 X (pI++Ld fp s.heap) Y H s:=
 I.pins_of λp hp=>(Ei.mp hp).elim (λz=>I.pin p (Br _ z)) λz=>by
  obtain⟨hb,e⟩:=TH z;obtain⟨f0,f1,f2,_⟩:=hf p.1 hb;obtain⟨o,e',d⟩:=ho p.1 hb;rw[e]at e';cases e';exact⟨e,f0,f1,f2,d⟩
theorem Z8.unpinned{pl:Pn}{H:Hp}(I:Z8 X (pI++pl) Y H s):Z8 X pI Y H s:=I.pins_of λp hp=>I.pin p (Br _ (ES _ hp))
theorem V4{iter:Aq}{wi:TI}{g:TG}{tb:TS}(hp:FM (model X.prog X.w) X.A X.env X.xe)(hc:X.calm=Ab)(hi:PI X tg iter wi)(hg:PG X tg g)(hb:ye X body tb)(hs:∀ x,Da iter X.env x=pure x:=by intro _;rfl):PS X (.For tg iter body [] pos) (zZ wi g tb):=by
 intro pI s Y H D I h;refine wpAny_For (U5 (hi pI s Y H _ I h) λv s1 h1=>U5 h1 λÀ s2 h2=>?_) hs
 obtain⟨it,fp,tn,J,H2,e,I2,T,st2,f2,W,⟨m0,w0⟩,turn⟩:=h2;subst e
 have ky:∀{H':Hp},(∀ b∈fp,H' b=Af)->∀ b∈fp,Je X pI H' b:=λhn b hb=>⟨hn b hb,(f2 b hb).2⟩
 refine codeAny_forLoop_any (λn s'=>∃ i Y' H',Z8 X pI Y' H' s'/\tn i s'.heap/\(∀ b∈fp,H' b=Af)/\W i n Y' H') ?_ m0 ⟨0,Y,H2,I2,st2,λb hb=>(f2 b hb).1,w0⟩
 rintro n s3 ⟨i,Y3,H3,I3,st3,fr3,w3⟩;rcases turn i n Y3 H3 w3 with ⟨stop,qn⟩|⟨go,N,hN,step⟩
 .refine FD hp (U5 (T.done X rfl rfl rfl hc i pI s3 Y3 H3 X.xe I3 (ky fr3) st3 stop) λr s4 ⟨hr,I4⟩=>?_)
  subst hr;exact GW ⟨Y3,H3,I4,qn⟩
 .refine FD hp (U5 (T.item X rfl rfl rfl hc i pI s3 Y3 H3 X.xe I3 (ky fr3) st3 go) λr s4 ⟨u,hr,h4⟩=>?_)
  subst hr;refine FD hp (U5 h4 λ_ s5 ⟨x,H5,I5,r5,y5,kx,fr5⟩=>?_)
  have et:=I5.pinned (ky fr5) (T.obj _ _ kx);refine FD hp (U5 (hg _ s5 Y3 H5 x u _ et r5 (step x H5 y5)) λ_ s6 ⟨Y6,H6,I6,q6⟩=>?_)
  refine FD hp (U5 (hb _ s6 Y6 H6 _ I6 q6) λf s7 q7=>?_)
  have again:∀{Y7:St}{H7:Hp},Z8 X (pI++Ld fp s5.heap) Y7 H7 s7->N Y7 H7->∃ m,m<n/\∃ i Y' H',Z8 X pI Y' H' s7/\tn i s7.heap/\(∀ b∈fp,H' b=Af)/\W i m Y' H':=λ{Y7 H7} I7 n7=>by
   obtain⟨m',hm,w7⟩:=hN Y7 H7 n7;refine⟨m',hm,i+1,Y7,H7,I7.unpinned,T.keep _ _ _ kx λb hb o e=>(I7.pin (b,o) (Br _ (Br _ (NW hb e)))).1,λb hb=>?_,w7⟩
   obtain⟨o,e,d⟩:=T.obj _ _ kx b hb;exact(I7.pin (b,o) (Br _ (Br _ (NW hb e)))).2.1
  cases f with
  |next=>obtain⟨Y7,H7,I7,n7⟩:=q7;exact again I7 n7
  |cont=>obtain⟨Y7,H7,I7,n7⟩:=q7;exact again I7 n7
  |brk=>obtain⟨Y7,H7,I7,q7⟩:=q7;exact⟨Y7,H7,I7.unpinned,q7⟩
  |ret v=>obtain⟨x7,Y7,H7,I7,r7,q7⟩:=q7;exact⟨x7,Y7,H7,I7.unpinned,r7,q7⟩
end
abbrev R2:=V->V->Hp->VK->Prop
variable{r:R2}
noncomputable def yu(X:Cx)(f:Al->Al->Fo Al)(r:R2):Prop:=
 ∀(pI:Pn)(s:Ar)(Y:St)(H:Hp)(x y:V)(v u:Al)(Q:VK),Z8 X pI Y H s->Bs x v->Bs y u->r x y H Q ->
  AA (model X.prog X.w) X.A (f v u) (EP X pI Y Q) X.xe s
noncomputable def UnR(X:Cx)(f:Al->Fo Al)(r:V->Hp->VK->Prop):Prop:=
 ∀(pI:Pn)(s:Ar)(Y:St)(H:Hp)(x:V)(v:Al)(Q:VK),Z8 X pI Y H s->Bs x v->r x H Q ->
  AA (model X.prog X.w) X.A (f v) (EP X pI Y Q) X.xe s
noncomputable def Gx(X:Cx)(f:Al)(r:Ac V->Hp->VK->Prop):Prop:=
 ∀(pI:Pn)(s:Ar)(Y:St)(H:Hp)(xs:Ac V)(us:Ac Al)(Q:VK),Z8 X pI Y H s->A1 xs us->r xs H Q ->
  AA (model X.prog X.w) X.A (call f us) (EP X pI Y Q) X.xe s
noncomputable def aV(X:Cx)(r:V->Hp->(Am->Hp->Prop)->Prop):Prop:=
 ∀(pI:Pn)(s:Ar)(Y:St)(H:Hp)(x:V)(v:Al)(Q:Am->Hp->Prop),Z8 X pI Y H s->Bs x v->r x H Q ->
  AA (model X.prog X.w) X.A (truthy v) (TP X pI Y Q) X.xe s
def Ø(r:R2)(ta tb:TE):TE:=λY H Q=>ta Y H λx H1=>tb Y H1 λy H2=>r x y H2 Q
def tUn(r:V->Hp->VK->Prop)(ta:TE):TE:=λY H Q=>ta Y H λx H1=>r x H1 Q
def rI(C:Ai->Ai->Prop)(g:Ai->Ai->V):R2:=λx y H Q=>∃ i j,x=.int i/\y=.int j/\C i j/\Q (g i j) H
def ot(g:Ai->Ai->V):R2:=λx y H Q=>∃ i j,x=.int i/\y=.int j/\Q (g i j) H
def rU(g:Ai->V):V->Hp->VK->Prop:=λx H Q=>∃ i,x=.int i/\Q (g i) H
section
variable{X:Cx}{a b c:Aq}{ta tb tc:TE}{pos:AE}
theorem Sd(ha:PE X a ta)(hb:PE X b tb){H:Hp}{R:V->V->Hp->Prop}(I:Z8 X pI Y H s)(h:ta Y H λx H1=>tb Y H1 λy H2=>R x y H2){Q:Vq}(hf:∀ v u s2 x y H2,Z8 X pI Y H2 s2->Bs x v->Bs y u->R x y H2->AA (model X.prog X.w) X.A (f v u) Q X.xe s2):AA (model X.prog X.w) X.A (eval a X.env) (λv s₁=>AA (model X.prog X.w) X.A (eval b X.env) (λu s₂=>AA (model X.prog X.w) X.A (f v u) Q X.xe s₂) X.xe s₁) X.xe s:=by
 refine U5 (ha pI s Y H _ I h) λv s1 ⟨x,H1,I1,r1,q1⟩=>?_
 refine U5 (hb pI s1 Y H1 _ I1 q1) λu s2 ⟨y,H2,I2,r2,q2⟩=>?_
 exact hf v u s2 x y H2 I2 r1 r2 q2
theorem Wp{op:Gq}(ho:yu X (Ce op) r)(ha:PE X a ta)(hb:PE X b tb):PE X (.BinOp a op b pos) (Ø r ta tb):=by
 intro pI s Y H Q I h;exact wpAny_BinOp (Sd ha hb I h λv u s2 x y H2 I2 rx ry q=>ho pI s2 Y H2 x y v u Q I2 rx ry q)
theorem xI{op:K0}{r:V->Hp->VK->Prop}(ho:UnR X (unaryOp op) r)(ha:PE X a ta):PE X (.UnaryOp op a pos) (tUn r ta):=by
 intro pI s Y H Q I h;exact UnaryOp_ (U5 (ha pI s Y H _ I h) λv s1 ⟨x,H1,I1,r1,q1⟩=>ho pI s1 Y H1 x v Q I1 r1 q1)
theorem É{C:Ai->Ai->Prop}(rule:∀(i j:Ai)(t u:Cd)(s:Ar)(Q:Vq)(E:Vq),C i j->Q (.int (g i j) s.toks) {s with toks:=s.toks+1}->AA (model X.prog X.w) X.A (f (.int i t) (.int j u)) Q E s):yu X f (rI C λi j=>.int (g i j)):=by
 intro pI s Y H x y v u Q I rx ry h;obtain⟨i,j,rfl,rfl,hc,q⟩:=h;obtain⟨t,rfl⟩:=rx;obtain⟨t',rfl⟩:=ry;exact rule i j t t' s _ _ hc ⟨.int (g i j),H,I.tok _,⟨_,rfl⟩,q⟩
theorem Xx(rule:∀(i j:Ai)(t u:Cd)(s:Ar)(Q:Vq)(E:Vq),Q (.int (g i j) s.toks) {s with toks:=s.toks+1}->AA (model X.prog X.w) X.A (f (.int i t) (.int j u)) Q E s):yu X f (ot λi j=>.int (g i j)):=by
 intro pI s Y H x y v u Q I rx ry h;obtain⟨i,j,rfl,rfl,q⟩:=h;obtain⟨t,rfl⟩:=rx;obtain⟨t',rfl⟩:=ry;exact rule i j t t' s _ _ ⟨.int (g i j),H,I.tok _,⟨_,rfl⟩,q⟩
theorem O6{g:Ai->Ai->Am}(rule:∀(i j:Ai)(t u:Cd)(s:Ar)(Q:Vq)(E:Vq),Q (.bool (g i j)) s->AA (model X.prog X.w) X.A (f (.int i t) (.int j u)) Q E s):yu X f (ot λi j=>.bl (g i j)):=by
 intro pI s Y H x y v u Q I rx ry h;obtain⟨i,j,rfl,rfl,q⟩:=h;obtain⟨t,rfl⟩:=rx;obtain⟨t',rfl⟩:=ry;exact rule i j t t' s _ _ ⟨.bl (g i j),H,I,rfl,q⟩
def bA(i j:Ai):Prop:=0<j/\j<1073741824
def aZ(i j:Ai):Prop:=0<=j/\j<=1000000/\i.natAbs<2 ^ 64
def Pp(i j:Ai):Prop:=(-(2 ^ 64)<i/\i<2 ^ 64)\/(-(2 ^ 64)<j/\j<2 ^ 64)
theorem Pp.ok{i j:Ai}(h:Pp i j):ME i j:=by
 rcases h with ⟨h1,h2⟩|⟨h1,h2⟩
 .exact .of_left (intBits_le_64 h1 h2)
 .exact .of_right (intBits_le_64 h1 h2)
theorem qG:yu X (Ce .Add) (ot λi j=>.int (i+j)):=Xx λ_ _ _ _ _ _ _ q=>add_int q
theorem qB:yu X (Ce .Sub) (ot λi j=>.int (i-j)):=Xx λ_ _ _ _ _ _ _ q=>sub_int q
theorem mB:yu X (Ce .FloorDiv) (rI bA λi j=>.int (i/j)):=É λi j _ _ _ _ _ hc q=>by
 have h1:(0:Ai)<j:=hc.1;have h2:j<1073741824:=hc.2;exact floordiv_int (by omega) (by rw[Int.fdiv_eq_ediv_of_nonneg i (by omega)];exact q) (.inl (PyProof.noPylong_small (by omega)))
theorem qE:yu X (Ce .Mod) (rI (λ_ j=>0<j) λi j=>.int (i%j)):=É λi j _ _ _ _ _ hc q=>by
 have h1:(0:Ai)<j:=hc;exact mod_int' (by omega) (by rw[Int.fmod_eq_emod_of_nonneg i (by omega)];exact q)
theorem qC:yu X (Ce .Pow) (rI aZ λi j=>.int (i ^ j.toNat)):=É λ_ _ _ _ _ _ _ hc q=>pow_int_small hc.1 hc.2.1 hc.2.2 q
theorem unI{f:Al->Fo Al}{g:Ai->Ai}(rule:∀(i:Ai)(t:Cd)(s:Ar)(Q:Vq)(E:Vq),Q (.int (g i) s.toks) {s with toks:=s.toks+1}->AA (model X.prog X.w) X.A (f (.int i t)) Q E s):UnR X f (rU λi=>.int (g i)):=by
 intro pI s Y H x v Q I rx h;obtain⟨i,rfl,q⟩:=h;obtain⟨t,rfl⟩:=rx;exact rule i t s _ _ ⟨.int (g i),H,I.tok _,⟨_,rfl⟩,q⟩
theorem pO:UnR X (unaryOp .USub) (rU λi=>.int (-i)):=unI λ_ _ _ _ _ q=>neg_int q
end
section
variable{X:Cx}{a b c:Aq}{ta tb tc:TE}{pos:AE}
theorem Vz{H:Hp}{Q:VK}{k k':Am}(I:Z8 X pI Y H s)(q:Q (.bl k) H)(e:k=k'):EP X pI Y Q (.bool k') s:=by
 subst e;exact⟨.bl k,H,I,rfl,q⟩
theorem xO:yu X (CO .Lt) (ot λi j=>.bl (decide (i<j))):=O6 λ_ _ _ _ _ _ _ q=>lt_int q
theorem xP:yu X (CO .LtE) (ot λi j=>.bl (decide (i<=j))):=O6 λ_ _ _ _ _ _ _ q=>le_int q
theorem xQ:yu X (CO .Gt) (ot λi j=>.bl (decide (j<i))):=O6 λ_ _ _ _ _ _ _ q=>gt_int q
theorem xR:yu X (CO .GtE) (ot λi j=>.bl (decide (j<=i))):=O6 λ_ _ _ _ _ _ _ q=>ge_int q
theorem qF:yu X (CO .Is) (λx y H Q=>y=.O/\Q (.bl (decide (x=.O))) H):=by
 intro pI s Y H x y v u Q I rx ry h;obtain⟨rfl,q⟩:=h;cases ry;refine is_none_gen (Vz I q ?_);cases x<;>first
  |(cases rx;rfl)
  |(obtain⟨t,rfl⟩:=rx;rfl)
theorem lY:yu X (CO .IsNot) (λx y H Q=>y=.O/\Q (.bl (!decide (x=.O))) H):=by
 intro pI s Y H x y v u Q I rx ry h;obtain⟨rfl,q⟩:=h;cases ry;refine isnot_none_gen (Vz I q ?_);cases x<;>first
  |(cases rx;rfl)
  |(obtain⟨t,rfl⟩:=rx;rfl)
theorem yu.or{r':R2}(h:yu X f r)(h':yu X f r'):yu X f (λx y H Q=>r x y H Q\/r' x y H Q):=by
 intro pI s Y H x y v u Q I rx ry q;rcases q with q|q
 .exact h pI s Y H x y v u Q I rx ry q
 .exact h' pI s Y H x y v u Q I rx ry q
theorem UH(ho:yu X (CO op) r)(ha:PE X a ta)(hb:PE X b tb)(hm:HE op b=Ae):PE X (.Compare a [op] [b] pos) (Ø r ta tb):=by
 intro pI s Y H Q I h;exact wpAny_Compare1 (Sd ha hb I h λv u s2 x y H2 I2 rx ry q=>ho pI s2 Y H2 x y v u Q I2 rx ry q) hm
def We(t:TE):TT:=λY H Q=>t Y H λx H'=>∃ k,x=.bl k/\Q k H'
theorem L7(ho:yu X (CO op) r)(ha:PE X a ta)(hb:PE X b tb)(hm:HE op b=Ae):PT X (.Compare a [op] [b] pos) (We (Ø r ta tb)):=by
 intro pI s Y H Q I h;refine wpAny_isTrue_Compare1 (U5 (ha pI s Y H _ I h) λv s1 ⟨x,H1,I1,r1,q1⟩=>U5 (hb pI s1 Y H1 _ I1 q1) λu s2 ⟨y,H2,I2,r2,q2⟩=>
  U5 (ho pI s2 Y H2 x y v u _ I2 r1 r2 q2) λc s3 ⟨z,H3,I3,r3,k,e,q3⟩=>?_) hm
 subst e;cases r3;exact Db ⟨H3,I3,q3⟩
def oQ(r r':R2)(ta tb tc:TE):TE:=λY H Q=>ta Y H λx H1=>tb Y H1 λy H2=>r x y H2 λz H3=>∃ k,z=.bl k /\
 (if k=Ab then tc Y H3 λw' H4=>r' y w' H4 Q else Q (.bl Ae) H3)
theorem eM{op':DB}{r':R2}(ho:yu X (CO op) r)(oi:yu X (CO op') r')(ha:PE X a ta)(hb:PE X b tb)(hc:PE X c tc)(hm:lastMarks [op,op'] [b,c]=Ae:=by with_unfolding_all rfl):PT X (.Compare a [op,op'] [b,c] pos) (We (oQ r r' ta tb tc)):=by
 intro pI s Y H Q I h;refine isTrue_chain (U5 (ha pI s Y H _ I h) λv s1 ⟨x,H1,I1,r1,q1⟩=>test_link (U5 (hb pI s1 Y H1 _ I1 q1) λu s2 ⟨y,H2,I2,r2,q2⟩=>
  U5 (ho pI s2 Y H2 x y v u _ I2 r1 r2 q2) λd s3 ⟨z,H3,I3,r3,k,e,q3⟩=>?_)) hm
 subst e;cases r3;refine Db ?_;cases k with
 |false=>
  obtain⟨k',e',q'⟩:=q3;cases e';exact ite_ff ⟨H3,I3,q'⟩
 |true=>
  refine ite_tt (test_last (U5 (hc pI s3 Y H3 _ I3 q3) λw' s4 ⟨z',H4,I4,r4,q4⟩=>U5 (oi pI s4 Y H4 y z' u w' _ I4 r2 r4 q4) λd' s5 ⟨z2,H5,I5,r5,k2,e2,q5⟩=>?_))
  subst e2;cases r5;exact Db ⟨H5,I5,q5⟩
noncomputable def XQ(K:Fg)(x:V)(H:Hp)(k:Am):Prop:=
  match x with
  |.O=>k=Ae
  |.bl b=>k=b
  |.int i=>k=(i != 0)
  |.str y=>y.length<=sizeLine/\k=((y.length:Ai) != 0)
  |.byt y=>y.size<=sizeLine/\k=((y.size:Ai) != 0)
  |.ref p=>(∃ xs,IO K H p xs/\k=!xs.isEmpty)\/(∃ xs,yk K H p xs/\k=!xs.isEmpty)\/∃ kvs,H p=Aa (.dK kvs)/\k=!kvs.isEmpty
  |_=>AN
theorem bW{κ:Type}{kvs:Ac (κ×V)}{vs:Ac (κ×Al)}(r:KV kvs vs):(!vs.isEmpty)=!kvs.isEmpty:=by
 cases r<;>rfl
theorem S4{its:Ac Al}(r:A1 xs its):(!its.toArray.isEmpty)=!xs.isEmpty:=by
 cases r<;>simp
theorem Mc:(sizeLine:Ag)<2 ^ 63:=by rw[By];decide
theorem pQ:aV X (λx H Q=>∃ k,XQ X.K x H k/\Q k H):=by
 intro pI s Y H x v Q I rx h;obtain⟨k,e,q⟩:=h;have hl:=Mc;have hs:sizeLine=16777216:=By;cases x with
 |O=>
  cases rx;have e':k=Ae:=e;subst e';exact truthy_none ⟨H,I,q⟩
 |bl b=>
  cases rx;have e':k=b:=e;subst e';exact Db ⟨H,I,q⟩
 |int i=>
  obtain⟨t,rfl⟩:=rx;have e':k=(i != 0):=e;subst e';exact PySem.P.truthy_int ⟨H,I,q⟩
 |str y=>
  obtain⟨t,rfl⟩:=rx;obtain⟨hy,e'⟩:y.length<=sizeLine/\k=((y.length:Ai) != 0):=e;subst e';exact PySem.P.truthy_str (by omega) ⟨H,I.tok _,q⟩
 |byt y=>
  obtain⟨t,rfl⟩:=rx;obtain⟨hy,e'⟩:y.size<=sizeLine/\k=((y.size:Ai) != 0):=e;subst e';exact PySem.W.truthy_bytes (by omega) ⟨H,I.tok _,q⟩
 |ref p=>
  cases rx;have e':(∃ xs,IO X.K H p xs/\k=!xs.isEmpty)\/(∃ xs,yk X.K H p xs/\k=!xs.isEmpty)\/∃ kvs,H p=Aa (.dK kvs)/\k=!kvs.isEmpty:=e;rcases e' with ⟨xs,hx,e'⟩|⟨xs,hx,e'⟩|⟨kvs,hx,e'⟩
  .subst e';obtain⟨its,r,pl,hz⟩:=I.list hx;have U8:=r.length;exact wpAny_truthy_list pl.isList (by simp only[AW];omega) ⟨H,I.tok _,by rw[S4 r];exact q⟩
  .subst e';obtain⟨its,r,pl,hz⟩:=I.tuple hx;have U8:=r.length;exact truthy_tuple pl (by simp only[AW];omega) ⟨H,I.tok _,by rw[S4 r];exact q⟩
  .subst e';obtain⟨hz,hS,vs,r,m⟩:kvs.length<=sizeLine/\(p==GV)=Ae/\∃ vs,KV kvs vs/\s.heap.DictOf (Qt X.prog X.w) p vs:=I.hok p _ hx;have U8:kvs.length=vs.length:=ZC r;exact wpAny_truthy_dict hS m (by omega) ⟨H,I.tok _,by rw[bW r];exact q⟩
 |_=>exact(show AN from e).elim
theorem eL(ha:PE X a ta)(he:∀ whole,Jk a X.env whole=(do let v <-whole;standAt a.pos;holding [v] (truthy v))):PT X a (λY H Q=>ta Y H λx H'=>∃ k,XQ X.K x H' k/\Q k H'):=by
 intro pI s Y H Q I h;exact isTrue_plain (U5 (ha pI s Y H _ I h) λv s1 ⟨x,H1,I1,r1,q1⟩=>pQ pI s1 Y H1 x v Q I1 r1 q1) (he _)
theorem bT:yu X (Ce .Add) (λx y H Q=>∃ i j,x=.str i/\y=.str j/\i.length+j.length<=sizeLine/\Q (.str (i++j)) H):=by
 intro pI s Y H x y v u Q I rx ry h;obtain⟨i,j,rfl,rfl,hz,q⟩:=h;obtain⟨t,rfl⟩:=rx;obtain⟨t',rfl⟩:=ry;exact add_str (λt' tk=>⟨.str (i++j),H,I.tok _,⟨_,rfl⟩,q⟩) hz
theorem KN{x:V}(r:A1 [x] us):∃ u,us=[u]/\Bs x u:=by
 cases r with
 |cons r1 r2=>cases r2;exact⟨_,rfl,r1⟩
theorem Lh{x:V}(r:A1 [x,y] us):∃ u w',us=[u,w']/\Bs x u/\Bs y w':=by
 cases r with
 |cons r1 r2=>
  cases r2 with
  |cons r3 r4=>cases r4;exact⟨_,_,rfl,r1,r3⟩
theorem dM(hc:X.calm=Ab):Gx X (.builtin "min") (λxs H Q=>∃ i j,xs=[.int i,.int j]/\Q (.int (if j<i then j else i)) H):=by
 intro pI s Y H xs us Q I r h;obtain⟨i,j,rfl,q⟩:=h;obtain⟨u,w',rfl,⟨t,rfl⟩,⟨t',rfl⟩⟩:=Lh r;refine min_two_ints (I.ok.hd hc) λh' tk k=>⟨_,H,I.kept k,?_,q⟩
 by_cases hj:j<i
 .rw[Au hj,Au hj];exact⟨_,rfl⟩
 .rw[Ay hj,Ay hj];exact⟨_,rfl⟩
theorem SG:Gx X (.type "str") (λxs H Q=>∃ i,xs=[.int i]/\i.natAbs.log2<1920/\Q (.str (toString i)) H):=by
 intro pI s Y H xs us Q I r h;obtain⟨i,rfl,hz,q⟩:=h;obtain⟨u,rfl,t,rfl⟩:=KN r;exact PySem.P.str_of_int hz ⟨.str _,H,I.tok _,⟨_,rfl⟩,q⟩
end
structure vb (h:AI) (x dx C:Ak) (mA:Ah->Ao Al):Prop where
 obj:h.get? x=Aa (Dv C dx)
 ns:h.Ns1 dx mA
 ne:dx≠x
theorem dP(n:h.Ns1 dx mA):∃ od,h.get? dx=Aa od/\∀ name,Hd name od=Aa (mA name):=by
 obtain⟨o,es,ep,ho,hd,hk,_,hm⟩:=n;refine⟨o,ho,λname=>?_⟩
 have e:=hm name;unfold nsFind findBy at e;rw[<-XY]at e;unfold Hd;rw[hd];dsimp only;split
 .rename_i y q;rw[q]at e;exact congrArg Aa e
 .rename_i q;rw[q]at e;have a:es.toList.any (·.refKey)=Ae:=by
   rw[List.any_eq_false];intro y hy;obtain⟨z,t,hkey⟩:=hk y (X1.mp hy);simp[DictEntry.refKey,hkey]
  have a':¬ es.toList.any (·.refKey)=Ab:=by rw[a];exact Ax
  rw[Ay a'];exact congrArg Aa e
theorem vb.look{x:Ak}(I:vb h x dx C mA):∃ od,PySem.W.InstAt h x (Dv C dx) C (Aa od)/\∀ name,Hd name od=Aa (mA name):=
 let ⟨od,ho,hl⟩:=dP I.ns
 ⟨od,⟨I.obj,rfl,rfl,ho⟩,hl⟩
section
variable{prog:AK}{w:AH}{A:A4}{E:Vq}{s:Ar}{K:Fg}{x dx C f:Ak}{mA:Ah->Ao Al}{name:Ah}{v:Al}
theorem nJ{expr:Am}{Q:Vq}(X:K.In s.heap)(I:vb s.heap x dx C mA)(hg:D8 K C name=Ab)(hh:EA K C=Ab)(ha:At K (.ref C) name=Aa Af)(hv:mA name=Aa v)(hv':Z_2 v=Ab)(h:Q v {s with toks:=s.toks+1}):AA (model prog w) A (K1 (.ref x) name expr) Q E s:=by
 obtain⟨od,J,hl⟩:=I.look;exact PySem.W.get_value X J (Hb hg).1 (PySem.W.findObj_own hh ha rfl (by rw[hl,hv])) hv' h
theorem gW{Q:Al×Ac Al->Ar->Prop}(X:K.In s.heap)(I:vb s.heap x dx C mA)(hg:D8 K C name=Ab)(hf:At K (.ref C) name=Aa (Aa (.ref f)))(ht:Cn K (.ref f)=Ab)(hv:mA name=Af)(h:Q (.ref f,[.ref x]) s):AA (model prog w) A (getMethod (.ref x) name pl) Q E s:=by
 obtain⟨od,J,hl⟩:=I.look;exact PySem.W.method_fn X J (Hb hg).1 (Hb hg).2 hf (AF.mp ht) (by show (Hd name od).map (·.isSome)=Aa Ae;rw[hl,hv];rfl) h
theorem iV{ns:Ac Ah}(X:K.In s.heap)(I:vb s.heap x dx C mA)(hs:At K (.ref C) "__setattr__" = Aa (Aa (.builtin "object.__setattr__")))(hp:F6 K C=Ab)(ht:ID K C name=Aa Af)(hh:EA K C=Ab)(hw:Kb mA ns)(hsz:ns.length<=sizeLine)(h:∀ h',vb h' x dx C (λy=>if y=name then Aa v else mA y)->FK dx s.heap h'->Q () {s with heap:=h',toks:=s.toks+2}):AA (model prog w) A (LP (.ref x) name v) Q E s:=by
  obtain⟨od,J,hl⟩:=I.look;refine PySem.W.set_plain X J hs (PySem.W.osa_open (s:={s with toks:=s.toks+1}) (r:=Af) X J hp ht λb=>?_)
  obtain⟨cd,hc,lw⟩:=PySem.W.any_some hh;have hx:s.heap.get? x=Aa ⟨.ref C,Aa dx,.plain,#[]⟩:=I.obj;refine As (A2 (As (As (aO hx (As (PySem.W.Looks.here (s:={s with toks:=s.toks+1}) (PySem.W.looks_clsIn X hc) ?_))))))
  rw[lw];refine A2 (a:=Aa dx) (As (A2 (As ?_)));refine wpAny_nsSet1 (s:={s with toks:=s.toks+1}) I.ns λh' gw om=>?_
  obtain⟨oD,esD,epD,hoD,hdD,hcD⟩:=gw.count (PySem.Within.cons name v hw);refine As (aP hoD (by rw[hdD];exact aF (B8 hcD (by rw[Bi];omega))) ?_)
  exact A2 (h _ ⟨(om.2 _ (CF I.ne)).trans I.obj,gw,I.ne⟩ om)
theorem eJ{R:Ij->Ar->Prop}{vs:Ac Al}(X:K.In s.heap)(hm:GQ K C=Ab)(hi:At K (.ref C) "__init__" = Aa (Aa (.ref f)))(hf:Dp K (.ref f)=Aa (.type "function"))(h:EF (model prog w) (A.under (.builtin "type.__call__" ⟨.ref C::vs,kw⟩)) (.call (.ref f) ⟨.ref (s.heap.objs.size+1)::vs,kw⟩) (PySem.W.InitBack (s.heap.objs.size+1) R)
      {s with heap:=(s.heap.push CI).push (Dv C s.heap.objs.size)}):EF (model prog w) A (.call (.ref C) ⟨vs,kw⟩) R s:=by
  obtain⟨hh,g,d,t,os⟩:=s;exact PySem.W.make_core (PySem.W.makes_of X hm) (Cp X hi) (λself=>PySem.W.bind_fn X self hf) (.inl rfl) h
end
noncomputable def Ft(f:Ah)(v:V):Ac (Ah×V)->Ac (Ah×V)
 |[]=>[(f,v)]
 |(g,x)::r=>if g=f then (g,v)::r else (g,x)::Ft f v r
theorem Su(f g:Ah)(v:V):∀ fs:Ac (Ah×V),(Ft f v fs).lookup g=if g=f then Aa v else fs.lookup g
 |[]=>by
  show BX g [(f,v)]=_;by_cases h:g=f
  .have hb:(g==f)=Ab:=AF.mpr h;simp only[BX,hb,Au h]
  .have hb:(g==f)=Ae:=Bg.mpr h;simp only[BX,hb,Ay h]
 |(k,x)::r=>by
  have ih:=Su f g v r;rw[show Ft f v ((k,x)::r)=(if k=f then (k,v)::r else (k,x)::Ft f v r) from rfl]
  by_cases hk:k=f
  .rw[Au hk];by_cases h:g=k
   .have hb:(g==k)=Ab:=AF.mpr h;simp only[BX,hb,Au (h.trans hk)]
   .have hb:(g==k)=Ae:=Bg.mpr h;simp only[BX,hb,Ay (λe:g=f=>h (e.trans hk.symm))]
  .rw[Ay hk];by_cases h:g=k
   .have hb:(g==k)=Ab:=AF.mpr h;simp only[BX,hb,Ay (λe:g=f=>hk (h.symm.trans e))]
   .have hb:(g==k)=Ae:=Bg.mpr h;simp only[BX,hb];exact ih
theorem PU(f:Ah)(v:V):∀ fs:Ac (Ah×V),f∈(Ft f v fs).map (·.1)/\∀ g,g∈fs.map (·.1)->g∈(Ft f v fs).map (·.1)
 |[]=>⟨by simp[Ft],λg h=>by simp at h⟩
 |(k,x)::r=>by
  obtain⟨i1,i2⟩:=PU f v r;rw[show Ft f v ((k,x)::r)=(if k=f then (k,v)::r else (k,x)::Ft f v r) from rfl]
  by_cases hk:k=f
  .rw[Au hk];subst hk;exact⟨by simp,λg h=>by simpa using h⟩
  .rw[Ay hk];refine⟨?_,λg h=>?_⟩
   .rw[BM];exact AD _ i1
   .rw[BM]at h ⊢;rcases A6.mp h with e|e
    .exact List.mem_cons.mpr (.inl e)
    .exact AD _ (i2 g e)
theorem Sv(f:Ah)(v:V):∀ fs:Ac (Ah×V),(Ft f v fs).length<=fs.length+1
 |[]=>by simp[Ft]
 |(k,x)::r=>by
  have ih:=Sv f v r;rw[show Ft f v ((k,x)::r)=(if k=f then (k,v)::r else (k,x)::Ft f v r) from rfl]
  by_cases hk:k=f
  .rw[Au hk,Bi,Bi];omega
  .rw[Ay hk,Bi,Bi];omega
theorem Ix.some_of{o:Ao Al}(r:Ix (Aa v) o):∃ u,o=Aa u/\Bs v u:=by
 cases o with
 |none=>exact(show AN from r).elim
 |some u=>exact⟨u,rfl,r⟩
theorem Ix.none_of{o:Ao Al}(r:Ix Af o):o=Af:=by
 cases o with
 |none=>rfl
 |some u=>exact(show AN from r).elim
theorem Tg(r:Bs v u):Z_2 u=Ab:=by
 cases v with
 |O=>cases (show u=Du from r);rfl
 |bl b=>cases (show u=Jo b from r);rfl
 |int i=>obtain⟨t,e⟩:=(show ∃ t,u=GE i t from r);cases e;rfl
 |str x=>obtain⟨t,e⟩:=(show ∃ t,u=J9 x t from r);cases e;rfl
 |byt b=>obtain⟨t,e⟩:=(show ∃ t,u=ZS b t from r);cases e;rfl
 |flt b=>obtain⟨t,e⟩:=(show ∃ t,u=K4 b t from r);cases e;rfl
 |ref a=>cases (show u=Bm a from r);rfl
 |ty n=>cases (show u=ZT n from r);rfl
section
variable{P:AK}{w:AH}{H H':Hp}{h h':AI}{a C dx:Ak}{fs fs':Ac (Ah×V)}
theorem N2(hok:yy P w H h)(e:H a=Aa (.ins C dx fs)):∃ mA,vb h a dx C mA/\(∀ f,Ix (fs.lookup f) (mA f))/\Kb mA (fs.map (·.1))/\fs.length<=1000/\H dx=Aa (.own a):=by
 obtain⟨d,z,ne,ob,mA,n,r,q⟩:=(show ObjOk P w H h a (.ins C dx fs) from hok a _ e)
 exact⟨mA,⟨ob,n,ne⟩,r,q,z,d⟩
end
structure wk (K:Fg) (C:Ak):Prop where
 pg:D8 K C Do=Ab
 hd:EA K C=Ab
 po:F6 K C=Ab
 sa:At K (.ref C) "__setattr__" = Aa (Aa (.builtin "object.__setattr__"))
theorem wk.get{K:Fg}(c:wk K C)(f:Ah):D8 K C f=Ab:=c.pg
def EX(K:Fg)(C:Ak)(f:Ah):Prop:=At K (.ref C) f=Aa Af
theorem EX.taker{K:Fg}{f:Ah}(n:EX K C f):ID K C f=Aa Af:=by
 unfold ID;rw[show At K (.ref C) f=Aa Af from n]
 rfl
structure yz (K:Fg) (C:Ak) (m:Ah) (f:Ak):Prop where
 at_:At K (.ref C) m=Aa (Aa (.ref f))
 fn:Cn K (.ref f)=Ab
 kp:Ba K (.ref f)=Ab
section
variable{X:Cx}{pI:Pn}{Y:St}{H:Hp}{s:Ar}{a C dx:Ak}{fs:Ac (Ah×V)}{f:Ah}{v:V}{A:A4}{E:Vq}
theorem S8{b:Am}{Q:Vq}(I:Z8 X pI Y H s)(e:H a=Aa (.ins C dx fs))(c:wk X.K C)(n:EX X.K C f)(l:fs.lookup f=Aa v)(h:∀ u s',Z8 X pI Y H s'->Bs v u->Q u s'):AA (model X.prog X.w) A (K1 (.ref a) f b) Q E s:=by
 obtain⟨mA,O,r,_,_,_⟩:=N2 I.hok e;obtain⟨u,hu,ru⟩:=Ix.some_of (v:=v) (o:=mA f) (by rw[<-l];exact r f)
 exact nJ I.kIn O (c.get f) c.hd n hu (Tg ru) (h u _ (I.tok _) ru)
theorem NX{m:Ah}{g:Ak}{Q:Al×Ac Al->Ar->Prop}(I:Z8 X pI Y H s)(e:H a=Aa (.ins C dx fs))(c:wk X.K C)(k:yz X.K C m g)(l:fs.lookup m=Af)(h:Q (.ref g,[.ref a]) s):AA (model X.prog X.w) A (getMethod (.ref a) m pl) Q E s:=by
 obtain⟨mA,O,r,_,_,_⟩:=N2 I.hok e;have hn:mA m=Af:=Ix.none_of (by rw[<-l];exact r m)
 exact gW I.kIn O (c.get m) k.at_ k.fn hn h
theorem cP(I:Z8 X pI Y H s)(e:H a=Aa (.ins C dx fs))(c:wk X.K C)(n:EX X.K C f)(hl:fs.length<1000)(ry:Bs y u)(h:∀ s',Z8 X pI Y (upd H a (.ins C dx (Ft f y fs))) s'->Q () s'):AA (model X.prog X.w) A (LP (.ref a) f u) Q E s:=by
 obtain⟨mA,O,r,wi,_,ho⟩:=N2 I.hok e;have hz:(fs.map (·.1)).length<=sizeLine:=by rw[Bc,By];omega
 refine iV I.kIn O c.sa c.po n.taker c.hd wi hz λh' O' sb=>h _ ?_
 have hd:∃ o,h'.get? dx=Aa o:=let ⟨o,_,_,e',_⟩:=O'.ns;⟨o,e'⟩
 refine I.write (x:=a) (e:=dx) (by rw[e];exact F1) (.inr ho) (λb q hb z=>(sb.2 b hb).trans z) hd ?_
 refine⟨by rw[AQ O.ne];exact ho,?_,O.ne,O'.obj,_,O'.ns,λg=>?_,λg hg=>?_⟩
 .have:=Sv f y fs;omega
 .show Ix ((Ft f y fs).lookup g) (if g=f then Aa u else mA g)
  rw[Su];by_cases q:g=f
  .rw[Au q,Au q];exact ry
  .rw[Ay q,Ay q];exact r g
 .by_cases q:g=f
  .rw[q];exact(PU f y fs).1
  .refine(PU f y fs).2 g (wi g λz=>hg ?_)
   show (if g=f then Aa u else mA g)=Af
   rw[Ay q];exact z
theorem Z8.made(I:Z8 X pI Y H s):Z8 X pI Y (upd (upd H s.heap.objs.size (.own (s.heap.objs.size+1))) (s.heap.objs.size+1) (.ins C s.heap.objs.size [])) {s with heap:=(s.heap.push CI).push (Dv C s.heap.objs.size)}:=by
  have e1:(s.heap.push CI).get? s.heap.objs.size=Aa CI:=Bp s.heap rfl;have e2:((s.heap.push CI).push (Dv C s.heap.objs.size)).get? (s.heap.objs.size+1)=Aa (Dv C s.heap.objs.size):=by
    have:=Bp (s.heap.push CI) (o:=Dv C s.heap.objs.size) rfl
    rwa [D1]at this
  have e3:(s.heap.push CI).Ns s.heap.objs.size (λ_=>Af):=⟨CI,#[],_,e1,rfl,(λe he=>absurd he (by simp)),λ_=>rfl⟩
  have I1:=I.laid (a:=s.heap.objs.size) (o:=.own (s.heap.objs.size+1)) (h':=s.heap.push CI) (t':=s.toks) (λb u q=>AB _ q) (AU _) ⟨_,e1⟩
  refine I1.laid (a:=s.heap.objs.size+1) (o:=.ins C s.heap.objs.size []) (t':=s.toks) (λb u q=>AB _ q) (YB (D1 _ _)) ?_
  have ne:s.heap.objs.size≠s.heap.objs.size+1:=BA (Gp _);refine⟨by rw[AQ ne,BK],Ds _,ne,e2,λ_=>Af,(Zx e3).at λo q=>AB _ q,λ_=>F1,λy hy=>absurd rfl hy⟩
theorem Qz{prog:AK}{w:AH}{env:B4}{f:Ah}{Q:Vq}(hb:BZ e f env (eval e env)=eval e env)(h:AA (model prog w) A (eval e env) (λo s₁=>AA (model prog w) A (K1 o f Ab) Q E s₁) E s):AA (model prog w) A (eval (.Attribute e f pos) env) Q E s:=
 Attribute_any_ h (by rw[arm_eval_Attribute,hb])
end
def aa(K:Fg)(ta:TE)(f:Ah):TE:=λY H Q=>ta Y H λx H1=>∃ a C dx fs v,x=.ref a/\H1 a=Aa (.ins C dx fs)/\wk K C/\EX K C f/\fs.lookup f=Aa v/\Q v H1
def zF(K:Fg)(ta tv:TE)(f:Ah):TS:=λD Y H=>tv Y H λy H1=>ta Y H1 λx H2=>∃ a C dx fs,x=.ref a/\H2 a=Aa (.ins C dx fs)/\wk K C/\EX K C f/\fs.length<1000 /\
 D.nx Y (upd H2 a (.ins C dx (Ft f y fs)))
section
variable{X:Cx}{o e value:Aq}{f:Ah}{pos pos' dl:AE}{ta tv:TE}
theorem Om(he:PE X e ta)(hb:BZ e f X.env (eval e X.env)=eval e X.env):PE X (.Attribute e f pos) (aa X.K ta f):=by
 intro pI s Y H Q I h;refine Qz hb (U5 (he pI s Y H _ I h) λu s1 ⟨x,H1,I1,rx,a,C,dx,fs,v,ex,ea,c,n,l,q⟩=>?_)
 subst ex;obtain rfl:u=Bm a:=rx;exact S8 I1 ea c n l λu' s2 I2 ru=>⟨v,H1,I2,ru,q⟩
theorem IQ(ha:PE X o ta)(hv:PE X value tv)(hs:Dq value (Aa (.Attribute o f pos')) pos.line X.env=pure Ae):PS X (.Assign [.Attribute o f pos'] value pos) (zF X.K ta tv f):=by
 intro pI s Y H D I h;refine aG (U5 (hv pI s Y H _ I h) λu s1 ⟨y,H1,I1,ry,q⟩=>U5 (ha pI s1 Y H1 _ I1 q) λov s2 ⟨x,H2,I2,rx,a,C,dx,fs,ex,ea,c,n,l,q2⟩=>?_) hs
 subst ex;obtain rfl:ov=Bm a:=rx;exact cP I2 ea c n l ry λs3 I3=>⟨Y,_,I3,q2⟩
end
section
variable{X:Cx}{pI:Pn}{Y:St}{H:Hp}{s:Ar}{A:A4}{E:Vq}{Q:Vq}{c:Al}{b:Am}
inductive xx (K:Fg) (H:Hp):V->Al->Prop where
  |O:xx K H .O (.type "NoneType")
  |bl (x:Am):xx K H (.bl x) (.type "bool")
  |int (i:Ai):xx K H (.int i) (.type "int")
  |str (x:Ah):xx K H (.str x) (.type "str")
  |flt (x:UInt64):xx K H (.flt x) (.type "float")
  |L {a:Ak} {xs:Ac V} (e:H a=Aa (.L xs)):xx K H (.ref a) (.type "list")
  |frz {a:Ak} {o:CZ} {xs:Ac V} (e:H a=Aa (.frz o (.L xs))):xx K H (.ref a) (.type "list")
  |H {a:Ak} {xs:Ac V} (e:H a=Aa (.H xs)):xx K H (.ref a) (.type "tuple")
  |dK {a:Ak} {kvs:Ac (Key×V)} (e:H a=Aa (.dK kvs)):xx K H (.ref a) (.type "dict")
  |dT {a:Ak} {kvs:Ac (Ac Key×V)} (e:H a=Aa (.dT kvs)):xx K H (.ref a) (.type "dict")
  |ins {a C dx:Ak} {fs:Ac (Ah×V)} (e:H a=Aa (.ins C dx fs)) (cl:wk K C) (ha:At K (.ref C) "__class__" = Aa (Aa (.builtin "object.__class__")))
      (hn:C3 K (.builtin "object.__class__") "__get__" = Aa (Aa (.builtin "getset_descriptor.__get__"))) (htk:IE K (.builtin "object.__class__")=Aa Ab)
      (hm:Cj K C (.type "object")=Aa Ab):xx K H (.ref a) (.ref C)
theorem dQ{x:V}{t:Al}(I:Z8 X pI Y H s)(rx:Bs x u)(ty:xx X.K H x t)(e:B5 X.K t c=Aa b)(h:∀ tk,Q (.bool b) {s with toks:=tk}):
  AA (model X.prog X.w) A (call (.builtin "isinstance") [u,c]) Q E s:=by
 cases ty with
 |O=>cases (show u=Du from rx);exact Co PySem.W.kitx_none I.kIn F1 e (λz=>nomatch z) h
 |bl y=>cases (show u=Jo y from rx);exact Co PySem.W.kitx_bool I.kIn F1 e (λz=>nomatch z) h
 |int i=>obtain⟨t,q⟩:=(show ∃ t,u=GE i t from rx);cases q;exact Co PySem.W.kitx_int I.kIn F1 e (λz=>nomatch z) h
 |str y=>obtain⟨t,q⟩:=(show ∃ t,u=J9 y t from rx);cases q;exact Co PySem.W.kitx_str I.kIn F1 e (λz=>nomatch z) h
 |flt y=>obtain⟨t,q⟩:=(show ∃ t,u=K4 y t from rx);cases q;exact Co PySem.W.kitx_float I.kIn F1 e (λz=>nomatch z) h
 | @L a xs ea=>
  cases (show u=Bm a from rx)
  obtain⟨_,_,n,_,h1⟩:=(show ObjOk X.prog X.w H s.heap a (.L xs) from I.hok a _ ea)
  exact Co Z_8 I.kIn ⟨_,h1,rfl⟩ e (λz=>nomatch z) h
 | @frz a ob xs ea=>
  cases (show u=Bm a from rx)
  obtain⟨_,_,_,n,_,h1⟩:=(show ObjOk X.prog X.w H s.heap a (.frz ob (.L xs)) from I.hok a _ ea)
  exact Co Z_8 I.kIn ⟨_,h1,rfl⟩ e (λz=>nomatch z) h
 | @H a xs ea=>
  cases (show u=Bm a from rx)
  obtain⟨_,_,_,p⟩:=(show ObjOk X.prog X.w H s.heap a (.H xs) from I.hok a _ ea)
  obtain⟨o,h1,h2,_⟩:=p;exact Co PySem.W.kitx_tuple I.kIn ⟨o,h1,h2⟩ e (λz=>nomatch z) h
 | @dK a kvs ea=>
  cases (show u=Bm a from rx)
  obtain⟨_,_,vs,_,p⟩:=(show ObjOk X.prog X.w H s.heap a (.dK kvs) from I.hok a _ ea)
  obtain⟨o,es,ep,h1,h2,_⟩:=p;exact Co Z_7 I.kIn ⟨o,h1,h2.1⟩ e (λz=>nomatch z) h
 | @dT a kvs ea=>
  cases (show u=Bm a from rx)
  obtain⟨_,_,xs,_,o,es,ep,h1,h2,_⟩:=(show ObjOk X.prog X.w H s.heap a (.dT kvs) from I.hok a _ ea)
  exact Co Z_7 I.kIn ⟨o,h1,h2.1⟩ e (λz=>nomatch z) h
 | @ins a C dx fs ea cl ha hn htk hm=>
  cases (show u=Bm a from rx)
  obtain⟨mA,O,_⟩:=N2 I.hok ea;obtain⟨od,J,_⟩:=O.look;exact Co (PySem.W.kitx_own (cl.get _) cl.hd ha hn htk hm) I.kIn J e (λz=>nomatch z) h
end
structure U6 (k:Ag) (A:A4):Prop where
 hd:A.handled=Af
 dp:A.depth+3*k+5<Hg
 un:A.units+16*k+200<BD
 gd:A.guards=Aa []
theorem U6.mono{j:Ag}{A:A4}(r:U6 k A)(h:j<=k):U6 j A:=⟨r.hd,by have:=r.dp;omega,by have:=r.un;omega,r.gd⟩
theorem U6.deeper{A:A4}(r:U6 (k+1) A)(env:B4):U6 k (A.deeper env):=
 ⟨r.hd,by have:=r.dp;show A.depth+1+3*k+5<_;omega,by have:=r.un;show A.units+3+16*k+200<_;omega,r.gd⟩
theorem U6.in1{A:A4}(r:U6 (k+1) A):U6 k A.in1:=
 ⟨r.hd,by have:=r.dp;show A.depth+3*k+5<_;omega,by have:=r.un;show A.units+1+16*k+200<_;omega,r.gd⟩
theorem SZ{A:A4}:(A.under (.builtin "type.__call__" ⟨.ref C::us,kw⟩)).depth=A.depth+1:=by
 first|rfl|simp[J5,Code.weight,Code.isCreation,Code.isGuard,Code.isCaller,YT,J6,guardIds]
theorem SY{A:A4}:(A.under (.builtin "type.__call__" ⟨.ref C::us,kw⟩)).units=A.units+1:=by
 first|rfl|simp[J5,Code.cUnits,YT,J6]
theorem U6.make{A:A4}(r:U6 (k+1) A)(C:Ak)(us:Ac Al)(kw:Ac (Ah×Al)):U6 k (A.under (.builtin "type.__call__" ⟨.ref C::us,kw⟩)):=
 ⟨r.hd,by have:=r.dp;rw[SZ];omega,by have:=r.un;rw[SY];omega,r.gd⟩
theorem U6.depth{A:A4}(r:U6 k A):A.depth<Hg:=by have:=r.dp;omega
theorem U6.units{A:A4}(r:U6 k A):A.units+64<BD:=by have:=r.un;omega
def Ms:TA:=λ_ H Q=>Q [] H
def Lj(ta:TE)(tr:TA):TA:=λY H Q=>ta Y H λx H1=>tr Y H1 λxs H2=>Q (x::xs) H2
section
variable{X:Cx}{e:Aq}{es:Ac Aq}{te:TE}{t:TA}{pos:AE}
theorem Cf:PA X [] Ms:=λ_ _ _ _ H Q I h=>Calls.spliced_nil ⟨[],H,I,.nil,h⟩
theorem Bw(ha:PE X e te)(hr:PA X es t)(hs:Aw (e::es) X.env=(Ae,eval e X.env)::Aw es X.env:=by rfl):PA X (e::es) (Lj te t):=by
 intro pos pI s Y H Q I h;rw[hs];show AA _ _ (spliced ((Ae,eval e X.env)::Bv pos (Aw es X.env))) _ _ s;refine Calls.spliced_cons (U5 (ha pI s Y H _ I h) λu s1 ⟨x,H1,I1,r1,q1⟩=>?_)
 exact U5 (hr pos pI s1 Y H1 _ I1 q1) λus s2 ⟨xs,H2,I2,r2,q2⟩=>⟨x::xs,H2,I2,.cons r1 r2,q2⟩
def zU(t:TA):TE:=λY H Q=>t Y H λxs H1=>xs.length<=sizeLine/\∀ p,H1 p=Af->Q (.ref p) (upd H1 p (.H xs))
def zX(t:TA):TE:=λY H Q=>t Y H λxs H1=>xs.length<=sizeLine/\∀ p,H1 p=Af->Q (.ref p) (upd H1 p (.L xs))
theorem Oi{x1}(h:PA X es t):PE X (.Tuple es x1 pos) (zU t):=by
 intro pI s Y H Q I hq;refine wpAny_Tuple_spliced (U5 (h pos pI s Y H _ I hq) λus s1 ⟨xs,H1,I1,r,z,q⟩=>⟨by rw[<-r.length];exact z,?_⟩)
 have hf:H1 s1.heap.objs.size=Af:=I1.hok.fresh (AU _);refine⟨.ref s1.heap.objs.size,upd H1 s1.heap.objs.size (.H xs),I1.laid (t':=s1.toks) (λb u e=>AB _ e) (AU _) ?_,rfl,q _ hf⟩
 exact⟨z,us,r,⟨_,Bp _ rfl,rfl,_,rfl⟩⟩
theorem Ma(h:PA X es t):PE X (.List es pos) (zX t):=by
 intro pI s Y H Q I hq;refine wpAny_List_spliced (U5 (h pos pI s Y H _ I hq) λus s1 ⟨xs,H1,I1,r,z,q⟩=>⟨by rw[<-r.length];exact z,?_⟩)
 have hf:H1 s1.heap.objs.size=Af:=I1.hok.fresh (AU _);refine⟨.ref s1.heap.objs.size,upd H1 s1.heap.objs.size (.L xs),I1.laid (t':=s1.toks) (λb u e=>AB _ e) (AU _) ?_,rfl,q _ hf⟩
 exact⟨z,us,0,r,Bp _ rfl⟩
end
abbrev Sp:=Ac V->Hp->VK->XK->Prop
variable{sp:Sp}
abbrev CXT:=Ac B4->Hp->Ar->XK->Al->Ar->Prop
variable{CX:CXT}
structure yd (P:AK) (w:AH) (K:Fg) (mg:Ah->Ao Al) (base:AI) (A:A4) (outer:Ac B4) (s:Ar) (H:Hp):Prop where
 frames:A.frames=Aa outer
 mod:Mod K mg base
 bs:∀ b o,base.get? b=Aa o->s.heap.get? b=Aa o/\H b=Af
 bsz:base.objs.size<=s.heap.objs.size
 funs:s.heap.FunFrames base outer
 frf:∀ b∈yn outer,H b=Af
 hok:yy P w H s.heap
 bare:FW s.gens
noncomputable def CE(outer:Ac B4)(P:AK)(w:AH)(H:Hp)(s:Ar)(Q:VK)(u:Al)(s':Ar):Prop:=
 ∃ v H',s'.os=s.os/\FW s'.gens/\Un (yn outer) [] H H' s.heap s'.heap/\yy P w H' s'.heap/\Bs v u/\Q v H'
noncomputable def CR(CX:CXT)(outer:Ac B4)(P:AK)(w:AH)(H:Hp)(s:Ar)(Q:VK)(E:XK)(r:Ij)(s':Ar):Prop:=
  match r with
  |.ok (.ret u)=>CE outer P w H s Q u s'
  |.ok _=>AN
  |.error e=>CX outer H s E e s'
structure Y4 (P:AK) (w:AH) (K:Fg) (mg:Ah->Ao Al) (base:AI) (CX:CXT) (k:Ag) (f:Ak) (fd:Bj) (ps:Ac Ah) (sp:Sp):Prop where
 len:∀ vs H Q E,sp vs H Q E->vs.length=ps.length
 run:∀(A:A4)(outer:Ac B4)(s:Ar)(H:Hp)(args:Args)(us:Ac Al)(vs:Ac V)(Q:VK)(E:XK),U6 k A->yd P w K mg base A outer s H->GC s fd args (ps.zip us)->A1 vs us->sp vs H Q E ->
  EF (model P w) A (.call (.ref f) args) (CR CX outer P w H s Q E) s
theorem Y4.mono{P:AK}{w:AH}{K:Fg}{mg:Ah->Ao Al}{base:AI}{CX:CXT}{j k:Ag}{f:Ak}{fd:Bj}{ps:Ac Ah}{sp:Sp}(F:Y4 P w K mg base CX j f fd ps sp)(h:j<=k):Y4 P w K mg base CX k f fd ps sp:=⟨F.len,λA outer s H args us vs Q E hr=>F.run A outer s H args us vs Q E (hr.mono h)⟩
theorem Y4.imp{w:AH}{K:Fg}{mg:Ah->Ao Al}{base:AI}{f:Ak}{sp':Sp}(F:Y4 P w K mg base CX k f fd ps sp)(h:∀ vs H Q E,sp' vs H Q E->sp vs H Q E):Y4 P w K mg base CX k f fd ps sp':=
 ⟨λvs H Q E q=>F.len vs H Q E (h _ _ _ _ q),λA outer s H args us vs Q E hr he hb hv hs=>F.run A outer s H args us vs Q E hr he hb hv (h _ _ _ _ hs)⟩
theorem yd.make{w:AH}{K:Fg}{mg:Ah->Ao Al}{base:AI}{A:A4}{outer:Ac B4}{H:Hp}(e:yd P w K mg base A outer s H)(C:Ak)(us:Ac Al)(kw:Ac (Ah×Al)):
    yd P w K mg base (A.under (.builtin "type.__call__" ⟨.ref C::us,kw⟩)) outer s H:=⟨by first|exact e.frames|(simpa [J5,Code.envs,J6,pushEnvs] using e.frames),e.mod,e.bs,e.bsz,e.funs,e.frf,e.hok,e.bare⟩
theorem yd.in1{w:AH}{K:Fg}{mg:Ah->Ao Al}{base:AI}{A:A4}{outer:Ac B4}{H:Hp}(e:yd P w K mg base A outer s H):yd P w K mg base A.in1 outer s H:=⟨e.frames,e.mod,e.bs,e.bsz,e.funs,e.frf,e.hok,e.bare⟩
section
variable{X:Cx}{pI:Pn}{Y:St}{H:Hp}{s s':Ar}
theorem Z8.env0(I:Z8 X pI Y H s):yd X.prog X.w X.K X.mg X.base X.A X.stack s H:=
 ⟨I.ok.frames,I.ok.mod,I.bs,B8 I.ok.bsz I.sz,I.stack,I.stkFree,I.hok,I.bare⟩
theorem Z8.after{Q:VK}(I:Z8 X pI Y H s)(h:CE X.stack X.prog X.w H s Q u s'):EP X pI Y Q u s':=by
 obtain⟨v,H',os,bare,un,hok,r,q⟩:=h;obtain⟨hh,g,d,t,os'⟩:=s';obtain rfl:os'=s.os:=os;exact⟨v,H',I.call (h':=hh) (g':=g) (d':=d) (t':=t) (ch:=[]) un hok bare (λb z=>absurd z (by simp)),r,q⟩
end
def Wf(sp:Sp)(wa:Ac V)(E:XK)(t:TA):TE:=λY H Q=>t Y H λvs H1=>sp (vs++wa) H1 Q E
def Li(C:Ak)(m:Ah)(sp:Sp)(wa:Ac V)(E:XK)(ta:TE)(t:TA):TE:=λY H Q=>ta Y H λx H1=>∃ a dx fs,x=.ref a/\H1 a=Aa (.ins C dx fs)/\fs.lookup m=Af /\
 t Y H1 λvs H2=>sp (x::(vs++wa)) H2 Q E
def uK(C:Ak)(sp:Sp)(wa:Ac V)(E:XK)(t:TA):TE:=λY H Q=>t Y H λvs H1=>∀ x dx,H1 x=Af->H1 dx=Af->dx≠x ->
 sp (.ref x::(vs++wa)) (upd (upd H1 dx (.own x)) x (.ins C dx [])) (λv H2=>v=.O/\Q (.ref x) H2) E
noncomputable def CW(K:Fg)(fd:Bj)(ps:Ac Ah)(ds:Ac Al):Prop:=
 ∀(s:Ar)(us:Ac Al),K.In s.heap->(us++ds).length=ps.length->GC s fd ⟨us,[]⟩ (ps.zip (us++ds))
theorem CW.all{K:Fg}(h:∀ us:Ac Al,us.length=ps.length->Hf fd ⟨us,[]⟩=pure (ps.zip us)):CW K fd ps []:=λs us _ hl=>by
 rw[Bz]at hl ⊢;exact .of_eq (h us hl)
def HJ(CX:CXT)(X:Cx)(E:XK):Prop:=∀(pI:Pn)(Y:St)(H:Hp)(s:Ar)(e:Al)(s':Ar),Z8 X pI Y H s->CX X.stack H s E e s'->X.xe e s'
section
variable{X:Cx}{CX:CXT}{k:Ag}{f C:Ak}{fd:Bj}{ps:Ac Ah}{sp:Sp}{wa:Ac V}{ds:Ac Al}{E:XK}{x m:Ah}{p pos apos:AE}{e o:Aq}{es:Ac Aq}{ta:TE}{t:TA}
theorem Oh{H:Hp}{Q:VK}(F:Y4 X.prog X.w X.K X.mg X.base CX k f fd ps sp)(hr:U6 k X.A)(hb:CW X.K fd ps ds)(hd:A1 wa ds)(hx:HJ CX X E)(I:Z8 X pI Y H s)(r:A1 vs us)(h:sp (vs++wa) H Q E):AA (model X.prog X.w) X.A (call (.ref f) us) (EP X pI Y Q) X.xe s:=by
 have r2:A1 (vs++wa) (us++ds):=r.append hd;have hl:(us++ds).length=ps.length:=by rw[<-r2.length];exact F.len _ _ _ _ h
 refine F0 (EG (F.run X.A X.stack s H ⟨us,[]⟩ (us++ds) (vs++wa) Q E hr I.env0 (hb s us I.kIn hl) r2 h) λr s' hq=>?_)
 cases r with
 |error e=>exact hx pI Y H s e s' I hq
 |ok fl=>
  cases fl with
  |ret u=>exact I.after hq
  |next=>exact A7 hq
  |brk=>exact A7 hq
  |cont=>exact A7 hq
theorem Kg(F:Y4 X.prog X.w X.K X.mg X.base CX k f fd ps sp)(hr:U6 k X.A)(hg:Gl X x)(hm:X.mg x=Aa (.ref f))(hk:Ba X.K (.ref f)=Ab)(hb:CW X.K fd ps ds)(hd:A1 wa ds)(hx:HJ CX X E)(ha:PA X (e::es) t)(zq:(x==("__debug__" : Ah))=Ae:=by decide)(he:Aw (e::es) X.env=(Ae,eval e X.env)::Aw es X.env:=by rfl)(zp:(Bv pos (Aw es X.env)).any (·.1)=Ae:=by rfl):PE X (.Call (.Name x p) (e::es) [] pos) (Wf sp wa E t):=by
 intro pI s Y H Q I h;refine DJ (Jy I hg hm ?_ zq);refine DI (h₀:=X.base) I.ok.mod.kin hk (U5 (ha pos pI s Y H _ I h) λus s1 ⟨vs,H1,I1,r,q⟩=>⟨I1.kIn,?_⟩) he zp
 exact Oh F hr hb hd hx I1 r q
structure Mk (K:Fg) (C f:Ak):Prop where
 makes:GQ K C=Ab
 init:At K (.ref C) "__init__" = Aa (Aa (.ref f))
 fn:Cn K (.ref f)=Ab
 kp:Ba K (.ref C)=Ab
theorem T9{H:Hp}{Q:VK}(M:Mk X.K C f)(F:Y4 X.prog X.w X.K X.mg X.base CX k f fd ps sp)(hr:U6 (k+1) X.A)(hb:CW X.K fd ps ds)(hd:A1 wa ds)(hx:HJ CX X E)(I:Z8 X pI Y H s)(r:A1 vs us)(h:∀ x dx,H x=Af->H dx=Af->dx≠x->sp (.ref x::(vs++wa)) (upd (upd H dx (.own x)) x (.ins C dx [])) (λv H2=>v=.O/\Q (.ref x) H2) E):AA (model X.prog X.w) X.A (call (.ref C) us) (EP X pI Y Q) X.xe s:=by
 have hq:=h (s.heap.objs.size+1) s.heap.objs.size (I.hok.fresh (K3 _)) (I.hok.fresh (AU _)) (BA (Gp _));have I2:=Z8.made (C:=C) I;have r2:A1 (V.ref (s.heap.objs.size+1)::(vs++wa)) (Bm (s.heap.objs.size+1)::(us++ds)):=.cons rfl (r.append hd);have hl:(Bm (s.heap.objs.size+1)::us++ds).length=ps.length:=by
  have e:=r2.length;rw[F.len _ _ _ _ hq]at e;exact e.symm
 refine F0 (eJ (f:=f) I.kIn M.makes M.init (AF.mp M.fn) (EG (F.run _ X.stack _ _ ⟨Bm (s.heap.objs.size+1)::us,[]⟩ (Bm (s.heap.objs.size+1)::(us++ds)) _ _ E (hr.make C us [])
  (I2.env0.make C us []) (hb _ (Bm (s.heap.objs.size+1)::us) I2.kIn hl) r2 hq) λr s' ay=>?_))
 cases r with
 |error e=>exact hx pI Y _ _ e s' I2 ay
 |ok fl=>
  cases fl with
  |ret u=>
   obtain⟨v,H',I3,rv,ev,q3⟩:=I2.after ay;subst ev;exact⟨rv,⟨V.ref (s.heap.objs.size+1),H',I3,rfl,q3⟩⟩
  |next=>exact A7 ay
  |brk=>exact A7 ay
  |cont=>exact A7 ay
theorem lP(M:Mk X.K C f)(F:Y4 X.prog X.w X.K X.mg X.base CX k f fd ps sp)(hr:U6 (k+1) X.A)(hg:Gl X x)(hm:X.mg x=Aa (.ref C))(hb:CW X.K fd ps ds)(hd:A1 wa ds)(hx:HJ CX X E)(ha:PA X (e::es) t)(zq:(x==("__debug__" : Ah))=Ae:=by decide)(he:Aw (e::es) X.env=(Ae,eval e X.env)::Aw es X.env:=by rfl)(zp:(Bv pos (Aw es X.env)).any (·.1)=Ae:=by rfl):PE X (.Call (.Name x p) (e::es) [] pos) (uK C sp wa E t):=by
 intro pI s Y H Q I h;refine DJ (Jy I hg hm ?_ zq);refine DI (h₀:=X.base) I.ok.mod.kin M.kp (U5 (ha pos pI s Y H _ I h) λus s1 ⟨vs,H1,I1,r,q⟩=>⟨I1.kIn,?_⟩) he zp
 exact T9 M F hr hb hd hx I1 r q
end
section
variable{X:Cx}{CX:CXT}{k:Ag}{f C:Ak}{fd:Bj}{ps ks:Ac Ah}{sp:Sp}{E:XK}{x m:Ah}{p pos apos kpos:AE}{e o:Aq}{es:Ac Aq}{kws:Ac CV}{te ta:TE}{t tk:TA}{nm:Ao Ah}
variable{g:Ac Al->Ac Al->Ac Al}{gV:Ac V->Ac V->Ac V}
end
structure zx (N P:Ac Ah) (sc:Ca):Prop where
 kind:sc.kind=.function
 co:sc.isCoroutine=Ae
 gen:sc.isGenerator=Ae
 nd:N.Nodup
 pre:N.take P.length=P
 par:∀ x∈P,sc.names.lookup x=Aa .local\/sc.names.lookup x=Aa .cell
 nofree:∀ y∈sc.names,y.2≠.free
theorem Tp{kindOf:Ah->Ao D7}{x:Ah}:∀{binds:Ac (Ah×Al)}{m:Ah->Ao Al},(∀ v,(x,v)∉binds)->Jr kindOf binds m x=m x
 |[],_,_=>rfl
 |(n,v)::r,m,h=>by
  unfold Jr;rw[Tp λw hw=>h w (AD _ hw)]
  split
  .have:x≠n:=by rintro rfl;exact h v AY
   simp[this]
  .rfl
theorem Tr{kindOf:Ah->Ao D7}{x:Ah}:∀{binds:Ac (Ah×Al)}{m:Ah->Ao Al},(∀ v,(x,v)∉binds)->Jq kindOf binds m x=m x
 |[],_,_=>rfl
 |(n,v)::r,m,h=>by
  unfold Jq;rw[Tr λw hw=>h w (AD _ hw)]
  split
  .rfl
  .have:x≠n:=by rintro rfl;exact h v AY
   simp[this]
theorem Tq{kindOf:Ah->Ao D7}{x:Ah}{v:Al}:∀{P:Ac Ah}{vs:Ac Al}{i:Ag}{m:Ah->Ao Al},P.Nodup->P[i]?=Aa x->vs[i]?=Aa v->kindOf x=Aa .local->Jr kindOf (P.zip vs) m x=Aa v
 |[],_,_,_,_,h,_,_=>by simp at h
 |_::_,[],_,_,_,_,h,_=>by simp at h
 |p::P,w::vs,0,m,nd,h1,h2,hk=>by
  simp at h1 h2;subst h1;subst h2;show Jr kindOf ((p,w)::P.zip vs) m p=_;unfold Jr;rw[Tp λv hv=>(GM.mp nd).1 (GN hv).1,Au hk]
  simp
 |p::P,w::vs,i+1,m,nd,h1,h2,hk=>by
  show Jr kindOf ((p,w)::P.zip vs) m x=_;unfold Jr;exact Tq (i:=i) (GM.mp nd).2 (by simpa using h1) (by simpa using h2) hk
theorem Ts{kindOf:Ah->Ao D7}{x:Ah}{v:Al}:∀{P:Ac Ah}{vs:Ac Al}{i:Ag}{m:Ah->Ao Al},P.Nodup->P[i]?=Aa x->vs[i]?=Aa v->kindOf x≠Aa .local->Jq kindOf (P.zip vs) m x=Aa v
 |[],_,_,_,_,h,_,_=>by simp at h
 |_::_,[],_,_,_,_,h,_=>by simp at h
 |p::P,w::vs,0,m,nd,h1,h2,hk=>by
  simp at h1 h2;subst h1;subst h2;show Jq kindOf ((p,w)::P.zip vs) m p=_;unfold Jq;rw[Tr λv hv=>(GM.mp nd).1 (GN hv).1,Ay hk]
  simp
 |p::P,w::vs,i+1,m,nd,h1,h2,hk=>by
  show Jq kindOf ((p,w)::P.zip vs) m x=_;unfold Jq;exact Ts (i:=i) (GM.mp nd).2 (by simpa using h1) (by simpa using h2) hk
noncomputable def start(N:Ac Ah)(vs:Ac V):St:=vs.map Aa++EE (N.length-vs.length) Af
noncomputable def B0(CX:CXT)(P:AK)(w:AH)(K:Fg)(mg:Ah->Ao Al)(base:AI)(N:Ac Ah)(qual:Ah)(scope:Ca)(f:Ak)(cd:Al)(A:A4)(outer:Ac B4)(s:Ar)(H:Hp)(E:XK):Cx where
 prog:=P
 w:=w
 K:=K
 mg:=mg
 base:=base
 A:=A.deeper (D3 qual scope s.heap.objs.size f cd)
 N:=N
 s₀:=s
 H₀:=H
 env:=D3 qual scope s.heap.objs.size f cd
 outer:=outer
 stack:=D3 qual scope s.heap.objs.size f cd::outer
 ex:=[]
 calm:=Ab
 fn:=λ_=>Ab
 pn:=[]
 xe:=λe s'=>AA (model P w) (A.deeper (D3 qual scope s.heap.objs.size f cd)) (leaving (D3 qual scope s.heap.objs.size f cd) e) (λ_ cj=>CX outer H s E e cj) (λe' cj=>CX outer H s E e' cj) s'
theorem Uw{sc:Ca}(h:sc.names.lookup x=Aa .cell):∃ c,(CN n sc.names []).lookup x=Aa c:=by
 have q:=Gh sc.names n [] (.inl h);exact Cz.mp q
theorem PV{w:AH}{K:Fg}{mg:Ah->Ao Al}{base:AI}{N ps:Ac Ah}{f:Ak}{cd:Al}{A:A4}{outer:Ac B4}{s1:Ar}{H:Hp}{E:XK}(S:zx N ps scope)(hd:A.handled=Af)(e0:yd P w K mg base A outer s H)(hl:vs.length=ps.length)(r:A1 vs us)(x:InCallC s s.heap.objs.size (Jr (D3 qual scope s.heap.objs.size f cd).kindOf (ps.zip us) λ_=>Af) (CN (s.heap.objs.size+1) scope.names []) (Jq (D3 qual scope s.heap.objs.size f cd).kindOf (ps.zip us) λ_=>Af) s1):Z8 (B0 CX P w K mg base N qual scope f cd A outer s H E) [] (start N vs) H s1:=by
 have zp:ps.length<=N.length:=by have:=congrArg Yo S.pre;rw[Ib]at this;omega
 obtain⟨h1,tk,rfl,hk⟩:=x.done;have bt:∀ b:Ak,b∉(B0 CX P w K mg base N qual scope f cd A outer s H E).ex:=λb z=>absurd (show b∈([]:Ac Ak) from z) (by simp)
 refine⟨⟨e0.mod,S.kind,rfl,rfl,AU _,λy z c h1 h2=>?_,λy hy=>?_,λy c _ h=>?_,λ_=>hd,Around.frames_deeper e0.frames,.inr ⟨rfl,rfl⟩,λb z=>absurd z (bt b),e0.bs,e0.bsz,λb _ _=>bt b,λb z=>absurd z (bt b),e0.funs,e0.frf⟩,
  rfl,e0.bare,Un.kept hk,⟨_,x.toInCall.ns,λi y v h1 h2 h3=>?_⟩,λy c h=>⟨_,x.cell y c h⟩,e0.hok.fresh (AU _),λy c h=>?_,λp hp=>absurd (show p∈([]:Pn) from hp) (by simp),e0.hok.kept hk,?_⟩
 .exact name_of_addr x.apart (CJ h1) (CJ h2)
 .have hy:scope.names.lookup y=Aa .cell\/scope.names.lookup y=Aa .free:=hy;rcases hy with hy|hy
  .exact Uw hy
  .exact absurd rfl (S.nofree _ (CJ hy))
 .exact GP (x.above y c (CJ h))
 .have hi:i<vs.length:=by
   unfold start at h2;by_cases hi:i<vs.length
   .exact hi
   .rw[Yk (by simpa using hi)]at h2
    rw[Yl]at h2;split at h2<;>cases h2
  have ha:vs[i]?=Aa v:=by
   unfold start at h2;rw[Fw (by simpa using hi),Ez]at h2
   cases e:vs[i]? with
   |none=>rw[e]at h2;cases h2
   |some a=>rw[e]at h2;cases h2;rfl
  obtain⟨u,hu,rv⟩:=r.get ha;have hp:ps[i]?=Aa y:=by
   rw[<-S.pre,List.getElem?_take_of_lt (by omega)];exact h1
  have ndP:ps.Nodup:=by rw[<-S.pre];exact S.nd.sublist (List.take_sublist _ _)
  refine⟨u,rv,?_⟩;rcases S.par y (GK hp) with k|k
  .exact .inl ⟨k,Tq ndP hp hu k⟩
  .obtain⟨c,e⟩:=Uw (n:=s.heap.objs.size+1) k;refine .inr ⟨.inl k,c,e,?_⟩;have q:=x.cell y c e;rw[Ts ndP hp hu (by show scope.names.lookup y≠_;rw[k];decide)]at q
   exact q
 .exact e0.hok.fresh (GP (x.above y c (CJ h)))
 .unfold start;show _=N.length;rw[BS,Bc,Ys];omega
theorem Hq{w:AH}{K:Fg}{mg:Ah->Ao Al}{base:AI}{f:Ak}{name:Ah}{params:Mz}{dV kV doc pm cdv ct oc:Al}{an od:Ao Ak}{osl:Bl (Ao Al)}{N ps:Ac Ah}(lk:K.lookup f=Aa ⟨oc,od,.func (B1 name qual params body scope dV kV doc pm an cdv ct),osl⟩)(zo:DD K cdv qual=Ab)(S:zx N ps scope)(len:∀ vs H Q E,sp vs H Q E->vs.length=ps.length)(wb:∀(A:A4)(outer:Ac B4)(s:Ar)(H:Hp)(vs:Ac V)(Q:VK)(E:XK),U6 k (A.deeper (D3 qual scope s.heap.objs.size f cdv))->sp vs H Q E ->
   ∃ t,ye (B0 CX P w K mg base N qual scope f cdv A outer s H E) body t/\t {nx:=λ_ H'=>Q .O H',rt:=Q} (start N vs) H):Y4 P w K mg base CX (k+1) f (B1 name qual params body scope dV kV doc pm an cdv ct) ps sp:=by
 refine⟨len,λA outer s H args us vs Q E hr e0 hb r qt=>?_⟩
 have hl:=len _ _ _ _ qt;have KX:K.In s.heap:=e0.mod.kin.keeps λb o e=>(e0.bs b o e).1
 have lim:s.heap.NoLimit:=e0.mod.nolimit.keeps λb o e=>(e0.bs b o e).1
 have we:∀ y∈ps.zip us,scope.names.lookup y.1=Aa .local\/(scope.names.lookup y.1=Aa .cell/\((CN (s.heap.objs.size+1) scope.names []).lookup y.1).isSome=Ab):=λ⟨n,v⟩ hy=>by
  rcases S.par n (GN hy).1 with q|q
  .exact .inl q
  .exact .inr ⟨q,Gh _ _ _ (.inl q)⟩
 refine GF hr.depth (KX _ _ lk) rfl S.co S.gen rfl (Hz KX zo) (hb _ _ _ _ ?_);refine Fh S.kind we λenv he s1 x=>?_
 subst he;refine⟨lim.keeps x.toInCall.keep,Kc ?_⟩;obtain⟨t,ht,hq⟩:=wb A outer s H vs Q E (hr.deeper _) qt;have I:Z8 (B0 CX P w K mg base N qual scope f cdv A outer s H E) [] (start N vs) H s1:=PV S hr.hd e0 hl r x;refine Bk (ht [] s1 (start N vs) H _ I hq) (λfl s' hs=>?_) λe s' hs=>hs
 have fin:∀{Y':St}{H':Hp}{v:V}{u:Al},Z8 (B0 CX P w K mg base N qual scope f cdv A outer s H E) [] Y' H' s'->Bs v u->Q v H'->CE outer P w H s Q u s':=
  λ{Y' H' v u} J rv q=>⟨v,H',J.os,J.bare,J.base,J.hok,rv,q⟩
 cases fl with
 |ret u=>
  obtain⟨v,Y',H',J,rv,q⟩:=hs;exact fin J rv q
 |next=>
  obtain⟨Y',H',J,q⟩:=hs;exact fin (v:=V.O) (u:=Du) J rfl q
 |brk=>
  obtain⟨_,_,_,q⟩:=hs;exact A7 q
 |cont=>
  obtain⟨_,_,_,q⟩:=hs;exact A7 q
section
variable{X:Cx}{x:Ah}{p pos:AE}{e:Aq}{es:Ac Aq}{t:TA}{id T:CP}{r:Ac V->Hp->VK->Prop}
def tCB(r:Ac V->Hp->VK->Prop)(t:TA):TE:=λY H Q=>t Y H λvs H1=>r vs H1 Q
theorem Kk(hc:Gx X (.builtin id) r)(hg:Gl X x)(hm:X.mg x=Af)(hv:Dg x=Aa (.builtin id))(ha:PA X (e::es) t)(hn:x≠"__name__" := by decide)(zq:(x==("__debug__" : Ah))=Ae:=by decide)(he:Aw (e::es) X.env=(Ae,eval e X.env)::Aw es X.env:=by rfl)(zp:(Bv pos (Aw es X.env)).any (·.1)=Ae:=by rfl):PE X (.Call (.Name x p) (e::es) [] pos) (tCB r t):=by
 intro pI s Y H Q I h;refine DJ (M5 I hg hm hv ?_ hn zq);exact PyProof.Rows.callWith_builtin1 (U5 (ha pos pI s Y H _ I h) λus s1 ⟨vs,H1,I1,r1,q1⟩=>hc pI s1 Y H1 vs us Q I1 r1 q1) he zp
theorem PR(hc:Gx X (.type T) r)(hg:Gl X x)(hm:X.mg x=Af)(hv:Dg x=Aa (.type T))(ha:PA X (e::es) t)(hn:x≠"__name__" := by decide)(zq:(x==("__debug__" : Ah))=Ae:=by decide)(he:Aw (e::es) X.env=(Ae,eval e X.env)::Aw es X.env:=by rfl)(zp:(Bv pos (Aw es X.env)).any (·.1)=Ae:=by rfl):PE X (.Call (.Name x p) (e::es) [] pos) (tCB r t):=by
 intro pI s Y H Q I h;refine DJ (M5 I hg hm hv ?_ hn zq);exact EN (U5 (ha pos pI s Y H _ I h) λus s1 ⟨vs,H1,I1,r1,q1⟩=>hc pI s1 Y H1 vs us Q I1 r1 q1) he zp
end
end L2
namespace HT
open PySem PyProof.Rows
variable{sl:Ak}
section
open PySem.SeqAt
open PySem.AutoSeq1 (wpAny_loadPart')
open PySem.MeetsSeq PySem.MeetsSeq2 PySem.MeetsSeq3
end
section
variable{prog:AK}{w:AH}{A:A4}{E:Vq}{s:Ar}
theorem cat_tup{t b:Ak}{vs ws:Ac Al}{Q:Vq}(ht:LI s.heap t vs.toArray)(hb:LI s.heap b ws.toArray)(hv:vs≠[])(h1:ws=[]->Q (.ref t) s)(h2:ws≠[]->Q (.ref s.heap.objs.size) { s with heap:=s.heap.push { cls:=.type "tuple",data:=.seq (vs++ws).toArray } })(hsz:vs.length+ws.length<=sizeLine):AA (model prog w) A (Ce .Add (.ref t) (.ref b)) Q E s:=by
 obtain⟨⟨cls,dd,data,sl⟩,ho,hc,n,hd⟩:=id ht;obtain⟨⟨cls2,è,data2,Ô⟩,Ϲ,hc2,n2,hd2⟩:=id hb;simp only at hc hd hc2 hd2;subst hc hd hc2 hd2;have e:vs.toArray++ws.toArray=(vs++ws).toArray:=by simp
 by_cases hw:ws=[]
 .exact Kd ⟨_,ho,rfl⟩ ⟨_,Ϲ,rfl⟩ aE seq_tuple_add Zt Zn (Zl _ _)
   (tuple_addW1 t b vs.toArray ws.toArray n n2 dd è sl Ô (by simpa using hv) (by simp[hw])) ⟨ho,Ϲ,h1 hw⟩
 .refine Kd ⟨_,ho,rfl⟩ ⟨_,Ϲ,rfl⟩ aE seq_tuple_add Zt Zn (Zl _ _)
   (tuple_addW2 t b vs.toArray ws.toArray n n2 dd è sl Ô (by simpa using hv) (by simpa using hw) (by rw[AW,AW];exact hsz)) ⟨ho,Ϲ,?_⟩
  rw[e];exact h2 hw
noncomputable def sIx(n d:Ag):Ao Ai->Ag
 |none=>d
 |some v=>if v<0 then (v+(n:Ai)).toNat else min v.toNat n
theorem qS(n d:Ag)(hd:d<=n)(o:Ao Ai):sIx n d o<=n:=by
 cases o with
 |none=>exact hd
 |some v=>
  show (if v<0 then (v+(n:Ai)).toNat else min v.toNat n)<=n
  by_cases hv:v<0
  .rw[Au hv];omega
  .rw[Ay hv];exact Nat.min_le_right _ _
theorem U_7(v:Ai)(n d:Ag):(if v<0 then max (v+(n:Ai)) 0 else min v (n:Ai))=((sIx n d (Aa v):Ag):Ai):=by
 show (if v<0 then max (v+(n:Ai)) 0 else min v (n:Ai))=(((if v<0 then (v+(n:Ai)).toNat else min v.toNat n):Ag):Ai)
 by_cases hv:v<0
 .simp only[Au hv];omega
 .simp only[Ay hv];omega
theorem cA(lo hi:Ao Ai)(n:Ag):FA lo hi 1 (n:Ai)=(((sIx n 0 lo:Ag):Ai),((sIx n n hi:Ag):Ai)):=by
 have h1:¬ ((1:Ai)<0):=by omega
 unfold FA;simp only[h1,JS];refine MC ?_ ?_
 .cases lo with
  |none=>rfl
  |some v=>exact U_7 v n 0
 .cases hi with
  |none=>rfl
  |some v=>exact U_7 v n n
theorem cR(i j:Ag):DY (i:Ai) (j:Ai) 1=j-i:=by
 unfold DY;have h1:(1:Ai)>0:=by omega
 simp only[h1,EM,Int.ediv_one];split<;>omega
theorem SV{v:Al}{o:Ao Ai}{Q:Ao Ai->Ar->Prop}(p:Hy v o)(h:Q o s):AA (model prog w) A (Builtin.Slice.slicePartIndex v) Q E s:=by
 cases p with
 |none=>exact YL h
 |int i t=>exact slicePart_int h
theorem bE{vl vu:Al}{lo hi:Ao Ai}{n:Ag}{Q:Ai×Ai×Ag->Ar->Prop}(hs:s.heap.IsSliceOf sl vl vu .none)(pl:Hy vl lo)(pu:Hy vu hi)(h:Q (((sIx n 0 lo:Ag):Ai),1,sIx n n hi-sIx n 0 lo) s):AA (model prog w) A (YQ (.ref sl) (pure (n:Ai))) Q E s:=by
 obtain⟨os,aw,hcs,Ϸ⟩:=id hs;unfold YQ Builtin.Slice.sliceFields;refine As (As (Fk aw Ϸ (x:=vl) rfl (As (Fk aw Ϸ (x:=vu) rfl (As (Fk aw Ϸ (x:=.none) rfl (A2 ?_)))))));refine As (YL ?_);show AA _ _ (if ((1:Ai)==0)=Ab then _ else _) _ _ s
 rw[Ay (by decide)]
 refine As (SV pl (As (SV pu (As (A2 ?_)))));show AA _ _ (match FA lo hi 1 (n:Ai) with|(lo,hi)=>pure (lo,(1:Ai),DY lo hi 1)) _ _ s
 rw[cA lo hi n];show AA _ _ (pure (((sIx n 0 lo:Ag):Ai),(1:Ai),DY ((sIx n 0 lo:Ag):Ai) ((sIx n n hi:Ag):Ai) 1)) _ _ s;rw[cR];exact A2 h
theorem eN(xs:Bl Al)(i k:Ag):((BO k).filterMap fun(m:Ag)=>xs[((i:Ai)+(m:Ai)*1).toNat]?).toArray=((xs.toList.drop i).take k).toArray:=by
 have e:(fun(m:Ag)=>xs[((i:Ai)+(m:Ai)*1).toNat]?)=λm=>xs[i+m]?:=by
  funext m
  have:((i:Ai)+(m:Ai)*1).toNat=i+m:=by omega
  rw[this]
 rw[e];have:=pick_run xs i k;rw[List.filterMap_map]at this;have e2:((λx=>xs[x]?) ∘ λx=>i+x)=λm=>xs[i+m]?:=rfl
 rw[e2]at this;rw[this]
theorem getItem_tuple_cut{t:Ak}{items:Bl Al}{vl vu:Al}{lo hi:Ao Ai}{Q:Vq}(ht:LI s.heap t items)(hs:s.heap.IsSliceOf sl vl vu .none)(pl:Hy vl lo)(pu:Hy vu hi)(hw:¬ (sIx items.size 0 lo=0/\sIx items.size items.size hi=items.size))(h:Q (.ref s.heap.objs.size) { s with heap:=s.heap.push { cls:=.type "tuple",data:=.seq ((items.toList.drop (sIx items.size 0 lo)).take (sIx items.size items.size hi-sIx items.size 0 lo)).toArray } })(hsz:items.size<=sizeLine):AA (model prog w) A (K2 (.ref t) (.ref sl)) Q E s:=by
 have uu:sizeOk (.seq ((items.toList.drop (sIx items.size 0 lo)).take (sIx items.size items.size hi-sIx items.size 0 lo)).toArray):=by
  show ((items.toList.drop (sIx items.size 0 lo)).take (sIx items.size items.size hi-sIx items.size 0 lo)).toArray.size<=sizeLine;rw[AW,Ib,Yp,G9];omega
 have hj:sIx items.size items.size hi<=items.size:=qS _ _ (AU _) hi;obtain⟨os,aw,hcs,Ϸ⟩:=id hs;have hTs:s.TypeIs (.ref sl) "slice" := ⟨os,aw,hcs⟩;unfold K2
 try with_reducible refine Ck ?_
 first|refine As (A2 ?_)|skip
 refine As (wpAny_sequenceKey ht.typeIs (by decide) ?_)
 refine As (wpAny_callSpecial?_slot (name:=Aj "__getitem__") ht.typeIs YM
  (wpAny_call_entry YM ht.typeIs entry_tuple_getitem ?_ (args_tuple_getitem _ _)))
 show AA _ _ (Builtin.Tuple.tupleItemsOf (.ref t) >>= _) _ _ s;refine As (tupleItemsOf_ ht ?_);refine As (wpAny_typeOf hTs ?_);rw[Au (by decide)]
 refine As (bE hs pl pu ?_);have hno:¬ ((((sIx items.size 0 lo:Ag):Ai)==0&&(1:Ai)==1&&(sIx items.size items.size hi-sIx items.size 0 lo)==items.size)=Ab):=by
  intro q;rw[An,An]at q;have q1:((sIx items.size 0 lo:Ag):Ai)=0:=eq_of_beq q.1.1;have q2:sIx items.size items.size hi-sIx items.size 0 lo=items.size:=eq_of_beq q.2;exact hw ⟨by omega,by omega⟩
 show AA _ _ (if (((sIx items.size 0 lo:Ag):Ai)==0&&(1:Ai)==1&&(sIx items.size items.size hi-sIx items.size 0 lo)==items.size)=Ab then _ else _) _ _ s
 rw[Ay hno,eN]
 first
  |exact As (m:=D4 _) (DV (A2 ⟨_,rfl,A2 h⟩) uu)
  |exact As (m:=D4 _) (DV (As (A2 (A2 ⟨_,rfl,A2 h⟩))) uu)
  |exact As (As (m:=D4 _) (DV (A2 (A2 ⟨_,rfl,A2 h⟩)) uu))
  |exact As (As (m:=D4 _) (DV (A2 ⟨_,rfl,A2 h⟩) uu))
end
end HT
namespace L2
open PySem PySem.Spec PyProof.Rows
variable{r:V->Ao Ai->Ao Ai->Hp->VK->Prop}{xs:Ac V}{us its:Ac Al}{n t':Ag}{i:Ai}{α:Type}
abbrev TO:=St->Hp->(Ao Ai->Hp->Prop)->Prop
noncomputable def PO(X:Cx)(e:Ao Aq)(t:TO):Prop:=
 ∀(pI:Pn)(s:Ar)(Y:St)(H:Hp)(Q:Ao Ai->Hp->Prop),Z8 X pI Y H s->t Y H Q ->
  AA (model X.prog X.w) X.A (evalPart e X.env) (λu s'=>∃ o H',Z8 X pI Y H' s'/\Hy u o/\Q o H') X.xe s
def jY:TO:=λ_ H Q=>Q Af H
def uI(t:TE):TO:=λY H Q=>t Y H λx H1=>∃ i,x=.int i/\Q (Aa i) H1
section
variable{X:Cx}{e:Aq}{te:TE}{lo hi:Ao Aq}{tl th:TO}{pos p2:AE}
theorem lN:PO X Af jY:=by
 intro pI s Y H Q I h;rw[evalPart_none];exact A2 ⟨Af,H,I,.none,h⟩
theorem lM(h:PE X e te):PO X (Aa e) (uI te):=by
 intro pI s Y H Q I hw;rw[evalPart_some];refine U5 (h pI s Y H _ I hw) λu s1 ⟨x,H1,I1,r1,q1⟩=>?_
 obtain⟨i,rfl,q⟩:=q1;obtain⟨t,rfl⟩:=r1;exact⟨Aa i,H1,I1,.int i t,q⟩
noncomputable def o8(X:Cx)(r:V->Ao Ai->Ao Ai->Hp->VK->Prop):Prop:=
 ∀(pI:Pn)(s:Ar)(Y:St)(H:Hp)(x:V)(v vl vu:Al)(lo hi:Ao Ai)(sl:Ak)(Q:VK),Z8 X pI Y H s->Bs x v->s.heap.IsSliceOf sl vl vu .none->Hy vl lo->Hy vu hi->r x lo hi H Q ->
  ∃ T id,typeLookup (.type T) "__getitem__" = pure (Aa (.builtin id))/\s.TypeIs v T/\AA (model X.prog X.w) X.A (K2 v (.ref sl)) (EP X pI Y Q) X.xe s
theorem o8.or{r':V->Ao Ai->Ao Ai->Hp->VK->Prop}(h:o8 X r)(h':o8 X r'):o8 X (λx lo hi H Q=>r x lo hi H Q\/r' x lo hi H Q):=by
 intro pI s Y H x v vl vu lo hi sl Q I rx hs pl pu q;rcases q with q|q
 .exact h pI s Y H x v vl vu lo hi sl Q I rx hs pl pu q
 .exact h' pI s Y H x v vl vu lo hi sl Q I rx hs pl pu q
def tSl(r:V->Ao Ai->Ao Ai->Hp->VK->Prop)(te:TE)(tl th:TO):TE:=λY H Q=>te Y H λx H1=>tl Y H1 λl H2=>th Y H2 λu H3=>r x l u H3 Q
theorem eP(hr:o8 X r)(he:PE X e te)(hl:PO X lo tl)(hu:PO X hi th):PE X (.Subscript e (.Slice lo hi Af p2) pos) (tSl r te tl th):=by
 intro pI s Y H Q I h;refine Subscript_ (U5 (he pI s Y H _ I h) λv s1 ⟨x,H1,I1,r1,q1⟩=>?_)
 refine wpAny_Slice (U5 (hl pI s1 Y H1 _ I1 q1) λvl s2 ⟨l,H2,I2,pl,q2⟩=>U5 (hu pI s2 Y H2 _ I2 q2) λvu s3 ⟨u,H3,I3,pu,q3⟩=>?_)
 rw[evalPart_none];refine A2 ?_;have I4:Z8 X pI Y H3 { s3 with heap:=s3.heap.push { cls:=.type "slice",data:=.fields #[vl,vu,.none] } }:=I3.kept (t':=s3.toks) λb ob q=>AB _ q
 obtain⟨T,id,hT,ht,hg⟩:=hr pI { s3 with heap:=s3.heap.push { cls:=.type "slice",data:=.fields #[vl,vu,.none] } } Y H3 x v vl vu l u s3.heap.objs.size Q I4 r1 (Heap.IsSliceOf.new ..) pl pu q3
 show AA (model X.prog X.w) X.A (subscriptTail e (.Slice lo hi Af p2) v (.ref s3.heap.objs.size)) (EP X pI Y Q) X.xe { s3 with heap:=s3.heap.push { cls:=.type "slice",data:=.fields #[vl,vu,.none] } }
 exact tail_any (ops:=[.ref s3.heap.objs.size,v]) ht hT hg (by with_unfolding_all rfl)
noncomputable def KS(xs:Ac V)(lo hi:Ao Ai):Ac V:=(xs.drop (HT.sIx xs.length 0 lo)).take (HT.sIx xs.length xs.length hi-HT.sIx xs.length 0 lo)
theorem Sw(xs:Ac V)(lo hi:Ao Ai):(KS xs lo hi).length<=xs.length:=by
 unfold KS;rw[Ib,Yp];omega
def Xn(K:Fg):V->Ao Ai->Ao Ai->Hp->VK->Prop:=λx lo hi H Q=>∃ a xs,x=.ref a/\yk K H a xs /\
 ¬ (HT.sIx xs.length 0 lo=0/\HT.sIx xs.length xs.length hi=xs.length)/\∀ p,H p=Af->Q (.ref p) (upd H p (.H (KS xs lo hi)))
theorem pE:o8 X (Xn X.K):=by
 intro pI s Y H x v vl vu lo hi sl Q I rx hs pl pu h;obtain⟨a,xs,rfl,hx,hw,q⟩:=h;cases rx;obtain⟨its,r,ht,hz⟩:=I.tuple hx;have U8:its.toArray.size=xs.length:=by rw[AW];exact r.length.symm
 refine⟨"tuple",_,PyProof.Rows.slot_tuple_getitem.lookup,ht.typeIs,?_⟩;refine HT.getItem_tuple_cut ht hs pl pu (by rw[U8];exact hw) ?_ (by rw[U8];exact hz)
 rw[U8];refine⟨.ref s.heap.objs.size,_,I.laid (t':=s.toks) (o:=.H (KS xs lo hi)) (λb ob q=>AB _ q) (AU _) ?_,rfl,q _ (I.hok.fresh (AU _))⟩
 exact⟨B8 (Sw xs lo hi) hz,_,(r.drop (HT.sIx xs.length 0 lo)).take (HT.sIx xs.length xs.length hi-HT.sIx xs.length 0 lo),Mx _ _⟩
def uU(K:Fg):R2:=λx y H Q=>∃ a b xs ys,x=.ref a/\y=.ref b/\yk K H a xs/\yk K H b ys/\xs≠[]/\xs.length+ys.length<=sizeLine /\
 (ys=[]->Q (.ref a) H)/\(ys≠[]->∀ p,H p=Af->Q (.ref p) (upd H p (.H (xs++ys))))
theorem A1.nil_iff(r:A1 xs us):us=[]↔xs=[]:=by
 cases r with
 |nil=>simp
 |cons _ _=>simp
theorem mC:yu X (Ce .Add) (uU X.K):=by
 intro pI s Y H x y v u Q I rx ry h;obtain⟨a,b,xs,ys,rfl,rfl,ha,hb,hx,hz,q1,q2⟩:=h;cases rx;cases ry;obtain⟨its,r1,p1,_⟩:=I.tuple ha;obtain⟨zi,r2,p2,_⟩:=I.tuple hb;refine HT.cat_tup p1 p2 (λz=>hx (r1.nil_iff.mp z)) (λz=>⟨.ref a,H,I,rfl,q1 (r2.nil_iff.mp z)⟩) (λz=>?_) (by rw[<-r1.length,<-r2.length];exact hz)
 refine⟨.ref s.heap.objs.size,_,I.laid (t':=s.toks) (o:=.H (xs++ys)) (λb ob q=>AB _ q) (AU _) ?_,rfl,q2 (λw=>z (r2.nil_iff.mpr w)) _ (I.hok.fresh (AU _))⟩
 exact⟨by rw[BS];exact hz,_,r1.append r2,Mx _ _⟩
end
noncomputable def gz(n:Ag)(i:Ai):Ao Ag:=if 0<=i then (if i<n then Aa i.toNat else Af) else if -(n:Ai)<=i then Aa (i+n).toNat else Af
noncomputable def vf{α:Type}(xs:Ac α)(i:Ai):Ao α:=(gz xs.length i).bind λj=>xs[j]?
theorem kM{j:Ag}(h:gz n i=Aa j):seqIndex? i n=Aa j/\j<n/\-(n:Ai)<=i/\i<n:=by
 unfold gz at h;by_cases h0:0<=i
 .rw[Au h0]at h;by_cases h1:i<n
  .rw[Au h1]at h;have e:i.toNat=j:=BB h;exact⟨by rw[seqIndex_of h0 h1,e],by omega,by omega,h1⟩
  .rw[Ay h1]at h;cases h
 .rw[Ay h0]at h;by_cases h1:-(n:Ai)<=i
  .rw[Au h1]at h;have e:(i+n).toNat=j:=BB h;exact⟨by rw[seqIndex_neg (by omega) h1,e],by omega,h1,by omega⟩
  .rw[Ay h1]at h;cases h
theorem QA{xs:Ac α}{v:α}(h:vf xs i=Aa v):∃ j,seqIndex? i xs.length=Aa j/\xs[j]?=Aa v/\j<xs.length/\-(xs.length:Ai)<=i/\i<xs.length:=by
 unfold vf at h;cases e:gz xs.length i with
 |none=>rw[e]at h;cases h
 |some j=>
  rw[e]at h;obtain⟨h1,h2,h3,h4⟩:=kM e;exact⟨j,h1,h,h2,h3,h4⟩
def Oc(b:Aq):Prop:=∀ o i,subscripted b Ae o i=operate [o,i] (K2 o i)
noncomputable def o5(X:Cx)(r:R2):Prop:=
 ∀(value slice:Aq)(pI:Pn)(s:Ar)(Y:St)(H:Hp)(x y:V)(v u:Al)(Q:VK),Z8 X pI Y H s->Bs x v->Bs y u->r x y H Q ->
  subscripted slice Ae v u=operate [v,u] (K2 v u)->AA (model X.prog X.w) X.A (subscriptTail value slice v u) (EP X pI Y Q) X.xe s
noncomputable def o7(X:Cx)(id:CP)(r:V->Ac V->Hp->VK->Prop):Prop:=
 ∀(pI:Pn)(s:Ar)(Y:St)(H:Hp)(x:V)(xs:Ac V)(v:Al)(us:Ac Al)(Q:VK),Z8 X pI Y H s->Bs x v->A1 xs us->r x xs H Q ->
  AA (model X.prog X.w) X.A (call (.builtin id) (v::us)) (EP X pI Y Q) X.xe s
section
variable{X:Cx}{a b:Aq}{ta tb:TE}{pos:AE}
theorem o5.or{r r':R2}(h:o5 X r)(h':o5 X r'):o5 X (λx y H Q=>r x y H Q\/r' x y H Q):=by
 intro value slice pI s Y H x y v u Q I rx ry q hs;rcases q with q|q
 .exact h value slice pI s Y H x y v u Q I rx ry q hs
 .exact h' value slice pI s Y H x y v u Q I rx ry q hs
theorem o7.or{id:CP}{r r':V->Ac V->Hp->VK->Prop}(h:o7 X id r)(h':o7 X id r'):o7 X id (λx xs H Q=>r x xs H Q\/r' x xs H Q):=by
 intro pI s Y H x xs v us Q I rx rs q;rcases q with q|q
 .exact h pI s Y H x xs v us Q I rx rs q
 .exact h' pI s Y H x xs v us Q I rx rs q
theorem Rt{r:R2}(hr:o5 X r)(ha:PE X a ta)(hb:PE X b tb)(hs:Oc b):PE X (.Subscript a b pos) (Ø r ta tb):=by
 intro pI s Y H Q I h;exact Subscript_ (Sd ha hb I h λv u s2 x y H2 I2 rx ry q=>hr a b pI s2 Y H2 x y v u Q I2 rx ry q (hs _ _))
def Xs(K:Fg):R2:=λx y H Q=>∃ p xs i v,x=.ref p/\y=.int i/\IO K H p xs/\vf xs i=Aa v/\Q v H
def Xq(K:Fg):R2:=λx y H Q=>∃ p xs i v,x=.ref p/\y=.int i/\yk K H p xs/\vf xs i=Aa v/\Q v H
def Xr:R2:=λx y H Q=>∃ z i c,x=.str z/\y=.int i/\z.length<=sizeLine/\vf z.cps.toList i=Aa c/\Q (.str ⟨#[c]⟩) H
theorem lL:o5 X (Xs X.K):=by
 intro value slice pI s Y H x y v u Q I rx ry h hs;obtain⟨p,xs,i,z,rfl,rfl,hq,he,q⟩:=h;cases rx;obtain⟨t,rfl⟩:=ry;obtain⟨its,r,pl,hz⟩:=I.list hq;obtain⟨j,h1,h2,h3,h4,h5⟩:=QA he;obtain⟨w,ew,wy⟩:=r.get h2;have hl:=r.length;have hn:=Mc;have fin:EP X pI Y Q w s:=⟨z,H,I,wy,q⟩;by_cases h0:0<=i
 .have hj:i.toNat=j:=by
   rw[seqIndex_of h0 h5]at h1;exact BB h1
  exact item_listR pl.isList h0 (by omega) (by rw[hj];simpa using ew) fin hs
 .have hj:(i+(its.toArray.size:Ai)).toNat=j:=by
   rw[seqIndex_neg (by omega) h4]at h1
   rw[AW,<-hl];exact BB h1
  exact Ge (x:=w) pl.isList.typeIs aI.lookup
   (wpAny_getItem_list_neg (Q:=λr s'=>r=w/\EP X pI Y Q r s') pl.isList (by omega) (by rw[AW]<;>omega) (by omega) (by rw[hj];simpa using ew) ⟨rfl,fin⟩) hs
theorem Wb:o5 X (Xq X.K):=by
 intro value slice pI s Y H x y v u Q I rx ry h hs;obtain⟨p,xs,i,z,rfl,rfl,hq,he,q⟩:=h;cases rx;obtain⟨t,rfl⟩:=ry;obtain⟨its,r,pl,hz⟩:=I.tuple hq;obtain⟨j,h1,h2,h3,h4,h5⟩:=QA he;obtain⟨w,ew,wy⟩:=r.get h2;have hl:=r.length;have hn:=Mc;have fin:EP X pI Y Q w s:=⟨z,H,I,wy,q⟩;exact Ge (x:=w) pl.typeIs slot_tuple_getitem.lookup
  (getItem_tuple (j:=j) (Q:=λr s'=>r=w/\EP X pI Y Q r s') pl (by omega) (by omega) (by rw[AW,<-hl];exact h1) (by simpa using ew) ⟨rfl,fin⟩) hs
theorem sT:o5 X Xr:=by
 intro value slice pI s Y H x y v u Q I rx ry h hs;obtain⟨z,i,c,rfl,rfl,hz,he,q⟩:=h;obtain⟨t,rfl⟩:=rx;obtain⟨t',rfl⟩:=ry;obtain⟨j,h1,h2,h3,h4,h5⟩:=QA he;have hl:z.cps.toList.length=z.length:=by simp[Str.length]
 rw[hl]at h1 h4 h5;have hn:=Mc;exact tail_any (FY s z t) slot_str_getitem.lookup (getItem_str (c:=c) (by
  have e1:decide (i < -(2 ^ 63:Ai))=Ae:=BH (by omega)
  have e2:decide (i ≥ 2 ^ 63)=Ae:=BH (by omega)
  rw[e1,e2,DQ]) (by rw[h1];simpa using h2) ⟨.str ⟨#[c]⟩,H,I.tok _,⟨_,rfl⟩,q⟩) hs
def rIx(K:Fg):R2:=λx y H Q=>Xs K x y H Q\/Xq K x y H Q\/Xr x y H Q
theorem sU:o5 X (rIx X.K):=lL.or (Wb.or sT)
theorem Z8.L{pI:Pn}{Y:St}{H:Hp}{s:Ar}{p:Ak}{xs:Ac V}(I:Z8 X pI Y H s)(h:H p=Aa (.L xs)):
  ∃(its:Ac Al)(n:Ag),A1 xs its/\s.heap.get? p=Aa { cls:=.type "list",data:=.seq its.toArray n }/\xs.length<=sizeLine:=by
 obtain⟨z,its,n,r,e⟩:=I.hok p _ h;exact⟨its,n,r,e,z⟩
theorem bM(lo hi:Ao Ai)(n:Ag):(Fj lo hi Af n).1=((HT.sIx n 0 lo:Ag):Ai)/\(Fj lo hi Af n).2.1=((HT.sIx n n hi:Ag):Ai)/\(Fj lo hi Af n).2.2=1:=by
 refine⟨?_,?_,rfl⟩
 .cases lo with
  |none=>simp[Fj,HT.sIx]
  |some i=>
   simp only[Fj,HT.sIx,YG,show (1:Ai)>0 by decide,EM]
   by_cases h:i<0
   .simp only[h,EM]<;>omega
   .simp only[h,JS]<;>omega
 .cases hi with
  |none=>simp[Fj,HT.sIx]
  |some i=>
   simp only[Fj,HT.sIx,YG,show (1:Ai)>0 by decide,EM]
   by_cases h:i<0
   .simp only[h,EM]<;>omega
   .simp only[h,JS]<;>omega
theorem bH(its:Ac Al)(lo hi:Ao Ai):slicePick its.toArray lo hi Af=((its.drop (HT.sIx its.length 0 lo)).take (HT.sIx its.length its.length hi-HT.sIx its.length 0 lo)).toArray:=by
 obtain⟨h1,h2,h3⟩:=bM lo hi its.toArray.size;unfold slicePick;rw[h1,h2,h3];simp only[sliceRange_one,pick_run,AW]<;>rfl
def Xp(K:Fg):V->Ao Ai->Ao Ai->Hp->VK->Prop:=λx lo hi H Q=>∃ a xs,x=.ref a/\IO K H a xs/\∀ p,H p=Af->Q (.ref p) (upd H p (.L (KS xs lo hi)))
theorem iT:o8 X (Xp X.K):=by
 intro pI s Y H x v vl vu lo hi sl Q I rx hs pl pu h;obtain⟨a,xs,rfl,hx,q⟩:=h;cases rx;obtain⟨its,r,ht,hz⟩:=I.list hx;have U8:=r.length;refine⟨"list",_,aI.lookup,ht.isList.typeIs,?_⟩;refine wpAny_getItem_list_slice ht.isList hs pl pu .none (by simp) ?_ (by rw[AW]<;>omega)
 rw[bH,<-U8];refine⟨.ref s.heap.objs.size,_,I.laid (t':=s.toks) (o:=.L (KS xs lo hi)) (λb ob q=>AB _ q) (AU _) ?_,rfl,q _ (I.hok.fresh (AU _))⟩
 exact⟨B8 (Sw xs lo hi) hz,_,0,(r.drop (HT.sIx xs.length 0 lo)).take (HT.sIx xs.length xs.length hi-HT.sIx xs.length 0 lo),Bp _ rfl⟩
theorem NR:Gx X (.builtin "len") (λxs H Q=>∃ p ys,xs=[.ref p]/\(IO X.K H p ys\/yk X.K H p ys)/\Q (.int ys.length) H):=by
 intro pI s Y H xs us Q I r h;obtain⟨p,ys,rfl,hq,q⟩:=h;obtain⟨u,rfl,rx⟩:=KN r;cases rx;have hn:=Mc;rcases hq with hq|hq
 .obtain⟨its,r',pl,hz⟩:=I.list hq;have U8:=r'.length;exact Calls.call_len_list pl.isList (by simp only[AW]<;>omega) ⟨.int ys.length,H,I.tok _,⟨s.toks+1,by rw[AW,U8]⟩,q⟩
 .obtain⟨its,r',pl,hz⟩:=I.tuple hq;have U8:=r'.length;exact len_tuple pl (by simp only[AW]<;>omega) ⟨.int ys.length,H,I.tok _,⟨s.toks+1,by rw[AW,U8]⟩,q⟩
theorem bK:Gx X (.builtin "len") (λxs H Q=>∃ z,xs=[.str z]/\z.length<=sizeLine/\Q (.int z.length) H):=by
 intro pI s Y H xs us Q I r h;obtain⟨z,rfl,hz,q⟩:=h;obtain⟨u,rfl,t,rfl⟩:=KN r;have hn:=Mc;exact len_str (by omega) ⟨.int z.length,H,I.tok _,⟨_,rfl⟩,q⟩
theorem Gx.or{f:Al}{r r':Ac V->Hp->VK->Prop}(h:Gx X f r)(h':Gx X f r'):Gx X f (λxs H Q=>r xs H Q\/r' xs H Q):=by
 intro pI s Y H xs us Q I rs q;rcases q with q|q
 .exact h pI s Y H xs us Q I rs q
 .exact h' pI s Y H xs us Q I rs q
theorem SH:Gx X (.type "list") (λxs H Q=>∃ p ys,xs=[.ref p]/\(IO X.K H p ys\/yk X.K H p ys)/\∀ l,H l=Af->Q (.ref l) (upd H l (.L ys))):=by
 intro pI s Y H xs us Q I r h;obtain⟨p,ys,rfl,hq,q⟩:=h;obtain⟨u,rfl,rx⟩:=KN r;cases rx;have fin:∀(its:Ac Al),A1 ys its->ys.length<=sizeLine->∀(h':AI)(c':Ag),(∀ b o',s.heap.get? b=Aa o'->h'.get? b=Aa o') ->
   h'.get? s.heap.objs.size=Aa { cls:=.type "list",dict:=Af,data:=.seq its.toArray c',slots:=#[] }->EP X pI Y Q (.ref s.heap.objs.size) {s with heap:=h'}:=λits r' hz h' c' kp e=>
  ⟨.ref s.heap.objs.size,_,I.laid (t':=s.toks) kp (AU _) (show ObjOk X.prog X.w _ h' _ (.L ys) from ⟨hz,its,c',r',e⟩),rfl,q _ (I.hok.fresh (AU _))⟩
 rcases hq with hq|hq
 .obtain⟨its,r',pl,hz⟩:=I.list hq;have U8:=r'.length;obtain⟨o,ho,hc,n,hd⟩:=pl.isList;exact call_list_seq p (.inl rfl) ho hc hd (λh' c' kp e=>fin its r' hz h' c' kp e) (by simp only[AW]<;>omega)
 .obtain⟨its,r',pl,hz⟩:=I.tuple hq;have U8:=r'.length;obtain⟨o,ho,hc,n,hd⟩:=pl;exact call_list_seq p (.inr rfl) ho hc hd (λh' c' kp e=>fin its r' hz h' c' kp e) (by simp only[AW]<;>omega)
theorem So:Gx X (.type "tuple") (λxs H Q=>∃ p ys,xs=[.ref p]/\((IO X.K H p ys/\∀ l,H l=Af->Q (.ref l) (upd H l (.H ys)))\/(yk X.K H p ys/\Q (.ref p) H))):=by
 intro pI s Y H xs us Q I r h;obtain⟨p,ys,rfl,h⟩:=h;obtain⟨u,rfl,rx⟩:=KN r;cases rx;rcases h with ⟨hq,q⟩|⟨hq,q⟩
 .obtain⟨its,r',pl,hz⟩:=I.list hq;have U8:=r'.length;refine call_tuple_list pl.isList (λh' kp=>?_) (by simp only[AW]<;>omega)
  have I1:Z8 X pI Y H {s with heap:=h'}:=I.kept (t':=s.toks) kp
  have I2:Z8 X pI Y (upd H h'.objs.size (.H ys)) { s with heap:=h'.push { cls:=.type "tuple",data:=.seq its.toArray } }:=
   I1.laid (t':=s.toks) (λb o e=>AB _ e) (AU _) (show ObjOk X.prog X.w _ _ _ (.H ys) from ⟨hz,its,r',Mx _ _⟩)
  exact⟨.ref h'.objs.size,_,I2,rfl,q _ (I1.hok.fresh (AU _))⟩
 .obtain⟨its,r',pl,hz⟩:=I.tuple hq;exact call_tuple_same pl ⟨.ref p,H,I,rfl,q⟩
def tyV(K:Fg)(T:CP)(x:V)(H:Hp):Prop:=match x with
  |.str _=>T = "str"
  |.int _=>T = "int"
  |.ref p=>(T = "list"/\∃ xs,IO K H p xs)\/(T = "tuple"/\∃ o,K.lookup p=Aa o/\o.cls=.type "tuple"/\o.dict=Af) \/
      (T = "dict"/\((∃ kvs,H p=Aa (.dK kvs))\/∃ kvs,H p=Aa (.dT kvs)))\/(T = "set"/\∃ S n,H p=Aa (.set S n))
  |_=>AN
theorem Vu{pI:Pn}{Y:St}{H:Hp}{s:Ar}{T:CP}{x:V}{v:Al}(I:Z8 X pI Y H s)(r:Bs x v)(ty:tyV X.K T x H):s.TypeIs v T/\∀ a,v=.ref a->∃ ob,s.heap.get? a=Aa ob/\ob.dict=Af:=by
 cases x with
 |str z=>
  obtain⟨t,rfl⟩:=r;cases (show T = "str" from ty)
  exact⟨FY s z t,λ_ e=>nomatch e⟩
 |int i=>
  obtain⟨t,rfl⟩:=r;cases (show T = "int" from ty)
  exact⟨typeIs_int s i t,λ_ e=>nomatch e⟩
 |ref p=>
  cases r;rcases ty with ⟨rfl,xs,hq⟩|⟨rfl,o,hk,hc,hd⟩|⟨rfl,hk⟩|⟨rfl,S,n,hk⟩
  .obtain⟨its,_,pl,_⟩:=I.list hq;refine⟨pl.isList.typeIs,λa e=>?_⟩
   cases e;obtain⟨o,n,e,c,hd,_⟩:=pl;exact⟨o,e,hd⟩
  .refine⟨⟨o,I.kIn p o hk,hc⟩,λa e=>?_⟩
   cases e;exact⟨o,I.kIn _ o hk,hd⟩
  .have z:∃ o,s.heap.get? p=Aa o/\o.ExactDict:=by
    rcases hk with ⟨kvs,hk⟩|⟨kvs,hk⟩
    .obtain⟨_,_,_,_,o,_,_,e,ex,_⟩:=I.hok p _ hk;exact⟨o,e,ex⟩
    .obtain⟨_,_,_,_,o,_,_,e,ex,_⟩:=I.hok p _ hk;exact⟨o,e,ex⟩
   obtain⟨o,e,ex⟩:=z;refine⟨⟨o,e,ex.1⟩,λa e2=>?_⟩
   cases e2;exact⟨o,e,ex.2.1⟩
  .obtain⟨o,_,_,_,e,ex,_⟩:=I.hok p _ hk;refine⟨⟨o,e,ex.1⟩,λa e2=>?_⟩
   cases e2;exact⟨o,e,ex.2.1⟩
 |_=>exact A7 ty
def ac(K:Fg)(T:CP)(r:V->Ac V->Hp->VK->Prop)(to:TE):TE:=λY H Q=>to Y H λx H1=>tyV K T x H1/\r x [] H1 Q
def tBM(K:Fg)(T:CP)(r:V->Ac V->Hp->VK->Prop)(to:TE)(t:TA):TE:=λY H Q=>to Y H λx H1=>tyV K T x H1/\t Y H1 λxs H2=>r x xs H2 Q
variable{o e:Aq}{es:Ac Aq}{to:TE}{t:TA}{name:Ah}{apos cpos:AE}{T id:CP}{r:V->Ac V->Hp->VK->Prop}
theorem V8(pa:PlainAttrs T)(slot:Slot T name id)(hty:typeOf (.builtin id)=pure (.type "method_descriptor"))(hm:o7 X id r)(ho:PE X o to)(U4:BZ o name X.env (eval o X.env)=eval o X.env:=by rfl)(My:(apos.endLine==cpos.line)=Ab:=by rfl):PE X (.Call (.Attribute o name apos) [] [] cpos) (ac X.K T r to):=by
 intro pI s Y H Q I h;refine wpAny_Call_method0_late U4 My (U5 (ho pI s Y H _ I h) λv s1 ⟨x,H1,I1,r1,ty,q1⟩=>?_)
 obtain⟨h1,h2⟩:=Vu I1 r1 ty;exact⟨T,id,pa,slot,hty,h1,h2,Gf rfl (PySem.evalArgs_none (hm pI s1 Y H1 x [] v [] Q I1 r1 .nil q1))⟩
theorem KO(pa:PlainAttrs T)(slot:Slot T name id)(hty:typeOf (.builtin id)=pure (.type "method_descriptor"))(hm:o7 X id r)(ho:PE X o to)(ha:PA X (e::es) t)(U4:BZ o name X.env (eval o X.env)=eval o X.env:=by rfl)(wu:((Bv cpos (Aw (e::es) X.env)).all (λx=>!x.1)&&(EU cpos (DG [] X.env)).all (λx=>x.1.isSome)
   && decide ((e::es).length+([]:Ac CV).length+(if ([]:Ac CV).isEmpty then 0 else 1)<30))=Ab:=by rfl)(My:(apos.endLine==cpos.line)=Ab:=by rfl)(hs:Aw (e::es) X.env=(Ae,eval e X.env)::Aw es X.env:=by rfl)(kf:(Bv cpos (Aw es X.env)).any (·.1)=Ae:=by rfl):PE X (.Call (.Attribute o name apos) (e::es) [] cpos) (tBM X.K T r to t):=by
 intro pI s Y H Q I h;refine wpAny_Call_method_late U4 wu My rfl (U5 (ho pI s Y H _ I h) λv s1 ⟨x,H1,I1,r1,ty,q1⟩=>?_)
 obtain⟨h1,h2⟩:=Vu I1 r1 ty;refine⟨T,id,pa,slot,hty,h1,h2,?_⟩;have hA:=ha cpos pI s1 Y H1 _ I1 q1;rw[hs]at hA ⊢;refine Gf (by show (Ae||(Bv cpos (Aw es X.env)).any (·.1))=Ae;rw[kf]<;>rfl) (ET ?_)
 exact U5 hA λus s2 ⟨vs,H2,I2,r2,q2⟩=>hm pI s2 Y H2 x vs v us Q I2 r1 r2 q2
end
noncomputable def MtM(X:Cx)(id:CP)(r:V->Ac V->Hp->VK->Prop):Prop:=
 ∀(pI:Pn)(s:Ar)(Y:St)(H:Hp)(x:V)(xs:Ac V)(v:Al)(us:Ac Al)(Q:VK),Z8 X pI Y H s->Bs x v->A1 xs us->r x xs H Q ->
  AA (model X.prog X.w) X.A (call (.builtin id) (v::us)) (EP X pI Y Q) X.xe s
theorem A1.one:∀{x:V}{us:Ac Al},A1 [x] us->∃ u,us=[u]/\Bs x u
 |_,_,.cons r .nil=>⟨_,rfl,r⟩
theorem A1.zero:∀{us:Ac Al},A1 [] us->us=[]
 |_,.nil=>rfl
theorem A1.dropLast(h:A1 xs us):A1 xs.dropLast us.dropLast:=by
 induction h with
 |nil=>exact .nil
 |cons r t ih=>
  cases t with
  |nil=>exact .nil
  |cons q t'=>exact .cons r ih
theorem A1.eraseIdx:∀{xs:Ac V}{us:Ac Al}(i:Ag),A1 xs us->A1 (xs.eraseIdx i) (us.eraseIdx i)
 |_,_,_,.nil=>.nil
 |_,_,0,.cons _ t=>t
 |_,_,i+1,.cons r t=>.cons r (A1.eraseIdx i t)
theorem A1.reverse(h:A1 xs us):A1 xs.reverse us.reverse:=by
 induction h with
 |nil=>exact .nil
 |cons r t ih=>rw[Yz,Yz];exact A1.append ih (.cons r .nil)
theorem A1.rep{xs:Ac V}{us:Ac Al}(h:A1 xs us):∀ k:Ag,A1 (EE k xs).flatten (EE k us).flatten
 |0=>.nil
 |k+1=>by
  rw[Yy,Yy,Yi,Yi];exact A1.append h (A1.rep h k)
theorem bX(l:Ac α):l.eraseIdx (l.length-1)=l.dropLast:=by
 induction l with
 |nil=>rfl
 |cons a r ih=>
  cases r with
  |nil=>rfl
  |cons b r=>
   have e:(a::b::r).length-1=((b::r).length-1)+1:=by
    have h1:(a::b::r).length=r.length+2:=rfl;have h2:(b::r).length=r.length+1:=rfl;omega
   rw[e,List.eraseIdx_cons_succ,ih]
   all_goals rfl
section
variable{X:Cx}{pI:Pn}{Y:St}{H:Hp}{s:Ar}{l b:Ak}{xs ys zs:Ac V}
theorem Z8.lset{its':Ac Al}{f:Bl Al->Bl Al}(I:Z8 X pI Y H s)(hH:H l=Aa (.L xs))(e:s.heap.get? l=Aa { cls:=.type "list",data:=.seq its.toArray n })(hf:f its.toArray=its'.toArray)(hv:A1 ys its')(hz:ys.length<=sizeLine):Z8 X pI Y (upd H l (.L ys)) {s with heap:=s.heap.update l (ZB f),toks:=t'}:=by
 have q:=PySem.IsL.update e f;rw[hf]at q;refine I.write (x:=l) (e:=l) (by rw[hH];exact trivial) (.inl rfl) (λb' u hb hu=>(De s.heap (ZB f) (CF hb)).trans hu) ⟨_,q⟩ ?_
 exact⟨hz,its',_,hv,q⟩
theorem Z8.lnew(I:Z8 X pI Y H s)(hv:A1 ys its)(hz:ys.length<=sizeLine):
  Z8 X pI Y (upd H s.heap.objs.size (.L ys)) { s with heap:=s.heap.push { cls:=.type "list",data:=.seq its.toArray },toks:=t' }:=
 I.laid (λ_ _ q=>AB _ q) (AU _) ⟨hz,its,0,hv,Bp _ rfl⟩
theorem Z8.fresh(I:Z8 X pI Y H s):H s.heap.objs.size=Af:=I.hok.fresh (AU _)
theorem Z8.lstM(I:Z8 X pI Y H s)(hH:H l=Aa (.L xs)):xs.length<=sizeLine/\∃(its:Ac Al)(n:Ag),A1 xs its/\xs.length=its.length/\s.heap.get? l=Aa { cls:=.type "list",data:=.seq its.toArray n }:=by
 obtain⟨z,its,n,r,e⟩:=I.hok l _ hH;exact⟨z,its,n,r,r.length,e⟩
end
section
variable{X:Cx}
def iL:V->Ac V->Hp->VK->Prop:=λx vs H Q=>∃ l xs y,x=.ref l/\vs=[y]/\H l=Aa (.L xs)/\xs.length<sizeLine/\Q .O (upd H l (.L (xs++[y])))
theorem NV:MtM X "list.append" iL:=by
 intro pI s Y H x vs v us Q I rx rv h;obtain⟨l,xs,y,rfl,rfl,hH,hz,q⟩:=h;cases rx;obtain⟨u,rfl,ru⟩:=rv.one;obtain⟨z,its,n,r,hl,e⟩:=I.lstM hH;refine EV F.slot_list_append ⟨_,e,rfl⟩ F.entry_list_append (F.args_list_append_2 _ _) (PySem.list_append l its.toArray n u (by rw[AW];omega)) ⟨e,?_⟩
 refine⟨.O,_,I.lset (its':=its++[u]) hH e (by simp) (r.append (.cons ru .nil)) ?_,rfl,q⟩
 rw[BS,Yt];omega
def zJ:V->Ac V->Hp->VK->Prop:=λx vs H Q=>∃ l xs y,x=.ref l/\vs=[]/\H l=Aa (.L xs)/\xs[xs.length-1]?=Aa y/\Q y (upd H l (.L xs.dropLast))
theorem Wa:MtM X "list.pop" zJ:=by
 intro pI s Y H x vs v us Q I rx rv h;obtain⟨l,xs,y,rfl,rfl,hH,hy,q⟩:=h;cases rx;have hus:=rv.zero;subst hus;obtain⟨z,its,n,r,hl,e⟩:=I.lstM hH;obtain⟨u,hu,ru⟩:=r.get hy;have hy':its.toArray[its.toArray.size-1]?=Aa u:=by
  show its.toArray[its.length-1]?=Aa u;rw[<-Array.getElem?_toList,<-hl];exact hu
 refine EV F.slot_list_pop ⟨_,e,rfl⟩ F.entry_list_pop (F.args_list_pop_1 _) (MeetsSeq.list_pop_last l its.toArray n u hy' (by rw[AW];omega)) ⟨e,?_⟩
 refine⟨y,_,I.lset (its':=its.dropLast) hH e ?_ r.dropLast ?_,ru,q⟩
 .show its.toArray.eraseIdxIfInBounds (its.toArray.size-1)=its.dropLast.toArray;rw[AW,List.eraseIdxIfInBounds_toArray,bX]
 .rw[List.length_dropLast];omega
end
section
variable{prog:AK}{w:AH}{A:A4}{E:Vq}{s:Ar}
set_option maxRecDepth 100000 in
end
section
variable{X:Cx}
end
end L2
namespace Att
open PySem PySem.W PySem.Calls PyProof.Rows
variable{P:MF}{h:AI}{l:Gg}{n:Ag}
theorem bB:∀(ns:Ac Ai)(vs:Ac Al),WellAll P h vs (ns.map ZY)->Jg vs ns:=by
 intro ns
 induction ns with
 |nil=>
  intro vs w;rw[Yv]at w;cases w;exact .nil
 |cons n ns ih=>
  intro vs w;rw[BM]at w;cases w with
  |cons a b=>
   cases a;exact .cons _ _ (ih _ b)
theorem cS(hn:l.most=Aa n){args:Ac WData}{vals:Ac Al}(ol:l.row.toRowW.claim.pre args=Ab)(hwl:WellAll P h vals args):
  ∃ a vs ns,vals=[Bm a]/\args=[WData.list (ns.map ZY)]/\h.get? a=Aa { cls:=.type "list",data:=.seq vs.toArray }/\Jg vs ns/\ns.length<=n:=by
 have hsh:WShape.hasAll [] args [.list .int]=Ab:=(pre_splitW ol).1;have hc:l.pre.holds [] {args:=args}=Ab:=(pre_splitW ol).2;obtain⟨d,r,rfl,h1,h2⟩:=hasAllW_cons hsh;obtain rfl:=hasAllW_nil h2;obtain⟨xs,rfl,h3⟩:=hasW_list h1;obtain⟨ns,rfl⟩:=items_int h3;have U8:ns.length<=n:=by
  unfold OpenLaw.pre at hc;have h4:(WTm.not (.lt (.lit (.int (n:Ai))) (.len (.arg 0)))).holds [] {args:=[.list (ns.map .int)]}=Ab:=by
   have h4:=(holds_andW hc).1;rw[hn]at h4;exact h4
  have h5:=condW_of h4 (w_not (w_lt w_lit (w_len_list (w_arg rfl))));rw[Bc]at h5;refine Nat.le_of_not_lt λq=>?_
  have q':(n:Ai)<((ns.length:Ag):Ai):=by omega
  first
   |(rw[CG q']at h5;exact absurd h5 (by decide))
   |(simp at h5;omega)
 cases hwl with
 |cons w1 w2=>
  cases w2;cases w1 with
  |list ho jr=>exact⟨_,_,ns,rfl,rfl,ho,bB ns _ jr,U8⟩
theorem cW(l:Gg)(args:Ac WData):l.row.toRowW.claim.post args (.bool Ab) args=Ab:=
 postW_of (r:=l.row.toRowW) (X:=(Ab==Ab))
  (show ZZ [] (.bool Ab) .bool=Ab by first|rfl|decide|simp[ZZ,WShape.arms,WShape.armsAll])
  (show (WTm.eq .res (.lit (.bool Ab))).value [] {args:=args,res:=Aa (.bool Ab),after:=args}=Aa (.bool (Ab==Ab)) from w_eq_bool (w_res rfl) w_lit) rfl
theorem attach_call{q:AK}{loose:Ac Ah}{XP:(Ah->Ao Al)->AI->Prop}{YP:AH->AI->Prop}{d:DefRec}(hn:l.most=Aa n)(ÿ:d.params.defaults=[])(call:∀(w:AH)(s₀ s₁:Ar)(mg mb:Ah->Ao Al)(fa:Ak)(o:CZ)(pm cd doc:Al)(a:Ak)(vs:Ac Al)(ns:Ac Ai),
   Ground q loose [] XP w s₀ mg mb s₁.heap->YP w s₁.heap ->
   s₁.heap.get? fa=Aa o->o.data=.func (docDef d.name d.params d.body d.scope pm cd doc)->s₁.heap.CodeRec cd d.name->mg d.name=Aa (.ref fa) ->
   s₁.heap.get? a=Aa { cls:=.type "list",data:=.seq vs.toArray }->Jg vs ns->ns.length<=n->s₁.gens=#[] ->
   EF (model l.prog w) HY (.call (.ref fa) ⟨[.ref a],[]⟩) (λr s'=>r=.ok (.ret (.bool Ab))/\OldK s₁.heap s'.heap/\s'.os=s₁.os/\FW s'.gens) s₁):WalkO q loose XP YP l.row.toRowW d [] (λf vs=>LM f vs):=by
 intro w s₀ s₁ mg mb G Y_ fa o pm cd doc dV kV ho hd zo hD ka hg args vals as ol hlay hrd hwl hlo;obtain rfl:dV=.none:=Dflts.none hD ÿ;obtain rfl:kV=.none:=Dflts.noKw hD;obtain⟨a,vs,ns,rfl,rfl,ke,qo,U8⟩:=cS hn ol hwl;refine enter_call (EG (call w s₀ s₁ mg mb fa o pm cd doc a vs ns G Y_ ho (fd_plain hd) zo ka ke qo U8 hg) λr s' hq=>?_)
 obtain⟨rfl,h2,h3,h4⟩:=hq;exact⟨.inl ⟨.bool Ab,.bool Ab,[],rfl,λ_=>rfl,.bool Ab,cW l _,λ_=>⟨List.Pairwise.nil,λ_ hm=>(nomatch hm)⟩⟩,h2,h3,h4⟩
section
variable{prog:AK}{w:AH}{A:A4}{E:Vq}{s:Ar}{K:Frag}
end
end Att
namespace L2
open PySem PySem.Spec PyProof.Rows
variable{k:Ag}{x:Ah}
theorem Tv:∀{vs:Ac Al}{ns:Ac Ai},Jg vs ns->A1 (ns.map V.int) vs
 |_,_,.nil=>.nil
 |_,_,.cons n t h=>.cons ⟨t,rfl⟩ (Tv h)
def Si(H:Hp):Prop:=∀ b,H b=Af\/∃ o xs,H b=Aa (.frz o (.L xs))
theorem gM{P:AK}{w:AH}{K:Fg}{mg mb:Ah->Ao Al}{CX:CXT}{fa a:Ak}{fd:Bj}{sp:Sp}{s₁:Ar}{vs:Ac Al}{ns:Ac Ai}(KX:K.In s₁.heap)(hns:s₁.heap.Ns AO mg)(hb:s₁.heap.Ns Js mb)(jt:∀ x:Ah,x≠"__name__"->mb x=Dg x)(hlim:s₁.heap.NoLimit)(hg:s₁.gens=#[])(ha:s₁.heap.get? a=Aa { cls:=.type "list",data:=.seq vs.toArray })(hi:Jg vs ns)(hl:ns.length<=sizeLine)(hr:U6 k HY)(F:∀ base:AI,K.In base->base.Ns AO mg->Y4 P w K mg base CX k fa fd [x] sp)(ü:∀(s:Ar)(u:Al),GC s fd ⟨[u],[]⟩ [(x,u)])(qt:∀ H:Hp,Si H->IO K H a (ns.map V.int)->sp [.ref a] H (λv _=>v=.bl Ab) λ_ _ _=>AN)(hCX:∀ H e s',CX [] H s₁ (λ_ _ _=>AN) e s'->AN):EF (model P w) HY (.call (.ref fa) ⟨[.ref a],[]⟩) (λr s'=>r=.ok (.ret (.bool Ab))/\OldK s₁.heap s'.heap/\s'.os=s₁.os/\FW s'.gens) s₁:=by
 have rv:=Tv hi;have lenV:=hi.length
 have core:∀ H:Hp,Si H->IO K H a (ns.map V.int)->yy P w H s₁.heap->(∀ b,H b≠Af->b=a)->(H a≠Af->K.lookup a=Af) ->
   EF (model P w) HY (.call (.ref fa) ⟨[.ref a],[]⟩) (λr s'=>r=.ok (.ret (.bool Ab))/\OldK s₁.heap s'.heap/\s'.os=s₁.os/\FW s'.gens) s₁:=by
  intro H hO hS hok hA hK;have ul:∀{b:Ak}{o:CZ},s₁.heap.get? b=Aa o->H b=Af->(JR s₁.heap H).get? b=Aa o:=λe n=>gR e n
  have bt:∀{b:Ak}{o:CZ}{es:Bl MB}{ep:Ag},s₁.heap.get? b=Aa o->o.data=.dict es ep->H b=Af:=λ{b o es ep} e d=>by
   cases q:H b with
   |none=>rfl
   |some u=>
    have e':b=a:=hA b (by rw[q];simp)
    subst e';rw[ha]at e;cases e;have d':MD vs.toArray _=Data.dict es ep:=d;cases d'
  have Ã:∀{b:Ak}{m:Ah->Ao Al},s₁.heap.Ns b m->(JR s₁.heap H).Ns b m:=λ{b m} ⟨o,es,ep,e,d,r⟩=>⟨o,es,ep,ul e (bt e d),d,r⟩
  have hKb:K.In (JR s₁.heap H):=λb o e=>ul (KX b o e) (by
   cases q:H b with
   |none=>rfl
   |some u=>
    have e':b=a:=hA b (by rw[q];simp)
    subst e';rw[hK (by rw[q];simp)]at e;cases e)
  have hM:Mod K mg (JR s₁.heap H):=⟨hKb,Ã hns,⟨mb,Ã hb,jt⟩,let ⟨mc,h1,h2⟩:=hlim;⟨mc,Ã h1,h2⟩⟩
  have e0:yd P w K mg (JR s₁.heap H) HY [] s₁ H:=⟨rfl,hM,λb o e=>lB e,YB (dX _ _),trivial,λb hb=>absurd (show b∈([]:Ac Ak) from hb) (by simp),hok,.of_eq hg⟩
  refine EG ((F _ hKb (Ã hns)).run HY [] s₁ H ⟨[.ref a],[]⟩ [.ref a] [.ref a] _ _ hr e0 (ü s₁ (.ref a)) (.cons rfl .nil) (qt H hO hS)) λr s' h=>?_
  cases r with
  |error e=>exact(hCX H e s' h).elim
  |ok fl=>
   cases fl with
   |next=>exact A7 h
   |brk=>exact A7 h
   |cont=>exact A7 h
   |ret u=>
    obtain⟨v,H',os,bare,un,hok',r',q⟩:=h;have q':v=.bl Ab:=q;subst q';obtain rfl:u=Jo Ab:=r';refine⟨rfl,OldK.of_keep λb o e=>?_,os,bare⟩
    cases q:H b with
    |none=>exact un.keep b o e q (by intro z;exact absurd (show b∈([]:Ac Ak) from z) (by simp)) (by simp)
    |some u=>
     rcases hO b with z|⟨ob,xs,z⟩
     .rw[q]at z;cases z
     .have z2:=un.frzs b ob _ z;obtain⟨e1,_⟩:=hok b _ z;obtain⟨e2,_⟩:=hok' b _ z2;rw[e]at e1;cases e1;exact e2
 cases hk:K.lookup a with
 |some o=>
  have e:=KX a o hk;rw[ha]at e;cases e;refine core (λ_=>Af) (λ_=>.inl rfl) (.inr ⟨_,vs.toArray,_,hk,rfl,rfl,rfl,by rw[AW,lenV];exact hl,by simpa using rv⟩) (λb u z=>by have z':(Af:Ao HO)=Aa u:=z;cases z') (λb z=>absurd rfl z) λz=>absurd rfl z
 |none=>
  refine core (λb=>if b=a then Aa (.frz { cls:=.type "list",data:=.seq vs.toArray } (.L (ns.map V.int))) else Af) (λb=>?_) (.inl (.inr ⟨{ cls:=.type "list",data:=.seq vs.toArray },Au rfl⟩)) (λb u z=>?_) (λb z=>?_) λ_=>hk
  .by_cases hb:b=a
   .exact .inr ⟨_,_,Au hb⟩
   .exact .inl (Ay hb)
  .by_cases hb:b=a
   .have z':=(Au hb).symm.trans z;cases z';subst hb;exact⟨ha,by rw[Bc];exact hl,vs,_,rv,ha⟩
   .have z':=(Ay hb).symm.trans z;cases z'
  .by_cases hb:b=a
   .exact hb
   .exact absurd (Ay hb) z
noncomputable abbrev KOf{K:Fg}{h:AI}(_:K.In h):Fg:=K
theorem walk_of{l:Gg}{n:Ag}{q:AK}{loose:Ac Ah}{XP:(Ah->Ao Al)->AI->Prop}{YP:AH->AI->Prop}{d:DefRec}{K:MF->Fg}{CX:AH->CXT}{sp:AH->Sp}(hn:l.most=Aa n)(gw:n<=sizeLine)(ÿ:d.params.defaults=[])(hr:U6 k HY)(hY:∀(w:AH)(h:AI),YP w h->(K w.params).In h)(F:∀(w:AH)(mg:Ah->Ao Al)(fa:Ak)(h:AI),(K w.params).In h->h.Ns AO mg->mg d.name=Aa (.ref fa) ->
   ∃ fd:Bj,(∀(s:Ar)(u:Al),GC s fd ⟨[u],[]⟩ [(x,u)]) /\
    ∀ base:AI,(K w.params).In base->base.Ns AO mg->Y4 l.prog w (K w.params) mg base (CX w) k fa fd [x] (sp w))(qt:∀(w:AH)(H:Hp)(a:Ak)(ns:Ac Ai),ns.length<=n->Si H->IO (K w.params) H a (ns.map V.int)->sp w [.ref a] H (λv _=>v=.bl Ab) λ_ _ _=>AN)(hCX:∀(w:AH)(H:Hp)(s:Ar)(e:Al)(s':Ar),CX w [] H s (λ_ _ _=>AN) e s'->AN):Z_0 q loose XP YP l.row.toRowW d [] (λf vs=>LM f vs):=by
 refine Att.attach_call hn ÿ λw s₀ s₁ mg mb fa o pm cd doc a vs ns G Y_ ho hd zo ka ke qo U8 hg=>?_
 have KX:=hY w _ Y_;obtain⟨fd,hb,hF⟩:=F w mg fa _ KX G.T.g ka;exact gM KX G.T.g G.T.b G.T.builtins G.T.nolimit hg ke qo (B8 U8 gw) hr hF hb (λH hO hS=>qt w H a ns U8 hO hS) λH e s'=>hCX w H s₁ e s'
end L2
namespace L2
open PySem PySem.Spec PyProof.Rows
noncomputable def Hi(s:AL):Mz:=match s with
  |.FunctionDef _ a _ _ _ _ _ _ _ _=>a
  |_=>{posonlyargs:=[],args:=[],vararg:=Af,kwonlyargs:=[],kw_defaults:=[],kwarg:=Af,defaults:=[]}
noncomputable def Dh(s:AL):Ac AL:=match s with
  |.FunctionDef _ _ b _ _ _ _ _ _ _=>b
  |_=>[]
noncomputable def AG(s:AL):Ca:=match s with
  |.FunctionDef _ _ _ _ _ _ sc _ _ _=>sc
  |_=>{kind:=.function,names:=[],isGenerator:=Ae,isCoroutine:=Ae}
noncomputable abbrev CX0:CXT:=λ_ _ _ _ _ _=>AN
noncomputable abbrev E0:XK:=λ_ _ _=>AN
structure qc (K:Fg) (x qual:Ah) (st:AL) (f:Ak) (fd:Bj):Prop where
 ex:∃(oc:Al)(od:Ao Ak)(kV doc pm:Al)(an:Ao Ak)(cdv ct:Al)(osl:Bl (Ao Al)),
  fd=B1 x qual (Hi st) (Dh st) (AG st) .none kV doc pm an cdv ct/\K.lookup f=Aa ⟨oc,od,.func fd,osl⟩/\DD K cdv qual=Ab
 kp:Ba K (.ref f)=Ab
section
variable{P:AK}{w:AH}{K:Fg}{mg:Ah->Ao Al}{base:AI}
theorem qc.ok{x qual:Ah}{st:AL}{f:Ak}{fd:Bj}{N ps:Ac Ah}{k:Ag}{sp:Sp}(F:qc K x qual st f fd)(S:zx N ps (AG st))(len:∀ vs H Q E,sp vs H Q E->vs.length=ps.length)(wb:∀(cdv:Al)(A:A4)(outer:Ac B4)(s:Ar)(H:Hp)(vs:Ac V)(Q:VK)(E:XK),U6 k (A.deeper (D3 qual (AG st) s.heap.objs.size f cdv))->sp vs H Q E ->
   ∃ t,ye (B0 CX0 P w K mg base N qual (AG st) f cdv A outer s H E).nox (Dh st) t/\t {nx:=λ_ H'=>Q .O H',rt:=Q} (start N vs) H):Y4 P w K mg base CX0 (k+1) f fd ps sp:=by
 obtain⟨oc,od,kV,doc,pm,an,cdv,ct,osl,rfl,lk,zo⟩:=F.ex;refine Hq lk zo S len λA outer s H vs Q E hr qt=>?_
 obtain⟨t,h,q⟩:=wb cdv A outer s H vs Q E hr qt;exact⟨t,h.nox,q⟩
theorem qc.binds{x qual:Ah}{st:AL}{f:Ak}{fd:Bj}{ps:Ac Ah}(F:qc K x qual st f fd)(h:∀(kV doc pm:Al)(an:Ao Ak)(cdv ct:Al)(us:Ac Al),us.length=ps.length->Hf (B1 x qual (Hi st) (Dh st) (AG st) .none kV doc pm an cdv ct) ⟨us,[]⟩=pure (ps.zip us)):CW K fd ps []:=by
 obtain⟨oc,od,kV,doc,pm,an,cdv,ct,osl,rfl,lk,zo⟩:=F.ex;exact .all (h kV doc pm an cdv ct)
theorem QX{x qual:Ah}{st:AL}{f:Ak}{oc:Al}{od an:Ao Ak}{osl:Bl (Ao Al)}{kV doc pm cdv ct:Al}(l:K.lookup f=Aa ⟨oc,od,.func (B1 x qual (Hi st) (Dh st) (AG st) .none kV doc pm an cdv ct),osl⟩)(c:DD K cdv qual=Ab)(k:Ba K (.ref f)=Ab):qc K x qual st f (B1 x qual (Hi st) (Dh st) (AG st) .none kV doc pm an cdv ct):=⟨⟨oc,od,kV,doc,pm,an,cdv,ct,osl,rfl,l,c⟩,k⟩
end
section
variable{X:Cx}
theorem pv(i:Ag){x:Ah}{pos:AE}(hN:X.N[i]?=Aa x:=by rfl)(hv:å X.env.scope x:=by first|exact Or.inl rfl|exact Or.inr (Or.inl rfl)|exact Or.inr (Or.inr rfl))(hd:(x==("__debug__" : Ah))=Ae:=by decide)(zo:(x==("__classdict__" : Ah))=Ae:=by decide):PE X (.Name x pos) (Ch i):=Dw hN hv hd zo
end
def Az(H H':Hp):Prop:=∀ b o,H b=Aa o->H' b=Aa o
theorem Az.refl(H:Hp):Az H H:=λ_ _ h=>h
theorem Az.trans{H H1 H2:Hp}(a:Az H H1)(b:Az H1 H2):Az H H2:=λc o h=>b c o (a c o h)
theorem Az.free{H H':Hp}(e:Az H H'){l:Ak}(h:H' l=Af):H l=Af:=by
 cases q:H l with
 |none=>rfl
 |some o=>
  rw[e l o q]at h;cases h
theorem Az.seq{K:Fg}{H H':Hp}{a:Ak}{xs:Ac V}(e:Az H H')(h:IO K H a xs):IO K H' a xs:=by
 rcases h with (h|⟨o,h⟩)|h
 .exact .inl (.inl (e _ _ h))
 .exact .inl (.inr ⟨o,e _ _ h⟩)
 .exact .inr h
end L2
section
namespace Ov
open PySem
variable{α β:Type}
inductive D where
 |O|bl (b:Am)|int (i:Ai)|str (x:Ah)|H (ds:Ac D)|L (ds:Ac D)
 |obj (c:Ag) (fs:Ac (Ah×D))|exc (c:Ag) (fs:Ac (Ah×D))|dic (kvs:Ac (Ac Ai×D))
 deriving Inhabited
structure Ex where
 c:Ag
 fs:Ac (Ah×D)
 deriving Inhabited
inductive R (α:Type) where
 |ok (a:α)|exn (x:Ex)|bad
 deriving Inhabited
noncomputable def R.bind{α β:Type}(r:R α)(f:α->R β):R β:=match r with
  |.ok a=>f a
  |.exn x=>.exn x
  |.bad=>.bad
@[simp]theorem R.bind_ok(a:α)(f:α->R β):(R.ok a).bind f=f a:=rfl
@[simp]theorem R.bind_exn(x:Ex)(f:α->R β):(R.exn x:R α).bind f=.exn x:=rfl
@[simp]theorem R.bind_bad(f:α->R β):(R.bad:R α).bind f=.bad:=rfl
theorem R.bind_assoc{γ:Type}(r:R α)(f:α->R β)(g:β->R γ):(r.bind f).bind g=r.bind λa=>(f a).bind g:=by cases r<;>rfl
noncomputable def CY(n:Ag):Am:=CD n 1000000
noncomputable def Fq(i j:Ai):Am:=(decide (-(18446744073709551616:Ai)<i)&&decide (i<18446744073709551616))||(decide (-(18446744073709551616:Ai)<j)&&decide (j<18446744073709551616))
noncomputable def ON(i j:Ai):Am:=decide (i.natAbs<2 ^ 2000)&&decide (j.natAbs<2 ^ 2000)
noncomputable def Dc:Gq->D->D->R D
 |.Add,.int i,.int j=>.ok (.int (i+j))
 |.Sub,.int i,.int j=>.ok (.int (i-j))
 |.Mult,.int i,.int j=>if (Fq i j||ON i j)=Ab then .ok (.int (i*j)) else .bad
 |.FloorDiv,.int i,.int j=>if 0<j/\j<1073741824 then .ok (.int (i/j)) else .bad
 |.Mod,.int i,.int j=>if 0<j then .ok (.int (i%j)) else .bad
 |.Pow,.int i,.int j=>if (0<=j/\j<=1000000)/\(-(18446744073709551616:Ai)<i/\i<18446744073709551616) then .ok (.int (i ^ j.toNat)) else .bad
 |.Add,.str x,.str y=>if CY (x.length+y.length)=Ab then .ok (.str (x++y)) else .bad
 |.Add,.L x,.L y=>if CY (x.length+y.length)=Ab then .ok (.L (x++y)) else .bad
 |.Add,.H x,.H y=>if (!x.isEmpty&&CY (x.length+y.length))=Ab then .ok (.H (x++y)) else .bad
 |_,_,_=>.bad
noncomputable def ß:K0->D->R D
 |.USub,.int i=>.ok (.int (-i))
 |_,_=>.bad
noncomputable def æ(b:Am):Ai:=if b=Ab then 1 else 0
mutual
noncomputable def Tm:D->D->Am
 |.O,.O=>Ab
 |.bl a,.bl b=>a==b
 |.bl a,.int j=>æ a==j
 |.int i,.bl b=>i==æ b
 |.int i,.int j=>i==j
 |.str x,.str y=>x==y
 |.H xs,.H ys=>LT xs ys
 |.L xs,.L ys=>LT xs ys
 |_,_=>Ae
noncomputable def LT:Ac D->Ac D->Am
 |[],[]=>Ab
 |x::xs,y::ys=>Tm x y&&LT xs ys
 |_,_=>Ae
end
noncomputable def Y8:Ag->D->Am
 |_,.O=>Ab
 |_,.bl _=>Ab
 |_,.int _=>Ab
 |_,.str _=>Ab
 |n+1,.H xs=>xs.all (Y8 n)
 |n+1,.L xs=>xs.all (Y8 n)
 |_,_=>Ae
noncomputable def Mv:D->Ao (Ac Ai)
 |.H ds=>keyDs ds
 |_=>Af
where keyDs:Ac D->Ao (Ac Ai)
 |[]=>Aa []
 |.int i::r=>(keyDs r).map (i :: ·)
 |_=>Af
noncomputable def io:Ag->D->D->Am
 |0,.int i,.int j=>decide (i<j)
 |n+1,.H xs,.H ys=>ltDs (io n) xs ys
 |_,_,_=>Ae
where ltDs (lt:D->D->Am):Ac D->Ac D->Am
 |[],[]=>Ae
 |[],_::_=>Ab
 |_::_,[]=>Ae
 |x::xs,y::ys=>if Tm x y=Ab then ltDs lt xs ys else lt x y
noncomputable def Ï:Ag->D->Am
 |0,.int _=>Ab
 |n+1,.H xs=>xs.all (Ï n)
 |_,_=>Ae
noncomputable def Xa(lt:D->D->Am)(x:D):Ac D->Ac D
 |[]=>[x]
 |y::ys=>if lt y x=Ab then y::Xa lt x ys else x::y::ys
noncomputable def Wi(lt:D->D->Am):Ac D->Ac D
 |[]=>[]
 |x::xs=>Xa lt x (Wi lt xs)
noncomputable def XG:Ac D->Am
 |[]=>Ab
 |x::xs=>xs.all (λy=>!Tm x y)&&XG xs
noncomputable def XJ:Ac D->Am
 |[]=>Ab
 |[_]=>Ab
 |x::y::r=>io 1 x y&&XJ (y::r)
noncomputable def UT(xs:Ac D):R (Ac D):=if (xs.all (λd=>Ï 1 d && !Tm d (.H []))&&XG xs&&(decide (xs.length<64)||(XJ xs&&decide (xs.length<=1000))))=Ab then .ok (Wi (io 1) xs) else .bad
noncomputable def BP:DB->D->D->R D
  |.Eq,x,y=>if (Y8 5 x&&Y8 5 y)=Ab then .ok (.bl (Tm x y)) else .bad
  |.NotEq,x,y=>if (Y8 5 x&&Y8 5 y)=Ab then .ok (.bl (!Tm x y)) else .bad
  |.Lt,.int i,.int j=>.ok (.bl (decide (i<j)))
  |.LtE,.int i,.int j=>.ok (.bl (decide (i<=j)))
  |.Gt,.int i,.int j=>.ok (.bl (decide (j<i)))
  |.GtE,.int i,.int j=>.ok (.bl (decide (j<=i)))
  |.In,x,.L ys=>if (Y8 5 x&&ys.all (Y8 5))=Ab then .ok (.bl (ys.any λy=>Tm y x)) else .bad
  |.In,x,.dic kvs=>match Mv x with
    |some k=>.ok (.bl (kvs.any λp=>p.1==k))
    |none=>.bad
  |.In,x,.H ys=>if (Y8 5 x&&ys.all (Y8 5))=Ab then .ok (.bl (ys.any λy=>Tm y x)) else .bad
  |.NotIn,x,.L ys=>if (Y8 5 x&&ys.all (Y8 5))=Ab then .ok (.bl (!ys.any λy=>Tm y x)) else .bad
  |.NotIn,x,.H ys=>if (Y8 5 x&&ys.all (Y8 5))=Ab then .ok (.bl (!ys.any λy=>Tm y x)) else .bad
  |.Is,.O,.O=>.ok (.bl Ab)
  |.Is,.bl _,.O=>.ok (.bl Ae)
  |.Is,.int _,.O=>.ok (.bl Ae)
  |.Is,.str _,.O=>.ok (.bl Ae)
  |.Is,.H _,.O=>.ok (.bl Ae)
  |.Is,.L _,.O=>.ok (.bl Ae)
  |.Is,.obj _ _,.O=>.ok (.bl Ae)
  |.Is,.bl a,.bl b=>.ok (.bl (a==b))
  |.IsNot,.bl a,.bl b=>.ok (.bl (!(a==b)))
  |.IsNot,.O,.O=>.ok (.bl Ae)
  |.IsNot,.bl _,.O=>.ok (.bl Ab)
  |.IsNot,.int _,.O=>.ok (.bl Ab)
  |.IsNot,.str _,.O=>.ok (.bl Ab)
  |.IsNot,.H _,.O=>.ok (.bl Ab)
  |.IsNot,.L _,.O=>.ok (.bl Ab)
  |.IsNot,.obj _ _,.O=>.ok (.bl Ab)
  |_,_,_=>.bad
noncomputable def Bq:D->R Am
 |.O=>.ok Ae
 |.bl b=>.ok b
 |.int i=>.ok (i != 0)
 |.str x=>if CY x.length=Ab then .ok (x.length != 0) else .bad
 |.H xs=>.ok (!xs.isEmpty)
 |.L xs=>.ok (!xs.isEmpty)
 |_=>.bad
noncomputable def pj(n:Ag)(i:Ai):Ao Ag:=if 0<=i then (if i<n then Aa i.toNat else Af) else if -(n:Ai)<=i then Aa (i+n).toNat else Af
noncomputable def DU(xs:Ac D)(i:Ai):R D:=match pj xs.length i with
  |some k=>match xs[k]? with
    |some d=>.ok d
    |none=>.bad
  |none=>.bad
noncomputable def sG(kvs:Ac (Ac Ai×D))(k:Ac Ai):Ao D:=(kvs.find? λp=>p.1==k).map (·.2)
noncomputable def VC(kvs:Ac (Ac Ai×D))(k:Ac Ai)(v:D):Ac (Ac Ai×D):=if (kvs.any λp=>p.1==k)=Ab then kvs.map (λp=>if (p.1==k)=Ab then (k,v) else p) else kvs++[(k,v)]
noncomputable def Nz(x:Ah):Ac D:=x.cps.toList.map λc=>.str ⟨#[c]⟩
noncomputable def G7:D->D->R D
  |.str x,.int i=>if CY x.length=Ab then DU (Nz x) i else .bad
  |.L xs,.int i=>DU xs i
  |.H xs,.int i=>DU xs i
  |.dic kvs,k=>match (Mv k).bind (sG kvs) with
    |some d=>.ok d
    |none=>.bad
  |_,_=>.bad
noncomputable def FQ:D->R Ai
 |.int i=>.ok i
 |_=>.bad
noncomputable def Di:D->R Am
 |.bl b=>.ok b
 |_=>.bad
noncomputable def Eu:D->R (Ac D)
 |.L xs=>.ok xs
 |.H xs=>.ok xs
 |_=>.bad
noncomputable def yH:D->R (Ac D)
 |.L xs=>.ok xs
 |_=>.bad
inductive BI where
 |len|abs|max|min|int|list|tuple|all|any|sum|sorted|str|count|stp|lset|tmin|tmax|tlt|rvs|sjoin|ssplit|index
 deriving DecidableEq,Inhabited
inductive Ki where
 |int|bool|str|list|tuple|verr|cls (c:Ag)
 deriving DecidableEq,Inhabited
mutual
inductive E where
 |O|bl (b:Am)|int (i:Ai)|str (x:Ah)
 |v (i:Ag)|glob (g:Ag)
 |B (op:Gq) (a b:E)|un (op:K0) (a:E)|no (a:E)
 |and (es:Es)|or (es:Es)
 |cmp (op:DB) (a b:E)|cmp2 (op op':DB) (a b c:E)
 |ite (c a b:E)
 |call (f:Ag) (as:Es)|bi (b:BI) (as:Es)
 |isi (a:E) (ks:Ac Ki)
 |x (a i:E)|sl (a lo hi:E)
 |H (es:Es)|L (es:Es)
 |comp (elt:E) (t:Ag) (it:I) (c:E)|compT (elt:E) (ts:Ac Ag) (it:I) (c:E)|tupI (it:I)|dnew
 |fld (o:E) (f:Ah)|mkx (c:Ag) (as:Es)
 |ofl (o:E) (f:Ah)|iso (a:E) (k:Ag)|meth (m:Ah) (ms:Ac (Ag×Ag)) (o:E)|mkob (c:Ag) (e:E)|mkn (c:Ag) (as:Es)
inductive Es where
 |nil|cons (e:E) (es:Es)
inductive I where
 |e (a:E)|rng (a:E)|rng2 (a b:E)|zip (a b:E)|zip3 (a b c:E)|enm (a:E)
end
abbrev Sl:=Ao (D×Am)
abbrev Rho:=Ac Sl
structure Z4 where
 F:Ag->Ac D->R D
 G:Ag->D
 up:Ag->Ac Ag
 fr:Ag->Am
 xn:Ag->Ac D->R Ex
noncomputable def Iw(lo:Ai)(n:Ag):Ac D:=(BO n).map fun(k:Ag)=>D.int (lo+(k:Ai))
noncomputable def EY(lo hi:Ai):R (Ac D):=if (-(4611686018427387904:Ai)<=lo/\lo<4611686018427387904)/\(-(4611686018427387904:Ai)<=hi/\hi<4611686018427387904)/\hi-lo<1000000 then .ok (Iw lo (hi-lo).toNat) else .bad
noncomputable def xw(up:Ag->Ac Ag):Ki->D->Am
 |.int,.int _=>Ab
 |.int,.bl _=>Ab
 |.bool,.bl _=>Ab
 |.str,.str _=>Ab
 |.list,.L _=>Ab
 |.tuple,.H _=>Ab
 |.cls c,.obj k _=>(up k).contains c
 |.cls c,.exc k _=>(up k).contains c
 |.verr,.exc _ _=>Ab
 |_,_=>Ae
noncomputable def E7:Ki->Am
 |.cls _=>Ab
 |.verr=>Ab
 |_=>Ae
noncomputable def Eg(up:Ag->Ac Ag)(ks:Ac Ki)(x:D):R D:=match x with
  |.obj _ _=>.bad
  |.exc _ _=>if ks.all E7=Ab then .ok (.bl (ks.any λk=>xw up k x)) else .bad
  |.dic _=>.bad
  |_=>if ks.any E7=Ab then .bad else .ok (.bl (ks.any λk=>xw up k x))
noncomputable def Iu:D->R Am
 |.O=>.ok Ae
 |.bl b=>.ok b
 |.int i=>.ok (i != 0)
 |_=>.bad
noncomputable def G2:Ac D->R Am
 |[]=>.ok Ab
 |x::r=>(Iu x).bind λb=>(G2 r).bind λc=>.ok (b&&c)
noncomputable def OO:Ac D->R Am
 |[]=>.ok Ae
 |x::r=>(Iu x).bind λb=>(OO r).bind λc=>.ok (b||c)
noncomputable def O2:Ai->Ac D->R Ai
 |a,[]=>.ok a
 |a,.int i::r=>O2 (a+i) r
 |_,_=>.bad
noncomputable def RV:Ac D->Ac D->Ac D
 |x::xs,y::ys=>.H [x,y]::RV xs ys
 |_,_=>[]
noncomputable def Wk:Ac D->Ac D->Ac D->Ac D
 |x::xs,y::ys,z::zs=>.H [x,y,z]::Wk xs ys zs
 |_,_,_=>[]
noncomputable def Wj(x y z:D):R (Ac D):=(Eu x).bind λxs=>(Eu y).bind λys=>(Eu z).bind λzs=>if 0<xs.length/\xs.length<=1000/\ys.length=xs.length/\zs.length=xs.length then .ok (Wk xs ys zs) else .bad
noncomputable def Pd:Ai->Ac D->Ac D
 |_,[]=>[]
 |i,x::xs=>.H [.int i,x]::Pd (i+1) xs
noncomputable def xg:Ag->D->Am
 |_,.O=>Ab
 |_,.bl _=>Ab
 |_,.int _=>Ab
 |_,.str _=>Ab
 |n+1,.H xs=>xs.all (xg n)
 |_,_=>Ae
noncomputable def JL(fr:Am):D->Am
 |.L ds=>fr&&ds.all (xg 5)
 |d=>xg 5 d
noncomputable def JE:Ac D->Ao (Ac Ai)
 |[]=>Aa []
 |.int i::r=>(JE r).map (i :: ·)
 |_=>Af
noncomputable def Jc(i:Ai):Ac Ai->Ai
 |[]=>i
 |j::r=>Jc (if j<i then j else i) r
noncomputable def pk2(k n:Ag):Ac Ag:=(BO ((n-min k n+1)/2)).map λj=>min k n+2*j
noncomputable def aj(k:Ag)(xs:Ac D):Ac D:=(pk2 k xs.length).filterMap λi=>xs[i]?
noncomputable def ddS(zt:Ac Ai)(x:Ai):Ac Ai:=if zt.any (· == x)=Ab then zt else zt++[x]
noncomputable def ddN(is:Ac Ai):Ag:=(is.foldl ddS []).length
noncomputable def yC(xs:Ac D):R D:=match JE xs with
  |some is=>if CD is.length 4000=Ab then .ok (.int (ddN is)) else .bad
  |none=>.bad
noncomputable def mmD(mx:Am)(x y:D):R D:=if [x,y].all (λd=>Ï 1 d && !Tm d (.H []))=Ab then .ok (if (if mx=Ab then io 1 x y else io 1 y x)=Ab then y else x) else .bad
noncomputable def WS(x y:D):R D:=if [x,y].all (λd=>Ï 1 d && !Tm d (.H []))=Ab then .ok (.bl (io 1 x y)) else .bad
noncomputable def zS(k:Ac Ai):Ai:=reduceHash (Builtin.Tuple.tupleHashOf (k.map hashInt))
noncomputable def Wo:Ac D->Ao (Ac (Ac Ai))
 |[]=>Aa []
 |.H xs::r=>(JE xs).bind λk=>(Wo r).map (k :: ·)
 |_=>Af
noncomputable def WR:Ac Ai->Am
 |[]=>Ab
 |h::r=>!r.contains h&&WR r
noncomputable def yA(xs:Ac D):R D:=match Wo xs with
  |some ks=>if (CD ks.length 3&&WR (ks.map zS))=Ab then .ok (.int ks.length) else .bad
  |none=>.bad
noncomputable def Mn:Ac D->Ao (Ac Ah)
 |[]=>Aa []
 |.str x::r=>(Mn r).map (x :: ·)
 |_=>Af
noncomputable def QS(s:Ah)(xs:Ac D):R D:=match Mn xs with
  |some ss=>if J7 s ss=Ab then .ok (.str (Ep s ss)) else .bad
  |none=>.bad
noncomputable def Lx(i:Ai):Am:=decide (i.natAbs<1000)
noncomputable def IY(x y:Ah):Am:=CD x.length 1000000&&CD (YR x (Dz x y 0 x.length (x.length+1)) y.length).length 1000000
noncomputable def JJ(x:Ah)(l h:Ao Ai):Ah:=if ((EO l h 1 x.length).length==x.length)=Ab then x else ⟨((EO l h 1 x.length).filterMap (x.cps[·]?)).toArray⟩
noncomputable def OU(xs:Ac D)(x:D):R D:=if (Y8 5 x&&xs.all (Y8 5))=Ab then (match xs.findIdx? λy=>Tm y x with
  |some j=>.ok (.int (j:Ag))
  | none=>.bad) else .bad
noncomputable def zw:BI->Ac D->R D
  |.len,[.L xs]=>.ok (.int xs.length)
  |.len,[.H xs]=>.ok (.int xs.length)
  |.len,[.str x]=>if CY x.length=Ab then .ok (.int x.length) else .bad
  |.abs,[.int i]=>.ok (.int (if i<0 then -i else i))
  |.max,[.int i,.int j]=>.ok (.int (if i<j then j else i))
  |.min,[.int i,.int j]=>.ok (.int (if j<i then j else i))
  |.min,[.L xs]=>match JE xs with
    |some (i::is)=>.ok (.int (Jc i is))
    |_=>.bad
  |.int,[.int i]=>.ok (.int i)
  |.int,[.bl b]=>.ok (.int (æ b))
  |.list,[.L xs]=>.ok (.L xs)
  |.list,[.H xs]=>.ok (.L xs)
  |.tuple,[.L xs]=>.ok (.H xs)
  |.tuple,[.H xs]=>.ok (.H xs)
  |.all,[.L xs]=>(G2 xs).bind λb=>.ok (.bl b)
  |.any,[.L xs]=>(OO xs).bind λb=>.ok (.bl b)
  |.any,[.H xs]=>(OO xs).bind λb=>.ok (.bl b)
  |.sum,[.L xs]=>(O2 0 xs).bind λi=>.ok (.int i)
  |.sum,[.H xs]=>(O2 0 xs).bind λi=>.ok (.int i)
  |.sorted,[.L xs]=>(UT xs).bind λys=>.ok (.L ys)
  |.index,[.L xs,x]=>OU xs x
  |.count,[.L xs,x]=>if (Y8 5 x&&xs.all (Y8 5))=Ab then .ok (.int ((xs.filter λy=>Tm y x).length:Ag)) else .bad
  |.len,[.dic kvs]=>.ok (.int kvs.length)
  |.stp,[.L xs,.int k]=>.ok (.L (aj k.toNat xs))
  |.lset,[.L xs]=>yC xs
  |.lset,[.H xs]=>yA xs
  |.sjoin,[.str s,.L xs]=>QS s xs
  |.str,[.int i]=>if Lx i=Ab then .ok (.str (Aj (toString i))) else .bad
  |.ssplit,[.str x,.str y]=>if (!(y.length==0)&&IY x y)=Ab then .ok (.L ((DH x y).map D.str)) else .bad
  |.tmin,[x,y]=>mmD Ae x y
  |.tmax,[x,y]=>mmD Ab x y
  |.tlt,[x,y]=>WS x y
  |.rvs,[.L xs]=>.ok (.L xs.reverse)
  |_,_=>.bad
noncomputable def slE(c:E)(d:D):R (Ao Ai):=match c with
  |.O=>.ok Af
  |_=>(FQ d).bind λi=>.ok (Aa i)
noncomputable def Ja(n d:Ag):Ao Ai->Ag
 |none=>d
 |some i=>if i<0 then (i+n).toNat else min i.toNat n
noncomputable def JK(xs:Ac D)(lo hi:Ao Ai):Ac D:=(xs.drop (Ja xs.length 0 lo)).take (Ja xs.length xs.length hi-Ja xs.length 0 lo)
noncomputable def i6:D->Ao Ai->Ao Ai->R D
 |.L xs,l,h=>.ok (.L (JK xs l h))
 |.H xs,l,h=>if (Ja xs.length 0 l==0&&Ja xs.length xs.length h==xs.length)=Ab then .bad else .ok (.H (JK xs l h))
 |.str x,l,h=>if (CY x.length&&CY (JJ x l h).length)=Ab then .ok (.str (JJ x l h)) else .bad
 |_,_,_=>.bad
noncomputable def oup:Ag->Ac Ag
 |0=>[0]
 |1=>[1,0]
 |2=>[2,0]
 |_=>[]
noncomputable def bv:D->Ah->R D
  |.obj _ fs,f=>match fs.lookup f with
    |some d=>.ok d
    |none=>.bad
  |_,_=>.bad
noncomputable def R7(k:Ag):D->R D
 |.obj c _=>.ok (.bl ((oup c).contains k))
 |_=>.bad
noncomputable def Np(F:Ag->Ac D->R D)(m:Ah)(ms:Ac (Ag×Ag)):D->R D
  |.obj c fs=>match ms.lookup c with
    |some id=>if (fs.lookup m).isNone=Ab then F id [.obj c fs] else .bad
    |none=>.bad
  |_=>.bad
noncomputable def EI(c:Ag):D->R D
 |.H [a,b]=>if xg 5 b=Ab then .ok (.obj c [("p",a),("triple",b)]) else .bad
 |_=>.bad
noncomputable def R5:D->Ah->R D
  |.exc _ fs,f=>match fs.lookup f with
    |some d=>.ok d
    |none=>.bad
  |_,_=>.bad
noncomputable def Gc(U:Rho)(i:Ag):R D:=match U[i]? with
  |some (Aa (d,Ae))=>.ok d
  |_=>.bad
noncomputable def zK:D->R D
 |.L xs=>.ok (.L xs)
 |_=>.bad
noncomputable def CS(U:Rho)(i:Ag):R D:=match U[i]? with
  |some (Aa (d,Ae))=>.ok d
  |some (Aa (d,Ab))=>zK d
  |_=>.bad
noncomputable def vn(U:Rho):E->Am
  | .v i=>(match U[i]? with
    |some (Aa (_,Ab))=>Ae
    | _=>Ab)
  |_=>Ab
noncomputable def JI(U:Rho):Es->Am
 |.nil=>Ab
 |.cons e es=>vn U e&&JI U es
noncomputable def Hj:Ac Ag->Ac D->Rho->Ao Rho
 |[],[],U=>Aa U
 |t::ts,d::ds,U=>Hj ts ds (U.set t (Aa (d,Ae)))
 |_,_,_=>Af
noncomputable def HI(ts:Ac Ag)(d:D)(U:Rho):R Rho:=match d with
  | .H xs=>(match Hj ts xs U with
    |some U'=>.ok U'
    | none=>.bad)
  |_=>.bad
noncomputable def Ml(ts:Ac Ag)(d:D)(U:Rho):R Rho:=match d with
  | .L xs=>(match Hj ts xs U with
    |some U'=>.ok U'
    | none=>.bad)
  |d=>HI ts d U
noncomputable def Cq(g:D->R Am)(f:D->R D):Ac D->R (Ac D)
 |[]=>.ok []
 |x::xs=>(g x).bind λb=>if b=Ab then (f x).bind λy=>(Cq g f xs).bind λys=>.ok (y::ys) else Cq g f xs
noncomputable def zg{α:Type}:R α->R α
 |.ok a=>.ok a
 |_=>.bad
noncomputable def top(U:Rho)(e:E)(r:R D):R D:=match e with
  |.v i=>CS U i
  |_=>r
mutual
noncomputable def evE(Z:Z4)(U:Rho):E->R D
 |.O=>.ok .O
 |.bl b=>.ok (.bl b)
 |.int i=>.ok (.int i)
 |.str x=>.ok (.str x)
 |.v i=>Gc U i
 |.glob g=>.ok (Z.G g)
 |.B op a b=>(top U a (evE Z U a)).bind λx=>(top U b (evE Z U b)).bind λy=>Dc op x y
 |.un op a=>(top U a (evE Z U a)).bind λx=>ß op x
 |.no a=>(top U a (evE Z U a)).bind λx=>(Di x).bind λb=>.ok (.bl (!b))
 |.and es=>evN Z U es
 |.or es=>evO Z U es
 |.cmp op a b=>(top U a (evE Z U a)).bind λx=>(top U b (evE Z U b)).bind λy=>BP op x y
 |.cmp2 op op' a b c=>(top U a (evE Z U a)).bind λx=>(top U b (evE Z U b)).bind λy=>(BP op x y).bind λz=>(Di z).bind λk=>if k=Ab then (top U c (evE Z U c)).bind λu=>BP op' y u else .ok (.bl Ae)
 |.ite c a b=>(top U c (evE Z U c)).bind λx=>(Bq x).bind λk=>if k=Ab then evE Z U a else evE Z U b
 |.call f as=>(xj Z U as).bind λxs=>(Z.F f xs).bind λd=>if JI U as=Ab then .ok d else if JL (Z.fr f) d=Ab then .ok d else .bad
 |.bi b as=>(xj Z U as).bind λxs=>zw b xs
 |.isi a ks=>(top U a (evE Z U a)).bind λx=>Eg Z.up ks x
 |.x a i=>(top U a (evE Z U a)).bind λx=>(top U i (evE Z U i)).bind λy=>G7 x y
 |.sl a lo hi=>(top U a (evE Z U a)).bind λx=>(top U lo (evE Z U lo)).bind λl=>(slE lo l).bind λl'=>(top U hi (evE Z U hi)).bind λh=>(slE hi h).bind λh'=>i6 x l' h'
 |.H es=>(xz Z U es).bind λxs=>.ok (.H xs)
 |.L es=>(xz Z U es).bind λxs=>.ok (.L xs)
 |.comp elt t it c=>(wn Z U it).bind λxs=>(zg (Cq (λx=>(top (U.set t (Aa (x,Ae))) c (evE Z (U.set t (Aa (x,Ae))) c)).bind Bq) (λx=>evE Z (U.set t (Aa (x,Ae))) elt) xs)).bind λys=>.ok (.L ys)
 |.compT elt ts it c=>(wn Z U it).bind λxs=>(zg (Cq (λx=>(HI ts x U).bind λU'=>(top U' c (evE Z U' c)).bind Bq) (λx=>(HI ts x U).bind λU'=>evE Z U' elt) xs)).bind λys=>.ok (.L ys)
 |.tupI it=>(wn Z U it).bind λxs=>.ok (.H xs)
 |.dnew=>.ok (.dic [])
 |.fld o f=>(top U o (evE Z U o)).bind λx=>R5 x f
 |.mkx c as=>(zg (xz Z U as)).bind λxs=>(Z.xn c xs).bind λx=>.ok (.exc x.c x.fs)
 |.ofl o f=>(top U o (evE Z U o)).bind λx=>bv x f
 |.iso a k=>(top U a (evE Z U a)).bind λx=>R7 k x
 |.meth m ms o=>(top U o (evE Z U o)).bind λx=>Np Z.F m ms x
 |.mkob c e=>(zg (evE Z U e)).bind λx=>EI c x
 |.mkn c as=>(zg (xz Z U as)).bind λxs=>Z.F (900+c) xs
noncomputable def evN(Z:Z4)(U:Rho):Es->R D
 |.nil=>.bad
 |.cons e .nil=>evE Z U e
 |.cons e (.cons e' es)=>(evE Z U e).bind λx=>(Di x).bind λc=>if c=Ab then evN Z U (.cons e' es) else .ok (.bl Ae)
noncomputable def evO(Z:Z4)(U:Rho):Es->R D
 |.nil=>.bad
 |.cons e .nil=>evE Z U e
 |.cons e (.cons e' es)=>(evE Z U e).bind λx=>(Di x).bind λc=>if c=Ab then .ok (.bl Ab) else evO Z U (.cons e' es)
noncomputable def xz(Z:Z4)(U:Rho):Es->R (Ac D)
 |.nil=>.ok []
 |.cons e es=>(evE Z U e).bind λx=>(xz Z U es).bind λxs=>.ok (x::xs)
noncomputable def xj(Z:Z4)(U:Rho):Es->R (Ac D)
 |.nil=>.ok []
 |.cons e es=>(top U e (evE Z U e)).bind λx=>(xj Z U es).bind λxs=>.ok (x::xs)
noncomputable def wn(Z:Z4)(U:Rho):I->R (Ac D)
 |.e a=>(evE Z U a).bind Eu
 |.rng a=>(top U a (evE Z U a)).bind λx=>(FQ x).bind λj=>EY 0 j
 |.rng2 a b=>(top U a (evE Z U a)).bind λx=>(top U b (evE Z U b)).bind λy=>(FQ x).bind λi=>(FQ y).bind λj=>EY i j
 |.zip a b=>(evE Z U a).bind λx=>(evE Z U b).bind λy=>(Eu x).bind λxs=>(Eu y).bind λys=>.ok (RV xs ys)
 |.zip3 a b c=>(evE Z U a).bind λx=>(evE Z U b).bind λy=>(evE Z U c).bind λz=>Wj x y z
 |.enm a=>(evE Z U a).bind λx=>(Eu x).bind λxs=>.ok (Pd 0 xs)
end
noncomputable def Fv(Z:Z4):E->Am
 |.L _=>Ab
 |.comp _ _ _ _=>Ab
 |.compT _ _ _ _=>Ab
 |.dnew=>Ab
 |.B .Add _ _=>Ab
 |.bi .list _=>Ab
 |.bi .sorted _=>Ab
 |.sl _ _ _=>Ab
 |.call f _=>Z.fr f
 |_=>Ae
mutual
inductive S where
 |pass
 |asg (i:Ag) (fresh:Am) (e:E)
 |asgT (ts:Ac Ag) (e:E)
 |expr (e:E)
 |ret (e:E)|retN
 |ife (c:E) (a b:Ss)
 |fors (t:Ag) (it:I) (body:Ss)
 |forT (ts:Ac Ag) (it:I) (body:Ss)
 |forO (i:Ag) (ts:Ac Ag) (body:Ss)
 |whl (c:E) (body:Ss)
 |rais (c:Ag) (as:Es)
 |tryx (body:Ss) (c:Ag) (x:Ag) (h:Ss)
 |try2 (body:Ss) (c:Ag) (x:Ag) (h:Ss) (c':Ag) (h' els:Ss)
 |app (i:Ag) (e:E)|ext (i:Ag) (e:E)|ins (i:Ag) (k e:E)|rev (i:Ag)|clr (i:Ag)
 |dput (i:Ag) (k e:E)|dsd (i:Ag) (k e:E)
 |put (i:Ag) (k e:E)
 |swp (i k l:Ag)
 |apop (j i:Ag) (e:E)
 |brk|cont
 |rel (i:Ag)
inductive Ss where
 |nil|cons (s:S) (ss:Ss)
end
inductive O where
 |next (U:Rho)|ret (d:D) (fr:Am)|brk (U:Rho)|cont (U:Rho)|exn (x:Ex) (U:Rho)|bad
 deriving Inhabited
noncomputable def O.of{α:Type}(U:Rho)(r:R α)(f:α->O):O:=match r with
  |.ok a=>f a
  |.exn x=>.exn x U
  |.bad=>.bad
@[simp]theorem O.of_ok(U:Rho)(a:α)(f:α->O):O.of U (.ok a) f=f a:=rfl
@[simp]theorem O.of_exn(U:Rho)(x:Ex)(f:α->O):O.of U (.exn x:R α) f=.exn x U:=rfl
@[simp]theorem O.of_bad(U:Rho)(f:α->O):O.of U (.bad:R α) f=.bad:=rfl
noncomputable def KQ(Z:Z4)(U:Rho)(i:I):R (Ac D):=wn Z U i
noncomputable def FV(U:Rho)(i:Ag):R (Ac D):=match U[i]? with
  |some (Aa (.L xs,Ab))=>.ok xs
  |_=>.bad
noncomputable def Xv(U:Rho)(i:Ag):R (Ac (Ac Ai×D)):=match U[i]? with
  |some (Aa (.dic xs,Ab))=>.ok xs
  |_=>.bad
noncomputable def WL(d:D):R (Ac Ai):=match Mv d with
  |some k=>.ok k
  |none=>.bad
noncomputable def xG:Ag:=4096
noncomputable def O.seq(o:O)(f:Rho->O):O:=match o with
  |.next U=>f U
  |.ret d b=>.ret d b
  |.brk U=>.brk U
  |.cont U=>.cont U
  |.exn x U=>.exn x U
  |.bad=>.bad
noncomputable def O.turn(o:O)(f:Rho->O):O:=match o with
  |.next U=>f U
  |.cont U=>f U
  |.brk U=>.next U
  |.ret d b=>.ret d b
  |.exn x U=>.exn x U
  |.bad=>.bad
noncomputable def Ev(body:D->Rho->O):Ac D->Rho->O
 |[],U=>.next U
 |x::xs,U=>(body x U).turn (Ev body xs)
noncomputable def WQ(c:Rho->R Am)(body:Rho->O):Ag->Rho->O
 |0,_=>.bad
 |n+1,U=>O.of U (c U) λb=>if b=Ab then (body U).turn (WQ c body n) else .next U
noncomputable def WC(U:Rho)(k:Ag):R Ai:=(Gc U k).bind FQ
noncomputable def ai(U:Rho)(d:D)(i k l:Ag):O:=match d with
  |.H [x,y]=>O.of U (FV U i) λxs=>O.of U (WC U k) λa=>O.of U (WC U l) λb=>match pj xs.length a,pj xs.length b with
    |some m,Aa n=>.next (U.set i (Aa (.L ((xs.set m x).set n y),Ab)))
    |_,_=>.bad
  |_=>.bad
noncomputable def apD(U:Rho)(j i:Ag)(ys xs:Ac D)(n:Ai):O:=match pj xs.length n with
  | some m=>(match xs[m]? with
    |some d=>if (j != i&&(CY xs.length&&CY (ys.length+1)))=Ab then .next ((U.set i (Aa (.L (xs.eraseIdx m),Ab))).set j (Aa (.L (ys++[d]),Ab))) else .bad
    | none=>.bad)
  |none=>.bad
noncomputable def ug(i:Ag)(y:Ex)(U':Rho)(fh:Rho->O):O:=match fh (U'.set i (Aa (.exc y.c y.fs,Ae))) with
  |.next vd=>.next (vd.set i Af)
  |.ret d f=>.ret d f
  |_=>.bad
noncomputable def RZ(U:Rho)(i:Ag):D->O
 |.L xs=>.next (U.set i (Aa (.L xs,Ae)))
 |_=>.bad
noncomputable def Xu(U:Rho)(i:Ag):Am:=match U[i]? with
  |some (Aa (.O,Ab))=>Ab
  |_=>Ae
noncomputable def uD(i:Ag)(xs:Ac D):O->O
 |.next U=>if Xu U i=Ab then .next (U.set i (Aa (.L xs,Ab))) else .bad
 |.ret d fr=>.ret d fr
 |_=>.bad
mutual
noncomputable def yt(Z:Z4)(U:Rho):S->O
  |.pass=>.next U
  | .asg i fresh e=>O.of U (evE Z U e) λd=>if fresh=Ab then (if Fv Z e=Ab then (match d with
      |.L xs=>.next (U.set i (Aa (.L xs,Ab)))
      |.dic xs=>.next (U.set i (Aa (.dic xs,Ab)))
      | _=>.bad) else .bad) else .next (U.set i (Aa (d,Ae)))
  |.asgT ts e=>O.of U (evE Z U e) λd=>O.of U (Ml ts d U) λU'=>.next U'
  |.expr e=>O.of U (evE Z U e) λ_=>.next U
  |.ret e=>O.of U (top U e (evE Z U e)) λd=>.ret d (Fv Z e||(match e with | .v i=>(match U[i]? with|some (Aa (_,o))=>o|_=>Ae)|_=>Ae))
  |.retN=>.ret .O Ae
  |.ife c a b=>O.of U ((top U c (evE Z U c)).bind Bq) λk=>if k=Ab then U7 Z U a else U7 Z U b
  |.fors t it body=>O.of U (KQ Z U it) λxs=>Ev (λx U'=>U7 Z (U'.set t (Aa (x,Ae))) body) xs U
  |.forT ts it body=>O.of U (KQ Z U it) λxs=>Ev (λx U'=>O.of U' (HI ts x U') λvd=>U7 Z vd body) xs U
  |.forO i ts body=>O.of U (FV U i) λxs=>uD i xs (Ev (λx U'=>if Xu U' i=Ab then O.of U' (HI ts x U') λvd=>U7 Z vd body else .bad) (Pd 0 xs) (U.set i (Aa (.O,Ab))))
  |.whl c body=>WQ (λU'=>(top U' c (evE Z U' c)).bind Bq) (λU'=>U7 Z U' body) xG U
  |.rais c as=>O.of U (zg (xz Z U as)) λxs=>O.of U (Z.xn c xs) λx=>.exn x U
  |.tryx body c x h=>match U7 Z U body with
      | .exn y U'=>if (Z.up y.c).contains c=Ab then (match U7 Z (U'.set x (Aa (.exc y.c y.fs,Ae))) h with
          |.next vd=>.next (vd.set x Af)
          |.ret d f=>.ret d f
          | _=>.bad) else .bad
      |o=>o
  |.try2 body c x h c' h' els=>match U7 Z U body with
      |.exn y U'=>if (Z.up y.c).contains c=Ab then ug x y U' (λr=>U7 Z r h) else if (Z.up y.c).contains c'=Ab then ug x y U' (λr=>U7 Z r h') else .bad
      |.next U'=>U7 Z U' els
      |o=>o
  |.app i e=>O.of U (FV U i) λxs=>O.of U (evE Z U e) λd=>if CY (xs.length+1)=Ab then .next (U.set i (Aa (.L (xs++[d]),Ab))) else .bad
  |.ext i e=>O.of U (FV U i) λxs=>O.of U (evE Z U e) λd=>O.of U (yH d) λys=>if CY (xs.length+ys.length)=Ab then .next (U.set i (Aa (.L (xs++ys),Ab))) else .bad
  |.ins i k e=>O.of U (FV U i) λxs=>O.of U ((top U k (evE Z U k)).bind FQ) λj=>O.of U (evE Z U e) λd=>if (CY (xs.length+1)&&decide (0<=j)&&decide (j<=xs.length))=Ab then .next (U.set i (Aa (.L (xs.take j.toNat++d::xs.drop j.toNat),Ab))) else .bad
  |.rev i=>O.of U (FV U i) λxs=>.next (U.set i (Aa (.L xs.reverse,Ab)))
  |.clr i=>O.of U (FV U i) λ_=>.next (U.set i (Aa (.L [],Ab)))
  |.dput i k e=>O.of U (evE Z U e) λd=>O.of U (Xv U i) λxs=>O.of U ((evE Z U k).bind WL) λj=>if CY (xs.length+1)=Ab then .next (U.set i (Aa (.dic (VC xs j d),Ab))) else .bad
  |.dsd i k e=>O.of U (Xv U i) λxs=>O.of U ((evE Z U k).bind WL) λj=>O.of U (evE Z U e) λd=>if CY (xs.length+1)=Ab then .next (U.set i (Aa (.dic (if (xs.any λp=>p.1==j)=Ab then xs else VC xs j d),Ab))) else .bad
  |.put i k e=>O.of U (evE Z U e) λd=>O.of U (FV U i) λxs=>O.of U ((top U k (evE Z U k)).bind FQ) λj=>match pj xs.length j with
      |some n=>.next (U.set i (Aa (.L (xs.set n d),Ab)))
      |none=>.bad
  |.swp i k l=>O.of U (evE Z U (.H (.cons (.x (.v i) (.v l)) (.cons (.x (.v i) (.v k)) .nil)))) λd=>ai U d i k l
  |.apop j i e=>O.of U (FV U j) λys=>O.of U (FV U i) λxs=>O.of U (evE Z U e) λd=>O.of U (FQ d) λn=>apD U j i ys xs n
  |.brk=>.brk U
  |.cont=>.cont U
  |.rel i=>match U[i]? with
      |some (Aa (d,Ab))=>RZ U i d
      |_=>.next U
noncomputable def U7(Z:Z4)(U:Rho):Ss->O
 |.nil=>.next U
 |.cons s ss=>(yt Z U s).seq λU'=>U7 Z U' ss
end
structure Df where
 n:Ag
 fr:Am
 body:Ss
noncomputable def Bu(n:Ag)(ds:Ac D):Rho:=ds.map (λd=>Aa (d,Ae))++EE (n-ds.length) Af
noncomputable def kj:D->Am
 |.L _=>Ab
 |.dic _=>Ab
 |_=>Ae
noncomputable def O.ans(fr:Am)(o:O):R D:=match o with
  |.ret d b=>if (fr&&(!b&&kj d))=Ab then .bad else .ok d
  |.next _=>if fr=Ab then .bad else .ok .O
  |.exn x _=>.exn x
  |_=>.bad
noncomputable def Df.run(Z:Z4)(f:Df)(ds:Ac D):R D:=(U7 Z (Bu f.n ds) f.body).ans f.fr
structure Prg where
 xs:Am
 defs:Ag->Df
 G:Ag->D
 up:Ag->Ac Ag
 xn:Ag->Ac D->R Ex
noncomputable def Ew(xs:Am)(r:R D):R D:=match xs with
  |true=>r
  |false=>zg r
noncomputable def Z6(P:Prg):Ag->Z4
 |0=>⟨λ_ _=>.bad,P.G,P.up,λi=>(P.defs i).fr,P.xn⟩
 |n+1=>⟨λi ds=>Ew P.xs ((P.defs i).run (Z6 P n) ds),P.G,P.up,λi=>(P.defs i).fr,P.xn⟩
end Ov
end
section
namespace Ov
open PySem
variable{α:Type}{lo hi:Ai}
section
variable(Z:Z4)(U:Rho)
instance:Insert E Es:=⟨.cons⟩
instance:Singleton E Es:=⟨λe=>.cons e .nil⟩
instance:Insert S Ss:=⟨.cons⟩
instance:Singleton S Ss:=⟨λe=>.cons e .nil⟩
@[simp]theorem ZzU(a:E)(l:Es):(insert a l:Es)=.cons a l:=rfl
@[simp]theorem ZzB(a:E):({a}:Es)=.cons a .nil:=rfl
@[simp]theorem ZzT(a:S)(l:Ss):(insert a l:Ss)=.cons a l:=rfl
@[simp]theorem ZzA(a:S):({a}:Ss)=.cons a .nil:=rfl
@[simp]theorem Zxk:evE Z U .O=.ok .O:=rfl
@[simp]theorem VB(b):evE Z U (.bl b)=.ok (.bl b):=rfl
@[simp]theorem U_0(b):evE Z U (.int b)=.ok (.int b):=rfl
@[simp]theorem UZ(b):evE Z U (.str b)=.ok (.str b):=rfl
@[simp]theorem Zxi(i):evE Z U (.v i)=Gc U i:=rfl
@[simp]theorem Zuc(i):evE Z U (.glob i)=.ok (Z.G i):=rfl
@[simp]theorem U_1(op a b):evE Z U (.B op a b)=(top U a (evE Z U a)).bind λx=>(top U b (evE Z U b)).bind λy=>Dc op x y:=rfl
@[simp]theorem Zy5(op a):evE Z U (.un op a)=(top U a (evE Z U a)).bind λx=>ß op x:=rfl
@[simp]theorem Zy8(a):evE Z U (.no a)=(top U a (evE Z U a)).bind λx=>(Di x).bind λb=>.ok (.bl (!b)):=rfl
@[simp]theorem Zxo(es):evE Z U (.and es)=evN Z U es:=rfl
@[simp]theorem Zy7(es):evE Z U (.or es)=evO Z U es:=rfl
@[simp]theorem Zxe(e):evN Z U (.cons e .nil)=evE Z U e:=rfl
@[simp]theorem Uu(e e' es):evN Z U (.cons e (.cons e' es))=(evE Z U e).bind λx=>(Di x).bind λc=>if c=Ab then evN Z U (.cons e' es) else .ok (.bl Ae):=rfl
@[simp]theorem Zxd(e):evO Z U (.cons e .nil)=evE Z U e:=rfl
@[simp]theorem Zt4(e e' es):evO Z U (.cons e (.cons e' es))=(evE Z U e).bind λx=>(Di x).bind λc=>if c=Ab then .ok (.bl Ab) else evO Z U (.cons e' es):=rfl
@[simp]theorem KA(op a b):evE Z U (.cmp op a b)=(top U a (evE Z U a)).bind λx=>(top U b (evE Z U b)).bind λy=>BP op x y:=rfl
@[simp]theorem Zue(op op' a b c):evE Z U (.cmp2 op op' a b c)=(top U a (evE Z U a)).bind λx=>(top U b (evE Z U b)).bind λy=>(BP op x y).bind λz=>(Di z).bind λk=>if k=Ab then (top U c (evE Z U c)).bind λu=>BP op' y u else .ok (.bl Ae):=rfl
@[simp]theorem hU(f as):evE Z U (.call f as)=(xj Z U as).bind λxs=>(Z.F f xs).bind λd=>if JI U as=Ab then .ok d else if JL (Z.fr f) d=Ab then .ok d else .bad:=rfl
@[simp]theorem L8(f as):evE Z U (.bi f as)=(xj Z U as).bind λxs=>zw f xs:=rfl
@[simp]theorem Zxn(a ks):evE Z U (.isi a ks)=(top U a (evE Z U a)).bind λx=>Eg Z.up ks x:=rfl
@[simp]theorem N5(a i):evE Z U (.x a i)=(top U a (evE Z U a)).bind λx=>(top U i (evE Z U i)).bind λy=>G7 x y:=rfl
@[simp]theorem Zy6(a lo hi):evE Z U (.sl a lo hi)=(top U a (evE Z U a)).bind λx=>(top U lo (evE Z U lo)).bind λl=>(slE lo l).bind λl'=>(top U hi (evE Z U hi)).bind λh=>(slE hi h).bind λh'=>i6 x l' h':=rfl
@[simp]theorem nM(es):evE Z U (.H es)=(xz Z U es).bind λxs=>.ok (.H xs):=rfl
@[simp]theorem nN(es):evE Z U (.L es)=(xz Z U es).bind λxs=>.ok (.L xs):=rfl
noncomputable def cG(Z:Z4)(U:Rho)(t:Ag)(c:E):D->R Am:=λx=>(top (U.set t (Aa (x,Ae))) c (evE Z (U.set t (Aa (x,Ae))) c)).bind Bq
noncomputable def cF(Z:Z4)(U:Rho)(t:Ag)(elt:E):D->R D:=λx=>evE Z (U.set t (Aa (x,Ae))) elt
noncomputable def mkL(r:R (Ac D)):R D:=(zg r).bind λys=>.ok (.L ys)
@[simp]theorem ZyC(ys):mkL (.ok ys)=.ok (.L ys):=rfl
@[simp]theorem Zud(elt t it c):evE Z U (.comp elt t it c)=(wn Z U it).bind λxs=>mkL (Cq (cG Z U t c) (cF Z U t elt) xs):=rfl
noncomputable def cGT(Z:Z4)(U:Rho)(ts:Ac Ag)(c:E):D->R Am:=λx=>(HI ts x U).bind λU'=>(top U' c (evE Z U' c)).bind Bq
noncomputable def cFT(Z:Z4)(U:Rho)(ts:Ac Ag)(elt:E):D->R D:=λx=>(HI ts x U).bind λU'=>evE Z U' elt
@[simp]theorem ZsF(elt ts it c):evE Z U (.compT elt ts it c)=(wn Z U it).bind λxs=>mkL (Cq (cGT Z U ts c) (cFT Z U ts elt) xs):=rfl
@[simp]theorem Zt9(it):evE Z U (.tupI it)=(wn Z U it).bind λxs=>.ok (.H xs):=rfl
@[simp]theorem Zxj(o f):evE Z U (.ofl o f)=(top U o (evE Z U o)).bind λx=>bv x f:=rfl
@[simp]theorem Zxm(a k):evE Z U (.iso a k)=(top U a (evE Z U a)).bind λx=>R7 k x:=rfl
@[simp]theorem Zub(m ms o):evE Z U (.meth m ms o)=(top U o (evE Z U o)).bind λx=>Np Z.F m ms x:=rfl
@[simp]theorem Zua(c e):evE Z U (.mkob c e)=(zg (evE Z U e)).bind λx=>EI c x:=rfl
@[simp]theorem Zxl(c as):evE Z U (.mkn c as)=(zg (xz Z U as)).bind λxs=>Z.F (900+c) xs:=rfl
@[simp]theorem nP:xz Z U .nil=.ok []:=rfl
@[simp]theorem MU(e es):xz Z U (.cons e es)=(evE Z U e).bind λx=>(xz Z U es).bind λxs=>.ok (x::xs):=rfl
@[simp]theorem nO:xj Z U .nil=.ok []:=rfl
@[simp]theorem L6(e es):xj Z U (.cons e es)=(top U e (evE Z U e)).bind λx=>(xj Z U es).bind λxs=>.ok (x::xs):=rfl
@[simp]theorem Zz3(a):wn Z U (.e a)=(evE Z U a).bind Eu:=rfl
@[simp]theorem Zxg(a):wn Z U (.rng a)=(top U a (evE Z U a)).bind λx=>(FQ x).bind λj=>EY 0 j:=rfl
@[simp]theorem Zt8(a b):wn Z U (.rng2 a b)=(top U a (evE Z U a)).bind λx=>(top U b (evE Z U b)).bind λy=>(FQ x).bind λi=>(FQ y).bind λj=>EY i j:=rfl
@[simp]theorem Zxf(a b):wn Z U (.zip a b)=(evE Z U a).bind λx=>(evE Z U b).bind λy=>(Eu x).bind λxs=>(Eu y).bind λys=>.ok (RV xs ys):=rfl
@[simp]theorem Zt7(a b c):wn Z U (.zip3 a b c)=(evE Z U a).bind λx=>(evE Z U b).bind λy=>(evE Z U c).bind λz=>Wj x y z:=rfl
@[simp]theorem Zxh(a):wn Z U (.enm a)=(evE Z U a).bind λx=>(Eu x).bind λxs=>.ok (Pd 0 xs):=rfl
@[simp]theorem Zt6(a):KQ Z U (.enm a)=wn Z U (.enm a):=rfl
@[simp]theorem Zy4(a):KQ Z U (.e a)=(evE Z U a).bind Eu:=rfl
@[simp]theorem Zt5(a):KQ Z U (.rng a)=wn Z U (.rng a):=rfl
@[simp]theorem ZsE(a b):KQ Z U (.rng2 a b)=wn Z U (.rng2 a b):=rfl
variable(r:R D)
@[simp]theorem Ip(i):top U (.v i) r=CS U i:=rfl
@[simp]theorem ZuK:top U .O r=r:=rfl
@[simp]theorem Vw(b):top U (.bl b) r=r:=rfl
@[simp]theorem Ul(b):top U (.int b) r=r:=rfl
@[simp]theorem Uk(b):top U (.str b) r=r:=rfl
@[simp]theorem ZtA(b):top U (.glob b) r=r:=rfl
@[simp]theorem jS(op a b):top U (.B op a b) r=r:=rfl
@[simp]theorem Zx3(op a):top U (.un op a) r=r:=rfl
@[simp]theorem Zx6(a):top U (.no a) r=r:=rfl
@[simp]theorem ZuQ(a):top U (.and a) r=r:=rfl
@[simp]theorem Zx5(a):top U (.or a) r=r:=rfl
@[simp]theorem N7(op a b):top U (.cmp op a b) r=r:=rfl
@[simp]theorem T6(a b):top U (.call a b) r=r:=rfl
@[simp]theorem Od(a b):top U (.bi a b) r=r:=rfl
@[simp]theorem ZuO(a b):top U (.isi a b) r=r:=rfl
@[simp]theorem ZuP(a b):top U (.x a b) r=r:=rfl
@[simp]theorem Zx4(a b c):top U (.sl a b c) r=r:=rfl
@[simp]theorem ZuI(a):top U (.H a) r=r:=rfl
@[simp]theorem ZuM(a):top U (.L a) r=r:=rfl
@[simp]theorem ZtB(a b c d):top U (.comp a b c d) r=r:=rfl
@[simp]theorem ZuJ(a b):top U (.ofl a b) r=r:=rfl
@[simp]theorem ZuN(a b):top U (.iso a b) r=r:=rfl
@[simp]theorem Ztz(a b c):top U (.meth a b c) r=r:=rfl
@[simp]theorem Zty(a b):top U (.mkob a b) r=r:=rfl
@[simp]theorem ZuL(a b):top U (.mkn a b) r=r:=rfl
@[simp]theorem ZqA(a b c d):top U (.compT a b c d) r=r:=rfl
@[simp]theorem Ztx(a):top U (.tupI a) r=r:=rfl
end
@[simp]theorem Zqr(d:D)(U:Rho):CS (Aa (d,Ae)::U) 0=.ok d:=rfl
@[simp]theorem Zp4(xs:Ac D)(U:Rho):CS (Aa (.L xs,Ab)::U) 0=.ok (.L xs):=rfl
@[simp]theorem Zqs(x:D)(U:Rho):Gc (Aa (x,Ae)::U) 0=.ok x:=rfl
@[simp]theorem Zp5(x:Sl)(U:Rho)(i:Ag)[NeZero i]:CS (x::U) i=CS U (i-1):=by
 obtain⟨j,rfl⟩:∃ j,i=j+1:=⟨i-1,by have:=Mw i;omega⟩
 rfl
@[simp]theorem Zp6(x:Sl)(U:Rho)(i:Ag)[NeZero i]:Gc (x::U) i=Gc U (i-1):=by
 obtain⟨j,rfl⟩:∃ j,i=j+1:=⟨i-1,by have:=Mw i;omega⟩
 rfl
noncomputable def ni(U:Rho)(i:Ag):Am:=match U[i]? with
    |some (Aa (_,Ab))=>Ae
    |_=>Ab
@[simp]theorem ZtF(x:D)(b:Am)(U:Rho):ni (Aa (x,b)::U) 0=!b:=by cases b<;>rfl
@[simp]theorem Zq0(x:Sl)(U:Rho)(i:Ag)[NeZero i]:ni (x::U) i=ni U (i-1):=by
 obtain⟨j,rfl⟩:∃ j,i=j+1:=⟨i-1,by have:=Mw i;omega⟩
 rfl
section
variable(U:Rho)
@[simp]theorem Zvb(i):vn U (.v i)=ni U i:=rfl
@[simp]theorem Zve(b):vn U (.int b)=Ab:=rfl
@[simp]theorem Zvg(op a b):vn U (.B op a b)=Ab:=rfl
@[simp]theorem ZtJ(a b):vn U (.call a b)=Ab:=rfl
@[simp]theorem Zyf(a b):vn U (.bi a b)=Ab:=rfl
@[simp]theorem Zvf(a b):vn U (.x a b)=Ab:=rfl
@[simp]theorem Zvc(a):vn U (.H a)=Ab:=rfl
@[simp]theorem ZtI(a b c d):vn U (.comp a b c d)=Ab:=rfl
@[simp]theorem Zq1(a b c d):vn U (.compT a b c d)=Ab:=rfl
@[simp]theorem Zvd(a b):vn U (.ofl a b)=Ab:=rfl
@[simp]theorem ZtH(a b c):vn U (.meth a b c)=Ab:=rfl
@[simp]theorem ZtG:JI U .nil=Ab:=rfl
@[simp]theorem dB(e es):JI U (.cons e es)=(vn U e&&JI U es):=rfl
end
@[simp]theorem Zqa(U:Rho):Hj [] [] U=Aa U:=rfl
@[simp]theorem ZnE(t ts d ds)(U:Rho):Hj (t::ts) (d::ds) U=Hj ts ds (U.set t (Aa (d,Ae))):=rfl
@[simp]theorem dD(ts ds)(U:Rho):Ml ts (.L ds) U=match Hj ts ds U with
  |some U'=>.ok U'
  |none=>.bad:=rfl
@[simp]theorem bY(ts ds)(U:Rho):HI ts (.H ds) U=match Hj ts ds U with
  |some U'=>.ok U'
  |none=>.bad:=rfl
@[simp]theorem Zum{β:Type}(c:Prop)[IA c](a b:R α)(f:α->R β):(if c then a else b).bind f=if c then a.bind f else b.bind f:=by split<;>rfl
@[simp]theorem Zyw(U:Rho)(c:Prop)[IA c](a b:R α)(f:α->O):O.of U (if c then a else b) f=if c then O.of U a f else O.of U b f:=by split<;>rfl
@[simp]theorem Zwr{β:Type}(U:Rho)(a:R α)(g:α->R β)(f:β->O):O.of U (a.bind g) f=O.of U a λx=>O.of U (g x) f:=by cases a<;>rfl
@[simp]theorem ZxL(fr:Am)(c:Prop)[IA c](a b:O):O.ans fr (if c then a else b)=if c then a.ans fr else b.ans fr:=by split<;>rfl
@[simp]theorem Zqw(U f):O.turn (.next U) f=f U:=rfl
@[simp]theorem Zuq(U):O.ans Ae (.next U)=.ok .O:=rfl
@[simp]theorem ZxK(d b):O.ans Ae (.ret d b)=.ok d:=rfl
@[simp]theorem Zup(d b):O.ans Ab (.ret d b)=if (!b&&kj d)=Ab then .bad else .ok d:=rfl
@[simp]theorem ZwO(d):kj (.L d)=Ab:=rfl
@[simp]theorem ZxM(fr x U):O.ans fr (.exn x U)=.exn x:=rfl
@[simp]theorem ZxN(fr):O.ans fr .bad=.bad:=rfl
@[simp]theorem Zze(i j:Ai):Dc .Add (.int i) (.int j)=.ok (.int (i+j)):=rfl
@[simp]theorem Zya(i j:Ai):Dc .Sub (.int i) (.int j)=.ok (.int (i-j)):=rfl
@[simp]theorem qL(i j:Ai):Dc .Mult (.int i) (.int j)=if (Fq i j||ON i j)=Ab then .ok (.int (i*j)) else .bad:=rfl
@[simp]theorem nK(i j:Ai):Dc .FloorDiv (.int i) (.int j)=if 0<j/\j<1073741824 then .ok (.int (i/j)) else .bad:=rfl
@[simp]theorem qM(i j:Ai):Dc .Mod (.int i) (.int j)=if 0<j then .ok (.int (i%j)) else .bad:=rfl
@[simp]theorem rM(i j:Ai):Dc .Pow (.int i) (.int j)=if (0<=j/\j<=1000000)/\(-(18446744073709551616:Ai)<i/\i<18446744073709551616) then .ok (.int (i ^ j.toNat)) else .bad:=rfl
@[simp]theorem Lc(x y:Ah):Dc .Add (.str x) (.str y)=if CY (x.length+y.length)=Ab then .ok (.str (x++y)) else .bad:=rfl
@[simp]theorem VN(x y:Ac D):Dc .Add (.L x) (.L y)=if CY (x.length+y.length)=Ab then .ok (.L (x++y)) else .bad:=rfl
@[simp]theorem VM(x y:Ac D):Dc .Add (.H x) (.H y)=if (!x.isEmpty&&CY (x.length+y.length))=Ab then .ok (.H (x++y)) else .bad:=rfl
@[simp]theorem ZzK(i:Ai):ß .USub (.int i)=.ok (.int (-i)):=rfl
@[simp]theorem yP(x y:D):BP .Eq x y=if (Y8 5 x&&Y8 5 y)=Ab then .ok (.bl (Tm x y)) else .bad:=rfl
@[simp]theorem xX(x y:D):BP .NotEq x y=if (Y8 5 x&&Y8 5 y)=Ab then .ok (.bl (!Tm x y)) else .bad:=rfl
@[simp]theorem ZzL(i j:Ai):BP .Lt (.int i) (.int j)=.ok (.bl (decide (i<j))):=rfl
@[simp]theorem ZzO(i j:Ai):BP .LtE (.int i) (.int j)=.ok (.bl (decide (i<=j))):=rfl
@[simp]theorem ZzY(i j:Ai):BP .Gt (.int i) (.int j)=.ok (.bl (decide (j<i))):=rfl
@[simp]theorem ZzZ(i j:Ai):BP .GtE (.int i) (.int j)=.ok (.bl (decide (j<=i))):=rfl
@[simp]theorem zR(x:D)(ys:Ac D):BP .In x (.L ys)=if (Y8 5 x&&ys.all (Y8 5))=Ab then .ok (.bl (ys.any λy=>Tm y x)) else .bad:=rfl
@[simp]theorem zQ(x:D)(ys:Ac D):BP .In x (.H ys)=if (Y8 5 x&&ys.all (Y8 5))=Ab then .ok (.bl (ys.any λy=>Tm y x)) else .bad:=rfl
@[simp]theorem xW(x:D)(ys:Ac D):BP .NotIn x (.L ys)=if (Y8 5 x&&ys.all (Y8 5))=Ab then .ok (.bl (!ys.any λy=>Tm y x)) else .bad:=rfl
@[simp]theorem xV(x:D)(ys:Ac D):BP .NotIn x (.H ys)=if (Y8 5 x&&ys.all (Y8 5))=Ab then .ok (.bl (!ys.any λy=>Tm y x)) else .bad:=rfl
@[simp]theorem ZyO:BP .Is .O .O=.ok (.bl Ab):=rfl
@[simp]theorem ZyN(i):BP .Is (.H i) .O=.ok (.bl Ae):=rfl
@[simp]theorem ZwG:BP .IsNot .O .O=.ok (.bl Ae):=rfl
@[simp]theorem ZwF(i):BP .IsNot (.H i) .O=.ok (.bl Ab):=rfl
@[simp]theorem Zxu(i j:Ai):Tm (.int i) (.int j)=(i==j):=rfl
@[simp]theorem Zy9(i j:Am):Tm (.bl i) (.bl j)=(i==j):=rfl
@[simp]theorem Zxs(i j:Ah):Tm (.str i) (.str j)=(i==j):=rfl
@[simp]theorem Zxr(i j:Ac D):Tm (.H i) (.H j)=LT i j:=rfl
@[simp]theorem Zxt(i j:Ac D):Tm (.L i) (.L j)=LT i j:=rfl
@[simp]theorem Zpn(i):Tm (.int i) .O=Ae:=rfl
@[simp]theorem Zuf:LT [] []=Ab:=rfl
@[simp]theorem P0(x y:D)(xs ys:Ac D):LT (x::xs) (y::ys)=(Tm x y&&LT xs ys):=rfl
@[simp]theorem Zw4(n)(i:Ai):Y8 n (.int i)=Ab:=by cases n<;>rfl
@[simp]theorem Zy2(n)(i:Am):Y8 n (.bl i)=Ab:=by cases n<;>rfl
@[simp]theorem Zw2(n)(i:Ah):Y8 n (.str i)=Ab:=by cases n<;>rfl
@[simp]theorem Zw3(n):Y8 n .O=Ab:=by cases n<;>rfl
@[simp]theorem ZtV(i):Y8 5 (.H i)=i.all (Y8 4):=rfl
@[simp]theorem ZtX(i):Y8 5 (.L i)=i.all (Y8 4):=rfl
@[simp]theorem ZtW(i):Y8 4 (.H i)=i.all (Y8 3):=rfl
@[simp]theorem ZuG(b):Bq (.bl b)=.ok b:=rfl
@[simp]theorem ZuH(b):Iu (.bl b)=.ok b:=rfl
@[simp]theorem Ztn:G2 []=.ok Ab:=rfl
@[simp]theorem SM(x r):G2 (x::r)=(Iu x).bind λb=>(G2 r).bind λc=>.ok (b&&c):=rfl
@[simp]theorem Zws(a:α):zg (.ok a)=.ok a:=rfl
@[simp]theorem ZxH(b):Di (.bl b)=.ok b:=rfl
@[simp]theorem Ztl(b):FQ (.int b)=.ok b:=rfl
@[simp]theorem Ztj(b):Eu (.L b)=.ok b:=rfl
@[simp]theorem Zti(b):Eu (.H b)=.ok b:=rfl
@[simp]theorem xB(xs i):G7 (.L xs) (.int i)=DU xs i:=rfl
@[simp]theorem xA(xs i):G7 (.H xs) (.int i)=DU xs i:=rfl
@[simp]theorem ZzN(xs):zw .len [.L xs]=.ok (.int xs.length):=rfl
@[simp]theorem ZzM(xs):zw .len [.H xs]=.ok (.int xs.length):=rfl
@[simp]theorem ZyF(i j):zw .max [.int i,.int j]=.ok (.int (if i<j then j else i)):=rfl
@[simp]theorem ZyE(i j):zw .min [.int i,.int j]=.ok (.int (if j<i then j else i)):=rfl
@[simp]theorem ZyJ(i):zw .list [.L i]=.ok (.L i):=rfl
@[simp]theorem ZyI(i):zw .list [.H i]=.ok (.L i):=rfl
@[simp]theorem ZuF(i):zw .tuple [.L i]=.ok (.H i):=rfl
@[simp]theorem yK(i):zw .all [.L i]=(G2 i).bind λb=>.ok (.bl b):=rfl
@[simp]theorem Zz8(i):zw .any [.L i]=(OO i).bind λb=>.ok (.bl b):=rfl
@[simp]theorem Zzy(i):zw .sum [.L i]=(O2 0 i).bind λb=>.ok (.int b):=rfl
@[simp]theorem ZtE(i):zw .sorted [.L i]=(UT i).bind λb=>.ok (.L b):=rfl
@[simp]theorem Zzl(x y):zw .tlt [x,y]=WS x y:=rfl
@[simp]theorem zD(xs lo hi):i6 (.H xs) lo hi=if (Ja xs.length 0 lo==0&&Ja xs.length xs.length hi==xs.length)=Ab then .bad else .ok (.H (JK xs lo hi)):=rfl
@[simp]theorem ZAi(xs lo hi):i6 (.L xs) lo hi=.ok (.L (JK xs lo hi)):=rfl
@[simp]theorem Zu9(d):slE .O d=.ok Af:=rfl
@[simp]theorem Zva(k i):slE (.int k) (.int i)=.ok (Aa i):=rfl
@[simp]theorem ZwJ(up ks):Eg up ks .O=if ks.any E7=Ab then .bad else .ok (.bl (ks.any λk=>xw up k .O)):=rfl
@[simp]theorem ZyL(up ks b):Eg up ks (.bl b)=if ks.any E7=Ab then .bad else .ok (.bl (ks.any λk=>xw up k (.bl b))):=rfl
@[simp]theorem ZwL(up ks b):Eg up ks (.int b)=if ks.any E7=Ab then .bad else .ok (.bl (ks.any λk=>xw up k (.int b))):=rfl
@[simp]theorem ZwI(up ks b):Eg up ks (.str b)=if ks.any E7=Ab then .bad else .ok (.bl (ks.any λk=>xw up k (.str b))):=rfl
@[simp]theorem ZwH(up ks b):Eg up ks (.H b)=if ks.any E7=Ab then .bad else .ok (.bl (ks.any λk=>xw up k (.H b))):=rfl
@[simp]theorem ZwK(up ks b):Eg up ks (.L b)=if ks.any E7=Ab then .bad else .ok (.bl (ks.any λk=>xw up k (.L b))):=rfl
@[simp]theorem ZwM(up ks c f):Eg up ks (.exc c f)=if ks.all E7=Ab then .ok (.bl (ks.any λk=>xw up k (.exc c f))) else .bad:=rfl
@[simp]theorem Zui:E7 .int=Ae:=rfl
@[simp]theorem ZsX:E7 .bool=Ae:=rfl
@[simp]theorem Zuh:E7 .str=Ae:=rfl
@[simp]theorem ZsW:E7 .list=Ae:=rfl
@[simp]theorem Zqi:E7 .tuple=Ae:=rfl
@[simp]theorem Zqf(up i):xw up .int (.int i)=Ab:=rfl
@[simp]theorem Zqe(up):xw up .int .O=Ae:=rfl
@[simp]theorem ZoX(up i):xw up .bool (.int i)=Ae:=rfl
@[simp]theorem Zqd(up i):xw up .int (.H i)=Ae:=rfl
@[simp]theorem Zqg(up i):xw up .bool (.bl i)=Ab:=rfl
@[simp]theorem ZoW(up):xw up .bool .O=Ae:=rfl
@[simp]theorem ZoV(up i):xw up .list (.L i)=Ab:=rfl
@[simp]theorem Zmv(up i):xw up .tuple (.H i)=Ab:=rfl
@[simp]theorem Zmw(up):xw up .tuple .O=Ae:=rfl
theorem Ur{xs:Ac D}{i:Ai}{d:D}(h0:0<=i)(h:xs[i.toNat]?=Aa d):DU xs i=.ok d:=by
 unfold DU pj;obtain⟨h1,_⟩:=A5.mp h;rw[Au h0,Au (by omega)]
 dsimp only;rw[h]
section
variable(Z:Z4)(U:Rho)
@[simp]theorem ZtY:U7 Z U .nil=.next U:=rfl
noncomputable def Iz(Z:Z4)(ss:Ss)(o:O):O:=o.seq λU'=>U7 Z U' ss
@[simp]theorem dH(s ss):U7 Z U (.cons s ss)=Iz Z ss (yt Z U s):=rfl
@[simp]theorem ZwY(ss):Iz Z ss (.next U)=U7 Z U ss:=rfl
@[simp]theorem ZyT(ss d b):Iz Z ss (.ret d b)=.ret d b:=rfl
@[simp]theorem ZyW(ss x):Iz Z ss (.exn x U)=.exn x U:=rfl
@[simp]theorem ZyX(ss):Iz Z ss .bad=.bad:=rfl
@[simp]theorem ZyV(ss)(c:Prop)[IA c](a b:O):Iz Z ss (if c then a else b)=if c then Iz Z ss a else Iz Z ss b:=by split<;>rfl
@[simp]theorem ZyU(o:O):Iz Z .nil o=o:=by cases o<;>rfl
noncomputable def EJ(Z:Z4)(t:Ag)(body:Ss):D->Rho->O:=λx U'=>U7 Z (U'.set t (Aa (x,Ae))) body
noncomputable def WZ(Z:Z4)(t:Ag)(body:Ss)(U:Rho)(r:R (Ac D)):O:=O.of U r λxs=>Ev (EJ Z t body) xs U
@[simp]theorem Zw0(t body xs):WZ Z t body U (.ok xs)=Ev (EJ Z t body) xs U:=rfl
@[simp]theorem Zxb(i e):yt Z U (.asg i Ae e)=O.of U (evE Z U e) λd=>.next (U.set i (Aa (d,Ae))):=rfl
@[simp]theorem Zt2(e):yt Z U (.expr e)=O.of U (evE Z U e) λ_=>.next U:=rfl
@[simp]theorem UY(e):yt Z U (.ret e)=O.of U (top U e (evE Z U e)) λd=>.ret d (Fv Z e||(match e with | .v i=>(match U[i]? with|some (Aa (_,o))=>o|_=>Ae)|_=>Ae)):=rfl
@[simp]theorem Zxa(c a b):yt Z U (.ife c a b)=O.of U ((top U c (evE Z U c)).bind Bq) λk=>if k=Ab then U7 Z U a else U7 Z U b:=rfl
@[simp]theorem Zt0(t it body):yt Z U (.fors t it body)=WZ Z t body U (KQ Z U it):=rfl
noncomputable def WG(Z:Z4)(ts:Ac Ag)(body:Ss):D->Rho->O:=λx U'=>O.of U' (HI ts x U') λvd=>U7 Z vd body
noncomputable def WF(Z:Z4)(ts:Ac Ag)(body:Ss)(U:Rho)(r:R (Ac D)):O:=O.of U r λxs=>Ev (WG Z ts body) xs U
@[simp]theorem ZtU(t body xs):WF Z t body U (.ok xs)=Ev (WG Z t body) xs U:=rfl
@[simp]theorem Zt1(t it body):yt Z U (.forT t it body)=WF Z t body U (KQ Z U it):=rfl
@[simp]theorem Zt3(ts e):yt Z U (.asgT ts e)=O.of U (evE Z U e) λd=>O.of U (Ml ts d U) λU'=>.next U':=rfl
theorem hR(i e):yt Z U (.asg i Ab e)=O.of U (evE Z U e) λd=>if Fv Z e=Ab then (match d with
      |.L xs=>.next (U.set i (Aa (.L xs,Ab)))
      |.dic xs=>.next (U.set i (Aa (.dic xs,Ab)))
      | _=>.bad) else .bad:=rfl
noncomputable def setF(U:Rho)(i:Ag):D->O
 |.L xs=>.next (U.set i (Aa (.L xs,Ab)))
 |.dic xs=>.next (U.set i (Aa (.dic xs,Ab)))
 |_=>.bad
@[simp]theorem Zyg(i xs):setF U i (.L xs)=.next (U.set i (Aa (.L xs,Ab))):=rfl
@[simp]theorem dI(i e):yt Z U (.asg i Ab e)=O.of U (evE Z U e) λd=>if Fv Z e=Ab then setF U i d else .bad:=by
 rw[hR]
 congr 1
@[simp]theorem Zxc(i e):yt Z U (.app i e)=O.of U (FV U i) λxs=>O.of U (evE Z U e) λd=>if CY (xs.length+1)=Ab then .next (U.set i (Aa (.L (xs++[d]),Ab))) else .bad:=rfl
@[simp]theorem ZtM(U:Rho)(i)(xs):RZ U i (.L xs)=.next (U.set i (Aa (.L xs,Ae))):=rfl
@[simp]theorem ZtZ(body c x h):yt Z U (.tryx body c x h)=match U7 Z U body with
      | .exn y U'=>if (Z.up y.c).contains c=Ab then (match U7 Z (U'.set x (Aa (.exc y.c y.fs,Ae))) h with
          |.next vd=>.next (vd.set x Af)
          |.ret d f=>.ret d f
          | _=>.bad) else .bad
      |o=>o:=rfl
@[simp]theorem Ut(c as):yt Z U (.rais c as)=O.of U (zg (xz Z U as)) λxs=>O.of U (Z.xn c xs) λx=>.exn x U:=rfl
end
end Ov
namespace Ov
open PySem
theorem cT(h1:0<=lo)(h2:lo<1000000)(h3:0<=hi)(h4:hi<1000000):EY lo hi=.ok (Iw lo (hi-lo).toNat):=by
 unfold EY;rw[Au (by omega)]
theorem cU(h3:0<=hi)(h4:hi<1000000):EY 0 hi=.ok (Iw 0 hi.toNat):=by
 rw[cT (by omega) (by omega) h3 h4,Yc]
theorem PD(lo:Ai)(n:Ag):(Iw lo n).length=n:=by simp[Iw]
theorem gU{n i:Ag}{x:D}(h:(Iw lo n)[i]?=Aa x):i<n/\x=.int (lo+(i:Ai)):=by
 have hl:=(A5.mp h).1;rw[PD]at hl;unfold Iw at h;rw[Ez,List.getElem?_range hl]at h;cases h;exact⟨hl,rfl⟩
noncomputable def Ss.take:Ag->Ss->Ss
 |0,_=>.nil
 |_,.nil=>.nil
 |n+1,.cons s ss=>.cons s (ss.take n)
noncomputable def Ss.drop:Ag->Ss->Ss
 |0,ss=>ss
 |_,.nil=>.nil
 |n+1,.cons _ ss=>ss.drop n
noncomputable def tf(c:Ag):Df:=⟨2,Ae,.cons (.ret (.mkob c (.call 910 (.cons (.v 0) (.cons (.v 1) .nil))))) .nil⟩
noncomputable def ki:Df:=⟨2,Ae,.cons (.ret (.H {.v 0,.call 17 {.v 0,.v 1}})) .nil⟩
end Ov
end
section
namespace Ov
noncomputable def wt:Ag->D->Am
 |0,.int i=>decide (0<=i)&&decide (i<100)
 |n+1,.H ds=>CD ds.length 8&&ds.all (wt n)
 |_,_=>Ae
noncomputable def bo(c:Ag)(f:PySem.Str):Ac D->R Ex
 |[d]=>if (wt 1 d||wt 2 d)=Ab then .ok ⟨c,[(f,d)]⟩ else .bad
 |_=>.bad
end Ov
end
section
namespace OvC
open PySem Ov PyProof.Rows
variable{j:Ai}
noncomputable abbrev scr(ns:Ac Ai):D:=.L (ns.map .int)
noncomputable abbrev sh(d:D):Sl:=Aa (d,Ae)
noncomputable abbrev si(i:Ai):Sl:=Aa (.int i,Ae)
noncomputable def yU(ns:Ac Ai)(k:Ai):Ai:=if ns=[] then 0 else ns.getD (k%ns.length).toNat 0
noncomputable def W5(ns:Ac Ai)(k:Ai):Ai:=(yU ns k%1000003+7919*k+11)*48271%1000033
noncomputable def rK(ns:Ac Ai)(k:Ai):Ai:=[3,5,7,11].getD (W5 ns k/16%4).toNat 0
theorem Xf{P:Ag->Prop}(h0:P 0)(h1:P 1)(h2:P 2)(h3:P 3):P (j%4).toNat:=by
 have:(j%4).toNat=0\/(j%4).toNat=1\/(j%4).toNat=2\/(j%4).toNat=3:=by omega
 rcases this with e|e|e|e<;>rw[e]<;>assumption
def P4(p:Ai):Prop:=p=3\/p=5\/p=7\/p=11
noncomputable def pr4(j:Ai):Ai:=[3,5,7,11].getD (j%4).toNat 0
theorem rL(j):P4 (pr4 j):=by
 unfold pr4;exact Xf (P:=λj=>P4 ([3,5,7,11].getD j 0)) (.inl rfl) (.inr (.inl rfl)) (.inr (.inr (.inl rfl))) (.inr (.inr (.inr rfl)))
theorem P4.pos{p}(h:P4 p):0<p:=by rcases h with rfl|rfl|rfl|rfl<;>decide
theorem P4.lo{p}(h:P4 p):3<=p:=by rcases h with rfl|rfl|rfl|rfl<;>decide
theorem P4.hi{p}(h:P4 p):p<=11:=by rcases h with rfl|rfl|rfl|rfl<;>decide
theorem gX(j:Ai):DU [.int 3,.int 5,.int 7,.int 11] (j%4)=.ok (.int (pr4 j)):=by
 have h:=Xf (P:=λj=>[D.int 3,D.int 5,D.int 7,D.int 11][j]?=Aa (D.int ([3,5,7,11].getD j 0))) (j:=j) rfl rfl rfl rfl
 exact Ur (by omega) h
theorem M3{i:Ai}(h0:-18446744073709551616<i)(h1:i<18446744073709551616):Fq i j=Ab:=by simp[Fq];left;exact⟨h0,h1⟩
theorem Oa{i:Ai}(h0:-18446744073709551616<j)(h1:j<18446744073709551616):Fq i j=Ab:=by simp[Fq];right;exact⟨h0,h1⟩
noncomputable def QZ:Df:=⟨2,Ae,{.ret (.B .Mod (.v 1) (.v 0))}⟩
def Oq(Z:Z4):Prop:=∀ p n:Ai,0<p->Z.F 1 [.int p,.int n]=.ok (.int (n%p))
theorem qY(Z:Z4)(p n:Ai)(h:0<p):QZ.run Z [.int p,.int n]=.ok (.int (n%p)):=by simp[QZ,Df.run,Bu,h]
def mH(Z:Z4):Prop:=∀(ns:Ac Ai)(k:Ai),Z.F 3 [scr ns,.int k]=.ok (.int (W5 ns k))
def mG(Z:Z4):Prop:=∀(ns:Ac Ai)(k:Ai),Z.F 4 [scr ns,.int k]=.ok (.int (rK ns k))
def mZ(Z:Z4):Prop:=∀ x a b:Ai,Z.F 6 [.int x,.int a,.int b]=.ok (.bl (decide (a<=x)&&decide (x<=b)))
end OvC
end
namespace Ov
open PySem PySem.Spec PyProof.Rows L2
variable{K:Fg}{mg:Ah->Ao Al}{x:Ah}{A B:Ak->Prop}{H H' H1 H0:Hp}{p a b l q:Ak}{xs vs:Ac V}{v:V}{d:D}{Rp Rq:Hp->V->D->Prop}{r:R D}{Q:VK}{X:Cx}{e c tg iter elt:Aq}{U:Rho}{i n j:Ag}{Y:L2.St}{g:D->D->R D}{op:DB}{pI:Pn}{s:Ar}{its zi ys:Ac Al}{qu items:Bl Al}{h h' h2:AI}{u:Al}{es ifs:Ac Aq}{fs fi:Rho->R (Ac D)}{Q':Ao Ai->Hp->Prop}{T:CP}{α:Type}{D':xk}{pos' p2 pos pos2:AE}{fc:Rho->R Am}{as:D->Rho->R Rho}{k:Ki}{up:Ag->Ac Ag}{scope:Ca}{env:B4}{cl:Ac (Ah×Ak)}{N':Ac Ah}{ts:Ac Ag}{fp:Ac Ak}{tt:TT}{te:TE}{J:It}{wi:TI}{t:Am}
noncomputable def O9:Ag->Ah
 |0 => "Triple"
 |1 => "Point"
 |2 => "Line"
 |_ => ""
noncomputable def OC(K:Fg)(c:Ag):Ao Ak:=if c<3 then (match Bb K AO (O9 c) with
  |some (Aa (.ref C))=>Aa C
  | _=>Af) else Af
noncomputable def Gb:Ac (Ah×Ag×Ah):=[("0.told",0, "told"),("1.told",1, "told"),("2.told",2, "told"),("0.shown",0, "shown"),("1.shown",1, "shown"),("2.shown",2, "shown")]
noncomputable def IV(K:Fg)(mg:Ah->Ao Al)(x:Ah):Ao Al:=match Gb.lookup x with
  |some (c,m)=>(OC K c).bind λC=>(At K (.ref C) m).join
  |none=>mg x
theorem Qj{v:Ao Al}(h:IV K mg x=v)(e:Gb.lookup x=Af):mg x=v:=by
 unfold IV at h
 rwa [e]at h
theorem gK{m:Ah}{c:Ag}{C:Ak}{v:Al}(h:IV K mg x=Aa v)(e:Gb.lookup x=Aa (c,m))(hC:OC K c=Aa C):At K (.ref C) m=Aa (Aa v):=by
 unfold IV at h;rw[e]at h;dsimp only at h;rw[hC]at h;have h':(At K (.ref C) m).join=Aa v:=h;cases q:At K (.ref C) m with
 |none=>rw[q]at h';cases h'
 |some u=>rw[q]at h';have:u=Aa v:=h';rw[this]
abbrev ClA:=Ag->Ao Ak
variable{CL:ClA}
def KL(K:Fg)(a:Ak)(xs:Ac V):Prop:=∃(o:CZ)(its:Bl Al)(n:Ag),K.lookup a=Aa o/\o.cls=.type "list"/\o.dict=Af/\o.data=.seq its n/\its.size<=sizeLine/\A1 xs its.toList
def KT(K:Fg)(a:Ak)(xs:Ac V):Prop:=∃(o:CZ)(its:Bl Al)(n:Ag),K.lookup a=Aa o/\o.cls=.type "tuple"/\o.data=.seq its n/\its.size<=sizeLine/\A1 xs its.toList
section
variable(K:Fg)(CL:ClA)(H:Hp)(A:Ak->Prop)
mutual
def Z7:V->D->Prop
 |v,.O=>v=.O
 |v,.bl b=>v=.bl b
 |v,.int i=>v=.int i
 |v,.str x=>v=.str x
 |v,.H ds=>∃ a xs,v=.ref a/\(¬ A a\/KT K a xs)/\yk K H a xs/\Z9 xs ds
 |v,.L ds=>∃ a xs,v=.ref a/\(¬ A a\/KL K a xs)/\IO K H a xs/\Z9 xs ds
 |v,.obj c fs=>∃ a C dx vs,v=.ref a/\¬ A a/\OC K c=Aa C/\H a=Aa (.ins C dx vs)/\Cl vs fs
 |_,.dic _=>AN
 |v,.exc c fs=>∃ a C φ,v=.ref a/\¬ A a/\CL c=Aa C/\H a=Aa (.ext φ)/\(∀ h,φ h->∃ o,h.get? a=Aa o/\o.cls=.ref C)/\(fs=[]\/∃ dx vs,¬ A dx/\H dx=Aa (.xd vs)/\Cl vs fs/\∀ h,φ h->∃ o,h.get? a=Aa o/\o.dict=Aa dx/\∃ us,o.data=.fields us)
def Z9:Ac V->Ac D->Prop
 |[],[]=>F7
 |v::vs,d::ds=>Z7 v d/\Z9 vs ds
 |_,_=>AN
def Cl:Ac (Ah×V)->Ac (Ah×D)->Prop
 |[],[]=>F7
 |v::vs,d::ds=>yg v d/\Cl vs ds
 |_,_=>AN
def yg:Ah×V->Ah×D->Prop
 |v,(n,d)=>v.1=n/\Z7 v.2 d
end
def CA(v:V)(d:D):Prop:=Z7 K CL H A v d\/∃ a xs ds,v=.ref a/\d=.L ds/\H a=Aa (.L xs)/\Z9 K CL H A xs ds
end
def Kp(A:Ak->Prop)(H H':Hp):Prop:=∀ b o,H b=Aa o->¬ A b->H' b=Aa o
def aX:HO->Prop
 |.L _=>F7
 |.ins _ _ _=>F7
 |_=>AN
def Ty(H:Hp)(A:Ak->Prop):Prop:=∀ a,A a->∃ o,H a=Aa o/\aX o
theorem Kp.of(h:Az H H'):Kp A H H':=λb o e _=>h b o e
theorem Ty.same(h:Ty H A)(s:Az H H'):Ty H' A:=λa ha=>let ⟨o,e,w⟩:=h a ha;⟨o,s _ _ e,w⟩
theorem Ty.new(h:Ty H A)(e:H p=Af):¬ A p:=λha=>by
 obtain⟨o,q,_⟩:=h p ha;rw[e]at q;cases q
section
variable{K:Fg}{CL:ClA}{H H':Hp}{A B:Ak->Prop}
theorem Ww{u:HO}(k:Kp A H H')(na:¬ A a)(h:Rd H a u):Rd H' a u:=by
 rcases h with h|⟨o,h⟩
 .exact .inl (k _ _ h na)
 .exact .inr ⟨o,k _ _ h na⟩
theorem QP(k:Kp A H H')(na:¬ A a\/KL K a xs)(h:IO K H a xs):IO K H' a xs:=na.elim (λna=>h.imp (Ww k na) id) .inr
theorem QO(k:Kp A H H')(na:¬ A a\/KT K a xs)(h:yk K H a xs):yk K H' a xs:=na.elim (λna=>h.imp (Ww k na) id) .inr
mutual
theorem Z7.kp(k:Kp A H H'):∀{v:V}(d:D),Z7 K CL H A v d->Z7 K CL H' A v d
 |_,.O,h=>h
 |_,.bl _,h=>h
 |_,.int _,h=>h
 |_,.str _,h=>h
 |_,.dic _,h=>h.elim
 |_,.H ds,h=>by
  obtain⟨a,xs,e,na,s,r⟩:=h;exact⟨a,xs,e,na,by first|exact QO k na s|exact QP k na s,Z9.kp k ds r⟩
 |_,.L ds,h=>by
  obtain⟨a,xs,e,na,s,r⟩:=h;exact⟨a,xs,e,na,by first|exact QO k na s|exact QP k na s,Z9.kp k ds r⟩
 |_,.obj c fs,h=>by
  obtain⟨a,C,dx,vs,e,na,c,s,r⟩:=h;exact⟨a,C,dx,vs,e,na,c,k _ _ s na,Cl.kp k fs r⟩
 |_,.exc c fs,h=>by
  obtain⟨a,C,φ,e,na,c,s,p,q⟩:=h;refine⟨a,C,φ,e,na,c,k _ _ s na,p,q.imp id ?_⟩;rintro⟨dx,vs,nx,s2,r,z⟩;exact⟨dx,vs,nx,k _ _ s2 nx,Cl.kp k fs r,z⟩
theorem Z9.kp(k:Kp A H H'):∀{vs:Ac V}(ds:Ac D),Z9 K CL H A vs ds->Z9 K CL H' A vs ds
 |[],[],h=>h
 |_::_,d::ds,h=>⟨Z7.kp k d h.1,Z9.kp k ds h.2⟩
 |[],_::_,h=>h.elim
 |_::_,[],h=>h.elim
theorem Cl.kp(k:Kp A H H'):∀{vs:Ac (Ah×V)}(ds:Ac (Ah×D)),Cl K CL H A vs ds->Cl K CL H' A vs ds
 |[],[],h=>h
 |_::_,d::ds,h=>⟨yg.kp k d h.1,Cl.kp k ds h.2⟩
 |[],_::_,h=>h.elim
 |_::_,[],h=>h.elim
theorem yg.kp(k:Kp A H H'):∀{v:Ah×V}(d:Ah×D),yg K CL H A v d->yg K CL H' A v d
 |_,(_,d),h=>⟨h.1,Z7.kp k d h.2⟩
end
mutual
theorem Z7.sub(k:∀ a,B a->A a):∀{v:V}(d:D),Z7 K CL H A v d->Z7 K CL H B v d
 |_,.O,h=>h
 |_,.bl _,h=>h
 |_,.int _,h=>h
 |_,.str _,h=>h
 |_,.dic _,h=>h.elim
 |_,.H ds,h=>by
  obtain⟨a,xs,e,na,s,r⟩:=h;exact⟨a,xs,e,na.imp (λna z=>na (k _ z)) id,s,Z9.sub k ds r⟩
 |_,.L ds,h=>by
  obtain⟨a,xs,e,na,s,r⟩:=h;exact⟨a,xs,e,na.imp (λna z=>na (k _ z)) id,s,Z9.sub k ds r⟩
 |_,.obj c fs,h=>by
  obtain⟨a,C,dx,vs,e,na,c,s,r⟩:=h;exact⟨a,C,dx,vs,e,λz=>na (k _ z),c,s,Cl.sub k fs r⟩
 |_,.exc c fs,h=>by
  obtain⟨a,C,φ,e,na,c,s,p,q⟩:=h;refine⟨a,C,φ,e,λz=>na (k _ z),c,s,p,q.imp id ?_⟩
  rintro⟨dx,vs,nx,s2,r,z⟩;exact⟨dx,vs,λz=>nx (k _ z),s2,Cl.sub k fs r,z⟩
theorem Z9.sub(k:∀ a,B a->A a):∀{vs:Ac V}(ds:Ac D),Z9 K CL H A vs ds->Z9 K CL H B vs ds
 |[],[],h=>h
 |_::_,d::ds,h=>⟨Z7.sub k d h.1,Z9.sub k ds h.2⟩
 |[],_::_,h=>h.elim
 |_::_,[],h=>h.elim
theorem Cl.sub(k:∀ a,B a->A a):∀{vs:Ac (Ah×V)}(ds:Ac (Ah×D)),Cl K CL H A vs ds->Cl K CL H B vs ds
 |[],[],h=>h
 |_::_,d::ds,h=>⟨yg.sub k d h.1,Cl.sub k ds h.2⟩
 |[],_::_,h=>h.elim
 |_::_,[],h=>h.elim
theorem yg.sub(k:∀ a,B a->A a):∀{v:Ah×V}(d:Ah×D),yg K CL H A v d->yg K CL H B v d
 |_,(_,d),h=>⟨h.1,Z7.sub k d h.2⟩
end
mutual
theorem Z7.wide(hp:∀ a,B a->A a\/H a=Af):∀{v:V}(d:D),Z7 K CL H A v d->Z7 K CL H B v d
 |_,.O,h=>h
 |_,.bl _,h=>h
 |_,.int _,h=>h
 |_,.str _,h=>h
 |_,.dic _,h=>h.elim
 |_,.H ds,h=>by
  obtain⟨a,xs,e,na,s,r⟩:=h;refine⟨a,xs,e,?_,s,Z9.wide hp ds r⟩;rcases s with s|s
  .refine na.imp (λna z=>(hp _ z).elim na λe=>?_) id
   rcases s with s|⟨o,s⟩<;>rw[e]at s<;>cases s
  .exact .inr s
 |_,.L ds,h=>by
  obtain⟨a,xs,e,na,s,r⟩:=h;refine⟨a,xs,e,?_,s,Z9.wide hp ds r⟩;rcases s with s|s
  .refine na.imp (λna z=>(hp _ z).elim na λe=>?_) id
   rcases s with s|⟨o,s⟩<;>rw[e]at s<;>cases s
  .exact .inr s
 |_,.obj c fs,h=>by
  obtain⟨a,C,dx,vs,e,na,c,s,r⟩:=h;exact⟨a,C,dx,vs,e,(λz=>(hp _ z).elim na λe=>by rw[e]at s;cases s),c,s,Cl.wide hp fs r⟩
 |_,.exc c fs,h=>by
  obtain⟨a,C,φ,e,na,c,s,p,q⟩:=h;refine⟨a,C,φ,e,(λz=>(hp _ z).elim na λe=>by rw[e]at s;cases s),c,s,p,q.imp id ?_⟩
  rintro⟨dx,vs,nx,s2,r,z⟩;exact⟨dx,vs,(λz=>(hp _ z).elim nx λe=>by rw[e]at s2;cases s2),s2,Cl.wide hp fs r,z⟩
theorem Z9.wide(hp:∀ a,B a->A a\/H a=Af):∀{vs:Ac V}(ds:Ac D),Z9 K CL H A vs ds->Z9 K CL H B vs ds
 |[],[],h=>h
 |_::_,d::ds,h=>⟨Z7.wide hp d h.1,Z9.wide hp ds h.2⟩
 |[],_::_,h=>h.elim
 |_::_,[],h=>h.elim
theorem Cl.wide(hp:∀ a,B a->A a\/H a=Af):∀{vs:Ac (Ah×V)}(ds:Ac (Ah×D)),Cl K CL H A vs ds->Cl K CL H B vs ds
 |[],[],h=>h
 |_::_,d::ds,h=>⟨yg.wide hp d h.1,Cl.wide hp ds h.2⟩
 |[],_::_,h=>h.elim
 |_::_,[],h=>h.elim
theorem yg.wide(hp:∀ a,B a->A a\/H a=Af):∀{v:Ah×V}(d:Ah×D),yg K CL H A v d->yg K CL H B v d
 |_,(_,d),h=>⟨h.1,Z7.wide hp d h.2⟩
end
theorem Z7.same(s:Az H H')(h:Z7 K CL H A v d):Z7 K CL H' A v d:=Z7.kp (Kp.of s) d h
theorem Z9.same{v:Ac V}{d:Ac D}(s:Az H H')(h:Z9 K CL H A v d):Z9 K CL H' A v d:=Z9.kp (Kp.of s) d h
theorem CA.same{v:V}{d:D}(s:Az H H')(h:CA K CL H A v d):CA K CL H' A v d:=by
 rcases h with h|⟨a,xs,ds,e,e2,q,r⟩
 .exact .inl (h.same s)
 .exact .inr ⟨a,xs,ds,e,e2,s _ _ q,r.same s⟩
theorem Z9.length:∀{vs:Ac V}{ds:Ac D},Z9 K CL H A vs ds->vs.length=ds.length
 |[],[],_=>rfl
 |_::_,_::_,h=>congrArg (· + 1) (Z9.length h.2)
 |[],_::_,h=>h.elim
 |_::_,[],h=>h.elim
theorem Z9.append:∀{vs ws:Ac V}{ds es:Ac D},Z9 K CL H A vs ds->Z9 K CL H A ws es->Z9 K CL H A (vs++ws) (ds++es)
 |[],_,[],_,_,h=>h
 |_::_,_,_::_,_,h,g=>⟨h.1,Z9.append h.2 g⟩
 |[],_,_::_,_,h,_=>h.elim
 |_::_,_,[],_,h,_=>h.elim
theorem Z9.get:∀{vs:Ac V}{ds:Ac D}{i:Ag}{d:D},Z9 K CL H A vs ds->ds[i]?=Aa d->∃ v,vs[i]?=Aa v/\Z7 K CL H A v d
 |[],[],_,_,_,e=>by simp at e
 |v::_,_::_,0,_,h,e=>by simp at e;subst e;exact⟨v,rfl,h.1⟩
 |_::_,_::_,i+1,_,h,e=>by
  obtain⟨v,q,r⟩:=Z9.get (i:=i) h.2 (by simpa using e)
  exact⟨v,by simpa using q,r⟩
 |[],_::_,_,_,h,_=>h.elim
 |_::_,[],_,_,h,_=>h.elim
theorem Z9.take:∀{vs:Ac V}{ds:Ac D}(n:Ag),Z9 K CL H A vs ds->Z9 K CL H A (vs.take n) (ds.take n)
 |_,_,0,_=>trivial
 |[],[],_+1,_=>trivial
 |_::_,_::_,n+1,h=>⟨h.1,Z9.take n h.2⟩
 |[],_::_,_+1,h=>h.elim
 |_::_,[],_+1,h=>h.elim
theorem Z9.drop:∀{vs:Ac V}{ds:Ac D}(n:Ag),Z9 K CL H A vs ds->Z9 K CL H A (vs.drop n) (ds.drop n)
 |_,_,0,h=>h
 |[],[],_+1,_=>trivial
 |_::_,_::_,n+1,h=>Z9.drop n h.2
 |[],_::_,_+1,h=>h.elim
 |_::_,[],_+1,h=>h.elim
theorem Z9.set{x:V}{e:D}(r:Z7 K CL H A x e):∀{vs:Ac V}{ds:Ac D}(n:Ag),Z9 K CL H A vs ds->Z9 K CL H A (vs.set n x) (ds.set n e)
 |[],[],_,_=>trivial
 |_::_,_::_,0,h=>⟨r,h.2⟩
 |_::_,_::_,n+1,h=>⟨h.1,Z9.set r n h.2⟩
 |[],_::_,_,h=>h.elim
 |_::_,[],_,h=>h.elim
end
structure Y9 (K:Fg) (CL:ClA) (A:Ak->Prop) (U:Rho) (Y:L2.St) (H:Hp):Prop where
 sh:∀(i:Ag)(d:D),U[i]?=Aa (Aa (d,Ae))->∃ v,Y[i]?=Aa (Aa v)/\Z7 K CL H A v d
 ow:∀(i:Ag)(d:D),U[i]?=Aa (Aa (d,Ab))->d≠.O->∃ a xs ds,Y[i]?=Aa (Aa (.ref a))/\d=.L ds/\A a/\H a=Aa (.L xs)/\Z9 K CL H A xs ds
 len:U.length=Y.length
theorem Y9.same{K:Fg}{CL:ClA}{A:Ak->Prop}{U:Rho}{Y:L2.St}{H H':Hp}(g:Y9 K CL A U Y H)(s:Az H H'):Y9 K CL A U Y H':=
 ⟨λi d e=>let ⟨v,q,r⟩:=g.sh i d e;⟨v,q,r.same s⟩,λi d e hn=>let ⟨a,xs,ds,q,z,na,h,r⟩:=g.ow i d e hn;⟨a,xs,ds,q,z,na,s _ _ h,r.same s⟩,g.len⟩
abbrev XW:=Ex->Hp->Prop
variable{W:XW}
def AX(Rp:Hp->V->D->Prop)(W:XW)(H:Hp)(r:R D)(Q:VK):Prop:=match r with
  |.ok d=>∀ v H',Az H H'->Rp H' v d->Q v H'
  |.exn x=>∀ H',Az H H'->W x H'
  |.bad=>AN
def Iq(Rp:Hp->Ac V->Ac D->Prop)(W:XW)(H:Hp)(r:R (Ac D))(Q:Ac V->Hp->Prop):Prop:=match r with
  |.ok d=>∀ v H',Az H H'->Rp H' v d->Q v H'
  |.exn x=>∀ H',Az H H'->W x H'
  |.bad=>AN
def CQ(W:XW)(H:Hp)(r:R Am)(Q:Am->Hp->Prop):Prop:=match r with
  |.ok b=>∀ H',Az H H'->Q b H'
  |.exn x=>∀ H',Az H H'->W x H'
  |.bad=>AN
theorem AX.same(s:Az H H')(h:AX Rp W H r Q):AX Rp W H' r Q:=by
 cases r with
 |ok d=>exact λv H2 s2 q=>h v H2 (s.trans s2) q
 |exn x=>exact λH2 s2=>h H2 (s.trans s2)
 |bad=>exact h
theorem CQ.same{r:R Am}{Q:Am->Hp->Prop}(s:Az H H')(h:CQ W H r Q):CQ W H' r Q:=by
 cases r with
 |ok d=>exact λH2 s2=>h H2 (s.trans s2)
 |exn x=>exact λH2 s2=>h H2 (s.trans s2)
 |bad=>exact h
theorem AX.bind{f:D->R D}{Q':VK}(h:AX Rq W H (r.bind f) Q)(k:∀ d v H',r=.ok d->Az H H'->Rp H' v d->AX Rq W H' (f d) Q->Q' v H'):AX Rp W H r Q':=by
 cases r with
 |ok d=>exact λv H2 s2 q=>k d v H2 rfl s2 q (AX.same s2 h)
 |exn x=>exact h
 |bad=>exact h
section
variable(X:Cx)(CL:ClA)(W:XW)
def SE(e:Aq)(f:Rho->R D):Prop:=∀ A,PE X e (λY H Q=>Ty H A/\∃ U,Y9 X.K CL A U Y H/\AX (λH=>Z7 X.K CL H A) W H (f U) Q)
def ST(e:Aq)(f:Rho->R D):Prop:=∀ A,PE X e (λY H Q=>Ty H A/\∃ U,Y9 X.K CL A U Y H/\AX (λH=>CA X.K CL H A) W H (f U) Q)
def SB(e:Aq)(f:Rho->R Am):Prop:=∀ A,PT X e (λY H Q=>Ty H A/\∃ U,Y9 X.K CL A U Y H/\CQ W H (f U) Q)
def SA(es:Ac Aq)(f:Rho->R (Ac D)):Prop:=∀ A,PA X es (λY H Q=>Ty H A/\∃ U,Y9 X.K CL A U Y H/\Iq (λH=>Z9 X.K CL H A) W H (f U) Q)
end
theorem PE.weak{t t':TE}(h:PE X e t)(k:∀ Y H Q,t' Y H Q->t Y H Q):PE X e t':=λpI s Y H Q I q=>h pI s Y H Q I (k _ _ _ q)
theorem PT.weak{t t':TT}(h:PT X e t)(k:∀ Y H Q,t' Y H Q->t Y H Q):PT X e t':=λpI s Y H Q I q=>h pI s Y H Q I (k _ _ _ q)
theorem PA.weak{e:Ac Aq}{t t':TA}(h:PA X e t)(k:∀ Y H Q,t' Y H Q->t Y H Q):PA X e t':=λpos pI s Y H Q I q=>h pos pI s Y H Q I (k _ _ _ q)
noncomputable def ud(X:Cx)(CL:ClA)(W:XW)(f:Al->Al->Fo Al)(g:D->D->R D):Prop:=
 ∀ A,yu X f (λx y H Q=>Ty H A/\∃ dx dy,CA X.K CL H A x dx/\CA X.K CL H A y dy/\AX (λH=>Z7 X.K CL H A) W H (g dx dy) Q)
section
variable{X:Cx}{CL:ClA}{W:XW}{a b c:Aq}{fa fb fc:Rho->R D}{pos:AE}
theorem SE.st(h:SE X CL W a fa):ST X CL W a fa:=λA=>PE.weak (h A) λY H Q ⟨hA,U,g,p⟩=>⟨hA,U,g,by
 cases e:fa U with
 |ok d=>rw[e]at p;exact λv H' s r=>p v H' s (.inl r)
 |exn x=>rw[e]at p;exact p
 | bad=>rw[e]at p;exact p⟩
theorem SE.congr{f g:Rho->R D}(h:SE X CL W a f)(e:∀ U,g U=f U):SE X CL W a g:=λA=>PE.weak (h A) λY H Q ⟨hA,U,q,p⟩=>⟨hA,U,q,by rw[<-e];exact p⟩
theorem OK(h:PE X a (tC v))(r:∀ H A,Ty H A->Z7 X.K CL H A v d):SE X CL W a (λ_=>.ok d):=λA=>PE.weak h λY H Q ⟨hA,U,g,p⟩=>p v H (Az.refl H) (r H A hA)
theorem VT{i j}:SE X CL W (.Constant (.int i) j pos) (λ_=>.ok (.int i)):=OK Ol λ_ _ _=>rfl
theorem OL{b j}:SE X CL W (.Constant (.bool b) j pos) (λ_=>.ok (.bl b)):=OK xK λ_ _ _=>rfl
theorem oB{j}:SE X CL W (.Constant .none j pos) (λ_=>.ok .O):=OK Oj λ_ _ _=>rfl
theorem Og{x j}:SE X CL W (.Constant (.str x) j pos) (λ_=>.ok (.str x)):=OK KH λ_ _ _=>rfl
theorem jQ(h:Gc U i=.ok d):U[i]?=Aa (Aa (d,Ae)):=by
 unfold Gc at h;split at h
 .rename_i e;cases h;exact e
 .cases h
theorem Ui(h:CS U i=.ok d):∃ o,U[i]?=Aa (Aa (d,o))/\(o=Ab->d≠.O):=by
 unfold CS at h;split at h
 .rename_i e;cases h;exact⟨_,e,λz=>nomatch z⟩
 .rename_i x e;cases x with
  |L xs=>cases h;exact⟨_,e,λ_ z=>nomatch z⟩
  |_=>cases h
 .cases h
theorem fH{x:Ex}(h:Gc U i=.exn x):AN:=by
 unfold Gc at h;split at h<;>cases h
theorem T4{x:Ex}(h:CS U i=.exn x):AN:=by
 unfold CS at h;split at h
 .cases h
 .rename_i y _;cases y<;>cases h
 .cases h
theorem Vs(h:PE X a (Ch i)):SE X CL W a (λU=>Gc U i):=λA=>PE.weak h λY H Q ⟨hA,U,g,p⟩=>by
 dsimp only at p;cases e:Gc U i with
 |ok d=>
  rw[e]at p;obtain⟨v,q,r⟩:=g.sh i d (jQ e);exact⟨v,q,p v H (Az.refl H) r⟩
 |exn x=>exact(fH e).elim
 |bad=>rw[e]at p;exact p.elim
theorem IP(h:PE X a (Ch i)):ST X CL W a (λU=>CS U i):=λA=>PE.weak h λY H Q ⟨hA,U,g,p⟩=>by
 dsimp only at p;cases e:CS U i with
 |ok d=>
  rw[e]at p;obtain⟨o,e,hn⟩:=Ui e;cases o with
  |false=>
   obtain⟨v,q,r⟩:=g.sh i d e;exact⟨v,q,p v H (Az.refl H) (.inl r)⟩
  |true=>
   obtain⟨x,xs,ds,q,rfl,ha,hh,r⟩:=g.ow i d e (hn rfl);exact⟨_,q,p _ H (Az.refl H) (.inr ⟨x,xs,ds,rfl,rfl,hh,r⟩)⟩
 |exn x=>exact(T4 e).elim
 |bad=>rw[e]at p;exact p.elim
theorem tj(h:Ty H A/\∃ U,Y9 X.K CL A U Y H/\AX Rq W H ((fa U).bind λx=>(fb U).bind λy=>g x y) Q):Ty H A/\∃ U,Y9 X.K CL A U Y H/\AX (λH=>CA X.K CL H A) W H (fa U) (λx H1=>Ty H1 A/\∃ U,Y9 X.K CL A U Y H1/\AX (λH=>CA X.K CL H A) W H1 (fb U) (λy H2=>Ty H2 A/\∃ dx dy,CA X.K CL H2 A x dx/\CA X.K CL H2 A y dy/\AX Rq W H2 (g dx dy) Q)):=by
 obtain⟨hA,U,gd,p⟩:=h;refine⟨hA,U,gd,AX.bind p λdx x H1 _ s1 r1 p1=>⟨hA.same s1,U,gd.same s1,AX.bind p1 λdy y H2 _ s2 r2 p2=>⟨(hA.same s1).same s2,dx,dy,r1.same s2,r2,p2⟩⟩⟩
theorem QV{op:Gq}(ho:ud X CL W (Ce op) g)(ha:ST X CL W a fa)(hb:ST X CL W b fb):SE X CL W (.BinOp a op b pos) (λU=>(fa U).bind λx=>(fb U).bind λy=>g x y):=
 λA=>PE.weak (Wp (ho A) (ha A) (hb A)) λY H Q h=>tj h
theorem oH(ho:ud X CL W (CO op) g)(ha:ST X CL W a fa)(hb:ST X CL W b fb)(hm:HE op b=Ae):SE X CL W (.Compare a [op] [b] pos) (λU=>(fa U).bind λx=>(fb U).bind λy=>g x y):=
 λA=>PE.weak (UH (ho A) (ha A) (hb A) hm) λY H Q h=>tj h
theorem CA.int_of{i:Ai}(h:CA K CL H A v (.int i)):v=.int i:=by
 rcases h with h|⟨_,_,_,_,e,_⟩
 .exact h
 .cases e
theorem CA.str_of{i:Ah}(h:CA K CL H A v (.str i)):v=.str i:=by
 rcases h with h|⟨_,_,_,_,e,_⟩
 .exact h
 .cases e
theorem CA.bl_of{i:Am}(h:CA K CL H A v (.bl i)):v=.bl i:=by
 rcases h with h|⟨_,_,_,_,e,_⟩
 .exact h
 .cases e
theorem CA.non_of(h:CA K CL H A v .O):v=.O:=by
 rcases h with h|⟨_,_,_,_,e,_⟩
 .exact h
 .cases e
theorem CA.lst_of{ds:Ac D}(h:CA K CL H A v (.L ds)):∃ a xs,v=.ref a/\IO K H a xs/\Z9 K CL H A xs ds:=by
 rcases h with ⟨a,xs,e,_,s,r⟩|⟨a,xs,es,rfl,e,s,r⟩
 .exact⟨a,xs,e,s,r⟩
 .cases e;exact⟨a,xs,rfl,IO.of s,r⟩
theorem CA.tup_of{ds:Ac D}(h:CA K CL H A v (.H ds)):∃ a xs,v=.ref a/\(¬ A a\/KT K a xs)/\yk K H a xs/\Z9 K CL H A xs ds:=by
 rcases h with ⟨a,xs,e,n,s,r⟩|⟨_,_,_,_,e,_⟩
 .exact⟨a,xs,e,n,s,r⟩
 .cases e
theorem lF{i j:Ai}(h:Fq i j=Ab):Pp i j:=by
 unfold Fq at h;simp only[BV,An,AM]at h;unfold Pp;omega
theorem U_8{a:Ai}(h:a.natAbs<2 ^ 2000):YN a<=2 ^ 20:=by
 unfold YN;split
 .omega
 .rename_i hz;have h0:a.natAbs≠0:=by intro z;exact hz (by rw[Int.natAbs_eq_zero.mp z];rfl)
  have:=(Nat.log2_lt h0).mpr h;omega
theorem lE{i j:Ai}(h:(Fq i j||ON i j)=Ab):ME i j:=by
 rcases Bool.or_eq_true_iff.mp h with h|h
 .exact(lF h).ok
 .unfold ON at h;rw[An,AM,AM]at h;exact .of_bits (U_8 h.1) (U_8 h.2)
theorem lZ:yu X (Ce .Mult) (rI ME λi j=>.int (i*j)):=É λ_ _ _ _ _ _ _ hc q=>mul_int q hc
theorem La(h:CY n=Ab):n<=sizeLine:=by
 unfold CY at h;rw[By];have:=AR h;omega
theorem Va{ds:Ac D}(hA:Ty H A)(hp:H p=Af)(r:Z9 K CL H A xs ds):Z7 K CL (upd H p (.L xs)) A (.ref p) (.L ds):=
 ⟨p,xs,rfl,.inl (hA.new hp),IO.of BK,r.same λb o e=>by rw[AQ (Er e hp)];exact e⟩
theorem N9{ds:Ac D}(hA:Ty H A)(hp:H p=Af)(r:Z9 K CL H A xs ds):Z7 K CL (upd H p (.H xs)) A (.ref p) (.H ds):=
 ⟨p,xs,rfl,.inl (hA.new hp),yk.of BK,r.same λb o e=>by rw[AQ (Er e hp)];exact e⟩
theorem EZ(h:H p=Af)(o:HO):Az H (upd H p o):=λb u q=>by rw[AQ (Er q h)];exact q
def uV(K:Fg):R2:=λx y H Q=>∃ l b xs zs,x=.ref l/\y=.ref b/\IO K H l xs/\IO K H b zs/\xs.length+zs.length<=sizeLine/\∀ p,H p=Af->Q (.ref p) (upd H p (.L (xs++zs)))
end
section
variable{X:Cx}{CL:ClA}{W:XW}
theorem UL:yu X (Ce .Add) (uV X.K):=by
 intro pI s Y H x y v u Q I rx ry h;obtain⟨l,b,xs,zs,rfl,rfl,hH,hB,hz,q⟩:=h;cases rx;cases ry;obtain⟨its,r,⟨o,n,e,c,dd,dt⟩,z⟩:=I.list hH;obtain⟨zi,r2,⟨o2,n2,e2,c2,è,dt2⟩,z2⟩:=I.list hB;have hl:=r.length;have lz:=r2.length;obtain⟨cls,dd0,data,sl⟩:=o;obtain⟨cls2,dd02,data2,Ô⟩:=o2;simp only at c dd dt c2 è dt2;subst c dd dt c2 è dt2;have ea:its.toArray++zi.toArray=(its++zi).toArray:=by simp
 refine Kd ⟨_,e,rfl⟩ ⟨_,e2,rfl⟩ noFill_list_add seq_list_add PySem.F.slot_list_add PySem.F.entry_list_add (PySem.F.args_list_add_2 _ _) (list_addW l b its.toArray zi.toArray n n2 Af Af sl Ô (by simp;omega)) ⟨e,e2,?_⟩
 rw[ea];exact⟨.ref _,_,I.lnew (t':=s.toks) (r.append r2) (by rw[BS];omega),rfl,q _ I.fresh⟩
theorem UK:ud X CL W (Ce .Add) (Dc .Add):=by
 intro A pI s Y H x y v u Q I rx ry ⟨hA,dx,dy,hx,hy,p⟩;cases dx with
 |int i=>
  cases dy with
  |int j=>
   have ex:=hx.int_of;have ey:=hy.int_of
   subst ex ey;exact qG pI s Y H _ _ v u Q I rx ry ⟨i,j,rfl,rfl,p _ H (Az.refl H) rfl⟩
  |_=>exact p.elim
 |str i=>
  cases dy with
  |str j=>
   have ex:=hx.str_of;have ey:=hy.str_of
   subst ex ey;simp only[Lc]at p;split at p
   .rename_i h;exact bT pI s Y H _ _ v u Q I rx ry ⟨i,j,rfl,rfl,La h,p _ H (Az.refl H) rfl⟩
   .exact p.elim
  |_=>exact p.elim
 |L ds=>
  cases dy with
  |L es=>
   obtain⟨a,xs,rfl,s1,r1⟩:=hx.lst_of;obtain⟨b,ys,rfl,s2,r2⟩:=hy.lst_of;simp only[VN]at p;split at p
   .rename_i h;refine UL pI s Y H _ _ v u Q I rx ry ⟨a,b,xs,ys,rfl,rfl,s1,s2,by rw[r1.length,r2.length];exact La h,λq hq=>?_⟩
    exact p _ _ (EZ hq _) (Va hA hq (r1.append r2))
   .exact p.elim
  |_=>exact p.elim
 |H ds=>
  cases dy with
  |H es=>
   obtain⟨a,xs,rfl,na1,s1,r1⟩:=hx.tup_of;obtain⟨b,ys,rfl,_,s2,r2⟩:=hy.tup_of;simp only[VM]at p;split at p
   .rename_i h;simp only[An]at h;refine mC pI s Y H _ _ v u Q I rx ry ⟨a,b,xs,ys,rfl,rfl,s1,s2,?_,by rw[r1.length,r2.length];exact La h.2,λhy0=>?_,λ_ q hq=>?_⟩
    .rintro rfl;cases ds with
     |nil=>cases h.1
     |cons _ _=>exact r1.elim
    .subst hy0;cases es with
     |nil=>rw[Bz]at p;exact p _ H (Az.refl H) ⟨a,xs,rfl,na1,s1,r1⟩
     |cons _ _=>exact r2.elim
    .exact p _ _ (EZ hq _) (N9 hA hq (r1.append r2))
   .exact p.elim
  |_=>exact p.elim
 |_=>exact p.elim
theorem N8{op:Gq}{C:Ai->Ai->Prop}{g:Ai->Ai->Ai}(ho:yu X (Ce op) (rI C λi j=>.int (g i j)))(hg:∀ dx dy,(∃ i j,dx=.int i/\dy=.int j/\((C i j/\Dc op dx dy=.ok (.int (g i j)))\/Dc op dx dy=.bad))\/Dc op dx dy=.bad):ud X CL W (Ce op) (Dc op):=by
 intro A pI s Y H x y v u Q I rx ry ⟨hA,dx,dy,hx,hy,p⟩;rcases hg dx dy with ⟨i,j,rfl,rfl,⟨c,e⟩|e⟩|e
 .have ex:=hx.int_of;have ey:=hy.int_of
  subst ex ey;rw[e]at p;exact ho pI s Y H _ _ v u Q I rx ry ⟨i,j,rfl,rfl,c,p _ H (Az.refl H) rfl⟩
 .rw[e]at p;exact p.elim
 .rw[e]at p;exact p.elim
theorem lU:ud X CL W (Ce .Sub) (Dc .Sub):=by
 intro A pI s Y H x y v u Q I rx ry ⟨hA,dx,dy,hx,hy,p⟩;cases dx with
 |int i=>
  cases dy with
  |int j=>
   have ex:=hx.int_of;have ey:=hy.int_of
   subst ex ey;exact qB pI s Y H _ _ v u Q I rx ry ⟨i,j,rfl,rfl,p _ H (Az.refl H) rfl⟩
  |_=>exact p.elim
 |_=>exact p.elim
theorem lW:ud X CL W (Ce .Mult) (Dc .Mult):=N8 lZ λdx dy=>by
 cases dx with
 |int i=>
  cases dy with
  |int j=>
   refine .inl ⟨i,j,rfl,rfl,?_⟩;rw[qL];split
   .rename_i h;exact .inl ⟨lE h,rfl⟩
   .exact .inr rfl
  |_=>exact .inr rfl
 |_=>exact .inr rfl
theorem eV:ud X CL W (Ce .FloorDiv) (Dc .FloorDiv):=N8 mB λdx dy=>by
 cases dx with
 |int i=>
  cases dy with
  |int j=>
   refine .inl ⟨i,j,rfl,rfl,?_⟩;rw[nK];split
   .rename_i h;exact .inl ⟨h,rfl⟩
   .exact .inr rfl
  |_=>exact .inr rfl
 |_=>exact .inr rfl
theorem lX:ud X CL W (Ce .Mod) (Dc .Mod):=N8 qE λdx dy=>by
 cases dx with
 |int i=>
  cases dy with
  |int j=>
   refine .inl ⟨i,j,rfl,rfl,?_⟩;rw[qM];split
   .rename_i h;exact .inl ⟨h,rfl⟩
   .exact .inr rfl
  |_=>exact .inr rfl
 |_=>exact .inr rfl
theorem lV:ud X CL W (Ce .Pow) (Dc .Pow):=N8 qC λdx dy=>by
 cases dx with
 |int i=>
  cases dy with
  |int j=>
   refine .inl ⟨i,j,rfl,rfl,?_⟩;rw[rM];split
   .rename_i h;exact .inl ⟨⟨h.1.1,h.1.2,by omega⟩,rfl⟩
   .exact .inr rfl
  |_=>exact .inr rfl
 |_=>exact .inr rfl
theorem Qs(op:Gq):ud X CL W (Ce op) (Dc op):=by
 cases op with
 |Add=>exact UK
 |Sub=>exact lU
 |Mult=>exact lW
 |FloorDiv=>exact eV
 |Mod=>exact lX
 |Pow=>exact lV
 |_=>
  intro A pI s Y H x y v u Q I rx ry ⟨hA,dx,dy,hx,hy,p⟩;exact p.elim
noncomputable abbrev A0:Ak->Prop:=λ_=>AN
theorem CA.plain(h:CA K CL H A v d):Z7 K CL H A0 v d:=by
 rcases h with h|⟨a,xs,ds,rfl,rfl,e,r⟩
 .exact Z7.sub (λ_ z=>z.elim) d h
 .exact⟨a,xs,rfl,.inl λz=>z.elim,IO.of e,Z9.sub (λ_ z=>z.elim) ds r⟩
mutual
theorem fV:∀(n:Ag)(d:D),Y8 n d=Ab->Tm d d=Ab
 |_,.O,_=>rfl
 |_,.bl b,_=>by simp
 |_,.int i,_=>by simp
 |_,.str x,_=>by simp
 |n+1,.H ds,h=>by
  show LT ds ds=Ab;exact zm n ds h
 |n+1,.L ds,h=>by
  show LT ds ds=Ab;exact zm n ds h
 |0,.H ds,h=>by cases h
 |0,.L ds,h=>by cases h
 |n,.obj _ _,h=>by cases n<;>cases h
 |n,.exc _ _,h=>by cases n<;>cases h
 |n,.dic _,h=>by cases n<;>cases h
theorem zm:∀(n:Ag)(ds:Ac D),ds.all (Y8 n)=Ab->LT ds ds=Ab
 |_,[],_=>rfl
 |n,d::ds,h=>by
  simp only[E9,An]at h;simp only[P0,An];exact⟨fV n d h.1,zm n ds h.2⟩
end
theorem SN{ys:Ac V}(I:Z8 X pI Y H s)(h:IO X.K H a xs)(h':yk X.K H a ys):AN:=by
 obtain⟨its,r,⟨o,n,e,c,_,_⟩,_⟩:=I.list h;obtain⟨its',r',⟨o',e',c',_⟩,_⟩:=I.tuple h';rw[e]at e';cases e';rw[c]at c'
 injection c' with z
 exact absurd z (by decide)
mutual
theorem MZ{pI:Pn}{Y:L2.St}{H:Hp}{s:Ar}(I:Z8 X pI Y H s):∀(n:Ag)(d e:D){v:V},Y8 n d=Ab->Y8 n e=Ab->Z7 X.K CL H A0 v d->Z7 X.K CL H A0 v e->d=e
 |n,.H ds,e,v,hd,he,r,q=>by
  obtain⟨a,xs,rfl,_,s1,r1⟩:=r;cases e with
  |H es=>
   obtain⟨b,ys,e,_,s2,r2⟩:=q;cases e;have z:=I.tuple_inj s1 s2;subst z;cases n with
   |zero=>cases hd
   |succ n=>rw[xo I n ds es hd he r1 r2]
  |L es=>
   obtain⟨b,ys,e,_,s2,r2⟩:=q;cases e;exact(SN I s2 s1).elim
  |obj=>cases n<;>cases he
  |exc=>cases n<;>cases he
  |dic=>cases n<;>cases he
  |_=>cases q
 |n,.L ds,e,v,hd,he,r,q=>by
  obtain⟨a,xs,rfl,_,s1,r1⟩:=r;cases e with
  |L es=>
   obtain⟨b,ys,e,_,s2,r2⟩:=q;cases e;have z:=I.list_inj s1 s2;subst z;cases n with
   |zero=>cases hd
   |succ n=>rw[xo I n ds es hd he r1 r2]
  |H es=>
   obtain⟨b,ys,e,_,s2,r2⟩:=q;cases e;exact(SN I s1 s2).elim
  |obj=>cases n<;>cases he
  |exc=>cases n<;>cases he
  |dic=>cases n<;>cases he
  |_=>cases q
 |n,.obj _ _,e,v,hd,he,r,q=>by cases n<;>cases hd
 |n,.exc _ _,e,v,hd,he,r,q=>by cases n<;>cases hd
 |n,.dic _,e,v,hd,he,r,q=>by cases n<;>cases hd
 |n,.O,e,v,hd,he,r,q=>by
  cases r;cases e with
  |H=>obtain⟨_,_,z,_⟩:=q;cases z
  |L=>obtain⟨_,_,z,_⟩:=q;cases z
  |obj=>cases n<;>cases he
  |exc=>cases n<;>cases he
  |dic=>cases n<;>cases he
  |_=>cases q<;>rfl
 |n,.bl b,e,v,hd,he,r,q=>by
  cases r;cases e with
  |H=>obtain⟨_,_,z,_⟩:=q;cases z
  |L=>obtain⟨_,_,z,_⟩:=q;cases z
  |obj=>cases n<;>cases he
  |exc=>cases n<;>cases he
  |dic=>cases n<;>cases he
  |_=>cases q<;>rfl
 |n,.int b,e,v,hd,he,r,q=>by
  cases r;cases e with
  |H=>obtain⟨_,_,z,_⟩:=q;cases z
  |L=>obtain⟨_,_,z,_⟩:=q;cases z
  |obj=>cases n<;>cases he
  |exc=>cases n<;>cases he
  |dic=>cases n<;>cases he
  |_=>cases q<;>rfl
 |n,.str b,e,v,hd,he,r,q=>by
  cases r;cases e with
  |H=>obtain⟨_,_,z,_⟩:=q;cases z
  |L=>obtain⟨_,_,z,_⟩:=q;cases z
  |obj=>cases n<;>cases he
  |exc=>cases n<;>cases he
  |dic=>cases n<;>cases he
  |_=>cases q<;>rfl
theorem xo{pI:Pn}{Y:L2.St}{H:Hp}{s:Ar}(I:Z8 X pI Y H s):∀(n:Ag)(ds es:Ac D){xs:Ac V},ds.all (Y8 n)=Ab->es.all (Y8 n)=Ab->Z9 X.K CL H A0 xs ds->Z9 X.K CL H A0 xs es->ds=es
 |_,[],[],_,_,_,_,_=>rfl
 |n,d::ds,e::es,x::xs,hd,he,r,q=>by
  simp only[E9,An]at hd he;rw[MZ I n d e hd.1 he.1 r.1 q.1,xo I n ds es hd.2 he.2 r.2 q.2]
 |_,[],_::_,[],_,_,_,q=>q.elim
 |_,[],_::_,_::_,_,_,r,_=>r.elim
 |_,_::_,[],[],_,_,r,_=>r.elim
 |_,_::_,[],_::_,_,_,_,q=>q.elim
 |_,_::_,_::_,[],_,_,r,_=>r.elim
end
theorem MV:∀{ds es:Ac D},ds.length≠es.length->LT ds es=Ae
 |[],[],h=>absurd rfl h
 |[],_::_,_=>rfl
 |_::_,[],_=>rfl
 |d::ds,e::es,h=>by
  simp only[P0,MV (ds:=ds) (es:=es) (by simpa using h),Jf]
theorem Sq(n:Ag)(f:Ag->Am):(BO (n+1)).all f=(f 0&&(BO n).all λj=>f (j+1)):=by
 rw[List.range_succ_eq_map,E9,EC];rfl
theorem MW:∀{ds es:Ac D},ds.length=es.length->LT ds es=(BO ds.length).all λj=>Tm (ds.getD j .O) (es.getD j .O)
 |[],[],_=>rfl
 |d::ds,e::es,h=>by
  rw[P0,MW (ds:=ds) (es:=es) (by simpa using h),Bi,Sq]
  rfl
 |[],_::_,h=>by cases h
 |_::_,[],h=>by cases h
theorem JA{ds:Ac D}(r:Z9 K CL H A0 xs ds)(rv:A1 xs its)(h:j<its.length):∃ x,Z7 K CL H A0 x (ds.getD j .O)/\Bs x its[j]:=by
 have e1:=rv.length;have e2:=r.length;have hd:ds[j]?=Aa (ds.getD j .O):=by
  rw[Dj,Cy (by omega)];rfl
 obtain⟨x,hx,q⟩:=r.get hd;obtain⟨u,hu,ru⟩:=rv.get hx;refine⟨x,q,?_⟩;rw[Cy h]at hu;cases hu;exact ru
theorem IL{ds:Ac D}(h:ds.all (Y8 n)=Ab)(j:Ag):Y8 n (ds.getD j .O)=Ab:=by
 rw[Dj];cases e:ds[j]? with
 |none=>cases n<;>rfl
 |some d=>exact Bh.mp h d (GK e)
def CK(B:A4)(s:Ar)(u t:Al)(k:Am):Prop:=LK B s u t k/\Ek B s u t k/\J8 B s u t (!k)
section
variable{B:A4}{s:Ar}
open SeqAt
theorem wL:CK B s .none .none Ab:=⟨RcAt.none_none,EqAt.same _,RcNeAt.none_none⟩
theorem vP(a b:Am):CK B s (.bool a) (.bool b) (a==b):=⟨RcAt.bool_bool _ _,EqAt.bool_bool _ _,RcNeAt.bool_bool _ _⟩
theorem wO(b:Am):CK B s .none (.bool b) Ae:=⟨RcAt.none_bool _,EqAt.none_bool _,RcNeAt.none_bool _⟩
theorem vM(b:Am):CK B s (.bool b) .none Ae:=⟨RcAt.bool_none _,EqAt.bool_none _,RcNeAt.bool_none _⟩
theorem vH(a:Ai)(t:Cd)(b:Ai)(u:Cd):CK B s (.int a t) (.int b u) (a==b):=⟨RcAt.int_int _ _ _ _,EqAt.int_int _ _ _ _,RcNeAt.int_int _ _ _ _⟩
theorem wD(a:Ah)(t:Cd)(b:Ah)(u:Cd):CK B s (.str a t) (.str b u) (a==b):=⟨RcAt.str_str _ _ _ _,EqAt.str_str _ _ _ _,RcNeAt.str_str _ _ _ _⟩
theorem vE(a:Ai)(t:Cd)(b:Ah)(u:Cd):CK B s (.int a t) (.str b u) Ae:=⟨RcAt.int_str _ _ _ _,EqAt.int_str _ _ _ _,RcNeAt.int_str _ _ _ _⟩
theorem wH(a:Ah)(t:Cd)(b:Ai)(u:Cd):CK B s (.str a t) (.int b u) Ae:=⟨RcAt.str_int _ _ _ _,EqAt.str_int _ _ _ _,RcNeAt.str_int _ _ _ _⟩
theorem wN(b:Ai)(u:Cd):CK B s .none (.int b u) Ae:=⟨RcAt.none_int _ _,EqAt.none_int _ _,RcNeAt.none_int _ _⟩
theorem vF(b:Ai)(u:Cd):CK B s (.int b u) .none Ae:=⟨RcAt.int_none _ _,EqAt.int_none _ _,RcNeAt.int_none _ _⟩
theorem wK(b:Ah)(u:Cd):CK B s .none (.str b u) Ae:=⟨RcAt.none_str _ _,EqAt.none_str _ _,RcNeAt.none_str _ _⟩
theorem wE(b:Ah)(u:Cd):CK B s (.str b u) .none Ae:=⟨RcAt.str_none _ _,EqAt.str_none _ _,RcNeAt.str_none _ _⟩
theorem vO(a:Am)(b:Ai)(u:Cd):CK B s (.bool a) (.int b u) (æ a==b):=⟨RcAt.bool_int _ _ _,EqAt.bool_int _ _ _,RcNeAt.bool_int _ _ _⟩
theorem vJ(a:Am)(b:Ai)(u:Cd):CK B s (.int b u) (.bool a) (b==æ a):=⟨RcAt.int_bool _ _ _,EqAt.int_bool _ _ _,RcNeAt.int_bool _ _ _⟩
theorem vL(a:Am)(b:Ah)(u:Cd):CK B s (.bool a) (.str b u) Ae:=⟨RcAt.bool_str _ _ _,EqAt.bool_str _ _ _,RcNeAt.bool_str _ _ _⟩
theorem wI(a:Am)(b:Ah)(u:Cd):CK B s (.str b u) (.bool a) Ae:=⟨RcAt.str_bool _ _ _,EqAt.str_bool _ _ _,RcNeAt.str_bool _ _ _⟩
variable{l:Ak}{items:Bl Al}
theorem vA(h:s.heap.IsList l items)(hu:B.units<BD):CK B s (.ref l) .none Ae:=⟨RcAt.list_none h hu,EqAt.list_none h hu,RcNeAt.list_none h hu⟩
theorem wM(h:s.heap.IsList l items)(hu:B.units<BD):CK B s .none (.ref l) Ae:=⟨RcAt.none_list h hu,EqAt.none_list h hu,RcNeAt.none_list h hu⟩
theorem vC(b:Am)(h:s.heap.IsList l items)(hu:B.units<BD):CK B s (.ref l) (.bool b) Ae:=⟨RcAt.list_bool b h hu,EqAt.list_bool b h hu,RcNeAt.list_bool b h hu⟩
theorem vN(b:Am)(h:s.heap.IsList l items)(hu:B.units<BD):CK B s (.bool b) (.ref l) Ae:=⟨RcAt.bool_list b h hu,EqAt.bool_list b h hu,RcNeAt.bool_list b h hu⟩
theorem vB(b:Ai)(u:Cd)(h:s.heap.IsList l items)(hu:B.units<BD):CK B s (.ref l) (.int b u) Ae:=⟨RcAt.list_int b u h hu,EqAt.list_int b u h hu,RcNeAt.list_int b u h hu⟩
theorem vG(b:Ai)(u:Cd)(h:s.heap.IsList l items)(hu:B.units<BD):CK B s (.int b u) (.ref l) Ae:=⟨RcAt.int_list b u h hu,EqAt.int_list b u h hu,RcNeAt.int_list b u h hu⟩
theorem uZ(b:Ah)(u:Cd)(h:s.heap.IsList l items)(hu:B.units<BD):CK B s (.ref l) (.str b u) Ae:=⟨RcAt.list_str b u h hu,EqAt.list_str b u h hu,RcNeAt.list_str b u h hu⟩
theorem wG(b:Ah)(u:Cd)(h:s.heap.IsList l items)(hu:B.units<BD):CK B s (.str b u) (.ref l) Ae:=⟨RcAt.str_list b u h hu,EqAt.str_list b u h hu,RcNeAt.str_list b u h hu⟩
theorem vY(h:s.heap.IsTuple l items)(hu:B.units<BD):CK B s (.ref l) .none Ae:=⟨RcAt.tuple_none h hu,EqAt.tuple_none h hu,RcNeAt.tuple_none h hu⟩
theorem wJ(h:s.heap.IsTuple l items)(hu:B.units<BD):CK B s .none (.ref l) Ae:=⟨RcAt.none_tuple h hu,EqAt.none_tuple h hu,RcNeAt.none_tuple h hu⟩
theorem wB(b:Am)(h:s.heap.IsTuple l items)(hu:B.units<BD):CK B s (.ref l) (.bool b) Ae:=⟨RcAt.tuple_bool b h hu,EqAt.tuple_bool b h hu,RcNeAt.tuple_bool b h hu⟩
theorem vK(b:Am)(h:s.heap.IsTuple l items)(hu:B.units<BD):CK B s (.bool b) (.ref l) Ae:=⟨RcAt.bool_tuple b h hu,EqAt.bool_tuple b h hu,RcNeAt.bool_tuple b h hu⟩
theorem wA(b:Ai)(u:Cd)(h:s.heap.IsTuple l items)(hu:B.units<BD):CK B s (.ref l) (.int b u) Ae:=⟨RcAt.tuple_int b u h hu,EqAt.tuple_int b u h hu,RcNeAt.tuple_int b u h hu⟩
theorem vD(b:Ai)(u:Cd)(h:s.heap.IsTuple l items)(hu:B.units<BD):CK B s (.int b u) (.ref l) Ae:=⟨RcAt.int_tuple b u h hu,EqAt.int_tuple b u h hu,RcNeAt.int_tuple b u h hu⟩
theorem vX(b:Ah)(u:Cd)(h:s.heap.IsTuple l items)(hu:B.units<BD):CK B s (.ref l) (.str b u) Ae:=⟨RcAt.tuple_str b u h hu,EqAt.tuple_str b u h hu,RcNeAt.tuple_str b u h hu⟩
theorem wC(b:Ah)(u:Cd)(h:s.heap.IsTuple l items)(hu:B.units<BD):CK B s (.str b u) (.ref l) Ae:=⟨RcAt.str_tuple b u h hu,EqAt.str_tuple b u h hu,RcNeAt.str_tuple b u h hu⟩
theorem uY(h:s.heap.IsList l items)(h2:s.heap.IsTuple b qu)(hu:B.units<BD):CK B s (.ref l) (.ref b) Ae:=⟨RcAt.list_tuple h h2 hu,EqAt.list_tuple h h2 hu,RcNeAt.list_tuple h h2 hu⟩
theorem vZ(h:s.heap.IsTuple l items)(h2:s.heap.IsList b qu)(hu:B.units<BD):CK B s (.ref l) (.ref b) Ae:=⟨RcAt.tuple_list h h2 hu,EqAt.tuple_list h h2 hu,RcNeAt.tuple_list h h2 hu⟩
end
end
section
variable{X:Cx}{CL:ClA}{W:XW}
theorem Md{its:Bl Al}(x:PlainL h a its):h.IsList a its:=let ⟨o,n,e,c,_,d⟩:=x;⟨o,e,c,n,d⟩
def aW(X:Cx)(CL:ClA)(H:Hp)(s:Ar)(d:D)(u:Al):Prop:=match d with
  |.O=>u=.none
  |.bl b=>u=.bool b
  |.int i=>∃ t,u=.int i t
  |.str x=>∃ t,u=.str x t
  |.H ds=>∃ a xs its,u=.ref a/\Z9 X.K CL H A0 xs ds/\A1 xs its/\s.heap.IsTuple a its.toArray
  |.L ds=>∃ a xs its,u=.ref a/\Z9 X.K CL H A0 xs ds/\A1 xs its/\s.heap.IsList a its.toArray
  |_=>AN
theorem UV(I:Z8 X pI Y H s)(hd:Y8 n d=Ab)(r:Z7 X.K CL H A0 v d)(q:Bs v u):aW X CL H s d u:=by
 cases d with
 |O=>cases r;exact q
 |bl b=>cases r;exact q
 |int b=>cases r;exact q
 |str b=>cases r;exact q
 |H ds=>
  obtain⟨a,xs,rfl,_,sq,r⟩:=r;obtain⟨its,rv,p,_⟩:=I.tuple sq;cases q;exact⟨a,xs,its,rfl,r,rv,p⟩
 |L ds=>
  obtain⟨a,xs,rfl,_,sq,r⟩:=r;obtain⟨its,rv,p,_⟩:=I.list sq;cases q;exact⟨a,xs,its,rfl,r,rv,Md p⟩
 |obj=>cases n<;>cases hd
 |exc=>cases n<;>cases hd
 |dic=>cases n<;>cases hd
theorem jL{B:A4}{ds es:Ac D}(hl:s.heap.IsList l its.toArray)(hb:s.heap.IsList b zi.toArray)(e1:its.length=ds.length)(e2:zi.length=es.length)(hu:B.units<BD)(hs:l=b->LT ds es=Ab)(he:∀ j (h1:j<its.length) (h2:j<zi.length),Ek B.in1 s its[j] zi[j] (Tm (ds.getD j .O) (es.getD j .O))):CK B s (.ref l) (.ref b) (LT ds es):=by
 have rc:LK B s (.ref l) (.ref b) (LT ds es):=by
  by_cases hz:its.length=zi.length
  .have q:=SeqAt.RcAt.lists (e:=λj=>Tm (ds.getD j .O) (es.getD j .O)) hl hb (by simpa using hz) hu (λj h1 h2=>by simpa using he j (by simpa using h1) (by simpa using h2))
   rw[MW (by omega)]
   have e:its.toArray.size=ds.length:=by simpa using e1
   rwa [e]at q
  .rw[MV (by omega)]
   exact SeqAt.RcAt.lists_lengths hl hb (by simpa using hz) hu
 have ne:J8 B s (.ref l) (.ref b) (!LT ds es):=by
  by_cases hz:its.length=zi.length
  .have q:=SeqAt.RcNeAt.lists (e:=λj=>Tm (ds.getD j .O) (es.getD j .O)) hl hb (by simpa using hz) hu (λj h1 h2=>by simpa using he j (by simpa using h1) (by simpa using h2))
   rw[MW (by omega)]
   have e:its.toArray.size=ds.length:=by simpa using e1
   rwa [e]at q
  .rw[MV (by omega)]
   exact SeqAt.RcNeAt.lists_lengths hl hb (by simpa using hz) hu
 refine⟨rc,?_,ne⟩;by_cases hlb:l=b
 .rw[hs hlb,hlb];exact ZH _
 .exact ZG hlb rc
theorem jK{B:A4}{ds es:Ac D}(hl:s.heap.IsTuple l its.toArray)(hb:s.heap.IsTuple b zi.toArray)(e1:its.length=ds.length)(e2:zi.length=es.length)(hu:B.units<BD)(hs:l=b->LT ds es=Ab)(he:∀ j (h1:j<its.length) (h2:j<zi.length),Ek B.in1 s its[j] zi[j] (Tm (ds.getD j .O) (es.getD j .O))):CK B s (.ref l) (.ref b) (LT ds es):=by
 have rc:LK B s (.ref l) (.ref b) (LT ds es):=by
  have q:=SeqAt.RcAt.tuples (e:=λj=>Tm (ds.getD j .O) (es.getD j .O)) hl hb hu (λj h1 h2=>by simpa using he j (by simpa using h1) (by simpa using h2))
  have e:its.toArray.size=ds.length:=by simpa using e1
  have e':zi.toArray.size=es.length:=by simpa using e2
  rw[e,e']at q;by_cases hz:ds.length=es.length
  .rw[MW hz];rw[hz,YC,Cv,JU]at q;rw[hz];exact q
  .rw[MV hz]
   rwa [Bg.mpr hz,Jf]at q
 have ne:J8 B s (.ref l) (.ref b) (!LT ds es):=by
  have q:=SeqAt.RcNeAt.tuples (e:=λj=>Tm (ds.getD j .O) (es.getD j .O)) hl hb hu (λj h1 h2=>by simpa using he j (by simpa using h1) (by simpa using h2))
  have e:its.toArray.size=ds.length:=by simpa using e1
  have e':zi.toArray.size=es.length:=by simpa using e2
  rw[e,e']at q;by_cases hz:ds.length=es.length
  .rw[MW hz];rw[hz,YC,Cv,JU]at q;rw[hz];exact q
  .rw[MV hz]
   rwa [Bg.mpr hz,Jf]at q
 refine⟨rc,?_,ne⟩;by_cases hlb:l=b
 .rw[hs hlb,hlb];exact ZH _
 .exact ZG hlb rc
theorem L9{pI:Pn}{Y:L2.St}{H:Hp}{s:Ar}(I:Z8 X pI Y H s):∀(n:Ag)(d e:D)(v w':V)(u t:Al)(B:A4),Y8 n d=Ab->Y8 n e=Ab->Z7 X.K CL H A0 v d->Z7 X.K CL H A0 w' e->Bs v u->Bs w' t->B.units+n<BD->CK B s u t (Tm d e)
  |n,d,e,v,w',u,t,B,hd,he,r,q,rv,wy,hu=>by
    have xa:B.units<BD:=by omega
    have sd:=UV I hd r rv;have se:=UV I he q wy
    match d,e,sd,se with
    |.O,.O,s1,s2=>cases s1;cases s2;exact wL
    |.O,.bl b,s1,s2=>cases s1;cases s2;exact wO b
    |.O,.int b,s1,s2=>cases s1;obtain⟨_,rfl⟩:=s2;exact wN b _
    |.O,.str b,s1,s2=>cases s1;obtain⟨_,rfl⟩:=s2;exact wK b _
    |.O,.H es,s1,s2=>cases s1;obtain⟨_,_,_,rfl,_,_,p⟩:=s2;exact wJ p xa
    |.O,.L es,s1,s2=>cases s1;obtain⟨_,_,_,rfl,_,_,p⟩:=s2;exact wM p xa
    |.bl a,.O,s1,s2=>cases s1;cases s2;exact vM a
    |.bl a,.bl b,s1,s2=>cases s1;cases s2;exact vP a b
    |.bl a,.int b,s1,s2=>cases s1;obtain⟨_,rfl⟩:=s2;exact vO a b _
    |.bl a,.str b,s1,s2=>cases s1;obtain⟨_,rfl⟩:=s2;exact vL a b _
    |.bl a,.H es,s1,s2=>cases s1;obtain⟨_,_,_,rfl,_,_,p⟩:=s2;exact vK a p xa
    |.bl a,.L es,s1,s2=>cases s1;obtain⟨_,_,_,rfl,_,_,p⟩:=s2;exact vN a p xa
    |.int a,.O,s1,s2=>obtain⟨_,rfl⟩:=s1;cases s2;exact vF a _
    |.int a,.bl b,s1,s2=>obtain⟨_,rfl⟩:=s1;cases s2;exact vJ b a _
    |.int a,.int b,s1,s2=>obtain⟨_,rfl⟩:=s1;obtain⟨_,rfl⟩:=s2;exact vH a _ b _
    |.int a,.str b,s1,s2=>obtain⟨_,rfl⟩:=s1;obtain⟨_,rfl⟩:=s2;exact vE a _ b _
    |.int a,.H es,s1,s2=>obtain⟨_,rfl⟩:=s1;obtain⟨_,_,_,rfl,_,_,p⟩:=s2;exact vD a _ p xa
    |.int a,.L es,s1,s2=>obtain⟨_,rfl⟩:=s1;obtain⟨_,_,_,rfl,_,_,p⟩:=s2;exact vG a _ p xa
    |.str a,.O,s1,s2=>obtain⟨_,rfl⟩:=s1;cases s2;exact wE a _
    |.str a,.bl b,s1,s2=>obtain⟨_,rfl⟩:=s1;cases s2;exact wI b a _
    |.str a,.int b,s1,s2=>obtain⟨_,rfl⟩:=s1;obtain⟨_,rfl⟩:=s2;exact wH a _ b _
    |.str a,.str b,s1,s2=>obtain⟨_,rfl⟩:=s1;obtain⟨_,rfl⟩:=s2;exact wD a _ b _
    |.str a,.H es,s1,s2=>obtain⟨_,rfl⟩:=s1;obtain⟨_,_,_,rfl,_,_,p⟩:=s2;exact wC a _ p xa
    |.str a,.L es,s1,s2=>obtain⟨_,rfl⟩:=s1;obtain⟨_,_,_,rfl,_,_,p⟩:=s2;exact wG a _ p xa
    |.H ds,.O,s1,s2=>cases s2;obtain⟨_,_,_,rfl,_,_,p⟩:=s1;exact vY p xa
    |.H ds,.bl b,s1,s2=>cases s2;obtain⟨_,_,_,rfl,_,_,p⟩:=s1;exact wB b p xa
    |.H ds,.int b,s1,s2=>obtain⟨_,rfl⟩:=s2;obtain⟨_,_,_,rfl,_,_,p⟩:=s1;exact wA b _ p xa
    |.H ds,.str b,s1,s2=>obtain⟨_,rfl⟩:=s2;obtain⟨_,_,_,rfl,_,_,p⟩:=s1;exact vX b _ p xa
    |.H ds,.L es,s1,s2=>obtain⟨_,_,_,rfl,_,_,p⟩:=s1;obtain⟨_,_,_,rfl,_,_,p2⟩:=s2;exact vZ p p2 xa
    |.L ds,.O,s1,s2=>cases s2;obtain⟨_,_,_,rfl,_,_,p⟩:=s1;exact vA p xa
    |.L ds,.bl b,s1,s2=>cases s2;obtain⟨_,_,_,rfl,_,_,p⟩:=s1;exact vC b p xa
    |.L ds,.int b,s1,s2=>obtain⟨_,rfl⟩:=s2;obtain⟨_,_,_,rfl,_,_,p⟩:=s1;exact vB b _ p xa
    |.L ds,.str b,s1,s2=>obtain⟨_,rfl⟩:=s2;obtain⟨_,_,_,rfl,_,_,p⟩:=s1;exact uZ b _ p xa
    |.L ds,.H es,s1,s2=>obtain⟨_,_,_,rfl,_,_,p⟩:=s1;obtain⟨_,_,_,rfl,_,_,p2⟩:=s2;exact uY p p2 xa
    |.H ds,.H es,s1,s2=>
      match n,hd,he,hu with
      |n+1,hd,he,hu=>
        obtain⟨a,xs,its,rfl,r1,v1,p1⟩:=s1;obtain⟨b,ys,zi,rfl,r2,v2,p2⟩:=s2;have l1:=v1.length;have l2:=r1.length;have l3:=v2.length;have l4:=r2.length
        refine jK p1 p2 (by omega) (by omega) xa (λhab=>?_) λj h1 h2=>?_
        · have e1:v=.ref a:=Bs.inj rv rfl;have e2:w'=.ref b:=Bs.inj wy rfl;subst e1 e2 hab;have z:=MZ I (n+1) _ _ hd he r q
          injection z with z
          rw[z];exact zm n es he
        · obtain⟨x,rx,qx⟩:=JA r1 v1 h1;obtain⟨y,ry,qy⟩:=JA r2 v2 h2;exact(L9 I n _ _ x y _ _ B.in1 (IL hd j) (IL he j) rx ry qx qy (by show B.units+1+n<BD;omega)).2.1
    |.L ds,.L es,s1,s2=>
      match n,hd,he,hu with
      |n+1,hd,he,hu=>
        obtain⟨a,xs,its,rfl,r1,v1,p1⟩:=s1;obtain⟨b,ys,zi,rfl,r2,v2,p2⟩:=s2;have l1:=v1.length;have l2:=r1.length;have l3:=v2.length;have l4:=r2.length
        refine jL p1 p2 (by omega) (by omega) xa (λhab=>?_) λj h1 h2=>?_
        · have e1:v=.ref a:=Bs.inj rv rfl;have e2:w'=.ref b:=Bs.inj wy rfl;subst e1 e2 hab;have z:=MZ I (n+1) _ _ hd he r q
          injection z with z
          rw[z];exact zm n es he
        · obtain⟨x,rx,qx⟩:=JA r1 v1 h1;obtain⟨y,ry,qy⟩:=JA r2 v2 h2;exact(L9 I n _ _ x y _ _ B.in1 (IL hd j) (IL he j) rx ry qx qy (by show B.units+1+n<BD;omega)).2.1
    |.obj _ _,_,s1,_=>exact s1.elim
    |.exc _ _,_,s1,_=>exact s1.elim
    |.dic _,_,s1,_=>exact s1.elim
    |_,.obj _ _,_,s2=>exact s2.elim
    |_,.exc _ _,_,s2=>exact s2.elim
    |_,.dic _,_,s2=>exact s2.elim
end
section
variable{X:Cx}{CL:ClA}{W:XW}
theorem Oo(I:Z8 X pI Y H s){ds:Ac D}(B:A4)(hd:Y8 n d=Ab)(hs:ds.all (Y8 n)=Ab)(r:Z9 X.K CL H A0 xs ds)(rv:A1 xs its)(q:Z7 X.K CL H A0 v d)(qv:Bs v u)(hu:B.units+n<BD):∃ e:Al->Am,(∀ y,y∈its.toArray->Ek B s y u (e y))/\its.toArray.any e=ds.any λy=>Tm y d:=by
 have l1:=rv.length;have l2:=r.length
 have key:∀ y,y∈its->∃ k:Am,Ek B s y u k/\∀ j (h:j<its.length),its[j]=y->Tm (ds.getD j .O) d=k:=λy hy=>by
  obtain⟨j,hj,rfl⟩:=Fn hy;obtain⟨x,rx,qx⟩:=JA r rv hj;refine⟨Tm (ds.getD j .O) d,(L9 I n _ _ x v _ _ B (IL hs j) hd rx q qx qv hu).2.1,λj' gv e=>?_⟩
  obtain⟨x',i5,ce⟩:=JA r rv gv;rw[e]at ce;have z:=Bs.inj qx ce;subst z;rw[MZ I n _ _ (IL hs j') (IL hs j) i5 rx]
 have wg:∀ y,∃ k:Am,y∈its->Ek B s y u k/\∀ j (h:j<its.length),its[j]=y->Tm (ds.getD j .O) d=k:=λy=>by
  by_cases hy:y∈its
  .obtain⟨k,hk⟩:=key y hy;exact⟨k,λ_=>hk⟩
  .exact⟨Ab,λh=>absurd h hy⟩
 refine⟨λy=>X3 (wg y),λy hy=>(DN (wg y) (by simpa using hy)).1,?_⟩
 rw[DM];simp only[List.any_toArray,EQ];constructor
 .rintro⟨y,hy,hk⟩;obtain⟨j,hj,rfl⟩:=Fn hy;have z:=(DN (wg its[j]) hy).2 j hj rfl;rw[hk]at z;refine⟨ds.getD j .O,?_,z⟩;rw[Dj,Cy (by omega)]
  exact ER _
 .rintro⟨y,hy,hk⟩;obtain⟨j,hj,rfl⟩:=Fn hy;have gv:j<its.length:=by omega
  refine⟨its[j],ER _,?_⟩;have z:=(DN (wg its[j]) (ER _)).2 j gv rfl;rw[<-z,Dj,Cy hj];exact hk
theorem N1{g:Ai->Ai->Am}(ho:yu X (CO op) (ot λi j=>.bl (g i j)))(hg:∀ dx dy,(∃ i j,dx=.int i/\dy=.int j/\BP op dx dy=.ok (.bl (g i j)))\/BP op dx dy=.bad):ud X CL W (CO op) (BP op):=by
 intro A pI s Y H x y v u Q I rx ry ⟨hA,dx,dy,hx,hy,p⟩;rcases hg dx dy with ⟨i,j,rfl,rfl,e⟩|e
 .have ex:=hx.int_of;have ey:=hy.int_of
  subst ex ey;rw[e]at p;exact ho pI s Y H _ _ v u Q I rx ry ⟨i,j,rfl,rfl,p _ H (Az.refl H) rfl⟩
 .rw[e]at p;exact p.elim
theorem Wc{x:V}(h:CA X.K CL H A x d)(hd:d≠.O):x≠.O:=by
 rintro rfl;have h:=h.plain;cases d with
 |O=>exact hd rfl
 |H=>obtain⟨_,_,e,_⟩:=h;cases e
 |L=>obtain⟨_,_,e,_⟩:=h;cases e
 |obj=>obtain⟨_,_,_,_,e,_⟩:=h;cases e
 |exc=>obtain⟨_,_,_,e,_⟩:=h;cases e
 |dic=>exact h.elim
 |_=>cases h
theorem IM(hu:X.A.units+64<BD)(op:DB):ud X CL W (CO op) (BP op):=by
 cases op with
 |Eq=>
  intro A pI s Y H x y v u Q I rx ry ⟨hA,dx,dy,hx,hy,p⟩;rw[yP]at p;split at p
  .rename_i h;simp only[An]at h;exact(L9 I 5 dx dy x y v u X.A h.1 h.2 hx.plain hy.plain rx ry (by omega)).1 X.prog X.w X.xe _ ⟨.bl _,H,I,rfl,p _ H (Az.refl H) rfl⟩
  .exact p.elim
 |NotEq=>
  intro A pI s Y H x y v u Q I rx ry ⟨hA,dx,dy,hx,hy,p⟩;rw[xX]at p;split at p
  .rename_i h;simp only[An]at h;exact(L9 I 5 dx dy x y v u X.A h.1 h.2 hx.plain hy.plain rx ry (by omega)).2.2 X.prog X.w X.xe _ ⟨.bl _,H,I,rfl,p _ H (Az.refl H) rfl⟩
  .exact p.elim
 |Lt=>
  refine N1 xO λdx dy=>?_
  cases dx with
  |int i=>
   cases dy with
   |int j=>exact .inl ⟨i,j,rfl,rfl,rfl⟩
   |_=>exact .inr rfl
  |_=>exact .inr rfl
 |LtE=>
  refine N1 xP λdx dy=>?_
  cases dx with
  |int i=>
   cases dy with
   |int j=>exact .inl ⟨i,j,rfl,rfl,rfl⟩
   |_=>exact .inr rfl
  |_=>exact .inr rfl
 |Gt=>
  refine N1 xQ λdx dy=>?_
  cases dx with
  |int i=>
   cases dy with
   |int j=>exact .inl ⟨i,j,rfl,rfl,rfl⟩
   |_=>exact .inr rfl
  |_=>exact .inr rfl
 |GtE=>
  refine N1 xR λdx dy=>?_
  cases dx with
  |int i=>
   cases dy with
   |int j=>exact .inl ⟨i,j,rfl,rfl,rfl⟩
   |_=>exact .inr rfl
  |_=>exact .inr rfl
 |In=>
  intro A pI s Y H x y v u Q I rx ry ⟨hA,dx,dy,hx,hy,p⟩;cases dy with
  |L es=>
   rw[zR]at p;split at p
   .rename_i h;simp only[An]at h;obtain⟨a,xs,e,_,sq,r⟩:=hy.plain;subst e;cases ry;obtain⟨its,rv,pl,_⟩:=I.list sq;obtain⟨e,he,ha⟩:=Oo I (n:=5) X.A.in1 h.1 h.2 r rv hx.plain rx (by show X.A.units+1+5<BD;omega)
    refine SeqAt.in_listAt e (Md pl) he ?_;rw[ha];exact⟨.bl _,H,I,rfl,p _ H (Az.refl H) rfl⟩
   .exact p.elim
  |H es=>
   rw[zQ]at p;split at p
   .rename_i h;simp only[An]at h;obtain⟨a,xs,e,_,sq,r⟩:=hy.plain;subst e;cases ry;obtain⟨its,rv,pl,_⟩:=I.tuple sq;obtain⟨e,he,ha⟩:=Oo I (n:=5) X.A.in1 h.1 h.2 r rv hx.plain rx (by show X.A.units+1+5<BD;omega)
    refine SeqAt.in_tupleAt e pl he ?_;rw[ha];exact⟨.bl _,H,I,rfl,p _ H (Az.refl H) rfl⟩
   .exact p.elim
  |dic kvs=>exact hy.plain.elim
  |_=>exact p.elim
 |NotIn=>
  intro A pI s Y H x y v u Q I rx ry ⟨hA,dx,dy,hx,hy,p⟩;cases dy with
  |L es=>
   rw[xW]at p;split at p
   .rename_i h;simp only[An]at h;obtain⟨a,xs,e,_,sq,r⟩:=hy.plain;subst e;cases ry;obtain⟨its,rv,pl,_⟩:=I.list sq;obtain⟨e,he,ha⟩:=Oo I (n:=5) X.A.in1 h.1 h.2 r rv hx.plain rx (by show X.A.units+1+5<BD;omega)
    refine SeqAt.notIn_listAt e (Md pl) he ?_;rw[ha];exact⟨.bl _,H,I,rfl,p _ H (Az.refl H) rfl⟩
   .exact p.elim
  |H es=>
   rw[xV]at p;split at p
   .rename_i h;simp only[An]at h;obtain⟨a,xs,e,_,sq,r⟩:=hy.plain;subst e;cases ry;obtain⟨its,rv,pl,_⟩:=I.tuple sq;obtain⟨e,he,ha⟩:=Oo I (n:=5) X.A.in1 h.1 h.2 r rv hx.plain rx (by show X.A.units+1+5<BD;omega)
    refine SeqAt.notIn_tupleAt e pl he ?_;rw[ha];exact⟨.bl _,H,I,rfl,p _ H (Az.refl H) rfl⟩
   .exact p.elim
  |_=>exact p.elim
 |Is=>
  intro A pI s Y H x y v u Q I rx ry ⟨hA,dx,dy,hx,hy,p⟩;cases dy with
  |O=>
   have ey:=hy.non_of;subst ey;refine qF pI s Y H _ _ v u Q I rx ry ⟨rfl,?_⟩;cases dx with
   |O=>
    have ex:=hx.non_of;subst ex;exact p _ H (Az.refl H) rfl
   |exc=>exact p.elim
   |dic=>exact p.elim
   |_=>rw[BH (Wc hx (by simp))];exact p _ H (Az.refl H) rfl
  |bl b=>
   cases dx with
   |bl a=>
    have ey:=hy.bl_of;have ex:=hx.bl_of;subst ex ey;cases rx;cases ry;refine wpAny_is_plain rfl ⟨.bl (a==b),H,I,?_,p _ H (Az.refl H) rfl⟩;cases a<;>cases b<;>rfl
   |_=>exact p.elim
  |_=>cases dx<;>exact p.elim
 |IsNot=>
  intro A pI s Y H x y v u Q I rx ry ⟨hA,dx,dy,hx,hy,p⟩;cases dy with
  |O=>
   have ey:=hy.non_of;subst ey;refine lY pI s Y H _ _ v u Q I rx ry ⟨rfl,?_⟩;cases dx with
   |O=>
    have ex:=hx.non_of;subst ex;exact p _ H (Az.refl H) rfl
   |exc=>exact p.elim
   |dic=>exact p.elim
   |_=>rw[BH (Wc hx (by simp))];exact p _ H (Az.refl H) rfl
  |bl b=>
   cases dx with
   |bl a=>
    have ey:=hy.bl_of;have ex:=hx.bl_of;subst ex ey;cases rx;cases ry;refine wpAny_isNot_plain rfl ⟨.bl (!(a==b)),H,I,?_,p _ H (Az.refl H) rfl⟩;cases a<;>cases b<;>rfl
   |_=>exact p.elim
  |_=>cases dx<;>exact p.elim
end
section
variable{X:Cx}{CL:ClA}{W:XW}{a b c:Aq}{fa fb fc:Rho->R D}{pos:AE}
theorem CQ.bind{f:D->R Am}{Q:Am->Hp->Prop}{Q':VK}(h:CQ W H (r.bind f) Q)(k:∀ d v H',r=.ok d->Az H H'->Rp H' v d->CQ W H' (f d) Q->Q' v H'):AX Rp W H r Q':=by
 cases r with
 |ok d=>exact λv H2 s2 q=>k d v H2 rfl s2 q (CQ.same s2 h)
 |exn x=>exact h
 |bad=>exact h
theorem CQ.bindB{r:R Am}{f:Am->R Am}{Q:Am->Hp->Prop}{Q':Am->Hp->Prop}(h:CQ W H (r.bind f) Q)(k:∀ b H',r=.ok b->Az H H'->CQ W H' (f b) Q->Q' b H'):CQ W H r Q':=by
 cases r with
 |ok d=>exact λH2 s2=>k d H2 rfl s2 (CQ.same s2 h)
 |exn x=>exact h
 |bad=>exact h
theorem Iq.bind{Rp:Hp->Ac V->Ac D->Prop}{r:R (Ac D)}{f:Ac D->R D}{Q':Ac V->Hp->Prop}(h:AX Rq W H (r.bind f) Q)(k:∀ d v H',r=.ok d->Az H H'->Rp H' v d->AX Rq W H' (f d) Q->Q' v H'):Iq Rp W H r Q':=by
 cases r with
 |ok d=>exact λv H2 s2 q=>k d v H2 rfl s2 q (AX.same s2 h)
 |exn x=>exact h
 |bad=>exact h
theorem oC(ha:ST X CL W a fa):SE X CL W (.UnaryOp .USub a pos) (λU=>(fa U).bind λx=>ß .USub x):=λA=>PE.weak (xI pO (ha A)) λY H Q ⟨hA,U,g,p⟩=>⟨hA,U,g,AX.bind p λd v H1 _ s1 r1 p1=>by
 cases d with
 |int i=>
  have e:=r1.int_of;subst e;exact⟨i,rfl,p1 _ H1 (Az.refl H1) rfl⟩
 | _=>exact p1.elim⟩
theorem PM{f:Am->R D}(h:AX Rq W H ((Di d).bind f) Q):∃ c,d=.bl c/\AX Rq W H (f c) Q:=by
 cases d with
 |bl c=>exact⟨c,rfl,h⟩
 |_=>exact h.elim
theorem VQ(ha:ST X CL W a fa):SE X CL W (.UnaryOp .Not a pos) (λU=>(fa U).bind λx=>(Di x).bind λb=>.ok (.bl (!b))):=λA=>PE.weak (pY (ha A)) λY H Q ⟨hA,U,g,p⟩=>⟨hA,U,g,AX.bind p λd v H1 _ s1 r1 p1=>by
 obtain⟨c,rfl,p2⟩:=PM p1;exact⟨c,r1.bl_of,p2 _ H1 (Az.refl H1) rfl⟩⟩
theorem QU{op}(ha:SE X CL W a fa):SE X CL W (.BoolOp op [a] pos) fa:=λA=>pX (ha A)
theorem VW{rest:Ac Aq}(ha:SE X CL W a fa)(hb:SE X CL W (.BoolOp .And (b::rest) pos) fb):SE X CL W (.BoolOp .And (a::b::rest) pos) (λU=>(fa U).bind λx=>(Di x).bind λc=>if c=Ab then fb U else .ok (.bl Ae)):=
 λA=>PE.weak (qA (ha A) (hb A)) λY H Q ⟨hA,U,g,p⟩=>⟨hA,U,g,AX.bind p λd v H1 _ s1 r1 p1=>by
  obtain⟨c,rfl,p2⟩:=PM p1;refine⟨c,r1,?_⟩;cases c with
  |true=>exact⟨hA.same s1,U,g.same s1,p2⟩
  | false=>exact p2 _ H1 (Az.refl H1) rfl⟩
theorem vW{rest:Ac Aq}(ha:SE X CL W a fa)(hb:SE X CL W (.BoolOp .Or (b::rest) pos) fb):SE X CL W (.BoolOp .Or (a::b::rest) pos) (λU=>(fa U).bind λx=>(Di x).bind λc=>if c=Ab then .ok (.bl Ab) else fb U):=
 λA=>PE.weak (xJ (ha A) (hb A)) λY H Q ⟨hA,U,g,p⟩=>⟨hA,U,g,AX.bind p λd v H1 _ s1 r1 p1=>by
  obtain⟨c,rfl,p2⟩:=PM p1;refine⟨c,r1,?_⟩;cases c with
  |false=>exact⟨hA.same s1,U,g.same s1,p2⟩
  | true=>exact p2 _ H1 (Az.refl H1) rfl⟩
theorem Vi{xs:Ac D}{i:Ai}(h:DU xs i=.ok d):∃ k,pj xs.length i=Aa k/\xs[k]?=Aa d:=by
 unfold DU at h;split at h
 .rename_i k e;split at h
  .rename_i d' e';cases h;exact⟨k,e,e'⟩
  .cases h
 .cases h
theorem P9{xs:Ac D}{i:Ai}{x:Ex}(h:DU xs i=.exn x):AN:=by
 unfold DU at h;split at h
 .split at h<;>cases h
 .cases h
theorem U_9{ds:Ac D}{i:Ai}(r:Z9 K CL H A xs ds)(h:DU ds i=.ok d):∃ v,vf xs i=Aa v/\Z7 K CL H A v d:=by
 obtain⟨k,e,q⟩:=Vi h;obtain⟨v,hv,rv⟩:=r.get q;refine⟨v,?_,rv⟩;unfold vf;have:gz xs.length i=Aa k:=by rw[r.length];exact e
 rw[this];exact hv
theorem mQ{z:Ah}{i:Ai}(h:DU (Nz z) i=.ok d):∃ c,vf z.cps.toList i=Aa c/\d=.str ⟨#[c]⟩:=by
 obtain⟨k,e,q⟩:=Vi h;unfold Nz at e q;rw[Bc]at e;rw[Ez]at q;cases hc:z.cps.toList[k]? with
 |none=>rw[hc]at q;cases q
 |some c=>
  rw[hc]at q;refine⟨c,?_,(BB q).symm⟩;unfold vf;have:gz z.cps.toList.length i=Aa k:=e;rw[this];exact hc
theorem SU(h:CY n=Ab):n<=sizeLine:=by
 unfold CY at h;have:=AR h;rw[By];omega
theorem VU(hs:Oc b)(ha:ST X CL W a fa)(hb:ST X CL W b fb):SE X CL W (.Subscript a b pos) (λU=>(fa U).bind λx=>(fb U).bind λy=>G7 x y):=
 λA=>PE.weak (Rt (r:=rIx X.K) sU (ha A) (hb A) hs) λY H Q h=>by
  obtain⟨hA,U,g,h⟩:=tj h;refine⟨hA,U,g,?_⟩;cases e:fa U with
  |bad=>rw[e]at h;exact h
  |exn x=>rw[e]at h;exact h
  |ok dx0=>
   rw[e]at h;intro x H1 s1 r1;obtain⟨jp,U1,g1,h1⟩:=h x H1 s1 r1;refine⟨jp,U1,g1,?_⟩;cases e1:fb U1 with
   |bad=>rw[e1]at h1;exact h1
   |exn x=>rw[e1]at h1;exact h1
   |ok dy0=>
    rw[e1]at h1;intro y H2 s2 r2;obtain⟨ù,dx,dy,rx,ry,p⟩:=h1 y H2 s2 r2;cases dy with
    |int i=>
     have ey:=ry.int_of;subst ey;cases dx with
     |L ds=>
      obtain⟨q,xs,rfl,sq,r⟩:=rx.lst_of;rw[xB]at p;cases e2:DU ds i with
      |ok d=>
       rw[e2]at p;obtain⟨v,hv,rv⟩:=U_9 r e2;exact .inl ⟨q,xs,i,v,rfl,rfl,sq,hv,p v H2 (Az.refl H2) rv⟩
      |exn x=>exact(P9 e2).elim
      |bad=>rw[e2]at p;exact p.elim
     |H ds=>
      obtain⟨q,xs,rfl,_,sq,r⟩:=rx.tup_of;rw[xA]at p;cases e2:DU ds i with
      |ok d=>
       rw[e2]at p;obtain⟨v,hv,rv⟩:=U_9 r e2;exact .inr (.inl ⟨q,xs,i,v,rfl,rfl,sq,hv,p v H2 (Az.refl H2) rv⟩)
      |exn x=>exact(P9 e2).elim
      |bad=>rw[e2]at p;exact p.elim
     |str z=>
      have ex:=rx.str_of;subst ex;have p':AX (λH=>Z7 X.K CL H A) W H2 (if CY z.length=Ab then DU (Nz z) i else .bad) Q:=p
      split at p'
      .rename_i hz;cases e2:DU (Nz z) i with
       |ok d=>
        rw[e2]at p';obtain⟨c,hc,rfl⟩:=mQ e2;exact .inr (.inr ⟨z,i,c,rfl,rfl,SU hz,hc,p' _ H2 (Az.refl H2) rfl⟩)
       |exn x=>exact(P9 e2).elim
       |bad=>rw[e2]at p';exact p'.elim
      .exact p'.elim
     |dic=>exact rx.plain.elim
     |_=>exact p.elim
    |_=>cases dx<;>first|exact p.elim|exact rx.plain.elim
theorem QJ:SA X CL W [] (λ_=>.ok []):=λA=>PA.weak Cf λY H Q ⟨hA,U,g,p⟩=>p [] H (Az.refl H) trivial
theorem Qn(ha:SE X CL W a fa)(hs:SA X CL W es fs)(yh:Aw (a::es) X.env=(Ae,eval a X.env)::Aw es X.env):SA X CL W (a::es) (λU=>(fa U).bind λx=>(fs U).bind λxs=>.ok (x::xs)):=
 λA=>PA.weak (Bw (ha A) (hs A) yh) λY H Q ⟨hA,U,g,p⟩=>by
  dsimp only at p;refine⟨hA,U,g,?_⟩;cases e:fa U with
  |bad=>rw[e]at p;exact p
  |exn x=>rw[e]at p;exact p
  |ok d=>
   rw[e]at p;intro v H1 s1 r1;refine⟨hA.same s1,U,g.same s1,?_⟩;cases e1:fs U with
   |bad=>rw[R.bind_ok,e1]at p;exact p
   |exn x=>rw[R.bind_ok,e1]at p;exact λH2 s2=>p H2 (s1.trans s2)
   |ok ds=>
    rw[R.bind_ok,e1]at p;exact λvs H2 s2 r2=>p (v::vs) H2 (s1.trans s2) ⟨r1.same s2,r2⟩
theorem Vt{k:Ag}(hs:SA X CL W es fs)(hz:∀ U ds,fs U=.ok ds->ds.length<=100000):SE X CL W (.Tuple es k pos) (λU=>(fs U).bind λxs=>.ok (.H xs)):=
 λA=>PE.weak (Oi (hs A)) λY H Q ⟨hA,U,g,p⟩=>⟨hA,U,g,Iq.bind p λds vs H1 e s1 r1 p1=>⟨by
  rw[r1.length,By];have:=hz U ds e;omega,λq hq=>p1 _ _ (EZ hq _) (N9 (hA.same s1) hq r1)⟩⟩
def Ls(W:XW)(H:Hp)(r:R (Ao Ai))(Q:Ao Ai->Hp->Prop):Prop:=match r with
  |.ok o=>∀ H',Az H H'->Q o H'
  |.exn x=>∀ H',Az H H'->W x H'
  |.bad=>AN
theorem Ls.bind{r:R (Ao Ai)}{f:Ao Ai->R D}(h:AX Rq W H (r.bind f) Q)(k:∀ o H',r=.ok o->Az H H'->AX Rq W H' (f o) Q->Q' o H'):Ls W H r Q':=by
 cases r with
 |ok d=>exact λH2 s2=>k d H2 rfl s2 (AX.same s2 h)
 |exn x=>exact h
 |bad=>exact h
def SO(X:Cx)(CL:ClA)(W:XW)(e:Ao Aq)(f:Rho->R (Ao Ai)):Prop:=∀ A,PO X e (λY H Q=>Ty H A/\∃ U,Y9 X.K CL A U Y H/\Ls W H (f U) Q)
theorem PO.weak{e:Ao Aq}{t t':TO}(h:PO X e t)(k:∀ Y H Q,t' Y H Q->t Y H Q):PO X e t':=λpI s Y H Q I q=>h pI s Y H Q I (k _ _ _ q)
theorem kL:SO X CL W Af (λ_=>.ok Af):=λA=>PO.weak lN λY H Q ⟨hA,U,g,p⟩=>p H (Az.refl H)
theorem kK(ha:ST X CL W a fa):SO X CL W (Aa a) (λU=>(fa U).bind λd=>(FQ d).bind λi=>.ok (Aa i)):=λA=>PO.weak (lM (ha A)) λY H Q ⟨hA,U,g,p⟩=>by
 dsimp only at p;refine⟨hA,U,g,?_⟩;cases e:fa U with
 |bad=>rw[e]at p;exact p
 |exn x=>rw[e]at p;exact p
 |ok d=>
  rw[e]at p;intro v H1 s1 r1;cases d with
  |int i=>exact⟨i,r1.int_of,p H1 s1⟩
  |_=>exact p.elim
theorem U_3{ds:Ac D}(lo hi:Ao Ai)(r:Z9 K CL H A xs ds):Z9 K CL H A (KS xs lo hi) (JK ds lo hi):=by
 unfold KS JK;have e:∀ d o,HT.sIx xs.length d o=Ja ds.length d o:=λd o=>by rw[r.length];cases o<;>rfl
 rw[e,e,r.length];exact(r.drop _).take _
end
section
variable{X:Cx}{CL:ClA}{W:XW}{a b c:Aq}{fa fb fc:Rho->R D}{pos:AE}
def Gw(K:Fg)(CL:ClA)(H:Hp)(A:Ak->Prop):Ac V->Ac D->Prop
 |[],[]=>F7
 |v::vs,d::ds=>CA K CL H A v d/\Gw K CL H A vs ds
 |_,_=>AN
theorem Gw.same{K:Fg}{H H':Hp}{A:Ak->Prop}(s:Az H H'):∀{vs:Ac V}{ds:Ac D},Gw K CL H A vs ds->Gw K CL H' A vs ds
 |[],[],h=>h
 |_::_,_::_,h=>⟨h.1.same s,Gw.same s h.2⟩
 |[],_::_,h=>h.elim
 |_::_,[],h=>h.elim
theorem Gw.one(h:Gw K CL H A vs [d]):∃ v,vs=[v]/\CA K CL H A v d:=by
 cases vs with
 |nil=>exact h.elim
 |cons v vs=>
  cases vs with
  |nil=>exact⟨v,rfl,h.1⟩
  |cons=>exact h.2.elim
theorem Gw.two{e:D}(h:Gw K CL H A vs [d,e]):∃ v w',vs=[v,w']/\CA K CL H A v d/\CA K CL H A w' e:=by
 cases vs with
 |nil=>exact h.elim
 |cons v vs=>
  cases vs with
  |nil=>exact h.2.elim
  |cons w' vs=>
   cases vs with
   |nil=>exact⟨v,w',rfl,h.1,h.2.1⟩
   |cons=>exact h.2.2.elim
def uf(X:Cx)(CL:ClA)(W:XW)(es:Ac Aq)(f:Rho->R (Ac D)):Prop:=∀ A,PA X es (λY H Q=>Ty H A/\∃ U,Y9 X.K CL A U Y H/\Iq (λH=>Gw X.K CL H A) W H (f U) Q)
theorem UF:uf X CL W [] (λ_=>.ok []):=λA=>PA.weak Cf λY H Q ⟨hA,U,g,p⟩=>p [] H (Az.refl H) trivial
theorem T8(ha:ST X CL W a fa)(hs:uf X CL W es fs)(yh:Aw (a::es) X.env=(Ae,eval a X.env)::Aw es X.env):uf X CL W (a::es) (λU=>(fa U).bind λx=>(fs U).bind λxs=>.ok (x::xs)):=
 λA=>PA.weak (Bw (ha A) (hs A) yh) λY H Q ⟨hA,U,g,p⟩=>by
  dsimp only at p;refine⟨hA,U,g,?_⟩;cases e:fa U with
  |bad=>rw[e]at p;exact p
  |exn x=>rw[e]at p;exact p
  |ok d=>
   rw[e]at p;intro v H1 s1 r1;refine⟨hA.same s1,U,g.same s1,?_⟩;cases e1:fs U with
   |bad=>rw[R.bind_ok,e1]at p;exact p
   |exn x=>rw[R.bind_ok,e1]at p;exact λH2 s2=>p H2 (s1.trans s2)
   |ok ds=>
    rw[R.bind_ok,e1]at p;exact λvs H2 s2 r2=>p (v::vs) H2 (s1.trans s2) ⟨r1.same s2,r2⟩
def Lu(X:Cx)(CL:ClA)(W:XW)(f:Al)(g:Ac D->R D):Prop:=∀ A,Gx X f (λxs H Q=>Ty H A/\∃ ds,Gw X.K CL H A xs ds/\AX (λH=>Z7 X.K CL H A) W H (g ds) Q)
theorem QW{id:CP}{p:AE}{g:Ac D->R D}(hc:Lu X CL W (.builtin id) g)(hg:Gl X x)(hm:X.mg x=Af)(hv:Dg x=Aa (.builtin id))(ha:uf X CL W (e::es) fs)(hn:x≠"__name__")(zq:(x==("__debug__" : Ah))=Ae)(he:Aw (e::es) X.env=(Ae,eval e X.env)::Aw es X.env)(zp:∀ pos,(Bv pos (Aw es X.env)).any (·.1)=Ae):SE X CL W (.Call (.Name x p) (e::es) [] pos) (λU=>(fs U).bind g):=λA=>PE.weak (Kk (hc A) hg hm hv (ha A) hn zq he (zp _)) λY H Q ⟨hA,U,gd,q⟩=>⟨hA,U,gd,Iq.bind q λds vs H1 _ s1 r1 p1=>⟨hA.same s1,ds,r1,p1⟩⟩
theorem VV{p:AE}{g:Ac D->R D}(hc:Lu X CL W (.type T) g)(hg:Gl X x)(hm:X.mg x=Af)(hv:Dg x=Aa (.type T))(ha:uf X CL W (e::es) fs)(hn:x≠"__name__")(zq:(x==("__debug__" : Ah))=Ae)(he:Aw (e::es) X.env=(Ae,eval e X.env)::Aw es X.env)(zp:∀ pos,(Bv pos (Aw es X.env)).any (·.1)=Ae):SE X CL W (.Call (.Name x p) (e::es) [] pos) (λU=>(fs U).bind g):=λA=>PE.weak (PR (hc A) hg hm hv (ha A) hn zq he (zp _)) λY H Q ⟨hA,U,gd,q⟩=>⟨hA,U,gd,Iq.bind q λds vs H1 _ s1 r1 p1=>⟨hA.same s1,ds,r1,p1⟩⟩
theorem tM:Lu X CL W (.builtin "len") (zw .len):=by
  intro A pI s Y H xs us Q I r ⟨hA,ds,rs,p⟩
  match ds,rs,p with
  |[.L es],rs,p=>
    obtain⟨v,rfl,rv⟩:=rs.one;obtain⟨q,ys,rfl,sq,ry⟩:=rv.lst_of;exact NR pI s Y H _ us Q I r ⟨q,ys,rfl,.inl sq,p _ H (Az.refl H) (by rw[ry.length];rfl)⟩
  |[.H es],rs,p=>
    obtain⟨v,rfl,rv⟩:=rs.one;obtain⟨q,ys,rfl,_,sq,ry⟩:=rv.tup_of;exact NR pI s Y H _ us Q I r ⟨q,ys,rfl,.inr sq,p _ H (Az.refl H) (by rw[ry.length];rfl)⟩
  |[.str x],rs,p=>
    obtain⟨v,rfl,rv⟩:=rs.one;have e:=rv.str_of;subst e;have p':AX (λH=>Z7 X.K CL H A) W H (if CY x.length=Ab then .ok (.int x.length) else .bad) Q:=p
    split at p'
    · rename_i h;exact bK pI s Y H _ us Q I r ⟨x,rfl,La h,p' _ H (Az.refl H) rfl⟩
    · exact p'.elim
  |[],_,p=>exact p.elim
  |[.O],_,p=>exact p.elim
  |[.bl _],_,p=>exact p.elim
  |[.int _],_,p=>exact p.elim
  |[.obj _ _],_,p=>exact p.elim
  |[.exc _ _],_,p=>exact p.elim
  |[.dic _],rs,p=>first|exact p.elim|(obtain⟨v,rfl,rv⟩:=rs.one;exact rv.plain.elim)
  |x::_::_,_,p=>cases x<;>exact p.elim
theorem Ta:∀(is:Ac Ai)(i:Ai),Jc i is∈i::is/\∀ a∈i::is,Jc i is<=a
 |[],i=>⟨AY,λa h=>by rw[List.mem_singleton]at h;rw[h];exact X5 _⟩
 |j::r,i=>by
  obtain⟨h1,h2⟩:=Ta r (if j<i then j else i)
  refine⟨?_,λa h=>?_⟩
  .show Jc (if j<i then j else i) r∈_
   rcases A6.mp h1 with e|e
   .rw[e];split
    .exact AD _ AY
    .exact AY
   .exact AD _ (AD _ e)
  .show Jc (if j<i then j else i) r<=a
   have h0:=h2 _ AY;rcases A6.mp h with e|e
   .subst e;refine X6 h0 ?_;split<;>omega
   .rcases A6.mp e with e|e
    .subst e;refine X6 h0 ?_;split<;>omega
    .exact h2 a (AD _ e)
theorem S5:∀{is:Ac Ai}{its:Ac Al},A1 (is.map V.int) its->∃ xs:Bl (Ai×Cd),its.toArray=MG xs/\xs.toList.map (·.1)=is
 |[],_,h=>by cases h;exact⟨#[],by simp[MG],rfl⟩
 |i::is,_,h=>by
  cases h with
  |cons h1 h2=>
   obtain⟨t,rfl⟩:=h1;obtain⟨xs,e1,e2⟩:=S5 h2;refine⟨((i,t)::xs.toList).toArray,?_,?_⟩
   .apply Array.toList_inj.mp
    have e1':=congrArg J3 e1;simp[MG]at e1' ⊢;exact e1'
   .simp[e2]
theorem dL(hc:X.calm=Ab):Gx X (.builtin "min") (λxs H Q=>∃ a i is,xs=[.ref a]/\IO X.K H a ((i::is).map V.int)/\Q (.int (Jc i is)) H):=by
 intro pI s Y H xs us Q I r h;obtain⟨a,i,is,rfl,sq,q⟩:=h;obtain⟨u,rfl,ru⟩:=KN r;cases ru;obtain⟨its,rv,pl,hz⟩:=I.list sq;obtain⟨ys,e1,e2⟩:=S5 rv;have hsz:0<ys.size:=by
  have:=congrArg Yo e2;simp at this;omega
 have hl:=pl.isList;rw[e1]at hl;refine min_intList (I.ok.hd hc) hl hsz λv h' tk hv hk=>?_
 obtain⟨t,rfl⟩:=intItems_at hv;obtain⟨h1,h2⟩:=argBest_lt (Ju ys) (ys.size-1);have nm:∀ j,j<ys.size->Ju ys j∈i::is:=λj hj=>by
  rw[<-e2];unfold Ju;rw[XZ hj];simp only[YI,Option.getD_some];exact List.mem_map.mpr ⟨ys[j],by simp,rfl⟩
 have nx:∀ x∈i::is,∃ j,j<ys.size/\Ju ys j=x:=λx hx=>by
  rw[<-e2]at hx;obtain⟨y,hy,rfl⟩:=Ie.mp hx;obtain⟨j,hj,ej⟩:=Array.mem_iff_getElem.mp (X1.mp hy);refine⟨j,hj,?_⟩;unfold Ju;rw[XZ hj,ej];rfl
 obtain⟨m1,m2⟩:=Ta is i;have em:Ju ys (argBest (λi j=>decide (Ju ys i<Ju ys j)) (ys.size-1))=Jc i is:=by
  refine Int.le_antisymm ?_ (m2 _ (nm _ (by omega)))
  obtain⟨j,hj,ej⟩:=nx _ m1;rw[<-ej];exact h2 j (by omega)
 rw[em];exact⟨.int (Jc i is),H,I.kept hk,⟨_,rfl⟩,q⟩
theorem S7{K:Fg}{CL:ClA}{H:Hp}{A:Ak->Prop}:∀{es:Ac D}{is:Ac Ai}{ys:Ac V},JE es=Aa is->Z9 K CL H A ys es->ys=is.map V.int
 |[],_,[],h,_=>by cases h;rfl
 |[],_,_::_,_,r=>r.elim
 |_::_,_,[],_,r=>r.elim
 |e::es,is,y::ys,h,r=>by
  cases e with
  |int i=>
   have h':(JE es).map (i :: ·)=Aa is:=h;cases e2:JE es with
   |none=>rw[e2]at h';cases h'
   |some js=>
    rw[e2]at h';cases h';have ih:=S7 e2 r.2;have e1:y=.int i:=r.1;rw[ih,e1];rfl
  |_=>cases h
theorem dO(ds:Ac D)(hl:∀ es,ds≠[.L es]):(∃ i j,ds=[.int i,.int j])\/zw .min ds=.bad:=by
 rcases ds with _|⟨x,_|⟨y,_|⟨z,r⟩⟩⟩
 .exact .inr rfl
 .cases x with
  |L es=>exact absurd rfl (hl es)
  |_=>exact .inr rfl
 .cases x with
  |int i=>
   cases y with
   |int j=>exact .inl ⟨i,j,rfl⟩
   |_=>exact .inr rfl
  |_=>exact .inr rfl
 .cases x with
  |int i=>cases y<;>exact .inr rfl
  |_=>exact .inr rfl
theorem tL(hc:X.calm=Ab):Lu X CL W (.builtin "min") (zw .min):=by
  intro A pI s Y H xs us Q I r ⟨hA,ds,rs,p⟩;by_cases hls:∃ es,ds=[.L es]
  · obtain⟨es,rfl⟩:=hls;obtain⟨v,rfl,rv⟩:=rs.one;obtain⟨a,ys,rfl,sq,ry⟩:=rv.lst_of;have p':AX (Z7 X.K CL · A) W H (match JE es with
      |some (i::is)=>R.ok (.int (Jc i is))
      | _=>.bad) Q:=p
    cases e1:JE es with
    |none=>rw[e1]at p';exact p'.elim
    |some is=>
      cases is with
      |nil=>rw[e1]at p';exact p'.elim
      |cons i is=>
        rw[e1]at p';have ey:=S7 e1 ry;subst ey;exact dL hc pI s Y H _ us Q I r ⟨a,i,is,rfl,sq,p' _ H (Az.refl H) rfl⟩
  rcases dO ds (λes z=>hls ⟨es,z⟩) with ⟨i,j,rfl⟩|e
  · obtain⟨v,w',rfl,rv,wy⟩:=rs.two;have e1:=rv.int_of;have e2:=wy.int_of
    subst e1 e2;exact dM hc pI s Y H _ us Q I r ⟨i,j,rfl,p _ H (Az.refl H) rfl⟩
  · rw[e]at p;exact p.elim
theorem gH:Lu X CL W (.type "tuple") (zw .tuple):=by
  intro A pI s Y H xs us Q I r ⟨hA,ds,rs,p⟩
  match ds,rs,p with
  |[.L es],rs,p=>
    obtain⟨v,rfl,rv⟩:=rs.one;obtain⟨q,ys,rfl,sq,ry⟩:=rv.lst_of;exact So pI s Y H _ us Q I r ⟨q,ys,rfl,.inl ⟨sq,λl hl=>p _ _ (EZ hl _) (N9 hA hl ry)⟩⟩
  |[.H es],rs,p=>
    obtain⟨v,rfl,rv⟩:=rs.one;obtain⟨q,ys,rfl,na,sq,ry⟩:=rv.tup_of;exact So pI s Y H _ us Q I r ⟨q,ys,rfl,.inr ⟨sq,p _ H (Az.refl H) ⟨q,ys,rfl,na,sq,ry⟩⟩⟩
  |[],_,p=>exact p.elim
  |[.O],_,p=>exact p.elim
  |[.bl _],_,p=>exact p.elim
  |[.int _],_,p=>exact p.elim
  |[.str _],_,p=>exact p.elim
  |[.obj _ _],_,p=>exact p.elim
  |[.exc _ _],_,p=>exact p.elim
  |[.dic _],rs,p=>first|exact p.elim|(obtain⟨v,rfl,rv⟩:=rs.one;exact rv.plain.elim)
  |x::_::_,_,p=>cases x<;>exact p.elim
end
section
variable{X:Cx}{CL:ClA}{W:XW}{a b c:Aq}{fa fb fc:Rho->R D}{pos:AE}
theorem SB.congr{f g:Rho->R Am}(h:SB X CL W a f)(e:∀ U,g U=f U):SB X CL W a g:=λA=>PT.weak (h A) λY H Q ⟨hA,U,q,p⟩=>⟨hA,U,q,by rw[<-e];exact p⟩
theorem V0{f:Rho->R Am}(ha:SB X CL W a f):SB X CL W (.UnaryOp .Not a pos) (λU=>(f U).bind λb=>.ok (!b)):=λA=>PT.weak (rG (ha A)) λY H Q ⟨hA,U,g,p⟩=>⟨hA,U,g,CQ.bindB p λb H1 _ s1 p1=>p1 H1 (Az.refl H1)⟩
def SW(X:Cx)(CL:ClA)(W:XW)(e:Aq)(f:Rho->R Am):Prop:=∀ A,PW X e (λY H Q=>Ty H A/\∃ U,Y9 X.K CL A U Y H/\CQ W H (f U) Q)
theorem PW.weak{t t':TT}(h:PW X e t)(k:∀ Y H Q,t' Y H Q->t Y H Q):PW X e t':=λwh pI s Y H Q I q=>h wh pI s Y H Q I (k _ _ _ q)
theorem SW.sb{f:Rho->R Am}(h:SW X CL W a f):SB X CL W a f:=λA=>PW.pt (h A)
theorem SW.congr{f g:Rho->R Am}(h:SW X CL W a f)(e:∀ U,g U=f U):SW X CL W a g:=λA=>PW.weak (h A) λY H Q ⟨hA,U,q,p⟩=>⟨hA,U,q,by rw[<-e];exact p⟩
theorem UP{f:Rho->R Am}(ha:SB X CL W a f):SW X CL W (.BoolOp .And [a] pos) f:=λA=>UG (ha A)
theorem Vm{f:Rho->R Am}(ha:SB X CL W a f):SW X CL W (.BoolOp .Or [a] pos) f:=λA=>V3 (ha A)
theorem Vn{f g:Rho->R Am}{rest:Ac Aq}(ha:SB X CL W a f)(hb:SW X CL W (.BoolOp .And (b::rest) pos) g):SW X CL W (.BoolOp .And (a::b::rest) pos) (λU=>(f U).bind λc=>if c=Ab then g U else .ok Ae):=
 λA=>PW.weak (QK (ha A) (hb A)) λY H Q ⟨hA,U,gd,p⟩=>⟨hA,U,gd,CQ.bindB p λc H1 _ s1 p1=>by
  cases c with
  |true=>exact⟨hA.same s1,U,gd.same s1,p1⟩
  | false=>exact p1 H1 (Az.refl H1)⟩
theorem Wg{f g:Rho->R Am}{rest:Ac Aq}(ha:SB X CL W a f)(hb:SW X CL W (.BoolOp .Or (b::rest) pos) g):SW X CL W (.BoolOp .Or (a::b::rest) pos) (λU=>(f U).bind λc=>if c=Ab then .ok Ab else g U):=
 λA=>PW.weak (Q9 (ha A) (hb A)) λY H Q ⟨hA,U,gd,p⟩=>⟨hA,U,gd,CQ.bindB p λc H1 _ s1 p1=>by
  cases c with
  |false=>exact⟨hA.same s1,U,gd.same s1,p1⟩
  | true=>exact p1 H1 (Az.refl H1)⟩
theorem V1(ho:ud X CL W (CO op) g)(ha:ST X CL W a fa)(hb:ST X CL W b fb)(hm:HE op b=Ae):SB X CL W (.Compare a [op] [b] pos) (λU=>(fa U).bind λx=>(fb U).bind λy=>(g x y).bind Di):=
 λA=>PT.weak (L7 (ho A) (ha A) (hb A) hm) λY H Q ⟨hA,U,gd,p⟩=>⟨hA,U,gd,CQ.bind p λdx x H1 _ s1 r1 p1=>⟨hA.same s1,U,gd.same s1,CQ.bind p1 λdy y H2 _ s2 r2 p2=>
  ⟨(hA.same s1).same s2,dx,dy,r1.same s2,r2,CQ.bind p2 λdz z H3 _ s3 r3 p3=>by
   cases dz with
   |bl k=>exact⟨k,r3,p3 H3 (Az.refl H3)⟩
   | _=>exact p3.elim⟩⟩⟩
theorem fS{op':DB}(hu:X.A.units+64<BD)(ha:ST X CL W a fa)(hb:ST X CL W b fb)(hc:ST X CL W c fc)(hm:lastMarks [op,op'] [b,c]=Ae):SB X CL W (.Compare a [op,op'] [b,c] pos) (λU=>(fa U).bind λx=>(fb U).bind λy=>(BP op x y).bind λz=>(Di z).bind λk=>if k=Ab then (fc U).bind λu=>(BP op' y u).bind Di else .ok Ae):=
  λA=>PT.weak (eM (IM hu op A) (IM hu op' A) (ha A) (hb A) (hc A) hm) λY H Q ⟨hA,U,g,p⟩=>⟨hA,U,g,CQ.bind p λdx x H1 _ s1 r1 p1=>⟨hA.same s1,U,g.same s1,CQ.bind p1 λdy y H2 _ s2 r2 p2=>
    ⟨(hA.same s1).same s2,dx,dy,r1.same s2,r2,CQ.bind p2 λdz z H3 _ s3 r3 p3=>by
      cases dz with
      |bl k=>
        refine⟨k,r3,?_⟩;cases k with
        |false=>exact⟨Ae,rfl,p3 H3 (Az.refl H3)⟩
        | true=>exact⟨((hA.same s1).same s2).same s3,U,((g.same s1).same s2).same s3,CQ.bind p3 λdu u H4 _ s4 r4 p5=>⟨(((hA.same s1).same s2).same s3).same s4,dy,du,(r2.same s3).same s4,r4,CQ.bind p5 λdv v H5 _ s5 r5 p6=>by
            cases dv with
            |bl k'=>exact⟨k',r5,p6 H5 (Az.refl H5)⟩
            | _=>exact p6.elim⟩⟩
      | _=>exact p3.elim⟩⟩⟩
theorem QH(ha:ST X CL W a fa)(he:∀ whole,Jk a X.env whole=(do let v <-whole;standAt a.pos;holding [v] (truthy v))):SB X CL W a (λU=>(fa U).bind Bq):=
 λA=>PT.weak (eL (ha A) he) λY H Q ⟨hA,U,g,p⟩=>⟨hA,U,g,CQ.bind p λd v H1 _ s1 r1 p1=>by
  cases d with
  |O=>
   have e:=r1.non_of;subst e;exact⟨Ae,rfl,p1 H1 (Az.refl H1)⟩
  |bl b=>
   have e:=r1.bl_of;subst e;exact⟨b,rfl,p1 H1 (Az.refl H1)⟩
  |int i=>
   have e:=r1.int_of;subst e;exact⟨_,rfl,p1 H1 (Az.refl H1)⟩
  |str x=>
   have e:=r1.str_of;subst e;have p2:CQ W H1 (if CY x.length=Ab then .ok (x.length != 0) else .bad) Q:=p1
   split at p2
   .rename_i h;refine⟨_,⟨La h,rfl⟩,?_⟩;have e:((x.length:Ai) != 0)=(x.length != 0):=by
     rw[DM];simp
    rw[e];exact p2 H1 (Az.refl H1)
   .exact p2.elim
  |H ds=>
   obtain⟨q,xs,rfl,_,sq,r⟩:=r1.tup_of;refine⟨_,.inr (.inl ⟨xs,sq,rfl⟩),?_⟩;have e:xs.isEmpty=ds.isEmpty:=by
    have:=r.length;cases xs<;>cases ds<;>first|rfl|cases this
   rw[e];exact p1 H1 (Az.refl H1)
  |L ds=>
   obtain⟨q,xs,rfl,sq,r⟩:=r1.lst_of;refine⟨_,.inl ⟨xs,sq,rfl⟩,?_⟩;have e:xs.isEmpty=ds.isEmpty:=by
    have:=r.length;cases xs<;>cases ds<;>first|rfl|cases this
   rw[e];exact p1 H1 (Az.refl H1)
  | _=>exact p1.elim⟩
noncomputable def aU(K:Fg)(CL:ClA)(H:Hp)(A:Ak->Prop)(cls:Al)(dx:Ao Ak)(x:Ex):Prop:=
 ∃ C,CL x.c=Aa C/\cls=.ref C/\(x.fs=[]\/∃ d vs,dx=Aa d/\¬ A d/\H d=Aa (.xd vs)/\Cl K CL H A vs x.fs)
def Dr(K:Fg)(CL:ClA)(H:Hp)(cls:Al)(dx:Ao Ak)(x:Ex):Prop:=∀ A,Ty H A->aU K CL H A cls dx x
end
structure Fr where
 f:Ak->HO->Prop
 pin:Ag->Ak->HO->Prop
variable{Fz:Fr}
instance:CoeFun Fr λ_=>Ak->HO->Prop:=⟨Fr.f⟩
def BJ(B:Ak->Prop)(U:Rho)(Y:L2.St):Ak->Prop:=λa=>B a\/∃(j:Ag)(d:D),U[j]?=Aa (Aa (d,Ab))/\Y[j]?=Aa (Aa (.ref a))
structure Sx (K:Fg) (CL:ClA) (Fz:Fr) (B:Ak->Prop) (U:Rho) (Y:L2.St) (H:Hp):Prop where
 good:Y9 K CL (BJ B U Y) U Y H
 aok:Ty H (BJ B U Y)
 new:∀(j:Ag)(d:D)(a:Ak),U[j]?=Aa (Aa (d,Ab))->Y[j]?=Aa (Aa (.ref a))->(∀ o,¬ Fz a o)/\¬ B a
 dis:∀(i j:Ag)(d e:D)(a:Ak),U[i]?=Aa (Aa (d,Ab))->U[j]?=Aa (Aa (e,Ab))->Y[i]?=Aa (Aa (.ref a))->Y[j]?=Aa (Aa (.ref a))->i=j
 same:∀ b o,Fz b o->H b=Aa o
 len:U.length=Y.length
 pin:∀ j:Ag,U[j]?=Aa (Aa (.O,Ab))->∃ a o,Fz.pin j a o/\Y[j]?=Aa (Aa (.ref a))/\H a=Aa o
def B2(K:Fg)(CL:ClA)(Fz:Fr)(B:Ak->Prop)(W:XW)(o:O)(D:xk):Prop:=match o with
  |.next U=>∀ Y H,Sx K CL Fz B U Y H->D.nx Y H
  |.brk U=>∀ Y H,Sx K CL Fz B U Y H->D.bk Y H
  |.cont U=>∀ Y H,Sx K CL Fz B U Y H->D.ct Y H
  |.ret d fr=>∀ v H,(∀ b o,Fz b o->H b=Aa o)->Z7 K CL H B v d->(fr=Ab->∀ ds,d=.L ds->∃ a xs,v=.ref a/\(∀ o,¬ Fz a o)/\H a=Aa (.L xs)/\Z9 K CL H (λb=>B b\/b=a) xs ds)->D.rt v H
  |.exn x _=>∀ H,(∀ b o,Fz b o->H b=Aa o)->W x H
  |.bad=>AN
section
variable{K:Fg}{CL:ClA}{Fz Fy:Fr}{B:Ak->Prop}{U:Rho}{Y:L2.St}{H H':Hp}
theorem Sx.mono(k:∀ b o,Fz b o->Fy b o)(kp:∀ j a xs,Fy.pin j a xs->Fz.pin j a xs)(x:Sx K CL Fy B U Y H):Sx K CL Fz B U Y H:=⟨x.good,x.aok,λj d a h1 h2=>⟨λo z=>(x.new j d a h1 h2).1 o (k _ _ z),(x.new j d a h1 h2).2⟩,x.dis,λb o z=>x.same b o (k _ _ z),x.len,λj h=>let ⟨a,xs,h1,h2⟩:=x.pin j h;⟨a,xs,kp _ _ _ h1,h2⟩⟩
theorem Sx.grow(x:Sx K CL Fz B U Y H)(s:Az H H'):Sx K CL Fz B U Y H':=⟨x.good.same s,x.aok.same s,x.new,x.dis,λb o z=>s _ _ (x.same b o z),x.len,λj h=>let ⟨a,xs,h1,h2,h3⟩:=x.pin j h;⟨a,xs,h1,h2,s _ _ h3⟩⟩
theorem Bt{l:Ac α}{v:α}(h:i≠j):(l.set i v)[j]?=l[j]?:=by rw[GJ h]
theorem Ed{l:Ac α}{v w':α}(h:(l.set i v)[i]?=Aa w'):w'=v:=by
 rw[F3]at h;cases e:l[i]? with
 |none=>rw[e]at h;cases h
 |some x=>rw[e]at h;cases h;rfl
theorem Sx.set(x:Sx K CL Fz B U Y H){v:V}{d:D}(i:Ag)(r:Z7 K CL H (BJ B U Y) v d):Sx K CL Fz B (U.set i (Aa (d,Ae))) (Y.set i (Aa v)) H:=by
 have own:∀(j:Ag)(e:D),(U.set i (Aa (d,Ae)))[j]?=Aa (Aa (e,Ab))->i≠j/\U[j]?=Aa (Aa (e,Ab)):=λj e h=>by
  by_cases hj:i=j
  .subst hj;have:=Ed h;cases this
  .exact⟨hj,by rw[Bt hj]at h;exact h⟩
 have sub:∀ a,BJ B (U.set i (Aa (d,Ae))) (Y.set i (Aa v)) a->BJ B U Y a:=λa h=>by
  rcases h with h|⟨j,e,h1,h2⟩
  .exact .inl h
  .obtain⟨hj,h1⟩:=own j e h1;rw[Bt hj]at h2;exact .inr ⟨j,e,h1,h2⟩
 refine⟨⟨λj e h=>?_,λj e h hn=>?_,by rw[AT,AT];exact x.len⟩,λa h=>x.aok a (sub a h),λj e a h1 h2=>?_,λj k e f a h1 h2 h3 h4=>?_,x.same,by rw[AT,AT];exact x.len,λj h=>?_⟩
 .by_cases hj:i=j
  .subst hj;have e1:=Ed h;cases e1;refine⟨v,?_,Z7.sub sub _ r⟩;have hl:i<Y.length:=by
    rw[<-x.len];have:=(A5.mp h).1;simpa using this
   rw[Bx hl]
  .rw[Bt hj]at h;obtain⟨w',q,wy⟩:=x.good.sh j e h;exact⟨w',by rw[Bt hj];exact q,Z7.sub sub _ wy⟩
 .obtain⟨hj,h1⟩:=own j e h;obtain⟨a,xs,ds,q,z,ha,hh,rr⟩:=x.good.ow j e h1 hn;exact⟨a,xs,ds,by rw[Bt hj];exact q,z,.inr ⟨j,e,h,by rw[Bt hj];exact q⟩,hh,Z9.sub sub _ rr⟩
 .obtain⟨hj,h1⟩:=own j e h1;rw[Bt hj]at h2;exact x.new j e a h1 h2
 .obtain⟨hj,h1⟩:=own j e h1;obtain⟨hk,h2⟩:=own k f h2;rw[Bt hj]at h3;rw[Bt hk]at h4;exact x.dis j k e f a h1 h2 h3 h4
 .obtain⟨hj,h1⟩:=own j _ h;obtain⟨a,xs,p1,p2,p3⟩:=x.pin j h1;exact⟨a,xs,p1,by rw[Bt hj];exact p2,p3⟩
end
section
variable{X:Cx}{CL:ClA}{W:XW}{pos:AE}{e:Aq}{fe:Rho->R D}
def SS(X:Cx)(CL:ClA)(W:XW)(st:AL)(f:Rho->O):Prop:=∀ Fz B,PS X st (λD Y H=>∃ U,Sx X.K CL Fz B U Y H/\B2 X.K CL Fz B W (f U) D)
def vq(X:Cx)(CL:ClA)(W:XW)(st:Ac AL)(f:Rho->O):Prop:=∀ Fz B,ye X st (λD Y H=>∃ U,Sx X.K CL Fz B U Y H/\B2 X.K CL Fz B W (f U) D)
theorem PS.weak{e:AL}{t t':TS}(h:PS X e t)(k:∀ D Y H,t' D Y H->t D Y H):PS X e t':=λpI s Y H D I q=>h pI s Y H D I (k _ _ _ q)
theorem ye.weak{e:Ac AL}{t t':TS}(h:ye X e t)(k:∀ D Y H,t' D Y H->t D Y H):ye X e t':=λpI s Y H D I q=>h pI s Y H D I (k _ _ _ q)
theorem B2.ex{f:D->O}(x:Sx X.K CL Fz B U Y H)(h:B2 X.K CL Fz B W (O.of U r f) D')(k:∀ d v H',r=.ok d->Az H H'->Rp H' v d->Sx X.K CL Fz B U Y H'->B2 X.K CL Fz B W (f d) D'->Q v H'):AX Rp W H r Q:=by
 cases r with
 |ok d=>exact λv H' s r=>k d v H' rfl s r (x.grow s) h
 |exn y=>exact λH' s=>h H' λb o z=>s _ _ (x.same b o z)
 |bad=>exact h
theorem B2.exB{r:R Am}{f:Am->O}{Q:Am->Hp->Prop}(x:Sx X.K CL Fz B U Y H)(h:B2 X.K CL Fz B W (O.of U r f) D')(k:∀ b H',r=.ok b->Az H H'->Sx X.K CL Fz B U Y H'->B2 X.K CL Fz B W (f b) D'->Q b H'):CQ W H r Q:=by
 cases r with
 |ok d=>exact λH' s=>k d H' rfl s (x.grow s) h
 |exn y=>exact λH' s=>h H' λb o z=>s _ _ (x.same b o z)
 |bad=>exact h
theorem kE(he:SE X CL W e fe)(hs:Dq e Af pos.line X.env=pure Ae):SS X CL W (.Expr e pos) (λU=>O.of U (fe U) λ_=>.next U):=λFz B pI s Y H D I ⟨U,x,p⟩=>
 Kf (he (BJ B U Y)) hs pI s Y H D I ⟨x.aok,U,x.good,B2.ex x p λd v H' _ s r x' q=>q Y H' x'⟩
theorem oX{n:Ah}(hN:X.N.Nodup)(hi:X.N[i]?=Aa n)(hx:o6 X.env.scope n)(he:SE X CL W e fe)(hs:Dq e (Aa (.Name n pos')) pos.line X.env=pure Ae)(hf:X.fn n=Ab\/X.env.scope.names.lookup n=Aa .local):SS X CL W (.Assign [.Name n pos'] e pos) (λU=>O.of U (fe U) λd=>.next (U.set i (Aa (d,Ae)))):=λFz B pI s Y H D I ⟨U,x,p⟩=>
 EH hN hi hx (he (BJ B U Y)) hs hf pI s Y H D I ⟨x.aok,U,x.good,B2.ex x p λd v H' _ s r x' q=>q _ H' (x'.set i r)⟩
theorem UR(he:SE X CL W e fe):SS X CL W (.Return (Aa e) pos) (λU=>O.of U (fe U) λd=>.ret d Ae):=λFz B pI s Y H D I ⟨U,x,p⟩=>
 Hl (he (BJ B U Y)) pI s Y H D I ⟨x.aok,U,x.good,B2.ex x p λd v H' _ s r x' q=>q v H' x'.same (Z7.sub (λa h=>.inl h) _ r) λz=>nomatch z⟩
theorem Wh{a b:Ac AL}{fa fb:Rho->O}(hc:SB X CL W c fc)(ha:vq X CL W a fa)(hb:vq X CL W b fb):SS X CL W (.If c a b pos) (λU=>O.of U (fc U) λk=>if k=Ab then fa U else fb U):=λFz B pI s Y H D I ⟨U,x,p⟩=>
 FP (hc (BJ B U Y)) (ha Fz B) (hb Fz B) pI s Y H D I ⟨x.aok,U,x.good,B2.exB x p λk H' _ s x' q=>by
  cases k with
  |true=>exact⟨U,x',q⟩
  | false=>exact⟨U,x',q⟩⟩
theorem Qm:vq X CL W [] (λU=>.next U):=λFz B=>ye.weak GZ λD Y H ⟨U,x,p⟩=>p Y H x
theorem LY{st:AL}{rest:Ac AL}{f g:Rho->O}(h1:SS X CL W st f)(h2:vq X CL W rest g):vq X CL W (st::rest) (λU=>(f U).seq g):=λFz B=>ye.weak (B9 (h1 Fz B) (h2 Fz B)) λD Y H ⟨U,x,p⟩=>⟨U,x,by
 dsimp only at p;cases e:f U with
 |next U'=>rw[e]at p;exact λY' H' x'=>⟨U',x',p⟩
 |ret d b=>rw[e]at p;exact p
 |brk U'=>rw[e]at p;exact p
 |cont U'=>rw[e]at p;exact p
 |exn y U'=>rw[e]at p;exact p
 | bad=>rw[e]at p;exact p⟩
end
def LF(K:Fg)(CL:ClA)(A:Ak->Prop)(ds:Ac D)(J:It)(H1:Hp):Prop:=∀ H,Kp A H1 H->∀ i:Ag,(ds.length<=i->J.stop i H)/\∀ d,ds[i]?=Aa d->J.go i H/\∀ x H',J.yld i H x H'->Az H H'/\∀ B,(∀ a,B a->A a\/H1 a=Af)->Ty H B->Z7 K CL H' B x d
def F9(K:Fg)(CL:ClA)(A:Ak->Prop)(W:XW)(H:Hp)(r:R (Ac D))(Q:It->Hp->Prop):Prop:=match r with
  |.ok ds=>∀ J H',Az H H'->LF K CL A ds J H'->ds.length<=sizeLine->Q J H'
  |.exn x=>∀ H',Az H H'->W x H'
  |.bad=>AN
def SI(X:Cx)(CL:ClA)(W:XW)(tg iter:Aq)(f:Rho->R (Ac D)):Prop:=∀ A,PI X tg iter (λY H R=>Ty H A/\∃ U,Y9 X.K CL A U Y H/\F9 X.K CL A W H (f U) R)
theorem PI.weak{t t':TI}(h:PI X tg e t)(k:∀ Y H Q,t' Y H Q->t Y H Q):PI X tg e t':=λpI s Y H Q I q=>h pI s Y H Q I (k _ _ _ q)
section
variable{X:Cx}{CL:ClA}{W:XW}{pos p:AE}{tg e a b:Aq}{fe fa fb:Rho->R D}
theorem F9.ex{f:D->R (Ac D)}{Q:It->Hp->Prop}{Q':VK}(h:F9 X.K CL A W H (r.bind f) Q)(k:∀ d v H',r=.ok d->Az H H'->Rp H' v d->F9 X.K CL A W H' (f d) Q->Q' v H'):AX Rp W H r Q':=by
  cases r with
  | ok d=>exact λv H' s q=>k d v H' rfl s q (by
      have h':F9 X.K CL A W H (f d) Q:=h;cases e:f d with
      |ok ds=>rw[e]at h';exact λJ H2 s2 y z=>h' J H2 (s.trans s2) y z
      |exn y=>rw[e]at h';exact λH2 s2=>h' H2 (s.trans s2)
      | bad=>rw[e]at h';exact h')
  |exn y=>exact h
  |bad=>exact h
theorem TB{x:V}(r:Z7 K CL H1 A x d)(k:Kp A H1 H)(hB:∀ a,B a->A a\/H1 a=Af):Z7 K CL H B x d:=by
 have r1:Z7 K CL H1 (λa=>A a\/B a) x d:=Z7.wide (λa ha=>ha.elim .inl (hB a)) _ r
 have r2:Z7 K CL H (λa=>A a\/B a) x d:=Z7.kp (λb o e na=>k b o e λz=>na (.inl z)) _ r1
 exact Z7.sub (λa ha=>.inr ha) _ r2
theorem cL{ds:Ac D}(na:¬ A q\/KL K q xs)(s:IO K H q xs)(r:Z9 K CL H A xs ds):LF K CL A ds (Itl K q) H:=λH' k i=>by
 have s':=QP k na s;refine⟨λh=>⟨xs,s',by rw[r.length];exact h⟩,λd hd=>?_⟩
 obtain⟨v,hv,rv⟩:=r.get hd;exact⟨⟨xs,v,s',hv⟩,λx H2 ⟨e,y⟩=>by
  subst e;have:=y xs s';rw[hv]at this;cases this;exact⟨Az.refl _,λB hB _=>TB rv k hB⟩⟩
theorem fC{ds:Ac D}(na:¬ A q\/KT K q xs)(s:yk K H q xs)(r:Z9 K CL H A xs ds):LF K CL A ds (Itt K q) H:=λH' k i=>by
 have s':=QO k na s;refine⟨λh=>⟨xs,s',by rw[r.length];exact h⟩,λd hd=>?_⟩
 obtain⟨v,hv,rv⟩:=r.get hd;exact⟨⟨xs,v,s',hv⟩,λx H2 ⟨e,y⟩=>by
  subst e;have:=y xs s';rw[hv]at this;cases this;exact⟨Az.refl _,λB hB _=>TB rv k hB⟩⟩
theorem TX(lo:Ai)(n:Ag):LF K CL A (Iw lo n) (ã lo n) H:=λH' k i=>by
 refine⟨λh=>by rw[PD]at h;exact h,λd hd=>?_⟩
 obtain⟨h1,rfl⟩:=gU hd;exact⟨h1,λx H2 ⟨e,y⟩=>by
  subst e y;exact⟨Az.refl _,λ_ _ _=>rfl⟩⟩
theorem rN{l:Aq}{tl:TE}(hl:PE X l tl):PI X tg l (λY H R=>tl Y H λx H1=>(∃ a,x=.ref a/\(∃ xs,IO X.K H1 a xs/\(xs.length<=sizeLine->R (Itl X.K a) H1)))\/∃ a,x=.ref a/\(∃ xs,yk X.K H1 a xs/\(xs.length<=sizeLine->R (Itt X.K a) H1))):=by
 intro pI s Y H R I h;refine U5 (hl pI s Y H _ I h) λv s1 ⟨x,H1,I1,r1,q1⟩=>?_
 rcases q1 with ⟨a,e,xs,hq,q⟩|⟨a,e,xs,hq,q⟩
 .subst e;cases r1;obtain⟨its,rv,p,hz⟩:=I1.list hq;refine HV p.isList ?_;refine⟨s1.heap.objs.size,[s1.heap.objs.size],_,_,H1,rfl,I1.kept (t':=s1.toks) λb o e=>AB _ e,bR a _,⟨_,Bp _ rfl,rfl,rfl⟩,λb hb=>?_,q hz⟩
  have e:b=s1.heap.objs.size:=by simpa using hb
  subst e;exact I1.fpOk (AU _) (I1.hok.fresh (AU _))
 .subst e;cases r1;obtain⟨its,rv,p,hz⟩:=I1.tuple hq;refine wpAny_pyIter_tuple (show s1.heap.IsTuple a its.toArray from p) ?_
  refine⟨s1.heap.objs.size,[s1.heap.objs.size],_,_,H1,rfl,I1.kept (t':=s1.toks) λb o e=>AB _ e,cN a _,⟨_,Bp _ rfl,rfl,rfl⟩,λb hb=>?_,q hz⟩
  have e:b=s1.heap.objs.size:=by simpa using hb
  subst e;exact I1.fpOk (AU _) (I1.hok.fresh (AU _))
theorem zE(he:SE X CL W e fe):SI X CL W tg e (λU=>(fe U).bind Eu):=λA=>PI.weak (rN (he A)) λY H R ⟨hA,U,g,p⟩=>⟨hA,U,g,F9.ex p λd v H1 _ s1 r1 p1=>by
 cases d with
 |L ds=>
  obtain⟨q,xs,rfl,na,sq,r⟩:=r1;exact .inl ⟨q,rfl,xs,sq,λhz=>p1 _ H1 (Az.refl H1) (cL na sq r) (by rw[<-r.length];exact hz)⟩
 |H ds=>
  obtain⟨q,xs,rfl,na,sq,r⟩:=r1;exact .inr ⟨q,rfl,xs,sq,λhz=>p1 _ H1 (Az.refl H1) (fC na sq r) (by rw[<-r.length];exact hz)⟩
 | _=>exact p1.elim⟩
theorem TC{lo hi:Ai}{ds:Ac D}(h:EY lo hi=.ok ds):(-(2 ^ 62)<=lo/\lo<2 ^ 62)/\(-(2 ^ 62)<=hi/\hi<2 ^ 62)/\ds=Iw lo (hi-lo).toNat/\(Iw lo (hi-lo).toNat).length<=sizeLine:=by
 unfold EY at h;split at h
 .rename_i q;cases h;exact⟨by omega,by omega,rfl,by rw[PD,By];omega⟩
 .cases h
theorem SX{lo hi:Ai}{x:Ex}(h:EY lo hi=.exn x):AN:=by
 unfold EY at h;split at h<;>cases h
theorem pG(ha:ST X CL W a fa)(hg:Gl X "range")(hm:X.mg "range" = Af)(hs:Aw [a] X.env=[(Ae,eval a X.env)]):SI X CL W tg (.Call (.Name "range" p) [a] [] pos) (λU=>(fa U).bind λx=>(FQ x).bind λj=>EY 0 j):=
 λA=>PI.weak (cX hg hm (Bw (ha A) Cf hs) hs) λY H R ⟨hA,U,g,q⟩=>⟨hA,U,g,F9.ex q λd v H1 _ s1 r1 p1=>by
  cases d with
  |int j=>
   have e:=r1.int_of;subst e;have p2:F9 X.K CL A W H1 (EY 0 j) R:=p1;cases e2:EY 0 j with
   |ok ds=>
    rw[e2]at p2;obtain⟨_,h2,rfl,hz⟩:=TC e2;exact⟨j,rfl,h2.1,h2.2,p2 _ H1 (Az.refl H1) (by rw[Yc];exact TX 0 j.toNat) hz⟩
   |exn y=>exact(SX e2).elim
   |bad=>rw[e2]at p2;exact p2.elim
  | _=>exact p1.elim⟩
theorem iU(ha:ST X CL W a fa)(hb:ST X CL W b fb)(hg:Gl X "range")(hm:X.mg "range" = Af)(hs:Aw [a,b] X.env=[(Ae,eval a X.env),(Ae,eval b X.env)])(om:Aw [b] X.env=[(Ae,eval b X.env)]):
  SI X CL W tg (.Call (.Name "range" p) [a,b] [] pos) (λU=>(fa U).bind λx=>(fb U).bind λy=>(FQ x).bind λi=>(FQ y).bind λj=>EY i j):=
 λA=>PI.weak (TF hg hm (Bw (ha A) (Bw (hb A) Cf om) (by rw[hs,om])) hs om) λY H R ⟨hA,U,g,q⟩=>⟨hA,U,g,F9.ex q λd v H1 _ s1 r1 p1=>⟨hA.same s1,U,g.same s1,F9.ex p1 λd2 v2 H2 _ s2 r2 p2=>by
  cases d with
  |int i=>
   cases d2 with
   |int j=>
    have e:=r1.int_of;have e':=r2.int_of
    subst e e';have p3:F9 X.K CL A W H2 (EY i j) R:=p2;cases e2:EY i j with
    |ok ds=>
     rw[e2]at p3;obtain⟨h1,h2,rfl,hz⟩:=TC e2;exact⟨i,j,rfl,⟨h1.1,h1.2,h2.1,h2.2⟩,p3 _ H2 (Az.refl H2) (TX _ _) hz⟩
    |exn y=>exact(SX e2).elim
    |bad=>rw[e2]at p3;exact p3.elim
   |_=>exact p2.elim
  | _=>exact p2.elim⟩⟩
theorem B2.exI{r:R (Ac D)}{f:Ac D->O}{Q:It->Hp->Prop}(x:Sx X.K CL Fz B U Y H)(h:B2 X.K CL Fz B W (O.of U r f) D')(k:∀ ds J H',r=.ok ds->Az H H'->LF X.K CL A ds J H'->ds.length<=sizeLine->Sx X.K CL Fz B U Y H'->B2 X.K CL Fz B W (f ds) D'->Q J H'):F9 X.K CL A W H r Q:=by
 cases r with
 |ok d=>exact λJ H' s y z=>k d J H' rfl s y z (x.grow s) h
 |exn y=>exact λH' s=>h H' λb o z=>s _ _ (x.same b o z)
 |bad=>exact h
theorem B2.turn{Fy:Fr}{o:O}{g:Rho->O}{N:L2.St->Hp->Prop}(hf:∀ b q,Fz b q->Fy b q)(hp:∀ j a xs,Fy.pin j a xs->Fz.pin j a xs)(h:B2 K CL Fz B W (o.turn g) D')(k:∀ U' Y' H',Sx K CL Fy B U' Y' H'->B2 K CL Fz B W (g U') D'->N Y' H'):B2 K CL Fy B W o {D' with nx:=N,ct:=N,bk:=D'.nx}:=by
 cases o with
 |next U'=>exact λY' H' x=>k U' Y' H' x h
 |cont U'=>exact λY' H' x=>k U' Y' H' x h
 |brk U'=>exact λY' H' x=>h Y' H' (x.mono hf hp)
 |ret d b=>exact λv H' s r n=>h v H' (λb o z=>s b o (hf b o z)) r λz ds e=>let ⟨a,xs,h1,h2,h3⟩:=n z ds e;⟨a,xs,h1,λo q=>h2 o (hf a o q),h3⟩
 |exn y U'=>exact λH' s=>h H' (λb o z=>s b o (hf b o z))
 |bad=>exact h
noncomputable def G4(ts:Ac Ag)(U:Rho):Rho:=ts.foldl (λU t=>U.set t Af) U
def GT(K:Fg)(CL:ClA)(as:D->Rho->R Rho)(g:TG):Prop:=∀ Fz B U Y H v d U' Q,Sx K CL Fz B U Y H->Z7 K CL H (BJ B U Y) v d->as d U=.ok U'->(∀ Y',Sx K CL Fz B U' Y' H->Q Y' H)->g v Y H Q
theorem nF(i:Ag):GT K CL (λd U=>.ok (U.set i (Aa (d,Ae)))) (G5 i):=λFz B U Y H v d U' Q x r e k=>by
 cases e;exact k _ (x.set i r)
theorem Q6{K:Fg}{Fz:Fr}{B:Ak->Prop}{H:Hp}:∀(ts:Ac Ag)(ds:Ac D)(vs:Ac V)(U U':Rho)(Y:L2.St)(Q:L2.St->Hp->Prop),Sx K CL Fz B U Y H->Z9 K CL H (BJ B U Y) vs ds->Hj ts ds U=Aa U'->(∀ Y',Sx K CL Fz B U' Y' H->Q Y' H)->(ts.foldr (λt u=>Lp (G5 t) u) LG) vs Y H Q
 |[],[],[],U,U',Y,Q,x,_,e,k=>by
  cases e;exact⟨rfl,k Y x⟩
 |t::ts,d::ds,v::vs,U,U',Y,Q,x,r,e,k=>by
  refine⟨v,vs,rfl,Q6 ts ds vs _ U' _ Q (x.set t r.1) (Z9.sub (λa ha=>?_) ds r.2) e k⟩
  rcases ha with ha|⟨j,c,h1,h2⟩
  .exact .inl ha
  .by_cases hj:t=j
   .subst hj;have:=Ed h1;cases this
   .rw[Bt hj]at h1 h2;exact .inr ⟨j,c,h1,h2⟩
 |[],_::_,_,_,_,_,_,_,_,e,_=>by cases e
 |_::_,[],_,_,_,_,_,_,_,e,_=>by cases e
 |[],[],_::_,_,_,_,_,_,r,_,_=>r.elim
 |_::_,_::_,[],_,_,_,_,_,r,_,_=>r.elim
theorem PC:∀(ts:Ac Ag)(ds:Ac D)(U U':Rho),Hj ts ds U=Aa U'->ds.length=ts.length
 |[],[],_,_,_=>rfl
 |_::ts,_::ds,_,_,e=>congrArg (· + 1) (PC ts ds _ _ e)
 |[],_::_,_,_,e=>by cases e
 |_::_,[],_,_,e=>by cases e
theorem Vy(ts:Ac Ag):GT K CL (HI ts) (Pb K ts.length (ts.foldr (λt u=>Lp (G5 t) u) LG)):=λFz B U Y H v d U' Q x r e k=>by
 cases d with
 |H ds=>
  obtain⟨a,xs,rfl,na,sq,rs⟩:=r;rw[bY]at e;cases e2:Hj ts ds U with
  |none=>rw[e2]at e;cases e
  |some U2=>
   rw[e2]at e;cases e;exact⟨a,xs,rfl,sq,by rw[rs.length];exact PC _ _ _ _ e2,Q6 ts ds xs U _ Y Q x rs e2 k⟩
 |_=>cases e
theorem Vp{body:Ac AL}{jm:Rho->O}{g:TG}(hp:FM (model X.prog X.w) X.A X.env X.xe)(hc:X.calm=Ab)(hGT:GT X.K CL as g)(hg:PG X tg g)(hit:SI X CL W tg iter fi)(hb:vq X CL W body jm)(hs:∀ x,Da iter X.env x=pure x)(hax:∀ d U x,as d U≠.exn x):SS X CL W (.For tg iter body [] pos) (λU=>O.of U (fi U) λxs=>Ev (λx U'=>O.of U' (as x U') jm) xs U):=λFz B pI s Y H D I ⟨U,x,p⟩=>by
 refine V4 hp hc (hit (BJ B U Y)) hg (tb:=λD Y H=>∃ Fy,(λD Y H=>∃ U,Sx X.K CL Fy B U Y H/\B2 X.K CL Fy B W (jm U) D) D Y H) (λpI s Y H D I ⟨Fy,q⟩=>hb Fy B pI s Y H D I q) hs pI s Y H D I ⟨x.aok,U,x.good,B2.exI x p λds J H1 _ s1 y _ x1 q=>?_⟩
 let Fy:Fr:=⟨λb o=>H1 b=Aa o/\¬ ∃(j:Ag)(d:Ov.D),U[j]?=Aa (Aa (d,Ab))/\Y[j]?=Aa (Aa (.ref b)),Fz.pin⟩
 have hfy:∀ b o,Fz b o->Fy b o:=λb o z=>⟨x1.same b o z,λ⟨j,d,h1,h2⟩=>(x1.new j d b h1 h2).1 o z⟩
 have xy:Sx X.K CL Fy B U Y H1:=⟨x1.good,x1.aok,λj d a h1 h2=>⟨λo z=>z.2 ⟨j,d,h1,h2⟩,(x1.new j d a h1 h2).2⟩,x1.dis,λb o z=>z.1,x1.len,x1.pin⟩
 refine⟨λk m Y' H'=>m=ds.length-k/\k<=ds.length/\∃ U',Sx X.K CL Fy B U' Y' H'/\B2 X.K CL Fz B W (Ev (λx U'=>O.of U' (as x U') jm) (ds.drop k) U') D,⟨ds.length,by simp,Ds _,U,xy,q⟩,?_⟩
 rintro k m Y' H' ⟨rfl,hk,U',x',q'⟩;have kp:Kp (BJ B U Y) H1 H':=λb o e na=>x'.same b o ⟨e,λz=>na (.inr z)⟩
 obtain⟨yst,ygo⟩:=y H' kp k;by_cases yc:k<ds.length
 .have hd:ds[k]?=Aa ds[k]:=Cy yc;obtain⟨hgo,hyl⟩:=ygo _ hd;refine .inr ⟨hgo,λY'' H''=>∃ vd,Sx X.K CL Fy B vd Y'' H''/\B2 X.K CL Fz B W (Ev (λx U'=>O.of U' (as x U') jm) (ds.drop (k+1)) vd) D,λY'' H'' z=>⟨ds.length-(k+1),by omega,rfl,yc,z⟩,λv H2 hv=>?_⟩
  obtain⟨e2,rv⟩:=hyl v H2 hv;rw[DW yc]at q';have q2:B2 X.K CL Fz B W ((O.of U' (as ds[k] U') jm).turn (Ev (λx U'=>O.of U' (as x U') jm) (ds.drop (k+1)))) D:=q'
  have rv':Z7 X.K CL H2 (BJ B U' Y') v ds[k]:=rv _ (λa ha=>by
    rcases ha with ha|⟨j,d,h1,h2⟩
    .exact .inl (.inl ha)
    .cases e:H1 a with
     |none=>exact .inr rfl
     |some o=>
      by_cases ho:∃(j:Ag)(d:Ov.D),U[j]?=Aa (Aa (d,Ab))/\Y[j]?=Aa (Aa (.ref a))
      .exact .inl (.inr ho)
      .exact absurd ⟨e,ho⟩ ((x'.new j d a h1 h2).1 o)) x'.aok
  cases ea:as ds[k] U' with
  |bad=>rw[ea]at q2;exact q2.elim
  |exn z=>exact absurd ea (hax _ _ z)
  |ok U2=>
   rw[ea,O.of_ok]at q2;exact hGT Fy B U' Y' H2 v ds[k] U2 _ (x'.grow e2) rv' ea λY3 x3=>⟨Fy,U2,x3,B2.turn hfy (λ_ _ _ z=>z) q2 λU3 Y3 H3 x3 q3=>⟨U3,x3,q3⟩⟩
 .have vt:ds.length<=k:=by omega
  rw[Gd vt]at q';exact .inl ⟨yst vt,q' Y' H' (x'.mono hfy λ_ _ _ z=>z)⟩
end
section
variable{X:Cx}{CL:ClA}{W:XW}{a b c:Aq}{fa fb fc:Rho->R D}{pos:AE}
noncomputable def rm:Ki->Ao CP
 |.int=>Aa "int"
 |.bool=>Aa "bool"
 |.str=>Aa "str"
 |.list=>Aa "list"
 |.tuple=>Aa "tuple"
 |_=>Af
noncomputable def QL:D->Am
 |.obj _ _=>Ae
 |.exc _ _=>Ae
 |.dic _=>Ae
 |_=>Ab
theorem sW{Q:Vq}{E:Vq}(I:Z8 X pI Y H s)(r:CA X.K CL H A v d)(q:Bs v u)(hT:rm k=Aa T)(hd:QL d=Ab)(h:∀ s',Z8 X pI Y H s'->Q (.bool (xw up k d)) s'):
  AA (model X.prog X.w) X.A (call (.builtin "isinstance") [u,.type T]) Q E s:=by
 have r':=r.plain;have it:=λt=>h _ (I.tok t)
 cases d with
 |obj=>cases hd
 |exc=>cases hd
 |dic=>cases hd
 |O=>
  cases r';cases q;cases k<;>simp only[rm]at hT<;>cases hT
  .exact IsiPair.NoneType_int (it _)
  .exact IsiPair.NoneType_bool (it _)
  .exact IsiPair.NoneType_str (it _)
  .exact IsiPair.NoneType_list (it _)
  .exact IsiPair.NoneType_tuple (it _)
 |bl b=>
  cases r';cases q;cases k<;>simp only[rm]at hT<;>cases hT
  .exact IsiPair.bool_int (h _ I)
  .exact IsiPair.bool_bool (h _ I)
  .exact IsiPair.bool_str (it _)
  .exact IsiPair.bool_list (it _)
  .exact IsiPair.bool_tuple (it _)
 |int i=>
  cases r';obtain⟨t,rfl⟩:=q;cases k<;>simp only[rm]at hT<;>cases hT
  .exact IsiPair.int_int (h _ I)
  .exact IsiPair.int_bool (it _)
  .exact IsiPair.int_str (it _)
  .exact IsiPair.int_list (it _)
  .exact IsiPair.int_tuple (it _)
 |str x=>
  cases r';obtain⟨t,rfl⟩:=q;cases k<;>simp only[rm]at hT<;>cases hT
  .exact IsiPair.str_int (it _)
  .exact IsiPair.str_bool (it _)
  .exact IsiPair.str_str (h _ I)
  .exact IsiPair.str_list (it _)
  .exact IsiPair.str_tuple (it _)
 |H ds=>
  obtain⟨p,xs,rfl,_,sq,rr⟩:=r';obtain⟨its,rv,pt,_⟩:=I.tuple sq;cases q;have re:s.heap.IsTuple p its.toArray:=pt;cases k<;>simp only[rm]at hT<;>cases hT
  .exact IsiPair.isTuple_int re (λ_ _ e=>e) (it _)
  .exact IsiPair.isTuple_bool re (λ_ _ e=>e) (it _)
  .exact IsiPair.isTuple_str re (λ_ _ e=>e) (it _)
  .exact IsiPair.isTuple_list re (λ_ _ e=>e) (it _)
  .exact IsiPair.isTuple_tuple re (λ_ _ e=>e) (h _ I)
 |L ds=>
  obtain⟨p,xs,rfl,_,sq,rr⟩:=r';obtain⟨its,rv,pl,_⟩:=I.list sq;cases q;have re:s.heap.IsList p its.toArray:=Md pl;cases k<;>simp only[rm]at hT<;>cases hT
  .exact IsiPair.isList_int re (λ_ _ e=>e) (it _)
  .exact IsiPair.isList_bool re (λ_ _ e=>e) (it _)
  .exact IsiPair.isList_str re (λ_ _ e=>e) (it _)
  .exact IsiPair.isList_list re (λ_ _ e=>e) (h _ I)
  .exact IsiPair.isList_tuple re (λ_ _ e=>e) (it _)
theorem dR(hT:rm k=Aa T)(p:AX Rp W H (Eg up [k] d) Q):QL d=Ab/\AX Rp W H (.ok (.bl (xw up k d))) Q:=by
 cases k<;>simp only[rm]at hT<;>cases hT<;>cases d<;>first|exact p.elim|exact⟨rfl,by simpa using p⟩
theorem oG{p:AE}(hT:rm k=Aa T)(hg:Gl X "isinstance")(hm:X.mg "isinstance" = Af)(wv:Gl X x)(qr:X.mg x=Af)(hv:Dg x=Aa (.type T))(hn:x≠"__name__")(zq:(x==("__debug__" : Ah))=Ae)(ha:ST X CL W a fa)(he:Aw [a,.Name x p2] X.env=(Ae,eval a X.env)::Aw [.Name x p2] X.env):SE X CL W (.Call (.Name "isinstance" p) [a,.Name x p2] [] pos) (λU=>(fa U).bind λx=>Eg up [k] x):=λA=>
 PE.weak (Kk (r:=λxs H Q=>∃ y d,xs=[y,.ty T]/\CA X.K CL H A y d/\QL d=Ab/\Q (.bl (xw up k d)) H) (λpI s Y H xs us Q I r ⟨y,d,e,ry,hd,q⟩=>by
   subst e;obtain⟨u,w',rfl,r1,r2⟩:=Lh r;cases r2;exact sW I ry r1 hT hd λs' I'=>⟨.bl _,H,I',rfl,q⟩)
  hg hm Fx (Bw (ha A) (Bw (UI (v:=.ty T) wv qr hv rfl hn zq) Cf rfl) he) (by decide) (by decide) he rfl) λY H Q ⟨hA,U,g,q⟩=>⟨hA,U,g,AX.bind q λd v H1 _ s1 r1 p1=>by
   obtain⟨hd,p2⟩:=dR hT p1;exact⟨v,d,rfl,r1,hd,p2 _ H1 (Az.refl H1) rfl⟩⟩
theorem jR{b:Am}{A':A4}{E:Vq}{Q:Am->Ar->Prop}{prog:AK}{w:AH}(r:Z7 X.K CL H A v d)(q:Bs v u)(h:Iu d=.ok b)(hq:Q b s):AA (model prog w) A' (truthy u) Q E s:=by
 cases d with
 |O=>
  cases r;cases q;cases h;exact truthy_none hq
 |bl k=>
  cases r;cases q;cases h;exact Db hq
 |int i=>
  cases r;obtain⟨t,rfl⟩:=q;cases h;exact truthy_int hq
 |_=>cases h
theorem Sr:∀{ds:Ac D}{b:Am},G2 ds=.ok b->(∀ j,j<ds.length->∃ c,Iu (ds.getD j .O)=.ok c)/\b=(BO ds.length).all λj=>match Iu (ds.getD j .O) with
  |.ok c=>c
  |_=>Ae
 |[],b,h=>by cases h;exact⟨λj hj=>absurd hj (Nat.not_lt_zero _),rfl⟩
 |d::ds,b,h=>by
  rw[SM]at h;cases e:Iu d with
  |bad=>rw[e]at h;cases h
  |exn x=>rw[e]at h;cases h
  |ok c=>
   rw[e,R.bind_ok]at h;cases e2:G2 ds with
   |bad=>rw[e2]at h;cases h
   |exn x=>rw[e2]at h;cases h
   |ok c2=>
    rw[e2,R.bind_ok]at h;cases h;obtain⟨h1,h2⟩:=Sr e2;refine⟨λj hj=>?_,?_⟩
    .cases j with
     |zero=>exact⟨c,e⟩
     |succ j=>exact h1 j (by simpa using hj)
    .rw[Bi,Sq,h2];show (c&&_)=((match Iu d with | .ok c=>c|_=>Ae)&&_)
     rw[e];rfl
theorem mU{ds:Ac D}(r:Z9 X.K CL H A0 xs ds)(rv:A1 xs its){v:Al}(h:its.toArray[j]?=Aa v):j<ds.length/\∃ x,Z7 X.K CL H A0 x (ds.getD j .O)/\Bs x v:=by
 have h':its[j]?=Aa v:=by simpa using h
 obtain⟨hj,e⟩:=A5.mp h';obtain⟨x,rx,q⟩:=JA r rv hj;have l1:=rv.length;have l2:=r.length
 exact⟨by omega,x,rx,by rw[<-e];exact q⟩
theorem wW{o:CZ}(k:∀ b q,b∉[h.objs.size]->(h.push o).get? b=Aa q->h'.get? b=Aa q):∀ b q,h.get? b=Aa q->h'.get? b=Aa q:=λb q e=>k b q (by
 intro z;have:=BU.mp z;rw[this]at e;exact absurd (AS e) (BF _)) (AB _ e)
theorem tO(hc:X.calm=Ab):Lu X CL W (.builtin "all") (zw .all):=by
  intro A pI s Y H xs us Q I r ⟨hA,ds,rs,p⟩
  match ds,rs,p with
  |[.L es],rs,p=>
    obtain⟨v,rfl,rv⟩:=rs.one;obtain⟨q,ys,e,_,sq,ry⟩:=rv.plain;subst e;obtain⟨u,rfl,ru⟩:=KN r;cases ru;rw[yK]at p;cases e1:G2 es with
    |bad=>rw[e1]at p;exact p.elim
    |exn x=>
      exfalso
      have:∀(es:Ac D) x,G2 es≠.exn x:=by
        intro es
        induction es with
        |nil=>intro x h;cases h
        |cons d ds ih=>
          intro x h;rw[SM]at h;cases e:Iu d with
          |bad=>rw[e]at h;cases h
          |exn y=>cases d<;>cases e
          |ok c=>
            rw[e,R.bind_ok]at h;cases e2:G2 ds with
            |bad=>rw[e2]at h;cases h
            |exn y=>exact ih y e2
            |ok c2=>rw[e2]at h;cases h
      exact this es x e1
    |ok b=>
      rw[e1,R.bind_ok]at p;obtain⟨h1,h2⟩:=Sr e1;obtain⟨its,rvv,pl,_⟩:=I.list sq;have yc:q<s.heap.objs.size:=by obtain⟨o,n,e,_⟩:=pl;exact AS e
      have hl:its.toArray.size=es.length:=by rw[AW,<-rvv.length,ry.length]
      refine call_all_walk (HV (Md pl) ⟨s.heap.objs.size,_,_,_,_,_,(λj=>match Iu (es.getD j .O) with | .ok c=>c|_=>Ae),rfl,Walks.list (A:=X.A.in1) (I.ok.hd hc) s.heap.objs.size q (BA yc) its.toArray,⟨⟨_,Bp _ rfl,rfl,rfl⟩,(Md pl).push _⟩,λj v s' Q' E' hv hQ=>?_,λh' tk k=>?_⟩)
      · obtain⟨hj,x,rx,qx⟩:=mU ry rvv hv;obtain⟨c,ec⟩:=h1 j hj;exact jR rx qx ec (by dsimp only at hQ;rw[ec]at hQ;exact hQ)
      · rw[hl,<-h2];exact⟨.bl b,H,I.kept (wW k),rfl,p _ H (Az.refl H) rfl⟩
  |[],_,p=>exact p.elim
  |[.O],_,p=>exact p.elim
  |[.bl _],_,p=>exact p.elim
  |[.int _],_,p=>exact p.elim
  |[.str _],_,p=>exact p.elim
  |[.H _],_,p=>exact p.elim
  |[.obj _ _],_,p=>exact p.elim
  |[.exc _ _],_,p=>exact p.elim
  |[.dic _],_,p=>exact p.elim
  |x::_::_,_,p=>cases x<;>exact p.elim
end
section
variable(K:Fg)(CL:ClA)
def yO(H0:Hp)(A:Ak->Prop)(H:Hp)(v:V)(d:D):Prop:=∀ ds,d=.L ds->∃ a xs,v=.ref a/\H0 a=Af/\H a=Aa (.L xs)/\Z9 K CL H (λb=>A b\/b=a) xs ds
def Cr(fr:Am)(H0:Hp)(A:Ak->Prop)(H:Hp)(v:V)(d:D):Prop:=Z7 K CL H A v d/\(fr=Ab->yO K CL H0 A H v d)
end
section
variable{X:Cx}{CL:ClA}{W:XW}{a b c:Aq}{fa fb fc:Rho->R D}{pos:AE}
def SC(X:Cx)(CL:ClA)(W:XW)(fr:Am)(e:Aq)(f:Rho->R D):Prop:=∀ A,PE X e (λY H Q=>Ty H A/\∃ U,Y9 X.K CL A U Y H/\AX (Cr X.K CL fr H A) W H (f U) Q)
theorem SC.se{fr:Am}(h:SC X CL W fr a fa):SE X CL W a fa:=λA=>PE.weak (h A) λY H Q ⟨hA,U,g,p⟩=>⟨hA,U,g,by
 cases e:fa U with
 |ok d=>rw[e]at p;exact λv H' s r=>p v H' s r.1
 |exn x=>rw[e]at p;exact p
 | bad=>rw[e]at p;exact p⟩
theorem SE.sc(h:SE X CL W a fa):SC X CL W Ae a fa:=λA=>PE.weak (h A) λY H Q ⟨hA,U,g,p⟩=>⟨hA,U,g,by
 cases e:fa U with
 |ok d=>rw[e]at p;exact λv H' s r=>p v H' s ⟨r,λz=>nomatch z⟩
 |exn x=>rw[e]at p;exact p
 | bad=>rw[e]at p;exact p⟩
theorem SC.congr{fr:Am}{f g:Rho->R D}(h:SC X CL W fr a f)(e:∀ U,g U=f U):SC X CL W fr a g:=λA=>PE.weak (h A) λY H Q ⟨hA,U,q,p⟩=>⟨hA,U,q,by rw[<-e];exact p⟩
theorem K6{ds:Ac D}(s:Az H0 H)(hA:Ty H A)(hp:H p=Af)(r:Z9 K CL H A xs ds):Cr K CL Ab H0 A (upd H p (.L xs)) (.ref p) (.L ds):=
 ⟨Va hA hp r,λ_ um e=>by
  cases e;exact⟨p,xs,rfl,s.free hp,BK,(Z9.wide (λa ha=>ha.imp id λe=>by rw[e];exact hp) _ r).same (EZ hp _)⟩⟩
theorem Qr{fr:Am}(r:Z7 K CL H A v d)(h:∀ ds,d≠.L ds):Cr K CL fr H0 A H v d:=⟨r,λ_ ds e=>absurd e (h ds)⟩
theorem QR(hs:SA X CL W es fs)(hz:∀ U ds,fs U=.ok ds->ds.length<=100000):SC X CL W Ab (.List es pos) (λU=>(fs U).bind λxs=>.ok (.L xs)):=
 λA=>PE.weak (Ma (hs A)) λY H Q ⟨hA,U,g,p⟩=>⟨hA,U,g,Iq.bind p λds vs H1 e s1 r1 p1=>⟨by
  rw[r1.length,By];have:=hz U ds e;omega,λq hq=>p1 _ _ (EZ hq _) (K6 s1 (hA.same s1) hq r1)⟩⟩
theorem AX.bindF{fr:Am}{f:D->R D}{Q':VK}(h:AX (Cr K CL fr H A) W H (r.bind f) Q)(k:∀ d v H',r=.ok d->Az H H'->Rp H' v d->AX (Cr K CL fr H A) W H' (f d) Q->Q' v H'):AX Rp W H r Q':=by
 cases r with
 |ok d=>exact λv H2 s2 q=>k d v H2 rfl s2 q (AX.same s2 h)
 |exn x=>exact h
 |bad=>exact h
theorem Iq.bindF{Rp:Hp->Ac V->Ac D->Prop}{r:R (Ac D)}{f:Ac D->R D}{Q':Ac V->Hp->Prop}(h:AX Rq W H (r.bind f) Q)(k:∀ d v H',r=.ok d->Az H H'->Rp H' v d->AX Rq W H' (f d) Q->Q' v H'):Iq Rp W H r Q':=by
 cases r with
 |ok d=>exact λv H2 s2 q=>k d v H2 rfl s2 q (AX.same s2 h)
 |exn x=>exact h
 |bad=>exact h
theorem Ls.bindF{r:R (Ao Ai)}{f:Ao Ai->R D}(h:AX Rq W H (r.bind f) Q)(k:∀ o H',r=.ok o->Az H H'->AX Rq W H' (f o) Q->Q' o H'):Ls W H r Q':=by
 cases r with
 |ok d=>exact λH2 s2=>k d H2 rfl s2 (AX.same s2 h)
 |exn x=>exact h
 |bad=>exact h
def Xo:V->Ao Ai->Ao Ai->Hp->VK->Prop:=λx l h H Q=>∃ z,x=.str z/\(JJ z l h).length<=sizeLine/\Q (.str (JJ z l h)) H
theorem UJ{v:Al}{o:Ao Ai}(h:Hy v o):∃ p:Ao (Ai×Cd),v=partValue p/\p.map (·.1)=o:=by
 cases h with
 |none=>exact⟨Af,rfl,rfl⟩
 |int i t=>exact⟨Aa (i,t),rfl,rfl⟩
theorem pF:o8 X Xo:=by
 intro pI s Y H x v vl vu lo hi sl Q I rx hs pl pu h;obtain⟨z,rfl,hz,q⟩:=h;obtain⟨t,rfl⟩:=rx;obtain⟨l,rfl,el⟩:=UJ pl;obtain⟨u,rfl,eu⟩:=UJ pu;refine⟨"str",_,PySem.F.slot_str_getitem.lookup,FY _ _ _,?_⟩;refine wpAny_getItem_str_slice (l:=l) (u:=u) (st:=Af) hs rfl ?_;subst el eu;unfold sliceMade slicePicked;unfold JJ at hz q;by_cases c:((EO (l.map (·.1)) (u.map (·.1)) 1 z.length).length==z.length)=Ab
 .rw[Au c]at q;rw[Au (by rw[An];exact⟨rfl,c⟩)]
  exact⟨.str z,H,I,⟨t,rfl⟩,q⟩
 .rw[Ay c]at q hz;rw[Ay (by rw[An];exact λh=>c h.2)]
  exact⟨hz,.str _,H,I.tok _,⟨_,rfl⟩,q⟩
theorem uC{lo hi:Ao Aq}{fl fh:Rho->R (Ao Ai)}(ha:ST X CL W a fa)(hl:SO X CL W lo fl)(hh:SO X CL W hi fh):SC X CL W Ab (.Subscript a (.Slice lo hi Af p2) pos) (λU=>(fa U).bind λx=>(fl U).bind λl=>(fh U).bind λh=>i6 x l h):=
 λA=>PE.weak (eP (r:=λx l h H Q=>Xp X.K x l h H Q\/(Xn X.K x l h H Q\/Xo x l h H Q)) (o8.or iT (o8.or pE pF)) (ha A) (hl A) (hh A)) λY H Q ⟨hA,U,g,p⟩=>⟨hA,U,g,AX.bindF p λdx x H1 _ s1 r1 p1=>⟨hA.same s1,U,g.same s1,Ls.bindF p1 λl H2 _ s2 p2=>⟨(hA.same s1).same s2,U,(g.same s1).same s2,Ls.bindF p2 λh H3 _ s3 p3=>by
  cases dx with
  |L ds=>
   obtain⟨q,xs,rfl,sq,r⟩:=((r1.same s2).same s3).lst_of;exact .inl ⟨q,xs,rfl,sq,λt ht=>p3 _ _ (EZ ht _) (K6 ((s1.trans s2).trans s3) (((hA.same s1).same s2).same s3) ht (U_3 l h r))⟩
  |H ds=>
   obtain⟨q,xs,rfl,_,sq,r⟩:=((r1.same s2).same s3).tup_of;rw[zD]at p3;split at p3
   .exact p3.elim
   .rename_i hw;refine .inr (.inl ⟨q,xs,rfl,sq,?_,λt ht=>p3 _ _ (EZ ht _) (Qr (N9 (((hA.same s1).same s2).same s3) ht (U_3 l h r)) (by intro _ z;cases z))⟩)
    rintro⟨h1,h2⟩;refine hw ?_;have e:∀ d o,HT.sIx xs.length d o=Ja ds.length d o:=λd o=>by rw[r.length];cases o<;>rfl
    rw[e]at h1 h2;rw[r.length]at h2;simp[h1,h2]
  |str z=>
   have e:=((r1.same s2).same s3).str_of;subst e;have p4:AX (Cr X.K CL Ab H A) W H3 (if (CY z.length&&CY (JJ z l h).length)=Ab then .ok (.str (JJ z l h)) else .bad) Q:=p3
   split at p4
   .rename_i hk;rw[An]at hk;exact .inr (.inr ⟨z,rfl,SU hk.2,p4 _ H3 (Az.refl H3) (Qr rfl (by intro _ z;cases z))⟩)
   .exact p4.elim
  | _=>exact p3.elim⟩⟩⟩
noncomputable def OpN(X:Cx)(CL:ClA)(W:XW)(f:Al->Al->Fo Al)(g:D->D->R D):Prop:=
 ∀ A H0,yu X f (λx y H Q=>Az H0 H/\Ty H A/\∃ dx dy,CA X.K CL H A x dx/\CA X.K CL H A y dy/\AX (Cr X.K CL Ab H0 A) W H (g dx dy) Q)
theorem lT:OpN X CL W (Ce .Add) (Dc .Add):=by
 intro A H0 pI s Y H x y v u Q I rx ry ⟨s0,hA,dx,dy,hx,hy,p⟩;have key:(∀ ds,dx≠.L ds)->EP X pI Y Q=EP X pI Y Q->AA (model X.prog X.w) X.A (Ce .Add v u) (EP X pI Y Q) X.xe s:=λhd _=>by
  refine UK (W:=W) A pI s Y H x y v u Q I rx ry ⟨hA,dx,dy,hx,hy,?_⟩;cases e:Dc .Add dx dy with
  |bad=>rw[e]at p;exact p
  |exn x=>rw[e]at p;exact p
  |ok d=>
   rw[e]at p;refine λv' H' s' r'=>p v' H' s' (Qr r' λds z=>?_)
   subst z;cases dx with
   |L ds=>exact hd _ rfl
   |H xs=>
    cases dy with
    |H ys=>rw[VM]at e;split at e<;>cases e
    |_=>cases e
   |str xs=>
    cases dy with
    |str ys=>rw[Lc]at e;split at e<;>cases e
    |_=>cases e
   |int i=>cases dy<;>cases e
   |_=>cases e
 cases dx with
 |L ds=>
  cases dy with
  |L es=>
   obtain⟨a,xs,rfl,s1,r1⟩:=hx.lst_of;obtain⟨b,ys,rfl,s2,r2⟩:=hy.lst_of;simp only[VN]at p;split at p
   .rename_i h;refine UL pI s Y H _ _ v u Q I rx ry ⟨a,b,xs,ys,rfl,rfl,s1,s2,by rw[r1.length,r2.length];exact La h,λq hq=>?_⟩
    exact p _ _ (EZ hq _) (K6 s0 hA hq (r1.append r2))
   .exact p.elim
  |_=>exact p.elim
 |_=>exact key (by intro _ z;cases z) rfl
theorem pC(ha:ST X CL W a fa)(hb:ST X CL W b fb):SC X CL W Ab (.BinOp a .Add b pos) (λU=>(fa U).bind λx=>(fb U).bind λy=>Dc .Add x y):=
 λA pI s Y H Q I h=>by
  obtain⟨hA,U,g,p⟩:=h;exact Wp (lT (W:=W) A H) (ha A) (hb A) pI s Y H Q I ⟨hA,U,g,AX.bindF p λdx x H1 _ s1 r1 p1=>⟨hA.same s1,U,g.same s1,AX.bind (Rq:=Cr X.K CL Ab H A) p1 λdy y H2 _ s2 r2 p2=>⟨s1.trans s2,(hA.same s1).same s2,dx,dy,r1.same s2,r2,p2⟩⟩⟩
def WO(X:Cx)(CL:ClA)(W:XW)(f:Al)(g:Ac D->R D):Prop:=∀ A H0,Gx X f (λxs H Q=>Az H0 H/\Ty H A/\∃ ds,Gw X.K CL H A xs ds/\AX (Cr X.K CL Ab H0 A) W H (g ds) Q)
theorem nS:WO X CL W (.type "list") (zw .list):=by
  intro A H0 pI s Y H xs us Q I r ⟨s0,hA,ds,rs,p⟩
  match ds,rs,p with
  |[.L es],rs,p=>
    obtain⟨v,rfl,rv⟩:=rs.one;obtain⟨q,ys,rfl,sq,ry⟩:=rv.lst_of;exact SH pI s Y H _ us Q I r ⟨q,ys,rfl,.inl sq,λl hl=>p _ _ (EZ hl _) (K6 s0 hA hl ry)⟩
  |[.H es],rs,p=>
    obtain⟨v,rfl,rv⟩:=rs.one;obtain⟨q,ys,rfl,_,sq,ry⟩:=rv.tup_of;exact SH pI s Y H _ us Q I r ⟨q,ys,rfl,.inr sq,λl hl=>p _ _ (EZ hl _) (K6 s0 hA hl ry)⟩
  |[],_,p=>exact p.elim
  |[.O],_,p=>exact p.elim
  |[.bl _],_,p=>exact p.elim
  |[.int _],_,p=>exact p.elim
  |[.str _],_,p=>exact p.elim
  |[.obj _ _],_,p=>exact p.elim
  |[.exc _ _],_,p=>exact p.elim
  |[.dic _],_,p=>exact p.elim
  |x::_::_,_,p=>cases x<;>exact p.elim
theorem pB{p:AE}{g:Ac D->R D}(hc:WO X CL W (.type T) g)(hg:Gl X x)(hm:X.mg x=Af)(hv:Dg x=Aa (.type T))(ha:uf X CL W (e::es) fs)(hn:x≠"__name__")(zq:(x==("__debug__" : Ah))=Ae)(he:Aw (e::es) X.env=(Ae,eval e X.env)::Aw es X.env)(zp:∀ pos,(Bv pos (Aw es X.env)).any (·.1)=Ae):SC X CL W Ab (.Call (.Name x p) (e::es) [] pos) (λU=>(fs U).bind g):=λA pI s Y H Q I ⟨hA,U,gd,q⟩=>
 PR (hc A H) hg hm hv (ha A) hn zq he (zp _) pI s Y H Q I ⟨hA,U,gd,Iq.bindF q λds vs H1 _ s1 r1 p1=>⟨s1,hA.same s1,ds,r1,p1⟩⟩
mutual
theorem Rn{K:Fg}{H:Hp}{A:Ak->Prop}(hA:Ty H A):∀(n:Ag)(d:D){v:V},xg n d=Ab->Z7 K CL H A0 v d->Z7 K CL H A v d
 |_,.O,_,_,h=>h
 |_,.bl _,_,_,h=>h
 |_,.int _,_,_,h=>h
 |_,.str _,_,_,h=>h
 |0,.H _,_,hn,_=>by cases hn
 |n+1,.H ds,_,hn,h=>by
  obtain⟨a,xs,e,_,s,r⟩:=h;refine⟨a,xs,e,?_,s,vi hA n ds hn r⟩;rcases s with s|s
  .refine .inl λz=>?_
   obtain⟨ys,q,w⟩:=hA a z;rcases s with s|⟨o,s⟩<;>rw[q]at s<;>cases s<;>exact w
  .exact .inr s
 |n,.L _,_,hn,_=>by cases n<;>cases hn
 |n,.obj _ _,_,hn,_=>by cases n<;>cases hn
 |n,.exc _ _,_,hn,_=>by cases n<;>cases hn
 |n,.dic _,_,hn,_=>by cases n<;>cases hn
theorem vi{K:Fg}{H:Hp}{A:Ak->Prop}(hA:Ty H A):∀(n:Ag)(ds:Ac D){vs:Ac V},ds.all (xg n)=Ab->Z9 K CL H A0 vs ds->Z9 K CL H A vs ds
 |_,[],[],_,h=>h
 |n,d::ds,_::_,hn,h=>by
  simp only[E9,An]at hn;exact⟨Rn hA n d hn.1 h.1,vi hA n ds hn.2 h.2⟩
 |_,[],_::_,_,h=>h.elim
 |_,_::_,[],_,h=>h.elim
end
theorem VE{fr:Am}(hA0:Ty H0 A)(s:Az H0 H)(hc:JL fr d=Ab)(r:Cr K CL fr H0 A0 H v d):Cr K CL fr H0 A H v d:=by
 have hA:=hA0.same s;cases d with
 |L ds=>
  have o9:(fr&&ds.all (xg 5))=Ab:=hc;rw[An]at o9;obtain⟨a,xs,e,h0,h1,rs⟩:=r.2 o9.1 ds rfl;have ù:Ty H (λb=>A b\/b=a):=λb hb=>hb.elim (hA b) λe=>by rw[e];exact⟨_,h1,trivial⟩
  have u9:=vi ù 5 ds o9.2 (Z9.sub (λ_ z=>z.elim) _ rs)
  refine⟨⟨a,xs,e,.inl (hA0.new h0),IO.of h1,Z9.sub (λ_ z=>.inl z) _ u9⟩,λ_ um e'=>?_⟩
  cases e';exact⟨a,xs,e,h0,h1,u9⟩
 |_=>exact⟨Rn hA 5 _ hc r.1,λ_ _ z=>nomatch z⟩
def spD(K:Fg)(CL:ClA)(n:Ag)(fr:Am)(F:Ac D->R D):Sp:=λvs H Q E=>∃(ds:Ac D)(A:Ak->Prop),vs.length=n/\Ty H A/\Z9 K CL H A vs ds/\(match F ds with
  |.ok d=>∀ v H',Az H H'->Cr K CL fr H A H' v d->Q v H'
  |.exn x=>∀ cls dx H',Az H H'->Dr K CL H' cls dx x->E cls dx H'
  | .bad=>AN)
def EKW(K:Fg)(CL:ClA)(A:Ak->Prop)(W:XW):XK:=λcls dx H'=>∃ x,Dr K CL H' cls dx x/\W x H'
theorem Gw.plain{K:Fg}{H:Hp}{A:Ak->Prop}:∀{vs:Ac V}{ds:Ac D},Gw K CL H A vs ds->Z9 K CL H A0 vs ds
 |[],[],h=>trivial
 |_::_,_::_,h=>⟨h.1.plain,Gw.plain h.2⟩
 |[],_::_,h=>h.elim
 |_::_,[],h=>h.elim
theorem jA{CX:CXT}{k:Ag}{fr:Am}{f:Ak}{fd:Bj}{ps:Ac Ah}{F:Ac D->R D}{p:AE}{ft:Rho->R (Ac D)}{sh:Rho->Am}(G:Y4 X.prog X.w X.K X.mg X.base CX k f fd ps (spD X.K CL n fr F))(hr:U6 k X.A)(hg:Gl X x)(hm:X.mg x=Aa (.ref f))(hk:Ba X.K (.ref f)=Ab)(hb:CW X.K fd ps [])(hx:∀ A,HJ CX X (EKW X.K CL A W))(ha:SA X CL W (e::es) fs)(hat:uf X CL W (e::es) ft)(yh:∀ U,sh U=Ab->ft U=fs U)(hn:∀ U ds,ft U=.ok ds->ds.length=n)(zq:(x==("__debug__" : Ah))=Ae)(he:Aw (e::es) X.env=(Ae,eval e X.env)::Aw es X.env)(zp:∀ pos,(Bv pos (Aw es X.env)).any (·.1)=Ae):SC X CL W fr (.Call (.Name x p) (e::es) [] pos) (λU=>(ft U).bind λds=>(F ds).bind λd=>if sh U=Ab then .ok d else if JL fr d=Ab then .ok d else .bad):=λA pI s Y H Q I ⟨hA,U,gd,q⟩=>by
 dsimp only at q;by_cases hs:sh U=Ab
 .rw[yh U hs]at q;refine Kg G hr hg hm hk hb .nil (hx A) (ha A) zq he (zp _) pI s Y H Q I ⟨hA,U,gd,?_⟩;cases e1:fs U with
  |bad=>rw[e1]at q;exact q
  |exn y=>rw[e1]at q;exact q
  |ok ds=>
   rw[e1]at q;intro vs H1 s1 r1;refine⟨ds,A,by rw[Bz,r1.length];exact hn U ds (by rw[yh U hs];exact e1),hA.same s1,by rw[Bz];exact r1,?_⟩
   have q':AX (Cr X.K CL fr H A) W H ((F ds).bind λd=>if sh U=Ab then .ok d else if JL fr d=Ab then .ok d else .bad) Q:=q
   cases e2:F ds with
   |ok d=>
    rw[e2,R.bind_ok,Au hs]at q';exact λv H2 s2 r2=>q' v H2 (s1.trans s2) ⟨r2.1,λz um e'=>let ⟨a,xs,z1,z2,z3⟩:=r2.2 z um e';⟨a,xs,z1,s1.free z2,z3⟩⟩
   |exn y=>rw[e2]at q';exact λcls dx H2 s2 xr=>⟨y,xr,q' H2 (s1.trans s2)⟩
   |bad=>rw[e2]at q';exact q'.elim
 .refine Kg G hr hg hm hk hb .nil (hx A0) (hat A) zq he (zp _) pI s Y H Q I ⟨hA,U,gd,?_⟩;cases e1:ft U with
  |bad=>rw[e1]at q;exact q
  |exn y=>rw[e1]at q;exact q
  |ok ds=>
   rw[e1]at q;intro vs H1 s1 r1;refine⟨ds,A0,by rw[Bz,r1.plain.length];exact hn U ds e1,λ_ z=>z.elim,by rw[Bz];exact r1.plain,?_⟩
   have q':AX (Cr X.K CL fr H A) W H ((F ds).bind λd=>if sh U=Ab then .ok d else if JL fr d=Ab then .ok d else .bad) Q:=q
   cases e2:F ds with
   |ok d=>
    rw[e2,R.bind_ok,Ay hs]at q';split at q'
    .rename_i hc;exact λv H2 s2 r2=>q' v H2 (s1.trans s2) (VE hA (s1.trans s2) hc ⟨r2.1,λz um e'=>let ⟨a,xs,z1,z2,z3⟩:=r2.2 z um e';⟨a,xs,z1,s1.free z2,z3⟩⟩)
    .exact q'.elim
   |exn y=>rw[e2]at q';exact λcls dx H2 s2 xr=>⟨y,xr,q' H2 (s1.trans s2)⟩
   |bad=>rw[e2]at q';exact q'.elim
end
theorem P3(env:B4):∀(ns:Ac (Ah×D7))(zt:Ac (Ah×Ak)),(∀ x∈ns,x.2=.free->∃ c,env.cells.lookup x.1=Aa c)->(∀ x c,zt.lookup x=Aa c->env.cells.lookup x=Aa c) ->
  ∃ cl,(forIn ns zt fun(x:Ah×D7)(cs:Ac (Ah×Ak))=>(if (x.2==.free)=Ab then do let c <-cellOf env x.1;pure (Eh ((x.1,c)::cs)) else pure (Eh cs):Fo (ForInStep (Ac (Ah×Ak)))))=pure cl /\
   (∀ x c,cl.lookup x=Aa c->env.cells.lookup x=Aa c)/\(∀ x,((x,DR)∈ns\/∃ c,zt.lookup x=Aa c)->∃ c,cl.lookup x=Aa c)
 |[],zt,_,h2=>⟨zt,by rw[Yj],h2,λx hx=>hx.elim (λz=>nomatch z) id⟩
 |(n,k)::r,zt,h1,h2=>by
  rw[List.forIn_cons];by_cases hk:k=.free
  .subst hk;obtain⟨c,hc⟩:=h1 (n,.free) AY rfl;obtain⟨cl,e,p,q⟩:=P3 env r ((n,c)::zt) (λx hx=>h1 x (AD _ hx)) (λx d hd=>by
    rw[Ct]at hd;split at hd
    .rename_i hx;cases hd;rw[eq_of_beq hx];exact hc
    .exact h2 x d hd)
   refine⟨cl,?_,p,λx hx=>q x ?_⟩
   .have e1:cellOf env n=pure c:=by unfold cellOf;dsimp only at hc;rw[hc]
    rw[Au (by rfl),e1]
    exact e
   .rcases hx with hx|⟨d,hd⟩
    .rcases A6.mp hx with z|z
     .cases z;exact .inr ⟨c,by simp[Ct]⟩
     .exact .inl z
    .by_cases pf:x=n
     .exact .inr ⟨c,by subst pf;simp[Ct]⟩
     .exact .inr ⟨d,by rw[Ct];rw[Bg.mpr pf];exact hd⟩
  .obtain⟨cl,e,p,q⟩:=P3 env r zt (λx hx=>h1 x (AD _ hx)) h2
   refine⟨cl,?_,p,λx hx=>q x ?_⟩
   .rw[Ay (by simpa using hk)]
    exact e
   .rcases hx with hx|hx
    .rcases A6.mp hx with z|z
     .cases z;exact absurd rfl hk
     .exact .inl z
    .exact .inr hx
theorem SK(h:∀ x∈scope.names,x.2=.free->∃ c,env.cells.lookup x.1=Aa c):∃ cl,closureFor scope env=pure cl/\(∀ x c,cl.lookup x=Aa c->env.cells.lookup x=Aa c)/\∀ x,(x,DR)∈scope.names->∃ c,cl.lookup x=Aa c:=by
 obtain⟨cl,e,p,q⟩:=P3 env scope.names [] h (λx c z=>by simp at z)
 refine⟨cl,?_,p,λx hx=>q x (.inl hx)⟩
 unfold closureFor
 first
  |exact e
  |(simp only[bind_pure];exact e)
  |(rw[show (forIn scope.names ([]:Ac (Ah×Ak)) _:Fo _)=pure cl from e];rfl)
theorem PJ:∀(names:Ac (Ah×D7))(h:AI)(zt:Ac (Ah×Ak))(x:Ah)(c:Ak),(CN h.objs.size names zt).lookup x=Aa c->zt.lookup x=Aa c\/((x,BY)∈names/\h.objs.size<=c/\(HA h names).IsCell c Af)
 |[],_,_,_,_,e=>.inl e
 |(n,k)::r,h,zt,x,c,e=>by
  unfold CN at e;unfold HA;by_cases hk:(k==BY)=Ab
  .rw[Au hk]at e ⊢;have hs:h.objs.size+1=(h.push { cls:=.type "cell",data:=.cell Af }).objs.size:=(D1 ..).symm;rw[hs]at e;rcases PJ r _ _ x c e with q|⟨q1,q2,q3⟩
   .rw[Ct]at q;cases hx:x==n with
    |true=>
     rw[hx]at q;cases q;refine .inr ⟨?_,AU _,?_⟩
     .rw[eq_of_beq hx,eq_of_beq hk];exact AY
     .exact⟨_,IG r _ _ _ (Bp _ rfl),rfl⟩
    |false=>rw[hx]at q;exact .inl q
   .exact .inr ⟨AD _ q1,by omega,q3⟩
  .rw[Ay hk]at e ⊢;rcases PJ r h zt x c e with q|⟨q1,q2,q3⟩
   .exact .inl q
   .exact .inr ⟨AD _ q1,q2,q3⟩
theorem PK:∀(names:Ac (Ah×D7))(h:AI)(zt:Ac (Ah×Ak)),(∀ x y c,zt.lookup x=Aa c->zt.lookup y=Aa c->x=y)->(∀ x c,zt.lookup x=Aa c->c<h.objs.size)->∀ x y c,(CN h.objs.size names zt).lookup x=Aa c->(CN h.objs.size names zt).lookup y=Aa c->x=y
 |[],_,_,i,_,x,y,c,e1,e2=>i x y c e1 e2
 |(n,k)::r,h,zt,i,b,x,y,c,e1,e2=>by
  unfold CN at e1 e2;by_cases hk:(k==BY)=Ab
  .rw[Au hk]at e1 e2;have hs:h.objs.size+1=(h.push { cls:=.type "cell",data:=.cell Af }).objs.size:=(D1 ..).symm;rw[hs]at e1 e2;have look:∀ z d,BX z ((n,h.objs.size)::zt)=Aa d->(z=n/\d=h.objs.size)\/(z≠n/\zt.lookup z=Aa d):=λz d q=>by
    rw[Ct]at q;cases hx:z==n with
    |true=>rw[hx]at q;cases q;exact .inl ⟨eq_of_beq hx,rfl⟩
    |false=>rw[hx]at q;exact .inr ⟨λe=>by rw[e]at hx;simp at hx,q⟩
   refine PK r _ _ (λz z' d q q'=>?_) (λz d q=>?_) x y c e1 e2
   .rcases look z d q with ⟨rfl,q1⟩|⟨_,q1⟩<;>rcases look z' d q' with ⟨rfl,q2⟩|⟨_,q2⟩
    .rfl
    .exact absurd (b _ _ q2) (by rw[q1];exact BF _)
    .exact absurd (b _ _ q1) (by rw[q2];exact BF _)
    .exact i _ _ _ q1 q2
   .rw[<-hs];rcases look z d q with ⟨_,q1⟩|⟨_,q1⟩
    .rw[q1];exact Gp _
    .exact HR (b _ _ q1)
  .rw[Ay hk]at e1 e2;exact PK r h zt i b x y c e1 e2
theorem P5:∀(names:Ac (Ah×D7))(n:Ag)(zt:Ac (Ah×Ak))(x:Ah),(x,BY)∉names->(CN n names zt).lookup x=zt.lookup x
 |[],_,_,_,_=>rfl
 |(m,k)::r,n,zt,x,hx=>by
  unfold CN;have hr:(x,BY)∉r:=λz=>hx (AD _ z)
  by_cases hk:(k==BY)=Ab
  .rw[Au hk,P5 r _ _ x hr,Ct];cases q:x==m with
   |true=>exact absurd (by rw[eq_of_beq q,eq_of_beq hk];exact AY) hx
   |false=>rfl
  .rw[Ay hk];exact P5 r n zt x hr
theorem PL(n0:Ag):∀(names:Ac (Ah×D7))(n:Ag)(zt:Ac (Ah×Ak))(x:Ah),n0<=n->((x,BY)∈names\/∃ c,zt.lookup x=Aa c/\n0<=c)->∃ c,(CN n names zt).lookup x=Aa c/\n0<=c
 |[],_,_,_,_,h=>h.elim (λz=>nomatch z) id
 |(m,k)::r,n,zt,x,hn,h=>by
  unfold CN;by_cases hk:(k==BY)=Ab
  .rw[Au hk];refine PL n0 r _ _ x (by omega) ?_
   by_cases hx:(x==m)=Ab
   .exact .inr ⟨n,by rw[Ct,hx],hn⟩
   .rcases h with h|⟨c,h,hc⟩
    .rcases A6.mp h with z|z
     .cases z;simp at hx
     .exact .inl z
    .exact .inr ⟨c,by rw[Ct];simp only[hx];exact h,hc⟩
  .rw[Ay hk];refine PL n0 r _ _ x hn (h.imp (λh=>?_) id)
   rcases A6.mp h with z|z
   .cases z;simp at hk
   .exact z
theorem bJ{M:Hu}{A:A4}{E:Vq}{globals:Ak}{qual:Ah}{Q:B4->Ar->Prop}(hQ:Q (newEnv scope s.heap.objs.size globals (CN (s.heap.objs.size+1) scope.names cl) qual Af .none (Aa env) Js) { s with heap:=HA (s.heap.push { cls:=.type "dict",data:=.dict #[] }) scope.names }):AA M A (Jl scope globals cl [] qual Af .none (Aa env)) Q E s:=by
 simp only[Jl,Option.isSome_some,EM];refine As (wpAny_alloc ?_);refine As (wpAny_layCells _ (λname kind cells=>by cases hkc:kind==BY<;>simp[hkc]) _ _ _ _ ?_)
 rw[show ({ s with heap:=s.heap.push { cls:=.type "dict",data:=.dict #[] } }:Ar).heap.objs.size=s.heap.objs.size+1 from D1 ..]
 rw[Yj];exact As (A2 (A2 hQ))
noncomputable def yq(X:Cx)(scope:Ca)(cl:Ac (Ah×Ak))(C:Ak)(N':Ac Ah)(s₀:Ar)(H₀:Hp)(fp:Ac Ak):Cx where
 prog:=X.prog
 w:=X.w
 K:=X.K
 mg:=X.mg
 base:=X.base
 A:=X.A
 N:=N'
 s₀:=s₀
 H₀:=H₀
 env:=compEnvC scope cl C X.env
 outer:=X.stack
 stack:=X.stack
 ex:=fp
 fn:=λx=>scope.names.lookup x==Aa BY
 calm:=X.calm
 pn:=[]
 xe:=λ_ _=>AN
theorem NL{env:B4}:∀{names:Ac (Ah×D7)}{x:Ah}{k:D7},(names.map λ(n,k)=>if (k==DR&&env.scope.kind==.function&&env.kindOf n==Aa .cell) then (n,BY) else (n,k)).lookup x=Aa k->names.lookup x=Aa k\/(k=.cell/\names.lookup x=Aa .free)
 |[],_,_,h=>by simp at h
 |(n,j)::r,x,k,h=>by
  have ih:=@NL env r x k;have h':BX x ((if (j==DR&&env.scope.kind==.function&&env.kindOf n==Aa .cell)=Ab then (n,BY) else (n,j))::(r.map λ(n,k)=>if (k==DR&&env.scope.kind==.function&&env.kindOf n==Aa .cell) then (n,BY) else (n,k)))=Aa k:=h
  by_cases hc:(j==DR&&env.scope.kind==.function&&env.kindOf n==Aa .cell)=Ab
  .rw[Au hc]at h';rw[Ct]at h' ⊢;cases hx:x==n with
   |true=>
    rw[hx]at h';cases h';simp only[An]at hc;exact .inr ⟨rfl,by rw[eq_of_beq hc.1.1]⟩
   |false=>rw[hx]at h';exact ih h'
  .rw[Ay hc]at h';rw[Ct]at h' ⊢;cases hx:x==n with
   |true=>rw[hx]at h';exact .inl h'
   |false=>rw[hx]at h';exact ih h'
structure zn (X:Cx) (scope:Ca) (N':Ac Ah) (ts:Ac Ag):Prop where
 kind:scope.kind=.function
 uniq:∀ y∈scope.names,scope.names.lookup y.1=Aa y.2
 names:∀ y∈scope.names,y.2=.local->scope.names.lookup y.1=Aa .local
 free:∀ y∈scope.names,y.2=.free->X.env.scope.names.lookup y.1=Aa .cell\/X.env.scope.names.lookup y.1=Aa .free
 len:N'.length=X.N.length
 same:∀ i x,N'[i]?=Aa x->scope.names.lookup x=Aa .free->i∉ts->X.N[i]?=Aa x
 loc:∀ i x,N'[i]?=Aa x->(scope.names.lookup x=Aa .local\/scope.names.lookup x=Aa .cell)->i∈ts
structure qa (X:Cx) (scope:Ca) (cl:Ac (Ah×Ak)) (C:Ak) (h:AI):Prop where
 own:∀ x c,cl.lookup x=Aa c->X.env.cells.lookup x=Aa c\/(scope.names.lookup x=Aa .cell/\C<c/\h.IsCell c Af)
 inj:∀ x y c,cl.lookup x=Aa c->cl.lookup y=Aa c->x=y
 has:∀ x,scope.names.lookup x=Aa .cell->∃ c,cl.lookup x=Aa c/\C<c
 fr:∀ x,(x,DR)∈scope.names->∃ c,cl.lookup x=Aa c/\X.env.cells.lookup x=Aa c
section
variable{X:Cx}{pI:Pn}{Y:L2.St}{H:Hp}{s:Ar}
noncomputable def hideT(ts:Ac Ag)(Y:L2.St):L2.St:=ts.foldl (λY t=>Y.set t Af) Y
theorem PX:∀(ts:Ac Ag)(Y:L2.St),(hideT ts Y).length=Y.length
 |[],_=>rfl
 |t::ts,Y=>by show (hideT ts (Y.set t Af)).length=_;rw[PX ts,AT]
theorem Tf:∀(ts:Ac Ag)(Y:L2.St){i:Ag}{v:V},(hideT ts Y)[i]?=Aa (Aa v)->Y[i]?=Aa (Aa v)/\i∉ts
 |[],_,_,_,h=>⟨h,by simp⟩
 |t::ts,Y,i,v,h=>by
  obtain⟨h1,h2⟩:=Tf ts (Y.set t Af) (i:=i) (v:=v) h;by_cases e:t=i
  .subst e;have:=Ed h1;cases this
  .rw[Bt e]at h1;exact⟨h1,by simp only[A6,NJ];exact⟨λz=>e z.symm,h2⟩⟩
theorem bP{tk:Ag}{C:Ak}{m:Ah->Ao Al}(I:Z8 X pI Y H s)(B:zn X scope N' ts)(hf:∀ b∈fp,Je X pI H b)(ju:∀ b∈fp,b<s.heap.objs.size)(hb:qa X scope cl C h')(hk:∀ b o,s.heap.get? b=Aa o->h'.get? b=Aa o)(hC:s.heap.objs.size<=C)(hn:h'.Ns C m):Z8 (yq X scope cl C N' s H fp) [] (hideT ts Y) H {s with heap:=h',toks:=tk}:=by
 have stf:∀ b∈fp,b∉yn X.stack:=λb hb z=>by
  rcases A6.mp (I.stkSub b z) with e|e
  .exact(hf b hb).2.1 e
  .exact(hf b hb).2.2.1 e
 have ë:∀ x,((relabel scope X.env).names.lookup x=Aa .cell\/(relabel scope X.env).names.lookup x=Aa .free)->scope.names.lookup x=Aa .free\/scope.names.lookup x=Aa .cell:=λx hx=>by
  rcases hx with z|z
  .rcases NL z with z|⟨_,z⟩
   .exact .inr z
   .exact .inl z
  .rcases NL z with z|⟨z,_⟩
   .exact .inl z
   .cases z
 have gtC:∀ c:Ak,C<c->s.heap.objs.size<=c:=λc z=>B8 hC (GP z)
 have cellK:∀ c v,s.heap.IsCell c v->h'.IsCell c v:=λc v ⟨o,ho,hd⟩=>⟨o,hk _ _ ho,hd⟩
 refine⟨⟨I.ok.mod,B.kind,I.ok.glob,I.ok.blt,hC,hb.inj,λx hx=>?_,λx c h e=>?_,I.ok.hd,I.ok.frames,.inl rfl,λb jt=>⟨?_,λx c e=>?_⟩,I.bs,B8 I.ok.bsz I.sz,λb o e jt=>?_,stf,I.stack,I.stkFree⟩,rfl,I.bare,Un.kept hk,⟨m,hn,λi x v h1 h2 h3=>?_⟩,λx c e=>?_,I.hok.fresh hC,λx c e=>(hb.own x c e).elim (I.freeC x c) (λz=>I.hok.fresh (gtC c z.2.1)),λp hp=>absurd (show p∈([]:Pn) from hp) (by simp),I.hok.kept hk,?_⟩
 .rcases ë x hx with z|z
  .obtain⟨c,q,_⟩:=hb.fr x (CJ z);exact⟨c,q⟩
  .obtain⟨c,q,_⟩:=hb.has x z;exact⟨c,q⟩
 .obtain⟨c',q,z⟩:=hb.has x (eq_of_beq h);have e':cl.lookup x=Aa c:=e;rw[q]at e';cases e';exact gtC _ z
 .intro z;have z':b=C:=z;have:=ju b jt;rw[z']at this;exact absurd (AZ this hC) (BF _)
 .rcases hb.own x c e with z|z
  .exact(hf b jt).2.2.2.2.1 x c z
  .intro q;have:=ju b jt;have:=gtC c z.2.1;rw[q]at this;exact absurd ‹b<_› (YF.mpr this)
 .rcases (hf b jt).2.2.2.1 with z|z
  .exact I.ok.noex b o e z
  .exact absurd (AZ (AS e) (B8 I.ok.bsz z)) (BF _)
 .obtain⟨h2,bg⟩:=Tf ts Y h2;have h3':(relabel scope X.env).names.lookup x=Aa .local\/(relabel scope X.env).names.lookup x=Aa .cell\/(relabel scope X.env).names.lookup x=Aa .free:=h3;have lu:N'[i]?=Aa x:=h1;rcases h3' with z|z
  .rcases NL z with z|⟨z,_⟩
   .exact absurd (B.loc i x lu (.inl z)) bg
   .cases z
  .have fr:=(ë x z).resolve_right λq=>bg (B.loc i x lu (.inr q))
   have hm:=CJ fr;have hX:=B.same i x lu fr bg;obtain⟨m0,hn0,hl0⟩:=I.loc;obtain⟨u,ru,lk⟩:=hl0 i x v hX h2 (by
    rcases B.free _ hm rfl with q|q
    .exact .inr (.inl q)
    .exact .inr (.inr q))
   refine⟨u,ru,?_⟩;obtain⟨c,hc,hcX⟩:=hb.fr x hm;rcases lk with ⟨q,_⟩|⟨_,c',o9,ur⟩
   .have q':X.env.scope.names.lookup x=Aa .local:=q;rcases B.free _ hm rfl with p|p
    .rw[show X.env.scope.names.lookup x=_ from p]at q';cases q'
    .rw[show X.env.scope.names.lookup x=_ from p]at q';cases q'
   .have e:=hcX;rw[o9]at e;cases e;exact .inr ⟨z,c,hc,cellK _ _ ur⟩
 .rcases hb.own x c e with z|z
  .obtain⟨v,q⟩:=I.cell x c z;exact⟨v,cellK _ _ q⟩
  .exact⟨_,z.2.2⟩
 .show (hideT ts Y).length=N'.length;rw[PX,I.len,B.len]
theorem To{C D:Ak}{s':Ar}{Y':L2.St}{LE:Pn}{w6:AI}(I:Z8 X pI Y H s)(hf:∀ b∈fp,Je X pI H b)(I':Z8 (yq X scope cl C N' s H fp) LE Y' H' s')(hD:s.heap.objs.size<=D)(n9:D≠C)(hC:s.heap.objs.size<=C)(hd:s'.heap.get? D=Aa { cls:=.type "list",data:=.seq ys.toArray n })(gq:H' D=Af)(rv:A1 xs ys)(hz:xs.length<=sizeLine)(hs:FK C s'.heap w6):Z8 X pI Y (upd H' D (.L xs)) {s' with heap:=w6}:=by
  have u:Un (yn X.stack) fp H H' s.heap s'.heap:=I'.base;have lt:∀ b o,s.heap.get? b=Aa o->b≠C/\b≠D:=λb o e=>⟨λz=>absurd (AZ (AS e) (z ▸ hC)) (BF _),λz=>absurd (AZ (AS e) (z ▸ hD)) (BF _)⟩
  have HD:H D=Af:=I.hok.fresh hD;have ϵ:H' C=Af:=I'.free;have kb:∀ b o,b≠C->s'.heap.get? b=Aa o->w6.get? b=Aa o:=λb o hb e=>(hs.2 b hb).trans e
  have u2:Un (yn X.stack) fp H (upd H' D (.L xs)) s.heap w6:=⟨λb o e q hb hx=>kb b o (lt b o e).1 (u.keep b o e q hb hx),λb o e q hb hx=>by
      obtain⟨sl,e1⟩:=u.slot b o e q hb hx;exact⟨sl,kb b _ (lt b o e).1 e1⟩,λb o e q hx=>by rw[AQ (lt b o e).2];exact u.free b o e q hx,λb o e hx=>by
      obtain⟨o',e1⟩:=u.there b o e hx;exact⟨o',kb b _ (lt b o e).1 e1⟩,λb zs q=>by rw[AQ (Er q HD)];exact u.tups b zs q,λb o zs q=>by rw[AQ (Er q HD)];exact u.frzs b o zs q,λb ps q=>by rw[AQ (Er q HD)];exact u.tbls b ps q⟩
  have hok:yy X.prog X.w (upd H' D (.L xs)) w6:=λb o e=>by
    by_cases hb:b=D
    · subst hb;rw[BK]at e;cases e;exact⟨hz,ys,n,rv,kb _ _ n9 hd⟩
    · rw[AQ hb]at e;refine(I'.hok b o e).stay (λc v hc q=>kb c v ?_ q) (λc q=>by rw[AQ (Er q gq)];exact q) λc zs q=>by rw[AQ (Er q gq)];exact q
      rcases hc with rfl|hc
      · exact Er e ϵ
      · exact Er hc ϵ
  exact I.call' (s':={s' with heap:=w6}) (ch:=fp) I'.os u2 hok I'.bare λb hb=>⟨(hf b hb).2.2.2.1,(hf b hb).2.1,(hf b hb).2.2.2.2.1,(hf b hb).2.2.2.2.2⟩
end
def fw(X:Cx)(ifs:Ac Aq)(tt:TT):Prop:=∀(pI:Pn)(s:Ar)(Y:L2.St)(H:Hp)(Q:Am->Hp->Prop),Z8 X pI Y H s->tt Y H Q ->
 AA (model X.prog X.w) X.A (forIn ifs Ab λc r=>if r=Ab then do let ok <-Jk c X.env (eval c X.env);pure (Eh ok) else pure (Eh r)) (TP X pI Y Q) X.xe s
theorem iN:fw X [] (λY H Q=>Q Ab H):=λpI s Y H Q I h=>wpAny_tests_nil ⟨H,I,h⟩
theorem iM{t:TT}(h:PT X c t):fw X [c] t:=λpI s Y H Q I q=>wpAny_tests_one (h pI s Y H Q I q)
theorem cE{D:Ak}{y:Al}{E:Vq}{Q:Vq}(I:Z8 X ((D,{ cls:=.type "list",data:=.seq ys.toArray n })::pI) Y H s)(hD:X.s₀.heap.objs.size<=D)(hp:∀ p∈X.pn++pI,p.1≠D)(hc:∀ x c,X.env.cells.lookup x=Aa c->c≠D)(hz:ys.length<=sizeLine)(h:∀ s',Z8 X ((D,{ cls:=.type "list",data:=.seq (ys++[y]).toArray (n+1) })::pI) Y H s'->(∀ b o,b≠D->s.heap.get? b=Aa o->s'.heap.get? b=Aa o)->Q .none s'):AA (model X.prog X.w) X.A (call (.builtin "list.append") [.ref D,y]) Q E s:=by
 obtain⟨e,hn,hL,jv,_⟩:=I.pin (D,{ cls:=.type "list",data:=.seq ys.toArray n }) (Br _ AY);refine append_at (hsz:=by rw[AW];exact hz) e λh' hs hd=>?_
 have lw:h'.get? D=Aa { cls:=.type "list",data:=.seq (ys++[y]).toArray (n+1) }:=by rw[hd];simp
 have kb:∀ b o,b≠D->s.heap.get? b=Aa o->h'.get? b=Aa o:=λb o hb q=>(hs.2 b hb).trans q
 have I0:Z8 X pI Y H s:=I.pins_of λp hp=>I.pin p (Br _ (AD _ hp))
 have I1:Z8 X pI Y H {s with heap:=h'}:=I0.turned (t':=s.toks) kb hn hL (.inr hD) hc hp
 refine h _ (I1.pins_of λp hp=>?_) kb
 rcases A6.mp hp with rfl|hp
 .exact⟨lw,hn,hL,jv,λv z=>by
   have z':MD _ _=MA v:=z;cases z'⟩
 .exact I1.pin p (Br _ hp)
section
variable{prog:AK}{w:AH}{A:A4}{R:Ij->Ar->Prop}{s:Ar}
theorem bO{target:Aq}{it zt:Al}(I:Ag->Ar->Prop)(turn:∀ n s,I n s->AA (model prog w) A (MH it) (λr s₁=>match r with
      |none=>R (.ok .next) s₁
      | some v=>AA (model prog w) A (GR target it v) (λ_ s₁'=>AA (model prog w) A (assign target env v) (λ_ s₂=>
          AA (model prog w) A (forIn ifs Ab λc r=>if r=Ab then do let ok <-Jk c env (eval c env);pure (Eh ok) else pure (Eh r)) (λok s₃=>
            if ok=Ab then AA (model prog w) A (eval elt env) (λx s₄=>
              AA (model prog w) A (call (.builtin "list.append") [zt,x]) (λ_ s₅=>∃ m,m<n/\I m s₅) (Jm (model prog w) A env λe s'=>R (.error e) s') s₄) (Jm (model prog w) A env λe s'=>R (.error e) s') s₃
            else ∃ m,m<n/\I m s₃) (Jm (model prog w) A env λe s'=>R (.error e) s') s₂) (Jm (model prog w) A env λe s'=>R (.error e) s') s₁') (Jm (model prog w) A env λe s'=>R (.error e) s') s₁) (Jm (model prog w) A env λe s'=>R (.error e) s') s)(n:Ag)(h:I n s):EF (model prog w) A (.compLoop (.ListComp elt [⟨target,iter,ifs,0⟩] scope pos) 0 it zt env) R s:=by
  refine codeAny_loop rfl I (λn s hI=>?_) n h
  show AA _ A ((compTurn (.ListComp elt [⟨target,iter,ifs,0⟩] scope pos) 0 it zt env).onRaise (λx=>do FN x env;theTreesLotGoes x)) _ _ s
  refine wpAny_noted ?_;rw[compTurn_list];refine As (CT (As (Bk (turn n s hI) (λr s₁ h₁=>?_) λ_ _ h'=>h')))
  cases r with
  |none=>exact A2 h₁
  |some v=>
    refine As (Bk h₁ (λ_ s₁' h₁'=>?_) λ_ _ h'=>h')
    refine As (Bk h₁' (λ_ s₂ h₂=>As (Bk h₂ (λok s₃ h₃=>?_) λ_ _ h'=>h')) λ_ _ h'=>h')
    cases ok with
    |false=>exact A2 ⟨rfl,h₃⟩
    |true=>
      exact As (As (Bk h₃ (λx s₄ h₄=>As (Bk h₄ (λ_ s₅ h₅=>A2 (A2 ⟨rfl,h₅⟩)) λ_ _ h'=>h')) λ_ _ h'=>h'))
end
def MR(J:It)(ts:Ac Ag)(g:TG)(tt:TT)(te:TE)(Y:L2.St)(H:Hp)(Q:VK):Prop:=∃ W:Ag->Ag->Ac V->L2.St->Hp->Prop,(∃ m,W 0 m [] (hideT ts Y) H)/\∀ i m xs Y H,W i m xs Y H ->
 (J.stop i H/\∀ p,H p=Af->Q (.ref p) (upd H p (.L xs))) \/
 (J.go i H/\xs.length<sizeLine/\∀ x H',J.yld i H x H'->g x Y H' λY2 H2=>tt Y2 H2 λb H3=>if b=Ab then te Y2 H3 λy H4=>∃ m',m'<m/\W (i+1) m' (xs++[y]) Y2 H4 else ∃ m',m'<m/\W (i+1) m' xs Y2 H3)
theorem Uv{g:TG}{it:Ak}{tn:Ag->AI->Prop}{E:Vq}{RR:Al->Ak->Ij->Ar->Prop}(hc:X.calm=Ab)(B:zn X scope N' ts)(I:Z8 X pI Y H s)(T:qf X.prog X.w X.K tg J fp it tn)(st:tn 0 s.heap)(hf:∀ b∈fp,Je X pI H b)(xq:∀ x c,cl.lookup x=Aa c->X.env.cells.lookup x=Aa c)(qj:∀ x,(x,DR)∈scope.names->∃ c,cl.lookup x=Aa c)(hg:∀ cl C s H,PG (yq X scope cl C N' s H fp) tg g)(ht:∀ cl C s H,fw (yq X scope cl C N' s H fp) ifs tt)(he:∀ cl C s H,PE (yq X scope cl C N' s H fp) elt te)(h:MR J ts g tt te Y H Q)(hRR:∀ cl D C s' H' Y' LE xs ys n m,Z8 (yq X scope cl C N' s H fp) LE Y' H' s'->s'.heap.get? D=Aa { cls:=.type "list",data:=.seq (FE ys) n }->H' D=Af->A1 xs ys->xs.length<=sizeLine->s.heap.objs.size<=D->D≠C->s.heap.objs.size<=C->s'.heap.Ns C m->Q (.ref D) (upd H' D (.L xs))->RR (.ref D) C (.ok .next) s'):AA (model X.prog X.w) X.A (newList []) (λzt s₃=>AA (model X.prog X.w) X.A (Jl scope X.env.globals cl [] X.env.qual Af .none (Aa X.env)) (λç s₄=>EF (model X.prog X.w) X.A (.compStart (.ListComp elt [⟨tg,iter,ifs,0⟩] scope pos) 0 (.ref it) zt {ç with scope:=relabel scope X.env}) (RR zt ç.locals) s₄) E s₃) E s:=by
 refine DV (bJ ?_);dsimp only;generalize hH2:s.heap.push { cls:=.type "list",dict:=Af,data:=.seq ([]:Ac Al).toArray }=H2;have au:(HA (H2.push { cls:=.type "dict",data:=.dict #[] }) scope.names).Ns H2.objs.size (λ_=>Af):=(Heap.Ns.new H2 (.type "dict")).keeps (IG _ _)
 have jz:∀ b o,H2.get? b=Aa o->(HA (H2.push { cls:=.type "dict",data:=.dict #[] }) scope.names).get? b=Aa o:=λb o e=>IG _ _ b o (AB _ e)
 have oj:=PJ scope.names (H2.push { cls:=.type "dict",data:=.dict #[] }) cl;have jx:=PK scope.names (H2.push { cls:=.type "dict",data:=.dict #[] }) cl;rw[D1]at oj jx;generalize hcl':CN (H2.objs.size+1) scope.names cl=w5 at oj jx;have hcf:∀ x,(x,BY)∉scope.names->w5.lookup x=cl.lookup x:=λx hx=>by rw[<-hcl'];exact P5 _ _ _ x hx
 have sy:∀ x,(x,BY)∈scope.names->∃ c,w5.lookup x=Aa c/\H2.objs.size+1<=c:=λx hx=>by rw[<-hcl'];exact PL _ _ _ _ x (AU _) (.inl hx)
 generalize hh₁:HA (H2.push { cls:=.type "dict",data:=.dict #[] }) scope.names=h₁ at au jz oj;have hC:H2.objs.size=s.heap.objs.size+1:=by rw[<-hH2,D1]
 have qi:s.heap.objs.size<=H2.objs.size:=by rw[hC];exact K3 _
 have n9:s.heap.objs.size≠H2.objs.size:=by rw[hC];exact BA (Gp _)
 have below:∀ b,b<s.heap.objs.size->b≠H2.objs.size:=λb hb=>by rw[hC];exact BA (HR hb)
 have old:∀ b o,s.heap.get? b=Aa o->h₁.get? b=Aa o:=λb o e=>jz b o (hH2 ▸ AB _ e)
 have hacc:h₁.get? s.heap.objs.size=Aa { cls:=.type "list",data:=.seq ([]:Ac Al).toArray 0 }:=jz _ _ (hH2 ▸ Bp _ rfl);have clt:∀ x c,cl.lookup x=Aa c->c<s.heap.objs.size:=λx c e=>by
  obtain⟨v,q⟩:=I.cell x c (xq x c e);exact q.lt
 have bc:qa X scope w5 H2.objs.size h₁:=by
  refine⟨λx c e=>?_,jx (λx y c e1 e2=>I.ok.inj x y c (xq x c e1) (xq y c e2)) (λx c e=>HR (AZ (clt x c e) qi)),λx hx=>?_,λx hx=>?_⟩
  .rcases oj x c e with q|⟨q1,q2,q3⟩
   .exact .inl (xq x c q)
   .exact .inr ⟨B.uniq _ q1,q2,q3⟩
  .have hm:=CJ hx;obtain⟨c,e,hc⟩:=sy x hm;exact⟨c,e,hc⟩
  .have hno:(x,BY)∉scope.names:=λz=>by
    have e1:=B.uniq _ hx;have e2:=B.uniq _ z;rw[show scope.names.lookup x=_ from e1]at e2
    cases e2
   obtain⟨c,e⟩:=qj x hx;exact⟨c,by rw[hcf x hno];exact e,xq x c e⟩
 have ju:∀ b∈fp,b<s.heap.objs.size:=λb hb=>by
  obtain⟨o,e,_⟩:=T.obj 0 _ st b hb;exact AS e
 generalize hD:s.heap.objs.size=D,hC':H2.objs.size=C at *;have I0:Z8 (yq X scope w5 C N' s H fp) [] (hideT ts Y) H {s with heap:=h₁,toks:=s.toks+([]:Ac (Ah×Al)).length}:=bP (tk:=s.toks+([]:Ac (Ah×Al)).length) I B hf (λb hb=>by rw[hD];exact ju b hb) bc old (by rw[hD];exact qi) au
 have nD:H D=Af:=I.hok.fresh (by rw[hD];exact AU _)
 have noD:∀ b∈fp,b≠D:=λb hb=>BA (ju b hb)
 have noC:∀ b∈fp,b≠C:=λb hb=>below b (ju b hb)
 have stfs:D∉yn X.stack:=λz=>by
  obtain⟨_,o,ho,_⟩:=I.stack.mem z;exact absurd (AS ho) (by rw[hD];exact BF _)
 have cD:∀ x c,w5.lookup x=Aa c->c≠D:=λx c e z=>by
  rcases bc.own x c e with q|⟨_,q,_⟩
  .obtain⟨v,q⟩:=I.cell x c q;exact absurd q.lt (by rw[z,hD];exact BF _)
  .rw[z]at q;exact absurd (AZ q qi) (BF _)
 have I1:Z8 (yq X scope w5 C N' s H fp) [(D,{ cls:=.type "list",data:=.seq ([]:Ac Al).toArray 0 })] (hideT ts Y) H {s with heap:=h₁,toks:=s.toks+([]:Ac (Ah×Al)).length}:=I0.pins_of λp hp=>by
  have e:=BU.mp hp;subst e;exact⟨hacc,nD,n9,stfs,λv z=>by
   have z':MD _ _=MA v:=z;cases z'⟩
 have st1:tn 0 h₁:=T.keep _ _ _ st λb _ o e=>old b o e
 obtain⟨W,⟨m0,w0⟩,turn⟩:=h;have fpk:∀{pl:Pn}{H':Hp},(∀ p∈pl,p.1=D)->(∀ b∈fp,H' b=Af)->∀ b∈fp,Je (yq X scope w5 C N' s H fp) pl H' b:=λ{pl H'} hp hn b hb=>
  ⟨hn b hb,noC b hb,λz=>by
   rcases A6.mp (I.stkSub b z) with e|e
   .exact(hf b hb).2.1 e
   .exact(hf b hb).2.2.1 e,.inl hb,λx c e=>(bc.own x c e).elim ((hf b hb).2.2.2.2.1 x c) (λz q=>absurd (FG qi z.2.1) (YF.mpr (by rw[q];exact GP (ju b hb)))),λp Ϻ=>by
   have z9:p∈pl:=Ϻ;rw[hp p z9];exact(noD b hb).symm⟩
 have loop:∀ s₃:Ar,s₃={s with heap:=h₁,toks:=s.toks+([]:Ac (Ah×Al)).length} ->
   EF (model X.prog X.w) X.A (.compLoop (.ListComp elt [⟨tg,iter,ifs,0⟩] scope pos) 0 (.ref it) (.ref D) (compEnvC scope w5 C X.env)) (RR (.ref D) C) s₃:=by
  rintro s₃ rfl;refine bO (λk s'=>∃ i Y' H' xs ys n,Z8 (yq X scope w5 C N' s H fp) [(D,{ cls:=.type "list",data:=.seq (FE ys) n })] Y' H' s'/\tn i s'.heap/\(∀ b∈fp,H' b=Af)/\A1 xs ys/\xs.length<=sizeLine/\W i k xs Y' H') ?_ m0
   ⟨0,_,H,[],[],0,I1,st1,λb hb=>(hf b hb).1,.nil,Ds _,w0⟩
  rintro k s' ⟨i,Y',H',xs,ys,n,I',rl,fr',rv,hz,w'⟩;have one:∀ p∈[((D,{ cls:=.type "list",data:=.seq (FE ys) n }):Ak×CZ)],p.1=D:=λp hp=>by rw[BU.mp hp]
  rcases turn i k xs Y' H' w' with ⟨stop,q⟩|⟨go,yc,step⟩
  .refine Bk (T.done (yq X scope w5 C N' s H fp) rfl rfl rfl hc i _ s' Y' H' (λ_ _=>AN) I' (fpk one fr') rl stop) (λr s1 ⟨hr,J1⟩=>?_) λ_ _ f=>f.elim
   subst hr;obtain⟨e,hn,_⟩:=J1.pin _ (Br _ AY);obtain⟨m,hm,_⟩:=J1.loc;exact hRR w5 D C s1 H' Y' _ xs ys n m J1 e hn rv hz (AU _) n9 qi hm (q D hn)
  .refine Bk (T.item (yq X scope w5 C N' s H fp) rfl rfl rfl hc i _ s' Y' H' (λ_ _=>AN) I' (fpk one fr') rl go) (λr s1 ⟨u,hr,h4⟩=>?_) λ_ _ f=>f.elim
   subst hr;refine Bk h4 (λ_ s5 ⟨x,H5,I5,r5,y5,kx,fr5⟩=>?_) λ_ _ f=>f.elim
   have et:=I5.pinned (fpk one fr5) (T.obj _ _ kx);refine Bk (hg w5 C s H _ s5 Y' H5 x u _ et r5 (step x H5 y5)) (λ_ s6 ⟨Y6,H6,I6,q6⟩=>?_) λ_ _ f=>f.elim
   refine Bk (ht w5 C s H _ s6 Y6 H6 _ I6 q6) (λok s7 ⟨H7,I7,q7⟩=>?_) λ_ _ f=>f.elim
   have again:∀{s8:Ar}{H8:Hp}{ys':Ac Al}{n':Ag},Z8 (yq X scope w5 C N' s H fp) ((D,{ cls:=.type "list",data:=.seq (FE ys') n' })::Ld fp s5.heap) Y6 H8 s8->Z8 (yq X scope w5 C N' s H fp) [(D,{ cls:=.type "list",data:=.seq (FE ys') n' })] Y6 H8 s8/\tn (i+1) s8.heap/\∀ b∈fp,H8 b=Af:=λ{s8 H8 ys' n'} I8=>
    ⟨I8.pins_of λp hp=>I8.pin p (Br _ (by rw[BU.mp hp];exact AY)),T.keep _ _ _ kx λb hb o e=>(I8.pin (b,o) (Br _ (AD _ (NW hb e)))).1,λb hb=>by
     obtain⟨o,e,d⟩:=T.obj _ _ kx b hb;exact(I8.pin (b,o) (Br _ (AD _ (NW hb e)))).2.1⟩
   cases ok with
   |false=>
    rw[Ay (by decide)]at q7
    obtain⟨m',hm,w7⟩:=q7;obtain⟨a1,a2,a3⟩:=again I7;rw[Ay (by decide)]
    exact⟨m',hm,i+1,Y6,H7,xs,ys,n,a1,a2,a3,rv,hz,w7⟩
   |true=>
    rw[Au rfl]at q7;rw[Au rfl];refine Bk (he w5 C s H _ s7 Y6 H7 _ I7 q7) (λval s8 ⟨y,H8,I8,r8,m',hm,w8⟩=>?_) λ_ _ f=>f.elim
    have hl:=rv.length;refine cE (X:=yq X scope w5 C N' s H fp) (ys:=ys) (n:=n) (pI:=Ld fp s5.heap) I8 (by show s.heap.objs.size<=D;rw[hD];exact AU _) (λp hp=>?_) cD (by omega) λs9 I9 kb=>?_
    .have z9:p∈Ld fp s5.heap:=hp;exact noD _ (TH z9).1
    .obtain⟨a1,a2,a3⟩:=again I9;exact⟨m',hm,i+1,Y6,H8,xs++[y],ys++[val],n+1,a1,a2,a3,rv.append (.cons r8 .nil),by rw[BS];exact yc,w8⟩
 exact codeAny_compStart_list (loop _ rfl) (T.self _ 0 _ _ _ st1 (loop _ rfl))
theorem lR{g:TG}(hc:X.calm=Ab)(B:zn X scope N' ts)(hi:PI X tg iter wi)(hg:∀ cl C s H fp,PG (yq X scope cl C N' s H fp) tg g)(ht:∀ cl C s H fp,fw (yq X scope cl C N' s H fp) ifs tt)(he:∀ cl C s H fp,PE (yq X scope cl C N' s H fp) elt te)(hs:∀ x,Da iter X.env x=pure x):PE X (.ListComp elt [⟨tg,iter,ifs,0⟩] scope pos) (λY H Q=>wi Y H λJ H1=>MR J ts g tt te Y H1 Q):=by
 intro pI s Y H Q I h;obtain⟨cl,qk,xq,qj⟩:=SK (scope:=scope) (env:=X.env) λx hx hk=>I.ok.has x.1 ((B.free x hx hk).imp id id)
 rw[eval_ListComp];refine aM (use:=Af) rfl hs qk B.kind B.names (U5 (hi pI s Y H _ I h) λv s1 h1=>U5 h1 λÀ s2 h2=>?_)
 obtain⟨it,fp,tn,J,H2,e,I2,T,st2,f2,h3⟩:=h2;subst e;refine Uv (RR:=λzt C=>compPost (model X.prog X.w) X.A X.xe Af (EP X pI Y Q) zt C) hc B I2 T st2 f2 xq qj (λcl C s H=>hg cl C s H fp) (λcl C s H=>ht cl C s H fp) (λcl C s H=>he cl C s H fp) h3 λw5 D C s' H' Y' LE xs ys n m I' hd gq rv hz hD n9 hC hm q=>?_
 exact⟨m,hm,λw6 kg=>⟨.ref D,_,To I2 f2 I' hD n9 hC hd gq rv hz kg,rfl,q⟩⟩
theorem iR{n:Ah}{g:TG}(hc:X.calm=Ab)(B:zn X scope N' ts)(hi:PI X tg iter wi)(hg:∀ cl C s H fp,PG (yq X scope cl C N' s H fp) tg g)(ht:∀ cl C s H fp,fw (yq X scope cl C N' s H fp) ifs tt)(he:∀ cl C s H fp,PE (yq X scope cl C N' s H fp) elt te)(hs:∀ x,Da iter X.env x=pure x)(hN:X.N.Nodup)(qs:X.N[i]?=Aa n)(hx:X.env.scope.names.lookup n=Aa .local)(ba:Dq (.ListComp elt [⟨tg,iter,ifs,0⟩] scope pos) (Aa (.Name n pos')) pos2.line X.env=pure Ab):PS X (.Assign [.Name n pos'] (.ListComp elt [⟨tg,iter,ifs,0⟩] scope pos) pos2) (O1 (λY H Q=>wi Y H λJ H1=>MR J ts g tt te Y H1 Q) (G5 i)):=by
 intro pI s Y H Dn I h;obtain⟨cl,qk,xq,qj⟩:=SK (scope:=scope) (env:=X.env) λx hx hk=>I.ok.has x.1 ((B.free x hx hk).imp id id)
 rw[exec_Assign_Name_used _ _ _ _ ba];refine As (CT (As ?_));show AA _ X.A (do let _ <-comprehension (.ListComp elt [⟨tg,iter,ifs,0⟩] scope pos) scope X.env _ (newList []) Ae (eval iter X.env) (Aa (assign (.Name n pos') X.env))) _ _ s
 refine As (Bk (aM (use:=Aa (assign (.Name n pos') X.env)) (Q:=λ_ s'=>SP X pI Dn .next s') rfl hs qk B.kind B.names
  (U5 (hi pI s Y H _ I h) λv s1 h1=>U5 h1 λÀ s2 h2=>?_)) (λ_ s' hq=>A2 (A2 hq)) λ_ _ e=>e)
 obtain⟨it,fp,tn,J,H2,e,I2,T,st2,f2,h3⟩:=h2;subst e;refine Uv (RR:=λzt C=>compPost (model X.prog X.w) X.A X.xe (Aa (assign (.Name n pos') X.env)) (λ_ s'=>SP X pI Dn .next s') zt C) hc B I2 T st2 f2 xq qj (λcl C s H=>hg cl C s H fp) (λcl C s H=>ht cl C s H fp) (λcl C s H=>he cl C s H fp) h3 λw5 D C s' H' Y' LE xs ys n' m I' hd gq rv hz hD n9 hC hm q=>?_
 have J0:Z8 X pI Y (upd H' D (.L xs)) s':=To I2 f2 I' hD n9 hC hd gq rv hz (Zy ..);refine aL (Tw J0 hN qs (.inl hx) (show Bs (.ref D) (.ref D) from rfl) (λcj J1 ⟨a,sb,ha⟩=>?_) (.inr hx))
 have hC0:X.s₀.heap.objs.size<=C:=B8 I2.sz hC;have hL:C≠X.env.locals:=λz=>absurd (AZ I2.lt (z ▸ hC)) (BF _)
 have hcC:∀ x c,X.env.cells.lookup x=Aa c->c≠C:=λx c e z=>by
  obtain⟨v,q'⟩:=I2.cell x c e;exact absurd (AZ q'.lt (by rw[z];exact hC)) (BF _)
 have hp:∀ p∈X.pn++pI,p.1≠C:=λp hp z=>absurd (AZ (AS (I2.pin p hp).1) (by rw[z];exact hC)) (BF _)
 have ϵ:upd H' D (.L xs) C=Af:=by rw[AQ n9.symm];exact I'.free
 have hCa:C≠a:=by
  rcases ha with rfl|ha
  .exact hL
  .exact λz=>hcC n a ha z.symm
 refine⟨m,hm.sameBut sb hCa,λw6 kg=>⟨_,_,J1.turned (t':=cj.toks) (λb o hb e=>(kg.2 b hb).trans e) ϵ hL (.inr hC0) hcC hp,q⟩⟩
theorem PZ:∀(ts:Ac Ag)(U:Rho)(j:Ag),(G4 ts U)[j]?=if j∈ts then (U[j]?).map (λ_=>Af) else U[j]?
 |[],U,j=>by simp[G4]
 |t::ts,U,j=>by
  show (G4 ts (U.set t Af))[j]?=_;rw[PZ ts];by_cases h1:j∈ts
  .rw[Au h1,Au (AD _ h1)];by_cases h2:t=j
   .subst h2;rw[F3];cases U[t]?<;>rfl
   .rw[Bt h2]
  .rw[Ay h1];by_cases h2:t=j
   .subst h2;rw[Au AY,F3];cases U[t]?<;>rfl
   .rw[Bt h2,Ay (by simp only[A6,NJ];exact⟨λz=>h2 z.symm,h1⟩)]
theorem PY:∀(ts:Ac Ag)(U:Rho),(G4 ts U).length=U.length
 |[],_=>rfl
 |t::ts,U=>by show (G4 ts (U.set t Af)).length=_;rw[PY ts,AT]
theorem P2:∀(ts:Ac Ag)(Y:L2.St){i:Ag},i∉ts->(hideT ts Y)[i]?=Y[i]?
 |[],_,_,_=>rfl
 |t::ts,Y,i,h=>by
  simp only[A6,NJ]at h;show (hideT ts (Y.set t Af))[i]?=_;rw[P2 ts _ h.2,Bt (λz=>h.1 z.symm)]
section
variable{K:Fg}{CL:ClA}{A:Ak->Prop}{U U':Rho}{Y:L2.St}{H:Hp}
theorem Y9.less(g:Y9 K CL A U Y H)(hl:U'.length=U.length)(h:∀(i:Ag)(d:D)(o:Am),U'[i]?=Aa (Aa (d,o))->U[i]?=Aa (Aa (d,o))):Y9 K CL A U' Y H:=⟨λi d e=>g.sh i d (h i d Ae e),λi d e hn=>g.ow i d (h i d Ab e) hn,hl.trans g.len⟩
theorem Y9.put(g:Y9 K CL A U Y H)(t:Ag)(r:Z7 K CL H A v d):Y9 K CL A (U.set t (Aa (d,Ae))) (Y.set t (Aa v)) H:=by
 refine⟨λj e h=>?_,λj e h hn=>?_,by rw[AT,AT];exact g.len⟩
 .by_cases hj:t=j
  .subst hj;have e1:=Ed h;cases e1;have hl:t<Y.length:=by
    rw[<-g.len];have:=(A5.mp h).1;simpa using this
   exact⟨v,by rw[Bx hl],r⟩
  .rw[Bt hj]at h;obtain⟨w',q,wy⟩:=g.sh j e h;exact⟨w',by rw[Bt hj];exact q,wy⟩
 .have hj:t≠j:=by
   rintro rfl;have:=Ed h;cases this
  rw[Bt hj]at h;obtain⟨a,xs,ds,q,z⟩:=g.ow j e h hn;exact⟨a,xs,ds,by rw[Bt hj];exact q,z⟩
theorem Y9.hide(g:Y9 K CL A U Y H)(ts:Ac Ag):Y9 K CL A (G4 ts U) Y H:=g.less (PY _ _) λi d o e=>by
 rw[PZ]at e;split at e
 .cases q:U[i]? with
  |none=>rw[q]at e;cases e
  |some x=>rw[q]at e;cases e
 .exact e
theorem Y9.hideT(g:Y9 K CL A U Y H)(ts:Ac Ag):Y9 K CL A (G4 ts U) (hideT ts Y) H:=by
 have key:∀ i x,(G4 ts U)[i]?=Aa (Aa x)->U[i]?=Aa (Aa x)/\i∉ts:=λi x e=>by
  rw[PZ]at e;split at e
  .cases q:U[i]? with
   |none=>rw[q]at e;cases e
   |some x=>rw[q]at e;cases e
  .exact⟨e,by assumption⟩
 refine⟨λi d e=>?_,λi d e hn=>?_,by rw[PY,PX];exact g.len⟩
 .obtain⟨e1,e2⟩:=key i _ e;obtain⟨v,q,r⟩:=g.sh i d e1;exact⟨v,by rw[P2 _ _ e2];exact q,r⟩
 .obtain⟨e1,e2⟩:=key i _ e;obtain⟨a,xs,ds,q,r⟩:=g.ow i d e1 hn;exact⟨a,xs,ds,by rw[P2 _ _ e2];exact q,r⟩
end
def GG(K:Fg)(CL:ClA)(ts:Ac Ag)(as:D->Rho->R Rho)(g:TG):Prop:=∀ A U Y H v d U' Q,Y9 K CL A (G4 ts U) Y H->Z7 K CL H A v d->as d U=.ok U'->(∀ Y',Y9 K CL A U' Y' H->Y9 K CL A (G4 ts U) Y' H->Q Y' H)->g v Y H Q
theorem nG(i:Ag):GG K CL [i] (λd U=>.ok (U.set i (Aa (d,Ae)))) (G5 i):=λA U Y H v d U' Q g r e k=>by
 cases e;have g2:=g.put i r;have e1:(G4 [i] U).set i (Aa (d,Ae))=U.set i (Aa (d,Ae)):=by
  show (U.set i Af).set i (Aa (d,Ae))=_;rw[YA]
 rw[e1]at g2;refine k _ g2 ?_;have:=g2.hide [i];have e2:G4 [i] (U.set i (Aa (d,Ae)))=G4 [i] U:=by
  show (U.set i _).set i Af=U.set i Af;rw[YA]
 rwa [e2]at this
noncomputable abbrev W0:XW:=λ_ _=>AN
def jd(X:Cx)(CL:ClA)(ifs:Ac Aq)(f:Rho->R Am):Prop:=∀ A,fw X ifs (λY H Q=>Ty H A/\∃ U,Y9 X.K CL A U Y H/\CQ W0 H (f U) Q)
theorem kA:jd X CL [] (λ_=>.ok Ab):=λA pI s Y H Q I ⟨hA,U,g,p⟩=>iN pI s Y H Q I (p H (Az.refl H))
theorem jZ{f:Rho->R Am}(h:SB X CL W0 c f):jd X CL [c] f:=λA pI s Y H Q I q=>iM (h A) pI s Y H Q I q
section
variable{X:Cx}{CL:ClA}{W:XW}{tg iter elt:Aq}{ifs:Ac Aq}{scope:Ca}{pos:AE}{N':Ac Ah}{ts:Ac Ag}{fi:Rho->R (Ac D)}{fc:Rho->R Am}{fe:Rho->R D}{as:D->Rho->R Rho}{g:TG}
theorem bG{g:D->R Am}{f:D->R D}{x:D}{xs ys:Ac D}(h:Cq g f (x::xs)=.ok ys):(g x=.ok Ae/\Cq g f xs=.ok ys)\/∃ y r,g x=.ok Ab/\f x=.ok y/\Cq g f xs=.ok r/\ys=y::r:=by
 unfold Cq at h;cases e:g x with
 |bad=>rw[e]at h;cases h
 |exn z=>rw[e]at h;cases h
 |ok b=>
  rw[e,R.bind_ok]at h;cases b with
  |false=>exact .inl ⟨rfl,h⟩
  |true=>
   rw[Au rfl]at h;cases e2:f x with
   |bad=>rw[e2]at h;cases h
   |exn z=>rw[e2]at h;cases h
   |ok y=>
    rw[e2,R.bind_ok]at h;cases e3:Cq g f xs with
    |bad=>rw[e3]at h;cases h
    |exn z=>rw[e3]at h;cases h
    |ok r=>
     rw[e3,R.bind_ok]at h;cases h;exact .inr ⟨y,r,rfl,rfl,rfl,rfl⟩
theorem K5{β:Type}{r:R α}{f:α->R β}{b:β}(h:r.bind f=.ok b):∃ a,r=.ok a/\f a=.ok b:=by
 cases r with
 |ok a=>exact⟨a,rfl,h⟩
 |exn x=>cases h
 |bad=>cases h
theorem dJ{ds ys:Ac D}(sk:GG K CL ts as g)(hA:Ty H1 A)(gd:Y9 K CL A U Y H1)(yl:LF K CL A ds J H1)(hz:ds.length<=sizeLine)(hcp:Cq (λx=>(as x U).bind fc) (λx=>(as x U).bind fe) ds=.ok ys)(q:∀ xs H2,Az H1 H2->Z9 K CL H2 A xs ys->∀ p,H2 p=Af->Q (.ref p) (upd H2 p (.L xs))):MR J ts g (λY H Q=>Ty H A/\∃ U,Y9 K CL A U Y H/\CQ W0 H (fc U) Q) (λY H Q=>Ty H A/\∃ U,Y9 K CL A U Y H/\AX (λH=>Z7 K CL H A) W0 H (fe U) Q) Y H1 Q:=by
 refine⟨λi m xs Y' H'=>m=ds.length-i/\i<=ds.length/\xs.length<=i/\Az H1 H'/\Y9 K CL A (G4 ts U) Y' H'/\∃ outs rest,Z9 K CL H' A xs outs/\Cq (λx=>(as x U).bind fc) (λx=>(as x U).bind fe) (ds.drop i)=.ok rest/\ys=outs++rest,
  ⟨ds.length,by simp,Ds _,AU _,Az.refl _,gd.hideT ts,[],ys,trivial,hcp,rfl⟩,?_⟩
 rintro i m xs Y' H' ⟨rfl,hi,hxl,sm,g',outs,rest,rs,hc,e⟩;obtain⟨yst,ygo⟩:=yl H' (Kp.of sm) i;by_cases yc:i<ds.length
 .have hd:ds[i]?=Aa ds[i]:=Cy yc;obtain⟨hgo,hyl⟩:=ygo _ hd;refine .inr ⟨hgo,by omega,λx H2 hx=>?_⟩
  obtain⟨s2,rx⟩:=hyl x H2 hx;have i5:=rx A (λa ha=>.inl ha) (hA.same sm)
  rw[DW yc]at hc;have yv:=sm.trans s2;rcases bG hc with ⟨h1,h2⟩|⟨y,r,h1,h2,h3,h4⟩
  .obtain⟨U',ea,ec⟩:=K5 h1;refine sk A U Y' H2 x ds[i] U' _ (g'.same s2) i5 ea λY3 g3 g4=>⟨hA.same yv,U',g3,?_⟩
   rw[ec];exact λH3 s3=>by
    dsimp only;rw[Ay (by decide)]
    exact⟨ds.length-(i+1),by omega,rfl,yc,by omega,yv.trans s3,g4.same s3,outs,rest,(rs.same s2).same s3,h2,e⟩
  .obtain⟨U',ea,ec⟩:=K5 h1;obtain⟨U2,ea2,ee⟩:=K5 h2;rw[ea]at ea2;cases ea2;refine sk A U Y' H2 x ds[i] U' _ (g'.same s2) i5 ea λY3 g3 g4=>⟨hA.same yv,U',g3,?_⟩
   rw[ec];exact λH3 s3=>by
    dsimp only;rw[Au rfl];refine⟨(hA.same yv).same s3,U',g3.same s3,?_⟩;rw[ee];exact λv H4 s4 r4=>⟨ds.length-(i+1),by omega,rfl,yc,by rw[BS,Yt];omega,(yv.trans s3).trans s4,(g4.same s3).same s4,outs++[y],r,(((rs.same s2).same s3).same s4).append ⟨r4,trivial⟩,h3,by rw[e,h4];simp⟩
 .have vt:ds.length<=i:=by omega
  rw[Gd vt]at hc;have hr:rest=[]:=by cases hc;rfl
  subst hr;rw[Bz]at e;subst e;exact .inl ⟨yst vt,λp hp=>q xs H' sm rs p hp⟩
theorem F9.ok_of{r:R (Ac D)}{f:Ac D->R D}{Q':It->Hp->Prop}(h:AX Rq W H (r.bind f) Q)(k:∀ ds J H',r=.ok ds->Az H H'->LF K CL A ds J H'->ds.length<=sizeLine->AX Rq W H' (f ds) Q->Q' J H'):F9 K CL A W H r Q':=by
 cases r with
 |ok d=>exact λJ H2 s2 y z=>k d J H2 rfl s2 y z (AX.same s2 h)
 |exn x=>exact h
 |bad=>exact h
theorem qK{r:R α}{a:α}(h:zg r=.ok a):r=.ok a:=by
 cases r with
 |ok b=>exact h
 |exn x=>cases h
 |bad=>cases h
theorem Tn(sk:GG X.K CL ts as g)(hA:Ty H A)(gd:Y9 X.K CL A U Y H)(p:AX (Cr X.K CL Ab H A) W H ((fi U).bind λxs=>(zg (Cq (λx=>(as x U).bind fc) (λx=>(as x U).bind fe) xs)).bind λys=>.ok (.L ys)) Q):F9 X.K CL A W H (fi U) (λJ H1=>MR J ts g (λY H Q=>Ty H A/\∃ U,Y9 X.K CL A U Y H/\CQ W0 H (fc U) Q) (λY H Q=>Ty H A/\∃ U,Y9 X.K CL A U Y H/\AX (λH=>Z7 X.K CL H A) W0 H (fe U) Q) Y H1 Q):=
 F9.ok_of p λds J H1 e1 s1 yl hz p1=>by
  cases e2:zg (Cq (λx=>(as x U).bind fc) (λx=>(as x U).bind fe) ds) with
  |ok ys=>
   rw[e2]at p1;exact dJ sk (hA.same s1) (gd.same s1) yl hz (qK e2) λxs H2 s2 rs q hq=>p1 _ _ (s2.trans (EZ hq _)) (K6 (s1.trans s2) ((hA.same s1).same s2) hq rs)
  |exn x=>rw[e2]at p1;cases hq:Cq (λx=>(as x U).bind fc) (λx=>(as x U).bind fe) ds<;>rw[hq]at e2<;>cases e2
  |bad=>rw[e2]at p1;exact p1.elim
theorem iZ(hc:X.calm=Ab)(B:zn X scope N' ts)(hi:SI X CL W tg iter fi)(sk:GG X.K CL ts as g)(hg:∀ cl C s H fp,PG (yq X scope cl C N' s H fp) tg g)(ht:∀ cl C s H fp,jd (yq X scope cl C N' s H fp) CL ifs fc)(he:∀ cl C s H fp,SE (yq X scope cl C N' s H fp) CL W0 elt fe)(hs:∀ x,Da iter X.env x=pure x):SC X CL W Ab (.ListComp elt [⟨tg,iter,ifs,0⟩] scope pos) (λU=>(fi U).bind λxs=>(zg (Cq (λx=>(as x U).bind fc) (λx=>(as x U).bind fe) xs)).bind λys=>.ok (.L ys)):=λA pI s Y H Q I ⟨hA,U,gd,p⟩=>
 lR hc B (hi A) hg (λcl C s H fp=>ht cl C s H fp A) (λcl C s H fp=>he cl C s H fp A) hs pI s Y H Q I ⟨hA,U,gd,Tn sk hA gd p⟩
end
section
variable{K:Fg}{CL:ClA}{Fz:Fr}{B:Ak->Prop}{U:Rho}{Y:L2.St}{H H':Hp}
theorem Sx.setF(x:Sx K CL Fz B U Y H)(s:Az H H'){ds:Ac D}(h0:H a=Af)(h1:H' a=Aa (.L xs))(r:Z9 K CL H' (λb=>BJ B U Y b\/b=a) xs ds):Sx K CL Fz B (U.set i (Aa (.L ds,Ab))) (Y.set i (Aa (.ref a))) H':=by
 have nA:¬ BJ B U Y a:=x.aok.new h0;have own:∀(j:Ag)(e:D),(U.set i (Aa (.L ds,Ab)))[j]?=Aa (Aa (e,Ab))->(i=j/\e=.L ds)\/(i≠j/\U[j]?=Aa (Aa (e,Ab))):=λj e h=>by
  by_cases hj:i=j
  .subst hj;have:=Ed h;cases this;exact .inl ⟨rfl,rfl⟩
  .exact .inr ⟨hj,by rw[Bt hj]at h;exact h⟩
 have vf:∀{j:Ag}{y:Sl},(U.set i (Aa (.L ds,Ab)))[j]?=Aa y->i=j->(Y.set i (Aa (.ref a)))[j]?=Aa (Aa (.ref a)):=λ{j y} h e=>by
  subst e;have hl:i<Y.length:=by
   rw[<-x.len];have:=(A5.mp h).1;simpa using this
  rw[Bx hl]
 have sub:∀ b,BJ B (U.set i (Aa (.L ds,Ab))) (Y.set i (Aa (.ref a))) b->BJ B U Y b\/b=a:=λb h=>by
  rcases h with h|⟨j,e,h1,h2⟩
  .exact .inl (.inl h)
  .rcases own j e h1 with ⟨hj,_⟩|⟨hj,lu⟩
   .rw[vf h1 hj]at h2;cases h2;exact .inr rfl
   .rw[Bt hj]at h2;exact .inl (.inr ⟨j,e,lu,h2⟩)
 have wide:∀{v:V}{d:D},Z7 K CL H (BJ B U Y) v d->Z7 K CL H' (BJ B (U.set i (Aa (.L ds,Ab))) (Y.set i (Aa (.ref a)))) v d:=λr=>(Z7.wide (λb hb=>(sub b hb).imp id λe=>by rw[e];exact h0) _ r).same s
 have d8:∀{v:Ac V}{d:Ac D},Z9 K CL H (BJ B U Y) v d->Z9 K CL H' (BJ B (U.set i (Aa (.L ds,Ab))) (Y.set i (Aa (.ref a)))) v d:=λr=>(Z9.wide (λb hb=>(sub b hb).imp id λe=>by rw[e];exact h0) _ r).same s
 refine⟨⟨λj e h=>?_,λj e h hn=>?_,by rw[AT,AT];exact x.len⟩,λb h=>?_,λj e b g1 g2=>?_,λj k e f b g1 g2 g3 g4=>?_,λb o z=>s _ _ (x.same b o z),by rw[AT,AT];exact x.len,λj h=>?_⟩
 .have hj:i≠j:=by
   rintro rfl;have:=Ed h;cases this
  rw[Bt hj]at h;obtain⟨w',q,wy⟩:=x.good.sh j e h;exact⟨w',by rw[Bt hj];exact q,wide wy⟩
 .rcases own j e h with ⟨hj,rfl⟩|⟨hj,h'⟩
  .have q:=vf h hj;exact⟨a,xs,ds,q,rfl,.inr ⟨j,_,h,q⟩,h1,Z9.sub sub _ r⟩
  .obtain⟨b,ys,es,q,z,ha,hh,rr⟩:=x.good.ow j e h' hn;have q':(Y.set i (Aa (.ref a)))[j]?=Aa (Aa (.ref b)):=by rw[Bt hj];exact q
   exact⟨b,ys,es,q',z,.inr ⟨j,e,h,q'⟩,s _ _ hh,d8 rr⟩
 .rcases sub b h with z|z
  .obtain⟨ys,q,w⟩:=x.aok b z;exact⟨ys,s _ _ q,w⟩
  .rw[z];exact⟨_,h1,trivial⟩
 .rcases own j e g1 with ⟨hj,_⟩|⟨hj,h'⟩
  .rw[vf g1 hj]at g2;cases g2;refine⟨λo z=>?_,λz=>nA (.inl z)⟩
   have:=x.same a o z;rw[h0]at this;cases this
  .rw[Bt hj]at g2;exact x.new j e b h' g2
 .rcases own j e g1 with ⟨hj,_⟩|⟨hj,h'⟩
  .rw[vf g1 hj]at g3;cases g3;rcases own k f g2 with ⟨hk,_⟩|⟨hk,w6⟩
   .exact hj.symm.trans hk
   .rw[Bt hk]at g4;exact absurd (.inr ⟨k,f,w6,g4⟩) nA
  .rw[Bt hj]at g3;rcases own k f g2 with ⟨hk,_⟩|⟨hk,w6⟩
   .rw[vf g2 hk]at g4;cases g4;exact absurd (.inr ⟨j,e,h',g3⟩) nA
   .rw[Bt hk]at g4;exact x.dis j k e f b h' w6 g3 g4
 .rcases own j _ h with ⟨_,z⟩|⟨hj,h'⟩
  .cases z
  .obtain⟨b,ys,p1,p2,p3⟩:=x.pin j h';exact⟨b,ys,p1,by rw[Bt hj];exact p2,s _ _ p3⟩
theorem Sx.upd(x:Sx K CL Fz B U Y H){i:Ag}{d:D}{a:Ak}{xs:Ac V}{ds:Ac D}(hi:U[i]?=Aa (Aa (d,Ab)))(ha:Y[i]?=Aa (Aa (.ref a)))(r:Z9 K CL H (BJ B U Y) xs ds):Sx K CL Fz B (U.set i (Aa (.L ds,Ab))) Y (L2.upd H a (.L xs)):=by
 have oa:BJ B U Y a:=.inr ⟨i,d,hi,ha⟩;have hil:i<U.length:=(A5.mp hi).1;have get:∀(j:Ag)(e:D),(U.set i (Aa (.L ds,Ab)))[j]?=Aa (Aa (e,Ab))↔(i=j/\e=.L ds)\/(i≠j/\U[j]?=Aa (Aa (e,Ab))):=λj e=>by
  by_cases hj:i=j
  .subst hj;rw[Bx hil];simp;exact⟨λz=>z.symm,λz=>z.symm⟩
  .rw[Bt hj];simp[hj]
 have same:∀ b,BJ B (U.set i (Aa (.L ds,Ab))) Y b↔BJ B U Y b:=λb=>by
  constructor
  .rintro (h|⟨j,e,h1,h2⟩)
   .exact .inl h
   .rcases (get j e).mp h1 with ⟨rfl,_⟩|⟨_,h1⟩
    .exact .inr ⟨i,d,hi,h2⟩
    .exact .inr ⟨j,e,h1,h2⟩
  .rintro (h|⟨j,e,h1,h2⟩)
   .exact .inl h
   .by_cases hj:i=j
    .subst hj;exact .inr ⟨i,.L ds,(get i _).mpr (.inl ⟨rfl,rfl⟩),h2⟩
    .exact .inr ⟨j,e,(get j e).mpr (.inr ⟨hj,h1⟩),h2⟩
 have kp:Kp (BJ B U Y) H (L2.upd H a (.L xs)):=λb o e na=>by
  have wo:b≠a:=by
   rintro rfl;exact na oa
  rw[AQ wo];exact e
 refine⟨⟨λj e h=>?_,λj e h hn=>?_,by rw[AT];exact x.len⟩,λb h=>?_,λj e b g1 g2=>?_,λj k e f b g1 g2 g3 g4=>?_,λb o z=>?_,by rw[AT];exact x.len,λj h=>?_⟩
 .have hj:i≠j:=by
   rintro rfl;have:=Ed h;cases this
  rw[Bt hj]at h;obtain⟨w',q,wy⟩:=x.good.sh j e h;exact⟨w',q,Z7.sub (λb hb=>(same b).mp hb) _ (Z7.kp kp _ wy)⟩
 .rcases (get j e).mp h with ⟨rfl,rfl⟩|⟨hj,h'⟩
  .exact⟨a,xs,ds,ha,rfl,(same a).mpr oa,BK,Z9.sub (λb hb=>(same b).mp hb) _ (Z9.kp kp _ r)⟩
  .obtain⟨b,ys,es,q,z,hb,hh,rr⟩:=x.good.ow j e h' hn;have wo:b≠a:=λz=>hj (x.dis i j d e a hi h' ha (z ▸ q))
   exact⟨b,ys,es,q,z,(same b).mpr hb,by rw[AQ wo];exact hh,Z9.sub (λb hb=>(same b).mp hb) _ (Z9.kp kp _ rr)⟩
 .obtain⟨ys,q,w⟩:=x.aok b ((same b).mp h);by_cases e:b=a
  .rw[e];exact⟨_,BK,trivial⟩
  .exact⟨ys,by rw[AQ e];exact q,w⟩
 .rcases (get j e).mp g1 with ⟨rfl,_⟩|⟨_,h'⟩
  .exact x.new i d b hi g2
  .exact x.new j e b h' g2
 .rcases (get j e).mp g1 with ⟨rfl,_⟩|⟨hj,h'⟩
  .rcases (get k f).mp g2 with ⟨rfl,_⟩|⟨hk,w6⟩
   .rfl
   .exact x.dis i k d f b hi w6 g3 g4
  .rcases (get k f).mp g2 with ⟨rfl,_⟩|⟨hk,w6⟩
   .exact x.dis j i e d b h' hi g3 g4
   .exact x.dis j k e f b h' w6 g3 g4
 .have wo:b≠a:=λe=>(x.new i d a hi ha).1 o (e ▸ z)
  rw[AQ wo];exact x.same b o z
 .rcases (get j _).mp h with ⟨_,z⟩|⟨hj,h'⟩
  .cases z
  .obtain⟨b,ys,p1,p2,p3⟩:=x.pin j h';have wo:b≠a:=λz=>hj (x.dis i j d _ a hi h' ha (z ▸ p2))
   exact⟨b,ys,p1,p2,by rw[AQ wo];exact p3⟩
theorem Sx.rel(x:Sx K CL Fz B U Y H)(hi:U[i]?=Aa (Aa (d,Ab)))(hn:d≠.O):Sx K CL Fz B (U.set i (Aa (d,Ae))) Y H:=by
 obtain⟨a,xs,ds,q,rfl,oa,hh,rr⟩:=x.good.ow i d hi hn;have own:∀(j:Ag)(e:D),(U.set i (Aa (.L ds,Ae)))[j]?=Aa (Aa (e,Ab))->i≠j/\U[j]?=Aa (Aa (e,Ab)):=λj e h=>by
  by_cases hj:i=j
  .subst hj;have:=Ed h;cases this
  .exact⟨hj,by rw[Bt hj]at h;exact h⟩
 have sub:∀ b,BJ B (U.set i (Aa (.L ds,Ae))) Y b->BJ B U Y b:=λb h=>by
  rcases h with h|⟨j,e,h1,h2⟩
  .exact .inl h
  .exact .inr ⟨j,e,(own j e h1).2,h2⟩
 have na:¬ BJ B (U.set i (Aa (.L ds,Ae))) Y a:=λh=>by
  rcases h with h|⟨j,e,h1,h2⟩
  .exact(x.new i _ a hi q).2 h
  .obtain⟨hj,h1⟩:=own j e h1;exact hj (x.dis i j _ e a hi h1 q h2)
 refine⟨⟨λj e h=>?_,λj e h hn=>?_,by rw[AT];exact x.len⟩,λb h=>x.aok b (sub b h),λj e b g1 g2=>x.new j e b (own j e g1).2 g2,λj k e f b g1 g2 g3 g4=>x.dis j k e f b (own j e g1).2 (own k f g2).2 g3 g4,x.same,by rw[AT];exact x.len,λj h=>x.pin j (own j _ h).2⟩
 .by_cases hj:i=j
  .subst hj;have e1:=Ed h;cases e1;exact⟨_,q,a,xs,rfl,.inl na,IO.of hh,Z9.sub sub _ rr⟩
  .rw[Bt hj]at h;obtain⟨w',q',wy⟩:=x.good.sh j e h;exact⟨w',q',Z7.sub sub _ wy⟩
 .obtain⟨hj,h'⟩:=own j e h;obtain⟨b,ys,es,q',z,hb,hh',rr'⟩:=x.good.ow j e h' hn;exact⟨b,ys,es,q',z,.inr ⟨j,e,h,q'⟩,hh',Z9.sub sub _ rr'⟩
end
section
variable{X:Cx}{CL:ClA}{W:XW}{pos:AE}{e:Aq}{fe:Rho->R D}{fr:Am}
theorem B2.exC{f:D->O}(x:Sx X.K CL Fz B U Y H)(h:B2 X.K CL Fz B W (O.of U r f) D')(k:∀ d v H',r=.ok d->Az H H'->Cr X.K CL fr H A H' v d->Sx X.K CL Fz B U Y H'->B2 X.K CL Fz B W (f d) D'->Q v H'):AX (Cr X.K CL fr H A) W H r Q:=by
 cases r with
 |ok d=>exact λv H' s r=>k d v H' rfl s r (x.grow s) h
 |exn y=>exact λH' s=>h H' λb o z=>s _ _ (x.same b o z)
 |bad=>exact h
def fx(X:Cx)(CL:ClA)(W:XW)(fr:Am)(i:Ag)(st:AL)(f:Rho->R D):Prop:=∀ A,PS X st (O1 (λY H Q=>Ty H A/\∃ U,Y9 X.K CL A U Y H/\AX (Cr X.K CL fr H A) W H (f U) Q) (G5 i))
theorem SC.sas{n:Ah}(hN:X.N.Nodup)(hi:X.N[i]?=Aa n)(hx:o6 X.env.scope n)(he:SC X CL W fr e fe)(hs:Dq e (Aa (.Name n pos')) pos.line X.env=pure Ae)(hf:X.fn n=Ab\/X.env.scope.names.lookup n=Aa .local):fx X CL W fr i (.Assign [.Name n pos'] e pos) fe:=
 λA=>EH hN hi hx (he A) hs hf
theorem fU{n:Ah}{fe:Rho->R D}{g:TG}(hc:X.calm=Ab)(B:zn X scope N' ts)(hi:SI X CL W tg iter fi)(sk:GG X.K CL ts as g)(hg:∀ cl C s H fp,PG (yq X scope cl C N' s H fp) tg g)(ht:∀ cl C s H fp,jd (yq X scope cl C N' s H fp) CL ifs fc)(he:∀ cl C s H fp,SE (yq X scope cl C N' s H fp) CL W0 elt fe)(hs:∀ x,Da iter X.env x=pure x)(hN:X.N.Nodup)(qs:X.N[i]?=Aa n)(hx:X.env.scope.names.lookup n=Aa .local)(ba:Dq (.ListComp elt [⟨tg,iter,ifs,0⟩] scope pos) (Aa (.Name n pos')) pos2.line X.env=pure Ab):fx X CL W Ab i (.Assign [.Name n pos'] (.ListComp elt [⟨tg,iter,ifs,0⟩] scope pos) pos2) (λU=>(fi U).bind λxs=>(zg (Cq (λx=>(as x U).bind fc) (λx=>(as x U).bind fe) xs)).bind λys=>.ok (.L ys)):=λA pI s Y H Dn I ⟨hA,U,gd,p⟩=>
 iR hc B (hi A) hg (λcl C s H fp=>ht cl C s H fp A) (λcl C s H fp=>he cl C s H fp A) hs hN qs hx ba pI s Y H Dn I ⟨hA,U,gd,Tn sk hA gd p⟩
theorem Vr{st:AL}(h:fx X CL W fr i st fe):SS X CL W st (λU=>O.of U (fe U) λd=>.next (U.set i (Aa (d,Ae)))):=λFz B pI s Y H D I ⟨U,x,p⟩=>
 h (BJ B U Y) pI s Y H D I ⟨x.aok,U,x.good,B2.exC x p λd v H' _ s r x' q=>q _ H' (x'.set i r.1)⟩
theorem US{st:AL}(h:fx X CL W Ab i st fe):SS X CL W st (λU=>O.of U (fe U) λd=>setF U i d):=λFz B pI s Y H D I ⟨U,x,p⟩=>
 h (BJ B U Y) pI s Y H D I ⟨x.aok,U,x.good,B2.exC x p λd v H' _ s r x' q=>by
  cases d with
  |L ds=>
   obtain⟨a,xs,rfl,h0,h1,rs⟩:=r.2 rfl ds rfl;exact q _ H' (x.setF s h0 h1 rs)
  |dic ds=>exact r.1.elim
  | _=>exact q.elim⟩
theorem kD(he:SC X CL W Ab e fe):SS X CL W (.Return (Aa e) pos) (λU=>O.of U (fe U) λd=>.ret d Ab):=λFz B pI s Y H D I ⟨U,x,p⟩=>
 Hl (he (BJ B U Y)) pI s Y H D I ⟨x.aok,U,x.good,B2.exC x p λd v H' _ s r x' q=>q v H' x'.same (Z7.sub (λa h=>.inl h) _ r.1) λ_ ds e=>by
  obtain⟨a,xs,h0,h1,h2,h3⟩:=r.2 rfl ds e;refine⟨a,xs,h0,λo z=>?_,h2,Z9.sub (λb hb=>hb.imp .inl id) _ h3⟩
  have:=x.same a o z;rw[h1]at this;cases this⟩
noncomputable def R9(U:Rho)(i:Ag):Am:=match U[i]? with
  |some (Aa (_,o))=>o
  |_=>Ae
theorem UQ(he:PE X e (Ch i)):SS X CL W (.Return (Aa e) pos) (λU=>O.of U (CS U i) λd=>.ret d (R9 U i)):=λFz B pI s Y H D I ⟨U,x,p⟩=>
 Hl he pI s Y H D I (by
  dsimp only at p;cases e:CS U i with
  |bad=>rw[e]at p;exact p.elim
  |exn z=>exact(T4 e).elim
  |ok d=>
   rw[e]at p;obtain⟨o,e,hn⟩:=Ui e;have eo:R9 U i=o:=by unfold R9;rw[e]
   rw[O.of_ok,eo]at p;cases o with
   |false=>
    obtain⟨v,q,r⟩:=x.good.sh i d e;exact⟨v,q,p v H x.same (Z7.sub (λa h=>.inl h) _ r) λz=>nomatch z⟩
   |true=>
    obtain⟨a,xs,ds,q,rfl,ha,hh,r⟩:=x.good.ow i d e (hn rfl);obtain⟨n1,n2⟩:=x.new i _ a e q;refine⟨_,q,p _ H x.same ⟨a,xs,rfl,.inl n2,IO.of hh,Z9.sub (λa h=>.inl h) _ r⟩ λ_ um e'=>?_⟩
    cases e';exact⟨a,xs,rfl,n1,hh,Z9.sub (λb hb=>hb.elim .inl λz=>z ▸ ha) _ r⟩)
theorem lS{ds:Ac D}(h:FV U i=.ok ds):U[i]?=Aa (Aa (.L ds,Ab)):=by
 unfold FV at h;split at h
 .rename_i e;cases h;exact e
 .cases h
theorem eU{x:Ex}(h:FV U i=.exn x):AN:=by
 unfold FV at h;split at h<;>cases h
variable{o:Aq}{i:Ag}{apos cpos:AE}
theorem oY(ho:PE X o (Ch i))(he:SE X CL W e fe)(U4:BZ o "append" X.env (eval o X.env)=eval o X.env)(wu:((Bv cpos (Aw [e] X.env)).all (λx=>!x.1)&&(EU cpos (DG [] X.env)).all (λx=>x.1.isSome)&&decide ([e].length+([]:Ac CV).length+(if ([]:Ac CV).isEmpty then 0 else 1)<30))=Ab)(My:(apos.endLine==cpos.line)=Ab)(hs:Aw [e] X.env=[(Ae,eval e X.env)])(ba:Dq (.Call (.Attribute o "append" apos) [e] [] cpos) Af pos.line X.env=pure Ae):
  SS X CL W (.Expr (.Call (.Attribute o "append" apos) [e] [] cpos) pos) (λU=>O.of U (FV U i) λxs=>O.of U (fe U) λd=>if CY (xs.length+1)=Ab then .next (U.set i (Aa (.L (xs++[d]),Ab))) else .bad):=λFz B pI s Y H D I ⟨U,x,p⟩=>by
 refine Kf (KO Cc D5 D6 NV ho (Bw (he (BJ B U Y)) Cf hs) U4 wu My hs rfl) ba pI s Y H D I ?_;dsimp only at p;cases e1:FV U i with
 |bad=>rw[e1]at p;exact p.elim
 |exn z=>exact(eU e1).elim
 |ok ds=>
  rw[e1,O.of_ok]at p;have hi:=lS e1;obtain⟨a,xs,um,q,e2,ha,hh,r⟩:=x.good.ow i _ hi (λz=>nomatch z)
  cases e2;refine⟨_,q,.inl ⟨rfl,xs,IO.of hh⟩,x.aok,U,x.good,B2.ex x p λd v H' _ s rv x' q'=>?_⟩
  split at q'
  .rename_i hz;refine⟨a,xs,v,rfl,rfl,s _ _ hh,?_,q' _ _ (x'.upd hi q ((r.same s).append ⟨rv,trivial⟩))⟩;have:=La hz;rw[r.length];omega
  .exact q'.elim
theorem kG{as:Ov.D->Rho->R Rho}{g:TG}(hGT:GT X.K CL as g)(hg:PG X tg g)(he:SE X CL W e fe)(hs:JZ [tg] e pos.line X.env=pure Ae)(hw:HF [tg] e X.env=pure Af)(h1:(Cw [tg] X.env).map (·.2)=[assign tg X.env])(hax:∀ d U x,as d U≠.exn x):SS X CL W (.Assign [tg] e pos) (λU=>O.of U (fe U) λd=>O.of U (as d U) λU'=>.next U'):=λFz B pI s Y H D I ⟨U,x,p⟩=>
 rJ (he (BJ B U Y)) hg hs hw h1 pI s Y H D I ⟨x.aok,U,x.good,B2.ex x p λd v H' _ s rv x' q'=>by
  cases ea:as d U with
  |bad=>rw[ea]at q';exact q'.elim
  |exn z=>exact absurd ea (hax _ _ z)
  |ok U2=>
   rw[ea,O.of_ok]at q';exact hGT Fz B U Y H' v d U2 _ x' rv ea λY' x3=>q' Y' H' x3⟩
theorem kC{rest:Ac AL}{f:Rho->O}(i:Ag)(h:vq X CL W rest f):vq X CL W rest (λU=>(match U[i]? with
   |some (Aa (d,Ab))=>RZ U i d
   | _=>O.next U).seq f):=λFz B=>ye.weak (h Fz B) λD Y H ⟨U,x,p⟩=>by
 dsimp only at p;split at p
 .rename_i d e;cases d with
  |L xs=>exact⟨_,x.rel e (λz=>nomatch z),p⟩
  |_=>exact p.elim
 .exact⟨U,x,p⟩
end
section
variable{X:Cx}{CL:ClA}{W:XW}{pos:AE}{e k o:Aq}{fe fk:Rho->R D}{i:Ag}{apos cpos:AE}
theorem A1.take(r:A1 xs its):∀ n,A1 (xs.take n) (its.take n):=by
 induction r with
 |nil=>intro n;simp;exact .nil
 |cons h _ ih=>
  intro n;cases n with
  |zero=>exact .nil
  |succ n=>exact .cons h (ih n)
theorem A1.drop(r:A1 xs its):∀ n,A1 (xs.drop n) (its.drop n):=by
 induction r with
 |nil=>intro n;simp;exact .nil
 |cons h t ih=>
  intro n;cases n with
  |zero=>exact .cons h t
  |succ n=>exact ih n
end
section
variable{prog:AK}{w:AH}{A:A4}{E:Vq}{s:Ar}
end
def JO(t:Am)(h:AI)(j l:Ak)(i:Ag):Prop:=match t with
  |true=>h.IsTupleIter j l i
  |false=>h.IsListIter j l i
def KY(t:Am)(h:AI)(l:Ak)(its:Bl Al):Prop:=match t with
  |true=>h.IsTuple l its
  |false=>h.IsList l its
theorem nb2{I l c:Ag}(b:l<I)(h:c∈[I+1,l]):c≠I/\c≠I+3/\c≠I+4:=by
 have h':c=I+1\/c=l:=by simpa using h
 omega
section
variable{prog:AK}{w:AH}{A:A4}{E:Vq}{s:Ar}
end
theorem JO.at'{j:Ak}(z:JO t h j l i)(k:∀ o,h.get? j=Aa o->h2.get? j=Aa o):JO t h2 j l i:=by
 cases t with
 |true=>exact PySem.Heap.IsTupleIter.at z k
 |false=>exact PySem.Heap.IsListIter.at z k
section
variable{prog:AK}{w:AH}{A:A4}{E:Vq}{s:Ar}
theorem KY.push{its:Bl Al}(z:KY t h l its)(o:CZ):KY t (h.push o) l its:=by
 cases t with
 |true=>exact PySem.Heap.IsTuple.at z λ_ e=>AB _ e
 |false=>exact PySem.Heap.IsList.at z λ_ e=>AB _ e
end
theorem KY.lt{its:Bl Al}(z:KY t h a its):a<h.objs.size:=by
 cases t with
 |true=>obtain⟨o,e,_⟩:=z;exact AS e
 |false=>obtain⟨o,e,_⟩:=z;exact AS e
section
variable{X:Cx}{CL:ClA}{W:XW}{pos p:AE}{a b:Aq}{fa fb:Rho->R D}
end
theorem JO.keep{l:Ag}(z:JO t h j l i)(k:∀ o,h.get? j=Aa o->h2.get? j=Aa o):JO t h2 j l i:=by
 cases t with
 |true=>exact PySem.Heap.IsTupleIter.at z k
 |false=>exact PySem.Heap.IsListIter.at z k
section
variable{prog:AK}{w:AH}{A:A4}{E:Vq}{s:Ar}
end
section
variable{X:Cx}{CL:ClA}{W:XW}{pos p:AE}{a:Aq}{fa:Rho->R D}
end
noncomputable abbrev XU(h:AI)(z TI TO:Ak)(f0 f1:Al):Prop:=h.get? z=Aa { cls:=.type "zip",dict:=Af,data:=.fields #[f0,f1,.bool Ae,.ref TI,.ref TO],slots:=#[] }
noncomputable abbrev XV(h:AI)(T:Ak)(a b c:Al):Prop:=h.get? T=Aa { cls:=.type "tuple",data:=.seq #[a,b,c] }
section
variable{prog:AK}{w:AH}{A:A4}{E:Vq}{s:Ar}
def jg(t1 t2 t3:Am)(I l1 l2 l3 i:Ag)(h:AI):Prop:=XV h (I+3) (.ref (I+0)) (.ref (I+1)) (.ref (I+2))/\JO t1 h (I+0) l1 i/\JO t2 h (I+1) l2 i/\JO t3 h (I+2) l3 i/\(∃ a b c,XV h (I+4) a b c) /\
 (XU h (I+5) (I+3) (I+4) .none (.bool Ae)\/∃(T1:Ag)(f1:Am),XU h (I+5) (I+3) (I+4) (HB T1) (.bool f1))
end
section
variable{prog:AK}{w:AH}{A:A4}{R:Ij->Ar->Prop}
theorem KY.at'{its:Bl Al}(z:KY t h l its)(k:∀ o,h.get? l=Aa o->h2.get? l=Aa o):KY t h2 l its:=by
 cases t with
 |true=>exact PySem.Heap.IsTuple.at z k
 |false=>exact PySem.Heap.IsList.at z k
theorem jg.at'{t1 t2 t3:Am}{I l1 l2 l3 i:Ag}{h h2:AI}(z:jg t1 t2 t3 I l1 l2 l3 i h)(k:∀ j,j<=5->∀ o,h.get? (I+j)=Aa o->h2.get? (I+j)=Aa o):jg t1 t2 t3 I l1 l2 l3 i h2:=by
 obtain⟨zI,i1,i2,i3,⟨a,b,c,hO⟩,zz⟩:=z;exact⟨k 3 (by decide) _ zI,i1.at' λo q=>k 0 (by decide) o q,i2.at' λo q=>k 1 (by decide) o q,i3.at' λo q=>k 2 (by decide) o q,⟨a,b,c,k 4 (by decide) _ hO⟩,zz.imp (k 5 (by decide) _) λ⟨T1,f1,hz⟩=>⟨T1,f1,k 5 (by decide) _ hz⟩⟩
end
section
variable{prog:AK}{w:AH}{A:A4}{E:Vq}{s:Ar}
end
theorem jg.ty{t1 t2 t3:Am}{I l1 l2 l3 i:Ag}(z:jg t1 t2 t3 I l1 l2 l3 i s.heap):s.TypeIs (.ref (I+5)) "zip" := by
 obtain⟨_,_,_,_,_,hz|⟨_,_,hz⟩⟩:=z
 .exact⟨_,hz,rfl⟩
 .exact⟨_,hz,rfl⟩
theorem jg.lt{t1 t2 t3:Am}{I l1 l2 l3 i:Ag}(z:jg t1 t2 t3 I l1 l2 l3 i s.heap):I+5<s.heap.objs.size:=by
 obtain⟨o,h,_⟩:=z.ty;exact AS h
section
variable{prog:AK}{w:AH}{A:A4}{E:Vq}{s:Ar}
end
section
variable{X:Cx}{CL:ClA}{W:XW}{pos p pos' p':AE}{a b c:Aq}{fa fb fc:Rho->R D}
end
section
variable{X:Cx}{CL:ClA}{W:XW}{pos p dl:AE}{a b c:Aq}{fa fb fc:Rho->R D}{x:Ah}
end
section
variable{X:Cx}{CL:ClA}{W:XW}{a:Aq}{fa:Rho->R D}
end
section
variable{X:Cx}{CL:ClA}{W:XW}{o o' e:Aq}{fe:Rho->R D}{i j:Ag}{apos cpos apos' cpos' pos:AE}
end
theorem U_5{e:Al->Am}{f:D->Am}:∀{its:Ac Al}{ds:Ac D},its.length=ds.length->(∀ j (h:j<its.length),e its[j]=f (ds.getD j .O))->its.countP e=(ds.filter f).length
 |[],[],_,_=>rfl
 |y::its,d::ds,hl,h=>by
  have h0:e y=f d:=h 0 (by simp)
  have ih:=U_5 (its:=its) (ds:=ds) (by simpa using hl) λj hj=>by
   have:=h (j+1) (by simpa using hj)
   simpa using this
  rw[List.countP_cons,List.filter_cons,ih,h0];cases f d<;>simp
 |[],_::_,hl,_=>by simp at hl
 |_::_,[],hl,_=>by simp at hl
section
variable{X:Cx}{CL:ClA}{W:XW}
theorem VI(I:Z8 X pI Y H s){ds:Ac D}(B:A4)(hd:Y8 n d=Ab)(hs:ds.all (Y8 n)=Ab)(r:Z9 X.K CL H A0 xs ds)(rv:A1 xs its)(q:Z7 X.K CL H A0 v d)(qv:Bs v u)(hu:B.units+n<BD):∃ e:Al->Am,(∀ y,y∈its.toArray->Ek B s y u (e y))/\∀ j (h:j<its.length),e its[j]=Tm (ds.getD j .O) d:=by
 have l1:=rv.length;have l2:=r.length
 have key:∀ y,y∈its->∃ k:Am,Ek B s y u k/\∀ j (h:j<its.length),its[j]=y->Tm (ds.getD j .O) d=k:=λy hy=>by
  obtain⟨j,hj,rfl⟩:=Fn hy;obtain⟨x,rx,qx⟩:=JA r rv hj;refine⟨Tm (ds.getD j .O) d,(L9 I n _ _ x v _ _ B (IL hs j) hd rx q qx qv hu).2.1,λj' gv e=>?_⟩
  obtain⟨x',i5,ce⟩:=JA r rv gv;rw[e]at ce;have z:=Bs.inj qx ce;subst z;rw[MZ I n _ _ (IL hs j') (IL hs j) i5 rx]
 have wg:∀ y,∃ k:Am,y∈its->Ek B s y u k/\∀ j (h:j<its.length),its[j]=y->Tm (ds.getD j .O) d=k:=λy=>by
  by_cases hy:y∈its
  .obtain⟨k,hk⟩:=key y hy;exact⟨k,λ_=>hk⟩
  .exact⟨Ab,λh=>absurd h hy⟩
 exact⟨λy=>X3 (wg y),λy hy=>(DN (wg y) (by simpa using hy)).1,λj hj=>((DN (wg its[j]) (ER _)).2 j hj rfl).symm⟩
def rF(K:Fg)(CL:ClA):V->Ac V->Hp->VK->Prop:=λx vs H Q=>∃ l xs ds v d,x=.ref l/\vs=[v]/\IO K H l xs/\Z9 K CL H A0 xs ds/\Z7 K CL H A0 v d/\Y8 5 d=Ab/\ds.all (Y8 5)=Ab/\Q (.int ((ds.filter λy=>Tm y d).length:Ag)) H
theorem eI(hu:X.A.units+64<BD):o7 X "list.count" (rF X.K CL):=by
 intro pI s Y H x vs v us Q I rx rv h;obtain⟨l,xs,ds,y,d,rfl,rfl,sq,rs,ry,h1,h2,q⟩:=h;cases rx;obtain⟨u,rfl,ru⟩:=rv.one;obtain⟨its,r,pl,hz⟩:=I.list sq;obtain⟨⟨c,dct,dt,sl⟩,n,e,hc,hd,oh⟩:=pl;obtain⟨f,hf,hn⟩:=VI I (n:=5) X.A.in1 h1 h2 rs r ry ru (by show X.A.units+1+5<BD;omega)
 replace hc:c=.type "list" := hc;replace oh:dt=.seq its.toArray n:=oh;subst hc oh;refine EV Zp ⟨_,e,rfl⟩ PySem.F.entry_list_count (PySem.F.args_list_count_2 _ _) (SeqAt.list_countAt l its.toArray n dct sl u f) ⟨e,hf,?_⟩;refine⟨.int _,H,I.tok _,⟨_,rfl⟩,?_⟩;rw[U_5 (f:=λy=>Tm y d) (by rw[<-r.length,rs.length]) hn]
 exact q
end
section
variable{X:Cx}
variable{CL:ClA}{W:XW}{pos p pos' p':AE}{a b:Aq}{fa fb:Rho->R D}
end
section
variable{X:Cx}{CL:ClA}{W:XW}{e o o' k l:Aq}{fe:Rho->R Ov.D}{i ik il:Ag}{pos spos spos' dl:AE}{kt:Ag}
end
section
variable{prog:AK}{w:AH}{A:A4}{E:Vq}{s:Ar}
theorem Tl{it t:Ak}{items:Bl Al}(wo:t≠it):∀(n i:Ag)(s:Ar)(Q:Ac Al->Ar->Prop),s.heap.IsListIter it t i->s.heap.IsList t items->i+n<=items.size->(∀ h',h'.IsListIter it t (i+n)->FK it s.heap h'->Q ((items.toList.drop i).take n) {s with heap:=h'})->AA (model prog w) A (draw (.ref it) n) Q E s
 |0,i,s,Q,hit,_,_,hQ=>by
  show AA _ _ (pure []) Q E s;exact A2 (by simpa using hQ s.heap hit (Zy ..))
 |n+1,i,s,Q,hit,ht,hle,hQ=>by
  have yc:i<items.size:=by omega
  show AA _ _ (MH (.ref it) >>= _) Q E s;refine As (aR hit ht (x:=items[i]) (by simp[yc]) λh₁ jy bf=>?_)
  refine As (Ck (Tl wo n (i+1) _ _ jy (ht.extBut bf.extBut wo) (by omega) λh₂ hit₂ hs₂=>A2 ?_))
  have hd:items.toList.drop i=items[i]::items.toList.drop (i+1):=by simp[DW,yc]
  have:=hQ h₂ (by rw[show i+(n+1)=i+1+n by omega];exact hit₂) (bf.trans hs₂)
  rwa [hd,List.take_succ_cons]at this
theorem bD{t:Ak}{Q:Ac Al->Ar->Prop}(hh:A.handled=Af)(ht:s.heap.IsList t items)(hQ:∀ h',Zw s.heap.objs.size s.heap h'->Q items.toList {s with heap:=h'}):AA (model prog w) A (unpackItems (.ref t) items.size Af) Q E s:=by
 have yc:t≠s.heap.objs.size:=by obtain⟨o,ho,_⟩:=ht;exact BA (AS ho)
 have ϻ:(s.heap.push { cls:=.type "list_iterator",data:=.fields #[.ref t,.int 0 0] }).IsList t items:=by
  obtain⟨o,ho,r⟩:=ht;exact⟨o,AB _ ho,r⟩
 unfold unpackItems;refine As ?_
 .unfold notIterableAtAll;refine As (wpAny_specialOf ht.typeIs slot_list_iter.lookup ?_);refine A2 ?_;simp only[X2,JS];refine As (Ck (HV ht ?_));refine As (Ck (Tl yc items.size 0 _ _ ⟨_,Bp _ rfl,rfl,rfl⟩ ϻ (by omega) λh₁ jy bf=>?_))
  have jr:List.take items.size (List.drop 0 items.toList)=items.toList:=by
   rw[Yh];exact List.take_of_length_le (by simp)
  rw[jr];rw[Ay (by simp)]
  have ht₁:h₁.IsList t items:=ϻ.extBut bf.extBut yc;refine As (Ck (aQ hh jy ht₁ (by simp) λh₂ he₂=>?_))
  simp only[Option.isSome_none,X2,JS];refine A2 (hQ h₂ λb o hb e=>he₂ b o hb (bf.extBut b o hb (AB _ e)))
theorem bC{n6:Ac Aq}{x1}{t:Ak}{Q:D9->Ar->Prop}(hh:A.handled=Af)(ht:s.heap.IsList t items) (hn:(Cw n6 env).length=items.size) (az:(Cw n6 env).findIdx? (·.1)=Af) (h:∀ h',Zw s.heap.objs.size s.heap h'->AA (model prog w) A (assignInOrder ((Cw n6 env).map (·.2)) items.toList) Q E {s with heap:=h'}):AA (model prog w) A (assign (.Tuple n6 x1 pos) env (.ref t)) Q E s:=by
 rw[assign_Tuple];refine As (CT ?_);unfold unpack;rw[hn,az];exact As (Ck (bD hh ht h))
end
section
variable{X:Cx}{pos:AE}{CL:ClA}
def gSq(K:Fg)(n:Ag)(t:TGs):TG:=λv Y H Q=>Pb K n t v Y H Q\/∃ a xs,v=.ref a/\IO K H a xs/\xs.length=n/\t xs Y H Q
theorem xH{k:Ag}{t:TGs}(hc:X.calm=Ab)(h:fq X es t)(hn:(Cw es X.env).length=n)(yh:(Cw es X.env).findIdx? (·.1)=Af):PG X (.Tuple es k pos) (gSq X.K n t):=by
 intro pI s Y H v u Q I r hw;rcases hw with hw|hw
 .exact V5 hc h hn yh pI s Y H v u Q I r hw
 .obtain⟨a,xs,e1,hq,hl,hw⟩:=hw;subst e1;cases r;obtain⟨its,rv,ht,hz⟩:=I.list hq;refine bC (I.ok.hd hc) ht.isList (by simp[hn,<-hl,rv.length]) yh λh' hx=>?_
  have I1:Z8 X pI Y H {s with heap:=h'}:=I.kept (t':=s.toks) λb o e=>hx b o (BA (AS e)) e
  exact h pI _ Y H xs _ Q I1 (by simpa using rv) hw
theorem xF(ts:Ac Ag):GT K CL (Ml ts) (gSq K ts.length (ts.foldr (λt u=>Lp (G5 t) u) LG)):=λFz B U Y H v d U' Q x r e k=>by
 cases d with
 |L ds=>
  obtain⟨a,xs,rfl,na,sq,rs⟩:=r;rw[dD]at e;cases e2:Hj ts ds U with
  |none=>rw[e2]at e;cases e
  |some U2=>
   rw[e2]at e;cases e;exact .inr ⟨a,xs,rfl,sq,by rw[rs.length];exact PC _ _ _ _ e2,Q6 ts ds xs U _ Y Q x rs e2 k⟩
 |_=>exact .inl (Vy ts Fz B U Y H v _ U' Q x r e k)
end
section
variable{X:Cx}{CL:ClA}{W:XW}
end
end Ov
namespace Ov
open PySem PySem.W PyProof.Rows
variable{p:Bl Ag}{m:Ag}
def Kr{α:Type}(lt:Ag->Ag->Am)(n:Ag):KasT α->(α->Prop)->Prop
 |.ret a,Q=>Q a
 |.ask i j k,Q=>i<n/\j<n/\Kr lt n (k (lt i j)) Q
theorem Kr.mono{α:Type}{lt:Ag->Ag->Am}{n:Ag}{Q Q':α->Prop}:∀{t:KasT α},Kr lt n t Q->(∀ a,Q a->Q' a)->Kr lt n t Q'
 |.ret _,h,k=>k _ h
 |.ask i j f,h,k=>⟨h.1,h.2.1,Kr.mono (t:=f (lt i j)) h.2.2 k⟩
theorem Kr.bind{α β:Type}{lt:Ag->Ag->Am}{n:Ag}{f:α->KasT β}{Q:β->Prop}:∀{t:KasT α},Kr lt n t (λa=>Kr lt n (f a) Q)->Kr lt n (t.bind f) Q
 |.ret _,h=>h
 |.ask i j k,h=>⟨h.1,h.2.1,Kr.bind (t:=k (lt i j)) h.2.2⟩
structure Sto (lt:Ag->Ag->Am) (n:Ag):Prop where
 tr:∀ i j k,i<n->j<n->k<n->lt i j=Ab->lt j k=Ab->lt i k=Ab
 tot:∀ i j,i<n->j<n->i≠j->lt i j=Ae->lt j i=Ab
 asy:∀ i j,i<n->j<n->lt i j=Ab->lt j i=Ae
noncomputable def qg(p:Bl Ag)(x:Ag):Ag:=p.getD x 0
structure Pm (n:Ag) (p:Bl Ag):Prop where
 sz:p.size=n
 lt:∀ x,x<n->qg p x<n
 inj:∀ x y,x<n->y<n->qg p x=qg p y->x=y
section
variable{lt:Ag->Ag->Am}{n:Ag}
def Sh(lt:Ag->Ag->Am)(p:Bl Ag)(m:Ag):Prop:=∀ x y,x<y->y<m->lt (qg p x) (qg p y)=Ab
def Sj(lt:Ag->Ag->Am)(p:Bl Ag)(m:Ag):Prop:=∀ x y,x<y->y<m->lt (qg p y) (qg p x)=Ab
theorem Sh.succ(S:Sto lt n)(hp:Pm n p)(h1:1<=m)(hm:m<n)(h:Sh lt p m)(e:lt (qg p (m-1)) (qg p m)=Ab):Sh lt p (m+1):=λx y hxy hy=>by
 by_cases hym:y<m
 .exact h x y hxy hym
 .have:y=m:=by omega
  subst this;by_cases hx:x=y-1
  .rw[hx];exact e
  .exact S.tr _ _ _ (hp.lt _ (by omega)) (hp.lt _ (by omega)) (hp.lt _ hm) (h x (y-1) (by omega) (by omega)) e
theorem Sj.succ(S:Sto lt n)(hp:Pm n p)(h1:1<=m)(hm:m<n)(h:Sj lt p m)(e:lt (qg p m) (qg p (m-1))=Ab):Sj lt p (m+1):=λx y hxy hy=>by
 by_cases hym:y<m
 .exact h x y hxy hym
 .have:y=m:=by omega
  subst this;by_cases hx:x=y-1
  .rw[hx];exact e
  .exact S.tr _ _ _ (hp.lt _ hm) (hp.lt _ (by omega)) (hp.lt _ (by omega)) e (h x (y-1) (by omega) (by omega))
end
section
variable{prog:AK}{w:AH}{A:A4}{E:Vq}{κ:SortKind}{it:Bl Keyed}
end
section
variable{lt:Ag->Ag->Am}{n:Ag}
end
def QB(h:AI)(v:Al)(r:Ac Ai):Prop:=∃ a its,v=.ref a/\LI h a its/\Jg its.toList r/\r≠[]
theorem QB.kept{h h':AI}{v:Al}{r:Ac Ai}(t:QB h v r)(k:∀ b o,h.get? b=Aa o->h'.get? b=Aa o):QB h' v r:=by
 obtain⟨a,its,e,⟨o,ho,q⟩,i,n⟩:=t;exact⟨a,its,e,⟨o,k _ _ ho,q⟩,i,n⟩
section
variable{prog:AK}{w:AH}{A:A4}{E:Vq}{s:Ar}
end
end Ov
section
namespace Ov
open PySem PySem.Spec PyProof.Rows L2
section
variable{X:Cx}{CL:ClA}{W:XW}
end
end Ov
end
section
namespace Ov
open PySem PySem.Spec PyProof.Rows
section
variable{t:SetTable}{hashAt:Ag->Ai}{h:Ai}
noncomputable def stand(i b:Ag):SetTable.Probe:=⟨i,0,i,b,Af⟩
end
section
variable{prog:AK}{w:AH}{A:A4}{E:Vq}{s:Ar}{K:Type} [DecidableEq K] {knd:KeyKind prog w K}
end
section
variable{prog:AK}{w:AH}{A:A4}{R:Ij->Ar->Prop}{I:Ak}{fp wr:Ac Ak}{G:Bl Eo->Bl Eo->Prop}{n:Ag}{P:Ag->Al->Prop}{St:Ag->Ar->Prop}
end
section
variable{prog:AK}{w:AH}{A:A4}{E:Vq}{s:Ar}
end
end Ov
end
namespace Ov
open PySem PySem.Spec PyProof.Rows L2
variable{h h':AI}{P:AK}{w:AH}{H H':Hp}{oe:CZ}{Q:D9->Ar->Prop}{T' C C' OV:Ak}{a0 cdv:Al}{X:Cx}{pI:Pn}{Y:L2.St}{K:Fg}{x name qual z par x0 x1 x2 txt dw:Ah}{v:Ao Al}{M:Hu}{tk:Cd}{fill expr:Am}{φ:AI->Prop}{CL:ClA}{Fz:Fr}{B A:Ak->Prop}{U:Rho}{W:XW}{hs b4:Ac AL}{h0:AL}{fh:Rho->O}{dx an od:Ao Ak}{Xw:Vq}{xn:Ag->Ac D->R Ex}{up:Ag->Ac Ag}{Rp:Hp->V->D->Prop}{kk k id:Ag}{scope:Ca}{osl:Bl (Ao Al)}{sp:Sp}{fd:Bj}{F FR:Ac D->R D}{p1 p2 p3 p4 p8 p10 pos apos p5 p6 cpos p7 p9 wp vw ui tm tz t4 uw t5 oq mz m6 km bw iv:AE}{ev e1 c1 c4:Aq}{outer:Ac B4}{fy fo:Rho->R D}{Z:Z4}{d1 d2 dd:D}{α:Type}{as:Es}{env:B4}{xs ys:Ac Aq}{ts:Ac Ag}{vs us:Ac V}{Z_:Prop}{y1 y2:V}{tb:L2.St->XK->TS}
section
variable{X:Cx}
def Pk(K:Fg)(H:Hp):Ac V->Ac (Ac Ai)->Prop
 |[],[]=>F7
 |x::xs,k::ks=>(∃ b,x=.ref b/\yk K H b (k.map V.int))/\Pk K H xs ks
 |_,_=>AN
theorem Pk.length{K:Fg}{H:Hp}:∀{xs:Ac V}{ks:Ac (Ac Ai)},Pk K H xs ks->xs.length=ks.length
 |[],[],_=>rfl
 |_::_,_::_,h=>congrArg (· + 1) (Pk.length h.2)
 |[],_::_,h=>h.elim
 |_::_,[],h=>h.elim
variable{CL:ClA}{W:XW}{pos p pos' p':AE}{a:Aq}{fa:Rho->R D}
end
section
end
section
variable{X:Cx}
variable{CL:ClA}{W:XW}{o e:Aq}{fe:Rho->R D}{i:Ag}{apos cpos pos:AE}
end
section
open PySem.AutoSeq1 (wpAny_loadPart')
end
section
variable{prog:AK}{w:AH}{A:A4}{R:Ij->Ar->Prop}{I S T:Ak}{u v:Al}{c:Ag}{P:Ag->Al->Prop}{St:Ag->AI->Prop}{s:Ar}{r q:Ac Ai}
end
section
variable{X:Cx}{CL:ClA}{W:XW}
end
def Po(e T:Ak)(cls:Al)(dx:Ao Ak)(fl:Al)(h:AI):Prop:=∃ oe vs oT ts a0,h.get? e=Aa oe/\oe.cls=cls/\oe.dict=dx/\vs[0]?=Aa a0/\oe.data=.fields vs/\vs[1]?=Aa (.ref T)/\T≠e/\h.get? T=Aa oT/\oT.data=.fields ts/\ts[3]?=Aa fl
noncomputable abbrev va(e T:Ak)(cls:Al)(dx:Ao Ak)(h:AI):Prop:=Po e T cls dx Du h
noncomputable def Gv(C:Ak)(dx:Ao Ak)(t:Ak):CZ:={cls:=.ref C,dict:=dx,data:=.fields #[.ref t,.none,.none,.none,.bool Ae,.none]}
structure zr (ex fs:Ac Ak) (h h':AI):Prop where
 keep:∀ b o,h.get? b=Aa o->b∉ex->b∉fs->h'.get? b=Aa o
 slot:∀ b o,h.get? b=Aa o->b∈fs->∃ sl,h'.get? b=Aa {o with slots:=sl}
theorem zr.trans{ex fs:Ac Ak}{h1 h2:AI}(a:zr ex fs h h1)(b:zr ex fs h1 h2):zr ex fs h h2:=
 ⟨λc o q n m=>b.keep c o (a.keep c o q n m) n m,λc o q m=>by
  obtain⟨sl,e1⟩:=a.slot c o q m;obtain⟨uj,e2⟩:=b.slot c _ e1 m;exact⟨uj,e2⟩⟩
theorem ObjOk.isThere{a:Ak}:∀(o:HO),L2.ObjOk P w H h a o->∃ ob,h.get? a=Aa ob
 |.L _,x=>by obtain⟨_,_,_,_,e⟩:=x;exact⟨_,e⟩
 |.H _,x=>by obtain⟨_,_,_,p⟩:=x;obtain⟨o,e,_⟩:=p;exact⟨_,e⟩
 |.dK _,x=>by obtain⟨_,_,_,_,o,_,_,e,_⟩:=x;exact⟨_,e⟩
 |.dT _,x=>by obtain⟨_,_,_,_,o,_,_,e,_⟩:=x;exact⟨_,e⟩
 |.set _ _,x=>by obtain⟨o,_,_,_,e,_⟩:=x;exact⟨_,e⟩
 |.ins _ _ _,x=>by obtain⟨_,_,_,e,_⟩:=x;exact⟨_,e⟩
 |.own _,x=>x
 |.xd _,x=>by obtain⟨_,⟨_,_,_,e,_⟩,_⟩:=x;exact⟨_,e⟩
 |.met _ _,x=>⟨_,x⟩
 |.rng _ _,x=>by obtain⟨_,_,_,e⟩:=x;exact⟨_,e⟩
 |.frz _ _,x=>⟨_,x.1⟩
 |.tbl _,x=>⟨_,x⟩
 |.ext _,x=>x.2.1
theorem L5{a:Ak}(x:yy P w H h)(e:h.get? a=Af):H a=Af:=by
 cases q:H a with
 |none=>rfl
 |some o=>
  obtain⟨ob,z⟩:=ObjOk.isThere o (x a o q);rw[e]at z;cases z
theorem yy.shift{ex fs:Ac Ak}(x:yy P w H h)(sh:zr ex fs h h')(h1:∀ b∈ex,H b=Af)(h2:∀ b∈fs,H b=Af):yy P w H h':=λa o e=>
 (x a o e).stay (λb u hb q=>by
  have hs:∃ v,H b=Aa v:=by
   rcases hb with rfl|hb
   .exact⟨_,e⟩
   .exact⟨_,hb⟩
  obtain⟨v,hv⟩:=hs;exact sh.keep b u q (λz=>by rw[h1 b z]at hv;cases hv) (λz=>by rw[h2 b z]at hv;cases hv)) (λ_ q=>q) λ_ _ q=>q
theorem Un.shift{ϳ fs ex:Ac Ak}{h0:AI}(u:Un ϳ [] H H' h0 h)(sh:zr ex fs h h')(h1:∀ b∈ex,h0.get? b=Af)(h2:∀ b∈fs,b∈ϳ\/h0.get? b=Af):Un ϳ [] H H' h0 h' where
 keep:=λb o q n hb hx=>sh.keep b o (u.keep b o q n hb hx) (λz=>by rw[h1 b z]at q;cases q) λz=>(h2 b z).elim hb λe=>by rw[e]at q;cases q
 slot:=λb o q n hb hx=>by
  obtain⟨sl,e1⟩:=u.slot b o q n hb hx;by_cases hf:b∈fs
  .obtain⟨uj,e2⟩:=sh.slot b _ e1 hf;exact⟨uj,e2⟩
  .exact⟨sl,sh.keep b _ e1 (λz=>by rw[h1 b z]at q;cases q) hf⟩
 free:=u.free
 there:=λb o q hx=>by
  obtain⟨o',e1⟩:=u.there b o q hx;by_cases hf:b∈fs
  .obtain⟨uj,e2⟩:=sh.slot b _ e1 hf;exact⟨_,e2⟩
  .exact⟨o',sh.keep b _ e1 (λz=>by rw[h1 b z]at q;cases q) hf⟩
 tups:=u.tups
 frzs:=u.frzs
 tbls:=u.tbls
theorem nR(f:Bl Al->Bl Al)(o:CZ):(Gj f o).dict=o.dict:=by
 obtain⟨c,d,dt,sl⟩:=o;cases dt<;>rfl
section
variable{M:Hu}{A:A4}{E:Vq}{s:Ar}{env:B4}{outer:Ac B4}{L e T:Ak}{cls:Al}{dx:Ao Ak}{base h:AI}
theorem TD{vs:Bl Al}{hd:Al}{nx:Am}(w9:A.frames=Aa (env::outer))(hf:env.frame=Aa L)(ff:s.heap.FunFrames base (env::outer))(he:s.heap.get? e=Aa oe)(dt:oe.data=.fields vs)(hz:1<vs.size)(hQ:∀ h' T' oT ts,h'.get? e=Aa (Gj (·.setIfInBounds 1 (.ref T')) oe)->T'≠e->s.heap.get? T'=Af->h'.get? T'=Aa oT->oT.data=.fields ts->ts[3]?=Aa (HB L)->zr [e] (yn (env::outer)) s.heap h'->Q () {s with heap:=h'}):
  AA M A (do
   let fr <-frameOf env
   let pl <-entryPlaceOf L nx
   let en <-YU hd fr .none (HB L) .none pl
   setField (.ref e) 1 en) Q E s:=by
 have nf:e∉yn (env::outer):=λz=>by
  obtain⟨_,o,q,n⟩:=ff.mem z;rw[he]at q;cases q;exact n vs dt
 refine As (wpAny_frameOf_fun w9 ff hf λk1 so=>As (wpAny_entryPlaceOf λpl ip=>?_))
 obtain⟨sz,sm,sl⟩:=so;have e1:k1.get? e=Aa oe:=(sm e nf).trans he;unfold YU;unfold newFields;refine As (DV ?_ (ip.sizeOk5 _ _ _ _ _));generalize hX:({ cls:=.type "traceback",dict:=Af,data:=.fields ([hd,.ref L,.none,HB L,.none]++(if pl.isEmpty then EE 6 Du else pl)).toArray }:CZ)=ob
 have od:ob.data=.fields ([hd,.ref L,.none,HB L,.none]++(if pl.isEmpty then EE 6 Du else pl)).toArray:=by rw[<-hX]
 have nl:k1.objs.size≠e:=YE (AS e1);have e2:=AB ob e1;refine Jn e2 dt hz ?_;have up:∀ b,b≠e->((k1.push ob).update e (Gj (·.setIfInBounds 1 (.ref k1.objs.size)))).get? b=(k1.push ob).get? b:=λb nb=>De _ _ (CF nb)
 have lf:ob.isFreed=Ae:=by rw[<-hX];rfl
 refine hQ _ k1.objs.size ob _ (DO _ e2 (GD (Ej dt _))) nl ?_ ((up _ nl).trans (Bp k1 lf)) od ?_ ⟨λb o q n1 n2=>?_,λb o q hb=>?_⟩
 .rw[sz];exact Dt (AU _)
 .simp
 .have nb:b≠e:=λz=>n1 (by rw[z];exact AY)
  rw[up b nb];exact AB ob ((sm b n2).trans q)
 .obtain⟨uj,q'⟩:=sl b o q;have nb:b≠e:=λz=>nf (z ▸ hb)
  exact⟨uj,(up b nb).trans (AB ob q')⟩
theorem Tj{vs:Bl Al}{oT:CZ}{ts:Bl Al}{fl:Al}(hc:oe.cls=cls)(hx:oe.dict=dx)(h0:vs[0]?=Aa a0)(dt:oe.data=.fields vs)(hz:1<vs.size)(g:h'.get? e=Aa (Gj (·.setIfInBounds 1 (.ref T')) oe))(ne:T'≠e)(gT:h'.get? T'=Aa oT)(dT:oT.data=.fields ts)(f3:ts[3]?=Aa fl):Po e T' cls dx fl h':=
 ⟨_,_,oT,ts,a0,g,(Obj.cls_mapFields _ _).trans hc,(nR _ _).trans hx,by rw[Array.getElem?_setIfInBounds_ne (by decide)];exact h0,Ej dt _,by simp[hz],ne,gT,dT,f3⟩
theorem LU{vs:Bl Al}{i:Ag}{v:Al}(q:vs[i]?=Aa v):i<vs.size:=(Array.getElem?_eq_some_iff.mp q).1
theorem Us(w9:A.frames=Aa (env::outer))(hf:env.frame=Aa L)(ff:s.heap.FunFrames base (env::outer))(fl:va e T cls dx s.heap)(hQ:∀ h' T',Po e T' cls dx (HB L) h'->zr [e,T] (yn (env::outer)) s.heap h'->s.heap.get? T'=Af->Q () {s with heap:=h'}):AA M A (FN (.ref e) env) Q E s:=by
 obtain⟨oe,vs,oT,ts,a0,he,hc,hx,h0,dt,h1,ne,hT,dT,h3⟩:=fl;have z3:=LU h3;unfold FN;simp only[hf];refine As (Fk he dt h1 ?_);rw[Au (by simp:(Bm T != Du)=Ab)]
 refine As (Fk hT dT h3 ?_);rw[Ay (by simp[HB]:¬ (Du==HB L)=Ab)]
 refine As (Jn hT dT z3 ?_);have up:∀ b,b≠T->(s.heap.update T (Gj (·.setIfInBounds 3 Du))).get? b=s.heap.get? b:=λb nb=>De _ _ (CF nb)
 have rcd:∀ b o,s.heap.get? b=Aa o->(∀ us,o.data≠.fields us)->b≠T:=λb o q n z=>by
  rw[z,hT]at q;cases q;exact n ts dT
 refine TD (base:=base) w9 hf (ff.of_keeps λb o q n=>⟨o,(up b (rcd b o q n)).trans q,rfl⟩) ((up e (CF ne)).trans he) dt (LU h1) λh' T' oT' xh g nT gn gT dT' f3 sh=>?_
 have T0:s.heap.get? T'=Af:=by
  by_cases z:T'=T
  .rw[z]at gn;rw[DO _ hT (GD (Ej dT _))]at gn;cases gn
  .rw[<-up T' z];exact gn
 refine hQ h' T' (Tj hc hx h0 dt (LU h1) g nT gT dT' f3) ⟨λb o q n1 n2=>?_,λb o q hb=>?_⟩ T0
 .simp only[A6,List.not_mem_nil,or_false,NJ]at n1;exact sh.keep b o ((up b n1.2).trans q) (by simp[n1.1]) n2
 .obtain⟨_,o',q',n⟩:=ff.mem hb;rw[q]at q';cases q';exact sh.slot b o ((up b (rcd b o q n)).trans q) hb
theorem N3{fv:Al}(fl:Po e T cls dx fv s.heap)(hQ:∀ h',va e T cls dx h'->(∀ b o,b≠T->s.heap.get? b=Aa o->h'.get? b=Aa o)->Q () {s with heap:=h'}):AA M A (GH (.ref e) Af) Q E s:=by
 obtain⟨oe,vs,oT,ts,a0,he,hc,hx,h0,dt,h1,ne,hT,dT,h3⟩:=fl;have z3:=LU h3;unfold GH;refine As (Fk he dt h1 ?_);rw[Au (by simp:(Bm T != Du)=Ab)]
 refine Jn hT dT z3 (hQ _ ?_ λb o nb q=>(De _ _ (CF nb)).trans q)
 exact⟨oe,vs,_,_,a0,(De _ _ ne).trans he,hc,hx,h0,dt,h1,ne,DO _ hT (GD (Ej dT _)),Ej dT _,by simp[z3]⟩
theorem PQ{h1 h2:AI}{ex:Ac Ak}(ff:s.heap.FunFrames base (env::outer))(sh:zr ex (yn (env::outer)) s.heap h1)(hT:s.heap.get? T'=Af)(k:∀ b o,b≠T'->h1.get? b=Aa o->h2.get? b=Aa o):zr ex (yn (env::outer)) s.heap h2:=
 ⟨λb o q n1 n2=>k b o (λz=>by rw[z,hT]at q;cases q) (sh.keep b o q n1 n2),λb o q hb=>let ⟨sl,q'⟩:=sh.slot b o q hb;⟨sl,k b _ (λz=>by rw[z,hT]at q;cases q) q'⟩⟩
theorem dF(w9:A.frames=Aa (env::outer))(hf:env.frame=Aa L)(ff:s.heap.FunFrames base (env::outer))(fl:va e T cls dx s.heap)(hQ:∀ h' T',va e T' cls dx h'->zr [e,T] (yn (env::outer)) s.heap h'->(T'=T\/s.heap.get? T'=Af)->Q () {s with heap:=h'}):AA M A (leaving env (.ref e)) Q E s:=by
 unfold leaving;exact As (Us w9 hf ff fl λh1 T' f1 sh hT=>N3 f1 λh2 f2 k=>hQ h2 T' f2 (PQ ff sh hT k) (.inr hT))
theorem bU{vs:Bl Al}(w9:A.frames=Aa (env::outer))(hf:env.frame=Aa L)(ff:s.heap.FunFrames base (env::outer))(he:s.heap.get? e=Aa oe)(hc:oe.cls=cls)(hx:oe.dict=dx)(dt:oe.data=.fields vs)(h0:vs[0]?=Aa a0)(h1:vs[1]?=Aa .none)(hQ:∀ h' T',va e T' cls dx h'->zr [e] (yn (env::outer)) s.heap h'->s.heap.get? T'=Af->Q () {s with heap:=h'}):AA M A (leaving env (.ref e)) Q E s:=by
 unfold leaving FN;simp only[hf];refine As (As (Fk he dt h1 ?_));rw[Ay (by decide)]
 exact TD (base:=base) w9 hf ff he dt (LU h1) λh' T' oT ts g nT gn gT dT f3 sh=>N3 (Tj hc hx h0 dt (LU h1) g nT gT dT f3) λh2 f2 k=>hQ h2 T' f2 (PQ ff sh gn k) gn
theorem gZ(w9:A.frames=Aa (env::outer))(hf:env.frame=Aa L)(ff:s.heap.FunFrames base (env::outer))(fl:va e T cls dx s.heap)(hQ:∀ h' T',va e T' cls dx h'->zr [e,T] (yn (env::outer)) s.heap h'->(T'=T\/s.heap.get? T'=Af)->Q () {s with heap:=h'}):AA M A (FN (.ref e) env) (λ_ s2=>AA M A (GH (.ref e) Af) Q E s2) E s:=
 Us w9 hf ff fl λh1 T' f1 sh hT=>N3 f1 λh2 f2 k=>hQ h2 T' f2 (PQ ff sh hT k) (.inr hT)
theorem dG{l:Ac B4}{A':A4}(ff:s.heap.FunFrames base l)(fl:va e T cls dx s.heap)(hQ:∀ h' T',va e T' cls dx h'->zr [e,T] (yn l) s.heap h'->(T'=T\/s.heap.get? T'=Af)->Q () {s with heap:=h'}):AA M A' (GH (.ref e) Af) Q E s:=by
 obtain⟨oe,vs,oT,ts,a0,he,hc,hx,h0,dt,h1,ne,hT,dT,h3⟩:=id fl;refine N3 fl λh' f' k=>hQ h' T f' ⟨λb o q n1 n2=>k b o (λz=>n1 (by rw[z];simp)) q,λb o q hb=>⟨o.slots,k b o (λz=>?_) q⟩⟩ (.inl rfl)
 obtain⟨_,o',q',n⟩:=ff.mem hb;rw[z,hT]at q';cases q';exact n ts dT
end
def CXR(P:AK)(w:AH):CXT:=λouter H s E ev s'=>∃ e T cls dx H',ev=.ref e/\s'.os=s.os/\FW s'.gens/\Un (yn outer) [] H H' s.heap s'.heap/\yy P w H' s'.heap/\va e T cls dx s'.heap/\H' e=Af/\H' T=Af/\s.heap.get? e=Af/\s.heap.get? T=Af/\E cls dx H'
def NI(X:Cx)(CL:ClA)(W:XW):Prop:=∀ pI Y H s e C dx t x,Z8 X pI Y H s->(X.ex=[]->X.s₀.heap.get? e=Af)->H e=Af->s.heap.get? e=Aa (Gv C dx t)->Dr X.K CL H (.ref C) dx x->W x H->X.xe (.ref e) s
section
variable{P:AK}{w:AH}{K:Fg}{mg:Ah->Ao Al}{base:AI}{N:Ac Ah}{qual:Ah}{scope:Ca}{f:Ak}{cd:Al}{A:A4}{outer:Ac B4}{s:Ar}{H:Hp}{E:XK}{CL:ClA}{W:XW}
theorem Qx{s:Ar}(I:Z8 X pI Y H s):∀ b∈yn X.stack,b∈X.fs\/X.s₀.heap.get? b=Af:=λb hb=>by
 rcases A6.mp (I.stkSub b hb) with z|z
 .exact .inr (by rw[z];exact Dt I.ok.above)
 .exact .inl z
theorem K9{s:Ar}{b:Ak}(I:Z8 X pI Y H s)(hx:X.ex=[])(h:s.heap.get? b=Af):X.s₀.heap.get? b=Af:=by
 cases q:X.s₀.heap.get? b with
 |none=>rfl
 |some o=>
  obtain⟨o',z⟩:=I.base.there b o q (by rw[hx];simp)
  rw[h]at z;cases z
theorem Oz(hE:∀ x cls dx H',W x H'->Dr K CL H' cls dx x->E cls dx H'):∀ A',HJ (CXR P w) (B0 (CXR P w) P w K mg base N qual scope f cd A outer s H E) (EKW K CL A' W):=by
 intro A' pI Y H1 s1 ev s2 I h;obtain⟨e,T,cls,dx,H',rfl,os,bare,un,hok,fl,he,hT,ne,nT,x,xr,wx⟩:=h;have I':=I.call' (s':=s2) (ch:=[]) os un hok bare (λb z=>absurd z (by simp))
 have hb0:Un (yn outer) [] H H' s.heap s2.heap:=I'.base;show AA (model P w) (A.deeper (D3 qual scope s.heap.objs.size f cd)) (leaving (D3 qual scope s.heap.objs.size f cd) (.ref e)) _ _ s2;refine dF (L:=s.heap.objs.size) I'.ok.frames rfl I'.stack fl λh' T' fl' sh ú=>?_
 have e0:s.heap.get? e=Af:=K9 I rfl ne;have T0:s.heap.get? T=Af:=K9 I rfl nT;refine⟨e,T',cls,dx,H',rfl,I'.os,bare,Un.shift hb0 sh ?_ (Qx I'),yy.shift hok sh ?_ I'.stkFree,fl',he,?_,e0,?_,?_⟩
 .intro b hb;rcases A6.mp hb with rfl|hb
  .exact e0
  .rw[BU.mp hb];exact T0
 .intro b hb;rcases A6.mp hb with rfl|hb
  .exact he
  .rw[BU.mp hb];exact hT
 .rcases ú with rfl|z
  .exact hT
  .exact L5 hok z
 .rcases ú with rfl|z
  .exact T0
  .exact K9 I' rfl z
 .exact hE x cls dx H' wx xr
theorem Ð(hE:∀ x cls dx H',W x H'->Dr K CL H' cls dx x->E cls dx H'):NI (B0 (CXR P w) P w K mg base N qual scope f cd A outer s H E) CL W:=by
 intro pI Y H1 s1 e C dx t x I e0 he ge xr hw;have hb0:Un (yn outer) [] H H1 s.heap s1.heap:=I.base;have e0':s.heap.get? e=Af:=e0 rfl;show AA (model P w) (A.deeper (D3 qual scope s.heap.objs.size f cd)) (leaving (D3 qual scope s.heap.objs.size f cd) (.ref e)) _ _ s1;refine bU (cls:=.ref C) (dx:=dx) (L:=s.heap.objs.size) I.ok.frames rfl I.stack ge rfl rfl rfl (a0:=.ref t) rfl rfl λh' T' fl' sh ú=>?_
 have one:∀{Z_:Ak->Prop},Z_ e->∀ b∈[e],Z_ b:=λ{Z_} z b hb=>by rw[BU.mp hb];exact z
 exact⟨e,T',.ref C,dx,H1,rfl,I.os,I.bare,Un.shift hb0 sh (one e0') (Qx I),yy.shift I.hok sh (one (Z_:=λb=>H1 b=Af) he) I.stkFree,fl',he,L5 I.hok ú,e0',K9 I rfl ú,hE x _ dx H1 hw xr⟩
theorem ra:FM (model P w) (B0 (CXR P w) P w K mg base N qual scope f cd A outer s H E).A (B0 (CXR P w) P w K mg base N qual scope f cd A outer s H E).env (B0 (CXR P w) P w K mg base N qual scope f cd A outer s H E).xe:=ZD
end
noncomputable def rq:Ac Al:=[.type "ValueError",.type "Exception",.type "BaseException",.type "object"]
noncomputable def DE(K:Fg)(C:Ak)(v:Ao Al):Am:=match K.lookup C with
  | some ⟨.type "type",_,.cls c,z⟩=>(match c.mro,z.toList with
    |.ref c0::tl,[_,_,_,_,Aa (.builtin nw),_]=>c0==C&&(nw == "ValueError.__new__" && (!c.hasDel&&(PySem.W.tailIn K rq tl&&(aA K c.ns&&Bb K c.ns "__init__" == Aa v))))
    | _,_=>Ae)
  |_=>Ae
theorem iI(q:JY K C rq "ValueError.__new__" = Ab):DE K C Af=Ab:=by
 unfold JY at q;unfold DE;split at q
 .rename_i dd cd sl ho;split at q
  .rename_i C' bm k0 k1 k2 k3 n k5 hm hs;simp only[An]at q;obtain⟨⟨⟨⟨⟨h1,h2⟩,h3⟩,h4⟩,h5⟩,h6⟩:=q;simp only[ho,hm,hs,An];exact⟨h1,h2,h3,h4,h5,h6⟩
  .cases q
 .cases q
structure zk (K:Fg) (C:Ak):Prop where
 exc:∃ v,DE K C v=Ab
 ga:At K (.ref C) "__getattribute__" = Aa (Aa (.builtin "BaseException.__getattribute__"))
 gt:At K (.ref C) "__getattr__" = Aa Af
 cl:At K (.ref C) "__class__" = Aa (Aa (.builtin "object.__class__"))
 ob:Cj K C (.type "object")=Aa Ab
 be:BN K (.ref C) (.type "BaseException")=Aa Ab
 cs:(Dx K C).isSome=Ab
 ve:B5 K (.ref C) (.type "ValueError")=Aa Ab
def sj(e C:Ak)(h:AI):Prop:=∃ o,h.get? e=Aa o/\o.cls=.ref C
theorem qJ{N:Ak}{m:Ah->Ao Al}{v:Al}(X:K.In h)(G:h.Ns N m)(q:Bb K N x=Aa (Aa v)):m x=Aa v:=by
 obtain⟨ob,es,ep,g,dt,_,fd⟩:=G;unfold Bb at q;split at q
 .rename_i za n' sl lk;have g':=X _ _ lk;rw[g]at g';cases g';cases dt;split at q
  .rename_i hf;cases q;rw[<-fd];unfold nsFind findBy;rw[<-XY,hf];rfl
  .by_cases z:(es.toList.any λy=>y.refKey)=Ab
   .rw[Au z]at q;cases q
   .rw[Ay z]at q;cases q
 .cases q
theorem Qa{h0:AI}(X0:K.In h0)(q:DE K C v=Ab):
  ∃ bm N nm qn bs hd sn sub ab col dd k0 k1 k2 k3 k5 mN,(∀ h:AI,K.In h->h.get? C=Aa (Cu nm qn C N bs bm hd sn sub ab col dd k0 k1 k2 k3 k5 "ValueError.__new__")/\h.Ns N mN/\D2 h rq bm)/\mN "__init__" = v/\bm.contains (.type "BaseException")=Ab:=by
 unfold DE at q;split at q
 .rename_i dd cd sl ho;split at q
  .rename_i C' bm k0 k1 k2 k3 n k5 hm hs;simp only[An,AF,Bf]at q;obtain⟨rfl,rfl,þ,ht,hok,qs⟩:=q;obtain⟨nm,bs,mro,ns,qn,hd,sn,sub,ab,col,del⟩:=cd;dsimp only at hm þ hok qs;subst hm þ;have hsl:sl=#[k0,k1,k2,k3,Aa (.builtin "ValueError.__new__"),k5]:=by
    obtain⟨l⟩:=sl;simp only at hs;rw[hs]
   subst hsl;have kN:∃ o,K.lookup ns=Aa o:=by
    unfold aA at hok;split at hok
    .rename_i z;exact⟨_,z⟩
    .cases hok
   obtain⟨oN,hoN⟩:=kN;have nsAt:∀ h:AI,K.In h->h.Ns ns (h0.nsMap ns):=λh X=>by
    obtain⟨o,es,ep,e1,r⟩:=Heap.Ns.of_isNs (Z_4 X0 hok);have e2:=X0 _ _ hoN;rw[e1]at e2;cases e2;exact⟨_,es,ep,X _ _ hoN,r⟩
   refine⟨bm,ns,nm,qn,bs,hd,sn,sub,ab,col,dd,k0,k1,k2,k3,k5,h0.nsMap ns,λh X=>⟨X _ _ ho,nsAt h X,aD X ht⟩,?_,(aD X0 ht).hasType (by decide)⟩
   cases v with
   |none=>exact PySem.W.nsMap_none_of_in X0 hok qs
   |some u=>exact qJ X0 (.of_isNs (Z_4 X0 hok)) qs
  .cases q
 .cases q
theorem nL(X:K.In h)(q:DE K C v=Ab):
  ∃ bm N nm qn bs hd sn sub ab col dd k0 k1 k2 k3 k5 mN,h.get? C=Aa (Cu nm qn C N bs bm hd sn sub ab col dd k0 k1 k2 k3 k5 "ValueError.__new__")/\h.Ns N mN/\mN "__init__" = v/\D2 h rq bm:=by
 obtain⟨bm,N,nm,qn,bs,hd,sn,sub,ab,col,dd,k0,k1,k2,k3,k5,mN,ho,hi,_⟩:=Qa X q;obtain⟨o1,o2,o3⟩:=ho h X;exact⟨bm,N,nm,qn,bs,hd,sn,sub,ab,col,dd,k0,k1,k2,k3,k5,mN,o1,o2,hi,o3⟩
section
variable{prog:AK}{w:AH}{A:A4}{E:Vq}{h:AI}{g:Bl Eo}{d:IB}{t:Ag}{os:BQ}{K:Fg}{e C:Ak}
theorem KG(p:sj e C h):PySem.W.Looks M h (typeOf (.ref e)) (.ref C):=by
 obtain⟨o,h1,h2⟩:=p;exact h2 ▸ (PySem.W.Looks.ld h1).andThen .now
theorem fF{R:Ij->Ar->Prop}{tp:Al}(X:K.In h)(p:sj e C h)(hm:Cj K C (.type "object")=Aa Ab)(hq:R (.ok (.ret (.ref C))) ⟨h,g,d,t,os⟩):
  EF (model prog w) A (.call (.builtin "getset_descriptor.__get__") ⟨[.builtin "object.__class__",.ref e,tp],[]⟩) R ⟨h,g,d,t,os⟩:=by
 have L0:=KG (M:=model prog w) p;have L1:=PySem.W.looks_mroIn (M:=model prog w) X hm;refine DZ PySem.W.KF.slot_gs.plain PySem.W.KF.entry_gs (PySem.W.KF.slot_gs.check _ _ _ _ _ _ _ _ PySem.W.KF.type_class (PySem.W.KF.args_gs _ _ _) ?_);unfold Builtin.«getset_descriptor.__get__» Builtin.Getset_descriptor.descrGet;rw[PySem.W.dga_obj];refine As (A2 ?_);unfold Builtin.Getset_descriptor.descrGetter Builtin.Getset_descriptor.descrCheckInstance Builtin.Getset_descriptor.descrNameAndClass Jt;simp only[PySem.W.KF.owner_class]
 repeat lk
 refine⟨Hx _ (by decide+kernel),codeAny_builtin PySem.W.KF.entry_class ?_⟩
 unfold Builtin.«object.__class__» shownTypeOf
 repeat lk
 exact hq
theorem cM{Q:Fin->Ar->Prop}(X:K.In h)(x:zk K C)(p:sj e C h)(hq:Q (.done (.ret (.ref C))) ⟨h,g,d,t,os⟩):
  AA (model prog w) A (Builtin.«object.__getattribute__» ⟨[.ref e,.str "__class__" tk],[]⟩) Q E ⟨h,g,d,t,os⟩:=by
 have L0:=KG (M:=model prog w) p;have L1:=Cp (M:=model prog w) X x.cl;have hT5:(⟨h,g,d,t,os⟩:Ar).TypeIs (.builtin "object.__class__") "getset_descriptor" := Zu;have f5:=Zu;have f6:=F.slot_gs_get.lookup;have f7:=F.slot_gs_set.lookup
 repeat (any_goals (first|assumption|with_reducible refine L0.at ?_|with_reducible refine L1.at ?_|wp_step))
 refine fF X p x.ob ?_
 repeat (any_goals (first|assumption|wp_step))
theorem SQ{mq:Al}(X:K.In h)(x:zk K C)(p:sj e C h)(hq:Q () ⟨h,g,d,t,os⟩):AA M A (Gr "BaseException.__getattribute__" ⟨[.ref e,mq],[]⟩) Q E ⟨h,g,d,t,os⟩:=by
 have hk:builtinKind "BaseException.__getattribute__" = Aa .slot:=by decide+kernel
 have kh:splitId "BaseException.__getattribute__" = Aa ("BaseException", "__getattribute__"):=by decide+kernel
 have L0:=KG (M:=M) p;have L1:=Z_9 (M:=M) X x.be;have ha:=F.args_bexc_ga (.ref e) mq;simp only[Gr,hk,kh];refine As ?_
 .unfold Jt
  repeat (first|(with_reducible refine As (L0.at ?_))|(with_reducible refine L1.at ?_)|wp_step)
  exact hq
theorem hV{Q:Vq}(X:K.In h)(x:zk K C)(p:sj e C h)(hq:Q (.ref C) ⟨h,g,d,t,os⟩):AA (model prog w) A (getAttrBy (.ref e) (.str "__class__" tk) fill expr) Q E ⟨h,g,d,t,os⟩:=by
 have L0:=KG (M:=model prog w) p;have L1:=Cp (M:=model prog w) X x.ga;have L2:=Cp (M:=model prog w) X x.gt;have f3:=F5.ga.bind (.ref e);have hx0:(expr&&Ke (Dl "BaseException.__getattribute__"))=Ae:=by cases expr<;>rfl
 have hx2:(Dl "BaseException.__getattribute__" == Dl "object.__getattribute__")=Ae:=by decide+kernel
 have hx1:(Ke (Bm C)&&Dl "BaseException.__getattribute__" == Dl "object.__getattribute__")=Ae:=by rw[hx2];rfl
 repeat (any_goals (first|assumption|with_reducible refine L0.at ?_|with_reducible refine L1.at ?_|with_reducible refine L2.at ?_|wp_step))
 refine DZ F5.ga.plain Zm (SQ X x p (cM X x p ?_))
 repeat (any_goals (first|assumption|wp_step))
theorem cK{Q:Ao Al->Ar->Prop}(X:K.In h)(x:zk K C)(p:sj e C h)(hq:Q (Aa (.ref C)) ⟨h,g,d,t+1,os⟩):AA (model prog w) A (getAttr? (.ref e) "__class__") Q E ⟨h,g,d,t,os⟩:=by
 unfold getAttr? getAttrBy?
 repeat (any_goals (first|assumption|with_reducible apply hV X x p|wp_step))
end
theorem TV{e C:Ak}(x:zk K C):PySem.W.KitX K (.ref e) (.ref C) (sj e C) where
 ty:=λM h _ p=>KG p
 it:=λM h X _=>by
  obtain⟨cd,hc⟩:=Cz.mp x.cs;unfold Dx at hc;split at hc
  .rename_i c' d' cd' uj ho;intro A' Q' E' s' k q;unfold isType loadHead;exact As (aO (k _ _ (X _ _ ho)) (A2 q))
  .cases hc
 ne:=λh tp dd its n sl X ϻ=>by
  obtain⟨cd,hc⟩:=Cz.mp x.cs;refine Bool.eq_false_iff.mpr λq=>?_
  have e:C=tp:=JX (AF.mp q);subst e;unfold Dx at hc;split at hc
  .rename_i c' d' cd' uj ho;have z:=(X _ _ ho).symm.trans ϻ;cases z
  .cases hc
 ca:=λ{_ _ _ _ _ s} X p k=>by
  obtain⟨h,g,d,t,os⟩:=s;exact cK X x p k
theorem fG{A:A4}{E:Vq}{g:Bl Eo}{d:IB}{t:Ag}{os:BQ}{e C C':Ak}{b:Am}{Q:Am->Ar->Prop}(X:K.In h)(p:sj e C h)(x':zk K C')(hs:BN K (.ref C) (.ref C')=Aa b)(hq:Q b ⟨h,g,d,t,os⟩):AA M A (excMatches (.ref e) (.ref C')) Q E ⟨h,g,d,t,os⟩:=by
 obtain⟨bm,N,nm,qn,bs,hd,sn,sub,ab,col,dd,k0,k1,k2,k3,k5,mN,hC',_,_,T⟩:=nL X x'.exc.choose_spec;have hcB:(Bm C'::bm).contains (.type "BaseException")=Ab:=by rw[Hw,T.hasType (show rq.contains (.type "BaseException")=Ab by decide),J4]
 have L0:=KG (M:=M) p;have L1:=Z_9 (M:=M) X hs;have f:=tc_notTuple;unfold excMatches
 repeat (first|(with_reducible refine As (L0.at ?_))|(with_reducible refine L1.at ?_)|(with_reducible refine As (L1.at ?_))|with_reducible refine Cb hC' ?_|(with_reducible refine Fp hC' ?_;rw[hcB])|wp_step)
 all_goals first|exact hq|(cases b<;>(wp_walk;exact hq))
def HQ(X:Cx)(pI:Pn)(e:Ak):Prop:=e≠X.env.locals/\(∀ x c,X.env.cells.lookup x=Aa c->c≠e)/\(∀ p∈X.pn++pI,p.1≠e)/\X.s₀.heap.get? e=Af
section
variable{X:Cx}{pI:Pn}{Y:L2.St}{H:Hp}{s:Ar}{e:Ak}
theorem MQ(I:Z8 X pI Y H s)(hx:X.ex=[])(h:s.heap.get? e=Af):HQ X pI e:=by
 refine⟨?_,λx c q z=>?_,λp hp z=>?_,K9 I hx h⟩
 .rintro rfl;obtain⟨m,⟨o,_,_,ho,_⟩,_⟩:=I.loc;rw[h]at ho;cases ho
 .obtain⟨v,o,ho,_⟩:=I.cell x c q;rw[z,h]at ho;cases ho
 .obtain⟨q,_⟩:=I.pin p hp;rw[z,h]at q;cases q
theorem Td{ex:Ac Ak}(I:Z8 X pI Y H s)(hx:X.ex=[])(sh:zr ex (yn X.stack) s.heap h')(ha:∀ b∈ex,HQ X pI b)(hH:∀ b∈ex,H b=Af):Z8 X pI Y H {s with heap:=h'}:=by
 have kp:∀ b o,s.heap.get? b=Aa o->b∉ex->∃ sl,h'.get? b=Aa {o with slots:=sl}:=λb o q n=>by
  by_cases hb:b∈yn X.stack
  .exact sh.slot b o q hb
  .exact⟨o.slots,sh.keep b o q n hb⟩
 have cellK:∀ x c,X.env.cells.lookup x=Aa c->∀ v,s.heap.IsCell c v->h'.IsCell c v:=λx c q v ⟨o,ho,hd⟩=>by
  obtain⟨sl,z⟩:=kp c o ho λz=>(ha c z).2.1 x c q rfl
  exact⟨_,z,hd⟩
 refine⟨I.ok,I.os,I.bare,?_,?_,λx c q=>?_,I.free,I.freeC,λp hp=>?_,yy.shift I.hok sh hH I.stkFree,I.len⟩
 .have b0:=I.base;rw[hx]at b0 ⊢;exact Un.shift b0 sh (λb hb=>(ha b hb).2.2.2) (Qx I)
 .obtain⟨m,⟨o,es,ep,ho,r⟩,hl⟩:=I.loc;obtain⟨sl,z⟩:=kp _ o ho λz=>(ha _ z).1 rfl
  refine⟨m,⟨_,es,ep,z,r⟩,λi x v e1 e2 e3=>?_⟩
  obtain⟨u,ru,l⟩:=hl i x v e1 e2 e3;refine⟨u,ru,?_⟩;rcases l with l|⟨k,c,q,z⟩
  .exact .inl l
  .exact .inr ⟨k,c,q,cellK x c q _ z⟩
 .obtain⟨v,z⟩:=I.cell x c q;exact⟨v,cellK x c q v z⟩
 .obtain⟨q,n,ne,nf,d⟩:=I.pin p hp;exact⟨sh.keep p.1 p.2 q (λz=>(ha p.1 z).2.2.1 p hp rfl) (λz=>(A6.mp (I.stkSub p.1 z)).elim ne nf),n,ne,nf,d⟩
theorem dU(I:Z8 X pI Y H s)(hx:X.ex=[])(ha:HQ X pI e)(hH:H e=Af)(ho:∃ o,s.heap.get? e=Aa o)(p:φ s.heap)(hφ:∀ h1 h2:AI,φ h1->(∀ o,h1.get? e=Aa o->h2.get? e=Aa o)->φ h2):Z8 X pI Y (upd H e (.ext φ)) s:=by
 have ne:∀ b o,H b=Aa o->b≠e:=λb o q z=>by rw[z,hH]at q;cases q
 refine⟨I.ok,I.os,I.bare,⟨I.base.keep,I.base.slot,λb o q n hb=>?_,I.base.there,λb xs q=>?_,λb o u q=>?_,λb ps q=>?_⟩,I.loc,I.cell,?_,λx c q=>?_,λp hp=>?_,λb o q=>?_,I.len⟩
 .rw[AQ λz=>by rw[z,ha.2.2.2]at q;cases q]
  exact I.base.free b o q n hb
 .have:=I.base.tups b xs q;rw[AQ (ne _ _ this)];exact this
 .have:=I.base.frzs b o u q;rw[AQ (ne _ _ this)];exact this
 .obtain⟨more,this⟩:=I.base.tbls b ps q;exact⟨more,by rw[AQ (ne _ _ this)];exact this⟩
 .rw[AQ λz=>ha.1 z.symm];exact I.free
 .rw[AQ (ha.2.1 x c q)];exact I.freeC x c q
 .obtain⟨q,n,r⟩:=I.pin p hp;exact⟨q,by rw[AQ (ha.2.2.1 p hp)];exact n,r⟩
 .by_cases hb:b=e
  .subst hb;rw[BK]at q;cases q;exact⟨p,ho,hφ⟩
  .rw[AQ hb]at q;exact(I.hok b o q).stay (λc v hc z=>z) (λc z=>by rw[AQ (ne _ _ z)];exact z) λc zs z=>by rw[AQ (ne _ _ z)];exact z
theorem dS{i:Ag}{n:Ah}{m:Ah->Ao Al}{tk:Ag}(I:Z8 X pI Y H s)(hN:X.N.Nodup)(hi:X.N[i]?=Aa n)(hn:s.heap.Ns X.env.locals m)(ar:h'.Ns X.env.locals (λx=>if x=n then v else m x))(hs:FK X.env.locals s.heap h'):Z8 X pI (Y.set i Af) H {s with heap:=h',toks:=tk}:=by
 obtain⟨m0,hn0,hl⟩:=I.loc;have em:m0=m:=by
  obtain⟨o,es,ep,h1,h2,_,h3⟩:=hn0;obtain⟨o',za,jk,lu,h2',_,h3'⟩:=hn;rw[h1]at lu;cases lu;rw[h2]at h2';cases h2'
  funext y
  rw[<-h3,<-h3']
 subst em;obtain⟨oL,_,_,hoL,_⟩:=id hn;have lt:∀ b o,X.s₀.heap.get? b=Aa o->b≠X.env.locals:=λb o q=>BA (AZ (AS q) I.ok.above)
 refine⟨I.ok,I.os,I.bare,⟨λb o q n hb hx=>?_,λb o q n hb hx=>?_,I.base.free,λb o q hx=>?_,I.base.tups,I.base.frzs,I.base.tbls⟩,⟨_,ar,λj y v' e1 e2 e3=>?_⟩,λy c q=>?_,I.free,I.freeC,λp hp=>?_,λb ob q=>?_,by rw[AT];exact I.len⟩
 .exact(hs.2 b (lt b o q)).trans (I.base.keep b o q n hb hx)
 .obtain⟨sl,e1⟩:=I.base.slot b o q n hb hx;exact⟨sl,(hs.2 b (lt b o q)).trans e1⟩
 .obtain⟨o',e1⟩:=I.base.there b o q hx;exact⟨o',(hs.2 b (lt b o q)).trans e1⟩
 .by_cases hj:i=j
  .subst hj;have:=Ed e2;cases this
  .rw[Bt hj]at e2;obtain⟨u',r',q⟩:=hl j y v' e1 e2 e3;refine⟨u',r',?_⟩;rcases q with ⟨k,e⟩|⟨k,c,e,z⟩
   .refine .inl ⟨k,?_⟩;have:y≠n:=λe=>hj (Qh hN hi (e ▸ e1))
    simp[this,e]
   .exact .inr ⟨k,c,e,z.sameBut hs (I.cne y c e)⟩
 .obtain⟨w',z⟩:=I.cell y c q;exact⟨w',z.sameBut hs (I.cne y c q)⟩
 .obtain⟨q,n,ne,nf,d⟩:=I.pin p hp;exact⟨(hs.2 p.1 ne).trans q,n,ne,nf,d⟩
 .refine(I.hok b ob q).stay (λc w' hc z=>(hs.2 c ?_).trans z) (λ_ q=>q) λ_ _ q=>q
  rintro rfl;have wc:=I.free;rcases hc with z|hc
  .rw[<-z,wc]at q;cases q
  .rw[wc]at hc;cases hc
end
noncomputable def Cx.hot(X:Cx)(e:Ak):Cx:={X with A:=X.A.mark (Aa (.ref e)),calm:=Ae,xe:=λ_ _=>AN}
section
variable{X:Cx}{pI:Pn}{Y:L2.St}{H:Hp}{s:Ar}{e:Ak}
theorem qI(ok:X.Ok):(Cx.hot X e).Ok:=⟨ok.mod,ok.kind,ok.glob,ok.blt,ok.above,ok.inj,ok.has,ok.cab,λz=>(nomatch z),ok.frames,ok.stk,ok.exf,ok.bs,ok.bsz,ok.noex,ok.exfs,ok.funs,ok.frf⟩
theorem Qu(I:Z8 X pI Y H s)(e:Ak):Z8 (Cx.hot X e) pI Y H s:=⟨qI I.ok,I.os,I.bare,I.base,I.loc,I.cell,I.free,I.freeC,I.pin,I.hok,I.len⟩
theorem gQ(ok:X.Ok)(I:Z8 (Cx.hot X e) pI Y H s):Z8 X pI Y H s:=⟨ok,I.os,I.bare,I.base,I.loc,I.cell,I.free,I.freeC,I.pin,I.hok,I.len⟩
theorem Sx.unset(x:Sx K CL Fz B U Y H)(i:Ag):Sx K CL Fz B (U.set i Af) (Y.set i Af) H:=by
 have get:∀(j:Ag)(y:D×Am),(U.set i Af)[j]?=Aa (Aa y)->i≠j/\U[j]?=Aa (Aa y):=λj y h=>by
  by_cases hj:i=j
  .subst hj;have:=Ed h;cases this
  .exact⟨hj,by rw[Bt hj]at h;exact h⟩
 have sub:∀ a,BJ B (U.set i Af) (Y.set i Af) a->BJ B U Y a:=λa h=>by
  rcases h with h|⟨j,d,h1,h2⟩
  .exact .inl h
  .obtain⟨hj,h1⟩:=get j _ h1;rw[Bt hj]at h2;exact .inr ⟨j,d,h1,h2⟩
 refine⟨⟨λj d h=>?_,λj d h hn=>?_,by rw[AT,AT];exact x.len⟩,λa h=>x.aok a (sub a h),λj d a h1 h2=>?_,λj k d f a h1 h2 h3 h4=>?_,x.same,by rw[AT,AT];exact x.len,λj h=>?_⟩
 .obtain⟨hj,h1⟩:=get j _ h;obtain⟨v,q,r⟩:=x.good.sh j d h1;exact⟨v,by rw[Bt hj];exact q,Z7.sub sub _ r⟩
 .obtain⟨hj,h1⟩:=get j _ h;obtain⟨a,xs,ds,q,z,ha,hh,rr⟩:=x.good.ow j d h1 hn;exact⟨a,xs,ds,by rw[Bt hj];exact q,z,.inr ⟨j,d,h,by rw[Bt hj];exact q⟩,hh,Z9.sub sub _ rr⟩
 .obtain⟨hj,h1⟩:=get j _ h1;rw[Bt hj]at h2;exact x.new j d a h1 h2
 .obtain⟨hj,h1⟩:=get j _ h1;obtain⟨hk,h2⟩:=get k _ h2;rw[Bt hj]at h3;rw[Bt hk]at h4;exact x.dis j k d f a h1 h2 h3 h4
 .obtain⟨hj,h1⟩:=get j _ h;obtain⟨a,xs,p1,p2,p3⟩:=x.pin j h1;exact⟨a,xs,p1,by rw[Bt hj];exact p2,p3⟩
end
def JM(e C:Ak)(dx:Ao Ak)(h:AI):Prop:=∃ o,h.get? e=Aa o/\o.cls=.ref C/\o.dict=dx/\∃ us,o.data=.fields us
noncomputable def Nl(X:Cx)(CL:ClA)(pI:Pn)(Y:L2.St)(H:Hp)(y:Ex)(Xw:Vq):Prop:=
 ∀ s' H' e T cls dx,Z8 X pI Y H' s'->Az H H'->va e T cls dx s'.heap->H' e=Af->H' T=Af->HQ X pI e->HQ X pI T->Dr X.K CL H' cls dx y->Xw (.ref e) s'
def STB(X:Cx)(CL:ClA)(body:Ac AL)(f:Rho->O):Prop:=∀ Fz B pI s Y H D U (Xw:Vq),FM (model X.prog X.w) X.A X.env Xw->Z8 X pI Y H s->Sx X.K CL Fz B U Y H ->
  (match f U with
   |.exn y U'=>U'=U->Nl X CL pI Y H y Xw
   | o=>B2 X.K CL Fz B (λ_ _=>AN) o D)->(∀ y U',f U=.exn y U'->U'=U)->AA (model X.prog X.w) X.A (execs body X.env) (SP X pI D) Xw s
theorem Qv{i:Ag}{g n:Ah}{p1 hp:AE}{b:Am}{rest:Ac ExceptHandler}{s1:Ar}{U':Rho}{D:xk}{e T1:Ak}{y:Ex}(hx:X.ex=[])(hN:X.N.Nodup)(hi:X.N[i]?=Aa n)(hl:X.env.scope.names.lookup n=Aa .local)(hg:Gl X g)(hm:X.mg g=Aa (.ref C'))(zq:(g==("__debug__" : Ah))=Ae)(xc:zk X.K C')(hsu:BN X.K (.ref C) (.ref C')=Aa b)(hh:∀ e,vq (Cx.hot X e) CL (λ_ _=>AN) (h0::hs) fh)(I1:Z8 X pI Y H' s1)(n8:va e T1 (.ref C) dx s1.heap)(ae:HQ X pI e)(fz:HQ X pI T1)(he:H' e=Af)(ek:H' T1=Af)(gx:Sx X.K CL Fz B U' Y H')(xq:CL y.c=Aa C)(xr:Dr X.K CL H' (.ref C) dx y)(p2:b=Ab->B2 X.K CL Fz B W (ug i y U' fh) D)(p3:b=Ae->AA (model X.prog X.w) X.A (Ik (.ref e) X.env rest) (SP X pI D) X.xe s1):AA (model X.prog X.w) X.A (Ik (.ref e) X.env (.ExceptHandler (Aa (.Name g p1)) (Aa n) (h0::hs) hp::rest)) (SP X pI D) X.xe s1:=by
 obtain⟨Cx0,hcl0,ecl,jv⟩:=xr (BJ B U' Y) gx.aok;have xat:∀{h:AI}{T:Ak},va e T (.ref C) dx h->sj e C h:=λ{h T} z=>by
  obtain⟨oe,_,_,_,_,z1,z2,_⟩:=z;exact⟨oe,z1,z2⟩
 have xad:∀{h:AI}{T:Ak},va e T (.ref C) dx h->JM e C dx h:=λ{h T} z=>by
  obtain⟨oe,vs,_,_,_,z1,z2,z3,_,z4,_⟩:=z;exact⟨oe,z1,z2,z3,vs,z4⟩
 have two:∀{T:Ak}{Z_:Ak->Prop},Z_ e->Z_ T->∀ b∈[e,T],Z_ b:=λ{T Z_} h1 h2 b hb=>by
  rcases A6.mp hb with rfl|hb
  .exact h1
  .rw[BU.mp hb];exact h2
 refine wpAny_handleBy_cons (codeAny_handlers_test (Jy (X:=Cx.hot X e) (Qu I1 e) hg hm ?_ zq)) (by intro q;cases q)
 refine fG (K:=X.K) I1.kIn (xat n8) xc hsu ?_;cases b with
 |false=>exact p3 rfl
 |true=>
 have p2:=p2 rfl;refine codeAny_handlers_suite_as ?_;refine dG (base:=X.base) (l:=X.stack) I1.stack n8 λh3 T3 fl3 sh3 hT3=>?_
 have I3:=Td I1 hx sh3 (two ae fz) (two (Z_:=λb=>H' b=Af) he ek)
 obtain⟨oe,oeg,oec⟩:=xad fl3;have I3':=dU (φ:=JM e C dx) I3 hx ae he ⟨oe,oeg⟩ ⟨oe,oeg,oec⟩ λh1 h2 ⟨o,q1,q2⟩ k=>⟨o,k o q1,q2⟩
 have vx:Az H' (upd H' e (.ext (JM e C dx))):=λb o q=>by rw[AQ λz=>by rw[z,he]at q;cases q];exact q
 refine Qb (X:=Cx.hot X e) (i:=i) (v:=.ref e) (Qu I3' e) hN hi (.inl hl) rfl (λs4 I4=>?_) (.inr hl)
 have x3:=gx.grow vx;have nA:¬ BJ B U' Y e:=λz=>by
  obtain⟨xs,q,w⟩:=x3.aok e z;rw[BK]at q;cases q;exact w
 have rp:Z7 X.K CL (upd H' e (.ext (JM e C dx))) (BJ B U' Y) (.ref e) (.exc y.c y.fs):=by
  refine⟨e,C,JM e C dx,rfl,nA,xq,BK,λh ⟨o,z1,z2,_⟩=>⟨o,z1,z2⟩,?_⟩
  rcases jv with z|⟨d,vs,ed,nd,hd,rf⟩
  .exact .inl z
  .exact .inr ⟨d,vs,nd,vx _ _ hd,Cl.kp (Kp.of vx) _ rf,λh ⟨o,z1,_,z3,z4⟩=>⟨o,z1,z3.trans ed,z4⟩⟩
 have x4:=x3.set i rp;have fin:∀{s5:Ar}{Y5:L2.St}{H5:Hp}{Q:D9->Ar->Prop},Z8 (Cx.hot X e) pI Y5 H5 s5->(∀ s6,Z8 X pI (Y5.set i Af) H5 s6->Q () s6)->AA (model X.prog X.w) X.A (do bindName X.env n .none;unbindBehindTheSuite X.env n hp) Q X.xe s5:=λ{s5 Y5 H5 Q} I5 k=>by
  have et:=gQ I1.ok I5;obtain⟨m,hn,_⟩:=id et.loc;refine wpAny_nameGoes_keeps hl hn (by rw[I1.ok.kind];rfl) λh6 v6 hn6 sb6=>?_
  exact k _ (dS et hN hi hn hn6 sb6)
 refine Bk (hh e Fz B pI s4 _ _ {nx:=λY5 H5=>D.nx (Y5.set i Af) H5,rt:=D.rt} I4 ⟨_,x4,?_⟩) (λf s5 hf=>?_) λ_ _ z=>A7 z
 .unfold ug at p2;cases ef:fh (U'.set i (Aa (.exc y.c y.fs,Ae))) with
  |next vd=>rw[ef]at p2;exact λY5 H5 x5=>p2 _ _ (x5.unset i)
  |ret d b=>rw[ef]at p2;exact p2
  |brk _=>rw[ef]at p2;exact p2.elim
  |cont _=>rw[ef]at p2;exact p2.elim
  |exn _ _=>rw[ef]at p2;exact p2.elim
  |bad=>rw[ef]at p2;exact p2.elim
 .cases f with
  |next=>
   obtain⟨Y5,H5,I5,q⟩:=hf;exact fin I5 λs6 I6=>⟨_,H5,I6,q⟩
  |ret u=>
   obtain⟨v,Y5,H5,I5,r,q⟩:=hf;exact fin I5 λs6 I6=>⟨v,_,H5,I6,r,q⟩
  |brk=>obtain⟨_,_,_,q⟩:=hf;exact A7 q
  |cont=>obtain⟨_,_,_,q⟩:=hf;exact A7 q
def Pl(X:Cx)(CL:ClA)(up:Ag->Ac Ag)(g:Ah)(c:Ag):Prop:=∃ C',Gl X g/\X.mg g=Aa (.ref C')/\(g==("__debug__" : Ah))=Ae/\zk X.K C'/\∀ c' C,CL c'=Aa C->BN X.K (.ref C) (.ref C')=Aa ((up c').contains c)
theorem T5{y:Ex}{Q:Flow->Ar->Prop}{hd:Ac ExceptHandler}(hx:X.ex=[])(yh:X.stack=X.env::X.outer)(ad:X.env.frame=Aa X.env.locals)(k:∀ e T1 cls dx H' s1,Z8 X pI Y H' s1->Az H H'->va e T1 cls dx s1.heap->HQ X pI e->HQ X pI T1->H' e=Af->H' T1=Af->Dr X.K CL H' cls dx y->AA (model X.prog X.w) X.A (Ik (.ref e) X.env hd) Q X.xe s1):Nl X CL pI Y H y (λev s1=>AA (model X.prog X.w) X.A (FN ev X.env) (λ_ s2=>AA (model X.prog X.w) X.A (GH ev Af) (λ_ s3=>AA (model X.prog X.w) X.A (Ik ev X.env hd) Q X.xe s3) X.xe s2) X.xe s1):=by
 intro s' H' e T cls dx I' sm fl he hT ae aT xr;have two:∀{T:Ak}{Z_:Ak->Prop},Z_ e->Z_ T->∀ b∈[e,T],Z_ b:=λ{T Z_} h1 h2 b hb=>by
  rcases A6.mp hb with rfl|hb
  .exact h1
  .rw[BU.mp hb];exact h2
 have w9:X.A.frames=Aa (X.env::X.outer):=by rw[<-yh];exact I'.ok.frames
 refine gZ (base:=X.base) w9 ad (by rw[<-yh];exact I'.stack) fl λh1 T1 n8 sh1 hT1=>?_
 rw[<-yh]at sh1;exact k e T1 cls dx H' _ (Td I' hx sh1 (two ae aT) (two (Z_:=λb=>H' b=Af) he hT)) sm n8 ae (hT1.elim (λz=>z ▸ aT) λz=>MQ I' hx z) he (hT1.elim (λz=>z ▸ hT) λz=>L5 I'.hok z) xr
noncomputable def Cx.pw(X:Cx)(pI:Pn)(Xw:Vq):Cx:={X with pn:=X.pn++pI,xe:=Xw}
section
variable{X:Cx}{pI LE:Pn}{Y:L2.St}{H:Hp}{s:Ar}{Xw:Vq}
theorem xS(ok:X.Ok):(Cx.pw X pI Xw).Ok:=⟨ok.mod,ok.kind,ok.glob,ok.blt,ok.above,ok.inj,ok.has,ok.cab,ok.hd,ok.frames,ok.stk,ok.exf,ok.bs,ok.bsz,ok.noex,ok.exfs,ok.funs,ok.frf⟩
theorem Q0(I:Z8 X pI Y H s)(Xw:Vq):Z8 (Cx.pw X pI Xw) [] Y H s:=⟨xS I.ok,I.os,I.bare,I.base,I.loc,I.cell,I.free,I.freeC,λp hp=>I.pin p (by
 rcases Ei.mp hp with z|z
 .exact z
 .exact absurd z (by simp)),I.hok,I.len⟩
theorem MT(ok:X.Ok)(I:Z8 (Cx.pw X pI Xw) LE Y H s):Z8 X pI Y H s:=⟨ok,I.os,I.bare,I.base,I.loc,I.cell,I.free,I.freeC,λp hp=>I.pin p (ES _ hp),I.hok,I.len⟩
theorem kH(ok:X.Ok){D:xk}{f:Flow}{s':Ar}(h:SP (Cx.pw X pI Xw) LE D f s'):SP X pI D f s':=by
 cases f with
 |next=>obtain⟨Y',H',I,q⟩:=h;exact⟨Y',H',MT ok I,q⟩
 |brk=>obtain⟨Y',H',I,q⟩:=h;exact⟨Y',H',MT ok I,q⟩
 |cont=>obtain⟨Y',H',I,q⟩:=h;exact⟨Y',H',MT ok I,q⟩
 |ret u=>obtain⟨v,Y',H',I,r,q⟩:=h;exact⟨v,Y',H',MT ok I,r,q⟩
end
section
variable{X:Cx}{CL:ClA}{k n:Ag}{fr:Am}{f:Ak}{fd:Bj}{ps:Ac Ah}{F:Ac D->R D}{x:Ah}{p pos pos2:AE}{e:Aq}{es:Ac Aq}{fs ft:Rho->R (Ac D)}{sh:Rho->Am}
theorem Uq{y:Ex}(hx:X.ex=[])(ok:X.Ok)(q:Nl X CL pI Y H y Xw):∀ LE H1 s1 e s',Z8 (Cx.pw X pI Xw) LE Y H1 s1->CXR X.prog X.w (Cx.pw X pI Xw).stack H1 s1 (λcls dx H'=>Dr X.K CL H' cls dx y/\Az H H') e s'->(Cx.pw X pI Xw).xe e s':=by
 intro LE H1 s1 ev s' J h;obtain⟨e,T,cls,dx,H',rfl,os,bare,un,hok,fl,he,hT,ne,nT,xr,sm⟩:=h;have J':=MT ok J;have J2:=J'.call' (s':=s') (ch:=[]) os un hok bare (λb z=>absurd z (by simp))
 exact q s' H' e T cls dx J2 sm fl he hT (MQ J' hx ne) (MQ J' hx nT) xr
theorem jP:∀ LE H1 s1 e s',Z8 (Cx.pw X pI Xw) LE Y H1 s1->CXR X.prog X.w (Cx.pw X pI Xw).stack H1 s1 (λ_ _ _=>AN) e s'->(Cx.pw X pI Xw).xe e s':=by
 intro LE H1 s1 ev s' J h;obtain⟨e,T,cls,dx,H',rfl,os,bare,un,hok,fl,he,hT,ne,nT,w⟩:=h;exact w.elim
variable(hx0:X.ex=[])(G:Y4 X.prog X.w X.K X.mg X.base (CXR X.prog X.w) k f fd ps (spD X.K CL n fr F))(hr:U6 k X.A)(hg:Gl X x)(hm:X.mg x=Aa (.ref f))
    (hk:Ba X.K (.ref f)=Ab) (hb:CW X.K fd ps []) (yh:∀ U,sh U=Ab->ft U=fs U) (hn:∀ U ds,ft U=.ok ds->ds.length=n) (hnx:∀ U y,ft U≠.exn y)
    (zq:(x==("__debug__" : Ah))=Ae) (he:Aw (e::es) X.env=(Ae,eval e X.env)::Aw es X.env) (zp:∀ pos,(Bv pos (Aw es X.env)).any (·.1)=Ae)
    (ha:∀ pI Xw,FM (model X.prog X.w) X.A X.env Xw->SA (Cx.pw X pI Xw) CL (λ_ _=>AN) (e::es) fs/\uf (Cx.pw X pI Xw) CL (λ_ _=>AN) (e::es) ft)
include hx0 G hr hg hm hk hb yh hn hnx zq he zp ha
end
section
variable{X:Cx}{CL:ClA}{W:XW}
theorem fL{c:Ag}{g:Ah}{np cpos pos:AE}{e:Aq}{es:Ac Aq}{fs:Rho->R (Ac D)}(uq:X.calm=Ab)(rz:NI X CL W)(hg:Gl X g)(hm:X.mg g=Aa (.ref C))(zq:(g==("__debug__" : Ah))=Ae)(xc:DE X.K C Af=Ab)(xq:CL c=Aa C)(ha:SA X CL W (e::es) fs)(pf:∀ ds,xn c ds=.bad\/xn c ds=.ok ⟨c,[]⟩)(he:Aw (e::es) X.env=(Ae,eval e X.env)::Aw es X.env)(zp:∀ pos,(Bv pos (Aw es X.env)).any (·.1)=Ae)(hz:∀ U ds,fs U=.ok ds->ds.length<=100000):SS X CL W (.Raise (Aa (.Call (.Name g np) (e::es) [] cpos)) Af pos) (λU=>O.of U (zg (fs U)) λxs=>O.of U (xn c xs) λx=>.exn x U):=λFz B pI s Y H D I ⟨U,x,p⟩=>by
 dsimp only at p;cases e1:fs U with
 |bad=>rw[e1]at p;exact p.elim
 |exn y=>rw[e1]at p;exact p.elim
 |ok ds=>
  rw[e1]at p;have p2:B2 X.K CL Fz B W (O.of U (xn c ds) λx=>.exn x U) D:=p
  rcases pf ds with e2|e2
  .rw[e2]at p2;exact p2.elim
  .rw[e2]at p2;have p3:∀ H,(∀ b o,Fz b o->H b=Aa o)->W ⟨c,[]⟩ H:=p2;obtain⟨bm,N,nm,qn,bs,hd,sn,sub,ab,col,dd,k0,k1,k2,k3,k5,mN,uh,qs,U4⟩:=Qa I.kIn xc;refine wpAny_Raise_call_subT (bmB:=rq) (nm:=nm) (q:=qn) (C:=C) (N:=N) (bs:=bs) (bm:=bm) (hdct:=hd) (sn:=sn) (sub:=sub) (ab:=ab) (col:=col) (dd:=dd) (k0:=k0) (k1:=k1) (k2:=k2) (k3:=k3) (k5:=k5) (mN:=mN) Fb U4 (I.ok.hd uq) (by rw[he];show (Ae||(Bv cpos (Aw es X.env)).any (·.1))=Ae;rw[zp];rfl) qs ?_
   refine Jy I hg hm ⟨rfl,?_⟩ zq;have q1:=ha (BJ B U Y) cpos pI s Y H (λvs H1=>Az H H1/\vs.length=ds.length) I ⟨x.aok,U,x.good,by rw[e1];exact λvs H1 s1 r1=>⟨s1,r1.length⟩⟩
   rw[he]at q1 ⊢;refine ET (Bk q1 (λus s2 ⟨vs,H2,I2,r2,s2',hl⟩=>⟨rfl,?_⟩) λ_ _ z=>z)
   obtain⟨o1,o2,o3⟩:=uh _ I2.kIn;refine⟨?_,o1,o2,o3,λh' ev ut=>?_⟩
   .rw[<-r2.length,hl,By];have:=hz U ds e1;omega
   .obtain⟨t,ge,_⟩:=ut.there;have I3:Z8 X pI Y H2 {s2 with heap:=h'}:=I2.kept (t':=s2.toks) ut.keeps
    exact rz pI Y H2 _ ev C Af t ⟨c,[]⟩ I3 (λhx=>K9 I2 hx ut.new) (L5 I2.hok ut.new) ge (λA _=>⟨C,xq,rfl,.inl rfl⟩) (p3 H2 λb o z=>s2' _ _ (x.same b o z))
def M9(K:Fg)(CL:ClA)(up:Ag->Ac Ag)(c':Ag)(C':Ak):Prop:=∀ c C,CL c=Aa C->B5 K (.ref C) (.ref C')=Aa ((up c).contains c')
theorem TW{s:Ar}{a C:Ak}{cv:Al}{b:Am}{Q:VK}(I:Z8 X pI Y H s)(ha:H a=Aa (.ext φ))(hφ:∀ h,φ h->∃ o,h.get? a=Aa o/\o.cls=.ref C)(xc:zk X.K C)(e:B5 X.K (.ref C) cv=Aa b)(q:Q (.bl b) H):
  AA (model X.prog X.w) X.A (call (.builtin "isinstance") [.ref a,cv]) (EP X pI Y Q) X.xe s:=by
 have p:sj a C s.heap:=hφ _ (I.hok a _ ha).1;exact Co (TV xc) I.kIn p e (by intro z;cases z) λtk=>⟨.bl b,H,I.tok tk,rfl,q⟩
theorem Tu:∀(Cs:Ac Ak){its:Ac Al},A1 (Cs.map V.ref) its->its=Cs.map Bm
 |[],_,rv=>by cases rv;rfl
 |c::cs,_,rv=>by
  cases rv with
  |cons h1 h2=>rw[Tu cs h2];cases h1;rfl
theorem kO{s:Ar}{a C tp:Ak}{Cs:Ac Ak}{b:Am}{Q:VK}(I:Z8 X pI Y H s)(ha:H a=Aa (.ext φ))(hφ:∀ h,φ h->∃ o,h.get? a=Aa o/\o.cls=.ref C)(xc:zk X.K C)(ht:H tp=Aa (.H (Cs.map V.ref)))(e:Ji X.K (.ref C) (Cs.map Bm)=Aa b)(q:Q (.bl b) H):
  AA (model X.prog X.w) X.A (call (.builtin "isinstance") [.ref a,.ref tp]) (EP X pI Y Q) X.xe s:=by
 have p:sj a C s.heap:=hφ _ (I.hok a _ ha).1;obtain⟨_,its,rv,⟨o,ho,hc,n,hd⟩⟩:=I.hok tp _ ht;have ei:its=Cs.map Bm:=Tu Cs rv;subst ei;obtain⟨cls,dd,dat,sl⟩:=o;have o9:cls=.type "tuple" := hc;have lw:dat=.seq (FE (Cs.map Bm)) n:=hd;subst o9 lw;exact PySem.W.kia_tup (TV xc) I.kIn p ho e (by intro z;cases z) λtk=>⟨.bl b,H,I.tok tk,rfl,q⟩
theorem Ve{K:Fg}{up:Ag->Ac Ag}{c:Ag}{C:Ak}(h:CL c=Aa C):∀(cs:Ac (Ag×Ak)),(∀ p∈cs,M9 K CL up p.1 p.2)->Ji K (.ref C) ((cs.map λq:Ag×Ak=>q.2).map Bm)=Aa (cs.any λp=>(up c).contains p.1)
  |[],_=>rfl
  |p::cs,hk=>by
    have h1:=hk p AY c C h;have h2:=Ve h cs λq hq=>hk q (AD _ hq)
    show (match B5 K (.ref C) (.ref p.2) with
      |some Ab=>Aa Ab
      |some Ae=>Ji K (.ref C) ((cs.map λq:Ag×Ak=>q.2).map Bm)
      | none=>Af)=_
    rw[h1,JV];cases (up c).contains p.1 with
    |true=>rfl
    |false=>rw[h2];rfl
theorem P8{ks:Ac Ki}{d:D}{Q:VK}(hk:ks.all E7=Ab)(wo:ks≠[])(p:AX Rp W H (Eg up ks d) Q):∃ c fs,d=.exc c fs/\AX Rp W H (.ok (.bl (ks.any λk=>xw up k d))) Q:=by
 have ha:ks.any E7=Ab:=by
  cases ks with
  |nil=>exact absurd rfl wo
  |cons k ks=>simp only[E9,An]at hk;simp[JV,hk.1]
 cases d with
 | exc c fs=>exact⟨c,fs,rfl,by
   have p':AX Rp W H (if ks.all E7=Ab then .ok (.bl (ks.any λk=>xw up k (.exc c fs))) else .bad) Q:=p
   rw[Au hk]at p';exact p'⟩
 |obj c fs=>exact A7 p
 |dic _=>exact A7 p
 |O=>simp only[Eg,ha,EM]at p;exact A7 p
 |bl _=>simp only[Eg,ha,EM]at p;exact A7 p
 |int _=>simp only[Eg,ha,EM]at p;exact A7 p
 |str _=>simp only[Eg,ha,EM]at p;exact A7 p
 |H _=>simp only[Eg,ha,EM]at p;exact A7 p
 |L _=>simp only[Eg,ha,EM]at p;exact A7 p
theorem Qq{v:V}{c:Ag}{fs:Ac (Ah×D)}(r:CA K CL H A v (.exc c fs)):∃ a C φ,v=.ref a/\CL c=Aa C/\H a=Aa (.ext φ)/\∀ h,φ h->∃ o,h.get? a=Aa o/\o.cls=.ref C:=by
 rcases r with ⟨a,C,φ,e,_,hc,hH,hφ,_⟩|⟨a,xs,ds,_,z,_⟩
 .exact⟨a,C,φ,e,hc,hH,hφ⟩
 .cases z
variable{a:Aq}{fa:Rho->R D}{up:Ag->Ac Ag}{x:Ah}{p p2 pos:AE}
theorem VS{c':Ag}(mh:∀ c C,CL c=Aa C->zk X.K C)(hg:Gl X "isinstance")(hm:X.mg "isinstance" = Af)(wv:Gl X x)(qr:X.mg x=Aa (.ref C'))(qp:M9 X.K CL up c' C')(zq:(x==("__debug__" : Ah))=Ae)(ha:ST X CL W a fa)(he:Aw [a,.Name x p2] X.env=(Ae,eval a X.env)::Aw [.Name x p2] X.env):SE X CL W (.Call (.Name "isinstance" p) [a,.Name x p2] [] pos) (λU=>(fa U).bind λx=>Eg up [.cls c'] x):=λA=>
 PE.weak (Kk (r:=λxs H Q=>∃ a C φ c,xs=[.ref a,.ref C']/\CL c=Aa C/\H a=Aa (.ext φ)/\(∀ h,φ h->∃ o,h.get? a=Aa o/\o.cls=.ref C)/\Q (.bl ((up c).contains c')) H) (λpI s Y H xs us Q I r ⟨b,C,φ,c,e,hc,hH,hφ,q⟩=>by
   subst e;obtain⟨u,w',rfl,r1,r2⟩:=Lh r;cases r1;cases r2;exact TW I hH hφ (mh c C hc) (qp c C hc) q)
  hg hm Fx (Bw (ha A) (Bw (M1 (v:=.ref C') wv qr rfl zq) Cf rfl) he) (by decide) (by decide) he rfl) λY H Q ⟨hA,U,g,q⟩=>⟨hA,U,g,AX.bind q λd v H1 _ s1 r1 p1=>by
   obtain⟨c,fs,rfl,p2⟩:=P8 (by rfl) (by simp) p1
   obtain⟨b,C,φ,rfl,hc,hH,hφ⟩:=Qq r1;refine⟨b,C,φ,c,rfl,hc,hH,hφ,p2 _ H1 (Az.refl H1) ?_⟩;exact congrArg V.bl (DQ _).symm⟩
theorem VR(mh:∀ c C,CL c=Aa C->zk X.K C)(hg:Gl X "isinstance")(hm:X.mg "isinstance" = Af)(wv:Gl X "ValueError")(qr:X.mg "ValueError" = Af)(ha:ST X CL W a fa)(he:Aw [a,.Name "ValueError" p2] X.env=(Ae,eval a X.env)::Aw [.Name "ValueError" p2] X.env):SE X CL W (.Call (.Name "isinstance" p) [a,.Name "ValueError" p2] [] pos) (λU=>(fa U).bind λx=>Eg up [.verr] x):=λA=>
 PE.weak (Kk (r:=λxs H Q=>∃ a C φ c,xs=[.ref a,.ty "ValueError"]/\CL c=Aa C/\H a=Aa (.ext φ)/\(∀ h,φ h->∃ o,h.get? a=Aa o/\o.cls=.ref C)/\Q (.bl Ab) H) (λpI s Y H xs us Q I r ⟨b,C,φ,c,e,hc,hH,hφ,q⟩=>by
   subst e;obtain⟨u,w',rfl,r1,r2⟩:=Lh r;cases r1;cases r2;exact TW I hH hφ (mh c C hc) (mh c C hc).ve q)
  hg hm Fx (Bw (ha A) (Bw (UI (v:=.ty "ValueError") wv qr PyProof.Rows.Boot.«ValueError» rfl (by decide) (by decide)) Cf rfl) he) (by decide) (by decide) he rfl) λY H Q ⟨hA,U,g,q⟩=>⟨hA,U,g,AX.bind q λd v H1 _ s1 r1 p1=>by
   obtain⟨c,fs,rfl,p2⟩:=P8 (by rfl) (by simp) p1
   obtain⟨b,C,φ,rfl,hc,hH,hφ⟩:=Qq r1;refine⟨b,C,φ,c,rfl,hc,hH,hφ,p2 _ H1 (Az.refl H1) ?_⟩;exact congrArg V.bl (DQ _).symm⟩
theorem mX(up:Ag->Ac Ag)(c:Ag)(fs:Ac (Ah×D))(cs:Ac (Ag×Ak)):((cs.map λq=>Ki.cls q.1).any λk=>xw up k (.exc c fs))=cs.any λq=>(up c).contains q.1:=Ye
def WU(Cs:Ac Ak):TA:=λ_ H Q=>Q (Cs.map V.ref) H
theorem oE{ts:Ac Aq}{cs:Ac (Ag×Ak)}(mh:∀ c C,CL c=Aa C->zk X.K C)(hg:Gl X "isinstance")(hm:X.mg "isinstance" = Af)(bg:PA X ts (WU (cs.map λq:Ag×Ak=>q.2)))(wo:cs≠[])(hl:cs.length<=1000)(qp:∀ q∈cs,M9 X.K CL up q.1 q.2)(ha:ST X CL W a fa)(he:Aw [a,.Tuple ts kk p2] X.env=(Ae,eval a X.env)::Aw [.Tuple ts kk p2] X.env):SE X CL W (.Call (.Name "isinstance" p) [a,.Tuple ts kk p2] [] pos) (λU=>(fa U).bind λx=>Eg up (cs.map λq=>.cls q.1) x):=λA=>
 PE.weak (Kk (r:=λxs H Q=>∃ a C φ c tp,xs=[.ref a,.ref tp]/\CL c=Aa C/\H a=Aa (.ext φ)/\(∀ h,φ h->∃ o,h.get? a=Aa o/\o.cls=.ref C)/\H tp=Aa (.H ((cs.map λq:Ag×Ak=>q.2).map V.ref))/\Q (.bl (cs.any λq=>(up c).contains q.1)) H) (λpI s Y H xs us Q I r ⟨b,C,φ,c,tp,e,hc,hH,hφ,ht,q⟩=>by
   subst e;obtain⟨u,w',rfl,r1,r2⟩:=Lh r;cases r1;cases r2;exact kO I hH hφ (mh c C hc) ht (Ve hc cs qp) q)
  hg hm Fx (Bw (ha A) (Bw (Oi bg) Cf rfl) he) (by decide) (by decide) he rfl) λY H Q ⟨hA,U,g,q⟩=>⟨hA,U,g,AX.bind q λd v H1 _ s1 r1 p1=>by
   have hk:(cs.map λq=>Ki.cls q.1).all E7=Ab:=by simp[EC,E7]
   obtain⟨c,fs,rfl,p2⟩:=P8 hk (by simpa using wo) p1
   obtain⟨b,C,φ,rfl,hc,hH,hφ⟩:=Qq r1;refine⟨by rw[Bc,Bc,By];omega,λt ht=>?_⟩
   have hbt:b≠t:=Er hH ht;refine⟨b,C,φ,c,t,rfl,hc,by rw[AQ hbt];exact hH,hφ,BK,p2 _ _ (EZ ht _) ?_⟩
   exact congrArg V.bl (mX up c fs cs).symm⟩
end
theorem VA(q:DE K C v=Ab):∃ dd cd sl bm,K.lookup C=Aa ⟨.type "type",dd,.cls cd,sl⟩/\cd.mro=.ref C::bm:=by
 unfold DE at q;split at q
 .rename_i dd cd sl ho;split at q
  .rename_i C' bm k0 k1 k2 k3 n k5 hm hs;simp only[An,AF,Bf]at q;obtain⟨rfl,_⟩:=q;exact⟨dd,cd,sl,bm,ho,hm⟩
  .cases q
 .cases q
theorem N4(q:DE K C v=Ab):∃ cd bm,Dx K C=Aa cd/\cd.mro=.ref C::bm:=by
 obtain⟨dd,cd,sl,bm,h1,h2⟩:=VA q;exact⟨cd,bm,by unfold Dx;rw[h1],h2⟩
theorem rZ(q:DE K C v=Ab):Dp K (.ref C)=Aa (.type "type"):=by
 obtain⟨dd,cd,sl,bm,h1,h2⟩:=VA q;show (K.lookup C).map _=_;rw[h1];rfl
theorem lJ{v:Am}{i i':Ao Al}(q:DE K C i=Ab)(q':DE K C' i'=Ab)(su:BN K (.ref C) (.ref C')=Aa v):B5 K (.ref C) (.ref C')=Aa v:=by
 unfold B5;by_cases e:C=C'
 .subst e;obtain⟨cd,bm,h1,h2⟩:=N4 q;have kz:Cj K C (.ref C)=Aa v:=su;have:v=Ab:=by
   unfold Cj at kz;rw[h1,Ig,h2,Ay (by simp)]at kz
   rw[<-BB kz];simp
  rw[Au (by simp),this]
 .rw[Ay (λz=>e (JX (AF.mp z)))]
  obtain⟨cd,bm,h1,h2⟩:=N4 q';show (if ((Dx K C').isSome&&Dp K (.ref C')==Aa (.type "type"))=Ab then BN K (.ref C) (.ref C') else Af)=_
  rw[h1,rZ q',Au (by simp),su]
theorem uM(exc:DE K C v=Ab)(ga:At K (.ref C) "__getattribute__" = Aa (Aa (.builtin "BaseException.__getattribute__")))(gt:At K (.ref C) "__getattr__" = Aa Af)(cl:At K (.ref C) "__class__" = Aa (Aa (.builtin "object.__class__")))(ob:Cj K C (.type "object")=Aa Ab)(be:BN K (.ref C) (.type "BaseException")=Aa Ab)(sv:BN K (.ref C) (.type "ValueError")=Aa Ab):zk K C:=by
 obtain⟨cd,bm,h1,h2⟩:=N4 exc;refine⟨⟨v,exc⟩,ga,gt,cl,ob,be,by rw[h1];rfl,?_⟩
 unfold B5;rw[Ay (λz=>by cases AF.mp z)]
 have hm:Z_6 "ValueError" = Ab:=by decide+kernel
 show (if Z_6 "ValueError" = Ab then BN K (.ref C) (.type "ValueError") else Af)=_
 rw[Au hm,sv]
noncomputable abbrev JN:CXT:=λ_ _ _ _ _ _=>AN
structure w4 (P:AK) (w:AH) (K:Fg) (mg:Ah->Ao Al) (base:AI) (k:Ag) (f:Ak) (fd:Bj) (ps:Ac Ah) (sp:Sp):Prop where
 len:∀ vs H Q E,sp vs H Q E->vs.length=ps.length
 run:∀(A:A4)(ev:Ak)(outer:Ac B4)(s:Ar)(H:Hp)(args:Args)(us:Ac Al)(vs:Ac V)(Q:VK)(E:XK),U6 k A->yd P w K mg base (A.mark (Aa (.ref ev))) outer s H->GC s fd args (ps.zip us)->A1 vs us->sp vs H Q E ->
  EF (model P w) (A.mark (Aa (.ref ev))) (.call (.ref f) args) (CR JN outer P w H s Q E) s
theorem tB{mg:Ah->Ao Al}{base:AI}{f:Ak}{params:Mz}{body:Ac AL}{dV kV doc pm cdv ct oc:Al}{N ps:Ac Ah}(lk:K.lookup f=Aa ⟨oc,od,.func (B1 name qual params body scope dV kV doc pm an cdv ct),osl⟩)(zo:DD K cdv qual=Ab)(S:zx N ps scope)(len:∀ vs H Q E,sp vs H Q E->vs.length=ps.length)(wb:∀(A:A4)(ev:Ak)(outer:Ac B4)(s:Ar)(H:Hp)(vs:Ac V)(Q:VK)(E:XK),U6 k (A.deeper (D3 qual scope s.heap.objs.size f cdv))->sp vs H Q E ->
   ∃ t,ye (Cx.hot (B0 JN P w K mg base N qual scope f cdv A outer s H E) ev) body t/\t {nx:=λ_ H'=>Q .O H',rt:=Q} (start N vs) H):w4 P w K mg base (k+1) f (B1 name qual params body scope dV kV doc pm an cdv ct) ps sp:=by
 refine⟨len,λA ev outer s H args us vs Q E hr e0 hb r qt=>?_⟩
 have hl:=len _ _ _ _ qt;have e1:yd P w K mg base A outer s H:=⟨e0.frames,e0.mod,e0.bs,e0.bsz,e0.funs,e0.frf,e0.hok,e0.bare⟩;have KX:K.In s.heap:=e0.mod.kin.keeps λb o e=>(e0.bs b o e).1
 have lim:s.heap.NoLimit:=e0.mod.nolimit.keeps λb o e=>(e0.bs b o e).1
 have we:∀ y∈ps.zip us,scope.names.lookup y.1=Aa .local\/(scope.names.lookup y.1=Aa .cell/\((CN (s.heap.objs.size+1) scope.names []).lookup y.1).isSome=Ab):=λ⟨n,v⟩ hy=>by
  rcases S.par n (GN hy).1 with q|q
  .exact .inl q
  .exact .inr ⟨q,Gh _ _ _ (.inl q)⟩
 have hdp:(A.mark (Aa (.ref ev))).depth<Hg:=hr.depth;refine GF hdp (KX _ _ lk) rfl S.co S.gen rfl (Hz KX zo) (hb _ _ _ _ ?_);refine Fh S.kind we λenv he s1 x=>?_
 subst he;refine⟨lim.keeps x.toInCall.keep,Kc ?_⟩;obtain⟨t,ht,hq⟩:=wb A ev outer s H vs Q E (hr.deeper _) qt;have I:Z8 (B0 JN P w K mg base N qual scope f cdv A outer s H E) [] (start N vs) H s1:=PV S hr.hd e1 hl r x;refine Bk (ht [] s1 (start N vs) H _ (Qu I ev) hq) (λfl s' hs=>?_) λe s' hs=>hs.elim
 have fin:∀{Y':L2.St}{H':Hp}{v:V}{u:Al},Z8 (Cx.hot (B0 JN P w K mg base N qual scope f cdv A outer s H E) ev) [] Y' H' s'->Bs v u->Q v H'->CE outer P w H s Q u s':=
  λ{Y' H' v u} J rv q=>⟨v,H',J.os,J.bare,J.base,J.hok,rv,q⟩
 cases fl with
 |ret u=>
  obtain⟨v,Y',H',J,rv,q⟩:=hs;exact fin J rv q
 |next=>
  obtain⟨Y',H',J,q⟩:=hs;exact fin (v:=V.O) (u:=Du) J rfl q
 |brk=>
  obtain⟨_,_,_,q⟩:=hs;exact A7 q
 |cont=>
  obtain⟨_,_,_,q⟩:=hs;exact A7 q
theorem gN{v:Am}{i:Ao Al}(q:DE K C i=Ab)(mr:Cj K C' (.type "object")=Aa Ab)(ty:Dp K (.ref C')=Aa (.type "type"))(su:BN K (.ref C) (.ref C')=Aa v):B5 K (.ref C) (.ref C')=Aa v:=by
 unfold B5;by_cases e:C=C'
 .subst e;obtain⟨cd,bm,h1,h2⟩:=N4 q;have kz:Cj K C (.ref C)=Aa v:=su;have:v=Ab:=by
   unfold Cj at kz;rw[h1,Ig,h2,Ay (by simp)]at kz
   rw[<-BB kz];simp
  rw[Au (by simp),this]
 .rw[Ay (λz=>e (JX (AF.mp z)))]
  show (if ((Dx K C').isSome&&Dp K (.ref C')==Aa (.type "type"))=Ab then BN K (.ref C) (.ref C') else Af)=_
  have cs:(Dx K C').isSome=Ab:=by
   unfold Cj at mr;cases e1:Dx K C' with
   |none=>rw[e1]at mr;cases mr
   |some cd=>rfl
  rw[cs,ty,Au (by simp),su]
def spH(K:Fg)(CL:ClA)(n:Ag)(fr:Am)(F:Ac D->R D):Sp:=λvs H Q _=>∃(ds:Ac D)(A:Ak->Prop),vs.length=n/\Ty H A/\Z9 K CL H A vs ds/\(match F ds with
  |.ok d=>∀ v H',Az H H'->Cr K CL fr H A H' v d->Q v H'
  |.exn _=>AN
  | .bad=>AN)
section
variable{X:Cx}{CL:ClA}{ev:Ak}
theorem Uc{f:Ak}{ps:Ac Ah}{E:XK}{p pos:AE}{e:Aq}{es:Ac Aq}{t:TA}(F:w4 X.prog X.w X.K X.mg X.base k f fd ps sp)(hr:U6 k X.A)(hg:Gl X x)(hm:X.mg x=Aa (.ref f))(hk:Ba X.K (.ref f)=Ab)(hb:CW X.K fd ps [])(ha:PA (Cx.hot X ev) (e::es) t)(zq:(x==("__debug__" : Ah))=Ae)(he:Aw (e::es) X.env=(Ae,eval e X.env)::Aw es X.env)(zp:(Bv pos (Aw es X.env)).any (·.1)=Ae):PE (Cx.hot X ev) (.Call (.Name x p) (e::es) [] pos) (λY H Q=>t Y H λvs H1=>sp vs H1 Q E):=by
 intro pI s Y H Q I h;refine DJ (Jy (X:=Cx.hot X ev) I hg hm ?_ zq);refine DI (h₀:=X.base) I.ok.mod.kin hk (U5 (ha pos pI s Y H _ I h) λus s1 ⟨vs,H1,I1,r,q⟩=>⟨I1.kIn,?_⟩) he zp
 have hl:us.length=ps.length:=by rw[<-r.length];exact F.len _ _ _ _ q
 have û:GC s1 fd ⟨us,[]⟩ (ps.zip us):=by
  have:=hb s1 us I1.kIn (by rw[Bz];exact hl)
  rwa [Bz]at this
 refine F0 (EG (F.run X.A ev X.stack s1 H1 ⟨us,[]⟩ us vs Q E hr I1.env0 û r q) λr s' hq=>?_)
 cases r with
 |error e=>exact A7 hq
 |ok fl=>
  cases fl with
  |ret u=>exact I1.after hq
  |next=>exact A7 hq
  |brk=>exact A7 hq
  |cont=>exact A7 hq
theorem fR{k n:Ag}{fr:Am}{f:Ak}{ps:Ac Ah}{p pos:AE}{e:Aq}{es:Ac Aq}{fs ft:Rho->R (Ac D)}{sh:Rho->Am}(G:w4 X.prog X.w X.K X.mg X.base k f fd ps (spH X.K CL n fr F))(hr:U6 k X.A)(hg:Gl X x)(hm:X.mg x=Aa (.ref f))(hk:Ba X.K (.ref f)=Ab)(hb:CW X.K fd ps [])(ha:SA (Cx.hot X ev) CL (λ_ _=>AN) (e::es) fs)(hat:uf (Cx.hot X ev) CL (λ_ _=>AN) (e::es) ft)(yh:∀ U,sh U=Ab->ft U=fs U)(hn:∀ U ds,ft U=.ok ds->ds.length=n)(zq:(x==("__debug__" : Ah))=Ae)(he:Aw (e::es) X.env=(Ae,eval e X.env)::Aw es X.env)(zp:∀ pos,(Bv pos (Aw es X.env)).any (·.1)=Ae):SC (Cx.hot X ev) CL (λ_ _=>AN) fr (.Call (.Name x p) (e::es) [] pos) (λU=>(ft U).bind λds=>(F ds).bind λd=>if sh U=Ab then .ok d else if JL fr d=Ab then .ok d else .bad):=λA pI s Y H Q I ⟨hA,U,gd,q⟩=>by
 dsimp only at q;by_cases hs:sh U=Ab
 .rw[yh U hs]at q;refine Uc (E:=λ_ _ _=>AN) G hr hg hm hk hb (ha A) zq he (zp _) pI s Y H Q I ⟨hA,U,gd,?_⟩
  cases e1:fs U with
  |bad=>rw[e1]at q;exact q
  |exn y=>rw[e1]at q;exact q
  |ok ds=>
   rw[e1]at q;intro vs H1 s1 r1;refine⟨ds,A,by rw[r1.length];exact hn U ds (by rw[yh U hs];exact e1),hA.same s1,r1,?_⟩
   have q':AX (Cr X.K CL fr H A) (λ_ _=>AN) H ((F ds).bind λd=>if sh U=Ab then .ok d else if JL fr d=Ab then .ok d else .bad) Q:=q
   cases e2:F ds with
   |ok d=>
    rw[e2,R.bind_ok,Au hs]at q';exact λv H2 s2 r2=>q' v H2 (s1.trans s2) ⟨r2.1,λz um e'=>let ⟨a,xs,z1,z2,z3⟩:=r2.2 z um e';⟨a,xs,z1,s1.free z2,z3⟩⟩
   |exn y=>rw[e2]at q';exact(q' H (Az.refl H)).elim
   |bad=>rw[e2]at q';exact q'.elim
 .refine Uc (E:=λ_ _ _=>AN) G hr hg hm hk hb (hat A) zq he (zp _) pI s Y H Q I ⟨hA,U,gd,?_⟩
  cases e1:ft U with
  |bad=>rw[e1]at q;exact q
  |exn y=>rw[e1]at q;exact q
  |ok ds=>
   rw[e1]at q;intro vs H1 s1 r1;refine⟨ds,A0,by rw[r1.plain.length];exact hn U ds e1,λ_ z=>z.elim,r1.plain,?_⟩
   have q':AX (Cr X.K CL fr H A) (λ_ _=>AN) H ((F ds).bind λd=>if sh U=Ab then .ok d else if JL fr d=Ab then .ok d else .bad) Q:=q
   cases e2:F ds with
   |ok d=>
    rw[e2,R.bind_ok,Ay hs]at q';split at q'
    .rename_i hc;exact λv H2 s2 r2=>q' v H2 (s1.trans s2) (VE hA (s1.trans s2) hc ⟨r2.1,λz um e'=>let ⟨a,xs,z1,z2,z3⟩:=r2.2 z um e';⟨a,xs,z1,s1.free z2,z3⟩⟩)
    .exact q'.elim
   |exn y=>rw[e2]at q';exact(q' H (Az.refl H)).elim
   |bad=>rw[e2]at q';exact q'.elim
end
section
variable{M:Hu}{A:A4}{E:Vq}{s:Ar}{env:B4}{nm q:Ah}{C N:Ak}{bs bm bmB:Ac Al}{hdct:Am}{sn:Ac Ah}{sub:Ac Al}{ab:Am}{col:Ao Am}{dd:Ao Ak}{k0 k1 k2 k3 k5:Ao Al}{B newId zd:CP}
theorem jG{x:Fo Al}{Q:Flow->Ar->Prop}(hb:bm.contains (.type "BaseException")=Ab)(hh:A.handled=Af)(h:AA M A x (λv s'=>∃ e t dx,v=.ref e/\s'.heap.get? C=Aa (Cu nm q C N bs bm hdct sn sub ab col dd k0 k1 k2 k3 k5 newId)/\s'.heap.get? e=Aa (Gv C dx t)/\E (.ref e) s') E s):AA M A (raiseStmt env (Aa x) Af) Q E s:=by
 have hB:(Bm C::bm).contains (.type "BaseException")=Ab:=by rw[Hw,hb,J4]
 unfold raiseStmt;refine As (Bk h (λv s' z=>?_) λ_ _ z=>z)
 obtain⟨e,t,dx,rfl,gC,ge,hE⟩:=z;obtain⟨hp,g,d,tk,os⟩:=s';unfold Gv at ge
 repeat (first|(with_reducible refine Cb ge ?_)|(with_reducible refine Cb gC ?_)|(with_reducible refine Fp gC ?_;rw[hB])|wp_step)
 exact wpAny_raiseNew_none hh hE
end
section
variable{prog:AK}{w:AH}{A:A4}{E:Vq}{h:AI}{g:Bl Eo}{d:IB}{t:Ag}{os:BQ}
variable{nm q:Ah}{C N fI:Ak}{bs bm bmB:Ac Al}{hdct:Am}{sn:Ac Ah}{sub:Ac Al}{ab:Am}{col:Ao Am}{dd:Ao Ak}{k0 k1 k2 k3 k5:Ao Al}{B newId zd:CP}{mN:Ah->Ao Al}{rest:Ac Al}{oI:CZ}
theorem iG{Q:Fin->Ar->Prop}(F:Ih B newId zd bmB)(T:D2 h bmB bm)(gC:h.get? C=Aa (Cu nm q C N bs bm hdct sn sub ab col dd k0 k1 k2 k3 k5 newId))(hn:h.Ns N mN)(hi:mN "__init__" = Aa (.ref fI))(gI:h.get? fI=Aa oI)(cI:oI.cls=.type "function")(hl:rest.length<=sizeLine)(hq:∀ h' e,Jh h h' e (.ref C) rest->AA (model prog w) A (call (.ref fI) (.ref e::rest)) (λr s'=>r=.none/\Q (.done (.ret (.ref e))) s') E ⟨h',g,d,t,os⟩):AA (model prog w) A (Builtin.«type.__call__» ⟨.ref C::rest,[]⟩) Q E ⟨h,g,d,t,os⟩:=by
 repeat (first|(with_reducible refine Cb gC ?_)|(with_reducible refine wpAny_madeBy_exc gC ?_)|wp_step)
 refine codeAny_call_builtin_code (Hx _ F.quiet) (wpAny_check_new_subT F T gC (codeAny_exc_new_subT F T gC ?_ hl));show AA _ _ _ _ _ _;have kp:∀ b o,h.get? b=Aa o->((h.push { cls:=.type "tuple",data:=.seq rest.toArray }).push {cls:=.ref C,data:=.fields #[.ref h.objs.size,.none,.none,.none,.bool Ae,.none]}).get? b=Aa o:=λb o z=>AB _ (AB _ z)
 have ge:((h.push { cls:=.type "tuple",data:=.seq rest.toArray }).push {cls:=.ref C,data:=.fields #[.ref h.objs.size,.none,.none,.none,.bool Ae,.none]}).get? (h.objs.size+1)=Aa {cls:=.ref C,data:=.fields #[.ref h.objs.size,.none,.none,.none,.bool Ae,.none]}:=by heap_get
 have gt:((h.push { cls:=.type "tuple",data:=.seq rest.toArray }).push {cls:=.ref C,data:=.fields #[.ref h.objs.size,.none,.none,.none,.bool Ae,.none]}).get? h.objs.size=Aa { cls:=.type "tuple",data:=.seq rest.toArray }:=AB _ (Zz rfl rfl);generalize (h.push { cls:=.type "tuple",data:=.seq rest.toArray }).push {cls:=.ref C,data:=.fields #[.ref h.objs.size,.none,.none,.none,.bool Ae,.none]}=h2 at *;have gC2:=kp _ _ gC;have gI2:=kp _ _ gI;have gw:h2.Ns N mN:=let ⟨o,es,ep,z,r⟩:=hn;⟨o,es,ep,kp _ _ z,r⟩
 have T2:=T.keeps (h':=h2) kp;have cC:(Bm C::bm).contains (.ref C)=Ab:=by simp
 unfold Jt
 repeat (first|(with_reducible refine Cb ge ?_)|(with_reducible refine Fp gC2 ?_;rw[cC])|wp_step)
 show AA _ _ (typeLookup (.ref C) _) _ _ _;refine wpAny_typeLookup_tail gC2 gw T2 F.mroIs F.init.lookup ?_;rw[hi];refine Ck (As ?_);unfold bindSpecial;refine As (wpAny_typeOf (T := "function") ⟨_,gI2,cI⟩ ?_);rw[Au (by decide)]
 refine A2 (As (Bk (hq h2 (h.objs.size+1) ⟨kp,Dt (K3 _),h.objs.size,ge,Dt (AU _),gt⟩) (λr s' z=>?_) λ_ _ z=>z))
 obtain⟨rfl,z⟩:=z
 wp_walk
 exact z
theorem iH{Q:Vq}(F:Ih B newId zd bmB)(T:D2 h bmB bm)(gC:h.get? C=Aa (Cu nm q C N bs bm hdct sn sub ab col dd k0 k1 k2 k3 k5 newId))(hn:h.Ns N mN)(hi:mN "__init__" = Aa (.ref fI))(gI:h.get? fI=Aa oI)(cI:oI.cls=.type "function")(hl:rest.length<=sizeLine)(hq:∀ h' e,Jh h h' e (.ref C) rest->AA (model prog w) (A.under (.builtin "type.__call__" ⟨.ref C::rest,[]⟩)) (call (.ref fI) (.ref e::rest)) (λr s'=>r=.none/\Q (.ref e) s') E ⟨h',g,d,t,os⟩):AA (model prog w) A (call (.ref C) rest) Q E ⟨h,g,d,t,os⟩:=by
 have l1:=tc_lookup;have l2:=tc_bind (.ref C);have ty:(⟨h,g,d,t,os⟩:Ar).TypeIs (.ref C) "type" := ⟨_,gC,rfl⟩;refine F0 (codeAny_of_tree ?_);show AA _ _ (callAny (.ref C) _) _ _ _
 repeat (any_goals (first|assumption|(with_reducible refine Cb gC ?_)|wp_step))
 refine⟨rfl,codeAny_call_builtin_at (Hx _ (by decide+kernel)) entry_typeCall (wpAny_check_type_call_sub gC (iG F T gC hn hi gI cI hl λh' e m=>?_))⟩
 exact hq h' e m
end
section
variable{prog:AK}{w:AH}{A:A4}{E:Vq}{s:Ar}{env:B4}
variable{nm q:Ah}{C N fI:Ak}{bs bm bmB:Ac Al}{hdct:Am}{sn:Ac Ah}{sub:Ac Al}{ab:Am}{col:Ao Am}{dd:Ao Ak}{k0 k1 k2 k3 k5:Ao Al}{B newId zd:CP}{mN:Ah->Ao Al}
theorem fD{Q:Flow->Ar->Prop}{np cpos pos:AE}{args:Ac Aq}(F:Ih B newId zd bmB)(hb:bm.contains (.type "BaseException")=Ab)(hh:A.handled=Af)(hp:(Bv cpos (Aw args env)).any (·.1)=Ae)(hi:mN "__init__" = Aa (.ref fI))(h:AA (model prog w) A (eval (.Name x np) env) (λf s1=>f=.ref C/\AA (model prog w) A (evalArgs (.ref C) Ab (Bv cpos (Aw args env)) [])
   (λa s2=>a.kw=[]/\a.pos.length<=sizeLine/\s2.heap.get? C=Aa (Cu nm q C N bs bm hdct sn sub ab col dd k0 k1 k2 k3 k5 newId)/\s2.heap.Ns N mN/\D2 s2.heap bmB bm/\(∃ oI,s2.heap.get? fI=Aa oI/\oI.cls=.type "function") /\
    ∀ h' e,Jh s2.heap h' e (.ref C) a.pos->AA (model prog w) (A.under (.builtin "type.__call__" ⟨.ref C::a.pos,[]⟩)) (call (.ref fI) (.ref e::a.pos)) (λr s'=>r=.none/\∃ t dx,s'.heap.get? C=Aa (Cu nm q C N bs bm hdct sn sub ab col dd k0 k1 k2 k3 k5 newId)/\s'.heap.get? e=Aa (Gv C dx t)/\E (.ref e) s') E {s2 with heap:=h'}) E s1) E s):AA (model prog w) A (exec (.Raise (Aa (.Call (.Name x np) args [] cpos)) Af pos) env) Q E s:=by
 rw[arm_exec_Raise]
 try simp only[evalOpt,Option.map]
 refine As (CT (jG (nm:=nm) (q:=q) (C:=C) (N:=N) (bs:=bs) (bm:=bm) (hdct:=hdct) (sn:=sn) (sub:=sub) (ab:=ab) (col:=col) (dd:=dd) (k0:=k0) (k1:=k1) (k2:=k2) (k3:=k3) (k5:=k5) (newId:=newId) hb hh ?_));refine As (Bk (wpAny_Call_ofName (Bk h (λf s1 z=>?_) λ_ _ z=>z)) (λv s3 z=>As (CT (A2 z))) λ_ _ z=>z)
 obtain⟨rfl,z⟩:=z;unfold callWith;refine As (Ck (Bk z (λa s2 y=>As (CT ?_)) λ_ _ y=>y))
 obtain⟨us,kw⟩:=a;obtain⟨hk,hl,gC,hn,T,⟨oI,gI,cI⟩,k⟩:=y;obtain rfl:kw=[]:=hk;obtain⟨z9,g,d,tk,os⟩:=s2;simp only[hp];refine As (wpAny_keeperOf_exc gC (As (iH F T gC hn hi gI cI hl λh' e m=>Bk (k h' e m) (λr s' y=>?_) λ_ _ y=>y)))
 obtain⟨rfl,t,dx,c1,c2,c3⟩:=y;exact⟨rfl,As (Ck (wpAny_point (A2 ⟨e,t,dx,rfl,c1,c2,c3⟩)))⟩
end
section
variable{prog:AK}{w:AH}{A:A4}{E:Vq}{h:AI}{g:Bl Eo}{d:IB}{nn:Ag}{os:BQ}
variable{nm q:Ah}{C N e t:Ak}{dx:Ao Ak}{bs bm bmB:Ac Al}{hdct:Am}{sn:Ac Ah}{sub:Ac Al}{ab:Am}{col:Ao Am}{dd:Ao Ak}{k0 k1 k2 k3 k5:Ao Al}{B newId zd:CP}
theorem pL{Q:Vq}(F:Ih B newId zd bmB)(T:D2 h bmB bm)(gC:h.get? C=Aa (Cu nm q C N bs bm hdct sn sub ab col dd k0 k1 k2 k3 k5 newId))(ge:h.get? e=Aa (Gv C dx t))(hq:∀ h' t',(∀ b o,b≠e->h.get? b=Aa o->h'.get? b=Aa o)->h'.get? e=Aa (Gv C dx t')->Q .none ⟨h',g,d,nn,os⟩):AA (model prog w) A (call (.builtin zd) [.ref e,.str z tk]) Q E ⟨h,g,d,nn,os⟩:=by
 refine F0 (DZ F.init.plain F.initEntry (wpAny_check_init_subT F T gC ge rfl ?_));unfold Gv at ge
 wp_walk
 refine hq _ h.objs.size (λb o nb z=>(De _ _ (CF nb)).trans (AB _ z)) ?_
 rw[DO _ (AB _ ge) rfl];rfl
end
noncomputable def lc:Ag->Ag
 |0=>4
 |n+1=>8*lc n+19
theorem Vg:∀ n:Fin 100,(Aj (toString ((n.val:Ag):Ai))).length<=4:=by decide+kernel
theorem Vo{α:Type}(f:α->Ag){m:Ag}:∀ l:Ac α,(∀ x∈l,f x<=m)->(l.map f).sum<=l.length*m
 |[],_=>by simp
 |x::l,h=>by
  have h1:=h x AY;have h2:=Vo f l λy hy=>h y (AD _ hy)
  rw[BM,List.sum_cons,Bi,Nat.succ_mul];omega
section
variable{X:Cx}{CL:ClA}{pI:Pn}{Y:L2.St}{H:Hp}{s:Ar}
structure Shw (h:AI) (n:Ag) (u:Al) (pd:LJ):Prop where
 rd:Reads h u pd []
 sh:pd.showable=Ab
 nd:pd.hasDict=Ae
 dp:pd.depth<=n
 ln:pd.shown.length<=lc n
inductive qe (h:AI) (n:Ag):Ac Al->Ac LJ->Prop where
 |nil:qe h n [] []
 |cons {u:Al} {pd:LJ} {us:Ac Al} {pds:Ac LJ}:Shw h n u pd->qe h n us pds->qe h n (u::us) (pd::pds)
theorem UU{h:AI}{n:Ag}:∀{us:Ac Al}{pds:Ac LJ},qe h n us pds->ReadsAll h us pds []/\ZF pds=Ab/\ZE pds=Ae/\IC pds<=n/\(∀ t∈DP pds,t.length<=lc n)/\(DP pds).length=us.length
 |[],[],_=>⟨.nil,rfl,rfl,Ds _,(λ_ h=>nomatch h),rfl⟩
 |u::us,pd::pds,.cons h1 h2=>by
  obtain⟨a,b,c,d,e,f⟩:=UU h2;refine⟨.cons h1.rd a,?_,?_,?_,?_,?_⟩
  .show (pd.showable&&ZF pds)=Ab;rw[h1.sh,b];rfl
  .show (pd.hasDict||ZE pds)=Ae;rw[h1.nd,c];rfl
  .show max pd.depth (IC pds)<=n;exact Nat.max_le.mpr ⟨h1.dp,d⟩
  .intro t ht;rcases A6.mp ht with rfl|ht
   .exact h1.ln
   .exact e t ht
  .show (DP pds).length+1=us.length+1;rw[f]
theorem uN(I:Z8 X pI Y H s):∀(n:Ag){d:D}{v:V}{u:Al},wt n d=Ab->Z7 X.K CL H A v d->Bs v u->∃ pd,Shw s.heap n u pd:=by
 intro n
 induction n with
 |zero=>
  intro d v u hx r rv;cases d with
  |int i=>
   have e:v=.int i:=r;subst e;obtain⟨t,rfl⟩:=rv;simp only[wt,An,AM]at hx;refine⟨.int i,.int i t,?_,rfl,AU _,?_⟩
   .show decide (i.natAbs.log2<1920)=Ab;refine CG (FG (Go _) (by omega))
   .have:=Vg ⟨i.toNat,by omega⟩
    rwa [show ((i.toNat:Ag):Ai)=i by omega]at this
  |_=>exact absurd (show Ae=Ab from hx) Ax
 |succ n ih0=>
  intro d v u hx r rv;cases d with
  |H ds=>
   obtain⟨a,xs,rfl,_,sq,rs⟩:=r;cases rv;obtain⟨its,vs,⟨o,ho,hc,m,hd⟩,hz⟩:=I.tuple sq;simp only[wt,An,Bh]at hx;have key:∀{xs:Ac V}{ds:Ac D}{its:Ac Al},(∀ d∈ds,wt n d=Ab)->Z9 X.K CL H A xs ds->A1 xs its->∃ pds,qe s.heap n its pds:=λ{xs}=>by
    induction xs with
    |nil=>
     intro ds its _ rs vs;cases vs;exact⟨[],.nil⟩
    |cons x xs ih=>
     intro ds its hd rs vs;cases ds with
     |nil=>exact rs.elim
     |cons d ds=>
      cases vs with
      |cons v1 v2=>
       obtain⟨pd,h1⟩:=ih0 (hd d AY) rs.1 v1;obtain⟨pds,h2⟩:=ih (λe he=>hd e (AD _ he)) rs.2 v2
       exact⟨pd::pds,.cons h1 h2⟩
   obtain⟨pds,hf⟩:=key hx.2 rs vs;obtain⟨p1,p2,p3,p4,p5,p6⟩:=UU hf;have l8:its.length<=8:=by
    have h8:=Nat.ble_eq.mp hx.1;rw[<-vs.length,rs.length];exact h8
   refine⟨.tuple pds,.tuple ho hc hd (by simpa using p1),p2,p3,?_,?_⟩
   .show IC pds+1<=n+1;omega
   .show (tupleText (DP pds)).length<=8*lc n+19;have h1:=tupleText_len_le (DP pds);have h2:=Vo (λt:Ah=>t.length) (DP pds) p5
    have h3:(DP pds).length*lc n<=8*lc n:=Nat.mul_le_mul_right _ (by omega)
    omega
  |_=>exact absurd (show Ae=Ab from hx) Ax
end
section
variable{X:Cx}{CL:ClA}
def tFs(K:Fg)(CL:ClA)(i:Ag):TE:=λY H Q=>∃ v d A n,Y[i]?=Aa (Aa v)/\Z7 K CL H A v d/\wt n d=Ab/\n<=2/\∀ t:Ah,Q (.str t) H
def tFm(K:Fg)(CL:ClA)(i:Ag):TE:=λY H Q=>∃ v d A n,Y[i]?=Aa (Aa v)/\Z7 K CL H A v d/\wt n d=Ab/\n<=2/\∀ t:Ah,t.length<=500->Q (.str t) H
theorem V7{e:Aq}{i:Ag}(hu:X.A.units+64<BD)(hg:X.A.guards=Aa [])(he:PE X e (Ch i)):PE X (.FormattedValue e (-1) Af p1) (tFm X.K CL i):=by
 intro pI s Y H Q I ⟨v,d,A,n,hv,r,hx,hn,q⟩;refine wpAny_FormattedValue_plain (U5 (he pI s Y H (λx H1=>x=v/\H1=H) I ⟨v,hv,rfl,rfl⟩) λu s1 ⟨x,H1,I1,r1,e1,e2⟩=>?_)
 subst e1 e2;have zl:sizeLine ≥ 2000:=by decide
 obtain⟨pd,sw⟩:=uN I1 n hx r r1;have ar:n=0\/n=1\/n=2:=by omega
 have xb:lc n<=500:=by rcases ar with rfl|rfl|rfl<;>decide
 have ln:=sw.ln;have dp:=sw.dp;cases d with
 |int j=>
  have e:x=.int j:=r;subst e;obtain⟨t,rfl⟩:=r1;cases n with
  |zero=>
   have hx':(decide (0<=j)&&decide (j<100))=Ab:=hx;rw[An,AM,AM]at hx';have il:=Vg ⟨j.toNat,by omega⟩
   rw[show ((j.toNat:Ag):Ai)=j by omega]at il
   exact formatField_int_small (FG (Go _) (by omega)) ⟨.str _,H1,I1.tok _,⟨_,rfl⟩,q _ (B8 il (by omega))⟩
  |succ n=>cases hx
 |H ds=>
  obtain⟨a,xs,rfl,_,sq,rs⟩:=r;cases r1;refine formatField_of_reads sw.rd sw.sh (λz=>by rw[sw.nd]at z;cases z) hg (by omega) (λ_ _ z=>z) (λh' tk1 Ù kp=>?_) (by omega)
  exact⟨.str pd.shown,H1,I1.kept kp,⟨_,rfl⟩,q _ (by omega)⟩
 |_=>cases n<;>cases hx
theorem lQ{e:Aq}{i:Ag}(hu:X.A.units+64<BD)(hg:X.A.guards=Aa [])(hz:z.length<=1000)(he:PE X e (Ch i)):PE X (.JoinedStr [.FormattedValue e (-1) Af p1,.Constant (.str z) k p2] p3) (tFs X.K CL i):=by
 intro pI s Y H Q I ⟨v,d,A,n,hv,r,hx,hn,q⟩;have zl:sizeLine ≥ 2000:=by decide
 refine aJ ?_;show AA (model X.prog X.w) X.A (eval (.FormattedValue e (-1) Af p1) X.env) (λv s1=>∃ y t,v=.str y t/\(Do++y).length<=sizeLine/\Joins (model X.prog X.w) X.A X.xe [eval (.Constant (.str z) k p2) X.env] (Do++y) _ s1) X.xe s
 refine U5 (V7 (CL:=CL) hu hg he pI s Y H (λx H1=>∃ y:Ah,x=.str y/\y.length<=500/\H1=H) I ⟨v,d,A,n,hv,r,hx,hn,λt ht=>⟨t,rfl,ht,rfl⟩⟩) λu s1 ⟨x,H1,I1,r1,y,e1,hy,e2⟩=>?_
 subst e1 e2;obtain⟨t1,rfl⟩:=r1;have l0:(Do++y).length<=500:=by
  rw[Gm];have:Do.length=0:=rfl;omega
 refine⟨y,t1,rfl,by omega,?_⟩
 show AA (model X.prog X.w) X.A (eval (.Constant (.str z) k p2) X.env) _ X.xe s1;refine U5 (KH (X:=X) pI _ Y H1 (λx H2=>x=.str z/\H2=H1) I1 ⟨rfl,rfl⟩) λu2 s2 ⟨x2,H2,I3,r3,e3,e4⟩=>?_
 subst e3 e4;obtain⟨t3,rfl⟩:=r3;have l1:(Do++y++z).length<=sizeLine:=by
  rw[Gm];omega
 exact⟨z,t3,rfl,l1,l1,⟨.str _,H2,I3.tok _,⟨_,rfl⟩,q _⟩⟩
theorem eS{e:Aq}{i:Ag}{z':Ah}{k':Ag}{p0:AE}(hu:X.A.units+64<BD)(hg:X.A.guards=Aa [])(bh:z'.length<=400)(hz:z.length<=1000)(he:PE X e (Ch i)):PE X (.JoinedStr [.Constant (.str z') k' p0,.FormattedValue e (-1) Af p1,.Constant (.str z) k p2] p3) (tFs X.K CL i):=by
 intro pI s Y H Q I ⟨v,d,A,n,hv,r,hx,hn,q⟩;have zl:sizeLine ≥ 2000:=by decide
 refine aJ ?_;show AA (model X.prog X.w) X.A (eval (.Constant (.str z') k' p0) X.env) (λv s1=>∃ y t,v=.str y t/\(Do++y).length<=sizeLine/\Joins (model X.prog X.w) X.A X.xe [eval (.FormattedValue e (-1) Af p1) X.env,eval (.Constant (.str z) k p2) X.env] (Do++y) _ s1) X.xe s
 refine U5 (KH (X:=X) pI _ Y H (λx H2=>x=.str z'/\H2=H) I ⟨rfl,rfl⟩) λu0 s0 ⟨x0,H0,I0,r0,e0,e00⟩=>?_
 subst e0 e00;obtain⟨t0,rfl⟩:=r0;have le:(Do++z').length<=400:=by
  rw[Gm];have:Do.length=0:=rfl;omega
 refine⟨z',t0,rfl,by omega,?_⟩
 show AA (model X.prog X.w) X.A (eval (.FormattedValue e (-1) Af p1) X.env) _ X.xe s0;refine U5 (V7 (CL:=CL) hu hg he pI s0 Y H0 (λx H1=>∃ y:Ah,x=.str y/\y.length<=500/\H1=H0) I0 ⟨v,d,A,n,hv,r,hx,hn,λt ht=>⟨t,rfl,ht,rfl⟩⟩) λu s1 ⟨x,H1,I1,r1,y,e1,hy,e2⟩=>?_
 subst e1 e2;obtain⟨t1,rfl⟩:=r1;have l0:(Do++z'++y).length<=900:=by
  rw[Gm];omega
 refine⟨y,t1,rfl,by omega,?_⟩
 show AA (model X.prog X.w) X.A (eval (.Constant (.str z) k p2) X.env) _ X.xe s1;refine U5 (KH (X:=X) pI _ Y H1 (λx H2=>x=.str z/\H2=H1) I1 ⟨rfl,rfl⟩) λu2 s2 ⟨x2,H2,I3,r3,e3,e4⟩=>?_
 subst e3 e4;obtain⟨t3,rfl⟩:=r3;have l1:(Do++z'++y++z).length<=sizeLine:=by
  rw[Gm];omega
 exact⟨z,t3,rfl,l1,l1,⟨.str _,H2,I3.tok _,⟨_,rfl⟩,q _⟩⟩
structure uc (par:Ah) (j:Aq):Prop where
 st:∀ env,Aw [j] env=[(Ae,eval j env)]
 pe:∀(X:Cx)(CL:ClA)(i:Ag),X.A.units+64<BD->X.A.guards=Aa []->(∀ p,PE X (.Name par p) (Ch i))->PE X j (tFs X.K CL i)
theorem tG(hz:z.length<=1000):uc par (.JoinedStr [.FormattedValue (.Name par p1) (-1) Af p2,.Constant (.str z) k p3] p4):=⟨λ_=>rfl,λ_ _ _ hu hg he=>lQ hu hg hz (he _)⟩
theorem gY{z':Ah}{k':Ag}{p0:AE}(bh:z'.length<=400)(hz:z.length<=1000):uc par (.JoinedStr [.Constant (.str z') k' p0,.FormattedValue (.Name par p1) (-1) Af p2,.Constant (.str z) k p3] p4):=⟨λ_=>rfl,λ_ _ _ hu hg he=>eS hu hg bh hz (he _)⟩
end
def wm(e C:Ak)(dx:Ao Ak)(t:Ak):AI->Prop:=λh=>h.get? e=Aa (Gv C dx t)
theorem QE{e C:Ak}{t:Ak}:∀ h1 h2:AI,wm e C dx t h1->(∀ o,h1.get? e=Aa o->h2.get? e=Aa o)->wm e C dx t h2:=λ_ _ p k=>k _ p
section
variable{X:Cx}{CL:ClA}{C:Ak}{nm q:Ah}{N:Ak}{bs bm:Ac Al}{hdct:Am}{sn:Ac Ah}{sub:Ac Al}{ab:Am}{col:Ao Am}{dd:Ao Ak}{k0 k1 k2 k3 k5:Ao Al}
theorem eQ{g:Ah}{np apos cpos:AE}{es ej:Aq}{i j:Ag}(uh:∀ h:AI,X.K.In h->h.get? C=Aa (Cu nm q C N bs bm hdct sn sub ab col dd k0 k1 k2 k3 k5 "ValueError.__new__")/\D2 h rq bm)(hg:Gl X g)(hm:X.mg g=Aa (.ref OV))(zq:(g==("__debug__" : Ah))=Ae)(s1:C3 X.K (.ref OV) "__getattribute__" = Aa (Aa (.builtin "type.__getattribute__")))(s2:FC X.K OV (.type "type")=Ab)(s3:FB X.K (.ref OV) (.type "type") "__init__" = Aa (.val (.builtin "ValueError.__init__")))(My:(apos.endLine==cpos.line)=Ab)(he:PE X es (Ch i))(hj:PE X ej (tFs X.K CL j))(sA:Aw [es,ej] X.env=(Ae,eval es X.env)::Aw [ej] X.env)(sB:Aw [ej] X.env=[(Ae,eval ej X.env)]):
  PE X (.Call (.Attribute (.Name g np) "__init__" apos) [es,ej] [] cpos) (λY H Q=>∃ e dx t v d A n,Y[i]?=Aa (Aa (.ref e))/\H e=Aa (.ext (wm e C dx t))/\Y[j]?=Aa (Aa v)/\Z7 X.K CL H A v d/\wt n d=Ab/\n<=2/\∀ t',Q .O (upd H e (.ext (wm e C dx t')))):=by
 have st1:Aw [es,ej] X.env=[(Ae,eval es X.env),(Ae,eval ej X.env)]:=by rw[sA,sB]
 intro pI s Y H Q I ⟨e,dx,t,v,d,A,n,h1,h2,h3,r,hx,hn,hq⟩;rw[Gk];refine As (show AA (model X.prog X.w) X.A (eval (.Name g np) X.env) _ X.xe s from Jy I hg hm ?_ zq)
 refine As (CT ?_);have form:FX ([es,ej].length+([]:Ac CV).length) (Bv cpos (Aw [es,ej] X.env)) (EU cpos (DG [] X.env))=Ab:=by
  rw[st1];rfl
 have mpos:Dm Ab (.Name g np) X.env apos cpos=pure cpos:=by
  unfold Dm;simp[My]
 unfold HW;rw[form];refine As (Ck (PySem.W.method_cls I.kIn s1 (PySem.W.cls_value I.kIn s2 s3 rfl ?_)));refine As (Gi mpos ?_);have I1:=I.tok (s.toks+1);have pa:PA X [es,ej] _:=Bw he (Bw hj Cf sB) sA;have hA:=pa cpos pI {s with toks:=s.toks+1} Y H (λxs H'=>H'=H/\∃ z,xs=[.ref e,.str z]) I1 ⟨_,h1,⟨v,d,A,n,h3,r,hx,hn,λz=>⟨rfl,z,rfl⟩⟩⟩
 rw[st1]at hA ⊢;refine Gf rfl (ET (U5 hA λus s2 ⟨xs,H2,I2,rv,e2,z,ex⟩=>?_))
 subst e2 ex;obtain⟨u1,u2,rfl,rh,ua⟩:=Lh rv;cases rh;obtain⟨tk,rfl⟩:=ua;obtain⟨gC,T⟩:=uh _ I2.kIn;have ge:wm e C dx t s2.heap:=(I2.hok e _ h2).1;obtain⟨hp,g2,d2,Ù,os2⟩:=s2;refine pL Fb T gC ge λh' t' kp uo=>?_
 refine⟨.O,_,I2.write (x:=e) (e:=e) (o:=.ext (wm e C dx t')) (t':=Ù) (by rw[h2];exact trivial) (.inl rfl) kp ⟨_,uo⟩ ⟨uo,⟨_,uo⟩,QE⟩,rfl,hq t'⟩
end
theorem bN{bmB bm:Ac Al}(T:D2 h bmB bm){self:Al}{d7:Ah}(hb:refuseLoop self d7 bmB=pure ()):refuseLoop self d7 bm=pure ():=by
 induction T with
 |base=>exact hb
 |own _ _ _ _ ih=>rw[aH];exact ih
section
variable{prog:AK}{w:AH}{A:A4}{E:Vq}{h:AI}{g:Bl Eo}{d:IB}{nn:Ag}{os:BQ}{K:Fg}
variable{nm q:Ah}{C N e t:Ak}{bs bm bmB:Ac Al}{sn:Ac Ah}{sub:Ac Al}{ab:Am}{col:Ao Am}{dd:Ao Ak}{k0 k1 k2 k3 k5:Ao Al}{B newId sa owner:CP}
theorem hZ{Q:Fin->Ar->Prop}{v:Al}(X:K.In h)(SF:LL B bmB sa owner)(T:D2 h bmB bm)(gC:h.get? C=Aa (Cu nm q C N bs bm Ab sn sub ab col dd k0 k1 k2 k3 k5 newId))(hf:At K (.ref C) name=Aa Af)(ge:h.get? e=Aa (Gv C Af t))(hq:∀ h' dx lb,(∀ b o,b≠e->h.get? b=Aa o->h'.get? b=Aa o)->h'.get? e=Aa (Gv C (Aa dx) t)->h.get? dx=Af->h'.Ns1 dx (λy=>if y=name then Aa v else Af)->Q (.done (.ret .none)) ⟨h',g,d,lb,os⟩):AA (model prog w) A (Builtin.«object.__setattr__» ⟨[.ref e,.str name tk,v],[]⟩) Q E ⟨h,g,d,nn,os⟩:=by
  have pass:=bN T (SF.passes (.ref e));have L1:=Cp (M:=model prog w) X hf;obtain⟨o,ho⟩:∃ o,Gv C Af t=o:=⟨_,rfl⟩;rw[ho]at ge;have oc:o.cls=.ref C:=by rw[<-ho];rfl
  unfold Builtin.«object.__setattr__»
  repeat (first|rw[refuse_eq]|(rw[aH,pass])|(with_reducible refine Cb ge ?_;rw[oc])|(with_reducible refine wpAny_mroOf_exc gC ?_)|(with_reducible refine L1.at ?_)|(with_reducible refine As (L1.at ?_))|wp_step)
  have od:o.dict=Af:=by rw[<-ho];rfl
  have odt:o.data=.fields #[.ref t,.none,.none,.none,.bool Ae,.none]:=by rw[<-ho];rfl
  rw[od,odt,Ay (by simp[typeHasDict])]
  let D:CZ:={ cls:=.type "dict",data:=.dict #[] }
  have g1:(h.push D).get? e=Aa o:=AB _ ge;have ne:e≠h.objs.size:=BA (AS ge);refine As (wpAny_alloc' ?_);refine As (wpAny_update' g1 ?_);refine A2 ?_
  let U_:CZ->CZ:=λo=>{cls:=o.cls,dict:=Aa h.objs.size,data:=o.data,slots:=o.slots}
  have gD:((h.push D).update e U_).get? h.objs.size=Aa D:=(ZA _ _ _ _ ne.symm).trans (Zz rfl rfl);have nD:((h.push D).update e U_).Ns h.objs.size (λ_=>Af):=⟨_,#[],_,gD,rfl,λz hz=>absurd hz (by simp),λ_=>rfl⟩
  change AA _ _ (YO h.objs.size (.str name tk) name v) _ _ _;unfold YO Builtin.ObjectAttr.newKeyGuard;refine As (A2 (As (wpAny_nsSet1 (Zx nD) λk hk hs=>?_)))
  obtain⟨oD,eD,pD,q1,q2,q3⟩:=hk.count (Within.cons name v Within.nil);have le:oD.data.pastItsLine=Af:=by
    rw[q2];refine aF (B8 q3 ?_);rw[Bi,Yr,By];omega
  refine As (aP q1 le ?_)
  wp_walk
  refine hq k h.objs.size _ (λb ob nb hb=>?_) ?_ (Dt (AU _)) hk
  · rw[hs.2 b (BA (AS hb)),ZA _ _ _ _ nb];exact AB _ hb
  · rw[hs.2 e ne];have:Aa (Gv C (Aa h.objs.size) t)=Aa (U_ o):=by rw[<-ho];rfl
    rw[this];exact DO _ g1 (by rw[<-ho];rfl)
end
section
variable{prog:AK}{w:AH}{A:A4}{E:Vq}{h:AI}{g:Bl Eo}{d:IB}{nn:Ag}{os:BQ}{K:Fg}
variable{nm q:Ah}{C N e t:Ak}{bs bm bmB:Ac Al}{sn:Ac Ah}{sub:Ac Al}{ab:Am}{col:Ao Am}{dd:Ao Ak}{k0 k1 k2 k3 k5:Ao Al}{B newId sa owner:CP}
theorem iA{o:CZ}{a b:Al}(SF:LL B bmB sa owner)(T:D2 h bmB bm)(gC:h.get? C=Aa (Cu nm q C N bs bm Ab sn sub ab col dd k0 k1 k2 k3 k5 newId))(ge:h.get? e=Aa o)(hc:o.cls=.ref C)(hq:Q () ⟨h,g,d,nn,os⟩):AA M A (Gr sa ⟨[.ref e,a,b],[]⟩) Q E ⟨h,g,d,nn,os⟩:=by
 have hb:(Bm C::bm).contains (.type owner)=Ab:=by rw[Hw,T.hasType SF.hasOwner,J4]
 have ha:=SF.args (.ref e) a b;simp only[Gr,SF.kind,SF.split];refine As ?_;unfold Jt
 repeat (first|(with_reducible refine Cb ge ?_;rw[hc])|(with_reducible refine Fp gC ?_;rw[hb])|wp_step)
 unfold argsOk at ha;split
 .rename_i sig hs;rw[hs]at ha;refine Gi ha ?_;exact hq
 .exact A2 hq
theorem pK{v:Al}(X:K.In h)(SF:LL B bmB sa owner)(T:D2 h bmB bm)(gC:h.get? C=Aa (Cu nm q C N bs bm Ab sn sub ab col dd k0 k1 k2 k3 k5 newId))(hf:At K (.ref C) name=Aa Af)(hs:At K (.ref C) "__setattr__" = Aa (Aa (.builtin sa)))(ge:h.get? e=Aa (Gv C Af t))(hq:∀ h' dx lb,(∀ b o,b≠e->h.get? b=Aa o->h'.get? b=Aa o)->h'.get? e=Aa (Gv C (Aa dx) t)->h.get? dx=Af->h'.Ns1 dx (λy=>if y=name then Aa v else Af)->Q () ⟨h',g,d,lb,os⟩):AA (model prog w) A (LP (.ref e) name v) Q E ⟨h,g,d,nn,os⟩:=by
 have f3:=SF.slot.bind (.ref e);have L1:=Cp (M:=model prog w) X hs;obtain⟨o,ho⟩:∃ o,Gv C Af t=o:=⟨_,rfl⟩;have oc:o.cls=.ref C:=by rw[<-ho];rfl
 have uo:=ge;rw[ho]at uo;unfold LP callSpecial? specialOf
 repeat (any_goals (first|assumption|(with_reducible refine Cb uo ?_;rw[oc])|(with_reducible refine As (L1.at ?_))|(with_reducible refine L1.at ?_)|wp_step))
 refine DZ SF.slot.plain SF.entry (iA SF T gC uo oc (hZ X SF T gC hf ge λh' dx lb k1 k2 k3 k4=>?_))
 repeat (any_goals (first|assumption|wp_step))
 exact hq h' dx lb k1 k2 k3 k4
end
section
variable{X:Cx}{pI:Pn}{Y:L2.St}{H:Hp}{s:Ar}{e:Ak}
theorem Vf{o:HO}(I:Z8 X pI Y H s)(ha:HQ X pI e)(hH:H e=Af)(ho:ObjOk X.prog X.w (upd H e o) s.heap e o):Z8 X pI Y (upd H e o) s:=by
 have ne:∀ b o,H b=Aa o->b≠e:=λb o q z=>by rw[z,hH]at q;cases q
 refine⟨I.ok,I.os,I.bare,⟨I.base.keep,I.base.slot,λb o q n hb=>?_,I.base.there,λb xs q=>?_,λb o u q=>?_,λb ps q=>?_⟩,I.loc,I.cell,?_,λx c q=>?_,λp hp=>?_,λb o q=>?_,I.len⟩
 .rw[AQ λz=>by rw[z,ha.2.2.2]at q;cases q]
  exact I.base.free b o q n hb
 .have:=I.base.tups b xs q;rw[AQ (ne _ _ this)];exact this
 .have:=I.base.frzs b o u q;rw[AQ (ne _ _ this)];exact this
 .obtain⟨more,this⟩:=I.base.tbls b ps q;exact⟨more,by rw[AQ (ne _ _ this)];exact this⟩
 .rw[AQ λz=>ha.1 z.symm];exact I.free
 .rw[AQ (ha.2.1 x c q)];exact I.freeC x c q
 .obtain⟨q,n,r⟩:=I.pin p hp;exact⟨q,by rw[AQ (ha.2.2.1 p hp)];exact n,r⟩
 .by_cases hb:b=e
  .subst hb;rw[BK]at q;cases q;exact ho
  .rw[AQ hb]at q;exact(I.hok b o q).stay (λc v hc z=>z) (λc z=>by rw[AQ (ne _ _ z)];exact z) λc zs z=>by rw[AQ (ne _ _ z)];exact z
theorem gP(I:Z8 X pI Y H s)(hH:H e=Aa (.ext φ))(h0:X.s₀.heap.get? e=Af)(h1:X.ex=[]->F7):Z8 X pI Y (λb=>if b=e then Af else H b) s:=by
 have get:∀ b o,(if b=e then Af else H b)=Aa o->b≠e/\H b=Aa o:=λb o q=>by
  by_cases z:b=e
  .rw[Au z]at q;cases q
  .rw[Ay z]at q;exact⟨z,q⟩
 have put:∀ b o,H b=Aa o->o≠.ext φ->(if b=e then Af else H b)=Aa o:=λb o q n=>by
  by_cases z:b=e
  .rw[z,hH]at q;cases q;exact absurd rfl n
  .rw[Ay z];exact q
 have Â:∀ b,H b=Af->(if b=e then Af else H b)=Af:=λb q=>by
  by_cases z:b=e
  .rw[Au z]
  .rw[Ay z];exact q
 refine⟨I.ok,I.os,I.bare,⟨λb o q n hb hx=>?_,I.base.slot,λb o q n hb=>?_,I.base.there,λb xs q=>?_,λb o u q=>?_,λb ps q=>?_⟩,I.loc,I.cell,Â _ I.free,λx c q=>Â _ (I.freeC x c q),λp hp=>?_,λb o q=>?_,I.len⟩
 .exact I.base.keep b o q n hb hx
 .exact Â b (I.base.free b o q n hb)
 .exact put b _ (I.base.tups b xs q) (by intro z;cases z)
 .exact put b _ (I.base.frzs b o u q) (by intro z;cases z)
 .obtain⟨more,this⟩:=I.base.tbls b ps q;exact⟨more,put b _ this (by intro z;cases z)⟩
 .obtain⟨q,n,r⟩:=I.pin p hp;exact⟨q,Â _ n,r⟩
 .obtain⟨nb,q⟩:=get b o q;exact(I.hok b o q).stay (λc v hc z=>z) (λc z=>put c _ z (by intro z;cases z)) λc zs z=>put c _ z (by intro z;cases z)
end
section
variable{X:Cx}{C:Ak}{nm q:Ah}{N:Ak}{bs bm:Ac Al}{sn:Ac Ah}{sub:Ac Al}{ab:Am}{col:Ao Am}{dd:Ao Ak}{k0 k1 k2 k3 k5:Ao Al}
theorem iO{i j:Ag}{f:Ah}{eo:Aq}(uh:∀ h:AI,X.K.In h->h.get? C=Aa (Cu nm q C N bs bm Ab sn sub ab col dd k0 k1 k2 k3 k5 "ValueError.__new__")/\D2 h rq bm)(hx:X.ex=[])(hf:At X.K (.ref C) f=Aa Af)(hs:At X.K (.ref C) "__setattr__" = Aa (Aa (.builtin "object.__setattr__")))(he:PE X eo (Ch i))(hv:PE X ev (Ch j))(sw:Dq ev (Aa (.Attribute eo f p8)) p10.line X.env=pure Ae):PS X (.Assign [.Attribute eo f p8] ev p10) (λD Y H=>∃ e t v,Y[i]?=Aa (Aa (.ref e))/\H e=Aa (.ext (wm e C Af t))/\Y[j]?=Aa (Aa v)/\∀ dx,H dx=Af->dx≠e->D.nx Y (upd (upd H e (.ext (wm e C (Aa dx) t))) dx (.xd [(f,v)]))):=by
 intro pI s Y H D I ⟨e,t,v,h1,h2,h3,hq⟩;refine aG (U5 (hv pI s Y H (λx H1=>x=v/\H1=H) I ⟨v,h3,rfl,rfl⟩) λu s1 ⟨x,H1,I1,r1,e1,e2⟩=>?_) sw
 subst e1 e2;refine U5 (he pI s1 Y H1 (λx H2=>x=.ref e/\H2=H1) I1 ⟨_,h1,rfl,rfl⟩) λu2 s2 ⟨x2,H2,I2,r2,e3,e4⟩=>?_
 subst e3 e4;cases r2;obtain⟨gC,T⟩:=uh _ I2.kIn;have ge:wm e C Af t s2.heap:=(I2.hok e _ h2).1;obtain⟨hp,g2,d2,Ù,os2⟩:=s2;refine pK I2.kIn PySem.F.store_ValueError T gC hf hs ge λh' dx lb kp uo nd ns=>?_
 have nH:H2 dx=Af:=L5 I2.hok nd;have nde:dx≠e:=λz=>by rw[z,h2]at nH;cases nH
 have ap:HQ X pI dx:=MQ I2 hx nd;have I3:=I2.write (x:=e) (e:=e) (o:=.ext (wm e C (Aa dx) t)) (t':=lb) (by rw[h2];exact trivial) (.inl rfl) kp ⟨_,uo⟩ ⟨uo,⟨_,uo⟩,QE⟩
 have I4:=Vf (o:=.xd [(f,x)]) I3 ap (by rw[AQ nde];exact nH) ⟨_,ns,λy=>by
  by_cases z:y=f
  .subst z;rw[Au rfl];simp only[BX,Cv];exact r1
  .rw[Ay z];have:(y==f)=Ae:=by simp[z]
   simp only[BX,this]
   trivial⟩
 exact⟨Y,_,I4,hq dx nH nde⟩
end
noncomputable def G6(K:Fg)(C:Ak):Am:=match K.lookup C with
  |some ⟨_,_,.cls c,_⟩=>c.hasDict
  |_=>Ae
noncomputable def R8(g par f:Ah)(j:Aq)(np apos p1 cpos p6 p7 p8 p9 p10:AE):Ac AL:=
 [.Expr (.Call (.Attribute (.Name g np) "__init__" apos) [.Name "self" p1,j] [] cpos) p6,.Assign [.Attribute (.Name "self" p7) f p8] (.Name par p9) p10]
inductive lg (K:Fg) (mg:Ah->Ao Al) (C:Ak) (f:Ah):Prop
 |mk {fI OV:Ak} {x qual g par:Ah} {j:Aq} {st:AL} {fd:Bj} {np apos p1 cpos p6 p7 p8 p9 p10:AE} (xc:DE K C (Aa (.ref fI))=Ab) (dc:G6 K C=Ab) (fn:qc K x qual st fI fd) (ty:Dp K (.ref fI)=Aa (.type "function"))
  (S:zx ["self",par] ["self",par] (AG st)) (l1:(AG st).names.lookup ("self" : Ah)=Aa .local) (l2:(AG st).names.lookup par=Aa .local) (bd:CW K fd ["self",par] []) (body:Dh st=R8 g par f j np apos p1 cpos p6 p7 p8 p9 p10)
  (gl:(AG st).names.lookup g=Aa .globalImplicit) (mo:mg g=Aa (.ref OV)) (dg:(g==("__debug__" : Ah))=Ae) (dp:(par==("__debug__" : Ah))=Ae) (dq:(par==("__classdict__" : Ah))=Ae)
  (s1:C3 K (.ref OV) "__getattribute__" = Aa (Aa (.builtin "type.__getattribute__"))) (s2:FC K OV (.type "type")=Ab) (s3:FB K (.ref OV) (.type "type") "__init__" = Aa (.val (.builtin "ValueError.__init__")))
  (hl:(apos.endLine==cpos.line)=Ab) (hz:uc par j) (hf:At K (.ref C) f=Aa Af) (hs:At K (.ref C) "__setattr__" = Aa (Aa (.builtin "object.__setattr__"))):lg K mg C f
section
variable{P:AK}{w:AH}{K:Fg}{mg:Ah->Ao Al}{base:AI}{CL:ClA}{C fI OV:Ak}{x qual g par f:Ah}{j:Aq}{st:AL}{fd:Bj}{np apos p1 cpos p6 p7 p8 p9 p10:AE}
variable{nm q:Ah}{N:Ak}{bs bm:Ac Al}{sn:Ac Ah}{sub:Ac Al}{ab:Am}{col:Ao Am}{dd:Ao Ak}{k0 k1 k2 k3 k5:Ao Al}
theorem kR(uh:∀ h:AI,K.In h->h.get? C=Aa (Cu nm q C N bs bm Ab sn sub ab col dd k0 k1 k2 k3 k5 "ValueError.__new__")/\D2 h rq bm)(fn:qc K x qual st fI fd)(S:zx ["self",par] ["self",par] (AG st))(l1:(AG st).names.lookup ("self" : Ah)=Aa .local)(l2:(AG st).names.lookup par=Aa .local)(bd:CW K fd ["self",par] [])(body:Dh st=R8 g par f j np apos p1 cpos p6 p7 p8 p9 p10)(gl:(AG st).names.lookup g=Aa .globalImplicit)(mo:mg g=Aa (.ref OV))(dg:(g==("__debug__" : Ah))=Ae)(dp:(par==("__debug__" : Ah))=Ae)(dq:(par==("__classdict__" : Ah))=Ae)(s1:C3 K (.ref OV) "__getattribute__" = Aa (Aa (.builtin "type.__getattribute__")))(s2:FC K OV (.type "type")=Ab)(s3:FB K (.ref OV) (.type "type") "__init__" = Aa (.val (.builtin "ValueError.__init__")))(hl:(apos.endLine==cpos.line)=Ab)(hz:uc par j)(hf:At K (.ref C) f=Aa Af)(hs:At K (.ref C) "__setattr__" = Aa (Aa (.builtin "object.__setattr__"))){A:A4}{s:Ar}{E:XK}{e t:Ak}{v:V}{u:Al}{d:D}{n:Ag}(hh:A.handled=Af)(hdp:A.depth<Hg)(hun:A.units+70<BD)(hgd:A.guards=Aa [])(e0:yd P w K mg base A outer s H)(he:H e=Aa (.ext (wm e C Af t)))(rp:Z7 K CL H B v d)(hx:wt n d=Ab)(hn:n<=2)(r:Bs v u):EF (model P w) A (.call (.ref fI) ⟨[.ref e,u],[]⟩) (CR JN outer P w H s (λy H'=>y=.O/\∃ t' dx,H dx=Af/\dx≠e/\H'=upd (upd H e (.ext (wm e C (Aa dx) t'))) dx (.xd [(f,v)])) E) s:=by
 obtain⟨oc,od,kV,doc,pm,an,cdv,ct,osl,rfl,lk,zo⟩:=fn.ex;have KX:K.In s.heap:=e0.mod.kin.keeps λb o e=>(e0.bs b o e).1
 have lim:s.heap.NoLimit:=e0.mod.nolimit.keeps λb o e=>(e0.bs b o e).1
 have we:∀ y∈(["self",par]:Ac Ah).zip [Bm e,u],(AG st).names.lookup y.1=Aa .local\/((AG st).names.lookup y.1=Aa .cell/\((CN (s.heap.objs.size+1) (AG st).names []).lookup y.1).isSome=Ab):=λy hy=>by
  refine .inl ?_;rcases A6.mp hy with rfl|hy
  .exact l1
  .rw[BU.mp hy];exact l2
 have rv:A1 [.ref e,v] [.ref e,u]:=.cons rfl (.cons r .nil);refine GF hdp (KX _ _ lk) rfl S.co S.gen rfl (Hz KX zo) (bd s [.ref e,u] KX rfl _ _ _ _ ?_);refine Fh S.kind we λenv hen Ñ x=>?_
 subst hen;refine⟨lim.keeps x.toInCall.keep,Kc ?_⟩;have I:Z8 (B0 JN P w K mg base ["self",par] qual (AG st) fI cdv A outer s H E) [] (start ["self",par] [.ref e,v]) H Ñ:=PV S hh e0 rfl rv x;generalize hX:B0 JN P w K mg base ["self",par] qual (AG st) fI cdv A outer s H E=X at I;have U9:∀ p,PE X (.Name "self" p) (Ch 0):=λp=>by rw[<-hX];exact Dw rfl (.inl l1)
 have cb:∀ p,PE X (.Name par p) (Ch 1):=λp=>by rw[<-hX];exact Dw rfl (.inl l2) dp dq
 have st1:=eQ (X:=X) (CL:=CL) (C:=C) (g:=g) (np:=np) (apos:=apos) (cpos:=cpos) (i:=0) (j:=1) (OV:=OV) (by rw[<-hX];exact uh) (by rw[<-hX];exact gl) (by rw[<-hX];exact mo) dg (by rw[<-hX];exact s1) (by rw[<-hX];exact s2) (by rw[<-hX];exact s3) hl (U9 p1)
  (hz.pe X CL 1 (by rw[<-hX];show A.units+3+64<BD;omega) (by rw[<-hX];exact hgd) cb) rfl (hz.st _)
 have st2:=iO (X:=X) (p8:=p8) (p10:=p10) (by rw[<-hX];exact uh) (by rw[<-hX];rfl) (by rw[<-hX];exact hf) (by rw[<-hX];exact hs) (U9 p7) (cb p9) rfl
 have all:=B9 (Kf (pos:=p6) st1 rfl) (DT st2);have hk:=all [] Ñ _ H {nx:=λ_ H'=>∃ t' dx,H dx=Af/\dx≠e/\H'=upd (upd H e (.ext (wm e C (Aa dx) t'))) dx (.xd [(f,v)]),rt:=λ_ _=>AN} I ⟨e,Af,t,v,d,B,n,rfl,he,rfl,by rw[<-hX];exact rp,hx,hn,λt'=>⟨e,t',v,rfl,BK,rfl,λdx h1 h2=>⟨t',dx,by rw[AQ h2]at h1;exact h1,h2,by rw[Uj]⟩⟩⟩
 rw[body];refine Bk (by rw[<-hX]at hk;exact hk) (λfl s' ϸ=>?_) λev s' hev=>hev
 cases fl with
 |next=>
  obtain⟨Y',H',J,w'⟩:=ϸ;exact⟨.O,H',J.os,J.bare,J.base,J.hok,rfl,rfl,w'⟩
 |ret y=>obtain⟨_,_,_,_,_,w'⟩:=ϸ;exact w'.elim
 |brk=>obtain⟨_,_,_,w'⟩:=ϸ;exact w'.elim
 |cont=>obtain⟨_,_,_,w'⟩:=ϸ;exact w'.elim
end
theorem Wl:∀(n m:Ag)(d:D),wt n d=Ab->n+1<=m->xg m d=Ab
 |0,m+1,.int i,_,_=>rfl
 |n+1,m+1,.H ds,h,hm=>by
  have h':(CD ds.length 8&&ds.all (wt n))=Ab:=h;rw[An]at h';show ds.all (xg m)=Ab;rw[Bh]at h' ⊢;exact λx hx=>Wl n m x (h'.2 x hx) (by omega)
 |0,_,.H _,h,_=>nomatch h
 |n+1,_,.int _,h,_=>nomatch h
section
variable{X:Cx}{CL:ClA}{W:XW}
def Nm(xn:Ag->Ac D->R Ex)(c:Ag)(f:Ah)(ds:Ac D):Prop:=∃ d n,ds=[d]/\wt n d=Ab/\n<=2/\xn c ds=.ok ⟨c,[(f,d)]⟩
theorem dA{c k:Ag}{g:Ah}{np cpos pos:AE}{e:Aq}{es:Ac Aq}{fs:Rho->R (Ac D)}(uq:X.calm=Ab)(hx:X.ex=[])(hr:U6 k X.A)(rz:NI X CL W)(hg:Gl X g)(hm:X.mg g=Aa (.ref C))(zq:(g==("__debug__" : Ah))=Ae)(xq:CL c=Aa C)(ha:SA X CL W (e::es) fs)(pf:∀ ds,xn c ds=.bad\/(xn c ds=.ok ⟨c,[]⟩/\DE X.K C Af=Ab)\/∃ f,lg X.K X.mg C f/\Nm xn c f ds)(he:Aw (e::es) X.env=(Ae,eval e X.env)::Aw es X.env)(zp:∀ pos,(Bv pos (Aw es X.env)).any (·.1)=Ae)(hz:∀ U ds,fs U=.ok ds->ds.length<=100000):SS X CL W (.Raise (Aa (.Call (.Name g np) (e::es) [] cpos)) Af pos) (λU=>O.of U (zg (fs U)) λxs=>O.of U (xn c xs) λx=>.exn x U):=λFz B pI s Y H D I ⟨U,x,p⟩=>by
 have hpl':(Bv cpos (Aw (e::es) X.env)).any (·.1)=Ae:=by rw[he];show (Ae||(Bv cpos (Aw es X.env)).any (·.1))=Ae;rw[zp];rfl
 cases e1:fs U with
 |bad=>dsimp only at p;rw[e1]at p;exact p.elim
 |exn y=>dsimp only at p;rw[e1]at p;exact p.elim
 |ok ds=>
  rcases pf ds with e2|⟨e2,xc⟩|⟨f,xi,d,n,rfl,xf,hn,e2⟩
  .dsimp only at p;rw[e1]at p;have p2:B2 X.K CL Fz B W (O.of U (xn c ds) λx=>.exn x U) D:=p
   rw[e2]at p2;exact p2.elim
  .refine fL (fs:=fs) (xn:=λ_ um=>match xn c um with | .ok ⟨_,[]⟩=>.ok ⟨c,[]⟩|_=>.bad) uq rz hg hm zq xc xq ha (λum=>by
    split
    .exact .inr rfl
    .exact .inl rfl) he zp hz Fz B pI s Y H D I ⟨U,x,?_⟩
   dsimp only at p ⊢;rw[e1]at p ⊢;have p2:B2 X.K CL Fz B W (O.of U (xn c ds) λx=>.exn x U) D:=p
   rw[e2]at p2;show B2 X.K CL Fz B W (O.of U (match xn c ds with | .ok ⟨_,[]⟩=>(.ok ⟨c,[]⟩:R Ex)|_=>.bad) λx=>.exn x U) D
   rw[e2];exact p2
  .dsimp only at p;rw[e1]at p;have p2:B2 X.K CL Fz B W (O.of U (xn c [d]) λx=>.exn x U) D:=p
   rw[e2]at p2;have p3:∀ H,(∀ b o,Fz b o->H b=Aa o)->W ⟨c,[(f,d)]⟩ H:=p2;cases xi with
   |mk xc dc fn ty S l1 l2 bd body gl mo dg dp dq w1 w2 w3 hl hz0 hf hs=>
    rename_i fI OV x0 qual g0 par j0 st fd np0 apos q1 cpos0 q6 q7 q8 q9 q10;obtain⟨bm,N,nm,qn,bs,hd,sn,sub,ab,col,dd,k0,k1,k2,k3,k5,mN,uh,qs,U4⟩:=Qa I.kIn xc;have oh:hd=Ab:=by
     unfold G6 at dc;split at dc
     .rename_i c0 d0 cd sl lk;have g1:=I.kIn _ _ lk;rw[(uh _ I.kIn).1]at g1;unfold Cu at g1;cases g1;exact dc
     .cases dc
    subst oh;have av:∀ h:AI,X.K.In h->h.get? C=Aa (Cu nm qn C N bs bm Ab sn sub ab col dd k0 k1 k2 k3 k5 "ValueError.__new__")/\D2 h rq bm:=λh z=>⟨(uh h z).1,(uh h z).2.2⟩
    refine fD (bmB:=rq) (nm:=nm) (q:=qn) (C:=C) (N:=N) (fI:=fI) (bs:=bs) (bm:=bm) (hdct:=Ab) (sn:=sn) (sub:=sub) (ab:=ab) (col:=col) (dd:=dd) (k0:=k0) (k1:=k1) (k2:=k2) (k3:=k3) (k5:=k5) (mN:=mN) Fb U4 (I.ok.hd uq) hpl' qs ?_;refine Jy I hg hm ⟨rfl,?_⟩ zq;have q1:=ha (BJ B U Y) cpos pI s Y H (λvs H1=>Az H H1/\Z9 X.K CL H1 (BJ B U Y) vs [d]) I ⟨x.aok,U,x.good,by rw[e1];exact λvs H1 s1 r1=>⟨s1,r1⟩⟩
    rw[he]at q1 ⊢;refine ET (Bk q1 (λus s2 ⟨vs,H2,I2,r2,yv,uy⟩=>⟨rfl,?_⟩) λ_ _ z=>z)
    cases vs with
    |nil=>exact uy.elim
    |cons v vs=>
     cases vs with
     |cons=>exact uy.2.elim
     |nil=>
      obtain⟨u,rfl,ru⟩:=KN r2;obtain⟨o1,o2,o3⟩:=uh _ I2.kIn;obtain⟨oc,od,kV,doc,pm,an,cdv,ct,osl,efd,lk,zo⟩:=fn.ex;have coc:oc=.type "function" := by
       have ty':(X.K.lookup fI).map _=_:=ty;rw[lk]at ty';exact BB ty'
      refine⟨by rw[By];show 1<=_;omega,o1,o2,o3,⟨_,I2.kIn _ _ lk,coc⟩,λh' e0 made=>?_⟩
      obtain⟨t,ge,_⟩:=made.there;have I3:Z8 X pI Y H2 {s2 with heap:=h'}:=I2.kept (t':=s2.toks) made.keeps
      have ap:HQ X pI e0:=MQ I2 hx made.new;have n0:H2 e0=Af:=L5 I2.hok made.new;have I4:=Vf (o:=.ext (wm e0 C Af t)) I3 ap n0 ⟨ge,⟨_,ge⟩,QE⟩;have vy:Az H2 (upd H2 e0 (.ext (wm e0 C Af t))):=λb o z=>by rw[AQ λy=>by rw[y,n0]at z;cases z];exact z
      have ru0:=hr.mono (Ds k);have run:=kR (P:=X.prog) (w:=X.w) (mg:=X.mg) (base:=X.base) (CL:=CL) (E:=λ_ _ _=>AN) (B:=BJ B U Y) (H:=upd H2 e0 (.ext (wm e0 C Af t))) (t:=t) av fn S l1 l2 bd body gl mo dg dp dq w1 w2 w3 hl hz0 hf hs (A:=X.A.under (.builtin "type.__call__" ⟨.ref C::[u],[]⟩)) (outer:=X.stack) hr.hd (by rw[SZ];have:=ru0.dp;omega) (by rw[SY];have:=ru0.un;omega) hr.gd (I4.env0.make C [u] []) BK (Z7.same vy uy.1) xf hn ru
      refine F0 (EG run λr s' hq=>?_)
      cases r with
      |error _=>exact A7 hq
      |ok fl=>
       cases fl with
       |next=>exact A7 hq
       |brk=>exact A7 hq
       |cont=>exact A7 hq
       |ret u'=>
        obtain⟨v',H5,I5,rr,ev,t',dx,iq,dne,eH⟩:=I4.after hq;subst ev;cases rr;have nd2:H2 dx=Af:=by rw[AQ dne]at iq;exact iq
        rw[Uj]at eH;have H5e:H5 e0=Aa (.ext (wm e0 C (Aa dx) t')):=by rw[eH,AQ (CF dne),BK]
        have ge5:wm e0 C (Aa dx) t' s'.heap:=(I5.hok e0 _ H5e).1;have I6:=gP I5 H5e ap.2.2.2 λ_=>trivial
        have H6d:(if dx=e0 then Af else H5 dx)=Aa (.xd [(f,v)]):=by rw[Ay dne,eH,BK]
        have kv:Az H2 (λb=>if b=e0 then Af else H5 b):=λb o z=>by
         have nb:b≠e0:=λy=>by rw[y,n0]at z;cases z
         have nb2:b≠dx:=λy=>by rw[y,nd2]at z;cases z
         show (if b=e0 then Af else H5 b)=Aa o
         rw[Ay nb,eH,AQ nb2,AQ nb];exact z
        refine⟨rfl,t',Aa dx,(av _ I6.kIn).1,ge5,rz pI Y _ s' e0 C (Aa dx) t' ⟨c,[(f,d)]⟩ I6 (λhx=>K9 I2 hx made.new) (Au rfl) ge5 (λA hA=>⟨C,xq,rfl,.inr ⟨dx,[(f,v)],rfl,λz=>?_,H6d,⟨rfl,?_⟩,trivial⟩⟩) (p3 _ λb o z=>kv _ _ (yv _ _ (x.same b o z)))⟩
        .obtain⟨ys,q,w⟩:=hA dx z;have q':(if dx=e0 then Af else H5 dx)=Aa ys:=q
         rw[H6d]at q';cases q';exact w
        .exact Rn hA 5 d (Wl n 5 d xf (by omega)) (Z7.sub (λ_ z=>z.elim) _ (Z7.same kv uy.1))
end
section
variable{prog:AK}{w:AH}{A:A4}{E:Vq}{h:AI}{g:Bl Eo}{d:IB}{t:Ag}{os:BQ}{K:Fg}{e C dx:Ak}{f:Ah}{mA:Ah->Ao Al}{v:Al}
theorem QF(p:JM e C (Aa dx) h):sj e C h:=let ⟨o,a,b,_⟩:=p;⟨o,a,b⟩
theorem cJ{Q:Fin->Ar->Prop}(X:K.In h)(hf:At K (.ref C) f=Aa Af)(hd:G6 K C=Ab)(p:JM e C (Aa dx) h)(hn:h.Ns1 dx mA)(hv:mA f=Aa v)(hq:Q (.done (.ret v)) ⟨h,g,d,t,os⟩):AA (model prog w) A (Builtin.«object.__getattribute__» ⟨[.ref e,.str f tk],[]⟩) Q E ⟨h,g,d,t,os⟩:=by
 have L0:=KG (M:=model prog w) (QF p);have L1:=Cp (M:=model prog w) X hf;obtain⟨o,ge,oc,od,us,dt⟩:=p;unfold G6 at hd;split at hd
 .rename_i c' d' cd' uj lk;have gC:=X _ _ lk;unfold Builtin.«object.__getattribute__»
  repeat (any_goals (first|assumption|with_reducible refine L0.at ?_|with_reducible refine L1.at ?_|wp_step))
  rw[dt];unfold instanceDict
  repeat (first|(with_reducible refine Cb ge ?_;rw[oc])|with_reducible refine Cb gC ?_|wp_step)
  rw[od]
  repeat (first|(with_reducible refine wpAny_nsGet hn.ns ?_;rw[hv])|wp_step)
  exact hq
 .cases hd
theorem pJ{Q:Vq}(X:K.In h)(x:zk K C)(hf:At K (.ref C) f=Aa Af)(hd:G6 K C=Ab)(p:JM e C (Aa dx) h)(hn:h.Ns1 dx mA)(hv:mA f=Aa v)(hh:handedOut v=pure v)(hq:Q v ⟨h,g,d,t,os⟩):AA (model prog w) A (getAttrBy (.ref e) (.str f tk) fill expr) Q E ⟨h,g,d,t,os⟩:=by
 have L0:=KG (M:=model prog w) (QF p);have L1:=Cp (M:=model prog w) X x.ga;have L2:=Cp (M:=model prog w) X x.gt;have f3:=F5.ga.bind (.ref e);have hx0:(expr&&Ke (Dl "BaseException.__getattribute__"))=Ae:=by cases expr<;>rfl
 have hx2:(Dl "BaseException.__getattribute__" == Dl "object.__getattribute__")=Ae:=by decide+kernel
 have hx1:(Ke (Bm C)&&Dl "BaseException.__getattribute__" == Dl "object.__getattribute__")=Ae:=by rw[hx2];rfl
 repeat (any_goals (first|assumption|with_reducible refine L0.at ?_|with_reducible refine L1.at ?_|with_reducible refine L2.at ?_|wp_step))
 refine DZ F5.ga.plain Zm (SQ X x (QF p) (cJ X hf hd p hn hv ?_))
 repeat (any_goals (first|assumption|wp_step))
 all_goals trace_state
theorem fE{b:Am}{Q:Vq}(X:K.In h)(x:zk K C)(hf:At K (.ref C) f=Aa Af)(hd:G6 K C=Ab)(p:JM e C (Aa dx) h)(hn:h.Ns1 dx mA)(hv:mA f=Aa v)(hh:handedOut v=pure v)(hq:Q v ⟨h,g,d,t+1,os⟩):AA (model prog w) A (K1 (.ref e) f b) Q E ⟨h,g,d,t,os⟩:=by
 unfold K1
 repeat (any_goals (first|assumption|with_reducible apply pJ X x hf hd p hn hv hh|wp_step))
end
section
variable{X:Cx}{CL:ClA}{W:XW}{K:Fg}{H:Hp}{A:Ak->Prop}
theorem Qc{f:Ah}{d:D}:∀{vs:Ac (Ah×V)}{fs:Ac (Ah×D)},Cl K CL H A vs fs->fs.lookup f=Aa d->∃ v,vs.lookup f=Aa v/\Z7 K CL H A v d
 |[],[],_,q=>nomatch q
 |(n,v)::vs,(m,d')::fs,⟨⟨e,r⟩,rs⟩,q=>by
  have e':n=m:=e;subst e';by_cases z:(f==n)=Ab
  .simp only[BX,z]at q ⊢;cases q;exact⟨v,rfl,r⟩
  .simp only[BX,z]at q ⊢;exact Qc rs q
theorem UW{a:Aq}{fa:Rho->R D}{f:Ah}(mh:∀ c C,CL c=Aa C->zk X.K C)(hnf:∀ c C,CL c=Aa C->G6 X.K C=Ab/\At X.K (.ref C) f=Aa Af)(ha:ST X CL W a fa)(hb:BZ a f X.env (eval a X.env)=eval a X.env):SE X CL W (.Attribute a f pos) (λU=>(fa U).bind λx=>R5 x f):=λA=>by
 intro pI s Y H Q I ⟨hA,U,gd,q⟩;refine Qz hb (U5 (ha A pI s Y H _ I ⟨hA,U,gd,AX.bind q (Q':=λv H1=>∃ d,CA X.K CL H1 A v d/\AX (λH2=>Z7 X.K CL H2 A) W H1 (R5 d f) Q) λd v H1 _ s1 r1 p1=>⟨d,r1,p1⟩⟩) λu s1 ⟨v,H1,I1,rv,d,rp,p1⟩=>?_)
 cases d with
 |exc c fs=>
  have p2:AX (λH2=>Z7 X.K CL H2 A) W H1 (match fs.lookup f with|some d=>.ok d|none=>.bad) Q:=p1
  cases el:fs.lookup f with
  |none=>rw[el]at p2;exact p2.elim
  |some d=>
   rw[el]at p2;rcases rp with ⟨e,C,φ,rfl,_,hc,hH,hφ,jv⟩|⟨a,xs,ds,_,z,_⟩
   .rcases jv with z|⟨dx,vs,nd,hd,rf,hφ2⟩
    .rw[z]at el;cases el
    .obtain⟨y,l,ry⟩:=Qc rf el;cases rv;have ph:=(I1.hok e _ hH).1;obtain⟨o,ge,oc⟩:=hφ _ ph;obtain⟨o',uo,od,us,odt⟩:=hφ2 _ ph;rw[ge]at uo;cases uo;obtain⟨mA,hn,rel⟩:=I1.hok dx _ hd;obtain⟨u',hu,ru⟩:=Ix.some_of (v:=y) (o:=mA f) (by rw[<-l];exact rel f)
     obtain⟨k1,k2⟩:=hnf c C hc;obtain⟨hp,g2,d2,Ù,os2⟩:=s1;exact fE I1.kIn (mh c C hc) k2 k1 ⟨o,ge,oc,od,us,odt⟩ hn hu (PySem.W.handedOut_of (Tg ru)) ⟨y,H1,I1.tok _,ru,p2 y H1 (Az.refl H1) ry⟩
   .cases z
 |_=>exact p1.elim
end
section
variable{X:Cx}{CL:ClA}{W:XW}
end
theorem fK:∀{ss:Ac Ah}{its:Ac Al},A1 (ss.map V.str) its->∃ l:Ac (Ah×Cd),its=strValues l/\l.map (·.1)=ss:=by
 intro ss
 induction ss with
 |nil=>intro its v;cases v;exact⟨[],rfl,rfl⟩
 |cons x ss ih=>
  intro its v;cases v with
  |cons v1 v2=>
   obtain⟨t,rfl⟩:=v1;obtain⟨l,e1,e2⟩:=ih v2;exact⟨(x,t)::l,by rw[e1];rfl,by rw[BM,e2]⟩
section
variable{X:Cx}{CL:ClA}{W:XW}
def uT(K:Fg):V->Ac V->Hp->VK->Prop:=λx xs H Q=>∃ sep q ss,x=.str sep/\xs=[.ref q]/\IO K H q (ss.map V.str)/\J7 sep ss=Ab/\Q (.str (Ep sep ss)) H
theorem lG:o7 X "str.join" (uT X.K):=by
 intro pI s Y H x vs v us Q I rx rv h;obtain⟨sep,l,ss,rfl,rfl,sq,hok,q⟩:=h;obtain⟨t,rfl⟩:=rx;obtain⟨u,rfl,ru⟩:=rv.one;cases ru;obtain⟨its,r,pl,hz⟩:=I.list sq;obtain⟨ls,rfl,rfl⟩:=fK r;unfold J7 at hok;rw[Bf]at hok;refine EV Zs (FY _ _ _) PySem.F.entry_str_join (PySem.F.args_str_join_2 _ _) (meets_str_join_list sep t l ls hok) ⟨pl.isList,post_join ls ⟨joinFit_length hok,λt' k=>?_⟩⟩
 exact⟨.str _,H,I.kept (t':=k) λ_ _ e=>e,⟨_,rfl⟩,q⟩
theorem cY:∀{es:Ac D}{ss:Ac Ah}{ys:Ac V},Mn es=Aa ss->Z9 K CL H A ys es->ys=ss.map V.str:=by
 intro es
 induction es with
 |nil=>
  intro ss ys h r;cases h;cases ys with
  |nil=>rfl
  |cons=>exact r.elim
 |cons e es ih=>
  intro ss ys h r;cases ys with
  |nil=>exact r.elim
  |cons y ys=>
   cases e with
   |str x=>
    have h':(Mn es).map (x :: ·)=Aa ss:=h;cases e2:Mn es with
    |none=>rw[e2]at h';cases h'
    |some js=>
     rw[e2]at h';cases h';have e1:y=.str x:=r.1;rw[ih e2 r.2,e1];rfl
   |_=>cases h
theorem iY{y:Aq}{s:Ah}{p apos cpos:AE}(hy:SE X CL W y fy)(U4:BZ (.Constant (.str s) k p) "join" X.env (eval (.Constant (.str s) k p) X.env)=eval (.Constant (.str s) k p) X.env)(wu:((Bv cpos (Aw [y] X.env)).all (λx=>!x.1)&&(EU cpos (DG [] X.env)).all (λx=>x.1.isSome)&&decide ([y].length+([]:Ac CV).length+(if ([]:Ac CV).isEmpty then 0 else 1)<30))=Ab)(My:(apos.endLine==cpos.line)=Ab)(hs:Aw [y] X.env=[(Ae,eval y X.env)]):
  SE X CL W (.Call (.Attribute (.Constant (.str s) k p) "join" apos) [y] [] cpos) (λU=>(fy U).bind λx=>zw .sjoin [.str s,x]):=λA=>
 PE.weak (KO Zo Zs PySem.F.type_str_join lG (Og (X:=X) (CL:=CL) (W:=W) A) (Bw (hy A) Cf hs) U4 wu My hs rfl) λY H Q ⟨hA,U,g,p⟩=>⟨hA,U,g,λv H1 s1 r1=>by
  dsimp only at p;have ev:v=.str s:=r1;subst ev;refine⟨rfl,hA.same s1,U,g.same s1,?_⟩;cases e:fy U with
  |bad=>rw[e]at p;exact p.elim
  |exn x=>rw[e]at p;exact λH2 s2=>p H2 (s1.trans s2)
  |ok d=>
   rw[e]at p;intro v' H2 s2 r2;have p1:AX (λH=>Z7 X.K CL H A) W H (zw .sjoin [.str s,d]) Q:=p
   cases d with
   |L ds=>
    obtain⟨a,xs,rfl,_,sq,rs⟩:=r2;have p2:AX (λH=>Z7 X.K CL H A) W H (QS s ds) Q:=p1
    unfold QS at p2;cases e3:Mn ds with
    |none=>rw[e3]at p2;exact p2.elim
    |some ss=>
     rw[e3]at p2;dsimp only at p2;split at p2
     .rename_i hok;have ex:=cY e3 rs;subst ex;exact⟨s,a,ss,rfl,rfl,sq,hok,p2 _ H2 (s1.trans s2) rfl⟩
     .exact p2.elim
   | _=>exact p1.elim⟩
end
theorem Tt:∀(l:Ac Ah)(k:Ag),A1 (l.map V.str) (strsFrom k l)
 |[],_=>.nil
 |_::r,k=>.cons ⟨_,rfl⟩ (Tt r (k+1))
section
variable{X:Cx}{CL:ClA}{W:XW}
def rD:V->Ac V->Hp->VK->Prop:=λx xs H Q=>∃ z y,x=.str z/\xs=[.str y]/\(y.length==0)=Ae/\IY z y=Ab/\∀ p,H p=Af->Q (.ref p) (upd H p (.L ((DH z y).map V.str)))
theorem eB:o7 X "str.split" rD:=by
 intro pI s Y H x vs v us Q I rx rv h;obtain⟨z,y,rfl,rfl,hy,hok,q⟩:=h;obtain⟨t,rfl⟩:=rx;obtain⟨u0,rfl,ru⟩:=rv.one;obtain⟨u,rfl⟩:=ru;unfold IY at hok;rw[An]at hok;have z1:z.length<=sizeLine:=by have:=AR hok.1;rw[By];omega
 have z2:(YR z (Dz z y 0 z.length (z.length+1)) y.length).length<=sizeLine:=by have:=AR hok.2;rw[By];omega
 have one:∀(l:Ac Ah)(its:Ac Al)(tk:Ag),DH z y=l->l.length<=sizeLine->A1 (l.map V.str) its->EP X pI Y Q (.ref s.heap.objs.size) { s with heap:=s.heap.push { cls:=.type "list",data:=.seq its.toArray },toks:=tk }:=λl its tk e hl hv=>
  ⟨.ref s.heap.objs.size,_,I.laid (t':=tk) (o:=.L (l.map V.str)) (λb ob q=>AB _ q) (AU _) ⟨by rw[Bc];exact hl,its,0,hv,Bp _ rfl⟩,rfl,by rw[<-e];exact q _ (I.hok.fresh (AU _))⟩
 have ng:1<=sizeLine:=by decide
 cases h1:(decide (z.length<y.length)||decide (DC z<DC y))
 .cases hf:(Dz z y 0 z.length (z.length+1)).isEmpty
  .exact EV En (FY _ _ _) F4 (FJ _ _) (meets_str_split_sep z y t u h1 hy hf z1 z2) (one _ _ _ ((Ay (Hc h1)).trans (Ay (Hc hf))) z2 (Tt _ _))
  .exact EV En (FY _ _ _) F4 (FJ _ _) (meets_str_split_not_found z y t u h1 hy hf) (one [z] [.str z t] s.toks ((Ay (Hc h1)).trans (Au hf)) ng (.cons ⟨_,rfl⟩ .nil))
 .exact EV En (FY _ _ _) F4 (FJ _ _) (meets_str_split_cannot_occur z y t u h1) (one [z] [.str z t] s.toks (Au h1) ng (.cons ⟨_,rfl⟩ .nil))
theorem Tx{K:Fg}{H:Hp}{A:Ak->Prop}:∀ l:Ac Ah,Z9 K CL H A (l.map V.str) (l.map D.str)
 |[]=>trivial
 |_::r=>⟨rfl,Tx r⟩
theorem fO{o:Aq}{y:Ah}{p apos cpos:AE}(ho:ST X CL W o fo)(U4:BZ o "split" X.env (eval o X.env)=eval o X.env)(My:(apos.endLine==cpos.line)=Ab):SC X CL W Ab (.Call (.Attribute o "split" apos) [.Constant (.str y) k p] [] cpos) (λU=>(fo U).bind λx=>zw .ssplit [x,.str y]):=λA=>
 PE.weak (KO Zo En PySem.F.type_str_split eB (ho A) (Bw (Og (X:=X) (CL:=CL) (W:=W) A) Cf rfl) U4 rfl My rfl rfl) λY H Q ⟨hA,U,g,q⟩=>⟨hA,U,g,AX.bind q λd v H1 _ s1 r1 p1=>by
  cases d with
  |str z=>
   have e:=r1.str_of;subst e;refine⟨rfl,hA.same s1,U,g.same s1,λv' H2 s2 r2=>?_⟩
   have e2:v'=.str y:=r2;subst e2;have p2:AX (Cr X.K CL Ab H A) W H1 (if (!(y.length==0)&&IY z y)=Ab then .ok (.L ((DH z y).map D.str)) else .bad) Q:=p1
   split at p2
   .rename_i hk;rw[An,Bf]at hk;exact⟨z,y,rfl,rfl,hk.1,hk.2,λa ha=>p2 _ _ (s2.trans (EZ ha _)) (K6 (s1.trans s2) ((hA.same s1).same s2) ha (Tx _))⟩
   .exact p2.elim
  | _=>exact p1.elim⟩
theorem tK:Lu X CL W (.type "str") (zw .str):=by
  intro A pI s Y H xs us Q I r ⟨hA,ds,rs,p⟩
  match ds,rs,p with
  |[.int i],rs,p=>
    obtain⟨v,rfl,rv⟩:=rs.one;have e:=rv.int_of;subst e;have p2:AX (λH=>Z7 X.K CL H A) W H (if Lx i=Ab then .ok (.str (Aj (toString i))) else .bad) Q:=p
    split at p2
    · rename_i hk;have vt:i.natAbs<1000:=AJ hk;exact SG pI s Y H _ us Q I r ⟨i,rfl,FG (Go _) (Nat.lt_trans vt (by decide)),p2 _ H (Az.refl H) rfl⟩
    · exact p2.elim
  |[.bl _],_,p=>exact p.elim
  |[],_,p=>exact p.elim
  |[.O],_,p=>exact p.elim
  |[.str _],_,p=>exact p.elim
  |[.H _],_,p=>exact p.elim
  |[.L _],_,p=>exact p.elim
  |[.obj _ _],_,p=>exact p.elim
  |[.exc _ _],_,p=>exact p.elim
  |[.dic _],rs,p=>first|exact p.elim|(obtain⟨v,rfl,rv⟩:=rs.one;exact rv.plain.elim)
  |x::_::_,_,p=>cases x<;>exact p.elim
end
structure nu (K:Fg) (C:Ak):Prop where
 cl:wk K C
 np:EX K C "p"
 nt:EX K C "triple"
 ha:At K (.ref C) "__class__" = Aa (Aa (.builtin "object.__class__"))
 hn:C3 K (.builtin "object.__class__") "__get__" = Aa (Aa (.builtin "getset_descriptor.__get__"))
 htk:IE K (.builtin "object.__class__")=Aa Ab
 hm:Cj K C (.type "object")=Aa Ab
theorem Tz{K:Fg}{CL:ClA}{H:Hp}{A:Ak->Prop}{f:Ah}:∀{vs:Ac (Ah×V)}{fs:Ac (Ah×D)},Cl K CL H A vs fs->fs.lookup f=Af->vs.lookup f=Af
 |[],[],_,_=>rfl
 |v::vs,(n,d)::fs,h,q=>by
  obtain⟨⟨e,_⟩,h2⟩:=h;obtain⟨m,y⟩:=v;have e':m=n:=e;subst e';by_cases z:(f==m)=Ab
  .simp only[BX,z]at q;cases q
  .have z':(f==m)=Ae:=by simpa using z
   simp only[BX,z']at q ⊢;exact Tz h2 q
 |[],_::_,h,_=>h.elim
 |_::_,[],h,_=>h.elim
section
variable{CL:ClA}{K:Fg}{H:Hp}{A:Ak->Prop}{x C dx:Ak}{vs:Ac (Ah×V)}{o:HO}
mutual
theorem V9(hx:H x=Aa (.ins C dx vs)):∀(n:Ag)(d:D){v:V},xg n d=Ab->Z7 K CL H A v d->Z7 K CL (upd H x o) A v d
 |_,.O,_,_,h=>h
 |_,.bl _,_,_,h=>h
 |_,.int _,_,_,h=>h
 |_,.str _,_,_,h=>h
 |0,.H _,_,hn,_=>by cases hn
 |n+1,.H ds,_,hn,h=>by
  obtain⟨a,xs,e,na,s,r⟩:=h;refine⟨a,xs,e,na,?_,uv hx n ds hn r⟩;rcases s with s|s
  .rcases s with s|⟨ob,s⟩
   .exact .inl (.inl (by rw[AQ λz=>by rw[z,hx]at s;cases s];exact s))
   .exact .inl (.inr ⟨ob,by rw[AQ λz=>by rw[z,hx]at s;cases s];exact s⟩)
  .exact .inr s
 |n,.L _,_,hn,_=>by cases n<;>cases hn
 |n,.obj _ _,_,hn,_=>by cases n<;>cases hn
 |n,.exc _ _,_,hn,_=>by cases n<;>cases hn
 |n,.dic _,_,hn,_=>by cases n<;>cases hn
theorem uv(hx:H x=Aa (.ins C dx vs)):∀(n:Ag)(ds:Ac D){us:Ac V},ds.all (xg n)=Ab->Z9 K CL H A us ds->Z9 K CL (upd H x o) A us ds
 |_,[],[],_,h=>h
 |n,d::ds,_::_,hn,h=>by
  simp only[E9,An]at hn;exact⟨V9 hx n d hn.1 h.1,uv hx n ds hn.2 h.2⟩
 |_,[],_::_,_,h=>h.elim
 |_,_::_,[],_,h=>h.elim
end
theorem Qp{v:V}{c:Ag}{fs:Ac (Ah×D)}(r:CA K CL H A v (.obj c fs)):∃ a C dx vs,v=.ref a/\¬ A a/\OC K c=Aa C/\H a=Aa (.ins C dx vs)/\Cl K CL H A vs fs:=by
 rcases r with r|⟨a,xs,ds,_,z,_⟩
 .exact r
 .cases z
end
section
variable{X:Cx}{CL:ClA}{W:XW}{a:Aq}{fa:Rho->R D}
theorem oA{f:Ah}(ho:∀ c C,OC X.K c=Aa C->wk X.K C/\EX X.K C f)(ha:ST X CL W a fa)(hb:BZ a f X.env (eval a X.env)=eval a X.env):SE X CL W (.Attribute a f pos) (λU=>(fa U).bind λx=>bv x f):=λA=>by
 intro pI s Y H Q I ⟨hA,U,gd,q⟩;refine Qz hb (U5 (ha A pI s Y H _ I ⟨hA,U,gd,AX.bind q (Q':=λv H1=>∃ d,CA X.K CL H1 A v d/\AX (λH2=>Z7 X.K CL H2 A) W H1 (bv d f) Q) λd v H1 _ s1 r1 p1=>⟨d,r1,p1⟩⟩) λu s1 ⟨v,H1,I1,rv,d,rp,p1⟩=>?_)
 cases d with
 |obj c fs=>
  have p2:AX (λH2=>Z7 X.K CL H2 A) W H1 (match fs.lookup f with|some d=>.ok d|none=>.bad) Q:=p1
  cases el:fs.lookup f with
  |none=>rw[el]at p2;exact p2.elim
  |some d=>
   rw[el]at p2;obtain⟨e,C,dx,vs,rfl,_,hc,hH,rf⟩:=Qp rp;obtain⟨y,l,ry⟩:=Qc rf el;cases rv;obtain⟨k1,k2⟩:=ho c C hc;exact S8 I1 hH k1 k2 l λu s' I2 ru=>⟨y,H1,I2,ru,p2 y H1 (Az.refl H1) ry⟩
 |_=>exact p1.elim
theorem oF{p p2 pos:AE}(gy:∀ c C,OC X.K c=Aa C->nu X.K C)(hg:Gl X "isinstance")(hm:X.mg "isinstance" = Af)(wv:Gl X x)(qr:X.mg x=Aa (.ref C'))(qp:∀ c C,OC X.K c=Aa C->B5 X.K (.ref C) (.ref C')=Aa ((oup c).contains k))(zq:(x==("__debug__" : Ah))=Ae)(ha:ST X CL W a fa)(he:Aw [a,.Name x p2] X.env=(Ae,eval a X.env)::Aw [.Name x p2] X.env):SE X CL W (.Call (.Name "isinstance" p) [a,.Name x p2] [] pos) (λU=>(fa U).bind λx=>R7 k x):=λA=>
 PE.weak (Kk (r:=λxs H Q=>∃ a C dx vs c,xs=[.ref a,.ref C']/\OC X.K c=Aa C/\H a=Aa (.ins C dx vs)/\Q (.bl ((oup c).contains k)) H) (λpI s Y H xs us Q I r ⟨b,C,dx,vs,c,e,hc,hH,q⟩=>by
   subst e;obtain⟨u,w',rfl,r1,r2⟩:=Lh r;cases r2;have o:=gy c C hc;exact dQ I r1 (.ins hH o.cl o.ha o.hn o.htk o.hm) (qp c C hc) λtk=>⟨.bl _,H,I.tok tk,rfl,q⟩)
  hg hm Fx (Bw (ha A) (Bw (M1 (v:=.ref C') wv qr rfl zq) Cf rfl) he) (by decide) (by decide) he rfl) λY H Q ⟨hA,U,g,q⟩=>⟨hA,U,g,AX.bind q λd v H1 _ s1 r1 p1=>by
   cases d with
   |obj c fs=>
    obtain⟨b,C,dx,vs,rfl,_,hc,hH,_⟩:=Qp r1;exact⟨b,C,dx,vs,c,rfl,hc,hH,p1 _ H1 (Az.refl H1) rfl⟩
   | _=>exact p1.elim⟩
theorem iW{m:Ah}{ms:Ac (Ag×Ag)}{F:Ag->Ac D->R D}(hr:U6 k X.A)(hx:∀ A,HJ (CXR X.prog X.w) X (EKW X.K CL A W))(ha:ST X CL W a fa)(hms:∀ c id C,ms.lookup c=Aa id->OC X.K c=Aa C->∃ f fd ps fr,wk X.K C/\yz X.K C m f/\CW X.K fd ps []/\Y4 X.prog X.w X.K X.mg X.base (CXR X.prog X.w) k f fd ps (spD X.K CL 1 fr (F id)))(U4:BZ a m X.env (eval a X.env)=eval a X.env)(My:(apos.endLine==pos.line)=Ab):SE X CL W (.Call (.Attribute a m apos) [] [] pos) (λU=>(fa U).bind λx=>Np F m ms x):=λA=>by
 intro pI s Y H Q I ⟨hA,U,gd,q⟩;rw[Gk,U4];refine As (U5 (ha A pI s Y H (λv H1=>Az H H1/\∃ d,CA X.K CL H1 A v d/\AX (λH2=>Z7 X.K CL H2 A) W H1 (Np F m ms d) Q) I ⟨hA,U,gd,AX.bind q λd v H1 _ s1 r1 p1=>⟨s1,d,r1,p1⟩⟩) λu s1 ⟨v,H1,I1,rv,Ñ,d,rp,p1⟩=>?_)
 refine As (CT ?_);have xm:FX (([]:Ac Aq).length+([]:Ac CV).length) (Bv pos (Aw [] X.env)) (EU pos (DG [] X.env))=Ab:=rfl;have vg:Dm Ab a X.env apos pos=pure pos:=by
  unfold Dm;simp[My]
 unfold HW;rw[xm];cases d with
 |obj c fs=>
  have p2:AX (λH2=>Z7 X.K CL H2 A) W H1 (match ms.lookup c with|some id=>if (fs.lookup m).isNone=Ab then F id [.obj c fs] else .bad|none=>.bad) Q:=p1
  cases el:ms.lookup c with
  |none=>rw[el]at p2;exact p2.elim
  |some id=>
   rw[el]at p2;dsimp only at p2;split at p2
   .rename_i hn;obtain⟨e,C,dx,vs,rfl,na,hc,hH,rf⟩:=Qp rp;obtain⟨f,fd,ps,fr,cl,me,hb,G⟩:=hms c id C el hc;cases rv;refine As (Ck (NX I1 hH cl me (Tz rf (DX.mp hn)) ?_));refine As (Gi vg ?_);refine Z_1 (first:=[.ref e]) I1.kIn me.kp (Oh (us:=[.ref e]) (vs:=[.ref e]) G hr hb .nil (hx A) I1 (.cons rfl .nil) ?_)
    refine⟨[.obj c fs],A,rfl,hA.same Ñ,⟨⟨e,C,dx,vs,rfl,na,hc,hH,rf⟩,trivial⟩,?_⟩;cases e2:F id [.obj c fs] with
    |ok d=>rw[e2]at p2;exact λv H2 s2 r2=>p2 v H2 s2 r2.1
    |exn y=>rw[e2]at p2;exact λcls dx H2 s2 xr=>⟨y,xr,p2 H2 s2⟩
    |bad=>rw[e2]at p2;exact p2.elim
   .exact p2.elim
 |_=>exact p1.elim
def cz(K:Fg)(CL:ClA)(G:Ac D->R D):Sp:=λvs H Q _=>∃(x C dx:Ak)(us:Ac V)(ds:Ac D)(A:Ak->Prop)(H0:Hp),vs=.ref x::us/\us.length=2/\wk K C/\EX K C "p"/\EX K C "triple"/\H x=Aa (.ins C dx [])/\H0 x=Af/\Az H0 H/\Ty H0 A/\Z9 K CL H0 A us ds/\(match G ds with
  |.ok d=>∀ d1 d2,d=.H [d1,d2]->∀ v1 v2 H',Az H0 H'->H' x=Aa (.ins C dx [("p",v1),("triple",v2)])->Z7 K CL H' A v1 d1->Z7 K CL H' A v2 d2->Q .O H'
  | _=>AN)
theorem lH{c:Ag}{d:D}{Q:VK}(p:AX Rp W H (EI c d) Q):∃ d1 d2,d=.H [d1,d2]/\EI c d=.ok (.obj c [("p",d1),("triple",d2)]):=by
  cases d with
  |H ds=>
    match ds,p with
    |[],p=>exact p.elim
    |[_],p=>exact p.elim
    |_::_::_::_,p=>exact p.elim
    |[a,b],p=>
      refine⟨a,b,rfl,?_⟩;have p2:AX Rp W H (if xg 5 b=Ab then .ok (.obj c [("p",a),("triple",b)]) else .bad) Q:=p
      show (if xg 5 b=Ab then R.ok (D.obj c [("p",a),("triple",b)]) else .bad)=_
      split at p2
      · rename_i z;rw[Au z]
      · exact p2.elim
  |_=>exact p.elim
theorem iX{c k:Ag}{C f:Ak}{g:Ah}{np pos:AE}{e:Aq}{es:Ac Aq}{fs:Rho->R (Ac D)}{G:Ac D->R D}(M:Mk X.K C f)(gy:OC X.K c=Aa C)(o:nu X.K C)(FI:Y4 X.prog X.w X.K X.mg X.base (CXR X.prog X.w) k f fd ["self", "p", "numbers"] (cz X.K CL G))(hr:U6 (k+1) X.A)(hb:CW X.K fd ["self", "p", "numbers"] [])(hx:∀ A,HJ (CXR X.prog X.w) X (EKW X.K CL A W))(hF:∀ ds,ds.length=2->F ds=.bad\/F ds=(G ds).bind (EI c))(hG:∀ ds y,G ds≠.exn y)(hg:Gl X g)(hm:X.mg g=Aa (.ref C))(zq:(g==("__debug__" : Ah))=Ae)(ha:SA X CL W (e::es) fs)(hn:∀ U ds,fs U=.ok ds->ds.length=2)(he:Aw (e::es) X.env=(Ae,eval e X.env)::Aw es X.env)(zp:(Bv pos (Aw es X.env)).any (·.1)=Ae):SE X CL W (.Call (.Name g np) (e::es) [] pos) (λU=>(zg (fs U)).bind λds=>F ds):=λA=>by
 intro pI s Y H Q I ⟨hA,U,gd,p⟩;dsimp only at p;refine DJ (Jy I hg hm ?_ zq);have q1:=ha A pos pI s Y H (λvs H1=>∃ ds,Az H H1/\ds.length=2/\Z9 X.K CL H1 A vs ds/\AX (λH=>Z7 X.K CL H A) W H (F ds) Q) I ⟨hA,U,gd,by
  cases e1:fs U with
  |bad=>rw[e1]at p;exact p
  |exn y=>rw[e1]at p;exact p.elim
  | ok ds=>rw[e1]at p;exact λvs H1 s1 r1=>⟨ds,s1,hn U ds e1,r1,p⟩⟩
 refine DI (h₀:=X.base) I.ok.mod.kin M.kp (U5 q1 λus s1 ⟨vs,H1,I1,r,ds,sm,hl,uy,q⟩=>⟨I1.kIn,?_⟩) he zp
 rcases hF ds hl with z|z
 .rw[z]at q;exact q.elim
 .rw[z]at q;cases e2:G ds with
  |bad=>rw[e2]at q;exact q.elim
  |exn y=>exact absurd e2 (hG ds y)
  |ok d=>
   rw[e2]at q;have q':AX (λH=>Z7 X.K CL H A) W H (EI c d) Q:=q
   obtain⟨d1,d2,rfl,em⟩:=lH q';rw[em]at q';refine T9 (Q:=Q) (E:=EKW X.K CL A W) M FI hr hb .nil (hx A) I1 r λx dx nx iq ne=>?_
   refine⟨x,C,dx,vs,ds,A,H1,by rw[Bz],by rw[uy.length];exact hl,o.cl,o.np,o.nt,BK,nx,λb ob h=>?_,hA.same sm,uy,?_⟩
   .have n1:b≠x:=λz=>by rw[z,nx]at h;cases h
    have n2:b≠dx:=λz=>by rw[z,iq]at h;cases h
    rw[AQ n1,AQ n2];exact h
   .rw[e2];exact λe1 e3 ee v1 v2 H' yv hx' r1 r2=>by
     cases ee;exact⟨rfl,q' _ H' (sm.trans yv) ⟨x,C,dx,_,rfl,(hA.same sm).new nx,gy,hx',⟨⟨rfl,r1⟩,⟨rfl,r2⟩,trivial⟩⟩⟩
theorem dW{p0:AE}{t0:Cx}{H0:Hp}{x dx:Ak}{v1 v2:V}{Q:VK}(U9:∀ p,PE X (.Name "self" p) (Ch 0))(pp:∀ p,PE X (.Name "p" p) (Ch 1))(hv:SE X CL W ev (λU=>evE Z U (.call id (.cons (.v 1) (.cons (.v 2) .nil)))))(hs:Dq ev (Aa (.Attribute (.Name "self" p3) "triple" p4)) p5.line X.env=pure Ae):
    ∃ t,ye X [.Assign [.Attribute (.Name "self" p0) "p" p1] (.Name "p" p2) p6,.Assign [.Attribute (.Name "self" p3) "triple" p4] ev p5] t /\
      (Y=[Aa (.ref x),Aa v1,Aa v2]->wk X.K C->EX X.K C "p"->EX X.K C "triple"->H x=Aa (.ins C dx [])->H0 x=Af->Az H0 H->Ty H0 A->Z7 X.K CL H0 A v1 d1->Z7 X.K CL H0 A v2 d2 ->
        (∃ t,Z.F id [d1,d2]=.ok t/\xg 5 t=Ab/\∀ w1 w2 H',Az H0 H'->H' x=Aa (.ins C dx [("p",w1),("triple",w2)])->Z7 X.K CL H' A w1 d1->Z7 X.K CL H' A w2 t->Q .O H')->t {nx:=λ_ H'=>Q .O H',rt:=Q} Y H):=by
  have all:=B9 (IQ (X:=X) (f := "p") (pos:=p6) (pos':=p1) (U9 p0) (pp p2) rfl) (DT (IQ (X:=X) (f := "triple") (pos:=p5) (pos':=p4) (U9 p3) (hv A) hs));refine⟨_,all,?_⟩;rintro rfl cl np nt hx h0 sm hA r1 r2 ⟨t,ef,hnl,q⟩;have nx:∀ b o,H0 b=Aa o->b≠x:=λb o e z=>by rw[z,h0]at e;cases e
  have yv:Az H0 (upd H x (.ins C dx (Ft "p" v1 []))):=λb o e=>by rw[AQ (nx b o e)];exact sm b o e
  refine⟨v1,rfl,.ref x,rfl,x,C,dx,[],rfl,hx,cl,np,by decide,hA.same yv,[Af,Aa (d1,Ae),Aa (d2,Ae)],⟨λi d h=>?_,λi d h=>?_,rfl⟩,?_⟩
  · match i,h with
    |0,h=>cases h
    |1,h=>cases h;exact⟨v1,rfl,Z7.same yv r1⟩
    |2,h=>cases h;exact⟨v2,rfl,Z7.same yv r2⟩
    |n+3,h=>cases h
  · match i,h with
    |0,h=>cases h
    |1,h=>cases h
    |2,h=>cases h
    |n+3,h=>cases h
  · have ee:evE Z [Af,Aa (d1,Ae),Aa (d2,Ae)] (.call id (.cons (.v 1) (.cons (.v 2) .nil)))=.ok t:=by
      show ((Z.F id [d1,d2]).bind λd=>.ok d)=_
      rw[ef];rfl
    dsimp only;rw[ee];intro w2 H3 s3 r3;have hx3:H3 x=Aa (.ins C dx [("p",v1)]):=s3 _ _ BK;refine⟨.ref x,rfl,x,C,dx,[("p",v1)],rfl,hx3,cl,nt,show 1<1000 by decide,?_⟩
    have vy:Az H0 (upd H3 x (.ins C dx (Ft "triple" w2 [("p",v1)]))):=λb o e=>by rw[AQ (nx b o e)];exact s3 _ _ (yv b o e)
    exact q v1 w2 _ vy BK (Z7.same vy r1) (V9 hx3 5 t hnl r3)
end
theorem IK{i:Ag}{d d':D}(hi:U[i]?=Aa (Aa (d,Ab)))(j:Ag)(e:D):(U.set i (Aa (d',Ab)))[j]?=Aa (Aa (e,Ab))↔(i=j/\e=d')\/(i≠j/\U[j]?=Aa (Aa (e,Ab))):=by
 have hil:=(A5.mp hi).1;by_cases hj:i=j
 .subst hj;rw[Bx hil];simp;exact⟨λz=>z.symm,λz=>z.symm⟩
 .rw[Bt hj];simp[hj]
theorem Jz{i:Ag}{d d':D}(hi:U[i]?=Aa (Aa (d,Ab)))(b:Ak):BJ B (U.set i (Aa (d',Ab))) Y b↔BJ B U Y b:=by
 constructor
 .rintro (h|⟨j,e,h1,h2⟩)
  .exact .inl h
  .rcases (IK hi j e).mp h1 with ⟨rfl,_⟩|⟨_,h1⟩
   .exact .inr ⟨i,d,hi,h2⟩
   .exact .inr ⟨j,e,h1,h2⟩
 .rintro (h|⟨j,e,h1,h2⟩)
  .exact .inl h
  .by_cases hj:i=j
   .subst hj;exact .inr ⟨i,d',(IK hi i _).mpr (.inl ⟨rfl,rfl⟩),h2⟩
   .exact .inr ⟨j,e,(IK hi j e).mpr (.inr ⟨hj,h1⟩),h2⟩
section
variable{K:Fg}{CL:ClA}{Fz Fy:Fr}{B:Ak->Prop}{U:Rho}{Y:L2.St}{H:Hp}{W:XW}
theorem Sx.dis2(x:Sx K CL Fz B U Y H){i:Ag}{d d':D}(hi:U[i]?=Aa (Aa (d,Ab)))(j k:Ag)(e f:D)(b:Ak)(g1:(U.set i (Aa (d',Ab)))[j]?=Aa (Aa (e,Ab)))(g2:(U.set i (Aa (d',Ab)))[k]?=Aa (Aa (f,Ab)))(g3:Y[j]?=Aa (Aa (.ref b)))(g4:Y[k]?=Aa (Aa (.ref b))):j=k:=by
 rcases (IK hi j e).mp g1 with ⟨rfl,_⟩|⟨hj,h'⟩
 .rcases (IK hi k f).mp g2 with ⟨rfl,_⟩|⟨hk,w6⟩
  .rfl
  .exact x.dis i k d f b hi w6 g3 g4
 .rcases (IK hi k f).mp g2 with ⟨rfl,_⟩|⟨hk,w6⟩
  .exact x.dis j i e d b h' hi g3 g4
  .exact x.dis j k e f b h' w6 g3 g4
theorem Sx.new2(x:Sx K CL Fz B U Y H){i:Ag}{d d':D}(hi:U[i]?=Aa (Aa (d,Ab)))(j:Ag)(e:D)(b:Ak)(g1:(U.set i (Aa (d',Ab)))[j]?=Aa (Aa (e,Ab)))(g2:Y[j]?=Aa (Aa (.ref b))):((∀ o,¬ Fz b o)/\¬ B b)/\∃(j:Ag)(d:D),U[j]?=Aa (Aa (d,Ab))/\Y[j]?=Aa (Aa (.ref b)):=by
 rcases (IK hi j e).mp g1 with ⟨rfl,_⟩|⟨_,h'⟩
 .exact⟨x.new i d b hi g2,i,d,hi,g2⟩
 .exact⟨x.new j e b h' g2,j,e,h',g2⟩
theorem Sx.sh2(x:Sx K CL Fz B U Y H){i:Ag}{d d':D}(hi:U[i]?=Aa (Aa (d,Ab)))(j:Ag)(e:D)(h:(U.set i (Aa (d',Ab)))[j]?=Aa (Aa (e,Ae))):∃ v,Y[j]?=Aa (Aa v)/\Z7 K CL H (BJ B (U.set i (Aa (d',Ab))) Y) v e:=by
 have hj:i≠j:=by
  rintro rfl;have:=Ed h;cases this
 rw[Bt hj]at h;obtain⟨v,q,r⟩:=x.good.sh j e h;exact⟨v,q,Z7.sub (λb hb=>(Jz hi b).mp hb) _ r⟩
theorem Sx.pinned(x:Sx K CL Fz B U Y H){i:Ag}{ds:Ac D}{a:Ak}{xs:Ac V}(hi:U[i]?=Aa (Aa (.L ds,Ab)))(ha:Y[i]?=Aa (Aa (.ref a)))(hh:H a=Aa (.L xs)):Sx K CL ⟨λb o=>H b=Aa o/\¬ ∃(j:Ag)(d:D),U[j]?=Aa (Aa (d,Ab))/\Y[j]?=Aa (Aa (.ref b)),λj b ys=>(j=i/\b=a/\ys=.L xs)\/(j≠i/\Fz.pin j b ys)⟩ B (U.set i (Aa (.O,Ab))) Y H:=by
 refine⟨⟨x.sh2 hi,λj e h hn=>?_,by rw[AT];exact x.len⟩,λb h=>x.aok b ((Jz hi b).mp h),λj e b g1 g2=>⟨λo z=>z.2 (x.new2 hi j e b g1 g2).2,(x.new2 hi j e b g1 g2).1.2⟩,x.dis2 hi,λb o z=>z.1,by rw[AT];exact x.len,λj h=>?_⟩
 .rcases (IK hi j e).mp h with ⟨_,rfl⟩|⟨hj,h'⟩
  .exact absurd rfl hn
  .obtain⟨b,ys,es,q,z,hb,h2,rr⟩:=x.good.ow j e h' hn;exact⟨b,ys,es,q,z,(Jz hi b).mpr hb,h2,Z9.sub (λb hb=>(Jz hi b).mp hb) _ rr⟩
 .by_cases hj:i=j
  .exact⟨a,_,.inl ⟨hj.symm,rfl,rfl⟩,hj ▸ ha,hh⟩
  .rw[Bt hj]at h;obtain⟨b,ys,p1,p2⟩:=x.pin j h;exact⟨b,ys,.inr ⟨CF hj,p1⟩,p2⟩
theorem Sx.unpinned(x:Sx K CL Fy B U Y H){i:Ag}{ds:Ac D}{a:Ak}{xs:Ac V}(hi:U[i]?=Aa (Aa (.O,Ab)))(hf:∀ b o,Fz b o->Fy b o)(hpn:∀ j b ys,Fy.pin j b ys->(j=i/\b=a/\ys=.L xs)\/(j≠i/\Fz.pin j b ys))(r:Z9 K CL H (BJ B U Y) xs ds):Sx K CL Fz B (U.set i (Aa (.L ds,Ab))) Y H:=by
 refine⟨⟨x.sh2 hi,λj e h hn=>?_,by rw[AT];exact x.len⟩,λb h=>x.aok b ((Jz hi b).mp h),λj e b g1 g2=>⟨λo z=>(x.new2 hi j e b g1 g2).1.1 o (hf b o z),(x.new2 hi j e b g1 g2).1.2⟩,x.dis2 hi,λb o z=>x.same b o (hf b o z),by rw[AT];exact x.len,λj h=>?_⟩
 .rcases (IK hi j e).mp h with ⟨rfl,rfl⟩|⟨hj,h'⟩
  .obtain⟨b,ys,p1,p2,p3⟩:=x.pin i hi;rcases hpn i b ys p1 with ⟨_,rfl,rfl⟩|⟨z,_⟩
   .exact⟨b,xs,ds,p2,rfl,(Jz hi b).mpr (.inr ⟨i,.O,hi,p2⟩),p3,Z9.sub (λb hb=>(Jz hi b).mp hb) _ r⟩
   .exact absurd rfl z
  .obtain⟨b,ys,es,q,z,hb,h2,rr⟩:=x.good.ow j e h' hn;exact⟨b,ys,es,q,z,(Jz hi b).mpr hb,h2,Z9.sub (λb hb=>(Jz hi b).mp hb) _ rr⟩
 .rcases (IK hi j _).mp h with ⟨_,z⟩|⟨hj,h'⟩
  .cases z
  .obtain⟨b,ys,p1,p2⟩:=x.pin j h';rcases hpn j b ys p1 with ⟨z,_⟩|⟨_,z⟩
   .exact absurd z.symm hj
   .exact⟨b,ys,z,p2⟩
end
section
variable{X:Cx}{CL:ClA}{W:XW}
end
section
variable{X:Cx}{CL:ClA}{W:XW}
def rE(K:Fg)(CL:ClA):V->Ac V->Hp->VK->Prop:=λx vs H Q=>∃ l xs ds v d j,x=.ref l/\vs=[v]/\IO K H l xs/\Z9 K CL H A0 xs ds/\Z7 K CL H A0 v d/\Y8 5 d=Ab/\ds.all (Y8 5)=Ab/\(ds.findIdx? λy=>Tm y d)=Aa j/\Q (.int (j:Ag)) H
theorem eE(hu:X.A.units+64<BD):o7 X "list.index" (rE X.K CL):=by
 intro pI s Y H x vs v us Q I rx rv h;obtain⟨l,xs,ds,y,d,j,rfl,rfl,sq,rs,ry,h1,h2,hj,q⟩:=h;cases rx;obtain⟨u,rfl,ru⟩:=rv.one;obtain⟨its,r,pl,hz⟩:=I.list sq;obtain⟨⟨c,dct,dt,sl⟩,n,e,hc,hd,oh⟩:=pl;obtain⟨f,hf,hn⟩:=VI I (n:=5) X.A.in1 h1 h2 rs r ry ru (by show X.A.units+1+5<BD;omega)
 replace hc:c=.type "list" := hc;replace oh:dt=.seq its.toArray n:=oh;subst hc oh;have hl:its.length=ds.length:=by rw[<-r.length,rs.length]
 obtain⟨g1,g2,g3⟩:=List.findIdx?_eq_some_iff_getElem.mp hj;have gd:∀ m (h:m<ds.length),ds.getD m .O=ds[m]:=λm h=>by rw[Dj,Cy h];rfl
 have hzl:its.length<=sizeLine:=by rw[hl,<-rs.length];exact hz
 have zl:sizeLine<2 ^ 62:=by decide
 refine EV Zq ⟨_,e,rfl⟩ PySem.F.entry_list_index (PySem.F.args_list_index_2 _ _) (SeqAt.list_indexAt l its.toArray n dct sl u f j (by rw[AW];omega) (by omega) ?_ ?_) ⟨e,hf,?_⟩
 .have:=hn j (by omega)
  rw[gd j g1]at this;simpa [g2] using this
 .intro m hm hmj;have hm':m<its.length:=by rw[AW]at hm;exact hm
  have:=hn m hm';rw[gd m (by omega)]at this
  have h3:Tm ds[m] d=Ae:=by
   have:=g3 m hmj;simpa using this
  rw[h3]at this;simpa using this
 .exact⟨.int _,H,I.tok _,⟨_,rfl⟩,q⟩
theorem fQ{o y:Aq}(hu:X.A.units+64<BD)(ho:ST X CL W o fo)(hy:ST X CL W y fy)(hny:∀ U e,fy U≠.exn e)(U4:BZ o "index" X.env (eval o X.env)=eval o X.env)(wu:((Bv cpos (Aw [y] X.env)).all (λx=>!x.1)&&(EU cpos (DG [] X.env)).all (λx=>x.1.isSome)&&decide ([y].length+([]:Ac CV).length+(if ([]:Ac CV).isEmpty then 0 else 1)<30))=Ab)(My:(apos.endLine==cpos.line)=Ab)(hs:Aw [y] X.env=[(Ae,eval y X.env)]):
  SE X CL W (.Call (.Attribute o "index" apos) [y] [] cpos) (λU=>(fo U).bind λx=>(fy U).bind λd=>match x with | .L xs=>OU xs d|_=>.bad):=λA=>
 PE.weak (KO Cc Zq PySem.F.type_list_index (eE (CL:=CL) hu) (ho A) (Bw (hy A) Cf hs) U4 wu My hs rfl) λY H Q ⟨hA,U,g,p⟩=>⟨hA,U,g,AX.bind p λd v H1 _ s1 r1 p1=>by
  have nb:∀{f:D->R D},(∀ d,f d=.bad)->AX (λH=>Z7 X.K CL H A) W H1 ((fy U).bind f) Q->AN:=λ{f} hf z=>by
   cases e:fy U with
   |ok d2=>rw[e]at z;have z':AX (λH=>Z7 X.K CL H A) W H1 (f d2) Q:=z;rw[hf]at z';exact z'
   |exn e'=>exact hny U e' e
   |bad=>rw[e]at z;exact z
  cases d with
  |L ds=>
   obtain⟨a,xs,rfl,sq,rs⟩:=r1.lst_of;refine⟨.inl ⟨rfl,xs,sq⟩,hA.same s1,U,g.same s1,AX.bind p1 λd2 v' H2 _ s2 r2 p2=>?_⟩
   have r3:Z7 X.K CL H2 A0 (.ref a) (.L ds):=(CA.same s2 r1).plain;obtain⟨a',xs',e',_,sq',u9⟩:=r3;cases e';replace p2:AX (λH=>Z7 X.K CL H A) W H2 (OU ds d2) Q:=p2
   unfold OU at p2;split at p2
   .rename_i h;simp only[An]at h;cases e3:ds.findIdx? λy=>Tm y d2 with
    |none=>rw[e3]at p2;exact p2.elim
    |some j=>
     rw[e3]at p2;exact⟨a,xs',ds,v',d2,j,rfl,rfl,sq',u9,r2.plain,h.1,h.2,e3,p2 _ H2 (Az.refl H2) rfl⟩
   .exact p2.elim
  | _=>exact(nb (λ_=>rfl) p1).elim⟩
end
section
variable{X:Cx}{CL:ClA}{W:XW}
theorem dC{o y:Aq}{j:Am}(hu:X.A.units+64<BD)(ho:ST X CL W o fo)(hy:SE X CL W y (λ_=>.ok (.bl j)))(U4:BZ o "count" X.env (eval o X.env)=eval o X.env)(wu:((Bv cpos (Aw [y] X.env)).all (λx=>!x.1)&&(EU cpos (DG [] X.env)).all (λx=>x.1.isSome)&&decide ([y].length+([]:Ac CV).length+(if ([]:Ac CV).isEmpty then 0 else 1)<30))=Ab)(My:(apos.endLine==cpos.line)=Ab)(hs:Aw [y] X.env=[(Ae,eval y X.env)]):
  SE X CL W (.Call (.Attribute o "count" apos) [y] [] cpos) (λU=>(fo U).bind λx=>zw .count [x,.bl j]):=λA=>
 PE.weak (KO Cc Zp PySem.F.type_list_count (eI (CL:=CL) hu) (ho A) (Bw (hy A) Cf hs) U4 wu My hs rfl) λY H Q ⟨hA,U,g,p⟩=>⟨hA,U,g,AX.bind p λd v H1 _ s1 r1 p1=>by
  cases d with
  |L ds=>
   obtain⟨a,xs,rfl,sq,rs⟩:=r1.lst_of;refine⟨.inl ⟨rfl,xs,sq⟩,hA.same s1,U,g.same s1,λv' H2 s2 r2=>?_⟩
   have r3:Z7 X.K CL H2 A0 (.ref a) (.L ds):=(CA.same s2 r1).plain;obtain⟨a',xs',e',_,sq',u9⟩:=r3;cases e';replace p1:AX (λH=>Z7 X.K CL H A) W H1 (if (Y8 5 (.bl j)&&ds.all (Y8 5))=Ab then .ok (.int ((ds.filter λy=>Tm y (.bl j)).length:Ag)) else .bad) Q:=p1
   split at p1
   .rename_i h;simp only[An]at h;have e2:v'=.bl j:=r2;subst e2;exact⟨a,xs',ds,.bl j,.bl j,rfl,rfl,sq',u9,rfl,h.1,h.2,p1 _ H2 s2 rfl⟩
   .exact p1.elim
  | _=>exact p1.elim⟩
end
theorem U0{P:Prop}(h:Ae=Ab):P:=nomatch h
structure Tc where
 sc:Ca
 N:Ac Ah
 fns:Ac (Ah×Ag×Ag)
 bl:Ac Ah
 rzs:Ac (Ah×Ag)
 exs:Ac (Ah×Ag)
 gls:Ac (Ah×Ag)
 tp:Am
noncomputable def RQ(T:Tc)(x:Ah):Am:=match T.sc.names.lookup x with
  |some .local=>Ab
  |some .cell=>Ab
  |some .free=>Ab
  |_=>Ae
noncomputable def Ly(T:Tc)(x:Ah):Am:=match T.sc.names.lookup x with
  |some .local=>Ab
  |some .cell=>Ab
  |_=>Ae
noncomputable def zc(T:Tc)(x:Ah):Am:=T.sc.names.lookup x==Aa .globalImplicit
noncomputable def FU(x:Ah):Am:=(!(x==("__debug__" : Ah)) && !(x==("__classdict__" : Ah)) && !(x==("__name__" : Ah)))&&(Gb.lookup x).isNone
noncomputable def vh(T:Tc)(x:Ah)(i:Ag):Am:=T.N[i]? == Aa x&&RQ T x&&FU x
noncomputable def xu(T:Tc)(x:Ah):Am:=T.bl.contains x&&zc T x&&FU x
theorem A9{a b:Am}(h:(a&&b)=Ab):a=Ab/\b=Ab:=(An a b).mp h
theorem vj{a b:Am}(h:(a||b)=Ab):a=Ab\/b=Ab:=(BV a b).mp h
noncomputable def Ea(e:Aq)(F:Ah->Am):Am:=if c:e.ctorIdx=23 then Zc (motive_1:=λ_=>Am) e c λx _=>F x else Ae
theorem Et{e:Aq}{F:Ah->Am}(h:Ea e F=Ab):∃ x p,e=Zb x p/\F x=Ab:=by
 by_cases c:e.ctorIdx=23
 .exact Zc (motive_1:=λe=>Ea e F=Ab->∃ x p,e=Zb x p/\F x=Ab) e c (λx p h=>⟨x,p,rfl,h⟩) h
 .exact U0 ((B7 c).symm.trans h)
noncomputable def G3(e:Aq)(F:Const->Am):Am:=if c:e.ctorIdx=19 then Y_6 (motive_1:=λ_=>Am) e c λc _ _=>F c else Ae
theorem IH{e:Aq}{F:Const->Am}(h:G3 e F=Ab):∃ c u p,e=Y_5 c u p/\F c=Ab:=by
 by_cases c:e.ctorIdx=19
 .exact Y_6 (motive_1:=λe=>G3 e F=Ab->∃ c u p,e=Y_5 c u p/\F c=Ab) e c (λc u p h=>⟨c,u,p,rfl,h⟩) h
 .exact U0 ((B7 c).symm.trans h)
noncomputable def OI(e:Aq)(F:Aq->Gq->Aq->Am):Am:=if c:e.ctorIdx=2 then YY (motive_1:=λ_=>Am) e c λx o y _=>F x o y else Ae
theorem TM{e:Aq}{F:Aq->Gq->Aq->Am}(h:OI e F=Ab):∃ x o y p,e=YX x o y p/\F x o y=Ab:=by
 by_cases c:e.ctorIdx=2
 .exact YY (motive_1:=λe=>OI e F=Ab->∃ x o y p,e=YX x o y p/\F x o y=Ab) e c (λx o y p h=>⟨x,o,y,p,rfl,h⟩) h
 .exact U0 ((B7 c).symm.trans h)
noncomputable def Jb(e:Aq)(F:K0->Aq->Am):Am:=if c:e.ctorIdx=3 then Zk (motive_1:=λ_=>Am) e c λo x _=>F o x else Ae
theorem M2{e:Aq}{F:K0->Aq->Am}(h:Jb e F=Ab):∃ o x p,e=Zj o x p/\F o x=Ab:=by
 by_cases c:e.ctorIdx=3
 .exact Zk (motive_1:=λe=>Jb e F=Ab->∃ o x p,e=Zj o x p/\F o x=Ab) e c (λo x p h=>⟨o,x,p,rfl,h⟩) h
 .exact U0 ((B7 c).symm.trans h)
noncomputable def IU(e:Aq)(F:BoolOp->Ac Aq->AE->Am):Am:=if c:e.ctorIdx=0 then Y_0 (motive_1:=λ_=>Am) e c λo xs p=>F o xs p else Ae
theorem L3{e:Aq}{F:BoolOp->Ac Aq->AE->Am}(h:IU e F=Ab):∃ o xs p,e=YZ o xs p/\F o xs p=Ab:=by
 by_cases c:e.ctorIdx=0
 .exact Y_0 (motive_1:=λe=>IU e F=Ab->∃ o xs p,e=YZ o xs p/\F o xs p=Ab) e c (λo xs p h=>⟨o,xs,p,rfl,h⟩) h
 .exact U0 ((B7 c).symm.trans h)
noncomputable def Me(e:Aq)(F:Aq->Ac DB->Ac Aq->Am):Am:=if c:e.ctorIdx=15 then Y_4 (motive_1:=λ_=>Am) e c λx os ys _=>F x os ys else Ae
theorem Qg{e:Aq}{F:Aq->Ac DB->Ac Aq->Am}(h:Me e F=Ab):∃ x os ys p,e=Y_3 x os ys p/\F x os ys=Ab:=by
 by_cases c:e.ctorIdx=15
 .exact Y_4 (motive_1:=λe=>Me e F=Ab->∃ x os ys p,e=Y_3 x os ys p/\F x os ys=Ab) e c (λx os ys p h=>⟨x,os,ys,p,rfl,h⟩) h
 .exact U0 ((B7 c).symm.trans h)
noncomputable def IT(e:Aq)(F:Aq->Ac Aq->Ac CV->AE->Am):Am:=if c:e.ctorIdx=16 then Y_2 (motive_1:=λ_=>Am) e c λf as ks p=>F f as ks p else Ae
theorem LZ{e:Aq}{F:Aq->Ac Aq->Ac CV->AE->Am}(h:IT e F=Ab):∃ f as ks p,e=Y_1 f as ks p/\F f as ks p=Ab:=by
 by_cases c:e.ctorIdx=16
 .exact Y_2 (motive_1:=λe=>IT e F=Ab->∃ f as ks p,e=Y_1 f as ks p/\F f as ks p=Ab) e c (λf as ks p h=>⟨f,as,ks,p,rfl,h⟩) h
 .exact U0 ((B7 c).symm.trans h)
noncomputable def HN(e:Aq)(F:Aq->Ah->AE->Am):Am:=if c:e.ctorIdx=20 then YW (motive_1:=λ_=>Am) e c λo m p=>F o m p else Ae
theorem Km{e:Aq}{F:Aq->Ah->AE->Am}(h:HN e F=Ab):∃ o m p,e=YV o m p/\F o m p=Ab:=by
 by_cases c:e.ctorIdx=20
 .exact YW (motive_1:=λe=>HN e F=Ab->∃ o m p,e=YV o m p/\F o m p=Ab) e c (λo m p h=>⟨o,m,p,rfl,h⟩) h
 .exact U0 ((B7 c).symm.trans h)
noncomputable def Nd(e:Aq)(F:Aq->Aq->Am):Am:=if c:e.ctorIdx=21 then Zg (motive_1:=λ_=>Am) e c λx y _=>F x y else Ae
theorem Qe{e:Aq}{F:Aq->Aq->Am}(h:Nd e F=Ab):∃ x y p,e=Zf x y p/\F x y=Ab:=by
 by_cases c:e.ctorIdx=21
 .exact Zg (motive_1:=λe=>Nd e F=Ab->∃ x y p,e=Zf x y p/\F x y=Ab) e c (λx y p h=>⟨x,y,p,rfl,h⟩) h
 .exact U0 ((B7 c).symm.trans h)
noncomputable def Ry(e:Aq)(F:Ao Aq->Ao Aq->Ao Aq->Am):Am:=if c:e.ctorIdx=26 then Ze (motive_1:=λ_=>Am) e c λl u s _=>F l u s else Ae
theorem eW{e:Aq}{F:Ao Aq->Ao Aq->Ao Aq->Am}(h:Ry e F=Ab):∃ l u s p,e=Zd l u s p/\F l u s=Ab:=by
 by_cases c:e.ctorIdx=26
 .exact Ze (motive_1:=λe=>Ry e F=Ab->∃ l u s p,e=Zd l u s p/\F l u s=Ab) e c (λl u s p h=>⟨l,u,s,p,rfl,h⟩) h
 .exact U0 ((B7 c).symm.trans h)
noncomputable def Lo(e:Aq)(F:Ac Aq->Am):Am:=if c:e.ctorIdx=25 then Zi (motive_1:=λ_=>Am) e c λxs _ _=>F xs else Ae
theorem MS{e:Aq}{F:Ac Aq->Am}(h:Lo e F=Ab):∃ xs c p,e=Zh xs c p/\F xs=Ab:=by
 by_cases c:e.ctorIdx=25
 .exact Zi (motive_1:=λe=>Lo e F=Ab->∃ xs c p,e=Zh xs c p/\F xs=Ab) e c (λxs c p h=>⟨xs,c,p,rfl,h⟩) h
 .exact U0 ((B7 c).symm.trans h)
noncomputable def OE(e:Aq)(F:Ac Aq->Am):Am:=if c:e.ctorIdx=24 then Y_8 (motive_1:=λ_=>Am) e c λxs _=>F xs else Ae
theorem Qf{e:Aq}{F:Ac Aq->Am}(h:OE e F=Ab):∃ xs p,e=Y_7 xs p/\F xs=Ab:=by
 by_cases c:e.ctorIdx=24
 .exact Y_8 (motive_1:=λe=>OE e F=Ab->∃ xs p,e=Y_7 xs p/\F xs=Ab) e c (λxs p h=>⟨xs,p,rfl,h⟩) h
 .exact U0 ((B7 c).symm.trans h)
noncomputable def RA(e:Aq)(F:Aq->Ac JW->Ca->Am):Am:=if c:e.ctorIdx=8 then Za (motive_1:=λ_=>Am) e c λx gs sc _=>F x gs sc else Ae
theorem eZ{e:Aq}{F:Aq->Ac JW->Ca->Am}(h:RA e F=Ab):∃ x gs sc p,e=Y_9 x gs sc p/\F x gs sc=Ab:=by
 by_cases c:e.ctorIdx=8
 .exact Za (motive_1:=λe=>RA e F=Ab->∃ x gs sc p,e=Y_9 x gs sc p/\F x gs sc=Ab) e c (λx gs sc p h=>⟨x,gs,sc,p,rfl,h⟩) h
 .exact U0 ((B7 c).symm.trans h)
noncomputable def Rk(e:AL)(F:Ac Aq->Aq->Am):Am:=if c:e.ctorIdx=5 then ZJ (motive_2:=λ_=>Am) e c λts v _=>F ts v else Ae
theorem dY{e:AL}{F:Ac Aq->Aq->Am}(h:Rk e F=Ab):∃ ts v p,e=ZI ts v p/\F ts v=Ab:=by
 by_cases c:e.ctorIdx=5
 .exact ZJ (motive_2:=λe=>Rk e F=Ab->∃ ts v p,e=ZI ts v p/\F ts v=Ab) e c (λts v p h=>⟨ts,v,p,rfl,h⟩) h
 .exact U0 ((B7 c).symm.trans h)
noncomputable def OG(e:AL)(F:Aq->Am):Am:=if c:e.ctorIdx=24 then ZL (motive_2:=λ_=>Am) e c λv _=>F v else Ae
theorem Ug{e:AL}{F:Aq->Am}(h:OG e F=Ab):∃ v p,e=ZK v p/\F v=Ab:=by
 by_cases c:e.ctorIdx=24
 .exact ZL (motive_2:=λe=>OG e F=Ab->∃ v p,e=ZK v p/\F v=Ab) e c (λv p h=>⟨v,p,rfl,h⟩) h
 .exact U0 ((B7 c).symm.trans h)
noncomputable def OB(e:AL)(F:Ao Aq->Am):Am:=if c:e.ctorIdx=3 then ZR (motive_2:=λ_=>Am) e c λo _=>F o else Ae
theorem Ud{e:AL}{F:Ao Aq->Am}(h:OB e F=Ab):∃ o p,e=ZQ o p/\F o=Ab:=by
 by_cases c:e.ctorIdx=3
 .exact ZR (motive_2:=λe=>OB e F=Ab->∃ o p,e=ZQ o p/\F o=Ab) e c (λo p h=>⟨o,p,rfl,h⟩) h
 .exact U0 ((B7 c).symm.trans h)
noncomputable def O7(e:AL)(F:Aq->Ac AL->Ac AL->Am):Am:=if c:e.ctorIdx=12 then ZN (motive_2:=λ_=>Am) e c λt xs ys _=>F t xs ys else Ae
theorem Uz{e:AL}{F:Aq->Ac AL->Ac AL->Am}(h:O7 e F=Ab):∃ t xs ys p,e=Stmt.If t xs ys p/\F t xs ys=Ab:=by
 by_cases c:e.ctorIdx=12
 .exact ZN (motive_2:=λe=>O7 e F=Ab->∃ t xs ys p,e=Stmt.If t xs ys p/\F t xs ys=Ab) e c (λt xs ys p h=>⟨t,xs,ys,p,rfl,h⟩) h
 .exact U0 ((B7 c).symm.trans h)
noncomputable def OF(e:AL)(F:Aq->Aq->Ac AL->Ac AL->Am):Am:=if c:e.ctorIdx=9 then ZM (motive_2:=λ_=>Am) e c λt it xs ys _=>F t it xs ys else Ae
theorem Uf{e:AL}{F:Aq->Aq->Ac AL->Ac AL->Am}(h:OF e F=Ab):∃ t it xs ys p,e=Stmt.For t it xs ys p/\F t it xs ys=Ab:=by
 by_cases c:e.ctorIdx=9
 .exact ZM (motive_2:=λe=>OF e F=Ab->∃ t it xs ys p,e=Stmt.For t it xs ys p/\F t it xs ys=Ab) e c (λt it xs ys p h=>⟨t,it,xs,ys,p,rfl,h⟩) h
 .exact U0 ((B7 c).symm.trans h)
noncomputable def OD(e:AL)(F:Ao Aq->Ao Aq->Am):Am:=if c:e.ctorIdx=16 then ZP (motive_2:=λ_=>Am) e c λa b _=>F a b else Ae
theorem eX{e:AL}{F:Ao Aq->Ao Aq->Am}(h:OD e F=Ab):∃ a b p,e=ZO a b p/\F a b=Ab:=by
 by_cases c:e.ctorIdx=16
 .exact ZP (motive_2:=λe=>OD e F=Ab->∃ a b p,e=ZO a b p/\F a b=Ab) e c (λa b p h=>⟨a,b,p,rfl,h⟩) h
 .exact U0 ((B7 c).symm.trans h)
noncomputable def JB{α:Type}:Ac α->(α->Ac α->Am)->Am
 |[],_=>Ae
 |x::xs,F=>F x xs
theorem Kj{l:Ac α}{F:α->Ac α->Am}(h:JB l F=Ab):∃ x xs,l=x::xs/\F x xs=Ab:=by
 cases l with
 |nil=>exact U0 h
 |cons x xs=>exact⟨x,xs,rfl,h⟩
theorem G1{l:Ac α}(h:l.isEmpty=Ab):l=[]:=Yn.mp h
noncomputable def Ee{α:Type}(l:Ac α)(F:α->Am):Am:=JB l λx r=>r.isEmpty&&F x
theorem FO{l:Ac α}{F:α->Am}(h:Ee l F=Ab):∃ x,l=[x]/\F x=Ab:=by
 obtain⟨x,r,rfl,h⟩:=Kj h;obtain⟨h1,h2⟩:=A9 h;exact⟨x,by rw[G1 h1],h2⟩
noncomputable def IS{α:Type}(l:Ac α)(F:α->α->Am):Am:=JB l λx r=>Ee r λy=>F x y
theorem K8{l:Ac α}{F:α->α->Am}(h:IS l F=Ab):∃ x y,l=[x,y]/\F x y=Ab:=by
 obtain⟨x,r,rfl,h⟩:=Kj h;obtain⟨y,rfl,h⟩:=FO h;exact⟨x,y,rfl,h⟩
noncomputable def JH(e:Aq)(F:Ah->Ac Aq->Am):Am:=IT e λf as ks _=>Ea f λg=>ks.isEmpty&&F g as
theorem Kl{e:Aq}{F:Ah->Ac Aq->Am}(h:JH e F=Ab):∃ g p as q,e=.Call (.Name g p) as [] q/\F g as=Ab:=by
 obtain⟨f,as,ks,q,rfl,h⟩:=LZ h;obtain⟨g,p,rfl,h⟩:=Et h;obtain⟨h1,h2⟩:=A9 h;exact⟨g,p,as,q,by rw[G1 h1],h2⟩
noncomputable def Mb(e:Aq)(F:Ah->Aq->Ac Aq->Am):Am:=JH e λg l=>JB l λx xs=>F g x xs
theorem NU{e:Aq}{F:Ah->Aq->Ac Aq->Am}(h:Mb e F=Ab):∃ g p x xs q,e=.Call (.Name g p) (x::xs) [] q/\F g x xs=Ab:=by
 obtain⟨g,p,as,q,rfl,h⟩:=Kl h;obtain⟨x,xs,rfl,h⟩:=Kj h;exact⟨g,p,x,xs,q,rfl,h⟩
noncomputable def Wr(st:AL)(F:Ah->Ah->Ac Aq->Am):Am:=OG st λe=>IT e λf as ks cp=>HN f λo m ap=>Ea o λx=>ks.isEmpty&&(ap.endLine==cp.line&&F x m as)
theorem eY{st:AL}{F:Ah->Ah->Ac Aq->Am}(h:Wr st F=Ab):∃ x p m ap as cp q,st=.Expr (.Call (.Attribute (.Name x p) m ap) as [] cp) q/\ap.endLine=cp.line/\F x m as=Ab:=by
 obtain⟨e,q,rfl,h⟩:=Ug h;obtain⟨f,as,ks,cp,rfl,h⟩:=LZ h;obtain⟨o,m,ap,rfl,h⟩:=Km h;obtain⟨x,p,rfl,h⟩:=Et h;obtain⟨h1,h⟩:=A9 h;obtain⟨h2,h3⟩:=A9 h;exact⟨x,p,m,ap,as,cp,q,by rw[G1 h1],eq_of_beq h2,h3⟩
noncomputable def Rm(st:AL)(F:Aq->Aq->Am):Am:=Rk st λts v=>Ee ts λt=>F t v
theorem TQ{st:AL}{F:Aq->Aq->Am}(h:Rm st F=Ab):∃ t v q,st=.Assign [t] v q/\F t v=Ab:=by
 obtain⟨ts,v,q,rfl,h⟩:=dY h;obtain⟨t,rfl,h⟩:=FO h;exact⟨t,v,q,rfl,h⟩
noncomputable def Rl(st:AL)(F:Ah->Aq->Am):Am:=Rm st λt v=>Ea t λx=>F x v
theorem TN{st:AL}{F:Ah->Aq->Am}(h:Rl st F=Ab):∃ x p v q,st=.Assign [.Name x p] v q/\F x v=Ab:=by
 obtain⟨t,v,q,rfl,h⟩:=TQ h;obtain⟨x,p,rfl,h⟩:=Et h;exact⟨x,p,v,q,rfl,h⟩
noncomputable def Xy(e:Aq)(F:Aq->Aq->Aq->Ac Aq->Ca->Am):Am:=RA e λx gs sc=>Ee gs λg=>decide (g.is_async=0)&&F x g.target g.iter g.ifs sc
theorem kX{e:Aq}{F:Aq->Aq->Aq->Ac Aq->Ca->Am}(h:Xy e F=Ab):∃ x t it ifs sc p,e=.ListComp x [⟨t,it,ifs,0⟩] sc p/\F x t it ifs sc=Ab:=by
 obtain⟨x,gs,sc,p,rfl,h⟩:=eZ h;obtain⟨g,rfl,h⟩:=FO h;obtain⟨t,it,ifs,a⟩:=g;obtain⟨h1,h2⟩:=A9 h;have h1:a=0:=AJ h1;subst h1;exact⟨x,t,it,ifs,sc,p,rfl,h2⟩
noncomputable def Lz(e:E)(F:E->Am):Am:=if c:e.ctorIdx=8 then E.no.elim (motive_1:=λ_=>Am) e c F else Ae
theorem Uy{e:E}{F:E->Am}(h:Lz e F=Ab):∃ a,e=E.no a/\F a=Ab:=by
 by_cases c:e.ctorIdx=8
 .exact E.no.elim (motive_1:=λe=>Lz e F=Ab->∃ a,e=E.no a/\F a=Ab) e c (λa h=>⟨a,rfl,h⟩) h
 .exact U0 ((B7 c).symm.trans h)
noncomputable def Mf(e:E)(F:Es->Am):Am:=if c:e.ctorIdx=9 then E.and.elim (motive_1:=λ_=>Am) e c F else Ae
theorem TR{e:E}{F:Es->Am}(h:Mf e F=Ab):∃ es,e=E.and es/\F es=Ab:=by
 by_cases c:e.ctorIdx=9
 .exact E.and.elim (motive_1:=λe=>Mf e F=Ab->∃ es,e=E.and es/\F es=Ab) e c (λes h=>⟨es,rfl,h⟩) h
 .exact U0 ((B7 c).symm.trans h)
noncomputable def Mu(e:E)(F:Es->Am):Am:=if c:e.ctorIdx=10 then E.or.elim (motive_1:=λ_=>Am) e c F else Ae
theorem Ux{e:E}{F:Es->Am}(h:Mu e F=Ab):∃ es,e=E.or es/\F es=Ab:=by
 by_cases c:e.ctorIdx=10
 .exact E.or.elim (motive_1:=λe=>Mu e F=Ab->∃ es,e=E.or es/\F es=Ab) e c (λes h=>⟨es,rfl,h⟩) h
 .exact U0 ((B7 c).symm.trans h)
noncomputable def Nf(e:E)(F:DB->E->E->Am):Am:=if c:e.ctorIdx=11 then E.cmp.elim (motive_1:=λ_=>Am) e c F else Ae
theorem TK{e:E}{F:DB->E->E->Am}(h:Nf e F=Ab):∃ o a b,e=E.cmp o a b/\F o a b=Ab:=by
 by_cases c:e.ctorIdx=11
 .exact E.cmp.elim (motive_1:=λe=>Nf e F=Ab->∃ o a b,e=E.cmp o a b/\F o a b=Ab) e c (λo a b h=>⟨o,a,b,rfl,h⟩) h
 .exact U0 ((B7 c).symm.trans h)
noncomputable def OH(e:E)(F:DB->DB->E->E->E->Am):Am:=if c:e.ctorIdx=12 then E.cmp2.elim (motive_1:=λ_=>Am) e c F else Ae
theorem fB{e:E}{F:DB->DB->E->E->E->Am}(h:OH e F=Ab):∃ o q a b c,e=E.cmp2 o q a b c/\F o q a b c=Ab:=by
 by_cases c:e.ctorIdx=12
 .exact E.cmp2.elim (motive_1:=λe=>OH e F=Ab->∃ o q a b c,e=E.cmp2 o q a b c/\F o q a b c=Ab) e c (λo q a b c h=>⟨o,q,a,b,c,rfl,h⟩) h
 .exact U0 ((B7 c).symm.trans h)
noncomputable def Ng(e:E)(F:BI->Es->Am):Am:=if c:e.ctorIdx=15 then E.bi.elim (motive_1:=λ_=>Am) e c F else Ae
theorem TL{e:E}{F:BI->Es->Am}(h:Ng e F=Ab):∃ b as,e=E.bi b as/\F b as=Ab:=by
 by_cases c:e.ctorIdx=15
 .exact E.bi.elim (motive_1:=λe=>Ng e F=Ab->∃ b as,e=E.bi b as/\F b as=Ab) e c (λb as h=>⟨b,as,rfl,h⟩) h
 .exact U0 ((B7 c).symm.trans h)
noncomputable def O8(e:E)(F:Am->Am):Am:=if c:e.ctorIdx=1 then E.bl.elim (motive_1:=λ_=>Am) e c F else Ae
theorem UB{e:E}{F:Am->Am}(h:O8 e F=Ab):∃ b,e=E.bl b/\F b=Ab:=by
 by_cases c:e.ctorIdx=1
 .exact E.bl.elim (motive_1:=λe=>O8 e F=Ab->∃ b,e=E.bl b/\F b=Ab) e c (λb h=>⟨b,rfl,h⟩) h
 .exact U0 ((B7 c).symm.trans h)
noncomputable def IR(e:E)(F:Ag->Am):Am:=if c:e.ctorIdx=4 then E.v.elim (motive_1:=λ_=>Am) e c F else Ae
theorem K7{e:E}{F:Ag->Am}(h:IR e F=Ab):∃ i,e=E.v i/\F i=Ab:=by
 by_cases c:e.ctorIdx=4
 .exact E.v.elim (motive_1:=λe=>IR e F=Ab->∃ i,e=E.v i/\F i=Ab) e c (λi h=>⟨i,rfl,h⟩) h
 .exact U0 ((B7 c).symm.trans h)
noncomputable def OQ(e:E):Am:=decide (e.ctorIdx=0)
theorem gO{e:E}(h:OQ e=Ab):e=.O:=E.O.elim (motive_1:=λe=>e=.O) e (AJ h) rfl
noncomputable def D0:Aq->Am
 |.Starred _ _=>Ae
 |_=>Ab
noncomputable def UC:Aq->Am
 |.Slice _ _ _ _=>Ae
 |_=>Ab
noncomputable def Ot:Aq->Am
 |.Set _ _ _=>Ae
 |_=>Ab
noncomputable def F8:Aq->Am
 |.ListComp _ _ _ _=>Ae
 |.SetComp _ _ _ _=>Ae
 |.DictComp _ _ _ _ _=>Ae
 |_=>Ab
noncomputable def WT(tu:Am):Aq->Am
 |.Tuple ..=>tu
 |.Name ..=>!tu
 |_=>Ae
noncomputable def wX:Aq->Am
 |.Tuple _ _ _=>Ab
 |_=>Ae
noncomputable def Ws:Aq->Am
 |.Tuple _ _ _=>Ae
 |_=>Ab
noncomputable def Sb:Es->Ao E
  | .cons a r=>(match r with
    |.nil=>Aa a
    | _=>Af)
  |.nil=>Af
theorem mE{a:E}(q:Sb as=Aa a):as=.cons a .nil:=by
 cases as with
 |nil=>cases q
 |cons b r=>
  cases r with
  |nil=>cases q;rfl
  |cons=>cases q
noncomputable def Nv(b:BI)(e:E):Ao E:=match e with
  |.bi b' as=>if b'=b then Sb as else Af
  |_=>Af
noncomputable def isZ:E->Am
 |.int i=>i==0
 |_=>Ae
noncomputable def Ou(c:E):Ao E:=match c with
  |.cmp op x y=>if (decide (op=.NotEq)&&isZ y)=Ab then (Nv .len x).bind (Nv .list) else Af
  |_=>Af
theorem Uo{b:BI}{e a:E}(h:Nv b e=Aa a):e=.bi b (.cons a .nil):=by
 cases e with
 |bi b' as=>
  replace h:(if b'=b then Sb as else Af)=Aa a:=h
  by_cases z:b'=b
  .rw[Au z]at h;rw[z,mE h]
  .rw[Ay z]at h;cases h
 |_=>exact nomatch (show Af=Aa a from h)
theorem dZ{c a:E}(h:Ou c=Aa a):c=.cmp .NotEq (.bi .len (.cons (.bi .list (.cons a .nil)) .nil)) (.int 0):=by
 cases c with
 |cmp op x y=>
  replace h:(if (decide (op=.NotEq)&&isZ y)=Ab then (Nv .len x).bind (Nv .list) else Af)=Aa a:=h
  by_cases z:(decide (op=.NotEq)&&isZ y)=Ab
  .rw[Au z]at h;obtain⟨z1,z2⟩:=Bool.and_eq_true_iff.mp z;obtain rfl:=AJ z1;obtain⟨x1,e1,e2⟩:=AC.mp h;rw[Uo e1,Uo e2];cases y with
   |int i=>rw[eq_of_beq (show (i==0)=Ab from z2)]
   |_=>cases z2
  .rw[Ay z]at h;cases h
 |_=>exact nomatch (show Af=Aa a from h)
noncomputable def Im:Aq->Am
 |.UnaryOp _ _ _=>Ae
 |.BoolOp _ _ _=>Ae
 |.IfExp _ _ _ _=>Ae
 |.Compare _ _ _ _=>Ae
 |_=>Ab
noncomputable def Ro:Ki->Ao Ah
 |.int=>Aa "int"
 |.bool=>Aa "bool"
 |.str=>Aa "str"
 |.list=>Aa "list"
 |.tuple=>Aa "tuple"
 |_=>Af
noncomputable def Rr:BI->Ao Ah
 |.len=>Aa "len"
 |.abs=>Af
 |.max=>Af
 |.min=>Aa "min"
 |.int=>Af
 |.list=>Aa "list"
 |.tuple=>Aa "tuple"
 |.all=>Aa "all"
 |.any=>Af
 |.sum=>Af
 |.sorted=>Af
 |.str=>Aa "str"
 |.tmin=>Af
 |.tmax=>Af
 |_=>Af
noncomputable def Ra(o scope:Ca):Ca:={scope with names:=scope.names.map λ(n,k)=>if (k==.free&&o.kind==.function&&o.names.lookup n==Aa .cell) then (n,.cell) else (n,k)}
noncomputable def Nt:Ac Ag->Ac Ah->Ac Ah->Ac Ah
 |t::ts,x::xs,N=>Nt ts xs ((N.map λy=>if y==x then N.getD t x else y).set t x)
 |_,_,N=>N
noncomputable def JC:Ac Ah->Am
 |[]=>Ab
 |x::xs=>!xs.contains x&&JC xs
noncomputable def Ph(T:Tc)(scope:Ca)(ts:Ac Ag)(N':Ac Ah):Am:=
  scope.kind==.function&&scope.names.all (λy=>scope.names.lookup y.1==Aa y.2) &&
  scope.names.all (λy=>y.2 != .free||T.sc.names.lookup y.1==Aa .cell||T.sc.names.lookup y.1==Aa .free) &&
  N'.length==T.N.length&&JC N' &&
  (BO N'.length).all λi=>ts.contains i||(match N'[i]? with
    |some x=>(scope.names.lookup x != Aa .local&&scope.names.lookup x != Aa .cell)&&(scope.names.lookup x != Aa .free||T.N[i]? == Aa x)
    | none=>Ab)
noncomputable def GX:Ac Aq->Ao (Ac Ah)
 |[]=>Aa []
 |.Name x _::r=>(GX r).map (x :: ·)
 |_=>Af
noncomputable def nk(ys:Ac Aq):Ac Ah:=(GX ys).getD []
noncomputable def tgO(T:Tc)(scope:Ca)(t:Ag)(x:Ah):Am:=T.N[t]? == Aa x&&(T.sc.names.lookup x==Aa .local||(T.sc.names.lookup x==Aa .cell&&scope.names.lookup x==Aa .cell))
noncomputable def pz(T:Tc):Ac Ag->Ac Ah->Am
 |[],[]=>Ab
 |t::ts,x::xs=>T.N[t]? == Aa x&&Ly T x&&pz T ts xs
 |_,_=>Ae
noncomputable def Tc.blk(T:Tc)(scope:Ca)(ts:Ac Ag)(xs:Ac Ah):Tc:={T with sc:=Ra T.sc scope,N:=Nt ts xs T.N,tp:=Ae}
noncomputable def yX(f:Ah):Am:=(f==("triple" : Ah)||(f==("points" : Ah)||f==("row" : Ah)))
noncomputable def Mg:Aq->Am
 |.Call _ [] _ _=>Ae
 |_=>Ab
theorem Oe{o:Aq}{f:Ah}{w:Fo Al}(h:Mg o=Ab):BZ o f env w=w:=by
 cases o with
 |Call g as ks p=>
  cases as with
  |nil=>cases h
  |cons=>cases g<;>rfl
 |_=>rfl
noncomputable def td(l:Ac (Ah×Ag))(g:Ah)(c:Ag):Am:=l.any λp=>p.1==g&&p.2==c
noncomputable def È(T:Tc)(t:Ah)(k:Ag):Am:=t==O9 k&&decide (k<3)&&zc T t&&FU t
noncomputable def zO(T:Tc)(t:Ah):Ki->Am
 |.verr=>t==("ValueError" : Ah)&&xu T t
 |.cls c=>td T.exs t c&&zc T t&&FU t
 |_=>Ae
noncomputable def XM:Aq->Ao (Aq×Aq×AE)
  | .Compare x ops ys p=>(match ops with
    | [.Lt]=>(match ys with
      |[y]=>Aa (x,y,p)
      | _=>Af)
    | _=>Af)
  |_=>Af
noncomputable def RC(_:Es):Ao (E×E):=Af
noncomputable def RS(_:Tc)(_:Tc->Aq->E->Am)(_:Aq)(_:Ac DB)(_:Ac Aq)(_:BI)(_:Es):Am:=Ae
noncomputable def XH(_:Tc)(_:Aq)(_:BI)(_:Es):Am:=Ae
noncomputable def VJ:Aq->Ao (Ah×AE)
 |.Name x p=>Aa (x,p)
 |_=>Af
noncomputable def VL:Aq->Ao (Aq×Ac Aq×Ac CV×AE)
 |.Call f as ks p=>Aa (f,as,ks,p)
 |_=>Af
noncomputable def yG:Aq->Ao (Ac Aq×Ag×AE)
 |.Tuple es k p=>Aa (es,k,p)
 |_=>Af
noncomputable def one{α:Type}:Ac α->Ao α
 |[a]=>Aa a
 |_=>Af
noncomputable def XI(e:Aq):Ao (Ah×Ah×Ac Aq):=(VL e).bind λc=>(VJ c.1).bind λg=>(one c.2.1).bind λa=>(VL a).bind λd=>(VJ d.1).bind λh=>if (c.2.2.1.isEmpty&&d.2.2.1.isEmpty)=Ab then Aa (g.1,h.1,d.2.1) else Af
noncomputable def W7(e:Aq):Ao (Ah×Ah×Aq×Aq):=match XI e with
  | some (g,h,bs)=>(match bs with
    |[x,y]=>Aa (g,h,x,y)
    | _=>Af)
  |none=>Af
noncomputable def RF(_:Es):Ao (E×E):=Af
noncomputable def W6(e:Aq):Ao (Ah×Ah×Aq):=match XI e with
  | some (g,h,bs)=>(match bs with
    |[x]=>Aa (g,h,x)
    | _=>Af)
  |none=>Af
noncomputable def Pj:Es->Ao (Ah×E)
  | .cons a r=>(match a with
    | .str s=>(match r with
      | .cons b r'=>(match r' with
        | .nil=>(match b with
          |.v _=>Af
          | b=>Aa (s,b))
        | _=>Af)
      | _=>Af)
    | _=>Af)
  |.nil=>Af
theorem mW{s:Ah}{a:E}(q:Pj as=Aa (s,a)):as=.cons (.str s) (.cons a .nil)/\∀ U r,top U a r=r:=by
 cases as with
 |nil=>cases q
 |cons a r=>
  cases a with
  |str s=>
   cases r with
   |nil=>cases q
   |cons b r'=>
    cases r' with
    |nil=>cases b<;>first|(cases q;exact⟨rfl,λ_ _=>rfl⟩)|cases q
    |cons=>cases q
  |_=>cases q
noncomputable def Pi:Es->Ao (E×Ah)
  | .cons a r=>(match r with
    | .cons b r'=>(match b with
      | .str y=>(match r' with
        |.nil=>Aa (a,y)
        | _=>Af)
      | _=>Af)
    | _=>Af)
  |.nil=>Af
theorem mV{s:Ah}{a:E}(q:Pi as=Aa (a,s)):as=.cons a (.cons (.str s) .nil):=by
 cases as with
 |nil=>cases q
 |cons a r=>
  cases r with
  |nil=>cases q
  |cons b r'=>
   cases b with
   |str s=>
    cases r' with
    |nil=>cases q;rfl
    |cons=>cases q
   |_=>cases q
noncomputable def RE(_:Es):Ao E:=Af
noncomputable def two(e:Aq):Ao (Aq×Aq):=(yG e).bind λt=>match t.1 with
  |[a,b]=>Aa (a,b)
  |_=>Af
noncomputable def Se(_:Es):Ao E:=Af
noncomputable def Xk(_:Aq):Ao Aq:=Af
noncomputable def Xh:Aq->Ao (Aq×Ai)
  | .Subscript v s _=>(match s with
    | .Slice lo hi st _=>(match lo with
      | some (.Constant (.int k) _ _)=>(match hi with
        | none=>(match st with
          |some (.Constant (.int j) _ _)=>if j=2 then Aa (v,k) else Af
          | _=>Af)
        | some _=>Af)
      | _=>Af)
    | _=>Af)
  |_=>Af
noncomputable def RD(_:Es):Ao (E×Ai):=Af
mutual
noncomputable def Be:Ag->Tc->Aq->E->Am
  |0,_,_,_=>Ae
  |n+1,T,e,c=>match c with
    |.O=>G3 e λc=>decide (c=.none)
    |.bl b=>G3 e λc=>decide (c=.bool b)
    |.int i=>G3 e λc=>decide (c=.int i)
    |.str x=>G3 e λc=>decide (c=.str x)
    |.v i=>Ea e λx=>vh T x i
    |.glob g=>Ea e λx=>td T.gls x g&&zc T x&&FU x
    |.B op a b=>OI e λx op' y=>decide (op'=op)&&Be n T x a&&Be n T y b
    |.un op a=>Jb e λo x=>decide (o=.USub)&&(decide (op=.USub)&&Be n T x a)
    |.no a=>Jb e λo x=>decide (o=.Not)&&Be n T x a
    |.and es=>IU e λo xs _=>decide (o=.And)&&(Id n T xs es && !xs.isEmpty)
    |.or es=>IU e λo xs _=>decide (o=.Or)&&(Id n T xs es && !xs.isEmpty)
    |.cmp op a b=>Me e λx os ys=>Ee os λop'=>Ee ys λy=>decide (op'=op) && !behindInMarks op y&&Be n T x a&&Be n T y b
    |.cmp2 mw tj a b c=>Ae
    |.ite c a b=>Ae
    |.call f as=>Mb e λg x xs=>(T.fns.any λp=>p.1==g&&p.2.1==f&&p.2.2==xs.length+1)&&decide (xs.length<900)&&zc T g&&FU g&&Id n T (x::xs) as
    |.bi b as=>(Mb e λg x xs=>Rr b==Aa g&&xu T g&&Id n T (x::xs) as)||XH T e b as||(match RF as with|some (a,c)=>(match W7 e with|some (g,h,x,y)=>decide (b=.list)&&g==("list" : Ah)&&h==("range" : Ah)&&xu T g&&xu T h&&D0 x&&D0 y&&Be n T x a&&Be n T y c|none=>Ae)|none=>Ae)||(match RD as with|some (a,k)=>(match Xh e with|some (x,j)=>decide (b=.stp)&&decide (j=k)&&decide (0<=k)&&Be n T x a|none=>Ae)|none=>Ae)||(match RE as with|some a=>(match W6 e with|some (g,h,x)=>decide (b=.lset)&&g==("len" : Ah)&&h==("set" : Ah)&&xu T g&&xu T h&&D0 x&&Be n T x a|none=>Ae)|none=>Ae)||(match RC as with|some (a,c)=>(match XM e with|some (x,y,_)=>decide (b=.tlt) && !behindInMarks .Lt y&&Be n T x a&&Be n T y c|none=>Ae)|none=>Ae)||(match Pj as with|some (s,a)=>IT e λf l ks cp=>ks.isEmpty&&(HN f λo m ap=>m==("join" : Ah)&&ap.endLine==cp.line&&(G3 o λc=>decide (c=.str s)&&decide (b=.sjoin)&&(Ee l λy=>D0 y&&Be n T y a)))|none=>Ae)||(match Pi as with|some (a,s)=>IT e λf l ks cp=>ks.isEmpty&&(HN f λo m ap=>m==("split" : Ah)&&ap.endLine==cp.line&&Mg o&&Be n T o a&&(Ee l λy=>G3 y λc=>decide (c=.str s)&&decide (b=.ssplit)))|none=>Ae)||(match Se as with|some a=>(match Xk e with|some x=>decide (b=.rvs)&&Be n T x a|none=>Ae)|none=>Ae)
    |.isi a ks=>(Ee ks λk=>JH e λg l=>IS l λx t=>Ea t λt=>g==("isinstance" : Ah)&&xu T g&&Ro k==Aa t&&xu T t&&D0 x&&Be n T x a)||(Ee ks λk=>JH e λg l=>IS l λx t=>Ea t λt=>g==("isinstance" : Ah)&&xu T g&&D0 x&&Be n T x a&&zO T t k)
    |.x a i=>Nd e λx y=>UC y&&Be n T x a&&Be n T y i
    |.sl a lo hi=>Nd e λx s=>Ry s λl h st=>st.isNone&&(Be n T x a&&nv n T l lo&&nv n T h hi)
    |.H es=>Lo e λxs=>Id n T xs es&&decide (xs.length<=1000)
    |.L es=>OE e λxs=>Id n T xs es&&decide (xs.length<=1000)
    |.comp elt t it c=>Xy e λx tg iter ifs scope=>Ea tg λy=>qh n T Ae iter it&&Ot iter&&Ph T scope [t] (Nt [t] [y] T.N)&&tgO (T.blk scope [t] [y]) scope t y&&jj n (T.blk scope [t] [y]) ifs c&&Be n (T.blk scope [t] [y]) x elt
    |.compT elt ts it c=>Ae
    |.tupI _=>Ae
    |.dnew=>Ae
    |.fld o f=>HN e λw g _=>g==f&&yX f&&Mg w&&Be n T w o
    |.ofl o f=>HN e λw g _=>g==f&&f==("triple" : Ah)&&Mg w&&Be n T w o
    |.iso a k=>JH e λg l=>IS l λx t=>Ea t λt=>g==("isinstance" : Ah)&&xu T g&&D0 x&&Be n T x a&&È T t k
    |.meth m ms o=>IT e λf l ks cp=>ks.isEmpty&&(l.isEmpty&&(HN f λw g ap=>g==m&&(m==("told" : Ah)||m==("shown" : Ah))&&ap.endLine==cp.line&&Mg w&&Be n T w o&&ms.all λq=>T.fns.any λp=>(Gb.lookup p.1==Aa (q.1,m))&&p.2.1==q.2&&p.2.2==1))
    |.mkob _ _=>Ae
    |.mkn c as=>Mb e λg x xs=>È T g c&&xs.length==1&&Id n T (x::xs) as
    |.mkx _ _=>Ae
noncomputable def Eb:Ag->Tc->Aq->E->Am
 |0,_,_,_=>Ae
 |n+1,T,e,c=>(Jb e λo x=>decide (o=.Not)&&(Lz c λa=>Eb n T x a)) ||
  (IU e λo xs _=>(decide (o=.And)&&(Mf c λes=>ya n T xs es && !xs.isEmpty))||(decide (o=.Or)&&(Mu c λes=>ya n T xs es && !xs.isEmpty))) ||
  (Me e λx os ys=>(Nf c λop a b=>Ee os λop'=>Ee ys λy=>decide (op'=op) && !behindInMarks op y&&Be n T x a&&Be n T y b) ||
   (OH c λmw tj a b c=>IS os λo1 o2=>IS ys λy z=>decide (o1=mw)&&decide (o2=tj) && !lastMarks [mw,tj] [y,z]&&Be n T x a&&Be n T y b&&Be n T z c) ||
   (Ng c λb as=>RS T (Be n) x os ys b as)) ||
  Im e&&((match Ou c with|some a=>Be n T e a|none=>Ae)||Be n T e c)
noncomputable def ya:Ag->Tc->Ac Aq->Es->Am
  |0,_,_,_=>Ae
  |n+1,T,xs,es=>match xs,es with
    |[],.nil=>Ab
    |x::xs,.cons e es=>Eb n T x e&&ya n T xs es
    |_,_=>Ae
noncomputable def Id:Ag->Tc->Ac Aq->Es->Am
  |0,_,_,_=>Ae
  |n+1,T,xs,es=>match xs,es with
    |[],.nil=>Ab
    |x::xs,.cons e es=>D0 x&&Be n T x e&&Id n T xs es
    |_,_=>Ae
noncomputable def nv:Ag->Tc->Ao Aq->E->Am
  |0,_,_,_=>Ae
  |n+1,T,x,e=>match x with
    |none=>OQ e
    |some x=>!(OQ e)&&Be n T x e
noncomputable def jj:Ag->Tc->Ac Aq->E->Am
  |0,_,_,_=>Ae
  |n+1,T,xs,e=>match xs with
    |[]=>O8 e λb=>b
    |x::r=>r.isEmpty&&Eb n T x e
noncomputable def qh:Ag->Tc->Am->Aq->I->Am
  |0,_,_,_,_=>Ae
  |n+1,T,tu,e,i=>match i with
    |.e a=>Be n T e a
    |.rng a=>JH e λg l=>Ee l λx=>g==("range" : Ah)&&xu T g&&D0 x&&Be n T x a
    |.enm a=>Ae
    |.zip a b=>Ae
    |.rng2 a b=>JH e λg l=>IS l λx y=>g==("range" : Ah)&&xu T g&&D0 x&&D0 y&&Be n T x a&&Be n T y b
    |.zip3 a b c=>Ae
end
noncomputable def IX:Aq->Ao (Ah×AE)
 |.Name x p=>Aa (x,p)
 |_=>Af
theorem Jx{e:Aq}{t:Ah×AE}(h:IX e=Aa t):e=.Name t.1 t.2:=by
 cases e with
 |Name x p=>cases h;rfl
 |_=>exact nomatch (show Af=Aa t from h)
noncomputable def WY:Aq->Ao (Aq×Ac Aq×AE)
  | .Call f as ks p=>(match ks with
    |[]=>Aa (f,as,p)
    | _=>Af)
  |_=>Af
theorem iE{e:Aq}{t:Aq×Ac Aq×AE}(h:WY e=Aa t):e=.Call t.1 t.2.1 [] t.2.2:=by
 cases e with
 |Call f as ks p=>
  cases ks with
  |nil=>cases h;rfl
  |cons=>exact nomatch (show Af=Aa t from h)
 |_=>exact nomatch (show Af=Aa t from h)
noncomputable def Nu{α:Type}:Ac α->Ao (α×α)
 |[a,b]=>Aa (a,b)
 |_=>Af
theorem N6{l:Ac α}{t:α×α}(h:Nu l=Aa t):l=[t.1,t.2]:=by
 cases l with
 |nil=>exact nomatch (show Af=Aa t from h)
 |cons a l=>
  cases l with
  |nil=>exact nomatch (show Af=Aa t from h)
  |cons b l=>
   cases l with
   |nil=>cases h;rfl
   |cons=>exact nomatch (show Af=Aa t from h)
noncomputable def Xz(e:Aq)(F:Ah->Ah->Aq->Am):Am:=JH e λg l=>IS l λa t=>Ea a λv=>F g v t
theorem kY{e:Aq}{F:Ah->Ah->Aq->Am}(h:Xz e F=Ab):∃ g p v q t r,e=.Call (.Name g p) [.Name v q,t] [] r/\F g v t=Ab:=by
 obtain⟨g,p,l,r,rfl,h⟩:=Kl h;obtain⟨a,t,rfl,h⟩:=K8 h;obtain⟨v,q,rfl,h⟩:=Et h;exact⟨g,p,v,q,t,r,rfl,h⟩
noncomputable def RN(T:Tc):Ac Aq->Ac Ki->Am
  |[],ks=>ks.isEmpty
  | e::r,ks=>JB ks λk ks=>Ea e λt=>(match k with
    |.cls c=>td T.exs t c&&zc T t&&FU t
    | _=>Ae)&&RN T r ks
noncomputable def Xd(T:Tc)(g:Ah)(f:Ag):Am:=(T.fns.any λp=>p.1==g&&p.2.1==f&&p.2.2==1001)&&zc T g&&FU g
noncomputable def No(f:Aq->E->Am):Ac Aq->Es->Am
 |[],.nil=>Ab
 |x::xs,.cons e es=>D0 x&&f x e&&No f xs es
 |_,_=>Ae
noncomputable def yT(T:Tc)(t:Aq)(ks:Ac Ki):Am:=JB ks λk r=>match k with
  |.verr=>r.isEmpty&&(Ea t λt=>t==("ValueError" : Ah)&&xu T t)
  | .cls c=>(match r with
    |[]=>Ea t λt=>td T.exs t c&&zc T t&&FU t
    | k2::r=>Lo t λts=>RN T ts (.cls c::k2::r)&&decide (ts.length<=1000))
  |_=>Ae
noncomputable def Ri(e:E)(F:Ai->Am):Am:=if c:e.ctorIdx=2 then E.int.elim (motive_1:=λ_=>Am) e c F else Ae
theorem fA{e:E}{F:Ai->Am}(h:Ri e F=Ab):∃ b,e=E.int b/\F b=Ab:=by
 by_cases c:e.ctorIdx=2
 .exact E.int.elim (motive_1:=λe=>Ri e F=Ab->∃ b,e=E.int b/\F b=Ab) e c (λb h=>⟨b,rfl,h⟩) h
 .exact U0 ((B7 c).symm.trans h)
noncomputable def Sc:Es->(E->Es->Am)->Am
 |.nil,_=>Ae
 |.cons a r,F=>F a r
theorem UA{l:Es}{F:E->Es->Am}(h:Sc l F=Ab):∃ a r,l=.cons a r/\F a r=Ab:=by
 cases l with
 |nil=>exact U0 h
 |cons a r=>exact⟨a,r,rfl,h⟩
noncomputable def W3:Es->Am
 |.nil=>Ab
 |.cons _ _=>Ae
theorem lD{l:Es}(h:W3 l=Ab):l=.nil:=by
 cases l with
 |nil=>rfl
 |cons=>exact U0 h
noncomputable def Rz(e:Aq)(m:Ah)(F:Ah->Am):Am:=IT e λf as ks cp=>HN f λo g ap=>Ea o λy=>Ee as λt=>G3 t λk=>ks.isEmpty&&(decide (k=.bool Ab)&&(g==m&&(ap.endLine==cp.line&&F y)))
theorem Ue{e:Aq}{m:Ah}{F:Ah->Am}(h:Rz e m F=Ab):∃ y p1 p2 k1 p3 p4,e=.Call (.Attribute (.Name y p1) m p2) [.Constant (.bool Ab) k1 p3] [] p4/\(p2.endLine==p4.line)=Ab/\F y=Ab:=by
 replace h:=LZ h;obtain⟨f,as,ks,cp,rfl,h⟩:=h;replace h:=Km h;obtain⟨o,g,ap,rfl,h⟩:=h;replace h:=Et h;obtain⟨y,p,rfl,h⟩:=h;replace h:=FO h;obtain⟨t,rfl,h⟩:=h;replace h:=IH h;obtain⟨k,u,q,rfl,h⟩:=h;replace h:=A9 h;obtain⟨h1,h⟩:=h;replace h:=A9 h;obtain⟨h2,h⟩:=h;replace h:=A9 h;obtain⟨h3,h⟩:=h;replace h:=A9 h;obtain⟨h4,h⟩:=h;obtain rfl:=Yn.mp h1;obtain rfl:=AJ h2;obtain rfl:=eq_of_beq h3;exact⟨y,p,ap,u,q,cp,rfl,h4,h⟩
noncomputable def Rj(c:E)(b:BI)(F:Ag->Am):Am:=Ng c λg as=>decide (g=b)&&(Sc as λa r=>IR a λi=>Sc r λt r=>O8 t λx=>x&&(W3 r&&F i))
theorem TJ{c:E}{b:BI}{F:Ag->Am}(h:Rj c b F=Ab):∃ i,c=.bi b (.cons (.v i) (.cons (.bl Ab) .nil))/\F i=Ab:=by
 replace h:=TL h;obtain⟨g,as,rfl,h⟩:=h;replace h:=A9 h;obtain⟨h1,h⟩:=h;obtain rfl:=AJ h1;replace h:=UA h;obtain⟨a,r,rfl,h⟩:=h;replace h:=K7 h;obtain⟨i,rfl,h⟩:=h;replace h:=UA h;obtain⟨t,r,rfl,h⟩:=h;replace h:=UB h;obtain⟨x,rfl,h⟩:=h;replace h:=A9 h;obtain⟨h2,h⟩:=h;replace h:=A9 h;obtain⟨h3,h⟩:=h;obtain rfl:=lD h3;obtain rfl:x=Ab:=h2;exact⟨i,rfl,h⟩
noncomputable def E3:Ag->Tc->Ag->Aq->E->Am
  |0,_,_,_,_=>Ae
  |n+1,T,x,e,c=>match c with
    |.bl b=>G3 e λk=>decide (k=.bool b)
    |.no a=>Jb e λo y=>decide (o=.Not)&&E3 n T x y a
    | .and es=>(match es with
      |.nil=>Ae
      | .cons a r=>(match r with
        |.nil=>IU e λo l _=>decide (o=.And)&&(Ee l λy=>E3 n T x y a)
        | .cons a' as=>IU e λo l p=>decide (o=.And)&&(JB l λy l=>JB l λz zs=>E3 n T x y a&&E3 n T x (.BoolOp .And (z::zs) p) (.and (.cons a' as)))))
    |.isi a ks=>IR a λi=>Xz e λg v t=>i==x&&g==("isinstance" : Ah)&&xu T g&&vh T v x&&yT T t ks
    | .call f as=>(match as with
      |.nil=>Ae
      | .cons a r=>(match r with
        |.nil=>IR a λi=>JH e λg l=>Ee l λw=>Ea w λv=>Xd T g f&&vh T v i
        | .cons _ _=>Ae))
    |.str s=>G3 e λk=>decide (k=.str s)
    |.L es=>OE e λxs=>No (E3 n T x) xs es&&decide (xs.length<=1000)
    |.H es=>Lo e λxs=>No (E3 n T x) xs es&&decide (xs.length<=1000)
    |.B op a b=>decide (op=.Add)&&(IR a λi=>OI e λl o y=>decide (o=.Add)&&(Ea l λv=>vh T v i&&E3 n T x y b))
    |.x a b=>IR a λj=>Rj b .index λi=>Nd e λs q=>Ea s λz=>Rz q "index" λy=>vh T z j&&vh T y i
    |.fld o f=>IR o λi=>HN e λw g _=>Ea w λv=>i==x&&g==f&&(f==("triple" : Ah)||(f==("points" : Ah)||f==("row" : Ah)))&&vh T v x
    |_=>Ae
noncomputable def hc1(T:Tc)(y:Aq)(e:E):Am:=Nf e λo x k=>decide (o=.NotEq)&&(Rj x .count λi=>Ri k λk=>Me y λl os cs=>decide (os=[.NotEq])&&(Ee cs λc=>G3 c λc=>decide (c=.int k)&&(Rz l "count" λz=>vh T z i)))
noncomputable def Mj(n:Ag)(T:Tc)(x:Ag)(y:Aq)(e:E):Am:=hc1 T y e||(Jb y λo z=>decide (o=.Not)&&(Lz e λa=>Im z&&E3 n T x z a))||(Im y&&E3 n T x y e)
noncomputable def JD(n:Ag)(T:Tc)(x:Ag):Ac Aq->Es->Am
 |[],.nil=>Ab
 |y::ys,.cons e es=>Mj n T x y e&&JD n T x ys es
 |_,_=>Ae
noncomputable def Wx(n:Ag)(T:Tc)(x:Ag)(e:Aq)(c:E):Am:=(IU e λo ys _=>(decide (o=.Or)&&(Mu c λes=>JD n T x ys es && !ys.isEmpty))||(decide (o=.And)&&(Mf c λes=>JD n T x ys es && !ys.isEmpty)))||Mj n T x e c
noncomputable def W9:E->Am
 |.isi _ _=>Ab
 |.bl _=>Ab
 |.str _=>Ab
 |.x _ _=>Ab
 |_=>Ae
noncomputable def zP:E->Am
 |.L _=>Ab
 |_=>Ae
noncomputable def yS(n:Ag)(T:Tc)(x:Ag)(v:Aq)(e:E):Am:=(IR e λi=>Ea v λy=>vh T y i)||(W9 e&&E3 n T x v e)
noncomputable def Lr:Ag->Tc->Ag->Ac AL->Ss->Am
  |0,_,_,_,_=>Ae
  |n+1,T,x,vo,ss=>match ss with
    |.nil=>vo.isEmpty
    | .cons s ss=>JB vo λst r=>(match s with
      |.asg i b e=>Rl st λy v=>T.N[i]? == Aa y&&Ly T y&&F8 v&&E3 n T x v e&&(!b||zP e)
      | .ife c a b=>(match b with
        |.nil=>O7 st λt xs ys=>ys.isEmpty&&(Wx n T x t c&&Lr n T x xs a)
        | .cons _ _=>Ae)
      | .ret e=>OB st λo=>(match o with
        |some v=>yS n T x v e
        | none=>Ae)
      |.app _ _=>Ae
      | _=>Ae)&&Lr n T x r ss
noncomputable def zB:E->Am
  | .bi b as=>(match b,as with
    |.len,.nil=>Ab
    | _,_=>Ae)
  |_=>Ae
noncomputable def zA:S->Am
 |.expr e=>zB e
 |_=>Ae
noncomputable def Pf:Ss->Am
 |.cons s _=>zA s
 |.nil=>Ae
noncomputable def ý(T:Tc)(g:Ah)(c:Ag):Am:=td T.exs g c&&td T.rzs g c&&zc T g&&FU g
mutual
noncomputable def Jd:Ag->Tc->AL->S->Am
  |0,_,_,_=>Ae
  |n+1,T,st,s=>match s with
    |.pass=>Ae
    |.brk=>Ae
    |.cont=>Ae
    |.asg i _ e=>Rl st λx v=>T.N[i]? == Aa x&&Ly T x&&Be n T v e
    |.asgT ts e=>Rm st λt v=>Lo t λys=>(GX ys).isSome&&pz T ts (nk ys)&&(Ws v||CD 4 ys.length)&&Be n T v e
    |.expr e=>OG st λv=>F8 v&&Be n T v e
    |.ret e=>OB st λo=>match o with|some v=>Be n T v e|none=>Ae
    |.retN=>Ae
    |.ife c a b=>O7 st λt xs ys=>Eb n T t c&&zu n T xs a&&zu n T ys b
    |.fors t it body=>OF st λtg iter xs ys=>ys.isEmpty&&(Ea tg λx=>pz T [t] [x]&&Ot iter&&qh n T Ae iter it&&zu n T xs body)
    |.forT ts it body=>OF st λtg iter xs zs=>zs.isEmpty&&(Lo tg λys=>(GX ys).isSome&&pz T ts (nk ys)&&Ot iter&&qh n T Ab iter it&&zu n T xs body)
    |.forO _ _ _=>Ae
    |.whl c body=>Ae
    |.rais c as=>!(T.rzs.any λp=>p.2==c)||(OD st λa b=>b.isNone&&(match a with|some e=>Mb e λg x xs=>td T.rzs g c&&zc T g&&FU g&&decide (xs.length<=1000)&&Id n T (x::xs) as|none=>Ae))
    |.tryx _ _ _ _=>Ae
    |.try2 _ _ _ _ _ _ _=>Ae
    |.app i e=>Wr st λx m l=>Ee l λv=>m==("append" : Ah)&&vh T x i&&D0 v&&Be n T v e
    |.ext i e=>Ae
    |.rev i=>Ae
    |.clr i=>Ae
    |.put i k e=>Ae
    |.swp _ _ _=>Ae
    |.apop _ _ _=>Ae
    |.ins i k e=>Ae
    |.dput _ _ _=>Ae
    |.dsd _ _ _=>Ae
    |.rel _=>Ae
noncomputable def zu:Ag->Tc->Ac AL->Ss->Am
  |0,_,_,_=>Ae
  | n+1,T,vo,ss=>(match ss with
    |.nil=>vo.isEmpty
    |.cons (.rel i) ss=>zu n T vo ss
    | .cons s ss=>(match vo with
      |st::r=>Jd n T st s&&zu n T r ss
      | []=>Ae))||Pf ss
end
noncomputable def Gz(fuel:Ag)(hot:Am)(fns:Ac (Ah×Ag×Ag))(bl:Ac Ah)(rzs exs gls:Ac (Ah×Ag))(ps N:Ac Ah)(st:AL)(df:Df):Am:=
  let sc:=AG st
  sc.kind==.function && !sc.isCoroutine && !sc.isGenerator&&JC N&&N.take ps.length==ps&&ps.all (λx=>sc.names.lookup x==Aa .local||sc.names.lookup x==Aa .cell)&&sc.names.all (λy=>y.2 != .free)&&N.length==df.n &&
  (match hot with
  |true=>Lr fuel ⟨sc,N,fns,bl,rzs,exs,gls,Ab⟩ 0 (Dh st) df.body
  | false=>zu fuel ⟨sc,N,fns,bl,rzs,exs,gls,Ab⟩ (Dh st) df.body)
structure XT (up:Ag->Ac Ag) (xn:Ag->Ac D->R Ex) (CL:ClA) (rzs exs:Ac (Ah×Ag)) (K:Fg) (mg:Ah->Ao Al):Prop where
 xc:∀ c C,CL c=Aa C->zk K C
 rz:∀ p∈rzs,∃ C,CL p.2=Aa C/\mg p.1=Aa (.ref C)
 ex:∀ p∈exs,∃ C,mg p.1=Aa (.ref C)/\M9 K CL up p.2 C/\∀ c D,CL c=Aa D->BN K (.ref D) (.ref C)=Aa ((up c).contains p.2)
 made:∀ c C ds,CL c=Aa C->xn c ds=.bad\/(xn c ds=.ok ⟨c,[]⟩/\DE K C Af=Ab)\/∃ f,lg K mg C f/\Nm xn c f ds
 nf:∀ c C,CL c=Aa C->∀ f:Ah,(f==("triple" : Ah)||(f==("points" : Ah)||f==("row" : Ah)))=Ab->G6 K C=Ab/\At K (.ref C) f=Aa Af
 xb:∀ c,(∀ p∈rzs,p.2≠c)->∀ ds,xn c ds=.bad
def JQ(K:Fg)(mg:Ah->Ao Al)(CL:ClA)(x:Ah)(d:D):Prop:=∃ u v,mg x=Aa u/\Bs v u/\∀ H A,Z7 K CL H A v d
structure OS (K:Fg) (mg:Ah->Ao Al):Prop where
 oc:∀ c C,OC K c=Aa C->nu K C
 kit:∀ c C c' C',OC K c=Aa C->OC K c'=Aa C'->B5 K (.ref C) (.ref C')=Aa ((oup c).contains c')
 at_:∀ c,c<3->∃ C,OC K c=Aa C/\mg (O9 c)=Aa (.ref C)
 mf:∀ c C m f,OC K c=Aa C->(m==("told" : Ah)||m==("shown" : Ah))=Ab->At K (.ref C) m=Aa (Aa (.ref f))->Cn K (.ref f)=Ab
def fj(P:AK)(w:AH)(K:Fg)(mg:Ah->Ao Al)(base:AI)(CL:ClA)(F:Ag->Ac D->R D)(k c:Ag):Prop:=(∀ ds,F (900+c) ds=.bad)\/∃ C f fd G k',OC K c=Aa C/\Mk K C f/\CW K fd ["self", "p", "numbers"] []/\k'+1=k/\Y4 P w K mg base (CXR P w) k' f fd ["self", "p", "numbers"] (cz K CL G)/\(∀ ds,ds.length=2->F (900+c) ds=.bad\/F (900+c) ds=(G ds).bind (EI c))/\∀ ds y,G ds≠.exn y
structure VX (Z:Z4) (CL:ClA) (k:Ag) (W:XW) (T:Tc) (X:Cx):Prop where
 sc:X.env.scope=T.sc
 kd:T.sc.kind=.function
 N:X.N=T.N
 nd:T.N.Nodup
 calm:X.calm=Ab
 room:U6 k X.A
 bl:∀ x,x∈T.bl->X.mg x=Af
 os:OS X.K X.mg
 mkr:∀ c,c<3->fj X.prog X.w X.K X.mg X.base CL Z.F k c
 fn:∀ p∈T.fns,∃ f fd ps,IV X.K X.mg p.1=Aa (.ref f)/\Ba X.K (.ref f)=Ab/\CW X.K fd ps []/\ps.length=p.2.2%1000/\(p.2.2<1000->Y4 X.prog X.w X.K X.mg X.base (CXR X.prog X.w) k f fd ps (spD X.K CL (p.2.2%1000) (Z.fr p.2.1) (Z.F p.2.1)))/\(1000<=p.2.2->w4 X.prog X.w X.K X.mg X.base k f fd ps (spH X.K CL (p.2.2%1000) (Z.fr p.2.1) (Z.F p.2.1)))
 own:FM (model X.prog X.w) X.A X.env X.xe
 px:∀ A,HJ (CXR X.prog X.w) X (EKW X.K CL A W)
 rz:NI X CL W
 xt:XT Z.up Z.xn CL T.rzs T.exs X.K X.mg
 gl:∀ p∈T.gls,JQ X.K X.mg CL p.1 (Z.G p.2)
 ex:T.tp=Ab->X.ex=[]
theorem QM:∀ A,HJ (CXR X.prog X.w) X (EKW X.K CL A W0):=λA pI Y H s ev s' I h=>by
 obtain⟨e,T,cls,dx,H',_,_,_,_,_,_,_,_,_,_,x,_,w⟩:=h;exact w.elim
theorem R4:NI X CL W0:=λ_ _ _ _ _ _ _ _ _ _ _ _ _ _ z=>z.elim
def Rf{α:Type}(g f:Rho->R α):Prop:=∀ U,g U=.bad\/g U=f U
section
variable{X:Cx}{CL:ClA}{W:XW}{a:Aq}{f g:Rho->R D}
theorem SE.ref(h:SE X CL W a f)(r:Rf g f):SE X CL W a g:=λA=>PE.weak (h A) λY H Q ⟨hA,U,q,p⟩=>⟨hA,U,q,by
 rcases r U with e|e
 .rw[e]at p;exact p.elim
 .rw[e]at p;exact p⟩
theorem SB.ref{f g:Rho->R Am}(h:SB X CL W a f)(r:Rf g f):SB X CL W a g:=λA=>PT.weak (h A) λY H Q ⟨hA,U,q,p⟩=>⟨hA,U,q,by
 rcases r U with e|e
 .rw[e]at p;exact p.elim
 .rw[e]at p;exact p⟩
theorem SW.ref{f g:Rho->R Am}(h:SW X CL W a f)(r:Rf g f):SW X CL W a g:=λA=>PW.weak (h A) λY H Q ⟨hA,U,q,p⟩=>⟨hA,U,q,by
 rcases r U with e|e
 .rw[e]at p;exact p.elim
 .rw[e]at p;exact p⟩
theorem SC.ref{fr:Am}(h:SC X CL W fr a f)(r:Rf g f):SC X CL W fr a g:=λA=>PE.weak (h A) λY H Q ⟨hA,U,q,p⟩=>⟨hA,U,q,by
 rcases r U with e|e
 .rw[e]at p;exact p.elim
 .rw[e]at p;exact p⟩
theorem SS.ref{st:AL}{f g:Rho->O}(h:SS X CL W st f)(r:∀ U,g U=.bad\/g U=f U):SS X CL W st g:=λFz B=>PS.weak (h Fz B) λD Y H ⟨U,x,p⟩=>⟨U,x,by
 rcases r U with e|e
 .rw[e]at p;exact p.elim
 .rw[e]at p;exact p⟩
end
theorem II:∀{l:Ac Ah},JC l=Ab->l.Nodup
 |[],_=>Yx
 |x::xs,h=>by
  unfold JC at h;simp only[An,Bf,Yg,decide_eq_false_iff_not]at h;exact List.nodup_cons.mpr ⟨h.1,II h.2⟩
section
variable{T:Tc}{X:Cx}{Z:Z4}{CL:ClA}{k:Ag}{W:XW}
theorem Uh(h:RQ T x=Ab):å T.sc x:=by
 unfold RQ at h;split at h
 .exact .inl (by assumption)
 .exact .inr (.inl (by assumption))
 .exact .inr (.inr (by assumption))
 .cases h
theorem M4(h:Ly T x=Ab):o6 T.sc x:=by
 unfold Ly at h;split at h
 .exact .inl (by assumption)
 .exact .inr (by assumption)
 .cases h
theorem Vb(h:FU x=Ab):Gb.lookup x=Af:=by
 unfold FU at h;exact DX.mp (A9 h).2
theorem Hh(h:FU x=Ab):(x==("__debug__" : Ah))=Ae/\(x==("__classdict__" : Ah))=Ae/\x≠"__name__" := by
 unfold FU at h;replace h:=(A9 h).1;simp only[An,Bf]at h;exact⟨h.1.1,h.1.2,λe=>by subst e;exact absurd h.2 (by simp)⟩
theorem On{i:Ag}(v:VX Z CL k W T X)(h:vh T x i=Ab):PE X (.Name x pos) (Ch i):=by
 unfold vh at h;simp only[An,AF]at h;obtain⟨h2,h3,_⟩:=Hh h.2;exact Dw (by rw[v.N];exact h.1.1) (by rw[v.sc];exact Uh h.1.2) h2 h3
theorem Hm(v:VX Z CL k W T X)(h:xu T x=Ab):Gl X x/\X.mg x=Af/\x≠"__name__"/\(x==("__debug__" : Ah))=Ae:=by
 unfold xu zc at h;simp only[An,AF,Yg,AM]at h;obtain⟨h2,h3,h4⟩:=Hh h.2;exact⟨by show X.env.scope.names.lookup x=_;rw[v.sc];exact h.1.2,v.bl x h.1.1,h4,h2⟩
theorem DS{x:Aq}(h:D0 x=Ab):Aw (x::xs) env=(Ae,eval x env)::Aw xs env:=by
 cases x<;>first|rfl|cases h
theorem fP{y:Aq}(h:UC y=Ab):Oc y:=by
 intro o i;cases y<;>first|rfl|cases h
theorem QT{e:Aq}(h:Ot e=Ab):∀ x,Da e env x=pure x:=by
 intro x;cases e<;>first|rfl|cases h
theorem HK{e:Aq}{t:Ao Aq}{l:Ag}(h:F8 e=Ab):Dq e t l env=pure Ae:=by
 cases e<;>first|rfl|cases h
theorem Ql{e:Aq}(h:Im e=Ab):∀ whole,Jk e env whole=(do let v <-whole;standAt e.pos;holding [v] (truthy v)):=by
 intro whole;cases e<;>first|rfl|cases h
theorem cQ(v:VX Z CL k W T X)(scope:Ca):relabel scope X.env=Ra T.sc scope:=by
 unfold relabel Ra;have:∀ n,X.env.kindOf n=T.sc.names.lookup n:=λn=>by show X.env.scope.names.lookup n=_;rw[v.sc]
 simp only[this,v.sc]
theorem VH{N':Ac Ah}(v:VX Z CL k W T X)(h:Ph T scope ts N'=Ab):zn X scope N' ts/\N'.Nodup/\scope.kind=.function:=by
 unfold Ph at h;simp only[An,AF,Bh,BV,E8,JT]at h;obtain⟨⟨⟨⟨⟨h1,h2⟩,h4⟩,h5⟩,h6⟩,h7⟩:=h;have at7:∀ i x,N'[i]?=Aa x->i∈ts\/((scope.names.lookup x≠Aa .local/\scope.names.lookup x≠Aa .cell)/\(scope.names.lookup x≠Aa .free\/T.N[i]?=Aa x)):=λi x e=>by
  have hi:=(A5.mp e).1;have:=h7 i (CU.mpr hi);rcases this with z|z
  .exact .inl (by simpa using z)
  .rw[e]at z;simp only[An,E8,JT,BV,AF]at z;exact .inr z
 refine⟨⟨h1,h2,λy hy hl=>by rw[h2 y hy,hl],λy hy hf=>?_,by rw[v.N];exact h5,λi x e hf hn=>?_,λi x e hl=>?_⟩,II h6,h1⟩
 .rw[v.sc];rcases h4 y hy with (z|z)|z
  .exact absurd hf z
  .exact .inl z
  .exact .inr z
 .rw[v.N];rcases at7 i x e with z|⟨_,z⟩
  .exact absurd z hn
  .exact z.resolve_left λq=>q hf
 .rcases at7 i x e with z|⟨z,_⟩
  .exact z
  .exact hl.elim (λq=>absurd q z.1) (λq=>absurd q z.2)
theorem VX.blk{xs:Ac Ah}{cl:Ac (Ah×Ak)}{s:Ar}{fp:Ac Ak}(v:VX Z CL k W T X)(h:Ph T scope ts (Nt ts xs T.N)=Ab):VX Z CL k W0 (T.blk scope ts xs) (yq X scope cl C (Nt ts xs T.N) s H fp):=by
 obtain⟨_,h2,h3⟩:=VH v h;exact⟨cQ v scope,h3,rfl,h2,v.calm,v.room,v.bl,v.os,v.mkr,v.fn,PassesOwn.never,QM,R4,v.xt,v.gl,λz=>nomatch z⟩
theorem jV{t:Ag}(v:VX Z CL k W T X)(ak:scope.names.lookup x=Aa .cell->X.fn x=Ab)(h:tgO T scope t x=Ab):PG X (.Name x pos) (G5 t):=by
 unfold tgO at h;simp only[An,BV,AF]at h;rcases h with ⟨h1,h2|h2⟩
 .exact M0 (by rw[v.N];exact v.nd) (by rw[v.N];exact h1) (by rw[v.sc];exact .inl h2) (.inr (by rw[v.sc];exact h2))
 .exact M0 (by rw[v.N];exact v.nd) (by rw[v.N];exact h1) (by rw[v.sc];exact .inr h2.1) (.inl (ak h2.2))
theorem Sz{y:Aq}{r:Ac Aq}{zs:Ac Ah}(h:GX (y::r)=Aa zs):∃ x p ws,y=.Name x p/\GX r=Aa ws/\zs=x::ws:=by
 cases y with
 |Name x p=>
  have h':(GX r).map (x :: ·)=Aa zs:=h;cases e:GX r with
  |none=>rw[e]at h';cases h'
  |some ws=>rw[e]at h';cases h';exact⟨x,p,ws,rfl,rfl,rfl⟩
 |_=>cases h
theorem Tk(x:Ah)(p:AE)(r:Ac Aq)(env:B4):Cw (.Name x p::r) env=(Ae,assign (.Name x p) env)::Cw r env:=rfl
theorem Sy:∀(ys:Ac Aq)(zs:Ac Ah),GX ys=Aa zs->(Cw ys env).length=ys.length/\(Cw ys env).findIdx? (·.1)=Af/\(Cw ys env).map (·.2)=ys.map λy=>assign y env:=by
 intro ys
 induction ys with
 |nil=>intro _ _;exact⟨rfl,rfl,rfl⟩
 |cons y r ih=>
  intro zs h;obtain⟨x,p,ws,rfl,e,rfl⟩:=Sz h;obtain⟨h1,h2,h3⟩:=ih ws e;rw[Tk];refine⟨?_,?_,?_⟩
  .rw[Bi,Bi,h1]
  .rw[List.findIdx?_cons,h2];simp
  .rw[BM,BM,h3]
end
noncomputable def Es.len:Es->Ag
 |.nil=>0
 |.cons _ es=>es.len+1
theorem KD(Z:Z4)(U:Rho):∀(es:Es)(ds:Ac D),xz Z U es=.ok ds->ds.length=es.len
 |.nil,ds,h=>by cases h;rfl
 |.cons e es,ds,h=>by
  obtain⟨x,h1,h2⟩:=K5 (MU Z U e es ▸ h);obtain⟨xs,h3,h4⟩:=K5 h2;cases h4;exact congrArg (· + 1) (KD Z U es xs h3)
theorem Qy(Z:Z4)(U:Rho):∀(es:Es)(ds:Ac D),xj Z U es=.ok ds->ds.length=es.len
 |.nil,ds,h=>by cases h;rfl
 |.cons e es,ds,h=>by
  obtain⟨x,h1,h2⟩:=K5 (L6 Z U e es ▸ h);obtain⟨xs,h3,h4⟩:=K5 h2;cases h4;exact congrArg (· + 1) (Qy Z U es xs h3)
theorem Vv(Z:Z4)(U:Rho)(e:E)(h:vn U e=Ab):top U e (evE Z U e)=evE Z U e:=by
 cases e with
 |v i=>
  show CS U i=Gc U i;have h':ni U i=Ab:=h;unfold ni at h';unfold CS Gc;cases q:U[i]? with
  |none=>rfl
  |some x=>
   cases x with
   |none=>rfl
   |some y=>
    obtain⟨d,o⟩:=y;cases o with
    |true=>rw[q]at h';cases h'
    |false=>rfl
 |_=>rfl
theorem QY(Z:Z4)(U:Rho):∀(es:Es),JI U es=Ab->xj Z U es=xz Z U es
 |.nil,_=>rfl
 |.cons e es,h=>by
  simp only[dB,An]at h;rw[MU,L6,Vv Z U e h.1,QY Z U es h.2]
theorem QC(Z:Z4)(c:E):Rf (λU=>evE Z U c) (λU=>top U c (evE Z U c)):=λU=>by
 by_cases h:vn U c=Ab
 .exact .inr (Vv Z U c h).symm
 .cases c with
  |v i=>
   refine .inl ?_;show Gc U i=.bad;have h':¬ ni U i=Ab:=h;unfold ni at h';unfold Gc;cases q:U[i]? with
   |none=>rfl
   |some x=>
    cases x with
    |none=>rfl
    |some y=>
     obtain⟨d,o⟩:=y;cases o with
     |true=>rfl
     |false=>rw[q]at h';exact absurd rfl h'
  |_=>exact absurd rfl h
def ϩ(X:Cx)(CL:ClA)(W:XW)(e:Aq)(f:Rho->R D):Prop:=∃ tg iter elt ifs scope pos N' ts fi fc fe as g,e=.ListComp elt [⟨tg,iter,ifs,0⟩] scope pos/\zn X scope N' ts/\SI X CL W tg iter fi/\GG X.K CL ts as g /\
 (∀ cl C s H fp,PG (yq X scope cl C N' s H fp) tg g)/\(∀ cl C s H fp,jd (yq X scope cl C N' s H fp) CL ifs fc)/\(∀ cl C s H fp,SE (yq X scope cl C N' s H fp) CL W0 elt fe)/\(∀ x,Da iter X.env x=pure x) /\
 ∀ U,f U=(fi U).bind λxs=>(zg (Cq (λx=>(as x U).bind fc) (λx=>(as x U).bind fe) xs)).bind λys=>.ok (.L ys)
theorem ϩ.sc{e:Aq}{f:Rho->R D}(hc:X.calm=Ab)(h:ϩ X CL W e f):SC X CL W Ab e f:=by
 obtain⟨tg,iter,elt,ifs,scope,pos,N',ts,fi,fc,fe,as,g,rfl,B,hi,sk,hg,ht,he,hs,ef⟩:=h;exact SC.congr (iZ hc B hi sk hg ht he hs) ef
structure vc (Z:Z4) (CL:ClA) (W:XW) (X:Cx) (e:Aq) (c:E):Prop where
 se:SE X CL W e (λU=>evE Z U c)
 st:ST X CL W e (λU=>top U c (evE Z U c))
 nw:Fv Z c=Ab->SC X CL W Ab e (λU=>evE Z U c)
 cp:F8 e=Ae->ϩ X CL W e (λU=>evE Z U c)
section
variable{Z:Z4}{CL:ClA}{W:XW}{X:Cx}{e:Aq}{c:E}
theorem Dy(h:SE X CL W e (λU=>evE Z U c))(ht:∀ U r,top U c r=r)(hn:Fv Z c=Ae)(hc:F8 e=Ab):vc Z CL W X e c:=
 ⟨h,by simp only[ht];exact h.st,λz=>absurd z (by rw[hn];decide),λz=>absurd z (by rw[hc];decide)⟩
theorem QG(h:SC X CL W Ab e (λU=>evE Z U c))(ht:∀ U r,top U c r=r)(hc:F8 e=Ab):vc Z CL W X e c:=
 ⟨h.se,by simp only[ht];exact h.se.st,λ_=>h,λz=>absurd z (by rw[hc];decide)⟩
theorem xT(hc:X.calm=Ab)(h:ϩ X CL W e (λU=>evE Z U c))(ht:∀ U r,top U c r=r):vc Z CL W X e c:=
 ⟨(h.sc hc).se,by simp only[ht];exact(h.sc hc).se.st,λ_=>h.sc hc,λ_=>h⟩
end
theorem yD{k:Ki}(h:Ro k=Aa x):∃ T,rm k=Aa T/\Dg x=Aa (.type T):=by
 cases k<;>simp only[Ro]at h<;>cases h
 .exact⟨_,rfl,PyProof.Rows.boot_int⟩
 .exact⟨_,rfl,PyProof.Rows.boot_bool⟩
 .exact⟨_,rfl,GB⟩
 .exact⟨_,rfl,YJ⟩
 .exact⟨_,rfl,YK⟩
structure vz (Z:Z4) (CL:ClA) (k:Ag) (n:Ag):Prop where
 e:∀(W:XW)(T:Tc)(X:Cx)(x:Aq)(c:E),VX Z CL k W T X->Be n T x c=Ab->vc Z CL W X x c
 b:∀(W:XW)(T:Tc)(X:Cx)(x:Aq)(c:E),VX Z CL k W T X->Eb n T x c=Ab->SB X CL W x (λU=>(top U c (evE Z U c)).bind Bq)
 bs:∀(W:XW)(T:Tc)(X:Cx)(xs:Ac Aq)(es:Es)(pos:AE),VX Z CL k W T X->ya n T xs es=Ab->xs≠[]->SW X CL W (.BoolOp .And xs pos) (λU=>(evN Z U es).bind Bq)/\SW X CL W (.BoolOp .Or xs pos) (λU=>(evO Z U es).bind Bq)
 es:∀(W:XW)(T:Tc)(X:Cx)(xs:Ac Aq)(es:Es),VX Z CL k W T X->Id n T xs es=Ab->SA X CL W xs (λU=>xz Z U es)/\uf X CL W xs (λU=>xj Z U es)/\xs.length=es.len/\(∀ pos,xs≠[]->SE X CL W (.BoolOp .And xs pos) (λU=>evN Z U es)/\SE X CL W (.BoolOp .Or xs pos) (λU=>evO Z U es))/\(∀ pos,(Bv pos (Aw xs X.env)).any (·.1)=Ae)
 o:∀(W:XW)(T:Tc)(X:Cx)(x:Ao Aq)(c:E),VX Z CL k W T X->nv n T x c=Ab->SO X CL W x (λU=>(top U c (evE Z U c)).bind (slE c))
 t:∀(T:Tc)(X:Cx)(xs:Ac Aq)(c:E),VX Z CL k W0 T X->jj n T xs c=Ab->jd X CL xs (λU=>(top U c (evE Z U c)).bind Bq)
 i:∀(W:XW)(T:Tc)(X:Cx)(tu:Am)(tg x:Aq)(i:I),VX Z CL k W T X->WT tu tg=Ab->qh n T tu x i=Ab->SI X CL W tg x (λU=>wn Z U i)
section
variable{Z:Z4}{CL:ClA}{W:XW}{k n:Ag}{T:Tc}{X:Cx}
theorem fN:vz Z CL k 0:=⟨λ_ _ _ _ _ _ h=>U0 h,λ_ _ _ _ _ _ h=>U0 h,λ_ _ _ _ _ _ _ h=>U0 h,λ_ _ _ _ _ _ h=>U0 h,λ_ _ _ _ _ _ h=>U0 h,λ_ _ _ _ _ h=>U0 h,λ_ _ _ _ _ _ _ _ _ h=>U0 h⟩
theorem SJ{x:Aq}(h:D0 x=Ab)(hx:(Bv pos (Aw xs env)).any (·.1)=Ae):(Bv pos (Aw (x::xs) env)).any (·.1)=Ae:=by
 rw[DS h];show (Ae||(Bv pos (Aw xs env)).any (·.1))=Ae;rw[hx];rfl
theorem oV(S:vz Z CL k n)(W:XW)(T:Tc)(X:Cx)(xs:Ac Aq)(es:Es)(v:VX Z CL k W T X)(h:Id (n+1) T xs es=Ab):SA X CL W xs (λU=>xz Z U es)/\uf X CL W xs (λU=>xj Z U es)/\xs.length=es.len/\(∀ pos,xs≠[]->SE X CL W (.BoolOp .And xs pos) (λU=>evN Z U es)/\SE X CL W (.BoolOp .Or xs pos) (λU=>evO Z U es))/\(∀ pos,(Bv pos (Aw xs X.env)).any (·.1)=Ae):=by
 cases xs with
 |nil=>
  cases es with
  |nil=>exact⟨QJ,UF,rfl,λ_ z=>absurd rfl z,λ_=>rfl⟩
  |cons=>exact U0 h
 |cons x xs=>
  cases es with
  |nil=>exact U0 h
  |cons e es=>
   replace h:(D0 x&&Be n T x e&&Id n T xs es)=Ab:=h;simp only[An]at h;obtain⟨⟨h0,h1⟩,h2⟩:=h;have he:=S.e W T X x e v h1;obtain⟨a1,a2,a3,a4,a5⟩:=S.es W T X xs es v h2;refine⟨Qn he.se a1 (DS h0),T8 he.st a2 (DS h0),congrArg (· + 1) a3,λpos _=>?_,λpos=>SJ h0 (a5 pos)⟩
   cases xs with
   |nil=>
    cases es with
    |nil=>exact⟨QU he.se,QU he.se⟩
    |cons=>cases a3
   |cons y ys=>
    cases es with
    |nil=>cases a3
    |cons e' za=>
     obtain⟨b1,b2⟩:=a4 pos (by simp)
     exact⟨VW he.se b1,vW he.se b2⟩
theorem tX(S:vz Z CL k n)(W:XW)(T:Tc)(X:Cx)(x:Ao Aq)(c:E)(v:VX Z CL k W T X)(h:nv (n+1) T x c=Ab):SO X CL W x (λU=>(top U c (evE Z U c)).bind (slE c)):=by
 cases x with
 |none=>
  obtain rfl:=gO h;exact kL
 |some x=>
  replace h:(!(OQ c)&&Be n T x c)=Ab:=h;rw[An]at h;have q:=kK (S.e W T X x c v h.2).st;have e:slE c=λd=>(FQ d).bind λi=>.ok (Aa i):=by
   funext d
   cases c<;>first|rfl|exact absurd (show Ae=Ab from h.1) Ax
  rw[e];exact q
theorem tV(S:vz Z CL k n)(T:Tc)(X:Cx)(xs:Ac Aq)(c:E)(v:VX Z CL k W0 T X)(h:jj (n+1) T xs c=Ab):jd X CL xs (λU=>(top U c (evE Z U c)).bind Bq):=by
 cases xs with
 |nil=>
  replace h:=UB h;obtain⟨b,rfl,h⟩:=h;subst h;exact kA
 |cons x xs=>
  replace h:(xs.isEmpty&&Eb n T x c)=Ab:=h;rw[An]at h;obtain rfl:=G1 h.1;exact jZ (S.b W0 T X x c v h.2)
theorem tY(S:vz Z CL k n)(W:XW)(T:Tc)(X:Cx)(tu:Am)(tg x:Aq)(i:I)(v:VX Z CL k W T X)(ht':WT tu tg=Ab)(h:qh (n+1) T tu x i=Ab):SI X CL W tg x (λU=>wn Z U i):=by
 have ht:tu=Ab->wX tg=Ab:=λz=>by
  subst z;cases tg<;>first|rfl|cases ht'
 cases i with
 |e a=>
  exact zE (S.e W T X x a v h).se
 |rng a=>
  replace h:=Kl h;obtain⟨g,pp,l,qq,rfl,h⟩:=h;replace h:=FO h;obtain⟨y,rfl,h⟩:=h;simp only[An,AF]at h;obtain⟨⟨⟨rfl,h1⟩,h2⟩,h3⟩:=h;obtain⟨g1,g2,_,_⟩:=Hm v h1;exact pG (S.e W T X _ a v h3).st g1 g2 (DS h2)
 |rng2 a b=>
  replace h:=Kl h;obtain⟨g,pp,l,qq,rfl,h⟩:=h;replace h:=K8 h;obtain⟨y,z,rfl,h⟩:=h;simp only[An,AF]at h;obtain⟨⟨⟨⟨⟨rfl,h1⟩,h2⟩,h3⟩,h4⟩,h5⟩:=h;obtain⟨g1,g2,_,_⟩:=Hm v h1;exact iU (S.e W T X _ a v h4).st (S.e W T X _ b v h5).st g1 g2 (by rw[DS h2,DS h3];rfl) (by rw[DS h3];rfl)
 |zip a b=>exact absurd (show Ae=Ab from h) Ax
 |zip3 a b c=>exact absurd (show Ae=Ab from h) Ax
 |enm a=>exact absurd (show Ae=Ab from h) Ax
theorem L4{c:Prop}[IA c]{b:Am}:(if c then R.ok (D.bl b) else .bad)=.bad\/∃ b',(if c then R.ok (D.bl b) else .bad)=.ok (.bl b'):=by
 by_cases h:c
 .rw[Au h];exact .inr ⟨_,rfl⟩
 .rw[Ay h];exact .inl rfl
theorem fY(op:DB)(d d':D):BP op d d'=.bad\/∃ b,BP op d d'=.ok (.bl b):=by
 cases op with
 |Eq=>exact L4
 |NotEq=>exact L4
 |In=>
  cases d' with
  |L ys=>exact L4
  |H ys=>exact L4
  |dic kvs=>
   show (match Mv d with|some k=>R.ok (D.bl (kvs.any λp=>p.1==k))|none=>.bad)=.bad\/∃ b,(match Mv d with|some k=>R.ok (D.bl (kvs.any λp=>p.1==k))|none=>.bad)=.ok (.bl b)
   cases Mv d with
   |some k=>exact .inr ⟨_,rfl⟩
   |none=>exact .inl rfl
  |_=>exact .inl rfl
 |NotIn=>
  cases d' with
  |L ys=>exact L4
  |H ys=>exact L4
  |_=>exact .inl rfl
 |Is=>
  cases d' with
  |O=>cases d<;>first|exact .inr ⟨_,rfl⟩|exact .inl rfl
  |_=>cases d<;>first|exact .inl rfl|exact .inr ⟨_,rfl⟩
 |IsNot=>
  cases d' with
  |O=>cases d<;>first|exact .inr ⟨_,rfl⟩|exact .inl rfl
  |_=>cases d<;>first|exact .inl rfl|exact .inr ⟨_,rfl⟩
 |_=>
  cases d with
  |int i=>cases d'<;>first|exact .inr ⟨_,rfl⟩|exact .inl rfl
  |_=>exact .inl rfl
theorem U_6(op:DB)(d d':D):(BP op d d').bind Bq=.bad\/(BP op d d').bind Bq=(BP op d d').bind Di:=by
 rcases fY op d d' with h|⟨b,h⟩
 .rw[h];exact .inl rfl
 .rw[h];exact .inr rfl
theorem VG(e e':E)(es:Es):Rf (λU=>(evN Z U (.cons e (.cons e' es))).bind Bq) (λU=>((top U e (evE Z U e)).bind Bq).bind λc=>if c=Ab then (evN Z U (.cons e' es)).bind Bq else .ok Ae):=λU=>by
 have e0:evN Z U (.cons e (.cons e' es))=(evE Z U e).bind λx=>(Di x).bind λc=>if c=Ab then evN Z U (.cons e' es) else .ok (.bl Ae):=rfl
 dsimp only;rw[e0];rcases QC Z e U with z|z<;>dsimp only at z
 .rw[z];exact .inl rfl
 .rw[<-z];cases evE Z U e with
  |bad=>exact .inl rfl
  |exn x=>exact .inr rfl
  |ok d=>
   cases d with
   |bl b=>cases b<;>exact .inr rfl
   |_=>exact .inl rfl
theorem VF(e e':E)(es:Es):Rf (λU=>(evO Z U (.cons e (.cons e' es))).bind Bq) (λU=>((top U e (evE Z U e)).bind Bq).bind λc=>if c=Ab then .ok Ab else (evO Z U (.cons e' es)).bind Bq):=λU=>by
 have e0:evO Z U (.cons e (.cons e' es))=(evE Z U e).bind λx=>(Di x).bind λc=>if c=Ab then .ok (.bl Ab) else evO Z U (.cons e' es):=rfl
 dsimp only;rw[e0];rcases QC Z e U with z|z<;>dsimp only at z
 .rw[z];exact .inl rfl
 .rw[<-z];cases evE Z U e with
  |bad=>exact .inl rfl
  |exn x=>exact .inr rfl
  |ok d=>
   cases d with
   |bl b=>cases b<;>exact .inr rfl
   |_=>exact .inl rfl
theorem Rf.tru(e:E):Rf (λU=>(evE Z U e).bind Bq) (λU=>(top U e (evE Z U e)).bind Bq):=λU=>by
 rcases QC Z e U with z|z<;>dsimp only at z ⊢
 .rw[z];exact .inl rfl
 .rw[<-z];exact .inr rfl
theorem oW(S:vz Z CL k n)(W:XW)(T:Tc)(X:Cx)(xs:Ac Aq)(es:Es)(pos:AE)(v:VX Z CL k W T X)(h:ya (n+1) T xs es=Ab)(wo:xs≠[]):SW X CL W (.BoolOp .And xs pos) (λU=>(evN Z U es).bind Bq)/\SW X CL W (.BoolOp .Or xs pos) (λU=>(evO Z U es).bind Bq):=by
 cases xs with
 |nil=>exact absurd rfl wo
 |cons x xs=>
  cases es with
  |nil=>exact U0 h
  |cons e es=>
   replace h:(Eb n T x e&&ya n T xs es)=Ab:=h;simp only[An]at h;obtain⟨h1,h2⟩:=h;have he:=S.b W T X x e v h1;cases xs with
   |nil=>
    cases es with
    |nil=>exact⟨SW.ref (UP he) (Rf.tru e),SW.ref (Vm he) (Rf.tru e)⟩
    |cons=>
     cases n with
     |zero=>exact absurd (show Ae=Ab from h2) Ax
     |succ n=>exact absurd (show Ae=Ab from h2) Ax
   |cons y ys=>
    cases es with
    |nil=>
     cases n with
     |zero=>exact absurd (show Ae=Ab from h2) Ax
     |succ n=>exact absurd (show Ae=Ab from h2) Ax
    |cons e' za=>
     obtain⟨b1,b2⟩:=S.bs W T X (y::ys) (.cons e' za) pos v h2 (by simp)
     exact⟨SW.ref (Vn he b1) (VG e e' za),SW.ref (Wg he b2) (VF e e' za)⟩
theorem jT(S:vz Z CL k n){x:Aq}{ops:Ac DB}{b:BI}(v:VX Z CL k W T X)(h:RS T (Be n) x ops ys b as=Ab):SB X CL W (.Compare x ops ys pos) (λU=>(top U (.bi b as) (evE Z U (.bi b as))).bind Bq):=by
 exact absurd (show Ae=Ab from h) Ax
theorem uA(S:vz Z CL k n)(W:XW)(T:Tc)(X:Cx)(x:Aq)(c:E)(v:VX Z CL k W T X)(h:Eb (n+1) T x c=Ab):SB X CL W x (λU=>(top U c (evE Z U c)).bind Bq):=by
 have plain:∀ e,Im e=Ab->Be n T e c=Ab->SB X CL W e (λU=>(top U c (evE Z U c)).bind Bq):=λe h1 h2=>QH (S.e W T X e c v h2).st (Ql h1)
 replace h:((Jb x λo x=>decide (o=.Not)&&(Lz c λa=>Eb n T x a))||(IU x λo xs _=>(decide (o=.And)&&(Mf c λes=>ya n T xs es && !xs.isEmpty))||(decide (o=.Or)&&(Mu c λes=>ya n T xs es && !xs.isEmpty)))||(Me x λx os ys=>(Nf c λop a b=>Ee os λop'=>Ee ys λy=>decide (op'=op) && !behindInMarks op y&&Be n T x a&&Be n T y b)||(OH c λmw tj a b c=>IS os λo1 o2=>IS ys λy z=>decide (o1=mw)&&decide (o2=tj) && !lastMarks [mw,tj] [y,z]&&Be n T x a&&Be n T y b&&Be n T z c)||(Ng c λb as=>RS T (Be n) x os ys b as))||Im x&&((match Ou c with|some a=>Be n T x a|none=>Ae)||Be n T x c))=Ab:=h
 replace h:=(vj h).imp_left λz=>(vj z).imp_left vj
 rcases h with ((h|h)|h)|h
 .replace h:=M2 h;obtain⟨o,y,p,rfl,h⟩:=h;replace h:=A9 h;obtain⟨h0,h⟩:=h;obtain rfl:=AJ h0;replace h:=Uy h;obtain⟨a,rfl,h⟩:=h
  .skip
   refine SB.ref (V0 (S.b W T X _ a v h)) λU=>?_
   show ((top U a (evE Z U a)).bind λx=>(Di x).bind λb=>.ok (.bl (!b))).bind Bq=.bad\/((top U a (evE Z U a)).bind λx=>(Di x).bind λb=>.ok (.bl (!b))).bind Bq=_
   cases top U a (evE Z U a) with
   |bad=>exact .inl rfl
   |exn x=>exact .inr rfl
   |ok d=>cases d<;>first|exact .inr rfl|exact .inl rfl
 .replace h:=L3 h;obtain⟨o,ys,p,rfl,h⟩:=h;replace h:=vj h;rcases h with h|h
  .replace h:=A9 h;obtain⟨h0,h⟩:=h;obtain rfl:=AJ h0;replace h:=TR h;obtain⟨es,rfl,h⟩:=h;simp only[An,Bf,CM]at h;exact(S.bs W T X _ _ _ v h.1 h.2).1.sb
  .replace h:=A9 h;obtain⟨h0,h⟩:=h;obtain rfl:=AJ h0;replace h:=Ux h;obtain⟨es,rfl,h⟩:=h;simp only[An,Bf,CM]at h;exact(S.bs W T X _ _ _ v h.1 h.2).2.sb
 .replace h:=Qg h;obtain⟨w,os,ys,p,rfl,h⟩:=h;replace h:=(vj h).imp_left vj;rcases h with (h|h)|h
  .replace h:=TK h;obtain⟨op,a,b,rfl,h⟩:=h;replace h:=FO h;obtain⟨op',rfl,h⟩:=h;replace h:=FO h;obtain⟨y,rfl,h⟩:=h
   .simp only[An,Bf,AM]at h;obtain⟨⟨⟨rfl,h1⟩,h2⟩,h3⟩:=h;refine SB.ref (V1 (IM v.room.units _) (S.e W T X _ a v h2).st (S.e W T X _ b v h3).st h1) λU=>?_
    show ((top U a (evE Z U a)).bind λx=>(top U b (evE Z U b)).bind λy=>BP op' x y).bind Bq=.bad\/((top U a (evE Z U a)).bind λx=>(top U b (evE Z U b)).bind λy=>BP op' x y).bind Bq=_
    cases top U a (evE Z U a) with
    |bad=>exact .inl rfl
    |exn x=>exact .inr rfl
    |ok d=>
     cases top U b (evE Z U b) with
     |bad=>exact .inl rfl
     |exn x=>exact .inr rfl
     |ok d'=>
      dsimp only[R.bind];exact U_6 _ d d'
  .replace h:=fB h;obtain⟨mw,tj,a,b,c,rfl,h⟩:=h;replace h:=K8 h;obtain⟨o1,o2,rfl,h⟩:=h;replace h:=K8 h;obtain⟨y,z,rfl,h⟩:=h
   .simp only[An,Bf,AM]at h;obtain⟨⟨⟨⟨⟨rfl,rfl⟩,h1⟩,h2⟩,h3⟩,h4⟩:=h;refine SB.ref (fS v.room.units (S.e W T X _ a v h2).st (S.e W T X _ b v h3).st (S.e W T X _ c v h4).st h1) λU=>?_
    show ((top U a (evE Z U a)).bind λx=>(top U b (evE Z U b)).bind λy=>(BP o1 x y).bind λz=>(Di z).bind λk=>if k=Ab then (top U c (evE Z U c)).bind λu=>BP o2 y u else .ok (.bl Ae)).bind Bq=.bad\/((top U a (evE Z U a)).bind λx=>(top U b (evE Z U b)).bind λy=>(BP o1 x y).bind λz=>(Di z).bind λk=>if k=Ab then (top U c (evE Z U c)).bind λu=>BP o2 y u else .ok (.bl Ae)).bind Bq=_
    cases top U a (evE Z U a) with
    |bad=>exact .inl rfl
    |exn x=>exact .inr rfl
    |ok d=>
     cases top U b (evE Z U b) with
     |bad=>exact .inl rfl
     |exn x=>exact .inr rfl
     |ok d'=>
      dsimp only[R.bind];cases BP o1 d d' with
      |bad=>exact .inl rfl
      |exn x=>exact .inr rfl
      |ok d3=>
       cases d3 with
       |bl k=>
        cases k with
        |false=>exact .inr rfl
        |true=>
         dsimp only[R.bind,Di];rw[Au rfl,Au rfl];cases top U c (evE Z U c) with
         |bad=>exact .inl rfl
         |exn x=>exact .inr rfl
         |ok d4=>exact U_6 _ d' d4
       |_=>exact .inl rfl
  .replace h:=TL h;obtain⟨b,as,rfl,h⟩:=h;exact jT S v h
 .obtain⟨h1,h2⟩:=A9 h;rcases vj h2 with h2|h2
  .cases e1:Ou c with
   |none=>rw[e1]at h2;cases h2
   |some a=>
    rw[e1]at h2;rw[dZ e1];refine SB.ref (QH (S.e W T X x a v h2).st (Ql h1)) λU=>?_
    have e2:top U (.cmp .NotEq (.bi .len (.cons (.bi .list (.cons a .nil)) .nil)) (.int 0)) (evE Z U (.cmp .NotEq (.bi .len (.cons (.bi .list (.cons a .nil)) .nil)) (.int 0)))=(top U a (evE Z U a)).bind λx=>(zw .list [x]).bind λy=>(zw .len [y]).bind λz=>BP .NotEq z (.int 0):=by
     show evE Z U (.cmp .NotEq (.bi .len (.cons (.bi .list (.cons a .nil)) .nil)) (.int 0))=_;simp only[KA,Od,L8,xj,R.bind_assoc,R.bind_ok,Ul,U_0]
    rw[e2];cases top U a (evE Z U a) with
    |bad=>exact .inl rfl
    |exn x=>exact .inr rfl
    |ok d=>
     have key:∀ xs:Ac D,(BP .NotEq (.int (xs.length:Ai)) (.int 0)).bind Bq=.ok (!xs.isEmpty):=λxs=>by
      cases xs<;>rfl
     cases d with
     |L xs=>exact .inr (key xs)
     |H xs=>exact .inr (key xs)
     |_=>exact .inl rfl
  .exact plain _ h1 h2
end
section
variable{Z:Z4}{CL:ClA}{W:XW}{k n:Ag}{T:Tc}{X:Cx}
theorem yF{b:BI}{g:Ah}{p pos:AE}{x:Aq}(v:VX Z CL k W T X)(hb:Rr b=Aa g)(hg:xu T g=Ab)(hs:uf X CL W (x::xs) (λU=>xj Z U as))(h0:D0 x=Ab)(zp:∀ pos,(Bv pos (Aw xs X.env)).any (·.1)=Ae):vc Z CL W X (.Call (.Name g p) (x::xs) [] pos) (.bi b as):=by
 obtain⟨g1,g2,g3,g4⟩:=Hm v hg;cases b<;>simp only[Rr]at hb<;>cases hb
 .exact Dy (QW tM g1 g2 Jj hs g3 g4 (DS h0) zp) (λ_ _=>rfl) rfl rfl
 .exact Dy (QW (tL v.calm) g1 g2 PyProof.Rows.boot_min hs g3 g4 (DS h0) zp) (λ_ _=>rfl) rfl rfl
 .exact QG (pB nS g1 g2 YJ hs g3 g4 (DS h0) zp) (λ_ _=>rfl) rfl
 .exact Dy (VV gH g1 g2 YK hs g3 g4 (DS h0) zp) (λ_ _=>rfl) rfl rfl
 .exact Dy (QW (tO v.calm) g1 g2 PyProof.Rows.boot_all hs g3 g4 (DS h0) zp) (λ_ _=>rfl) rfl rfl
 .exact Dy (VV tK g1 g2 GB hs g3 g4 (DS h0) zp) (λ_ _=>rfl) rfl rfl
theorem bV{β:Type}[BEq α][LawfulBEq α]{a:α}{b:β}:∀{l:Ac (α×β)},l.lookup a=Aa b->(a,b)∈l:=by
 intro l
 induction l with
 |nil=>intro h;cases h
 |cons p r ih=>
  intro h;obtain⟨x,y⟩:=p;by_cases z:(a==x)=Ab
  .simp only[BX,z]at h;cases h;rw[eq_of_beq z];exact AY
  .have z':(a==x)=Ae:=by simpa using z
   simp only[BX,z']at h;exact AD _ (ih h)
theorem Le{l:Ac (Ah×Ag)}{g:Ah}{c:Ag}(h:td l g c=Ab):(g,c)∈l:=by
 unfold td at h;simp only[EQ,An,AF]at h;obtain⟨p,hp,rfl,rfl⟩:=h;exact hp
theorem MN{x:Aq}{es:Es}(h:Id n T (x::xs) es=Ab):D0 x=Ab/\∃ e za,es=.cons e za/\∃ m,n=m+1/\Id m T xs za=Ab:=by
 cases n with
 |zero=>exact U0 h
 |succ m=>
  cases es with
  |nil=>exact U0 h
  |cons e es=>
   replace h:(D0 x&&Be m T x e&&Id m T xs es)=Ab:=h;simp only[An]at h;exact⟨h.1.1,e,es,rfl,m,rfl,h.2⟩
theorem NY:∀(m:Ag)(xs:Ac Aq)(es:Es),Id m T xs es=Ab->∀ pos,(Bv pos (Aw xs X.env)).any (·.1)=Ae:=by
 intro m
 induction m with
 |zero=>intro xs es h;exact U0 h
 |succ m ih=>
  intro xs es h pos;cases xs with
  |nil=>rfl
  |cons x xs=>
   obtain⟨h0,e,za,rfl,m',e1,h1⟩:=MN h;cases e1;exact SJ h0 (ih xs za h1 pos)
theorem lK(S:vz Z CL k n){x:Aq}{b:BI}(v:VX Z CL k W T X)(h:(match Pj as with|some (s,a)=>IT x λf l ks cp=>ks.isEmpty&&(HN f λo m ap=>m==("join" : Ah)&&ap.endLine==cp.line&&(G3 o λc=>decide (c=.str s)&&decide (b=.sjoin)&&(Ee l λy=>D0 y&&Be n T y a)))|none=>Ae)=Ab):vc Z CL W X x (.bi b as):=by
 cases q1:Pj as with
 |none=>rw[q1]at h;cases h
 |some t=>
  obtain⟨s,a⟩:=t;rw[q1]at h;obtain⟨e,te⟩:=mW q1;subst e;replace h:=LZ h;obtain⟨f,l,ks,cp,rfl,h⟩:=h;replace h:=A9 h;obtain⟨h0,h⟩:=h;obtain rfl:=G1 h0;replace h:=Km h;obtain⟨o,m,ap,rfl,h⟩:=h;replace h:=A9 h;obtain⟨h1,h⟩:=h;replace h1:=A9 h1;obtain⟨h1,h2⟩:=h1;obtain rfl:=eq_of_beq h1;replace h:=IH h;obtain⟨c,u,p,rfl,h⟩:=h;replace h:=A9 h;obtain⟨h3,h⟩:=h;replace h3:=A9 h3;obtain⟨h3,h4⟩:=h3;obtain rfl:=AJ h3;obtain rfl:=AJ h4;replace h:=FO h;obtain⟨y,rfl,h⟩:=h;replace h:=A9 h;obtain⟨h5,h6⟩:=h;refine Dy (SE.congr (iY (S.e W T X _ a v h6).se rfl (by rw[DS h5];rfl) h2 (by rw[DS h5];rfl)) λU=>?_) (λ_ _=>rfl) rfl rfl
  simp only[L8,xj,R.bind_assoc,R.bind_ok,Uk,UZ,te]
theorem fM(S:vz Z CL k n){x:Aq}{b:BI}(v:VX Z CL k W T X)(h:(match Pi as with|some (a,s)=>IT x λf l ks cp=>ks.isEmpty&&(HN f λo m ap=>m==("split" : Ah)&&ap.endLine==cp.line&&Mg o&&Be n T o a&&(Ee l λy=>G3 y λc=>decide (c=.str s)&&decide (b=.ssplit)))|none=>Ae)=Ab):vc Z CL W X x (.bi b as):=by
 cases q1:Pi as with
 |none=>rw[q1]at h;cases h
 |some t=>
  obtain⟨a,s⟩:=t;rw[q1]at h;have e:=mV q1;subst e;replace h:=LZ h;obtain⟨f,l,ks,cp,rfl,h⟩:=h;replace h:=A9 h;obtain⟨h0,h⟩:=h;obtain rfl:=G1 h0;replace h:=Km h;obtain⟨o,m,ap,rfl,h⟩:=h;replace h:=A9 h;obtain⟨h1,h⟩:=h;replace h1:=A9 h1;obtain⟨h1,h6⟩:=h1;replace h1:=A9 h1;obtain⟨h1,h3⟩:=h1;replace h1:=A9 h1;obtain⟨h1,h2⟩:=h1;obtain rfl:=eq_of_beq h1;replace h:=FO h;obtain⟨y,rfl,h⟩:=h;replace h:=IH h;obtain⟨c,u,p,rfl,h⟩:=h;replace h:=A9 h;obtain⟨h4,h5⟩:=h;obtain rfl:=AJ h4;obtain rfl:=AJ h5;refine Dy (SE.congr (fO (S.e W T X _ a v h6).st (Oe h3) h2).se λU=>?_) (λ_ _=>rfl) rfl rfl
  simp only[L8,xj,R.bind_assoc,R.bind_ok,Uk,UZ]
theorem qT(S:vz Z CL k n){x:Aq}{b:BI}(v:VX Z CL k W T X)(h:(match Se as with|some a=>(match Xk x with|some y=>decide (b=.rvs)&&Be n T y a|none=>Ae)|none=>Ae)=Ab):vc Z CL W X x (.bi b as):=by
 simp[Se]at h
theorem oK(S:vz Z CL k n){x:Aq}{b:BI}(v:VX Z CL k W T X)(h:(match RC as with|some (a,c)=>(match XM x with|some (y,z,_)=>decide (b=.tlt) && !behindInMarks .Lt z&&Be n T y a&&Be n T z c|none=>Ae)|none=>Ae)=Ab):vc Z CL W X x (.bi b as):=by
 simp[RC]at h
theorem sN{x:Aq}{b:BI}(v:VX Z CL k W T X)(h:XH T x b as=Ab):vc Z CL W X x (.bi b as):=U0 h
theorem oS(S:vz Z CL k n){x:Aq}{b:BI}(v:VX Z CL k W T X)(h:(match RD as with|some (a,k)=>(match Xh x with|some (y,j)=>decide (b=.stp)&&decide (j=k)&&decide (0<=k)&&Be n T y a|none=>Ae)|none=>Ae)=Ab):vc Z CL W X x (.bi b as):=by
 simp[RD]at h
theorem qP(S:vz Z CL k n){x:Aq}{b:BI}(v:VX Z CL k W T X)(h:(match RF as with|some (a,c)=>(match W7 x with|some (g,h,y,z)=>decide (b=.list)&&g==("list" : Ah)&&h==("range" : Ah)&&xu T g&&xu T h&&D0 y&&D0 z&&Be n T y a&&Be n T z c|none=>Ae)|none=>Ae)=Ab):vc Z CL W X x (.bi b as):=by
 simp[RF]at h
theorem lI(S:vz Z CL k n){x:Aq}{b:BI}(v:VX Z CL k W T X)(h:(match RE as with|some a=>(match W6 x with|some (g,h,y)=>decide (b=.lset)&&g==("len" : Ah)&&h==("set" : Ah)&&xu T g&&xu T h&&D0 y&&Be n T y a|none=>Ae)|none=>Ae)=Ab):vc Z CL W X x (.bi b as):=by
 simp[RE]at h
theorem tZ(S:vz Z CL k n)(W:XW)(T:Tc)(X:Cx)(x:Aq)(c:E)(v:VX Z CL k W T X)(h:Be (n+1) T x c=Ab):vc Z CL W X x c:=by
 cases c with
 |O=>
  replace h:=IH h;obtain⟨c,u,p,rfl,h⟩:=h;obtain rfl:=AJ h;exact Dy oB (λ_ _=>rfl) rfl rfl
 |bl b=>
  replace h:=IH h;obtain⟨c,u,p,rfl,h⟩:=h;obtain rfl:=AJ h;exact Dy OL (λ_ _=>rfl) rfl rfl
 |int i=>
  replace h:=IH h;obtain⟨c,u,p,rfl,h⟩:=h;obtain rfl:=AJ h;exact Dy VT (λ_ _=>rfl) rfl rfl
 |str i=>
  replace h:=IH h;obtain⟨c,u,p,rfl,h⟩:=h;obtain rfl:=AJ h;exact Dy Og (λ_ _=>rfl) rfl rfl
 |v i=>
  replace h:=Et h;obtain⟨y,p,rfl,h⟩:=h;exact⟨Vs (On v h),IP (On v h),λz=>(nomatch z),λz=>(nomatch z)⟩
 |glob g=>
  replace h:=Et h;obtain⟨y,p,rfl,h⟩:=h;simp only[An]at h;obtain⟨⟨h1,h2⟩,h3⟩:=h;obtain⟨u,w',m1,m2,m3⟩:=v.gl _ (Le h1);obtain⟨n2,_,_⟩:=Hh h3;refine Dy (λA=>PE.weak (M1 (by unfold zc at h2;show X.env.scope.names.lookup _=_;rw[v.sc];exact eq_of_beq h2) m1 m2 n2) λY H Q ⟨hA,U,gd,p⟩=>?_) (λ_ _=>rfl) rfl rfl
  exact p w' H (Az.refl H) (m3 H A)
 |B op a b=>
  replace h:=TM h;obtain⟨y,op',z,p,rfl,h⟩:=h;simp only[An,AM]at h;obtain⟨⟨rfl,h1⟩,h2⟩:=h;have ha:=(S.e W T X _ a v h1).st;have hb:=(S.e W T X _ b v h2).st;refine⟨QV (Qs _) ha hb,(QV (Qs _) ha hb).st,λz=>?_,λz=>nomatch z⟩
  cases op'<;>first|exact pC ha hb|cases z
 |un op a=>
  replace h:=M2 h;obtain⟨o,y,p,rfl,h⟩:=h;replace h:=A9 h;obtain⟨h0,h⟩:=h;obtain rfl:=AJ h0;simp only[An,AM]at h;obtain⟨rfl,h1⟩:=h;exact Dy (oC (S.e W T X _ a v h1).st) (λ_ _=>rfl) rfl rfl
 |no a=>
  replace h:=M2 h;obtain⟨o,y,p,rfl,h⟩:=h;replace h:=A9 h;obtain⟨h0,h⟩:=h;obtain rfl:=AJ h0;exact Dy (VQ (S.e W T X _ a v h).st) (λ_ _=>rfl) rfl rfl
 |and es=>
  replace h:=L3 h;obtain⟨o,ys,p,rfl,h⟩:=h;replace h:=A9 h;obtain⟨h0,h⟩:=h;obtain rfl:=AJ h0;simp only[An,Bf,CM]at h;exact Dy ((S.es W T X _ es v h.1).2.2.2.1 _ h.2).1 (λ_ _=>rfl) rfl rfl
 |or es=>
  replace h:=L3 h;obtain⟨o,ys,p,rfl,h⟩:=h;replace h:=A9 h;obtain⟨h0,h⟩:=h;obtain rfl:=AJ h0;simp only[An,Bf,CM]at h;exact Dy ((S.es W T X _ es v h.1).2.2.2.1 _ h.2).2 (λ_ _=>rfl) rfl rfl
 |cmp op a b=>
  replace h:=Qg h;obtain⟨y,os,ys,p,rfl,h⟩:=h;replace h:=FO h;obtain⟨op',rfl,h⟩:=h;replace h:=FO h;obtain⟨z,rfl,h⟩:=h;simp only[An,Bf,AM]at h;obtain⟨⟨⟨rfl,h1⟩,h2⟩,h3⟩:=h;exact Dy (oH (IM v.room.units _) (S.e W T X _ a v h2).st (S.e W T X _ b v h3).st h1) (λ_ _=>rfl) rfl rfl
 |cmp2 mw tj a b c=>exact absurd (show Ae=Ab from h) Ax
 |ite c a b=>exact absurd (show Ae=Ab from h) Ax
 |call f as=>
  replace h:=NU h;obtain⟨g,pp,y,ys,qq,rfl,h⟩:=h;simp only[An,EQ,AF,AM]at h;obtain⟨⟨⟨⟨⟨p,hp,⟨rfl,rfl⟩,hl⟩,h900⟩,h1⟩,h2⟩,h3⟩:=h;obtain⟨fa,fd,ps,m1,m2,m3,m4,m5,_⟩:=v.fn p hp;have yc:p.2.2<1000:=by omega
  rw[YD yc]at m4 m5;have m5:=m5 yc;obtain⟨n2,n3,n4⟩:=Hh h2;replace m1:=Qj m1 (Vb h2);obtain⟨a1,a2,a3,a4,a5⟩:=S.es W T X _ as v h3;obtain⟨s0,e,za,rfl,m,rfl,s1⟩:=MN h3;have q:SC X CL W (Z.fr p.2.1) (.Call (.Name p.1 pp) (y::ys) [] qq) (λU=>evE Z U (.call p.2.1 (.cons e za))):=jA (sh:=λU=>JI U (.cons e za)) m5 v.room (by unfold zc at h1;show X.env.scope.names.lookup p.1=_;rw[v.sc];exact eq_of_beq h1) m1 m2 m3 v.px a1 a2 (λU z=>QY Z U _ z) (λU ds z=>by rw[Qy Z U _ _ z,<-a3,hl];rfl) n2 (DS s0) (NY m ys za s1)
  exact⟨q.se,q.se.st,λz=>by
   have z':Z.fr p.2.1=Ab:=z;rw[z']at q;exact q,λz=>nomatch z⟩
 |bi b as=>
  unfold Be at h;dsimp only at h;simp only[BV]at h;rcases h with (((((((h|h)|h)|h)|h)|h)|h)|h)|h
  .replace h:=NU h;obtain⟨g,pp,y,ys,qq,rfl,h⟩:=h;simp only[An,AF]at h;obtain⟨⟨h1,h2⟩,h3⟩:=h;obtain⟨s0,e,za,rfl,m,rfl,s1⟩:=MN h3;exact yF v h1 h2 (S.es W T X _ _ v h3).2.1 s0 (NY m _ za s1)
  .exact sN v h
  .exact qP S v h
  .exact oS S v h
  .exact lI S v h
  .exact oK S v h
  .exact lK S v h
  .exact fM S v h
  .exact qT S v h
 |isi a ks=>
  replace h:=vj h;rcases h with h|h
  .skip
   replace h:=FO h;obtain⟨k',rfl,h⟩:=h;replace h:=Kl h;obtain⟨g,pp,l,qq,rfl,h⟩:=h;replace h:=K8 h;obtain⟨y,t,rfl,h⟩:=h;replace h:=Et h;obtain⟨t,pt,rfl,h⟩:=h;simp only[An,AF]at h;obtain⟨⟨⟨⟨⟨rfl,h1⟩,h2⟩,h3⟩,h4⟩,h5⟩:=h;obtain⟨g1,g2,_,_⟩:=Hm v h1;obtain⟨b1,b2,b3,b4⟩:=Hm v h3;obtain⟨ty,t1,t2⟩:=yD h2;exact Dy (oG t1 g1 g2 b1 b2 t2 b3 b4 (S.e W T X _ a v h5).st (DS h4)) (λ_ _=>rfl) rfl rfl
  .replace h:=FO h;obtain⟨k',rfl,h⟩:=h;replace h:=Kl h;obtain⟨g,pp,l,qq,rfl,h⟩:=h;replace h:=K8 h;obtain⟨y,t,rfl,h⟩:=h;replace h:=Et h;obtain⟨t,pt,rfl,h⟩:=h;simp only[An,AF]at h;obtain⟨⟨⟨⟨rfl,h1⟩,h4⟩,h5⟩,h6⟩:=h;obtain⟨g1,g2,_,_⟩:=Hm v h1;cases k' with
   |verr=>
    replace h6:=A9 (a:=t==("ValueError" : Ah)) h6;obtain⟨h6,h7⟩:=h6;obtain rfl:=eq_of_beq h6;obtain⟨b1,b2,_,_⟩:=Hm v h7;exact Dy (VR v.xt.xc g1 g2 b1 b2 (S.e W T X _ a v h5).st (DS h4)) (λ_ _=>rfl) rfl rfl
   |cls c=>
    replace h6:=A9 (a:=td T.exs t c&&zc T t) h6;obtain⟨h6,h8⟩:=h6;replace h6:=A9 h6;obtain⟨h6,h7⟩:=h6;obtain⟨C,m1,m3,_⟩:=v.xt.ex _ (Le h6);obtain⟨n2,_,_⟩:=Hh h8;exact Dy (VS v.xt.xc g1 g2 (by unfold zc at h7;show X.env.scope.names.lookup _=_;rw[v.sc];exact eq_of_beq h7) m1 m3 n2 (S.e W T X _ a v h5).st (DS h4)) (λ_ _=>rfl) rfl rfl
   |_=>exact U0 h6
 |x a i=>
  replace h:=Qe h;obtain⟨y,z,p,rfl,h⟩:=h;simp only[An]at h;obtain⟨⟨h1,h2⟩,h3⟩:=h;exact Dy (VU (fP h1) (S.e W T X _ a v h2).st (S.e W T X _ i v h3).st) (λ_ _=>rfl) rfl rfl
 |sl a lo hi=>
  replace h:=Qe h;obtain⟨y,s,p,rfl,h⟩:=h;replace h:=eW h;obtain⟨l,u,st,p',rfl,h⟩:=h;replace h:=A9 h;obtain⟨h0,h⟩:=h;obtain rfl:=DX.mp h0;simp only[An]at h;obtain⟨⟨h1,h2⟩,h3⟩:=h;refine QG (SC.congr (uC (S.e W T X _ a v h1).st (S.o W T X _ lo v h2) (S.o W T X _ hi v h3)) λU=>?_) (λ_ _=>rfl) rfl
  show ((top U a (evE Z U a)).bind λx=>(top U lo (evE Z U lo)).bind λl=>(slE lo l).bind λl'=>(top U hi (evE Z U hi)).bind λh=>(slE hi h).bind λh'=>i6 x l' h')=_
  simp only[R.bind_assoc]
 |H es=>
  replace h:=MS h;obtain⟨ys,cc,p,rfl,h⟩:=h;simp only[An,AM]at h;have q:=S.es W T X _ es v h.1;exact Dy (Vt q.1 λU ds z=>by rw[KD Z U _ _ z,<-q.2.2.1];omega) (λ_ _=>rfl) rfl rfl
 |L es=>
  replace h:=Qf h;obtain⟨ys,p,rfl,h⟩:=h;simp only[An,AM]at h;have q:=S.es W T X _ es v h.1;exact QG (QR q.1 λU ds z=>by rw[KD Z U _ _ z,<-q.2.2.1];omega) (λ_ _=>rfl) rfl
 |comp elt t it c=>
  replace h:=kX (e:=x) (F:=_) (by unfold Be at h;exact h)
  obtain⟨y,tg,it',ifs,scope,p,rfl,h⟩:=h;replace h:=Et h;obtain⟨w,pw,rfl,h⟩:=h;simp only[An]at h;obtain⟨⟨⟨⟨⟨h1,h2⟩,h3⟩,h4⟩,h5⟩,h6⟩:=h;refine xT v.calm ⟨_,_,_,_,_,_,_,_,_,_,_,_,_,rfl,(VH v h3).1,S.i W T X Ae _ _ it v rfl h1,nG t,λcl C s H fp=>jV (v.blk h3) (λz=>AF.mpr z) h4,λcl C s H fp=>S.t _ _ _ c (v.blk h3) h5,λcl C s H fp=>(S.e W0 _ _ _ elt (v.blk h3) h6).se,QT h2,λU=>rfl⟩ (λ_ _=>rfl)
 |compT elt ts it c=>exact absurd (show Ae=Ab from h) Ax
 |tupI it=>exact absurd (show Ae=Ab from h) Ax
 |dnew=>exact U0 h
 |fld o f=>
  replace h:=Km h;obtain⟨w,g,p,rfl,h⟩:=h;simp only[An,AF]at h;obtain⟨⟨⟨rfl,h2⟩,h3⟩,h4⟩:=h;exact Dy (UW v.xt.xc (λc C z=>v.xt.nf c C z _ h2) (S.e W T X _ o v h4).st (Oe h3)) (λ_ _=>rfl) rfl rfl
 |ofl o f=>
  replace h:=Km h;obtain⟨w,g,p,rfl,h⟩:=h;simp only[An,AF]at h;obtain⟨⟨⟨rfl,h2⟩,h3⟩,h4⟩:=h;refine Dy (oA (λc C z=>?_) (S.e W T X _ o v h4).st (Oe h3)) (λ_ _=>rfl) rfl rfl
  rw[h2];exact⟨(v.os.oc c C z).cl,(v.os.oc c C z).nt⟩
 |iso a k'=>
  replace h:=Kl h;obtain⟨g,pp,l,qq,rfl,h⟩:=h;replace h:=K8 h;obtain⟨y,t,rfl,h⟩:=h;replace h:=Et h;obtain⟨t,pt,rfl,h⟩:=h;unfold È at h;simp only[An,AF,AM]at h;obtain⟨⟨⟨⟨rfl,h1⟩,h4⟩,h5⟩,⟨⟨⟨e6,h7⟩,h8⟩,h9⟩⟩:=h;obtain⟨g1,g2,_,_⟩:=Hm v h1;obtain⟨n2,_,_⟩:=Hh h9;obtain⟨C',o1,o2⟩:=v.os.at_ k' h7;exact Dy (oF v.os.oc g1 g2 (by unfold zc at h8;show X.env.scope.names.lookup _=_;rw[v.sc];exact eq_of_beq h8) (by rw[e6];exact o2) (λc C z=>v.os.kit c C k' C' z o1) n2 (S.e W T X _ a v h5).st (DS h4)) (λ_ _=>rfl) rfl rfl
 |meth m ms o=>
  replace h:=LZ h;obtain⟨f,l,ks,cp,rfl,h⟩:=h;replace h:=A9 h;obtain⟨h0,h⟩:=h;obtain rfl:=G1 h0;replace h:=A9 h;obtain⟨lr,h⟩:=h;obtain rfl:=G1 lr;replace h:=Km h;obtain⟨w,g,ap,rfl,h⟩:=h;replace h:=A9 h;obtain⟨h,h5⟩:=h;replace h:=A9 h;obtain⟨h,h4⟩:=h;replace h:=A9 h;obtain⟨h,h3⟩:=h;replace h:=A9 h;obtain⟨h,h2⟩:=h;replace h:=A9 h;obtain⟨h,h1⟩:=h;obtain rfl:=eq_of_beq h;refine Dy (iW v.room v.px (S.e W T X _ o v h4).st (λc id C hl hC=>?_) (Oe h3) h2) (λ_ _=>rfl) rfl rfl
  have hm:=Bh.mp h5 _ (bV hl);simp only[EQ,An,AF]at hm;obtain⟨p,hp,⟨e1,e2⟩,e3⟩:=hm;obtain⟨fa,fd,ps,m1,m2,m3,m4,m5,_⟩:=v.fn p hp;have m5:=m5 (by omega)
  rw[e3,e2]at m5;have jh:=gK m1 e1 hC;exact⟨fa,fd,ps,_,(v.os.oc c C hC).cl,⟨jh,v.os.mf c C _ fa hC h1 jh,m2⟩,m3,m5⟩
 |mkob c e=>exact U0 h
 |mkn c as=>
  replace h:=NU h;obtain⟨g,np,x,xs,cpos,rfl,h⟩:=h;unfold È at h;simp only[An,AF,AM]at h;obtain⟨⟨⟨⟨⟨e6,h7⟩,h8⟩,h9⟩,hl⟩,h5⟩:=h;obtain⟨n2,_,_⟩:=Hh h9;obtain⟨s0,e,za,rfl,m,rfl,s1⟩:=MN h5;have q:=S.es W T X _ _ v h5;rcases v.mkr c h7 with hb|⟨C,f,fd,G,k',o1,M,hb,hk,FI,hF,hG⟩
  .refine Dy (λA pI s Y H Q I ⟨hA,U,gd,p⟩=>?_) (λ_ _=>rfl) rfl rfl
   have p':AX (λH=>Z7 X.K CL H A) W H ((zg (xz Z U (.cons e za))).bind λxs=>Z.F (900+c) xs) Q:=p
   cases e1:xz Z U (.cons e za) with
   |bad=>rw[e1]at p';exact p'.elim
   |exn y=>rw[e1]at p';exact p'.elim
   |ok ds=>rw[e1]at p';have p2:AX (λH=>Z7 X.K CL H A) W H (Z.F (900+c) ds) Q:=p';rw[hb ds]at p2;exact p2.elim
  .obtain⟨C',o2,o3⟩:=v.os.at_ c h7;have:C'=C:=by rw[o1]at o2;exact(BB o2).symm
   subst this;subst hk;exact Dy (iX M o1 (v.os.oc c _ o1) FI v.room hb v.px hF hG (by unfold zc at h8;show X.env.scope.names.lookup g=_;rw[v.sc];exact eq_of_beq h8) (by rw[e6];exact o3) n2 q.1 (λU ds z=>by rw[KD Z U _ _ z,<-q.2.2.1,Bi,hl]) (DS s0) (NY m xs za s1 _)) (λ_ _=>rfl) rfl rfl
 |mkx c as=>exact absurd (show Ae=Ab from h) Ax
theorem ze:∀ n,vz Z CL k n
 |0=>fN
 |n+1=>⟨tZ (ze n),uA (ze n),oW (ze n),oV (ze n),tX (ze n),tV (ze n),tY (ze n)⟩
end
section
variable{Z:Z4}{CL:ClA}{W:XW}{k n:Ag}{T:Tc}{X:Cx}
theorem jX{t:Ag}(v:VX Z CL k W T X)(hf:∀ x,X.fn x=Ab)(h:pz T [t] [x]=Ab):PG X (.Name x pos) (G5 t):=by
 unfold pz at h;simp only[An,AF]at h;exact M0 (by rw[v.N];exact v.nd) (by rw[v.N];exact h.1.1) (by rw[v.sc];exact M4 h.1.2) (.inl (hf x))
theorem UM(v:VX Z CL k W T X)(hf:∀ x,X.fn x=Ab):∀(ys:Ac Aq)(ts:Ac Ag)(zs:Ac Ah),GX ys=Aa zs->pz T ts zs=Ab->fq X ys (ts.foldr (λt u=>Lp (G5 t) u) LG)/\ts.length=ys.length:=by
 intro ys
 induction ys with
 |nil=>
  intro ts zs e h;cases e;cases ts with
  |nil=>exact⟨lO,rfl⟩
  |cons t ts=>cases h
 |cons y r ih=>
  intro ts zs e h;obtain⟨x,p,ws,rfl,e2,rfl⟩:=Sz e;cases ts with
  |nil=>cases h
  |cons t ts=>
   have h':(T.N[t]? == Aa x&&Ly T x&&pz T ts ws)=Ab:=h;simp only[An,AF]at h';obtain⟨h1,h2⟩:=ih ts ws e2 h'.2;exact⟨eO (M0 (by rw[v.N];exact v.nd) (by rw[v.N];exact h'.1.1) (by rw[v.sc];exact M4 h'.1.2) (.inl (hf x))) h1 (by rw[Tk];rfl),congrArg (· + 1) h2⟩
theorem jW(v:VX Z CL k W T X)(hf:∀ x,X.fn x=Ab)(hn:(GX ys).isSome=Ab)(h:pz T ts (nk ys)=Ab):PG X (.Tuple ys kk pos) (Pb X.K ts.length (ts.foldr (λt u=>Lp (G5 t) u) LG)):=by
 cases e:GX ys with
 |none=>rw[e]at hn;cases hn
 |some zs=>
  have e2:nk ys=zs:=by unfold nk;rw[e];rfl
  rw[e2]at h;obtain⟨h1,h2⟩:=UM v hf ys ts zs e h;obtain⟨h3,h4,_⟩:=Sy (env:=X.env) ys zs e;exact V5 v.calm h1 (by rw[h3,h2]) h4
theorem oM(v:VX Z CL k W T X)(hf:∀ x,X.fn x=Ab)(hn:(GX ys).isSome=Ab)(h:pz T ts (nk ys)=Ab):PG X (.Tuple ys kk pos) (gSq X.K ts.length (ts.foldr (λt u=>Lp (G5 t) u) LG)):=by
 cases e:GX ys with
 |none=>rw[e]at hn;cases hn
 |some zs=>
  have e2:nk ys=zs:=by unfold nk;rw[e];rfl
  rw[e2]at h;obtain⟨h1,h2⟩:=UM v hf ys ts zs e h;obtain⟨h3,h4,_⟩:=Sy (env:=X.env) ys zs e;exact xH v.calm h1 (by rw[h3,h2]) h4
theorem pP{e:Aq}(h:(Ws e||CD 4 ys.length)=Ab):HF [.Tuple ys kk pos] e env=pure Af:=by
 cases e with
 |Tuple vs a b=>
  have h4:=AR (show CD 4 ys.length=Ab from h)
  have e2:(ys.length==2)=Ae:=by rw[Bg];omega
  have e3:(ys.length==3)=Ae:=by rw[Bg];omega
  unfold HF;dsimp only;rw[e2,e3];rfl
 |_=>rfl
theorem SL(ts:Ac Ag):∀ d U x,HI ts d U≠.exn x:=λd U x h=>by
 unfold HI at h;cases d with
 |H xs=>
  dsimp only at h;cases e:Hj ts xs U with
  |some r=>rw[e]at h;cases h
  |none=>rw[e]at h;cases h
 |_=>cases h
theorem dN(ts:Ac Ag):∀ d U x,Ml ts d U≠.exn x:=λd U x h=>by
 unfold Ml at h;split at h
 .split at h<;>cases h
 .exact SL ts _ U x h
theorem fJ{elt:Aq}{gs:Ac JW}{pos':AE}{l:Ag}:∃ b,Dq (.ListComp elt gs scope pos) (Aa (.Name x pos')) l env=pure b/\(b=Ab->env.scope.names.lookup x=Aa .local):=by
 refine⟨_,rfl,λh=>?_⟩
 simp only[An,AF]at h;exact h.1.1.2
theorem QI{p pos:AE}{v0:Aq}{i:Ag}{e:E}{fr:Am}(v:VX Z CL k W T X)(hf:∀ x,X.fn x=Ab)(hi:T.N[i]?=Aa x)(hl:Ly T x=Ab)(o:vc Z CL W X v0 e)(w9:fr=Ab->Fv Z e=Ab):fx X CL W fr i (.Assign [.Name x p] v0 pos) (λU=>evE Z U e):=by
 have hN:X.N.Nodup:=by rw[v.N];exact v.nd
 have hi':X.N[i]?=Aa x:=by rw[v.N];exact hi
 have hx:o6 X.env.scope x:=by rw[v.sc];exact M4 hl
 have sc:SC X CL W fr v0 (λU=>evE Z U e):=by
  cases fr with
  |false=>exact o.se.sc
  |true=>exact o.nw (w9 rfl)
 cases hc:F8 v0 with
 |true=>exact SC.sas hN hi' hx sc (HK hc) (.inl (hf x))
 |false=>
  obtain⟨tg,iter,elt,ifs,scope,pos2,N',ts,fi,fc,fe,as,g,rfl,B,h2,sk,hg,ht,he,hs,ef⟩:=o.cp hc;obtain⟨b,hb,û⟩:=fJ (elt:=elt) (gs:=[⟨tg,iter,ifs,0⟩]) (scope:=scope) (pos:=pos2) (pos':=p) (x:=x) (l:=pos.line) (env:=X.env);cases b with
  |false=>exact SC.sas hN hi' hx sc hb (.inl (hf x))
  |true=>
   have q:=fU (pos2:=pos) v.calm B h2 sk hg ht he hs hN hi' (û rfl) hb;have q':fx X CL W Ab i (.Assign [.Name x p] (.ListComp elt [⟨tg,iter,ifs,0⟩] scope pos2) pos) (λU=>evE Z U e):=by
    have:(λU=>evE Z U e)=_:=funext ef
    rw[this];exact q
   cases fr with
   |true=>exact q'
   | false=>exact λA=>PS.weak (q' A) λD Y H ⟨hA,U,gd,z⟩=>⟨hA,U,gd,by
     dsimp only at z ⊢;cases e0:evE Z U e with
     |ok d=>
      rw[e0]at z;exact λv' H' s' r'=>z v' H' s' ⟨r'.1,λ_=>r'.2 rfl⟩
     |exn y=>rw[e0]at z;exact z
     | bad=>rw[e0]at z;exact z⟩
theorem kJ{e t:Aq}{l:Ag}(h:∀ x p,t≠.Name x p):JZ [t] e l env=pure Ae:=by
 show Dq e (Aa t) l env=pure Ae;cases e<;>first|rfl|(cases t<;>first|rfl|exact absurd rfl (h _ _))
theorem Ti(U:Rho)(e:E)(h:∀ i,e≠.v i):yt Z U (.ret e)=O.of U (evE Z U e) λd=>.ret d (Fv Z e):=by
 have k:∀ b:Am,b=Ae->top U e (evE Z U e)=evE Z U e->(O.of U (top U e (evE Z U e)) λd=>.ret d (Fv Z e||b))=O.of U (evE Z U e) λd=>.ret d (Fv Z e):=λb hb ht=>by
  rw[hb,ht];simp only[DQ]
 rw[UY];cases e with
 |v i=>exact absurd rfl (h i)
 |_=>exact k _ rfl rfl
structure qb (X:Cx):Prop where
 fn:∀ x,X.fn x=Ab
 ex:X.ex=[]
 st:X.stack=X.env::X.outer
 fm:X.env.frame=Aa X.env.locals
structure je (Z:Z4) (CL:ClA) (k:Ag) (n:Ag):Prop where
 s:∀(W:XW)(T:Tc)(X:Cx)(x:AL)(c:S),VX Z CL k W T X->qb X->Jd n T x c=Ab->SS X CL W x (λU=>yt Z U c)
 ss:∀(W:XW)(T:Tc)(X:Cx)(x:Ac AL)(c:Ss),VX Z CL k W T X->qb X->zu n T x c=Ab->vq X CL W x (λU=>U7 Z U c)
theorem VX.pw(v:VX Z CL k W T X)(own:FM (model X.prog X.w) X.A X.env Xw):VX Z CL k W0 T (Cx.pw X pI Xw):=⟨v.sc,v.kd,v.N,v.nd,v.calm,v.room,v.bl,v.os,v.mkr,v.fn,own,QM,R4,v.xt,v.gl,v.ex⟩
theorem STB.congr{st:Ac AL}{f g:Rho->O}(h:STB X CL st f)(e:∀ U,g U=f U):STB X CL st g:=by
 have:g=f:=funext e;rw[this];exact h
theorem IJ{i:Ag}{e:Ak}(v:VX Z CL k W T X)(h:vh T x i=Ab):PE (Cx.hot X e) (.Name x pos) (Ch i):=by
 unfold vh at h;simp only[An,AF]at h;obtain⟨h2,h3,_⟩:=Hh h.2;exact Dw (by show X.N[i]?=_;rw[v.N];exact h.1.1) (by show å X.env.scope x;rw[v.sc];exact Uh h.1.2) h2 h3
theorem Q4{x:Ag}{t:Aq}{c:E}:∀{n:Ag},E3 n T x t c=Ab->∀ U r,top U c r=r:=λ{n} h=>by
 cases n with
 |zero=>exact U0 h
 |succ n=>
  cases c with
  |v i=>exact U0 h
  |_=>exact λ_ _=>rfl
theorem gE(v:VX Z CL k W T X)(e:Ak):∀(ts:Ac Aq)(ks:Ac Ki),RN T ts ks=Ab->∃ cs:Ac (Ag×Ak),ks=cs.map (λq=>Ki.cls q.1)/\cs.length=ts.length/\PA (Cx.hot X e) ts (WU (cs.map λq:Ag×Ak=>q.2))/\∀ q∈cs,M9 X.K CL Z.up q.1 q.2:=by
 intro ts
 induction ts with
 |nil=>
  intro ks h;obtain rfl:=G1 h;exact⟨[],rfl,rfl,Cf,λq hq=>nomatch hq⟩
 |cons t ts ih=>
  intro ks h;replace h:=Kj h;obtain⟨kk,ks,rfl,h⟩:=h;replace h:=Et h;obtain⟨t,p,rfl,h⟩:=h;replace h:=A9 h;obtain⟨h,h4⟩:=h;cases kk with
  |cls c=>
   replace h:(td T.exs t c&&zc T t&&FU t)=Ab:=h;simp only[An]at h;obtain⟨⟨h1,h2⟩,h3⟩:=h;obtain⟨cs,e1,e2,e3,e4⟩:=ih ks h4;obtain⟨C,m1,m3,_⟩:=v.xt.ex _ (Le h1);obtain⟨n2,_,_⟩:=Hh h3;refine⟨(c,C)::cs,by rw[e1];rfl,by rw[Bi,Bi,e2],?_,λq hq=>?_⟩
   .exact Bw (M1 (X:=Cx.hot X e) (v:=.ref C) (by unfold zc at h2;show X.env.scope.names.lookup t=_;rw[v.sc];exact eq_of_beq h2) m1 rfl n2) e3 rfl
   .rcases A6.mp hq with rfl|hq
    .exact m3
    .exact e4 q hq
  |_=>exact U0 h
theorem OX{e:Ak}{f:Aq->E->Am}(ih:∀ t c,f t c=Ab->SE (Cx.hot X e) CL W0 t (λU=>evE Z U c)):∀(xs:Ac Aq)(es:Es),No f xs es=Ab->SA (Cx.hot X e) CL W0 xs (λU=>xz Z U es)/\xs.length=es.len
 |[],.nil,_=>⟨QJ,rfl⟩
 |[],.cons _ _,h=>nomatch (show Ae=Ab from h)
 |_::_,.nil,h=>nomatch (show Ae=Ab from h)
 |x::xs,.cons c es,h=>by
  have h:(D0 x&&f x c&&No f xs es)=Ab:=h;simp only[An]at h;obtain⟨⟨h1,h2⟩,h3⟩:=h;obtain⟨q,l⟩:=OX ih xs es h3;exact⟨Qn (ih x c h2) q (DS h1),by rw[Bi,l];rfl⟩
theorem OY(v:VX Z CL k W T X)(e:Ak)(x:Ag):∀(n:Ag)(t:Aq)(c:E),E3 n T x t c=Ab->SE (Cx.hot X e) CL W0 t (λU=>evE Z U c):=by
 intro n
 induction n with
 |zero=>intro t c h;exact U0 h
 |succ n ih=>
  intro t c h;cases c with
  |bl b=>
   replace h:=IH h;obtain⟨k,u,p,rfl,h⟩:=h;obtain rfl:=AJ h;exact OL
  |no a=>
   replace h:=M2 h;obtain⟨o,y,p,rfl,h⟩:=h;replace h:=A9 h;obtain⟨h0,h⟩:=h;obtain rfl:=AJ h0;have q:=(ih _ _ h).st;refine SE.congr (VQ q) λU=>?_
   show ((top U a (evE Z U a)).bind λx=>(Di x).bind λb=>R.ok (D.bl (!b)))=_
   rw[Q4 h]
  |and es=>
   cases es with
   |nil=>exact U0 h
   |cons a as=>
    cases as with
    |nil=>
     replace h:=L3 h;obtain⟨o,l,p,rfl,h⟩:=h;replace h:=A9 h;obtain⟨h0,h⟩:=h;obtain rfl:=AJ h0;replace h:=FO h;obtain⟨y,rfl,h⟩:=h;exact SE.congr (QU (ih _ _ h)) λU=>rfl
    |cons a' as=>
     replace h:=L3 h;obtain⟨o,l,p,rfl,h⟩:=h;replace h:=A9 h;obtain⟨h0,h⟩:=h;obtain rfl:=AJ h0;replace h:=Kj h;obtain⟨y,l,rfl,h⟩:=h;replace h:=Kj h;obtain⟨z,zs,rfl,h⟩:=h;exact SE.congr (VW (ih _ _ (A9 h).1) (ih _ _ (A9 h).2)) λU=>rfl
  |isi a ks=>
   replace h:=K7 h;obtain⟨i,rfl,h⟩:=h;replace h:=kY h;obtain⟨g,pp,w,pq,u,pr,rfl,h⟩:=h;simp only[An,AF]at h;obtain⟨⟨⟨⟨rfl,rfl⟩,h3⟩,h4⟩,h⟩:=h;obtain⟨g1,g2,_,_⟩:=Hm v h3;replace h:=Kj h;obtain⟨kk,ks,rfl,h⟩:=h;cases kk with
   |verr=>
    replace h:=A9 h;obtain⟨h0,h⟩:=h;obtain rfl:=G1 h0;replace h:=Et h;obtain⟨t,pt,rfl,h⟩:=h;simp only[An,AF]at h;obtain⟨h5,h6⟩:=h;obtain⟨b1,b2,_,_⟩:=Hm v h6;rw[h5]at b1 b2 ⊢;exact VR (X:=Cx.hot X e) v.xt.xc g1 g2 b1 b2 (IP (IJ v h4)) rfl
   |cls c=>
    cases ks with
    |nil=>
     replace h:=Et h;obtain⟨t,pt,rfl,h⟩:=h;simp only[An]at h;obtain⟨⟨h5,h6⟩,h7⟩:=h;obtain⟨C,m1,m3,_⟩:=v.xt.ex _ (Le h5);obtain⟨n2,_,_⟩:=Hh h7;exact VS (X:=Cx.hot X e) v.xt.xc g1 g2 (by unfold zc at h6;show X.env.scope.names.lookup _=_;rw[v.sc];exact eq_of_beq h6) m1 m3 n2 (IP (IJ v h4)) rfl
    |cons k2 ks=>
     replace h:=MS h;obtain⟨ts,z1,z2,rfl,h⟩:=h;replace h:=A9 h;obtain⟨h5,h6⟩:=h;obtain⟨cs,e1,e2,e3,e4⟩:=gE v e _ _ h5;have wo:cs≠[]:=by rintro rfl;cases e1
     rw[e1];exact oE (X:=Cx.hot X e) (W:=W0) (up:=Z.up) v.xt.xc g1 g2 e3 wo (by rw[e2];exact AJ h6) e4 (IP (IJ v h4)) rfl
   |_=>exact U0 h
  |x a b=>
   replace h:=K7 h;obtain⟨j,rfl,h⟩:=h;replace h:=TJ h;obtain⟨i,rfl,h⟩:=h;replace h:=Qe h;obtain⟨s,q,p5,rfl,h⟩:=h;replace h:=Et h;obtain⟨z,p0,rfl,h⟩:=h;replace h:=Ue h;obtain⟨y,p1,p2,k1,p3,p4,rfl,hl,h⟩:=h;replace h:=A9 h;obtain⟨h3,h4⟩:=h;refine SE.congr (VU (X:=Cx.hot X e) (λ_ _=>rfl) (IP (IJ v h3)) (fQ (X:=Cx.hot X e) v.room.units (IP (IJ v h4)) OL.st (λU e z=>nomatch z) rfl rfl hl rfl).st) λU=>?_
   simp only[N5,L8,xj,R.bind_assoc,R.bind_ok,Vw,VB,Od,Ip]
   congr 1;funext x;congr 1;funext y
   cases y<;>rfl
  |call f as=>
   cases as with
   |nil=>exact U0 h
   |cons a as=>
    cases as with
    |cons=>exact U0 h
    |nil=>
    replace h:=K7 h;obtain⟨i,rfl,h⟩:=h;replace h:=Kl h;obtain⟨g,p0,l,p2,rfl,h⟩:=h;replace h:=FO h;obtain⟨w,rfl,h⟩:=h;replace h:=Et h;obtain⟨w0,p1,rfl,h⟩:=h;replace h:=A9 h;obtain⟨h1,h4⟩:=h;unfold Xd at h1;simp only[An,EQ,AF]at h1;obtain⟨⟨⟨p,hp,⟨rfl,rfl⟩,hl⟩,g1⟩,g2⟩:=h1;obtain⟨fa,fd,ps,m1,m2,m3,m4,_,m5⟩:=v.fn p hp;have m5:=m5 (by omega)
    obtain⟨n2,_,_⟩:=Hh g2;replace m1:=Qj m1 (Vb g2);have hv:=IJ (e:=e) (pos:=p1) v h4;have a1:SA (Cx.hot X e) CL W0 [.Name w0 p1] (λU=>xz Z U (.cons (.v i) .nil)):=Qn (Vs hv) QJ rfl
    have a2:uf (Cx.hot X e) CL W0 [.Name w0 p1] (λU=>xj Z U (.cons (.v i) .nil)):=T8 (IP hv) UF rfl
    exact(fR (X:=X) (ev:=e) (sh:=λU=>JI U (.cons (.v i) .nil)) m5 v.room (by unfold zc at g1;show X.env.scope.names.lookup p.1=_;rw[v.sc];exact eq_of_beq g1) m1 m2 m3 a1 a2 (λU z=>QY Z U _ z) (λU ds z=>by rw[Qy Z U _ _ z,hl];rfl) n2 rfl (λ_=>rfl)).se
  |str s=>
   replace h:=IH h;obtain⟨k,u,p,rfl,h⟩:=h;obtain rfl:=AJ h;exact Og
  |L es=>
   replace h:=Qf h;obtain⟨xs,p,rfl,h⟩:=h;simp only[An,AM]at h;obtain⟨q,ql⟩:=OX (ih) _ _ h.1;exact(QR q λU ds z=>by rw[KD Z U _ _ z,<-ql];omega).se
  |H es=>
   replace h:=MS h;obtain⟨xs,cc,p,rfl,h⟩:=h;simp only[An,AM]at h;obtain⟨q,ql⟩:=OX (ih) _ _ h.1;exact Vt q λU ds z=>by rw[KD Z U _ _ z,<-ql];omega
  |B op a b=>
   replace h:=A9 h;obtain⟨h0,h⟩:=h;obtain rfl:=AJ h0;replace h:=K7 h;obtain⟨i,rfl,h⟩:=h;replace h:=TM h;obtain⟨l,o,y,p,rfl,h⟩:=h;replace h:=A9 h;obtain⟨h0,h⟩:=h;obtain rfl:=AJ h0;replace h:=Et h;obtain⟨w,pw,rfl,h⟩:=h;replace h:=A9 h;obtain⟨h1,h2⟩:=h;refine SE.congr (QV (Qs .Add) (IP (IJ v h1)) (ih _ _ h2).st) λU=>?_
   show ((CS U i).bind λx=>(top U b (evE Z U b)).bind λy=>Dc .Add x y)=_
   rw[Q4 h2]
  |fld o f=>
   replace h:=K7 h;obtain⟨i,rfl,h⟩:=h;replace h:=Km h;obtain⟨w,g,p,rfl,h⟩:=h;replace h:=Et h;obtain⟨w,pw,rfl,h⟩:=h;simp only[An,AF]at h;obtain⟨⟨⟨rfl,rfl⟩,h3⟩,h4⟩:=h;exact UW (X:=Cx.hot X e) v.xt.xc (λc C z=>v.xt.nf c C z _ h3) (IP (IJ v h4)) rfl
  |_=>exact U0 h
theorem Rh(v:VX Z CL k W T X)(e:Ak)(x n:Ag)(y:Aq)(c:E)(h:Mj n T x y c=Ab):SB (Cx.hot X e) CL W0 y (λU=>(top U c (evE Z U c)).bind Bq):=by
 have one:∀{y:Aq}{c:E},(Im y&&E3 n T x y c)=Ab->SB (Cx.hot X e) CL W0 y (λU=>(top U c (evE Z U c)).bind Bq):=λ{y c} h=>by
  rw[An]at h;exact SB.congr (QH ((OY v e x n y c h.2).st) (Ql h.1)) λU=>by rw[Q4 h.2]
 replace h:(hc1 T y c||(Jb y λo z=>decide (o=.Not)&&(Lz c λa=>Im z&&E3 n T x z a))||(Im y&&E3 n T x y c))=Ab:=h
 rw[Bool.or_assoc]at h;replace h:=vj h;rcases h with h|h
 .replace h:=TK h;obtain⟨o,x1,k2,rfl,h⟩:=h;replace h:=A9 h;obtain⟨h1,h⟩:=h;obtain rfl:=AJ h1;replace h:=TJ h;obtain⟨i,rfl,h⟩:=h;replace h:=fA h;obtain⟨k3,rfl,h⟩:=h;replace h:=Qg h;obtain⟨l,os,cs,p6,rfl,h⟩:=h;replace h:=A9 h;obtain⟨h2,h⟩:=h;obtain rfl:=AJ h2;replace h:=FO h;obtain⟨c,rfl,h⟩:=h;replace h:=IH h;obtain⟨c,u,p5,rfl,h⟩:=h;replace h:=A9 h;obtain⟨h2,h⟩:=h;obtain rfl:=AJ h2;replace h:=Ue h;obtain⟨z,p1,p2,k1,p3,p4,rfl,hl,h3⟩:=h;refine SB.congr (V1 (X:=Cx.hot X e) (IM (show (Cx.hot X e).A.units+64<BD from v.room.units) .NotEq) (dC (X:=Cx.hot X e) v.room.units (IP (IJ v h3)) OL rfl rfl hl rfl).st VT.st rfl) λU=>?_
  simp only[KA,L8,xj,R.bind_assoc,R.bind_ok,Vw,VB,Od,Ul,U_0,Ip,N7]
  congr 1;funext x;congr 1;funext y
  have:∀ u v:D,(BP .NotEq u v).bind Bq=(BP .NotEq u v).bind Di:=λu v=>by
   show (if (Y8 5 u&&Y8 5 v)=Ab then R.ok (D.bl (!Tm u v)) else .bad).bind Bq=(if (Y8 5 u&&Y8 5 v)=Ab then R.ok (D.bl (!Tm u v)) else .bad).bind Di
   split<;>rfl
  exact this _ _
 replace h:((Jb y λo z=>decide (o=.Not)&&(Lz c λa=>Im z&&E3 n T x z a))||(Im y&&E3 n T x y c))=Ab:=h
 replace h:=vj h;rcases h with h|h
 .replace h:=M2 h;obtain⟨o,z,p,rfl,h⟩:=h;replace h:=A9 h;obtain⟨h0,h⟩:=h;obtain rfl:=AJ h0;replace h:=Uy h;obtain⟨a,rfl,h⟩:=h
  .skip
   refine SB.ref (V0 (one h)) λU=>?_
   show (((top U a (evE Z U a)).bind λx=>(Di x).bind λb=>R.ok (D.bl (!b))).bind Bq)=.bad\/(((top U a (evE Z U a)).bind λx=>(Di x).bind λb=>R.ok (D.bl (!b))).bind Bq)=((top U a (evE Z U a)).bind Bq).bind λb=>.ok (!b)
   cases top U a (evE Z U a) with
   |ok d=>cases d<;>first|exact .inl rfl|exact .inr rfl
   |exn y=>exact .inr rfl
   |bad=>exact .inl rfl
 .exact one h
theorem tD(v:VX Z CL k W T X)(e:Ak)(x n:Ag)(pos:AE):∀(ys:Ac Aq)(es:Es),JD n T x ys es=Ab->ys≠[]->SW (Cx.hot X e) CL W0 (.BoolOp .Or ys pos) (λU=>(evO Z U es).bind Bq):=by
 intro ys
 induction ys with
 |nil=>intro es _ h;exact absurd rfl h
 |cons y ys ih=>
  intro es h _;cases es with
  |nil=>exact U0 h
  |cons c es=>
   replace h:(Mj n T x y c&&JD n T x ys es)=Ab:=h;simp only[An]at h;obtain⟨h1,h3⟩:=h;have he:=Rh v e x n y c h1;cases ys with
   |nil=>
    cases es with
    |nil=>exact SW.ref (Vm he) (Rf.tru c)
    |cons=>exact absurd (show Ae=Ab from h3) Ax
   |cons z zs=>
    cases es with
    |nil=>exact absurd (show Ae=Ab from h3) Ax
    |cons c' za=>exact SW.ref (Wg he (ih (.cons c' za) h3 (by simp))) (VF c c' za)
theorem tE(v:VX Z CL k W T X)(e:Ak)(x n:Ag)(pos:AE):∀(ys:Ac Aq)(es:Es),JD n T x ys es=Ab->ys≠[]->SW (Cx.hot X e) CL W0 (.BoolOp .And ys pos) (λU=>(evN Z U es).bind Bq):=by
 intro ys
 induction ys with
 |nil=>intro es _ h;exact absurd rfl h
 |cons y ys ih=>
  intro es h _;cases es with
  |nil=>exact U0 h
  |cons c es=>
   replace h:(Mj n T x y c&&JD n T x ys es)=Ab:=h;simp only[An]at h;obtain⟨h1,h3⟩:=h;have he:=Rh v e x n y c h1;cases ys with
   |nil=>
    cases es with
    |nil=>exact SW.ref (UP he) (Rf.tru c)
    |cons=>exact absurd (show Ae=Ab from h3) Ax
   |cons z zs=>
    cases es with
    |nil=>exact absurd (show Ae=Ab from h3) Ax
    |cons c' za=>exact SW.ref (Vn he (ih (.cons c' za) h3 (by simp))) (VG c c' za)
theorem xE(v:VX Z CL k W T X)(e:Ak)(x n:Ag)(t:Aq)(c:E)(h:Wx n T x t c=Ab):SB (Cx.hot X e) CL W0 t (λU=>(top U c (evE Z U c)).bind Bq):=by
 replace h:((IU t λo ys _=>(decide (o=.Or)&&(Mu c λes=>JD n T x ys es && !ys.isEmpty))||(decide (o=.And)&&(Mf c λes=>JD n T x ys es && !ys.isEmpty)))||Mj n T x t c)=Ab:=h
 replace h:=vj h;rcases h with h|h
 .replace h:=L3 h;obtain⟨o,ys,p,rfl,h⟩:=h;replace h:=vj h;rcases h with h|h
  .replace h:=A9 h;obtain⟨h0,h⟩:=h;obtain rfl:=AJ h0;replace h:=Ux h;obtain⟨es,rfl,h⟩:=h;simp only[An,Bf,CM]at h;exact(tD v e x n _ _ _ h.1 h.2).sb
  .replace h:=A9 h;obtain⟨h0,h⟩:=h;obtain rfl:=AJ h0;replace h:=TR h;obtain⟨es,rfl,h⟩:=h;simp only[An,Bf,CM]at h;exact(tE v e x n _ _ _ h.1 h.2).sb
 .exact Rh v e x n _ c h
theorem OW(v:VX Z CL k W T X)(hf:qb X)(e:Ak)(x:Ag):∀(n:Ag)(vo:Ac AL)(ss:Ss),Lr n T x vo ss=Ab->vq (Cx.hot X e) CL W0 vo (λU=>U7 Z U ss):=by
 intro n
 induction n with
 |zero=>intro t c h;exact U0 h
 |succ n ih=>
  intro vo i7 h;cases i7 with
  |nil=>
   obtain rfl:=G1 h;exact Qm
  |cons s i7=>
   replace h:=Kj h;obtain⟨st,r,rfl,h⟩:=h;replace h:=A9 h;obtain⟨h,h5⟩:=h;cases s with
   |asg i b e0=>
    replace h:=TN h;obtain⟨y,py,v0,pos,rfl,h⟩:=h;simp only[An,AF]at h;obtain⟨⟨⟨⟨h1,h2⟩,h3⟩,h4⟩,h6⟩:=h;cases b with
    |true=>
     cases e0 with
     |L es=>
      have sc:SC (Cx.hot X e) CL W0 Ab v0 (λU=>evE Z U (.L es)):=by
       cases n with
       |zero=>exact absurd (show Ae=Ab from h4) Ax
       |succ n=>
        replace h4:=Qf h4;obtain⟨l,pl,rfl,h4⟩:=h4;obtain⟨q,ql⟩:=OX (OY v e x n) _ _ (A9 h4).1;have hle:=AJ (A9 h4).2;exact QR q λU ds z=>by rw[KD Z U _ _ z,<-ql];omega
      have q:=LY (US (SC.sas (X:=Cx.hot X e) (pos:=pos) (pos':=py) (by show X.N.Nodup;rw[v.N];exact v.nd) (by show X.N[i]?=_;rw[v.N];exact h1) (by show o6 X.env.scope _;rw[v.sc];exact M4 h2) sc (HK h3) (.inl (hf.fn _)))) (ih _ _ h5)
      have ef:(λU=>U7 Z U (.cons (.asg i Ab (.L es)) i7))=λU=>(O.of U (evE Z U (.L es)) λd=>setF U i d).seq λU=>U7 Z U i7:=by
       funext U
       show (yt Z U (.asg i Ab (.L es))).seq _=_;rw[dI];rfl
      rw[ef];exact q
     |_=>exact absurd (show Ae=Ab from h6) Ax
    |false=>
    exact LY (oX (X:=Cx.hot X e) (by show X.N.Nodup;rw[v.N];exact v.nd) (by show X.N[_]?=_;rw[v.N];exact h1) (by show o6 X.env.scope _;rw[v.sc];exact M4 h2) (OY v e x n _ _ h4) (HK h3) (.inl (hf.fn _))) (ih _ _ h5)
   |ife c a b=>
    cases b with
    |cons=>exact U0 h
    |nil=>
    replace h:=Uz h;obtain⟨t,xs,ys,pos,rfl,h⟩:=h;replace h:=A9 h;obtain⟨h0,h⟩:=h;obtain rfl:=G1 h0;replace h:=A9 h;obtain⟨h1,h2⟩:=h;exact LY (Wh (X:=Cx.hot X e) (xE v e x n _ _ h1) (ih _ _ h2) Qm) (ih _ _ h5)
   |ret e0=>
    replace h:=Ud h;obtain⟨o,pos,rfl,h⟩:=h;cases o with
    |none=>exact U0 h
    |some v0=>
    replace h:((IR e0 λi=>Ea v0 λy=>vh T y i)||(W9 e0&&E3 n T x v0 e0))=Ab:=h
    replace h:=vj h;rcases h with h|h
    .replace h:=K7 h;obtain⟨i,rfl,h⟩:=h;replace h:=Et h;obtain⟨y,py,rfl,h⟩:=h;exact LY (UQ (X:=Cx.hot X e) (pos:=pos) (IJ v h)) (ih _ _ h5)
    replace h:=A9 h;obtain⟨h0,h1⟩:=h;have q:=LY (UR (X:=Cx.hot X e) (pos:=pos) (OY v e x n _ _ h1)) (ih _ _ h5);have ef:(λU=>U7 Z U (.cons (.ret e0) i7))=λU=>(O.of U (evE Z U e0) λd=>O.ret d Ae).seq λU=>U7 Z U i7:=by
     funext U
     cases e0<;>first|rfl|(cases h0;done)
    rw[ef];exact q
   |app i e0=>exact absurd (show Ae=Ab from h) Ax
   |_=>exact U0 h
theorem Q5{g:Ah}{c:Ag}(v:VX Z CL k W T X)(h:ý T g c=Ab):Pl X CL Z.up g c:=by
 unfold ý at h;simp only[An]at h;obtain⟨⟨⟨i1,i0⟩,i2⟩,i3⟩:=h;obtain⟨C,m1,m3,m4⟩:=v.xt.ex _ (Le i1);obtain⟨C0,r1,r2⟩:=v.xt.rz _ (Le i0);obtain⟨n2,_,_⟩:=Hh i3;refine⟨C,by unfold zc at i2;show X.env.scope.names.lookup g=_;rw[v.sc];exact eq_of_beq i2,m1,n2,?_,λc' D hD=>m4 c' D hD⟩
 have e0:=m1.symm.trans r2;cases e0;exact v.xt.xc _ _ r1
theorem tW(Z_:je Z CL k n)(W:XW)(T:Tc)(X:Cx)(st:AL)(c:S)(v:VX Z CL k W T X)(hf:qb X)(h:Jd (n+1) T st c=Ab):SS X CL W st (λU=>yt Z U c):=by
  have E:=ze (Z:=Z) (CL:=CL) (k:=k) n;cases c with
  |pass=>exact absurd (show Ae=Ab from h) Ax
  |brk=>exact absurd (show Ae=Ab from h) Ax
  |cont=>exact absurd (show Ae=Ab from h) Ax
  |asg i fresh e=>
    replace h:=TN h;obtain⟨x,px,v0,pos,rfl,h⟩:=h;simp only[An,AF]at h;obtain⟨⟨h1,h2⟩,h3⟩:=h;have o:=E.e W T X _ e v h3;cases fresh with
    |false=>exact Vr (QI (fr:=Ae) v hf.fn h1 h2 o (λz=>nomatch z))
    |true=>
      cases hn:Fv Z e with
      |true=>
        refine SS.ref (US (QI (fr:=Ab) v hf.fn h1 h2 o (λ_=>hn))) λU=>.inr ?_
        show O.of U (evE Z U e) (λd=>if Ab=Ab then (if Fv Z e=Ab then (match d with
          |.L xs=>.next (U.set i (Aa (.L xs,Ab)))
          |.dic xs=>.next (U.set i (Aa (.dic xs,Ab)))
          | _=>.bad) else .bad) else .next (U.set i (Aa (d,Ae))))=_
        rw[hn];rfl
      |false=>
        refine SS.ref (Vr (QI (fr:=Ae) v hf.fn h1 h2 o (λz=>nomatch z))) λU=>?_
        have e0:yt Z U (.asg i Ab e)=O.of U (evE Z U e) (λd=>if Ab=Ab then (if Fv Z e=Ab then (match d with
          |.L xs=>.next (U.set i (Aa (.L xs,Ab)))
          |.dic xs=>.next (U.set i (Aa (.dic xs,Ab)))
          | _=>.bad) else .bad) else .next (U.set i (Aa (d,Ae)))):=rfl
        rw[e0,hn];cases evE Z U e with
        |ok d=>exact .inl rfl
        |exn y=>exact .inr rfl
        |bad=>exact .inl rfl
  |asgT ts e=>
    replace h:=TQ h;obtain⟨t,v0,pos,rfl,h⟩:=h;replace h:=MS h;obtain⟨ys,cc,pw,rfl,h⟩:=h;simp only[An]at h;obtain⟨⟨⟨h1,h2⟩,h3⟩,h5⟩:=h;exact kG (xF ts) (oM v hf.fn h1 h2) (E.e W T X _ e v h5).se (kJ (λ_ _ z=>by cases z)) (pP h3) rfl (dN ts)
  |expr e=>
    replace h:=Ug h;obtain⟨v0,pos,rfl,h⟩:=h;simp only[An]at h;exact kE (E.e W T X _ e v h.2).se (HK h.1)
  |ret e=>
    replace h:=Ud h;obtain⟨o,pos,rfl,h⟩:=h;cases o with
    |none=>exact U0 h
    |some v0=>
    replace h:Be n T v0 e=Ab:=h;have o:=E.e W T X _ e v h;cases hv:Fv Z e with
    |true=>
      refine SS.ref (kD (o.nw hv)) λU=>.inr ?_
      rw[Ti U e (λi z=>by subst z;cases hv),hv]
    |false=>
      cases e with
      |v i=>
        cases n with
        |zero=>exact U0 h
        |succ n=>
          replace h:=Et h;obtain⟨y,py,rfl,h⟩:=h;exact UQ (On v h)
      |_=>
        refine SS.ref (UR o.se) λU=>.inr ?_
        rw[Ti U _ (by intro i z;cases z),hv]
  |retN=>exact absurd (show Ae=Ab from h) Ax
  |ife c a b=>
    replace h:=Uz h;obtain⟨t,xs,ys,pos,rfl,h⟩:=h;simp only[An]at h;exact Wh (E.b W T X _ c v h.1.1) (Z_.ss W T X _ a v hf h.1.2) (Z_.ss W T X _ b v hf h.2)
  |fors t it body=>
    replace h:=Uf h;obtain⟨tg,it',xs,ys,pos,rfl,h⟩:=h;replace h:=A9 h;obtain⟨hn,h⟩:=h;obtain rfl:=G1 hn;replace h:=Et h;obtain⟨y,py,rfl,h⟩:=h;simp only[An]at h;obtain⟨⟨⟨h1,h2⟩,h3⟩,h4⟩:=h;exact Vp v.own v.calm (nF t) (jX v hf.fn h1) (E.i W T X Ae _ _ it v rfl h3) (Z_.ss W T X _ body v hf h4) (QT h2) (λ_ _ _ z=>nomatch z)
  |forT ts it body=>
    replace h:=Uf h;obtain⟨tg,it',xs,zs,pos,rfl,h⟩:=h;replace h:=A9 h;obtain⟨hn,h⟩:=h;obtain rfl:=G1 hn;replace h:=MS h;obtain⟨ys,cc,py,rfl,h⟩:=h;simp only[An]at h;obtain⟨⟨⟨⟨h0,h1⟩,h2⟩,h3⟩,h4⟩:=h;exact Vp v.own v.calm (Vy ts) (jW v hf.fn h0 h1) (E.i W T X Ab _ _ it v rfl h3) (Z_.ss W T X _ body v hf h4) (QT h2) (SL ts)
  |forO i ts body=>exact absurd (show Ae=Ab from h) Ax
  |whl c body=>exact absurd (show Ae=Ab from h) Ax
  |rais c as=>
    replace h:(!(T.rzs.any λp=>p.2==c)||(OD st λa b=>b.isNone&&(match a with|some e=>Mb e λg x xs=>td T.rzs g c&&zc T g&&FU g&&decide (xs.length<=1000)&&Id n T (x::xs) as|none=>Ae)))=Ab:=h
    cases hc:T.rzs.any (λp=>p.2==c) with
    |false=>
      have hb:∀ ds,Z.xn c ds=.bad:=v.xt.xb c λp hp z=>by
        have:T.rzs.any (λp=>p.2==c)=Ab:=List.any_eq_true.mpr ⟨p,hp,AF.mpr z⟩
        rw[hc]at this;cases this
      intro Fz B pI s Y H D I ⟨U,x,p⟩;have p':B2 X.K CL Fz B W (O.of U (zg (xz Z U as)) λxs=>O.of U (Z.xn c xs) λx=>.exn x U) D:=p
      cases e1:xz Z U as with
      |bad=>rw[e1]at p';exact p'.elim
      |exn y=>rw[e1]at p';exact p'.elim
      |ok ds=>
        rw[e1]at p';have p2:B2 X.K CL Fz B W (O.of U (Z.xn c ds) λx=>.exn x U) D:=p'
        rw[hb ds]at p2;exact p2.elim
    |true=>
      rw[hc,Bool.not_true,Bool.false_or]at h;replace h:=eX h;obtain⟨ea,eb,pos,rfl,h⟩:=h;replace h:=A9 h;obtain⟨h0,h⟩:=h;obtain rfl:=DX.mp h0;cases ea with
      |none=>exact U0 h
      |some e0=>
        replace h:=NU h;obtain⟨g,np,x,xs,cpos,rfl,h⟩:=h;simp only[An,AM]at h;obtain⟨⟨⟨⟨h1,h2⟩,h3⟩,h4⟩,h5⟩:=h;obtain⟨C,m1,m2⟩:=v.xt.rz _ (Le h1);obtain⟨n2,_,_⟩:=Hh h3;obtain⟨s0,e,za,rfl,m,rfl,s1⟩:=MN h5;have q:=E.es W T X _ _ v h5;exact dA v.calm hf.ex v.room v.rz (by unfold zc at h2;show X.env.scope.names.lookup g=_;rw[v.sc];exact eq_of_beq h2) m2 n2 m1 q.1 (λds=>v.xt.made c C ds m1) (DS s0) (NY m xs za s1) (λU ds z=>by rw[KD Z U _ _ z,<-q.2.2.1,Bi];omega)
  |app i e=>
    replace h:=eY h;obtain⟨x,px,m,ap,l,cp,pos,rfl,h2,h⟩:=h;replace h:=FO h;obtain⟨v0,rfl,h⟩:=h;simp only[An,AF]at h;obtain⟨⟨⟨rfl,h1⟩,h3⟩,h4⟩:=h;exact oY (On v h1) (E.e W T X _ e v h4).se rfl (by rw[DS h3];rfl) (by rw[h2];exact Cv _) (DS h3) rfl
  |ext i e=>exact absurd (show Ae=Ab from h) Ax
  |rev i=>exact absurd (show Ae=Ab from h) Ax
  |clr i=>exact absurd (show Ae=Ab from h) Ax
  |put i k e=>exact absurd (show Ae=Ab from h) Ax
  |tryx body c x hh=>exact absurd (show Ae=Ab from h) Ax
  |try2 body c x hd c' lw els=>exact absurd (show Ae=Ab from h) Ax
  |swp i k l=>exact absurd (show Ae=Ab from h) Ax
  |apop j i e=>exact absurd (show Ae=Ab from h) Ax
  |ins i k e=>exact absurd (show Ae=Ab from h) Ax
  |dput=>exact U0 h
  |dsd=>exact U0 h
  |rel=>exact U0 h
theorem gJ{c:Ss}(h:Pf c=Ab)(U:Rho):U7 Z U c=.bad:=by
 cases c with
 |nil=>cases h
 |cons s ss=>
  cases s with
  |expr e=>
   cases e with
   |bi b as=>
    cases as with
    |nil=>
     cases b with
     |len=>rfl
     |_=>exact U0 h
    |cons=>cases b<;>exact U0 h
   |_=>exact U0 h
  |_=>exact U0 h
theorem oU(Z_:je Z CL k n)(W:XW)(T:Tc)(X:Cx)(xs:Ac AL)(c:Ss)(v:VX Z CL k W T X)(hf:qb X)(h:zu (n+1) T xs c=Ab):vq X CL W xs (λU=>U7 Z U c):=by
 by_cases hb:Pf c=Ab
 .exact λFz B pI s Y H D I ⟨U,x,p⟩=>by
   dsimp only at p;rw[gJ hb]at p;exact p.elim
 have hb:Pf c=Ae:=by simpa using hb
 cases c with
 |nil=>
  simp only[zu,hb,DQ,List.isEmpty_iff]at h;subst h;exact Qm
 |cons s ss=>
  by_cases hr:∃ i,s=.rel i
  .obtain⟨i,rfl⟩:=hr;simp only[zu,hb,DQ]at h;exact kC i (Z_.ss W T X xs ss v hf h)
  .cases xs with
   |nil=>cases s<;>first|(simp[zu,hb]at h;done)|exact absurd ⟨_,rfl⟩ hr
   |cons st r=>
    have h':Jd n T st s=Ab/\zu n T r ss=Ab:=by
     cases s<;>first|(simp only[zu,hb,DQ,An]at h;exact h)|exact absurd ⟨_,rfl⟩ hr
    exact LY (Z_.s W T X st s v hf h'.1) (Z_.ss W T X r ss v hf h'.2)
theorem IZ:∀ n,je Z CL k n
 |0=>⟨λ_ _ _ _ _ _ _ h=>U0 h,λ_ _ _ _ _ _ _ h=>U0 h⟩
 |n+1=>⟨tW (IZ n),oU (IZ n)⟩
end
theorem W8{Z_:Ac α->Prop}(h:∀ a,Z_ [a]):∀ us:Ac α,us.length=1->Z_ us
 |[a],_=>h a
theorem KZ{Z_:Ac α->Prop}(h:∀ a b,Z_ [a,b]):∀ us:Ac α,us.length=2->Z_ us
 |[a,b],_=>h a b
theorem R6{Z_:Ac α->Prop}(h:∀ a b c,Z_ [a,b,c]):∀ us:Ac α,us.length=3->Z_ us
 |[a,b,c],_=>h a b c
theorem kI{G:Ac D->R D}{Q:VK}{E:XK}(h:cz K CL G vs H Q E):vs.length=3:=by
 obtain⟨x,C,dx,us,ds,A,H0,e,z,_⟩:=h;rw[e,Bi,z]
theorem pA{G:Ac D->R D}{Q:VK}{E:XK}(h:cz K CL G vs H Q E)(k:∀(x C dx:Ak)(us:Ac V)(ds:Ac D)(A:Ak->Prop)(H0:Hp),vs=.ref x::us->us.length=2->wk K C->EX K C "p"->EX K C "triple"->H x=Aa (.ins C dx [])->H0 x=Af->Az H0 H->Ty H0 A->Z9 K CL H0 A us ds->(match G ds with
 |.ok d=>∀ d1 d2,d=.H [d1,d2]->∀ v1 v2 H',Az H0 H'->H' x=Aa (.ins C dx [("p",v1),("triple",v2)])->Z7 K CL H' A v1 d1->Z7 K CL H' A v2 d2->Q .O H'
 | _=>AN)->Z_):Z_:=by
 obtain⟨x,C,dx,us,ds,B,H0,e,hl,cl,np,nt,hx,h0,sm,hA,hr,hp⟩:=h;exact k x C dx us ds B H0 e hl cl np nt hx h0 sm hA hr hp
theorem LV{n:Ag}{ds:Ac D}{i:Ag}{d:D}{o:Am}(h:(Bu n ds)[i]?=Aa (Aa (d,o))):o=Ae/\ds[i]?=Aa d:=by
 unfold Bu at h;by_cases hi:i<ds.length
 .rw[Fw (by simpa using hi),Ez]at h
  cases e:ds[i]? with
  |none=>rw[e]at h;cases h
  |some x=>rw[e]at h;cases h;exact⟨rfl,rfl⟩
 .rw[Yk (by simpa using Nat.le_of_not_lt hi),Yl]at h
  split at h<;>cases h
theorem cZ{N:Ac Ah}{i:Ag}{v:V}(h:vs[i]?=Aa v):(L2.start N vs)[i]?=Aa (Aa v):=by
 unfold L2.start;have hi:=(A5.mp h).1;rw[Fw (by simpa using hi),Ez,h]
 rfl
theorem T7{N:Ac Ah}{n:Ag}{ds:Ac D}(hn:N.length=n)(hA:Ty H A)(r:Z9 K CL H A vs ds):Sx K CL ⟨λb o=>H b=Aa o,λ_ _ _=>AN⟩ A (Bu n ds) (L2.start N vs) H:=by
 have own:∀ a,BJ A (Bu n ds) (L2.start N vs) a->A a:=λa h=>by
  rcases h with h|⟨j,d,h,_⟩
  .exact h
  .exact absurd (LV h).1 (by decide)
 have U8:(Bu n ds).length=(L2.start N vs).length:=by
  unfold Bu L2.start;simp only[BS,Bc,Ys,r.length,hn]
 refine⟨⟨λi d h=>?_,λi d h _=>absurd (LV h).1 (by decide),U8⟩,λa h=>hA a (own a h),λj d a h _=>absurd (LV h).1 (by decide),λi j d e a h _ _ _=>absurd (LV h).1 (by decide),λb o h=>h,U8,λj h=>absurd (LV h).1 (by decide)⟩
 obtain⟨v,h1,h2⟩:=r.get (LV h).2;exact⟨v,cZ h1,Z7.sub own _ h2⟩
structure yx (K:Fg) (x qual:Ah) (st:AL) (f:Ak) (fd:Bj):Prop where
 ex:∃(oc:Al)(od:Ao Ak)(dV kV doc pm:Al)(an:Ao Ak)(cdv ct:Al)(osl:Bl (Ao Al)),
  fd=B1 x qual (Hi st) (Dh st) (AG st) dV kV doc pm an cdv ct/\K.lookup f=Aa ⟨oc,od,.func fd,osl⟩/\DD K cdv qual=Ab
 kp:Ba K (.ref f)=Ab
theorem Ho{st:AL}{f:Ak}(F:qc K x qual st f fd):yx K x qual st f fd:=by
 obtain⟨oc,od,kV,doc,pm,an,cdv,ct,osl,e,lk,zo⟩:=F.ex;exact⟨⟨oc,od,.none,kV,doc,pm,an,cdv,ct,osl,e,lk,zo⟩,F.kp⟩
def KW(K:Fg)(mg:Ah->Ao Al)(fns:Ac (Ah×Ag×Ag))(bl:Ac Ah)(rzs exs gls:Ac (Ah×Ag))(Pg:Prg)(fuel:Ag)(p:Ah×Ag×Ag):Prop:=∃ f fd ps qual st N,IV K mg p.1=Aa (.ref f)/\(∃ x,yx K x qual st f fd)/\CW K fd ps []/\ps.length=p.2.2%1000/\Gz fuel (CD 1000 p.2.2) fns bl rzs exs gls ps N st (Pg.defs p.2.1)=Ab
noncomputable def Q8:AL->Ao (Aq×Aq×AE)
  | .Assign ts v p=>(match ts with
    |[t]=>Aa (t,v,p)
    | _=>Af)
  |_=>Af
theorem TZ{e:AL}{t:Aq×Aq×AE}(h:Q8 e=Aa t):e=.Assign [t.1] t.2.1 t.2.2:=by
 cases e with
 |Assign ts v p=>
  cases ts with
  |nil=>exact nomatch (show Af=Aa t from h)
  |cons a ts=>
   cases ts with
   |nil=>cases h;rfl
   |cons=>exact nomatch (show Af=Aa t from h)
 |_=>exact nomatch (show Af=Aa t from h)
noncomputable def Q7:Aq->Ao (Aq×Ah×AE)
 |.Attribute e x p=>Aa (e,x,p)
 |_=>Af
theorem TY{e:Aq}{t:Aq×Ah×AE}(h:Q7 e=Aa t):e=.Attribute t.1 t.2.1 t.2.2:=by
 cases e with
 |Attribute e x p=>cases h;rfl
 |_=>exact nomatch (show Af=Aa t from h)
noncomputable def XC(n:Ag)(T:Tc)(b:Ac AL):Ao D9:=(Nu b).bind λs=>(Q8 s.1).bind λt1=>(Q7 t1.1).bind λa1=>(IX a1.1).bind λs1=>(IX t1.2.1).bind λq1=>(Q8 s.2).bind λt2=>(Q7 t2.1).bind λa2=>(IX a2.1).bind λs2=>
 if (s1.1==("self" : Ah)&&(a1.2.1==("p" : Ah)&&(q1.1==("p" : Ah)&&(s2.1==("self" : Ah)&&(a2.2.1==("triple" : Ah)&&(F8 t2.2.1&&Be n T t2.2.1 (.call 17 (.cons (.v 1) (.cons (.v 2) .nil)))))))))=Ab then Aa () else Af
theorem lA{n:Ag}{T:Tc}{b:Ac AL}{u:D9}(h:XC n T b=Aa u):∃ p0 p1 p2 p3 p4 p5 p6 ev,b=[.Assign [.Attribute (.Name "self" p0) "p" p1] (.Name "p" p2) p6,.Assign [.Attribute (.Name "self" p3) "triple" p4] ev p5]/\F8 ev=Ab/\Be n T ev (.call 17 (.cons (.v 1) (.cons (.v 2) .nil)))=Ab:=by
 obtain⟨s,e1,h⟩:=AC.mp h;obtain⟨t1,e2,h⟩:=AC.mp h;obtain⟨a1,e3,h⟩:=AC.mp h;obtain⟨s1,e4,h⟩:=AC.mp h;obtain⟨q1,e5,h⟩:=AC.mp h;obtain⟨t2,e6,h⟩:=AC.mp h;obtain⟨a2,e7,h⟩:=AC.mp h;obtain⟨s2,e8,h⟩:=AC.mp h;split at h
 .rename_i hc;simp only[An,AF]at hc;obtain⟨c1,c2,c3,c4,c5,c6,c7⟩:=hc;rw[N6 e1,TZ e2,TY e3,Jx e4,Jx e5,TZ e6,TY e7,Jx e8,c1,c2,c3,c4,c5];exact⟨_,_,_,_,_,_,_,_,rfl,c6,c7⟩
 .cases h
noncomputable def Ny(fuel:Ag)(fns:Ac (Ah×Ag×Ag))(bl:Ac Ah)(rzs exs gls:Ac (Ah×Ag))(st:AL):Am:=
 (AG st).kind==.function&&((AG st).isCoroutine==Ae&&((AG st).isGenerator==Ae&&((AG st).names.lookup ("self" : Ah)==Aa .local&&((AG st).names.lookup ("p" : Ah)==Aa .local&&((AG st).names.lookup ("numbers" : Ah)==Aa .local&&(((AG st).names.all λy=>y.2 != .free) &&
  (XC fuel ⟨AG st,["self", "p", "numbers"],fns,bl,rzs,exs,gls,Ab⟩ (Dh st)).isSome))))))
noncomputable def HP(s:AL)(j:Ag):AL:=match s with
  |.ClassDef _ _ _ b _ _ _ _ _ _ _=>b.getD j s
  |s=>s
def InR(K:Fg)(fns:Ac (Ah×Ag×Ag))(bl:Ac Ah)(rzs exs gls:Ac (Ah×Ag))(Pg:Prg)(fuel:Ag):Prop:=(∀ c,c<3->Pg.defs (900+c)=tf c)/\Pg.defs 910=ki/\∃ f fd x qual st,yx K x qual st f fd/\CW K fd ["self", "p", "numbers"] []/\Ny fuel fns bl rzs exs gls st=Ab/\∀ c,c<3->∃ C,OC K c=Aa C/\Mk K C f
structure wl (K:Fg) (mg:Ah->Ao Al) (CL:ClA) (fns:Ac (Ah×Ag×Ag)) (bl:Ac Ah) (rzs exs gls:Ac (Ah×Ag)) (Pg:Prg) (fuel:Ag):Prop where
 os:OS K mg
 ini:InR K fns bl rzs exs gls Pg fuel
 xt:XT Pg.up Pg.xn CL rzs exs K mg
 bln:∀ x,x∈bl->mg x=Af
 gl:∀ p∈gls,JQ K mg CL p.1 (Pg.G p.2)
 fn:∀ p∈fns,KW K mg fns bl rzs exs gls Pg fuel p
theorem Op(Pg:Prg)(n i:Ag):(Z6 Pg n).fr i=(Pg.defs i).fr:=by cases n<;>rfl
theorem KI(Pg:Prg)(n:Ag):(Z6 Pg n).up=Pg.up:=by cases n<;>rfl
theorem KJ(Pg:Prg)(n:Ag):(Z6 Pg n).G=Pg.G:=by cases n<;>rfl
theorem Lf(Pg:Prg)(n:Ag):(Z6 Pg n).xn=Pg.xn:=by cases n<;>rfl
section
variable{P:AK}{w:AH}{K:Fg}{mg:Ah->Ao Al}{base:AI}{CL:ClA}{fns:Ac (Ah×Ag×Ag)}{bl:Ac Ah}{rzs exs gls:Ac (Ah×Ag)}{Pg:Prg}{fuel:Ag}
def jb(P:AK)(w:AH)(K:Fg)(mg:Ah->Ao Al)(base:AI)(CL:ClA)(Pg:Prg)(n:Ag)(p:Ah×Ag×Ag):Prop:=∃ f fd ps,IV K mg p.1=Aa (.ref f)/\Ba K (.ref f)=Ab/\CW K fd ps []/\ps.length=p.2.2%1000/\(p.2.2<1000->Y4 P w K mg base (CXR P w) n f fd ps (spD K CL (p.2.2%1000) ((Z6 Pg n).fr p.2.1) ((Z6 Pg n).F p.2.1)))/\(1000<=p.2.2->w4 P w K mg base n f fd ps (spH K CL (p.2.2%1000) ((Z6 Pg n).fr p.2.1) ((Z6 Pg n).F p.2.1)))
theorem sI(t:wl K mg CL fns bl rzs exs gls Pg fuel){n:Ag}(j4:∀ q∈fns,jb P w K mg base CL Pg n q)(aq:∀ c,c<3->fj P w K mg base CL (Z6 Pg n).F n c){st:AL}{f:Ak}{ps N:Ac Ah}{m id:Ag}(h2:yx K x qual st f fd)(h4:ps.length=m)(h5:Gz fuel Ae fns bl rzs exs gls ps N st (Pg.defs id)=Ab):Y4 P w K mg base (CXR P w) (n+1) f fd ps (spD K CL m ((Z6 Pg (n+1)).fr id) ((Z6 Pg (n+1)).F id)):=by
  unfold Gz at h5;simp only[An,AF,Bf,Bh,BV,E8,JT]at h5;obtain⟨⟨⟨⟨⟨⟨⟨⟨c1,c2⟩,c3⟩,c4⟩,c5⟩,c6⟩,c7⟩,c8⟩,c9⟩:=h5;obtain⟨oc,od,dV,kV,doc,pm,an,cdv,ct,osl,rfl,lk,zo⟩:=h2.ex;refine Hq (N:=N) lk zo ⟨c1,c2,c3,II c4,c5,c6,c7⟩ (λvs H Q E ⟨ds,A,z,_⟩=>z.trans h4.symm) λA outer s H vs Q E hr ⟨ds,B,hl,hA,wf,Z0⟩=>?_
  have xt:XT (Z6 Pg n).up (Z6 Pg n).xn CL rzs exs K mg:=by rw[KI,Lf];exact t.xt
  have gl:∀ p∈gls,JQ K mg CL p.1 ((Z6 Pg n).G p.2):=by rw[KJ];exact t.gl
  have key:∀ W:XW,(∀ x cls dx H',W x H'->Dr K CL H' cls dx x->E cls dx H')->B2 K CL ⟨λb o=>H b=Aa o,λ_ _ _=>AN⟩ B W (U7 (Z6 Pg n) (Bu (Pg.defs id).n ds) (Pg.defs id).body) {nx:=λ_ H'=>Q .O H',rt:=Q} ->
      ∃ t,ye (B0 (CXR P w) P w K mg base N qual (AG st) f cdv A outer s H E) (Dh st) t/\t {nx:=λ_ H'=>Q .O H',rt:=Q} (start N vs) H:=λW hW hp=>by
    have v:VX (Z6 Pg n) CL n W ⟨AG st,N,fns,bl,rzs,exs,gls,Ab⟩ (B0 (CXR P w) P w K mg base N qual (AG st) f cdv A outer s H E):=⟨rfl,c1,rfl,II c4,rfl,hr,t.bln,t.os,aq,j4,ra,Oz hW,Ð hW,xt,gl,λ_=>rfl⟩
    exact⟨_,(IZ fuel).ss W _ _ _ (Pg.defs id).body v ⟨λ_=>rfl,rfl,rfl,rfl⟩ c9 ⟨λb o=>H b=Aa o,λ_ _ _=>AN⟩ B,_,T7 c8 hA wf,hp⟩
  have no:∀ x cls dx H',W0 x H'->Dr K CL H' cls dx x->E cls dx H':=λ_ _ _ _ z=>z.elim
  have e:(Z6 Pg (n+1)).F id ds=Ew Pg.xs ((U7 (Z6 Pg n) (Bu (Pg.defs id).n ds) (Pg.defs id).body).ans (Pg.defs id).fr):=rfl;rw[e,Op]at Z0;have yp:∀ r:R D,(∀ x,r≠.exn x)->Ew Pg.xs r=r:=λr hr=>by
    cases Pg.xs<;>cases r<;>first|rfl|exact absurd rfl (hr _)
  cases eo:U7 (Z6 Pg n) (Bu (Pg.defs id).n ds) (Pg.defs id).body with
  |next U'=>
    refine key W0 no ?_;rw[eo]at Z0 ⊢;cases ef:(Pg.defs id).fr with
    |true=>rw[ef]at Z0;rw[yp _ (by intro x z;cases z)]at Z0;exact Z0.elim
    |false=>
      rw[ef]at Z0;rw[yp _ (by intro x z;cases z)]at Z0
      exact λY' H' x'=>Z0 .O H' (λb o z=>x'.same b o z) ⟨rfl,λz=>nomatch z⟩
  |ret d b=>
    refine key W0 no ?_;rw[eo]at Z0 ⊢;intro v H' sm rp fr;have z9:(match Ew Pg.xs (if ((Pg.defs id).fr&&(!b&&kj d))=Ab then R.bad else R.ok d) with
      |.ok d=>∀ v H',Az H H'->Cr K CL (Pg.defs id).fr H B H' v d->Q v H'
      |.exn x=>∀ cls dx H',Az H H'->Dr K CL H' cls dx x->E cls dx H'
      | .bad=>AN):=Z0
    cases ec:((Pg.defs id).fr&&(!b&&kj d)) with
    |true=>rw[ec,Au rfl,yp _ (by intro x z;cases z)]at z9;exact z9.elim
    |false=>
      rw[ec,Ay (by decide),yp _ (by intro x z;cases z)]at z9
      refine z9 v H' sm ⟨rp,λefr es hd=>?_⟩
      subst hd;have eb:b=Ab:=by
        cases b with
        |true=>rfl
        |false=>rw[efr]at ec;cases ec
      obtain⟨a,xs,h1,h2,h3,h4⟩:=fr eb es rfl;refine⟨a,xs,h1,?_,h3,h4⟩;cases ha:H a with
      |none=>rfl
      |some o=>exact absurd ha (h2 o)
  |brk U'=>rw[eo]at Z0;have z9:(match Ew Pg.xs (R.bad:R D) with | .ok _=>_ | .exn _=>_ | .bad=>AN):=Z0;rw[yp _ (by intro x z;cases z)]at z9;exact z9.elim
  |cont U'=>rw[eo]at Z0;have z9:(match Ew Pg.xs (R.bad:R D) with | .ok _=>_ | .exn _=>_ | .bad=>AN):=Z0;rw[yp _ (by intro x z;cases z)]at z9;exact z9.elim
  |bad=>rw[eo]at Z0;have z9:(match Ew Pg.xs (R.bad:R D) with | .ok _=>_ | .exn _=>_ | .bad=>AN):=Z0;rw[yp _ (by intro x z;cases z)]at z9;exact z9.elim
  |exn x U'=>
    rw[eo]at Z0;have z9:(match Ew Pg.xs (R.exn x:R D) with
      |.ok d=>∀ v H',Az H H'->Cr K CL (Pg.defs id).fr H B H' v d->Q v H'
      |.exn x=>∀ cls dx H',Az H H'->Dr K CL H' cls dx x->E cls dx H'
      | .bad=>AN):=Z0
    cases ex:Pg.xs with
    |false=>rw[ex]at z9;exact z9.elim
    |true=>
      rw[ex]at z9;have hp3:∀ cls dx H',Az H H'->Dr K CL H' cls dx x->E cls dx H':=z9;refine key (λy H'=>y=x/\Az H H') (λy cls dx H' ⟨e1,sm⟩ xr=>?_) ?_
      · subst e1;exact hp3 cls dx H' sm xr
      · rw[eo];exact λH' sm=>⟨rfl,sm⟩
theorem sZ(t:wl K mg CL fns bl rzs exs gls Pg fuel){n:Ag}(j4:∀ q∈fns,jb P w K mg base CL Pg n q)(aq:∀ c,c<3->fj P w K mg base CL (Z6 Pg n).F n c){st:AL}{f:Ak}{ps N:Ac Ah}{m id:Ag}(h2:yx K x qual st f fd)(h4:ps.length=m)(h5:Gz fuel Ab fns bl rzs exs gls ps N st (Pg.defs id)=Ab):w4 P w K mg base (n+1) f fd ps (spH K CL m ((Z6 Pg (n+1)).fr id) ((Z6 Pg (n+1)).F id)):=by
  unfold Gz at h5;simp only[An,AF,Bf,Bh,BV,E8,JT]at h5;obtain⟨⟨⟨⟨⟨⟨⟨⟨c1,c2⟩,c3⟩,c4⟩,c5⟩,c6⟩,c7⟩,c8⟩,c9⟩:=h5;obtain⟨oc,od,dV,kV,doc,pm,an,cdv,ct,osl,rfl,lk,zo⟩:=h2.ex;refine tB (N:=N) lk zo ⟨c1,c2,c3,II c4,c5,c6,c7⟩ (λvs H Q E ⟨ds,A,z,_⟩=>z.trans h4.symm) λA ev outer s H vs Q E hr ⟨ds,B,hl,hA,wf,Z0⟩=>?_
  have xt:XT (Z6 Pg n).up (Z6 Pg n).xn CL rzs exs K mg:=by rw[KI,Lf];exact t.xt
  have gl:∀ p∈gls,JQ K mg CL p.1 ((Z6 Pg n).G p.2):=by rw[KJ];exact t.gl
  have key:B2 K CL ⟨λb o=>H b=Aa o,λ_ _ _=>AN⟩ B W0 (U7 (Z6 Pg n) (Bu (Pg.defs id).n ds) (Pg.defs id).body) {nx:=λ_ H'=>Q .O H',rt:=Q} ->
      ∃ t,ye (Cx.hot (B0 JN P w K mg base N qual (AG st) f cdv A outer s H E) ev) (Dh st) t/\t {nx:=λ_ H'=>Q .O H',rt:=Q} (start N vs) H:=λhp=>by
    have v:VX (Z6 Pg n) CL n W0 ⟨AG st,N,fns,bl,rzs,exs,gls,Ab⟩ (B0 JN P w K mg base N qual (AG st) f cdv A outer s H E):=⟨rfl,c1,rfl,II c4,rfl,hr,t.bln,t.os,aq,j4,ZD,QM,R4,xt,gl,λ_=>rfl⟩
    exact⟨_,OW v ⟨λ_=>rfl,rfl,rfl,rfl⟩ ev 0 fuel _ (Pg.defs id).body c9 ⟨λb o=>H b=Aa o,λ_ _ _=>AN⟩ B,_,T7 c8 hA wf,hp⟩
  have e:(Z6 Pg (n+1)).F id ds=Ew Pg.xs ((U7 (Z6 Pg n) (Bu (Pg.defs id).n ds) (Pg.defs id).body).ans (Pg.defs id).fr):=rfl;rw[e,Op]at Z0;have yp:∀ r:R D,(∀ x,r≠.exn x)->Ew Pg.xs r=r:=λr hr=>by
    cases Pg.xs<;>cases r<;>first|rfl|exact absurd rfl (hr _)
  refine key ?_;cases eo:U7 (Z6 Pg n) (Bu (Pg.defs id).n ds) (Pg.defs id).body with
  |next U'=>
    rw[eo]at Z0;cases ef:(Pg.defs id).fr with
    |true=>rw[ef]at Z0;rw[yp _ (by intro x z;cases z)]at Z0;exact Z0.elim
    |false=>
      rw[ef]at Z0;rw[yp _ (by intro x z;cases z)]at Z0
      exact λY' H' x'=>Z0 .O H' (λb o z=>x'.same b o z) ⟨rfl,λz=>nomatch z⟩
  |ret d b=>
    rw[eo]at Z0;intro v H' sm rp fr;have z9:(match Ew Pg.xs (if ((Pg.defs id).fr&&(!b&&kj d))=Ab then R.bad else R.ok d) with
      |.ok d=>∀ v H',Az H H'->Cr K CL (Pg.defs id).fr H B H' v d->Q v H'
      |.exn x=>AN
      | .bad=>AN):=Z0
    cases ec:((Pg.defs id).fr&&(!b&&kj d)) with
    |true=>rw[ec,Au rfl,yp _ (by intro x z;cases z)]at z9;exact z9.elim
    |false=>
      rw[ec,Ay (by decide),yp _ (by intro x z;cases z)]at z9
      refine z9 v H' sm ⟨rp,λefr es hd=>?_⟩
      subst hd;have eb:b=Ab:=by
        cases b with
        |true=>rfl
        |false=>rw[efr]at ec;cases ec
      obtain⟨a,xs,h1,h2,h3,h4⟩:=fr eb es rfl;refine⟨a,xs,h1,?_,h3,h4⟩;cases ha:H a with
      |none=>rfl
      |some o=>exact absurd ha (h2 o)
  |brk U'=>rw[eo]at Z0;have z9:(match Ew Pg.xs (R.bad:R D) with | .ok _=>_ | .exn _=>_ | .bad=>AN):=Z0;rw[yp _ (by intro x z;cases z)]at z9;exact z9.elim
  |cont U'=>rw[eo]at Z0;have z9:(match Ew Pg.xs (R.bad:R D) with | .ok _=>_ | .exn _=>_ | .bad=>AN):=Z0;rw[yp _ (by intro x z;cases z)]at z9;exact z9.elim
  |bad=>rw[eo]at Z0;have z9:(match Ew Pg.xs (R.bad:R D) with | .ok _=>_ | .exn _=>_ | .bad=>AN):=Z0;rw[yp _ (by intro x z;cases z)]at z9;exact z9.elim
  |exn x U'=>
    rw[eo]at Z0;have z9:(match Ew Pg.xs (R.exn x:R D) with
      |.ok d=>∀ v H',Az H H'->Cr K CL (Pg.defs id).fr H B H' v d->Q v H'
      |.exn x=>AN
      | .bad=>AN):=Z0
    exfalso
    cases ex:Pg.xs with
    |false=>rw[ex]at z9;exact z9
    |true=>
      rwa [ex]at z9
noncomputable def Gn(Pg:Prg)(n:Ag):Ac D->R D
  | [d1,d2]=>(match (Z6 Pg n).F 17 [d1,d2] with
    |.ok t=>if xg 5 t=Ab then .ok (.H [d1,t]) else .bad
    | _=>.bad)
  |_=>.bad
theorem tT(Pg:Prg)(n:Ag)(ds:Ac D)(y:Ex):Gn Pg n ds≠.exn y:=by
  match ds with
  |[]=>exact λz=>nomatch z
  |[_]=>exact λz=>nomatch z
  |_::_::_::_=>exact λz=>nomatch z
  |[d1,d2]=>
    show (match (Z6 Pg n).F 17 [d1,d2] with
      |.ok t=>if xg 5 t=Ab then .ok (.H [d1,t]) else .bad
      | _=>.bad:R D)≠.exn y
    split
    · split<;>exact λz=>nomatch z
    · exact λz=>nomatch z
theorem kQ(t:wl K mg CL fns bl rzs exs gls Pg fuel){n:Ag}(j4:∀ q∈fns,jb P w K mg base CL Pg n q)(aq:∀ c,c<3->fj P w K mg base CL (Z6 Pg n).F n c){st:AL}{f:Ak}(h2:yx K x qual st f fd)(h5:Ny fuel fns bl rzs exs gls st=Ab):
    Y4 P w K mg base (CXR P w) (n+1) f fd ["self", "p", "numbers"] (cz K CL (Gn Pg n)):=by
  unfold Ny at h5;simp only[An,AF,Bh,E8,JT]at h5;obtain⟨c1,c2,c3,c4,c5,c6,c7,c8⟩:=h5;obtain⟨u,c8⟩:=Cz.mp c8;obtain⟨p0,p1,p2,p3,p4,p5,p6,ev,eb,hnc,hck⟩:=lA c8;obtain⟨oc,od,dV,kV,doc,pm,an,cdv,ct,osl,rfl,lk,zo⟩:=h2.ex;refine Hq (N:=["self", "p", "numbers"]) lk zo ⟨c1,c2,c3,by decide,rfl,λy hy=>?_,c7⟩ (λ_ _ _ _ h=>kI h) λA outer s H vs Q E hr h=>pA h λx C dx us ds B H0 e hl cl np nt hx h0 sm hA wf Z0=>?_
  · rcases A6.mp hy with rfl|hy
    · exact .inl c4
    · rcases A6.mp hy with rfl|hy
      · exact .inl c5
      · rw[BU.mp hy];exact .inl c6
  subst e;have xt:XT (Z6 Pg n).up (Z6 Pg n).xn CL rzs exs K mg:=by rw[KI,Lf];exact t.xt
  have gl:∀ p∈gls,JQ K mg CL p.1 ((Z6 Pg n).G p.2):=by rw[KJ];exact t.gl
  have no:∀ x cls dx H',W0 x H'->Dr K CL H' cls dx x->E cls dx H':=λ_ _ _ _ z=>z.elim
  have v:VX (Z6 Pg n) CL n W0 ⟨AG st,["self", "p", "numbers"],fns,bl,rzs,exs,gls,Ab⟩ (B0 (CXR P w) P w K mg base ["self", "p", "numbers"] qual (AG st) f cdv A outer s H E):=⟨rfl,c1,rfl,(show (["self", "p", "numbers"]:Ac Ah).Nodup by decide),rfl,hr,t.bln,t.os,aq,j4,ra,Oz no,Ð no,xt,gl,λ_=>rfl⟩
  match us,hl with
  |[v1,v2],_=>
    match ds,wf with
    |[],r=>exact r.elim
    |[_],r=>exact r.2.elim
    |_::_::_::_,r=>exact r.2.2.elim
    |[d1,d2],r=>
      have sv:=((ze fuel).e W0 _ _ ev _ v hck).se;obtain⟨tt,pss,rd⟩:=dW (H:=H) (H0:=H0) (x:=x) (C:=C) (dx:=dx) (v1:=v1) (v2:=v2) (d1:=d1) (d2:=d2) (A:=B) (Q:=Q) (Y:=L2.start ["self", "p", "numbers"] [.ref x,v1,v2]) (p0:=p0) (p1:=p1) (p2:=p2) (p3:=p3) (p4:=p4) (p5:=p5) (p6:=p6) (t0:=B0 (CXR P w) P w K mg base ["self", "p", "numbers"] qual (AG st) f cdv A outer s H E)
        (λp=>Dw rfl (.inl c4)) (λp=>Dw rfl (.inl c5)) sv (HK hnc)
      refine⟨tt,by rw[eb];exact pss,rd rfl cl np nt hx h0 sm hA r.1 r.2.1 ?_⟩
      have z9:(match (match (Z6 Pg n).F 17 [d1,d2] with
          |.ok t=>if xg 5 t=Ab then R.ok (D.H [d1,t]) else .bad
          | _=>.bad) with
        |.ok d=>∀ e1 e2,d=.H [e1,e2]->∀ v1 v2 H',Az H0 H'->H' x=Aa (.ins C dx [("p",v1),("triple",v2)])->Z7 K CL H' B v1 e1->Z7 K CL H' B v2 e2->Q .O H'
        | _=>AN):=Z0
      cases e17:(Z6 Pg n).F 17 [d1,d2] with
      |bad=>rw[e17]at z9;exact z9.elim
      |exn y=>rw[e17]at z9;exact z9.elim
      |ok t0=>
        rw[e17]at z9;dsimp only at z9;by_cases hn:xg 5 t0=Ab
        · rw[Au hn]at z9;exact⟨t0,rfl,hn,λw1 w2 H' a b c d=>z9 _ _ rfl w1 w2 H' a b c d⟩
        · rw[Ay hn]at z9;exact z9.elim
theorem mkF{c:Ag}:(tf c).run Z [d1,d2]=(zg (Z.F 910 [d1,d2])).bind (EI c):=by
 simp only[Df.run,tf,Bu,dH,UY];show (O.seq (O.of _ ((zg ((Z.F 910 [d1,d2]).bind λd=>.ok d)).bind λx=>EI c x) λd=>O.ret d _) _).ans Ae=_
 have nx:∀ d y,EI c d≠.exn y:=λd y z=>by
  unfold EI at z;split at z
  .split at z<;>cases z
  .cases z
 cases Z.F 910 [d1,d2] with
 |bad=>rfl
 |exn y=>rfl
 |ok d=>
  show (O.seq (O.of _ (EI c d) λd=>O.ret d _) _).ans Ae=EI c d
  cases e:EI c d with
  |ok _=>rfl
  |bad=>rfl
  |exn y=>exact absurd e (nx d y)
theorem inF:zg (ki.run Z [d1,d2])=zg ((Z.F 17 [d1,d2]).bind λt=>.ok (.H [d1,t])):=by
 simp[Df.run,ki,Bu];cases Z.F 17 [d1,d2]<;>rfl
theorem Wu(t:wl K mg CL fns bl rzs exs gls Pg fuel):∀ n,(∀ m,m<=n->∀ q∈fns,jb P w K mg base CL Pg m q)->∀ c,c<3->fj P w K mg base CL (Z6 Pg n).F n c:=by
  intro n
  induction n using Nat.strongRecOn with
  |ind n ih=>
    intro hl c hc;obtain⟨i1,i2,f,fd,x,qual,st,h2,h3,h5,h6⟩:=t.ini
    match n,ih,hl with
    |0,_,_=>exact .inl λds=>rfl
    |1,_,_=>
      refine .inl λds=>?_
      have e:(Z6 Pg 1).F (900+c) ds=Ew Pg.xs ((Pg.defs (900+c)).run (Z6 Pg 0) ds):=rfl;rw[e,i1 c hc];have e2:(tf c).run (Z6 Pg 0) ds=.bad:=by
        match ds with
        |[]=>rfl
        |[_]=>rfl
        |_::_::_=>rfl
      rw[e2];cases Pg.xs<;>rfl
    |m+2,ih,hl=>
      obtain⟨C,o1,M⟩:=h6 c hc;refine .inr ⟨C,f,fd,Gn Pg m,m+1,o1,M,h3,rfl,kQ t (λq hq=>hl m (by omega) q hq) (ih m (by omega) λk hk=>hl k (by omega)) h2 h5,λds hd=>?_,tT Pg m⟩
      match ds,hd with
      |[d1,d2],_=>
        have cutN:∀ r:R D,zg (Ew Pg.xs r)=zg r:=λr=>by cases Pg.xs<;>cases r<;>rfl
        have e:(Z6 Pg (m+2)).F (900+c) [d1,d2]=Ew Pg.xs ((Pg.defs (900+c)).run (Z6 Pg (m+1)) [d1,d2]):=rfl;have e0:(Z6 Pg (m+1)).F 910 [d1,d2]=Ew Pg.xs ((Pg.defs 910).run (Z6 Pg m) [d1,d2]):=rfl;rw[e,i1 c hc,mkF,e0,i2,cutN,inF];cases e17:(Z6 Pg m).F 17 [d1,d2] with
        |bad=>refine .inl ?_;cases Pg.xs<;>rfl
        |exn y=>refine .inl ?_;cases Pg.xs<;>rfl
        |ok t0=>
          by_cases hn:xg 5 t0=Ab
          · refine .inr ?_;have g:Gn Pg m [d1,d2]=.ok (.H [d1,t0]):=by
              show (match (Z6 Pg m).F 17 [d1,d2] with
                |.ok t=>if xg 5 t=Ab then .ok (.H [d1,t]) else .bad
                | _=>.bad:R D)=_
              rw[e17];exact Au hn
            rw[g];show Ew Pg.xs (EI c (.H [d1,t0]))=EI c (.H [d1,t0]);have:EI c (.H [d1,t0])=.ok (.obj c [("p",d1),("triple",t0)]):=Au hn;rw[this];cases Pg.xs<;>rfl
          · refine .inl ?_;have:EI c (.H [d1,t0])=.bad:=Ay hn;show Ew Pg.xs (EI c (.H [d1,t0]))=.bad;rw[this];cases Pg.xs<;>rfl
theorem UO(t:wl K mg CL fns bl rzs exs gls Pg fuel):∀ n m,m<=n->∀ p∈fns,jb P w K mg base CL Pg m p:=by
 have zero:∀ p∈fns,jb P w K mg base CL Pg 0 p:=λp hp=>by
  obtain⟨f,fd,ps,qual,st,N,h1,⟨x0,h2⟩,h3,h4,h5⟩:=t.fn p hp;exact⟨f,fd,ps,h1,h2.kp,h3,h4,λ_=>⟨λvs H Q E ⟨ds,A,_,_,_,z⟩=>z.elim,λA outer s H args us vs Q E _ _ _ _ ⟨ds,A,_,_,_,z⟩=>z.elim⟩,λ_=>⟨λvs H Q E ⟨ds,A,_,_,_,z⟩=>z.elim,λA ev outer s H args us vs Q E _ _ _ _ ⟨ds,A,_,_,_,z⟩=>z.elim⟩⟩
 intro n
 induction n with
 |zero=>intro m hm p hp;obtain rfl:=Nat.le_zero.mp hm;exact zero p hp
 |succ n ih=>
  intro m hm p hp;by_cases hmn:m<=n
  .exact ih m hmn p hp
  .have:m=n+1:=by omega
   subst this;have mk:=Wu (P:=P) (w:=w) (base:=base) t n ih;obtain⟨f,fd,ps,qual,st,N,h1,⟨x0,h2⟩,h3,h4,h5⟩:=t.fn p hp;refine⟨f,fd,ps,h1,h2.kp,h3,h4,λyc=>?_,λhge=>?_⟩
   .have eb:CD 1000 p.2.2=Ae:=by
     cases e:CD 1000 p.2.2 with
     |false=>rfl
     |true=>exact absurd (AR e) (by omega)
    rw[eb]at h5;exact sI t (λq hq=>ih n (AU _) q hq) mk h2 h4 h5
   .rw[Nat.ble_eq_true_of_le hge]at h5;exact sZ t (λq hq=>ih n (AU _) q hq) mk h2 h4 h5
theorem Vk(t:wl K mg CL fns bl rzs exs gls Pg fuel)(n:Ag):∀ p∈fns,jb P w K mg base CL Pg n p:=UO t n n (AU _)
theorem Vl(t:wl K mg CL fns bl rzs exs gls Pg fuel)(n:Ag):∀ c,c<3->fj P w K mg base CL (Z6 Pg n).F n c:=Wu t n (UO t n)
theorem tF{i:Ai}{u:Cd}(h:mg x=Aa (.int i u)):JQ K mg CL x (.int i):=⟨_,.int i,h,⟨_,rfl⟩,λ_ _=>rfl⟩
theorem Qw{a:Ak}{dd:Ao Ak}{its:Ac Al}{n:Ag}{sl:Bl (Ao Al)}{is:Ac Ah}(h:mg x=Aa (.ref a))(l:K.lookup a=Aa ⟨.type "tuple",dd,.seq its.toArray n,sl⟩)(hv:A1 (is.map V.str) its)(hz:its.length<=1000):JQ K mg CL x (.H (is.map D.str)):=by
 have rs:∀(H:Hp)(A:Ak->Prop)(l:Ac Ah),Z9 K CL H A (l.map V.str) (l.map D.str):=λH A l=>by
  induction l with
  |nil=>trivial
  |cons x l ih=>exact⟨rfl,ih⟩
 have kt:KT K a (is.map V.str):=⟨_,_,_,l,rfl,rfl,by rw[AW,By];omega,hv⟩
 exact⟨_,.ref a,h,rfl,λH A=>⟨a,is.map V.str,rfl,.inr kt,.inr kt,rs H A is⟩⟩
theorem sJ{s s':Ar}{e:Al}(h:CXR P w [] H s (λ_ _ _=>AN) e s'):AN:=by
 obtain⟨_,_,_,_,_,_,_,_,_,_,_,_,_,_,_,z⟩:=h;exact z
noncomputable def WX:AL->Ao (Aq×AE)
 |.Expr e p=>Aa (e,p)
 |_=>Af
theorem iD{e:AL}{t:Aq×AE}(h:WX e=Aa t):e=.Expr t.1 t.2:=by
 cases e with
 |Expr x p=>cases h;rfl
 |_=>exact nomatch (show Af=Aa t from h)
noncomputable def WP:AL->Ao (Aq×Aq×AE)
  | .Assign ts v p=>(match ts with
    |[t]=>Aa (t,v,p)
    | _=>Af)
  |_=>Af
theorem iF{e:AL}{t:Aq×Aq×AE}(h:WP e=Aa t):e=.Assign [t.1] t.2.1 t.2.2:=by
 cases e with
 |Assign ts v p=>
  cases ts with
  |nil=>exact nomatch (show Af=Aa t from h)
  |cons a ts=>
   cases ts with
   |nil=>cases h;rfl
   |cons=>exact nomatch (show Af=Aa t from h)
 |_=>exact nomatch (show Af=Aa t from h)
noncomputable def RP:Aq->Ao (Aq×Ah×AE)
 |.Attribute e x p=>Aa (e,x,p)
 |_=>Af
theorem Up{e:Aq}{t:Aq×Ah×AE}(h:RP e=Aa t):e=.Attribute t.1 t.2.1 t.2.2:=by
 cases e with
 |Attribute e x p=>cases h;rfl
 |_=>exact nomatch (show Af=Aa t from h)
noncomputable def WW:Aq->Ao (Ac Aq×AE)
 |.JoinedStr l p=>Aa (l,p)
 |_=>Af
theorem iC{e:Aq}{t:Ac Aq×AE}(h:WW e=Aa t):e=.JoinedStr t.1 t.2:=by
 cases e with
 |JoinedStr l p=>cases h;rfl
 |_=>exact nomatch (show Af=Aa t from h)
noncomputable def RO:Aq->Ao (Aq×Ai×AE)
  | .FormattedValue e n f p=>(match f with
    |none=>Aa (e,n,p)
    | _=>Af)
  |_=>Af
theorem Um{e:Aq}{t:Aq×Ai×AE}(h:RO e=Aa t):e=.FormattedValue t.1 t.2.1 Af t.2.2:=by
 cases e with
 |FormattedValue e n f p=>
  cases f with
  |none=>cases h;rfl
  |some=>exact nomatch (show Af=Aa t from h)
 |_=>exact nomatch (show Af=Aa t from h)
noncomputable def Pc:Aq->Ao (Ah×Ag×AE)
  | .Constant c k p=>(match c with
    |.str z=>Aa (z,k,p)
    | _=>Af)
  |_=>Af
theorem Qk{e:Aq}{t:Ah×Ag×AE}(h:Pc e=Aa t):e=.Constant (.str t.1) t.2.1 t.2.2:=by
 cases e with
 |Constant c k p=>
  cases c with
  |str z=>cases h;rfl
  |_=>exact nomatch (show Af=Aa t from h)
 |_=>exact nomatch (show Af=Aa t from h)
noncomputable def WV{α:Type}:Ac α->Ao (α×α×α)
 |[a,b,c]=>Aa (a,b,c)
 |_=>Af
theorem iB{l:Ac α}{t:α×α×α}(h:WV l=Aa t):l=[t.1,t.2.1,t.2.2]:=by
  match l,h with
  |[a,b,c],h=>cases h;rfl
  |[],h=>cases h
  |[_],h=>cases h
  |[_,_],h=>cases h
  |_::_::_::_::_,h=>cases h
noncomputable def yW(par:Ah)(j:Ac Aq):Ao D9:=(Nu j).bind λfk=>(RO fk.1).bind λfm=>(IX fm.1).bind λq1=>(Pc fk.2).bind λz=>if (q1.1==par&&(decide (fm.2.1=-1)&&CD z.1.length 1000))=Ab then Aa () else Af
noncomputable def yV(par:Ah)(j:Ac Aq):Ao D9:=(WV j).bind λfk=>(Pc fk.1).bind λy=>(RO fk.2.1).bind λfm=>(IX fm.1).bind λq1=>(Pc fk.2.2).bind λz=>if (q1.1==par&&(decide (fm.2.1=-1)&&(CD y.1.length 400&&CD z.1.length 1000)))=Ab then Aa () else Af
noncomputable def fsX(par:Ah)(e:Aq):Ao D9:=(WW e).bind λj=>if ((yW par j.1).isSome||(yV par j.1).isSome)=Ab then Aa () else Af
theorem tH{e:Aq}{u:D9}(h:fsX par e=Aa u):uc par e:=by
 obtain⟨j,e1,h⟩:=AC.mp h;rw[iC e1];split at h
 .rename_i hc;rcases vj hc with hc|hc
  .obtain⟨_,h⟩:=Cz.mp hc;obtain⟨fk,e2,h⟩:=AC.mp h;obtain⟨fm,e3,h⟩:=AC.mp h;obtain⟨q1,e4,h⟩:=AC.mp h;obtain⟨z,e5,h⟩:=AC.mp h;split at h
   .rename_i hc;simp only[An,AF,AM]at hc;obtain⟨c1,c2,c3⟩:=hc;rw[N6 e2,Um e3,Jx e4,Qk e5,c1,c2];exact tG (AR c3)
   .cases h
  .obtain⟨_,h⟩:=Cz.mp hc;obtain⟨fk,e2,h⟩:=AC.mp h;obtain⟨y,e6,h⟩:=AC.mp h;obtain⟨fm,e3,h⟩:=AC.mp h;obtain⟨q1,e4,h⟩:=AC.mp h;obtain⟨z,e5,h⟩:=AC.mp h;split at h
   .rename_i hc;simp only[An,AF,AM]at hc;obtain⟨c1,c2,c4,c3⟩:=hc;rw[iB e2,Qk e6,Um e3,Jx e4,Qk e5,c1,c2];exact gY (AR c4) (AR c3)
   .cases h
 .cases h
noncomputable def Xb(g par f:Ah)(b:Ac AL):Ao D9:=(Nu b).bind λs=>(WX s.1).bind λc=>(WY c.1).bind λcl=>(RP cl.1).bind λjh=>(IX jh.1).bind λg1=>(Nu cl.2.1).bind λab=>(IX ab.1).bind λs1=>(fsX par ab.2).bind λ_=>(WP s.2).bind λt=>(RP t.1).bind λat2=>(IX at2.1).bind λs2=>(IX t.2.1).bind λq2=>
 if (g1.1==g&&(jh.2.1==("__init__" : Ah)&&(s1.1==("self" : Ah)&&(s2.1==("self" : Ah)&&(at2.2.1==f&&(q2.1==par&&jh.2.2.endLine==cl.2.2.line))))))=Ab then Aa () else Af
noncomputable def Xc(g par f:Ah)(b:Ac AL):Am:=(Xb g par f b).isSome
theorem kT{g par f:Ah}{b:Ac AL}(h:Xc g par f b=Ab):∃ j np apos p1 cpos p6 p7 p8 p9 p10,b=R8 g par f j np apos p1 cpos p6 p7 p8 p9 p10/\(apos.endLine==cpos.line)=Ab/\uc par j:=by
 obtain⟨_,h⟩:=Cz.mp (show (Xb g par f b).isSome=Ab from h)
 obtain⟨s,e1,h⟩:=AC.mp h;obtain⟨c,e2,h⟩:=AC.mp h;obtain⟨cl,e3,h⟩:=AC.mp h;obtain⟨jh,e4,h⟩:=AC.mp h;obtain⟨g1,e5,h⟩:=AC.mp h;obtain⟨ab,e6,h⟩:=AC.mp h;obtain⟨s1,e7,h⟩:=AC.mp h;obtain⟨_,e8,h⟩:=AC.mp h;obtain⟨t,f4,h⟩:=AC.mp h;obtain⟨at2,f5,h⟩:=AC.mp h;obtain⟨s2,f6,h⟩:=AC.mp h;obtain⟨q2,f7,h⟩:=AC.mp h;split at h
 .rename_i hc;simp only[An,AF,AM]at hc;obtain⟨c1,c2,c3,c6,c7,c8,h1⟩:=hc;rw[N6 e1,iD e2,iE e3,Up e4,Jx e5,N6 e6,Jx e7,iF f4,Up f5,Jx f6,Jx f7,c1,c2,c3,c6,c7,c8];exact⟨_,_,_,_,_,_,_,_,_,_,rfl,by rw[AF];exact h1,tH e8⟩
 .cases h
noncomputable def NE(g par f:Ah)(st:AL):Am:=
 (AG st).kind==.function&&((AG st).isCoroutine==Ae&&((AG st).isGenerator==Ae&&(JC ["self",par]&&((AG st).names.lookup ("self" : Ah)==Aa .local&&((AG st).names.lookup par==Aa .local&&(((AG st).names.all λy=>y.2 != .free) &&
  ((AG st).names.lookup g==Aa .globalImplicit&&(g != ("__debug__" : Ah)&&(par != ("__debug__" : Ah)&&(par != ("__classdict__" : Ah)&&Xc g par f (Dh st)))))))))))
noncomputable def OR(s:AL):AL:=match s with
  |.ClassDef _ _ _ (b::_) _ _ _ _ _ _ _=>b
  |s=>s
def ez(K:Fg)(f:Ak)(qual:Ah)(st:AL):Prop:=∃ fd,qc K "__init__" qual st f fd
theorem ini_mk{st:AL}{f:Ak}{oc:Al}{kV doc pm cdv ct:Al}(l:K.lookup f=Aa ⟨oc,od,.func (B1 "__init__" qual (Hi st) (Dh st) (AG st) .none kV doc pm an cdv ct),osl⟩)(c:DD K cdv qual=Ab)(k:Ba K (.ref f)=Ab):ez K f qual st:=⟨_,QX l c k⟩
theorem pH{fI:Ak}{g par f qual:Ah}{st:AL}(a:ez K fI qual st)(hk:NE g par f st=Ab)(hb:∀(u0 u1 kV doc pm:Al)(an:Ao Ak)(cdv ct:Al),Hf (B1 "__init__" qual (Hi st) (Dh st) (AG st) .none kV doc pm an cdv ct) ⟨[u0,u1],[]⟩=pure ((["self",par]:Ac Ah).zip [u0,u1]))(xc:DE K C (Aa (.ref fI))=Ab)(dc:G6 K C=Ab)(ty:Dp K (.ref fI)=Aa (.type "function"))(mo:mg g=Aa (.ref OV))(s1:C3 K (.ref OV) "__getattribute__" = Aa (Aa (.builtin "type.__getattribute__")))(s2:FC K OV (.type "type")=Ab)(s3:FB K (.ref OV) (.type "type") "__init__" = Aa (.val (.builtin "ValueError.__init__")))(hf:At K (.ref C) f=Aa Af)(hs:At K (.ref C) "__setattr__" = Aa (Aa (.builtin "object.__setattr__"))):lg K mg C f:=by
 obtain⟨fd,fn⟩:=a;unfold NE at hk;simp only[An,AF,Bh,E8,JT]at hk;obtain⟨c1,c2,c3,c4,c5,c6,c7,c8,c9,c10,c11,c12⟩:=hk;obtain⟨j,np,apos,p1,cpos,p6,p7,p8,p9,p10,eb,hl,hz⟩:=kT c12;exact .mk xc dc fn ty ⟨c1,c2,c3,II c4,rfl,λx hx=>by
  rcases A6.mp hx with rfl|hx
  .exact .inl c5
  .rw[BU.mp hx];exact .inl c6,c7⟩ c5 c6 (fn.binds λkV doc pm an cdv ct=>KZ λu0 u1=>hb u0 u1 kV doc pm an cdv ct) eb c8 mo (by simpa using c9) (by simpa using c10) (by simpa using c11) s1 s2 s3 hl hz hf hs
theorem xZ{c:Ag}(h:∀ ds,xn c ds=.bad\/xn c ds=.ok ⟨c,[]⟩)(e:DE K C Af=Ab)(ds:Ac D):xn c ds=.bad\/(xn c ds=.ok ⟨c,[]⟩/\DE K C Af=Ab)\/∃ f,lg K mg C f/\Nm xn c f ds:=(h ds).imp id λz=>.inl ⟨z,e⟩
theorem xY{c:Ag}{f:Ah}(h:∀ ds,xn c ds=bo c f ds)(x:lg K mg C f)(ds:Ac D):xn c ds=.bad\/(xn c ds=.ok ⟨c,[]⟩/\DE K C Af=Ab)\/∃ f,lg K mg C f/\Nm xn c f ds:=by
  have e:=h ds
  match ds,e with
  |[],e=>exact .inl e
  |_::_::_,e=>exact .inl e
  |[d],e=>
    have e':xn c [d]=if (wt 1 d||wt 2 d)=Ab then .ok ⟨c,[(f,d)]⟩ else .bad:=e
    by_cases z:(wt 1 d||wt 2 d)=Ab
    · rw[Au z]at e';refine .inr (.inr ⟨f,x,d,?_⟩);rw[BV]at z;rcases z with z|z
      · exact⟨1,rfl,z,by decide,e'⟩
      · exact⟨2,rfl,z,by decide,e'⟩
    · rw[Ay z]at e';exact .inl e'
theorem Wt(dc:G6 K C=Ab)(h1:At K (.ref C) "triple" = Aa Af)(h2:At K (.ref C) "points" = Aa Af)(h3:At K (.ref C) "row" = Aa Af)(f:Ah)(h:(f==("triple" : Ah)||(f==("points" : Ah)||f==("row" : Ah)))=Ab):G6 K C=Ab/\At K (.ref C) f=Aa Af:=by
 rw[BV,BV]at h;rcases h with h|h|h
 .rw[eq_of_beq h];exact⟨dc,h1⟩
 .rw[eq_of_beq h];exact⟨dc,h2⟩
 .rw[eq_of_beq h];exact⟨dc,h3⟩
structure XA (K:Fg) (c:Ah) (x:Ak) (i:Ao Al):Prop where
 n:Bb K AO c=Aa (Aa (.ref x))
 y:DE K x i=Ab
 dc:G6 K x=Ab
 ft:At K (.ref x) "triple" = Aa Af
 fp:At K (.ref x) "points" = Aa Af
 fr:At K (.ref x) "row" = Aa Af
 ok:zk K x
theorem xcls_l{x:Ak}(e:JY K x [.type "ValueError",.type "Exception",.type "BaseException",.type "object"] "ValueError.__new__" = Ab):DE K x Af=Ab:=iI e
theorem xa_mk{c:Ah}{x:Ak}{i:Ao Al}(n:Bb K AO c=Aa (Aa (.ref x)))(e:DE K x i=Ab)(dc:G6 K x=Ab)(ft:At K (.ref x) "triple" = Aa Af)(fp:At K (.ref x) "points" = Aa Af)(fr:At K (.ref x) "row" = Aa Af)(ga:At K (.ref x) "__getattribute__" = Aa (Aa (.builtin "BaseException.__getattribute__")))(gt:At K (.ref x) "__getattr__" = Aa Af)(cl:At K (.ref x) "__class__" = Aa (Aa (.builtin "object.__class__")))(ob:Cj K x (.type "object")=Aa Ab)(be:BN K (.ref x) (.type "BaseException")=Aa Ab)(sv:BN K (.ref x) (.type "ValueError")=Aa Ab):XA K c x i:=⟨n,e,dc,ft,fp,fr,uM e ga gt cl ob be sv⟩
structure XB (K:Fg) (c:Ah) (x i:Ak) (q:Ah) (st:AL):Prop where
 fi:At K (.ref x) "__init__" = Aa (Aa (.ref i))
 a:XA K c x (Aa (.ref i))
 ii:ez K i q st
 ti:Dp K (.ref i)=Aa (.type "function")
 sn:At K (.ref x) "__setattr__" = Aa (Aa (.builtin "object.__setattr__"))
structure XE (K:Fg) (c:Ah) (x:Ak):Prop where
 n:Bb K AO c=Aa (Aa (.ref x))
 cs:Cj K x (.type "object")=Aa Ab
 ty:Dp K (.ref x)=Aa (.type "type")
structure XO (K:Fg) (x:Ak):Prop where
 sa:C3 K (.ref x) "__getattribute__" = Aa (Aa (.builtin "type.__getattribute__"))
 sb:FC K x (.type "type")=Ab
 sc:FB K (.ref x) (.type "type") "__init__" = Aa (.val (.builtin "ValueError.__init__"))
def sg(K:Fg)(C:Ak)(l:Ac (Ak×Am)):Prop:=∀ q∈l,BN K (.ref q.1) (.ref C)=Aa q.2
def KC(K:Fg)(C:Ak):Prop:=∀ x i v,DE K x i=Ab->BN K (.ref x) (.ref C)=Aa v->B5 K (.ref x) (.ref C)=Aa v
theorem XA.kc{c:Ah}{x:Ak}{i:Ao Al}(a:XA K c x i):KC K x:=λ_ _ _ y s=>lJ y a.y s
theorem XE.kc{c:Ah}{x:Ak}(a:XE K c x):KC K x:=λ_ _ _ y s=>gN y a.cs a.ty s
noncomputable def lh:Ac (Ag×Ak)->Ag->Ao Ak
 |[],_=>Af
 |p::r,c=>if Nat.beq c p.1=Ab then Aa p.2 else lh r c
theorem M8{c:Ag}:∀{l:Ac (Ag×Ak)},lh l c=Aa C->(c,C)∈l:=by
 intro l
 induction l with
 |nil=>intro q;cases q
 |cons p r ih=>
  intro q;obtain⟨n,x⟩:=p;by_cases e:Nat.beq c n=Ab
  .cases Nat.eq_of_beq_eq_true e;cases (show Aa x=Aa C from (Au e).symm.trans q)
   exact AY
  .exact AD _ (ih ((Ay e).symm.trans q))
structure XR (K:Fg) (mg:Ah->Ao Al) (xn:Ag->Ac D->R Ex) (p:Ag×Ak):Prop where
 ok:zk K p.2
 nf:∀ f:Ah,(f==("triple" : Ah)||(f==("points" : Ah)||f==("row" : Ah)))=Ab->G6 K p.2=Ab/\At K (.ref p.2) f=Aa Af
 md:∀ ds,xn p.1 ds=.bad\/(xn p.1 ds=.ok ⟨p.1,[]⟩/\DE K p.2 Af=Ab)\/∃ f,lg K mg p.2 f/\Nm xn p.1 f ds
theorem XA.row{c:Ah}{x:Ak}(a:XA K c x Af)(h:∀ ds,xn k ds=.bad\/xn k ds=.ok ⟨k,[]⟩):XR K mg xn (k,x):=⟨a.ok,Wt a.dc a.ft a.fp a.fr,xZ h a.y⟩
theorem XB.row{c q:Ah}{x i o:Ak}{st:AL}{g par f:Ah}(X:K.In h)(G:h.Ns AO mg)(b:XB K c x i q st)(w:XO K o)(no:Bb K AO g=Aa (Aa (.ref o)))(hf:f = "triple"\/f = "points")(hk:NE g par f st=Ab)(hb:∀(u0 u1 kV doc pm:Al)(an:Ao Ak)(cdv ct:Al),Hf (B1 "__init__" q (Hi st) (Dh st) (AG st) .none kV doc pm an cdv ct) ⟨[u0,u1],[]⟩=pure ((["self",par]:Ac Ah).zip [u0,u1]))(hx:∀ ds,xn k ds=bo k f ds):XR K mg xn (k,x):=
 ⟨b.a.ok,Wt b.a.dc b.a.ft b.a.fp b.a.fr,xY hx (pH b.ii hk hb b.a.y b.a.dc b.ti (A3 X G no) w.sa w.sb w.sc (by rcases hf with rfl|rfl;exact b.a.ft;exact b.a.fp) b.sn)⟩
theorem uL{l:Ac (Ag×Ak)}{rzs exs:Ac (Ah×Ag)}(r:∀ p∈l,XR K mg xn p)(rz:∀ p∈rzs,∃ C,lh l p.2=Aa C/\mg p.1=Aa (.ref C))(ex:∀ p∈exs,∃ C,mg p.1=Aa (.ref C)/\KC K C/\sg K C (l.map λq=>(q.2,(up q.1).contains p.2)))(xb:∀ c,(∀ p∈rzs,p.2≠c)->∀ ds,xn c ds=.bad):XT up xn (lh l) rzs exs K mg:=by
 refine⟨λc C q=>(r _ (M8 q)).ok,rz,λp hp=>?_,λc C ds q=>(r _ (M8 q)).md ds,λc C q=>(r _ (M8 q)).nf,xb⟩
 obtain⟨C,e,kc,su⟩:=ex p hp;have s:∀ c D,lh l c=Aa D->BN K (.ref D) (.ref C)=Aa ((up c).contains p.2):=λc D q=>su _ (List.mem_map_of_mem (f:=λq:Ag×Ak=>(q.2,(up q.1).contains p.2)) (M8 q))
 exact⟨C,e,λc D q=>let ⟨_,y⟩:=(r _ (M8 q)).ok.exc;kc _ _ _ y (s c D q),s⟩
def Nq(K:Fg):Sp:=λvs H Q _=>∃(a:Ak)(ns:Ac Ai),vs=[.ref a]/\ns.length<=63/\IO K H a (ns.map V.int)/\∀ v H',v=V.bl Ab->Q v H'
theorem law_fn{CX:CXT}{f:Ak}{ps:Ac Ah}(G:Y4 P w K mg base CX k f fd ps (spD K CL 1 Ae F))(h:∀ ns:Ac Ai,F [.L (ns.map .int)]=.ok (.bl Ab)):Y4 P w K mg base CX k f fd ps (Nq K):=G.imp λvs H Q E ⟨a,ns,e,hl,hS,q⟩=>by
 subst e;have rs:∀ l:Ac Ai,Z9 K CL H A0 (l.map V.int) (l.map D.int):=λl=>by
  induction l with
  |nil=>trivial
  |cons x l ih=>exact⟨rfl,ih⟩
 refine⟨[.L (ns.map .int)],A0,rfl,λ_ z=>z.elim,⟨⟨a,_,rfl,.inl (λz=>z),hS,rs ns⟩,trivial⟩,?_⟩
 rw[h ns];exact λv H' _ r=>q v H' r.1
theorem aNl{Q:α->Prop}:∀ x∈([]:Ac α),Q x:=λ_ h=>nomatch h
theorem aCn{Q:α->Prop}{a:α}{l:Ac α}(h1:Q a)(h2:∀ x∈l,Q x):∀ x∈a::l,Q x:=List.forall_mem_cons.2 ⟨h1,h2⟩
def yo(K:Fg)(f:Ak)(n:Ah)(st:AL):Prop:=∃ fd,qc K n n st f fd/\Bb K AO n=Aa (Aa (.ref f))
theorem fni{n:Ah}{st:AL}{f:Ak}{oc:Al}{kV doc pm cdv ct:Al}(a:Bb K AO n=Aa (Aa (.ref f)))(l:K.lookup f=Aa ⟨oc,od,.func (B1 n n (Hi st) (Dh st) (AG st) .none kV doc pm an cdv ct),osl⟩)(c:DD K cdv n=Ab)(k:Ba K (.ref f)=Ab):yo K f n st:=⟨_,QX l c k,a⟩
def Bd(n:Ah)(st:AL)(ps:Ac Ah)(us:Ac Al):Prop:=∀(kV doc pm:Al)(an:Ao Ak)(cdv ct:Al),Hf (B1 n n (Hi st) (Dh st) (AG st) .none kV doc pm an cdv ct) ⟨us,[]⟩=pure (ps.zip us)
theorem gL(h:mg x=v)(e:Gb.lookup x=Af):IV K mg x=v:=by
 unfold IV;rw[e];exact h
def nr(K:Fg)(f:Ak)(m q:Ah)(st:AL):Prop:=∃ fd,qc K m q st f fd
theorem mei{m q:Ah}{st:AL}{f:Ak}{oc:Al}{kV doc pm cdv ct:Al}(l:K.lookup f=Aa ⟨oc,od,.func (B1 m q (Hi st) (Dh st) (AG st) .none kV doc pm an cdv ct),osl⟩)(c:DD K cdv q=Ab)(k:Ba K (.ref f)=Ab):nr K f m q st:=⟨_,QX l c k⟩
theorem Xl{key m q:Ah}{c:Ag}{C f:Ak}{st:AL}{N:Ac Ah}(id:Ag)(hk:Gb.lookup key=Aa (c,m))(hC:OC K c=Aa C)(hf:At K (.ref C) m=Aa (Aa (.ref f)))(A:nr K f m q st)(hc:Gz fuel Ae fns bl rzs exs gls ["self"] N st (Pg.defs id)=Ab)(hb:∀(u0 kV doc pm:Al)(an:Ao Ak)(cdv ct:Al),Hf (B1 m q (Hi st) (Dh st) (AG st) .none kV doc pm an cdv ct) ⟨[u0],[]⟩=pure ((["self"]:Ac Ah).zip [u0])):KW K mg fns bl rzs exs gls Pg fuel (key,id,1):=by
 obtain⟨fd,F⟩:=A;refine⟨_,_,["self"],_,_,_,?_,⟨_,Ho F⟩,F.binds λkV doc pm an cdv ct=>W8 λu0=>hb u0 kV doc pm an cdv ct,rfl,hc⟩
 unfold IV;rw[show Gb.lookup (key,id,1).1=Aa (c,m) from hk]
 dsimp only;rw[hC];show (At K (.ref C) m).join=_;rw[hf];rfl
structure OA (K:Fg) (n:Ah) (C t s f:Ak):Prop where
 n:Bb K AO n=Aa (Aa (.ref C))
 o:nu K C
 ft:At K (.ref C) "told" = Aa (Aa (.ref t))
 fs:At K (.ref C) "shown" = Aa (Aa (.ref s))
 nt:Cn K (.ref t)=Ab
 ns:Cn K (.ref s)=Ab
 m:Mk K C f
theorem oa_mk{n:Ah}{C t s f:Ak}(n1:Bb K AO n=Aa (Aa (.ref C)))(i:At K (.ref C) "__init__" = Aa (Aa (.ref f)))(ft:At K (.ref C) "told" = Aa (Aa (.ref t)))(fs:At K (.ref C) "shown" = Aa (Aa (.ref s)))(pg:D8 K C Do=Ab)(hd:EA K C=Ab)(po:F6 K C=Ab)(sa:At K (.ref C) "__setattr__" = Aa (Aa (.builtin "object.__setattr__")))(np:At K (.ref C) "p" = Aa Af)(nt:At K (.ref C) "triple" = Aa Af)(ha:At K (.ref C) "__class__" = Aa (Aa (.builtin "object.__class__")))(hn:C3 K (.builtin "object.__class__") "__get__" = Aa (Aa (.builtin "getset_descriptor.__get__")))(htk:IE K (.builtin "object.__class__")=Aa Ab)(hm:Cj K C (.type "object")=Aa Ab)(t1:Cn K (.ref t)=Ab)(s1:Cn K (.ref s)=Ab)(mk:GQ K C=Ab)(f1:Cn K (.ref f)=Ab)(kp:Ba K (.ref C)=Ab):OA K n C t s f:=
 ⟨n1,⟨⟨pg,hd,po,sa⟩,np,nt,ha,hn,htk,hm⟩,ft,fs,t1,s1,⟨mk,i,f1,kp⟩⟩
theorem KP{c:Ag}(h:c<3)(n:Bb K AO (O9 c)=Aa (Aa (.ref C))):OC K c=Aa C:=by
 unfold OC;rw[Au h,n]
def fg(K:Fg)(C:Ak)(l:Ac (Ak×Am)):Prop:=∀ q∈l,B5 K (.ref C) (.ref q.1)=Aa q.2
theorem xN{C0 C1 C2 t0 t1 t2 s0 s1 s2 f:Ak}(X:K.In h)(G:h.Ns AO mg)(a0:OA K "Triple" C0 t0 s0 f)(a1:OA K "Point" C1 t1 s1 f)(a2:OA K "Line" C2 t2 s2 f)(k0:fg K C0 [(C0,Ab),(C1,Ae),(C2,Ae)])(k1:fg K C1 [(C0,Ab),(C1,Ab),(C2,Ae)])(k2:fg K C2 [(C0,Ab),(C1,Ae),(C2,Ab)]):OS K mg:=by
  have e0:OC K 0=Aa C0:=KP (by decide) a0.n
  have e1:OC K 1=Aa C1:=KP (by decide) a1.n
  have e2:OC K 2=Aa C2:=KP (by decide) a2.n
  have three:∀ c C,OC K c=Aa C->(c=0/\C=C0)\/(c=1/\C=C1)\/(c=2/\C=C2):=λc C e=>by
    match c,e with
    |0,e=>exact .inl ⟨rfl,(BB (e0.symm.trans e)).symm⟩
    |1,e=>exact .inr (.inl ⟨rfl,(BB (e1.symm.trans e)).symm⟩)
    |2,e=>exact .inr (.inr ⟨rfl,(BB (e2.symm.trans e)).symm⟩)
    |n+3,e=>
      unfold OC at e;rw[Ay (by omega)]at e
      cases e
  have fu:∀{f f':Ak}{r:Ao (Ao Al)},r=Aa (Aa (.ref f))->r=Aa (Aa (.ref f'))->f'=f:=λa b=>by rw[a]at b;cases b;rfl
  refine⟨λc C e=>?_,λc C c' C' e e'=>?_,λc hc=>?_,λc C m f' e hm hf=>?_⟩
  · rcases three c C e with ⟨rfl,rfl⟩|⟨rfl,rfl⟩|⟨rfl,rfl⟩
    · exact a0.o
    · exact a1.o
    · exact a2.o
  · rcases three c C e with ⟨rfl,rfl⟩|⟨rfl,rfl⟩|⟨rfl,rfl⟩<;>rcases three c' C' e' with ⟨rfl,rfl⟩|⟨rfl,rfl⟩|⟨rfl,rfl⟩
    · exact k0 (_,Ab) (by simp)
    · exact k0 (_,Ae) (by simp)
    · exact k0 (_,Ae) (by simp)
    · exact k1 (_,Ab) (by simp)
    · exact k1 (_,Ab) (by simp)
    · exact k1 (_,Ae) (by simp)
    · exact k2 (_,Ab) (by simp)
    · exact k2 (_,Ae) (by simp)
    · exact k2 (_,Ab) (by simp)
  · match c,hc with
    |0,_=>exact⟨_,e0,A3 X G a0.n⟩
    |1,_=>exact⟨_,e1,A3 X G a1.n⟩
    |2,_=>exact⟨_,e2,A3 X G a2.n⟩
    |n+3,h=>omega
  · rcases vj hm with z|z
    · obtain rfl:=eq_of_beq z;rcases three c C e with ⟨rfl,rfl⟩|⟨rfl,rfl⟩|⟨rfl,rfl⟩
      · rw[fu a0.ft hf];exact a0.nt
      · rw[fu a1.ft hf];exact a1.nt
      · rw[fu a2.ft hf];exact a2.nt
    · obtain rfl:=eq_of_beq z;rcases three c C e with ⟨rfl,rfl⟩|⟨rfl,rfl⟩|⟨rfl,rfl⟩
      · rw[fu a0.fs hf];exact a0.ns
      · rw[fu a1.fs hf];exact a1.ns
      · rw[fu a2.fs hf];exact a2.ns
theorem wY{C0 C1 C2 t0 t1 t2 s0 s1 s2 f:Ak}{q:Ah}{st:AL}(a0:OA K "Triple" C0 t0 s0 f)(a1:OA K "Point" C1 t1 s1 f)(a2:OA K "Line" C2 t2 s2 f)(A:ez K f q st)(hc:Ny fuel fns bl rzs exs gls st=Ab)(d0:Pg.defs 900=tf 0)(d1:Pg.defs 901=tf 1)(d2:Pg.defs 902=tf 2)(d3:Pg.defs 910=ki)(hb:∀(u0 u1 u2 kV doc pm:Al)(an:Ao Ak)(cdv ct:Al),Hf (B1 "__init__" q (Hi st) (Dh st) (AG st) .none kV doc pm an cdv ct) ⟨[u0,u1,u2],[]⟩=pure ((["self", "p", "numbers"]:Ac Ah).zip [u0,u1,u2])):InR K fns bl rzs exs gls Pg fuel:=by
  obtain⟨fd,F⟩:=A;refine⟨λc hc=>?_,d3,f,fd,_,q,st,Ho F,F.binds λkV doc pm an cdv ct=>R6 λu0 u1 u2=>hb u0 u1 u2 kV doc pm an cdv ct,hc,λc hc=>?_⟩
  · match c,hc with
    |0,_=>exact d0
    |1,_=>exact d1
    |2,_=>exact d2
    |n+3,h=>omega
  · match c,hc with
    |0,_=>exact⟨_,KP (by decide) a0.n,a0.m⟩
    |1,_=>exact⟨_,KP (by decide) a1.n,a1.m⟩
    |2,_=>exact⟨_,KP (by decide) a2.n,a2.m⟩
    |n+3,h=>omega
theorem Nb{n:Ah}{f:Ak}{st:AL}{ps N:Ac Ah}(m id:Ag)(hm:Gb.lookup n=Af)(X:K.In h)(G:h.Ns AO mg)(A:yo K f n st)(hl:ps.length=m%1000)(hc:Gz fuel (CD 1000 m) fns bl rzs exs gls ps N st (Pg.defs id)=Ab)(hb:∀ us:Ac Al,us.length=ps.length->Bd n st ps us):KW K mg fns bl rzs exs gls Pg fuel (n,id,m):=by
 obtain⟨fd,F,a⟩:=A;exact⟨_,_,_,_,_,_,gL (A3 X G a) hm,⟨_,Ho F⟩,F.binds λkV doc pm an cdv ct us hu=>hb us hu kV doc pm an cdv ct,hl,hc⟩
theorem Nw{l:Ac α}(h:l.length=0):l=[]:=Ey h
theorem E6{l:Ac α}{n:Ag}(h:l.length=n+1):∃ a r,l=a::r/\r.length=n:=by
 cases l with
 |nil=>cases h
 |cons a r=>exact⟨a,r,rfl,Nat.succ.inj h⟩
theorem Mt{n:Ah}{f:Ak}{st:AL}{N:Ac Ah}(m id:Ag)(hm:Gb.lookup n=Af)(X:K.In h)(G:h.Ns AO mg)(A:yo K f n st)(hc:Gz fuel (CD 1000 m) fns bl rzs exs gls [x0] N st (Pg.defs id)=Ab)(hl:1=m%1000:=by rfl)(hb :∀ u0,Bd n st [x0] [u0]:=by exact λ_ _ _ _ _ _ _=>rfl):KW K mg fns bl rzs exs gls Pg fuel (n,id,m):=
 Nb (ps:=[x0]) m id hm X G A hl hc λus hu=>by obtain⟨u0,v0,rfl,h0⟩:=E6 hu;obtain rfl:=Nw h0;exact hb u0
theorem Iv{n:Ah}{f:Ak}{st:AL}{N:Ac Ah}(m id:Ag)(hm:Gb.lookup n=Af)(X:K.In h)(G:h.Ns AO mg)(A:yo K f n st)(hc:Gz fuel (CD 1000 m) fns bl rzs exs gls [x0,x1] N st (Pg.defs id)=Ab)(hl:2=m%1000:=by rfl)(hb :∀ u0 u1,Bd n st [x0,x1] [u0,u1]:=by exact λ_ _ _ _ _ _ _ _=>rfl):KW K mg fns bl rzs exs gls Pg fuel (n,id,m):=
 Nb (ps:=[x0,x1]) m id hm X G A hl hc λus hu=>by obtain⟨u0,v0,rfl,h0⟩:=E6 hu;obtain⟨u1,v1,rfl,h1⟩:=E6 h0;obtain rfl:=Nw h1;exact hb u0 u1
theorem zG{n:Ah}{f:Ak}{st:AL}{N:Ac Ah}(m id:Ag)(hm:Gb.lookup n=Af)(X:K.In h)(G:h.Ns AO mg)(A:yo K f n st)(hc:Gz fuel (CD 1000 m) fns bl rzs exs gls [x0,x1,x2] N st (Pg.defs id)=Ab)(hl:3=m%1000:=by rfl)(hb :∀ u0 u1 u2,Bd n st [x0,x1,x2] [u0,u1,u2]:=by exact λ_ _ _ _ _ _ _ _ _=>rfl):KW K mg fns bl rzs exs gls Pg fuel (n,id,m):=
 Nb (ps:=[x0,x1,x2]) m id hm X G A hl hc λus hu=>by obtain⟨u0,v0,rfl,h0⟩:=E6 hu;obtain⟨u1,v1,rfl,h1⟩:=E6 h0;obtain⟨u2,v2,rfl,h2⟩:=E6 h1;obtain rfl:=Nw h2;exact hb u0 u1 u2
theorem Xm{n:Ah}{f:Ak}{st:AL}{N:Ac Ah}{x3:Ah}(m id:Ag)(hm:Gb.lookup n=Af)(X:K.In h)(G:h.Ns AO mg)(A:yo K f n st)(hc:Gz fuel (CD 1000 m) fns bl rzs exs gls [x0,x1,x2,x3] N st (Pg.defs id)=Ab)(hl:4=m%1000:=by rfl)(hb :∀ u0 u1 u2 u3,Bd n st [x0,x1,x2,x3] [u0,u1,u2,u3]:=by exact λ_ _ _ _ _ _ _ _ _ _=>rfl):KW K mg fns bl rzs exs gls Pg fuel (n,id,m):=
 Nb (ps:=[x0,x1,x2,x3]) m id hm X G A hl hc λus hu=>by obtain⟨u0,v0,rfl,h0⟩:=E6 hu;obtain⟨u1,v1,rfl,h1⟩:=E6 h0;obtain⟨u2,v2,rfl,h2⟩:=E6 h1;obtain⟨u3,v3,rfl,h3⟩:=E6 h2;obtain rfl:=Nw h3;exact hb u0 u1 u2 u3
theorem ww{n:Ah}{f:Ak}{st:AL}{N:Ac Ah}{x3 x4 x5 x6 x7 x8:Ah}(m id:Ag)(hm:Gb.lookup n=Af)(X:K.In h)(G:h.Ns AO mg)(A:yo K f n st)(hc:Gz fuel (CD 1000 m) fns bl rzs exs gls [x0,x1,x2,x3,x4,x5,x6,x7,x8] N st (Pg.defs id)=Ab)(hl:9=m%1000:=by rfl)(hb :∀ u0 u1 u2 u3 u4 u5 u6 u7 u8,Bd n st [x0,x1,x2,x3,x4,x5,x6,x7,x8] [u0,u1,u2,u3,u4,u5,u6,u7,u8]:=by exact λ_ _ _ _ _ _ _ _ _ _ _ _ _ _ _=>rfl):KW K mg fns bl rzs exs gls Pg fuel (n,id,m):=
 Nb (ps:=[x0,x1,x2,x3,x4,x5,x6,x7,x8]) m id hm X G A hl hc λus hu=>by obtain⟨u0,v0,rfl,h0⟩:=E6 hu;obtain⟨u1,v1,rfl,h1⟩:=E6 h0;obtain⟨u2,v2,rfl,h2⟩:=E6 h1;obtain⟨u3,v3,rfl,h3⟩:=E6 h2;obtain⟨u4,v4,rfl,h4⟩:=E6 h3;obtain⟨u5,v5,rfl,h5⟩:=E6 h4;obtain⟨u6,v6,rfl,h6⟩:=E6 h5;obtain⟨u7,v7,rfl,h7⟩:=E6 h6;obtain⟨u8,v8,rfl,h8⟩:=E6 h7;obtain rfl:=Nw h8;exact hb u0 u1 u2 u3 u4 u5 u6 u7 u8
end
structure Dk where
 p:D
 l:Ac D
 c:D
 ps:Ac D
variable{q:Dk}
inductive RK where
 |ok (d:D) (q:Dk)|exn (x:Ex)|bad
variable{G:Dk->Ac D->RK}
def ue(r:RK)(P:D->Dk->Prop)(Z_:Ex->Prop):Prop:=match r with
  |.ok d q=>P d q
  |.exn x=>Z_ x
  |.bad=>AN
noncomputable def yj(v1 v2 v3:V)(la:Ak):Ac (Ah×V):=[("p",v1),("points",v2),("curve",v3),("past",.ref la)]
section
variable(K:Fg)(CL:ClA)
def DK(H:Hp)(A:Ak->Prop)(C a la:Ak)(q:Dk):Prop:=∃ dx v1 v2 v3 xs,H a=Aa (.ins C dx (yj v1 v2 v3 la))/\H la=Aa (.L xs)/\Z7 K CL H A v1 q.p/\Z7 K CL H A v2 (.L q.l)/\Z7 K CL H A v3 q.c/\Z9 K CL H A xs q.ps
def KB(a la:Ak)(H H':Hp):Prop:=∀ b o,H b=Aa o->b≠a->b≠la->H' b=Aa o
def AV(A:Ak->Prop)(v:V):Ak->Prop:=λb=>A b\/v=.ref b
def wq(C:Ak)(m:Ag)(G:Dk->Ac D->RK):Sp:=λvs H Q E=>∃(a la:Ak)(us:Ac V)(ds:Ac D)(A:Ak->Prop)(q:Dk),vs=.ref a::us/\us.length=m/\Ty H A/\A a/\A la/\Z9 K CL H A us ds/\DK K CL H A C a la q/\ue (G q ds) (λd q'=>∀ v H',KB a la H H'->Cr K CL Ab H A H' v d->DK K CL H' (AV A v) C a la q'->Q v H') (λx=>∀ cls dx H',Az H H'->Dr K CL H' cls dx x->E cls dx H')
end
section
variable{K:Fg}{CL:ClA}{H H' H2:Hp}{A:Ak->Prop}{C a la:Ak}{q:Dk}
theorem Lk{m:Ag}{ds:Ac D}{Q:VK}{E:XK}(hl:us.length=m)(hA:Ty H A)(ha:A a)(zh:A la)(rs:Z9 K CL H A us ds)(dk:DK K CL H A C a la q)(hp:ue (G q ds) (λd q'=>∀ v H',KB a la H H'->Cr K CL Ab H A H' v d->DK K CL H' (AV A v) C a la q'->Q v H') (λx=>∀ cls dx H',Az H H'->Dr K CL H' cls dx x->E cls dx H')):wq K CL C m G (.ref a::us) H Q E:=⟨a,la,us,ds,A,q,rfl,hl,hA,ha,zh,rs,dk,hp⟩
theorem MY{m:Ag}{Q:VK}{E:XK}(h:wq K CL C m G vs H Q E):vs.length=m+1:=by
 obtain⟨a,la,us,ds,A,q,e,z,_⟩:=h;rw[e,Bi,z]
theorem Na{m:Ag}{Q:VK}{E:XK}(h:wq K CL C m G vs H Q E)(k:∀(a la:Ak)(us:Ac V)(ds:Ac D)(A:Ak->Prop)(q:Dk),vs=.ref a::us->us.length=m->Ty H A->A a->A la->Z9 K CL H A us ds->DK K CL H A C a la q->ue (G q ds) (λd q'=>∀ v H',KB a la H H'->Cr K CL Ab H A H' v d->DK K CL H' (AV A v) C a la q'->Q v H') (λx=>∀ cls dx H',Az H H'->Dr K CL H' cls dx x->E cls dx H')->Z_):Z_:=by
 obtain⟨a,la,us,ds,A,q,e,z,h1,h2,h3,h4,h5,h6⟩:=h;exact k a la us ds A q e z h1 h2 h3 h4 h5 h6
theorem KB.kp(k:KB a la H H')(ha:A a)(hl:A la):Kp A H H':=λb o e n=>k b o e (λz=>n (z ▸ ha)) λz=>n (z ▸ hl)
theorem KB.of(s:Az H H'):KB a la H H':=λb o e _ _=>s b o e
theorem KB.trans(k:KB a la H H')(k':KB a la H' H2):KB a la H H2:=λb o e n m=>k' b o (k b o e n m) n m
theorem DK.same(d:DK K CL H A C a la q)(s:Az H H'):DK K CL H' A C a la q:=by
 obtain⟨dx,v1,v2,v3,xs,h1,h2,r1,r2,r3,r4⟩:=d;exact⟨dx,v1,v2,v3,xs,s _ _ h1,s _ _ h2,r1.same s,r2.same s,r3.same s,r4.same s⟩
theorem DK.sub{A':Ak->Prop}(d:DK K CL H A C a la q)(k:∀ b,A' b->A b):DK K CL H A' C a la q:=by
 obtain⟨dx,v1,v2,v3,xs,h1,h2,r1,r2,r3,r4⟩:=d;exact⟨dx,v1,v2,v3,xs,h1,h2,Z7.sub k _ r1,Z7.sub k _ r2,Z7.sub k _ r3,Z9.sub k _ r4⟩
theorem DK.un{v:V}(d:DK K CL H (AV A v) C a la q):DK K CL H A C a la q:=d.sub λ_ h=>.inl h
theorem DK.O(d:DK K CL H A C a la q):DK K CL H (AV A .O) C a la q:=d.sub λ_ h=>h.elim id λz=>nomatch z
theorem DK.new{t:Ak}(d:DK K CL H A C a la q)(ht:H t=Af):DK K CL H (AV A (.ref t)) C a la q:=by
 obtain⟨dx,v1,v2,v3,xs,h1,h2,r1,r2,r3,r4⟩:=d;have k:∀ b,AV A (.ref t) b->A b\/H b=Af:=λb h=>h.imp id λz=>by cases z;exact ht
 exact⟨dx,v1,v2,v3,xs,h1,h2,Z7.wide k _ r1,Z7.wide k _ r2,Z7.wide k _ r3,Z9.wide k _ r4⟩
theorem DK.aok(d:DK K CL H' A C a la q)(k:KB a la H H')(h:Ty H A):Ty H' A:=λb hb=>by
 obtain⟨dx,v1,v2,v3,xs,h1,h2,_⟩:=d;by_cases e1:b=a
 .rw[e1];exact⟨_,h1,trivial⟩
 .by_cases e2:b=la
  .rw[e2];exact⟨_,h2,trivial⟩
  .obtain⟨o,ho,w⟩:=h b hb;exact⟨o,k b o ho e1 e2,w⟩
end
structure ub (K:Fg) (C:Ak):Prop where
 cl:wk K C
 n1:EX K C "p"
 n2:EX K C "points"
 n3:EX K C "curve"
 n4:EX K C "past"
section
variable{X:Cx}{C:Ak}(dc:ub X.K C)(ps:∀ p,PE X (.Name "self" p) (Ch 0))
include dc ps
theorem Rv{p p':AE}:PE X (.Attribute (.Name "self" p) "p" p') (λY H Q=>∃ a dx v1 v2 v3 la,Y[0]?=Aa (Aa (.ref a))/\H a=Aa (.ins C dx (yj v1 v2 v3 la))/\Q v1 H):=
 PE.weak (Om (ps p) rfl) λY H Q ⟨a,dx,v1,v2,v3,la,h1,h2,q⟩=>⟨_,h1,a,C,dx,_,v1,rfl,h2,dc.cl,dc.n1,rfl,q⟩
theorem Nj{p p':AE}:PE X (.Attribute (.Name "self" p) "points" p') (λY H Q=>∃ a dx v1 v2 v3 la,Y[0]?=Aa (Aa (.ref a))/\H a=Aa (.ins C dx (yj v1 v2 v3 la))/\Q v2 H):=
 PE.weak (Om (ps p) rfl) λY H Q ⟨a,dx,v1,v2,v3,la,h1,h2,q⟩=>⟨_,h1,a,C,dx,_,v2,rfl,h2,dc.cl,dc.n2,rfl,q⟩
theorem Wq{p p':AE}:PE X (.Attribute (.Name "self" p) "curve" p') (λY H Q=>∃ a dx v1 v2 v3 la,Y[0]?=Aa (Aa (.ref a))/\H a=Aa (.ins C dx (yj v1 v2 v3 la))/\Q v3 H):=
 PE.weak (Om (ps p) rfl) λY H Q ⟨a,dx,v1,v2,v3,la,h1,h2,q⟩=>⟨_,h1,a,C,dx,_,v3,rfl,h2,dc.cl,dc.n3,rfl,q⟩
theorem Rx{p p':AE}:PE X (.Attribute (.Name "self" p) "past" p') (λY H Q=>∃ a dx v1 v2 v3 la,Y[0]?=Aa (Aa (.ref a))/\H a=Aa (.ins C dx (yj v1 v2 v3 la))/\Q (.ref la) H):=
 PE.weak (Om (ps p) rfl) λY H Q ⟨a,dx,v1,v2,v3,la,h1,h2,q⟩=>⟨_,h1,a,C,dx,_,.ref la,rfl,h2,dc.cl,dc.n4,rfl,q⟩
end
noncomputable def ri(ps N:Ac Ah)(st:AL):Am:=(AG st).kind==.function&&(!(AG st).isCoroutine&&(!(AG st).isGenerator&&(JC N&&(N.take ps.length==ps&&(N.all (λx=>(AG st).names.lookup x==Aa .local)&&(AG st).names.all (λy=>y.2 != .free))))))
structure ScO (ps N:Ac Ah) (st:AL):Prop where
 fs:zx N ps (AG st)
 loc:∀ x∈N,(AG st).names.lookup x=Aa .local
theorem JG{ps N:Ac Ah}{st:AL}(h:ri ps N st=Ab):ScO ps N st:=by
 unfold ri at h;simp only[An,AF,Bf,Bh,E8,JT]at h;obtain⟨c1,c2,c3,c4,c5,c6,c7⟩:=h;exact⟨⟨c1,c2,c3,II c4,c5,λx hx=>.inl (c6 x (by rw[<-c5]at hx;exact List.mem_of_mem_take hx)),c7⟩,c6⟩
noncomputable def WE(K:Fg)(CL:ClA)(E:XK):XW:=λy H'=>∀ cls dx,Dr K CL H' cls dx y->E cls dx H'
section
variable{X:Cx}{C:Ak}
theorem gG{k}(dc:ub X.K C)(ps:∀ p,PE X (.Name "self" p) (Ch 0))(pl:∀ p,PE X (.Name "points" p) (Ch 1))(pc:∀ p,PE X (.Name "curve" p) (Ch 2))(hl:(p3.endLine==p9.line)=Ab):
  ye X [.Expr (.Call (.Attribute (.Attribute (.Name "self" p1) "past" p2) "append" p3) [.Tuple [.Attribute (.Name "self" p4) "points" p5,.Attribute (.Name "self" p6) "curve" p7] k p8] [] p9) p10,.Assign [.Attribute (.Name "self" wp) "points" vw] (.Name "points" ui) tm,.Assign [.Attribute (.Name "self" tz) "curve" t4] (.Name "curve" uw) t5]
   (λD Y H=>∃ a la y2 y3 dx v1 v2 v3 xs,Y[0]?=Aa (Aa (.ref a))/\Y[1]?=Aa (Aa y2)/\Y[2]?=Aa (Aa y3)/\H a=Aa (.ins C dx (yj v1 v2 v3 la))/\H la=Aa (.L xs)/\xs.length<sizeLine/\∀ t,H t=Af->D.nx Y (upd (upd (upd (upd H t (.H [v2,v3])) la (.L (xs++[.ref t]))) a (.ins C dx (yj v1 y2 v3 la))) a (.ins C dx (yj v1 y2 y3 la)))):=by
 refine ye.weak (B9 (Kf (KO Cc D5 D6 NV (Rx dc ps) (Bw (Oi (Bw (Nj dc ps) (Bw (Wq dc ps) Cf rfl) rfl)) Cf rfl) rfl rfl hl rfl rfl) rfl) (B9 (IQ (ps wp) (pl ui) rfl) (DT (IQ (ps tz) (pc uw) rfl)))) ?_;rintro D Y H ⟨a,la,y2,y3,dx,v1,v2,v3,xs,s0,s1,s2,ha,zh,hz,q⟩;have ne:la≠a:=λz=>by rw[z,ha]at zh;cases zh
 refine⟨a,dx,v1,v2,v3,la,s0,ha,.inl ⟨rfl,xs,IO.of zh⟩,a,dx,v1,v2,v3,la,s0,ha,a,dx,v1,v2,v3,la,s0,ha,by rw[By];exact AR rfl,λt ht=>?_⟩
 have nt:t≠la:=λz=>by rw[z,zh]at ht;cases ht
 have Å:t≠a:=λz=>by rw[z,ha]at ht;cases ht
 have h1:(upd (upd H t (.H [v2,v3])) la (.L (xs++[.ref t]))) a=Aa (.ins C dx (yj v1 v2 v3 la)):=by rw[AQ (CF ne),AQ (CF Å)];exact ha
 exact⟨la,xs,.ref t,rfl,rfl,by rw[AQ (CF nt)];exact zh,hz,y2,s1,.ref a,s0,a,C,dx,_,rfl,h1,dc.cl,dc.n2,AR rfl,y3,s2,.ref a,s0,a,C,dx,_,rfl,BK,dc.cl,dc.n3,AR rfl,q t ht⟩
noncomputable def G8(q:Dk)(l:Ac D)(c:D):Dk:=⟨q.p,l,c,q.ps++[.H [.L q.l,q.c]]⟩
noncomputable def Pe(q:Dk):Ac D->RK
 |[.L l,c]=>if q.ps.length<900 then .ok .O (G8 q l c) else .bad
 |_=>.bad
end
section
variable{P:AK}{w:AH}{K:Fg}{mg:Ah->Ao Al}{base:AI}{CL:ClA}{n:Ag}{C:Ak}
theorem rX{st:AL}{f:Ak}{k}(dc:ub K C)(hf:yx K x qual st f fd)(hs:ri ["self", "points", "curve"] ["self", "points", "curve"] st=Ab)(hl:(p3.endLine==p9.line)=Ab)
    (hb:Dh st=[.Expr (.Call (.Attribute (.Attribute (.Name "self" p1) "past" p2) "append" p3) [.Tuple [.Attribute (.Name "self" p4) "points" p5,.Attribute (.Name "self" p6) "curve" p7] k p8] [] p9) p10,.Assign [.Attribute (.Name "self" wp) "points" vw] (.Name "points" ui) tm,.Assign [.Attribute (.Name "self" tz) "curve" t4] (.Name "curve" uw) t5]):
    Y4 P w K mg base (CXR P w) (n+1) f fd ["self", "points", "curve"] (wq K CL C 2 Pe):=by
  obtain⟨oc,od,dV,kV,doc,pm,an,cdv,ct,osl,rfl,lk,zo⟩:=hf.ex;have sc:=JG hs;refine Hq lk zo sc.fs (λ_ _ _ _ h=>MY h) λA outer s H vs Q E hr h=>Na h λa la us ds B q e U8 hA ha zh rs dk hp=>?_
  subst e;rw[hb];refine⟨_,gG dc (λp=>Dw rfl (.inl (sc.loc "self" (by simp)))) (λp=>Dw rfl (.inl (sc.loc "points" (by simp)))) (λp=>Dw rfl (.inl (sc.loc "curve" (by simp)))) hl,?_⟩
  match us,ds,U8,rs with
  |[y2,y3],[d2,d3],_,⟨r2,r3,_⟩=>
    cases d2 with
    |L l=>
      have hp:ue (if q.ps.length<900 then RK.ok .O (G8 q l d3) else .bad) _ _:=hp
      by_cases hz:q.ps.length<900
      · rw[Au hz]at hp;obtain⟨dx,v1,v2,v3,xs,h1,h2,r4,r5,r6,r7⟩:=dk;have ne:la≠a:=λz=>by rw[z,h1]at h2;cases h2
        refine⟨a,la,y2,y3,dx,v1,v2,v3,xs,rfl,rfl,rfl,h1,h2,by rw[r7.length,By];omega,λt ht=>?_⟩
        have kb:KB a la H (upd (upd (upd (upd H t (.H [v2,v3])) la (.L (xs++[.ref t]))) a (.ins C dx (yj v1 y2 v3 la))) a (.ins C dx (yj v1 y2 y3 la))):=λb o e n1 n2=>by
          rw[AQ n1,AQ n1,AQ n2,AQ (Er e ht)];exact e
        have kp:=kb.kp ha zh;have nt:t≠la:=λz=>by rw[z,h2]at ht;cases ht
        have Å:t≠a:=λz=>by rw[z,h1]at ht;cases ht
        refine hp .O _ kb ⟨rfl,λ_ _ z=>nomatch z⟩ (DK.O ⟨dx,v1,y2,y3,xs++[.ref t],BK,?_,Z7.kp kp _ r4,Z7.kp kp _ r2,Z7.kp kp _ r3,(Z9.kp kp _ r7).append ⟨⟨t,[v2,v3],rfl,.inl (hA.new ht),yk.of ?_,Z7.kp kp _ r5,Z7.kp kp _ r6,trivial⟩,trivial⟩⟩)
        · rw[AQ ne,AQ ne];exact BK
        · rw[AQ Å,AQ Å,AQ nt];exact BK
      · rw[Ay hz]at hp;exact hp.elim
    |_=>exact hp.elim
  |[_,_],[],_,r=>exact r.elim
  |[_,_],[_],_,r=>exact r.2.elim
  |[_,_],_::_::_::_,_,r=>exact r.2.2.elim
end
section
variable{K:Fg}{CL:ClA}{H:Hp}{A:Ak->Prop}{U:Rho}{Y:L2.St}
theorem OJ(hA:Ty H A)(g:Y9 K CL A U Y H)(no:∀(i:Ag)(d:D),U[i]?≠Aa (Aa (d,Ab))):Sx K CL ⟨λb o=>H b=Aa o,λ_ _ _=>AN⟩ A U Y H:=by
 have own:∀ b,BJ A U Y b->A b:=λb h=>h.elim id λ⟨j,d,h1,_⟩=>absurd h1 (no j d)
 exact⟨⟨λi d h=>let ⟨v,q,r⟩:=g.sh i d h;⟨v,q,Z7.sub own _ r⟩,λi d h=>absurd h (no i d),g.len⟩,λb h=>hA b (own b h),λj d b h=>absurd h (no j d),λi j d e b h=>absurd h (no i d),λ_ _ z=>z,g.len,λj h=>absurd h (no j _)⟩
def à(K:Fg)(CL:ClA)(A:Ak->Prop)(H:Hp):Rho->L2.St->Prop
 |[],[]=>F7
 |some (d,o)::U,v::Y=>(o=Ae/\∃ u,v=Aa u/\Z7 K CL H A u d)/\à K CL A H U Y
 |none::U,_::Y=>à K CL A H U Y
 |_,_=>AN
theorem HG:∀{U:Rho}{Y:L2.St},à K CL A H U Y->Y9 K CL A U Y H/\∀(i:Ag)(d:D),U[i]?≠Aa (Aa (d,Ab))
 |[],[],_=>⟨⟨λi d h=>by simp at h,λi d h=>by simp at h,rfl⟩,λi d h=>by simp at h⟩
 |some (d,o)::U,v::Y,h=>by
  obtain⟨⟨e,u,rfl,r⟩,h⟩:=h;subst e;obtain⟨g,n⟩:=HG h;have n':∀(i:Ag)(e:D),(Aa (d,Ae)::U)[i]?≠Aa (Aa (e,Ab)):=λi e z=>by
   cases i with
   |zero=>cases z
   |succ i=>exact n i e z
  refine⟨⟨λi e z=>?_,λi e z=>absurd z (n' i e),congrArg (· + 1) g.len⟩,n'⟩
  cases i with
  |zero=>cases z;exact⟨u,rfl,r⟩
  |succ i=>exact g.sh i e z
 |none::U,v::Y,h=>by
  obtain⟨g,n⟩:=HG (show à K CL A H U Y from h)
  have n':∀(i:Ag)(e:D),(Af::U)[i]?≠Aa (Aa (e,Ab)):=λi e z=>by
   cases i with
   |zero=>cases z
   |succ i=>exact n i e z
  refine⟨⟨λi e z=>?_,λi e z=>absurd z (n' i e),congrArg (· + 1) g.len⟩,n'⟩
  cases i with
  |zero=>cases z
  |succ i=>exact g.sh i e z
 |[],_::_,h=>h.elim
 |some (_,_)::_,[],h=>h.elim
 |none::_,[],h=>h.elim
end
section
variable{P:AK}{w:AH}{K:Fg}{mg:Ah->Ao Al}{base:AI}{CL:ClA}{fns:Ac (Ah×Ag×Ag)}{bl:Ac Ah}{rzs exs gls:Ac (Ah×Ag)}{Pg:Prg}{fuel n:Ag}{C:Ak}
theorem Lw(t:wl K mg CL fns bl rzs exs gls Pg fuel){ps N:Ac Ah}{st:AL}{f:Ak}{A:A4}{s:Ar}{E:XK}(sc:ScO ps N st)(hr:U6 n (A.deeper (D3 qual (AG st) s.heap.objs.size f cdv))):VX (Z6 Pg n) CL n (WE K CL E) ⟨AG st,N,fns,bl,rzs,exs,gls,Ab⟩ (B0 (CXR P w) P w K mg base N qual (AG st) f cdv A outer s H E):=by
 have hW:∀ x cls dx H',WE K CL E x H'->Dr K CL H' cls dx x->E cls dx H':=λx cls dx H' z r=>z cls dx r
 have xt:XT (Z6 Pg n).up (Z6 Pg n).xn CL rzs exs K mg:=by rw[KI,Lf];exact t.xt
 have gl:∀ p∈gls,JQ K mg CL p.1 ((Z6 Pg n).G p.2):=by rw[KJ];exact t.gl
 exact⟨rfl,sc.fs.kind,rfl,sc.fs.nd,rfl,hr,t.bln,t.os,Vl t n,Vk t n,ra,Oz hW,Ð hW,xt,gl,λ_=>rfl⟩
end
section
variable{X:Cx}{C:Ak}(dc:ub X.K C)(ps:∀ p,PE X (.Name "self" p) (Ch 0))(hu:X.A.units+64<BD)(gn:Gl X "len")(mn:X.mg "len" = Af)
include dc ps hu gn mn
theorem rH{k}:PT X (.Compare (.Call (.Name "len" p1) [.Attribute (.Name "self" p2) "past" p3] [] p4) [.Eq] [.Constant (.int 0) k p5] p6) (λY H Q=>∃ a dx v1 v2 v3 la xs,Y[0]?=Aa (Aa (.ref a))/\H a=Aa (.ins C dx (yj v1 v2 v3 la))/\H la=Aa (.L xs)/\∀ H',Az H H'->Q (decide (xs.length=0)) H'):=by
 refine PT.weak (L7 (IM (W:=W0) (CL:=λ_=>Af) hu .Eq A0) (Kk NR gn mn Jj (Bw (Rx dc ps) Cf rfl) (by decide) (by decide) rfl rfl) Ol rfl) ?_
 rintro Y H Q ⟨a,dx,v1,v2,v3,la,xs,s0,ha,zh,q⟩;refine⟨a,dx,v1,v2,v3,la,s0,ha,la,xs,rfl,.inl (IO.of zh),λ_ z=>z.elim,.int xs.length,.int 0,.inl rfl,.inl rfl,?_⟩
 intro v H' sm r;refine⟨_,r,?_⟩;have e:Tm (.int xs.length) (.int 0)=decide (xs.length=0):=by
  show ((xs.length:Ai)==0)=_;rw[DM];simp
 rw[e];exact q H' sm
theorem rO(gs:Gl X "str")(ms:X.mg "str" = Af):PE X (.List [.Call (.Name "str" p1) [.Call (.Name "len" p2) [.Attribute (.Name "self" p3) "points" p4] [] p5] [] p6] p7) (λY H Q=>∃ a dx v1 v2 v3 la xs,Y[0]?=Aa (Aa (.ref a))/\H a=Aa (.ins C dx (yj v1 v2 v3 la))/\IO X.K H (match v2 with | .ref l=>l|_=>0) xs/\(∃ l,v2=.ref l)/\xs.length<1000/\∀ t,H t=Af->Q (.ref t) (upd H t (.L [.str (toString (xs.length:Ai))]))):=by
 refine PE.weak (Ma (Bw (PR SG gs ms GB (Bw (Kk NR gn mn Jj (Bw (Nj dc ps) Cf rfl) (by decide) (by decide) rfl rfl) Cf rfl) (by decide) (by decide) rfl rfl) Cf rfl)) ?_
 rintro Y H Q ⟨a,dx,v1,v2,v3,la,xs,s0,ha,hl,⟨l,rfl⟩,hz,q⟩;refine⟨a,dx,v1,_,v3,la,s0,ha,l,xs,rfl,.inl hl,xs.length,rfl,?_,by rw[By];exact AR rfl,q⟩
 have:=Go xs.length;rw[Hv];omega
end
noncomputable def Hr(q:Dk):Ac D->RK
  | []=>(match q.ps.getLast? with
    |none=>.exn ⟨17,[]⟩
    |some (.H [.L l,c])=>if l.length<900 then .ok (.L [.str (toString (l.length:Ai))]) ⟨q.p,l,c,q.ps.dropLast⟩ else .bad
    | _=>.bad)
  |_=>.bad
theorem bQ(q:Dk):(q.ps=[]/\Hr q []=.exn ⟨17,[]⟩)\/(∃ l c,q.ps.getLast?=Aa (.H [.L l,c])/\l.length<900/\Hr q []=.ok (.L [.str (toString (l.length:Ai))]) ⟨q.p,l,c,q.ps.dropLast⟩)\/Hr q []=.bad:=by
 cases el:q.ps.getLast? with
 |none=>exact .inl ⟨List.getLast?_eq_none_iff.mp el,by unfold Hr;simp only[el]⟩
 |some d=>
  refine .inr ?_;have no:(∀ l c,d≠.H [.L l,c])->Hr q []=.bad:=λh=>by
   unfold Hr;simp only[el];split
   .rename_i z;cases z
   .rename_i l c z;exact absurd (BB z) (h l c)
   .rfl
  by_cases h:∃ l c,d=.H [.L l,c]
  .obtain⟨l,c,rfl⟩:=h;by_cases hz:l.length<900
   .exact .inl ⟨l,c,rfl,hz,by unfold Hr;simp only[el,Au hz]⟩
   .exact .inr (by unfold Hr;simp only[el,Ay hz])
  .exact .inr (no λl c e=>h ⟨l,c,e⟩)
theorem í{u:Ao V}{y:V}{d:D}(r:Z7 K CL H A y d):Y9 K CL A [Af,Aa (d,Ae)] [u,Aa y] H:=(HG (K:=K) (CL:=CL) (A:=A) (H:=H) (U:=[Af,Aa (d,Ae)]) (Y:=[u,Aa y]) ⟨⟨rfl,y,rfl,r⟩,trivial⟩).1
section
variable{P:AK}{w:AH}{K:Fg}{mg:Ah->Ao Al}{base:AI}{CL:ClA}{fns:Ac (Ah×Ag×Ag)}{bl:Ac Ah}{rzs exs gls:Ac (Ah×Ag)}{Pg:Prg}{fuel n:Ag}{C:Ak}
theorem pM(t:wl K mg CL fns bl rzs exs gls Pg fuel){st sr:AL}{e0:Aq}{f:Ak}{bx bz kn:AE}{k}(dc:ub K C)(hf:yx K x qual st f fd)(hs:ri ["self"] ["self", "ahead"] st=Ab)
  (hb:Dh st=[.If (.Compare (.Call (.Name "len" p1) [.Attribute (.Name "self" p2) "past" p3] [] p4) [.Eq] [.Constant (.int 0) k p5] p6) [sr] [] p7,.Assign [.Name "ahead" p8] (.Call (.Attribute (.Attribute (.Name "self" p9) "past" p10) "pop" wp) [] [] vw) ui,.Assign [.Attribute (.Name "self" tm) "points" tz] e0 t4,.Assign [.Attribute (.Name "self" uw) "curve" t5] e1 oq,.Return (Aa (.List [.Call (.Name "str" mz) [.Call (.Name "len" m6) [.Attribute (.Name "self" km) "points" bw] [] iv] [] bx] bz)) kn])
  (hl:(wp.endLine==vw.line)=Ab) (hg:(xu ⟨AG st,["self", "ahead"],fns,bl,rzs,exs,gls,Ab⟩ "len" && xu ⟨AG st,["self", "ahead"],fns,bl,rzs,exs,gls,Ab⟩ "str")=Ab)
  (c0:Be fuel ⟨AG st,["self", "ahead"],fns,bl,rzs,exs,gls,Ab⟩ e0 (.x (.v 1) (.int 0))=Ab) (c1:Be fuel ⟨AG st,["self", "ahead"],fns,bl,rzs,exs,gls,Ab⟩ e1 (.x (.v 1) (.int 1))=Ab) (nc:(F8 e0&&F8 e1)=Ab)
  (cr:Jd fuel ⟨AG st,["self", "ahead"],fns,bl,rzs,exs,gls,Ab⟩ sr (.rais 17 (.cons (.str txt) .nil))=Ab) (pf:Pg.xn 17 [.str txt]=.ok ⟨17,[]⟩):
  Y4 P w K mg base (CXR P w) (n+1) f fd ["self"] (wq K CL C 0 Hr):=by
 obtain⟨oc,od,dV,kV,doc,pm,an,cdv,ct,osl,rfl,lk,zo⟩:=hf.ex;have sc:=JG hs;refine Hq lk zo sc.fs (λ_ _ _ _ h=>MY h) λA outer s H vs Q E hr h=>Na h λa la us ds B q e U8 hA ha zh rs dk hp=>?_
 subst e;rw[hb];have v:=Lw (P:=P) (w:=w) (base:=base) (outer:=outer) (H:=H) (E:=E) t sc hr;obtain⟨jw,wv⟩:=A9 hg;obtain⟨bp,nc2⟩:=A9 nc;obtain⟨g1,g2,_,_⟩:=Hm v jw;obtain⟨g3,g4,_,_⟩:=Hm v wv;have U9:∀ p,PE (B0 (CXR P w) P w K mg base ["self", "ahead"] qual (AG st) f cdv A outer s H E) (.Name "self" p) (Ch 0):=λp=>Dw rfl (.inl (sc.loc "self" (by simp)))
 have s0:=((ze fuel).e _ _ _ e0 _ v c0).se B;have s1:=((ze fuel).e _ _ _ e1 _ v c1).se B;have sr':=(IZ fuel).s _ _ _ sr _ v ⟨λ_=>rfl,rfl,rfl,rfl⟩ cr ⟨λb o=>H b=Aa o,λ_ _ _=>AN⟩ B
 refine⟨_,B9 (FP (rH dc U9 v.room.units g1 g2) (DT sr') GZ) (B9 (EH (i:=1) sc.fs.nd rfl (.inl (sc.loc "ahead" (by simp))) (V8 Cc Zr Zv Wa (Rx dc U9) rfl hl) rfl (.inl rfl)) (B9 (IQ (U9 tm) s0 (HK bp)) (B9 (IQ (U9 uw) s1 (HK nc2)) (DT (Hl (rO dc U9 v.room.units g1 g2 g3 g4)))))),?_⟩
 have e0:us=[]:=Ey U8;subst e0;have ed:ds=[]:=by cases ds with|nil=>rfl|cons=>exact rs.elim
 subst ed;obtain⟨dx,v1,v2,v3,xs,h1,h2,r4,r5,r6,r7⟩:=dk;have ne:la≠a:=λz=>by rw[z,h1]at h2;cases h2
 have lx:=r7.length;have ho:=bQ q;generalize Hr q []=r at hp ho;refine⟨a,dx,v1,v2,v3,la,xs,rfl,h1,h2,λH1 sm=>?_⟩
 have jp:=hA.same sm;dsimp only;rcases ho with ⟨e1,rfl⟩|⟨l,c,el,hl9,rfl⟩|rfl
 .rw[e1]at lx;rw[Au (by rw[lx];rfl)]
  have g:=HG (K:=K) (CL:=CL) (A:=B) (H:=H1) (U:=[Af,Af]) (Y:=[Aa (.ref a),Af]) trivial;have sx:Sx K CL ⟨λb o=>H b=Aa o,λ_ _ _=>AN⟩ B [Af,Af] (L2.start ["self", "ahead"] [.ref a]) H1:=Sx.mono (Fy:=⟨λb o=>H1 b=Aa o,λ_ _ _=>AN⟩) (λb o z=>sm b o z) (λ_ _ _ z=>z) (OJ jp g.1 g.2)
  refine⟨[Af,Af],sx,?_⟩;have e2:xz (Z6 Pg n) [Af,Af] (.cons (.str txt) .nil)=.ok [.str txt]:=rfl;rw[Ut,e2];show B2 K CL _ B (WE K CL E) (O.of _ ((Z6 Pg n).xn 17 [.str txt]) λx=>.exn x _) _
  rw[Lf,pf];exact λH2 s2 cls dx xr=>hp cls dx H2 (λb o z=>s2 b o z) xr
 .have e1:q.ps≠[]:=λz=>by rw[z]at el;cases el
  have lp:0<q.ps.length:=List.length_pos_iff.mpr e1;rw[Ay (by rw[AM];omega)]
  rw[Ym]at el;obtain⟨y,hy,ry⟩:=r7.get el;rw[<-lx]at hy;refine⟨a,dx,v1,v2,v3,la,rfl,sm _ _ h1,.inl ⟨rfl,xs,IO.of (sm _ _ h2)⟩,la,xs,y,rfl,rfl,sm _ _ h2,hy,?_⟩;have k2:KB a la H (upd H1 la (.L xs.dropLast)):=λb o e n1 n2=>by rw[AQ n2];exact sm _ _ e
  have ù:Ty (upd H1 la (.L xs.dropLast)) B:=λb hb=>by
   by_cases e:b=la
   .rw[e];exact⟨_,BK,trivial⟩
   .rw[AQ e];exact jp b hb
  have a2:(upd H1 la (.L xs.dropLast)) a=Aa (.ins C dx (yj v1 v2 v3 la)):=by rw[AQ (CF ne)];exact sm _ _ h1
  refine⟨ù,[Af,Aa (.H [.L l,c],Ae)],í (Z7.kp (k2.kp ha zh) _ ry),?_⟩;have w1:evE (Z6 Pg n) [Af,Aa (.H [.L l,c],Ae)] (.x (.v 1) (.int 0))=.ok (.L l):=rfl;have w2:evE (Z6 Pg n) [Af,Aa (.H [.L l,c],Ae)] (.x (.v 1) (.int 1))=.ok c:=rfl;show AX _ _ _ (evE (Z6 Pg n) [Af,Aa (.H [.L l,c],Ae)] (.x (.v 1) (.int 0))) _;rw[w1];intro y1 H3 s3 ry1;have a3:=s3 _ _ a2;have k4:KB a la H (upd H3 a (.ins C dx (yj v1 y1 v3 la))):=λb o e n1 n2=>by rw[AQ n1];exact s3 _ _ (k2 b o e n1 n2)
  have k34:KB a la H3 (upd H3 a (.ins C dx (yj v1 y1 v3 la))):=λb o e n1 n2=>by rw[AQ n1];exact e
  refine⟨.ref a,rfl,a,C,dx,_,rfl,a3,dc.cl,dc.n2,AR rfl,?_⟩;have hA4:Ty (upd H3 a (.ins C dx (yj v1 y1 v3 la))) B:=λb hb=>by
   by_cases e:b=a
   .rw[e];exact⟨_,BK,trivial⟩
   .rw[AQ e];exact ù.same s3 b hb
  refine⟨hA4,[Af,Aa (.H [.L l,c],Ae)],í (Z7.kp (k4.kp ha zh) _ ry),?_⟩;show AX _ _ _ (evE (Z6 Pg n) [Af,Aa (.H [.L l,c],Ae)] (.x (.v 1) (.int 1))) _;rw[w2];intro y2 H5 s5 cg;have k6:KB a la H (upd H5 a (.ins C dx (yj v1 y1 y2 la))):=λb o e n1 n2=>by rw[AQ n1];exact s5 _ _ (k4 b o e n1 n2)
  have k36:KB a la H3 (upd H5 a (.ins C dx (yj v1 y1 y2 la))):=λb o e n1 n2=>by rw[AQ n1];exact s5 _ _ (k34 b o e n1 n2)
  have k56:KB a la H5 (upd H5 a (.ins C dx (yj v1 y1 y2 la))):=λb o e n1 n2=>by rw[AQ n1];exact e
  refine⟨.ref a,rfl,a,C,dx,_,rfl,s5 _ _ BK,dc.cl,dc.n3,AR rfl,?_⟩;have R1:Z7 K CL (upd H5 a (.ins C dx (yj v1 y1 y2 la))) B y1 (.L l):=Z7.kp (k36.kp ha zh) _ ry1;obtain⟨l1,ys,rfl,nl1,sq1,rl1⟩:=R1;have l6:(upd H5 a (.ins C dx (yj v1 (.ref l1) y2 la))) la=Aa (.L xs.dropLast):=by
   rw[AQ ne];refine s5 _ _ ?_;rw[AQ ne];exact s3 _ _ BK
  have hA6:Ty (upd H5 a (.ins C dx (yj v1 (.ref l1) y2 la))) B:=λb hb=>by
   by_cases e:b=a
   .rw[e];exact⟨_,BK,trivial⟩
   .rw[AQ e];exact hA4.same s5 b hb
  have ly:=rl1.length;refine⟨a,dx,v1,.ref l1,y2,la,ys,rfl,BK,sq1,⟨l1,rfl⟩,by omega,λt ht=>?_⟩
  have ht:(upd H5 a (.ins C dx (yj v1 (.ref l1) y2 la))) t=Af:=ht;have s7:Az (upd H5 a (.ins C dx (yj v1 (.ref l1) y2 la))) (upd (upd H5 a (.ins C dx (yj v1 (.ref l1) y2 la))) t (.L [.str (toString (ys.length:Ai))])):=EZ ht _;have tN:H t=Af:=by
   cases e:H t with
   |none=>rfl
   |some o=>
    by_cases n1:t=a
    .rw[n1,BK]at ht;cases ht
    .by_cases n2:t=la
     .rw[n2,l6]at ht;cases ht
     .rw[k6 t o e n1 n2]at ht;cases ht
  refine hp (.ref t) _ (k6.trans (KB.of s7)) ⟨?_,λ_ es ee=>?_⟩ (DK.same (DK.new ⟨dx,v1,.ref l1,y2,xs.dropLast,BK,l6,Z7.kp (k6.kp ha zh) _ r4,⟨l1,ys,rfl,nl1,sq1,rl1⟩,Z7.kp (k56.kp ha zh) _ cg,?_⟩ ht) s7)
  .rw[<-ly];exact⟨t,_,rfl,.inl (hA6.new ht),IO.of BK,rfl,trivial⟩
  .cases ee;rw[<-ly];exact⟨t,_,rfl,tN,BK,rfl,trivial⟩
  .have:=Z9.take (xs.length-1) (Z9.kp (k6.kp ha zh) _ r7);rw[<-ED]at this
   rwa [lx,<-ED]at this
 .exact hp.elim
end
section
variable{Z:Z4}{CL:ClA}{W:XW}{k:Ag}{T:Tc}{X:Cx}
theorem Oy(v:VX Z CL k W T X){g:Ah}{id m:Ag}{e:Aq}{es:Ac Aq}{ta:TA}{p pos:AE}(hm:(g,id,m)∈T.fns)(h1:m<1000)(hmt:Gb.lookup g=Af)(qm:zc T g=Ab)(ha:PA X (e::es) ta)(zq:(g==("__debug__" : Ah))=Ae:=by decide)(he:Aw (e::es) X.env=(Ae,eval e X.env)::Aw es X.env:=by rfl)(zp:(Bv pos (Aw es X.env)).any (·.1)=Ae:=by rfl):PE X (.Call (.Name g p) (e::es) [] pos) (Wf (spD X.K CL m (Z.fr id) (Z.F id)) [] (EKW X.K CL A0 W) ta):=by
 obtain⟨f,fd,ps,hl,kp,hb,U8,F,_⟩:=v.fn _ hm;have F:=F h1;have em:(g,id,m).2.2%1000=m:=YD h1;rw[em]at F;refine Kg F v.room ?_ (Qj hl hmt) kp hb .nil (v.px A0) ha zq he zp;show X.env.scope.names.lookup g=_;rw[v.sc];exact AF.mp qm
end
section
variable{K:Fg}{CL:ClA}{H H1 H2:Hp}{A:Ak->Prop}{us:Ac V}{ds:Ac D}{v:V}{d:D}
theorem NZ(hl:us.length=1)(r:Z9 K CL H A us ds):∃ u d,us=[u]/\ds=[d]/\Z7 K CL H A u d:=by
  match us,ds,hl,r with
  |[u],[d],_,r=>exact⟨u,d,rfl,rfl,r.1⟩
  |[_],[],_,r=>exact r.elim
  |[_],_::_::_,_,r=>exact r.2.elim
theorem Ua(hl:us.length=2)(r:Z9 K CL H A us ds):∃ u d u' d',us=[u,u']/\ds=[d,d']/\Z7 K CL H A u d/\Z7 K CL H A u' d':=by
  match us,ds,hl,r with
  |[u,u'],[d,d'],_,r=>exact⟨u,d,u',d',rfl,rfl,r.1,r.2.1⟩
  |[_,_],[],_,r=>exact r.elim
  |[_,_],[_],_,r=>exact r.2.elim
  |[_,_],_::_::_::_,_,r=>exact r.2.2.elim
theorem Qd(sm:Az H H1)(r:Cr K CL Ab H1 A H2 v d):Cr K CL Ab H A H2 v d:=⟨r.1,λ_ es ee=>by
 obtain⟨l,ys,e1,e2,e3,e4⟩:=r.2 rfl es ee;refine⟨l,ys,e1,?_,e3,e4⟩;cases eh:H l with
 |none=>rfl
 | some o=>rw[sm _ _ eh]at e2;cases e2⟩
end
section
variable{X:Cx}{CX:CXT}{k:Ag}{f C:Ak}{fd:Bj}{ps:Ac Ah}{sp:Sp}{E:XK}{m:Ah}{pos apos:AE}{e o:Aq}{es:Ac Aq}{ta:TE}{t:TA}
theorem Rs(he:PE X o ta)(c:wk X.K C)(hm:yz X.K C m f)(F:Y4 X.prog X.w X.K X.mg X.base CX k f fd ps sp)(hr:U6 k X.A)(hb:CW X.K fd ps [])(hx:HJ CX X E)(ha:PA X (e::es) t)(My:(apos.endLine==pos.line)=Ab)(xm:FX ((e::es).length+([]:Ac CV).length) (Bv pos (Aw (e::es) X.env)) (EU pos (DG [] X.env))=Ab:=by rfl)(U4:BZ o m X.env (eval o X.env)=eval o X.env:=by rfl)(yh:Aw (e::es) X.env=(Ae,eval e X.env)::Aw es X.env:=by rfl)(zp:(Bv pos (Aw es X.env)).any (·.1)=Ae:=by rfl):PE X (.Call (.Attribute o m apos) (e::es) [] pos) (Li C m sp [] E ta t):=by
 intro pI s Y H Q I h;rw[Gk,U4];refine As (U5 (he pI s Y H _ I h) λu s1 ⟨x,H1,I1,rx,a,dx,fs,ex,ea,l,q⟩=>?_)
 subst ex;obtain rfl:u=Bm a:=rx;refine As (CT ?_);have vg:Dm Ab o X.env apos pos=pure pos:=by
  unfold Dm;simp[My]
 unfold HW;rw[xm];refine As (Ck (NX I1 ea c hm l ?_));refine As (Gi vg ?_);refine DI (first:=[.ref a]) (h₀:=X.base) I.ok.mod.kin hm.kp (U5 (ha pos pI s1 Y H1 _ I1 q) λus s2 ⟨vs,H2,I2,r,q2⟩=>⟨I2.kIn,?_⟩) yh zp
 exact Oh (us:=.ref a::us) (vs:=.ref a::vs) F hr hb .nil hx I2 (.cons rfl r) q2
theorem pZ(he:PE X o ta)(c:wk X.K C)(hm:yz X.K C m f)(F:Y4 X.prog X.w X.K X.mg X.base CX k f fd ps sp)(hr:U6 k X.A)(hb:CW X.K fd ps [])(hx:HJ CX X E)(My:(apos.endLine==pos.line)=Ab)(U4:BZ o m X.env (eval o X.env)=eval o X.env:=by rfl):PE X (.Call (.Attribute o m apos) [] [] pos) (Li C m sp [] E ta Ms):=by
 intro pI s Y H Q I h;rw[Gk,U4];refine As (U5 (he pI s Y H _ I h) λu s1 ⟨x,H1,I1,rx,a,dx,fs,ex,ea,l,q⟩=>?_)
 subst ex;obtain rfl:u=Bm a:=rx;refine As (CT ?_);have xm:FX (([]:Ac Aq).length+([]:Ac CV).length) (Bv pos (Aw [] X.env)) (EU pos (DG [] X.env))=Ab:=rfl;have vg:Dm Ab o X.env apos pos=pure pos:=by
  unfold Dm;simp[My]
 unfold HW;rw[xm];refine As (Ck (NX I1 ea c hm l ?_));refine As (Gi vg ?_);exact Z_1 (first:=[.ref a]) I1.kIn hm.kp (Oh (us:=[.ref a]) (vs:=[.ref a]) F hr hb .nil hx I1 (.cons rfl .nil) q)
end
noncomputable def Wn(r:R D)(q:Dk):RK:=match r with
  |.ok (.L es)=>.ok (.L es) q
  |.exn x=>.exn x
  |_=>.bad
noncomputable def Pa(Z:Z4)(id:Ag)(q:Dk):Ac D->RK
 |[.str w]=>if w = "points" then Wn (Z.F id [q.p,.L q.l]) q else .bad
 |_=>.bad
section
variable{P:AK}{w:AH}{K:Fg}{mg:Ah->Ao Al}{base:AI}{CL:ClA}{fns:Ac (Ah×Ag×Ag)}{bl:Ac Ah}{rzs exs gls:Ac (Ah×Ag)}{Pg:Prg}{fuel n:Ag}{C:Ak}
theorem qN(t:wl K mg CL fns bl rzs exs gls Pg fuel){st s2 s3:AL}{f:Ak}(dc:ub K C)(hf:yx K x qual st f fd)(hs:ri ["self", "word"] ["self", "word"] st=Ab)(hb:Dh st=[.If c1 [.Return (Aa (.Call (.Name "point_texts" p1) [.Attribute (.Name "self" p2) "p" p3,.Attribute (.Name "self" p4) "points" p5] [] p6)) p7] [] p8,s2,s3])(hm:((("point_texts" : Ah),id,2):Ah×Ag×Ag)∈fns)(qm:zc ⟨AG st,["self", "word"],fns,bl,rzs,exs,gls,Ab⟩ "point_texts" = Ab)(w9:(Pg.defs id).fr=Ab)(cc:Eb fuel ⟨AG st,["self", "word"],fns,bl,rzs,exs,gls,Ab⟩ c1 (.cmp .Eq (.v 1) (.str "points"))=Ab):
  Y4 P w K mg base (CXR P w) (n+1) f fd ["self", "word"] (wq K CL C 1 (Pa (Z6 Pg n) id)):=by
 obtain⟨oc,od,dV,kV,doc,pm,an,cdv,ct,osl,rfl,lk,zo⟩:=hf.ex;have sc:=JG hs;refine Hq lk zo sc.fs (λ_ _ _ _ h=>MY h) λA outer s H vs Q E hr h=>Na h λa la us ds B q e U8 hA ha zh rs dk hp=>?_
 subst e;rw[hb];have v:=Lw (P:=P) (w:=w) (base:=base) (outer:=outer) (H:=H) (E:=E) t sc hr;have U9:∀ p,PE (B0 (CXR P w) P w K mg base ["self", "word"] qual (AG st) f cdv A outer s H E) (.Name "self" p) (Ch 0):=λp=>Dw rfl (.inl (sc.loc "self" (by simp)))
 have c1':=(ze fuel).b _ _ _ c1 _ v cc B;refine⟨_,B9 (FP c1' (DT (Hl (Oy v hm (by decide) rfl qm (Bw (Rv dc U9) (Bw (Nj dc U9) Cf rfl) rfl)))) GZ) Jw,?_⟩
 obtain⟨dx,v1,v2,v3,xs,h1,h2,r4,r5,r6,r7⟩:=dk;obtain⟨u,d,rfl,rfl,ru⟩:=NZ U8 rs;cases d with
 |str z=>
  have hq:ue (if z = "points" then Wn ((Z6 Pg n).F id [q.p,.L q.l]) q else .bad) _ _:=hp
  by_cases hz:z = "points"
  .rw[Au hz]at hq;subst hz;refine⟨hA,[Af,Aa (.str "points",Ae)],í ru,?_⟩;show CQ _ _ (R.ok Ab) _;intro H1 sm;dsimp only;rw[Au rfl];refine⟨a,dx,v1,v2,v3,la,rfl,sm _ _ h1,a,dx,v1,v2,v3,la,rfl,sm _ _ h1,[q.p,.L q.l],B,rfl,hA.same sm,⟨r4.same sm,r5.same sm,trivial⟩,?_⟩;cases e:(Z6 Pg n).F id [q.p,.L q.l] with
   |bad=>rw[e]at hq;exact hq.elim
   |exn y=>rw[e]at hq;exact λcls dx H2 s2 xr=>⟨y,xr,λcls dx xr=>hq cls dx H2 (sm.trans s2) xr⟩
   |ok d=>
    rw[e]at hq;cases d with
    |L es=>
     intro y H2 s2 ry;rw[Op,w9]at ry;obtain⟨l,ys,e1,e2,_,_⟩:=ry.2 rfl es rfl;subst e1;exact hq _ H2 (KB.of (sm.trans s2)) (Qd sm ry) (DK.same (DK.new (DK.same ⟨dx,v1,v2,v3,xs,h1,h2,r4,r5,r6,r7⟩ sm) e2) s2)
    |_=>exact hq.elim
  .rw[Ay hz]at hq;exact hq.elim
 |_=>exact hp.elim
end
noncomputable def Nx(Z:Z4)(ip it:Ag)(q:Dk):Ac D->RK
  | [.str w,fm]=>(match (if w = "put" then Z.F ip [.L q.l,fm] else if w = "take" then Z.F it [.L q.l,fm] else .bad) with
    |.ok (.L l)=>if q.ps.length<900/\l.length<900 then .ok (.L [.str (toString (l.length:Ai))]) (G8 q l q.c) else .bad
    |.exn x=>.exn x
    | _=>.bad)
  |_=>.bad
theorem sD{i:Ag}{l:Ac D}(h:U[i]?=Aa (Aa (.L l,Ae)))(hz:l.length<900):evE Z U (.L (.cons (.bi .str (.cons (.bi .len (.cons (.v i) .nil)) .nil)) .nil))=.ok (.L [.str (toString (l.length:Ai))]):=by
 have e1:zw .str [.int l.length]=.ok (.str (toString (l.length:Ai))):=Au (by unfold Lx;rw[Hv,AM];omega)
 have e2:CS U i=.ok (.L l):=by unfold CS;rw[h]
 have e3:zw .len [.L l]=.ok (.int l.length):=rfl;simp only[nN,MU,L8,L6,Ip,Od,e2,R.bind_ok,nO,e3,nP,e1]
theorem jN{H3 H4:Hp}{C a la:Ak}{v:V}{d:D}(kb:KB a la H H3)(dk:DK K CL H3 A C a la q)(r:Cr K CL Ab H3 A H4 v d):Cr K CL Ab H A H4 v d:=⟨r.1,λ_ es ee=>by
 obtain⟨l,ys,e1,e2,e3,e4⟩:=r.2 rfl es ee;obtain⟨dx,v1,v2,v3,xs,h1,h2,_⟩:=dk;refine⟨l,ys,e1,?_,e3,e4⟩;cases eh:H l with
 |none=>rfl
 |some o=>
  rw[kb l o eh (λz=>by rw[z,h1]at e2;cases e2) λz=>by rw[z,h2]at e2;cases e2]at e2
  cases e2⟩
theorem ϴ{u u3:Ao V}(r1:Z7 K CL H A y1 d1)(r2:Z7 K CL H A y2 d2):Y9 K CL A [Af,Aa (d1,Ae),Aa (d2,Ae),Af] [u,Aa y1,Aa y2,u3] H:=(HG (K:=K) (CL:=CL) (A:=A) (H:=H) (U:=[Af,Aa (d1,Ae),Aa (d2,Ae),Af]) (Y:=[u,Aa y1,Aa y2,u3]) ⟨⟨rfl,y1,rfl,r1⟩,⟨rfl,y2,rfl,r2⟩,trivial⟩).1
theorem gd4{u u1 u2:Ao V}{y:V}{d:D}(r:Z7 K CL H A y d):Y9 K CL A [Af,Af,Af,Aa (d,Ae)] [u,u1,u2,Aa y] H:=(HG (K:=K) (CL:=CL) (A:=A) (H:=H) (U:=[Af,Af,Af,Aa (d,Ae)]) (Y:=[u,u1,u2,Aa y]) ⟨⟨rfl,y,rfl,r⟩,trivial⟩).1
section
variable{P:AK}{w:AH}{K:Fg}{mg:Ah->Ao Al}{base:AI}{CL:ClA}{fns:Ac (Ah×Ag×Ag)}{bl:Ac Ah}{rzs exs gls:Ac (Ah×Ag)}{Pg:Prg}{fuel n:Ag}{C:Ak}
theorem pT(t:wl K mg CL fns bl rzs exs gls Pg fuel){st:AL}{c2 er:Aq}{s3:Ac AL}{f g:Ak}{gd:Bj}{ip it:Ag}(dc:ub K C)(hf:yx K x qual st f fd)(hs:ri ["self", "word", "form"] ["self", "word", "form", "points"] st=Ab)(hb:Dh st=[.If c1 [.Assign [.Name "points" p1] (.Call (.Name "put_in" p2) [.Attribute (.Name "self" p3) "points" p4,.Name "form" p5] [] p6) p7] [.If c2 [.Assign [.Name "points" p8] (.Call (.Name "taken_out" p9) [.Attribute (.Name "self" p10) "points" wp,.Name "form" vw] [] ui) tm] s3 tz] t4,.Expr (.Call (.Attribute (.Name "self" uw) "changed" t5) [.Name "points" oq,.Attribute (.Name "self" mz) "curve" m6] [] km) bw,.Return (Aa er) iv])(hm1:((("put_in" : Ah),ip,2):Ah×Ag×Ag)∈fns)(qr:((("taken_out" : Ah),it,2):Ah×Ag×Ag)∈fns)(qm:(zc ⟨AG st,["self", "word", "form", "points"],fns,bl,rzs,exs,gls,Ab⟩ "put_in" && zc ⟨AG st,["self", "word", "form", "points"],fns,bl,rzs,exs,gls,Ab⟩ "taken_out")=Ab)(hl:(t5.endLine==km.line)=Ab)(w9:(Pg.defs ip).fr=Ab/\(Pg.defs it).fr=Ab)(cc1:Eb fuel ⟨AG st,["self", "word", "form", "points"],fns,bl,rzs,exs,gls,Ab⟩ c1 (.cmp .Eq (.v 1) (.str "put"))=Ab)(cc2:Eb fuel ⟨AG st,["self", "word", "form", "points"],fns,bl,rzs,exs,gls,Ab⟩ c2 (.cmp .Eq (.v 1) (.str "take"))=Ab)(cr:Be fuel ⟨AG st,["self", "word", "form", "points"],fns,bl,rzs,exs,gls,Ab⟩ er (.L (.cons (.bi .str (.cons (.bi .len (.cons (.v 3) .nil)) .nil)) .nil))=Ab)(me:yz K C "changed" g)(hbg:CW K gd ["self", "points", "curve"] [])(G:Y4 P w K mg base (CXR P w) n g gd ["self", "points", "curve"] (wq K CL C 2 Pe)):
    Y4 P w K mg base (CXR P w) (n+1) f fd ["self", "word", "form"] (wq K CL C 2 (Nx (Z6 Pg n) ip it)):=by
  obtain⟨oc,od,dV,kV,doc,pm,an,cdv,ct,osl,rfl,lk,zo⟩:=hf.ex;have sc:=JG hs;refine Hq lk zo sc.fs (λ_ _ _ _ h=>MY h) λA outer s H vs Q E hr h=>Na h λa la us ds B q e U8 hA ha zh rs dk hp=>?_
  subst e;rw[hb];have v:=Lw (P:=P) (w:=w) (base:=base) (outer:=outer) (H:=H) (E:=E) t sc hr;obtain⟨jw,wv⟩:=A9 qm;have U9:∀ p,PE (B0 (CXR P w) P w K mg base ["self", "word", "form", "points"] qual (AG st) f cdv A outer s H E) (.Name "self" p) (Ch 0):=λp=>Dw rfl (.inl (sc.loc "self" (by simp)))
  have ux:∀ p,PE (B0 (CXR P w) P w K mg base ["self", "word", "form", "points"] qual (AG st) f cdv A outer s H E) (.Name "form" p) (Ch 2):=λp=>Dw rfl (.inl (sc.loc "form" (by simp)))
  have ppts:∀ p,PE (B0 (CXR P w) P w K mg base ["self", "word", "form", "points"] qual (AG st) f cdv A outer s H E) (.Name "points" p) (Ch 3):=λp=>Dw rfl (.inl (sc.loc "points" (by simp)))
  have c1':=(ze fuel).b _ _ _ c1 _ v cc1 B;have c2':=(ze fuel).b _ _ _ c2 _ v cc2 B;have r':=((ze fuel).e _ _ _ er _ v cr).nw rfl B;refine⟨_,B9 (FP c1' (DT (EH (i:=3) sc.fs.nd rfl (.inl (sc.loc "points" (by simp))) (Oy v hm1 (by decide) rfl jw (Bw (Nj dc U9) (Bw (ux p5) Cf rfl) rfl)) rfl (.inl rfl)))
    (DT (FP c2' (DT (EH (i:=3) sc.fs.nd rfl (.inl (sc.loc "points" (by simp))) (Oy v qr (by decide) rfl wv (Bw (Nj dc U9) (Bw (ux vw) Cf rfl) rfl)) rfl (.inl rfl))) Jw)))
    (B9 (Kf (Rs (U9 uw) dc.cl me G v.room hbg (v.px A0) (Bw (ppts oq) (Bw (Wq dc U9) Cf rfl) rfl) hl) rfl) (DT (Hl r'))),?_⟩
  obtain⟨dx,v1,v2,v3,xs,h1,h2,r4,r5,r6,r7⟩:=dk;obtain⟨u1,d1,u2,d2,rfl,rfl,rh,ua⟩:=Ua U8 rs;cases d1 with
  |str z=>
    have fin:∀(l:Ac D)(y:V)(H2:Hp),Az H H2->Cr K CL Ab H B H2 y (.L l)->q.ps.length<900/\l.length<900->(∀ v H',KB a la H H'->Cr K CL Ab H B H' v (.L [.str (toString (l.length:Ai))])->DK K CL H' (AV B v) C a la (G8 q l q.c)->Q v H')->(RT (Rc (Li C "changed" (wq K CL C 2 Pe) [] (EKW K CL A0 (WE K CL E)) (Ch 0) (Lj (Ch 3) (Lj (λY H Q=>∃ a dx v1 v2 v3 la,Y[0]?=Aa (Aa (V.ref a))/\H a=Aa (HO.ins C dx (yj v1 v2 v3 la))/\Q v3 H) Ms)))) (RU λY H Q=>Ty H B/\∃ U,Y9 K CL B U Y H/\AX (Cr K CL Ab H B) (WE K CL E) H (evE (Z6 Pg n) U (.L (.cons (.bi .str (.cons (.bi .len (.cons (.v 3) .nil)) .nil)) .nil))) Q)) {nx:=λ_ H'=>Q .O H',rt:=Q} [Aa (.ref a),Aa u1,Aa u2,Aa y] H2:=λl y H2 sm ry hz hq=>by
      refine⟨.ref a,rfl,a,dx,_,rfl,sm _ _ h1,rfl,y,rfl,a,dx,v1,v2,v3,la,rfl,sm _ _ h1,Lk (ds:=[.L l,q.c]) rfl (hA.same sm) ha zh ⟨ry.1,r6.same sm,trivial⟩ (DK.same ⟨dx,v1,v2,v3,xs,h1,h2,r4,r5,r6,r7⟩ sm) ?_⟩;show ue (if q.ps.length<900 then RK.ok .O (G8 q l q.c) else .bad) _ _
      rw[Au hz.1];intro v' H3 kb _ é;have é:=é.un;have hA3:Ty H3 B:=é.aok kb (hA.same sm);refine⟨hA3,[Af,Af,Af,Aa (.L l,Ae)],gd4 (Z7.kp (kb.kp ha zh) _ ry.1),?_⟩;have ev:=sD (Z:=Z6 Pg n) (U:=[Af,Af,Af,Aa (.L l,Ae)]) (i:=3) rfl hz.2;rw[ev];intro v4 H4 s4 r4';obtain⟨l4,ys4,f1,f2,_,_⟩:=r4'.2 rfl _ rfl;subst f1;exact hq _ H4 (((KB.of sm).trans kb).trans (KB.of s4)) (jN ((KB.of sm).trans kb) é r4') ((é.new f2).same s4)
    have call:∀(id:Ag)(H1:Hp),Az H H1->(Pg.defs id).fr=Ab->(∀ l,(Z6 Pg n).F id [.L q.l,d2]=.ok (.L l)->q.ps.length<900/\l.length<900/\∀ v H',KB a la H H'->Cr K CL Ab H B H' v (.L [.str (toString (l.length:Ai))])->DK K CL H' (AV B v) C a la (G8 q l q.c)->Q v H')->(∀ y,(Z6 Pg n).F id [.L q.l,d2]=.exn y->∀ cls dx H',Az H H'->Dr K CL H' cls dx y->E cls dx H')->(∀ d,(Z6 Pg n).F id [.L q.l,d2]=.ok d->∃ l,d=.L l)->(Z6 Pg n).F id [.L q.l,d2]≠.bad ->
        spD K CL 2 ((Z6 Pg n).fr id) ((Z6 Pg n).F id) ([v2,u2]++[]) H1 (λy H2=>(RT (Rc (Li C "changed" (wq K CL C 2 Pe) [] (EKW K CL A0 (WE K CL E)) (Ch 0) (Lj (Ch 3) (Lj (λY H Q=>∃ a dx v1 v2 v3 la,Y[0]?=Aa (Aa (V.ref a))/\H a=Aa (HO.ins C dx (yj v1 v2 v3 la))/\Q v3 H) Ms)))) (RU λY H Q=>Ty H B/\∃ U,Y9 K CL B U Y H/\AX (Cr K CL Ab H B) (WE K CL E) H (evE (Z6 Pg n) U (.L (.cons (.bi .str (.cons (.bi .len (.cons (.v 3) .nil)) .nil)) .nil))) Q)) {nx:=λ_ H'=>Q .O H',rt:=Q} [Aa (.ref a),Aa u1,Aa u2,Aa y] H2) (EKW K CL A0 (WE K CL E)):=λid H1 sm w9 o1 o2 o3 o4=>by
      refine⟨[.L q.l,d2],B,rfl,hA.same sm,⟨r5.same sm,ua.same sm,trivial⟩,?_⟩;cases e:(Z6 Pg n).F id [.L q.l,d2] with
      |bad=>exact absurd e o4
      |exn y=>exact λcls dx H2 s2 xr=>⟨y,xr,λcls dx xr=>o2 y e cls dx H2 (sm.trans s2) xr⟩
      |ok d=>
        obtain⟨l,rfl⟩:=o3 d e;obtain⟨z1,z2,z3⟩:=o1 l e;intro y H2 s2 ry;rw[Op,w9]at ry;exact fin l y H2 (sm.trans s2) (Qd sm ry) ⟨z1,z2⟩ z3
    have hq:ue (match (if z = "put" then (Z6 Pg n).F ip [.L q.l,d2] else if z = "take" then (Z6 Pg n).F it [.L q.l,d2] else .bad) with
      |.ok (.L l)=>if q.ps.length<900/\l.length<900 then .ok (.L [.str (toString (l.length:Ai))]) (G8 q l q.c) else .bad
      |.exn x=>.exn x
      | _=>.bad) _ _:=hp
    have each:∀ r:R D,ue (match r with
      |.ok (.L l)=>if q.ps.length<900/\l.length<900 then RK.ok (.L [.str (toString (l.length:Ai))]) (G8 q l q.c) else .bad
      |.exn x=>.exn x
      | _=>.bad) (λd q'=>∀ v H',KB a la H H'->Cr K CL Ab H B H' v d->DK K CL H' (AV B v) C a la q'->Q v H') (λx=>∀ cls dx H',Az H H'->Dr K CL H' cls dx x->E cls dx H')->(∀ l,r=.ok (.L l)->q.ps.length<900/\l.length<900/\∀ v H',KB a la H H'->Cr K CL Ab H B H' v (.L [.str (toString (l.length:Ai))])->DK K CL H' (AV B v) C a la (G8 q l q.c)->Q v H')/\(∀ y,r=.exn y->∀ cls dx H',Az H H'->Dr K CL H' cls dx y->E cls dx H')/\(∀ d,r=.ok d->∃ l,d=.L l)/\r≠.bad:=λr h=>by
      cases r with
      |bad=>exact h.elim
      |exn y=>exact⟨λl e=>(nomatch e),λy' e=>(by cases e;exact h),λd e=>(nomatch e),λe=>nomatch e⟩
      |ok d=>
        cases d with
        |L l=>
          have h:ue (if q.ps.length<900/\l.length<900 then RK.ok (.L [.str (toString (l.length:Ai))]) (G8 q l q.c) else .bad) _ _:=h
          by_cases hz:q.ps.length<900/\l.length<900
          · rw[Au hz]at h;exact⟨λl e=>(by cases e;exact⟨hz.1,hz.2,h⟩),λy' e=>(nomatch e),λd e=>(by cases e;exact⟨l,rfl⟩),λe=>nomatch e⟩
          · rw[Ay hz]at h;exact h.elim
        |_=>exact h.elim
    have Û:∀ s:Ah,((top [Af,Aa (D.str z,Ae),Aa (d2,Ae),Af] (.cmp .Eq (.v 1) (.str s)) (evE (Z6 Pg n) [Af,Aa (D.str z,Ae),Aa (d2,Ae),Af] (.cmp .Eq (.v 1) (.str s)))).bind Bq)=.ok (decide (z=s)):=λs=>by
      show R.ok (z==s)=_
      congr 1
    refine⟨hA,[Af,Aa (.str z,Ae),Aa (d2,Ae),Af],ϴ rh ua,?_⟩;dsimp only;rw[Û "put"];intro H1 sm;by_cases z1:z = "put"
    · rw[Au z1]at hq;obtain⟨o1,o2,o3,o4⟩:=each _ hq;rw[Au (CG z1)];exact⟨a,dx,v1,v2,v3,la,rfl,sm _ _ h1,u2,rfl,call ip H1 sm w9.1 o1 o2 o3 o4⟩
    · rw[Ay z1]at hq;rw[Ay (by rw[BH z1];exact Ax)]
      refine⟨hA.same sm,[Af,Aa (.str z,Ae),Aa (d2,Ae),Af],ϴ (rh.same sm) (ua.same sm),?_⟩;rw[Û "take"];intro H2 yv;by_cases z2:z = "take"
      · rw[Au z2]at hq;obtain⟨o1,o2,o3,o4⟩:=each _ hq;rw[Au (CG z2)];exact⟨a,dx,v1,v2,v3,la,rfl,yv _ _ (sm _ _ h1),u2,rfl,call it H2 (sm.trans yv) w9.2 o1 o2 o3 o4⟩
      · rw[Ay z2]at hq;exact hq.elim
  |_=>exact hp.elim
end
def Mm(P:AK)(w:AH)(K:Fg)(a:Ak)(cnt:Ac (Ah×Ai)):Prop:=(a==GV)=Ae/\∃(o:CZ)(es:Bl MB)(ep:Ag)(kvs:Ac (Ah×Al)),K.lookup a=Aa o/\o.ExactDict/\o.data=.dict es ep/\KeysOf (Fe P w) es/\Pairs (Fe P w) es.toList kvs/\(kvs.map (·.1)).Nodup/\∀ z,(FZ kvs z=Af/\cnt.lookup z=Af)\/∃ i t,FZ kvs z=Aa (.int i t)/\cnt.lookup z=Aa i
section
variable{X:Cx}{a:Ak}{cnt:Ac (Ah×Ai)}
theorem U_4(c:Mm X.prog X.w X.K a cnt){s:Ar}(I:Z8 X pI Y H s):∃ kvs,s.heap.MapOf (Fe X.prog X.w) a (FZ kvs)/\s.TypeIs (.ref a) "dict"/\∀ z,(FZ kvs z=Af/\cnt.lookup z=Af)\/∃ i t,FZ kvs z=Aa (.int i t)/\cnt.lookup z=Aa i:=by
 obtain⟨_,o,es,ep,kvs,h1,h2,h3,h4,h5,h6,h7⟩:=c;have ho:=I.kIn _ _ h1;exact⟨kvs,Heap.DictOf.mapOf ⟨o,es,ep,ho,h2,h3,h4,h5,h6⟩,⟨o,ho,h2.1⟩,h7⟩
theorem qD(c:Mm X.prog X.w X.K a cnt):yu X (CO .NotIn) (λx y H Q=>∃ z,x=.str z/\y=.ref a/\Q (.bl (!(cnt.lookup z).isSome)) H):=by
 intro pI s Y H x y v u Q I rx ry ⟨z,e1,e2,q⟩;subst e1 e2;obtain⟨t,rfl⟩:=rx;cases ry;obtain⟨kvs,m,ty,hz⟩:=U_4 c I;refine wpAny_notIn_of (knd:=Fe X.prog X.w) (k:=z) (by show (z==z)=Ab;exact Cv _) c.1 m ?_
 have e:(FZ kvs z).isSome=(cnt.lookup z).isSome:=by
  rcases hz z with ⟨h1,h2⟩|⟨i,t,h1,h2⟩<;>rw[h1,h2]<;>rfl
 rw[e];exact⟨.bl _,H,I.tok _,rfl,q⟩
theorem sV(c:Mm X.prog X.w X.K a cnt):o5 X (λx y H Q=>∃ z i,x=.ref a/\y=.str z/\cnt.lookup z=Aa i/\Q (.int i) H):=by
 intro value slice pI s Y H x y v u Q I rx ry ⟨z,i,e1,e2,e3,q⟩ hs;subst e1 e2;obtain⟨t,rfl⟩:=ry;cases rx;obtain⟨kvs,m,ty,hz⟩:=U_4 c I;rcases hz z with ⟨h1,h2⟩|⟨j,t',h1,h2⟩
 .rw[e3]at h2;cases h2
 .rw[e3]at h2;cases h2;exact Ge ty slot_dict_getitem.lookup (wpAny_getItem_of (knd:=Fe X.prog X.w) (k:=z) (Q:=λr s'=>r=GE i t'/\EP X pI Y Q r s') (by show (z==z)=Ab;exact Cv _) m h1 ⟨rfl,.int i,H,I.tok _,⟨_,rfl⟩,q⟩) hs
end
noncomputable def Lv(Z:Z4)(ir:Ag)(cnt:Ac (Ah×Ai)):Ac D->R D
  | [p,.L (.str w::ws)]=>(match Z.F ir [p,.L ws] with
    |.ok .O=>.exn ⟨12,[]⟩
    | .ok (.L rs)=>(match cnt.lookup w with
      |none=>.exn ⟨12,[]⟩
      | some k=>if (rs.length:Ai)=k then .ok (.L rs) else .exn ⟨12,[]⟩)
    |.exn y=>.exn y
    | _=>.bad)
  |_=>.bad
theorem jM(Z:Z4)(ir:Ag)(cnt:Ac (Ah×Ai))(d1 d2:D):Lv Z ir cnt [d1,d2]=.bad\/∃ w ws,d2=.L (.str w::ws):=by
 cases d2 with
 |L xs=>
  cases xs with
  |nil=>exact .inl rfl
  |cons x ws=>
   cases x with
   |str w=>exact .inr ⟨w,ws,rfl⟩
   |_=>exact .inl rfl
 |_=>exact .inl rfl
theorem gd5{u:Ao V}(r1:Z7 K CL H A y1 d1)(r2:Z7 K CL H A y2 d2):Y9 K CL A [Aa (d1,Ae),Aa (d2,Ae),Af] [Aa y1,Aa y2,u] H:=(HG (K:=K) (CL:=CL) (A:=A) (H:=H) (U:=[Aa (d1,Ae),Aa (d2,Ae),Af]) (Y:=[Aa y1,Aa y2,u]) ⟨⟨rfl,y1,rfl,r1⟩,⟨rfl,y2,rfl,r2⟩,trivial⟩).1
theorem î{y3:V}{d3:D}(r1:Z7 K CL H A y1 d1)(r2:Z7 K CL H A y2 d2)(r3:Z7 K CL H A y3 d3):Y9 K CL A [Aa (d1,Ae),Aa (d2,Ae),Aa (d3,Ae)] [Aa y1,Aa y2,Aa y3] H:=(HG (K:=K) (CL:=CL) (A:=A) (H:=H) (U:=[Aa (d1,Ae),Aa (d2,Ae),Aa (d3,Ae)]) (Y:=[Aa y1,Aa y2,Aa y3]) ⟨⟨rfl,y1,rfl,r1⟩,⟨rfl,y2,rfl,r2⟩,⟨rfl,y3,rfl,r3⟩,trivial⟩).1
theorem RJ{i:Ag}{x:D}{ws:Ac D}(h:U[i]?=Aa (Aa (.L (x::ws),Ae))):evE Z U (.x (.v i) (.int 0))=.ok x:=by
 have e2:CS U i=.ok (.L (x::ws)):=by unfold CS;rw[h]
 have e3:G7 (.L (x::ws)) (.int 0)=.ok x:=by
  show DU (x::ws) 0=.ok x;unfold DU pj;simp
 rw[N5,Ip,e2];exact e3
theorem yY(x:D)(ws:Ac D):JK (x::ws) (Aa 1) Af=ws:=by
 unfold JK;simp[Ja]
section
variable{P:AK}{w:AH}{K:Fg}{mg:Ah->Ao Al}{base:AI}{CL:ClA}{fns:Ac (Ah×Ag×Ag)}{bl:Ac Ah}{rzs exs gls:Ac (Ah×Ag)}{Pg:Prg}{fuel n:Ag}
theorem qU(t:wl K mg CL fns bl rzs exs gls Pg fuel){st sr:AL}{el ew ϲ:Aq}{f aC:Ak}{ir:Ag}{cnt:Ac (Ah×Ai)}(hc:Mm P w K aC cnt)(ka:mg "COUNTS" = Aa (.ref aC))(hf:yx K x qual st f fd)(hs:ri ["p", "words"] ["p", "words", "rests"] st=Ab)(hb:Dh st=[.Assign [.Name "rests" p1] e1 p2,.If (.BoolOp .Or [c1,.Compare ew [.NotIn] [.Name "COUNTS" p3] p4,.Compare el [.NotEq] [.Subscript (.Name "COUNTS" p5) ϲ p6] p7] p8) [sr] [] p9,.Return (Aa (.Name "rests" p10)) wp])(qm:zc ⟨AG st,["p", "words", "rests"],fns,bl,rzs,exs,gls,Ab⟩ "COUNTS" = Ab)(k1:Be fuel ⟨AG st,["p", "words", "rests"],fns,bl,rzs,exs,gls,Ab⟩ e1 (.call ir (.cons (.v 0) (.cons (.sl (.v 1) (.int 1) .O) .nil)))=Ab)(nc:F8 e1=Ab)(k2:Eb fuel ⟨AG st,["p", "words", "rests"],fns,bl,rzs,exs,gls,Ab⟩ c1 (.cmp .Is (.v 2) .O)=Ab)(k3:Be fuel ⟨AG st,["p", "words", "rests"],fns,bl,rzs,exs,gls,Ab⟩ ew (.x (.v 1) (.int 0))=Ab)(k3':Be fuel ⟨AG st,["p", "words", "rests"],fns,bl,rzs,exs,gls,Ab⟩ ϲ (.x (.v 1) (.int 0))=Ab)(hpx:Oc ϲ)(k4:Be fuel ⟨AG st,["p", "words", "rests"],fns,bl,rzs,exs,gls,Ab⟩ el (.bi .len (.cons (.v 2) .nil))=Ab)(k5:Jd fuel ⟨AG st,["p", "words", "rests"],fns,bl,rzs,exs,gls,Ab⟩ sr (.rais 12 (.cons (.str txt) .nil))=Ab)(pf:Pg.xn 12 [.str txt]=.ok ⟨12,[]⟩):
    Y4 P w K mg base (CXR P w) (n+1) f fd ["p", "words"] (spD K CL 2 Ae (Lv (Z6 Pg n) ir cnt)):=by
  obtain⟨oc,od,dV,kV,doc,pm,an,cdv,ct,osl,rfl,lk,zo⟩:=hf.ex;have sc:=JG hs;refine Hq lk zo sc.fs (λvs H Q E ⟨ds,A,z,_⟩=>z) λA outer s H vs Q E hr ⟨ds,B,U8,hA,rs,hp⟩=>?_
  rw[hb];have v:=Lw (P:=P) (w:=w) (base:=base) (outer:=outer) (H:=H) (E:=E) t sc hr;have hg:Gl (B0 (CXR P w) P w K mg base ["p", "words", "rests"] qual (AG st) f cdv A outer s H E) "COUNTS" := AF.mp qm;have E1:=((ze fuel).e _ _ _ e1 _ v k1).se B;have C1:=(ze fuel).b _ _ _ c1 _ v k2 B;have EW:=((ze fuel).e _ _ _ ew _ v k3).se B;have EW':=((ze fuel).e _ _ _ ϲ _ v k3').se B;have EL:=((ze fuel).e _ _ _ el _ v k4).st B;have SR:=(IZ fuel).s _ _ _ sr _ v ⟨λ_=>rfl,rfl,rfl,rfl⟩ k5 ⟨λb o=>H b=Aa o,λ_ _ _=>AN⟩ B
  have cn:∀ p,PE (B0 (CXR P w) P w K mg base ["p", "words", "rests"] qual (AG st) f cdv A outer s H E) (.Name "COUNTS" p) (tC (.ref aC)):=λp=>M1 hg ka rfl
  refine⟨_,B9 (EH (i:=2) sc.fs.nd rfl (.inl (sc.loc "rests" (by simp))) E1 (HK nc) (.inl rfl)) (B9 (FP (PW.pt (Q9 C1 (Q9 (L7 (qD (X:=B0 (CXR P w) P w K mg base ["p", "words", "rests"] qual (AG st) f cdv A outer s H E) hc) EW (cn p3) rfl) (V3 (L7 (IM (W:=WE K CL E) (CL:=CL) v.room.units .NotEq B) EL (Rt (sV (X:=B0 (CXR P w) P w K mg base ["p", "words", "rests"] qual (AG st) f cdv A outer s H E) hc) (cn p5) EW' hpx) rfl))))) (DT SR) GZ) (DT (Hl (Dw (i:=2) rfl (.inl (sc.loc "rests" (by simp))))))),?_⟩
  obtain⟨u1,d1,u2,d2,rfl,rfl,rh,ua⟩:=Ua U8 rs;rcases jM (Z6 Pg n) ir cnt d1 d2 with hz|⟨z,ws,rfl⟩
  · rw[hz]at hp;exact hp.elim
  have hp:(match (match (Z6 Pg n).F ir [d1,.L ws] with
      |.ok .O=>R.exn ⟨12,[]⟩
      | .ok (.L rs)=>(match cnt.lookup z with
        |none=>.exn ⟨12,[]⟩
        | some k=>if (rs.length:Ai)=k then .ok (D.L rs) else .exn ⟨12,[]⟩)
      |.exn y=>.exn y
      | _=>.bad) with
    |.ok d=>∀ v H',Az H H'->Cr K CL Ae H B H' v d->Q v H'
    |.exn x=>∀ cls dx H',Az H H'->Dr K CL H' cls dx x->E cls dx H'
    | .bad=>AN):=hp
  refine⟨hA,[Aa (d1,Ae),Aa (.L (.str z::ws),Ae),Af],gd5 rh ua,?_⟩;have ϱ:evE (Z6 Pg n) [Aa (d1,Ae),Aa (.L (.str z::ws),Ae),Af] (.call ir (.cons (.v 0) (.cons (.sl (.v 1) (.int 1) .O) .nil)))=(Z6 Pg n).F ir [d1,.L ws]:=by
    show ((Z6 Pg n).F ir [d1,D.L (JK (D.str z::ws) (Aa 1) Af)]).bind _=_;rw[yY];cases (Z6 Pg n).F ir [d1,D.L ws]<;>rfl
  show AX _ _ _ (evE (Z6 Pg n) [Aa (d1,Ae),Aa (.L (.str z::ws),Ae),Af] (.call ir (.cons (.v 0) (.cons (.sl (.v 1) (.int 1) .O) .nil)))) _;rw[ϱ];have rais:∀(y:V)(H1:Hp)(D':xk),Az H H1->(∀ cls dx H',Az H H'->Dr K CL H' cls dx ⟨12,[]⟩->E cls dx H')->∃ U,Sx K CL ⟨λb o=>H b=Aa o,λ_ _ _=>AN⟩ B U [Aa u1,Aa u2,Aa y] H1/\B2 K CL ⟨λb o=>H b=Aa o,λ_ _ _=>AN⟩ B (WE K CL E) (yt (Z6 Pg n) U (.rais 12 (.cons (.str txt) .nil))) D':=λy H1 D' sm hx=>by
    have g:=HG (K:=K) (CL:=CL) (A:=B) (H:=H1) (U:=[Af,Af,Af]) (Y:=[Aa u1,Aa u2,Aa y]) trivial;refine⟨[Af,Af,Af],Sx.mono (Fy:=⟨λb o=>H1 b=Aa o,λ_ _ _=>AN⟩) (λb o z=>sm b o z) (λ_ _ _ z=>z) (OJ (hA.same sm) g.1 g.2),?_⟩
    have e2:xz (Z6 Pg n) [Af,Af,Af] (.cons (.str txt) .nil)=.ok [.str txt]:=rfl;rw[Ut,e2];show B2 K CL _ B (WE K CL E) (O.of _ ((Z6 Pg n).xn 12 [.str txt]) λx=>.exn x _) _
    rw[Lf,pf];exact λH2 s2 cls dx xr=>hx cls dx H2 (λb o z=>s2 b o z) xr
  cases eF:(Z6 Pg n).F ir [d1,.L ws] with
  |bad=>rw[eF]at hp;exact hp.elim
  |exn y=>rw[eF]at hp;exact λH1 sm cls dx xr=>hp cls dx H1 sm xr
  |ok d3=>
    rw[eF]at hp;intro y H1 sm ry;cases d3 with
    |O=>
      refine⟨hA.same sm,_,î (rh.same sm) (ua.same sm) ry,?_⟩;show CQ _ _ (R.ok Ab) _;intro H2 yv;dsimp only;rw[Au rfl,Au rfl];exact rais y H2 _ (sm.trans yv) hp
    |L u9=>
      refine⟨hA.same sm,_,î (rh.same sm) (ua.same sm) ry,?_⟩;show CQ _ _ (R.ok Ae) _;intro H2 yv;dsimp only;rw[Ay Ax];have Õ:=sm.trans yv;refine⟨hA.same Õ,_,î (rh.same Õ) (ua.same Õ) (ry.same yv),?_⟩;rw[RJ (x:=.str z) (ws:=ws) rfl];intro yw H3 vx ryw;have eyw:yw=.str z:=ryw;subst eyw;refine⟨z,rfl,rfl,_,rfl,?_⟩;have rk:=Õ.trans vx;cases ec:cnt.lookup z with
      |none=>
        rw[ec]at hp;dsimp only[YH];rw[Au (by rfl),Au rfl]
        exact rais y H3 _ rk hp
      |some k=>
        rw[ec]at hp;dsimp only[YH];rw[Ay (by decide)]
        refine⟨hA.same rk,_,î (rh.same rk) (ua.same rk) (ry.same (yv.trans vx)),?_⟩;show AX _ _ _ (R.ok (.int u9.length)) _;intro yl H4 vy ryl;have oy:=rk.trans vy;refine⟨hA.same oy,_,î (rh.same oy) (ua.same oy) (ry.same ((yv.trans vx).trans vy)),?_⟩;rw[RJ (x:=.str z) (ws:=ws) rfl];intro yw2 H5 uk ryw2;have eyw2:yw2=.str z:=ryw2;subst eyw2;have cx:=oy.trans uk;refine⟨z,k,rfl,rfl,ec,hA.same cx,.int u9.length,.int k,ryl.same uk,.inl rfl,?_⟩;show AX _ _ _ (R.ok (.bl (!((u9.length:Ai)==k)))) _;intro yb H6 kv ryb;refine⟨_,ryb,?_⟩;have cy:=cx.trans kv;dsimp only;by_cases hk:(u9.length:Ai)=k
        · dsimp only at hp;rw[Au hk]at hp;rw[Ay (by rw[hk];simp)]
          exact⟨y,rfl,hp y H6 cy ⟨ry.same ((((yv.trans vx).trans vy).trans uk).trans kv),λz=>nomatch z⟩⟩
        · dsimp only at hp;rw[Ay hk]at hp;rw[Au (by simp[hk])]
          exact rais y H6 _ cy hp
    |_=>exact hp.elim
end
noncomputable def mj(ls:Ac Ah)(w:Ah):Am:=ls.any (· == w)
noncomputable def O4(la lm ll:Ac Ah)(Gl Gu Ga:Dk->Ac D->RK)(q:Dk)(w:Ah)(fm:D):RK:=if mj la w=Ab then .bad else if mj lm w=Ab then .bad else if mj ll w=Ab then Gl q [.str w,fm] else if w = "undo" then Gu q [] else Ga q [.str w]
noncomputable def Ht(la lm ll:Ac Ah)(cs:Ah->R D)(FR FT:Ac D->R D)(Gl Gu Ga:Dk->Ac D->RK)(q:Dk):Ac D->RK
  | [.str r]=>(match cs r with
    | .ok (.L (.str w::ws))=>(match FR [q.p,.L (.str w::ws)] with
      | .ok rs=>(match FT [q.p,rs] with
        |.ok fm=>O4 la lm ll Gl Gu Ga q w fm
        |.exn y=>.exn y
        | .bad=>.bad)
      |.exn y=>.exn y
      | .bad=>.bad)
    | _=>.bad)
  |_=>.bad
theorem jE{la lm ll:Ac Ah}{cs:Ah->R D}{FT:Ac D->R D}{Gl Gu Ga:Dk->Ac D->RK}{d:D}:Ht la lm ll cs FR FT Gl Gu Ga q [d]=.bad\/∃ r w ws,d=.str r/\cs r=.ok (.L (.str w::ws))/\Ht la lm ll cs FR FT Gl Gu Ga q [d]=(match FR [q.p,.L (.str w::ws)] with
      | .ok rs=>(match FT [q.p,rs] with
        |.ok fm=>O4 la lm ll Gl Gu Ga q w fm
        |.exn y=>.exn y
        | .bad=>.bad)
      |.exn y=>.exn y
      | .bad=>.bad):=by
  cases d with
  |str r=>
    cases e:cs r with
    |ok d=>
      have no:(∀ w ws,d≠.L (.str w::ws))->Ht la lm ll cs FR FT Gl Gu Ga q [.str r]=.bad:=λh=>by
        unfold Ht;simp only[e];split
        · rename_i w ws z;exact absurd (by injection z) (h w ws)
        · rfl
      by_cases h:∃ w ws,d=.L (.str w::ws)
      · obtain⟨w,ws,rfl⟩:=h;exact .inr ⟨r,w,ws,rfl,e,by unfold Ht;simp only[e]⟩
      · exact .inl (no λw ws z=>h ⟨w,ws,z⟩)
    |exn y=>exact .inl (by unfold Ht;simp only[e])
    |bad=>exact .inl (by unfold Ht;simp only[e])
  |_=>exact .inl rfl
theorem OT{g i:Ag}{ls:Ac Ah}{w:Ah}(hG:Z.G g=.H (ls.map .str))(hi:U[i]?=Aa (Aa (.str w,Ae))):(top U (.cmp .In (.v i) (.glob g)) (evE Z U (.cmp .In (.v i) (.glob g)))).bind Bq=.ok (mj ls w):=by
 have e2:CS U i=.ok (.str w):=by unfold CS;rw[hi]
 have e3:BP .In (.str w) (.H (ls.map .str))=.ok (.bl (mj ls w)):=by
  show (if (Y8 5 (.str w)&&(ls.map D.str).all (Y8 5))=Ab then R.ok (D.bl ((ls.map D.str).any λy=>Tm y (.str w))) else .bad)=_
  rw[Au (by rw[An];exact⟨rfl,by rw[EC,Bh];intro _ _;rfl⟩),Ye]
  rfl
 rw[N7,KA,Ip,e2,R.bind_ok];show ((R.ok (Z.G g)).bind λy=>BP .In (.str w) y).bind Bq=_
 rw[hG,R.bind_ok,e3];rfl
theorem Lb{r:R D}{d:D}{Q:VK}(e:r=.ok d)(h:∀ v H',Az H H'->Rp H' v d->Q v H'):AX Rp W H r Q:=by rw[e];exact h
theorem Il{r:R Am}{b:Am}{Q:Am->Hp->Prop}(e:r=.ok b)(h:∀ H',Az H H'->Q b H'):CQ W H r Q:=by rw[e];exact h
noncomputable def gk(K:Fg)(CL:ClA)(A:Ak->Prop)(H:Hp)(U:Rho)(Y:L2.St)(h:à K CL A H U Y):Y9 K CL A U Y H:=(HG h).1
section
variable{P:AK}{w:AH}{K:Fg}{mg:Ah->Ao Al}{base:AI}{CL:ClA}{fns:Ac (Ah×Ag×Ag)}{bl:Ac Ah}{rzs exs gls:Ac (Ah×Ag)}{Pg:Prg}{fuel n:Ag}{C:Ak}
theorem qR(t:wl K mg CL fns bl rzs exs gls Pg fuel){st:AL}{e2 c4' c5 c6 c7 c8:Aq}{b5 b6:Ac AL}{f fr fl fu fa:Ak}{frd fld fud fad:Bj}{bx bz kn iw ix Ë b7 b8 b9 Ì Í Î:AE}{tb:Ag}{cs:E}{ga gm gl:Ag}{la lm ll:Ac Ah}{Gl' Gu Ga:Dk->Ac D->RK}(dc:ub K C)(hf:yx K x qual st f fd)(hs:ri ["self", "row"] ["self", "row", "words", "word", "form"] st=Ab)(hb:Dh st=[.Assign [.Name "words" p1] e1 p2,.Assign [.Name "word" p3] e2 p4,.Assign [.Name "form" p5] (.Call (.Name "told_by" p6) [.Attribute (.Name "self" p7) "p" p8,.Call (.Name "rests_of_row" p9) [.Attribute (.Name "self" p10) "p" wp,.Name "words" vw] [] ui] [] tm) tz,.If (.BoolOp .And [c4,c4'] t4) b4 [] uw,.If c5 b5 [] t5,.If c6 b6 [] oq,.If c7 [.Return (Aa (.Call (.Attribute (.Name "self" mz) "list_changed" m6) [.Name "word" km,.Name "form" bw] [] iv)) bx] [] bz,.If c8 [.Return (Aa (.Call (.Attribute (.Name "self" kn) "undone" iw) [] [] ix)) Ë] [] b7,.Return (Aa (.Call (.Attribute (.Name "self" b8) "list_asked" b9) [.Name "word" Ì] [] Í)) Î])(hl:((m6.endLine==iv.line)&&((iw.endLine==ix.line)&&(b9.endLine==Í.line)))=Ab)(hm:((("told_by" : Ah),tb,2):Ah×Ag×Ag)∈fns)(qm:(zc ⟨AG st,["self", "row", "words", "word", "form"],fns,bl,rzs,exs,gls,Ab⟩ "told_by" && zc ⟨AG st,["self", "row", "words", "word", "form"],fns,bl,rzs,exs,gls,Ab⟩ "rests_of_row")=Ab)(k1:Be fuel ⟨AG st,["self", "row", "words", "word", "form"],fns,bl,rzs,exs,gls,Ab⟩ e1 cs=Ab)(k2:Be fuel ⟨AG st,["self", "row", "words", "word", "form"],fns,bl,rzs,exs,gls,Ab⟩ e2 (.x (.v 2) (.int 0))=Ab)(nc:(F8 e1&&F8 e2)=Ab)(k4:Eb fuel ⟨AG st,["self", "row", "words", "word", "form"],fns,bl,rzs,exs,gls,Ab⟩ c4 (.cmp .In (.v 3) (.glob ga))=Ab)(k5:Eb fuel ⟨AG st,["self", "row", "words", "word", "form"],fns,bl,rzs,exs,gls,Ab⟩ c5 (.cmp .In (.v 3) (.glob ga))=Ab)(k6:Eb fuel ⟨AG st,["self", "row", "words", "word", "form"],fns,bl,rzs,exs,gls,Ab⟩ c6 (.cmp .In (.v 3) (.glob gm))=Ab)(k7:Eb fuel ⟨AG st,["self", "row", "words", "word", "form"],fns,bl,rzs,exs,gls,Ab⟩ c7 (.cmp .In (.v 3) (.glob gl))=Ab)(k8:Eb fuel ⟨AG st,["self", "row", "words", "word", "form"],fns,bl,rzs,exs,gls,Ab⟩ c8 (.cmp .Eq (.v 3) (.str "undo"))=Ab)(ha':Pg.G ga=.H (la.map .str))(hm':Pg.G gm=.H (lm.map .str))(hl':Pg.G gl=.H (ll.map .str))(mr:mg "rests_of_row" = Aa (.ref fr))(kr:Ba K (.ref fr)=Ab)(br:CW K frd ["p", "words"] [])(FRok:Y4 P w K mg base (CXR P w) n fr frd ["p", "words"] (spD K CL 2 Ae FR))(ml:yz K C "list_changed" fl)(bll:CW K fld ["self", "word", "form"] [])(GL:Y4 P w K mg base (CXR P w) n fl fld ["self", "word", "form"] (wq K CL C 2 Gl'))(mu:yz K C "undone" fu)(blu:CW K fud ["self"] [])(GU:Y4 P w K mg base (CXR P w) n fu fud ["self"] (wq K CL C 0 Gu))(ma:yz K C "list_asked" fa)(bla:CW K fad ["self", "word"] [])(GA:Y4 P w K mg base (CXR P w) n fa fad ["self", "word"] (wq K CL C 1 Ga)):
  Y4 P w K mg base (CXR P w) (n+1) f fd ["self", "row"] (wq K CL C 1 (Ht la lm ll (λr=>evE (Z6 Pg n) [Af,Aa (.str r,Ae),Af,Af,Af] cs) FR ((Z6 Pg n).F tb) Gl' Gu Ga)):=by
 obtain⟨oc,od,dV,kV,doc,pm,an,cdv,ct,osl,rfl,lk,zo⟩:=hf.ex;have sc:=JG hs;refine Hq lk zo sc.fs (λ_ _ _ _ h=>MY h) λA outer s H vs Q E hr h=>Na h λa ie us ds B q e U8 hA ha zh rs dk hp=>?_
 subst e;rw[hb];have v:=Lw (P:=P) (w:=w) (base:=base) (outer:=outer) (H:=H) (E:=E) t sc hr;obtain⟨jw,wv⟩:=A9 qm;obtain⟨hl1,lz⟩:=A9 hl;obtain⟨lz,hl3⟩:=A9 lz;obtain⟨bp,nc2⟩:=A9 nc;have U9:∀ p,PE (B0 (CXR P w) P w K mg base ["self", "row", "words", "word", "form"] qual (AG st) f cdv A outer s H E) (.Name "self" p) (Ch 0):=λp=>Dw rfl (.inl (sc.loc "self" (by simp)))
 have ko:∀ p,PE (B0 (CXR P w) P w K mg base ["self", "row", "words", "word", "form"] qual (AG st) f cdv A outer s H E) (.Name "words" p) (Ch 2):=λp=>Dw rfl (.inl (sc.loc "words" (by simp)))
 have m8:∀ p,PE (B0 (CXR P w) P w K mg base ["self", "row", "words", "word", "form"] qual (AG st) f cdv A outer s H E) (.Name "word" p) (Ch 3):=λp=>Dw rfl (.inl (sc.loc "word" (by simp)))
 have ux:∀ p,PE (B0 (CXR P w) P w K mg base ["self", "row", "words", "word", "form"] qual (AG st) f cdv A outer s H E) (.Name "form" p) (Ch 4):=λp=>Dw rfl (.inl (sc.loc "form" (by simp)))
 have E1:=((ze fuel).e _ _ _ e1 _ v k1).se B;have E2:=((ze fuel).e _ _ _ e2 _ v k2).se B;have C4:=(ze fuel).b _ _ _ c4 _ v k4 B;have C5:=(ze fuel).b _ _ _ c5 _ v k5 B;have C6:=(ze fuel).b _ _ _ c6 _ v k6 B;have C7:=(ze fuel).b _ _ _ c7 _ v k7 B;have C8:=(ze fuel).b _ _ _ c8 _ v k8 B;have hgr:Gl (B0 (CXR P w) P w K mg base ["self", "row", "words", "word", "form"] qual (AG st) f cdv A outer s H E) "rests_of_row" := AF.mp wv;have nev:PW (B0 (CXR P w) P w K mg base ["self", "row", "words", "word", "form"] qual (AG st) f cdv A outer s H E) (.BoolOp .And [c4'] t4) (λ_ _ _=>AN):=λ_ _ _ _ _ _ _ h=>h.elim
 refine⟨_,B9 (EH (i:=2) sc.fs.nd rfl (.inl (sc.loc "words" (by simp))) E1 (HK bp) (.inl rfl)) (B9 (EH (i:=3) sc.fs.nd rfl (.inl (sc.loc "word" (by simp))) E2 (HK nc2) (.inl rfl)) (B9 (EH (i:=4) sc.fs.nd rfl (.inl (sc.loc "form" (by simp))) (Oy v hm (by decide) rfl jw (Bw (Rv dc U9) (Bw (Kg FRok v.room hgr mr kr br .nil (v.px A0) (Bw (Rv dc U9) (Bw (ko vw) Cf rfl) rfl) (by decide) rfl rfl) Cf rfl) rfl)) rfl (.inl rfl))
  (B9 (FP (PW.pt (QK C4 nev)) Jw GZ) (B9 (FP C5 Jw GZ) (B9 (FP C6 Jw GZ) (B9 (FP C7 (DT (Hl (Rs (U9 mz) dc.cl ml GL v.room bll (v.px A0) (Bw (m8 km) (Bw (ux bw) Cf rfl) rfl) hl1))) GZ) (B9 (FP C8 (DT (Hl (pZ (U9 kn) dc.cl mu GU v.room blu (v.px A0) lz))) GZ) (DT (Hl (Rs (U9 b8) dc.cl ma GA v.room bla (v.px A0) (Bw (m8 Ì) Cf rfl) hl3)))))))))),?_⟩
 obtain⟨u,d,rfl,rfl,ru⟩:=NZ U8 rs;rcases jE (la:=la) (lm:=lm) (ll:=ll) (cs:=λr=>evE (Z6 Pg n) [Af,Aa (.str r,Ae),Af,Af,Af] cs) (FR:=FR) (FT:=(Z6 Pg n).F tb) (Gl:=Gl') (Gu:=Gu) (Ga:=Ga) (q:=q) (d:=d) with hz|⟨r,wd,ws,rfl,ecs,eG⟩
 .rw[hz]at hp;exact hp.elim
 rw[eG]at hp;have n5:=dk;obtain⟨dx,v1,v2,v3,xs,h1,h2,r4,r5,r6,r7⟩:=dk;refine⟨hA,[Af,Aa (.str r,Ae),Af,Af,Af],gk K CL B H _ [Aa (.ref a),Aa u,Af,Af,Af] ⟨⟨rfl,u,rfl,ru⟩,trivial⟩,?_⟩;show AX _ _ _ (evE (Z6 Pg n) [Af,Aa (.str r,Ae),Af,Af,Af] cs) _;rw[show evE (Z6 Pg n) [Af,Aa (.str r,Ae),Af,Af,Af] cs=.ok (.L (.str wd::ws)) from ecs]
 intro y2 H1 ox cg;refine⟨hA.same ox,[Af,Aa (.str r,Ae),Aa (.L (.str wd::ws),Ae),Af,Af],gk K CL B H1 _ [Aa (.ref a),Aa u,Aa y2,Af,Af] ⟨⟨rfl,u,rfl,ru.same ox⟩,⟨rfl,y2,rfl,cg⟩,trivial⟩,?_⟩;refine Lb (RJ (x:=.str wd) (ws:=ws) rfl) λy3 H2 yv ry3=>?_
 have s2:=ox.trans yv;refine⟨a,dx,v1,v2,v3,ie,rfl,s2 _ _ h1,a,dx,v1,v2,v3,ie,rfl,s2 _ _ h1,y2,rfl,[q.p,.L (.str wd::ws)],B,rfl,hA.same s2,⟨r4.same s2,cg.same yv,trivial⟩,?_⟩;cases eR:FR [q.p,.L (.str wd::ws)] with
 |bad=>rw[eR]at hp;exact hp.elim
 |exn y=>rw[eR]at hp;exact λcls dx H3 vx xr=>⟨y,xr,λcls dx xr=>hp cls dx H3 (s2.trans vx) xr⟩
 |ok u9=>
  rw[eR]at hp;dsimp only at hp;intro yr H3 vx ryr;have s3:=s2.trans vx;refine⟨[q.p,u9],B,rfl,hA.same s3,⟨r4.same s3,ryr.1,trivial⟩,?_⟩;cases eT:(Z6 Pg n).F tb [q.p,u9] with
  |bad=>rw[eT]at hp;exact hp.elim
  |exn y=>rw[eT]at hp;exact λcls dx H4 vy xr=>⟨y,xr,λcls dx xr=>hp cls dx H4 (s3.trans vy) xr⟩
  |ok fm=>
   rw[eT]at hp;dsimp only at hp;intro yf H4 vy ryf;have s4:=s3.trans vy;have gd:∀ H',Az H4 H'->Y9 K CL B [Af,Aa (.str r,Ae),Aa (.L (.str wd::ws),Ae),Aa (.str wd,Ae),Aa (fm,Ae)] [Aa (.ref a),Aa u,Aa y2,Aa y3,Aa yf] H':=λH' sm=>gk K CL B H' _ _ ⟨⟨rfl,u,rfl,ru.same (s4.trans sm)⟩,⟨rfl,y2,rfl,cg.same (((yv.trans vx).trans vy).trans sm)⟩,⟨rfl,y3,rfl,ry3.same ((vx.trans vy).trans sm)⟩,⟨rfl,yf,rfl,ryf.1.same sm⟩,trivial⟩
   have hGa:(Z6 Pg n).G ga=.H (la.map .str):=by rw[KJ];exact ha'
   have hGm:(Z6 Pg n).G gm=.H (lm.map .str):=by rw[KJ];exact hm'
   have hGl:(Z6 Pg n).G gl=.H (ll.map .str):=by rw[KJ];exact hl'
   refine⟨hA.same s4,_,gd H4 (Az.refl _),?_⟩;refine Il (OT (w:=wd) hGa rfl) λH5 uk=>?_
   unfold O4 at hp;cases ia:mj la wd with
   |true=>rw[ia,Au rfl]at hp;exact hp.elim
   |false=>
   rw[ia,Ay Ax]at hp;show HM _ _ H5;refine⟨(hA.same s4).same uk,_,gd H5 uk,?_⟩;refine Il ((OT (w:=wd) hGa rfl).trans (by rw[ia])) λH6 kv=>?_
   show HM _ _ H6;have s56:=uk.trans kv;refine⟨(hA.same s4).same s56,_,gd H6 s56,?_⟩;refine Il (OT (w:=wd) hGm rfl) λH7 sm7=>?_
   cases im:mj lm wd with
   |true=>rw[im,Au rfl]at hp;exact hp.elim
   |false=>
   rw[im,Ay Ax]at hp;show HM _ _ H7;have s57:=s56.trans sm7;refine⟨(hA.same s4).same s57,_,gd H7 s57,?_⟩;refine Il (OT (w:=wd) hGl rfl) λH8 sm8=>?_
   have ck:=s57.trans sm8;have s8:=s4.trans ck;have step:∀(r:RK)(H':Hp),Az H H'->ue r (λd q'=>∀ v H',KB a ie H H'->Cr K CL Ab H B H' v d->DK K CL H' (AV B v) C a ie q'->Q v H') (λx=>∀ cls dx H',Az H H'->Dr K CL H' cls dx x->E cls dx H')->ue r (λd q'=>∀ v H2,KB a ie H' H2->Cr K CL Ab H' B H2 v d->DK K CL H2 (AV B v) C a ie q'->Q v H2) (λx=>∀ cls dx H2,Az H' H2->Dr K CL H2 cls dx x->EKW K CL A0 (WE K CL E) cls dx H2):=λr H' sm h=>by
    cases r with
    |bad=>exact h.elim
    |exn y=>exact λcls dx H2 s2 xr=>⟨y,xr,λcls dx xr=>h cls dx H2 (sm.trans s2) xr⟩
    |ok d q'=>exact λv H2 kb rc dk=>h v H2 ((KB.of sm).trans kb) (Qd sm rc) dk
   cases il:mj ll wd with
   |true=>
    rw[il,Au rfl]at hp;exact⟨.ref a,rfl,a,dx,_,rfl,s8 _ _ h1,rfl,y3,rfl,yf,rfl,Lk (ds:=[.str wd,fm]) rfl (hA.same s8) ha zh ⟨ry3.same ((vx.trans vy).trans ck),ryf.1.same ck,trivial⟩ (n5.same s8) (step _ H8 s8 hp)⟩
   |false=>
   rw[il,Ay Ax]at hp;show HM _ _ H8;refine⟨hA.same s8,_,gd H8 ck,?_⟩;have Û:((top [Af,Aa (D.str r,Ae),Aa (D.L (D.str wd::ws),Ae),Aa (D.str wd,Ae),Aa (fm,Ae)] (.cmp .Eq (.v 3) (.str "undo")) (evE (Z6 Pg n) [Af,Aa (D.str r,Ae),Aa (D.L (D.str wd::ws),Ae),Aa (D.str wd,Ae),Aa (fm,Ae)] (.cmp .Eq (.v 3) (.str "undo")))).bind Bq)=.ok (decide (wd = "undo")):=by
    show R.ok (wd == "undo")=_
    congr 1
   refine Il Û λH9 pk=>?_
   have s9:=s8.trans pk;by_cases iu:wd = "undo"
   .rw[Au iu]at hp;rw[CG iu];exact⟨.ref a,rfl,a,dx,_,rfl,s9 _ _ h1,rfl,Lk (ds:=[]) rfl (hA.same s9) ha zh trivial (n5.same s9) (step _ H9 s9 hp)⟩
   .rw[Ay iu]at hp;rw[BH iu];show HM _ _ H9;exact⟨.ref a,rfl,a,dx,_,rfl,s9 _ _ h1,rfl,y3,rfl,Lk (ds:=[.str wd]) rfl (hA.same s9) ha zh ⟨ry3.same (((vx.trans vy).trans ck).trans pk),trivial⟩ (n5.same s9) (step _ H9 s9 hp)⟩
end
def spN(C:Ak):Sp:=λvs H Q E=>∃ x dx u,vs=[.ref x,u]/\H x=Aa (.ins C dx [])/\∀ H' l1 l2,H l1=Af->H l2=Af->l1≠l2->H' x=Aa (.ins C dx (yj u (.ref l1) .O l2))->H' l1=Aa (.L [])->H' l2=Aa (.L [])->(∀ b o,H b=Aa o->b≠x->H' b=Aa o)->Q .O H'
section
variable{P:AK}{w:AH}{K:Fg}{mg:Ah->Ao Al}{base:AI}{n:Ag}{C:Ak}
theorem sY{st:AL}{f:Ak}{k}(dc:ub K C)(hf:yx K x qual st f fd)(hs:ri ["self", "p"] ["self", "p"] st=Ab)
  (hb:Dh st=[.Assign [.Attribute (.Name "self" p1) "p" p2] (.Name "p" p3) p4,.Assign [.Attribute (.Name "self" p5) "points" p6] (.List [] p7) p8,.Assign [.Attribute (.Name "self" p9) "curve" p10] (.Constant .none k wp) vw,.Assign [.Attribute (.Name "self" ui) "past" tm] (.List [] tz) t4]):
  Y4 P w K mg base (CXR P w) (n+1) f fd ["self", "p"] (spN C):=by
 obtain⟨oc,od,dV,kV,doc,pm,an,cdv,ct,osl,rfl,lk,zo⟩:=hf.ex;have sc:=JG hs;refine Hq lk zo sc.fs (by rintro vs H Q E ⟨a,dx,u,e,_⟩;rw[e];rfl) ?_
 rintro A outer s H vs Q E hr ⟨a,dx,u,e,ha,q⟩;subst e;rw[hb];have U9:∀ p,PE (B0 (CXR P w) P w K mg base ["self", "p"] qual (AG st) f cdv A outer s H E) (.Name "self" p) (Ch 0):=λp=>Dw rfl (.inl (sc.loc "self" (by simp)))
 have pp:∀ p,PE (B0 (CXR P w) P w K mg base ["self", "p"] qual (AG st) f cdv A outer s H E) (.Name "p" p) (Ch 1):=λp=>Dw rfl (.inl (sc.loc "p" (by simp)))
 refine⟨_,B9 (IQ (U9 p1) (pp p3) rfl) (B9 (IQ (U9 p5) (Ma Cf) rfl) (B9 (IQ (U9 p9) Oj rfl) (DT (IQ (U9 ui) (Ma Cf) rfl)))),?_⟩;refine⟨u,rfl,.ref a,rfl,a,C,dx,[],rfl,ha,dc.cl,dc.n1,by decide,Ds _,λl1 h1=>?_⟩
 have n1:l1≠a:=λz=>by rw[z,BK]at h1;cases h1
 refine⟨.ref a,rfl,a,C,dx,[("p",u)],rfl,by rw[AQ (CF n1)];exact BK,dc.cl,dc.n2,AR rfl,.ref a,rfl,a,C,dx,[("p",u),("points",.ref l1)],rfl,BK,dc.cl,dc.n3,AR rfl,Ds _,λl2 h2=>?_⟩
 have n2:l2≠a:=λz=>by rw[z,BK]at h2;cases h2
 rw[AQ n2,AQ n2]at h2;have n3:l1≠l2:=λz=>by rw[<-z,BK]at h2;cases h2
 refine⟨.ref a,rfl,a,C,dx,[("p",u),("points",.ref l1),("curve",.O)],rfl,by rw[AQ (CF n2)];exact BK,dc.cl,dc.n4,AR rfl,?_⟩
 rw[AQ n1]at h1;rw[AQ (CF n3),AQ n2]at h2;refine q _ l1 l2 h1 h2 n3 BK ?_ ?_ λb o e n=>?_
 .rw[AQ n1,AQ n3,AQ n1,AQ n1];exact BK
 .rw[AQ n2];exact BK
 .have e1:b≠l1:=Er e h1;have e2:b≠l2:=Er e h2;rw[AQ n,AQ e2,AQ n,AQ n,AQ e1,AQ n];exact e
end
section
variable{X:Cx}{CL:ClA}{W:XW}
def ϫ(X:Cx)(ji:AL)(tb:L2.St->XK->TS):Prop:=∀ pI Xw,FM (model X.prog X.w) X.A X.env Xw->∀(Y0:L2.St)(E0:XK),(∀ LE H1 s1 ev s',Z8 (Cx.pw X pI Xw) LE Y0 H1 s1->CXR X.prog X.w (Cx.pw X pI Xw).stack H1 s1 E0 ev s'->(Cx.pw X pI Xw).xe ev s')->PS (Cx.pw X pI Xw) ji (tb Y0 E0)
theorem iQ{c i:Ag}{g nm:Ah}{ji:AL}{p1 hp pos:AE}(hx:X.ex=[])(yh:X.stack=X.env::X.outer)(ad:X.env.frame=Aa X.env.locals)(hN:X.N.Nodup)(hi:X.N[i]?=Aa nm)(hl:X.env.scope.names.lookup nm=Aa .local)(h1:Pl X CL up g c)(hb:ϫ X ji tb)(hh:∀ e,vq (Cx.hot X e) CL (λ_ _=>AN) (h0::hs) fh):PS X (.Try [ji] [.ExceptHandler (Aa (.Name g p1)) (Aa nm) (h0::hs) hp] [] [] pos) (λD Y H=>tb Y (λ_ _ _=>AN) D Y H\/∃(y:Ex)(Fz:Fr)(B:Ak->Prop)(U:Rho),(up y.c).contains c=Ab/\Sx X.K CL Fz B U Y H/\B2 X.K CL Fz B W (ug i y U fh) D/\tb Y (λcls dx H'=>Dr X.K CL H' cls dx y/\Az H H') {nx:=λ_ _=>AN,rt:=λ_ _=>AN} Y H):=λpI s Y H D I h=>by
 refine aK ?_;rcases h with h|⟨y,Fz,B,U,hc,sx,hpo,h⟩
 .refine Bk (DT (hb pI _ HS Y _ jP) [] s Y H D (Q0 I _) h) (λf s1 hf=>?_) λ_ _ z=>z
  have hf:=kH I.ok hf;cases f with
  |next=>exact GW hf
  |ret u=>exact hf
  |brk=>exact hf
  |cont=>exact hf
 .have oz:Nl X CL pI Y H y (λev s1=>AA (model X.prog X.w) X.A (FN ev X.env) (λ_ s2=>AA (model X.prog X.w) X.A (GH ev Af) (λ_ s3=>AA (model X.prog X.w) X.A (Ik ev X.env [.ExceptHandler (Aa (.Name g p1)) (Aa nm) (h0::hs) hp]) (SP X pI D) X.xe s3) X.xe s2) X.xe s1):=by
   refine T5 hx yh ad λe T1 cls dx H' s1 I1 sm n8 ae fz he ek xr=>?_
   have gx:=sx.grow sm;obtain⟨C,xq,rfl,_⟩:=xr (BJ B U Y) gx.aok;obtain⟨C',hg,hm,zq,xc,hup⟩:=h1;exact Qv (W:=W) hx hN hi hl hg hm zq xc (hup y.c C xq) hh I1 n8 ae fz he ek gx xq xr (λ_=>hpo) (λz=>by rw[hc]at z;cases z)
  refine Bk (DT (hb pI _ HS Y _ (Uq hx I.ok oz)) [] s Y H _ (Q0 I _) h) (λf s1 hf=>?_) λ_ _ z=>z
  cases f with
  |next=>obtain⟨_,_,_,z⟩:=hf;exact z.elim
  |ret u=>obtain⟨_,_,_,_,_,z⟩:=hf;exact z.elim
  |brk=>obtain⟨_,_,_,z⟩:=hf;exact z.elim
  |cont=>obtain⟨_,_,_,z⟩:=hf;exact z.elim
end
section
variable{X:Cx}{CX:CXT}{k:Ag}{f C:Ak}{fd:Bj}{ps:Ac Ah}{sp:Sp}{E:XK}{m:Ah}{pos apos:AE}{e o:Aq}{es:Ac Aq}{ta:TE}{t:TA}{Y0:L2.St}
theorem jH{s:Ar}{Q:VK}{us:Ac Al}(F:Y4 X.prog X.w X.K X.mg X.base CX k f fd ps sp)(hr:U6 k X.A)(hb:CW X.K fd ps [])(hx:∀ pI H s e s',Z8 X pI Y0 H s->CX X.stack H s E e s'->X.xe e s')(I:Z8 X pI Y0 H s)(r:A1 vs us)(q:sp vs H Q E):AA (model X.prog X.w) X.A (call (.ref f) us) (EP X pI Y0 Q) X.xe s:=by
 have hl:us.length=ps.length:=by rw[<-r.length];exact F.len _ _ _ _ q
 have û:GC s fd ⟨us,[]⟩ (ps.zip us):=by
  have:=hb s us I.kIn (by rw[Bz];exact hl)
  rwa [Bz]at this
 refine F0 (EG (F.run X.A X.stack s H ⟨us,[]⟩ us vs Q E hr I.env0 û r q) λr s' hq=>?_)
 cases r with
 |error e=>exact hx pI H s e s' I hq
 |ok fl=>
  cases fl with
  |ret u=>exact I.after hq
  |next=>exact A7 hq
  |brk=>exact A7 hq
  |cont=>exact A7 hq
theorem V6(he:PE X o ta)(c:wk X.K C)(hm:yz X.K C m f)(F:Y4 X.prog X.w X.K X.mg X.base CX k f fd ps sp)(hr:U6 k X.A)(hb:CW X.K fd ps [])(hx:∀ pI H s ev s',Z8 X pI Y0 H s->CX X.stack H s E ev s'->X.xe ev s')(ha:PA X (e::es) t)(My:(apos.endLine==pos.line)=Ab)(xm:FX ((e::es).length+([]:Ac CV).length) (Bv pos (Aw (e::es) X.env)) (EU pos (DG [] X.env))=Ab:=by rfl)(U4:BZ o m X.env (eval o X.env)=eval o X.env:=by rfl)(yh:Aw (e::es) X.env=(Ae,eval e X.env)::Aw es X.env:=by rfl)(zp:(Bv pos (Aw es X.env)).any (·.1)=Ae:=by rfl):PE X (.Call (.Attribute o m apos) (e::es) [] pos) (λY H Q=>Y=Y0/\Li C m sp [] E ta t Y H Q):=by
 intro pI s Y H Q I ⟨e0,h⟩;subst e0;rw[Gk,U4];refine As (U5 (he pI s Y H _ I h) λu s1 ⟨x,H1,I1,rx,a,dx,fs,ex,ea,l,q⟩=>?_)
 subst ex;obtain rfl:u=Bm a:=rx;refine As (CT ?_);have vg:Dm Ab o X.env apos pos=pure pos:=by
  unfold Dm;simp[My]
 unfold HW;rw[xm];refine As (Ck (NX I1 ea c hm l ?_));refine As (Gi vg ?_);refine DI (first:=[.ref a]) (h₀:=X.base) I.ok.mod.kin hm.kp (U5 (ha pos pI s1 Y H1 _ I1 q) λus s2 ⟨vs,H2,I2,r,q2⟩=>⟨I2.kIn,?_⟩) yh zp
 have q2:sp (V.ref a::(vs++[])) H2 Q E:=q2;rw[Bz]at q2;exact jH (us:=.ref a::us) (vs:=.ref a::vs) F hr hb hx I2 (.cons rfl r) q2
end
section
variable(K:Fg)(CL:ClA)
def OP(H:Hp)(A:Ak->Prop)(H':Hp)(v x:V)(d:D):Prop:=∃ nm d2 t,d=.H [.str nm,d2]/\v=.ref t/\H' t=Aa (.H [.str nm,x])/\¬ A t/\Cr K CL Ab H A H' x d2
def spS(C:Ak)(m:Ag)(G:Dk->Ac D->RK):Sp:=λvs H Q E=>∃(a la:Ak)(us:Ac V)(ds:Ac D)(A:Ak->Prop)(q:Dk),vs=.ref a::us/\us.length=m/\Ty H A/\A a/\A la/\Z9 K CL H A us ds/\DK K CL H A C a la q/\ue (G q ds) (λd q'=>∀ v x H',KB a la H H'->OP K CL H A H' v x d->DK K CL H' (AV A x) C a la q'->Q v H') (λ_=>AN)
end
theorem Re{C a la:Ak}{m:Ag}{ds:Ac D}{Q:VK}{E:XK}(hl:us.length=m)(hA:Ty H A)(ha:A a)(zh:A la)(rs:Z9 K CL H A us ds)(dk:DK K CL H A C a la q)(hp:ue (G q ds) (λd q'=>∀ v x H',KB a la H H'->OP K CL H A H' v x d->DK K CL H' (AV A x) C a la q'->Q v H') (λ_=>AN)):spS K CL C m G (.ref a::us) H Q E:=⟨a,la,us,ds,A,q,rfl,hl,hA,ha,zh,rs,dk,hp⟩
noncomputable def m9(up:Ag->Ac Ag)(FT FH:Ac D->R D)(G:Dk->Ac D->RK)(q:Dk)(ds:Ac D):RK:=match G q ds with
  | .ok (.L ts) q'=>(match FT [.L ts] with
    |.ok (.bl Ab)=>.ok (.H [.str "told",.L ts]) q'
    | _=>.bad)
  | .exn y=>(match FH [.exc y.c y.fs] with
    |.ok (.str nm)=>if (up y.c).contains 0=Ab/\nm≠"told" then .ok (.H [.str nm,.O]) q else .bad
    | _=>.bad)
  |_=>.bad
theorem oJ(up:Ag->Ac Ag)(FT FH:Ac D->R D)(G:Dk->Ac D->RK)(q:Dk)(ds:Ac D):m9 up FT FH G q ds=.bad\/(∃ ts q',G q ds=.ok (.L ts) q'/\FT [.L ts]=.ok (.bl Ab)/\m9 up FT FH G q ds=.ok (.H [.str "told",.L ts]) q')\/∃ y nm,G q ds=.exn y/\FH [.exc y.c y.fs]=.ok (.str nm)/\(up y.c).contains 0=Ab/\nm≠"told"/\m9 up FT FH G q ds=.ok (.H [.str nm,.O]) q:=by
 unfold m9;cases e:G q ds with
 |bad=>exact .inl rfl
 |ok d q'=>
  cases d with
  |L ts=>
   dsimp only;cases e2:FT [.L ts] with
   |ok b=>
    cases b with
    |bl b=>
     cases b with
     |true=>exact .inr (.inl ⟨ts,q',rfl,e2,rfl⟩)
     |false=>exact .inl rfl
    |_=>exact .inl rfl
   |_=>exact .inl rfl
  |_=>exact .inl rfl
 |exn y=>
  dsimp only;cases e2:FH [.exc y.c y.fs] with
  |ok b=>
   cases b with
   |str nm=>
    by_cases h:(up y.c).contains 0=Ab/\nm≠"told"
    .exact .inr (.inr ⟨y,nm,rfl,e2,h.1,h.2,Au h⟩)
    .exact .inl (Ay h)
   |_=>exact .inl rfl
  |_=>exact .inl rfl
section
variable{P:AK}{w:AH}{K:Fg}{mg:Ah->Ao Al}{base:AI}{CL:ClA}{fns:Ac (Ah×Ag×Ag)}{bl:Ac Ah}{rzs exs gls:Ac (Ah×Ag)}{Pg:Prg}{fuel n:Ag}{C:Ak}
theorem jF(t:wl K mg CL fns bl rzs exs gls Pg fuel){st h0:AL}{f fy:Ak}{ì:Bj}{k1 k2 k3}{tx rf:Ag}(dc:ub K C)(hf:yx K x qual st f fd)(hs:ri ["_law_desk", "_law_row_here"] ["_law_desk", "_law_row_here", "_law_answer", "_law_word", "_law_error"] st=Ab)
    (hb:Dh st=[.Assign [.Name "_law_answer" p1] (.Constant .none k1 p2) p3,.Assign [.Name "_law_word" p4] (.Constant (.str "told") k2 p5) p6,.Try [.Assign [.Name "_law_answer" p7] (.Call (.Attribute (.Name "_law_desk" p8) "say" p9) [.Name "_law_row_here" p10] [] wp) vw] [.ExceptHandler (Aa (.Name "OvalError" ui)) (Aa "_law_error") [h0] tm] [] [] tz,.If c4 b4 [] t4,.Return (Aa (.Tuple [.Name "_law_word" uw,.Name "_law_answer" t5] k3 oq)) mz])
    (hl:(p9.endLine==wp.line)=Ab) (hd:ý ⟨AG st,["_law_desk", "_law_row_here", "_law_answer", "_law_word", "_law_error"],fns,bl,rzs,exs,gls,Ab⟩ "OvalError" 0=Ab)
    (k0:Lr fuel ⟨AG st,["_law_desk", "_law_row_here", "_law_answer", "_law_word", "_law_error"],fns,bl,rzs,exs,gls,Ab⟩ 4 [h0] (.cons (.asg 3 Ae (.call rf (.cons (.v 4) .nil))) .nil)=Ab)
    (k4:Eb fuel ⟨AG st,["_law_desk", "_law_row_here", "_law_answer", "_law_word", "_law_error"],fns,bl,rzs,exs,gls,Ab⟩ c4 (.and (.cons (.cmp .Eq (.v 3) (.str "told")) (.cons (.no (.call tx (.cons (.v 2) .nil))) .nil)))=Ab)
    (my:yz K C "say" fy) (by':CW K ì ["self", "row"] []) (GY:Y4 P w K mg base (CXR P w) n fy ì ["self", "row"] (wq K CL C 1 G)):
    Y4 P w K mg base (CXR P w) (n+1) f fd ["_law_desk", "_law_row_here"] (spS K CL C 1 (m9 Pg.up ((Z6 Pg n).F tx) ((Z6 Pg n).F rf) G)):=by
  obtain⟨oc,od,dV,kV,doc,pm,an,cdv,ct,osl,rfl,lk,zo⟩:=hf.ex;have sc:=JG hs;refine Hq lk zo sc.fs (by rintro vs H Q E ⟨a,la,us,ds,A,q,e,z,_⟩;rw[e,Bi,z];rfl) ?_
  rintro A outer s H vs Q E hr ⟨a,la,us,ds,B,q,e,U8,hA,ha,zh,rs,dk,hp⟩;subst e;rw[hb];have v:=Lw (P:=P) (w:=w) (base:=base) (outer:=outer) (H:=H) (E:=E) t sc hr;have pv:∀(i:Ag)(nm:Ah)(p:AE),(["_law_desk", "_law_row_here", "_law_answer", "_law_word", "_law_error"]:Ac Ah)[i]?=Aa nm->(nm==("__debug__" : Ah))=Ae->(nm==("__classdict__" : Ah))=Ae->PE (B0 (CXR P w) P w K mg base ["_law_desk", "_law_row_here", "_law_answer", "_law_word", "_law_error"] qual (AG st) f cdv A outer s H E) (.Name nm p) (Ch i):=λi nm p h d1 d2=>Dw h (.inl (sc.loc nm (GK h))) d1 d2
  have C4:=(ze fuel).b _ _ _ c4 _ v k4 B;have HH:=λe=>OW v ⟨λ_=>rfl,rfl,rfl,rfl⟩ e 4 fuel _ _ k0
  have tbd:ϫ (B0 (CXR P w) P w K mg base ["_law_desk", "_law_row_here", "_law_answer", "_law_word", "_law_error"] qual (AG st) f cdv A outer s H E) (.Assign [.Name "_law_answer" p7] (.Call (.Attribute (.Name "_law_desk" p8) "say" p9) [.Name "_law_row_here" p10] [] wp) vw) (λY0 E0 D Y H'=>Y=Y0/\Li C "say" (wq K CL C 1 G) [] E0 (Ch 0) (Lj (Ch 1) Ms) Y H' λu H1=>D.nx (Y.set 2 (Aa u)) H1):=λpI Xw _ Y0 E0 hx=>
    EH (X:=Cx.pw (B0 (CXR P w) P w K mg base ["_law_desk", "_law_row_here", "_law_answer", "_law_word", "_law_error"] qual (AG st) f cdv A outer s H E) pI Xw) (i:=2) sc.fs.nd rfl (.inl (sc.loc "_law_answer" (by simp))) (V6 (Y0:=Y0) (E:=E0) (Dw (i:=0) rfl (.inl (sc.loc "_law_desk" (by simp)))) dc.cl my GY v.room by' hx (Bw (Dw (i:=1) rfl (.inl (sc.loc "_law_row_here" (by simp)))) Cf rfl) hl) rfl (.inl rfl)
  refine⟨_,B9 (EH (i:=2) sc.fs.nd rfl (.inl (sc.loc "_law_answer" (by simp))) Oj rfl (.inl rfl)) (B9 (EH (i:=3) sc.fs.nd rfl (.inl (sc.loc "_law_word" (by simp))) KH rfl (.inl rfl)) (B9 (iQ (W:=W0) (i:=4) rfl rfl rfl sc.fs.nd rfl (sc.loc "_law_error" (by simp)) (Q5 v hd) tbd HH) (B9 (FP C4 Jw GZ) (DT (Hl (Oi (Bw (pv 3 _ uw rfl rfl rfl) (Bw (pv 2 _ t5 rfl rfl rfl) Cf rfl) rfl))))))),?_⟩
  obtain⟨u,d,rfl,rfl,ru⟩:=NZ U8 rs;have n5:=dk;obtain⟨dx,v1,v2,v3,xs,h1,h2,r4,r5,r6,r7⟩:=dk;rcases oJ Pg.up ((Z6 Pg n).F tx) ((Z6 Pg n).F rf) G q [d] with hz|⟨ts,q',e1,e2,e3⟩|⟨y,nm,e1,e2,e3,e4,e5⟩
  · rw[hz]at hp;exact hp.elim
  · rw[e3]at hp;refine .inl ⟨rfl,.ref a,rfl,a,dx,_,rfl,h1,rfl,u,rfl,Lk (ds:=[d]) rfl hA ha zh ⟨ru,trivial⟩ n5 ?_⟩;rw[e1];intro y H1 kb rc dk1;have jp:=dk1.un.aok kb hA;refine⟨jp,[Af,Af,Aa (.L ts,Ae),Aa (.str "told",Ae),Af],gk K CL B H1 _ [Aa (.ref a),Aa u,Aa y,Aa (.str "told"),Af] ⟨⟨rfl,y,rfl,rc.1⟩,⟨rfl,_,rfl,rfl⟩,trivial⟩,?_⟩;have ev:((top [Af,Af,Aa (D.L ts,Ae),Aa (D.str "told",Ae),Af] (.and (.cons (.cmp .Eq (.v 3) (.str "told")) (.cons (.no (.call tx (.cons (.v 2) .nil))) .nil))) (evE (Z6 Pg n) [Af,Af,Aa (D.L ts,Ae),Aa (D.str "told",Ae),Af] (.and (.cons (.cmp .Eq (.v 3) (.str "told")) (.cons (.no (.call tx (.cons (.v 2) .nil))) .nil))))).bind Bq)=.ok Ae:=by
      have e2':(Z6 Pg n).F tx [D.L ts]=.ok (.bl Ab):=e2;have z1:evE (Z6 Pg n) [Af,Af,Aa (D.L ts,Ae),Aa (D.str "told",Ae),Af] (.call tx (.cons (.v 2) .nil))=.ok (.bl Ab):=by
        show ((Z6 Pg n).F tx [D.L ts]).bind _=_;rw[e2'];rfl
      have z2:evE (Z6 Pg n) [Af,Af,Aa (D.L ts,Ae),Aa (D.str "told",Ae),Af] (.cmp .Eq (.v 3) (.str "told"))=.ok (.bl Ab):=rfl;simp[z1,z2,Di,Bq]
    refine Il ev λH2 sm=>?_
    show HM _ _ H2;refine⟨.str "told",rfl,y,rfl,by rw[By];exact AR rfl,λtt ht=>?_⟩
    have s3:=sm.trans (EZ ht (.H [.str "told",y]));refine hp (.ref tt) y _ (kb.trans (KB.of s3)) ⟨"told",.L ts,tt,rfl,rfl,BK,(jp.same sm).new ht,Z7.same s3 rc.1,λz es ee=>?_⟩ (dk1.same s3)
    obtain⟨l,ys,f1,f2,f3,f4⟩:=rc.2 z es ee;exact⟨l,ys,f1,f2,s3 _ _ f3,f4.same s3⟩
  · rw[e5]at hp;have g:=HG (K:=K) (CL:=CL) (A:=B) (H:=H) (U:=[Af,Af,Aa (.O,Ae),Aa (.str "told",Ae),Af]) (Y:=[Aa (.ref a),Aa u,Aa .O,Aa (.str "told"),Af]) ⟨⟨rfl,_,rfl,rfl⟩,⟨rfl,_,rfl,rfl⟩,trivial⟩;refine .inr ⟨y,⟨λb o=>H b=Aa o,λ_ _ _=>AN⟩,B,[Af,Af,Aa (.O,Ae),Aa (.str "told",Ae),Af],?_,OJ hA g.1 g.2,?_,rfl,.ref a,rfl,a,dx,_,rfl,h1,rfl,u,rfl,Lk (ds:=[d]) rfl hA ha zh ⟨ru,trivial⟩ n5 ?_⟩
    · rw[KI];exact e3
    · have eh:ug 4 y [Af,Af,Aa (.O,Ae),Aa (.str "told",Ae),Af] (λU=>U7 (Z6 Pg n) U (.cons (.asg 3 Ae (.call rf (.cons (.v 4) .nil))) .nil))=.next [Af,Af,Aa (.O,Ae),Aa (.str nm,Ae),Af]:=by
        have e2':(Z6 Pg n).F rf [D.exc y.c y.fs]=.ok (.str nm):=e2;have z1:evE (Z6 Pg n) [Af,Af,Aa (.O,Ae),Aa (.str "told",Ae),Aa (.exc y.c y.fs,Ae)] (.call rf (.cons (.v 4) .nil))=.ok (.str nm):=by
          show ((Z6 Pg n).F rf [D.exc y.c y.fs]).bind _=_;rw[e2'];rfl
        unfold ug;simp[z1]
      rw[eh];intro Y' H' sx;have no:∀(i:Ag)(d:D),([Af,Af,Aa (D.O,Ae),Aa (D.str nm,Ae),Af]:Rho)[i]?≠Aa (Aa (d,Ab)):=λi d h=>by
        match i,h with
        |0,h=>cases h
        |1,h=>cases h
        |2,h=>cases h
        |3,h=>cases h
        |4,h=>cases h
        |_+5,h=>cases h
      have own:∀ b,BJ B [Af,Af,Aa (.O,Ae),Aa (.str nm,Ae),Af] Y' b->B b:=λb h=>h.elim id λ⟨j,d,h1,_⟩=>absurd h1 (no j d)
      have sm:Az H H':=λb o z=>sx.same b o z
      have g2:Y9 K CL B [Af,Af,Aa (.O,Ae),Aa (.str nm,Ae),Af] Y' H':=⟨λi d h=>let ⟨v,q,r⟩:=sx.good.sh i d h;⟨v,q,Z7.sub (λb hb=>.inl hb) _ r⟩,λi d h=>absurd h (no i d),sx.len⟩
      obtain⟨w2,hw2,cf⟩:=g2.sh 2 .O rfl;obtain⟨w3,hw3,rw3⟩:=g2.sh 3 (.str nm) rfl;have cf:w2=.O:=cf;have rw3:w3=.str nm:=rw3;subst cf rw3;refine⟨hA.same sm,_,g2,?_⟩;have ev:((top [Af,Af,Aa (D.O,Ae),Aa (D.str nm,Ae),Af] (.and (.cons (.cmp .Eq (.v 3) (.str "told")) (.cons (.no (.call tx (.cons (.v 2) .nil))) .nil))) (evE (Z6 Pg n) [Af,Af,Aa (D.O,Ae),Aa (D.str nm,Ae),Af] (.and (.cons (.cmp .Eq (.v 3) (.str "told")) (.cons (.no (.call tx (.cons (.v 2) .nil))) .nil))))).bind Bq)=.ok Ae:=by
        have z2:evE (Z6 Pg n) [Af,Af,Aa (D.O,Ae),Aa (D.str nm,Ae),Af] (.cmp .Eq (.v 3) (.str "told"))=.ok (.bl Ae):=by
          show R.ok (D.bl (nm == "told"))=_;rw[Bg.mpr e4]
        simp[z2,Di,Bq]
      refine Il ev λH2 yv=>?_
      show HM _ _ H2;refine⟨.str nm,hw3,.O,hw2,by rw[By];exact AR rfl,λtt ht=>?_⟩
      have s3:=(sm.trans yv).trans (EZ ht (.H [.str nm,.O]));exact hp (.ref tt) .O _ (KB.of s3) ⟨nm,.O,tt,rfl,rfl,BK,(hA.same (sm.trans yv)).new ht,rfl,λz es ee=>nomatch ee⟩ (n5.O.same s3)
    · rw[e1];exact λcls dx H' sm xr=>⟨xr,sm⟩
end
section
variable{X:Cx}{CL:ClA}{W:XW}
theorem iP{c c' i:Ag}{g g' nm:Ah}{ji lr:AL}{hs':Ac AL}{p1 p1' hp Ϻ pos:AE}{fh':Rho->O}(hx:X.ex=[])(yh:X.stack=X.env::X.outer)(ad:X.env.frame=Aa X.env.locals)(hN:X.N.Nodup)(hi:X.N[i]?=Aa nm)(hl:X.env.scope.names.lookup nm=Aa .local)(h1:Pl X CL up g c)(h2:Pl X CL up g' c')(hb:ϫ X ji tb)(hh:∀ e,vq (Cx.hot X e) CL (λ_ _=>AN) (h0::hs) fh)(hh':∀ e,vq (Cx.hot X e) CL (λ_ _=>AN) (lr::hs') fh'):PS X (.Try [ji] [.ExceptHandler (Aa (.Name g p1)) (Aa nm) (h0::hs) hp,.ExceptHandler (Aa (.Name g' p1')) (Aa nm) (lr::hs') Ϻ] [] [] pos) (λD Y H=>∃(y:Ex)(Fz:Fr)(B:Ak->Prop)(U:Rho),Sx X.K CL Fz B U Y H/\B2 X.K CL Fz B W (if (up y.c).contains c=Ab then ug i y U fh else if (up y.c).contains c'=Ab then ug i y U fh' else .bad) D/\tb Y (λcls dx H'=>Dr X.K CL H' cls dx y/\Az H H') {nx:=λ_ _=>AN,rt:=λ_ _=>AN} Y H):=λpI s Y H D I ⟨y,Fz,B,U,sx,p2,h⟩=>by
 refine aK ?_;have oz:Nl X CL pI Y H y (λev s1=>AA (model X.prog X.w) X.A (FN ev X.env) (λ_ s2=>AA (model X.prog X.w) X.A (GH ev Af) (λ_ s3=>AA (model X.prog X.w) X.A (Ik ev X.env [.ExceptHandler (Aa (.Name g p1)) (Aa nm) (h0::hs) hp,.ExceptHandler (Aa (.Name g' p1')) (Aa nm) (lr::hs') Ϻ]) (SP X pI D) X.xe s3) X.xe s2) X.xe s1):=by
  refine T5 hx yh ad λe T1 cls dx H' s1 I1 sm n8 ae fz he ek xr=>?_
  have gx:=sx.grow sm;obtain⟨C,xq,rfl,_⟩:=xr (BJ B U Y) gx.aok;obtain⟨C1,hg,hm,zq,xc,hup⟩:=h1;obtain⟨C2,wv,qr,hdb2,xc2,hup2⟩:=h2;refine Qv (W:=W) hx hN hi hl hg hm zq xc (hup y.c C xq) hh I1 n8 ae fz he ek gx xq xr (λhc=>?_) (λhc=>?_)
  .rw[Au hc]at p2;exact p2
  .rw[Ay (by rw[hc];exact Ax)]at p2
   refine Qv (W:=W) hx hN hi hl wv qr hdb2 xc2 (hup2 y.c C xq) hh' I1 n8 ae fz he ek gx xq xr (λhc=>?_) (λhc=>?_)
   .rw[Au hc]at p2;exact p2
   .rw[Ay (by rw[hc];exact Ax)]at p2;exact p2.elim
 refine Bk (DT (hb pI _ HS Y _ (Uq hx I.ok oz)) [] s Y H _ (Q0 I _) h) (λf s1 hf=>?_) λ_ _ z=>z
 cases f with
 |next=>obtain⟨_,_,_,z⟩:=hf;exact z.elim
 |ret u=>obtain⟨_,_,_,_,_,z⟩:=hf;exact z.elim
 |brk=>obtain⟨_,_,_,z⟩:=hf;exact z.elim
 |cont=>obtain⟨_,_,_,z⟩:=hf;exact z.elim
end
def spF(K:Fg)(CL:ClA)(up:Ag->Ac Ag)(C:Ak)(G:Dk->Ac D->RK):Sp:=λvs H Q E=>∃(a la:Ak)(us:Ac V)(ds:Ac D)(A:Ak->Prop)(q:Dk)(y:Ex)(d:D),vs=.ref a::us/\us.length=1/\Ty H A/\A a/\A la/\Z9 K CL H A us ds/\DK K CL H A C a la q/\G q ds=.exn y/\((up y.c).contains 107=Ab\/(up y.c).contains 108=Ab)/\y.fs=[(("triple" : Ah),d)]/\∀ v H',Az H H'->Z7 K CL H' A v d->Q v H'
section
variable{P:AK}{w:AH}{K:Fg}{mg:Ah->Ao Al}{base:AI}{CL:ClA}{fns:Ac (Ah×Ag×Ag)}{bl:Ac Ah}{rzs exs gls:Ac (Ah×Ag)}{Pg:Prg}{fuel n:Ag}{C:Ak}
theorem hJ(t:wl K mg CL fns bl rzs exs gls Pg fuel){st h0 lr:AL}{f fy:Ak}{ì:Bj}{k1}(dc:ub K C)(hf:yx K x qual st f fd)(hs:ri ["_law_desk", "_law_row_here"] ["_law_desk", "_law_row_here", "_law_triple_here", "_law_error"] st=Ab)
  (hb:Dh st=[.Assign [.Name "_law_triple_here" p1] (.Constant .none k1 p2) p3,.Try [.Expr (.Call (.Attribute (.Name "_law_desk" p8) "say" p9) [.Name "_law_row_here" p10] [] wp) vw] [.ExceptHandler (Aa (.Name "Alike" ui)) (Aa "_law_error") [h0] tm,.ExceptHandler (Aa (.Name "NotOn" tz)) (Aa "_law_error") [lr] t4] [] [] uw,.Return (Aa (.Name "_law_triple_here" t5)) oq])
  (hl:(p9.endLine==wp.line)=Ab) (hd:(ý ⟨AG st,["_law_desk", "_law_row_here", "_law_triple_here", "_law_error"],fns,bl,rzs,exs,gls,Ab⟩ "Alike" 107&&ý ⟨AG st,["_law_desk", "_law_row_here", "_law_triple_here", "_law_error"],fns,bl,rzs,exs,gls,Ab⟩ "NotOn" 108)=Ab)
  (k0:Lr fuel ⟨AG st,["_law_desk", "_law_row_here", "_law_triple_here", "_law_error"],fns,bl,rzs,exs,gls,Ab⟩ 3 [h0] (.cons (.asg 2 Ae (.fld (.v 3) "triple")) .nil)=Ab) (k0':Lr fuel ⟨AG st,["_law_desk", "_law_row_here", "_law_triple_here", "_law_error"],fns,bl,rzs,exs,gls,Ab⟩ 3 [lr] (.cons (.asg 2 Ae (.fld (.v 3) "triple")) .nil)=Ab)
  (my:yz K C "say" fy) (by':CW K ì ["self", "row"] []) (GY:Y4 P w K mg base (CXR P w) n fy ì ["self", "row"] (wq K CL C 1 G)):
  Y4 P w K mg base (CXR P w) (n+1) f fd ["_law_desk", "_law_row_here"] (spF K CL Pg.up C G):=by
 obtain⟨oc,od,dV,kV,doc,pm,an,cdv,ct,osl,rfl,lk,zo⟩:=hf.ex;have sc:=JG hs;refine Hq lk zo sc.fs (by rintro vs H Q E ⟨a,la,us,ds,A,q,y,d,e,z,_⟩;rw[e,Bi,z];rfl) ?_
 rintro A outer s H vs Q E hr ⟨a,la,us,ds,B,q,y,d3,e,U8,hA,ha,zh,rs,dk,eG,hc,jv,hp⟩;subst e;rw[hb];have v:=Lw (P:=P) (w:=w) (base:=base) (outer:=outer) (H:=H) (E:=E) t sc hr;obtain⟨hd1,hd2⟩:=A9 hd;have HH:=λe=>OW v ⟨λ_=>rfl,rfl,rfl,rfl⟩ e 3 fuel _ _ k0
 have HH':=λe=>OW v ⟨λ_=>rfl,rfl,rfl,rfl⟩ e 3 fuel _ _ k0'
 have tbd:ϫ (B0 (CXR P w) P w K mg base ["_law_desk", "_law_row_here", "_law_triple_here", "_law_error"] qual (AG st) f cdv A outer s H E) (.Expr (.Call (.Attribute (.Name "_law_desk" p8) "say" p9) [.Name "_law_row_here" p10] [] wp) vw) (λY0 E0 D Y H'=>Y=Y0/\Li C "say" (wq K CL C 1 G) [] E0 (Ch 0) (Lj (Ch 1) Ms) Y H' λu H1=>D.nx Y H1):=λpI Xw _ Y0 E0 hx=>
  Kf (X:=Cx.pw (B0 (CXR P w) P w K mg base ["_law_desk", "_law_row_here", "_law_triple_here", "_law_error"] qual (AG st) f cdv A outer s H E) pI Xw) (V6 (Y0:=Y0) (E:=E0) (Dw (i:=0) rfl (.inl (sc.loc "_law_desk" (by simp)))) dc.cl my GY v.room by' hx (Bw (Dw (i:=1) rfl (.inl (sc.loc "_law_row_here" (by simp)))) Cf rfl) hl) rfl
 refine⟨_,B9 (EH (i:=2) sc.fs.nd rfl (.inl (sc.loc "_law_triple_here" (by simp))) Oj rfl (.inl rfl)) (B9 (iP (W:=W0) (i:=3) rfl rfl rfl sc.fs.nd rfl (sc.loc "_law_error" (by simp)) (Q5 v hd1) (Q5 v hd2) tbd HH HH') (DT (Hl (Dw (i:=2) rfl (.inl (sc.loc "_law_triple_here" (by simp))))))),?_⟩
 obtain⟨u,d,rfl,rfl,ru⟩:=NZ U8 rs;have n5:=dk;obtain⟨dx,v1,v2,v3,xs,h1,h2,r4,r5,r6,r7⟩:=dk;have g:=HG (K:=K) (CL:=CL) (A:=B) (H:=H) (U:=[Af,Af,Aa (.O,Ae),Af]) (Y:=[Aa (.ref a),Aa u,Aa .O,Af]) ⟨⟨rfl,_,rfl,rfl⟩,trivial⟩;refine⟨y,⟨λb o=>H b=Aa o,λ_ _ _=>AN⟩,B,[Af,Af,Aa (.O,Ae),Af],OJ hA g.1 g.2,?_,rfl,.ref a,rfl,a,dx,_,rfl,h1,rfl,u,rfl,Lk (ds:=[d]) rfl hA ha zh ⟨ru,trivial⟩ n5 ?_⟩
 .have eh:ug 3 y [Af,Af,Aa (.O,Ae),Af] (λU=>U7 (Z6 Pg n) U (.cons (.asg 2 Ae (.fld (.v 3) "triple")) .nil))=.next [Af,Af,Aa (d3,Ae),Af]:=by
   have z1:evE (Z6 Pg n) [Af,Af,Aa (.O,Ae),Aa (.exc y.c y.fs,Ae)] (.fld (.v 3) "triple")=.ok d3:=by
    rw[jv];rfl
   unfold ug;simp[z1]
  have ei:(if ((Z6 Pg n).up y.c).contains 107=Ab then ug 3 y [Af,Af,Aa (.O,Ae),Af] (λU=>U7 (Z6 Pg n) U (.cons (.asg 2 Ae (.fld (.v 3) "triple")) .nil)) else if ((Z6 Pg n).up y.c).contains 108=Ab then ug 3 y [Af,Af,Aa (.O,Ae),Af] (λU=>U7 (Z6 Pg n) U (.cons (.asg 2 Ae (.fld (.v 3) "triple")) .nil)) else .bad)=.next [Af,Af,Aa (d3,Ae),Af]:=by
   rw[eh,KI];rcases hc with h|h
   .rw[Au h]
   .by_cases h':(Pg.up y.c).contains 107=Ab
    .rw[Au h']
    .rw[Ay h',Au h]
  rw[ei];intro Y' H' sx;have sm:Az H H':=λb o z=>sx.same b o z
  obtain⟨w2,hw2,cf⟩:=sx.good.sh 2 d3 rfl;exact⟨w2,hw2,hp w2 H' sm (Z7.sub (λb hb=>.inl hb) _ cf)⟩
 .rw[eG];exact λcls dx H' sm xr=>⟨xr,sm⟩
end
def Ap(a la pa:Ak):Ak->Prop:=λb=>b=a\/b=la\/b=pa
def Ad(a la:Ak):Ak->Prop:=λb=>b=a\/b=la
def NT(U:Rho):Prop:=∀(i:Ag)(d:D),U[i]?≠Aa (Aa (d,Ab))
noncomputable def Ä:Rho->Am
 |[]=>Ab
 |some (_,Ab)::_=>Ae
 |_::r=>Ä r
theorem Ir:∀{U:Rho},Ä U=Ab->NT U
 |[],_,i,d,h=>by simp at h
 |none::r,h,0,d,z=>by cases z
 |some (_,Ae)::r,h,0,d,z=>by cases z
 |some (_,Ab)::r,h,_,d,z=>by cases h
 |none::r,h,i+1,d,z=>Ir (U:=r) h i d z
 |some (_,Ae)::r,h,i+1,d,z=>Ir (U:=r) h i d z
noncomputable def tkR(U:Rho):Rho:=(U.set 2 (Aa (.O,Ab))).set 4 (Aa (.O,Ab))
noncomputable def FzD(H:Hp)(a pa:Ak):Fr:=⟨λb o=>H b=Aa o/\b≠a/\b≠pa,λj b o=>(j=2/\b=a/\H a=Aa o)\/(j=4/\b=pa/\H pa=Aa o)⟩
noncomputable abbrev BL(la:Ak):Ak->Prop:=λb=>b=la
structure LS (K:Fg) (CL:ClA) (C a la pa:Ak) (U:Rho) (q:Dk) (ps:Ac D) (Y:L2.St) (H:Hp):Prop where
 g:Y9 K CL (Ap a la pa) U Y H
 nt:NT U
 n2:U[2]?=Aa Af
 n4:U[4]?=Aa Af
 s2:Y[2]?=Aa (Aa (.ref a))
 s4:Y[4]?=Aa (Aa (.ref pa))
 hp:∃ xs,H pa=Aa (.L xs)/\Z9 K CL H (Ap a la pa) xs ps
 dk:DK K CL H (Ap a la pa) C a la q
 ne:pa≠la
def ig:Rho->Rho->Prop
 |[],[]=>F7
 |x::r,y::s=>(x=Af\/x=y)/\ig r s
 |_,_=>AN
theorem Vd:∀{r s:Rho}{i:Ag}{x:D×Am},ig r s->r[i]?=Aa (Aa x)->s[i]?=Aa (Aa x)
 |_::_,_::_,0,x,h,e=>by
  rcases h.1 with z|z
  .rw[z]at e;cases e
  .rw[z]at e;exact e
 |_::_,_::_,i+1,x,h,e=>Vd (i:=i) h.2 e
 |[],[],_,x,h,e=>by simp at e
 |[],_::_,_,_,h,_=>h.elim
 |_::_,[],_,_,h,_=>h.elim
theorem Vc:∀{r s:Rho},ig r s->r.length=s.length
 |[],[],_=>rfl
 |_::_,_::_,h=>congrArg (· + 1) (Vc h.2)
 |[],_::_,h=>h.elim
 |_::_,[],h=>h.elim
section
variable{K:Fg}{CL:ClA}{C a la pa:Ak}{U U':Rho}{q q':Dk}{ps:Ac D}{Y Y':L2.St}{H H':Hp}{A A':Ak->Prop}
theorem Y9.le(g:Y9 K CL A U Y H)(nt:NT U')(l:ig U' U)(k:∀ b,A' b->A b):Y9 K CL A' U' Y H:=
 ⟨λi d h=>let ⟨v,e,r⟩:=g.sh i d (Vd l h);⟨v,e,Z7.sub k _ r⟩,λi d h=>absurd h (nt i d),(Vc l).trans g.len⟩
theorem LS.neA(j:LS K CL C a la pa U q ps Y H):pa≠a:=λz=>by
 obtain⟨xs,h,_⟩:=j.hp;obtain⟨dx,v1,v2,v3,ys,h1,_⟩:=j.dk;rw[z,h1]at h;cases h
theorem LS.aok(j:LS K CL C a la pa U q ps Y H):Ty H (Ap a la pa):=λb hb=>by
 obtain⟨xs,h,_⟩:=j.hp;obtain⟨dx,v1,v2,v3,ys,h1,h2,_⟩:=j.dk;rcases hb with rfl|rfl|rfl
 .exact⟨_,h1,trivial⟩
 .exact⟨_,h2,trivial⟩
 .exact⟨_,h,trivial⟩
theorem IW:∀ b,Ad a la b->Ap a la pa b:=λb h=>h.imp id .inl
theorem Ty.sub(h:Ty H A)(k:∀ b,A' b->A b):Ty H A':=λb hb=>h b (k b hb)
theorem LS.same(j:LS K CL C a la pa U q ps Y H)(s:Az H H'):LS K CL C a la pa U q ps Y H':=
 ⟨j.g.same s,j.nt,j.n2,j.n4,j.s2,j.s4,let ⟨xs,h,r⟩:=j.hp;⟨xs,s _ _ h,r.same s⟩,j.dk.same s,j.ne⟩
theorem LS.le(j:LS K CL C a la pa U q ps Y H)(nt:NT U')(n2:U'[2]?=Aa Af)(n4:U'[4]?=Aa Af)(l:ig U' U):LS K CL C a la pa U' q ps Y H:=
 ⟨j.g.le nt l λ_ h=>h,nt,n2,n4,j.s2,j.s4,j.hp,j.dk,j.ne⟩
theorem LS.set{i:Ag}{v:V}{d:D}(j:LS K CL C a la pa U q ps Y H)(i2:i≠2)(i4:i≠4)(r:Z7 K CL H (Ap a la pa) v d):LS K CL C a la pa (U.set i (Aa (d,Ae))) q ps (Y.set i (Aa v)) H:=by
 have nt:NT (U.set i (Aa (d,Ae))):=λk e h=>by
  by_cases z:i=k
  .subst z;cases Ed h
  .rw[Bt z]at h;exact j.nt k e h
 refine⟨⟨λk e h=>?_,λk e h=>absurd h (nt k e),by rw[AT,AT];exact j.g.len⟩,nt,by rw[Bt i2];exact j.n2,by rw[Bt i4];exact j.n4,by rw[Bt i2];exact j.s2,by rw[Bt i4];exact j.s4,j.hp,j.dk,j.ne⟩
 by_cases z:i=k
 .subst z;cases Ed h;have hl:i<Y.length:=by
   rw[<-j.g.len];have:=(A5.mp h).1
   rwa [AT]at this
  exact⟨v,by rw[Bx hl],r⟩
 .rw[Bt z]at h ⊢;exact j.g.sh k e h
theorem LS.kb(j:LS K CL C a la pa U q ps Y H)(kb:KB a la H H')(d:DK K CL H' (Ap a la pa) C a la q'):LS K CL C a la pa U q' ps Y H':=by
 have kp:=kb.kp (A:=Ap a la pa) (.inl rfl) (.inr (.inl rfl));exact⟨⟨λi e h=>let ⟨v,z,r⟩:=j.g.sh i e h;⟨v,z,Z7.kp kp _ r⟩,λi e h=>absurd h (j.nt i e),j.g.len⟩,j.nt,j.n2,j.n4,j.s2,j.s4,let ⟨xs,h,r⟩:=j.hp;⟨xs,kb _ _ h j.neA j.ne,Z9.kp kp _ r⟩,d,j.ne⟩
theorem LS.put{xs:Ac V}{ds:Ac D}(j:LS K CL C a la pa U q ps Y H)(r:Z9 K CL H (Ap a la pa) xs ds):LS K CL C a la pa U q ds Y (upd H pa (.L xs)):=by
 have kp:Kp (Ap a la pa) H (upd H pa (.L xs)):=λb o e na=>by rw[AQ λz=>na (.inr (.inr z))];exact e
 obtain⟨dx,v1,v2,v3,ys,h1,h2,r4,r5,r6,r7⟩:=j.dk;exact⟨⟨λi e h=>let ⟨v,z,r⟩:=j.g.sh i e h;⟨v,z,Z7.kp kp _ r⟩,λi e h=>absurd h (j.nt i e),j.g.len⟩,j.nt,j.n2,j.n4,j.s2,j.s4,⟨xs,BK,Z9.kp kp _ r⟩,⟨dx,v1,v2,v3,ys,by rw[AQ (CF j.neA)];exact h1,by rw[AQ (CF j.ne)];exact h2,Z7.kp kp _ r4,Z7.kp kp _ r5,Z7.kp kp _ r6,Z9.kp kp _ r7⟩,j.ne⟩
theorem QD(nt:NT U){i:Ag}{d:D}(h:(tkR U)[i]?=Aa (Aa (d,Ab))):d=.O/\(i=2\/i=4):=by
 unfold tkR at h;by_cases z4:4=i
 .subst z4;cases Ed h;exact⟨rfl,.inr rfl⟩
 .rw[Bt z4]at h;by_cases z2:2=i
  .subst z2;cases Ed h;exact⟨rfl,.inl rfl⟩
  .rw[Bt z2]at h;exact absurd h (nt i d)
theorem uF{i:Ag}{d:D}(h:(tkR U)[i]?=Aa (Aa (d,Ae))):U[i]?=Aa (Aa (d,Ae)):=by
 unfold tkR at h;by_cases z4:4=i
 .subst z4;cases Ed h
 .rw[Bt z4]at h;by_cases z2:2=i
  .subst z2;cases Ed h
  .rw[Bt z2]at h;exact h
theorem Vj(n2:U[2]?=Aa Af):(tkR U)[2]?=Aa (Aa (.O,Ab)):=by
 unfold tkR;rw[Bt (by decide),Bx (A5.mp n2).1]
theorem Vx(n4:U[4]?=Aa Af):(tkR U)[4]?=Aa (Aa (.O,Ab)):=by
 unfold tkR;rw[Bx (by rw[AT];exact(A5.mp n4).1)]
theorem QN:(tkR U).length=U.length:=by unfold tkR;rw[AT,AT]
theorem jU{i:Ag}{d:D}(n2:U[2]?=Aa Af)(n4:U[4]?=Aa Af)(h:U[i]?=Aa (Aa (d,Ae))):(tkR U)[i]?=Aa (Aa (d,Ae)):=by
 unfold tkR;have z4:4≠i:=λz=>by rw[<-z,n4]at h;cases h
 have z2:2≠i:=λz=>by rw[<-z,n2]at h;cases h
 rw[Bt z4,Bt z2];exact h
theorem LS.sx(j:LS K CL C a la pa U q ps Y H):Sx K CL (FzD H a pa) (BL la) (tkR U) Y H:=by
 obtain⟨xs,h,_⟩:=j.hp;obtain⟨dx,v1,v2,v3,ys,h1,h2,_⟩:=j.dk;have at':∀{i:Ag}{d:D}{b:Ak},(tkR U)[i]?=Aa (Aa (d,Ab))->Y[i]?=Aa (Aa (.ref b))->(i=2/\b=a)\/(i=4/\b=pa):=λh e=>by
  rcases (QD j.nt h).2 with rfl|rfl
  .rw[j.s2]at e;cases e;exact .inl ⟨rfl,rfl⟩
  .rw[j.s4]at e;cases e;exact .inr ⟨rfl,rfl⟩
 have own:∀ b,BJ (BL la) (tkR U) Y b->Ap a la pa b:=λb h=>by
  rcases h with h|⟨i,d,h1,h2⟩
  .exact .inr (.inl h)
  .rcases at' h1 h2 with ⟨_,z⟩|⟨_,z⟩
   .exact .inl z
   .exact .inr (.inr z)
 refine⟨⟨λi d e=>let ⟨v,z,r⟩:=j.g.sh i d (uF e);⟨v,z,Z7.sub own _ r⟩,λi d e n=>absurd (QD j.nt e).1 n,QN.trans j.g.len⟩,Ty.sub j.aok own,λi d b e1 e2=>?_,λi k d e b x1 x2 x3 x4=>?_,λb o z=>z.1,QN.trans j.g.len,λi e=>?_⟩
 .rcases at' e1 e2 with ⟨_,z⟩|⟨_,z⟩
  .exact⟨λo y=>y.2.1 z,λy=>by have y:b=la:=y;rw[y]at z;rw[z,h1]at h2;cases h2⟩
  .exact⟨λo y=>y.2.2 z,λy=>j.ne (z.symm.trans y)⟩
 .rcases at' x1 x3 with ⟨z1,z2⟩|⟨z1,z2⟩<;>rcases at' x2 x4 with ⟨z3,z4⟩|⟨z3,z4⟩
  .rw[z1,z3]
  .exact absurd (z4.symm.trans z2) j.neA
  .exact absurd (z2.symm.trans z4) j.neA
  .rw[z1,z3]
 .rcases (QD j.nt e).2 with rfl|rfl
  .exact⟨a,_,.inl ⟨rfl,rfl,h1⟩,j.s2,h1⟩
  .exact⟨pa,_,.inr ⟨rfl,rfl,h⟩,j.s4,h⟩
theorem LS.nx(j:LS K CL C a la pa U q ps Y H)(nt:NT U')(n2:U'[2]?=Aa Af)(n4:U'[4]?=Aa Af)(x:Sx K CL (FzD H a pa) (BL la) (tkR U') Y' H'):Az H H'/\LS K CL C a la pa U' q ps Y' H':=by
 obtain⟨b2,o2,p2,s2,h2⟩:=x.pin 2 (Vj n2);obtain⟨b4,o4,p4,s4,h4⟩:=x.pin 4 (Vx n4);have e2:b2=a/\H a=Aa o2:=by
  rcases p2 with ⟨_,z1,z2⟩|⟨z,_⟩
  .exact⟨z1,z2⟩
  .cases z
 have e4:b4=pa/\H pa=Aa o4:=by
  rcases p4 with ⟨z,_⟩|⟨_,z1,z2⟩
  .cases z
  .exact⟨z1,z2⟩
 obtain⟨rfl,ha⟩:=e2;obtain⟨rfl,hp⟩:=e4;have sm:Az H H':=λb o e=>by
  by_cases z1:b=b2
  .subst z1;rw[ha]at e;cases e;exact h2
  .by_cases z2:b=b4
   .subst z2;rw[hp]at e;cases e;exact h4
   .exact x.same b o ⟨e,z1,z2⟩
 have own:∀ b,Ap b2 la b4 b->BJ (BL la) (tkR U') Y' b:=λb h=>by
  rcases h with rfl|rfl|rfl
  .exact .inr ⟨2,.O,Vj n2,s2⟩
  .exact .inl rfl
  .exact .inr ⟨4,.O,Vx n4,s4⟩
 have j':=j.same sm;exact⟨sm,⟨λi d e=>let ⟨v,z,r⟩:=x.good.sh i d (jU n2 n4 e);⟨v,z,Z7.sub own _ r⟩,λi d e=>absurd e (nt i d),QN.symm.trans x.len⟩,nt,n2,n4,s2,s4,j'.hp,j'.dk,j'.ne⟩
end
section
variable{X:Cx}{CL:ClA}{W:XW}{C:Ak}
inductive nj (K:Fg) (CL:ClA) (C:Ak) (f:Rho->O) (D:xk) (Y:L2.St) (H:Hp):Prop where
 |i {a la pa U U' q ps} (j:LS K CL C a la pa U q ps Y H) (e:f (tkR U)=.next (tkR U')) (nt:Ä U'=Ab) (n2:U'[2]?=Aa Af) (n4:U'[4]?=Aa Af) (k:∀ Y' H',Az H H'->LS K CL C a la pa U' q ps Y' H'->D.nx Y' H'):nj K CL C f D Y H
theorem Ow{st:AL}{f:Rho->O}(h:SS X CL W st f):PS X st (nj X.K CL C f):=by
 rintro pI s Y H D I ⟨j,e,nt,n2,n4,k⟩;refine h _ _ pI s Y H D I ⟨_,j.sx,?_⟩;rw[e];intro Y' H' x';obtain⟨sm,j'⟩:=j.nx (Ir nt) n2 n4 x';exact k Y' H' sm j'
theorem qO{vo:Ac AL}{f:Rho->O}(h:vq X CL W vo f):ye X vo (nj X.K CL C f):=by
 rintro pI s Y H D I ⟨j,e,nt,n2,n4,k⟩;refine h _ _ pI s Y H D I ⟨_,j.sx,?_⟩;rw[e];intro Y' H' x';obtain⟨sm,j'⟩:=j.nx (Ir nt) n2 n4 x';exact k Y' H' sm j'
theorem Ru{e:Aq}{t:α->TE}(h:∀ A,PE X e (t A)):PE X e (λY H Q=>∃ A,t A Y H Q):=λpI s Y H Q I ⟨A,q⟩=>h A pI s Y H Q I q
theorem Mp{e:Aq}{t:α->TT}(h:∀ A,PT X e (t A)):PT X e (λY H Q=>∃ A,t A Y H Q):=λpI s Y H Q I ⟨A,q⟩=>h A pI s Y H Q I q
end
noncomputable def wj(ps R A:Ac Ah)(st:AL):Am:=(AG st).kind==.function&&(!(AG st).isCoroutine&&(!(AG st).isGenerator&&(JC (R++A)&&((R++A).take ps.length==ps&&(ps.all (λx=>(AG st).names.lookup x==Aa .local)&&(R.all (λx=>(AG st).names.lookup x==Aa .local||(AG st).names.lookup x==Aa .cell)&&(AG st).names.all (λy=>y.2 != .free)))))))
structure ScL (ps R A:Ac Ah) (st:AL):Prop where
 fs:zx (R++A) ps (AG st)
 loc:∀ x∈R,(AG st).names.lookup x=Aa .local\/(AG st).names.lookup x=Aa .cell
theorem qQ{ps R A:Ac Ah}{st:AL}(h:wj ps R A st=Ab):ScL ps R A st:=by
 unfold wj at h;simp only[An,BV,AF,Bf,Bh,E8,JT]at h;obtain⟨c1,c2,c3,c4,c5,c6,c7,c8⟩:=h;exact⟨⟨c1,c2,c3,II c4,c5,λx hx=>.inl (c6 x hx),c8⟩,c7⟩
section
variable{P:AK}{w:AH}{K:Fg}{mg:Ah->Ao Al}{base:AI}{CL:ClA}{fns:Ac (Ah×Ag×Ag)}{bl:Ac Ah}{rzs exs gls:Ac (Ah×Ag)}{Pg:Prg}{fuel n:Ag}
theorem zT(t:wl K mg CL fns bl rzs exs gls Pg fuel){ps N:Ac Ah}{st:AL}{f:Ak}{A:A4}{s:Ar}{E:XK}(fs:zx N ps (AG st))(hr:U6 n (A.deeper (D3 qual (AG st) s.heap.objs.size f cdv))):VX (Z6 Pg n) CL n (WE K CL E) ⟨AG st,N,fns,bl,rzs,exs,gls,Ab⟩ (B0 (CXR P w) P w K mg base N qual (AG st) f cdv A outer s H E):=by
 have hW:∀ x cls dx H',WE K CL E x H'->Dr K CL H' cls dx x->E cls dx H':=λx cls dx H' z r=>z cls dx r
 have xt:XT (Z6 Pg n).up (Z6 Pg n).xn CL rzs exs K mg:=by rw[KI,Lf];exact t.xt
 have gl:∀ p∈gls,JQ K mg CL p.1 ((Z6 Pg n).G p.2):=by rw[KJ];exact t.gl
 exact⟨rfl,fs.kind,rfl,fs.nd,rfl,hr,t.bln,t.os,Vl t n,Vk t n,ra,Oz hW,Ð hW,xt,gl,λ_=>rfl⟩
end
noncomputable def zy(l k w pt row due:Sl)(scr p:D):Rho:=[Aa (scr,Ae),Aa (p,Ae),Af,l,Af,k,w,pt,row,due,Af,Af,Af]
noncomputable abbrev Z5(d:D):Sl:=Aa (d,Ae)
noncomputable def t6:E:=.cmp .In (.x (.v 9) (.int 0)) (.H {.str "alike",.str "not on"})
noncomputable def t7:E:=.and {.cmp .Eq (.x (.v 9) (.int 0)) (.str "told"),.cmp .Eq (.v 6) (.str "undo")}
noncomputable def t8:E:=.and {.cmp .Eq (.x (.v 9) (.int 0)) (.str "told"),.cmp .NotEq (.v 6) (.str "points")}
noncomputable def t9:E:=.cmp .NotEq (.v 10) (.v 9)
def LB(Z:Z4)(s1 s2 s3:S)(e4:E)(bb:Ss)(GS GY:Dk->Ac D->RK)(scr p:D)(fin:Dk->Ac D->Prop):Ac Ai->Dk->Ac D->Ac D->Prop
  |[],q,l,_=>fin q l
  |k::ks,q,l,ps=>∃(w row dw:Ah)(pt dd fd:D)(q':Dk),
      yt Z (tkR (zy (Z5 (.L l)) (Z5 (.int k)) Af Af Af Af scr p)) s1=.next (tkR (zy (Z5 (.L l)) (Z5 (.int k)) (Z5 (.str w)) (Z5 pt) Af Af scr p)) /\
      yt Z (tkR (zy (Z5 (.L l)) (Z5 (.int k)) (Z5 (.str w)) (Z5 pt) Af Af scr p)) s2=.next (tkR (zy (Z5 (.L l)) (Z5 (.int k)) (Z5 (.str w)) (Z5 pt) (Z5 (.str w)) Af scr p)) /\
      yt Z (tkR (zy (Z5 (.L l)) (Z5 (.int k)) (Z5 (.str w)) (Z5 pt) (Z5 (.str w)) Af scr p)) s3=.next (tkR (zy (Z5 (.L l)) (Z5 (.int k)) (Z5 (.str w)) (Z5 pt) (Z5 (.str row)) Af scr p)) /\
      evE Z [Af,Af,Af,Z5 (.L l),Z5 (.L ps),Af,Z5 (.str w),Z5 pt,Af,Af,Af,Af,Af] e4=.ok (.H [.str dw,dd]) /\
      GS q [.str row]=.ok fd q'/\Y8 5 fd=Ab/\Y8 5 (.H [.str dw,dd])=Ab/\Tm fd (.H [.str dw,dd])=Ab /\
      ((dw = "alike"\/dw = "not on")->∃ y d,GY q' [.str row]=.exn y/\((Z.up y.c).contains 107=Ab\/(Z.up y.c).contains 108=Ab)/\y.fs=[(("triple" : Ah),d)]/\Y8 5 d=Ab/\Y8 5 pt=Ab/\Tm d pt=Ab) /\
      (if dw = "told"/\w = "undo" then ∃ l',ps.getLast?=Aa (.L l')/\LB Z s1 s2 s3 e4 bb GS GY scr p fin ks q' l' ps.dropLast
       else if dw = "told"/\w≠"points" then ps.length<900/\∃ l',U7 Z (tkR (zy (Z5 (.L l)) (Z5 (.int k)) (Z5 (.str w)) (Z5 pt) Af Af scr p)) bb=.next (tkR (zy (Z5 (.L l')) (Z5 (.int k)) (Z5 (.str w)) (Z5 pt) Af Af scr p))/\LB Z s1 s2 s3 e4 bb GS GY scr p fin ks q' l' (ps++[.L l])
       else LB Z s1 s2 s3 e4 bb GS GY scr p fin ks q' l ps)
theorem wT(h:U[9]?=Aa (Z5 (.H [.str dw,dd]))):(top U t6 (evE Z U t6)).bind Bq=.ok (("alike" == dw)||(("not on" == dw)||false)):=by
 have e2:CS U 9=.ok (.H [.str dw,dd]):=by unfold CS;rw[h]
 unfold t6;rw[N7,KA];have e3:top U (.x (.v 9) (.int 0)) (evE Z U (.x (.v 9) (.int 0)))=.ok (.str dw):=by
  show evE Z U (.x (.v 9) (.int 0))=_;rw[N5,Ip,e2];rfl
 rw[e3];rfl
theorem Wy{dw s:Ah}(h:U[9]?=Aa (Z5 (.H [.str dw,dd]))):evE Z U (.cmp .Eq (.x (.v 9) (.int 0)) (.str s))=.ok (.bl (dw==s)):=by
 have e2:CS U 9=.ok (.H [.str dw,dd]):=by unfold CS;rw[h]
 rw[KA];have e3:top U (.x (.v 9) (.int 0)) (evE Z U (.x (.v 9) (.int 0)))=.ok (.str dw):=by
  show evE Z U (.x (.v 9) (.int 0))=_;rw[N5,Ip,e2];rfl
 rw[e3];rfl
theorem wS{w:Ah}(h:U[9]?=Aa (Z5 (.H [.str dw,dd])))(h':U[6]?=Aa (Z5 (.str w))):(top U t7 (evE Z U t7)).bind Bq=.ok (decide (dw = "told"/\w = "undo")):=by
 have e2:CS U 6=.ok (.str w):=by unfold CS;rw[h']
 have e3:evE Z U (.cmp .Eq (.v 6) (.str "undo"))=.ok (.bl (w == "undo")):=by
  rw[KA,Ip,e2];rfl
 show (evN Z U (.cons _ (.cons _ .nil))).bind Bq=_;rw[Uu,Wy h];show (if (dw == "told")=Ab then evN Z U (.cons (.cmp .Eq (.v 6) (.str "undo")) .nil) else R.ok (D.bl Ae)).bind Bq=_
 by_cases z:dw = "told"
 .rw[Au (AF.mpr z)];show (evE Z U (.cmp .Eq (.v 6) (.str "undo"))).bind Bq=_;rw[e3];show R.ok (w == "undo")=_
  congr 1
  by_cases z2:w = "undo"
  .rw[CG ⟨z,z2⟩];exact AF.mpr z2
  .rw[BH λy=>z2 y.2];exact Bg.mpr z2
 .rw[Ay (by rw[AF];exact z),BH λy=>z y.1]
  rfl
theorem wR{w:Ah}(h:U[9]?=Aa (Z5 (.H [.str dw,dd])))(h':U[6]?=Aa (Z5 (.str w))):(top U t8 (evE Z U t8)).bind Bq=.ok (decide (dw = "told"/\w≠"points")):=by
 have e2:CS U 6=.ok (.str w):=by unfold CS;rw[h']
 have e3:evE Z U (.cmp .NotEq (.v 6) (.str "points"))=.ok (.bl (!(w == "points"))):=by
  rw[KA,Ip,e2];rfl
 show (evN Z U (.cons _ (.cons _ .nil))).bind Bq=_;rw[Uu,Wy h];show (if (dw == "told")=Ab then evN Z U (.cons (.cmp .NotEq (.v 6) (.str "points")) .nil) else R.ok (D.bl Ae)).bind Bq=_
 by_cases z:dw = "told"
 .rw[Au (AF.mpr z)];show (evE Z U (.cmp .NotEq (.v 6) (.str "points"))).bind Bq=_;rw[e3];show R.ok (!(w == "points"))=_
  congr 1
  by_cases z2:w = "points"
  .rw[BH λy=>y.2 z2,AF.mpr z2];rfl
  .rw[CG ⟨z,z2⟩,Bg.mpr z2];rfl
 .rw[Ay (by rw[AF];exact z),BH λy=>z y.1]
  rfl
section
variable{K:Fg}{CL:ClA}{C a la pa:Ak}{U:Rho}{q:Dk}{ps:Ac D}{Y:L2.St}{H H':Hp}
theorem OP.rep{A':Ak->Prop}{v x:V}{d:D}(r:OP K CL H A H' v x d)(k:∀ b,A' b->A b):Z7 K CL H' A' v d:=by
 obtain⟨nm,d2,t,rfl,rfl,h,na,rc⟩:=r;exact⟨t,[.str nm,x],rfl,.inl λz=>na (k _ z),yk.of h,rfl,Z7.sub k _ rc.1,trivial⟩
theorem LS.past(j:LS K CL C a la pa U q ps Y H):Z7 K CL H (Ad a la) (.ref pa) (.L ps):=by
 obtain⟨xs,h,r⟩:=j.hp;exact⟨pa,xs,rfl,.inl λz=>z.elim j.neA j.ne,IO.of h,Z9.sub IW _ r⟩
end
section
variable{K:Fg}{CL:ClA}{C a la pa:Ak}{U U':Rho}{q:Dk}{ps:Ac D}{Y:L2.St}{H H':Hp}
theorem LS.junk{i:Ag}{v:Ao V}(j:LS K CL C a la pa U q ps Y H)(i2:i≠2)(i4:i≠4)(hn:U[i]?=Aa Af):LS K CL C a la pa U q ps (Y.set i v) H:=by
 refine⟨⟨λk e h=>?_,λk e h=>absurd h (j.nt k e),by rw[AT];exact j.g.len⟩,j.nt,j.n2,j.n4,by rw[Bt i2];exact j.s2,by rw[Bt i4];exact j.s4,j.hp,j.dk,j.ne⟩
 have z:i≠k:=λz=>by rw[<-z,hn]at h;cases h
 rw[Bt z];exact j.g.sh k e h
theorem LS.at{i:Ag}{v:V}(j:LS K CL C a la pa U q ps Y H)(hn:U[i]?=Aa Af):(Y.set i (Aa v))[i]?=Aa (Aa v):=by
 rw[Bx];rw[<-j.g.len];exact(A5.mp hn).1
theorem LS.look{i:Ag}{v:V}{d:D}(j:LS K CL C a la pa U q ps Y H)(nt:Ä U'=Ab)(l:ig U' U)(k:∀ b,A b->Ap a la pa b)(hi:Y[i]?=Aa (Aa v))(r:Z7 K CL H A v d):Y9 K CL A (U'.set i (Aa (d,Ae))) Y H:=by
 have g:=j.g.le (Ir nt) l k;refine⟨λm e h=>?_,λm e h=>?_,by rw[AT];exact g.len⟩
 .by_cases z:i=m
  .subst z;cases Ed h;exact⟨v,hi,r⟩
  .rw[Bt z]at h;exact g.sh m e h
 .by_cases z:i=m
  .subst z;cases Ed h
  .rw[Bt z]at h;exact absurd h (Ir nt m e)
end
theorem wQ{d9 gj:D}(h9:U[9]?=Aa (Z5 d9))(h10:U[10]?=Aa (Z5 gj))(f9:Y8 5 d9=Ab)(f10:Y8 5 gj=Ab)(e:Tm gj d9=Ab):(top U t9 (evE Z U t9)).bind Bq=.ok Ae:=by
 have e2:CS U 9=.ok d9:=by unfold CS;rw[h9]
 have e3:CS U 10=.ok gj:=by unfold CS;rw[h10]
 unfold t9;rw[N7,KA,Ip,Ip,e2,e3];show (if (Y8 5 gj&&Y8 5 d9)=Ab then R.ok (D.bl (!Tm gj d9)) else .bad).bind Bq=_
 rw[Au (by rw[f9,f10];rfl),e]
 rfl
noncomputable abbrev xp:Ac Ah:=["_law_script", "_law_p", "_law_desk", "_law_listed", "_law_past", "_law_k", "_law_word", "_law_point", "_law_row_here", "_law_due_here", "_law_found"]
noncomputable abbrev xl:Ac Ah:=["#11", "#12"]
def XS(Z:Z4)(c1 cB:E)(s1 s2 s3:S)(e4:E)(bb:Ss)(s6:S)(GS GY:Dk->Ac D->RK)(scr:D):Prop:=∃(p:D)(m:Ai),evE Z [Z5 scr,Af,Af,Af,Af,Af,Af,Af,Af,Af,Af,Af,Af] c1=.ok p/\evE Z (zy (Z5 (.L [])) Af Af Af Af Af scr p) cB=.ok (.int m)/\0<=m/\m<=1000 /\
 LB Z s1 s2 s3 e4 bb GS GY scr p (λq l=>∃ ts xh,yt Z (tkR (zy (Z5 (.L l)) Af Af Af Af Af scr p)) s6=.next (tkR (zy (Z5 (.L l)) Af Af Af Af (Z5 (.H [.str "told",.L ts])) scr p))/\GS q [.str "points"]=.ok (.H [.str "told",.L xh]) q/\Y8 4 (.L ts)=Ab/\Y8 4 (.L xh)=Ab/\LT xh ts=Ab/\xh.length<900) ((BO (m-1).toNat).map fun(i:Ag)=>1+(i:Ai)) ⟨p,[],.O,[]⟩ [] []
theorem VD{d d':D}(f1:Y8 5 d=Ab)(f2:Y8 5 d'=Ab)(e:Tm d d'=Ab):BP .NotEq d d'=.ok (.bl Ae):=by
 show (if (Y8 5 d&&Y8 5 d')=Ab then R.ok (D.bl (!Tm d d')) else .bad)=_
 rw[Au (by rw[f1,f2];rfl),e]
 rfl
theorem nU{d d':D}(f1:Y8 5 d=Ab)(f2:Y8 5 d'=Ab)(e:Tm d d'=Ab):BP .Eq d d'=.ok (.bl Ab):=by
 show (if (Y8 5 d&&Y8 5 d')=Ab then R.ok (D.bl (Tm d d')) else .bad)=_
 rw[Au (by rw[f1,f2];rfl),e]
section
variable{P:AK}{w:AH}{K:Fg}{mg:Ah->Ao Al}{base:AI}{CL:ClA}{fns:Ac (Ah×Ag×Ag)}{bl:Ac Ah}{rzs exs gls:Ac (Ah×Ag)}{Pg:Prg}{fuel n:Ag}{C:Ak}
theorem pU(t:wl K mg CL fns bl rzs exs gls Pg fuel){st:AL}{x1 yB x4 x6 x7 x8 x9:Aq}{aB:Ac Aq}{kB:Ac CV}{b1 b2 b3 b6 r5 r6 r8:AL}{bs:Ac AL}{f fI fs ff:Ak}{fId fsd ffd:Bj}{k1 k2 k3 k4 k5}{bx bz kn iw ix Ë b7 b8 b9 Ì Í Î p37 p38 p39 p40 p41 p42 p43 p44 p45 p46 p47 p48 p49 p50 p51 p52 p53 p54 p55 p56 p57 p58 p59 p60 p61 p62 p63 p64 p65 p66 p67 p68 p69:AE}{c1 cB c4:E}{s1 s2 s3 s6:S}{bb:Ss}{GS:Dk->Ac D->RK}(dc:ub K C)(hf:yx K x qual st f fd)(hs:wj ["_law_script"] xp xl st=Ab)
  (hb:Dh st=[.Assign [.Name "_law_p" p1] x1 p2,.Assign [.Name "_law_desk" p3] (.Call (.Name "Desk" p4) [.Name "_law_p" p5] [] p6) p7,.Assign [.Name "_law_listed" p8] (.List [] p9) p10,.Assign [.Name "_law_past" wp] (.List [] vw) ui,
   .For (.Name "_law_k" tm) (.Call (.Name "range" tz) [.Constant (.int 1) k1 t4,.Call yB aB kB p69] [] uw) [b1,b2,b3,.Assign [.Name "_law_due_here" t5] x4 oq,
    .If (.Compare (.Call (.Name "_law_said" mz) [.Name "_law_desk" m6,.Name "_law_row_here" km] [] bw) [.NotEq] [.Name "_law_due_here" iv] bx) [r5] [] bz,
    .If (.BoolOp .And [x6,.Compare (.Call (.Name "_law_field" kn) [.Name "_law_desk" iw,.Name "_law_row_here" ix] [] Ë) [.NotEq] [.Name "_law_point" b7] b8] b9) [r6] [] Ì,
    .If x7 [.Assign [.Name "_law_listed" Í] (.Call (.Attribute (.Name "_law_past" Î) "pop" p37) [] [] p38) p39] [.If x8 (.Expr (.Call (.Attribute (.Name "_law_past" p40) "append" p41) [.Name "_law_listed" p42] [] p43) p44::bs) [] p45] p46] [] p47,
   b6,.Assign [.Name "_law_found" p48] (.Call (.Name "_law_said" p49) [.Name "_law_desk" p50,.Constant (.str "points") k2 p51] [] p52) p53,.If x9 [r8] [] p54,
   .Expr (.Call (.Attribute (.Subscript (.Name "_law_found" p55) (.Constant (.int 1) k3 p56) p57) "append" p58) [.Constant (.str "( )") k4 p59] [] p60) p61,
   .Return (Aa (.Compare (.Call (.Name "_law_said" p62) [.Name "_law_desk" p63,.Constant (.str "points") k5 p64] [] p65) [.Eq] [.Name "_law_due_here" p66] p67)) p68])
  (hln:((p37.endLine==p38.line)&&((p41.endLine==p43.line)&&(p58.endLine==p60.line)))=Ab)
  (qm:(zc ⟨AG st,xp++xl,fns,bl,rzs,exs,gls,Ab⟩ "Desk" && (zc ⟨AG st,xp++xl,fns,bl,rzs,exs,gls,Ab⟩ "_law_said" && (zc ⟨AG st,xp++xl,fns,bl,rzs,exs,gls,Ab⟩ "_law_field" && xu ⟨AG st,xp++xl,fns,bl,rzs,exs,gls,Ab⟩ "range")))=Ab)
  (nc:(F8 x1&&F8 x4)=Ab)
  (g1:Be fuel ⟨AG st,xp++xl,fns,bl,rzs,exs,gls,Ab⟩ x1 c1=Ab) (gB:Be fuel ⟨AG st,xp++xl,fns,bl,rzs,exs,gls,Ab⟩ (.Call yB aB kB p69) cB=Ab) (g4:Be fuel ⟨AG st,xp++xl,fns,bl,rzs,exs,gls,Ab⟩ x4 c4=Ab)
  (gb1:Jd fuel ⟨AG st,xp++xl,fns,bl,rzs,exs,gls,Ab⟩ b1 s1=Ab) (gb2:Jd fuel ⟨AG st,xp++xl,fns,bl,rzs,exs,gls,Ab⟩ b2 s2=Ab) (gb3:Jd fuel ⟨AG st,xp++xl,fns,bl,rzs,exs,gls,Ab⟩ b3 s3=Ab) (gb6:Jd fuel ⟨AG st,xp++xl,fns,bl,rzs,exs,gls,Ab⟩ b6 s6=Ab) (gbs:zu fuel ⟨AG st,xp++xl,fns,bl,rzs,exs,gls,Ab⟩ bs bb=Ab)
  (g6:Eb fuel ⟨AG st,xp++xl,fns,bl,rzs,exs,gls,Ab⟩ x6 t6=Ab) (g7:Eb fuel ⟨AG st,xp++xl,fns,bl,rzs,exs,gls,Ab⟩ x7 t7=Ab) (g8:Eb fuel ⟨AG st,xp++xl,fns,bl,rzs,exs,gls,Ab⟩ x8 t8=Ab) (g9:Eb fuel ⟨AG st,xp++xl,fns,bl,rzs,exs,gls,Ab⟩ x9 t9=Ab)
  (MI:Mk K C fI) (mD:mg "Desk" = Aa (.ref C)) (bI:CW K fId ["self", "p"] []) (FI:Y4 P w K mg base (CXR P w) n fI fId ["self", "p"] (spN C))
  (mS:mg "_law_said" = Aa (.ref fs)) (kS:Ba K (.ref fs)=Ab) (bS:CW K fsd ["_law_desk", "_law_row_here"] []) (FS:Y4 P w K mg base (CXR P w) (n+1) fs fsd ["_law_desk", "_law_row_here"] (spS K CL C 1 GS))
  (mF:mg "_law_field" = Aa (.ref ff)) (kF:Ba K (.ref ff)=Ab) (bF:CW K ffd ["_law_desk", "_law_row_here"] []) (FF:Y4 P w K mg base (CXR P w) (n+1) ff ffd ["_law_desk", "_law_row_here"] (spF K CL Pg.up C G))
  (hL:∀ ns:Ac Ai,ns.length<=63->XS (Z6 Pg (n+1)) c1 cB s1 s2 s3 c4 bb s6 GS G (.L (ns.map .int))):
  Y4 P w K mg base (CXR P w) (n+1+1) f fd ["_law_script"] (Nq K):=by
 obtain⟨oc,od,dV,kV,doc,pm,an,cdv,ct,osl,rfl,lk,zo⟩:=hf.ex;have sc:=qQ hs;refine Hq lk zo sc.fs (λvs H Q E ⟨a,ns,e,z,_⟩=>by rw[e];rfl) λA outer s H vs Q E hr ⟨a0,ns,e,U8,hS,hq⟩=>?_
 subst e;rw[hb];have v:=zT (P:=P) (w:=w) (base:=base) (outer:=outer) (H:=H) (E:=E) t sc.fs hr;obtain⟨hl1,lz⟩:=A9 hln;obtain⟨lz,hl3⟩:=A9 lz;obtain⟨jw,wv⟩:=A9 qm;obtain⟨wv,hg3⟩:=A9 wv;obtain⟨hg3,hg4⟩:=A9 hg3;obtain⟨gr,mr,_,_⟩:=Hm v hg4;obtain⟨bp,nc4⟩:=A9 nc;have pv:∀(i:Ag)(nm:Ah)(p:AE),(xp++xl)[i]?=Aa nm->nm∈xp->(nm==("__debug__" : Ah))=Ae->(nm==("__classdict__" : Ah))=Ae->PE (B0 (CXR P w) P w K mg base (xp++xl) qual (AG st) f cdv A outer s H E) (.Name nm p) (Ch i):=λi nm p h hm d1 d2=>Dw h ((sc.loc nm hm).imp_right .inl) d1 d2
 have gD:Gl (B0 (CXR P w) P w K mg base (xp++xl) qual (AG st) f cdv A outer s H E) "Desk" := AF.mp jw;have gS:Gl (B0 (CXR P w) P w K mg base (xp++xl) qual (AG st) f cdv A outer s H E) "_law_said" := AF.mp wv;have gF:Gl (B0 (CXR P w) P w K mg base (xp++xl) qual (AG st) f cdv A outer s H E) "_law_field" := AF.mp hg3;have E1:=((ze fuel).e _ _ _ x1 _ v g1).se A0;have EB:=((ze fuel).e _ _ _ (.Call yB aB kB p69) _ v gB).se;have E4:=((ze fuel).e _ _ _ x4 _ v g4).se;have S1:=(IZ fuel).s _ _ _ b1 _ v ⟨λ_=>rfl,rfl,rfl,rfl⟩ gb1
 have S2:=(IZ fuel).s _ _ _ b2 _ v ⟨λ_=>rfl,rfl,rfl,rfl⟩ gb2
 have S3:=(IZ fuel).s _ _ _ b3 _ v ⟨λ_=>rfl,rfl,rfl,rfl⟩ gb3
 have S6:=(IZ fuel).s _ _ _ b6 _ v ⟨λ_=>rfl,rfl,rfl,rfl⟩ gb6
 have SB':=(IZ fuel).ss _ _ _ bs _ v ⟨λ_=>rfl,rfl,rfl,rfl⟩ gbs
 have C6:=(ze fuel).b _ _ _ x6 _ v g6;have C7:=(ze fuel).b _ _ _ x7 _ v g7;have C8:=(ze fuel).b _ _ _ x8 _ v g8;have C9:=(ze fuel).b _ _ _ x9 _ v g9;have B6:PT (B0 (CXR P w) P w K mg base (xp++xl) qual (AG st) f cdv A outer s H E) (.BoolOp .And [x6,.Compare (.Call (.Name "_law_field" kn) [.Name "_law_desk" iw,.Name "_law_row_here" ix] [] Ë) [.NotEq] [.Name "_law_point" b7] b8] b9) (λY H' Q'=>∃ a la pa l k w' scr p U q ps dv dw row dd pt,LS K CL C a la pa U q ps Y H'/\Y[9]?=Aa (Aa dv)/\Z7 K CL H' (Ad a la) dv (.H [.str dw,dd])/\((dw = "alike"\/dw = "not on")->∃ y d,G q [.str row]=.exn y/\(((Z6 Pg (n+1)).up y.c).contains 107=Ab\/((Z6 Pg (n+1)).up y.c).contains 108=Ab)/\y.fs=[(("triple" : Ah),d)]/\Y8 5 d=Ab/\Y8 5 pt=Ab/\Tm d pt=Ab)/\U=zy l k w' (Z5 pt) (Z5 (.str row)) Af scr p/\∀ H2,Az H' H2->Q' Ae H2):=by
  refine PT.weak (PW.pt (QK (Mp C6) (UG (Mp λA=>L7 (IM (W:=WE K CL E) (CL:=CL) v.room.units .NotEq A) (Kg FF v.room gF mF kF bF .nil (v.px A0) (Bw (pv 2 _ iw rfl (by simp) rfl rfl) (Bw (pv 8 _ ix rfl (by simp) rfl rfl) Cf rfl) rfl) (by decide) rfl rfl) (pv 7 _ b7 rfl (by simp) rfl rfl) rfl)))) ?_
  rintro Y H' Q' ⟨a,la,pa,l,k,w',scr,p,U,q,ps,dv,dw,row,dd,pt,j,e9,iz,y6,rfl,hQ⟩;refine⟨Ad a la,Ty.sub j.aok IW,_,j.look (i:=9) (U':=[Af,Af,Af,Af,Af,Af,Af,Af,Af,Af,Af,Af,Af]) rfl ⟨.inl rfl,.inl rfl,.inl rfl,.inl rfl,.inl rfl,.inl rfl,.inl rfl,.inl rfl,.inl rfl,.inl rfl,.inl rfl,.inl rfl,.inl rfl,trivial⟩ IW e9 iz,Il (wT rfl) λH1 ox=>?_⟩
  by_cases hx:dw = "alike"\/dw = "not on"
  .have hc:(("alike" == dw)||(("not on" == dw)||false))=Ab:=by
    rcases hx with rfl|rfl
    .rfl
    .rfl
   rw[hc,Au rfl];have j1:=j.same ox;obtain⟨y,d,e1,e2,e3,e4,e5,e6⟩:=y6 hx;obtain⟨rv,hrv,rrv⟩:=j1.g.sh 8 (.str row) rfl;obtain⟨tv,htv,rtv⟩:=j1.g.sh 7 pt rfl;rw[KI]at e2;refine⟨Ap a la pa,.ref a,j1.s2,rv,hrv,a,la,[rv],[.str row],Ap a la pa,q,y,d,rfl,rfl,j1.aok,.inl rfl,.inr (.inl rfl),⟨rrv,trivial⟩,j1.dk,e1,e2,e3,λv5 H5 uk r5=>?_⟩
   exact⟨tv,htv,j1.aok.same uk,d,pt,.inl r5,.inl (rtv.same uk),Lb (VD e4 e5 e6) λb5 ja rj rb=>⟨Ae,rb,hQ ja ((ox.trans uk).trans rj)⟩⟩
  .have hc:(("alike" == dw)||(("not on" == dw)||false))=Ae:=by
    rw[DQ,Bool.or_eq_false_iff];exact⟨Bg.mpr λz=>hx (.inl z.symm),Bg.mpr λz=>hx (.inr z.symm)⟩
   rw[hc,Ay Ax];exact hQ H1 ox
 refine⟨_,B9 (EH (i:=1) sc.fs.nd rfl (sc.loc "_law_p" (by simp)) E1 (HK bp) (.inl rfl))
  (B9 (EH (i:=2) sc.fs.nd rfl (sc.loc "_law_desk" (by simp)) (lP MI FI v.room gD mD bI .nil (v.px A0) (Bw (pv 1 _ p5 rfl (by simp) rfl rfl) Cf rfl)) rfl (.inl rfl))
  (B9 (EH (i:=3) sc.fs.nd rfl (sc.loc "_law_listed" (by simp)) (Ma Cf) rfl (.inl rfl))
  (B9 (EH (i:=4) sc.fs.nd rfl (sc.loc "_law_past" (by simp)) (Ma Cf) rfl (.inl rfl))
  (B9 (V4 v.own rfl (TF gr mr (Bw Ol (Bw (Ru EB) Cf rfl) rfl)) (M0 (i:=5) sc.fs.nd rfl (sc.loc "_law_k" (by simp)) (.inl rfl))
   (B9 (Ow (C:=C) S1) (B9 (Ow (C:=C) S2) (B9 (Ow (C:=C) S3) (B9 (EH (i:=9) sc.fs.nd rfl (sc.loc "_law_due_here" (by simp)) (Ru E4) (HK nc4) (.inl rfl))
   (B9 (FP (Mp λA=>L7 (IM (W:=WE K CL E) (CL:=CL) v.room.units .NotEq A) (Kg FS v.room gS mS kS bS .nil (v.px A0) (Bw (pv 2 _ m6 rfl (by simp) rfl rfl) (Bw (pv 8 _ km rfl (by simp) rfl rfl) Cf rfl) rfl) (by decide) rfl rfl) (pv 9 _ iv rfl (by simp) rfl rfl) rfl) Jw GZ)
   (B9 (FP B6 Jw GZ)
   (DT (FP (Mp C7) (DT (EH (i:=3) sc.fs.nd rfl (sc.loc "_law_listed" (by simp)) (V8 Cc Zr Zv Wa (pv 4 _ Î rfl (by simp) rfl rfl) rfl hl1) rfl (.inl rfl)))
    (DT (FP (Mp C8) (B9 (Kf (KO Cc D5 D6 NV (pv 4 _ p40 rfl (by simp) rfl rfl) (Bw (pv 3 _ p42 rfl (by simp) rfl rfl) Cf rfl) rfl rfl lz rfl rfl) rfl) (qO (C:=C) SB')) GZ))))))))))
   (λ_=>rfl))
  (B9 (Ow (C:=C) S6)
  (B9 (EH (i:=10) sc.fs.nd rfl (sc.loc "_law_found" (by simp)) (Kg FS v.room gS mS kS bS .nil (v.px A0) (Bw (pv 2 _ p50 rfl (by simp) rfl rfl) (Bw KH Cf rfl) rfl) (by decide) rfl rfl) rfl (.inl rfl))
  (B9 (FP (Mp C9) Jw GZ)
  (B9 (Kf (KO Cc D5 D6 NV (Rt Wb (pv 10 _ p55 rfl (by simp) rfl rfl) Ol (λ_ _=>rfl)) (Bw KH Cf rfl) rfl rfl hl3 rfl rfl) rfl)
  (DT (Hl (Ru λA=>UH (IM (W:=WE K CL E) (CL:=CL) v.room.units .Eq A) (Kg FS v.room gS mS kS bS .nil (v.px A0) (Bw (pv 2 _ p63 rfl (by simp) rfl rfl) (Bw KH Cf rfl) rfl) (by decide) rfl rfl) (pv 9 _ p66 rfl (by simp) rfl rfl) rfl))))))))))),?_⟩
 have rs:∀ l:Ac Ai,Z9 K CL H A0 (l.map V.int) (l.map D.int):=λl=>by
  induction l with
  |nil=>trivial
  |cons x l ih=>exact⟨rfl,ih⟩
 have r0:Z7 K CL H A0 (.ref a0) (.L (ns.map .int)):=⟨a0,_,rfl,.inl (λz=>z),hS,rs ns⟩
 obtain⟨p,m,ϱ,xj,hm0,hm1,hlp⟩:=hL ns U8;generalize (D.L (ns.map .int))=scr at r0 ϱ xj hlp;refine⟨λ_ z=>z.elim,[Z5 scr,Af,Af,Af,Af,Af,Af,Af,Af,Af,Af,Af,Af],gk K CL A0 H _ [Aa (.ref a0),Af,Af,Af,Af,Af,Af,Af,Af,Af,Af,Af,Af] ⟨⟨rfl,_,rfl,r0⟩,trivial⟩,Lb ϱ λvp H1 ox rp=>?_⟩
 refine⟨vp,rfl,λa dx na iq ned=>?_⟩
 refine⟨a,dx,vp,rfl,BK,λH2 l1 la n1 n2 n12 ha al zh keep=>⟨rfl,?_⟩⟩
 refine⟨Ds _,λl3 h3=>⟨Ds _,λpa h4=>?_⟩⟩
 have h3:H2 l3=Af:=h3;have h4:(upd H2 l3 (.L [])) pa=Af:=h4;have n1a:l1≠a:=λz=>by rw[z,BK]at n1;cases n1
 have n2a:la≠a:=λz=>by rw[z,BK]at n2;cases n2
 have n1d:l1≠dx:=λz=>by rw[AQ n1a,z,BK]at n1;cases n1
 have n2d:la≠dx:=λz=>by rw[AQ n2a,z,BK]at n2;cases n2
 have n1':H1 l1=Af:=by rw[AQ n1a,AQ n1d]at n1;exact n1
 have n2':H1 la=Af:=by rw[AQ n2a,AQ n2d]at n2;exact n2
 have cu:Az H1 H2:=λb o e=>by
  have z1:b≠a:=Er e na;have z2:b≠dx:=Er e iq;exact keep b o (by rw[AQ z1,AQ z2];exact e) z1
 have q3:Az H2 (upd H2 l3 (.L [])):=EZ h3 _;have q4:Az (upd H2 l3 (.L [])) (upd (upd H2 l3 (.L [])) pa (.L [])):=EZ h4 _;have Ò:=q3.trans q4;have s14:=cu.trans Ò;have npa:H1 pa=Af:=by
  cases e:H1 pa with
  |none=>rfl
  |some o=>rw[q3 _ _ (cu _ _ e)]at h4;cases h4
 have l3a:l3≠a:=λz=>by rw[z,ha]at h3;cases h3
 have l3l:l3≠la:=λz=>by rw[z,zh]at h3;cases h3
 have pl3:pa≠l3:=λz=>by rw[z,BK]at h4;cases h4
 have gp:H2 pa=Af:=by rw[AQ pl3]at h4;exact h4
 have paa:pa≠a:=λz=>by rw[z,ha]at gp;cases gp
 have pal:pa≠la:=λz=>by rw[z,zh]at gp;cases gp
 have pl1:pa≠l1:=λz=>by rw[z,al]at gp;cases gp
 have wd:∀ b,Ap a la pa b->A0 b\/H1 b=Af:=λb hb=>.inr (by rcases hb with rfl|rfl|rfl<;>assumption)
 have R0:Z7 K CL (upd (upd H2 l3 (.L [])) pa (.L [])) (Ap a la pa) (.ref a0) scr:=Z7.same s14 (Z7.wide wd _ (r0.same ox));have Rp:Z7 K CL (upd (upd H2 l3 (.L [])) pa (.L [])) (Ap a la pa) vp p:=Z7.same s14 (Z7.wide wd _ rp);have j0:LS K CL C a la pa (zy (Z5 (.L [])) Af Af Af Af Af scr p) ⟨p,[],.O,[]⟩ [] [Aa (.ref a0),Aa vp,Aa (.ref a),Aa (.ref l3),Aa (.ref pa),Af,Af,Af,Af,Af,Af,Af,Af] (upd (upd H2 l3 (.L [])) pa (.L [])):=by
  refine⟨gk K CL (Ap a la pa) _ _ _ ⟨⟨rfl,_,rfl,R0⟩,⟨rfl,_,rfl,Rp⟩,⟨rfl,_,rfl,l3,[],rfl,.inl ?_,IO.of (q4 _ _ BK),trivial⟩,trivial⟩,Ir rfl,rfl,rfl,rfl,rfl,⟨[],BK,trivial⟩,⟨dx,vp,.ref l1,.O,[],Ò _ _ ha,Ò _ _ zh,Rp,⟨l1,[],rfl,.inl ?_,IO.of (Ò _ _ al),trivial⟩,rfl,trivial⟩,pal⟩
  .rintro (z|z|z)
   .exact l3a z
   .exact l3l z
   .exact pl3 z.symm
  .rintro (z|z|z)
   .exact n1a z
   .exact n12 z
   .exact pl1 z.symm
 refine⟨Ap a la pa,j0.aok,_,j0.g,Lb xj λvm H5 uk rvm=>?_⟩
 have evm:vm=.int m:=rvm;subst evm;have j1:=j0.same uk;refine⟨1,m,rfl,⟨by omega,by omega,by omega,by omega⟩,?_⟩
 generalize (m-1).toNat=N at hlp ⊢;refine⟨λi mm Y H'=>mm=N-i/\i<=N/\∃ q l ps,LS K CL C a la pa (zy (Z5 (.L l)) Af Af Af Af Af scr p) q ps Y H'/\LB (Z6 Pg (n+1)) s1 s2 s3 c4 bb GS G scr p (λq l=>∃ ts xh,yt (Z6 Pg (n+1)) (tkR (zy (Z5 (.L l)) Af Af Af Af Af scr p)) s6=.next (tkR (zy (Z5 (.L l)) Af Af Af Af (Z5 (.H [.str "told",.L ts])) scr p))/\GS q [.str "points"]=.ok (.H [.str "told",.L xh]) q/\Y8 4 (.L ts)=Ab/\Y8 4 (.L xh)=Ab/\LT xh ts=Ab/\xh.length<900) (((BO N).map fun(i:Ag)=>1+(i:Ai)).drop i) q l ps,⟨N,by simp,Ds _,_,_,_,j1,by rw[Yh];exact hlp⟩,?_⟩
 rintro i mm Y H6 ⟨rfl,hi,q,l,ps,j,lp⟩;by_cases yc:i<N
 .have ed:((BO N).map fun(i:Ag)=>1+(i:Ai)).drop i=(1+(i:Ai))::((BO N).map fun(i:Ag)=>1+(i:Ai)).drop (i+1):=by
   rw[DW (by simpa using yc)]
   congr 1
   simp
  rw[ed]at lp;refine .inr ⟨yc,λY' H'=>∃ q l ps,LS K CL C a la pa (zy (Z5 (.L l)) Af Af Af Af Af scr p) q ps Y' H'/\LB (Z6 Pg (n+1)) s1 s2 s3 c4 bb GS G scr p _ (((BO N).map fun(i:Ag)=>1+(i:Ai)).drop (i+1)) q l ps,λY' H' z=>⟨N-(i+1),by omega,rfl,yc,z⟩,λxv H7 ⟨e7,ex⟩=>?_⟩
  subst e7 ex;obtain⟨i9,row,dw,pt,dd,fd',q',y1,y2,y3,y4,y5,f1,f2,f3,y6,y7⟩:=lp;have j5:LS K CL C a la pa (zy (Z5 (.L l)) (Z5 (.int (1+(i:Ai)))) Af Af Af Af scr p) q ps (Y.set 5 (Aa (.int (1+(i:Ai))))) H7:=j.set (i:=5) (d:=.int (1+(i:Ai))) (by decide) (by decide) rfl
  refine nj.i j5 y1 rfl rfl rfl λY1 H8 sm8 j6=>?_
  refine nj.i j6 y2 rfl rfl rfl λY2 H9 pk j7=>?_
  refine nj.i j7 y3 rfl rfl rfl λY3 H10 sm10 j8=>?_
  refine⟨Ad a la,Ty.sub j8.aok IW,_,j8.look (i:=4) (U':=[Af,Af,Af,Z5 (.L l),Af,Af,Z5 (.str i9),Z5 pt,Af,Af,Af,Af,Af]) rfl ⟨.inl rfl,.inl rfl,.inl rfl,.inr rfl,.inl rfl,.inl rfl,.inr rfl,.inr rfl,.inl rfl,.inl rfl,.inl rfl,.inl rfl,.inl rfl,trivial⟩ IW j8.s4 j8.past,Lb y4 λdv H11 sm11 iz=>?_⟩
  have e9:(Y3.set 9 (Aa dv))[9]?=Aa (Aa dv):=j8.at (i:=9) rfl;have j9:=(j8.same sm11).junk (i:=9) (v:=Aa dv) (by decide) (by decide) rfl
  obtain⟨rv,hrv,rrv⟩:=j9.g.sh 8 (.str row) rfl;refine⟨Ad a la,.ref a,j9.s2,rv,hrv,Re (E:=E) (la:=la) (ds:=[.str row]) rfl j9.aok (.inl rfl) (.inr (.inl rfl)) ⟨rrv,trivial⟩ j9.dk ?_⟩;rw[y5];intro v5 x5 H12 kb rn dk5;have j10:=j9.kb kb dk5.un;refine⟨dv,e9,Ty.sub j10.aok IW,fd',.H [.str dw,dd],.inl (rn.rep IW),.inl (Z7.kp (kb.kp (.inl rfl) (.inr rfl)) _ iz),Lb (VD f1 f2 f3) λb5 ja rj rb=>⟨Ae,rb,?_⟩⟩
  have ou:Z7 K CL ja (Ad a la) dv (.H [.str dw,dd]):=Z7.same rj (Z7.kp (kb.kp (.inl rfl) (.inr rfl)) _ iz);have j11:=j10.same rj;show HM _ _ ja;have g6':∀ H',Az ja H'->Y9 K CL (Ad a la) [Af,Af,Af,Af,Af,Af,Z5 (.str i9),Af,Af,Z5 (.H [.str dw,dd]),Af,Af,Af] (Y3.set 9 (Aa dv)) H':=λH' sm=>(j11.same sm).look (i:=9) (U':=[Af,Af,Af,Af,Af,Af,Z5 (.str i9),Af,Af,Af,Af,Af,Af]) rfl ⟨.inl rfl,.inl rfl,.inl rfl,.inl rfl,.inl rfl,.inl rfl,.inr rfl,.inl rfl,.inl rfl,.inl rfl,.inl rfl,.inl rfl,.inl rfl,trivial⟩ IW e9 (ou.same sm)
  refine⟨a,la,pa,_,_,_,_,_,_,q',ps,dv,dw,row,dd,pt,j11,e9,ou,y6,rfl,λH14 ku=>?_⟩
  show HM _ _ H14;have j12:=j11.same ku;refine⟨Ad a la,Ty.sub j12.aok IW,_,g6' H14 ku,Il (wS rfl rfl) λá cw=>?_⟩
  have bj:=j12.same cw;by_cases h7:dw = "told"/\i9 = "undo"
  .rw[Au h7]at y7;obtain⟨l',el,y8⟩:=y7;dsimp only;rw[Au (CG h7)];obtain⟨xs,ax,uy⟩:=bj.hp;rw[Ym]at el;obtain⟨y,hy,ry⟩:=uy.get el;have lx:=uy.length;rw[<-lx]at hy;refine⟨.ref pa,bj.s4,.inl ⟨rfl,xs,IO.of ax⟩,pa,xs,y,rfl,rfl,ax,hy,?_⟩;have rd:Z9 K CL á (Ap a la pa) xs.dropLast ps.dropLast:=by
    have:=Z9.take (xs.length-1) uy
    rwa [<-ED,lx,<-ED]at this
   have kpp:Kp (Ap a la pa) á (upd á pa (.L xs.dropLast)):=λb o e na=>by rw[AQ λz=>na (.inr (.inr z))];exact e
   have kl:=(bj.put rd).set (i:=3) (by decide) (by decide) (Z7.kp kpp _ ry)
   exact⟨q',l',_,kl.le (Ir rfl) rfl rfl ⟨.inr rfl,.inr rfl,.inl rfl,.inr rfl,.inl rfl,.inl rfl,.inl rfl,.inl rfl,.inl rfl,.inl rfl,.inl rfl,.inl rfl,.inl rfl,trivial⟩,y8⟩
  .rw[Ay h7]at y7;dsimp only;rw[Ay (by rw[AM];exact h7)]
   refine⟨Ad a la,Ty.sub bj.aok IW,_,g6' á (ku.trans cw),Il (wR rfl rfl) λH16 sm16=>?_⟩
   have kl:=bj.same sm16;by_cases h8:dw = "told"/\i9≠"points"
   .rw[Au h8]at y7;obtain⟨hz,l',y8,y9⟩:=y7;rw[Au (CG h8)];obtain⟨xs,ax,uy⟩:=kl.hp;obtain⟨lv,j4,rlv⟩:=kl.g.sh 3 (.L l) rfl;have lx:=uy.length;refine⟨.ref pa,kl.s4,.inl ⟨rfl,xs,IO.of ax⟩,lv,j4,pa,xs,lv,rfl,rfl,ax,by rw[lx,By];omega,?_⟩
    have j15:=(kl.put (uy.append (show Z9 K CL H16 (Ap a la pa) [lv] [.L l] from ⟨rlv,trivial⟩))).le (U':=zy (Z5 (.L l)) (Z5 (.int (1+(i:Ai)))) (Z5 (.str i9)) (Z5 pt) Af Af scr p) (Ir rfl) rfl rfl ⟨.inr rfl,.inr rfl,.inl rfl,.inr rfl,.inl rfl,.inr rfl,.inr rfl,.inr rfl,.inl rfl,.inl rfl,.inl rfl,.inl rfl,.inl rfl,trivial⟩
    refine nj.i j15 y8 rfl rfl rfl λY5 H17 sm17 j16=>?_
    exact⟨q',l',_,j16.le (Ir rfl) rfl rfl ⟨.inr rfl,.inr rfl,.inl rfl,.inr rfl,.inl rfl,.inl rfl,.inl rfl,.inl rfl,.inl rfl,.inl rfl,.inl rfl,.inl rfl,.inl rfl,trivial⟩,y9⟩
   .rw[Ay h8]at y7;rw[Ay (by rw[AM];exact h8)]
    show HM _ _ H16;exact⟨q',l,_,kl.le (Ir rfl) rfl rfl ⟨.inr rfl,.inr rfl,.inl rfl,.inr rfl,.inl rfl,.inl rfl,.inl rfl,.inl rfl,.inl rfl,.inl rfl,.inl rfl,.inl rfl,.inl rfl,trivial⟩,y7⟩
 .have hN:i=N:=by omega
  subst hN;rw[Gd (by simp)]at lp
  obtain⟨ts,xh,y1,y2,f1,f2,f3,f4⟩:=lp;refine .inl ⟨AU _,?_⟩;refine nj.i j y1 rfl rfl rfl λY1 H7 sm7 j2=>?_
  refine⟨.ref a,j2.s2,Re (E:=E) (la:=la) (ds:=[.str "points"]) rfl j2.aok (.inl rfl) (.inr (.inl rfl)) ⟨rfl,trivial⟩ j2.dk ?_⟩;rw[y2];intro v8 x8 H8 kb rn dk8;have j3:=(j2.kb kb dk8.un).junk (i:=10) (v:=Aa v8) (by decide) (by decide) rfl
  have e10:(Y1.set 10 (Aa v8))[10]?=Aa (Aa v8):=j2.at (i:=10) rfl;have fd2:Y8 5 (.H [.str "told",.L ts])=Ab:=by
   show (Ab&&(Y8 4 (.L ts)&&Ab))=Ab;rw[f1];rfl
  have ê:Y8 5 (.H [.str "told",.L xh])=Ab:=by
   show (Ab&&(Y8 4 (.L xh)&&Ab))=Ab;rw[f2];rfl
  have eq2:Tm (.H [.str "told",.L xh]) (.H [.str "told",.L ts])=Ab:=by
   show (Ab&&(LT xh ts&&Ab))=Ab;rw[f3];rfl
  refine⟨Ap a la pa,j3.aok,_,j3.look (i:=10) (U':=[Af,Af,Af,Af,Af,Af,Af,Af,Af,Z5 (.H [.str "told",.L ts]),Af,Af,Af]) rfl ⟨.inl rfl,.inl rfl,.inl rfl,.inl rfl,.inl rfl,.inl rfl,.inl rfl,.inl rfl,.inl rfl,.inr rfl,.inl rfl,.inl rfl,.inl rfl,trivial⟩ (λ_ h=>h) e10 (rn.rep λ_ h=>h),Il (wQ rfl rfl fd2 ê eq2) λH9 pk=>?_⟩
  show HM _ _ H9;have rdue:=j2.g.sh 9 (.H [.str "told",.L ts]) rfl;obtain⟨dv,hdv,iz⟩:=rdue;obtain⟨nm,d2,tt,ee,ev,ht,_,rc⟩:=rn;cases ee;subst ev;obtain⟨l5,ys,ex,am,ao,rys⟩:=rc.2 rfl xh rfl;subst ex;have ly:=rys.length;refine⟨.ref tt,e10,tt,[.str "told",.ref l5],1,.ref l5,rfl,rfl,yk.of (pk _ _ ht),rfl,.inl ⟨rfl,ys,IO.of (pk _ _ ao)⟩,l5,ys,.str "( )",rfl,rfl,pk _ _ ao,by rw[ly,By];omega,?_⟩
  have wd5:∀ b,AV (Ap a la pa) (.ref l5) b->Ap a la pa b\/H7 b=Af:=λb h=>h.imp id λz=>by cases z;exact am
  have bn:Kp (AV (Ap a la pa) (.ref l5)) H9 (upd H9 l5 (.L (ys++[.str "( )"]))):=λb o e na=>by
   rw[AQ λz=>na (.inr (by rw[z]))];exact e
  have ou:Z7 K CL (upd H9 l5 (.L (ys++[.str "( )"]))) (Ap a la pa) dv (.H [.str "told",.L ts]):=Z7.sub (λb h=>.inl h) _ (Z7.kp bn _ (Z7.same pk (Z7.kp (A:=AV (Ap a la pa) (.ref l5)) (kb.kp (.inl (.inl rfl)) (.inl (.inr (.inl rfl)))) _ (Z7.wide wd5 _ iz))))
  have la5:¬ Ap a la pa l5:=j2.aok.new am;have zj:DK K CL (upd H9 l5 (.L (ys++[.str "( )"]))) (Ap a la pa) C a la q:=by
   obtain⟨dx,v1,v2,v3,zs,h1,h2,r4,r5,r6,r7⟩:=dk8.same pk;exact DK.un (v:=.ref l5) ⟨dx,v1,v2,v3,zs,by rw[AQ λz=>la5 (.inl z.symm)];exact h1,by rw[AQ λz=>la5 (.inr (.inl z.symm))];exact h2,Z7.kp bn _ r4,Z7.kp bn _ r5,Z7.kp bn _ r6,Z9.kp bn _ r7⟩
  have ok9:Ty (upd H9 l5 (.L (ys++[.str "( )"]))) (Ap a la pa):=λb hb=>by
   have z5:b≠l5:=λz=>la5 (by rw[<-z];exact hb)
   rw[AQ z5];exact(j3.aok.same pk) b hb
  refine⟨Ap a la pa,.ref a,j3.s2,Re (E:=E) (la:=la) (ds:=[.str "points"]) rfl ok9 (.inl rfl) (.inr (.inl rfl)) ⟨rfl,trivial⟩ zj ?_⟩;rw[y2];intro v9 x9 H10 kb2 rn2 dk10;have e9:(Y1.set 10 (Aa (.ref tt)))[9]?=Aa (Aa dv):=by rw[Bt (by decide)];exact hdv
  refine⟨dv,e9,dk10.un.aok kb2 ok9,_,_,.inl (rn2.rep λ_ h=>h),.inl (Z7.kp (kb2.kp (.inl rfl) (.inr (.inl rfl))) _ ou),Lb (nU ê fd2 eq2) λb5 ja rj rb=>hq b5 ja rb⟩
end
theorem sO{a:Ak}{ep:Ag}{xs:Ac (Ah×Ai×Cd×Cd)}(ha:(a==GV)=Ae)(lk:K.lookup a=Aa ⟨.type "dict",Af,.dict (xs.map λx=>(⟨hashStr w x.1,.str x.1 x.2.2.1,.int x.2.1 x.2.2.2⟩:MB)).toArray ep,#[]⟩)(nd:JC (xs.map (·.1))=Ab):Mm P w K a (xs.map λx=>(x.1,x.2.1)):=by
 refine⟨ha,_,_,ep,xs.map λx=>(x.1,.int x.2.1 x.2.2.2),lk,⟨rfl,rfl,rfl⟩,rfl,λe he=>?_,?_,?_,λz=>?_⟩
 .rw[List.mem_toArray]at he;obtain⟨x,_,rfl⟩:=Ie.mp he;exact⟨x.1,Cv _,rfl⟩
 .clear nd lk
  show Pairs (Fe P w) (xs.map _) _
  induction xs with
  |nil=>exact .nil
  |cons x xs ih=>exact .cons (Cv _) rfl ih
 .rw[Ic];exact II nd
 .clear nd lk
  induction xs with
  |nil=>exact .inl ⟨rfl,rfl⟩
  |cons x xs ih=>
   by_cases h:x.1=z
   .subst h;refine .inr ⟨x.2.1,x.2.2.2,?_,?_⟩
    .simp[FZ]
    .simp[BX]
   .have h2:(z==x.1)=Ae:=Bg.mpr λy=>h y.symm
    have e1:FZ ((x::xs).map λx=>(x.1,GE x.2.1 x.2.2.2)) z=FZ (xs.map λx=>(x.1,GE x.2.1 x.2.2.2)) z:=by
     simp[FZ,h]
    have e2:((x::xs).map λx=>(x.1,x.2.1)).lookup z=(xs.map λx=>(x.1,x.2.1)).lookup z:=by
     simp[BX,h2]
    rw[e1,e2];exact ih
structure DA (K:Fg) (C fi fs fl fc fu fa:Ak):Prop where
 n:Bb K AO "Desk" = Aa (Aa (.ref C))
 d:ub K C
 m:Mk K C fi
 s:yz K C "say" fs
 l:yz K C "list_changed" fl
 c:yz K C "changed" fc
 u:yz K C "undone" fu
 a:yz K C "list_asked" fa
theorem da_mk{C fi fs fl fc fu fa:Ak}(n1:Bb K AO "Desk" = Aa (Aa (.ref C)))(i:At K (.ref C) "__init__" = Aa (Aa (.ref fi)))(a1:At K (.ref C) "say" = Aa (Aa (.ref fs)))(a2:At K (.ref C) "list_changed" = Aa (Aa (.ref fl)))(a3:At K (.ref C) "changed" = Aa (Aa (.ref fc)))(a4:At K (.ref C) "undone" = Aa (Aa (.ref fu)))(a5:At K (.ref C) "list_asked" = Aa (Aa (.ref fa)))(pg:D8 K C Do=Ab)(hd:EA K C=Ab)(po:F6 K C=Ab)(sa:At K (.ref C) "__setattr__" = Aa (Aa (.builtin "object.__setattr__")))(np:At K (.ref C) "p" = Aa Af)(nl:At K (.ref C) "points" = Aa Af)(nc:At K (.ref C) "curve" = Aa Af)(nh:At K (.ref C) "past" = Aa Af)(mk:GQ K C=Ab)(kp:Ba K (.ref C)=Ab)(f0:Cn K (.ref fi)=Ab)(f1:Cn K (.ref fs)=Ab)(f2:Cn K (.ref fl)=Ab)(f3:Cn K (.ref fc)=Ab)(f4:Cn K (.ref fu)=Ab)(f5:Cn K (.ref fa)=Ab)(k1:Ba K (.ref fs)=Ab)(k2:Ba K (.ref fl)=Ab)(k3:Ba K (.ref fc)=Ab)(k4:Ba K (.ref fu)=Ab)(k5:Ba K (.ref fa)=Ab):DA K C fi fs fl fc fu fa:=
 ⟨n1,⟨⟨pg,hd,po,sa⟩,np,nl,nc,nh⟩,⟨mk,i,f0,kp⟩,⟨a1,f1,k1⟩,⟨a2,f2,k2⟩,⟨a3,f3,k3⟩,⟨a4,f4,k4⟩,⟨a5,f5,k5⟩⟩
end Ov
namespace OvC
open PySem Ov
variable{x p k:Ai}{n:Ag}{Z:Z4}{w:Ah}{t:Am}{α:Type}{U:Rho}{o:O}
noncomputable abbrev tr(a b c:Ai):D:=.H [.int a,.int b,.int c]
noncomputable def det(a0 a1 a2 b0 b1 b2 c0 c1 c2:Ai):Ai:=a0*(b1*c2-b2*c1)-a1*(b0*c2-b2*c0)+a2*(b0*c1-b1*c0)
def Sm(x:Ai):Prop:=0<=x/\x<11
theorem mo(h:Sm x)(y:Ai):Fq x y=Ab:=M3 (by have:=h.1;omega) (by have:=h.2;omega)
def dE(Z:Z4):Prop:=∀ p a0 a1 a2 b0 b1 b2 c0 c1 c2:Ai,0<p->Sm a0->Sm a1->Sm a2->Sm b0->Sm b1->Sm b2->Z.F 61 [.int p,tr a0 a1 a2,tr b0 b1 b2,tr c0 c1 c2]=.ok (.int (det a0 a1 a2 b0 b1 b2 c0 c1 c2%p))
def cH(Z:Z4):Prop:=∀ p a0 a1 a2 b0 b1 b2 c0 c1 c2:Ai,0<p->Sm a0->Sm a1->Sm a2->Sm b0->Sm b1->Sm b2->Z.F 62 [tr a0 a1 a2,tr b0 b1 b2,tr c0 c1 c2,.int p]=.ok (.int (det a0 a1 a2 b0 b1 b2 c0 c1 c2%p))
def nE(Z:Z4):Prop:=∀ m p:Ai,0<p->p<12->Z.F 63 [.int m,.int p]=.ok (tr (m%p) (m/p%p) (m/(p*p)%p))
structure H12 (Z:Z4):Prop where
 ms:dE Z
 lm:cH Z
 wh:mZ Z
 rs:nE Z
 mx:mH Z
 pr:mG Z
theorem Sm.of(h:P4 p)(x:Ai):Sm (x%p):=⟨BW _ (by have:=h.pos;omega),by have:=BR x h.pos;have:=h.hi;omega⟩
theorem S9{body:D->Rho->O}(I:Rho->Prop)(g:Ai->Am):∀(L:Ac Ai),(∀ t∈L,∀ U,I U->(g t=Ab/\body (.int t) U=.ret (.int t) Ae)\/(g t=Ae/\∃ U',body (.int t) U=.next U'/\I U'))->∀ U,I U->(∃ t∈L,g t=Ab/\Ev body (L.map D.int) U=.ret (.int t) Ae)\/((∀ t∈L,g t=Ae)/\∃ U',Ev body (L.map D.int) U=.next U'/\I U')
 |[],_,U,i=>.inr ⟨(λ_ h=>nomatch h),U,rfl,i⟩
 |m::L,h,U,i=>by
  rcases h m (AY ..) U i with ⟨e1,e2⟩|⟨e1,U',e2,i'⟩
  .refine .inl ⟨m,AY ..,e1,?_⟩;show (body (.int m) U).turn _=_;rw[e2];rfl
  .rcases S9 I g L (λm' h'=>h m' (AD _ h')) U' i' with ⟨t,ht,a,b⟩|⟨a,r,b,c⟩
   .refine .inl ⟨t,AD _ ht,a,?_⟩;show (body (.int m) U).turn _=_;rw[e2];exact b
   .refine .inr ⟨λt ht=>?_,r,?_,c⟩
    .rcases A6.mp ht with rfl|ht
     .exact e1
     .exact a t ht
    .show (body (.int m) U).turn _=_;rw[e2];exact b
noncomputable def LR:Ss:={.ife (.cmp .Eq (.call 1 {.v 0,.B .Mult (.v 1) (.v 2)}) (.int 1)) {.ret (.v 2)} .nil}
noncomputable def NQ:Df:=⟨3,Ae,{.fors 2 (.rng2 (.int 1) (.v 0)) LR,.rais 2 {.str (Aj "a number with the rest 0 is not turned over")}}⟩
noncomputable def Mq(p:Ai):Ac Ai:=(BO (p-1).toNat).map fun(k:Ag)=>1+(k:Ai)
theorem Qi{t:Ai}:t∈Mq p↔1<=t/\t<p:=by
 unfold Mq;rw[List.mem_map];constructor
 .rintro⟨k,hk,rfl⟩;have:=CU.mp hk;omega
 .rintro⟨h1,h2⟩;exact⟨(t-1).toNat,CU.mpr (by omega),by omega⟩
theorem eK(h:P4 p):EY 1 p=.ok ((Mq p).map D.int):=by
 rcases h with rfl|rfl|rfl|rfl<;>rfl
theorem kP:∀ p:Fin 12,(p.val=3\/p.val=5\/p.val=7\/p.val=11)->∀ r:Fin 12,r.val<p.val->r.val≠0->∃ t:Fin 12,1<=t.val/\t.val<p.val/\r.val*t.val%p.val=1:=by decide+kernel
theorem M6{n:Ai}(h:P4 p)(hn:n%p≠0):∃ t,1<=t/\t<p/\n*t%p=1:=by
 have p0:0<p/\p<12:=by rcases h with rfl|rfl|rfl|rfl<;>decide
 obtain⟨q,rfl⟩:∃ q:Ag,p=q:=⟨p.toNat,by omega⟩
 have h0:=BW n (b:=(q:Ai)) (by omega)
 have h1:=BR n p0.1;obtain⟨r,hr⟩:∃ r:Ag,n%(q:Ai)=r:=⟨(n%(q:Ai)).toNat,by omega⟩
 obtain⟨t,t1,t2,t3⟩:=kP ⟨q,by omega⟩ (by rcases h with e|e|e|e<;>simp<;>omega) ⟨r,by omega⟩ (by show r<q;omega) (by show r≠0;omega)
 refine⟨(t.val:Ai),by omega,by show (t.val:Ai)<q;exact Int.ofNat_lt.mpr t2,?_⟩
 have e:((r*t.val%q:Ag):Ai)=1:=by rw[show r*t.val%q=1 from t3];rfl
 rw[<-e,Int.natCast_emod,Int.natCast_mul,<-hr];exact(BG n _ _).trans (by rw[BG (n%(q:Ai)) (t.val:Ai) (q:Ai),Bo n (Cm _)])
def JP(p n t:Ai):Prop:=1<=t/\t<p/\n*t%p=1
theorem Te{n t u:Ai}(h1:JP p n t)(h2:JP p n u):t=u:=by
 have hp:1<p:=by have:=h1.1;have:=h1.2.1;omega
 have e:t%p=u%p:=by
  have a:t%p=t*(n*u)%p:=by rw[BG,h2.2.2,X7,Bo _ (Cm p)]
  have b:u%p=(n*t)*u%p:=by rw[BG (n*t) u p,h1.2.2,Em,Bo _ (Cm p)]
  rw[a,b]
  congr 1
  rw[<-HC,GI t n]
 rwa [BE (by have:=h1.1;omega) h1.2.1,BE (by have:=h2.1;omega) h2.2.1]at e
theorem Nc{c:Ai}(hp:P4 p)(hc:c%p≠0)(hx:x%p≠0):c*x%p≠0:=λz=>by
 obtain⟨t,_,_,e⟩:=M6 hp hc;refine hx ?_;have e1:x%p=(c*t)*x%p:=by rw[BG (c*t) x p,e,Em,Bo _ (Cm p)]
 rw[e1,show c*t*x=t*(c*x) by rw[GI c t,HC],BG,z,X8,Yd]
noncomputable def Ef(p:Ai):Ac Ai->Ao Ai
 |[]=>Af
 |x::xs=>if x%p=0 then Ef p xs else Aa (x%p)
theorem Tb{p l:Ai}(hp:0<p):∀{xs:Ac Ai},Ef p xs=Aa l->l%p≠0/\0<l/\l<p
 |[],h=>by cases h
 |x::xs,h=>by
  unfold Ef at h;by_cases hx:x%p=0
  .rw[Au hx]at h;exact Tb hp h
  .rw[Ay hx]at h;cases h;have h0:=BW x (b:=p) (by omega)
   have h1:=BR x hp;exact⟨by rw[Bo _ (Cm p)];exact hx,by omega,h1⟩
theorem P7{p c:Ai}(hp:P4 p)(hc:c%p≠0){f:Ai->Ai}(hf:∀ x,f x%p=c*x%p):∀ xs:Ac Ai,Ef p (xs.map f)=(Ef p xs).map λl=>c*l%p
 |[]=>rfl
 |x::xs=>by
  rw[BM];unfold Ef;rw[hf x];by_cases hx:x%p=0
  .rw[Au hx,Au (by rw[BG,hx,X8,Yd]),P7 hp hc hf xs]
  .rw[Ay hx,Ay (Nc hp hc hx),YI]
   congr 1
   rw[BG c (x%p),Bo _ (Cm p),<-BG]
noncomputable def ds(xs:Ac Ai):Ac D:=xs.map D.int
noncomputable def E5(b:Am)(xs:Ac Ai):D:=if b=Ab then .H (ds xs) else .L (ds xs)
theorem bZ(b xs):Eu (E5 b xs)=.ok (ds xs):=by unfold E5;cases b<;>rfl
theorem P1{g:D->R Am}{f:D->R D}{φ:Ai->Ai}:∀(xs:Ac Ai),(∀ x∈xs,g (.int x)=.ok Ab/\f (.int x)=.ok (.int (φ x)))->Cq g f (ds xs)=.ok (ds (xs.map φ))
 |[],_=>rfl
 |x::xs,h=>by
  obtain⟨h1,h2⟩:=h x (AY ..);show (g (.int x)).bind _=_;rw[h1,R.bind_ok,Au rfl,h2,R.bind_ok];show (Cq g f (ds xs)).bind _=_;rw[P1 xs λy hy=>h y (AD _ hy)]
  rfl
noncomputable def DL:E:=(.bl Ab)
noncomputable def Pq:E:=(.call 1 {.v 0,.v 5})
noncomputable def Px:E:=(.call 1 {.v 0,.B .Mult (.v 4) (.v 6)})
noncomputable def Io:Ss:={.ife (.cmp .NotEq (.v 3) (.int 0)) {.asg 4 Ae (.call 9 {.v 0,.v 3}),.ret (.bi .tuple {.comp Px 6 (.e (.v 2)) DL})} .nil}
noncomputable def NS:Df:=⟨7,Ae,{.asg 2 Ae (.comp Pq 5 (.e (.v 1)) DL),.fors 3 (.e (.v 2)) Io,.rais 3 {.str (Aj "all the numbers have the rest 0")}}⟩
noncomputable def lq(p t:Ai)(xs:Ac Ai):Ac Ai:=xs.map λx=>t*(x%p)%p
section
variable{Z:Z4}{p:Ai}{xs:Ac Ai}{b:Am}
end
noncomputable abbrev own(xs:Ac Ai):Sl:=Aa (.L (ds xs),Ab)
section
variable{Z:Z4}{ns:Ac Ai}{a1 a2 a4 a6 a7 a8 a9 b0 b1 b2 b3 b4:Sl}{p:Ai}
end
theorem eA{p c l t:Ai}(hp:P4 p)(hc:c%p≠0)(hl:l%p≠0)(it:JP p l t){f:Ai->Ai}(hf:∀ x,f x%p=c*x%p)(xs:Ac Ai):∃ u,JP p (c*l%p) u/\lq p u (xs.map f)=lq p t xs:=by
 have h1:(c*l%p)%p≠0:=by rw[Bo _ (Cm p)];exact Nc hp hc hl
 obtain⟨u,u1,u2,u3⟩:=M6 hp h1;refine⟨u,⟨u1,u2,u3⟩,?_⟩;unfold lq;rw[Ic];refine List.map_congr_left λx _=>?_
 show u*(f x%p)%p=t*(x%p)%p;have u4:c*l*u%p=1:=by rw[<-u3,BG (c*l%p) u p,Bo _ (Cm p),<-BG]
 have e1:u*(f x%p)%p=u*(c*x)%p:=by rw[hf,BG u (c*x%p) p,Bo _ (Cm p),<-BG]
 have e2:t*(x%p)%p=t*x%p:=by rw[BG t (x%p) p,Bo _ (Cm p),<-BG]
 have e3:u*(c*x)%p=(l*t)*(u*(c*x))%p:=by rw[BG (l*t) _ p,it.2.2,Em,Bo _ (Cm p)]
 have e4:t*x%p=(c*l*u)*(t*x)%p:=by rw[BG (c*l*u) _ p,u4,Em,Bo _ (Cm p)]
 rw[e1,e2,e3,e4]
 congr 1
 grind
section
variable{Z:Z4}{ns:Ac Ai}{a1 a4 a6 a7 a8 a9 b2 b3 b4:Sl}{p m:Ai}{xs:Ac Ai}
end
def Cg(p x y:Ai):Prop:=x%p=y%p
section
variable{p a b c d:Ai}
theorem Cg.rfl:Cg p a a:=Eq.refl _
theorem Cg.of(h:a=b):Cg p a b:=by unfold Cg;rw[h]
theorem Cg.trans{a b c:Ai}(h:Cg p a b)(g:Cg p b c):Cg p a c:=Eq.trans h g
theorem Cg.symm(h:Cg p a b):Cg p b a:=NK h
theorem Cg.add(h:Cg p a b)(g:Cg p c d):Cg p (a+c) (b+d):=by unfold Cg at *;rw[X4,h,g,<-X4]
theorem Cg.sub(h:Cg p a b)(g:Cg p c d):Cg p (a-c) (b-d):=by unfold Cg at *;rw[Yb,h,g,<-Yb]
theorem Cg.mul(h:Cg p a b)(g:Cg p c d):Cg p (a*c) (b*d):=by unfold Cg at *;rw[BG,h,g,<-BG]
end
theorem P4.m1(h:P4 p):(-1:Ai)%p≠0:=by rcases h with rfl|rfl|rfl|rfl<;>decide
theorem P4.o1(h:P4 p):(1:Ai)%p≠0:=by rcases h with rfl|rfl|rfl|rfl<;>decide
abbrev R3:=Ai×Ai×Ai
variable{a q:R3}
noncomputable def RX(a:R3):D:=.L [.int a.1,.int a.2.1,.int a.2.2]
noncomputable def LH(a b c:R3):Ai:=det a.1 a.2.1 a.2.2 b.1 b.2.1 b.2.2 c.1 c.2.1 c.2.2
def zf(p:Ai)(a:R3):Prop:=(0<=a.1/\a.1<p)/\(0<=a.2.1/\a.2.1<p)/\(0<=a.2.2/\a.2.2<p)
structure qd (p:Ai) (a b c:R3):Prop where
 p4:P4 p
 ia:zf p a
 ib:zf p b
 ic:zf p c
 nz:LH a b c%p≠0
theorem qd.of{a b c a' b' c':R3}(h:qd p a b c)(hk:k%p≠0)(e:Cg p (LH a' b' c') (k*LH a b c))(hin:zf p a'/\zf p b'/\zf p c'):qd p a' b' c':=⟨h.p4,hin.1,hin.2.1,hin.2.2,by rw[show LH a' b' c'%p=_ from e];exact Nc h.p4 hk h.nz⟩
theorem nI{ns:Ac Ai}(h0:0<=k)(h1:k<ns.length):DU (ns.map D.int) k=.ok (.int (ns.getD k.toNat 0)):=Ur h0 (by
 have:k.toNat<ns.length:=by omega
 simp[this])
noncomputable abbrev ra(a b c:R3):Sl:=Aa (.L [RX a,RX b,RX c],Ab)
section
variable{Z:Z4}{ns:Ac Ai}{at_ many s5 s0 s1 s2:Sl}{p t m:Ai}{a b c:R3}
end
section
variable{Z:Z4}{ns:Ac Ai}{many s5 s6 s7 s8 s9 s0 s1 s2:Sl}{p:Ai}{a b c:R3}
end
def Bd(n:Ag)(x:Ai):Prop:=x.natAbs<2 ^ n
theorem Bd.mul{m:Ag}{y:Ai}(h:Bd m x)(g:Bd n y):Bd (m+n) (x*y):=by
 unfold Bd at *;rw[Int.natAbs_mul,Nat.pow_add];exact Nat.mul_lt_mul'' h g
theorem Bd.sub{y:Ai}(h:Bd n x)(g:Bd n y):Bd (n+1) (x-y):=by
 unfold Bd at *;rw[Nat.pow_succ];omega
def B3(a:R3):Prop:=Bd 300 a.1/\Bd 300 a.2.1/\Bd 300 a.2.2
noncomputable def Av(q:Am)(a:R3):D:=E5 q [a.1,a.2.1,a.2.2]
def mI(Z:Z4):Prop:=∀(p:Ai)(q:Am)(a b c:R3),0<p->B3 a->B3 b->B3 c->Z.F 61 [.int p,Av q a,Av q b,Av q c]=.ok (.int (LH a b c%p))
section
variable{Z:Z4}{ns:Ac Ai}{p t:Ai}{a b c r:R3}{made s6 s7:Sl}
end
section
variable{Z:Z4}{ns:Ac Ai}{p m:Ai}{a b c:R3}{fa fb fc:R3}{q:Am}{s9 s0 s1 s2:Sl}
end
def PN(Z:Z4):Prop:=∀ p n:Ai,P4 p->n%p≠0->∃ t,1<=t/\t<p/\n*t%p=1/\Z.F 9 [.int p,.int n]=.ok (.int t)
def Ob(Z:Z4):Prop:=∀(p:Ai)(b:Am)(xs:Ac Ai)(l t:Ai),P4 p->Ef p xs=Aa l->JP p l t->Z.F 17 [.int p,E5 b xs]=.ok (.H (ds (lq p t xs)))
theorem cV(hr:Oq Z)(p n:Ai)(hp:P4 p)(z:n%p≠0):∃ t,1<=t/\t<p/\n*t%p=1/\NQ.run Z [.int p,.int n]=.ok (.int t):=by
 have p0:=hp.pos;have ph:=hp.hi;have body:∀ t∈Mq p,∀ U,(∃ s,U=[si p,si n,s])->(decide (n*t%p=1)=Ab/\EJ Z 2 LR (.int t) U=.ret (.int t) Ae)\/(decide (n*t%p=1)=Ae/\∃ U',EJ Z 2 LR (.int t) U=.next U'/\∃ s,U'=[si p,si n,s]):=by
  rintro t ht U ⟨s,rfl⟩;obtain⟨t1,t2⟩:=Qi.mp ht;have m:Fq n t=Ab:=Oa (by omega) (by omega)
  by_cases e:n*t%p=1
  .exact .inl ⟨by simp[e],by simp[EJ,LR,hr p (n*t) p0,m,e,Fv]⟩
  .exact .inr ⟨by simp[e],_,by simp[EJ,LR,hr p (n*t) p0,m,e];rfl,_,rfl⟩
 have run:∀ o,Ev (EJ Z 2 LR) ((Mq p).map D.int) [si p,si n,Af]=o->NQ.run Z [.int p,.int n]=(Iz Z (.cons (.rais 2 (.cons (.str (Aj "a number with the rest 0 is not turned over")) .nil)) .nil) o).ans Ae:=by
  rintro o rfl;simp[NQ,Df.run,Bu,eK hp]
 rcases S9 (λU=>∃ s,U=[si p,si n,s]) (λt=>decide (n*t%p=1)) (Mq p) body [si p,si n,Af] ⟨_,rfl⟩ with ⟨t,ht,a,b⟩|⟨a,r,b,s,rfl⟩
 .obtain⟨t1,t2⟩:=Qi.mp ht;have a':n*t%p=1:=by simpa using a
  exact⟨t,t1,t2,a',by rw[run _ b];rfl⟩
 .obtain⟨t,t1,t2,e⟩:=M6 hp z;have:=a t (Qi.mpr ⟨t1,t2⟩);simp[e]at this
section
variable{Z:Z4}{p:Ai}{xs:Ac Ai}{b:Am}
theorem TU(hr:Oq Z)(ht:PN Z)(hp:P4 p)(rs:Ac Ai):∀(ys:Ac Ai),(∀ y∈ys,0<=y/\y<p)->∀ s3,(Ef p ys=Af->∃ s3',Ev (EJ Z 3 Io) (ds ys) [si p,sh (E5 b xs),sh (.L (ds rs)),s3,Af,Af,Af]=.next [si p,sh (E5 b xs),sh (.L (ds rs)),s3',Af,Af,Af])/\(∀ l t,Ef p ys=Aa l->JP p l t->Ev (EJ Z 3 Io) (ds ys) [si p,sh (E5 b xs),sh (.L (ds rs)),s3,Af,Af,Af]=.ret (.H (ds (rs.map λr=>t*r%p))) Ae)
 |[],_,s3=>⟨λ_=>⟨s3,rfl⟩,(λl t h=>nomatch h)⟩
 |y::ys,hy,s3=>by
  obtain⟨y0,y1⟩:=hy y (AY ..);have ym:y%p=y:=BE y0 y1;have ih:=TU hr ht hp rs ys (λz hz=>hy z (AD _ hz)) (si y)
  have step:∀ o,EJ Z 3 Io (.int y) [si p,sh (E5 b xs),sh (.L (ds rs)),s3,Af,Af,Af]=o->Ev (EJ Z 3 Io) (ds (y::ys)) [si p,sh (E5 b xs),sh (.L (ds rs)),s3,Af,Af,Af]=o.turn (Ev (EJ Z 3 Io) (ds ys)):=by
   rintro o rfl;rfl
  unfold Ef;rw[ym];by_cases hz:y=0
  .have e:EJ Z 3 Io (.int y) [si p,sh (E5 b xs),sh (.L (ds rs)),s3,Af,Af,Af]=.next [si p,sh (E5 b xs),sh (.L (ds rs)),si y,Af,Af,Af]:=by
    simp[EJ,Io,hz]
   rw[Au hz,step _ e];exact ih
  .rw[Ay hz];refine⟨(λz=>nomatch z),λl t e it=>?_⟩
   cases e;obtain⟨u,u1,u2,u3,u4⟩:=ht p y hp (by rw[ym];exact hz)
   have:t=u:=Te it ⟨u1,u2,u3⟩;subst this;have p0:=hp.pos;have ph:=hp.hi;have cp:Cq (cG Z [si p,sh (E5 b xs),sh (.L (ds rs)),si y,si t,Af,Af] 6 DL) (cF Z [si p,sh (E5 b xs),sh (.L (ds rs)),si y,si t,Af,Af] 6 Px) (ds rs)=.ok (ds (rs.map λr=>t*r%p)):=by
    refine P1 rs λr _=>⟨rfl,?_⟩
    have m:Fq t r=Ab:=M3 (by omega) (by omega)
    simp[cF,Px,m,hr p (t*r) p0]
   have e:EJ Z 3 Io (.int y) [si p,sh (E5 b xs),sh (.L (ds rs)),s3,Af,Af,Af]=.ret (.H (ds (rs.map λr=>t*r%p))) Ae:=by
    simp[EJ,Io,hz,u4,cp,Fv]
   rw[step _ e];rfl
theorem iK(hr:Oq Z)(ht:PN Z)(hp:P4 p){l t:Ai}(e:Ef p xs=Aa l)(it:JP p l t):NS.run Z [.int p,E5 b xs]=.ok (.H (ds (lq p t xs))):=by
 have p0:=hp.pos;have cp:Cq (cG Z [si p,sh (E5 b xs),Af,Af,Af,Af,Af] 5 DL) (cF Z [si p,sh (E5 b xs),Af,Af,Af,Af,Af] 5 Pq) (ds xs)=.ok (ds (xs.map λx=>x%p)):=by
  refine P1 xs λx _=>⟨rfl,?_⟩
  simp[cF,Pq,hr p x p0]
 have run:∀ o,Ev (EJ Z 3 Io) (ds (xs.map λx=>x%p)) [si p,sh (E5 b xs),sh (.L (ds (xs.map λx=>x%p))),Af,Af,Af,Af]=o->NS.run Z [.int p,E5 b xs]=(Iz Z (.cons (.rais 3 (.cons (.str (Aj "all the numbers have the rest 0")) .nil)) .nil) o).ans Ae:=by
  rintro o rfl;simp[NS,Df.run,Bu,bZ,cp]
 have le:Ef p (xs.map λx=>x%p)=Ef p xs:=by
  have:=P7 (c:=1) hp (by rcases hp with rfl|rfl|rfl|rfl<;>decide) (f:=λx=>x%p) (λx=>by rw[Em,Bo _ (Cm p)]) xs
  rw[this];cases e:Ef p xs with
  |none=>rfl
  |some l=>
   obtain⟨_,l0,l1⟩:=Tb p0 e;simp[BE (Int.le_of_lt l0) l1]
 obtain⟨a,c⟩:=TU (b:=b) (xs:=xs) hr ht hp (xs.map λx=>x%p) (xs.map λx=>x%p) (λy hy=>by
  obtain⟨x,_,rfl⟩:=Ie.mp hy;exact⟨BW _ (by omega),BR _ p0⟩) Af
 rw[le]at a c;rw[run _ (c l t e it)];simp[lq,Ic,Function.comp_def]
end
theorem QQ(q:Am)(a:R3):Eu (Av q a)=.ok [.int a.1,.int a.2.1,.int a.2.2]:=by cases q<;>rfl
noncomputable def ND(a b c:R3):R3:=(a.1,b.1,c.1)
noncomputable def NC(a b c:R3):R3:=(a.2.1,b.2.1,c.2.1)
noncomputable def NB(a b c:R3):R3:=(a.2.2,b.2.2,c.2.2)
noncomputable def KR(a x:R3):Ai:=a.1*x.1+a.2.1*x.2.1+a.2.2*x.2.2
theorem U_2:∀ xs ys:Ac Ai,LT (ds xs) (ds ys)=decide (xs=ys)
 |[],[]=>rfl
 |[],_::_=>rfl
 |_::_,[]=>rfl
 |x::xs,y::ys=>by
  show ((x==y)&&LT (ds xs) (ds ys))=_;rw[U_2 xs ys,DM];simp
theorem M7(a b:R3):Tm (Av Ab a) (Av Ab b)=decide (a=b):=by
 show LT (ds [a.1,a.2.1,a.2.2]) (ds [b.1,b.2.1,b.2.2])=_;rw[U_2,DM];simp only[List.cons.injEq,and_true,AM];exact⟨λ⟨h1,h2,h3⟩=>by obtain⟨a1,a2,a3⟩:=a;obtain⟨b1,b2,b3⟩:=b;simp at h1 h2 h3;rw[h1,h2,h3],λh=>by rw[h];exact⟨rfl,rfl,rfl⟩⟩
theorem wZ(hp:P4 p)(h0:0<=x)(h1:x<p):Bd 10 x:=by
 unfold Bd;have:=hp.hi;omega
theorem Bd.mono{m:Ag}(h:Bd m x)(hm:m<=n):Bd n x:=AZ h (Nat.pow_le_pow_right (by decide) hm)
def Bn(n:Ag)(a:R3):Prop:=Bd n a.1/\Bd n a.2.1/\Bd n a.2.2
theorem Bn.b3(h:Bn n a)(hn:n<=300):B3 a:=⟨h.1.mono hn,h.2.1.mono hn,h.2.2.mono hn⟩
noncomputable def Hs(k:Ai)(a:R3):R3:=(k*a.1,k*a.2.1,k*a.2.2)
noncomputable def fk0(p:Ai)(a b c d:R3):Ai:=LH d b c%p
noncomputable def ϳ(p:Ai)(a b c d:R3):R3:=Hs (fk0 p a b c d) a
def KK(p:Ai)(x y:R3):Prop:=Cg p x.1 y.1/\Cg p x.2.1 y.2.1/\Cg p x.2.2 y.2.2
section
variable{p:Ai}{a b c a' b' c' x y z x':R3}{k l m k':Ai}
theorem KK.rfl:KK p a a:=⟨Cg.rfl,Cg.rfl,Cg.rfl⟩
theorem KK.of(h:a=b):KK p a b:=by rw[h];exact KK.rfl
theorem KK.trans(h:KK p a b)(g:KK p b c):KK p a c:=⟨h.1.trans g.1,h.2.1.trans g.2.1,h.2.2.trans g.2.2⟩
theorem KK.symm(h:KK p a b):KK p b a:=⟨h.1.symm,h.2.1.symm,h.2.2.symm⟩
theorem KK.sc(hk:Cg p k k')(h:KK p a b):KK p (Hs k a) (Hs k' b):=⟨hk.mul h.1,hk.mul h.2.1,hk.mul h.2.2⟩
theorem Lg(ha:KK p a a')(hb:KK p b b'):Cg p (KR a b) (KR a' b'):=((ha.1.mul hb.1).add (ha.2.1.mul hb.2.1)).add (ha.2.2.mul hb.2.2)
theorem sM(ha:KK p a a')(hb:KK p b b')(hc:KK p c c'):KK p (ND a b c) (ND a' b' c')/\KK p (NC a b c) (NC a' b' c')/\KK p (NB a b c) (NB a' b' c'):=⟨⟨ha.1,hb.1,hc.1⟩,⟨ha.2.1,hb.2.1,hc.2.1⟩,⟨ha.2.2,hb.2.2,hc.2.2⟩⟩
noncomputable def ap(a b c x:R3):R3:=(KR a x,KR b x,KR c x)
theorem Wv(k l:Ai)(x:R3):Hs k (Hs l x)=Hs (k*l) x:=by
 unfold Hs;simp only[HC]
theorem yI(a b c x:R3)(k:Ai):ap a b c (Hs k x)=Hs k (ap a b c x):=by
 unfold ap Hs KR;refine MC ?_ (MC ?_ ?_)<;>(simp only;grind)
end
section
variable{p:Ai}{a b c f0 f1 f2 f3 g0 g1 g2 g3:R3}{d0 d1 d2 d3:Ai}
end
section
variable{Z:Z4}{ns:Ac Ai}
end
section
variable{Z:Z4}{ns:Ac Ai}{many s5 s6 s7 s8 s9 s0 s1 s2:Sl}{p:Ai}{a b c:R3}
end
def InL(p:Ai)(xs:Ac Ai):Prop:=∀ x∈xs,0<=x/\x<p
theorem InL.set{xs:Ac Ai}(h:InL p xs)(k:Ag){v:Ai}(h0:0<=v)(h1:v<p):InL p (xs.set k v):=λx hx=>by
 rcases List.mem_or_eq_of_mem_set hx with z|rfl
 .exact h x z
 .exact⟨h0,h1⟩
section
variable{Z:Z4}{ns:Ac Ai}{p at_:Ai}
end
section
variable{Z:Z4}{ns:Ac Ai}{p t:Ai}
end
structure C6 where
 c0:Ai
 c1:Ai
 c2:Ai
 c3:Ai
 c4:Ai
 c5:Ai
noncomputable def C6.l(C:C6):Ac Ai:=[C.c0,C.c1,C.c2,C.c3,C.c4,C.c5]
noncomputable def vI(C:C6)(x:R3):Ai:=C.c0*x.1*x.1+C.c1*x.2.1*x.2.1+C.c2*x.2.2*x.2.2+(C.c3*x.1*x.2.1+C.c4*x.1*x.2.2+C.c5*x.2.1*x.2.2)
noncomputable def Ü(C:C6):R3:=(2*C.c0,C.c3,C.c4)
noncomputable def Ý(C:C6):R3:=(C.c3,2*C.c1,C.c5)
noncomputable def Þ(C:C6):R3:=(C.c4,C.c5,2*C.c2)
noncomputable def bI(C:C6)(x y:R3):Ai:=KR (ap (Ü C) (Ý C) (Þ C) x) y
noncomputable def wj(k:Ai)(C:C6):C6:=⟨k*C.c0,k*C.c1,k*C.c2,k*C.c3,k*C.c4,k*C.c5⟩
def yi(p:Ai)(C D:C6):Prop:=Cg p C.c0 D.c0/\Cg p C.c1 D.c1/\Cg p C.c2 D.c2/\Cg p C.c3 D.c3/\Cg p C.c4 D.c4/\Cg p C.c5 D.c5
noncomputable def pb(C:C6)(a b c:R3):C6:=⟨vI C (ND a b c),vI C (NC a b c),vI C (NB a b c),bI C (ND a b c) (NC a b c),bI C (ND a b c) (NB a b c),bI C (NC a b c) (NB a b c)⟩
section
variable{p:Ai}{C D E:C6}{a b c a' b' c' x y x' y':R3}{k k':Ai}
theorem C6.ext'(h0:C.c0=D.c0)(h1:C.c1=D.c1)(h2:C.c2=D.c2)(h3:C.c3=D.c3)(h4:C.c4=D.c4)(h5:C.c5=D.c5):C=D:=by
 cases C;cases D;simp_all
theorem yi.rfl:yi p C C:=⟨Cg.rfl,Cg.rfl,Cg.rfl,Cg.rfl,Cg.rfl,Cg.rfl⟩
theorem yi.of(h:C=D):yi p C D:=by rw[h];exact yi.rfl
theorem yi.symm(h:yi p C D):yi p D C:=⟨h.1.symm,h.2.1.symm,h.2.2.1.symm,h.2.2.2.1.symm,h.2.2.2.2.1.symm,h.2.2.2.2.2.symm⟩
theorem yi.trans(h:yi p C D)(g:yi p D E):yi p C E:=⟨h.1.trans g.1,h.2.1.trans g.2.1,h.2.2.1.trans g.2.2.1,h.2.2.2.1.trans g.2.2.2.1,h.2.2.2.2.1.trans g.2.2.2.2.1,h.2.2.2.2.2.trans g.2.2.2.2.2⟩
theorem yi.sc(hk:Cg p k k')(h:yi p C D):yi p (wj k C) (wj k' D):=⟨hk.mul h.1,hk.mul h.2.1,hk.mul h.2.2.1,hk.mul h.2.2.2.1,hk.mul h.2.2.2.2.1,hk.mul h.2.2.2.2.2⟩
theorem Rb(h:yi p C D)(hx:KK p x x'):Cg p (vI C x) (vI D x'):=
 (((((h.1.mul hx.1).mul hx.1).add ((h.2.1.mul hx.2.1).mul hx.2.1)).add ((h.2.2.1.mul hx.2.2).mul hx.2.2))).add ((((h.2.2.2.1.mul hx.1).mul hx.2.1).add ((h.2.2.2.2.1.mul hx.1).mul hx.2.2)).add ((h.2.2.2.2.2.mul hx.2.1).mul hx.2.2))
theorem uE(h:yi p C D):KK p (Ü C) (Ü D)/\KK p (Ý C) (Ý D)/\KK p (Þ C) (Þ D):=
 ⟨⟨Cg.rfl.mul h.1,h.2.2.2.1,h.2.2.2.2.1⟩,⟨h.2.2.2.1,Cg.rfl.mul h.2.1,h.2.2.2.2.2⟩,⟨h.2.2.2.2.1,h.2.2.2.2.2,Cg.rfl.mul h.2.2.1⟩⟩
theorem tP(ha:KK p a a')(hb:KK p b b')(hc:KK p c c')(hx:KK p x x'):KK p (ap a b c x) (ap a' b' c' x'):=⟨Lg ha hx,Lg hb hx,Lg hc hx⟩
theorem RB(h:yi p C D)(hx:KK p x x')(hy:KK p y y'):Cg p (bI C x y) (bI D x' y'):=
 let ⟨t0,t1,t2⟩:=uE h
 Lg (tP t0 t1 t2 hx) hy
theorem xM(h:yi p C D)(ha:KK p a a')(hb:KK p b b')(hc:KK p c c'):yi p (pb C a b c) (pb D a' b' c'):=
 let ⟨s0,s1,s2⟩:=sM ha hb hc
 ⟨Rb h s0,Rb h s1,Rb h s2,RB h s0 s1,RB h s0 s2,RB h s1 s2⟩
theorem VY(k l:Ai)(C:C6):wj k (wj l C)=wj (k*l) C:=by
 unfold wj;simp only[HC]
theorem UD(C:C6):wj 1 C=C:=by unfold wj;simp only[Em]
theorem xL(k:Ai)(C:C6)(a b c:R3):pb (wj k C) a b c=wj k (pb C a b c):=by
 unfold pb wj vI bI ap Ü Ý Þ KR;refine C6.ext' ?_ ?_ ?_ ?_ ?_ ?_<;>(simp only;grind)
def sf(p:Ai)(C D:C6):Prop:=∃ d,d%p≠0/\yi p C (wj d D)
theorem sf.rfl(hp:P4 p):sf p C C:=⟨1,hp.o1,yi.of (UD C).symm⟩
theorem sf.trans(hp:P4 p)(i:sf p C D)(j:sf p D E):sf p C E:=by
 obtain⟨d,dz,e⟩:=i;obtain⟨d',dz',e'⟩:=j;exact⟨d*d',Nc hp dz dz',e.trans ((yi.sc Cg.rfl e').trans (yi.of (VY _ _ _)))⟩
theorem sX(hp:P4 p)(dz:k%p≠0):∃ u,u%p≠0/\Cg p (u*k) 1:=by
 obtain⟨u,u1,u2,u3⟩:=M6 hp dz;refine⟨u,by rw[BE (by omega) u2];omega,?_⟩
 show u*k%p=1%p;rw[GI,u3,BE (by decide) (by have:=hp.lo;omega)]
theorem sf.symm(hp:P4 p)(i:sf p C D):sf p D C:=by
 obtain⟨d,dz,e⟩:=i;obtain⟨u,uz,o⟩:=sX hp dz;refine⟨u,uz,?_⟩;have q:=yi.sc (k:=u) (k':=u) Cg.rfl e;rw[VY]at q;exact(q.trans ((yi.sc o yi.rfl).trans (yi.of (UD D)))).symm
theorem sf.pb(i:sf p C D):sf p (OvC.pb C a b c) (OvC.pb D a b c):=by
 obtain⟨d,dz,e⟩:=i;exact⟨d,dz,(xM e KK.rfl KK.rfl KK.rfl).trans (yi.of (xL d D a b c))⟩
def InC(p:Ai)(C:C6):Prop:=∀ x∈C.l,0<=x/\x<p
end
structure BC (C:C6):Prop where
 b0:Bd 10 C.c0
 b1:Bd 10 C.c1
 b2:Bd 10 C.c2
 b3:Bd 10 C.c3
 b4:Bd 10 C.c4
 b5:Bd 10 C.c5
theorem InC.b{C:C6}(hp:P4 p)(h:InC p C):BC C:=by
 have k:∀ x∈C.l,Bd 10 x:=λx hx=>wZ hp (h x hx).1 (h x hx).2
 exact⟨k _ (by simp[C6.l]),k _ (by simp[C6.l]),k _ (by simp[C6.l]),k _ (by simp[C6.l]),k _ (by simp[C6.l]),k _ (by simp[C6.l])⟩
noncomputable def t0(p:Ai)(C:C6):R3:=(2*C.c0%p,C.c3,C.c4)
noncomputable def t1(p:Ai)(C:C6):R3:=(C.c3,2*C.c1%p,C.c5)
noncomputable def t2(p:Ai)(C:C6):R3:=(C.c4,C.c5,2*C.c2%p)
section
variable{Z:Z4}{ns:Ac Ai}{p at_:Ai}{φ:Ai->Ai}
end
def Pr(p:Ai)(x y:R3):Prop:=∃ d,d%p≠0/\KK p x (Hs d y)
section
variable{p:Ai}{a b c x y z f g h:R3}{k:Ai}
theorem VZ(x:R3):Hs 1 x=x:=by unfold Hs;simp only[Em]
theorem Pr.rfl(hp:P4 p):Pr p x x:=⟨1,hp.o1,KK.of (VZ x).symm⟩
theorem Pr.trans(hp:P4 p)(i:Pr p x y)(j:Pr p y z):Pr p x z:=by
 obtain⟨d,dz,e⟩:=i;obtain⟨d',dz',e'⟩:=j;exact⟨d*d',Nc hp dz dz',e.trans ((KK.sc Cg.rfl e').trans (KK.of (Wv _ _ _)))⟩
theorem Pr.symm(hp:P4 p)(i:Pr p x y):Pr p y x:=by
 obtain⟨d,dz,e⟩:=i;obtain⟨u,u1,u2,u3⟩:=M6 hp dz;have uz:u%p≠0:=by rw[BE (by omega) u2];omega
 have o:Cg p (u*d) 1:=by
  show u*d%p=1%p;rw[GI,u3,BE (by decide) (by have:=hp.lo;omega)]
 refine⟨u,uz,?_⟩;have q:=KK.sc (k:=u) (k':=u) Cg.rfl e;rw[Wv]at q;exact(q.trans ((KK.sc o KK.rfl).trans (KK.of (VZ y)))).symm
theorem yJ{a' b' c' x':R3}(ha:KK p a a')(hb:KK p b b')(hc:KK p c c')(hx:KK p x x'):KK p (ap a b c x) (ap a' b' c' x'):=⟨Lg ha hx,Lg hb hx,Lg hc hx⟩
theorem Pr.ap(i:Pr p x y):Pr p (OvC.ap a b c x) (OvC.ap a b c y):=by
 obtain⟨d,dz,e⟩:=i;exact⟨d,dz,(yJ KK.rfl KK.rfl KK.rfl e).trans (KK.of (yI a b c y d))⟩
end
noncomputable def nq(g:R3):Ac Ai:=[g.1,g.2.1,g.2.2]
section
variable{p:Ai}{a b c a' b' c' f0 f1 f2 f3 g0 g1 g2 g3 h0 h1 h2 h3:R3}
end
section
variable{Z:Z4}{ns:Ac Ai}{p:Ai}
end
def Os(Z:Z4)(mid:Ag)(ns:Ac Ai):Prop:=∀ k:Ai,0<=k->∃ m,0<=m/\Z.F mid [scr ns,.int k]=.ok (.int m)
section
variable{Z:Z4}{ns:Ac Ai}{mid:Ag}{p:Ai}{a b c:R3}{s2 s4 s5 s6 s7 s8:Sl}
end
theorem pS(h:1<p):Ef p [0,0,1]=Aa 1:=by
 simp[Ef,BE (by decide:(0:Ai)<=1) h]
theorem wU(h:1<p)(z:Ai):Ef p [0,1,z]=Aa 1:=by
 simp[Ef,BE (by decide:(0:Ai)<=1) h]
theorem zM(h:1<p)(y z:Ai):Ef p [1,y,z]=Aa 1:=by
 simp[Ef,BE (by decide:(0:Ai)<=1) h]
noncomputable def iy(a b:R3):C6:=⟨a.1*b.1,a.2.1*b.2.1,a.2.2*b.2.2,a.1*b.2.1+a.2.1*b.1,a.1*b.2.2+a.2.2*b.1,a.2.1*b.2.2+a.2.2*b.2.1⟩
noncomputable def Xg(C D:C6):C6:=⟨C.c0-D.c0,C.c1-D.c1,C.c2-D.c2,C.c3-D.c3,C.c4-D.c4,C.c5-D.c5⟩
section
variable{Z:Z4}{ns:Ac Ai}{p:Ai}{C:C6}{s3 s4 s5 s6 s7 s8:Sl}
end
section
variable{Z:Z4}{ns:Ac Ai}
end
section
variable{Z:Z4}{ns:Ac Ai}{p:Ai}{C:C6}{s3 s4 s5 s6 s7 s8:Sl}
end
def NF(p:Ai)(x:R3):Prop:=zf p x/\Ef p (nq x)=Aa 1
noncomputable def m7(p n:Ai):R3:=if n=0 then (0,0,1) else if n<=p then (0,1,n-1) else (1,(n-p-1)/p,(n-p-1)%p)
theorem uW{n:Ai}(hp:P4 p)(h0:0<=n)(h1:n<p*p+p+1):NF p (m7 p n):=by
 have p1:1<p:=by have:=hp.lo;omega
 have p0:=hp.pos;unfold m7;by_cases z:n=0
 .rw[Au z];exact⟨⟨⟨by decide,p0⟩,⟨by decide,p0⟩,⟨by decide,p1⟩⟩,pS p1⟩
 .rw[Ay z];by_cases z1:n<=p
  .rw[Au z1];exact⟨⟨⟨X5 0,p0⟩,⟨(by decide:(0:Ai)<=1),p1⟩,⟨by show 0<=n-1;omega,by show n-1<p;omega⟩⟩,wU p1 _⟩
  .rw[Ay z1];have d0:0<=(n-p-1)/p:=Int.ediv_nonneg (by omega) (by omega)
   have d1:(n-p-1)/p<p:=by rw[Int.ediv_lt_iff_lt_mul p0];omega
   exact⟨⟨⟨(by decide:(0:Ai)<=1),p1⟩,⟨d0,d1⟩,⟨BW _ (by omega),BR _ p0⟩⟩,zM p1 _ _⟩
noncomputable def q4(w:Ag)(k:Ai)(y:R3):Ai:=match w with
  |0=>y.1*y.2.2-y.2.1*y.2.1
  |1=>y.1*y.1
  |2=>y.1*y.2.1
  |_=>y.1*y.1-k*(y.2.1*y.2.1)
noncomputable def E4(w:Ag)(k:Ai)(a b c:R3):C6:=match w with
  |0=>Xg (iy a c) (iy b b)
  |1=>iy a a
  |2=>iy a b
  |_=>Xg (iy a a) (wj k (iy b b))
noncomputable def oz(p:Ai)(w:Ag):Ag:=match w with
  |0=>(p+1).toNat
  |1=>(p+1).toNat
  |2=>(2*p+1).toNat
  |_=>1
section
variable{Z:Z4}{p i j k d N:Ai}{PP x y u:D}{RL:Ac D}{s t s' t' v:Sl}
end
section
variable{Z:Z4}{p:Ai}{pts:Ac R3}
end
def tQ(Z:Z4)(ns:Ac Ai):Prop:=∀ k,0<=k->∃ p,P4 p/\Z.F 39 [scr ns,.int k]=.ok (.int p)
def nB(Z:Z4)(ns:Ac Ai):Prop:=∀(p k:Ai),P4 p->0<=k->∃ a b c,NF p a/\NF p b/\NF p c/\Z.F 74 [scr ns,.int k,.int p]=.ok (.H [Av Ab a,Av Ab b,Av Ab c])
noncomputable def sp7:Ah:=Aj " "
noncomputable def dg(n:Ag):Ah:=if n<10 then ⟨#[48+n]⟩ else ⟨#[49,48]⟩
theorem oR:∀ n:Ag,n<11->Aj (toString (n:Ai))=dg n:=by decide+kernel
theorem sH:∀ a:Ag,a<11->∀ b:Ag,b<11->(dg a==dg b)=(a==b):=by decide+kernel
noncomputable def br0(s:Am):Ah:=if s=Ab then Aj "[" else Aj "("
noncomputable def br1(s:Am):Ah:=if s=Ab then Aj "]" else Aj ")"
noncomputable def jn(a b c:Ag):Ah:=Ep sp7 [dg a,dg b,dg c]
noncomputable def tx(s:Am)(a b c:Ag):Ah:=br0 s++jn a b c++br1 s
def Sg(u:Ah):Prop:=(∃ x,u=⟨#[x]⟩)\/∃ x y,u=⟨#[x,y]⟩
theorem RM(a:Ag):Sg (dg a):=by
 unfold dg;by_cases h:a<10
 .rw[Au h];exact .inl ⟨_,rfl⟩
 .rw[Ay h];exact .inr ⟨_,_,rfl⟩
structure JF (u v w:Ah):Prop where
 jo:J7 sp7 [u,v,w]=Ab
 ln:(Ep sp7 [u,v,w]).length<=10
 cut:∀ b d:Ag,JJ ((⟨#[b]⟩:Ah)++Ep sp7 [u,v,w]++⟨#[d]⟩) (Aa 1) (Aa (-1))=Ep sp7 [u,v,w]
 tl:∀ b d:Ag,((⟨#[b]⟩:Ah)++Ep sp7 [u,v,w]++⟨#[d]⟩).length<=20
 i0:∀ b d:Ag,G7 (.str ((⟨#[b]⟩:Ah)++Ep sp7 [u,v,w]++⟨#[d]⟩)) (.int 0)=.ok (.str ⟨#[b]⟩)
 i1:∀ b d:Ag,G7 (.str ((⟨#[b]⟩:Ah)++Ep sp7 [u,v,w]++⟨#[d]⟩)) (.int (-1))=.ok (.str ⟨#[d]⟩)
theorem jf{u v:Ah}(hu:Sg u)(hv:Sg v)(hw:Sg w):JF u v w:=by
 rcases hu with ⟨x,rfl⟩|⟨x,x',rfl⟩<;>rcases hv with ⟨y,rfl⟩|⟨y,y',rfl⟩<;>rcases hw with ⟨z,rfl⟩|⟨z,z',rfl⟩ <;>
  exact⟨by kernel_rfl,AR (by kernel_rfl),λb d=>by kernel_rfl,λb d=>AR (by kernel_rfl),λb d=>by kernel_rfl,λb d=>by kernel_rfl⟩
theorem mT(s:Am):∃ b,br0 s=⟨#[b]⟩:=by
 cases s with
 |false=>exact⟨40,by kernel_rfl⟩
 |true=>exact⟨91,by kernel_rfl⟩
theorem mR(s:Am):∃ b,br1 s=⟨#[b]⟩:=by
 cases s with
 |false=>exact⟨41,by kernel_rfl⟩
 |true=>exact⟨93,by kernel_rfl⟩
theorem uB{x y:Ah}{l:Ac Ah}(h:DH x y=l)(hl:l.length=3)(hx:x.length<=20):IY x y=Ab:=by
 unfold DH at h;have no:¬ ([x]=l):=λz=>by rw[<-z]at hl;simp at hl
 by_cases h1:(decide (x.length<y.length)||decide (DC x<DC y))=Ab
 .rw[Au h1]at h;exact absurd h no
 .rw[Ay h1]at h;by_cases h2:(Dz x y 0 x.length (x.length+1)).isEmpty=Ab
  .rw[Au h2]at h;exact absurd h no
  .rw[Ay h2]at h;unfold IY;rw[h,hl,An];exact⟨GO.mpr (by omega),rfl⟩
noncomputable def Hn(a:Ag):Am:=(BO 11).all λb=>(BO 11).all λc=>DH (jn a b c) sp7==[dg a,dg b,dg c]
theorem tA0:Hn 0=Ab:=by decide+kernel
theorem tA1:Hn 1=Ab:=by decide+kernel
theorem tA2:Hn 2=Ab:=by decide+kernel
theorem tA3:Hn 3=Ab:=by decide+kernel
theorem tA4:Hn 4=Ab:=by decide+kernel
theorem tA5:Hn 5=Ab:=by decide+kernel
theorem tA6:Hn 6=Ab:=by decide+kernel
theorem tA7:Hn 7=Ab:=by decide+kernel
theorem tA8:Hn 8=Ab:=by decide+kernel
theorem tA9:Hn 9=Ab:=by decide+kernel
theorem ah:Hn 10=Ab:=by decide+kernel
theorem uH:∀ a:Ag,a<11->Hn a=Ab
 |0,_=>tA0
 |1,_=>tA1
 |2,_=>tA2
 |3,_=>tA3
 |4,_=>tA4
 |5,_=>tA5
 |6,_=>tA6
 |7,_=>tA7
 |8,_=>tA8
 |9,_=>tA9
 |10,_=>ah
 |n+11,h=>absurd h (by omega)
noncomputable def LQ:E:=(.bi .str {.v 1})
noncomputable def Qo:Df:=⟨2,Ae,{.ret (.bi .sjoin {.str (Aj " "),.comp LQ 1 (.e (.v 0)) DL})}⟩
noncomputable def NO:Ss:={.ife (.cmp .Eq (.v 1) (.bi .str {.v 2})) {.ret (.v 2)} .nil}
noncomputable def PF:Df:=⟨3,Ae,{.fors 2 (.rng (.v 0)) NO,.ret .O}⟩
noncomputable def Pz:E:=(.call 33 {.v 0,.v 3})
noncomputable def MO:Df:=⟨4,Ae,{.asg 2 Ae (.comp Pz 3 (.e (.v 1)) DL),.ife (.cmp .In .O (.v 2)) {.ret .O} .nil,.ret (.v 2)}⟩
noncomputable def bL:Df:=⟨1,Ae,{.ret (.ofl (.v 0) (Aj "triple"))}⟩
noncomputable def Pw:Df:=⟨1,Ae,{.ret (.B .Add (.B .Add (.str (Aj "(")) (.call 25 {.ofl (.v 0) (Aj "triple")})) (.str (Aj ")")))}⟩
structure TxF (a b c:Ag):Prop where
 jo:J7 sp7 [dg a,dg b,dg c]=Ab
 spl:DH (jn a b c) sp7=[dg a,dg b,dg c]
 spo:IY (jn a b c) sp7=Ab
 ln:(jn a b c).length<=10
 cut:∀ s,JJ (tx s a b c) (Aa 1) (Aa (-1))=jn a b c
 tl:∀ s,(tx s a b c).length<=20
 i0:∀ s,G7 (.str (tx s a b c)) (.int 0)=.ok (.str (br0 s))
 i1:∀ s,G7 (.str (tx s a b c)) (.int (-1))=.ok (.str (br1 s))
theorem txf{a b c:Ag}(ha:a<11)(hb:b<11)(hc:c<11):TxF a b c:=by
 have h:=uH a ha;unfold Hn at h;rw[Bh]at h;have h:=h b (CU.mpr hb);rw[Bh]at h;have h:=eq_of_beq (h c (CU.mpr hc));have j:=jf (RM a) (RM b) (RM c);have ln:(jn a b c).length<=10:=j.ln;have tw:∀ s,∃ b' d',tx s a b c=(⟨#[b']⟩:Ah)++Ep sp7 [dg a,dg b,dg c]++⟨#[d']⟩/\br0 s=⟨#[b']⟩/\br1 s=⟨#[d']⟩:=λs=>by
  obtain⟨b',e1⟩:=mT s;obtain⟨d',e2⟩:=mR s;exact⟨b',d',by unfold tx;rw[e1,e2];rfl,e1,e2⟩
 refine⟨j.jo,h,uB h rfl (by omega),ln,λs=>?_,λs=>?_,λs=>?_,λs=>?_⟩<;>obtain⟨b',d',e,e1,e2⟩:=tw s
 .rw[e];exact j.cut b' d'
 .rw[e];exact j.tl b' d'
 .rw[e,e1];exact j.i0 b' d'
 .rw[e,e2];exact j.i1 b' d'
noncomputable def jq(q:R3):Ah:=jn q.1.toNat q.2.1.toNat q.2.2.toNat
noncomputable def tq(s:Am)(q:R3):Ah:=tx s q.1.toNat q.2.1.toNat q.2.2.toNat
theorem Q3(hp:P4 p)(h:zf p q):TxF q.1.toNat q.2.1.toNat q.2.2.toNat:=by
 have:=hp.hi;obtain⟨⟨a0,a1⟩,⟨b0,b1⟩,c0,c1⟩:=h;exact txf (by omega) (by omega) (by omega)
theorem Of(h0:0<=x)(h1:x<11):zw .str [.int x]=.ok (.str (dg x.toNat)):=by
 obtain⟨n,rfl⟩:=F2 h0;show (if Lx (n:Ai)=Ab then R.ok (D.str (Aj (toString (n:Ai)))) else .bad)=_
 have:Lx (n:Ai)=Ab:=by unfold Lx;simp;omega
 rw[Au this,oR n (by omega)]
 rfl
theorem Vh(hp:P4 p)(h:zf p q):zw .str [.int q.1]=.ok (.str (dg q.1.toNat))/\zw .str [.int q.2.1]=.ok (.str (dg q.2.1.toNat))/\zw .str [.int q.2.2]=.ok (.str (dg q.2.2.toNat)):=by
 have:=hp.hi;obtain⟨⟨a0,a1⟩,⟨b0,b1⟩,c0,c1⟩:=h;exact⟨Of a0 (by omega),Of b0 (by omega),Of c0 (by omega)⟩
theorem WB(hp:P4 p)(h:zf p q):zw .sjoin [.str (Aj " "),.L [.str (dg q.1.toNat),.str (dg q.2.1.toNat),.str (dg q.2.2.toNat)]]=.ok (.str (jq q)):=by
 show (if J7 sp7 [dg q.1.toNat,dg q.2.1.toNat,dg q.2.2.toNat]=Ab then R.ok (D.str (Ep sp7 [dg q.1.toNat,dg q.2.1.toNat,dg q.2.2.toNat])) else .bad)=_
 rw[Au (Q3 hp h).jo];rfl
theorem pR(s:Am):(br0 s).length=1/\(br1 s).length=1:=by cases s<;>exact⟨rfl,rfl⟩
theorem sz7(h:n<=1000):CY n=Ab:=GO.mpr (by omega)
theorem XN(hp:P4 p)(h:zf p q)(s:Am):Dc .Add (.str (br0 s)) (.str (jq q))=.ok (.str (br0 s++jq q))/\Dc .Add (.str (br0 s++jq q)) (.str (br1 s))=.ok (.str (tq s q)):=by
 have t:=Q3 hp h;have l:=pR s;have lj:(jq q).length<=10:=t.ln;have la:(br0 s++jq q).length=(br0 s).length+(jq q).length:=Array.size_append;rw[Lc,Lc,Au (sz7 (by omega)),Au (sz7 (by omega))]
 exact⟨rfl,rfl⟩
section
variable{Z:Z4}
def VO(Z:Z4):Prop:=∀(p:Ai)(q:R3),P4 p->zf p q->Z.F 25 [Av Ab q]=.ok (.str (jq q))
theorem qX(Z:Z4)(p:Ai)(q:R3)(hp:P4 p)(h:zf p q):Qo.run Z [Av Ab q]=.ok (.str (jq q)):=by
 obtain⟨s0,s1,s2⟩:=Vh hp h;have e:Cq (cG Z [sh (Av Ab q),Af] 1 DL) (cF Z [sh (Av Ab q),Af] 1 LQ) [.int q.1,.int q.2.1,.int q.2.2]=.ok [.str (dg q.1.toNat),.str (dg q.2.1.toNat),.str (dg q.2.2.toNat)]:=by
  simp[Cq,cG,cF,DL,LQ,s0,s1,s2]
 have j:=WB hp h;have sq:=QQ Ab q;generalize Av Ab q=Q at *;simp[Qo,Df.run,Bu,sq,e,j]
noncomputable def cl7(s:Am):Ag:=if s=Ab then 2 else 1
noncomputable def pi(p:Ai)(s:Am)(q:R3):D:=.obj (cl7 s) [("p",.int p),("triple",Av Ab q)]
theorem xU(p:Ai)(s:Am)(q:R3):bv (pi p s q) (Aj "triple")=.ok (Av Ab q):=rfl
theorem vT(hr:VO Z)(p:Ai)(q:R3)(hp:P4 p)(h:zf p q):Pw.run Z [pi p Ae q]=.ok (.str (tq Ae q)):=by
 have e:=xU p Ae q;have r:=hr p q hp h;obtain⟨a1,a2⟩:=XN hp h Ae;have b0:br0 Ae=Aj "(" := rfl
 have b1:br1 Ae=Aj ")" := rfl
 rw[b0]at a1 a2;rw[b1]at a2;generalize pi p Ae q=o,Av Ab q=Q at *;simp[Pw,Df.run,Bu,e,r,a1,a2,-Lc]
def Fm(p:Ai)(q a:R3):Prop:=∃ l u,Ef p (nq q)=Aa l/\JP p l u/\lq p u (nq q)=nq a
def WN(Z:Z4):Prop:=∀(p:Ai)(b:Am)(q a:R3),P4 p->Fm p q a->Z.F 910 [.int p,Av b q]=.ok (.H [.int p,Av Ab a])
theorem WD(hf:Ob Z)(b:Am)(hp:P4 p)(h:Fm p q a):Z.F 17 [.int p,Av b q]=.ok (Av Ab a):=by
 obtain⟨l,u,h1,h2,h3⟩:=h;have e:=hf p b (nq q) l u hp h1 h2
 rwa [h3]at e
theorem uS(hf:Ob Z)(p:Ai)(b:Am)(q a:R3)(hp:P4 p)(h:Fm p q a):ki.run Z [.int p,Av b q]=.ok (.H [.int p,Av Ab a]):=by
 have e:=WD hf b hp h;generalize Av b q=Q,Av Ab a=A at *;simp[ki,Df.run,Bu,e]
theorem uR(hi:WN Z)(c:Ag)(p:Ai)(b:Am)(q a:R3)(hp:P4 p)(h:Fm p q a):(tf c).run Z [.int p,Av b q]=.ok (.obj c [("p",.int p),("triple",Av Ab a)]):=by
 have e:=hi p b q a hp h;have m:EI c (.H [.int p,Av Ab a])=.ok (.obj c [("p",.int p),("triple",Av Ab a)]):=rfl;generalize Av b q=Q,Av Ab a=A at *;simp[tf,Df.run,Bu,e,m,zg]
end
noncomputable def zb(t:Am):Ah:=if t=Ab then Aj "take" else Aj "put"
noncomputable def vk(t:Am)(a b c:Ag):Ah:=zb t++sp7++jn a b c
noncomputable def Hk(t:Am)(a:Ag):Am:=(BO 11).all λb=>(BO 11).all λc=>(DH (vk t a b c) sp7==[zb t,dg a,dg b,dg c])&&CD (vk t a b c).length 20
theorem tB0:∀ t,Hk t 0=Ab:=by decide+kernel
theorem tB1:∀ t,Hk t 1=Ab:=by decide+kernel
theorem tB2:∀ t,Hk t 2=Ab:=by decide+kernel
theorem tB3:∀ t,Hk t 3=Ab:=by decide+kernel
theorem tB4:∀ t,Hk t 4=Ab:=by decide+kernel
theorem tB5:∀ t,Hk t 5=Ab:=by decide+kernel
theorem tB6:∀ t,Hk t 6=Ab:=by decide+kernel
theorem tB7:∀ t,Hk t 7=Ab:=by decide+kernel
theorem tB8:∀ t,Hk t 8=Ab:=by decide+kernel
theorem tB9:∀ t,Hk t 9=Ab:=by decide+kernel
theorem af:∀ t,Hk t 10=Ab:=by decide+kernel
theorem oO(t:Am):∀ a:Ag,a<11->Hk t a=Ab
 |0,_=>tB0 t
 |1,_=>tB1 t
 |2,_=>tB2 t
 |3,_=>tB3 t
 |4,_=>tB4 t
 |5,_=>tB5 t
 |6,_=>tB6 t
 |7,_=>tB7 t
 |8,_=>tB8 t
 |9,_=>tB9 t
 |10,_=>af t
 |n+11,h=>absurd h (by omega)
theorem oZ{a b c:Ag}(ha:a<11)(hb:b<11)(hc:c<11):DH (vk t a b c) sp7=[zb t,dg a,dg b,dg c]/\(vk t a b c).length<=20:=by
 have h:=oO t a ha;unfold Hk at h;rw[Bh]at h;have h:=h b (CU.mpr hb);rw[Bh]at h;have h:=h c (CU.mpr hc);rw[An]at h;exact⟨eq_of_beq h.1,AR h.2⟩
theorem cs9{a b c:Ag}(ha:a<11)(hb:b<11)(hc:c<11):zw .ssplit [.str (vk t a b c),.str sp7]=.ok (.L [.str (zb t),.str (dg a),.str (dg b),.str (dg c)]):=by
 obtain⟨e,hl⟩:=oZ (t:=t) ha hb hc;have so:IY (vk t a b c) sp7=Ab:=by
  unfold DH at e;have no:¬ ([vk t a b c]=[zb t,dg a,dg b,dg c]):=λz=>by simp at z
  by_cases h1:(decide ((vk t a b c).length<sp7.length)||decide (DC (vk t a b c)<DC sp7))=Ab
  .rw[Au h1]at e;exact absurd e no
  .rw[Ay h1]at e;by_cases h2:(Dz (vk t a b c) sp7 0 (vk t a b c).length ((vk t a b c).length+1)).isEmpty=Ab
   .rw[Au h2]at e;exact absurd e no
   .rw[Ay h2]at e;unfold IY;rw[e,An];exact⟨GO.mpr (by omega),rfl⟩
 show (if (!(sp7.length==0)&&IY (vk t a b c) sp7)=Ab then R.ok (D.L ((DH (vk t a b c) sp7).map D.str)) else .bad)=_
 rw[Au (by rw[so];rfl),e]
 rfl
theorem yQ:zw .ssplit [.str (Aj "points"),.str sp7]=.ok (.L [.str (Aj "points")]):=by kernel_rfl
theorem Wz:zw .ssplit [.str (Aj "undo"),.str sp7]=.ok (.L [.str (Aj "undo")]):=by kernel_rfl
section
variable{Z:Z4}
theorem WI{body:D->Rho->O}(I:Rho->Prop)(x:Ag):∀(l:Ac Ag),(∀ j∈l,∀ U,I U->(j=x->body (.int (j:Ai)) U=.ret (.int (x:Ai)) Ae)/\(j≠x->∃ U',body (.int (j:Ai)) U=.next U'/\I U'))->x∈l->∀ U,I U->Ev body (l.map fun(k:Ag)=>D.int (k:Ai)) U=.ret (.int (x:Ai)) Ae
 |[],_,hx,_,_=>absurd hx (by simp)
 |j::l,h,hx,U,hI=>by
  obtain⟨h1,h2⟩:=h j (AY ..) U hI;show (body (.int (j:Ai)) U).turn _=_;by_cases e:j=x
  .rw[h1 e];rfl
  .obtain⟨U',e1,I'⟩:=h2 e;rw[e1];exact WI I x l (λk hk=>h k (AD _ hk)) ((A6.mp hx).resolve_left (CF e)) U' I'
def WM(Z:Z4):Prop:=∀(p x:Ai),P4 p->0<=x->x<p->Z.F 33 [.int p,.str (dg x.toNat)]=.ok (.int x)
theorem uP(Z:Z4)(p x:Ai)(hp:P4 p)(h0:0<=x)(h1:x<p):PF.run Z [.int p,.str (dg x.toNat)]=.ok (.int x):=by
 have ph:=hp.hi;have pp:=hp.pos;obtain⟨n,rfl⟩:=F2 h0;have hn:n<11:=by omega
 have tn:((n:Ai)).toNat=n:=rfl;rw[tn];have rg:EY 0 p=.ok ((BO p.toNat).map fun(k:Ag)=>D.int (k:Ai)):=by
  rw[cU (by omega) (by omega)]
  simp[Iw]
 have key:=WI (body:=EJ Z 2 NO) (λU=>∃ s,U=[si p,sh (.str (dg n)),s]) n (BO p.toNat) (by
  rintro j hj U ⟨s,rfl⟩;have gv:=CU.mp hj;have jl:j<11:=by omega
  have st:zw .str [.int (j:Ai)]=.ok (.str (dg j)):=Of (by omega) (by omega)
  have eq:(dg n==dg j)=(n==j):=sH n hn j jl;refine⟨λe=>?_,λe=>⟨[si p,sh (.str (dg n)),si (j:Ai)],?_,_,rfl⟩⟩
  .subst e;generalize dg j=dj at *;simp[EJ,NO,st,Fv]
  .have ne:dg n≠dg j:=λz=>by
    rw[z]at eq;have:(n==j)=Ab:=by rw[<-eq];simp
    exact e (by have:=eq_of_beq this;exact this.symm)
   generalize dg j=dj,dg n=dn at *;simp[EJ,NO,st,ne]) (CU.mpr (by omega)) [si p,sh (.str (dg n)),Af] ⟨_,rfl⟩
 generalize dg n=dn at *;simp[PF,Df.run,Bu,rg,key]
theorem qW(hr:WM Z)(p:Ai)(q:R3)(hp:P4 p)(h:zf p q):MO.run Z [.int p,.L [.str (dg q.1.toNat),.str (dg q.2.1.toNat),.str (dg q.2.2.toNat)]]=.ok (Av Ae q):=by
 have e1:=hr p q.1 hp h.1.1 h.1.2;have e2:=hr p q.2.1 hp h.2.1.1 h.2.1.2;have e3:=hr p q.2.2 hp h.2.2.1 h.2.2.2;generalize dg q.1.toNat=d1,dg q.2.1.toNat=d2,dg q.2.2.toNat=d3 at *;have e:Cq (cG Z [si p,sh (.L [.str d1,.str d2,.str d3]),Af,Af] 3 DL) (cF Z [si p,sh (.L [.str d1,.str d2,.str d3]),Af,Af] 3 Pz) [.str d1,.str d2,.str d3]=.ok [.int q.1,.int q.2.1,.int q.2.2]:=by
  simp[Cq,cG,cF,DL,Pz,e1,e2,e3]
 have ci:BP .In .O (.L [.int q.1,.int q.2.1,.int q.2.2])=.ok (.bl Ae):=rfl;simp[MO,Df.run,Bu,e,ci];rfl
abbrev Th:=Am×R3×Ai
end
def Thv(p:Ai)(t:Th):Prop:=NF p t.2.1/\1<=t.2.2/\t.2.2<p
noncomputable def Ó(p:Ai)(t:Th):R3:=(t.2.2*t.2.1.1%p,t.2.2*t.2.1.2.1%p,t.2.2*t.2.1.2.2%p)
theorem Rg(hp:P4 p):JP p 1 1:=by
 have:=hp.lo;exact⟨by omega,by omega,BE (by omega) (by omega)⟩
theorem WH(hp:P4 p)(h:NF p a):Fm p a a:=by
 refine⟨1,1,h.2,Rg hp,?_⟩;obtain⟨⟨⟨a0,a1⟩,⟨b0,b1⟩,c0,c1⟩,_⟩:=h;have e:∀ x:Ai,0<=x->x<p->1*(x%p)%p=x:=λx h0 h1=>by rw[Em,Bo _ (Cm p),BE h0 h1]
 simp only[lq,nq,BM,Yv,e _ a0 a1,e _ b0 b1,e _ c0 c1]
theorem Wd(hp:P4 p)(t:Th):zf p (Ó p t):=by
 have p0:=hp.pos;have f:∀ x:Ai,0<=x%p/\x%p<p:=λx=>⟨BW _ (by omega),BR _ p0⟩
 exact⟨f _,f _,f _⟩
theorem tI{t:Th}(hp:P4 p)(h:Thv p t):Fm p (Ó p t) t.2.1:=by
 obtain⟨hn,f1,f2⟩:=h;have hc:t.2.2%p≠0:=by rw[BE (by omega) f2];omega
 have hl:(1:Ai)%p≠0:=hp.o1;have hf:∀ x:Ai,(t.2.2*x%p)%p=t.2.2*x%p:=λx=>Bo _ (Cm p)
 obtain⟨u,h1,h2⟩:=eA hp hc hl (Rg hp) (f:=λx=>t.2.2*x%p) hf (nq t.2.1)
 have e:=P7 hp hc (f:=λx=>t.2.2*x%p) hf (nq t.2.1)
 rw[hn.2]at e;obtain⟨l',u',g1,g2,g3⟩:=WH hp hn;rw[hn.2]at g1;cases g1;have:u'=1:=Te g2 (Rg hp);subst this;exact⟨_,u,e,h1,h2.trans g3⟩
section
variable{Z:Z4}{ns:Ac Ai}{p:Ai}
end
noncomputable def MM:Df:=⟨2,Ae,{.asg 1 Ae (.B .Mod (.v 1) (.B .Add (.B .Add (.B .Mult (.v 0) (.v 0)) (.v 0)) (.int 1))),.ife (.cmp .Eq (.v 1) (.int 0)) {.ret (.H {.int 0,.int 0,.int 1})} .nil,.ife (.cmp .LtE (.v 1) (.v 0)) {.ret (.H {.int 0,.int 1,.B .Sub (.v 1) (.int 1)})} .nil,.ret (.H {.int 1,.B .FloorDiv (.B .Sub (.B .Sub (.v 1) (.v 0)) (.int 1)) (.v 0),.B .Mod (.B .Sub (.B .Sub (.v 1) (.v 0)) (.int 1)) (.v 0)})}⟩
def VP(Z:Z4):Prop:=∀(p n:Ai),P4 p->Z.F 93 [.int p,.int n]=.ok (Av Ab (m7 p (n%(p*p+p+1))))
theorem pN{n:Ai}(hp:P4 p):0<p*p+p+1/\0<=n%(p*p+p+1)/\n%(p*p+p+1)<p*p+p+1:=by
 have p0:=hp.pos;have N0:0<p*p+p+1:=by have:=Int.mul_pos p0 p0;omega
 exact⟨N0,BW n (X9 N0),BR n N0⟩
theorem rB(Z:Z4)(p n:Ai)(hp:P4 p):MM.run Z [.int p,.int n]=.ok (Av Ab (m7 p (n%(p*p+p+1)))):=by
 have pp:Fq p p=Ab:=M3 (by have:=hp.lo;omega) (by have:=hp.hi;omega)
 have p0:=hp.pos;have ph:=hp.hi;obtain⟨N0,h0,h1⟩:=pN (n:=n) hp;have pb:p<1073741824:=by omega
 generalize hr:n%(p*p+p+1)=r at *;unfold m7;by_cases z0:r=0
 .rw[Au z0];simp[MM,Df.run,Bu,pp,N0,hr,z0];rfl
 .rw[Ay z0];by_cases z1:r<=p
  .rw[Au z1];simp[MM,Df.run,Bu,pp,N0,hr,z0,z1];rfl
  .rw[Ay z1];simp[MM,Df.run,Bu,pp,N0,hr,z0,z1,p0,pb];rfl
def tS(Z:Z4):Prop:=∀(p:Ai)(a b c:R3),P4 p->NF p a->NF p b->NF p c->a≠b->Z.F 75 [.int p,Av Ab a,Av Ab b,Av Ab c]=.ok (.bl Ab)
theorem UX(x:R3)(l:Ac R3):(l.map (Av Ab)).any (λy=>Tm y (Av Ab x))=decide (x∈l):=by
 induction l with
 |nil=>simp
 |cons y l ih=>
  rw[BM,JV,ih,M7,DM,BV,AM,AM,AM,A6];exact or_congr ⟨NK,NK⟩ Iff.rfl
def tR(Z:Z4):Prop:=∀(p:Ai)(a b c:R3),P4 p->NF p a->NF p b->NF p c->a≠b->b≠c->c≠a->LH a b c%p≠0->Z.F 76 [.int p,Av Ab a,Av Ab b,Av Ab c]=.ok (.bl Ab)
structure á (Z:Z4) (ns:Ac Ai):Prop where
 pr:tQ Z ns
 three:nB Z ns
 comm:tS Z
 corn:tR Z
 meas:mI Z
section
variable{Z:Z4}{ns:Ac Ai}{s1 s2 s3 s4 s5:Sl}
end
noncomputable def NP:Df:=⟨3,Ae,{.asg 2 Ae (.int 0),.ife (.cmp .Gt (.bi .len {.v 0}) (.int 0)) {.asg 2 Ae (.x (.v 0) (.B .Mod (.v 1) (.bi .len {.v 0})))} .nil,.ret (.B .Mod (.B .Mult (.B .Mod (.B .Mult (.B .Add (.B .Add (.B .Mod (.v 2) (.int 1000003)) (.B .Mult (.int 7919) (.v 1))) (.int 11)) (.int 48271)) (.int 1000033)) (.int 69621)) (.int 999983))}⟩
noncomputable def Pu:Df:=⟨1,Ae,{.ret (.x (.L {.int 3,.int 5,.int 7,.int 11}) (.B .Mod (.call 354 {.v 0,.int 0}) (.int 4)))}⟩
noncomputable def P6:Df:=⟨2,Ae,{.ret (.bi .sjoin {.str (Aj " "),.comp LQ 1 (.e (.v 0)) DL})}⟩
noncomputable def Py:Df:=⟨1,Ae,{.ret (.B .Add (.B .Add (.str (Aj "(")) (.call 357 {.v 0})) (.str (Aj ")")))}⟩
noncomputable def PB:E:=(.B .Mod (.B .Mult (.v 4) (.v 3)) (.v 0))
noncomputable def PH:Df:=⟨5,Ae,{.asg 3 Ae (.B .Add (.int 1) (.B .Mod (.v 2) (.B .Sub (.v 0) (.int 1)))),.ret (.call 357 {.comp PB 4 (.e (.v 1)) DL})}⟩
noncomputable def Gs:Df:=⟨6,Ae,{.asg 4 Ae (.call 354 {.v 0,.v 2}),.ife (.and {.cmp .Eq (.B .Mod (.call 354 {.v 0,.int 62}) (.int 3)) (.int 0),.cmp .Lt (.v 2) (.int 45),.cmp .Lt (.B .Mod (.v 4) (.int 8)) (.int 7)}) {.ret (.H {.str (Aj "put"),.call 93 {.v 1,.B .Add (.B .Mult (.int 5) (.v 2)) (.call 354 {.v 0,.int 63})}})} .nil,.asg 5 Ae (.call 93 {.v 1,.B .Mod (.B .FloorDiv (.v 4) (.int 64)) (.x (.L {.int 12,.int 133}) (.B .Mod (.B .FloorDiv (.v 4) (.int 8)) (.int 2)))}),.ife (.cmp .Lt (.B .Mod (.v 4) (.int 8)) (.int 5)) {.ret (.H {.str (Aj "put"),.v 5})} .nil,.ife (.and {.cmp .Eq (.B .Mod (.v 4) (.int 8)) (.int 5),.cmp .NotEq (.bi .len {.bi .list {.v 3}}) (.int 0),.cmp .Gt (.B .Mod (.B .FloorDiv (.v 4) (.int 16)) (.int 4)) (.int 0)}) {.ret (.H {.str (Aj "take"),.x (.v 3) (.B .Mod (.B .FloorDiv (.v 4) (.int 64)) (.bi .len {.v 3}))})} .nil,.ret (.H {.x (.L {.str (Aj "take"),.str (Aj "undo"),.str (Aj "points")}) (.B .Sub (.B .Mod (.v 4) (.int 8)) (.int 5)),.v 5})}⟩
noncomputable def ML:E:=(.call 358 {.v 4})
noncomputable def G0:Df:=⟨5,Ae,{.ife (.and {.cmp .Eq (.v 0) (.str (Aj "put")),.cmp .In (.v 1) (.v 2)}) {.ret (.H {.str (Aj "alike"),.O})} .nil,.ife (.and {.cmp .Eq (.v 0) (.str (Aj "put")),.cmp .Eq (.bi .len {.v 2}) (.int 30)}) {.ret (.H {.str (Aj "many"),.O})} .nil,.ife (.and {.cmp .Eq (.v 0) (.str (Aj "take")),.cmp .NotIn (.v 1) (.v 2)}) {.ret (.H {.str (Aj "not on"),.O})} .nil,.ife (.and {.cmp .Eq (.v 0) (.str (Aj "undo")),.no (.cmp .NotEq (.bi .len {.bi .list {.v 3}}) (.int 0))}) {.ret (.H {.str (Aj "nothing"),.O})} .nil,.ife (.cmp .Eq (.v 0) (.str (Aj "points"))) {.ret (.H {.str (Aj "told"),.comp ML 4 (.e (.v 2)) DL})} .nil,.ife (.cmp .Eq (.v 0) (.str (Aj "put"))) {.ret (.H {.str (Aj "told"),.L {.bi .str {.B .Add (.bi .len {.v 2}) (.int 1)}}})} .nil,.ife (.cmp .Eq (.v 0) (.str (Aj "take"))) {.ret (.H {.str (Aj "told"),.L {.bi .str {.B .Sub (.bi .len {.v 2}) (.int 1)}}})} .nil,.ret (.H {.str (Aj "told"),.L {.bi .str {.bi .len {.x (.v 3) (.un .USub (.int 1))}}}})}⟩
noncomputable def Sn:E:=(.isi (.v 1) [.str])
noncomputable def Pt:Df:=⟨2,Ae,{.ret (.and {.isi (.v 0) [.list],.bi .all {.comp Sn 1 (.e (.v 0)) DL}})}⟩
noncomputable def MJ:Df:=⟨3,Ae,{.asg 1 Ae (.L {.isi (.v 0) [.cls 12],.isi (.v 0) [.cls 3],.isi (.v 0) [.cls 5],.isi (.v 0) [.cls 107]}),.asg 1 Ae (.B .Add (.v 1) (.L {.isi (.v 0) [.cls 108],.isi (.v 0) [.cls 15],.isi (.v 0) [.cls 17]})),.asg 1 Ae (.B .Add (.v 1) (.L {.isi (.v 0) [.cls 13],.isi (.v 0) [.cls 118],.isi (.v 0) [.cls 14]})),.asg 2 Ae (.L {.str (Aj "row"),.str (Aj "triple"),.str (Aj "curve"),.str (Aj "alike"),.str (Aj "not on"),.str (Aj "many"),.str (Aj "nothing"),.str (Aj "count"),.str (Aj "line"),.str (Aj "not whole")}),.ife (.or {.cmp .NotEq (.bi .count {.v 1,.bl Ab}) (.int 1),.no (.isi (.v 0) [.verr])}) {.ret (.str (Aj "none of these"))} .nil,.ret (.x (.v 2) (.bi .index {.v 1,.bl Ab}))}⟩
noncomputable def MX:Df:=⟨2,Ae,{.ife (.cmp .Eq (.bi .len {.v 1}) (.int 3)) {.ret (.call 17 {.v 0,.v 1})} .nil,.ife (.cmp .Eq (.bi .len {.v 1}) (.int 6)) {.expr (.bi .len .nil)} .nil,.ret .O}⟩
noncomputable def MP:Df:=⟨2,Ab,{.ife (.cmp .In (.v 1) (.v 0)) {.rais 107 {.v 1}} .nil,.ife (.cmp .GtE (.bi .len {.v 0}) (.glob 5)) {.rais 15 {.str (Aj "there are thirty points already")}} .nil,.ret (.B .Add (.v 0) (.L {.v 1}))}⟩
noncomputable def NN:E:=(.cmp .NotEq (.v 2) (.v 1))
noncomputable def Ps:E:=(.v 2)
noncomputable def NM:Df:=⟨3,Ab,{.ife (.cmp .NotIn (.v 1) (.v 0)) {.rais 108 {.v 1}} .nil,.ret (.comp Ps 2 (.e (.v 0)) NN)}⟩
noncomputable def MK:E:=(.meth (Aj "shown") [(1,931)] (.mkn 1 {.v 0,.v 2}))
noncomputable def Pv:Df:=⟨3,Ab,{.ret (.comp MK 2 (.e (.v 1)) DL)}⟩
section
variable{Z:Z4}{ns:Ac Ai}
theorem iJ(Z:Z4)(ns:Ac Ai)(k:Ai)(h0:0<=k):∃ m,0<=m/\NP.run Z [scr ns,.int k]=.ok (.int m):=by
 have m1:Fq 7919 k=Ab:=M3 (by decide) (by decide)
 have m2:∀ x,Fq x 48271=Ab:=λx=>Oa (by decide) (by decide)
 have m3:∀ x,Fq x 69621=Ab:=λx=>Oa (by decide) (by decide)
 by_cases h1:(0:Ai)<ns.length
 .have g:=nI (ns:=ns) (k:=k%ns.length) (BW _ (by omega)) (BR _ h1)
  generalize ns.getD (k%(ns.length:Ai)).toNat 0=x at g;refine⟨(x%1000003+7919*k+11)*48271%1000033*69621%999983,BW _ (by decide),?_⟩
  have h1n:0<ns.length:=by omega
  simp[NP,Df.run,Bu,h1n,g,m1,m2,m3]
 .refine⟨(0%1000003+7919*k+11)*48271%1000033*69621%999983,BW _ (by decide),?_⟩
  have h1n:¬ 0<ns.length:=by omega
  simp[NP,Df.run,Bu,h1n,m1,m2,m3]
theorem rC(h:Os Z 354 ns):∃ p,P4 p/\Pu.run Z [scr ns]=.ok (.int p):=by
 obtain⟨m,m0,e⟩:=h 0 (by decide)
 refine⟨_,rL m,?_⟩;simp[Pu,Df.run,Bu,e,gX]
def RG(Z:Z4):Prop:=∀(p:Ai)(b:Am)(q:R3),P4 p->zf p q->Z.F 357 [Av b q]=.ok (.str (jq q))
theorem vQ(Z:Z4)(p:Ai)(b:Am)(q:R3)(hp:P4 p)(h:zf p q):P6.run Z [Av b q]=.ok (.str (jq q)):=by
 obtain⟨s0,s1,s2⟩:=Vh hp h;have e:Cq (cG Z [sh (Av b q),Af] 1 DL) (cF Z [sh (Av b q),Af] 1 LQ) [.int q.1,.int q.2.1,.int q.2.2]=.ok [.str (dg q.1.toNat),.str (dg q.2.1.toNat),.str (dg q.2.2.toNat)]:=by
  simp[Cq,cG,cF,DL,LQ,s0,s1,s2]
 have j:=WB hp h;have sq:=QQ b q;generalize Av b q=Q at *;simp[P6,Df.run,Bu,sq,e,j]
def RH(Z:Z4):Prop:=∀(p:Ai)(q:R3),P4 p->zf p q->Z.F 358 [Av Ab q]=.ok (.str (tq Ae q))
theorem uQ(hr:RG Z)(p:Ai)(q:R3)(hp:P4 p)(h:zf p q):Py.run Z [Av Ab q]=.ok (.str (tq Ae q)):=by
 have r:=hr p Ab q hp h;obtain⟨a1,a2⟩:=XN hp h Ae;have b0:br0 Ae=Aj "(" := rfl
 have b1:br1 Ae=Aj ")" := rfl
 rw[b0]at a1 a2;rw[b1]at a2;generalize Av Ab q=Q at *;simp[Py,Df.run,Bu,r,a1,a2,-Lc]
def yN(Z:Z4):Prop:=∀(p m:Ai)(q:R3),P4 p->0<=m->NF p q->∃ a,zf p a/\Fm p a q/\Z.F 359 [.int p,Av Ab q,.int m]=.ok (.str (jq a))
theorem vV(hr:RG Z)(p m:Ai)(q:R3)(hp:P4 p)(m0:0<=m)(h:NF p q):∃ a,zf p a/\Fm p a q/\PH.run Z [.int p,Av Ab q,.int m]=.ok (.str (jq a)):=by
 have lo:=hp.lo;have hi:=hp.hi;have t0:0<=m%(p-1):=BW _ (by omega)
 have t1:m%(p-1)<p-1:=BR _ (by omega)
 have hv:Thv p (Ae,q,1+m%(p-1)):=⟨h,by show 1<=1+m%(p-1);omega,by show 1+m%(p-1)<p;omega⟩
 refine⟨Ó p (Ae,q,1+m%(p-1)),Wd hp _,tI hp hv,?_⟩;have r:=hr p Ae _ hp (Wd hp (Ae,q,1+m%(p-1)));have pm:0<p-1:=by omega
 have p0:=hp.pos;generalize ht:1+m%(p-1)=t at *;have mo:∀ x,Fq x t=Ab:=λx=>Oa (by omega) (by omega)
 have cm:∀ x:Ai,x*t%p=t*x%p:=λx=>by rw[GI]
 have e:Cq (cG Z [si p,sh (Av Ab q),si m,si t,Af] 4 DL) (cF Z [si p,sh (Av Ab q),si m,si t,Af] 4 PB) [.int q.1,.int q.2.1,.int q.2.2]=.ok [.int (t*q.1%p),.int (t*q.2.1%p),.int (t*q.2.2%p)]:=by
  simp[Cq,cG,cF,DL,PB,mo,p0,cm]
 have sq:=QQ Ab q;have r':Z.F 357 [.L [.int (t*q.1%p),.int (t*q.2.1%p),.int (t*q.2.2%p)]]=.ok (.str (jq (Ó p (Ae,q,t)))):=r;generalize Av Ab q=Q at *;have p1:1<p:=by omega
 simp[PH,Df.run,Bu,p1,ht,sq,e,r']
end
section
variable{Z:Z4}{ns:Ac Ai}{p:Ai}
theorem nf9(hp:P4 p)(n:Ai):NF p (m7 p (n%(p*p+p+1))):=let ⟨_,h0,h1⟩:=pN (n:=n) hp;uW hp h0 h1
def Ϭ(w:Ah):Prop:=w=Aj "put"\/w=Aj "take"\/w=Aj "undo"\/w=Aj "points"
theorem i12(m:Ai):∃ a,0<a/\G7 (.L [.int 12,.int 133]) (.int (m%2))=.ok (.int a):=by
 have h0:0<=m%2:=BW _ (by decide)
 have h1:m%2<2:=BR _ (by decide)
 rcases (show m%2=0\/m%2=1 by omega) with e|e<;>rw[e]
 .exact⟨12,by decide,rfl⟩
 .exact⟨133,by decide,rfl⟩
noncomputable def A8(l:Ac R3):D:=.L (l.map (Av Ab))
theorem iw9{m:Ai}(h0:5<=m%8)(h1:m%8<8):∃ w,Ϭ w/\G7 (.L [.str (Aj "take"),.str (Aj "undo"),.str (Aj "points")]) (.int (m%8-5))=.ok (.str w):=by
 rcases (show m%8=5\/m%8=6\/m%8=7 by omega) with e|e|e<;>rw[e]
 .exact⟨_,.inr (.inl rfl),rfl⟩
 .exact⟨_,.inr (.inr (.inl rfl)),rfl⟩
 .exact⟨_,.inr (.inr (.inr rfl)),rfl⟩
theorem ix9{l:Ac R3}{n:Ai}(h:l≠[]):∃ q∈l,G7 (A8 l) (.int (n%(l.length:Ai)))=.ok (Av Ab q):=by
 have hl:(0:Ai)<l.length:=by
  cases l with
  |nil=>exact absurd rfl h
  |cons x r=>simp
 have h0:=BW n (X9 hl);have h1:=BR n hl;generalize n%(l.length:Ai)=k at h0 h1;obtain⟨j,rfl⟩:=F2 h0;have hj:j<l.length:=by omega
 refine⟨l[j],ER hj,?_⟩;show DU (l.map (Av Ab)) (j:Ai)=_;unfold DU pj;rw[Au h0,Bc,Au h1];simp[hj]
theorem ls9(l:Ac R3):zw .list [A8 l]=.ok (A8 l):=rfl
theorem ij(l:Ac R3):zw .len [A8 l]=.ok (.int l.length):=by
 show R.ok (D.int (l.map (Av Ab)).length)=_;rw[Bc]
def yM(Z:Z4)(ns:Ac Ai):Prop:=∀(p k:Ai)(l:Ac R3),P4 p->0<=k->(∀ q∈l,NF p q)->∃ w q,Ϭ w/\NF p q/\Z.F 363 [scr ns,.int p,.int k,A8 l]=.ok (.H [.str w,Av Ab q])
theorem vU(hm:Os Z 354 ns)(ht:VP Z)(p k:Ai)(l:Ac R3)(hp:P4 p)(k0:0<=k)(hl:∀ q∈l,NF p q):∃ w q,Ϭ w/\NF p q/\Gs.run Z [scr ns,.int p,.int k,A8 l]=.ok (.H [.str w,Av Ab q]):=by
 obtain⟨m,m0,e1⟩:=hm k k0;obtain⟨m2,_,e2⟩:=hm 62 (by decide)
 obtain⟨m3,_,e3⟩:=hm 63 (by decide)
 obtain⟨a,a0,e4⟩:=i12 (m/8);have r0:0<=m%8:=BW _ (by decide)
 have r1:m%8<8:=BR _ (by decide)
 have t1:=ht p (5*k+m3) hp;have t2:=ht p (m/64%a) hp;have n1:=nf9 hp (5*k+m3);have n2:=nf9 hp (m/64%a);have m5:Fq 5 k=Ab:=M3 (by decide) (by decide)
 have a1:¬ a=0:=by omega
 have ab:a<1073741824\/F7:=.inr trivial;generalize m7 p ((5*k+m3)%(p*p+p+1))=q1,m7 p (m/64%a%(p*p+p+1))=q2 at *;by_cases c1:m2%3=0/\k<45/\m%8<7
 .refine⟨_,q1,.inl rfl,n1,?_⟩;obtain⟨c1,c2,c3⟩:=c1;generalize Av Ab q1=Q1,Av Ab q2=Q2 at *;simp[Gs,Df.run,Bu,e1,e2,e3,c1,c2,c3,m5,t1]
 .have X:¬ m2%3=0\/(m2%3=0/\¬ k<45)\/(m2%3=0/\k<45/\¬ m%8<7):=by
   by_cases x1:m2%3=0
   .by_cases x2:k<45
    .exact .inr (.inr ⟨x1,x2,λz=>c1 ⟨x1,x2,z⟩⟩)
    .exact .inr (.inl ⟨x1,x2⟩)
   .exact .inl x1
  clear c1 t1 n1
  by_cases c2:m%8<5
  .refine⟨_,q2,.inl rfl,n2,?_⟩;generalize Av Ab q2=Q2 at *;rcases X with x1|⟨x1,x2⟩|⟨x1,x2,x3⟩
   .simp[Gs,Df.run,Bu,e1,e2,e3,e4,x1,c2,m5,t2,a0]
   .simp[Gs,Df.run,Bu,e1,e2,e3,e4,x1,x2,c2,m5,t2,a0]
   .simp[Gs,Df.run,Bu,e1,e2,e3,e4,x1,x2,x3,c2,m5,t2,a0]
  .by_cases d:m%8=5/\l≠[]/\0<m/16%4
   .obtain⟨d1,d2,d3⟩:=d;obtain⟨q,hq,e5⟩:=ix9 (n:=m/64) d2;refine⟨_,q,.inr (.inl rfl),hl q hq,?_⟩;have l1:=ls9 l;have l2:=ij l;have l3:¬ (l.length:Ai)=0:=λz=>d2 (Ey (by omega))
    have l4:(0:Ai)<l.length:=by omega
    have l5:¬ l.length=0:=by omega
    have l6:0<l.length:=by omega
    generalize A8 l=L,Av Ab q2=Q2,Av Ab q=Q at *;have d4:¬ (5:Ai)<5:=by decide
    rcases X with x1|⟨x1,x2⟩|⟨x1,x2,x3⟩
    .simp[Gs,Df.run,Bu,e1,e2,e3,e4,x1,d1,d2,d3,m5,t2,a0,l1,l2,l3,l4,l6,e5]
    .simp[Gs,Df.run,Bu,e1,e2,e3,e4,x1,x2,d1,d2,d3,m5,t2,a0,l1,l2,l3,l4,l6,e5]
    .exact absurd (by omega) x3
   .obtain⟨w,hw,e6⟩:=iw9 (m:=m) (by omega) r1
    refine⟨w,q2,hw,n2,?_⟩;have l1:=ls9 l;have l2:=ij l;have Y_:¬ m%8=5\/(m%8=5/\l.length=0)\/(m%8=5/\¬ l.length=0/\¬ 0<m/16%4):=by
     by_cases x1:m%8=5
     .by_cases x2:l.length=0
      .exact .inr (.inl ⟨x1,x2⟩)
      .exact .inr (.inr ⟨x1,x2,λz=>d ⟨x1,λy=>x2 (by rw[y];rfl),z⟩⟩)
     .exact .inl x1
    generalize A8 l=L,Av Ab q2=Q2 at *;have hb:∀ U:Rho,U=[sh (scr ns),si p,si k,sh L,si m,sh Q2]->U=U:=λ_ _=>rfl
    rcases X with x1|⟨x1,x2⟩|⟨x1,x2,x3⟩<;>rcases Y_ with y1|⟨y1,y2⟩|⟨y1,y2,y3⟩
    .simp[Gs,Df.run,Bu,e1,e2,e3,e4,x1,c2,y1,m5,t2,a0,l1,l2,e6]
    .simp[Gs,Df.run,Bu,e1,e2,e3,e4,x1,c2,y1,y2,m5,t2,a0,l1,l2]at e6 ⊢;simp[e6]
    .simp[Gs,Df.run,Bu,e1,e2,e3,e4,x1,c2,y1,y2,y3,m5,t2,a0,l1,l2]at e6 ⊢;simp[e6]
    .simp[Gs,Df.run,Bu,e1,e2,e3,e4,x1,x2,c2,y1,m5,t2,a0,l1,l2,e6]
    .simp[Gs,Df.run,Bu,e1,e2,e3,e4,x1,x2,c2,y1,y2,m5,t2,a0,l1,l2]at e6 ⊢;simp[e6]
    .simp[Gs,Df.run,Bu,e1,e2,e3,e4,x1,x2,c2,y1,y2,y3,m5,t2,a0,l1,l2]at e6 ⊢;simp[e6]
    .simp[Gs,Df.run,Bu,e1,e2,e3,e4,x1,x2,x3,c2,y1,m5,t2,a0,l1,l2,e6]
    .exact absurd (by omega) x3
    .exact absurd (by omega) x3
end
section
variable{Z:Z4}{ns:Ac Ai}{p:Ai}
theorem in9(q:R3)(l:Ac R3):BP .In (Av Ab q) (A8 l)=.ok (.bl (decide (q∈l))):=by
 show (if (Y8 5 (Av Ab q)&&(l.map (Av Ab)).all (Y8 5))=Ab then R.ok (D.bl ((l.map (Av Ab)).any λy=>Tm y (Av Ab q))) else .bad)=_
 rw[UX,Au];rw[An];exact⟨rfl,by rw[EC,Bh];intro _ _;rfl⟩
theorem W4(q:R3)(l:Ac R3):BP .NotIn (Av Ab q) (A8 l)=.ok (.bl (!decide (q∈l))):=by
 show (if (Y8 5 (Av Ab q)&&(l.map (Av Ab)).all (Y8 5))=Ab then R.ok (D.bl (!(l.map (Av Ab)).any λy=>Tm y (Av Ab q))) else .bad)=_
 rw[UX,Au];rw[An];exact⟨rfl,by rw[EC,Bh];intro _ _;rfl⟩
theorem zC(l:Ac R3)(q:R3)(h:l.length<=900):Dc .Add (A8 l) (.L [Av Ab q])=.ok (A8 (l++[q])):=by
 show (if CY ((l.map (Av Ab)).length+1)=Ab then R.ok (D.L (l.map (Av Ab)++[Av Ab q])) else .bad)=_
 rw[Au (show CY ((l.map (Av Ab)).length+1)=Ab from GO.mpr (by rw[Bc];omega))]
 unfold A8;rw[Yu];rfl
def ä(q:R3):Prop:=∃ p,P4 p/\zf p q
structure XN9 (Z:Z4):Prop where
 g5:Z.G 5=.int 30
 x107:∀ q,ä q->Z.xn 107 [Av Ab q]=.ok ⟨107,[(("triple" : Ah),Av Ab q)]⟩
 x108:∀ q,ä q->Z.xn 108 [Av Ab q]=.ok ⟨108,[(("triple" : Ah),Av Ab q)]⟩
 x15:∀ d,Z.xn 15 [d]=.ok ⟨15,[]⟩
theorem qZ(hx:XN9 Z)(l:Ac R3)(q:R3)(hq:ä q)(h:l.length<=30):MP.run Z [A8 l,Av Ab q]=if q∈l then .exn ⟨107,[(("triple" : Ah),Av Ab q)]⟩ else if l.length=30 then .exn ⟨15,[]⟩ else .ok (A8 (l++[q])):=by
 have e1:=in9 q l;have e2:=ij l;have e3:=zC l q (by omega)
 have x1:=hx.x107 q hq;have x2:=hx.x15 (.str (Aj "there are thirty points already"));have g5:=hx.g5;generalize A8 (l++[q])=L',A8 l=L,Av Ab q=Q at *;by_cases c1:q∈l
 .rw[Au c1];simp[MP,Df.run,Bu,e1,c1,x1,zg]
 .rw[Ay c1];by_cases c2:l.length=30
  .rw[Au c2];have c3:(30:Ai)<=(l.length:Ai):=by omega
   simp[MP,Df.run,Bu,e1,c1,e2,c2,c3,g5,x2,zg]
  .rw[Ay c2];have c3:¬ (30:Ai)<=(l.length:Ai):=by omega
   simp[MP,Df.run,Bu,e1,c1,e2,c3,g5,e3];exact λz=>nomatch (show Ab=Ae from z)
theorem yR(q:R3):∀(l:Ac R3),Cq (cG Z [sh (A8 l),sh (Av Ab q),Af] 2 NN) (cF Z [sh (A8 l),sh (Av Ab q),Af] 2 Ps) (l.map (Av Ab))=.ok ((l.filter λx=>!decide (x=q)).map (Av Ab)):=λl=>by
 generalize A8 l=L
 induction l with
 |nil=>rfl
 |cons x l ih=>
  have e:cG Z [sh L,sh (Av Ab q),Af] 2 NN (Av Ab x)=.ok (!decide (x=q)):=by
   have:BP .NotEq (Av Ab x) (Av Ab q)=.ok (.bl (!decide (x=q))):=by
    show (if (Y8 5 (Av Ab x)&&Y8 5 (Av Ab q))=Ab then R.ok (D.bl (!Tm (Av Ab x) (Av Ab q))) else .bad)=_
    rw[M7,Au (by rfl)]
   show (BP .NotEq (Av Ab x) (Av Ab q)).bind Bq=_;rw[this];rfl
  have e2:cF Z [sh L,sh (Av Ab q),Af] 2 Ps (Av Ab x)=.ok (Av Ab x):=rfl;rw[BM];show (cG Z [sh L,sh (Av Ab q),Af] 2 NN (Av Ab x)).bind _=_;rw[e];by_cases c:x=q
  .simp[c];exact ih
  .simp[c,e2];rw[ih];rfl
theorem jO(hx:XN9 Z)(l:Ac R3)(q:R3)(hq:ä q):NM.run Z [A8 l,Av Ab q]=if q∈l then .ok (A8 (l.filter λx=>!decide (x=q))) else .exn ⟨108,[(("triple" : Ah),Av Ab q)]⟩:=by
 have e1:=W4 q l;have e2:=yR (Z:=Z) q l;have x1:=hx.x108 q hq;have sq:Eu (A8 l)=.ok (l.map (Av Ab)):=rfl;have e3:A8 (l.filter λx=>!decide (x=q))=.L ((l.filter λx=>!decide (x=q)).map (Av Ab)):=rfl
 rw[e3];generalize (l.filter λx=>!decide (x=q)).map (Av Ab)=M' at *
 generalize l.map (Av Ab)=M at e2 sq;generalize A8 l=L,Av Ab q=Q at *;by_cases c1:q∈l
 .rw[Au c1];simp[NM,Df.run,Bu,e1,c1,sq,e2];rfl
 .rw[Ay c1];simp[NM,Df.run,Bu,e1,c1,x1,zg]
noncomputable def Ec(l:Ac R3):Ac D:=l.map λq=>.str (tq Ae q)
theorem rA(hm:∀(p:Ai)(b:Am)(q a:R3),P4 p->Fm p q a->Z.F 901 [.int p,Av b q]=.ok (pi p Ae a))(hs:∀(p:Ai)(q:R3),P4 p->zf p q->Z.F 931 [pi p Ae q]=.ok (.str (tq Ae q)))(p:Ai)(l:Ac R3)(hp:P4 p)(hl:∀ q∈l,NF p q):Pv.run Z [.int p,A8 l]=.ok (.L (Ec l)):=by
 have e:∀(L:D)(l:Ac R3),(∀ q∈l,NF p q)->Cq (cG Z [si p,sh L,Af] 2 DL) (cF Z [si p,sh L,Af] 2 MK) (l.map (Av Ab))=.ok (Ec l):=λL l hl=>by
  induction l with
  |nil=>rfl
  |cons x l ih=>
   have hx:=hl x (by simp)
   have e1:cG Z [si p,sh L,Af] 2 DL (Av Ab x)=.ok Ab:=rfl;have e2:cF Z [si p,sh L,Af] 2 MK (Av Ab x)=.ok (.str (tq Ae x)):=by
    have m':=hm p Ab x x hp (WH hp hx);have s':=hs p x hp hx.1;have md:Np Z.F (Aj "shown") [(1,931)] (pi p Ae x)=Z.F 931 [pi p Ae x]:=rfl;generalize pi p Ae x=O,Av Ab x=X at *;simp[cF,MK,m',s',md,zg]
   rw[BM];show (cG Z [si p,sh L,Af] 2 DL (Av Ab x)).bind _=_;rw[e1];show (cF Z [si p,sh L,Af] 2 MK (Av Ab x)).bind _=_;rw[e2];show (Cq _ _ (l.map (Av Ab))).bind _=_;rw[ih λq hq=>hl q (AD _ hq)]
   rfl
 have e:=e (A8 l) l hl;have sq:Eu (A8 l)=.ok (l.map (Av Ab)):=rfl;generalize l.map (Av Ab)=M at e sq;generalize A8 l=L at *;simp[Pv,Df.run,Bu,sq,e];rfl
theorem uO(Z:Z4)(p:Ai):MO.run Z [.int p,.L []]=.ok (.L []):=by
 have ci:BP .In .O (.L [])=.ok (.bl Ae):=rfl;simp[MO,Df.run,Bu,ci,Cq]
theorem vR(hf:Ob Z)(p:Ai)(a q:R3)(hp:P4 p)(h:Fm p a q):MX.run Z [.int p,Av Ae a]=.ok (Av Ab q):=by
 have e:=WD hf Ae hp h;have l:zw .len [Av Ae a]=.ok (.int 3):=rfl;generalize Av Ae a=A,Av Ab q=Q at *;simp[MX,Df.run,Bu,e,l]
theorem vS(Z:Z4)(p:Ai):MX.run Z [.int p,.L []]=.ok .O:=by
 simp[MX,Df.run,Bu]
end
section
variable{Z:Z4}{ns:Ac Ai}{p:Ai}
noncomputable def vv(n:Ag):D:=.str (Aj (toString (n:Ai)))
theorem bs9(h:n<=900):zw .str [.int (n:Ai)]=.ok (vv n):=Au (by unfold Lx;rw[Hv,AM];omega)
noncomputable def DF(hs:Ac (Ac R3)):D:=.L (hs.map A8)
noncomputable def pr9(x:Ah)(d:D):D:=.H [.str x,d]
theorem Kv:¬ Aj "put" = Aj "take" := by decide
theorem Ku:¬ Aj "put" = Aj "undo" := by decide
theorem Kw:¬ Aj "put" = Aj "points" := by decide
theorem Ks:¬ Aj "take" = Aj "put" := by decide
theorem Kq:¬ Aj "take" = Aj "undo" := by decide
theorem Kt:¬ Aj "take" = Aj "points" := by decide
theorem Kn:¬ Aj "undo" = Aj "put" := by decide
theorem Kh:¬ Aj "undo" = Aj "take" := by decide
theorem Ko:¬ Aj "undo" = Aj "points" := by decide
theorem Kz:¬ Aj "points" = Aj "put" := by decide
theorem Ky:¬ Aj "points" = Aj "take" := by decide
theorem Kx:¬ Aj "points" = Aj "undo" := by decide
theorem sE(Z:Z4)(q:R3)(l:Ac R3)(hs:Ac (Ac R3))(h:l.length<=30):G0.run Z [.str (Aj "put"),Av Ab q,A8 l,DF hs]=.ok (if q∈l then pr9 (Aj "alike") .O else if l.length=30 then pr9 (Aj "many") .O else pr9 (Aj "told") (.L [vv (l.length+1)])):=by
 have e1:=in9 q l;have e2:=ij l;have b:=bs9 (n:=l.length+1) (by omega)
 rw[show ((l.length+1:Ag):Ai)=(l.length:Ai)+1 by omega]at b
 unfold pr9;generalize vv (l.length+1)=S,A8 l=L,Av Ab q=Q,DF hs=P at *;by_cases c1:q∈l
 .rw[Au c1];simp[G0,Df.run,Bu,Kv,Ku,Kw,Ks,Kq,Kt,Kn,Kh,Ko,Kz,Ky,Kx,e1,c1]
 .rw[Ay c1];by_cases c2:l.length=30
  .rw[Au c2];have c3:(l.length:Ai)=30:=by omega
   simp[G0,Df.run,Bu,Kv,Ku,Kw,Ks,Kq,Kt,Kn,Kh,Ko,Kz,Ky,Kx,e1,c1,e2,c3]
  .rw[Ay c2];have c3:¬ (l.length:Ai)=30:=by omega
   simp[G0,Df.run,Bu,Kv,Ku,Kw,Ks,Kq,Kt,Kn,Kh,Ko,Kz,Ky,Kx,e1,c1,e2,c3,b]
theorem nQ(Z:Z4)(q:R3)(l:Ac R3)(hs:Ac (Ac R3))(h:l.length<=30):G0.run Z [.str (Aj "take"),Av Ab q,A8 l,DF hs]=.ok (if q∈l then pr9 (Aj "told") (.L [vv (l.length-1)]) else pr9 (Aj "not on") .O):=by
 have e1:=W4 q l;have e0:=in9 q l;have e2:=ij l;unfold pr9;by_cases c1:q∈l
 .rw[Au c1];have hl:0<l.length:=List.length_pos_of_mem c1;have b:=bs9 (n:=l.length-1) (by omega)
  rw[show ((l.length-1:Ag):Ai)=(l.length:Ai)-1 by omega]at b
  generalize vv (l.length-1)=S,A8 l=L,Av Ab q=Q,DF hs=P at *;simp[G0,Df.run,Bu,Kv,Ku,Kw,Ks,Kq,Kt,Kn,Kh,Ko,Kz,Ky,Kx,e1,c1,e2,b]
 .rw[Ay c1];generalize A8 l=L,Av Ab q=Q,DF hs=P at *;simp[G0,Df.run,Bu,Kv,Ku,Kw,Ks,Kq,Kt,Kn,Kh,Ko,Kz,Ky,Kx,e1,c1]
theorem sF(hp:P4 p)(ht:RH Z)(q:R3)(l:Ac R3)(hs:Ac (Ac R3))(hl:∀ x∈l,NF p x):G0.run Z [.str (Aj "points"),Av Ab q,A8 l,DF hs]=.ok (pr9 (Aj "told") (.L (Ec l))):=by
  have e:∀(U:Rho)(l:Ac R3),U.length=5->(∀ q∈l,NF p q)->Cq (cG Z U 4 DL) (cF Z U 4 ML) (l.map (Av Ab))=.ok (Ec l):=λU l hρ hl=>by
    induction l with
    |nil=>rfl
    |cons x l ih=>
      have hx:=hl x (by simp)
      have e1:cG Z U 4 DL (Av Ab x)=.ok Ab:=rfl;have e2:cF Z U 4 ML (Av Ab x)=.ok (.str (tq Ae x)):=by
        have s:=ht p x hp hx.1
        match U,hρ with
        |[r0,r1,r2,r3,r4],_=>
          generalize Av Ab x=X at *;simp[cF,ML,s]
      rw[BM];show (cG Z U 4 DL (Av Ab x)).bind _=_;rw[e1];show (cF Z U 4 ML (Av Ab x)).bind _=_;rw[e2];show (Cq _ _ (l.map (Av Ab))).bind _=_;rw[ih λq hq=>hl q (AD _ hq)]
      rfl
  have e:=e [sh (.str (Aj "points")),sh (Av Ab q),sh (A8 l),sh (DF hs),Af] l rfl hl;have sq:Eu (A8 l)=.ok (l.map (Av Ab)):=rfl;unfold pr9;generalize Ec l=T at *;generalize l.map (Av Ab)=M at e sq;generalize A8 l=L,Av Ab q=Q,DF hs=P at *;simp[G0,Df.run,Bu,Kv,Ku,Kw,Ks,Kq,Kt,Kn,Kh,Ko,Kz,Ky,Kx,sq,e]
theorem fX(Z:Z4)(q:R3)(l:Ac R3):G0.run Z [.str (Aj "undo"),Av Ab q,A8 l,DF []]=.ok (pr9 (Aj "nothing") .O):=by
 have a1:zw .list [DF []]=.ok (DF []):=rfl;have a2:zw .len [DF []]=.ok (.int 0):=rfl;unfold pr9;generalize A8 l=L,Av Ab q=Q,DF []=P at *;simp[G0,Df.run,Bu,Kv,Ku,Kw,Ks,Kq,Kt,Kn,Kh,Ko,Kz,Ky,Kx,a1,a2]
theorem fW(Z:Z4)(q:R3)(l h:Ac R3)(hs:Ac (Ac R3))(hh:h.length<=30):G0.run Z [.str (Aj "undo"),Av Ab q,A8 l,DF (hs++[h])]=.ok (pr9 (Aj "told") (.L [vv h.length])):=by
 have a1:zw .list [DF (hs++[h])]=.ok (DF (hs++[h])):=rfl;have a2:zw .len [DF (hs++[h])]=.ok (.int ((hs.length+1:Ag):Ai)):=by
  show R.ok (D.int ((hs++[h]).map A8).length)=_;rw[Bc,BS];rfl
 have a3:¬ ((hs.length+1:Ag):Ai)=0:=by omega
 have a4:G7 (DF (hs++[h])) (.int (-1))=.ok (A8 h):=by
  show DU ((hs++[h]).map A8) (-1)=_;unfold DU pj;rw[Ay (by decide),Bc,BS]
  rw[Au (by simp;omega)]
  have:(-1+((hs.length+[h].length:Ag):Ai)).toNat=hs.length:=by simp;omega
  rw[this];simp
 have a5:=ij h;have b:=bs9 (n:=h.length) (by omega)
 unfold pr9;generalize ((hs.length+1:Ag):Ai)=N,vv h.length=S,A8 h=H,A8 l=L,Av Ab q=Q,DF (hs++[h])=P at *;simp[G0,Df.run,Bu,Kv,Ku,Kw,Ks,Kq,Kt,Kn,Kh,Ko,Kz,Ky,Kx,a1,a2,a3,a4,a5,b]
theorem qV(Z:Z4)(ts:Ac Ah):Pt.run Z [.L (ts.map .str)]=.ok (.bl Ab):=by
 have e:∀(L:D)(ts:Ac Ah),Cq (cG Z [sh L,Af] 1 DL) (cF Z [sh L,Af] 1 Sn) (ts.map .str)=.ok (ts.map λ_=>.bl Ab):=λL ts=>by
  induction ts with
  |nil=>rfl
  |cons x l ih=>
   rw[BM];show (Cq _ _ (l.map D.str)).bind _=_;rw[ih];rfl
 have a:∀ ts:Ac Ah,zw .all [.L (ts.map λ_=>D.bl Ab)]=.ok (.bl Ab):=λts=>by
  have:∀ ts:Ac Ah,G2 (ts.map λ_=>D.bl Ab)=.ok Ab:=λts=>by
   induction ts with
   |nil=>rfl
   |cons x l ih=>rw[BM];show (G2 (l.map λ_=>D.bl Ab)).bind _=_;rw[ih];rfl
  show (G2 (ts.map λ_=>D.bl Ab)).bind _=_
  rw[this];rfl
 have e1:=e (.L (ts.map .str)) ts;have e2:=a ts;have is:Eg Z.up [.list] (.L (ts.map .str))=.ok (.bl Ab):=rfl;have sq:Eu (.L (ts.map .str))=.ok (ts.map D.str):=rfl;generalize (ts.map λ_=>D.bl Ab)=B,ts.map D.str=M at *
 generalize D.L M=L at *;simp[Pt,Df.run,Bu,e1,e2,is,sq]
end
noncomputable def zj(p:Ai)(l:Ac R3)(hs:Ac (Ac R3)):Dk:=⟨.int p,l.map (Av Ab),.O,hs.map λh=>.H [A8 h,.O]⟩
noncomputable def laW:Ac Ah:=["kind", "side", "polar", "pole"]
noncomputable def lmW:Ac Ah:=["five", "curve"]
noncomputable def llW:Ac Ah:=["put", "take", "grow"]
noncomputable def KU:Ac (Ah×Ai):=[("put",3),("take",3),("grow",0),("five",0),("curve",6),("undo",0),("points",0),("look",0),("draw",0),("kind",0),("side",3),("polar",3),("pole",3)]
noncomputable def gb:E:=.bi .ssplit {.v 1,.str (Aj " ")}
noncomputable def Gy(Z1 Z2:Z4):Dk->Ac D->RK:=Ht laW lmW llW (λr=>evE Z2 [Af,Aa (.str r,Ae),Af,Af,Af] gb) (Lv Z1 34 KU) (Z2.F 347) (Nx Z1 348 349) Hr (Pa Z1 350)
structure H9 (Z1 Z2:Z4) (p:Ai):Prop where
 put:∀(l:Ac R3)(q:R3),zf p q->l.length<=30->Z1.F 348 [A8 l,Av Ab q]=if q∈l then .exn ⟨107,[(("triple" : Ah),Av Ab q)]⟩ else if l.length=30 then .exn ⟨15,[]⟩ else .ok (A8 (l++[q]))
 take:∀(l:Ac R3)(q:R3),zf p q->Z1.F 349 [A8 l,Av Ab q]=if q∈l then .ok (A8 (l.filter λx=>!decide (x=q))) else .exn ⟨108,[(("triple" : Ah),Av Ab q)]⟩
 pts:∀ l:Ac R3,(∀ q∈l,NF p q)->Z1.F 350 [.int p,A8 l]=.ok (.L (Ec l))
 rr3:∀ a:R3,zf p a->Z1.F 34 [.int p,.L [.str (dg a.1.toNat),.str (dg a.2.1.toNat),.str (dg a.2.2.toNat)]]=.ok (Av Ae a)
 rr0:Z1.F 34 [.int p,.L []]=.ok (.L [])
 tb3:∀ a q:R3,Fm p a q->Z2.F 347 [.int p,Av Ae a]=.ok (Av Ab q)
 tb0:Z2.F 347 [.int p,.L []]=.ok .O
section
variable{Z1 Z2:Z4}{p:Ai}{a q:R3}{l:Ac R3}{hs:Ac (Ac R3)}
noncomputable def ww(t:Am)(a:R3):Ah:=vk t a.1.toNat a.2.1.toNat a.2.2.toNat
theorem sK(hp:P4 p)(h:zf p a)(t:Am):evE Z2 [Af,Aa (.str (ww t a),Ae),Af,Af,Af] gb=.ok (.L [.str (zb t),.str (dg a.1.toNat),.str (dg a.2.1.toNat),.str (dg a.2.2.toNat)]):=by
 have:=hp.hi;obtain⟨⟨a0,a1⟩,⟨b0,b1⟩,c0,c1⟩:=h;have e:=cs9 (t:=t) (a:=a.1.toNat) (b:=a.2.1.toNat) (c:=a.2.2.toNat) (by omega) (by omega) (by omega)
 show zw .ssplit [.str (ww t a),.str sp7]=_;exact e
theorem zH(h:H9 Z1 Z2 p)(hi:zf p a)(t:Am):Lv Z1 34 KU [.int p,.L [.str (zb t),.str (dg a.1.toNat),.str (dg a.2.1.toNat),.str (dg a.2.2.toNat)]]=.ok (Av Ae a):=by
 unfold Lv;dsimp only;rw[h.rr3 a hi];have:KU.lookup (zb t)=Aa 3:=by cases t<;>decide
 show (match KU.lookup (zb t) with|none=>R.exn ⟨12,[]⟩|some k=>if (([D.int a.1,.int a.2.1,.int a.2.2]:Ac D).length:Ai)=k then .ok (D.L [.int a.1,.int a.2.1,.int a.2.2]) else .exn ⟨12,[]⟩)=_
 rw[this];rfl
theorem RY(h:H9 Z1 Z2 p)(hw:KU.lookup w=Aa 0):Lv Z1 34 KU [.int p,.L [.str w]]=.ok (.L []):=by
 unfold Lv;dsimp only;rw[h.rr0];show (match KU.lookup w with|none=>R.exn ⟨12,[]⟩|some k=>if ((([]:Ac D).length:Ag):Ai)=k then .ok (D.L []) else .exn ⟨12,[]⟩)=_
 rw[hw];rfl
theorem V2(h:H9 Z1 Z2 p)(hp:P4 p)(hi:zf p a)(hf:Fm p a q)(t:Am):Gy Z1 Z2 (zj p l hs) [.str (ww t a)]=Nx Z1 348 349 (zj p l hs) [.str (zb t),Av Ab q]:=by
 unfold Gy Ht;dsimp only;rw[sK hp hi t];dsimp only;rw[show (zj p l hs).p=D.int p from rfl,zH h hi t]
 dsimp only;rw[h.tb3 a q hf];dsimp only;unfold O4;cases t<;>rfl
theorem jD(h:H9 Z1 Z2 p)(hq:zf p q)(hp:P4 p)(hi:zf p a)(hf:Fm p a q)(hl:l.length<=30)(hh:hs.length<900):Gy Z1 Z2 (zj p l hs) [.str (ww Ae a)]=if q∈l then .exn ⟨107,[(("triple" : Ah),Av Ab q)]⟩ else if l.length=30 then .exn ⟨15,[]⟩ else .ok (.L [vv (l.length+1)]) (zj p (l++[q]) (hs++[l])):=by
 rw[V2 h hp hi hf];unfold Nx;dsimp only;rw[Au (show zb Ae=("put" : Ah) from rfl)]
 have e:=h.put l q hq hl;rw[show D.L (zj p l hs).l=A8 l from rfl,e]
 by_cases c1:q∈l
 .rw[Au c1,Au c1]
 .rw[Ay c1,Ay c1];by_cases c2:l.length=30
  .rw[Au c2,Au c2]
  .rw[Ay c2,Ay c2];show (if (zj p l hs).ps.length<900/\((l++[q]).map (Av Ab)).length<900 then RK.ok (.L [.str (toString (((l++[q]).map (Av Ab)).length:Ai))]) (G8 (zj p l hs) ((l++[q]).map (Av Ab)) (zj p l hs).c) else .bad)=_
   have e1:((l++[q]).map (Av Ab)).length=l.length+1:=by simp
   have e2:(zj p l hs).ps.length=hs.length:=by simp[zj]
   rw[Au (by rw[e1,e2];omega),e1]
   unfold vv G8 zj;simp[A8]
theorem fT(h:H9 Z1 Z2 p)(hq:zf p q)(hp:P4 p)(hi:zf p a)(hf:Fm p a q)(hl:l.length<=30)(hh:hs.length<900)(hn:l.Nodup):Gy Z1 Z2 (zj p l hs) [.str (ww Ab a)]=if q∈l then .ok (.L [vv (l.length-1)]) (zj p (l.filter λx=>!decide (x=q)) (hs++[l])) else .exn ⟨108,[(("triple" : Ah),Av Ab q)]⟩:=by
 rw[V2 h hp hi hf];unfold Nx;dsimp only;rw[Ay (show ¬ zb Ab=("put" : Ah) from by decide),Au (show zb Ab=("take" : Ah) from rfl)]
 have e:=h.take l q hq;rw[show D.L (zj p l hs).l=A8 l from rfl,e]
 by_cases c1:q∈l
 .rw[Au c1,Au c1];show (if (zj p l hs).ps.length<900/\((l.filter λx=>!decide (x=q)).map (Av Ab)).length<900 then RK.ok (.L [.str (toString (((l.filter λx=>!decide (x=q)).map (Av Ab)).length:Ai))]) (G8 (zj p l hs) ((l.filter λx=>!decide (x=q)).map (Av Ab)) (zj p l hs).c) else .bad)=_
  have e1:((l.filter λx=>!decide (x=q)).map (Av Ab)).length=l.length-1:=by
   rw[Bc];have:=List.Nodup.erase_eq_filter hn q;have e3:(l.filter λx=>!decide (x=q))=l.erase q:=by
    rw[this]
    congr 1
    funext x
    simp only[bne];rw[DM];simp
   rw[e3,List.length_erase_of_mem c1]
  have e2:(zj p l hs).ps.length=hs.length:=by simp[zj]
  rw[Au (by rw[e1,e2];omega),e1]
  unfold vv G8 zj;simp[A8]
 .rw[Ay c1,Ay c1]
theorem UE(h:H9 Z1 Z2 p)(hl:∀ q∈l,NF p q):Gy Z1 Z2 (zj p l hs) [.str (Aj "points")]=.ok (.L (Ec l)) (zj p l hs):=by
 unfold Gy Ht;dsimp only;rw[show evE Z2 [Af,Aa (.str (Aj "points"),Ae),Af,Af,Af] gb=.ok (.L [.str (Aj "points")]) from yQ]
 dsimp only;rw[show (zj p l hs).p=D.int p from rfl,RY h (by decide)]
 dsimp only;rw[h.tb0];show Pa Z1 350 (zj p l hs) [.str (Aj "points")]=_;unfold Pa;dsimp only;rw[Au rfl,show (zj p l hs).p=D.int p from rfl,show D.L (zj p l hs).l=A8 l from rfl,h.pts l hl]
 rfl
theorem jC(h:H9 Z1 Z2 p):Gy Z1 Z2 (zj p l []) [.str (Aj "undo")]=.exn ⟨17,[]⟩:=by
 unfold Gy Ht;dsimp only;rw[show evE Z2 [Af,Aa (.str (Aj "undo"),Ae),Af,Af,Af] gb=.ok (.L [.str (Aj "undo")]) from Wz]
 dsimp only;rw[show (zj p l []).p=D.int p from rfl,RY h (by decide)]
 dsimp only;rw[h.tb0];rfl
theorem jB(h:H9 Z1 Z2 p){g:Ac R3}(hg:g.length<=30):Gy Z1 Z2 (zj p l (hs++[g])) [.str (Aj "undo")]=.ok (.L [vv g.length]) (zj p g hs):=by
 unfold Gy Ht;dsimp only;rw[show evE Z2 [Af,Aa (.str (Aj "undo"),Ae),Af,Af,Af] gb=.ok (.L [.str (Aj "undo")]) from Wz]
 dsimp only;rw[show (zj p l (hs++[g])).p=D.int p from rfl,RY h (by decide)]
 dsimp only;rw[h.tb0];show Hr (zj p l (hs++[g])) []=_;have e:(zj p l (hs++[g])).ps.getLast?=Aa (.H [.L (g.map (Av Ab)),.O]):=by
  unfold zj;simp[A8]
 unfold Hr;simp only[e];rw[Au (by rw[Bc];omega),Bc]
 unfold vv zj;simp
end
noncomputable def Mr:Ag->Ac Ag
 |0=>[0]
 |12=>[12,0]
 |15=>[15,0]
 |17=>[17,0]
 |107=>[107,0]
 |108=>[108,0]
 |_=>[]
theorem O5(hu:Z.up=Mr)(d:D):MJ.run Z [.exc 107 [(("triple" : Ah),d)]]=.ok (.str (Aj "alike"))/\MJ.run Z [.exc 108 [(("triple" : Ah),d)]]=.ok (.str (Aj "not on"))/\MJ.run Z [.exc 15 []]=.ok (.str (Aj "many"))/\MJ.run Z [.exc 17 []]=.ok (.str (Aj "nothing")):=by
 obtain⟨F,G,up,fr,xn⟩:=Z;have hu:up=Mr:=hu;subst hu;exact⟨rfl,rfl,rfl,rfl⟩
noncomputable def kq(Z1 Z2 Z3:Z4):Dk->Ac D->RK:=m9 Mr (Z3.F 356) (Z3.F 360) (Gy Z1 Z2)
structure â (Z3:Z4):Prop where
 tx:∀ ts:Ac Ah,Z3.F 356 [.L (ts.map .str)]=.ok (.bl Ab)
 r107:∀ d,Z3.F 360 [.exc 107 [(("triple" : Ah),d)]]=.ok (.str (Aj "alike"))
 r108:∀ d,Z3.F 360 [.exc 108 [(("triple" : Ah),d)]]=.ok (.str (Aj "not on"))
 r15:Z3.F 360 [.exc 15 []]=.ok (.str (Aj "many"))
 r17:Z3.F 360 [.exc 17 []]=.ok (.str (Aj "nothing"))
section
variable{Z1 Z2 Z3:Z4}{p:Ai}{a q:R3}{l:Ac R3}{hs:Ac (Ac R3)}{k k':Dk}{ds:Ac D}
theorem Nk(h:â Z3){ts:Ac Ah}(e:Gy Z1 Z2 k ds=.ok (.L (ts.map .str)) k'):kq Z1 Z2 Z3 k ds=.ok (pr9 (Aj "told") (.L (ts.map .str))) k':=by
 unfold kq m9;rw[e];dsimp only;rw[h.tx];rfl
theorem O3(h:â Z3){y:Ex}{nm:Ah}(e:Gy Z1 Z2 k ds=.exn y)(r:Z3.F 360 [.exc y.c y.fs]=.ok (.str nm))(hu:(Mr y.c).contains 0=Ab/\nm≠Aj "told"):kq Z1 Z2 Z3 k ds=.ok (pr9 nm .O) k:=by
 unfold kq m9;rw[e];dsimp only;rw[r];exact Au hu
theorem W1(x:Ah)(l:Ac R3):Y8 5 (pr9 x (.L (Ec l)))=Ab:=by
 show (Ab&&((Ec l).all (Y8 3)&&Ab))=Ab;rw[Bool.true_and,JU];unfold Ec;rw[EC,Bh];intro _ _;rfl
theorem Sk:∀ ts:Ac Ah,LT (ts.map .str) (ts.map .str)=Ab
 |[]=>rfl
 |t::ts=>by
  show ((t==t)&&LT (ts.map .str) (ts.map .str))=Ab;rw[Sk ts,Cv];rfl
theorem LX(l:Ac R3):Ec l=(l.map λq=>tq Ae q).map D.str:=by
 unfold Ec;rw[Ic];rfl
theorem OZ(x:Ah)(ts:Ac Ah):Tm (pr9 x (.L (ts.map .str))) (pr9 x (.L (ts.map .str)))=Ab:=by
 show ((x==x)&&(LT (ts.map .str) (ts.map .str)&&Ab))=Ab;rw[Sk,Cv];rfl
theorem O0(x:Ah):Tm (pr9 x .O) (pr9 x .O)=Ab:=by
 show ((x==x)&&(Ab&&Ab))=Ab;rw[Cv];rfl
end
noncomputable def Ni:S:=.asgT [6,7] (.call 363 {.v 0,.v 1,.v 5,.v 3})
noncomputable def Ox:S:=.asg 8 Ae (.v 6)
noncomputable def Ll:S:=.ife (.or {.cmp .Eq (.v 6) (.str (Aj "put")),.cmp .Eq (.v 6) (.str (Aj "take"))}) {.asg 8 Ae (.B .Add (.B .Add (.v 6) (.str (Aj " "))) (.call 359 {.v 1,.v 7,.call 354 {.v 0,.B .Add (.int 70) (.v 5)}}))} .nil
noncomputable def OM:E:=.call 364 {.v 6,.v 7,.v 3,.v 4}
noncomputable def Lm:E:=.cmp .NotEq (.v 11) (.v 7)
noncomputable def Mi:E:=.v 11
noncomputable def NH:Ss:=.cons (.asg 3 Ab (.comp Mi 11 (.e (.v 3)) Lm)) {.ife (.cmp .Eq (.v 6) (.str (Aj "put"))) {.app 3 (.v 7)} .nil,.rel 3}
noncomputable def Ln:E:=.bl Ab
noncomputable def Lq:E:=.call 358 {.v 12}
noncomputable def Nh:S:=.asg 9 Ae (.H {.str (Aj "told"),.comp Lq 12 (.e (.v 3)) Ln})
noncomputable def WK:E:=.call 355 {.v 0}
noncomputable def WJ:E:=.bi .min {.bi .len {.v 0},.int 61}
structure eg (Z:Z4) (ns:Ac Ai):Prop where
 mi:Os Z 354 ns
 rw:yM Z ns
 rs:yN Z
 pt:RH Z
 dp:∀(q:R3)(l:Ac R3)(hs:Ac (Ac R3)),l.length<=30->Z.F 364 [.str (Aj "put"),Av Ab q,A8 l,DF hs]=.ok (if q∈l then pr9 (Aj "alike") .O else if l.length=30 then pr9 (Aj "many") .O else pr9 (Aj "told") (.L [vv (l.length+1)]))
 dt:∀(q:R3)(l:Ac R3)(hs:Ac (Ac R3)),l.length<=30->Z.F 364 [.str (Aj "take"),Av Ab q,A8 l,DF hs]=.ok (if q∈l then pr9 (Aj "told") (.L [vv (l.length-1)]) else pr9 (Aj "not on") .O)
 dq:∀(p:Ai)(q:R3)(l:Ac R3)(hs:Ac (Ac R3)),P4 p->(∀ x∈l,NF p x)->Z.F 364 [.str (Aj "points"),Av Ab q,A8 l,DF hs]=.ok (pr9 (Aj "told") (.L (Ec l)))
 d0:∀(q:R3)(l:Ac R3),Z.F 364 [.str (Aj "undo"),Av Ab q,A8 l,DF []]=.ok (pr9 (Aj "nothing") .O)
 d1:∀(q:R3)(l h:Ac R3)(hs:Ac (Ac R3)),h.length<=30->Z.F 364 [.str (Aj "undo"),Av Ab q,A8 l,DF (hs++[h])]=.ok (pr9 (Aj "told") (.L [vv h.length]))
 up:Z.up=Mr
theorem XD{a b:R α}{k:α->O}(e:a=b)(h:O.of U b k=o):O.of U a k=o:=e ▸ h
theorem XF{β:Type}{a b:R α}{f:α->R β}{k:β->O}(e:a=b)(h:O.of U (b.bind f) k=o):O.of U (a.bind f) k=o:=e ▸ h
theorem zL{a b:R α}{k:α->O}{s:Rho->O}(e:a=b)(h:(O.of U b k).seq s=o):(O.of U a k).seq s=o:=e ▸ h
section
variable{Z Z1 Z2 Z3:Z4}{ns:Ac Ai}{p k:Ai}{a q:R3}{l:Ac R3}{hs:Ac (Ac R3)}
theorem st1(h:eg Z ns)(hp:P4 p)(k0:0<=k)(hl:∀ x∈l,NF p x):∃ w q,Ϭ w/\NF p q/\yt Z (tkR (zy (Z5 (A8 l)) (Z5 (.int k)) Af Af Af Af (scr ns) (.int p))) Ni=.next (tkR (zy (Z5 (A8 l)) (Z5 (.int k)) (Z5 (.str w)) (Z5 (Av Ab q)) Af Af (scr ns) (.int p))):=by
 obtain⟨w,q,hw,hq,e⟩:=h.rw p k l hp k0 hl;refine⟨w,q,hw,hq,?_⟩;generalize A8 l=L,Av Ab q=Q,scr ns=S at *;have e2:evE Z (tkR (zy (Z5 L) (Z5 (.int k)) Af Af Af Af S (.int p))) (.call 363 (.cons (.v 0) (.cons (.v 1) (.cons (.v 5) (.cons (.v 3) .nil)))))=.ok (.H [.str w,Q]):=by
  show (Z.F 363 [S,.int p,.int k,L]).bind _=_;rw[e];rfl
 unfold Ni;exact XD e2 rfl
theorem st2{L Q S:D}:yt Z (tkR (zy (Z5 L) (Z5 (.int k)) (Z5 (.str w)) (Z5 Q) Af Af S (.int p))) Ox=.next (tkR (zy (Z5 L) (Z5 (.int k)) (Z5 (.str w)) (Z5 Q) (Z5 (.str w)) Af S (.int p))):=rfl
theorem Xj{L Q S:D}(h1:¬ w=Aj "put")(h2:¬ w=Aj "take"):yt Z (tkR (zy (Z5 L) (Z5 (.int k)) (Z5 (.str w)) (Z5 Q) (Z5 (.str w)) Af S (.int p))) Ll=.next (tkR (zy (Z5 L) (Z5 (.int k)) (Z5 (.str w)) (Z5 Q) (Z5 (.str w)) Af S (.int p))):=by
 have e:evE Z (tkR (zy (Z5 L) (Z5 (.int k)) (Z5 (.str w)) (Z5 Q) (Z5 (.str w)) Af S (.int p))) (.or (.cons (.cmp .Eq (.v 6) (.str (Aj "put"))) (.cons (.cmp .Eq (.v 6) (.str (Aj "take"))) .nil)))=.ok (.bl Ae):=by
  show (R.ok (D.bl (w==Aj "put"))).bind (λx=>(Di x).bind λc=>if c=Ab then R.ok (D.bl Ab) else R.ok (D.bl (w==Aj "take")))=_
  rw[Bg.mpr h1,Bg.mpr h2];rfl
 unfold Ll;exact XF e rfl
theorem Xi(h:eg Z ns)(hp:P4 p)(k0:0<=k){L:D}(t:Am)(hq:NF p q):∃ a,zf p a/\Fm p a q/\yt Z (tkR (zy (Z5 L) (Z5 (.int k)) (Z5 (.str (zb t))) (Z5 (Av Ab q)) (Z5 (.str (zb t))) Af (scr ns) (.int p))) Ll=.next (tkR (zy (Z5 L) (Z5 (.int k)) (Z5 (.str (zb t))) (Z5 (Av Ab q)) (Z5 (.str (ww t a))) Af (scr ns) (.int p))):=by
 obtain⟨m,m0,e1⟩:=h.mi (70+k) (by omega)
 obtain⟨a,ha,hf,e2⟩:=h.rs p m q hp m0 hq;refine⟨a,ha,hf,?_⟩;have lj:(jq a).length<=10:=(Q3 hp ha).ln;have b1:Dc .Add (.str (zb t)) (.str sp7)=.ok (.str (zb t++sp7)):=by cases t<;>rfl
 have b2:Dc .Add (.str (zb t++sp7)) (.str (jq a))=.ok (.str (ww t a)):=by
  rw[Lc,Au]
  .rfl
  .have:(zb t++sp7).length<=5:=by cases t<;>decide
   exact sz7 (by omega)
 generalize Av Ab q=Q,scr ns=S,ww t a=Rw,jq a=J at *;have e3:evE Z (tkR (zy (Z5 L) (Z5 (.int k)) (Z5 (.str (zb t))) (Z5 Q) (Z5 (.str (zb t))) Af S (.int p))) (.B .Add (.B .Add (.v 6) (.str (Aj " "))) (.call 359 (.cons (.v 1) (.cons (.v 7) (.cons (.call 354 (.cons (.v 0) (.cons (.B .Add (.int 70) (.v 5)) .nil))) .nil)))))=.ok (.str Rw):=by
  have z1:evE Z (tkR (zy (Z5 L) (Z5 (.int k)) (Z5 (.str (zb t))) (Z5 Q) (Z5 (.str (zb t))) Af S (.int p))) (.call 354 (.cons (.v 0) (.cons (.B .Add (.int 70) (.v 5)) .nil)))=.ok (.int m):=by
   show (Z.F 354 [S,.int (70+k)]).bind _=_;rw[e1];rfl
  have z2:evE Z (tkR (zy (Z5 L) (Z5 (.int k)) (Z5 (.str (zb t))) (Z5 Q) (Z5 (.str (zb t))) Af S (.int p))) (.call 359 (.cons (.v 1) (.cons (.v 7) (.cons (.call 354 (.cons (.v 0) (.cons (.B .Add (.int 70) (.v 5)) .nil))) .nil))))=.ok (.str J):=by
   rw[hU,L6,L6,L6,T6,z1];show (Z.F 359 [.int p,Q,.int m]).bind _=_;rw[e2];rfl
  rw[U_1,T6,z2,jS,U_1];show ((Dc .Add (.str (zb t)) (.str sp7)).bind λx=>(R.ok (D.str J)).bind λy=>Dc .Add x y)=_
  rw[b1];exact b2
 have e4:evE Z (tkR (zy (Z5 L) (Z5 (.int k)) (Z5 (.str (zb t))) (Z5 Q) (Z5 (.str (zb t))) Af S (.int p))) (.or (.cons (.cmp .Eq (.v 6) (.str (Aj "put"))) (.cons (.cmp .Eq (.v 6) (.str (Aj "take"))) .nil)))=.ok (.bl Ab):=by
  cases t<;>rfl
 unfold Ll;refine XF e4 ?_;exact zL e3 rfl
end
section
variable{Z Z1 Z2 Z3:Z4}{ns:Ac Ai}{p k:Ai}{a q:R3}{l:Ac R3}{hs:Ac (Ac R3)}
theorem NA{d:D}(e:Z.F 364 [.str w,Av Ab q,A8 l,DF hs]=.ok d):evE Z [Af,Af,Af,Z5 (A8 l),Z5 (DF hs),Af,Z5 (.str w),Z5 (Av Ab q),Af,Af,Af,Af,Af] OM=.ok d:=by
 generalize A8 l=L,Av Ab q=Q,DF hs=P at *;show (Z.F 364 [.str w,Q,L,P]).bind _=_;rw[e];rfl
theorem sL(q:R3)(U:Rho)(hρ:∃ L K W S p',U=tkR (zy L K W (Z5 (Av Ab q)) Af Af S p')):∀ l:Ac R3,Cq (cG Z U 11 Lm) (cF Z U 11 Mi) (l.map (Av Ab))=.ok ((l.filter λx=>!decide (x=q)).map (Av Ab)):=λl=>by
 obtain⟨L,K,W,S,p',rfl⟩:=hρ
 induction l with
 |nil=>rfl
 |cons x l ih=>
  have e:cG Z (tkR (zy L K W (Z5 (Av Ab q)) Af Af S p')) 11 Lm (Av Ab x)=.ok (!decide (x=q)):=by
   have:BP .NotEq (Av Ab x) (Av Ab q)=.ok (.bl (!decide (x=q))):=by
    show (if (Y8 5 (Av Ab x)&&Y8 5 (Av Ab q))=Ab then R.ok (D.bl (!Tm (Av Ab x) (Av Ab q))) else .bad)=_
    rw[M7,Au (by rfl)]
   show (BP .NotEq (Av Ab x) (Av Ab q)).bind Bq=_;rw[this];rfl
  have e2:cF Z (tkR (zy L K W (Z5 (Av Ab q)) Af Af S p')) 11 Mi (Av Ab x)=.ok (Av Ab x):=rfl;rw[BM];show (cG Z _ 11 Lm (Av Ab x)).bind _=_;rw[e];by_cases c:x=q
  .simp[c];exact ih
  .simp[c,e2];rw[ih];rfl
theorem bb9(t:Am)(hl:l.length<=900):U7 Z (tkR (zy (Z5 (A8 l)) (Z5 (.int k)) (Z5 (.str (zb t))) (Z5 (Av Ab q)) Af Af (scr ns) (.int p))) NH=.next (tkR (zy (Z5 (A8 ((l.filter λx=>!decide (x=q))++if t=Ab then [] else [q]))) (Z5 (.int k)) (Z5 (.str (zb t))) (Z5 (Av Ab q)) Af Af (scr ns) (.int p))):=by
 have e:=sL (Z:=Z) q (tkR (zy (Z5 (A8 l)) (Z5 (.int k)) (Z5 (.str (zb t))) (Z5 (Av Ab q)) Af Af (scr ns) (.int p))) ⟨_,_,_,_,_,rfl⟩ l;have e1:evE Z (tkR (zy (Z5 (A8 l)) (Z5 (.int k)) (Z5 (.str (zb t))) (Z5 (Av Ab q)) Af Af (scr ns) (.int p))) (.comp Mi 11 (.e (.v 3)) Lm)=.ok (.L ((l.filter λx=>!decide (x=q)).map (Av Ab))):=by
  show (zg (Cq (cG Z _ 11 Lm) (cF Z _ 11 Mi) (l.map (Av Ab)))).bind _=_;rw[e];rfl
 have hf:(l.filter λx=>!decide (x=q)).length<=l.length:=Yq _ _
 generalize (l.filter λx=>!decide (x=q))=f at *
 unfold NH;show (O.of _ (evE Z _ (.comp Mi 11 (.e (.v 3)) Lm)) _).seq _=_;rw[e1];cases t with
 |true=>
  rw[Au rfl,Bz];rfl
 |false=>
  rw[Ay (by decide)]
  have sz:CY ((f.map (Av Ab)).length+1)=Ab:=GO.mpr (by rw[Bc];omega)
  show O.seq (O.seq (if CY ((f.map (Av Ab)).length+1)=Ab then _ else _) _) _=_
  rw[Au sz];unfold A8;rw[Yu];rfl
theorem st6(h:eg Z ns)(hp:P4 p)(hl:∀ x∈l,NF p x):yt Z (tkR (zy (Z5 (A8 l)) Af Af Af Af Af (scr ns) (.int p))) Nh=.next (tkR (zy (Z5 (A8 l)) Af Af Af Af (Z5 (.H [.str (Aj "told"),.L (Ec l)])) (scr ns) (.int p))):=by
 have e:∀(L S:D)(l:Ac R3),(∀ q∈l,NF p q)->Cq (cG Z (tkR (zy (Z5 L) Af Af Af Af Af S (.int p))) 12 Ln) (cF Z (tkR (zy (Z5 L) Af Af Af Af Af S (.int p))) 12 Lq) (l.map (Av Ab))=.ok (Ec l):=λL S l hl=>by
  induction l with
  |nil=>rfl
  |cons x l ih=>
   have hx:=hl x (by simp)
   have s:=h.pt p x hp hx.1;have e1:cG Z (tkR (zy (Z5 L) Af Af Af Af Af S (.int p))) 12 Ln (Av Ab x)=.ok Ab:=rfl;have e2:cF Z (tkR (zy (Z5 L) Af Af Af Af Af S (.int p))) 12 Lq (Av Ab x)=.ok (.str (tq Ae x)):=by
    show (Z.F 358 [Av Ab x]).bind _=_;rw[s];rfl
   rw[BM];show (cG Z _ 12 Ln (Av Ab x)).bind _=_;rw[e1];show (cF Z _ 12 Lq (Av Ab x)).bind _=_;rw[e2];show (Cq _ _ (l.map (Av Ab))).bind _=_;rw[ih λq hq=>hl q (AD _ hq)]
   rfl
 have e1:evE Z (tkR (zy (Z5 (A8 l)) Af Af Af Af Af (scr ns) (.int p))) (.H (.cons (.str (Aj "told")) (.cons (.comp Lq 12 (.e (.v 3)) Ln) .nil)))=.ok (.H [.str (Aj "told"),.L (Ec l)]):=by
  have ec:evE Z (tkR (zy (Z5 (A8 l)) Af Af Af Af Af (scr ns) (.int p))) (.comp Lq 12 (.e (.v 3)) Ln)=.ok (.L (Ec l)):=by
   show (zg (Cq (cG Z _ 12 Ln) (cF Z _ 12 Lq) (l.map (Av Ab)))).bind _=_;rw[e (A8 l) (scr ns) l hl];rfl
  rw[nM,MU,MU,ec];rfl
 unfold Nh;exact XD e1 rfl
structure jc (p:Ai) (l:Ac R3):Prop where
 ln:l.length<=30
 nd:l.Nodup
 nf:∀ q∈l,NF p q
def W2(Z:Z4)(GS:Dk->Ac D->RK)(ns:Ac Ai)(p:Ai)(q:Dk)(l:Ac D):Prop:=∃ ts xh,yt Z (tkR (zy (Z5 (.L l)) Af Af Af Af Af (scr ns) (.int p))) Nh=.next (tkR (zy (Z5 (.L l)) Af Af Af Af (Z5 (.H [.str "told",.L ts])) (scr ns) (.int p)))/\GS q [.str "points"]=.ok (.H [.str "told",.L xh]) q/\Y8 4 (.L ts)=Ab/\Y8 4 (.L xh)=Ab/\LT xh ts=Ab/\xh.length<900
theorem tJ(h:eg Z ns)(h1:H9 Z1 Z2 p)(h3:â Z3)(hp:P4 p)(o:jc p l):W2 Z (kq Z1 Z2 Z3) ns p (zj p l hs) (l.map (Av Ab)):=by
 have e:=UE (hs:=hs) h1 o.nf;rw[LX]at e;have s:=Nk h3 e;have f:Y8 4 (.L (Ec l))=Ab:=by
  show (Ec l).all (Y8 3)=Ab;unfold Ec;rw[EC,Bh];intro _ _;rfl
 refine⟨Ec l,Ec l,st6 h hp o.nf,?_,f,f,?_,?_⟩
 .rw[LX];exact s
 .rw[LX];exact Sk _
 .unfold Ec;rw[Bc];have:=o.ln;omega
end
section
variable{Z Z1 Z2 Z3:Z4}{ns:Ac Ai}{p:Ai}
theorem iS(l:Ac α)(h:l≠[]):∃ i x,l=i++[x]:=⟨l.dropLast,l.getLast h,(List.dropLast_concat_getLast h).symm⟩
theorem qH{l:Ac R3}(o:jc p l)(hq:NF p q)(h1:q∉l)(h2:¬ l.length=30):jc p (l++[q]):=by
 have:=o.ln;refine⟨by simp;omega,?_,λx hx=>?_⟩
 .rw[List.nodup_append];refine⟨o.nd,by simp,λa ha b hb=>?_⟩
  simp at hb;subst hb;exact λz=>h1 (z ▸ ha)
 .rcases Ei.mp hx with h|h
  .exact o.nf x h
  .simp at h;rw[h];exact hq
theorem kZ{l:Ac R3}(o:jc p l):jc p (l.filter λx=>!decide (x=q)):=by
 have:=Yq (λx=>!decide (x=q)) l
 have:=o.ln;exact⟨by omega,o.nd.sublist List.filter_sublist,λx hx=>o.nf x (Yw.mp hx).1⟩
theorem rY{l:Ac R3}(h:q∉l):(l.filter λx=>!decide (x=q))=l:=by
 rw[List.filter_eq_self];intro x hx;have:x≠q:=λz=>h (z ▸ hx)
 simp[this]
noncomputable abbrev Lp9(Z:Z4)(GS GY:Dk->Ac D->RK)(ns:Ac Ai)(p:Ai):Ac Ai->Dk->Ac D->Ac D->Prop:=LB Z Ni Ox Ll OM NH GS GY (scr ns) (.int p) (W2 Z GS ns p)
theorem oo(h:eg Z ns)(h1:H9 Z1 Z2 p)(h3:â Z3)(hp:P4 p):∀(ks:Ac Ai)(l:Ac R3)(hs:Ac (Ac R3)),(∀ k∈ks,0<=k)->jc p l->(∀ g∈hs,jc p g)->hs.length+ks.length<=800->Lp9 Z (kq Z1 Z2 Z3) (Gy Z1 Z2) ns p ks (zj p l hs) (l.map (Av Ab)) (hs.map A8)
 |[],l,hs,_,o,_,_=>tJ h h1 h3 hp o
 |k::ks,l,hs,hk,o,os,hz=>by
  have k0:=hk k (by simp)
  have vt:∀ k∈ks,0<=k:=λx hx=>hk x (AD _ hx)
  have bh:hs.length+1+ks.length<=800:=by simp at hz;omega
  obtain⟨w,q,hw,hq,e1⟩:=st1 h hp k0 o.nf;rcases hw with rfl|rfl|rfl|rfl
  .obtain⟨a,ha,hf,e3⟩:=Xi (k:=k) (L:=A8 l) h hp k0 Ae hq;have ed:=NA (h.dp q l hs o.ln);have es:=jD (l:=l) (hs:=hs) h1 hq.1 hp ha hf o.ln (by omega)
   by_cases c1:q∈l
   .rw[Au c1]at ed es;refine⟨_,_,Aj "alike",Av Ab q,.O,_,_,e1,st2,e3,ed,O3 h3 es (h3.r107 _) ⟨rfl,by decide⟩,rfl,rfl,O0 _,λ_=>⟨_,_,es,.inl (by rw[h.up];rfl),rfl,rfl,rfl,?_⟩,?_⟩
    .rw[M7];exact CG rfl
    .rw[Ay (λz=>absurd z.1 (by decide)),Ay (λz=>absurd z.1 (by decide))]
     exact oo h h1 h3 hp ks l hs vt o os (by omega)
   .rw[Ay c1]at ed es;by_cases c2:l.length=30
    .rw[Au c2]at ed es;refine⟨_,_,Aj "many",Av Ab q,.O,_,_,e1,st2,e3,ed,O3 h3 es h3.r15 ⟨rfl,by decide⟩,rfl,rfl,O0 _,λz=>absurd z (by decide),?_⟩
     rw[Ay (λz=>absurd z.1 (by decide)),Ay (λz=>absurd z.1 (by decide))]
     exact oo h h1 h3 hp ks l hs vt o os (by omega)
    .rw[Ay c2]at ed es;refine⟨_,_,Aj "told",Av Ab q,_,_,_,e1,st2,e3,ed,Nk (ts:=[Aj (toString ((l.length+1:Ag):Ai))]) h3 es,rfl,rfl,OZ _ _,λz=>absurd z (by decide),?_⟩
     rw[Ay (λz=>absurd z.2 (by decide)),Au ⟨rfl,by decide⟩]
     refine⟨by rw[Bc];omega,(l++[q]).map (Av Ab),?_,?_⟩
     .have:=bb9 (Z:=Z) (ns:=ns) (p:=p) (k:=k) (q:=q) (l:=l) Ae (by have:=o.ln;omega)
      rwa [rY c1]at this
     .have:=oo h h1 h3 hp ks (l++[q]) (hs++[l]) vt (qH o hq c1 c2) (λg hg=>(Ei.mp hg).elim (os g) λz=>by simp at z;rw[z];exact o) (by rw[BS];simp;omega)
      have e9:(hs++[l]).map A8=hs.map A8++[A8 l]:=by simp
      rwa [e9]at this
  .obtain⟨a,ha,hf,e3⟩:=Xi (k:=k) (L:=A8 l) h hp k0 Ab hq;have ed:=NA (h.dt q l hs o.ln);have es:=fT (l:=l) (hs:=hs) h1 hq.1 hp ha hf o.ln (by omega) o.nd
   by_cases c1:q∈l
   .rw[Au c1]at ed es;refine⟨_,_,Aj "told",Av Ab q,_,_,_,e1,st2,e3,ed,Nk (ts:=[Aj (toString ((l.length-1:Ag):Ai))]) h3 es,rfl,rfl,OZ _ _,λz=>absurd z (by decide),?_⟩
    rw[Ay (λz=>absurd z.2 (by decide)),Au ⟨rfl,by decide⟩]
    refine⟨by rw[Bc];omega,(l.filter λx=>!decide (x=q)).map (Av Ab),?_,?_⟩
    .have:=bb9 (Z:=Z) (ns:=ns) (p:=p) (k:=k) (q:=q) (l:=l) Ab (by have:=o.ln;omega)
     rwa [Au rfl,Bz]at this
    .have:=oo h h1 h3 hp ks (l.filter λx=>!decide (x=q)) (hs++[l]) vt (kZ o) (λg hg=>(Ei.mp hg).elim (os g) λz=>by simp at z;rw[z];exact o) (by rw[BS];simp;omega)
     have e9:(hs++[l]).map A8=hs.map A8++[A8 l]:=by simp
     rwa [e9]at this
   .rw[Ay c1]at ed es;refine⟨_,_,Aj "not on",Av Ab q,.O,_,_,e1,st2,e3,ed,O3 h3 es (h3.r108 _) ⟨rfl,by decide⟩,rfl,rfl,O0 _,λ_=>⟨_,_,es,.inr (by rw[h.up];rfl),rfl,rfl,rfl,?_⟩,?_⟩
    .rw[M7];exact CG rfl
    .rw[Ay (λz=>absurd z.1 (by decide)),Ay (λz=>absurd z.1 (by decide))]
     exact oo h h1 h3 hp ks l hs vt o os (by omega)
  .have e3:=Xj (Z:=Z) (p:=p) (k:=k) (w:=Aj "undo") (L:=A8 l) (Q:=Av Ab q) (S:=scr ns) (by decide) (by decide)
   by_cases c1:hs=[]
   .subst c1;have ed:=NA (h.d0 q l);have es:=jC (l:=l) h1;refine⟨_,_,Aj "nothing",Av Ab q,.O,_,_,e1,st2,e3,ed,O3 h3 es h3.r17 ⟨rfl,by decide⟩,rfl,rfl,O0 _,λz=>absurd z (by decide),?_⟩
    rw[Ay (λz=>absurd z.1 (by decide)),Ay (λz=>absurd z.1 (by decide))]
    exact oo h h1 h3 hp ks l [] vt o os (by simp at hz ⊢;omega)
   .obtain⟨gs,g,rfl⟩:=iS hs c1;have og:=os g (by simp)
    have ed:=NA (h.d1 q l g gs og.ln);have es:=jB (l:=l) (hs:=gs) h1 og.ln;refine⟨_,_,Aj "told",Av Ab q,_,_,_,e1,st2,e3,ed,Nk (ts:=[Aj (toString ((g.length:Ag):Ai))]) h3 es,rfl,rfl,OZ _ _,λz=>absurd z (by decide),?_⟩
    rw[Au ⟨rfl,rfl⟩];refine⟨g.map (Av Ab),by simp[A8],?_⟩
    have:=oo h h1 h3 hp ks g gs vt og (λx hx=>os x (ES _ hx)) (by rw[BS]at bh;simp at bh;omega)
    have e9:((gs++[g]).map A8).dropLast=gs.map A8:=by simp
    rw[e9];exact this
  .have e3:=Xj (Z:=Z) (p:=p) (k:=k) (w:=Aj "points") (L:=A8 l) (Q:=Av Ab q) (S:=scr ns) (by decide) (by decide)
   have ed:=NA (h.dq p q l hs hp o.nf);have es:=UE (hs:=hs) h1 o.nf;rw[LX]at ed es;refine⟨_,_,Aj "told",Av Ab q,_,_,_,e1,st2,e3,ed,Nk h3 es,by rw[<-LX];exact W1 _ l,by rw[<-LX];exact W1 _ l,OZ _ _,λz=>absurd z (by decide),?_⟩
   rw[Ay (λz=>absurd z.2 (by decide)),Ay (λz=>absurd rfl z.2)]
   exact oo h h1 h3 hp ks l hs vt o os (by omega)
end
theorem mk9(c:Ag)(q:R3)(h:ä q):bo c "triple" [Av Ab q]=.ok ⟨c,[(("triple" : Ah),Av Ab q)]⟩:=by
 obtain⟨p,hp,⟨a0,a1⟩,⟨b0,b1⟩,c0,c1⟩:=h;have:=hp.hi;refine Au ?_;rw[BV];refine .inl ?_;show (Ab&&((decide (0<=q.1)&&decide (q.1<100))&&((decide (0<=q.2.1)&&decide (q.2.1<100))&&((decide (0<=q.2.2)&&decide (q.2.2<100))&&Ab))))=Ab;simp only[An,AM];exact⟨trivial,⟨a0,by omega⟩,⟨b0,by omega⟩,⟨c0,by omega⟩,trivial⟩
noncomputable def RW:Ag->Ac D->R Ex
 |12,ds=>.ok ⟨12,[]⟩
 |15,ds=>.ok ⟨15,[]⟩
 |17,ds=>.ok ⟨17,[]⟩
 |107,ds=>bo 107 "triple" ds
 |108,ds=>bo 108 "triple" ds
 |_,_=>.bad
noncomputable def G95:Ag->D
 |2=>.H (llW.map .str)
 |3=>.H (lmW.map .str)
 |4=>.H (laW.map .str)
 |5=>.int 30
 |_=>.O
noncomputable def zv:Prg:=⟨Ab,fun
 |1=>QZ
 |9=>NQ
 |17=>NS
 |25=>Qo
 |33=>PF
 |34=>MO
 |347=>MX
 |348=>MP
 |349=>NM
 |350=>Pv
 |354=>NP
 |355=>Pu
 |93=>MM
 |356=>Pt
 |357=>P6
 |358=>Py
 |359=>PH
 |360=>MJ
 |363=>Gs
 |364=>G0
 |900=>tf 0
 |901=>tf 1
 |902=>tf 2
 |910=>ki
 |920=>bL
 |931=>Pw
 | _=>⟨0,Ae,.nil⟩,G95,Mr,RW⟩
theorem wV(ns:Ac Ai)(hl:ns.length<=63):XS (Z6 zv 9) WK WJ Ni Ox Ll OM NH Nh (kq (Z6 zv 6) (Z6 zv 7) (Z6 zv 8)) (Gy (Z6 zv 6) (Z6 zv 7)) (scr ns):=by
 have rs:∀ n,Oq (Z6 zv (n+1)):=λn p m hp=>qY (Z6 zv n) p m hp
 have tu:∀ n,PN (Z6 zv (n+2)):=λn p m hp z=>cV (rs n) p m hp z
 have fo:∀ n,Ob (Z6 zv (n+3)):=λn p b xs l t hp e it=>iK (rs (n+1)) (tu n) hp e it
 have ii:∀ n,WN (Z6 zv (n+4)):=λn p b q a hp h=>uS (fo n) p b q a hp h
 have ma:∀ n (p:Ai) (b:Am) (q a:R3),P4 p->Fm p q a->(Z6 zv (n+5)).F 901 [.int p,Av b q]=.ok (pi p Ae a):=λn p b q a hp h=>uR (ii n) 1 p b q a hp h
 have ro:∀ n,VO (Z6 zv (n+1)):=λn p q hp h=>qX (Z6 zv n) p q hp h
 have sw:∀ n (p:Ai) (q:R3),P4 p->zf p q->(Z6 zv (n+2)).F 931 [pi p Ae q]=.ok (.str (tq Ae q)):=λn p q hp h=>vT (ro n) p q hp h
 have rr:∀ n,WM (Z6 zv (n+1)):=λn p x hp h0 h1=>uP (Z6 zv n) p x hp h0 h1
 have tx:∀ n,RG (Z6 zv (n+1)):=λn p b q hp h=>vQ (Z6 zv n) p b q hp h
 have pt:∀ n,RH (Z6 zv (n+2)):=λn p q hp h=>uQ (tx n) p q hp h
 have mi:∀ n,Os (Z6 zv (n+1)) 354 ns:=λn k hk=>iJ (Z6 zv n) ns k hk
 have tr:∀ n,VP (Z6 zv (n+1)):=λn p k hp=>rB (Z6 zv n) p k hp
 have xn:∀ n,XN9 (Z6 zv (n+1)):=λn=>⟨rfl,λq h=>mk9 107 q h,λq h=>mk9 108 q h,λd=>rfl⟩
 obtain⟨p,hp,ep⟩:=rC (mi 7);have H1:H9 (Z6 zv 6) (Z6 zv 7) p:=⟨λl q hq h=>qZ (xn 4) l q ⟨p,hp,hq⟩ h,λl q hq=>jO (xn 4) l q ⟨p,hp,hq⟩,λl h=>rA (ma 0) (sw 3) p l hp h,λa h=>qW (rr 4) p a hp h,uO (Z6 zv 5) p,λa q h=>vR (fo 3) p a q hp h,vS (Z6 zv 6) p⟩
 have H3:â (Z6 zv 8):=⟨λts=>qV (Z6 zv 7) ts,λd=>(O5 (Z:=Z6 zv 7) rfl d).1,λd=>(O5 (Z:=Z6 zv 7) rfl d).2.1,(O5 (Z:=Z6 zv 7) rfl .O).2.2.1,(O5 (Z:=Z6 zv 7) rfl .O).2.2.2⟩
 have HL:eg (Z6 zv 9) ns:=⟨mi 8,λp k l hp k0 h=>vU (mi 7) (tr 7) p k l hp k0 h,λp m q hp m0 h=>vV (tx 7) p m q hp m0 h,pt 7,λq l hs h=>sE (Z6 zv 8) q l hs h,λq l hs h=>nQ (Z6 zv 8) q l hs h,λp q l hs hp h=>sF hp (pt 6) q l hs h,λq l=>fX (Z6 zv 8) q l,λq l h hs hh=>fW (Z6 zv 8) q l h hs hh,rfl⟩
 have jk:(Z6 zv 9).F 355 [scr ns]=.ok (.int p):=ep;refine⟨.int p,if (ns.length:Ai)>61 then 61 else (ns.length:Ai),?_,?_,?_,?_,?_⟩
 .generalize scr ns=S at jk ⊢;show ((Z6 zv 9).F 355 [S]).bind _=_;rw[jk];rfl
 .show R.ok (D.int (if (61:Ai)<((ns.map D.int).length:Ag) then 61 else ((ns.map D.int).length:Ag)))=_
  rw[Bc]
 .split<;>omega
 .split<;>omega
 .refine oo HL H1 H3 hp _ [] [] (λk hk=>?_) ⟨by simp,Yx,λ_ h=>by simp at h⟩ (λ_ h=>by simp at h) ?_
  .obtain⟨i,_,rfl⟩:=Ie.mp hk;omega
  .rw[Bc,List.length_range];simp only[Yr];split<;>omega
end OvC
namespace OvC
open PySem PySem.Spec PyProof.Rows Ov L2
variable{l:Gg}
noncomputable def Nn:Ac (Ah×Ag×Ag):=([("rest",1,2),("turned_over",9,2),("one_form",17,2),("row_of",25,1),("rest_read",33,2),("rests_read",34,2),("told_by",347,2),("put_in",348,2),("taken_out",349,2),("point_texts",350,2),("_law_mixed",354,2),("_law_prime",355,1),("_law_triple",93,2),("_law_texts",356,1),("_law_text",357,1),("_law_point_text",358,1),("_law_rested",359,3),("_law_refusal",360,1001),("_law_row",363,4),("_law_due",364,4),("1.told",920,1),("1.shown",931,1)]:Ac (Ah×Ag×Ag))
noncomputable def NG:Ac Ah:=["ValueError", "all", "isinstance", "len", "list", "min", "range", "str", "tuple"]
noncomputable def Mo:Ac (Ah×Ag):=[("NoRow",12),("Alike",107),("TooMany",15),("NotOn",108),("NothingDone",17),("OvalError",0)]
noncomputable def Mh:Ac (Ah×Ag):=[("NoRow",12),("NoTriple",3),("NoCurve",5),("Alike",107),("NotOn",108),("TooMany",15),("NothingDone",17),("NoCount",13),("OnLine",118),("NotWhole",14),("OvalError",0)]
noncomputable def Nr:Ac (Ah×Ag):=[("OF_THE_LIST",2),("MAKE_A_CURVE",3),("ASK_THE_CURVE",4),("MOST",5)]
noncomputable abbrev wz(h:Am)(n:Ag)(N:Ac Ah)(i d:Ag):Am:=Gz 80 h Nn NG Mo Mh Nr (N.take n) N (tp95 i) (zv.defs d)
theorem rW:wz Ae 2 ["p", "n"] 16 1=Ab:=by decide+kernel
theorem rV:wz Ae 2 ["p", "n", "turned"] 17 9=Ab:=by decide+kernel
theorem rT:wz Ae 2 ["p", "numbers", "rests", "first", "factor", "#5", "#6"] 19 17=Ab:=by decide+kernel
theorem rS:wz Ae 1 ["triple", "#1"] 22 25=Ab:=by decide+kernel
theorem rR:wz Ae 2 ["p", "word", "number"] 91 33=Ab:=by decide+kernel
theorem rQ:wz Ae 2 ["p", "words", "rests", "#3"] 92 34=Ab:=by decide+kernel
theorem rP:wz Ae 2 ["p", "rests"] 100 347=Ab:=by decide+kernel
theorem sQ:wz Ae 2 ["points", "point"] 101 348=Ab:=by decide+kernel
theorem sP:wz Ae 2 ["points", "point", "#2"] 102 349=Ab:=by decide+kernel
theorem mP:wz Ae 2 ["p", "points", "#2"] 103 350=Ab:=by decide+kernel
theorem mO:wz Ae 2 ["_law_script", "_law_k", "_law_cell"] 109 354=Ab:=by decide+kernel
theorem mM:wz Ae 1 ["_law_script"] 110 355=Ab:=by decide+kernel
theorem mL:wz Ae 2 ["_law_p", "_law_number"] 111 93=Ab:=by decide+kernel
theorem mK:wz Ae 1 ["_law_found", "#1"] 113 356=Ab:=by decide+kernel
theorem mJ:wz Ae 1 ["_law_numbers", "#1"] 114 357=Ab:=by decide+kernel
theorem nZ:wz Ae 1 ["_law_point"] 115 358=Ab:=by decide+kernel
theorem nY:wz Ae 3 ["_law_p", "_law_triple_here", "_law_cell", "_law_times", "#4"] 116 359=Ab:=by decide+kernel
theorem nX:wz Ab 1 ["_law_error", "_law_told", "_law_names"] 117 360=Ab:=by decide+kernel
theorem nW:wz Ae 4 ["_law_script", "_law_p", "_law_k", "_law_listed", "_law_cell", "_law_point"] 120 363=Ab:=by decide+kernel
theorem nV:wz Ae 4 ["_law_word", "_law_point", "_law_listed", "_law_past", "#4"] 121 364=Ab:=by decide+kernel
theorem gA:Gz 80 Ae Nn NG Mo Mh Nr ["self"] ["self"] (HP (tp95 23) 1) (zv.defs 920)=Ab:=by decide+kernel
theorem fZ:Gz 80 Ae Nn NG Mo Mh Nr ["self"] ["self"] (HP (tp95 24) 0) (zv.defs 931)=Ab:=by decide+kernel
theorem yZ:Ny 80 Nn NG Mo Mh Nr (HP (tp95 23) 0)=Ab:=by decide+kernel
theorem kW:NE "OvalError" "triple" "triple" (OR (tp95 12))=Ab:=by decide+kernel
theorem kU:NE "OvalError" "triple" "triple" (OR (tp95 13))=Ab:=by decide+kernel
set_option maxHeartbeats 0 in
theorem all95{w:AH}{K:Fg}{h:AI}{mg:Ah->Ao Al}{fa f0 f1 f2 f3 f4 f5 f6 f7 f8 f9 f10 f11 f12 f13 f14 f15 f16 f17 f18 f19 f20 f21 f22 f23 x0 x1 x2 x3 x4 x5 x6 x7 x8 x9 x10 ix1 ix3:Ak}(X:K.In h)(G:h.Ns AO mg)(hfa:mg "law" = Aa (.ref fa)){o0 o1 o2 mt ms0 ms1 ms2 fi:Ak}{oD d0 d1 d2 d3 d4 d5 gC:Ak}{eC:Ag}{tC0 uC0 tC1 uC1 tC2 uC2 tC3 uC3 tC4 uC4 tC5 uC5 tC6 uC6 tC7 uC7 tC8 uC8 tC9 uC9 db dm de dr dh d6:Cd}{g2:Ak}{í:Ao Ak}{gm2:Ag}{gs2:Bl (Ao Al)}{ï ð ñ:Cd}{g3:Ak}{ϴ:Ao Ak}{gm3:Ag}{gs3:Bl (Ao Al)}{ò ó:Cd}{g4:Ak}{gd4:Ao Ak}{gm4:Ag}{gs4:Bl (Ao Al)}{ô õ ö ø:Cd}{gu5:Cd}(a0:yo K f0 "rest" (tp95 16))(a1:yo K f1 "turned_over" (tp95 17))(a2:yo K f2 "one_form" (tp95 19))(a3:yo K f3 "row_of" (tp95 22))(a4:yo K f4 "rest_read" (tp95 91))(a5:yo K f5 "rests_read" (tp95 92))(a6:yo K f6 "rests_of_row" (tp95 99))(a7:yo K f7 "told_by" (tp95 100))(a8:yo K f8 "put_in" (tp95 101))(a9:yo K f9 "taken_out" (tp95 102))(a10:yo K f10 "point_texts" (tp95 103))(a11:yo K f11 "_law_mixed" (tp95 109))(a12:yo K f12 "_law_prime" (tp95 110))(a13:yo K f13 "_law_triple" (tp95 111))(a14:yo K f14 "_law_texts" (tp95 113))(a15:yo K f15 "_law_text" (tp95 114))(a16:yo K f16 "_law_point_text" (tp95 115))(a17:yo K f17 "_law_rested" (tp95 116))(a18:yo K f18 "_law_refusal" (tp95 117))(a19:yo K f19 "_law_said" (tp95 118))(a20:yo K f20 "_law_field" (tp95 119))(a21:yo K f21 "_law_row" (tp95 120))(a22:yo K f22 "_law_due" (tp95 121))(a23:yo K f23 "law" (tp95 122))(Æ:OA K "Triple" o0 mt ms0 fi)(mv:OA K "Point" o1 mt ms1 fi)(Ç:OA K "Line" o2 mt ms2 fi)(kt0:fg K o0 [(o0,Ab),(o1,Ae),(o2,Ae)])(kt1:fg K o1 [(o0,Ab),(o1,Ab),(o2,Ae)])(kt2:fg K o2 [(o0,Ab),(o1,Ae),(o2,Ab)])(ii:ez K fi "Triple.__init__" (HP (tp95 23) 0))(qw:nr K mt "told" "Triple.told" (HP (tp95 23) 1))(qz:nr K ms1 "shown" "Point.shown" (HP (tp95 24) 0))(da:DA K oD d0 d1 d2 d3 d4 d5)(di:ez K d0 "Desk.__init__" (HP (tp95 107) 0))(dm1:nr K d1 "say" "Desk.say" (HP (tp95 107) 1))(dm2:nr K d2 "list_changed" "Desk.list_changed" (HP (tp95 107) 4))(dm3:nr K d3 "changed" "Desk.changed" (HP (tp95 107) 5))(dm4:nr K d4 "undone" "Desk.undone" (HP (tp95 107) 6))(dm5:nr K d5 "list_asked" "Desk.list_asked" (HP (tp95 107) 7))(nC:Bb K AO "COUNTS" = Aa (Aa (.ref gC)))(lC:K.lookup gC=Aa ⟨.type "dict",Af,.dict #[⟨Ci w.params "put",.str "put" tC0,.int 3 uC0⟩,⟨Ci w.params "take",.str "take" tC1,.int 3 uC1⟩,⟨Ci w.params "grow",.str "grow" tC2,.int 0 uC2⟩,⟨Ci w.params "five",.str "five" tC3,.int 0 uC3⟩,⟨Ci w.params "curve",.str "curve" tC4,.int 6 uC4⟩,⟨Ci w.params "undo",.str "undo" tC5,.int 0 uC5⟩,⟨Ci w.params "points",.str "points" tC6,.int 0 uC6⟩,⟨Ci w.params "look",.str "look" tC7,.int 0 uC7⟩,⟨Ci w.params "draw",.str "draw" tC8,.int 0 uC8⟩,⟨Ci w.params "kind",.str "kind" tC9,.int 0 uC9⟩,⟨Ci w.params "side",.str "side" db,.int 3 dm⟩,⟨Ci w.params "polar",.str "polar" de,.int 3 dr⟩,⟨Ci w.params "pole",.str "pole" dh,.int 3 d6⟩] eC,#[]⟩)(sC:(gC==GV)=Ae)(gc:XA K "NoRow" x0 Af)(gf:XB K "Alike" x1 ix1 "Alike.__init__" (OR (tp95 12)))(gg:XA K "TooMany" x2 Af)(gh:XB K "NotOn" x3 ix3 "NotOn.__init__" (OR (tp95 13)))(gi:XA K "NothingDone" x4 Af)(li:XA K "OvalError" x5 Af)(Ê:XO K x5)(ϭ:XE K "NoTriple" x6)(Ϯ:XE K "NoCurve" x7)(ϯ:XE K "NoCount" x8)(ϰ:XE K "OnLine" x9)(ny:XE K "NotWhole" x10)(sx0:sg K x0 [(x0,Ab),(x1,Ae),(x2,Ae),(x3,Ae),(x4,Ae),(x5,Ae)])(sx6:sg K x6 [(x0,Ae),(x1,Ae),(x2,Ae),(x3,Ae),(x4,Ae),(x5,Ae)])(sx7:sg K x7 [(x0,Ae),(x1,Ae),(x2,Ae),(x3,Ae),(x4,Ae),(x5,Ae)])(sx1:sg K x1 [(x0,Ae),(x1,Ab),(x2,Ae),(x3,Ae),(x4,Ae),(x5,Ae)])(sx3:sg K x3 [(x0,Ae),(x1,Ae),(x2,Ae),(x3,Ab),(x4,Ae),(x5,Ae)])(sx2:sg K x2 [(x0,Ae),(x1,Ae),(x2,Ab),(x3,Ae),(x4,Ae),(x5,Ae)])(sx4:sg K x4 [(x0,Ae),(x1,Ae),(x2,Ae),(x3,Ae),(x4,Ab),(x5,Ae)])(sx8:sg K x8 [(x0,Ae),(x1,Ae),(x2,Ae),(x3,Ae),(x4,Ae),(x5,Ae)])(sx9:sg K x9 [(x0,Ae),(x1,Ae),(x2,Ae),(x3,Ae),(x4,Ae),(x5,Ae)])(k9:sg K x10 [(x0,Ae),(x1,Ae),(x2,Ae),(x3,Ae),(x4,Ae),(x5,Ae)])(sx5:sg K x5 [(x0,Ab),(x1,Ab),(x2,Ab),(x3,Ab),(x4,Ab),(x5,Ab)])(gn2:Bb K AO "OF_THE_LIST" = Aa (Aa (.ref g2)))(gk2:K.lookup g2=Aa ⟨.type "tuple",í,.seq #[.str (Aj "put") ï,.str (Aj "take") ð,.str (Aj "grow") ñ] gm2,gs2⟩)(gn3:Bb K AO "MAKE_A_CURVE" = Aa (Aa (.ref g3)))(gk3:K.lookup g3=Aa ⟨.type "tuple",ϴ,.seq #[.str (Aj "five") ò,.str (Aj "curve") ó] gm3,gs3⟩)(gn4:Bb K AO "ASK_THE_CURVE" = Aa (Aa (.ref g4)))(gk4:K.lookup g4=Aa ⟨.type "tuple",gd4,.seq #[.str (Aj "kind") ô,.str (Aj "side") õ,.str (Aj "polar") ö,.str (Aj "pole") ø] gm4,gs4⟩)(gn5:Bb K AO "MOST" = Aa (Aa (.int 30 gu5)))(z0:Bb K AO "ValueError" = Aa Af)(z1:Bb K AO "all" = Aa Af)(z2:Bb K AO "isinstance" = Aa Af)(z3:Bb K AO "len" = Aa Af)(z4:Bb K AO "list" = Aa Af)(z5:Bb K AO "min" = Aa Af)(z6:Bb K AO "range" = Aa Af)(z7:Bb K AO "str" = Aa Af)(z8:Bb K AO "tuple" = Aa Af):
  ∃ fd:Bj,(∀(s:Ar)(v:Al),GC s fd ⟨[v],[]⟩ [("_law_script",v)])/\∀ base:AI,K.In base->base.Ns AO mg->Y4 l.prog w K mg base (CXR l.prog w) 10 fa fd ["_law_script"] (Nq K):=by
 obtain⟨_,F,e⟩:=a23;obtain⟨_,_,_,_,_,_,_,_,_,rfl,_,_⟩:=F.ex;cases hfa.symm.trans (A3 X G e);have XT95:XT zv.up zv.xn (lh [(12,x0),(107,x1),(15,x2),(108,x3),(17,x4),(0,x5)]) Mo Mh K mg:=by
  refine uL (aCn (gc.row λ_=>by first|exact .inr rfl|exact .inl rfl) (aCn (XB.row X G gf Ê li.n (.inl rfl) kW (λ_ _ _ _ _ _ _ _=>rfl) λ_=>rfl) (aCn (gg.row λ_=>by first|exact .inr rfl|exact .inl rfl) (aCn (XB.row X G gh Ê li.n (.inl rfl) kU (λ_ _ _ _ _ _ _ _=>rfl) λ_=>rfl) (aCn (gi.row λ_=>by first|exact .inr rfl|exact .inl rfl) (aCn (li.row λ_=>by first|exact .inr rfl|exact .inl rfl) (aNl))))))) (aCn ⟨_,rfl,A3 X G gc.n⟩ (aCn ⟨_,rfl,A3 X G gf.a.n⟩ (aCn ⟨_,rfl,A3 X G gg.n⟩ (aCn ⟨_,rfl,A3 X G gh.a.n⟩ (aCn ⟨_,rfl,A3 X G gi.n⟩ (aCn ⟨_,rfl,A3 X G li.n⟩ (aNl))))))) (aCn ⟨_,A3 X G gc.n,gc.kc,sx0⟩ (aCn ⟨_,A3 X G ϭ.n,ϭ.kc,sx6⟩ (aCn ⟨_,A3 X G Ϯ.n,Ϯ.kc,sx7⟩ (aCn ⟨_,A3 X G gf.a.n,gf.a.kc,sx1⟩ (aCn ⟨_,A3 X G gh.a.n,gh.a.kc,sx3⟩ (aCn ⟨_,A3 X G gg.n,gg.kc,sx2⟩ (aCn ⟨_,A3 X G gi.n,gi.kc,sx4⟩ (aCn ⟨_,A3 X G ϯ.n,ϯ.kc,sx8⟩ (aCn ⟨_,A3 X G ϰ.n,ϰ.kc,sx9⟩ (aCn ⟨_,A3 X G ny.n,ny.kc,k9⟩ (aCn ⟨_,A3 X G li.n,li.kc,sx5⟩ (aNl)))))))))))) ?_
  intro c q ds;show RW c ds=.bad;unfold RW;split<;>first|rfl|exact absurd rfl (q ("NoRow",12) (by decide))|exact absurd rfl (q ("Alike",107) (by decide))|exact absurd rfl (q ("TooMany",15) (by decide))|exact absurd rfl (q ("NotOn",108) (by decide))|exact absurd rfl (q ("NothingDone",17) (by decide))|exact absurd rfl (q ("OvalError",0) (by decide))
 have T:wl K mg (lh [(12,x0),(107,x1),(15,x2),(108,x3),(17,x4),(0,x5)]) Nn NG Mo Mh Nr zv 80:=⟨xN X G Æ mv Ç kt0 kt1 kt2,wY Æ mv Ç ii yZ rfl rfl rfl rfl λ_ _ _ _ _ _ _ _ _=>rfl,XT95,aCn (CC X G z0) (aCn (CC X G z1) (aCn (CC X G z2) (aCn (CC X G z3) (aCn (CC X G z4) (aCn (CC X G z5) (aCn (CC X G z6) (aCn (CC X G z7) (aCn (CC X G z8) (aNl))))))))),aCn (Qw (is:=[Aj "put",Aj "take",Aj "grow"]) (A3 X G gn2) gk2 (.cons ⟨_,rfl⟩ (.cons ⟨_,rfl⟩ (.cons ⟨_,rfl⟩ (.nil)))) (by simp)) (aCn (Qw (is:=[Aj "five",Aj "curve"]) (A3 X G gn3) gk3 (.cons ⟨_,rfl⟩ (.cons ⟨_,rfl⟩ (.nil))) (by simp)) (aCn (Qw (is:=[Aj "kind",Aj "side",Aj "polar",Aj "pole"]) (A3 X G gn4) gk4 (.cons ⟨_,rfl⟩ (.cons ⟨_,rfl⟩ (.cons ⟨_,rfl⟩ (.cons ⟨_,rfl⟩ (.nil))))) (by simp)) (aCn (tF (A3 X G gn5)) (aNl)))),aCn (Iv 2 1 (by decide+kernel) X G a0 rW) (aCn (Iv 2 9 (by decide+kernel) X G a1 rV) (aCn (Iv 2 17 (by decide+kernel) X G a2 rT) (aCn (Mt 1 25 (by decide+kernel) X G a3 rS) (aCn (Iv 2 33 (by decide+kernel) X G a4 rR) (aCn (Iv 2 34 (by decide+kernel) X G a5 rQ) (aCn (Iv 2 347 (by decide+kernel) X G a7 rP) (aCn (Iv 2 348 (by decide+kernel) X G a8 sQ) (aCn (Iv 2 349 (by decide+kernel) X G a9 sP) (aCn (Iv 2 350 (by decide+kernel) X G a10 mP) (aCn (Iv 2 354 (by decide+kernel) X G a11 mO) (aCn (Mt 1 355 (by decide+kernel) X G a12 mM) (aCn (Iv 2 93 (by decide+kernel) X G a13 mL) (aCn (Mt 1 356 (by decide+kernel) X G a14 mK) (aCn (Mt 1 357 (by decide+kernel) X G a15 mJ) (aCn (Mt 1 358 (by decide+kernel) X G a16 nZ) (aCn (zG 3 359 (by decide+kernel) X G a17 nY) (aCn (Mt 1001 360 (by decide+kernel) X G a18 nX) (aCn (Xm 4 363 (by decide+kernel) X G a21 nW) (aCn (Xm 4 364 (by decide+kernel) X G a22 nV) (aCn (Xl 920 (by decide+kernel) (KP (by decide:1<3) mv.n) mv.ft qw gA λ_ _ _ _ _ _ _=>rfl) (aCn (Xl 931 (by decide+kernel) (KP (by decide:1<3) mv.n) mv.fs qz fZ λ_ _ _ _ _ _ _=>rfl) (aNl))))))))))))))))))))))⟩
 obtain⟨_,Fi⟩:=di;obtain⟨_,Fs⟩:=dm1;obtain⟨_,Fl⟩:=dm2;obtain⟨_,Fc⟩:=dm3;obtain⟨_,Fu⟩:=dm4;obtain⟨_,Fa⟩:=dm5;obtain⟨_,Fr,er⟩:=a6;obtain⟨_,Fd,ed⟩:=a19;obtain⟨_,Ff,ef⟩:=a20;have cC:Mm l.prog w K gC KU:=sO (xs:=[("put",3,tC0,uC0),("take",3,tC1,uC1),("grow",0,tC2,uC2),("five",0,tC3,uC3),("curve",6,tC4,uC4),("undo",0,tC5,uC5),("points",0,tC6,uC6),("look",0,tC7,uC7),("draw",0,tC8,uC8),("kind",0,tC9,uC9),("side",3,db,dm),("polar",3,de,dr),("pole",3,dh,d6)]) sC lC rfl
 refine' ⟨_,?b,λbase _ _=>?g⟩
 case g=>
  have CH:=rX (P:=l.prog) (w:=w) (mg:=mg) (base:=base) (CL:=(lh [(12,x0),(107,x1),(15,x2),(108,x3),(17,x4),(0,x5)])) (n:=5) da.d (Ho Fc) (by decide+kernel) (by decide+kernel) rfl
  have LC:=pT (P:=l.prog) (w:=w) (base:=base) (n:=6) (ip:=348) (it:=349) T da.d (Ho Fl) (by decide+kernel) rfl (by decide+kernel) (by decide+kernel) (by decide+kernel) (by decide+kernel) ⟨rfl,rfl⟩ (by decide+kernel) (by decide+kernel) (by decide+kernel) da.c (Fc.binds λkV doc pm an cdv ct=>R6 λ_ _ _=>rfl) CH
  have UN:=pM (P:=l.prog) (w:=w) (base:=base) (n:=6) (txt := "there is nothing to undo") T da.d (Ho Fu) (by decide+kernel) rfl (by decide+kernel) (by decide+kernel) (by decide+kernel) (by decide+kernel) (by decide+kernel) (by decide+kernel) rfl
  have LA:=qN (P:=l.prog) (w:=w) (base:=base) (n:=6) (id:=350) T da.d (Ho Fa) (by decide+kernel) rfl (by decide+kernel) (by decide+kernel) rfl (by decide+kernel)
  have RR:=qU (P:=l.prog) (w:=w) (base:=base) (n:=6) (ir:=34) (txt := "no row of a desk") T cC (A3 X G nC) (Ho Fr) (by decide+kernel) rfl (by decide+kernel) (by decide+kernel) (by decide+kernel) (by decide+kernel) (by decide+kernel) (by decide+kernel) (λ_ _=>rfl) (by decide+kernel) (by decide+kernel) rfl
  have SA:=qR (P:=l.prog) (w:=w) (base:=base) (n:=7) (tb:=347) (cs:=gb) (ga:=4) (gm:=3) (gl:=2) (la:=laW) (lm:=lmW) (ll:=llW) T da.d (Ho Fs) (by decide+kernel) rfl (by decide+kernel) (by decide+kernel) (by decide+kernel) (by decide+kernel) (by decide+kernel) (by decide+kernel) (by decide+kernel) (by decide+kernel) (by decide+kernel) (by decide+kernel) (by decide+kernel) rfl rfl rfl (A3 X G er) Fr.kp (Fr.binds λkV doc pm an cdv ct=>KZ λ_ _=>rfl) RR da.l (Fl.binds λkV doc pm an cdv ct=>R6 λ_ _ _=>rfl) LC da.u (Fu.binds λkV doc pm an cdv ct=>W8 λ_=>rfl) UN da.a (Fa.binds λkV doc pm an cdv ct=>KZ λ_ _=>rfl) LA
  have SD:=jF (P:=l.prog) (w:=w) (base:=base) (n:=8) (tx:=356) (rf:=360) T da.d (Ho Fd) (by decide+kernel) rfl (by decide+kernel) (by decide+kernel) (by decide+kernel) (by decide+kernel) da.s (Fs.binds λkV doc pm an cdv ct=>KZ λ_ _=>rfl) SA
  have FL:=hJ (P:=l.prog) (w:=w) (base:=base) (n:=8) T da.d (Ho Ff) (by decide+kernel) rfl (by decide+kernel) (by decide+kernel) (by decide+kernel) (by decide+kernel) da.s (Fs.binds λkV doc pm an cdv ct=>KZ λ_ _=>rfl) SA
  have IN:=sY (P:=l.prog) (w:=w) (mg:=mg) (base:=base) (n:=7) da.d (Ho Fi) (by decide+kernel) rfl
  have LW:=pU (n:=8) (c1:=WK) (cB:=WJ) (c4:=OM) (s1:=Ni) (s2:=Ox) (s3:=Ll) (s6:=Nh) (bb:=NH) T da.d (Ho F) (by decide+kernel) rfl (by decide+kernel) (by decide+kernel) (by decide+kernel) (by decide+kernel) (by decide+kernel) (by decide+kernel) (by decide+kernel) (by decide+kernel) (by decide+kernel) (by decide+kernel) (by decide+kernel) (by decide+kernel) (by decide+kernel) (by decide+kernel) (by decide+kernel) da.m (A3 X G da.n) (Fi.binds λkV doc pm an cdv ct=>KZ λ_ _=>rfl) IN (A3 X G ed) Fd.kp (Fd.binds λkV doc pm an cdv ct=>KZ λ_ _=>rfl) SD (A3 X G ef) Ff.kp (Ff.binds λkV doc pm an cdv ct=>KZ λ_ _=>rfl) FL wV
  exact LW
 case b=>exact λs v=>.of_eq rfl
theorem walk95{q:AK}{loose:Ac Ah}{XP:(Ah->Ao Al)->AI->Prop}{YP:AH->AI->Prop}{d:DefRec}{K:MF->Fg}(hn:l.most=Aa 63)(ÿ:d.params.defaults=[])(hY:∀(w:AH)(h:AI),YP w h->(K w.params).In h)(F:∀(w:AH)(mg:Ah->Ao Al)(fa:Ak)(h:AI),(K w.params).In h->h.Ns AO mg->mg d.name=Aa (.ref fa) ->
   ∃ fd:Bj,(∀(s:Ar)(u:Al),GC s fd ⟨[u],[]⟩ [("_law_script",u)])/\∀ base:AI,(K w.params).In base->base.Ns AO mg->Y4 l.prog w (K w.params) mg base (CXR l.prog w) 10 fa fd ["_law_script"] (Nq (K w.params))):Z_0 q loose XP YP l.row.toRowW d [] (λf vs=>LM f vs):=
 L2.walk_of (n:=63) (k:=10) (x := "_law_script") (CX:=λw=>CXR l.prog w) (sp:=λw=>Nq (K w.params)) hn (by decide) ÿ ⟨rfl,by decide,by decide,rfl⟩ hY F (λ_ H a ns hl _ hS=>⟨a,ns,rfl,hl,hS,λ_ _ z=>z⟩) λ_ _ _ _ _ z=>sJ z
end OvC
open PySem PySem.W PyProof.Rows
set_option hygiene false
set_option maxRecDepth 100000 in
set_option maxHeartbeats 0 in
theorem PySem.Challenge.cw_ovalfield_k95_a_list_of_points_holds : PySem.Challenge.rw_ovalfield_k95_a_list_of_points.Holds := by
 refine OvC.hold95.go (λw os=>(OvC.reckA95 w os).1) (λw os=>(OvC.reckA95 w os).2.1) (λw os=>(OvC.reckA95 w os).2.2.1) (λw os=>(OvC.reckA95 w os).2.2.2.1) (λw os=>(OvC.reckA95 w os).2.2.2.2.1) (λw os=>(OvC.reckA95 w os).2.2.2.2.2.1) (λw os=>(OvC.reckA95 w os).2.2.2.2.2.2.1) (λw os=>(OvC.reckA95 w os).2.2.2.2.2.2.2.1) (λw os=>(OvC.reckA95 w os).2.2.2.2.2.2.2.2.1) (λw os=>(OvC.reckA95 w os).2.2.2.2.2.2.2.2.2) (λw os=>OvC.reck95_2 w os) ?_
 intro cq;refine OvC.walk95 (l:=PySem.Challenge.rw_ovalfield_k95_a_list_of_points) rfl rfl (λw h Y_=>Z_5 Y_) ?F
 case F=>
  intro w mg fa h KX G ka
  refine' OvC.all95 KX G ka ?a0 ?a1 ?a2 ?a3 ?a4 ?a5 ?a6 ?a7 ?a8 ?a9 ?a10 ?a11 ?a12 ?a13 ?a14 ?a15 ?a16 ?a17 ?a18 ?a19 ?a20 ?a21 ?a22 ?a23 ?Æ ?mv ?Ç ?kt0 ?kt1 ?kt2 ?ii ?qw ?qz ?da ?di ?dm1 ?dm2 ?dm3 ?dm4 ?dm5 ?nC ?lC ?sC ?gc ?gf ?gg ?gh ?gi ?li ?Ê ?ϭ ?Ϯ ?ϯ ?ϰ ?ny ?sx0 ?sx6 ?sx7 ?sx1 ?sx3 ?sx2 ?sx4 ?sx8 ?sx9 ?k9 ?sx5 ?gn2 ?gk2 ?gn3 ?gk3 ?gn4 ?gk4 ?gn5 ?z0 ?z1 ?z2 ?z3 ?z4 ?z5 ?z6 ?z7 ?z8
  case a0|a1|a2|a3|a4|a5|a6|a7|a8|a9|a10|a11|a12|a13|a14|a15|a16|a17|a18|a19|a20|a21|a22|a23=>(refine' Ov.fni ?a ?l ?c ?k;(case a=>k_is);(case l=>k_is);(case c=>k_is);(case k=>k_is))
  case Æ|mv|Ç=>(refine' Ov.oa_mk ?n ?i ?ft ?fs ?q1 ?q2 ?q3 ?q4 ?q5 ?q6 ?q7 ?q8 ?q9 ?r1 ?r2 ?r3 ?r4 ?r5 ?r6;(case n=>k_is);(case i=>k_is);(case ft=>k_is);(case fs=>k_is);(case q1|q2|q3|q4|q5|q6|q7|q8|q9|r1|r2|r3|r4|r5|r6=>k_is))
  case kt0|kt1|kt2=>(refine' Ov.aCn ?q0 (Ov.aCn ?q1 (Ov.aCn ?q2 Ov.aNl));(case q0|q1|q2=>dsimp only;kit_is))
  case ii=>(refine' Ov.ini_mk ?l ?m ?k;(case l=>k_is);(case m=>k_is);(case k=>k_is))
  case qw|qz=>(refine' Ov.mei ?l ?m ?k;(case l=>k_is);(case m=>k_is);(case k=>k_is))
  case da=>(refine' Ov.da_mk ?n ?i ?a1 ?a2 ?a3 ?a4 ?a5 ?p1 ?p2 ?p3 ?p4 ?p5 ?p6 ?p7 ?p8 ?p9 ?p10 ?wp ?vw ?ui ?tm ?tz ?t4 ?uw ?t5 ?oq ?mz ?m6;(case n=>k_is);(case i=>k_is);(case a1=>k_is);(case a2=>k_is);(case a3=>k_is);(case a4=>k_is);(case a5=>k_is);(case p1|p2|p3|p4|p5|p6|p7|p8|p9|p10|wp|vw|ui|tm|tz|t4|uw|t5|oq|mz|m6=>k_is))
  case di=>(refine' Ov.ini_mk ?l ?m ?k;(case l=>k_is);(case m=>k_is);(case k=>k_is))
  case dm1|dm2|dm3|dm4|dm5=>(refine' Ov.mei ?l ?m ?k;(case l=>k_is);(case m=>k_is);(case k=>k_is))
  case nC=>k_is
  case lC=>k_is
  case sC=>rfl
  case gc|gg|gi|li=>(refine' Ov.xa_mk ?n (Ov.xcls_l ?e) ?d ?f ?g ?r ?a ?b ?c ?o ?h ?v;(case n=>k_is);(case e=>k_exc);(case d=>kernel_rfl);(case f|g|r|a|b|c|o|h|v=>k_is))
  case gf|gh=>(refine' Ov.XB.mk ?i (Ov.xa_mk ?n ?e ?d ?f ?g ?r ?a ?b ?c ?o ?h ?v) (Ov.ini_mk ?l ?m ?k) ?t ?s;(case n=>k_is);(case i=>k_is);(case l=>k_is);(case e|d=>kernel_rfl);(case m|k|t|s|f|g|r|a|b|c|o|h|v=>k_is))
  case ϭ|Ϯ|ϯ|ϰ|ny=>(refine' Ov.XE.mk ?a ?b ?c;(case a=>k_is);(case b|c=>k_is))
  case Ê=>(refine' Ov.XO.mk ?a ?b ?c;(case a|b|c=>k_is))
  case sx0|sx6|sx7|sx1|sx3|sx2|sx4|sx8|sx9|k9|sx5=>(refine' Ov.aCn ?q0 (Ov.aCn ?q1 (Ov.aCn ?q2 (Ov.aCn ?q3 (Ov.aCn ?q4 (Ov.aCn ?q5 (Ov.aNl))))));(case q0|q1|q2|q3|q4|q5=>dsimp only;k_is))
  case gn2|gk2|gn3|gk3|gn4|gk4|gn5|z0|z1|z2|z3|z4|z5|z6|z7|z8=>k_is
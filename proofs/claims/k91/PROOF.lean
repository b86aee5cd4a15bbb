import PyProof.Rows.All
import Wide.All
import OpenK.AllK
import Wide.FinOn
import PyProof.EqAt
import KE.KSortTup
import PyProof.EqKinds
import PyProof.TupleCall
import Lean
import PyProof.Rows.SortRuns
import KE.KSortAsk
import KE.KStateDown
import KE.KRevIter
import PyProof.FactsAll.range_2
import PyProof.FactsAll.set_1
import PyProof.FactsAll.set_2
import PySem.Challenge.RW_ovalfield_k91_drawn_and_seen
set_option Elab.async false
set_option linter.all false
set_option maxRecDepth 100000
set_option maxHeartbeats 4000000
open Bool renaming true→Aa,false→Af,and_eq_true→An,false_ne_true→AE,not_eq_true'→Cd,or_eq_true→CM,eq_iff_iff→E0,and_false→FL,or_false→F9,false_eq_true→G4,and_true→Hc
open Option renaming some→Ab,none→Ad,bind_eq_some_iff→DW,map_some→Il,map→Wc
open _root_ renaming List→Ac,Nat→Ae,Int→Ag,Bool→Aj,Option→Ao,if_pos→Ar,if_neg→As,Array→Au,decide_eq_true_eq→AZ,of_decide_eq_true→A9,False→Bj,beq_iff_eq→BC,decide_eq_false→BH,decide_eq_true→BJ,dif_neg→Cq,beq_self_eq_true→CA,or_false→CB,String→CO,StateT→Er,beq_eq_false_iff_ne→ER,Decidable→E1,not_or→Fi,decide_eq_false_iff_not→FU,Unit→Hg,PUnit→Im,True→Iw,bne_iff_ne→Kz,if_false→Mr,decide_eq_true_iff→tY
open PySem renaming wpAny_bind→Ah,Value→Ai,Str→Ak,Addr→Al,Expr→Am,Shared→Ap,wpAny_pure→At,wpAny→Az,starEach→AI,Heap→AM,Program→AR,World→AT,Around→AU,Pos→A3,mainGlobals→A8,Stmt→Bm,sizeLine_eq→Bz,wpAny_field→BY,wpAny_call_entry→B0,wpAny_setState_of→B6,cLine→B8,Scope→Ce,Tok→Cf,binaryOp→Ch,wpAny_callSpecial?_slot→Ci,FuncData→Cn,rawInt→Cr,IsTupleKey→Ct,wpAny_mono→Cu,backTo→Cz,wpAny_newObj_type→CG,mem_of_lookup→CI,intKind→CS,Env→CY,bootBuiltins→CZ,compareOp→C0,wpAny_seqItems→Da,Obj→De,foldedSetIterable→Dh,wpAny_truthy_bool→Di,wpAny_of_eq→Do,wpAny_askSetting→Ds,cellsFrom→Dy,Sem→DJ,CmpOp→DX,wpAny_setField→D7,wpAny_setField_rec→Eg,Keyword→Ei,codeAny_builtin→Ek,SetTable→En,wpAny_holding→Eo,assignEach→EB,swapsWith→EI,GenState→EM,IsPair→EN,NameKind→EO,wpAny_attempt→EY,pyNext→E4,Model→Fn,codeAny→FA,wpAny_passesOwn→FF,wpAny_pyIter_list→F0,IsRangeIter→F6,wpAny_pyIter_rangeiter→F8,IsZip→Ga,attributeBase→Gb,plainId_quiet→Gc,wpAny_onRaise→Gd,Operator→Gh,wpAny_isInstance→Gi,wpAny_pyIter_zip→Gj,PassesOwn→Gv,codeAny_mono→GE,letOwnedTupleGo→GF,wpAny_rule→GH,wpAny_updateSeq_pair→GI,wpAny_setEntries_of→GR,firstArgMember→GX,isSubtype_type→GY,keywordEach→G3,pickOrder→G8,pushCells→G9,pyIter→Ha,wpAny_Call_Name_kw→Hb,behindInMarks→He,setSearchFrom→Hf,ofAClassStatement→HA,BindsTo→HB,callerA→HC,Paired→HK,wpAny_forIn_list→HL,codeAny_of_tree→Iq,pushCells_keeps→Ir,wpAny_specialOf→Iu,OsState→IK,Result→IL,isSubtype_stop→IP,isTrue→IQ,newFunctionEnv→IR,notedBy→IS,Drawn→IV,backToKw→IW,bindC→IX,bindL→IY,builtinsNs→IZ,call_meets→Ja,numAt→Jb,Comprehension→Jp,wpAny_newList→Ju,JoinOk→Jz,concat_meets→JC,noteFrame→JD,putSet_of→JE,setSearch→JF,wpAny_typeOf→JG,UnaryOp→JS,hashByValue→JY,wpAny_letGo→JZ,setField→J2,call→Kv,sysModules→Kw,typeIs_str→Kx,wpAny_Name→Ky,setNext→KA,Fin→Ln,IntMulOk→Lq,Params→Lr,argsOk→Lu,bindArgs→Lv,entryFor→Lw,intItems→Lx,raiseNew→Ly,setRelay→Lz,builtinLookup_eq_fast→XX,checkBuiltinCall→XY,entryFor_alias→XZ,noFill_tuple_add→X0,recursionLimit→X4,searchCouldBeSeen→X5,typeLookup_type→X6,wpAny_assign_Name→X7,wpAny_comprehension_free→X8,wpAny_eqBool_int→X9,wpAny_eqIsQuiet_tuple→Yb,wpAny_execs_nil→Yc,wpAny_fieldsOf→Yd,wpAny_letOwnedTupleGo_zip→Ye,wpAny_newTuple→Yg,wpAny_pyIter_range→Yh,wpAny_pyIter_slot→Yi,wpAny_pyIter_tuple→Yj,wpAny_pyNext_range_end→Yk,wpAny_runValue→Yl,wpAny_storeSet_of→Ym
open PySem.Heap renaming get?_push_of_some→Aq,get?_push_size→AD,lt_size→AJ,size_push→Ba,get?_update_other→Co,get?_update_self→Cv,SameBut→Ee,get?_update_ne→EQ,size_update→Fm,get?_push_ne→FY,get?_none_of_le→GC,ExtBut→JV,get?_push_cases→Xk
open PyProof.Rows renaming Keyed→Av,wpS_bind→Ax,arrOf→Ay,wpS_pure→AC,SortSt→AY,pendingOf→Bh,wpS→Bl,callWith_type1→BL,wpS_forRange→BM,seqObj→CD,wpS_mono→CW,failedOf→D6,wpS_modify→EA,SortKind→EL,IntsAre→EX,envOfC→Fu,AllBare→FM,wpS_get→FN,listUpdate_at→Hd,get?_update_seq→Io,Call_→IT,boot_range→IU,IsTup→Lo,args_list_sort→Wf,boot_int→Wg,boot_list→Wh,boot_sorted→Wi,boot_tuple→Wj,callWith_builtin1→Wk,entry_list_sort→Wl,slot_list_sort→Wm,subscriptTail_builtinR→Wn
open Nat renaming le_refl→Aw,lt_of_lt_of_le→AS,ne_of_lt→AV,lt_irrefl→Bb,lt_succ_of_lt→Bs,zero_le→BD,le_trans→CV,le_of_lt_succ→Dd,zero_add→DF,lt_or_eq_of_le→Ec,zero_max→Ed,ne_of_gt→EK,le_of_ble_eq_true→Fa,le_of_lt→Fb,lt_succ_self→Fl,ble→Fx,lt_trichotomy→FW,add_zero→GB,lt_of_le_of_lt→G6,le_of_eq→Jw,sub_self→Jx,le_succ→JU,mod_lt→Ks,ble_eq→V3,div_div_eq_div_mul→V4,le_add_right→V5,lt_succ_of_le→V6,lt_trans→V7,min_self→V8,not_lt→V9,pow_le_pow_right→Wa,succ_pos→Wb
open List renaming getElem?_eq_getElem→AA,range→AB,mem_cons_of_mem→AF,length_map→AH,mem_cons→AK,mem_cons_self→AL,size_toArray→AN,getElem?_eq_some_iff→AW,getD_eq_getElem?_getD→A4,mem_singleton→A5,length_cons→A7,map_map→Bc,not_mem_nil→Bf,mem_map→Bi,length_append→Bp,mem_append_right→Bq,all_eq_true→Br,getElem?_append_right→Bv,append_nil→Bw,getElem?_map→Bx,length_set→By,mem_range→BA,pairwise_iff_getElem→BF,filterMap_cons→BW,map_congr_left→BX,extract_eq_drop_take→B7,getElem_of_mem→Cc,lookup_cons→Cm,append_assoc→Cs,map_cons→CC,getElem?_append_left→CN,take_append_drop→CQ,filter_cons→CT,getElem_mem→CU,pairwise_map→Dc,getElem?_set_self→Dl,toArray→Dm,drop_eq_getElem_cons→Dz,mem_append→DC,mem_filter→DD,nodup_cons→DE,length_range→DP,reverse_append→DY,any_eq_true→DZ,ext_getElem→D4,length_take→D5,pairwise_cons→Eb,getElem?_toArray→Eh,isEmpty_eq_false_iff→Ew,mem_of_getElem?→Ey,pairwise_append→Ez,range'→EH,length_drop→EJ,all_cons→EW,map_append→E3,range_succ_eq_map→E5,getElem?_eq_none→E9,getElem_map→Fj,reverse_reverse→Fk,length→Fw,all_map→FG,getElem?_set_self'→FQ,drop_of_length_le→F4,take_of_length_le→F5,nil_sublist→Gf,pairwise_reverse→Gu,getElem?_set_ne→Gy,mem_append_left→Gz,range_eq_range'→GA,getElem?_range→GQ,drop_drop→GS,drop_zero→GU,forIn_nil→GV,replicate→GW,getElem?_drop→G5,mem_range'_1→Hv,reverse_perm→Hw,isEmpty_iff→HH,zipIdx_cons→HJ,forIn_cons→Ii,of_mem_zip→Ij,range_succ→Ik,nodup_nil→II,take_zero→IJ,any_map→Vz,cons_ne_nil→VA,contains_eq_mem→VB,drop_eq_nil_of_le→VC,eq_nil_of_length_eq_zero→VD,filterMap→VE,filter_append→VF,flatten_cons→VG,foldl_cons→VH,getElem?_replicate→VI,getElem?_take→VJ,getElem_drop→VL,getElem_inj→VM,getElem_take→VN,length_pos_iff→VO,length_replicate→VP,length_singleton→VQ,lookup→VR,map_id→VS,mem_filterMap→VT,mem_reverse→VU,nil_append→VV,nodup_range→VW,perm_ext_iff_of_nodup→VY,reverse_cons→VZ,set_set→V0,take_succ_eq_append_getElem→V1,zipIdx_nil→V2
open PySem.Value renaming none→AG,ref→Bu,type→Fo,int→Ip,builtin→Js,bool→XF,str→XG
open Array renaming length_toList→AQ,toList_append→Be,getD_eq_getD_getElem?→Bt,getElem?_eq_getElem→BE,getElem?_toList→BR,size_push→BU,getElem_toList→C5,toList_extract→C6,toList_push→Db,getD→D8,mem_toList_iff→Et,toList_reverse→Eu,size_extract→EZ,getElem?_eq_some_iff→Ft,toList_inj→Ge,size_append→Ht,replicate→Ih,toList→Jv,ext'→Kr,forIn_toList→Vf,getElem?_eq_none→Vg,getElem_extract→Vh,mem_iff_getElem→Vi,perm_iff_toList_perm→Vj,size_setIfInBounds→Vk,toList_setIfInBounds→Vl
open PySem.Str renaming ofString→AX
open Option.some renaming inj→Bg
open PySem.W renaming mg_none_of→BB,nsIn→BO,findIn→Cw,keepIn→C9,emptyDict→Dg,fnOf→Ef,instObj→Ej,codeIn→FP,OpenLaw→F7,methodObj→Hz,lookIn→IN,mg_of→Jt,WalkO→XJ,cellsFrom_some→XM,kIn_of→XN,kitOne→XO,plainGet→XQ,subIn→XS
open PySem.Builtin.SmallTypes renaming nextOf→BG,ownedTupleIsFree→C8,ownedTupleHandOut→Wt
open PySem.Builtin.Range renaming rangeFitsLong→BN,rangeSize→FS
open PySem.Obj renaming mapSeq→BV,data_mapFields→Ca,isFreed_of_fields→Dv,mapFields→Fv,cls_mapFields→FZ,putSet→Xl
open PySem.NameKind renaming cell→BZ,free→Em
open PySem.SetTable.probe renaming go→B5
open PySem.SetTable renaming insertAt→CF,bits→C4,below→Dx,turns→Fd,runEnd→FE,grown→FO,layClean→Hy,Probe→IM,fill→Jq,has→JB,advance→Xp,laid→Xr,sizeAbove→Xs,tooFull→Xu
open PySem.Heap.SameBut renaming update→CH,refl→Xj
open Int renaming emod_emod_of_dvd→C7,emod_lt_of_pos→Du,emod_nonneg→DB,mul_emod→Ea,dvd_refl→E8,emod_eq_of_lt→FV,mul_comm→Gw,toNat_natCast→Hu,one_mul→JT,eq_ofNat_of_zero_le→Vo,le_trans→Vp,mul_assoc→Vr,mul_one→Vs,mul_zero→Vt,ne_of_gt→Vu,sub_zero→Vv,zero_add→Vw,zero_emod→Vx
open PySem.Around renaming under_plainId→DG
open PySem.Builtin.List renaming listTooLong→DH,listExtendWith→Wr,listSameRef→Ws
open PySem.F renaming slot_zip_next→DI,slot_tuple_iterator_next→El,slot_list_extend→Fc,plainAttrs_list→FT,args_zip_next_1→FX,entry_zip_next→Gg,args_list_extend_2→W1,args_object_init_3→W2,args_tuple_add_2→W3,args_tuple_iterator_next_1→W4,called_zip→W5,entry_list_extend→W6,entry_tuple_add→W7,entry_tuple_iterator_next→W8,entry_zip_new→W9,newCall_zip_2→Xa,plain_list_iadd→Xb,plain_reversed_new→Xc,plain_set_new→Xd,slot_set_iter→Xe,slot_str_join→Xf,slot_tuple_add→Xg,typeCall_zip_2→Xh,type_list_extend→Xi
open Ne renaming symm→DQ
open PySem.SetTable.layClean renaming free→D9
open False renaming elim→Ev
open ForInStep renaming yield→E2
open Classical renaming choose_spec→E7,choose→Vm
open List.Perm renaming of_eq→FD,trans→Gx,append→HG,cons→IG,refl→IH,append_left→Vy
open PyProof.Rows.F renaming plain_set_update_loop→FR,entry_set_update_loop→Wd
open PySem.SeqAt renaming EqAt→GD,RcNeAt→JA,RcAt→Ku
open PySem.Calls renaming spliced_cons→G7,spliced_nil→Hx,Name_function_global→Wv,call_function_entry→Ww
open Sum renaming inl→HE,inr→HF
open PySem.Shared renaming TypeIs→Jr,heap→JX
open PySem.Data renaming cell→Jy,seq→Lp,fields→Wx
open PySem.IsRange renaming new→JW
open PyProof.Rows.SortSt renaming mk'→Kt
open NeZero renaming ne→Lm
open PySem.Txt renaming join→Ls
open Function renaming comp_def→Vn
open PyProof.Rows.IsTup renaming new→We
open PyProof renaming noPylong_small→Wo
open PySem.AutoSeq1 renaming wpAny_loadPart'→Wp
open PySem.Builtin.Int renaming intBits→Wq
open PySem.Builtin.Str renaming strSliceIndices→Wu
open PySem.EntryCells renaming newEntry→Wy
open PySem.Expr renaming Attribute→Wz,BinOp→WB,BoolOp→WD,Call→WG,Compare→WI,Constant→WK,IfExp→WM,List→WO,ListComp→WQ,Name→WS,Subscript→WU,Tuple→WW,UnaryOp→WY
open PySem.Expr.Attribute renaming elim→WA
open PySem.Expr.BinOp renaming elim→WC
open PySem.Expr.BoolOp renaming elim→WE
open PySem.Expr.Call renaming elim→WH
open PySem.Expr.Compare renaming elim→WJ
open PySem.Expr.Constant renaming elim→WL
open PySem.Expr.IfExp renaming elim→WN
open PySem.Expr.List renaming elim→WP
open PySem.Expr.ListComp renaming elim→WR
open PySem.Expr.Name renaming elim→WT
open PySem.Expr.Subscript renaming elim→WV
open PySem.Expr.Tuple renaming elim→WX
open PySem.Expr.UnaryOp renaming elim→WZ
open PySem.Paired renaming length→Xm
open PySem.SeqAt.EqAt renaming of_refs→Xn,same→Xo
open PySem.SetTable.below renaming go→Xq
open PySem.Stmt renaming Assign→Xv,Expr→Xy,Return→XD
open PySem.Stmt.Assign renaming elim→Xx
open PySem.Stmt.Expr renaming elim→Xz
open PySem.Stmt.For renaming elim→XB
open PySem.Stmt.If renaming elim→XC
open PySem.Stmt.Return renaming elim→XE
open PySem.W.WData renaming int→XH
open PySem.W.WShape renaming has→XI
open PySem.Walks renaming list→XU,range→XV
open PySem.pickOrder renaming go→X3
open String renaming splitOn→Yn,splitOnAux→Yo
abbrev Fg:=PySem.W.Frag
abbrev Pn:=Ac (PySem.Addr×PySem.Obj)
abbrev Vq:=PySem.Value->PySem.Shared->Prop
set_option genSizeOfSpec false
-- CHANGE: your row's module here,as the last of these rows
namespace L2
open PySem PySem.Spec PyProof.Rows
abbrev Key:=Sum Ag Ak
noncomputable def Uw:Key->Ai->Aj
 |.inl k,v=>Value.isInt k v
 |.inr x,v=>Value.isStrOf x v
noncomputable def tD(w:AT):Key->Ag
 |.inl k=>hashInt k
 |.inr x=>hashStr w x
theorem Jg:∀{k:Key}{v:Ai},Uw k v=Aa->(∃ i t,k=HE i/\v=Ip i t)\/(∃ x t,k=HF x/\v=XG x t)
 |.inl i,v,h=>by
  obtain⟨t,e⟩:=Value.isInt_shape (k:=i) (v:=v) h;exact .inl ⟨i,t,rfl,e⟩
 |.inr x,v,h=>by
  obtain⟨t,e⟩:=Value.isStrOf_shape (x:=x) (v:=v) h;exact .inr ⟨x,t,rfl,e⟩
theorem lF(a b:Ag):decide ((HE a:Key)=HE b)=(a==b):=by
 by_cases e:a=b
 .subst e;simp
 .have h:¬ (HE a:Key)=HE b:=λq=>e (Sum.inl.inj q)
  rw[BH h];exact(ER.mpr e).symm
theorem lC(a b:Ak):decide ((HF a:Key)=HF b)=decide (a=b):=by
 by_cases e:a=b
 .subst e;simp
 .have h:¬ (HF a:Key)=HF b:=λq=>e (Sum.inr.inj q)
  rw[BH h,BH e]
theorem lE(a:Ag)(b:Ak):decide ((HE a:Key)=HF b)=Af:=BH (λq=>nomatch q)
theorem lD(a:Ak)(b:Ag):decide ((HF a:Key)=HE b)=Af:=BH (λq=>nomatch q)
noncomputable def OT(prog:AR)(w:AT):PySem.KeyKind prog w Key where
 is:=Uw
 hash:=tD w
 inj:=λv a b ha hb=>by
  rcases Jg ha with ⟨i,t,rfl,rfl⟩|⟨x,t,rfl,rfl⟩
  .rcases Jg hb with ⟨j,u,rfl,e⟩|⟨y,u,rfl,e⟩
   .injection e with e1 _;rw[e1]
   .exact nomatch e
  .rcases Jg hb with ⟨j,u,rfl,e⟩|⟨y,u,rfl,e⟩
   .exact nomatch e
   .injection e with e1 _;rw[e1]
 byValue:=λk v h=>by
  rcases Jg h with ⟨i,t,rfl,rfl⟩|⟨x,t,rfl,rfl⟩<;>rfl
 pyHash:=λhv h=>by
  rcases Jg hv with ⟨i,t,rfl,rfl⟩|⟨x,t,rfl,rfl⟩
  .exact wpAny_pyHash_int h
  .exact wpAny_pyHash_str h
 eqBool:=λhu hv h=>by
  rcases Jg hu with ⟨i,t,rfl,rfl⟩|⟨x,t,rfl,rfl⟩
  .rcases Jg hv with ⟨j,u,rfl,rfl⟩|⟨y,u,rfl,rfl⟩
   .rw[lF]at h;exact X9 h
   .rw[lE]at h;exact SeqAt.EqAt.int_str i t y u _ _ _ _ h
  .rcases Jg hv with ⟨j,u,rfl,rfl⟩|⟨y,u,rfl,rfl⟩
   .rw[lD]at h;exact SeqAt.EqAt.str_int x t j u _ _ _ _ h
   .rw[lC]at h;exact wpAny_eqBool_str h
 «strs»:=λk x t v h=>by
  rcases Jg h with ⟨i,u,rfl,e⟩|⟨y,u,rfl,e⟩
  .exact nomatch e
  .injection e with e1 _
   subst e1;cases v<;>rfl
end L2
namespace L2
open PySem PySem.Spec PyProof.Rows
variable{us:Ac Ai}{a b it dx:Al}{P:AR}{h:AM}{o:De}{g':Au EM}{t' i k n:Ae}{d':IV}{ch fp:Ac Al}{x qual:Ak}{M:Fn}{u:Ai}{Q:Hg->Ap->Prop}{e c tg:Am}{s:Ap}{pos p:A3}{pins:Pn}{es:Ac Am}{body:Ac Bm}{f:Ai->Ai->DJ Ai}{g:Ag->Ag->Ag}{op:DX}{mA:Ak->Ao Ai}{fd:Cn}{ps:Ac Ak}{scope:Ce}
inductive V where
 |non|bl (b:Aj)|int (i:Ag)|str (x:Ak)|byt (b:Au UInt8)|flt (b:UInt64)|ref (a:Al)|ty (n:CO)
 deriving DecidableEq
variable{xs vs:Ac V}{v:V}
def BP:V->Ai->Prop
 |.non,u=>u=AG
 |.bl b,u=>u=XF b
 |.int i,u=>∃ t,u=Ip i t
 |.str x,u=>∃ t,u=XG x t
 |.byt b,u=>∃ t,u=Value.bytes b t
 |.flt b,u=>∃ t,u=Value.float b t
 |.ref a,u=>u=Bu a
 |.ty n,u=>u=Fo n
noncomputable abbrev A6:Ac V->Ac Ai->Prop:=HK BP
theorem A6.length(r:A6 xs us):xs.length=us.length:=Xm r
theorem A6.get:∀{xs:Ac V}{us:Ac Ai}{i:Ae}{x:V},A6 xs us->xs[i]?=Ab x->∃ u,us[i]?=Ab u/\BP x u
 |_,_,_,_,.nil,e=>by simp at e
 |_,_,0,_,.cons r _,e=>by simp at e;subst e;exact⟨_,rfl,r⟩
 |_,_,i+1,x,.cons _ t,e=>by
  obtain⟨u,h1,h2⟩:=A6.get (i:=i) (x:=x) t (by simpa using e)
  exact⟨u,by simpa using h1,h2⟩
theorem A6.set{x:V}{u:Ai}(r:BP x u):∀{xs:Ac V}{us:Ac Ai}(i:Ae),A6 xs us->A6 (xs.set i x) (us.set i u)
 |_,_,_,.nil=>.nil
 |_,_,0,.cons _ t=>.cons r t
 |_,_,i+1,.cons q t=>.cons q (A6.set r i t)
theorem A6.append:∀{xs ys:Ac V}{us ws:Ac Ai},A6 xs us->A6 ys ws->A6 (xs++ys) (us++ws)
 |_,_,_,_,.nil,s=>s
 |_,_,_,_,.cons r t,s=>.cons r (A6.append t s)
theorem A6.take:∀{xs:Ac V}{us:Ac Ai}(n:Ae),A6 xs us->A6 (xs.take n) (us.take n)
 |_,_,0,_=>.nil
 |_,_,_+1,.nil=>.nil
 |_,_,n+1,.cons r t=>.cons r (A6.take n t)
theorem A6.drop:∀{xs:Ac V}{us:Ac Ai}(n:Ae),A6 xs us->A6 (xs.drop n) (us.drop n)
 |_,_,0,r=>r
 |_,_,_+1,.nil=>.nil
 |_,_,n+1,.cons _ t=>A6.drop n t
def Vc:Ao V->Ao Ai->Prop
 |some v,Ab u=>BP v u
 |none,Ad=>Iw
 |_,_=>Bj
def KV{κ:Type}:Ac (κ×V)->Ac (κ×Ai)->Prop:=HK fun(p:κ×V)(q:κ×Ai)=>p.1=q.1/\BP p.2 q.2
noncomputable def kV:Key->V
 |.inl i=>.int i
 |.inr x=>.str x
inductive HO where
 /-- a list -/
 |lst (xs:Ac V)
 /-- a tuple (never changes) -/
 |tup (xs:Ac V)
 /-- a dict whose keys are ints and texts;one whose keys are tuples of ints and texts (the empty one is both) -/
 |dK (kvs:Ac (Key×V))|dT (kvs:Ac (Ac Key×V))
 /-- a set of ints: its members,its size -/
 |set (S:Ag->Aj) (n:Ae)
 /-- an instance of the class at C,its dict at dx,its attributes -/
 |ins (C dx:Al) (fs:Ac (Ak×V))
 /-- the dict of the instance at x -/
 |own (x:Al)
 /-- the dict of an exception -/
 |xd (fs:Ac (Ak×V))
 /-- a bound method,f of x -/
 |met (f x:Al)
 /-- a range object lo,lo+1,.. below hi -/
 |rng (lo hi:Ag)
 /-- a thing that is known to the object (the script;a dict while a loop walks it): read,never written while it is so -/
 |frz (o:De) (u:HO)
 /-- a code object's table -/
 |tbl (ps:Au Ai)
 /-- any other thing,by what is Aa of its one object (a def of one's own: SetO a S n:=HO.ext fun h=>..) -/
 |ext (φ:AM->Prop)
abbrev Hp:=Al->Ao HO
variable{H:Hp}
noncomputable def upd(H:Hp)(a:Al)(o:HO):Hp:=λb=>if b=a then Ab o else H b
theorem Jc{o:HO}:upd H a o a=Ab o:=by unfold upd;rw[Ar rfl]
theorem Dq{o:HO}(h:b≠a):upd H a o b=H b:=by unfold upd;rw[As h]
theorem Gk{o:HO}(h:H a=Ab o)(h':H b=Ad):a≠b:=by
 intro e;subst e;rw[h]at h';cases h'
section
variable(P:AR)(w:AT)
def ObjOk(H:Hp)(h:AM)(a:Al):HO->Prop
  |.lst xs=>xs.length<=sizeLine/\∃(its:Ac Ai)(n:Ae),A6 xs its/\h.get? a=Ab { cls:=.type "list",data:=.seq its.toArray n }
  |.tup xs=>xs.length<=sizeLine/\∃ its:Ac Ai,A6 xs its/\Lo h a its.toArray
  |.dK kvs=>kvs.length<=sizeLine/\(a==Kw)=Af/\∃ vs,KV kvs vs/\h.DictOf (OT P w) a vs
  |.dT kvs=>kvs.length<=sizeLine/\(a==Kw)=Af/\∃ xs:Ac (Ac Key×Al×Ai),
      HK (fun(p:Ac Key×V)(q:Ac Key×Al×Ai)=>p.1=q.1/\H q.2.1=Ab (.tup (p.1.map kV))/\BP p.2 q.2.2) kvs xs /\
      ∃ o es ep,h.get? a=Ab o/\o.ExactDict/\o.data=.dict es ep/\es.toList=xs.map (entryOfKey (tupleKind (OT P w)))/\(xs.map (·.1)).Nodup
  |.set S n=>h.SetOf (CS P w) a S n
  |.ins C dx fs=>H dx=Ab (.own a)/\fs.length<=1000/\dx≠a/\h.get? a=Ab (Ej C dx) /\
      ∃ mA,h.Ns1 dx mA/\(∀ f,Vc (fs.lookup f) (mA f))/\PySem.Within mA (fs.map (·.1))
  |.own _=>∃ o,h.get? a=Ab o
  |.xd fs=>∃ mA,h.Ns1 a mA/\∀ f,Vc (fs.lookup f) (mA f)
  |.rng lo hi=>∃ t u v,h.get? a=Ab { cls:=.type "range",data:=.fields #[.int lo t,.int hi u,.int 1 v] }
  |.frz o u=>h.get? a=Ab o/\ObjOk H h a u
  |.tbl ps=>h.get? a=Ab {cls:=.none,data:=.fields ps}
  |.met f x=>h.get? a=Ab (Hz (.ref f) (.ref x))
  |.ext φ=>φ h/\(∃ o,h.get? a=Ab o)/\∀ h1 h2:AM,φ h1->(∀ o,h1.get? a=Ab o->h2.get? a=Ab o)->φ h2
def HOk(H:Hp)(h:AM):Prop:=∀ a o,H a=Ab o->ObjOk P w H h a o
end
section
variable{P:AR}{w:AT}{H H':Hp}{h h':AM}{a:Al}{o:HO}
theorem ObjOk.lt(x:ObjOk P w H h a o):a<h.objs.size:=by
 cases o with
 |lst xs=>obtain⟨_,_,_,_,e⟩:=x;exact AJ e
 |tup xs=>obtain⟨_,_,_,p⟩:=x;exact p.lt
 |dK kvs=>obtain⟨_,_,_,_,o,_,_,e,_⟩:=x;exact AJ e
 |dT kvs=>obtain⟨_,_,_,_,o,_,_,e,_⟩:=x;exact AJ e
 |set S n=>obtain⟨o,_,_,_,e,_⟩:=x;exact AJ e
 |ins C dx fs=>obtain⟨_,_,_,e,_⟩:=x;exact AJ e
 |own y=>obtain⟨_,e⟩:=x;exact AJ e
 |xd fs=>obtain⟨_,⟨_,_,_,e,_⟩,_⟩:=x;exact AJ e
 |rng lo hi=>obtain⟨_,_,_,e⟩:=x;exact AJ e
 |frz ob u=>obtain⟨e,_⟩:=x;exact AJ e
 |tbl ps=>exact AJ (show h.get? a=Ab _ from x)
 |met f y=>exact AJ (show h.get? a=Ab _ from x)
 |ext φ=>obtain⟨_,⟨_,e⟩,_⟩:=x;exact AJ e
theorem HK.mapP{α β:Type}{F G:α->β->Prop}:∀{l₁:Ac α}{l₂:Ac β},HK F l₁ l₂->(∀ a b,F a b->G a b)->HK G l₁ l₂
 |_,_,.nil,_=>.nil
 |_,_,.cons r t,f=>.cons (f _ _ r) (HK.mapP t f)
theorem ObjOk.stay(x:ObjOk P w H h a o)(k:∀ b u,(b=a\/H b=Ab (.own a))->h.get? b=Ab u->h'.get? b=Ab u)(ho:∀ b,H b=Ab (.own a)->H' b=Ab (.own a))(ht:∀ b xs,H b=Ab (.tup xs)->H' b=Ab (.tup xs)):ObjOk P w H' h' a o:=by
 induction o with
 |lst xs=>obtain⟨z,its,n,r,e⟩:=x;exact⟨z,its,n,r,k _ _ (.inl rfl) e⟩
 |tup xs=>obtain⟨z,its,r,ob,e,c⟩:=x;exact⟨z,its,r,ob,k _ _ (.inl rfl) e,c⟩
 |dK kvs=>obtain⟨z,y,vs,r,ob,es,ep,e,c⟩:=x;exact⟨z,y,vs,r,ob,es,ep,k _ _ (.inl rfl) e,c⟩
 |dT kvs=>
  obtain⟨z,y,xs,r,ob,es,ep,e,c⟩:=x;exact⟨z,y,xs,HK.mapP r λp q z=>⟨z.1,ht _ _ z.2.1,z.2.2⟩,ob,es,ep,k _ _ (.inl rfl) e,c⟩
 |set S n=>obtain⟨ob,es,ep,t,e,c⟩:=x;exact⟨ob,es,ep,t,k _ _ (.inl rfl) e,c⟩
 |ins C dx fs=>
  obtain⟨d,z,ne,e,mA,⟨od,es,ep,e2,c⟩,r⟩:=x;exact⟨ho _ d,z,ne,k _ _ (.inl rfl) e,mA,⟨od,es,ep,k _ _ (.inr d) e2,c⟩,r⟩
 |own y=>obtain⟨ob,e⟩:=x;exact⟨ob,k _ _ (.inl rfl) e⟩
 |xd fs=>obtain⟨mA,⟨od,es,ep,e,c⟩,r⟩:=x;exact⟨mA,⟨od,es,ep,k _ _ (.inl rfl) e,c⟩,r⟩
 |rng lo hi=>obtain⟨t,u,v,e⟩:=x;exact⟨t,u,v,k _ _ (.inl rfl) e⟩
 |frz ob u ih=>obtain⟨e,q⟩:=x;exact⟨k _ _ (.inl rfl) e,ih q⟩
 |tbl ps=>
  have e:h.get? a=Ab {cls:=.none,data:=.fields ps}:=x;show h'.get? a=Ab {cls:=.none,data:=.fields ps};exact k a _ (.inl rfl) e
 |met f y=>
  have e:h.get? a=Ab (Hz (.ref f) (.ref y)):=x;show h'.get? a=Ab (Hz (.ref f) (.ref y));exact k a _ (.inl rfl) e
 |ext φ=>obtain⟨p,⟨o,e⟩,st⟩:=x;exact⟨st _ _ p λo q=>k _ _ (.inl rfl) q,⟨o,k _ _ (.inl rfl) e⟩,st⟩
theorem HOk.lt(x:HOk P w H h)(e:H a=Ab o):a<h.objs.size:=(x a o e).lt
theorem HOk.fresh(x:HOk P w H h)(e:h.objs.size<=a):H a=Ad:=by
 cases q:H a with
 |none=>rfl
 |some u=>exact absurd (AS (x.lt q) e) (Bb _)
theorem HOk.kept(x:HOk P w H h)(k:∀ b u,h.get? b=Ab u->h'.get? b=Ab u):HOk P w H h':=λa o e=>
 (x a o e).stay (λb u _ q=>k b u q) (λ_ q=>q) λ_ _ q=>q
theorem HOk.laid(x:HOk P w H h)(k:∀ b u,h.get? b=Ab u->h'.get? b=Ab u)(hp:h.objs.size<=a)(new:ObjOk P w (upd H a o) h' a o):HOk P w (upd H a o) h':=λb u e=>by
 have hn:=x.fresh hp;by_cases hb:b=a
 .subst hb;rw[Jc]at e;cases e;exact new
 .rw[Dq hb]at e;exact(x b u e).stay (λc v _ q=>k c v q) (λc q=>by rw[Dq (Gk q hn)];exact q) λc xs q=>by rw[Dq (Gk q hn)];exact q
end
def Rd(H:Hp)(a:Al)(u:HO):Prop:=H a=Ab u\/∃ o,H a=Ab (.frz o u)
theorem Rd.ok{w:AT}{u:HO}(r:Rd H a u)(x:HOk P w H h):ObjOk P w H h a u:=by
 rcases r with r|⟨o,r⟩
 .exact x a u r
 .obtain⟨_,q⟩:=x a _ r;exact q
def Mut:Ao HO->Prop
 |some (.lst _)=>Iw
 |some (.dK _)=>Iw
 |some (.dT _)=>Iw
 |some (.set _ _)=>Iw
 |some (.ins _ _ _)=>Iw
 |some (.ext _)=>Iw
 |_=>Bj
section
variable{P:AR}{w:AT}{H:Hp}{h h':AM}{x e:Al}{o':HO}
theorem HOk.write(ok:HOk P w H h)(mu:Mut (H x))(he:e=x\/H e=Ab (.own x))(k:∀ b u,b≠e->h.get? b=Ab u->h'.get? b=Ab u)(heo:∃ u,h'.get? e=Ab u)(new:ObjOk P w (upd H x o') h' x o'):HOk P w (upd H x o') h':=λb u q=>by
 have nown:∀ c y,H c=Ab (.own y)->c≠x:=λc y r z=>by subst z;rw[r]at mu;exact mu
 have ntup:∀ c xs,H c=Ab (.tup xs)->c≠x:=λc xs r z=>by subst z;rw[r]at mu;exact mu
 by_cases hb:b=x
 .subst hb;rw[Jc]at q;cases q;exact new
 .rw[Dq hb]at q;by_cases hbe:b=e
  .have q':H b=Ab (.own x):=by
    rcases he with z|z
    .exact absurd (hbe.trans z) hb
    .rw[hbe];exact z
   rw[q]at q';cases q';obtain⟨v,hv⟩:=heo;exact⟨v,by rw[hbe];exact hv⟩
  .refine(ok b u q).stay (λc v hc r=>k c v ?_ r) (λc r=>by rw[Dq (nown c b r)];exact r) λc xs r=>by rw[Dq (ntup c xs r)];exact r
   rcases hc with rfl|hc
   .exact hbe
   .rintro rfl;rcases he with z|z
    .exact nown c b hc z
    .rw[hc]at z;cases z;exact hb rfl
end
structure Un (fs ex:Ac Al) (H H':Hp) (h h':AM):Prop where
 keep:∀ b o,h.get? b=Ab o->H b=Ad->b∉fs->b∉ex->h'.get? b=Ab o
 slot:∀ b o,h.get? b=Ab o->H b=Ad->b∈fs->b∉ex->∃ sl,h'.get? b=Ab {o with slots:=sl}
 free:∀ b o,h.get? b=Ab o->H b=Ad->b∉ex->H' b=Ad
 there:∀ b o,h.get? b=Ab o->b∉ex->∃ o',h'.get? b=Ab o'
 tups:∀ b xs,H b=Ab (.tup xs)->H' b=Ab (.tup xs)
 frzs:∀ b o u,H b=Ab (.frz o u)->H' b=Ab (.frz o u)
 tbls:∀ b ps,H b=Ab (.tbl ps)->∃ more,H' b=Ab (.tbl (ps++more))
section
variable{fs fs' ex ex':Ac Al}{H H1 H2:Hp}{h h1 h2 h':AM}{a x e:Al}{o:HO}
theorem Un.any(u:Un fs ex H H1 h h1){ob:De}(q:h.get? b=Ab ob)(n:H b=Ad)(hx:b∉ex):∃ sl,h1.get? b=Ab {ob with slots:=sl}:=by
 by_cases hb:b∈fs
 .exact u.slot b ob q n hb hx
 .exact⟨ob.slots,u.keep b ob q n hb hx⟩
theorem Un.kept(k:∀ b u,h.get? b=Ab u->h'.get? b=Ab u):Un fs ex H H h h':=
 ⟨λb ob q _ _ _=>k b ob q,λb ob q _ _ _=>⟨ob.slots,k b ob q⟩,λ_ _ _ n _=>n,λb ob q _=>⟨ob,k b ob q⟩,λ_ _ q=>q,λ_ _ _ q=>q,λ_ ps q=>⟨#[],by rw[q];simp⟩⟩
theorem Un.refl:Un fs ex H H h h:=Un.kept λ_ _ q=>q
theorem Un.laid(k:∀ b u,h.get? b=Ab u->h'.get? b=Ab u)(hp:h.objs.size<=a)(hn:H a=Ad):Un fs ex H (upd H a o) h h' where
 keep:=λb u q _ _ _=>k b u q
 slot:=λb u q _ _ _=>⟨u.slots,k b u q⟩
 free:=λb u q n _=>by rw[Dq (AV (AS (AJ q) hp))];exact n
 there:=λb u q _=>⟨u,k b u q⟩
 tups:=λb xs q=>by rw[Dq (Gk q hn)];exact q
 frzs:=λb u xs q=>by rw[Dq (Gk q hn)];exact q
 tbls:=λb ps q=>⟨#[],by rw[Dq (Gk q hn),q];simp⟩
theorem Un.write(mu:Mut (H x))(he:e=x\/H e=Ab (.own x))(k:∀ b u,b≠e->h.get? b=Ab u->h'.get? b=Ab u)(heo:∃ u,h'.get? e=Ab u):Un fs ex H (upd H x o) h h':=by
 have hx:∀ b,H b=Ad->b≠x:=λb n z=>by subst z;rw[n]at mu;exact mu
 have hb:∀ b,H b=Ad->b≠e:=λb n z=>by
  subst z;rcases he with r|r
  .exact hx b n r
  .rw[n]at r;cases r
 have hm:∀ b u,H b=Ab u->¬ Mut (Ab u)->b≠x:=λb u q nm z=>by subst z;rw[q]at mu;exact nm mu
 refine⟨λb u q n _ _=>k b u (hb b n) q,λb u q n _ _=>⟨u.slots,k b u (hb b n) q⟩,λb u q n _=>by rw[Dq (hx b n)];exact n,λb u q _=>?_,
  λb xs q=>by rw[Dq (hm b _ q λz=>z)];exact q,λb u xs q=>by rw[Dq (hm b _ q λz=>z)];exact q,λb ps q=>⟨#[],by rw[Dq (hm b _ q λz=>z),q];simp⟩⟩
 by_cases hbe:b=e
 .subst hbe;exact heo
 .exact⟨u,k b u hbe q⟩
end
noncomputable def trk(h:AM)(H:Hp):Ac Al:=(AB h.objs.size).filter λa=>(H a).isSome
noncomputable def Jn(h:AM)(H:Hp):AM:=PySem.W.hideAll h (trk h H)
theorem Zu(h:AM)(H:Hp):(Jn h H).objs.size=h.objs.size:=PySem.W.hideAll_size _ _
theorem aJ(e:h.get? b=Ab o)(n:H b=Ad):(Jn h H).get? b=Ab o:=
 PySem.W.hideAll_get _ e λhm=>by
  have q:(H b).isSome=Aa:=(DD.mp hm).2;rw[n]at q;simp at q
theorem gA(e:(Jn h H).get? b=Ab o):h.get? b=Ab o/\H b=Ad:=by
 have e':h.get? b=Ab o:=PySem.W.of_hideAll (trk h H) e;refine⟨e',?_⟩;cases q:H b with
 |none=>rfl
 |some x=>
  have hm:b∈trk h H:=DD.mpr ⟨BA.mpr (AJ e'),by simp[q]⟩
  have z:(Jn h H).get? b=Ad:=PySem.W.hideAll_none (trk h H) hm;rw[z]at e;cases e
noncomputable def iF(g h:AM)(L:Al):Pn:=(AB h.objs.size).filterMap λa=>if a=L\/(g.get? a).isSome=Aa then Ad else (h.get? a).map λo=>(a,o)
noncomputable def rest(g h:AM)(L d:Al):Pn:=(iF g h L).filter λp=>decide (p.1≠d)
structure Mod (K:Fg) (mg:Ak->Ao Ai) (base:AM):Prop where
 kin:K.In base
 glob:base.Ns A8 mg
 blt:∃ mb,base.Ns IZ mb/\∀ x:Ak,x≠"__name__"->mb x=CZ x
 nolimit:base.NoLimit
structure Cx where
 prog:AR
 w:AT
 K:Fg
 mg:Ak->Ao Ai
 base:AM
 A:AU
 N:Ac Ak
 s₀:Ap
 H₀:Hp
 env:CY
 outer:Ac CY
 stack:Ac CY
 ex:Ac Al
 fn:Ak->Aj
 calm:Aj
 pn:Pn
 xe:Ai->Ap->Prop
variable{X:Cx}
noncomputable def frs(l:Ac CY):Ac Al:=l.filterMap (·.frame)
noncomputable abbrev Cx.fs(X:Cx):Ac Al:=frs X.outer
def Vis(sc:Ce)(x:Ak):Prop:=sc.names.lookup x=Ab .local\/sc.names.lookup x=Ab .cell\/sc.names.lookup x=Ab .free
def Loc(sc:Ce)(x:Ak):Prop:=sc.names.lookup x=Ab .local\/sc.names.lookup x=Ab .cell
noncomputable def tV(env:CY)(h:AM)(m:Ak->Ao Ai)(x:Ak)(u:Ai):Prop:=
 (env.kindOf x=Ab .local/\m x=Ab u)\/((env.kindOf x=Ab .cell\/env.kindOf x=Ab .free)/\∃ c,env.cells.lookup x=Ab c/\h.IsCell c (Ab u))
structure Cx.Ok (X:Cx):Prop where
 mod:Mod X.K X.mg X.base
 kind:X.env.scope.kind=.function
 glob:X.env.globals=A8
 blt:X.env.builtins=IZ
 above:X.s₀.heap.objs.size<=X.env.locals
 inj:∀ x y c,X.env.cells.lookup x=Ab c->X.env.cells.lookup y=Ab c->x=y
 has:∀ x,(X.env.kindOf x=Ab .cell\/X.env.kindOf x=Ab .free)->∃ c,X.env.cells.lookup x=Ab c
 cab:∀ x c,X.fn x=Aa->X.env.cells.lookup x=Ab c->X.s₀.heap.objs.size<=c
 hd:X.calm=Aa->X.A.handled=Ad
 frames:X.A.frames=Ab X.stack
 stk:X.stack=X.outer\/(X.stack=X.env::X.outer/\X.env.frame=Ab X.env.locals)
 exf:∀ b∈X.ex,b≠X.env.locals/\∀ x c,X.env.cells.lookup x=Ab c->c≠b
 bs:∀ b o,X.base.get? b=Ab o->X.s₀.heap.get? b=Ab o/\X.H₀ b=Ad
 bsz:X.base.objs.size<=X.s₀.heap.objs.size
 noex:∀ b o,X.base.get? b=Ab o->b∉X.ex
 exfs:∀ b∈X.ex,b∉X.fs
 funs:X.s₀.heap.FunFrames X.base X.outer
 frf:∀ b∈X.fs,X.H₀ b=Ad
structure Inv (X:Cx) (pins:Pn) (Z:Ac (Ao V)) (H:Hp) (s:Ap):Prop where
 ok:X.Ok
 os:s.os=X.s₀.os
 bare:FM s.gens
 base:Un X.fs X.ex X.H₀ H X.s₀.heap s.heap
 loc:∃ m,s.heap.Ns X.env.locals m/\∀(i:Ae)(x:Ak)(v:V),X.N[i]?=Ab x->Z[i]?=Ab (Ab v)->Vis X.env.scope x->∃ u,BP v u/\tV X.env s.heap m x u
 cell:∀ x c,X.env.cells.lookup x=Ab c->∃ v,s.heap.IsCell c v
 free:H X.env.locals=Ad
 freeC:∀ x c,X.env.cells.lookup x=Ab c->H c=Ad
 pin:∀ p∈X.pn++pins,s.heap.get? p.1=Ab p.2/\H p.1=Ad/\p.1≠X.env.locals/\p.1∉X.fs/\∀ v,p.2.data≠.cell v
 hok:HOk X.prog X.w H s.heap
 len:Z.length=X.N.length
section
variable{X:Cx}{pins:Pn}{Z:Ac (Ao V)}{H H':Hp}{s:Ap}{h':AM}
theorem Cx.Ok.nofr(ok:X.Ok)(e:X.base.get? b=Ab o):b∉X.fs:=λhb=>by
 have:=(ok.funs.mem hb).1;rw[e]at this;cases this
theorem Inv.bs(I:Inv X pins Z H s):∀ b o,X.base.get? b=Ab o->s.heap.get? b=Ab o/\H b=Ad:=λb o e=>
 ⟨I.base.keep b o (I.ok.bs b o e).1 (I.ok.bs b o e).2 (I.ok.nofr e) (I.ok.noex b o e),I.base.free b o (I.ok.bs b o e).1 (I.ok.bs b o e).2 (I.ok.noex b o e)⟩
theorem Inv.bk(I:Inv X pins Z H s):∀ b o,X.base.get? b=Ab o->s.heap.get? b=Ab o:=λb o e=>(I.bs b o e).1
theorem Inv.mod(I:Inv X pins Z H s):Mod X.K X.mg X.base:=I.ok.mod
theorem Inv.kIn(I:Inv X pins Z H s):X.K.In s.heap:=I.ok.mod.kin.keeps I.bk
theorem Inv.nolimit(I:Inv X pins Z H s):s.heap.NoLimit:=I.ok.mod.nolimit.keeps I.bk
theorem Inv.lt(I:Inv X pins Z H s):X.env.locals<s.heap.objs.size:=let ⟨_,hn,_⟩:=I.loc;hn.lt
theorem Inv.sz(I:Inv X pins Z H s):X.s₀.heap.objs.size<=s.heap.objs.size:=CV I.ok.above (Fb I.lt)
theorem Inv.nofs(I:Inv X pins Z H s)(h:s.heap.objs.size<=a):a∉X.fs:=λhb=>by
 obtain⟨_,o,ho,_⟩:=I.ok.funs.mem hb;exact absurd (AS (AJ ho) (CV I.sz h)) (Bb _)
theorem Inv.cne(I:Inv X pins Z H s):∀ x c,X.env.cells.lookup x=Ab c->c≠X.env.locals:=λx c e z=>by
 obtain⟨v,o,ho,hd⟩:=I.cell x c e;obtain⟨m,⟨o',es,ep,ho',hd',_⟩,_⟩:=I.loc;rw[z,ho']at ho;cases ho;rw[hd']at hd;cases hd
theorem Inv.funs(I:Inv X pins Z H s):s.heap.FunFrames X.base X.outer:=by
 have all:∀(l:Ac CY),(∀ b∈frs l,b∈X.fs)->X.s₀.heap.FunFrames X.base l->s.heap.FunFrames X.base l:=by
  intro l
  induction l with
  |nil=>intro _ _;trivial
  |cons env r ih=>
   intro hs hl;obtain⟨hk,⟨L,o,hf,hn,ho,hd⟩,hr⟩:=hl;have hL:L∈X.fs:=hs L (by unfold frs;rw[BW,hf];exact AL)
   obtain⟨sl,e⟩:=I.base.slot L o ho (I.ok.frf L hL) hL λz=>I.ok.exfs L z hL
   exact⟨hk,⟨L,_,hf,hn,e,hd⟩,ih (λb hb=>hs b (by unfold frs;rw[BW,hf];exact AF _ hb)) hr⟩
 exact all X.outer (λ_ hb=>hb) I.ok.funs
theorem Inv.stack(I:Inv X pins Z H s):s.heap.FunFrames X.base X.stack:=by
 rcases I.ok.stk with e|⟨e,hf⟩
 .rw[e];exact I.funs
 .rw[e];obtain⟨m,hn,_⟩:=I.loc;refine .cons (by rw[I.ok.kind];decide) hf hn ?_ I.funs
  exact GC (CV I.ok.bsz I.ok.above)
theorem Inv.stkSub(I:Inv X pins Z H s):∀ b∈frs X.stack,b∈X.env.locals::X.fs:=λb hb=>by
 rcases I.ok.stk with e|⟨e,hf⟩
 .rw[e]at hb;exact AF _ hb
 .rw[e]at hb;unfold frs at hb;rw[BW,hf]at hb;exact hb
theorem Inv.stkFree(I:Inv X pins Z H s):∀ b∈frs X.stack,H b=Ad:=λb hb=>by
 rcases AK.mp (I.stkSub b hb) with e|hb
 .rw[e];exact I.free
 .obtain⟨_,o,ho,_⟩:=I.ok.funs.mem hb;exact I.base.free b o ho (I.ok.frf b hb) λz=>I.ok.exfs b z hb
theorem Inv.step(I:Inv X pins Z H s)(hch:∀ b∈ch,(b∈X.ex\/X.s₀.heap.objs.size<=b)/\b≠X.env.locals/\(∀ x c,X.env.cells.lookup x=Ab c->c≠b)/\∀ p∈X.pn++pins,p.1≠b)(keep:∀ b o,b≠X.env.locals->b∉X.fs->b∉ch->s.heap.get? b=Ab o->H b=Ad->h'.get? b=Ab o)(slot:∀ b o,b≠X.env.locals->b∈X.fs->b∉ch->s.heap.get? b=Ab o->H b=Ad->∃ sl,h'.get? b=Ab {o with slots:=sl})(free:∀ b o,b∉ch->s.heap.get? b=Ab o->H b=Ad->H' b=Ad)(there:∀ b o,b∉ch->s.heap.get? b=Ab o->∃ o',h'.get? b=Ab o')(tups:∀ b xs,H b=Ab (.tup xs)->H' b=Ab (.tup xs))(frzs:∀ b o u,H b=Ab (.frz o u)->H' b=Ab (.frz o u))(tbls:∀ b ps,H b=Ab (.tbl ps)->∃ more,H' b=Ab (.tbl (ps++more)))(ns:∀ m,s.heap.Ns X.env.locals m->h'.Ns X.env.locals m)(hok:HOk X.prog X.w H' h')(hg:FM g'):Inv X pins Z H' {s with heap:=h',gens:=g',drawn:=d',toks:=t'}:=by
 have neL:∀ b o,X.s₀.heap.get? b=Ab o->b≠X.env.locals:=λb o e=>AV (AS (AJ e) I.ok.above)
 have neC:∀ b o,X.s₀.heap.get? b=Ab o->b∉X.ex->b∉ch:=λb o e hx hb=>by
  rcases (hch b hb).1 with z|z
  .exact hx z
  .exact absurd (AS (AJ e) z) (Bb _)
 have cellK:∀ x c,X.env.cells.lookup x=Ab c->∀ v,s.heap.IsCell c v->h'.IsCell c v:=λx c e v ⟨o,ho,hd⟩=>by
  have nch:c∉ch:=λz=>(hch c z).2.2.1 x c e rfl
  by_cases hc:c∈X.fs
  .obtain⟨sl,q⟩:=slot c o (I.cne x c e) hc nch ho (I.freeC x c e);exact⟨_,q,hd⟩
  .exact⟨o,keep c o (I.cne x c e) hc nch ho (I.freeC x c e),hd⟩
 refine⟨I.ok,I.os,hg,⟨λb o e n hb hx=>?_,λb o e n hb hx=>?_,λb o e n hx=>?_,λb o e hx=>?_,λb xs e=>tups b xs (I.base.tups b xs e),λb o xs e=>frzs b o xs (I.base.frzs b o xs e),λb ps e=>?_⟩,?_,λx c e=>?_,?_,λx c e=>?_,λp hp=>?_,hok,I.len⟩
 .exact keep b o (neL b o e) hb (neC b o e hx) (I.base.keep b o e n hb hx) (I.base.free b o e n hx)
 .obtain⟨sl,e1⟩:=I.base.slot b o e n hb hx;obtain⟨sl',e2⟩:=slot b _ (neL b o e) hb (neC b o e hx) e1 (I.base.free b o e n hx);exact⟨sl',e2⟩
 .obtain⟨o',e1⟩:=I.base.there b o e hx;exact free b o' (neC b o e hx) e1 (I.base.free b o e n hx)
 .obtain⟨o',e1⟩:=I.base.there b o e hx;exact there b o' (neC b o e hx) e1
 .obtain⟨m1,e1⟩:=I.base.tbls b ps e;obtain⟨m2,e2⟩:=tbls b _ e1;exact⟨m1++m2,by rw[e2,Array.append_assoc]⟩
 .obtain⟨m,hn,hl⟩:=I.loc;refine⟨m,ns m hn,λi x v e1 e2 e3=>?_⟩
  obtain⟨u,r,l⟩:=hl i x v e1 e2 e3;refine⟨u,r,?_⟩;rcases l with l|⟨k,c,e,z⟩
  .exact .inl l
  .exact .inr ⟨k,c,e,cellK x c e _ z⟩
 .obtain⟨v,z⟩:=I.cell x c e;exact⟨v,cellK x c e v z⟩
 .obtain⟨m,⟨o,_,_,ho,_⟩,_⟩:=I.loc;exact free _ o (λz=>(hch _ z).2.1 rfl) ho I.free
 .obtain⟨v,o,ho,hd⟩:=I.cell x c e;exact free c o (λz=>(hch c z).2.2.1 x c e rfl) ho (I.freeC x c e)
 .obtain⟨e,n,ne,nf,d⟩:=I.pin p hp;have nch:p.1∉ch:=λz=>(hch p.1 z).2.2.2 p hp rfl
  exact⟨keep p.1 p.2 ne nf nch e n,free p.1 p.2 nch e n,ne,nf,d⟩
theorem Inv.un(I:Inv X pins Z H s)(u:Un X.fs [] H H' s.heap h')(hok:HOk X.prog X.w H' h'):Inv X pins Z H' {s with heap:=h',toks:=t'}:=by
 obtain⟨m,⟨o,es,ep,ho,r⟩,_⟩:=id I.loc;obtain⟨sl,hL⟩:=u.any ho I.free (by simp)
 exact I.step (g':=s.gens) (d':=s.drawn) (ch:=[]) (λ_ z=>nomatch z) (λb o _ hb _ e n=>u.keep b o e n hb (by simp)) (λb o _ hb _ e n=>u.slot b o e n hb (by simp)) (λb o _ e n=>u.free b o e n (by simp)) (λb o _ e=>u.there b o e (by simp)) u.tups u.frzs u.tbls (λm' hm=>by
  obtain⟨o',es',ep',ho',r'⟩:=hm;rw[ho]at ho';cases ho';exact⟨_,es',ep',hL,r'⟩) hok I.bare
theorem Inv.call(I:Inv X pins Z H s)(u:Un (frs X.stack) ch H H' s.heap h')(hok:HOk X.prog X.w H' h')(hg:FM g')(hch:∀ b∈ch,(b∈X.ex\/X.s₀.heap.objs.size<=b)/\b≠X.env.locals/\(∀ x c,X.env.cells.lookup x=Ab c->c≠b)/\∀ p∈X.pn++pins,p.1≠b):Inv X pins Z H' {s with heap:=h',gens:=g',drawn:=d',toks:=t'}:=by
 obtain⟨m,⟨o,es,ep,ho,r⟩,_⟩:=id I.loc;obtain⟨sl,hL⟩:=u.any ho I.free λz=>(hch _ z).2.1 rfl
 exact I.step (ch:=ch) hch (λb o hL hb hc e n=>u.keep b o e n (λz=>(AK.mp (I.stkSub b z)).elim hL hb) hc) (λb o _ _ hc e n=>u.any e n hc) (λb o hc e n=>u.free b o e n hc) (λb o hc e=>u.there b o e hc) u.tups u.frzs u.tbls (λm' hm=>by
  obtain⟨o',es',ep',ho',r'⟩:=hm;rw[ho]at ho';cases ho';exact⟨_,es',ep',hL,r'⟩) hok hg
theorem Inv.turned(I:Inv X pins Z H s)(k:∀ b o,b≠it->s.heap.get? b=Ab o->h'.get? b=Ab o)(hn:H it=Ad)(hL:it≠X.env.locals)(h1:it∈X.ex\/X.s₀.heap.objs.size<=it)(h2:∀ x c,X.env.cells.lookup x=Ab c->c≠it)(h3:∀ p∈X.pn++pins,p.1≠it):Inv X pins Z H {s with heap:=h',toks:=t'}:=by
 have nit:∀ b u,H b=Ab u->b≠it:=λb u e z=>by rw[z,hn]at e;cases e
 refine I.step (g':=s.gens) (d':=s.drawn) (ch:=[it]) (λb hb=>?_) (λb o _ _ hc e _=>k b o (λz=>hc (by simp[z])) e) (λb o _ _ hc e _=>⟨o.slots,k b o (λz=>hc (by simp[z])) e⟩) (λ_ _ _ _ n=>n)
  (λb o hc e=>⟨o,k b o (λz=>hc (by simp[z])) e⟩) (λ_ _ e=>e) (λ_ _ _ e=>e) (λb ps e=>⟨#[],by rw[e];simp⟩) (λm hm=>?_) (λb u e=>?_) I.bare
 .have e:b=it:=by simpa using hb
  subst e;exact⟨h1,hL,h2,h3⟩
 .obtain⟨o,es,ep,ho,r⟩:=hm;exact⟨o,es,ep,k _ o (DQ hL) ho,r⟩
 .refine(I.hok b u e).stay (λc v hc q=>k c v ?_ q) (λ_ q=>q) λ_ _ q=>q
  rcases hc with z|z
  .rw[z];exact nit b u e
  .exact nit c _ z
theorem Inv.tok(I:Inv X pins Z H s)(t:Ae):Inv X pins Z H {s with toks:=t}:=I.un (h':=s.heap) (t':=t) Un.refl I.hok
theorem Inv.kept{t':Ae}(I:Inv X pins Z H s)(k:∀ b u,s.heap.get? b=Ab u->h'.get? b=Ab u):Inv X pins Z H {s with heap:=h',toks:=t'}:=I.un (Un.kept k) (I.hok.kept k)
theorem Inv.laid{a:Al}{o:HO}{t':Ae}(I:Inv X pins Z H s)(k:∀ b u,s.heap.get? b=Ab u->h'.get? b=Ab u)(hp:s.heap.objs.size<=a)(new:ObjOk X.prog X.w (upd H a o) h' a o):Inv X pins Z (upd H a o) {s with heap:=h',toks:=t'}:=I.un (Un.laid k hp (I.hok.fresh hp)) (I.hok.laid k hp new)
theorem Inv.write{x e:Al}{o:HO}{t':Ae}(I:Inv X pins Z H s)(mu:Mut (H x))(he:e=x\/H e=Ab (.own x))(k:∀ b u,b≠e->s.heap.get? b=Ab u->h'.get? b=Ab u)(heo:∃ u,h'.get? e=Ab u)(new:ObjOk X.prog X.w (upd H x o) h' x o):Inv X pins Z (upd H x o) {s with heap:=h',toks:=t'}:=I.un (Un.write mu he k heo) (I.hok.write mu he k heo new)
theorem Inv.pins_of{pins':Pn}(I:Inv X pins Z H s)(h:∀ p∈pins',s.heap.get? p.1=Ab p.2/\H p.1=Ad/\p.1≠X.env.locals/\p.1∉X.fs/\∀ v,p.2.data≠.cell v):Inv X pins' Z H s:=
 ⟨I.ok,I.os,I.bare,I.base,I.loc,I.cell,I.free,I.freeC,λp hp=>(DC.mp hp).elim (λz=>I.pin p (Gz _ z)) (h p),I.hok,I.len⟩
theorem RI{N:Ac Ak}(hN:N.Nodup){j:Ae}(a:N[i]?=Ab x)(b:N[j]?=Ab x):i=j:=by
 obtain⟨h1,e1⟩:=AW.mp a;obtain⟨h2,e2⟩:=AW.mp b;exact(VM hN).mp (e1.trans e2.symm)
theorem QM{A:AU}{E:Vq}(I:Inv X pins Z H s)(hN:X.N.Nodup)(hi:X.N[i]?=Ab x)(hx:Loc X.env.scope x)(r:BP v u)(h:∀ s',Inv X pins (Z.set i (Ab v)) H s'->(∃ a,Ee a s.heap s'.heap/\(a=X.env.locals\/X.env.cells.lookup x=Ab a))->Q () s')(hf:X.fn x=Aa\/X.env.scope.names.lookup x=Ab .local:=by first|exact .inl rfl|exact .inr rfl|assumption):Az M A (storeName X.env x u) Q E s:=by
 obtain⟨m,hn,hl⟩:=id I.loc;have hcls:(X.env.scope.kind==.class||(X.env.scope.kind==.module&&X.env.locals != X.env.globals))=Af:=by rw[I.ok.kind];rfl
 have hiσ:i<Z.length:=by rw[I.len];exact(AW.mp hi).1
 have cne:=I.cne;have tracked:∀{a:Al}{h':AM},(∃ o,s.heap.get? a=Ab o/\H a=Ad)->Ee a s.heap h'->HOk X.prog X.w H h':=λ{a h'} ha hs b ob e=>by
  obtain⟨_,_,hfree⟩:=ha;refine(I.hok b ob e).stay (λc w' hc q=>(hs.2 c ?_).trans q) (λ_ q=>q) λ_ _ q=>q
  rintro rfl;rcases hc with rfl|hc
  .rw[hfree]at e;cases e
  .rw[hfree]at hc;cases hc
 rcases hx with hk|hk
 .refine wpAny_storeName_local hk hn (λh' hn' hs=>?_) hcls
  obtain⟨oL,_,_,hoL,_⟩:=id hn;refine h _ ⟨I.ok,I.os,I.bare,⟨λb o e n hb hx=>?_,λb o e n hb hx=>?_,I.base.free,λb o e hx=>?_,I.base.tups,I.base.frzs,I.base.tbls⟩,⟨_,hn',λj y v' e1 e2 e3=>?_⟩,λy c e=>?_,I.free,I.freeC,λp hp=>?_,tracked ⟨oL,hoL,I.free⟩ hs,by simpa using I.len⟩ ⟨_,hs,.inl rfl⟩
  .exact(hs.2 b (AV (AS (AJ e) I.ok.above))).trans (I.base.keep b o e n hb hx)
  .obtain⟨sl,e1⟩:=I.base.slot b o e n hb hx;exact⟨sl,(hs.2 b (AV (AS (AJ e) I.ok.above))).trans e1⟩
  .obtain⟨o',e1⟩:=I.base.there b o e hx;exact⟨o',(hs.2 b (AV (AS (AJ e) I.ok.above))).trans e1⟩
  .by_cases hj:j=i
   .subst hj;rw[hi]at e1;cases e1;rw[Dl hiσ]at e2;cases e2;exact⟨u,r,.inl ⟨hk,by simp⟩⟩
   .rw[Gy (DQ hj)]at e2;obtain⟨u',r',q⟩:=hl j y v' e1 e2 e3;refine⟨u',r',?_⟩;rcases q with ⟨k,e⟩|⟨k,c,e,z⟩
    .refine .inl ⟨k,?_⟩;have:y≠x:=λe=>hj (RI hN e1 (e ▸ hi))
     simp[this,e]
    .exact .inr ⟨k,c,e,z.sameBut hs (cne y c e)⟩
  .obtain⟨w',z⟩:=I.cell y c e;exact⟨w',z.sameBut hs (cne y c e)⟩
  .obtain⟨e,n,ne,nf,d⟩:=I.pin p hp;exact⟨(hs.2 p.1 ne).trans e,n,ne,nf,d⟩
 .have hfn:X.fn x=Aa:=by
   rcases hf with z|z
   .exact z
   .rw[z]at hk;cases hk
  obtain⟨c,hc⟩:=I.ok.has x (.inl hk);obtain⟨w',z⟩:=I.cell x c hc;refine wpAny_storeName_cell I.ok.kind hk hc z (λh' hc' hs=>?_)
  obtain⟨oc,hoc,hocd⟩:=id z;refine h {s with heap:=h'} ⟨I.ok,I.os,I.bare,⟨λb o e n hb hx=>?_,λb o e n hb hx=>?_,I.base.free,λb o e hx=>?_,I.base.tups,I.base.frzs,I.base.tbls⟩,⟨m,hn.sameBut hs (DQ (cne x c hc)),λj y v' e1 e2 e3=>?_⟩,λy c' e=>?_,I.free,I.freeC,λp hp=>?_,tracked ⟨oc,hoc,I.freeC x c hc⟩ hs,by simpa using I.len⟩ ⟨c,hs,.inr hc⟩
  .exact(hs.2 b (AV (AS (AJ e) (I.ok.cab x c hfn hc)))).trans (I.base.keep b o e n hb hx)
  .obtain⟨sl,e1⟩:=I.base.slot b o e n hb hx;exact⟨sl,(hs.2 b (AV (AS (AJ e) (I.ok.cab x c hfn hc)))).trans e1⟩
  .obtain⟨o',e1⟩:=I.base.there b o e hx;exact⟨o',(hs.2 b (AV (AS (AJ e) (I.ok.cab x c hfn hc)))).trans e1⟩
  .by_cases hj:j=i
   .subst hj;rw[hi]at e1;cases e1;rw[Dl hiσ]at e2;cases e2;exact⟨u,r,.inr ⟨.inl hk,c,hc,hc'⟩⟩
   .rw[Gy (DQ hj)]at e2;obtain⟨u',r',q⟩:=hl j y v' e1 e2 e3;refine⟨u',r',?_⟩;rcases q with q|⟨k,c',e,z'⟩
    .exact .inl q
    .refine .inr ⟨k,c',e,z'.sameBut hs ?_⟩;rintro rfl;exact hj (RI hN e1 (I.ok.inj _ _ _ e hc ▸ hi))
  .by_cases hcc:c'=c
   .subst hcc;exact⟨_,hc'⟩
   .obtain⟨w2,z2⟩:=I.cell y c' e;exact⟨w2,z2.sameBut hs hcc⟩
  .obtain⟨e,n,ne,nf,d⟩:=I.pin p hp;refine⟨(hs.2 p.1 ?_).trans e,n,ne,nf,d⟩;intro q;rw[q,hoc]at e;have q':oc=p.2:=Bg e;exact d w' (by rw[<-q'];exact hocd)
theorem R6{A:AU}{E:Vq}(I:Inv X pins Z H s)(hN:X.N.Nodup)(hi:X.N[i]?=Ab x)(hx:Loc X.env.scope x)(r:BP v u)(h:∀ s',Inv X pins (Z.set i (Ab v)) H s'->Q () s')(hf:X.fn x=Aa\/X.env.scope.names.lookup x=Ab .local:=by first|exact .inl rfl|exact .inr rfl|assumption):Az M A (storeName X.env x u) Q E s:=
 QM I hN hi hx r (λs' I' _=>h s' I') hf
theorem Inv.call'{s':Ap}(I:Inv X pins Z H s)(ho:s'.os=s.os)(u:Un (frs X.stack) ch H H' s.heap s'.heap)(hok:HOk X.prog X.w H' s'.heap)(hg:FM s'.gens)(hch:∀ b∈ch,(b∈X.ex\/X.s₀.heap.objs.size<=b)/\b≠X.env.locals/\(∀ x c,X.env.cells.lookup x=Ab c->c≠b)/\∀ p∈X.pn++pins,p.1≠b):Inv X pins Z H' s':=by
 obtain⟨h',g',d',t',o'⟩:=s';have e:o'=s.os:=ho;subst e;exact I.call (g':=g') (t':=t') (d':=d') u hok hg hch
end
abbrev XK:=Ai->Ao Al->Hp->Prop
abbrev St:=Ac (Ao V)
variable{Z:St}
abbrev VK:=V->Hp->Prop
abbrev TE:=St->Hp->VK->Prop
abbrev TT:=St->Hp->(Aj->Hp->Prop)->Prop
abbrev TA:=St->Hp->(Ac V->Hp->Prop)->Prop
variable{ta:TA}
structure Ends where
 nx:St->Hp->Prop
 rt:VK
 bk:St->Hp->Prop:=λ_ _=>Bj
 ct:St->Hp->Prop:=λ_ _=>Bj
abbrev TS:=Ends->St->Hp->Prop
def EP(X:Cx)(pins:Pn)(Z:St)(Q:VK)(u:Ai)(s':Ap):Prop:=∃ v H',Inv X pins Z H' s'/\BP v u/\Q v H'
def TP(X:Cx)(pins:Pn)(Z:St)(Q:Aj->Hp->Prop)(b:Aj)(s':Ap):Prop:=∃ H',Inv X pins Z H' s'/\Q b H'
def AP(X:Cx)(pins:Pn)(Z:St)(Q:Ac V->Hp->Prop)(us:Ac Ai)(s':Ap):Prop:=∃ vs H',Inv X pins Z H' s'/\A6 vs us/\Q vs H'
noncomputable def SP(X:Cx)(pins:Pn)(D:Ends)(f:Flow)(s':Ap):Prop:=
  match f with
  |.next=>∃ Z' H',Inv X pins Z' H' s'/\D.nx Z' H'
  |.brk=>∃ Z' H',Inv X pins Z' H' s'/\D.bk Z' H'
  |.cont=>∃ Z' H',Inv X pins Z' H' s'/\D.ct Z' H'
  |.ret u=>∃ v Z' H',Inv X pins Z' H' s'/\BP v u/\D.rt v H'
noncomputable def PE(X:Cx)(e:Am)(t:TE):Prop:=
 ∀(pins:Pn)(s:Ap)(Z:St)(H:Hp)(Q:VK),Inv X pins Z H s->t Z H Q->Az (model X.prog X.w) X.A (eval e X.env) (EP X pins Z Q) X.xe s
noncomputable def PT(X:Cx)(e:Am)(t:TT):Prop:=
 ∀(pins:Pn)(s:Ap)(Z:St)(H:Hp)(Q:Aj->Hp->Prop),Inv X pins Z H s->t Z H Q->Az (model X.prog X.w) X.A (IQ e X.env (eval e X.env)) (TP X pins Z Q) X.xe s
noncomputable def PW(X:Cx)(e:Am)(t:TT):Prop:=
 ∀(whole:DJ Ai)(pins:Pn)(s:Ap)(Z:St)(H:Hp)(Q:Aj->Hp->Prop),Inv X pins Z H s->t Z H Q->Az (model X.prog X.w) X.A (IQ e X.env whole) (TP X pins Z Q) X.xe s
theorem PW.pt{t:TT}(h:PW X e t):PT X e t:=h _
noncomputable def PA(X:Cx)(es:Ac Am)(t:TA):Prop:=
 ∀(pos:A3)(pins:Pn)(s:Ap)(Z:St)(H:Hp)(Q:Ac V->Hp->Prop),Inv X pins Z H s->t Z H Q->Az (model X.prog X.w) X.A (spliced (Cz pos (AI es X.env))) (AP X pins Z Q) X.xe s
noncomputable def PS(X:Cx)(st:Bm)(t:TS):Prop:=
 ∀(pins:Pn)(s:Ap)(Z:St)(H:Hp)(D:Ends),Inv X pins Z H s->t D Z H->Az (model X.prog X.w) X.A (exec st X.env) (SP X pins D) X.xe s
noncomputable def PSs(X:Cx)(st:Ac Bm)(t:TS):Prop:=
 ∀(pins:Pn)(s:Ap)(Z:St)(H:Hp)(D:Ends),Inv X pins Z H s->t D Z H->Az (model X.prog X.w) X.A (execs st X.env) (SP X pins D) X.xe s
theorem thn{α:Type}{t:DJ α}{Q Q':α->Ap->Prop}{A:AU}{E:Vq}(h:Az M A t Q E s)(hQ:∀ a s,Q a s->Q' a s):Az M A t Q' E s:=Cu h hQ λ_ _ x=>x
section
variable{X:Cx}
def JQ(i:Ae):TE:=λZ H Q=>∃ v,Z[i]?=Ab (Ab v)/\Q v H
def tC(v:V):TE:=λ_ H Q=>Q v H
theorem lQ(hN:X.N[i]?=Ab x)(hv:Vis X.env.scope x)(hd:(x==("__debug__" : Ak))=Af:=by decide)(hcd:(x==("__classdict__" : Ak))=Af:=by decide):PE X (.Name x pos) (JQ i):=by
 intro pins s Z H Q I h;obtain⟨v,e,h⟩:=h;obtain⟨m,hn,hl⟩:=I.loc;obtain⟨u,r,l⟩:=hl i x v hN e hv;have fin:EP X pins Z Q u s:=⟨v,H,I,r,h⟩;rcases l with ⟨hk,hm⟩|⟨hk,c,hc,hcell⟩
 .exact Ky (wpAny_loadName_local I.ok.kind hk hn hm fin) hd
 .rcases hk with hk|hk
  .exact Ky (wpAny_loadName_cell I.ok.kind hk hc hcell fin) hd
  .exact Ky (wpAny_loadName_free I.ok.kind hk hc hcell fin hcd) hd
theorem mB{i j pos}:PE X (.Constant (.int i) j pos) (tC (.int i)):=λ_ _ _ H _ I h=>wpAny_Constant_int ⟨.int i,H,I.tok _,⟨_,rfl⟩,h⟩
theorem rG{b j pos}:PE X (.Constant (.bool b) j pos) (tC (.bl b)):=λ_ _ _ H _ I h=>Constant_bool ⟨.bl b,H,I,rfl,h⟩
theorem lY{j pos}:PE X (.Constant .none j pos) (tC .non):=λ_ _ _ H _ I h=>Constant_none ⟨.non,H,I,rfl,h⟩
theorem lU{x j pos}:PE X (.Constant (.str x) j pos) (tC (.str x)):=λ_ _ _ H _ I h=>Calls.Constant_str ⟨.str x,H,I.tok _,⟨_,rfl⟩,h⟩
def Gl(X:Cx)(x:Ak):Prop:=X.env.kindOf x=Ab .globalImplicit
theorem fC{E:Vq}{Q:Vq}(I:Inv X pins Z H s)(hg:Gl X x)(hm:X.mg x=Ab u)(h:Q u s)(hd:(x==("__debug__" : Ak))=Af:=by decide):Az (model X.prog X.w) X.A (eval (.Name x pos) X.env) Q E s:=
 Wv I.ok.kind hg (Calls.loadGlobal_global (by rw[I.ok.glob];exact I.mod.glob.keeps I.bk) hm h) hd
theorem HQ{E:Vq}{Q:Vq}(I:Inv X pins Z H s)(hg:Gl X x)(hm:X.mg x=Ad)(hv:CZ x=Ab u)(h:Q u s)(hn:x≠"__name__" := by decide)(hd:(x==("__debug__" : Ak))=Af:=by decide):Az (model X.prog X.w) X.A (eval (.Name x pos) X.env) Q E s:=by
 obtain⟨mb,h1,h2⟩:=I.mod.blt;exact Wv I.ok.kind hg (Calls.loadGlobal_builtin (by rw[I.ok.glob];exact I.mod.glob.keeps I.bk) hm (by rw[I.ok.blt];exact h1.keeps I.bk) ((h2 x hn).trans hv) h) hd
theorem cM(hg:Gl X x)(hm:X.mg x=Ad)(hv:CZ x=Ab u)(r:BP v u)(hn:x≠"__name__" := by decide)(hd:(x==("__debug__" : Ak))=Af:=by decide):PE X (.Name x pos) (tC v):=
 λ_ _ _ H _ I h=>HQ I hg hm hv ⟨v,H,I,r,h⟩ hn hd
variable{a b:Am}{ta tb:TE}{pos:A3}
variable{tA tB':TT}{rest:Ac Am}
def sQ(t u:TT):TT:=λZ H Q=>t Z H λc H1=>if c=Aa then u Z H1 Q else Q Af H1
def tOr(t u:TT):TT:=λZ H Q=>t Z H λc H1=>if c=Aa then Q Aa H1 else u Z H1 Q
def tN(t:TT):TT:=λZ H Q=>t Z H λc H1=>Q (!c) H1
theorem dJ(ha:PT X a tA):PW X (.BoolOp .And [a] pos) tA:=by
 intro wh pins s Z H Q I h;refine isTrue_and (thn (ha pins s Z H Q I h) λc s1 e=>?_)
 cases c with
 |true=>exact isTrue_and_nil e
 |false=>exact e
theorem iP(ha:PT X a tA):PW X (.BoolOp .Or [a] pos) tA:=by
 intro wh pins s Z H Q I h;refine isTrue_or (thn (ha pins s Z H Q I h) λc s1 e=>?_)
 cases c with
 |false=>exact isTrue_or_nil e
 |true=>exact e
theorem iQ(ha:PT X a tA)(hb:PW X (.BoolOp .And (b::rest) pos) tB'):PW X (.BoolOp .And (a::b::rest) pos) (sQ tA tB'):=by
 intro wh pins s Z H Q I h;refine isTrue_and (thn (ha pins s Z H _ I h) λc s1 ⟨H1,I1,q1⟩=>?_)
 cases c with
 |true=>exact hb wh pins s1 Z H1 Q I1 q1
 |false=>exact⟨H1,I1,q1⟩
theorem qZ(ha:PT X a tA)(hb:PW X (.BoolOp .Or (b::rest) pos) tB'):PW X (.BoolOp .Or (a::b::rest) pos) (tOr tA tB'):=by
 intro wh pins s Z H Q I h;refine isTrue_or (thn (ha pins s Z H _ I h) λc s1 ⟨H1,I1,q1⟩=>?_)
 cases c with
 |true=>exact⟨H1,I1,q1⟩
 |false=>exact hb wh pins s1 Z H1 Q I1 q1
theorem lG(ha:PT X a tA):PT X (.UnaryOp .Not a pos) (tN tA):=by
 intro pins s Z H Q I h;exact isTrue_not (ha pins s Z H (λc H1=>Q (!c) H1) I h)
def nR(ta tb:TE):TE:=λZ H Q=>ta Z H λx H1=>∃ c,x=.bl c/\if c=Aa then tb Z H1 Q else Q (.bl Af) H1
def tM(ta tb:TE):TE:=λZ H Q=>ta Z H λx H1=>∃ c,x=.bl c/\if c=Aa then Q (.bl Aa) H1 else tb Z H1 Q
def oC(ta:TE):TE:=λZ H Q=>ta Z H λx H1=>∃ c,x=.bl c/\Q (.bl (!c)) H1
theorem lV{op}{t:TE}(h:PE X a t):PE X (.BoolOp op [a] pos) t:=λpins s Z H Q I hw=>BoolOp_one (h pins s Z H Q I hw)
theorem mC(ha:PE X a ta)(hb:PE X (.BoolOp .And (b::rest) pos) tb):PE X (.BoolOp .And (a::b::rest) pos) (nR ta tb):=by
 intro pins s Z H Q I h;refine BoolOp_and (thn (ha pins s Z H _ I h) λv s1 ⟨x,H1,I1,r1,q1⟩=>?_)
 obtain⟨c,rfl,q1⟩:=q1;cases r1;refine Di ?_;cases c with
 |true=>exact hb pins s1 Z H1 Q I1 q1
 |false=>exact⟨.bl Af,H1,I1,rfl,q1⟩
theorem rE(ha:PE X a ta)(hb:PE X (.BoolOp .Or (b::rest) pos) tb):PE X (.BoolOp .Or (a::b::rest) pos) (tM ta tb):=by
 intro pins s Z H Q I h;refine BoolOp_or (thn (ha pins s Z H _ I h) λv s1 ⟨x,H1,I1,r1,q1⟩=>?_)
 obtain⟨c,rfl,q1⟩:=q1;cases r1;refine Di ?_;cases c with
 |false=>exact hb pins s1 Z H1 Q I1 q1
 |true=>exact⟨.bl Aa,H1,I1,rfl,q1⟩
theorem lW(ha:PE X a ta):PE X (.UnaryOp .Not a pos) (oC ta):=by
 intro pins s Z H Q I h;refine UnaryOp_ (thn (ha pins s Z H _ I h) λv s1 ⟨x,H1,I1,r1,q1⟩=>?_)
 obtain⟨c,rfl,q1⟩:=q1;cases r1;exact not_of (Di ⟨.bl (!c),H1,I1,rfl,q1⟩)
def tIf(t:TT)(ta tb:TE):TE:=λZ H Q=>t Z H λc H1=>if c=Aa then ta Z H1 Q else tb Z H1 Q
theorem ZL(hc:PT X c tA)(ha:PE X a ta)(hb:PE X b tb):PE X (.IfExp c a b pos) (tIf tA ta tb):=by
 intro pins s Z H Q I h;refine wpAny_IfExp (thn (hc pins s Z H _ I h) λd s1 ⟨H1,I1,q1⟩=>?_)
 cases d with
 |true=>exact ha pins s1 Z H1 Q I1 q1
 |false=>exact hb pins s1 Z H1 Q I1 q1
end
noncomputable def SqL(K:Fg)(H:Hp)(a:Al)(xs:Ac V):Prop:=
 Rd H a (.lst xs) \/
  ∃(o:De)(its:Au Ai)(n:Ae),K.lookup a=Ab o/\o.cls=.type "list"/\o.dict=Ad/\o.data=.seq its n/\its.size<=sizeLine/\A6 xs its.toList
noncomputable def SqT(K:Fg)(H:Hp)(a:Al)(xs:Ac V):Prop:=
 Rd H a (.tup xs) \/
  ∃(o:De)(its:Au Ai)(n:Ae),K.lookup a=Ab o/\o.cls=.type "tuple"/\o.data=.seq its n/\its.size<=sizeLine/\A6 xs its.toList
noncomputable def tQ:Ai->Ao V
 |.none=>Ab .non
 |.bool b=>Ab (.bl b)
 |.int i _=>Ab (.int i)
 |.str x _=>Ab (.str x)
 |.bytes b _=>Ab (.byt b)
 |.float b _=>Ab (.flt b)
 |.ref a=>Ab (.ref a)
 |.type n=>Ab (.ty n)
 |_=>Ad
theorem BP.abs{x:V}(r:BP x u):tQ u=Ab x:=by
 cases x with
 |non=>cases r;rfl
 |bl _=>cases r;rfl
 |int _=>obtain⟨t,rfl⟩:=r;rfl
 |str _=>obtain⟨t,rfl⟩:=r;rfl
 |byt _=>obtain⟨t,rfl⟩:=r;rfl
 |flt _=>obtain⟨t,rfl⟩:=r;rfl
 |ref _=>cases r;rfl
 |ty _=>cases r;rfl
theorem BP.inj{x y:V}(r:BP x u)(q:BP y u):x=y:=Bg (r.abs.symm.trans q.abs)
theorem A6.inj:∀{xs ys:Ac V}{us:Ac Ai},A6 xs us->A6 ys us->xs=ys
 |_,_,_,.nil,.nil=>rfl
 |_,_,_,.cons r t,.cons r' t'=>by rw[r.inj r',A6.inj t t']
section
variable{X:Cx}{pins:Pn}{Z:St}{H:Hp}{s:Ap}{a:Al}{xs ys:Ac V}
theorem SqL.of{K:Fg}(h:H a=Ab (.lst xs)):SqL K H a xs:=.inl (.inl h)
theorem SqT.of{K:Fg}(h:H a=Ab (.tup xs)):SqT K H a xs:=.inl (.inl h)
theorem Inv.list(I:Inv X pins Z H s)(h:SqL X.K H a xs):∃ its:Ac Ai,A6 xs its/\PlainL s.heap a its.toArray/\xs.length<=sizeLine:=by
 rcases h with h|⟨o,its,n,hk,hc,hd,hs,hz,r⟩
 .obtain⟨z,its,n,r,e⟩:=h.ok I.hok;exact⟨its,r,⟨_,n,e,rfl,rfl,rfl⟩,z⟩
 .refine⟨its.toList,r,⟨o,n,I.kIn a o hk,hc,hd,by simpa using hs⟩,?_⟩
  have e:=r.length;simp only[AQ]at e;omega
theorem Inv.tuple(I:Inv X pins Z H s)(h:SqT X.K H a xs):∃ its:Ac Ai,A6 xs its/\Lo s.heap a its.toArray/\xs.length<=sizeLine:=by
 rcases h with h|⟨o,its,n,hk,hc,hs,hz,r⟩
 .obtain⟨z,its,r,p⟩:=h.ok I.hok;exact⟨its,r,p,z⟩
 .refine⟨its.toList,r,⟨o,I.kIn a o hk,hc,n,by simpa using hs⟩,?_⟩
  have e:=r.length;simp only[AQ]at e;omega
theorem Inv.list_inj(I:Inv X pins Z H s)(h:SqL X.K H a xs)(h':SqL X.K H a ys):xs=ys:=by
 obtain⟨its,r,⟨o,n,e,_,_,d⟩,_⟩:=I.list h;obtain⟨its',r',⟨o',n',e',_,_,d'⟩,_⟩:=I.list h';rw[e]at e';cases e';rw[d]at d'
 injection d' with d1 _
 have:its=its':=by simpa using congrArg Jv d1
 subst this;exact r.inj r'
theorem Inv.tuple_inj(I:Inv X pins Z H s)(h:SqT X.K H a xs)(h':SqT X.K H a ys):xs=ys:=by
 obtain⟨its,r,⟨o,e,_,n,d⟩,_⟩:=I.tuple h;obtain⟨its',r',⟨o',e',_,n',d'⟩,_⟩:=I.tuple h';rw[e]at e';cases e';rw[d]at d'
 injection d' with d1 _
 have:its=its':=by simpa using congrArg Jv d1
 subst this;exact r.inj r'
end
noncomputable abbrev Cx.wish(X:Cx)(E:Vq):Cx:={X with xe:=E}
noncomputable abbrev Cx.nox(X:Cx):Cx:=X.wish λ_ _=>Bj
theorem Cx.Ok.wish(ok:X.Ok)(E:Vq):(X.wish E).Ok:=
 ⟨ok.mod,ok.kind,ok.glob,ok.blt,ok.above,ok.inj,ok.has,ok.cab,ok.hd,ok.frames,ok.stk,ok.exf,ok.bs,ok.bsz,ok.noex,ok.exfs,ok.funs,ok.frf⟩
theorem Cx.Ok.unwish{E:Vq}(ok:(X.wish E).Ok):X.Ok:=
 ⟨ok.mod,ok.kind,ok.glob,ok.blt,ok.above,ok.inj,ok.has,ok.cab,ok.hd,ok.frames,ok.stk,ok.exf,ok.bs,ok.bsz,ok.noex,ok.exfs,ok.funs,ok.frf⟩
section
variable{X:Cx}{pins:Pn}{Z:St}{H:Hp}{s:Ap}{E:Vq}
theorem Inv.wish(I:Inv X pins Z H s)(E:Vq):Inv (X.wish E) pins Z H s:=⟨I.ok.wish E,I.os,I.bare,I.base,I.loc,I.cell,I.free,I.freeC,I.pin,I.hok,I.len⟩
theorem Inv.unwish(I:Inv (X.wish E) pins Z H s):Inv X pins Z H s:=⟨I.ok.unwish,I.os,I.bare,I.base,I.loc,I.cell,I.free,I.freeC,I.pin,I.hok,I.len⟩
theorem SP.unwish{D:Ends}{f:Flow}{s':Ap}(h:SP (X.wish E) pins D f s'):SP X pins D f s':=by
 cases f with
 |next=>obtain⟨Z',H',I,q⟩:=h;exact⟨Z',H',I.unwish,q⟩
 |brk=>obtain⟨Z',H',I,q⟩:=h;exact⟨Z',H',I.unwish,q⟩
 |cont=>obtain⟨Z',H',I,q⟩:=h;exact⟨Z',H',I.unwish,q⟩
 |ret u=>obtain⟨v,Z',H',I,r,q⟩:=h;exact⟨v,Z',H',I.unwish,r,q⟩
theorem PSs.nox{st:Ac Bm}{t:TS}(h:PSs X.nox st t):PSs X st t:=λpins s Z H D I hw=>
 Cu (h pins s Z H D (I.wish _) hw) (λ_ _ q=>q.unwish) λ_ _ z=>Ev z
end
section
variable{X:Cx}{st:Bm}{rest:Ac Bm}{t u:TS}{e:Am}{te:TE}{pos:A3}
def oD:TS:=λD Z H=>D.nx Z H
def tK(t u:TS):TS:=λD Z H=>t {D with nx:=u D} Z H
theorem dO:PSs X [] oD:=λ_ _ Z H _ I h=>Yc ⟨Z,H,I,h⟩
theorem ZI(h1:PS X st t)(h2:PSs X rest u):PSs X (st::rest) (tK t u):=by
 intro pins s Z H D I h;refine wpAny_execs_cons (thn (h1 pins s Z H {D with nx:=u D} I h) λf s1 q=>?_)
 cases f with
 |next=>
  obtain⟨Z',H',I',q⟩:=q;exact h2 pins s1 Z' H' D I' q
 |ret v=>exact q
 |brk=>exact q
 |cont=>exact q
theorem Inv.quiet(I:Inv X pins Z H s):interactive X.env=Af:=by simp[interactive,I.ok.kind]
def oE(te:TE):TS:=λD Z H=>te Z H λ_ H1=>D.nx Z H1
theorem MR(he:PE X e te)(hs:EI e Ad pos.line X.env=pure Af:=by rfl):PS X (.Expr e pos) (oE te):=by
 intro pins s Z H D I h;exact wpAny_Expr_any (thn (he pins s Z H _ I h) λv s1 ⟨x,H1,I1,r1,q1⟩=>⟨Z,H1,I1,q1⟩) I.quiet hs
def tL(te:TE):TS:=λD Z H=>te Z H D.rt
theorem Pb(he:PE X e te):PS X (.Return (Ab e) pos) (tL te):=by
 intro pins s Z H D I h;exact wpAny_Return_some (thn (he pins s Z H _ I h) λv s1 ⟨x,H1,I1,r1,q1⟩=>⟨x,Z,H1,I1,r1,q1⟩)
def sO(c:TT)(t u:TS):TS:=λD Z H=>c Z H λb H1=>if b=Aa then t D Z H1 else u D Z H1
theorem rB{a b:Ac Bm}{tc:TT}(hc:PT X c tc)(ha:PSs X a t)(hb:PSs X b u):PS X (.If c a b pos) (sO tc t u):=by
 intro pins s Z H D I h;refine wpAny_If (thn (hc pins s Z H _ I h) λd s1 ⟨H1,I1,q1⟩=>?_)
 cases d with
 |true=>exact ha pins s1 Z H1 D I1 q1
 |false=>exact hb pins s1 Z H1 D I1 q1
end
abbrev TG:=V->St->Hp->(St->Hp->Prop)->Prop
abbrev TGs:=Ac V->St->Hp->(St->Hp->Prop)->Prop
noncomputable def PG(X:Cx)(target:Am)(t:TG):Prop:=
 ∀(pins:Pn)(s:Ap)(Z:St)(H:Hp)(v:V)(u:Ai)(Q:St->Hp->Prop),Inv X pins Z H s->BP v u->t v Z H Q ->
  Az (model X.prog X.w) X.A (assign target X.env u) (λ_ s'=>∃ Z' H',Inv X pins Z' H' s'/\Q Z' H') X.xe s
noncomputable def PGs(X:Cx)(ts:Ac Am)(t:TGs):Prop:=
 ∀(pins:Pn)(s:Ap)(Z:St)(H:Hp)(vs:Ac V)(us:Ac Ai)(Q:St->Hp->Prop),Inv X pins Z H s->A6 vs us->t vs Z H Q ->
  Az (model X.prog X.w) X.A (assignInOrder ((EB ts X.env).map (·.2)) us) (λ_ s'=>∃ Z' H',Inv X pins Z' H' s'/\Q Z' H') X.xe s
section
variable{X:Cx}{pos:A3}
def Hm(i:Ae):TG:=λv Z H Q=>Q (Z.set i (Ab v)) H
theorem MS(hN:X.N.Nodup)(hi:X.N[i]?=Ab x)(hx:Loc X.env.scope x)(hf:X.fn x=Aa\/X.env.scope.names.lookup x=Ab .local:=by first|exact .inl rfl|exact .inr rfl|assumption):PG X (.Name x pos) (Hm i):=by
 intro pins s Z H v u Q I r h;exact X7 (R6 I hN hi hx r (λs' I'=>⟨_,H,I',h⟩) hf)
def Mp:TGs:=λvs Z H Q=>vs=[]/\Q Z H
def Ma(t:TG)(u:TGs):TGs:=λvs Z H Q=>∃ v r,vs=v::r/\t v Z H λZ' H'=>u r Z' H' Q
theorem dW:PGs X [] Mp:=by
 intro pins s Z H vs us Q I r h;obtain⟨e,h⟩:=h;subst e;cases r;exact assignInOrder_nil ⟨Z,H,I,h⟩
theorem ZK{t:TG}{u:TGs}(h1:PG X e t)(h2:PGs X es u)(hs:(EB (e::es) X.env).map (·.2)=assign e X.env::(EB es X.env).map (·.2):=by rfl):PGs X (e::es) (Ma t u):=by
 intro pins s Z H vs us Q I r h;obtain⟨v,vr,e1,h⟩:=h;subst e1;cases r with
 |cons r rr=>
  rw[hs];refine assignInOrder_cons (thn (h1 pins s Z H _ _ _ I r h) λ_ s1 ⟨Z1,H1,I1,q1⟩=>?_)
  exact h2 pins s1 Z1 H1 _ _ Q I1 rr q1
def P7(K:Fg)(n:Ae)(t:TGs):TG:=λv Z H Q=>∃ a xs,v=.ref a/\SqT K H a xs/\xs.length=n/\t xs Z H Q
theorem lP{t:TGs}(hc:X.calm=Aa)(h:PGs X es t)(hn:(EB es X.env).length=n:=by rfl)(hst:(EB es X.env).findIdx? (·.1)=Ad:=by rfl):PG X (.Tuple es k pos) (P7 X.K n t):=by
 intro pins s Z H v u Q I r hw;obtain⟨a,xs,e1,hq,hl,hw⟩:=hw;subst e1;cases r;obtain⟨its,rv,ht,hz⟩:=I.tuple hq;refine assign_Tuple_tuple (I.ok.hd hc) ht (by simp[hn,<-hl,rv.length]) hst λh' hx=>?_
 have I1:Inv X pins Z H {s with heap:=h'}:=I.kept (t':=s.toks) λb o e=>hx b o (AV (AJ e)) e
 exact h pins _ Z H xs _ Q I1 (by simpa using rv) hw
def P3(te:TE)(g:TG):TS:=λD Z H=>te Z H λx H1=>g x Z H1 D.nx
theorem lH{te:TE}{pos':A3}(hN:X.N.Nodup)(hi:X.N[i]?=Ab x)(hx:Loc X.env.scope x)(he:PE X e te)(hs:EI e (Ab (.Name x pos')) pos.line X.env=pure Af:=by rfl)(hf:X.fn x=Aa\/X.env.scope.names.lookup x=Ab .local:=by first|exact .inl rfl|exact .inr rfl|assumption):PS X (.Assign [.Name x pos'] e pos) (P3 te (Hm i)):=by
 intro pins s Z H D I h;refine wpAny_Assign_Name (thn (he pins s Z H _ I h) λv s1 ⟨y,H1,I1,r1,q1⟩=>?_) hs
 exact R6 I1 hN hi hx r1 (λs2 I2=>⟨_,H1,I2,q1⟩) hf
end
section
variable{X:Cx}{pos:A3}
end
structure It where
 go:Ae->Hp->Prop
 yld:Ae->Hp->V->Hp->Prop
 stop:Ae->Hp->Prop
noncomputable def GN(X:Cx)(pins:Pn)(H:Hp)(b:Al):Prop:=
 H b=Ad/\b≠X.env.locals/\b∉X.fs/\(b∈X.ex\/X.s₀.heap.objs.size<=b)/\(∀ x c,X.env.cells.lookup x=Ab c->c≠b)/\∀ p∈X.pn++pins,p.1≠b
theorem Inv.fpOk{H':Hp}(I:Inv X pins Z H s)(hb:s.heap.objs.size<=b)(hn:H' b=Ad):GN X pins H' b:=by
 refine⟨hn,EK (AS I.lt hb),I.nofs hb,.inr (CV I.sz hb),λx c e z=>?_,λp hp z=>?_⟩
 .obtain⟨v,q⟩:=I.cell x c e;exact absurd (AS q.lt (by rw[z];exact hb)) (Bb _)
 .exact absurd (AS (AJ (I.pin p hp).1) (by rw[z];exact hb)) (Bb _)
structure Turn (P:AR) (w:AT) (K:Fg) (tg:Am) (J:It) (fp:Ac Al) (it:Al) (tn:Ae->AM->Prop):Prop where
 mem:it∈fp
 obj:∀ i h,tn i h->∀ b∈fp,∃ o,h.get? b=Ab o/\∀ v,o.data≠.cell v
 keep:∀ i h h',tn i h->(∀ b∈fp,∀ o,h.get? b=Ab o->h'.get? b=Ab o)->tn i h'
 item:∀(X:Cx),X.prog=P->X.w=w->X.K=K->X.calm=Aa->∀(i:Ae)(pins:Pn)(s:Ap)(Z:St)(H:Hp)(E:Vq),Inv X pins Z H s->(∀ b∈fp,GN X pins H b)->tn i s.heap->J.go i H ->
  Az (model P w) X.A (E4 (.ref it)) (λr s1=>∃ u,r=Ab u /\
   Az (model P w) X.A (GF tg (.ref it) u) (λ_ s2=>∃ x H',Inv X pins Z H' s2/\BP x u/\J.yld i H x H'/\tn (i+1) s2.heap/\∀ b∈fp,H' b=Ad) E s1) E s
 done:∀(X:Cx),X.prog=P->X.w=w->X.K=K->X.calm=Aa->∀(i:Ae)(pins:Pn)(s:Ap)(Z:St)(H:Hp)(E:Vq),Inv X pins Z H s->(∀ b∈fp,GN X pins H b)->tn i s.heap->J.stop i H ->
  Az (model P w) X.A (E4 (.ref it)) (λr s1=>r=Ad/\Inv X pins Z H s1) E s
 self:∀(A:AU)(i:Ae)(s:Ap)(Q:Vq)(E:Vq),tn i s.heap->Q (.ref it) s->Az (model P w) A (Ha (.ref it)) Q E s
abbrev TI:=St->Hp->(It->Hp->Prop)->Prop
noncomputable def PIE(X:Cx)(pins:Pn)(Z:St)(tg:Am)(R:It->Hp->Prop)(itv:Ai)(s2:Ap):Prop:=
 ∃(it:Al)(fp:Ac Al)(tn:Ae->AM->Prop)(J:It)(H':Hp),itv=.ref it/\Inv X pins Z H' s2/\Turn X.prog X.w X.K tg J fp it tn/\tn 0 s2.heap/\(∀ b∈fp,GN X pins H' b)/\R J H'
noncomputable def PI(X:Cx)(tg iter:Am)(wi:TI):Prop:=
 ∀(pins:Pn)(s:Ap)(Z:St)(H:Hp)(R:It->Hp->Prop),Inv X pins Z H s->wi Z H R ->
  Az (model X.prog X.w) X.A (eval iter X.env) (λv s1=>Az (model X.prog X.w) X.A (Ha v) (PIE X pins Z tg R) X.xe s1) X.xe s
theorem Nd{A:AU}{E:Vq}{n:CO}{vs:Au Ai}(ho:s.heap.get? it=Ab o)(hc:o.cls=.type n)(hd:o.data=.fields vs)(hn:["enumerate", "zip", "dict_itemiterator", "dict_reverseitemiterator", "odict_iterator", "itertools.zip_longest", "itertools.pairwise"].contains n=Af)(hQ:Q () s):Az M A (GF tg (.ref it) u) Q E s:=by
  unfold GF;cases tg<;>first
    |exact At hQ
    | (cases u<;>first
        |exact At hQ
        | (refine Ah (wpAny_load ho ?_)
           rw[hc,hd];show Az M A (if (["enumerate", "zip", "dict_itemiterator", "dict_reverseitemiterator", "odict_iterator", "itertools.zip_longest", "itertools.pairwise"].contains n&&vs[0]? == Ab (Cr _))=Aa then _ else _) Q E s
           rw[As (by intro h;rw[hn,Bool.false_and]at h;cases h)]
           exact At hQ))
noncomputable def Itl(K:Fg)(a:Al):It:=
 ⟨λi H=>∃ xs x,SqL K H a xs/\xs[i]?=Ab x,λi H x H'=>H'=H/\∀ xs,SqL K H a xs->xs[i]?=Ab x,λi H=>∃ xs,SqL K H a xs/\xs.length<=i⟩
noncomputable def Itt(K:Fg)(a:Al):It:=
 ⟨λi H=>∃ xs x,SqT K H a xs/\xs[i]?=Ab x,λi H x H'=>H'=H/\∀ xs,SqT K H a xs->xs[i]?=Ab x,λi H=>∃ xs,SqT K H a xs/\xs.length<=i⟩
noncomputable def Itr(lo:Ag)(n:Ae):It:=⟨λi _=>i<n,λi H x H'=>H'=H/\x=.int (lo+i),λi _=>n<=i⟩
theorem YW{w:AT}{K:Fg}(a it:Al):Turn P w K tg (Itl K a) [it] it (λi h=>h.IsListIter it a i) where
  mem:=by simp
  obj:=λi h st b hb=>by
    have e:b=it:=by simpa using hb
    subst e;obtain⟨o,e,c,d⟩:=st;exact⟨o,e,λv z=>by rw[d]at z;cases z⟩
  keep:=λi h h' st k=>st.at λo e=>k it (by simp) o e
  item:=by
    intro X hP hw hK hc i pins s Z H E I hf st hg;subst hP hw hK;obtain⟨xs,x,hq,hx⟩:=hg;obtain⟨its,rv,p,hz⟩:=I.list hq;obtain⟨u,hu,ru⟩:=rv.get hx;obtain⟨f0,f1,f2,f3,f4,f5⟩:=hf it (by simp)
    refine wpAny_pyNext_list_item st p.isList (x:=u) (by simpa using hu) λh' st' sb=>?_
    have I1:Inv X pins Z H {s with heap:=h'}:=I.turned (t':=s.toks) (λb o hb e=>(sb.2 b hb).trans e) f0 f1 f3 f4 f5
    obtain⟨o,e,c,d⟩:=id st';exact⟨u,rfl,Nd (s:={s with heap:=h'}) e c d (by decide) ⟨x,H,I1,ru,⟨rfl,λys hy=>by rw[I.list_inj hy hq];exact hx⟩,st',λb hb=>(hf b hb).1⟩⟩
  done:=by
    intro X hP hw hK hc i pins s Z H E I hf st hg;subst hP hw hK;obtain⟨xs,hq,hx⟩:=hg;obtain⟨its,rv,p,hz⟩:=I.list hq;obtain⟨f0,f1,f2,f3,f4,f5⟩:=hf it (by simp)
    have hl:=rv.length;exact wpAny_pyNext_list_end (I.ok.hd hc) st p.isList (by simp;omega) λh' eb=>⟨rfl,I.turned (t':=s.toks) (λb o hb e=>eb b o hb e) f0 f1 f3 f4 f5⟩
  self:=λ_ _ _ _ _ st h=>wpAny_pyIter_listiter st h
theorem Y_2{w:AT}{K:Fg}(a it:Al):Turn P w K tg (Itt K a) [it] it (λi h=>h.IsTupleIter it a i) where
  mem:=by simp
  obj:=λi h st b hb=>by
    have e:b=it:=by simpa using hb
    subst e;obtain⟨o,e,c,d⟩:=st;exact⟨o,e,λv z=>by rw[d]at z;cases z⟩
  keep:=λi h h' st k=>st.at λo e=>k it (by simp) o e
  item:=by
    intro X hP hw hK hc i pins s Z H E I hf st hg;subst hP hw hK;obtain⟨xs,x,hq,hx⟩:=hg;obtain⟨its,rv,p,hz⟩:=I.tuple hq;obtain⟨u,hu,ru⟩:=rv.get hx;obtain⟨f0,f1,f2,f3,f4,f5⟩:=hf it (by simp)
    refine wpAny_pyNext_tuple_item st (show s.heap.IsTuple a its.toArray from p) (x:=u) (by simpa using hu) λh' st' sb=>?_
    have I1:Inv X pins Z H {s with heap:=h'}:=I.turned (t':=s.toks) (λb o hb e=>(sb.2 b hb).trans e) f0 f1 f3 f4 f5
    obtain⟨o,e,c,d⟩:=id st';exact⟨u,rfl,Nd (s:={s with heap:=h'}) e c d (by decide) ⟨x,H,I1,ru,⟨rfl,λys hy=>by rw[I.tuple_inj hy hq];exact hx⟩,st',λb hb=>(hf b hb).1⟩⟩
  done:=by
    intro X hP hw hK hc i pins s Z H E I hf st hg;subst hP hw hK;obtain⟨xs,hq,hx⟩:=hg;obtain⟨its,rv,p,hz⟩:=I.tuple hq;obtain⟨f0,f1,f2,f3,f4,f5⟩:=hf it (by simp)
    have hl:=rv.length;exact wpAny_pyNext_tuple_end (I.ok.hd hc) st (show s.heap.IsTuple a its.toArray from p) (by simp;omega) λh' eb=>⟨rfl,I.turned (t':=s.toks) (λb o hb e=>eb b o hb e) f0 f1 f3 f4 f5⟩
  self:=λ_ _ _ _ _ st h=>wpAny_pyIter_tupleiter st h
theorem Y_3{w:AT}{K:Fg}(it:Al)(lo:Ag)(n:Ae):Turn P w K tg (Itr lo n) [it] it (λi h=>F6 h it (lo+(i:Ae)*1) ((n:Ag)-(i:Ae)) 1) where
  mem:=by simp
  obj:=λi h st b hb=>by
    have e:b=it:=by simpa using hb
    subst e;exact⟨_,st,λv z=>by
      have z':Wx _=Jy v:=z;cases z'⟩
  keep:=λi h h' st k=>k it (by simp) _ st
  item:=by
    intro X hP hw hK hc i pins s Z H E I hf st hg;subst hP hw hK;obtain⟨f0,f1,f2,f3,f4,f5⟩:=hf it (by simp)
    have W:=XV (prog:=X.prog) (w:=X.w) (I.ok.hd hc) it lo 1 n;refine W.item i s _ _ hg st λv h' tk hv st' kk=>?_
    obtain⟨t,rfl⟩:=hv;have I1:Inv X pins Z H {s with heap:=h',toks:=tk}:=I.turned (λb o hb e=>kk b o (by simpa using hb) e) f0 f1 f3 f4 f5
    refine⟨_,rfl,Nd (s:={s with heap:=h',toks:=tk}) (n := "range_iterator") st' rfl rfl (by decide) ⟨.int (lo+i),H,I1,⟨t,?_⟩,⟨rfl,rfl⟩,st',λb hb=>(hf b hb).1⟩⟩
    rw[Vs]
  done:=by
    intro X hP hw hK hc i pins s Z H E I hf st hg;subst hP hw hK;obtain⟨f0,f1,f2,f3,f4,f5⟩:=hf it (by simp)
    exact Yk (I.ok.hd hc) st (by have:n<=i:=hg;omega) λh' eb=>⟨rfl,I.turned (t':=s.toks) (λb o hb e=>eb b o hb e) f0 f1 f3 f4 f5⟩
  self:=λ_ _ _ _ _ st h=>F8 st h
section
variable{X:Cx}{tg:Am}
theorem Sb{R:It->Hp->Prop}{E:Vq}{lo hi:Ag}{t u v:Cf}{tk:Ae}(I:Inv X pins Z H s)(h1:-(2 ^ 62)<=lo)(h2:lo<2 ^ 62)(h3:-(2 ^ 62)<=hi)(h4:hi<2 ^ 62)(q:R (Itr lo (hi-lo).toNat) H):Az (model X.prog X.w) X.A (Ha (.ref s.heap.objs.size)) (PIE X pins Z tg R) E { s with heap:=s.heap.push { cls:=.type "range",data:=.fields #[.int lo t,.int hi u,.int 1 v] },toks:=tk }:=by
 refine Yh (JW ..) (small_one h1 h2 h3 h4) ?_;have I1:Inv X pins Z H { s with heap:=s.heap.push { cls:=.type "range",data:=.fields #[.int lo t,.int hi u,.int 1 v] },toks:=tk }:=I.kept λb o e=>Aq _ e
 refine⟨(s.heap.push { cls:=.type "range",data:=.fields #[.int lo t,.int hi u,.int 1 v] }).objs.size,[(s.heap.push { cls:=.type "range",data:=.fields #[.int lo t,.int hi u,.int 1 v] }).objs.size],_,_,H,rfl,
  I1.kept (t':=tk) λb o e=>Aq _ e,Y_3 _ lo (hi-lo).toNat,?_,λb hb=>?_,q⟩
 .have e1:lo+((0:Ae):Ag)*1=lo:=by simp
  have e2:(((hi-lo).toNat:Ae):Ag)-((0:Ae):Ag)=FS lo hi 1:=by rw[rangeSize_one];split<;>omega
  show F6 _ _ (lo+((0:Ae):Ag)*1) ((((hi-lo).toNat:Ae):Ag)-((0:Ae):Ag)) 1;rw[e1,e2];exact AD _ rfl
 .have e:b=(s.heap.push { cls:=.type "range",data:=.fields #[.int lo t,.int hi u,.int 1 v] }).objs.size:=by simpa using hb
  subst e;exact I1.fpOk (Aw _) (I1.hok.fresh (Aw _))
def qF(ta:TA):TI:=λZ H R=>ta Z H λvs H1=>∃ j:Ag,vs=[.int j]/\-(2 ^ 62)<=j/\j<2 ^ 62/\R (Itr 0 j.toNat) H1
def qE(ta:TA):TI:=λZ H R=>ta Z H λvs H1=>∃ i j:Ag,vs=[.int i,.int j]/\(-(2 ^ 62)<=i/\i<2 ^ 62/\-(2 ^ 62)<=j/\j<2 ^ 62)/\R (Itr i (j-i).toNat) H1
theorem ZC{a:Am}(hg:Gl X "range")(hm:X.mg "range" = Ad)(ha:PA X [a] ta)(hs:AI [a] X.env=[(Af,eval a X.env)]:=by rfl):PI X tg (.Call (.Name "range" p) [a] [] pos) (qF ta):=by
 intro pins s Z H R I h;refine IT (HQ I hg hm IU (BL (thn (ha pos pins s Z H _ I h) λus s1 ⟨vs,H1,I1,r1,q1⟩=>?_) hs rfl))
 obtain⟨j,e,q1,q2,q⟩:=q1;subst e;cases r1 with
 |cons r rr=>
  cases rr;obtain⟨t,rfl⟩:=r;exact call_range_1 (Sb I1 (by omega) (by omega) q1 q2 (by simpa using q))
theorem ZB{a b:Am}(hg:Gl X "range")(hm:X.mg "range" = Ad)(ha:PA X [a,b] ta)(hs:AI [a,b] X.env=[(Af,eval a X.env),(Af,eval b X.env)]:=by rfl)(hs2:AI [b] X.env=[(Af,eval b X.env)]:=by rfl):
  PI X tg (.Call (.Name "range" p) [a,b] [] pos) (qE ta):=by
 intro pins s Z H R I h;refine IT (HQ I hg hm IU (BL (thn (ha pos pins s Z H _ I h) λus s1 ⟨vs,H1,I1,r1,q1⟩=>?_) (by rw[hs,hs2]) (by rw[hs2];rfl)))
 obtain⟨i,j,e,⟨q1,q2,q3,q4⟩,q⟩:=q1;subst e;cases r1 with
 |cons r rr=>
  cases rr with
  |cons r' rr=>
   cases rr;obtain⟨t,rfl⟩:=r;obtain⟨t',rfl⟩:=r';exact call_range_2 (Sb I1 q1 q2 q3 q4 q)
def sP(wi:TI)(g:TG)(tb:TS):TS:=λD Z H=>wi Z H λJ H1=>∃ W:Ae->Ae->St->Hp->Prop,(∃ m,W 0 m Z H1)/\∀ i m Z H,W i m Z H ->
 (J.stop i H/\D.nx Z H)\/(J.go i H/\∃ N:St->Hp->Prop,(∀ Z' H',N Z' H'->∃ m',m'<m/\W (i+1) m' Z' H')/\∀ x H',J.yld i H x H'->g x Z H' λZ2 H2=>tb {D with nx:=N,ct:=N,bk:=D.nx} Z2 H2)
noncomputable def Ke(fp:Ac Al)(h:AM):Pn:=fp.filterMap λb=>(h.get? b).map λo=>(b,o)
theorem Mz(hb:b∈fp)(e:h.get? b=Ab o):(b,o)∈Ke fp h:=List.mem_filterMap.mpr ⟨b,hb,by rw[e];rfl⟩
theorem Q5{p:Al×De}(hp:p∈Ke fp h):p.1∈fp/\h.get? p.1=Ab p.2:=by
 obtain⟨b,hb,e⟩:=List.mem_filterMap.mp hp;cases q:h.get? b with
 |none=>rw[q]at e;cases e
 |some o=>
  rw[q]at e;have e':(b,o)=p:=Bg e;subst e';exact⟨hb,q⟩
theorem Inv.pinned(I:Inv X pins Z H s)(hf:∀ b∈fp,GN X pins H b)(ho:∀ b∈fp,∃ o,s.heap.get? b=Ab o/\∀ v,o.data≠.cell v):Inv X (pins++Ke fp s.heap) Z H s:=
 I.pins_of λp hp=>(DC.mp hp).elim (λz=>I.pin p (Bq _ z)) λz=>by
  obtain⟨hb,e⟩:=Q5 z;obtain⟨f0,f1,f2,_⟩:=hf p.1 hb;obtain⟨o,e',d⟩:=ho p.1 hb;rw[e]at e';cases e';exact⟨e,f0,f1,f2,d⟩
theorem Inv.unpinned{pl:Pn}(I:Inv X (pins++pl) Z H s):Inv X pins Z H s:=I.pins_of λp hp=>I.pin p (Bq _ (Gz _ hp))
theorem lI{iter:Am}{wi:TI}{g:TG}{tb:TS}(hp:Gv (model X.prog X.w) X.A X.env X.xe)(hc:X.calm=Aa)(hi:PI X tg iter wi)(hg:PG X tg g)(hb:PSs X body tb)(hs:∀ x,Dh iter X.env x=pure x:=by intro _;rfl):PS X (.For tg iter body [] pos) (sP wi g tb):=by
 intro pins s Z H D I h;refine wpAny_For (thn (hi pins s Z H _ I h) λv s1 h1=>thn h1 λitv s2 h2=>?_) hs
 obtain⟨it,fp,tn,J,H2,e,I2,T,st2,f2,W,⟨m0,w0⟩,turn⟩:=h2;subst e
 -- what stays Aa of the iterator's objects through the loop
 have stat:∀{H':Hp},(∀ b∈fp,H' b=Ad)->∀ b∈fp,GN X pins H' b:=λhn b hb=>⟨hn b hb,(f2 b hb).2⟩
 refine codeAny_forLoop_any (λn s'=>∃ i Z' H',Inv X pins Z' H' s'/\tn i s'.heap/\(∀ b∈fp,H' b=Ad)/\W i n Z' H') ?_ m0 ⟨0,Z,H2,I2,st2,λb hb=>(f2 b hb).1,w0⟩
 rintro n s3 ⟨i,Z3,H3,I3,st3,fr3,w3⟩;rcases turn i n Z3 H3 w3 with ⟨stop,qn⟩|⟨go,N,hN,step⟩
 .refine FF hp (thn (T.done X rfl rfl rfl hc i pins s3 Z3 H3 X.xe I3 (stat fr3) st3 stop) λr s4 ⟨hr,I4⟩=>?_)
  subst hr;exact Yc ⟨Z3,H3,I4,qn⟩
 .refine FF hp (thn (T.item X rfl rfl rfl hc i pins s3 Z3 H3 X.xe I3 (stat fr3) st3 go) λr s4 ⟨u,hr,h4⟩=>?_)
  subst hr;refine FF hp (thn h4 λ_ s5 ⟨x,H5,I5,r5,y5,st5,fr5⟩=>?_)
  have I5':=I5.pinned (stat fr5) (T.obj _ _ st5);refine FF hp (thn (hg _ s5 Z3 H5 x u _ I5' r5 (step x H5 y5)) λ_ s6 ⟨Z6,H6,I6,q6⟩=>?_)
  refine FF hp (thn (hb _ s6 Z6 H6 _ I6 q6) λf s7 q7=>?_)
  have again:∀{Z7:St}{H7:Hp},Inv X (pins++Ke fp s5.heap) Z7 H7 s7->N Z7 H7->∃ m,m<n/\∃ i Z' H',Inv X pins Z' H' s7/\tn i s7.heap/\(∀ b∈fp,H' b=Ad)/\W i m Z' H':=λ{Z7 H7} I7 n7=>by
   obtain⟨m',hm,w7⟩:=hN Z7 H7 n7;refine⟨m',hm,i+1,Z7,H7,I7.unpinned,T.keep _ _ _ st5 λb hb o e=>(I7.pin (b,o) (Bq _ (Bq _ (Mz hb e)))).1,λb hb=>?_,w7⟩
   obtain⟨o,e,d⟩:=T.obj _ _ st5 b hb;exact(I7.pin (b,o) (Bq _ (Bq _ (Mz hb e)))).2.1
  cases f with
  |next=>obtain⟨Z7,H7,I7,n7⟩:=q7;exact again I7 n7
  |cont=>obtain⟨Z7,H7,I7,n7⟩:=q7;exact again I7 n7
  |brk=>obtain⟨Z7,H7,I7,q7⟩:=q7;exact⟨Z7,H7,I7.unpinned,q7⟩
  |ret v=>obtain⟨x7,Z7,H7,I7,r7,q7⟩:=q7;exact⟨x7,Z7,H7,I7.unpinned,r7,q7⟩
end
abbrev R2:=V->V->Hp->VK->Prop
variable{r:R2}
noncomputable def OpR(X:Cx)(f:Ai->Ai->DJ Ai)(r:R2):Prop:=
 ∀(pins:Pn)(s:Ap)(Z:St)(H:Hp)(x y:V)(v u:Ai)(Q:VK),Inv X pins Z H s->BP x v->BP y u->r x y H Q ->
  Az (model X.prog X.w) X.A (f v u) (EP X pins Z Q) X.xe s
noncomputable def UnR(X:Cx)(f:Ai->DJ Ai)(r:V->Hp->VK->Prop):Prop:=
 ∀(pins:Pn)(s:Ap)(Z:St)(H:Hp)(x:V)(v:Ai)(Q:VK),Inv X pins Z H s->BP x v->r x H Q ->
  Az (model X.prog X.w) X.A (f v) (EP X pins Z Q) X.xe s
noncomputable def HW(X:Cx)(f:Ai)(r:Ac V->Hp->VK->Prop):Prop:=
 ∀(pins:Pn)(s:Ap)(Z:St)(H:Hp)(xs:Ac V)(us:Ac Ai)(Q:VK),Inv X pins Z H s->A6 xs us->r xs H Q ->
  Az (model X.prog X.w) X.A (call f us) (EP X pins Z Q) X.xe s
noncomputable def tS(X:Cx)(r:V->Hp->(Aj->Hp->Prop)->Prop):Prop:=
 ∀(pins:Pn)(s:Ap)(Z:St)(H:Hp)(x:V)(v:Ai)(Q:Aj->Hp->Prop),Inv X pins Z H s->BP x v->r x H Q ->
  Az (model X.prog X.w) X.A (truthy v) (TP X pins Z Q) X.xe s
def tOp(r:R2)(ta tb:TE):TE:=λZ H Q=>ta Z H λx H1=>tb Z H1 λy H2=>r x y H2 Q
def tUn(r:V->Hp->VK->Prop)(ta:TE):TE:=λZ H Q=>ta Z H λx H1=>r x H1 Q
def rI(C:Ag->Ag->Prop)(g:Ag->Ag->V):R2:=λx y H Q=>∃ i j,x=.int i/\y=.int j/\C i j/\Q (g i j) H
def rI0(g:Ag->Ag->V):R2:=λx y H Q=>∃ i j,x=.int i/\y=.int j/\Q (g i j) H
def rU(g:Ag->V):V->Hp->VK->Prop:=λx H Q=>∃ i,x=.int i/\Q (g i) H
section
variable{X:Cx}{a b c:Am}{ta tb tc:TE}{pos:A3}
theorem Qf(ha:PE X a ta)(hb:PE X b tb){R:V->V->Hp->Prop}(I:Inv X pins Z H s)(h:ta Z H λx H1=>tb Z H1 λy H2=>R x y H2){Q:Vq}(hf:∀ v u s2 x y H2,Inv X pins Z H2 s2->BP x v->BP y u->R x y H2->Az (model X.prog X.w) X.A (f v u) Q X.xe s2):Az (model X.prog X.w) X.A (eval a X.env) (λv s₁=>Az (model X.prog X.w) X.A (eval b X.env) (λu s₂=>Az (model X.prog X.w) X.A (f v u) Q X.xe s₂) X.xe s₁) X.xe s:=by
 refine thn (ha pins s Z H _ I h) λv s1 ⟨x,H1,I1,r1,q1⟩=>?_
 refine thn (hb pins s1 Z H1 _ I1 q1) λu s2 ⟨y,H2,I2,r2,q2⟩=>?_
 exact hf v u s2 x y H2 I2 r1 r2 q2
theorem Ux{op:Gh}(ho:OpR X (Ch op) r)(ha:PE X a ta)(hb:PE X b tb):PE X (.BinOp a op b pos) (tOp r ta tb):=by
 intro pins s Z H Q I h;exact wpAny_BinOp (Qf ha hb I h λv u s2 x y H2 I2 rx ry q=>ho pins s2 Z H2 x y v u Q I2 rx ry q)
theorem rD{op:JS}{r:V->Hp->VK->Prop}(ho:UnR X (unaryOp op) r)(ha:PE X a ta):PE X (.UnaryOp op a pos) (tUn r ta):=by
 intro pins s Z H Q I h;exact UnaryOp_ (thn (ha pins s Z H _ I h) λv s1 ⟨x,H1,I1,r1,q1⟩=>ho pins s1 Z H1 x v Q I1 r1 q1)
theorem opI{C:Ag->Ag->Prop}(rule:∀(i j:Ag)(t u:Cf)(s:Ap)(Q:Vq)(E:Vq),C i j->Q (.int (g i j) s.toks) {s with toks:=s.toks+1}->Az (model X.prog X.w) X.A (f (.int i t) (.int j u)) Q E s):OpR X f (rI C λi j=>.int (g i j)):=by
 intro pins s Z H x y v u Q I rx ry h;obtain⟨i,j,rfl,rfl,hc,q⟩:=h;obtain⟨t,rfl⟩:=rx;obtain⟨t',rfl⟩:=ry;exact rule i j t t' s _ _ hc ⟨.int (g i j),H,I.tok _,⟨_,rfl⟩,q⟩
theorem UV(rule:∀(i j:Ag)(t u:Cf)(s:Ap)(Q:Vq)(E:Vq),Q (.int (g i j) s.toks) {s with toks:=s.toks+1}->Az (model X.prog X.w) X.A (f (.int i t) (.int j u)) Q E s):OpR X f (rI0 λi j=>.int (g i j)):=by
 intro pins s Z H x y v u Q I rx ry h;obtain⟨i,j,rfl,rfl,q⟩:=h;obtain⟨t,rfl⟩:=rx;obtain⟨t',rfl⟩:=ry;exact rule i j t t' s _ _ ⟨.int (g i j),H,I.tok _,⟨_,rfl⟩,q⟩
theorem Nr{g:Ag->Ag->Aj}(rule:∀(i j:Ag)(t u:Cf)(s:Ap)(Q:Vq)(E:Vq),Q (.bool (g i j)) s->Az (model X.prog X.w) X.A (f (.int i t) (.int j u)) Q E s):OpR X f (rI0 λi j=>.bl (g i j)):=by
 intro pins s Z H x y v u Q I rx ry h;obtain⟨i,j,rfl,rfl,q⟩:=h;obtain⟨t,rfl⟩:=rx;obtain⟨t',rfl⟩:=ry;exact rule i j t t' s _ _ ⟨.bl (g i j),H,I,rfl,q⟩
def tX(i j:Ag):Prop:=0<j/\j<1073741824
def tW(i j:Ag):Prop:=0<=j/\j<=1000000/\i.natAbs<2 ^ 64
def Nw(i j:Ag):Prop:=(-(2 ^ 64)<i/\i<2 ^ 64)\/(-(2 ^ 64)<j/\j<2 ^ 64)
theorem Nw.ok{i j:Ag}(h:Nw i j):Lq i j:=by
 rcases h with ⟨h1,h2⟩|⟨h1,h2⟩
 .exact .of_left (intBits_le_64 h1 h2)
 .exact .of_right (intBits_le_64 h1 h2)
theorem kO:OpR X (Ch .Add) (rI0 λi j=>.int (i+j)):=UV λ_ _ _ _ _ _ _ q=>add_int q
theorem mE:OpR X (Ch .Sub) (rI0 λi j=>.int (i-j)):=UV λ_ _ _ _ _ _ _ q=>sub_int q
theorem cU:OpR X (Ch .FloorDiv) (rI tX λi j=>.int (i/j)):=opI λi j _ _ _ _ _ hc q=>by
 have h1:(0:Ag)<j:=hc.1;have h2:j<1073741824:=hc.2;exact floordiv_int (by omega) (by rw[Int.fdiv_eq_ediv_of_nonneg i (by omega)];exact q) (.inl (Wo (by omega)))
theorem mG:OpR X (Ch .Mod) (rI (λ_ j=>0<j) λi j=>.int (i%j)):=opI λi j _ _ _ _ _ hc q=>by
 have h1:(0:Ag)<j:=hc;exact mod_int' (by omega) (by rw[Int.fmod_eq_emod_of_nonneg i (by omega)];exact q)
theorem mF:OpR X (Ch .Pow) (rI tW λi j=>.int (i ^ j.toNat)):=opI λ_ _ _ _ _ _ _ hc q=>pow_int_small hc.1 hc.2.1 hc.2.2 q
theorem unI{f:Ai->DJ Ai}{g:Ag->Ag}(rule:∀(i:Ag)(t:Cf)(s:Ap)(Q:Vq)(E:Vq),Q (.int (g i) s.toks) {s with toks:=s.toks+1}->Az (model X.prog X.w) X.A (f (.int i t)) Q E s):UnR X f (rU λi=>.int (g i)):=by
 intro pins s Z H x v Q I rx h;obtain⟨i,rfl,q⟩:=h;obtain⟨t,rfl⟩:=rx;exact rule i t s _ _ ⟨.int (g i),H,I.tok _,⟨_,rfl⟩,q⟩
theorem gL:UnR X (unaryOp .USub) (rU λi=>.int (-i)):=unI λ_ _ _ _ _ q=>neg_int q
end
section
variable{X:Cx}{a b c:Am}{ta tb tc:TE}{pos:A3}
theorem Ua{Q:VK}{k k':Aj}(I:Inv X pins Z H s)(q:Q (.bl k) H)(e:k=k'):EP X pins Z Q (.bool k') s:=by
 subst e;exact⟨.bl k,H,I,rfl,q⟩
theorem rJ:OpR X (C0 .Lt) (rI0 λi j=>.bl (decide (i<j))):=Nr λ_ _ _ _ _ _ _ q=>lt_int q
theorem rK:OpR X (C0 .LtE) (rI0 λi j=>.bl (decide (i<=j))):=Nr λ_ _ _ _ _ _ _ q=>le_int q
theorem rL:OpR X (C0 .Gt) (rI0 λi j=>.bl (decide (j<i))):=Nr λ_ _ _ _ _ _ _ q=>gt_int q
theorem rM:OpR X (C0 .GtE) (rI0 λi j=>.bl (decide (j<=i))):=Nr λ_ _ _ _ _ _ _ q=>ge_int q
theorem mH:OpR X (C0 .Is) (λx y H Q=>y=.non/\Q (.bl (decide (x=.non))) H):=by
 intro pins s Z H x y v u Q I rx ry h;obtain⟨rfl,q⟩:=h;cases ry;refine is_none_gen (Ua I q ?_);cases x<;>first
  |(cases rx;rfl)
  |(obtain⟨t,rfl⟩:=rx;rfl)
theorem cS:OpR X (C0 .IsNot) (λx y H Q=>y=.non/\Q (.bl (!decide (x=.non))) H):=by
 intro pins s Z H x y v u Q I rx ry h;obtain⟨rfl,q⟩:=h;cases ry;refine isnot_none_gen (Ua I q ?_);cases x<;>first
  |(cases rx;rfl)
  |(obtain⟨t,rfl⟩:=rx;rfl)
theorem cL(ho:OpR X (C0 op) r)(ha:PE X a ta)(hb:PE X b tb)(hm:He op b=Af):PE X (.Compare a [op] [b] pos) (tOp r ta tb):=by
 intro pins s Z H Q I h;exact wpAny_Compare1 (Qf ha hb I h λv u s2 x y H2 I2 rx ry q=>ho pins s2 Z H2 x y v u Q I2 rx ry q) hm
def Uj(t:TE):TT:=λZ H Q=>t Z H λx H'=>∃ k,x=.bl k/\Q k H'
theorem dN(ho:OpR X (C0 op) r)(ha:PE X a ta)(hb:PE X b tb)(hm:He op b=Af):PT X (.Compare a [op] [b] pos) (Uj (tOp r ta tb)):=by
 intro pins s Z H Q I h;refine wpAny_isTrue_Compare1 (thn (ha pins s Z H _ I h) λv s1 ⟨x,H1,I1,r1,q1⟩=>thn (hb pins s1 Z H1 _ I1 q1) λu s2 ⟨y,H2,I2,r2,q2⟩=>
  thn (ho pins s2 Z H2 x y v u _ I2 r1 r2 q2) λc s3 ⟨z,H3,I3,r3,k,e,q3⟩=>?_) hm
 subst e;cases r3;exact Di ⟨H3,I3,q3⟩
def jN(r r':R2)(ta tb tc:TE):TE:=λZ H Q=>ta Z H λx H1=>tb Z H1 λy H2=>r x y H2 λz H3=>∃ k,z=.bl k /\
 (if k=Aa then tc Z H3 λw' H4=>r' y w' H4 Q else Q (.bl Af) H3)
theorem ZH{op':DX}{r':R2}(ho:OpR X (C0 op) r)(ho':OpR X (C0 op') r')(ha:PE X a ta)(hb:PE X b tb)(hc:PE X c tc)(hm:lastMarks [op,op'] [b,c]=Af:=by with_unfolding_all rfl):PT X (.Compare a [op,op'] [b,c] pos) (Uj (jN r r' ta tb tc)):=by
 intro pins s Z H Q I h;refine isTrue_chain (thn (ha pins s Z H _ I h) λv s1 ⟨x,H1,I1,r1,q1⟩=>test_link (thn (hb pins s1 Z H1 _ I1 q1) λu s2 ⟨y,H2,I2,r2,q2⟩=>
  thn (ho pins s2 Z H2 x y v u _ I2 r1 r2 q2) λd s3 ⟨z,H3,I3,r3,k,e,q3⟩=>?_)) hm
 subst e;cases r3;refine Di ?_;cases k with
 |false=>
  obtain⟨k',e',q'⟩:=q3;cases e';exact ite_ff ⟨H3,I3,q'⟩
 |true=>
  refine ite_tt (test_last (thn (hc pins s3 Z H3 _ I3 q3) λw' s4 ⟨z',H4,I4,r4,q4⟩=>thn (ho' pins s4 Z H4 y z' u w' _ I4 r2 r4 q4) λd' s5 ⟨z2,H5,I5,r5,k2,e2,q5⟩=>?_))
  subst e2;cases r5;exact Di ⟨H5,I5,q5⟩
noncomputable def Vb(K:Fg)(x:V)(H:Hp)(k:Aj):Prop:=
  match x with
  |.non=>k=Af
  |.bl b=>k=b
  |.int i=>k=(i != 0)
  |.str y=>y.length<=sizeLine/\k=((y.length:Ag) != 0)
  |.byt y=>y.size<=sizeLine/\k=((y.size:Ag) != 0)
  |.ref p=>(∃ xs,SqL K H p xs/\k=!xs.isEmpty)\/(∃ xs,SqT K H p xs/\k=!xs.isEmpty)\/∃ kvs,H p=Ab (.dK kvs)/\k=!kvs.isEmpty
  |_=>Bj
theorem Zh{κ:Type}{kvs:Ac (κ×V)}{vs:Ac (κ×Ai)}(r:KV kvs vs):(!vs.isEmpty)=!kvs.isEmpty:=by
 cases r<;>rfl
theorem Qs{its:Ac Ai}(r:A6 xs its):(!its.toArray.isEmpty)=!xs.isEmpty:=by
 cases r<;>simp
theorem K1:(sizeLine:Ae)<2 ^ 63:=by rw[Bz];decide
theorem gP:tS X (λx H Q=>∃ k,Vb X.K x H k/\Q k H):=by
 intro pins s Z H x v Q I rx h;obtain⟨k,e,q⟩:=h;have hl:=K1;have hs:sizeLine=16777216:=Bz;cases x with
 |non=>
  cases rx;have e':k=Af:=e;subst e';exact truthy_none ⟨H,I,q⟩
 |bl b=>
  cases rx;have e':k=b:=e;subst e';exact Di ⟨H,I,q⟩
 |int i=>
  obtain⟨t,rfl⟩:=rx;have e':k=(i != 0):=e;subst e';exact PySem.P.truthy_int ⟨H,I,q⟩
 |str y=>
  obtain⟨t,rfl⟩:=rx;obtain⟨hy,e'⟩:y.length<=sizeLine/\k=((y.length:Ag) != 0):=e;subst e';exact PySem.P.truthy_str (by omega) ⟨H,I.tok _,q⟩
 |byt y=>
  obtain⟨t,rfl⟩:=rx;obtain⟨hy,e'⟩:y.size<=sizeLine/\k=((y.size:Ag) != 0):=e;subst e';exact PySem.W.truthy_bytes (by omega) ⟨H,I.tok _,q⟩
 |ref p=>
  cases rx;have e':(∃ xs,SqL X.K H p xs/\k=!xs.isEmpty)\/(∃ xs,SqT X.K H p xs/\k=!xs.isEmpty)\/∃ kvs,H p=Ab (.dK kvs)/\k=!kvs.isEmpty:=e;rcases e' with ⟨xs,hx,e'⟩|⟨xs,hx,e'⟩|⟨kvs,hx,e'⟩
  .subst e';obtain⟨its,r,pl,hz⟩:=I.list hx;have hlen:=r.length;exact wpAny_truthy_list pl.isList (by simp only[AN];omega) ⟨H,I.tok _,by rw[Qs r];exact q⟩
  .subst e';obtain⟨its,r,pl,hz⟩:=I.tuple hx;have hlen:=r.length;exact truthy_tuple pl (by simp only[AN];omega) ⟨H,I.tok _,by rw[Qs r];exact q⟩
  .subst e';obtain⟨hz,hS,vs,r,m⟩:kvs.length<=sizeLine/\(p==Kw)=Af/\∃ vs,KV kvs vs/\s.heap.DictOf (OT X.prog X.w) p vs:=I.hok p _ hx;have hlen:kvs.length=vs.length:=Xm r;exact wpAny_truthy_dict hS m (by omega) ⟨H,I.tok _,by rw[Zh r];exact q⟩
 |_=>exact(show Bj from e).elim
theorem ZG(ha:PE X a ta)(he:∀ whole,IQ a X.env whole=(do let v <-whole;standAt a.pos;holding [v] (truthy v))):PT X a (λZ H Q=>ta Z H λx H'=>∃ k,Vb X.K x H' k/\Q k H'):=by
 intro pins s Z H Q I h;exact isTrue_plain (thn (ha pins s Z H _ I h) λv s1 ⟨x,H1,I1,r1,q1⟩=>gP pins s1 Z H1 x v Q I1 r1 q1) (he _)
theorem Zf:OpR X (Ch .Add) (λx y H Q=>∃ i j,x=.str i/\y=.str j/\i.length+j.length<=sizeLine/\Q (.str (i++j)) H):=by
 intro pins s Z H x y v u Q I rx ry h;obtain⟨i,j,rfl,rfl,hz,q⟩:=h;obtain⟨t,rfl⟩:=rx;obtain⟨t',rfl⟩:=ry;exact add_str (λt' tk=>⟨.str (i++j),H,I.tok _,⟨_,rfl⟩,q⟩) hz
theorem Jk{x:V}(r:A6 [x] us):∃ u,us=[u]/\BP x u:=by
 cases r with
 |cons r1 r2=>cases r2;exact⟨_,rfl,r1⟩
theorem Uf{x y:V}(r:A6 [x,y] us):∃ u w',us=[u,w']/\BP x u/\BP y w':=by
 cases r with
 |cons r1 r2=>
  cases r2 with
  |cons r3 r4=>cases r4;exact⟨_,_,rfl,r1,r3⟩
theorem aD(hc:X.calm=Aa):HW X (.builtin "min") (λxs H Q=>∃ i j,xs=[.int i,.int j]/\Q (.int (if j<i then j else i)) H):=by
 intro pins s Z H xs us Q I r h;obtain⟨i,j,rfl,q⟩:=h;obtain⟨u,w',rfl,⟨t,rfl⟩,⟨t',rfl⟩⟩:=Uf r;refine min_two_ints (I.ok.hd hc) λh' tk k=>⟨_,H,I.kept k,?_,q⟩
 by_cases hj:j<i
 .rw[Ar hj,Ar hj];exact⟨_,rfl⟩
 .rw[As hj,As hj];exact⟨_,rfl⟩
theorem Rm:HW X (.type "int") (λxs H Q=>(∃ i,xs=[.int i]/\Q (.int i) H)\/∃ k,xs=[.bl k]/\Q (.int (if k then 1 else 0)) H):=by
 intro pins s Z H xs us Q I r h;rcases h with ⟨i,rfl,q⟩|⟨k,rfl,q⟩
 .obtain⟨u,rfl,t,rfl⟩:=Jk r;exact call_int_int ⟨.int i,H,I,⟨_,rfl⟩,q⟩
 .obtain⟨u,rfl,r1⟩:=Jk r;cases r1;exact call_int_bool ⟨.int (if k then 1 else 0),H,I.tok _,⟨_,rfl⟩,q⟩
end
structure ObjM (h:AM) (x dx C:Al) (mA:Ak->Ao Ai):Prop where
 obj:h.get? x=Ab (Ej C dx)
 ns:h.Ns1 dx mA
 ne:dx≠x
theorem Zq(n:h.Ns1 dx mA):∃ od,h.get? dx=Ab od/\∀ name,IN name od=Ab (mA name):=by
 obtain⟨o,es,ep,ho,hd,hk,_,hm⟩:=n;refine⟨o,ho,λname=>?_⟩
 have e:=hm name;unfold nsFind findBy at e;rw[<-Array.find?_toList]at e;unfold IN;rw[hd];dsimp only;split
 .rename_i y q;rw[q]at e;exact congrArg Ab e
 .rename_i q;rw[q]at e;have a:es.toList.any (·.refKey)=Af:=by
   rw[List.any_eq_false];intro y hy;obtain⟨z,t,hkey⟩:=hk y (Et.mp hy);simp[DictEntry.refKey,hkey]
  have a':¬ es.toList.any (·.refKey)=Aa:=by rw[a];exact AE
  rw[As a'];exact congrArg Ab e
theorem ObjM.look{x C:Al}(I:ObjM h x dx C mA):∃ od,PySem.W.InstAt h x (Ej C dx) C (Ab od)/\∀ name,IN name od=Ab (mA name):=
 let ⟨od,ho,hl⟩:=Zq I.ns
 ⟨od,⟨I.obj,rfl,rfl,ho⟩,hl⟩
section
variable{prog:AR}{w:AT}{A:AU}{E:Vq}{s:Ap}{K:Fg}{x dx C f:Al}{mA:Ak->Ao Ai}{name:Ak}{v:Ai}
end
section
variable{P:AR}{w:AT}{H H':Hp}{h h':AM}{a C dx:Al}{fs fs':Ac (Ak×V)}
end
structure Cls (K:Fg) (C:Al):Prop where
 pg:XQ K C Str.empty=Aa
 hd:PySem.W.hasDictIn K C=Aa
 po:PySem.W.plainOver K C=Aa
 sa:Cw K (.ref C) "__setattr__" = Ab (Ab (.builtin "object.__setattr__"))
theorem Cls.get{K:Fg}{C:Al}(c:Cls K C)(f:Ak):XQ K C f=Aa:=c.pg
section
variable{X:Cx}{pins:Pn}{Z:St}{H:Hp}{s:Ap}{a C dx:Al}{fs:Ac (Ak×V)}{f:Ak}{v:V}{A:AU}{E:Vq}
theorem Inv.made(I:Inv X pins Z H s):Inv X pins Z (upd (upd H s.heap.objs.size (.own (s.heap.objs.size+1))) (s.heap.objs.size+1) (.ins C s.heap.objs.size [])) {s with heap:=(s.heap.push Dg).push (Ej C s.heap.objs.size)}:=by
  have e1:(s.heap.push Dg).get? s.heap.objs.size=Ab Dg:=AD s.heap rfl;have e2:((s.heap.push Dg).push (Ej C s.heap.objs.size)).get? (s.heap.objs.size+1)=Ab (Ej C s.heap.objs.size):=by
    have:=AD (s.heap.push Dg) (o:=Ej C s.heap.objs.size) rfl
    rwa [Ba]at this
  have e3:(s.heap.push Dg).Ns s.heap.objs.size (λ_=>Ad):=⟨Dg,#[],_,e1,rfl,(λe he=>absurd he (by simp)),λ_=>rfl⟩
  have I1:=I.laid (a:=s.heap.objs.size) (o:=.own (s.heap.objs.size+1)) (h':=s.heap.push Dg) (t':=s.toks) (λb u q=>Aq _ q) (Aw _) ⟨_,e1⟩
  refine I1.laid (a:=s.heap.objs.size+1) (o:=.ins C s.heap.objs.size []) (t':=s.toks) (λb u q=>Aq _ q) (Jw (Ba _ _)) ?_
  have ne:s.heap.objs.size≠s.heap.objs.size+1:=AV (Fl _);refine⟨by rw[Dq ne,Jc],BD _,ne,e2,λ_=>Ad,(Heap.Ns1.of_empty e3).at λo q=>Aq _ q,λ_=>True.intro,λy hy=>absurd rfl hy⟩
end
section
variable{X:Cx}{o e value:Am}{f:Ak}{pos pos' tpos:A3}{ta tv:TE}
end
section
variable{X:Cx}{pins:Pn}{Z:St}{H:Hp}{s:Ap}{A:AU}{E:Vq}{Q:Vq}{c:Ai}{b:Aj}
end
structure Room (k:Ae) (A:AU):Prop where
 hd:A.handled=Ad
 dp:A.depth+3*k+5<X4
 un:A.units+16*k+200<B8
 gd:A.guards=Ab []
theorem Room.mono{j:Ae}{A:AU}(r:Room k A)(h:j<=k):Room j A:=⟨r.hd,by have:=r.dp;omega,by have:=r.un;omega,r.gd⟩
theorem Room.deeper{A:AU}(r:Room (k+1) A)(env:CY):Room k (A.deeper env):=
 ⟨r.hd,by have:=r.dp;show A.depth+1+3*k+5<_;omega,by have:=r.un;show A.units+3+16*k+200<_;omega,r.gd⟩
theorem Room.depth{A:AU}(r:Room k A):A.depth<X4:=by have:=r.dp;omega
theorem Room.units{A:AU}(r:Room k A):A.units+64<B8:=by have:=r.un;omega
def tO:TA:=λ_ H Q=>Q [] H
def oF(ta:TE)(tr:TA):TA:=λZ H Q=>ta Z H λx H1=>tr Z H1 λxs H2=>Q (x::xs) H2
section
variable{X:Cx}{e:Am}{es:Ac Am}{te:TE}{t:TA}{pos:A3}
theorem G1:PA X [] tO:=λ_ _ _ _ H Q I h=>Hx ⟨[],H,I,.nil,h⟩
theorem FB(ha:PE X e te)(hr:PA X es t)(hs:AI (e::es) X.env=(Af,eval e X.env)::AI es X.env:=by rfl):PA X (e::es) (oF te t):=by
 intro pos pins s Z H Q I h;rw[hs];show Az _ _ (spliced ((Af,eval e X.env)::Cz pos (AI es X.env))) _ _ s;refine G7 (thn (ha pins s Z H _ I h) λu s1 ⟨x,H1,I1,r1,q1⟩=>?_)
 exact thn (hr pos pins s1 Z H1 _ I1 q1) λus s2 ⟨xs,H2,I2,r2,q2⟩=>⟨x::xs,H2,I2,.cons r1 r2,q2⟩
def tH(t:TA):TE:=λZ H Q=>t Z H λxs H1=>xs.length<=sizeLine/\∀ p,H1 p=Ad->Q (.ref p) (upd H1 p (.tup xs))
def tP(t:TA):TE:=λZ H Q=>t Z H λxs H1=>xs.length<=sizeLine/\∀ p,H1 p=Ad->Q (.ref p) (upd H1 p (.lst xs))
theorem lR{x1}(h:PA X es t):PE X (.Tuple es x1 pos) (tH t):=by
 intro pins s Z H Q I hq;refine wpAny_Tuple_spliced (thn (h pos pins s Z H _ I hq) λus s1 ⟨xs,H1,I1,r,z,q⟩=>⟨by rw[<-r.length];exact z,?_⟩)
 have hf:H1 s1.heap.objs.size=Ad:=I1.hok.fresh (Aw _);refine⟨.ref s1.heap.objs.size,upd H1 s1.heap.objs.size (.tup xs),I1.laid (t':=s1.toks) (λb u e=>Aq _ e) (Aw _) ?_,rfl,q _ hf⟩
 exact⟨z,us,r,⟨_,AD _ rfl,rfl,_,rfl⟩⟩
theorem lZ(h:PA X es t):PE X (.List es pos) (tP t):=by
 intro pins s Z H Q I hq;refine wpAny_List_spliced (thn (h pos pins s Z H _ I hq) λus s1 ⟨xs,H1,I1,r,z,q⟩=>⟨by rw[<-r.length];exact z,?_⟩)
 have hf:H1 s1.heap.objs.size=Ad:=I1.hok.fresh (Aw _);refine⟨.ref s1.heap.objs.size,upd H1 s1.heap.objs.size (.lst xs),I1.laid (t':=s1.toks) (λb u e=>Aq _ e) (Aw _) ?_,rfl,q _ hf⟩
 exact⟨z,us,0,r,AD _ rfl⟩
end
abbrev Sp:=Ac V->Hp->VK->XK->Prop
variable{sp:Sp}
abbrev CXT:=Ac CY->Hp->Ap->XK->Ai->Ap->Prop
variable{CX:CXT}
structure Env0 (P:AR) (w:AT) (K:Fg) (mg:Ak->Ao Ai) (base:AM) (A:AU) (outer:Ac CY) (s:Ap) (H:Hp):Prop where
 frames:A.frames=Ab outer
 mod:Mod K mg base
 bs:∀ b o,base.get? b=Ab o->s.heap.get? b=Ab o/\H b=Ad
 bsz:base.objs.size<=s.heap.objs.size
 funs:s.heap.FunFrames base outer
 frf:∀ b∈frs outer,H b=Ad
 hok:HOk P w H s.heap
 bare:FM s.gens
noncomputable def CE(outer:Ac CY)(P:AR)(w:AT)(H:Hp)(s:Ap)(Q:VK)(u:Ai)(s':Ap):Prop:=
 ∃ v H',s'.os=s.os/\FM s'.gens/\Un (frs outer) [] H H' s.heap s'.heap/\HOk P w H' s'.heap/\BP v u/\Q v H'
noncomputable def CR(CX:CXT)(outer:Ac CY)(P:AR)(w:AT)(H:Hp)(s:Ap)(Q:VK)(E:XK)(r:IL)(s':Ap):Prop:=
  match r with
  |.ok (.ret u)=>CE outer P w H s Q u s'
  |.ok _=>Bj
  |.error e=>CX outer H s E e s'
structure FnOk (P:AR) (w:AT) (K:Fg) (mg:Ak->Ao Ai) (base:AM) (CX:CXT) (k:Ae) (f:Al) (fd:Cn) (ps:Ac Ak) (sp:Sp):Prop where
 len:∀ vs H Q E,sp vs H Q E->vs.length=ps.length
 run:∀(A:AU)(outer:Ac CY)(s:Ap)(H:Hp)(args:Args)(us:Ac Ai)(vs:Ac V)(Q:VK)(E:XK),Room k A->Env0 P w K mg base A outer s H->HB s fd args (ps.zip us)->A6 vs us->sp vs H Q E ->
  FA (model P w) A (.call (.ref f) args) (CR CX outer P w H s Q E) s
theorem FnOk.imp{w:AT}{K:Fg}{mg:Ak->Ao Ai}{base:AM}{f:Al}{sp':Sp}(F:FnOk P w K mg base CX k f fd ps sp)(h:∀ vs H Q E,sp' vs H Q E->sp vs H Q E):FnOk P w K mg base CX k f fd ps sp':=
 ⟨λvs H Q E q=>F.len vs H Q E (h _ _ _ _ q),λA outer s H args us vs Q E hr he hb hv hs=>F.run A outer s H args us vs Q E hr he hb hv (h _ _ _ _ hs)⟩
section
variable{X:Cx}{pins:Pn}{Z:St}{H:Hp}{s s':Ap}
theorem Inv.env0(I:Inv X pins Z H s):Env0 X.prog X.w X.K X.mg X.base X.A X.stack s H:=
 ⟨I.ok.frames,I.ok.mod,I.bs,CV I.ok.bsz I.sz,I.stack,I.stkFree,I.hok,I.bare⟩
theorem Inv.after{Q:VK}(I:Inv X pins Z H s)(h:CE X.stack X.prog X.w H s Q u s'):EP X pins Z Q u s':=by
 obtain⟨v,H',os,bare,un,hok,r,q⟩:=h;obtain⟨hh,g,d,t,os'⟩:=s';obtain rfl:os'=s.os:=os;exact⟨v,H',I.call (h':=hh) (g':=g) (d':=d) (t':=t) (ch:=[]) un hok bare (λb z=>absurd z (by simp)),r,q⟩
end
def oG(sp:Sp)(dvs:Ac V)(E:XK)(t:TA):TE:=λZ H Q=>t Z H λvs H1=>sp (vs++dvs) H1 Q E
noncomputable def Iz(K:Fg)(fd:Cn)(ps:Ac Ak)(ds:Ac Ai):Prop:=
 ∀(s:Ap)(us:Ac Ai),K.In s.heap->(us++ds).length=ps.length->HB s fd ⟨us,[]⟩ (ps.zip (us++ds))
theorem Iz.all{K:Fg}(h:∀ us:Ac Ai,us.length=ps.length->Lv fd ⟨us,[]⟩=pure (ps.zip us)):Iz K fd ps []:=λs us _ hl=>by
 rw[Bw]at hl ⊢;exact .of_eq (h us hl)
def K7(CX:CXT)(X:Cx)(E:XK):Prop:=∀(pins:Pn)(Z:St)(H:Hp)(s:Ap)(e:Ai)(s':Ap),Inv X pins Z H s->CX X.stack H s E e s'->X.xe e s'
section
variable{X:Cx}{CX:CXT}{k:Ae}{f C:Al}{fd:Cn}{ps:Ac Ak}{sp:Sp}{dvs:Ac V}{ds:Ac Ai}{E:XK}{x m:Ak}{p pos apos:A3}{e o:Am}{es:Ac Am}{ta:TE}{t:TA}
theorem jJ{Q:VK}(F:FnOk X.prog X.w X.K X.mg X.base CX k f fd ps sp)(hr:Room k X.A)(hb:Iz X.K fd ps ds)(hd:A6 dvs ds)(hx:K7 CX X E)(I:Inv X pins Z H s)(r:A6 vs us)(h:sp (vs++dvs) H Q E):Az (model X.prog X.w) X.A (call (.ref f) us) (EP X pins Z Q) X.xe s:=by
 have r2:A6 (vs++dvs) (us++ds):=r.append hd;have hl:(us++ds).length=ps.length:=by rw[<-r2.length];exact F.len _ _ _ _ h
 refine wpAny_call (GE (F.run X.A X.stack s H ⟨us,[]⟩ (us++ds) (vs++dvs) Q E hr I.env0 (hb s us I.kIn hl) r2 h) λr s' hq=>?_)
 cases r with
 |error e=>exact hx pins Z H s e s' I hq
 |ok fl=>
  cases fl with
  |ret u=>exact I.after hq
  |next=>exact Ev hq
  |brk=>exact Ev hq
  |cont=>exact Ev hq
theorem SY(F:FnOk X.prog X.w X.K X.mg X.base CX k f fd ps sp)(hr:Room k X.A)(hg:Gl X x)(hm:X.mg x=Ab (.ref f))(hk:C9 X.K (.ref f)=Aa)(hb:Iz X.K fd ps ds)(hd:A6 dvs ds)(hx:K7 CX X E)(ha:PA X (e::es) t)(hdb:(x==("__debug__" : Ak))=Af:=by decide)(he:AI (e::es) X.env=(Af,eval e X.env)::AI es X.env:=by rfl)(hpl:(Cz pos (AI es X.env)).any (·.1)=Af:=by rfl):PE X (.Call (.Name x p) (e::es) [] pos) (oG sp dvs E t):=by
 intro pins s Z H Q I h;refine Hb (fC I hg hm ?_ hdb);refine PySem.W.callWith_K (h₀:=X.base) I.ok.mod.kin hk (thn (ha pos pins s Z H _ I h) λus s1 ⟨vs,H1,I1,r,q⟩=>⟨I1.kIn,?_⟩) he hpl
 exact jJ F hr hb hd hx I1 r q
structure Mk (K:Fg) (C f:Al):Prop where
 makes:PySem.W.makesIn K C=Aa
 init:Cw K (.ref C) "__init__" = Ab (Ab (.ref f))
 fn:PySem.W.isFn K (.ref f)=Aa
 kp:C9 K (.ref C)=Aa
end
section
variable{X:Cx}{CX:CXT}{k:Ae}{f C:Al}{fd:Cn}{ps ks:Ac Ak}{sp:Sp}{E:XK}{x m:Ak}{p pos apos kpos:A3}{e o:Am}{es:Ac Am}{kws:Ac Ei}{te ta:TE}{t tk:TA}{nm:Ao Ak}
variable{g:Ac Ai->Ac Ai->Ac Ai}{gV:Ac V->Ac V->Ac V}
end
structure FnScope (N P:Ac Ak) (sc:Ce):Prop where
 kind:sc.kind=.function
 co:sc.isCoroutine=Af
 gen:sc.isGenerator=Af
 nd:N.Nodup
 pre:N.take P.length=P
 par:∀ x∈P,sc.names.lookup x=Ab .local\/sc.names.lookup x=Ab .cell
 nofree:∀ y∈sc.names,y.2≠.free
theorem Ro{kindOf:Ak->Ao EO}{x:Ak}:∀{binds:Ac (Ak×Ai)}{m:Ak->Ao Ai},(∀ v,(x,v)∉binds)->IY kindOf binds m x=m x
 |[],_,_=>rfl
 |(n,v)::r,m,h=>by
  unfold IY;rw[Ro λw hw=>h w (AF _ hw)]
  split
  .have:x≠n:=by rintro rfl;exact h v AL
   simp[this]
  .rfl
theorem QU{kindOf:Ak->Ao EO}{x:Ak}:∀{binds:Ac (Ak×Ai)}{m:Ak->Ao Ai},(∀ v,(x,v)∉binds)->IX kindOf binds m x=m x
 |[],_,_=>rfl
 |(n,v)::r,m,h=>by
  unfold IX;rw[QU λw hw=>h w (AF _ hw)]
  split
  .rfl
  .have:x≠n:=by rintro rfl;exact h v AL
   simp[this]
theorem Rr{kindOf:Ak->Ao EO}{x:Ak}{v:Ai}:∀{P:Ac Ak}{vs:Ac Ai}{i:Ae}{m:Ak->Ao Ai},P.Nodup->P[i]?=Ab x->vs[i]?=Ab v->kindOf x=Ab .local->IY kindOf (P.zip vs) m x=Ab v
 |[],_,_,_,_,h,_,_=>by simp at h
 |_::_,[],_,_,_,_,h,_=>by simp at h
 |p::P,w::vs,0,m,nd,h1,h2,hk=>by
  simp at h1 h2;subst h1;subst h2;show IY kindOf ((p,w)::P.zip vs) m p=_;unfold IY;rw[Ro λv hv=>(DE.mp nd).1 (Ij hv).1,Ar hk]
  simp
 |p::P,w::vs,i+1,m,nd,h1,h2,hk=>by
  show IY kindOf ((p,w)::P.zip vs) m x=_;unfold IY;exact Rr (i:=i) (DE.mp nd).2 (by simpa using h1) (by simpa using h2) hk
theorem QV{kindOf:Ak->Ao EO}{x:Ak}{v:Ai}:∀{P:Ac Ak}{vs:Ac Ai}{i:Ae}{m:Ak->Ao Ai},P.Nodup->P[i]?=Ab x->vs[i]?=Ab v->kindOf x≠Ab .local->IX kindOf (P.zip vs) m x=Ab v
 |[],_,_,_,_,h,_,_=>by simp at h
 |_::_,[],_,_,_,_,h,_=>by simp at h
 |p::P,w::vs,0,m,nd,h1,h2,hk=>by
  simp at h1 h2;subst h1;subst h2;show IX kindOf ((p,w)::P.zip vs) m p=_;unfold IX;rw[QU λv hv=>(DE.mp nd).1 (Ij hv).1,As hk]
  simp
 |p::P,w::vs,i+1,m,nd,h1,h2,hk=>by
  show IX kindOf ((p,w)::P.zip vs) m x=_;unfold IX;exact QV (i:=i) (DE.mp nd).2 (by simpa using h1) (by simpa using h2) hk
noncomputable def start(N:Ac Ak)(vs:Ac V):St:=vs.map Ab++GW (N.length-vs.length) Ad
noncomputable def G2(CX:CXT)(P:AR)(w:AT)(K:Fg)(mg:Ak->Ao Ai)(base:AM)(N:Ac Ak)(qual:Ak)(scope:Ce)(f:Al)(cd:Ai)(A:AU)(outer:Ac CY)(s:Ap)(H:Hp)(E:XK):Cx where
 prog:=P
 w:=w
 K:=K
 mg:=mg
 base:=base
 A:=A.deeper (Fu qual scope s.heap.objs.size f cd)
 N:=N
 s₀:=s
 H₀:=H
 env:=Fu qual scope s.heap.objs.size f cd
 outer:=outer
 stack:=Fu qual scope s.heap.objs.size f cd::outer
 ex:=[]
 calm:=Aa
 fn:=λ_=>Aa
 pn:=[]
 xe:=λe s'=>Az (model P w) (A.deeper (Fu qual scope s.heap.objs.size f cd)) (leaving (Fu qual scope s.heap.objs.size f cd) e) (λ_ s''=>CX outer H s E e s'') (λe' s''=>CX outer H s E e' s'') s'
theorem Rx{sc:Ce}(h:sc.names.lookup x=Ab .cell):∃ c,(Dy n sc.names []).lookup x=Ab c:=by
 have q:=XM sc.names n [] (.inl h);exact Option.isSome_iff_exists.mp q
theorem Zt{w:AT}{K:Fg}{mg:Ak->Ao Ai}{base:AM}{N ps:Ac Ak}{f:Al}{cd:Ai}{A:AU}{outer:Ac CY}{s1:Ap}{E:XK}(S:FnScope N ps scope)(hd:A.handled=Ad)(e0:Env0 P w K mg base A outer s H)(hl:vs.length=ps.length)(r:A6 vs us)(x:InCallC s s.heap.objs.size (IY (Fu qual scope s.heap.objs.size f cd).kindOf (ps.zip us) λ_=>Ad) (Dy (s.heap.objs.size+1) scope.names []) (IX (Fu qual scope s.heap.objs.size f cd).kindOf (ps.zip us) λ_=>Ad) s1):Inv (G2 CX P w K mg base N qual scope f cd A outer s H E) [] (start N vs) H s1:=by
 have hpl:ps.length<=N.length:=by have:=congrArg Fw S.pre;rw[D5]at this;omega
 obtain⟨h1,tk,rfl,hk⟩:=x.done;have noA:∀ b:Al,b∉(G2 CX P w K mg base N qual scope f cd A outer s H E).ex:=λb z=>absurd (show b∈([]:Ac Al) from z) (by simp)
 refine⟨⟨e0.mod,S.kind,rfl,rfl,Aw _,λy z c h1 h2=>?_,λy hy=>?_,λy c _ h=>?_,λ_=>hd,Around.frames_deeper e0.frames,.inr ⟨rfl,rfl⟩,λb z=>absurd z (noA b),e0.bs,e0.bsz,λb _ _=>noA b,λb z=>absurd z (noA b),e0.funs,e0.frf⟩,
  rfl,e0.bare,Un.kept hk,⟨_,x.toInCall.ns,λi y v h1 h2 h3=>?_⟩,λy c h=>⟨_,x.cell y c h⟩,e0.hok.fresh (Aw _),λy c h=>?_,λp hp=>absurd (show p∈([]:Pn) from hp) (by simp),e0.hok.kept hk,?_⟩
 .exact name_of_addr x.apart (CI h1) (CI h2)
 .have hy:scope.names.lookup y=Ab .cell\/scope.names.lookup y=Ab .free:=hy;rcases hy with hy|hy
  .exact Rx hy
  .exact absurd rfl (S.nofree _ (CI hy))
 .exact Fb (x.above y c (CI h))
 .have hi:i<vs.length:=by
   unfold start at h2;by_cases hi:i<vs.length
   .exact hi
   .rw[Bv (by simpa using hi)]at h2
    rw[VI]at h2;split at h2<;>cases h2
  have ha:vs[i]?=Ab v:=by
   unfold start at h2;rw[CN (by simpa using hi),Bx]at h2
   cases e:vs[i]? with
   |none=>rw[e]at h2;cases h2
   |some a=>rw[e]at h2;cases h2;rfl
  obtain⟨u,hu,rv⟩:=r.get ha;have hp:ps[i]?=Ab y:=by
   rw[<-S.pre,List.getElem?_take_of_lt (by omega)];exact h1
  have ndP:ps.Nodup:=by rw[<-S.pre];exact S.nd.sublist (List.take_sublist _ _)
  refine⟨u,rv,?_⟩;rcases S.par y (Ey hp) with k|k
  .exact .inl ⟨k,Rr ndP hp hu k⟩
  .obtain⟨c,e⟩:=Rx (n:=s.heap.objs.size+1) k;refine .inr ⟨.inl k,c,e,?_⟩;have q:=x.cell y c e;rw[QV ndP hp hu (by show scope.names.lookup y≠_;rw[k];decide)]at q
   exact q
 .exact e0.hok.fresh (Fb (x.above y c (CI h)))
 .unfold start;show _=N.length;rw[Bp,AH,VP];omega
theorem UJ{w:AT}{K:Fg}{mg:Ak->Ao Ai}{base:AM}{f:Al}{name:Ak}{params:Arguments}{dV kV doc pm cdv ct oc:Ai}{an od:Ao Al}{osl:Au (Ao Ai)}{N ps:Ac Ak}(lk:K.lookup f=Ab ⟨oc,od,.func (Ef name qual params body scope dV kV doc pm an cdv ct),osl⟩)(hcd:FP K cdv qual=Aa)(S:FnScope N ps scope)(len:∀ vs H Q E,sp vs H Q E->vs.length=ps.length)(hbody:∀(A:AU)(outer:Ac CY)(s:Ap)(H:Hp)(vs:Ac V)(Q:VK)(E:XK),Room k (A.deeper (Fu qual scope s.heap.objs.size f cdv))->sp vs H Q E ->
   ∃ t,PSs (G2 CX P w K mg base N qual scope f cdv A outer s H E) body t/\t {nx:=λ_ H'=>Q .non H',rt:=Q} (start N vs) H):FnOk P w K mg base CX (k+1) f (Ef name qual params body scope dV kV doc pm an cdv ct) ps sp:=by
 refine⟨len,λA outer s H args us vs Q E hr e0 hb r hsp=>?_⟩
 have hl:=len _ _ _ _ hsp;have KX:K.In s.heap:=e0.mod.kin.keeps λb o e=>(e0.bs b o e).1
 have lim:s.heap.NoLimit:=e0.mod.nolimit.keeps λb o e=>(e0.bs b o e).1
 have hkind:∀ y∈ps.zip us,scope.names.lookup y.1=Ab .local\/(scope.names.lookup y.1=Ab .cell/\((Dy (s.heap.objs.size+1) scope.names []).lookup y.1).isSome=Aa):=λ⟨n,v⟩ hy=>by
  rcases S.par n (Ij hy).1 with q|q
  .exact .inl q
  .exact .inr ⟨q,XM _ _ _ (.inl q)⟩
 refine codeAny_call_function hr.depth (KX _ _ lk) rfl S.co S.gen rfl (PySem.W.codeRec_of KX hcd) (hb _ _ _ _ ?_);refine wpAny_newFunctionEnv_cells S.kind hkind λenv he s1 x=>?_
 subst he;refine⟨lim.keeps x.toInCall.keep,codeAny_func ?_⟩;obtain⟨t,ht,hq⟩:=hbody A outer s H vs Q E (hr.deeper _) hsp;have I:Inv (G2 CX P w K mg base N qual scope f cdv A outer s H E) [] (start N vs) H s1:=Zt S hr.hd e0 hl r x;refine Cu (ht [] s1 (start N vs) H _ I hq) (λfl s' hs=>?_) λe s' hs=>hs
 have fin:∀{Z':St}{H':Hp}{v:V}{u:Ai},Inv (G2 CX P w K mg base N qual scope f cdv A outer s H E) [] Z' H' s'->BP v u->Q v H'->CE outer P w H s Q u s':=
  λ{Z' H' v u} J rv q=>⟨v,H',J.os,J.bare,J.base,J.hok,rv,q⟩
 cases fl with
 |ret u=>
  obtain⟨v,Z',H',J,rv,q⟩:=hs;exact fin J rv q
 |next=>
  obtain⟨Z',H',J,q⟩:=hs;exact fin (v:=V.non) (u:=AG) J rfl q
 |brk=>
  obtain⟨_,_,_,q⟩:=hs;exact Ev q
 |cont=>
  obtain⟨_,_,_,q⟩:=hs;exact Ev q
section
variable{X:Cx}{x:Ak}{p pos:A3}{e:Am}{es:Ac Am}{t:TA}{id T:CO}{r:Ac V->Hp->VK->Prop}
def tCB(r:Ac V->Hp->VK->Prop)(t:TA):TE:=λZ H Q=>t Z H λvs H1=>r vs H1 Q
theorem OE(hc:HW X (.builtin id) r)(hg:Gl X x)(hm:X.mg x=Ad)(hv:CZ x=Ab (.builtin id))(ha:PA X (e::es) t)(hn:x≠"__name__" := by decide)(hdb:(x==("__debug__" : Ak))=Af:=by decide)(he:AI (e::es) X.env=(Af,eval e X.env)::AI es X.env:=by rfl)(hpl:(Cz pos (AI es X.env)).any (·.1)=Af:=by rfl):PE X (.Call (.Name x p) (e::es) [] pos) (tCB r t):=by
 intro pins s Z H Q I h;refine Hb (HQ I hg hm hv ?_ hn hdb);exact Wk (thn (ha pos pins s Z H _ I h) λus s1 ⟨vs,H1,I1,r1,q1⟩=>hc pins s1 Z H1 vs us Q I1 r1 q1) he hpl
theorem QH(hc:HW X (.type T) r)(hg:Gl X x)(hm:X.mg x=Ad)(hv:CZ x=Ab (.type T))(ha:PA X (e::es) t)(hn:x≠"__name__" := by decide)(hdb:(x==("__debug__" : Ak))=Af:=by decide)(he:AI (e::es) X.env=(Af,eval e X.env)::AI es X.env:=by rfl)(hpl:(Cz pos (AI es X.env)).any (·.1)=Af:=by rfl):PE X (.Call (.Name x p) (e::es) [] pos) (tCB r t):=by
 intro pins s Z H Q I h;refine Hb (HQ I hg hm hv ?_ hn hdb);exact BL (thn (ha pos pins s Z H _ I h) λus s1 ⟨vs,H1,I1,r1,q1⟩=>hc pins s1 Z H1 vs us Q I1 r1 q1) he hpl
end
end L2
namespace HT
open PySem PyProof.Rows
section
open PySem.SeqAt
open PySem.AutoSeq1 (wpAny_loadPart')
open PySem.MeetsSeq PySem.MeetsSeq2 PySem.MeetsSeq3
end
section
variable{prog:AR}{w:AT}{A:AU}{E:Vq}{s:Ap}
theorem cat_tup{t b:Al}{vs ws:Ac Ai}{Q:Vq}(ht:Lo s.heap t vs.toArray)(hb:Lo s.heap b ws.toArray)(hv:vs≠[])(h1:ws=[]->Q (.ref t) s)(h2:ws≠[]->Q (.ref s.heap.objs.size) { s with heap:=s.heap.push { cls:=.type "tuple",data:=.seq (vs++ws).toArray } })(hsz:vs.length+ws.length<=sizeLine):Az (model prog w) A (Ch .Add (.ref t) (.ref b)) Q E s:=by
 obtain⟨⟨cls,dd,data,sl⟩,ho,hc,n,hd⟩:=id ht;obtain⟨⟨cls2,dd2,data2,sl2⟩,ho2,hc2,n2,hd2⟩:=id hb;simp only at hc hd hc2 hd2;subst hc hd hc2 hd2;have e:vs.toArray++ws.toArray=(vs++ws).toArray:=by simp
 by_cases hw:ws=[]
 .exact JC ⟨_,ho,rfl⟩ ⟨_,ho2,rfl⟩ X0 seq_tuple_add Xg W7 (W3 _ _)
   (tuple_addW1 t b vs.toArray ws.toArray n n2 dd dd2 sl sl2 (by simpa using hv) (by simp[hw])) ⟨ho,ho2,h1 hw⟩
 .refine JC ⟨_,ho,rfl⟩ ⟨_,ho2,rfl⟩ X0 seq_tuple_add Xg W7 (W3 _ _)
   (tuple_addW2 t b vs.toArray ws.toArray n n2 dd dd2 sl sl2 (by simpa using hv) (by simpa using hw) (by rw[AN,AN];exact hsz)) ⟨ho,ho2,?_⟩
  rw[e];exact h2 hw
end
end HT
namespace L2
open PySem PySem.Spec PyProof.Rows
variable{xs:Ac V}{us its:Ac Ai}{n t':Ae}{i:Ag}{pins:Pn}{Z:St}{H:Hp}{s:Ap}
abbrev TO:=St->Hp->(Ao Ag->Hp->Prop)->Prop
noncomputable def PO(X:Cx)(e:Ao Am)(t:TO):Prop:=
 ∀(pins:Pn)(s:Ap)(Z:St)(H:Hp)(Q:Ao Ag->Hp->Prop),Inv X pins Z H s->t Z H Q ->
  Az (model X.prog X.w) X.A (evalPart e X.env) (λu s'=>∃ o H',Inv X pins Z H' s'/\IsPart u o/\Q o H') X.xe s
def bV:TO:=λ_ H Q=>Q Ad H
def oB(t:TE):TO:=λZ H Q=>t Z H λx H1=>∃ i,x=.int i/\Q (Ab i) H1
section
variable{X:Cx}{e:Am}{te:TE}{lo hi:Ao Am}{tl th:TO}{pos p2:A3}
theorem dR:PO X Ad bV:=by
 intro pins s Z H Q I h;rw[evalPart_none];exact At ⟨Ad,H,I,.none,h⟩
theorem dQ(h:PE X e te):PO X (Ab e) (oB te):=by
 intro pins s Z H Q I hw;rw[evalPart_some];refine thn (h pins s Z H _ I hw) λu s1 ⟨x,H1,I1,r1,q1⟩=>?_
 obtain⟨i,rfl,q⟩:=q1;obtain⟨t,rfl⟩:=r1;exact⟨Ab i,H1,I1,.int i t,q⟩
noncomputable def SlR(X:Cx)(r:V->Ao Ag->Ao Ag->Hp->VK->Prop):Prop:=
 ∀(pins:Pn)(s:Ap)(Z:St)(H:Hp)(x:V)(v vl vu:Ai)(lo hi:Ao Ag)(sl:Al)(Q:VK),Inv X pins Z H s->BP x v->s.heap.IsSliceOf sl vl vu .none->IsPart vl lo->IsPart vu hi->r x lo hi H Q ->
  ∃ T id,typeLookup (.type T) "__getitem__" = pure (Ab (.builtin id))/\s.TypeIs v T/\Az (model X.prog X.w) X.A (getItem v (.ref sl)) (EP X pins Z Q) X.xe s
theorem SlR.or{r r':V->Ao Ag->Ao Ag->Hp->VK->Prop}(h:SlR X r)(h':SlR X r'):SlR X (λx lo hi H Q=>r x lo hi H Q\/r' x lo hi H Q):=by
 intro pins s Z H x v vl vu lo hi sl Q I rx hs pl pu q;rcases q with q|q
 .exact h pins s Z H x v vl vu lo hi sl Q I rx hs pl pu q
 .exact h' pins s Z H x v vl vu lo hi sl Q I rx hs pl pu q
def qX(K:Fg):R2:=λx y H Q=>∃ a b xs ys,x=.ref a/\y=.ref b/\SqT K H a xs/\SqT K H b ys/\xs≠[]/\xs.length+ys.length<=sizeLine /\
 (ys=[]->Q (.ref a) H)/\(ys≠[]->∀ p,H p=Ad->Q (.ref p) (upd H p (.tup (xs++ys))))
theorem A6.nil_iff(r:A6 xs us):us=[]↔xs=[]:=by
 cases r with
 |nil=>simp
 |cons _ _=>simp
theorem fV:OpR X (Ch .Add) (qX X.K):=by
 intro pins s Z H x y v u Q I rx ry h;obtain⟨a,b,xs,ys,rfl,rfl,ha,hb,hx,hz,q1,q2⟩:=h;cases rx;cases ry;obtain⟨its,r1,p1,_⟩:=I.tuple ha;obtain⟨its2,r2,p2,_⟩:=I.tuple hb;refine HT.cat_tup p1 p2 (λz=>hx (r1.nil_iff.mp z)) (λz=>⟨.ref a,H,I,rfl,q1 (r2.nil_iff.mp z)⟩) (λz=>?_) (by rw[<-r1.length,<-r2.length];exact hz)
 refine⟨.ref s.heap.objs.size,_,I.laid (t':=s.toks) (o:=.tup (xs++ys)) (λb ob q=>Aq _ q) (Aw _) ?_,rfl,q2 (λw=>z (r2.nil_iff.mpr w)) _ (I.hok.fresh (Aw _))⟩
 exact⟨by rw[Bp];exact hz,_,r1.append r2,We _ _⟩
end
noncomputable def ixN(n:Ae)(i:Ag):Ao Ae:=if 0<=i then (if i<n then Ab i.toNat else Ad) else if -(n:Ag)<=i then Ab (i+n).toNat else Ad
noncomputable def atI{α:Type}(xs:Ac α)(i:Ag):Ao α:=(ixN xs.length i).bind λj=>xs[j]?
theorem fK{j:Ae}(h:ixN n i=Ab j):seqIndex? i n=Ab j/\j<n/\-(n:Ag)<=i/\i<n:=by
 unfold ixN at h;by_cases h0:0<=i
 .rw[Ar h0]at h;by_cases h1:i<n
  .rw[Ar h1]at h;have e:i.toNat=j:=Bg h;exact⟨by rw[seqIndex_of h0 h1,e],by omega,by omega,h1⟩
  .rw[As h1]at h;cases h
 .rw[As h0]at h;by_cases h1:-(n:Ag)<=i
  .rw[Ar h1]at h;have e:(i+n).toNat=j:=Bg h;exact⟨by rw[seqIndex_neg (by omega) h1,e],by omega,h1,by omega⟩
  .rw[As h1]at h;cases h
theorem OM{α:Type}{xs:Ac α}{v:α}(h:atI xs i=Ab v):∃ j,seqIndex? i xs.length=Ab j/\xs[j]?=Ab v/\j<xs.length/\-(xs.length:Ag)<=i/\i<xs.length:=by
 unfold atI at h;cases e:ixN xs.length i with
 |none=>rw[e]at h;cases h
 |some j=>
  rw[e]at h;obtain⟨h1,h2,h3,h4⟩:=fK e;exact⟨j,h1,h,h2,h3,h4⟩
def OY(b:Am):Prop:=∀ o i,subscripted b Af o i=operate [o,i] (getItem o i)
noncomputable def IxR(X:Cx)(r:R2):Prop:=
 ∀(value slice:Am)(pins:Pn)(s:Ap)(Z:St)(H:Hp)(x y:V)(v u:Ai)(Q:VK),Inv X pins Z H s->BP x v->BP y u->r x y H Q ->
  subscripted slice Af v u=operate [v,u] (getItem v u)->Az (model X.prog X.w) X.A (subscriptTail value slice v u) (EP X pins Z Q) X.xe s
noncomputable def MtR(X:Cx)(id:CO)(r:V->Ac V->Hp->VK->Prop):Prop:=
 ∀(pins:Pn)(s:Ap)(Z:St)(H:Hp)(x:V)(xs:Ac V)(v:Ai)(us:Ac Ai)(Q:VK),Inv X pins Z H s->BP x v->A6 xs us->r x xs H Q ->
  Az (model X.prog X.w) X.A (call (.builtin id) (v::us)) (EP X pins Z Q) X.xe s
section
variable{X:Cx}{a b:Am}{ta tb:TE}{pos:A3}
theorem IxR.or{r r':R2}(h:IxR X r)(h':IxR X r'):IxR X (λx y H Q=>r x y H Q\/r' x y H Q):=by
 intro value slice pins s Z H x y v u Q I rx ry q hs;rcases q with q|q
 .exact h value slice pins s Z H x y v u Q I rx ry q hs
 .exact h' value slice pins s Z H x y v u Q I rx ry q hs
theorem rF{r:R2}(hr:IxR X r)(ha:PE X a ta)(hb:PE X b tb)(hs:OY b):PE X (.Subscript a b pos) (tOp r ta tb):=by
 intro pins s Z H Q I h;exact Subscript_ (Qf ha hb I h λv u s2 x y H2 I2 rx ry q=>hr a b pins s2 Z H2 x y v u Q I2 rx ry q (hs _ _))
def UT(K:Fg):R2:=λx y H Q=>∃ p xs i v,x=.ref p/\y=.int i/\SqL K H p xs/\atI xs i=Ab v/\Q v H
def UR(K:Fg):R2:=λx y H Q=>∃ p xs i v,x=.ref p/\y=.int i/\SqT K H p xs/\atI xs i=Ab v/\Q v H
def US:R2:=λx y H Q=>∃ z i c,x=.str z/\y=.int i/\z.length<=sizeLine/\atI z.cps.toList i=Ab c/\Q (.str ⟨#[c]⟩) H
theorem fJ:IxR X (UT X.K):=by
 intro value slice pins s Z H x y v u Q I rx ry h hs;obtain⟨p,xs,i,z,rfl,rfl,hq,he,q⟩:=h;cases rx;obtain⟨t,rfl⟩:=ry;obtain⟨its,r,pl,hz⟩:=I.list hq;obtain⟨j,h1,h2,h3,h4,h5⟩:=OM he;obtain⟨w,ew,rw'⟩:=r.get h2;have hl:=r.length;have hn:=K1;have fin:EP X pins Z Q w s:=⟨z,H,I,rw',q⟩;by_cases h0:0<=i
 .have hj:i.toNat=j:=by
   rw[seqIndex_of h0 h5]at h1;exact Bg h1
  exact item_listR pl.isList h0 (by omega) (by rw[hj];simpa using ew) fin hs
 .have hj:(i+(its.toArray.size:Ag)).toNat=j:=by
   rw[seqIndex_neg (by omega) h4]at h1
   rw[AN,<-hl];exact Bg h1
  exact Wn (x:=w) pl.isList.typeIs slot_list_getitem.lookup
   (wpAny_getItem_list_neg (Q:=λr s'=>r=w/\EP X pins Z Q r s') pl.isList (by omega) (by rw[AN]<;>omega) (by omega) (by rw[hj];simpa using ew) ⟨rfl,fin⟩) hs
theorem kG:IxR X (UR X.K):=by
 intro value slice pins s Z H x y v u Q I rx ry h hs;obtain⟨p,xs,i,z,rfl,rfl,hq,he,q⟩:=h;cases rx;obtain⟨t,rfl⟩:=ry;obtain⟨its,r,pl,hz⟩:=I.tuple hq;obtain⟨j,h1,h2,h3,h4,h5⟩:=OM he;obtain⟨w,ew,rw'⟩:=r.get h2;have hl:=r.length;have hn:=K1;have fin:EP X pins Z Q w s:=⟨z,H,I,rw',q⟩;exact Wn (x:=w) pl.typeIs slot_tuple_getitem.lookup
  (getItem_tuple (j:=j) (Q:=λr s'=>r=w/\EP X pins Z Q r s') pl (by omega) (by omega) (by rw[AN,<-hl];exact h1) (by simpa using ew) ⟨rfl,fin⟩) hs
theorem kH:IxR X US:=by
 intro value slice pins s Z H x y v u Q I rx ry h hs;obtain⟨z,i,c,rfl,rfl,hz,he,q⟩:=h;obtain⟨t,rfl⟩:=rx;obtain⟨t',rfl⟩:=ry;obtain⟨j,h1,h2,h3,h4,h5⟩:=OM he;have hl:z.cps.toList.length=z.length:=by simp[Str.length]
 rw[hl]at h1 h4 h5;have hn:=K1;exact tail_any (Kx s z t) slot_str_getitem.lookup (getItem_str (c:=c) (by
  have e1:decide (i < -(2 ^ 63:Ag))=Af:=BH (by omega)
  have e2:decide (i ≥ 2 ^ 63)=Af:=BH (by omega)
  rw[e1,e2,F9]) (by rw[h1];simpa using h2) ⟨.str ⟨#[c]⟩,H,I.tok _,⟨_,rfl⟩,q⟩) hs
def rIx(K:Fg):R2:=λx y H Q=>UT K x y H Q\/UR K x y H Q\/US x y H Q
theorem kI:IxR X (rIx X.K):=fJ.or (kG.or kH)
theorem Inv.lst{p:Al}(I:Inv X pins Z H s)(h:H p=Ab (.lst xs)):
  ∃(its:Ac Ai)(n:Ae),A6 xs its/\s.heap.get? p=Ab { cls:=.type "list",data:=.seq its.toArray n }/\xs.length<=sizeLine:=by
 obtain⟨z,its,n,r,e⟩:=I.hok p _ h;exact⟨its,n,r,e,z⟩
theorem YI:OpR X (C0 .NotIn) (λx y H Q=>∃ i j,x=.str i/\y=.str j/\Q (.bl (!(!(Builtin.Str.occurrences j i 0 j.length 1).isEmpty))) H):=by
 intro pins s Z H x y v u Q I rx ry h;obtain⟨i,j,rfl,rfl,q⟩:=h;obtain⟨t,rfl⟩:=rx;obtain⟨t',rfl⟩:=ry;exact notIn_str ⟨.bl _,H,I,rfl,q⟩
theorem Qi:HW X (.builtin "len") (λxs H Q=>∃ p ys,xs=[.ref p]/\(SqL X.K H p ys\/SqT X.K H p ys)/\Q (.int ys.length) H):=by
 intro pins s Z H xs us Q I r h;obtain⟨p,ys,rfl,hq,q⟩:=h;obtain⟨u,rfl,rx⟩:=Jk r;cases rx;have hn:=K1;rcases hq with hq|hq
 .obtain⟨its,r',pl,hz⟩:=I.list hq;have hlen:=r'.length;exact Calls.call_len_list pl.isList (by simp only[AN]<;>omega) ⟨.int ys.length,H,I.tok _,⟨s.toks+1,by rw[AN,hlen]⟩,q⟩
 .obtain⟨its,r',pl,hz⟩:=I.tuple hq;have hlen:=r'.length;exact len_tuple pl (by simp only[AN]<;>omega) ⟨.int ys.length,H,I.tok _,⟨s.toks+1,by rw[AN,hlen]⟩,q⟩
theorem YJ:HW X (.builtin "len") (λxs H Q=>∃ z,xs=[.str z]/\z.length<=sizeLine/\Q (.int z.length) H):=by
 intro pins s Z H xs us Q I r h;obtain⟨z,rfl,hz,q⟩:=h;obtain⟨u,rfl,t,rfl⟩:=Jk r;have hn:=K1;exact len_str (by omega) ⟨.int z.length,H,I.tok _,⟨_,rfl⟩,q⟩
theorem Qh:HW X (.type "list") (λxs H Q=>∃ p ys,xs=[.ref p]/\(SqL X.K H p ys\/SqT X.K H p ys)/\∀ l,H l=Ad->Q (.ref l) (upd H l (.lst ys))):=by
 intro pins s Z H xs us Q I r h;obtain⟨p,ys,rfl,hq,q⟩:=h;obtain⟨u,rfl,rx⟩:=Jk r;cases rx;have fin:∀(its:Ac Ai),A6 ys its->ys.length<=sizeLine->∀(h':AM)(c':Ae),(∀ b o',s.heap.get? b=Ab o'->h'.get? b=Ab o') ->
   h'.get? s.heap.objs.size=Ab { cls:=.type "list",dict:=Ad,data:=.seq its.toArray c',slots:=#[] }->EP X pins Z Q (.ref s.heap.objs.size) {s with heap:=h'}:=λits r' hz h' c' kp e=>
  ⟨.ref s.heap.objs.size,_,I.laid (t':=s.toks) kp (Aw _) (show ObjOk X.prog X.w _ h' _ (.lst ys) from ⟨hz,its,c',r',e⟩),rfl,q _ (I.hok.fresh (Aw _))⟩
 rcases hq with hq|hq
 .obtain⟨its,r',pl,hz⟩:=I.list hq;have hlen:=r'.length;obtain⟨o,ho,hc,n,hd⟩:=pl.isList;exact call_list_seq p (.inl rfl) ho hc hd (λh' c' kp e=>fin its r' hz h' c' kp e) (by simp only[AN]<;>omega)
 .obtain⟨its,r',pl,hz⟩:=I.tuple hq;have hlen:=r'.length;obtain⟨o,ho,hc,n,hd⟩:=pl;exact call_list_seq p (.inr rfl) ho hc hd (λh' c' kp e=>fin its r' hz h' c' kp e) (by simp only[AN]<;>omega)
theorem Qk:HW X (.type "tuple") (λxs H Q=>∃ p ys,xs=[.ref p]/\((SqL X.K H p ys/\∀ l,H l=Ad->Q (.ref l) (upd H l (.tup ys)))\/(SqT X.K H p ys/\Q (.ref p) H))):=by
 intro pins s Z H xs us Q I r h;obtain⟨p,ys,rfl,h⟩:=h;obtain⟨u,rfl,rx⟩:=Jk r;cases rx;rcases h with ⟨hq,q⟩|⟨hq,q⟩
 .obtain⟨its,r',pl,hz⟩:=I.list hq;have hlen:=r'.length;refine call_tuple_list pl.isList (λh' kp=>?_) (by simp only[AN]<;>omega)
  have I1:Inv X pins Z H {s with heap:=h'}:=I.kept (t':=s.toks) kp
  have I2:Inv X pins Z (upd H h'.objs.size (.tup ys)) { s with heap:=h'.push { cls:=.type "tuple",data:=.seq its.toArray } }:=
   I1.laid (t':=s.toks) (λb o e=>Aq _ e) (Aw _) (show ObjOk X.prog X.w _ _ _ (.tup ys) from ⟨hz,its,r',We _ _⟩)
  exact⟨.ref h'.objs.size,_,I2,rfl,q _ (I1.hok.fresh (Aw _))⟩
 .obtain⟨its,r',pl,hz⟩:=I.tuple hq;exact call_tuple_same pl ⟨.ref p,H,I,rfl,q⟩
def tyV(K:Fg)(T:CO)(x:V)(H:Hp):Prop:=match x with
  |.str _=>T = "str"
  |.int _=>T = "int"
  |.ref p=>(T = "list"/\∃ xs,SqL K H p xs)\/(T = "tuple"/\∃ o,K.lookup p=Ab o/\o.cls=.type "tuple"/\o.dict=Ad) \/
      (T = "dict"/\((∃ kvs,H p=Ab (.dK kvs))\/∃ kvs,H p=Ab (.dT kvs)))\/(T = "set"/\∃ S n,H p=Ab (.set S n))
  |_=>Bj
theorem gM{T:CO}{x:V}{v:Ai}(I:Inv X pins Z H s)(r:BP x v)(ty:tyV X.K T x H):s.TypeIs v T/\∀ a,v=.ref a->∃ ob,s.heap.get? a=Ab ob/\ob.dict=Ad:=by
 cases x with
 |str z=>
  obtain⟨t,rfl⟩:=r;cases (show T = "str" from ty)
  exact⟨Kx s z t,λ_ e=>nomatch e⟩
 |int i=>
  obtain⟨t,rfl⟩:=r;cases (show T = "int" from ty)
  exact⟨typeIs_int s i t,λ_ e=>nomatch e⟩
 |ref p=>
  cases r;rcases ty with ⟨rfl,xs,hq⟩|⟨rfl,o,hk,hc,hd⟩|⟨rfl,hk⟩|⟨rfl,S,n,hk⟩
  .obtain⟨its,_,pl,_⟩:=I.list hq;refine⟨pl.isList.typeIs,λa e=>?_⟩
   cases e;obtain⟨o,n,e,c,hd,_⟩:=pl;exact⟨o,e,hd⟩
  .refine⟨⟨o,I.kIn p o hk,hc⟩,λa e=>?_⟩
   cases e;exact⟨o,I.kIn _ o hk,hd⟩
  .have z:∃ o,s.heap.get? p=Ab o/\o.ExactDict:=by
    rcases hk with ⟨kvs,hk⟩|⟨kvs,hk⟩
    .obtain⟨_,_,_,_,o,_,_,e,ex,_⟩:=I.hok p _ hk;exact⟨o,e,ex⟩
    .obtain⟨_,_,_,_,o,_,_,e,ex,_⟩:=I.hok p _ hk;exact⟨o,e,ex⟩
   obtain⟨o,e,ex⟩:=z;refine⟨⟨o,e,ex.1⟩,λa e2=>?_⟩
   cases e2;exact⟨o,e,ex.2.1⟩
  .obtain⟨o,_,_,_,e,ex,_⟩:=I.hok p _ hk;refine⟨⟨o,e,ex.1⟩,λa e2=>?_⟩
   cases e2;exact⟨o,e,ex.2.1⟩
 |_=>exact Ev ty
def tBM(K:Fg)(T:CO)(r:V->Ac V->Hp->VK->Prop)(to:TE)(t:TA):TE:=λZ H Q=>to Z H λx H1=>tyV K T x H1/\t Z H1 λxs H2=>r x xs H2 Q
variable{o e:Am}{es:Ac Am}{to:TE}{t:TA}{name:Ak}{apos cpos:A3}{T id:CO}{r:V->Ac V->Hp->VK->Prop}
theorem M6(pa:PlainAttrs T)(slot:Slot T name id)(hty:typeOf (.builtin id)=pure (.type "method_descriptor"))(hm:MtR X id r)(ho:PE X o to)(ha:PA X (e::es) t)(hbase:Gb o name X.env (eval o X.env)=eval o X.env:=by rfl)(hfew:((Cz cpos (AI (e::es) X.env)).all (λx=>!x.1)&&(IW cpos (G3 [] X.env)).all (λx=>x.1.isSome)
   && decide ((e::es).length+([]:Ac Ei).length+(if ([]:Ac Ei).isEmpty then 0 else 1)<30))=Aa:=by rfl)(hline:(apos.endLine==cpos.line)=Aa:=by rfl)(hs:AI (e::es) X.env=(Af,eval e X.env)::AI es X.env:=by rfl)(hplain:(Cz cpos (AI es X.env)).any (·.1)=Af:=by rfl):PE X (.Call (.Attribute o name apos) (e::es) [] cpos) (tBM X.K T r to t):=by
 intro pins s Z H Q I h;refine wpAny_Call_method_late hbase hfew hline rfl (thn (ho pins s Z H _ I h) λv s1 ⟨x,H1,I1,r1,ty,q1⟩=>?_)
 obtain⟨h1,h2⟩:=gM I1 r1 ty;refine⟨T,id,pa,slot,hty,h1,h2,?_⟩;have hA:=ha cpos pins s1 Z H1 _ I1 q1;rw[hs]at hA ⊢;refine Calls.callWith_builtin (by show (Af||(Cz cpos (AI es X.env)).any (·.1))=Af;rw[hplain]<;>rfl) (Calls.evalArgs_plain ?_)
 exact thn hA λus s2 ⟨vs,H2,I2,r2,q2⟩=>hm pins s2 Z H2 x vs v us Q I2 r1 r2 q2
/- xs.append(e),list.index on a module's tuple .. are MtR facts of 06m -/
end
noncomputable def MtM(X:Cx)(id:CO)(r:V->Ac V->Hp->VK->Prop):Prop:=
 ∀(pins:Pn)(s:Ap)(Z:St)(H:Hp)(x:V)(xs:Ac V)(v:Ai)(us:Ac Ai)(Q:VK),Inv X pins Z H s->BP x v->A6 xs us->r x xs H Q ->
  Az (model X.prog X.w) X.A (call (.builtin id) (v::us)) (EP X pins Z Q) X.xe s
theorem A6.one:∀{x:V}{us:Ac Ai},A6 [x] us->∃ u,us=[u]/\BP x u
 |_,_,.cons r .nil=>⟨_,rfl,r⟩
theorem A6.zero:∀{us:Ac Ai},A6 [] us->us=[]
 |_,.nil=>rfl
theorem A6.eraseIdx:∀{xs:Ac V}{us:Ac Ai}(i:Ae),A6 xs us->A6 (xs.eraseIdx i) (us.eraseIdx i)
 |_,_,_,.nil=>.nil
 |_,_,0,.cons _ t=>t
 |_,_,i+1,.cons r t=>.cons r (A6.eraseIdx i t)
theorem A6.reverse(h:A6 xs us):A6 xs.reverse us.reverse:=by
 induction h with
 |nil=>exact .nil
 |cons r t ih=>rw[VZ,VZ];exact A6.append ih (.cons r .nil)
section
variable{X:Cx}{pins:Pn}{Z:St}{H:Hp}{s:Ap}{l b:Al}{xs ys zs:Ac V}
theorem Inv.lset{its':Ac Ai}{f:Au Ai->Au Ai}(I:Inv X pins Z H s)(hH:H l=Ab (.lst xs))(e:s.heap.get? l=Ab { cls:=.type "list",data:=.seq its.toArray n })(hf:f its.toArray=its'.toArray)(hv:A6 ys its')(hz:ys.length<=sizeLine):Inv X pins Z (upd H l (.lst ys)) {s with heap:=s.heap.update l (BV f),toks:=t'}:=by
 have q:=PySem.IsL.update e f;rw[hf]at q;refine I.write (x:=l) (e:=l) (by rw[hH];exact trivial) (.inl rfl) (λb' u hb hu=>(Co s.heap (BV f) (DQ hb)).trans hu) ⟨_,q⟩ ?_
 exact⟨hz,its',_,hv,q⟩
theorem Inv.lnew(I:Inv X pins Z H s)(hv:A6 ys its)(hz:ys.length<=sizeLine):
  Inv X pins Z (upd H s.heap.objs.size (.lst ys)) { s with heap:=s.heap.push { cls:=.type "list",data:=.seq its.toArray },toks:=t' }:=
 I.laid (λ_ _ q=>Aq _ q) (Aw _) ⟨hz,its,0,hv,AD _ rfl⟩
theorem Inv.fresh(I:Inv X pins Z H s):H s.heap.objs.size=Ad:=I.hok.fresh (Aw _)
theorem Inv.lstM(I:Inv X pins Z H s)(hH:H l=Ab (.lst xs)):xs.length<=sizeLine/\∃(its:Ac Ai)(n:Ae),A6 xs its/\xs.length=its.length/\s.heap.get? l=Ab { cls:=.type "list",data:=.seq its.toArray n }:=by
 obtain⟨z,its,n,r,e⟩:=I.hok l _ hH;exact⟨z,its,n,r,r.length,e⟩
theorem RH(h:n<=sizeLine):DH n=Af:=by
 unfold DH;exact BH (by omega)
end
section
variable{X:Cx}
def dI:V->Ac V->Hp->VK->Prop:=λx vs H Q=>∃ l xs y,x=.ref l/\vs=[y]/\H l=Ab (.lst xs)/\xs.length<sizeLine/\Q .non (upd H l (.lst (xs++[y])))
theorem Zo:MtM X "list.append" dI:=by
 intro pins s Z H x vs v us Q I rx rv h;obtain⟨l,xs,y,rfl,rfl,hH,hz,q⟩:=h;cases rx;obtain⟨u,rfl,ru⟩:=rv.one;obtain⟨z,its,n,r,hl,e⟩:=I.lstM hH;refine Ja F.slot_list_append ⟨_,e,rfl⟩ F.entry_list_append (F.args_list_append_2 _ _) (PySem.list_append l its.toArray n u (by rw[AN];omega)) ⟨e,?_⟩
 refine⟨.non,_,I.lset (its':=its++[u]) hH e (by simp) (r.append (.cons ru .nil)) ?_,rfl,q⟩
 rw[Bp,VQ];omega
def dH:V->Ac V->Hp->VK->Prop:=λx vs H Q=>∃ l b xs zs,x=.ref l/\vs=[.ref b]/\H l=Ab (.lst xs)/\H b=Ab (.lst zs)/\xs.length+zs.length<=sizeLine/\Q .non (upd H l (.lst (xs++zs)))
theorem Zn:MtM X "list.extend" dH:=by
 intro pins s Z H x vs v us Q I rx rv h;obtain⟨l,b,xs,zs,rfl,rfl,hH,hB,hz,q⟩:=h;cases rx;obtain⟨u,rfl,ru⟩:=rv.one;cases ru;obtain⟨z,its,n,r,hl,e⟩:=I.lstM hH;obtain⟨z2,its2,n2,r2,hl2,e2⟩:=I.lstM hB;have hsz:its.toArray.size+its2.toArray.size<=sizeLine:=by rw[AN,AN];omega
 have hlong:¬ (!its.toArray.isEmpty&&DH (its.toArray.size+its2.toArray.size))=Aa:=by
  rw[RH hsz,FL];exact AE
 refine Ja Fc ⟨_,e,rfl⟩ W6 (W1 _ _)
  (AutoSeq1.list_extend_list_list_0 l its.toArray n b its2.toArray n2 hlong (by rw[AN];omega) (by omega)) ⟨e,e2,?_⟩
 refine⟨.non,_,I.lset (its':=its++its2) hH e (by simp) (r.append r2) ?_,rfl,q⟩
 rw[Bp];omega
end
section
variable{prog:AR}{w:AT}{A:AU}{E:Vq}{s:Ap}
set_option maxRecDepth 100000 in
end
section
variable{X:Cx}
end
end L2
namespace Att
open PySem PySem.W PySem.Calls PyProof.Rows
variable{P:Lr}{h:AM}{l:F7}{n:Ae}
theorem Yv:∀(ns:Ac Ag)(vs:Ac Ai),WellAll P h vs (ns.map XH)->EX vs ns:=by
 intro ns
 induction ns with
 |nil=>
  intro vs w;rw[List.map_nil]at w;cases w;exact .nil
 |cons n ns ih=>
  intro vs w;rw[CC]at w;cases w with
  |cons a b=>
   cases a;exact .cons _ _ (ih _ b)
theorem YL(hn:l.most=Ab n){args:Ac WData}{vals:Ac Ai}(hpre:l.row.toRowW.claim.pre args=Aa)(hwl:WellAll P h vals args):
  ∃ a vs ns,vals=[Bu a]/\args=[WData.list (ns.map XH)]/\h.get? a=Ab { cls:=.type "list",data:=.seq vs.toArray }/\EX vs ns/\ns.length<=n:=by
 have hsh:WShape.hasAll [] args [.list .int]=Aa:=(pre_splitW hpre).1;have hc:l.pre.holds [] {args:=args}=Aa:=(pre_splitW hpre).2;obtain⟨d,r,rfl,h1,h2⟩:=hasAllW_cons hsh;obtain rfl:=hasAllW_nil h2;obtain⟨xs,rfl,h3⟩:=hasW_list h1;obtain⟨ns,rfl⟩:=items_int h3;have hlen:ns.length<=n:=by
  unfold OpenLaw.pre at hc;have h4:(WTm.not (.lt (.lit (.int (n:Ag))) (.len (.arg 0)))).holds [] {args:=[.list (ns.map .int)]}=Aa:=by
   have h4:=(holds_andW hc).1;rw[hn]at h4;exact h4
  have h5:=condW_of h4 (w_not (w_lt w_lit (w_len_list (w_arg rfl))));rw[AH]at h5;refine Nat.le_of_not_lt λq=>?_
  have q':(n:Ag)<((ns.length:Ae):Ag):=by omega
  first
   |(rw[BJ q']at h5;exact absurd h5 (by decide))
   |(simp at h5;omega)
 cases hwl with
 |cons w1 w2=>
  cases w2;cases w1 with
  |list ho hall=>exact⟨_,_,ns,rfl,rfl,ho,Yv ns _ hall,hlen⟩
theorem Zy(l:F7)(args:Ac WData):l.row.toRowW.claim.post args (.bool Aa) args=Aa:=
 postW_of (r:=l.row.toRowW) (X:=(Aa==Aa))
  (show XI [] (.bool Aa) .bool=Aa by first|rfl|decide|simp[XI,WShape.arms,WShape.armsAll])
  (show (WTm.eq .res (.lit (.bool Aa))).value [] {args:=args,res:=Ab (.bool Aa),after:=args}=Ab (.bool (Aa==Aa)) from w_eq_bool (w_res rfl) w_lit) rfl
theorem attach_call{q:AR}{loose:Ac Ak}{XP:(Ak->Ao Ai)->AM->Prop}{YP:AT->AM->Prop}{d:DefRec}(hn:l.most=Ab n)(hdf:d.params.defaults=[])(call:∀(w:AT)(s₀ s₁:Ap)(mg mb:Ak->Ao Ai)(fa:Al)(o:De)(pm cd doc:Ai)(a:Al)(vs:Ac Ai)(ns:Ac Ag),
   Ground q loose [] XP w s₀ mg mb s₁.heap->YP w s₁.heap ->
   s₁.heap.get? fa=Ab o->o.data=.func (docDef d.name d.params d.body d.scope pm cd doc)->s₁.heap.CodeRec cd d.name->mg d.name=Ab (.ref fa) ->
   s₁.heap.get? a=Ab { cls:=.type "list",data:=.seq vs.toArray }->EX vs ns->ns.length<=n->s₁.gens=#[] ->
   FA (model l.prog w) HC (.call (.ref fa) ⟨[.ref a],[]⟩) (λr s'=>r=.ok (.ret (.bool Aa))/\OldK s₁.heap s'.heap/\s'.os=s₁.os/\FM s'.gens) s₁):WalkO q loose XP YP l.row.toRowW d [] (λf vs=>Kv f vs):=by
 intro w s₀ s₁ mg mb G Y_ fa o pm cd doc dV kV ho hd hcd hD hmg hg args vals as hpre hlay hrd hwl hlo;obtain rfl:dV=.none:=Dflts.none hD hdf;obtain rfl:kV=.none:=Dflts.noKw hD;obtain⟨a,vs,ns,rfl,rfl,hobj,hints,hlen⟩:=YL hn hpre hwl;refine enter_call (GE (call w s₀ s₁ mg mb fa o pm cd doc a vs ns G Y_ ho (fd_plain hd) hcd hmg hobj hints hlen hg) λr s' hq=>?_)
 obtain⟨rfl,h2,h3,h4⟩:=hq;exact⟨.inl ⟨.bool Aa,.bool Aa,[],rfl,λ_=>rfl,.bool Aa,Zy l _,λ_=>⟨List.Pairwise.nil,λ_ hm=>(nomatch hm)⟩⟩,h2,h3,h4⟩
section
variable{prog:AR}{w:AT}{A:AU}{E:Vq}{s:Ap}{K:Frag}
end
end Att
namespace L2
open PySem PySem.Spec PyProof.Rows
variable{k:Ae}{x:Ak}
theorem QJ:∀{vs:Ac Ai}{ns:Ac Ag},EX vs ns->A6 (ns.map V.int) vs
 |_,_,.nil=>.nil
 |_,_,.cons n t h=>.cons ⟨t,rfl⟩ (QJ h)
def Qc(H:Hp):Prop:=∀ b,H b=Ad\/∃ o xs,H b=Ab (.frz o (.lst xs))
theorem aF{P:AR}{w:AT}{K:Fg}{mg mb:Ak->Ao Ai}{CX:CXT}{fa a:Al}{fd:Cn}{sp:Sp}{s₁:Ap}{vs:Ac Ai}{ns:Ac Ag}(KX:K.In s₁.heap)(hns:s₁.heap.Ns A8 mg)(hb:s₁.heap.Ns IZ mb)(hbb:∀ x:Ak,x≠"__name__"->mb x=CZ x)(hlim:s₁.heap.NoLimit)(hg:s₁.gens=#[])(ha:s₁.heap.get? a=Ab { cls:=.type "list",data:=.seq vs.toArray })(hi:EX vs ns)(hl:ns.length<=sizeLine)(hr:Room k HC)(F:∀ base:AM,K.In base->base.Ns A8 mg->FnOk P w K mg base CX k fa fd [x] sp)(hbind:∀(s:Ap)(u:Ai),HB s fd ⟨[u],[]⟩ [(x,u)])(hsp:∀ H:Hp,Qc H->SqL K H a (ns.map V.int)->sp [.ref a] H (λv _=>v=.bl Aa) λ_ _ _=>Bj)(hCX:∀ H e s',CX [] H s₁ (λ_ _ _=>Bj) e s'->Bj):FA (model P w) HC (.call (.ref fa) ⟨[.ref a],[]⟩) (λr s'=>r=.ok (.ret (.bool Aa))/\OldK s₁.heap s'.heap/\s'.os=s₁.os/\FM s'.gens) s₁:=by
 have rv:=QJ hi;have lenV:=hi.length
 -- from an abstract heap in which nothing but the script may be tracked
 have core:∀ H:Hp,Qc H->SqL K H a (ns.map V.int)->HOk P w H s₁.heap->(∀ b,H b≠Ad->b=a)->(H a≠Ad->K.lookup a=Ad) ->
   FA (model P w) HC (.call (.ref fa) ⟨[.ref a],[]⟩) (λr s'=>r=.ok (.ret (.bool Aa))/\OldK s₁.heap s'.heap/\s'.os=s₁.os/\FM s'.gens) s₁:=by
  intro H hO hS hok hA hK;have base_of:∀{b:Al}{o:De},s₁.heap.get? b=Ab o->H b=Ad->(Jn s₁.heap H).get? b=Ab o:=λe n=>aJ e n
  have noA:∀{b:Al}{o:De}{es:Au DictEntry}{ep:Ae},s₁.heap.get? b=Ab o->o.data=.dict es ep->H b=Ad:=λ{b o es ep} e d=>by
   cases q:H b with
   |none=>rfl
   |some u=>
    have e':b=a:=hA b (by rw[q];simp)
    subst e';rw[ha]at e;cases e;have d':Lp vs.toArray _=Data.dict es ep:=d;cases d'
  have nsK:∀{b:Al}{m:Ak->Ao Ai},s₁.heap.Ns b m->(Jn s₁.heap H).Ns b m:=λ{b m} ⟨o,es,ep,e,d,r⟩=>⟨o,es,ep,base_of e (noA e d),d,r⟩
  have hKb:K.In (Jn s₁.heap H):=λb o e=>base_of (KX b o e) (by
   cases q:H b with
   |none=>rfl
   |some u=>
    have e':b=a:=hA b (by rw[q];simp)
    subst e';rw[hK (by rw[q];simp)]at e;cases e)
  have hM:Mod K mg (Jn s₁.heap H):=⟨hKb,nsK hns,⟨mb,nsK hb,hbb⟩,let ⟨mc,h1,h2⟩:=hlim;⟨mc,nsK h1,h2⟩⟩
  have e0:Env0 P w K mg (Jn s₁.heap H) HC [] s₁ H:=⟨rfl,hM,λb o e=>gA e,Jw (Zu _ _),trivial,λb hb=>absurd (show b∈([]:Ac Al) from hb) (by simp),hok,.of_eq hg⟩
  refine GE ((F _ hKb (nsK hns)).run HC [] s₁ H ⟨[.ref a],[]⟩ [.ref a] [.ref a] _ _ hr e0 (hbind s₁ (.ref a)) (.cons rfl .nil) (hsp H hO hS)) λr s' h=>?_
  cases r with
  |error e=>exact(hCX H e s' h).elim
  |ok fl=>
   cases fl with
   |next=>exact Ev h
   |brk=>exact Ev h
   |cont=>exact Ev h
   |ret u=>
    obtain⟨v,H',os,bare,un,hok',r',q⟩:=h;have q':v=.bl Aa:=q;subst q';obtain rfl:u=XF Aa:=r';refine⟨rfl,OldK.of_keep λb o e=>?_,os,bare⟩
    cases q:H b with
    |none=>exact un.keep b o e q (by intro z;exact absurd (show b∈([]:Ac Al) from z) (by simp)) (by simp)
    |some u=>
     rcases hO b with z|⟨ob,xs,z⟩
     .rw[q]at z;cases z
     .have z2:=un.frzs b ob _ z;obtain⟨e1,_⟩:=hok b _ z;obtain⟨e2,_⟩:=hok' b _ z2;rw[e]at e1;cases e1;exact e2
 cases hk:K.lookup a with
 |some o=>
  -- the script is one of the module's own objects
  have e:=KX a o hk;rw[ha]at e;cases e;refine core (λ_=>Ad) (λ_=>.inl rfl) (.inr ⟨_,vs.toArray,_,hk,rfl,rfl,rfl,by rw[AN,lenV];exact hl,by simpa using rv⟩) (λb u z=>by have z':(Ad:Ao HO)=Ab u:=z;cases z') (λb z=>absurd rfl z) λz=>absurd rfl z
 |none=>
  refine core (λb=>if b=a then Ab (.frz { cls:=.type "list",data:=.seq vs.toArray } (.lst (ns.map V.int))) else Ad) (λb=>?_) (.inl (.inr ⟨{ cls:=.type "list",data:=.seq vs.toArray },Ar rfl⟩)) (λb u z=>?_) (λb z=>?_) λ_=>hk
  .by_cases hb:b=a
   .exact .inr ⟨_,_,Ar hb⟩
   .exact .inl (As hb)
  .by_cases hb:b=a
   .have z':=(Ar hb).symm.trans z;cases z';subst hb;exact⟨ha,by rw[AH];exact hl,vs,_,rv,ha⟩
   .have z':=(As hb).symm.trans z;cases z'
  .by_cases hb:b=a
   .exact hb
   .exact absurd (As hb) z
noncomputable abbrev KOf{K:Fg}{h:AM}(_:K.In h):Fg:=K
theorem walk_of{l:F7}{n:Ae}{q:AR}{loose:Ac Ak}{XP:(Ak->Ao Ai)->AM->Prop}{YP:AT->AM->Prop}{d:DefRec}{K:Lr->Fg}{CX:AT->CXT}{sp:AT->Sp}(hn:l.most=Ab n)(hn2:n<=sizeLine)(hdf:d.params.defaults=[])(hr:Room k HC)(hY:∀(w:AT)(h:AM),YP w h->(K w.params).In h)(F:∀(w:AT)(mg:Ak->Ao Ai)(fa:Al)(h:AM),(K w.params).In h->h.Ns A8 mg->mg d.name=Ab (.ref fa) ->
   ∃ fd:Cn,(∀(s:Ap)(u:Ai),HB s fd ⟨[u],[]⟩ [(x,u)]) /\
    ∀ base:AM,(K w.params).In base->base.Ns A8 mg->FnOk l.prog w (K w.params) mg base (CX w) k fa fd [x] (sp w))(hsp:∀(w:AT)(H:Hp)(a:Al)(ns:Ac Ag),ns.length<=n->Qc H->SqL (K w.params) H a (ns.map V.int)->sp w [.ref a] H (λv _=>v=.bl Aa) λ_ _ _=>Bj)(hCX:∀(w:AT)(H:Hp)(s:Ap)(e:Ai)(s':Ap),CX w [] H s (λ_ _ _=>Bj) e s'->Bj):XJ q loose XP YP l.row.toRowW d [] (λf vs=>Kv f vs):=by
 refine Att.attach_call hn hdf λw s₀ s₁ mg mb fa o pm cd doc a vs ns G Y_ ho hd hcd hmg hobj hints hlen hg=>?_
 have KX:=hY w _ Y_;obtain⟨fd,hb,hF⟩:=F w mg fa _ KX G.T.g hmg;exact aF KX G.T.g G.T.b G.T.builtins G.T.nolimit hg hobj hints (CV hlen hn2) hr hF hb (λH hO hS=>hsp w H a ns hlen hO hS) λH e s'=>hCX w H s₁ e s'
end L2
/- THE LAST THEOREM (shape;LID,My.* are yours):
   My.Adr:a structure of the addresses that your layer names (classes,functions);My.Txt K t:a structure (Prop) of the equations over K;
   My.txt_mk:{K} {implicit addresses ..} (e1:nsIn K A8 "law" = Ab (Ab (.ref f))) (e2:K.lookup f=Ab ⟨oc,od,.func (fnOf "law" "law" params body scope dV kV doc pm an cdv ct),sl⟩) (e3:codeIn K cdv "law" = Aa) ..:∃ t,My.Txt K t
set_option maxRecDepth 100000 in
set_option maxHeartbeats 0 in
theorem PySem.Challenge.cw_LID_holds:PySem.Challenge.rw_LID.Holds:=by
 w_on;o_law;k_head;(case hw=>w_witness2)
 k_fill
 refine L2.walk_of (l:=PySem.Challenge.rw_LID) (n:=63) (k:=40) (x := "script") (CX:=λw=>..) (sp:=λ_=>My.sp_law) rfl (by decide) rfl ⟨rfl,by decide,by decide⟩ (λw h Y_=>XN Y_) ?F ?S ?C
 case F=>
  intro w mg fa h KX G hmg;have T:∃ t,My.Txt (L2.KOf KX) t:=by
   dsimp only[L2.KOf]                          -- K must stand as «<heap const> w.params» for k_is
   refine' My.txt_mk ?e1 ?e2 ?e3 ..
   (case e1=>PySem.W.k_is)                    -- in the order: a name -> its address -> its object -> its parts
   (case e2=>PySem.W.k_is)
   ..
  obtain⟨t,T⟩:=T;have e0:=hmg.symm.trans (Jt KX G T.law);cases e0                                       -- fa is the law's own address
  exact⟨_,fun s u=>.of_eq rfl,fun base kb nb=>My.law_fn T kb nb⟩     -- if «.of_eq rfl» comes too early: refine' ⟨_,?b,fun base kb nb=>My.law_fn T kb nb⟩;exact fun s u=>.of_eq rfl
 case S=>exact λw H a ns hl hO hS=>..
 case C=>exact ..
(the tactic k_is has no namespace:write k_is) -/
namespace L2
open PySem PySem.Spec PyProof.Rows
noncomputable def Kb(s:Bm):Arguments:=match s with
  |.FunctionDef _ a _ _ _ _ _ _ _ _=>a
  |_=>{posonlyargs:=[],args:=[],vararg:=Ad,kwonlyargs:=[],kw_defaults:=[],kwarg:=Ad,defaults:=[]}
noncomputable def HU(s:Bm):Ac Bm:=match s with
  |.FunctionDef _ _ b _ _ _ _ _ _ _=>b
  |_=>[]
noncomputable def GK(s:Bm):Ce:=match s with
  |.FunctionDef _ _ _ _ _ _ sc _ _ _=>sc
  |_=>{kind:=.function,names:=[],isGenerator:=Af,isCoroutine:=Af}
noncomputable abbrev CX0:CXT:=λ_ _ _ _ _ _=>Bj
structure Fun (K:Fg) (x qual:Ak) (st:Bm) (f:Al) (fd:Cn):Prop where
 ex:∃(oc:Ai)(od:Ao Al)(kV doc pm:Ai)(an:Ao Al)(cdv ct:Ai)(osl:Au (Ao Ai)),
  fd=Ef x qual (Kb st) (HU st) (GK st) .none kV doc pm an cdv ct/\K.lookup f=Ab ⟨oc,od,.func fd,osl⟩/\FP K cdv qual=Aa
 kp:C9 K (.ref f)=Aa
section
variable{P:AR}{w:AT}{K:Fg}{mg:Ak->Ao Ai}{base:AM}
theorem Fun.ok{x qual:Ak}{st:Bm}{f:Al}{fd:Cn}{N ps:Ac Ak}{k:Ae}{sp:Sp}(F:Fun K x qual st f fd)(S:FnScope N ps (GK st))(len:∀ vs H Q E,sp vs H Q E->vs.length=ps.length)(hbody:∀(cdv:Ai)(A:AU)(outer:Ac CY)(s:Ap)(H:Hp)(vs:Ac V)(Q:VK)(E:XK),Room k (A.deeper (Fu qual (GK st) s.heap.objs.size f cdv))->sp vs H Q E ->
   ∃ t,PSs (G2 CX0 P w K mg base N qual (GK st) f cdv A outer s H E).nox (HU st) t/\t {nx:=λ_ H'=>Q .non H',rt:=Q} (start N vs) H):FnOk P w K mg base CX0 (k+1) f fd ps sp:=by
 obtain⟨oc,od,kV,doc,pm,an,cdv,ct,osl,rfl,lk,hcd⟩:=F.ex;refine UJ lk hcd S len λA outer s H vs Q E hr hsp=>?_
 obtain⟨t,h,q⟩:=hbody cdv A outer s H vs Q E hr hsp;exact⟨t,h.nox,q⟩
theorem Fun.binds{x qual:Ak}{st:Bm}{f:Al}{fd:Cn}{ps:Ac Ak}(F:Fun K x qual st f fd)(h:∀(kV doc pm:Ai)(an:Ao Al)(cdv ct:Ai)(us:Ac Ai),us.length=ps.length->Lv (Ef x qual (Kb st) (HU st) (GK st) .none kV doc pm an cdv ct) ⟨us,[]⟩=pure (ps.zip us)):Iz K fd ps []:=by
 obtain⟨oc,od,kV,doc,pm,an,cdv,ct,osl,rfl,lk,hcd⟩:=F.ex;exact .all (h kV doc pm an cdv ct)
theorem nK{x qual:Ak}{st:Bm}{f:Al}{oc:Ai}{od an:Ao Al}{osl:Au (Ao Ai)}{kV doc pm cdv ct:Ai}(l:K.lookup f=Ab ⟨oc,od,.func (Ef x qual (Kb st) (HU st) (GK st) .none kV doc pm an cdv ct),osl⟩)(c:FP K cdv qual=Aa)(k:C9 K (.ref f)=Aa):Fun K x qual st f (Ef x qual (Kb st) (HU st) (GK st) .none kV doc pm an cdv ct):=⟨⟨oc,od,kV,doc,pm,an,cdv,ct,osl,rfl,l,c⟩,k⟩
end
section
variable{X:Cx}
end
def AO(H H':Hp):Prop:=∀ b o,H b=Ab o->H' b=Ab o
theorem AO.refl(H:Hp):AO H H:=λ_ _ h=>h
theorem AO.trans{H H1 H2:Hp}(a:AO H H1)(b:AO H1 H2):AO H H2:=λc o h=>b c o (a c o h)
theorem AO.free{H H':Hp}(e:AO H H'){l:Al}(h:H' l=Ad):H l=Ad:=by
 cases q:H l with
 |none=>rfl
 |some o=>
  rw[e l o q]at h;cases h
end L2
section
namespace Ov
open PySem
variable{α β:Type}
inductive D where
 |non|bl (b:Aj)|int (i:Ag)|str (x:Ak)|tup (ds:Ac D)|lst (ds:Ac D)
 |obj (c:Ae) (fs:Ac (Ak×D))|exc (c:Ae) (fs:Ac (Ak×D))|dic (kvs:Ac (Ac Ag×D))
 deriving Inhabited
structure Ex where
 c:Ae
 fs:Ac (Ak×D)
 deriving Inhabited
inductive R (α:Type) where
 |ok (a:α)|exn (x:Ex)|bad
 deriving Inhabited
noncomputable def R.bind{α β:Type}(r:R α)(f:α->R β):R β:=match r with
  |.ok a=>f a
  |.exn x=>.exn x
  |.bad=>.bad
@[simp]theorem R.bind_ok(a:α)(f:α->R β):(R.ok a).bind f=f a:=rfl
@[simp]theorem R.bind_exn(x:Ex)(f:α->R β):(R.exn x:R α).bind f=.exn x:=rfl
@[simp]theorem R.bind_bad(f:α->R β):(R.bad:R α).bind f=.bad:=rfl
theorem R.bind_assoc{γ:Type}(r:R α)(f:α->R β)(g:β->R γ):(r.bind f).bind g=r.bind λa=>(f a).bind g:=by cases r<;>rfl
noncomputable def BQ(n:Ae):Aj:=Fx n 1000000
noncomputable def FC(i j:Ag):Aj:=(decide (-(18446744073709551616:Ag)<i)&&decide (i<18446744073709551616))||(decide (-(18446744073709551616:Ag)<j)&&decide (j<18446744073709551616))
noncomputable def Nh(i j:Ag):Aj:=decide (i.natAbs<2 ^ 2000)&&decide (j.natAbs<2 ^ 2000)
noncomputable def Dr:Gh->D->D->R D
 |.Add,.int i,.int j=>.ok (.int (i+j))
 |.Sub,.int i,.int j=>.ok (.int (i-j))
 |.Mult,.int i,.int j=>if (FC i j||Nh i j)=Aa then .ok (.int (i*j)) else .bad
 |.FloorDiv,.int i,.int j=>if 0<j/\j<1073741824 then .ok (.int (i/j)) else .bad
 |.Mod,.int i,.int j=>if 0<j then .ok (.int (i%j)) else .bad
 |.Pow,.int i,.int j=>if (0<=j/\j<=1000000)/\(-(18446744073709551616:Ag)<i/\i<18446744073709551616) then .ok (.int (i ^ j.toNat)) else .bad
 |.Add,.str x,.str y=>if BQ (x.length+y.length)=Aa then .ok (.str (x++y)) else .bad
 |.Add,.lst x,.lst y=>if BQ (x.length+y.length)=Aa then .ok (.lst (x++y)) else .bad
 |.Add,.tup x,.tup y=>if (!x.isEmpty&&BQ (x.length+y.length))=Aa then .ok (.tup (x++y)) else .bad
 |_,_,_=>.bad
noncomputable def unD:JS->D->R D
 |.USub,.int i=>.ok (.int (-i))
 |_,_=>.bad
noncomputable def b2i(b:Aj):Ag:=if b=Aa then 1 else 0
mutual
noncomputable def eqD:D->D->Aj
 |.non,.non=>Aa
 |.bl a,.bl b=>a==b
 |.bl a,.int j=>b2i a==j
 |.int i,.bl b=>i==b2i b
 |.int i,.int j=>i==j
 |.str x,.str y=>x==y
 |.tup xs,.tup ys=>eqDs xs ys
 |.lst xs,.lst ys=>eqDs xs ys
 |_,_=>Af
noncomputable def eqDs:Ac D->Ac D->Aj
 |[],[]=>Aa
 |x::xs,y::ys=>eqD x y&&eqDs xs ys
 |_,_=>Af
end
noncomputable def flD:Ae->D->Aj
 |_,.non=>Aa
 |_,.bl _=>Aa
 |_,.int _=>Aa
 |_,.str _=>Aa
 |n+1,.tup xs=>xs.all (flD n)
 |n+1,.lst xs=>xs.all (flD n)
 |_,_=>Af
noncomputable def Lj:D->Ao (Ac Ag)
 |.tup ds=>keyDs ds
 |_=>Ad
where keyDs:Ac D->Ao (Ac Ag)
 |[]=>Ab []
 |.int i::r=>(keyDs r).map (i :: ·)
 |_=>Ad
noncomputable def ltD:Ae->D->D->Aj
 |0,.int i,.int j=>decide (i<j)
 |n+1,.tup xs,.tup ys=>ltDs (ltD n) xs ys
 |_,_,_=>Af
where ltDs (lt:D->D->Aj):Ac D->Ac D->Aj
 |[],[]=>Af
 |[],_::_=>Aa
 |_::_,[]=>Af
 |x::xs,y::ys=>if eqD x y=Aa then ltDs lt xs ys else lt x y
noncomputable def rkD:Ae->D->Aj
 |0,.int _=>Aa
 |n+1,.tup xs=>xs.all (rkD n)
 |_,_=>Af
noncomputable def Lk(lt:D->D->Aj)(x:D):Ac D->Ac D
 |[]=>[x]
 |y::ys=>if lt y x=Aa then y::Lk lt x ys else x::y::ys
noncomputable def JM(lt:D->D->Aj):Ac D->Ac D
 |[]=>[]
 |x::xs=>Lk lt x (JM lt xs)
noncomputable def Lh:Ac D->Aj
 |[]=>Aa
 |x::xs=>xs.all (λy=>!eqD x y)&&Lh xs
noncomputable def G0(xs:Ac D):R (Ac D):=if (xs.all (λd=>rkD 1 d && !eqD d (.tup []))&&Lh xs&&decide (xs.length<=1000))=Aa then .ok (JM (ltD 1) xs) else .bad
noncomputable def Cb:DX->D->D->R D
  |.Eq,x,y=>if (flD 5 x&&flD 5 y)=Aa then .ok (.bl (eqD x y)) else .bad
  |.NotEq,x,y=>if (flD 5 x&&flD 5 y)=Aa then .ok (.bl (!eqD x y)) else .bad
  |.Lt,.int i,.int j=>.ok (.bl (decide (i<j)))
  |.LtE,.int i,.int j=>.ok (.bl (decide (i<=j)))
  |.Gt,.int i,.int j=>.ok (.bl (decide (j<i)))
  |.GtE,.int i,.int j=>.ok (.bl (decide (j<=i)))
  |.In,x,.lst ys=>if (flD 5 x&&ys.all (flD 5))=Aa then .ok (.bl (ys.any λy=>eqD y x)) else .bad
  |.In,x,.dic kvs=>match Lj x with
    |some k=>.ok (.bl (kvs.any λp=>p.1==k))
    |none=>.bad
  |.In,x,.tup ys=>if (flD 5 x&&ys.all (flD 5))=Aa then .ok (.bl (ys.any λy=>eqD y x)) else .bad
  |.NotIn,x,.lst ys=>if (flD 5 x&&ys.all (flD 5))=Aa then .ok (.bl (!ys.any λy=>eqD y x)) else .bad
  |.NotIn,x,.tup ys=>if (flD 5 x&&ys.all (flD 5))=Aa then .ok (.bl (!ys.any λy=>eqD y x)) else .bad
  |.NotIn,.str x,.str y=>.ok (.bl (!(!(PySem.Builtin.Str.occurrences y x 0 y.length 1).isEmpty)))
  |.Is,.non,.non=>.ok (.bl Aa)
  |.Is,.bl _,.non=>.ok (.bl Af)
  |.Is,.int _,.non=>.ok (.bl Af)
  |.Is,.str _,.non=>.ok (.bl Af)
  |.Is,.tup _,.non=>.ok (.bl Af)
  |.Is,.lst _,.non=>.ok (.bl Af)
  |.Is,.obj _ _,.non=>.ok (.bl Af)
  |.Is,.bl a,.bl b=>.ok (.bl (a==b))
  |.IsNot,.bl a,.bl b=>.ok (.bl (!(a==b)))
  |.IsNot,.non,.non=>.ok (.bl Af)
  |.IsNot,.bl _,.non=>.ok (.bl Aa)
  |.IsNot,.int _,.non=>.ok (.bl Aa)
  |.IsNot,.str _,.non=>.ok (.bl Aa)
  |.IsNot,.tup _,.non=>.ok (.bl Aa)
  |.IsNot,.lst _,.non=>.ok (.bl Aa)
  |.IsNot,.obj _ _,.non=>.ok (.bl Aa)
  |_,_,_=>.bad
noncomputable def Cj:D->R Aj
 |.non=>.ok Af
 |.bl b=>.ok b
 |.int i=>.ok (i != 0)
 |.str x=>if BQ x.length=Aa then .ok (x.length != 0) else .bad
 |.tup xs=>.ok (!xs.isEmpty)
 |.lst xs=>.ok (!xs.isEmpty)
 |_=>.bad
noncomputable def plD(n:Ae)(i:Ag):Ao Ae:=if 0<=i then (if i<n then Ab i.toNat else Ad) else if -(n:Ag)<=i then Ab (i+n).toNat else Ad
noncomputable def Fq(xs:Ac D)(i:Ag):R D:=match plD xs.length i with
  |some k=>match xs[k]? with
    |some d=>.ok d
    |none=>.bad
  |none=>.bad
noncomputable def nP(kvs:Ac (Ac Ag×D))(k:Ac Ag):Ao D:=(kvs.find? λp=>p.1==k).map (·.2)
noncomputable def Tq(kvs:Ac (Ac Ag×D))(k:Ac Ag)(v:D):Ac (Ac Ag×D):=if (kvs.any λp=>p.1==k)=Aa then kvs.map (λp=>if (p.1==k)=Aa then (k,v) else p) else kvs++[(k,v)]
noncomputable def Mo(x:Ak):Ac D:=x.cps.toList.map λc=>.str ⟨#[c]⟩
noncomputable def Km:D->D->R D
  |.str x,.int i=>if BQ x.length=Aa then Fq (Mo x) i else .bad
  |.lst xs,.int i=>Fq xs i
  |.tup xs,.int i=>Fq xs i
  |.dic kvs,k=>match (Lj k).bind (nP kvs) with
    |some d=>.ok d
    |none=>.bad
  |_,_=>.bad
noncomputable def DK:D->R Ag
 |.int i=>.ok i
 |_=>.bad
noncomputable def EG:D->R Aj
 |.bl b=>.ok b
 |_=>.bad
noncomputable def EC:D->R (Ac D)
 |.lst xs=>.ok xs
 |.tup xs=>.ok xs
 |_=>.bad
noncomputable def JN:D->R (Ac D)
 |.lst xs=>.ok xs
 |_=>.bad
inductive BI where
 |len|abs|max|min|int|list|tuple|all|any|sum|sorted|str|count|stp|lset|tmin|tmax|tlt|rvs|sset|sjoin
 deriving DecidableEq,Inhabited
inductive Ki where
 |int|bool|str|list|tuple|verr|cls (c:Ae)
 deriving DecidableEq,Inhabited
mutual
inductive E where
 |non|bl (b:Aj)|int (i:Ag)|str (x:Ak)
 |var (i:Ae)|glob (g:Ae)
 |bin (op:Gh) (a b:E)|un (op:JS) (a:E)|no (a:E)
 |and (es:Es)|or (es:Es)
 |cmp (op:DX) (a b:E)|cmp2 (op op':DX) (a b c:E)
 |ite (c a b:E)
 |call (f:Ae) (as:Es)|bi (b:BI) (as:Es)
 |isi (a:E) (ks:Ac Ki)
 |idx (a i:E)|sl (a lo hi:E)
 |tup (es:Es)|lst (es:Es)
 |comp (elt:E) (t:Ae) (it:I) (c:E)|compT (elt:E) (ts:Ac Ae) (it:I) (c:E)|tupI (it:I)|dnew
 |fld (o:E) (f:Ak)
inductive Es where
 |nil|cons (e:E) (es:Es)
inductive I where
 |e (a:E)|rng (a:E)|rng2 (a b:E)|rng3 (a b c:E)|rrv (a:E)|zip (a b:E)|zip3 (a b c:E)|enm (a:E)
end
abbrev Sl:=Ao (D×Aj)
abbrev Rho:=Ac Sl
structure Gam where
 F:Ae->Ac D->R D
 G:Ae->D
 up:Ae->Ac Ae
 /-- the defs whose answer is a new list -/
 fr:Ae->Aj
 /-- what is raised: the class,what it is made of -/
 xn:Ae->Ac D->R Ex
noncomputable def EU(lo:Ag)(n:Ae):Ac D:=(AB n).map fun(k:Ae)=>D.int (lo+(k:Ag))
noncomputable def DM(lo hi:Ag):R (Ac D):=if (-(4611686018427387904:Ag)<=lo/\lo<4611686018427387904)/\(-(4611686018427387904:Ag)<=hi/\hi<4611686018427387904)/\hi-lo<1000000 then .ok (EU lo (hi-lo).toNat) else .bad
noncomputable def Ff(lo:Ag)(n:Ae):Ac D:=(AB n).map fun(k:Ae)=>D.int (lo-(k:Ag))
noncomputable def Hh(lo hi c:Ag):R (Ac D):=if c=-1/\(-(4611686018427387904:Ag)<=lo/\lo<4611686018427387904)/\(-(4611686018427387904:Ag)<=hi/\hi<4611686018427387904)/\lo-hi<1000000 then .ok (Ff lo (lo-hi).toNat) else .bad
noncomputable def JK(x:Ak):Ac D:=x.cps.toList.map λc=>D.str ⟨#[c]⟩
noncomputable def asZ:D->R (Ac D)
 |.str x=>if x.cps.all (· < 128)=Aa then .ok (JK x) else .bad
 |d=>EC d
noncomputable def Ia(i:Ag):R (Ac D):=if 1<=i/\i<1000000 then .ok (Ff (i-1) i.toNat) else .bad
noncomputable def kiD(up:Ae->Ac Ae):Ki->D->Aj
 |.int,.int _=>Aa
 |.int,.bl _=>Aa
 |.bool,.bl _=>Aa
 |.str,.str _=>Aa
 |.list,.lst _=>Aa
 |.tuple,.tup _=>Aa
 |.cls c,.obj k _=>(up k).contains c
 |.cls c,.exc k _=>(up k).contains c
 |.verr,.exc _ _=>Aa
 |_,_=>Af
noncomputable def F3:Ki->Aj
 |.cls _=>Aa
 |.verr=>Aa
 |_=>Af
noncomputable def H9(up:Ae->Ac Ae)(ks:Ac Ki)(x:D):R D:=match x with
  |.obj _ _=>.bad
  |.exc _ _=>if ks.all F3=Aa then .ok (.bl (ks.any λk=>kiD up k x)) else .bad
  |.dic _=>.bad
  |_=>if ks.any F3=Aa then .bad else .ok (.bl (ks.any λk=>kiD up k x))
noncomputable def Gq:D->R Aj
 |.non=>.ok Af
 |.bl b=>.ok b
 |.int i=>.ok (i != 0)
 |_=>.bad
noncomputable def Fp:Ac D->R Aj
 |[]=>.ok Aa
 |x::r=>(Gq x).bind λb=>(Fp r).bind λc=>.ok (b&&c)
noncomputable def JO:Ac D->R Aj
 |[]=>.ok Af
 |x::r=>(Gq x).bind λb=>(JO r).bind λc=>.ok (b||c)
noncomputable def Mj:Ag->Ac D->R Ag
 |a,[]=>.ok a
 |a,.int i::r=>Mj (a+i) r
 |_,_=>.bad
noncomputable def Ep:Ac D->Ac D->Ac D
 |x::xs,y::ys=>.tup [x,y]::Ep xs ys
 |_,_=>[]
noncomputable def Ud:Ac D->Ac D->Ac D->Ac D
 |x::xs,y::ys,z::zs=>.tup [x,y,z]::Ud xs ys zs
 |_,_,_=>[]
noncomputable def Uc(x y z:D):R (Ac D):=(EC x).bind λxs=>(EC y).bind λys=>(EC z).bind λzs=>if 0<xs.length/\xs.length<=1000/\ys.length=xs.length/\zs.length=xs.length then .ok (Ud xs ys zs) else .bad
noncomputable def Qe:Ag->Ac D->Ac D
 |_,[]=>[]
 |i,x::xs=>.tup [.int i,x]::Qe (i+1) xs
noncomputable def nlD:Ae->D->Aj
 |_,.non=>Aa
 |_,.bl _=>Aa
 |_,.int _=>Aa
 |_,.str _=>Aa
 |n+1,.tup xs=>xs.all (nlD n)
 |_,_=>Af
noncomputable def Hs(fr:Aj):D->Aj
 |.lst ds=>fr&&ds.all (nlD 5)
 |d=>nlD 5 d
noncomputable def FI:Ac D->Ao (Ac Ag)
 |[]=>Ab []
 |.int i::r=>(FI r).map (i :: ·)
 |_=>Ad
noncomputable def IE(i:Ag):Ac Ag->Ag
 |[]=>i
 |j::r=>IE (if j<i then j else i) r
noncomputable def pk2(k n:Ae):Ac Ae:=(AB ((n-min k n+1)/2)).map λj=>min k n+2*j
noncomputable def U_4(k:Ae)(xs:Ac D):Ac D:=(pk2 k xs.length).filterMap λi=>xs[i]?
noncomputable def ddS(acc:Ac Ag)(x:Ag):Ac Ag:=if acc.any (· == x)=Aa then acc else acc++[x]
noncomputable def ddN(is:Ac Ag):Ae:=(is.foldl ddS []).length
noncomputable def Uu(xs:Ac D):R D:=match FI xs with
  |some is=>if Fx is.length 4000=Aa then .ok (.int (ddN is)) else .bad
  |none=>.bad
noncomputable def mmD(mx:Aj)(x y:D):R D:=if [x,y].all (λd=>rkD 1 d && !eqD d (.tup []))=Aa then .ok (if (if mx=Aa then ltD 1 x y else ltD 1 y x)=Aa then y else x) else .bad
noncomputable def U_1(x y:D):R D:=if [x,y].all (λd=>rkD 1 d && !eqD d (.tup []))=Aa then .ok (.bl (ltD 1 x y)) else .bad
noncomputable def C2(k:Ac Ag):Ag:=reduceHash (Builtin.Tuple.tupleHashOf (k.map hashInt))
noncomputable def Hl:Ac D->Ao (Ac (Ac Ag))
 |[]=>Ab []
 |.tup xs::r=>(FI xs).bind λk=>(Hl r).map (k :: ·)
 |_=>Ad
noncomputable def Mg:Ac Ag->Aj
 |[]=>Aa
 |h::r=>!r.contains h&&Mg r
noncomputable def qN(xs:Ac D):R D:=match Hl xs with
  |some ks=>if (Fx ks.length 3&&Mg (ks.map C2))=Aa then .ok (.int ks.length) else .bad
  |none=>.bad
noncomputable def ddK(ks:Ac (Ac Ag)):Ac (Ac Ag):=ks.foldl (λacc k=>if (acc.any λq=>q==k)=Aa then acc else acc++[k]) []
noncomputable def Ml(ks:Ac (Ac Ag)):Aj:=ks.all λr=>ks.all λq=>!decide (C2 r=C2 q)||decide (r=q)
noncomputable def K9(xs:Ac D):R D:=match Hl xs with
  |some ks=>if (ks.all (λk=>!k.isEmpty)&&Fx ks.length 200&&Ml ks)=Aa then .ok (.lst (JM (ltD 1) ((ddK ks).map λk=>D.tup (k.map D.int)))) else .bad
  |none=>.bad
noncomputable def JL:Ac D->Ao (Ac Ak)
 |[]=>Ab []
 |.str x::r=>(JL r).map (x :: ·)
 |_=>Ad
noncomputable def L4(s:Ak)(xs:Ac D):R D:=match JL xs with
  |some ss=>if Jz s ss=Aa then .ok (.str (Ls s ss)) else .bad
  |none=>.bad
noncomputable def U_6(x:Ak)(l h:Ao Ag):Ak:=if ((Wu l h 1 x.length).length==x.length)=Aa then x else ⟨((Wu l h 1 x.length).filterMap (x.cps[·]?)).toArray⟩
noncomputable def biD:BI->Ac D->R D
  |.len,[.lst xs]=>.ok (.int xs.length)
  |.len,[.tup xs]=>.ok (.int xs.length)
  |.len,[.str x]=>if BQ x.length=Aa then .ok (.int x.length) else .bad
  |.abs,[.int i]=>.ok (.int (if i<0 then -i else i))
  |.max,[.int i,.int j]=>.ok (.int (if i<j then j else i))
  |.min,[.int i,.int j]=>.ok (.int (if j<i then j else i))
  |.min,[.lst xs]=>match FI xs with
    |some (i::is)=>.ok (.int (IE i is))
    |_=>.bad
  |.int,[.int i]=>.ok (.int i)
  |.int,[.bl b]=>.ok (.int (b2i b))
  |.list,[.lst xs]=>.ok (.lst xs)
  |.list,[.tup xs]=>.ok (.lst xs)
  |.tuple,[.lst xs]=>.ok (.tup xs)
  |.tuple,[.tup xs]=>.ok (.tup xs)
  |.all,[.lst xs]=>(Fp xs).bind λb=>.ok (.bl b)
  |.any,[.lst xs]=>(JO xs).bind λb=>.ok (.bl b)
  |.any,[.tup xs]=>(JO xs).bind λb=>.ok (.bl b)
  |.sum,[.lst xs]=>(Mj 0 xs).bind λi=>.ok (.int i)
  |.sum,[.tup xs]=>(Mj 0 xs).bind λi=>.ok (.int i)
  |.sorted,[.lst xs]=>(G0 xs).bind λys=>.ok (.lst ys)
  |.count,[.lst xs,x]=>if (flD 5 x&&xs.all (flD 5))=Aa then .ok (.int ((xs.filter λy=>eqD y x).length:Ae)) else .bad
  |.len,[.dic kvs]=>.ok (.int kvs.length)
  |.stp,[.lst xs,.int k]=>.ok (.lst (U_4 k.toNat xs))
  |.lset,[.lst xs]=>Uu xs
  |.lset,[.tup xs]=>qN xs
  |.sjoin,[.str s,.lst xs]=>L4 s xs
  |.tmin,[x,y]=>mmD Af x y
  |.tmax,[x,y]=>mmD Aa x y
  |.tlt,[x,y]=>U_1 x y
  |.rvs,[.lst xs]=>.ok (.lst xs.reverse)
  |.sset,[.lst xs]=>K9 xs
  |_,_=>.bad
noncomputable def slE(c:E)(d:D):R (Ao Ag):=match c with
  |.non=>.ok Ad
  |_=>(DK d).bind λi=>.ok (Ab i)
noncomputable def Kl(n d:Ae):Ao Ag->Ae
 |none=>d
 |some i=>if i<0 then (i+n).toNat else min i.toNat n
noncomputable def Nx(xs:Ac D)(lo hi:Ao Ag):Ac D:=(xs.drop (Kl xs.length 0 lo)).take (Kl xs.length xs.length hi-Kl xs.length 0 lo)
noncomputable def slD:D->Ao Ag->Ao Ag->R D
 |.lst xs,l,h=>.ok (.lst (Nx xs l h))
 |.tup xs,l,h=>if (Kl xs.length 0 l==0&&Kl xs.length xs.length h==xs.length)=Aa then .bad else .ok (.tup (Nx xs l h))
 |.str x,l,h=>if (BQ x.length&&BQ (U_6 x l h).length)=Aa then .ok (.str (U_6 x l h)) else .bad
 |_,_,_=>.bad
noncomputable def UO:D->Ak->R D
  |.exc _ fs,f=>match fs.lookup f with
    |some d=>.ok d
    |none=>.bad
  |_,_=>.bad
noncomputable def F2(U:Rho)(i:Ae):R D:=match U[i]? with
  |some (Ab (d,Af))=>.ok d
  |_=>.bad
noncomputable def Gp(U:Rho)(i:Ae):R D:=match U[i]? with
  |some (Ab (d,_))=>.ok d
  |_=>.bad
noncomputable def shE(U:Rho):E->Aj
  | .var i=>(match U[i]? with
    |some (Ab (_,Aa))=>Af
    | _=>Aa)
  |_=>Aa
noncomputable def JR(U:Rho):Es->Aj
 |.nil=>Aa
 |.cons e es=>shE U e&&JR U es
noncomputable def Hk:Ac Ae->Ac D->Rho->Ao Rho
 |[],[],U=>Ab U
 |t::ts,d::ds,U=>Hk ts ds (U.set t (Ab (d,Af)))
 |_,_,_=>Ad
noncomputable def Gm(ts:Ac Ae)(d:D)(U:Rho):R Rho:=match d with
  | .tup xs=>(match Hk ts xs U with
    |some U'=>.ok U'
    | none=>.bad)
  |_=>.bad
noncomputable def Ni(ts:Ac Ae)(d:D)(U:Rho):R Rho:=match d with
  | .lst xs=>(match Hk ts xs U with
    |some U'=>.ok U'
    | none=>.bad)
  |d=>Gm ts d U
noncomputable def BK(g:D->R Aj)(f:D->R D):Ac D->R (Ac D)
 |[]=>.ok []
 |x::xs=>(g x).bind λb=>if b=Aa then (f x).bind λy=>(BK g f xs).bind λys=>.ok (y::ys) else BK g f xs
noncomputable def noX{α:Type}:R α->R α
 |.ok a=>.ok a
 |_=>.bad
noncomputable def top(U:Rho)(e:E)(r:R D):R D:=match e with
  |.var i=>Gp U i
  |_=>r
mutual
noncomputable def evE(Y:Gam)(U:Rho):E->R D
 |.non=>.ok .non
 |.bl b=>.ok (.bl b)
 |.int i=>.ok (.int i)
 |.str x=>.ok (.str x)
 |.var i=>F2 U i
 |.glob g=>.ok (Y.G g)
 |.bin op a b=>(top U a (evE Y U a)).bind λx=>(top U b (evE Y U b)).bind λy=>Dr op x y
 |.un op a=>(top U a (evE Y U a)).bind λx=>unD op x
 |.no a=>(top U a (evE Y U a)).bind λx=>(EG x).bind λb=>.ok (.bl (!b))
 |.and es=>evN Y U es
 |.or es=>evO Y U es
 |.cmp op a b=>(top U a (evE Y U a)).bind λx=>(top U b (evE Y U b)).bind λy=>Cb op x y
 |.cmp2 op op' a b c=>(top U a (evE Y U a)).bind λx=>(top U b (evE Y U b)).bind λy=>(Cb op x y).bind λz=>(EG z).bind λk=>if k=Aa then (top U c (evE Y U c)).bind λu=>Cb op' y u else .ok (.bl Af)
 |.ite c a b=>(top U c (evE Y U c)).bind λx=>(Cj x).bind λk=>if k=Aa then evE Y U a else evE Y U b
 |.call f as=>(evB Y U as).bind λxs=>(Y.F f xs).bind λd=>if JR U as=Aa then .ok d else if Hs (Y.fr f) d=Aa then .ok d else .bad
 |.bi b as=>(evB Y U as).bind λxs=>biD b xs
 |.isi a ks=>(top U a (evE Y U a)).bind λx=>H9 Y.up ks x
 |.idx a i=>(top U a (evE Y U a)).bind λx=>(top U i (evE Y U i)).bind λy=>Km x y
 |.sl a lo hi=>(top U a (evE Y U a)).bind λx=>(top U lo (evE Y U lo)).bind λl=>(slE lo l).bind λl'=>(top U hi (evE Y U hi)).bind λh=>(slE hi h).bind λh'=>slD x l' h'
 |.tup es=>(evA Y U es).bind λxs=>.ok (.tup xs)
 |.lst es=>(evA Y U es).bind λxs=>.ok (.lst xs)
 |.comp elt t it c=>(evI Y U it).bind λxs=>(noX (BK (λx=>(top (U.set t (Ab (x,Af))) c (evE Y (U.set t (Ab (x,Af))) c)).bind Cj) (λx=>evE Y (U.set t (Ab (x,Af))) elt) xs)).bind λys=>.ok (.lst ys)
 |.compT elt ts it c=>(evI Y U it).bind λxs=>(noX (BK (λx=>(Gm ts x U).bind λU'=>(top U' c (evE Y U' c)).bind Cj) (λx=>(Gm ts x U).bind λU'=>evE Y U' elt) xs)).bind λys=>.ok (.lst ys)
 |.tupI it=>(evI Y U it).bind λxs=>.ok (.tup xs)
 |.dnew=>.ok (.dic [])
 |.fld o f=>(top U o (evE Y U o)).bind λx=>UO x f
noncomputable def evN(Y:Gam)(U:Rho):Es->R D
 |.nil=>.bad
 |.cons e .nil=>evE Y U e
 |.cons e (.cons e' es)=>(evE Y U e).bind λx=>(EG x).bind λc=>if c=Aa then evN Y U (.cons e' es) else .ok (.bl Af)
noncomputable def evO(Y:Gam)(U:Rho):Es->R D
 |.nil=>.bad
 |.cons e .nil=>evE Y U e
 |.cons e (.cons e' es)=>(evE Y U e).bind λx=>(EG x).bind λc=>if c=Aa then .ok (.bl Aa) else evO Y U (.cons e' es)
noncomputable def evA(Y:Gam)(U:Rho):Es->R (Ac D)
 |.nil=>.ok []
 |.cons e es=>(evE Y U e).bind λx=>(evA Y U es).bind λxs=>.ok (x::xs)
noncomputable def evB(Y:Gam)(U:Rho):Es->R (Ac D)
 |.nil=>.ok []
 |.cons e es=>(top U e (evE Y U e)).bind λx=>(evB Y U es).bind λxs=>.ok (x::xs)
noncomputable def evI(Y:Gam)(U:Rho):I->R (Ac D)
 |.e a=>(evE Y U a).bind EC
 |.rng a=>(top U a (evE Y U a)).bind λx=>(DK x).bind λj=>DM 0 j
 |.rng2 a b=>(top U a (evE Y U a)).bind λx=>(top U b (evE Y U b)).bind λy=>(DK x).bind λi=>(DK y).bind λj=>DM i j
 |.rrv a=>(top U a (evE Y U a)).bind λx=>(DK x).bind λi=>Ia i
 |.rng3 a b c=>(top U a (evE Y U a)).bind λx=>(top U b (evE Y U b)).bind λy=>(top U c (evE Y U c)).bind λz=>(DK x).bind λi=>(DK y).bind λj=>(DK z).bind λk=>Hh i j k
 |.zip a b=>(evE Y U a).bind λx=>(evE Y U b).bind λy=>(asZ x).bind λxs=>(EC y).bind λys=>.ok (Ep xs ys)
 |.zip3 a b c=>(evE Y U a).bind λx=>(evE Y U b).bind λy=>(evE Y U c).bind λz=>Uc x y z
 |.enm a=>(evE Y U a).bind λx=>(EC x).bind λxs=>.ok (Qe 0 xs)
end
noncomputable def DT(Y:Gam):E->Aj
 |.lst _=>Aa
 |.comp _ _ _ _=>Aa
 |.compT _ _ _ _=>Aa
 |.dnew=>Aa
 |.bin .Add _ _=>Aa
 |.bi .list _=>Aa
 |.bi .sorted _=>Aa
 |.sl _ _ _=>Aa
 |.call f _=>Y.fr f
 |_=>Af
mutual
inductive S where
 |pass
 /-- x=e;fresh: x alone holds the new list -/
 |asg (i:Ae) (fresh:Aj) (e:E)
 /-- a,b,..=e -/
 |asgT (ts:Ac Ae) (e:E)
 |expr (e:E)
 |ret (e:E)|retN
 |ife (c:E) (a b:Ss)
 |fors (t:Ae) (it:I) (body:Ss)
 |forT (ts:Ac Ae) (it:I) (body:Ss)
 |whl (c:E) (body:Ss)
 /-- raise C(e,..) -/
 |rais (c:Ae) (as:Es)
 /-- try: body except C as x: h -/
 |tryx (body:Ss) (c:Ae) (x:Ae) (h:Ss)
 /-- .. except C as x: h,except C' as x: h',else: els -/
 |try2 (body:Ss) (c:Ae) (x:Ae) (h:Ss) (c':Ae) (h' els:Ss)
 /-- x.append(e),x.extend(e),x.insert(k,e),x.reverse(),x.clear() -/
 |app (i:Ae) (e:E)|ext (i:Ae) (e:E)|ins (i:Ae) (k e:E)|rev (i:Ae)|clr (i:Ae)
 /-- d[k]=e,d.setdefault(k,e) -/
 |dput (i:Ae) (k e:E)|dsd (i:Ae) (k e:E)
 /-- x[k]=e -/
 |put (i:Ae) (k e:E)
 /-- x[k],x[l]=x[l],x[k] -/
 |swp (i k l:Ae)
 /-- x.append(y.pop(e)) -/
 |apop (j i:Ae) (e:E)
 |brk|cont
 /-- if c: a else: b,the test with every name let go -/
 |lnd (c:E) (a b:Ss)
 /-- nothing: from here on x is no longer changed -/
 |rel (i:Ae)
inductive Ss where
 |nil|cons (s:S) (ss:Ss)
end
inductive O where
 |next (U:Rho)|ret (d:D) (fr:Aj)|brk (U:Rho)|cont (U:Rho)|exn (x:Ex) (U:Rho)|bad
 deriving Inhabited
noncomputable def O.of{α:Type}(U:Rho)(r:R α)(f:α->O):O:=match r with
  |.ok a=>f a
  |.exn x=>.exn x U
  |.bad=>.bad
@[simp]theorem O.of_ok(U:Rho)(a:α)(f:α->O):O.of U (.ok a) f=f a:=rfl
@[simp]theorem O.of_exn(U:Rho)(x:Ex)(f:α->O):O.of U (.exn x:R α) f=.exn x U:=rfl
@[simp]theorem O.of_bad(U:Rho)(f:α->O):O.of U (.bad:R α) f=.bad:=rfl
noncomputable def Hq(Y:Gam)(U:Rho)(i:I):R (Ac D):=evI Y U i
noncomputable def Dj(U:Rho)(i:Ae):R (Ac D):=match U[i]? with
  |some (Ab (.lst xs,Aa))=>.ok xs
  |_=>.bad
noncomputable def UU(U:Rho)(i:Ae):R (Ac (Ac Ag×D)):=match U[i]? with
  |some (Ab (.dic xs,Aa))=>.ok xs
  |_=>.bad
noncomputable def UA(d:D):R (Ac Ag):=match Lj d with
  |some k=>.ok k
  |none=>.bad
noncomputable def UF:Ae:=4096
noncomputable def O.seq(o:O)(f:Rho->O):O:=match o with
  |.next U=>f U
  |.ret d b=>.ret d b
  |.brk U=>.brk U
  |.cont U=>.cont U
  |.exn x U=>.exn x U
  |.bad=>.bad
noncomputable def O.turn(o:O)(f:Rho->O):O:=match o with
  |.next U=>f U
  |.cont U=>f U
  |.brk U=>.next U
  |.ret d b=>.ret d b
  |.exn x U=>.exn x U
  |.bad=>.bad
noncomputable def Dk(body:D->Rho->O):Ac D->Rho->O
 |[],U=>.next U
 |x::xs,U=>(body x U).turn (Dk body xs)
noncomputable def PY(c:Rho->R Aj)(body:Rho->O):Ae->Rho->O
 |0,_=>.bad
 |n+1,U=>O.of U (c U) λb=>if b=Aa then (body U).turn (PY c body n) else .next U
noncomputable def Uo(U:Rho)(k:Ae):R Ag:=(F2 U k).bind DK
noncomputable def sR(U:Rho)(d:D)(i k l:Ae):O:=match d with
  |.tup [x,y]=>O.of U (Dj U i) λxs=>O.of U (Uo U k) λa=>O.of U (Uo U l) λb=>match plD xs.length a,plD xs.length b with
    |some m,Ab n=>.next (U.set i (Ab (.lst ((xs.set m x).set n y),Aa)))
    |_,_=>.bad
  |_=>.bad
noncomputable def apD(U:Rho)(j i:Ae)(ys xs:Ac D)(n:Ag):O:=match plD xs.length n with
  | some m=>(match xs[m]? with
    |some d=>if (j != i&&(BQ xs.length&&BQ (ys.length+1)))=Aa then .next ((U.set i (Ab (.lst (xs.eraseIdx m),Aa))).set j (Ab (.lst (ys++[d]),Aa))) else .bad
    | none=>.bad)
  |none=>.bad
noncomputable def shS:Sl->Sl
  | some (d,Aa)=>(match d with
    |.lst ds=>Ab (.lst ds,Af)
    | _=>Ad)
  |s=>s
noncomputable def shA(U:Rho):Rho:=U.map shS
noncomputable def hdO(i:Ae)(y:Ex)(U':Rho)(fh:Rho->O):O:=match fh (U'.set i (Ab (.exc y.c y.fs,Af))) with
  |.next U''=>.next (U''.set i Ad)
  |.ret d f=>.ret d f
  |_=>.bad
mutual
noncomputable def evS(Y:Gam)(U:Rho):S->O
  |.pass=>.next U
  | .asg i fresh e=>O.of U (evE Y U e) λd=>if fresh=Aa then (if DT Y e=Aa then (match d with
      |.lst xs=>.next (U.set i (Ab (.lst xs,Aa)))
      |.dic xs=>.next (U.set i (Ab (.dic xs,Aa)))
      | _=>.bad) else .bad) else .next (U.set i (Ab (d,Af)))
  |.asgT ts e=>O.of U (evE Y U e) λd=>O.of U (Ni ts d U) λU'=>.next U'
  |.expr e=>O.of U (evE Y U e) λ_=>.next U
  |.ret e=>O.of U (top U e (evE Y U e)) λd=>.ret d (DT Y e||(match e with | .var i=>(match U[i]? with|some (Ab (_,o))=>o|_=>Af)|_=>Af))
  |.retN=>.ret .non Af
  |.ife c a b=>O.of U ((top U c (evE Y U c)).bind Cj) λk=>if k=Aa then evSs Y U a else evSs Y U b
  |.lnd c a b=>O.of U ((top (shA U) c (evE Y (shA U) c)).bind Cj) λk=>if k=Aa then evSs Y U a else evSs Y U b
  |.fors t it body=>O.of U (Hq Y U it) λxs=>Dk (λx U'=>evSs Y (U'.set t (Ab (x,Af))) body) xs U
  |.forT ts it body=>O.of U (Hq Y U it) λxs=>Dk (λx U'=>O.of U' (Gm ts x U') λU''=>evSs Y U'' body) xs U
  |.whl c body=>PY (λU'=>(top U' c (evE Y U' c)).bind Cj) (λU'=>evSs Y U' body) UF U
  |.rais c as=>O.of U (noX (evA Y U as)) λxs=>O.of U (Y.xn c xs) λx=>.exn x U
  |.tryx body c x h=>match evSs Y U body with
      | .exn y U'=>if (Y.up y.c).contains c=Aa then (match evSs Y (U'.set x (Ab (.exc y.c y.fs,Af))) h with
          |.next U''=>.next (U''.set x Ad)
          |.ret d f=>.ret d f
          | _=>.bad) else .bad
      |o=>o
  |.try2 body c x h c' h' els=>match evSs Y U body with
      |.exn y U'=>if (Y.up y.c).contains c=Aa then hdO x y U' (λr=>evSs Y r h) else if (Y.up y.c).contains c'=Aa then hdO x y U' (λr=>evSs Y r h') else .bad
      |.next U'=>evSs Y U' els
      |o=>o
  |.app i e=>O.of U (Dj U i) λxs=>O.of U (evE Y U e) λd=>if BQ (xs.length+1)=Aa then .next (U.set i (Ab (.lst (xs++[d]),Aa))) else .bad
  |.ext i e=>if DT Y e=Aa then (O.of U (Dj U i) λxs=>O.of U (evE Y U e) λd=>O.of U (JN d) λys=>if BQ (xs.length+ys.length)=Aa then .next (U.set i (Ab (.lst (xs++ys),Aa))) else .bad) else .bad
  |.ins i k e=>O.of U (Dj U i) λxs=>O.of U ((top U k (evE Y U k)).bind DK) λj=>O.of U (evE Y U e) λd=>if (BQ (xs.length+1)&&decide (0<=j)&&decide (j<=xs.length))=Aa then .next (U.set i (Ab (.lst (xs.take j.toNat++d::xs.drop j.toNat),Aa))) else .bad
  |.rev i=>O.of U (Dj U i) λxs=>.next (U.set i (Ab (.lst xs.reverse,Aa)))
  |.clr i=>O.of U (Dj U i) λ_=>.next (U.set i (Ab (.lst [],Aa)))
  |.dput i k e=>O.of U (evE Y U e) λd=>O.of U (UU U i) λxs=>O.of U ((evE Y U k).bind UA) λj=>if BQ (xs.length+1)=Aa then .next (U.set i (Ab (.dic (Tq xs j d),Aa))) else .bad
  |.dsd i k e=>O.of U (UU U i) λxs=>O.of U ((evE Y U k).bind UA) λj=>O.of U (evE Y U e) λd=>if BQ (xs.length+1)=Aa then .next (U.set i (Ab (.dic (if (xs.any λp=>p.1==j)=Aa then xs else Tq xs j d),Aa))) else .bad
  |.put i k e=>O.of U (evE Y U e) λd=>O.of U (Dj U i) λxs=>O.of U ((top U k (evE Y U k)).bind DK) λj=>match plD xs.length j with
      |some n=>.next (U.set i (Ab (.lst (xs.set n d),Aa)))
      |none=>.bad
  |.swp i k l=>O.of U (evE Y U (.tup (.cons (.idx (.var i) (.var l)) (.cons (.idx (.var i) (.var k)) .nil)))) λd=>sR U d i k l
  |.apop j i e=>O.of U (Dj U j) λys=>O.of U (Dj U i) λxs=>O.of U (evE Y U e) λd=>O.of U (DK d) λn=>apD U j i ys xs n
  |.brk=>.brk U
  |.cont=>.cont U
  |.rel i=>match U[i]? with
      |some (Ab (d,Aa))=>.next (U.set i (Ab (d,Af)))
      |_=>.next U
noncomputable def evSs(Y:Gam)(U:Rho):Ss->O
 |.nil=>.next U
 |.cons s ss=>(evS Y U s).seq λU'=>evSs Y U' ss
end
structure Df where
 n:Ae
 fr:Aj
 body:Ss
noncomputable def DL(n:Ae)(ds:Ac D):Rho:=ds.map (λd=>Ab (d,Af))++GW (n-ds.length) Ad
noncomputable def isL:D->Aj
 |.lst _=>Aa
 |.dic _=>Aa
 |_=>Af
noncomputable def O.ans(fr:Aj)(o:O):R D:=match o with
  |.ret d b=>if (fr&&(!b&&isL d))=Aa then .bad else .ok d
  |.next _=>if fr=Aa then .bad else .ok .non
  |.exn x _=>.exn x
  |_=>.bad
noncomputable def Df.run(Y:Gam)(f:Df)(ds:Ac D):R D:=(evSs Y (DL f.n ds) f.body).ans f.fr
structure Prg where
 xs:Aj
 defs:Ae->Df
 G:Ae->D
 up:Ae->Ac Ae
 xn:Ae->Ac D->R Ex
noncomputable def Hr(xs:Aj)(r:R D):R D:=match xs with
  |true=>r
  |false=>noX r
noncomputable def gam(P:Prg):Ae->Gam
 |0=>⟨λ_ _=>.bad,P.G,P.up,λi=>(P.defs i).fr,P.xn⟩
 |n+1=>⟨λi ds=>Hr P.xs ((P.defs i).run (gam P n) ds),P.G,P.up,λi=>(P.defs i).fr,P.xn⟩
end Ov
end
section
namespace Ov
open PySem
variable{α:Type}{lo hi:Ag}
section
variable(Y:Gam)(U:Rho)
@[simp]theorem Zwt:evE Y U .non=.ok .non:=rfl
@[simp]theorem Zyd(b):evE Y U (.bl b)=.ok (.bl b):=rfl
@[simp]theorem Zwx(b):evE Y U (.int b)=.ok (.int b):=rfl
@[simp]theorem eY(b):evE Y U (.str b)=.ok (.str b):=rfl
@[simp]theorem Zws(i):evE Y U (.var i)=F2 U i:=rfl
@[simp]theorem Zte(i):evE Y U (.glob i)=.ok (Y.G i):=rfl
@[simp]theorem eZ(op a b):evE Y U (.bin op a b)=(top U a (evE Y U a)).bind λx=>(top U b (evE Y U b)).bind λy=>Dr op x y:=rfl
@[simp]theorem Zx9(op a):evE Y U (.un op a)=(top U a (evE Y U a)).bind λx=>unD op x:=rfl
@[simp]theorem Zyc(a):evE Y U (.no a)=(top U a (evE Y U a)).bind λx=>(EG x).bind λb=>.ok (.bl (!b)):=rfl
@[simp]theorem ZwB(es):evE Y U (.and es)=evN Y U es:=rfl
@[simp]theorem Zyb(es):evE Y U (.or es)=evO Y U es:=rfl
@[simp]theorem Zwn(e):evN Y U (.cons e .nil)=evE Y U e:=rfl
@[simp]theorem Zs5(e e' es):evN Y U (.cons e (.cons e' es))=(evE Y U e).bind λx=>(EG x).bind λc=>if c=Aa then evN Y U (.cons e' es) else .ok (.bl Af):=rfl
@[simp]theorem Zwm(e):evO Y U (.cons e .nil)=evE Y U e:=rfl
@[simp]theorem Zs4(e e' es):evO Y U (.cons e (.cons e' es))=(evE Y U e).bind λx=>(EG x).bind λc=>if c=Aa then .ok (.bl Aa) else evO Y U (.cons e' es):=rfl
@[simp]theorem ZwA(op a b):evE Y U (.cmp op a b)=(top U a (evE Y U a)).bind λx=>(top U b (evE Y U b)).bind λy=>Cb op x y:=rfl
@[simp]theorem Zth(op op' a b c):evE Y U (.cmp2 op op' a b c)=(top U a (evE Y U a)).bind λx=>(top U b (evE Y U b)).bind λy=>(Cb op x y).bind λz=>(EG z).bind λk=>if k=Aa then (top U c (evE Y U c)).bind λu=>Cb op' y u else .ok (.bl Af):=rfl
@[simp]theorem Zwv(c a b):evE Y U (.ite c a b)=(top U c (evE Y U c)).bind λx=>(Cj x).bind λk=>if k=Aa then evE Y U a else evE Y U b:=rfl
@[simp]theorem Zti(f as):evE Y U (.call f as)=(evB Y U as).bind λxs=>(Y.F f xs).bind λd=>if JR U as=Aa then .ok d else if Hs (Y.fr f) d=Aa then .ok d else .bad:=rfl
@[simp]theorem O5(f as):evE Y U (.bi f as)=(evB Y U as).bind λxs=>biD f xs:=rfl
@[simp]theorem Zww(a ks):evE Y U (.isi a ks)=(top U a (evE Y U a)).bind λx=>H9 Y.up ks x:=rfl
@[simp]theorem Zwy(a i):evE Y U (.idx a i)=(top U a (evE Y U a)).bind λx=>(top U i (evE Y U i)).bind λy=>Km x y:=rfl
@[simp]theorem Zya(a lo hi):evE Y U (.sl a lo hi)=(top U a (evE Y U a)).bind λx=>(top U lo (evE Y U lo)).bind λl=>(slE lo l).bind λl'=>(top U hi (evE Y U hi)).bind λh=>(slE hi h).bind λh'=>slD x l' h':=rfl
@[simp]theorem eX(es):evE Y U (.tup es)=(evA Y U es).bind λxs=>.ok (.tup xs):=rfl
@[simp]theorem Zwu(es):evE Y U (.lst es)=(evA Y U es).bind λxs=>.ok (.lst xs):=rfl
noncomputable def cG(Y:Gam)(U:Rho)(t:Ae)(c:E):D->R Aj:=λx=>(top (U.set t (Ab (x,Af))) c (evE Y (U.set t (Ab (x,Af))) c)).bind Cj
noncomputable def cF(Y:Gam)(U:Rho)(t:Ae)(elt:E):D->R D:=λx=>evE Y (U.set t (Ab (x,Af))) elt
noncomputable def mkL(r:R (Ac D)):R D:=(noX r).bind λys=>.ok (.lst ys)
@[simp]theorem ZxK(ys):mkL (.ok ys)=.ok (.lst ys):=rfl
@[simp]theorem Ztg(elt t it c):evE Y U (.comp elt t it c)=(evI Y U it).bind λxs=>mkL (BK (cG Y U t c) (cF Y U t elt) xs):=rfl
noncomputable def cGT(Y:Gam)(U:Rho)(ts:Ac Ae)(c:E):D->R Aj:=λx=>(Gm ts x U).bind λU'=>(top U' c (evE Y U' c)).bind Cj
noncomputable def cFT(Y:Gam)(U:Rho)(ts:Ac Ae)(elt:E):D->R D:=λx=>(Gm ts x U).bind λU'=>evE Y U' elt
@[simp]theorem Zrw(elt ts it c):evE Y U (.compT elt ts it c)=(evI Y U it).bind λxs=>mkL (BK (cGT Y U ts c) (cFT Y U ts elt) xs):=rfl
@[simp]theorem Ztd(it):evE Y U (.tupI it)=(evI Y U it).bind λxs=>.ok (.tup xs):=rfl
@[simp]theorem Ztf:evE Y U .dnew=.ok (.dic []):=rfl
@[simp]theorem Zwz(o f):evE Y U (.fld o f)=(top U o (evE Y U o)).bind λx=>UO x f:=rfl
@[simp]theorem ZwD:evA Y U .nil=.ok []:=rfl
@[simp]theorem Rt(e es):evA Y U (.cons e es)=(evE Y U e).bind λx=>(evA Y U es).bind λxs=>.ok (x::xs):=rfl
@[simp]theorem ZwC:evB Y U .nil=.ok []:=rfl
@[simp]theorem Rs(e es):evB Y U (.cons e es)=(top U e (evE Y U e)).bind λx=>(evB Y U es).bind λxs=>.ok (x::xs):=rfl
@[simp]theorem Zy7(a):evI Y U (.e a)=(evE Y U a).bind EC:=rfl
@[simp]theorem Zwq(a):evI Y U (.rng a)=(top U a (evE Y U a)).bind λx=>(DK x).bind λj=>DM 0 j:=rfl
@[simp]theorem Ztc(a b):evI Y U (.rng2 a b)=(top U a (evE Y U a)).bind λx=>(top U b (evE Y U b)).bind λy=>(DK x).bind λi=>(DK y).bind λj=>DM i j:=rfl
@[simp]theorem Zzb(xs):asZ (.lst xs)=.ok xs:=rfl
@[simp]theorem Zza(xs):asZ (.tup xs)=.ok xs:=rfl
@[simp]theorem Zwp(a):evI Y U (.rrv a)=(top U a (evE Y U a)).bind λx=>(DK x).bind λi=>Ia i:=rfl
@[simp]theorem Zs7(a):Hq Y U (.rrv a)=evI Y U (.rrv a):=rfl
@[simp]theorem Ztb(a b c):evI Y U (.rng3 a b c)=(top U a (evE Y U a)).bind λx=>(top U b (evE Y U b)).bind λy=>(top U c (evE Y U c)).bind λz=>(DK x).bind λi=>(DK y).bind λj=>(DK z).bind λk=>Hh i j k:=rfl
@[simp]theorem Zru(a b c):Hq Y U (.rng3 a b c)=evI Y U (.rng3 a b c):=rfl
@[simp]theorem Zwo(a b):evI Y U (.zip a b)=(evE Y U a).bind λx=>(evE Y U b).bind λy=>(asZ x).bind λxs=>(EC y).bind λys=>.ok (Ep xs ys):=rfl
@[simp]theorem Zta(a b c):evI Y U (.zip3 a b c)=(evE Y U a).bind λx=>(evE Y U b).bind λy=>(evE Y U c).bind λz=>Uc x y z:=rfl
@[simp]theorem Zwr(a):evI Y U (.enm a)=(evE Y U a).bind λx=>(EC x).bind λxs=>.ok (Qe 0 xs):=rfl
@[simp]theorem Zs6(a b):Hq Y U (.zip a b)=evI Y U (.zip a b):=rfl
@[simp]theorem Zrt(a b c):Hq Y U (.zip3 a b c)=evI Y U (.zip3 a b c):=rfl
@[simp]theorem Zs9(a):Hq Y U (.enm a)=evI Y U (.enm a):=rfl
@[simp]theorem Zx8(a):Hq Y U (.e a)=(evE Y U a).bind EC:=rfl
@[simp]theorem Zs8(a):Hq Y U (.rng a)=evI Y U (.rng a):=rfl
@[simp]theorem Zrv(a b):Hq Y U (.rng2 a b)=evI Y U (.rng2 a b):=rfl
variable(r:R D)
@[simp]theorem ZtI(i):top U (.var i) r=Gp U i:=rfl
@[simp]theorem ZtJ:top U .non r=r:=rfl
@[simp]theorem Zxf(b):top U (.bl b) r=r:=rfl
@[simp]theorem ZtN(b):top U (.int b) r=r:=rfl
@[simp]theorem cJ(b):top U (.str b) r=r:=rfl
@[simp]theorem Zso(b):top U (.glob b) r=r:=rfl
@[simp]theorem cK(op a b):top U (.bin op a b) r=r:=rfl
@[simp]theorem Zxb(op a):top U (.un op a) r=r:=rfl
@[simp]theorem Zxe(a):top U (.no a) r=r:=rfl
@[simp]theorem ZtR(a):top U (.and a) r=r:=rfl
@[simp]theorem Zxd(a):top U (.or a) r=r:=rfl
@[simp]theorem ZtQ(op a b):top U (.cmp op a b) r=r:=rfl
@[simp]theorem Zsr(op op' a b c):top U (.cmp2 op op' a b c) r=r:=rfl
@[simp]theorem ZtL(a b c):top U (.ite a b c) r=r:=rfl
@[simp]theorem Zss(a b):top U (.call a b) r=r:=rfl
@[simp]theorem Zxg(a b):top U (.bi a b) r=r:=rfl
@[simp]theorem ZtM(a b):top U (.isi a b) r=r:=rfl
@[simp]theorem ZtO(a b):top U (.idx a b) r=r:=rfl
@[simp]theorem Zxc(a b c):top U (.sl a b c) r=r:=rfl
@[simp]theorem cI(a):top U (.tup a) r=r:=rfl
@[simp]theorem ZtK(a):top U (.lst a) r=r:=rfl
@[simp]theorem Zsq(a b c d):top U (.comp a b c d) r=r:=rfl
@[simp]theorem ZtP(a b):top U (.fld a b) r=r:=rfl
@[simp]theorem Zo9(a b c d):top U (.compT a b c d) r=r:=rfl
@[simp]theorem Zsn(a):top U (.tupI a) r=r:=rfl
@[simp]theorem Zsp:top U .dnew r=r:=rfl
end
@[simp]theorem ZoX(x:D×Aj)(U:Rho):Gp (Ab x::U) 0=.ok x.1:=rfl
@[simp]theorem ZoY(x:D)(U:Rho):F2 (Ab (x,Af)::U) 0=.ok x:=rfl
@[simp]theorem ZoB(x:Sl)(U:Rho)(i:Ae)[NeZero i]:Gp (x::U) i=Gp U (i-1):=by
 obtain⟨j,rfl⟩:∃ j,i=j+1:=⟨i-1,by have:=Lm i;omega⟩
 rfl
@[simp]theorem ZoC(x:Sl)(U:Rho)(i:Ae)[NeZero i]:F2 (x::U) i=F2 U (i-1):=by
 obtain⟨j,rfl⟩:∃ j,i=j+1:=⟨i-1,by have:=Lm i;omega⟩
 rfl
noncomputable def shV(U:Rho)(i:Ae):Aj:=match U[i]? with
    |some (Ab (_,Aa))=>Af
    |_=>Aa
@[simp]theorem Zsu(x:D)(b:Aj)(U:Rho):shV (Ab (x,b)::U) 0=!b:=by cases b<;>rfl
@[simp]theorem ZpD(U:Rho):shV (Ad::U) 0=Aa:=rfl
@[simp]theorem ZpE(x:Sl)(U:Rho)(i:Ae)[NeZero i]:shV (x::U) i=shV U (i-1):=by
 obtain⟨j,rfl⟩:∃ j,i=j+1:=⟨i-1,by have:=Lm i;omega⟩
 rfl
section
variable(U:Rho)
@[simp]theorem Zuf(i):shE U (.var i)=shV U i:=rfl
@[simp]theorem Zui:shE U .non=Aa:=rfl
@[simp]theorem Zxv(b):shE U (.bl b)=Aa:=rfl
@[simp]theorem Zum(b):shE U (.int b)=Aa:=rfl
@[simp]theorem Zuh(b):shE U (.str b)=Aa:=rfl
@[simp]theorem Zsx(b):shE U (.glob b)=Aa:=rfl
@[simp]theorem Zuq(op a b):shE U (.bin op a b)=Aa:=rfl
@[simp]theorem Zxr(op a):shE U (.un op a)=Aa:=rfl
@[simp]theorem Zxu(a):shE U (.no a)=Aa:=rfl
@[simp]theorem Zur(a):shE U (.and a)=Aa:=rfl
@[simp]theorem Zxt(a):shE U (.or a)=Aa:=rfl
@[simp]theorem Zup(op a b):shE U (.cmp op a b)=Aa:=rfl
@[simp]theorem ZsA(op op' a b c):shE U (.cmp2 op op' a b c)=Aa:=rfl
@[simp]theorem Zuk(a b c):shE U (.ite a b c)=Aa:=rfl
@[simp]theorem ZsB(a b):shE U (.call a b)=Aa:=rfl
@[simp]theorem Zxw(a b):shE U (.bi a b)=Aa:=rfl
@[simp]theorem Zul(a b):shE U (.isi a b)=Aa:=rfl
@[simp]theorem Zun(a b):shE U (.idx a b)=Aa:=rfl
@[simp]theorem Zxs(a b c):shE U (.sl a b c)=Aa:=rfl
@[simp]theorem Zug(a):shE U (.tup a)=Aa:=rfl
@[simp]theorem Zuj(a):shE U (.lst a)=Aa:=rfl
@[simp]theorem Zsz(a b c d):shE U (.comp a b c d)=Aa:=rfl
@[simp]theorem ZpF(a b c d):shE U (.compT a b c d)=Aa:=rfl
@[simp]theorem Zsw(a):shE U (.tupI a)=Aa:=rfl
@[simp]theorem Zsy:shE U .dnew=Aa:=rfl
@[simp]theorem Zuo(a b):shE U (.fld a b)=Aa:=rfl
@[simp]theorem Zsv:JR U .nil=Aa:=rfl
@[simp]theorem YK(e es):JR U (.cons e es)=(shE U e&&JR U es):=rfl
end
@[simp]theorem ZoD(U:Rho):Hk [] [] U=Ab U:=rfl
@[simp]theorem Zmq(t ts d ds)(U:Rho):Hk (t::ts) (d::ds) U=Hk ts ds (U.set t (Ab (d,Af))):=rfl
@[simp]theorem Zr3(ts ds)(U:Rho):Ni ts (.lst ds) U=match Hk ts ds U with
  |some U'=>.ok U'
  |none=>.bad:=rfl
@[simp]theorem Zr2(ts ds)(U:Rho):Ni ts (.tup ds) U=Gm ts (.tup ds) U:=rfl
@[simp]theorem YQ(ts ds)(U:Rho):Gm ts (.tup ds) U=match Hk ts ds U with
  |some U'=>.ok U'
  |none=>.bad:=rfl
@[simp]theorem Ztu{β:Type}(c:Prop)[E1 c](a b:R α)(f:α->R β):(if c then a else b).bind f=if c then a.bind f else b.bind f:=by split<;>rfl
@[simp]theorem ZxJ(U:Rho)(c:Prop)[E1 c](a b:R α)(f:α->O):O.of U (if c then a else b) f=if c then O.of U a f else O.of U b f:=by split<;>rfl
@[simp]theorem Zvv{β:Type}(U:Rho)(a:R α)(g:α->R β)(f:β->O):O.of U (a.bind g) f=O.of U a λx=>O.of U (g x) f:=by cases a<;>rfl
@[simp]theorem Zut(c:Prop)[E1 c](a b:O)(f:Rho->O):O.seq (if c then a else b) f=if c then a.seq f else b.seq f:=by split<;>rfl
@[simp]theorem Zsd(c:Prop)[E1 c](a b:O)(f:Rho->O):O.turn (if c then a else b) f=if c then a.turn f else b.turn f:=by split<;>rfl
@[simp]theorem ZwZ(fr:Aj)(c:Prop)[E1 c](a b:O):O.ans fr (if c then a else b)=if c then a.ans fr else b.ans fr:=by split<;>rfl
@[simp]theorem ZsC(U f):O.seq (.next U) f=f U:=rfl
@[simp]theorem Zus(d b f):O.seq (.ret d b) f=.ret d b:=rfl
@[simp]theorem Zuv(U f):O.seq (.brk U) f=.brk U:=rfl
@[simp]theorem ZsD(U f):O.seq (.cont U) f=.cont U:=rfl
@[simp]theorem Zuu(x U f):O.seq (.exn x U) f=.exn x U:=rfl
@[simp]theorem Zuw(f):O.seq .bad f=.bad:=rfl
@[simp]theorem Zo5(U f):O.turn (.next U) f=f U:=rfl
@[simp]theorem Zsc(d b f):O.turn (.ret d b) f=.ret d b:=rfl
@[simp]theorem Zsf(U f):O.turn (.brk U) f=.next U:=rfl
@[simp]theorem Zo6(U f):O.turn (.cont U) f=f U:=rfl
@[simp]theorem Zse(x U f):O.turn (.exn x U) f=.exn x U:=rfl
@[simp]theorem Zsg(f):O.turn .bad f=.bad:=rfl
@[simp]theorem Ztx(U):O.ans Af (.next U)=.ok .non:=rfl
@[simp]theorem ZwY(d b):O.ans Af (.ret d b)=.ok d:=rfl
@[simp]theorem Ztw(d b):O.ans Aa (.ret d b)=if (!b&&isL d)=Aa then .bad else .ok d:=rfl
@[simp]theorem ZvW(d):isL (.lst d)=Aa:=rfl
@[simp]theorem ZvV(d):isL (.tup d)=Af:=rfl
@[simp]theorem ZvX(d):isL (.int d)=Af:=rfl
@[simp]theorem Zw0(fr x U):O.ans fr (.exn x U)=.exn x:=rfl
@[simp]theorem Zw1(fr):O.ans fr .bad=.bad:=rfl
@[simp]theorem Zyk(i j:Ag):Dr .Add (.int i) (.int j)=.ok (.int (i+j)):=rfl
@[simp]theorem Zxl(i j:Ag):Dr .Sub (.int i) (.int j)=.ok (.int (i-j)):=rfl
@[simp]theorem kS(i j:Ag):Dr .Mult (.int i) (.int j)=if (FC i j||Nh i j)=Aa then .ok (.int (i*j)) else .bad:=rfl
@[simp]theorem fT(i j:Ag):Dr .FloorDiv (.int i) (.int j)=if 0<j/\j<1073741824 then .ok (.int (i/j)) else .bad:=rfl
@[simp]theorem kU(i j:Ag):Dr .Mod (.int i) (.int j)=if 0<j then .ok (.int (i%j)) else .bad:=rfl
@[simp]theorem lK(i j:Ag):Dr .Pow (.int i) (.int j)=if (0<=j/\j<=1000000)/\(-(18446744073709551616:Ag)<i/\i<18446744073709551616) then .ok (.int (i ^ j.toNat)) else .bad:=rfl
@[simp]theorem Pl(x y:Ak):Dr .Add (.str x) (.str y)=if BQ (x.length+y.length)=Aa then .ok (.str (x++y)) else .bad:=rfl
@[simp]theorem Tw(x y:Ac D):Dr .Add (.lst x) (.lst y)=if BQ (x.length+y.length)=Aa then .ok (.lst (x++y)) else .bad:=rfl
@[simp]theorem Tv(x y:Ac D):Dr .Add (.tup x) (.tup y)=if (!x.isEmpty&&BQ (x.length+y.length))=Aa then .ok (.tup (x++y)) else .bad:=rfl
@[simp]theorem ZyR(i:Ag):unD .USub (.int i)=.ok (.int (-i)):=rfl
@[simp]theorem rV(x y:D):Cb .Eq x y=if (flD 5 x&&flD 5 y)=Aa then .ok (.bl (eqD x y)) else .bad:=rfl
@[simp]theorem qK(x y:D):Cb .NotEq x y=if (flD 5 x&&flD 5 y)=Aa then .ok (.bl (!eqD x y)) else .bad:=rfl
@[simp]theorem ZyS(i j:Ag):Cb .Lt (.int i) (.int j)=.ok (.bl (decide (i<j))):=rfl
@[simp]theorem ZyU(i j:Ag):Cb .LtE (.int i) (.int j)=.ok (.bl (decide (i<=j))):=rfl
@[simp]theorem Zy5(i j:Ag):Cb .Gt (.int i) (.int j)=.ok (.bl (decide (j<i))):=rfl
@[simp]theorem Zy6(i j:Ag):Cb .GtE (.int i) (.int j)=.ok (.bl (decide (j<=i))):=rfl
@[simp]theorem sG(x:D)(ys:Ac D):Cb .In x (.lst ys)=if (flD 5 x&&ys.all (flD 5))=Aa then .ok (.bl (ys.any λy=>eqD y x)) else .bad:=rfl
@[simp]theorem tE(x:D)(ys:Ac D):Cb .In x (.tup ys)=if (flD 5 x&&ys.all (flD 5))=Aa then .ok (.bl (ys.any λy=>eqD y x)) else .bad:=rfl
@[simp]theorem qI(x:D)(ys:Ac D):Cb .NotIn x (.lst ys)=if (flD 5 x&&ys.all (flD 5))=Aa then .ok (.bl (!ys.any λy=>eqD y x)) else .bad:=rfl
@[simp]theorem rO(x:D)(ys:Ac D):Cb .NotIn x (.tup ys)=if (flD 5 x&&ys.all (flD 5))=Aa then .ok (.bl (!ys.any λy=>eqD y x)) else .bad:=rfl
@[simp]theorem ZxV:Cb .Is .non .non=.ok (.bl Aa):=rfl
@[simp]theorem ZxX(i):Cb .Is (.int i) .non=.ok (.bl Af):=rfl
@[simp]theorem ZxU(i):Cb .Is (.tup i) .non=.ok (.bl Af):=rfl
@[simp]theorem ZxW(i):Cb .Is (.lst i) .non=.ok (.bl Af):=rfl
@[simp]theorem ZyW(a b):Cb .Is (.bl a) (.bl b)=.ok (.bl (a==b)):=rfl
@[simp]theorem ZxS(a b):Cb .IsNot (.bl a) (.bl b)=.ok (.bl (!(a==b))):=rfl
@[simp]theorem ZvL:Cb .IsNot .non .non=.ok (.bl Af):=rfl
@[simp]theorem ZvN(i):Cb .IsNot (.int i) .non=.ok (.bl Aa):=rfl
@[simp]theorem ZvK(i):Cb .IsNot (.tup i) .non=.ok (.bl Aa):=rfl
@[simp]theorem ZvM(i):Cb .IsNot (.lst i) .non=.ok (.bl Aa):=rfl
@[simp]theorem ZwJ(i j:Ag):eqD (.int i) (.int j)=(i==j):=rfl
@[simp]theorem Zye(i j:Aj):eqD (.bl i) (.bl j)=(i==j):=rfl
@[simp]theorem ZwG(i j:Ak):eqD (.str i) (.str j)=(i==j):=rfl
@[simp]theorem ZwF(i j:Ac D):eqD (.tup i) (.tup j)=eqDs i j:=rfl
@[simp]theorem ZwI(i j:Ac D):eqD (.lst i) (.lst j)=eqDs i j:=rfl
@[simp]theorem ZwH:eqD .non .non=Aa:=rfl
@[simp]theorem Zn4(i):eqD .non (.int i)=Af:=rfl
@[simp]theorem Zn5(i):eqD (.int i) .non=Af:=rfl
@[simp]theorem Ztj:eqDs [] []=Aa:=rfl
@[simp]theorem N9(x y:D)(xs ys:Ac D):eqDs (x::xs) (y::ys)=(eqD x y&&eqDs xs ys):=rfl
@[simp]theorem Zwb(n)(i:Ag):flD n (.int i)=Aa:=by cases n<;>rfl
@[simp]theorem Zx7(n)(i:Aj):flD n (.bl i)=Aa:=by cases n<;>rfl
@[simp]theorem Zv9(n)(i:Ak):flD n (.str i)=Aa:=by cases n<;>rfl
@[simp]theorem Zwa(n):flD n .non=Aa:=by cases n<;>rfl
@[simp]theorem ZsJ(i):flD 5 (.tup i)=i.all (flD 4):=rfl
@[simp]theorem ZsO(i):flD 5 (.lst i)=i.all (flD 4):=rfl
@[simp]theorem ZsK(i):flD 4 (.tup i)=i.all (flD 3):=rfl
@[simp]theorem ZsP(i):flD 4 (.lst i)=i.all (flD 3):=rfl
@[simp]theorem ZsL(i):flD 3 (.tup i)=i.all (flD 2):=rfl
@[simp]theorem ZsQ(i):flD 3 (.lst i)=i.all (flD 2):=rfl
@[simp]theorem ZsM(i):flD 2 (.tup i)=i.all (flD 1):=rfl
@[simp]theorem ZsR(i):flD 2 (.lst i)=i.all (flD 1):=rfl
@[simp]theorem ZsN(i):flD 1 (.tup i)=i.all (flD 0):=rfl
@[simp]theorem ZsS(i):flD 1 (.lst i)=i.all (flD 0):=rfl
@[simp]theorem ZtG(b):Cj (.bl b)=.ok b:=rfl
@[simp]theorem Zsk(i):Cj (.int i)=.ok (i != 0):=rfl
@[simp]theorem Zsj(i):Cj (.lst i)=.ok (!i.isEmpty):=rfl
@[simp]theorem Zsh(i):Cj (.tup i)=.ok (!i.isEmpty):=rfl
@[simp]theorem Zsi:Cj .non=.ok Af:=rfl
@[simp]theorem ZtH(b):Gq (.bl b)=.ok b:=rfl
@[simp]theorem Zsm(i):Gq (.int i)=.ok (i != 0):=rfl
@[simp]theorem Zsl:Gq .non=.ok Af:=rfl
@[simp]theorem Zr9:Fp []=.ok Aa:=rfl
@[simp]theorem QS(x r):Fp (x::r)=(Gq x).bind λb=>(Fp r).bind λc=>.ok (b&&c):=rfl
@[simp]theorem Zr8:JO []=.ok Af:=rfl
@[simp]theorem ZoQ(x r):JO (x::r)=(Gq x).bind λb=>(JO r).bind λc=>.ok (b||c):=rfl
@[simp]theorem ZwN(b)(d):Hr b (.ok d)=.ok d:=by cases b<;>rfl
@[simp]theorem Ztl(b):Hr b .bad=.bad:=by cases b<;>rfl
@[simp]theorem Ztk(x):Hr Aa (.exn x)=.exn x:=rfl
@[simp]theorem ZoO(r):Hr Af r=noX r:=rfl
@[simp]theorem Zvw(a:α):noX (.ok a)=.ok a:=rfl
@[simp]theorem Zvy:noX (.bad:R α)=.bad:=rfl
@[simp]theorem Zvx(x):noX (.exn x:R α)=.bad:=rfl
@[simp]theorem ZwX(b):EG (.bl b)=.ok b:=rfl
@[simp]theorem Zr7(b):DK (.int b)=.ok b:=rfl
@[simp]theorem QY(b):JN (.lst b)=.ok b:=rfl
@[simp]theorem Zr5(b):EC (.lst b)=.ok b:=rfl
@[simp]theorem Zr4(b):EC (.tup b)=.ok b:=rfl
@[simp]theorem qC(xs i):Km (.lst xs) (.int i)=Fq xs i:=rfl
@[simp]theorem qB(xs i):Km (.tup xs) (.int i)=Fq xs i:=rfl
@[simp]theorem qO(xs):biD .len [.lst xs]=.ok (.int xs.length):=rfl
@[simp]theorem ZyT(xs):biD .len [.tup xs]=.ok (.int xs.length):=rfl
@[simp]theorem Zze(i):biD .abs [.int i]=.ok (.int (if i<0 then -i else i)):=rfl
@[simp]theorem ZxM(i j):biD .max [.int i,.int j]=.ok (.int (if i<j then j else i)):=rfl
@[simp]theorem ZxL(i j):biD .min [.int i,.int j]=.ok (.int (if j<i then j else i)):=rfl
@[simp]theorem ZyX(i):biD .int [.int i]=.ok (.int i):=rfl
@[simp]theorem ZyY(i):biD .int [.bl i]=.ok (.int (b2i i)):=rfl
@[simp]theorem ZxQ(i):biD .list [.lst i]=.ok (.lst i):=rfl
@[simp]theorem ZxP(i):biD .list [.tup i]=.ok (.lst i):=rfl
@[simp]theorem ZtF(i):biD .tuple [.lst i]=.ok (.tup i):=rfl
@[simp]theorem ZtE(i):biD .tuple [.tup i]=.ok (.tup i):=rfl
@[simp]theorem rP(i):biD .all [.lst i]=(Fp i).bind λb=>.ok (.bl b):=rfl
@[simp]theorem Zzd(i):biD .any [.lst i]=(JO i).bind λb=>.ok (.bl b):=rfl
@[simp]theorem Zzc(i):biD .any [.tup i]=(JO i).bind λb=>.ok (.bl b):=rfl
@[simp]theorem ZyF(i):biD .sum [.lst i]=(Mj 0 i).bind λb=>.ok (.int b):=rfl
@[simp]theorem ZyE(i):biD .sum [.tup i]=(Mj 0 i).bind λb=>.ok (.int b):=rfl
@[simp]theorem Zst(i):biD .sorted [.lst i]=(G0 i).bind λb=>.ok (.lst b):=rfl
@[simp]theorem ZyG(xs k):biD .stp [.lst xs,.int k]=.ok (.lst (U_4 k.toNat xs)):=rfl
@[simp]theorem Zxo(xs):biD .sset [.lst xs]=K9 xs:=rfl
@[simp]theorem ZyK(xs):biD .rvs [.lst xs]=.ok (.lst xs.reverse):=rfl
@[simp]theorem ZxN(xs):biD .lset [.lst xs]=Uu xs:=rfl
@[simp]theorem Zxh(x y):biD .tmin [x,y]=mmD Af x y:=rfl
@[simp]theorem Zyr(x y):biD .tlt [x,y]=U_1 x y:=rfl
@[simp]theorem Zxi(x y):biD .tmax [x,y]=mmD Aa x y:=rfl
@[simp]theorem ZwP(xs x):biD .count [.lst xs,x]=if (flD 5 x&&xs.all (flD 5))=Aa then .ok (.int ((xs.filter λy=>eqD y x).length:Ae)) else .bad:=rfl
@[simp]theorem Zzn(xs lo hi):slD (.tup xs) lo hi=if (Kl xs.length 0 lo==0&&Kl xs.length xs.length hi==xs.length)=Aa then .bad else .ok (.tup (Nx xs lo hi)):=rfl
@[simp]theorem Zzo(xs lo hi):slD (.lst xs) lo hi=.ok (.lst (Nx xs lo hi)):=rfl
@[simp]theorem Zua(d):slE .non d=.ok Ad:=rfl
@[simp]theorem Zub(k i):slE (.int k) (.int i)=.ok (Ab i):=rfl
@[simp]theorem Zt9(k i):slE (.var k) (.int i)=.ok (Ab i):=rfl
@[simp]theorem Zuc(op a b i):slE (.bin op a b) (.int i)=.ok (Ab i):=rfl
@[simp]theorem Zxp(op a i):slE (.un op a) (.int i)=.ok (Ab i):=rfl
@[simp]theorem Zxq(b as i):slE (.bi b as) (.int i)=.ok (Ab i):=rfl
@[simp]theorem ZvQ(up ks):H9 up ks .non=if ks.any F3=Aa then .bad else .ok (.bl (ks.any λk=>kiD up k .non)):=rfl
@[simp]theorem ZxT(up ks b):H9 up ks (.bl b)=if ks.any F3=Aa then .bad else .ok (.bl (ks.any λk=>kiD up k (.bl b))):=rfl
@[simp]theorem ZvS(up ks b):H9 up ks (.int b)=if ks.any F3=Aa then .bad else .ok (.bl (ks.any λk=>kiD up k (.int b))):=rfl
@[simp]theorem ZvP(up ks b):H9 up ks (.str b)=if ks.any F3=Aa then .bad else .ok (.bl (ks.any λk=>kiD up k (.str b))):=rfl
@[simp]theorem ZvO(up ks b):H9 up ks (.tup b)=if ks.any F3=Aa then .bad else .ok (.bl (ks.any λk=>kiD up k (.tup b))):=rfl
@[simp]theorem ZvR(up ks b):H9 up ks (.lst b)=if ks.any F3=Aa then .bad else .ok (.bl (ks.any λk=>kiD up k (.lst b))):=rfl
@[simp]theorem ZvT(up ks c f):H9 up ks (.exc c f)=if ks.all F3=Aa then .ok (.bl (ks.any λk=>kiD up k (.exc c f))) else .bad:=rfl
@[simp]theorem Ztp(c):F3 (.cls c)=Aa:=rfl
@[simp]theorem ZrD:F3 .verr=Aa:=rfl
@[simp]theorem Zto:F3 .int=Af:=rfl
@[simp]theorem ZrF:F3 .bool=Af:=rfl
@[simp]theorem Ztn:F3 .str=Af:=rfl
@[simp]theorem ZrE:F3 .list=Af:=rfl
@[simp]theorem ZoP:F3 .tuple=Af:=rfl
@[simp]theorem ZoJ(up i):kiD up .int (.int i)=Aa:=rfl
@[simp]theorem ZoI(up):kiD up .int .non=Af:=rfl
@[simp]theorem ZnG(up i):kiD up .bool (.int i)=Af:=rfl
@[simp]theorem ZoH(up i):kiD up .int (.tup i)=Af:=rfl
@[simp]theorem ZoL(up i):kiD up .bool (.bl i)=Aa:=rfl
@[simp]theorem ZnF(up):kiD up .bool .non=Af:=rfl
@[simp]theorem ZnE(up i):kiD up .list (.lst i)=Aa:=rfl
@[simp]theorem Zlp(up i):kiD up .tuple (.tup i)=Aa:=rfl
@[simp]theorem Zlq(up):kiD up .tuple .non=Af:=rfl
@[simp]theorem ZoK(up c k f):kiD up (.cls c) (.exc k f)=(up k).contains c:=rfl
@[simp]theorem ZnD(up k f):kiD up .verr (.exc k f)=Aa:=rfl
theorem Os{xs:Ac D}{i:Ag}{d:D}(h0:0<=i)(h:xs[i.toNat]?=Ab d):Fq xs i=.ok d:=by
 unfold Fq plD;obtain⟨h1,_⟩:=AW.mp h;rw[Ar h0,Ar (by omega)]
 dsimp only;rw[h]
section
variable(Y:Gam)(U:Rho)
@[simp]theorem ZsT:evSs Y U .nil=.next U:=rfl
noncomputable def Go(Y:Gam)(ss:Ss)(o:O):O:=o.seq λU'=>evSs Y U' ss
@[simp]theorem Zrr(s ss):evSs Y U (.cons s ss)=Go Y ss (evS Y U s):=rfl
@[simp]theorem fP(ss):Go Y ss (.next U)=evSs Y U ss:=rfl
@[simp]theorem ZxY(ss d b):Go Y ss (.ret d b)=.ret d b:=rfl
@[simp]theorem Zx2(ss):Go Y ss (.brk U)=.brk U:=rfl
@[simp]theorem Zv5(ss):Go Y ss (.cont U)=.cont U:=rfl
@[simp]theorem Zx1(ss x):Go Y ss (.exn x U)=.exn x U:=rfl
@[simp]theorem Zx3(ss):Go Y ss .bad=.bad:=rfl
@[simp]theorem Zx0(ss)(c:Prop)[E1 c](a b:O):Go Y ss (if c then a else b)=if c then Go Y ss a else Go Y ss b:=by split<;>rfl
@[simp]theorem ZxZ(o:O):Go Y .nil o=o:=by cases o<;>rfl
noncomputable def DV(Y:Gam)(t:Ae)(body:Ss):D->Rho->O:=λx U'=>evSs Y (U'.set t (Ab (x,Af))) body
noncomputable def whC(Y:Gam)(c:E):Rho->R Aj:=λU'=>(top U' c (evE Y U' c)).bind Cj
noncomputable def whB(Y:Gam)(body:Ss):Rho->O:=λU'=>evSs Y U' body
noncomputable def UN(Y:Gam)(t:Ae)(body:Ss)(U:Rho)(r:R (Ac D)):O:=O.of U r λxs=>Dk (DV Y t body) xs U
@[simp]theorem Zv8(t body xs):UN Y t body U (.ok xs)=Dk (DV Y t body) xs U:=rfl
@[simp]theorem ZsY:evS Y U .pass=.next U:=rfl
@[simp]theorem Zwk(i e):evS Y U (.asg i Af e)=O.of U (evE Y U e) λd=>.next (U.set i (Ab (d,Af))):=rfl
@[simp]theorem Zs1(e):evS Y U (.expr e)=O.of U (evE Y U e) λ_=>.next U:=rfl
@[simp]theorem eW(e):evS Y U (.ret e)=O.of U (top U e (evE Y U e)) λd=>.ret d (DT Y e||(match e with | .var i=>(match U[i]? with|some (Ab (_,o))=>o|_=>Af)|_=>Af)):=rfl
@[simp]theorem ZsW:evS Y U .retN=.ret .non Af:=rfl
@[simp]theorem Zwg(c a b):evS Y U (.lnd c a b)=O.of U ((top (shA U) c (evE Y (shA U) c)).bind Cj) λk=>if k=Aa then evSs Y U a else evSs Y U b:=rfl
@[simp]theorem Zwh(c a b):evS Y U (.ife c a b)=O.of U ((top U c (evE Y U c)).bind Cj) λk=>if k=Aa then evSs Y U a else evSs Y U b:=rfl
@[simp]theorem ZsZ(t it body):evS Y U (.fors t it body)=UN Y t body U (Hq Y U it):=rfl
noncomputable def Hn(Y:Gam)(ts:Ac Ae)(body:Ss):D->Rho->O:=λx U'=>O.of U' (Gm ts x U') λU''=>evSs Y U'' body
noncomputable def UH(Y:Gam)(ts:Ac Ae)(body:Ss)(U:Rho)(r:R (Ac D)):O:=O.of U r λxs=>Dk (Hn Y ts body) xs U
@[simp]theorem ZsI(t body xs):UH Y t body U (.ok xs)=Dk (Hn Y t body) xs U:=rfl
@[simp]theorem Zs0(t it body):evS Y U (.forT t it body)=UH Y t body U (Hq Y U it):=rfl
@[simp]theorem Zs3(ts e):evS Y U (.asgT ts e)=O.of U (evE Y U e) λd=>O.of U (Ni ts d U) λU'=>.next U':=rfl
theorem LP(i e):evS Y U (.asg i Aa e)=O.of U (evE Y U e) λd=>if DT Y e=Aa then (match d with
      |.lst xs=>.next (U.set i (Ab (.lst xs,Aa)))
      |.dic xs=>.next (U.set i (Ab (.dic xs,Aa)))
      | _=>.bad) else .bad:=rfl
noncomputable def setF(U:Rho)(i:Ae):D->O
 |.lst xs=>.next (U.set i (Ab (.lst xs,Aa)))
 |.dic xs=>.next (U.set i (Ab (.dic xs,Aa)))
 |_=>.bad
@[simp]theorem Zxx(i xs):setF U i (.lst xs)=.next (U.set i (Ab (.lst xs,Aa))):=rfl
@[simp]theorem Zxy(i xs):setF U i (.dic xs)=.next (U.set i (Ab (.dic xs,Aa))):=rfl
@[simp]theorem Zrs(i e):evS Y U (.asg i Aa e)=O.of U (evE Y U e) λd=>if DT Y e=Aa then setF U i d else .bad:=by
 rw[LP]
 congr 1
@[simp]theorem Zwl(i e):evS Y U (.app i e)=O.of U (Dj U i) λxs=>O.of U (evE Y U e) λd=>if BQ (xs.length+1)=Aa then .next (U.set i (Ab (.lst (xs++[d]),Aa))) else .bad:=rfl
@[simp]theorem OK(i e):evS Y U (.ext i e)=if DT Y e=Aa then (O.of U (Dj U i) λxs=>O.of U (evE Y U e) λd=>O.of U (JN d) λys=>if BQ (xs.length+ys.length)=Aa then .next (U.set i (Ab (.lst (xs++ys),Aa))) else .bad) else .bad:=rfl
@[simp]theorem Zwf(i):evS Y U (.rev i)=O.of U (Dj U i) λxs=>.next (U.set i (Ab (.lst xs.reverse,Aa))):=rfl
@[simp]theorem Zwi(i):evS Y U (.clr i)=O.of U (Dj U i) λ_=>.next (U.set i (Ab (.lst [],Aa))):=rfl
@[simp]theorem ZsU(body c x h):evS Y U (.tryx body c x h)=match evSs Y U body with
      | .exn y U'=>if (Y.up y.c).contains c=Aa then (match evSs Y (U'.set x (Ab (.exc y.c y.fs,Af))) h with
          |.next U''=>.next (U''.set x Ad)
          |.ret d f=>.ret d f
          | _=>.bad) else .bad
      |o=>o:=rfl
@[simp]theorem ZsV(body c x h c' h' els):evS Y U (.try2 body c x h c' h' els)=match evSs Y U body with
      |.exn y U'=>if (Y.up y.c).contains c=Aa then hdO x y U' (λr=>evSs Y r h) else if (Y.up y.c).contains c'=Aa then hdO x y U' (λr=>evSs Y r h') else .bad
      |.next U'=>evSs Y U' els
      |o=>o:=rfl
@[simp]theorem Zwe(c body):evS Y U (.whl c body)=PY (whC Y c) (whB Y body) UF U:=rfl
@[simp]theorem ZsX(c as):evS Y U (.rais c as)=O.of U (noX (evA Y U as)) λxs=>O.of U (Y.xn c xs) λx=>.exn x U:=rfl
@[simp]theorem Zwj:evS Y U .brk=.brk U:=rfl
@[simp]theorem Zs2:evS Y U .cont=.cont U:=rfl
end
end Ov
namespace Ov
open PySem
theorem NS{body:D->Rho->O}(P:Ae->Rho->Prop):∀(xs:Ac D)(n:Ae)(U:Rho),P n U->(∀ i x,xs[i]?=Ab x->∀ U,P (n+i) U->∃ U',body x U=.next U'/\P (n+i+1) U')->∃ U',Dk body xs U=.next U'/\P (n+xs.length) U'
 |[],n,U,h,_=>⟨U,rfl,h⟩
 |x::xs,n,U,h,k=>by
  obtain⟨U1,e1,h1⟩:=k 0 x rfl U h;obtain⟨U2,e2,h2⟩:=NS P xs (n+1) U1 h1 λi y hy U hρ=>by
   have:=k (i+1) y (by simpa using hy) U (by rw[show n+(i+1)=n+1+i by omega];exact hρ)
   rw[show n+(i+1)=n+1+i by omega]at this
   exact this
  exact⟨U2,by show (body x U).turn _=_;rw[e1];exact e2,by rw[show n+(x::xs).length=n+1+xs.length by simp;omega];exact h2⟩
theorem Zw(h1:0<=lo)(h2:lo<1000000)(h3:0<=hi)(h4:hi<1000000):DM lo hi=.ok (EU lo (hi-lo).toNat):=by
 unfold DM;rw[Ar (by omega)]
theorem Om(h3:0<=hi)(h4:hi<1000000):DM 0 hi=.ok (EU 0 hi.toNat):=by
 rw[Zw (by omega) (by omega) h3 h4,Vv]
theorem NZ(lo:Ag)(n:Ae):(EU lo n).length=n:=by simp[EU]
theorem aM{n i:Ae}{x:D}(h:(EU lo n)[i]?=Ab x):i<n/\x=.int (lo+(i:Ag)):=by
 have hl:=(AW.mp h).1;rw[NZ]at hl;unfold EU at h;rw[Bx,GQ hl]at h;cases h;exact⟨hl,rfl⟩
noncomputable def Ss.take:Ae->Ss->Ss
 |0,_=>.nil
 |_,.nil=>.nil
 |n+1,.cons s ss=>.cons s (ss.take n)
noncomputable def Ss.drop:Ae->Ss->Ss
 |0,ss=>ss
 |_,.nil=>.nil
 |n+1,.cons _ ss=>ss.drop n
theorem RX(Y:Gam):∀(n:Ae)(ss:Ss)(U:Rho),evSs Y U ss=Go Y (ss.drop n) (evSs Y U (ss.take n))
 |0,_,_=>rfl
 |_+1,.nil,_=>rfl
 |n+1,.cons s ss,U=>by
  show (evS Y U s).seq (λU'=>evSs Y U' ss)=Go Y (ss.drop n) ((evS Y U s).seq λU'=>evSs Y U' (ss.take n))
  cases evS Y U s with
  |next U'=>exact RX Y n ss U'
  |_=>rfl
end Ov
end
section
namespace Ov
end Ov
end
section
namespace OvC
open PySem Ov PyProof.Rows
variable{j:Ag}{Y:Gam}
noncomputable abbrev scr(ns:Ac Ag):D:=.lst (ns.map .int)
noncomputable abbrev sh(d:D):Sl:=Ab (d,Af)
noncomputable abbrev si(i:Ag):Sl:=Ab (.int i,Af)
noncomputable def Ng(ns:Ac Ag)(k:Ag):Ag:=if ns=[] then 0 else ns.getD (k%ns.length).toNat 0
noncomputable def Kn(ns:Ac Ag)(k:Ag):Ag:=(Ng ns k%1000003+7919*k+11)*48271%1000033
noncomputable def Pc(ns:Ac Ag)(k:Ag):Ag:=[3,5,7,11].getD (Kn ns k/16%4).toNat 0
theorem UM{P:Ae->Prop}(h0:P 0)(h1:P 1)(h2:P 2)(h3:P 3):P (j%4).toNat:=by
 have:(j%4).toNat=0\/(j%4).toNat=1\/(j%4).toNat=2\/(j%4).toNat=3:=by omega
 rcases this with e|e|e|e<;>rw[e]<;>assumption
def P4(p:Ag):Prop:=p=3\/p=5\/p=7\/p=11
noncomputable def pr4(j:Ag):Ag:=[3,5,7,11].getD (j%4).toNat 0
theorem lJ(j):P4 (pr4 j):=by
 unfold pr4;exact UM (P:=λj=>P4 ([3,5,7,11].getD j 0)) (.inl rfl) (.inr (.inl rfl)) (.inr (.inr (.inl rfl))) (.inr (.inr (.inr rfl)))
theorem ZJ(ns k):P4 (Pc ns k):=lJ _
theorem P4.pos{p}(h:P4 p):0<p:=by rcases h with rfl|rfl|rfl|rfl<;>decide
theorem P4.lo{p}(h:P4 p):3<=p:=by rcases h with rfl|rfl|rfl|rfl<;>decide
theorem P4.hi{p}(h:P4 p):p<=11:=by rcases h with rfl|rfl|rfl|rfl<;>decide
theorem aO(j:Ag):Fq [.int 3,.int 5,.int 7,.int 11] (j%4)=.ok (.int (pr4 j)):=by
 have h:=UM (P:=λj=>[D.int 3,D.int 5,D.int 7,D.int 11][j]?=Ab (D.int ([3,5,7,11].getD j 0))) (j:=j) rfl rfl rfl rfl
 exact Os (by omega) h
theorem L0{i:Ag}(h0:-18446744073709551616<i)(h1:i<18446744073709551616):FC i j=Aa:=by simp[FC];left;exact⟨h0,h1⟩
theorem SJ{i:Ag}(h0:-18446744073709551616<j)(h1:j<18446744073709551616):FC i j=Aa:=by simp[FC];right;exact⟨h0,h1⟩
noncomputable def Pi:Df:=⟨2,Af,(.cons (.ret (.bin .Mod (.var 1) (.var 0))) .nil)⟩
def MW(Y:Gam):Prop:=∀ p n:Ag,0<p->Y.F 1 [.int p,.int n]=.ok (.int (n%p))
theorem iK(Y:Gam)(p n:Ag)(h:0<p):Pi.run Y [.int p,.int n]=.ok (.int (n%p)):=by simp[Pi,Df.run,DL,h]
noncomputable def NI:Df:=⟨2,Af,(.cons (.ife (.cmp .Eq (.bi .len (.cons (.var 0) .nil)) (.int 0)) (.cons (.ret (.int 0)) .nil) .nil) (.cons (.ret (.idx (.var 0) (.bin .Mod (.var 1) (.bi .len (.cons (.var 0) .nil))))) .nil))⟩
def TF(Y:Gam):Prop:=∀(ns:Ac Ag)(k:Ag),Y.F 2 [scr ns,.int k]=.ok (.int (Ng ns k))
theorem iO(Y:Gam)(ns:Ac Ag)(k:Ag):NI.run Y [scr ns,.int k]=.ok (.int (Ng ns k)):=by
 simp[NI,Df.run,DL,Ng];by_cases h:ns=[]
 .simp[h]
 .have hn:=VO.mpr h;have hl:0<(ns.length:Ag):=by omega
  have h1:=DB k (Vu hl);have h2:=Du k hl;have h3:(k%ns.length).toNat<ns.length:=by omega
  simp[h,hn,Os (xs:=ns.map .int) (d:=.int (ns.getD (k%ns.length).toNat 0)) h1 (by simp[h3])]
noncomputable def N4:Df:=⟨2,Af,(.cons (.ret (.bin .Mod (.bin .Mult (.bin .Add (.bin .Add (.bin .Mod (.call 2 (.cons (.var 0) (.cons (.var 1) .nil))) (.int 1000003)) (.bin .Mult (.int 7919) (.var 1))) (.int 11)) (.int 48271)) (.int 1000033))) .nil)⟩
def OW(Y:Gam):Prop:=∀(ns:Ac Ag)(k:Ag),Y.F 3 [scr ns,.int k]=.ok (.int (Kn ns k))
theorem dF(h2:TF Y)(ns:Ac Ag)(k:Ag):N4.run Y [scr ns,.int k]=.ok (.int (Kn ns k)):=by
 simp[N4,Df.run,DL,h2 ns k,FC,Kn]
noncomputable def N3:Df:=⟨2,Af,(.cons (.ret (.idx (.lst (.cons (.int 3) (.cons (.int 5) (.cons (.int 7) (.cons (.int 11) .nil))))) (.bin .Mod (.bin .FloorDiv (.call 3 (.cons (.var 0) (.cons (.var 1) .nil))) (.int 16)) (.int 4)))) .nil)⟩
def Th(Y:Gam):Prop:=∀(ns:Ac Ag)(k:Ag),Y.F 4 [scr ns,.int k]=.ok (.int (Pc ns k))
theorem dE(h:OW Y)(ns:Ac Ag)(k:Ag):N3.run Y [scr ns,.int k]=.ok (.int (Pc ns k)):=by
 simp[N3,Df.run,DL,h ns k,aO];rfl
end OvC
end
namespace Ov
open PySem PySem.Spec PyProof.Rows L2
variable{A B:Al->Prop}{H H' H1 H0:Hp}{a b l q l2:Al}{xs ys vs:Ac V}{v:V}{d:D}{Rp Rq:Hp->V->D->Prop}{r:R D}{Q:VK}{X:Cx}{e c tg iter elt:Am}{U:Rho}{i n j k tk:Ae}{Z:L2.St}{g:D->D->R D}{op:DX}{K:Fg}{pins:Pn}{s:Ap}{items2 its:Au Ai}{h h':AM}{u:Ai}{its2:Ac Ai}{es ifs:Ac Am}{fs fi:Rho->R (Ac D)}{Q':Ao Ag->Hp->Prop}{x:Ak}{id T:CO}{p pos pos' pos2 tpos:A3}{f fc:Rho->R Aj}{α:Type}{Fz:Al->HO->Prop}{D':Ends}{lo hi:Ag}{as:D->Rho->R Rho}{up:Ae->Ac Ae}{prog P:AR}{w:AT}{o:De}{scope:Ce}{env:CY}{cl:Ac (Ak×Al)}{N':Ac Ak}{ts:Ac Ae}{fp:Ac Al}{tt:TT}{te:TE}{J:It}{wi:TI}{t t1 t2:Aj}{ta:TA}
abbrev ClA:=Ae->Ao Al
variable{CL:ClA}
def KL(K:Fg)(a:Al)(xs:Ac V):Prop:=∃(o:De)(its:Au Ai)(n:Ae),K.lookup a=Ab o/\o.cls=.type "list"/\o.dict=Ad/\o.data=.seq its n/\its.size<=sizeLine/\A6 xs its.toList
def KT(K:Fg)(a:Al)(xs:Ac V):Prop:=∃(o:De)(its:Au Ai)(n:Ae),K.lookup a=Ab o/\o.cls=.type "tuple"/\o.data=.seq its n/\its.size<=sizeLine/\A6 xs its.toList
section
variable(K:Fg)(CL:ClA)(H:Hp)(A:Al->Prop)
mutual
def Rep:V->D->Prop
 |v,.non=>v=.non
 |v,.bl b=>v=.bl b
 |v,.int i=>v=.int i
 |v,.str x=>v=.str x
 |v,.tup ds=>∃ a xs,v=.ref a/\(¬ A a\/KT K a xs)/\SqT K H a xs/\Reps xs ds
 |v,.lst ds=>∃ a xs,v=.ref a/\(¬ A a\/KL K a xs)/\SqL K H a xs/\Reps xs ds
 |v,.obj c fs=>∃ a C dx vs,v=.ref a/\¬ A a/\CL c=Ab C/\H a=Ab (.ins C dx vs)/\Repf vs fs
 |_,.dic _=>Bj
 |v,.exc c fs=>∃ a C φ,v=.ref a/\¬ A a/\CL c=Ab C/\H a=Ab (.ext φ)/\(∀ h,φ h->∃ o,h.get? a=Ab o/\o.cls=.ref C)/\(fs=[]\/∃ dx vs,¬ A dx/\H dx=Ab (.xd vs)/\Repf vs fs/\∀ h,φ h->∃ o,h.get? a=Ab o/\o.dict=Ab dx/\∃ us,o.data=.fields us)
def Reps:Ac V->Ac D->Prop
 |[],[]=>Iw
 |v::vs,d::ds=>Rep v d/\Reps vs ds
 |_,_=>Bj
def Repf:Ac (Ak×V)->Ac (Ak×D)->Prop
 |[],[]=>Iw
 |v::vs,d::ds=>Repp v d/\Repf vs ds
 |_,_=>Bj
def Repp:Ak×V->Ak×D->Prop
 |v,(n,d)=>v.1=n/\Rep v.2 d
end
def C3(v:V)(d:D):Prop:=Rep K CL H A v d\/∃ a xs ds,v=.ref a/\d=.lst ds/\H a=Ab (.lst xs)/\Reps K CL H A xs ds
end
def Kp(A:Al->Prop)(H H':Hp):Prop:=∀ b o,H b=Ab o->¬ A b->H' b=Ab o
def AOk(H:Hp)(A:Al->Prop):Prop:=∀ a,A a->∃ xs,H a=Ab (.lst xs)
theorem Kp.of(h:AO H H'):Kp A H H':=λb o e _=>h b o e
theorem AOk.same(h:AOk H A)(s:AO H H'):AOk H' A:=λa ha=>let ⟨xs,e⟩:=h a ha;⟨xs,s _ _ e⟩
theorem AOk.new{p:Al}(h:AOk H A)(e:H p=Ad):¬ A p:=λha=>by
 obtain⟨xs,q⟩:=h p ha;rw[e]at q;cases q
section
variable{K:Fg}{CL:ClA}{H H':Hp}{A B:Al->Prop}
theorem Ui{u:HO}(k:Kp A H H')(na:¬ A a)(h:Rd H a u):Rd H' a u:=by
 rcases h with h|⟨o,h⟩
 .exact .inl (k _ _ h na)
 .exact .inr ⟨o,k _ _ h na⟩
theorem M4(k:Kp A H H')(na:¬ A a\/KL K a xs)(h:SqL K H a xs):SqL K H' a xs:=na.elim (λna=>h.imp (Ui k na) id) .inr
theorem M3(k:Kp A H H')(na:¬ A a\/KT K a xs)(h:SqT K H a xs):SqT K H' a xs:=na.elim (λna=>h.imp (Ui k na) id) .inr
mutual
theorem Rep.kp(k:Kp A H H'):∀{v:V}(d:D),Rep K CL H A v d->Rep K CL H' A v d
 |_,.non,h=>h
 |_,.bl _,h=>h
 |_,.int _,h=>h
 |_,.str _,h=>h
 |_,.dic _,h=>h.elim
 |_,.tup ds,h=>by
  obtain⟨a,xs,e,na,s,r⟩:=h;exact⟨a,xs,e,na,by first|exact M3 k na s|exact M4 k na s,Reps.kp k ds r⟩
 |_,.lst ds,h=>by
  obtain⟨a,xs,e,na,s,r⟩:=h;exact⟨a,xs,e,na,by first|exact M3 k na s|exact M4 k na s,Reps.kp k ds r⟩
 |_,.obj c fs,h=>by
  obtain⟨a,C,dx,vs,e,na,c,s,r⟩:=h;exact⟨a,C,dx,vs,e,na,c,k _ _ s na,Repf.kp k fs r⟩
 |_,.exc c fs,h=>by
  obtain⟨a,C,φ,e,na,c,s,p,q⟩:=h;refine⟨a,C,φ,e,na,c,k _ _ s na,p,q.imp id ?_⟩;rintro⟨dx,vs,nx,s2,r,z⟩;exact⟨dx,vs,nx,k _ _ s2 nx,Repf.kp k fs r,z⟩
theorem Reps.kp(k:Kp A H H'):∀{vs:Ac V}(ds:Ac D),Reps K CL H A vs ds->Reps K CL H' A vs ds
 |[],[],h=>h
 |_::_,d::ds,h=>⟨Rep.kp k d h.1,Reps.kp k ds h.2⟩
 |[],_::_,h=>h.elim
 |_::_,[],h=>h.elim
theorem Repf.kp(k:Kp A H H'):∀{vs:Ac (Ak×V)}(ds:Ac (Ak×D)),Repf K CL H A vs ds->Repf K CL H' A vs ds
 |[],[],h=>h
 |_::_,d::ds,h=>⟨Repp.kp k d h.1,Repf.kp k ds h.2⟩
 |[],_::_,h=>h.elim
 |_::_,[],h=>h.elim
theorem Repp.kp(k:Kp A H H'):∀{v:Ak×V}(d:Ak×D),Repp K CL H A v d->Repp K CL H' A v d
 |_,(_,d),h=>⟨h.1,Rep.kp k d h.2⟩
end
mutual
theorem Rep.sub(k:∀ a,B a->A a):∀{v:V}(d:D),Rep K CL H A v d->Rep K CL H B v d
 |_,.non,h=>h
 |_,.bl _,h=>h
 |_,.int _,h=>h
 |_,.str _,h=>h
 |_,.dic _,h=>h.elim
 |_,.tup ds,h=>by
  obtain⟨a,xs,e,na,s,r⟩:=h;exact⟨a,xs,e,na.imp (λna z=>na (k _ z)) id,s,Reps.sub k ds r⟩
 |_,.lst ds,h=>by
  obtain⟨a,xs,e,na,s,r⟩:=h;exact⟨a,xs,e,na.imp (λna z=>na (k _ z)) id,s,Reps.sub k ds r⟩
 |_,.obj c fs,h=>by
  obtain⟨a,C,dx,vs,e,na,c,s,r⟩:=h;exact⟨a,C,dx,vs,e,λz=>na (k _ z),c,s,Repf.sub k fs r⟩
 |_,.exc c fs,h=>by
  obtain⟨a,C,φ,e,na,c,s,p,q⟩:=h;refine⟨a,C,φ,e,λz=>na (k _ z),c,s,p,q.imp id ?_⟩
  rintro⟨dx,vs,nx,s2,r,z⟩;exact⟨dx,vs,λz=>nx (k _ z),s2,Repf.sub k fs r,z⟩
theorem Reps.sub(k:∀ a,B a->A a):∀{vs:Ac V}(ds:Ac D),Reps K CL H A vs ds->Reps K CL H B vs ds
 |[],[],h=>h
 |_::_,d::ds,h=>⟨Rep.sub k d h.1,Reps.sub k ds h.2⟩
 |[],_::_,h=>h.elim
 |_::_,[],h=>h.elim
theorem Repf.sub(k:∀ a,B a->A a):∀{vs:Ac (Ak×V)}(ds:Ac (Ak×D)),Repf K CL H A vs ds->Repf K CL H B vs ds
 |[],[],h=>h
 |_::_,d::ds,h=>⟨Repp.sub k d h.1,Repf.sub k ds h.2⟩
 |[],_::_,h=>h.elim
 |_::_,[],h=>h.elim
theorem Repp.sub(k:∀ a,B a->A a):∀{v:Ak×V}(d:Ak×D),Repp K CL H A v d->Repp K CL H B v d
 |_,(_,d),h=>⟨h.1,Rep.sub k d h.2⟩
end
mutual
theorem Rep.wide(hp:∀ a,B a->A a\/H a=Ad):∀{v:V}(d:D),Rep K CL H A v d->Rep K CL H B v d
 |_,.non,h=>h
 |_,.bl _,h=>h
 |_,.int _,h=>h
 |_,.str _,h=>h
 |_,.dic _,h=>h.elim
 |_,.tup ds,h=>by
  obtain⟨a,xs,e,na,s,r⟩:=h;refine⟨a,xs,e,?_,s,Reps.wide hp ds r⟩;rcases s with s|s
  .refine na.imp (λna z=>(hp _ z).elim na λe=>?_) id
   rcases s with s|⟨o,s⟩<;>rw[e]at s<;>cases s
  .exact .inr s
 |_,.lst ds,h=>by
  obtain⟨a,xs,e,na,s,r⟩:=h;refine⟨a,xs,e,?_,s,Reps.wide hp ds r⟩;rcases s with s|s
  .refine na.imp (λna z=>(hp _ z).elim na λe=>?_) id
   rcases s with s|⟨o,s⟩<;>rw[e]at s<;>cases s
  .exact .inr s
 |_,.obj c fs,h=>by
  obtain⟨a,C,dx,vs,e,na,c,s,r⟩:=h;exact⟨a,C,dx,vs,e,(λz=>(hp _ z).elim na λe=>by rw[e]at s;cases s),c,s,Repf.wide hp fs r⟩
 |_,.exc c fs,h=>by
  obtain⟨a,C,φ,e,na,c,s,p,q⟩:=h;refine⟨a,C,φ,e,(λz=>(hp _ z).elim na λe=>by rw[e]at s;cases s),c,s,p,q.imp id ?_⟩
  rintro⟨dx,vs,nx,s2,r,z⟩;exact⟨dx,vs,(λz=>(hp _ z).elim nx λe=>by rw[e]at s2;cases s2),s2,Repf.wide hp fs r,z⟩
theorem Reps.wide(hp:∀ a,B a->A a\/H a=Ad):∀{vs:Ac V}(ds:Ac D),Reps K CL H A vs ds->Reps K CL H B vs ds
 |[],[],h=>h
 |_::_,d::ds,h=>⟨Rep.wide hp d h.1,Reps.wide hp ds h.2⟩
 |[],_::_,h=>h.elim
 |_::_,[],h=>h.elim
theorem Repf.wide(hp:∀ a,B a->A a\/H a=Ad):∀{vs:Ac (Ak×V)}(ds:Ac (Ak×D)),Repf K CL H A vs ds->Repf K CL H B vs ds
 |[],[],h=>h
 |_::_,d::ds,h=>⟨Repp.wide hp d h.1,Repf.wide hp ds h.2⟩
 |[],_::_,h=>h.elim
 |_::_,[],h=>h.elim
theorem Repp.wide(hp:∀ a,B a->A a\/H a=Ad):∀{v:Ak×V}(d:Ak×D),Repp K CL H A v d->Repp K CL H B v d
 |_,(_,d),h=>⟨h.1,Rep.wide hp d h.2⟩
end
theorem Rep.same(s:AO H H')(h:Rep K CL H A v d):Rep K CL H' A v d:=Rep.kp (Kp.of s) d h
theorem Reps.same{v:Ac V}{d:Ac D}(s:AO H H')(h:Reps K CL H A v d):Reps K CL H' A v d:=Reps.kp (Kp.of s) d h
theorem C3.same{v:V}{d:D}(s:AO H H')(h:C3 K CL H A v d):C3 K CL H' A v d:=by
 rcases h with h|⟨a,xs,ds,e,e2,q,r⟩
 .exact .inl (h.same s)
 .exact .inr ⟨a,xs,ds,e,e2,s _ _ q,r.same s⟩
theorem Reps.length:∀{vs:Ac V}{ds:Ac D},Reps K CL H A vs ds->vs.length=ds.length
 |[],[],_=>rfl
 |_::_,_::_,h=>congrArg (· + 1) (Reps.length h.2)
 |[],_::_,h=>h.elim
 |_::_,[],h=>h.elim
theorem Reps.append:∀{vs ws:Ac V}{ds es:Ac D},Reps K CL H A vs ds->Reps K CL H A ws es->Reps K CL H A (vs++ws) (ds++es)
 |[],_,[],_,_,h=>h
 |_::_,_,_::_,_,h,g=>⟨h.1,Reps.append h.2 g⟩
 |[],_,_::_,_,h,_=>h.elim
 |_::_,_,[],_,h,_=>h.elim
theorem Reps.get:∀{vs:Ac V}{ds:Ac D}{i:Ae}{d:D},Reps K CL H A vs ds->ds[i]?=Ab d->∃ v,vs[i]?=Ab v/\Rep K CL H A v d
 |[],[],_,_,_,e=>by simp at e
 |v::_,_::_,0,_,h,e=>by simp at e;subst e;exact⟨v,rfl,h.1⟩
 |_::_,_::_,i+1,_,h,e=>by
  obtain⟨v,q,r⟩:=Reps.get (i:=i) h.2 (by simpa using e)
  exact⟨v,by simpa using q,r⟩
 |[],_::_,_,_,h,_=>h.elim
 |_::_,[],_,_,h,_=>h.elim
theorem Reps.take:∀{vs:Ac V}{ds:Ac D}(n:Ae),Reps K CL H A vs ds->Reps K CL H A (vs.take n) (ds.take n)
 |_,_,0,_=>trivial
 |[],[],_+1,_=>trivial
 |_::_,_::_,n+1,h=>⟨h.1,Reps.take n h.2⟩
 |[],_::_,_+1,h=>h.elim
 |_::_,[],_+1,h=>h.elim
theorem Reps.drop:∀{vs:Ac V}{ds:Ac D}(n:Ae),Reps K CL H A vs ds->Reps K CL H A (vs.drop n) (ds.drop n)
 |_,_,0,h=>h
 |[],[],_+1,_=>trivial
 |_::_,_::_,n+1,h=>Reps.drop n h.2
 |[],_::_,_+1,h=>h.elim
 |_::_,[],_+1,h=>h.elim
theorem Reps.set{x:V}{e:D}(r:Rep K CL H A x e):∀{vs:Ac V}{ds:Ac D}(n:Ae),Reps K CL H A vs ds->Reps K CL H A (vs.set n x) (ds.set n e)
 |[],[],_,_=>trivial
 |_::_,_::_,0,h=>⟨r,h.2⟩
 |_::_,_::_,n+1,h=>⟨h.1,Reps.set r n h.2⟩
 |[],_::_,_,h=>h.elim
 |_::_,[],_,h=>h.elim
end
structure Good (K:Fg) (CL:ClA) (A:Al->Prop) (U:Rho) (Z:L2.St) (H:Hp):Prop where
 sh:∀(i:Ae)(d:D),U[i]?=Ab (Ab (d,Af))->∃ v,Z[i]?=Ab (Ab v)/\Rep K CL H A v d
 ow:∀(i:Ae)(d:D),U[i]?=Ab (Ab (d,Aa))->∃ a xs ds,Z[i]?=Ab (Ab (.ref a))/\d=.lst ds/\A a/\H a=Ab (.lst xs)/\Reps K CL H A xs ds
 len:U.length=Z.length
theorem Good.same{K:Fg}{CL:ClA}{A:Al->Prop}{U:Rho}{Z:L2.St}{H H':Hp}(g:Good K CL A U Z H)(s:AO H H'):Good K CL A U Z H':=
 ⟨λi d e=>let ⟨v,q,r⟩:=g.sh i d e;⟨v,q,r.same s⟩,λi d e=>let ⟨a,xs,ds,q,z,na,h,r⟩:=g.ow i d e;⟨a,xs,ds,q,z,na,s _ _ h,r.same s⟩,g.len⟩
abbrev XW:=Ex->Hp->Prop
variable{W:XW}
def Bk(Rp:Hp->V->D->Prop)(W:XW)(H:Hp)(r:R D)(Q:VK):Prop:=match r with
  |.ok d=>∀ v H',AO H H'->Rp H' v d->Q v H'
  |.exn x=>∀ H',AO H H'->W x H'
  |.bad=>Bj
def Ho(Rp:Hp->Ac V->Ac D->Prop)(W:XW)(H:Hp)(r:R (Ac D))(Q:Ac V->Hp->Prop):Prop:=match r with
  |.ok d=>∀ v H',AO H H'->Rp H' v d->Q v H'
  |.exn x=>∀ H',AO H H'->W x H'
  |.bad=>Bj
def Dp(W:XW)(H:Hp)(r:R Aj)(Q:Aj->Hp->Prop):Prop:=match r with
  |.ok b=>∀ H',AO H H'->Q b H'
  |.exn x=>∀ H',AO H H'->W x H'
  |.bad=>Bj
theorem Bk.same(s:AO H H')(h:Bk Rp W H r Q):Bk Rp W H' r Q:=by
 cases r with
 |ok d=>exact λv H2 s2 q=>h v H2 (s.trans s2) q
 |exn x=>exact λH2 s2=>h H2 (s.trans s2)
 |bad=>exact h
theorem Dp.same{r:R Aj}{Q:Aj->Hp->Prop}(s:AO H H')(h:Dp W H r Q):Dp W H' r Q:=by
 cases r with
 |ok d=>exact λH2 s2=>h H2 (s.trans s2)
 |exn x=>exact λH2 s2=>h H2 (s.trans s2)
 |bad=>exact h
theorem Bk.bind{f:D->R D}{Q':VK}(h:Bk Rq W H (r.bind f) Q)(k:∀ d v H',r=.ok d->AO H H'->Rp H' v d->Bk Rq W H' (f d) Q->Q' v H'):Bk Rp W H r Q':=by
 cases r with
 |ok d=>exact λv H2 s2 q=>k d v H2 rfl s2 q (Bk.same s2 h)
 |exn x=>exact h
 |bad=>exact h
section
variable(X:Cx)(CL:ClA)(W:XW)
def SE(e:Am)(f:Rho->R D):Prop:=∀ A,PE X e (λZ H Q=>AOk H A/\∃ U,Good X.K CL A U Z H/\Bk (λH=>Rep X.K CL H A) W H (f U) Q)
def ST(e:Am)(f:Rho->R D):Prop:=∀ A,PE X e (λZ H Q=>AOk H A/\∃ U,Good X.K CL A U Z H/\Bk (λH=>C3 X.K CL H A) W H (f U) Q)
def SB(e:Am)(f:Rho->R Aj):Prop:=∀ A,PT X e (λZ H Q=>AOk H A/\∃ U,Good X.K CL A U Z H/\Dp W H (f U) Q)
def SA(es:Ac Am)(f:Rho->R (Ac D)):Prop:=∀ A,PA X es (λZ H Q=>AOk H A/\∃ U,Good X.K CL A U Z H/\Ho (λH=>Reps X.K CL H A) W H (f U) Q)
end
theorem PE.weak{t t':TE}(h:PE X e t)(k:∀ Z H Q,t' Z H Q->t Z H Q):PE X e t':=λpins s Z H Q I q=>h pins s Z H Q I (k _ _ _ q)
theorem PT.weak{t t':TT}(h:PT X e t)(k:∀ Z H Q,t' Z H Q->t Z H Q):PT X e t':=λpins s Z H Q I q=>h pins s Z H Q I (k _ _ _ q)
theorem PA.weak{e:Ac Am}{t t':TA}(h:PA X e t)(k:∀ Z H Q,t' Z H Q->t Z H Q):PA X e t':=λpos pins s Z H Q I q=>h pos pins s Z H Q I (k _ _ _ q)
noncomputable def OpD(X:Cx)(CL:ClA)(W:XW)(f:Ai->Ai->DJ Ai)(g:D->D->R D):Prop:=
 ∀ A,OpR X f (λx y H Q=>AOk H A/\∃ dx dy,C3 X.K CL H A x dx/\C3 X.K CL H A y dy/\Bk (λH=>Rep X.K CL H A) W H (g dx dy) Q)
section
variable{X:Cx}{CL:ClA}{W:XW}{a b c:Am}{fa fb fc:Rho->R D}{pos:A3}
theorem SE.st(h:SE X CL W a fa):ST X CL W a fa:=λA=>PE.weak (h A) λZ H Q ⟨hA,U,g,p⟩=>⟨hA,U,g,by
 cases e:fa U with
 |ok d=>rw[e]at p;exact λv H' s r=>p v H' s (.inl r)
 |exn x=>rw[e]at p;exact p
 | bad=>rw[e]at p;exact p⟩
theorem SE.congr{f g:Rho->R D}(h:SE X CL W a f)(e:∀ U,g U=f U):SE X CL W a g:=λA=>PE.weak (h A) λZ H Q ⟨hA,U,q,p⟩=>⟨hA,U,q,by rw[<-e];exact p⟩
theorem M7(h:PE X a (tC v))(r:∀ H A,AOk H A->Rep X.K CL H A v d):SE X CL W a (λ_=>.ok d):=λA=>PE.weak h λZ H Q ⟨hA,U,g,p⟩=>p v H (AO.refl H) (r H A hA)
theorem jA{i j}:SE X CL W (.Constant (.int i) j pos) (λ_=>.ok (.int i)):=M7 mB λ_ _ _=>rfl
theorem pZ{b j}:SE X CL W (.Constant (.bool b) j pos) (λ_=>.ok (.bl b)):=M7 rG λ_ _ _=>rfl
theorem iW{j}:SE X CL W (.Constant .none j pos) (λ_=>.ok .non):=M7 lY λ_ _ _=>rfl
theorem TH{x j}:SE X CL W (.Constant (.str x) j pos) (λ_=>.ok (.str x)):=M7 lU λ_ _ _=>rfl
theorem cE(h:F2 U i=.ok d):U[i]?=Ab (Ab (d,Af)):=by
 unfold F2 at h;split at h
 .rename_i e;cases h;exact e
 .cases h
theorem So(h:Gp U i=.ok d):∃ o,U[i]?=Ab (Ab (d,o)):=by
 unfold Gp at h;split at h
 .rename_i e;cases h;exact⟨_,e⟩
 .cases h
theorem ZR{x:Ex}(h:F2 U i=.exn x):Bj:=by
 unfold F2 at h;split at h<;>cases h
theorem R5{x:Ex}(h:Gp U i=.exn x):Bj:=by
 unfold Gp at h;split at h<;>cases h
theorem iT(h:PE X a (JQ i)):SE X CL W a (λU=>F2 U i):=λA=>PE.weak h λZ H Q ⟨hA,U,g,p⟩=>by
 dsimp only at p;cases e:F2 U i with
 |ok d=>
  rw[e]at p;obtain⟨v,q,r⟩:=g.sh i d (cE e);exact⟨v,q,p v H (AO.refl H) r⟩
 |exn x=>exact(ZR e).elim
 |bad=>rw[e]at p;exact p.elim
theorem jX(h:PE X a (JQ i)):ST X CL W a (λU=>Gp U i):=λA=>PE.weak h λZ H Q ⟨hA,U,g,p⟩=>by
 dsimp only at p;cases e:Gp U i with
 |ok d=>
  rw[e]at p;obtain⟨o,e⟩:=So e;cases o with
  |false=>
   obtain⟨v,q,r⟩:=g.sh i d e;exact⟨v,q,p v H (AO.refl H) (.inl r)⟩
  |true=>
   obtain⟨x,xs,ds,q,rfl,ha,hh,r⟩:=g.ow i d e;exact⟨_,q,p _ H (AO.refl H) (.inr ⟨x,xs,ds,rfl,rfl,hh,r⟩)⟩
 |exn x=>exact(R5 e).elim
 |bad=>rw[e]at p;exact p.elim
theorem op2(h:AOk H A/\∃ U,Good X.K CL A U Z H/\Bk Rq W H ((fa U).bind λx=>(fb U).bind λy=>g x y) Q):AOk H A/\∃ U,Good X.K CL A U Z H/\Bk (λH=>C3 X.K CL H A) W H (fa U) (λx H1=>AOk H1 A/\∃ U,Good X.K CL A U Z H1/\Bk (λH=>C3 X.K CL H A) W H1 (fb U) (λy H2=>AOk H2 A/\∃ dx dy,C3 X.K CL H2 A x dx/\C3 X.K CL H2 A y dy/\Bk Rq W H2 (g dx dy) Q)):=by
 obtain⟨hA,U,gd,p⟩:=h;refine⟨hA,U,gd,Bk.bind p λdx x H1 _ s1 r1 p1=>⟨hA.same s1,U,gd.same s1,Bk.bind p1 λdy y H2 _ s2 r2 p2=>⟨(hA.same s1).same s2,dx,dy,r1.same s2,r2,p2⟩⟩⟩
theorem TK{op:Gh}(ho:OpD X CL W (Ch op) g)(ha:ST X CL W a fa)(hb:ST X CL W b fb):SE X CL W (.BinOp a op b pos) (λU=>(fa U).bind λx=>(fb U).bind λy=>g x y):=
 λA=>PE.weak (Ux (ho A) (ha A) (hb A)) λZ H Q h=>op2 h
theorem jC(ho:OpD X CL W (C0 op) g)(ha:ST X CL W a fa)(hb:ST X CL W b fb)(hm:He op b=Af):SE X CL W (.Compare a [op] [b] pos) (λU=>(fa U).bind λx=>(fb U).bind λy=>g x y):=
 λA=>PE.weak (cL (ho A) (ha A) (hb A) hm) λZ H Q h=>op2 h
theorem C3.int_of{i:Ag}(h:C3 K CL H A v (.int i)):v=.int i:=by
 rcases h with h|⟨_,_,_,_,e,_⟩
 .exact h
 .cases e
theorem C3.str_of{i:Ak}(h:C3 K CL H A v (.str i)):v=.str i:=by
 rcases h with h|⟨_,_,_,_,e,_⟩
 .exact h
 .cases e
theorem C3.bl_of{i:Aj}(h:C3 K CL H A v (.bl i)):v=.bl i:=by
 rcases h with h|⟨_,_,_,_,e,_⟩
 .exact h
 .cases e
theorem C3.non_of(h:C3 K CL H A v .non):v=.non:=by
 rcases h with h|⟨_,_,_,_,e,_⟩
 .exact h
 .cases e
theorem C3.lst_of{ds:Ac D}(h:C3 K CL H A v (.lst ds)):∃ a xs,v=.ref a/\SqL K H a xs/\Reps K CL H A xs ds:=by
 rcases h with ⟨a,xs,e,_,s,r⟩|⟨a,xs,es,rfl,e,s,r⟩
 .exact⟨a,xs,e,s,r⟩
 .cases e;exact⟨a,xs,rfl,SqL.of s,r⟩
theorem C3.tup_of{ds:Ac D}(h:C3 K CL H A v (.tup ds)):∃ a xs,v=.ref a/\(¬ A a\/KT K a xs)/\SqT K H a xs/\Reps K CL H A xs ds:=by
 rcases h with ⟨a,xs,e,n,s,r⟩|⟨_,_,_,_,e,_⟩
 .exact⟨a,xs,e,n,s,r⟩
 .cases e
theorem gC{i j:Ag}(h:FC i j=Aa):Nw i j:=by
 unfold FC at h;simp only[CM,An,AZ]at h;unfold Nw;omega
theorem Te{a:Ag}(h:a.natAbs<2 ^ 2000):Wq a<=2 ^ 20:=by
 unfold Wq;split
 .omega
 .rename_i hz;have h0:a.natAbs≠0:=by intro z;exact hz (by rw[Int.natAbs_eq_zero.mp z];rfl)
  have:=(Nat.log2_lt h0).mpr h;omega
theorem gB{i j:Ag}(h:(FC i j||Nh i j)=Aa):Lq i j:=by
 rcases Bool.or_eq_true_iff.mp h with h|h
 .exact(gC h).ok
 .unfold Nh at h;rw[An,AZ,AZ]at h;exact .of_bits (Te h.1) (Te h.2)
theorem cT:OpR X (Ch .Mult) (rI Lq λi j=>.int (i*j)):=opI λ_ _ _ _ _ _ _ hc q=>mul_int q hc
theorem Je(h:BQ n=Aa):n<=sizeLine:=by
 unfold BQ at h;rw[Bz];have:=Fa h;omega
theorem OR{p:Al}{ds:Ac D}(hA:AOk H A)(hp:H p=Ad)(r:Reps K CL H A xs ds):Rep K CL (upd H p (.lst xs)) A (.ref p) (.lst ds):=
 ⟨p,xs,rfl,.inl (hA.new hp),SqL.of Jc,r.same λb o e=>by rw[Dq (Gk e hp)];exact e⟩
theorem LZ{p:Al}{ds:Ac D}(hA:AOk H A)(hp:H p=Ad)(r:Reps K CL H A xs ds):Rep K CL (upd H p (.tup xs)) A (.ref p) (.tup ds):=
 ⟨p,xs,rfl,.inl (hA.new hp),SqT.of Jc,r.same λb o e=>by rw[Dq (Gk e hp)];exact e⟩
theorem GJ{p:Al}(h:H p=Ad)(o:HO):AO H (upd H p o):=λb u q=>by rw[Dq (Gk q h)];exact q
def qY(K:Fg):R2:=λx y H Q=>∃ l b xs zs,x=.ref l/\y=.ref b/\SqL K H l xs/\SqL K H b zs/\xs.length+zs.length<=sizeLine/\∀ p,H p=Ad->Q (.ref p) (upd H p (.lst (xs++zs)))
end
section
variable{X:Cx}{CL:ClA}{W:XW}
theorem S6:OpR X (Ch .Add) (qY X.K):=by
 intro pins s Z H x y v u Q I rx ry h;obtain⟨l,b,xs,zs,rfl,rfl,hH,hB,hz,q⟩:=h;cases rx;cases ry;obtain⟨its,r,⟨o,n,e,c,dd,dt⟩,z⟩:=I.list hH;obtain⟨its2,r2,⟨o2,n2,e2,c2,dd2,dt2⟩,z2⟩:=I.list hB;have hl:=r.length;have hl2:=r2.length;obtain⟨cls,dd0,data,sl⟩:=o;obtain⟨cls2,dd02,data2,sl2⟩:=o2;simp only at c dd dt c2 dd2 dt2;subst c dd dt c2 dd2 dt2;have ea:its.toArray++its2.toArray=(its++its2).toArray:=by simp
 refine JC ⟨_,e,rfl⟩ ⟨_,e2,rfl⟩ noFill_list_add seq_list_add PySem.F.slot_list_add PySem.F.entry_list_add (PySem.F.args_list_add_2 _ _) (list_addW l b its.toArray its2.toArray n n2 Ad Ad sl sl2 (by simp;omega)) ⟨e,e2,?_⟩
 rw[ea];exact⟨.ref _,_,I.lnew (t':=s.toks) (r.append r2) (by rw[Bp];omega),rfl,q _ I.fresh⟩
theorem S5:OpD X CL W (Ch .Add) (Dr .Add):=by
 intro A pins s Z H x y v u Q I rx ry ⟨hA,dx,dy,hx,hy,p⟩;cases dx with
 |int i=>
  cases dy with
  |int j=>
   have ex:=hx.int_of;have ey:=hy.int_of
   subst ex ey;exact kO pins s Z H _ _ v u Q I rx ry ⟨i,j,rfl,rfl,p _ H (AO.refl H) rfl⟩
  |_=>exact p.elim
 |str i=>
  cases dy with
  |str j=>
   have ex:=hx.str_of;have ey:=hy.str_of
   subst ex ey;simp only[Pl]at p;split at p
   .rename_i h;exact Zf pins s Z H _ _ v u Q I rx ry ⟨i,j,rfl,rfl,Je h,p _ H (AO.refl H) rfl⟩
   .exact p.elim
  |_=>exact p.elim
 |lst ds=>
  cases dy with
  |lst es=>
   obtain⟨a,xs,rfl,s1,r1⟩:=hx.lst_of;obtain⟨b,ys,rfl,s2,r2⟩:=hy.lst_of;simp only[Tw]at p;split at p
   .rename_i h;refine S6 pins s Z H _ _ v u Q I rx ry ⟨a,b,xs,ys,rfl,rfl,s1,s2,by rw[r1.length,r2.length];exact Je h,λq hq=>?_⟩
    exact p _ _ (GJ hq _) (OR hA hq (r1.append r2))
   .exact p.elim
  |_=>exact p.elim
 |tup ds=>
  cases dy with
  |tup es=>
   obtain⟨a,xs,rfl,na1,s1,r1⟩:=hx.tup_of;obtain⟨b,ys,rfl,_,s2,r2⟩:=hy.tup_of;simp only[Tv]at p;split at p
   .rename_i h;simp only[An]at h;refine fV pins s Z H _ _ v u Q I rx ry ⟨a,b,xs,ys,rfl,rfl,s1,s2,?_,by rw[r1.length,r2.length];exact Je h.2,λhy0=>?_,λ_ q hq=>?_⟩
    .rintro rfl;cases ds with
     |nil=>cases h.1
     |cons _ _=>exact r1.elim
    .subst hy0;cases es with
     |nil=>rw[Bw]at p;exact p _ H (AO.refl H) ⟨a,xs,rfl,na1,s1,r1⟩
     |cons _ _=>exact r2.elim
    .exact p _ _ (GJ hq _) (LZ hA hq (r1.append r2))
   .exact p.elim
  |_=>exact p.elim
 |_=>exact p.elim
theorem MT{op:Gh}{C:Ag->Ag->Prop}{g:Ag->Ag->Ag}(ho:OpR X (Ch op) (rI C λi j=>.int (g i j)))(hg:∀ dx dy,(∃ i j,dx=.int i/\dy=.int j/\((C i j/\Dr op dx dy=.ok (.int (g i j)))\/Dr op dx dy=.bad))\/Dr op dx dy=.bad):OpD X CL W (Ch op) (Dr op):=by
 intro A pins s Z H x y v u Q I rx ry ⟨hA,dx,dy,hx,hy,p⟩;rcases hg dx dy with ⟨i,j,rfl,rfl,⟨c,e⟩|e⟩|e
 .have ex:=hx.int_of;have ey:=hy.int_of
  subst ex ey;rw[e]at p;exact ho pins s Z H _ _ v u Q I rx ry ⟨i,j,rfl,rfl,c,p _ H (AO.refl H) rfl⟩
 .rw[e]at p;exact p.elim
 .rw[e]at p;exact p.elim
theorem cO:OpD X CL W (Ch .Sub) (Dr .Sub):=by
 intro A pins s Z H x y v u Q I rx ry ⟨hA,dx,dy,hx,hy,p⟩;cases dx with
 |int i=>
  cases dy with
  |int j=>
   have ex:=hx.int_of;have ey:=hy.int_of
   subst ex ey;exact mE pins s Z H _ _ v u Q I rx ry ⟨i,j,rfl,rfl,p _ H (AO.refl H) rfl⟩
  |_=>exact p.elim
 |_=>exact p.elim
theorem cQ:OpD X CL W (Ch .Mult) (Dr .Mult):=MT cT λdx dy=>by
 cases dx with
 |int i=>
  cases dy with
  |int j=>
   refine .inl ⟨i,j,rfl,rfl,?_⟩;rw[kS];split
   .rename_i h;exact .inl ⟨gB h,rfl⟩
   .exact .inr rfl
  |_=>exact .inr rfl
 |_=>exact .inr rfl
theorem aY:OpD X CL W (Ch .FloorDiv) (Dr .FloorDiv):=MT cU λdx dy=>by
 cases dx with
 |int i=>
  cases dy with
  |int j=>
   refine .inl ⟨i,j,rfl,rfl,?_⟩;rw[fT];split
   .rename_i h;exact .inl ⟨h,rfl⟩
   .exact .inr rfl
  |_=>exact .inr rfl
 |_=>exact .inr rfl
theorem cR:OpD X CL W (Ch .Mod) (Dr .Mod):=MT mG λdx dy=>by
 cases dx with
 |int i=>
  cases dy with
  |int j=>
   refine .inl ⟨i,j,rfl,rfl,?_⟩;rw[kU];split
   .rename_i h;exact .inl ⟨h,rfl⟩
   .exact .inr rfl
  |_=>exact .inr rfl
 |_=>exact .inr rfl
theorem cP:OpD X CL W (Ch .Pow) (Dr .Pow):=MT mF λdx dy=>by
 cases dx with
 |int i=>
  cases dy with
  |int j=>
   refine .inl ⟨i,j,rfl,rfl,?_⟩;rw[lK];split
   .rename_i h;exact .inl ⟨⟨h.1.1,h.1.2,by omega⟩,rfl⟩
   .exact .inr rfl
  |_=>exact .inr rfl
 |_=>exact .inr rfl
theorem SZ(op:Gh):OpD X CL W (Ch op) (Dr op):=by
 cases op with
 |Add=>exact S5
 |Sub=>exact cO
 |Mult=>exact cQ
 |FloorDiv=>exact aY
 |Mod=>exact cR
 |Pow=>exact cP
 |_=>
  intro A pins s Z H x y v u Q I rx ry ⟨hA,dx,dy,hx,hy,p⟩;exact p.elim
noncomputable abbrev A0:Al->Prop:=λ_=>Bj
theorem C3.plain(h:C3 K CL H A v d):Rep K CL H A0 v d:=by
 rcases h with h|⟨a,xs,ds,rfl,rfl,e,r⟩
 .exact Rep.sub (λ_ z=>z.elim) d h
 .exact⟨a,xs,rfl,.inl λz=>z.elim,SqL.of e,Reps.sub (λ_ z=>z.elim) ds r⟩
mutual
theorem Ou:∀(n:Ae)(d:D),flD n d=Aa->eqD d d=Aa
 |_,.non,_=>rfl
 |_,.bl b,_=>by simp
 |_,.int i,_=>by simp
 |_,.str x,_=>by simp
 |n+1,.tup ds,h=>by
  show eqDs ds ds=Aa;exact eqDs_refl n ds h
 |n+1,.lst ds,h=>by
  show eqDs ds ds=Aa;exact eqDs_refl n ds h
 |0,.tup ds,h=>by cases h
 |0,.lst ds,h=>by cases h
 |n,.obj _ _,h=>by cases n<;>cases h
 |n,.exc _ _,h=>by cases n<;>cases h
 |n,.dic _,h=>by cases n<;>cases h
theorem eqDs_refl:∀(n:Ae)(ds:Ac D),ds.all (flD n)=Aa->eqDs ds ds=Aa
 |_,[],_=>rfl
 |n,d::ds,h=>by
  simp only[EW,An]at h;simp only[N9,An];exact⟨Ou n d h.1,eqDs_refl n ds h.2⟩
end
theorem QT(I:Inv X pins Z H s)(h:SqL X.K H a xs)(h':SqT X.K H a ys):Bj:=by
 obtain⟨its,r,⟨o,n,e,c,_,_⟩,_⟩:=I.list h;obtain⟨its',r',⟨o',e',c',_⟩,_⟩:=I.tuple h';rw[e]at e';cases e';rw[c]at c'
 injection c' with z
 exact absurd z (by decide)
mutual
theorem MQ{pins:Pn}{Z:L2.St}{H:Hp}{s:Ap}(I:Inv X pins Z H s):∀(n:Ae)(d e:D){v:V},flD n d=Aa->flD n e=Aa->Rep X.K CL H A0 v d->Rep X.K CL H A0 v e->d=e
 |n,.tup ds,e,v,hd,he,r,q=>by
  obtain⟨a,xs,rfl,_,s1,r1⟩:=r;cases e with
  |tup es=>
   obtain⟨b,ys,e,_,s2,r2⟩:=q;cases e;have z:=I.tuple_inj s1 s2;subst z;cases n with
   |zero=>cases hd
   |succ n=>rw[reps_inj I n ds es hd he r1 r2]
  |lst es=>
   obtain⟨b,ys,e,_,s2,r2⟩:=q;cases e;exact(QT I s2 s1).elim
  |obj=>cases n<;>cases he
  |exc=>cases n<;>cases he
  |dic=>cases n<;>cases he
  |_=>cases q
 |n,.lst ds,e,v,hd,he,r,q=>by
  obtain⟨a,xs,rfl,_,s1,r1⟩:=r;cases e with
  |lst es=>
   obtain⟨b,ys,e,_,s2,r2⟩:=q;cases e;have z:=I.list_inj s1 s2;subst z;cases n with
   |zero=>cases hd
   |succ n=>rw[reps_inj I n ds es hd he r1 r2]
  |tup es=>
   obtain⟨b,ys,e,_,s2,r2⟩:=q;cases e;exact(QT I s1 s2).elim
  |obj=>cases n<;>cases he
  |exc=>cases n<;>cases he
  |dic=>cases n<;>cases he
  |_=>cases q
 |n,.obj _ _,e,v,hd,he,r,q=>by cases n<;>cases hd
 |n,.exc _ _,e,v,hd,he,r,q=>by cases n<;>cases hd
 |n,.dic _,e,v,hd,he,r,q=>by cases n<;>cases hd
 |n,.non,e,v,hd,he,r,q=>by
  cases r;cases e with
  |tup=>obtain⟨_,_,z,_⟩:=q;cases z
  |lst=>obtain⟨_,_,z,_⟩:=q;cases z
  |obj=>cases n<;>cases he
  |exc=>cases n<;>cases he
  |dic=>cases n<;>cases he
  |_=>cases q<;>rfl
 |n,.bl b,e,v,hd,he,r,q=>by
  cases r;cases e with
  |tup=>obtain⟨_,_,z,_⟩:=q;cases z
  |lst=>obtain⟨_,_,z,_⟩:=q;cases z
  |obj=>cases n<;>cases he
  |exc=>cases n<;>cases he
  |dic=>cases n<;>cases he
  |_=>cases q<;>rfl
 |n,.int b,e,v,hd,he,r,q=>by
  cases r;cases e with
  |tup=>obtain⟨_,_,z,_⟩:=q;cases z
  |lst=>obtain⟨_,_,z,_⟩:=q;cases z
  |obj=>cases n<;>cases he
  |exc=>cases n<;>cases he
  |dic=>cases n<;>cases he
  |_=>cases q<;>rfl
 |n,.str b,e,v,hd,he,r,q=>by
  cases r;cases e with
  |tup=>obtain⟨_,_,z,_⟩:=q;cases z
  |lst=>obtain⟨_,_,z,_⟩:=q;cases z
  |obj=>cases n<;>cases he
  |exc=>cases n<;>cases he
  |dic=>cases n<;>cases he
  |_=>cases q<;>rfl
theorem reps_inj{pins:Pn}{Z:L2.St}{H:Hp}{s:Ap}(I:Inv X pins Z H s):∀(n:Ae)(ds es:Ac D){xs:Ac V},ds.all (flD n)=Aa->es.all (flD n)=Aa->Reps X.K CL H A0 xs ds->Reps X.K CL H A0 xs es->ds=es
 |_,[],[],_,_,_,_,_=>rfl
 |n,d::ds,e::es,x::xs,hd,he,r,q=>by
  simp only[EW,An]at hd he;rw[MQ I n d e hd.1 he.1 r.1 q.1,reps_inj I n ds es hd.2 he.2 r.2 q.2]
 |_,[],_::_,[],_,_,_,q=>q.elim
 |_,[],_::_,_::_,_,_,r,_=>r.elim
 |_,_::_,[],[],_,_,r,_=>r.elim
 |_,_::_,[],_::_,_,_,_,q=>q.elim
 |_,_::_,_::_,[],_,_,r,_=>r.elim
end
theorem LQ:∀{ds es:Ac D},ds.length≠es.length->eqDs ds es=Af
 |[],[],h=>absurd rfl h
 |[],_::_,_=>rfl
 |_::_,[],_=>rfl
 |d::ds,e::es,h=>by
  simp only[N9,LQ (ds:=ds) (es:=es) (by simpa using h),FL]
theorem Qm(n:Ae)(f:Ae->Aj):(AB (n+1)).all f=(f 0&&(AB n).all λj=>f (j+1)):=by
 rw[E5,EW,FG];rfl
theorem LR:∀{ds es:Ac D},ds.length=es.length->eqDs ds es=(AB ds.length).all λj=>eqD (ds.getD j .non) (es.getD j .non)
 |[],[],_=>rfl
 |d::ds,e::es,h=>by
  rw[N9,LR (ds:=ds) (es:=es) (by simpa using h),A7,Qm]
  rfl
 |[],_::_,h=>by cases h
 |_::_,[],h=>by cases h
theorem Kc{ds:Ac D}{its:Ac Ai}(r:Reps K CL H A0 xs ds)(rv:A6 xs its)(h:j<its.length):∃ x,Rep K CL H A0 x (ds.getD j .non)/\BP x its[j]:=by
 have e1:=rv.length;have e2:=r.length;have hd:ds[j]?=Ab (ds.getD j .non):=by
  rw[A4,AA (by omega)];rfl
 obtain⟨x,hx,q⟩:=r.get hd;obtain⟨u,hu,ru⟩:=rv.get hx;refine⟨x,q,?_⟩;rw[AA h]at hu;cases hu;exact ru
theorem J7{ds:Ac D}(h:ds.all (flD n)=Aa)(j:Ae):flD n (ds.getD j .non)=Aa:=by
 rw[A4];cases e:ds[j]? with
 |none=>cases n<;>rfl
 |some d=>exact Br.mp h d (Ey e)
def CK(B:AU)(s:Ap)(u t:Ai)(k:Aj):Prop:=Ku B s u t k/\GD B s u t k/\JA B s u t (!k)
section
variable{B:AU}{s:Ap}
open SeqAt
theorem pK:CK B s .none .none Aa:=⟨RcAt.none_none,EqAt.same _,RcNeAt.none_none⟩
theorem oQ(a b:Aj):CK B s (.bool a) (.bool b) (a==b):=⟨RcAt.bool_bool _ _,EqAt.bool_bool _ _,RcNeAt.bool_bool _ _⟩
theorem pN(b:Aj):CK B s .none (.bool b) Af:=⟨RcAt.none_bool _,EqAt.none_bool _,RcNeAt.none_bool _⟩
theorem oN(b:Aj):CK B s (.bool b) .none Af:=⟨RcAt.bool_none _,EqAt.bool_none _,RcNeAt.bool_none _⟩
theorem oH(a:Ag)(t:Cf)(b:Ag)(u:Cf):CK B s (.int a t) (.int b u) (a==b):=⟨RcAt.int_int _ _ _ _,EqAt.int_int _ _ _ _,RcNeAt.int_int _ _ _ _⟩
theorem pC(a:Ak)(t:Cf)(b:Ak)(u:Cf):CK B s (.str a t) (.str b u) (a==b):=⟨RcAt.str_str _ _ _ _,EqAt.str_str _ _ _ _,RcNeAt.str_str _ _ _ _⟩
theorem pU(a:Ag)(t:Cf)(b:Ak)(u:Cf):CK B s (.int a t) (.str b u) Af:=⟨RcAt.int_str _ _ _ _,EqAt.int_str _ _ _ _,RcNeAt.int_str _ _ _ _⟩
theorem pF(a:Ak)(t:Cf)(b:Ag)(u:Cf):CK B s (.str a t) (.int b u) Af:=⟨RcAt.str_int _ _ _ _,EqAt.str_int _ _ _ _,RcNeAt.str_int _ _ _ _⟩
theorem pM(b:Ag)(u:Cf):CK B s .none (.int b u) Af:=⟨RcAt.none_int _ _,EqAt.none_int _ _,RcNeAt.none_int _ _⟩
theorem pV(b:Ag)(u:Cf):CK B s (.int b u) .none Af:=⟨RcAt.int_none _ _,EqAt.int_none _ _,RcNeAt.int_none _ _⟩
theorem pJ(b:Ak)(u:Cf):CK B s .none (.str b u) Af:=⟨RcAt.none_str _ _,EqAt.none_str _ _,RcNeAt.none_str _ _⟩
theorem pD(b:Ak)(u:Cf):CK B s (.str b u) .none Af:=⟨RcAt.str_none _ _,EqAt.str_none _ _,RcNeAt.str_none _ _⟩
theorem oP(a:Aj)(b:Ag)(u:Cf):CK B s (.bool a) (.int b u) (b2i a==b):=⟨RcAt.bool_int _ _ _,EqAt.bool_int _ _ _,RcNeAt.bool_int _ _ _⟩
theorem oJ(a:Aj)(b:Ag)(u:Cf):CK B s (.int b u) (.bool a) (b==b2i a):=⟨RcAt.int_bool _ _ _,EqAt.int_bool _ _ _,RcNeAt.int_bool _ _ _⟩
theorem oM(a:Aj)(b:Ak)(u:Cf):CK B s (.bool a) (.str b u) Af:=⟨RcAt.bool_str _ _ _,EqAt.bool_str _ _ _,RcNeAt.bool_str _ _ _⟩
theorem pG(a:Aj)(b:Ak)(u:Cf):CK B s (.str b u) (.bool a) Af:=⟨RcAt.str_bool _ _ _,EqAt.str_bool _ _ _,RcNeAt.str_bool _ _ _⟩
variable{l:Al}{items:Au Ai}
theorem pQ(h:s.heap.IsList l items)(hu:B.units<B8):CK B s (.ref l) .none Af:=⟨RcAt.list_none h hu,EqAt.list_none h hu,RcNeAt.list_none h hu⟩
theorem pL(h:s.heap.IsList l items)(hu:B.units<B8):CK B s .none (.ref l) Af:=⟨RcAt.none_list h hu,EqAt.none_list h hu,RcNeAt.none_list h hu⟩
theorem pS(b:Aj)(h:s.heap.IsList l items)(hu:B.units<B8):CK B s (.ref l) (.bool b) Af:=⟨RcAt.list_bool b h hu,EqAt.list_bool b h hu,RcNeAt.list_bool b h hu⟩
theorem oO(b:Aj)(h:s.heap.IsList l items)(hu:B.units<B8):CK B s (.bool b) (.ref l) Af:=⟨RcAt.bool_list b h hu,EqAt.bool_list b h hu,RcNeAt.bool_list b h hu⟩
theorem pR(b:Ag)(u:Cf)(h:s.heap.IsList l items)(hu:B.units<B8):CK B s (.ref l) (.int b u) Af:=⟨RcAt.list_int b u h hu,EqAt.list_int b u h hu,RcNeAt.list_int b u h hu⟩
theorem pW(b:Ag)(u:Cf)(h:s.heap.IsList l items)(hu:B.units<B8):CK B s (.int b u) (.ref l) Af:=⟨RcAt.int_list b u h hu,EqAt.int_list b u h hu,RcNeAt.int_list b u h hu⟩
theorem pP(b:Ak)(u:Cf)(h:s.heap.IsList l items)(hu:B.units<B8):CK B s (.ref l) (.str b u) Af:=⟨RcAt.list_str b u h hu,EqAt.list_str b u h hu,RcNeAt.list_str b u h hu⟩
theorem pE(b:Ak)(u:Cf)(h:s.heap.IsList l items)(hu:B.units<B8):CK B s (.str b u) (.ref l) Af:=⟨RcAt.str_list b u h hu,EqAt.str_list b u h hu,RcNeAt.str_list b u h hu⟩
theorem oV(h:s.heap.IsTuple l items)(hu:B.units<B8):CK B s (.ref l) .none Af:=⟨RcAt.tuple_none h hu,EqAt.tuple_none h hu,RcNeAt.tuple_none h hu⟩
theorem pH(h:s.heap.IsTuple l items)(hu:B.units<B8):CK B s .none (.ref l) Af:=⟨RcAt.none_tuple h hu,EqAt.none_tuple h hu,RcNeAt.none_tuple h hu⟩
theorem oY(b:Aj)(h:s.heap.IsTuple l items)(hu:B.units<B8):CK B s (.ref l) (.bool b) Af:=⟨RcAt.tuple_bool b h hu,EqAt.tuple_bool b h hu,RcNeAt.tuple_bool b h hu⟩
theorem oK(b:Aj)(h:s.heap.IsTuple l items)(hu:B.units<B8):CK B s (.bool b) (.ref l) Af:=⟨RcAt.bool_tuple b h hu,EqAt.bool_tuple b h hu,RcNeAt.bool_tuple b h hu⟩
theorem oX(b:Ag)(u:Cf)(h:s.heap.IsTuple l items)(hu:B.units<B8):CK B s (.ref l) (.int b u) Af:=⟨RcAt.tuple_int b u h hu,EqAt.tuple_int b u h hu,RcNeAt.tuple_int b u h hu⟩
theorem pT(b:Ag)(u:Cf)(h:s.heap.IsTuple l items)(hu:B.units<B8):CK B s (.int b u) (.ref l) Af:=⟨RcAt.int_tuple b u h hu,EqAt.int_tuple b u h hu,RcNeAt.int_tuple b u h hu⟩
theorem oU(b:Ak)(u:Cf)(h:s.heap.IsTuple l items)(hu:B.units<B8):CK B s (.ref l) (.str b u) Af:=⟨RcAt.tuple_str b u h hu,EqAt.tuple_str b u h hu,RcNeAt.tuple_str b u h hu⟩
theorem oZ(b:Ak)(u:Cf)(h:s.heap.IsTuple l items)(hu:B.units<B8):CK B s (.str b u) (.ref l) Af:=⟨RcAt.str_tuple b u h hu,EqAt.str_tuple b u h hu,RcNeAt.str_tuple b u h hu⟩
theorem pO(h:s.heap.IsList l items)(h2:s.heap.IsTuple b items2)(hu:B.units<B8):CK B s (.ref l) (.ref b) Af:=⟨RcAt.list_tuple h h2 hu,EqAt.list_tuple h h2 hu,RcNeAt.list_tuple h h2 hu⟩
theorem oW(h:s.heap.IsTuple l items)(h2:s.heap.IsList b items2)(hu:B.units<B8):CK B s (.ref l) (.ref b) Af:=⟨RcAt.tuple_list h h2 hu,EqAt.tuple_list h h2 hu,RcNeAt.tuple_list h h2 hu⟩
end
end
section
variable{X:Cx}{CL:ClA}{W:XW}
theorem K5(x:PlainL h a its):h.IsList a its:=let ⟨o,n,e,c,_,d⟩:=x;⟨o,e,c,n,d⟩
def tT(X:Cx)(CL:ClA)(H:Hp)(s:Ap)(d:D)(u:Ai):Prop:=match d with
  |.non=>u=.none
  |.bl b=>u=.bool b
  |.int i=>∃ t,u=.int i t
  |.str x=>∃ t,u=.str x t
  |.tup ds=>∃ a xs its,u=.ref a/\Reps X.K CL H A0 xs ds/\A6 xs its/\s.heap.IsTuple a its.toArray
  |.lst ds=>∃ a xs its,u=.ref a/\Reps X.K CL H A0 xs ds/\A6 xs its/\s.heap.IsList a its.toArray
  |_=>Bj
theorem Si(I:Inv X pins Z H s)(hd:flD n d=Aa)(r:Rep X.K CL H A0 v d)(q:BP v u):tT X CL H s d u:=by
 cases d with
 |non=>cases r;exact q
 |bl b=>cases r;exact q
 |int b=>cases r;exact q
 |str b=>cases r;exact q
 |tup ds=>
  obtain⟨a,xs,rfl,_,sq,r⟩:=r;obtain⟨its,rv,p,_⟩:=I.tuple sq;cases q;exact⟨a,xs,its,rfl,r,rv,p⟩
 |lst ds=>
  obtain⟨a,xs,rfl,_,sq,r⟩:=r;obtain⟨its,rv,p,_⟩:=I.list sq;cases q;exact⟨a,xs,its,rfl,r,rv,K5 p⟩
 |obj=>cases n<;>cases hd
 |exc=>cases n<;>cases hd
 |dic=>cases n<;>cases hd
theorem cZ{B:AU}{its:Ac Ai}{ds es:Ac D}(hl:s.heap.IsList l its.toArray)(hb:s.heap.IsList b its2.toArray)(e1:its.length=ds.length)(e2:its2.length=es.length)(hu:B.units<B8)(hs:l=b->eqDs ds es=Aa)(he:∀ j (h1:j<its.length) (h2:j<its2.length),GD B.in1 s its[j] its2[j] (eqD (ds.getD j .non) (es.getD j .non))):CK B s (.ref l) (.ref b) (eqDs ds es):=by
 have rc:Ku B s (.ref l) (.ref b) (eqDs ds es):=by
  by_cases hz:its.length=its2.length
  .have q:=SeqAt.RcAt.lists (e:=λj=>eqD (ds.getD j .non) (es.getD j .non)) hl hb (by simpa using hz) hu (λj h1 h2=>by simpa using he j (by simpa using h1) (by simpa using h2))
   rw[LR (by omega)]
   have e:its.toArray.size=ds.length:=by simpa using e1
   rw[e]at q;exact q
  .rw[LQ (by omega)]
   exact SeqAt.RcAt.lists_lengths hl hb (by simpa using hz) hu
 have ne:JA B s (.ref l) (.ref b) (!eqDs ds es):=by
  by_cases hz:its.length=its2.length
  .have q:=SeqAt.RcNeAt.lists (e:=λj=>eqD (ds.getD j .non) (es.getD j .non)) hl hb (by simpa using hz) hu (λj h1 h2=>by simpa using he j (by simpa using h1) (by simpa using h2))
   rw[LR (by omega)]
   have e:its.toArray.size=ds.length:=by simpa using e1
   rw[e]at q;exact q
  .rw[LQ (by omega)]
   exact SeqAt.RcNeAt.lists_lengths hl hb (by simpa using hz) hu
 refine⟨rc,?_,ne⟩;by_cases hlb:l=b
 .rw[hs hlb,hlb];exact Xo _
 .exact Xn hlb rc
theorem cW{B:AU}{its:Ac Ai}{ds es:Ac D}(hl:s.heap.IsTuple l its.toArray)(hb:s.heap.IsTuple b its2.toArray)(e1:its.length=ds.length)(e2:its2.length=es.length)(hu:B.units<B8)(hs:l=b->eqDs ds es=Aa)(he:∀ j (h1:j<its.length) (h2:j<its2.length),GD B.in1 s its[j] its2[j] (eqD (ds.getD j .non) (es.getD j .non))):CK B s (.ref l) (.ref b) (eqDs ds es):=by
 have rc:Ku B s (.ref l) (.ref b) (eqDs ds es):=by
  have q:=SeqAt.RcAt.tuples (e:=λj=>eqD (ds.getD j .non) (es.getD j .non)) hl hb hu (λj h1 h2=>by simpa using he j (by simpa using h1) (by simpa using h2))
  have e:its.toArray.size=ds.length:=by simpa using e1
  have e':its2.toArray.size=es.length:=by simpa using e2
  rw[e,e']at q;by_cases hz:ds.length=es.length
  .rw[LR hz];rw[hz,V8,CA,Hc]at q;rw[hz];exact q
  .rw[LQ hz];rw[ER.mpr hz,FL]at q;exact q
 have ne:JA B s (.ref l) (.ref b) (!eqDs ds es):=by
  have q:=SeqAt.RcNeAt.tuples (e:=λj=>eqD (ds.getD j .non) (es.getD j .non)) hl hb hu (λj h1 h2=>by simpa using he j (by simpa using h1) (by simpa using h2))
  have e:its.toArray.size=ds.length:=by simpa using e1
  have e':its2.toArray.size=es.length:=by simpa using e2
  rw[e,e']at q;by_cases hz:ds.length=es.length
  .rw[LR hz];rw[hz,V8,CA,Hc]at q;rw[hz];exact q
  .rw[LQ hz];rw[ER.mpr hz,FL]at q;exact q
 refine⟨rc,?_,ne⟩;by_cases hlb:l=b
 .rw[hs hlb,hlb];exact Xo _
 .exact Xn hlb rc
theorem L8{pins:Pn}{Z:L2.St}{H:Hp}{s:Ap}(I:Inv X pins Z H s):∀(n:Ae)(d e:D)(v w':V)(u t:Ai)(B:AU),flD n d=Aa->flD n e=Aa->Rep X.K CL H A0 v d->Rep X.K CL H A0 w' e->BP v u->BP w' t->B.units+n<B8->CK B s u t (eqD d e)
  |n,d,e,v,w',u,t,B,hd,he,r,q,rv,rw',hu=>by
    have hu0:B.units<B8:=by omega
    have sd:=Si I hd r rv;have se:=Si I he q rw'
    match d,e,sd,se with
    |.non,.non,s1,s2=>cases s1;cases s2;exact pK
    |.non,.bl b,s1,s2=>cases s1;cases s2;exact pN b
    |.non,.int b,s1,s2=>cases s1;obtain⟨_,rfl⟩:=s2;exact pM b _
    |.non,.str b,s1,s2=>cases s1;obtain⟨_,rfl⟩:=s2;exact pJ b _
    |.non,.tup es,s1,s2=>cases s1;obtain⟨_,_,_,rfl,_,_,p⟩:=s2;exact pH p hu0
    |.non,.lst es,s1,s2=>cases s1;obtain⟨_,_,_,rfl,_,_,p⟩:=s2;exact pL p hu0
    |.bl a,.non,s1,s2=>cases s1;cases s2;exact oN a
    |.bl a,.bl b,s1,s2=>cases s1;cases s2;exact oQ a b
    |.bl a,.int b,s1,s2=>cases s1;obtain⟨_,rfl⟩:=s2;exact oP a b _
    |.bl a,.str b,s1,s2=>cases s1;obtain⟨_,rfl⟩:=s2;exact oM a b _
    |.bl a,.tup es,s1,s2=>cases s1;obtain⟨_,_,_,rfl,_,_,p⟩:=s2;exact oK a p hu0
    |.bl a,.lst es,s1,s2=>cases s1;obtain⟨_,_,_,rfl,_,_,p⟩:=s2;exact oO a p hu0
    |.int a,.non,s1,s2=>obtain⟨_,rfl⟩:=s1;cases s2;exact pV a _
    |.int a,.bl b,s1,s2=>obtain⟨_,rfl⟩:=s1;cases s2;exact oJ b a _
    |.int a,.int b,s1,s2=>obtain⟨_,rfl⟩:=s1;obtain⟨_,rfl⟩:=s2;exact oH a _ b _
    |.int a,.str b,s1,s2=>obtain⟨_,rfl⟩:=s1;obtain⟨_,rfl⟩:=s2;exact pU a _ b _
    |.int a,.tup es,s1,s2=>obtain⟨_,rfl⟩:=s1;obtain⟨_,_,_,rfl,_,_,p⟩:=s2;exact pT a _ p hu0
    |.int a,.lst es,s1,s2=>obtain⟨_,rfl⟩:=s1;obtain⟨_,_,_,rfl,_,_,p⟩:=s2;exact pW a _ p hu0
    |.str a,.non,s1,s2=>obtain⟨_,rfl⟩:=s1;cases s2;exact pD a _
    |.str a,.bl b,s1,s2=>obtain⟨_,rfl⟩:=s1;cases s2;exact pG b a _
    |.str a,.int b,s1,s2=>obtain⟨_,rfl⟩:=s1;obtain⟨_,rfl⟩:=s2;exact pF a _ b _
    |.str a,.str b,s1,s2=>obtain⟨_,rfl⟩:=s1;obtain⟨_,rfl⟩:=s2;exact pC a _ b _
    |.str a,.tup es,s1,s2=>obtain⟨_,rfl⟩:=s1;obtain⟨_,_,_,rfl,_,_,p⟩:=s2;exact oZ a _ p hu0
    |.str a,.lst es,s1,s2=>obtain⟨_,rfl⟩:=s1;obtain⟨_,_,_,rfl,_,_,p⟩:=s2;exact pE a _ p hu0
    |.tup ds,.non,s1,s2=>cases s2;obtain⟨_,_,_,rfl,_,_,p⟩:=s1;exact oV p hu0
    |.tup ds,.bl b,s1,s2=>cases s2;obtain⟨_,_,_,rfl,_,_,p⟩:=s1;exact oY b p hu0
    |.tup ds,.int b,s1,s2=>obtain⟨_,rfl⟩:=s2;obtain⟨_,_,_,rfl,_,_,p⟩:=s1;exact oX b _ p hu0
    |.tup ds,.str b,s1,s2=>obtain⟨_,rfl⟩:=s2;obtain⟨_,_,_,rfl,_,_,p⟩:=s1;exact oU b _ p hu0
    |.tup ds,.lst es,s1,s2=>obtain⟨_,_,_,rfl,_,_,p⟩:=s1;obtain⟨_,_,_,rfl,_,_,p2⟩:=s2;exact oW p p2 hu0
    |.lst ds,.non,s1,s2=>cases s2;obtain⟨_,_,_,rfl,_,_,p⟩:=s1;exact pQ p hu0
    |.lst ds,.bl b,s1,s2=>cases s2;obtain⟨_,_,_,rfl,_,_,p⟩:=s1;exact pS b p hu0
    |.lst ds,.int b,s1,s2=>obtain⟨_,rfl⟩:=s2;obtain⟨_,_,_,rfl,_,_,p⟩:=s1;exact pR b _ p hu0
    |.lst ds,.str b,s1,s2=>obtain⟨_,rfl⟩:=s2;obtain⟨_,_,_,rfl,_,_,p⟩:=s1;exact pP b _ p hu0
    |.lst ds,.tup es,s1,s2=>obtain⟨_,_,_,rfl,_,_,p⟩:=s1;obtain⟨_,_,_,rfl,_,_,p2⟩:=s2;exact pO p p2 hu0
    |.tup ds,.tup es,s1,s2=>
      match n,hd,he,hu with
      |n+1,hd,he,hu=>
        obtain⟨a,xs,its,rfl,r1,v1,p1⟩:=s1;obtain⟨b,ys,its2,rfl,r2,v2,p2⟩:=s2;have l1:=v1.length;have l2:=r1.length;have l3:=v2.length;have l4:=r2.length
        refine cW p1 p2 (by omega) (by omega) hu0 (λhab=>?_) λj h1 h2=>?_
        · have e1:v=.ref a:=BP.inj rv rfl;have e2:w'=.ref b:=BP.inj rw' rfl;subst e1 e2 hab;have z:=MQ I (n+1) _ _ hd he r q
          injection z with z
          rw[z];exact eqDs_refl n es he
        · obtain⟨x,rx,qx⟩:=Kc r1 v1 h1;obtain⟨y,ry,qy⟩:=Kc r2 v2 h2;exact(L8 I n _ _ x y _ _ B.in1 (J7 hd j) (J7 he j) rx ry qx qy (by show B.units+1+n<B8;omega)).2.1
    |.lst ds,.lst es,s1,s2=>
      match n,hd,he,hu with
      |n+1,hd,he,hu=>
        obtain⟨a,xs,its,rfl,r1,v1,p1⟩:=s1;obtain⟨b,ys,its2,rfl,r2,v2,p2⟩:=s2;have l1:=v1.length;have l2:=r1.length;have l3:=v2.length;have l4:=r2.length
        refine cZ p1 p2 (by omega) (by omega) hu0 (λhab=>?_) λj h1 h2=>?_
        · have e1:v=.ref a:=BP.inj rv rfl;have e2:w'=.ref b:=BP.inj rw' rfl;subst e1 e2 hab;have z:=MQ I (n+1) _ _ hd he r q
          injection z with z
          rw[z];exact eqDs_refl n es he
        · obtain⟨x,rx,qx⟩:=Kc r1 v1 h1;obtain⟨y,ry,qy⟩:=Kc r2 v2 h2;exact(L8 I n _ _ x y _ _ B.in1 (J7 hd j) (J7 he j) rx ry qx qy (by show B.units+1+n<B8;omega)).2.1
    |.obj _ _,_,s1,_=>exact s1.elim
    |.exc _ _,_,s1,_=>exact s1.elim
    |.dic _,_,s1,_=>exact s1.elim
    |_,.obj _ _,_,s2=>exact s2.elim
    |_,.exc _ _,_,s2=>exact s2.elim
    |_,.dic _,_,s2=>exact s2.elim
end
section
variable{X:Cx}{CL:ClA}{W:XW}
theorem MY(I:Inv X pins Z H s){ds:Ac D}{its:Ac Ai}(B:AU)(hd:flD n d=Aa)(hs:ds.all (flD n)=Aa)(r:Reps X.K CL H A0 xs ds)(rv:A6 xs its)(q:Rep X.K CL H A0 v d)(qv:BP v u)(hu:B.units+n<B8):∃ e:Ai->Aj,(∀ y,y∈its.toArray->GD B s y u (e y))/\its.toArray.any e=ds.any λy=>eqD y d:=by
 have l1:=rv.length;have l2:=r.length
 have key:∀ y,y∈its->∃ k:Aj,GD B s y u k/\∀ j (h:j<its.length),its[j]=y->eqD (ds.getD j .non) d=k:=λy hy=>by
  obtain⟨j,hj,rfl⟩:=Cc hy;obtain⟨x,rx,qx⟩:=Kc r rv hj;refine⟨eqD (ds.getD j .non) d,(L8 I n _ _ x v _ _ B (J7 hs j) hd rx q qx qv hu).2.1,λj' hj' e=>?_⟩
  obtain⟨x',rx',qx'⟩:=Kc r rv hj';rw[e]at qx';have z:=BP.inj qx qx';subst z;rw[MQ I n _ _ (J7 hs j') (J7 hs j) rx' rx]
 have key2:∀ y,∃ k:Aj,y∈its->GD B s y u k/\∀ j (h:j<its.length),its[j]=y->eqD (ds.getD j .non) d=k:=λy=>by
  by_cases hy:y∈its
  .obtain⟨k,hk⟩:=key y hy;exact⟨k,λ_=>hk⟩
  .exact⟨Aa,λh=>absurd h hy⟩
 refine⟨λy=>Vm (key2 y),λy hy=>(E7 (key2 y) (by simpa using hy)).1,?_⟩
 rw[E0];simp only[List.any_toArray,DZ];constructor
 .rintro⟨y,hy,hk⟩;obtain⟨j,hj,rfl⟩:=Cc hy;have z:=(E7 (key2 its[j]) hy).2 j hj rfl;rw[hk]at z;refine⟨ds.getD j .non,?_,z⟩;rw[A4,AA (by omega)]
  exact CU _
 .rintro⟨y,hy,hk⟩;obtain⟨j,hj,rfl⟩:=Cc hy;have hj':j<its.length:=by omega
  refine⟨its[j],CU _,?_⟩;have z:=(E7 (key2 its[j]) (CU _)).2 j hj' rfl;rw[<-z,A4,AA hj];exact hk
theorem ME{g:Ag->Ag->Aj}(ho:OpR X (C0 op) (rI0 λi j=>.bl (g i j)))(hg:∀ dx dy,(∃ i j,dx=.int i/\dy=.int j/\Cb op dx dy=.ok (.bl (g i j)))\/Cb op dx dy=.bad):OpD X CL W (C0 op) (Cb op):=by
 intro A pins s Z H x y v u Q I rx ry ⟨hA,dx,dy,hx,hy,p⟩;rcases hg dx dy with ⟨i,j,rfl,rfl,e⟩|e
 .have ex:=hx.int_of;have ey:=hy.int_of
  subst ex ey;rw[e]at p;exact ho pins s Z H _ _ v u Q I rx ry ⟨i,j,rfl,rfl,p _ H (AO.refl H) rfl⟩
 .rw[e]at p;exact p.elim
theorem T4{x:V}(h:C3 X.K CL H A x d)(hd:d≠.non):x≠.non:=by
 rintro rfl;have h:=h.plain;cases d with
 |non=>exact hd rfl
 |tup=>obtain⟨_,_,e,_⟩:=h;cases e
 |lst=>obtain⟨_,_,e,_⟩:=h;cases e
 |obj=>obtain⟨_,_,_,_,e,_⟩:=h;cases e
 |exc=>obtain⟨_,_,_,e,_⟩:=h;cases e
 |dic=>exact h.elim
 |_=>cases h
theorem MU(hu:X.A.units+64<B8)(op:DX):OpD X CL W (C0 op) (Cb op):=by
 cases op with
 |Eq=>
  intro A pins s Z H x y v u Q I rx ry ⟨hA,dx,dy,hx,hy,p⟩;rw[rV]at p;split at p
  .rename_i h;simp only[An]at h;exact(L8 I 5 dx dy x y v u X.A h.1 h.2 hx.plain hy.plain rx ry (by omega)).1 X.prog X.w X.xe _ ⟨.bl _,H,I,rfl,p _ H (AO.refl H) rfl⟩
  .exact p.elim
 |NotEq=>
  intro A pins s Z H x y v u Q I rx ry ⟨hA,dx,dy,hx,hy,p⟩;rw[qK]at p;split at p
  .rename_i h;simp only[An]at h;exact(L8 I 5 dx dy x y v u X.A h.1 h.2 hx.plain hy.plain rx ry (by omega)).2.2 X.prog X.w X.xe _ ⟨.bl _,H,I,rfl,p _ H (AO.refl H) rfl⟩
  .exact p.elim
 |Lt=>
  refine ME rJ λdx dy=>?_
  cases dx with
  |int i=>
   cases dy with
   |int j=>exact .inl ⟨i,j,rfl,rfl,rfl⟩
   |_=>exact .inr rfl
  |_=>exact .inr rfl
 |LtE=>
  refine ME rK λdx dy=>?_
  cases dx with
  |int i=>
   cases dy with
   |int j=>exact .inl ⟨i,j,rfl,rfl,rfl⟩
   |_=>exact .inr rfl
  |_=>exact .inr rfl
 |Gt=>
  refine ME rL λdx dy=>?_
  cases dx with
  |int i=>
   cases dy with
   |int j=>exact .inl ⟨i,j,rfl,rfl,rfl⟩
   |_=>exact .inr rfl
  |_=>exact .inr rfl
 |GtE=>
  refine ME rM λdx dy=>?_
  cases dx with
  |int i=>
   cases dy with
   |int j=>exact .inl ⟨i,j,rfl,rfl,rfl⟩
   |_=>exact .inr rfl
  |_=>exact .inr rfl
 |In=>
  intro A pins s Z H x y v u Q I rx ry ⟨hA,dx,dy,hx,hy,p⟩;cases dy with
  |lst es=>
   rw[sG]at p;split at p
   .rename_i h;simp only[An]at h;obtain⟨a,xs,e,_,sq,r⟩:=hy.plain;subst e;cases ry;obtain⟨its,rv,pl,_⟩:=I.list sq;obtain⟨e,he,ha⟩:=MY I (n:=5) X.A.in1 h.1 h.2 r rv hx.plain rx (by show X.A.units+1+5<B8;omega)
    refine SeqAt.in_listAt e (K5 pl) he ?_;rw[ha];exact⟨.bl _,H,I,rfl,p _ H (AO.refl H) rfl⟩
   .exact p.elim
  |tup es=>
   rw[tE]at p;split at p
   .rename_i h;simp only[An]at h;obtain⟨a,xs,e,_,sq,r⟩:=hy.plain;subst e;cases ry;obtain⟨its,rv,pl,_⟩:=I.tuple sq;obtain⟨e,he,ha⟩:=MY I (n:=5) X.A.in1 h.1 h.2 r rv hx.plain rx (by show X.A.units+1+5<B8;omega)
    refine SeqAt.in_tupleAt e pl he ?_;rw[ha];exact⟨.bl _,H,I,rfl,p _ H (AO.refl H) rfl⟩
   .exact p.elim
  |dic kvs=>exact hy.plain.elim
  |_=>exact p.elim
 |NotIn=>
  intro A pins s Z H x y v u Q I rx ry ⟨hA,dx,dy,hx,hy,p⟩;cases dy with
  |lst es=>
   rw[qI]at p;split at p
   .rename_i h;simp only[An]at h;obtain⟨a,xs,e,_,sq,r⟩:=hy.plain;subst e;cases ry;obtain⟨its,rv,pl,_⟩:=I.list sq;obtain⟨e,he,ha⟩:=MY I (n:=5) X.A.in1 h.1 h.2 r rv hx.plain rx (by show X.A.units+1+5<B8;omega)
    refine SeqAt.notIn_listAt e (K5 pl) he ?_;rw[ha];exact⟨.bl _,H,I,rfl,p _ H (AO.refl H) rfl⟩
   .exact p.elim
  |tup es=>
   rw[rO]at p;split at p
   .rename_i h;simp only[An]at h;obtain⟨a,xs,e,_,sq,r⟩:=hy.plain;subst e;cases ry;obtain⟨its,rv,pl,_⟩:=I.tuple sq;obtain⟨e,he,ha⟩:=MY I (n:=5) X.A.in1 h.1 h.2 r rv hx.plain rx (by show X.A.units+1+5<B8;omega)
    refine SeqAt.notIn_tupleAt e pl he ?_;rw[ha];exact⟨.bl _,H,I,rfl,p _ H (AO.refl H) rfl⟩
   .exact p.elim
  |str j=>
   cases dx with
   |str i=>exact YI pins s Z H x y v u _ I rx ry ⟨i,j,hx.plain,hy.plain,p _ H (AO.refl H) rfl⟩
   |_=>exact p.elim
  |_=>exact p.elim
 |Is=>
  intro A pins s Z H x y v u Q I rx ry ⟨hA,dx,dy,hx,hy,p⟩;cases dy with
  |non=>
   have ey:=hy.non_of;subst ey;refine mH pins s Z H _ _ v u Q I rx ry ⟨rfl,?_⟩;cases dx with
   |non=>
    have ex:=hx.non_of;subst ex;exact p _ H (AO.refl H) rfl
   |exc=>exact p.elim
   |dic=>exact p.elim
   |_=>rw[BH (T4 hx (by simp))];exact p _ H (AO.refl H) rfl
  |bl b=>
   cases dx with
   |bl a=>
    have ey:=hy.bl_of;have ex:=hx.bl_of;subst ex ey;cases rx;cases ry;refine wpAny_is_plain rfl ⟨.bl (a==b),H,I,?_,p _ H (AO.refl H) rfl⟩;cases a<;>cases b<;>rfl
   |_=>exact p.elim
  |_=>cases dx<;>exact p.elim
 |IsNot=>
  intro A pins s Z H x y v u Q I rx ry ⟨hA,dx,dy,hx,hy,p⟩;cases dy with
  |non=>
   have ey:=hy.non_of;subst ey;refine cS pins s Z H _ _ v u Q I rx ry ⟨rfl,?_⟩;cases dx with
   |non=>
    have ex:=hx.non_of;subst ex;exact p _ H (AO.refl H) rfl
   |exc=>exact p.elim
   |dic=>exact p.elim
   |_=>rw[BH (T4 hx (by simp))];exact p _ H (AO.refl H) rfl
  |bl b=>
   cases dx with
   |bl a=>
    have ey:=hy.bl_of;have ex:=hx.bl_of;subst ex ey;cases rx;cases ry;refine wpAny_isNot_plain rfl ⟨.bl (!(a==b)),H,I,?_,p _ H (AO.refl H) rfl⟩;cases a<;>cases b<;>rfl
   |_=>exact p.elim
  |_=>cases dx<;>exact p.elim
end
section
variable{X:Cx}{CL:ClA}{W:XW}{a b c:Am}{fa fb fc:Rho->R D}{pos:A3}
theorem Bk.bindB{r:R Aj}{f:Aj->R D}{Q':Aj->Hp->Prop}(h:Bk Rp W H (r.bind f) Q)(k:∀ b H',r=.ok b->AO H H'->Bk Rp W H' (f b) Q->Q' b H'):Dp W H r Q':=by
 cases r with
 |ok d=>exact λH2 s2=>k d H2 rfl s2 (Bk.same s2 h)
 |exn x=>exact h
 |bad=>exact h
theorem Dp.bind{f:D->R Aj}{Q:Aj->Hp->Prop}{Q':VK}(h:Dp W H (r.bind f) Q)(k:∀ d v H',r=.ok d->AO H H'->Rp H' v d->Dp W H' (f d) Q->Q' v H'):Bk Rp W H r Q':=by
 cases r with
 |ok d=>exact λv H2 s2 q=>k d v H2 rfl s2 q (Dp.same s2 h)
 |exn x=>exact h
 |bad=>exact h
theorem Dp.bindB{r:R Aj}{f:Aj->R Aj}{Q:Aj->Hp->Prop}{Q':Aj->Hp->Prop}(h:Dp W H (r.bind f) Q)(k:∀ b H',r=.ok b->AO H H'->Dp W H' (f b) Q->Q' b H'):Dp W H r Q':=by
 cases r with
 |ok d=>exact λH2 s2=>k d H2 rfl s2 (Dp.same s2 h)
 |exn x=>exact h
 |bad=>exact h
theorem Ho.bind{Rp:Hp->Ac V->Ac D->Prop}{r:R (Ac D)}{f:Ac D->R D}{Q':Ac V->Hp->Prop}(h:Bk Rq W H (r.bind f) Q)(k:∀ d v H',r=.ok d->AO H H'->Rp H' v d->Bk Rq W H' (f d) Q->Q' v H'):Ho Rp W H r Q':=by
 cases r with
 |ok d=>exact λv H2 s2 q=>k d v H2 rfl s2 q (Bk.same s2 h)
 |exn x=>exact h
 |bad=>exact h
theorem iX(ha:ST X CL W a fa):SE X CL W (.UnaryOp .USub a pos) (λU=>(fa U).bind λx=>unD .USub x):=λA=>PE.weak (rD gL (ha A)) λZ H Q ⟨hA,U,g,p⟩=>⟨hA,U,g,Bk.bind p λd v H1 _ s1 r1 p1=>by
 cases d with
 |int i=>
  have e:=r1.int_of;subst e;exact⟨i,rfl,p1 _ H1 (AO.refl H1) rfl⟩
 | _=>exact p1.elim⟩
theorem Oe{f:Aj->R D}(h:Bk Rq W H ((EG d).bind f) Q):∃ c,d=.bl c/\Bk Rq W H (f c) Q:=by
 cases d with
 |bl c=>exact⟨c,rfl,h⟩
 |_=>exact h.elim
theorem iV(ha:ST X CL W a fa):SE X CL W (.UnaryOp .Not a pos) (λU=>(fa U).bind λx=>(EG x).bind λb=>.ok (.bl (!b))):=λA=>PE.weak (lW (ha A)) λZ H Q ⟨hA,U,g,p⟩=>⟨hA,U,g,Bk.bind p λd v H1 _ s1 r1 p1=>by
 obtain⟨c,rfl,p2⟩:=Oe p1;exact⟨c,r1.bl_of,p2 _ H1 (AO.refl H1) rfl⟩⟩
theorem TJ{op}(ha:SE X CL W a fa):SE X CL W (.BoolOp op [a] pos) fa:=λA=>lV (ha A)
theorem jD{rest:Ac Am}(ha:SE X CL W a fa)(hb:SE X CL W (.BoolOp .And (b::rest) pos) fb):SE X CL W (.BoolOp .And (a::b::rest) pos) (λU=>(fa U).bind λx=>(EG x).bind λc=>if c=Aa then fb U else .ok (.bl Af)):=
 λA=>PE.weak (mC (ha A) (hb A)) λZ H Q ⟨hA,U,g,p⟩=>⟨hA,U,g,Bk.bind p λd v H1 _ s1 r1 p1=>by
  obtain⟨c,rfl,p2⟩:=Oe p1;refine⟨c,r1,?_⟩;cases c with
  |true=>exact⟨hA.same s1,U,g.same s1,p2⟩
  | false=>exact p2 _ H1 (AO.refl H1) rfl⟩
theorem pY{rest:Ac Am}(ha:SE X CL W a fa)(hb:SE X CL W (.BoolOp .Or (b::rest) pos) fb):SE X CL W (.BoolOp .Or (a::b::rest) pos) (λU=>(fa U).bind λx=>(EG x).bind λc=>if c=Aa then .ok (.bl Aa) else fb U):=
 λA=>PE.weak (rE (ha A) (hb A)) λZ H Q ⟨hA,U,g,p⟩=>⟨hA,U,g,Bk.bind p λd v H1 _ s1 r1 p1=>by
  obtain⟨c,rfl,p2⟩:=Oe p1;refine⟨c,r1,?_⟩;cases c with
  |false=>exact⟨hA.same s1,U,g.same s1,p2⟩
  | true=>exact p2 _ H1 (AO.refl H1) rfl⟩
theorem iY{fb':Rho->R Aj}(hc:SB X CL W c fb')(ha:SE X CL W a fa)(hb:SE X CL W b fb):SE X CL W (.IfExp c a b pos) (λU=>(fb' U).bind λk=>if k=Aa then fa U else fb U):=
 λA=>PE.weak (ZL (hc A) (ha A) (hb A)) λZ H Q ⟨hA,U,g,p⟩=>⟨hA,U,g,Bk.bindB p λk H1 _ s1 p1=>by
  cases k with
  |true=>exact⟨hA.same s1,U,g.same s1,p1⟩
  | false=>exact⟨hA.same s1,U,g.same s1,p1⟩⟩
theorem Su{xs:Ac D}{i:Ag}(h:Fq xs i=.ok d):∃ k,plD xs.length i=Ab k/\xs[k]?=Ab d:=by
 unfold Fq at h;split at h
 .rename_i k e;split at h
  .rename_i d' e';cases h;exact⟨k,e,e'⟩
  .cases h
 .cases h
theorem Ot{xs:Ac D}{i:Ag}{x:Ex}(h:Fq xs i=.exn x):Bj:=by
 unfold Fq at h;split at h
 .split at h<;>cases h
 .cases h
theorem Tf{ds:Ac D}{i:Ag}(r:Reps K CL H A xs ds)(h:Fq ds i=.ok d):∃ v,atI xs i=Ab v/\Rep K CL H A v d:=by
 obtain⟨k,e,q⟩:=Su h;obtain⟨v,hv,rv⟩:=r.get q;refine⟨v,?_,rv⟩;unfold atI;have:ixN xs.length i=Ab k:=by rw[r.length];exact e
 rw[this];exact hv
theorem hV{z:Ak}{i:Ag}(h:Fq (Mo z) i=.ok d):∃ c,atI z.cps.toList i=Ab c/\d=.str ⟨#[c]⟩:=by
 obtain⟨k,e,q⟩:=Su h;unfold Mo at e q;rw[AH]at e;rw[Bx]at q;cases hc:z.cps.toList[k]? with
 |none=>rw[hc]at q;cases q
 |some c=>
  rw[hc]at q;refine⟨c,?_,(Bg q).symm⟩;unfold atI;have:ixN z.cps.toList.length i=Ab k:=e;rw[this];exact hc
theorem Y_5(h:BQ n=Aa):n<=sizeLine:=by
 unfold BQ at h;have:=Fa h;rw[Bz];omega
theorem jB(hs:OY b)(ha:ST X CL W a fa)(hb:ST X CL W b fb):SE X CL W (.Subscript a b pos) (λU=>(fa U).bind λx=>(fb U).bind λy=>Km x y):=
 λA=>PE.weak (rF (r:=rIx X.K) kI (ha A) (hb A) hs) λZ H Q h=>by
  obtain⟨hA,U,g,h⟩:=op2 h;refine⟨hA,U,g,?_⟩;cases e:fa U with
  |bad=>rw[e]at h;exact h
  |exn x=>rw[e]at h;exact h
  |ok dx0=>
   rw[e]at h;intro x H1 s1 r1;obtain⟨hA1,U1,g1,h1⟩:=h x H1 s1 r1;refine⟨hA1,U1,g1,?_⟩;cases e1:fb U1 with
   |bad=>rw[e1]at h1;exact h1
   |exn x=>rw[e1]at h1;exact h1
   |ok dy0=>
    rw[e1]at h1;intro y H2 s2 r2;obtain⟨hA2,dx,dy,rx,ry,p⟩:=h1 y H2 s2 r2;cases dy with
    |int i=>
     have ey:=ry.int_of;subst ey;cases dx with
     |lst ds=>
      obtain⟨q,xs,rfl,sq,r⟩:=rx.lst_of;rw[qC]at p;cases e2:Fq ds i with
      |ok d=>
       rw[e2]at p;obtain⟨v,hv,rv⟩:=Tf r e2;exact .inl ⟨q,xs,i,v,rfl,rfl,sq,hv,p v H2 (AO.refl H2) rv⟩
      |exn x=>exact(Ot e2).elim
      |bad=>rw[e2]at p;exact p.elim
     |tup ds=>
      obtain⟨q,xs,rfl,_,sq,r⟩:=rx.tup_of;rw[qB]at p;cases e2:Fq ds i with
      |ok d=>
       rw[e2]at p;obtain⟨v,hv,rv⟩:=Tf r e2;exact .inr (.inl ⟨q,xs,i,v,rfl,rfl,sq,hv,p v H2 (AO.refl H2) rv⟩)
      |exn x=>exact(Ot e2).elim
      |bad=>rw[e2]at p;exact p.elim
     |str z=>
      have ex:=rx.str_of;subst ex;have p':Bk (λH=>Rep X.K CL H A) W H2 (if BQ z.length=Aa then Fq (Mo z) i else .bad) Q:=p
      split at p'
      .rename_i hz;cases e2:Fq (Mo z) i with
       |ok d=>
        rw[e2]at p';obtain⟨c,hc,rfl⟩:=hV e2;exact .inr (.inr ⟨z,i,c,rfl,rfl,Y_5 hz,hc,p' _ H2 (AO.refl H2) rfl⟩)
       |exn x=>exact(Ot e2).elim
       |bad=>rw[e2]at p';exact p'.elim
      .exact p'.elim
     |dic=>exact rx.plain.elim
     |_=>exact p.elim
    |_=>cases dx<;>first|exact p.elim|exact rx.plain.elim
theorem jH:SA X CL W [] (λ_=>.ok []):=λA=>PA.weak G1 λZ H Q ⟨hA,U,g,p⟩=>p [] H (AO.refl H) trivial
theorem eV(ha:SE X CL W a fa)(hs:SA X CL W es fs)(hst:AI (a::es) X.env=(Af,eval a X.env)::AI es X.env):SA X CL W (a::es) (λU=>(fa U).bind λx=>(fs U).bind λxs=>.ok (x::xs)):=
 λA=>PA.weak (FB (ha A) (hs A) hst) λZ H Q ⟨hA,U,g,p⟩=>by
  dsimp only at p;refine⟨hA,U,g,?_⟩;cases e:fa U with
  |bad=>rw[e]at p;exact p
  |exn x=>rw[e]at p;exact p
  |ok d=>
   rw[e]at p;intro v H1 s1 r1;refine⟨hA.same s1,U,g.same s1,?_⟩;cases e1:fs U with
   |bad=>rw[R.bind_ok,e1]at p;exact p
   |exn x=>rw[R.bind_ok,e1]at p;exact λH2 s2=>p H2 (s1.trans s2)
   |ok ds=>
    rw[R.bind_ok,e1]at p;exact λvs H2 s2 r2=>p (v::vs) H2 (s1.trans s2) ⟨r1.same s2,r2⟩
theorem iU(hs:SA X CL W es fs)(hz:∀ U ds,fs U=.ok ds->ds.length<=100000):SE X CL W (.Tuple es k pos) (λU=>(fs U).bind λxs=>.ok (.tup xs)):=
 λA=>PE.weak (lR (hs A)) λZ H Q ⟨hA,U,g,p⟩=>⟨hA,U,g,Ho.bind p λds vs H1 e s1 r1 p1=>⟨by
  rw[r1.length,Bz];have:=hz U ds e;omega,λq hq=>p1 _ _ (GJ hq _) (LZ (hA.same s1) hq r1)⟩⟩
def Mf(W:XW)(H:Hp)(r:R (Ao Ag))(Q:Ao Ag->Hp->Prop):Prop:=match r with
  |.ok o=>∀ H',AO H H'->Q o H'
  |.exn x=>∀ H',AO H H'->W x H'
  |.bad=>Bj
theorem Mf.bind{r:R (Ao Ag)}{f:Ao Ag->R D}(h:Bk Rq W H (r.bind f) Q)(k:∀ o H',r=.ok o->AO H H'->Bk Rq W H' (f o) Q->Q' o H'):Mf W H r Q':=by
 cases r with
 |ok d=>exact λH2 s2=>k d H2 rfl s2 (Bk.same s2 h)
 |exn x=>exact h
 |bad=>exact h
def SO(X:Cx)(CL:ClA)(W:XW)(e:Ao Am)(f:Rho->R (Ao Ag)):Prop:=∀ A,PO X e (λZ H Q=>AOk H A/\∃ U,Good X.K CL A U Z H/\Mf W H (f U) Q)
theorem PO.weak{e:Ao Am}{t t':TO}(h:PO X e t)(k:∀ Z H Q,t' Z H Q->t Z H Q):PO X e t':=λpins s Z H Q I q=>h pins s Z H Q I (k _ _ _ q)
theorem eL:SO X CL W Ad (λ_=>.ok Ad):=λA=>PO.weak dR λZ H Q ⟨hA,U,g,p⟩=>p H (AO.refl H)
theorem eK(ha:ST X CL W a fa):SO X CL W (Ab a) (λU=>(fa U).bind λd=>(DK d).bind λi=>.ok (Ab i)):=λA=>PO.weak (dQ (ha A)) λZ H Q ⟨hA,U,g,p⟩=>by
 dsimp only at p;refine⟨hA,U,g,?_⟩;cases e:fa U with
 |bad=>rw[e]at p;exact p
 |exn x=>rw[e]at p;exact p
 |ok d=>
  rw[e]at p;intro v H1 s1 r1;cases d with
  |int i=>exact⟨i,r1.int_of,p H1 s1⟩
  |_=>exact p.elim
end
section
variable{X:Cx}{CL:ClA}{W:XW}{a b c:Am}{fa fb fc:Rho->R D}{pos:A3}
def Gn(K:Fg)(CL:ClA)(H:Hp)(A:Al->Prop):Ac V->Ac D->Prop
 |[],[]=>Iw
 |v::vs,d::ds=>C3 K CL H A v d/\Gn K CL H A vs ds
 |_,_=>Bj
theorem Gn.same{K:Fg}{H H':Hp}{A:Al->Prop}(s:AO H H'):∀{vs:Ac V}{ds:Ac D},Gn K CL H A vs ds->Gn K CL H' A vs ds
 |[],[],h=>h
 |_::_,_::_,h=>⟨h.1.same s,Gn.same s h.2⟩
 |[],_::_,h=>h.elim
 |_::_,[],h=>h.elim
theorem Gn.one(h:Gn K CL H A vs [d]):∃ v,vs=[v]/\C3 K CL H A v d:=by
 cases vs with
 |nil=>exact h.elim
 |cons v vs=>
  cases vs with
  |nil=>exact⟨v,rfl,h.1⟩
  |cons=>exact h.2.elim
theorem Gn.two{e:D}(h:Gn K CL H A vs [d,e]):∃ v w',vs=[v,w']/\C3 K CL H A v d/\C3 K CL H A w' e:=by
 cases vs with
 |nil=>exact h.elim
 |cons v vs=>
  cases vs with
  |nil=>exact h.2.elim
  |cons w' vs=>
   cases vs with
   |nil=>exact⟨v,w',rfl,h.1,h.2.1⟩
   |cons=>exact h.2.2.elim
def SAT(X:Cx)(CL:ClA)(W:XW)(es:Ac Am)(f:Rho->R (Ac D)):Prop:=∀ A,PA X es (λZ H Q=>AOk H A/\∃ U,Good X.K CL A U Z H/\Ho (λH=>Gn X.K CL H A) W H (f U) Q)
theorem eU:SAT X CL W [] (λ_=>.ok []):=λA=>PA.weak G1 λZ H Q ⟨hA,U,g,p⟩=>p [] H (AO.refl H) trivial
theorem Z_4(ha:ST X CL W a fa)(hs:SAT X CL W es fs)(hst:AI (a::es) X.env=(Af,eval a X.env)::AI es X.env):SAT X CL W (a::es) (λU=>(fa U).bind λx=>(fs U).bind λxs=>.ok (x::xs)):=
 λA=>PA.weak (FB (ha A) (hs A) hst) λZ H Q ⟨hA,U,g,p⟩=>by
  dsimp only at p;refine⟨hA,U,g,?_⟩;cases e:fa U with
  |bad=>rw[e]at p;exact p
  |exn x=>rw[e]at p;exact p
  |ok d=>
   rw[e]at p;intro v H1 s1 r1;refine⟨hA.same s1,U,g.same s1,?_⟩;cases e1:fs U with
   |bad=>rw[R.bind_ok,e1]at p;exact p
   |exn x=>rw[R.bind_ok,e1]at p;exact λH2 s2=>p H2 (s1.trans s2)
   |ok ds=>
    rw[R.bind_ok,e1]at p;exact λvs H2 s2 r2=>p (v::vs) H2 (s1.trans s2) ⟨r1.same s2,r2⟩
def Kk(X:Cx)(CL:ClA)(W:XW)(f:Ai)(g:Ac D->R D):Prop:=∀ A,HW X f (λxs H Q=>AOk H A/\∃ ds,Gn X.K CL H A xs ds/\Bk (λH=>Rep X.K CL H A) W H (g ds) Q)
theorem O0{g:Ac D->R D}(hc:Kk X CL W (.builtin id) g)(hg:Gl X x)(hm:X.mg x=Ad)(hv:CZ x=Ab (.builtin id))(ha:SAT X CL W (e::es) fs)(hn:x≠"__name__")(hdb:(x==("__debug__" : Ak))=Af)(he:AI (e::es) X.env=(Af,eval e X.env)::AI es X.env)(hpl:∀ pos,(Cz pos (AI es X.env)).any (·.1)=Af):SE X CL W (.Call (.Name x p) (e::es) [] pos) (λU=>(fs U).bind g):=λA=>PE.weak (OE (hc A) hg hm hv (ha A) hn hdb he (hpl _)) λZ H Q ⟨hA,U,gd,q⟩=>⟨hA,U,gd,Ho.bind q λds vs H1 _ s1 r1 p1=>⟨hA.same s1,ds,r1,p1⟩⟩
theorem TL{g:Ac D->R D}(hc:Kk X CL W (.type T) g)(hg:Gl X x)(hm:X.mg x=Ad)(hv:CZ x=Ab (.type T))(ha:SAT X CL W (e::es) fs)(hn:x≠"__name__")(hdb:(x==("__debug__" : Ak))=Af)(he:AI (e::es) X.env=(Af,eval e X.env)::AI es X.env)(hpl:∀ pos,(Cz pos (AI es X.env)).any (·.1)=Af):SE X CL W (.Call (.Name x p) (e::es) [] pos) (λU=>(fs U).bind g):=λA=>PE.weak (QH (hc A) hg hm hv (ha A) hn hdb he (hpl _)) λZ H Q ⟨hA,U,gd,q⟩=>⟨hA,U,gd,Ho.bind q λds vs H1 _ s1 r1 p1=>⟨hA.same s1,ds,r1,p1⟩⟩
theorem mZ:Kk X CL W (.builtin "len") (biD .len):=by
  intro A pins s Z H xs us Q I r ⟨hA,ds,rs,p⟩
  match ds,rs,p with
  |[.lst es],rs,p=>
    obtain⟨v,rfl,rv⟩:=rs.one;obtain⟨q,ys,rfl,sq,ry⟩:=rv.lst_of;exact Qi pins s Z H _ us Q I r ⟨q,ys,rfl,.inl sq,p _ H (AO.refl H) (by rw[ry.length];rfl)⟩
  |[.tup es],rs,p=>
    obtain⟨v,rfl,rv⟩:=rs.one;obtain⟨q,ys,rfl,_,sq,ry⟩:=rv.tup_of;exact Qi pins s Z H _ us Q I r ⟨q,ys,rfl,.inr sq,p _ H (AO.refl H) (by rw[ry.length];rfl)⟩
  |[.str x],rs,p=>
    obtain⟨v,rfl,rv⟩:=rs.one;have e:=rv.str_of;subst e;have p':Bk (λH=>Rep X.K CL H A) W H (if BQ x.length=Aa then .ok (.int x.length) else .bad) Q:=p
    split at p'
    · rename_i h;exact YJ pins s Z H _ us Q I r ⟨x,rfl,Je h,p' _ H (AO.refl H) rfl⟩
    · exact p'.elim
  |[],_,p=>exact p.elim
  |[.non],_,p=>exact p.elim
  |[.bl _],_,p=>exact p.elim
  |[.int _],_,p=>exact p.elim
  |[.obj _ _],_,p=>exact p.elim
  |[.exc _ _],_,p=>exact p.elim
  |[.dic _],rs,p=>first|exact p.elim|(obtain⟨v,rfl,rv⟩:=rs.one;exact rv.plain.elim)
  |x::_::_,_,p=>cases x<;>exact p.elim
theorem Q7:∀(is:Ac Ag)(i:Ag),IE i is∈i::is/\∀ a∈i::is,IE i is<=a
 |[],i=>⟨AL,λa h=>by rw[A5]at h;rw[h];exact Int.le_refl _⟩
 |j::r,i=>by
  obtain⟨h1,h2⟩:=Q7 r (if j<i then j else i)
  refine⟨?_,λa h=>?_⟩
  .show IE (if j<i then j else i) r∈_
   rcases AK.mp h1 with e|e
   .rw[e];split
    .exact AF _ AL
    .exact AL
   .exact AF _ (AF _ e)
  .show IE (if j<i then j else i) r<=a
   have h0:=h2 _ AL;rcases AK.mp h with e|e
   .subst e;refine Vp h0 ?_;split<;>omega
   .rcases AK.mp e with e|e
    .subst e;refine Vp h0 ?_;split<;>omega
    .exact h2 a (AF _ e)
theorem QO:∀{is:Ac Ag}{its:Ac Ai},A6 (is.map V.int) its->∃ xs:Au (Ag×Cf),its.toArray=Lx xs/\xs.toList.map (·.1)=is
 |[],_,h=>by cases h;exact⟨#[],by simp[Lx],rfl⟩
 |i::is,_,h=>by
  cases h with
  |cons h1 h2=>
   obtain⟨t,rfl⟩:=h1;obtain⟨xs,e1,e2⟩:=QO h2;refine⟨((i,t)::xs.toList).toArray,?_,?_⟩
   .apply Ge.mp
    have e1':=congrArg Jv e1;simp[Lx]at e1' ⊢;exact e1'
   .simp[e2]
theorem aC(hc:X.calm=Aa):HW X (.builtin "min") (λxs H Q=>∃ a i is,xs=[.ref a]/\SqL X.K H a ((i::is).map V.int)/\Q (.int (IE i is)) H):=by
 intro pins s Z H xs us Q I r h;obtain⟨a,i,is,rfl,sq,q⟩:=h;obtain⟨u,rfl,ru⟩:=Jk r;cases ru;obtain⟨its,rv,pl,hz⟩:=I.list sq;obtain⟨ys,e1,e2⟩:=QO rv;have hsz:0<ys.size:=by
  have:=congrArg Fw e2;simp at this;omega
 have hl:=pl.isList;rw[e1]at hl;refine min_intList (I.ok.hd hc) hl hsz λv h' tk hv hk=>?_
 obtain⟨t,rfl⟩:=intItems_at hv;obtain⟨h1,h2⟩:=argBest_lt (Jb ys) (ys.size-1);have nm:∀ j,j<ys.size->Jb ys j∈i::is:=λj hj=>by
  rw[<-e2];unfold Jb;rw[BE hj];simp only[Il,Option.getD_some];exact Bi.mpr ⟨ys[j],by simp,rfl⟩
 have nx:∀ x∈i::is,∃ j,j<ys.size/\Jb ys j=x:=λx hx=>by
  rw[<-e2]at hx;obtain⟨y,hy,rfl⟩:=Bi.mp hx;obtain⟨j,hj,ej⟩:=Vi.mp (Et.mp hy);refine⟨j,hj,?_⟩;unfold Jb;rw[BE hj,ej];rfl
 obtain⟨m1,m2⟩:=Q7 is i;have em:Jb ys (argBest (λi j=>decide (Jb ys i<Jb ys j)) (ys.size-1))=IE i is:=by
  refine Int.le_antisymm ?_ (m2 _ (nm _ (by omega)))
  obtain⟨j,hj,ej⟩:=nx _ m1;rw[<-ej];exact h2 j (by omega)
 rw[em];exact⟨.int (IE i is),H,I.kept hk,⟨_,rfl⟩,q⟩
theorem NQ{K:Fg}{CL:ClA}{H:Hp}{A:Al->Prop}:∀{es:Ac D}{is:Ac Ag}{ys:Ac V},FI es=Ab is->Reps K CL H A ys es->ys=is.map V.int
 |[],_,[],h,_=>by cases h;rfl
 |[],_,_::_,_,r=>r.elim
 |_::_,_,[],_,r=>r.elim
 |e::es,is,y::ys,h,r=>by
  cases e with
  |int i=>
   have h':(FI es).map (i :: ·)=Ab is:=h;cases e2:FI es with
   |none=>rw[e2]at h';cases h'
   |some js=>
    rw[e2]at h';cases h';have ih:=NQ e2 r.2;have e1:y=.int i:=r.1;rw[ih,e1];rfl
  |_=>cases h
theorem Zp(ds:Ac D)(hl:∀ es,ds≠[.lst es]):(∃ i j,ds=[.int i,.int j])\/biD .min ds=.bad:=by
 rcases ds with _|⟨x,_|⟨y,_|⟨z,r⟩⟩⟩
 .exact .inr rfl
 .cases x with
  |lst es=>exact absurd rfl (hl es)
  |_=>exact .inr rfl
 .cases x with
  |int i=>
   cases y with
   |int j=>exact .inl ⟨i,j,rfl⟩
   |_=>exact .inr rfl
  |_=>exact .inr rfl
 .cases x with
  |int i=>cases y<;>exact .inr rfl
  |_=>exact .inr rfl
theorem mY(hc:X.calm=Aa):Kk X CL W (.builtin "min") (biD .min):=by
  intro A pins s Z H xs us Q I r ⟨hA,ds,rs,p⟩;by_cases hls:∃ es,ds=[.lst es]
  · obtain⟨es,rfl⟩:=hls;obtain⟨v,rfl,rv⟩:=rs.one;obtain⟨a,ys,rfl,sq,ry⟩:=rv.lst_of;have p':Bk (Rep X.K CL · A) W H (match FI es with
      |some (i::is)=>R.ok (.int (IE i is))
      | _=>.bad) Q:=p
    cases e1:FI es with
    |none=>rw[e1]at p';exact p'.elim
    |some is=>
      cases is with
      |nil=>rw[e1]at p';exact p'.elim
      |cons i is=>
        rw[e1]at p';have ey:=NQ e1 ry;subst ey;exact aC hc pins s Z H _ us Q I r ⟨a,i,is,rfl,sq,p' _ H (AO.refl H) rfl⟩
  rcases Zp ds (λes z=>hls ⟨es,z⟩) with ⟨i,j,rfl⟩|e
  · obtain⟨v,w',rfl,rv,rw'⟩:=rs.two;have e1:=rv.int_of;have e2:=rw'.int_of
    subst e1 e2;exact aD hc pins s Z H _ us Q I r ⟨i,j,rfl,p _ H (AO.refl H) rfl⟩
  · rw[e]at p;exact p.elim
theorem nB:Kk X CL W (.type "int") (biD .int):=by
  intro A pins s Z H xs us Q I r ⟨hA,ds,rs,p⟩
  match ds,rs,p with
  |[.int i],rs,p=>
    obtain⟨v,rfl,rv⟩:=rs.one;have e:=rv.int_of;subst e;exact Rm pins s Z H _ us Q I r (.inl ⟨i,rfl,p _ H (AO.refl H) rfl⟩)
  |[.bl i],rs,p=>
    obtain⟨v,rfl,rv⟩:=rs.one;have e:=rv.bl_of;subst e;exact Rm pins s Z H _ us Q I r (.inr ⟨i,rfl,p _ H (AO.refl H) rfl⟩)
  |[],_,p=>exact p.elim
  |[.non],_,p=>exact p.elim
  |[.str _],_,p=>exact p.elim
  |[.tup _],_,p=>exact p.elim
  |[.lst _],_,p=>exact p.elim
  |[.obj _ _],_,p=>exact p.elim
  |[.exc _ _],_,p=>exact p.elim
  |[.dic _],rs,p=>first|exact p.elim|(obtain⟨v,rfl,rv⟩:=rs.one;exact rv.plain.elim)
  |x::_::_,_,p=>cases x<;>exact p.elim
theorem aT:Kk X CL W (.type "tuple") (biD .tuple):=by
  intro A pins s Z H xs us Q I r ⟨hA,ds,rs,p⟩
  match ds,rs,p with
  |[.lst es],rs,p=>
    obtain⟨v,rfl,rv⟩:=rs.one;obtain⟨q,ys,rfl,sq,ry⟩:=rv.lst_of;exact Qk pins s Z H _ us Q I r ⟨q,ys,rfl,.inl ⟨sq,λl hl=>p _ _ (GJ hl _) (LZ hA hl ry)⟩⟩
  |[.tup es],rs,p=>
    obtain⟨v,rfl,rv⟩:=rs.one;obtain⟨q,ys,rfl,na,sq,ry⟩:=rv.tup_of;exact Qk pins s Z H _ us Q I r ⟨q,ys,rfl,.inr ⟨sq,p _ H (AO.refl H) ⟨q,ys,rfl,na,sq,ry⟩⟩⟩
  |[],_,p=>exact p.elim
  |[.non],_,p=>exact p.elim
  |[.bl _],_,p=>exact p.elim
  |[.int _],_,p=>exact p.elim
  |[.str _],_,p=>exact p.elim
  |[.obj _ _],_,p=>exact p.elim
  |[.exc _ _],_,p=>exact p.elim
  |[.dic _],rs,p=>first|exact p.elim|(obtain⟨v,rfl,rv⟩:=rs.one;exact rv.plain.elim)
  |x::_::_,_,p=>cases x<;>exact p.elim
end
section
variable{X:Cx}{CL:ClA}{W:XW}{a b c:Am}{fa fb fc:Rho->R D}{pos:A3}
theorem SB.congr{g:Rho->R Aj}(h:SB X CL W a f)(e:∀ U,g U=f U):SB X CL W a g:=λA=>PT.weak (h A) λZ H Q ⟨hA,U,q,p⟩=>⟨hA,U,q,by rw[<-e];exact p⟩
theorem jF(ha:SB X CL W a f):SB X CL W (.UnaryOp .Not a pos) (λU=>(f U).bind λb=>.ok (!b)):=λA=>PT.weak (lG (ha A)) λZ H Q ⟨hA,U,g,p⟩=>⟨hA,U,g,Dp.bindB p λb H1 _ s1 p1=>p1 H1 (AO.refl H1)⟩
def SW(X:Cx)(CL:ClA)(W:XW)(e:Am)(f:Rho->R Aj):Prop:=∀ A,PW X e (λZ H Q=>AOk H A/\∃ U,Good X.K CL A U Z H/\Dp W H (f U) Q)
theorem PW.weak{t t':TT}(h:PW X e t)(k:∀ Z H Q,t' Z H Q->t Z H Q):PW X e t':=λwh pins s Z H Q I q=>h wh pins s Z H Q I (k _ _ _ q)
theorem SW.sb(h:SW X CL W a f):SB X CL W a f:=λA=>PW.pt (h A)
theorem SW.congr{g:Rho->R Aj}(h:SW X CL W a f)(e:∀ U,g U=f U):SW X CL W a g:=λA=>PW.weak (h A) λZ H Q ⟨hA,U,q,p⟩=>⟨hA,U,q,by rw[<-e];exact p⟩
theorem bW(ha:SB X CL W a f):SW X CL W (.BoolOp .And [a] pos) f:=λA=>dJ (ha A)
theorem jO(ha:SB X CL W a f):SW X CL W (.BoolOp .Or [a] pos) f:=λA=>iP (ha A)
theorem jS{g:Rho->R Aj}{rest:Ac Am}(ha:SB X CL W a f)(hb:SW X CL W (.BoolOp .And (b::rest) pos) g):SW X CL W (.BoolOp .And (a::b::rest) pos) (λU=>(f U).bind λc=>if c=Aa then g U else .ok Af):=
 λA=>PW.weak (iQ (ha A) (hb A)) λZ H Q ⟨hA,U,gd,p⟩=>⟨hA,U,gd,Dp.bindB p λc H1 _ s1 p1=>by
  cases c with
  |true=>exact⟨hA.same s1,U,gd.same s1,p1⟩
  | false=>exact p1 H1 (AO.refl H1)⟩
theorem nS{g:Rho->R Aj}{rest:Ac Am}(ha:SB X CL W a f)(hb:SW X CL W (.BoolOp .Or (b::rest) pos) g):SW X CL W (.BoolOp .Or (a::b::rest) pos) (λU=>(f U).bind λc=>if c=Aa then .ok Aa else g U):=
 λA=>PW.weak (qZ (ha A) (hb A)) λZ H Q ⟨hA,U,gd,p⟩=>⟨hA,U,gd,Dp.bindB p λc H1 _ s1 p1=>by
  cases c with
  |false=>exact⟨hA.same s1,U,gd.same s1,p1⟩
  | true=>exact p1 H1 (AO.refl H1)⟩
theorem jG(ho:OpD X CL W (C0 op) g)(ha:ST X CL W a fa)(hb:ST X CL W b fb)(hm:He op b=Af):SB X CL W (.Compare a [op] [b] pos) (λU=>(fa U).bind λx=>(fb U).bind λy=>(g x y).bind EG):=
 λA=>PT.weak (dN (ho A) (ha A) (hb A) hm) λZ H Q ⟨hA,U,gd,p⟩=>⟨hA,U,gd,Dp.bind p λdx x H1 _ s1 r1 p1=>⟨hA.same s1,U,gd.same s1,Dp.bind p1 λdy y H2 _ s2 r2 p2=>
  ⟨(hA.same s1).same s2,dx,dy,r1.same s2,r2,Dp.bind p2 λdz z H3 _ s3 r3 p3=>by
   cases dz with
   |bl k=>exact⟨k,r3,p3 H3 (AO.refl H3)⟩
   | _=>exact p3.elim⟩⟩⟩
theorem Z_2{op':DX}(hu:X.A.units+64<B8)(ha:ST X CL W a fa)(hb:ST X CL W b fb)(hc:ST X CL W c fc)(hm:lastMarks [op,op'] [b,c]=Af):SB X CL W (.Compare a [op,op'] [b,c] pos) (λU=>(fa U).bind λx=>(fb U).bind λy=>(Cb op x y).bind λz=>(EG z).bind λk=>if k=Aa then (fc U).bind λu=>(Cb op' y u).bind EG else .ok Af):=
  λA=>PT.weak (ZH (MU hu op A) (MU hu op' A) (ha A) (hb A) (hc A) hm) λZ H Q ⟨hA,U,g,p⟩=>⟨hA,U,g,Dp.bind p λdx x H1 _ s1 r1 p1=>⟨hA.same s1,U,g.same s1,Dp.bind p1 λdy y H2 _ s2 r2 p2=>
    ⟨(hA.same s1).same s2,dx,dy,r1.same s2,r2,Dp.bind p2 λdz z H3 _ s3 r3 p3=>by
      cases dz with
      |bl k=>
        refine⟨k,r3,?_⟩;cases k with
        |false=>exact⟨Af,rfl,p3 H3 (AO.refl H3)⟩
        | true=>exact⟨((hA.same s1).same s2).same s3,U,((g.same s1).same s2).same s3,Dp.bind p3 λdu u H4 _ s4 r4 p5=>⟨(((hA.same s1).same s2).same s3).same s4,dy,du,(r2.same s3).same s4,r4,Dp.bind p5 λdv v H5 _ s5 r5 p6=>by
            cases dv with
            |bl k'=>exact⟨k',r5,p6 H5 (AO.refl H5)⟩
            | _=>exact p6.elim⟩⟩
      | _=>exact p3.elim⟩⟩⟩
theorem jE(ha:ST X CL W a fa)(he:∀ whole,IQ a X.env whole=(do let v <-whole;standAt a.pos;holding [v] (truthy v))):SB X CL W a (λU=>(fa U).bind Cj):=
 λA=>PT.weak (ZG (ha A) he) λZ H Q ⟨hA,U,g,p⟩=>⟨hA,U,g,Dp.bind p λd v H1 _ s1 r1 p1=>by
  cases d with
  |non=>
   have e:=r1.non_of;subst e;exact⟨Af,rfl,p1 H1 (AO.refl H1)⟩
  |bl b=>
   have e:=r1.bl_of;subst e;exact⟨b,rfl,p1 H1 (AO.refl H1)⟩
  |int i=>
   have e:=r1.int_of;subst e;exact⟨_,rfl,p1 H1 (AO.refl H1)⟩
  |str x=>
   have e:=r1.str_of;subst e;have p2:Dp W H1 (if BQ x.length=Aa then .ok (x.length != 0) else .bad) Q:=p1
   split at p2
   .rename_i h;refine⟨_,⟨Je h,rfl⟩,?_⟩;have e:((x.length:Ag) != 0)=(x.length != 0):=by
     rw[E0];simp
    rw[e];exact p2 H1 (AO.refl H1)
   .exact p2.elim
  |tup ds=>
   obtain⟨q,xs,rfl,_,sq,r⟩:=r1.tup_of;refine⟨_,.inr (.inl ⟨xs,sq,rfl⟩),?_⟩;have e:xs.isEmpty=ds.isEmpty:=by
    have:=r.length;cases xs<;>cases ds<;>first|rfl|cases this
   rw[e];exact p1 H1 (AO.refl H1)
  |lst ds=>
   obtain⟨q,xs,rfl,sq,r⟩:=r1.lst_of;refine⟨_,.inl ⟨xs,sq,rfl⟩,?_⟩;have e:xs.isEmpty=ds.isEmpty:=by
    have:=r.length;cases xs<;>cases ds<;>first|rfl|cases this
   rw[e];exact p1 H1 (AO.refl H1)
  | _=>exact p1.elim⟩
noncomputable def tR(K:Fg)(CL:ClA)(H:Hp)(A:Al->Prop)(cls:Ai)(dx:Ao Al)(x:Ex):Prop:=
 ∃ C,CL x.c=Ab C/\cls=.ref C/\(x.fs=[]\/∃ d vs,dx=Ab d/\¬ A d/\H d=Ab (.xd vs)/\Repf K CL H A vs x.fs)
def HV(K:Fg)(CL:ClA)(H:Hp)(cls:Ai)(dx:Ao Al)(x:Ex):Prop:=∀ A,AOk H A->tR K CL H A cls dx x
end
def CP(B:Al->Prop)(U:Rho)(Z:L2.St):Al->Prop:=λa=>B a\/∃(j:Ae)(d:D),U[j]?=Ab (Ab (d,Aa))/\Z[j]?=Ab (Ab (.ref a))
structure Sx (K:Fg) (CL:ClA) (Fz:Al->HO->Prop) (B:Al->Prop) (U:Rho) (Z:L2.St) (H:Hp):Prop where
 good:Good K CL (CP B U Z) U Z H
 aok:AOk H (CP B U Z)
 new:∀(j:Ae)(d:D)(a:Al),U[j]?=Ab (Ab (d,Aa))->Z[j]?=Ab (Ab (.ref a))->(∀ o,¬ Fz a o)/\¬ B a
 dis:∀(i j:Ae)(d e:D)(a:Al),U[i]?=Ab (Ab (d,Aa))->U[j]?=Ab (Ab (e,Aa))->Z[i]?=Ab (Ab (.ref a))->Z[j]?=Ab (Ab (.ref a))->i=j
 same:∀ b o,Fz b o->H b=Ab o
 len:U.length=Z.length
def CJ(K:Fg)(CL:ClA)(Fz:Al->HO->Prop)(B:Al->Prop)(W:XW)(o:O)(D:Ends):Prop:=match o with
  |.next U=>∀ Z H,Sx K CL Fz B U Z H->D.nx Z H
  |.brk U=>∀ Z H,Sx K CL Fz B U Z H->D.bk Z H
  |.cont U=>∀ Z H,Sx K CL Fz B U Z H->D.ct Z H
  |.ret d fr=>∀ v H,(∀ b o,Fz b o->H b=Ab o)->Rep K CL H B v d->(fr=Aa->∀ ds,d=.lst ds->∃ a xs,v=.ref a/\(∀ o,¬ Fz a o)/\H a=Ab (.lst xs)/\Reps K CL H (λb=>B b\/b=a) xs ds)->D.rt v H
  |.exn x _=>∀ H,(∀ b o,Fz b o->H b=Ab o)->W x H
  |.bad=>Bj
section
variable{K:Fg}{CL:ClA}{Fz Fy:Al->HO->Prop}{B:Al->Prop}{U:Rho}{Z:L2.St}{H H':Hp}
theorem Sx.mono(k:∀ b o,Fz b o->Fy b o)(x:Sx K CL Fy B U Z H):Sx K CL Fz B U Z H:=⟨x.good,x.aok,λj d a h1 h2=>⟨λo z=>(x.new j d a h1 h2).1 o (k _ _ z),(x.new j d a h1 h2).2⟩,x.dis,λb o z=>x.same b o (k _ _ z),x.len⟩
theorem Sx.grow(x:Sx K CL Fz B U Z H)(s:AO H H'):Sx K CL Fz B U Z H':=⟨x.good.same s,x.aok.same s,x.new,x.dis,λb o z=>s _ _ (x.same b o z),x.len⟩
theorem Dt{l:Ac α}{v:α}(h:i≠j):(l.set i v)[j]?=l[j]?:=by rw[Gy h]
theorem HP{l:Ac α}{v w':α}(h:(l.set i v)[i]?=Ab w'):w'=v:=by
 rw[FQ]at h;cases e:l[i]? with
 |none=>rw[e]at h;cases h
 |some x=>rw[e]at h;cases h;rfl
theorem Sx.set(x:Sx K CL Fz B U Z H){v:V}{d:D}(i:Ae)(r:Rep K CL H (CP B U Z) v d):Sx K CL Fz B (U.set i (Ab (d,Af))) (Z.set i (Ab v)) H:=by
 have own:∀(j:Ae)(e:D),(U.set i (Ab (d,Af)))[j]?=Ab (Ab (e,Aa))->i≠j/\U[j]?=Ab (Ab (e,Aa)):=λj e h=>by
  by_cases hj:i=j
  .subst hj;have:=HP h;cases this
  .exact⟨hj,by rw[Dt hj]at h;exact h⟩
 have sub:∀ a,CP B (U.set i (Ab (d,Af))) (Z.set i (Ab v)) a->CP B U Z a:=λa h=>by
  rcases h with h|⟨j,e,h1,h2⟩
  .exact .inl h
  .obtain⟨hj,h1⟩:=own j e h1;rw[Dt hj]at h2;exact .inr ⟨j,e,h1,h2⟩
 refine⟨⟨λj e h=>?_,λj e h=>?_,by rw[By,By];exact x.len⟩,λa h=>x.aok a (sub a h),λj e a h1 h2=>?_,λj k e f a h1 h2 h3 h4=>?_,x.same,by rw[By,By];exact x.len⟩
 .by_cases hj:i=j
  .subst hj;have e1:=HP h;cases e1;refine⟨v,?_,Rep.sub sub _ r⟩;have hl:i<Z.length:=by
    rw[<-x.len];have:=(AW.mp h).1;simpa using this
   rw[Dl hl]
  .rw[Dt hj]at h;obtain⟨w',q,rw'⟩:=x.good.sh j e h;exact⟨w',by rw[Dt hj];exact q,Rep.sub sub _ rw'⟩
 .obtain⟨hj,h1⟩:=own j e h;obtain⟨a,xs,ds,q,z,ha,hh,rr⟩:=x.good.ow j e h1;exact⟨a,xs,ds,by rw[Dt hj];exact q,z,.inr ⟨j,e,h,by rw[Dt hj];exact q⟩,hh,Reps.sub sub _ rr⟩
 .obtain⟨hj,h1⟩:=own j e h1;rw[Dt hj]at h2;exact x.new j e a h1 h2
 .obtain⟨hj,h1⟩:=own j e h1;obtain⟨hk,h2⟩:=own k f h2;rw[Dt hj]at h3;rw[Dt hk]at h4;exact x.dis j k e f a h1 h2 h3 h4
end
section
variable{X:Cx}{CL:ClA}{W:XW}{pos:A3}{e:Am}{fe:Rho->R D}
def SS(X:Cx)(CL:ClA)(W:XW)(st:Bm)(f:Rho->O):Prop:=∀ Fz B,PS X st (λD Z H=>∃ U,Sx X.K CL Fz B U Z H/\CJ X.K CL Fz B W (f U) D)
def SSs(X:Cx)(CL:ClA)(W:XW)(st:Ac Bm)(f:Rho->O):Prop:=∀ Fz B,PSs X st (λD Z H=>∃ U,Sx X.K CL Fz B U Z H/\CJ X.K CL Fz B W (f U) D)
theorem PS.weak{e:Bm}{t t':TS}(h:PS X e t)(k:∀ D Z H,t' D Z H->t D Z H):PS X e t':=λpins s Z H D I q=>h pins s Z H D I (k _ _ _ q)
theorem PSs.weak{e:Ac Bm}{t t':TS}(h:PSs X e t)(k:∀ D Z H,t' D Z H->t D Z H):PSs X e t':=λpins s Z H D I q=>h pins s Z H D I (k _ _ _ q)
theorem CJ.ex{f:D->O}(x:Sx X.K CL Fz B U Z H)(h:CJ X.K CL Fz B W (O.of U r f) D')(k:∀ d v H',r=.ok d->AO H H'->Rp H' v d->Sx X.K CL Fz B U Z H'->CJ X.K CL Fz B W (f d) D'->Q v H'):Bk Rp W H r Q:=by
 cases r with
 |ok d=>exact λv H' s r=>k d v H' rfl s r (x.grow s) h
 |exn y=>exact λH' s=>h H' λb o z=>s _ _ (x.same b o z)
 |bad=>exact h
theorem CJ.exB{r:R Aj}{f:Aj->O}{Q:Aj->Hp->Prop}(x:Sx X.K CL Fz B U Z H)(h:CJ X.K CL Fz B W (O.of U r f) D')(k:∀ b H',r=.ok b->AO H H'->Sx X.K CL Fz B U Z H'->CJ X.K CL Fz B W (f b) D'->Q b H'):Dp W H r Q:=by
 cases r with
 |ok d=>exact λH' s=>k d H' rfl s (x.grow s) h
 |exn y=>exact λH' s=>h H' λb o z=>s _ _ (x.same b o z)
 |bad=>exact h
theorem eH(he:SE X CL W e fe)(hs:EI e Ad pos.line X.env=pure Af):SS X CL W (.Expr e pos) (λU=>O.of U (fe U) λ_=>.next U):=λFz B pins s Z H D I ⟨U,x,p⟩=>
 MR (he (CP B U Z)) hs pins s Z H D I ⟨x.aok,U,x.good,CJ.ex x p λd v H' _ s r x' q=>q Z H' x'⟩
theorem eE(he:SE X CL W e fe):SS X CL W (.Return (Ab e) pos) (λU=>O.of U (fe U) λd=>.ret d Af):=λFz B pins s Z H D I ⟨U,x,p⟩=>
 Pb (he (CP B U Z)) pins s Z H D I ⟨x.aok,U,x.good,CJ.ex x p λd v H' _ s r x' q=>q v H' x'.same (Rep.sub (λa h=>.inl h) _ r) λz=>nomatch z⟩
theorem Ul{a b:Ac Bm}{fa fb:Rho->O}(hc:SB X CL W c fc)(ha:SSs X CL W a fa)(hb:SSs X CL W b fb):SS X CL W (.If c a b pos) (λU=>O.of U (fc U) λk=>if k=Aa then fa U else fb U):=λFz B pins s Z H D I ⟨U,x,p⟩=>
 rB (hc (CP B U Z)) (ha Fz B) (hb Fz B) pins s Z H D I ⟨x.aok,U,x.good,CJ.exB x p λk H' _ s x' q=>by
  cases k with
  |true=>exact⟨U,x',q⟩
  | false=>exact⟨U,x',q⟩⟩
theorem aK(g:Good K CL A U Z H):Good K CL (λ_=>Bj) (shA U) Z H:=by
 have nz:∀ a:Al,(λ_:Al=>Bj) a->A a:=λ_ z=>z.elim
 refine⟨λi d e=>?_,λi d e=>?_,by rw[shA,AH];exact g.len⟩
 .rw[shA,Bx]at e;cases q:U[i]? with
  |none=>rw[q]at e;cases e
  |some s=>
   rw[q]at e;have e':shS s=Ab (d,Af):=Bg e;cases s with
   |none=>cases e'
   |some z=>
    obtain⟨x,b⟩:=z;cases b with
    |false=>
     cases e';obtain⟨v,h1,h2⟩:=g.sh i _ q;exact⟨v,h1,Rep.sub nz _ h2⟩
    |true=>
     cases x with
     |lst ds=>
      cases e';obtain⟨a,xs,ds',h1,h2,na,h3,h4⟩:=g.ow i _ q;cases h2;exact⟨.ref a,h1,a,xs,rfl,.inl λz=>z,.inl (.inl h3),Reps.sub nz _ h4⟩
     |_=>cases e'
 .rw[shA,Bx]at e;cases q:U[i]? with
  |none=>rw[q]at e;cases e
  |some s=>
   rw[q]at e;have e':shS s=Ab (d,Aa):=Bg e;cases s with
   |none=>cases e'
   |some z=>
    obtain⟨x,b⟩:=z;cases b with
    |false=>cases e'
    |true=>cases x<;>cases e'
theorem eT(hc:SB X CL W c fc):SB X CL W c (λU=>fc (shA U)):=λA=>PT.weak (hc λ_=>Bj) λZ H Q ⟨hA,U,g,p⟩=>⟨λ_ z=>z.elim,shA U,aK g,p⟩
theorem eB:SSs X CL W [] (λU=>.next U):=λFz B=>PSs.weak dO λD Z H ⟨U,x,p⟩=>p Z H x
theorem ZY{st:Bm}{rest:Ac Bm}{f g:Rho->O}(h1:SS X CL W st f)(h2:SSs X CL W rest g):SSs X CL W (st::rest) (λU=>(f U).seq g):=λFz B=>PSs.weak (ZI (h1 Fz B) (h2 Fz B)) λD Z H ⟨U,x,p⟩=>⟨U,x,by
 dsimp only at p;cases e:f U with
 |next U'=>rw[e]at p;exact λZ' H' x'=>⟨U',x',p⟩
 |ret d b=>rw[e]at p;exact p
 |brk U'=>rw[e]at p;exact p
 |cont U'=>rw[e]at p;exact p
 |exn y U'=>rw[e]at p;exact p
 | bad=>rw[e]at p;exact p⟩
end
def IC(K:Fg)(CL:ClA)(A:Al->Prop)(ds:Ac D)(J:It)(H1:Hp):Prop:=∀ H,Kp A H1 H->∀ i:Ae,(ds.length<=i->J.stop i H)/\∀ d,ds[i]?=Ab d->J.go i H/\∀ x H',J.yld i H x H'->AO H H'/\∀ B,(∀ a,B a->A a\/H1 a=Ad)->AOk H B->Rep K CL H' B x d
def ED(K:Fg)(CL:ClA)(A:Al->Prop)(W:XW)(H:Hp)(r:R (Ac D))(Q:It->Hp->Prop):Prop:=match r with
  |.ok ds=>∀ J H',AO H H'->IC K CL A ds J H'->ds.length<=sizeLine->Q J H'
  |.exn x=>∀ H',AO H H'->W x H'
  |.bad=>Bj
def SI(X:Cx)(CL:ClA)(W:XW)(tg iter:Am)(f:Rho->R (Ac D)):Prop:=∀ A,PI X tg iter (λZ H R=>AOk H A/\∃ U,Good X.K CL A U Z H/\ED X.K CL A W H (f U) R)
theorem PI.weak{t t':TI}(h:PI X tg e t)(k:∀ Z H Q,t' Z H Q->t Z H Q):PI X tg e t':=λpins s Z H Q I q=>h pins s Z H Q I (k _ _ _ q)
section
variable{X:Cx}{CL:ClA}{W:XW}{pos p:A3}{tg e a b:Am}{fe fa fb:Rho->R D}
theorem ED.ex{f:D->R (Ac D)}{Q:It->Hp->Prop}{Q':VK}(h:ED X.K CL A W H (r.bind f) Q)(k:∀ d v H',r=.ok d->AO H H'->Rp H' v d->ED X.K CL A W H' (f d) Q->Q' v H'):Bk Rp W H r Q':=by
  cases r with
  | ok d=>exact λv H' s q=>k d v H' rfl s q (by
      have h':ED X.K CL A W H (f d) Q:=h;cases e:f d with
      |ok ds=>rw[e]at h';exact λJ H2 s2 y z=>h' J H2 (s.trans s2) y z
      |exn y=>rw[e]at h';exact λH2 s2=>h' H2 (s.trans s2)
      | bad=>rw[e]at h';exact h')
  |exn y=>exact h
  |bad=>exact h
theorem LF{x:V}(r:Rep K CL H1 A x d)(k:Kp A H1 H)(hB:∀ a,B a->A a\/H1 a=Ad):Rep K CL H B x d:=by
 have r1:Rep K CL H1 (λa=>A a\/B a) x d:=Rep.wide (λa ha=>ha.elim .inl (hB a)) _ r
 have r2:Rep K CL H (λa=>A a\/B a) x d:=Rep.kp (λb o e na=>k b o e λz=>na (.inl z)) _ r1
 exact Rep.sub (λa ha=>.inr ha) _ r2
theorem Y_1{ds:Ac D}(na:¬ A q\/KL K q xs)(s:SqL K H q xs)(r:Reps K CL H A xs ds):IC K CL A ds (Itl K q) H:=λH' k i=>by
 have s':=M4 k na s;refine⟨λh=>⟨xs,s',by rw[r.length];exact h⟩,λd hd=>?_⟩
 obtain⟨v,hv,rv⟩:=r.get hd;exact⟨⟨xs,v,s',hv⟩,λx H2 ⟨e,y⟩=>by
  subst e;have:=y xs s';rw[hv]at this;cases this;exact⟨AO.refl _,λB hB _=>LF rv k hB⟩⟩
theorem ZP{ds:Ac D}(na:¬ A q\/KT K q xs)(s:SqT K H q xs)(r:Reps K CL H A xs ds):IC K CL A ds (Itt K q) H:=λH' k i=>by
 have s':=M3 k na s;refine⟨λh=>⟨xs,s',by rw[r.length];exact h⟩,λd hd=>?_⟩
 obtain⟨v,hv,rv⟩:=r.get hd;exact⟨⟨xs,v,s',hv⟩,λx H2 ⟨e,y⟩=>by
  subst e;have:=y xs s';rw[hv]at this;cases this;exact⟨AO.refl _,λB hB _=>LF rv k hB⟩⟩
theorem RZ(lo:Ag)(n:Ae):IC K CL A (EU lo n) (Itr lo n) H:=λH' k i=>by
 refine⟨λh=>by rw[NZ]at h;exact h,λd hd=>?_⟩
 obtain⟨h1,rfl⟩:=aM hd;exact⟨h1,λx H2 ⟨e,y⟩=>by
  subst e y;exact⟨AO.refl _,λ_ _ _=>rfl⟩⟩
theorem lN{l:Am}{tl:TE}(hl:PE X l tl):PI X tg l (λZ H R=>tl Z H λx H1=>(∃ a,x=.ref a/\(∃ xs,SqL X.K H1 a xs/\(xs.length<=sizeLine->R (Itl X.K a) H1)))\/∃ a,x=.ref a/\(∃ xs,SqT X.K H1 a xs/\(xs.length<=sizeLine->R (Itt X.K a) H1))):=by
 intro pins s Z H R I h;refine thn (hl pins s Z H _ I h) λv s1 ⟨x,H1,I1,r1,q1⟩=>?_
 rcases q1 with ⟨a,e,xs,hq,q⟩|⟨a,e,xs,hq,q⟩
 .subst e;cases r1;obtain⟨its,rv,p,hz⟩:=I1.list hq;refine F0 p.isList ?_;refine⟨s1.heap.objs.size,[s1.heap.objs.size],_,_,H1,rfl,I1.kept (t':=s1.toks) λb o e=>Aq _ e,YW a _,⟨_,AD _ rfl,rfl,rfl⟩,λb hb=>?_,q hz⟩
  have e:b=s1.heap.objs.size:=by simpa using hb
  subst e;exact I1.fpOk (Aw _) (I1.hok.fresh (Aw _))
 .subst e;cases r1;obtain⟨its,rv,p,hz⟩:=I1.tuple hq;refine Yj (show s1.heap.IsTuple a its.toArray from p) ?_
  refine⟨s1.heap.objs.size,[s1.heap.objs.size],_,_,H1,rfl,I1.kept (t':=s1.toks) λb o e=>Aq _ e,Y_2 a _,⟨_,AD _ rfl,rfl,rfl⟩,λb hb=>?_,q hz⟩
  have e:b=s1.heap.objs.size:=by simpa using hb
  subst e;exact I1.fpOk (Aw _) (I1.hok.fresh (Aw _))
theorem sT(he:SE X CL W e fe):SI X CL W tg e (λU=>(fe U).bind EC):=λA=>PI.weak (lN (he A)) λZ H R ⟨hA,U,g,p⟩=>⟨hA,U,g,ED.ex p λd v H1 _ s1 r1 p1=>by
 cases d with
 |lst ds=>
  obtain⟨q,xs,rfl,na,sq,r⟩:=r1;exact .inl ⟨q,rfl,xs,sq,λhz=>p1 _ H1 (AO.refl H1) (Y_1 na sq r) (by rw[<-r.length];exact hz)⟩
 |tup ds=>
  obtain⟨q,xs,rfl,na,sq,r⟩:=r1;exact .inr ⟨q,rfl,xs,sq,λhz=>p1 _ H1 (AO.refl H1) (ZP na sq r) (by rw[<-r.length];exact hz)⟩
 | _=>exact p1.elim⟩
theorem QE{ds:Ac D}(h:DM lo hi=.ok ds):(-(2 ^ 62)<=lo/\lo<2 ^ 62)/\(-(2 ^ 62)<=hi/\hi<2 ^ 62)/\ds=EU lo (hi-lo).toNat/\(EU lo (hi-lo).toNat).length<=sizeLine:=by
 unfold DM at h;split at h
 .rename_i q;cases h;exact⟨by omega,by omega,rfl,by rw[NZ,Bz];omega⟩
 .cases h
theorem Qr{x:Ex}(h:DM lo hi=.exn x):Bj:=by
 unfold DM at h;split at h<;>cases h
theorem iS(ha:ST X CL W a fa)(hg:Gl X "range")(hm:X.mg "range" = Ad)(hs:AI [a] X.env=[(Af,eval a X.env)]):SI X CL W tg (.Call (.Name "range" p) [a] [] pos) (λU=>(fa U).bind λx=>(DK x).bind λj=>DM 0 j):=
 λA=>PI.weak (ZC hg hm (FB (ha A) G1 hs) hs) λZ H R ⟨hA,U,g,q⟩=>⟨hA,U,g,ED.ex q λd v H1 _ s1 r1 p1=>by
  cases d with
  |int j=>
   have e:=r1.int_of;subst e;have p2:ED X.K CL A W H1 (DM 0 j) R:=p1;cases e2:DM 0 j with
   |ok ds=>
    rw[e2]at p2;obtain⟨_,h2,rfl,hz⟩:=QE e2;exact⟨j,rfl,h2.1,h2.2,p2 _ H1 (AO.refl H1) (by rw[Vv];exact RZ 0 j.toNat) hz⟩
   |exn y=>exact(Qr e2).elim
   |bad=>rw[e2]at p2;exact p2.elim
  | _=>exact p1.elim⟩
theorem eN(ha:ST X CL W a fa)(hb:ST X CL W b fb)(hg:Gl X "range")(hm:X.mg "range" = Ad)(hs:AI [a,b] X.env=[(Af,eval a X.env),(Af,eval b X.env)])(hs2:AI [b] X.env=[(Af,eval b X.env)]):
  SI X CL W tg (.Call (.Name "range" p) [a,b] [] pos) (λU=>(fa U).bind λx=>(fb U).bind λy=>(DK x).bind λi=>(DK y).bind λj=>DM i j):=
 λA=>PI.weak (ZB hg hm (FB (ha A) (FB (hb A) G1 hs2) (by rw[hs,hs2])) hs hs2) λZ H R ⟨hA,U,g,q⟩=>⟨hA,U,g,ED.ex q λd v H1 _ s1 r1 p1=>⟨hA.same s1,U,g.same s1,ED.ex p1 λd2 v2 H2 _ s2 r2 p2=>by
  cases d with
  |int i=>
   cases d2 with
   |int j=>
    have e:=r1.int_of;have e':=r2.int_of
    subst e e';have p3:ED X.K CL A W H2 (DM i j) R:=p2;cases e2:DM i j with
    |ok ds=>
     rw[e2]at p3;obtain⟨h1,h2,rfl,hz⟩:=QE e2;exact⟨i,j,rfl,⟨h1.1,h1.2,h2.1,h2.2⟩,p3 _ H2 (AO.refl H2) (RZ _ _) hz⟩
    |exn y=>exact(Qr e2).elim
    |bad=>rw[e2]at p3;exact p3.elim
   |_=>exact p2.elim
  | _=>exact p2.elim⟩⟩
theorem CJ.exI{r:R (Ac D)}{f:Ac D->O}{Q:It->Hp->Prop}(x:Sx X.K CL Fz B U Z H)(h:CJ X.K CL Fz B W (O.of U r f) D')(k:∀ ds J H',r=.ok ds->AO H H'->IC X.K CL A ds J H'->ds.length<=sizeLine->Sx X.K CL Fz B U Z H'->CJ X.K CL Fz B W (f ds) D'->Q J H'):ED X.K CL A W H r Q:=by
 cases r with
 |ok d=>exact λJ H' s y z=>k d J H' rfl s y z (x.grow s) h
 |exn y=>exact λH' s=>h H' λb o z=>s _ _ (x.same b o z)
 |bad=>exact h
theorem CJ.turn{Fy:Al->HO->Prop}{o:O}{g:Rho->O}{N:L2.St->Hp->Prop}(hf:∀ b q,Fz b q->Fy b q)(h:CJ K CL Fz B W (o.turn g) D')(k:∀ U' Z' H',Sx K CL Fy B U' Z' H'->CJ K CL Fz B W (g U') D'->N Z' H'):CJ K CL Fy B W o {D' with nx:=N,ct:=N,bk:=D'.nx}:=by
 cases o with
 |next U'=>exact λZ' H' x=>k U' Z' H' x h
 |cont U'=>exact λZ' H' x=>k U' Z' H' x h
 |brk U'=>exact λZ' H' x=>h Z' H' (x.mono hf)
 |ret d b=>exact λv H' s r n=>h v H' (λb o z=>s b o (hf b o z)) r λz ds e=>let ⟨a,xs,h1,h2,h3⟩:=n z ds e;⟨a,xs,h1,λo q=>h2 o (hf a o q),h3⟩
 |exn y U'=>exact λH' s=>h H' (λb o z=>s b o (hf b o z))
 |bad=>exact h
noncomputable def GM(ts:Ac Ae)(U:Rho):Rho:=ts.foldl (λU t=>U.set t Ad) U
def GT(K:Fg)(CL:ClA)(as:D->Rho->R Rho)(g:TG):Prop:=∀ Fz B U Z H v d U' Q,Sx K CL Fz B U Z H->Rep K CL H (CP B U Z) v d->as d U=.ok U'->(∀ Z',Sx K CL Fz B U' Z' H->Q Z' H)->g v Z H Q
theorem fN(i:Ae):GT K CL (λd U=>.ok (U.set i (Ab (d,Af)))) (Hm i):=λFz B U Z H v d U' Q x r e k=>by
 cases e;exact k _ (x.set i r)
theorem T8{K:Fg}{Fz:Al->HO->Prop}{B:Al->Prop}{H:Hp}:∀(ts:Ac Ae)(ds:Ac D)(vs:Ac V)(U U':Rho)(Z:L2.St)(Q:L2.St->Hp->Prop),Sx K CL Fz B U Z H->Reps K CL H (CP B U Z) vs ds->Hk ts ds U=Ab U'->(∀ Z',Sx K CL Fz B U' Z' H->Q Z' H)->(ts.foldr (λt u=>Ma (Hm t) u) Mp) vs Z H Q
 |[],[],[],U,U',Z,Q,x,_,e,k=>by
  cases e;exact⟨rfl,k Z x⟩
 |t::ts,d::ds,v::vs,U,U',Z,Q,x,r,e,k=>by
  refine⟨v,vs,rfl,T8 ts ds vs _ U' _ Q (x.set t r.1) (Reps.sub (λa ha=>?_) ds r.2) e k⟩
  rcases ha with ha|⟨j,c,h1,h2⟩
  .exact .inl ha
  .by_cases hj:t=j
   .subst hj;have:=HP h1;cases this
   .rw[Dt hj]at h1 h2;exact .inr ⟨j,c,h1,h2⟩
 |[],_::_,_,_,_,_,_,_,_,e,_=>by cases e
 |_::_,[],_,_,_,_,_,_,_,e,_=>by cases e
 |[],[],_::_,_,_,_,_,_,r,_,_=>r.elim
 |_::_,_::_,[],_,_,_,_,_,r,_,_=>r.elim
theorem Qq:∀(ts:Ac Ae)(ds:Ac D)(U U':Rho),Hk ts ds U=Ab U'->ds.length=ts.length
 |[],[],_,_,_=>rfl
 |_::ts,_::ds,_,_,e=>congrArg (· + 1) (Qq ts ds _ _ e)
 |[],_::_,_,_,e=>by cases e
 |_::_,[],_,_,e=>by cases e
theorem kM(ts:Ac Ae):GT K CL (Gm ts) (P7 K ts.length (ts.foldr (λt u=>Ma (Hm t) u) Mp)):=λFz B U Z H v d U' Q x r e k=>by
 cases d with
 |tup ds=>
  obtain⟨a,xs,rfl,na,sq,rs⟩:=r;rw[YQ]at e;cases e2:Hk ts ds U with
  |none=>rw[e2]at e;cases e
  |some U2=>
   rw[e2]at e;cases e;exact⟨a,xs,rfl,sq,by rw[rs.length];exact Qq _ _ _ _ e2,T8 ts ds xs U _ Z Q x rs e2 k⟩
 |_=>cases e
theorem Tj{body:Ac Bm}{fbd:Rho->O}{g:TG}(hp:Gv (model X.prog X.w) X.A X.env X.xe)(hc:X.calm=Aa)(hGT:GT X.K CL as g)(hg:PG X tg g)(hit:SI X CL W tg iter fi)(hb:SSs X CL W body fbd)(hs:∀ x,Dh iter X.env x=pure x)(hax:∀ d U x,as d U≠.exn x):SS X CL W (.For tg iter body [] pos) (λU=>O.of U (fi U) λxs=>Dk (λx U'=>O.of U' (as x U') fbd) xs U):=λFz B pins s Z H D I ⟨U,x,p⟩=>by
 refine lI hp hc (hit (CP B U Z)) hg (tb:=λD Z H=>∃ Fy,(λD Z H=>∃ U,Sx X.K CL Fy B U Z H/\CJ X.K CL Fy B W (fbd U) D) D Z H) (λpins s Z H D I ⟨Fy,q⟩=>hb Fy B pins s Z H D I q) hs pins s Z H D I ⟨x.aok,U,x.good,CJ.exI x p λds J H1 _ s1 y _ x1 q=>?_⟩
 let Fy:Al->HO->Prop:=λb o=>H1 b=Ab o/\¬ ∃(j:Ae)(d:Ov.D),U[j]?=Ab (Ab (d,Aa))/\Z[j]?=Ab (Ab (.ref b))
 have hfy:∀ b o,Fz b o->Fy b o:=λb o z=>⟨x1.same b o z,λ⟨j,d,h1,h2⟩=>(x1.new j d b h1 h2).1 o z⟩
 have xy:Sx X.K CL Fy B U Z H1:=⟨x1.good,x1.aok,λj d a h1 h2=>⟨λo z=>z.2 ⟨j,d,h1,h2⟩,(x1.new j d a h1 h2).2⟩,x1.dis,λb o z=>z.1,x1.len⟩
 refine⟨λk m Z' H'=>m=ds.length-k/\k<=ds.length/\∃ U',Sx X.K CL Fy B U' Z' H'/\CJ X.K CL Fz B W (Dk (λx U'=>O.of U' (as x U') fbd) (ds.drop k) U') D,⟨ds.length,by simp,BD _,U,xy,q⟩,?_⟩
 rintro k m Z' H' ⟨rfl,hk,U',x',q'⟩;have kp:Kp (CP B U Z) H1 H':=λb o e na=>x'.same b o ⟨e,λz=>na (.inr z)⟩
 obtain⟨yst,ygo⟩:=y H' kp k;by_cases hlt:k<ds.length
 .have hd:ds[k]?=Ab ds[k]:=AA hlt;obtain⟨hgo,hyl⟩:=ygo _ hd;refine .inr ⟨hgo,λZ'' H''=>∃ U'',Sx X.K CL Fy B U'' Z'' H''/\CJ X.K CL Fz B W (Dk (λx U'=>O.of U' (as x U') fbd) (ds.drop (k+1)) U'') D,λZ'' H'' z=>⟨ds.length-(k+1),by omega,rfl,hlt,z⟩,λv H2 hv=>?_⟩
  obtain⟨e2,rv⟩:=hyl v H2 hv;rw[Dz hlt]at q';have q2:CJ X.K CL Fz B W ((O.of U' (as ds[k] U') fbd).turn (Dk (λx U'=>O.of U' (as x U') fbd) (ds.drop (k+1)))) D:=q'
  have rv':Rep X.K CL H2 (CP B U' Z') v ds[k]:=rv _ (λa ha=>by
    rcases ha with ha|⟨j,d,h1,h2⟩
    .exact .inl (.inl ha)
    .cases e:H1 a with
     |none=>exact .inr rfl
     |some o=>
      by_cases ho:∃(j:Ae)(d:Ov.D),U[j]?=Ab (Ab (d,Aa))/\Z[j]?=Ab (Ab (.ref a))
      .exact .inl (.inr ho)
      .exact absurd ⟨e,ho⟩ ((x'.new j d a h1 h2).1 o)) x'.aok
  cases ea:as ds[k] U' with
  |bad=>rw[ea]at q2;exact q2.elim
  |exn z=>exact absurd ea (hax _ _ z)
  |ok U2=>
   rw[ea,O.of_ok]at q2;exact hGT Fy B U' Z' H2 v ds[k] U2 _ (x'.grow e2) rv' ea λZ3 x3=>⟨Fy,U2,x3,CJ.turn hfy q2 λU3 Z3 H3 x3 q3=>⟨U3,x3,q3⟩⟩
 .have hk':ds.length<=k:=by omega
  rw[VC hk']at q';exact .inl ⟨yst hk',q' Z' H' (x'.mono hfy)⟩
end
section
variable{X:Cx}{CL:ClA}{W:XW}{a b c:Am}{fa fb fc:Rho->R D}{pos:A3}
noncomputable def tyK:Ki->Ao CO
 |.int=>Ab "int"
 |.bool=>Ab "bool"
 |.str=>Ab "str"
 |.list=>Ab "list"
 |.tuple=>Ab "tuple"
 |_=>Ad
noncomputable def Pd:D->Aj
 |.obj _ _=>Af
 |.exc _ _=>Af
 |.dic _=>Af
 |_=>Aa
theorem kK{k:Ki}{Q:Vq}{E:Vq}(I:Inv X pins Z H s)(r:C3 X.K CL H A v d)(q:BP v u)(hT:tyK k=Ab T)(hd:Pd d=Aa)(h:∀ s',Inv X pins Z H s'->Q (.bool (kiD up k d)) s'):
  Az (model X.prog X.w) X.A (call (.builtin "isinstance") [u,.type T]) Q E s:=by
 have r':=r.plain;have it:=λt=>h _ (I.tok t)
 cases d with
 |obj=>cases hd
 |exc=>cases hd
 |dic=>cases hd
 |non=>
  cases r';cases q;cases k<;>simp only[tyK]at hT<;>cases hT
  .exact IsiPair.NoneType_int (it _)
  .exact IsiPair.NoneType_bool (it _)
  .exact IsiPair.NoneType_str (it _)
  .exact IsiPair.NoneType_list (it _)
  .exact IsiPair.NoneType_tuple (it _)
 |bl b=>
  cases r';cases q;cases k<;>simp only[tyK]at hT<;>cases hT
  .exact IsiPair.bool_int (h _ I)
  .exact IsiPair.bool_bool (h _ I)
  .exact IsiPair.bool_str (it _)
  .exact IsiPair.bool_list (it _)
  .exact IsiPair.bool_tuple (it _)
 |int i=>
  cases r';obtain⟨t,rfl⟩:=q;cases k<;>simp only[tyK]at hT<;>cases hT
  .exact IsiPair.int_int (h _ I)
  .exact IsiPair.int_bool (it _)
  .exact IsiPair.int_str (it _)
  .exact IsiPair.int_list (it _)
  .exact IsiPair.int_tuple (it _)
 |str x=>
  cases r';obtain⟨t,rfl⟩:=q;cases k<;>simp only[tyK]at hT<;>cases hT
  .exact IsiPair.str_int (it _)
  .exact IsiPair.str_bool (it _)
  .exact IsiPair.str_str (h _ I)
  .exact IsiPair.str_list (it _)
  .exact IsiPair.str_tuple (it _)
 |tup ds=>
  obtain⟨p,xs,rfl,_,sq,rr⟩:=r';obtain⟨its,rv,pt,_⟩:=I.tuple sq;cases q;have pt':s.heap.IsTuple p its.toArray:=pt;cases k<;>simp only[tyK]at hT<;>cases hT
  .exact IsiPair.isTuple_int pt' (λ_ _ e=>e) (it _)
  .exact IsiPair.isTuple_bool pt' (λ_ _ e=>e) (it _)
  .exact IsiPair.isTuple_str pt' (λ_ _ e=>e) (it _)
  .exact IsiPair.isTuple_list pt' (λ_ _ e=>e) (it _)
  .exact IsiPair.isTuple_tuple pt' (λ_ _ e=>e) (h _ I)
 |lst ds=>
  obtain⟨p,xs,rfl,_,sq,rr⟩:=r';obtain⟨its,rv,pl,_⟩:=I.list sq;cases q;have pt':s.heap.IsList p its.toArray:=K5 pl;cases k<;>simp only[tyK]at hT<;>cases hT
  .exact IsiPair.isList_int pt' (λ_ _ e=>e) (it _)
  .exact IsiPair.isList_bool pt' (λ_ _ e=>e) (it _)
  .exact IsiPair.isList_str pt' (λ_ _ e=>e) (it _)
  .exact IsiPair.isList_list pt' (λ_ _ e=>e) (h _ I)
  .exact IsiPair.isList_tuple pt' (λ_ _ e=>e) (it _)
theorem Zs{k:Ki}(hT:tyK k=Ab T)(p:Bk Rp W H (H9 up [k] d) Q):Pd d=Aa/\Bk Rp W H (.ok (.bl (kiD up k d))) Q:=by
 cases k<;>simp only[tyK]at hT<;>cases hT<;>cases d<;>first|exact p.elim|exact⟨rfl,by simpa using p⟩
theorem iZ{k:Ki}{p2:A3}(hT:tyK k=Ab T)(hg:Gl X "isinstance")(hm:X.mg "isinstance" = Ad)(hg2:Gl X x)(hm2:X.mg x=Ad)(hv:CZ x=Ab (.type T))(hn:x≠"__name__")(hdb:(x==("__debug__" : Ak))=Af)(ha:ST X CL W a fa)(he:AI [a,.Name x p2] X.env=(Af,eval a X.env)::AI [.Name x p2] X.env):SE X CL W (.Call (.Name "isinstance" p) [a,.Name x p2] [] pos) (λU=>(fa U).bind λx=>H9 up [k] x):=λA=>
 PE.weak (OE (r:=λxs H Q=>∃ y d,xs=[y,.ty T]/\C3 X.K CL H A y d/\Pd d=Aa/\Q (.bl (kiD up k d)) H) (λpins s Z H xs us Q I r ⟨y,d,e,ry,hd,q⟩=>by
   subst e;obtain⟨u,w',rfl,r1,r2⟩:=Uf r;cases r2;exact kK I ry r1 hT hd λs' I'=>⟨.bl _,H,I',rfl,q⟩)
  hg hm boot_isinstance (FB (ha A) (FB (cM (v:=.ty T) hg2 hm2 hv rfl hn hdb) G1 rfl) he) (by decide) (by decide) he rfl) λZ H Q ⟨hA,U,g,q⟩=>⟨hA,U,g,Bk.bind q λd v H1 _ s1 r1 p1=>by
   obtain⟨hd,p2⟩:=Zs hT p1;exact⟨v,d,rfl,r1,hd,p2 _ H1 (AO.refl H1) rfl⟩⟩
theorem cH{b:Aj}{A':AU}{E:Vq}{Q:Aj->Ap->Prop}(r:Rep X.K CL H A v d)(q:BP v u)(h:Gq d=.ok b)(hq:Q b s):Az (model prog w) A' (truthy u) Q E s:=by
 cases d with
 |non=>
  cases r;cases q;cases h;exact truthy_none hq
 |bl k=>
  cases r;cases q;cases h;exact Di hq
 |int i=>
  cases r;obtain⟨t,rfl⟩:=q;cases h;exact truthy_int hq
 |_=>cases h
theorem Qw:∀{ds:Ac D}{b:Aj},Fp ds=.ok b->(∀ j,j<ds.length->∃ c,Gq (ds.getD j .non)=.ok c)/\b=(AB ds.length).all λj=>match Gq (ds.getD j .non) with
  |.ok c=>c
  |_=>Af
 |[],b,h=>by cases h;exact⟨λj hj=>absurd hj (Nat.not_lt_zero _),rfl⟩
 |d::ds,b,h=>by
  rw[QS]at h;cases e:Gq d with
  |bad=>rw[e]at h;cases h
  |exn x=>rw[e]at h;cases h
  |ok c=>
   rw[e,R.bind_ok]at h;cases e2:Fp ds with
   |bad=>rw[e2]at h;cases h
   |exn x=>rw[e2]at h;cases h
   |ok c2=>
    rw[e2,R.bind_ok]at h;cases h;obtain⟨h1,h2⟩:=Qw e2;refine⟨λj hj=>?_,?_⟩
    .cases j with
     |zero=>exact⟨c,e⟩
     |succ j=>exact h1 j (by simpa using hj)
    .rw[A7,Qm,h2];show (c&&_)=((match Gq d with | .ok c=>c|_=>Af)&&_)
     rw[e];rfl
theorem iB{ds:Ac D}{its:Ac Ai}(r:Reps X.K CL H A0 xs ds)(rv:A6 xs its){v:Ai}(h:its.toArray[j]?=Ab v):j<ds.length/\∃ x,Rep X.K CL H A0 x (ds.getD j .non)/\BP x v:=by
 have h':its[j]?=Ab v:=by simpa using h
 obtain⟨hj,e⟩:=AW.mp h';obtain⟨x,rx,q⟩:=Kc r rv hj;have l1:=rv.length;have l2:=r.length
 exact⟨by omega,x,rx,by rw[<-e];exact q⟩
theorem qQ(k:∀ b q,b∉[h.objs.size]->(h.push o).get? b=Ab q->h'.get? b=Ab q):∀ b q,h.get? b=Ab q->h'.get? b=Ab q:=λb q e=>k b q (by
 intro z;have:=A5.mp z;rw[this]at e;exact absurd (AJ e) (Bb _)) (Aq _ e)
theorem nC(hc:X.calm=Aa):Kk X CL W (.builtin "all") (biD .all):=by
  intro A pins s Z H xs us Q I r ⟨hA,ds,rs,p⟩
  match ds,rs,p with
  |[.lst es],rs,p=>
    obtain⟨v,rfl,rv⟩:=rs.one;obtain⟨q,ys,e,_,sq,ry⟩:=rv.plain;subst e;obtain⟨u,rfl,ru⟩:=Jk r;cases ru;rw[rP]at p;cases e1:Fp es with
    |bad=>rw[e1]at p;exact p.elim
    |exn x=>
      exfalso
      have:∀(es:Ac D) x,Fp es≠.exn x:=by
        intro es
        induction es with
        |nil=>intro x h;cases h
        |cons d ds ih=>
          intro x h;rw[QS]at h;cases e:Gq d with
          |bad=>rw[e]at h;cases h
          |exn y=>cases d<;>cases e
          |ok c=>
            rw[e,R.bind_ok]at h;cases e2:Fp ds with
            |bad=>rw[e2]at h;cases h
            |exn y=>exact ih y e2
            |ok c2=>rw[e2]at h;cases h
      exact this es x e1
    |ok b=>
      rw[e1,R.bind_ok]at p;obtain⟨h1,h2⟩:=Qw e1;obtain⟨its,rvv,pl,_⟩:=I.list sq;have hlt:q<s.heap.objs.size:=by obtain⟨o,n,e,_⟩:=pl;exact AJ e
      have hl:its.toArray.size=es.length:=by rw[AN,<-rvv.length,ry.length]
      refine call_all_walk (F0 (K5 pl) ⟨s.heap.objs.size,_,_,_,_,_,(λj=>match Gq (es.getD j .non) with | .ok c=>c|_=>Af),rfl,XU (A:=X.A.in1) (I.ok.hd hc) s.heap.objs.size q (AV hlt) its.toArray,⟨⟨_,AD _ rfl,rfl,rfl⟩,(K5 pl).push _⟩,λj v s' Q' E' hv hQ=>?_,λh' tk k=>?_⟩)
      · obtain⟨hj,x,rx,qx⟩:=iB ry rvv hv;obtain⟨c,ec⟩:=h1 j hj;exact cH rx qx ec (by dsimp only at hQ;rw[ec]at hQ;exact hQ)
      · rw[hl,<-h2];exact⟨.bl b,H,I.kept (qQ k),rfl,p _ H (AO.refl H) rfl⟩
  |[],_,p=>exact p.elim
  |[.non],_,p=>exact p.elim
  |[.bl _],_,p=>exact p.elim
  |[.int _],_,p=>exact p.elim
  |[.str _],_,p=>exact p.elim
  |[.tup _],_,p=>exact p.elim
  |[.obj _ _],_,p=>exact p.elim
  |[.exc _ _],_,p=>exact p.elim
  |[.dic _],_,p=>exact p.elim
  |x::_::_,_,p=>cases x<;>exact p.elim
end
section
variable(K:Fg)(CL:ClA)
def rT(H0:Hp)(A:Al->Prop)(H:Hp)(v:V)(d:D):Prop:=∀ ds,d=.lst ds->∃ a xs,v=.ref a/\H0 a=Ad/\H a=Ab (.lst xs)/\Reps K CL H (λb=>A b\/b=a) xs ds
def E6(fr:Aj)(H0:Hp)(A:Al->Prop)(H:Hp)(v:V)(d:D):Prop:=Rep K CL H A v d/\(fr=Aa->rT K CL H0 A H v d)
end
section
variable{X:Cx}{CL:ClA}{W:XW}{a b c:Am}{fa fb fc:Rho->R D}{pos:A3}
def SC(X:Cx)(CL:ClA)(W:XW)(fr:Aj)(e:Am)(f:Rho->R D):Prop:=∀ A,PE X e (λZ H Q=>AOk H A/\∃ U,Good X.K CL A U Z H/\Bk (E6 X.K CL fr H A) W H (f U) Q)
theorem SC.se{fr:Aj}(h:SC X CL W fr a fa):SE X CL W a fa:=λA=>PE.weak (h A) λZ H Q ⟨hA,U,g,p⟩=>⟨hA,U,g,by
 cases e:fa U with
 |ok d=>rw[e]at p;exact λv H' s r=>p v H' s r.1
 |exn x=>rw[e]at p;exact p
 | bad=>rw[e]at p;exact p⟩
theorem SE.sc(h:SE X CL W a fa):SC X CL W Af a fa:=λA=>PE.weak (h A) λZ H Q ⟨hA,U,g,p⟩=>⟨hA,U,g,by
 cases e:fa U with
 |ok d=>rw[e]at p;exact λv H' s r=>p v H' s ⟨r,λz=>nomatch z⟩
 |exn x=>rw[e]at p;exact p
 | bad=>rw[e]at p;exact p⟩
theorem SC.congr{fr:Aj}{f g:Rho->R D}(h:SC X CL W fr a f)(e:∀ U,g U=f U):SC X CL W fr a g:=λA=>PE.weak (h A) λZ H Q ⟨hA,U,q,p⟩=>⟨hA,U,q,by rw[<-e];exact p⟩
theorem KN{p:Al}{ds:Ac D}(s:AO H0 H)(hA:AOk H A)(hp:H p=Ad)(r:Reps K CL H A xs ds):E6 K CL Aa H0 A (upd H p (.lst xs)) (.ref p) (.lst ds):=
 ⟨OR hA hp r,λ_ ds' e=>by
  cases e;exact⟨p,xs,rfl,s.free hp,Jc,(Reps.wide (λa ha=>ha.imp id λe=>by rw[e];exact hp) _ r).same (GJ hp _)⟩⟩
theorem dB{fr:Aj}(r:Rep K CL H A v d)(h:∀ ds,d≠.lst ds):E6 K CL fr H0 A H v d:=⟨r,λ_ ds e=>absurd e (h ds)⟩
theorem kC(hs:SA X CL W es fs)(hz:∀ U ds,fs U=.ok ds->ds.length<=100000):SC X CL W Aa (.List es pos) (λU=>(fs U).bind λxs=>.ok (.lst xs)):=
 λA=>PE.weak (lZ (hs A)) λZ H Q ⟨hA,U,g,p⟩=>⟨hA,U,g,Ho.bind p λds vs H1 e s1 r1 p1=>⟨by
  rw[r1.length,Bz];have:=hz U ds e;omega,λq hq=>p1 _ _ (GJ hq _) (KN s1 (hA.same s1) hq r1)⟩⟩
theorem Bk.bindF{fr:Aj}{f:D->R D}{Q':VK}(h:Bk (E6 K CL fr H A) W H (r.bind f) Q)(k:∀ d v H',r=.ok d->AO H H'->Rp H' v d->Bk (E6 K CL fr H A) W H' (f d) Q->Q' v H'):Bk Rp W H r Q':=by
 cases r with
 |ok d=>exact λv H2 s2 q=>k d v H2 rfl s2 q (Bk.same s2 h)
 |exn x=>exact h
 |bad=>exact h
theorem Ho.bindF{Rp:Hp->Ac V->Ac D->Prop}{r:R (Ac D)}{f:Ac D->R D}{Q':Ac V->Hp->Prop}(h:Bk Rq W H (r.bind f) Q)(k:∀ d v H',r=.ok d->AO H H'->Rp H' v d->Bk Rq W H' (f d) Q->Q' v H'):Ho Rp W H r Q':=by
 cases r with
 |ok d=>exact λv H2 s2 q=>k d v H2 rfl s2 q (Bk.same s2 h)
 |exn x=>exact h
 |bad=>exact h
theorem Mf.bindF{r:R (Ao Ag)}{f:Ao Ag->R D}(h:Bk Rq W H (r.bind f) Q)(k:∀ o H',r=.ok o->AO H H'->Bk Rq W H' (f o) Q->Q' o H'):Mf W H r Q':=by
 cases r with
 |ok d=>exact λH2 s2=>k d H2 rfl s2 (Bk.same s2 h)
 |exn x=>exact h
 |bad=>exact h
noncomputable def OpN(X:Cx)(CL:ClA)(W:XW)(f:Ai->Ai->DJ Ai)(g:D->D->R D):Prop:=
 ∀ A H0,OpR X f (λx y H Q=>AO H0 H/\AOk H A/\∃ dx dy,C3 X.K CL H A x dx/\C3 X.K CL H A y dy/\Bk (E6 X.K CL Aa H0 A) W H (g dx dy) Q)
theorem cN:OpN X CL W (Ch .Add) (Dr .Add):=by
 intro A H0 pins s Z H x y v u Q I rx ry ⟨s0,hA,dx,dy,hx,hy,p⟩;have key:(∀ ds,dx≠.lst ds)->EP X pins Z Q=EP X pins Z Q->Az (model X.prog X.w) X.A (Ch .Add v u) (EP X pins Z Q) X.xe s:=λhd _=>by
  refine S5 (W:=W) A pins s Z H x y v u Q I rx ry ⟨hA,dx,dy,hx,hy,?_⟩;cases e:Dr .Add dx dy with
  |bad=>rw[e]at p;exact p
  |exn x=>rw[e]at p;exact p
  |ok d=>
   rw[e]at p;refine λv' H' s' r'=>p v' H' s' (dB r' λds z=>?_)
   subst z;cases dx with
   |lst ds=>exact hd _ rfl
   |tup xs=>
    cases dy with
    |tup ys=>rw[Tv]at e;split at e<;>cases e
    |_=>cases e
   |str xs=>
    cases dy with
    |str ys=>rw[Pl]at e;split at e<;>cases e
    |_=>cases e
   |int i=>cases dy<;>cases e
   |_=>cases e
 cases dx with
 |lst ds=>
  cases dy with
  |lst es=>
   obtain⟨a,xs,rfl,s1,r1⟩:=hx.lst_of;obtain⟨b,ys,rfl,s2,r2⟩:=hy.lst_of;simp only[Tw]at p;split at p
   .rename_i h;refine S6 pins s Z H _ _ v u Q I rx ry ⟨a,b,xs,ys,rfl,rfl,s1,s2,by rw[r1.length,r2.length];exact Je h,λq hq=>?_⟩
    exact p _ _ (GJ hq _) (KN s0 hA hq (r1.append r2))
   .exact p.elim
  |_=>exact p.elim
 |_=>exact key (by intro _ z;cases z) rfl
theorem kF(ha:ST X CL W a fa)(hb:ST X CL W b fb):SC X CL W Aa (.BinOp a .Add b pos) (λU=>(fa U).bind λx=>(fb U).bind λy=>Dr .Add x y):=
 λA pins s Z H Q I h=>by
  obtain⟨hA,U,g,p⟩:=h;exact Ux (cN (W:=W) A H) (ha A) (hb A) pins s Z H Q I ⟨hA,U,g,Bk.bindF p λdx x H1 _ s1 r1 p1=>⟨hA.same s1,U,g.same s1,Bk.bind (Rq:=E6 X.K CL Aa H A) p1 λdy y H2 _ s2 r2 p2=>⟨s1.trans s2,(hA.same s1).same s2,dx,dy,r1.same s2,r2,p2⟩⟩⟩
def Na(X:Cx)(CL:ClA)(W:XW)(f:Ai)(g:Ac D->R D):Prop:=∀ A H0,HW X f (λxs H Q=>AO H0 H/\AOk H A/\∃ ds,Gn X.K CL H A xs ds/\Bk (E6 X.K CL Aa H0 A) W H (g ds) Q)
theorem gR:Na X CL W (.type "list") (biD .list):=by
  intro A H0 pins s Z H xs us Q I r ⟨s0,hA,ds,rs,p⟩
  match ds,rs,p with
  |[.lst es],rs,p=>
    obtain⟨v,rfl,rv⟩:=rs.one;obtain⟨q,ys,rfl,sq,ry⟩:=rv.lst_of;exact Qh pins s Z H _ us Q I r ⟨q,ys,rfl,.inl sq,λl hl=>p _ _ (GJ hl _) (KN s0 hA hl ry)⟩
  |[.tup es],rs,p=>
    obtain⟨v,rfl,rv⟩:=rs.one;obtain⟨q,ys,rfl,_,sq,ry⟩:=rv.tup_of;exact Qh pins s Z H _ us Q I r ⟨q,ys,rfl,.inr sq,λl hl=>p _ _ (GJ hl _) (KN s0 hA hl ry)⟩
  |[],_,p=>exact p.elim
  |[.non],_,p=>exact p.elim
  |[.bl _],_,p=>exact p.elim
  |[.int _],_,p=>exact p.elim
  |[.str _],_,p=>exact p.elim
  |[.obj _ _],_,p=>exact p.elim
  |[.exc _ _],_,p=>exact p.elim
  |[.dic _],_,p=>exact p.elim
  |x::_::_,_,p=>cases x<;>exact p.elim
theorem kD{g:Ac D->R D}(hc:Na X CL W (.type T) g)(hg:Gl X x)(hm:X.mg x=Ad)(hv:CZ x=Ab (.type T))(ha:SAT X CL W (e::es) fs)(hn:x≠"__name__")(hdb:(x==("__debug__" : Ak))=Af)(he:AI (e::es) X.env=(Af,eval e X.env)::AI es X.env)(hpl:∀ pos,(Cz pos (AI es X.env)).any (·.1)=Af):SC X CL W Aa (.Call (.Name x p) (e::es) [] pos) (λU=>(fs U).bind g):=λA pins s Z H Q I ⟨hA,U,gd,q⟩=>
 QH (hc A H) hg hm hv (ha A) hn hdb he (hpl _) pins s Z H Q I ⟨hA,U,gd,Ho.bindF q λds vs H1 _ s1 r1 p1=>⟨s1,hA.same s1,ds,r1,p1⟩⟩
theorem kE{g:Ac D->R D}(hc:Na X CL W (.builtin id) g)(hg:Gl X x)(hm:X.mg x=Ad)(hv:CZ x=Ab (.builtin id))(ha:SAT X CL W (e::es) fs)(hn:x≠"__name__")(hdb:(x==("__debug__" : Ak))=Af)(he:AI (e::es) X.env=(Af,eval e X.env)::AI es X.env)(hpl:∀ pos,(Cz pos (AI es X.env)).any (·.1)=Af):SC X CL W Aa (.Call (.Name x p) (e::es) [] pos) (λU=>(fs U).bind g):=λA pins s Z H Q I ⟨hA,U,gd,q⟩=>
 OE (hc A H) hg hm hv (ha A) hn hdb he (hpl _) pins s Z H Q I ⟨hA,U,gd,Ho.bindF q λds vs H1 _ s1 r1 p1=>⟨s1,hA.same s1,ds,r1,p1⟩⟩
mutual
theorem Us{K:Fg}{H:Hp}{A:Al->Prop}(hA:AOk H A):∀(n:Ae)(d:D){v:V},nlD n d=Aa->Rep K CL H A0 v d->Rep K CL H A v d
 |_,.non,_,_,h=>h
 |_,.bl _,_,_,h=>h
 |_,.int _,_,_,h=>h
 |_,.str _,_,_,h=>h
 |0,.tup _,_,hn,_=>by cases hn
 |n+1,.tup ds,_,hn,h=>by
  obtain⟨a,xs,e,_,s,r⟩:=h;refine⟨a,xs,e,?_,s,nls_up hA n ds hn r⟩;rcases s with s|s
  .refine .inl λz=>?_
   obtain⟨ys,q⟩:=hA a z;rcases s with s|⟨o,s⟩<;>rw[q]at s<;>cases s
  .exact .inr s
 |n,.lst _,_,hn,_=>by cases n<;>cases hn
 |n,.obj _ _,_,hn,_=>by cases n<;>cases hn
 |n,.exc _ _,_,hn,_=>by cases n<;>cases hn
 |n,.dic _,_,hn,_=>by cases n<;>cases hn
theorem nls_up{K:Fg}{H:Hp}{A:Al->Prop}(hA:AOk H A):∀(n:Ae)(ds:Ac D){vs:Ac V},ds.all (nlD n)=Aa->Reps K CL H A0 vs ds->Reps K CL H A vs ds
 |_,[],[],_,h=>h
 |n,d::ds,_::_,hn,h=>by
  simp only[EW,An]at hn;exact⟨Us hA n d hn.1 h.1,nls_up hA n ds hn.2 h.2⟩
 |_,[],_::_,_,h=>h.elim
 |_,_::_,[],_,h=>h.elim
end
theorem mL{fr:Aj}(hA0:AOk H0 A)(s:AO H0 H)(hc:Hs fr d=Aa)(r:E6 K CL fr H0 A0 H v d):E6 K CL fr H0 A H v d:=by
 have hA:=hA0.same s;cases d with
 |lst ds=>
  have hc':(fr&&ds.all (nlD 5))=Aa:=hc;rw[An]at hc';obtain⟨a,xs,e,h0,h1,rs⟩:=r.2 hc'.1 ds rfl;have hA2:AOk H (λb=>A b\/b=a):=λb hb=>hb.elim (hA b) λe=>by rw[e];exact⟨xs,h1⟩
  have rs':=nls_up hA2 5 ds hc'.2 (Reps.sub (λ_ z=>z.elim) _ rs)
  refine⟨⟨a,xs,e,.inl (hA0.new h0),SqL.of h1,Reps.sub (λ_ z=>.inl z) _ rs'⟩,λ_ ds' e'=>?_⟩
  cases e';exact⟨a,xs,e,h0,h1,rs'⟩
 |_=>exact⟨Us hA 5 _ hc r.1,λ_ _ z=>nomatch z⟩
def spD(K:Fg)(CL:ClA)(n:Ae)(fr:Aj)(F:Ac D->R D):Sp:=λvs H Q E=>∃(ds:Ac D)(A:Al->Prop),vs.length=n/\AOk H A/\Reps K CL H A vs ds/\(match F ds with
  |.ok d=>∀ v H',AO H H'->E6 K CL fr H A H' v d->Q v H'
  |.exn x=>∀ cls dx H',AO H H'->HV K CL H' cls dx x->E cls dx H'
  | .bad=>Bj)
def EKW(K:Fg)(CL:ClA)(A:Al->Prop)(W:XW):XK:=λcls dx H'=>∃ x,HV K CL H' cls dx x/\W x H'
theorem Gn.plain{K:Fg}{H:Hp}{A:Al->Prop}:∀{vs:Ac V}{ds:Ac D},Gn K CL H A vs ds->Reps K CL H A0 vs ds
 |[],[],h=>trivial
 |_::_,_::_,h=>⟨h.1.plain,Gn.plain h.2⟩
 |[],_::_,h=>h.elim
 |_::_,[],h=>h.elim
theorem eS{CX:CXT}{fr:Aj}{f:Al}{fd:Cn}{ps:Ac Ak}{F:Ac D->R D}{ft:Rho->R (Ac D)}{sh:Rho->Aj}(G:FnOk X.prog X.w X.K X.mg X.base CX k f fd ps (spD X.K CL n fr F))(hr:Room k X.A)(hg:Gl X x)(hm:X.mg x=Ab (.ref f))(hk:C9 X.K (.ref f)=Aa)(hb:Iz X.K fd ps [])(hx:∀ A,K7 CX X (EKW X.K CL A W))(ha:SA X CL W (e::es) fs)(hat:SAT X CL W (e::es) ft)(hst:∀ U,sh U=Aa->ft U=fs U)(hn:∀ U ds,ft U=.ok ds->ds.length=n)(hdb:(x==("__debug__" : Ak))=Af)(he:AI (e::es) X.env=(Af,eval e X.env)::AI es X.env)(hpl:∀ pos,(Cz pos (AI es X.env)).any (·.1)=Af):SC X CL W fr (.Call (.Name x p) (e::es) [] pos) (λU=>(ft U).bind λds=>(F ds).bind λd=>if sh U=Aa then .ok d else if Hs fr d=Aa then .ok d else .bad):=λA pins s Z H Q I ⟨hA,U,gd,q⟩=>by
 dsimp only at q;by_cases hs:sh U=Aa
 .rw[hst U hs]at q;refine SY G hr hg hm hk hb .nil (hx A) (ha A) hdb he (hpl _) pins s Z H Q I ⟨hA,U,gd,?_⟩;cases e1:fs U with
  |bad=>rw[e1]at q;exact q
  |exn y=>rw[e1]at q;exact q
  |ok ds=>
   rw[e1]at q;intro vs H1 s1 r1;refine⟨ds,A,by rw[Bw,r1.length];exact hn U ds (by rw[hst U hs];exact e1),hA.same s1,by rw[Bw];exact r1,?_⟩
   have q':Bk (E6 X.K CL fr H A) W H ((F ds).bind λd=>if sh U=Aa then .ok d else if Hs fr d=Aa then .ok d else .bad) Q:=q
   cases e2:F ds with
   |ok d=>
    rw[e2,R.bind_ok,Ar hs]at q';exact λv H2 s2 r2=>q' v H2 (s1.trans s2) ⟨r2.1,λz ds' e'=>let ⟨a,xs,z1,z2,z3⟩:=r2.2 z ds' e';⟨a,xs,z1,s1.free z2,z3⟩⟩
   |exn y=>rw[e2]at q';exact λcls dx H2 s2 xr=>⟨y,xr,q' H2 (s1.trans s2)⟩
   |bad=>rw[e2]at q';exact q'.elim
 .refine SY G hr hg hm hk hb .nil (hx A0) (hat A) hdb he (hpl _) pins s Z H Q I ⟨hA,U,gd,?_⟩;cases e1:ft U with
  |bad=>rw[e1]at q;exact q
  |exn y=>rw[e1]at q;exact q
  |ok ds=>
   rw[e1]at q;intro vs H1 s1 r1;refine⟨ds,A0,by rw[Bw,r1.plain.length];exact hn U ds e1,λ_ z=>z.elim,by rw[Bw];exact r1.plain,?_⟩
   have q':Bk (E6 X.K CL fr H A) W H ((F ds).bind λd=>if sh U=Aa then .ok d else if Hs fr d=Aa then .ok d else .bad) Q:=q
   cases e2:F ds with
   |ok d=>
    rw[e2,R.bind_ok,As hs]at q';split at q'
    .rename_i hc;exact λv H2 s2 r2=>q' v H2 (s1.trans s2) (mL hA (s1.trans s2) hc ⟨r2.1,λz ds' e'=>let ⟨a,xs,z1,z2,z3⟩:=r2.2 z ds' e';⟨a,xs,z1,s1.free z2,z3⟩⟩)
    .exact q'.elim
   |exn y=>rw[e2]at q';exact λcls dx H2 s2 xr=>⟨y,xr,q' H2 (s1.trans s2)⟩
   |bad=>rw[e2]at q';exact q'.elim
end
theorem NU(env:CY):∀(ns:Ac (Ak×EO))(acc:Ac (Ak×Al)),(∀ x∈ns,x.2=.free->∃ c,env.cells.lookup x.1=Ab c)->(∀ x c,acc.lookup x=Ab c->env.cells.lookup x=Ab c) ->
  ∃ cl,(forIn ns acc fun(x:Ak×EO)(cs:Ac (Ak×Al))=>(if (x.2==.free)=Aa then do let c <-cellOf env x.1;pure (E2 ((x.1,c)::cs)) else pure (E2 cs):DJ (ForInStep (Ac (Ak×Al)))))=pure cl /\
   (∀ x c,cl.lookup x=Ab c->env.cells.lookup x=Ab c)/\(∀ x,((x,Em)∈ns\/∃ c,acc.lookup x=Ab c)->∃ c,cl.lookup x=Ab c)
 |[],acc,_,h2=>⟨acc,by rw[GV],h2,λx hx=>hx.elim (λz=>nomatch z) id⟩
 |(n,k)::r,acc,h1,h2=>by
  rw[Ii];by_cases hk:k=.free
  .subst hk;obtain⟨c,hc⟩:=h1 (n,.free) AL rfl;obtain⟨cl,e,p,q⟩:=NU env r ((n,c)::acc) (λx hx=>h1 x (AF _ hx)) (λx d hd=>by
    rw[Cm]at hd;split at hd
    .rename_i hx;cases hd;rw[eq_of_beq hx];exact hc
    .exact h2 x d hd)
   refine⟨cl,?_,p,λx hx=>q x ?_⟩
   .have e1:cellOf env n=pure c:=by unfold cellOf;dsimp only at hc;rw[hc]
    rw[Ar (by rfl),e1]
    exact e
   .rcases hx with hx|⟨d,hd⟩
    .rcases AK.mp hx with z|z
     .cases z;exact .inr ⟨c,by simp[Cm]⟩
     .exact .inl z
    .by_cases hxn:x=n
     .exact .inr ⟨c,by subst hxn;simp[Cm]⟩
     .exact .inr ⟨d,by rw[Cm];rw[ER.mpr hxn];exact hd⟩
  .obtain⟨cl,e,p,q⟩:=NU env r acc (λx hx=>h1 x (AF _ hx)) h2
   refine⟨cl,?_,p,λx hx=>q x ?_⟩
   .rw[As (by simpa using hk)]
    exact e
   .rcases hx with hx|hx
    .rcases AK.mp hx with z|z
     .cases z;exact absurd rfl hk
     .exact .inl z
    .exact .inr hx
theorem QQ(h:∀ x∈scope.names,x.2=.free->∃ c,env.cells.lookup x.1=Ab c):∃ cl,closureFor scope env=pure cl/\(∀ x c,cl.lookup x=Ab c->env.cells.lookup x=Ab c)/\∀ x,(x,Em)∈scope.names->∃ c,cl.lookup x=Ab c:=by
 obtain⟨cl,e,p,q⟩:=NU env scope.names [] h (λx c z=>by simp at z)
 refine⟨cl,?_,p,λx hx=>q x (.inl hx)⟩
 unfold closureFor
 first
  |exact e
  |(simp only[bind_pure];exact e)
  |(rw[show (forIn scope.names ([]:Ac (Ak×Al)) _:DJ _)=pure cl from e];rfl)
theorem Ob:∀(names:Ac (Ak×EO))(h:AM)(acc:Ac (Ak×Al))(x:Ak)(c:Al),(Dy h.objs.size names acc).lookup x=Ab c->acc.lookup x=Ab c\/((x,BZ)∈names/\h.objs.size<=c/\(G9 h names).IsCell c Ad)
 |[],_,_,_,_,e=>.inl e
 |(n,k)::r,h,acc,x,c,e=>by
  unfold Dy at e;unfold G9;by_cases hk:(k==BZ)=Aa
  .rw[Ar hk]at e ⊢;have hs:h.objs.size+1=(h.push { cls:=.type "cell",data:=.cell Ad }).objs.size:=(Ba ..).symm;rw[hs]at e;rcases Ob r _ _ x c e with q|⟨q1,q2,q3⟩
   .rw[Cm]at q;cases hx:x==n with
    |true=>
     rw[hx]at q;cases q;refine .inr ⟨?_,Aw _,?_⟩
     .rw[eq_of_beq hx,eq_of_beq hk];exact AL
     .exact⟨_,Ir r _ _ _ (AD _ rfl),rfl⟩
    |false=>rw[hx]at q;exact .inl q
   .exact .inr ⟨AF _ q1,by omega,q3⟩
  .rw[As hk]at e ⊢;rcases Ob r h acc x c e with q|⟨q1,q2,q3⟩
   .exact .inl q
   .exact .inr ⟨AF _ q1,q2,q3⟩
theorem Oc:∀(names:Ac (Ak×EO))(h:AM)(acc:Ac (Ak×Al)),(∀ x y c,acc.lookup x=Ab c->acc.lookup y=Ab c->x=y)->(∀ x c,acc.lookup x=Ab c->c<h.objs.size)->∀ x y c,(Dy h.objs.size names acc).lookup x=Ab c->(Dy h.objs.size names acc).lookup y=Ab c->x=y
 |[],_,_,i,_,x,y,c,e1,e2=>i x y c e1 e2
 |(n,k)::r,h,acc,i,b,x,y,c,e1,e2=>by
  unfold Dy at e1 e2;by_cases hk:(k==BZ)=Aa
  .rw[Ar hk]at e1 e2;have hs:h.objs.size+1=(h.push { cls:=.type "cell",data:=.cell Ad }).objs.size:=(Ba ..).symm;rw[hs]at e1 e2;have look:∀ z d,VR z ((n,h.objs.size)::acc)=Ab d->(z=n/\d=h.objs.size)\/(z≠n/\acc.lookup z=Ab d):=λz d q=>by
    rw[Cm]at q;cases hx:z==n with
    |true=>rw[hx]at q;cases q;exact .inl ⟨eq_of_beq hx,rfl⟩
    |false=>rw[hx]at q;exact .inr ⟨λe=>by rw[e]at hx;simp at hx,q⟩
   refine Oc r _ _ (λz z' d q q'=>?_) (λz d q=>?_) x y c e1 e2
   .rcases look z d q with ⟨rfl,q1⟩|⟨_,q1⟩<;>rcases look z' d q' with ⟨rfl,q2⟩|⟨_,q2⟩
    .rfl
    .exact absurd (b _ _ q2) (by rw[q1];exact Bb _)
    .exact absurd (b _ _ q1) (by rw[q2];exact Bb _)
    .exact i _ _ _ q1 q2
   .rw[<-hs];rcases look z d q with ⟨_,q1⟩|⟨_,q1⟩
    .rw[q1];exact Fl _
    .exact Bs (b _ _ q1)
  .rw[As hk]at e1 e2;exact Oc r h acc i b x y c e1 e2
theorem NW:∀(names:Ac (Ak×EO))(n:Ae)(acc:Ac (Ak×Al))(x:Ak),(x,BZ)∉names->(Dy n names acc).lookup x=acc.lookup x
 |[],_,_,_,_=>rfl
 |(m,k)::r,n,acc,x,hx=>by
  unfold Dy;have hr:(x,BZ)∉r:=λz=>hx (AF _ z)
  by_cases hk:(k==BZ)=Aa
  .rw[Ar hk,NW r _ _ x hr,Cm];cases q:x==m with
   |true=>exact absurd (by rw[eq_of_beq q,eq_of_beq hk];exact AL) hx
   |false=>rfl
  .rw[As hk];exact NW r n acc x hr
theorem Od(n0:Ae):∀(names:Ac (Ak×EO))(n:Ae)(acc:Ac (Ak×Al))(x:Ak),n0<=n->((x,BZ)∈names\/∃ c,acc.lookup x=Ab c/\n0<=c)->∃ c,(Dy n names acc).lookup x=Ab c/\n0<=c
 |[],_,_,_,_,h=>h.elim (λz=>nomatch z) id
 |(m,k)::r,n,acc,x,hn,h=>by
  unfold Dy;by_cases hk:(k==BZ)=Aa
  .rw[Ar hk];refine Od n0 r _ _ x (by omega) ?_
   by_cases hx:(x==m)=Aa
   .exact .inr ⟨n,by rw[Cm,hx],hn⟩
   .rcases h with h|⟨c,h,hc⟩
    .rcases AK.mp h with z|z
     .cases z;simp at hx
     .exact .inl z
    .exact .inr ⟨c,by rw[Cm];simp only[hx];exact h,hc⟩
  .rw[As hk];refine Od n0 r _ _ x hn (h.imp (λh=>?_) id)
   rcases AK.mp h with z|z
   .cases z;simp at hk
   .exact z
theorem Ys{M:Fn}{A:AU}{E:Vq}{globals:Al}{qual:Ak}{Q:CY->Ap->Prop}(hQ:Q (newEnv scope s.heap.objs.size globals (Dy (s.heap.objs.size+1) scope.names cl) qual Ad .none (Ab env) IZ) { s with heap:=G9 (s.heap.push { cls:=.type "dict",data:=.dict #[] }) scope.names }):Az M A (IR scope globals cl [] qual Ad .none (Ab env)) Q E s:=by
 simp only[IR,Option.isSome_some,if_true];refine Ah (wpAny_alloc ?_);refine Ah (wpAny_layCells _ (λname kind cells=>by cases hkc:kind==BZ<;>simp[hkc]) _ _ _ _ ?_)
 rw[show ({ s with heap:=s.heap.push { cls:=.type "dict",data:=.dict #[] } }:Ap).heap.objs.size=s.heap.objs.size+1 from Ba ..]
 rw[GV];exact Ah (At (At hQ))
noncomputable def cxC(X:Cx)(scope:Ce)(cl:Ac (Ak×Al))(C:Al)(N':Ac Ak)(s₀:Ap)(H₀:Hp)(fp:Ac Al):Cx where
 prog:=X.prog
 w:=X.w
 K:=X.K
 mg:=X.mg
 base:=X.base
 A:=X.A
 N:=N'
 s₀:=s₀
 H₀:=H₀
 env:=compEnvC scope cl C X.env
 outer:=X.stack
 stack:=X.stack
 ex:=fp
 fn:=λx=>scope.names.lookup x==Ab BZ
 calm:=X.calm
 pn:=[]
 xe:=λ_ _=>Bj
theorem Mx{env:CY}:∀{names:Ac (Ak×EO)}{x:Ak}{k:EO},(names.map λ(n,k)=>if (k==Em&&env.scope.kind==.function&&env.kindOf n==Ab .cell) then (n,BZ) else (n,k)).lookup x=Ab k->names.lookup x=Ab k\/(k=.cell/\names.lookup x=Ab .free)
 |[],_,_,h=>by simp at h
 |(n,j)::r,x,k,h=>by
  have ih:=@Mx env r x k;have h':VR x ((if (j==Em&&env.scope.kind==.function&&env.kindOf n==Ab .cell)=Aa then (n,BZ) else (n,j))::(r.map λ(n,k)=>if (k==Em&&env.scope.kind==.function&&env.kindOf n==Ab .cell) then (n,BZ) else (n,k)))=Ab k:=h
  by_cases hc:(j==Em&&env.scope.kind==.function&&env.kindOf n==Ab .cell)=Aa
  .rw[Ar hc]at h';rw[Cm]at h' ⊢;cases hx:x==n with
   |true=>
    rw[hx]at h';cases h';simp only[An]at hc;exact .inr ⟨rfl,by rw[eq_of_beq hc.1.1]⟩
   |false=>rw[hx]at h';exact ih h'
  .rw[As hc]at h';rw[Cm]at h' ⊢;cases hx:x==n with
   |true=>rw[hx]at h';exact .inl h'
   |false=>rw[hx]at h';exact ih h'
structure BlockOk (X:Cx) (scope:Ce) (N':Ac Ak) (ts:Ac Ae):Prop where
 kind:scope.kind=.function
 uniq:∀ y∈scope.names,scope.names.lookup y.1=Ab y.2
 names:∀ y∈scope.names,y.2=.local->scope.names.lookup y.1=Ab .local
 free:∀ y∈scope.names,y.2=.free->X.env.scope.names.lookup y.1=Ab .cell\/X.env.scope.names.lookup y.1=Ab .free
 len:N'.length=X.N.length
 same:∀ i x,N'[i]?=Ab x->scope.names.lookup x=Ab .free->i∉ts->X.N[i]?=Ab x
 loc:∀ i x,N'[i]?=Ab x->(scope.names.lookup x=Ab .local\/scope.names.lookup x=Ab .cell)->i∈ts
structure BCells (X:Cx) (scope:Ce) (cl:Ac (Ak×Al)) (C:Al) (h:AM):Prop where
 own:∀ x c,cl.lookup x=Ab c->X.env.cells.lookup x=Ab c\/(scope.names.lookup x=Ab .cell/\C<c/\h.IsCell c Ad)
 inj:∀ x y c,cl.lookup x=Ab c->cl.lookup y=Ab c->x=y
 has:∀ x,scope.names.lookup x=Ab .cell->∃ c,cl.lookup x=Ab c/\C<c
 fr:∀ x,(x,Em)∈scope.names->∃ c,cl.lookup x=Ab c/\X.env.cells.lookup x=Ab c
section
variable{X:Cx}{pins:Pn}{Z:L2.St}{H:Hp}{s:Ap}
noncomputable def hideT(ts:Ac Ae)(Z:L2.St):L2.St:=ts.foldl (λZ t=>Z.set t Ad) Z
theorem On:∀(ts:Ac Ae)(Z:L2.St),(hideT ts Z).length=Z.length
 |[],_=>rfl
 |t::ts,Z=>by show (hideT ts (Z.set t Ad)).length=_;rw[On ts,By]
theorem Re:∀(ts:Ac Ae)(Z:L2.St){i:Ae}{v:V},(hideT ts Z)[i]?=Ab (Ab v)->Z[i]?=Ab (Ab v)/\i∉ts
 |[],_,_,_,h=>⟨h,by simp⟩
 |t::ts,Z,i,v,h=>by
  obtain⟨h1,h2⟩:=Re ts (Z.set t Ad) (i:=i) (v:=v) h;by_cases e:t=i
  .subst e;have:=HP h1;cases this
  .rw[Dt e]at h1;exact⟨h1,by simp only[AK,Fi];exact⟨λz=>e z.symm,h2⟩⟩
theorem YD{C:Al}{m:Ak->Ao Ai}(I:Inv X pins Z H s)(B:BlockOk X scope N' ts)(hf:∀ b∈fp,GN X pins H b)(hfo:∀ b∈fp,b<s.heap.objs.size)(hb:BCells X scope cl C h')(hk:∀ b o,s.heap.get? b=Ab o->h'.get? b=Ab o)(hC:s.heap.objs.size<=C)(hn:h'.Ns C m):Inv (cxC X scope cl C N' s H fp) [] (hideT ts Z) H {s with heap:=h',toks:=tk}:=by
 have stf:∀ b∈fp,b∉frs X.stack:=λb hb z=>by
  rcases AK.mp (I.stkSub b z) with e|e
  .exact(hf b hb).2.1 e
  .exact(hf b hb).2.2.1 e
 have frOf:∀ x,((relabel scope X.env).names.lookup x=Ab .cell\/(relabel scope X.env).names.lookup x=Ab .free)->scope.names.lookup x=Ab .free\/scope.names.lookup x=Ab .cell:=λx hx=>by
  rcases hx with z|z
  .rcases Mx z with z|⟨_,z⟩
   .exact .inr z
   .exact .inl z
  .rcases Mx z with z|⟨z,_⟩
   .exact .inl z
   .cases z
 have gtC:∀ c:Al,C<c->s.heap.objs.size<=c:=λc z=>CV hC (Fb z)
 have cellK:∀ c v,s.heap.IsCell c v->h'.IsCell c v:=λc v ⟨o,ho,hd⟩=>⟨o,hk _ _ ho,hd⟩
 refine⟨⟨I.ok.mod,B.kind,I.ok.glob,I.ok.blt,hC,hb.inj,λx hx=>?_,λx c h e=>?_,I.ok.hd,I.ok.frames,.inl rfl,λb hbb=>⟨?_,λx c e=>?_⟩,I.bs,CV I.ok.bsz I.sz,λb o e hbb=>?_,stf,I.stack,I.stkFree⟩,rfl,I.bare,Un.kept hk,⟨m,hn,λi x v h1 h2 h3=>?_⟩,λx c e=>?_,I.hok.fresh hC,λx c e=>(hb.own x c e).elim (I.freeC x c) (λz=>I.hok.fresh (gtC c z.2.1)),λp hp=>absurd (show p∈([]:Pn) from hp) (by simp),I.hok.kept hk,?_⟩
 .rcases frOf x hx with z|z
  .obtain⟨c,q,_⟩:=hb.fr x (CI z);exact⟨c,q⟩
  .obtain⟨c,q,_⟩:=hb.has x z;exact⟨c,q⟩
 .obtain⟨c',q,z⟩:=hb.has x (eq_of_beq h);have e':cl.lookup x=Ab c:=e;rw[q]at e';cases e';exact gtC _ z
 .intro z;have z':b=C:=z;have:=hfo b hbb;rw[z']at this;exact absurd (AS this hC) (Bb _)
 .rcases hb.own x c e with z|z
  .exact(hf b hbb).2.2.2.2.1 x c z
  .intro q;have:=hfo b hbb;have:=gtC c z.2.1;rw[q]at this;exact absurd ‹b<_› (V9.mpr this)
 .rcases (hf b hbb).2.2.2.1 with z|z
  .exact I.ok.noex b o e z
  .exact absurd (AS (AJ e) (CV I.ok.bsz z)) (Bb _)
 .obtain⟨h2,hts⟩:=Re ts Z h2;have h3':(relabel scope X.env).names.lookup x=Ab .local\/(relabel scope X.env).names.lookup x=Ab .cell\/(relabel scope X.env).names.lookup x=Ab .free:=h3;have h1':N'[i]?=Ab x:=h1;rcases h3' with z|z
  .rcases Mx z with z|⟨z,_⟩
   .exact absurd (B.loc i x h1' (.inl z)) hts
   .cases z
  .have fr:=(frOf x z).resolve_right λq=>hts (B.loc i x h1' (.inr q))
   have hm:=CI fr;have hX:=B.same i x h1' fr hts;obtain⟨m0,hn0,hl0⟩:=I.loc;obtain⟨u,ru,lk⟩:=hl0 i x v hX h2 (by
    rcases B.free _ hm rfl with q|q
    .exact .inr (.inl q)
    .exact .inr (.inr q))
   refine⟨u,ru,?_⟩;obtain⟨c,hc,hcX⟩:=hb.fr x hm;rcases lk with ⟨q,_⟩|⟨_,c',hc',hcell⟩
   .have q':X.env.scope.names.lookup x=Ab .local:=q;rcases B.free _ hm rfl with p|p
    .rw[show X.env.scope.names.lookup x=_ from p]at q';cases q'
    .rw[show X.env.scope.names.lookup x=_ from p]at q';cases q'
   .have e:=hcX;rw[hc']at e;cases e;exact .inr ⟨z,c,hc,cellK _ _ hcell⟩
 .rcases hb.own x c e with z|z
  .obtain⟨v,q⟩:=I.cell x c z;exact⟨v,cellK _ _ q⟩
  .exact⟨_,z.2.2⟩
 .show (hideT ts Z).length=N'.length;rw[On,I.len,B.len]
theorem Rn{C D:Al}{s':Ap}{Z':L2.St}{pins':Pn}{h'':AM}{ys:Ac Ai}(I:Inv X pins Z H s)(hf:∀ b∈fp,GN X pins H b)(I':Inv (cxC X scope cl C N' s H fp) pins' Z' H' s')(hD:s.heap.objs.size<=D)(hDC:D≠C)(hC:s.heap.objs.size<=C)(hd:s'.heap.get? D=Ab { cls:=.type "list",data:=.seq ys.toArray n })(hDn:H' D=Ad)(rv:A6 xs ys)(hz:xs.length<=sizeLine)(hs:Ee C s'.heap h''):Inv X pins Z (upd H' D (.lst xs)) {s' with heap:=h''}:=by
  have u:Un (frs X.stack) fp H H' s.heap s'.heap:=I'.base;have lt:∀ b o,s.heap.get? b=Ab o->b≠C/\b≠D:=λb o e=>⟨λz=>absurd (AS (AJ e) (z ▸ hC)) (Bb _),λz=>absurd (AS (AJ e) (z ▸ hD)) (Bb _)⟩
  have HD:H D=Ad:=I.hok.fresh hD;have hCn:H' C=Ad:=I'.free;have kb:∀ b o,b≠C->s'.heap.get? b=Ab o->h''.get? b=Ab o:=λb o hb e=>(hs.2 b hb).trans e
  have u2:Un (frs X.stack) fp H (upd H' D (.lst xs)) s.heap h'':=⟨λb o e q hb hx=>kb b o (lt b o e).1 (u.keep b o e q hb hx),λb o e q hb hx=>by
      obtain⟨sl,e1⟩:=u.slot b o e q hb hx;exact⟨sl,kb b _ (lt b o e).1 e1⟩,λb o e q hx=>by rw[Dq (lt b o e).2];exact u.free b o e q hx,λb o e hx=>by
      obtain⟨o',e1⟩:=u.there b o e hx;exact⟨o',kb b _ (lt b o e).1 e1⟩,λb zs q=>by rw[Dq (Gk q HD)];exact u.tups b zs q,λb o zs q=>by rw[Dq (Gk q HD)];exact u.frzs b o zs q,λb ps q=>by rw[Dq (Gk q HD)];exact u.tbls b ps q⟩
  have hok:HOk X.prog X.w (upd H' D (.lst xs)) h'':=λb o e=>by
    by_cases hb:b=D
    · subst hb;rw[Jc]at e;cases e;exact⟨hz,ys,n,rv,kb _ _ hDC hd⟩
    · rw[Dq hb]at e;refine(I'.hok b o e).stay (λc v hc q=>kb c v ?_ q) (λc q=>by rw[Dq (Gk q hDn)];exact q) λc zs q=>by rw[Dq (Gk q hDn)];exact q
      rcases hc with rfl|hc
      · exact Gk e hCn
      · exact Gk hc hCn
  exact I.call' (s':={s' with heap:=h''}) (ch:=fp) I'.os u2 hok I'.bare λb hb=>⟨(hf b hb).2.2.2.1,(hf b hb).2.1,(hf b hb).2.2.2.2.1,(hf b hb).2.2.2.2.2⟩
end
def PTs(X:Cx)(ifs:Ac Am)(tt:TT):Prop:=∀(pins:Pn)(s:Ap)(Z:L2.St)(H:Hp)(Q:Aj->Hp->Prop),Inv X pins Z H s->tt Z H Q ->
 Az (model X.prog X.w) X.A (forIn ifs Aa λc r=>if r=Aa then do let ok <-IQ c X.env (eval c X.env);pure (E2 ok) else pure (E2 r)) (TP X pins Z Q) X.xe s
theorem dM:PTs X [] (λZ H Q=>Q Aa H):=λpins s Z H Q I h=>wpAny_tests_nil ⟨H,I,h⟩
theorem dL{t:TT}(h:PT X c t):PTs X [c] t:=λpins s Z H Q I q=>wpAny_tests_one (h pins s Z H Q I q)
theorem YT{D:Al}{ys:Ac Ai}{y:Ai}{E:Vq}{Q:Vq}(I:Inv X ((D,{ cls:=.type "list",data:=.seq ys.toArray n })::pins) Z H s)(hD:X.s₀.heap.objs.size<=D)(hp:∀ p∈X.pn++pins,p.1≠D)(hc:∀ x c,X.env.cells.lookup x=Ab c->c≠D)(hz:ys.length<=sizeLine)(h:∀ s',Inv X ((D,{ cls:=.type "list",data:=.seq (ys++[y]).toArray (n+1) })::pins) Z H s'->(∀ b o,b≠D->s.heap.get? b=Ab o->s'.heap.get? b=Ab o)->Q .none s'):Az (model X.prog X.w) X.A (call (.builtin "list.append") [.ref D,y]) Q E s:=by
 obtain⟨e,hn,hL,hfs,_⟩:=I.pin (D,{ cls:=.type "list",data:=.seq ys.toArray n }) (Bq _ AL);refine append_at (hsz:=by rw[AN];exact hz) e λh' hs hd=>?_
 have hd':h'.get? D=Ab { cls:=.type "list",data:=.seq (ys++[y]).toArray (n+1) }:=by rw[hd];simp
 have kb:∀ b o,b≠D->s.heap.get? b=Ab o->h'.get? b=Ab o:=λb o hb q=>(hs.2 b hb).trans q
 have I0:Inv X pins Z H s:=I.pins_of λp hp=>I.pin p (Bq _ (AF _ hp))
 have I1:Inv X pins Z H {s with heap:=h'}:=I0.turned (t':=s.toks) kb hn hL (.inr hD) hc hp
 refine h _ (I1.pins_of λp hp=>?_) kb
 rcases AK.mp hp with rfl|hp
 .exact⟨hd',hn,hL,hfs,λv z=>by
   have z':Lp _ _=Jy v:=z;cases z'⟩
 .exact I1.pin p (Bq _ hp)
section
variable{prog:AR}{w:AT}{A:AU}{R:IL->Ap->Prop}{s:Ap}
theorem YB{target:Am}{it acc:Ai}(I:Ae->Ap->Prop)(turn:∀ n s,I n s->Az (model prog w) A (E4 it) (λr s₁=>match r with
      |none=>R (.ok .next) s₁
      | some v=>Az (model prog w) A (GF target it v) (λ_ s₁'=>Az (model prog w) A (assign target env v) (λ_ s₂=>
          Az (model prog w) A (forIn ifs Aa λc r=>if r=Aa then do let ok <-IQ c env (eval c env);pure (E2 ok) else pure (E2 r)) (λok s₃=>
            if ok=Aa then Az (model prog w) A (eval elt env) (λx s₄=>
              Az (model prog w) A (call (.builtin "list.append") [acc,x]) (λ_ s₅=>∃ m,m<n/\I m s₅) (IS (model prog w) A env λe s'=>R (.error e) s') s₄) (IS (model prog w) A env λe s'=>R (.error e) s') s₃
            else ∃ m,m<n/\I m s₃) (IS (model prog w) A env λe s'=>R (.error e) s') s₂) (IS (model prog w) A env λe s'=>R (.error e) s') s₁') (IS (model prog w) A env λe s'=>R (.error e) s') s₁) (IS (model prog w) A env λe s'=>R (.error e) s') s)(n:Ae)(h:I n s):FA (model prog w) A (.compLoop (.ListComp elt [⟨target,iter,ifs,0⟩] scope pos) 0 it acc env) R s:=by
  refine codeAny_loop rfl I (λn s hI=>?_) n h
  show Az _ A ((compTurn (.ListComp elt [⟨target,iter,ifs,0⟩] scope pos) 0 it acc env).onRaise (λx=>do JD x env;theTreesLotGoes x)) _ _ s
  refine wpAny_noted ?_;rw[compTurn_list];refine Ah (wpAny_standAt (Ah (Cu (turn n s hI) (λr s₁ h₁=>?_) λ_ _ h'=>h')))
  cases r with
  |none=>exact At h₁
  |some v=>
    refine Ah (Cu h₁ (λ_ s₁' h₁'=>?_) λ_ _ h'=>h')
    refine Ah (Cu h₁' (λ_ s₂ h₂=>Ah (Cu h₂ (λok s₃ h₃=>?_) λ_ _ h'=>h')) λ_ _ h'=>h')
    cases ok with
    |false=>exact At ⟨rfl,h₃⟩
    |true=>
      exact Ah (Ah (Cu h₃ (λx s₄ h₄=>Ah (Cu h₄ (λ_ s₅ h₅=>At (At ⟨rfl,h₅⟩)) λ_ _ h'=>h')) λ_ _ h'=>h'))
end
def LS(J:It)(ts:Ac Ae)(g:TG)(tt:TT)(te:TE)(Z:L2.St)(H:Hp)(Q:VK):Prop:=∃ W:Ae->Ae->Ac V->L2.St->Hp->Prop,(∃ m,W 0 m [] (hideT ts Z) H)/\∀ i m xs Z H,W i m xs Z H ->
 (J.stop i H/\∀ p,H p=Ad->Q (.ref p) (upd H p (.lst xs))) \/
 (J.go i H/\xs.length<sizeLine/\∀ x H',J.yld i H x H'->g x Z H' λZ2 H2=>tt Z2 H2 λb H3=>if b=Aa then te Z2 H3 λy H4=>∃ m',m'<m/\W (i+1) m' (xs++[y]) Z2 H4 else ∃ m',m'<m/\W (i+1) m' xs Z2 H3)
theorem Rw{g:TG}{it:Al}{tn:Ae->AM->Prop}{E:Vq}{RR:Ai->Al->IL->Ap->Prop}(hc:X.calm=Aa)(B:BlockOk X scope N' ts)(I:Inv X pins Z H s)(T:Turn X.prog X.w X.K tg J fp it tn)(st:tn 0 s.heap)(hf:∀ b∈fp,GN X pins H b)(hcl:∀ x c,cl.lookup x=Ab c->X.env.cells.lookup x=Ab c)(hcl2:∀ x,(x,Em)∈scope.names->∃ c,cl.lookup x=Ab c)(hg:∀ cl C s H,PG (cxC X scope cl C N' s H fp) tg g)(ht:∀ cl C s H,PTs (cxC X scope cl C N' s H fp) ifs tt)(he:∀ cl C s H,PE (cxC X scope cl C N' s H fp) elt te)(h:LS J ts g tt te Z H Q)(hRR:∀ cl D C s' H' Z' pins' xs ys n m,Inv (cxC X scope cl C N' s H fp) pins' Z' H' s'->s'.heap.get? D=Ab { cls:=.type "list",data:=.seq (Dm ys) n }->H' D=Ad->A6 xs ys->xs.length<=sizeLine->s.heap.objs.size<=D->D≠C->s.heap.objs.size<=C->s'.heap.Ns C m->Q (.ref D) (upd H' D (.lst xs))->RR (.ref D) C (.ok .next) s'):Az (model X.prog X.w) X.A (newList []) (λacc s₃=>Az (model X.prog X.w) X.A (IR scope X.env.globals cl [] X.env.qual Ad .none (Ab X.env)) (λcenv s₄=>FA (model X.prog X.w) X.A (.compStart (.ListComp elt [⟨tg,iter,ifs,0⟩] scope pos) 0 (.ref it) acc {cenv with scope:=relabel scope X.env}) (RR acc cenv.locals) s₄) E s₃) E s:=by
 refine CG (Ys ?_);dsimp only;generalize hH2:s.heap.push { cls:=.type "list",dict:=Ad,data:=.seq ([]:Ac Ai).toArray }=H2;have hns₁:(G9 (H2.push { cls:=.type "dict",data:=.dict #[] }) scope.names).Ns H2.objs.size (λ_=>Ad):=(Heap.Ns.new H2 (.type "dict")).keeps (Ir _ _)
 have hkp₁:∀ b o,H2.get? b=Ab o->(G9 (H2.push { cls:=.type "dict",data:=.dict #[] }) scope.names).get? b=Ab o:=λb o e=>Ir _ _ b o (Aq _ e)
 have hown:=Ob scope.names (H2.push { cls:=.type "dict",data:=.dict #[] }) cl;have hinj:=Oc scope.names (H2.push { cls:=.type "dict",data:=.dict #[] }) cl;rw[Ba]at hown hinj;generalize hcl':Dy (H2.objs.size+1) scope.names cl=cl' at hown hinj;have hcf:∀ x,(x,BZ)∉scope.names->cl'.lookup x=cl.lookup x:=λx hx=>by rw[<-hcl'];exact NW _ _ _ x hx
 have hch:∀ x,(x,BZ)∈scope.names->∃ c,cl'.lookup x=Ab c/\H2.objs.size+1<=c:=λx hx=>by rw[<-hcl'];exact Od _ _ _ _ x (Aw _) (.inl hx)
 generalize hh₁:G9 (H2.push { cls:=.type "dict",data:=.dict #[] }) scope.names=h₁ at hns₁ hkp₁ hown;have hC:H2.objs.size=s.heap.objs.size+1:=by rw[<-hH2,Ba]
 have hCle:s.heap.objs.size<=H2.objs.size:=by rw[hC];exact JU _
 have hDC:s.heap.objs.size≠H2.objs.size:=by rw[hC];exact AV (Fl _)
 have below:∀ b,b<s.heap.objs.size->b≠H2.objs.size:=λb hb=>by rw[hC];exact AV (Bs hb)
 have old:∀ b o,s.heap.get? b=Ab o->h₁.get? b=Ab o:=λb o e=>hkp₁ b o (hH2 ▸ Aq _ e)
 have hacc:h₁.get? s.heap.objs.size=Ab { cls:=.type "list",data:=.seq ([]:Ac Ai).toArray 0 }:=hkp₁ _ _ (hH2 ▸ AD _ rfl);have clt:∀ x c,cl.lookup x=Ab c->c<s.heap.objs.size:=λx c e=>by
  obtain⟨v,q⟩:=I.cell x c (hcl x c e);exact q.lt
 have bc:BCells X scope cl' H2.objs.size h₁:=by
  refine⟨λx c e=>?_,hinj (λx y c e1 e2=>I.ok.inj x y c (hcl x c e1) (hcl y c e2)) (λx c e=>Bs (AS (clt x c e) hCle)),λx hx=>?_,λx hx=>?_⟩
  .rcases hown x c e with q|⟨q1,q2,q3⟩
   .exact .inl (hcl x c q)
   .exact .inr ⟨B.uniq _ q1,q2,q3⟩
  .have hm:=CI hx;obtain⟨c,e,hc⟩:=hch x hm;exact⟨c,e,hc⟩
  .have hno:(x,BZ)∉scope.names:=λz=>by
    have e1:=B.uniq _ hx;have e2:=B.uniq _ z;rw[show scope.names.lookup x=_ from e1]at e2
    cases e2
   obtain⟨c,e⟩:=hcl2 x hx;exact⟨c,by rw[hcf x hno];exact e,hcl x c e⟩
 have hfo:∀ b∈fp,b<s.heap.objs.size:=λb hb=>by
  obtain⟨o,e,_⟩:=T.obj 0 _ st b hb;exact AJ e
 generalize hD:s.heap.objs.size=D at *;generalize hC':H2.objs.size=C at *;have I0:Inv (cxC X scope cl' C N' s H fp) [] (hideT ts Z) H {s with heap:=h₁,toks:=s.toks+([]:Ac (Ak×Ai)).length}:=YD (tk:=s.toks+([]:Ac (Ak×Ai)).length) I B hf (λb hb=>by rw[hD];exact hfo b hb) bc old (by rw[hD];exact hCle) hns₁
 have nD:H D=Ad:=I.hok.fresh (by rw[hD];exact Aw _)
 have noD:∀ b∈fp,b≠D:=λb hb=>AV (hfo b hb)
 have noC:∀ b∈fp,b≠C:=λb hb=>below b (hfo b hb)
 have stfs:D∉frs X.stack:=λz=>by
  obtain⟨_,o,ho,_⟩:=I.stack.mem z;exact absurd (AJ ho) (by rw[hD];exact Bb _)
 have cD:∀ x c,cl'.lookup x=Ab c->c≠D:=λx c e z=>by
  rcases bc.own x c e with q|⟨_,q,_⟩
  .obtain⟨v,q⟩:=I.cell x c q;exact absurd q.lt (by rw[z,hD];exact Bb _)
  .rw[z]at q;exact absurd (AS q hCle) (Bb _)
 have I1:Inv (cxC X scope cl' C N' s H fp) [(D,{ cls:=.type "list",data:=.seq ([]:Ac Ai).toArray 0 })] (hideT ts Z) H {s with heap:=h₁,toks:=s.toks+([]:Ac (Ak×Ai)).length}:=I0.pins_of λp hp=>by
  have e:=A5.mp hp;subst e;exact⟨hacc,nD,hDC,stfs,λv z=>by
   have z':Lp _ _=Jy v:=z;cases z'⟩
 have st1:tn 0 h₁:=T.keep _ _ _ st λb _ o e=>old b o e
 obtain⟨W,⟨m0,w0⟩,turn⟩:=h;have fpk:∀{pl:Pn}{H':Hp},(∀ p∈pl,p.1=D)->(∀ b∈fp,H' b=Ad)->∀ b∈fp,GN (cxC X scope cl' C N' s H fp) pl H' b:=λ{pl H'} hp hn b hb=>
  ⟨hn b hb,noC b hb,λz=>by
   rcases AK.mp (I.stkSub b z) with e|e
   .exact(hf b hb).2.1 e
   .exact(hf b hb).2.2.1 e,.inl hb,λx c e=>(bc.own x c e).elim ((hf b hb).2.2.2.2.1 x c) (λz q=>absurd (G6 hCle z.2.1) (V9.mpr (by rw[q];exact Fb (hfo b hb)))),λp hp'=>by
   have hp2:p∈pl:=hp';rw[hp p hp2];exact(noD b hb).symm⟩
 have loop:∀ s₃:Ap,s₃={s with heap:=h₁,toks:=s.toks+([]:Ac (Ak×Ai)).length} ->
   FA (model X.prog X.w) X.A (.compLoop (.ListComp elt [⟨tg,iter,ifs,0⟩] scope pos) 0 (.ref it) (.ref D) (compEnvC scope cl' C X.env)) (RR (.ref D) C) s₃:=by
  rintro s₃ rfl;refine YB (λk s'=>∃ i Z' H' xs ys n,Inv (cxC X scope cl' C N' s H fp) [(D,{ cls:=.type "list",data:=.seq (Dm ys) n })] Z' H' s'/\tn i s'.heap/\(∀ b∈fp,H' b=Ad)/\A6 xs ys/\xs.length<=sizeLine/\W i k xs Z' H') ?_ m0
   ⟨0,_,H,[],[],0,I1,st1,λb hb=>(hf b hb).1,.nil,BD _,w0⟩
  rintro k s' ⟨i,Z',H',xs,ys,n,I',st',fr',rv,hz,w'⟩;have one:∀ p∈[((D,{ cls:=.type "list",data:=.seq (Dm ys) n }):Al×De)],p.1=D:=λp hp=>by rw[A5.mp hp]
  rcases turn i k xs Z' H' w' with ⟨stop,q⟩|⟨go,hlt,step⟩
  .refine Cu (T.done (cxC X scope cl' C N' s H fp) rfl rfl rfl hc i _ s' Z' H' (λ_ _=>Bj) I' (fpk one fr') st' stop) (λr s1 ⟨hr,J1⟩=>?_) λ_ _ f=>f.elim
   subst hr;obtain⟨e,hn,_⟩:=J1.pin _ (Bq _ AL);obtain⟨m,hm,_⟩:=J1.loc;exact hRR cl' D C s1 H' Z' _ xs ys n m J1 e hn rv hz (Aw _) hDC hCle hm (q D hn)
  .refine Cu (T.item (cxC X scope cl' C N' s H fp) rfl rfl rfl hc i _ s' Z' H' (λ_ _=>Bj) I' (fpk one fr') st' go) (λr s1 ⟨u,hr,h4⟩=>?_) λ_ _ f=>f.elim
   subst hr;refine Cu h4 (λ_ s5 ⟨x,H5,I5,r5,y5,st5,fr5⟩=>?_) λ_ _ f=>f.elim
   have I5':=I5.pinned (fpk one fr5) (T.obj _ _ st5);refine Cu (hg cl' C s H _ s5 Z' H5 x u _ I5' r5 (step x H5 y5)) (λ_ s6 ⟨Z6,H6,I6,q6⟩=>?_) λ_ _ f=>f.elim
   refine Cu (ht cl' C s H _ s6 Z6 H6 _ I6 q6) (λok s7 ⟨H7,I7,q7⟩=>?_) λ_ _ f=>f.elim
   have again:∀{s8:Ap}{H8:Hp}{ys':Ac Ai}{n':Ae},Inv (cxC X scope cl' C N' s H fp) ((D,{ cls:=.type "list",data:=.seq (Dm ys') n' })::Ke fp s5.heap) Z6 H8 s8->Inv (cxC X scope cl' C N' s H fp) [(D,{ cls:=.type "list",data:=.seq (Dm ys') n' })] Z6 H8 s8/\tn (i+1) s8.heap/\∀ b∈fp,H8 b=Ad:=λ{s8 H8 ys' n'} I8=>
    ⟨I8.pins_of λp hp=>I8.pin p (Bq _ (by rw[A5.mp hp];exact AL)),T.keep _ _ _ st5 λb hb o e=>(I8.pin (b,o) (Bq _ (AF _ (Mz hb e)))).1,λb hb=>by
     obtain⟨o,e,d⟩:=T.obj _ _ st5 b hb;exact(I8.pin (b,o) (Bq _ (AF _ (Mz hb e)))).2.1⟩
   cases ok with
   |false=>
    rw[As (by decide)]at q7
    obtain⟨m',hm,w7⟩:=q7;obtain⟨a1,a2,a3⟩:=again I7;rw[As (by decide)]
    exact⟨m',hm,i+1,Z6,H7,xs,ys,n,a1,a2,a3,rv,hz,w7⟩
   |true=>
    rw[Ar rfl]at q7;rw[Ar rfl];refine Cu (he cl' C s H _ s7 Z6 H7 _ I7 q7) (λval s8 ⟨y,H8,I8,r8,m',hm,w8⟩=>?_) λ_ _ f=>f.elim
    have hl:=rv.length;refine YT (X:=cxC X scope cl' C N' s H fp) (ys:=ys) (n:=n) (pins:=Ke fp s5.heap) I8 (by show s.heap.objs.size<=D;rw[hD];exact Aw _) (λp hp=>?_) cD (by omega) λs9 I9 kb=>?_
    .have hp2:p∈Ke fp s5.heap:=hp;exact noD _ (Q5 hp2).1
    .obtain⟨a1,a2,a3⟩:=again I9;exact⟨m',hm,i+1,Z6,H8,xs++[y],ys++[val],n+1,a1,a2,a3,rv.append (.cons r8 .nil),by rw[Bp];exact hlt,w8⟩
 exact codeAny_compStart_list (loop _ rfl) (T.self _ 0 _ _ _ st1 (loop _ rfl))
theorem dY{g:TG}(hc:X.calm=Aa)(B:BlockOk X scope N' ts)(hi:PI X tg iter wi)(hg:∀ cl C s H fp,PG (cxC X scope cl C N' s H fp) tg g)(ht:∀ cl C s H fp,PTs (cxC X scope cl C N' s H fp) ifs tt)(he:∀ cl C s H fp,PE (cxC X scope cl C N' s H fp) elt te)(hs:∀ x,Dh iter X.env x=pure x):PE X (.ListComp elt [⟨tg,iter,ifs,0⟩] scope pos) (λZ H Q=>wi Z H λJ H1=>LS J ts g tt te Z H1 Q):=by
 intro pins s Z H Q I h;obtain⟨cl,hclos,hcl,hcl2⟩:=QQ (scope:=scope) (env:=X.env) λx hx hk=>I.ok.has x.1 ((B.free x hx hk).imp id id)
 rw[eval_ListComp];refine X8 (use:=Ad) rfl hs hclos B.kind B.names (thn (hi pins s Z H _ I h) λv s1 h1=>thn h1 λitv s2 h2=>?_)
 obtain⟨it,fp,tn,J,H2,e,I2,T,st2,f2,h3⟩:=h2;subst e;refine Rw (RR:=λacc C=>compPost (model X.prog X.w) X.A X.xe Ad (EP X pins Z Q) acc C) hc B I2 T st2 f2 hcl hcl2 (λcl C s H=>hg cl C s H fp) (λcl C s H=>ht cl C s H fp) (λcl C s H=>he cl C s H fp) h3 λcl' D C s' H' Z' pins' xs ys n m I' hd hDn rv hz hD hDC hC hm q=>?_
 exact⟨m,hm,λh'' hs''=>⟨.ref D,_,Rn I2 f2 I' hD hDC hC hd hDn rv hz hs'',rfl,q⟩⟩
theorem dP{n:Ak}{g:TG}(hc:X.calm=Aa)(B:BlockOk X scope N' ts)(hi:PI X tg iter wi)(hg:∀ cl C s H fp,PG (cxC X scope cl C N' s H fp) tg g)(ht:∀ cl C s H fp,PTs (cxC X scope cl C N' s H fp) ifs tt)(he:∀ cl C s H fp,PE (cxC X scope cl C N' s H fp) elt te)(hs:∀ x,Dh iter X.env x=pure x)(hN:X.N.Nodup)(hni:X.N[i]?=Ab n)(hx:X.env.scope.names.lookup n=Ab .local)(hsw:EI (.ListComp elt [⟨tg,iter,ifs,0⟩] scope pos) (Ab (.Name n pos')) pos2.line X.env=pure Aa):PS X (.Assign [.Name n pos'] (.ListComp elt [⟨tg,iter,ifs,0⟩] scope pos) pos2) (P3 (λZ H Q=>wi Z H λJ H1=>LS J ts g tt te Z H1 Q) (Hm i)):=by
 intro pins s Z H Dn I h;obtain⟨cl,hclos,hcl,hcl2⟩:=QQ (scope:=scope) (env:=X.env) λx hx hk=>I.ok.has x.1 ((B.free x hx hk).imp id id)
 rw[exec_Assign_Name_used _ _ _ _ hsw];refine Ah (wpAny_standAt (Ah ?_));show Az _ X.A (do let _ <-comprehension (.ListComp elt [⟨tg,iter,ifs,0⟩] scope pos) scope X.env _ (newList []) Af (eval iter X.env) (Ab (assign (.Name n pos') X.env))) _ _ s
 refine Ah (Cu (X8 (use:=Ab (assign (.Name n pos') X.env)) (Q:=λ_ s'=>SP X pins Dn .next s') rfl hs hclos B.kind B.names
  (thn (hi pins s Z H _ I h) λv s1 h1=>thn h1 λitv s2 h2=>?_)) (λ_ s' hq=>At (At hq)) λ_ _ e=>e)
 obtain⟨it,fp,tn,J,H2,e,I2,T,st2,f2,h3⟩:=h2;subst e;refine Rw (RR:=λacc C=>compPost (model X.prog X.w) X.A X.xe (Ab (assign (.Name n pos') X.env)) (λ_ s'=>SP X pins Dn .next s') acc C) hc B I2 T st2 f2 hcl hcl2 (λcl C s H=>hg cl C s H fp) (λcl C s H=>ht cl C s H fp) (λcl C s H=>he cl C s H fp) h3 λcl' D C s' H' Z' pins' xs ys n' m I' hd hDn rv hz hD hDC hC hm q=>?_
 have J0:Inv X pins Z (upd H' D (.lst xs)) s':=Rn I2 f2 I' hD hDC hC hd hDn rv hz (Xj ..);refine X7 (QM J0 hN hni (.inl hx) (show BP (.ref D) (.ref D) from rfl) (λs'' J1 ⟨a,sb,ha⟩=>?_) (.inr hx))
 have hC0:X.s₀.heap.objs.size<=C:=CV I2.sz hC;have hL:C≠X.env.locals:=λz=>absurd (AS I2.lt (z ▸ hC)) (Bb _)
 have hcC:∀ x c,X.env.cells.lookup x=Ab c->c≠C:=λx c e z=>by
  obtain⟨v,q'⟩:=I2.cell x c e;exact absurd (AS q'.lt (by rw[z];exact hC)) (Bb _)
 have hp:∀ p∈X.pn++pins,p.1≠C:=λp hp z=>absurd (AS (AJ (I2.pin p hp).1) (by rw[z];exact hC)) (Bb _)
 have hCn:upd H' D (.lst xs) C=Ad:=by rw[Dq hDC.symm];exact I'.free
 have hCa:C≠a:=by
  rcases ha with rfl|ha
  .exact hL
  .exact λz=>hcC n a ha z.symm
 refine⟨m,hm.sameBut sb hCa,λh'' hs''=>⟨_,_,J1.turned (t':=s''.toks) (λb o hb e=>(hs''.2 b hb).trans e) hCn hL (.inr hC0) hcC hp,q⟩⟩
theorem N6:∀(ts:Ac Ae)(U:Rho)(j:Ae),(GM ts U)[j]?=if j∈ts then (U[j]?).map (λ_=>Ad) else U[j]?
 |[],U,j=>by simp[GM]
 |t::ts,U,j=>by
  show (GM ts (U.set t Ad))[j]?=_;rw[N6 ts];by_cases h1:j∈ts
  .rw[Ar h1,Ar (AF _ h1)];by_cases h2:t=j
   .subst h2;rw[FQ];cases U[t]?<;>rfl
   .rw[Dt h2]
  .rw[As h1];by_cases h2:t=j
   .subst h2;rw[Ar AL,FQ];cases U[t]?<;>rfl
   .rw[Dt h2,As (by simp only[AK,Fi];exact⟨λz=>h2 z.symm,h1⟩)]
theorem Oo:∀(ts:Ac Ae)(U:Rho),(GM ts U).length=U.length
 |[],_=>rfl
 |t::ts,U=>by show (GM ts (U.set t Ad)).length=_;rw[Oo ts,By]
theorem NR:∀(ts:Ac Ae)(Z:L2.St){i:Ae},i∉ts->(hideT ts Z)[i]?=Z[i]?
 |[],_,_,_=>rfl
 |t::ts,Z,i,h=>by
  simp only[AK,Fi]at h;show (hideT ts (Z.set t Ad))[i]?=_;rw[NR ts _ h.2,Dt (λz=>h.1 z.symm)]
section
variable{K:Fg}{CL:ClA}{A:Al->Prop}{U U':Rho}{Z:L2.St}{H:Hp}
theorem Good.less(g:Good K CL A U Z H)(hl:U'.length=U.length)(h:∀(i:Ae)(d:D)(o:Aj),U'[i]?=Ab (Ab (d,o))->U[i]?=Ab (Ab (d,o))):Good K CL A U' Z H:=⟨λi d e=>g.sh i d (h i d Af e),λi d e=>g.ow i d (h i d Aa e),hl.trans g.len⟩
theorem Good.put(g:Good K CL A U Z H)(t:Ae)(r:Rep K CL H A v d):Good K CL A (U.set t (Ab (d,Af))) (Z.set t (Ab v)) H:=by
 refine⟨λj e h=>?_,λj e h=>?_,by rw[By,By];exact g.len⟩
 .by_cases hj:t=j
  .subst hj;have e1:=HP h;cases e1;have hl:t<Z.length:=by
    rw[<-g.len];have:=(AW.mp h).1;simpa using this
   exact⟨v,by rw[Dl hl],r⟩
  .rw[Dt hj]at h;obtain⟨w',q,rw'⟩:=g.sh j e h;exact⟨w',by rw[Dt hj];exact q,rw'⟩
 .have hj:t≠j:=by
   rintro rfl;have:=HP h;cases this
  rw[Dt hj]at h;obtain⟨a,xs,ds,q,z⟩:=g.ow j e h;exact⟨a,xs,ds,by rw[Dt hj];exact q,z⟩
theorem Good.hide(g:Good K CL A U Z H)(ts:Ac Ae):Good K CL A (GM ts U) Z H:=g.less (Oo _ _) λi d o e=>by
 rw[N6]at e;split at e
 .cases q:U[i]? with
  |none=>rw[q]at e;cases e
  |some x=>rw[q]at e;cases e
 .exact e
theorem Good.hideT(g:Good K CL A U Z H)(ts:Ac Ae):Good K CL A (GM ts U) (hideT ts Z) H:=by
 have key:∀ i x,(GM ts U)[i]?=Ab (Ab x)->U[i]?=Ab (Ab x)/\i∉ts:=λi x e=>by
  rw[N6]at e;split at e
  .cases q:U[i]? with
   |none=>rw[q]at e;cases e
   |some x=>rw[q]at e;cases e
  .exact⟨e,by assumption⟩
 refine⟨λi d e=>?_,λi d e=>?_,by rw[Oo,On];exact g.len⟩
 .obtain⟨e1,e2⟩:=key i _ e;obtain⟨v,q,r⟩:=g.sh i d e1;exact⟨v,by rw[NR _ _ e2];exact q,r⟩
 .obtain⟨e1,e2⟩:=key i _ e;obtain⟨a,xs,ds,q,r⟩:=g.ow i d e1;exact⟨a,xs,ds,by rw[NR _ _ e2];exact q,r⟩
end
def GG(K:Fg)(CL:ClA)(ts:Ac Ae)(as:D->Rho->R Rho)(g:TG):Prop:=∀ A U Z H v d U' Q,Good K CL A (GM ts U) Z H->Rep K CL H A v d->as d U=.ok U'->(∀ Z',Good K CL A U' Z' H->Good K CL A (GM ts U) Z' H->Q Z' H)->g v Z H Q
theorem fQ(i:Ae):GG K CL [i] (λd U=>.ok (U.set i (Ab (d,Af)))) (Hm i):=λA U Z H v d U' Q g r e k=>by
 cases e;have g2:=g.put i r;have e1:(GM [i] U).set i (Ab (d,Af))=U.set i (Ab (d,Af)):=by
  show (U.set i Ad).set i (Ab (d,Af))=_;rw[V0]
 rw[e1]at g2;refine k _ g2 ?_;have:=g2.hide [i];have e2:GM [i] (U.set i (Ab (d,Af)))=GM [i] U:=by
  show (U.set i _).set i Ad=U.set i Ad;rw[V0]
 rw[e2]at this;exact this
noncomputable abbrev W0:XW:=λ_ _=>Bj
def STs(X:Cx)(CL:ClA)(ifs:Ac Am)(f:Rho->R Aj):Prop:=∀ A,PTs X ifs (λZ H Q=>AOk H A/\∃ U,Good X.K CL A U Z H/\Dp W0 H (f U) Q)
theorem dZ:STs X CL [] (λ_=>.ok Aa):=λA pins s Z H Q I ⟨hA,U,g,p⟩=>dM pins s Z H Q I (p H (AO.refl H))
theorem bX(h:SB X CL W0 c f):STs X CL [c] f:=λA pins s Z H Q I q=>dL (h A) pins s Z H Q I q
section
variable{X:Cx}{CL:ClA}{W:XW}{tg iter elt:Am}{ifs:Ac Am}{scope:Ce}{pos:A3}{N':Ac Ak}{ts:Ac Ae}{fi:Rho->R (Ac D)}{fc:Rho->R Aj}{fe:Rho->R D}{as:D->Rho->R Rho}{g:TG}
theorem Yx{g:D->R Aj}{f:D->R D}{x:D}{xs ys:Ac D}(h:BK g f (x::xs)=.ok ys):(g x=.ok Af/\BK g f xs=.ok ys)\/∃ y r,g x=.ok Aa/\f x=.ok y/\BK g f xs=.ok r/\ys=y::r:=by
 unfold BK at h;cases e:g x with
 |bad=>rw[e]at h;cases h
 |exn z=>rw[e]at h;cases h
 |ok b=>
  rw[e,R.bind_ok]at h;cases b with
  |false=>exact .inl ⟨rfl,h⟩
  |true=>
   rw[Ar rfl]at h;cases e2:f x with
   |bad=>rw[e2]at h;cases h
   |exn z=>rw[e2]at h;cases h
   |ok y=>
    rw[e2,R.bind_ok]at h;cases e3:BK g f xs with
    |bad=>rw[e3]at h;cases h
    |exn z=>rw[e3]at h;cases h
    |ok r=>
     rw[e3,R.bind_ok]at h;cases h;exact .inr ⟨y,r,rfl,rfl,rfl,rfl⟩
theorem J4{β:Type}{r:R α}{f:α->R β}{b:β}(h:r.bind f=.ok b):∃ a,r=.ok a/\f a=.ok b:=by
 cases r with
 |ok a=>exact⟨a,rfl,h⟩
 |exn x=>cases h
 |bad=>cases h
theorem Z_9{ds ys:Ac D}(hGG:GG K CL ts as g)(hA:AOk H1 A)(gd:Good K CL A U Z H1)(yl:IC K CL A ds J H1)(hz:ds.length<=sizeLine)(hcp:BK (λx=>(as x U).bind fc) (λx=>(as x U).bind fe) ds=.ok ys)(q:∀ xs H2,AO H1 H2->Reps K CL H2 A xs ys->∀ p,H2 p=Ad->Q (.ref p) (upd H2 p (.lst xs))):LS J ts g (λZ H Q=>AOk H A/\∃ U,Good K CL A U Z H/\Dp W0 H (fc U) Q) (λZ H Q=>AOk H A/\∃ U,Good K CL A U Z H/\Bk (λH=>Rep K CL H A) W0 H (fe U) Q) Z H1 Q:=by
 refine⟨λi m xs Z' H'=>m=ds.length-i/\i<=ds.length/\xs.length<=i/\AO H1 H'/\Good K CL A (GM ts U) Z' H'/\∃ outs rest,Reps K CL H' A xs outs/\BK (λx=>(as x U).bind fc) (λx=>(as x U).bind fe) (ds.drop i)=.ok rest/\ys=outs++rest,
  ⟨ds.length,by simp,BD _,Aw _,AO.refl _,gd.hideT ts,[],ys,trivial,hcp,rfl⟩,?_⟩
 rintro i m xs Z' H' ⟨rfl,hi,hxl,sm,g',outs,rest,rs,hc,e⟩;obtain⟨yst,ygo⟩:=yl H' (Kp.of sm) i;by_cases hlt:i<ds.length
 .have hd:ds[i]?=Ab ds[i]:=AA hlt;obtain⟨hgo,hyl⟩:=ygo _ hd;refine .inr ⟨hgo,by omega,λx H2 hx=>?_⟩
  obtain⟨s2,rx⟩:=hyl x H2 hx;have rx':=rx A (λa ha=>.inl ha) (hA.same sm)
  rw[Dz hlt]at hc;have sm2:=sm.trans s2;rcases Yx hc with ⟨h1,h2⟩|⟨y,r,h1,h2,h3,h4⟩
  .obtain⟨U',ea,ec⟩:=J4 h1;refine hGG A U Z' H2 x ds[i] U' _ (g'.same s2) rx' ea λZ3 g3 g4=>⟨hA.same sm2,U',g3,?_⟩
   rw[ec];exact λH3 s3=>by
    dsimp only;rw[As (by decide)]
    exact⟨ds.length-(i+1),by omega,rfl,hlt,by omega,sm2.trans s3,g4.same s3,outs,rest,(rs.same s2).same s3,h2,e⟩
  .obtain⟨U',ea,ec⟩:=J4 h1;obtain⟨U2,ea2,ee⟩:=J4 h2;rw[ea]at ea2;cases ea2;refine hGG A U Z' H2 x ds[i] U' _ (g'.same s2) rx' ea λZ3 g3 g4=>⟨hA.same sm2,U',g3,?_⟩
   rw[ec];exact λH3 s3=>by
    dsimp only;rw[Ar rfl];refine⟨(hA.same sm2).same s3,U',g3.same s3,?_⟩;rw[ee];exact λv H4 s4 r4=>⟨ds.length-(i+1),by omega,rfl,hlt,by rw[Bp,VQ];omega,(sm2.trans s3).trans s4,(g4.same s3).same s4,outs++[y],r,(((rs.same s2).same s3).same s4).append ⟨r4,trivial⟩,h3,by rw[e,h4];simp⟩
 .have hk':ds.length<=i:=by omega
  rw[VC hk']at hc;have hr:rest=[]:=by cases hc;rfl
  subst hr;rw[Bw]at e;subst e;exact .inl ⟨yst hk',λp hp=>q xs H' sm rs p hp⟩
theorem ED.ok_of{r:R (Ac D)}{f:Ac D->R D}{Q':It->Hp->Prop}(h:Bk Rq W H (r.bind f) Q)(k:∀ ds J H',r=.ok ds->AO H H'->IC K CL A ds J H'->ds.length<=sizeLine->Bk Rq W H' (f ds) Q->Q' J H'):ED K CL A W H r Q':=by
 cases r with
 |ok d=>exact λJ H2 s2 y z=>k d J H2 rfl s2 y z (Bk.same s2 h)
 |exn x=>exact h
 |bad=>exact h
theorem kR{r:R α}{a:α}(h:noX r=.ok a):r=.ok a:=by
 cases r with
 |ok b=>exact h
 |exn x=>cases h
 |bad=>cases h
theorem Rl(hGG:GG X.K CL ts as g)(hA:AOk H A)(gd:Good X.K CL A U Z H)(p:Bk (E6 X.K CL Aa H A) W H ((fi U).bind λxs=>(noX (BK (λx=>(as x U).bind fc) (λx=>(as x U).bind fe) xs)).bind λys=>.ok (.lst ys)) Q):ED X.K CL A W H (fi U) (λJ H1=>LS J ts g (λZ H Q=>AOk H A/\∃ U,Good X.K CL A U Z H/\Dp W0 H (fc U) Q) (λZ H Q=>AOk H A/\∃ U,Good X.K CL A U Z H/\Bk (λH=>Rep X.K CL H A) W0 H (fe U) Q) Z H1 Q):=
 ED.ok_of p λds J H1 e1 s1 yl hz p1=>by
  cases e2:noX (BK (λx=>(as x U).bind fc) (λx=>(as x U).bind fe) ds) with
  |ok ys=>
   rw[e2]at p1;exact Z_9 hGG (hA.same s1) (gd.same s1) yl hz (kR e2) λxs H2 s2 rs q hq=>p1 _ _ (s2.trans (GJ hq _)) (KN (s1.trans s2) ((hA.same s1).same s2) hq rs)
  |exn x=>rw[e2]at p1;cases hq:BK (λx=>(as x U).bind fc) (λx=>(as x U).bind fe) ds<;>rw[hq]at e2<;>cases e2
  |bad=>rw[e2]at p1;exact p1.elim
theorem eR(hc:X.calm=Aa)(B:BlockOk X scope N' ts)(hi:SI X CL W tg iter fi)(hGG:GG X.K CL ts as g)(hg:∀ cl C s H fp,PG (cxC X scope cl C N' s H fp) tg g)(ht:∀ cl C s H fp,STs (cxC X scope cl C N' s H fp) CL ifs fc)(he:∀ cl C s H fp,SE (cxC X scope cl C N' s H fp) CL W0 elt fe)(hs:∀ x,Dh iter X.env x=pure x):SC X CL W Aa (.ListComp elt [⟨tg,iter,ifs,0⟩] scope pos) (λU=>(fi U).bind λxs=>(noX (BK (λx=>(as x U).bind fc) (λx=>(as x U).bind fe) xs)).bind λys=>.ok (.lst ys)):=λA pins s Z H Q I ⟨hA,U,gd,p⟩=>
 dY hc B (hi A) hg (λcl C s H fp=>ht cl C s H fp A) (λcl C s H fp=>he cl C s H fp A) hs pins s Z H Q I ⟨hA,U,gd,Rl hGG hA gd p⟩
end
section
variable{K:Fg}{CL:ClA}{Fz:Al->HO->Prop}{B:Al->Prop}{U:Rho}{Z:L2.St}{H H':Hp}
theorem Sx.setF(x:Sx K CL Fz B U Z H)(s:AO H H'){ds:Ac D}(h0:H a=Ad)(h1:H' a=Ab (.lst xs))(r:Reps K CL H' (λb=>CP B U Z b\/b=a) xs ds):Sx K CL Fz B (U.set i (Ab (.lst ds,Aa))) (Z.set i (Ab (.ref a))) H':=by
 have nA:¬ CP B U Z a:=x.aok.new h0;have own:∀(j:Ae)(e:D),(U.set i (Ab (.lst ds,Aa)))[j]?=Ab (Ab (e,Aa))->(i=j/\e=.lst ds)\/(i≠j/\U[j]?=Ab (Ab (e,Aa))):=λj e h=>by
  by_cases hj:i=j
  .subst hj;have:=HP h;cases this;exact .inl ⟨rfl,rfl⟩
  .exact .inr ⟨hj,by rw[Dt hj]at h;exact h⟩
 have atI:∀{j:Ae}{y:Sl},(U.set i (Ab (.lst ds,Aa)))[j]?=Ab y->i=j->(Z.set i (Ab (.ref a)))[j]?=Ab (Ab (.ref a)):=λ{j y} h e=>by
  subst e;have hl:i<Z.length:=by
   rw[<-x.len];have:=(AW.mp h).1;simpa using this
  rw[Dl hl]
 have sub:∀ b,CP B (U.set i (Ab (.lst ds,Aa))) (Z.set i (Ab (.ref a))) b->CP B U Z b\/b=a:=λb h=>by
  rcases h with h|⟨j,e,h1,h2⟩
  .exact .inl (.inl h)
  .rcases own j e h1 with ⟨hj,_⟩|⟨hj,h1'⟩
   .rw[atI h1 hj]at h2;cases h2;exact .inr rfl
   .rw[Dt hj]at h2;exact .inl (.inr ⟨j,e,h1',h2⟩)
 have wide:∀{v:V}{d:D},Rep K CL H (CP B U Z) v d->Rep K CL H' (CP B (U.set i (Ab (.lst ds,Aa))) (Z.set i (Ab (.ref a)))) v d:=λr=>(Rep.wide (λb hb=>(sub b hb).imp id λe=>by rw[e];exact h0) _ r).same s
 have wides:∀{v:Ac V}{d:Ac D},Reps K CL H (CP B U Z) v d->Reps K CL H' (CP B (U.set i (Ab (.lst ds,Aa))) (Z.set i (Ab (.ref a)))) v d:=λr=>(Reps.wide (λb hb=>(sub b hb).imp id λe=>by rw[e];exact h0) _ r).same s
 refine⟨⟨λj e h=>?_,λj e h=>?_,by rw[By,By];exact x.len⟩,λb h=>?_,λj e b g1 g2=>?_,λj k e f b g1 g2 g3 g4=>?_,λb o z=>s _ _ (x.same b o z),by rw[By,By];exact x.len⟩
 .have hj:i≠j:=by
   rintro rfl;have:=HP h;cases this
  rw[Dt hj]at h;obtain⟨w',q,rw'⟩:=x.good.sh j e h;exact⟨w',by rw[Dt hj];exact q,wide rw'⟩
 .rcases own j e h with ⟨hj,rfl⟩|⟨hj,h'⟩
  .have q:=atI h hj;exact⟨a,xs,ds,q,rfl,.inr ⟨j,_,h,q⟩,h1,Reps.sub sub _ r⟩
  .obtain⟨b,ys,es,q,z,ha,hh,rr⟩:=x.good.ow j e h';have q':(Z.set i (Ab (.ref a)))[j]?=Ab (Ab (.ref b)):=by rw[Dt hj];exact q
   exact⟨b,ys,es,q',z,.inr ⟨j,e,h,q'⟩,s _ _ hh,wides rr⟩
 .rcases sub b h with z|z
  .obtain⟨ys,q⟩:=x.aok b z;exact⟨ys,s _ _ q⟩
  .rw[z];exact⟨xs,h1⟩
 .rcases own j e g1 with ⟨hj,_⟩|⟨hj,h'⟩
  .rw[atI g1 hj]at g2;cases g2;refine⟨λo z=>?_,λz=>nA (.inl z)⟩
   have:=x.same a o z;rw[h0]at this;cases this
  .rw[Dt hj]at g2;exact x.new j e b h' g2
 .rcases own j e g1 with ⟨hj,_⟩|⟨hj,h'⟩
  .rw[atI g1 hj]at g3;cases g3;rcases own k f g2 with ⟨hk,_⟩|⟨hk,h''⟩
   .exact hj.symm.trans hk
   .rw[Dt hk]at g4;exact absurd (.inr ⟨k,f,h'',g4⟩) nA
  .rw[Dt hj]at g3;rcases own k f g2 with ⟨hk,_⟩|⟨hk,h''⟩
   .rw[atI g2 hk]at g4;cases g4;exact absurd (.inr ⟨j,e,h',g3⟩) nA
   .rw[Dt hk]at g4;exact x.dis j k e f b h' h'' g3 g4
theorem Sx.upd(x:Sx K CL Fz B U Z H){i:Ae}{d:D}{a:Al}{xs:Ac V}{ds:Ac D}(hi:U[i]?=Ab (Ab (d,Aa)))(ha:Z[i]?=Ab (Ab (.ref a)))(r:Reps K CL H (CP B U Z) xs ds):Sx K CL Fz B (U.set i (Ab (.lst ds,Aa))) Z (L2.upd H a (.lst xs)):=by
 have oa:CP B U Z a:=.inr ⟨i,d,hi,ha⟩;have hil:i<U.length:=(AW.mp hi).1;have get:∀(j:Ae)(e:D),(U.set i (Ab (.lst ds,Aa)))[j]?=Ab (Ab (e,Aa))↔(i=j/\e=.lst ds)\/(i≠j/\U[j]?=Ab (Ab (e,Aa))):=λj e=>by
  by_cases hj:i=j
  .subst hj;rw[Dl hil];simp;exact⟨λz=>z.symm,λz=>z.symm⟩
  .rw[Dt hj];simp[hj]
 have same:∀ b,CP B (U.set i (Ab (.lst ds,Aa))) Z b↔CP B U Z b:=λb=>by
  constructor
  .rintro (h|⟨j,e,h1,h2⟩)
   .exact .inl h
   .rcases (get j e).mp h1 with ⟨rfl,_⟩|⟨_,h1⟩
    .exact .inr ⟨i,d,hi,h2⟩
    .exact .inr ⟨j,e,h1,h2⟩
  .rintro (h|⟨j,e,h1,h2⟩)
   .exact .inl h
   .by_cases hj:i=j
    .subst hj;exact .inr ⟨i,.lst ds,(get i _).mpr (.inl ⟨rfl,rfl⟩),h2⟩
    .exact .inr ⟨j,e,(get j e).mpr (.inr ⟨hj,h1⟩),h2⟩
 have kp:Kp (CP B U Z) H (L2.upd H a (.lst xs)):=λb o e na=>by
  have hne:b≠a:=by
   rintro rfl;exact na oa
  rw[Dq hne];exact e
 refine⟨⟨λj e h=>?_,λj e h=>?_,by rw[By];exact x.len⟩,λb h=>?_,λj e b g1 g2=>?_,λj k e f b g1 g2 g3 g4=>?_,λb o z=>?_,by rw[By];exact x.len⟩
 .have hj:i≠j:=by
   rintro rfl;have:=HP h;cases this
  rw[Dt hj]at h;obtain⟨w',q,rw'⟩:=x.good.sh j e h;exact⟨w',q,Rep.sub (λb hb=>(same b).mp hb) _ (Rep.kp kp _ rw')⟩
 .rcases (get j e).mp h with ⟨rfl,rfl⟩|⟨hj,h'⟩
  .exact⟨a,xs,ds,ha,rfl,(same a).mpr oa,Jc,Reps.sub (λb hb=>(same b).mp hb) _ (Reps.kp kp _ r)⟩
  .obtain⟨b,ys,es,q,z,hb,hh,rr⟩:=x.good.ow j e h';have hne:b≠a:=λz=>hj (x.dis i j d e a hi h' ha (z ▸ q))
   exact⟨b,ys,es,q,z,(same b).mpr hb,by rw[Dq hne];exact hh,Reps.sub (λb hb=>(same b).mp hb) _ (Reps.kp kp _ rr)⟩
 .obtain⟨ys,q⟩:=x.aok b ((same b).mp h);by_cases e:b=a
  .rw[e];exact⟨xs,Jc⟩
  .exact⟨ys,by rw[Dq e];exact q⟩
 .rcases (get j e).mp g1 with ⟨rfl,_⟩|⟨_,h'⟩
  .exact x.new i d b hi g2
  .exact x.new j e b h' g2
 .rcases (get j e).mp g1 with ⟨rfl,_⟩|⟨hj,h'⟩
  .rcases (get k f).mp g2 with ⟨rfl,_⟩|⟨hk,h''⟩
   .rfl
   .exact x.dis i k d f b hi h'' g3 g4
  .rcases (get k f).mp g2 with ⟨rfl,_⟩|⟨hk,h''⟩
   .exact x.dis j i e d b h' hi g3 g4
   .exact x.dis j k e f b h' h'' g3 g4
 .have hne:b≠a:=λe=>(x.new i d a hi ha).1 o (e ▸ z)
  rw[Dq hne];exact x.same b o z
theorem Sx.rel(x:Sx K CL Fz B U Z H)(hi:U[i]?=Ab (Ab (d,Aa))):Sx K CL Fz B (U.set i (Ab (d,Af))) Z H:=by
 obtain⟨a,xs,ds,q,rfl,oa,hh,rr⟩:=x.good.ow i d hi;have own:∀(j:Ae)(e:D),(U.set i (Ab (.lst ds,Af)))[j]?=Ab (Ab (e,Aa))->i≠j/\U[j]?=Ab (Ab (e,Aa)):=λj e h=>by
  by_cases hj:i=j
  .subst hj;have:=HP h;cases this
  .exact⟨hj,by rw[Dt hj]at h;exact h⟩
 have sub:∀ b,CP B (U.set i (Ab (.lst ds,Af))) Z b->CP B U Z b:=λb h=>by
  rcases h with h|⟨j,e,h1,h2⟩
  .exact .inl h
  .exact .inr ⟨j,e,(own j e h1).2,h2⟩
 have na:¬ CP B (U.set i (Ab (.lst ds,Af))) Z a:=λh=>by
  rcases h with h|⟨j,e,h1,h2⟩
  .exact(x.new i _ a hi q).2 h
  .obtain⟨hj,h1⟩:=own j e h1;exact hj (x.dis i j _ e a hi h1 q h2)
 refine⟨⟨λj e h=>?_,λj e h=>?_,by rw[By];exact x.len⟩,λb h=>x.aok b (sub b h),λj e b g1 g2=>x.new j e b (own j e g1).2 g2,λj k e f b g1 g2 g3 g4=>x.dis j k e f b (own j e g1).2 (own k f g2).2 g3 g4,x.same,by rw[By];exact x.len⟩
 .by_cases hj:i=j
  .subst hj;have e1:=HP h;cases e1;exact⟨_,q,a,xs,rfl,.inl na,SqL.of hh,Reps.sub sub _ rr⟩
  .rw[Dt hj]at h;obtain⟨w',q',rw'⟩:=x.good.sh j e h;exact⟨w',q',Rep.sub sub _ rw'⟩
 .obtain⟨hj,h'⟩:=own j e h;obtain⟨b,ys,es,q',z,hb,hh',rr'⟩:=x.good.ow j e h';exact⟨b,ys,es,q',z,.inr ⟨j,e,h,q'⟩,hh',Reps.sub sub _ rr'⟩
end
section
variable{X:Cx}{CL:ClA}{W:XW}{pos:A3}{e:Am}{fe:Rho->R D}{fr:Aj}
theorem CJ.exC{f:D->O}(x:Sx X.K CL Fz B U Z H)(h:CJ X.K CL Fz B W (O.of U r f) D')(k:∀ d v H',r=.ok d->AO H H'->E6 X.K CL fr H A H' v d->Sx X.K CL Fz B U Z H'->CJ X.K CL Fz B W (f d) D'->Q v H'):Bk (E6 X.K CL fr H A) W H r Q:=by
 cases r with
 |ok d=>exact λv H' s r=>k d v H' rfl s r (x.grow s) h
 |exn y=>exact λH' s=>h H' λb o z=>s _ _ (x.same b o z)
 |bad=>exact h
def SAs(X:Cx)(CL:ClA)(W:XW)(fr:Aj)(i:Ae)(st:Bm)(f:Rho->R D):Prop:=∀ A,PS X st (P3 (λZ H Q=>AOk H A/\∃ U,Good X.K CL A U Z H/\Bk (E6 X.K CL fr H A) W H (f U) Q) (Hm i))
theorem SC.sas{n:Ak}(hN:X.N.Nodup)(hi:X.N[i]?=Ab n)(hx:Loc X.env.scope n)(he:SC X CL W fr e fe)(hs:EI e (Ab (.Name n pos')) pos.line X.env=pure Af)(hf:X.fn n=Aa\/X.env.scope.names.lookup n=Ab .local):SAs X CL W fr i (.Assign [.Name n pos'] e pos) fe:=
 λA=>lH hN hi hx (he A) hs hf
theorem Z_5{n:Ak}{fe:Rho->R D}{g:TG}(hc:X.calm=Aa)(B:BlockOk X scope N' ts)(hi:SI X CL W tg iter fi)(hGG:GG X.K CL ts as g)(hg:∀ cl C s H fp,PG (cxC X scope cl C N' s H fp) tg g)(ht:∀ cl C s H fp,STs (cxC X scope cl C N' s H fp) CL ifs fc)(he:∀ cl C s H fp,SE (cxC X scope cl C N' s H fp) CL W0 elt fe)(hs:∀ x,Dh iter X.env x=pure x)(hN:X.N.Nodup)(hni:X.N[i]?=Ab n)(hx:X.env.scope.names.lookup n=Ab .local)(hsw:EI (.ListComp elt [⟨tg,iter,ifs,0⟩] scope pos) (Ab (.Name n pos')) pos2.line X.env=pure Aa):SAs X CL W Aa i (.Assign [.Name n pos'] (.ListComp elt [⟨tg,iter,ifs,0⟩] scope pos) pos2) (λU=>(fi U).bind λxs=>(noX (BK (λx=>(as x U).bind fc) (λx=>(as x U).bind fe) xs)).bind λys=>.ok (.lst ys)):=λA pins s Z H Dn I ⟨hA,U,gd,p⟩=>
 dP hc B (hi A) hg (λcl C s H fp=>ht cl C s H fp A) (λcl C s H fp=>he cl C s H fp A) hs hN hni hx hsw pins s Z H Dn I ⟨hA,U,gd,Rl hGG hA gd p⟩
theorem Tk{st:Bm}(h:SAs X CL W fr i st fe):SS X CL W st (λU=>O.of U (fe U) λd=>.next (U.set i (Ab (d,Af)))):=λFz B pins s Z H D I ⟨U,x,p⟩=>
 h (CP B U Z) pins s Z H D I ⟨x.aok,U,x.good,CJ.exC x p λd v H' _ s r x' q=>q _ H' (x'.set i r.1)⟩
theorem eJ{st:Bm}(h:SAs X CL W Aa i st fe):SS X CL W st (λU=>O.of U (fe U) λd=>setF U i d):=λFz B pins s Z H D I ⟨U,x,p⟩=>
 h (CP B U Z) pins s Z H D I ⟨x.aok,U,x.good,CJ.exC x p λd v H' _ s r x' q=>by
  cases d with
  |lst ds=>
   obtain⟨a,xs,rfl,h0,h1,rs⟩:=r.2 rfl ds rfl;exact q _ H' (x.setF s h0 h1 rs)
  |dic ds=>exact r.1.elim
  | _=>exact q.elim⟩
theorem eF(he:SC X CL W Aa e fe):SS X CL W (.Return (Ab e) pos) (λU=>O.of U (fe U) λd=>.ret d Aa):=λFz B pins s Z H D I ⟨U,x,p⟩=>
 Pb (he (CP B U Z)) pins s Z H D I ⟨x.aok,U,x.good,CJ.exC x p λd v H' _ s r x' q=>q v H' x'.same (Rep.sub (λa h=>.inl h) _ r.1) λ_ ds e=>by
  obtain⟨a,xs,h0,h1,h2,h3⟩:=r.2 rfl ds e;refine⟨a,xs,h0,λo z=>?_,h2,Reps.sub (λb hb=>hb.imp .inl id) _ h3⟩
  have:=x.same a o z;rw[h1]at this;cases this⟩
noncomputable def P9(U:Rho)(i:Ae):Aj:=match U[i]? with
  |some (Ab (_,o))=>o
  |_=>Af
theorem eD(he:PE X e (JQ i)):SS X CL W (.Return (Ab e) pos) (λU=>O.of U (Gp U i) λd=>.ret d (P9 U i)):=λFz B pins s Z H D I ⟨U,x,p⟩=>
 Pb he pins s Z H D I (by
  dsimp only at p;cases e:Gp U i with
  |bad=>rw[e]at p;exact p.elim
  |exn z=>exact(R5 e).elim
  |ok d=>
   rw[e]at p;obtain⟨o,e⟩:=So e;have eo:P9 U i=o:=by unfold P9;rw[e]
   rw[O.of_ok,eo]at p;cases o with
   |false=>
    obtain⟨v,q,r⟩:=x.good.sh i d e;exact⟨v,q,p v H x.same (Rep.sub (λa h=>.inl h) _ r) λz=>nomatch z⟩
   |true=>
    obtain⟨a,xs,ds,q,rfl,ha,hh,r⟩:=x.good.ow i d e;obtain⟨n1,n2⟩:=x.new i _ a e q;refine⟨_,q,p _ H x.same ⟨a,xs,rfl,.inl n2,SqL.of hh,Reps.sub (λa h=>.inl h) _ r⟩ λ_ ds' e'=>?_⟩
    cases e';exact⟨a,xs,rfl,n1,hh,Reps.sub (λb hb=>hb.elim .inl λz=>z ▸ ha) _ r⟩)
theorem OO{ds:Ac D}(h:Dj U i=.ok ds):U[i]?=Ab (Ab (.lst ds,Aa)):=by
 unfold Dj at h;split at h
 .rename_i e;cases h;exact e
 .cases h
theorem OF{x:Ex}(h:Dj U i=.exn x):Bj:=by
 unfold Dj at h;split at h<;>cases h
variable{o:Am}{i:Ae}{apos cpos:A3}
theorem jZ(ho:PE X o (JQ i))(he:SE X CL W e fe)(hbase:Gb o "append" X.env (eval o X.env)=eval o X.env)(hfew:((Cz cpos (AI [e] X.env)).all (λx=>!x.1)&&(IW cpos (G3 [] X.env)).all (λx=>x.1.isSome)&&decide ([e].length+([]:Ac Ei).length+(if ([]:Ac Ei).isEmpty then 0 else 1)<30))=Aa)(hline:(apos.endLine==cpos.line)=Aa)(hs:AI [e] X.env=[(Af,eval e X.env)])(hsw:EI (.Call (.Attribute o "append" apos) [e] [] cpos) Ad pos.line X.env=pure Af):
  SS X CL W (.Expr (.Call (.Attribute o "append" apos) [e] [] cpos) pos) (λU=>O.of U (Dj U i) λxs=>O.of U (fe U) λd=>if BQ (xs.length+1)=Aa then .next (U.set i (Ab (.lst (xs++[d]),Aa))) else .bad):=λFz B pins s Z H D I ⟨U,x,p⟩=>by
 refine MR (M6 FT PySem.F.slot_list_append PySem.F.type_list_append Zo ho (FB (he (CP B U Z)) G1 hs) hbase hfew hline hs rfl) hsw pins s Z H D I ?_;dsimp only at p;cases e1:Dj U i with
 |bad=>rw[e1]at p;exact p.elim
 |exn z=>exact(OF e1).elim
 |ok ds=>
  rw[e1,O.of_ok]at p;have hi:=OO e1;obtain⟨a,xs,ds',q,e2,ha,hh,r⟩:=x.good.ow i _ hi;cases e2;refine⟨_,q,.inl ⟨rfl,xs,SqL.of hh⟩,x.aok,U,x.good,CJ.ex x p λd v H' _ s rv x' q'=>?_⟩
  split at q'
  .rename_i hz;refine⟨a,xs,v,rfl,rfl,s _ _ hh,?_,q' _ _ (x'.upd hi q ((r.same s).append ⟨rv,trivial⟩))⟩;have:=Je hz;rw[r.length];omega
  .exact q'.elim
theorem jY(ho:PE X o (JQ i))(he:SC X CL W Aa e fe)(hbase:Gb o "extend" X.env (eval o X.env)=eval o X.env)(hfew:((Cz cpos (AI [e] X.env)).all (λx=>!x.1)&&(IW cpos (G3 [] X.env)).all (λx=>x.1.isSome)&&decide ([e].length+([]:Ac Ei).length+(if ([]:Ac Ei).isEmpty then 0 else 1)<30))=Aa)(hline:(apos.endLine==cpos.line)=Aa)(hs:AI [e] X.env=[(Af,eval e X.env)])(hsw:EI (.Call (.Attribute o "extend" apos) [e] [] cpos) Ad pos.line X.env=pure Af):
  SS X CL W (.Expr (.Call (.Attribute o "extend" apos) [e] [] cpos) pos) (λU=>O.of U (Dj U i) λxs=>O.of U (fe U) λd=>O.of U (JN d) λys=>if BQ (xs.length+ys.length)=Aa then .next (U.set i (Ab (.lst (xs++ys),Aa))) else .bad):=λFz B pins s Z H D I ⟨U,x,p⟩=>by
 refine MR (M6 FT Fc Xi Zn ho (FB (he (CP B U Z)) G1 hs) hbase hfew hline hs rfl) hsw pins s Z H D I ?_;dsimp only at p;cases e1:Dj U i with
 |bad=>rw[e1]at p;exact p.elim
 |exn z=>exact(OF e1).elim
 |ok ds=>
  rw[e1,O.of_ok]at p;have hi:=OO e1;obtain⟨a,xs,ds',q,e2,ha,hh,r⟩:=x.good.ow i _ hi;cases e2;refine⟨_,q,.inl ⟨rfl,xs,SqL.of hh⟩,x.aok,U,x.good,CJ.exC x p λd v H' _ s rv x' q'=>?_⟩
  cases d with
  |lst es=>
   obtain⟨b,ys,rfl,h0,h1,rs⟩:=rv.2 rfl es rfl;rw[QY,O.of_ok]at q';split at q'
   .rename_i hz;refine⟨a,b,xs,ys,rfl,rfl,s _ _ hh,h1,?_,q' _ _ (x'.upd hi q ((r.same s).append (Reps.sub (λc hc=>.inl hc) _ rs)))⟩
    rw[r.length,rs.length];exact Je hz
   .exact q'.elim
  |_=>exact q'.elim
theorem eA{rest:Ac Bm}{f:Rho->O}(i:Ae)(h:SSs X CL W rest f):SSs X CL W rest (λU=>(match U[i]? with
   |some (Ab (d,Aa))=>O.next (U.set i (Ab (d,Af)))
   | _=>O.next U).seq f):=λFz B=>PSs.weak (h Fz B) λD Z H ⟨U,x,p⟩=>by
 dsimp only at p;split at p
 .rename_i d e;exact⟨_,x.rel e,p⟩
 .exact⟨U,x,p⟩
end
section
variable{X:Cx}{CL:ClA}{W:XW}{pos:A3}{e k o:Am}{fe fk:Rho->R D}{i:Ae}{apos cpos:A3}
theorem A6.take{its:Ac Ai}(r:A6 xs its):∀ n,A6 (xs.take n) (its.take n):=by
 induction r with
 |nil=>intro n;simp;exact .nil
 |cons h _ ih=>
  intro n;cases n with
  |zero=>exact .nil
  |succ n=>exact .cons h (ih n)
theorem A6.drop{its:Ac Ai}(r:A6 xs its):∀ n,A6 (xs.drop n) (its.drop n):=by
 induction r with
 |nil=>intro n;simp;exact .nil
 |cons h t ih=>
  intro n;cases n with
  |zero=>exact .cons h t
  |succ n=>exact ih n
end
section
variable{prog:AR}{w:AT}{A:AU}{E:Vq}{s:Ap}
theorem kQ{j t:Al}{x:Ai}{Q:Vq}(st:s.heap.IsTupleIter j t k)(sq:s.heap.IsTuple t its)(at_:its[k]?=Ab x)(go:∀ h2,h2.IsTupleIter j t (k+1)->Ee j s.heap h2->Q x {s with heap:=h2}):Az (model prog w) A (BG (.ref j)) Q E s:=by
 obtain⟨oj,gj,cj,dj⟩:=id st;obtain⟨ot,gt,_,nt,dt⟩:=sq;show Az _ _ (callSpecial? _ _ >>= _) _ _ _;refine Ah (Ci st.typeIs El (B0 El st.typeIs W8 ?_ (W4 _)));show Az _ _ (field (.ref j) 0 >>= _) _ _ _;refine Ah (BY gj dj (x:=.ref t) rfl ?_);show Az _ _ (field (.ref j) 1 >>= _) _ _ _;refine Ah (BY gj dj (x:=.int k 0) rfl ?_);refine Ah (Da gt dt ?_);simp only[Hu,at_];exact Ah (D7 gj dj (by simp) (At ⟨x,rfl,At (go _ ⟨_,Cv _ gj (Dv (Ca dj _)),(FZ ..).trans cj,by rw[Ca dj];simp[Cr]⟩ (CH ..))⟩))
theorem Zm{j t:Al}{Q:Vq}(calm:A.handled=Ad)(st:s.heap.IsTupleIter j t k)(sq:s.heap.IsTuple t its)(at_:its[k]?=Ad)(up:∀ h2 e,JV j s.heap h2->(∃ o,h2.get? e=Ab o/\o.cls=.type "StopIteration")->E (.ref e) {s with heap:=h2}):Az (model prog w) A (BG (.ref j)) Q E s:=by
 obtain⟨oj,gj,cj,dj⟩:=id st;obtain⟨ot,gt,_,nt,dt⟩:=sq;show Az _ _ (callSpecial? _ _ >>= _) _ _ _;refine Ah (Ci st.typeIs El (B0 El st.typeIs W8 ?_ (W4 _)));show Az _ _ (field (.ref j) 0 >>= _) _ _ _;refine Ah (BY gj dj (x:=.ref t) rfl ?_);show Az _ _ (field (.ref j) 1 >>= _) _ _ _;refine Ah (BY gj dj (x:=.int k 0) rfl ?_);refine Ah (Da gt dt ?_);simp only[Hu,at_];refine Ah (GH (Ah (D7 gj dj (by simp) ?_)))
 refine Ah ?_;simp only[newExc,newTuple];refine Ah (CG ?_ (by size_fits))
 refine Ah (m:=GX _ _) (Do (a:=.none) (by first|rfl|(simp only[GX];rfl)) (CG ?_ (by size_fits)))
 simp only[Ly];refine Ah (wpAny_handled ?_)
 first|rw[show A.in1.handled=Ad from calm]|rw[calm]
 exact Ah (At (wpAny_throw (up _ _ (((CH ..).extBut.push _).push _) ⟨_,AD _ rfl,rfl⟩)))
end
structure Dw (prog:AR) (w:AT) (A:AU) (j:Al) (fp:Ac Al) (n:Ae) (P:Ae->Ai->Prop) (S:Ae->AM->Prop):Prop where
 frame:∀ i h h2,S i h->(∀ c∈fp,∀ o,h.get? c=Ab o->h2.get? c=Ab o)->S i h2
 item:∀ i (s:Ap) (Q:Vq) (E:Vq),i<n->S i s.heap->(∀ x h2 tk,P i x->S (i+1) h2->Ee j s.heap h2->Q x {s with heap:=h2,toks:=tk})->Az (model prog w) A (BG (.ref j)) Q E s
 done:∀ i (s:Ap) (Q:Vq) (E:Vq),n<=i->S i s.heap->(∀ h2 e,JV j s.heap h2->(∃ o,h2.get? e=Ab o/\o.cls=.type "StopIteration")->E (.ref e) {s with heap:=h2})->Az (model prog w) A (BG (.ref j)) Q E s
def Gs(t:Aj)(h:AM)(j l:Al)(i:Ae):Prop:=match t with
  |true=>h.IsTupleIter j l i
  |false=>h.IsListIter j l i
def Fh(t:Aj)(h:AM)(l:Al)(its:Au Ai):Prop:=match t with
  |true=>h.IsTuple l its
  |false=>h.IsList l its
theorem Le{A:AU}(calm:A.handled=Ad)(t:Aj)(j l:Al)(ne:l≠j)(its:Au Ai):Dw prog w A j [j,l] its.size (λi v=>its[i]?=Ab v) (λi h=>Gs t h j l i/\Fh t h l its):=by
 cases t with
 |true=>exact⟨λ_ _ _ z k=>⟨z.1.at λo e=>k j (by simp) o e,z.2.at λo e=>k l (by simp) o e⟩,λi s Q E hi z q=>kQ z.1 z.2 (x:=its[i]) (by simp[hi]) λh2 z2 sb=>q _ h2 s.toks (by simp[hi]) ⟨z2,z.2.extBut sb.extBut ne⟩ sb,λi s Q E hi z q=>Zm calm z.1 z.2 (by simp[hi]) q⟩
 |false=>exact⟨λ_ _ _ z k=>⟨z.1.at λo e=>k j (by simp) o e,z.2.at λo e=>k l (by simp) o e⟩,λi s Q E hi z q=>wpAny_nextOf_list_item z.1 z.2 (x:=its[i]) (by simp[hi]) λh2 z2 sb=>q _ h2 s.toks (by simp[hi]) ⟨z2,z.2.extBut sb.extBut ne⟩ sb,λi s Q E hi z q=>wpAny_nextOf_list_end calm z.1 z.2 (by simp[hi]) q⟩
theorem nb1{I l c:Ae}(b:l<I)(h:c∈[I,l])(j:Ae):c≠I+(j+1):=by
 have h':c=I\/c=l:=by simpa using h
 omega
theorem nb2{I l c:Ae}(b:l<I)(h:c∈[I+1,l]):c≠I/\c≠I+3/\c≠I+4:=by
 have h':c=I+1\/c=l:=by simpa using h
 omega
theorem nij{I i j:Ae}(h:i≠j):I+i≠I+j:=by omega
theorem ni0{I i:Ae}(h:i≠0):I+i≠I:=by omega
section
variable{prog:AR}{w:AT}{A:AU}{E:Vq}{s:Ap}
theorem RY{I l1 l2 n1 n2 k:Ae}{P1 P2:Ae->Ai->Prop}{S1 S2:Ae->AM->Prop}{a b:Ai}{Q:Vq}(b1:l1<I)(b2:l2<I)(D1:Dw prog w A I [I,l1] n1 P1 S1)(D2:Dw prog w A (I+1) [I+1,l2] n2 P2 S2)(hz:Ga s.heap (I+4) (I+2) (I+3) .none)(hI:EN s.heap (I+2) (.ref I) (.ref (I+1)))(hO:EN s.heap (I+3) a b)(g1:S1 k s.heap)(g2:S2 k s.heap)(k1:k<n1)(k2:k<n2)(go:∀ x y h2 tk,P1 k x->P2 k y->Ga h2 (I+4) (I+2) (I+3) (Cr s.heap.objs.size)->EN h2 (I+3) x y->S1 (k+1) h2->S2 (k+1) h2->EN h2 s.heap.objs.size x y ->
   (∀ c o,c∉[I,I+1,I+3,I+4]->s.heap.get? c=Ab o->h2.get? c=Ab o)->Q (.ref s.heap.objs.size) {s with heap:=h2,toks:=tk}):Az (model prog w) A (Builtin.«zip.__next__» ⟨[.ref (I+4)],[]⟩) (λfin s'=>∃ v,fin=.done (.ret v)/\Q v s') E s:=by
 refine Ah (m:=field (.ref (I+4)) 2) (BY hz rfl (x:=.bool Af) rfl ?_);refine Ah (m:=field (.ref (I+4)) 3) (BY hz rfl (x:=.ref (I+2)) rfl (Ah (Da hI rfl ?_)));refine Ah (m:=C8 (.ref (I+4))) ?_;simp only[C8];refine Ah (BY hz rfl (x:=.none) rfl (At ?_));rw[Ar rfl];refine Ah (GH (Ah (BY hz rfl (x:=.ref (I+3)) rfl (Ah (Eg hz (by simp) λp1 z1 e1=>Ah ?_)))))
 have z1':Ga p1 (I+4) (I+2) (I+3) .ellipsis:=z1;simp only[HJ,V2,Ii,GV];refine Ah (Ah (Gd (Ah (m:=BG (.ref I)) (D1.item k _ _ _ k1 (D1.frame _ _ _ g1 λc hc o q=>e1.extBut c o (nb1 b1 hc 3) q) λx p2 t2 px s2 e2=>At ?_))))
 have o2:EN p2 (I+3) a b:=e2.extBut _ _ (ni0 (by decide)) (e1.extBut _ _ (nij (by decide)) hO)
 refine Ah (Da o2 rfl (Ah (GI o2 λp3 o3 e3=>Ah (JZ (At ?_)))))
 have o3':EN p3 (I+3) x b:=o3;have g2':S2 k p3:=D2.frame _ _ _ g2 λc hc o q=>e3.extBut c o (nb2 b2 hc).2.1 (e2.extBut c o (nb2 b2 hc).1 (e1.extBut c o (nb2 b2 hc).2.2 q))
 refine Ah (Ah (Gd (Ah (m:=BG (.ref (I+1))) (D2.item k _ _ _ k2 g2' λy p4 t4 py s4 e4=>At ?_))))
 have o4:EN p4 (I+3) x b:=e4.extBut _ _ (nij (by decide)) o3'
 refine Ah (Da o4 rfl (Ah (GI o4 λp5 o5 e5=>Ah (JZ (At (At ?_))))))
 have o5':EN p5 (I+3) x y:=o5;have sz:p5.objs.size=s.heap.objs.size:=by rw[e5.1,e4.1,e3.1,e2.1,e1.1]
 have z5:Ga p5 (I+4) (I+2) (I+3) .ellipsis:=e5.extBut _ _ (nij (by decide)) (e4.extBut _ _ (nij (by decide)) (e3.extBut _ _ (nij (by decide)) (e2.extBut _ _ (ni0 (by decide)) z1')))
 refine Ah (Da o5' rfl (Ah (Yg ?_)));refine Ah (m:=Wt (.ref (I+4)) (.ref p5.objs.size)) ?_;simp only[Wt];have z6:Ga (p5.push { cls:=.type "tuple",data:=.seq #[x,y] }) (I+4) (I+2) (I+3) .ellipsis:=Aq _ z5;refine Ah (Eg z6 (by simp) λp7 z7 e7=>?_)
 have z7':Ga p7 (I+4) (I+2) (I+3) (Cr p5.objs.size):=z7;refine Eg z7' (by simp) λp8 z8 e8=>At ⟨_,rfl,?_⟩
 have z8':Ga p8 (I+4) (I+2) (I+3) (Cr p5.objs.size):=z8;have lt5:I+4<p5.objs.size:=AJ z5;have up:∀ c o,c≠I+4->p5.get? c=Ab o->p8.get? c=Ab o:=λc o nc q=>e8.extBut _ _ nc (e7.extBut _ _ nc (Aq _ q))
 have t8:EN p8 p5.objs.size x y:=e8.extBut _ _ (EK lt5) (e7.extBut _ _ (EK lt5) (AD _ rfl));have a1:S1 (k+1) p8:=D1.frame _ _ _ s2 λc hc o q=>up c o (nb1 b1 hc 3) (e5.extBut c o (nb1 b1 hc 2) (e4.extBut c o (nb1 b1 hc 0) (e3.extBut c o (nb1 b1 hc 2) q)))
 have a2:S2 (k+1) p8:=D2.frame _ _ _ s4 λc hc o q=>up c o (nb2 b2 hc).2.2 (e5.extBut c o (nb2 b2 hc).2.1 q)
 have kp:∀ c o,c∉[I,I+1,I+3,I+4]->s.heap.get? c=Ab o->p8.get? c=Ab o:=λc o nc q=>by
  simp only[AK,Bf,CB,Fi]at nc;exact up c o nc.2.2.2 (e5.extBut c o nc.2.2.1 (e4.extBut c o nc.2.1 (e3.extBut c o nc.2.2.1 (e2.extBut c o nc.1 (e1.extBut c o nc.2.2.2 q)))))
 have q:=go x y p8 t4 px py (by rw[<-sz];exact z8') (up _ _ (nij (by decide)) o5') a1 a2 (by rw[<-sz];exact t8) kp
 rw[<-sz]at q;exact q
theorem Sj{I l1 l2 n1 n2 k:Ae}{P1 P2:Ae->Ai->Prop}{S1 S2:Ae->AM->Prop}{a b:Ai}{Q:Fin->Ap->Prop}(b1:l1<I)(b2:l2<I)(D1:Dw prog w A I [I,l1] n1 P1 S1)(D2:Dw prog w A (I+1) [I+1,l2] n2 P2 S2)(hz:Ga s.heap (I+4) (I+2) (I+3) .none)(hI:EN s.heap (I+2) (.ref I) (.ref (I+1)))(hO:EN s.heap (I+3) a b)(g1:S1 k s.heap)(g2:S2 k s.heap)(hk:n1<=k\/(k<n1/\n2<=k))(up:∀ h2 e tk,(∀ c o,c∉[I,I+1,I+3,I+4]->s.heap.get? c=Ab o->h2.get? c=Ab o)->(∃ o,h2.get? e=Ab o/\o.cls=.type "StopIteration")->E (.ref e) {s with heap:=h2,toks:=tk}):Az (model prog w) A (Builtin.«zip.__next__» ⟨[.ref (I+4)],[]⟩) Q E s:=by
 refine Ah (m:=field (.ref (I+4)) 2) (BY hz rfl (x:=.bool Af) rfl ?_);refine Ah (m:=field (.ref (I+4)) 3) (BY hz rfl (x:=.ref (I+2)) rfl (Ah (Da hI rfl ?_)));refine Ah (m:=C8 (.ref (I+4))) ?_;simp only[C8];refine Ah (BY hz rfl (x:=.none) rfl (At ?_));rw[Ar rfl];refine Ah (GH (Ah (BY hz rfl (x:=.ref (I+3)) rfl (Ah (Eg hz (by simp) λp1 z1 e1=>Ah ?_)))))
 have z1':Ga p1 (I+4) (I+2) (I+3) .ellipsis:=z1;simp only[HJ,V2,Ii,GV];have g1':S1 k p1:=D1.frame _ _ _ g1 λc hc o q=>e1.extBut c o (nb1 b1 hc 3) q
 rcases hk with k1|⟨k1,k2⟩
 .refine Ah (Ah (Gd (Ah (m:=BG (.ref I)) (D1.done _ _ _ _ k1 g1' λp2 e e2 he=>?_))))
  obtain⟨oe,hoe,hce⟩:=he;have z2:Ga p2 (I+4) (I+2) (I+3) .ellipsis:=e2 _ _ (ni0 (by decide)) z1'
  have ne:e≠I+4:=λx=>by subst x;rw[z2]at hoe;cases hoe;simp at hce
  refine Eg z2 (by simp) λp3 _ e3=>up p3 e s.toks (λc o nc q=>?_) ⟨oe,e3.extBut _ _ ne hoe,hce⟩
  simp only[AK,Bf,CB,Fi]at nc;exact e3.extBut c o nc.2.2.2 (e2 c o nc.1 (e1.extBut c o nc.2.2.2 q))
 .refine Ah (Ah (Gd (Ah (m:=BG (.ref I)) (D1.item k _ _ _ k1 g1' λx p2 t2 px s2 e2=>At ?_))))
  have o2:EN p2 (I+3) a b:=e2.extBut _ _ (ni0 (by decide)) (e1.extBut _ _ (nij (by decide)) hO)
  refine Ah (Da o2 rfl (Ah (GI o2 λp3 o3 e3=>Ah (JZ (At ?_)))))
  have g2':S2 k p3:=D2.frame _ _ _ g2 λc hc o q=>e3.extBut c o (nb2 b2 hc).2.1 (e2.extBut c o (nb2 b2 hc).1 (e1.extBut c o (nb2 b2 hc).2.2 q))
  refine Ah (Ah (Gd (Ah (m:=BG (.ref (I+1))) (D2.done _ _ _ _ k2 g2' λp4 e e4 he=>?_))))
  obtain⟨oe,hoe,hce⟩:=he;have z4:Ga p4 (I+4) (I+2) (I+3) .ellipsis:=e4 _ _ (nij (by decide)) (e3.extBut _ _ (nij (by decide)) (e2.extBut _ _ (ni0 (by decide)) z1'))
  have ne:e≠I+4:=λx=>by subst x;rw[z4]at hoe;cases hoe;simp at hce
  refine Eg z4 (by simp) λp5 _ e5=>up p5 e t2 (λc o nc q=>?_) ⟨oe,e5.extBut _ _ ne hoe,hce⟩
  simp only[AK,Bf,CB,Fi]at nc;exact e5.extBut c o nc.2.2.2 (e4 c o nc.2.1 (e3.extBut c o nc.2.2.1 (e2.extBut c o nc.1 (e1.extBut c o nc.2.2.2 q))))
end
def SqX(t:Aj)(K:Fg)(H:Hp)(a:Al)(xs:Ac V):Prop:=match t with
  |true=>SqT K H a xs
  |false=>SqL K H a xs
theorem Jj(I:Inv X pins Z H s)(h:SqX t X.K H a xs):∃ its:Ac Ai,A6 xs its/\Fh t s.heap a its.toArray/\xs.length<=sizeLine:=by
 cases t with
 |true=>
  obtain⟨its,rv,p,z⟩:=I.tuple h;exact⟨its,rv,p,z⟩
 |false=>
  obtain⟨its,rv,p,z⟩:=I.list h;exact⟨its,rv,p.isList,z⟩
theorem NP(I:Inv X pins Z H s)(h:SqX t X.K H a xs)(h2:SqX t X.K H a ys):xs=ys:=by
 cases t with
 |true=>exact I.tuple_inj h h2
 |false=>exact I.list_inj h h2
noncomputable def Itz(K:Fg)(t1 t2:Aj)(a b:Al):It:=
  ⟨λi H=>∃ xs ys x y,SqX t1 K H a xs/\SqX t2 K H b ys/\xs[i]?=Ab x/\ys[i]?=Ab y,
   λi H v H'=>∃ p x y,H p=Ad/\v=.ref p/\(∀ xs,SqX t1 K H a xs->xs[i]?=Ab x)/\(∀ ys,SqX t2 K H b ys->ys[i]?=Ab y)/\H'=upd H p (.tup [x,y]),
   λi H=>∃ xs ys,SqX t1 K H a xs/\SqX t2 K H b ys/\(xs.length<=i\/(i<xs.length/\ys.length<=i))⟩
theorem Inv.turnedL{t':Ae}(ch:Ac Al)(I:Inv X pins Z H s)(k:∀ b o,b∉ch->s.heap.get? b=Ab o->h'.get? b=Ab o)(hf:∀ b∈ch,GN X pins H b):Inv X pins Z H {s with heap:=h',toks:=t'}:=by
 have nit:∀ b u,H b=Ab u->b∉ch:=λb u e z=>by rw[(hf b z).1]at e;cases e
 refine I.step (g':=s.gens) (d':=s.drawn) (ch:=ch) (λb hb=>⟨(hf b hb).2.2.2.1,(hf b hb).2.1,(hf b hb).2.2.2.2.1,(hf b hb).2.2.2.2.2⟩) (λb o _ _ hc e _=>k b o hc e) (λb o _ _ hc e _=>⟨o.slots,k b o hc e⟩) (λ_ _ _ _ n=>n)
  (λb o hc e=>⟨o,k b o hc e⟩) (λ_ _ e=>e) (λ_ _ _ e=>e) (λb ps e=>⟨#[],by rw[e];simp⟩) (λm ⟨o,es,ep,ho,r⟩=>⟨o,es,ep,k _ o (λz=>(hf _ z).2.1 rfl) ho,r⟩) (λb u e=>(I.hok b u e).stay (λc v hc q=>k c v ?_ q) (λ_ q=>q) λ_ _ q=>q) I.bare
 rcases hc with z|z
 .rw[z];exact nit b u e
 .exact nit c _ z
def zTn(t1 t2:Aj)(I l1 l2:Ae)(i:Ae)(h:AM):Prop:=Ga h (I+4) (I+2) (I+3) .none/\EN h (I+2) (.ref I) (.ref (I+1))/\(∃ a b,EN h (I+3) a b)/\Gs t1 h I l1 i/\Gs t2 h (I+1) l2 i
noncomputable def zFp(I:Ae):Ac Al:=[I,I+1,I+2,I+3,I+4]
theorem Gs.obj{j:Al}(z:Gs t h j l i):∃ o,h.get? j=Ab o/\∀ v,o.data≠.cell v:=by
 cases t with
 |true=>obtain⟨o,e,c,d⟩:=z;exact⟨o,e,λv z=>by rw[d]at z;cases z⟩
 |false=>obtain⟨o,e,c,d⟩:=z;exact⟨o,e,λv z=>by rw[d]at z;cases z⟩
theorem Gs.at'{h2:AM}{j:Al}(z:Gs t h j l i)(k:∀ o,h.get? j=Ab o->h2.get? j=Ab o):Gs t h2 j l i:=by
 cases t with
 |true=>exact PySem.Heap.IsTupleIter.at z k
 |false=>exact PySem.Heap.IsListIter.at z k
theorem ZS(t1 t2:Aj)(I l1 l2:Ae)(b1:l1<I)(b2:l2<I):Turn P w K (.Tuple es n pos) (Itz K t1 t2 l1 l2) (zFp I) (I+4) (zTn t1 t2 I l1 l2) where
  mem:=by simp[zFp]
  obj:=λi h ⟨z1,z2,⟨a,b,z3⟩,z4,z5⟩ c hc=>by
    simp only[zFp,AK,Bf,CB]at hc;rcases hc with rfl|rfl|rfl|rfl|rfl
    · exact z4.obj
    · exact z5.obj
    · exact⟨_,z2,λv z=>by cases z⟩
    · exact⟨_,z3,λv z=>by cases z⟩
    · exact⟨_,z1,λv z=>by cases z⟩
  keep:=λi h h2 ⟨z1,z2,⟨a,b,z3⟩,z4,z5⟩ k=>⟨k _ (by simp[zFp]) _ z1,k _ (by simp[zFp]) _ z2,⟨a,b,k _ (by simp[zFp]) _ z3⟩,z4.at' λo e=>k _ (by simp[zFp]) o e,z5.at' λo e=>k _ (by simp[zFp]) o e⟩
  item:=by
    intro X hP hw hK hc i pins s Z H E Iv hf ⟨z1,z2,⟨a,b,z3⟩,z4,z5⟩ ⟨xs,ys,x,y,q1,q2,hx,hy⟩;subst hP hw hK;obtain⟨us,rx,sx,_⟩:=Jj Iv q1;obtain⟨vs,ry,sy,_⟩:=Jj Iv q2;obtain⟨u,hu,ru⟩:=rx.get hx;obtain⟨v,hv,rv⟩:=ry.get hy;have hT:s.TypeIs (.ref (I+4)) "zip" := ⟨_,z1,rfl⟩;have calm:X.A.in1.handled=Ad:=Iv.ok.hd hc;show Az _ _ (E4 _) _ _ _;simp only[E4];refine Ah (EY (Ci hT DI (B0 DI hT Gg (RY (k:=i) b1 b2 (Le calm t1 I l1 (AV b1) us.toArray) (Le calm t2 (I+1) l2 (AV (Bs b2)) vs.toArray) z1 z2 z3 ⟨z4,sx⟩ ⟨z5,sy⟩
      (by have:=(AW.mp hu).1;simpa using this) (by have:=(AW.mp hv).1;simpa using this) λx' y' h2 tk px py c1 c2 c3 c4 c5 kp=>At ?_) (FX _))))
    have ex:x'=u:=by
      have px':us[i]?=Ab x':=by simpa using px
      rw[hu]at px';exact(Bg px').symm
    have ey:y'=v:=by
      have py':vs[i]?=Ab y':=by simpa using py
      rw[hv]at py';exact(Bg py').symm
    subst ex ey;refine⟨_,rfl,Ye c1 λh3 d1 sb=>?_⟩
    have lt4:I+4<s.heap.objs.size:=AJ z1;have kp3:∀ c o,c∉zFp I->s.heap.get? c=Ab o->h3.get? c=Ab o:=λc o nc q=>by
      simp only[zFp,AK,Bf,CB,Fi]at nc;exact sb.extBut c o nc.2.2.2.2 (kp c o (by simp only[AK,Bf,CB,Fi];exact⟨nc.1,nc.2.1,nc.2.2.2.1,nc.2.2.2.2⟩) q)
    have nT:∀ c∈zFp I,c≠s.heap.objs.size:=λc hc z=>by
      have:c<=I+4:=by
        simp only[zFp,AK,Bf,CB]at hc;rcases hc with z|z|z|z|z<;>rw[z]<;>simp
      exact absurd (z ▸ G6 this lt4) (Bb _)
    have I1:Inv X pins Z (upd H s.heap.objs.size (.tup [x,y])) { s with heap:=s.heap.push { cls:=.type "tuple",data:=.seq #[x',y'] },toks:=s.toks }:=
      Iv.laid (λ_ _ q=>Aq _ q) (Aw _) ⟨(by decide:2<=sizeLine),[x',y'],.cons ru (.cons rv .nil),⟨_,AD _ rfl,rfl,_,rfl⟩⟩
    have hf':∀ b∈zFp I,GN X pins (upd H s.heap.objs.size (.tup [x,y])) b:=λb hb=>⟨by rw[Dq (nT b hb)];exact(hf b hb).1,(hf b hb).2⟩
    have I2:Inv X pins Z (upd H s.heap.objs.size (.tup [x,y])) {s with heap:=h3,toks:=tk}:=Inv.turnedL (s:={ s with heap:=s.heap.push { cls:=.type "tuple",data:=.seq #[x',y'] },toks:=s.toks }) (zFp I) I1 (λc o nc q=>by
      rcases Xk q with ⟨e1,e2⟩|e1
      · subst e1 e2;exact sb.extBut _ _ (EK lt4) c5
      · exact kp3 c o nc e1) hf'
    refine⟨.ref s.heap.objs.size,_,I2,rfl,⟨s.heap.objs.size,x,y,Iv.fresh,rfl,λzs hz=>by rw[NP Iv hz q1];exact hx,λzs hz=>by rw[NP Iv hz q2];exact hy,rfl⟩,⟨d1,sb.extBut _ _ (nij (by decide)) (kp _ _ (by simp) z2),⟨_,_,sb.extBut _ _ (nij (by decide)) c2⟩,c3.1.at' λo q=>sb.extBut _ o (DQ (ni0 (by decide))) q,c4.1.at' λo q=>sb.extBut _ o (nij (by decide)) q⟩,λb hb=>(hf' b hb).1⟩
  done:=by
    intro X hP hw hK hc i pins s Z H E Iv hf ⟨z1,z2,⟨a,b,z3⟩,z4,z5⟩ ⟨xs,ys,q1,q2,hk⟩;subst hP hw hK;obtain⟨us,rx,sx,_⟩:=Jj Iv q1;obtain⟨vs,ry,sy,_⟩:=Jj Iv q2;have hT:s.TypeIs (.ref (I+4)) "zip" := ⟨_,z1,rfl⟩;have calm:X.A.in1.handled=Ad:=Iv.ok.hd hc;have e1:=rx.length;have e2:=ry.length;simp only[E4];refine Ah (EY (Ci hT DI (B0 DI hT Gg (Sj (k:=i) b1 b2 (Le calm t1 I l1 (AV b1) us.toArray) (Le calm t2 (I+1) l2 (AV (Bs b2)) vs.toArray) z1 z2 z3 ⟨z4,sx⟩ ⟨z5,sy⟩
      (by simp only[AN];omega) λh2 e tk kp he=>?_) (FX _))))
    obtain⟨o,ho,hcl⟩:=he;refine Ah (Gi (T := "StopIteration") (b:=Aa) ⟨o,ho,hcl⟩ IP (At ⟨rfl,Inv.turnedL [I,I+1,I+3,I+4] Iv (λc o nc q=>kp c o nc q) λc hc=>hf c ?_⟩))
    simp only[AK,Bf,CB]at hc;simp only[zFp,AK,Bf,CB];rcases hc with rfl|rfl|rfl|rfl<;>simp
  self:=λ_ _ _ _ _ st h=>Gj st.1 h
section
variable{prog:AR}{w:AT}{A:AU}{E:Vq}{s:Ap}
noncomputable def itO(t:Aj)(l:Al):De:=match t with
  |true=>{ cls:=.type "tuple_iterator",data:=.fields #[.ref l,.int 0 0] }
  |false=>{ cls:=.type "list_iterator",data:=.fields #[.ref l,.int 0 0] }
theorem Pu{Q:Vq}(h:Fh t s.heap l its)(q:Q (.ref s.heap.objs.size) {s with heap:=s.heap.push (itO t l)}):Az (model prog w) A (Ha (.ref l)) Q E s:=by
 cases t with
 |true=>exact Yj h q
 |false=>exact F0 h q
theorem Fh.push(z:Fh t h l its)(o:De):Fh t (h.push o) l its:=by
 cases t with
 |true=>exact PySem.Heap.IsTuple.at z λ_ e=>Aq _ e
 |false=>exact PySem.Heap.IsList.at z λ_ e=>Aq _ e
theorem O8{j:Al}(e:h.get? j=Ab (itO t l)):Gs t h j l 0:=by
 cases t with
 |true=>exact⟨_,e,rfl,rfl⟩
 |false=>exact⟨_,e,rfl,rfl⟩
theorem Op(t:Aj)(l:Al):(itO t l).isFreed=Af:=by cases t<;>rfl
noncomputable abbrev zh2(t1 t2:Aj)(h:AM)(l1 l2:Al):AM:=(h.push (itO t1 l1)).push (itO t2 l2)
noncomputable abbrev zh3(t1 t2:Aj)(h:AM)(l1 l2:Al):AM:=(zh2 t1 t2 h l1 l2).push { cls:=.type "tuple",data:=.seq #[.ref h.objs.size,.ref (h.push (itO t1 l1)).objs.size] }
noncomputable abbrev zh4(t1 t2:Aj)(h:AM)(l1 l2:Al):AM:=(zh3 t1 t2 h l1 l2).push { cls:=.type "tuple",data:=.seq #[.none,.none] }
noncomputable abbrev zh5(t1 t2:Aj)(h:AM)(l1 l2:Al):AM:=(zh4 t1 t2 h l1 l2).push { cls:=.type "zip",data:=.fields #[.none,.bool Af,.bool Af,.ref (zh2 t1 t2 h l1 l2).objs.size,.ref (zh3 t1 t2 h l1 l2).objs.size] }
theorem bY(t1 t2:Aj)(l1 l2:Al)(xs ys:Au Ai):Meets (Builtin.«zip.__new__» ⟨[.type "zip",.ref l1,.ref l2],[]⟩) (λ_ R s=>Fh t1 s.heap l1 xs/\Fh t2 s.heap l2 ys/\R (.ok (.ret (.ref (zh4 t1 t2 s.heap l1 l2).objs.size))) {s with heap:=zh5 t1 t2 s.heap l1 l2}):=
 .of_wp λprog w A R s h=>by
  obtain⟨hp,g,d,tk,os⟩:=s;obtain⟨a1,a2,q⟩:=h;have hsub:=sub_zip;have L1:Fh t1 (JX ⟨hp,g,d,tk,os⟩) l1 xs:=a1;have L2:Fh t2 (JX ⟨hp.push (itO t1 l1),g,d,tk,os⟩) l2 ys:=a2.push _
  wp_walk using Pu L1,Pu L2
  exact⟨_,rfl,q⟩
theorem ZN{l1:Al}{xs ys:Au Ai}{Q:Vq}(a1:Fh t1 s.heap l1 xs)(a2:Fh t2 s.heap l2 ys)(q:∀ h2,zTn t1 t2 s.heap.objs.size l1 l2 0 h2->(∀ c o,s.heap.get? c=Ab o->h2.get? c=Ab o)->Q (.ref (s.heap.objs.size+4)) {s with heap:=h2}):Az (model prog w) A (call (.type "zip") [.ref l1,.ref l2]) Q E s:=by
 refine callType_new W5 (by decide) (Xh _ _) (Xa _ _) (λobj=>W2 obj _ _) W9 (bY t1 t2 l1 l2 xs ys) ⟨a1,a2,?_⟩
 have s1:(s.heap.push (itO t1 l1)).objs.size=s.heap.objs.size+1:=Ba ..;have s2:(zh2 t1 t2 s.heap l1 l2).objs.size=s.heap.objs.size+2:=by rw[Ba,s1]
 have s3:(zh3 t1 t2 s.heap l1 l2).objs.size=s.heap.objs.size+3:=by rw[Ba,s2]
 have s4:(zh4 t1 t2 s.heap l1 l2).objs.size=s.heap.objs.size+4:=by rw[Ba,s3]
 have u5:∀ {c o},(zh4 t1 t2 s.heap l1 l2).get? c=Ab o->(zh5 t1 t2 s.heap l1 l2).get? c=Ab o:=λe=>Aq _ e
 have u4:∀ {c o},(zh3 t1 t2 s.heap l1 l2).get? c=Ab o->(zh5 t1 t2 s.heap l1 l2).get? c=Ab o:=λe=>u5 (Aq _ e)
 have u3:∀ {c o},(zh2 t1 t2 s.heap l1 l2).get? c=Ab o->(zh5 t1 t2 s.heap l1 l2).get? c=Ab o:=λe=>u4 (Aq _ e)
 have u2:∀ {c o},(s.heap.push (itO t1 l1)).get? c=Ab o->(zh5 t1 t2 s.heap l1 l2).get? c=Ab o:=λe=>u3 (Aq _ e)
 have g5:(zh5 t1 t2 s.heap l1 l2).get? (zh4 t1 t2 s.heap l1 l2).objs.size=Ab _:=AD _ rfl;have g4:(zh5 t1 t2 s.heap l1 l2).get? (zh3 t1 t2 s.heap l1 l2).objs.size=Ab _:=u5 (AD _ rfl);have g3:(zh5 t1 t2 s.heap l1 l2).get? (zh2 t1 t2 s.heap l1 l2).objs.size=Ab _:=u4 (AD _ rfl);have g2:(zh5 t1 t2 s.heap l1 l2).get? (s.heap.push (itO t1 l1)).objs.size=Ab _:=u3 (AD _ (Op _ _));have g1:(zh5 t1 t2 s.heap l1 l2).get? s.heap.objs.size=Ab _:=u2 (AD _ (Op _ _));show _/\_;rw[s2,s3,s4]at g5;rw[s3]at g4;rw[s1,s2]at g3;rw[s1]at g2;rw[s4];exact⟨⟨_,g5,rfl⟩,q _ ⟨g5,g3,⟨_,_,g4⟩,O8 g1,O8 g2⟩ λc o e=>u2 (Aq _ e)⟩
end
theorem Fh.lt(z:Fh t h a its):a<h.objs.size:=by
 cases t with
 |true=>obtain⟨o,e,_⟩:=z;exact AJ e
 |false=>obtain⟨o,e,_⟩:=z;exact AJ e
theorem Um{ds:Ac D}(r:Rep K CL H A v d)(e:EC d=.ok ds):∃ t a xs,v=.ref a/\(∀ H2,Kp A H H2->SqX t K H2 a xs)/\Reps K CL H A xs ds:=by
 cases d with
 |lst es=>
  cases e;obtain⟨q,xs,rfl,na,sq,r⟩:=r;exact⟨Af,q,xs,rfl,λH2 k=>M4 k na sq,r⟩
 |tup es=>
  cases e;obtain⟨q,xs,rfl,na,sq,r⟩:=r;exact⟨Aa,q,xs,rfl,λH2 k=>M3 k na sq,r⟩
 |_=>cases e
theorem LU:∀(xs ys:Ac D),(Ep xs ys).length=min xs.length ys.length
 |[],_=>by simp[Ep]
 |_::_,[]=>by simp[Ep]
 |x::xs,y::ys=>by
  rw[Ep,A7,LU xs ys];simp only[A7];omega
theorem OB:∀(xs ys:Ac D)(i:Ae)(d:D),(Ep xs ys)[i]?=Ab d->∃ x y,xs[i]?=Ab x/\ys[i]?=Ab y/\d=.tup [x,y]
 |[],_,i,d,h=>by simp[Ep]at h
 |_::_,[],i,d,h=>by simp[Ep]at h
 |x::xs,y::ys,0,d,h=>by
  rw[Ep]at h;simp only[List.getElem?_cons_zero,Option.some.injEq]at h;exact⟨x,y,rfl,rfl,h.symm⟩
 |x::xs,y::ys,i+1,d,h=>by
  rw[Ep]at h;simp only[List.getElem?_cons_succ]at h ⊢;exact OB xs ys i d h
theorem ZO{ds es:Ac D}(s1:∀ H2,Kp A H1 H2->SqX t1 K H2 a xs)(s2:∀ H2,Kp A H1 H2->SqX t2 K H2 b ys)(r1:Reps K CL H1 A xs ds)(r2:Reps K CL H1 A ys es):IC K CL A (Ep ds es) (Itz K t1 t2 a b) H1:=λH k i=>by
 refine⟨λhi=>⟨xs,ys,s1 H k,s2 H k,?_⟩,λd hd=>?_⟩
 .rw[LU]at hi;rw[r1.length,r2.length];omega
 .obtain⟨x,y,hx,hy,rfl⟩:=OB _ _ _ _ hd;obtain⟨u,hu,ru⟩:=r1.get hx;obtain⟨v,hv,rv⟩:=r2.get hy;refine⟨⟨xs,ys,u,v,s1 H k,s2 H k,hu,hv⟩,?_⟩;rintro w' H' ⟨p,x',y',hp,rfl,c1,c2,rfl⟩;have ex:x'=u:=Bg ((c1 xs (s1 H k)).symm.trans hu);have ey:y'=v:=Bg ((c2 ys (s2 H k)).symm.trans hv);subst ex ey;have sm:=GJ hp (.tup [x',y']);exact⟨sm,λB hB aB=>LZ aB hp ⟨LF ru k hB,LF rv k hB,trivial⟩⟩
section
variable{X:Cx}{CL:ClA}{W:XW}{pos p:A3}{a b:Am}{fa fb:Rho->R D}
end
noncomputable abbrev SIt(h:AM)(j:Al)(x:Ak)(t:Cf)(i:Ae):Prop:=h.IsStrIter j "str_ascii_iterator" x t i
theorem Tp{A:AU}(calm:A.handled=Ad)(j l:Al)(x:Ak)(t:Cf):Dw prog w A j [j,l] x.cps.size (λi v=>∃ c k,x.cps[i]?=Ab c/\v=.str ⟨#[c]⟩ k) (λi h=>SIt h j x t i):=
 ⟨λ_ _ _ ⟨o,ho,r⟩ k=>⟨o,k j (by simp) o ho,r⟩,λi s Q E hi z q=>wpAny_nextOf_ascii_item z (c:=x.cps[i]) (by simp[hi]) λh2 z2 sb=>q _ h2 _ ⟨x.cps[i],s.toks,by simp[hi],rfl⟩ z2 sb,λi s Q E hi z q=>wpAny_nextOf_ascii_end calm z (by simp[hi]) q⟩
noncomputable def Its(K:Fg)(x:Ak)(t2:Aj)(b:Al):It:=
  ⟨λi H=>∃ ys c y,SqX t2 K H b ys/\x.cps[i]?=Ab c/\ys[i]?=Ab y,
   λi H v H'=>∃ p c y,H p=Ad/\v=.ref p/\x.cps[i]?=Ab c/\(∀ ys,SqX t2 K H b ys->ys[i]?=Ab y)/\H'=upd H p (.tup [.str ⟨#[c]⟩,y]),
   λi H=>∃ ys,SqX t2 K H b ys/\(x.cps.size<=i\/(i<x.cps.size/\ys.length<=i))⟩
def sTn(x:Ak)(t:Cf)(t2:Aj)(I l2:Ae)(i:Ae)(h:AM):Prop:=Ga h (I+4) (I+2) (I+3) .none/\EN h (I+2) (.ref I) (.ref (I+1))/\(∃ a b,EN h (I+3) a b)/\SIt h I x t i/\Gs t2 h (I+1) l2 i
theorem YV(x:Ak)(t:Cf)(t2:Aj)(I l2:Ae)(b2:l2<I):Turn P w K (.Tuple es n pos) (Its K x t2 l2) (zFp I) (I+4) (sTn x t t2 I l2) where
  mem:=by simp[zFp]
  obj:=λi h ⟨z1,z2,⟨a,b,z3⟩,z4,z5⟩ c hc=>by
    simp only[zFp,AK,Bf,CB]at hc;rcases hc with rfl|rfl|rfl|rfl|rfl
    · obtain⟨o,e,_,d⟩:=z4;exact⟨o,e,λv z=>by rw[d]at z;cases z⟩
    · exact z5.obj
    · exact⟨_,z2,λv z=>by cases z⟩
    · exact⟨_,z3,λv z=>by cases z⟩
    · exact⟨_,z1,λv z=>by cases z⟩
  keep:=λi h h2 ⟨z1,z2,⟨a,b,z3⟩,z4,z5⟩ k=>⟨k _ (by simp[zFp]) _ z1,k _ (by simp[zFp]) _ z2,⟨a,b,k _ (by simp[zFp]) _ z3⟩,(let ⟨o,e,r⟩:=z4;⟨o,k _ (by simp[zFp]) o e,r⟩),z5.at' λo e=>k _ (by simp[zFp]) o e⟩
  item:=by
    intro X hP hw hK hc i pins s Z H E Iv hf ⟨z1,z2,⟨a,b,z3⟩,z4,z5⟩ ⟨ys,cc,y,q2,hx,hy⟩;subst hP hw hK;obtain⟨vs,ry,sy,_⟩:=Jj Iv q2;obtain⟨v,hv,rv⟩:=ry.get hy;have hT:s.TypeIs (.ref (I+4)) "zip" := ⟨_,z1,rfl⟩;have calm:X.A.in1.handled=Ad:=Iv.ok.hd hc;show Az _ _ (E4 _) _ _ _;simp only[E4];refine Ah (EY (Ci hT DI (B0 DI hT Gg (RY (k:=i) b2 b2 (Tp calm I l2 x t) (Le calm t2 (I+1) l2 (AV (Bs b2)) vs.toArray) z1 z2 z3 z4 ⟨z5,sy⟩
      (Ft.mp hx).1 (by have:=(AW.mp hv).1;simpa using this) λx' y' h2 tk px py c1 c2 c3 c4 c5 kp=>At ?_) (FX _))))
    obtain⟨c0,k0,px,ex⟩:=px;have ec:cc=c0:=by
      rw[hx]at px;exact Bg px
    subst ec;have ey:y'=v:=by
      have py':vs[i]?=Ab y':=by simpa using py
      rw[hv]at py';exact(Bg py').symm
    subst ex ey;refine⟨_,rfl,Ye c1 λh3 d1 sb=>?_⟩
    have lt4:I+4<s.heap.objs.size:=AJ z1;have kp3:∀ c o,c∉zFp I->s.heap.get? c=Ab o->h3.get? c=Ab o:=λc o nc q=>by
      simp only[zFp,AK,Bf,CB,Fi]at nc;exact sb.extBut c o nc.2.2.2.2 (kp c o (by simp only[AK,Bf,CB,Fi];exact⟨nc.1,nc.2.1,nc.2.2.2.1,nc.2.2.2.2⟩) q)
    have nT:∀ c∈zFp I,c≠s.heap.objs.size:=λc hc z=>by
      have:c<=I+4:=by
        simp only[zFp,AK,Bf,CB]at hc;rcases hc with z|z|z|z|z<;>rw[z]<;>simp
      exact absurd (z ▸ G6 this lt4) (Bb _)
    have I1:Inv X pins Z (upd H s.heap.objs.size (.tup [.str ⟨#[cc]⟩,y])) { s with heap:=s.heap.push { cls:=.type "tuple",data:=.seq #[.str ⟨#[cc]⟩ k0,y'] },toks:=s.toks }:=
      Iv.laid (λ_ _ q=>Aq _ q) (Aw _) ⟨(by decide:2<=sizeLine),[.str ⟨#[cc]⟩ k0,y'],.cons ⟨k0,rfl⟩ (.cons rv .nil),⟨_,AD _ rfl,rfl,_,rfl⟩⟩
    have hf':∀ b∈zFp I,GN X pins (upd H s.heap.objs.size (.tup [.str ⟨#[cc]⟩,y])) b:=λb hb=>⟨by rw[Dq (nT b hb)];exact(hf b hb).1,(hf b hb).2⟩
    have I2:Inv X pins Z (upd H s.heap.objs.size (.tup [.str ⟨#[cc]⟩,y])) {s with heap:=h3,toks:=tk}:=Inv.turnedL (s:={ s with heap:=s.heap.push { cls:=.type "tuple",data:=.seq #[.str ⟨#[cc]⟩ k0,y'] },toks:=s.toks }) (zFp I) I1 (λc o nc q=>by
      rcases Xk q with ⟨e1,e2⟩|e1
      · subst e1 e2;exact sb.extBut _ _ (EK lt4) c5
      · exact kp3 c o nc e1) hf'
    refine⟨.ref s.heap.objs.size,_,I2,rfl,⟨s.heap.objs.size,cc,y,Iv.fresh,rfl,hx,λzs hz=>by rw[NP Iv hz q2];exact hy,rfl⟩,⟨d1,sb.extBut _ _ (nij (by decide)) (kp _ _ (by simp) z2),⟨_,_,sb.extBut _ _ (nij (by decide)) c2⟩,(let ⟨o,e,r⟩:=c3;⟨o,sb.extBut _ o (DQ (ni0 (by decide))) e,r⟩),c4.1.at' λo q=>sb.extBut _ o (nij (by decide)) q⟩,λb hb=>(hf' b hb).1⟩
  done:=by
    intro X hP hw hK hc i pins s Z H E Iv hf ⟨z1,z2,⟨a,b,z3⟩,z4,z5⟩ ⟨ys,q2,hk⟩;subst hP hw hK;obtain⟨vs,ry,sy,_⟩:=Jj Iv q2;have hT:s.TypeIs (.ref (I+4)) "zip" := ⟨_,z1,rfl⟩;have calm:X.A.in1.handled=Ad:=Iv.ok.hd hc;have e2:=ry.length;simp only[E4];refine Ah (EY (Ci hT DI (B0 DI hT Gg (Sj (k:=i) b2 b2 (Tp calm I l2 x t) (Le calm t2 (I+1) l2 (AV (Bs b2)) vs.toArray) z1 z2 z3 z4 ⟨z5,sy⟩
      (by simp only[AN];omega) λh2 e tk kp he=>?_) (FX _))))
    obtain⟨o,ho,hcl⟩:=he;refine Ah (Gi (T := "StopIteration") (b:=Aa) ⟨o,ho,hcl⟩ IP (At ⟨rfl,Inv.turnedL [I,I+1,I+3,I+4] Iv (λc o nc q=>kp c o nc q) λc hc=>hf c ?_⟩))
    simp only[AK,Bf,CB]at hc;simp only[zFp,AK,Bf,CB];rcases hc with rfl|rfl|rfl|rfl<;>simp
  self:=λ_ _ _ _ _ st h=>Gj st.1 h
section
variable{prog:AR}{w:AT}{A:AU}{E:Vq}{s:Ap}
noncomputable abbrev itS(x:Ak)(t:Cf):De:={ cls:=.type "str_ascii_iterator",data:=.fields #[.str x t,.int 0 0] }
noncomputable abbrev sh2(x:Ak)(t:Cf)(t2:Aj)(h:AM)(l2:Al):AM:=(h.push (itS x t)).push (itO t2 l2)
noncomputable abbrev sh3(x:Ak)(t:Cf)(t2:Aj)(h:AM)(l2:Al):AM:=(sh2 x t t2 h l2).push { cls:=.type "tuple",data:=.seq #[.ref h.objs.size,.ref (h.push (itS x t)).objs.size] }
noncomputable abbrev sh4(x:Ak)(t:Cf)(t2:Aj)(h:AM)(l2:Al):AM:=(sh3 x t t2 h l2).push { cls:=.type "tuple",data:=.seq #[.none,.none] }
noncomputable abbrev sh5(x:Ak)(t:Cf)(t2:Aj)(h:AM)(l2:Al):AM:=(sh4 x t t2 h l2).push { cls:=.type "zip",data:=.fields #[.none,.bool Af,.bool Af,.ref (sh2 x t t2 h l2).objs.size,.ref (sh3 x t t2 h l2).objs.size] }
theorem ZM(x:Ak)(t:Cf)(ha:x.cps.all (· < 128)=Aa)(t2:Aj)(l2:Al)(ys:Au Ai):Meets (Builtin.«zip.__new__» ⟨[.type "zip",.str x t,.ref l2],[]⟩) (λ_ R s=>Fh t2 s.heap l2 ys/\R (.ok (.ret (.ref (sh4 x t t2 s.heap l2).objs.size))) {s with heap:=sh5 x t t2 s.heap l2}):=
 .of_wp λprog w A R s h=>by
  obtain⟨hp,g,d,tk,os⟩:=s;obtain⟨a2,q⟩:=h;have hsub:=sub_zip;have L2:Fh t2 (JX ⟨hp.push (itS x t),g,d,tk,os⟩) l2 ys:=a2.push _
  wp_walk using wpAny_pyIter_ascii ha,Pu L2
  exact⟨_,rfl,q⟩
theorem YU{t:Cf}{ys:Au Ai}{Q:Vq}(ha:x.cps.all (· < 128)=Aa)(a2:Fh t2 s.heap l2 ys)(q:∀ h2,sTn x t t2 s.heap.objs.size l2 0 h2->(∀ c o,s.heap.get? c=Ab o->h2.get? c=Ab o)->Q (.ref (s.heap.objs.size+4)) {s with heap:=h2}):Az (model prog w) A (call (.type "zip") [.str x t,.ref l2]) Q E s:=by
 refine callType_new W5 (by decide) (Xh _ _) (Xa _ _) (λobj=>W2 obj _ _) W9 (ZM x t ha t2 l2 ys) ⟨a2,?_⟩
 have s1:(s.heap.push (itS x t)).objs.size=s.heap.objs.size+1:=Ba ..;have s2:(sh2 x t t2 s.heap l2).objs.size=s.heap.objs.size+2:=by rw[Ba,s1]
 have s3:(sh3 x t t2 s.heap l2).objs.size=s.heap.objs.size+3:=by rw[Ba,s2]
 have s4:(sh4 x t t2 s.heap l2).objs.size=s.heap.objs.size+4:=by rw[Ba,s3]
 have u5:∀ {c o},(sh4 x t t2 s.heap l2).get? c=Ab o->(sh5 x t t2 s.heap l2).get? c=Ab o:=λe=>Aq _ e
 have u4:∀ {c o},(sh3 x t t2 s.heap l2).get? c=Ab o->(sh5 x t t2 s.heap l2).get? c=Ab o:=λe=>u5 (Aq _ e)
 have u3:∀ {c o},(sh2 x t t2 s.heap l2).get? c=Ab o->(sh5 x t t2 s.heap l2).get? c=Ab o:=λe=>u4 (Aq _ e)
 have u2:∀ {c o},(s.heap.push (itS x t)).get? c=Ab o->(sh5 x t t2 s.heap l2).get? c=Ab o:=λe=>u3 (Aq _ e)
 have g5:(sh5 x t t2 s.heap l2).get? (sh4 x t t2 s.heap l2).objs.size=Ab _:=AD _ rfl;have g4:(sh5 x t t2 s.heap l2).get? (sh3 x t t2 s.heap l2).objs.size=Ab _:=u5 (AD _ rfl);have g3:(sh5 x t t2 s.heap l2).get? (sh2 x t t2 s.heap l2).objs.size=Ab _:=u4 (AD _ rfl);have g2:(sh5 x t t2 s.heap l2).get? (s.heap.push (itS x t)).objs.size=Ab _:=u3 (AD _ (Op _ _));have g1:(sh5 x t t2 s.heap l2).get? s.heap.objs.size=Ab _:=u2 (AD _ rfl);show _/\_;rw[s2,s3,s4]at g5;rw[s3]at g4;rw[s1,s2]at g3;rw[s1]at g2;rw[s4];exact⟨⟨_,g5,rfl⟩,q _ ⟨g5,g3,⟨_,_,g4⟩,⟨_,g1,rfl,rfl⟩,O8 g2⟩ λc o e=>u2 (Aq _ e)⟩
end
def iZs(K:Fg)(ta:TA):TI:=λZ H R=>ta Z H λvs H1=>(∃ t1 t2 a b xs ys,vs=[.ref a,.ref b]/\SqX t1 K H1 a xs/\SqX t2 K H1 b ys/\(xs.length<=sizeLine->R (Itz K t1 t2 a b) H1))\/∃ x t2 b ys,vs=[.str x,.ref b]/\x.cps.all (· < 128)=Aa/\SqX t2 K H1 b ys/\(ys.length<=sizeLine->R (Its K x t2 b) H1)
theorem rC{a b:Am}(hg:Gl X "zip")(hm:X.mg "zip" = Ad)(ha:PA X [a,b] ta)(hs:AI [a,b] X.env=[(Af,eval a X.env),(Af,eval b X.env)])(hs2:AI [b] X.env=[(Af,eval b X.env)]):
  PI X (.Tuple es n tpos) (.Call (.Name "zip" p) [a,b] [] pos) (iZs X.K ta):=by
 intro pins s Z H R I h;refine IT (HQ I hg hm PyProof.Rows.boot_zip (BL (thn (ha pos pins s Z H _ I h) λus s1 ⟨vs,H1,I1,r1,q1⟩=>?_) (by rw[hs,hs2]) (by rw[hs2];rfl)))
 have fp:∀ b∈zFp s1.heap.objs.size,GN X pins H1 b:=λb hb=>by
  have hb':s1.heap.objs.size<=b:=by
   simp only[zFp,AK,Bf,CB]at hb;rcases hb with z|z|z|z|z<;>rw[z]<;>simp
  exact I1.fpOk hb' (I1.hok.fresh hb')
 rcases q1 with ⟨t1,t2,c,d,xs,ys,e,sx,sy,q⟩|⟨x,t2,d,ys,e,hx,sy,q⟩
 .subst e;cases r1 with
  |cons r rr=>
   cases rr with
   |cons r' rr=>
    cases rr;cases r;cases r';obtain⟨us,ru,iu,zu⟩:=Jj I1 sx;obtain⟨vs,rv,iv,_⟩:=Jj I1 sy;refine ZN iu iv λh2 z kp=>Gj z.1 ?_
    exact⟨s1.heap.objs.size+4,zFp s1.heap.objs.size,_,_,H1,rfl,I1.kept (t':=s1.toks) kp,ZS t1 t2 s1.heap.objs.size c d iu.lt iv.lt,z,fp,q zu⟩
 .subst e;cases r1 with
  |cons r rr=>
   cases rr with
   |cons r' rr=>
    cases rr;obtain⟨tk,rfl⟩:=r;cases r';obtain⟨vs,rv,iv,zv⟩:=Jj I1 sy;refine YU hx iv λh2 z kp=>Gj z.1 ?_
    exact⟨s1.heap.objs.size+4,zFp s1.heap.objs.size,_,_,H1,rfl,I1.kept (t':=s1.toks) kp,YV x tk t2 s1.heap.objs.size d iv.lt,z,fp,q zv⟩
theorem bZ{es:Ac D}(s2:∀ H2,Kp A H1 H2->SqX t2 K H2 b ys)(r2:Reps K CL H1 A ys es):IC K CL A (Ep (JK x) es) (Its K x t2 b) H1:=λH k i=>by
 have sl:(JK x).length=x.cps.size:=by simp[JK]
 refine⟨λhi=>⟨ys,s2 H k,?_⟩,λd hd=>?_⟩
 .rw[LU,sl]at hi;rw[r2.length];omega
 .obtain⟨u,y,hx,hy,rfl⟩:=OB _ _ _ _ hd;have hx':∃ c,x.cps[i]?=Ab c/\u=D.str ⟨#[c]⟩:=by
   unfold JK at hx;rw[Bx,BR]at hx;cases e:x.cps[i]? with
   |none=>rw[e]at hx;cases hx
   |some c=>rw[e]at hx;exact⟨c,rfl,(Bg hx).symm⟩
  obtain⟨c,hc,rfl⟩:=hx';obtain⟨v,hv,rv⟩:=r2.get hy;refine⟨⟨ys,c,v,s2 H k,hc,hv⟩,?_⟩;rintro w' H' ⟨p,c',y',hp,rfl,c1,c2,rfl⟩;have ex:c'=c:=Bg (c1.symm.trans hc);have ey:y'=v:=Bg ((c2 ys (s2 H k)).symm.trans hv);subst ex ey;have sm:=GJ hp (.tup [.str ⟨#[c']⟩,y']);exact⟨sm,λB hB aB=>LZ aB hp ⟨rfl,LF rv k hB,trivial⟩⟩
theorem PN(x:Ak):asZ (.str x)=if x.cps.all (· < 128)=Aa then .ok (JK x) else .bad:=rfl
theorem iD{z:Ex}(h:asZ d=.exn z):Bj:=by
 by_cases hd:∃ x,d=.str x
 .obtain⟨x,rfl⟩:=hd;rw[PN]at h;split at h<;>cases h
 .have ea:asZ d=EC d:=by
   cases d<;>first|rfl|exact absurd ⟨_,rfl⟩ hd
  rw[ea]at h;cases d<;>simp[EC]at h
section
variable{X:Cx}{CL:ClA}{W:XW}{pos p:A3}{a b:Am}{fa fb:Rho->R D}
theorem pX(ha:SE X CL W a fa)(hb:SE X CL W b fb)(hg:Gl X "zip")(hm:X.mg "zip" = Ad)(hs:AI [a,b] X.env=[(Af,eval a X.env),(Af,eval b X.env)])(hs2:AI [b] X.env=[(Af,eval b X.env)]):
  SI X CL W (.Tuple es n tpos) (.Call (.Name "zip" p) [a,b] [] pos) (λU=>(fa U).bind λx=>(fb U).bind λy=>(asZ x).bind λxs=>(EC y).bind λys=>.ok (Ep xs ys)):=
 λA=>PI.weak (rC hg hm (FB (ha A) (FB (hb A) G1 hs2) (by rw[hs,hs2])) hs hs2) λZ H R ⟨hA,U,g,q⟩=>⟨hA,U,g,ED.ex q λd v H1 _ s1 r1 p1=>⟨hA.same s1,U,g.same s1,ED.ex p1 λd2 v2 H2 _ s2 r2 p2=>by
  cases e2:EC d2 with
  |bad=>
   rw[e2]at p2;cases e1:asZ d with
   |bad=>rw[e1]at p2;exact p2.elim
   |exn z=>exact(iD e1).elim
   |ok ds=>rw[e1]at p2;exact p2.elim
  |exn z=>exact absurd e2 (by cases d2<;>simp[EC])
  |ok es=>
   obtain⟨t2,c2,ys,rfl,k2,rs2⟩:=Um r2 e2;rw[e2]at p2;by_cases hd:∃ x,d=.str x
   .obtain⟨x,rfl⟩:=hd;by_cases hx:x.cps.all (· < 128)=Aa
    .have e1:asZ (.str x)=.ok (JK x):=by rw[PN,Ar hx]
     rw[e1]at p2;have e:v=V.str x:=r1;subst e;refine .inr ⟨x,t2,c2,ys,rfl,hx,k2 H2 (Kp.of (AO.refl H2)),λhz=>p2 _ H2 (AO.refl H2) (bZ k2 rs2) ?_⟩
     rw[LU,<-rs2.length];omega
    .have e1:asZ (.str x)=.bad:=by rw[PN,As hx]
     rw[e1]at p2;exact p2.elim
   .have ea:asZ d=EC d:=by
     cases d<;>first|rfl|exact absurd ⟨_,rfl⟩ hd
    rw[ea]at p2;cases e1:EC d with
    |bad=>rw[e1]at p2;exact p2.elim
    |exn z=>exact absurd e1 (by cases d<;>simp[EC])
    |ok ds=>
     rw[e1]at p2;obtain⟨t1,c1,xs,rfl,k1,rs1⟩:=Um (r1.same s2) e1;refine .inl ⟨t1,t2,c1,c2,xs,ys,rfl,k1 H2 (Kp.of (AO.refl H2)),k2 H2 (Kp.of (AO.refl H2)),λhz=>p2 _ H2 (AO.refl H2) (ZO k1 k2 rs1 rs2) ?_⟩
     rw[LU,<-rs1.length];omega⟩⟩
end
noncomputable def Itd(lo:Ag)(n:Ae):It:=⟨λi _=>i<n,λi H x H'=>H'=H/\x=.int (lo-i),λi _=>n<=i⟩
theorem QL(it:Al)(lo:Ag)(n:Ae):Turn P w K tg (Itd lo n) [it] it (λi h=>F6 h it (lo+(i:Ae)*(-1)) ((n:Ag)-(i:Ae)) (-1)) where
  mem:=by simp
  obj:=λi h st b hb=>by
    have e:b=it:=by simpa using hb
    subst e;exact⟨_,st,λv z=>by
      have z':Wx _=Jy v:=z;cases z'⟩
  keep:=λi h h' st k=>k it (by simp) _ st
  item:=by
    intro X hP hw hK hc i pins s Z H E I hf st hg;subst hP hw hK;obtain⟨f0,f1,f2,f3,f4,f5⟩:=hf it (by simp)
    have W:=XV (prog:=X.prog) (w:=X.w) (I.ok.hd hc) it lo (-1) n;refine W.item i s _ _ hg st λv h' tk hv st' kk=>?_
    obtain⟨t,rfl⟩:=hv;have I1:Inv X pins Z H {s with heap:=h',toks:=tk}:=I.turned (λb o hb e=>kk b o (by simpa using hb) e) f0 f1 f3 f4 f5
    refine⟨_,rfl,Nd (s:={s with heap:=h',toks:=tk}) (n := "range_iterator") st' rfl rfl (by decide) ⟨.int (lo-i),H,I1,⟨t,?_⟩,⟨rfl,rfl⟩,st',λb hb=>(hf b hb).1⟩⟩
    rw[show lo+(i:Ag)*(-1)=lo-i by omega]
  done:=by
    intro X hP hw hK hc i pins s Z H E I hf st hg;subst hP hw hK;obtain⟨f0,f1,f2,f3,f4,f5⟩:=hf it (by simp)
    exact Yk (I.ok.hd hc) st (by have:n<=i:=hg;omega) λh' eb=>⟨rfl,I.turned (t':=s.toks) (λb o hb e=>eb b o hb e) f0 f1 f3 f4 f5⟩
  self:=λ_ _ _ _ _ st h=>F8 st h
section
variable{X:Cx}{tg:Am}
theorem fA{R:It->Hp->Prop}{E:Vq}{t u v:Cf}(I:Inv X pins Z H s)(h1:-(2 ^ 62)<=lo)(h2:lo<2 ^ 62)(h3:-(2 ^ 62)<=hi)(h4:hi<2 ^ 62)(q:R (Itd lo (lo-hi).toNat) H):Az (model X.prog X.w) X.A (Ha (.ref s.heap.objs.size)) (PIE X pins Z tg R) E { s with heap:=s.heap.push { cls:=.type "range",data:=.fields #[.int lo t,.int hi u,.int (-1) v] },toks:=tk }:=by
 refine Yh (JW ..) (PySem.W.small_down h1 h2 h3 h4) ?_;have I1:Inv X pins Z H { s with heap:=s.heap.push { cls:=.type "range",data:=.fields #[.int lo t,.int hi u,.int (-1) v] },toks:=tk }:=I.kept λb o e=>Aq _ e
 refine⟨(s.heap.push { cls:=.type "range",data:=.fields #[.int lo t,.int hi u,.int (-1) v] }).objs.size,[(s.heap.push { cls:=.type "range",data:=.fields #[.int lo t,.int hi u,.int (-1) v] }).objs.size],_,_,H,rfl,
  I1.kept (t':=tk) λb o e=>Aq _ e,QL _ lo (lo-hi).toNat,?_,λb hb=>?_,q⟩
 .have e1:lo+((0:Ae):Ag)*(-1)=lo:=by simp
  have e2:(((lo-hi).toNat:Ae):Ag)-((0:Ae):Ag)=FS lo hi (-1):=by rw[PySem.W.rangeSize_downNat];simp
  show F6 _ _ (lo+((0:Ae):Ag)*(-1)) ((((lo-hi).toNat:Ae):Ag)-((0:Ae):Ag)) (-1);rw[e1,e2];exact AD _ rfl
 .have e:b=(s.heap.push { cls:=.type "range",data:=.fields #[.int lo t,.int hi u,.int (-1) v] }).objs.size:=by simpa using hb
  subst e;exact I1.fpOk (Aw _) (I1.hok.fresh (Aw _))
def qD(ta:TA):TI:=λZ H R=>ta Z H λvs H1=>∃ i j:Ag,vs=[.int i,.int j,.int (-1)]/\(-(2 ^ 62)<=i/\i<2 ^ 62/\-(2 ^ 62)<=j/\j<2 ^ 62)/\R (Itd i (i-j).toNat) H1
theorem ZA{a b:Am}(hg:Gl X "range")(hm:X.mg "range" = Ad)(ha:PA X [a,b,c] ta)(hs:AI [a,b,c] X.env=[(Af,eval a X.env),(Af,eval b X.env),(Af,eval c X.env)])(hs2:AI [b,c] X.env=[(Af,eval b X.env),(Af,eval c X.env)]):
  PI X tg (.Call (.Name "range" p) [a,b,c] [] pos) (qD ta):=by
 intro pins s Z H R I h;refine IT (HQ I hg hm IU (BL (thn (ha pos pins s Z H _ I h) λus s1 ⟨vs,H1,I1,r1,q1⟩=>?_) (by rw[hs,hs2]) (by rw[hs2];rfl)))
 obtain⟨i,j,e,⟨q1,q2,q3,q4⟩,q⟩:=q1;subst e;cases r1 with
 |cons r rr=>
  cases rr with
  |cons r' rr=>
   cases rr with
   |cons r'' rr=>
    cases rr;obtain⟨t,rfl⟩:=r;obtain⟨t',rfl⟩:=r';obtain⟨t'',rfl⟩:=r'';exact call_range_3 (by decide) (fA I1 q1 q2 q3 q4 q) (Or.inl (Wo (by decide)))
end
theorem N1(lo:Ag)(n:Ae):(Ff lo n).length=n:=by simp[Ff]
theorem aN(h:(Ff lo n)[i]?=Ab d):i<n/\d=.int (lo-i):=by
 unfold Ff at h;rw[Bx]at h;by_cases hi:i<n
 .rw[GQ hi]at h;exact⟨hi,(Bg h).symm⟩
 .rw[E9 (by simp;omega)]at h
  cases h
section
variable{X:Cx}{CL:ClA}{W:XW}{pos p:A3}{tg a b c:Am}{fa fb fc:Rho->R D}
theorem QI(lo:Ag)(n:Ae):IC K CL A (Ff lo n) (Itd lo n) H:=λH' k i=>by
 refine⟨λh=>by rw[N1]at h;exact h,λd hd=>?_⟩
 obtain⟨h1,rfl⟩:=aN hd;exact⟨h1,λx H2 ⟨e,y⟩=>by
  subst e y;exact⟨AO.refl _,λ_ _ _=>rfl⟩⟩
theorem Ze{lo hi c:Ag}{ds:Ac D}(h:Hh lo hi c=.ok ds):c=-1/\(-(2 ^ 62)<=lo/\lo<2 ^ 62)/\(-(2 ^ 62)<=hi/\hi<2 ^ 62)/\ds=Ff lo (lo-hi).toNat/\(Ff lo (lo-hi).toNat).length<=sizeLine:=by
 unfold Hh at h;split at h
 .rename_i q;cases h;exact⟨q.1,by omega,by omega,rfl,by rw[N1,Bz];omega⟩
 .cases h
theorem YH{lo hi c:Ag}{x:Ex}(h:Hh lo hi c=.exn x):Bj:=by
 unfold Hh at h;split at h<;>cases h
theorem eM(ha:ST X CL W a fa)(hb:ST X CL W b fb)(hc:ST X CL W c fc)(hg:Gl X "range")(hm:X.mg "range" = Ad)(hs:AI [a,b,c] X.env=[(Af,eval a X.env),(Af,eval b X.env),(Af,eval c X.env)])(hs2:AI [b,c] X.env=[(Af,eval b X.env),(Af,eval c X.env)])(hs3:AI [c] X.env=[(Af,eval c X.env)]):
  SI X CL W tg (.Call (.Name "range" p) [a,b,c] [] pos) (λU=>(fa U).bind λx=>(fb U).bind λy=>(fc U).bind λz=>(DK x).bind λi=>(DK y).bind λj=>(DK z).bind λk=>Hh i j k):=
 λA=>PI.weak (ZA hg hm (FB (ha A) (FB (hb A) (FB (hc A) G1 hs3) (by rw[hs2,hs3])) (by rw[hs,hs2])) hs hs2) λZ H R ⟨hA,U,g,q⟩=>⟨hA,U,g,ED.ex q λd v H1 _ s1 r1 p1=>⟨hA.same s1,U,g.same s1,ED.ex p1 λd2 v2 H2 _ s2 r2 p2=>⟨(hA.same s1).same s2,U,(g.same s1).same s2,ED.ex p2 λd3 v3 H3 _ s3 r3 p3=>by
  cases d with
  |int i=>
   cases d2 with
   |int j=>
    cases d3 with
    |int k=>
     have e:=r1.int_of;have e':=r2.int_of;have e'':=r3.int_of
     subst e e' e'';have p4:ED X.K CL A W H3 (Hh i j k) R:=p3;cases e2:Hh i j k with
     |ok ds=>
      rw[e2]at p4;obtain⟨rfl,h1,h2,rfl,hz⟩:=Ze e2;exact⟨i,j,rfl,⟨h1.1,h1.2,h2.1,h2.2⟩,p4 _ H3 (AO.refl H3) (QI _ _) hz⟩
     |exn y=>exact(YH e2).elim
     |bad=>rw[e2]at p4;exact p4.elim
    |_=>exact p3.elim
   |_=>exact p3.elim
  | _=>exact p3.elim⟩⟩⟩
end
theorem Yu:isSubtype (.type "range_iterator") (.type "reversed")=pure Af:=by rw[GY];kernel_rfl
section
variable{prog:AR}{w:AT}{A:AU}{E:Vq}{s:Ap}
noncomputable def Kd(i:Ag):De:={ cls:=.type "range_iterator",data:=.fields #[Cr (i-1),Cr i,Cr (-1)] }
theorem Yr{r:Al}{i:Ag}{t u v:Cf}{Q:Vq}(hr:IsRange s.heap r 0 i 1 t u v)(h1:1<=i)(h2:i<1000000)(h:Q (.ref s.heap.objs.size) {s with heap:=s.heap.push (Kd i)}):Az (model prog w) A (call (.builtin "range.__reversed__") [.ref r]) Q E s:=by
 have hT:s.TypeIs (.ref r) "range" := ⟨_,hr,rfl⟩;refine B0 F.slot_range_reversed hT F.entry_range_reversed ?_ (F.args_range_reversed_1 _);unfold Builtin.«range.__reversed__»;refine Ah (Do (a:=Bu r) rfl ?_);refine Ah ?_;unfold Builtin.Range.rangeFields;refine Ah (BY hr rfl (x:=.int 0 t) rfl ?_);refine Ah (m:=asInt? (.int 0 t)) (At ?_);refine Ah (BY hr rfl (x:=.int i u) rfl ?_);refine Ah (m:=asInt? (.int i u)) (At ?_);refine Ah (BY hr rfl (x:=.int 1 v) rfl ?_);refine Ah (m:=asInt? (.int 1 v)) (At ?_);refine At ?_;have n:FS 0 i 1=i:=by rw[rangeSize_one,Ar (by omega)];omega
 dsimp only;rw[n];have sm:(BN 0&&BN i&&BN 1&&BN (-1)&&BN (0-1)&&BN i)=Aa:=by
  have q:BN i=Aa:=by
   unfold BN;simp;omega
  rw[q];decide
 rw[sm];rw[As (by decide),Ar rfl]
 refine Ah (CG ?_);have e:(0:Ag)+(i-1)*1=i-1:=by omega
 rw[e];exact At ⟨_,rfl,h⟩
theorem Yp{r:Al}{i:Ag}{t u v:Cf}{Q₁:Vq}(hr:IsRange s.heap r 0 i 1 t u v)(h1:1<=i)(h2:i<1000000)(h:Q₁ (.ref s.heap.objs.size) {s with heap:=s.heap.push (Kd i)}):
  FA (model prog w) A (.call (.builtin "reversed.__new__") ⟨[.type "reversed",.ref r],[]⟩) (wants Q₁ E) s:=by
 have hT:s.TypeIs (.ref r) "range" := ⟨_,hr,rfl⟩;refine Iq ?_;show Az _ A.in1 (do XY "reversed.__new__" ⟨[.type "reversed",.ref r],[]⟩;again (.builtin "reversed.__new__" ⟨[.type "reversed",.ref r],[]⟩)) _ _ s
 refine Ah (Do (F.newCall_reversed_1 _) (At ⟨Gc Xc _,Ek F.entry_reversed_new ?_⟩));rw[DG Xc _];unfold Builtin.«reversed.__new__»;refine Ah (Do (newClass_reversed _) ?_)
 try dsimp only
 refine Ah (Do (a:=()) (by first|rfl|kernel_rfl) ?_)
 refine Ah (Do (a:=()) (by first|rfl|kernel_rfl) ?_)
 try dsimp only
 refine Ah (Iu hT F.slot_range_reversed.lookup ?_)
 try dsimp only
 refine Ah (Do (F.slot_range_reversed.bind _) ?_)
 try dsimp only
 first
 |rw[As (show ¬ ((Js "range.__reversed__" == AG)=Aa) from AE)]
 |(show Az _ _ (if (Js "range.__reversed__" == AG)=Aa then _ else _) _ _ _;rw[As (show ¬ ((Js "range.__reversed__" == AG)=Aa) from AE)])
 refine Ah (GH ?_);refine Ah (m:=runValue (.call (.builtin "range.__reversed__") ⟨[.ref r],[]⟩)) (show Az _ _ (call (.builtin "range.__reversed__") [.ref r]) _ _ _ from Yr hr h1 h2 ?_)
 first
 |exact At h
 |exact Ah (At (At h))
theorem Yq{r:Al}{i:Ag}{t u v:Cf}{Q:Vq}(hr:IsRange s.heap r 0 i 1 t u v)(h1:1<=i)(h2:i<1000000)(h:Q (.ref s.heap.objs.size) {s with heap:=s.heap.push (Kd i)}):Az (model prog w) A (call (.type "reversed") [.ref r]) Q E s:=by
 refine callType_other (Q₁:=λobj s₁=>obj=.ref s.heap.objs.size/\s₁={s with heap:=s.heap.push (Kd i)}) (by decide+kernel) F.create_reversed ⟨_,_,F.mro_reversed⟩ F.made_reversed Yu (F.typeCall_reversed_1 _) (Yp hr h1 h2 ⟨rfl,rfl⟩) ?_
 rintro obj s₁ ⟨rfl,rfl⟩;exact⟨⟨_,AD _ rfl,rfl⟩,h⟩
end
section
variable{X:Cx}{tg:Am}
def sI(ta:TA):TI:=λZ H R=>ta Z H λvs H1=>∃ i:Ag,vs=[.int i]/\(1<=i/\i<1000000)/\R (Itd (i-1) i.toNat) H1
theorem jK{R:It->Hp->Prop}{E:Vq}{i:Ag}(I:Inv X pins Z H s)(h1:1<=i)(q:R (Itd (i-1) i.toNat) H):Az (model X.prog X.w) X.A (Ha (.ref (s.heap.push o).objs.size)) (PIE X pins Z tg R) E {s with heap:=(s.heap.push o).push (Kd i),toks:=tk}:=by
  have hit:F6 ((s.heap.push o).push (Kd i)) (s.heap.push o).objs.size (i-1) i (-1):=AD _ rfl;refine F8 (s:={s with heap:=(s.heap.push o).push (Kd i),toks:=tk}) hit ?_
  have I1:Inv X pins Z H {s with heap:=s.heap.push o,toks:=tk}:=I.kept λb o e=>Aq _ e
  refine⟨(s.heap.push o).objs.size,[(s.heap.push o).objs.size],_,_,H,rfl,
    I1.kept (t':=tk) λb o e=>Aq _ e,QL _ (i-1) i.toNat,?_,λb hb=>?_,q⟩
  · show F6 _ _ (i-1+((0:Ae):Ag)*(-1)) (((i.toNat:Ae):Ag)-((0:Ae):Ag)) (-1);rw[show i-1+((0:Ae):Ag)*(-1)=i-1 by simp,show (((i.toNat:Ae):Ag)-((0:Ae):Ag))=i by omega]
    exact hit
  · have e:b=(s.heap.push o).objs.size:=by simpa using hb
    subst e;exact I1.fpOk (Aw _) (I1.hok.fresh (Aw _))
theorem lO{a:Am}{p':A3}(hg:Gl X "range")(hm:X.mg "range" = Ad)(hg':Gl X "reversed")(hm':X.mg "reversed" = Ad)(ha:PA X [a] ta)(hs:AI [a] X.env=[(Af,eval a X.env)]):
  PI X tg (.Call (.Name "reversed" p) [.Call (.Name "range" p') [a] [] pos'] [] pos) (sI ta):=by
 intro pins s Z H R I h;refine IT (HQ I hg' hm' boot_reversed (BL ?_ rfl rfl));show Az _ _ (spliced ((Af,eval (.Call (.Name "range" p') [a] [] pos') X.env)::Cz pos (AI [] X.env))) _ _ s;refine G7 ?_;refine IT (HQ I hg hm IU (BL (thn (ha pos' pins s Z H _ I h) λus s1 ⟨vs,H1,I1,r1,q1⟩=>?_) (by rw[hs];rfl) rfl))
 obtain⟨i,e,⟨q1,q2⟩,q⟩:=q1;subst e;cases r1 with
 |cons r rr=>
  cases rr;obtain⟨t,rfl⟩:=r;refine call_range_1 (Hx ?_);refine Yq (JW ..) q1 q2 ?_;exact jK I1 q1 q
end
section
variable{X:Cx}{CL:ClA}{W:XW}{pos p pos' p':A3}{tg a:Am}{fa:Rho->R D}
theorem iR(ha:ST X CL W a fa)(hg:Gl X "range")(hm:X.mg "range" = Ad)(hg':Gl X "reversed")(hm':X.mg "reversed" = Ad)(hs:AI [a] X.env=[(Af,eval a X.env)]):SI X CL W tg (.Call (.Name "reversed" p) [.Call (.Name "range" p') [a] [] pos'] [] pos) (λU=>(fa U).bind λx=>(DK x).bind λj=>Ia j):=
 λA=>PI.weak (lO hg hm hg' hm' (FB (ha A) G1 hs) hs) λZ H R ⟨hA,U,g,q⟩=>⟨hA,U,g,ED.ex q λd v H1 _ s1 r1 p1=>by
  cases d with
  |int j=>
   have e:=r1.int_of;subst e;have p2:ED X.K CL A W H1 (Ia j) R:=p1;by_cases hj:1<=j/\j<1000000
   .unfold Ia at p2;rw[Ar hj]at p2;exact⟨j,rfl,hj,p2 _ H1 (AO.refl H1) (QI _ _) (by rw[N1,Bz];omega)⟩
   .unfold Ia at p2;rw[As hj]at p2;exact p2.elim
  | _=>exact p1.elim⟩
end
theorem Gs.live{l:Ae}(z:Gs t h j l i):∃ o,h.get? j=Ab o/\∀ v,o.data≠.cell v:=by
 cases t with
 |true=>obtain⟨o,e,c,d⟩:=z;exact⟨o,e,λv z=>by rw[d]at z;cases z⟩
 |false=>obtain⟨o,e,c,d⟩:=z;exact⟨o,e,λv z=>by rw[d]at z;cases z⟩
section
variable{prog:AR}{w:AT}{A:AU}{E:Vq}{s:Ap}
end
section
variable{X:Cx}{CL:ClA}{W:XW}{pos p:A3}{a:Am}{fa:Rho->R D}
end
noncomputable abbrev Vd(h:AM)(z TI TO:Al)(f0 f1:Ai):Prop:=h.get? z=Ab { cls:=.type "zip",dict:=Ad,data:=.fields #[f0,f1,.bool Af,.ref TI,.ref TO],slots:=#[] }
noncomputable abbrev Ve(h:AM)(T:Al)(a b c:Ai):Prop:=h.get? T=Ab { cls:=.type "tuple",data:=.seq #[a,b,c] }
section
variable{prog:AR}{w:AT}{A:AU}{E:Vq}{s:Ap}
def Z_3(t1 t2 t3:Aj)(I l1 l2 l3 i:Ae)(h:AM):Prop:=Ve h (I+3) (.ref (I+0)) (.ref (I+1)) (.ref (I+2))/\Gs t1 h (I+0) l1 i/\Gs t2 h (I+1) l2 i/\Gs t3 h (I+2) l3 i/\(∃ a b c,Ve h (I+4) a b c) /\
 (Vd h (I+5) (I+3) (I+4) .none (.bool Af)\/∃(T1:Ae)(f1:Aj),Vd h (I+5) (I+3) (I+4) (Cr T1) (.bool f1))
end
section
variable{prog:AR}{w:AT}{A:AU}{R:IL->Ap->Prop}
theorem Fh.at'{h2:AM}(z:Fh t h l its)(k:∀ o,h.get? l=Ab o->h2.get? l=Ab o):Fh t h2 l its:=by
 cases t with
 |true=>exact PySem.Heap.IsTuple.at z k
 |false=>exact PySem.Heap.IsList.at z k
theorem Z_3.at'{t1 t2 t3:Aj}{I l1 l2 l3 i:Ae}{h h2:AM}(z:Z_3 t1 t2 t3 I l1 l2 l3 i h)(k:∀ j,j<=5->∀ o,h.get? (I+j)=Ab o->h2.get? (I+j)=Ab o):Z_3 t1 t2 t3 I l1 l2 l3 i h2:=by
 obtain⟨zI,i1,i2,i3,⟨a,b,c,hO⟩,zz⟩:=z;exact⟨k 3 (by decide) _ zI,i1.at' λo q=>k 0 (by decide) o q,i2.at' λo q=>k 1 (by decide) o q,i3.at' λo q=>k 2 (by decide) o q,⟨a,b,c,k 4 (by decide) _ hO⟩,zz.imp (k 5 (by decide) _) λ⟨T1,f1,hz⟩=>⟨T1,f1,k 5 (by decide) _ hz⟩⟩
end
section
variable{prog:AR}{w:AT}{A:AU}{E:Vq}{s:Ap}
end
theorem Z_3.ty{t3:Aj}{I l1 l2 l3 i:Ae}(z:Z_3 t1 t2 t3 I l1 l2 l3 i s.heap):s.TypeIs (.ref (I+5)) "zip" := by
 obtain⟨_,_,_,_,_,hz|⟨_,_,hz⟩⟩:=z
 .exact⟨_,hz,rfl⟩
 .exact⟨_,hz,rfl⟩
section
variable{prog:AR}{w:AT}{A:AU}{E:Vq}{s:Ap}
end
section
variable{X:Cx}{CL:ClA}{W:XW}{pos p pos' p':A3}{a b c:Am}{fa fb fc:Rho->R D}
end
section
variable{X:Cx}{CL:ClA}{W:XW}{pos p tpos:A3}{a b c:Am}{fa fb fc:Rho->R D}{x:Ak}
end
section
variable{X:Cx}{CL:ClA}{W:XW}{a:Am}{fa:Rho->R D}
end
section
variable{X:Cx}{CL:ClA}{W:XW}{o o' e:Am}{fe:Rho->R D}{i j:Ae}{apos cpos apos' cpos' pos:A3}
end
section
variable{X:Cx}{CL:ClA}{W:XW}
end
section
variable{X:Cx}
variable{CL:ClA}{W:XW}{pos p pos' p':A3}{a b:Am}{fa fb:Rho->R D}
end
section
variable{X:Cx}{CL:ClA}{W:XW}{e o o' k l:Am}{fe:Rho->R Ov.D}{i ik il:Ae}{pos spos spos' tpos:A3}{kt:Ae}
end
section
variable{prog:AR}{w:AT}{A:AU}{E:Vq}{s:Ap}
end
section
variable{X:Cx}{pos:A3}{CL:ClA}
end
section
variable{X:Cx}{CL:ClA}{W:XW}
end
end Ov
namespace Ov
open PySem PyProof.Rows
variable{arr a a':Au Av}{i k n j ja jb lo hi p e d:Ae}{st:AY}{left:Aj}{key x:Av}{α:Type}{c:Prop}{m:Ac Av}{Q:Aj->AY->Prop}
noncomputable def fS:Aj->Av->Au Av->Ae->Ae->Ae->Er AY DJ (Ao Ae):=sortPriv%PySem.Builtin.gallop
noncomputable def bN:Au Av->Au Av->Er AY DJ (Au Av):=sortPriv%PySem.Builtin.mergeLo
noncomputable def bO:Au Av->Au Av->Er AY DJ (Au Av):=sortPriv%PySem.Builtin.mergeHi
noncomputable def RJ:Ae->Er AY DJ Aj:=sortPriv%PySem.Builtin.mergeAt
noncomputable def ka0(a:Au Av)(i:Ae):Av:=a.getD i (AG,AG)
section
variable{M:Fn}{A:AU}{E:Vq}{s:Ap}{κ:EL}{V:Av->Prop}{lt:Av->Av->Aj}
def Ig(M:Fn)(A:AU)(s:Ap)(κ:EL)(V:Av->Prop)(lt:Av->Av->Aj):Prop:=∀(E:Vq)(st:AY)(x y:Av)(Q:Ao Aj->AY->Prop),kindOf st=κ->V x->V y->Q (Ab (lt x y)) st->Bl M A E s (lt' x y) Q st
structure OrdK (V:Av->Prop) (lt:Av->Av->Aj):Prop where
 asymm:∀ {x y},V x->V y->lt x y=Aa->lt y x=Af
 trans:∀ {x y z},V x->V y->V z->lt y x=Af->lt z y=Af->lt z x=Af
theorem DS{Q:Av->AY->Prop}(h:i<arr.size)(q:Q (ka0 arr i) st):Bl M A E s (elem' arr i) Q st:=by
 rw[elem'_eq,BE h];refine AC ?_;have e:ka0 arr i=arr[i]:=by simp[ka0,D8,h]
 rw[<-e];exact q
noncomputable def byd(lt:Av->Av->Aj)(left:Aj)(key x:Av):Aj:=if left=Aa then lt x key else !lt key x
theorem jR(C:Ig M A s κ V lt){Q:Ao Aj->AY->Prop}(hk:kindOf st=κ)(vk:V key)(h:k<arr.size)(v:V (ka0 arr k))(q:Q (Ab (byd lt left key (ka0 arr k))) st):
  Bl M A E s (do let x <-elem' arr k;if left=Aa then lt' x key else do let r <-lt' key x;pure (Wc (λx=>!x) r)) Q st:=by
 refine Ax (DS h ?_);cases left with
 |true=>rw[Ar rfl];exact C _ _ _ _ _ hk v vk q
 |false=>rw[As (by decide)];exact Ax (C _ _ _ _ _ hk vk v (AC q))
def K8(B:Ae->Aj)(n k:Ae):Prop:=k<=n/\(∀ i,i<k->B i=Aa)/\∀ i,k<=i->i<n->B i=Af
theorem J8(C:Ig M A s κ V lt){base hint:Ae}{Q:Ao Ae->AY->Prop}(hk:kindOf st=κ)(vk:V key)(hb:base+n<=arr.size)(hv:∀ i,i<n->V (ka0 arr (base+i)))(hh:hint<n)(mono:∀ i j,i<=j->j<n->byd lt left key (ka0 arr (base+j))=Aa->byd lt left key (ka0 arr (base+i))=Aa)(q:∀ k,K8 (λi=>byd lt left key (ka0 arr (base+i))) n k->Q (Ab k) st):Bl M A E s (fS left key arr base n hint) Q st:=by
 have up:∀ i j,i<=j->j<n->byd lt left key (ka0 arr (base+i))=Af->byd lt left key (ka0 arr (base+j))=Af:=λi j h1 h2 h3=>by
  cases e:byd lt left key (ka0 arr (base+j)) with
  |false=>rfl
  |true=>rw[mono i j h1 h2 e]at h3;cases h3
 have ask:∀(i:Ae)(Q:Ao Aj->AY->Prop),i<n->Q (Ab (byd lt left key (ka0 arr (base+i)))) st->Bl M A E s (do let x <-elem' arr (base+i);if left=Aa then lt' x key else do let r <-lt' key x;pure (Wc (λx=>!x) r)) Q st:=λi Q h q=>jR C hk vk (by omega) (hv i h) q
 refine Ax (ask hint _ hh ?_);dsimp only;by_cases hB:byd lt left key (ka0 arr (base+hint))=Aa
 .rw[Ar hB];refine Ax (CW (Q:=λb st'=>st=st'/\∃ l h,l<=h/\h<=n/\(∀ i,i<l->byd lt left key (ka0 arr (base+i))=Aa)/\(∀ i,h<=i->i<n->byd lt left key (ka0 arr (base+i))=Af)/\b.1=Ad/\l=hint+b.2.1+1/\h=hint+min b.2.2 (n-hint)) (BM (λi b st'=>st=st'/\b.1=Ad/\b.2.1<b.2.2/\i+1<=b.2.2/\hint+b.2.1<n/\byd lt left key (ka0 arr (base+(hint+b.2.1)))=Aa) (λi b st' _ hi hI=>?_) (λb st' hI=>?_) ⟨rfl,rfl,by decide,by decide,hh,hB⟩) λb st' hP=>?_)
  .obtain⟨rfl,b1,b2,b3,b4,b5⟩:=hI;obtain⟨r,l,o⟩:=b;dsimp only at b1 b2 b3 b4 b5 ⊢;subst b1;by_cases ho:o ≥ n-hint
   .rw[Ar ho];exact AC ⟨rfl,hint+l+1,hint+min o (n-hint),by omega,by omega,λi hi'=>mono i (hint+l) (by omega) b4 b5,λi h1 h2=>by omega,rfl,rfl,rfl⟩
   .rw[As ho];refine Ax (ask (hint+o) _ (by omega) ?_)
    dsimp only;cases e:byd lt left key (ka0 arr (base+(hint+o))) with
    |false=>exact AC ⟨rfl,hint+l+1,hint+min o (n-hint),by omega,by omega,λi hi'=>mono i (hint+l) (by omega) b4 b5,λi h1 h2=>up (hint+o) i (by omega) h2 e,rfl,rfl,rfl⟩
    |true=>exact AC ⟨rfl,rfl,by show o<2*o+1;omega,by show i+1+1<=2*o+1;omega,by show hint+o<n;omega,e⟩
  .obtain⟨rfl,b1,b2,b3,b4,b5⟩:=hI;rw[Ed]at b3;exact⟨rfl,hint+b.2.1+1,hint+min b.2.2 (n-hint),by omega,by omega,λi hi'=>mono i (hint+b.2.1) (by omega) b4 b5,λi h1 h2=>by omega,b1,rfl,rfl⟩
  obtain⟨rfl,l,h,c1,c2,c3,c4,b1,rfl,rfl⟩:=hP;rw[b1];dsimp only;generalize hint+b.2.1+1=l at *;generalize hint+min b.2.2 (n-hint)=h at *;refine Ax (CW (Q:=λb st'=>st=st'/\b.1=Ad/\K8 (λi=>byd lt left key (ka0 arr (base+i))) n b.2.2) (BM (λi b st'=>st=st'/\b.1=Ad/\b.2.1<=b.2.2/\b.2.2<=n/\b.2.2-b.2.1<=n-i/\(∀ i,i<b.2.1->byd lt left key (ka0 arr (base+i))=Aa)/\(∀ i,b.2.2<=i->i<n->byd lt left key (ka0 arr (base+i))=Af)) (λi b st' _ hi hI=>?_) (λb st' hI=>?_) ⟨rfl,rfl,c1,c2,by show h-l<=n-0;omega,c3,c4⟩) λb st' hP=>?_)
  .obtain⟨rfl,b1,b2,b3,b4,b5,b6⟩:=hI;obtain⟨r,l,h⟩:=b;dsimp only at b1 b2 b3 b4 b5 b6 ⊢;subst b1;by_cases ho:l ≥ h
   .rw[Ar ho];exact AC ⟨rfl,rfl,b3,λi hi'=>b5 i (by show i<l;have:i<h:=hi';omega),b6⟩
   .rw[As ho];refine Ax (ask (l+(h-l)/2) _ (by omega) ?_)
    dsimp only;cases e:byd lt left key (ka0 arr (base+(l+(h-l)/2))) with
    |false=>
     rw[As (by decide)]
     exact AC ⟨rfl,rfl,by show l<=l+(h-l)/2;omega,by show l+(h-l)/2<=n;omega,by show l+(h-l)/2-l<=n-(i+1);omega,b5,λi h1 h2=>up (l+(h-l)/2) i h1 h2 e⟩
    |true=>
     rw[Ar rfl];exact AC ⟨rfl,rfl,by show l+(h-l)/2+1<=h;omega,b3,by show h-(l+(h-l)/2+1)<=n-(i+1);omega,λi hi'=>mono i (l+(h-l)/2) (by have:i<l+(h-l)/2+1:=hi';omega) (by omega) e,b6⟩
  .obtain⟨rfl,b1,b2,b3,b4,b5,b6⟩:=hI;rw[Ed]at b4;exact⟨rfl,b1,b3,λi hi'=>b5 i (by omega),b6⟩
  obtain⟨rfl,b1,b2⟩:=hP;rw[b1];exact AC (q _ b2)
 .have hB':byd lt left key (ka0 arr (base+hint))=Af:=by cases e:byd lt left key (ka0 arr (base+hint)) with|false=>rfl|true=>exact absurd e hB
  rw[As hB];refine Ax (CW (Q:=λb st'=>st=st'/\∃ l h,l<=h/\h<=n/\(∀ i,i<l->byd lt left key (ka0 arr (base+i))=Aa)/\(∀ i,h<=i->i<n->byd lt left key (ka0 arr (base+i))=Af)/\b.1=Ad/\l=hint+1-min b.2.2 (hint+1)/\h=hint-b.2.1) (BM (λi b st'=>st=st'/\b.1=Ad/\b.2.1<b.2.2/\i+1<=b.2.2/\b.2.1<=hint/\byd lt left key (ka0 arr (base+(hint-b.2.1)))=Af) (λi b st' _ hi hI=>?_) (λb st' hI=>?_) ⟨rfl,rfl,by decide,by decide,BD _,hB'⟩) λb st' hP=>?_)
  .obtain⟨rfl,b1,b2,b3,b4,b5⟩:=hI;obtain⟨r,l,o⟩:=b;dsimp only at b1 b2 b3 b4 b5 ⊢;subst b1;by_cases ho:o ≥ hint+1
   .rw[Ar ho];exact AC ⟨rfl,hint+1-min o (hint+1),hint-l,by omega,by omega,λi hi'=>by omega,λi h1 h2=>up (hint-l) i h1 h2 b5,rfl,rfl,rfl⟩
   .rw[As ho];refine Ax (ask (hint-o) _ (by omega) ?_)
    dsimp only;cases e:byd lt left key (ka0 arr (base+(hint-o))) with
    |true=>
     rw[Ar rfl];exact AC ⟨rfl,hint+1-min o (hint+1),hint-l,by omega,by omega,λi hi'=>mono i (hint-o) (by omega) (by omega) e,λi h1 h2=>up (hint-l) i h1 h2 b5,rfl,rfl,rfl⟩
    |false=>
     rw[As (by decide)]
     exact AC ⟨rfl,rfl,by show o<2*o+1;omega,by show i+1+1<=2*o+1;omega,by show o<=hint;omega,e⟩
  .obtain⟨rfl,b1,b2,b3,b4,b5⟩:=hI;rw[Ed]at b3;exact⟨rfl,hint+1-min b.2.2 (hint+1),hint-b.2.1,by omega,by omega,λi hi'=>by omega,λi h1 h2=>up (hint-b.2.1) i h1 h2 b5,b1,rfl,rfl⟩
  obtain⟨rfl,l,h,c1,c2,c3,c4,b1,rfl,rfl⟩:=hP;rw[b1];dsimp only;generalize hint+1-min b.2.2 (hint+1)=l at *;generalize hint-b.2.1=h at *;refine Ax (CW (Q:=λb st'=>st=st'/\b.1=Ad/\K8 (λi=>byd lt left key (ka0 arr (base+i))) n b.2.2) (BM (λi b st'=>st=st'/\b.1=Ad/\b.2.1<=b.2.2/\b.2.2<=n/\b.2.2-b.2.1<=n-i/\(∀ i,i<b.2.1->byd lt left key (ka0 arr (base+i))=Aa)/\(∀ i,b.2.2<=i->i<n->byd lt left key (ka0 arr (base+i))=Af)) (λi b st' _ hi hI=>?_) (λb st' hI=>?_) ⟨rfl,rfl,c1,c2,by show h-l<=n-0;omega,c3,c4⟩) λb st' hP=>?_)
  .obtain⟨rfl,b1,b2,b3,b4,b5,b6⟩:=hI;obtain⟨r,l,h⟩:=b;dsimp only at b1 b2 b3 b4 b5 b6 ⊢;subst b1;by_cases ho:l ≥ h
   .rw[Ar ho];exact AC ⟨rfl,rfl,b3,λi hi'=>b5 i (by show i<l;have:i<h:=hi';omega),b6⟩
   .rw[As ho];refine Ax (ask (l+(h-l)/2) _ (by omega) ?_)
    dsimp only;cases e:byd lt left key (ka0 arr (base+(l+(h-l)/2))) with
    |false=>
     rw[As (by decide)]
     exact AC ⟨rfl,rfl,by show l<=l+(h-l)/2;omega,by show l+(h-l)/2<=n;omega,by show l+(h-l)/2-l<=n-(i+1);omega,b5,λi h1 h2=>up (l+(h-l)/2) i h1 h2 e⟩
    |true=>
     rw[Ar rfl];exact AC ⟨rfl,rfl,by show l+(h-l)/2+1<=h;omega,b3,by show h-(l+(h-l)/2+1)<=n-(i+1);omega,λi hi'=>mono i (l+(h-l)/2) (by have:i<l+(h-l)/2+1:=hi';omega) (by omega) e,b6⟩
  .obtain⟨rfl,b1,b2,b3,b4,b5,b6⟩:=hI;rw[Ed]at b4;exact⟨rfl,b1,b3,λi hi'=>b5 i (by omega),b6⟩
  obtain⟨rfl,b1,b2⟩:=hP;rw[b1];exact AC (q _ b2)
end
section
variable{V:Av->Prop}{lt:Av->Av->Aj}{T out A B:Ac Av}
def leK(lt:Av->Av->Aj)(x y:Av):Prop:=lt y x=Af
structure MI (lt:Av->Av->Aj) (T out A B:Ac Av):Prop where
 pm:(out++(A++B)).Perm T
 sa:(out++A).Pairwise (leK lt)
 sb:(out++B).Pairwise (leK lt)
def SPk(lt:Av->Av->Aj)(T r:Ac Av):Prop:=r.Perm T/\r.Pairwise (leK lt)
theorem MI.mvA(O:OrdK V lt)(hv:∀ x∈T,V x){A1 A2 B':Ac Av}{y:Av}(h:MI lt T out (A1++A2) (y::B'))(hy:∀ x∈A1,leK lt x y):MI lt T (out++A1) A2 (y::B'):=by
 have vm:∀ x,x∈out++((A1++A2)++(y::B'))->V x:=λx hx=>hv x (h.pm.mem_iff.mp hx)
 refine⟨by rw[Cs,<-Cs A1];exact h.pm,by rw[Cs];exact h.sa,?_⟩
 obtain⟨s1,s2,s3⟩:=Ez.mp h.sa;obtain⟨t1,t2,t3⟩:=Ez.mp h.sb;obtain⟨u1,u2,u3⟩:=Ez.mp s2;rw[Cs];refine Ez.mpr ⟨s1,Ez.mpr ⟨u1,t2,λx hx z hz=>?_⟩,λx hx z hz=>?_⟩
 .rcases AK.mp hz with rfl|hz
  .exact hy x hx
  .exact O.trans (vm x (by simp[hx])) (vm y (by simp)) (vm z (by simp[hz])) (hy x hx) ((Eb.mp t2).1 z hz)
 .rcases DC.mp hz with hz|hz
  .exact s3 x hx z (Gz _ hz)
  .exact t3 x hx z hz
theorem MI.swap(h:MI lt T out A B):MI lt T out B A:=⟨(Vy out List.perm_append_comm).trans h.pm,h.sb,h.sa⟩
theorem MI.mvB(O:OrdK V lt)(hv:∀ x∈T,V x){B1 B2 A':Ac Av}(h:MI lt T out (x::A') (B1++B2))(hx:∀ y∈B1,leK lt y x):MI lt T (out++B1) (x::A') B2:=(h.swap.mvA O hv hx).swap
theorem MI.endB(h:MI lt T out A []):SPk lt T (out++A):=⟨by have:=h.pm;rwa [Bw]at this,h.sa⟩
theorem MI.endA(h:MI lt T out [] B):SPk lt T (out++B):=h.swap.endB
theorem MI.end1(O:OrdK V lt)(hv:∀ x∈T,V x)(h:MI lt T out [x] B)(hx:∀ y∈B,leK lt y x):SPk lt T (out++B++[x]):=by
 have h':MI lt T out [x] (B++[]):=by rw[Bw];exact h
 exact(h'.mvB O hv hx).endB
end
section
variable{M:Fn}{A:AU}{E:Vq}{s:Ap}{κ:EL}{V:Av->Prop}{lt:Av->Av->Aj}
theorem KS{r:CO}{Q:Im->AY->Prop}(q:Q ⟨⟩ st):Bl M A E s (liftM (rule r):Er AY DJ Im) Q st:=by
 unfold Bl;show Az M A ((StateT.lift (rule r):Er AY DJ Im).run st) _ E s;rw[StateT.run_lift];exact Ah (GH (At ⟨rfl,q⟩))
def FJ(κ:EL)(st st':AY):Prop:=kindOf st'=κ/\Ay st'=Ay st/\Bh st'=Bh st/\D6 st'=D6 st
theorem Hi(h:i<a.size):a.toList.drop i=ka0 a i::a.toList.drop (i+1):=by
 have e:ka0 a i=a[i]:=by simp[ka0,D8,h]
 rw[e,<-C5];exact Dz (by rw[AQ];exact h)
theorem KW(a:Au Av)(i:Ae):(a.extract i a.size).toList=a.toList.drop i:=by
 rw[C6,B7,F5];rw[EJ,AQ];exact Aw _
theorem Pw(a:Au Av)(i k:Ae):(a.extract i (i+k)).toList=(a.toList.drop i).take k:=by
 rw[C6,B7]
 congr 1
 omega
end
section
variable{M:Fn}{A:AU}{E:Vq}{s:Ap}{κ:EL}{V:Av->Prop}{lt:Av->Av->Aj}
theorem GL[E1 c]{m1 m2:Er AY DJ α}{Q:α->AY->Prop}(h1:Bl M A E s m1 Q st)(h2:Bl M A E s m2 Q st):Bl M A E s (if c then m1 else m2) Q st:=by
 split<;>assumption
theorem Sr[E1 c]{f:Ae->Er AY DJ α}{u v:Ae}{Q:α->AY->Prop}(h:∀ x,Bl M A E s (f x) Q st):Bl M A E s (if c then f u else f v) Q st:=GL (h _) (h _)
structure LI (lt:Av->Av->Aj) (a b:Au Av) (out:Au Av) (ia ib:Ae):Prop where
 la:ia+1<a.size
 lb:ib<b.size
 mi:MI lt (a.toList++b.toList) out.toList (a.toList.drop ia) (b.toList.drop ib)
 sz:out.size=ia+ib
structure Pre (V:Av->Prop) (lt:Av->Av->Aj) (a b:Au Av):Prop where
 va:∀ x∈a.toList,V x
 vb:∀ x∈b.toList,V x
 sa:a.toList.Pairwise (leK lt)
 sb:b.toList.Pairwise (leK lt)
 pa:0<a.size
 pb:0<b.size
 fst:∀ x∈a.toList,leK lt (ka0 b 0) x
 lst:∀ y∈b.toList,leK lt y (ka0 a (a.size-1))
variable{a b out:Au Av}{ia ib:Ae}
theorem Pre.v(P:Pre V lt a b):∀ x∈a.toList++b.toList,V x:=λx hx=>(DC.mp hx).elim (P.va x) (P.vb x)
theorem Ix(h:i<a.size):ka0 a i∈a.toList:=by
 have e:ka0 a i=a[i]:=by simp[ka0,D8,h]
 rw[e];exact Array.mem_toList_iff.mpr (Array.getElem_mem h)
theorem Uz(h:a.toList.Pairwise (leK lt))(hij:i<j)(hj:j<a.size):leK lt (ka0 a i) (ka0 a j):=by
 have e1:ka0 a i=a[i]:=by simp[ka0,D8,V7 hij hj]
 have e2:ka0 a j=a[j]:=by simp[ka0,D8,hj]
 rw[e1,e2,<-C5,<-C5];exact(BF.mp h) i j _ _ hij
theorem LI.pushB(O:OrdK V lt)(P:Pre V lt a b)(h:LI lt a b out ia ib)(hc:leK lt (ka0 b ib) (ka0 a ia)):MI lt (a.toList++b.toList) (out.push (ka0 b ib)).toList (a.toList.drop ia) (b.toList.drop (ib+1)):=by
 have m:=h.mi;have e:=Hi (a:=a) (i:=ia) (by have:=h.la;omega)
 rw[Hi h.lb]at m;rw[Db];rw[e]at m ⊢;exact m.mvB (B1:=[ka0 b ib]) O P.v (λy hy=>by rw[A5.mp hy];exact hc)
theorem LI.pushA(O:OrdK V lt)(P:Pre V lt a b)(h:LI lt a b out ia ib)(hc:leK lt (ka0 a ia) (ka0 b ib)):MI lt (a.toList++b.toList) (out.push (ka0 a ia)).toList (a.toList.drop (ia+1)) (b.toList.drop ib):=by
 have m:=h.mi;have e:=Hi h.lb;rw[Hi (a:=a) (i:=ia) (by have:=h.la;omega)]at m
 rw[Db];rw[e]at m ⊢;exact m.mvA (A1:=[ka0 a ia]) O P.v (λy hy=>by rw[A5.mp hy];exact hc)
theorem MI.pB(O:OrdK V lt)(P:Pre V lt a b)(m:MI lt (a.toList++b.toList) out.toList (a.toList.drop ja) (b.toList.drop jb))(ha:ja<a.size)(hb:jb<b.size)(hc:leK lt (ka0 b jb) (ka0 a ja)):MI lt (a.toList++b.toList) (out.push (ka0 b jb)).toList (a.toList.drop ja) (b.toList.drop (jb+1)):=by
 have e:=Hi ha;rw[Hi hb]at m;rw[Db];rw[e]at m ⊢;exact m.mvB (B1:=[ka0 b jb]) O P.v (λy hy=>by rw[A5.mp hy];exact hc)
theorem MI.pA(O:OrdK V lt)(P:Pre V lt a b)(m:MI lt (a.toList++b.toList) out.toList (a.toList.drop ja) (b.toList.drop jb))(ha:ja<a.size)(hb:jb<b.size)(hc:leK lt (ka0 a ja) (ka0 b jb)):MI lt (a.toList++b.toList) (out.push (ka0 a ja)).toList (a.toList.drop (ja+1)) (b.toList.drop jb):=by
 have e:=Hi hb;rw[Hi ha]at m;rw[Db];rw[e]at m ⊢;exact m.mvA (A1:=[ka0 a ja]) O P.v (λy hy=>by rw[A5.mp hy];exact hc)
theorem O4(o a:Au Av)(h:j+k<=a.size):(o++a.extract j (j+k)).size=o.size+k:=by
 rw[Ht,EZ];omega
theorem MM(h:x∈(a.toList.drop j).take k):∃ i,i<k/\j+i<a.size/\x=ka0 a (j+i):=by
 obtain⟨i,hi,rfl⟩:=Cc h;rw[D5,EJ,AQ]at hi;refine⟨i,by omega,by omega,?_⟩
 rw[VN,VL,C5];simp[ka0,D8,show j+i<a.size by omega]
theorem MI.chA(O:OrdK V lt)(P:Pre V lt a b)(m:MI lt (a.toList++b.toList) out.toList (a.toList.drop ja) (b.toList.drop jb))(hb:jb<b.size)(hc:∀ i,i<k->ja+i<a.size->leK lt (ka0 a (ja+i)) (ka0 b jb)):MI lt (a.toList++b.toList) (out++a.extract ja (ja+k)).toList (a.toList.drop (ja+k)) (b.toList.drop jb):=by
 rw[Be,Pw];have e:=Hi hb;rw[e]at m ⊢;rw[show a.toList.drop (ja+k)=(a.toList.drop ja).drop k from (GS ..).symm]
 refine MI.mvA O P.v (by rw[CQ];exact m) λx hx=>?_
 obtain⟨i,h1,h2,rfl⟩:=MM hx;exact hc i h1 h2
theorem MI.chB(O:OrdK V lt)(P:Pre V lt a b)(m:MI lt (a.toList++b.toList) out.toList (a.toList.drop ja) (b.toList.drop jb))(ha:ja<a.size)(hc:∀ i,i<k->jb+i<b.size->leK lt (ka0 b (jb+i)) (ka0 a ja)):MI lt (a.toList++b.toList) (out++b.extract jb (jb+k)).toList (a.toList.drop ja) (b.toList.drop (jb+k)):=by
 rw[Be,Pw];have e:=Hi ha;rw[e]at m ⊢;rw[show b.toList.drop (jb+k)=(b.toList.drop jb).drop k from (GS ..).symm]
 refine MI.mvB O P.v (by rw[CQ];exact m) λx hx=>?_
 obtain⟨i,h1,h2,rfl⟩:=MM hx;exact hc i h1 h2
theorem TW(O:OrdK V lt)(va:∀ x∈a.toList,V x)(sa:a.toList.Pairwise (leK lt))(vk:V key)(i k:Ae)(h:i<=k)(hk:j+k<a.size)(hb:byd lt Af key (ka0 a (j+k))=Aa):byd lt Af key (ka0 a (j+i))=Aa:=by
 by_cases e:i=k
 .rw[e];exact hb
 .have l:=Uz sa (i:=j+i) (j:=j+k) (by omega) hk
  have hb':lt key (ka0 a (j+k))=Af:=by simpa [byd] using hb
  have:=O.trans (va _ (Ix (by omega))) (va _ (Ix hk)) vk l hb'
  simpa [byd] using this
theorem O7(O:OrdK V lt)(va:∀ x∈a.toList,V x)(sa:a.toList.Pairwise (leK lt))(vk:V key)(i k:Ae)(h:i<=k)(hk:j+k<a.size)(hb:byd lt Aa key (ka0 a (j+k))=Aa):byd lt Aa key (ka0 a (j+i))=Aa:=by
 by_cases e:i=k
 .rw[e];exact hb
 .have l:=Uz sa (i:=j+i) (j:=j+k) (by omega) hk
  have hb':lt (ka0 a (j+k)) key=Aa:=by simpa [byd] using hb
  show byd lt Aa key (ka0 a (j+i))=Aa;cases q:lt (ka0 a (j+i)) key with
  |true=>simpa [byd] using q
  |false=>
   have:=O.trans vk (va _ (Ix (show j+i<a.size by omega))) (va _ (Ix hk)) q l
   rw[this]at hb';cases hb'
theorem PL(h:K8 (λi=>byd lt Af key (ka0 a (j+i))) n k):k<=n/\(∀ i,i<k->leK lt (ka0 a (j+i)) key)/\∀ i,k<=i->i<n->lt key (ka0 a (j+i))=Aa:=⟨h.1,λi hi=>by have:=h.2.1 i hi;simpa [byd,leK] using this,λi h1 h2=>by have:=h.2.2 i h1 h2;simpa [byd,leK] using this⟩
theorem Nf(h:K8 (λi=>byd lt Aa key (ka0 a (j+i))) n k):k<=n/\(∀ i,i<k->lt (ka0 a (j+i)) key=Aa)/\∀ i,k<=i->i<n->leK lt key (ka0 a (j+i)):=⟨h.1,λi hi=>by have:=h.2.1 i hi;simpa [byd,leK] using this,λi h1 h2=>by have:=h.2.2 i h1 h2;simpa [byd,leK] using this⟩
theorem KM{a b out:Au Av}{ia:Ae}(m:MI lt (a.toList++b.toList) out.toList (a.toList.drop ia) (b.toList.drop b.size)):SPk lt (a.toList++b.toList) (out++a.extract ia a.size++b.extract b.size b.size).toList:=by
 rw[Be,Be,KW,KW];have e:b.toList.drop b.size=[]:=F4 (by rw[AQ];exact Aw _)
 rw[e]at m ⊢;rw[Bw];exact m.endB
theorem Zl{a b out:Au Av}{ib:Ae}(m:MI lt (a.toList++b.toList) out.toList (a.toList.drop a.size) (b.toList.drop ib)):SPk lt (a.toList++b.toList) (out++a.extract a.size a.size++b.extract ib b.size).toList:=by
 rw[Be,Be,KW,KW];have e:a.toList.drop a.size=[]:=F4 (by rw[AQ];exact Aw _)
 rw[e]at m ⊢;rw[Bw];exact m.endA
theorem J9(O:OrdK V lt)(P:Pre V lt a b)(e:ia+1=a.size)(m:MI lt (a.toList++b.toList) out.toList (a.toList.drop ia) (b.toList.drop ib)):SPk lt (a.toList++b.toList) (out++b.extract ib b.size++a.extract ia a.size).toList:=by
 rw[Be,Be,KW,KW];have e1:a.toList.drop ia=[ka0 a ia]:=by
  rw[Hi (by omega),e,F4 (by rw[AQ];exact Aw _)]
 rw[e1]at m ⊢;refine m.end1 O P.v λy hy=>?_
 have:=P.lst y (List.mem_of_mem_drop hy)
 rwa [show a.size-1=ia by omega]at this
theorem Y_6(C:Ig M A s κ V lt)(O:OrdK V lt)(P:Pre V lt a b){Q:Au Av->AY->Prop}(hk:kindOf st=κ)(q:∀ r st',SPk lt (a.toList++b.toList) r.toList->FJ κ st st'->Q r st'):Bl M A E s (bN a b) Q st:=by
 have ss0:FJ κ st st:=⟨hk,rfl,rfl,rfl⟩;have vA:∀ {i},i<a.size->V (ka0 a i):=λh=>P.va _ (Ix h)
 have vB:∀ {i},i<b.size->V (ka0 b i):=λh=>P.vb _ (Ix h)
 have m0:MI lt (a.toList++b.toList) (#[ka0 b 0]:Au Av).toList (a.toList.drop 0) (b.toList.drop 1):=by
  have e:=Hi P.pb;rw[GU]at e;rw[GU];refine⟨?_,Eb.mpr ⟨λx hx=>P.fst x hx,P.sa⟩,by have:=P.sb;rw[e]at this;exact this⟩
  have pm:(ka0 b 0::(a.toList++b.toList.drop 1)).Perm (a.toList++(ka0 b 0::b.toList.drop (0+1))):=List.perm_middle.symm;rw[<-e]at pm;exact pm
 refine Ax (KS ?_);refine Ax (DS P.pb ?_)
 extract_lets out0 ia0 ib0
 by_cases h1:(ib0==b.size)=Aa
 .rw[Ar h1];have e1:1=b.size:=by simpa [ib0] using h1
  refine AC (q _ _ ?_ ss0);show SPk lt _ (#[ka0 b 0]++a.extract 0 a.size++b.extract 1 b.size).toList;rw[e1];rw[e1]at m0;exact KM m0
 rw[As h1];by_cases h2:(ia0+1==a.size)=Aa
 .rw[Ar h2];have e2:0+1=a.size:=by simpa [ia0] using h2
  exact AC (q _ _ (J9 O P e2 m0) ss0)
 rw[As h2];have b1:1<b.size:=by
  have n1:¬ 1=b.size:=by simpa [ib0] using h1
  have:=P.pb;omega
 have a1:0+1<a.size:=by
  have n1:¬ 0+1=a.size:=by simpa [ia0] using h2
  have:=P.pa;omega
 refine Ax (FN ?_)
 extract_lets mg0
 refine Ax (CW (Q:=λx st'=>FJ κ st st'/\∃ r,x.1=Ab r/\SPk lt (a.toList++b.toList) r.toList) (BM (λi x st'=>FJ κ st st'/\x.1=Ad/\LI lt a b x.2.1 x.2.2.1 x.2.2.2.1/\i+1<=x.2.1.size) (λi x st' _ hi hI=>?_) (λx st' hI=>?_) ⟨ss0,rfl,⟨a1,b1,m0,rfl⟩,Aw _⟩) λx st' hP=>?_)
 .obtain⟨ss,hx,li,hsz⟩:=hI;obtain⟨x1,out,ia,ib,mg⟩:=x;have li:LI lt a b out ia ib:=li;have hsz:i+1<=out.size:=hsz;have ht:0<a.size+b.size:=by omega
  try extract_lets
  refine Ax (CW (Q:=λy st''=>FJ κ st st''/\((y.1=Ad/\LI lt a b y.2.1 y.2.2.1 y.2.2.2.1/\out.size+1<=y.2.1.size)\/∃ r,y.1=Ab r/\SPk lt (a.toList++b.toList) r.toList)) (BM (λj y st''=>FJ κ st st''/\y.1=Ad/\LI lt a b y.2.1 y.2.2.1 y.2.2.2.1/\out.size+j<=y.2.1.size) (λj y st'' _ hj hJ=>?_) (λy st'' hJ=>?_) ⟨ss,rfl,li,Aw _⟩) λy st'' hP=>?_)
  .obtain⟨ss1,hy,l1,hs1⟩:=hJ;obtain⟨y1,o,ja,jb,ac,bc⟩:=y;have l1:LI lt a b o ja jb:=l1;have hs1:out.size+j<=o.size:=hs1;have la:=l1.la;have lb:=l1.lb;have lja:ja<a.size:=by omega
   try extract_lets
   refine Ax (DS lb ?_);refine Ax (DS lja ?_);refine Ax (C _ _ _ _ _ ss1.1 (vB lb) (vA (by omega)) ?_)
   show Bl M A E s (if lt (ka0 b jb) (ka0 a ja)=Aa then _ else _) _ _
   by_cases e:lt (ka0 b jb) (ka0 a ja)=Aa
   .rw[Ar e];refine Ax (DS lb ?_);have m:=l1.pushB O P (O.asymm (vB lb) (vA (by omega)) e)
    try extract_lets
    show Bl M A E s (if (jb+1==b.size)=Aa then _ else _) _ _
    by_cases hb:(jb+1==b.size)=Aa
    .rw[Ar hb];have e1:jb+1=b.size:=by simpa using hb
     refine AC ⟨ss1,.inr ⟨_,rfl,?_⟩⟩;show SPk lt _ (o.push (ka0 b jb)++a.extract ja a.size++b.extract (jb+1) b.size).toList;rw[e1]at m ⊢;exact KM m
    .rw[As hb];have e1:¬ jb+1=b.size:=by simpa using hb
     have li':LI lt a b (o.push (ka0 b jb)) ja (jb+1):=⟨la,by omega,m,by rw[BU,l1.sz];omega⟩
     have sz':(o.push (ka0 b jb)).size=o.size+1:=BU ..;refine GL ?_ ?_
     .exact AC ⟨ss1,.inl ⟨rfl,li',by show out.size+1<=(o.push (ka0 b jb)).size;omega⟩⟩
     .exact AC ⟨ss1,rfl,li',by show out.size+(j+1)<=(o.push (ka0 b jb)).size;omega⟩
   .rw[As e];refine Ax (DS lja ?_);have m:=l1.pushA O P (show lt (ka0 b jb) (ka0 a ja)=Af by simpa using e)
    try extract_lets
    show Bl M A E s (if (ja+1+1==a.size)=Aa then _ else _) _ _
    by_cases hb:(ja+1+1==a.size)=Aa
    .rw[Ar hb];have e1:ja+1+1=a.size:=by simpa using hb
     exact AC ⟨ss1,.inr ⟨_,rfl,J9 O P e1 m⟩⟩
    .rw[As hb];have e1:¬ ja+1+1=a.size:=by simpa using hb
     have li':LI lt a b (o.push (ka0 a ja)) (ja+1) jb:=⟨by omega,lb,m,by rw[BU,l1.sz];omega⟩
     have sz':(o.push (ka0 a ja)).size=o.size+1:=BU ..;refine GL ?_ ?_
     .exact AC ⟨ss1,.inl ⟨rfl,li',by show out.size+1<=(o.push (ka0 a ja)).size;omega⟩⟩
     .exact AC ⟨ss1,rfl,li',by show out.size+(j+1)<=(o.push (ka0 a ja)).size;omega⟩
  .obtain⟨ss1,hy,l1,hs1⟩:=hJ;rw[Ed]at hs1;exact⟨ss1,.inl ⟨hy,l1,by omega⟩⟩
  .obtain⟨ss1,hP⟩:=hP;obtain⟨y1,o,ja,jb,ac,bc⟩:=y;rcases hP with ⟨hy,l1,hs1⟩|⟨r,hy,sp⟩
   .have hy:y1=Ad:=hy;have l1:LI lt a b o ja jb:=l1;have hs1:out.size+1<=o.size:=hs1;subst hy
    try extract_lets
    refine Ax (KS ?_)
    extract_lets mg1
    refine Ax (CW (Q:=λy st3=>FJ κ st st3/\((y.1=Ad/\LI lt a b y.2.1 y.2.2.1 y.2.2.2.1/\out.size+1<=y.2.1.size)\/∃ r,y.1=Ab r/\SPk lt (a.toList++b.toList) r.toList)) (BM (λj y st3=>FJ κ st st3/\y.1=Ad/\LI lt a b y.2.1 y.2.2.1 y.2.2.2.1/\out.size+1<=y.2.1.size) (λj y st3 _ hj hJ=>?_) (λy st3 hJ=>⟨hJ.1,.inl hJ.2⟩) ⟨ss1,rfl,l1,hs1⟩) λy st3 hP=>?_)
    .obtain⟨ss2,hy,l2,hs2⟩:=hJ;obtain⟨y1,o,ja,jb,mg2,ac,bc⟩:=y;have l2:LI lt a b o ja jb:=l2;have hs2:out.size+1<=o.size:=hs2;have la:=l2.la;have lb:=l2.lb;have lja:ja<a.size:=by omega
     try extract_lets
     refine Sr λmg3=>?_
     refine Ax (EA ?_);refine Ax (DS lb ?_);refine Ax (J8 C ss2.1 (vB lb) (show ja+(a.size-ja)<=a.size by omega) (λi hi=>vA (by omega)) (show 0<a.size-ja by omega) (λi k h1 h2 h3=>TW O P.va P.sa (vB lb) i k h1 (by omega) h3) λk hk=>?_)
     obtain⟨k1,k2,k3⟩:=PL hk;have k1:k<=a.size-ja:=k1;have k2:∀ i,i<k->leK lt (ka0 a (ja+i)) (ka0 b jb):=k2;have k3:∀ i,k<=i->i<a.size-ja->lt (ka0 b jb) (ka0 a (ja+i))=Aa:=k3;have m1:=l2.mi.chA O P (k:=k) lb λi hi _=>k2 i hi
     try extract_lets
     show Bl M A E s (if k>0 then _ else _) _ _
     by_cases hk0:k>0
     .rw[Ar hk0];have z1:=O4 o a (show ja+k<=a.size by omega)
      try extract_lets
      show Bl M A E s (if (ja+k+1==a.size)=Aa then _ else if (ja+k==a.size)=Aa then _ else _) _ _
      by_cases c1:(ja+k+1==a.size)=Aa
      .rw[Ar c1];exact AC ⟨ss2,.inr ⟨_,rfl,J9 O P (by simpa using c1) m1⟩⟩
      rw[As c1];by_cases c2:(ja+k==a.size)=Aa
      .rw[Ar c2];have e2:ja+k=a.size:=by simpa using c2
       refine AC ⟨ss2,.inr ⟨_,rfl,?_⟩⟩;show SPk lt _ (o++a.extract ja (ja+k)++a.extract (ja+k) a.size++b.extract jb b.size).toList;rw[e2]at m1 ⊢;exact Zl m1
      rw[As c2];have c1:¬ ja+k+1=a.size:=by simpa using c1
      have c2:¬ ja+k=a.size:=by simpa using c2
      have lt2:=k3 k (Aw _) (by omega)
      have sz2:=l2.sz;refine Ax (DS lb ?_);have m2:=MI.pB O P m1 (by omega) lb (O.asymm (vB lb) (vA (by omega)) lt2)
      have z2:((o++a.extract ja (ja+k)).push (ka0 b jb)).size=(o++a.extract ja (ja+k)).size+1:=BU ..
      try extract_lets
      show Bl M A E s (if (jb+1==b.size)=Aa then _ else _) _ _
      by_cases c3:(jb+1==b.size)=Aa
      .rw[Ar c3];have e3:jb+1=b.size:=by simpa using c3
       refine AC ⟨ss2,.inr ⟨_,rfl,?_⟩⟩;show SPk lt _ (((o++a.extract ja (ja+k)).push (ka0 b jb))++a.extract (ja+k) a.size++b.extract (jb+1) b.size).toList;rw[e3]at m2 ⊢;exact KM m2
      rw[As c3];have c3:¬ jb+1=b.size:=by simpa using c3
      have lb2:jb+1<b.size:=by omega
      have lj2:ja+k<a.size:=by omega
      refine Ax (DS lj2 ?_);refine Ax (J8 C ss2.1 (vA lj2) (show jb+1+(b.size-(jb+1))<=b.size by omega) (λi hi=>vB (by omega)) (show 0<b.size-(jb+1) by omega) (λi k h1 h2 h3=>O7 O P.vb P.sb (vA lj2) i k h1 (by omega) h3) λkk hkk=>?_)
      obtain⟨q1,q2,q3⟩:=Nf hkk;have q1:kk<=b.size-(jb+1):=q1;have q2:∀ i,i<kk->lt (ka0 b (jb+1+i)) (ka0 a (ja+k))=Aa:=q2;have q3:∀ i,kk<=i->i<b.size-(jb+1)->leK lt (ka0 a (ja+k)) (ka0 b (jb+1+i)):=q3
      try extract_lets
      show Bl M A E s (if kk>0 then _ else _) _ _
      by_cases hk1:kk>0
      .rw[Ar hk1];have m3:=MI.chB O P (k:=kk) m2 lj2 λi hi h'=>O.asymm (vB h') (vA lj2) (q2 i hi)
       have z3:=O4 ((o++a.extract ja (ja+k)).push (ka0 b jb)) b (show jb+1+kk<=b.size by omega)
       try extract_lets
       show Bl M A E s (if (jb+1+kk==b.size)=Aa then _ else _) _ _
       by_cases c4:(jb+1+kk==b.size)=Aa
       .rw[Ar c4];have e4:jb+1+kk=b.size:=by simpa using c4
        refine AC ⟨ss2,.inr ⟨_,rfl,?_⟩⟩;show SPk lt _ (((o++a.extract ja (ja+k)).push (ka0 b jb))++b.extract (jb+1) (jb+1+kk)++a.extract (ja+k) a.size++b.extract (jb+1+kk) b.size).toList;rw[e4]at m3 ⊢;exact KM m3
       rw[As c4];have c4:¬ jb+1+kk=b.size:=by simpa using c4
       have lb3:jb+1+kk<b.size:=by omega
       have lt3:=q3 kk (Aw _) (by omega)
       refine Ax (DS (show ja+k<a.size by omega) ?_)
       have m4:=MI.pA O P m3 (by omega) lb3 lt3
       have z4:((((o++a.extract ja (ja+k)).push (ka0 b jb))++b.extract (jb+1) (jb+1+kk)).push (ka0 a (ja+k))).size=(((o++a.extract ja (ja+k)).push (ka0 b jb))++b.extract (jb+1) (jb+1+kk)).size+1:=BU ..
       try extract_lets
       show Bl M A E s (if (ja+k+1+1==a.size)=Aa then _ else _) _ _
       by_cases d1:(ja+k+1+1==a.size)=Aa
       .rw[Ar d1];exact AC ⟨ss2,.inr ⟨_,rfl,J9 O P (by simpa using d1) m4⟩⟩
       .rw[As d1];have d1:¬ ja+k+1+1=a.size:=by simpa using d1
        have l4:LI lt a b ((((o++a.extract ja (ja+k)).push (ka0 b jb))++b.extract (jb+1) (jb+1+kk)).push (ka0 a (ja+k))) (ja+k+1) (jb+1+kk):=⟨by omega,lb3,m4,by omega⟩
        have h4:out.size+1<=((((o++a.extract ja (ja+k)).push (ka0 b jb))++b.extract (jb+1) (jb+1+kk)).push (ka0 a (ja+k))).size:=by omega
        refine GL ?_ ?_
        .exact AC ⟨ss2,.inl ⟨rfl,l4,h4⟩⟩
        .exact AC ⟨ss2,rfl,l4,h4⟩
      .rw[As hk1];have hk1:kk=0:=by omega
       subst hk1;have m3:=m2;have lb3:=lb2;have lt3:=q3 0 (Aw _) (by omega)
       refine Ax (DS (show ja+k<a.size by omega) ?_)
       have m4:=MI.pA O P m3 (by omega) lb3 lt3
       have z4:(((o++a.extract ja (ja+k)).push (ka0 b jb)).push (ka0 a (ja+k))).size=((o++a.extract ja (ja+k)).push (ka0 b jb)).size+1:=BU ..
       try extract_lets
       show Bl M A E s (if (ja+k+1+1==a.size)=Aa then _ else _) _ _
       by_cases d1:(ja+k+1+1==a.size)=Aa
       .rw[Ar d1];exact AC ⟨ss2,.inr ⟨_,rfl,J9 O P (by simpa using d1) m4⟩⟩
       .rw[As d1];have d1:¬ ja+k+1+1=a.size:=by simpa using d1
        have l4:LI lt a b (((o++a.extract ja (ja+k)).push (ka0 b jb)).push (ka0 a (ja+k))) (ja+k+1) (jb+1):=⟨by omega,lb3,m4,by omega⟩
        have h4:out.size+1<=(((o++a.extract ja (ja+k)).push (ka0 b jb)).push (ka0 a (ja+k))).size:=by omega
        refine GL ?_ ?_
        .exact AC ⟨ss2,.inl ⟨rfl,l4,h4⟩⟩
        .exact AC ⟨ss2,rfl,l4,h4⟩
     .rw[As hk0];have hk0:k=0:=by omega
      subst hk0;have m1:=l2.mi;have lt2:=k3 0 (Aw _) (by omega)
      have sz2:=l2.sz;refine Ax (DS lb ?_);have m2:=MI.pB O P m1 (by omega) lb (O.asymm (vB lb) (vA (by omega)) lt2)
      have z2:(o.push (ka0 b jb)).size=o.size+1:=BU ..
      try extract_lets
      show Bl M A E s (if (jb+1==b.size)=Aa then _ else _) _ _
      by_cases c3:(jb+1==b.size)=Aa
      .rw[Ar c3];have e3:jb+1=b.size:=by simpa using c3
       refine AC ⟨ss2,.inr ⟨_,rfl,?_⟩⟩;show SPk lt _ ((o.push (ka0 b jb))++a.extract (ja) a.size++b.extract (jb+1) b.size).toList;rw[e3]at m2 ⊢;exact KM m2
      rw[As c3];have c3:¬ jb+1=b.size:=by simpa using c3
      have lb2:jb+1<b.size:=by omega
      have lj2:ja<a.size:=by omega
      refine Ax (DS lj2 ?_);refine Ax (J8 C ss2.1 (vA lj2) (show jb+1+(b.size-(jb+1))<=b.size by omega) (λi hi=>vB (by omega)) (show 0<b.size-(jb+1) by omega) (λi k h1 h2 h3=>O7 O P.vb P.sb (vA lj2) i k h1 (by omega) h3) λkk hkk=>?_)
      obtain⟨q1,q2,q3⟩:=Nf hkk;have q1:kk<=b.size-(jb+1):=q1;have q2:∀ i,i<kk->lt (ka0 b (jb+1+i)) (ka0 a (ja))=Aa:=q2;have q3:∀ i,kk<=i->i<b.size-(jb+1)->leK lt (ka0 a (ja)) (ka0 b (jb+1+i)):=q3
      try extract_lets
      show Bl M A E s (if kk>0 then _ else _) _ _
      by_cases hk1:kk>0
      .rw[Ar hk1];have m3:=MI.chB O P (k:=kk) m2 lj2 λi hi h'=>O.asymm (vB h') (vA lj2) (q2 i hi)
       have z3:=O4 (o.push (ka0 b jb)) b (show jb+1+kk<=b.size by omega)
       try extract_lets
       show Bl M A E s (if (jb+1+kk==b.size)=Aa then _ else _) _ _
       by_cases c4:(jb+1+kk==b.size)=Aa
       .rw[Ar c4];have e4:jb+1+kk=b.size:=by simpa using c4
        refine AC ⟨ss2,.inr ⟨_,rfl,?_⟩⟩;show SPk lt _ ((o.push (ka0 b jb))++b.extract (jb+1) (jb+1+kk)++a.extract (ja) a.size++b.extract (jb+1+kk) b.size).toList;rw[e4]at m3 ⊢;exact KM m3
       rw[As c4];have c4:¬ jb+1+kk=b.size:=by simpa using c4
       have lb3:jb+1+kk<b.size:=by omega
       have lt3:=q3 kk (Aw _) (by omega)
       refine Ax (DS (show ja<a.size by omega) ?_)
       have m4:=MI.pA O P m3 (by omega) lb3 lt3
       have z4:(((o.push (ka0 b jb))++b.extract (jb+1) (jb+1+kk)).push (ka0 a (ja))).size=((o.push (ka0 b jb))++b.extract (jb+1) (jb+1+kk)).size+1:=BU ..
       try extract_lets
       show Bl M A E s (if (ja+1+1==a.size)=Aa then _ else _) _ _
       by_cases d1:(ja+1+1==a.size)=Aa
       .rw[Ar d1];exact AC ⟨ss2,.inr ⟨_,rfl,J9 O P (by simpa using d1) m4⟩⟩
       .rw[As d1];have d1:¬ ja+1+1=a.size:=by simpa using d1
        have l4:LI lt a b (((o.push (ka0 b jb))++b.extract (jb+1) (jb+1+kk)).push (ka0 a (ja))) (ja+1) (jb+1+kk):=⟨by omega,lb3,m4,by omega⟩
        have h4:out.size+1<=(((o.push (ka0 b jb))++b.extract (jb+1) (jb+1+kk)).push (ka0 a (ja))).size:=by omega
        refine GL ?_ ?_
        .exact AC ⟨ss2,.inl ⟨rfl,l4,h4⟩⟩
        .exact AC ⟨ss2,rfl,l4,h4⟩
      .rw[As hk1];have hk1:kk=0:=by omega
       subst hk1;have m3:=m2;have lb3:=lb2;have lt3:=q3 0 (Aw _) (by omega)
       refine Ax (DS (show ja<a.size by omega) ?_)
       have m4:=MI.pA O P m3 (by omega) lb3 lt3
       have z4:((o.push (ka0 b jb)).push (ka0 a (ja))).size=(o.push (ka0 b jb)).size+1:=BU ..
       try extract_lets
       show Bl M A E s (if (ja+1+1==a.size)=Aa then _ else _) _ _
       by_cases d1:(ja+1+1==a.size)=Aa
       .rw[Ar d1];exact AC ⟨ss2,.inr ⟨_,rfl,J9 O P (by simpa using d1) m4⟩⟩
       .rw[As d1];have d1:¬ ja+1+1=a.size:=by simpa using d1
        have l4:LI lt a b ((o.push (ka0 b jb)).push (ka0 a (ja))) (ja+1) (jb+1):=⟨by omega,lb3,m4,by omega⟩
        have h4:out.size+1<=((o.push (ka0 b jb)).push (ka0 a (ja))).size:=by omega
        refine GL ?_ ?_
        .exact AC ⟨ss2,.inl ⟨rfl,l4,h4⟩⟩
        .exact AC ⟨ss2,rfl,l4,h4⟩
    .obtain⟨ss2,hP⟩:=hP;obtain⟨y1,o,ja,jb,mg2,ac,bc⟩:=y;rcases hP with ⟨hy,l2,hs2⟩|⟨r,hy,sp⟩
     .have hy:y1=Ad:=hy;subst hy;refine Ax (EA ?_);exact AC ⟨ss2,rfl,l2,by have:out.size+1<=o.size:=hs2;show i+1+1<=o.size;omega⟩
     .have hy:y1=Ab r:=hy;subst hy;exact AC ⟨ss2,r,rfl,sp⟩
   .have hy:y1=Ab r:=hy;subst hy;exact AC ⟨ss1,r,rfl,sp⟩
 .obtain⟨_,_,h,h3⟩:=hI
  exfalso
  have:=h.sz;have:=h.la;have:=h.lb;rw[Ed]at h3;omega
 .obtain⟨ss,r,e,sp⟩:=hP;obtain⟨x1,x2⟩:=x;have e:x1=Ab r:=e;subst e;exact AC (q _ _ sp ss)
end
section
variable{M:Fn}{A:AU}{E:Vq}{s:Ap}{κ:EL}{V:Av->Prop}{lt:Av->Av->Aj}
theorem Uk{f:Im->Ae->Au Av->Er AY DJ α}{H:Ae->Au Av->Prop}{m:Er AY DJ α}{Q:α->AY->Prop}(J:∀ n o,H n o->Bl M A E s (f ⟨⟩ n o) Q st)(main:(∀ n o,H n o->Bl M A E s (f ⟨⟩ n o) Q st)->Bl M A E s m Q st):Bl M A E s m Q st:=main J
noncomputable def flp(lt:Av->Av->Aj)(x y:Av):Aj:=lt y x
theorem OrdK.flp(O:OrdK V lt):OrdK V (flp lt):=⟨λhx hy h=>O.asymm hy hx h,λhx hy hz h1 h2=>O.trans hz hy hx h2 h1⟩
def MH(lt:Av->Av->Aj)(T out A B:Ac Av):Prop:=MI (flp lt) T out A.reverse B.reverse
theorem SPk.rev{T r:Ac Av}(h:SPk (flp lt) T r):SPk lt T r.reverse:=⟨(Hw r).trans h.1,Gu.mpr h.2⟩
theorem JI(h:i<a.size):(a.toList.take (i+1)).reverse=ka0 a i::(a.toList.take i).reverse:=by
 have e:ka0 a i=a[i]:=by simp[ka0,D8,h]
 rw[e,<-C5,V1 (by rw[AQ];exact h),DY]
 rfl
theorem Ld(a:Au Av)(k:Ae):(a.extract 0 k).toList=a.toList.take k:=by
 rw[C6,B7,GU];rfl
theorem SD(a:Au Av)(h:j<=n):(a.toList.take n).reverse=((a.extract j n).reverse).toList++(a.toList.take j).reverse:=by
 rw[Eu,C6,B7,<-DY]
 congr 1
 conv=>lhs;rw[show n=j+(n-j) by omega,List.take_add]
theorem SK(hn:n<=a.size)(h:x∈(a.extract j n).reverse.toList):∃ i,j<=i/\i<n/\x=ka0 a i:=by
 rw[Eu,List.mem_reverse,C6,B7]at h;obtain⟨i,h1,h2,rfl⟩:=MM h;exact⟨j+i,by omega,by omega,rfl⟩
structure HI (lt:Av->Av->Aj) (a b:Au Av) (out:Au Av) (na nb:Ae):Prop where
 la:0<na
 la':na<=a.size
 lb:1<nb
 lb':nb<=b.size
 mi:MH lt (a.toList++b.toList) out.toList (a.toList.take na) (b.toList.take nb)
 sz:out.size+na+nb=a.size+b.size
variable{a b out:Au Av}
theorem MH.pA(O:OrdK V lt)(P:Pre V lt a b)(m:MH lt (a.toList++b.toList) out.toList (a.toList.take (n+1)) (b.toList.take (k+1)))(ha:n<a.size)(hb:k<b.size)(hc:leK lt (ka0 b k) (ka0 a n)):MH lt (a.toList++b.toList) (out.push (ka0 a n)).toList (a.toList.take n) (b.toList.take (k+1)):=by
 unfold MH at m ⊢;have e:=JI hb;rw[JI ha]at m;rw[Db];rw[e]at m ⊢;exact m.mvA (A1:=[ka0 a n]) O.flp P.v (λy hy=>by rw[A5.mp hy];exact hc)
theorem MH.pB(O:OrdK V lt)(P:Pre V lt a b)(m:MH lt (a.toList++b.toList) out.toList (a.toList.take (n+1)) (b.toList.take (k+1)))(ha:n<a.size)(hb:k<b.size)(hc:leK lt (ka0 a n) (ka0 b k)):MH lt (a.toList++b.toList) (out.push (ka0 b k)).toList (a.toList.take (n+1)) (b.toList.take k):=by
 unfold MH at m ⊢;have e:=JI ha;rw[JI hb]at m;rw[Db];rw[e]at m ⊢;exact m.mvB (B1:=[ka0 b k]) O.flp P.v (λy hy=>by rw[A5.mp hy];exact hc)
theorem MH.chA(O:OrdK V lt)(P:Pre V lt a b)(m:MH lt (a.toList++b.toList) out.toList (a.toList.take n) (b.toList.take (k+1)))(hj:j<=n)(hn:n<=a.size)(hb:k<b.size)(hc:∀ i,j<=i->i<n->leK lt (ka0 b k) (ka0 a i)):MH lt (a.toList++b.toList) (out++(a.extract j n).reverse).toList (a.toList.take j) (b.toList.take (k+1)):=by
 unfold MH at m ⊢;rw[Be];rw[SD a hj]at m;rw[JI hb]at m ⊢;refine m.mvA O.flp P.v λx hx=>?_
 obtain⟨i,h1,h2,rfl⟩:=SK hn hx;exact hc i h1 h2
theorem MH.chB(O:OrdK V lt)(P:Pre V lt a b)(m:MH lt (a.toList++b.toList) out.toList (a.toList.take (k+1)) (b.toList.take n))(hj:j<=n)(hn:n<=b.size)(ha:k<a.size)(hc:∀ i,j<=i->i<n->leK lt (ka0 a k) (ka0 b i)):MH lt (a.toList++b.toList) (out++(b.extract j n).reverse).toList (a.toList.take (k+1)) (b.toList.take j):=by
 unfold MH at m ⊢;rw[Be];rw[SD b hj]at m;rw[JI ha]at m ⊢;refine m.mvB O.flp P.v λx hx=>?_
 obtain⟨i,h1,h2,rfl⟩:=SK hn hx;exact hc i h1 h2
theorem MZ(m:MH lt (a.toList++b.toList) out.toList (a.toList.take 0) (b.toList.take n)):SPk lt (a.toList++b.toList) (a.extract 0 0++b.extract 0 n++out.reverse).toList:=by
 rw[Be,Be,Ld,Ld,Eu];unfold MH at m;rw[IJ]at m ⊢;have:=(m.endA).rev
 rwa [DY,Fk]at this
theorem nM(m:MH lt (a.toList++b.toList) out.toList (a.toList.take n) (b.toList.take 0)):SPk lt (a.toList++b.toList) (a.extract 0 n++b.extract 0 0++out.reverse).toList:=by
 rw[Be,Be,Ld,Ld,Eu];unfold MH at m;rw[IJ]at m ⊢;have:=(m.endB).rev;rw[DY,Fk]at this
 rwa [Bw]
theorem M0(O:OrdK V lt)(P:Pre V lt a b)(m:MH lt (a.toList++b.toList) out.toList (a.toList.take n) (b.toList.take 1)):SPk lt (a.toList++b.toList) (b.extract 0 1++a.extract 0 n++out.reverse).toList:=by
 rw[Be,Be,Ld,Ld,Eu];unfold MH at m;have e:=JI P.pb;rw[IJ]at e;rw[e]at m;have e':b.toList.take 1=[ka0 b 0]:=by
  have:=congrArg List.reverse e;rw[Fk]at this;exact this
 have:=(m.swap.end1 O.flp P.v λy hy=>P.fst y (List.mem_of_mem_take (VU.mp hy))).rev
 rw[DY,DY,Fk]at this;rw[e',Cs];exact this
theorem szr(o a:Au Av)(h:j<=n)(hn:n<=a.size):(o++(a.extract j n).reverse).size=o.size+(n-j):=by
 rw[Ht,Array.size_reverse,EZ];omega
theorem Y_7(C:Ig M A s κ V lt)(O:OrdK V lt)(P:Pre V lt a b){Q:Au Av->AY->Prop}(hk:kindOf st=κ)(q:∀ r st',SPk lt (a.toList++b.toList) r.toList->FJ κ st st'->Q r st'):Bl M A E s (bO a b) Q st:=by
 have ss0:FJ κ st st:=⟨hk,rfl,rfl,rfl⟩;have vA:∀ {i},i<a.size->V (ka0 a i):=λh=>P.va _ (Ix h)
 have vB:∀ {i},i<b.size->V (ka0 b i):=λh=>P.vb _ (Ix h)
 have hpa:=P.pa;have hpb:=P.pb;have la0:a.size-1<a.size:=by omega
 have m0:MH lt (a.toList++b.toList) (#[ka0 a (a.size-1)]:Au Av).toList (a.toList.take (a.size-1)) (b.toList.take b.size):=by
  have e:=JI la0;rw[show a.size-1+1=a.size by omega,F5 (by rw[AQ];exact Aw _)]at e
  have e2:b.toList.take b.size=b.toList:=F5 (by rw[AQ];exact Aw _)
  unfold MH;rw[e2];have sr:a.toList.reverse.Pairwise (leK (flp lt)):=Gu.mpr P.sa;have sb:b.toList.reverse.Pairwise (leK (flp lt)):=Gu.mpr P.sb;rw[e]at sr;refine⟨?_,sr,Eb.mpr ⟨λx hx=>P.lst x (VU.mp hx),sb⟩⟩
  show (ka0 a (a.size-1)::(List.take (a.size-1) a.toList).reverse++b.toList.reverse).Perm _;rw[<-e];exact HG (Hw _) (Hw _)
 refine Ax (KS ?_)
 extract_lets tot dn fb na0 nb0 ac0
 refine Ax (DS la0 ?_)
 extract_lets out0
 by_cases h1:(na0==0)=Aa
 .rw[Ar h1];have e1:a.size-1=0:=by simpa [na0] using h1
  refine AC (q _ _ ?_ ss0);show SPk lt _ (a.extract 0 (a.size-1)++b.extract 0 b.size++(#[ka0 a (a.size-1)]:Au Av).reverse).toList;rw[e1]at m0 ⊢;exact MZ m0
 rw[As h1];by_cases h2:(nb0==1)=Aa
 .rw[Ar h2];have e2:b.size=1:=by simpa [nb0] using h2
  refine AC (q _ _ ?_ ss0);show SPk lt _ (b.extract 0 b.size++a.extract 0 (a.size-1)++(#[ka0 a (a.size-1)]:Au Av).reverse).toList;rw[e2]at m0 ⊢;exact M0 O P m0
 rw[As h2];have n1:¬ a.size-1=0:=by simpa [na0] using h1
 have n2:¬ b.size=1:=by simpa [nb0] using h2
 have hi0:HI lt a b #[ka0 a (a.size-1)] (a.size-1) b.size:=⟨by omega,by omega,by omega,Aw _,m0,by show 1+(a.size-1)+b.size=_;omega⟩
 refine Ax (FN ?_)
 extract_lets mg0
 refine Ax (CW (Q:=λx st'=>FJ κ st st'/\∃ r,x.1=Ab r/\SPk lt (a.toList++b.toList) r.toList) (BM (λi x st'=>FJ κ st st'/\x.1=Ad/\HI lt a b x.2.2.2.1 x.2.1 x.2.2.1/\i+1<=x.2.2.2.1.size) (λi x st' _ hi hI=>?_) (λx st' hI=>?_) ⟨ss0,rfl,hi0,Aw _⟩) λx st' hP=>?_)
 .obtain⟨ss,hx,li,hsz⟩:=hI;obtain⟨x1,na,nb,out,mg⟩:=x;have li:HI lt a b out na nb:=li;have hsz:i+1<=out.size:=hsz;have ht:0<a.size+b.size:=by omega
  try extract_lets
  refine Ax (CW (Q:=λy st''=>FJ κ st st''/\((y.1=Ad/\HI lt a b y.2.2.2.1 y.2.1 y.2.2.1/\out.size+1<=y.2.2.2.1.size)\/∃ r,y.1=Ab r/\SPk lt (a.toList++b.toList) r.toList)) (BM (λj y st''=>FJ κ st st''/\y.1=Ad/\HI lt a b y.2.2.2.1 y.2.1 y.2.2.1/\out.size+j<=y.2.2.2.1.size) (λj y st'' _ hj hJ=>?_) (λy st'' hJ=>?_) ⟨ss,rfl,li,Aw _⟩) λy st'' hP=>?_)
  .obtain⟨ss1,hy,l1,hs1⟩:=hJ;obtain⟨y1,ja,jb,o,ac,bc⟩:=y;have l1:HI lt a b o ja jb:=l1;have hs1:out.size+j<=o.size:=hs1;have la:=l1.la;have lb:=l1.lb;obtain⟨n,rfl⟩:∃ n,ja=n+1:=⟨ja-1,by omega⟩
   obtain⟨k,rfl⟩:∃ k,jb=k+1:=⟨jb-1,by omega⟩
   have ln:n<a.size:=l1.la';have lk:k<b.size:=l1.lb';have l1s:=l1.sz
   try extract_lets
   refine Ax (DS lk ?_);refine Ax (DS ln ?_);refine Ax (C _ _ _ _ _ ss1.1 (vB lk) (vA ln) ?_);show Bl M A E s (if lt (ka0 b k) (ka0 a n)=Aa then _ else _) _ _
   by_cases e:lt (ka0 b k) (ka0 a n)=Aa
   .rw[Ar e];refine Ax (DS ln ?_);have m:=l1.mi.pA O P ln lk (O.asymm (vB lk) (vA ln) e);have sz':(o.push (ka0 a n)).size=o.size+1:=BU ..
    try extract_lets
    show Bl M A E s (if (n==0)=Aa then _ else _) _ _
    by_cases hb:(n==0)=Aa
    .rw[Ar hb];have e1:n=0:=by simpa using hb
     refine AC ⟨ss1,.inr ⟨_,rfl,?_⟩⟩;show SPk lt _ (a.extract 0 n++b.extract 0 (k+1)++(o.push (ka0 a n)).reverse).toList;generalize o.push (ka0 a n)=o' at m ⊢;rw[e1]at m ⊢;exact MZ m
    .rw[As hb];have e1:¬ n=0:=by simpa using hb
     have li':HI lt a b (o.push (ka0 a n)) n (k+1):=⟨by omega,by omega,lb,lk,m,by omega⟩
     refine GL ?_ ?_
     .exact AC ⟨ss1,.inl ⟨rfl,li',by show out.size+1<=(o.push (ka0 a n)).size;omega⟩⟩
     .exact AC ⟨ss1,rfl,li',by show out.size+(j+1)<=(o.push (ka0 a n)).size;omega⟩
   .rw[As e];refine Ax (DS lk ?_);have m:=l1.mi.pB O P ln lk (show lt (ka0 b k) (ka0 a n)=Af by simpa using e)
    have sz':(o.push (ka0 b k)).size=o.size+1:=BU ..
    try extract_lets
    show Bl M A E s (if (k==1)=Aa then _ else _) _ _
    by_cases hb:(k==1)=Aa
    .rw[Ar hb];have e1:k=1:=by simpa using hb
     refine AC ⟨ss1,.inr ⟨_,rfl,?_⟩⟩;show SPk lt _ (b.extract 0 k++a.extract 0 (n+1)++(o.push (ka0 b k)).reverse).toList;generalize o.push (ka0 b k)=o' at m ⊢;rw[e1]at m ⊢;exact M0 O P m
    .rw[As hb];have e1:¬ k=1:=by simpa using hb
     have li':HI lt a b (o.push (ka0 b k)) (n+1) k:=⟨by omega,by omega,by omega,by omega,m,by omega⟩
     refine GL ?_ ?_
     .exact AC ⟨ss1,.inl ⟨rfl,li',by show out.size+1<=(o.push (ka0 b k)).size;omega⟩⟩
     .exact AC ⟨ss1,rfl,li',by show out.size+(j+1)<=(o.push (ka0 b k)).size;omega⟩
  .obtain⟨ss1,hy,l1,hs1⟩:=hJ;rw[Ed]at hs1;exact⟨ss1,.inl ⟨hy,l1,by have:out.size+(a.size+b.size)<=_:=hs1;omega⟩⟩
  .obtain⟨ss1,hP⟩:=hP;obtain⟨y1,ja,jb,o,ac,bc⟩:=y;rcases hP with ⟨hy,l1,hs1⟩|⟨r,hy,sp⟩
   .have hy:y1=Ad:=hy;have l1:HI lt a b o ja jb:=l1;have hs1:out.size+1<=o.size:=hs1;subst hy
    try extract_lets
    refine Ax (KS ?_)
    extract_lets mg1
    refine Ax (CW (Q:=λy st3=>FJ κ st st3/\((y.1=Ad/\HI lt a b y.2.2.2.1 y.2.1 y.2.2.1/\out.size+1<=y.2.2.2.1.size)\/∃ r,y.1=Ab r/\SPk lt (a.toList++b.toList) r.toList)) (BM (λj y st3=>FJ κ st st3/\y.1=Ad/\HI lt a b y.2.2.2.1 y.2.1 y.2.2.1/\out.size+1<=y.2.2.2.1.size) (λj y st3 _ hj hJ=>?_) (λy st3 hJ=>⟨hJ.1,.inl hJ.2⟩) ⟨ss1,rfl,l1,hs1⟩) λy st3 hP=>?_)
    .obtain⟨ss2,hy,l2,hs2⟩:=hJ;obtain⟨y1,ja,jb,o,mg2,ac,bc⟩:=y;have l2:HI lt a b o ja jb:=l2;have hs2:out.size+1<=o.size:=hs2;have la:=l2.la;have lb:=l2.lb;obtain⟨n,rfl⟩:∃ n,ja=n+1:=⟨ja-1,by omega⟩
     obtain⟨k,rfl⟩:∃ k,jb=k+1:=⟨jb-1,by omega⟩
     have ln:n<a.size:=l2.la';have lk:k<b.size:=l2.lb';have l2s:=l2.sz
     try extract_lets
     refine Sr λmg3=>?_
     refine Ax (EA ?_);refine Ax (DS lk ?_);refine Ax (J8 C ss2.1 (vB lk) (show 0+(n+1)<=a.size by omega) (λi hi=>vA (by have:i<n+1:=hi;omega)) (show n<n+1 by omega) (λi k h1 h2 h3=>TW O P.va P.sa (vB lk) i k h1 (by have:k<n+1:=h2;omega) h3) λc hc=>?_)
     obtain⟨k1,k2,k3⟩:=PL hc;have k1:c<=n+1:=k1;have k2:∀ i,i<c->leK lt (ka0 a i) (ka0 b k):=λi h=>by have:=k2 i h;rwa [DF]at this
     have k3:∀ i,c<=i->i<n+1->lt (ka0 b k) (ka0 a i)=Aa:=λi h h'=>by have:=k3 i h h';rwa [DF]at this
     dsimp -zeta only
     extract_lets kk ack jp
     refine Uk (f:=jp) (H:=λna' o'=>0<na'/\na'<=n+1/\leK lt (ka0 a (na'-1)) (ka0 b k)/\MH lt (a.toList++b.toList) o'.toList (a.toList.take na') (b.toList.take (k+1))/\out.size+1<=o'.size/\o'.size+na'+(k+1)=a.size+b.size) (λna' o' hH=>?_) (λJ=>?_)
     .obtain⟨g1,g2,g3,g4,g5,g6⟩:=hH;obtain⟨n',rfl⟩:∃ n',na'=n'+1:=⟨na'-1,by omega⟩
      have g3:leK lt (ka0 a n') (ka0 b k):=g3;have ln':n'<a.size:=by omega
      refine Ax (DS lk ?_);have m2:=g4.pB O P ln' lk g3;have z2:(o'.push (ka0 b k)).size=o'.size+1:=BU ..
      try extract_lets
      show Bl M A E s (if (k==1)=Aa then _ else _) _ _
      by_cases c3:(k==1)=Aa
      .rw[Ar c3];have e3:k=1:=by simpa using c3
       refine AC ⟨ss2,.inr ⟨_,rfl,?_⟩⟩;show SPk lt _ (b.extract 0 k++a.extract 0 (n'+1)++(o'.push (ka0 b k)).reverse).toList;generalize o'.push (ka0 b k)=o3 at m2 ⊢;rw[e3]at m2 ⊢;exact M0 O P m2
      rw[As c3];have c3:¬ k=1:=by simpa using c3
      obtain⟨k',rfl⟩:∃ k',k=k'+1:=⟨k-1,by omega⟩
      have lk':k'<b.size:=by omega
      refine Ax (DS ln' ?_);refine Ax (J8 C ss2.1 (vA ln') (show 0+(k'+1)<=b.size by omega) (λi hi=>vB (by have:i<k'+1:=hi;omega)) (show k'<k'+1 by omega) (λi k h1 h2 h3=>O7 O P.vb P.sb (vA ln') i k h1 (by have:k<k'+1:=h2;omega) h3) λc' hc'=>?_)
      obtain⟨q1,q2,q3⟩:=Nf hc';have q1:c'<=k'+1:=q1;have q2:∀ i,i<c'->lt (ka0 b i) (ka0 a n')=Aa:=λi h=>by have:=q2 i h;rwa [DF]at this
      have q3:∀ i,c'<=i->i<k'+1->leK lt (ka0 a n') (ka0 b i):=λi h h'=>by have:=q3 i h h';rwa [DF]at this
      dsimp -zeta only
      extract_lets kk' bck jp'
      refine Uk (f:=jp') (H:=λnb' o4=>1<nb'/\nb'<=k'+1/\leK lt (ka0 b (nb'-1)) (ka0 a n')/\MH lt (a.toList++b.toList) o4.toList (a.toList.take (n'+1)) (b.toList.take nb')/\out.size+1<=o4.size/\o4.size+(n'+1)+nb'=a.size+b.size) (λnb' o4 hH=>?_) (λJ=>?_)
      .obtain⟨j1,j2,j3,j4,j5,j6⟩:=hH;obtain⟨k'',rfl⟩:∃ k'',nb'=k''+1:=⟨nb'-1,by omega⟩
       have j3:leK lt (ka0 b k'') (ka0 a n'):=j3;refine Ax (DS ln' ?_);have m4:=j4.pA O P ln' (show k''<b.size by omega) j3
       have z4:(o4.push (ka0 a n')).size=o4.size+1:=BU ..
       try extract_lets
       show Bl M A E s (if (n'==0)=Aa then _ else _) _ _
       by_cases d1:(n'==0)=Aa
       .rw[Ar d1];have e1:n'=0:=by simpa using d1
        refine AC ⟨ss2,.inr ⟨_,rfl,?_⟩⟩;show SPk lt _ (a.extract 0 n'++b.extract 0 (k''+1)++(o4.push (ka0 a n')).reverse).toList;generalize o4.push (ka0 a n')=o5 at m4 ⊢;rw[e1]at m4 ⊢;exact MZ m4
       .rw[As d1];have d1:¬ n'=0:=by simpa using d1
        have l4:HI lt a b (o4.push (ka0 a n')) n' (k''+1):=⟨by omega,by omega,by omega,by omega,m4,by omega⟩
        have h4:out.size+1<=(o4.push (ka0 a n')).size:=by omega
        refine GL ?_ ?_
        .exact AC ⟨ss2,.inl ⟨rfl,l4,h4⟩⟩
        .exact AC ⟨ss2,rfl,l4,h4⟩
      .show Bl M A E s (if k'+1-c'>0 then _ else _) _ _
       by_cases hk1:k'+1-c'>0
       .rw[Ar hk1];have m3:=m2.chB O P q1 (show k'+1<=b.size by omega) ln' λi h1 h2=>q3 i h1 h2
        have z3:=szr (o'.push (ka0 b (k'+1))) b q1 (show k'+1<=b.size by omega)
        try extract_lets
        show Bl M A E s (if (c'==1)=Aa then _ else if (c'==0)=Aa then _ else _) _ _
        by_cases d1:(c'==1)=Aa
        .rw[Ar d1];have e1:c'=1:=by simpa using d1
         refine AC ⟨ss2,.inr ⟨_,rfl,?_⟩⟩;show SPk lt _ (b.extract 0 c'++a.extract 0 (n'+1)++((o'.push (ka0 b (k'+1)))++(b.extract c' (k'+1)).reverse).reverse).toList;generalize (o'.push (ka0 b (k'+1)))++(b.extract c' (k'+1)).reverse=o5 at m3 ⊢;rw[e1]at m3 ⊢;exact M0 O P m3
        rw[As d1];by_cases d2:(c'==0)=Aa
        .rw[Ar d2];have e1:c'=0:=by simpa using d2
         refine AC ⟨ss2,.inr ⟨_,rfl,?_⟩⟩;show SPk lt _ (a.extract 0 (n'+1)++b.extract 0 c'++((o'.push (ka0 b (k'+1)))++(b.extract c' (k'+1)).reverse).reverse).toList;generalize (o'.push (ka0 b (k'+1)))++(b.extract c' (k'+1)).reverse=o5 at m3 ⊢;rw[e1]at m3 ⊢;exact nM m3
        rw[As d2];have d1:¬ c'=1:=by simpa using d1
        have d2:¬ c'=0:=by simpa using d2
        exact J c' _ ⟨by omega,q1,O.asymm (vB (by omega)) (vA ln') (q2 (c'-1) (by omega)),m3,by show out.size+1<=((o'.push (ka0 b (k'+1)))++(b.extract c' (k'+1)).reverse).size;omega,by show ((o'.push (ka0 b (k'+1)))++(b.extract c' (k'+1)).reverse).size+_+_=_;omega⟩
       .rw[As hk1];exact J (k'+1) (o'.push (ka0 b (k'+1))) ⟨by omega,Aw _,O.asymm (vB lk') (vA ln') (q2 k' (by omega)),m2,by omega,by omega⟩
     .show Bl M A E s (if n+1-c>0 then _ else _) _ _
      by_cases hk0:n+1-c>0
      .rw[Ar hk0];have m1:=l2.mi.chA O P k1 (show n+1<=a.size by omega) lk λi h1 h2=>O.asymm (vB lk) (vA (by omega)) (k3 i h1 h2)
       have z1:=szr o a k1 (show n+1<=a.size by omega)
       try extract_lets
       show Bl M A E s (if (c==0)=Aa then _ else _) _ _
       by_cases c1:(c==0)=Aa
       .rw[Ar c1];have e1:c=0:=by simpa using c1
        refine AC ⟨ss2,.inr ⟨_,rfl,?_⟩⟩;show SPk lt _ (a.extract 0 c++b.extract 0 (k+1)++(o++(a.extract c (n+1)).reverse).reverse).toList;generalize o++(a.extract c (n+1)).reverse=o5 at m1 ⊢;rw[e1]at m1 ⊢;exact MZ m1
       rw[As c1];have c1:¬ c=0:=by simpa using c1
       exact J c _ ⟨by omega,k1,k2 (c-1) (by omega),m1,by show out.size+1<=(o++(a.extract c (n+1)).reverse).size;omega,by show (o++(a.extract c (n+1)).reverse).size+_+_=_;omega⟩
      .rw[As hk0];exact J (n+1) o ⟨by omega,Aw _,k2 n (by omega),l2.mi,hs2,l2s⟩
    .obtain⟨ss2,hP⟩:=hP;obtain⟨y1,ja,jb,o,mg2,ac,bc⟩:=y;rcases hP with ⟨hy,l2,hs2⟩|⟨r,hy,sp⟩
     .have hy:y1=Ad:=hy;subst hy;refine Ax (EA ?_);exact AC ⟨ss2,rfl,l2,by have:out.size+1<=o.size:=hs2;show i+1+1<=o.size;omega⟩
     .have hy:y1=Ab r:=hy;subst hy;exact AC ⟨ss2,r,rfl,sp⟩
   .have hy:y1=Ab r:=hy;subst hy;exact AC ⟨ss1,r,rfl,sp⟩
 .obtain⟨_,_,h,h3⟩:=hI
  exfalso
  have:=h.sz;have:=h.la;have:=h.lb;rw[Ed]at h3;have h3:a.size+b.size+1<=_:=h3;omega
 .obtain⟨ss,r,e,sp⟩:=hP;obtain⟨x1,x2⟩:=x;have e:x1=Ab r:=e;subst e;exact AC (q _ _ sp ss)
end
section
variable{M:Fn}{A:AU}{E:Vq}{s:Ap}{κ:EL}{V:Av->Prop}{lt:Av->Av->Aj}
def Srt(lt:Av->Av->Aj)(a:Au Av)(lo hi:Ae):Prop:=∀ i j,lo<=i->i<j->j<hi->leK lt (ka0 a i) (ka0 a j)
structure Upd (a a':Au Av) (lo hi:Ae):Prop where
 sz:a'.size=a.size
 pm:a'.toList.Perm a.toList
 out:∀ i,i<lo\/hi<=i->ka0 a' i=ka0 a i
theorem Upd.rfl':Upd a a lo hi:=⟨rfl,IH _,λ_ _=>rfl⟩
theorem Upd.trans{a a' a'':Au Av}{lo hi:Ae}(h:Upd a a' lo hi)(h':Upd a' a'' lo hi):Upd a a'' lo hi:=⟨h'.sz.trans h.sz,h'.pm.trans h.pm,λi hi=>(h'.out i hi).trans (h.out i hi)⟩
theorem Upd.mono{lo' hi':Ae}(h:Upd a a' lo hi)(h1:lo'<=lo)(h2:hi<=hi'):Upd a a' lo' hi':=⟨h.sz,h.pm,λi hi=>h.out i (by omega)⟩
theorem KY(a:Au Av)(i:Ae):ka0 a i=(a.toList[i]?).getD (AG,AG):=by
 unfold ka0;rw[BR,Bt]
theorem Sk(p:Ae):∀(m:Ac Av)(k:Ae)(a:Au Av),p+k+m.length<=a.size->((m.zipIdx k).foldl (λa x=>a.setIfInBounds (p+x.2) x.1) a).toList=a.toList.take (p+k)++m++a.toList.drop (p+k+m.length)
 |[],k,a,_=>by simp
 |x::m,k,a,h=>by
  rw[HJ,VH];rw[A7]at h;show ((m.zipIdx (k+1)).foldl _ (a.setIfInBounds (p+k) x)).toList=_;rw[Sk p m (k+1) (a.setIfInBounds (p+k) x) (by rw[Vk];omega),Vl,A7]
  have hl:p+k<a.toList.length:=by rw[AQ];omega
  rw[show p+(k+1)=p+k+1 by omega,V1 (by rw[By];exact hl),List.getElem_set_self,List.take_set_of_le (Aw _),List.drop_set_of_lt (by omega)]
  rw[show p+k+1+m.length=p+k+(m.length+1) by omega]
  simp
theorem KI(hn:n<=a.size)(h:x∈(a.extract j n).toList):∃ i,j<=i/\i<n/\x=ka0 a i:=by
 rw[C6,B7]at h;obtain⟨i,h1,h2,rfl⟩:=MM h;exact⟨j+i,by omega,by omega,rfl⟩
theorem Sz(hn:n<=a.size)(h:Srt lt a j n):(a.extract j n).toList.Pairwise (leK lt):=by
 rw[BF];intro i i' h1 h2 h3;rw[C5,C5,Vh,Vh];rw[AQ,EZ]at h1 h2;have:=h (j+i) (j+i') (by omega) (by omega) (by omega)
 have e1:ka0 a (j+i)=a[j+i]'(by omega):=by simp[ka0,D8,show j+i<a.size by omega]
 have e2:ka0 a (j+i')=a[j+i']'(by omega):=by simp[ka0,D8,show j+i'<a.size by omega]
 rwa [e1,e2]at this
theorem Tt(hn:n<=a.size)(h:j+i<n):ka0 (a.extract j n) i=ka0 a (j+i):=by
 rw[KY,KY,C6,B7,VJ,Ar (by omega),G5]
theorem Ue(hp:p+m.length<=a.size)(h:a'.toList=a.toList.take p++m++a.toList.drop (p+m.length)):(∀ i,i<p\/p+m.length<=i->ka0 a' i=ka0 a i)/\∀ i,p<=i->i<p+m.length->ka0 a' i=(m[i-p]?).getD (AG,AG):=by
 have l1:(a.toList.take p).length=p:=by rw[D5,AQ];omega
 constructor
 .intro i hi;rw[KY,KY,h,Cs];rcases hi with hi|hi
  .rw[CN (by rw[l1];exact hi),VJ,Ar hi]
  .rw[Bv (by rw[l1];omega),l1,Bv (by omega),G5]
   congr 2
   omega
 .intro i h1 h2;rw[KY,h,Cs,Bv (by rw[l1];exact h1),l1,CN (by omega)]
theorem gQ(he:p+m.length=e)(hp:e<=a.size)(h:a'.toList=a.toList.take p++m++a.toList.drop (p+m.length))(pm:m.Perm (a.extract p e).toList):Upd a a' p e:=by
 subst he;refine⟨?_,?_,(Ue hp h).1⟩
 .have:=congrArg Fw h;rw[AQ,Bp,Bp,D5,EJ,AQ]at this;omega
 .rw[h];rw[Pw]at pm;have e1:a.toList=a.toList.take p++(a.toList.drop p).take m.length++a.toList.drop (p+m.length):=by
   rw[Cs,<-GS,CQ,CQ]
  refine Gx ?_ (FD e1.symm);exact HG (HG (IH _) pm) (IH _)
theorem fR(h:k<m.length):(m[k]?).getD (AG,AG)∈m:=by
 rw[AA h];exact CU h
theorem nG(hm:m.Pairwise (leK lt)){k':Ae}(h:k<k')(h':k'<m.length):leK lt ((m[k]?).getD (AG,AG)) ((m[k']?).getD (AG,AG)):=by
 rw[AA h',AA (V7 h h')];exact(BF.mp hm) k k' _ _ h
theorem jQ{f:Au Av->Er AY DJ α}{H:Au Av->AY->Prop}{m:Er AY DJ α}{Q:α->AY->Prop}(J:∀ o st',H o st'->Bl M A E s (f o) Q st')(main:(∀ o st',H o st'->Bl M A E s (f o) Q st')->Bl M A E s m Q st):Bl M A E s m Q st:=main J
theorem cB{x:AY}{Q:Im->AY->Prop}(h:Q ⟨⟩ x):Bl M A E s (set x:Er AY DJ Im) Q st:=EA (f:=λ_=>x) h
theorem kT(O:OrdK V lt)(va:∀ i,i<hi->V (ka0 a i))(sa:Srt lt a lo hi)(vk:V key)(h:i<=k)(hk:lo+k<hi)(hb:byd lt Af key (ka0 a (lo+k))=Aa):byd lt Af key (ka0 a (lo+i))=Aa:=by
 by_cases e:i=k
 .rw[e];exact hb
 .have l:=sa (lo+i) (lo+k) (by omega) (by omega) hk
  have hb':lt key (ka0 a (lo+k))=Af:=by simpa [byd] using hb
  have:=O.trans (va _ (by omega)) (va _ hk) vk l hb'
  simpa [byd] using this
theorem gF(O:OrdK V lt)(va:∀ i,i<hi->V (ka0 a i))(sa:Srt lt a lo hi)(vk:V key)(h:i<=k)(hk:lo+k<hi)(hb:byd lt Aa key (ka0 a (lo+k))=Aa):byd lt Aa key (ka0 a (lo+i))=Aa:=by
 by_cases e:i=k
 .rw[e];exact hb
 .have l:=sa (lo+i) (lo+k) (by omega) (by omega) hk
  have hb':lt (ka0 a (lo+k)) key=Aa:=by simpa [byd] using hb
  show byd lt Aa key (ka0 a (lo+i))=Aa;cases q:lt (ka0 a (lo+i)) key with
  |true=>simpa [byd] using q
  |false=>
   have:=O.trans vk (va _ (show lo+i<hi by omega)) (va _ hk) q l
   rw[this]at hb';cases hb'
theorem Y_8(C:Ig M A s κ V lt)(O:OrdK V lt){sa na pw sb nb pw2:Ae}(h1:(Bh st)[i]?=Ab (sa,na,pw))(h2:(Bh st)[i+1]?=Ab (sb,nb,pw2))(hc:sa+na=sb)(hn:0<na)(hm:0<nb)(hs:sb+nb<=(Ay st).size)(s1:Srt lt (Ay st) sa sb)(s2:Srt lt (Ay st) sb (sb+nb))(hv:∀ x∈(Ay st).toList,V x)(hk:kindOf st=κ)(hf:D6 st=Ad)(q:∀ st',kindOf st'=κ->D6 st'=Ad->Bh st'=((Bh st).setIfInBounds i (sa,na+nb,pw)).eraseIdxIfInBounds (i+1)->Upd (Ay st) (Ay st') sa (sb+nb)->Srt lt (Ay st') sa (sb+nb)->Q Aa st'):Bl M A E s (RJ i) Q st:=by
 have va:∀ {i},i<(Ay st).size->V (ka0 (Ay st) i):=λh=>hv _ (Ix h)
 refine Ax (FN ?_);show Bl M A E s (match ((Bh st)[i]?,(Bh st)[i+1]?) with|(Ab (sa,na,power),Ab (sb,nb,snd))=>_|x=>_) _ _
 rw[h1,h2];dsimp -zeta only;refine Ax (cB ?_);refine Ax (DS (show sb<(Ay st).size by omega) ?_)
 refine Ax (J8 C hk (va (show sb<(Ay st).size by omega)) (show sa+na<=(Ay st).size by omega) (λi hi=>va (by omega)) hn (λi j h1 h2 h3=>kT O (λi h=>va (i:=i) (by omega)) s1 (va (show sb<(Ay st).size by omega)) h1 (by omega) h3) λc hc'=>?_)
 obtain⟨k1,k2,k3⟩:=PL hc';have bsz:sb<(Ay st).size:=by omega
 dsimp -zeta only;by_cases d1:(na-c==0)=Aa
 .rw[Ar d1];have d1:na-c=0:=by simpa using d1
  refine AC (q _ hk hf rfl Upd.rfl' λi j h1 h2 h3=>?_)
  by_cases hj:j<sb
  .exact s1 i j h1 h2 hj
  .by_cases hi:sb<=i
   .exact s2 i j hi h2 h3
   .have l1:=k2 (i-sa) (by omega)
    rw[show sa+(i-sa)=i by omega]at l1
    by_cases e:j=sb
    .rw[e];exact l1
    .exact O.trans (va (by omega)) (va bsz) (va (by omega)) l1 (s2 sb j (Aw _) (by omega) h3)
 rw[As d1];have d1:¬ na-c=0:=by simpa using d1
 have ek:sa+c+(na-c)-1=sb-1:=by omega
 have bs1:sb-1<(Ay st).size:=by omega
 refine Ax (DS (show sa+c+(na-c)-1<(Ay st).size by omega) ?_)
 rw[ek];refine Ax (J8 C hk (va bs1) (show sb+nb<=(Ay st).size by omega) (λi hi=>va (by omega)) (show nb-1<nb by omega) (λi j h1 h2 h3=>gF O (λi h=>va (i:=i) (by omega)) s2 (va bs1) h1 (by omega) h3) λc' hc2=>?_)
 obtain⟨q1,q2,q3⟩:=Nf hc2;dsimp -zeta only;by_cases d2:(c'==0)=Aa
 .rw[Ar d2];have d2:c'=0:=by simpa using d2
  refine AC (q _ hk hf rfl Upd.rfl' λi j h1 h2 h3=>?_)
  by_cases hj:j<sb
  .exact s1 i j h1 h2 hj
  .by_cases hi:sb<=i
   .exact s2 i j hi h2 h3
   .have l1:=q3 (j-sb) (by omega) (by omega)
    rw[show sb+(j-sb)=j by omega]at l1
    by_cases e:i=sb-1
    .rw[e];exact l1
    .exact O.trans (va (by omega)) (va bs1) (va (by omega)) (s1 i (sb-1) h1 (by omega) (by omega)) l1
 rw[As d2];have d2:¬ c'=0:=by simpa using d2
 extract_lets X Y_ jp
 have K3:∀ i,sa+c<=i->i<sb->lt (ka0 (Ay st) sb) (ka0 (Ay st) i)=Aa:=λi h h'=>by
  have:=k3 (i-sa) (by omega) (by omega)
  rwa [show sa+(i-sa)=i by omega]at this
 have K2:∀ i,sa<=i->i<sa+c->leK lt (ka0 (Ay st) i) (ka0 (Ay st) sb):=λi h h'=>by
  have:=k2 (i-sa) (by omega)
  rwa [show sa+(i-sa)=i by omega]at this
 have Q2:∀ i,sb<=i->i<sb+c'->lt (ka0 (Ay st) i) (ka0 (Ay st) (sb-1))=Aa:=λi h h'=>by
  have:=q2 (i-sb) (by omega)
  rwa [show sb+(i-sb)=i by omega]at this
 have Q3:∀ i,sb+c'<=i->i<sb+nb->leK lt (ka0 (Ay st) (sb-1)) (ka0 (Ay st) i):=λi h h'=>by
  have:=q3 (i-sb) (by omega) (by omega)
  rwa [show sb+(i-sb)=i by omega]at this
 have zX:X.size=sb-(sa+c):=by show ((Ay st).extract (sa+c) sb).size=_;rw[EZ];omega
 have zY:Y_.size=c':=by show ((Ay st).extract sb (sb+c')).size=_;rw[EZ];omega
 have z1:sb<=(Ay st).size:=by omega
 have z2:sb+c'<=(Ay st).size:=by omega
 have P:Pre V lt X Y_:=by
  refine⟨λx hx=>?_,λx hx=>?_,Sz z1 λi j h1 h2 h3=>s1 i j (by omega) h2 h3,Sz z2 λi j h1 h2 h3=>s2 i j h1 h2 (by omega),by omega,by omega,λx hx=>?_,λy hy=>?_⟩
  .obtain⟨i,_,_,rfl⟩:=KI z1 hx;exact va (by omega)
  .obtain⟨i,_,_,rfl⟩:=KI z2 hx;exact va (by omega)
  .obtain⟨i,g1,g2,rfl⟩:=KI z1 hx;have e:ka0 Y_ 0=ka0 (Ay st) (sb+0):=Tt z2 (by omega)
   rw[e,GB];exact O.asymm (va bsz) (va (by omega)) (K3 i g1 g2)
  .obtain⟨i,g1,g2,rfl⟩:=KI z2 hy;have e:ka0 X (X.size-1)=ka0 (Ay st) (sa+c+(X.size-1)):=Tt z1 (by omega)
   rw[e,show sa+c+(X.size-1)=sb-1 by omega]
   exact O.asymm (va (by omega)) (va bs1) (Q2 i g1 g2)
 refine jQ (f:=jp) (H:=λmg st2=>SPk lt (X.toList++Y_.toList) mg.toList/\FJ κ (setPending st (((Bh st).setIfInBounds i (sa,na+nb,pw)).eraseIdxIfInBounds (i+1))) st2) (λmg st2 hH=>?_) (λJ=>?_)
 .obtain⟨⟨pm,so⟩,sk,sar,sp,sf⟩:=hH;have sar:Ay st2=Ay st:=sar;have sf:D6 st2=Ad:=sf.trans hf;have lm:mg.toList.length=sb+c'-(sa+c):=by
   rw[pm.length_eq,Bp,AQ,AQ];omega
  have wl:=Sk (sa+c) mg.toList 0 (Ay st) (by omega)
  rw[GB]at wl;have pm':mg.toList.Perm ((Ay st).extract (sa+c) (sb+c')).toList:=by
   refine pm.trans (FD ?_);show ((Ay st).extract (sa+c) sb).toList++((Ay st).extract sb (sb+c')).toList=_;rw[<-Be,Array.extract_append_extract]
   congr 2<;>omega
  refine Ax (EA ?_);refine Ax (FN ?_);have U_:=gQ (e:=sb+c') (by omega) (by omega) wl pm'
  obtain⟨w1,w2⟩:=Ue (by omega) wl
  generalize hA:(mg.toList.zipIdx.foldl (λa x=>a.setIfInBounds (sa+c+x.2) x.1) (Ay st))=a' at U_ w1 w2
  have hm:∀ i,sa+c<=i->i<sb+c'->(∃ j,sa+c<=j/\j<sb/\ka0 a' i=ka0 (Ay st) j)\/∃ j,sb<=j/\j<sb+c'/\ka0 a' i=ka0 (Ay st) j:=λi h h'=>by
   have g:ka0 a' i∈mg.toList:=by rw[w2 i h (by omega)];exact fR (by omega)
   rcases DC.mp (pm.mem_iff.mp g) with g|g
   .exact .inl (KI z1 g)
   .exact .inr (KI z2 g)
  have S:Srt lt a' sa (sb+nb):=λi j h1 h2 h3=>by
   by_cases i1:i<sa+c
   .rw[w1 i (by omega)]
    by_cases j1:j<sa+c
    .rw[w1 j (by omega)];exact s1 i j h1 h2 (by omega)
    .by_cases j2:j<sb+c'
     .rcases hm j (by omega) j2 with ⟨l,g1,g2,g3⟩|⟨l,g1,g2,g3⟩
      .rw[g3];exact s1 i l h1 (by omega) g2
      .rw[g3];by_cases e:l=sb
       .rw[e];exact K2 i h1 i1
       .exact O.trans (va (by omega)) (va bsz) (va (by omega)) (K2 i h1 i1) (s2 sb l (Aw _) (by omega) (by omega))
     .rw[w1 j (by omega)]
      exact O.trans (va (by omega)) (va bsz) (va (by omega)) (K2 i h1 i1) (s2 sb j (Aw _) (by omega) (by omega))
   .by_cases i2:i<sb+c'
    .by_cases j2:j<sb+c'
     .rw[w2 i (by omega) (by omega),w2 j (by omega) (by omega)]
      exact nG so (by omega) (by omega)
     .rw[w1 j (by omega)]
      rcases hm i (by omega) i2 with ⟨l,g1,g2,g3⟩|⟨l,g1,g2,g3⟩
      .rw[g3];by_cases e:l=sb-1
       .rw[e];exact Q3 j (by omega) h3
       .exact O.trans (va (by omega)) (va bs1) (va (by omega)) (s1 l (sb-1) (by omega) (by omega) (by omega)) (Q3 j (by omega) h3)
      .rw[g3];exact s2 l j g1 (by omega) h3
    .rw[w1 i (by omega),w1 j (by omega)]
     exact s2 i j (by omega) h2 h3
  rw[<-sar]at hA;refine AC ?_;show Q (D6 st2).isNone _;rw[sf];refine q _ sk sf sp ?_ ?_
  .show Upd (Ay st) (mg.toList.zipIdx.foldl (λa x=>a.setIfInBounds (sa+c+x.2) x.1) (Ay st2)) _ _
   rw[hA];exact U_.mono (by omega) (by omega)
  .show Srt lt (mg.toList.zipIdx.foldl (λa x=>a.setIfInBounds (sa+c+x.2) x.1) (Ay st2)) _ _
   rw[hA];exact S
 .refine GL ?_ ?_
  .exact Ax (Y_6 C O P hk λr st' sp ss=>J r st' ⟨sp,ss⟩)
  .exact Ax (Y_7 C O P hk λr st' sp ss=>J r st' ⟨sp,ss⟩)
end
section
variable{M:Fn}{A:AU}{E:Vq}{s:Ap}{κ:EL}{V:Av->Prop}{lt:Av->Av->Aj}
structure BS (κ:EL) (a0:Au Av) (p:Au (Ae×Ae×Ae)) (lo hi:Ae) (st:AY):Prop where
 kd:kindOf st=κ
 fl:D6 st=Ad
 pd:Bh st=p
 up:Upd a0 (Ay st) lo hi
variable{a0:Au Av}{p:Au (Ae×Ae×Ae)}{lo hi:Ae}
theorem BS.v(B:BS κ a0 p lo hi st)(hv:∀ x∈a0.toList,V x)(h:i<a0.size):V (ka0 (Ay st) i):=hv _ (B.up.pm.mem_iff.mp (Ix (by rw[B.up.sz];exact h)))
theorem KU(C:Ig M A s κ V lt){Q:Ao Aj->AY->Prop}(B:BS κ a0 p lo hi st)(hv:∀ x∈a0.toList,V x)(h1:i<a0.size)(h2:j<a0.size)(q:Q (Ab (lt (ka0 (Ay st) i) (ka0 (Ay st) j))) st):Bl M A E s (ltAt' i j) Q st:=by
 rw[ltAt'_eq];refine Ax (FN ?_);refine Ax (DS (by rw[B.up.sz];exact h1) ?_)
 refine Ax (DS (by rw[B.up.sz];exact h2) ?_)
 exact C _ _ _ _ _ B.kd (B.v hv h1) (B.v hv h2) q
theorem Mn(a:Au Av)(i:Ae):ka0 a i=(a[i]?).getD (AG,AG):=by
 unfold ka0;rw[Bt]
theorem Tu{src:Ae}(hs:src<a.size)(hd:d<=src)(k:Ae):ka0 (bubble a src d) k=if k=src-d then ka0 a src else if src-d<k/\k<=src then ka0 a (k-1) else ka0 a k:=by
 rw[Mn,getElem?_bubble hs d hd];split
 .rw[Mn]
 .split<;>rw[Mn]
theorem L5(hj:j<=a.size)(k:Ae):ka0 (mirror a i j ((j-i)/2)) k=if i<=k/\k<j then ka0 a (i+j-1-k) else ka0 a k:=by
 rw[Mn,getElem?_mirror_all hj];split<;>rw[Mn]
theorem hZ{src:Ae}(hs:src<a.size)(hd:d<=src):Upd a (bubble a src d) (src-d) (src+1):=⟨bubble_size ..,Vj.mp (bubble_perm ..),λi h=>by rw[Tu hs hd,As (by omega),As (by omega)]⟩
theorem gG(hj:j<=a.size):Upd a (mirror a i j ((j-i)/2)) i j:=⟨mirror_size ..,Vj.mp (mirror_perm ..),λk h=>by rw[L5 hj,As (by omega)]⟩
theorem YX(C:Ig M A s κ V lt)(O:OrdK V lt)(hv:∀ x∈a0.toList,V x){ok:Ae}(B:BS κ a0 p lo hi st)(h1:1<=ok)(h2:ok<=n)(h3:lo+n<=hi)(h4:hi<=a0.size)(so:Srt lt (Ay st) lo (lo+ok))(q:∀ st',BS κ a0 p lo hi st'->Srt lt (Ay st') lo (lo+n)->Q Aa st'):Bl M A E s (binarySort' lo n ok) Q st:=by
 rw[binarySort'_eq];refine Ax (CW (Q:=λx st'=>x.1=Ad/\BS κ a0 p lo hi st'/\Srt lt (Ay st') lo (lo+n)) (BM (λk x st'=>x.1=Ad/\BS κ a0 p lo hi st'/\Srt lt (Ay st') lo (lo+k)) (λk x st' g1 g2 hI=>?_) (λx st' hI=>?_) ⟨rfl,B,by rw[show max ok 1=ok by omega];exact so⟩) λx st' hP=>?_)
 .obtain⟨hx,B',S⟩:=hI;have va:∀ {i},i<a0.size->V (ka0 (Ay st') i):=λh=>B'.v hv h
  have hk:lo+k<a0.size:=by omega
  extract_lets l0 r0
  refine Ax (CW (Q:=λy st''=>st'=st''/\y.1=Ad/\K8 (λj=>!lt (ka0 (Ay st') (lo+k)) (ka0 (Ay st') (lo+j))) k y.2.1) (BM (λi y st''=>st'=st''/\y.1=Ad/\y.2.1<=y.2.2/\y.2.2<=k/\y.2.2-y.2.1<=k-i/\(∀ j,j<y.2.1->lt (ka0 (Ay st') (lo+k)) (ka0 (Ay st') (lo+j))=Af)/\(∀ j,y.2.2<=j->j<k->lt (ka0 (Ay st') (lo+k)) (ka0 (Ay st') (lo+j))=Aa)) (λi y st'' _ hi hJ=>?_) (λy st'' hJ=>?_) ⟨rfl,rfl,BD _,Aw _,by show k-0<=k-0;omega,λj h=>absurd (show j<0 from h) (by omega),λj h h'=>by have:k<=j:=h;omega⟩) λy st'' hP=>?_)
  .obtain⟨rfl,b1,b2,b3,b4,b5,b6⟩:=hJ;obtain⟨y1,l,r⟩:=y;dsimp only at b1 b2 b3 b4 b5 b6;subst b1
   try extract_lets
   show Bl M A E s (if l ≥ r then _ else _) _ _
   by_cases hl:l ≥ r
   .rw[Ar hl];exact AC ⟨rfl,rfl,by show l<=k;omega,λj h=>by simpa using b5 j h,λj h h'=>by have:=b6 j (by have:l<=j:=h;omega) h';simpa using this⟩
   rw[As hl]
   try extract_lets
   refine Ax (KU C (j:=lo+(l+r)/2) B' hv hk (by omega) ?_)
   show Bl M A E s (if lt (ka0 (Ay st') (lo+k)) (ka0 (Ay st') (lo+(l+r)/2))=Aa then _ else _) _ _
   by_cases e:lt (ka0 (Ay st') (lo+k)) (ka0 (Ay st') (lo+(l+r)/2))=Aa
   .rw[Ar e];refine AC ⟨rfl,rfl,by show l<=(l+r)/2;omega,by show (l+r)/2<=k;omega,by show (l+r)/2-l<=k-(i+1);omega,b5,λj h h'=>?_⟩
    have h:(l+r)/2<=j:=h;cases e':lt (ka0 (Ay st') (lo+k)) (ka0 (Ay st') (lo+j)) with
    |true=>rfl
    |false=>
     by_cases ej:j=(l+r)/2
     .rw[ej,e]at e';cases e'
     .have:=O.trans (va (show lo+(l+r)/2<a0.size by omega)) (va (show lo+j<a0.size by omega)) (va hk) (S (lo+(l+r)/2) (lo+j) (by omega) (by omega) (by omega)) e'
      rw[this]at e;cases e
   .rw[As e];have e:lt (ka0 (Ay st') (lo+k)) (ka0 (Ay st') (lo+(l+r)/2))=Af:=by simpa using e
    refine AC ⟨rfl,rfl,by show (l+r)/2+1<=r;omega,b3,by show r-((l+r)/2+1)<=k-(i+1);omega,λj h=>?_,b6⟩
    have h:j<(l+r)/2+1:=h;by_cases ej:j=(l+r)/2
    .rw[ej];exact e
    .exact O.trans (va (show lo+j<a0.size by omega)) (va (show lo+(l+r)/2<a0.size by omega)) (va hk) (S (lo+j) (lo+(l+r)/2) (by omega) (by omega) (by omega)) e
  .obtain⟨rfl,b1,b2,b3,b4,b5,b6⟩:=hJ;rw[Ed]at b4;exact⟨rfl,b1,by omega,λj h=>by simpa using b5 j h,λj h h'=>by have:=b6 j (by omega) h';simpa using this⟩
  .obtain⟨rfl,b1,c1,c2,c3⟩:=hP;obtain⟨y1,l,r⟩:=y;dsimp only at b1 c1 c2 c3;subst b1
   try extract_lets
   have hsz:lo+k<(Ay st').size:=by rw[B'.up.sz];exact hk
   have ab:=Tu hsz (show lo+k-(lo+l)<=lo+k by omega)
   have ub:=hZ hsz (show lo+k-(lo+l)<=lo+k by omega)
   rw[show lo+k-(lo+k-(lo+l))=lo+l by omega]at ab ub
   refine Ax (m:=moveDown' (lo+k) (lo+l)) ?_;rw[moveDown'_eq];refine EA (AC ⟨rfl,⟨B'.kd,B'.fl,B'.pd,B'.up.trans (ub.mono (by omega) (by omega))⟩,?_⟩)
   show Srt lt (bubble (Ay st') (lo+k) (lo+k-(lo+l))) lo (lo+(k+1));have c2:∀ j,j<l->lt (ka0 (Ay st') (lo+k)) (ka0 (Ay st') (lo+j))=Af:=λj h=>by simpa using c2 j h
   have c3:∀ j,l<=j->j<k->lt (ka0 (Ay st') (lo+k)) (ka0 (Ay st') (lo+j))=Aa:=λj h h'=>by simpa using c3 j h h'
   have P1:∀ i,lo<=i->i<lo+l->leK lt (ka0 (Ay st') i) (ka0 (Ay st') (lo+k)):=λi h h'=>by
    have:=c2 (i-lo) (by omega)
    rwa [show lo+(i-lo)=i by omega]at this
   have P2:∀ i,lo+l<=i->i<lo+k->leK lt (ka0 (Ay st') (lo+k)) (ka0 (Ay st') i):=λi h h'=>by
    have:=c3 (i-lo) (by omega) (by omega)
    rw[show lo+(i-lo)=i by omega]at this
    exact O.asymm (va hk) (va (by omega)) this
   intro i j g3 g4 g5;rw[ab,ab];by_cases i1:i<lo+l
   .rw[As (show ¬ i=lo+l by omega),As (show ¬ (lo+l<i/\i<=lo+k) by omega)]
    by_cases j1:j<lo+l
    .rw[As (show ¬ j=lo+l by omega),As (show ¬ (lo+l<j/\j<=lo+k) by omega)]
     exact S i j g3 g4 (by omega)
    .by_cases j2:j=lo+l
     .rw[Ar j2];exact P1 i g3 i1
     .rw[As j2,Ar (show lo+l<j/\j<=lo+k by omega)]
      exact S i (j-1) g3 (by omega) (by omega)
   .by_cases i2:i=lo+l
    .rw[Ar i2,As (show ¬ j=lo+l by omega),Ar (show lo+l<j/\j<=lo+k by omega)]
     exact P2 (j-1) (by omega) (by omega)
    .rw[As i2,Ar (show lo+l<i/\i<=lo+k by omega),As (show ¬ j=lo+l by omega),Ar (show lo+l<j/\j<=lo+k by omega)]
     exact S (i-1) (j-1) (by omega) (by omega) (by omega)
 .obtain⟨hx,B',S⟩:=hI;exact⟨hx,B',λi j h h' h''=>S i j h h' (by omega)⟩
 .obtain⟨hx,B',S⟩:=hP;obtain⟨x1,x2⟩:=x;have hx:x1=Ad:=hx;subst hx;exact AC (q _ B' S)
end
section
variable{M:Fn}{A:AU}{E:Vq}{s:Ap}{κ:EL}{V:Av->Prop}{lt:Av->Av->Aj}
variable{a0:Au Av}{p:Au (Ae×Ae×Ae)}{lo hi:Ae}
theorem M2{f:Im->Er AY DJ α}{H:AY->Prop}{m:Er AY DJ α}{Q:α->AY->Prop}(J:∀ st',H st'->Bl M A E s (f ⟨⟩) Q st')(main:(∀ st',H st'->Bl M A E s (f ⟨⟩) Q st')->Bl M A E s m Q st):Bl M A E s m Q st:=main J
def Dec(lt:Av->Av->Aj)(a:Au Av)(lo hi:Ae):Prop:=∀ i j,lo<=i->i<j->j<hi->leK lt (ka0 a j) (ka0 a i)
def Eqs(lt:Av->Av->Aj)(a:Au Av)(lo hi:Ae):Prop:=∀ i j,lo<=i->i<hi->lo<=j->j<hi->leK lt (ka0 a i) (ka0 a j)
theorem Srt.one:Srt lt a lo (lo+1):=λi j h1 h2 h3=>by omega
theorem Srt.snoc(O:OrdK V lt)(v:∀ i,i<hi->V (ka0 a i))(hk:k<hi)(h0:lo<k)(S:Srt lt a lo k)(h:leK lt (ka0 a (k-1)) (ka0 a k)):Srt lt a lo (k+1):=λi j h1 h2 h3=>by
 by_cases e:j=k
 .subst e;by_cases e':i=j-1
  .rw[e'];exact h
  .exact O.trans (v i (by omega)) (v (j-1) (by omega)) (v j hk) (S i (j-1) h1 (by omega) (by omega)) h
 .exact S i j h1 h2 (by omega)
theorem Dec.snoc(O:OrdK V lt)(v:∀ i,i<hi->V (ka0 a i))(hk:k<hi)(h0:lo<k)(S:Dec lt a lo k)(h:leK lt (ka0 a k) (ka0 a (k-1))):Dec lt a lo (k+1):=λi j h1 h2 h3=>by
 by_cases e:j=k
 .subst e;by_cases e':i=j-1
  .rw[e'];exact h
  .exact O.trans (v j hk) (v (j-1) (by omega)) (v i (by omega)) h (S i (j-1) h1 (by omega) (by omega))
 .exact S i j h1 h2 (by omega)
theorem Eqs.snoc(O:OrdK V lt){q:Ae}(v:∀ i,i<hi->V (ka0 a i))(hk:k<hi)(h0:q<k)(S:Eqs lt a q k)(hr:leK lt (ka0 a k) (ka0 a k))(h:leK lt (ka0 a k) (ka0 a (k-1)))(h':leK lt (ka0 a (k-1)) (ka0 a k)):Eqs lt a q (k+1):=λi j h1 h2 h3 h4=>by
 by_cases e:j=k
 .by_cases e':i=k
  .rw[e,e'];exact hr
  .rw[e];exact O.trans (v i (by omega)) (v (k-1) (by omega)) (v k hk) (S i (k-1) h1 (by omega) (by omega) (by omega)) h'
 .by_cases e':i=k
  .rw[e'];exact O.trans (v k hk) (v (k-1) (by omega)) (v j (by omega)) h (S (k-1) j (by omega) (by omega) h3 (by omega))
  .exact S i j h1 (by omega) h3 (by omega)
theorem Eqs.one(hr:leK lt (ka0 a k) (ka0 a k)):Eqs lt a k (k+1):=λi j h1 h2 h3 h4=>by
 rw[show i=k by omega,show j=k by omega];exact hr
theorem OrdK.refl(O:OrdK V lt)(v:V x):leK lt x x:=by
 cases e:lt x x with
 |false=>exact e
 |true=>exact O.asymm v v e
theorem Dec.mir{b:Ae}(he:e<=a.size)(D:Dec lt a lo hi)(S:Eqs lt a b e)(h1:lo<=b)(h2:e<=hi):Dec lt (mirror a b e ((e-b)/2)) lo hi:=λi j g1 g2 g3=>by
 rw[L5 he,L5 he];by_cases i1:b<=i/\i<e
 .rw[Ar i1];by_cases j1:b<=j/\j<e
  .rw[Ar j1];exact S _ _ (by omega) (by omega) (by omega) (by omega)
  .rw[As j1];exact D _ _ (by omega) (by omega) g3
 .rw[As i1];by_cases j1:b<=j/\j<e
  .rw[Ar j1];exact D _ _ g1 (by omega) (by omega)
  .rw[As j1];exact D _ _ g1 g2 g3
theorem Dec.flip(he:e<=a.size)(D:Dec lt a lo e):Srt lt (mirror a lo e ((e-lo)/2)) lo e:=λi j g1 g2 g3=>by
 rw[L5 he,L5 he,Ar (by omega),Ar (by omega)]
 exact D _ _ (by omega) (by omega) (by omega)
theorem M1{b:Ae}{Q:Hg->AY->Prop}(B:BS κ a0 p lo hi st)(h1:lo<=b)(h2:e<=hi)(h3:e<=a0.size)(q:∀ st',BS κ a0 p lo hi st'->Ay st'=mirror (Ay st) b e ((e-b)/2)->Q ⟨⟩ st'):Bl M A E s (reverseSlice' b e) Q st:=by
 rw[reverseSlice'_eq];exact EA (q _ ⟨B.kd,B.fl,B.pd,B.up.trans ((gG (by rw[B.up.sz];exact h3)).mono h1 h2)⟩ rfl)
theorem ZV(C:Ig M A s κ V lt)(O:OrdK V lt)(hv:∀ x∈a0.toList,V x){nrem:Ae}{Q:Ao Ae->AY->Prop}(B:BS κ a0 p lo hi st)(h1:1<=nrem)(h3:lo+nrem<=hi)(h4:hi<=a0.size)(q:∀ n st',1<=n->n<=nrem->BS κ a0 p lo hi st'->Srt lt (Ay st') lo (lo+n)->Q (Ab n) st'):Bl M A E s (countRun' lo nrem) Q st:=by
 rw[countRun'_eq]
 extract_lets n0
 refine Ax (CW (Q:=λx st'=>st=st'/\x.1=Ad/\1<=x.2/\x.2<=nrem/\Srt lt (Ay st) lo (lo+x.2)/\(x.2<nrem->lt (ka0 (Ay st) (lo+x.2)) (ka0 (Ay st) (lo+x.2-1))=Aa)) (BM (λi x st'=>st=st'/\x.1=Ad/\x.2=i/\Srt lt (Ay st) lo (lo+i)) (λi x st' g1 g2 hI=>?_) (λx st' hI=>?_) ⟨rfl,rfl,rfl,Srt.one⟩) λx st' hP=>?_)
 .obtain⟨rfl,b1,b2,S⟩:=hI;obtain⟨x1,n⟩:=x;have b2:n=i:=b2;subst b2
  try extract_lets
  refine Ax (KU C B hv (show lo+n<a0.size by omega) (show lo+n-1<a0.size by omega) ?_)
  show Bl M A E s (if lt (ka0 (Ay st) (lo+n)) (ka0 (Ay st) (lo+n-1))=Aa then _ else _) _ _
  by_cases e:lt (ka0 (Ay st) (lo+n)) (ka0 (Ay st) (lo+n-1))=Aa
  .rw[Ar e];exact AC ⟨rfl,rfl,g1,by show n<=nrem;omega,S,λ_=>e⟩
  .rw[As e];exact AC ⟨rfl,rfl,rfl,Srt.snoc O (hi:=a0.size) (k:=lo+n) (λi h=>B.v hv h) (by omega) (by omega) S (by simpa [leK] using e)⟩
 .obtain⟨rfl,b1,b2,S⟩:=hI;rw[show max 1 nrem=nrem by omega]at b2 S
  exact⟨rfl,b1,by omega,by omega,by rw[b2];exact S,λh=>by omega⟩
 obtain⟨rfl,b1,b2,b3,S,b4⟩:=hP;obtain⟨x1,n⟩:=x;dsimp only at b1 b2 b3 S b4;subst b1
 try extract_lets
 show Bl M A E s (if (n==nrem)=Aa then _ else _) _ _
 by_cases e0:(n==nrem)=Aa
 .rw[Ar e0];exact AC (q n _ b2 b3 B S)
 rw[As e0];have e0:¬ n=nrem:=by simpa using e0
 have b4:=b4 (by omega)
 rename_i jp _;have hsz:(Ay st).size=a0.size:=B.up.sz;refine M2 (f:=jp) (H:=λst'=>BS κ a0 p lo hi st'/\Dec lt (Ay st') lo (lo+n+1)) (λst1 hH=>?_) (λJ=>?_)
 .obtain⟨B1,D1⟩:=hH;refine Ax (KS ?_)
  extract_lets n1 neq0
  refine Ax (CW (Q:=λx st'=>x.1=Ad/\1<=x.2.1/\x.2.1<=nrem/\BS κ a0 p lo hi st'/\Dec lt (Ay st') lo (lo+x.2.1)/\x.2.2+1<=x.2.1/\Eqs lt (Ay st') (lo+x.2.1-(x.2.2+1)) (lo+x.2.1)) (BM (λi x st'=>x.1=Ad/\x.2.1=i/\BS κ a0 p lo hi st'/\Dec lt (Ay st') lo (lo+i)/\x.2.2+1<=i/\Eqs lt (Ay st') (lo+i-(x.2.2+1)) (lo+i)) (λi x st' g1 g2 hI=>?_) (λx st' hI=>?_) ⟨rfl,rfl,B1,D1,by show 0+1<=n+1;omega,Eqs.one (O.refl (B1.v hv (by omega)))⟩) λx st' hP=>?_)
  .obtain⟨c1,c2,B2,D2,c3,e2⟩:=hI;obtain⟨x1,m,neq⟩:=x;have c2:m=i:=c2;subst c2;have c3:neq+1<=m:=c3;have e2:Eqs lt (Ay st') (lo+m-(neq+1)) (lo+m):=e2;have g1:n+1<=m:=g1;have z2:(Ay st').size=a0.size:=B2.up.sz;have v2:∀ i,i<a0.size->V (ka0 (Ay st') i):=λi h=>B2.v hv h
   try extract_lets
   refine Ax (KU C B2 hv (show lo+m<a0.size by omega) (show lo+m-1<a0.size by omega) ?_)
   try dsimp -zeta only
   try extract_lets
   by_cases e:lt (ka0 (Ay st') (lo+m)) (ka0 (Ay st') (lo+m-1))=Aa
   .rw[Ar e];have D3:=Dec.snoc O v2 (show lo+m<a0.size by omega) (by omega) D2 (O.asymm (v2 _ (by omega)) (v2 _ (by omega)) e)
    rename_i jp2 _;refine M2 (f:=jp2) (H:=λst'=>BS κ a0 p lo hi st'/\Dec lt (Ay st') lo (lo+m+1)) (λst3 hH=>?_) (λJ=>?_)
    .obtain⟨B3,D3⟩:=hH;exact AC ⟨rfl,rfl,B3,D3,by show 0+1<=m+1;omega,Eqs.one (O.refl (B3.v hv (by omega)))⟩
    .refine GL ?_ ?_
     .refine Ax (M1 (b:=lo+m-(neq+1)) (e:=lo+m) B2 (by omega) (by omega) (by omega) λst3 B3 e3=>?_)
      refine J st3 ⟨B3,?_⟩;rw[e3];exact D3.mir (by omega) e2 (by omega) (by omega)
     .exact J _ ⟨B2,D3⟩
   .rw[As e];have e:lt (ka0 (Ay st') (lo+m)) (ka0 (Ay st') (lo+m-1))=Af:=by simpa using e
    refine Ax (KU C B2 hv (show lo+m-1<a0.size by omega) (show lo+m<a0.size by omega) ?_)
    show Bl M A E s (if lt (ka0 (Ay st') (lo+m-1)) (ka0 (Ay st') (lo+m))=Aa then _ else _) _ _
    by_cases f:lt (ka0 (Ay st') (lo+m-1)) (ka0 (Ay st') (lo+m))=Aa
    .rw[Ar f];exact AC ⟨rfl,by show 1<=m;omega,by show m<=nrem;omega,B2,D2,c3,e2⟩
    .rw[As f];have f:lt (ka0 (Ay st') (lo+m-1)) (ka0 (Ay st') (lo+m))=Af:=by simpa using f
     refine AC ⟨rfl,rfl,B2,Dec.snoc O (k:=lo+m) v2 (show lo+m<a0.size by omega) (by omega) D2 f,by show neq+1+1<=m+1;omega,?_⟩
     show Eqs lt (Ay st') (lo+(m+1)-(neq+1+1)) (lo+m+1);rw[show lo+(m+1)-(neq+1+1)=lo+m-(neq+1) by omega]
     exact Eqs.snoc O v2 (by omega) (by omega) e2 (O.refl (v2 _ (by omega))) f e
  .obtain⟨c1,c2,B2,D2,c3,e2⟩:=hI;have em:max (n+1) nrem=nrem:=by omega
   have c2:x.2.1=max (n+1) nrem:=c2;have D2:Dec lt (Ay st') lo (lo+max (n+1) nrem):=D2;have c3:x.2.2+1<=max (n+1) nrem:=c3;have e2:Eqs lt (Ay st') (lo+max (n+1) nrem-(x.2.2+1)) (lo+max (n+1) nrem):=e2;rw[<-c2]at D2 c3 e2;exact⟨c1,by omega,by omega,B2,D2,c3,e2⟩
  .obtain⟨c1,c2,c4,B2,D2,c3,e2⟩:=hP;obtain⟨x1,m,neq⟩:=x;dsimp only at c1 c2 c3 c4 D2 e2;subst c1;have z2:(Ay st').size=a0.size:=B2.up.sz
   try dsimp -zeta only
   try extract_lets
   try dsimp -zeta only
   rename_i jp3;refine M2 (f:=jp3) (H:=λst'=>BS κ a0 p lo hi st'/\Dec lt (Ay st') lo (lo+m)) (λst3 hH=>?_) (λJ=>?_)
   .obtain⟨B3,D3⟩:=hH;have z3:(Ay st3).size=a0.size:=B3.up.sz;refine Ax (M1 (b:=lo) (e:=lo+m) B3 (Aw _) (by omega) (by omega) λst4 B4 e4=>?_)
    have S4:Srt lt (Ay st4) lo (lo+m):=by rw[e4];exact D3.flip (by omega)
    refine Ax (CW (Q:=λx st'=>st4=st'/\x.1=Ad/\1<=x.2/\x.2<=nrem/\Srt lt (Ay st4) lo (lo+x.2)) (BM (λi x st'=>st4=st'/\x.1=Ad/\x.2=i/\Srt lt (Ay st4) lo (lo+i)) (λi x st' g1 g2 hI=>?_) (λx st' hI=>?_) ⟨rfl,rfl,rfl,S4⟩) λx st' hP=>?_)
    .obtain⟨rfl,b1,b2,S⟩:=hI;obtain⟨x1,n⟩:=x;have b2:n=i:=b2;subst b2;have g1:m<=n:=g1
     try extract_lets
     refine Ax (KU C B4 hv (show lo+n<a0.size by omega) (show lo+n-1<a0.size by omega) ?_)
     show Bl M A E s (if lt (ka0 (Ay st4) (lo+n)) (ka0 (Ay st4) (lo+n-1))=Aa then _ else _) _ _
     by_cases e:lt (ka0 (Ay st4) (lo+n)) (ka0 (Ay st4) (lo+n-1))=Aa
     .rw[Ar e];exact AC ⟨rfl,rfl,by show 1<=n;omega,by show n<=nrem;omega,S⟩
     .rw[As e];exact AC ⟨rfl,rfl,rfl,Srt.snoc O (hi:=a0.size) (k:=lo+n) (λi h=>B4.v hv h) (by omega) (by omega) S (by simpa [leK] using e)⟩
    .obtain⟨rfl,b1,b2,S⟩:=hI;have b2:x.2=max m nrem:=b2;have S:Srt lt (Ay st4) lo (lo+max m nrem):=S;rw[<-b2]at S;exact⟨rfl,b1,by omega,by omega,S⟩
    .obtain⟨rfl,b1,b2,b3,S⟩:=hP;obtain⟨x1,n⟩:=x;dsimp only at b1 b2 b3 S;subst b1;exact AC (q n _ b2 b3 B4 S)
   .show Bl M A E s (if neq>0 then _ else _) _ _
    refine GL ?_ ?_
    .refine Ax (M1 (b:=lo+m-(neq+1)) (e:=lo+m) B2 (by omega) (by omega) (by omega) λst3 B3 e3=>?_)
     refine J st3 ⟨B3,?_⟩;rw[e3];exact D2.mir (by omega) e2 (by omega) (by omega)
    .exact J _ ⟨B2,D2⟩
 .have v0:∀ i,i<a0.size->V (ka0 (Ay st) i):=λi h=>B.v hv h
  show Bl M A E s (if n>1 then _ else _) _ _
  by_cases hn:n>1
  .rw[Ar hn];refine Ax (KU C B hv (show lo<a0.size by omega) (show lo+n-1<a0.size by omega) ?_)
   show Bl M A E s (if lt (ka0 (Ay st) lo) (ka0 (Ay st) (lo+n-1))=Aa then _ else _) _ _
   by_cases e:lt (ka0 (Ay st) lo) (ka0 (Ay st) (lo+n-1))=Aa
   .rw[Ar e];exact AC (q n _ b2 b3 B S)
   .rw[As e];have e:leK lt (ka0 (Ay st) (lo+n-1)) (ka0 (Ay st) lo):=by simpa [leK] using e
    refine Ax (M1 (b:=lo) (e:=lo+n) B (Aw _) (by omega) (by omega) λst3 B3 e3=>?_)
    refine J st3 ⟨B3,?_⟩;have Q0:Eqs lt (Ay st) lo (lo+n):=λi j g1 g2 g3 g4=>by
     have x1:leK lt (ka0 (Ay st) i) (ka0 (Ay st) (lo+n-1)):=by
      by_cases h:i=lo+n-1
      .rw[h];exact O.refl (v0 _ (by omega))
      .exact S i (lo+n-1) g1 (by omega) (by omega)
     have x2:leK lt (ka0 (Ay st) lo) (ka0 (Ay st) j):=by
      by_cases h:j=lo
      .rw[h];exact O.refl (v0 _ (by omega))
      .exact S lo j (Aw _) (by omega) (by omega)
     exact O.trans (v0 _ (by omega)) (v0 lo (by omega)) (v0 _ (by omega)) (O.trans (v0 _ (by omega)) (v0 (lo+n-1) (by omega)) (v0 lo (by omega)) x1 e) x2
    have D0:Dec lt (Ay st) lo (lo+n):=λi j g1 g2 g3=>Q0 j i (by omega) g3 g1 (by omega)
    have D1:=Dec.snoc O v0 (show lo+n<a0.size by omega) (by omega) D0 (O.asymm (v0 _ (by omega)) (v0 _ (by omega)) b4)
    rw[e3];exact D1.mir (by omega) Q0 (Aw _) (by omega)
  .rw[As hn];have:n=1:=by omega
   subst this;exact J _ ⟨B,Dec.snoc O v0 (show lo+1<a0.size by omega) (by omega) (λi j g1 g2 g3=>by omega) (O.asymm (v0 _ (by omega)) (v0 _ (by omega)) b4)⟩
end
section
variable{M:Fn}{A:AU}{E:Vq}{s:Ap}{κ:EL}{V:Av->Prop}{lt:Av->Av->Aj}
variable{a0:Au Av}{lo hi:Ae}
def DN(lt:Av->Av->Aj)(a:Au Av):Ac (Ae×Ae×Ae)->Ae->Ae->Prop
 |[],b,e=>b=e
 |x::r,b,e=>x.1=b/\0<x.2.1/\Srt lt a b (b+x.2.1)/\DN lt a r (b+x.2.1) e
theorem DN.le{a:Au Av}:∀{l:Ac (Ae×Ae×Ae)}{b e:Ae},DN lt a l b e->b+l.length<=e
 |[],b,e,h=>by have h:b=e:=h;rw[h];exact Aw _
 |x::r,b,e,h=>by
  have:=DN.le h.2.2.2;have:=h.2.1;rw[A7];omega
theorem DN.mono{a a':Au Av}:∀{l:Ac (Ae×Ae×Ae)}{b e:Ae},DN lt a l b e->(∀ i,b<=i->i<e->ka0 a' i=ka0 a i)->DN lt a' l b e
 |[],b,e,h,_=>h
 |x::r,b,e,h,g=>by
  have:=DN.le h.2.2.2;exact⟨h.1,h.2.1,λi j h1 h2 h3=>by rw[g i h1 (by omega),g j (by omega) (by omega)];exact h.2.2.1 i j h1 h2 h3,DN.mono h.2.2.2 λi h1 h2=>g i (by omega) h2⟩
theorem DN.split{a:Au Av}:∀{L R:Ac (Ae×Ae×Ae)}{b e:Ae},DN lt a (L++R) b e->∃ m,DN lt a L b m/\DN lt a R m e
 |[],R,b,e,h=>⟨b,rfl,h⟩
 |x::L,R,b,e,h=>by
  obtain⟨m,h1,h2⟩:=DN.split (L:=L) h.2.2.2;exact⟨m,⟨h.1,h.2.1,h.2.2.1,h1⟩,h2⟩
theorem DN.join{a:Au Av}:∀{L R:Ac (Ae×Ae×Ae)}{b m e:Ae},DN lt a L b m->DN lt a R m e->DN lt a (L++R) b e
 |[],R,b,m,e,h,h'=>by have h:b=m:=h;rw[h];exact h'
 |x::L,R,b,m,e,h,h'=>⟨h.1,h.2.1,h.2.2.1,DN.join h.2.2.2 h'⟩
theorem DN.modify{a:Au Av}{f:Ae×Ae×Ae->Ae×Ae×Ae}(h1:∀ x,(f x).1=x.1)(h2:∀ x,(f x).2.1=x.2.1):∀{l:Ac (Ae×Ae×Ae)}{i b e:Ae},DN lt a l b e->DN lt a (l.modify i f) b e
 |[],i,b,e,h=>by rw[List.modify_nil];exact h
 |x::r,0,b,e,h=>by
  rw[List.modify_zero_cons];unfold DN at h ⊢;rw[h1,h2];exact h
 |x::r,i+1,b,e,h=>by
  rw[List.modify_succ_cons];exact⟨h.1,h.2.1,h.2.2.1,DN.modify h1 h2 h.2.2.2⟩
structure RS (κ:EL) (lt:Av->Av->Aj) (a0:Au Av) (lo:Ae) (st:AY):Prop where
 kd:kindOf st=κ
 fl:D6 st=Ad
 up:Upd a0 (Ay st) 0 a0.size
 rn:DN lt (Ay st) (Bh st).toList 0 lo
 hl:lo<=a0.size
theorem gN{l:Ac α}(h:i+1<l.length):∃ L x y R,l=L++x::y::R/\L.length=i:=by
 refine⟨l.take i,l[i]'(by omega),l[i+1]'h,l.drop (i+2),?_,by rw[D5];omega⟩
 rw[<-Dz h,<-Dz (show i<l.length by omega),CQ]
theorem Sq(C:Ig M A s κ V lt)(O:OrdK V lt)(hv:∀ x∈a0.toList,V x)(R:RS κ lt a0 lo st)(hi:i+1<(Bh st).size)(q:∀ st',RS κ lt a0 lo st'->(Bh st').size+1=(Bh st).size->(∀ j,lo<=j->ka0 (Ay st') j=ka0 (Ay st) j)->Q Aa st'):Bl M A E s (RJ i) Q st:=by
 obtain⟨L,⟨sa,na,pw⟩,⟨sb,nb,pw2⟩,T,e,hL⟩:=gN (l:=(Bh st).toList) (i:=i) (by rw[AQ];exact hi)
 have rn:=R.rn;rw[e]at rn;obtain⟨m,r1,r2⟩:=rn.split;obtain⟨ea,pa,s1,eb,pb,s2,r3⟩:=r2;dsimp only at ea pa s1 eb pb s2 r3;subst ea;have hle:=r3.le;have hle1:=r1.le;have hhl:=R.hl;have hsz:=R.up.sz;refine Y_8 C O (sa:=sa) (na:=na) (pw:=pw) (sb:=sb) (nb:=nb) (pw2:=pw2) ?_ ?_ (by omega) pa pb (by omega) (by rw[eb];exact s1) (by rw[eb];exact s2) (λx hx=>hv x (R.up.pm.mem_iff.mp hx)) R.kd R.fl λst' k1 k2 k3 U_ S=>?_
 .rw[<-BR,e,Bv (by omega),hL,Jx];rfl
 .rw[<-BR,e,Bv (by omega),hL,show i+1-i=1 by omega];rfl
 have ep:(Bh st').toList=L++(sa,na+nb,pw)::T:=by
  rw[k3,Array.toList_eraseIdxIfInBounds,Vl,e,<-hL];simp[List.set_append,List.eraseIdx_append];intro h;omega
 refine q st' ⟨k1,k2,R.up.trans (U_.mono (BD _) (by omega)),?_,R.hl⟩ ?_ λj hj=>U_.out j (by omega)
 .rw[ep];refine(r1.mono λi h1 h2=>U_.out i (by omega)).join ⟨rfl,by show 0<na+nb;omega,?_,?_⟩
  .show Srt lt (Ay st') sa (sa+(na+nb));rw[show sa+(na+nb)=sb+nb by omega]
   exact S
  .show DN lt (Ay st') T (sa+(na+nb)) lo;rw[show sa+(na+nb)=sa+na+nb by omega]
   exact r3.mono λi h1 h2=>U_.out i (by omega)
 .rw[<-AQ,<-AQ,ep,e];simp;omega
theorem RS.push{st:AY}{n pw:Ae}(R:RS κ lt a0 lo st)(h1:1<=n)(h2:lo+n<=a0.size)(S:Srt lt (Ay st) lo (lo+n)):RS κ lt a0 (lo+n) (setPending st ((Bh st).push (lo,n,pw))):=by
 refine⟨R.kd,R.fl,R.up,?_,h2⟩;show DN lt (Ay st) ((Bh st).push (lo,n,pw)).toList 0 (lo+n);rw[Db];exact R.rn.join ⟨rfl,h1,S,rfl⟩
theorem kJ[E1 c]{x y:Ae}:(if c then x else y)=x\/(if c then x else y)=y:=by split<;>simp
theorem jP{f:Im->Ae->Er AY DJ α}{H:Ae->AY->Prop}{m:Er AY DJ α}{Q:α->AY->Prop}(J:∀ n st',H n st'->Bl M A E s (f ⟨⟩ n) Q st')(main:(∀ n st',H n st'->Bl M A E s (f ⟨⟩ n) Q st')->Bl M A E s m Q st):Bl M A E s m Q st:=main J
theorem YE(C:Ig M A s κ V lt)(O:OrdK V lt)(hv:∀ x∈a0.toList,V x){Q:Hg->AY->Prop}(hk:kindOf st=κ)(hf:D6 st=Ad)(ha:Ay st=a0)(hp:Bh st=#[])(q:∀ st',kindOf st'=κ->D6 st'=Ad->(Ay st').toList.Perm a0.toList->Srt lt (Ay st') 0 a0.size->Q ⟨⟩ st'):Bl M A E s sortRuns' Q st:=by
 rw[sortRuns'_eq];refine Ax (FN ?_);rw[ha]
 extract_lets size mr lo0
 have R0:RS κ lt a0 0 st:=⟨hk,hf,by rw[ha];exact Upd.rfl',by rw[hp];rfl,BD _⟩
 refine Ax (CW (Q:=λx st'=>x.1=Ad/\RS κ lt a0 a0.size st') (BM (λi x st'=>x.1=Ad/\RS κ lt a0 x.2 st'/\i<=x.2) (λi x st' g1 g2 hI=>?_) (λx st' hI=>?_) ⟨rfl,R0,Aw _⟩) λx st' hP=>?_)
 .obtain⟨b1,R,b2⟩:=hI;obtain⟨x1,lo⟩:=x;have R:RS κ lt a0 lo st':=R;have b2:i<=lo:=b2;have hl:=R.hl
  try extract_lets
  show Bl M A E s (if lo ≥ a0.size then _ else _) _ _
  by_cases h1:lo ≥ a0.size
  .rw[Ar h1];refine AC ⟨rfl,?_⟩;have e:lo=a0.size:=by omega
   rw[e]at R;exact R
  rw[As h1];have hsz:=R.up.sz;have hv':∀ x∈(Ay st').toList,V x:=λx hx=>hv x (R.up.pm.mem_iff.mp hx)
  have toR:∀ {st2},BS κ (Ay st') (Bh st') lo a0.size st2->RS κ lt a0 lo st2:=λB=>⟨B.kd,B.fl,R.up.trans (B.up.mono (BD _) (Aw _)),by rw[B.pd];exact R.rn.mono λi _ h=>B.up.out i (.inl h),hl⟩
  refine Ax (ZV C O hv' (hi:=a0.size) ⟨R.kd,R.fl,rfl,Upd.rfl'⟩ (show 1<=a0.size-lo by omega) (by omega) (by omega) λn st2 n1 n2 B S=>?_)
  dsimp -zeta only;rename_i jp _ _;refine jP (f:=jp) (H:=λn st2=>1<=n/\lo+n<=a0.size/\RS κ lt a0 lo st2/\Srt lt (Ay st2) lo (lo+n)) (λn st2 hH=>?_) (λJ=>?_)
  .obtain⟨n1,n2,R2,S2⟩:=hH;refine Ax (FN ?_)
   extract_lets lo2 jp2
   refine M2 (f:=jp2) (H:=λst2=>RS κ lt a0 lo st2/\Srt lt (Ay st2) lo (lo+n)) (λst3 hH=>?_) (λJ=>?_)
   .obtain⟨R3,S3⟩:=hH;refine Ax (EA ?_);exact AC ⟨rfl,R3.push n1 n2 S3,by show i+1<=lo+n;omega⟩
   .cases hb:(Bh st2).back? with
    |none=>exact J _ ⟨R2,S2⟩
    |some v=>
     obtain⟨s1,n1',pw0⟩:=v;dsimp -zeta only
     extract_lets pw
     refine Ax (CW (Q:=λx st3=>x.1=Ad/\RS κ lt a0 lo st3/\Srt lt (Ay st3) lo (lo+n)) (BM (fun(j:Ae)(x:Ao Hg×Hg)(st3:AY)=>x.1=Ad/\RS κ lt a0 lo st3/\Srt lt (Ay st3) lo (lo+n)) (λj x st3 _ _ hI=>?_) (λx st3 hI=>hI) ⟨rfl,R2,S2⟩) λx st3 hP=>?_)
     .obtain⟨_,R3,S3⟩:=hI;refine Ax (FN ?_)
      extract_lets p
      cases hq:(if p.size>1 then p[p.size-2]? else Ad) with
      |none=>exact AC ⟨rfl,R3,S3⟩
      |some v=>
       obtain⟨f1,f2,older⟩:=v;have p1:p.size>1:=by
        by_cases h:p.size>1
        .exact h
        .rw[As h]at hq;cases hq
       have p1:(Bh st3).size>1:=p1;dsimp -zeta only;refine GL (AC ⟨rfl,R3,S3⟩) ?_;refine Ax (Sq C O hv R3 (i:=(Bh st3).size-2) (by omega) λst4 R4 z4 o4=>?_)
       exact AC ⟨rfl,R4,λi j h1 h2 h3=>by rw[o4 i h1,o4 j (by omega)];exact S3 i j h1 h2 h3⟩
     .obtain⟨b1,R3,S3⟩:=hP;obtain⟨x1,x2⟩:=x;have b1:x1=Ad:=b1;subst b1;refine Ax (EA ?_);refine J _ ⟨⟨R3.kd,R3.fl,R3.up,?_,R3.hl⟩,S3⟩;show DN lt (Ay st3) ((Bh st3).modify _ _).toList 0 lo;rw[Array.toList_modify];exact DN.modify (f:=λx=>(x.1,x.2.1,pw)) (λ_=>rfl) (λ_=>rfl) R3.rn
  .show Bl M A E s (if n<mr then _ else _) _ _
   by_cases h2:n<mr
   .rw[Ar h2];refine Ax (KS ?_);refine Ax (YX C O hv' (n:=min (a0.size-lo) mr) B n1 (by omega) (by omega) (by omega) S λst3 B3 S3=>?_)
    exact J _ _ ⟨by omega,by omega,toR B3,S3⟩
   .rw[As h2];exact J _ _ ⟨n1,by omega,toR B,S⟩
 .obtain⟨b1,R,b2⟩:=hI;have b2:max 0 a0.size<=x.2:=b2;have:=R.hl;rw[show x.2=a0.size by omega]at R
  exact⟨b1,R⟩
 .obtain⟨b1,R⟩:=hP;obtain⟨x1,lo⟩:=x;have b1:x1=Ad:=b1;subst b1
  try extract_lets
  have hle:=R.rn.le;rw[AQ]at hle;refine Ax (CW (Q:=λx st3=>x.1=Ad/\RS κ lt a0 a0.size st3/\(Bh st3).size<=1) (BM (λj x st3=>x.1=Ad/\RS κ lt a0 a0.size st3/\((Bh st3).size<=1\/(Bh st3).size+j<=a0.size)) (λj x st3 _ _ hI=>?_) (λx st3 hI=>?_) ⟨rfl,R,.inr (by omega)⟩) λx st3 hP=>?_)
  .obtain⟨c1,R3,c2⟩:=hI
   try extract_lets
   refine Ax (FN ?_)
   extract_lets p
   show Bl M A E s (if (Bh st3).size<=1 then _ else _) _ _
   by_cases h:(Bh st3).size<=1
   .rw[Ar h];exact AC ⟨rfl,R3,h⟩
   rw[As h];rename_i i1;have hi:i1=(Bh st3).size-2-1\/i1=(Bh st3).size-2:=kJ;have hi:i1+1<(Bh st3).size:=by omega
   refine Ax (Sq C O hv R3 hi λst4 R4 z4 o4=>?_)
   exact AC ⟨rfl,R4,.inr (by omega)⟩
  .obtain⟨c1,R3,c2⟩:=hI;have c2:(Bh st3).size<=1\/(Bh st3).size+max 0 a0.size<=a0.size:=c2;exact⟨c1,R3,by omega⟩
  .obtain⟨c1,R3,c2⟩:=hP;obtain⟨x1,x2⟩:=x;have c1:x1=Ad:=c1;subst c1;refine AC (q _ R3.kd R3.fl R3.up.pm ?_);have rn:=R3.rn;cases hl:(Bh st3).toList with
   |nil=>
    rw[hl]at rn;have rn:0=a0.size:=rn;exact λi j h1 h2 h3=>by omega
   |cons x r=>
    rw[hl]at rn;have:r.length=0:=by
     have:=congrArg Fw hl;rw[AQ,A7]at this;omega
    have hr:=List.length_eq_zero_iff.mp this;rw[hr]at rn;obtain⟨_,_,S,e⟩:=rn;have e:0+x.2.1=a0.size:=e;rw[e]at S;exact S
end
end Ov
namespace Ov
open PySem PySem.W PyProof.Rows
variable{h:AM}{v:Ai}{r q:Ac Ag}{rs:Ac (Ac Ag)}{vs:Ac Ai}
structure Sto (lt:Ae->Ae->Aj) (n:Ae):Prop where
 tr:∀ i j k,i<n->j<n->k<n->lt i j=Aa->lt j k=Aa->lt i k=Aa
 tot:∀ i j,i<n->j<n->i≠j->lt i j=Af->lt j i=Aa
 asy:∀ i j,i<n->j<n->lt i j=Aa->lt j i=Af
noncomputable def at0(p:Au Ae)(x:Ae):Ae:=p.getD x 0
structure Pm (n:Ae) (p:Au Ae):Prop where
 sz:p.size=n
 lt:∀ x,x<n->at0 p x<n
 inj:∀ x y,x<n->y<n->at0 p x=at0 p y->x=y
section
variable{lt:Ae->Ae->Aj}{n:Ae}
def Ll(lt:Ae->Ae->Aj)(p:Au Ae)(m:Ae):Prop:=∀ x y,x<y->y<m->lt (at0 p x) (at0 p y)=Aa
theorem Z_6(n:Ae):Pm n (Dm (AB n)):=by
 have e:∀ x,x<n->at0 (Dm (AB n)) x=x:=λx hx=>by simp[at0,D8,hx]
 exact⟨by simp,λx hx=>by rw[e x hx];exact hx,λx y hx hy h=>by rw[e x hx,e y hy]at h;exact h⟩
end
def EF(h:AM)(v:Ai)(r:Ac Ag):Prop:=∃ a its,v=.ref a/\Lo h a its/\EX its.toList r/\r≠[]
theorem EF.kept{h':AM}(t:EF h v r)(k:∀ b o,h.get? b=Ab o->h'.get? b=Ab o):EF h' v r:=by
 obtain⟨a,its,e,⟨o,ho,q⟩,i,n⟩:=t;exact⟨a,its,e,⟨o,k _ _ ho,q⟩,i,n⟩
noncomputable def Ck:Ac Ag->Ac Ag->Aj
 |[],[]=>Af
 |[],_::_=>Aa
 |_::_,[]=>Af
 |x::xs,y::ys=>if x=y then Ck xs ys else decide (x<y)
section
variable{prog:AR}{w:AT}{A:AU}{E:Vq}{s:Ap}
theorem T2{C:Aj->Ap->Prop}:∀{vs us:Ac Ai}{r q:Ac Ag}(i:Ae),EX vs r->EX us q->C (Ck r q) s->KatLex prog w A Aa (decide (vs.length<us.length)) C (vs.zip us) i s
 |[],[],[],[],i,_,_,h=>by
  have h':C Af s:=h;exact kat_nil h'
 |[],u::us,[],y::q,i,_,_,h=>by
  have h':C Aa s:=h;refine kat_nil ?_;have e:decide (([]:Ac Ai).length<(u::us).length)=Aa:=by simp
  rw[e];exact h'
 |v::vs,[],x::r,[],i,_,_,h=>by
  have h':C Af s:=h;exact kat_nil h'
 |v::vs,u::us,x::r,y::q,i,hv,hu,h=>by
  cases hv with
  |cons _ tv hv=>
   cases hu with
   |cons _ tu hu=>
    have e0:decide ((Ip x tv::vs).length<(Ip y tu::us).length)=decide (vs.length<us.length):=by simp
    rw[e0];refine kat_cons (X9 ?_);by_cases e:x=y
    .have e1:(x==y)=Aa:=by simp[e]
     rw[e1];refine kat_yes (T2 (i+1) hv hu ?_);have h':C (if x=y then Ck r q else decide (x<y)) s:=h
     rw[Ar e]at h';exact h'
    .have e1:(x==y)=Af:=by simp[e]
     rw[e1];have h':C (decide (x<y)) s:=by
      have h':C (if x=y then Ck r q else decide (x<y)) s:=h
      rwa [As e]at h'
     refine kat_no ?_;cases i with
     |zero=>exact oneLt_int h'
     |succ i=>
      have e2:(Aa&&(i+1==0))=Af:=rfl;rw[e2];exact kat_one _ _ (wpAny_lt_int h')
 |[],_,_::_,_,_,hv,_,_=>nomatch hv
 |_::_,_,[],_,_,hv,_,_=>nomatch hv
 |_,[],_,_::_,_,_,hu,_=>nomatch hu
 |_,_::_,_,[],_,_,hu,_=>nomatch hu
theorem gO{C:Aj->Ap->Prop}{u:Ai}(hv:EF s.heap v r)(hu:EF s.heap u q)(h:C (Ck r q) s):Az (model prog w) A (keyLt' (tuples' Aa) v u) C E s:=by
 obtain⟨a,xs,rfl,⟨oa,ga,_,n,da⟩,ix,_⟩:=hv;obtain⟨b,ys,rfl,⟨ob,gb,_,m,db⟩,iy,_⟩:=hu;refine kat_lt ga da gb db ?_;have:=T2 (prog:=prog) (w:=w) (A:=A) (s:=s) 0 ix iy h;simpa using this
theorem LW:∀{r q:Ac Ag},Ck r q=Aa->Ck q r=Af
 |[],[],h=>by cases h
 |[],_::_,_=>rfl
 |_::_,[],h=>by cases h
 |x::r,y::q,h=>by
  have h':(if x=y then Ck r q else decide (x<y))=Aa:=h
  show (if y=x then Ck q r else decide (y<x))=Af
  by_cases e:x=y
  .rw[Ar e]at h';rw[Ar e.symm];exact LW h'
  .rw[As e,AZ]at h';rw[As (DQ e),FU];omega
theorem MN:∀{r q:Ac Ag},r≠q->Ck r q=Af->Ck q r=Aa
 |[],[],n,_=>absurd rfl n
 |[],_::_,_,h=>by cases h
 |_::_,[],_,_=>rfl
 |x::r,y::q,n,h=>by
  have h':(if x=y then Ck r q else decide (x<y))=Af:=h
  show (if y=x then Ck q r else decide (y<x))=Aa
  by_cases e:x=y
  .rw[Ar e]at h';rw[Ar e.symm];exact MN (λz=>n (by rw[e,z])) h'
  .rw[As e,FU]at h';rw[As (DQ e),AZ];omega
theorem MO:∀{r q t:Ac Ag},Ck r q=Aa->Ck q t=Aa->Ck r t=Aa
 |[],[],_,h,_=>by cases h
 |_::_,[],_,h,_=>by cases h
 |_,_::_,[],_,h=>by cases h
 |[],_::_,_::_,_,_=>rfl
 |x::r,y::q,u::t,h,g=>by
  have h':(if x=y then Ck r q else decide (x<y))=Aa:=h
  have g':(if y=u then Ck q t else decide (y<u))=Aa:=g
  show (if x=u then Ck r t else decide (x<u))=Aa
  by_cases e:x=y
  .rw[Ar e]at h';by_cases f:y=u
   .rw[Ar f]at g';rw[Ar (e.trans f)];exact MO h' g'
   .rw[As f,AZ]at g';rw[As (by omega),AZ]
    omega
  .rw[As e,AZ]at h';by_cases f:y=u
   .rw[As (by omega),AZ]
    omega
   .rw[As f,AZ]at g';rw[As (by omega),AZ]
    omega
noncomputable def ltR(rs:Ac (Ac Ag))(i j:Ae):Aj:=Ck (rs.getD i []) (rs.getD j [])
theorem ZX(nd:rs.Nodup):Sto (ltR rs) rs.length:=by
 refine⟨λi j k _ _ _=>MO,λi j hi hj ne h=>MN (λe=>ne ?_) h,λi j _ _=>LW⟩
 have h':=BF.mp nd;rw[A4,A4,AA hi,AA hj]at e;have e':rs[i]=rs[j]:=e;rcases FW i j with z|z|z
 .exact absurd e' (h' i j hi hj z)
 .exact z
 .exact absurd e'.symm (h' j i hj hi z)
noncomputable abbrev Ib(vs:Ac Ai)(p:Au Ae):Au Ai:=Dm (p.toList.map λi=>vs.getD i AG)
theorem ZE(vs:Ac Ai):Ib vs (Dm (AB vs.length))=vs.toArray:=by
 apply Ge.mp
 show (AB vs.length).map (λi=>vs.getD i AG)=vs
 apply D4
 .simp
 .intro i h1 h2;simp[h2]
theorem Rh{h:AM}:∀{vs:Ac Ai}{rs:Ac (Ac Ag)},rs.length=vs.length->(∀(i:Ae)(v:Ai)(r:Ac Ag),vs[i]?=Ab v->rs[i]?=Ab r->EF h v r)->∃ fs,KatTups h vs fs/\fs.length=vs.length/\∀ v∈fs,∃ x t,v=Ip x t
 |[],_,_,_=>⟨[],KatTups.nil,rfl,λv hv=>by cases hv⟩
 |v::vs,[],hl,_=>by cases hl
 |v::vs,r::rs,hl,ht=>by
  obtain⟨fs,h1,h2,h3⟩:=Rh (vs:=vs) (rs:=rs) (by simpa using hl) λi v r a b=>ht (i+1) v r a b
  obtain⟨a,its,rfl,⟨o,ho,hc,n,hd⟩,hi,hne⟩:=ht 0 v r rfl rfl;cases e:its.toList with
  |nil=>
   rw[e]at hi;cases hi;exact absurd rfl hne
  |cons f l=>
   rw[e]at hi;cases hi with
   |cons x t hi=>
    refine⟨.int x t::fs,KatTups.cons ho hc hd ?_ h1,by simp[h2],λv hv=>?_⟩
    .rw[<-BR,e];rfl
    .rcases AK.mp hv with rfl|hv
     .exact⟨x,t,rfl⟩
     .exact h3 v hv
theorem Se{α:Type}(d:α){l' l:Ac α}(h:l'.Perm l):∃ p:Ac Ae,p.Perm (AB l.length)/\l'=p.map λi=>l.getD i d:=by
 induction h with
 |nil=>exact⟨[],.nil,rfl⟩
 | @cons x l1 l2 h ih=>
  obtain⟨p,hp,e⟩:=ih;refine⟨0::p.map (· + 1),?_,?_⟩
  .rw[A7,E5];exact(hp.map _).cons 0
  .rw[CC,Bc,e];rfl
 | @swap x y l=>
  refine⟨1::0::(AB l.length).map (· + 2),?_,?_⟩
  .rw[A7,A7,E5,E5,CC,Bc];exact .swap ..
  .rw[CC,CC,Bc];show y::x::l=_
   congr 2
   apply D4
   .simp
   .intro i h1 h2;simp[h1]
 | @trans l1 l2 l3 h1 h2 ih1 ih2=>
  obtain⟨p,hp,e⟩:=ih1;obtain⟨q,hq,f⟩:=ih2;have hl:l2.length=l3.length:=h2.length_eq;have ql:q.length=l3.length:=by rw[hq.length_eq,DP]
  refine⟨p.map λi=>q.getD i 0,?_,?_⟩
  .refine(hp.map _).trans (Gx (FD ?_) hq)
   apply D4
   .rw[AH,DP,hl,ql]
   .intro i h1 h2;rw[Fj,List.getElem_range];simp[h2]
  .rw[e,Bc]
   apply BX
   intro i hi;have hi':i<l2.length:=BA.mp (hp.mem_iff.mp hi);show l2.getD i d=l3.getD (q.getD i 0) d;have g1:l2.getD i d=(q.map λi=>l3.getD i d).getD i d:=by rw[<-f]
   rw[g1];have hq':i<q.length:=by omega
   simp[hq']
theorem EX.uniq(h:EX vs r)(h':EX vs q):r=q:=by rw[<-h.nums,<-h'.nums]
theorem EF.uniq{h:AM}{v:Ai}{r q:Ac Ag}(t:EF h v r)(u:EF h v q):r=q:=by
 obtain⟨a,its,rfl,⟨o,ho,hc,n,hd⟩,hi,_⟩:=t;obtain⟨b,its',e,⟨o',ho',hc',n',hd'⟩,hi',_⟩:=u;cases e;rw[ho]at ho';cases ho';rw[hd]at hd';cases hd';exact EX.uniq hi hi'
open Classical in
noncomputable def ltK(h:AM)(x y:Av):Aj:=decide (∃ r q,EF h x.1 r/\EF h y.1 q/\Ck r q=Aa)
open Classical in
theorem Kh{x y:Av}(t:EF h x.1 r)(u:EF h y.1 q):ltK h x y=Ck r q:=by
 unfold ltK;cases e:Ck r q with
 |true=>exact BJ ⟨r,q,t,u,e⟩
 |false=>
  refine BH λ⟨r',q',t',u',e'⟩=>?_
  rw[t'.uniq t,u'.uniq u,e]at e';cases e'
theorem aX(h:AM):OrdK (λx=>∃ r,EF h x.1 r) (ltK h):=by
 refine⟨λ⟨r,t⟩ ⟨q,u⟩ e=>?_,λ⟨r,t⟩ ⟨q,u⟩ ⟨p,v⟩ e1 e2=>?_⟩
 .rw[Kh t u]at e;rw[Kh u t];exact LW e
 .rw[Kh u t]at e1;rw[Kh v u]at e2;rw[Kh v t];cases e:Ck p r with
  |false=>rfl
  |true=>
   by_cases a:p=q
   .rw[a,e1]at e;cases e
   .have x:=MN a e2;have y:=MO x e;rw[e1]at y;cases y
theorem aR:Ig (model prog w) A s (tuples' Aa) (λx=>∃ r,EF s.heap x.1 r) (ltK s.heap):=λE st x y Q hk ⟨r,t⟩ ⟨q,u⟩ h=>by
 rw[lt'_eq];refine Ax (FN ?_);rw[hk];rw[Kh t u]at h;refine Ax (wpS_lift (EY (gO t u ⟨rfl,?_⟩)));exact AC h
theorem cV(hr:rs.length=vs.length)(kt:∀(i:Ae)(v:Ai)(r:Ac Ag),vs[i]?=Ab v->rs[i]?=Ab r->EF s.heap v r)(nd:rs.Nodup):Az (model prog w) A ((sortRuns').run (Kt (tuples' Aa) (vs.toArray.zip vs.toArray) #[] 7 Ad)) (λr s'=>s'=s/\∃ p,Pm vs.length p/\Ll (ltR rs) p vs.length/\(Ay r.2).map (·.2)=Ib vs p/\D6 r.2=Ad) E s:=by
 have tl:(vs.toArray.zip vs.toArray).toList=vs.zip vs:=by simp
 have zl:(vs.zip vs).length=vs.length:=by simp
 have zg:∀ i (h:i<vs.length),(vs.zip vs).getD i (AG,AG)=(vs[i],vs[i]):=λi h=>by simp[h]
 refine YE (st:=Kt (tuples' Aa) (vs.toArray.zip vs.toArray) #[] 7 Ad) (Q:=λ_ st'=>∃ p,Pm vs.length p/\Ll (ltR rs) p vs.length/\(Ay st').map (·.2)=Ib vs p/\D6 st'=Ad) (V:=λx=>∃ r,EF s.heap x.1 r) (a0:=vs.toArray.zip vs.toArray) aR (aX s.heap) (λx hx=>?_) rfl rfl rfl rfl λst' _ hf pm so=>?_
 .rw[tl]at hx;obtain⟨i,hi,rfl⟩:=Cc hx;rw[zl]at hi;rw[List.getElem_zip];exact⟨_,kt i _ _ (AA hi) (AA (by omega:i<rs.length))⟩
 .rw[tl]at pm;obtain⟨p,hp,e⟩:=Se (AG,AG) pm;rw[zl]at hp;have pl:p.length=vs.length:=by rw[hp.length_eq,DP]
  have pn:p.Nodup:=hp.symm.nodup VW;have pa:∀ x (h:x<vs.length),at0 p.toArray x=p[x]'(by omega):=λx h=>by simp[at0,D8,show x<p.length by omega]
  have plt:∀ x (h:x<vs.length),p[x]'(by omega)<vs.length:=λx h=>BA.mp (hp.mem_iff.mp (CU (by omega)))
  have PM:Pm vs.length p.toArray:=by
   refine⟨by simpa using pl,λx hx=>by rw[pa x hx];exact plt x hx,λx y hx hy h=>?_⟩
   rw[pa x hx,pa y hy]at h;have:=BF.mp pn;rcases FW x y with z|z|z
   .exact absurd h (this x y (by omega) (by omega) z)
   .exact z
   .exact absurd h.symm (this y x (by omega) (by omega) z)
  have ka:∀ x (h:x<vs.length),ka0 (Ay st') x=(vs[p[x]'(by omega)]'(plt x h),vs[p[x]'(by omega)]'(plt x h)):=λx h=>by
   rw[KY,e,Bx,AA (by omega)]
   show (vs.zip vs).getD p[x] (AG,AG)=_;rw[zg _ (plt x h)]
  have kr:∀ x (h:x<vs.length),EF s.heap (ka0 (Ay st') x).1 (rs.getD (p[x]'(by omega)) []):=λx h=>by
   rw[ka x h];have:=plt x h;refine kt _ _ _ (AA this) ?_;rw[A4,AA (by omega)]
   rfl
  have zs:(vs.toArray.zip vs.toArray).size=vs.length:=by simp
  refine⟨p.toArray,PM,λx y hxy hy=>?_,?_,hf⟩
  .have g:=so x y (BD _) hxy (by rw[zs];exact hy)
   have hx:x<vs.length:=by omega
   have g:ltK s.heap (ka0 (Ay st') y) (ka0 (Ay st') x)=Af:=g;rw[Kh (kr y hy) (kr x hx)]at g;rw[pa x hx,pa y hy];have S:=ZX nd;refine S.tot _ _ (by rw[hr];exact plt y hy) (by rw[hr];exact plt x hx) (λh=>?_) g
   have:=PM.inj y x hy hx (by rw[pa x hx,pa y hy];exact h)
   omega
  .apply Ge.mp
   rw[Array.toList_map,e,Bc];show _=p.map λi=>vs.getD i AG
   apply BX
   intro i hi;have hi':i<vs.length:=BA.mp (hp.mem_iff.mp hi);show ((vs.zip vs).getD i (AG,AG)).2=_;rw[zg i hi'];simp[hi']
theorem Qn{a:Al}{n:Ae}{P:Ln->Ap->Prop}(ho:s.heap.get? a=Ab (CD "list" vs.toArray n))(hr:rs.length=vs.length)(ht:∀(i:Ae)(v:Ai)(r:Ac Ag),vs[i]?=Ab v->rs[i]?=Ab r->EF s.heap v r)(nd:rs.Nodup)(hz:vs.length<=1000)(h:∀ p:Au Ae,Pm vs.length p->Ll (ltR rs) p vs.length->P (.done (.ret .none)) {s with heap:=sortedHeap s.heap a vs (Ib vs p)}):Az (model prog w) A (Builtin.«list.sort» ⟨[.ref a],[]⟩) P E s:=by
 rw[list_sort_plain];have ha:a<s.heap.objs.size:=AJ ho;refine Ah (listItems_at ho rfl ?_ );refine Ah (Hd ho rfl ?_ (by rw[AN,Bz];omega) (BD _))
 obtain⟨e1,ho1⟩:∃ e1,(s.heap.update a (BV λ_=>(#[]:Au Ai))).get? a=Ab (CD "list" #[] e1):=⟨_,Io ho (λ_=>#[])⟩
 refine Ah (seqEpoch_at ho1 rfl ?_);refine Ah (Yg ?_ (by show vs.length<=_;rw[Bz];omega))
 refine Ah (Ju ?_ (BD _));refine Eo ?_;have ho6:(((s.heap.update a (BV λ_=>(#[]:Au Ai))).push (CD "tuple" vs.toArray 0)).push (CD "list" #[] 0)).get? a=Ab (CD "list" #[] e1):=by
  rw[FY _ _ _ (by rw[size_push',Fm];exact AV (Bs ha)),FY _ _ _ (by rw[Fm];exact AV ha)]
  exact ho1
 show Az (model prog w) A _ P E { s with heap:=((s.heap.update a (BV λ_=>(#[]:Au Ai))).push (CD "tuple" vs.toArray 0)).push (CD "list" #[] 0) }
 have kt:∀(i:Ae)(v:Ai)(r:Ac Ag),vs[i]?=Ab v->rs[i]?=Ab r->EF (((s.heap.update a (BV λ_=>(#[]:Au Ai))).push (CD "tuple" vs.toArray 0)).push (CD "list" #[] 0)) v r:=λi v r h1 h2=>by
  obtain⟨b,its,e,⟨o,hb,hc,q⟩,x,y⟩:=ht i v r h1 h2;have ne:b≠a:=λz=>by
   rw[z,ho]at hb;cases hb;have hc':Fo "list" = Fo "tuple" := hc
   injection hc' with hc'
   exact absurd hc' (by decide)
  refine⟨b,its,e,⟨o,?_,hc,q⟩,x,y⟩;exact Aq _ (Aq _ ((Co _ _ (DQ ne)).trans hb))
 dsimp only;have hsz:vs.toArray.size=vs.length:=by simp
 have fin:∀ p:Au Ae,Pm vs.length p->Ll (ltR rs) p vs.length->∀ st':AY,(Ay st').map (·.2)=Ib vs p->D6 st'=Ad->∀ s':Ap,s'={ s with heap:=((s.heap.update a (BV λ_=>(#[]:Au Ai))).push (CD "tuple" vs.toArray 0)).push (CD "list" #[] 0) }->Az (model prog w) A (do
   let sorted:=(Ay st').map (·.2)
   let touched:=(<-seqEpoch a) != e1
   Builtin.List.listUpdate (.ref a) λ_=>sorted
   if let Ab e:=D6 st' then rule "list.sort.comparison-raised"; throw e
   if touched then rule "list.sort.modified"; raiseError "ValueError" "list modified during sort"
   ret .none) P E s':=λp hp hs st' ho' hf s' es=>by
  subst es;have osz:(Ib vs p).size=vs.length:=by show (Dm (p.toList.map _)).size=_;rw[AN,AH,AQ,hp.sz]
  refine Ah (seqEpoch_at ho6 rfl ?_);rw[ho',hf];refine Ah (Hd ho6 rfl ?_ (BD _) (by rw[osz,Bz];omega))
  simp only[bne_self_eq_false,G4,Mr];exact At (h p hp hs)
 by_cases h2:vs.toArray.size<2
 .rw[Ar h2,Ar h2];refine Ah (At ?_);rw[StateT.run_pure];refine Ah (At ?_);dsimp only;refine fin (Dm (AB vs.length)) (Z_6 _) (λx y a b=>by omega) (Kt general' (vs.toArray.zip vs.toArray) #[] 7 Ad) ?_ rfl _ rfl
  rw[ZE];show (vs.toArray.zip vs.toArray).map (·.2)=vs.toArray
  apply Ge.mp
  simp[List.map_snd_zip]
 .rw[As h2,As h2];have h2':2<=vs.length:=by rw[hsz]at h2;omega
  obtain⟨fs,t1,t2,t3⟩:=Rh hr kt;refine Ah (kat_kind t1 (by omega) (T:=Fo "int") (λv hv=>?_) rfl ?_)
  .obtain⟨x,t,rfl⟩:=t3 v hv;exact .now
  .have e0:tuples' (Fo "int" != Fo "tuple")=tuples' Aa:=rfl;rw[e0];refine Ah (Cu (cV hr kt nd) ?_ λ_ _ e=>e)
   rintro⟨⟨⟩,st'⟩ s' ⟨es,p,hp,hs,ho',hf⟩;exact fin p hp hs st' ho' hf s' es
theorem Y_9{l:Al}{Q:Vq}(hl:s.heap.IsList l vs.toArray)(hr:rs.length=vs.length)(ht:∀(i:Ae)(v:Ai)(r:Ac Ag),vs[i]?=Ab v->rs[i]?=Ab r->EF s.heap v r)(nd:rs.Nodup)(hz:vs.length<=1000)(h:∀ p:Au Ae,Pm vs.length p->Ll (ltR rs) p vs.length->Q (.ref (s.heap.objs.size+1)) {s with heap:=sortedAll s.heap vs (Ib vs p)}):
    Az (model prog w) A (call (.builtin "sorted") [.ref l]) Q E s:=by
  refine Ww kind_sorted plain_sorted entry_sorted (args_sorted1 _) ?_;unfold Builtin.«sorted»;refine Ah (m:=checkCount "sorted" 1 1 _) (At ?_);refine Ah (collect_list hl ?_ (by rw[Bz];omega))
  refine Ah (Ju ?_ (by rw[Bz];omega))
  have hsz:((s.heap.push (CD "list" #[] 0)).update s.heap.objs.size (BV (· ++ vs.toArray))).objs.size=s.heap.objs.size+1:=by
    rw[Fm,size_push']
  have hoL:(((s.heap.push (CD "list" #[] 0)).update s.heap.objs.size (BV (· ++ vs.toArray))).push (CD "list" vs.toArray 0)).get? (s.heap.objs.size+1)=Ab (CD "list" vs.toArray 0):=by
    rw[<-hsz];exact AD _ rfl
  have keep:∀ b o,s.heap.get? b=Ab o->(((s.heap.push (CD "list" #[] 0)).update s.heap.objs.size (BV (· ++ vs.toArray))).push (CD "list" vs.toArray 0)).get? b=Ab o:=λb o q=>by
    have hlt:b<s.heap.objs.size:=AJ q;rw[FY _ _ _ (by rw[hsz];exact AV (Bs hlt)),EQ _ _ _ _ (AV hlt),FY _ _ _ (AV hlt)]
    exact q
  show Az _ _ _ _ _ { s with heap:=((s.heap.push (CD "list" #[] 0)).update s.heap.objs.size (BV (· ++ vs.toArray))).push (CD "list" vs.toArray 0) }
  rw[hsz];refine Ah (Eo (B0 Wm ⟨_,hoL,rfl⟩ Wl (Qn (s:={ s with heap:=((s.heap.push (CD "list" #[] 0)).update s.heap.objs.size (BV (· ++ vs.toArray))).push (CD "list" vs.toArray 0) }) hoL hr (λi v r h1 h2=>(ht i v r h1 h2).kept keep) nd hz λp hp hs=>⟨_,rfl,?_⟩) (Wf _)))
  exact At ⟨_,rfl,h p hp hs⟩
end
end Ov
section
namespace Ov
noncomputable def tI(r:Ac Ag):D:=.tup (r.map D.int)
theorem N8:∀(r q:Ac Ag),eqDs (r.map D.int) (q.map D.int)=decide (r=q)
 |[],[]=>rfl
 |[],_::_=>rfl
 |_::_,[]=>rfl
 |x::r,y::q=>by
  have e:eqDs ((x::r).map D.int) ((y::q).map D.int)=(x==y&&eqDs (r.map D.int) (q.map D.int)):=rfl;rw[e,N8 r q];by_cases h:x=y<;>by_cases g:r=q<;>simp[h,g]
theorem To(r q:Ac Ag):eqD (tI r) (tI q)=decide (r=q):=N8 r q
theorem Q8:∀(r q:Ac Ag),ltD.ltDs (ltD 0) (r.map D.int) (q.map D.int)=Ck r q
 |[],[]=>rfl
 |[],_::_=>rfl
 |_::_,[]=>rfl
 |x::r,y::q=>by
  have e:ltD.ltDs (ltD 0) ((x::r).map D.int) ((y::q).map D.int)=if (x==y)=Aa then ltD.ltDs (ltD 0) (r.map D.int) (q.map D.int) else decide (x<y):=rfl
  have e':Ck (x::r) (y::q)=if x=y then Ck r q else decide (x<y):=rfl
  rw[e,e',Q8 r q];by_cases h:x=y<;>simp[h]
theorem kX(r q:Ac Ag):ltD 1 (tI r) (tI q)=Ck r q:=Q8 r q
theorem SU:∀{xs:Ac D},xs.all (rkD 0)=Aa->∃ r:Ac Ag,xs=r.map D.int
 |[],_=>⟨[],rfl⟩
 |x::xs,h=>by
  rw[EW,An]at h;obtain⟨r,e⟩:=SU h.2;cases x with
  |int i=>exact⟨i::r,by rw[e];rfl⟩
  |_=>cases h.1
theorem oR{d:D}(h:rkD 1 d=Aa):∃ r,d=tI r:=by
 cases d with
 |tup xs=>
  obtain⟨r,e⟩:=SU (xs:=xs) h;exact⟨r,by rw[e];rfl⟩
 |_=>cases h
theorem TN:∀{xs:Ac D},xs.all (λd=>rkD 1 d && !eqD d (.tup []))=Aa->∃ rs:Ac (Ac Ag),xs=rs.map tI/\∀ r∈rs,r≠[]
 |[],_=>⟨[],rfl,λr h=>by cases h⟩
 |x::xs,h=>by
  rw[EW,An,An]at h;obtain⟨rs,e,hn⟩:=TN h.2;obtain⟨r,e1⟩:=oR h.1.1;refine⟨r::rs,by rw[e,e1];rfl,λq hq=>?_⟩
  rcases AK.mp hq with rfl|hq
  .intro z;have h2:=h.1.2;rw[e1,z]at h2;cases h2
  .exact hn q hq
theorem TQ:∀{rs:Ac (Ac Ag)},(∀ r∈rs,r≠[])->(rs.map tI).all (λd=>rkD 1 d && !eqD d (.tup []))=Aa
 |[],_=>rfl
 |r::rs,h=>by
  rw[CC,EW,An,An];refine⟨⟨?_,?_⟩,TQ λq hq=>h q (AF _ hq)⟩
  .show (r.map D.int).all (rkD 0)=Aa;rw[Br];intro d hd;obtain⟨i,_,rfl⟩:=Bi.mp hd;rfl
  .have e:eqD (tI r) (.tup [])=decide (r=[]):=N8 r [];rw[e];have:=h r (AL ..);simp[this]
noncomputable def IA(x:Ac Ag):Ac (Ac Ag)->Ac (Ac Ag)
 |[]=>[x]
 |y::ys=>if Ck y x=Aa then y::IA x ys else x::y::ys
noncomputable def ET:Ac (Ac Ag)->Ac (Ac Ag)
 |[]=>[]
 |x::xs=>IA x (ET xs)
theorem T6(x:Ac Ag):∀ ys:Ac (Ac Ag),Lk (ltD 1) (tI x) (ys.map tI)=(IA x ys).map tI
 |[]=>rfl
 |y::ys=>by
  have e:Lk (ltD 1) (tI x) ((y::ys).map tI)=if ltD 1 (tI y) (tI x)=Aa then tI y::Lk (ltD 1) (tI x) (ys.map tI) else tI x::tI y::ys.map tI:=rfl
  have e':IA x (y::ys)=if Ck y x=Aa then y::IA x ys else x::y::ys:=rfl
  rw[e,e',kX,T6 x ys];by_cases h:Ck y x=Aa<;>simp[h]
theorem LX:∀ rs:Ac (Ac Ag),JM (ltD 1) (rs.map tI)=(ET rs).map tI
 |[]=>rfl
 |r::rs=>by
  show Lk (ltD 1) (tI r) (JM (ltD 1) (rs.map tI))=(IA r (ET rs)).map tI;rw[LX rs,T6]
theorem Oq(x:Ac Ag):∀ ys:Ac (Ac Ag),(IA x ys).Perm (x::ys)
 |[]=>.refl _
 |y::ys=>by
  show (if Ck y x=Aa then y::IA x ys else x::y::ys).Perm _
  split
  .exact(IG y (Oq x ys)).trans (List.Perm.swap ..)
  .exact .refl _
theorem Jf:∀ rs:Ac (Ac Ag),(ET rs).Perm rs
 |[]=>.refl _
 |r::rs=>(Oq r _).trans (IG r (Jf rs))
theorem T7(x:Ac Ag):∀{ys:Ac (Ac Ag)},x∉ys->ys.Pairwise (λa b=>Ck a b=Aa)->(IA x ys).Pairwise (λa b=>Ck a b=Aa)
 |[],_,_=>List.pairwise_singleton ..
 |y::ys,hx,h=>by
  show (if Ck y x=Aa then y::IA x ys else x::y::ys).Pairwise _
  obtain⟨h1,h2⟩:=Eb.mp h;by_cases g:Ck y x=Aa
  .rw[Ar g];refine Eb.mpr ⟨λz hz=>?_,T7 x (λm=>hx (AF _ m)) h2⟩
   rcases AK.mp ((Oq x ys).mem_iff.mp hz) with rfl|hz
   .exact g
   .exact h1 z hz
  .rw[As g];have g':Ck y x=Af:=by simpa using g
   have xy:Ck x y=Aa:=MN (λe=>hx (by rw[e];exact AL ..)) g'
   refine Eb.mpr ⟨λz hz=>?_,h⟩
   rcases AK.mp hz with rfl|hz
   .exact xy
   .exact MO xy (h1 z hz)
theorem LY:∀{rs:Ac (Ac Ag)},rs.Nodup->(ET rs).Pairwise (λa b=>Ck a b=Aa)
 |[],_=>.nil
 |r::rs,h=>by
  obtain⟨h1,h2⟩:=DE.mp h;exact T7 r (λm=>h1 ((Jf rs).mem_iff.mp m)) (LY h2)
theorem Oj{ys rs:Ac (Ac Ag)}(nd:rs.Nodup)(hs:ys.Pairwise (λa b=>Ck a b=Aa))(hp:ys.Perm rs):ET rs=ys:=by
 refine List.Perm.eq_of_pairwise (le:=λa b=>Ck a b=Aa) (λa b _ _ h1 h2=>?_) (LY nd) hs ((Jf rs).trans hp.symm)
 rw[LW h1]at h2;cases h2
theorem OC{α:Type}[DecidableEq α]:∀{l m:Ac α},l.Nodup->(∀ x∈l,x∈m)->m.length<=l.length->l.Perm m
 |[],m,_,_,hl=>by
  cases m with
  |nil=>exact .refl _
  |cons a m=>simp at hl
 |x::l,m,nd,hs,hl=>by
  obtain⟨h1,h2⟩:=DE.mp nd;have hx:x∈m:=hs x (AL ..);have hp:=List.perm_cons_erase hx;refine(IG x (OC h2 (λy hy=>?_) ?_)).trans hp.symm
  .refine(List.mem_erase_of_ne (λe=>h1 (by rw[<-e];exact hy))).mpr (hs y (AF _ hy))
  .have:=List.length_erase_of_mem hx;simp at hl;omega
theorem Q6{ys:Ac (Ac Ag)}(h:ys.Pairwise (λa b=>Ck a b=Aa)):ys.Nodup:=
 h.imp λ{a b} g e=>by
  subst e;have:=LW g;rw[g]at this;cases this
theorem YN{α:Type}[DecidableEq α]{l m:Ac α}(hl:l.Nodup)(hm:m.Nodup)(h:∀ x,x∈l↔x∈m):l.Perm m:=by
 rw[List.perm_iff_count];intro a;rw[hl.count,hm.count];simp[h]
theorem OQ:∀ rs:Ac (Ac Ag),Lh (rs.map tI)=Aa↔rs.Nodup
 |[]=>by simp[Lh]
 |r::rs=>by
  have e:Lh ((r::rs).map tI)=((rs.map tI).all (λy=>!eqD (tI r) y)&&Lh (rs.map tI)):=rfl
  rw[e,An,OQ rs,List.nodup_cons];refine and_congr ?_ Iff.rfl;rw[FG,Br];constructor
  .intro h m;have:=h r m;simp[To]at this
  .intro h q hq;have:r≠q:=λz=>h (by rw[z];exact hq)
   simp[To,this]
theorem Qp{rs ys:Ac (Ac Ag)}(hn:∀ r∈rs,r≠[])(nd:rs.Nodup)(hz:rs.length<=1000)(hs:ys.Pairwise (λa b=>Ck a b=Aa))(hm:∀ r,r∈ys↔r∈rs):G0 (rs.map tI)=.ok (ys.map tI):=by
 unfold G0;rw[Ar (by rw[TQ hn,(OQ rs).mpr nd,AH,BJ hz];rfl),LX,Oj nd hs (YN (Q6 hs) nd hm)]
theorem Zb{xs:Ac D}{d:Ac D}(h:G0 xs=.ok d):∃ rs:Ac (Ac Ag),xs=rs.map tI/\(∀ r∈rs,r≠[])/\rs.Nodup/\rs.length<=1000/\d=(ET rs).map tI:=by
 unfold G0 at h;split at h
 .next g=>
  rw[An,An,AZ]at g;obtain⟨rs,e,hn⟩:=TN g.1.1;subst e;rw[LX]at h;cases h;exact⟨rs,rfl,hn,(OQ rs).mp g.1.2,by simpa using g.2,rfl⟩
 .cases h
open PySem PySem.Spec PyProof.Rows L2
variable{n:Ae}{p:Au Ae}
section
variable{X:Cx}{CL:ClA}{W:XW}
theorem Rc{K:Fg}{H:Hp}{A:Al->Prop}:∀{is:Ac Ag}{ys:Ac V},Reps K CL H A ys (is.map D.int)->ys=is.map V.int
 |[],[],_=>rfl
 |[],_::_,r=>r.elim
 |_::_,[],r=>r.elim
 |i::is,y::ys,r=>by
  have e1:y=.int i:=r.1;rw[Rc r.2,e1];rfl
theorem RO:∀{is:Ac Ag}{its:Ac Ai},A6 (is.map V.int) its->EX its is
 |[],_,h=>by cases h;exact .nil
 |i::is,_,h=>by
  cases h with
  |cons h1 h2=>
   obtain⟨t,rfl⟩:=h1;exact .cons i t (RO h2)
theorem R9{pins:Pn}{s:Ap}{Z:Ac (Ao V)}{H:Hp}{A:Al->Prop}(I:Inv X pins Z H s):∀{rs:Ac (Ac Ag)}{ys:Ac V}{its:Ac Ai},Reps X.K CL H A ys (rs.map tI)->A6 ys its->(∀ r∈rs,r≠[])->∀(i:Ae)(v:Ai)(r:Ac Ag),its[i]?=Ab v->rs[i]?=Ab r->EF s.heap v r
 |[],_,_,_,_,_,i,v,r,_,e=>by cases e
 |_::_,[],_,h,_,_,_,_,_,_,_=>h.elim
 |q::rs,y::ys,_,h,hv,hn,i,v,r,e1,e2=>by
  cases hv with
  |cons h1 h2=>
   cases i with
   |succ i=>exact R9 I h.2 h2 (λr m=>hn r (AF _ m)) i v r e1 e2
   |zero=>
    cases e1;cases e2;have h0:C3 X.K CL H A y (.tup (q.map D.int)):=.inl h.1;obtain⟨a,xs,rfl,_,sq,rx⟩:=h0.tup_of;obtain⟨its,hi,ht,_⟩:=I.tuple sq;rw[Rc rx]at hi;cases h1;exact⟨a,its.toArray,rfl,ht,RO hi,hn q (AL ..)⟩
theorem Oi{ys:Ac V}{its:Ac Ai}(h:A6 ys its):∀ l:Ac Ae,(∀ i∈l,i<ys.length)->A6 (l.map λi=>ys.getD i .non) (l.map λi=>its.getD i AG)
 |[],_=>.nil
 |i::l,hl=>by
  have hi:i<ys.length:=hl i (AL ..);have e:ys[i]?=Ab ys[i]:=AA hi;obtain⟨u,e2,r⟩:=h.get e;refine .cons ?_ (Oi h l λj hj=>hl j (AF _ hj))
  show BP (ys.getD i .non) (its.getD i AG);rw[A4,A4,e,e2];exact r
theorem SV{K:Fg}{H:Hp}{A:Al->Prop}:∀{ys:Ac V}{ds:Ac D}{i:Ae},Reps K CL H A ys ds->i<ds.length->Rep K CL H A (ys.getD i .non) (ds.getD i .non)
 |[],[],_,_,h=>by cases h
 |[],_::_,_,r,_=>r.elim
 |_::_,[],_,r,_=>r.elim
 |y::ys,d::ds,0,r,_=>r.1
 |y::ys,d::ds,i+1,r,h=>SV (ys:=ys) (ds:=ds) (i:=i) r.2 (Nat.lt_of_succ_lt_succ h)
theorem Ol{K:Fg}{H:Hp}{A:Al->Prop}{ys:Ac V}{ds:Ac D}(h:Reps K CL H A ys ds):∀ l:Ac Ae,(∀ i∈l,i<ds.length)->Reps K CL H A (l.map λi=>ys.getD i .non) (l.map λi=>ds.getD i .non)
 |[],_=>trivial
 |i::l,hl=>⟨SV h (hl i (AL ..)),Ol h l λj hj=>hl j (AF _ hj)⟩
theorem KZ(hp:Pm n p):∀ i∈p.toList,i<n:=λi hi=>by
 obtain⟨j,hj,e⟩:=List.mem_iff_getElem.mp hi;have hj':j<n:=by rw[<-hp.sz];simpa using hj
 have:=hp.lt j hj';unfold at0 at this;rw[Bt,<-BR,AA hj,e]at this;exact this
theorem M5(hp:Pm n p){j:Ae}(hj:j<p.toList.length):at0 p j=p.toList[j]:=by
 unfold at0;rw[Bt,<-BR,AA hj];rfl
theorem QG{rs:Ac (Ac Ag)}(nd:rs.Nodup)(hp:Pm rs.length p)(hs:Ll (ltR rs) p rs.length):p.toList.map (λi=>rs.getD i [])=ET rs:=by
 have hl:p.toList.length=rs.length:=by rw[AQ,hp.sz]
 have pw:(p.toList.map (λi=>rs.getD i [])).Pairwise (λa b=>Ck a b=Aa):=by
  rw[List.pairwise_map,BF];intro i j hi hj hij;have:=hs i j hij (by omega)
  rw[M5 hp hi,M5 hp hj]at this;exact this
 refine(Oj nd pw (OC (Q6 pw) (λx hx=>?_) (by rw[AH,hl];exact Aw _))).symm
 obtain⟨i,hi,rfl⟩:=Bi.mp hx;have:=KZ hp i hi;rw[A4,AA this];exact CU this
theorem aA:Na X CL W (.builtin "sorted") (biD .sorted):=by
  intro A H0 pins s Z H xs us Q I r ⟨s0,hA,ds,rs,p⟩;by_cases hls:∃ es,ds=[.lst es]
  · obtain⟨es,rfl⟩:=hls;obtain⟨v,rfl,rv⟩:=rs.one;obtain⟨q,ys,rfl,sq,ry⟩:=rv.lst_of;have p':Bk (E6 X.K CL Aa H0 A) W H ((G0 es).bind λb=>.ok (.lst b)) Q:=p
    cases hd:G0 es with
    |exn x=>
      unfold G0 at hd;split at hd<;>cases hd
    |bad=>
      rw[hd]at p';exact p'.elim
    |ok d=>
      rw[hd]at p';obtain⟨rs',rfl,hn,nd,h1000,rfl⟩:=Zb hd;obtain⟨u,rfl,rx⟩:=Jk r;cases rx;obtain⟨its,hv,pl,hz⟩:=I.list sq;have l1:ys.length=rs'.length:=by rw[ry.length,AH]
      have l2:ys.length=its.length:=hv.length;refine Y_9 pl.isList (by omega) (R9 I ry hv hn) nd (by omega) λpp hp hs=>?_
      rw[<-l2,l1]at hp hs;have e1:=QG nd hp hs;have rp:=Ol ry pp.toList (λi hi=>by rw[AH];exact KZ hp i hi)
      have e2:(pp.toList.map λi=>(rs'.map tI).getD i .non)=(ET rs').map tI:=by
        rw[<-e1,Bc]
        apply BX
        intro i hi;have:=KZ hp i hi;simp[AA this]
      rw[e2]at rp;have vp:=Oi hv pp.toList (λi hi=>by rw[l1];exact KZ hp i hi)
      obtain⟨c,hat⟩:=sortedAll_at s.heap its (Ib its pp);have hf:=I.hok.fresh (JU s.heap.objs.size);refine⟨.ref (s.heap.objs.size+1),_,I.laid (t':=s.toks) (λb o hb=>sortedAll_old hb) (JU _) (o:=.lst (pp.toList.map λi=>ys.getD i .non)) ?_,rfl,p' _ _ (GJ hf _) (KN s0 hA hf rp)⟩
      refine⟨?_,pp.toList.map λi=>its.getD i AG,c,vp,hat⟩
      rw[AH,AQ,hp.sz,Bz];omega
  · have e:biD .sorted ds=.bad:=by
      match ds with
      |[]=>rfl
      |[x]=>cases x<;>first|rfl|exact absurd ⟨_,rfl⟩ hls
      |x::_::_=>cases x<;>rfl
    rw[e]at p;exact p.elim
end
end Ov
end
section
namespace Ov
open PySem PySem.Spec PyProof.Rows
section
variable{t:En}{hashAt:Ae->Ag}{h:Ag}
noncomputable def stand(i b:Ae):IM:=⟨i,0,i,b,Ad⟩
end
section
variable{prog:AR}{w:AT}{A:AU}{E:Vq}{s:Ap}{K:Type} [DecidableEq K] {knd:KeyKind prog w K}
theorem hbv{ks:Ac Ag}{a:Al}{Q:Aj->Ap->Prop}(hk:Ct (CS prog w) s.heap ks a)(h:Q Aa s):Az (model prog w) A (JY 8 (.ref a)) Q E s:=by
 have hT:=hk.typeIs;obtain⟨o,items,n,ho,_,hd,hi⟩:=hk;unfold JY;refine Ah (Iu hT F.slot_tuple_hash.lookup ?_);dsimp only;refine Ah (Da ho hd ?_);refine Ah ?_;show Az _ _ (forIn items _ _) _ _ s;rw[<-Vf];refine HL _ (λrest r s'=>r.1=Ad/\s'=s/\∃ ks,ItemsAre (CS prog w) ks rest) _ ?_ ?_ _ _ ⟨rfl,rfl,ks,hi⟩
 .rintro v rest r s' ⟨hr,rfl,ks,hall⟩;cases hall with
  | @cons k _ ks' _ h1 h2=>
   cases v with
   |int i t=>
    unfold JY;refine Ah (At ?_);simp only[Bool.not_true,G4,Mr];exact At ⟨rfl,rfl,ks',h2⟩
   |_=>exact absurd (show Af=Aa from h1) AE
 .rintro⟨r1,r2⟩ s' ⟨hr,rfl,_⟩;simp only at hr;subst hr;exact At h
end
section
variable{prog:AR}{w:AT}{A:AU}{R:IL->Ap->Prop}{I:Al}{fp wr:Ac Al}{G:Au EM->Au EM->Prop}{n:Ae}{P:Ae->Ai->Prop}{St:Ae->Ap->Prop}
theorem Po{h h':AM}{k:Ac Ag}{b:Al}(x:Ct (CS prog w) h k b)(e:∀ o,h.get? b=Ab o->h'.get? b=Ab o):Ct (CS prog w) h' k b:=by
 obtain⟨o,items,n,ho,r⟩:=x;exact⟨o,items,n,e o ho,r⟩
end
section
variable{prog:AR}{w:AT}{A:AU}{E:Vq}{s:Ap}
end
end Ov
end
namespace Ov
open PySem
variable{m r T j k:Ae}{e:Ag×Ai}{h:Ag}{owner:Au (Ao Ae)}
def Mk(m:Ae):Prop:=m=7\/m=31\/m=127\/m=511
noncomputable def wI(m:Ae)(h:Ag):Ae->Ae×Ae
 |0=>(C4 h%(m+1),C4 h)
 |T+1=>SetTable.leap m (wI m h T).1 (wI m h T).2
noncomputable def pI(m:Ae)(h:Ag)(T:Ae):Ae:=(wI m h T).1
noncomputable def mo(m i:Ae):Ae:=FE m i-i
theorem HY(m:Ae)(h:Ag)(T:Ae):pI m h T<=m:=by
 unfold pI;cases T with
 |zero=>exact Dd (Ks _ (Wb m))
 |succ T=>exact Dd (Ks _ (Wb m))
theorem Ut(m i:Ae):mo m i<=9:=by
 unfold mo FE;split<;>omega
theorem Iy{i:Ae}(hi:i<=m)(hr:r<=mo m i):i+r<=m:=by
 unfold mo FE at hr;split at hr<;>omega
theorem U_0(m:Ae)(h:Ag):∀ T,(wI m h T).2=C4 h/32 ^ T
 |0=>by simp[wI]
 |T+1=>by
  show (wI m h T).2/32=_;rw[U_0 m h T,V4,Nat.pow_succ]
theorem iA(h:Ag):C4 h<2 ^ 64:=by
 unfold C4;have h0:=DB h (show (2 ^ 64:Ag)≠0 by decide)
 have h1:=Du h (show (0:Ag)<2 ^ 64 by decide)
 omega
noncomputable def itf(M:Ae):Ae->Ae->Ae
 |0,x=>x
 |s+1,x=>itf M s ((x*5+1)%M)
theorem L3(M:Ae):∀(a b x:Ae),itf M (a+b) x=itf M b (itf M a x)
 |0,b,x=>by rw[DF];rfl
 |a+1,b,x=>by
  rw[show a+1+b=(a+b)+1 by omega]
  exact L3 M a b _
noncomputable def vis(M:Ae):Ae->Ae->Ae->Ae
 |0,_,acc=>acc
 |f+1,x,acc=>vis M f ((x*5+1)%M) (acc ||| 1 <<< x)
theorem Sn(M:Ae):∀(f x acc b:Ae),(vis M f x acc).testBit b=Aa->acc.testBit b=Aa\/∃ s,s<f/\itf M s x=b
 |0,_,_,_,h=>.inl h
 |f+1,x,acc,b,h=>by
  rcases Sn M f _ _ b h with q|⟨s,hs,e⟩
  .rw[Nat.testBit_or,CM]at q;rcases q with q|q
   .exact .inl q
   .refine .inr ⟨0,by omega,?_⟩
    rw[Nat.one_shiftLeft,Nat.testBit_two_pow,AZ]at q;exact q
  .exact .inr ⟨s+1,by omega,e⟩
theorem mJ(hm:Mk m):(∀ b,b<=m->∃ s,s<m+1/\itf (m+1) s 0=b)/\itf (m+1) (m+1) 0=0:=by
 have key:∀ M:Ae,vis M M 0 0=2 ^ M-1->∀ b,b<M->∃ s,s<M/\itf M s 0=b:=λM h b hb=>by
  have t:(vis M M 0 0).testBit b=Aa:=by
   rw[h,Nat.testBit_two_pow_sub_one];exact BJ hb
  rcases Sn M M 0 0 b t with q|q
  .simp at q
  .exact q
 rcases hm with rfl|rfl|rfl|rfl
 .exact⟨λb hb=>key 8 (by decide+kernel) b (by omega),by decide+kernel⟩
 .exact⟨λb hb=>key 32 (by decide+kernel) b (by omega),by decide+kernel⟩
 .exact⟨λb hb=>key 128 (by decide+kernel) b (by omega),by decide+kernel⟩
 .exact⟨λb hb=>key 512 (by decide+kernel) b (by omega),by decide+kernel⟩
theorem rY(hm:Mk m){a b:Ae}(ha:a<=m)(hb:b<=m):∃ s,s<=m/\itf (m+1) s a=b:=by
 obtain⟨c,z⟩:=mJ hm;obtain⟨sa,la,rfl⟩:=c a ha;obtain⟨sb,lb,rfl⟩:=c b hb;by_cases h:sa<=sb
 .refine⟨sb-sa,by omega,?_⟩
  rw[<-L3,show sa+(sb-sa)=sb by omega]
 .refine⟨m+1-sa+sb,by omega,?_⟩
  rw[L3,<-L3 _ sa (m+1-sa),show sa+(m+1-sa)=m+1 by omega,z]
theorem Uy{m:Ae}(h:Ag):∀ s,pI m h (13+s)=itf (m+1) s (pI m h 13)
  |0=>rfl
  |s+1=>by
    have ih:=Uy (m:=m) h s;have e:pI m h (13+(s+1))=(pI m h (13+s)*5+1+(wI m h (13+s)).2/32)%(m+1):=rfl;have z:(wI m h (13+s)).2/32=0:=by
      rw[U_0,V4];refine Nat.div_eq_of_lt (AS (iA h) ?_)
      calc 2 ^ 64<=32 ^ 13*32:=by decide
        _<=32 ^ (13+s)*32:=Nat.mul_le_mul_right _ (Wa (by decide) (by omega))
    rw[e,z,GB,ih,show s+1=s+1 from rfl,L3 _ s 1]
    rfl
theorem every(hm:Mk m)(h:Ag){e:Ae}(he:e<=m):∃ T,T<m+15/\pI m h T=e:=by
 obtain⟨s,hs,q⟩:=rY hm (HY m h 13) he;exact⟨13+s,by omega,by rw[Uy,q]⟩
theorem Uv{P:Ae->Prop}:∀ n,P n->∃ k,k<=n/\P k/\∀ j,j<k->¬ P j:=by
 intro n
 induction n using Nat.strongRecOn with
 |ind n ih=>
  intro h;by_cases q:∃ j,j<n/\P j
  .obtain⟨j,hj,pj⟩:=q;obtain⟨k,a,b,c⟩:=ih j hj pj;exact⟨k,by omega,b,c⟩
  .exact⟨n,Aw _,h,λj hj pj=>q ⟨j,hj,pj⟩⟩
structure Stop (m:Ae) (h:Ag) (S:Ae->Aj) (T r:Ae):Prop where
 lt:T<m+15
 le:r<=mo m (pI m h T)
 at_:S (pI m h T+r)=Aa
 ear:∀ T',T'<T->∀ r',r'<=mo m (pI m h T')->S (pI m h T'+r')=Af
 run:∀ r',r'<r->S (pI m h T+r')=Af
theorem NT(hm:Mk m)(h:Ag)(S:Ae->Aj){e:Ae}(he:e<=m)(hs:S e=Aa):∃ T r,Stop m h S T r:=by
 obtain⟨T0,l0,q0⟩:=every hm h he;obtain⟨T,lT,⟨r0,lr0,sr0⟩,mT⟩:=Uv (P:=λT=>∃ r,r<=mo m (pI m h T)/\S (pI m h T+r)=Aa) T0 ⟨0,BD _,by rw[q0];exact hs⟩
 obtain⟨r,lr,sr,mr⟩:=Uv (P:=λr=>S (pI m h T+r)=Aa) r0 sr0
 refine⟨T,r,by omega,by omega,sr,λT' lT' r' lr'=>?_,λr' lr'=>?_⟩
 .cases q:S (pI m h T'+r') with
  |false=>rfl
  |true=>exact absurd ⟨r',lr',q⟩ (mT T' lT')
 .cases q:S (pI m h T+r') with
  |false=>rfl
  |true=>exact absurd q (mr r' lr')
section
variable{t:En}{hashAt:Ae->Ag}{h:Ag}{m:Ae}
noncomputable def prT(m:Ae)(h:Ag)(T r:Ae):IM:=⟨pI m h T+r,mo m (pI m h T)-r,pI m h T,(wI m h T).2,Ad⟩
theorem iG(hm:t.mask=m)(hr:r<mo m (pI m h T)):t.advance (prT m h T r)=prT m h T (r+1):=by
 unfold Xp prT;dsimp only;rw[Ar (by omega)]
 congr 1
theorem aE(hm:t.mask=m)(hr:r=mo m (pI m h T)):t.advance (prT m h T r)=prT m h (T+1) 0:=by
 subst hm;unfold Xp prT;dsimp only;rw[As (by omega)]
 rfl
def Pass(t:En)(hashAt:Ae->Ag)(h:Ag)(j:Ae):Prop:=∃ i,t.slot j=.live i/\(hashAt i==h)=Af
theorem SR{p:IM}(hp:Pass t hashAt h p.j)(f:Ae):B5 t hashAt h (f+1) p=B5 t hashAt h f (t.advance p):=by
 obtain⟨i,e,q⟩:=hp;rw[B5];rw[e];dsimp only;rw[q];rfl
theorem Pa(hm:t.mask=m){T:Ae}:∀ r,r<=mo m (pI m h T)->(∀ r',r'<r->Pass t hashAt h (pI m h T+r'))->∀ f,B5 t hashAt h (f+r) (prT m h T 0)=B5 t hashAt h f (prT m h T r)
 |0,_,_,f=>rfl
 |r+1,hr,hp,f=>by
  have ih:=Pa hm r (by omega) (λr' h'=>hp r' (by omega)) (f+1)
  rw[show f+(r+1)=f+1+r by omega,ih,SR (p:=prT m h T r) (hp r (by omega)),iG hm (by omega)]
theorem fO(hm:t.mask=m)(hp:∀ r',r'<=mo m (pI m h T)->Pass t hashAt h (pI m h T+r'))(f:Ae):B5 t hashAt h (f+(mo m (pI m h T)+1)) (prT m h T 0)=B5 t hashAt h f (prT m h (T+1) 0):=by
 have e:=Pa hm (mo m (pI m h T)) (Aw _) (λr' h'=>hp r' (by omega)) (f+1)
 rw[show f+(mo m (pI m h T)+1)=f+1+mo m (pI m h T) by omega,e,SR (p:=prT m h T (mo m (pI m h T))) (hp _ (Aw _)),aE hm rfl]
theorem RU(hm:t.mask=m):∀ T,(∀ T',T'<T->∀ r',r'<=mo m (pI m h T')->Pass t hashAt h (pI m h T'+r'))->∃ c,c<=10*T/\∀ f,B5 t hashAt h (f+c) (prT m h 0 0)=B5 t hashAt h f (prT m h T 0)
 |0,_=>⟨0,Aw _,λ_=>rfl⟩
 |T+1,hp=>by
  obtain⟨c,lc,ec⟩:=RU hm T λT' h'=>hp T' (by omega)
  have l9:=Ut m (pI m h T);refine⟨mo m (pI m h T)+1+c,by omega,λf=>?_⟩
  rw[show f+(mo m (pI m h T)+1+c)=f+(mo m (pI m h T)+1)+c by omega,ec,fO hm (hp T (by omega))]
theorem Sd(hm:t.mask=m)(lt:T<m+15)(le:r<=mo m (pI m h T))(ear:∀ T',T'<T->∀ r',r'<=mo m (pI m h T')->Pass t hashAt h (pI m h T'+r'))(run:∀ r',r'<r->Pass t hashAt h (pI m h T+r')):∃ f,t.probe hashAt h (t.probeStart h)=B5 t hashAt h (f+1) (prT m h T r):=by
 obtain⟨c,lc,ec⟩:=RU hm T ear;have l9:=Ut m (pI m h T);have hl:c+r+1<=10*(m+15):=by omega
 refine⟨10*(m+15)-(c+r+1),?_⟩;have st:t.probeStart h=prT m h 0 0:=by
  subst hm;rfl
 unfold SetTable.probe Fd;rw[st,hm,show 10*(m+15)=10*(m+15)-(c+r+1)+1+r+c by omega,ec,Pa hm r le run]
 congr 1
 omega
end
abbrev Own:=Ae->Ao (Ag×Ai)
noncomputable def plc(m:Ae)(own:Own):Ac Ae:=(AB (m+1)).filter λj=>(own j).isSome
noncomputable def ent(m:Ae)(own:Own):Ac (Ag×Ai):=(AB (m+1)).filterMap own
noncomputable def cnt(own:Own)(j:Ae):Ae:=((AB j).filter λj=>(own j).isSome).length
theorem QD(h:j<=m):AB (m+1)=AB j++j::(EH (j+1) (m-j)):=by
 have e:AB (m+1)=AB j++EH j (m+1-j):=by
  have q:=List.range'_append_1 (s:=0) (m:=j) (n:=m+1-j);rw[DF,show j+(m+1-j)=m+1 by omega]at q
  rw[GA,GA,q]
 rw[e,show m+1-j=(m-j)+1 by omega,List.range'_succ]
theorem KQ(own:Own)(h:j<=m):plc m own=((AB j).filter λj=>(own j).isSome)++((if (own j).isSome then [j] else [])++((EH (j+1) (m-j)).filter λj=>(own j).isSome)):=by
 unfold plc;rw[QD h,VF,CT]
 congr 1
 split<;>rfl
theorem K6(own:Own):∀ l:Ac Ae,(l.filterMap own).length=(l.filter λj=>(own j).isSome).length
 |[]=>rfl
 |x::l=>by
  rw[BW,CT];cases own x with
  |none=>exact K6 own l
  |some e=>simp[K6 own l]
theorem Oa(own:Own)(h:j<=m):ent m own=((AB j).filterMap own)++((own j).toList++((EH (j+1) (m-j)).filterMap own)):=by
 unfold ent;rw[QD h,List.filterMap_append,BW]
 congr 1
 cases own j<;>rfl
theorem kW{own:Own}{x:Ae}(h:x∈(AB j).filter λj=>(own j).isSome):x<j:=BA.mp (DD.mp h).1
theorem TX{own:Own}{x:Ae}(h:x∈(EH (j+1) k).filter λj=>(own j).isSome):j<x:=by
 have:=(DD.mp h).1;rw[Hv]at this;omega
theorem OA{xs:Au Ae}{j n:Ae}(lo_:∀ i,i<n->xs.getD i j<j)(hi_:∀ i,n<=i->¬ xs.getD i j<j):∀ f lo hi,lo<=n->n<=hi->hi-lo<=f->Xq xs j f lo hi=n
 |0,lo,hi,h1,h2,h3=>by
  show lo=n;omega
 |f+1,lo,hi,h1,h2,h3=>by
  rw[Xq];by_cases c:lo<hi
  .rw[Ar c];dsimp only;by_cases d:xs.getD ((lo+hi)/2) j<j
   .rw[Ar d];have:¬ n<=(lo+hi)/2:=λz=>hi_ _ z d
    exact OA lo_ hi_ f _ _ (by omega) h2 (by omega)
   .rw[As d];have:¬ (lo+hi)/2<n:=λz=>d (lo_ _ z)
    exact OA lo_ hi_ f _ _ h1 (by omega) (by omega)
  .rw[As c];omega
theorem Oz{A B:Ac Ae}(hA:∀ x∈A,x<j)(hB:∀ x∈B,¬ x<j):Dx (A++B).toArray j=A.length:=by
 have g:∀ i,(A++B).toArray.getD i j=((A++B)[i]?).getD j:=λi=>by
  rw[Bt,Eh]
 unfold Dx;refine OA (λi hi=>?_) (λi hi=>?_) _ _ _ (BD _) (by simp) (by simp)
 .rw[g,CN hi,AA hi];exact hA _ (CU _)
 .rw[g,Bv hi];cases q:B[i-A.length]? with
  |none=>exact Bb j
  |some x=>exact hB x (Ey q)
theorem QW(own:Own)(h:j<=m):Dx (plc m own).toArray j=cnt own j:=by
 rw[KQ own h];refine Oz (λx hx=>kW hx) (λx hx=>?_)
 rcases DC.mp hx with hx|hx
 .split at hx
  .rw[A5.mp hx];exact Bb _
  .cases hx
 .have:=TX hx;omega
structure Lnk (t:En) (es:Au (Ag×Ai)) (m:Ae) (own:Own):Prop where
 mask:t.mask=m
 dum:t.dummies=#[]
 pl:t.place=(plc m own).toArray
 en:es=(ent m own).toArray
section
variable{t:En}{es:Au (Ag×Ai)}{m:Ae}{own:Own}
theorem Lnk.slot(L:Lnk t es m own){j:Ae}(h:j<=m):t.slot j=if (own j).isSome=Aa then .live (cnt own j) else .empty:=by
 unfold SetTable.slot JB;rw[L.pl,L.dum,QW own h];dsimp only;have e:(plc m own).toArray[cnt own j]?=(if (own j).isSome=Aa then Ab j else ((EH (j+1) (m-j)).filter λj=>(own j).isSome)[0]?):=by
  rw[Eh,KQ own h,Bv (show _<=cnt own j from Aw _)]
  show (_:Ac Ae)[cnt own j-cnt own j]?=_;rw[Jx];split<;>rfl
 rw[e];by_cases c:(own j).isSome=Aa
 .rw[Ar c,Ar c,Ar (by simp)]
 .rw[As c,As c];rw[As,As (by simp)]
  intro z;have z':=eq_of_beq z;exact Bb j (TX (Ey z'))
theorem Lnk.entry(L:Lnk t es m own)(h:j<=m)(q:own j=Ab e):es[cnt own j]?=Ab e:=by
 rw[L.en,Eh,Oa own h,Bv (by rw[K6];exact Aw _),K6]
 show (_:Ac (Ag×Ai))[cnt own j-cnt own j]?=_;rw[Jx,q];rfl
theorem Lnk.size(L:Lnk t es m own):es.size=(plc m own).length:=by
 rw[L.en,AN];exact K6 own _
theorem Lnk.mem(L:Lnk t es m own):e∈es↔∃ j,j<=m/\own j=Ab e:=by
 rw[L.en,List.mem_toArray];unfold ent;rw[VT];constructor
 .rintro⟨j,h1,h2⟩;exact⟨j,Dd (BA.mp h1),h2⟩
 .rintro⟨j,h1,h2⟩;exact⟨j,BA.mpr (by omega),h2⟩
end
noncomputable def FK(own:Own)(j:Ae)(e:Ag×Ai):Own:=λk=>if k=j then Ab e else own k
theorem Jd{own:Own}:FK own j e j=Ab e:=Ar rfl
theorem GZ{own:Own}(h:k≠j):FK own j e k=own k:=As h
theorem RQ{α:Type}(A B:Ac α)(x:α):CF (A++B).toArray A.length x=(A++x::B).toArray:=by
 unfold CF
 apply Kr
 simp[B7,List.take_append,List.drop_append]
theorem LH{own own':Own}:∀ l:Ac Ae,(∀ k∈l,own k=own' k)->(l.filter λj=>(own j).isSome)=l.filter λj=>(own' j).isSome
 |[],_=>rfl
 |x::l,h=>by
  rw[CT,CT,h x (by simp),LH l λk hk=>h k (by simp[hk])]
theorem N7{own own':Own}:∀ l:Ac Ae,(∀ k∈l,own k=own' k)->l.filterMap own=l.filterMap own'
 |[],_=>rfl
 |x::l,h=>by
  rw[BW,BW,h x (by simp),N7 l λk hk=>h k (by simp[hk])]
section
variable{t:En}{es:Au (Ag×Ai)}{m:Ae}{own:Own}
theorem Lnk.put(L:Lnk t es m own){j:Ae}(h:j<=m)(hn:own j=Ad)(e:Ag×Ai):Lnk (t.put j).1 (CF es (t.put j).2 e) m (FK own j e)/\(t.put j).1.moves=t.moves/\(t.put j).1.led=t.led/\(t.put j).1.plain=t.plain:=by
 have p2:(t.put j).2=cnt own j:=by
  show Dx t.place j=_;rw[L.pl,QW own h]
 have lo:∀ k∈AB j,own k=FK own j e k:=λk hk=>(GZ (AV (BA.mp hk))).symm
 have hi:∀ k∈EH (j+1) (m-j),own k=FK own j e k:=λk hk=>by
  rw[Hv]at hk;exact(GZ (by omega)).symm
 refine⟨⟨L.mask,?_,?_,?_⟩,rfl,rfl,rfl⟩
 .show (if JB t.dummies j=Aa then SetTable.eraseAt t.dummies (Dx t.dummies j) else t.dummies)=#[]
  rw[L.dum,As (by unfold JB;simp)]
 .show CF t.place (t.put j).2 j=_;rw[p2,L.pl,KQ own h,KQ (FK own j e) h,hn,Jd];show CF (_++([]++_)).toArray _ j=(_++([j]++_)).toArray;rw[VV,<-LH _ lo,<-LH _ hi];exact RQ _ _ j
 .rw[p2,L.en,Oa own h,Oa (FK own j e) h,hn,Jd,<-N7 _ lo,<-N7 _ hi];have:=RQ ((AB j).filterMap own) ((EH (j+1) (m-j)).filterMap own) e;rw[K6]at this;exact this
end
def Rch(occ:Ae->Aj)(m:Ae)(h:Ag)(j:Ae):Prop:=∃ T r,T<m+15/\r<=mo m (pI m h T)/\j=pI m h T+r/\(∀ T',T'<T->∀ r',r'<=mo m (pI m h T')->occ (pI m h T'+r')=Aa)/\∀ r',r'<r->occ (pI m h T+r')=Aa
theorem Rch.mono{occ occ':Ae->Aj}(x:Rch occ m h j)(k:∀ i,occ i=Aa->occ' i=Aa):Rch occ' m h j:=by
 obtain⟨T,r,a,b,c,d,e⟩:=x;exact⟨T,r,a,b,c,λT' h1 r' h2=>k _ (d T' h1 r' h2),λr' h1=>k _ (e r' h1)⟩
noncomputable def occ(own:Own):Ae->Aj:=λj=>(own j).isSome
structure WF (m:Ae) (own:Own):Prop where
 km:Mk m
 rng:∀ j e,own j=Ab e->j<=m
 rch:∀ j e,own j=Ab e->Rch (occ own) m e.1 j
 inj:∀ j j' e e',own j=Ab e->own j'=Ab e'->e.1=e'.1->j=j'
noncomputable def hAt(es:Au (Ag×Ai))(i:Ae):Ag:=(es[i]?.map (·.1)).getD 0
section
variable{t:En}{es:Au (Ag×Ai)}{m:Ae}{own:Own}{h:Ag}
theorem Lnk.pass(L:Lnk t es m own)(hj:j<=m)(q:own j=Ab e)(ne:e.1≠h):Pass t (hAt es) h j:=by
 refine⟨cnt own j,?_,?_⟩
 .rw[L.slot hj,q];rfl
 .unfold hAt;rw[L.entry hj q];exact ER.mpr ne
theorem Zc(L:Lnk t es m own)(W:WF m own){j0:Ae}(q:own j0=Ab e):∃ nx,t.probe (hAt es) e.1 (t.probeStart e.1)=Ab (.candidate j0 (cnt own j0) nx):=by
  obtain⟨T0,r0,a,b,c,d,f⟩:=W.rch j0 e q;have hj0:=W.rng j0 e q
  let S:Ae->Aj:=λj=>match own j with
    |none=>Aa
    |some e'=>e'.1==e.1
  have S0:S j0=Aa:=by
    show (match own j0 with|none=>Aa|some e'=>e'.1==e.1)=Aa
    rw[q];exact CA _
  obtain⟨T,r,st⟩:=NT W.km e.1 S hj0 S0;have hT:T<=T0:=Nat.le_of_not_lt λz=>by
    have:=st.ear T0 z r0 b;rw[<-c,S0]at this;cases this
  have hin:pI m e.1 T+r<=m:=Iy (HY _ _ _) st.le;have key:pI m e.1 T+r=j0:=by
    have at_:=st.at_;cases o:own (pI m e.1 T+r) with
    |some e'=>
      have z:(e'.1==e.1)=Aa:=by
        have:S (pI m e.1 T+r)=(e'.1==e.1):=by
          show (match own (pI m e.1 T+r) with|none=>Aa|some e'=>e'.1==e.1)=_
          rw[o]
        rw[<-this];exact at_
      exact W.inj _ _ _ _ o q (eq_of_beq z)
    |none=>
      exfalso
      rcases Ec hT with lt|eq
      · have:=d T lt r st.le;unfold occ at this;rw[o]at this;cases this
      · subst eq;rcases FW r r0 with lt|eq|gt
        · have:=f r lt;unfold occ at this;rw[o]at this;cases this
        · subst eq;rw[<-c,q]at o;cases o
        · have:=st.run r0 gt;rw[<-c,S0]at this;cases this
  have pass:∀ j,j<=m->S j=Af->Pass t (hAt es) e.1 j:=λj hj z=>by
    cases o:own j with
    |none=>
      have:S j=Aa:=by
        show (match own j with|none=>Aa|some e'=>e'.1==e.1)=Aa
        rw[o]
      rw[this]at z;cases z
    |some e'=>
      refine L.pass hj o λy=>?_
      have:S j=Aa:=by
        show (match own j with|none=>Aa|some e'=>e'.1==e.1)=Aa
        rw[o];exact BC.mpr y
      rw[this]at z;cases z
  obtain⟨g,eg⟩:=Sd (h:=e.1) L.mask st.lt st.le (λT' h1 r' h2=>pass _ (Iy (HY _ _ _) h2) (st.ear T' h1 r' h2)) λr' h1=>pass _ (Iy (HY _ _ _) (by have:=st.le;omega)) (st.run r' h1)
  rw[eg];refine⟨t.advance (prT m e.1 T r),?_⟩;have sl:t.slot j0=.live (cnt own j0):=by rw[L.slot hj0,q];rfl
  have hh:hAt es (cnt own j0)=e.1:=by unfold hAt;rw[L.entry hj0 q];rfl
  rw[B5,show (prT m e.1 T r).j=pI m e.1 T+r from rfl,key,sl]
  show (if (hAt es (cnt own j0)==e.1)=Aa then _ else _)=_
  rw[hh,Ar (CA _)]
theorem YG(L:Lnk t es m own)(hm:Mk m)(no:∀ j e,own j=Ab e->e.1≠h){z:Ae}(hz:z<=m)(oz:own z=Ad):∃ j,j<=m/\own j=Ad/\Rch (occ own) m h j/\t.probe (hAt es) h (t.probeStart h)=Ab (.empty j Ad):=by
 obtain⟨T,r,st⟩:=NT hm h (λj=>(own j).isNone) hz (by rw[oz];rfl)
 have at_:own (pI m h T+r)=Ad:=Option.isNone_iff_eq_none.mp st.at_;have oc:∀ j,(own j).isNone=Af->occ own j=Aa:=λj q=>by
  unfold occ;cases o:own j with
  |none=>rw[o]at q;cases q
  |some=>rfl
 have pass:∀ j,j<=m->(own j).isNone=Af->Pass t (hAt es) h j:=λj hj q=>by
  cases o:own j with
  |none=>rw[o]at q;cases q
  |some e=>exact L.pass hj o (no j e o)
 refine⟨pI m h T+r,Iy (HY _ _ _) st.le,at_,⟨T,r,st.lt,st.le,rfl,λT' h1 r' h2=>oc _ (st.ear T' h1 r' h2),λr' h1=>oc _ (st.run r' h1)⟩,?_⟩
 obtain⟨g,eg⟩:=Sd L.mask st.lt st.le (λT' h1 r' h2=>pass _ (Iy (HY _ _ _) h2) (st.ear T' h1 r' h2)) λr' h1=>pass _ (Iy (HY _ _ _) (by have:=st.le;omega)) (st.run r' h1)
 rw[eg,B5,show (prT m h T r).j=pI m h T+r from rfl,L.slot (Iy (HY _ _ _) st.le),at_]
 rfl
end
theorem QN{occ:Ae->Aj}(h:((AB (m+1)).filter λj=>occ j).length<=m):∃ z,z<=m/\occ z=Af:=by
 by_cases q:∃ z,z<=m/\occ z=Af
 .exact q
 .exfalso
  have all:∀ j∈AB (m+1),occ j=Aa:=λj hj=>by
   cases o:occ j with
   |true=>rfl
   |false=>exact absurd ⟨j,Dd (BA.mp hj),o⟩ q
  rw[List.filter_eq_self.mpr all,DP]at h;omega
theorem WF.put{own:Own}(W:WF m own)(hj:j<=m)(hn:own j=Ad)(r:Rch (occ own) m e.1 j)(no:∀ j e',own j=Ab e'->e'.1≠e.1):WF m (FK own j e):=by
 have mo':∀ i,occ own i=Aa->occ (FK own j e) i=Aa:=λi q=>by
  unfold occ at *;by_cases z:i=j
  .rw[z,Jd];rfl
  .rw[GZ z];exact q
 refine⟨W.km,λk x q=>?_,λk x q=>?_,λk k' x x' q q' z=>?_⟩
 .by_cases y:k=j
  .rw[y];exact hj
  .rw[GZ y]at q;exact W.rng k x q
 .by_cases y:k=j
  .rw[y,Jd]at q;cases q;rw[y];exact r.mono mo'
  .rw[GZ y]at q;exact(W.rch k x q).mono mo'
 .by_cases y:k=j
  .by_cases y':k'=j
   .rw[y,y']
   .rw[y,Jd]at q;cases q;rw[GZ y']at q';exact absurd z.symm (no k' x' q')
  .by_cases y':k'=j
   .rw[y',Jd]at q';cases q';rw[GZ y]at q;exact absurd z (no k x q)
   .rw[GZ y]at q;rw[GZ y']at q';exact W.inj k k' x x' q q' z
theorem SX{own:Own}(hj:j<=m)(hn:own j=Ad):(plc m (FK own j e)).length=(plc m own).length+1:=by
 have lo:∀ k∈AB j,own k=FK own j e k:=λk hk=>(GZ (AV (BA.mp hk))).symm
 have hi:∀ k∈EH (j+1) (m-j),own k=FK own j e k:=λk hk=>by
  rw[Hv]at hk;exact(GZ (by omega)).symm
 rw[KQ own hj,KQ (FK own j e) hj,hn,Jd,<-LH _ lo,<-LH _ hi];simp only[Bp];show _+(1+_)=_+(0+_)+1;omega
noncomputable def oc(owner:Au (Ao Ae))(j:Ae):Ao Ae:=owner.getD j Ad
structure LC (m:Ae) (hs:Ac Ag) (owner:Au (Ao Ae)) (k:Ae):Prop where
 sz:owner.size=m+1
 lt:∀ j k',oc owner j=Ab k'->k'<k/\j<=m
 rc:∀ j k' h,oc owner j=Ab k'->hs[k']?=Ab h->Rch (λj=>(oc owner j).isSome) m h j
 on:∀ k',k'<k->∃ j,j<=m/\oc owner j=Ab k'
 nj:∀ j j' k',oc owner j=Ab k'->oc owner j'=Ab k'->j=j'
 ct:((AB (m+1)).filter λj=>(oc owner j).isSome).length=k
theorem Kf{i:Ae}{x:Ao Ae}(hj:j<owner.size):oc (owner.setIfInBounds j x) i=if i=j then x else oc owner i:=by
 unfold oc;rw[Bt,Bt,Array.getElem?_setIfInBounds];by_cases z:i=j
 .subst z;rw[Ar rfl,Ar rfl,Ar hj];rfl
 .rw[As (DQ z),As z]
theorem Sw{m:Ae}{h:Ag}{owner:Au (Ao Ae)}{T r:Ae}(st:Stop m h (λj=>(owner.getD j (Ab 0)).isNone) T r):∀ f T0,T0<=T->T-T0<f->D9 m owner f (pI m h T0) (wI m h T0).2=Ab (pI m h T+r)
 |0,T0,_,h2=>by omega
 |f+1,T0,h1,h2=>by
  rw[D9];have e:FE m (pI m h T0)+1-pI m h T0=mo m (pI m h T0)+1:=by
   unfold mo FE;split<;>omega
  rw[e];rcases Ec h1 with lt|eq
  .have fn:(AB (mo m (pI m h T0)+1)).find? (λk=>(owner.getD (pI m h T0+k) (Ab 0)).isNone)=Ad:=by
    rw[List.find?_eq_none];intro k hk;have:=st.ear T0 lt k (Dd (BA.mp hk));rw[this];exact AE
   rw[fn];exact Sw st f (T0+1) lt (by omega)
  .subst eq;have fs:(AB (mo m (pI m h T0)+1)).find? (λk=>(owner.getD (pI m h T0+k) (Ab 0)).isNone)=Ab r:=by
    rw[List.find?_range_eq_some];refine⟨st.at_,BA.mpr (V6 st.le),λk hk=>?_⟩
    have:=st.run k hk;rw[this];rfl
   rw[fs]
theorem fE{hs:Ac Ag}(hm:Mk m)(x:LC m hs owner k)(hk:k<=m)(eh:hs[k]?=Ab h):∃ j,D9 m owner (Fd m) (C4 h%(m+1)) (C4 h)=Ab j/\LC m hs (owner.setIfInBounds j (Ab k)) (k+1):=by
 obtain⟨z,hz,oz⟩:=QN (occ:=λj=>(oc owner j).isSome) (m:=m) (by rw[x.ct];exact hk)
 have sm:∀ j,j<=m->(owner.getD j (Ab 0)).isNone=!(oc owner j).isSome:=λj hj=>by
  unfold oc;rw[Bt,Bt,BE (by rw[x.sz];omega)]
  cases owner[j]'(by rw[x.sz];omega)<;>rfl
 obtain⟨T,r,st⟩:=NT hm h (λj=>(owner.getD j (Ab 0)).isNone) hz (by rw[sm z hz];rw[oz];rfl)
 have hj:pI m h T+r<=m:=Iy (HY _ _ _) st.le;have oj:oc owner (pI m h T+r)=Ad:=by
  have:=st.at_;rw[sm _ hj]at this;cases o:oc owner (pI m h T+r) with
  |none=>rfl
  |some=>rw[o]at this;cases this
 have hs':pI m h T+r<owner.size:=by rw[x.sz];omega
 have occ':∀ j,j<=m->(owner.getD j (Ab 0)).isNone=Af->(oc owner j).isSome=Aa:=λj h1 h2=>by
  rw[sm j h1]at h2;cases q:(oc owner j).isSome with
  |true=>rfl
  |false=>rw[q]at h2;cases h2
 have rj:Rch (λj=>(oc owner j).isSome) m h (pI m h T+r):=⟨T,r,st.lt,st.le,rfl,λT' h1 r' h2=>occ' _ (Iy (HY _ _ _) h2) (st.ear T' h1 r' h2),λr' h1=>occ' _ (Iy (HY _ _ _) (by have:=st.le;omega)) (st.run r' h1)⟩
 refine⟨pI m h T+r,Sw st (Fd m) 0 (BD _) (by have:=st.lt;unfold Fd;omega),?_⟩
 have mono:∀ i,(oc owner i).isSome=Aa->(oc (owner.setIfInBounds (pI m h T+r) (Ab k)) i).isSome=Aa:=λi q=>by
  rw[Kf hs'];split
  .rfl
  .exact q
 refine⟨by rw[Vk];exact x.sz,λj k' q=>?_,λj k' h' q e=>?_,λk' q=>?_,λj j' k' q q'=>?_,?_⟩
 .rw[Kf hs']at q;split at q
  .rename_i z;cases q;rw[z];exact⟨Fl _,hj⟩
  .exact⟨Bs (x.lt j k' q).1,(x.lt j k' q).2⟩
 .rw[Kf hs']at q;split at q
  .rename_i z;cases q;rw[eh]at e;cases e;rw[z];exact rj.mono mono
  .exact(x.rc j k' h' q e).mono mono
 .rcases Ec (Dd q) with lt|eq
  .obtain⟨j,h1,h2⟩:=x.on k' lt;refine⟨j,h1,?_⟩;rw[Kf hs',As λz=>by rw[z,oj]at h2;cases h2]
   exact h2
  .refine⟨_,hj,?_⟩;rw[Kf hs',Ar rfl,eq]
 .rw[Kf hs']at q q';split at q
  .rename_i z;cases q;split at q'
   .rename_i z';rw[z,z']
   .exact absurd (x.lt j' k q').1 (Bb _)
  .split at q'
   .cases q';exact absurd (x.lt j k q).1 (Bb _)
   .exact x.nj j j' k' q q'
 .have ow:∀ ow:Au (Ao Ae),((AB (m+1)).filter λj=>(oc ow j).isSome).length=(plc m (λj=>(oc ow j).map λ_=>((0:Ag),AG))).length:=λow=>by
   unfold plc
   congr 2
   funext j
   show _=((oc ow j).map λ_=>((0:Ag),AG)).isSome
   cases oc ow j<;>rfl
  rw[ow];have e:(λj=>(oc (owner.setIfInBounds (pI m h T+r) (Ab k)) j).map λ_=>((0:Ag),AG))=FK (λj=>(oc owner j).map λ_=>((0:Ag),AG)) (pI m h T+r) (0,AG):=by
   funext i
   unfold FK;rw[Kf hs'];split<;>rfl
  rw[e,SX hj (by rw[oj];rfl),<-ow,x.ct]
noncomputable def Pq(m:Ae)(acc:Ao (Au (Ao Ae)×Ae))(h:Ag):Ao (Au (Ao Ae)×Ae):=acc.bind λx=>(D9 m x.1 (Fd m) (C4 h%(m+1)) (C4 h)).bind λj=>Ab (x.1.setIfInBounds j (Ab x.2),x.2+1)
theorem YA(m:Ae)(hs:Ac Ag):Hy m hs.toArray=(hs.foldl (Pq m) (Ab (Ih (m+1) Ad,0))).map (·.1):=by
 unfold Hy;rw[<-Array.foldl_toList];rfl
theorem SM{m:Ae}{hs:Ac Ag}(hm:Mk m)(hz:hs.length<=m):∀(rest:Ac Ag)(k:Ae)(owner:Au (Ao Ae)),LC m hs owner k->hs.drop k=rest->k<=hs.length->∃ owner',rest.foldl (Pq m) (Ab (owner,k))=Ab (owner',hs.length)/\LC m hs owner' hs.length
 |[],k,owner,x,e,hk=>by
  have:hs.length<=k:=by
   have:=congrArg Fw e;rw[EJ]at this;simp at this;omega
  have e2:k=hs.length:=by omega
  subst e2;exact⟨owner,rfl,x⟩
 |h::rest,k,owner,x,e,hk=>by
  have lk:k<hs.length:=by
   have:=congrArg Fw e;rw[EJ,A7]at this;omega
  have eh:hs[k]?=Ab h:=by
   have:(hs.drop k)[0]?=(h::rest)[0]?:=by rw[e]
   rw[G5,GB]at this;rw[this];rfl
  obtain⟨j,ej,x'⟩:=fE hm x (by omega) eh
  have e':hs.drop (k+1)=rest:=by
   rw[<-GS,e];rfl
  obtain⟨owner',h1,h2⟩:=SM hm hz rest (k+1) _ x' e' lk;refine⟨owner',?_,h2⟩;rw[VH];have:Pq m (Ab (owner,k)) h=Ab (owner.setIfInBounds j (Ab k),k+1):=by
   show (D9 m owner (Fd m) (C4 h%(m+1)) (C4 h)).bind _=_;rw[ej];rfl
  rw[this];exact h1
theorem MX(n j:Ae):oc (Ih n Ad) j=Ad:=by
 unfold oc;rw[Bt,Array.getElem?_replicate];split<;>rfl
theorem fD(m:Ae)(hs:Ac Ag):LC m hs (Ih (m+1) Ad) 0:=by
 refine⟨Array.size_replicate,λj k' q=>?_,λj k' h q=>?_,λk' q=>(by omega),λj j' k' q=>?_,?_⟩
 .rw[MX]at q;cases q
 .rw[MX]at q;cases q
 .rw[MX]at q;cases q
 .rw[List.length_eq_zero_iff,List.filter_eq_nil_iff];intro j _;rw[MX];exact AE
theorem TZ{α:Type}{f:Ae->Ao Ae}{g:Ae->Ao α}:∀ l:Ac Ae,(∀ j∈l,(f j).isSome=(g j).isSome)->(l.filterMap λj=>(f j).map (j,·)).map (·.1)=l.filter λj=>(g j).isSome
 |[],_=>rfl
 |x::l,h=>by
  have hx:=h x (by simp)
  have ih:=TZ l λj hj=>h j (by simp[hj])
  rw[BW,CT,<-hx];cases f x with
  |none=>exact ih
  |some k=>simp[ih]
theorem TY{α:Type}{f:Ae->Ao Ae}{e:Ae->Ao α}:∀ l:Ac Ae,((l.filterMap λj=>(f j).map (j,·)).map (·.2)).filterMap e=l.filterMap λj=>(f j).bind e
 |[]=>rfl
 |x::l=>by
  have ih:=TY (f:=f) (e:=e) l;rw[BW,BW];cases f x with
  |none=>exact ih
  |some k=>
   show VE e (k::_)=match e k with|none=>_|some b=>_
   rw[BW,ih];cases e k<;>rfl
theorem Zv(hm:Mk m){es:Au (Ag×Ai)}(hz:es.size<=m)(nd:(es.toList.map (·.1)).Nodup)(finger moves:Ae)(led plain:Aj):∃ t' order own',Xr m finger moves led plain (es.map (·.1))=Ab (t',order)/\Lnk t' (order.filterMap (es[·]?)) m own'/\WF m own'/\(∀ e,(∃ j,own' j=Ab e)↔e∈es)/\t'.led=led/\t'.plain=plain:=by
 have em:es.map (·.1)=(es.toList.map (·.1)).toArray:=by
  apply Kr
  simp
 have hl:(es.toList.map (·.1)).length=es.size:=by simp
 obtain⟨owner,h1,x⟩:=SM hm (by rw[hl];exact hz) (es.toList.map (·.1)) 0 _ (fD m _) (GU) (BD _)
 have lc:Hy m (es.map (·.1))=Ab owner:=by
  rw[em,YA,h1];rfl
 have inb:∀ j k,oc owner j=Ab k->∃ e,es[k]?=Ab e:=λj k q=>by
  have:=(x.lt j k q).1;rw[hl]at this;exact⟨_,BE this⟩
 have hsk:∀(k:Ae)(e:Ag×Ai),es[k]?=Ab e->(es.toList.map (·.1))[k]?=Ab e.1:=λk e q=>by
  rw[Bx,BR,q];rfl
 let own':Own:=λj=>(oc owner j).bind λk=>es[k]?
 have oS:∀ j,(oc owner j).isSome=(own' j).isSome:=λj=>by
  show _=((oc owner j).bind λk=>es[k]?).isSome
  cases q:oc owner j with
  |none=>rfl
  |some k=>
   obtain⟨e,he⟩:=inb j k q;show Aa=(es[k]?).isSome;rw[he];rfl
 have un:∀ j e,own' j=Ab e->∃ k,oc owner j=Ab k/\es[k]?=Ab e:=λj e q=>by
  have q':(oc owner j).bind (λk=>es[k]?)=Ab e:=q
  cases o:oc owner j with
  |none=>rw[o]at q';cases q'
  |some k=>rw[o]at q';exact⟨k,rfl,q'⟩
 refine⟨_,_,own',by unfold Xr;rw[lc];rfl,⟨rfl,rfl,?_,?_⟩,⟨hm,λj e q=>?_,λj e q=>?_,λj j' e e' q q' z=>?_⟩,λe=>⟨?_,λq=>?_⟩,rfl,rfl⟩
 .show ((VE _ _).map _).toArray=_;unfold plc
  congr 1
  exact TZ _ λj _=>oS j
 .unfold ent
  apply Kr
  rw[Array.toList_filterMap];exact TY _
 .obtain⟨k,a,_⟩:=un j e q;exact(x.lt j k a).2
 .obtain⟨k,a,b⟩:=un j e q;refine(x.rc j k e.1 a (hsk k e b)).mono λi y=>?_
  unfold occ;rw[<-oS];exact y
 .obtain⟨k,a,b⟩:=un j e q;obtain⟨k',a',b'⟩:=un j' e' q';have h3:=hsk k e b;have h4:=hsk k' e' b';have:k=k':=by
   rw[z]at h3;obtain⟨l1,g1⟩:=AW.mp h3;obtain⟨l2,g2⟩:=AW.mp h4;exact(VM nd).mp (g1.trans g2.symm)
  subst this;exact x.nj j j' k a a'
 .rintro⟨j,q⟩;obtain⟨k,a,b⟩:=un j e q;exact Array.mem_of_getElem? b
 .obtain⟨k,lk,e'⟩:=Vi.mp q;obtain⟨j,_,a⟩:=x.on k (by rw[hl];exact lk)
  refine⟨j,?_⟩;show (oc owner j).bind (λk=>es[k]?)=Ab e
  rw[a];show es[k]?=Ab e;rw[BE lk,e']
end Ov
namespace Ov
open PySem PySem.Spec PyProof.Rows
variable{k:Ac Ag}{Q:Aj->Ap->Prop}{b:Al}
noncomputable def Ent(k:Ac Ag)(b:Al):Ag×Ai:=(C2 k,.ref b)
noncomputable def byT(w:AT):Aj:=w.params.followText "set-order"
structure SetI (w:AT) (L:Ac (Ac Ag×Al)) (es:Au (Ag×Ai)) (t:En) (m:Ae) (own:Own):Prop where
 lk:Lnk t es m own
 wf:WF m own
 ro:es.size*5<m*3
 iff:∀ e,(∃ j,own j=Ab e)↔∃ p∈L,e=Ent p.1 p.2
 sz:es.size=L.length
 pl:t.plain=Aa
 ld:t.led=!(byT w)
def Ie(w:AT)(hp:AM)(a:Al)(L:Ac (Ac Ag×Al)):Prop:=∃ o es ep t m own,hp.get? a=Ab o/\o.ExactSet/\o.data=.set es ep t/\SetI w L es t m own
noncomputable def IB(L:Ac (Ac Ag×Al))(k:Ac Ag)(b:Al):Ac (Ac Ag×Al):=if (L.any λp=>p.1==k)=Aa then L else L++[(k,b)]
theorem Lc{m:Ae}(h:Mk m):m<=511/\m%2=1/\7<=m:=by
 rcases h with rfl|rfl|rfl|rfl<;>decide
section
variable{t:En}{es:Au (Ag×Ai)}{m:Ae}{own:Own}
theorem Pv(L:Lnk t es m own)(W:WF m own):(es.toList.map (·.1)).Nodup:=by
 rw[L.en];show ((ent m own).map (·.1)).Nodup;unfold ent;refine Dc.mpr (List.Pairwise.filterMap (R:=λa b=>a≠b) own (λa a' ne b hb b' hb' z=>ne (W.inj a a' b b' hb hb' z)) VW)
theorem Lnk.fits(L:Lnk t es m own)(h:es.size<=m):t.fits es.size=Aa:=by
 have e:t.place.size=es.size:=by rw[L.pl,AN,L.size]
 unfold SetTable.fits Jq;rw[e,L.dum,L.mask];simp;exact h
end
theorem YM{es es':Au (Ag×Ai)}(h1:(es.toList.map (·.1)).Nodup)(h2:(es'.toList.map (·.1)).Nodup)(h:∀ e,e∈es'↔e∈es):es'.size=es.size:=by
 have n1:es.toList.Nodup:=(Dc.mp h1).imp λa z=>a (by rw[z])
 have n2:es'.toList.Nodup:=(Dc.mp h2).imp λa z=>a (by rw[z])
 have p:=(VY n2 n1).mpr λe=>by
  rw[Et,Et];exact h e
 have:=p.length_eq;simpa using this
section
variable{prog:AR}{w:AT}{A:AU}{E:Vq}{s:Ap}
theorem SG{a:Al}(hk:Ct (CS prog w) s.heap k a)(h:Q Af s):Az (model prog w) A (HA 8 (.ref a)) Q E s:=by
 have hT:=hk.typeIs;obtain⟨o,items,n,ho,_,hd,hi⟩:=hk;unfold HA;refine Ah (JG hT ?_);dsimp only;rw[Ar (by decide+kernel)]
 refine Ah (At ?_);rw[As (by decide)]
 refine Ah (Da ho hd ?_);refine Ah ?_;show Az _ _ (forIn items _ _) _ _ s;rw[<-Vf];refine HL _ (λrest r s'=>r.1=Ad/\s'=s/\∃ ks,ItemsAre (CS prog w) ks rest) _ ?_ ?_ _ _ ⟨rfl,rfl,k,hi⟩
 .rintro v rest r s' ⟨hr,rfl,ks,hall⟩;cases hall with
  | @cons k _ ks' _ h1 h2=>
   cases v with
   |int i t=>
    unfold HA;refine Ah (At ?_);simp only[G4,Mr];exact At ⟨rfl,rfl,ks',h2⟩
   |_=>exact absurd (show Af=Aa from h1) AE
 .rintro⟨r1,r2⟩ s' ⟨hr,rfl,_⟩;simp only at hr;subst hr;exact At h
theorem gK(hk:Ct (CS prog w) s.heap k b)(st:Ac Ai)(hs:∀ y∈st,∃ c k',y=.ref c/\Ct (CS prog w) s.heap k' c)(h:Q Af s):Az (model prog w) A (X5 (.ref b) st) Q E s:=by
 unfold X5;refine Ah ?_;refine HL _ (λrest r s'=>r.1=Ad/\s'=s/\∀ y∈rest,y∈st) _ ?_ ?_ _ _ ⟨rfl,rfl,λ_ z=>z⟩
 .rintro v rest r s' ⟨hr,rfl,hall⟩;obtain⟨c,k',rfl,hk'⟩:=hs v (hall v (by simp))
  have fin:∀ r:Ao Aj×Im,r.1=Ad->r.1=Ad/\s'=s'/\∀ y∈rest,y∈st:=λr z=>⟨z,rfl,λy hy=>hall y (by simp[hy])⟩
  dsimp only;by_cases hv:(b==c)=Aa
  .rw[Ar (by rw[hv];rfl)]
   exact At (fin _ rfl)
  .rw[As (by simp at hv;simp[hv,carriedByValue])]
   refine Ah (Yb hk ?_);rw[As (by decide)]
   refine Ah (Yb hk' ?_);rw[As (by decide)]
   refine Ah (SG hk ?_);rw[As (by decide)]
   refine Ah (SG hk' ?_);rw[As (by decide)]
   exact At (fin _ rfl)
 .rintro⟨r1,r2⟩ s' ⟨hr,rfl,_⟩;simp only at hr;subst hr;exact At h
end
section
variable{prog:AR}{w:AT}{A:AU}{E:Vq}{s:Ap}{a b:Al}{L:Ac (Ac Ag×Al)}{k:Ac Ag}{o:De}{es:Au (Ag×Ai)}{ep:Ae}{t:En}{m:Ae}{own:Own}
theorem SetI.fits(I:SetI w L es t m own):t.fits es.size=Aa:=I.lk.fits (by have:=I.ro;have:=(Lc I.wf.km).2.2;omega)
theorem SetI.way(I:SetI w L es t m own):t.gaveWay=Af:=by
 unfold SetTable.gaveWay;rw[I.lk.mask,(Lc I.wf.km).2.1];rfl
theorem ZZ(ho:s.heap.get? a=Ab o)(hd:o.data=.set es ep t)(I:SetI w L es t m own)(hk:Ct (CS prog w) s.heap k b)(hL:∀ p∈L,Ct (CS prog w) s.heap p.1 p.2){p:Ac Ag×Al}(hp:p∈L)(he:p.1=k)(hu:A.units<B8){Q:SetFound->Ap->Prop}(q:Q (.there Ad) s):Az (model prog w) A (JF a (.ref b) (C2 k) Aa) Q E s:=by
  obtain⟨j0,oj⟩:=(I.iff (Ent p.1 p.2)).mpr ⟨p,hp,rfl⟩;have hj:=I.wf.rng j0 _ oj;obtain⟨nx,pr⟩:=Zc I.lk I.wf oj;have e1:(Ent p.1 p.2).1=C2 k:=by rw[<-he];rfl
  rw[e1]at pr;have en:=I.lk.entry hj oj;unfold JF Hf;refine Ah (B6 ho hd I.fits ?_);dsimp only;rw[As (by rw[I.way];decide)]
  show Az _ _ (match t.probe (hAt es) (C2 k) (t.probeStart (C2 k)) with|some met=>_|_=>_) _ _ _
  rw[pr];dsimp only;have go:Az (model prog w) A (do
      let equal <-holding [Bu p.2] (eqBool (.ref p.2) (.ref b))
      let (es',_,t') <-setState a
      if Aa&&equal then return SetFound.there Ad
      let Ab same:=t'.sameMemory t.moves t.mask|unsupported "set.changed-during-lookup:is-the-new-block-at-the-old-address"
      let still <-match (if same then t'.slot j0 else .empty) with
        |.live i'=>match es'[i']? with
          |some (_,y')=>do pure (if <-isSame y' (.ref p.2) then Ab i' else Ad)
          |none=>pure Ad
        |_=>pure Ad
      match still with
      |none=>rule "set.search.anew"; Hf a (.ref b) (C2 k) Aa 99999 Ad
      | some i'=>if equal then return .there (Ab i') else Hf a (.ref b) (C2 k) Aa 99999 (Ab nx)) Q E s:=by
    refine Ah (Eo (wpAny_eqBool_tuple hu (hL p hp) hk ?_));rw[BJ he];refine Ah (B6 ho hd I.fits ?_);exact At q
  have es':es[cnt own j0]?=Ab (C2 p.1,Bu p.2):=en;by_cases hl:t.led=Aa
  · rw[As (by rw[hl];decide),es']
    exact go
  · rw[Ar (by simpa using hl)]
    refine Ah (gK hk _ (λy hy=>?_) ?_)
    · obtain⟨e,he',rfl⟩:=Bi.mp hy;rw[Et,Array.mem_filter]at he';obtain⟨j,_,oj'⟩:=I.lk.mem.mp he'.1;obtain⟨p',hp',rfl⟩:=(I.iff e).mp ⟨j,oj'⟩;exact⟨p'.2,p'.1,rfl,hL p' hp'⟩
    · rw[As (by decide),es']
      exact go
theorem Y_0(ho:s.heap.get? a=Ab o)(hd:o.data=.set es ep t)(I:SetI w L es t m own){h:Ag}(no:∀ p∈L,C2 p.1≠h){x:Ai}{Q:SetFound->Ap->Prop}(q:∀ j,j<=m->own j=Ad->Rch (occ own) m h j->Q (.free j Af) s):Az (model prog w) A (JF a x h Aa) Q E s:=by
 have no':∀ j e,own j=Ab e->e.1≠h:=λj e oj=>by
  obtain⟨p,hp,rfl⟩:=(I.iff e).mp ⟨j,oj⟩;exact no p hp
 have sz:=I.lk.size;obtain⟨z,hz,oz⟩:=QN (occ:=occ own) (m:=m) (by
  show (plc m own).length<=m;have:=I.ro;have:=(Lc I.wf.km).2.2;omega)
 have oz':own z=Ad:=by
  unfold occ at oz;cases o:own z with
  |none=>rfl
  |some=>rw[o]at oz;cases oz
 obtain⟨j,hj,oj,rj,pr⟩:=YG I.lk I.wf.km no' hz oz';unfold JF Hf;refine Ah (B6 ho hd I.fits ?_);dsimp only;rw[As (by rw[I.way];decide)]
 show Az _ _ (match t.probe (hAt es) h (t.probeStart h) with|some met=>_|_=>_) _ _ _
 rw[pr];exact At (q j hj oj rj)
theorem dC(ho:s.heap.get? a=Ab o)(hx:o.ExactSet)(hd:o.data=.set es ep t)(lk:Lnk t es m own)(wf:WF m own)(iff:∀ e,(∃ j,own j=Ab e)↔∃ p∈L,e=Ent p.1 p.2)(sz:es.size=L.length)(pl:t.plain=Aa)(ld:t.led=!(byT w))(hf:es.size<=m){m':Ae}(km:Mk m')(e1:Xs (FO es.size)=m'+1)(e2:es.size*5<m'*3){Q:Hg->Ap->Prop}(q:∀ h',Ee a s.heap h'->Ie w h' a L->Q () {s with heap:=h'}):Az (model prog w) A (Lz a (FO es.size)) Q E s:=by
 have lm:=(Lc km).1;have nd:=Pv lk wf;obtain⟨t',order,own',r1,r2,r3,r4,r5,r6⟩:=Zv km (es:=es) (by have:=(Lc km).2.2;omega) nd t.finger (t.movedTo m') t.led t.plain
 have ss:=YM nd (Pv r2 r3) λe=>by
  rw[r2.mem];rw[<-r4 e];constructor
  .rintro⟨j,_,z⟩;exact⟨j,z⟩
  .rintro⟨j,z⟩;exact⟨j,r3.rng j e z,z⟩
 unfold Lz;refine Ah (B6 ho hd (lk.fits hf) ?_);dsimp only;rw[As (by rw[e1,Bz];omega)]
 have rl:t.relaid (es.map (·.1)) (FO es.size)=Ab (t',order):=by
  unfold SetTable.relaid;rw[e1];exact r1
 rw[rl];refine Ah ?_;show Az _ _ (if (order.filterMap (es[·]?)).size != es.size then _ else _) _ _ _
 rw[As (by rw[ss];simp)]
 refine At ?_;refine Ym ho hd ?_ (by rw[ss,Bz];omega)
 refine q _ (CH s.heap a _) ?_;have hg:=Cv (Xl (order.filterMap (es[·]?)) t') ho (by rw[JE _ t' hd];rfl)
 rw[JE _ t' hd]at hg;refine⟨_,_,_,_,m',own',hg,hx,rfl,r2,r3,by rw[ss];exact e2,λe=>?_,by rw[ss];exact sz,by rw[r6];exact pl,by rw[r5];exact ld⟩
 rw[r4 e,lk.mem];rw[<-iff e];constructor
 .rintro⟨j,_,z⟩;exact⟨j,z⟩
 .rintro⟨j,z⟩;exact⟨j,wf.rng j e z,z⟩
theorem rQ(S:Ie w s.heap a L)(hk:Ct (CS prog w) s.heap k b)(hL:∀ p∈L,Ct (CS prog w) s.heap p.1 p.2)(inj:∀ p∈L,C2 p.1=C2 k->p.1=k)(hn:L.length<=200)(hu:A.units<B8)(q:∀ h' r,Ee a s.heap h'->Ie w h' a (IB L k b)->Q r {s with heap:=h'}):Az (model prog w) A (setAddHashed a (.ref b) (C2 k)) Q E s:=by
  obtain⟨o,es,ep,t,m,own,ho,hx,hd,I⟩:=id S;unfold setAddHashed setAddHashedIn;refine Eo (Ah (B6 ho hd I.fits ?_));dsimp only;rw[As (by unfold byScan;simp[Value.scannable])]
  by_cases hp:∃ p∈L,p.1=k
  · obtain⟨p,hp,he⟩:=hp;refine Ah (ZZ ho hd I hk hL hp he hu ?_);refine At ?_;have e:IB L k b=L:=Ar (DZ.mpr ⟨p,hp,by rw[he];exact CA _⟩)
    have:=q s.heap Af (Xj a s.heap) (by rw[e];exact S)
    exact this
  · have no:∀ p∈L,C2 p.1≠C2 k:=λp h z=>hp ⟨p,h,inj p h z⟩
    have e:IB L k b=L++[(k,b)]:=As (by
      rw[DZ];rintro⟨p,h,z⟩;exact hp ⟨p,h,eq_of_beq z⟩)
    refine Ah (Y_0 ho hd I no λj hj oj rj=>?_)
    dsimp only;refine Ah (B6 ho hd I.fits ?_);dsimp only;obtain⟨lk',p1,p2,p3⟩:=I.lk.put hj oj (C2 k,Bu b);have wf':WF m (FK own j (C2 k,Bu b)):=I.wf.put hj oj rj λj' e' z=>by
      obtain⟨p,h,rfl⟩:=(I.iff e').mp ⟨j',z⟩;exact no p h
    have iff':∀ e,(∃ i,FK own j (C2 k,Bu b) i=Ab e)↔∃ p∈L++[(k,b)],e=Ent p.1 p.2:=λe=>by
      constructor
      · rintro⟨i,z⟩;by_cases y:i=j
        · rw[y,Jd]at z;cases z;exact⟨(k,b),by simp,rfl⟩
        · rw[GZ y]at z;obtain⟨p,h,r⟩:=(I.iff e).mp ⟨i,z⟩;exact⟨p,by simp[h],r⟩
      · rintro⟨p,h,r⟩;rcases DC.mp h with h|h
        · obtain⟨i,z⟩:=(I.iff e).mpr ⟨p,h,r⟩;refine⟨i,?_⟩;rw[GZ λy=>by rw[y,oj]at z;cases z]
          exact z
        · rw[A5.mp h]at r;exact⟨j,by rw[Jd,r];rfl⟩
    have zz:(CF es (t.put j).2 (C2 k,Bu b)).size=es.size+1:=by
      have a1:=lk'.size;rw[SX hj oj]at a1;rw[a1,I.lk.size]
    have fin:Az (model prog w) A (do
        storeSet a (CF es (t.put j).2 (C2 k,.ref b)) (t.put j).1
        if (!false&&(t.put j).1.tooFull)=Aa then Lz a (FO (es.size+1))
        pure Aa) Q E s:=by
      have lm:=Lc I.wf.km;have ro:=I.ro;refine Ah (Ym ho hd ?_ (by rw[zz,Bz];omega))
      have hg:=Cv (Xl (CF es (t.put j).2 (C2 k,.ref b)) (t.put j).1) ho (by rw[JE _ (t.put j).1 hd];rfl)
      rw[JE _ (t.put j).1 hd]at hg;have sl:(L++[(k,b)]).length=L.length+1:=by simp
      by_cases tf:(t.put j).1.tooFull=Aa
      · rw[Ar (by rw[tf];rfl)]
        have fl:(es.size+1)*5 ≥ m*3:=by
          unfold Xu Jq at tf;rw[lk'.dum,lk'.mask,lk'.pl]at tf;have a1:=lk'.size;rw[zz]at a1;rw[AN,<-a1]at tf;simpa using tf
        obtain⟨m',km,e1,e2⟩:∃ m',Mk m'/\Xs (FO (es.size+1))=m'+1/\(es.size+1)*5<m'*3:=by
          have hL':es.size<=200:=by rw[I.sz];exact hn
          rcases I.wf.km with h|h|h|h
          · have:es.size=4:=by omega
            rw[this];exact⟨31,.inr (.inl rfl),by decide+kernel,by decide⟩
          · have:es.size=18:=by omega
            rw[this];exact⟨127,.inr (.inr (.inl rfl)),by decide+kernel,by decide⟩
          · have:es.size=76:=by omega
            rw[this];exact⟨511,.inr (.inr (.inr rfl)),by decide+kernel,by decide⟩
          · omega
        have es1:es.size+1=(CF es (t.put j).2 (C2 k,Bu b)).size:=zz.symm;rw[es1];refine Ah (dC (L:=L++[(k,b)]) (s:={s with heap:=_}) hg hx rfl lk' wf' iff' (by rw[zz,sl,I.sz]) (by rw[p3];exact I.pl) (by rw[p2];exact I.ld) (by rw[zz];omega) km (by rw[zz];exact e1) (by rw[zz];exact e2) λh' sb SH=>?_)
        refine At ?_;have sb2:Ee a s.heap h':=(CH s.heap a _).trans sb;exact q h' Aa sb2 (by rw[e];exact SH)
      · rw[As (by simpa using tf)]
        refine At (q _ Aa (CH s.heap a _) ?_);have nf:(es.size+1)*5<m*3:=by
          unfold Xu Jq at tf;rw[lk'.dum,lk'.mask,lk'.pl]at tf;have a1:=lk'.size;rw[zz]at a1;rw[AN,<-a1]at tf;simpa using tf
        rw[e];exact⟨_,_,_,_,m,_,hg,hx,rfl,lk',wf',by rw[zz];exact nf,iff',by rw[zz,sl,I.sz],by rw[p3];exact I.pl,by rw[p2];exact I.ld⟩
    rw[show (t.put j).1.plain=Aa by rw[p3];exact I.pl]
    rw[Ar rfl];refine Ah (hbv hk ?_);exact fin
end
noncomputable def ES(kA:Ae->Ac Ag×Al):Ae->Ac (Ac Ag×Al)
 |0=>[]
 |i+1=>IB (ES kA i) (kA i).1 (kA i).2
theorem J5{kA:Ae->Ac Ag×Al}:∀{i:Ae}{p:Ac Ag×Al},p∈ES kA i->∃ j,j<i/\p=kA j
 |0,_,h=>by cases h
 |i+1,p,h=>by
  unfold ES IB at h;split at h
  .obtain⟨j,hj,e⟩:=J5 h;exact⟨j,by omega,e⟩
  .rcases DC.mp h with h|h
   .obtain⟨j,hj,e⟩:=J5 h;exact⟨j,by omega,e⟩
   .exact⟨i,by omega,A5.mp h⟩
theorem LO(kA:Ae->Ac Ag×Al):∀ i,(ES kA i).length<=i
 |0=>Aw _
 |i+1=>by
  have:=LO kA i;unfold ES IB;split
  .omega
  .rw[Bp];simp;omega
theorem Of(kA:Ae->Ac Ag×Al):∀ i,((ES kA i).map (·.1)).Nodup
 |0=>II
 |i+1=>by
  have ih:=Of kA i;unfold ES IB;split
  .exact ih
  .rename_i h;rw[E3,List.nodup_append];refine⟨ih,by simp,λa ha b hb=>?_⟩
   have hb':b=(kA i).1:=by simpa using hb
   obtain⟨p,hp,rfl⟩:=Bi.mp ha;rintro rfl;exact h (DZ.mpr ⟨p,hp,by rw[hb'];exact CA _⟩)
theorem NY{kA:Ae->Ac Ag×Al}:∀{i j:Ae},j<i->(kA j).1∈(ES kA i).map (·.1)
 |0,j,h=>by omega
 |i+1,j,h=>by
  unfold ES IB;split
  .rename_i q;rcases Ec (Dd h) with lt|eq
   .exact NY lt
   .obtain⟨p,hp,e⟩:=List.any_eq_true.mp q;rw[eq,<-eq_of_beq e];exact List.mem_map_of_mem hp
  .rw[E3,List.mem_append];rcases Ec (Dd h) with lt|eq
   .exact .inl (NY lt)
   .exact .inr (by simp[eq])
theorem Ug{w:AT}{h h':AM}{L:Ac (Ac Ag×Al)}(x:Ie w h b L)(e:∀ o,h.get? b=Ab o->h'.get? b=Ab o):Ie w h' b L:=by
 obtain⟨o,es,ep,t,m,own,ho,r⟩:=x;exact⟨o,es,ep,t,m,own,e o ho,r⟩
section
variable{prog:AR}{w:AT}{A:AU}{R:IL->Ap->Prop}{I:Al}{fp wr:Ac Al}{G:Au EM->Au EM->Prop}{n:Ae}{P:Ae->Ai->Prop}{St:Ae->Ap->Prop}
theorem lA(W:WalksS prog w A.in1 I fp wr G n P St)(S:Al)(hSf:S∉fp)(hu:A.in1.units<B8)(kA:Ae->Ac Ag×Al)(hn:n<=200)(inj:∀ i j,i<n->j<n->C2 (kA i).1=C2 (kA j).1->(kA i).1=(kA j).1)(hv:∀ j v,j<n->P j v->v=.ref (kA j).2)(hw:∀ j,j<n->(kA j).2∉S::wr):
    ∀(k i:Ae)(s:Ap),n-i=k->i<=n->St i s->(∀ j,j<n->Ct (CS prog w) s.heap (kA j).1 (kA j).2) ->
      Ie w s.heap S (ES kA i) ->
      (∀ s',Moved (S::wr) G s s'->Ie w s'.heap S (ES kA n)->R (.ok (.ret .none)) s') ->
      FA (model prog w) A (.builtin "set.update.loop" ⟨[.ref S,.ref I],[]⟩) R s:=by
  have hSw:S∉wr:=λh=>hSf (W.sub _ h)
  have hsub:∀ b∈wr,b∈S::wr:=λb hb=>AF _ hb
  intro k
  induction k with
  |zero=>
    intro i s hk hi hst hky hS hR;have hin:i=n:=by omega
    subst hin;refine Ek Wd ?_;rw[DG FR _];show Az _ A.in1 (E4 (.ref I) >>= _) _ _ s;refine Ah (W.done s _ _ hst λs' hm=>?_)
    show Az _ A.in1 (ret AG) _ _ s';exact At (hR s' (hm.mono hsub) (Ug hS λo e=>hm.heap S _ hSw e))
  |succ k ih=>
    intro i s hk hi hst hky hS hR;have hlt:i<n:=by omega
    refine Ek Wd ?_;rw[DG FR _];show Az _ A.in1 (E4 (.ref I) >>= _) _ _ s;refine Ah (W.item i s _ _ hlt hst λv s' hP hst' hm=>?_)
    obtain rfl:=hv i v hlt hP;have hky':∀ j,j<n->Ct (CS prog w) s'.heap (kA j).1 (kA j).2:=λj hj=>Po (hky j hj) λo e=>hm.heap _ _ (λz=>hw j hj (hsub _ z)) e
    have hS':=Ug hS λo e=>hm.heap S _ hSw e
    show Az _ A.in1 (holding [Bu (kA i).2] (setAdd S (.ref (kA i).2)) >>= _) _ _ s';refine Ah (Eo ?_);unfold setAdd;refine Eo ?_;refine Ah (wpAny_pyHash_tuple hu (hky' i hlt) ?_);have hl:=LO kA i;refine rQ (s:={s' with toks:=s'.toks+((kA i).1.length+1)}) (k:=(kA i).1) hS' (hky' i hlt) (λp hp=>?_) (λp hp e=>?_) (by omega) hu λh' r hsb hS2=>?_
    · obtain⟨j,hj,rfl⟩:=J5 hp;exact hky' j (by omega)
    · obtain⟨j,hj,rfl⟩:=J5 hp;exact inj j i (by omega) hlt e
    refine At ⟨Gc FR _,ih (i+1) _ (by omega) hlt (W.frame _ s' _ _ hst' (V5 _ _) λb hb o e=>?_) (λj hj=>Po (hky' j hj) λo e=>?_) hS2 λs'' hm'' hS''=>?_⟩
    · rw[hsb.2 b (λh:b=S=>hSf (by rw[<-h];exact hb))];exact e
    · rw[hsb.2 _ (λh:(kA j).2=S=>hw j hj (by rw[h];exact AL))];exact e
    · refine hR s'' (Moved.trans W.gtrans ((hm.mono hsub).then_heap (V5 _ _) λb o hb e=>?_) hm'') hS''
      rw[hsb.2 b (λh:b=S=>hb (by rw[h];exact AL))];exact e
end
section
variable{prog:AR}{w:AT}{A:AU}{E:Vq}{s:Ap}
theorem Yy(a:Ai){Q₁:Vq}(h:Q₁ (.ref s.heap.objs.size) { s with heap:=s.heap.push { cls:=.type "set",dict:=Ad,data:=.set #[] 0 (.fresh 0 0 (!(byT w))) } }):
  FA (model prog w) A (.call (.builtin "set.__new__") ⟨[.type "set",a],[]⟩) (wants Q₁ E) s:=by
 refine Iq ?_;show Az _ A.in1 (do XY "set.__new__" ⟨[.type "set",a],[]⟩;again (.builtin "set.__new__" ⟨[.type "set",a],[]⟩)) _ _ s
 refine Ah (Do (F.newCall_set_1 a) (At ⟨Gc Xd _,Ek F.entry_set_new ?_⟩));rw[DG Xd _];unfold Builtin.«set.__new__» Builtin.Frozenset.newClass;have hsub:=sub_set_self;obtain⟨hp,g,d,tk,os⟩:=s;dsimp only
 wp_walk
 refine Ds (At ?_);dsimp only;simp only[newObj];refine Ah (wpAny_alloc (At ?_));exact At h
theorem wf0:WF 7 (λ_=>Ad):=⟨.inl rfl,(λj e h=>by cases h),(λj e h=>by cases h),(λj j' e e' h=>by cases h)⟩
theorem Yt{l:Al}{items:Au Ai}{kA:Ae->Ac Ag×Al}{Q:Vq}(hu:A.units+8<B8)(hh:A.handled=Ad)(hl:s.heap.IsList l items)(hi:∀ j v,items[j]?=Ab v->v=.ref (kA j).2/\Ct (CS prog w) s.heap (kA j).1 (kA j).2)(hn:items.size<=200)(inj:∀ i j,i<items.size->j<items.size->C2 (kA i).1=C2 (kA j).1->(kA i).1=(kA j).1)(h:∀(h':AM)(tk:Ae),Ie w h' s.heap.objs.size (ES kA items.size) ->
   (∀ b o,b<s.heap.objs.size->s.heap.get? b=Ab o->h'.get? b=Ab o)->Q (.ref s.heap.objs.size) {s with heap:=h',toks:=tk}):
  Az (model prog w) A (call (.type "set") [.ref l]) Q E s:=by
 obtain⟨c,tl,hmro⟩:=F.called_set.mro;have hmade:=F.called_set.made;have hsub:=F.called_set.sub;refine wpAny_call (Iq ?_);show Az _ _ (callAny (.type "set") _) _ _ _;refine At ⟨Code.quiet_builtin _ (by decide+kernel),Ek F.entry_type_call ?_⟩
 rw[Around.under_plain (weight_type_call_type "set" [.ref l] []) rfl];have h1:=F.called_set.notType;have h2:=F.called_set.canCreate;have hct:=F.typeCall_set_1 (.ref l)
 repeat (any_goals (first|assumption|wp_step))
 refine GE (Yy (w:=w) (.ref l) (E:=E) (Q₁:=λobj s₁=>obj=.ref s.heap.objs.size/\s₁={ s with heap:=s.heap.push { cls:=.type "set",dict:=Ad,data:=.set #[] 0 (.fresh 0 0 (!(byT w))) } }) ⟨rfl,rfl⟩) λr s₁ hr=>?_
 generalize hled:(!(byT w))=led at hr;cases r with
 |error e=>exact hr
 |ok fl=>
  cases fl with
  |ret obj=>
   obtain⟨rfl,rfl⟩:=hr;have hS:(s.heap.push { cls:=.type "set",dict:=Ad,data:=.set #[] 0 (.fresh 0 0 led) }).get? s.heap.objs.size=Ab { cls:=.type "set",dict:=Ad,data:=.set #[] 0 (.fresh 0 0 led) }:=AD _ rfl;have hT:Jr { s with heap:=s.heap.push { cls:=.type "set",dict:=Ad,data:=.set #[] 0 (.fresh 0 0 led) } } (.ref s.heap.objs.size) "set" := ⟨_,hS,rfl⟩
   have hli:=F.called_set.init.lookup;have hbi:=F.called_set.init.bind (.ref s.heap.objs.size)
   repeat (any_goals (first|assumption|wp_step))
   refine GE (codeAny_call_builtin (R:=wants (λr s₂=>r=.none/\∃ h' tk,s₂={s with heap:=h',toks:=tk} /\
     Ie w h' s.heap.objs.size (ES kA items.size) /\
     (∀ b o,b<s.heap.objs.size->s.heap.get? b=Ab o->h'.get? b=Ab o)) E) F.called_set.init.plain F.entry_set_init (check_set_init_1 hT ?_)) λr₂ s₂ hr₂=>?_
   .obtain⟨ol,hol,hcl,nl,hdl⟩:=hl;obtain⟨ocls,odict,odata,oslots⟩:=ol;simp only at hcl hdl;subst hcl;subst hdl;have hol':(s.heap.push { cls:=.type "set",dict:=Ad,data:=.set #[] 0 (.fresh 0 0 led) }).get? l=Ab { cls:=.type "list",dict:=odict,data:=.seq items nl,slots:=oslots }:=Aq _ hol;have hsls:=F.sub_list_set;have hslf:=F.sub_list_frozenset;have hne:(Fo "list" == Fo "dict")=Af:=by decide
    have hl1:(s.heap.push { cls:=.type "set",dict:=Ad,data:=.set #[] 0 (.fresh 0 0 led) }).IsList l items:=⟨_,hol',rfl,nl,rfl⟩;unfold Builtin.«set.__init__» noKeywords Builtin.Frozenset.updateFrom;generalize hPI:Ha=PI
    wp_walk
    subst hPI;refine F0 hl1 ?_;refine Ah (Yl ?_);have hlS:l<s.heap.objs.size:=AJ hol;have hh3:A.in1.in1.in1.handled=Ad:=by simp[hh]
    have hneI:l≠(s.heap.push { cls:=.type "set",dict:=Ad,data:=.set #[] 0 (.fresh 0 0 led) }).objs.size:=by
     rw[Ba];exact AV (Bs hlS)
    have hSf:s.heap.objs.size∉[(s.heap.push { cls:=.type "set",dict:=Ad,data:=.set #[] 0 (.fresh 0 0 led) }).objs.size,l]:=by
     rw[Ba];simp only[AK,A5,Bf,CB,Fi];exact⟨AV (Fl _),EK hlS⟩
    have lt_of:∀ j,j<items.size->(kA j).2<s.heap.objs.size/\Ct (CS prog w) s.heap (kA j).1 (kA j).2:=λj hj=>by
     obtain⟨_,hk⟩:=hi j _ (BE hj);refine⟨?_,hk⟩;obtain⟨o,_,_,ho,_⟩:=id hk;exact AJ ho
    refine lA ((XU hh3 _ l hneI items).toS) s.heap.objs.size hSf (show A.units+1+1+1<B8 by omega) kA hn inj (λj v _ hv=>(hi j v hv).1) (λj hj=>?_) (items.size-0) 0 _ (by omega) (BD _)
     ⟨⟨_,AD _ rfl,rfl,rfl⟩,(hl1.push _)⟩ ?hK ?hS0 ?hR
    .have hb:=(lt_of j hj).1;rw[Ba];simp only[AK,Bf,CB,Fi];exact⟨AV hb,AV (Bs hb)⟩
    case hK=>
     intro j hj;exact Po (lt_of j hj).2 λo e=>Aq _ (Aq _ e)
    case hS0=>
     have hget:((s.heap.push { cls:=.type "set",dict:=Ad,data:=.set #[] 0 (.fresh 0 0 led) }).push { cls:=.type "list_iterator",data:=.fields #[.ref l,.int 0 0] }).get? s.heap.objs.size
       = Ab { cls:=.type "set",dict:=Ad,data:=.set #[] 0 (.fresh 0 0 led) }:=Aq _ hS
     refine⟨_,#[],0,.fresh 0 0 led,7,λ_=>Ad,hget,⟨rfl,rfl,rfl⟩,rfl,⟨rfl,rfl,?_,?_⟩,wf0,by decide,(λe=>⟨(λ⟨_,z⟩=>by cases z),(λ⟨_,z,_⟩=>by cases z)⟩),rfl,rfl,hled.symm⟩
     .show (SetTable.fresh 0 0 Aa).place=_;decide+kernel
     .have:ent 7 (λ_=>Ad)=[]:=by
       unfold ent;exact List.filterMap_eq_nil_iff.mpr λ_ _=>rfl
      rw[this]
    case hR=>
     intro s' hm hS';obtain⟨h',g',d',tk',os'⟩:=s';have eg:g'=s.gens:=hm.gens;have ed:d'=s.drawn:=hm.drawn;have eo:os'=s.os:=hm.os;subst eg;subst ed;subst eo;show Az _ _ _ _ _ _;refine At ?_;show Az _ _ (ret AG) _ _ _;refine At ⟨rfl,h',tk',rfl,hS',λb o hb e=>?_⟩
     have hb1:b≠s.heap.objs.size:=AV hb;have hb2:b≠(s.heap.push { cls:=.type "set",dict:=Ad,data:=.set #[] 0 (.fresh 0 0 led) }).objs.size:=by
      rw[Ba];exact AV (Bs hb)
     exact hm.heap b o (by simp only[AK,A5,Bf,CB,Fi];exact⟨hb1,hb2⟩) (Aq _ (Aq _ e))
   .cases r₂ with
    |error e=>exact hr₂
    |ok fl₂=>
     cases fl₂ with
     |ret r=>
      obtain⟨rfl,h',tk,rfl,hS',hk'⟩:=hr₂
      repeat (any_goals (first|assumption|wp_step))
      exact h _ _ hS' hk'
     |_=>exact hr₂.elim
  |_=>exact hr.elim
end
end Ov
section
namespace Ov
open PySem PySem.Spec PyProof.Rows
variable{Q:Ao Ai->Ap->Prop}
theorem SQ{α:Type}(next:Ae->Ae):∀(f k:Ae)(left:Ac α)(out:Au α),left.length<=f->(X3 next f k left out).toList.Perm (out.toList++left)
 |0,k,left,out,h=>by
  have:left=[]:=VD (by omega)
  subst this;show out.toList.Perm _;rw[Bw]
 |f+1,k,left,out,h=>by
  rw[X3];cases left with
  |nil=>
   show out.toList.Perm _;rw[Bw]
  |cons y ys=>
   have hl:next k%(y::ys).length<(y::ys).length:=Ks _ (by simp)
   rw[AA hl];dsimp only;refine(SQ next f (k+1) _ _ (by rw[List.length_eraseIdx_of_lt hl];omega)).trans ?_
   rw[Db,Cs];refine Vy _ ?_;generalize next k%(y::ys).length=i at hl;generalize y::ys=l at hl;rw[List.eraseIdx_eq_take_drop_succ];have e:l=l.take i++l[i]::l.drop (i+1):=by rw[List.getElem_cons_drop,CQ]
   have q:=(List.perm_middle (a:=l[i]) (l₁:=l.take i) (l₂:=l.drop (i+1))).symm;rw[<-e]at q;exact q
theorem Zz{α:Type}(next:Ae->Ae)(xs:Au α):(G8 next xs).toList.Perm xs.toList:=by
 have:=SQ next xs.size 0 xs.toList #[] (by simp)
 simpa [G8] using this
noncomputable def Ic(w:AT)(S:Al)(ep:Ae)(es:Au (Ag×Ai)):Au (Ag×Ai):=if byT w=Aa then G8 (w.params.setOrder S ep) es else es
theorem Sg(w:AT)(S:Al)(ep:Ae)(es:Au (Ag×Ai)):(Ic w S ep es).toList.Perm es.toList:=by
 unfold Ic;split
 .exact Zz _ _
 .exact .refl _
theorem OG(w:AT)(S:Al)(ep:Ae)(es:Au (Ag×Ai)):(Ic w S ep es).size=es.size:=by
 have:=(Sg w S ep es).length_eq;simpa using this
theorem lL(m:Ae)(own:Own):(plc m own).Pairwise (· < ·):=List.Pairwise.filter _ (by rw[GA];exact List.pairwise_lt_range')
theorem YO{l:Ac Ae}(h:l.Pairwise (· < ·)){i j:Ae}(e:l[i]?=Ab j):Dx l.toArray (j+1)=i+1:=by
 obtain⟨hi,rfl⟩:=AW.mp e;have pw:=BF.mp h;have q:=Oz (A:=l.take (i+1)) (B:=l.drop (i+1)) (j:=l[i]+1) (λx hx=>?_) (λx hx=>?_)
 .rw[CQ,D5,Nat.min_eq_left hi]at q;exact q
 .obtain⟨k,hk,rfl⟩:=Cc hx;rw[D5]at hk;rw[VN];rcases Ec (show k<=i by omega) with z|z
  .have:=pw k i (by omega) hi z
   omega
  .subst z;omega
 .obtain⟨k,hk,rfl⟩:=Cc hx;rw[EJ]at hk;rw[VL];have:=pw i (i+1+k) hi (by omega) (by omega)
  omega
theorem Zj(l:Ac Ae):Dx l.toArray 0=0:=by
 have q:=Oz (A:=[]) (B:=l) (j:=0) (λx hx=>by cases hx) (λx _=>by omega)
 exact q
namespace F
theorem Sf:Manifest.owners.lookup (String.ofList ['r','o','t','a','r','e','t','i','_','t','e','s'].reverse)=Ab Manifest.sig_set_iterator:=by kernel_rfl
theorem slot_si_next:Slot "set_iterator" "__next__" "set_iterator.__next__":=
 .of (owner := "set_iterator") (n := "__next__") (by rw[X6,XX];kernel_rfl) (by decide+kernel) (by decide+kernel) (by decide+kernel)
  (by first|exact .inl (by decide+kernel)|exact .inr (by decide+kernel)) (by rw[GY];kernel_rfl)
theorem entry_si_next:Lw table "set_iterator.__next__" = Ab Builtin.«set_iterator.__next__»:=entryFor_of_tree (by kernel_rfl)
theorem args_si_next_1(a:Ai):Lu "set_iterator.__next__" ⟨[a],[]⟩:=by
 unfold Lu;rw[signature?_of (id := "set_iterator.__next__") (n:=['_','_','t','x','e','n','_','_']) (o:=['r','o','t','a','r','e','t','i','_','t','e','s']) (by kernel_rfl) Sf];kernel_rfl
theorem slot_si_iter:Slot "set_iterator" "__iter__" "set_iterator.__iter__":=
 .of (owner := "set_iterator") (n := "__iter__") (by rw[X6,XX];kernel_rfl) (by decide+kernel) (by decide+kernel) (by decide+kernel)
  (by first|exact .inl (by decide+kernel)|exact .inr (by decide+kernel)) (by rw[GY];kernel_rfl)
theorem args_si_iter_1(a:Ai):Lu "set_iterator.__iter__" ⟨[a],[]⟩:=by
 unfold Lu;rw[signature?_of (id := "set_iterator.__iter__") (n:=['_','_','r','e','t','i','_','_']) (o:=['r','o','t','a','r','e','t','i','_','t','e','s']) (by kernel_rfl) Sf];kernel_rfl
theorem entry_si_iter:Lw table "set_iterator.__iter__" = Ab Builtin.«dict_keyiterator.__iter__»:=
 XZ (id' := "dict_keyiterator.__iter__") (by kernel_rfl) (by first|rfl|decide+kernel|(unfold Yn;simp+decide [Yo])) (by decide+kernel) (by kernel_rfl)
theorem entry_set_iter:Lw table "set.__iter__" = Ab Builtin.«frozenset.__iter__»:=
 XZ (id' := "frozenset.__iter__") (by kernel_rfl) (by first|rfl|decide+kernel|(unfold Yn;simp+decide [Yo])) (by decide+kernel) (by kernel_rfl)
end F
section
variable{prog:AR}{w:AT}{A:AU}{E:Vq}{s:Ap}
noncomputable def Jh(slot i:Ae)(S:Al)(n ep:Ae):De:={ cls:=.type "set_iterator",data:=.fields #[Cr slot,Cr i,.ref S,Cr n,Cr ep] }
structure SitAt (w:AT) (I S:Al) (o:De) (es:Au (Ag×Ai)) (ep:Ae) (t:En) (i:Ae) (h:AM):Prop where
 it:∃ slot oi,h.get? I=Ab oi/\oi.cls=.type "set_iterator"/\oi.data=.fields #[Cr ((slot:Ae):Ag),Cr (i:Ag),.ref S,Cr (es.size:Ag),Cr (ep:Ag)]/\(byT w=Af->Dx t.place slot=i)
 st:h.get? S=Ab o
variable{I S:Al}{o:De}{es:Au (Ag×Ai)}{ep:Ae}{t:En}{i:Ae}{L:Ac (Ac Ag×Al)}{m:Ae}{own:Own}
theorem SitAt.typeIs(x:SitAt w I S o es ep t i s.heap):s.TypeIs (.ref I) "set_iterator" := let ⟨_,oi,h,c,_⟩:=x.it;⟨oi,h,c⟩
theorem Yw(hd:o.data=.set es ep t)(hI:SetI w L es t m own)(x:SitAt w I S o es ep t i s.heap)(ne:S≠I){e:Ag×Ai}(he:(Ic w S ep es)[i]?=Ab e)(hQ:∀ h',SitAt w I S o es ep t (i+1) h'->Ee I s.heap h'->Q (Ab e.2) {s with heap:=h'}):Az (model prog w) A (E4 (.ref I)) Q E s:=by
 obtain⟨slot,oi,ho,hc,hdi,hb⟩:=x.it;have hS:=x.st;unfold E4;refine Ah (EY (Ci (name:=AX "__next__") x.typeIs F.slot_si_next
  (B0 F.slot_si_next x.typeIs F.entry_si_next ?_ (F.args_si_next_1 _))))
 unfold Builtin.«set_iterator.__next__»;refine Ah (Do (a:=(Bu I,[])) rfl ?_);refine Ah (Yd ho hdi ?_);show Az _ _ (setEntries S >>= _) _ _ s;refine Ah (GR hS hd hI.fits ?_);rw[As (by simp)]
 show Az _ _ (KA S slot i ep >>= _) _ _ s;have fin:∀(E':Vq)(nx:Ae),(byT w=Af->Dx t.place nx=i+1)->Az (model prog w) A.in1 (do
   J2 (.ref I) 0 (Cr ((nx:Ae):Ag))
   J2 (.ref I) 1 (Cr ((i:Ag)+1))
   ret e.2) (fun(f:Ln) s'=>∃ v,f=.done (.ret v)/\Az (model prog w) A (pure (Ab v)) Q E s') E' s:=λE' nx hnx=>by
  refine Ah (D7 ho hdi (by simp) ?_)
  have ho1:=Cv (Fv (·.setIfInBounds 0 (Cr ((nx:Ae):Ag)))) ho (Dv (Ca hdi _));have hd1:=Ca hdi (·.setIfInBounds 0 (Cr ((nx:Ae):Ag)));refine Ah (D7 ho1 hd1 (by simp) ?_)
  refine At ⟨e.2,rfl,At (hQ _ ⟨⟨nx,_,Cv _ ho1 (Dv (Ca hd1 _)),(FZ ..).trans ((FZ ..).trans hc),?_,hnx⟩,?_⟩ ?_)⟩
  .rw[Ca hd1];simp[Cr]
  .rw[Co _ _ (DQ ne),Co _ _ (DQ ne)];exact hS
  .exact(CH ..).trans (CH ..)
 unfold KA;refine Ah (Ah (B6 hS hd hI.fits ?_));dsimp only;refine Ah (Ah (Ds (At ?_)));show Az _ _ (if byT w=Aa then _ else _) _ _ _
 cases hby:byT w with
 |true=>
  rw[Ar rfl,As (by simp)]
  unfold setWalk;refine Ah (Ah (B6 hS hd hI.fits ?_));dsimp only;refine Ah (Ah (Ds (At ?_)));show Az _ _ (if byT w=Aa then _ else _) _ _ _
  rw[Ar hby];refine Ah (Ds (At ?_));have q:(G8 (w.params.setOrder S ep) es)[i]?=Ab e:=by
   unfold Ic at he
   rwa [Ar hby]at he
  refine At ?_;have q':(G8 ((model prog w).w.params.setOrder S ep) es)[i]?=Ab e:=q;simp only[q',Il];exact fin _ slot (λz=>by rw[hby]at z;cases z)
 |false=>
  rw[As (by decide)]
  have q:es[i]?=Ab e:=by
   unfold Ic at he
   rwa [As (by rw[hby];decide)]at he
  have hb':=hb hby;have hi:i<es.size:=(Ft.mp q).1;have hpl:=hI.lk.pl;have hsz:=hI.lk.size;have hp:t.place[i]?=Ab ((plc m own)[i]'(by omega)):=by
   rw[hpl,Eh];exact AA _
  have hled:t.led=Aa:=by rw[hI.ld,hby];rfl
  show Az _ _ (if (!t.plain&&decide (es.size>1))=Aa then _ else _) _ _ _
  rw[As (by rw[hI.pl];simp)]
  refine Ah ?_;show Az _ _ (if (!t.led && !es.isEmpty)=Aa then _ else _) _ _ _
  rw[As (by rw[hled];simp)]
  refine At ?_;simp only[hb',q,hp];refine At ?_;refine fin _ _ λ_=>?_
  rw[hpl];exact YO (lL m own) (AA _)
theorem YF(hh:A.handled=Ad)(hd:o.data=.set es ep t)(hI:SetI w L es t m own)(x:SitAt w I S o es ep t es.size s.heap)(ne:S≠I)(hQ:∀ h',JV I s.heap h'->Q Ad {s with heap:=h'}):Az (model prog w) A (E4 (.ref I)) Q E s:=by
 obtain⟨slot,oi,ho,hc,hdi,hb⟩:=x.it;have hS:=x.st;unfold E4;refine Ah (EY (Ci (name:=AX "__next__") x.typeIs F.slot_si_next
  (B0 F.slot_si_next x.typeIs F.entry_si_next ?_ (F.args_si_next_1 _))))
 unfold Builtin.«set_iterator.__next__»;refine Ah (Do (a:=(Bu I,[])) rfl ?_);refine Ah (Yd ho hdi ?_);show Az _ _ (setEntries S >>= _) _ _ s;refine Ah (GR hS hd hI.fits ?_);rw[As (by simp)]
 show Az _ _ (KA S slot es.size ep >>= _) _ _ s;have fin:Az (model prog w) A.in1 (do J2 (.ref I) 2 .none;Ly (<-newExc (.type "StopIteration") [])) (fun(f:Ln) s'=>∃ v,f=.done (.ret v)/\Az (model prog w) A (pure (Ab v)) Q E s') (λe s'=>Az (model prog w) A (do if <-isInstance e (.type "StopIteration") then pure Ad else throw e) Q E s') s:=by
  refine Ah (D7 ho hdi (by simp) ?_)
  refine Ah ?_;simp only[newExc,newTuple];refine Ah (CG ?_ (by size_fits))
  refine Ah (m:=GX _ _) (Do (a:=AG) (by first|rfl|(simp only[GX];rfl)) ?_)
  refine CG ?_ (by size_fits)
  simp only[Ly];refine Ah (wpAny_handled ?_)
  first|rw[show A.in1.handled=Ad from hh]|rw[hh]
  refine Ah (At (wpAny_throw ?_));refine Ah (Gi (T := "StopIteration") (b:=Aa) ⟨_,AD _ rfl,rfl⟩ IP ?_);exact At (hQ _ ((((CH ..).extBut).push _).push _))
 unfold KA;refine Ah (Ah (B6 hS hd hI.fits ?_));dsimp only;refine Ah (Ah (Ds (At ?_)));show Az _ _ (if byT w=Aa then _ else _) _ _ _
 cases hby:byT w with
 |true=>
  rw[Ar rfl,As (by simp)]
  unfold setWalk;refine Ah (Ah (B6 hS hd hI.fits ?_));dsimp only;refine Ah (Ah (Ds (At ?_)));show Az _ _ (if byT w=Aa then _ else _) _ _ _
  rw[Ar hby];refine Ah (Ds (At ?_));have q':(G8 ((model prog w).w.params.setOrder S ep) es)[es.size]?=Ad:=by
   have:=OG w S ep es;unfold Ic at this;rw[Ar hby]at this;exact Vg (Jw this)
  refine At ?_;simp only[q',Option.map_none];exact fin
 |false=>
  rw[As (by decide)]
  have hb':=hb hby;have hled:t.led=Aa:=by rw[hI.ld,hby];rfl
  have q:es[es.size]?=Ad:=Vg (Aw _);show Az _ _ (if (!t.plain&&decide (es.size>1))=Aa then _ else _) _ _ _
  rw[As (by rw[hI.pl];simp)]
  refine Ah ?_;show Az _ _ (if (!t.led && !es.isEmpty)=Aa then _ else _) _ _ _
  rw[As (by rw[hled];simp)]
  refine At ?_;simp only[hb',q];refine At ?_;exact fin
theorem SitAt.self{Q:Vq}(x:SitAt w I S o es ep t i s.heap)(h:Q (.ref I) s):Az (model prog w) A (Ha (.ref I)) Q E s:=by
 refine Yi x.typeIs F.slot_si_iter (B0 F.slot_si_iter x.typeIs F.entry_si_iter ?_ (F.args_si_iter_1 _));show Az _ _ (ret (.ref I)) _ _ s;exact At ⟨_,rfl, "set_iterator",_,x.typeIs,F.slot_si_next.lookup,h⟩
theorem ZQ(hh:A.handled=Ad)(hd:o.data=.set es ep t)(hI:SetI w L es t m own)(ne:S≠I):
  Walks prog w A I [I,S] [I] es.size (λi v=>∃ e,(Ic w S ep es)[i]?=Ab e/\v=e.2) (λi h=>SitAt w I S o es ep t i h) where
 sub:=λb hb=>by simp at hb;simp[hb]
 frame:=λ_ _ _ x hk=>⟨let ⟨sl,oi,e,r⟩:=x.it;⟨sl,oi,hk I (by simp) _ e,r⟩,hk S (by simp) _ x.st⟩
 item:=λi s Q E hi x hQ=>by
  have he:(Ic w S ep es)[i]?=Ab ((Ic w S ep es)[i]'(by rw[OG];exact hi)):=BE _
  refine Yw hd hI x ne he λh' x' hs'=>?_
  exact hQ _ h' s.toks ⟨_,he,rfl⟩ x' λb o hb eo=>hs'.extBut b o (λh=>hb (by simp[h])) eo
 done:=λs Q E x hQ=>YF hh hd hI x ne λh' he'=>hQ h' s.toks λb o hb eo=>he' b o (λh=>hb (by simp[h])) eo
 self:=λ_ _ _ _ x hQ=>x.self hQ
theorem aH{Q:Vq}(hS:s.heap.get? S=Ab o)(hx:o.ExactSet)(hd:o.data=.set es ep t)(hI:SetI w L es t m own)(h:Q (.ref s.heap.objs.size) {s with heap:=s.heap.push (Jh 0 0 S es.size ep)}):Az (model prog w) A (Ha (.ref S)) Q E s:=by
 have hT:s.TypeIs (.ref S) "set" := ⟨o,hS,hx.1⟩;refine Yi hT Xe (B0 Xe hT F.entry_set_iter ?_ (F.args_set_iter_1 _));unfold Builtin.«frozenset.__iter__»;refine Ah (Do (a:=S) rfl ?_);refine Ah (Ah (GR hS hd hI.fits (At ?_)));refine Ah (Ah (B6 hS hd hI.fits ?_));dsimp only;refine Ah (Ah (Ds (At ?_)));refine At ?_;show Az _ _ (if (!(byT w)&&(!t.plain&&decide (es.size>1)))=Aa then _ else _) _ _ _
 rw[As (by rw[hI.pl];simp)]
 refine Ah (At ?_);refine Ah (Ah (B6 hS hd hI.fits (At ?_)));refine Ah (CG ?_);exact At ⟨_,rfl, "set_iterator",_,⟨_,AD _ rfl,rfl⟩,F.slot_si_next.lookup,h⟩
end
end Ov
end
section
namespace Ov
open PySem PySem.Spec PyProof.Rows PySem.W
theorem gH{m:Ae}{own:Own}(W:WF m own){e:Ag×Ai}:e∈ent m own↔∃ j,own j=Ab e:=by
 unfold ent;rw[VT];exact⟨λ⟨j,_,q⟩=>⟨j,q⟩,λ⟨j,q⟩=>⟨j,BA.mpr (V6 (W.rng j e q)),q⟩⟩
section
variable{w:AT}{L:Ac (Ac Ag×Al)}{es:Au (Ag×Ai)}{t:En}{m:Ae}{own:Own}
noncomputable def Kq(p:Ac Ag×Al):Ag×Ai:=Ent p.1 p.2
theorem SetI.perm(I:SetI w L es t m own)(nd:(L.map Kq).Nodup):es.toList.Perm (L.map Kq):=by
 have n1:es.toList.Nodup:=(Dc.mp (Pv I.lk I.wf)).imp λa z=>a (by rw[z])
 refine(VY n1 nd).mpr λe=>?_
 have e1:e∈es.toList↔∃ j,own j=Ab e:=by rw[I.lk.en];exact gH I.wf
 rw[e1,I.iff];constructor
 .rintro⟨p,hp,rfl⟩;exact Bi.mpr ⟨p,hp,rfl⟩
 .intro h;obtain⟨p,hp,rfl⟩:=Bi.mp h;exact⟨p,hp,rfl⟩
theorem ZD{α β:Type}[Inhabited α][Inhabited β]{f:α->β}{l:Ac α}{l':Ac β}(h:l'.Perm (l.map f)):∃ k:Ac α,k.Perm l/\l'=k.map f:=by
 obtain⟨p,hp,e⟩:=Se default h;rw[AH]at hp;refine⟨p.map λi=>l.getD i default,(hp.map _).trans (FD ?_),?_⟩
 .apply D4
  .simp
  .intro i h1 h2;simp[h2]
 .rw[e,Bc]
  apply BX
  intro i hi;have hi':i<l.length:=BA.mp (hp.mem_iff.mp hi);simp[hi']
theorem SetI.order(I:SetI w L es t m own)(S:Al)(ep:Ae)(nd:(L.map Kq).Nodup):∃ k:Ac (Ac Ag×Al),k.Perm L/\(Ic w S ep es).toList=k.map Kq:=ZD ((Sg w S ep es).trans (I.perm nd))
end
theorem Zr{k:Ac (Ac Ag×Al)}{os:Au (Ag×Ai)}{acc:Au Ai}(e:os.toList=k.map Kq)(h:ItemsOf (λi v=>∃ e,os[i]?=Ab e/\v=e.2) acc os.size):acc.toList=k.map λp=>Bu p.2:=by
 obtain⟨h1,h2⟩:=h;have n:os.size=k.length:=by have:=congrArg Fw e;simpa using this
 apply List.ext_getElem?
 intro j;by_cases hj:j<k.length
 .have ea:acc[j]?=Ab (acc[j]'(by omega)):=BE (by omega)
  obtain⟨x,hx,hv⟩:=h2 j _ ea;rw[BR,ea,Bx,AA hj,hv];rw[<-BR,e,Bx,AA hj]at hx;cases hx;rfl
 .rw[E9 (by rw[AQ];omega),E9 (by rw[AH];omega)]
section
variable{prog:AR}{w:AT}{A:AU}{E:Vq}{s:Ap}{S:Al}{L:Ac (Ac Ag×Al)}
theorem YC{Q:Ac Ai->Ap->Prop}(hh:A.handled=Ad)(hS:Ie w s.heap S L)(nd:(L.map Kq).Nodup)(hz:L.length<=1000)(hQ:∀(k:Ac (Ac Ag×Al))(h':AM)(tk:Ae),k.Perm L->(∀ b o,s.heap.get? b=Ab o->h'.get? b=Ab o)->s.heap.objs.size<=h'.objs.size->Q (k.map λp=>.ref p.2) {s with heap:=h',toks:=tk}):Az (model prog w) A (collect (.ref S)) Q E s:=by
 obtain⟨o,es,ep,t,m,own,ho,hx,hd,hI⟩:=hS;obtain⟨k,kpk,ke⟩:=hI.order S ep nd;have lS:S<s.heap.objs.size:=AJ ho;have hSS:s.heap.objs.size≠S:=EK lS;have hsz:es.size<=1000:=by rw[hI.sz];exact hz
 unfold collect;refine Ah (Yl (Ek F.entry_proto_collect ?_));rw[DG F.plain_proto_collect _];show Az _ A.in1 (newList [] >>= λl=>again (.builtin "list.__iadd__" ⟨[l,.ref S],[]⟩)) _ _ s
 refine Ah (CG ?_);refine At ⟨Gc Xb _,Ek F.entry_list_iadd ?_⟩;rw[DG Xb _];have ho₁:(s.heap.push { cls:=.type "list",data:=.seq ([]:Ac Ai).toArray }).get? S=Ab o:=Aq _ ho;have hl₁:(s.heap.push { cls:=.type "list",data:=.seq ([]:Ac Ai).toArray }).get? s.heap.objs.size=Ab { cls:=.type "list",data:=.seq ([]:Ac Ai).toArray }:=AD _ rfl;have hT:Jr { s with heap:=s.heap.push { cls:=.type "list",data:=.seq ([]:Ac Ai).toArray } } (.ref S) "set" := ⟨o,ho₁,hx.1⟩
 have h1:Ws (.ref s.heap.objs.size) (.ref S)=Af:=by simp[Ws,hSS]
 show Az _ A.in1 (Wr (.ref s.heap.objs.size) (.ref S) (.ref s.heap.objs.size)) _ _ _;unfold Wr;refine Ah (JG hT ?_);rw[As (by rw[h1];decide)]
 refine Ah (aH ho₁ hx hd hI ?_);refine Ah (Eo ?_);have ho₂:((s.heap.push { cls:=.type "list",data:=.seq ([]:Ac Ai).toArray }).push (Jh 0 0 S es.size ep)).get? S=Ab o:=Aq _ ho₁;have hl₂:((s.heap.push { cls:=.type "list",data:=.seq ([]:Ac Ai).toArray }).push (Jh 0 0 S es.size ep)).get? s.heap.objs.size=Ab { cls:=.type "list",data:=.seq ([]:Ac Ai).toArray }:=Aq _ hl₁;have hT₂:Jr { s with heap:=(s.heap.push { cls:=.type "list",data:=.seq ([]:Ac Ai).toArray }).push (Jh 0 0 S es.size ep) } (.ref S) "set" := ⟨o,ho₂,hx.1⟩
 unfold Builtin.List.listLengthHint;refine Ah (Iu hT₂ F.slot_set_len.lookup ?_)
 (generalize hid:("set.__len__" : CO)=id0;(fail_if_success (clear hid id0));wp_delta;rw[show splitId id0=Ab ("set", "__len__") from by subst hid;decide+kernel];subst hid)
 refine Ah (Gi (b:=Aa) hT₂ (by rw[GY];kernel_rfl) ?_)
 refine Ah (JG hT₂ ?_);refine At ?_;rw[Ar (by decide+kernel)]
 refine Ah (GH ?_);unfold Builtin.List.listTouch;refine Ah (Ah (Hd hl₂ rfl ?_ (BD _) (by simp[Bz])))
 have hl₃:=Io hl₂ (·.push AG);refine(Hd hl₃ rfl ?_ (by simp[Bz]) (BD _))
 have hl₄:=Io hl₃ (·.pop);have kp4:∀ b o,s.heap.get? b=Ab o->((((s.heap.push { cls:=.type "list",data:=.seq ([]:Ac Ai).toArray }).push (Jh 0 0 S es.size ep)).update s.heap.objs.size (BV (·.push AG))).update s.heap.objs.size (BV (·.pop))).get? b=Ab o:=λb o e=>by
  have hb:b≠s.heap.objs.size:=AV (AJ e);rw[EQ _ _ _ _ hb,EQ _ _ _ _ hb];exact Aq _ (Aq _ e)
 have hit4:((((s.heap.push { cls:=.type "list",data:=.seq ([]:Ac Ai).toArray }).push (Jh 0 0 S es.size ep)).update s.heap.objs.size (BV (·.push AG))).update s.heap.objs.size (BV (·.pop))).get? (s.heap.push { cls:=.type "list",data:=.seq ([]:Ac Ai).toArray }).objs.size=Ab (Jh 0 0 S es.size ep):=by
  have hb:(s.heap.push { cls:=.type "list",data:=.seq ([]:Ac Ai).toArray }).objs.size≠s.heap.objs.size:=by rw[Ba];exact Nat.succ_ne_self _
  rw[EQ _ _ _ _ hb,EQ _ _ _ _ hb];exact AD _ rfl
 have sz4:s.heap.objs.size<=((((s.heap.push { cls:=.type "list",data:=.seq ([]:Ac Ai).toArray }).push (Jh 0 0 S es.size ep)).update s.heap.objs.size (BV (·.push AG))).update s.heap.objs.size (BV (·.pop))).objs.size:=by
  rw[Fm,Fm,Ba,Ba];omega
 have eI:(s.heap.push { cls:=.type "list",data:=.seq ([]:Ac Ai).toArray }).objs.size=s.heap.objs.size+1:=Ba ..;rw[eI]at hit4 ⊢;generalize (((s.heap.push { cls:=.type "list",data:=.seq ([]:Ac Ai).toArray }).push (Jh 0 0 S es.size ep)).update s.heap.objs.size (BV (·.push AG))).update s.heap.objs.size (BV (·.pop))=h4 at hl₄ kp4 hit4 sz4 ⊢;have neI:S≠s.heap.objs.size+1:=AV (Bs lS);have W:=(ZQ (prog:=prog) (A:=A.in1) (I:=s.heap.objs.size+1) hh hd hI neI).toS;have hSf:s.heap.objs.size∉[s.heap.objs.size+1,S]:=λhm=>by
  rcases AK.mp hm with e|hm
  .omega
  .exact hSS (A5.mp hm)
 have hst:SitAt w (s.heap.objs.size+1) S o es ep t 0 h4:=⟨⟨0,_,hit4,rfl,rfl,λ_=>by rw[hI.lk.pl];exact Zj _⟩,kp4 S o ho⟩
 refine At ⟨Gc F.plain_extend_loop _,codeAny_extend_loopS W (by rw[Bz];omega) _ hSf _ es.size 0 {s with heap:=h4} _ _ rfl (BD _) hst hl₄ (ItemsOf.nil _) λs' acc' c' hm hS' hacc=>?_⟩
 show Az _ A (load s.heap.objs.size >>= _) _ _ s';refine Ah (wpAny_load hS' ?_);have hacc':acc'.toList=k.map λp=>Bu p.2:=Zr ke (by rw[OG];exact hacc)
 refine At ?_;rw[hacc',Moved.eq_with hm];have kp:∀ b o,s.heap.get? b=Ab o->s'.heap.get? b=Ab o:=λb o e=>hm.heap b o (λhmem=>by
  have hb:=AJ e;rcases AK.mp hmem with z|z
  .exact AV hb z
  .exact AV (Bs hb) (A5.mp z)) (kp4 b o e)
 exact hQ k s'.heap s'.toks kpk kp (Fb (AJ hS'))
theorem dS{n:Ae}{p:Au Ae}(hp:Pm n p):p.toList.Perm (AB n):=by
 have hl:p.toList.length=n:=by rw[AQ,hp.sz]
 refine OC ?_ (λx hx=>BA.mpr (KZ hp x hx)) (by rw[DP,hl];exact Aw _)
 rw[List.Nodup,BF];intro i j hi hj hij e;rw[<-M5 hp hi,<-M5 hp hj]at e;have:=hp.inj i j (by omega) (by omega) e
 omega
theorem Za{Q:Vq}(hh:A.handled=Ad)(hS:Ie w s.heap S L)(nd:(L.map (·.1)).Nodup)(hz:L.length<=1000)(ht:∀ p∈L,EF s.heap (.ref p.2) p.1)(h:∀(k:Ac (Ac Ag×Al))(h':AM)(tk:Ae)(a:Al)(c:Ae),k.Perm L->k.map (·.1)=ET (L.map (·.1))->(∀ b o,s.heap.get? b=Ab o->h'.get? b=Ab o)->s.heap.objs.size<=a ->
      h'.get? a=Ab (CD "list" (k.map λp=>Bu p.2).toArray c)->Q (.ref a) {s with heap:=h',toks:=tk}):Az (model prog w) A (call (.builtin "sorted") [.ref S]) Q E s:=by
  have ndE:(L.map Kq).Nodup:=by
    refine Dc.mpr ((Dc.mp nd).imp_of_mem λ{p q} hp hq ne e=>ne ?_)
    have e2:Bu p.2=Bu q.2:=congrArg (·.2) e;have t1:=ht p hp;rw[e2]at t1;exact t1.uniq (ht q hq)
  refine Ww kind_sorted plain_sorted entry_sorted (args_sorted1 _) ?_;unfold Builtin.«sorted»;refine Ah (m:=checkCount "sorted" 1 1 _) (At ?_);refine Ah (YC hh hS ndE hz λk h1 tk kp keep hsz=>?_)
  have kl:k.length=L.length:=kp.length_eq;refine Ah (Ju ?_ (by rw[AH,Bz];omega))
  have hoL:(h1.push (CD "list" (k.map λp=>Bu p.2).toArray 0)).get? h1.objs.size=Ab (CD "list" (k.map λp=>Bu p.2).toArray 0):=AD _ rfl
  have kd:(k.map (·.1)).Nodup:=(kp.map _).symm.nodup nd;show Az _ _ _ _ _ { s with heap:=h1.push (CD "list" (k.map λp=>Bu p.2).toArray 0),toks:=tk }
  refine Ah (Eo (B0 Wm ⟨_,hoL,rfl⟩ Wl (Qn (s:={ s with heap:=h1.push (CD "list" (k.map λp=>Bu p.2).toArray 0),toks:=tk }) (rs:=k.map (·.1)) hoL (by simp) (λi v r e1 e2=>?_) kd (by rw[AH];omega) λpp hp hs=>⟨_,rfl,?_⟩) (Wf _)))
  · rw[Bx]at e1 e2;cases e:k[i]? with
    |none=>rw[e]at e1;cases e1
    |some p=>
      rw[e]at e1 e2;cases e1;cases e2;exact(ht p (kp.mem_iff.mp (Ey e))).kept λb o q=>Aq _ (keep b o q)
  refine At ⟨_,rfl,?_⟩;have vl:(k.map λp=>Bu p.2).length=(k.map (·.1)).length:=by simp
  rw[vl]at hp hs;have e1:=QG kd hp hs;have pl:∀ i∈pp.toList,i<k.length:=λi hi=>by have:=KZ hp i hi;simpa using this
  obtain⟨c,hat⟩:=sortedHeap_at (out:=Ib (k.map λp=>Bu p.2) pp) hoL
  have o1:(Ib (k.map λp=>Bu p.2) pp)=((pp.toList.map λi=>k.getD i ([],0)).map λp=>Bu p.2).toArray:=by
    unfold Ib
    congr 1
    rw[Bc]
    apply BX
    intro i hi;simp[pl i hi]
  rw[o1]at hat ⊢;refine h (pp.toList.map λi=>k.getD i ([],0)) _ tk _ c ?_ ?_ (λb o q=>?_) hsz hat
  · refine Gx ?_ kp;refine Gx ?_ (FD (show (AB k.length).map (λi=>k.getD i ([],0))=k from ?_))
    · refine List.Perm.map _ ?_;have:pp.toList.Perm (AB (k.map (·.1)).length):=dS hp;simpa using this
    · apply D4
      · simp
      · intro i h1 h2;simp[h2]
  · have e2:(pp.toList.map λi=>k.getD i ([],0)).map (·.1)=pp.toList.map (λi=>(k.map (·.1)).getD i []):=by
      rw[Bc]
      apply BX
      intro i hi;simp[pl i hi]
    rw[e2,e1];exact(Oj kd (LY nd) ((Jf _).trans (kp.map _).symm))
  · have hb:b<s.heap.objs.size:=AJ q;rw[sortedHeap_old (AV (AS hb hsz)) (by rw[Ba];exact Bs (AS hb hsz))]
    exact Aq _ (keep b o q)
end
end Ov
end
namespace Ov
open PySem PySem.Spec PyProof.Rows L2
variable{P:AR}{w:AT}{H:Hp}{X:Cx}{pins:Pn}{Z:L2.St}{s:Ap}{h h':AM}{a T':Al}{ex:Ac Al}{oe:De}{vs:Au Ai}{Q:Hg->Ap->Prop}{a0:Ai}
section
variable{X:Cx}
theorem aG:∀{k:Ac Ag}{its:Ac Ai},A6 (k.map V.int) its->ItemsAre (CS P w) k its:=by
 intro k
 induction k with
 |nil=>intro its v;cases v;exact .nil
 |cons i k ih=>
  intro its v;cases v with
  |cons v1 v2=>
   obtain⟨t,rfl⟩:=v1;exact .cons (intKind_is _ _ _ _) (ih v2)
def Ko(K:Fg)(H:Hp):Ac V->Ac (Ac Ag)->Prop
 |[],[]=>Iw
 |x::xs,k::ks=>(∃ b,x=.ref b/\SqT K H b (k.map V.int))/\Ko K H xs ks
 |_,_=>Bj
theorem fF{K:Fg}{CL:ClA}{A:Al->Prop}:∀{ds:Ac D}{ks:Ac (Ac Ag)}{xs:Ac V},Hl ds=Ab ks->Reps K CL H A xs ds->Ko K H xs ks:=by
 intro ds
 induction ds with
 |nil=>
  intro ks xs e r;cases e;cases xs with
  |nil=>exact trivial
  |cons=>exact r.elim
 |cons d ds ih=>
  intro ks xs e r;cases xs with
  |nil=>exact r.elim
  |cons x xs=>
   cases d with
   |tup es=>
    have e':((FI es).bind λk=>(Hl ds).map (k :: ·))=Ab ks:=e
    cases e1:FI es with
    |none=>rw[e1]at e';cases e'
    |some k=>
     cases e2:Hl ds with
     |none=>rw[e1,e2]at e';cases e'
     |some ks'=>
      rw[e1,e2]at e';cases e';obtain⟨a,ys,ev,na,sq,rs⟩:=r.1;exact⟨⟨a,ev,NQ e1 rs ▸ sq⟩,ih e2 r.2⟩
   |_=>cases e
theorem Ko.length{K:Fg}{H:Hp}:∀{xs:Ac V}{ks:Ac (Ac Ag)},Ko K H xs ks->xs.length=ks.length
 |[],[],_=>rfl
 |_::_,_::_,h=>congrArg (· + 1) (Ko.length h.2)
 |[],_::_,h=>h.elim
 |_::_,[],h=>h.elim
theorem fG(I:Inv X pins Z H s):∀{xs:Ac V}{ks:Ac (Ac Ag)}{its:Ac Ai},Ko X.K H xs ks->A6 xs its->∀(j:Ae)(v:Ai),its[j]?=Ab v->∃ b,v=.ref b/\Ct (CS X.prog X.w) s.heap (ks.getD j []) b:=by
 intro xs
 induction xs with
 |nil=>intro ks its k v j u e;cases v;cases e
 |cons x xs ih=>
  intro ks its k v j u e;cases ks with
  |nil=>exact k.elim
  |cons k0 ks=>
   cases v with
   |cons v1 v2=>
    cases j with
    |zero=>
     cases e;obtain⟨⟨b,rfl,sq⟩,_⟩:=k;cases v1;obtain⟨its,vs,⟨o,ho,hc,n,hd⟩,_⟩:=I.tuple sq;exact⟨b,rfl,o,its.toArray,n,ho,hc,hd,aG vs⟩
    |succ j=>exact ih k.2 v2 j u e
variable{CL:ClA}{W:XW}{pos p pos' p':A3}{a:Am}{fa:Rho->R D}
end
theorem fM{ks:Ac (Ac Ag)}(h:Ml ks=Aa):∀ r∈ks,∀ q∈ks,C2 r=C2 q->r=q:=λr hr q hq e=>by
 have:=Br.mp (Br.mp h r hr) q hq;rw[BJ e]at this;simpa using this
theorem Og(kA:Ae->Ac Ag×Al):∀ n,(ES kA n).map (·.1)=ddK ((AB n).map λi=>(kA i).1)
 |0=>rfl
 |n+1=>by
  have ih:=Og kA n;unfold ddK at ih ⊢;rw[Ik,E3,List.foldl_append,<-ih];show (IB (ES kA n) (kA n).1 (kA n).2).map (·.1)=_;unfold IB;have e:((ES kA n).map (·.1)).any (λq=>q==(kA n).1)=(ES kA n).any λp=>p.1==(kA n).1:=by rw[Vz];rfl
  show _=if (((ES kA n).map (·.1)).any λq=>q==(kA n).1)=Aa then (ES kA n).map (·.1) else (ES kA n).map (·.1)++[(kA n).1]
  rw[e];split
  .rfl
  .rw[E3];rfl
theorem Y_4{k:Ac Ag}(t:Ct (CS P w) h k a)(hn:k≠[]):EF h (.ref a) k:=by
 obtain⟨o,items,n,ho,hc,hd,hi⟩:=t;refine⟨a,items,rfl,⟨o,ho,hc,n,hd⟩,?_,hn⟩;generalize items.toList=vs at hi
 clear ho hc hd hn
 induction hi with
 |nil=>exact .nil
 | @cons k v ks vs h1 h2 ih=>
  cases v with
  |int i t=>
   have e:i=k:=by
    have:decide (i=k)=Aa\/decide (k=i)=Aa:=by
     first
     |exact .inl h1
     |exact .inr h1
     |(have h1':(i==k)=Aa:=h1;exact .inl (BJ (eq_of_beq h1')))
     |(have h1':(k==i)=Aa:=h1;exact .inr (BJ (eq_of_beq h1')))
    rcases this with q|q
    .exact A9 q
    .exact(A9 q).symm
   subst e;exact .cons _ _ ih
  |_=>exact absurd (show Af=Aa from h1) AE
theorem Sc{α:Type}{f:Ae->α}{n:Ae}:∀{k:Ac α},(∀ p∈k,∃ j,j<n/\p=f j)->∃ js:Ac Ae,(∀ j∈js,j<n)/\k=js.map f
 |[],_=>⟨[],λ_ h=>by (cases h),rfl⟩
 |p::k,h=>by
  obtain⟨j,hj,rfl⟩:=h p AL;obtain⟨js,h1,rfl⟩:=Sc (k:=k) λq hq=>h q (AF _ hq)
  exact⟨j::js,λi hi=>by
   rcases AK.mp hi with rfl|hi
   .exact hj
   .exact h1 i hi,rfl⟩
noncomputable def adr:Ai->Al
 |.ref b=>b
 |_=>0
section
variable{X:Cx}
def tJ(K:Fg)(ta:TA):TE:=λZ H Q=>ta Z H λvs H1=>∃ a xs ks,vs=[.ref a]/\SqL K H1 a xs/\Ko K H1 xs ks/\(∀ k∈ks,k≠[])/\ks.length<=200/\Ml ks=Aa /\
 ∀(js:Ac Ae)(p:Al),(∀ j∈js,j<ks.length)->(js.map λj=>ks.getD j [])=ET (ddK ks)->H1 p=Ad->Q (.ref p) (upd H1 p (.lst (js.map λj=>xs.getD j .non)))
theorem dX{a:Am}{ta:TA}{p p' pos pos':A3}(hu:X.A.units+64<B8)(hc:X.calm=Aa)(hg:Gl X "sorted")(hm:X.mg "sorted" = Ad)(hg':Gl X "set")(hm':X.mg "set" = Ad)(ha:PA X [a] ta)(hs:AI [a] X.env=[(Af,eval a X.env)]):
    PE X (.Call (.Name "sorted" p) [.Call (.Name "set" p') [a] [] pos'] [] pos) (tJ X.K ta):=by
  intro pins s Z H Q I h;refine IT (HQ I hg hm Wi (Wk ?_ rfl rfl));show Az _ _ (spliced ((Af,eval (.Call (.Name "set" p') [a] [] pos') X.env)::Cz pos (AI [] X.env))) _ _ s;refine G7 ?_;refine IT (HQ I hg' hm' PyProof.Rows.boot_set (BL (thn (ha pos' pins s Z H _ I h) λus s1 ⟨vs,H1,I1,r1,q1⟩=>?_) (by rw[hs];rfl) rfl))
  obtain⟨b,xs,ks,e,sq,kv,hne,hl,hin,q⟩:=q1;subst e;cases r1 with
  |cons r rr=>
    cases rr;cases r;obtain⟨its,rv,pl,hz⟩:=I1.list sq;have hsz:its.toArray.size=ks.length:=by rw[AN,<-rv.length,kv.length]
    have hiz:its.length=ks.length:=by rw[<-rv.length,kv.length]
    have kat:∀ j v,its[j]?=Ab v->v=.ref (adr (its.getD j AG))/\Ct (CS X.prog X.w) s1.heap (ks.getD j []) (adr (its.getD j AG)):=λj v e=>by
      obtain⟨c,rfl,hk⟩:=fG I1 kv rv j v e;have e2:its.getD j AG=.ref c:=by rw[A4,e];rfl
      rw[e2];exact⟨rfl,hk⟩
    have hmem:∀ j,j<ks.length->ks.getD j []∈ks:=λj hj=>by
      rw[A4,AA hj];exact CU _
    refine Yt (kA:=λj=>(ks.getD j [],adr (its.getD j AG))) (by omega) (I1.ok.hd hc) pl.isList (λj v e=>kat j v (by rw[<-Eh];exact e)) (by rw[hsz];exact hl)
      (λi j hi hj e=>fM hin _ (hmem i (by rw[<-hsz];exact hi)) _ (hmem j (by rw[<-hsz];exact hj)) e) λh' tk hS kp=>Hx ?_
    have dd:(ES (λj=>(ks.getD j [],adr (its.getD j AG))) its.toArray.size).map (·.1)=ddK ks:=by
      rw[Og,hsz]
      congr 1
      apply D4
      · simp
      · intro i h1 h2;simp[h2]
    refine Za (s:={s1 with heap:=h',toks:=tk}) (I1.ok.hd hc) hS (Of _ _) (by have:=LO (λj=>(ks.getD j [],adr (its.getD j AG))) its.toArray.size;omega) (λp hp=>?_) λk h2 tk2 aL c kp2 ek keep hge hat=>?_
    · obtain⟨j,hj,rfl⟩:=J5 hp;have hj':j<its.length:=by rw[hiz,<-hsz];exact hj
      obtain⟨_,hk⟩:=kat j _ (AA hj');exact(Y_4 hk (hne _ (hmem j (by omega)))).kept λb o e=>kp b o (AJ e) e
    · obtain⟨js,hjs,rfl⟩:=Sc (k:=k) (n:=its.toArray.size) (f:=λj=>(ks.getD j [],adr (its.getD j AG))) λp hp=>J5 (kp2.mem_iff.mp hp)
      rw[hsz]at hjs;rw[dd,Bc]at ek;have ek':(js.map λj=>ks.getD j [])=ET (ddK ks):=ek
      have sz1:s1.heap.objs.size<=h'.objs.size:=by
        obtain⟨o,es,ep,t,m,own,ho,_⟩:=hS;exact Fb (AJ ho)
      have ev:((js.map λj=>(ks.getD j [],adr (its.getD j AG))).map λp=>Bu p.2)=js.map λj=>its.getD j AG:=by
        rw[Bc]
        apply BX
        intro j hj;have hj':j<its.length:=by rw[hiz];exact hjs j hj
        have e1:=AA hj';have e2:its.getD j AG=its[j]:=by rw[A4,e1];rfl
        have:=(kat j _ e1).1;show Bu (adr (its.getD j AG))=its.getD j AG;rw[<-this,e2]
      rw[ev]at hat;have hf:H1 aL=Ad:=I1.hok.fresh (CV sz1 hge);have vp:=Oi rv js (λi hi=>by rw[kv.length];exact hjs i hi)
      have jl:js.length<=1000:=by
        have e1:js.length=(ET (ddK ks)).length:=by rw[<-ek',AH]
        have e2:=(Jf (ddK ks)).length_eq;have e3:=LO (λj=>(ks.getD j [],adr (its.getD j AG))) its.toArray.size
        rw[<-dd,AH]at e2;rw[<-dd]at e1;omega
      refine⟨.ref aL,_,I1.laid (t':=tk2) (λb o e=>keep b o (kp b o (AJ e) e)) (CV sz1 hge) (o:=.lst (js.map λj=>xs.getD j .non)) ?_,rfl,q js aL hjs ek' hf⟩
      refine⟨?_,js.map λi=>its.getD i AG,c,vp,hat⟩
      rw[AH,Bz];omega
end
section
variable{X:Cx}{CL:ClA}{W:XW}{pos p pos' p':A3}{a:Am}{fa:Rho->R D}
theorem RP:∀{xs:Ac D}{k:Ac Ag},FI xs=Ab k->xs=k.map D.int
 |[],k,h=>by cases h;rfl
 |d::xs,k,h=>by
  cases d with
  |int i=>
   have h':(FI xs).map (i :: ·)=Ab k:=h;cases e:FI xs with
   |none=>rw[e]at h';cases h'
   |some k'=>
    rw[e]at h';cases h';rw[RP e];rfl
  |_=>cases h
theorem SN:∀{ds:Ac D}{ks:Ac (Ac Ag)},Hl ds=Ab ks->ds=ks.map tI
 |[],ks,h=>by cases h;rfl
 |d::ds,ks,h=>by
  cases d with
  |tup xs=>
   have h':((FI xs).bind λk=>(Hl ds).map (k :: ·))=Ab ks:=h
   cases e:FI xs with
   |none=>rw[e]at h';cases h'
   |some k=>
    cases e2:Hl ds with
    |none=>rw[e,e2]at h';cases h'
    |some ks'=>
     rw[e,e2]at h';cases h';rw[SN e2,RP e];rfl
  |_=>cases h
theorem eP(ha:ST X CL W a fa)(hu:X.A.units+64<B8)(hc:X.calm=Aa)(hg:Gl X "sorted")(hm:X.mg "sorted" = Ad)(hg':Gl X "set")(hm':X.mg "set" = Ad)(hs:AI [a] X.env=[(Af,eval a X.env)]):
  SE X CL W (.Call (.Name "sorted" p) [.Call (.Name "set" p') [a] [] pos'] [] pos) (λU=>(fa U).bind λx=>biD .sset [x]):=
 λA=>PE.weak (dX hu hc hg hm hg' hm' (FB (ha A) G1 hs) hs) λZ H Q ⟨hA,U,g,q⟩=>⟨hA,U,g,Bk.bind q λd v H1 _ s1 r1 p1=>by
  cases d with
  |lst ds=>
   obtain⟨b,xs,rfl,sq,r⟩:=r1.lst_of;have p2:Bk (λH=>Rep X.K CL H A) W H1 (K9 ds) Q:=p1
   unfold K9 at p2;cases e:Hl ds with
   |none=>rw[e]at p2;exact p2.elim
   |some ks=>
    rw[e]at p2;dsimp only at p2;split at p2
    .rename_i hb;simp only[An]at hb;obtain⟨⟨h1,h2⟩,h3⟩:=hb;have kv:=fF e r;refine⟨b,xs,ks,rfl,sq,kv,λk hk z=>?_,Fa h2,h3,λjs p hj ej hp=>?_⟩
     .have:=Br.mp h1 k hk;rw[z]at this;cases this
     .refine p2 _ _ (GJ hp _) ?_;have ed:=SN e;subst ed;have rp:=Ol r js (λi hi=>by rw[AH];exact hj i hi)
      have e2:(js.map λi=>(ks.map tI).getD i .non)=JM (ltD 1) ((ddK ks).map λk=>D.tup (k.map D.int)):=by
       have e3:JM (ltD 1) ((ddK ks).map tI)=(ET (ddK ks)).map tI:=LX _;show _=JM (ltD 1) ((ddK ks).map tI);rw[e3,<-ej,Bc]
       apply BX
       intro i hi;simp[hj i hi]
      rw[e2]at rp;exact OR (hA.same s1) hp rp
    .exact p2.elim
  | _=>exact p1.elim⟩
end
section
theorem fU(l:Al)(items:Au Ai)(n:Ae)(b:Al)(items2:Au Ai)(n2:Ae)(dd:Ao Al)(sl:Au (Ao Ai))(hs0:¬(!items.isEmpty&&DH (items.size+items2.size))=Aa)(hs1:items.size<=sizeLine)(hs2:items.size+items2.size<=sizeLine+1):
  Meets (Builtin.«list.extend» ⟨[.ref l,.ref b],[]⟩) (λ_ R s=>s.heap.get? l=Ab { cls:=.type "list",dict:=Ad,data:=.seq items n,slots:=#[] }/\s.heap.get? b=Ab { cls:=.type "tuple",dict:=dd,data:=.seq items2 n2,slots:=sl }/\R (.ok (.ret AG)) {s with heap:=s.heap.update l (BV λx=>x++items2),toks:=s.toks}):=
 .of_wp λprog w A R s h=>by
  obtain⟨hp,g,d,tk,os⟩:=s;obtain⟨hl,hb,h⟩:=h;have f1:=AutoSeq1.idx_int;have f2:=AutoSeq1.sub_tuple_tuple;have f3:=AutoSeq1.sub_list_list;have f4:=AutoSeq1.sub_tuple_list;have f5:=AutoSeq1.sub_list_tuple;
  have hz':(items++items2).size<=sizeLine+1:=by rw[Ht];exact hs2
  wp_walk using (wpAny_updateSeq hl rfl (hz:=hs1) (_hz':=hz')),Wp hl,Wp hb;exact⟨_,rfl,h⟩
end
section
variable{X:Cx}
def qW(K:Fg):V->Ac V->Hp->VK->Prop:=λx vs H Q=>∃ l b xs zs,x=.ref l/\vs=[.ref b]/\H l=Ab (.lst xs)/\SqT K H b zs/\xs.length+zs.length<=sizeLine/\Q .non (upd H l (.lst (xs++zs)))
theorem gE:MtM X "list.extend" (qW X.K):=by
 intro pins s Z H x vs v us Q I rx rv h;obtain⟨l,b,xs,zs,rfl,rfl,hH,hB,hz,q⟩:=h;cases rx;obtain⟨u,rfl,ru⟩:=rv.one;cases ru;obtain⟨z,its,n,r,hl,e⟩:=I.lstM hH;obtain⟨its2,r2,⟨o,e2,c2,n2,d2⟩,z2⟩:=I.tuple hB;have hl2:=r2.length;obtain⟨oc,od,oda,os⟩:=o;dsimp only at c2 d2;subst c2 d2;have hsz:its.toArray.size+its2.toArray.size<=sizeLine:=by rw[AN,AN];omega
 have hlong:¬ (!its.toArray.isEmpty&&DH (its.toArray.size+its2.toArray.size))=Aa:=by
  rw[RH hsz,FL];exact AE
 refine Ja Fc ⟨_,e,rfl⟩ W6 (W1 _ _)
  (fU l its.toArray n b its2.toArray n2 od os hlong (by rw[AN];omega) (by omega)) ⟨e,e2,?_⟩
 refine⟨.non,_,I.lset (its':=its++its2) hH e (by simp) (r.append r2) ?_,rfl,q⟩
 rw[Bp];omega
variable{CL:ClA}{W:XW}{o e:Am}{fe:Rho->R D}{i:Ae}{apos cpos pos:A3}
theorem eG(ho:PE X o (JQ i))(he:ST X CL W e fe)(hbase:Gb o "extend" X.env (eval o X.env)=eval o X.env)(hfew:((Cz cpos (AI [e] X.env)).all (λx=>!x.1)&&(IW cpos (G3 [] X.env)).all (λx=>x.1.isSome)&&decide ([e].length+([]:Ac Ei).length+(if ([]:Ac Ei).isEmpty then 0 else 1)<30))=Aa)(hline:(apos.endLine==cpos.line)=Aa)(hs:AI [e] X.env=[(Af,eval e X.env)])(hsw:EI (.Call (.Attribute o "extend" apos) [e] [] cpos) Ad pos.line X.env=pure Af):
  SS X CL W (.Expr (.Call (.Attribute o "extend" apos) [e] [] cpos) pos) (λU=>O.of U (Dj U i) λxs=>O.of U (fe U) λx=>O.of U ((Dr .Add x (.tup [])).bind λy=>biD .list [y]) λd=>O.of U (JN d) λys=>if BQ (xs.length+ys.length)=Aa then .next (U.set i (Ab (.lst (xs++ys),Aa))) else .bad):=λFz B pins s Z H D I ⟨U,x,p⟩=>by
 refine MR (M6 FT Fc Xi gE ho (FB (he (CP B U Z)) G1 hs) hbase hfew hline hs rfl) hsw pins s Z H D I ?_;dsimp only at p;cases e1:Dj U i with
 |bad=>rw[e1]at p;exact p.elim
 |exn z=>exact(OF e1).elim
 |ok ds=>
  rw[e1,O.of_ok]at p;have hi:=OO e1;obtain⟨a,xs,ds',q,e2,ha,hh,r⟩:=x.good.ow i _ hi;cases e2;refine⟨_,q,.inl ⟨rfl,xs,SqL.of hh⟩,x.aok,U,x.good,CJ.ex x p λd v H' _ s rv x' q'=>?_⟩
  cases d with
  |tup es=>
   obtain⟨b,ys,rfl,h0,h1,rs⟩:=C3.tup_of rv;have eb:Dr .Add (.tup es) (.tup [])=if (!es.isEmpty&&BQ (es.length+0))=Aa then .ok (.tup (es++[])) else .bad:=rfl
   rw[eb]at q';split at q'
   .rw[R.bind_ok,show biD .list [.tup (es++[])]=.ok (.lst (es++[])) from rfl,O.of_ok,QY,O.of_ok,Bw]at q'
    split at q'
    .rename_i hz;refine⟨a,b,xs,ys,rfl,rfl,s _ _ hh,h1,?_,q' _ _ (x'.upd hi q ((r.same s).append rs))⟩;rw[r.length,rs.length];exact Je hz
    .exact q'.elim
   .exact q'.elim
  |_=>exact q'.elim
end
section
open PySem.AutoSeq1 (wpAny_loadPart')
end
section
variable{prog:AR}{w:AT}{A:AU}{R:IL->Ap->Prop}{I S T:Al}{u v:Ai}{c:Ae}{P:Ae->Ai->Prop}{St:Ae->AM->Prop}{s:Ap}{r q:Ac Ag}
end
section
variable{X:Cx}{CL:ClA}{W:XW}
end
def NE(e T:Al)(cls:Ai)(dx:Ao Al)(fl:Ai)(h:AM):Prop:=∃ oe vs oT ts a0,h.get? e=Ab oe/\oe.cls=cls/\oe.dict=dx/\vs[0]?=Ab a0/\oe.data=.fields vs/\vs[1]?=Ab (.ref T)/\T≠e/\h.get? T=Ab oT/\oT.data=.fields ts/\ts[3]?=Ab fl
noncomputable abbrev Fly(e T:Al)(cls:Ai)(dx:Ao Al)(h:AM):Prop:=NE e T cls dx AG h
noncomputable def sF(C:Al)(dx:Ao Al)(t:Al):De:={cls:=.ref C,dict:=dx,data:=.fields #[.ref t,.none,.none,.none,.bool Af,.none]}
structure Shift (ex fs:Ac Al) (h h':AM):Prop where
 keep:∀ b o,h.get? b=Ab o->b∉ex->b∉fs->h'.get? b=Ab o
 slot:∀ b o,h.get? b=Ab o->b∈fs->∃ sl,h'.get? b=Ab {o with slots:=sl}
theorem ObjOk.isThere:∀(o:HO),L2.ObjOk P w H h a o->∃ ob,h.get? a=Ab ob
 |.lst _,x=>by obtain⟨_,_,_,_,e⟩:=x;exact⟨_,e⟩
 |.tup _,x=>by obtain⟨_,_,_,p⟩:=x;obtain⟨o,e,_⟩:=p;exact⟨_,e⟩
 |.dK _,x=>by obtain⟨_,_,_,_,o,_,_,e,_⟩:=x;exact⟨_,e⟩
 |.dT _,x=>by obtain⟨_,_,_,_,o,_,_,e,_⟩:=x;exact⟨_,e⟩
 |.set _ _,x=>by obtain⟨o,_,_,_,e,_⟩:=x;exact⟨_,e⟩
 |.ins _ _ _,x=>by obtain⟨_,_,_,e,_⟩:=x;exact⟨_,e⟩
 |.own _,x=>x
 |.xd _,x=>by obtain⟨_,⟨_,_,_,e,_⟩,_⟩:=x;exact⟨_,e⟩
 |.met _ _,x=>⟨_,x⟩
 |.rng _ _,x=>by obtain⟨_,_,_,e⟩:=x;exact⟨_,e⟩
 |.frz _ _,x=>⟨_,x.1⟩
 |.tbl _,x=>⟨_,x⟩
 |.ext _,x=>x.2.1
theorem RT(x:HOk P w H h)(e:h.get? a=Ad):H a=Ad:=by
 cases q:H a with
 |none=>rfl
 |some o=>
  obtain⟨ob,z⟩:=ObjOk.isThere o (x a o q);rw[e]at z;cases z
theorem HOk.shift{fs:Ac Al}(x:HOk P w H h)(sh:Shift ex fs h h')(h1:∀ b∈ex,H b=Ad)(h2:∀ b∈fs,H b=Ad):HOk P w H h':=λa o e=>
 (x a o e).stay (λb u hb q=>by
  have hs:∃ v,H b=Ab v:=by
   rcases hb with rfl|hb
   .exact⟨_,e⟩
   .exact⟨_,hb⟩
  obtain⟨v,hv⟩:=hs;exact sh.keep b u q (λz=>by rw[h1 b z]at hv;cases hv) (λz=>by rw[h2 b z]at hv;cases hv)) (λ_ q=>q) λ_ _ q=>q
theorem Un.shift{fs0 fs ex:Ac Al}{H':Hp}{h0:AM}(u:Un fs0 [] H H' h0 h)(sh:Shift ex fs h h')(h1:∀ b∈ex,h0.get? b=Ad)(h2:∀ b∈fs,b∈fs0\/h0.get? b=Ad):Un fs0 [] H H' h0 h' where
 keep:=λb o q n hb hx=>sh.keep b o (u.keep b o q n hb hx) (λz=>by rw[h1 b z]at q;cases q) λz=>(h2 b z).elim hb λe=>by rw[e]at q;cases q
 slot:=λb o q n hb hx=>by
  obtain⟨sl,e1⟩:=u.slot b o q n hb hx;by_cases hf:b∈fs
  .obtain⟨sl',e2⟩:=sh.slot b _ e1 hf;exact⟨sl',e2⟩
  .exact⟨sl,sh.keep b _ e1 (λz=>by rw[h1 b z]at q;cases q) hf⟩
 free:=u.free
 there:=λb o q hx=>by
  obtain⟨o',e1⟩:=u.there b o q hx;by_cases hf:b∈fs
  .obtain⟨sl',e2⟩:=sh.slot b _ e1 hf;exact⟨_,e2⟩
  .exact⟨o',sh.keep b _ e1 (λz=>by rw[h1 b z]at q;cases q) hf⟩
 tups:=u.tups
 frzs:=u.frzs
 tbls:=u.tbls
theorem fB(f:Au Ai->Au Ai)(o:De):(Fv f o).dict=o.dict:=by
 obtain⟨c,d,dt,sl⟩:=o;cases dt<;>rfl
section
variable{M:Fn}{A:AU}{E:Vq}{s:Ap}{env:CY}{outer:Ac CY}{L e T:Al}{cls:Ai}{dx:Ao Al}{base h:AM}
theorem QF{hd:Ai}{nx:Aj}(hfr:A.frames=Ab (env::outer))(hf:env.frame=Ab L)(ff:s.heap.FunFrames base (env::outer))(he:s.heap.get? e=Ab oe)(dt:oe.data=.fields vs)(hz:1<vs.size)(hQ:∀ h' T' oT ts,h'.get? e=Ab (Fv (·.setIfInBounds 1 (.ref T')) oe)->T'≠e->s.heap.get? T'=Ad->h'.get? T'=Ab oT->oT.data=.fields ts->ts[3]?=Ab (Cr L)->Shift [e] (frs (env::outer)) s.heap h'->Q () {s with heap:=h'}):
  Az M A (do
   let fr <-frameOf env
   let pl <-entryPlaceOf L nx
   let en <-Wy hd fr .none (Cr L) .none pl
   J2 (.ref e) 1 en) Q E s:=by
 have nf:e∉frs (env::outer):=λz=>by
  obtain⟨_,o,q,n⟩:=ff.mem z;rw[he]at q;cases q;exact n vs dt
 refine Ah (wpAny_frameOf_fun hfr ff hf λk1 so=>Ah (wpAny_entryPlaceOf λpl ip=>?_))
 obtain⟨sz,sm,sl⟩:=so;have e1:k1.get? e=Ab oe:=(sm e nf).trans he;unfold Wy;unfold newFields;refine Ah (CG ?_ (ip.sizeOk5 _ _ _ _ _));generalize hX:({ cls:=.type "traceback",dict:=Ad,data:=.fields ([hd,.ref L,.none,Cr L,.none]++(if pl.isEmpty then GW 6 AG else pl)).toArray }:De)=ob
 have od:ob.data=.fields ([hd,.ref L,.none,Cr L,.none]++(if pl.isEmpty then GW 6 AG else pl)).toArray:=by rw[<-hX]
 have nl:k1.objs.size≠e:=EK (AJ e1);have e2:=Aq ob e1;refine D7 e2 dt hz ?_;have up:∀ b,b≠e->((k1.push ob).update e (Fv (·.setIfInBounds 1 (.ref k1.objs.size)))).get? b=(k1.push ob).get? b:=λb nb=>Co _ _ (DQ nb)
 have lf:ob.isFreed=Af:=by rw[<-hX];rfl
 refine hQ _ k1.objs.size ob _ (Cv _ e2 (Dv (Ca dt _))) nl ?_ ((up _ nl).trans (AD k1 lf)) od ?_ ⟨λb o q n1 n2=>?_,λb o q hb=>?_⟩
 .rw[sz];exact GC (Aw _)
 .simp
 .have nb:b≠e:=λz=>n1 (by rw[z];exact AL)
  rw[up b nb];exact Aq ob ((sm b n2).trans q)
 .obtain⟨sl',q'⟩:=sl b o q;have nb:b≠e:=λz=>nf (z ▸ hb)
  exact⟨sl',(up b nb).trans (Aq ob q')⟩
theorem Rj{oT:De}{ts:Au Ai}{fl:Ai}(hc:oe.cls=cls)(hx:oe.dict=dx)(h0:vs[0]?=Ab a0)(dt:oe.data=.fields vs)(hz:1<vs.size)(g:h'.get? e=Ab (Fv (·.setIfInBounds 1 (.ref T')) oe))(ne:T'≠e)(gT:h'.get? T'=Ab oT)(dT:oT.data=.fields ts)(f3:ts[3]?=Ab fl):NE e T' cls dx fl h':=
 ⟨_,_,oT,ts,a0,g,(FZ _ _).trans hc,(fB _ _).trans hx,by rw[Array.getElem?_setIfInBounds_ne (by decide)];exact h0,Ca dt _,by simp[hz],ne,gT,dT,f3⟩
theorem KR{i:Ae}{v:Ai}(q:vs[i]?=Ab v):i<vs.size:=(Ft.mp q).1
theorem aP(hfr:A.frames=Ab (env::outer))(hf:env.frame=Ab L)(ff:s.heap.FunFrames base (env::outer))(fl:Fly e T cls dx s.heap)(hQ:∀ h' T',NE e T' cls dx (Cr L) h'->Shift [e,T] (frs (env::outer)) s.heap h'->s.heap.get? T'=Ad->Q () {s with heap:=h'}):Az M A (JD (.ref e) env) Q E s:=by
 obtain⟨oe,vs,oT,ts,a0,he,hc,hx,h0,dt,h1,ne,hT,dT,h3⟩:=fl;have z3:=KR h3;unfold JD;simp only[hf];refine Ah (BY he dt h1 ?_);rw[Ar (by simp:(Bu T != AG)=Aa)]
 refine Ah (BY hT dT h3 ?_);rw[As (by simp[Cr]:¬ (AG==Cr L)=Aa)]
 refine Ah (D7 hT dT z3 ?_);have up:∀ b,b≠T->(s.heap.update T (Fv (·.setIfInBounds 3 AG))).get? b=s.heap.get? b:=λb nb=>Co _ _ (DQ nb)
 have rcd:∀ b o,s.heap.get? b=Ab o->(∀ us,o.data≠.fields us)->b≠T:=λb o q n z=>by
  rw[z,hT]at q;cases q;exact n ts dT
 refine QF (base:=base) hfr hf (ff.of_keeps λb o q n=>⟨o,(up b (rcd b o q n)).trans q,rfl⟩) ((up e (DQ ne)).trans he) dt (KR h1) λh' T' oT' ts' g nT gn gT dT' f3 sh=>?_
 have T0:s.heap.get? T'=Ad:=by
  by_cases z:T'=T
  .rw[z]at gn;rw[Cv _ hT (Dv (Ca dT _))]at gn;cases gn
  .rw[<-up T' z];exact gn
 refine hQ h' T' (Rj hc hx h0 dt (KR h1) g nT gT dT' f3) ⟨λb o q n1 n2=>?_,λb o q hb=>?_⟩ T0
 .simp only[AK,Bf,CB,Fi]at n1;exact sh.keep b o ((up b n1.2).trans q) (by simp[n1.1]) n2
 .obtain⟨_,o',q',n⟩:=ff.mem hb;rw[q]at q';cases q';exact sh.slot b o ((up b (rcd b o q n)).trans q) hb
theorem Sy{fv:Ai}(fl:NE e T cls dx fv s.heap)(hQ:∀ h',Fly e T cls dx h'->(∀ b o,b≠T->s.heap.get? b=Ab o->h'.get? b=Ab o)->Q () {s with heap:=h'}):Az M A (setFlight (.ref e) Ad) Q E s:=by
 obtain⟨oe,vs,oT,ts,a0,he,hc,hx,h0,dt,h1,ne,hT,dT,h3⟩:=fl;have z3:=KR h3;unfold setFlight;refine Ah (BY he dt h1 ?_);rw[Ar (by simp:(Bu T != AG)=Aa)]
 refine D7 hT dT z3 (hQ _ ?_ λb o nb q=>(Co _ _ (DQ nb)).trans q)
 exact⟨oe,vs,_,_,a0,(Co _ _ ne).trans he,hc,hx,h0,dt,h1,ne,Cv _ hT (Dv (Ca dT _)),Ca dT _,by simp[z3]⟩
theorem QA{h1 h2:AM}(ff:s.heap.FunFrames base (env::outer))(sh:Shift ex (frs (env::outer)) s.heap h1)(hT:s.heap.get? T'=Ad)(k:∀ b o,b≠T'->h1.get? b=Ab o->h2.get? b=Ab o):Shift ex (frs (env::outer)) s.heap h2:=
 ⟨λb o q n1 n2=>k b o (λz=>by rw[z,hT]at q;cases q) (sh.keep b o q n1 n2),λb o q hb=>let ⟨sl,q'⟩:=sh.slot b o q hb;⟨sl,k b _ (λz=>by rw[z,hT]at q;cases q) q'⟩⟩
theorem Zk(hfr:A.frames=Ab (env::outer))(hf:env.frame=Ab L)(ff:s.heap.FunFrames base (env::outer))(fl:Fly e T cls dx s.heap)(hQ:∀ h' T',Fly e T' cls dx h'->Shift [e,T] (frs (env::outer)) s.heap h'->(T'=T\/s.heap.get? T'=Ad)->Q () {s with heap:=h'}):Az M A (leaving env (.ref e)) Q E s:=by
 unfold leaving;exact Ah (aP hfr hf ff fl λh1 T' f1 sh hT=>Sy f1 λh2 f2 k=>hQ h2 T' f2 (QA ff sh hT k) (.inr hT))
theorem Zg(hfr:A.frames=Ab (env::outer))(hf:env.frame=Ab L)(ff:s.heap.FunFrames base (env::outer))(he:s.heap.get? e=Ab oe)(hc:oe.cls=cls)(hx:oe.dict=dx)(dt:oe.data=.fields vs)(h0:vs[0]?=Ab a0)(h1:vs[1]?=Ab .none)(hQ:∀ h' T',Fly e T' cls dx h'->Shift [e] (frs (env::outer)) s.heap h'->s.heap.get? T'=Ad->Q () {s with heap:=h'}):Az M A (leaving env (.ref e)) Q E s:=by
 unfold leaving JD;simp only[hf];refine Ah (Ah (BY he dt h1 ?_));rw[As (by decide)]
 exact QF (base:=base) hfr hf ff he dt (KR h1) λh' T' oT ts g nT gn gT dT f3 sh=>Sy (Rj hc hx h0 dt (KR h1) g nT gT dT f3) λh2 f2 k=>hQ h2 T' f2 (QA ff sh gn k) gn
end
def CXR(P:AR)(w:AT):CXT:=λouter H s E ev s'=>∃ e T cls dx H',ev=.ref e/\s'.os=s.os/\FM s'.gens/\Un (frs outer) [] H H' s.heap s'.heap/\HOk P w H' s'.heap/\Fly e T cls dx s'.heap/\H' e=Ad/\H' T=Ad/\s.heap.get? e=Ad/\s.heap.get? T=Ad/\E cls dx H'
def Qb(X:Cx)(CL:ClA)(W:XW):Prop:=∀ pins Z H s e C dx t x,Inv X pins Z H s->(X.ex=[]->X.s₀.heap.get? e=Ad)->H e=Ad->s.heap.get? e=Ab (sF C dx t)->HV X.K CL H (.ref C) dx x->W x H->X.xe (.ref e) s
section
variable{P:AR}{w:AT}{K:Fg}{mg:Ak->Ao Ai}{base:AM}{N:Ac Ak}{qual:Ak}{scope:Ce}{f:Al}{cd:Ai}{A:AU}{outer:Ac CY}{s:Ap}{H:Hp}{E:XK}{CL:ClA}{W:XW}
theorem Sv(I:Inv X pins Z H s):∀ b∈frs X.stack,b∈X.fs\/X.s₀.heap.get? b=Ad:=λb hb=>by
 rcases AK.mp (I.stkSub b hb) with z|z
 .exact .inr (by rw[z];exact GC I.ok.above)
 .exact .inl z
theorem MF{b:Al}(I:Inv X pins Z H s)(hx:X.ex=[])(h:s.heap.get? b=Ad):X.s₀.heap.get? b=Ad:=by
 cases q:X.s₀.heap.get? b with
 |none=>rfl
 |some o=>
  obtain⟨o',z⟩:=I.base.there b o q (by rw[hx];simp)
  rw[h]at z;cases z
theorem rH(hE:∀ x cls dx H',W x H'->HV K CL H' cls dx x->E cls dx H'):∀ A',K7 (CXR P w) (G2 (CXR P w) P w K mg base N qual scope f cd A outer s H E) (EKW K CL A' W):=by
 intro A' pins Z H1 s1 ev s2 I h;obtain⟨e,T,cls,dx,H',rfl,os,bare,un,hok,fl,he,hT,ne,nT,x,xr,wx⟩:=h;have I':=I.call' (s':=s2) (ch:=[]) os un hok bare (λb z=>absurd z (by simp))
 have hb0:Un (frs outer) [] H H' s.heap s2.heap:=I'.base;show Az (model P w) (A.deeper (Fu qual scope s.heap.objs.size f cd)) (leaving (Fu qual scope s.heap.objs.size f cd) (.ref e)) _ _ s2;refine Zk (L:=s.heap.objs.size) I'.ok.frames rfl I'.stack fl λh' T' fl' sh hT'=>?_
 have e0:s.heap.get? e=Ad:=MF I rfl ne;have T0:s.heap.get? T=Ad:=MF I rfl nT;refine⟨e,T',cls,dx,H',rfl,I'.os,bare,Un.shift hb0 sh ?_ (Sv I'),HOk.shift hok sh ?_ I'.stkFree,fl',he,?_,e0,?_,?_⟩
 .intro b hb;rcases AK.mp hb with rfl|hb
  .exact e0
  .rw[A5.mp hb];exact T0
 .intro b hb;rcases AK.mp hb with rfl|hb
  .exact he
  .rw[A5.mp hb];exact hT
 .rcases hT' with rfl|z
  .exact hT
  .exact RT hok z
 .rcases hT' with rfl|z
  .exact T0
  .exact MF I' rfl z
 .exact hE x cls dx H' wx xr
theorem rzR(hE:∀ x cls dx H',W x H'->HV K CL H' cls dx x->E cls dx H'):Qb (G2 (CXR P w) P w K mg base N qual scope f cd A outer s H E) CL W:=by
 intro pins Z H1 s1 e C dx t x I e0 he ge xr hw;have hb0:Un (frs outer) [] H H1 s.heap s1.heap:=I.base;have e0':s.heap.get? e=Ad:=e0 rfl;show Az (model P w) (A.deeper (Fu qual scope s.heap.objs.size f cd)) (leaving (Fu qual scope s.heap.objs.size f cd) (.ref e)) _ _ s1;refine Zg (cls:=.ref C) (dx:=dx) (L:=s.heap.objs.size) I.ok.frames rfl I.stack ge rfl rfl rfl (a0:=.ref t) rfl rfl λh' T' fl' sh hT'=>?_
 have one:∀{Z_:Al->Prop},Z_ e->∀ b∈[e],Z_ b:=λ{Z_} z b hb=>by rw[A5.mp hb];exact z
 exact⟨e,T',.ref C,dx,H1,rfl,I.os,I.bare,Un.shift hb0 sh (one e0') (Sv I),HOk.shift I.hok sh (one (Z_:=λb=>H1 b=Ad) he) I.stkFree,fl',he,RT I.hok hT',e0',MF I rfl hT',hE x _ dx H1 hw xr⟩
theorem ownR:Gv (model P w) (G2 (CXR P w) P w K mg base N qual scope f cd A outer s H E).A (G2 (CXR P w) P w K mg base N qual scope f cd A outer s H E).env (G2 (CXR P w) P w K mg base N qual scope f cd A outer s H E).xe:=PassesOwn.leaving
end
noncomputable def veB:Ac Ai:=[.type "ValueError",.type "Exception",.type "BaseException",.type "object"]
noncomputable def Lf(K:Fg)(C:Al)(v:Ao Ai):Aj:=match K.lookup C with
  | some ⟨.type "type",_,.cls c,z⟩=>(match c.mro,z.toList with
    |.ref c0::tl,[_,_,_,_,Ab (.builtin nw),_]=>c0==C&&(nw == "ValueError.__new__" && (!c.hasDel&&(PySem.W.tailIn K veB tl&&(PySem.W.nsOkIn K c.ns&&BO K c.ns "__init__" == Ab v))))
    | _,_=>Af)
  |_=>Af
structure XcOk (K:Fg) (C:Al):Prop where
 exc:∃ v,Lf K C v=Aa
 ga:Cw K (.ref C) "__getattribute__" = Ab (Ab (.builtin "BaseException.__getattribute__"))
 gt:Cw K (.ref C) "__getattr__" = Ab Ad
 cl:Cw K (.ref C) "__class__" = Ab (Ab (.builtin "object.__class__"))
 ob:PySem.W.mroIn K C (.type "object")=Ab Aa
 be:XS K (.ref C) (.type "BaseException")=Ab Aa
 cs:(PySem.W.clsIn K C).isSome=Aa
 ve:XO K (.ref C) (.type "ValueError")=Ab Aa
section
variable{prog:AR}{w:AT}{A:AU}{E:Vq}{h:AM}{g:Au EM}{d:IV}{t:Ae}{os:IK}{K:Fg}{e C:Al}
end
def UL(X:Cx)(pins:Pn)(e:Al):Prop:=e≠X.env.locals/\(∀ x c,X.env.cells.lookup x=Ab c->c≠e)/\(∀ p∈X.pn++pins,p.1≠e)/\X.s₀.heap.get? e=Ad
section
variable{X:Cx}{pins:Pn}{Z:L2.St}{H:Hp}{s:Ap}{e:Al}
end
noncomputable def Cx.hot(X:Cx)(e:Al):Cx:={X with A:=X.A.mark (Ab (.ref e)),calm:=Af,xe:=λ_ _=>Bj}
section
variable{X:Cx}{pins:Pn}{Z:L2.St}{H:Hp}{s:Ap}{e:Al}
end
noncomputable def rS(X:Cx)(CL:ClA)(pins:Pn)(Z:L2.St)(H:Hp)(y:Ex)(Xw:Vq):Prop:=
 ∀ s' H' e T cls dx,Inv X pins Z H' s'->AO H H'->Fly e T cls dx s'.heap->H' e=Ad->H' T=Ad->UL X pins e->UL X pins T->HV X.K CL H' cls dx y->Xw (.ref e) s'
def STB(X:Cx)(CL:ClA)(body:Ac Bm)(f:Rho->O):Prop:=∀ Fz B pins s Z H D U (Xw:Vq),Gv (model X.prog X.w) X.A X.env Xw->Inv X pins Z H s->Sx X.K CL Fz B U Z H ->
  (match f U with
   |.exn y U'=>U'=U->rS X CL pins Z H y Xw
   | o=>CJ X.K CL Fz B (λ_ _=>Bj) o D)->(∀ y U',f U=.exn y U'->U'=U)->Az (model X.prog X.w) X.A (execs body X.env) (SP X pins D) Xw s
noncomputable def Cx.pw(X:Cx)(pins:Pn)(Xw:Vq):Cx:={X with pn:=X.pn++pins,xe:=Xw}
section
variable{X:Cx}{pins pins':Pn}{Z:L2.St}{H:Hp}{s:Ap}{Xw:Vq}
end
section
variable{X:Cx}{CL:ClA}{k n:Ae}{fr:Aj}{f:Al}{fd:Cn}{ps:Ac Ak}{F:Ac D->R D}{x:Ak}{p pos pos2:A3}{e:Am}{es:Ac Am}{fs ft:Rho->R (Ac D)}{sh:Rho->Aj}
variable(hx0:X.ex=[])(G:FnOk X.prog X.w X.K X.mg X.base (CXR X.prog X.w) k f fd ps (spD X.K CL n fr F))(hr:Room k X.A)(hg:Gl X x)(hm:X.mg x=Ab (.ref f))
    (hk:C9 X.K (.ref f)=Aa) (hb:Iz X.K fd ps []) (hst:∀ U,sh U=Aa->ft U=fs U) (hn:∀ U ds,ft U=.ok ds->ds.length=n) (hnx:∀ U y,ft U≠.exn y)
    (hdb:(x==("__debug__" : Ak))=Af) (he:AI (e::es) X.env=(Af,eval e X.env)::AI es X.env) (hpl:∀ pos,(Cz pos (AI es X.env)).any (·.1)=Af)
    (ha:∀ pins Xw,Gv (model X.prog X.w) X.A X.env Xw->SA (Cx.pw X pins Xw) CL (λ_ _=>Bj) (e::es) fs/\SAT (Cx.pw X pins Xw) CL (λ_ _=>Bj) (e::es) ft)
include hx0 G hr hg hm hk hb hst hn hnx hdb he hpl ha
end
section
variable{X:Cx}{CL:ClA}{W:XW}
def nQ(K:Fg)(CL:ClA)(up:Ae->Ac Ae)(c':Ae)(C':Al):Prop:=∀ c C,CL c=Ab C->XO K (.ref C) (.ref C')=Ab ((up c).contains c')
variable{a:Am}{fa:Rho->R D}{up:Ae->Ac Ae}{x:Ak}{p p2 pos:A3}
end
end Ov
section
namespace Ov
open PySem PySem.Spec PyProof.Rows L2
end Ov
end
namespace Ov
open PySem PySem.Spec PyProof.Rows L2
variable{K:Fg}{H:Hp}{A:Al->Prop}{k l:Ae}{p pos:A3}{α:Type}{g qual x0:Ak}{x:Am}{as:Es}{a:E}{X:Cx}{CL:ClA}{fr:Aj}{xs ys:Ac Am}{env:CY}{scope:Ce}{ts:Ac Ae}{C:Al}{vs:Ac V}{fd:Cn}{xn:Ae->Ac D->R Ex}{h:AM}
noncomputable abbrev tU:CXT:=λ_ _ _ _ _ _=>Bj
structure HotOk (P:AR) (w:AT) (K:Fg) (mg:Ak->Ao Ai) (base:AM) (k:Ae) (f:Al) (fd:Cn) (ps:Ac Ak) (sp:Sp):Prop where
 len:∀ vs H Q E,sp vs H Q E->vs.length=ps.length
 run:∀(A:AU)(ev:Al)(outer:Ac CY)(s:Ap)(H:Hp)(args:Args)(us:Ac Ai)(vs:Ac V)(Q:VK)(E:XK),Room k A->Env0 P w K mg base (A.mark (Ab (.ref ev))) outer s H->HB s fd args (ps.zip us)->A6 vs us->sp vs H Q E ->
  FA (model P w) (A.mark (Ab (.ref ev))) (.call (.ref f) args) (CR tU outer P w H s Q E) s
def spH(K:Fg)(CL:ClA)(n:Ae)(fr:Aj)(F:Ac D->R D):Sp:=λvs H Q _=>∃(ds:Ac D)(A:Al->Prop),vs.length=n/\AOk H A/\Reps K CL H A vs ds/\(match F ds with
  |.ok d=>∀ v H',AO H H'->E6 K CL fr H A H' v d->Q v H'
  |.exn _=>Bj
  | .bad=>Bj)
section
variable{X:Cx}{CL:ClA}{ev:Al}
end
section
variable{M:Fn}{A:AU}{E:Vq}{s:Ap}{env:CY}{nm q:Ak}{C N:Al}{bs bm bmB:Ac Ai}{hdct:Aj}{sn:Ac Ak}{sub:Ac Ai}{ab:Aj}{col:Ao Aj}{dd:Ao Al}{k0 k1 k2 k3 k5:Ao Ai}{B newId initId:CO}
end
section
variable{prog:AR}{w:AT}{A:AU}{E:Vq}{h:AM}{g:Au EM}{d:IV}{t:Ae}{os:IK}
variable{nm q:Ak}{C N fI:Al}{bs bm bmB:Ac Ai}{hdct:Aj}{sn:Ac Ak}{sub:Ac Ai}{ab:Aj}{col:Ao Aj}{dd:Ao Al}{k0 k1 k2 k3 k5:Ao Ai}{B newId initId:CO}{mN:Ak->Ao Ai}{rest:Ac Ai}{oI:De}
end
section
variable{prog:AR}{w:AT}{A:AU}{E:Vq}{s:Ap}{env:CY}
variable{nm q:Ak}{C N fI:Al}{bs bm bmB:Ac Ai}{hdct:Aj}{sn:Ac Ak}{sub:Ac Ai}{ab:Aj}{col:Ao Aj}{dd:Ao Al}{k0 k1 k2 k3 k5:Ao Ai}{B newId initId:CO}{mN:Ak->Ao Ai}
end
section
variable{prog:AR}{w:AT}{A:AU}{E:Vq}{h:AM}{g:Au EM}{d:IV}{tk0:Ae}{os:IK}
variable{nm q:Ak}{C N e t:Al}{dx:Ao Al}{bs bm bmB:Ac Ai}{hdct:Aj}{sn:Ac Ak}{sub:Ac Ai}{ab:Aj}{col:Ao Aj}{dd:Ao Al}{k0 k1 k2 k3 k5:Ao Ai}{B newId initId:CO}
end
section
variable{X:Cx}{CL:ClA}{pins:Pn}{Z:L2.St}{H:Hp}{s:Ap}
end
section
variable{X:Cx}{CL:ClA}
end
section
variable{X:Cx}{CL:ClA}{C:Al}{nm q:Ak}{N:Al}{bs bm:Ac Ai}{hdct:Aj}{sn:Ac Ak}{sub:Ac Ai}{ab:Aj}{col:Ao Aj}{dd:Ao Al}{k0 k1 k2 k3 k5:Ao Ai}
end
section
variable{prog:AR}{w:AT}{A:AU}{E:Vq}{h:AM}{g:Au EM}{d:IV}{tk0:Ae}{os:IK}{K:Fg}
variable{nm q:Ak}{C N e t:Al}{bs bm bmB:Ac Ai}{sn:Ac Ak}{sub:Ac Ai}{ab:Aj}{col:Ao Aj}{dd:Ao Al}{k0 k1 k2 k3 k5:Ao Ai}{B newId sa owner:CO}
end
section
variable{prog:AR}{w:AT}{A:AU}{E:Vq}{h:AM}{g:Au EM}{d:IV}{tk0:Ae}{os:IK}{K:Fg}
variable{nm q:Ak}{C N e t:Al}{bs bm bmB:Ac Ai}{sn:Ac Ak}{sub:Ac Ai}{ab:Aj}{col:Ao Aj}{dd:Ao Al}{k0 k1 k2 k3 k5:Ao Ai}{B newId sa owner:CO}
end
section
variable{X:Cx}{pins:Pn}{Z:L2.St}{H:Hp}{s:Ap}{e:Al}
end
section
variable{X:Cx}{C:Al}{nm q:Ak}{N:Al}{bs bm:Ac Ai}{sn:Ac Ak}{sub:Ac Ai}{ab:Aj}{col:Ao Aj}{dd:Ao Al}{k0 k1 k2 k3 k5:Ao Ai}
end
noncomputable def Mh(K:Fg)(C:Al):Aj:=match K.lookup C with
  |some ⟨_,_,.cls c,_⟩=>c.hasDict
  |_=>Af
section
variable{P:AR}{w:AT}{K:Fg}{mg:Ak->Ao Ai}{base:AM}{CL:ClA}{C fI OV:Al}{x qual g par z f:Ak}{st:Bm}{fd:Cn}{k:Ae}{np apos p1 p2 p3 p4 p5 cpos p6 p7 p8 p9 p10:A3}
variable{nm q:Ak}{N:Al}{bs bm:Ac Ai}{sn:Ac Ak}{sub:Ac Ai}{ab:Aj}{col:Ao Aj}{dd:Ao Al}{k0 k1 k2 k3 k5:Ao Ai}
end
section
variable{X:Cx}{CL:ClA}{W:XW}
end
section
variable{prog:AR}{w:AT}{A:AU}{E:Vq}{h:AM}{g:Au EM}{d:IV}{t:Ae}{os:IK}{K:Fg}{e C dx:Al}{f:Ak}{mA:Ak->Ao Ai}{v:Ai}
end
section
variable{X:Cx}{CL:ClA}{W:XW}{K:Fg}{H:Hp}{A:Al->Prop}
end
theorem ZW:∀{ss:Ac Ak}{its:Ac Ai},A6 (ss.map V.str) its->∃ l:Ac (Ak×Cf),its=strValues l/\l.map (·.1)=ss:=by
 intro ss
 induction ss with
 |nil=>intro its v;cases v;exact⟨[],rfl,rfl⟩
 |cons x ss ih=>
  intro its v;cases v with
  |cons v1 v2=>
   obtain⟨t,rfl⟩:=v1;obtain⟨l,e1,e2⟩:=ih v2;exact⟨(x,t)::l,by rw[e1];rfl,by rw[CC,e2]⟩
section
variable{X:Cx}{CL:ClA}{W:XW}
def qV(K:Fg):V->Ac V->Hp->VK->Prop:=λx xs H Q=>∃ sep q ss,x=.str sep/\xs=[.ref q]/\SqL K H q (ss.map V.str)/\Jz sep ss=Aa/\Q (.str (Ls sep ss)) H
theorem gD:MtR X "str.join" (qV X.K):=by
 intro pins s Z H x vs v us Q I rx rv h;obtain⟨sep,l,ss,rfl,rfl,sq,hok,q⟩:=h;obtain⟨t,rfl⟩:=rx;obtain⟨u,rfl,ru⟩:=rv.one;cases ru;obtain⟨its,r,pl,hz⟩:=I.list sq;obtain⟨ls,rfl,rfl⟩:=ZW r;unfold Jz at hok;rw[Cd]at hok;refine Ja Xf (Kx _ _ _) PySem.F.entry_str_join (PySem.F.args_str_join_2 _ _) (meets_str_join_list sep t l ls hok) ⟨pl.isList,post_join ls ⟨joinFit_length hok,λt' k=>?_⟩⟩
 exact⟨.str _,H,I.kept (t':=k) λ_ _ e=>e,⟨_,rfl⟩,q⟩
theorem YY:∀{es:Ac D}{ss:Ac Ak}{ys:Ac V},JL es=Ab ss->Reps K CL H A ys es->ys=ss.map V.str:=by
 intro es
 induction es with
 |nil=>
  intro ss ys h r;cases h;cases ys with
  |nil=>rfl
  |cons=>exact r.elim
 |cons e es ih=>
  intro ss ys h r;cases ys with
  |nil=>exact r.elim
  |cons y ys=>
   cases e with
   |str x=>
    have h':(JL es).map (x :: ·)=Ab ss:=h;cases e2:JL es with
    |none=>rw[e2]at h';cases h'
    |some js=>
     rw[e2]at h';cases h';have e1:y=.str x:=r.1;rw[ih e2 r.2,e1];rfl
   |_=>cases h
theorem eQ{y:Am}{s:Ak}{apos cpos:A3}{fy:Rho->R D}(hy:SE X CL W y fy)(hbase:Gb (.Constant (.str s) k p) "join" X.env (eval (.Constant (.str s) k p) X.env)=eval (.Constant (.str s) k p) X.env)(hfew:((Cz cpos (AI [y] X.env)).all (λx=>!x.1)&&(IW cpos (G3 [] X.env)).all (λx=>x.1.isSome)&&decide ([y].length+([]:Ac Ei).length+(if ([]:Ac Ei).isEmpty then 0 else 1)<30))=Aa)(hline:(apos.endLine==cpos.line)=Aa)(hs:AI [y] X.env=[(Af,eval y X.env)]):
  SE X CL W (.Call (.Attribute (.Constant (.str s) k p) "join" apos) [y] [] cpos) (λU=>(fy U).bind λx=>biD .sjoin [.str s,x]):=λA=>
 PE.weak (M6 PySem.F.plainAttrs_str Xf PySem.F.type_str_join gD (TH (X:=X) (CL:=CL) (W:=W) A) (FB (hy A) G1 hs) hbase hfew hline hs rfl) λZ H Q ⟨hA,U,g,p⟩=>⟨hA,U,g,λv H1 s1 r1=>by
  dsimp only at p;have ev:v=.str s:=r1;subst ev;refine⟨rfl,hA.same s1,U,g.same s1,?_⟩;cases e:fy U with
  |bad=>rw[e]at p;exact p.elim
  |exn x=>rw[e]at p;exact λH2 s2=>p H2 (s1.trans s2)
  |ok d=>
   rw[e]at p;intro v' H2 s2 r2;have p1:Bk (λH=>Rep X.K CL H A) W H (biD .sjoin [.str s,d]) Q:=p
   cases d with
   |lst ds=>
    obtain⟨a,xs,rfl,_,sq,rs⟩:=r2;have p2:Bk (λH=>Rep X.K CL H A) W H (L4 s ds) Q:=p1
    unfold L4 at p2;cases e3:JL ds with
    |none=>rw[e3]at p2;exact p2.elim
    |some ss=>
     rw[e3]at p2;dsimp only at p2;split at p2
     .rename_i hok;have ex:=YY e3 rs;subst ex;exact⟨s,a,ss,rfl,rfl,sq,hok,p2 _ H2 (s1.trans s2) rfl⟩
     .exact p2.elim
   | _=>exact p1.elim⟩
end
theorem noF{P:Prop}(h:Af=Aa):P:=nomatch h
structure Tc where
 sc:Ce
 N:Ac Ak
 /-- a def's name,its number,how many parameters it has -/
 fns:Ac (Ak×Ae×Ae)
 /-- built-in names that the text does not hide -/
 bl:Ac Ak
 /-- exceptions' classes by their names: those that are raised,all that are asked for -/
 rzs:Ac (Ak×Ae)
 exs:Ac (Ak×Ae)
 /-- the text's constants -/
 gls:Ac (Ak×Ae)
noncomputable def PZ(T:Tc)(x:Ak):Aj:=match T.sc.names.lookup x with
  |some .local=>Aa
  |some .cell=>Aa
  |some .free=>Aa
  |_=>Af
noncomputable def Li(T:Tc)(x:Ak):Aj:=match T.sc.names.lookup x with
  |some .local=>Aa
  |some .cell=>Aa
  |_=>Af
noncomputable def glB(T:Tc)(x:Ak):Aj:=T.sc.names.lookup x==Ab .globalImplicit
noncomputable def Mm(x:Ak):Aj:=!(x==("__debug__" : Ak)) && !(x==("__classdict__" : Ak)) && !(x==("__name__" : Ak))
noncomputable def isV(T:Tc)(x:Ak)(i:Ae):Aj:=T.N[i]? == Ab x&&PZ T x&&Mm x
noncomputable def isB(T:Tc)(x:Ak):Aj:=T.bl.contains x&&glB T x&&Mm x
theorem EV{a b:Aj}(h:(a&&b)=Aa):a=Aa/\b=Aa:=(An a b).mp h
theorem orT{a b:Aj}(h:(a||b)=Aa):a=Aa\/b=Aa:=(CM a b).mp h
noncomputable def Ji(e:Am)(F:Ak->Aj):Aj:=if c:e.ctorIdx=23 then WT (motive_1:=λ_=>Aj) e c λx _=>F x else Af
theorem JH{e:Am}{F:Ak->Aj}(h:Ji e F=Aa):∃ x p,e=WS x p/\F x=Aa:=by
 by_cases c:e.ctorIdx=23
 .exact WT (motive_1:=λe=>Ji e F=Aa->∃ x p,e=WS x p/\F x=Aa) e c (λx p h=>⟨x,p,rfl,h⟩) h
 .exact noF ((Cq c).symm.trans h)
noncomputable def JP(e:Am)(F:Const->Aj):Aj:=if c:e.ctorIdx=19 then WL (motive_1:=λ_=>Aj) e c λc _ _=>F c else Af
theorem LV{e:Am}{F:Const->Aj}(h:JP e F=Aa):∃ c u p,e=WK c u p/\F c=Aa:=by
 by_cases c:e.ctorIdx=19
 .exact WL (motive_1:=λe=>JP e F=Aa->∃ c u p,e=WK c u p/\F c=Aa) e c (λc u p h=>⟨c,u,p,rfl,h⟩) h
 .exact noF ((Cq c).symm.trans h)
noncomputable def PF(e:Am)(F:Am->Gh->Am->Aj):Aj:=if c:e.ctorIdx=2 then WC (motive_1:=λ_=>Aj) e c λx o y _=>F x o y else Af
theorem bI{e:Am}{F:Am->Gh->Am->Aj}(h:PF e F=Aa):∃ x o y p,e=WB x o y p/\F x o y=Aa:=by
 by_cases c:e.ctorIdx=2
 .exact WC (motive_1:=λe=>PF e F=Aa->∃ x o y p,e=WB x o y p/\F x o y=Aa) e c (λx o y p h=>⟨x,o,y,p,rfl,h⟩) h
 .exact noF ((Cq c).symm.trans h)
noncomputable def Lg(e:Am)(F:JS->Am->Aj):Aj:=if c:e.ctorIdx=3 then WZ (motive_1:=λ_=>Aj) e c λo x _=>F o x else Af
theorem OP{e:Am}{F:JS->Am->Aj}(h:Lg e F=Aa):∃ o x p,e=WY o x p/\F o x=Aa:=by
 by_cases c:e.ctorIdx=3
 .exact WZ (motive_1:=λe=>Lg e F=Aa->∃ o x p,e=WY o x p/\F o x=Aa) e c (λo x p h=>⟨o,x,p,rfl,h⟩) h
 .exact noF ((Cq c).symm.trans h)
noncomputable def Lb(e:Am)(F:BoolOp->Ac Am->A3->Aj):Aj:=if c:e.ctorIdx=0 then WE (motive_1:=λ_=>Aj) e c λo xs p=>F o xs p else Af
theorem OI{e:Am}{F:BoolOp->Ac Am->A3->Aj}(h:Lb e F=Aa):∃ o xs p,e=WD o xs p/\F o xs p=Aa:=by
 by_cases c:e.ctorIdx=0
 .exact WE (motive_1:=λe=>Lb e F=Aa->∃ o xs p,e=WD o xs p/\F o xs p=Aa) e c (λo xs p h=>⟨o,xs,p,rfl,h⟩) h
 .exact noF ((Cq c).symm.trans h)
noncomputable def Md(e:Am)(F:Am->Ac DX->Ac Am->Aj):Aj:=if c:e.ctorIdx=15 then WJ (motive_1:=λ_=>Aj) e c λx os ys _=>F x os ys else Af
theorem RD{e:Am}{F:Am->Ac DX->Ac Am->Aj}(h:Md e F=Aa):∃ x os ys p,e=WI x os ys p/\F x os ys=Aa:=by
 by_cases c:e.ctorIdx=15
 .exact WJ (motive_1:=λe=>Md e F=Aa->∃ x os ys p,e=WI x os ys p/\F x os ys=Aa) e c (λx os ys p h=>⟨x,os,ys,p,rfl,h⟩) h
 .exact noF ((Cq c).symm.trans h)
noncomputable def PD(e:Am)(F:Am->Am->Am->Aj):Aj:=if c:e.ctorIdx=5 then WN (motive_1:=λ_=>Aj) e c λt x y _=>F t x y else Af
theorem bE{e:Am}{F:Am->Am->Am->Aj}(h:PD e F=Aa):∃ t x y p,e=WM t x y p/\F t x y=Aa:=by
 by_cases c:e.ctorIdx=5
 .exact WN (motive_1:=λe=>PD e F=Aa->∃ t x y p,e=WM t x y p/\F t x y=Aa) e c (λt x y p h=>⟨t,x,y,p,rfl,h⟩) h
 .exact noF ((Cq c).symm.trans h)
noncomputable def La(e:Am)(F:Am->Ac Am->Ac Ei->A3->Aj):Aj:=if c:e.ctorIdx=16 then WH (motive_1:=λ_=>Aj) e c λf as ks p=>F f as ks p else Af
theorem OH{e:Am}{F:Am->Ac Am->Ac Ei->A3->Aj}(h:La e F=Aa):∃ f as ks p,e=WG f as ks p/\F f as ks p=Aa:=by
 by_cases c:e.ctorIdx=16
 .exact WH (motive_1:=λe=>La e F=Aa->∃ f as ks p,e=WG f as ks p/\F f as ks p=Aa) e c (λf as ks p h=>⟨f,as,ks,p,rfl,h⟩) h
 .exact noF ((Cq c).symm.trans h)
noncomputable def Mb(e:Am)(F:Am->Ak->A3->Aj):Aj:=if c:e.ctorIdx=20 then WA (motive_1:=λ_=>Aj) e c λo m p=>F o m p else Af
theorem RE{e:Am}{F:Am->Ak->A3->Aj}(h:Mb e F=Aa):∃ o m p,e=Wz o m p/\F o m p=Aa:=by
 by_cases c:e.ctorIdx=20
 .exact WA (motive_1:=λe=>Mb e F=Aa->∃ o m p,e=Wz o m p/\F o m p=Aa) e c (λo m p h=>⟨o,m,p,rfl,h⟩) h
 .exact noF ((Cq c).symm.trans h)
noncomputable def Px(e:Am)(F:Am->Am->Aj):Aj:=if c:e.ctorIdx=21 then WV (motive_1:=λ_=>Aj) e c λx y _=>F x y else Af
theorem bA{e:Am}{F:Am->Am->Aj}(h:Px e F=Aa):∃ x y p,e=WU x y p/\F x y=Aa:=by
 by_cases c:e.ctorIdx=21
 .exact WV (motive_1:=λe=>Px e F=Aa->∃ x y p,e=WU x y p/\F x y=Aa) e c (λx y p h=>⟨x,y,p,rfl,h⟩) h
 .exact noF ((Cq c).symm.trans h)
noncomputable def Nj(e:Am)(F:Ac Am->Aj):Aj:=if c:e.ctorIdx=25 then WX (motive_1:=λ_=>Aj) e c λxs _ _=>F xs else Af
theorem Rz{e:Am}{F:Ac Am->Aj}(h:Nj e F=Aa):∃ xs c p,e=WW xs c p/\F xs=Aa:=by
 by_cases c:e.ctorIdx=25
 .exact WX (motive_1:=λe=>Nj e F=Aa->∃ xs c p,e=WW xs c p/\F xs=Aa) e c (λxs c p h=>⟨xs,c,p,rfl,h⟩) h
 .exact noF ((Cq c).symm.trans h)
noncomputable def PB(e:Am)(F:Ac Am->Aj):Aj:=if c:e.ctorIdx=24 then WP (motive_1:=λ_=>Aj) e c λxs _=>F xs else Af
theorem bC{e:Am}{F:Ac Am->Aj}(h:PB e F=Aa):∃ xs p,e=WO xs p/\F xs=Aa:=by
 by_cases c:e.ctorIdx=24
 .exact WP (motive_1:=λe=>PB e F=Aa->∃ xs p,e=WO xs p/\F xs=Aa) e c (λxs p h=>⟨xs,p,rfl,h⟩) h
 .exact noF ((Cq c).symm.trans h)
noncomputable def PC(e:Am)(F:Am->Ac Jp->Ce->Aj):Aj:=if c:e.ctorIdx=8 then WR (motive_1:=λ_=>Aj) e c λx gs sc _=>F x gs sc else Af
theorem bD{e:Am}{F:Am->Ac Jp->Ce->Aj}(h:PC e F=Aa):∃ x gs sc p,e=WQ x gs sc p/\F x gs sc=Aa:=by
 by_cases c:e.ctorIdx=8
 .exact WR (motive_1:=λe=>PC e F=Aa->∃ x gs sc p,e=WQ x gs sc p/\F x gs sc=Aa) e c (λx gs sc p h=>⟨x,gs,sc,p,rfl,h⟩) h
 .exact noF ((Cq c).symm.trans h)
noncomputable def PH(e:Bm)(F:Ac Am->Am->Aj):Aj:=if c:e.ctorIdx=5 then Xx (motive_2:=λ_=>Aj) e c λts v _=>F ts v else Af
theorem bJ{e:Bm}{F:Ac Am->Am->Aj}(h:PH e F=Aa):∃ ts v p,e=Xv ts v p/\F ts v=Aa:=by
 by_cases c:e.ctorIdx=5
 .exact Xx (motive_2:=λe=>PH e F=Aa->∃ ts v p,e=Xv ts v p/\F ts v=Aa) e c (λts v p h=>⟨ts,v,p,rfl,h⟩) h
 .exact noF ((Cq c).symm.trans h)
noncomputable def Nl(e:Bm)(F:Am->Aj):Aj:=if c:e.ctorIdx=24 then Xz (motive_2:=λ_=>Aj) e c λv _=>F v else Af
theorem RC{e:Bm}{F:Am->Aj}(h:Nl e F=Aa):∃ v p,e=Xy v p/\F v=Aa:=by
 by_cases c:e.ctorIdx=24
 .exact Xz (motive_2:=λe=>Nl e F=Aa->∃ v p,e=Xy v p/\F v=Aa) e c (λv p h=>⟨v,p,rfl,h⟩) h
 .exact noF ((Cq c).symm.trans h)
noncomputable def Py(e:Bm)(F:Ao Am->Aj):Aj:=if c:e.ctorIdx=3 then XE (motive_2:=λ_=>Aj) e c λo _=>F o else Af
theorem bB{e:Bm}{F:Ao Am->Aj}(h:Py e F=Aa):∃ o p,e=XD o p/\F o=Aa:=by
 by_cases c:e.ctorIdx=3
 .exact XE (motive_2:=λe=>Py e F=Aa->∃ o p,e=XD o p/\F o=Aa) e c (λo p h=>⟨o,p,rfl,h⟩) h
 .exact noF ((Cq c).symm.trans h)
noncomputable def Nv(e:Bm)(F:Am->Ac Bm->Ac Bm->Aj):Aj:=if c:e.ctorIdx=12 then XC (motive_2:=λ_=>Aj) e c λt xs ys _=>F t xs ys else Af
theorem S7{e:Bm}{F:Am->Ac Bm->Ac Bm->Aj}(h:Nv e F=Aa):∃ t xs ys p,e=Stmt.If t xs ys p/\F t xs ys=Aa:=by
 by_cases c:e.ctorIdx=12
 .exact XC (motive_2:=λe=>Nv e F=Aa->∃ t xs ys p,e=Stmt.If t xs ys p/\F t xs ys=Aa) e c (λt xs ys p h=>⟨t,xs,ys,p,rfl,h⟩) h
 .exact noF ((Cq c).symm.trans h)
noncomputable def Nk(e:Bm)(F:Am->Am->Ac Bm->Ac Bm->Aj):Aj:=if c:e.ctorIdx=9 then XB (motive_2:=λ_=>Aj) e c λt it xs ys _=>F t it xs ys else Af
theorem RB{e:Bm}{F:Am->Am->Ac Bm->Ac Bm->Aj}(h:Nk e F=Aa):∃ t it xs ys p,e=Stmt.For t it xs ys p/\F t it xs ys=Aa:=by
 by_cases c:e.ctorIdx=9
 .exact XB (motive_2:=λe=>Nk e F=Aa->∃ t it xs ys p,e=Stmt.For t it xs ys p/\F t it xs ys=Aa) e c (λt it xs ys p h=>⟨t,it,xs,ys,p,rfl,h⟩) h
 .exact noF ((Cq c).symm.trans h)
noncomputable def L6{α:Type}:Ac α->(α->Ac α->Aj)->Aj
 |[],_=>Af
 |x::xs,F=>F x xs
theorem MJ{l:Ac α}{F:α->Ac α->Aj}(h:L6 l F=Aa):∃ x xs,l=x::xs/\F x xs=Aa:=by
 cases l with
 |nil=>exact noF h
 |cons x xs=>exact⟨x,xs,rfl,h⟩
theorem Kg{l:Ac α}(h:l.isEmpty=Aa):l=[]:=List.isEmpty_iff.mp h
noncomputable def F1{α:Type}(l:Ac α)(F:α->Aj):Aj:=L6 l λx r=>r.isEmpty&&F x
theorem Hj{l:Ac α}{F:α->Aj}(h:F1 l F=Aa):∃ x,l=[x]/\F x=Aa:=by
 obtain⟨x,r,rfl,h⟩:=MJ h;obtain⟨h1,h2⟩:=EV h;exact⟨x,by rw[Kg h1],h2⟩
noncomputable def Jl{α:Type}(l:Ac α)(F:α->α->Aj):Aj:=L6 l λx r=>F1 r λy=>F x y
theorem KO{l:Ac α}{F:α->α->Aj}(h:Jl l F=Aa):∃ x y,l=[x,y]/\F x y=Aa:=by
 obtain⟨x,r,rfl,h⟩:=MJ h;obtain⟨y,rfl,h⟩:=Hj h;exact⟨x,y,rfl,h⟩
noncomputable def Up{α:Type}(l:Ac α)(F:α->α->α->Aj):Aj:=L6 l λx r=>Jl r λy z=>F x y z
theorem aZ{l:Ac α}{F:α->α->α->Aj}(h:Up l F=Aa):∃ x y z,l=[x,y,z]/\F x y z=Aa:=by
 obtain⟨x,r,rfl,h⟩:=MJ h;obtain⟨y,z,rfl,h⟩:=KO h;exact⟨x,y,z,rfl,h⟩
noncomputable def Kj(e:Am)(F:Ak->Ac Am->Aj):Aj:=La e λf as ks _=>Ji f λg=>ks.isEmpty&&F g as
theorem KP{e:Am}{F:Ak->Ac Am->Aj}(h:Kj e F=Aa):∃ g p as q,e=.Call (.Name g p) as [] q/\F g as=Aa:=by
 obtain⟨f,as,ks,q,rfl,h⟩:=OH h;obtain⟨g,p,rfl,h⟩:=JH h;obtain⟨h1,h2⟩:=EV h;exact⟨g,p,as,q,by rw[Kg h1],h2⟩
noncomputable def Pe(e:Am)(F:Ak->Am->Ac Am->Aj):Aj:=Kj e λg l=>L6 l λx xs=>F g x xs
theorem Q4{e:Am}{F:Ak->Am->Ac Am->Aj}(h:Pe e F=Aa):∃ g p x xs q,e=.Call (.Name g p) (x::xs) [] q/\F g x xs=Aa:=by
 obtain⟨g,p,as,q,rfl,h⟩:=KP h;obtain⟨x,xs,rfl,h⟩:=MJ h;exact⟨g,p,x,xs,q,rfl,h⟩
noncomputable def Pz(st:Bm)(F:Ak->Ak->Ac Am->Aj):Aj:=Nl st λe=>La e λf as ks cp=>Mb f λo m ap=>Ji o λx=>ks.isEmpty&&(ap.endLine==cp.line&&F x m as)
theorem RA{st:Bm}{F:Ak->Ak->Ac Am->Aj}(h:Pz st F=Aa):∃ x p m ap as cp q,st=.Expr (.Call (.Attribute (.Name x p) m ap) as [] cp) q/\ap.endLine=cp.line/\F x m as=Aa:=by
 obtain⟨e,q,rfl,h⟩:=RC h;obtain⟨f,as,ks,cp,rfl,h⟩:=OH h;obtain⟨o,m,ap,rfl,h⟩:=RE h;obtain⟨x,p,rfl,h⟩:=JH h;obtain⟨h1,h⟩:=EV h;obtain⟨h2,h3⟩:=EV h;exact⟨x,p,m,ap,as,cp,q,by rw[Kg h1],eq_of_beq h2,h3⟩
noncomputable def Ur(st:Bm)(F:Am->Am->Aj):Aj:=PH st λts v=>F1 ts λt=>F t v
theorem bL{st:Bm}{F:Am->Am->Aj}(h:Ur st F=Aa):∃ t v q,st=.Assign [t] v q/\F t v=Aa:=by
 obtain⟨ts,v,q,rfl,h⟩:=bJ h;obtain⟨t,rfl,h⟩:=Hj h;exact⟨t,v,q,rfl,h⟩
noncomputable def Uq(st:Bm)(F:Ak->Am->Aj):Aj:=Ur st λt v=>Ji t λx=>F x v
theorem bK{st:Bm}{F:Ak->Am->Aj}(h:Uq st F=Aa):∃ x p v q,st=.Assign [.Name x p] v q/\F x v=Aa:=by
 obtain⟨t,v,q,rfl,h⟩:=bL h;obtain⟨x,p,rfl,h⟩:=JH h;exact⟨x,p,v,q,rfl,h⟩
noncomputable def UW(e:Am)(F:Am->Am->Am->Ac Am->Ce->Aj):Aj:=PC e λx gs sc=>F1 gs λg=>decide (g.is_async=0)&&F x g.target g.iter g.ifs sc
theorem fY{e:Am}{F:Am->Am->Am->Ac Am->Ce->Aj}(h:UW e F=Aa):∃ x t it ifs sc p,e=.ListComp x [⟨t,it,ifs,0⟩] sc p/\F x t it ifs sc=Aa:=by
 obtain⟨x,gs,sc,p,rfl,h⟩:=bD h;obtain⟨g,rfl,h⟩:=Hj h;obtain⟨t,it,ifs,a⟩:=g;obtain⟨h1,h2⟩:=EV h;have h1:a=0:=A9 h1;subst h1;exact⟨x,t,it,ifs,sc,p,rfl,h2⟩
noncomputable def Nu(e:E)(F:E->Aj):Aj:=if c:e.ctorIdx=8 then E.no.elim (motive_1:=λ_=>Aj) e c F else Af
theorem fX{e:E}{F:E->Aj}(h:Nu e F=Aa):∃ a,e=E.no a/\F a=Aa:=by
 by_cases c:e.ctorIdx=8
 .exact E.no.elim (motive_1:=λe=>Nu e F=Aa->∃ a,e=E.no a/\F a=Aa) e c (λa h=>⟨a,rfl,h⟩) h
 .exact noF ((Cq c).symm.trans h)
noncomputable def Np(e:E)(F:Es->Aj):Aj:=if c:e.ctorIdx=9 then E.and.elim (motive_1:=λ_=>Aj) e c F else Af
theorem bM{e:E}{F:Es->Aj}(h:Np e F=Aa):∃ es,e=E.and es/\F es=Aa:=by
 by_cases c:e.ctorIdx=9
 .exact E.and.elim (motive_1:=λe=>Np e F=Aa->∃ es,e=E.and es/\F es=Aa) e c (λes h=>⟨es,rfl,h⟩) h
 .exact noF ((Cq c).symm.trans h)
noncomputable def Nt(e:E)(F:Es->Aj):Aj:=if c:e.ctorIdx=10 then E.or.elim (motive_1:=λ_=>Aj) e c F else Af
theorem fW{e:E}{F:Es->Aj}(h:Nt e F=Aa):∃ es,e=E.or es/\F es=Aa:=by
 by_cases c:e.ctorIdx=10
 .exact E.or.elim (motive_1:=λe=>Nt e F=Aa->∃ es,e=E.or es/\F es=Aa) e c (λes h=>⟨es,rfl,h⟩) h
 .exact noF ((Cq c).symm.trans h)
noncomputable def Nm(e:E)(F:DX->E->E->Aj):Aj:=if c:e.ctorIdx=11 then E.cmp.elim (motive_1:=λ_=>Aj) e c F else Af
theorem bF{e:E}{F:DX->E->E->Aj}(h:Nm e F=Aa):∃ o a b,e=E.cmp o a b/\F o a b=Aa:=by
 by_cases c:e.ctorIdx=11
 .exact E.cmp.elim (motive_1:=λe=>Nm e F=Aa->∃ o a b,e=E.cmp o a b/\F o a b=Aa) e c (λo a b h=>⟨o,a,b,rfl,h⟩) h
 .exact noF ((Cq c).symm.trans h)
noncomputable def Nn(e:E)(F:DX->DX->E->E->E->Aj):Aj:=if c:e.ctorIdx=12 then E.cmp2.elim (motive_1:=λ_=>Aj) e c F else Af
theorem bG{e:E}{F:DX->DX->E->E->E->Aj}(h:Nn e F=Aa):∃ o q a b c,e=E.cmp2 o q a b c/\F o q a b c=Aa:=by
 by_cases c:e.ctorIdx=12
 .exact E.cmp2.elim (motive_1:=λe=>Nn e F=Aa->∃ o q a b c,e=E.cmp2 o q a b c/\F o q a b c=Aa) e c (λo q a b c h=>⟨o,q,a,b,c,rfl,h⟩) h
 .exact noF ((Cq c).symm.trans h)
noncomputable def No(e:E)(F:BI->Es->Aj):Aj:=if c:e.ctorIdx=15 then E.bi.elim (motive_1:=λ_=>Aj) e c F else Af
theorem bH{e:E}{F:BI->Es->Aj}(h:No e F=Aa):∃ b as,e=E.bi b as/\F b as=Aa:=by
 by_cases c:e.ctorIdx=15
 .exact E.bi.elim (motive_1:=λe=>No e F=Aa->∃ b as,e=E.bi b as/\F b as=Aa) e c (λb as h=>⟨b,as,rfl,h⟩) h
 .exact noF ((Cq c).symm.trans h)
noncomputable def Qa(e:E)(F:Aj->Aj):Aj:=if c:e.ctorIdx=1 then E.bl.elim (motive_1:=λ_=>Aj) e c F else Af
theorem fZ{e:E}{F:Aj->Aj}(h:Qa e F=Aa):∃ b,e=E.bl b/\F b=Aa:=by
 by_cases c:e.ctorIdx=1
 .exact E.bl.elim (motive_1:=λe=>Qa e F=Aa->∃ b,e=E.bl b/\F b=Aa) e c (λb h=>⟨b,rfl,h⟩) h
 .exact noF ((Cq c).symm.trans h)
noncomputable def Nc(e:E):Aj:=decide (e.ctorIdx=0)
theorem aI{e:E}(h:Nc e=Aa):e=.non:=E.non.elim (motive_1:=λe=>e=.non) e (A9 h) rfl
noncomputable def DA:Am->Aj
 |.Starred _ _=>Af
 |_=>Aa
noncomputable def SF:Am->Aj
 |.Slice _ _ _ _=>Af
 |_=>Aa
noncomputable def Nq:Am->Aj
 |.Set _ _ _=>Af
 |_=>Aa
noncomputable def K0:Am->Aj
 |.ListComp _ _ _ _=>Af
 |.SetComp _ _ _ _=>Af
 |.DictComp _ _ _ _ _=>Af
 |_=>Aa
noncomputable def U_2(tu:Aj):Am->Aj
 |.Tuple ..=>tu
 |.Name ..=>!tu
 |_=>Af
noncomputable def qR:Am->Aj
 |.Tuple _ _ _=>Aa
 |_=>Af
noncomputable def MG:Am->Aj
 |.UnaryOp _ _ _=>Af
 |.BoolOp _ _ _=>Af
 |.IfExp _ _ _ _=>Af
 |.Compare _ _ _ _=>Af
 |_=>Aa
noncomputable def PJ:Ki->Ao Ak
 |.int=>Ab "int"
 |.bool=>Ab "bool"
 |.str=>Ab "str"
 |.list=>Ab "list"
 |.tuple=>Ab "tuple"
 |_=>Ad
noncomputable def PK:BI->Ao Ak
 |.len=>Ab "len"
 |.abs=>Ad
 |.max=>Ad
 |.min=>Ab "min"
 |.int=>Ab "int"
 |.list=>Ab "list"
 |.tuple=>Ab "tuple"
 |.all=>Ab "all"
 |.any=>Ad
 |.sum=>Ad
 |.sorted=>Ab "sorted"
 |.tmin=>Ad
 |.tmax=>Ad
 |_=>Ad
noncomputable def Pp(o scope:Ce):Ce:={scope with names:=scope.names.map λ(n,k)=>if (k==.free&&o.kind==.function&&o.names.lookup n==Ab .cell) then (n,.cell) else (n,k)}
noncomputable def Mi:Ac Ae->Ac Ak->Ac Ak->Ac Ak
 |t::ts,x::xs,N=>Mi ts xs ((N.map λy=>if y==x then N.getD t x else y).set t x)
 |_,_,N=>N
noncomputable def L7:Ac Ak->Aj
 |[]=>Aa
 |x::xs=>!xs.contains x&&L7 xs
noncomputable def NB(T:Tc)(scope:Ce)(ts:Ac Ae)(N':Ac Ak):Aj:=
  scope.kind==.function&&scope.names.all (λy=>scope.names.lookup y.1==Ab y.2) &&
  scope.names.all (λy=>y.2 != .free||T.sc.names.lookup y.1==Ab .cell||T.sc.names.lookup y.1==Ab .free) &&
  N'.length==T.N.length&&L7 N' &&
  (AB N'.length).all λi=>ts.contains i||(match N'[i]? with
    |some x=>(scope.names.lookup x != Ab .local&&scope.names.lookup x != Ab .cell)&&(scope.names.lookup x != Ab .free||T.N[i]? == Ab x)
    | none=>Aa)
noncomputable def HS:Ac Am->Ao (Ac Ak)
 |[]=>Ab []
 |.Name x _::r=>(HS r).map (x :: ·)
 |_=>Ad
noncomputable def tgN(ys:Ac Am):Ac Ak:=(HS ys).getD []
noncomputable def tgO(T:Tc)(scope:Ce)(t:Ae)(x:Ak):Aj:=T.N[t]? == Ab x&&(T.sc.names.lookup x==Ab .local||(T.sc.names.lookup x==Ab .cell&&scope.names.lookup x==Ab .cell))
noncomputable def tgC(T:Tc):Ac Ae->Ac Ak->Aj
 |[],[]=>Aa
 |t::ts,x::xs=>T.N[t]? == Ab x&&Li T x&&tgC T ts xs
 |_,_=>Af
noncomputable def Tc.blk(T:Tc)(scope:Ce)(ts:Ac Ae)(xs:Ac Ak):Tc:={T with sc:=Pp T.sc scope,N:=Mi ts xs T.N}
noncomputable def tB:E->Aj
 |.lst _=>Aa
 |.comp _ _ _ _=>Aa
 |.compT _ _ _ _=>Aa
 |.bin .Add _ _=>Aa
 |.bi .list _=>Aa
 |.sl _ _ _=>Aa
 |_=>Af
noncomputable def qS:E->Aj
 |.call _ _=>Aa
 |_=>Af
noncomputable def M8:E->Ao E
  | .bi b as=>(match b with
    | .list=>(match as with
      | .cons x r=>(match r with
        | .nil=>(match x with
          | .bin op a c=>(match op with
            | .Add=>(match c with
              | .tup es=>(match es with
                |.nil=>Ab a
                | _=>Ad)
              | _=>Ad)
            | _=>Ad)
          | _=>Ad)
        | _=>Ad)
      | .nil=>Ad)
    | _=>Ad)
  |_=>Ad
theorem aW{e a:E}(q:M8 e=Ab a):e=.bi .list (.cons (.bin .Add a (.tup .nil)) .nil):=by
 unfold M8 at q
 repeat' split at q
 all_goals first|cases q;done|skip
 cases q;rfl
noncomputable def Va:Am->Ao (Am×Am×A3)
  | .Compare x ops ys p=>(match ops with
    | [.Lt]=>(match ys with
      |[y]=>Ab (x,y,p)
      | _=>Ad)
    | _=>Ad)
  |_=>Ad
noncomputable def PP(_:Es):Ao (E×E):=Ad
noncomputable def P0(_:Tc)(_:Tc->Am->E->Aj)(_:Am)(_:Ac DX)(_:Ac Am)(_:BI)(_:Es):Aj:=Af
noncomputable def U_7(T:Tc)(e:Am)(b:BI)(as:Es):Aj:=Af
noncomputable def Pj:Am->Ao (Ak×A3)
 |.Name x p=>Ab (x,p)
 |_=>Ad
theorem QX{e:Am}{t:Ak×A3}(q:Pj e=Ab t):e=.Name t.1 t.2:=by
 cases e with
 |Name x p=>cases q;rfl
 |_=>cases q
noncomputable def Pk:Am->Ao (Am×Ac Am×Ac Ei×A3)
 |.Call f as ks p=>Ab (f,as,ks,p)
 |_=>Ad
theorem QZ{e:Am}{t:Am×Ac Am×Ac Ei×A3}(q:Pk e=Ab t):e=.Call t.1 t.2.1 t.2.2.1 t.2.2.2:=by
 cases e with
 |Call f as ks p=>cases q;rfl
 |_=>cases q
noncomputable def sD:Am->Ao (Ac Am×Ae×A3)
 |.Tuple es k p=>Ab (es,k,p)
 |_=>Ad
noncomputable def one{α:Type}:Ac α->Ao α
 |[a]=>Ab a
 |_=>Ad
theorem kP{l:Ac α}{a:α}(q:one l=Ab a):l=[a]:=by
  match l,q with
  |[b],q=>cases q;rfl
noncomputable def Ny(e:Am):Ao (Ak×Ak×Ac Am):=(Pk e).bind λc=>(Pj c.1).bind λg=>(one c.2.1).bind λa=>(Pk a).bind λd=>(Pj d.1).bind λh=>if (c.2.2.1.isEmpty&&d.2.2.1.isEmpty)=Aa then Ab (g.1,h.1,d.2.1) else Ad
theorem gS{e:Am}{h:Ak}{bs:Ac Am}(q:Ny e=Ab (g,h,bs)):∃ p p' pos pos',e=.Call (.Name g p) [.Call (.Name h p') bs [] pos'] [] pos:=by
 obtain⟨⟨f,as,ks,pos⟩,e1,q⟩:=DW.mp q;obtain⟨⟨g',p⟩,e2,q⟩:=DW.mp q;obtain⟨a,e3,q⟩:=DW.mp q;obtain⟨⟨f',bs',ks',pos'⟩,e4,q⟩:=DW.mp q;obtain⟨⟨h',p'⟩,e5,q⟩:=DW.mp q;by_cases hk:(ks.isEmpty&&ks'.isEmpty)=Aa
 .rw[Ar hk]at q;cases q;rw[An,HH,HH]at hk;obtain⟨rfl,rfl⟩:=hk;have x1:=QZ e1;have x2:=QX e2;have x3:=kP e3;have x4:=QZ e4;have x5:=QX e5;dsimp only at x1 x2 x3 x4 x5;subst x1 x2 x3 x4 x5;exact⟨_,_,_,_,rfl⟩
 .rw[As hk]at q;cases q
noncomputable def UY(e:Am):Ao (Ak×Ak×Am×Am):=match Ny e with
  | some (g,h,bs)=>(match bs with
    |[x,y]=>Ab (g,h,x,y)
    | _=>Ad)
  |none=>Ad
noncomputable def PU(_:Es):Ao (E×E):=Ad
noncomputable def IF(e:Am):Ao (Ak×Ak×Am):=match Ny e with
  | some (g,h,bs)=>(match bs with
    |[x]=>Ab (g,h,x)
    | _=>Ad)
  |none=>Ad
theorem SL{e:Am}{h:Ak}(q:IF e=Ab (g,h,x)):∃ p p' pos pos',e=.Call (.Name g p) [.Call (.Name h p') [x] [] pos'] [] pos:=by
  unfold IF at q;cases c:Ny e with
  |none=>rw[c]at q;cases q
  |some t=>
    obtain⟨g',h',bs⟩:=t;rw[c]at q
    match bs,q,c with
    |[a],q,c=>cases q;exact gS c
noncomputable def NC:Es->Ao (Ak×E)
  | .cons a r=>(match a with
    | .str s=>(match r with
      | .cons b r'=>(match r' with
        | .nil=>(match b with
          |.var _=>Ad
          | b=>Ab (s,b))
        | _=>Ad)
      | _=>Ad)
    | _=>Ad)
  |.nil=>Ad
theorem iE{s:Ak}(q:NC as=Ab (s,a)):as=.cons (.str s) (.cons a .nil)/\∀ U r,top U a r=r:=by
 cases as with
 |nil=>cases q
 |cons a r=>
  cases a with
  |str s=>
   cases r with
   |nil=>cases q
   |cons b r'=>
    cases r' with
    |nil=>cases b<;>first|(cases q;exact⟨rfl,λ_ _=>rfl⟩)|cases q
    |cons=>cases q
  |_=>cases q
noncomputable def Me:Es->Ao E
  | .cons a r=>(match r with
    |.nil=>Ab a
    | _=>Ad)
  |.nil=>Ad
theorem aV(q:Me as=Ab a):as=.cons a .nil:=by
 unfold Me at q;split at q
 .split at q
  .cases q;rfl
  .cases q
 .cases q
noncomputable def PR(_:Es):Ao E:=Ad
noncomputable def two(e:Am):Ao (Am×Am):=(sD e).bind λt=>match t.1 with
  |[a,b]=>Ab (a,b)
  |_=>Ad
noncomputable def Qg(_:Es):Ao E:=Ad
noncomputable def UP(_:Am):Ao Am:=Ad
noncomputable def U_3:Am->Ao (Am×Ag)
  | .Subscript v s _=>(match s with
    | .Slice lo hi st _=>(match lo with
      | some (.Constant (.int k) _ _)=>(match hi with
        | none=>(match st with
          |some (.Constant (.int j) _ _)=>if j=2 then Ab (v,k) else Ad
          | _=>Ad)
        | some _=>Ad)
      | _=>Ad)
    | _=>Ad)
  |_=>Ad
noncomputable def PQ(_:Es):Ao (E×Ag):=Ad
mutual
noncomputable def Bo:Ae->Tc->Am->E->Aj
  |0,_,_,_=>Af
  |n+1,T,e,c=>match c with
    |.non=>JP e λc=>decide (c=.none)
    |.bl b=>JP e λc=>decide (c=.bool b)
    |.int i=>JP e λc=>decide (c=.int i)
    |.str x=>JP e λc=>decide (c=.str x)
    |.var i=>Ji e λx=>isV T x i
    |.glob g=>Af
    |.bin op a b=>PF e λx op' y=>decide (op'=op)&&Bo n T x a&&Bo n T y b
    |.un op a=>Lg e λo x=>decide (o=.USub)&&(decide (op=.USub)&&Bo n T x a)
    |.no a=>Lg e λo x=>decide (o=.Not)&&Bo n T x a
    |.and es=>Lb e λo xs _=>decide (o=.And)&&(chkEs n T xs es && !xs.isEmpty)
    |.or es=>Lb e λo xs _=>decide (o=.Or)&&(chkEs n T xs es && !xs.isEmpty)
    |.cmp op a b=>Md e λx os ys=>F1 os λop'=>F1 ys λy=>decide (op'=op) && !behindInMarks op y&&Bo n T x a&&Bo n T y b
    |.cmp2 op1 op2 a b c=>Af
    |.ite c a b=>PD e λt x y=>chkB n T t c&&Bo n T x a&&Bo n T y b
    |.call f as=>Pe e λg x xs=>(T.fns.any λp=>p.1==g&&p.2.1==f&&p.2.2==xs.length+1)&&decide (xs.length<900)&&glB T g&&Mm g&&chkEs n T (x::xs) as
    |.bi b as=>(Pe e λg x xs=>PK b==Ab g&&isB T g&&chkEs n T (x::xs) as)||U_7 T e b as||(match PU as with|some (a,c)=>(match UY e with|some (g,h,x,y)=>decide (b=.list)&&g==("list" : Ak)&&h==("range" : Ak)&&isB T g&&isB T h&&DA x&&DA y&&Bo n T x a&&Bo n T y c|none=>Af)|none=>Af)||(match PQ as with|some (a,k)=>(match U_3 e with|some (x,j)=>decide (b=.stp)&&decide (j=k)&&decide (0<=k)&&Bo n T x a|none=>Af)|none=>Af)||(match PR as with|some a=>(match IF e with|some (g,h,x)=>decide (b=.lset)&&g==("len" : Ak)&&h==("set" : Ak)&&isB T g&&isB T h&&DA x&&Bo n T x a|none=>Af)|none=>Af)||(match Me as with|some a=>(match IF e with|some (g,h,x)=>decide (b=.sset)&&g==("sorted" : Ak)&&h==("set" : Ak)&&isB T g&&isB T h&&DA x&&Bo n T x a|none=>Af)|none=>Af)||(match PP as with|some (a,c)=>(match Va e with|some (x,y,_)=>decide (b=.tlt) && !behindInMarks .Lt y&&Bo n T x a&&Bo n T y c|none=>Af)|none=>Af)||(match NC as with|some (s,a)=>La e λf l ks cp=>ks.isEmpty&&(Mb f λo m ap=>m==("join" : Ak)&&ap.endLine==cp.line&&(JP o λc=>decide (c=.str s)&&decide (b=.sjoin)&&(F1 l λy=>DA y&&Bo n T y a)))|none=>Af)||(match Qg as with|some a=>(match UP e with|some x=>decide (b=.rvs)&&Bo n T x a|none=>Af)|none=>Af)
    |.isi a ks=>F1 ks λk=>Kj e λg l=>Jl l λx t=>Ji t λt=>g==("isinstance" : Ak)&&isB T g&&PJ k==Ab t&&isB T t&&DA x&&Bo n T x a
    |.idx a i=>Px e λx y=>SF y&&Bo n T x a&&Bo n T y i
    |.sl a lo hi=>Af
    |.tup es=>Nj e λxs=>chkEs n T xs es&&decide (xs.length<=1000)
    |.lst es=>PB e λxs=>chkEs n T xs es&&decide (xs.length<=1000)
    |.comp elt t it c=>UW e λx tg iter ifs scope=>Ji tg λy=>chkI n T Af iter it&&Nq iter&&NB T scope [t] (Mi [t] [y] T.N)&&tgO (T.blk scope [t] [y]) scope t y&&chkT n (T.blk scope [t] [y]) ifs c&&Bo n (T.blk scope [t] [y]) x elt
    |.compT elt ts it c=>Af
    |.tupI _=>Af
    |.dnew=>Af
    |.fld _ _=>Af
noncomputable def chkB:Ae->Tc->Am->E->Aj
 |0,_,_,_=>Af
 |n+1,T,e,c=>(Lg e λo x=>decide (o=.Not)&&(Nu c λa=>chkB n T x a)) ||
  (Lb e λo xs _=>(decide (o=.And)&&(Np c λes=>chkBs n T xs es && !xs.isEmpty))||(decide (o=.Or)&&(Nt c λes=>chkBs n T xs es && !xs.isEmpty))) ||
  (Md e λx os ys=>(Nm c λop a b=>F1 os λop'=>F1 ys λy=>decide (op'=op) && !behindInMarks op y&&Bo n T x a&&Bo n T y b) ||
   (Nn c λop1 op2 a b c=>Jl os λo1 o2=>Jl ys λy z=>decide (o1=op1)&&decide (o2=op2) && !lastMarks [op1,op2] [y,z]&&Bo n T x a&&Bo n T y b&&Bo n T z c) ||
   (No c λb as=>P0 T (Bo n) x os ys b as)) ||
  MG e&&Bo n T e c
noncomputable def chkBs:Ae->Tc->Ac Am->Es->Aj
  |0,_,_,_=>Af
  |n+1,T,xs,es=>match xs,es with
    |[],.nil=>Aa
    |x::xs,.cons e es=>chkB n T x e&&chkBs n T xs es
    |_,_=>Af
noncomputable def chkEs:Ae->Tc->Ac Am->Es->Aj
  |0,_,_,_=>Af
  |n+1,T,xs,es=>match xs,es with
    |[],.nil=>Aa
    |x::xs,.cons e es=>DA x&&Bo n T x e&&chkEs n T xs es
    |_,_=>Af
noncomputable def U_8:Ae->Tc->Ao Am->E->Aj
  |0,_,_,_=>Af
  |n+1,T,x,e=>match x with
    |none=>Nc e
    |some x=>!(Nc e)&&Bo n T x e
noncomputable def chkT:Ae->Tc->Ac Am->E->Aj
  |0,_,_,_=>Af
  |n+1,T,xs,e=>match xs with
    |[]=>Qa e λb=>b
    |x::r=>r.isEmpty&&chkB n T x e
noncomputable def chkI:Ae->Tc->Aj->Am->I->Aj
  |0,_,_,_,_=>Af
  |n+1,T,tu,e,i=>match i with
    |.e a=>Bo n T e a
    |.rng a=>Kj e λg l=>F1 l λx=>g==("range" : Ak)&&isB T g&&DA x&&Bo n T x a
    |.enm a=>Af
    |.zip a b=>Kj e λg l=>Jl l λx y=>tu&&g==("zip" : Ak)&&isB T g&&DA x&&DA y&&Bo n T x a&&Bo n T y b
    |.rng2 a b=>Kj e λg l=>Jl l λx y=>g==("range" : Ak)&&isB T g&&DA x&&DA y&&Bo n T x a&&Bo n T y b
    |.rrv a=>(match IF e with|some (g,h,x)=>g==("reversed" : Ak)&&h==("range" : Ak)&&isB T g&&isB T h&&DA x&&Bo n T x a|none=>Af)
    |.rng3 a b c=>Kj e λg l=>Up l λx y z=>g==("range" : Ak)&&isB T g&&DA x&&DA y&&DA z&&Bo n T x a&&Bo n T y b&&Bo n T z c
    |.zip3 a b c=>Af
end
noncomputable def UB(_:Ae)(_:Tc)(_:Ae)(_:Ac Bm)(_:Ss):Aj:=Af
noncomputable def sN:E->Aj
  | .bi b as=>(match b,as with
    |.len,.nil=>Aa
    | _,_=>Af)
  |_=>Af
noncomputable def sM:S->Aj
 |.expr e=>sN e
 |_=>Af
noncomputable def NA:Ss->Aj
 |.cons s _=>sM s
 |.nil=>Af
mutual
noncomputable def Nz:Ae->Tc->Bm->S->Aj
  |0,_,_,_=>Af
  |n+1,T,st,s=>match s with
    |.pass=>Af
    |.brk=>Af
    |.cont=>Af
    |.asg i _ e=>Uq st λx v=>T.N[i]? == Ab x&&Li T x&&Bo n T v e
    |.asgT ts e=>Af
    |.expr e=>Nl st λv=>K0 v&&Bo n T v e
    |.ret e=>Py st λo=>match o with|some v=>Bo n T v e|none=>Af
    |.retN=>Af
    |.ife c a b=>Nv st λt xs ys=>chkB n T t c&&chkSs n T xs a&&chkSs n T ys b
    |.lnd c a b=>Nv st λt xs ys=>chkB n T t c&&chkSs n T xs a&&chkSs n T ys b
    |.fors t it body=>Nk st λtg iter xs ys=>ys.isEmpty&&(Ji tg λx=>tgC T [t] [x]&&Nq iter&&chkI n T Af iter it&&chkSs n T xs body)
    |.forT ts it body=>Nk st λtg iter xs zs=>zs.isEmpty&&(Nj tg λys=>(HS ys).isSome&&tgC T ts (tgN ys)&&Nq iter&&chkI n T Aa iter it&&chkSs n T xs body)
    |.whl c body=>Af
    |.rais c as=>!(T.rzs.any λp=>p.2==c)
    |.tryx _ _ _ _=>Af
    |.try2 _ _ _ _ _ _ _=>Af
    |.app i e=>Pz st λx m l=>F1 l λv=>m==("append" : Ak)&&isV T x i&&DA v&&Bo n T v e
    |.ext i e=>Pz st λx m l=>F1 l λv=>m==("extend" : Ak)&&isV T x i&&DA v&&((tB e||qS e)&&Bo n T v e||(match M8 e with|some a=>Bo n T v a|none=>Af))
    |.rev i=>Af
    |.clr i=>Af
    |.put i k e=>Af
    |.swp _ _ _=>Af
    |.apop _ _ _=>Af
    |.ins i k e=>Af
    |.dput _ _ _=>Af
    |.dsd _ _ _=>Af
    |.rel _=>Af
noncomputable def chkSs:Ae->Tc->Ac Bm->Ss->Aj
  |0,_,_,_=>Af
  | n+1,T,sts,ss=>(match ss with
    |.nil=>sts.isEmpty
    |.cons (.rel i) ss=>chkSs n T sts ss
    | .cons s ss=>(match sts with
      |st::r=>Nz n T st s&&chkSs n T r ss
      | []=>Af))||NA ss
end
noncomputable def Jo(fuel:Ae)(hot:Aj)(fns:Ac (Ak×Ae×Ae))(bl:Ac Ak)(rzs exs gls:Ac (Ak×Ae))(ps N:Ac Ak)(st:Bm)(df:Df):Aj:=
  let sc:=GK st
  sc.kind==.function && !sc.isCoroutine && !sc.isGenerator&&L7 N&&N.take ps.length==ps&&ps.all (λx=>sc.names.lookup x==Ab .local||sc.names.lookup x==Ab .cell)&&sc.names.all (λy=>y.2 != .free)&&N.length==df.n &&
  (match hot with
  |true=>UB fuel ⟨sc,N,fns,bl,rzs,exs,gls⟩ 0 (HU st) df.body
  | false=>chkSs fuel ⟨sc,N,fns,bl,rzs,exs,gls⟩ (HU st) df.body)
structure XT (up:Ae->Ac Ae) (xn:Ae->Ac D->R Ex) (CL:ClA) (rzs exs:Ac (Ak×Ae)) (K:Fg) (mg:Ak->Ao Ai):Prop where
 xc:∀ c C,CL c=Ab C->XcOk K C
 rz:∀ p∈rzs,∃ C,CL p.2=Ab C/\mg p.1=Ab (.ref C)
 ex:∀ p∈exs,∃ C,mg p.1=Ab (.ref C)/\nQ K CL up p.2 C/\∀ c D,CL c=Ab D->XS K (.ref D) (.ref C)=Ab ((up c).contains p.2)
 made:∀ c C ds,CL c=Ab C->xn c ds=.bad\/(xn c ds=.ok ⟨c,[]⟩/\Lf K C Ad=Aa)\/Bj
 nf:∀ c C,CL c=Ab C->∀ f:Ak,(f==("triple" : Ak)||f==("points" : Ak))=Aa->Mh K C=Aa/\Cw K (.ref C) f=Ab Ad
 xb:∀ c,(∀ p∈rzs,p.2≠c)->∀ ds,xn c ds=.bad
def Qd(K:Fg)(mg:Ak->Ao Ai)(CL:ClA)(x:Ak)(d:D):Prop:=∃ u v,mg x=Ab u/\BP v u/\∀ H A,Rep K CL H A v d
structure VX (Y:Gam) (CL:ClA) (k:Ae) (W:XW) (T:Tc) (X:Cx):Prop where
 sc:X.env.scope=T.sc
 kd:T.sc.kind=.function
 N:X.N=T.N
 nd:T.N.Nodup
 calm:X.calm=Aa
 room:Room k X.A
 bl:∀ x,x∈T.bl->X.mg x=Ad
 fn:∀ p∈T.fns,∃ f fd ps,X.mg p.1=Ab (.ref f)/\C9 X.K (.ref f)=Aa/\Iz X.K fd ps []/\ps.length=p.2.2%1000/\(p.2.2<1000->FnOk X.prog X.w X.K X.mg X.base (CXR X.prog X.w) k f fd ps (spD X.K CL (p.2.2%1000) (Y.fr p.2.1) (Y.F p.2.1)))/\(1000<=p.2.2->HotOk X.prog X.w X.K X.mg X.base k f fd ps (spH X.K CL (p.2.2%1000) (Y.fr p.2.1) (Y.F p.2.1)))
 own:Gv (model X.prog X.w) X.A X.env X.xe
 px:∀ A,K7 (CXR X.prog X.w) X (EKW X.K CL A W)
 rz:Qb X CL W
 xt:XT Y.up Y.xn CL T.rzs T.exs X.K X.mg
 gl:∀ p∈T.gls,Qd X.K X.mg CL p.1 (Y.G p.2)
theorem TR:∀ A,K7 (CXR X.prog X.w) X (EKW X.K CL A W0):=λA pins Z H s ev s' I h=>by
 obtain⟨e,T,cls,dx,H',_,_,_,_,_,_,_,_,_,_,x,_,w⟩:=h;exact w.elim
theorem U_5:Qb X CL W0:=λ_ _ _ _ _ _ _ _ _ _ _ _ _ _ z=>z.elim
def Rf{α:Type}(g f:Rho->R α):Prop:=∀ U,g U=.bad\/g U=f U
section
variable{X:Cx}{CL:ClA}{W:XW}{a:Am}{f g:Rho->R D}
theorem SE.ref(h:SE X CL W a f)(r:Rf g f):SE X CL W a g:=λA=>PE.weak (h A) λZ H Q ⟨hA,U,q,p⟩=>⟨hA,U,q,by
 rcases r U with e|e
 .rw[e]at p;exact p.elim
 .rw[e]at p;exact p⟩
theorem SB.ref{f g:Rho->R Aj}(h:SB X CL W a f)(r:Rf g f):SB X CL W a g:=λA=>PT.weak (h A) λZ H Q ⟨hA,U,q,p⟩=>⟨hA,U,q,by
 rcases r U with e|e
 .rw[e]at p;exact p.elim
 .rw[e]at p;exact p⟩
theorem SW.ref{f g:Rho->R Aj}(h:SW X CL W a f)(r:Rf g f):SW X CL W a g:=λA=>PW.weak (h A) λZ H Q ⟨hA,U,q,p⟩=>⟨hA,U,q,by
 rcases r U with e|e
 .rw[e]at p;exact p.elim
 .rw[e]at p;exact p⟩
theorem SC.ref(h:SC X CL W fr a f)(r:Rf g f):SC X CL W fr a g:=λA=>PE.weak (h A) λZ H Q ⟨hA,U,q,p⟩=>⟨hA,U,q,by
 rcases r U with e|e
 .rw[e]at p;exact p.elim
 .rw[e]at p;exact p⟩
theorem SS.ref{st:Bm}{f g:Rho->O}(h:SS X CL W st f)(r:∀ U,g U=.bad\/g U=f U):SS X CL W st g:=λFz B=>PS.weak (h Fz B) λD Z H ⟨U,x,p⟩=>⟨U,x,by
 rcases r U with e|e
 .rw[e]at p;exact p.elim
 .rw[e]at p;exact p⟩
end
theorem MK:∀{l:Ac Ak},L7 l=Aa->l.Nodup
 |[],_=>II
 |x::xs,h=>by
  unfold L7 at h;simp only[An,Cd,VB,FU]at h;exact DE.mpr ⟨h.1,MK h.2⟩
section
variable{T:Tc}{X:Cx}{Y:Gam}{CL:ClA}{k:Ae}{W:XW}
theorem cC{x:Ak}(h:PZ T x=Aa):Vis T.sc x:=by
 unfold PZ at h;split at h
 .exact .inl (by assumption)
 .exact .inr (.inl (by assumption))
 .exact .inr (.inr (by assumption))
 .cases h
theorem OJ{x:Ak}(h:Li T x=Aa):Loc T.sc x:=by
 unfold Li at h;split at h
 .exact .inl (by assumption)
 .exact .inr (by assumption)
 .cases h
theorem OS{x:Ak}(h:Mm x=Aa):(x==("__debug__" : Ak))=Af/\(x==("__classdict__" : Ak))=Af/\x≠"__name__" := by
 unfold Mm at h;simp only[An,Cd]at h;exact⟨h.1.1,h.1.2,λe=>by subst e;exact absurd h.2 (by simp)⟩
theorem K4{x:Ak}{i:Ae}(v:VX Y CL k W T X)(h:isV T x i=Aa):PE X (.Name x pos) (JQ i):=by
 unfold isV at h;simp only[An,BC]at h;obtain⟨h2,h3,_⟩:=OS h.2;exact lQ (by rw[v.N];exact h.1.1) (by rw[v.sc];exact cC h.1.2) h2 h3
theorem HR{x:Ak}(v:VX Y CL k W T X)(h:isB T x=Aa):Gl X x/\X.mg x=Ad/\x≠"__name__"/\(x==("__debug__" : Ak))=Af:=by
 unfold isB glB at h;simp only[An,BC,VB,AZ]at h;obtain⟨h2,h3,h4⟩:=OS h.2;exact⟨by show X.env.scope.names.lookup x=_;rw[v.sc];exact h.1.2,v.bl x h.1.1,h4,h2⟩
theorem C1(h:DA x=Aa):AI (x::xs) env=(Af,eval x env)::AI xs env:=by
 cases x<;>first|rfl|cases h
theorem Z_1{y:Am}(h:SF y=Aa):OY y:=by
 intro o i;cases y<;>first|rfl|cases h
theorem OZ{e:Am}(h:Nq e=Aa):∀ x,Dh e env x=pure x:=by
 intro x;cases e<;>first|rfl|cases h
theorem Ta{e:Am}{t:Ao Am}(h:K0 e=Aa):EI e t l env=pure Af:=by
 cases e<;>first|rfl|cases h
theorem bU{e:Am}(h:MG e=Aa):∀ whole,IQ e env whole=(do let v <-whole;standAt e.pos;holding [v] (truthy v)):=by
 intro whole;cases e<;>first|rfl|cases h
theorem Zd(v:VX Y CL k W T X)(scope:Ce):relabel scope X.env=Pp T.sc scope:=by
 unfold relabel Pp;have:∀ n,X.env.kindOf n=T.sc.names.lookup n:=λn=>by show X.env.scope.names.lookup n=_;rw[v.sc]
 simp only[this,v.sc]
theorem Ts{N':Ac Ak}(v:VX Y CL k W T X)(h:NB T scope ts N'=Aa):BlockOk X scope N' ts/\N'.Nodup/\scope.kind=.function:=by
 unfold NB at h;simp only[An,BC,Br,CM,Kz,ne_eq]at h;obtain⟨⟨⟨⟨⟨h1,h2⟩,h4⟩,h5⟩,h6⟩,h7⟩:=h;have at7:∀ i x,N'[i]?=Ab x->i∈ts\/((scope.names.lookup x≠Ab .local/\scope.names.lookup x≠Ab .cell)/\(scope.names.lookup x≠Ab .free\/T.N[i]?=Ab x)):=λi x e=>by
  have hi:=(AW.mp e).1;have:=h7 i (BA.mpr hi);rcases this with z|z
  .exact .inl (by simpa using z)
  .rw[e]at z;simp only[An,Kz,ne_eq,CM,BC]at z;exact .inr z
 refine⟨⟨h1,h2,λy hy hl=>by rw[h2 y hy,hl],λy hy hf=>?_,by rw[v.N];exact h5,λi x e hf hn=>?_,λi x e hl=>?_⟩,MK h6,h1⟩
 .rw[v.sc];rcases h4 y hy with (z|z)|z
  .exact absurd hf z
  .exact .inl z
  .exact .inr z
 .rw[v.N];rcases at7 i x e with z|⟨_,z⟩
  .exact absurd z hn
  .exact z.resolve_left λq=>q hf
 .rcases at7 i x e with z|⟨z,_⟩
  .exact z
  .exact hl.elim (λq=>absurd q z.1) (λq=>absurd q z.2)
theorem VX.blk{xs:Ac Ak}{cl:Ac (Ak×Al)}{s:Ap}{fp:Ac Al}(v:VX Y CL k W T X)(h:NB T scope ts (Mi ts xs T.N)=Aa):VX Y CL k W0 (T.blk scope ts xs) (cxC X scope cl C (Mi ts xs T.N) s H fp):=by
 obtain⟨_,h2,h3⟩:=Ts v h;exact⟨Zd v scope,h3,rfl,h2,v.calm,v.room,v.bl,v.fn,PassesOwn.never,TR,U_5,v.xt,v.gl⟩
theorem bQ{t:Ae}{x:Ak}(v:VX Y CL k W T X)(hfn:scope.names.lookup x=Ab .cell->X.fn x=Aa)(h:tgO T scope t x=Aa):PG X (.Name x pos) (Hm t):=by
 unfold tgO at h;simp only[An,CM,BC]at h;rcases h with ⟨h1,h2|h2⟩
 .exact MS (by rw[v.N];exact v.nd) (by rw[v.N];exact h1) (by rw[v.sc];exact .inl h2) (.inr (by rw[v.sc];exact h2))
 .exact MS (by rw[v.N];exact v.nd) (by rw[v.N];exact h1) (by rw[v.sc];exact .inr h2.1) (.inl (hfn h2.2))
theorem Ql{y:Am}{r:Ac Am}{zs:Ac Ak}(h:HS (y::r)=Ab zs):∃ x p ws,y=.Name x p/\HS r=Ab ws/\zs=x::ws:=by
 cases y with
 |Name x p=>
  have h':(HS r).map (x :: ·)=Ab zs:=h;cases e:HS r with
  |none=>rw[e]at h';cases h'
  |some ws=>rw[e]at h';cases h';exact⟨x,p,ws,rfl,rfl,rfl⟩
 |_=>cases h
theorem Rk(x:Ak)(p:A3)(r:Ac Am)(env:CY):EB (.Name x p::r) env=(Af,assign (.Name x p) env)::EB r env:=rfl
theorem Yz:∀(ys:Ac Am)(zs:Ac Ak),HS ys=Ab zs->(EB ys env).length=ys.length/\(EB ys env).findIdx? (·.1)=Ad/\(EB ys env).map (·.2)=ys.map λy=>assign y env:=by
 intro ys
 induction ys with
 |nil=>intro _ _;exact⟨rfl,rfl,rfl⟩
 |cons y r ih=>
  intro zs h;obtain⟨x,p,ws,rfl,e,rfl⟩:=Ql h;obtain⟨h1,h2,h3⟩:=ih ws e;rw[Rk];refine⟨?_,?_,?_⟩
  .rw[A7,A7,h1]
  .rw[List.findIdx?_cons,h2];simp
  .rw[CC,CC,h3]
end
noncomputable def Es.len:Es->Ae
 |.nil=>0
 |.cons _ es=>es.len+1
theorem OL(Y:Gam)(U:Rho):∀(es:Es)(ds:Ac D),evA Y U es=.ok ds->ds.length=es.len
 |.nil,ds,h=>by cases h;rfl
 |.cons e es,ds,h=>by
  obtain⟨x,h1,h2⟩:=J4 (Rt Y U e es ▸ h);obtain⟨xs,h3,h4⟩:=J4 h2;cases h4;exact congrArg (· + 1) (OL Y U es xs h3)
theorem S8(Y:Gam)(U:Rho):∀(es:Es)(ds:Ac D),evB Y U es=.ok ds->ds.length=es.len
 |.nil,ds,h=>by cases h;rfl
 |.cons e es,ds,h=>by
  obtain⟨x,h1,h2⟩:=J4 (Rs Y U e es ▸ h);obtain⟨xs,h3,h4⟩:=J4 h2;cases h4;exact congrArg (· + 1) (S8 Y U es xs h3)
theorem Ti(Y:Gam)(U:Rho)(e:E)(h:shE U e=Aa):top U e (evE Y U e)=evE Y U e:=by
 cases e with
 |var i=>
  show Gp U i=F2 U i;have h':shV U i=Aa:=h;unfold shV at h';unfold Gp F2;cases q:U[i]? with
  |none=>rfl
  |some x=>
   cases x with
   |none=>rfl
   |some y=>
    obtain⟨d,o⟩:=y;cases o with
    |true=>rw[q]at h';cases h'
    |false=>rfl
 |_=>rfl
theorem Ub(Y:Gam)(U:Rho):∀(es:Es),JR U es=Aa->evB Y U es=evA Y U es
 |.nil,_=>rfl
 |.cons e es,h=>by
  simp only[YK,An]at h;rw[Rt,Rs,Ti Y U e h.1,Ub Y U es h.2]
theorem O2(Y:Gam)(c:E):Rf (λU=>evE Y U c) (λU=>top U c (evE Y U c)):=λU=>by
 by_cases h:shE U c=Aa
 .exact .inr (Ti Y U c h).symm
 .cases c with
  |var i=>
   refine .inl ?_;show F2 U i=.bad;have h':¬ shV U i=Aa:=h;unfold shV at h';unfold F2;cases q:U[i]? with
   |none=>rfl
   |some x=>
    cases x with
    |none=>rfl
    |some y=>
     obtain⟨d,o⟩:=y;cases o with
     |true=>rfl
     |false=>rw[q]at h';exact absurd rfl h'
  |_=>exact absurd rfl h
def Pcs(X:Cx)(CL:ClA)(W:XW)(e:Am)(f:Rho->R D):Prop:=∃ tg iter elt ifs scope pos N' ts fi fc fe as g,e=.ListComp elt [⟨tg,iter,ifs,0⟩] scope pos/\BlockOk X scope N' ts/\SI X CL W tg iter fi/\GG X.K CL ts as g /\
 (∀ cl C s H fp,PG (cxC X scope cl C N' s H fp) tg g)/\(∀ cl C s H fp,STs (cxC X scope cl C N' s H fp) CL ifs fc)/\(∀ cl C s H fp,SE (cxC X scope cl C N' s H fp) CL W0 elt fe)/\(∀ x,Dh iter X.env x=pure x) /\
 ∀ U,f U=(fi U).bind λxs=>(noX (BK (λx=>(as x U).bind fc) (λx=>(as x U).bind fe) xs)).bind λys=>.ok (.lst ys)
theorem Pcs.sc{W:XW}{e:Am}{f:Rho->R D}(hc:X.calm=Aa)(h:Pcs X CL W e f):SC X CL W Aa e f:=by
 obtain⟨tg,iter,elt,ifs,scope,pos,N',ts,fi,fc,fe,as,g,rfl,B,hi,hGG,hg,ht,he,hs,ef⟩:=h;exact SC.congr (eR hc B hi hGG hg ht he hs) ef
structure OkE (Y:Gam) (CL:ClA) (W:XW) (X:Cx) (e:Am) (c:E):Prop where
 se:SE X CL W e (λU=>evE Y U c)
 st:ST X CL W e (λU=>top U c (evE Y U c))
 nw:DT Y c=Aa->SC X CL W Aa e (λU=>evE Y U c)
 cp:K0 e=Af->Pcs X CL W e (λU=>evE Y U c)
section
variable{Y:Gam}{CL:ClA}{W:XW}{X:Cx}{e:Am}{c:E}
theorem Fe(h:SE X CL W e (λU=>evE Y U c))(ht:∀ U r,top U c r=r)(hn:DT Y c=Af)(hc:K0 e=Aa):OkE Y CL W X e c:=
 ⟨h,by simp only[ht];exact h.st,λz=>absurd z (by rw[hn];decide),λz=>absurd z (by rw[hc];decide)⟩
theorem O6(h:SC X CL W Aa e (λU=>evE Y U c))(ht:∀ U r,top U c r=r)(hc:K0 e=Aa):OkE Y CL W X e c:=
 ⟨h.se,by simp only[ht];exact h.se.st,λ_=>h,λz=>absurd z (by rw[hc];decide)⟩
theorem rN(hc:X.calm=Aa)(h:Pcs X CL W e (λU=>evE Y U c))(ht:∀ U r,top U c r=r):OkE Y CL W X e c:=
 ⟨(h.sc hc).se,by simp only[ht];exact(h.sc hc).se.st,λ_=>h.sc hc,λ_=>h⟩
end
theorem sB{k:Ki}{x:Ak}(h:PJ k=Ab x):∃ T,tyK k=Ab T/\CZ x=Ab (.type T):=by
 cases k<;>simp only[PJ]at h<;>cases h
 .exact⟨_,rfl,Wg⟩
 .exact⟨_,rfl,PyProof.Rows.boot_bool⟩
 .exact⟨_,rfl,PyProof.Rows.boot_str⟩
 .exact⟨_,rfl,Wh⟩
 .exact⟨_,rfl,Wj⟩
structure Snd (Y:Gam) (CL:ClA) (k:Ae) (n:Ae):Prop where
 e:∀(W:XW)(T:Tc)(X:Cx)(x:Am)(c:E),VX Y CL k W T X->Bo n T x c=Aa->OkE Y CL W X x c
 b:∀(W:XW)(T:Tc)(X:Cx)(x:Am)(c:E),VX Y CL k W T X->chkB n T x c=Aa->SB X CL W x (λU=>(top U c (evE Y U c)).bind Cj)
 bs:∀(W:XW)(T:Tc)(X:Cx)(xs:Ac Am)(es:Es)(pos:A3),VX Y CL k W T X->chkBs n T xs es=Aa->xs≠[]->SW X CL W (.BoolOp .And xs pos) (λU=>(evN Y U es).bind Cj)/\SW X CL W (.BoolOp .Or xs pos) (λU=>(evO Y U es).bind Cj)
 es:∀(W:XW)(T:Tc)(X:Cx)(xs:Ac Am)(es:Es),VX Y CL k W T X->chkEs n T xs es=Aa->SA X CL W xs (λU=>evA Y U es)/\SAT X CL W xs (λU=>evB Y U es)/\xs.length=es.len/\(∀ pos,xs≠[]->SE X CL W (.BoolOp .And xs pos) (λU=>evN Y U es)/\SE X CL W (.BoolOp .Or xs pos) (λU=>evO Y U es))/\(∀ pos,(Cz pos (AI xs X.env)).any (·.1)=Af)
 o:∀(W:XW)(T:Tc)(X:Cx)(x:Ao Am)(c:E),VX Y CL k W T X->U_8 n T x c=Aa->SO X CL W x (λU=>(top U c (evE Y U c)).bind (slE c))
 t:∀(T:Tc)(X:Cx)(xs:Ac Am)(c:E),VX Y CL k W0 T X->chkT n T xs c=Aa->STs X CL xs (λU=>(top U c (evE Y U c)).bind Cj)
 i:∀(W:XW)(T:Tc)(X:Cx)(tu:Aj)(tg x:Am)(i:I),VX Y CL k W T X->U_2 tu tg=Aa->chkI n T tu x i=Aa->SI X CL W tg x (λU=>evI Y U i)
section
variable{Y:Gam}{CL:ClA}{W:XW}{k n:Ae}{T:Tc}{X:Cx}
theorem Z_0:Snd Y CL k 0:=⟨λ_ _ _ _ _ _ h=>noF h,λ_ _ _ _ _ _ h=>noF h,λ_ _ _ _ _ _ _ h=>noF h,λ_ _ _ _ _ _ h=>noF h,λ_ _ _ _ _ _ h=>noF h,λ_ _ _ _ _ h=>noF h,λ_ _ _ _ _ _ _ _ _ h=>noF h⟩
theorem Qj(h:DA x=Aa)(hx:(Cz pos (AI xs env)).any (·.1)=Af):(Cz pos (AI (x::xs) env)).any (·.1)=Af:=by
 rw[C1 h];show (Af||(Cz pos (AI xs env)).any (·.1))=Af;rw[hx];rfl
theorem jV(S:Snd Y CL k n)(W:XW)(T:Tc)(X:Cx)(xs:Ac Am)(es:Es)(v:VX Y CL k W T X)(h:chkEs (n+1) T xs es=Aa):SA X CL W xs (λU=>evA Y U es)/\SAT X CL W xs (λU=>evB Y U es)/\xs.length=es.len/\(∀ pos,xs≠[]->SE X CL W (.BoolOp .And xs pos) (λU=>evN Y U es)/\SE X CL W (.BoolOp .Or xs pos) (λU=>evO Y U es))/\(∀ pos,(Cz pos (AI xs X.env)).any (·.1)=Af):=by
 cases xs with
 |nil=>
  cases es with
  |nil=>exact⟨jH,eU,rfl,λ_ z=>absurd rfl z,λ_=>rfl⟩
  |cons=>exact noF h
 |cons x xs=>
  cases es with
  |nil=>exact noF h
  |cons e es=>
   replace h:(DA x&&Bo n T x e&&chkEs n T xs es)=Aa:=h;simp only[An]at h;obtain⟨⟨h0,h1⟩,h2⟩:=h;have he:=S.e W T X x e v h1;obtain⟨a1,a2,a3,a4,a5⟩:=S.es W T X xs es v h2;refine⟨eV he.se a1 (C1 h0),Z_4 he.st a2 (C1 h0),congrArg (· + 1) a3,λpos _=>?_,λpos=>Qj h0 (a5 pos)⟩
   cases xs with
   |nil=>
    cases es with
    |nil=>exact⟨TJ he.se,TJ he.se⟩
    |cons=>cases a3
   |cons y ys=>
    cases es with
    |nil=>cases a3
    |cons e' es'=>
     obtain⟨b1,b2⟩:=a4 pos (by simp)
     exact⟨jD he.se b1,pY he.se b2⟩
theorem nW(S:Snd Y CL k n)(W:XW)(T:Tc)(X:Cx)(x:Ao Am)(c:E)(v:VX Y CL k W T X)(h:U_8 (n+1) T x c=Aa):SO X CL W x (λU=>(top U c (evE Y U c)).bind (slE c)):=by
 cases x with
 |none=>
  obtain rfl:=aI h;exact eL
 |some x=>
  replace h:(!(Nc c)&&Bo n T x c)=Aa:=h;rw[An]at h;have q:=eK (S.e W T X x c v h.2).st;have e:slE c=λd=>(DK d).bind λi=>.ok (Ab i):=by
   funext d
   cases c<;>first|rfl|exact absurd (show Af=Aa from h.1) AE
  rw[e];exact q
theorem nU(S:Snd Y CL k n)(T:Tc)(X:Cx)(xs:Ac Am)(c:E)(v:VX Y CL k W0 T X)(h:chkT (n+1) T xs c=Aa):STs X CL xs (λU=>(top U c (evE Y U c)).bind Cj):=by
 cases xs with
 |nil=>
  replace h:=fZ h;obtain⟨b,rfl,h⟩:=h;subst h;exact dZ
 |cons x xs=>
  replace h:(xs.isEmpty&&chkB n T x c)=Aa:=h;rw[An]at h;obtain rfl:=Kg h.1;exact bX (S.b W0 T X x c v h.2)
theorem nX(S:Snd Y CL k n)(W:XW)(T:Tc)(X:Cx)(tu:Aj)(tg x:Am)(i:I)(v:VX Y CL k W T X)(ht':U_2 tu tg=Aa)(h:chkI (n+1) T tu x i=Aa):SI X CL W tg x (λU=>evI Y U i):=by
 have ht:tu=Aa->qR tg=Aa:=λz=>by
  subst z;cases tg<;>first|rfl|cases ht'
 cases i with
 |e a=>
  exact sT (S.e W T X x a v h).se
 |rng a=>
  replace h:=KP h;obtain⟨g,pp,l,qq,rfl,h⟩:=h;replace h:=Hj h;obtain⟨y,rfl,h⟩:=h;simp only[An,BC]at h;obtain⟨⟨⟨rfl,h1⟩,h2⟩,h3⟩:=h;obtain⟨g1,g2,_,_⟩:=HR v h1;exact iS (S.e W T X _ a v h3).st g1 g2 (C1 h2)
 |rng2 a b=>
  replace h:=KP h;obtain⟨g,pp,l,qq,rfl,h⟩:=h;replace h:=KO h;obtain⟨y,z,rfl,h⟩:=h;simp only[An,BC]at h;obtain⟨⟨⟨⟨⟨rfl,h1⟩,h2⟩,h3⟩,h4⟩,h5⟩:=h;obtain⟨g1,g2,_,_⟩:=HR v h1;exact eN (S.e W T X _ a v h4).st (S.e W T X _ b v h5).st g1 g2 (by rw[C1 h2,C1 h3];rfl) (by rw[C1 h3];rfl)
 |rrv a=>
  have h':(match IF x with|some (g,h,y)=>g==("reversed" : Ak)&&h==("range" : Ak)&&isB T g&&isB T h&&DA y&&Bo n T y a|none=>Af)=Aa:=h
  cases q2:IF x with
  |none=>rw[q2]at h';cases h'
  |some t2=>
   obtain⟨g,f,y⟩:=t2;rw[q2]at h';simp only[An,BC]at h';obtain⟨⟨⟨⟨⟨rfl,rfl⟩,h1⟩,h2⟩,h3⟩,h4⟩:=h';obtain⟨p,p',pos,pos',rfl⟩:=SL q2;obtain⟨g1,g2,_,_⟩:=HR v h1;obtain⟨g3,g4,_,_⟩:=HR v h2;exact iR (S.e W T X _ a v h4).st g3 g4 g1 g2 (by rw[C1 h3];rfl)
 |rng3 a b c=>
  replace h:=KP h;obtain⟨g,pp,l,qq,rfl,h⟩:=h;replace h:=aZ h;obtain⟨y,z,w,rfl,h⟩:=h;simp only[An,BC]at h;obtain⟨⟨⟨⟨⟨⟨⟨rfl,h1⟩,h2⟩,h3⟩,h4⟩,h5⟩,h6⟩,h7⟩:=h;obtain⟨g1,g2,_,_⟩:=HR v h1;exact eM (S.e W T X _ a v h5).st (S.e W T X _ b v h6).st (S.e W T X _ c v h7).st g1 g2 (by rw[C1 h2,C1 h3,C1 h4];rfl) (by rw[C1 h3,C1 h4];rfl) (by rw[C1 h4];rfl)
 |zip a b=>
  replace h:=KP h;obtain⟨g,pp,l,qq,rfl,h⟩:=h;replace h:=KO h;obtain⟨y,z,rfl,h⟩:=h;simp only[An,BC]at h;obtain⟨⟨⟨⟨⟨⟨h0,rfl⟩,h1⟩,h2⟩,h3⟩,h4⟩,h5⟩:=h;obtain⟨g1,g2,_,_⟩:=HR v h1;have hg:=ht h0;cases tg with
  |Tuple es m tpos=>exact pX (S.e W T X _ a v h4).se (S.e W T X _ b v h5).se g1 g2 (by rw[C1 h2,C1 h3];rfl) (by rw[C1 h3];rfl)
  |_=>cases hg
 |zip3 a b c=>exact absurd (show Af=Aa from h) AE
 |enm a=>exact absurd (show Af=Aa from h) AE
theorem KJ{c:Prop}[E1 c]{b:Aj}:(if c then R.ok (D.bl b) else .bad)=.bad\/∃ b',(if c then R.ok (D.bl b) else .bad)=.ok (.bl b'):=by
 by_cases h:c
 .rw[Ar h];exact .inr ⟨_,rfl⟩
 .rw[As h];exact .inl rfl
theorem aS(op:DX)(d d':D):Cb op d d'=.bad\/∃ b,Cb op d d'=.ok (.bl b):=by
 cases op with
 |Eq=>exact KJ
 |NotEq=>exact KJ
 |In=>
  cases d' with
  |lst ys=>exact KJ
  |tup ys=>exact KJ
  |dic kvs=>
   show (match Lj d with|some k=>R.ok (D.bl (kvs.any λp=>p.1==k))|none=>.bad)=.bad\/∃ b,(match Lj d with|some k=>R.ok (D.bl (kvs.any λp=>p.1==k))|none=>.bad)=.ok (.bl b)
   cases Lj d with
   |some k=>exact .inr ⟨_,rfl⟩
   |none=>exact .inl rfl
  |_=>exact .inl rfl
 |NotIn=>
  cases d' with
  |lst ys=>exact KJ
  |tup ys=>exact KJ
  |str j=>cases d<;>first|exact .inr ⟨_,rfl⟩|exact .inl rfl
  |_=>exact .inl rfl
 |Is=>
  cases d' with
  |non=>cases d<;>first|exact .inr ⟨_,rfl⟩|exact .inl rfl
  |_=>cases d<;>first|exact .inl rfl|exact .inr ⟨_,rfl⟩
 |IsNot=>
  cases d' with
  |non=>cases d<;>first|exact .inr ⟨_,rfl⟩|exact .inl rfl
  |_=>cases d<;>first|exact .inl rfl|exact .inr ⟨_,rfl⟩
 |_=>
  cases d with
  |int i=>cases d'<;>first|exact .inr ⟨_,rfl⟩|exact .inl rfl
  |_=>exact .inl rfl
theorem Tb(op:DX)(d d':D):(Cb op d d').bind Cj=.bad\/(Cb op d d').bind Cj=(Cb op d d').bind EG:=by
 rcases aS op d d' with h|⟨b,h⟩
 .rw[h];exact .inl rfl
 .rw[h];exact .inr rfl
theorem nF(e e':E)(es:Es):Rf (λU=>(evN Y U (.cons e (.cons e' es))).bind Cj) (λU=>((top U e (evE Y U e)).bind Cj).bind λc=>if c=Aa then (evN Y U (.cons e' es)).bind Cj else .ok Af):=λU=>by
 have e0:evN Y U (.cons e (.cons e' es))=(evE Y U e).bind λx=>(EG x).bind λc=>if c=Aa then evN Y U (.cons e' es) else .ok (.bl Af):=rfl
 dsimp only;rw[e0];rcases O2 Y e U with z|z<;>dsimp only at z
 .rw[z];exact .inl rfl
 .rw[<-z];cases evE Y U e with
  |bad=>exact .inl rfl
  |exn x=>exact .inr rfl
  |ok d=>
   cases d with
   |bl b=>cases b<;>exact .inr rfl
   |_=>exact .inl rfl
theorem nE(e e':E)(es:Es):Rf (λU=>(evO Y U (.cons e (.cons e' es))).bind Cj) (λU=>((top U e (evE Y U e)).bind Cj).bind λc=>if c=Aa then .ok Aa else (evO Y U (.cons e' es)).bind Cj):=λU=>by
 have e0:evO Y U (.cons e (.cons e' es))=(evE Y U e).bind λx=>(EG x).bind λc=>if c=Aa then .ok (.bl Aa) else evO Y U (.cons e' es):=rfl
 dsimp only;rw[e0];rcases O2 Y e U with z|z<;>dsimp only at z
 .rw[z];exact .inl rfl
 .rw[<-z];cases evE Y U e with
  |bad=>exact .inl rfl
  |exn x=>exact .inr rfl
  |ok d=>
   cases d with
   |bl b=>cases b<;>exact .inr rfl
   |_=>exact .inl rfl
theorem Rf.tru(e:E):Rf (λU=>(evE Y U e).bind Cj) (λU=>(top U e (evE Y U e)).bind Cj):=λU=>by
 rcases O2 Y e U with z|z<;>dsimp only at z ⊢
 .rw[z];exact .inl rfl
 .rw[<-z];exact .inr rfl
theorem jW(S:Snd Y CL k n)(W:XW)(T:Tc)(X:Cx)(xs:Ac Am)(es:Es)(pos:A3)(v:VX Y CL k W T X)(h:chkBs (n+1) T xs es=Aa)(hne:xs≠[]):SW X CL W (.BoolOp .And xs pos) (λU=>(evN Y U es).bind Cj)/\SW X CL W (.BoolOp .Or xs pos) (λU=>(evO Y U es).bind Cj):=by
 cases xs with
 |nil=>exact absurd rfl hne
 |cons x xs=>
  cases es with
  |nil=>exact noF h
  |cons e es=>
   replace h:(chkB n T x e&&chkBs n T xs es)=Aa:=h;simp only[An]at h;obtain⟨h1,h2⟩:=h;have he:=S.b W T X x e v h1;cases xs with
   |nil=>
    cases es with
    |nil=>exact⟨SW.ref (bW he) (Rf.tru e),SW.ref (jO he) (Rf.tru e)⟩
    |cons=>
     cases n with
     |zero=>exact absurd (show Af=Aa from h2) AE
     |succ n=>exact absurd (show Af=Aa from h2) AE
   |cons y ys=>
    cases es with
    |nil=>
     cases n with
     |zero=>exact absurd (show Af=Aa from h2) AE
     |succ n=>exact absurd (show Af=Aa from h2) AE
    |cons e' es'=>
     obtain⟨b1,b2⟩:=S.bs W T X (y::ys) (.cons e' es') pos v h2 (by simp)
     exact⟨SW.ref (jS he b1) (nF e e' es'),SW.ref (nS he b2) (nE e e' es')⟩
theorem bP(S:Snd Y CL k n){ops:Ac DX}{b:BI}(v:VX Y CL k W T X)(h:P0 T (Bo n) x ops ys b as=Aa):SB X CL W (.Compare x ops ys pos) (λU=>(top U (.bi b as) (evE Y U (.bi b as))).bind Cj):=by
 exact absurd (show Af=Aa from h) AE
theorem nZ(S:Snd Y CL k n)(W:XW)(T:Tc)(X:Cx)(x:Am)(c:E)(v:VX Y CL k W T X)(h:chkB (n+1) T x c=Aa):SB X CL W x (λU=>(top U c (evE Y U c)).bind Cj):=by
 have plain:∀ e,MG e=Aa->Bo n T e c=Aa->SB X CL W e (λU=>(top U c (evE Y U c)).bind Cj):=λe h1 h2=>jE (S.e W T X e c v h2).st (bU h1)
 replace h:((Lg x λo x=>decide (o=.Not)&&(Nu c λa=>chkB n T x a))||(Lb x λo xs _=>(decide (o=.And)&&(Np c λes=>chkBs n T xs es && !xs.isEmpty))||(decide (o=.Or)&&(Nt c λes=>chkBs n T xs es && !xs.isEmpty)))||(Md x λx os ys=>(Nm c λop a b=>F1 os λop'=>F1 ys λy=>decide (op'=op) && !behindInMarks op y&&Bo n T x a&&Bo n T y b)||(Nn c λop1 op2 a b c=>Jl os λo1 o2=>Jl ys λy z=>decide (o1=op1)&&decide (o2=op2) && !lastMarks [op1,op2] [y,z]&&Bo n T x a&&Bo n T y b&&Bo n T z c)||(No c λb as=>P0 T (Bo n) x os ys b as))||MG x&&Bo n T x c)=Aa:=h
 replace h:=(orT h).imp_left λz=>(orT z).imp_left orT
 rcases h with ((h|h)|h)|h
 .replace h:=OP h;obtain⟨o,y,p,rfl,h⟩:=h;replace h:=EV h;obtain⟨h0,h⟩:=h;obtain rfl:=A9 h0;replace h:=fX h;obtain⟨a,rfl,h⟩:=h
  .skip
   refine SB.ref (jF (S.b W T X _ a v h)) λU=>?_
   show ((top U a (evE Y U a)).bind λx=>(EG x).bind λb=>.ok (.bl (!b))).bind Cj=.bad\/((top U a (evE Y U a)).bind λx=>(EG x).bind λb=>.ok (.bl (!b))).bind Cj=_
   cases top U a (evE Y U a) with
   |bad=>exact .inl rfl
   |exn x=>exact .inr rfl
   |ok d=>cases d<;>first|exact .inr rfl|exact .inl rfl
 .replace h:=OI h;obtain⟨o,ys,p,rfl,h⟩:=h;replace h:=orT h;rcases h with h|h
  .replace h:=EV h;obtain⟨h0,h⟩:=h;obtain rfl:=A9 h0;replace h:=bM h;obtain⟨es,rfl,h⟩:=h;simp only[An,Cd,Ew]at h;exact(S.bs W T X _ _ _ v h.1 h.2).1.sb
  .replace h:=EV h;obtain⟨h0,h⟩:=h;obtain rfl:=A9 h0;replace h:=fW h;obtain⟨es,rfl,h⟩:=h;simp only[An,Cd,Ew]at h;exact(S.bs W T X _ _ _ v h.1 h.2).2.sb
 .replace h:=RD h;obtain⟨w,os,ys,p,rfl,h⟩:=h;replace h:=(orT h).imp_left orT;rcases h with (h|h)|h
  .replace h:=bF h;obtain⟨op,a,b,rfl,h⟩:=h;replace h:=Hj h;obtain⟨op',rfl,h⟩:=h;replace h:=Hj h;obtain⟨y,rfl,h⟩:=h
   .simp only[An,Cd,AZ]at h;obtain⟨⟨⟨rfl,h1⟩,h2⟩,h3⟩:=h;refine SB.ref (jG (MU v.room.units _) (S.e W T X _ a v h2).st (S.e W T X _ b v h3).st h1) λU=>?_
    show ((top U a (evE Y U a)).bind λx=>(top U b (evE Y U b)).bind λy=>Cb op' x y).bind Cj=.bad\/((top U a (evE Y U a)).bind λx=>(top U b (evE Y U b)).bind λy=>Cb op' x y).bind Cj=_
    cases top U a (evE Y U a) with
    |bad=>exact .inl rfl
    |exn x=>exact .inr rfl
    |ok d=>
     cases top U b (evE Y U b) with
     |bad=>exact .inl rfl
     |exn x=>exact .inr rfl
     |ok d'=>
      dsimp only[R.bind];exact Tb _ d d'
  .replace h:=bG h;obtain⟨op1,op2,a,b,c,rfl,h⟩:=h;replace h:=KO h;obtain⟨o1,o2,rfl,h⟩:=h;replace h:=KO h;obtain⟨y,z,rfl,h⟩:=h
   .simp only[An,Cd,AZ]at h;obtain⟨⟨⟨⟨⟨rfl,rfl⟩,h1⟩,h2⟩,h3⟩,h4⟩:=h;refine SB.ref (Z_2 v.room.units (S.e W T X _ a v h2).st (S.e W T X _ b v h3).st (S.e W T X _ c v h4).st h1) λU=>?_
    show ((top U a (evE Y U a)).bind λx=>(top U b (evE Y U b)).bind λy=>(Cb o1 x y).bind λz=>(EG z).bind λk=>if k=Aa then (top U c (evE Y U c)).bind λu=>Cb o2 y u else .ok (.bl Af)).bind Cj=.bad\/((top U a (evE Y U a)).bind λx=>(top U b (evE Y U b)).bind λy=>(Cb o1 x y).bind λz=>(EG z).bind λk=>if k=Aa then (top U c (evE Y U c)).bind λu=>Cb o2 y u else .ok (.bl Af)).bind Cj=_
    cases top U a (evE Y U a) with
    |bad=>exact .inl rfl
    |exn x=>exact .inr rfl
    |ok d=>
     cases top U b (evE Y U b) with
     |bad=>exact .inl rfl
     |exn x=>exact .inr rfl
     |ok d'=>
      dsimp only[R.bind];cases Cb o1 d d' with
      |bad=>exact .inl rfl
      |exn x=>exact .inr rfl
      |ok d3=>
       cases d3 with
       |bl k=>
        cases k with
        |false=>exact .inr rfl
        |true=>
         dsimp only[R.bind,EG];rw[Ar rfl,Ar rfl];cases top U c (evE Y U c) with
         |bad=>exact .inl rfl
         |exn x=>exact .inr rfl
         |ok d4=>exact Tb _ d' d4
       |_=>exact .inl rfl
  .replace h:=bH h;obtain⟨b,as,rfl,h⟩:=h;exact bP S v h
 .exact plain _ (EV h).1 (EV h).2
end
section
variable{Y:Gam}{CL:ClA}{W:XW}{k n:Ae}{T:Tc}{X:Cx}
theorem sC{b:BI}(v:VX Y CL k W T X)(hb:PK b=Ab g)(hg:isB T g=Aa)(hs:SAT X CL W (x::xs) (λU=>evB Y U as))(h0:DA x=Aa)(hpl:∀ pos,(Cz pos (AI xs X.env)).any (·.1)=Af):OkE Y CL W X (.Call (.Name g p) (x::xs) [] pos) (.bi b as):=by
 obtain⟨g1,g2,g3,g4⟩:=HR v hg;cases b<;>simp only[PK]at hb<;>cases hb
 .exact Fe (O0 mZ g1 g2 PySem.boot_len hs g3 g4 (C1 h0) hpl) (λ_ _=>rfl) rfl rfl
 .exact Fe (O0 (mY v.calm) g1 g2 PyProof.Rows.boot_min hs g3 g4 (C1 h0) hpl) (λ_ _=>rfl) rfl rfl
 .exact Fe (TL nB g1 g2 Wg hs g3 g4 (C1 h0) hpl) (λ_ _=>rfl) rfl rfl
 .exact O6 (kD gR g1 g2 Wh hs g3 g4 (C1 h0) hpl) (λ_ _=>rfl) rfl
 .exact Fe (TL aT g1 g2 Wj hs g3 g4 (C1 h0) hpl) (λ_ _=>rfl) rfl rfl
 .exact Fe (O0 (nC v.calm) g1 g2 PyProof.Rows.boot_all hs g3 g4 (C1 h0) hpl) (λ_ _=>rfl) rfl rfl
 .exact O6 (kE aA g1 g2 Wi hs g3 g4 (C1 h0) hpl) (λ_ _=>rfl) rfl
theorem NV{es:Es}(h:chkEs n T (x::xs) es=Aa):DA x=Aa/\∃ e es',es=.cons e es'/\∃ m,n=m+1/\chkEs m T xs es'=Aa:=by
 cases n with
 |zero=>exact noF h
 |succ m=>
  cases es with
  |nil=>exact noF h
  |cons e es=>
   replace h:(DA x&&Bo m T x e&&chkEs m T xs es)=Aa:=h;simp only[An]at h;exact⟨h.1.1,e,es,rfl,m,rfl,h.2⟩
theorem QR:∀(m:Ae)(xs:Ac Am)(es:Es),chkEs m T xs es=Aa->∀ pos,(Cz pos (AI xs X.env)).any (·.1)=Af:=by
 intro m
 induction m with
 |zero=>intro xs es h;exact noF h
 |succ m ih=>
  intro xs es h pos;cases xs with
  |nil=>rfl
  |cons x xs=>
   obtain⟨h0,e,es',rfl,m',e1,h1⟩:=NV h;cases e1;exact Qj h0 (ih xs es' h1 pos)
theorem fH(S:Snd Y CL k n){b:BI}(v:VX Y CL k W T X)(h:(match NC as with|some (s,a)=>La x λf l ks cp=>ks.isEmpty&&(Mb f λo m ap=>m==("join" : Ak)&&ap.endLine==cp.line&&(JP o λc=>decide (c=.str s)&&decide (b=.sjoin)&&(F1 l λy=>DA y&&Bo n T y a)))|none=>Af)=Aa):OkE Y CL W X x (.bi b as):=by
 cases q1:NC as with
 |none=>rw[q1]at h;cases h
 |some t=>
  obtain⟨s,a⟩:=t;rw[q1]at h;obtain⟨e,te⟩:=iE q1;subst e;replace h:=OH h;obtain⟨f,l,ks,cp,rfl,h⟩:=h;replace h:=EV h;obtain⟨h0,h⟩:=h;obtain rfl:=Kg h0;replace h:=RE h;obtain⟨o,m,ap,rfl,h⟩:=h;replace h:=EV h;obtain⟨h1,h⟩:=h;replace h1:=EV h1;obtain⟨h1,h2⟩:=h1;obtain rfl:=eq_of_beq h1;replace h:=LV h;obtain⟨c,u,p,rfl,h⟩:=h;replace h:=EV h;obtain⟨h3,h⟩:=h;replace h3:=EV h3;obtain⟨h3,h4⟩:=h3;obtain rfl:=A9 h3;obtain rfl:=A9 h4;replace h:=Hj h;obtain⟨y,rfl,h⟩:=h;replace h:=EV h;obtain⟨h5,h6⟩:=h;refine Fe (SE.congr (eQ (S.e W T X _ a v h6).se rfl (by rw[C1 h5];rfl) h2 (by rw[C1 h5];rfl)) λU=>?_) (λ_ _=>rfl) rfl rfl
  simp only[O5,evB,R.bind_assoc,R.bind_ok,cJ,eY,te]
theorem jI(S:Snd Y CL k n){b:BI}(v:VX Y CL k W T X)(h:(match Qg as with|some a=>(match UP x with|some y=>decide (b=.rvs)&&Bo n T y a|none=>Af)|none=>Af)=Aa):OkE Y CL W X x (.bi b as):=by
 simp[Qg]at h
theorem jL(S:Snd Y CL k n){b:BI}(v:VX Y CL k W T X)(h:(match PP as with|some (a,c)=>(match Va x with|some (y,z,_)=>decide (b=.tlt) && !behindInMarks .Lt z&&Bo n T y a&&Bo n T z c|none=>Af)|none=>Af)=Aa):OkE Y CL W X x (.bi b as):=by
 simp[PP]at h
theorem mK{b:BI}(v:VX Y CL k W T X)(h:U_7 T x b as=Aa):OkE Y CL W X x (.bi b as):=by
 exact absurd h AE
theorem jT(S:Snd Y CL k n){b:BI}(v:VX Y CL k W T X)(h:(match PQ as with|some (a,k)=>(match U_3 x with|some (y,j)=>decide (b=.stp)&&decide (j=k)&&decide (0<=k)&&Bo n T y a|none=>Af)|none=>Af)=Aa):OkE Y CL W X x (.bi b as):=by
 simp[PQ]at h
theorem kY(S:Snd Y CL k n){b:BI}(v:VX Y CL k W T X)(h:(match PU as with|some (a,c)=>(match UY x with|some (g,h,y,z)=>decide (b=.list)&&g==("list" : Ak)&&h==("range" : Ak)&&isB T g&&isB T h&&DA y&&DA z&&Bo n T y a&&Bo n T z c|none=>Af)|none=>Af)=Aa):OkE Y CL W X x (.bi b as):=by
 simp[PU]at h
theorem gI(S:Snd Y CL k n){b:BI}(v:VX Y CL k W T X)(h:(match PR as with|some a=>(match IF x with|some (g,h,y)=>decide (b=.lset)&&g==("len" : Ak)&&h==("set" : Ak)&&isB T g&&isB T h&&DA y&&Bo n T y a|none=>Af)|none=>Af)=Aa):OkE Y CL W X x (.bi b as):=by
 simp[PR]at h
theorem eC(S:Snd Y CL k n){b:BI}(v:VX Y CL k W T X)(h:(match Me as with|some a=>(match IF x with|some (g,h,y)=>decide (b=.sset)&&g==("sorted" : Ak)&&h==("set" : Ak)&&isB T g&&isB T h&&DA y&&Bo n T y a|none=>Af)|none=>Af)=Aa):OkE Y CL W X x (.bi b as):=by
 cases q1:Me as with
 |none=>rw[q1]at h;cases h
 |some a=>
  cases q2:IF x with
  |none=>rw[q1,q2]at h;cases h
  |some t2=>
   obtain⟨g,f,y⟩:=t2;rw[q1,q2]at h;simp only[An,BC,AZ]at h;obtain⟨⟨⟨⟨⟨⟨rfl,rfl⟩,rfl⟩,h1⟩,h2⟩,h3⟩,h4⟩:=h;obtain⟨p,p',pos,pos',rfl⟩:=SL q2;have e:=aV q1;subst e;obtain⟨g1,g2,_,_⟩:=HR v h1;obtain⟨g3,g4,_,_⟩:=HR v h2;refine Fe (SE.congr (eP (S.e W T X _ a v h4).st v.room.units v.calm g1 g2 g3 g4 (by rw[C1 h3];rfl)) λU=>?_) (λ_ _=>rfl) rfl rfl
   simp only[O5,evB,R.bind_assoc,R.bind_ok]
theorem nY(S:Snd Y CL k n)(W:XW)(T:Tc)(X:Cx)(x:Am)(c:E)(v:VX Y CL k W T X)(h:Bo (n+1) T x c=Aa):OkE Y CL W X x c:=by
 cases c with
 |non=>
  replace h:=LV h;obtain⟨c,u,p,rfl,h⟩:=h;obtain rfl:=A9 h;exact Fe iW (λ_ _=>rfl) rfl rfl
 |bl b=>
  replace h:=LV h;obtain⟨c,u,p,rfl,h⟩:=h;obtain rfl:=A9 h;exact Fe pZ (λ_ _=>rfl) rfl rfl
 |int i=>
  replace h:=LV h;obtain⟨c,u,p,rfl,h⟩:=h;obtain rfl:=A9 h;exact Fe jA (λ_ _=>rfl) rfl rfl
 |str i=>
  replace h:=LV h;obtain⟨c,u,p,rfl,h⟩:=h;obtain rfl:=A9 h;exact Fe TH (λ_ _=>rfl) rfl rfl
 |var i=>
  replace h:=JH h;obtain⟨y,p,rfl,h⟩:=h;exact⟨iT (K4 v h),jX (K4 v h),λz=>(nomatch z),λz=>(nomatch z)⟩
 |glob g=>exact absurd (show Af=Aa from h) AE
 |bin op a b=>
  replace h:=bI h;obtain⟨y,op',z,p,rfl,h⟩:=h;simp only[An,AZ]at h;obtain⟨⟨rfl,h1⟩,h2⟩:=h;have ha:=(S.e W T X _ a v h1).st;have hb:=(S.e W T X _ b v h2).st;refine⟨TK (SZ _) ha hb,(TK (SZ _) ha hb).st,λz=>?_,λz=>nomatch z⟩
  cases op'<;>first|exact kF ha hb|cases z
 |un op a=>
  replace h:=OP h;obtain⟨o,y,p,rfl,h⟩:=h;replace h:=EV h;obtain⟨h0,h⟩:=h;obtain rfl:=A9 h0;simp only[An,AZ]at h;obtain⟨rfl,h1⟩:=h;exact Fe (iX (S.e W T X _ a v h1).st) (λ_ _=>rfl) rfl rfl
 |no a=>
  replace h:=OP h;obtain⟨o,y,p,rfl,h⟩:=h;replace h:=EV h;obtain⟨h0,h⟩:=h;obtain rfl:=A9 h0;exact Fe (iV (S.e W T X _ a v h).st) (λ_ _=>rfl) rfl rfl
 |and es=>
  replace h:=OI h;obtain⟨o,ys,p,rfl,h⟩:=h;replace h:=EV h;obtain⟨h0,h⟩:=h;obtain rfl:=A9 h0;simp only[An,Cd,Ew]at h;exact Fe ((S.es W T X _ es v h.1).2.2.2.1 _ h.2).1 (λ_ _=>rfl) rfl rfl
 |or es=>
  replace h:=OI h;obtain⟨o,ys,p,rfl,h⟩:=h;replace h:=EV h;obtain⟨h0,h⟩:=h;obtain rfl:=A9 h0;simp only[An,Cd,Ew]at h;exact Fe ((S.es W T X _ es v h.1).2.2.2.1 _ h.2).2 (λ_ _=>rfl) rfl rfl
 |cmp op a b=>
  replace h:=RD h;obtain⟨y,os,ys,p,rfl,h⟩:=h;replace h:=Hj h;obtain⟨op',rfl,h⟩:=h;replace h:=Hj h;obtain⟨z,rfl,h⟩:=h;simp only[An,Cd,AZ]at h;obtain⟨⟨⟨rfl,h1⟩,h2⟩,h3⟩:=h;exact Fe (jC (MU v.room.units _) (S.e W T X _ a v h2).st (S.e W T X _ b v h3).st h1) (λ_ _=>rfl) rfl rfl
 |cmp2 op1 op2 a b c=>exact absurd (show Af=Aa from h) AE
 |ite c a b=>
  replace h:=bE h;obtain⟨t,y,z,p,rfl,h⟩:=h;simp only[An]at h;obtain⟨⟨h1,h2⟩,h3⟩:=h;refine Fe (SE.congr (iY (S.b W T X _ c v h1) (S.e W T X _ a v h2).se (S.e W T X _ b v h3).se) λU=>?_) (λ_ _=>rfl) rfl rfl
  show ((top U c (evE Y U c)).bind λx=>(Cj x).bind λk=>if k=Aa then evE Y U a else evE Y U b)=_
  rw[R.bind_assoc]
 |call f as=>
  replace h:=Q4 h;obtain⟨g,pp,y,ys,qq,rfl,h⟩:=h;simp only[An,DZ,BC,AZ]at h;obtain⟨⟨⟨⟨⟨p,hp,⟨rfl,rfl⟩,hl⟩,h900⟩,h1⟩,h2⟩,h3⟩:=h;obtain⟨fa,fd,ps,m1,m2,m3,m4,m5,_⟩:=v.fn p hp;have hlt:p.2.2<1000:=by omega
  rw[Nat.mod_eq_of_lt hlt]at m4 m5;have m5:=m5 hlt;obtain⟨n2,n3,n4⟩:=OS h2;obtain⟨a1,a2,a3,a4,a5⟩:=S.es W T X _ as v h3;obtain⟨s0,e,es',rfl,m,rfl,s1⟩:=NV h3;have q:SC X CL W (Y.fr p.2.1) (.Call (.Name p.1 pp) (y::ys) [] qq) (λU=>evE Y U (.call p.2.1 (.cons e es'))):=eS (sh:=λU=>JR U (.cons e es')) m5 v.room (by unfold glB at h1;show X.env.scope.names.lookup p.1=_;rw[v.sc];exact eq_of_beq h1) m1 m2 m3 v.px a1 a2 (λU z=>Ub Y U _ z) (λU ds z=>by rw[S8 Y U _ _ z,<-a3,hl];rfl) n2 (C1 s0) (QR m ys es' s1)
  exact⟨q.se,q.se.st,λz=>by
   have z':Y.fr p.2.1=Aa:=z;rw[z']at q;exact q,λz=>nomatch z⟩
 |bi b as=>
  unfold Bo at h;dsimp only at h;simp only[CM]at h;rcases h with (((((((h|h)|h)|h)|h)|h)|h)|h)|h
  .replace h:=Q4 h;obtain⟨g,pp,y,ys,qq,rfl,h⟩:=h;simp only[An,BC]at h;obtain⟨⟨h1,h2⟩,h3⟩:=h;obtain⟨s0,e,es',rfl,m,rfl,s1⟩:=NV h3;exact sC v h1 h2 (S.es W T X _ _ v h3).2.1 s0 (QR m _ es' s1)
  .exact mK v h
  .exact kY S v h
  .exact jT S v h
  .exact gI S v h
  .exact eC S v h
  .exact jL S v h
  .exact fH S v h
  .exact jI S v h
 |isi a ks=>
  replace h:=Hj h;obtain⟨k',rfl,h⟩:=h;replace h:=KP h;obtain⟨g,pp,l,qq,rfl,h⟩:=h;replace h:=KO h;obtain⟨y,t,rfl,h⟩:=h;replace h:=JH h;obtain⟨t,pt,rfl,h⟩:=h;simp only[An,BC]at h;obtain⟨⟨⟨⟨⟨rfl,h1⟩,h2⟩,h3⟩,h4⟩,h5⟩:=h;obtain⟨g1,g2,_,_⟩:=HR v h1;obtain⟨b1,b2,b3,b4⟩:=HR v h3;obtain⟨ty,t1,t2⟩:=sB h2;exact Fe (iZ t1 g1 g2 b1 b2 t2 b3 b4 (S.e W T X _ a v h5).st (C1 h4)) (λ_ _=>rfl) rfl rfl
 |idx a i=>
  replace h:=bA h;obtain⟨y,z,p,rfl,h⟩:=h;simp only[An]at h;obtain⟨⟨h1,h2⟩,h3⟩:=h;exact Fe (jB (Z_1 h1) (S.e W T X _ a v h2).st (S.e W T X _ i v h3).st) (λ_ _=>rfl) rfl rfl
 |sl a lo hi=>exact absurd (show Af=Aa from h) AE
 |tup es=>
  replace h:=Rz h;obtain⟨ys,cc,p,rfl,h⟩:=h;simp only[An,AZ]at h;have q:=S.es W T X _ es v h.1;exact Fe (iU q.1 λU ds z=>by rw[OL Y U _ _ z,<-q.2.2.1];omega) (λ_ _=>rfl) rfl rfl
 |lst es=>
  replace h:=bC h;obtain⟨ys,p,rfl,h⟩:=h;simp only[An,AZ]at h;have q:=S.es W T X _ es v h.1;exact O6 (kC q.1 λU ds z=>by rw[OL Y U _ _ z,<-q.2.2.1];omega) (λ_ _=>rfl) rfl
 |comp elt t it c=>
  replace h:=fY (e:=x) (F:=_) (by unfold Bo at h;exact h)
  obtain⟨y,tg,it',ifs,scope,p,rfl,h⟩:=h;replace h:=JH h;obtain⟨w,pw,rfl,h⟩:=h;simp only[An]at h;obtain⟨⟨⟨⟨⟨h1,h2⟩,h3⟩,h4⟩,h5⟩,h6⟩:=h;refine rN v.calm ⟨_,_,_,_,_,_,_,_,_,_,_,_,_,rfl,(Ts v h3).1,S.i W T X Af _ _ it v rfl h1,fQ t,λcl C s H fp=>bQ (v.blk h3) (λz=>BC.mpr z) h4,λcl C s H fp=>S.t _ _ _ c (v.blk h3) h5,λcl C s H fp=>(S.e W0 _ _ _ elt (v.blk h3) h6).se,OZ h2,λU=>rfl⟩ (λ_ _=>rfl)
 |compT elt ts it c=>exact absurd (show Af=Aa from h) AE
 |tupI it=>exact absurd (show Af=Aa from h) AE
 |dnew=>exact noF h
 |fld o f=>exact noF h
theorem snd:∀ n,Snd Y CL k n
 |0=>Z_0
 |n+1=>⟨nY (snd n),nZ (snd n),jW (snd n),jV (snd n),nW (snd n),nU (snd n),nX (snd n)⟩
end
section
variable{Y:Gam}{CL:ClA}{W:XW}{k n:Ae}{T:Tc}{X:Cx}
theorem bS{t:Ae}{x:Ak}(v:VX Y CL k W T X)(hf:∀ x,X.fn x=Aa)(h:tgC T [t] [x]=Aa):PG X (.Name x pos) (Hm t):=by
 unfold tgC at h;simp only[An,BC]at h;exact MS (by rw[v.N];exact v.nd) (by rw[v.N];exact h.1.1) (by rw[v.sc];exact OJ h.1.2) (.inl (hf x))
theorem bT(v:VX Y CL k W T X)(hf:∀ x,X.fn x=Aa):∀(ys:Ac Am)(ts:Ac Ae)(zs:Ac Ak),HS ys=Ab zs->tgC T ts zs=Aa->PGs X ys (ts.foldr (λt u=>Ma (Hm t) u) Mp)/\ts.length=ys.length:=by
 intro ys
 induction ys with
 |nil=>
  intro ts zs e h;cases e;cases ts with
  |nil=>exact⟨dW,rfl⟩
  |cons t ts=>cases h
 |cons y r ih=>
  intro ts zs e h;obtain⟨x,p,ws,rfl,e2,rfl⟩:=Ql e;cases ts with
  |nil=>cases h
  |cons t ts=>
   have h':(T.N[t]? == Ab x&&Li T x&&tgC T ts ws)=Aa:=h;simp only[An,BC]at h';obtain⟨h1,h2⟩:=ih ts ws e2 h'.2;exact⟨ZK (MS (by rw[v.N];exact v.nd) (by rw[v.N];exact h'.1.1) (by rw[v.sc];exact OJ h'.1.2) (.inl (hf x))) h1 (by rw[Rk];rfl),congrArg (· + 1) h2⟩
theorem bR{kk:Ae}(v:VX Y CL k W T X)(hf:∀ x,X.fn x=Aa)(hn:(HS ys).isSome=Aa)(h:tgC T ts (tgN ys)=Aa):PG X (.Tuple ys kk pos) (P7 X.K ts.length (ts.foldr (λt u=>Ma (Hm t) u) Mp)):=by
 cases e:HS ys with
 |none=>rw[e]at hn;cases hn
 |some zs=>
  have e2:tgN ys=zs:=by unfold tgN;rw[e];rfl
  rw[e2]at h;obtain⟨h1,h2⟩:=bT v hf ys ts zs e h;obtain⟨h3,h4,_⟩:=Yz (env:=X.env) ys zs e;exact lP v.calm h1 (by rw[h3,h2]) h4
theorem YR(ts:Ac Ae):∀ d U x,Gm ts d U≠.exn x:=λd U x h=>by
 unfold Gm at h;cases d with
 |tup xs=>
  dsimp only at h;cases e:Hk ts xs U with
  |some r=>rw[e]at h;cases h
  |none=>rw[e]at h;cases h
 |_=>cases h
theorem ZU{elt:Am}{gs:Ac Jp}{pos':A3}{x:Ak}:∃ b,EI (.ListComp elt gs scope pos) (Ab (.Name x pos')) l env=pure b/\(b=Aa->env.scope.names.lookup x=Ab .local):=by
 refine⟨_,rfl,λh=>?_⟩
 simp only[An,BC]at h;exact h.1.1.2
theorem O1{x:Ak}{v0:Am}{i:Ae}{e:E}(v:VX Y CL k W T X)(hf:∀ x,X.fn x=Aa)(hi:T.N[i]?=Ab x)(hl:Li T x=Aa)(o:OkE Y CL W X v0 e)(hfr:fr=Aa->DT Y e=Aa):SAs X CL W fr i (.Assign [.Name x p] v0 pos) (λU=>evE Y U e):=by
 have hN:X.N.Nodup:=by rw[v.N];exact v.nd
 have hi':X.N[i]?=Ab x:=by rw[v.N];exact hi
 have hx:Loc X.env.scope x:=by rw[v.sc];exact OJ hl
 have sc:SC X CL W fr v0 (λU=>evE Y U e):=by
  cases fr with
  |false=>exact o.se.sc
  |true=>exact o.nw (hfr rfl)
 cases hc:K0 v0 with
 |true=>exact SC.sas hN hi' hx sc (Ta hc) (.inl (hf x))
 |false=>
  obtain⟨tg,iter,elt,ifs,scope,pos2,N',ts,fi,fc,fe,as,g,rfl,B,h2,hGG,hg,ht,he,hs,ef⟩:=o.cp hc;obtain⟨b,hb,hb'⟩:=ZU (elt:=elt) (gs:=[⟨tg,iter,ifs,0⟩]) (scope:=scope) (pos:=pos2) (pos':=p) (x:=x) (l:=pos.line) (env:=X.env);cases b with
  |false=>exact SC.sas hN hi' hx sc hb (.inl (hf x))
  |true=>
   have q:=Z_5 (pos2:=pos) v.calm B h2 hGG hg ht he hs hN hi' (hb' rfl) hb;have q':SAs X CL W Aa i (.Assign [.Name x p] (.ListComp elt [⟨tg,iter,ifs,0⟩] scope pos2) pos) (λU=>evE Y U e):=by
    have:(λU=>evE Y U e)=_:=funext ef
    rw[this];exact q
   cases fr with
   |true=>exact q'
   | false=>exact λA=>PS.weak (q' A) λD Z H ⟨hA,U,gd,z⟩=>⟨hA,U,gd,by
     dsimp only at z ⊢;cases e0:evE Y U e with
     |ok d=>
      rw[e0]at z;exact λv' H' s' r'=>z v' H' s' ⟨r'.1,λ_=>r'.2 rfl⟩
     |exn y=>rw[e0]at z;exact z
     | bad=>rw[e0]at z;exact z⟩
theorem Ri(U:Rho)(e:E)(h:∀ i,e≠.var i):evS Y U (.ret e)=O.of U (evE Y U e) λd=>.ret d (DT Y e):=by
 have k:∀ b:Aj,b=Af->top U e (evE Y U e)=evE Y U e->(O.of U (top U e (evE Y U e)) λd=>.ret d (DT Y e||b))=O.of U (evE Y U e) λd=>.ret d (DT Y e):=λb hb ht=>by
  rw[hb,ht];simp only[F9]
 rw[eW];cases e with
 |var i=>exact absurd rfl (h i)
 |_=>exact k _ rfl rfl
structure DefX (X:Cx):Prop where
 fn:∀ x,X.fn x=Aa
 ex:X.ex=[]
 st:X.stack=X.env::X.outer
 fm:X.env.frame=Ab X.env.locals
structure SndS (Y:Gam) (CL:ClA) (k:Ae) (n:Ae):Prop where
 s:∀(W:XW)(T:Tc)(X:Cx)(x:Bm)(c:S),VX Y CL k W T X->DefX X->Nz n T x c=Aa->SS X CL W x (λU=>evS Y U c)
 ss:∀(W:XW)(T:Tc)(X:Cx)(x:Ac Bm)(c:Ss),VX Y CL k W T X->DefX X->chkSs n T x c=Aa->SSs X CL W x (λU=>evSs Y U c)
theorem VX.pw(v:VX Y CL k W T X){pins:Pn}{Xw:Vq}(own:Gv (model X.prog X.w) X.A X.env Xw):VX Y CL k W0 T (Cx.pw X pins Xw):=⟨v.sc,v.kd,v.N,v.nd,v.calm,v.room,v.bl,v.fn,own,TR,U_5,v.xt,v.gl⟩
theorem STB.congr{st:Ac Bm}{f g:Rho->O}(h:STB X CL st f)(e:∀ U,g U=f U):STB X CL st g:=by
 have:g=f:=funext e;rw[this];exact h
theorem nV(Z_:SndS Y CL k n)(W:XW)(T:Tc)(X:Cx)(st:Bm)(c:S)(v:VX Y CL k W T X)(hf:DefX X)(h:Nz (n+1) T st c=Aa):SS X CL W st (λU=>evS Y U c):=by
  have E:=snd (Y:=Y) (CL:=CL) (k:=k) n;cases c with
  |pass=>exact absurd (show Af=Aa from h) AE
  |brk=>exact absurd (show Af=Aa from h) AE
  |cont=>exact absurd (show Af=Aa from h) AE
  |asg i fresh e=>
    replace h:=bK h;obtain⟨x,px,v0,pos,rfl,h⟩:=h;simp only[An,BC]at h;obtain⟨⟨h1,h2⟩,h3⟩:=h;have o:=E.e W T X _ e v h3;cases fresh with
    |false=>exact Tk (O1 (fr:=Af) v hf.fn h1 h2 o (λz=>nomatch z))
    |true=>
      cases hn:DT Y e with
      |true=>
        refine SS.ref (eJ (O1 (fr:=Aa) v hf.fn h1 h2 o (λ_=>hn))) λU=>.inr ?_
        show O.of U (evE Y U e) (λd=>if Aa=Aa then (if DT Y e=Aa then (match d with
          |.lst xs=>.next (U.set i (Ab (.lst xs,Aa)))
          |.dic xs=>.next (U.set i (Ab (.dic xs,Aa)))
          | _=>.bad) else .bad) else .next (U.set i (Ab (d,Af))))=_
        rw[hn];rfl
      |false=>
        refine SS.ref (Tk (O1 (fr:=Af) v hf.fn h1 h2 o (λz=>nomatch z))) λU=>?_
        have e0:evS Y U (.asg i Aa e)=O.of U (evE Y U e) (λd=>if Aa=Aa then (if DT Y e=Aa then (match d with
          |.lst xs=>.next (U.set i (Ab (.lst xs,Aa)))
          |.dic xs=>.next (U.set i (Ab (.dic xs,Aa)))
          | _=>.bad) else .bad) else .next (U.set i (Ab (d,Af)))):=rfl
        rw[e0,hn];cases evE Y U e with
        |ok d=>exact .inl rfl
        |exn y=>exact .inr rfl
        |bad=>exact .inl rfl
  |asgT ts e=>exact absurd (show Af=Aa from h) AE
  |expr e=>
    replace h:=RC h;obtain⟨v0,pos,rfl,h⟩:=h;simp only[An]at h;exact eH (E.e W T X _ e v h.2).se (Ta h.1)
  |ret e=>
    replace h:=bB h;obtain⟨o,pos,rfl,h⟩:=h;cases o with
    |none=>exact noF h
    |some v0=>
    replace h:Bo n T v0 e=Aa:=h;have o:=E.e W T X _ e v h;cases hv:DT Y e with
    |true=>
      refine SS.ref (eF (o.nw hv)) λU=>.inr ?_
      rw[Ri U e (λi z=>by subst z;cases hv),hv]
    |false=>
      cases e with
      |var i=>
        cases n with
        |zero=>exact noF h
        |succ n=>
          replace h:=JH h;obtain⟨y,py,rfl,h⟩:=h;exact eD (K4 v h)
      |_=>
        refine SS.ref (eE o.se) λU=>.inr ?_
        rw[Ri U _ (by intro i z;cases z),hv]
  |retN=>exact absurd (show Af=Aa from h) AE
  |ife c a b=>
    replace h:=S7 h;obtain⟨t,xs,ys,pos,rfl,h⟩:=h;simp only[An]at h;exact Ul (E.b W T X _ c v h.1.1) (Z_.ss W T X _ a v hf h.1.2) (Z_.ss W T X _ b v hf h.2)
  |lnd c a b=>
    replace h:=S7 h;obtain⟨t,xs,ys,pos,rfl,h⟩:=h;simp only[An]at h;exact Ul (eT (E.b W T X _ c v h.1.1)) (Z_.ss W T X _ a v hf h.1.2) (Z_.ss W T X _ b v hf h.2)
  |fors t it body=>
    replace h:=RB h;obtain⟨tg,it',xs,ys,pos,rfl,h⟩:=h;replace h:=EV h;obtain⟨hn,h⟩:=h;obtain rfl:=Kg hn;replace h:=JH h;obtain⟨y,py,rfl,h⟩:=h;simp only[An]at h;obtain⟨⟨⟨h1,h2⟩,h3⟩,h4⟩:=h;exact Tj v.own v.calm (fN t) (bS v hf.fn h1) (E.i W T X Af _ _ it v rfl h3) (Z_.ss W T X _ body v hf h4) (OZ h2) (λ_ _ _ z=>nomatch z)
  |forT ts it body=>
    replace h:=RB h;obtain⟨tg,it',xs,zs,pos,rfl,h⟩:=h;replace h:=EV h;obtain⟨hn,h⟩:=h;obtain rfl:=Kg hn;replace h:=Rz h;obtain⟨ys,cc,py,rfl,h⟩:=h;simp only[An]at h;obtain⟨⟨⟨⟨h0,h1⟩,h2⟩,h3⟩,h4⟩:=h;exact Tj v.own v.calm (kM ts) (bR v hf.fn h0 h1) (E.i W T X Aa _ _ it v rfl h3) (Z_.ss W T X _ body v hf h4) (OZ h2) (YR ts)
  |whl c body=>exact absurd (show Af=Aa from h) AE
  |rais c as=>
    replace h:(!(T.rzs.any λp=>p.2==c))=Aa:=h
    cases hc:T.rzs.any (λp=>p.2==c) with
    |false=>
      have hb:∀ ds,Y.xn c ds=.bad:=v.xt.xb c λp hp z=>by
        have:T.rzs.any (λp=>p.2==c)=Aa:=DZ.mpr ⟨p,hp,BC.mpr z⟩
        rw[hc]at this;cases this
      intro Fz B pins s Z H D I ⟨U,x,p⟩;have p':CJ X.K CL Fz B W (O.of U (noX (evA Y U as)) λxs=>O.of U (Y.xn c xs) λx=>.exn x U) D:=p
      cases e1:evA Y U as with
      |bad=>rw[e1]at p';exact p'.elim
      |exn y=>rw[e1]at p';exact p'.elim
      |ok ds=>
        rw[e1]at p';have p2:CJ X.K CL Fz B W (O.of U (Y.xn c ds) λx=>.exn x U) D:=p'
        rw[hb ds]at p2;exact p2.elim
    |true=>rw[hc]at h;cases h
  |app i e=>
    replace h:=RA h;obtain⟨x,px,m,ap,l,cp,pos,rfl,h2,h⟩:=h;replace h:=Hj h;obtain⟨v0,rfl,h⟩:=h;simp only[An,BC]at h;obtain⟨⟨⟨rfl,h1⟩,h3⟩,h4⟩:=h;exact jZ (K4 v h1) (E.e W T X _ e v h4).se rfl (by rw[C1 h3];rfl) (by rw[h2];exact CA _) (C1 h3) rfl
  |ext i e=>
    replace h:=RA h;obtain⟨x,px,m,ap,l,cp,pos,rfl,h2,h⟩:=h;replace h:=Hj h;obtain⟨v0,rfl,h⟩:=h;simp only[An,BC]at h;rw[CM]at h;obtain⟨⟨⟨rfl,h1⟩,h3⟩,h5⟩:=h;rcases h5 with h5|h5
    · rw[An]at h5;obtain⟨h5,h4⟩:=h5;by_cases hn:DT Y e=Aa
      case neg=>
        have fe:(λU=>evS Y U (.ext i e))=λ_=>O.bad:=by
          funext U
          rw[OK,As hn]
        show SS X CL W _ (λU=>evS Y U (.ext i e))
        rw[fe];exact λFz B pins s Z H D I ⟨U,x,p⟩=>p.elim
      have fe:(λU=>evS Y U (.ext i e))=λU=>O.of U (Dj U i) λxs=>O.of U (evE Y U e) λd=>O.of U (JN d) λys=>if BQ (xs.length+ys.length)=Aa then .next (U.set i (Ab (.lst (xs++ys),Aa))) else .bad:=by
        funext U
        rw[OK,Ar hn]
      show SS X CL W _ (λU=>evS Y U (.ext i e))
      rw[fe];exact jY (K4 v h1) ((E.e W T X _ e v h4).nw hn) rfl (by rw[C1 h3];rfl) (by rw[h2];exact CA _) (C1 h3) rfl
    · cases q:M8 e with
      |none=>rw[q]at h5;cases h5
      |some a=>
        rw[q]at h5;have eq:=aW q;subst eq;have fe:(λU=>evS Y U (.ext i (.bi .list (.cons (.bin .Add a (.tup .nil)) .nil))))=λU=>O.of U (Dj U i) λxs=>O.of U (top U a (evE Y U a)) λx=>O.of U ((Dr .Add x (.tup [])).bind λy=>biD .list [y]) λd=>O.of U (JN d) λys=>if BQ (xs.length+ys.length)=Aa then .next (U.set i (Ab (.lst (xs++ys),Aa))) else .bad:=funext λU=>by
          rw[OK,Ar (show DT Y (.bi .list (.cons (.bin .Add a (.tup .nil)) .nil))=Aa from rfl)]
          have e2:evE Y U (.bi .list (.cons (.bin .Add a (.tup .nil)) .nil))=(top U a (evE Y U a)).bind λx=>(Dr .Add x (.tup [])).bind λy=>biD .list [y]:=by
            simp only[O5,evB,eZ,cK,cI,eX,evA,R.bind_ok,R.bind_assoc]
          rw[e2];cases Dj U i with
          |ok xs=>
            rw[O.of_ok,O.of_ok];cases top U a (evE Y U a)<;>rfl
          |exn z=>rfl
          |bad=>rfl
        show SS X CL W _ (λU=>evS Y U (.ext i (.bi .list (.cons (.bin .Add a (.tup .nil)) .nil))))
        rw[fe];exact eG (K4 v h1) (E.e W T X _ a v h5).st rfl (by rw[C1 h3];rfl) (by rw[h2];exact CA _) (C1 h3) rfl
  |rev i=>exact absurd (show Af=Aa from h) AE
  |clr i=>exact absurd (show Af=Aa from h) AE
  |put i k e=>exact absurd (show Af=Aa from h) AE
  |tryx body c x hh=>exact absurd (show Af=Aa from h) AE
  |try2 body c x hd c' hd' els=>exact absurd (show Af=Aa from h) AE
  |swp i k l=>exact absurd (show Af=Aa from h) AE
  |apop j i e=>exact absurd (show Af=Aa from h) AE
  |ins i k e=>exact absurd (show Af=Aa from h) AE
  |dput=>exact noF h
  |dsd=>exact noF h
  |rel=>exact noF h
theorem aU{c:Ss}(h:NA c=Aa)(U:Rho):evSs Y U c=.bad:=by
 cases c with
 |nil=>cases h
 |cons s ss=>
  cases s with
  |expr e=>
   cases e with
   |bi b as=>
    cases as with
    |nil=>
     cases b with
     |len=>rfl
     |_=>exact noF h
    |cons=>cases b<;>exact noF h
   |_=>exact noF h
  |_=>exact noF h
theorem jU(Z_:SndS Y CL k n)(W:XW)(T:Tc)(X:Cx)(xs:Ac Bm)(c:Ss)(v:VX Y CL k W T X)(hf:DefX X)(h:chkSs (n+1) T xs c=Aa):SSs X CL W xs (λU=>evSs Y U c):=by
 by_cases hb:NA c=Aa
 .exact λFz B pins s Z H D I ⟨U,x,p⟩=>by
   dsimp only at p;rw[aU hb]at p;exact p.elim
 have hb:NA c=Af:=by simpa using hb
 cases c with
 |nil=>
  simp only[chkSs,hb,F9,HH]at h;subst h;exact eB
 |cons s ss=>
  by_cases hr:∃ i,s=.rel i
  .obtain⟨i,rfl⟩:=hr;simp only[chkSs,hb,F9]at h;exact eA i (Z_.ss W T X xs ss v hf h)
  .cases xs with
   |nil=>cases s<;>first|(simp[chkSs,hb]at h;done)|exact absurd ⟨_,rfl⟩ hr
   |cons st r=>
    have h':Nz n T st s=Aa/\chkSs n T r ss=Aa:=by
     cases s<;>first|(simp only[chkSs,hb,F9,An]at h;exact h)|exact absurd ⟨_,rfl⟩ hr
    exact ZY (Z_.s W T X st s v hf h'.1) (Z_.ss W T X r ss v hf h'.2)
theorem PX:∀ n,SndS Y CL k n
 |0=>⟨λ_ _ _ _ _ _ _ h=>noF h,λ_ _ _ _ _ _ _ h=>noF h⟩
 |n+1=>⟨nV (PX n),jU (PX n)⟩
end
theorem LL{n:Ae}{ds:Ac D}{i:Ae}{d:D}{o:Aj}(h:(DL n ds)[i]?=Ab (Ab (d,o))):o=Af/\ds[i]?=Ab d:=by
 unfold DL at h;by_cases hi:i<ds.length
 .rw[CN (by simpa using hi),Bx]at h
  cases e:ds[i]? with
  |none=>rw[e]at h;cases h
  |some x=>rw[e]at h;cases h;exact⟨rfl,rfl⟩
 .rw[Bv (by simpa using Nat.le_of_not_lt hi),VI]at h
  split at h<;>cases h
theorem YZ{N:Ac Ak}{i:Ae}{v:V}(h:vs[i]?=Ab v):(L2.start N vs)[i]?=Ab (Ab v):=by
 unfold L2.start;have hi:=(AW.mp h).1;rw[CN (by simpa using hi),Bx,h]
 rfl
theorem ZT{N:Ac Ak}{n:Ae}{ds:Ac D}(hn:N.length=n)(hA:AOk H A)(r:Reps K CL H A vs ds):Sx K CL (λb o=>H b=Ab o) A (DL n ds) (L2.start N vs) H:=by
 have own:∀ a,CP A (DL n ds) (L2.start N vs) a->A a:=λa h=>by
  rcases h with h|⟨j,d,h,_⟩
  .exact h
  .exact absurd (LL h).1 (by decide)
 have hlen:(DL n ds).length=(L2.start N vs).length:=by
  unfold DL L2.start;simp only[Bp,AH,VP,r.length,hn]
 refine⟨⟨λi d h=>?_,λi d h=>absurd (LL h).1 (by decide),hlen⟩,λa h=>hA a (own a h),λj d a h _=>absurd (LL h).1 (by decide),λi j d e a h _ _ _=>absurd (LL h).1 (by decide),λb o h=>h,hlen⟩
 obtain⟨v,h1,h2⟩:=r.get (LL h).2;exact⟨v,YZ h1,Rep.sub own _ h2⟩
structure FunX (K:Fg) (x qual:Ak) (st:Bm) (f:Al) (fd:Cn):Prop where
 ex:∃(oc:Ai)(od:Ao Al)(dV kV doc pm:Ai)(an:Ao Al)(cdv ct:Ai)(osl:Au (Ao Ai)),
  fd=Ef x qual (Kb st) (HU st) (GK st) dV kV doc pm an cdv ct/\K.lookup f=Ab ⟨oc,od,.func fd,osl⟩/\FP K cdv qual=Aa
 kp:C9 K (.ref f)=Aa
theorem UE{x:Ak}{st:Bm}{f:Al}(F:Fun K x qual st f fd):FunX K x qual st f fd:=by
 obtain⟨oc,od,kV,doc,pm,an,cdv,ct,osl,e,lk,hcd⟩:=F.ex;exact⟨⟨oc,od,.none,kV,doc,pm,an,cdv,ct,osl,e,lk,hcd⟩,F.kp⟩
def ND(K:Fg)(mg:Ak->Ao Ai)(fns:Ac (Ak×Ae×Ae))(bl:Ac Ak)(rzs exs gls:Ac (Ak×Ae))(Pg:Prg)(fuel:Ae)(p:Ak×Ae×Ae):Prop:=∃ f fd ps qual st N,mg p.1=Ab (.ref f)/\FunX K p.1 qual st f fd/\Iz K fd ps []/\ps.length=p.2.2%1000/\Jo fuel (Fx 1000 p.2.2) fns bl rzs exs gls ps N st (Pg.defs p.2.1)=Aa
structure Tab (K:Fg) (mg:Ak->Ao Ai) (CL:ClA) (fns:Ac (Ak×Ae×Ae)) (bl:Ac Ak) (rzs exs gls:Ac (Ak×Ae)) (Pg:Prg) (fuel:Ae):Prop where
 xt:XT Pg.up Pg.xn CL rzs exs K mg
 bln:∀ x,x∈bl->mg x=Ad
 gl:∀ p∈gls,Qd K mg CL p.1 (Pg.G p.2)
 fn:∀ p∈fns,ND K mg fns bl rzs exs gls Pg fuel p
theorem nJ(Pg:Prg)(n i:Ae):(gam Pg n).fr i=(Pg.defs i).fr:=by cases n<;>rfl
theorem nI(Pg:Prg)(n:Ae):(gam Pg n).up=Pg.up:=by cases n<;>rfl
theorem qG(Pg:Prg)(n:Ae):(gam Pg n).G=Pg.G:=by cases n<;>rfl
theorem nH(Pg:Prg)(n:Ae):(gam Pg n).xn=Pg.xn:=by cases n<;>rfl
section
variable{P:AR}{w:AT}{K:Fg}{mg:Ak->Ao Ai}{base:AM}{CL:ClA}{fns:Ac (Ak×Ae×Ae)}{bl:Ac Ak}{rzs exs gls:Ac (Ak×Ae)}{Pg:Prg}{fuel:Ae}
def Lvl(P:AR)(w:AT)(K:Fg)(mg:Ak->Ao Ai)(base:AM)(CL:ClA)(Pg:Prg)(n:Ae)(p:Ak×Ae×Ae):Prop:=∃ f fd ps,mg p.1=Ab (.ref f)/\C9 K (.ref f)=Aa/\Iz K fd ps []/\ps.length=p.2.2%1000/\(p.2.2<1000->FnOk P w K mg base (CXR P w) n f fd ps (spD K CL (p.2.2%1000) ((gam Pg n).fr p.2.1) ((gam Pg n).F p.2.1)))/\(1000<=p.2.2->HotOk P w K mg base n f fd ps (spH K CL (p.2.2%1000) ((gam Pg n).fr p.2.1) ((gam Pg n).F p.2.1)))
theorem Tr(t:Tab K mg CL fns bl rzs exs gls Pg fuel){n:Ae}(hlv:∀ q∈fns,Lvl P w K mg base CL Pg n q){x:Ak}{st:Bm}{f:Al}{ps N:Ac Ak}{m id:Ae}(h2:FunX K x qual st f fd)(h4:ps.length=m)(h5:Jo fuel Af fns bl rzs exs gls ps N st (Pg.defs id)=Aa):FnOk P w K mg base (CXR P w) (n+1) f fd ps (spD K CL m ((gam Pg (n+1)).fr id) ((gam Pg (n+1)).F id)):=by
  unfold Jo at h5;simp only[An,BC,Cd,Br,CM,Kz,ne_eq]at h5;obtain⟨⟨⟨⟨⟨⟨⟨⟨c1,c2⟩,c3⟩,c4⟩,c5⟩,c6⟩,c7⟩,c8⟩,c9⟩:=h5;obtain⟨oc,od,dV,kV,doc,pm,an,cdv,ct,osl,rfl,lk,hcd⟩:=h2.ex;refine UJ (N:=N) lk hcd ⟨c1,c2,c3,MK c4,c5,c6,c7⟩ (λvs H Q E ⟨ds,A,z,_⟩=>z.trans h4.symm) λA outer s H vs Q E hr ⟨ds,B,hl,hA,hreps,hpost⟩=>?_
  have xt:XT (gam Pg n).up (gam Pg n).xn CL rzs exs K mg:=by rw[nI,nH];exact t.xt
  have gl:∀ p∈gls,Qd K mg CL p.1 ((gam Pg n).G p.2):=by rw[qG];exact t.gl
  have key:∀ W:XW,(∀ x cls dx H',W x H'->HV K CL H' cls dx x->E cls dx H')->CJ K CL (λb o=>H b=Ab o) B W (evSs (gam Pg n) (DL (Pg.defs id).n ds) (Pg.defs id).body) {nx:=λ_ H'=>Q .non H',rt:=Q} ->
      ∃ t,PSs (G2 (CXR P w) P w K mg base N qual (GK st) f cdv A outer s H E) (HU st) t/\t {nx:=λ_ H'=>Q .non H',rt:=Q} (start N vs) H:=λW hW hp=>by
    have v:VX (gam Pg n) CL n W ⟨GK st,N,fns,bl,rzs,exs,gls⟩ (G2 (CXR P w) P w K mg base N qual (GK st) f cdv A outer s H E):=⟨rfl,c1,rfl,MK c4,rfl,hr,t.bln,hlv,ownR,rH hW,rzR hW,xt,gl⟩;exact⟨_,(PX fuel).ss W _ _ _ (Pg.defs id).body v ⟨λ_=>rfl,rfl,rfl,rfl⟩ c9 (λb o=>H b=Ab o) B,_,ZT c8 hA hreps,hp⟩
  have no:∀ x cls dx H',W0 x H'->HV K CL H' cls dx x->E cls dx H':=λ_ _ _ _ z=>z.elim
  have e:(gam Pg (n+1)).F id ds=Hr Pg.xs ((evSs (gam Pg n) (DL (Pg.defs id).n ds) (Pg.defs id).body).ans (Pg.defs id).fr):=rfl;rw[e,nJ]at hpost;have cutO:∀ r:R D,(∀ x,r≠.exn x)->Hr Pg.xs r=r:=λr hr=>by
    cases Pg.xs<;>cases r<;>first|rfl|exact absurd rfl (hr _)
  cases eo:evSs (gam Pg n) (DL (Pg.defs id).n ds) (Pg.defs id).body with
  |next U'=>
    refine key W0 no ?_;rw[eo]at hpost ⊢;cases ef:(Pg.defs id).fr with
    |true=>rw[ef]at hpost;rw[cutO _ (by intro x z;cases z)]at hpost;exact hpost.elim
    |false=>
      rw[ef]at hpost;rw[cutO _ (by intro x z;cases z)]at hpost
      exact λZ' H' x'=>hpost .non H' (λb o z=>x'.same b o z) ⟨rfl,λz=>nomatch z⟩
  |ret d b=>
    refine key W0 no ?_;rw[eo]at hpost ⊢;intro v H' sm rp fr;have hp2:(match Hr Pg.xs (if ((Pg.defs id).fr&&(!b&&isL d))=Aa then R.bad else R.ok d) with
      |.ok d=>∀ v H',AO H H'->E6 K CL (Pg.defs id).fr H B H' v d->Q v H'
      |.exn x=>∀ cls dx H',AO H H'->HV K CL H' cls dx x->E cls dx H'
      | .bad=>Bj):=hpost
    cases ec:((Pg.defs id).fr&&(!b&&isL d)) with
    |true=>rw[ec,Ar rfl,cutO _ (by intro x z;cases z)]at hp2;exact hp2.elim
    |false=>
      rw[ec,As (by decide),cutO _ (by intro x z;cases z)]at hp2
      refine hp2 v H' sm ⟨rp,λefr es hd=>?_⟩
      subst hd;have eb:b=Aa:=by
        cases b with
        |true=>rfl
        |false=>rw[efr]at ec;cases ec
      obtain⟨a,xs,h1,h2,h3,h4⟩:=fr eb es rfl;refine⟨a,xs,h1,?_,h3,h4⟩;cases ha:H a with
      |none=>rfl
      |some o=>exact absurd ha (h2 o)
  |brk U'=>rw[eo]at hpost;have hp2:(match Hr Pg.xs (R.bad:R D) with | .ok _=>_ | .exn _=>_ | .bad=>Bj):=hpost;rw[cutO _ (by intro x z;cases z)]at hp2;exact hp2.elim
  |cont U'=>rw[eo]at hpost;have hp2:(match Hr Pg.xs (R.bad:R D) with | .ok _=>_ | .exn _=>_ | .bad=>Bj):=hpost;rw[cutO _ (by intro x z;cases z)]at hp2;exact hp2.elim
  |bad=>rw[eo]at hpost;have hp2:(match Hr Pg.xs (R.bad:R D) with | .ok _=>_ | .exn _=>_ | .bad=>Bj):=hpost;rw[cutO _ (by intro x z;cases z)]at hp2;exact hp2.elim
  |exn x U'=>
    rw[eo]at hpost;have hp2:(match Hr Pg.xs (R.exn x:R D) with
      |.ok d=>∀ v H',AO H H'->E6 K CL (Pg.defs id).fr H B H' v d->Q v H'
      |.exn x=>∀ cls dx H',AO H H'->HV K CL H' cls dx x->E cls dx H'
      | .bad=>Bj):=hpost
    cases ex:Pg.xs with
    |false=>rw[ex]at hp2;exact hp2.elim
    |true=>
      rw[ex]at hp2;have hp3:∀ cls dx H',AO H H'->HV K CL H' cls dx x->E cls dx H':=hp2;refine key (λy H'=>y=x/\AO H H') (λy cls dx H' ⟨e1,sm⟩ xr=>?_) ?_
      · subst e1;exact hp3 cls dx H' sm xr
      · rw[eo];exact λH' sm=>⟨rfl,sm⟩
theorem kL(t:Tab K mg CL fns bl rzs exs gls Pg fuel){n:Ae}(hlv:∀ q∈fns,Lvl P w K mg base CL Pg n q){x:Ak}{st:Bm}{f:Al}{ps N:Ac Ak}{m id:Ae}(h2:FunX K x qual st f fd)(h4:ps.length=m)(h5:Jo fuel Aa fns bl rzs exs gls ps N st (Pg.defs id)=Aa):HotOk P w K mg base (n+1) f fd ps (spH K CL m ((gam Pg (n+1)).fr id) ((gam Pg (n+1)).F id)):=by
 exfalso
 unfold Jo at h5;simp[UB]at h5
theorem O3(t:Tab K mg CL fns bl rzs exs gls Pg fuel):∀ n,∀ p∈fns,Lvl P w K mg base CL Pg n p
 |0,p,hp=>by
  obtain⟨f,fd,ps,qual,st,N,h1,h2,h3,h4,h5⟩:=t.fn p hp;exact⟨f,fd,ps,h1,h2.kp,h3,h4,λ_=>⟨λvs H Q E ⟨ds,A,_,_,_,z⟩=>z.elim,λA outer s H args us vs Q E _ _ _ _ ⟨ds,A,_,_,_,z⟩=>z.elim⟩,λ_=>⟨λvs H Q E ⟨ds,A,_,_,_,z⟩=>z.elim,λA ev outer s H args us vs Q E _ _ _ _ ⟨ds,A,_,_,_,z⟩=>z.elim⟩⟩
 |n+1,p,hp=>by
  obtain⟨f,fd,ps,qual,st,N,h1,h2,h3,h4,h5⟩:=t.fn p hp;refine⟨f,fd,ps,h1,h2.kp,h3,h4,λhlt=>?_,λhge=>?_⟩
  .have eb:Fx 1000 p.2.2=Af:=by
    cases e:Fx 1000 p.2.2 with
    |false=>rfl
    |true=>exact absurd (Fa e) (by omega)
   rw[eb]at h5;exact Tr t (λq hq=>O3 t n q hq) h2 h4 h5
  .rw[Nat.ble_eq_true_of_le hge]at h5;exact kL t (λq hq=>O3 t n q hq) h2 h4 h5
theorem mI{s s':Ap}{e:Ai}(h:CXR P w [] H s (λ_ _ _=>Bj) e s'):Bj:=by
 obtain⟨_,_,_,_,_,_,_,_,_,_,_,_,_,_,_,z⟩:=h;exact z
theorem qM{c:Ae}(h:∀ ds,xn c ds=.bad\/xn c ds=.ok ⟨c,[]⟩)(e:Lf K C Ad=Aa)(ds:Ac D):xn c ds=.bad\/(xn c ds=.ok ⟨c,[]⟩/\Lf K C Ad=Aa)\/Bj:=(h ds).imp id λz=>.inl ⟨z,e⟩
theorem qJ(dc:Mh K C=Aa)(h1:Cw K (.ref C) "triple" = Ab Ad)(h2:Cw K (.ref C) "points" = Ab Ad)(f:Ak)(h:(f==("triple" : Ak)||f==("points" : Ak))=Aa):Mh K C=Aa/\Cw K (.ref C) f=Ab Ad:=by
 rw[CM]at h;rcases h with h|h
 .rw[eq_of_beq h];exact⟨dc,h1⟩
 .rw[eq_of_beq h];exact⟨dc,h2⟩
theorem cA{up:Ae->Ac Ae}(h:∀ c ds,xn c ds=.bad):XT up xn (λ_=>Ad) [] [] K mg:=⟨λ_ _ z=>(nomatch z),λ_ z=>(nomatch z),λ_ z=>(nomatch z),λc _ ds z=>.inl (h c ds),λ_ _ z=>(nomatch z),λc _ ds=>h c ds⟩
structure XA (K:Fg) (c:Ak) (x:Al) (i:Ao Ai):Prop where
 n:BO K A8 c=Ab (Ab (.ref x))
 y:Lf K x i=Aa
 dc:Mh K x=Aa
 ft:Cw K (.ref x) "triple" = Ab Ad
 fp:Cw K (.ref x) "points" = Ab Ad
 ok:XcOk K x
structure XR (K:Fg) (mg:Ak->Ao Ai) (xn:Ae->Ac D->R Ex) (p:Ae×Al):Prop where
 ok:XcOk K p.2
 nf:∀ f:Ak,(f==("triple" : Ak)||f==("points" : Ak))=Aa->Mh K p.2=Aa/\Cw K (.ref p.2) f=Ab Ad
 md:∀ ds,xn p.1 ds=.bad\/(xn p.1 ds=.ok ⟨p.1,[]⟩/\Lf K p.2 Ad=Aa)\/Bj
theorem XA.row{c:Ak}{x:Al}(a:XA K c x Ad)(h:∀ ds,xn k ds=.bad\/xn k ds=.ok ⟨k,[]⟩):XR K mg xn (k,x):=⟨a.ok,qJ a.dc a.ft a.fp,qM h a.y⟩
def Nb(K:Fg):Sp:=λvs H Q _=>∃(a:Al)(ns:Ac Ag),vs=[.ref a]/\ns.length<=63/\SqL K H a (ns.map V.int)/\∀ v H',v=V.bl Aa->Q v H'
theorem law_fn{CX:CXT}{f:Al}{ps:Ac Ak}{F:Ac D->R D}(G:FnOk P w K mg base CX k f fd ps (spD K CL 1 Af F))(h:∀ ns:Ac Ag,F [.lst (ns.map .int)]=.ok (.bl Aa)):FnOk P w K mg base CX k f fd ps (Nb K):=G.imp λvs H Q E ⟨a,ns,e,hl,hS,q⟩=>by
 subst e;have rs:∀ l:Ac Ag,Reps K CL H A0 (l.map V.int) (l.map D.int):=λl=>by
  induction l with
  |nil=>trivial
  |cons x l ih=>exact⟨rfl,ih⟩
 refine⟨[.lst (ns.map .int)],A0,rfl,λ_ z=>z.elim,⟨⟨a,_,rfl,.inl (λz=>z),hS,rs ns⟩,trivial⟩,?_⟩
 rw[h ns];exact λv H' _ r=>q v H' r.1
theorem ON{Q:α->Prop}:∀ x∈([]:Ac α),Q x:=λ_ h=>nomatch h
theorem all_cons{Q:α->Prop}{a:α}{l:Ac α}(h1:Q a)(h2:∀ x∈l,Q x):∀ x∈a::l,Q x:=List.forall_mem_cons.2 ⟨h1,h2⟩
def FnI(K:Fg)(f:Al)(n:Ak)(st:Bm):Prop:=∃ fd,Fun K n n st f fd/\BO K A8 n=Ab (Ab (.ref f))
theorem fni{n:Ak}{st:Bm}{f:Al}{oc:Ai}{od an:Ao Al}{osl:Au (Ao Ai)}{kV doc pm cdv ct:Ai}(a:BO K A8 n=Ab (Ab (.ref f)))(l:K.lookup f=Ab ⟨oc,od,.func (Ef n n (Kb st) (HU st) (GK st) .none kV doc pm an cdv ct),osl⟩)(c:FP K cdv n=Aa)(k:C9 K (.ref f)=Aa):FnI K f n st:=⟨_,nK l c k,a⟩
def Bd(n:Ak)(st:Bm)(ps:Ac Ak)(us:Ac Ai):Prop:=∀(kV doc pm:Ai)(an:Ao Al)(cdv ct:Ai),Lv (Ef n n (Kb st) (HU st) (GK st) .none kV doc pm an cdv ct) ⟨us,[]⟩=pure (ps.zip us)
theorem TM{n:Ak}{f:Al}{st:Bm}{ps N:Ac Ak}(m id:Ae)(X:K.In h)(G:h.Ns A8 mg)(A:FnI K f n st)(hl:ps.length=m%1000)(hc:Jo fuel (Fx 1000 m) fns bl rzs exs gls ps N st (Pg.defs id)=Aa)(hb:∀ us:Ac Ai,us.length=ps.length->Bd n st ps us):ND K mg fns bl rzs exs gls Pg fuel (n,id,m):=by
 obtain⟨fd,F,a⟩:=A;exact⟨_,_,_,_,_,_,Jt X G a,UE F,F.binds λkV doc pm an cdv ct us hu=>hb us hu kV doc pm an cdv ct,hl,hc⟩
theorem UZ{l:Ac α}(h:l.length=0):l=[]:=VD h
theorem P8{l:Ac α}{n:Ae}(h:l.length=n+1):∃ a r,l=a::r/\r.length=n:=by
 cases l with
 |nil=>cases h
 |cons a r=>exact⟨a,r,rfl,Nat.succ.inj h⟩
theorem UQ{n:Ak}{f:Al}{st:Bm}{N:Ac Ak}(m id:Ae)(X:K.In h)(G:h.Ns A8 mg)(A:FnI K f n st)(hl:1=m%1000)(hc:Jo fuel (Fx 1000 m) fns bl rzs exs gls [x0] N st (Pg.defs id)=Aa)(hb:∀ u0,Bd n st [x0] [u0]):ND K mg fns bl rzs exs gls Pg fuel (n,id,m):=
 TM (ps:=[x0]) m id X G A hl hc λus hu=>by obtain⟨u0,v0,rfl,h0⟩:=P8 hu;obtain rfl:=UZ h0;exact hb u0
theorem Gr{n:Ak}{f:Al}{st:Bm}{N:Ac Ak}{x1:Ak}(m id:Ae)(X:K.In h)(G:h.Ns A8 mg)(A:FnI K f n st)(hl:2=m%1000)(hc:Jo fuel (Fx 1000 m) fns bl rzs exs gls [x0,x1] N st (Pg.defs id)=Aa)(hb:∀ u0 u1,Bd n st [x0,x1] [u0,u1]):ND K mg fns bl rzs exs gls Pg fuel (n,id,m):=
 TM (ps:=[x0,x1]) m id X G A hl hc λus hu=>by obtain⟨u0,v0,rfl,h0⟩:=P8 hu;obtain⟨u1,v1,rfl,h1⟩:=P8 h0;obtain rfl:=UZ h1;exact hb u0 u1
end
end Ov
namespace OvC
open PySem Ov
variable{p l y N:Ag}{xs:Ac Ag}{Y:Gam}{G L Z_ Y_:Ac D}{s2 s4 s5 s3:Sl}{x t:Ak}{X Q:D}
noncomputable abbrev tr(a b c:Ag):D:=.tup [.int a,.int b,.int c]
noncomputable def det(a0 a1 a2 b0 b1 b2 c0 c1 c2:Ag):Ag:=a0*(b1*c2-b2*c1)-a1*(b0*c2-b2*c0)+a2*(b0*c1-b1*c0)
def Sm(x:Ag):Prop:=0<=x/\x<11
theorem mo{x:Ag}(h:Sm x)(y:Ag):FC x y=Aa:=L0 (by have:=h.1;omega) (by have:=h.2;omega)
theorem rng3:EU 0 3=[.int 0,.int 1,.int 2]:=rfl
theorem Sm.of(h:P4 p)(x:Ag):Sm (x%p):=⟨DB _ (by have:=h.pos;omega),by have:=Du x h.pos;have:=h.hi;omega⟩
theorem QP{body:D->Rho->O}(I:Rho->Prop)(g:Ag->Aj):∀(L:Ac Ag),(∀ t∈L,∀ U,I U->(g t=Aa/\body (.int t) U=.ret (.int t) Af)\/(g t=Af/\∃ U',body (.int t) U=.next U'/\I U'))->∀ U,I U->(∃ t∈L,g t=Aa/\Dk body (L.map D.int) U=.ret (.int t) Af)\/((∀ t∈L,g t=Af)/\∃ U',Dk body (L.map D.int) U=.next U'/\I U')
 |[],_,U,i=>.inr ⟨(λ_ h=>nomatch h),U,rfl,i⟩
 |m::L,h,U,i=>by
  rcases h m (AL ..) U i with ⟨e1,e2⟩|⟨e1,U',e2,i'⟩
  .refine .inl ⟨m,AL ..,e1,?_⟩;show (body (.int m) U).turn _=_;rw[e2];rfl
  .rcases QP I g L (λm' h'=>h m' (AF _ h')) U' i' with ⟨t,ht,a,b⟩|⟨a,r,b,c⟩
   .refine .inl ⟨t,AF _ ht,a,?_⟩;show (body (.int m) U).turn _=_;rw[e2];exact b
   .refine .inr ⟨λt ht=>?_,r,?_,c⟩
    .rcases AK.mp ht with rfl|ht
     .exact e1
     .exact a t ht
    .show (body (.int m) U).turn _=_;rw[e2];exact b
noncomputable def KD:Ss:=(.cons (.ife (.cmp .Eq (.call 1 (.cons (.var 0) (.cons (.bin .Mult (.var 1) (.var 2)) .nil))) (.int 1)) (.cons (.ret (.var 2)) .nil) .nil) .nil)
noncomputable def Ms:Df:=⟨3,Af,(.cons (.fors 2 (.rng2 (.int 1) (.var 0)) KD) (.cons (.rais 2 (.cons (.str (AX "a number with the rest 0 is not turned over")) .nil)) .nil))⟩
noncomputable def GO(p:Ag):Ac Ag:=(AB (p-1).toNat).map fun(k:Ae)=>1+(k:Ag)
theorem KH{t:Ag}:t∈GO p↔1<=t/\t<p:=by
 unfold GO;rw[List.mem_map];constructor
 .rintro⟨k,hk,rfl⟩;have:=BA.mp hk;omega
 .rintro⟨h1,h2⟩;exact⟨(t-1).toNat,BA.mpr (by omega),by omega⟩
theorem Sa(h:P4 p):DM 1 p=.ok ((GO p).map D.int):=by
 rcases h with rfl|rfl|rfl|rfl<;>rfl
theorem fL:∀ p:Fin 12,(p.val=3\/p.val=5\/p.val=7\/p.val=11)->∀ r:Fin 12,r.val<p.val->r.val≠0->∃ t:Fin 12,1<=t.val/\t.val<p.val/\r.val*t.val%p.val=1:=by decide+kernel
theorem T5{p n:Ag}(h:P4 p)(hn:n%p≠0):∃ t,1<=t/\t<p/\n*t%p=1:=by
 have p0:0<p/\p<12:=by rcases h with rfl|rfl|rfl|rfl<;>decide
 obtain⟨q,rfl⟩:∃ q:Ae,p=q:=⟨p.toNat,by omega⟩
 have h0:=DB n (b:=(q:Ag)) (by omega)
 have h1:=Du n p0.1;obtain⟨r,hr⟩:∃ r:Ae,n%(q:Ag)=r:=⟨(n%(q:Ag)).toNat,by omega⟩
 obtain⟨t,t1,t2,t3⟩:=fL ⟨q,by omega⟩ (by rcases h with e|e|e|e<;>simp<;>omega) ⟨r,by omega⟩ (by show r<q;omega) (by show r≠0;omega)
 refine⟨(t.val:Ag),by omega,by show (t.val:Ag)<q;exact Int.ofNat_lt.mpr t2,?_⟩
 have e:((r*t.val%q:Ae):Ag)=1:=by rw[show r*t.val%q=1 from t3];rfl
 rw[<-e,Int.natCast_emod,Int.natCast_mul,<-hr];exact(Ea n _ _).trans (by rw[Ea (n%(q:Ag)) (t.val:Ag) (q:Ag),C7 n (E8 _)])
def ID(p n t:Ag):Prop:=1<=t/\t<p/\n*t%p=1
theorem Rb{p n t u:Ag}(h1:ID p n t)(h2:ID p n u):t=u:=by
 have hp:1<p:=by have:=h1.1;have:=h1.2.1;omega
 have e:t%p=u%p:=by
  have a:t%p=t*(n*u)%p:=by rw[Ea,h2.2.2,Vs,C7 _ (E8 p)]
  have b:u%p=(n*t)*u%p:=by rw[Ea (n*t) u p,h1.2.2,JT,C7 _ (E8 p)]
  rw[a,b]
  congr 1
  rw[<-Vr,Gw t n]
 rw[FV (by have:=h1.1;omega) h1.2.1,FV (by have:=h2.1;omega) h2.2.1]at e
 exact e
theorem TU{c x:Ag}(hp:P4 p)(hc:c%p≠0)(hx:x%p≠0):c*x%p≠0:=λz=>by
 obtain⟨t,_,_,e⟩:=T5 hp hc;refine hx ?_;have e1:x%p=(c*t)*x%p:=by rw[Ea (c*t) x p,e,JT,C7 _ (E8 p)]
 rw[e1,show c*t*x=t*(c*x) by rw[Gw c t,Vr],Ea,z,Vt,Vx]
noncomputable def DU(p:Ag):Ac Ag->Ao Ag
 |[]=>Ad
 |x::xs=>if x%p=0 then DU p xs else Ab (x%p)
theorem Q9{p:Ag}:∀{xs:Ac Ag},DU p xs=Ad↔∀ x∈xs,x%p=0
 |[]=>by simp[DU]
 |x::xs=>by
  unfold DU;by_cases h:x%p=0
  .rw[Ar h,Q9 (xs:=xs)];simp[h]
  .rw[As h];simp[h]
theorem LG{p l:Ag}(hp:0<p):∀{xs:Ac Ag},DU p xs=Ab l->l%p≠0/\0<l/\l<p
 |[],h=>by cases h
 |x::xs,h=>by
  unfold DU at h;by_cases hx:x%p=0
  .rw[Ar hx]at h;exact LG hp h
  .rw[As hx]at h;cases h;have h0:=DB x (b:=p) (by omega)
   have h1:=Du x hp;exact⟨by rw[C7 _ (E8 p)];exact hx,by omega,h1⟩
theorem RM{p c:Ag}(hp:P4 p)(hc:c%p≠0){f:Ag->Ag}(hf:∀ x,f x%p=c*x%p):∀ xs:Ac Ag,DU p (xs.map f)=(DU p xs).map λl=>c*l%p
 |[]=>rfl
 |x::xs=>by
  rw[CC];unfold DU;rw[hf x];by_cases hx:x%p=0
  .rw[Ar hx,Ar (by rw[Ea,hx,Vt,Vx]),RM hp hc hf xs]
  .rw[As hx,As (TU hp hc hx),Il]
   congr 1
   rw[Ea c (x%p),C7 _ (E8 p),<-Ea]
noncomputable def ds(xs:Ac Ag):Ac D:=xs.map D.int
noncomputable def Fs(b:Aj)(xs:Ac Ag):D:=if b=Aa then .tup (ds xs) else .lst (ds xs)
theorem YS(b xs):EC (Fs b xs)=.ok (ds xs):=by unfold Fs;cases b<;>rfl
theorem LJ{g:D->R Aj}{f:D->R D}{φ:Ag->Ag}:∀(xs:Ac Ag),(∀ x∈xs,g (.int x)=.ok Aa/\f (.int x)=.ok (.int (φ x)))->BK g f (ds xs)=.ok (ds (xs.map φ))
 |[],_=>rfl
 |x::xs,h=>by
  obtain⟨h1,h2⟩:=h x (AL ..);show (g (.int x)).bind _=_;rw[h1,R.bind_ok,Ar rfl,h2,R.bind_ok];show (BK g f (ds xs)).bind _=_;rw[LJ xs λy hy=>h y (AF _ hy)]
  rfl
noncomputable def Cy:E:=(.bl Aa)
noncomputable def NK:E:=(.call 1 (.cons (.var 0) (.cons (.var 5) .nil)))
noncomputable def NJ:E:=(.call 1 (.cons (.var 0) (.cons (.bin .Mult (.var 4) (.var 6)) .nil)))
noncomputable def HN:Ss:=(.cons (.ife (.cmp .NotEq (.var 3) (.int 0)) (.cons (.asg 4 Af (.call 9 (.cons (.var 0) (.cons (.var 3) .nil)))) (.cons (.ret (.bi .tuple (.cons (.comp NJ 6 (.e (.var 2)) Cy) .nil))) .nil)) .nil) .nil)
noncomputable def MB:Df:=⟨7,Af,(.cons (.asg 2 Af (.comp NK 5 (.e (.var 1)) Cy)) (.cons (.fors 3 (.e (.var 2)) HN) (.cons (.rais 3 (.cons (.str (AX "all the numbers have the rest 0")) .nil)) .nil)))⟩
noncomputable def fmI(p t:Ag)(xs:Ac Ag):Ac Ag:=xs.map λx=>t*(x%p)%p
section
variable{Y:Gam}{p:Ag}{xs:Ac Ag}{b:Aj}
end
noncomputable def NH:E:=(.bin .Mod (.var 5) (.var 1))
noncomputable def NM:E:=(.cmp .Gt (.var 6) (.int 0))
noncomputable def NG:E:=(.var 6)
noncomputable def NL:E:=(.cmp .Eq (.bin .Mod (.bin .Mult (.var 7) (.idx (.var 3) (.int 0))) (.var 1)) (.int 1))
noncomputable def NF:E:=(.var 7)
noncomputable def NN:E:=(.bin .Mod (.bin .Mult (.var 8) (.var 4)) (.var 1))
noncomputable def LM:Df:=⟨9,Af,(.cons (.asg 2 Af (.comp NH 5 (.e (.var 0)) Cy)) (.cons (.asg 3 Af (.comp NG 6 (.e (.var 2)) NM)) (.cons (.ife (.cmp .Eq (.bi .len (.cons (.var 3) .nil)) (.int 0)) (.cons (.ret .non) .nil) .nil) (.cons (.asg 4 Af (.idx (.comp NF 7 (.rng2 (.int 1) (.var 1)) NL) (.int 0))) (.cons (.ret (.bi .tuple (.cons (.comp NN 8 (.e (.var 2)) Cy) .nil))) .nil)))))⟩
theorem N2{g:D->R Aj}{f:D->R D}{q:Ag->Aj}:∀(xs:Ac Ag),(∀ x∈xs,g (.int x)=.ok (q x)/\f (.int x)=.ok (.int x))->BK g f (ds xs)=.ok (ds (xs.filter q))
 |[],_=>rfl
 |x::xs,h=>by
  obtain⟨h1,h2⟩:=h x (AL ..);have ih:=N2 xs λy hy=>h y (AF _ hy)
  show (g (.int x)).bind _=_;rw[h1,R.bind_ok];cases hq:q x with
  |true=>
   rw[Ar rfl,h2,R.bind_ok,CT,hq,Ar rfl];show (BK g f (ds xs)).bind _=_;rw[ih];rfl
  |false=>
   rw[As (by decide),CT,hq,As (by decide)]
   exact ih
theorem Qz{p:Ag}(hp:0<p):∀(xs:Ac Ag),((xs.map λx=>x%p).filter λr=>decide (0<r)).head?=DU p xs
 |[]=>rfl
 |x::xs=>by
  have h0:=DB x (b:=p) (by omega)
  unfold DU;rw[CC,CT];by_cases h:x%p=0
  .rw[Ar h,As (by simp[h]),Qz hp xs]
  .rw[As h,Ar (by simp;omega)]
   rfl
theorem Zi{t:Ag}(it:ID p l t):((GO p).filter λk=>decide (k*l%p=1)).head?=Ab t:=by
 have hm:t∈(GO p).filter λk=>decide (k*l%p=1):=DD.mpr ⟨KH.mpr ⟨it.1,it.2.1⟩,by simp[Gw t l,it.2.2]⟩
 cases e:(GO p).filter λk=>decide (k*l%p=1) with
 |nil=>rw[e]at hm;cases hm
 |cons u us=>
  have hu:u∈(GO p).filter λk=>decide (k*l%p=1):=by rw[e];exact AL ..
  obtain⟨h1,h2⟩:=DD.mp hu;obtain⟨a,b⟩:=KH.mp h1;have h3:u*l%p=1:=by simpa using h2
  rw[Rb it ⟨a,b,by rw[Gw];exact h3⟩]
  rfl
theorem Rg(h:xs.head?=Ab l):Fq (ds xs) 0=.ok (.int l):=by
 cases xs with
 |nil=>cases h
 |cons x xs=>cases h;exact Os (by omega) rfl
noncomputable abbrev own(xs:Ac Ag):Sl:=Ab (.lst (ds xs),Aa)
section
variable{Y:Gam}{ns:Ac Ag}{a1 a2 a4 a6 a7 a8 a9 b0 b1 b2 b3 b4:Sl}{p:Ag}
end
section
variable{Y:Gam}{ns:Ac Ag}{a1 a4 a6 a7 a8 a9 b2 b3 b4:Sl}{p m:Ag}{xs:Ac Ag}
end
def Cg(p x y:Ag):Prop:=x%p=y%p
section
variable{p a b c d:Ag}
theorem Cg.of(h:a=b):Cg p a b:=by unfold Cg;rw[h]
end
theorem P4.m1(h:P4 p):(-1:Ag)%p≠0:=by rcases h with rfl|rfl|rfl|rfl<;>decide
theorem P4.o1(h:P4 p):(1:Ag)%p≠0:=by rcases h with rfl|rfl|rfl|rfl<;>decide
abbrev R3:=Ag×Ag×Ag
variable{a b q:R3}{P:Ac R3}
noncomputable def P5(a:R3):D:=.lst [.int a.1,.int a.2.1,.int a.2.2]
noncomputable def Mq(a b c:R3):Ag:=det a.1 a.2.1 a.2.2 b.1 b.2.1 b.2.2 c.1 c.2.1 c.2.2
def In3(p:Ag)(a:R3):Prop:=(0<=a.1/\a.1<p)/\(0<=a.2.1/\a.2.1<p)/\(0<=a.2.2/\a.2.2<p)
structure GoodR (p:Ag) (a b c:R3):Prop where
 p4:P4 p
 ia:In3 p a
 ib:In3 p b
 ic:In3 p c
 nz:Mq a b c%p≠0
theorem GoodR.of{k:Ag}{c a' b' c':R3}(h:GoodR p a b c)(hk:k%p≠0)(e:Cg p (Mq a' b' c') (k*Mq a b c))(hin:In3 p a'/\In3 p b'/\In3 p c'):GoodR p a' b' c':=⟨h.p4,hin.1,hin.2.1,hin.2.2,by rw[show Mq a' b' c'%p=_ from e];exact TU h.p4 hk h.nz⟩
noncomputable abbrev ownR(a b c:R3):Sl:=Ab (.lst [P5 a,P5 b,P5 c],Aa)
section
variable{Y:Gam}{ns:Ac Ag}{at_ many s5 s0 s1 s2:Sl}{p t m:Ag}{a b c:R3}
end
section
variable{Y:Gam}{ns:Ac Ag}{many s5 s6 s7 s8 s9 s0 s1 s2:Sl}{p:Ag}{a b c:R3}
end
def Bd(n:Ae)(x:Ag):Prop:=x.natAbs<2 ^ n
def B3(a:R3):Prop:=Bd 300 a.1/\Bd 300 a.2.1/\Bd 300 a.2.2
noncomputable def B9(q:Aj)(a:R3):D:=Fs q [a.1,a.2.1,a.2.2]
section
variable{Y:Gam}{ns:Ac Ag}{p t:Ag}{a b c r:R3}{made s6 s7:Sl}
end
section
variable{Y:Gam}{ns:Ac Ag}{p m:Ag}{a b c:R3}{fa fb fc:R3}{q:Aj}{s9 s0 s1 s2:Sl}
end
def Oh(Y:Gam):Prop:=∀ p n:Ag,P4 p->n%p≠0->∃ t,1<=t/\t<p/\n*t%p=1/\Y.F 9 [.int p,.int n]=.ok (.int t)
def OX(Y:Gam):Prop:=∀(p:Ag)(b:Aj)(xs:Ac Ag)(l t:Ag),P4 p->DU p xs=Ab l->ID p l t->Y.F 17 [.int p,Fs b xs]=.ok (.tup (ds (fmI p t xs)))
theorem Zx(hr:MW Y)(p n:Ag)(hp:P4 p)(z:n%p≠0):∃ t,1<=t/\t<p/\n*t%p=1/\Ms.run Y [.int p,.int n]=.ok (.int t):=by
 have p0:=hp.pos;have ph:=hp.hi;have body:∀ t∈GO p,∀ U,(∃ s,U=[si p,si n,s])->(decide (n*t%p=1)=Aa/\DV Y 2 KD (.int t) U=.ret (.int t) Af)\/(decide (n*t%p=1)=Af/\∃ U',DV Y 2 KD (.int t) U=.next U'/\∃ s,U'=[si p,si n,s]):=by
  rintro t ht U ⟨s,rfl⟩;obtain⟨t1,t2⟩:=KH.mp ht;have m:FC n t=Aa:=SJ (by omega) (by omega)
  by_cases e:n*t%p=1
  .exact .inl ⟨by simp[e],by simp[DV,KD,hr p (n*t) p0,m,e,DT]⟩
  .exact .inr ⟨by simp[e],_,by simp[DV,KD,hr p (n*t) p0,m,e];rfl,_,rfl⟩
 have run:∀ o,Dk (DV Y 2 KD) ((GO p).map D.int) [si p,si n,Ad]=o->Ms.run Y [.int p,.int n]=(Go Y (.cons (.rais 2 (.cons (.str (AX "a number with the rest 0 is not turned over")) .nil)) .nil) o).ans Af:=by
  rintro o rfl;simp[Ms,Df.run,DL,Sa hp]
 rcases QP (λU=>∃ s,U=[si p,si n,s]) (λt=>decide (n*t%p=1)) (GO p) body [si p,si n,Ad] ⟨_,rfl⟩ with ⟨t,ht,a,b⟩|⟨a,r,b,s,rfl⟩
 .obtain⟨t1,t2⟩:=KH.mp ht;have a':n*t%p=1:=by simpa using a
  exact⟨t,t1,t2,a',by rw[run _ b];rfl⟩
 .obtain⟨t,t1,t2,e⟩:=T5 hp z;have:=a t (KH.mpr ⟨t1,t2⟩);simp[e]at this
section
variable{Y:Gam}{p:Ag}{xs:Ac Ag}{b:Aj}
theorem RG(hr:MW Y)(ht:Oh Y)(hp:P4 p)(rs:Ac Ag):∀(ys:Ac Ag),(∀ y∈ys,0<=y/\y<p)->∀ s3,(DU p ys=Ad->∃ s3',Dk (DV Y 3 HN) (ds ys) [si p,sh (Fs b xs),sh (.lst (ds rs)),s3,Ad,Ad,Ad]=.next [si p,sh (Fs b xs),sh (.lst (ds rs)),s3',Ad,Ad,Ad])/\(∀ l t,DU p ys=Ab l->ID p l t->Dk (DV Y 3 HN) (ds ys) [si p,sh (Fs b xs),sh (.lst (ds rs)),s3,Ad,Ad,Ad]=.ret (.tup (ds (rs.map λr=>t*r%p))) Af)
 |[],_,s3=>⟨λ_=>⟨s3,rfl⟩,(λl t h=>nomatch h)⟩
 |y::ys,hy,s3=>by
  obtain⟨y0,y1⟩:=hy y (AL ..);have ym:y%p=y:=FV y0 y1;have ih:=RG hr ht hp rs ys (λz hz=>hy z (AF _ hz)) (si y)
  have step:∀ o,DV Y 3 HN (.int y) [si p,sh (Fs b xs),sh (.lst (ds rs)),s3,Ad,Ad,Ad]=o->Dk (DV Y 3 HN) (ds (y::ys)) [si p,sh (Fs b xs),sh (.lst (ds rs)),s3,Ad,Ad,Ad]=o.turn (Dk (DV Y 3 HN) (ds ys)):=by
   rintro o rfl;rfl
  unfold DU;rw[ym];by_cases hz:y=0
  .have e:DV Y 3 HN (.int y) [si p,sh (Fs b xs),sh (.lst (ds rs)),s3,Ad,Ad,Ad]=.next [si p,sh (Fs b xs),sh (.lst (ds rs)),si y,Ad,Ad,Ad]:=by
    simp[DV,HN,hz]
   rw[Ar hz,step _ e];exact ih
  .rw[As hz];refine⟨(λz=>nomatch z),λl t e it=>?_⟩
   cases e;obtain⟨u,u1,u2,u3,u4⟩:=ht p y hp (by rw[ym];exact hz)
   have:t=u:=Rb it ⟨u1,u2,u3⟩;subst this;have p0:=hp.pos;have ph:=hp.hi;have cp:BK (cG Y [si p,sh (Fs b xs),sh (.lst (ds rs)),si y,si t,Ad,Ad] 6 Cy) (cF Y [si p,sh (Fs b xs),sh (.lst (ds rs)),si y,si t,Ad,Ad] 6 NJ) (ds rs)=.ok (ds (rs.map λr=>t*r%p)):=by
    refine LJ rs λr _=>⟨rfl,?_⟩
    have m:FC t r=Aa:=L0 (by omega) (by omega)
    simp[cF,NJ,m,hr p (t*r) p0]
   have e:DV Y 3 HN (.int y) [si p,sh (Fs b xs),sh (.lst (ds rs)),s3,Ad,Ad,Ad]=.ret (.tup (ds (rs.map λr=>t*r%p))) Af:=by
    simp[DV,HN,hz,u4,cp,DT]
   rw[step _ e];rfl
theorem dG(hr:MW Y)(ht:Oh Y)(hp:P4 p){t:Ag}(e:DU p xs=Ab l)(it:ID p l t):MB.run Y [.int p,Fs b xs]=.ok (.tup (ds (fmI p t xs))):=by
 have p0:=hp.pos;have cp:BK (cG Y [si p,sh (Fs b xs),Ad,Ad,Ad,Ad,Ad] 5 Cy) (cF Y [si p,sh (Fs b xs),Ad,Ad,Ad,Ad,Ad] 5 NK) (ds xs)=.ok (ds (xs.map λx=>x%p)):=by
  refine LJ xs λx _=>⟨rfl,?_⟩
  simp[cF,NK,hr p x p0]
 have run:∀ o,Dk (DV Y 3 HN) (ds (xs.map λx=>x%p)) [si p,sh (Fs b xs),sh (.lst (ds (xs.map λx=>x%p))),Ad,Ad,Ad,Ad]=o->MB.run Y [.int p,Fs b xs]=(Go Y (.cons (.rais 3 (.cons (.str (AX "all the numbers have the rest 0")) .nil)) .nil) o).ans Af:=by
  rintro o rfl;simp[MB,Df.run,DL,YS,cp]
 have le:DU p (xs.map λx=>x%p)=DU p xs:=by
  have:=RM (c:=1) hp (by rcases hp with rfl|rfl|rfl|rfl<;>decide) (f:=λx=>x%p) (λx=>by rw[JT,C7 _ (E8 p)]) xs
  rw[this];cases e:DU p xs with
  |none=>rfl
  |some l=>
   obtain⟨_,l0,l1⟩:=LG p0 e;simp[FV (Int.le_of_lt l0) l1]
 obtain⟨a,c⟩:=RG (b:=b) (xs:=xs) hr ht hp (xs.map λx=>x%p) (xs.map λx=>x%p) (λy hy=>by
  obtain⟨x,_,rfl⟩:=Bi.mp hy;exact⟨DB _ (by omega),Du _ p0⟩) Ad
 rw[le]at a c;rw[run _ (c l t e it)];simp[fmI,Bc,Vn]
end
theorem S9:∀ xs ys:Ac Ag,eqDs (ds xs) (ds ys)=decide (xs=ys)
 |[],[]=>rfl
 |[],_::_=>rfl
 |_::_,[]=>rfl
 |x::xs,y::ys=>by
  show ((x==y)&&eqDs (ds xs) (ds ys))=_;rw[S9 xs ys,E0];simp
theorem Pf(a b:R3):eqD (B9 Aa a) (B9 Aa b)=decide (a=b):=by
 show eqDs (ds [a.1,a.2.1,a.2.2]) (ds [b.1,b.2.1,b.2.2])=_;rw[S9,E0];simp only[List.cons.injEq,and_true,AZ];exact⟨λ⟨h1,h2,h3⟩=>by obtain⟨a1,a2,a3⟩:=a;obtain⟨b1,b2,b3⟩:=b;simp at h1 h2 h3;rw[h1,h2,h3],λh=>by rw[h];exact⟨rfl,rfl,rfl⟩⟩
theorem Bd.mono{m n:Ae}{x:Ag}(h:Bd m x)(hm:m<=n):Bd n x:=AS h (Wa (by decide) hm)
def Bn(n:Ae)(a:R3):Prop:=Bd n a.1/\Bd n a.2.1/\Bd n a.2.2
theorem Bn.b3{n:Ae}(h:Bn n a)(hn:n<=300):B3 a:=⟨h.1.mono hn,h.2.1.mono hn,h.2.2.mono hn⟩
noncomputable def sU(k:Ag)(a:R3):R3:=(k*a.1,k*a.2.1,k*a.2.2)
noncomputable def fk0(p:Ag)(a b c d:R3):Ag:=Mq d b c%p
noncomputable def fs0(p:Ag)(a b c d:R3):R3:=sU (fk0 p a b c d) a
noncomputable def Mv:E:=(.call 17 (.cons (.var 0) (.cons (.tup (.cons (.var 3) (.cons (.var 2) (.cons (.int 1) .nil)))) .nil)))
noncomputable def LB:Ss:=(.cons (.app 1 (.comp Mv 3 (.rng (.var 0)) Cy)) .nil)
noncomputable def Mu:E:=(.tup (.cons (.int 1) (.cons (.var 4) (.cons (.int 0) .nil))))
noncomputable def Mw:Df:=⟨5,Af,(.cons (.asg 1 Aa (.lst .nil)) (.cons (.fors 2 (.rng3 (.bin .Sub (.var 0) (.int 1)) (.un .USub (.int 1)) (.un .USub (.int 1))) LB) (.cons (.app 1 (.bin .Add (.comp Mu 4 (.rng (.var 0)) Cy) (.lst (.cons (.tup (.cons (.int 0) (.cons (.int 1) (.cons (.int 0) .nil)))) .nil)))) (.cons (.ret (.var 1)) .nil))))⟩
noncomputable def J6:Ss:=(.cons (.ife (.cmp .Eq (.var 3) (.str (AX "#"))) (.cons (.app 2 (.var 4)) .nil) (.cons (.ife (.cmp .NotEq (.var 3) (.str (AX "."))) (.cons (.rais 16 (.cons (.str (AX "a sign that is not drawn")) .nil)) .nil) .nil) .nil)) .nil)
noncomputable def MA:Df:=⟨5,Aa,(.cons (.ife (.cmp .NotEq (.bi .len (.cons (.var 0) .nil)) (.bi .len (.cons (.var 1) .nil))) (.cons (.rais 16 (.cons (.str (AX "a text of another length")) .nil)) .nil) .nil) (.cons (.asg 2 Aa (.lst .nil)) (.cons (.forT [3,4] (.zip (.var 0) (.var 1)) J6) (.cons (.ret (.var 2)) .nil))))⟩
noncomputable def LK:Ss:=(.cons (.ext 3 (.call 312 (.cons (.var 4) (.cons (.var 5) .nil)))) .nil)
noncomputable def MV:Df:=⟨6,Aa,(.cons (.asg 2 Af (.call 309 (.cons (.var 0) .nil))) (.cons (.ife (.cmp .NotEq (.bi .len (.cons (.var 1) .nil)) (.bi .len (.cons (.var 2) .nil))) (.cons (.rais 16 (.cons (.str (AX "texts too many or few")) .nil)) .nil) .nil) (.cons (.asg 3 Aa (.lst .nil)) (.cons (.forT [4,5] (.zip (.var 1) (.var 2)) LK) (.cons (.ret (.bi .sorted (.cons (.var 3) .nil))) .nil)))))⟩
noncomputable def hsh:Ak:=⟨#[35]⟩
noncomputable def dot:Ak:=⟨#[46]⟩
theorem O9:AX "#" = hsh:=by kernel_rfl
theorem Ph:AX "." = dot:=by kernel_rfl
noncomputable def sg(c:Ae):Ak:=⟨#[c]⟩
theorem Pr(c d:Ae):(sg c==sg d)=decide (c=d):=by
 by_cases h:c=d
 .rw[BJ h,h];simp
 .rw[BH h];have:sg c≠sg d:=λe=>h (by
   have:=congrArg Str.cps e;simpa [sg] using this)
  simpa using this
theorem HZ{n:Ae}(h:n<=1000):BQ n=Aa:=V3.mpr (by omega)
noncomputable def rw3(l:Ac R3):Ac D:=l.map (B9 Aa)
noncomputable def DO:Ac Ae->Ac R3->Ac R3
 |c::cs,a::as=>if c=35 then a::DO cs as else DO cs as
 |_,_=>[]
theorem Sh:∀(cs:Ac Ae)(as:Ac R3),(DO cs as).length<=as.length
 |[],as=>by simp[DO]
 |c::cs,[]=>by simp[DO]
 |c::cs,a::as=>by
  have:=Sh cs as;rw[DO];split
  .rw[A7,A7];omega
  .rw[A7];omega
noncomputable def okS(c:Ae):Aj:=decide (c=35)||decide (c=46)
section
variable{Y:Gam}
noncomputable def L9(x:Ak)(as:Ac R3):Aj:=decide (x.cps.size=as.length)&&x.cps.toList.all okS
noncomputable def asc(x:Ak):Aj:=x.cps.all (· < 128)
end
noncomputable def FH(p l:Ag):Ag:=(((AB p.toNat).map fun(k:Ae)=>(k:Ag)).find? λt=>decide (l*t%p=1)).getD 0
theorem RN(hp:P4 p)(h0:0<l)(h1:l<p):ID p l (FH p l):=by
 obtain⟨n,rfl⟩:∃ n:Ae,l=n:=⟨l.toNat,by omega⟩
 unfold ID;rcases hp with rfl|rfl|rfl|rfl
 .have:∀ n:Ae,n<3->0<n->(1<=FH 3 n/\FH 3 n<3/\(n:Ag)*FH 3 n%3=1):=by decide+kernel
  exact this n (by omega) (by omega)
 .have:∀ n:Ae,n<5->0<n->(1<=FH 5 n/\FH 5 n<5/\(n:Ag)*FH 5 n%5=1):=by decide+kernel
  exact this n (by omega) (by omega)
 .have:∀ n:Ae,n<7->0<n->(1<=FH 7 n/\FH 7 n<7/\(n:Ag)*FH 7 n%7=1):=by decide+kernel
  exact this n (by omega) (by omega)
 .have:∀ n:Ae,n<11->0<n->(1<=FH 11 n/\FH 11 n<11/\(n:Ag)*FH 11 n%11=1):=by decide+kernel
  exact this n (by omega) (by omega)
noncomputable def l3(q:R3):Ac Ag:=[q.1,q.2.1,q.2.2]
noncomputable def fq(p:Ag)(q:R3):R3:=match DU p (l3 q) with
  |some l=>(FH p l*(q.1%p)%p,FH p l*(q.2.1%p)%p,FH p l*(q.2.2%p)%p)
  |none=>q
theorem UG(h:DU p (l3 q)=Ab l):l3 (fq p q)=fmI p (FH p l) (l3 q):=by
 unfold fq;rw[h];rfl
theorem nL(hf:OX Y)(hp:P4 p)(hl:∃ l,DU p (l3 q)=Ab l)(b:Aj):Y.F 17 [.int p,B9 b q]=.ok (B9 Aa (fq p q)):=by
 obtain⟨l,hl⟩:=hl;obtain⟨_,h0,h1⟩:=LG hp.pos hl;have e:=hf p b (l3 q) l _ hp hl (RN hp h0 h1);rw[<-UG hl]at e;exact e
noncomputable def aff(n y:Ae):Ac R3:=(AB n).map fun(x:Ae)=>fq n ((x:Ag),(n:Ag)-1-(y:Ag),1)
noncomputable def Mc(n:Ae):Ac R3:=((AB n).map fun(m:Ae)=>((1:Ag),(m:Ag),(0:Ag)))++[(0,1,0)]
noncomputable def cells(n:Ae):Ac (Ac R3):=(AB n).map (aff n)++[Mc n]
noncomputable def rws(l:Ac (Ac R3)):Ac D:=l.map λr=>D.lst (rw3 r)
theorem P4.n{n:Ae}(hp:P4 n):n=3\/n=5\/n=7\/n=11:=by
 rcases hp with h|h|h|h<;>omega
theorem Ow{g:D->R Aj}{f:D->R D}{φ:Ae->R3}:∀ L:Ac Ae,(∀ k∈L,g (.int (0+(k:Ag)))=.ok Aa/\f (.int (0+(k:Ag)))=.ok (B9 Aa (φ k)))->BK g f (L.map fun(k:Ae)=>D.int (0+(k:Ag)))=.ok (rw3 (L.map φ))
 |[],_=>rfl
 |k::L,h=>by
  obtain⟨h1,h2⟩:=h k (AL ..);have ih:=Ow L λm hm=>h m (AF _ hm)
  show (g (.int (0+(k:Ag)))).bind _=_;rw[h1,R.bind_ok,Ar rfl,h2,R.bind_ok,show BK g f (List.map _ L)=_ from ih]
  rfl
theorem RK(lo:Ag)(n:Ae):(Ff lo n).length=n:=by simp[Ff]
theorem RV{lo:Ag}{n i:Ae}{d:D}(h:(Ff lo n)[i]?=Ab d):i<n/\d=.int (lo-i):=by
 unfold Ff at h;rw[Bx]at h;by_cases hi:i<n
 .rw[GQ hi]at h;exact⟨hi,(Bg h).symm⟩
 .rw[E9 (by simp;omega)]at h
  cases h
theorem sW{n:Ae}(hn:n<=11):Hh ((n:Ag)-1) (-1) (-1)=.ok (Ff ((n:Ag)-1) n):=by
 have h:(-1:Ag)=-1/\(-(4611686018427387904:Ag)<=(n:Ag)-1/\(n:Ag)-1<4611686018427387904)/\(-(4611686018427387904:Ag)<=-1/\(-1:Ag)<4611686018427387904)/\(n:Ag)-1 - -1<1000000:=⟨rfl,⟨by omega,by omega⟩,⟨by omega,by omega⟩,by omega⟩
 have e:((n:Ag)-1 - -1).toNat=n:=by omega
 rw[Hh,Ar h,e]
section
variable{Y:Gam}{n:Ae}
def PV(Y:Gam):Prop:=∀ n:Ae,P4 n->Y.F 309 [.int n]=.ok (.lst (rws (cells n)))
theorem RL{a b:Ag}(hp:P4 p):∃ l,DU p [a,b,1]=Ab l:=by
 cases e:DU p [a,b,1] with
 |some l=>exact⟨l,rfl⟩
 |none=>
  have:=Q9.mp e 1 (by simp)
  rcases hp with rfl|rfl|rfl|rfl<;>cases this
theorem lM(rg:DM 0 p=.ok G)(r:BK (cG Y [si p,Ab (.lst L,Aa),si y,Ad,Ad] 3 Cy) (cF Y [si p,Ab (.lst L,Aa),si y,Ad,Ad] 3 Mv) G=.ok Z_)(z:BQ (L.length+1)=Aa):DV Y 2 LB (.int y) [si p,Ab (.lst L,Aa),s2,Ad,Ad]=.next [si p,Ab (.lst (L++[.lst Z_]),Aa),si y,Ad,Ad]:=by
 simp[DV,LB,rg,r,Dj,z]
theorem dU{Dn:Ac D}(rg:DM 0 p=.ok G)(rd:Hh (p-1) (-1) (-1)=.ok Dn)(el:Dk (DV Y 2 LB) Dn [si p,Ab (.lst [],Aa),Ad,Ad,Ad]=.next [si p,Ab (.lst L,Aa),s2,Ad,Ad])(c2:BK (cG Y [si p,Ab (.lst L,Aa),s2,Ad,Ad] 4 Cy) (cF Y [si p,Ab (.lst L,Aa),s2,Ad,Ad] 4 Mu) G=.ok Z_)(z1:BQ (L.length+1)=Aa)(z2:BQ (Z_.length+1)=Aa):Mw.run Y [.int p]=.ok (.lst (L++[.lst (Z_++[.tup [.int 0,.int 1,.int 0]])])):=by
 simp[Mw,Df.run,DL,LP,DT,rd,el,c2,rg,Dj,z1,z2]
theorem qU(hf:OX Y)(n:Ae)(hp:P4 n):Mw.run Y [.int n]=.ok (.lst (rws (cells n))):=by
 have hn:n<=11:=by rcases hp.n with rfl|rfl|rfl|rfl<;>decide
 have rg:DM 0 (n:Ag)=.ok (EU 0 n):=by
  rw[Om (by omega) (by omega)]
  simp
 have rd:=sW hn;have row:∀(i:Ae)(L:D)(U3:Sl),BK (cG Y [si n,Ab (L,Aa),si ((n:Ag)-1-i),Ad,Ad] 3 Cy) (cF Y [si n,Ab (L,Aa),si ((n:Ag)-1-i),Ad,Ad] 3 Mv) (EU 0 n)=.ok (rw3 (aff n i)):=λi L _=>by
  refine Ow (AB n) λk hk=>⟨rfl,?_⟩
  have e:=nL hf (q:=((k:Ag),(n:Ag)-1-(i:Ag),1)) hp (RL hp) Aa;have er:B9 Aa ((k:Ag),(n:Ag)-1-(i:Ag),1)=.tup [.int k,.int ((n:Ag)-1-(i:Ag)),.int 1]:=rfl;rw[er]at e;generalize B9 Aa (fq n _)=Y_ at *;simp[cF,Mv,e]
 obtain⟨U',el,s2,eρ⟩:=NS (body:=DV Y 2 LB) (λi U=>∃ s2,U=[si n,Ab (.lst (rws ((AB i).map (aff n))),Aa),s2,Ad,Ad]) (Ff ((n:Ag)-1) n) 0 [si n,Ab (.lst [],Aa),Ad,Ad,Ad] ⟨Ad,rfl⟩ λi x hx U hρ=>by
  obtain⟨s2,rfl⟩:=hρ;rw[DF];obtain⟨hi,rfl⟩:=RV hx;have r:=row i (.lst (rws ((AB i).map (aff n)))) Ad;have z:BQ ((rws ((AB i).map (aff n))).length+1)=Aa:=HZ (by simp[rws];omega)
  have ea:rws ((AB (i+1)).map (aff n))=rws ((AB i).map (aff n))++[.lst (rw3 (aff n i))]:=by simp[rws,Ik]
  rw[ea];exact⟨_,lM rg r z,si ((n:Ag)-1-i),rfl⟩
 rw[RK,DF]at eρ;subst eρ;have c2:∀(L:D)(s:Sl),BK (cG Y [si n,Ab (L,Aa),s,Ad,Ad] 4 Cy) (cF Y [si n,Ab (L,Aa),s,Ad,Ad] 4 Mu) (EU 0 n)=.ok (rw3 ((AB n).map fun(m:Ae)=>((1:Ag),(m:Ag),(0:Ag)))):=λL s=>by
  refine Ow (AB n) λk hk=>⟨rfl,?_⟩
  have er:B9 Aa ((1:Ag),(k:Ag),(0:Ag))=.tup [.int 1,.int k,.int 0]:=rfl;rw[er];simp[cF,Mu]
 have z1:BQ ((rws ((AB n).map (aff n))).length+1)=Aa:=HZ (by simp[rws];omega)
 have z2:BQ ((rw3 ((AB n).map fun(m:Ae)=>((1:Ag),(m:Ag),(0:Ag)))).length+1)=Aa:=HZ (by simp[rw3];omega)
 have ec:rws (cells n)=rws ((AB n).map (aff n))++[.lst (rw3 ((AB n).map fun(m:Ae)=>((1:Ag),(m:Ag),(0:Ag)))++[.tup [.int 0,.int 1,.int 0]])]:=by
  unfold cells Mc rws rw3;simp;rfl
 rw[ec];exact dU rg rd el (c2 _ _) z1 z2
end
noncomputable def GP:Ac Ak->Ac (Ac R3)->Ac R3
 |x::xs,r::rs=>DO x.cps.toList r++GP xs rs
 |_,_=>[]
noncomputable def okA:Ac Ak->Ac (Ac R3)->Aj
 |x::xs,r::rs=>L9 x r&&okA xs rs
 |_,_=>Aa
def Txs(xs:Ac Ak):Prop:=∀ x∈xs,asc x=Aa/\x.length<=900
section
variable{Y:Gam}
theorem eO{X RW:Ac D}(h9:Y.F 309 [.int p]=.ok (.lst RW))(hl:X.length=RW.length)(lo:Dk (Hn Y [4,5] LK) (Ep X RW) [si p,sh (.lst X),sh (.lst RW),Ab (.lst [],Aa),Ad,Ad]=.next [si p,sh (.lst X),sh (.lst RW),Ab (.lst Y_,Aa),s4,s5])(so:G0 Y_=.ok Z_)(cl:Z_.all (nlD 5)=Aa):MV.run Y [.int p,.lst X]=.ok (.lst Z_):=by
 have cl':Hs Aa (.lst Z_)=Aa:=by show (Aa&&Z_.all (nlD 5))=Aa;rw[cl];rfl
 simp[MV,Df.run,DL,h9,hl,lo,so,LP,DT,cl']
end
theorem OD:∀(cs:Ac Ae)(as:Ac R3),(DO cs as).Sublist as
 |[],as=>by cases as<;>exact Gf _
 |c::cs,[]=>Gf _
 |c::cs,a::as=>by
  rw[DO];split
  .exact(OD cs as).cons₂ a
  .exact(OD cs as).cons a
theorem R7:∀(xs:Ac Ak)(rs:Ac (Ac R3)),(GP xs rs).Sublist rs.flatten
 |[],rs=>by cases rs<;>exact Gf _
 |x::xs,[]=>Gf _
 |x::xs,r::rs=>by
  rw[GP,VG];exact(OD _ r).append (R7 xs rs)
theorem Ka{n:Ae}(hp:P4 n):(cells n).flatten.Nodup/\(cells n).flatten.length<=200/\(cells n).length=n+1/\∀ r∈cells n,r.length<=20:=by
 rcases hp.n with rfl|rfl|rfl|rfl
 .decide+kernel
 .decide+kernel
 .decide+kernel
 .decide+kernel
noncomputable def UC(r:Ac Ag):R3:=(r.getD 0 0,r.getD 1 0,r.getD 2 0)
theorem kB{l:Ac R3}(nd:l.Nodup)(hl:l.length<=1000):∃ l',G0 (rw3 l)=.ok (rw3 l'):=by
 have e:∀ l:Ac R3,rw3 l=(l.map l3).map tI:=λl=>by
  unfold rw3;rw[Bc];exact BX λa _=>rfl
 have inj:∀ a b:R3,l3 a=l3 b->a=b:=λa b h=>by
  obtain⟨a1,a2,a3⟩:=a;obtain⟨b1,b2,b3⟩:=b;simp[l3]at h;obtain⟨rfl,rfl,rfl⟩:=h;rfl
 have nd':(l.map l3).Nodup:=Dc.mpr (nd.imp λh z=>h (inj _ _ z))
 refine⟨(ET (l.map l3)).map UC,?_⟩;rw[e,e];have h:=Qp (rs:=l.map l3) (ys:=ET (l.map l3)) (λr hr=>by
  obtain⟨a,_,rfl⟩:=Bi.mp hr;exact VA _ _) nd' (by rw[AH];exact hl) (LY nd') λr=>(Jf _).mem_iff
 have tb:((ET (l.map l3)).map UC).map l3=ET (l.map l3):=by
  rw[Bc]
  conv=>rhs;rw[<-VS (ET (l.map l3))]
  exact BX λr hr=>by
   obtain⟨a,_,rfl⟩:=Bi.mp ((Jf _).mem_iff.mp hr);rfl
 rw[h,tb]
noncomputable def HX(n:Ae)(xs:Ac Ak):Ac R3:=open Classical in if h:∃ l',G0 (rw3 (GP xs (cells n)))=.ok (rw3 l') then Vm h else []
theorem R8{n:Ae}(hp:P4 n)(xs:Ac Ak):G0 (rw3 (GP xs (cells n)))=.ok (rw3 (HX n xs)):=by
 obtain⟨c1,c2,_⟩:=Ka hp;have sb:=R7 xs (cells n);have h:=kB (c1.sublist sb) (by have:=sb.length_le;omega)
 unfold HX;rw[dif_pos h];exact E7 h
noncomputable def good(n:Ae)(xs:Ac Ak):Aj:=decide (xs.length=n+1)&&okA xs (cells n)
section
variable{Y:Gam}
theorem TV(l:Ac R3):(rw3 l).all (nlD 5)=Aa:=by
 unfold rw3;rw[FG];exact Br.mpr λ_ _=>rfl
end
theorem ZF(Y:Gam)(hp:P4 p):(DU p xs=Ad->LM.run Y [.tup (ds xs),.int p]=.ok .non)/\(∀ l t,DU p xs=Ab l->ID p l t->LM.run Y [.tup (ds xs),.int p]=.ok (.tup (ds (fmI p t xs)))):=by
 have p0:=hp.pos;have ph:=hp.hi;have c1:BK (cG Y [sh (.tup (ds xs)),si p,Ad,Ad,Ad,Ad,Ad,Ad,Ad] 5 Cy) (cF Y [sh (.tup (ds xs)),si p,Ad,Ad,Ad,Ad,Ad,Ad,Ad] 5 NH) (ds xs)=.ok (ds (xs.map λx=>x%p)):=by
  refine LJ xs λx _=>⟨rfl,?_⟩
  simp[cF,NH,p0]
 generalize hR:(xs.map λx=>x%p)=rs at c1
 have c2:BK (cG Y [sh (.tup (ds xs)),si p,sh (.lst (ds rs)),Ad,Ad,Ad,Ad,Ad,Ad] 6 NM) (cF Y [sh (.tup (ds xs)),si p,sh (.lst (ds rs)),Ad,Ad,Ad,Ad,Ad,Ad] 6 NG) (ds rs)=.ok (ds (rs.filter λr=>decide (0<r))):=by
  refine N2 rs λx _=>⟨?_,?_⟩
  .simp[cG,NM]
  .simp[cF,NG]
 have hl:=Qz p0 xs;rw[hR]at hl;generalize hL:(rs.filter λr=>decide (0<r))=ls at c2 hl
 have dl:(ds ls).length=ls.length:=AH ..;refine⟨λz=>?_,λl t e it=>?_⟩
 .rw[z]at hl;have:ls=[]:=List.head?_eq_none_iff.mp hl;subst this;simp[LM,Df.run,DL,c1,c2,dl]
 .rw[e]at hl;have hne:ls≠[]:=by rintro rfl;cases hl
  have hlen:(ls.length:Ag)≠0:=by have:=VO.mpr hne;omega
  have g0:=Rg hl;obtain⟨_,l0,l1⟩:=LG p0 e;have c3:BK (cG Y [sh (.tup (ds xs)),si p,sh (.lst (ds rs)),sh (.lst (ds ls)),Ad,Ad,Ad,Ad,Ad] 7 NL) (cF Y [sh (.tup (ds xs)),si p,sh (.lst (ds rs)),sh (.lst (ds ls)),Ad,Ad,Ad,Ad,Ad] 7 NF) (ds (GO p))=.ok (ds ((GO p).filter λk=>decide (k*l%p=1))):=by
   refine N2 (GO p) λx hx=>⟨?_,?_⟩
   .obtain⟨x1,x2⟩:=KH.mp hx;have m:FC x l=Aa:=L0 (by omega) (by omega)
    simp[cG,NL,g0,m,p0];rw[E0];simp
   .simp[cF,NF]
  have g1:=Rg (Zi it);have c4:BK (cG Y [sh (.tup (ds xs)),si p,sh (.lst (ds rs)),sh (.lst (ds ls)),si t,Ad,Ad,Ad,Ad] 8 Cy) (cF Y [sh (.tup (ds xs)),si p,sh (.lst (ds rs)),sh (.lst (ds ls)),si t,Ad,Ad,Ad,Ad] 8 NN) (ds rs)=.ok (ds (rs.map λr=>t*r%p)):=by
   refine LJ rs λx _=>⟨rfl,?_⟩
   have m:FC x t=Aa:=SJ (by have:=it.1;omega) (by have:=it.2.1;omega)
   simp[cF,NN,m,p0,Gw]
  have ru:DM 1 p=.ok (ds (GO p)):=Sa hp;have fe:fmI p t xs=rs.map λr=>t*r%p:=by rw[<-hR];simp[fmI,Bc,Vn]
  simp[LM,Df.run,DL,c1,c2,dl,hlen,hne,ru,c3,g1,c4,fe]
def M9(Y:Gam):Prop:=∀(p:Ag)(xs:Ac Ag)(l t:Ag),P4 p->DU p xs=Ab l->ID p l t->Y.F 44 [.tup (ds xs),.int p]=.ok (.tup (ds (fmI p t xs)))
section
variable{Y:Gam}
theorem nO(hf:M9 Y)(hp:P4 p)(hl:∃ l,DU p (l3 q)=Ab l):Y.F 44 [B9 Aa q,.int p]=.ok (B9 Aa (fq p q)):=by
 obtain⟨l,hl⟩:=hl;obtain⟨_,h0,h1⟩:=LG hp.pos hl;have e:=hf p (l3 q) l _ hp hl (RN hp h0 h1);rw[<-UG hl]at e;exact e
end
noncomputable def hd2:Ak:=⟨#[35,46]⟩
section
variable{Y:Gam}
end
section
variable{Y:Gam}
end
section
variable{Y:Gam}
end
theorem iC:asc x=Aa↔∀ c∈x.cps.toList,c<128:=by
 unfold asc;rw[<-Array.all_toList,Br];simp
theorem rR{y:Ak}(h:x.length+y.length<=1000):Dr .Add (.str x) (.str y)=.ok (.str (x++y)):=by
 rw[Pl,Ar (HZ h)]
section
variable{Y:Gam}
end
section
variable{Y:Gam}
noncomputable def chA:Ss:=(.cons (.ret (.bin .Add (.sl (.var 0) .non (.var 3)) (.sl (.var 0) (.bin .Add (.var 3) (.int 1)) .non))) .nil)
noncomputable def chB:Ss:=(.cons (.ret (.bin .Add (.bin .Add (.sl (.var 0) .non (.var 3)) (.lst (.cons (.var 4) .nil))) (.sl (.var 0) (.var 3) .non))) .nil)
section
variable{L:Ac D}{m W t u:Ag}{x0:Ak}{s6 s7:Sl}
end
end
noncomputable def Qu:E:=(.bl Aa)
noncomputable def Qv:E:=(.and (.cons (.isi (.var 2) [.int]) (.cons (.no (.isi (.var 2) [.bool])) .nil)))
noncomputable def Oy:Df:=⟨3,Af,(.cons (.ife (.or (.cons (.no (.isi (.var 0) [.tuple])) (.cons (.cmp .NotEq (.var 0) (.var 1)) .nil))) (.cons (.ret (.bl Af)) .nil) .nil) (.cons (.ret (.bi .all (.cons (.comp Qv 2 (.e (.var 0)) Qu) .nil))) .nil))⟩
noncomputable def Qt:E:=(.bl Aa)
noncomputable def N5:E:=(.call 45 (.cons (.var 2) (.cons (.var 2) .nil)))
noncomputable def Ox:Df:=⟨3,Af,(.cons (.ret (.and (.cons (.isi (.var 0) [.list]) (.cons (.cmp .Eq (.var 0) (.var 1)) (.cons (.bi .all (.cons (.comp N5 2 (.e (.var 0)) Qt) .nil)) .nil))))) .nil)⟩
theorem Qx:∀ xs:Ac Ak,JL (xs.map D.str)=Ab xs
 |[]=>rfl
 |x::xs=>by
  show (JL (xs.map D.str)).map (x :: ·)=_;rw[Qx xs];rfl
theorem Qo:∀ xs:Ac Ak,(∀ x∈xs,x.length=1)->(xs.map (·.length)).sum=xs.length
 |[],_=>rfl
 |x::xs,h=>by
  rw[CC,List.sum_cons,Qo xs λy hy=>h y (AF _ hy),h x (by simp),A7]
  omega
section
variable{Y:Gam}
def Tz(Y:Gam):Prop:=∀ q:R3,Y.F 45 [B9 Aa q,B9 Aa q]=.ok (.bl Aa)
theorem iJ(q:R3):Oy.run Y [B9 Aa q,B9 Aa q]=.ok (.bl Aa):=by
 have e:Cb .NotEq (B9 Aa q) (B9 Aa q)=.ok (.bl Af):=by
  have fl:flD 5 (B9 Aa q)=Aa:=rfl;show (if (flD 5 (B9 Aa q)&&flD 5 (B9 Aa q))=Aa then R.ok (D.bl (!eqD (B9 Aa q) (B9 Aa q))) else .bad)=_
  rw[fl,Ou 5 _ fl];rfl
 have er:B9 Aa q=.tup [.int q.1,.int q.2.1,.int q.2.2]:=rfl;rw[er]at e ⊢;simp[Oy,Df.run,DL,e,BK,cG,cF,Qu,Qv,mkL,Gq,Fp]
theorem Q1{g:D->R Aj}{f:D->R D}:∀ l:Ac R3,(∀ q∈l,g (B9 Aa q)=.ok Aa/\f (B9 Aa q)=.ok (.bl Aa))->BK g f (rw3 l)=.ok (l.map λ_=>D.bl Aa)
 |[],_=>rfl
 |q::l,h=>by
  obtain⟨g1,f1⟩:=h q (by simp)
  show (g (B9 Aa q)).bind _=_;rw[g1,R.bind_ok,Ar rfl,f1,R.bind_ok];show (BK g f (rw3 l)).bind _=_;rw[Q1 l λy hy=>h y (AF _ hy)]
  rfl
theorem T9(l:Ac R3):flD 5 (.lst (rw3 l))=Aa:=by
 show (rw3 l).all (flD 4)=Aa;unfold rw3;rw[FG];exact Br.mpr λ_ _=>rfl
def Tx(Y:Gam):Prop:=∀ l:Ac R3,Y.F 316 [.lst (rw3 l),.lst (rw3 l)]=.ok (.bl Aa)
theorem iI(hs:Tz Y)(l:Ac R3):Ox.run Y [.lst (rw3 l),.lst (rw3 l)]=.ok (.bl Aa):=by
 have c:=Q1 (g:=cG Y [sh (.lst (rw3 l)),sh (.lst (rw3 l)),Ad] 2 Qt) (f:=cF Y [sh (.lst (rw3 l)),sh (.lst (rw3 l)),Ad] 2 N5) l λq _=>⟨rfl,by
  have e:=hs q;generalize B9 Aa q=Q at *;simp[cF,N5,e]⟩
 have fl:=T9 l;have eq:=Ou 5 _ fl;have al:biD .all [.lst (l.map λ_=>D.bl Aa)]=.ok (.bl Aa):=by
  show (Fp (l.map λ_=>D.bl Aa)).bind _=_
  have:∀ l:Ac R3,Fp (l.map λ_=>D.bl Aa)=.ok Aa:=λl=>by
   induction l with
   |nil=>rfl
   |cons _ l ih=>
    show (Fp (l.map λ_=>D.bl Aa)).bind _=_
    rw[ih];rfl
  rw[this l];rfl
 generalize rw3 l=L at *;generalize (l.map λ_=>D.bl Aa)=M at *
 simp[Ox,Df.run,DL,c,fl,eq,al]
end
noncomputable def LA:E:=(.ite (.cmp .In (.var 2) (.var 0)) (.str (AX "#")) (.str (AX ".")))
noncomputable def MD:Df:=⟨3,Af,(.cons (.ret (.bi .sjoin (.cons (.str (AX "")) (.cons (.comp LA 2 (.e (.var 1)) Cy) .nil)))) .nil)⟩
noncomputable def NX:E:=(.call 310 (.cons (.var 1) (.cons (.var 2) .nil)))
noncomputable def MP:Df:=⟨3,Aa,(.cons (.ret (.comp NX 2 (.e (.call 309 (.cons (.var 0) .nil))) Cy)) .nil)⟩
noncomputable def DR(P:Ac R3)(a:R3):Ae:=if a∈P then 35 else 46
noncomputable def Cp(P:Ac R3)(as:Ac R3):Ak:=⟨(as.map (DR P)).toArray⟩
theorem ML(P:Ac R3)(a:R3):Cb .In (B9 Aa a) (.lst (rw3 P))=.ok (.bl (decide (a∈P))):=by
 have f1:(rw3 P).all (flD 5)=Aa:=by
  unfold rw3;rw[FG];exact Br.mpr λ_ _=>rfl
 have f2:flD 5 (B9 Aa a)=Aa:=rfl;show (if (flD 5 (B9 Aa a)&&(rw3 P).all (flD 5))=Aa then R.ok (D.bl ((rw3 P).any λy=>eqD y (B9 Aa a))) else .bad)=_
 rw[f1,f2,Ar (show (Aa&&Aa)=Aa from rfl)]
 congr 2
 unfold rw3;rw[Vz,E0,DZ,tY];constructor
 .rintro⟨b,hb,e⟩;have e':eqD (B9 Aa b) (B9 Aa a)=Aa:=e;rw[Pf,tY]at e';rw[<-e'];exact hb
 .intro h;refine⟨a,h,?_⟩;show eqD (B9 Aa a) (B9 Aa a)=Aa;rw[Pf];exact BJ rfl
theorem JJ{α:Type}{g:D->R Aj}{f:D->R D}{d c:α->D}:∀ l:Ac α,(∀ a∈l,g (d a)=.ok Aa/\f (d a)=.ok (c a))->BK g f (l.map d)=.ok (l.map c)
 |[],_=>rfl
 |a::l,h=>by
  obtain⟨h1,h2⟩:=h a (AL ..);have ih:=JJ l λm hm=>h m (AF _ hm)
  show (g (d a)).bind _=_;rw[h1,R.bind_ok,Ar rfl,h2,R.bind_ok,show BK g f (List.map _ l)=_ from ih]
  rfl
theorem Ra:∀ cs:Ac Ae,Str.join ⟨#[]⟩ (cs.map sg)=⟨cs.toArray⟩
 |[]=>rfl
 |[c]=>rfl
 |c::d::r=>by
  have ih:=Ra (d::r);show (sg c++⟨#[]⟩)++Str.join ⟨#[]⟩ ((d::r).map sg)=_;rw[ih];show (⟨(#[c] ++ #[])++(d::r).toArray⟩:Ak)=_
  congr 1
  simp
theorem P6{cs:Ac Ae}(hl:cs.length<=100):biD .sjoin [.str (AX ""),.lst (cs.map λc=>D.str (sg c))]=.ok (.str ⟨cs.toArray⟩):=by
 have e0:AX "" = (⟨#[]⟩:Ak):=by kernel_rfl
 rw[e0];have em:(cs.map λc=>D.str (sg c))=(cs.map sg).map D.str:=by rw[Bc];rfl
 rw[em];have sm:=Qo (cs.map sg) λx h=>by
  obtain⟨c,_,rfl⟩:=Bi.mp h;rfl
 have jo:Jz ⟨#[]⟩ (cs.map sg)=Aa:=by
  unfold Jz Builtin.Str.tooLong;rw[StrLaws.joinTotal,sm,show (⟨#[]⟩:Ak).length=0 from rfl,Nat.mul_zero,GB]
  have:¬ ((cs.map sg).length>sizeLine):=λh=>by
   have:sizeLine ≥ 1000:=by decide
   rw[AH]at h;omega
  rw[AH]at this ⊢;simp[this]
 show L4 ⟨#[]⟩ ((cs.map sg).map D.str)=_;unfold L4;rw[Qx];show (if Jz ⟨#[]⟩ (cs.map sg)=Aa then R.ok (D.str (Ls ⟨#[]⟩ (cs.map sg))) else .bad)=_
 rw[Ar jo];show R.ok (D.str (Builtin.Str.glued ⟨#[]⟩ (cs.map sg)))=_;rw[StrLaws.glued_eq_join,Ra]
section
variable{Y:Gam}
theorem aQ(ce:BK (cG Y [sh X,sh (.lst L),Ad] 2 Cy) (cF Y [sh X,sh (.lst L),Ad] 2 LA) L=.ok Z_)(e:biD .sjoin [.str (AX ""),.lst Z_]=.ok (.str t)):MD.run Y [X,.lst L]=.ok (.str t):=by
 generalize hT:AX "" = T at *;simp[MD,Df.run,DL,ce,e,hT]
def TB(Y:Gam):Prop:=∀ P as:Ac R3,as.length<=100->Y.F 310 [.lst (rw3 P),.lst (rw3 as)]=.ok (.str (Cp P as))
theorem iL(P as:Ac R3)(hl:as.length<=100):MD.run Y [.lst (rw3 P),.lst (rw3 as)]=.ok (.str (Cp P as)):=by
 have key:BK (cG Y [sh (.lst (rw3 P)),sh (.lst (rw3 as)),Ad] 2 Cy) (cF Y [sh (.lst (rw3 P)),sh (.lst (rw3 as)),Ad] 2 LA) (rw3 as)=.ok (as.map λa=>D.str (sg (DR P a))):=by
  refine JJ as λa _=>⟨rfl,?_⟩
  have e:=ML P a;have e1:=O9;have e2:=Ph;generalize hX:D.lst (rw3 P)=X at *;generalize hY:D.lst (rw3 as)=Y_ at *;by_cases h:a∈P
  .rw[BJ h]at e;have ec:D.str (sg (DR P a))=.str hsh:=by unfold DR;rw[Ar h];rfl
   rw[ec];generalize B9 Aa a=A at *;simp[cF,LA,e,e1]
  .rw[BH h]at e;have ec:D.str (sg (DR P a))=.str dot:=by unfold DR;rw[As h];rfl
   rw[ec];generalize B9 Aa a=A at *;simp[cF,LA,e,e2]
 refine aQ key ?_;have e:=P6 (cs:=as.map (DR P)) (by rw[AH];exact hl)
 rw[Bc]at e;exact e
def TD(Y:Gam):Prop:=∀(n:Ae)(P:Ac R3),P4 n->Y.F 311 [.int n,.lst (rw3 P)]=.ok (.lst ((cells n).map λr=>D.str (Cp P r)))
theorem Z_8{p:D}(h9:Y.F 309 [p]=.ok (.lst L))(ce:BK (cG Y [sh p,sh X,Ad] 2 Cy) (cF Y [sh p,sh X,Ad] 2 NX) L=.ok Z_):MP.run Y [p,X]=.ok (.lst Z_):=by
 simp[MP,Df.run,DL,h9,ce,DT]
theorem iN(h9:PV Y)(hr:TB Y)(n:Ae)(P:Ac R3)(hp:P4 n):MP.run Y [.int n,.lst (rw3 P)]=.ok (.lst ((cells n).map λr=>D.str (Cp P r))):=by
 obtain⟨_,_,_,c4⟩:=Ka hp;refine Z_8 (h9 n hp) ?_;refine JJ (d:=λr=>D.lst (rw3 r)) (cells n) λr hr'=>⟨rfl,?_⟩
 have e:=hr P r (by have:=c4 r hr';omega)
 generalize D.lst (rw3 P)=X at *;generalize D.lst (rw3 r)=Y_ at *;simp[cF,NX,e]
end
noncomputable def KG:E:=(.idx (.str (AX ".#")) (.bi .int (.cons (.cmp .In (.call 44 (.cons (.tup (.cons (.var 5) (.cons (.var 3) (.cons (.int 1) .nil)))) (.cons (.var 1) .nil))) (.var 0)) .nil)))
noncomputable def LD:Ss:=(.cons (.app 2 (.bi .sjoin (.cons (.str (AX "")) (.cons (.comp KG 5 (.rng (.var 1)) Cy) .nil)))) .nil)
noncomputable def KF:E:=(.idx (.str (AX ".#")) (.bi .int (.cons (.cmp .In (.tup (.cons (.int 1) (.cons (.var 6) (.cons (.int 0) .nil)))) (.var 0)) .nil)))
noncomputable def Mt:Df:=⟨7,Af,(.cons (.asg 2 Aa (.lst .nil)) (.cons (.fors 3 (.rrv (.var 1)) LD) (.cons (.asg 4 Af (.bi .sjoin (.cons (.str (AX "")) (.cons (.comp KF 6 (.rng (.var 1)) Cy) .nil)))) (.cons (.ret (.bin .Add (.var 2) (.lst (.cons (.bin .Add (.var 4) (.idx (.str (AX ".#")) (.bi .int (.cons (.cmp .In (.tup (.cons (.int 0) (.cons (.int 1) (.cons (.int 0) .nil)))) (.var 0)) .nil)))) .nil)))) .nil))))⟩
theorem Ps(b:Aj):Km (.str (AX ".#")) (.int (b2i b))=.ok (.str (sg (if b=Aa then 35 else 46))):=by
 cases b
 .kernel_rfl
 .kernel_rfl
theorem Pt(P:Ac R3)(a:R3):(if decide (a∈P)=Aa then 35 else 46)=DR P a:=by
 unfold DR;by_cases h:a∈P
 .rw[Ar (BJ h),Ar h]
 .rw[As (by rw[BH h];decide),As h]
section
variable{Y:Gam}
theorem sZ(hf:M9 Y){n:Ae}(hp:P4 n)(P:Ac R3)(x y:Ag)(L s4:Sl):cF Y [sh (.lst (rw3 P)),si n,L,si y,s4,Ad,Ad] 5 KG (.int x)=.ok (.str (sg (DR P (fq n (x,y,1))))):=by
 have e:=nO hf (q:=(x,y,1)) hp (RL hp);have er:B9 Aa (x,y,1)=.tup [.int x,.int y,.int 1]:=rfl;rw[er]at e;have i:=ML P (fq n (x,y,1));have d:=Ps (decide (fq n (x,y,1)∈P));rw[Pt]at d;generalize sg (DR P (fq n (x,y,1)))=C at *;generalize decide (fq n (x,y,1)∈P)=b at *;generalize B9 Aa (fq n (x,y,1))=Y_ at *;generalize D.lst (rw3 P)=X at *;generalize (n:Ag)=N at *;generalize hT:AX ".#" = T at *;simp[cF,KG,e,i,d,hT]
theorem sY(P:Ac R3)(x:Ag)(N L Y_ s4:Sl):cF Y [sh (.lst (rw3 P)),N,L,Y_,s4,Ad,Ad] 6 KF (.int x)=.ok (.str (sg (DR P (1,x,0)))):=by
 have er:B9 Aa ((1:Ag),x,(0:Ag))=.tup [.int 1,.int x,.int 0]:=rfl;have i:=ML P (1,x,0);rw[er]at i;have d:=Ps (decide ((1,x,0)∈P));rw[Pt]at d;generalize sg (DR P (1,x,0))=C at *;generalize decide ((1,x,0)∈P)=b at *;generalize D.lst (rw3 P)=X at *;generalize hT:AX ".#" = T at *;simp[cF,KF,i,d,hT]
theorem sX(rg:DM 0 p=.ok G)(r:BK (cG Y [sh X,si p,Ab (.lst L,Aa),si y,Ad,Ad,Ad] 5 Cy) (cF Y [sh X,si p,Ab (.lst L,Aa),si y,Ad,Ad,Ad] 5 KG) G=.ok Z_)(j:biD .sjoin [.str (AX ""),.lst Z_]=.ok (.str t))(z:BQ (L.length+1)=Aa):DV Y 3 LD (.int y) [sh X,si p,Ab (.lst L,Aa),s3,Ad,Ad,Ad]=.next [sh X,si p,Ab (.lst (L++[.str t]),Aa),si y,Ad,Ad,Ad]:=by
 generalize hT:AX "" = T at *;simp[DV,LD,rg,r,Dj,z,j,hT]
theorem mD{Dn:Ac D}{u v:Ak}{b:Aj}(rg:DM 0 p=.ok G)(rd:Ia p=.ok Dn)(el:Dk (DV Y 3 LD) Dn [sh X,si p,Ab (.lst [],Aa),Ad,Ad,Ad,Ad]=.next [sh X,si p,Ab (.lst L,Aa),s3,Ad,Ad,Ad])(c2:BK (cG Y [sh X,si p,Ab (.lst L,Aa),s3,Ad,Ad,Ad] 6 Cy) (cF Y [sh X,si p,Ab (.lst L,Aa),s3,Ad,Ad,Ad] 6 KF) G=.ok Z_)(j:biD .sjoin [.str (AX ""),.lst Z_]=.ok (.str t))(i:Cb .In (.tup [.int 0,.int 1,.int 0]) X=.ok (.bl b))(d:Km (.str (AX ".#")) (.int (b2i b))=.ok (.str u))(a:Dr .Add (.str t) (.str u)=.ok (.str v))(z1:BQ (L.length+1)=Aa):Mt.run Y [X,.int p]=.ok (.lst (L++[.str v])):=by
 generalize hT:AX ".#" = T at *;generalize hU:AX "" = U_ at *;simp[Mt,Df.run,DL,LP,DT,rd,el,c2,rg,j,i,d,a,z1,hT,hU]
theorem sV{n:Ae}(hp:P4 n):Ia (n:Ag)=.ok (Ff ((n:Ag)-1) n):=by
 have h:1<=(n:Ag)/\(n:Ag)<1000000:=by rcases hp.n with rfl|rfl|rfl|rfl<;>decide
 rw[Ia,Ar h,Hu]
def TC(Y:Gam):Prop:=∀(n:Ae)(P:Ac R3),P4 n->Y.F 314 [.lst (rw3 P),.int n]=.ok (.lst ((cells n).map λr=>D.str (Cp P r)))
theorem iM(hf:M9 Y)(n:Ae)(P:Ac R3)(hp:P4 n):Mt.run Y [.lst (rw3 P),.int n]=.ok (.lst ((cells n).map λr=>D.str (Cp P r))):=by
 have hn:n<=11:=by rcases hp.n with rfl|rfl|rfl|rfl<;>decide
 have rg:DM 0 (n:Ag)=.ok (EU 0 n):=by
  rw[Om (by omega) (by omega)]
  simp
 have row:∀(i:Ae)(L:Sl),BK (cG Y [sh (.lst (rw3 P)),si n,L,si ((n:Ag)-1-i),Ad,Ad,Ad] 5 Cy) (cF Y [sh (.lst (rw3 P)),si n,L,si ((n:Ag)-1-i),Ad,Ad,Ad] 5 KG) (EU 0 n)=.ok (((aff n i).map (DR P)).map λc=>D.str (sg c)):=λi L=>by
  have:=JJ (g:=cG Y [sh (.lst (rw3 P)),si n,L,si ((n:Ag)-1-i),Ad,Ad,Ad] 5 Cy) (f:=cF Y [sh (.lst (rw3 P)),si n,L,si ((n:Ag)-1-i),Ad,Ad,Ad] 5 KG) (d:=fun(k:Ae)=>D.int (0+(k:Ag))) (c:=λk=>D.str (sg (DR P (fq n ((k:Ag),(n:Ag)-1-(i:Ag),1))))) (AB n) λk hk=>⟨rfl,by
   have:=sZ hf hp P (0+(k:Ag)) ((n:Ag)-1-i) L Ad;rw[Vw]at this ⊢;exact this⟩
  unfold EU;rw[this];unfold aff;rw[Bc,Bc];rfl
 obtain⟨U',el,s3,eρ⟩:=NS (body:=DV Y 3 LD) (λi U=>∃ s3,U=[sh (.lst (rw3 P)),si n,Ab (.lst ((AB i).map λj=>D.str (Cp P (aff n j))),Aa),s3,Ad,Ad,Ad]) (Ff ((n:Ag)-1) n) 0 [sh (.lst (rw3 P)),si n,Ab (.lst [],Aa),Ad,Ad,Ad,Ad] ⟨Ad,rfl⟩ λi x hx U hρ=>by
  obtain⟨s3,rfl⟩:=hρ;rw[DF];obtain⟨hi,rfl⟩:=RV hx;have r:=row i (Ab (.lst ((AB i).map λj=>D.str (Cp P (aff n j))),Aa))
  have z:BQ (((AB i).map λj=>D.str (Cp P (aff n j))).length+1)=Aa:=HZ (by simp;omega)
  have ea:((AB (i+1)).map λj=>D.str (Cp P (aff n j)))=((AB i).map λj=>D.str (Cp P (aff n j)))++[.str (Cp P (aff n i))]:=by simp[Ik]
  rw[ea];exact⟨_,sX rg r (P6 (by unfold aff;simp;omega)) z,si ((n:Ag)-1-i),rfl⟩
 rw[RK,DF]at eρ;subst eρ;have c2:∀(L s:Sl),BK (cG Y [sh (.lst (rw3 P)),si n,L,s,Ad,Ad,Ad] 6 Cy) (cF Y [sh (.lst (rw3 P)),si n,L,s,Ad,Ad,Ad] 6 KF) (EU 0 n)=.ok ((((AB n).map fun(m:Ae)=>((1:Ag),(m:Ag),(0:Ag))).map (DR P)).map λc=>D.str (sg c)):=λL s=>by
  have:=JJ (g:=cG Y [sh (.lst (rw3 P)),si n,L,s,Ad,Ad,Ad] 6 Cy) (f:=cF Y [sh (.lst (rw3 P)),si n,L,s,Ad,Ad,Ad] 6 KF) (d:=fun(k:Ae)=>D.int (0+(k:Ag))) (c:=λk=>D.str (sg (DR P (1,(k:Ag),0)))) (AB n) λk hk=>⟨rfl,by
   have:=sY (Y:=Y) P (0+(k:Ag)) (si n) L s Ad;rw[Vw]at this ⊢;exact this⟩
  unfold EU;rw[this,Bc,Bc];rfl
 have z1:BQ (((AB n).map λj=>D.str (Cp P (aff n j))).length+1)=Aa:=HZ (by simp;omega)
 have er:B9 Aa ((0:Ag),(1:Ag),(0:Ag))=.tup [.int 0,.int 1,.int 0]:=rfl;have i:=ML P (0,1,0);rw[er]at i;have d:=Ps (decide ((0,1,0)∈P));rw[Pt]at d;have ad:Dr .Add (.str (Cp P ((AB n).map fun(m:Ae)=>((1:Ag),(m:Ag),(0:Ag))))) (.str (sg (DR P (0,1,0))))=.ok (.str (Cp P (Mc n))):=by
  rw[rR (by
   have e1:(Cp P ((AB n).map fun(m:Ae)=>((1:Ag),(m:Ag),(0:Ag)))).length=n:=by
    show ((((AB n).map fun(m:Ae)=>((1:Ag),(m:Ag),(0:Ag))).map (DR P)).toArray).size=n
    simp
   have e2:(sg (DR P (0,1,0))).length=1:=rfl;omega)]
  have e3:∀(A:Ac Ae)(c:Ae),(⟨A.toArray⟩:Ak)++sg c=⟨(A++[c]).toArray⟩:=λA c=>by
   show (⟨A.toArray ++ #[c]⟩:Ak)=_;rw[show A.toArray ++ #[c]=(A++[c]).toArray from by simp]
  unfold Cp;rw[e3];unfold Mc;rw[E3];rfl
 have ec:((cells n).map λr=>D.str (Cp P r))=((AB n).map λj=>D.str (Cp P (aff n j)))++[.str (Cp P (Mc n))]:=by
  unfold cells;rw[E3,Bc];rfl
 rw[ec];exact mD rg (sV hp) el (c2 _ _) (P6 (by simp;omega)) i d ad z1
end
noncomputable def Jm(p n:Ag):R3:=if n=0 then (0,0,1) else if n<=p then (0,1,n-1) else (1,(n-p-1)/p,(n-p-1)%p)
noncomputable def LN:Df:=⟨2,Af,(.cons (.asg 0 Af (.bin .Mod (.var 0) (.bin .Add (.bin .Add (.bin .Mult (.var 1) (.var 1)) (.var 1)) (.int 1)))) (.cons (.ife (.cmp .Eq (.var 0) (.int 0)) (.cons (.ret (.tup (.cons (.int 0) (.cons (.int 0) (.cons (.int 1) .nil))))) .nil) .nil) (.cons (.ife (.cmp .LtE (.var 0) (.var 1)) (.cons (.ret (.tup (.cons (.int 0) (.cons (.int 1) (.cons (.bin .Sub (.var 0) (.int 1)) .nil))))) .nil) .nil) (.cons (.ret (.tup (.cons (.int 1) (.cons (.bin .FloorDiv (.bin .Sub (.bin .Sub (.var 0) (.var 1)) (.int 1)) (.var 1)) (.cons (.bin .Mod (.bin .Sub (.bin .Sub (.var 0) (.var 1)) (.int 1)) (.var 1)) .nil))))) .nil))))⟩
theorem N91{p n:Ag}(hp:P4 p):0<p*p+p+1/\0<=n%(p*p+p+1)/\n%(p*p+p+1)<p*p+p+1:=by
 have p0:=hp.pos;have N0:0<p*p+p+1:=by have:=Int.mul_pos p0 p0;omega
 exact⟨N0,DB n (Vu N0),Du n N0⟩
theorem iH(Y:Gam)(p n:Ag)(hp:P4 p):LN.run Y [.int n,.int p]=.ok (B9 Aa (Jm p (n%(p*p+p+1)))):=by
 have pp:FC p p=Aa:=L0 (by have:=hp.lo;omega) (by have:=hp.hi;omega)
 have p0:=hp.pos;have ph:=hp.hi;obtain⟨N0,h0,h1⟩:=N91 (n:=n) hp;have pb:p<1073741824:=by omega
 generalize hr:n%(p*p+p+1)=r at *;unfold Jm;by_cases z0:r=0
 .rw[Ar z0];simp[LN,Df.run,DL,pp,N0,hr,z0];rfl
 .rw[As z0];by_cases z1:r<=p
  .rw[Ar z1];simp[LN,Df.run,DL,pp,N0,hr,z0,z1];rfl
  .rw[As z1];simp[LN,Df.run,DL,pp,N0,hr,z0,z1,p0,pb];rfl
theorem UX{n:Ae}(hp:P4 n)(m:Ag):Jm n (m%((n:Ag)*n+n+1))∈(cells n).flatten:=by
 obtain⟨_,h0,h1⟩:=N91 (n:=m) hp;generalize m%((n:Ag)*n+n+1)=r at *;obtain⟨k,rfl⟩:=Vo h0;have key:∀ n:Ae,(n=3\/n=5\/n=7\/n=11)->∀ k,k<n*n+n+1->Jm n k∈(cells n).flatten:=by
  intro n hn;rcases hn with rfl|rfl|rfl|rfl<;>decide+kernel
 exact key n hp.n k (by omega)
theorem sJ{n:Ae}(hp:P4 n):Mg ((cells n).flatten.map λq=>C2 (l3 q))=Aa:=by
 rcases hp.n with rfl|rfl|rfl|rfl
 .decide+kernel
 .decide+kernel
 .decide+kernel
 .decide+kernel
theorem lB(h:l3 a=l3 b):a=b:=by
 obtain⟨a1,a2,a3⟩:=a;obtain⟨b1,b2,b3⟩:=b;simp[l3]at h;obtain⟨rfl,rfl,rfl⟩:=h;rfl
theorem QK:∀{hs:Ac Ag},Mg hs=Aa->hs.Nodup
 |[],_=>II
 |h::r,e=>by
  have e':(!r.contains h&&Mg r)=Aa:=e;rw[An]at e';refine DE.mpr ⟨λm=>?_,QK e'.2⟩
  have:=e'.1;rw[List.contains_iff_mem.mpr m]at this;cases this
theorem qT{n:Ae}(hp:P4 n)(ha:a∈(cells n).flatten)(hb:b∈(cells n).flatten)(h:C2 (l3 a)=C2 (l3 b)):a=b:=by
 have nd:=BF.mp (QK (sJ hp));obtain⟨i,hi,rfl⟩:=Cc ha;obtain⟨j,hj,rfl⟩:=Cc hb;rcases FW i j with z|z|z
 .have:=nd i j (by rw[AH];exact hi) (by rw[AH];exact hj) z
  rw[Fj,Fj]at this;exact absurd h this
 .subst z;rfl
 .have:=nd j i (by rw[AH];exact hj) (by rw[AH];exact hi) z
  rw[Fj,Fj]at this;exact absurd h.symm this
theorem T3:∀ P:Ac R3,Hl (rw3 P)=Ab (P.map l3)
 |[]=>rfl
 |a::P=>by
  have ih:=T3 P;show ((FI [D.int a.1,D.int a.2.1,D.int a.2.2]).bind λk=>(Hl (rw3 P)).map (k :: ·))=_
  rw[ih];rfl
theorem Rv(ks:Ac (Ac Ag)):(ddK ks).Nodup/\(∀ k,k∈ddK ks↔k∈ks)/\(ddK ks).length<=ks.length:=by
 have e:(ES (λj=>(ks.getD j [],0)) ks.length).map (·.1)=ddK ks:=by
  rw[Og]
  congr 1
  apply D4
  .simp
  .intro i h1 h2;simp[h2]
 rw[<-e];refine⟨Of _ _,λk=>⟨λh=>?_,λh=>?_⟩,by rw[AH];exact LO _ _⟩
 .obtain⟨p,hp,rfl⟩:=Bi.mp h;obtain⟨j,hj,rfl⟩:=J5 hp;show ks.getD j []∈ks;rw[A4,AA hj];exact CU _
 .obtain⟨j,hj,rfl⟩:=Cc h;have:=NY (kA:=λj=>(ks.getD j [],0)) hj
  have e2:ks.getD j []=ks[j]:=by rw[A4,AA hj];rfl
  rw[<-e2];exact this
theorem sS{n:Ae}(hp:P4 n)(hl:P.length<=200)(hP:∀ a∈P,a∈(cells n).flatten):biD .sset [.lst (rw3 P)]=.ok (.lst ((ET (ddK (P.map l3))).map tI)):=by
 show K9 (rw3 P)=_;unfold K9;rw[T3];have h1:(P.map l3).all (λk=>!k.isEmpty)=Aa:=by
  rw[FG];exact Br.mpr λ_ _=>rfl
 have h2:Fx (P.map l3).length 200=Aa:=V3.mpr (by rw[AH];exact hl)
 have h3:Ml (P.map l3)=Aa:=by
  unfold Ml;refine Br.mpr λr hr=>Br.mpr λq hq=>?_
  obtain⟨a,ha,rfl⟩:=Bi.mp hr;obtain⟨b,hb,rfl⟩:=Bi.mp hq;by_cases e:C2 (l3 a)=C2 (l3 b)
  .rw[qT hp (hP a ha) (hP b hb) e];simp
  .rw[BH e];rfl
 dsimp only;rw[h1,h2,h3,Ar (show (Aa&&Aa&&Aa)=Aa from rfl)]
 congr 2
 exact LX _
theorem QB(P:Ac R3):∀ as:Ac R3,DO (as.map (DR P)) as=as.filter λa=>decide (a∈P)
 |[]=>rfl
 |a::as=>by
  have ih:=QB P as;show DO (DR P a::as.map (DR P)) (a::as)=_;rw[DO,ih,CT];unfold DR;by_cases h:a∈P
  .simp[h]
  .simp[h]
theorem QC(P:Ac R3):∀ rs:Ac (Ac R3),GP (rs.map (Cp P)) rs=rs.flatten.filter λa=>decide (a∈P)
 |[]=>rfl
 |r::rs=>by
  have ih:=QC P rs;show GP (Cp P r::rs.map (Cp P)) (r::rs)=_;rw[GP,ih,VG,VF]
  congr 1
  exact QB P r
theorem RF(P:Ac R3):∀ rs:Ac (Ac R3),okA (rs.map (Cp P)) rs=Aa
 |[]=>rfl
 |r::rs=>by
  have ih:=RF P rs;show okA (Cp P r::rs.map (Cp P)) (r::rs)=Aa;rw[okA,ih,Hc];unfold L9 Cp;rw[An];refine⟨BJ (by simp),?_⟩
  refine Br.mpr λc hc=>?_
  obtain⟨a,_,rfl⟩:=Bi.mp hc;unfold DR okS;split<;>decide
theorem oA{n:Ae}(hp:P4 n)(P:Ac R3):Txs ((cells n).map (Cp P)):=λx hx=>by
 obtain⟨_,_,_,c4⟩:=Ka hp;obtain⟨r,hr,rfl⟩:=Bi.mp hx;refine⟨iC.mpr λc hc=>?_,?_⟩
 .have hc':c∈r.map (DR P):=hc;obtain⟨a,_,rfl⟩:=Bi.mp hc';unfold DR;split<;>decide
 .have:=c4 r hr;show ((r.map (DR P)).toArray).size<=900;simp;omega
theorem kN{n:Ae}(hp:P4 n)(P:Ac R3):good n ((cells n).map (Cp P))=Aa:=by
 obtain⟨_,_,c3,_⟩:=Ka hp;unfold good;rw[RF,Hc];exact BJ (by rw[AH,c3])
theorem Tl{n:Ae}(hp:P4 n)(hP:∀ a∈P,a∈(cells n).flatten):(ET (ddK (P.map l3))).map tI=rw3 (HX n ((cells n).map (Cp P))):=by
 obtain⟨c1,c2,_,_⟩:=Ka hp;have h:=R8 hp ((cells n).map (Cp P));rw[QC]at h;obtain⟨d1,d2,_⟩:=Rv (P.map l3);have er:∀ l:Ac R3,rw3 l=(l.map l3).map tI:=λl=>by
  unfold rw3;rw[Bc];exact BX λa _=>rfl
 rw[er]at h;have nd:((((cells n).flatten.filter λa=>decide (a∈P))).map l3).Nodup:=Dc.mpr ((c1.sublist List.filter_sublist).imp λh z=>h (lB z))
 have s:=Qp (rs:=(((cells n).flatten.filter λa=>decide (a∈P))).map l3) (ys:=ET (ddK (P.map l3))) (λr hr=>by
  obtain⟨a,_,rfl⟩:=Bi.mp hr;exact VA _ _) nd (by rw[AH];have:=List.length_filter_le (λa=>decide (a∈P)) (cells n).flatten;omega) (LY d1) λr=>by
  rw[(Jf _).mem_iff,d2];constructor
  .intro hr;obtain⟨a,ha,rfl⟩:=Bi.mp hr;exact Bi.mpr ⟨a,DD.mpr ⟨hP a ha,BJ ha⟩,rfl⟩
  .intro hr;obtain⟨a,ha,rfl⟩:=Bi.mp hr;exact Bi.mpr ⟨a,A9 (DD.mp ha).2,rfl⟩
 rw[s]at h
 injection h
theorem Tn:∀ P:Ac R3,eqD (.lst (rw3 P)) (.lst (rw3 P))=Aa
 |[]=>rfl
 |a::P=>by
  have ih:eqDs (rw3 P) (rw3 P)=Aa:=Tn P;show (eqD (B9 Aa a) (B9 Aa a)&&eqDs (rw3 P) (rw3 P))=Aa;rw[ih,Pf,BJ rfl];rfl
theorem Ru{α:Type}(f:α->Ak):∀ C:Ac α,eqDs (C.map λr=>D.str (f r)) (C.map λr=>D.str (f r))=Aa
 |[]=>rfl
 |a::C=>by
  have ih:=Ru f C;have e:eqD (D.str (f a)) (D.str (f a))=Aa:=by
   show (f a==f a)=Aa;exact CA _
  show (eqD (D.str (f a)) (D.str (f a))&&eqDs _ _)=Aa;rw[e];exact ih
theorem Tg{α:Type}:∀ l:Ac α,Fp (l.map λ_=>D.bl Aa)=.ok Aa
 |[]=>rfl
 |a::l=>by
  have ih:=Tg l;show Fp (D.bl Aa::l.map λ_=>D.bl Aa)=_
  simp[Fp,ih]
section
variable{Y:Gam}
theorem gJ{L:D}(z:BQ (Y_.length+1)=Aa):Hn Y [3,4] J6 (.tup [.str (sg 35),Q]) [sh X,sh L,Ab (.lst Y_,Aa),s3,s4]=.next [sh X,sh L,Ab (.lst (Y_++[Q]),Aa),sh (.str (sg 35)),sh Q]:=by
 have e1:(sg 35==hsh)=Aa:=Pr 35 35;generalize sg 35=S at *;simp[Hn,J6,O9,Ph,Gm,e1,Dj,z]
theorem kZ{L:D}:Hn Y [3,4] J6 (.tup [.str (sg 46),Q]) [sh X,sh L,Ab (.lst Y_,Aa),s3,s4]=.next [sh X,sh L,Ab (.lst Y_,Aa),sh (.str (sg 46)),sh Q]:=by
 have e1:(sg 46==hsh)=Af:=Pr 46 35;have e2:(sg 46==dot)=Aa:=Pr 46 46;generalize sg 46=S at *;simp[Hn,J6,O9,Ph,Gm,e1,e2,Dj]
theorem NO(X L:D):∀(cs:Ac Ae)(as acc:Ac R3)(s3 s4:Sl),cs.length=as.length->acc.length+as.length<=900->cs.all okS=Aa->∃ s3' s4',Dk (Hn Y [3,4] J6) (Ep (cs.map λc=>D.str (sg c)) (rw3 as)) [sh X,sh L,Ab (.lst (rw3 acc),Aa),s3,s4]=.next [sh X,sh L,Ab (.lst (rw3 (acc++DO cs as)),Aa),s3',s4']
 |[],[],acc,s3,s4,_,_,_=>⟨s3,s4,by simp[DO,rw3,Ep,Dk]⟩
 |[],_::_,_,_,_,h,_,_=>by cases h
 |_::_,[],_,_,_,h,_,_=>by cases h
 |c::cs,a::as,acc,s3,s4,hl,hz,ok=>by
  rw[A7,A7]at hl;rw[A7]at hz;have hl:cs.length=as.length:=by omega
  obtain⟨o1,o2⟩:=(An _ _).mp (show (okS c&&cs.all okS)=Aa from ok)
  have z:BQ ((rw3 acc).length+1)=Aa:=HZ (by rw[rw3,AH];omega)
  have hz':Ep ((c::cs).map λc=>D.str (sg c)) (rw3 (a::as))=.tup [.str (sg c),B9 Aa a]::Ep (cs.map λc=>D.str (sg c)) (rw3 as):=rfl
  have hd:∀(b:D->Rho->O)(x:D)(xs:Ac D)(U:Rho),Dk b (x::xs) U=(b x U).turn (Dk b xs):=λ_ _ _ _=>rfl
  rw[hz',hd];have ha:rw3 acc++[B9 Aa a]=rw3 (acc++[a]):=by simp[rw3]
  by_cases c1:c=35
  .subst c1;rw[gJ z,ha];have es:acc++DO (35::cs) (a::as)=acc++[a]++DO cs as:=by rw[DO,Ar rfl];simp
   rw[es];exact NO X L cs as (acc++[a]) _ _ hl (by rw[Bp];simp;omega) o2
  .have c2:c=46:=by
    unfold okS at o1;simpa [c1] using o1
   subst c2;rw[kZ];have es:acc++DO (46::cs) (a::as)=acc++DO cs as:=by rw[DO,As c1]
   rw[es];exact NO X L cs as acc _ _ hl (by omega) o2
theorem dA{X:Ac D}{S:Ac D}(ll:biD .len [.lst X]=.ok (.int l))(ls:biD .len [.str x]=.ok (.int l))(az:asZ (.str x)=.ok S)(asq:asZ (.lst X)=.ok X)(lo:Dk (Hn Y [3,4] J6) (Ep S X) [sh (.str x),sh (.lst X),Ab (.lst [],Aa),Ad,Ad]=.next [sh (.str x),sh (.lst X),Ab (.lst Z_,Aa),s3,s4]):MA.run Y [.str x,.lst X]=.ok (.lst Z_):=by
 simp[MA,Df.run,DL,ll,ls,az,asq,lo,LP,DT]
def OU(Y:Gam):Prop:=∀(x:Ak)(as:Ac R3),asc x=Aa->x.length<=900->as.length<=900->L9 x as=Aa->Y.F 312 [.str x,.lst (rw3 as)]=.ok (.lst (rw3 (DO x.cps.toList as)))
theorem dD(x:Ak)(as:Ac R3)(ha:asc x=Aa)(h1:x.length<=900)(h2:as.length<=900)(ok:L9 x as=Aa):MA.run Y [.str x,.lst (rw3 as)]=.ok (.lst (rw3 (DO x.cps.toList as))):=by
 obtain⟨o1,o2⟩:=(An _ _).mp ok;have hl:x.cps.size=as.length:=A9 o1;have ll:biD .len [.lst (rw3 as)]=.ok (.int as.length):=by rw[qO,rw3,AH]
 have ls:biD .len [.str x]=.ok (.int as.length):=by
  show (if BQ x.length=Aa then R.ok (D.int x.length) else .bad)=_
  rw[Ar (HZ (by omega))]
  show R.ok (D.int (x.cps.size:Ae))=_;rw[hl]
 have az:asZ (.str x)=.ok (x.cps.toList.map λc=>D.str (sg c)):=by
  show (if x.cps.all (· < 128)=Aa then R.ok (JK x) else .bad)=_
  rw[Ar (show x.cps.all (· < 128)=Aa from ha)]
  rfl
 obtain⟨s3,s4,lo⟩:=NO (Y:=Y) (.str x) (.lst (rw3 as)) x.cps.toList as [] Ad Ad (by simpa using hl) (by simp;omega) o2
 exact dA ll ls az rfl lo
theorem Qy(hr:OU Y)(fr:Y.fr 312=Aa)(P X R0:D):∀(xs:Ac Ak)(rs:Ac (Ac R3))(acc:Ac R3)(s4 s5:Sl),Txs xs->(∀ r∈rs,r.length<=20)->acc.length+20*rs.length<=900->okA xs rs=Aa->∃ s4' s5',Dk (Hn Y [4,5] LK) (Ep (xs.map D.str) (rws rs)) [sh P,sh X,sh R0,Ab (.lst (rw3 acc),Aa),s4,s5]=.next [sh P,sh X,sh R0,Ab (.lst (rw3 (acc++GP xs rs)),Aa),s4',s5']
 |[],rs,acc,s4,s5,_,_,_,_=>by
  have e2:GP [] rs=[]:=by cases rs<;>rfl
  have e3:Ep (([]:Ac Ak).map D.str) (rws rs)=[]:=by cases rs<;>rfl
  rw[e2,e3,Bw];exact⟨s4,s5,rfl⟩
 |x::xs,[],acc,s4,s5,_,_,_,_=>by
  have e2:GP (x::xs) []=[]:=rfl;rw[e2,Bw];exact⟨s4,s5,rfl⟩
 |x::xs,r::rs,acc,s4,s5,hx,hl,hz,ok=>by
  obtain⟨h1,h2⟩:=hx x (by simp)
  have l1:=hl r (by simp)
  rw[A7]at hz;obtain⟨o1,o2⟩:=(An _ _).mp (show (L9 x r&&okA xs rs)=Aa from ok)
  have e:=hr x r h1 h2 (by omega) o1
  have sl:=Sh x.cps.toList r;have hz':Ep ((x::xs).map D.str) (rws (r::rs))=.tup [.str x,.lst (rw3 r)]::Ep (xs.map D.str) (rws rs):=rfl;have hd:∀(b:D->Rho->O)(x:D)(xs:Ac D)(U:Rho),Dk b (x::xs) U=(b x U).turn (Dk b xs):=λ_ _ _ _=>rfl
  rw[hz',hd];have z:BQ ((rw3 acc).length+(rw3 (DO x.cps.toList r)).length)=Aa:=HZ (by rw[rw3,rw3,AH,AH];omega)
  have step:Hn Y [4,5] LK (.tup [.str x,.lst (rw3 r)]) [sh P,sh X,sh R0,Ab (.lst (rw3 acc),Aa),s4,s5]=.next [sh P,sh X,sh R0,Ab (.lst (rw3 acc++rw3 (DO x.cps.toList r)),Aa),sh (.str x),sh (.lst (rw3 r))]:=by
   generalize rw3 (DO x.cps.toList r)=Q at *;generalize rw3 acc=Y_ at *;generalize rw3 r=Z_ at *;simp[Hn,LK,Gm,e,Dj,z,DT,fr,JN]
  rw[step];have ea:rw3 acc++rw3 (DO x.cps.toList r)=rw3 (acc++DO x.cps.toList r):=by simp[rw3]
  have es:acc++GP (x::xs) (r::rs)=acc++DO x.cps.toList r++GP xs rs:=by rw[GP,Cs]
  rw[ea,es];exact Qy hr fr P X R0 xs rs (acc++DO x.cps.toList r) _ _ (λy hy=>hx y (by simp[hy])) (λy hy=>hl y (by simp[hy])) (by rw[Bp];omega) o2
def Ry(Y:Gam):Prop:=∀(n:Ae)(xs:Ac Ak),P4 n->Txs xs->good n xs=Aa->Y.F 313 [.int n,.lst (xs.map D.str)]=.ok (.lst (rw3 (HX n xs)))
theorem Z_7(h9:PV Y)(hr:OU Y)(fr:Y.fr 312=Aa)(n:Ae)(xs:Ac Ak)(hp:P4 n)(ht:Txs xs)(g:good n xs=Aa):MV.run Y [.int n,.lst (xs.map D.str)]=.ok (.lst (rw3 (HX n xs))):=by
 obtain⟨c1,c2,c3,c4⟩:=Ka hp;obtain⟨g1,g2⟩:=(An _ _).mp g;have hl:xs.length=n+1:=A9 g1;have rl:(rws (cells n)).length=n+1:=by unfold rws;rw[AH,c3]
 have hl':(xs.map D.str).length=(rws (cells n)).length:=by rw[AH,rl,hl]
 have n11:n<=11:=by rcases hp.n with rfl|rfl|rfl|rfl<;>decide
 obtain⟨s4,s5,lo⟩:=Qy hr fr (.int n) (.lst (xs.map D.str)) (.lst (rws (cells n))) xs (cells n) [] Ad Ad ht c4 (by rw[c3];simp;omega) g2
 rw[VV]at lo;exact eO (h9 n hp) hl' lo (R8 hp xs) (TV _)
end
noncomputable def J3:E:=(.call 40 (.cons (.bin .FloorDiv (.call 3 (.cons (.var 0) (.cons (.var 8) .nil))) (.int 3)) (.cons (.var 1) .nil)))
noncomputable def KC:E:=(.call 40 (.cons (.var 9) (.cons (.var 1) .nil)))
noncomputable def KB:E:=(.isi (.var 10) [.str])
noncomputable def MC:Ss:=(.cons (.asg 6 Aa (.call 311 (.cons (.var 1) (.cons (.var 3) .nil)))) (.cons (.lnd (.or (.cons (.no (.isi (.var 6) [.list])) (.cons (.no (.bi .all (.cons (.comp KB 10 (.e (.var 6)) Cy) .nil))) .nil))) (.cons (.ret (.bl Af)) .nil) .nil) (.cons (.ife (.or (.cons (.cmp .NotEq (.var 6) (.var 4)) (.cons (.cmp .NotEq (.var 3) (.var 2)) .nil))) (.cons (.ret (.bl Af)) .nil) .nil) (.cons (.asg 7 Aa (.call 313 (.cons (.var 1) (.cons (.var 6) .nil)))) (.cons (.ife (.or (.cons (.no (.call 316 (.cons (.var 7) (.cons (.bi .sset (.cons (.var 2) .nil)) .nil)))) (.cons (.cmp .NotEq (.var 6) (.var 4)) .nil))) (.cons (.ret (.bl Af)) .nil) .nil) (.cons (.app 6 (.str (AX ""))) (.cons (.app 7 (.int 0)) .nil)))))))
noncomputable def HM:Df:=⟨11,Af,(.cons (.asg 1 Af (.call 4 (.cons (.var 0) (.cons (.int 70) .nil)))) (.cons (.asg 2 Af (.comp J3 8 (.rng (.bi .min (.cons (.int 60) (.cons (.bi .len (.cons (.var 0) .nil)) .nil)))) Cy)) (.cons (.ife (.cmp .Eq (.bin .Mod (.call 3 (.cons (.var 0) (.cons (.int 71) .nil))) (.int 8)) (.int 1)) (.cons (.asg 2 Af (.comp KC 9 (.rrv (.bin .Add (.bin .Add (.bin .Mult (.var 1) (.var 1)) (.var 1)) (.int 1))) Cy)) .nil) .nil) (.cons (.asg 3 Af (.bi .list (.cons (.var 2) .nil))) (.cons (.asg 4 Af (.call 314 (.cons (.var 2) (.cons (.var 1) .nil)))) (.cons (.fors 5 (.rng (.int 2)) MC) (.cons (.ret (.bl Aa)) .nil)))))))⟩
structure H91 (Y:Gam):Prop where
 mi:OW Y
 pr:Th Y
 tr:∀(p n:Ag),P4 p->Y.F 40 [.int n,.int p]=.ok (B9 Aa (Jm p (n%(p*p+p+1))))
 dr:TD Y
 pa:TC Y
 se:Ry Y
 st:Tx Y
 f1:Y.fr 311=Aa
 f2:Y.fr 313=Aa
section
variable{Y:Gam}{ns:Ac Ag}
theorem sE{S H:D}{X:Ac D}{s6 s7:Sl}(f1:Y.fr 311=Aa)(f2:Y.fr 313=Aa)(e1:Y.F 311 [.int p,H]=.ok (.lst Y_))(c0:Hs Aa (.lst Y_)=Aa)(ce:∀ u:Sl,BK (cG Y [sh S,si p,sh H,sh H,sh (.lst Y_),si y,sh (.lst Y_),u,Ad,Ad,Ad] 10 Cy) (cF Y [sh S,si p,sh H,sh H,sh (.lst Y_),si y,sh (.lst Y_),u,Ad,Ad,Ad] 10 KB) Y_=.ok Z_)(al:biD .all [.lst Z_]=.ok (.bl Aa))(q1:∀ x,x∈Y_->flD 4 x=Aa)(q2:eqDs Y_ Y_=Aa)(q3:flD 5 H=Aa)(q4:eqD H H=Aa)(e2:Y.F 313 [.int p,.lst Y_]=.ok (.lst X))(c1:Hs Aa (.lst X)=Aa)(ss:biD .sset [H]=.ok (.lst X))(e3:Y.F 316 [.lst X,.lst X]=.ok (.bl Aa))(z1:BQ (Y_.length+1)=Aa)(z2:BQ (X.length+1)=Aa):∃ s6' s7',DV Y 5 MC (.int y) [sh S,si p,sh H,sh H,sh (.lst Y_),s5,s6,s7,Ad,Ad,Ad]=.next [sh S,si p,sh H,sh H,sh (.lst Y_),si y,s6',s7',Ad,Ad,Ad]:=by
 generalize hT:AX "" = T at *;refine⟨Ab (.lst (Y_++[.str T]),Aa),Ab (.lst (X++[.int 0]),Aa),?_⟩;have k0:kiD Y.up .list (.lst Y_)=Aa:=rfl;have k1:Hs (Y.fr 316) (.bl Aa)=Aa:=rfl;simp[DV,MC,e1,f1,f2,DT,shA,shS,ce,al,q2,q3,q4,e2,c0,c1,ss,e3,Dj,z1,z2,hT,k0,k1];rw[Ar q1,Ar q1]
theorem qL{S:D}(ln:biD .len [S]=.ok (.int l)):evE Y [sh S,si N,Ad,Ad,Ad,Ad,Ad,Ad,Ad,Ad,Ad] (.bi .min (.cons (.int 60) (.cons (.bi .len (.cons (.var 0) .nil)) .nil)))=.ok (.int (if l<60 then l else 60)):=by
 simp[ln]
theorem sL{S:D}{m q:Ag}{R1 R2 X1 X2:Ac D}(ep:Y.F 4 [S,.int 70]=.ok (.int N))(em:Y.F 3 [S,.int 71]=.ok (.int m))(eq:evE Y [sh S,si N,Ad,Ad,Ad,Ad,Ad,Ad,Ad,Ad,Ad] (.bi .min (.cons (.int 60) (.cons (.bi .len (.cons (.var 0) .nil)) .nil)))=.ok (.int q))(rg:DM 0 q=.ok R1)(c1:BK (cG Y [sh S,si N,Ad,Ad,Ad,Ad,Ad,Ad,Ad,Ad,Ad] 8 Cy) (cF Y [sh S,si N,Ad,Ad,Ad,Ad,Ad,Ad,Ad,Ad,Ad] 8 J3) R1=.ok X1)(hc:m%8=1)(pp:FC N N=Aa)(rv:Ia (N*N+N+1)=.ok R2)(c2:∀ X:Sl,BK (cG Y [sh S,si N,X,Ad,Ad,Ad,Ad,Ad,Ad,Ad,Ad] 9 Cy) (cF Y [sh S,si N,X,Ad,Ad,Ad,Ad,Ad,Ad,Ad,Ad] 9 KC) R2=.ok X2):evSs Y [sh S,Ad,Ad,Ad,Ad,Ad,Ad,Ad,Ad,Ad,Ad] (HM.body.take 3)=.next [sh S,si N,sh (.lst X2),Ad,Ad,Ad,Ad,Ad,Ad,Ad,Ad]:=by
 have tp:∀(U:Rho)(r:R D),top U (E.bi .min (.cons (.int 60) (.cons (.bi .len (.cons (.var 0) .nil)) .nil))) r=r:=λ_ _=>rfl
 generalize hE:E.bi .min (.cons (.int 60) (.cons (.bi .len (.cons (.var 0) .nil)) .nil))=EE at *;simp[HM,Ss.take,ep,em,hE,eq,tp,rg,c1,hc,pp,rv,c2]
theorem sK{S:D}{m q:Ag}{R1 X1:Ac D}(ep:Y.F 4 [S,.int 70]=.ok (.int N))(em:Y.F 3 [S,.int 71]=.ok (.int m))(eq:evE Y [sh S,si N,Ad,Ad,Ad,Ad,Ad,Ad,Ad,Ad,Ad] (.bi .min (.cons (.int 60) (.cons (.bi .len (.cons (.var 0) .nil)) .nil)))=.ok (.int q))(rg:DM 0 q=.ok R1)(c1:BK (cG Y [sh S,si N,Ad,Ad,Ad,Ad,Ad,Ad,Ad,Ad,Ad] 8 Cy) (cF Y [sh S,si N,Ad,Ad,Ad,Ad,Ad,Ad,Ad,Ad,Ad] 8 J3) R1=.ok X1)(hc:¬ m%8=1):evSs Y [sh S,Ad,Ad,Ad,Ad,Ad,Ad,Ad,Ad,Ad,Ad] (HM.body.take 3)=.next [sh S,si N,sh (.lst X1),Ad,Ad,Ad,Ad,Ad,Ad,Ad,Ad]:=by
 have tp:∀(U:Rho)(r:R D),top U (E.bi .min (.cons (.int 60) (.cons (.bi .len (.cons (.var 0) .nil)) .nil))) r=r:=λ_ _=>rfl
 generalize hE:E.bi .min (.cons (.int 60) (.cons (.bi .len (.cons (.var 0) .nil)) .nil))=EE at *;simp[HM,Ss.take,ep,em,hE,eq,tp,rg,c1,hc]
theorem rX{S:D}{v K:Ag}{Y_:D}(e1:Y.F 3 [S,.int K]=.ok (.int v))(e2:Y.F 40 [.int (v/3),.int N]=.ok Y_):cF Y [sh S,si N,Ad,Ad,Ad,Ad,Ad,Ad,Ad,Ad,Ad] 8 J3 (.int K)=.ok Y_:=by
 simp[cF,J3,e1,e2]
theorem rW{S Y_:D}{K:Ag}{X:Sl}(e2:Y.F 40 [.int K,.int N]=.ok Y_):cF Y [sh S,si N,X,Ad,Ad,Ad,Ad,Ad,Ad,Ad,Ad] 9 KC (.int K)=.ok Y_:=by
 simp[cF,KC,e2]
theorem sA(h:H91 Y){n:Ae}(hp:P4 n)(q:Ae)(hq:q<=60):∃ P1:Ac R3,P1.length<=200/\(∀ a∈P1,a∈(cells n).flatten)/\BK (cG Y [sh (scr ns),si n,Ad,Ad,Ad,Ad,Ad,Ad,Ad,Ad,Ad] 8 Cy) (cF Y [sh (scr ns),si n,Ad,Ad,Ad,Ad,Ad,Ad,Ad,Ad,Ad] 8 J3) (EU 0 q)=.ok (rw3 P1):=by
  refine⟨(AB q).map fun(k:Ae)=>Jm n (Kn ns (0+(k:Ag))/3%((n:Ag)*n+n+1)),by rw[AH,DP];omega,λa ha=>by
      obtain⟨k,_,rfl⟩:=Bi.mp ha;exact UX hp _,?_⟩
  have:=JJ (g:=cG Y [sh (scr ns),si n,Ad,Ad,Ad,Ad,Ad,Ad,Ad,Ad,Ad] 8 Cy) (f:=cF Y [sh (scr ns),si n,Ad,Ad,Ad,Ad,Ad,Ad,Ad,Ad,Ad] 8 J3) (d:=fun(k:Ae)=>D.int (0+(k:Ag))) (c:=λk=>B9 Aa (Jm n (Kn ns (0+(k:Ag))/3%((n:Ag)*n+n+1)))) (AB q) λk _=>⟨rfl,rX (h.mi ns _) (h.tr n _ hp)⟩
  unfold EU;rw[this];unfold rw3;rw[Bc];rfl
theorem rZ(h:H91 Y){n:Ae}(hp:P4 n){S:D}(M:Ae)(hM:M<=133):∃ P2:Ac R3,P2.length<=200/\(∀ a∈P2,a∈(cells n).flatten)/\∀ X:Sl,BK (cG Y [sh S,si n,X,Ad,Ad,Ad,Ad,Ad,Ad,Ad,Ad] 9 Cy) (cF Y [sh S,si n,X,Ad,Ad,Ad,Ad,Ad,Ad,Ad,Ad] 9 KC) (Ff ((M:Ag)-1) M)=.ok (rw3 P2):=by
  refine⟨(AB M).map fun(k:Ae)=>Jm n (((M:Ag)-1-(k:Ag))%((n:Ag)*n+n+1)),by rw[AH,DP];omega,λa ha=>by
      obtain⟨k,_,rfl⟩:=Bi.mp ha;exact UX hp _,λX=>?_⟩
  have:=JJ (g:=cG Y [sh S,si n,X,Ad,Ad,Ad,Ad,Ad,Ad,Ad,Ad] 9 Cy) (f:=cF Y [sh S,si n,X,Ad,Ad,Ad,Ad,Ad,Ad,Ad,Ad] 9 KC) (d:=fun(k:Ae)=>D.int ((M:Ag)-1-(k:Ag))) (c:=λk=>B9 Aa (Jm n (((M:Ag)-1-(k:Ag))%((n:Ag)*n+n+1)))) (AB M) λk _=>⟨rfl,rW (h.tr n _ hp)⟩
  unfold Ff;rw[this];unfold rw3;rw[Bc];rfl
theorem qA{n:Ae}(hp:P4 n):∃ M:Ae,M<=133/\Ia ((n:Ag)*n+n+1)=.ok (Ff ((M:Ag)-1) M):=by
 refine⟨n*n+n+1,?_,?_⟩
 .rcases hp.n with rfl|rfl|rfl|rfl<;>decide
 .rcases hp.n with rfl|rfl|rfl|rfl<;>rfl
theorem rA(h:H91 Y){n:Ae}(hp:P4 n)(ep:Y.F 4 [scr ns,.int 70]=.ok (.int n)):∃ P:Ac R3,P.length<=200/\(∀ a∈P,a∈(cells n).flatten)/\evSs Y [sh (scr ns),Ad,Ad,Ad,Ad,Ad,Ad,Ad,Ad,Ad,Ad] (HM.body.take 3)=.next [sh (scr ns),si n,sh (.lst (rw3 P)),Ad,Ad,Ad,Ad,Ad,Ad,Ad,Ad]:=by
 have em:=h.mi ns 71;generalize Kn ns 71=m at *;have ln:biD .len [scr ns]=.ok (.int ns.length):=by simp[scr]
 have eq:=qL (Y:=Y) (N:=n) ln;have q0:0<=(if (ns.length:Ag)<60 then (ns.length:Ag) else 60):=by split<;>omega
 have q1:(if (ns.length:Ag)<60 then (ns.length:Ag) else 60)<=60:=by split<;>omega
 generalize (if (ns.length:Ag)<60 then (ns.length:Ag) else 60)=q at *
 have rg:DM 0 q=.ok (EU 0 q.toNat):=Om q0 (by omega)
 have n11:n<=11:=by rcases hp.n with rfl|rfl|rfl|rfl<;>decide
 have pp:FC (n:Ag) n=Aa:=L0 (by omega) (by omega)
 obtain⟨P1,l1,m1,c1⟩:=sA (ns:=ns) h hp q.toNat (by omega)
 obtain⟨M,hM,rv⟩:=qA hp;obtain⟨P2,l2,m2,c2⟩:=rZ h hp (S:=scr ns) M hM;by_cases hc:m%8=1
 .exact⟨P2,l2,m2,sL ep em eq rg c1 hc pp rv c2⟩
 .exact⟨P1,l1,m1,sK ep em eq rg c1 hc⟩
theorem jM{S H:D}{s6 s7:Sl}(li:biD .list [H]=.ok H)(e4:Y.F 314 [H,.int N]=.ok (.lst Y_))(lo:Dk (DV Y 5 MC) [.int 0,.int 1] [sh S,si N,sh H,sh H,sh (.lst Y_),Ad,Ad,Ad,Ad,Ad,Ad]=.next [sh S,si N,sh H,sh H,sh (.lst Y_),s5,s6,s7,Ad,Ad,Ad]):(evSs Y [sh S,si N,sh H,Ad,Ad,Ad,Ad,Ad,Ad,Ad,Ad] (HM.body.drop 3)).ans Af=.ok (.bl Aa):=by
 have rg:DM 0 2=.ok [.int 0,.int 1]:=rfl;simp[HM,Ss.drop,li,e4,rg,lo]
theorem nN(h:H91 Y):HM.run Y [scr ns]=.ok (.bl Aa):=by
 obtain⟨p,hp,ep⟩:∃ p,P4 p/\Y.F 4 [scr ns,.int 70]=.ok (.int p):=⟨_,ZJ ns 70,h.pr ns 70⟩;obtain⟨n,rfl⟩:=Vo (show 0<=p from by have:=hp.pos;omega)
 obtain⟨P,pl,pm,e1⟩:=rA (ns:=ns) h hp ep;obtain⟨_,c2,c3,_⟩:=Ka hp;have n11:n<=11:=by rcases hp.n with rfl|rfl|rfl|rfl<;>decide
 have e0:HM.run Y [scr ns]=(evSs Y [sh (scr ns),Ad,Ad,Ad,Ad,Ad,Ad,Ad,Ad,Ad,Ad] HM.body).ans Af:=rfl;rw[e0,RX Y 3,e1,fP];have li:biD .list [.lst (rw3 P)]=.ok (.lst (rw3 P)):=rfl;have e4:=h.pa n P hp;have e5:=h.dr n P hp;have e6:=h.se n ((cells n).map (Cp P)) hp (oA hp P) (kN hp P);rw[Bc]at e6;have ss:=sS hp pl pm;rw[Tl hp pm]at ss;have st:=h.st (HX n ((cells n).map (Cp P)));have e6':Y.F 313 [.int n,.lst ((cells n).map λr=>D.str (Cp P r))]=.ok (.lst (rw3 (HX n ((cells n).map (Cp P))))):=e6
 have lX:(rw3 (HX n ((cells n).map (Cp P)))).length<=200:=by
  rw[<-Tl hp pm,AH,(Jf _).length_eq];have:=(Rv (P.map l3)).2.2;rw[AH]at this;omega
 have cX:Hs Aa (.lst (rw3 (HX n ((cells n).map (Cp P)))))=Aa:=by
  show (Aa&&(rw3 (HX n ((cells n).map (Cp P)))).all (nlD 5))=Aa;rw[TV];rfl
 have sH:=T9 P;have qH:=Tn P;generalize rw3 (HX n ((cells n).map (Cp P)))=X at *;have yl:((cells n).map λr=>D.str (Cp P r)).length=n+1:=by rw[AH,c3]
 have yf:∀ x,x∈((cells n).map λr=>D.str (Cp P r))->flD 4 x=Aa/\nlD 5 x=Aa/\∃ t,x=.str t:=λx hx=>by
  obtain⟨r,_,rfl⟩:=Bi.mp hx;exact⟨rfl,rfl,_,rfl⟩
 have yq:=Ru (Cp P) (cells n);generalize ((cells n).map λr=>D.str (Cp P r))=Y_ at *
 have cY:Hs Aa (.lst Y_)=Aa:=by
  show (Aa&&Y_.all (nlD 5))=Aa;rw[Bool.true_and];exact Br.mpr λx hx=>(yf x hx).2.1
 generalize D.lst (rw3 P)=H at *;have ce:∀(y:Ag)(u:Sl),BK (cG Y [sh (scr ns),si n,sh H,sh H,sh (.lst Y_),si y,sh (.lst Y_),u,Ad,Ad,Ad] 10 Cy) (cF Y [sh (scr ns),si n,sh H,sh H,sh (.lst Y_),si y,sh (.lst Y_),u,Ad,Ad,Ad] 10 KB) Y_=.ok (Y_.map λ_=>D.bl Aa):=λy u=>by
  have:=JJ (g:=cG Y [sh (scr ns),si n,sh H,sh H,sh (.lst Y_),si y,sh (.lst Y_),u,Ad,Ad,Ad] 10 Cy) (f:=cF Y [sh (scr ns),si n,sh H,sh H,sh (.lst Y_),si y,sh (.lst Y_),u,Ad,Ad,Ad] 10 KB) (d:=id) (c:=λ_=>D.bl Aa) Y_ λx hx=>⟨rfl,by
   obtain⟨_,_,t,rfl⟩:=yf x hx;generalize scr ns=S;generalize (n:Ag)=N;show cF Y _ 10 KB (.str t)=_;simp[cF,KB,kiD]⟩
  rw[VS]at this;exact this
 have al:biD .all [.lst (Y_.map λ_=>D.bl Aa)]=.ok (.bl Aa):=by
  show (Fp (Y_.map λ_=>D.bl Aa)).bind _=_
  rw[Tg];rfl
 have z1:BQ (Y_.length+1)=Aa:=HZ (by omega)
 have z2:BQ (X.length+1)=Aa:=HZ (by omega)
 have rd:=fun(y:Ag)(s5 s6 s7:Sl)=>sE (Y:=Y) (S:=scr ns) (s5:=s5) (s6:=s6) (s7:=s7) h.f1 h.f2 e5 cY (ce y) al (λx hx=>(yf x hx).1) yq sH qH e6' cX ss st z1 z2
 obtain⟨a6,a7,r1⟩:=rd 0 Ad Ad Ad;obtain⟨b6,b7,r2⟩:=rd 1 (si 0) a6 a7;refine jM (s5:=si 1) (s6:=b6) (s7:=b7) li e4 ?_;simp[Dk,r1,r2]
end
noncomputable def tG:Ae->Ac Ae:=λ_=>[]
noncomputable def tF:Ae->Ac D->R Ex:=λ_ _=>.bad
noncomputable def Q91:Prg:=⟨Aa,fun
 |1=>Pi
 |9=>Ms
 |17=>MB
 |309=>Mw
 |310=>MD
 |311=>MP
 |312=>MA
 |313=>MV
 |2=>NI
 |3=>N4
 |4=>N3
 |40=>LN
 |44=>LM
 |45=>Oy
 |316=>Ox
 |314=>Mt
 |315=>HM
 | _=>⟨0,Af,.nil⟩,λ_=>.non,tG,tF⟩
theorem qP(ns:Ac Ag):(gam Q91 8).F 315 [scr ns]=.ok (.bl Aa):=by
 have rs:∀ n,MW (gam Q91 (n+1)):=λn p m hp=>iK (gam Q91 n) p m hp
 have tu:∀ n,Oh (gam Q91 (n+2)):=λn p m hp z=>Zx (rs n) p m hp z
 have fo:∀ n,OX (gam Q91 (n+3)):=λn p b xs l t hp e it=>dG (rs (n+1)) (tu n) hp e it
 have pc:∀ n,PV (gam Q91 (n+4)):=λn k hp=>qU (fo n) k hp
 have rw':∀ n,OU (gam Q91 (n+1)):=λn x as a b c d=>dD (Y:=gam Q91 n) x as a b c d
 have se:∀ n,Ry (gam Q91 (n+5)):=λn k xs hp ht g=>Z_7 (pc n) (rw' (n+3)) rfl k xs hp ht g
 have rd:∀ n,TB (gam Q91 (n+1)):=λn P as hl=>iL (Y:=gam Q91 n) P as hl
 have dr:∀ n,TD (gam Q91 (n+5)):=λn k P hp=>iN (pc n) (rd (n+3)) k P hp
 have ce:∀ n,TF (gam Q91 (n+1)):=λn ns k=>iO (gam Q91 n) ns k
 have mi:∀ n,OW (gam Q91 (n+2)):=λn ns k=>dF (ce n) ns k
 have pr:∀ n,Th (gam Q91 (n+3)):=λn ns k=>dE (mi n) ns k
 have lf:∀ n,M9 (gam Q91 (n+1)):=λn p xs l t hp e it=>(ZF (gam Q91 n) hp).2 l t e it
 have pa:∀ n,TC (gam Q91 (n+2)):=λn k P hp=>iM (lf n) k P hp
 have sm:∀ n,Tz (gam Q91 (n+1)):=λn q=>iJ (Y:=gam Q91 n) q
 have st:∀ n,Tx (gam Q91 (n+2)):=λn l=>iI (sm n) l
 exact nN (Y:=gam Q91 7) ⟨mi 5,pr 4,λp n hp=>iH (gam Q91 6) p n hp,dr 2,pa 5,se 2,st 5,rfl,rfl⟩
end OvC
namespace OvC
open PySem PySem.Spec PyProof.Rows Ov L2
variable{l:F7}
noncomputable def tp91(i:Ae):Bm:=PySem.Challenge.pw_ovalfield_k91_drawn_and_seen.main.body.getD i (.Pass ⟨0,0,0,0⟩)
noncomputable def UI:Ac (Ak×Ae×Ae):=([("rest",1,2),("turned_over",9,2),("one_form",17,2),("picture_rows",309,1),("row_drawn",310,2),("drawn",311,2),("row_seen",312,2),("seen",313,2),("_law_cell_at",2,2),("_law_mixed",3,2),("_law_prime",4,2),("_law_triple",40,2),("_law_form",44,2),("_law_same_tuple",45,2),("_law_same_triples",316,2),("_law_painted",314,2),("law",315,1)]:Ac (Ak×Ae×Ae))
noncomputable def U_9:Ac Ak:=["all", "bool", "int", "isinstance", "len", "list", "min", "range", "reversed", "set", "sorted", "str", "tuple", "zip"]
noncomputable def Uh:Ac (Ak×Ae):=[]
noncomputable def UK:Ac (Ak×Ae):=[]
noncomputable def UD:Ac (Ak×Ae):=[]
noncomputable abbrev C91(h:Aj)(n:Ae)(N:Ac Ak)(i d:Ae):Aj:=Jo 80 h UI U_9 Uh UK UD (N.take n) N (tp91 i) (Q91.defs d)
theorem mX:C91 Af 2 ["p", "n"] 6 1=Aa:=by decide+kernel
theorem mW:C91 Af 2 ["p", "n", "turned"] 7 9=Aa:=by decide+kernel
theorem mV:C91 Af 2 ["p", "numbers", "rests", "first", "factor", "#5", "#6"] 9 17=Aa:=by decide+kernel
theorem mU:C91 Af 1 ["p", "rows", "y", "#3", "#4"] 11 309=Aa:=by decide+kernel
theorem mS:C91 Af 2 ["points", "row", "#2"] 12 310=Aa:=by decide+kernel
theorem mR:C91 Af 2 ["p", "points", "#2"] 13 311=Aa:=by decide+kernel
theorem mQ:C91 Af 2 ["text", "row", "told", "sign", "point"] 14 312=Aa:=by decide+kernel
theorem mP:C91 Af 2 ["p", "texts", "rows", "told", "text", "row"] 15 313=Aa:=by decide+kernel
theorem mO:C91 Af 2 ["_law_script", "_law_k"] 17 2=Aa:=by decide+kernel
theorem mM:C91 Af 2 ["_law_script", "_law_k"] 18 3=Aa:=by decide+kernel
theorem hG:C91 Af 2 ["_law_script", "_law_k"] 19 4=Aa:=by decide+kernel
theorem gZ:C91 Af 2 ["_law_n", "_law_p"] 20 40=Aa:=by decide+kernel
theorem gY:C91 Af 2 ["_law_numbers", "_law_p", "_law_rests", "_law_lead", "_law_over", "#5", "#6", "#7", "#8"] 21 44=Aa:=by decide+kernel
theorem gX:C91 Af 2 ["_law_found", "_law_due", "#2"] 22 45=Aa:=by decide+kernel
theorem gW:C91 Af 2 ["_law_found", "_law_due", "#2"] 23 316=Aa:=by decide+kernel
theorem gU:C91 Af 2 ["_law_points", "_law_p", "_law_rows", "_law_y", "_law_last", "#5", "#6"] 24 314=Aa:=by decide+kernel
theorem Td:C91 Af 1 ["_law_script", "_law_p", "_law_points", "_law_handed", "_law_due", "_law_turn", "_law_found", "_law_told", "#8", "#9", "#10"] 25 315=Aa:=by decide+kernel
set_option maxHeartbeats 0 in
theorem all91{w:AT}{K:Fg}{h:AM}{mg:Ak->Ao Ai}{fa f0 f1 f2 f3 f4 f5 f6 f7 f8 f9 f10 f11 f12 f13 f14 f15 f16:Al}(X:K.In h)(G:h.Ns A8 mg)(hfa:mg "law" = Ab (.ref fa))(a0:FnI K f0 "rest" (tp91 6))(a1:FnI K f1 "turned_over" (tp91 7))(a2:FnI K f2 "one_form" (tp91 9))(a3:FnI K f3 "picture_rows" (tp91 11))(a4:FnI K f4 "row_drawn" (tp91 12))(a5:FnI K f5 "drawn" (tp91 13))(a6:FnI K f6 "row_seen" (tp91 14))(a7:FnI K f7 "seen" (tp91 15))(a8:FnI K f8 "_law_cell_at" (tp91 17))(a9:FnI K f9 "_law_mixed" (tp91 18))(a10:FnI K f10 "_law_prime" (tp91 19))(a11:FnI K f11 "_law_triple" (tp91 20))(a12:FnI K f12 "_law_form" (tp91 21))(a13:FnI K f13 "_law_same_tuple" (tp91 22))(a14:FnI K f14 "_law_same_triples" (tp91 23))(a15:FnI K f15 "_law_painted" (tp91 24))(a16:FnI K f16 "law" (tp91 25))(z0:BO K A8 "all" = Ab Ad)(z1:BO K A8 "bool" = Ab Ad)(z2:BO K A8 "int" = Ab Ad)(z3:BO K A8 "isinstance" = Ab Ad)(z4:BO K A8 "len" = Ab Ad)(z5:BO K A8 "list" = Ab Ad)(z6:BO K A8 "min" = Ab Ad)(z7:BO K A8 "range" = Ab Ad)(z8:BO K A8 "reversed" = Ab Ad)(z9:BO K A8 "set" = Ab Ad)(z10:BO K A8 "sorted" = Ab Ad)(z11:BO K A8 "str" = Ab Ad)(z12:BO K A8 "tuple" = Ab Ad)(z13:BO K A8 "zip" = Ab Ad):
    ∃ fd:Cn,(∀(s:Ap)(v:Ai),HB s fd ⟨[v],[]⟩ [("_law_script",v)])/\∀ base:AM,K.In base->base.Ns A8 mg->FnOk l.prog w K mg base (CXR l.prog w) 8 fa fd ["_law_script"] (Nb K):=by
  obtain⟨_,F,e⟩:=a16;obtain⟨_,_,_,_,_,_,_,_,_,rfl,_,_⟩:=F.ex;cases hfa.symm.trans (Jt X G e);have T:Tab K mg (λ_=>Ad) UI U_9 Uh UK UD Q91 80:=⟨cA λ_ _=>rfl,all_cons (BB X G z0) (all_cons (BB X G z1) (all_cons (BB X G z2) (all_cons (BB X G z3) (all_cons (BB X G z4) (all_cons (BB X G z5) (all_cons (BB X G z6) (all_cons (BB X G z7) (all_cons (BB X G z8) (all_cons (BB X G z9) (all_cons (BB X G z10) (all_cons (BB X G z11) (all_cons (BB X G z12) (all_cons (BB X G z13) (ON)))))))))))))),ON,all_cons (Gr 2 1 X G a0 rfl mX λ_ _ _ _ _ _ _ _=>rfl) (all_cons (Gr 2 9 X G a1 rfl mW λ_ _ _ _ _ _ _ _=>rfl) (all_cons (Gr 2 17 X G a2 rfl mV λ_ _ _ _ _ _ _ _=>rfl) (all_cons (UQ 1 309 X G a3 rfl mU λ_ _ _ _ _ _ _=>rfl) (all_cons (Gr 2 310 X G a4 rfl mS λ_ _ _ _ _ _ _ _=>rfl) (all_cons (Gr 2 311 X G a5 rfl mR λ_ _ _ _ _ _ _ _=>rfl) (all_cons (Gr 2 312 X G a6 rfl mQ λ_ _ _ _ _ _ _ _=>rfl) (all_cons (Gr 2 313 X G a7 rfl mP λ_ _ _ _ _ _ _ _=>rfl) (all_cons (Gr 2 2 X G a8 rfl mO λ_ _ _ _ _ _ _ _=>rfl) (all_cons (Gr 2 3 X G a9 rfl mM λ_ _ _ _ _ _ _ _=>rfl) (all_cons (Gr 2 4 X G a10 rfl hG λ_ _ _ _ _ _ _ _=>rfl) (all_cons (Gr 2 40 X G a11 rfl gZ λ_ _ _ _ _ _ _ _=>rfl) (all_cons (Gr 2 44 X G a12 rfl gY λ_ _ _ _ _ _ _ _=>rfl) (all_cons (Gr 2 45 X G a13 rfl gX λ_ _ _ _ _ _ _ _=>rfl) (all_cons (Gr 2 316 X G a14 rfl gW λ_ _ _ _ _ _ _ _=>rfl) (all_cons (Gr 2 314 X G a15 rfl gU λ_ _ _ _ _ _ _ _=>rfl) (all_cons (UQ 1 315 X G ⟨_,F,e⟩ rfl Td λ_ _ _ _ _ _ _=>rfl) (ON)))))))))))))))))⟩
  exact⟨_,λs v=>.of_eq rfl,λbase _ _=>law_fn (Tr T (O3 T 7) (UE F) rfl Td) qP⟩
theorem walk91{q:AR}{loose:Ac Ak}{XP:(Ak->Ao Ai)->AM->Prop}{YP:AT->AM->Prop}{d:DefRec}{K:Lr->Fg}(hn:l.most=Ab 63)(hdf:d.params.defaults=[])(hY:∀(w:AT)(h:AM),YP w h->(K w.params).In h)(F:∀(w:AT)(mg:Ak->Ao Ai)(fa:Al)(h:AM),(K w.params).In h->h.Ns A8 mg->mg d.name=Ab (.ref fa) ->
   ∃ fd:Cn,(∀(s:Ap)(u:Ai),HB s fd ⟨[u],[]⟩ [("_law_script",u)])/\∀ base:AM,(K w.params).In base->base.Ns A8 mg->FnOk l.prog w (K w.params) mg base (CXR l.prog w) 8 fa fd ["_law_script"] (Nb (K w.params))):XJ q loose XP YP l.row.toRowW d [] (λf vs=>Kv f vs):=
 L2.walk_of (n:=63) (k:=8) (x := "_law_script") (CX:=λw=>CXR l.prog w) (sp:=λw=>Nb (K w.params)) hn (by decide) hdf ⟨rfl,by decide,by decide,rfl⟩ hY F (λ_ H a ns hl _ hS=>⟨a,ns,rfl,hl,hS,λ_ _ z=>z⟩) λ_ _ _ _ _ z=>mI z
end OvC
open PySem PySem.W PyProof.Rows
noncomputable def OvC.view91:PySem.Program:={ PySem.Challenge.pw_ovalfield_k91_drawn_and_seen with main:={PySem.Challenge.pw_ovalfield_k91_drawn_and_seen.main with body:=[OvC.tp91 1,OvC.tp91 2,OvC.tp91 3,OvC.tp91 4,OvC.tp91 6,OvC.tp91 7,OvC.tp91 9,OvC.tp91 11,OvC.tp91 12,OvC.tp91 13,OvC.tp91 14,OvC.tp91 15,OvC.tp91 17,OvC.tp91 18,OvC.tp91 19,OvC.tp91 20,OvC.tp91 21,OvC.tp91 22,OvC.tp91 23,OvC.tp91 24,OvC.tp91 25]} }
set_option hygiene false
local macro_rules | `(tactic| o_head $H)=>`(tactic| refine holds_open (q:=OvC.view91) (loose:=[]) (Xt:=fun s=>xlAt OvC.view91 [] s&&recOk (RowW.records (OpenRow.toRowW (PySem.Challenge.rw_ovalfield_k91_drawn_and_seen.row))) s) (XP:=XL OvC.view91 []) (Yf:=Hook.obs $H) (Ya:=Hook.val $H) (YP:=Hook.says $H) (N:=2830) ?hl (Hook.of $H) (Hook.keeps $H) (fun s e=>xl_of s (Bool.and_eq_true_iff.mp e).1) XL.keeps (by rfl) (by rfl) (by rfl) (fun s e=>recFacts_of (Bool.and_eq_true_iff.mp e).2) (by rfl) (by first|assumption|decide +kernel) (by decide +kernel) ⟨rfl,rfl,rfl,rfl,rfl,by decide +kernel⟩ ?hw ?hc)
set_option maxRecDepth 100000 in
set_option maxHeartbeats 0 in
theorem PySem.Challenge.cw_ovalfield_k91_drawn_and_seen_holds : PySem.Challenge.rw_ovalfield_k91_drawn_and_seen.Holds := by
 w_on;refine holds_law (by decide+kernel) λsaid=>?_;k_head
 (case hl=>intro w;unfold openEnds fencedOpening topFrom;rw[PySem.W.Fast.te10274390034422433532,PySem.W.Fast.te14364793385576792824,PySem.W.Fast.te1435165496053646825,PySem.W.Fast.te14289696077712309145,PySem.W.Fast.te14082659384304107361,PySem.W.Fast.te4187177175401517315];kernel_rfl)
 (case hw=>w_witness2)
 k_fill
 refine OvC.walk91 (l:=PySem.Challenge.rw_ovalfield_k91_drawn_and_seen) rfl rfl (λw h Y_=>XN Y_) ?F
 case F=>
  intro w mg fa h KX G hmg
  refine' OvC.all91 KX G hmg ?a0 ?a1 ?a2 ?a3 ?a4 ?a5 ?a6 ?a7 ?a8 ?a9 ?a10 ?a11 ?a12 ?a13 ?a14 ?a15 ?a16 ?z0 ?z1 ?z2 ?z3 ?z4 ?z5 ?z6 ?z7 ?z8 ?z9 ?z10 ?z11 ?z12 ?z13
  case a0|a1|a2|a3|a4|a5|a6|a7|a8|a9|a10|a11|a12|a13|a14|a15|a16=>(refine' Ov.fni ?a ?l ?c ?k;(case a=>k_is);(case l=>k_is);(case c=>k_is);(case k=>k_is))
  case z0|z1|z2|z3|z4|z5|z6|z7|z8|z9|z10|z11|z12|z13=>k_is
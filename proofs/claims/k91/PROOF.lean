import PyProof.Rows.All
import Wide.All
import OpenK.AllK
import Wide.FinOn
import PyProof.EqAt
import KE.KSortTup
import PyProof.EqKinds
import PyProof.TupleCall
import Lean
import PyProof.Rows.SortRuns
import KE.KSortAsk
import KE.KStateDown
import KE.KRevIter
import PyProof.FactsAll.range_2
import PyProof.FactsAll.set_1
import PyProof.FactsAll.set_2
import PySem.Challenge.RW_ovalfield_k91_drawn_and_seen
set_option Elab.async false
set_option linter.all false
set_option maxRecDepth 100000
set_option maxHeartbeats 4000000
open Bool renaming true→Aa,false→Af,and_eq_true→Am,false_ne_true→Ax,not_eq_true'→BQ,or_eq_true→C1,or_false→Fb,eq_iff_iff→Fh,and_false→Gd,false_eq_true→HA,and_true→HL,false_and→Jy,true_and→Kc,not_true→XC
open Option renaming some→Ab,none→Ad,bind_eq_some_iff→Ds,isSome_iff_exists→F2,map_some→IX,bind_some→YB,isNone_iff_eq_none→YC,map→YD
open _root_ renaming List→Ac,Nat→Ae,Int→Ag,Bool→Aj,Option→Ao,if_pos→Ar,if_neg→As,Array→Au,decide_eq_true_eq→AU,of_decide_eq_true→AX,beq_iff_eq→A9,False→Ba,decide_eq_false→BD,decide_eq_true→BG,dif_neg→Cn,beq_self_eq_true→CM,or_false→CN,String→C3,StateT→EK,beq_eq_false_iff_ne→E7,Decidable→Fi,not_or→FH,decide_eq_false_iff_not→Go,Unit→Gx,if_true→Ir,PUnit→IY,True→Jg,bne_iff_ne→LL,if_false→NO,decide_eq_true_iff→bn
open PySem renaming wpAny_bind→Ah,Value→Ai,Str→Ak,Addr→Al,Expr→An,Shared→Ap,wpAny_pure→At,wpAny→Aw,starEach→AB,Heap→AK,Program→AQ,World→AT,Around→AV,Pos→AY,Stmt→A7,mainGlobals→Bc,sizeLine_eq→Bv,wpAny_mono→BJ,wpAny_field→B8,wpAny_call_entry→Ca,backTo→Cc,wpAny_setState_of→Cd,Tok→Ci,cLine→Cj,FuncData→Co,Scope→Cr,binaryOp→Ct,wpAny_callSpecial?_slot→Cu,rawInt→CB,IsTupleKey→CD,wpAny_newObj_type→CT,Env→CU,mem_of_lookup→CW,intKind→C5,bootBuiltins→Dc,compareOp→Dd,wpAny_seqItems→Dq,Obj→Dx,foldedSetIterable→Dz,wpAny_truthy_bool→DA,wpAny_of_eq→DE,wpAny_askSetting→DH,cellsFrom→DM,swapsWith→DN,CmpOp→DW,Sem→DZ,codeAny_builtin→D5,wpAny_setField→Ek,wpAny_setField_rec→Ev,Keyword→Ey,GenState→EC,SetTable→EF,wpAny_holding→EG,assignEach→ES,IsPair→E3,NameKind→E4,Model→E6,attributeBase→Fd,wpAny_attempt→Fe,pyNext→Fm,codeAny→FC,codeAny_call_builtin→FN,ExceptHandler→FT,wpAny_execs_nil→F0,wpAny_passesOwn→F1,Operator→F3,PassesOwn→F4,codeAny_mono→F5,wpAny_Call_Name_kw→F6,wpAny_pyIter_list→Gw,IsRangeIter→GD,wpAny_pyIter_rangeiter→GF,IsZip→GH,plainId_quiet→GI,wpAny_onRaise→GJ,checkBuiltinCall→GN,wpAny_isInstance→GO,wpAny_pyIter_zip→GP,letOwnedTupleGo→G9,wpAny_rule→Ha,wpAny_updateSeq_pair→Hb,wpAny_setEntries_of→Hk,BindsTo→Hq,firstArgMember→Hr,isSubtype_type→Hs,keywordEach→Hz,noteFrame→HG,pickOrder→HH,pushCells→HJ,pyIter→HK,behindInMarks→HP,setSearchFrom→HQ,ofAClassStatement→Ik,wpAny_loadPart_at→Il,OsState→Im,callerA→Io,Paired→Iz,Result→IA,wpAny_execs_cons→IB,wpAny_forIn_list→IC,Drawn→Ja,codeAny_of_tree→Jb,pushCells_keeps→Jc,setFlight→Jd,wpAny_specialOf→Je,isSubtype_stop→JG,isTrue→JH,newFunctionEnv→JI,notedBy→JJ,backToKw→JM,bindC→JN,bindL→JO,builtinsNs→JP,call_meets→JQ,numAt→JR,Comprehension→Kd,wpAny_newList→Kj,JoinOk→Kq,concat_meets→Kt,onTheHeap→Ku,putSet_of→Kv,setSearch→Kw,wpAny_typeOf→Kx,UnaryOp→KQ,hashByValue→KZ,wpAny_letGo→K0,handleBy→K1,setField→K4,call→LD,isInstance→LF,sysModules→LG,typeIs_str→LH,wpAny_Name→LJ,wpAny_call→LK,setNext→LM,Fin→ME,IntMulOk→MK,Params→ML,argsOk→MN,bindArgs→MO,entryFor→MP,intItems→MQ,raiseNew→MR,setRelay→MS,builtinLookup_eq_fast→aR,entryFor_alias→aS,noFill_tuple_add→aU,recursionLimit→aW,searchCouldBeSeen→aX,typeLookup_type→aY,wpAny_assign_Name→aZ,wpAny_comprehension_free→bA,wpAny_eqBool_int→bB,wpAny_eqIsQuiet_tuple→bC,wpAny_fieldsOf→bD,wpAny_letOwnedTupleGo_zip→bE,wpAny_newTuple→bF,wpAny_pyIter_range→bG,wpAny_pyIter_slot→bH,wpAny_pyIter_tuple→bI,wpAny_pyNext_range_end→bJ,wpAny_runValue→bK,wpAny_storeSet_of→bL
open PySem.Heap renaming get?_push_of_some→Aq,get?_push_size→AH,lt_size→AL,size_push→Bh,get?_update_other→Cz,get?_update_self→CG,SameBut→DY,get?_update_ne→E5,size_update→FM,get?_push_ne→Gu,get?_none_of_le→G7,ExtBut→KU,get?_push_cases→ZO
open PyProof.Rows renaming Keyed→Av,wpS_bind→Az,arrOf→AA,wpS_pure→AE,SortSt→A4,pendingOf→Bq,wpS→Bs,callWith_type1→BV,wpS_forRange→BW,seqObj→CP,wpS_mono→Db,failedOf→Ej,wpS_modify→ER,SortKind→E2,IntsAre→Fc,envOfC→FS,AllBare→Ge,wpS_get→Gf,boot_isinstance→G6,listUpdate_at→HM,get?_update_seq→IZ,Call_→JK,boot_range→JL,IsTup→MG,args_list_sort→YG,boot_int→YH,boot_list→YI,boot_sorted→YJ,boot_tuple→YK,callWith_builtin1→YL,entry_list_sort→YM,slot_list_sort→YN,subscriptTail_builtinR→YO
open Nat renaming le_refl→Ay,lt_of_lt_of_le→AS,ne_of_lt→AW,lt_irrefl→Bk,lt_succ_of_lt→By,zero_le→BK,le_trans→Da,le_of_lt_succ→Dv,zero_add→DT,lt_or_eq_of_le→Er,zero_max→Et,ne_of_gt→E1,le_of_ble_eq_true→Fw,le_of_lt→Fx,lt_succ_self→FL,ble→FW,lt_trichotomy→Gq,add_zero→G5,lt_of_le_of_lt→HC,mod_eq_of_lt→Iy,le_of_eq→Km,sub_self→Kn,le_succ→KS,mod_lt→Ly,ble_eq→Ys,div_div_eq_div_mul→Yt,le_add_right→Yu,lt_succ_of_le→Yv,lt_trans→Yw,min_self→Yx,not_lt→Yy,pow_le_pow_right→Yz,succ_pos→YA
open List renaming getElem?_eq_getElem→AC,range→AD,length_map→AF,mem_cons_of_mem→AG,mem_cons→AJ,mem_cons_self→AM,size_toArray→AO,getElem?_eq_some_iff→AZ,length_cons→A5,mem_singleton→A6,getD_eq_getElem?_getD→A8,length_set→Bj,map_map→Bl,not_mem_nil→Bo,mem_map→Br,length_append→Bt,append_nil→Bu,mem_append_right→Bw,all_eq_true→Bx,getElem?_append_right→BB,getElem?_map→BC,mem_range→BE,pairwise_iff_getElem→BO,filterMap_cons→B6,map_congr_left→B7,extract_eq_drop_take→Ch,getElem_of_mem→Cp,lookup_cons→Cy,append_assoc→CC,map_cons→CO,getElem?_append_left→C2,take_append_drop→C4,any_eq_true→C6,filter_cons→C7,getElem_mem→C8,toArray→C9,pairwise_map→Du,mem_append→DC,getElem?_set_self→DD,drop_eq_getElem_cons→DO,mem_filter→DR,nodup_cons→DS,length_range→D9,reverse_append→Eg,ext_getElem→Eh,length_take→Ei,pairwise_cons→Ep,getElem?_toArray→Ew,all_cons→EA,isEmpty_eq_false_iff→EN,mem_of_getElem?→EO,pairwise_append→EQ,range'→EY,length_drop→EZ,map_append→Fk,range_succ_eq_map→Fn,all_map→Fu,getElem?_eq_none→Fv,getElem_map→FI,mem_append_left→FJ,reverse_reverse→FK,length→FV,getElem?_set_self'→Gj,drop_of_length_le→GB,take_of_length_le→GC,nil_sublist→GL,pairwise_reverse→G0,getElem?_set_ne→G3,range_eq_range'→G4,getElem?_range→Hj,drop_drop→Hl,drop_zero→Hm,forIn_nil→Hn,replicate→Ho,getElem?_drop→HB,mem_range'_1→Ie,reverse_perm→Ig,isEmpty_iff→Iw,zipIdx_cons→Ix,forIn_cons→IT,nil_append→IU,of_mem_zip→IV,range_succ→IW,lookup→Jf,nodup_nil→JB,take_zero→JC,any_map→Kl,any_cons→XV,cons_ne_nil→XX,contains_eq_mem→XY,drop_eq_nil_of_le→XZ,eq_nil_of_length_eq_zero→X3,filterMap→X4,filter_append→X5,flatten_cons→X6,foldl_cons→X7,getElem?_replicate→X8,getElem?_take→X9,getElem_drop→Yb,getElem_inj→Yc,getElem_take→Yd,length_pos_iff→Ye,length_replicate→Yg,length_singleton→Yh,map_id→Yi,mem_filterMap→Yj,mem_map_of_mem→Yk,mem_reverse→Yl,nodup_range→Ym,perm_ext_iff_of_nodup→Yn,reverse_cons→Yo,set_set→Yp,take_succ_eq_append_getElem→Yq,zipIdx_nil→Yr
open PySem.Value renaming none→AI,ref→Be,builtin→CF,type→Fl,int→HF,bool→LB,str→MF,bytes→Z_9,float→aA
open Array renaming length_toList→AR,toList_append→Bm,getD_eq_getD_getElem?→Bz,getElem?_eq_getElem→BN,getElem?_toList→BZ,size_push→B0,getElem_toList→Dk,toList_extract→Dl,toList_push→Dt,getD→Em,mem_toList_iff→EL,toList_reverse→EM,size_extract→Ff,getElem?_eq_some_iff→FR,toList_inj→GK,size_append→Ib,replicate→IS,toList→Kk,ext'→Lx,find?_toList→Xr,forIn_toList→Xs,getElem?_eq_none→Xu,getElem_extract→Xv,mem_iff_getElem→Xx,perm_iff_toList_perm→Xy,size_setIfInBounds→Xz,toList_setIfInBounds→XB
open PySem.Str renaming ofString→A3
open Option.some renaming inj→Bf
open PySem.W renaming findIn→Bi,nsIn→BA,mg_none_of→BF,subIn→BR,keepIn→CH,mroIn→Dj,kitOne→Dp,emptyDict→Dy,looks_findIn→D4,clsIn→Eb,fnOf→Eu,instObj→Ez,codeIn→Gh,typeIn→Gi,OpenLaw→GE,mg_of→HN,methodObj→Ij,kitAny→JE,lookIn→JF,excIn→Kh,WalkO→aE,callWith_K→aF,cellsFrom_some→aG,isNs_of_in→aH,kIn_of→aI,kitMeta→aJ,looks_subIn→aK,nsOkIn→aM,plainGet→aN,tail_of_in→aO
open False renaming elim→BH
open PySem.Builtin.SmallTypes renaming nextOf→BP,ownedTupleIsFree→Do,ownedTupleHandOut→YV
open PySem.Builtin.Range renaming rangeFitsLong→BX,rangeSize→Gm
open PySem.Obj renaming mapSeq→B5,data_mapFields→Cm,isFreed_of_fields→DK,mapFields→FU,cls_mapFields→Gv,putSet→ZP
open PySem.NameKind renaming cell→B9,free→ED
open PySem.SetTable.probe renaming go→Cb
open PySem.SetTable renaming insertAt→CS,bits→Di,below→DL,turns→FB,runEnd→FZ,grown→Gg,layClean→Ii,Probe→JD,fill→Ke,has→Ks,advance→ZT,laid→ZV,sizeAbove→ZW,tooFull→ZX
open PySem.Heap.SameBut renaming update→CV,refl→ZN
open Int renaming emod_emod_of_dvd→Dm,emod_lt_of_pos→DJ,emod_nonneg→DQ,mul_emod→Eo,dvd_refl→Ft,emod_eq_of_lt→Gp,mul_comm→G1,toNat_natCast→Ic,one_mul→KR,eq_ofNat_of_zero_le→XG,le_trans→XH,mul_assoc→XI,mul_one→XJ,mul_zero→XM,ne_of_gt→XN,sub_zero→XO,zero_add→XQ,zero_emod→XS
open PySem.Around renaming under_plainId→DU
open PySem.Builtin.List renaming listTooLong→DV,listExtendWith→YT,listSameRef→YU
open PySem.F renaming slot_zip_next→DX,slot_tuple_iterator_next→EB,slot_list_extend→FA,plainAttrs_list→Gn,args_zip_next_1→Gr,attr_ValueError→Gs,entry_zip_next→GM,args_list_extend_2→Zt,args_object_init_3→Zu,args_tuple_add_2→Zv,args_tuple_iterator_next_1→Zw,called_zip→Zx,entry_bexc_ga→Zy,entry_list_extend→Zz,entry_tuple_add→ZA,entry_tuple_iterator_next→ZB,entry_zip_new→ZC,newCall_zip_2→ZD,plain_list_iadd→ZE,plain_reversed_new→ZF,plain_set_new→ZG,slot_set_iter→ZH,slot_str_join→ZI,slot_tuple_add→ZJ,typeCall_zip_2→ZK,typeOf_object_class→ZL,type_list_extend→ZM
open Ne renaming symm→Ea
open PySem.SetTable.layClean renaming free→En
open ForInStep renaming yield→Fj
open Classical renaming choose_spec→Fs,choose→XD
open List.Perm renaming of_eq→FY,trans→G2,append→Iu,cons→Jz,refl→JA,append_left→XU
open PyProof.Rows.F renaming plain_set_update_loop→Gk,entry_set_update_loop→YE
open PySem.SeqAt renaming EqAt→G8,RcNeAt→Kr,RcAt→LA
open PySem.Calls renaming spliced_cons→HE,spliced_nil→Ih,Name_function_global→YX,call_function_entry→YY,evalArgs_plain→YZ
open Sum renaming inl→Ip,inr→Iq
open PySem.Shared renaming TypeIs→Kf,heap→KY
open PySem.Value.ref renaming inj→Kg
open PySem.Data renaming cell→Ko,seq→MJ,fields→Y_1
open PySem.IsRange renaming new→KW
open PyProof.Rows.SortSt renaming mk'→Lz
open NeZero renaming ne→MD
open PySem.Txt renaming join→MM
open Function renaming comp_def→XF
open PyProof.Rows.IsTup renaming new→YF
open PyProof renaming noPylong_small→YQ
open PySem.AutoSeq1 renaming wpAny_loadPart'→YR
open PySem.Builtin.Int renaming intBits→YS
open PySem.Builtin.Str renaming strSliceIndices→YW
open PySem.Code renaming quiet_builtin→Y_0
open PySem.EntryCells renaming newEntry→Y_2
open PySem.Expr renaming Attribute→Y_3,BinOp→Y_5,BoolOp→Y_7,Call→Y_9,Compare→Zb,Constant→Zd,IfExp→Zf,List→Zh,ListComp→Zj,Name→Zl,Subscript→Zn,Tuple→Zp,UnaryOp→Zr
open PySem.Expr.Attribute renaming elim→Y_4
open PySem.Expr.BinOp renaming elim→Y_6
open PySem.Expr.BoolOp renaming elim→Y_8
open PySem.Expr.Call renaming elim→Za
open PySem.Expr.Compare renaming elim→Zc
open PySem.Expr.Constant renaming elim→Ze
open PySem.Expr.IfExp renaming elim→Zg
open PySem.Expr.List renaming elim→Zi
open PySem.Expr.ListComp renaming elim→Zk
open PySem.Expr.Name renaming elim→Zm
open PySem.Expr.Subscript renaming elim→Zo
open PySem.Expr.Tuple renaming elim→Zq
open PySem.Expr.UnaryOp renaming elim→Zs
open PySem.Paired renaming length→ZQ
open PySem.SeqAt.EqAt renaming of_refs→ZR,same→ZS
open PySem.SetTable.below renaming go→ZU
open PySem.Stmt renaming Assign→ZY,Expr→Z_0,Raise→Z_5,Return→Z_7
open PySem.Stmt.Assign renaming elim→ZZ
open PySem.Stmt.Expr renaming elim→Z_1
open PySem.Stmt.For renaming elim→Z_2
open PySem.Stmt.If renaming elim→Z_4
open PySem.Stmt.Raise renaming elim→Z_6
open PySem.Stmt.Return renaming elim→Z_8
open PySem.W.WData renaming int→aC
open PySem.W.WShape renaming has→aD
open PySem.Walks renaming list→aP,range→aQ
open PySem.pickOrder renaming go→aV
open String renaming splitOn→bM,splitOnAux→bN
abbrev Fg:=PySem.W.Frag
abbrev Pn:=Ac (PySem.Addr×PySem.Obj)
abbrev Vq:=PySem.Value->PySem.Shared->Prop
set_option genSizeOfSpec false
-- CHANGE: your row's module here,as the last of these rows
namespace L2
open PySem PySem.Spec PyProof.Rows
abbrev Key:=Sum Ag Ak
noncomputable def WN:Key->Ai->Aj
 |.inl k,v=>Value.isInt k v
 |.inr x,v=>Value.isStrOf x v
noncomputable def bZ(w:AT):Key->Ag
 |.inl k=>hashInt k
 |.inr x=>hashStr w x
theorem JS:∀{k:Key}{v:Ai},WN k v=Aa->(∃ i t,k=Ip i/\v=HF i t)\/(∃ x t,k=Iq x/\v=MF x t)
 |.inl i,v,h=>by
  obtain⟨t,e⟩:=Value.isInt_shape (k:=i) (v:=v) h;exact .inl ⟨i,t,rfl,e⟩
 |.inr x,v,h=>by
  obtain⟨t,e⟩:=Value.isStrOf_shape (x:=x) (v:=v) h;exact .inr ⟨x,t,rfl,e⟩
theorem uG(a b:Ag):decide ((Ip a:Key)=Ip b)=(a==b):=by
 by_cases e:a=b
 .subst e;simp
 .have h:¬ (Ip a:Key)=Ip b:=λq=>e (Sum.inl.inj q)
  rw[BD h];exact(E7.mpr e).symm
theorem uD(a b:Ak):decide ((Iq a:Key)=Iq b)=decide (a=b):=by
 by_cases e:a=b
 .subst e;simp
 .have h:¬ (Iq a:Key)=Iq b:=λq=>e (Sum.inr.inj q)
  rw[BD h,BD e]
theorem uF(a:Ag)(b:Ak):decide ((Ip a:Key)=Iq b)=Af:=BD (λq=>nomatch q)
theorem uE(a:Ak)(b:Ag):decide ((Iq a:Key)=Ip b)=Af:=BD (λq=>nomatch q)
noncomputable def QM(prog:AQ)(w:AT):PySem.KeyKind prog w Key where
 is:=WN
 hash:=bZ w
 inj:=λv a b ha hb=>by
  rcases JS ha with ⟨i,t,rfl,rfl⟩|⟨x,t,rfl,rfl⟩
  .rcases JS hb with ⟨j,u,rfl,e⟩|⟨y,u,rfl,e⟩
   .injection e with e1 _;rw[e1]
   .exact nomatch e
  .rcases JS hb with ⟨j,u,rfl,e⟩|⟨y,u,rfl,e⟩
   .exact nomatch e
   .injection e with e1 _;rw[e1]
 byValue:=λk v h=>by
  rcases JS h with ⟨i,t,rfl,rfl⟩|⟨x,t,rfl,rfl⟩<;>rfl
 pyHash:=λhv h=>by
  rcases JS hv with ⟨i,t,rfl,rfl⟩|⟨x,t,rfl,rfl⟩
  .exact wpAny_pyHash_int h
  .exact wpAny_pyHash_str h
 eqBool:=λhu hv h=>by
  rcases JS hu with ⟨i,t,rfl,rfl⟩|⟨x,t,rfl,rfl⟩
  .rcases JS hv with ⟨j,u,rfl,rfl⟩|⟨y,u,rfl,rfl⟩
   .rw[uG]at h;exact bB h
   .rw[uF]at h;exact SeqAt.EqAt.int_str i t y u _ _ _ _ h
  .rcases JS hv with ⟨j,u,rfl,rfl⟩|⟨y,u,rfl,rfl⟩
   .rw[uE]at h;exact SeqAt.EqAt.str_int x t j u _ _ _ _ h
   .rw[uD]at h;exact wpAny_eqBool_str h
 «strs»:=λk x t v h=>by
  rcases JS h with ⟨i,u,rfl,e⟩|⟨y,u,rfl,e⟩
  .exact nomatch e
  .injection e with e1 _
   subst e1;cases v<;>rfl
end L2
namespace L2
open PySem PySem.Spec PyProof.Rows
variable{us:Ac Ai}{a b it dx:Al}{P:AQ}{h:AK}{o:Dx}{g':Au EC}{t' i k n:Ae}{d':Ja}{ch fp:Ac Al}{x qual:Ak}{M:E6}{u:Ai}{Q:Gx->Ap->Prop}{e c tg:An}{s:Ap}{pos p:AY}{pins:Pn}{es:Ac An}{body:Ac A7}{f:Ai->Ai->DZ Ai}{g:Ag->Ag->Ag}{op:DW}{mA:Ak->Ao Ai}{fd:Co}{ps:Ac Ak}{scope:Cr}
inductive V where
 |non|bl (b:Aj)|int (i:Ag)|str (x:Ak)|byt (b:Au UInt8)|flt (b:UInt64)|ref (a:Al)|ty (n:C3)
 deriving DecidableEq
variable{xs vs:Ac V}{v:V}
def BM:V->Ai->Prop
 |.non,u=>u=AI
 |.bl b,u=>u=LB b
 |.int i,u=>∃ t,u=HF i t
 |.str x,u=>∃ t,u=MF x t
 |.byt b,u=>∃ t,u=Z_9 b t
 |.flt b,u=>∃ t,u=aA b t
 |.ref a,u=>u=Be a
 |.ty n,u=>u=Fl n
noncomputable abbrev Bb:Ac V->Ac Ai->Prop:=Iz BM
theorem Bb.length(r:Bb xs us):xs.length=us.length:=ZQ r
theorem Bb.get:∀{xs:Ac V}{us:Ac Ai}{i:Ae}{x:V},Bb xs us->xs[i]?=Ab x->∃ u,us[i]?=Ab u/\BM x u
 |_,_,_,_,.nil,e=>by simp at e
 |_,_,0,_,.cons r _,e=>by simp at e;subst e;exact⟨_,rfl,r⟩
 |_,_,i+1,x,.cons _ t,e=>by
  obtain⟨u,h1,h2⟩:=Bb.get (i:=i) (x:=x) t (by simpa using e)
  exact⟨u,by simpa using h1,h2⟩
theorem Bb.set{x:V}{u:Ai}(r:BM x u):∀{xs:Ac V}{us:Ac Ai}(i:Ae),Bb xs us->Bb (xs.set i x) (us.set i u)
 |_,_,_,.nil=>.nil
 |_,_,0,.cons _ t=>.cons r t
 |_,_,i+1,.cons q t=>.cons q (Bb.set r i t)
theorem Bb.append:∀{xs ys:Ac V}{us ws:Ac Ai},Bb xs us->Bb ys ws->Bb (xs++ys) (us++ws)
 |_,_,_,_,.nil,s=>s
 |_,_,_,_,.cons r t,s=>.cons r (Bb.append t s)
theorem Bb.take:∀{xs:Ac V}{us:Ac Ai}(n:Ae),Bb xs us->Bb (xs.take n) (us.take n)
 |_,_,0,_=>.nil
 |_,_,_+1,.nil=>.nil
 |_,_,n+1,.cons r t=>.cons r (Bb.take n t)
theorem Bb.drop:∀{xs:Ac V}{us:Ac Ai}(n:Ae),Bb xs us->Bb (xs.drop n) (us.drop n)
 |_,_,0,r=>r
 |_,_,_+1,.nil=>.nil
 |_,_,n+1,.cons _ t=>Bb.drop n t
def NM:Ao V->Ao Ai->Prop
 |some v,Ab u=>BM v u
 |none,Ad=>Jg
 |_,_=>Ba
def KV{κ:Type}:Ac (κ×V)->Ac (κ×Ai)->Prop:=Iz fun(p:κ×V)(q:κ×Ai)=>p.1=q.1/\BM p.2 q.2
noncomputable def kV:Key->V
 |.inl i=>.int i
 |.inr x=>.str x
inductive HO where
 /-- a list -/
 |lst (xs:Ac V)
 /-- a tuple (never changes) -/
 |tup (xs:Ac V)
 /-- a dict whose keys are ints and texts;one whose keys are tuples of ints and texts (the empty one is both) -/
 |dK (kvs:Ac (Key×V))|dT (kvs:Ac (Ac Key×V))
 /-- a set of ints: its members,its size -/
 |set (S:Ag->Aj) (n:Ae)
 /-- an instance of the class at C,its dict at dx,its attributes -/
 |ins (C dx:Al) (fs:Ac (Ak×V))
 /-- the dict of the instance at x -/
 |own (x:Al)
 /-- the dict of an exception -/
 |xd (fs:Ac (Ak×V))
 /-- a bound method,f of x -/
 |met (f x:Al)
 /-- a range object lo,lo+1,.. below hi -/
 |rng (lo hi:Ag)
 /-- a thing that is known to the object (the script;a dict while a loop walks it): read,never written while it is so -/
 |frz (o:Dx) (u:HO)
 /-- a code object's table -/
 |tbl (ps:Au Ai)
 /-- any other thing,by what is Aa of its one object (a def of one's own: SetO a S n:=HO.ext fun h=>..) -/
 |ext (φ:AK->Prop)
abbrev Hp:=Al->Ao HO
variable{H:Hp}
noncomputable def upd(H:Hp)(a:Al)(o:HO):Hp:=λb=>if b=a then Ab o else H b
theorem Hv{o:HO}:upd H a o a=Ab o:=by unfold upd;rw[Ar rfl]
theorem Cv{o:HO}(h:b≠a):upd H a o b=H b:=by unfold upd;rw[As h]
theorem Gy{o:HO}(h:H a=Ab o)(h':H b=Ad):a≠b:=by
 intro e;subst e;rw[h]at h';cases h'
section
variable(P:AQ)(w:AT)
def ObjOk(H:Hp)(h:AK)(a:Al):HO->Prop
  |.lst xs=>xs.length<=sizeLine/\∃(its:Ac Ai)(n:Ae),Bb xs its/\h.get? a=Ab { cls:=.type "list",data:=.seq its.toArray n }
  |.tup xs=>xs.length<=sizeLine/\∃ its:Ac Ai,Bb xs its/\MG h a its.toArray
  |.dK kvs=>kvs.length<=sizeLine/\(a==LG)=Af/\∃ vs,KV kvs vs/\h.DictOf (QM P w) a vs
  |.dT kvs=>kvs.length<=sizeLine/\(a==LG)=Af/\∃ xs:Ac (Ac Key×Al×Ai),
      Iz (fun(p:Ac Key×V)(q:Ac Key×Al×Ai)=>p.1=q.1/\H q.2.1=Ab (.tup (p.1.map kV))/\BM p.2 q.2.2) kvs xs /\
      ∃ o es ep,h.get? a=Ab o/\o.ExactDict/\o.data=.dict es ep/\es.toList=xs.map (entryOfKey (tupleKind (QM P w)))/\(xs.map (·.1)).Nodup
  |.set S n=>h.SetOf (C5 P w) a S n
  |.ins C dx fs=>H dx=Ab (.own a)/\fs.length<=1000/\dx≠a/\h.get? a=Ab (Ez C dx) /\
      ∃ mA,h.Ns1 dx mA/\(∀ f,NM (fs.lookup f) (mA f))/\PySem.Within mA (fs.map (·.1))
  |.own _=>∃ o,h.get? a=Ab o
  |.xd fs=>∃ mA,h.Ns1 a mA/\∀ f,NM (fs.lookup f) (mA f)
  |.rng lo hi=>∃ t u v,h.get? a=Ab { cls:=.type "range",data:=.fields #[.int lo t,.int hi u,.int 1 v] }
  |.frz o u=>h.get? a=Ab o/\ObjOk H h a u
  |.tbl ps=>h.get? a=Ab {cls:=.none,data:=.fields ps}
  |.met f x=>h.get? a=Ab (Ij (.ref f) (.ref x))
  |.ext φ=>φ h/\(∃ o,h.get? a=Ab o)/\∀ h1 h2:AK,φ h1->(∀ o,h1.get? a=Ab o->h2.get? a=Ab o)->φ h2
def HOk(H:Hp)(h:AK):Prop:=∀ a o,H a=Ab o->ObjOk P w H h a o
end
section
variable{P:AQ}{w:AT}{H H':Hp}{h h':AK}{a:Al}{o:HO}
theorem ObjOk.lt(x:ObjOk P w H h a o):a<h.objs.size:=by
 cases o with
 |lst xs=>obtain⟨_,_,_,_,e⟩:=x;exact AL e
 |tup xs=>obtain⟨_,_,_,p⟩:=x;exact p.lt
 |dK kvs=>obtain⟨_,_,_,_,o,_,_,e,_⟩:=x;exact AL e
 |dT kvs=>obtain⟨_,_,_,_,o,_,_,e,_⟩:=x;exact AL e
 |set S n=>obtain⟨o,_,_,_,e,_⟩:=x;exact AL e
 |ins C dx fs=>obtain⟨_,_,_,e,_⟩:=x;exact AL e
 |own y=>obtain⟨_,e⟩:=x;exact AL e
 |xd fs=>obtain⟨_,⟨_,_,_,e,_⟩,_⟩:=x;exact AL e
 |rng lo hi=>obtain⟨_,_,_,e⟩:=x;exact AL e
 |frz ob u=>obtain⟨e,_⟩:=x;exact AL e
 |tbl ps=>exact AL (show h.get? a=Ab _ from x)
 |met f y=>exact AL (show h.get? a=Ab _ from x)
 |ext φ=>obtain⟨_,⟨_,e⟩,_⟩:=x;exact AL e
theorem Iz.mapP{α β:Type}{F G:α->β->Prop}:∀{l₁:Ac α}{l₂:Ac β},Iz F l₁ l₂->(∀ a b,F a b->G a b)->Iz G l₁ l₂
 |_,_,.nil,_=>.nil
 |_,_,.cons r t,f=>.cons (f _ _ r) (Iz.mapP t f)
theorem ObjOk.stay(x:ObjOk P w H h a o)(k:∀ b u,(b=a\/H b=Ab (.own a))->h.get? b=Ab u->h'.get? b=Ab u)(ho:∀ b,H b=Ab (.own a)->H' b=Ab (.own a))(ht:∀ b xs,H b=Ab (.tup xs)->H' b=Ab (.tup xs)):ObjOk P w H' h' a o:=by
 induction o with
 |lst xs=>obtain⟨z,its,n,r,e⟩:=x;exact⟨z,its,n,r,k _ _ (.inl rfl) e⟩
 |tup xs=>obtain⟨z,its,r,ob,e,c⟩:=x;exact⟨z,its,r,ob,k _ _ (.inl rfl) e,c⟩
 |dK kvs=>obtain⟨z,y,vs,r,ob,es,ep,e,c⟩:=x;exact⟨z,y,vs,r,ob,es,ep,k _ _ (.inl rfl) e,c⟩
 |dT kvs=>
  obtain⟨z,y,xs,r,ob,es,ep,e,c⟩:=x;exact⟨z,y,xs,Iz.mapP r λp q z=>⟨z.1,ht _ _ z.2.1,z.2.2⟩,ob,es,ep,k _ _ (.inl rfl) e,c⟩
 |set S n=>obtain⟨ob,es,ep,t,e,c⟩:=x;exact⟨ob,es,ep,t,k _ _ (.inl rfl) e,c⟩
 |ins C dx fs=>
  obtain⟨d,z,ne,e,mA,⟨od,es,ep,e2,c⟩,r⟩:=x;exact⟨ho _ d,z,ne,k _ _ (.inl rfl) e,mA,⟨od,es,ep,k _ _ (.inr d) e2,c⟩,r⟩
 |own y=>obtain⟨ob,e⟩:=x;exact⟨ob,k _ _ (.inl rfl) e⟩
 |xd fs=>obtain⟨mA,⟨od,es,ep,e,c⟩,r⟩:=x;exact⟨mA,⟨od,es,ep,k _ _ (.inl rfl) e,c⟩,r⟩
 |rng lo hi=>obtain⟨t,u,v,e⟩:=x;exact⟨t,u,v,k _ _ (.inl rfl) e⟩
 |frz ob u ih=>obtain⟨e,q⟩:=x;exact⟨k _ _ (.inl rfl) e,ih q⟩
 |tbl ps=>
  have e:h.get? a=Ab {cls:=.none,data:=.fields ps}:=x;show h'.get? a=Ab {cls:=.none,data:=.fields ps};exact k a _ (.inl rfl) e
 |met f y=>
  have e:h.get? a=Ab (Ij (.ref f) (.ref y)):=x;show h'.get? a=Ab (Ij (.ref f) (.ref y));exact k a _ (.inl rfl) e
 |ext φ=>obtain⟨p,⟨o,e⟩,st⟩:=x;exact⟨st _ _ p λo q=>k _ _ (.inl rfl) q,⟨o,k _ _ (.inl rfl) e⟩,st⟩
theorem HOk.lt(x:HOk P w H h)(e:H a=Ab o):a<h.objs.size:=(x a o e).lt
theorem HOk.fresh(x:HOk P w H h)(e:h.objs.size<=a):H a=Ad:=by
 cases q:H a with
 |none=>rfl
 |some u=>exact absurd (AS (x.lt q) e) (Bk _)
theorem HOk.kept(x:HOk P w H h)(k:∀ b u,h.get? b=Ab u->h'.get? b=Ab u):HOk P w H h':=λa o e=>
 (x a o e).stay (λb u _ q=>k b u q) (λ_ q=>q) λ_ _ q=>q
theorem HOk.laid(x:HOk P w H h)(k:∀ b u,h.get? b=Ab u->h'.get? b=Ab u)(hp:h.objs.size<=a)(new:ObjOk P w (upd H a o) h' a o):HOk P w (upd H a o) h':=λb u e=>by
 have hn:=x.fresh hp;by_cases hb:b=a
 .subst hb;rw[Hv]at e;cases e;exact new
 .rw[Cv hb]at e;exact(x b u e).stay (λc v _ q=>k c v q) (λc q=>by rw[Cv (Gy q hn)];exact q) λc xs q=>by rw[Cv (Gy q hn)];exact q
end
def Rd(H:Hp)(a:Al)(u:HO):Prop:=H a=Ab u\/∃ o,H a=Ab (.frz o u)
theorem Rd.ok{w:AT}{u:HO}(r:Rd H a u)(x:HOk P w H h):ObjOk P w H h a u:=by
 rcases r with r|⟨o,r⟩
 .exact x a u r
 .obtain⟨_,q⟩:=x a _ r;exact q
def Mut:Ao HO->Prop
 |some (.lst _)=>Jg
 |some (.dK _)=>Jg
 |some (.dT _)=>Jg
 |some (.set _ _)=>Jg
 |some (.ins _ _ _)=>Jg
 |some (.ext _)=>Jg
 |_=>Ba
section
variable{P:AQ}{w:AT}{H:Hp}{h h':AK}{x e:Al}{o':HO}
theorem HOk.write(ok:HOk P w H h)(mu:Mut (H x))(he:e=x\/H e=Ab (.own x))(k:∀ b u,b≠e->h.get? b=Ab u->h'.get? b=Ab u)(heo:∃ u,h'.get? e=Ab u)(new:ObjOk P w (upd H x o') h' x o'):HOk P w (upd H x o') h':=λb u q=>by
 have nown:∀ c y,H c=Ab (.own y)->c≠x:=λc y r z=>by subst z;rw[r]at mu;exact mu
 have ntup:∀ c xs,H c=Ab (.tup xs)->c≠x:=λc xs r z=>by subst z;rw[r]at mu;exact mu
 by_cases hb:b=x
 .subst hb;rw[Hv]at q;cases q;exact new
 .rw[Cv hb]at q;by_cases hbe:b=e
  .have q':H b=Ab (.own x):=by
    rcases he with z|z
    .exact absurd (hbe.trans z) hb
    .rw[hbe];exact z
   rw[q]at q';cases q';obtain⟨v,hv⟩:=heo;exact⟨v,by rw[hbe];exact hv⟩
  .refine(ok b u q).stay (λc v hc r=>k c v ?_ r) (λc r=>by rw[Cv (nown c b r)];exact r) λc xs r=>by rw[Cv (ntup c xs r)];exact r
   rcases hc with rfl|hc
   .exact hbe
   .rintro rfl;rcases he with z|z
    .exact nown c b hc z
    .rw[hc]at z;cases z;exact hb rfl
end
structure Un (fs ex:Ac Al) (H H':Hp) (h h':AK):Prop where
 keep:∀ b o,h.get? b=Ab o->H b=Ad->b∉fs->b∉ex->h'.get? b=Ab o
 slot:∀ b o,h.get? b=Ab o->H b=Ad->b∈fs->b∉ex->∃ sl,h'.get? b=Ab {o with slots:=sl}
 free:∀ b o,h.get? b=Ab o->H b=Ad->b∉ex->H' b=Ad
 there:∀ b o,h.get? b=Ab o->b∉ex->∃ o',h'.get? b=Ab o'
 tups:∀ b xs,H b=Ab (.tup xs)->H' b=Ab (.tup xs)
 frzs:∀ b o u,H b=Ab (.frz o u)->H' b=Ab (.frz o u)
 tbls:∀ b ps,H b=Ab (.tbl ps)->∃ more,H' b=Ab (.tbl (ps++more))
section
variable{fs fs' ex ex':Ac Al}{H H1 H2:Hp}{h h1 h2 h':AK}{a x e:Al}{o:HO}
theorem Un.any(u:Un fs ex H H1 h h1){ob:Dx}(q:h.get? b=Ab ob)(n:H b=Ad)(hx:b∉ex):∃ sl,h1.get? b=Ab {ob with slots:=sl}:=by
 by_cases hb:b∈fs
 .exact u.slot b ob q n hb hx
 .exact⟨ob.slots,u.keep b ob q n hb hx⟩
theorem Un.kept(k:∀ b u,h.get? b=Ab u->h'.get? b=Ab u):Un fs ex H H h h':=
 ⟨λb ob q _ _ _=>k b ob q,λb ob q _ _ _=>⟨ob.slots,k b ob q⟩,λ_ _ _ n _=>n,λb ob q _=>⟨ob,k b ob q⟩,λ_ _ q=>q,λ_ _ _ q=>q,λ_ ps q=>⟨#[],by rw[q];simp⟩⟩
theorem Un.refl:Un fs ex H H h h:=Un.kept λ_ _ q=>q
theorem Un.laid(k:∀ b u,h.get? b=Ab u->h'.get? b=Ab u)(hp:h.objs.size<=a)(hn:H a=Ad):Un fs ex H (upd H a o) h h' where
 keep:=λb u q _ _ _=>k b u q
 slot:=λb u q _ _ _=>⟨u.slots,k b u q⟩
 free:=λb u q n _=>by rw[Cv (AW (AS (AL q) hp))];exact n
 there:=λb u q _=>⟨u,k b u q⟩
 tups:=λb xs q=>by rw[Cv (Gy q hn)];exact q
 frzs:=λb u xs q=>by rw[Cv (Gy q hn)];exact q
 tbls:=λb ps q=>⟨#[],by rw[Cv (Gy q hn),q];simp⟩
theorem Un.write(mu:Mut (H x))(he:e=x\/H e=Ab (.own x))(k:∀ b u,b≠e->h.get? b=Ab u->h'.get? b=Ab u)(heo:∃ u,h'.get? e=Ab u):Un fs ex H (upd H x o) h h':=by
 have hx:∀ b,H b=Ad->b≠x:=λb n z=>by subst z;rw[n]at mu;exact mu
 have hb:∀ b,H b=Ad->b≠e:=λb n z=>by
  subst z;rcases he with r|r
  .exact hx b n r
  .rw[n]at r;cases r
 have hm:∀ b u,H b=Ab u->¬ Mut (Ab u)->b≠x:=λb u q nm z=>by subst z;rw[q]at mu;exact nm mu
 refine⟨λb u q n _ _=>k b u (hb b n) q,λb u q n _ _=>⟨u.slots,k b u (hb b n) q⟩,λb u q n _=>by rw[Cv (hx b n)];exact n,λb u q _=>?_,
  λb xs q=>by rw[Cv (hm b _ q λz=>z)];exact q,λb u xs q=>by rw[Cv (hm b _ q λz=>z)];exact q,λb ps q=>⟨#[],by rw[Cv (hm b _ q λz=>z),q];simp⟩⟩
 by_cases hbe:b=e
 .subst hbe;exact heo
 .exact⟨u,k b u hbe q⟩
end
noncomputable def trk(h:AK)(H:Hp):Ac Al:=(AD h.objs.size).filter λa=>(H a).isSome
noncomputable def J9(h:AK)(H:Hp):AK:=PySem.W.hideAll h (trk h H)
theorem iC(h:AK)(H:Hp):(J9 h H).objs.size=h.objs.size:=PySem.W.hideAll_size _ _
theorem iQ(e:h.get? b=Ab o)(n:H b=Ad):(J9 h H).get? b=Ab o:=
 PySem.W.hideAll_get _ e λhm=>by
  have q:(H b).isSome=Aa:=(DR.mp hm).2;rw[n]at q;simp at q
theorem mQ(e:(J9 h H).get? b=Ab o):h.get? b=Ab o/\H b=Ad:=by
 have e':h.get? b=Ab o:=PySem.W.of_hideAll (trk h H) e;refine⟨e',?_⟩;cases q:H b with
 |none=>rfl
 |some x=>
  have hm:b∈trk h H:=DR.mpr ⟨BE.mpr (AL e'),by simp[q]⟩
  have z:(J9 h H).get? b=Ad:=PySem.W.hideAll_none (trk h H) hm;rw[z]at e;cases e
noncomputable def rQ(g h:AK)(L:Al):Pn:=(AD h.objs.size).filterMap λa=>if a=L\/(g.get? a).isSome=Aa then Ad else (h.get? a).map λo=>(a,o)
noncomputable def rest(g h:AK)(L d:Al):Pn:=(rQ g h L).filter λp=>decide (p.1≠d)
structure Mod (K:Fg) (mg:Ak->Ao Ai) (base:AK):Prop where
 kin:K.In base
 glob:base.Ns Bc mg
 blt:∃ mb,base.Ns JP mb/\∀ x:Ak,x≠"__name__"->mb x=Dc x
 nolimit:base.NoLimit
structure Cx where
 prog:AQ
 w:AT
 K:Fg
 mg:Ak->Ao Ai
 base:AK
 A:AV
 N:Ac Ak
 s₀:Ap
 H₀:Hp
 env:CU
 outer:Ac CU
 stack:Ac CU
 ex:Ac Al
 fn:Ak->Aj
 calm:Aj
 pn:Pn
 xe:Ai->Ap->Prop
variable{X:Cx}
noncomputable def frs(l:Ac CU):Ac Al:=l.filterMap (·.frame)
noncomputable abbrev Cx.fs(X:Cx):Ac Al:=frs X.outer
def Vis(sc:Cr)(x:Ak):Prop:=sc.names.lookup x=Ab .local\/sc.names.lookup x=Ab .cell\/sc.names.lookup x=Ab .free
def Loc(sc:Cr)(x:Ak):Prop:=sc.names.lookup x=Ab .local\/sc.names.lookup x=Ab .cell
noncomputable def dE(env:CU)(h:AK)(m:Ak->Ao Ai)(x:Ak)(u:Ai):Prop:=
 (env.kindOf x=Ab .local/\m x=Ab u)\/((env.kindOf x=Ab .cell\/env.kindOf x=Ab .free)/\∃ c,env.cells.lookup x=Ab c/\h.IsCell c (Ab u))
structure Cx.Ok (X:Cx):Prop where
 mod:Mod X.K X.mg X.base
 kind:X.env.scope.kind=.function
 glob:X.env.globals=Bc
 blt:X.env.builtins=JP
 above:X.s₀.heap.objs.size<=X.env.locals
 inj:∀ x y c,X.env.cells.lookup x=Ab c->X.env.cells.lookup y=Ab c->x=y
 has:∀ x,(X.env.kindOf x=Ab .cell\/X.env.kindOf x=Ab .free)->∃ c,X.env.cells.lookup x=Ab c
 cab:∀ x c,X.fn x=Aa->X.env.cells.lookup x=Ab c->X.s₀.heap.objs.size<=c
 hd:X.calm=Aa->X.A.handled=Ad
 frames:X.A.frames=Ab X.stack
 stk:X.stack=X.outer\/(X.stack=X.env::X.outer/\X.env.frame=Ab X.env.locals)
 exf:∀ b∈X.ex,b≠X.env.locals/\∀ x c,X.env.cells.lookup x=Ab c->c≠b
 bs:∀ b o,X.base.get? b=Ab o->X.s₀.heap.get? b=Ab o/\X.H₀ b=Ad
 bsz:X.base.objs.size<=X.s₀.heap.objs.size
 noex:∀ b o,X.base.get? b=Ab o->b∉X.ex
 exfs:∀ b∈X.ex,b∉X.fs
 funs:X.s₀.heap.FunFrames X.base X.outer
 frf:∀ b∈X.fs,X.H₀ b=Ad
structure Inv (X:Cx) (pins:Pn) (Z:Ac (Ao V)) (H:Hp) (s:Ap):Prop where
 ok:X.Ok
 os:s.os=X.s₀.os
 bare:Ge s.gens
 base:Un X.fs X.ex X.H₀ H X.s₀.heap s.heap
 loc:∃ m,s.heap.Ns X.env.locals m/\∀(i:Ae)(x:Ak)(v:V),X.N[i]?=Ab x->Z[i]?=Ab (Ab v)->Vis X.env.scope x->∃ u,BM v u/\dE X.env s.heap m x u
 cell:∀ x c,X.env.cells.lookup x=Ab c->∃ v,s.heap.IsCell c v
 free:H X.env.locals=Ad
 freeC:∀ x c,X.env.cells.lookup x=Ab c->H c=Ad
 pin:∀ p∈X.pn++pins,s.heap.get? p.1=Ab p.2/\H p.1=Ad/\p.1≠X.env.locals/\p.1∉X.fs/\∀ v,p.2.data≠.cell v
 hok:HOk X.prog X.w H s.heap
 len:Z.length=X.N.length
section
variable{X:Cx}{pins:Pn}{Z:Ac (Ao V)}{H H':Hp}{s:Ap}{h':AK}
theorem Cx.Ok.nofr(ok:X.Ok)(e:X.base.get? b=Ab o):b∉X.fs:=λhb=>by
 have:=(ok.funs.mem hb).1;rw[e]at this;cases this
theorem Inv.bs(I:Inv X pins Z H s):∀ b o,X.base.get? b=Ab o->s.heap.get? b=Ab o/\H b=Ad:=λb o e=>
 ⟨I.base.keep b o (I.ok.bs b o e).1 (I.ok.bs b o e).2 (I.ok.nofr e) (I.ok.noex b o e),I.base.free b o (I.ok.bs b o e).1 (I.ok.bs b o e).2 (I.ok.noex b o e)⟩
theorem Inv.bk(I:Inv X pins Z H s):∀ b o,X.base.get? b=Ab o->s.heap.get? b=Ab o:=λb o e=>(I.bs b o e).1
theorem Inv.mod(I:Inv X pins Z H s):Mod X.K X.mg X.base:=I.ok.mod
theorem Inv.kIn(I:Inv X pins Z H s):X.K.In s.heap:=I.ok.mod.kin.keeps I.bk
theorem Inv.nolimit(I:Inv X pins Z H s):s.heap.NoLimit:=I.ok.mod.nolimit.keeps I.bk
theorem Inv.lt(I:Inv X pins Z H s):X.env.locals<s.heap.objs.size:=let ⟨_,hn,_⟩:=I.loc;hn.lt
theorem Inv.sz(I:Inv X pins Z H s):X.s₀.heap.objs.size<=s.heap.objs.size:=Da I.ok.above (Fx I.lt)
theorem Inv.nofs(I:Inv X pins Z H s)(h:s.heap.objs.size<=a):a∉X.fs:=λhb=>by
 obtain⟨_,o,ho,_⟩:=I.ok.funs.mem hb;exact absurd (AS (AL ho) (Da I.sz h)) (Bk _)
theorem Inv.cne(I:Inv X pins Z H s):∀ x c,X.env.cells.lookup x=Ab c->c≠X.env.locals:=λx c e z=>by
 obtain⟨v,o,ho,hd⟩:=I.cell x c e;obtain⟨m,⟨o',es,ep,ho',hd',_⟩,_⟩:=I.loc;rw[z,ho']at ho;cases ho;rw[hd']at hd;cases hd
theorem Inv.funs(I:Inv X pins Z H s):s.heap.FunFrames X.base X.outer:=by
 have all:∀(l:Ac CU),(∀ b∈frs l,b∈X.fs)->X.s₀.heap.FunFrames X.base l->s.heap.FunFrames X.base l:=by
  intro l
  induction l with
  |nil=>intro _ _;trivial
  |cons env r ih=>
   intro hs hl;obtain⟨hk,⟨L,o,hf,hn,ho,hd⟩,hr⟩:=hl;have hL:L∈X.fs:=hs L (by unfold frs;rw[B6,hf];exact AM)
   obtain⟨sl,e⟩:=I.base.slot L o ho (I.ok.frf L hL) hL λz=>I.ok.exfs L z hL
   exact⟨hk,⟨L,_,hf,hn,e,hd⟩,ih (λb hb=>hs b (by unfold frs;rw[B6,hf];exact AG _ hb)) hr⟩
 exact all X.outer (λ_ hb=>hb) I.ok.funs
theorem Inv.stack(I:Inv X pins Z H s):s.heap.FunFrames X.base X.stack:=by
 rcases I.ok.stk with e|⟨e,hf⟩
 .rw[e];exact I.funs
 .rw[e];obtain⟨m,hn,_⟩:=I.loc;refine .cons (by rw[I.ok.kind];decide) hf hn ?_ I.funs
  exact G7 (Da I.ok.bsz I.ok.above)
theorem Inv.stkSub(I:Inv X pins Z H s):∀ b∈frs X.stack,b∈X.env.locals::X.fs:=λb hb=>by
 rcases I.ok.stk with e|⟨e,hf⟩
 .rw[e]at hb;exact AG _ hb
 .rw[e]at hb;unfold frs at hb;rw[B6,hf]at hb;exact hb
theorem Inv.stkFree(I:Inv X pins Z H s):∀ b∈frs X.stack,H b=Ad:=λb hb=>by
 rcases AJ.mp (I.stkSub b hb) with e|hb
 .rw[e];exact I.free
 .obtain⟨_,o,ho,_⟩:=I.ok.funs.mem hb;exact I.base.free b o ho (I.ok.frf b hb) λz=>I.ok.exfs b z hb
theorem Inv.step(I:Inv X pins Z H s)(hch:∀ b∈ch,(b∈X.ex\/X.s₀.heap.objs.size<=b)/\b≠X.env.locals/\(∀ x c,X.env.cells.lookup x=Ab c->c≠b)/\∀ p∈X.pn++pins,p.1≠b)(keep:∀ b o,b≠X.env.locals->b∉X.fs->b∉ch->s.heap.get? b=Ab o->H b=Ad->h'.get? b=Ab o)(slot:∀ b o,b≠X.env.locals->b∈X.fs->b∉ch->s.heap.get? b=Ab o->H b=Ad->∃ sl,h'.get? b=Ab {o with slots:=sl})(free:∀ b o,b∉ch->s.heap.get? b=Ab o->H b=Ad->H' b=Ad)(there:∀ b o,b∉ch->s.heap.get? b=Ab o->∃ o',h'.get? b=Ab o')(tups:∀ b xs,H b=Ab (.tup xs)->H' b=Ab (.tup xs))(frzs:∀ b o u,H b=Ab (.frz o u)->H' b=Ab (.frz o u))(tbls:∀ b ps,H b=Ab (.tbl ps)->∃ more,H' b=Ab (.tbl (ps++more)))(ns:∀ m,s.heap.Ns X.env.locals m->h'.Ns X.env.locals m)(hok:HOk X.prog X.w H' h')(hg:Ge g'):Inv X pins Z H' {s with heap:=h',gens:=g',drawn:=d',toks:=t'}:=by
 have neL:∀ b o,X.s₀.heap.get? b=Ab o->b≠X.env.locals:=λb o e=>AW (AS (AL e) I.ok.above)
 have neC:∀ b o,X.s₀.heap.get? b=Ab o->b∉X.ex->b∉ch:=λb o e hx hb=>by
  rcases (hch b hb).1 with z|z
  .exact hx z
  .exact absurd (AS (AL e) z) (Bk _)
 have cellK:∀ x c,X.env.cells.lookup x=Ab c->∀ v,s.heap.IsCell c v->h'.IsCell c v:=λx c e v ⟨o,ho,hd⟩=>by
  have nch:c∉ch:=λz=>(hch c z).2.2.1 x c e rfl
  by_cases hc:c∈X.fs
  .obtain⟨sl,q⟩:=slot c o (I.cne x c e) hc nch ho (I.freeC x c e);exact⟨_,q,hd⟩
  .exact⟨o,keep c o (I.cne x c e) hc nch ho (I.freeC x c e),hd⟩
 refine⟨I.ok,I.os,hg,⟨λb o e n hb hx=>?_,λb o e n hb hx=>?_,λb o e n hx=>?_,λb o e hx=>?_,λb xs e=>tups b xs (I.base.tups b xs e),λb o xs e=>frzs b o xs (I.base.frzs b o xs e),λb ps e=>?_⟩,?_,λx c e=>?_,?_,λx c e=>?_,λp hp=>?_,hok,I.len⟩
 .exact keep b o (neL b o e) hb (neC b o e hx) (I.base.keep b o e n hb hx) (I.base.free b o e n hx)
 .obtain⟨sl,e1⟩:=I.base.slot b o e n hb hx;obtain⟨sl',e2⟩:=slot b _ (neL b o e) hb (neC b o e hx) e1 (I.base.free b o e n hx);exact⟨sl',e2⟩
 .obtain⟨o',e1⟩:=I.base.there b o e hx;exact free b o' (neC b o e hx) e1 (I.base.free b o e n hx)
 .obtain⟨o',e1⟩:=I.base.there b o e hx;exact there b o' (neC b o e hx) e1
 .obtain⟨m1,e1⟩:=I.base.tbls b ps e;obtain⟨m2,e2⟩:=tbls b _ e1;exact⟨m1++m2,by rw[e2,Array.append_assoc]⟩
 .obtain⟨m,hn,hl⟩:=I.loc;refine⟨m,ns m hn,λi x v e1 e2 e3=>?_⟩
  obtain⟨u,r,l⟩:=hl i x v e1 e2 e3;refine⟨u,r,?_⟩;rcases l with l|⟨k,c,e,z⟩
  .exact .inl l
  .exact .inr ⟨k,c,e,cellK x c e _ z⟩
 .obtain⟨v,z⟩:=I.cell x c e;exact⟨v,cellK x c e v z⟩
 .obtain⟨m,⟨o,_,_,ho,_⟩,_⟩:=I.loc;exact free _ o (λz=>(hch _ z).2.1 rfl) ho I.free
 .obtain⟨v,o,ho,hd⟩:=I.cell x c e;exact free c o (λz=>(hch c z).2.2.1 x c e rfl) ho (I.freeC x c e)
 .obtain⟨e,n,ne,nf,d⟩:=I.pin p hp;have nch:p.1∉ch:=λz=>(hch p.1 z).2.2.2 p hp rfl
  exact⟨keep p.1 p.2 ne nf nch e n,free p.1 p.2 nch e n,ne,nf,d⟩
theorem Inv.un(I:Inv X pins Z H s)(u:Un X.fs [] H H' s.heap h')(hok:HOk X.prog X.w H' h'):Inv X pins Z H' {s with heap:=h',toks:=t'}:=by
 obtain⟨m,⟨o,es,ep,ho,r⟩,_⟩:=id I.loc;obtain⟨sl,hL⟩:=u.any ho I.free (by simp)
 exact I.step (g':=s.gens) (d':=s.drawn) (ch:=[]) (λ_ z=>nomatch z) (λb o _ hb _ e n=>u.keep b o e n hb (by simp)) (λb o _ hb _ e n=>u.slot b o e n hb (by simp)) (λb o _ e n=>u.free b o e n (by simp)) (λb o _ e=>u.there b o e (by simp)) u.tups u.frzs u.tbls (λm' hm=>by
  obtain⟨o',es',ep',ho',r'⟩:=hm;rw[ho]at ho';cases ho';exact⟨_,es',ep',hL,r'⟩) hok I.bare
theorem Inv.call(I:Inv X pins Z H s)(u:Un (frs X.stack) ch H H' s.heap h')(hok:HOk X.prog X.w H' h')(hg:Ge g')(hch:∀ b∈ch,(b∈X.ex\/X.s₀.heap.objs.size<=b)/\b≠X.env.locals/\(∀ x c,X.env.cells.lookup x=Ab c->c≠b)/\∀ p∈X.pn++pins,p.1≠b):Inv X pins Z H' {s with heap:=h',gens:=g',drawn:=d',toks:=t'}:=by
 obtain⟨m,⟨o,es,ep,ho,r⟩,_⟩:=id I.loc;obtain⟨sl,hL⟩:=u.any ho I.free λz=>(hch _ z).2.1 rfl
 exact I.step (ch:=ch) hch (λb o hL hb hc e n=>u.keep b o e n (λz=>(AJ.mp (I.stkSub b z)).elim hL hb) hc) (λb o _ _ hc e n=>u.any e n hc) (λb o hc e n=>u.free b o e n hc) (λb o hc e=>u.there b o e hc) u.tups u.frzs u.tbls (λm' hm=>by
  obtain⟨o',es',ep',ho',r'⟩:=hm;rw[ho]at ho';cases ho';exact⟨_,es',ep',hL,r'⟩) hok hg
theorem Inv.turned(I:Inv X pins Z H s)(k:∀ b o,b≠it->s.heap.get? b=Ab o->h'.get? b=Ab o)(hn:H it=Ad)(hL:it≠X.env.locals)(h1:it∈X.ex\/X.s₀.heap.objs.size<=it)(h2:∀ x c,X.env.cells.lookup x=Ab c->c≠it)(h3:∀ p∈X.pn++pins,p.1≠it):Inv X pins Z H {s with heap:=h',toks:=t'}:=by
 have nit:∀ b u,H b=Ab u->b≠it:=λb u e z=>by rw[z,hn]at e;cases e
 refine I.step (g':=s.gens) (d':=s.drawn) (ch:=[it]) (λb hb=>?_) (λb o _ _ hc e _=>k b o (λz=>hc (by simp[z])) e) (λb o _ _ hc e _=>⟨o.slots,k b o (λz=>hc (by simp[z])) e⟩) (λ_ _ _ _ n=>n)
  (λb o hc e=>⟨o,k b o (λz=>hc (by simp[z])) e⟩) (λ_ _ e=>e) (λ_ _ _ e=>e) (λb ps e=>⟨#[],by rw[e];simp⟩) (λm hm=>?_) (λb u e=>?_) I.bare
 .have e:b=it:=by simpa using hb
  subst e;exact⟨h1,hL,h2,h3⟩
 .obtain⟨o,es,ep,ho,r⟩:=hm;exact⟨o,es,ep,k _ o (Ea hL) ho,r⟩
 .refine(I.hok b u e).stay (λc v hc q=>k c v ?_ q) (λ_ q=>q) λ_ _ q=>q
  rcases hc with z|z
  .rw[z];exact nit b u e
  .exact nit c _ z
theorem Inv.tok(I:Inv X pins Z H s)(t:Ae):Inv X pins Z H {s with toks:=t}:=I.un (h':=s.heap) (t':=t) Un.refl I.hok
theorem Inv.kept{t':Ae}(I:Inv X pins Z H s)(k:∀ b u,s.heap.get? b=Ab u->h'.get? b=Ab u):Inv X pins Z H {s with heap:=h',toks:=t'}:=I.un (Un.kept k) (I.hok.kept k)
theorem Inv.laid{a:Al}{o:HO}{t':Ae}(I:Inv X pins Z H s)(k:∀ b u,s.heap.get? b=Ab u->h'.get? b=Ab u)(hp:s.heap.objs.size<=a)(new:ObjOk X.prog X.w (upd H a o) h' a o):Inv X pins Z (upd H a o) {s with heap:=h',toks:=t'}:=I.un (Un.laid k hp (I.hok.fresh hp)) (I.hok.laid k hp new)
theorem Inv.write{x e:Al}{o:HO}{t':Ae}(I:Inv X pins Z H s)(mu:Mut (H x))(he:e=x\/H e=Ab (.own x))(k:∀ b u,b≠e->s.heap.get? b=Ab u->h'.get? b=Ab u)(heo:∃ u,h'.get? e=Ab u)(new:ObjOk X.prog X.w (upd H x o) h' x o):Inv X pins Z (upd H x o) {s with heap:=h',toks:=t'}:=I.un (Un.write mu he k heo) (I.hok.write mu he k heo new)
theorem Inv.pins_of{pins':Pn}(I:Inv X pins Z H s)(h:∀ p∈pins',s.heap.get? p.1=Ab p.2/\H p.1=Ad/\p.1≠X.env.locals/\p.1∉X.fs/\∀ v,p.2.data≠.cell v):Inv X pins' Z H s:=
 ⟨I.ok,I.os,I.bare,I.base,I.loc,I.cell,I.free,I.freeC,λp hp=>(DC.mp hp).elim (λz=>I.pin p (FJ _ z)) (h p),I.hok,I.len⟩
theorem Qq{N:Ac Ak}(hN:N.Nodup){j:Ae}(a:N[i]?=Ab x)(b:N[j]?=Ab x):i=j:=by
 obtain⟨h1,e1⟩:=AZ.mp a;obtain⟨h2,e2⟩:=AZ.mp b;exact(Yc hN).mp (e1.trans e2.symm)
theorem Tn{A:AV}{E:Vq}(I:Inv X pins Z H s)(hN:X.N.Nodup)(hi:X.N[i]?=Ab x)(hx:Loc X.env.scope x)(r:BM v u)(h:∀ s',Inv X pins (Z.set i (Ab v)) H s'->(∃ a,DY a s.heap s'.heap/\(a=X.env.locals\/X.env.cells.lookup x=Ab a))->Q () s')(hf:X.fn x=Aa\/X.env.scope.names.lookup x=Ab .local:=by first|exact .inl rfl|exact .inr rfl|assumption):Aw M A (storeName X.env x u) Q E s:=by
 obtain⟨m,hn,hl⟩:=id I.loc;have hcls:(X.env.scope.kind==.class||(X.env.scope.kind==.module&&X.env.locals != X.env.globals))=Af:=by rw[I.ok.kind];rfl
 have hiσ:i<Z.length:=by rw[I.len];exact(AZ.mp hi).1
 have cne:=I.cne;have tracked:∀{a:Al}{h':AK},(∃ o,s.heap.get? a=Ab o/\H a=Ad)->DY a s.heap h'->HOk X.prog X.w H h':=λ{a h'} ha hs b ob e=>by
  obtain⟨_,_,hfree⟩:=ha;refine(I.hok b ob e).stay (λc w' hc q=>(hs.2 c ?_).trans q) (λ_ q=>q) λ_ _ q=>q
  rintro rfl;rcases hc with rfl|hc
  .rw[hfree]at e;cases e
  .rw[hfree]at hc;cases hc
 rcases hx with hk|hk
 .refine wpAny_storeName_local hk hn (λh' hn' hs=>?_) hcls
  obtain⟨oL,_,_,hoL,_⟩:=id hn;refine h _ ⟨I.ok,I.os,I.bare,⟨λb o e n hb hx=>?_,λb o e n hb hx=>?_,I.base.free,λb o e hx=>?_,I.base.tups,I.base.frzs,I.base.tbls⟩,⟨_,hn',λj y v' e1 e2 e3=>?_⟩,λy c e=>?_,I.free,I.freeC,λp hp=>?_,tracked ⟨oL,hoL,I.free⟩ hs,by simpa using I.len⟩ ⟨_,hs,.inl rfl⟩
  .exact(hs.2 b (AW (AS (AL e) I.ok.above))).trans (I.base.keep b o e n hb hx)
  .obtain⟨sl,e1⟩:=I.base.slot b o e n hb hx;exact⟨sl,(hs.2 b (AW (AS (AL e) I.ok.above))).trans e1⟩
  .obtain⟨o',e1⟩:=I.base.there b o e hx;exact⟨o',(hs.2 b (AW (AS (AL e) I.ok.above))).trans e1⟩
  .by_cases hj:j=i
   .subst hj;rw[hi]at e1;cases e1;rw[DD hiσ]at e2;cases e2;exact⟨u,r,.inl ⟨hk,by simp⟩⟩
   .rw[G3 (Ea hj)]at e2;obtain⟨u',r',q⟩:=hl j y v' e1 e2 e3;refine⟨u',r',?_⟩;rcases q with ⟨k,e⟩|⟨k,c,e,z⟩
    .refine .inl ⟨k,?_⟩;have:y≠x:=λe=>hj (Qq hN e1 (e ▸ hi))
     simp[this,e]
    .exact .inr ⟨k,c,e,z.sameBut hs (cne y c e)⟩
  .obtain⟨w',z⟩:=I.cell y c e;exact⟨w',z.sameBut hs (cne y c e)⟩
  .obtain⟨e,n,ne,nf,d⟩:=I.pin p hp;exact⟨(hs.2 p.1 ne).trans e,n,ne,nf,d⟩
 .have hfn:X.fn x=Aa:=by
   rcases hf with z|z
   .exact z
   .rw[z]at hk;cases hk
  obtain⟨c,hc⟩:=I.ok.has x (.inl hk);obtain⟨w',z⟩:=I.cell x c hc;refine wpAny_storeName_cell I.ok.kind hk hc z (λh' hc' hs=>?_)
  obtain⟨oc,hoc,hocd⟩:=id z;refine h {s with heap:=h'} ⟨I.ok,I.os,I.bare,⟨λb o e n hb hx=>?_,λb o e n hb hx=>?_,I.base.free,λb o e hx=>?_,I.base.tups,I.base.frzs,I.base.tbls⟩,⟨m,hn.sameBut hs (Ea (cne x c hc)),λj y v' e1 e2 e3=>?_⟩,λy c' e=>?_,I.free,I.freeC,λp hp=>?_,tracked ⟨oc,hoc,I.freeC x c hc⟩ hs,by simpa using I.len⟩ ⟨c,hs,.inr hc⟩
  .exact(hs.2 b (AW (AS (AL e) (I.ok.cab x c hfn hc)))).trans (I.base.keep b o e n hb hx)
  .obtain⟨sl,e1⟩:=I.base.slot b o e n hb hx;exact⟨sl,(hs.2 b (AW (AS (AL e) (I.ok.cab x c hfn hc)))).trans e1⟩
  .obtain⟨o',e1⟩:=I.base.there b o e hx;exact⟨o',(hs.2 b (AW (AS (AL e) (I.ok.cab x c hfn hc)))).trans e1⟩
  .by_cases hj:j=i
   .subst hj;rw[hi]at e1;cases e1;rw[DD hiσ]at e2;cases e2;exact⟨u,r,.inr ⟨.inl hk,c,hc,hc'⟩⟩
   .rw[G3 (Ea hj)]at e2;obtain⟨u',r',q⟩:=hl j y v' e1 e2 e3;refine⟨u',r',?_⟩;rcases q with q|⟨k,c',e,z'⟩
    .exact .inl q
    .refine .inr ⟨k,c',e,z'.sameBut hs ?_⟩;rintro rfl;exact hj (Qq hN e1 (I.ok.inj _ _ _ e hc ▸ hi))
  .by_cases hcc:c'=c
   .subst hcc;exact⟨_,hc'⟩
   .obtain⟨w2,z2⟩:=I.cell y c' e;exact⟨w2,z2.sameBut hs hcc⟩
  .obtain⟨e,n,ne,nf,d⟩:=I.pin p hp;refine⟨(hs.2 p.1 ?_).trans e,n,ne,nf,d⟩;intro q;rw[q,hoc]at e;have q':oc=p.2:=Bf e;exact d w' (by rw[<-q'];exact hocd)
theorem Qh{A:AV}{E:Vq}(I:Inv X pins Z H s)(hN:X.N.Nodup)(hi:X.N[i]?=Ab x)(hx:Loc X.env.scope x)(r:BM v u)(h:∀ s',Inv X pins (Z.set i (Ab v)) H s'->Q () s')(hf:X.fn x=Aa\/X.env.scope.names.lookup x=Ab .local:=by first|exact .inl rfl|exact .inr rfl|assumption):Aw M A (storeName X.env x u) Q E s:=
 Tn I hN hi hx r (λs' I' _=>h s' I') hf
theorem Inv.call'{s':Ap}(I:Inv X pins Z H s)(ho:s'.os=s.os)(u:Un (frs X.stack) ch H H' s.heap s'.heap)(hok:HOk X.prog X.w H' s'.heap)(hg:Ge s'.gens)(hch:∀ b∈ch,(b∈X.ex\/X.s₀.heap.objs.size<=b)/\b≠X.env.locals/\(∀ x c,X.env.cells.lookup x=Ab c->c≠b)/\∀ p∈X.pn++pins,p.1≠b):Inv X pins Z H' s':=by
 obtain⟨h',g',d',t',o'⟩:=s';have e:o'=s.os:=ho;subst e;exact I.call (g':=g') (t':=t') (d':=d') u hok hg hch
end
abbrev XK:=Ai->Ao Al->Hp->Prop
abbrev St:=Ac (Ao V)
variable{Z:St}
abbrev VK:=V->Hp->Prop
abbrev TE:=St->Hp->VK->Prop
abbrev TT:=St->Hp->(Aj->Hp->Prop)->Prop
abbrev TA:=St->Hp->(Ac V->Hp->Prop)->Prop
variable{ta:TA}
structure Ends where
 nx:St->Hp->Prop
 rt:VK
 bk:St->Hp->Prop:=λ_ _=>Ba
 ct:St->Hp->Prop:=λ_ _=>Ba
abbrev TS:=Ends->St->Hp->Prop
def EP(X:Cx)(pins:Pn)(Z:St)(Q:VK)(u:Ai)(s':Ap):Prop:=∃ v H',Inv X pins Z H' s'/\BM v u/\Q v H'
def TP(X:Cx)(pins:Pn)(Z:St)(Q:Aj->Hp->Prop)(b:Aj)(s':Ap):Prop:=∃ H',Inv X pins Z H' s'/\Q b H'
def AP(X:Cx)(pins:Pn)(Z:St)(Q:Ac V->Hp->Prop)(us:Ac Ai)(s':Ap):Prop:=∃ vs H',Inv X pins Z H' s'/\Bb vs us/\Q vs H'
noncomputable def SP(X:Cx)(pins:Pn)(D:Ends)(f:Flow)(s':Ap):Prop:=
  match f with
  |.next=>∃ Z' H',Inv X pins Z' H' s'/\D.nx Z' H'
  |.brk=>∃ Z' H',Inv X pins Z' H' s'/\D.bk Z' H'
  |.cont=>∃ Z' H',Inv X pins Z' H' s'/\D.ct Z' H'
  |.ret u=>∃ v Z' H',Inv X pins Z' H' s'/\BM v u/\D.rt v H'
noncomputable def PE(X:Cx)(e:An)(t:TE):Prop:=
 ∀(pins:Pn)(s:Ap)(Z:St)(H:Hp)(Q:VK),Inv X pins Z H s->t Z H Q->Aw (model X.prog X.w) X.A (eval e X.env) (EP X pins Z Q) X.xe s
noncomputable def PT(X:Cx)(e:An)(t:TT):Prop:=
 ∀(pins:Pn)(s:Ap)(Z:St)(H:Hp)(Q:Aj->Hp->Prop),Inv X pins Z H s->t Z H Q->Aw (model X.prog X.w) X.A (JH e X.env (eval e X.env)) (TP X pins Z Q) X.xe s
noncomputable def PW(X:Cx)(e:An)(t:TT):Prop:=
 ∀(whole:DZ Ai)(pins:Pn)(s:Ap)(Z:St)(H:Hp)(Q:Aj->Hp->Prop),Inv X pins Z H s->t Z H Q->Aw (model X.prog X.w) X.A (JH e X.env whole) (TP X pins Z Q) X.xe s
theorem PW.pt{t:TT}(h:PW X e t):PT X e t:=h _
noncomputable def PA(X:Cx)(es:Ac An)(t:TA):Prop:=
 ∀(pos:AY)(pins:Pn)(s:Ap)(Z:St)(H:Hp)(Q:Ac V->Hp->Prop),Inv X pins Z H s->t Z H Q->Aw (model X.prog X.w) X.A (spliced (Cc pos (AB es X.env))) (AP X pins Z Q) X.xe s
noncomputable def PS(X:Cx)(st:A7)(t:TS):Prop:=
 ∀(pins:Pn)(s:Ap)(Z:St)(H:Hp)(D:Ends),Inv X pins Z H s->t D Z H->Aw (model X.prog X.w) X.A (exec st X.env) (SP X pins D) X.xe s
noncomputable def PSs(X:Cx)(st:Ac A7)(t:TS):Prop:=
 ∀(pins:Pn)(s:Ap)(Z:St)(H:Hp)(D:Ends),Inv X pins Z H s->t D Z H->Aw (model X.prog X.w) X.A (execs st X.env) (SP X pins D) X.xe s
theorem thn{α:Type}{t:DZ α}{Q Q':α->Ap->Prop}{A:AV}{E:Vq}(h:Aw M A t Q E s)(hQ:∀ a s,Q a s->Q' a s):Aw M A t Q' E s:=BJ h hQ λ_ _ x=>x
section
variable{X:Cx}
def J5(i:Ae):TE:=λZ H Q=>∃ v,Z[i]?=Ab (Ab v)/\Q v H
def tC(v:V):TE:=λ_ H Q=>Q v H
theorem VZ(hN:X.N[i]?=Ab x)(hv:Vis X.env.scope x)(hd:(x==("__debug__" : Ak))=Af:=by decide)(hcd:(x==("__classdict__" : Ak))=Af:=by decide):PE X (.Name x pos) (J5 i):=by
 intro pins s Z H Q I h;obtain⟨v,e,h⟩:=h;obtain⟨m,hn,hl⟩:=I.loc;obtain⟨u,r,l⟩:=hl i x v hN e hv;have fin:EP X pins Z Q u s:=⟨v,H,I,r,h⟩;rcases l with ⟨hk,hm⟩|⟨hk,c,hc,hcell⟩
 .exact LJ (wpAny_loadName_local I.ok.kind hk hn hm fin) hd
 .rcases hk with hk|hk
  .exact LJ (wpAny_loadName_cell I.ok.kind hk hc hcell fin) hd
  .exact LJ (wpAny_loadName_free I.ok.kind hk hc hcell fin hcd) hd
theorem uV{i j pos}:PE X (.Constant (.int i) j pos) (tC (.int i)):=λ_ _ _ H _ I h=>wpAny_Constant_int ⟨.int i,H,I.tok _,⟨_,rfl⟩,h⟩
theorem zQ{b j pos}:PE X (.Constant (.bool b) j pos) (tC (.bl b)):=λ_ _ _ H _ I h=>Constant_bool ⟨.bl b,H,I,rfl,h⟩
theorem uT{j pos}:PE X (.Constant .none j pos) (tC .non):=λ_ _ _ H _ I h=>Constant_none ⟨.non,H,I,rfl,h⟩
theorem rZ{x j pos}:PE X (.Constant (.str x) j pos) (tC (.str x)):=λ_ _ _ H _ I h=>Calls.Constant_str ⟨.str x,H,I.tok _,⟨_,rfl⟩,h⟩
def Gl(X:Cx)(x:Ak):Prop:=X.env.kindOf x=Ab .globalImplicit
theorem Nh{E:Vq}{Q:Vq}(I:Inv X pins Z H s)(hg:Gl X x)(hm:X.mg x=Ab u)(h:Q u s)(hd:(x==("__debug__" : Ak))=Af:=by decide):Aw (model X.prog X.w) X.A (eval (.Name x pos) X.env) Q E s:=
 YX I.ok.kind hg (Calls.loadGlobal_global (by rw[I.ok.glob];exact I.mod.glob.keeps I.bk) hm h) hd
theorem IF{E:Vq}{Q:Vq}(I:Inv X pins Z H s)(hg:Gl X x)(hm:X.mg x=Ad)(hv:Dc x=Ab u)(h:Q u s)(hn:x≠"__name__" := by decide)(hd:(x==("__debug__" : Ak))=Af:=by decide):Aw (model X.prog X.w) X.A (eval (.Name x pos) X.env) Q E s:=by
 obtain⟨mb,h1,h2⟩:=I.mod.blt;exact YX I.ok.kind hg (Calls.loadGlobal_builtin (by rw[I.ok.glob];exact I.mod.glob.keeps I.bk) hm (by rw[I.ok.blt];exact h1.keeps I.bk) ((h2 x hn).trans hv) h) hd
theorem U_7(hg:Gl X x)(hm:X.mg x=Ab u)(r:BM v u)(hd:(x==("__debug__" : Ak))=Af:=by decide):PE X (.Name x pos) (tC v):=
 λ_ _ _ H _ I h=>Nh I hg hm ⟨v,H,I,r,h⟩ hd
theorem U_9(hg:Gl X x)(hm:X.mg x=Ad)(hv:Dc x=Ab u)(r:BM v u)(hn:x≠"__name__" := by decide)(hd:(x==("__debug__" : Ak))=Af:=by decide):PE X (.Name x pos) (tC v):=
 λ_ _ _ H _ I h=>IF I hg hm hv ⟨v,H,I,r,h⟩ hn hd
variable{a b:An}{ta tb:TE}{pos:AY}
variable{tA tB':TT}{rest:Ac An}
def cW(t u:TT):TT:=λZ H Q=>t Z H λc H1=>if c=Aa then u Z H1 Q else Q Af H1
def tOr(t u:TT):TT:=λZ H Q=>t Z H λc H1=>if c=Aa then Q Aa H1 else u Z H1 Q
def cR(t:TT):TT:=λZ H Q=>t Z H λc H1=>Q (!c) H1
theorem oJ(ha:PT X a tA):PW X (.BoolOp .And [a] pos) tA:=by
 intro wh pins s Z H Q I h;refine isTrue_and (thn (ha pins s Z H Q I h) λc s1 e=>?_)
 cases c with
 |true=>exact isTrue_and_nil e
 |false=>exact e
theorem sW(ha:PT X a tA):PW X (.BoolOp .Or [a] pos) tA:=by
 intro wh pins s Z H Q I h;refine isTrue_or (thn (ha pins s Z H Q I h) λc s1 e=>?_)
 cases c with
 |false=>exact isTrue_or_nil e
 |true=>exact e
theorem sX(ha:PT X a tA)(hb:PW X (.BoolOp .And (b::rest) pos) tB'):PW X (.BoolOp .And (a::b::rest) pos) (cW tA tB'):=by
 intro wh pins s Z H Q I h;refine isTrue_and (thn (ha pins s Z H _ I h) λc s1 ⟨H1,I1,q1⟩=>?_)
 cases c with
 |true=>exact hb wh pins s1 Z H1 Q I1 q1
 |false=>exact⟨H1,I1,q1⟩
theorem xJ(ha:PT X a tA)(hb:PW X (.BoolOp .Or (b::rest) pos) tB'):PW X (.BoolOp .Or (a::b::rest) pos) (tOr tA tB'):=by
 intro wh pins s Z H Q I h;refine isTrue_or (thn (ha pins s Z H _ I h) λc s1 ⟨H1,I1,q1⟩=>?_)
 cases c with
 |true=>exact⟨H1,I1,q1⟩
 |false=>exact hb wh pins s1 Z H1 Q I1 q1
theorem sY(ha:PT X a tA):PT X (.UnaryOp .Not a pos) (cR tA):=by
 intro pins s Z H Q I h;exact isTrue_not (ha pins s Z H (λc H1=>Q (!c) H1) I h)
def wV(ta tb:TE):TE:=λZ H Q=>ta Z H λx H1=>∃ c,x=.bl c/\if c=Aa then tb Z H1 Q else Q (.bl Af) H1
def cQ(ta tb:TE):TE:=λZ H Q=>ta Z H λx H1=>∃ c,x=.bl c/\if c=Aa then Q (.bl Aa) H1 else tb Z H1 Q
def wQ(ta:TE):TE:=λZ H Q=>ta Z H λx H1=>∃ c,x=.bl c/\Q (.bl (!c)) H1
theorem sA{op}{t:TE}(h:PE X a t):PE X (.BoolOp op [a] pos) t:=λpins s Z H Q I hw=>BoolOp_one (h pins s Z H Q I hw)
theorem uW(ha:PE X a ta)(hb:PE X (.BoolOp .And (b::rest) pos) tb):PE X (.BoolOp .And (a::b::rest) pos) (wV ta tb):=by
 intro pins s Z H Q I h;refine BoolOp_and (thn (ha pins s Z H _ I h) λv s1 ⟨x,H1,I1,r1,q1⟩=>?_)
 obtain⟨c,rfl,q1⟩:=q1;cases r1;refine DA ?_;cases c with
 |true=>exact hb pins s1 Z H1 Q I1 q1
 |false=>exact⟨.bl Af,H1,I1,rfl,q1⟩
theorem xO(ha:PE X a ta)(hb:PE X (.BoolOp .Or (b::rest) pos) tb):PE X (.BoolOp .Or (a::b::rest) pos) (cQ ta tb):=by
 intro pins s Z H Q I h;refine BoolOp_or (thn (ha pins s Z H _ I h) λv s1 ⟨x,H1,I1,r1,q1⟩=>?_)
 obtain⟨c,rfl,q1⟩:=q1;cases r1;refine DA ?_;cases c with
 |false=>exact hb pins s1 Z H1 Q I1 q1
 |true=>exact⟨.bl Aa,H1,I1,rfl,q1⟩
theorem sB(ha:PE X a ta):PE X (.UnaryOp .Not a pos) (wQ ta):=by
 intro pins s Z H Q I h;refine UnaryOp_ (thn (ha pins s Z H _ I h) λv s1 ⟨x,H1,I1,r1,q1⟩=>?_)
 obtain⟨c,rfl,q1⟩:=q1;cases r1;exact not_of (DA ⟨.bl (!c),H1,I1,rfl,q1⟩)
def tIf(t:TT)(ta tb:TE):TE:=λZ H Q=>t Z H λc H1=>if c=Aa then ta Z H1 Q else tb Z H1 Q
theorem kC(hc:PT X c tA)(ha:PE X a ta)(hb:PE X b tb):PE X (.IfExp c a b pos) (tIf tA ta tb):=by
 intro pins s Z H Q I h;refine wpAny_IfExp (thn (hc pins s Z H _ I h) λd s1 ⟨H1,I1,q1⟩=>?_)
 cases d with
 |true=>exact ha pins s1 Z H1 Q I1 q1
 |false=>exact hb pins s1 Z H1 Q I1 q1
end
noncomputable def SqL(K:Fg)(H:Hp)(a:Al)(xs:Ac V):Prop:=
 Rd H a (.lst xs) \/
  ∃(o:Dx)(its:Au Ai)(n:Ae),K.lookup a=Ab o/\o.cls=.type "list"/\o.dict=Ad/\o.data=.seq its n/\its.size<=sizeLine/\Bb xs its.toList
noncomputable def SqT(K:Fg)(H:Hp)(a:Al)(xs:Ac V):Prop:=
 Rd H a (.tup xs) \/
  ∃(o:Dx)(its:Au Ai)(n:Ae),K.lookup a=Ab o/\o.cls=.type "tuple"/\o.data=.seq its n/\its.size<=sizeLine/\Bb xs its.toList
noncomputable def bP:Ai->Ao V
 |.none=>Ab .non
 |.bool b=>Ab (.bl b)
 |.int i _=>Ab (.int i)
 |.str x _=>Ab (.str x)
 |.bytes b _=>Ab (.byt b)
 |.float b _=>Ab (.flt b)
 |.ref a=>Ab (.ref a)
 |.type n=>Ab (.ty n)
 |_=>Ad
theorem BM.abs{x:V}(r:BM x u):bP u=Ab x:=by
 cases x with
 |non=>cases r;rfl
 |bl _=>cases r;rfl
 |int _=>obtain⟨t,rfl⟩:=r;rfl
 |str _=>obtain⟨t,rfl⟩:=r;rfl
 |byt _=>obtain⟨t,rfl⟩:=r;rfl
 |flt _=>obtain⟨t,rfl⟩:=r;rfl
 |ref _=>cases r;rfl
 |ty _=>cases r;rfl
theorem BM.inj{x y:V}(r:BM x u)(q:BM y u):x=y:=Bf (r.abs.symm.trans q.abs)
theorem Bb.inj:∀{xs ys:Ac V}{us:Ac Ai},Bb xs us->Bb ys us->xs=ys
 |_,_,_,.nil,.nil=>rfl
 |_,_,_,.cons r t,.cons r' t'=>by rw[r.inj r',Bb.inj t t']
section
variable{X:Cx}{pins:Pn}{Z:St}{H:Hp}{s:Ap}{a:Al}{xs ys:Ac V}
theorem SqL.of{K:Fg}(h:H a=Ab (.lst xs)):SqL K H a xs:=.inl (.inl h)
theorem SqT.of{K:Fg}(h:H a=Ab (.tup xs)):SqT K H a xs:=.inl (.inl h)
theorem Inv.list(I:Inv X pins Z H s)(h:SqL X.K H a xs):∃ its:Ac Ai,Bb xs its/\PlainL s.heap a its.toArray/\xs.length<=sizeLine:=by
 rcases h with h|⟨o,its,n,hk,hc,hd,hs,hz,r⟩
 .obtain⟨z,its,n,r,e⟩:=h.ok I.hok;exact⟨its,r,⟨_,n,e,rfl,rfl,rfl⟩,z⟩
 .refine⟨its.toList,r,⟨o,n,I.kIn a o hk,hc,hd,by simpa using hs⟩,?_⟩
  have e:=r.length;simp only[AR]at e;omega
theorem Inv.tuple(I:Inv X pins Z H s)(h:SqT X.K H a xs):∃ its:Ac Ai,Bb xs its/\MG s.heap a its.toArray/\xs.length<=sizeLine:=by
 rcases h with h|⟨o,its,n,hk,hc,hs,hz,r⟩
 .obtain⟨z,its,r,p⟩:=h.ok I.hok;exact⟨its,r,p,z⟩
 .refine⟨its.toList,r,⟨o,I.kIn a o hk,hc,n,by simpa using hs⟩,?_⟩
  have e:=r.length;simp only[AR]at e;omega
theorem Inv.list_inj(I:Inv X pins Z H s)(h:SqL X.K H a xs)(h':SqL X.K H a ys):xs=ys:=by
 obtain⟨its,r,⟨o,n,e,_,_,d⟩,_⟩:=I.list h;obtain⟨its',r',⟨o',n',e',_,_,d'⟩,_⟩:=I.list h';rw[e]at e';cases e';rw[d]at d'
 injection d' with d1 _
 have:its=its':=by simpa using congrArg Kk d1
 subst this;exact r.inj r'
theorem Inv.tuple_inj(I:Inv X pins Z H s)(h:SqT X.K H a xs)(h':SqT X.K H a ys):xs=ys:=by
 obtain⟨its,r,⟨o,e,_,n,d⟩,_⟩:=I.tuple h;obtain⟨its',r',⟨o',e',_,n',d'⟩,_⟩:=I.tuple h';rw[e]at e';cases e';rw[d]at d'
 injection d' with d1 _
 have:its=its':=by simpa using congrArg Kk d1
 subst this;exact r.inj r'
end
noncomputable abbrev Cx.wish(X:Cx)(E:Vq):Cx:={X with xe:=E}
noncomputable abbrev Cx.nox(X:Cx):Cx:=X.wish λ_ _=>Ba
theorem Cx.Ok.wish(ok:X.Ok)(E:Vq):(X.wish E).Ok:=
 ⟨ok.mod,ok.kind,ok.glob,ok.blt,ok.above,ok.inj,ok.has,ok.cab,ok.hd,ok.frames,ok.stk,ok.exf,ok.bs,ok.bsz,ok.noex,ok.exfs,ok.funs,ok.frf⟩
theorem Cx.Ok.unwish{E:Vq}(ok:(X.wish E).Ok):X.Ok:=
 ⟨ok.mod,ok.kind,ok.glob,ok.blt,ok.above,ok.inj,ok.has,ok.cab,ok.hd,ok.frames,ok.stk,ok.exf,ok.bs,ok.bsz,ok.noex,ok.exfs,ok.funs,ok.frf⟩
section
variable{X:Cx}{pins:Pn}{Z:St}{H:Hp}{s:Ap}{E:Vq}
theorem Inv.wish(I:Inv X pins Z H s)(E:Vq):Inv (X.wish E) pins Z H s:=⟨I.ok.wish E,I.os,I.bare,I.base,I.loc,I.cell,I.free,I.freeC,I.pin,I.hok,I.len⟩
theorem Inv.unwish(I:Inv (X.wish E) pins Z H s):Inv X pins Z H s:=⟨I.ok.unwish,I.os,I.bare,I.base,I.loc,I.cell,I.free,I.freeC,I.pin,I.hok,I.len⟩
theorem SP.unwish{D:Ends}{f:Flow}{s':Ap}(h:SP (X.wish E) pins D f s'):SP X pins D f s':=by
 cases f with
 |next=>obtain⟨Z',H',I,q⟩:=h;exact⟨Z',H',I.unwish,q⟩
 |brk=>obtain⟨Z',H',I,q⟩:=h;exact⟨Z',H',I.unwish,q⟩
 |cont=>obtain⟨Z',H',I,q⟩:=h;exact⟨Z',H',I.unwish,q⟩
 |ret u=>obtain⟨v,Z',H',I,r,q⟩:=h;exact⟨v,Z',H',I.unwish,r,q⟩
theorem PSs.nox{st:Ac A7}{t:TS}(h:PSs X.nox st t):PSs X st t:=λpins s Z H D I hw=>
 BJ (h pins s Z H D (I.wish _) hw) (λ_ _ q=>q.unwish) λ_ _ z=>BH z
end
section
variable{X:Cx}{st:A7}{rest:Ac A7}{t u:TS}{e:An}{te:TE}{pos:AY}
def wR:TS:=λD Z H=>D.nx Z H
def cO(t u:TS):TS:=λD Z H=>t {D with nx:=u D} Z H
theorem oP:PSs X [] wR:=λ_ _ Z H _ I h=>F0 ⟨Z,H,I,h⟩
theorem jY(h1:PS X st t)(h2:PSs X rest u):PSs X (st::rest) (cO t u):=by
 intro pins s Z H D I h;refine IB (thn (h1 pins s Z H {D with nx:=u D} I h) λf s1 q=>?_)
 cases f with
 |next=>
  obtain⟨Z',H',I',q⟩:=q;exact h2 pins s1 Z' H' D I' q
 |ret v=>exact q
 |brk=>exact q
 |cont=>exact q
theorem Oh(h1:PS X st t):PSs X [st] t:=by
 intro pins s Z H D I h;refine IB (thn (h1 pins s Z H D I h) λf s1 q=>?_)
 cases f with
 |next=>exact F0 q
 |ret v=>exact q
 |brk=>exact q
 |cont=>exact q
theorem Inv.quiet(I:Inv X pins Z H s):interactive X.env=Af:=by simp[interactive,I.ok.kind]
def wS(te:TE):TS:=λD Z H=>te Z H λ_ H1=>D.nx Z H1
theorem LY(he:PE X e te)(hs:DN e Ad pos.line X.env=pure Af:=by rfl):PS X (.Expr e pos) (wS te):=by
 intro pins s Z H D I h;exact wpAny_Expr_any (thn (he pins s Z H _ I h) λv s1 ⟨x,H1,I1,r1,q1⟩=>⟨Z,H1,I1,q1⟩) I.quiet hs
def cP(te:TE):TS:=λD Z H=>te Z H D.rt
theorem Ra(he:PE X e te):PS X (.Return (Ab e) pos) (cP te):=by
 intro pins s Z H D I h;exact wpAny_Return_some (thn (he pins s Z H _ I h) λv s1 ⟨x,H1,I1,r1,q1⟩=>⟨x,Z,H1,I1,r1,q1⟩)
def cU(c:TT)(t u:TS):TS:=λD Z H=>c Z H λb H1=>if b=Aa then t D Z H1 else u D Z H1
theorem xL{a b:Ac A7}{tc:TT}(hc:PT X c tc)(ha:PSs X a t)(hb:PSs X b u):PS X (.If c a b pos) (cU tc t u):=by
 intro pins s Z H D I h;refine wpAny_If (thn (hc pins s Z H _ I h) λd s1 ⟨H1,I1,q1⟩=>?_)
 cases d with
 |true=>exact ha pins s1 Z H1 D I1 q1
 |false=>exact hb pins s1 Z H1 D I1 q1
end
abbrev TG:=V->St->Hp->(St->Hp->Prop)->Prop
abbrev TGs:=Ac V->St->Hp->(St->Hp->Prop)->Prop
noncomputable def PG(X:Cx)(target:An)(t:TG):Prop:=
 ∀(pins:Pn)(s:Ap)(Z:St)(H:Hp)(v:V)(u:Ai)(Q:St->Hp->Prop),Inv X pins Z H s->BM v u->t v Z H Q ->
  Aw (model X.prog X.w) X.A (assign target X.env u) (λ_ s'=>∃ Z' H',Inv X pins Z' H' s'/\Q Z' H') X.xe s
noncomputable def PGs(X:Cx)(ts:Ac An)(t:TGs):Prop:=
 ∀(pins:Pn)(s:Ap)(Z:St)(H:Hp)(vs:Ac V)(us:Ac Ai)(Q:St->Hp->Prop),Inv X pins Z H s->Bb vs us->t vs Z H Q ->
  Aw (model X.prog X.w) X.A (assignInOrder ((ES ts X.env).map (·.2)) us) (λ_ s'=>∃ Z' H',Inv X pins Z' H' s'/\Q Z' H') X.xe s
section
variable{X:Cx}{pos:AY}
def HW(i:Ae):TG:=λv Z H Q=>Q (Z.set i (Ab v)) H
theorem Ob(hN:X.N.Nodup)(hi:X.N[i]?=Ab x)(hx:Loc X.env.scope x)(hf:X.fn x=Aa\/X.env.scope.names.lookup x=Ab .local:=by first|exact .inl rfl|exact .inr rfl|assumption):PG X (.Name x pos) (HW i):=by
 intro pins s Z H v u Q I r h;exact aZ (Qh I hN hi hx r (λs' I'=>⟨_,H,I',h⟩) hf)
def NG:TGs:=λvs Z H Q=>vs=[]/\Q Z H
def NC(t:TG)(u:TGs):TGs:=λvs Z H Q=>∃ v r,vs=v::r/\t v Z H λZ' H'=>u r Z' H' Q
theorem mZ:PGs X [] NG:=by
 intro pins s Z H vs us Q I r h;obtain⟨e,h⟩:=h;subst e;cases r;exact assignInOrder_nil ⟨Z,H,I,h⟩
theorem kB{t:TG}{u:TGs}(h1:PG X e t)(h2:PGs X es u)(hs:(ES (e::es) X.env).map (·.2)=assign e X.env::(ES es X.env).map (·.2):=by rfl):PGs X (e::es) (NC t u):=by
 intro pins s Z H vs us Q I r h;obtain⟨v,vr,e1,h⟩:=h;subst e1;cases r with
 |cons r rr=>
  rw[hs];refine assignInOrder_cons (thn (h1 pins s Z H _ _ _ I r h) λ_ s1 ⟨Z1,H1,I1,q1⟩=>?_)
  exact h2 pins s1 Z1 H1 _ _ Q I1 rr q1
def Sb(K:Fg)(n:Ae)(t:TGs):TG:=λv Z H Q=>∃ a xs,v=.ref a/\SqT K H a xs/\xs.length=n/\t xs Z H Q
theorem rY{t:TGs}(hc:X.calm=Aa)(h:PGs X es t)(hn:(ES es X.env).length=n:=by rfl)(hst:(ES es X.env).findIdx? (·.1)=Ad:=by rfl):PG X (.Tuple es k pos) (Sb X.K n t):=by
 intro pins s Z H v u Q I r hw;obtain⟨a,xs,e1,hq,hl,hw⟩:=hw;subst e1;cases r;obtain⟨its,rv,ht,hz⟩:=I.tuple hq;refine assign_Tuple_tuple (I.ok.hd hc) ht (by simp[hn,<-hl,rv.length]) hst λh' hx=>?_
 have I1:Inv X pins Z H {s with heap:=h'}:=I.kept (t':=s.toks) λb o e=>hx b o (AW (AL e)) e
 exact h pins _ Z H xs _ Q I1 (by simpa using rv) hw
def RY(te:TE)(g:TG):TS:=λD Z H=>te Z H λx H1=>g x Z H1 D.nx
theorem OC{te:TE}{pos':AY}(hN:X.N.Nodup)(hi:X.N[i]?=Ab x)(hx:Loc X.env.scope x)(he:PE X e te)(hs:DN e (Ab (.Name x pos')) pos.line X.env=pure Af:=by rfl)(hf:X.fn x=Aa\/X.env.scope.names.lookup x=Ab .local:=by first|exact .inl rfl|exact .inr rfl|assumption):PS X (.Assign [.Name x pos'] e pos) (RY te (HW i)):=by
 intro pins s Z H D I h;refine wpAny_Assign_Name (thn (he pins s Z H _ I h) λv s1 ⟨y,H1,I1,r1,q1⟩=>?_) hs
 exact Qh I1 hN hi hx r1 (λs2 I2=>⟨_,H1,I2,q1⟩) hf
end
section
variable{X:Cx}{pos:AY}
end
structure It where
 go:Ae->Hp->Prop
 yld:Ae->Hp->V->Hp->Prop
 stop:Ae->Hp->Prop
noncomputable def Hh(X:Cx)(pins:Pn)(H:Hp)(b:Al):Prop:=
 H b=Ad/\b≠X.env.locals/\b∉X.fs/\(b∈X.ex\/X.s₀.heap.objs.size<=b)/\(∀ x c,X.env.cells.lookup x=Ab c->c≠b)/\∀ p∈X.pn++pins,p.1≠b
theorem Inv.fpOk{H':Hp}(I:Inv X pins Z H s)(hb:s.heap.objs.size<=b)(hn:H' b=Ad):Hh X pins H' b:=by
 refine⟨hn,E1 (AS I.lt hb),I.nofs hb,.inr (Da I.sz hb),λx c e z=>?_,λp hp z=>?_⟩
 .obtain⟨v,q⟩:=I.cell x c e;exact absurd (AS q.lt (by rw[z];exact hb)) (Bk _)
 .exact absurd (AS (AL (I.pin p hp).1) (by rw[z];exact hb)) (Bk _)
structure Turn (P:AQ) (w:AT) (K:Fg) (tg:An) (J:It) (fp:Ac Al) (it:Al) (tn:Ae->AK->Prop):Prop where
 mem:it∈fp
 obj:∀ i h,tn i h->∀ b∈fp,∃ o,h.get? b=Ab o/\∀ v,o.data≠.cell v
 keep:∀ i h h',tn i h->(∀ b∈fp,∀ o,h.get? b=Ab o->h'.get? b=Ab o)->tn i h'
 item:∀(X:Cx),X.prog=P->X.w=w->X.K=K->X.calm=Aa->∀(i:Ae)(pins:Pn)(s:Ap)(Z:St)(H:Hp)(E:Vq),Inv X pins Z H s->(∀ b∈fp,Hh X pins H b)->tn i s.heap->J.go i H ->
  Aw (model P w) X.A (Fm (.ref it)) (λr s1=>∃ u,r=Ab u /\
   Aw (model P w) X.A (G9 tg (.ref it) u) (λ_ s2=>∃ x H',Inv X pins Z H' s2/\BM x u/\J.yld i H x H'/\tn (i+1) s2.heap/\∀ b∈fp,H' b=Ad) E s1) E s
 done:∀(X:Cx),X.prog=P->X.w=w->X.K=K->X.calm=Aa->∀(i:Ae)(pins:Pn)(s:Ap)(Z:St)(H:Hp)(E:Vq),Inv X pins Z H s->(∀ b∈fp,Hh X pins H b)->tn i s.heap->J.stop i H ->
  Aw (model P w) X.A (Fm (.ref it)) (λr s1=>r=Ad/\Inv X pins Z H s1) E s
 self:∀(A:AV)(i:Ae)(s:Ap)(Q:Vq)(E:Vq),tn i s.heap->Q (.ref it) s->Aw (model P w) A (HK (.ref it)) Q E s
abbrev TI:=St->Hp->(It->Hp->Prop)->Prop
noncomputable def PIE(X:Cx)(pins:Pn)(Z:St)(tg:An)(R:It->Hp->Prop)(itv:Ai)(s2:Ap):Prop:=
 ∃(it:Al)(fp:Ac Al)(tn:Ae->AK->Prop)(J:It)(H':Hp),itv=.ref it/\Inv X pins Z H' s2/\Turn X.prog X.w X.K tg J fp it tn/\tn 0 s2.heap/\(∀ b∈fp,Hh X pins H' b)/\R J H'
noncomputable def PI(X:Cx)(tg iter:An)(wi:TI):Prop:=
 ∀(pins:Pn)(s:Ap)(Z:St)(H:Hp)(R:It->Hp->Prop),Inv X pins Z H s->wi Z H R ->
  Aw (model X.prog X.w) X.A (eval iter X.env) (λv s1=>Aw (model X.prog X.w) X.A (HK v) (PIE X pins Z tg R) X.xe s1) X.xe s
theorem OT{A:AV}{E:Vq}{n:C3}{vs:Au Ai}(ho:s.heap.get? it=Ab o)(hc:o.cls=.type n)(hd:o.data=.fields vs)(hn:["enumerate", "zip", "dict_itemiterator", "dict_reverseitemiterator", "odict_iterator", "itertools.zip_longest", "itertools.pairwise"].contains n=Af)(hQ:Q () s):Aw M A (G9 tg (.ref it) u) Q E s:=by
  unfold G9;cases tg<;>first
    |exact At hQ
    | (cases u<;>first
        |exact At hQ
        | (refine Ah (wpAny_load ho ?_)
           rw[hc,hd];show Aw M A (if (["enumerate", "zip", "dict_itemiterator", "dict_reverseitemiterator", "odict_iterator", "itertools.zip_longest", "itertools.pairwise"].contains n&&vs[0]? == Ab (CB _))=Aa then _ else _) Q E s
           rw[As (by intro h;rw[hn,Jy]at h;cases h)]
           exact At hQ))
noncomputable def Itl(K:Fg)(a:Al):It:=
 ⟨λi H=>∃ xs x,SqL K H a xs/\xs[i]?=Ab x,λi H x H'=>H'=H/\∀ xs,SqL K H a xs->xs[i]?=Ab x,λi H=>∃ xs,SqL K H a xs/\xs.length<=i⟩
noncomputable def Itt(K:Fg)(a:Al):It:=
 ⟨λi H=>∃ xs x,SqT K H a xs/\xs[i]?=Ab x,λi H x H'=>H'=H/\∀ xs,SqT K H a xs->xs[i]?=Ab x,λi H=>∃ xs,SqT K H a xs/\xs.length<=i⟩
noncomputable def Itr(lo:Ag)(n:Ae):It:=⟨λi _=>i<n,λi H x H'=>H'=H/\x=.int (lo+i),λi _=>n<=i⟩
theorem eX{w:AT}{K:Fg}(a it:Al):Turn P w K tg (Itl K a) [it] it (λi h=>h.IsListIter it a i) where
  mem:=by simp
  obj:=λi h st b hb=>by
    have e:b=it:=by simpa using hb
    subst e;obtain⟨o,e,c,d⟩:=st;exact⟨o,e,λv z=>by rw[d]at z;cases z⟩
  keep:=λi h h' st k=>st.at λo e=>k it (by simp) o e
  item:=by
    intro X hP hw hK hc i pins s Z H E I hf st hg;subst hP hw hK;obtain⟨xs,x,hq,hx⟩:=hg;obtain⟨its,rv,p,hz⟩:=I.list hq;obtain⟨u,hu,ru⟩:=rv.get hx;obtain⟨f0,f1,f2,f3,f4,f5⟩:=hf it (by simp)
    refine wpAny_pyNext_list_item st p.isList (x:=u) (by simpa using hu) λh' st' sb=>?_
    have I1:Inv X pins Z H {s with heap:=h'}:=I.turned (t':=s.toks) (λb o hb e=>(sb.2 b hb).trans e) f0 f1 f3 f4 f5
    obtain⟨o,e,c,d⟩:=id st';exact⟨u,rfl,OT (s:={s with heap:=h'}) e c d (by decide) ⟨x,H,I1,ru,⟨rfl,λys hy=>by rw[I.list_inj hy hq];exact hx⟩,st',λb hb=>(hf b hb).1⟩⟩
  done:=by
    intro X hP hw hK hc i pins s Z H E I hf st hg;subst hP hw hK;obtain⟨xs,hq,hx⟩:=hg;obtain⟨its,rv,p,hz⟩:=I.list hq;obtain⟨f0,f1,f2,f3,f4,f5⟩:=hf it (by simp)
    have hl:=rv.length;exact wpAny_pyNext_list_end (I.ok.hd hc) st p.isList (by simp;omega) λh' eb=>⟨rfl,I.turned (t':=s.toks) (λb o hb e=>eb b o hb e) f0 f1 f3 f4 f5⟩
  self:=λ_ _ _ _ _ st h=>wpAny_pyIter_listiter st h
theorem eH{w:AT}{K:Fg}(a it:Al):Turn P w K tg (Itt K a) [it] it (λi h=>h.IsTupleIter it a i) where
  mem:=by simp
  obj:=λi h st b hb=>by
    have e:b=it:=by simpa using hb
    subst e;obtain⟨o,e,c,d⟩:=st;exact⟨o,e,λv z=>by rw[d]at z;cases z⟩
  keep:=λi h h' st k=>st.at λo e=>k it (by simp) o e
  item:=by
    intro X hP hw hK hc i pins s Z H E I hf st hg;subst hP hw hK;obtain⟨xs,x,hq,hx⟩:=hg;obtain⟨its,rv,p,hz⟩:=I.tuple hq;obtain⟨u,hu,ru⟩:=rv.get hx;obtain⟨f0,f1,f2,f3,f4,f5⟩:=hf it (by simp)
    refine wpAny_pyNext_tuple_item st (show s.heap.IsTuple a its.toArray from p) (x:=u) (by simpa using hu) λh' st' sb=>?_
    have I1:Inv X pins Z H {s with heap:=h'}:=I.turned (t':=s.toks) (λb o hb e=>(sb.2 b hb).trans e) f0 f1 f3 f4 f5
    obtain⟨o,e,c,d⟩:=id st';exact⟨u,rfl,OT (s:={s with heap:=h'}) e c d (by decide) ⟨x,H,I1,ru,⟨rfl,λys hy=>by rw[I.tuple_inj hy hq];exact hx⟩,st',λb hb=>(hf b hb).1⟩⟩
  done:=by
    intro X hP hw hK hc i pins s Z H E I hf st hg;subst hP hw hK;obtain⟨xs,hq,hx⟩:=hg;obtain⟨its,rv,p,hz⟩:=I.tuple hq;obtain⟨f0,f1,f2,f3,f4,f5⟩:=hf it (by simp)
    have hl:=rv.length;exact wpAny_pyNext_tuple_end (I.ok.hd hc) st (show s.heap.IsTuple a its.toArray from p) (by simp;omega) λh' eb=>⟨rfl,I.turned (t':=s.toks) (λb o hb e=>eb b o hb e) f0 f1 f3 f4 f5⟩
  self:=λ_ _ _ _ _ st h=>wpAny_pyIter_tupleiter st h
theorem eJ{w:AT}{K:Fg}(it:Al)(lo:Ag)(n:Ae):Turn P w K tg (Itr lo n) [it] it (λi h=>GD h it (lo+(i:Ae)*1) ((n:Ag)-(i:Ae)) 1) where
  mem:=by simp
  obj:=λi h st b hb=>by
    have e:b=it:=by simpa using hb
    subst e;exact⟨_,st,λv z=>by
      have z':Y_1 _=Ko v:=z;cases z'⟩
  keep:=λi h h' st k=>k it (by simp) _ st
  item:=by
    intro X hP hw hK hc i pins s Z H E I hf st hg;subst hP hw hK;obtain⟨f0,f1,f2,f3,f4,f5⟩:=hf it (by simp)
    have W:=aQ (prog:=X.prog) (w:=X.w) (I.ok.hd hc) it lo 1 n;refine W.item i s _ _ hg st λv h' tk hv st' kk=>?_
    obtain⟨t,rfl⟩:=hv;have I1:Inv X pins Z H {s with heap:=h',toks:=tk}:=I.turned (λb o hb e=>kk b o (by simpa using hb) e) f0 f1 f3 f4 f5
    refine⟨_,rfl,OT (s:={s with heap:=h',toks:=tk}) (n := "range_iterator") st' rfl rfl (by decide) ⟨.int (lo+i),H,I1,⟨t,?_⟩,⟨rfl,rfl⟩,st',λb hb=>(hf b hb).1⟩⟩
    rw[XJ]
  done:=by
    intro X hP hw hK hc i pins s Z H E I hf st hg;subst hP hw hK;obtain⟨f0,f1,f2,f3,f4,f5⟩:=hf it (by simp)
    exact bJ (I.ok.hd hc) st (by have:n<=i:=hg;omega) λh' eb=>⟨rfl,I.turned (t':=s.toks) (λb o hb e=>eb b o hb e) f0 f1 f3 f4 f5⟩
  self:=λ_ _ _ _ _ st h=>GF st h
section
variable{X:Cx}{tg:An}
theorem UC{R:It->Hp->Prop}{E:Vq}{lo hi:Ag}{t u v:Ci}{tk:Ae}(I:Inv X pins Z H s)(h1:-(2 ^ 62)<=lo)(h2:lo<2 ^ 62)(h3:-(2 ^ 62)<=hi)(h4:hi<2 ^ 62)(q:R (Itr lo (hi-lo).toNat) H):Aw (model X.prog X.w) X.A (HK (.ref s.heap.objs.size)) (PIE X pins Z tg R) E { s with heap:=s.heap.push { cls:=.type "range",data:=.fields #[.int lo t,.int hi u,.int 1 v] },toks:=tk }:=by
 refine bG (KW ..) (small_one h1 h2 h3 h4) ?_;have I1:Inv X pins Z H { s with heap:=s.heap.push { cls:=.type "range",data:=.fields #[.int lo t,.int hi u,.int 1 v] },toks:=tk }:=I.kept λb o e=>Aq _ e
 refine⟨(s.heap.push { cls:=.type "range",data:=.fields #[.int lo t,.int hi u,.int 1 v] }).objs.size,[(s.heap.push { cls:=.type "range",data:=.fields #[.int lo t,.int hi u,.int 1 v] }).objs.size],_,_,H,rfl,
  I1.kept (t':=tk) λb o e=>Aq _ e,eJ _ lo (hi-lo).toNat,?_,λb hb=>?_,q⟩
 .have e1:lo+((0:Ae):Ag)*1=lo:=by simp
  have e2:(((hi-lo).toNat:Ae):Ag)-((0:Ae):Ag)=Gm lo hi 1:=by rw[rangeSize_one];split<;>omega
  show GD _ _ (lo+((0:Ae):Ag)*1) ((((hi-lo).toNat:Ae):Ag)-((0:Ae):Ag)) 1;rw[e1,e2];exact AH _ rfl
 .have e:b=(s.heap.push { cls:=.type "range",data:=.fields #[.int lo t,.int hi u,.int 1 v] }).objs.size:=by simpa using hb
  subst e;exact I1.fpOk (Ay _) (I1.hok.fresh (Ay _))
def zN(ta:TA):TI:=λZ H R=>ta Z H λvs H1=>∃ j:Ag,vs=[.int j]/\-(2 ^ 62)<=j/\j<2 ^ 62/\R (Itr 0 j.toNat) H1
def zM(ta:TA):TI:=λZ H R=>ta Z H λvs H1=>∃ i j:Ag,vs=[.int i,.int j]/\(-(2 ^ 62)<=i/\i<2 ^ 62/\-(2 ^ 62)<=j/\j<2 ^ 62)/\R (Itr i (j-i).toNat) H1
theorem fV{a:An}(hg:Gl X "range")(hm:X.mg "range" = Ad)(ha:PA X [a] ta)(hs:AB [a] X.env=[(Af,eval a X.env)]:=by rfl):PI X tg (.Call (.Name "range" p) [a] [] pos) (zN ta):=by
 intro pins s Z H R I h;refine JK (IF I hg hm JL (BV (thn (ha pos pins s Z H _ I h) λus s1 ⟨vs,H1,I1,r1,q1⟩=>?_) hs rfl))
 obtain⟨j,e,q1,q2,q⟩:=q1;subst e;cases r1 with
 |cons r rr=>
  cases rr;obtain⟨t,rfl⟩:=r;exact call_range_1 (UC I1 (by omega) (by omega) q1 q2 (by simpa using q))
theorem fU{a b:An}(hg:Gl X "range")(hm:X.mg "range" = Ad)(ha:PA X [a,b] ta)(hs:AB [a,b] X.env=[(Af,eval a X.env),(Af,eval b X.env)]:=by rfl)(hs2:AB [b] X.env=[(Af,eval b X.env)]:=by rfl):
  PI X tg (.Call (.Name "range" p) [a,b] [] pos) (zM ta):=by
 intro pins s Z H R I h;refine JK (IF I hg hm JL (BV (thn (ha pos pins s Z H _ I h) λus s1 ⟨vs,H1,I1,r1,q1⟩=>?_) (by rw[hs,hs2]) (by rw[hs2];rfl)))
 obtain⟨i,j,e,⟨q1,q2,q3,q4⟩,q⟩:=q1;subst e;cases r1 with
 |cons r rr=>
  cases rr with
  |cons r' rr=>
   cases rr;obtain⟨t,rfl⟩:=r;obtain⟨t',rfl⟩:=r';exact call_range_2 (UC I1 q1 q2 q3 q4 q)
def cV(wi:TI)(g:TG)(tb:TS):TS:=λD Z H=>wi Z H λJ H1=>∃ W:Ae->Ae->St->Hp->Prop,(∃ m,W 0 m Z H1)/\∀ i m Z H,W i m Z H ->
 (J.stop i H/\D.nx Z H)\/(J.go i H/\∃ N:St->Hp->Prop,(∀ Z' H',N Z' H'->∃ m',m'<m/\W (i+1) m' Z' H')/\∀ x H',J.yld i H x H'->g x Z H' λZ2 H2=>tb {D with nx:=N,ct:=N,bk:=D.nx} Z2 H2)
noncomputable def Lk(fp:Ac Al)(h:AK):Pn:=fp.filterMap λb=>(h.get? b).map λo=>(b,o)
theorem N2(hb:b∈fp)(e:h.get? b=Ab o):(b,o)∈Lk fp h:=List.mem_filterMap.mpr ⟨b,hb,by rw[e];rfl⟩
theorem Tx{p:Al×Dx}(hp:p∈Lk fp h):p.1∈fp/\h.get? p.1=Ab p.2:=by
 obtain⟨b,hb,e⟩:=List.mem_filterMap.mp hp;cases q:h.get? b with
 |none=>rw[q]at e;cases e
 |some o=>
  rw[q]at e;have e':(b,o)=p:=Bf e;subst e';exact⟨hb,q⟩
theorem Inv.pinned(I:Inv X pins Z H s)(hf:∀ b∈fp,Hh X pins H b)(ho:∀ b∈fp,∃ o,s.heap.get? b=Ab o/\∀ v,o.data≠.cell v):Inv X (pins++Lk fp s.heap) Z H s:=
 I.pins_of λp hp=>(DC.mp hp).elim (λz=>I.pin p (Bw _ z)) λz=>by
  obtain⟨hb,e⟩:=Tx z;obtain⟨f0,f1,f2,_⟩:=hf p.1 hb;obtain⟨o,e',d⟩:=ho p.1 hb;rw[e]at e';cases e';exact⟨e,f0,f1,f2,d⟩
theorem Inv.unpinned{pl:Pn}(I:Inv X (pins++pl) Z H s):Inv X pins Z H s:=I.pins_of λp hp=>I.pin p (Bw _ (FJ _ hp))
theorem sZ{iter:An}{wi:TI}{g:TG}{tb:TS}(hp:F4 (model X.prog X.w) X.A X.env X.xe)(hc:X.calm=Aa)(hi:PI X tg iter wi)(hg:PG X tg g)(hb:PSs X body tb)(hs:∀ x,Dz iter X.env x=pure x:=by intro _;rfl):PS X (.For tg iter body [] pos) (cV wi g tb):=by
 intro pins s Z H D I h;refine wpAny_For (thn (hi pins s Z H _ I h) λv s1 h1=>thn h1 λitv s2 h2=>?_) hs
 obtain⟨it,fp,tn,J,H2,e,I2,T,st2,f2,W,⟨m0,w0⟩,turn⟩:=h2;subst e
 -- what stays Aa of the iterator's objects through the loop
 have stat:∀{H':Hp},(∀ b∈fp,H' b=Ad)->∀ b∈fp,Hh X pins H' b:=λhn b hb=>⟨hn b hb,(f2 b hb).2⟩
 refine codeAny_forLoop_any (λn s'=>∃ i Z' H',Inv X pins Z' H' s'/\tn i s'.heap/\(∀ b∈fp,H' b=Ad)/\W i n Z' H') ?_ m0 ⟨0,Z,H2,I2,st2,λb hb=>(f2 b hb).1,w0⟩
 rintro n s3 ⟨i,Z3,H3,I3,st3,fr3,w3⟩;rcases turn i n Z3 H3 w3 with ⟨stop,qn⟩|⟨go,N,hN,step⟩
 .refine F1 hp (thn (T.done X rfl rfl rfl hc i pins s3 Z3 H3 X.xe I3 (stat fr3) st3 stop) λr s4 ⟨hr,I4⟩=>?_)
  subst hr;exact F0 ⟨Z3,H3,I4,qn⟩
 .refine F1 hp (thn (T.item X rfl rfl rfl hc i pins s3 Z3 H3 X.xe I3 (stat fr3) st3 go) λr s4 ⟨u,hr,h4⟩=>?_)
  subst hr;refine F1 hp (thn h4 λ_ s5 ⟨x,H5,I5,r5,y5,st5,fr5⟩=>?_)
  have I5':=I5.pinned (stat fr5) (T.obj _ _ st5);refine F1 hp (thn (hg _ s5 Z3 H5 x u _ I5' r5 (step x H5 y5)) λ_ s6 ⟨Z6,H6,I6,q6⟩=>?_)
  refine F1 hp (thn (hb _ s6 Z6 H6 _ I6 q6) λf s7 q7=>?_)
  have again:∀{Z7:St}{H7:Hp},Inv X (pins++Lk fp s5.heap) Z7 H7 s7->N Z7 H7->∃ m,m<n/\∃ i Z' H',Inv X pins Z' H' s7/\tn i s7.heap/\(∀ b∈fp,H' b=Ad)/\W i m Z' H':=λ{Z7 H7} I7 n7=>by
   obtain⟨m',hm,w7⟩:=hN Z7 H7 n7;refine⟨m',hm,i+1,Z7,H7,I7.unpinned,T.keep _ _ _ st5 λb hb o e=>(I7.pin (b,o) (Bw _ (Bw _ (N2 hb e)))).1,λb hb=>?_,w7⟩
   obtain⟨o,e,d⟩:=T.obj _ _ st5 b hb;exact(I7.pin (b,o) (Bw _ (Bw _ (N2 hb e)))).2.1
  cases f with
  |next=>obtain⟨Z7,H7,I7,n7⟩:=q7;exact again I7 n7
  |cont=>obtain⟨Z7,H7,I7,n7⟩:=q7;exact again I7 n7
  |brk=>obtain⟨Z7,H7,I7,q7⟩:=q7;exact⟨Z7,H7,I7.unpinned,q7⟩
  |ret v=>obtain⟨x7,Z7,H7,I7,r7,q7⟩:=q7;exact⟨x7,Z7,H7,I7.unpinned,r7,q7⟩
end
abbrev R2:=V->V->Hp->VK->Prop
variable{r:R2}
noncomputable def OpR(X:Cx)(f:Ai->Ai->DZ Ai)(r:R2):Prop:=
 ∀(pins:Pn)(s:Ap)(Z:St)(H:Hp)(x y:V)(v u:Ai)(Q:VK),Inv X pins Z H s->BM x v->BM y u->r x y H Q ->
  Aw (model X.prog X.w) X.A (f v u) (EP X pins Z Q) X.xe s
noncomputable def UnR(X:Cx)(f:Ai->DZ Ai)(r:V->Hp->VK->Prop):Prop:=
 ∀(pins:Pn)(s:Ap)(Z:St)(H:Hp)(x:V)(v:Ai)(Q:VK),Inv X pins Z H s->BM x v->r x H Q ->
  Aw (model X.prog X.w) X.A (f v) (EP X pins Z Q) X.xe s
noncomputable def IJ(X:Cx)(f:Ai)(r:Ac V->Hp->VK->Prop):Prop:=
 ∀(pins:Pn)(s:Ap)(Z:St)(H:Hp)(xs:Ac V)(us:Ac Ai)(Q:VK),Inv X pins Z H s->Bb xs us->r xs H Q ->
  Aw (model X.prog X.w) X.A (call f us) (EP X pins Z Q) X.xe s
noncomputable def bR(X:Cx)(r:V->Hp->(Aj->Hp->Prop)->Prop):Prop:=
 ∀(pins:Pn)(s:Ap)(Z:St)(H:Hp)(x:V)(v:Ai)(Q:Aj->Hp->Prop),Inv X pins Z H s->BM x v->r x H Q ->
  Aw (model X.prog X.w) X.A (truthy v) (TP X pins Z Q) X.xe s
def tOp(r:R2)(ta tb:TE):TE:=λZ H Q=>ta Z H λx H1=>tb Z H1 λy H2=>r x y H2 Q
def tUn(r:V->Hp->VK->Prop)(ta:TE):TE:=λZ H Q=>ta Z H λx H1=>r x H1 Q
def rI(C:Ag->Ag->Prop)(g:Ag->Ag->V):R2:=λx y H Q=>∃ i j,x=.int i/\y=.int j/\C i j/\Q (g i j) H
def rI0(g:Ag->Ag->V):R2:=λx y H Q=>∃ i j,x=.int i/\y=.int j/\Q (g i j) H
def rU(g:Ag->V):V->Hp->VK->Prop:=λx H Q=>∃ i,x=.int i/\Q (g i) H
section
variable{X:Cx}{a b c:An}{ta tb tc:TE}{pos:AY}
theorem Sf(ha:PE X a ta)(hb:PE X b tb){R:V->V->Hp->Prop}(I:Inv X pins Z H s)(h:ta Z H λx H1=>tb Z H1 λy H2=>R x y H2){Q:Vq}(hf:∀ v u s2 x y H2,Inv X pins Z H2 s2->BM x v->BM y u->R x y H2->Aw (model X.prog X.w) X.A (f v u) Q X.xe s2):Aw (model X.prog X.w) X.A (eval a X.env) (λv s₁=>Aw (model X.prog X.w) X.A (eval b X.env) (λu s₂=>Aw (model X.prog X.w) X.A (f v u) Q X.xe s₂) X.xe s₁) X.xe s:=by
 refine thn (ha pins s Z H _ I h) λv s1 ⟨x,H1,I1,r1,q1⟩=>?_
 refine thn (hb pins s1 Z H1 _ I1 q1) λu s2 ⟨y,H2,I2,r2,q2⟩=>?_
 exact hf v u s2 x y H2 I2 r1 r2 q2
theorem Wx{op:F3}(ho:OpR X (Ct op) r)(ha:PE X a ta)(hb:PE X b tb):PE X (.BinOp a op b pos) (tOp r ta tb):=by
 intro pins s Z H Q I h;exact wpAny_BinOp (Sf ha hb I h λv u s2 x y H2 I2 rx ry q=>ho pins s2 Z H2 x y v u Q I2 rx ry q)
theorem xN{op:KQ}{r:V->Hp->VK->Prop}(ho:UnR X (unaryOp op) r)(ha:PE X a ta):PE X (.UnaryOp op a pos) (tUn r ta):=by
 intro pins s Z H Q I h;exact UnaryOp_ (thn (ha pins s Z H _ I h) λv s1 ⟨x,H1,I1,r1,q1⟩=>ho pins s1 Z H1 x v Q I1 r1 q1)
theorem opI{C:Ag->Ag->Prop}(rule:∀(i j:Ag)(t u:Ci)(s:Ap)(Q:Vq)(E:Vq),C i j->Q (.int (g i j) s.toks) {s with toks:=s.toks+1}->Aw (model X.prog X.w) X.A (f (.int i t) (.int j u)) Q E s):OpR X f (rI C λi j=>.int (g i j)):=by
 intro pins s Z H x y v u Q I rx ry h;obtain⟨i,j,rfl,rfl,hc,q⟩:=h;obtain⟨t,rfl⟩:=rx;obtain⟨t',rfl⟩:=ry;exact rule i j t t' s _ _ hc ⟨.int (g i j),H,I.tok _,⟨_,rfl⟩,q⟩
theorem Xo(rule:∀(i j:Ag)(t u:Ci)(s:Ap)(Q:Vq)(E:Vq),Q (.int (g i j) s.toks) {s with toks:=s.toks+1}->Aw (model X.prog X.w) X.A (f (.int i t) (.int j u)) Q E s):OpR X f (rI0 λi j=>.int (g i j)):=by
 intro pins s Z H x y v u Q I rx ry h;obtain⟨i,j,rfl,rfl,q⟩:=h;obtain⟨t,rfl⟩:=rx;obtain⟨t',rfl⟩:=ry;exact rule i j t t' s _ _ ⟨.int (g i j),H,I.tok _,⟨_,rfl⟩,q⟩
theorem O7{g:Ag->Ag->Aj}(rule:∀(i j:Ag)(t u:Ci)(s:Ap)(Q:Vq)(E:Vq),Q (.bool (g i j)) s->Aw (model X.prog X.w) X.A (f (.int i t) (.int j u)) Q E s):OpR X f (rI0 λi j=>.bl (g i j)):=by
 intro pins s Z H x y v u Q I rx ry h;obtain⟨i,j,rfl,rfl,q⟩:=h;obtain⟨t,rfl⟩:=rx;obtain⟨t',rfl⟩:=ry;exact rule i j t t' s _ _ ⟨.bl (g i j),H,I,rfl,q⟩
def dG(i j:Ag):Prop:=0<j/\j<1073741824
def dF(i j:Ag):Prop:=0<=j/\j<=1000000/\i.natAbs<2 ^ 64
def Pf(i j:Ag):Prop:=(-(2 ^ 64)<i/\i<2 ^ 64)\/(-(2 ^ 64)<j/\j<2 ^ 64)
theorem Pf.ok{i j:Ag}(h:Pf i j):MK i j:=by
 rcases h with ⟨h1,h2⟩|⟨h1,h2⟩
 .exact .of_left (intBits_le_64 h1 h2)
 .exact .of_right (intBits_le_64 h1 h2)
theorem vE:OpR X (Ct .Add) (rI0 λi j=>.int (i+j)):=Xo λ_ _ _ _ _ _ _ q=>add_int q
theorem uY:OpR X (Ct .Sub) (rI0 λi j=>.int (i-j)):=Xo λ_ _ _ _ _ _ _ q=>sub_int q
theorem nM:OpR X (Ct .FloorDiv) (rI dG λi j=>.int (i/j)):=opI λi j _ _ _ _ _ hc q=>by
 have h1:(0:Ag)<j:=hc.1;have h2:j<1073741824:=hc.2;exact floordiv_int (by omega) (by rw[Int.fdiv_eq_ediv_of_nonneg i (by omega)];exact q) (.inl (YQ (by omega)))
theorem vC:OpR X (Ct .Mod) (rI (λ_ j=>0<j) λi j=>.int (i%j)):=opI λi j _ _ _ _ _ hc q=>by
 have h1:(0:Ag)<j:=hc;exact mod_int' (by omega) (by rw[Int.fmod_eq_emod_of_nonneg i (by omega)];exact q)
theorem uZ:OpR X (Ct .Pow) (rI dF λi j=>.int (i ^ j.toNat)):=opI λ_ _ _ _ _ _ _ hc q=>pow_int_small hc.1 hc.2.1 hc.2.2 q
theorem unI{f:Ai->DZ Ai}{g:Ag->Ag}(rule:∀(i:Ag)(t:Ci)(s:Ap)(Q:Vq)(E:Vq),Q (.int (g i) s.toks) {s with toks:=s.toks+1}->Aw (model X.prog X.w) X.A (f (.int i t)) Q E s):UnR X f (rU λi=>.int (g i)):=by
 intro pins s Z H x v Q I rx h;obtain⟨i,rfl,q⟩:=h;obtain⟨t,rfl⟩:=rx;exact rule i t s _ _ ⟨.int (g i),H,I.tok _,⟨_,rfl⟩,q⟩
theorem rD:UnR X (unaryOp .USub) (rU λi=>.int (-i)):=unI λ_ _ _ _ _ q=>neg_int q
end
section
variable{X:Cx}{a b c:An}{ta tb tc:TE}{pos:AY}
theorem VI{Q:VK}{k k':Aj}(I:Inv X pins Z H s)(q:Q (.bl k) H)(e:k=k'):EP X pins Z Q (.bool k') s:=by
 subst e;exact⟨.bl k,H,I,rfl,q⟩
theorem zS:OpR X (Dd .Lt) (rI0 λi j=>.bl (decide (i<j))):=O7 λ_ _ _ _ _ _ _ q=>lt_int q
theorem zT:OpR X (Dd .LtE) (rI0 λi j=>.bl (decide (i<=j))):=O7 λ_ _ _ _ _ _ _ q=>le_int q
theorem zU:OpR X (Dd .Gt) (rI0 λi j=>.bl (decide (j<i))):=O7 λ_ _ _ _ _ _ _ q=>gt_int q
theorem zV:OpR X (Dd .GtE) (rI0 λi j=>.bl (decide (j<=i))):=O7 λ_ _ _ _ _ _ _ q=>ge_int q
theorem vD:OpR X (Dd .Is) (λx y H Q=>y=.non/\Q (.bl (decide (x=.non))) H):=by
 intro pins s Z H x y v u Q I rx ry h;obtain⟨rfl,q⟩:=h;cases ry;refine is_none_gen (VI I q ?_);cases x<;>first
  |(cases rx;rfl)
  |(obtain⟨t,rfl⟩:=rx;rfl)
theorem nK:OpR X (Dd .IsNot) (λx y H Q=>y=.non/\Q (.bl (!decide (x=.non))) H):=by
 intro pins s Z H x y v u Q I rx ry h;obtain⟨rfl,q⟩:=h;cases ry;refine isnot_none_gen (VI I q ?_);cases x<;>first
  |(cases rx;rfl)
  |(obtain⟨t,rfl⟩:=rx;rfl)
theorem nE(ho:OpR X (Dd op) r)(ha:PE X a ta)(hb:PE X b tb)(hm:HP op b=Af):PE X (.Compare a [op] [b] pos) (tOp r ta tb):=by
 intro pins s Z H Q I h;exact wpAny_Compare1 (Sf ha hb I h λv u s2 x y H2 I2 rx ry q=>ho pins s2 Z H2 x y v u Q I2 rx ry q) hm
def Ww(t:TE):TT:=λZ H Q=>t Z H λx H'=>∃ k,x=.bl k/\Q k H'
theorem oO(ho:OpR X (Dd op) r)(ha:PE X a ta)(hb:PE X b tb)(hm:HP op b=Af):PT X (.Compare a [op] [b] pos) (Ww (tOp r ta tb)):=by
 intro pins s Z H Q I h;refine wpAny_isTrue_Compare1 (thn (ha pins s Z H _ I h) λv s1 ⟨x,H1,I1,r1,q1⟩=>thn (hb pins s1 Z H1 _ I1 q1) λu s2 ⟨y,H2,I2,r2,q2⟩=>
  thn (ho pins s2 Z H2 x y v u _ I2 r1 r2 q2) λc s3 ⟨z,H3,I3,r3,k,e,q3⟩=>?_) hm
 subst e;cases r3;exact DA ⟨H3,I3,q3⟩
def qS(r r':R2)(ta tb tc:TE):TE:=λZ H Q=>ta Z H λx H1=>tb Z H1 λy H2=>r x y H2 λz H3=>∃ k,z=.bl k /\
 (if k=Aa then tc Z H3 λw' H4=>r' y w' H4 Q else Q (.bl Af) H3)
theorem jX{op':DW}{r':R2}(ho:OpR X (Dd op) r)(ho':OpR X (Dd op') r')(ha:PE X a ta)(hb:PE X b tb)(hc:PE X c tc)(hm:lastMarks [op,op'] [b,c]=Af:=by with_unfolding_all rfl):PT X (.Compare a [op,op'] [b,c] pos) (Ww (qS r r' ta tb tc)):=by
 intro pins s Z H Q I h;refine isTrue_chain (thn (ha pins s Z H _ I h) λv s1 ⟨x,H1,I1,r1,q1⟩=>test_link (thn (hb pins s1 Z H1 _ I1 q1) λu s2 ⟨y,H2,I2,r2,q2⟩=>
  thn (ho pins s2 Z H2 x y v u _ I2 r1 r2 q2) λd s3 ⟨z,H3,I3,r3,k,e,q3⟩=>?_)) hm
 subst e;cases r3;refine DA ?_;cases k with
 |false=>
  obtain⟨k',e',q'⟩:=q3;cases e';exact ite_ff ⟨H3,I3,q'⟩
 |true=>
  refine ite_tt (test_last (thn (hc pins s3 Z H3 _ I3 q3) λw' s4 ⟨z',H4,I4,r4,q4⟩=>thn (ho' pins s4 Z H4 y z' u w' _ I4 r2 r4 q4) λd' s5 ⟨z2,H5,I5,r5,k2,e2,q5⟩=>?_))
  subst e2;cases r5;exact DA ⟨H5,I5,q5⟩
noncomputable def So(K:Fg)(x:V)(H:Hp)(k:Aj):Prop:=
  match x with
  |.non=>k=Af
  |.bl b=>k=b
  |.int i=>k=(i != 0)
  |.str y=>y.length<=sizeLine/\k=((y.length:Ag) != 0)
  |.byt y=>y.size<=sizeLine/\k=((y.size:Ag) != 0)
  |.ref p=>(∃ xs,SqL K H p xs/\k=!xs.isEmpty)\/(∃ xs,SqT K H p xs/\k=!xs.isEmpty)\/∃ kvs,H p=Ab (.dK kvs)/\k=!kvs.isEmpty
  |_=>Ba
theorem fM{κ:Type}{kvs:Ac (κ×V)}{vs:Ac (κ×Ai)}(r:KV kvs vs):(!vs.isEmpty)=!kvs.isEmpty:=by
 cases r<;>rfl
theorem SM{its:Ac Ai}(r:Bb xs its):(!its.toArray.isEmpty)=!xs.isEmpty:=by
 cases r<;>simp
theorem Mh:(sizeLine:Ae)<2 ^ 63:=by rw[Bv];decide
theorem rH:bR X (λx H Q=>∃ k,So X.K x H k/\Q k H):=by
 intro pins s Z H x v Q I rx h;obtain⟨k,e,q⟩:=h;have hl:=Mh;have hs:sizeLine=16777216:=Bv;cases x with
 |non=>
  cases rx;have e':k=Af:=e;subst e';exact truthy_none ⟨H,I,q⟩
 |bl b=>
  cases rx;have e':k=b:=e;subst e';exact DA ⟨H,I,q⟩
 |int i=>
  obtain⟨t,rfl⟩:=rx;have e':k=(i != 0):=e;subst e';exact PySem.P.truthy_int ⟨H,I,q⟩
 |str y=>
  obtain⟨t,rfl⟩:=rx;obtain⟨hy,e'⟩:y.length<=sizeLine/\k=((y.length:Ag) != 0):=e;subst e';exact PySem.P.truthy_str (by omega) ⟨H,I.tok _,q⟩
 |byt y=>
  obtain⟨t,rfl⟩:=rx;obtain⟨hy,e'⟩:y.size<=sizeLine/\k=((y.size:Ag) != 0):=e;subst e';exact PySem.W.truthy_bytes (by omega) ⟨H,I.tok _,q⟩
 |ref p=>
  cases rx;have e':(∃ xs,SqL X.K H p xs/\k=!xs.isEmpty)\/(∃ xs,SqT X.K H p xs/\k=!xs.isEmpty)\/∃ kvs,H p=Ab (.dK kvs)/\k=!kvs.isEmpty:=e;rcases e' with ⟨xs,hx,e'⟩|⟨xs,hx,e'⟩|⟨kvs,hx,e'⟩
  .subst e';obtain⟨its,r,pl,hz⟩:=I.list hx;have hlen:=r.length;exact wpAny_truthy_list pl.isList (by simp only[AO];omega) ⟨H,I.tok _,by rw[SM r];exact q⟩
  .subst e';obtain⟨its,r,pl,hz⟩:=I.tuple hx;have hlen:=r.length;exact truthy_tuple pl (by simp only[AO];omega) ⟨H,I.tok _,by rw[SM r];exact q⟩
  .subst e';obtain⟨hz,hS,vs,r,m⟩:kvs.length<=sizeLine/\(p==LG)=Af/\∃ vs,KV kvs vs/\s.heap.DictOf (QM X.prog X.w) p vs:=I.hok p _ hx;have hlen:kvs.length=vs.length:=ZQ r;exact wpAny_truthy_dict hS m (by omega) ⟨H,I.tok _,by rw[fM r];exact q⟩
 |_=>exact(show Ba from e).elim
theorem jW(ha:PE X a ta)(he:∀ whole,JH a X.env whole=(do let v <-whole;standAt a.pos;holding [v] (truthy v))):PT X a (λZ H Q=>ta Z H λx H'=>∃ k,So X.K x H' k/\Q k H'):=by
 intro pins s Z H Q I h;exact isTrue_plain (thn (ha pins s Z H _ I h) λv s1 ⟨x,H1,I1,r1,q1⟩=>rH pins s1 Z H1 x v Q I1 r1 q1) (he _)
theorem fK:OpR X (Ct .Add) (λx y H Q=>∃ i j,x=.str i/\y=.str j/\i.length+j.length<=sizeLine/\Q (.str (i++j)) H):=by
 intro pins s Z H x y v u Q I rx ry h;obtain⟨i,j,rfl,rfl,hz,q⟩:=h;obtain⟨t,rfl⟩:=rx;obtain⟨t',rfl⟩:=ry;exact add_str (λt' tk=>⟨.str (i++j),H,I.tok _,⟨_,rfl⟩,q⟩) hz
theorem J3{x:V}(r:Bb [x] us):∃ u,us=[u]/\BM x u:=by
 cases r with
 |cons r1 r2=>cases r2;exact⟨_,rfl,r1⟩
theorem Nu{x y:V}(r:Bb [x,y] us):∃ u w',us=[u,w']/\BM x u/\BM y w':=by
 cases r with
 |cons r1 r2=>
  cases r2 with
  |cons r3 r4=>cases r4;exact⟨_,_,rfl,r1,r3⟩
theorem gY(hc:X.calm=Aa):IJ X (.builtin "min") (λxs H Q=>∃ i j,xs=[.int i,.int j]/\Q (.int (if j<i then j else i)) H):=by
 intro pins s Z H xs us Q I r h;obtain⟨i,j,rfl,q⟩:=h;obtain⟨u,w',rfl,⟨t,rfl⟩,⟨t',rfl⟩⟩:=Nu r;refine min_two_ints (I.ok.hd hc) λh' tk k=>⟨_,H,I.kept k,?_,q⟩
 by_cases hj:j<i
 .rw[Ar hj,Ar hj];exact⟨_,rfl⟩
 .rw[As hj,As hj];exact⟨_,rfl⟩
theorem TU:IJ X (.type "int") (λxs H Q=>(∃ i,xs=[.int i]/\Q (.int i) H)\/∃ k,xs=[.bl k]/\Q (.int (if k then 1 else 0)) H):=by
 intro pins s Z H xs us Q I r h;rcases h with ⟨i,rfl,q⟩|⟨k,rfl,q⟩
 .obtain⟨u,rfl,t,rfl⟩:=J3 r;exact call_int_int ⟨.int i,H,I,⟨_,rfl⟩,q⟩
 .obtain⟨u,rfl,r1⟩:=J3 r;cases r1;exact call_int_bool ⟨.int (if k then 1 else 0),H,I.tok _,⟨_,rfl⟩,q⟩
end
structure ObjM (h:AK) (x dx C:Al) (mA:Ak->Ao Ai):Prop where
 obj:h.get? x=Ab (Ez C dx)
 ns:h.Ns1 dx mA
 ne:dx≠x
theorem fP(n:h.Ns1 dx mA):∃ od,h.get? dx=Ab od/\∀ name,JF name od=Ab (mA name):=by
 obtain⟨o,es,ep,ho,hd,hk,_,hm⟩:=n;refine⟨o,ho,λname=>?_⟩
 have e:=hm name;unfold nsFind findBy at e;rw[<-Xr]at e;unfold JF;rw[hd];dsimp only;split
 .rename_i y q;rw[q]at e;exact congrArg Ab e
 .rename_i q;rw[q]at e;have a:es.toList.any (·.refKey)=Af:=by
   rw[List.any_eq_false];intro y hy;obtain⟨z,t,hkey⟩:=hk y (EL.mp hy);simp[DictEntry.refKey,hkey]
  have a':¬ es.toList.any (·.refKey)=Aa:=by rw[a];exact Ax
  rw[As a'];exact congrArg Ab e
theorem ObjM.look{x C:Al}(I:ObjM h x dx C mA):∃ od,PySem.W.InstAt h x (Ez C dx) C (Ab od)/\∀ name,JF name od=Ab (mA name):=
 let ⟨od,ho,hl⟩:=fP I.ns
 ⟨od,⟨I.obj,rfl,rfl,ho⟩,hl⟩
section
variable{prog:AQ}{w:AT}{A:AV}{E:Vq}{s:Ap}{K:Fg}{x dx C f:Al}{mA:Ak->Ao Ai}{name:Ak}{v:Ai}
end
theorem NM.some_of{o:Ao Ai}(r:NM (Ab v) o):∃ u,o=Ab u/\BM v u:=by
 cases o with
 |none=>exact(show Ba from r).elim
 |some u=>exact⟨u,rfl,r⟩
theorem iD(r:BM v u):PySem.W.handedIn u=Aa:=by
 cases v with
 |non=>cases (show u=AI from r);rfl
 |bl b=>cases (show u=LB b from r);rfl
 |int i=>obtain⟨t,e⟩:=(show ∃ t,u=HF i t from r);cases e;rfl
 |str x=>obtain⟨t,e⟩:=(show ∃ t,u=MF x t from r);cases e;rfl
 |byt b=>obtain⟨t,e⟩:=(show ∃ t,u=Z_9 b t from r);cases e;rfl
 |flt b=>obtain⟨t,e⟩:=(show ∃ t,u=aA b t from r);cases e;rfl
 |ref a=>cases (show u=Be a from r);rfl
 |ty n=>cases (show u=Fl n from r);rfl
section
variable{P:AQ}{w:AT}{H H':Hp}{h h':AK}{a C dx:Al}{fs fs':Ac (Ak×V)}
end
structure Cls (K:Fg) (C:Al):Prop where
 pg:aN K C Str.empty=Aa
 hd:PySem.W.hasDictIn K C=Aa
 po:PySem.W.plainOver K C=Aa
 sa:Bi K (.ref C) "__setattr__" = Ab (Ab (.builtin "object.__setattr__"))
theorem Cls.get{K:Fg}{C:Al}(c:Cls K C)(f:Ak):aN K C f=Aa:=c.pg
section
variable{X:Cx}{pins:Pn}{Z:St}{H:Hp}{s:Ap}{a C dx:Al}{fs:Ac (Ak×V)}{f:Ak}{v:V}{A:AV}{E:Vq}
theorem Inv.made(I:Inv X pins Z H s):Inv X pins Z (upd (upd H s.heap.objs.size (.own (s.heap.objs.size+1))) (s.heap.objs.size+1) (.ins C s.heap.objs.size [])) {s with heap:=(s.heap.push Dy).push (Ez C s.heap.objs.size)}:=by
  have e1:(s.heap.push Dy).get? s.heap.objs.size=Ab Dy:=AH s.heap rfl;have e2:((s.heap.push Dy).push (Ez C s.heap.objs.size)).get? (s.heap.objs.size+1)=Ab (Ez C s.heap.objs.size):=by
    have:=AH (s.heap.push Dy) (o:=Ez C s.heap.objs.size) rfl
    rwa [Bh]at this
  have e3:(s.heap.push Dy).Ns s.heap.objs.size (λ_=>Ad):=⟨Dy,#[],_,e1,rfl,(λe he=>absurd he (by simp)),λ_=>rfl⟩
  have I1:=I.laid (a:=s.heap.objs.size) (o:=.own (s.heap.objs.size+1)) (h':=s.heap.push Dy) (t':=s.toks) (λb u q=>Aq _ q) (Ay _) ⟨_,e1⟩
  refine I1.laid (a:=s.heap.objs.size+1) (o:=.ins C s.heap.objs.size []) (t':=s.toks) (λb u q=>Aq _ q) (Km (Bh _ _)) ?_
  have ne:s.heap.objs.size≠s.heap.objs.size+1:=AW (FL _);refine⟨by rw[Cv ne,Hv],BK _,ne,e2,λ_=>Ad,(Heap.Ns1.of_empty e3).at λo q=>Aq _ q,λ_=>True.intro,λy hy=>absurd rfl hy⟩
theorem pE{prog:AQ}{w:AT}{env:CU}{f:Ak}{Q:Vq}(hb:Fd e f env (eval e env)=eval e env)(h:Aw (model prog w) A (eval e env) (λo s₁=>Aw (model prog w) A (getAttr o f Aa) Q E s₁) E s):Aw (model prog w) A (eval (.Attribute e f pos) env) Q E s:=
 Attribute_any_ h (by rw[arm_eval_Attribute,hb])
end
section
variable{X:Cx}{o e value:An}{f:Ak}{pos pos' tpos:AY}{ta tv:TE}
end
section
variable{X:Cx}{pins:Pn}{Z:St}{H:Hp}{s:Ap}{A:AV}{E:Vq}{Q:Vq}{c:Ai}{b:Aj}
end
structure Room (k:Ae) (A:AV):Prop where
 hd:A.handled=Ad
 dp:A.depth+3*k+5<aW
 un:A.units+16*k+200<Cj
 gd:A.guards=Ab []
theorem Room.mono{j:Ae}{A:AV}(r:Room k A)(h:j<=k):Room j A:=⟨r.hd,by have:=r.dp;omega,by have:=r.un;omega,r.gd⟩
theorem Room.deeper{A:AV}(r:Room (k+1) A)(env:CU):Room k (A.deeper env):=
 ⟨r.hd,by have:=r.dp;show A.depth+1+3*k+5<_;omega,by have:=r.un;show A.units+3+16*k+200<_;omega,r.gd⟩
theorem Room.depth{A:AV}(r:Room k A):A.depth<aW:=by have:=r.dp;omega
theorem Room.units{A:AV}(r:Room k A):A.units+64<Cj:=by have:=r.un;omega
def cS:TA:=λ_ H Q=>Q [] H
def wT(ta:TE)(tr:TA):TA:=λZ H Q=>ta Z H λx H1=>tr Z H1 λxs H2=>Q (x::xs) H2
section
variable{X:Cx}{e:An}{es:Ac An}{te:TE}{t:TA}{pos:AY}
theorem F7:PA X [] cS:=λ_ _ _ _ H Q I h=>Ih ⟨[],H,I,.nil,h⟩
theorem EH(ha:PE X e te)(hr:PA X es t)(hs:AB (e::es) X.env=(Af,eval e X.env)::AB es X.env:=by rfl):PA X (e::es) (wT te t):=by
 intro pos pins s Z H Q I h;rw[hs];show Aw _ _ (spliced ((Af,eval e X.env)::Cc pos (AB es X.env))) _ _ s;refine HE (thn (ha pins s Z H _ I h) λu s1 ⟨x,H1,I1,r1,q1⟩=>?_)
 exact thn (hr pos pins s1 Z H1 _ I1 q1) λus s2 ⟨xs,H2,I2,r2,q2⟩=>⟨x::xs,H2,I2,.cons r1 r2,q2⟩
def cM(t:TA):TE:=λZ H Q=>t Z H λxs H1=>xs.length<=sizeLine/\∀ p,H1 p=Ad->Q (.ref p) (upd H1 p (.tup xs))
def cT(t:TA):TE:=λZ H Q=>t Z H λxs H1=>xs.length<=sizeLine/\∀ p,H1 p=Ad->Q (.ref p) (upd H1 p (.lst xs))
theorem V0{x1}(h:PA X es t):PE X (.Tuple es x1 pos) (cM t):=by
 intro pins s Z H Q I hq;refine wpAny_Tuple_spliced (thn (h pos pins s Z H _ I hq) λus s1 ⟨xs,H1,I1,r,z,q⟩=>⟨by rw[<-r.length];exact z,?_⟩)
 have hf:H1 s1.heap.objs.size=Ad:=I1.hok.fresh (Ay _);refine⟨.ref s1.heap.objs.size,upd H1 s1.heap.objs.size (.tup xs),I1.laid (t':=s1.toks) (λb u e=>Aq _ e) (Ay _) ?_,rfl,q _ hf⟩
 exact⟨z,us,r,⟨_,AH _ rfl,rfl,_,rfl⟩⟩
theorem uU(h:PA X es t):PE X (.List es pos) (cT t):=by
 intro pins s Z H Q I hq;refine wpAny_List_spliced (thn (h pos pins s Z H _ I hq) λus s1 ⟨xs,H1,I1,r,z,q⟩=>⟨by rw[<-r.length];exact z,?_⟩)
 have hf:H1 s1.heap.objs.size=Ad:=I1.hok.fresh (Ay _);refine⟨.ref s1.heap.objs.size,upd H1 s1.heap.objs.size (.lst xs),I1.laid (t':=s1.toks) (λb u e=>Aq _ e) (Ay _) ?_,rfl,q _ hf⟩
 exact⟨z,us,0,r,AH _ rfl⟩
end
abbrev Sp:=Ac V->Hp->VK->XK->Prop
variable{sp:Sp}
abbrev CXT:=Ac CU->Hp->Ap->XK->Ai->Ap->Prop
variable{CX:CXT}
structure Env0 (P:AQ) (w:AT) (K:Fg) (mg:Ak->Ao Ai) (base:AK) (A:AV) (outer:Ac CU) (s:Ap) (H:Hp):Prop where
 frames:A.frames=Ab outer
 mod:Mod K mg base
 bs:∀ b o,base.get? b=Ab o->s.heap.get? b=Ab o/\H b=Ad
 bsz:base.objs.size<=s.heap.objs.size
 funs:s.heap.FunFrames base outer
 frf:∀ b∈frs outer,H b=Ad
 hok:HOk P w H s.heap
 bare:Ge s.gens
noncomputable def CE(outer:Ac CU)(P:AQ)(w:AT)(H:Hp)(s:Ap)(Q:VK)(u:Ai)(s':Ap):Prop:=
 ∃ v H',s'.os=s.os/\Ge s'.gens/\Un (frs outer) [] H H' s.heap s'.heap/\HOk P w H' s'.heap/\BM v u/\Q v H'
noncomputable def CR(CX:CXT)(outer:Ac CU)(P:AQ)(w:AT)(H:Hp)(s:Ap)(Q:VK)(E:XK)(r:IA)(s':Ap):Prop:=
  match r with
  |.ok (.ret u)=>CE outer P w H s Q u s'
  |.ok _=>Ba
  |.error e=>CX outer H s E e s'
structure FnOk (P:AQ) (w:AT) (K:Fg) (mg:Ak->Ao Ai) (base:AK) (CX:CXT) (k:Ae) (f:Al) (fd:Co) (ps:Ac Ak) (sp:Sp):Prop where
 len:∀ vs H Q E,sp vs H Q E->vs.length=ps.length
 run:∀(A:AV)(outer:Ac CU)(s:Ap)(H:Hp)(args:Args)(us:Ac Ai)(vs:Ac V)(Q:VK)(E:XK),Room k A->Env0 P w K mg base A outer s H->Hq s fd args (ps.zip us)->Bb vs us->sp vs H Q E ->
  FC (model P w) A (.call (.ref f) args) (CR CX outer P w H s Q E) s
theorem FnOk.imp{w:AT}{K:Fg}{mg:Ak->Ao Ai}{base:AK}{f:Al}{sp':Sp}(F:FnOk P w K mg base CX k f fd ps sp)(h:∀ vs H Q E,sp' vs H Q E->sp vs H Q E):FnOk P w K mg base CX k f fd ps sp':=
 ⟨λvs H Q E q=>F.len vs H Q E (h _ _ _ _ q),λA outer s H args us vs Q E hr he hb hv hs=>F.run A outer s H args us vs Q E hr he hb hv (h _ _ _ _ hs)⟩
section
variable{X:Cx}{pins:Pn}{Z:St}{H:Hp}{s s':Ap}
theorem Inv.env0(I:Inv X pins Z H s):Env0 X.prog X.w X.K X.mg X.base X.A X.stack s H:=
 ⟨I.ok.frames,I.ok.mod,I.bs,Da I.ok.bsz I.sz,I.stack,I.stkFree,I.hok,I.bare⟩
theorem Inv.after{Q:VK}(I:Inv X pins Z H s)(h:CE X.stack X.prog X.w H s Q u s'):EP X pins Z Q u s':=by
 obtain⟨v,H',os,bare,un,hok,r,q⟩:=h;obtain⟨hh,g,d,t,os'⟩:=s';obtain rfl:os'=s.os:=os;exact⟨v,H',I.call (h':=hh) (g':=g) (d':=d) (t':=t) (ch:=[]) un hok bare (λb z=>absurd z (by simp)),r,q⟩
end
def wU(sp:Sp)(dvs:Ac V)(E:XK)(t:TA):TE:=λZ H Q=>t Z H λvs H1=>sp (vs++dvs) H1 Q E
noncomputable def HY(K:Fg)(fd:Co)(ps:Ac Ak)(ds:Ac Ai):Prop:=
 ∀(s:Ap)(us:Ac Ai),K.In s.heap->(us++ds).length=ps.length->Hq s fd ⟨us,[]⟩ (ps.zip (us++ds))
theorem HY.all{K:Fg}(h:∀ us:Ac Ai,us.length=ps.length->MO fd ⟨us,[]⟩=pure (ps.zip us)):HY K fd ps []:=λs us _ hl=>by
 rw[Bu]at hl ⊢;exact .of_eq (h us hl)
def Mm(CX:CXT)(X:Cx)(E:XK):Prop:=∀(pins:Pn)(Z:St)(H:Hp)(s:Ap)(e:Ai)(s':Ap),Inv X pins Z H s->CX X.stack H s E e s'->X.xe e s'
section
variable{X:Cx}{CX:CXT}{k:Ae}{f C:Al}{fd:Co}{ps:Ac Ak}{sp:Sp}{dvs:Ac V}{ds:Ac Ai}{E:XK}{x m:Ak}{p pos apos:AY}{e o:An}{es:Ac An}{ta:TE}{t:TA}
theorem sM{Q:VK}(F:FnOk X.prog X.w X.K X.mg X.base CX k f fd ps sp)(hr:Room k X.A)(hb:HY X.K fd ps ds)(hd:Bb dvs ds)(hx:Mm CX X E)(I:Inv X pins Z H s)(r:Bb vs us)(h:sp (vs++dvs) H Q E):Aw (model X.prog X.w) X.A (call (.ref f) us) (EP X pins Z Q) X.xe s:=by
 have r2:Bb (vs++dvs) (us++ds):=r.append hd;have hl:(us++ds).length=ps.length:=by rw[<-r2.length];exact F.len _ _ _ _ h
 refine LK (F5 (F.run X.A X.stack s H ⟨us,[]⟩ (us++ds) (vs++dvs) Q E hr I.env0 (hb s us I.kIn hl) r2 h) λr s' hq=>?_)
 cases r with
 |error e=>exact hx pins Z H s e s' I hq
 |ok fl=>
  cases fl with
  |ret u=>exact I.after hq
  |next=>exact BH hq
  |brk=>exact BH hq
  |cont=>exact BH hq
theorem U_8(F:FnOk X.prog X.w X.K X.mg X.base CX k f fd ps sp)(hr:Room k X.A)(hg:Gl X x)(hm:X.mg x=Ab (.ref f))(hk:CH X.K (.ref f)=Aa)(hb:HY X.K fd ps ds)(hd:Bb dvs ds)(hx:Mm CX X E)(ha:PA X (e::es) t)(hdb:(x==("__debug__" : Ak))=Af:=by decide)(he:AB (e::es) X.env=(Af,eval e X.env)::AB es X.env:=by rfl)(hpl:(Cc pos (AB es X.env)).any (·.1)=Af:=by rfl):PE X (.Call (.Name x p) (e::es) [] pos) (wU sp dvs E t):=by
 intro pins s Z H Q I h;refine F6 (Nh I hg hm ?_ hdb);refine aF (h₀:=X.base) I.ok.mod.kin hk (thn (ha pos pins s Z H _ I h) λus s1 ⟨vs,H1,I1,r,q⟩=>⟨I1.kIn,?_⟩) he hpl
 exact sM F hr hb hd hx I1 r q
structure Mk (K:Fg) (C f:Al):Prop where
 makes:PySem.W.makesIn K C=Aa
 init:Bi K (.ref C) "__init__" = Ab (Ab (.ref f))
 fn:PySem.W.isFn K (.ref f)=Aa
 kp:CH K (.ref C)=Aa
end
section
variable{X:Cx}{CX:CXT}{k:Ae}{f C:Al}{fd:Co}{ps ks:Ac Ak}{sp:Sp}{E:XK}{x m:Ak}{p pos apos kpos:AY}{e o:An}{es:Ac An}{kws:Ac Ey}{te ta:TE}{t tk:TA}{nm:Ao Ak}
variable{g:Ac Ai->Ac Ai->Ac Ai}{gV:Ac V->Ac V->Ac V}
end
structure FnScope (N P:Ac Ak) (sc:Cr):Prop where
 kind:sc.kind=.function
 co:sc.isCoroutine=Af
 gen:sc.isGenerator=Af
 nd:N.Nodup
 pre:N.take P.length=P
 par:∀ x∈P,sc.names.lookup x=Ab .local\/sc.names.lookup x=Ab .cell
 nofree:∀ y∈sc.names,y.2≠.free
theorem TW{kindOf:Ak->Ao E4}{x:Ak}:∀{binds:Ac (Ak×Ai)}{m:Ak->Ao Ai},(∀ v,(x,v)∉binds)->JO kindOf binds m x=m x
 |[],_,_=>rfl
 |(n,v)::r,m,h=>by
  unfold JO;rw[TW λw hw=>h w (AG _ hw)]
  split
  .have:x≠n:=by rintro rfl;exact h v AM
   simp[this]
  .rfl
theorem TY{kindOf:Ak->Ao E4}{x:Ak}:∀{binds:Ac (Ak×Ai)}{m:Ak->Ao Ai},(∀ v,(x,v)∉binds)->JN kindOf binds m x=m x
 |[],_,_=>rfl
 |(n,v)::r,m,h=>by
  unfold JN;rw[TY λw hw=>h w (AG _ hw)]
  split
  .rfl
  .have:x≠n:=by rintro rfl;exact h v AM
   simp[this]
theorem TX{kindOf:Ak->Ao E4}{x:Ak}{v:Ai}:∀{P:Ac Ak}{vs:Ac Ai}{i:Ae}{m:Ak->Ao Ai},P.Nodup->P[i]?=Ab x->vs[i]?=Ab v->kindOf x=Ab .local->JO kindOf (P.zip vs) m x=Ab v
 |[],_,_,_,_,h,_,_=>by simp at h
 |_::_,[],_,_,_,_,h,_=>by simp at h
 |p::P,w::vs,0,m,nd,h1,h2,hk=>by
  simp at h1 h2;subst h1;subst h2;show JO kindOf ((p,w)::P.zip vs) m p=_;unfold JO;rw[TW λv hv=>(DS.mp nd).1 (IV hv).1,Ar hk]
  simp
 |p::P,w::vs,i+1,m,nd,h1,h2,hk=>by
  show JO kindOf ((p,w)::P.zip vs) m x=_;unfold JO;exact TX (i:=i) (DS.mp nd).2 (by simpa using h1) (by simpa using h2) hk
theorem TZ{kindOf:Ak->Ao E4}{x:Ak}{v:Ai}:∀{P:Ac Ak}{vs:Ac Ai}{i:Ae}{m:Ak->Ao Ai},P.Nodup->P[i]?=Ab x->vs[i]?=Ab v->kindOf x≠Ab .local->JN kindOf (P.zip vs) m x=Ab v
 |[],_,_,_,_,h,_,_=>by simp at h
 |_::_,[],_,_,_,_,h,_=>by simp at h
 |p::P,w::vs,0,m,nd,h1,h2,hk=>by
  simp at h1 h2;subst h1;subst h2;show JN kindOf ((p,w)::P.zip vs) m p=_;unfold JN;rw[TY λv hv=>(DS.mp nd).1 (IV hv).1,As hk]
  simp
 |p::P,w::vs,i+1,m,nd,h1,h2,hk=>by
  show JN kindOf ((p,w)::P.zip vs) m x=_;unfold JN;exact TZ (i:=i) (DS.mp nd).2 (by simpa using h1) (by simpa using h2) hk
noncomputable def start(N:Ac Ak)(vs:Ac V):St:=vs.map Ab++Ho (N.length-vs.length) Ad
noncomputable def Hy(CX:CXT)(P:AQ)(w:AT)(K:Fg)(mg:Ak->Ao Ai)(base:AK)(N:Ac Ak)(qual:Ak)(scope:Cr)(f:Al)(cd:Ai)(A:AV)(outer:Ac CU)(s:Ap)(H:Hp)(E:XK):Cx where
 prog:=P
 w:=w
 K:=K
 mg:=mg
 base:=base
 A:=A.deeper (FS qual scope s.heap.objs.size f cd)
 N:=N
 s₀:=s
 H₀:=H
 env:=FS qual scope s.heap.objs.size f cd
 outer:=outer
 stack:=FS qual scope s.heap.objs.size f cd::outer
 ex:=[]
 calm:=Aa
 fn:=λ_=>Aa
 pn:=[]
 xe:=λe s'=>Aw (model P w) (A.deeper (FS qual scope s.heap.objs.size f cd)) (leaving (FS qual scope s.heap.objs.size f cd) e) (λ_ s''=>CX outer H s E e s'') (λe' s''=>CX outer H s E e' s'') s'
theorem T9{sc:Cr}(h:sc.names.lookup x=Ab .cell):∃ c,(DM n sc.names []).lookup x=Ab c:=by
 have q:=aG sc.names n [] (.inl h);exact F2.mp q
theorem iB{w:AT}{K:Fg}{mg:Ak->Ao Ai}{base:AK}{N ps:Ac Ak}{f:Al}{cd:Ai}{A:AV}{outer:Ac CU}{s1:Ap}{E:XK}(S:FnScope N ps scope)(hd:A.handled=Ad)(e0:Env0 P w K mg base A outer s H)(hl:vs.length=ps.length)(r:Bb vs us)(x:InCallC s s.heap.objs.size (JO (FS qual scope s.heap.objs.size f cd).kindOf (ps.zip us) λ_=>Ad) (DM (s.heap.objs.size+1) scope.names []) (JN (FS qual scope s.heap.objs.size f cd).kindOf (ps.zip us) λ_=>Ad) s1):Inv (Hy CX P w K mg base N qual scope f cd A outer s H E) [] (start N vs) H s1:=by
 have hpl:ps.length<=N.length:=by have:=congrArg FV S.pre;rw[Ei]at this;omega
 obtain⟨h1,tk,rfl,hk⟩:=x.done;have noA:∀ b:Al,b∉(Hy CX P w K mg base N qual scope f cd A outer s H E).ex:=λb z=>absurd (show b∈([]:Ac Al) from z) (by simp)
 refine⟨⟨e0.mod,S.kind,rfl,rfl,Ay _,λy z c h1 h2=>?_,λy hy=>?_,λy c _ h=>?_,λ_=>hd,Around.frames_deeper e0.frames,.inr ⟨rfl,rfl⟩,λb z=>absurd z (noA b),e0.bs,e0.bsz,λb _ _=>noA b,λb z=>absurd z (noA b),e0.funs,e0.frf⟩,
  rfl,e0.bare,Un.kept hk,⟨_,x.toInCall.ns,λi y v h1 h2 h3=>?_⟩,λy c h=>⟨_,x.cell y c h⟩,e0.hok.fresh (Ay _),λy c h=>?_,λp hp=>absurd (show p∈([]:Pn) from hp) (by simp),e0.hok.kept hk,?_⟩
 .exact name_of_addr x.apart (CW h1) (CW h2)
 .have hy:scope.names.lookup y=Ab .cell\/scope.names.lookup y=Ab .free:=hy;rcases hy with hy|hy
  .exact T9 hy
  .exact absurd rfl (S.nofree _ (CW hy))
 .exact Fx (x.above y c (CW h))
 .have hi:i<vs.length:=by
   unfold start at h2;by_cases hi:i<vs.length
   .exact hi
   .rw[BB (by simpa using hi)]at h2
    rw[X8]at h2;split at h2<;>cases h2
  have ha:vs[i]?=Ab v:=by
   unfold start at h2;rw[C2 (by simpa using hi),BC]at h2
   cases e:vs[i]? with
   |none=>rw[e]at h2;cases h2
   |some a=>rw[e]at h2;cases h2;rfl
  obtain⟨u,hu,rv⟩:=r.get ha;have hp:ps[i]?=Ab y:=by
   rw[<-S.pre,List.getElem?_take_of_lt (by omega)];exact h1
  have ndP:ps.Nodup:=by rw[<-S.pre];exact S.nd.sublist (List.take_sublist _ _)
  refine⟨u,rv,?_⟩;rcases S.par y (EO hp) with k|k
  .exact .inl ⟨k,TX ndP hp hu k⟩
  .obtain⟨c,e⟩:=T9 (n:=s.heap.objs.size+1) k;refine .inr ⟨.inl k,c,e,?_⟩;have q:=x.cell y c e;rw[TZ ndP hp hu (by show scope.names.lookup y≠_;rw[k];decide)]at q
   exact q
 .exact e0.hok.fresh (Fx (x.above y c (CW h)))
 .unfold start;show _=N.length;rw[Bt,AF,Yg];omega
theorem WK{w:AT}{K:Fg}{mg:Ak->Ao Ai}{base:AK}{f:Al}{name:Ak}{params:Arguments}{dV kV doc pm cdv ct oc:Ai}{an od:Ao Al}{osl:Au (Ao Ai)}{N ps:Ac Ak}(lk:K.lookup f=Ab ⟨oc,od,.func (Eu name qual params body scope dV kV doc pm an cdv ct),osl⟩)(hcd:Gh K cdv qual=Aa)(S:FnScope N ps scope)(len:∀ vs H Q E,sp vs H Q E->vs.length=ps.length)(hbody:∀(A:AV)(outer:Ac CU)(s:Ap)(H:Hp)(vs:Ac V)(Q:VK)(E:XK),Room k (A.deeper (FS qual scope s.heap.objs.size f cdv))->sp vs H Q E ->
   ∃ t,PSs (Hy CX P w K mg base N qual scope f cdv A outer s H E) body t/\t {nx:=λ_ H'=>Q .non H',rt:=Q} (start N vs) H):FnOk P w K mg base CX (k+1) f (Eu name qual params body scope dV kV doc pm an cdv ct) ps sp:=by
 refine⟨len,λA outer s H args us vs Q E hr e0 hb r hsp=>?_⟩
 have hl:=len _ _ _ _ hsp;have KX:K.In s.heap:=e0.mod.kin.keeps λb o e=>(e0.bs b o e).1
 have lim:s.heap.NoLimit:=e0.mod.nolimit.keeps λb o e=>(e0.bs b o e).1
 have hkind:∀ y∈ps.zip us,scope.names.lookup y.1=Ab .local\/(scope.names.lookup y.1=Ab .cell/\((DM (s.heap.objs.size+1) scope.names []).lookup y.1).isSome=Aa):=λ⟨n,v⟩ hy=>by
  rcases S.par n (IV hy).1 with q|q
  .exact .inl q
  .exact .inr ⟨q,aG _ _ _ (.inl q)⟩
 refine codeAny_call_function hr.depth (KX _ _ lk) rfl S.co S.gen rfl (PySem.W.codeRec_of KX hcd) (hb _ _ _ _ ?_);refine wpAny_newFunctionEnv_cells S.kind hkind λenv he s1 x=>?_
 subst he;refine⟨lim.keeps x.toInCall.keep,codeAny_func ?_⟩;obtain⟨t,ht,hq⟩:=hbody A outer s H vs Q E (hr.deeper _) hsp;have I:Inv (Hy CX P w K mg base N qual scope f cdv A outer s H E) [] (start N vs) H s1:=iB S hr.hd e0 hl r x;refine BJ (ht [] s1 (start N vs) H _ I hq) (λfl s' hs=>?_) λe s' hs=>hs
 have fin:∀{Z':St}{H':Hp}{v:V}{u:Ai},Inv (Hy CX P w K mg base N qual scope f cdv A outer s H E) [] Z' H' s'->BM v u->Q v H'->CE outer P w H s Q u s':=
  λ{Z' H' v u} J rv q=>⟨v,H',J.os,J.bare,J.base,J.hok,rv,q⟩
 cases fl with
 |ret u=>
  obtain⟨v,Z',H',J,rv,q⟩:=hs;exact fin J rv q
 |next=>
  obtain⟨Z',H',J,q⟩:=hs;exact fin (v:=V.non) (u:=AI) J rfl q
 |brk=>
  obtain⟨_,_,_,q⟩:=hs;exact BH q
 |cont=>
  obtain⟨_,_,_,q⟩:=hs;exact BH q
section
variable{X:Cx}{x:Ak}{p pos:AY}{e:An}{es:Ac An}{t:TA}{id T:C3}{r:Ac V->Hp->VK->Prop}
def tCB(r:Ac V->Hp->VK->Prop)(t:TA):TE:=λZ H Q=>t Z H λvs H1=>r vs H1 Q
theorem L5(hc:IJ X (.builtin id) r)(hg:Gl X x)(hm:X.mg x=Ad)(hv:Dc x=Ab (.builtin id))(ha:PA X (e::es) t)(hn:x≠"__name__" := by decide)(hdb:(x==("__debug__" : Ak))=Af:=by decide)(he:AB (e::es) X.env=(Af,eval e X.env)::AB es X.env:=by rfl)(hpl:(Cc pos (AB es X.env)).any (·.1)=Af:=by rfl):PE X (.Call (.Name x p) (e::es) [] pos) (tCB r t):=by
 intro pins s Z H Q I h;refine F6 (IF I hg hm hv ?_ hn hdb);exact YL (thn (ha pos pins s Z H _ I h) λus s1 ⟨vs,H1,I1,r1,q1⟩=>hc pins s1 Z H1 vs us Q I1 r1 q1) he hpl
theorem Tw(hc:IJ X (.type T) r)(hg:Gl X x)(hm:X.mg x=Ad)(hv:Dc x=Ab (.type T))(ha:PA X (e::es) t)(hn:x≠"__name__" := by decide)(hdb:(x==("__debug__" : Ak))=Af:=by decide)(he:AB (e::es) X.env=(Af,eval e X.env)::AB es X.env:=by rfl)(hpl:(Cc pos (AB es X.env)).any (·.1)=Af:=by rfl):PE X (.Call (.Name x p) (e::es) [] pos) (tCB r t):=by
 intro pins s Z H Q I h;refine F6 (IF I hg hm hv ?_ hn hdb);exact BV (thn (ha pos pins s Z H _ I h) λus s1 ⟨vs,H1,I1,r1,q1⟩=>hc pins s1 Z H1 vs us Q I1 r1 q1) he hpl
end
end L2
namespace HT
open PySem PyProof.Rows
section
open PySem.SeqAt
open PySem.AutoSeq1 (wpAny_loadPart')
open PySem.MeetsSeq PySem.MeetsSeq2 PySem.MeetsSeq3
end
section
variable{prog:AQ}{w:AT}{A:AV}{E:Vq}{s:Ap}
theorem cat_tup{t b:Al}{vs ws:Ac Ai}{Q:Vq}(ht:MG s.heap t vs.toArray)(hb:MG s.heap b ws.toArray)(hv:vs≠[])(h1:ws=[]->Q (.ref t) s)(h2:ws≠[]->Q (.ref s.heap.objs.size) { s with heap:=s.heap.push { cls:=.type "tuple",data:=.seq (vs++ws).toArray } })(hsz:vs.length+ws.length<=sizeLine):Aw (model prog w) A (Ct .Add (.ref t) (.ref b)) Q E s:=by
 obtain⟨⟨cls,dd,data,sl⟩,ho,hc,n,hd⟩:=id ht;obtain⟨⟨cls2,dd2,data2,sl2⟩,ho2,hc2,n2,hd2⟩:=id hb;simp only at hc hd hc2 hd2;subst hc hd hc2 hd2;have e:vs.toArray++ws.toArray=(vs++ws).toArray:=by simp
 by_cases hw:ws=[]
 .exact Kt ⟨_,ho,rfl⟩ ⟨_,ho2,rfl⟩ aU seq_tuple_add ZJ ZA (Zv _ _)
   (tuple_addW1 t b vs.toArray ws.toArray n n2 dd dd2 sl sl2 (by simpa using hv) (by simp[hw])) ⟨ho,ho2,h1 hw⟩
 .refine Kt ⟨_,ho,rfl⟩ ⟨_,ho2,rfl⟩ aU seq_tuple_add ZJ ZA (Zv _ _)
   (tuple_addW2 t b vs.toArray ws.toArray n n2 dd dd2 sl sl2 (by simpa using hv) (by simpa using hw) (by rw[AO,AO];exact hsz)) ⟨ho,ho2,?_⟩
  rw[e];exact h2 hw
end
end HT
namespace L2
open PySem PySem.Spec PyProof.Rows
variable{xs:Ac V}{us its:Ac Ai}{n t':Ae}{i:Ag}{pins:Pn}{Z:St}{H:Hp}{s:Ap}
abbrev TO:=St->Hp->(Ao Ag->Hp->Prop)->Prop
noncomputable def PO(X:Cx)(e:Ao An)(t:TO):Prop:=
 ∀(pins:Pn)(s:Ap)(Z:St)(H:Hp)(Q:Ao Ag->Hp->Prop),Inv X pins Z H s->t Z H Q ->
  Aw (model X.prog X.w) X.A (evalPart e X.env) (λu s'=>∃ o H',Inv X pins Z H' s'/\IsPart u o/\Q o H') X.xe s
def lO:TO:=λ_ H Q=>Q Ad H
def wP(t:TE):TO:=λZ H Q=>t Z H λx H1=>∃ i,x=.int i/\Q (Ab i) H1
section
variable{X:Cx}{e:An}{te:TE}{lo hi:Ao An}{tl th:TO}{pos p2:AY}
theorem mW:PO X Ad lO:=by
 intro pins s Z H Q I h;rw[evalPart_none];exact At ⟨Ad,H,I,.none,h⟩
theorem oR(h:PE X e te):PO X (Ab e) (wP te):=by
 intro pins s Z H Q I hw;rw[evalPart_some];refine thn (h pins s Z H _ I hw) λu s1 ⟨x,H1,I1,r1,q1⟩=>?_
 obtain⟨i,rfl,q⟩:=q1;obtain⟨t,rfl⟩:=r1;exact⟨Ab i,H1,I1,.int i t,q⟩
noncomputable def SlR(X:Cx)(r:V->Ao Ag->Ao Ag->Hp->VK->Prop):Prop:=
 ∀(pins:Pn)(s:Ap)(Z:St)(H:Hp)(x:V)(v vl vu:Ai)(lo hi:Ao Ag)(sl:Al)(Q:VK),Inv X pins Z H s->BM x v->s.heap.IsSliceOf sl vl vu .none->IsPart vl lo->IsPart vu hi->r x lo hi H Q ->
  ∃ T id,typeLookup (.type T) "__getitem__" = pure (Ab (.builtin id))/\s.TypeIs v T/\Aw (model X.prog X.w) X.A (getItem v (.ref sl)) (EP X pins Z Q) X.xe s
theorem SlR.or{r r':V->Ao Ag->Ao Ag->Hp->VK->Prop}(h:SlR X r)(h':SlR X r'):SlR X (λx lo hi H Q=>r x lo hi H Q\/r' x lo hi H Q):=by
 intro pins s Z H x v vl vu lo hi sl Q I rx hs pl pu q;rcases q with q|q
 .exact h pins s Z H x v vl vu lo hi sl Q I rx hs pl pu q
 .exact h' pins s Z H x v vl vu lo hi sl Q I rx hs pl pu q
def xH(K:Fg):R2:=λx y H Q=>∃ a b xs ys,x=.ref a/\y=.ref b/\SqT K H a xs/\SqT K H b ys/\xs≠[]/\xs.length+ys.length<=sizeLine /\
 (ys=[]->Q (.ref a) H)/\(ys≠[]->∀ p,H p=Ad->Q (.ref p) (upd H p (.tup (xs++ys))))
theorem Bb.nil_iff(r:Bb xs us):us=[]↔xs=[]:=by
 cases r with
 |nil=>simp
 |cons _ _=>simp
theorem nN:OpR X (Ct .Add) (xH X.K):=by
 intro pins s Z H x y v u Q I rx ry h;obtain⟨a,b,xs,ys,rfl,rfl,ha,hb,hx,hz,q1,q2⟩:=h;cases rx;cases ry;obtain⟨its,r1,p1,_⟩:=I.tuple ha;obtain⟨its2,r2,p2,_⟩:=I.tuple hb;refine HT.cat_tup p1 p2 (λz=>hx (r1.nil_iff.mp z)) (λz=>⟨.ref a,H,I,rfl,q1 (r2.nil_iff.mp z)⟩) (λz=>?_) (by rw[<-r1.length,<-r2.length];exact hz)
 refine⟨.ref s.heap.objs.size,_,I.laid (t':=s.toks) (o:=.tup (xs++ys)) (λb ob q=>Aq _ q) (Ay _) ?_,rfl,q2 (λw=>z (r2.nil_iff.mpr w)) _ (I.hok.fresh (Ay _))⟩
 exact⟨by rw[Bt];exact hz,_,r1.append r2,YF _ _⟩
end
noncomputable def ixN(n:Ae)(i:Ag):Ao Ae:=if 0<=i then (if i<n then Ab i.toNat else Ad) else if -(n:Ag)<=i then Ab (i+n).toNat else Ad
noncomputable def atI{α:Type}(xs:Ac α)(i:Ag):Ao α:=(ixN xs.length i).bind λj=>xs[j]?
theorem qK{j:Ae}(h:ixN n i=Ab j):seqIndex? i n=Ab j/\j<n/\-(n:Ag)<=i/\i<n:=by
 unfold ixN at h;by_cases h0:0<=i
 .rw[Ar h0]at h;by_cases h1:i<n
  .rw[Ar h1]at h;have e:i.toNat=j:=Bf h;exact⟨by rw[seqIndex_of h0 h1,e],by omega,by omega,h1⟩
  .rw[As h1]at h;cases h
 .rw[As h0]at h;by_cases h1:-(n:Ag)<=i
  .rw[Ar h1]at h;have e:(i+n).toNat=j:=Bf h;exact⟨by rw[seqIndex_neg (by omega) h1,e],by omega,h1,by omega⟩
  .rw[As h1]at h;cases h
theorem QP{α:Type}{xs:Ac α}{v:α}(h:atI xs i=Ab v):∃ j,seqIndex? i xs.length=Ab j/\xs[j]?=Ab v/\j<xs.length/\-(xs.length:Ag)<=i/\i<xs.length:=by
 unfold atI at h;cases e:ixN xs.length i with
 |none=>rw[e]at h;cases h
 |some j=>
  rw[e]at h;obtain⟨h1,h2,h3,h4⟩:=qK e;exact⟨j,h1,h,h2,h3,h4⟩
def QF(b:An):Prop:=∀ o i,subscripted b Af o i=operate [o,i] (getItem o i)
noncomputable def IxR(X:Cx)(r:R2):Prop:=
 ∀(value slice:An)(pins:Pn)(s:Ap)(Z:St)(H:Hp)(x y:V)(v u:Ai)(Q:VK),Inv X pins Z H s->BM x v->BM y u->r x y H Q ->
  subscripted slice Af v u=operate [v,u] (getItem v u)->Aw (model X.prog X.w) X.A (subscriptTail value slice v u) (EP X pins Z Q) X.xe s
noncomputable def MtR(X:Cx)(id:C3)(r:V->Ac V->Hp->VK->Prop):Prop:=
 ∀(pins:Pn)(s:Ap)(Z:St)(H:Hp)(x:V)(xs:Ac V)(v:Ai)(us:Ac Ai)(Q:VK),Inv X pins Z H s->BM x v->Bb xs us->r x xs H Q ->
  Aw (model X.prog X.w) X.A (call (.builtin id) (v::us)) (EP X pins Z Q) X.xe s
section
variable{X:Cx}{a b:An}{ta tb:TE}{pos:AY}
theorem IxR.or{r r':R2}(h:IxR X r)(h':IxR X r'):IxR X (λx y H Q=>r x y H Q\/r' x y H Q):=by
 intro value slice pins s Z H x y v u Q I rx ry q hs;rcases q with q|q
 .exact h value slice pins s Z H x y v u Q I rx ry q hs
 .exact h' value slice pins s Z H x y v u Q I rx ry q hs
theorem xP{r:R2}(hr:IxR X r)(ha:PE X a ta)(hb:PE X b tb)(hs:QF b):PE X (.Subscript a b pos) (tOp r ta tb):=by
 intro pins s Z H Q I h;exact Subscript_ (Sf ha hb I h λv u s2 x y H2 I2 rx ry q=>hr a b pins s2 Z H2 x y v u Q I2 rx ry q (hs _ _))
def Xm(K:Fg):R2:=λx y H Q=>∃ p xs i v,x=.ref p/\y=.int i/\SqL K H p xs/\atI xs i=Ab v/\Q v H
def Xk(K:Fg):R2:=λx y H Q=>∃ p xs i v,x=.ref p/\y=.int i/\SqT K H p xs/\atI xs i=Ab v/\Q v H
def Xl:R2:=λx y H Q=>∃ z i c,x=.str z/\y=.int i/\z.length<=sizeLine/\atI z.cps.toList i=Ab c/\Q (.str ⟨#[c]⟩) H
theorem qJ:IxR X (Xm X.K):=by
 intro value slice pins s Z H x y v u Q I rx ry h hs;obtain⟨p,xs,i,z,rfl,rfl,hq,he,q⟩:=h;cases rx;obtain⟨t,rfl⟩:=ry;obtain⟨its,r,pl,hz⟩:=I.list hq;obtain⟨j,h1,h2,h3,h4,h5⟩:=QP he;obtain⟨w,ew,rw'⟩:=r.get h2;have hl:=r.length;have hn:=Mh;have fin:EP X pins Z Q w s:=⟨z,H,I,rw',q⟩;by_cases h0:0<=i
 .have hj:i.toNat=j:=by
   rw[seqIndex_of h0 h5]at h1;exact Bf h1
  exact item_listR pl.isList h0 (by omega) (by rw[hj];simpa using ew) fin hs
 .have hj:(i+(its.toArray.size:Ag)).toNat=j:=by
   rw[seqIndex_neg (by omega) h4]at h1
   rw[AO,<-hl];exact Bf h1
  exact YO (x:=w) pl.isList.typeIs slot_list_getitem.lookup
   (wpAny_getItem_list_neg (Q:=λr s'=>r=w/\EP X pins Z Q r s') pl.isList (by omega) (by rw[AO]<;>omega) (by omega) (by rw[hj];simpa using ew) ⟨rfl,fin⟩) hs
theorem uH:IxR X (Xk X.K):=by
 intro value slice pins s Z H x y v u Q I rx ry h hs;obtain⟨p,xs,i,z,rfl,rfl,hq,he,q⟩:=h;cases rx;obtain⟨t,rfl⟩:=ry;obtain⟨its,r,pl,hz⟩:=I.tuple hq;obtain⟨j,h1,h2,h3,h4,h5⟩:=QP he;obtain⟨w,ew,rw'⟩:=r.get h2;have hl:=r.length;have hn:=Mh;have fin:EP X pins Z Q w s:=⟨z,H,I,rw',q⟩;exact YO (x:=w) pl.typeIs slot_tuple_getitem.lookup
  (getItem_tuple (j:=j) (Q:=λr s'=>r=w/\EP X pins Z Q r s') pl (by omega) (by omega) (by rw[AO,<-hl];exact h1) (by simpa using ew) ⟨rfl,fin⟩) hs
theorem uI:IxR X Xl:=by
 intro value slice pins s Z H x y v u Q I rx ry h hs;obtain⟨z,i,c,rfl,rfl,hz,he,q⟩:=h;obtain⟨t,rfl⟩:=rx;obtain⟨t',rfl⟩:=ry;obtain⟨j,h1,h2,h3,h4,h5⟩:=QP he;have hl:z.cps.toList.length=z.length:=by simp[Str.length]
 rw[hl]at h1 h4 h5;have hn:=Mh;exact tail_any (LH s z t) slot_str_getitem.lookup (getItem_str (c:=c) (by
  have e1:decide (i < -(2 ^ 63:Ag))=Af:=BD (by omega)
  have e2:decide (i ≥ 2 ^ 63)=Af:=BD (by omega)
  rw[e1,e2,Fb]) (by rw[h1];simpa using h2) ⟨.str ⟨#[c]⟩,H,I.tok _,⟨_,rfl⟩,q⟩) hs
def rIx(K:Fg):R2:=λx y H Q=>Xm K x y H Q\/Xk K x y H Q\/Xl x y H Q
theorem uJ:IxR X (rIx X.K):=qJ.or (uH.or uI)
theorem Inv.lst{p:Al}(I:Inv X pins Z H s)(h:H p=Ab (.lst xs)):
  ∃(its:Ac Ai)(n:Ae),Bb xs its/\s.heap.get? p=Ab { cls:=.type "list",data:=.seq its.toArray n }/\xs.length<=sizeLine:=by
 obtain⟨z,its,n,r,e⟩:=I.hok p _ h;exact⟨its,n,r,e,z⟩
theorem dR:OpR X (Dd .NotIn) (λx y H Q=>∃ i j,x=.str i/\y=.str j/\Q (.bl (!(!(Builtin.Str.occurrences j i 0 j.length 1).isEmpty))) H):=by
 intro pins s Z H x y v u Q I rx ry h;obtain⟨i,j,rfl,rfl,q⟩:=h;obtain⟨t,rfl⟩:=rx;obtain⟨t',rfl⟩:=ry;exact notIn_str ⟨.bl _,H,I,rfl,q⟩
theorem SJ:IJ X (.builtin "len") (λxs H Q=>∃ p ys,xs=[.ref p]/\(SqL X.K H p ys\/SqT X.K H p ys)/\Q (.int ys.length) H):=by
 intro pins s Z H xs us Q I r h;obtain⟨p,ys,rfl,hq,q⟩:=h;obtain⟨u,rfl,rx⟩:=J3 r;cases rx;have hn:=Mh;rcases hq with hq|hq
 .obtain⟨its,r',pl,hz⟩:=I.list hq;have hlen:=r'.length;exact Calls.call_len_list pl.isList (by simp only[AO]<;>omega) ⟨.int ys.length,H,I.tok _,⟨s.toks+1,by rw[AO,hlen]⟩,q⟩
 .obtain⟨its,r',pl,hz⟩:=I.tuple hq;have hlen:=r'.length;exact len_tuple pl (by simp only[AO]<;>omega) ⟨.int ys.length,H,I.tok _,⟨s.toks+1,by rw[AO,hlen]⟩,q⟩
theorem eE:IJ X (.builtin "len") (λxs H Q=>∃ z,xs=[.str z]/\z.length<=sizeLine/\Q (.int z.length) H):=by
 intro pins s Z H xs us Q I r h;obtain⟨z,rfl,hz,q⟩:=h;obtain⟨u,rfl,t,rfl⟩:=J3 r;have hn:=Mh;exact len_str (by omega) ⟨.int z.length,H,I.tok _,⟨_,rfl⟩,q⟩
theorem SG:IJ X (.type "list") (λxs H Q=>∃ p ys,xs=[.ref p]/\(SqL X.K H p ys\/SqT X.K H p ys)/\∀ l,H l=Ad->Q (.ref l) (upd H l (.lst ys))):=by
 intro pins s Z H xs us Q I r h;obtain⟨p,ys,rfl,hq,q⟩:=h;obtain⟨u,rfl,rx⟩:=J3 r;cases rx;have fin:∀(its:Ac Ai),Bb ys its->ys.length<=sizeLine->∀(h':AK)(c':Ae),(∀ b o',s.heap.get? b=Ab o'->h'.get? b=Ab o') ->
   h'.get? s.heap.objs.size=Ab { cls:=.type "list",dict:=Ad,data:=.seq its.toArray c',slots:=#[] }->EP X pins Z Q (.ref s.heap.objs.size) {s with heap:=h'}:=λits r' hz h' c' kp e=>
  ⟨.ref s.heap.objs.size,_,I.laid (t':=s.toks) kp (Ay _) (show ObjOk X.prog X.w _ h' _ (.lst ys) from ⟨hz,its,c',r',e⟩),rfl,q _ (I.hok.fresh (Ay _))⟩
 rcases hq with hq|hq
 .obtain⟨its,r',pl,hz⟩:=I.list hq;have hlen:=r'.length;obtain⟨o,ho,hc,n,hd⟩:=pl.isList;exact call_list_seq p (.inl rfl) ho hc hd (λh' c' kp e=>fin its r' hz h' c' kp e) (by simp only[AO]<;>omega)
 .obtain⟨its,r',pl,hz⟩:=I.tuple hq;have hlen:=r'.length;obtain⟨o,ho,hc,n,hd⟩:=pl;exact call_list_seq p (.inr rfl) ho hc hd (λh' c' kp e=>fin its r' hz h' c' kp e) (by simp only[AO]<;>omega)
theorem Sw:IJ X (.type "tuple") (λxs H Q=>∃ p ys,xs=[.ref p]/\((SqL X.K H p ys/\∀ l,H l=Ad->Q (.ref l) (upd H l (.tup ys)))\/(SqT X.K H p ys/\Q (.ref p) H))):=by
 intro pins s Z H xs us Q I r h;obtain⟨p,ys,rfl,h⟩:=h;obtain⟨u,rfl,rx⟩:=J3 r;cases rx;rcases h with ⟨hq,q⟩|⟨hq,q⟩
 .obtain⟨its,r',pl,hz⟩:=I.list hq;have hlen:=r'.length;refine call_tuple_list pl.isList (λh' kp=>?_) (by simp only[AO]<;>omega)
  have I1:Inv X pins Z H {s with heap:=h'}:=I.kept (t':=s.toks) kp
  have I2:Inv X pins Z (upd H h'.objs.size (.tup ys)) { s with heap:=h'.push { cls:=.type "tuple",data:=.seq its.toArray } }:=
   I1.laid (t':=s.toks) (λb o e=>Aq _ e) (Ay _) (show ObjOk X.prog X.w _ _ _ (.tup ys) from ⟨hz,its,r',YF _ _⟩)
  exact⟨.ref h'.objs.size,_,I2,rfl,q _ (I1.hok.fresh (Ay _))⟩
 .obtain⟨its,r',pl,hz⟩:=I.tuple hq;exact call_tuple_same pl ⟨.ref p,H,I,rfl,q⟩
def tyV(K:Fg)(T:C3)(x:V)(H:Hp):Prop:=match x with
  |.str _=>T = "str"
  |.int _=>T = "int"
  |.ref p=>(T = "list"/\∃ xs,SqL K H p xs)\/(T = "tuple"/\∃ o,K.lookup p=Ab o/\o.cls=.type "tuple"/\o.dict=Ad) \/
      (T = "dict"/\((∃ kvs,H p=Ab (.dK kvs))\/∃ kvs,H p=Ab (.dT kvs)))\/(T = "set"/\∃ S n,H p=Ab (.set S n))
  |_=>Ba
theorem rE{T:C3}{x:V}{v:Ai}(I:Inv X pins Z H s)(r:BM x v)(ty:tyV X.K T x H):s.TypeIs v T/\∀ a,v=.ref a->∃ ob,s.heap.get? a=Ab ob/\ob.dict=Ad:=by
 cases x with
 |str z=>
  obtain⟨t,rfl⟩:=r;cases (show T = "str" from ty)
  exact⟨LH s z t,λ_ e=>nomatch e⟩
 |int i=>
  obtain⟨t,rfl⟩:=r;cases (show T = "int" from ty)
  exact⟨typeIs_int s i t,λ_ e=>nomatch e⟩
 |ref p=>
  cases r;rcases ty with ⟨rfl,xs,hq⟩|⟨rfl,o,hk,hc,hd⟩|⟨rfl,hk⟩|⟨rfl,S,n,hk⟩
  .obtain⟨its,_,pl,_⟩:=I.list hq;refine⟨pl.isList.typeIs,λa e=>?_⟩
   cases e;obtain⟨o,n,e,c,hd,_⟩:=pl;exact⟨o,e,hd⟩
  .refine⟨⟨o,I.kIn p o hk,hc⟩,λa e=>?_⟩
   cases e;exact⟨o,I.kIn _ o hk,hd⟩
  .have z:∃ o,s.heap.get? p=Ab o/\o.ExactDict:=by
    rcases hk with ⟨kvs,hk⟩|⟨kvs,hk⟩
    .obtain⟨_,_,_,_,o,_,_,e,ex,_⟩:=I.hok p _ hk;exact⟨o,e,ex⟩
    .obtain⟨_,_,_,_,o,_,_,e,ex,_⟩:=I.hok p _ hk;exact⟨o,e,ex⟩
   obtain⟨o,e,ex⟩:=z;refine⟨⟨o,e,ex.1⟩,λa e2=>?_⟩
   cases e2;exact⟨o,e,ex.2.1⟩
  .obtain⟨o,_,_,_,e,ex,_⟩:=I.hok p _ hk;refine⟨⟨o,e,ex.1⟩,λa e2=>?_⟩
   cases e2;exact⟨o,e,ex.2.1⟩
 |_=>exact BH ty
def tBM(K:Fg)(T:C3)(r:V->Ac V->Hp->VK->Prop)(to:TE)(t:TA):TE:=λZ H Q=>to Z H λx H1=>tyV K T x H1/\t Z H1 λxs H2=>r x xs H2 Q
variable{o e:An}{es:Ac An}{to:TE}{t:TA}{name:Ak}{apos cpos:AY}{T id:C3}{r:V->Ac V->Hp->VK->Prop}
theorem OS(pa:PlainAttrs T)(slot:Slot T name id)(hty:typeOf (.builtin id)=pure (.type "method_descriptor"))(hm:MtR X id r)(ho:PE X o to)(ha:PA X (e::es) t)(hbase:Fd o name X.env (eval o X.env)=eval o X.env:=by rfl)(hfew:((Cc cpos (AB (e::es) X.env)).all (λx=>!x.1)&&(JM cpos (Hz [] X.env)).all (λx=>x.1.isSome)
   && decide ((e::es).length+([]:Ac Ey).length+(if ([]:Ac Ey).isEmpty then 0 else 1)<30))=Aa:=by rfl)(hline:(apos.endLine==cpos.line)=Aa:=by rfl)(hs:AB (e::es) X.env=(Af,eval e X.env)::AB es X.env:=by rfl)(hplain:(Cc cpos (AB es X.env)).any (·.1)=Af:=by rfl):PE X (.Call (.Attribute o name apos) (e::es) [] cpos) (tBM X.K T r to t):=by
 intro pins s Z H Q I h;refine wpAny_Call_method_late hbase hfew hline rfl (thn (ho pins s Z H _ I h) λv s1 ⟨x,H1,I1,r1,ty,q1⟩=>?_)
 obtain⟨h1,h2⟩:=rE I1 r1 ty;refine⟨T,id,pa,slot,hty,h1,h2,?_⟩;have hA:=ha cpos pins s1 Z H1 _ I1 q1;rw[hs]at hA ⊢;refine Calls.callWith_builtin (by show (Af||(Cc cpos (AB es X.env)).any (·.1))=Af;rw[hplain]<;>rfl) (YZ ?_)
 exact thn hA λus s2 ⟨vs,H2,I2,r2,q2⟩=>hm pins s2 Z H2 x vs v us Q I2 r1 r2 q2
/- xs.append(e),list.index on a module's tuple .. are MtR facts of 06m -/
end
noncomputable def MtM(X:Cx)(id:C3)(r:V->Ac V->Hp->VK->Prop):Prop:=
 ∀(pins:Pn)(s:Ap)(Z:St)(H:Hp)(x:V)(xs:Ac V)(v:Ai)(us:Ac Ai)(Q:VK),Inv X pins Z H s->BM x v->Bb xs us->r x xs H Q ->
  Aw (model X.prog X.w) X.A (call (.builtin id) (v::us)) (EP X pins Z Q) X.xe s
theorem Bb.one:∀{x:V}{us:Ac Ai},Bb [x] us->∃ u,us=[u]/\BM x u
 |_,_,.cons r .nil=>⟨_,rfl,r⟩
theorem Bb.zero:∀{us:Ac Ai},Bb [] us->us=[]
 |_,.nil=>rfl
theorem Bb.eraseIdx:∀{xs:Ac V}{us:Ac Ai}(i:Ae),Bb xs us->Bb (xs.eraseIdx i) (us.eraseIdx i)
 |_,_,_,.nil=>.nil
 |_,_,0,.cons _ t=>t
 |_,_,i+1,.cons r t=>.cons r (Bb.eraseIdx i t)
theorem Bb.reverse(h:Bb xs us):Bb xs.reverse us.reverse:=by
 induction h with
 |nil=>exact .nil
 |cons r t ih=>rw[Yo,Yo];exact Bb.append ih (.cons r .nil)
section
variable{X:Cx}{pins:Pn}{Z:St}{H:Hp}{s:Ap}{l b:Al}{xs ys zs:Ac V}
theorem Inv.lset{its':Ac Ai}{f:Au Ai->Au Ai}(I:Inv X pins Z H s)(hH:H l=Ab (.lst xs))(e:s.heap.get? l=Ab { cls:=.type "list",data:=.seq its.toArray n })(hf:f its.toArray=its'.toArray)(hv:Bb ys its')(hz:ys.length<=sizeLine):Inv X pins Z (upd H l (.lst ys)) {s with heap:=s.heap.update l (B5 f),toks:=t'}:=by
 have q:=PySem.IsL.update e f;rw[hf]at q;refine I.write (x:=l) (e:=l) (by rw[hH];exact trivial) (.inl rfl) (λb' u hb hu=>(Cz s.heap (B5 f) (Ea hb)).trans hu) ⟨_,q⟩ ?_
 exact⟨hz,its',_,hv,q⟩
theorem Inv.lnew(I:Inv X pins Z H s)(hv:Bb ys its)(hz:ys.length<=sizeLine):
  Inv X pins Z (upd H s.heap.objs.size (.lst ys)) { s with heap:=s.heap.push { cls:=.type "list",data:=.seq its.toArray },toks:=t' }:=
 I.laid (λ_ _ q=>Aq _ q) (Ay _) ⟨hz,its,0,hv,AH _ rfl⟩
theorem Inv.fresh(I:Inv X pins Z H s):H s.heap.objs.size=Ad:=I.hok.fresh (Ay _)
theorem Inv.lstM(I:Inv X pins Z H s)(hH:H l=Ab (.lst xs)):xs.length<=sizeLine/\∃(its:Ac Ai)(n:Ae),Bb xs its/\xs.length=its.length/\s.heap.get? l=Ab { cls:=.type "list",data:=.seq its.toArray n }:=by
 obtain⟨z,its,n,r,e⟩:=I.hok l _ hH;exact⟨z,its,n,r,r.length,e⟩
theorem Ub(h:n<=sizeLine):DV n=Af:=by
 unfold DV;exact BD (by omega)
end
section
variable{X:Cx}
def oH:V->Ac V->Hp->VK->Prop:=λx vs H Q=>∃ l xs y,x=.ref l/\vs=[y]/\H l=Ab (.lst xs)/\xs.length<sizeLine/\Q .non (upd H l (.lst (xs++[y])))
theorem gA:MtM X "list.append" oH:=by
 intro pins s Z H x vs v us Q I rx rv h;obtain⟨l,xs,y,rfl,rfl,hH,hz,q⟩:=h;cases rx;obtain⟨u,rfl,ru⟩:=rv.one;obtain⟨z,its,n,r,hl,e⟩:=I.lstM hH;refine JQ F.slot_list_append ⟨_,e,rfl⟩ F.entry_list_append (F.args_list_append_2 _ _) (PySem.list_append l its.toArray n u (by rw[AO];omega)) ⟨e,?_⟩
 refine⟨.non,_,I.lset (its':=its++[u]) hH e (by simp) (r.append (.cons ru .nil)) ?_,rfl,q⟩
 rw[Bt,Yh];omega
def oG:V->Ac V->Hp->VK->Prop:=λx vs H Q=>∃ l b xs zs,x=.ref l/\vs=[.ref b]/\H l=Ab (.lst xs)/\H b=Ab (.lst zs)/\xs.length+zs.length<=sizeLine/\Q .non (upd H l (.lst (xs++zs)))
theorem fZ:MtM X "list.extend" oG:=by
 intro pins s Z H x vs v us Q I rx rv h;obtain⟨l,b,xs,zs,rfl,rfl,hH,hB,hz,q⟩:=h;cases rx;obtain⟨u,rfl,ru⟩:=rv.one;cases ru;obtain⟨z,its,n,r,hl,e⟩:=I.lstM hH;obtain⟨z2,its2,n2,r2,hl2,e2⟩:=I.lstM hB;have hsz:its.toArray.size+its2.toArray.size<=sizeLine:=by rw[AO,AO];omega
 have hlong:¬ (!its.toArray.isEmpty&&DV (its.toArray.size+its2.toArray.size))=Aa:=by
  rw[Ub hsz,Gd];exact Ax
 refine JQ FA ⟨_,e,rfl⟩ Zz (Zt _ _)
  (AutoSeq1.list_extend_list_list_0 l its.toArray n b its2.toArray n2 hlong (by rw[AO];omega) (by omega)) ⟨e,e2,?_⟩
 refine⟨.non,_,I.lset (its':=its++its2) hH e (by simp) (r.append r2) ?_,rfl,q⟩
 rw[Bt];omega
end
section
variable{prog:AQ}{w:AT}{A:AV}{E:Vq}{s:Ap}
set_option maxRecDepth 100000 in
end
section
variable{X:Cx}
end
end L2
namespace Att
open PySem PySem.W PySem.Calls PyProof.Rows
variable{P:ML}{h:AK}{l:GE}{n:Ae}
theorem dM:∀(ns:Ac Ag)(vs:Ac Ai),WellAll P h vs (ns.map aC)->Fc vs ns:=by
 intro ns
 induction ns with
 |nil=>
  intro vs w;rw[List.map_nil]at w;cases w;exact .nil
 |cons n ns ih=>
  intro vs w;rw[CO]at w;cases w with
  |cons a b=>
   cases a;exact .cons _ _ (ih _ b)
theorem gF(hn:l.most=Ab n){args:Ac WData}{vals:Ac Ai}(hpre:l.row.toRowW.claim.pre args=Aa)(hwl:WellAll P h vals args):
  ∃ a vs ns,vals=[Be a]/\args=[WData.list (ns.map aC)]/\h.get? a=Ab { cls:=.type "list",data:=.seq vs.toArray }/\Fc vs ns/\ns.length<=n:=by
 have hsh:WShape.hasAll [] args [.list .int]=Aa:=(pre_splitW hpre).1;have hc:l.pre.holds [] {args:=args}=Aa:=(pre_splitW hpre).2;obtain⟨d,r,rfl,h1,h2⟩:=hasAllW_cons hsh;obtain rfl:=hasAllW_nil h2;obtain⟨xs,rfl,h3⟩:=hasW_list h1;obtain⟨ns,rfl⟩:=items_int h3;have hlen:ns.length<=n:=by
  unfold OpenLaw.pre at hc;have h4:(WTm.not (.lt (.lit (.int (n:Ag))) (.len (.arg 0)))).holds [] {args:=[.list (ns.map .int)]}=Aa:=by
   have h4:=(holds_andW hc).1;rw[hn]at h4;exact h4
  have h5:=condW_of h4 (w_not (w_lt w_lit (w_len_list (w_arg rfl))));rw[AF]at h5;refine Nat.le_of_not_lt λq=>?_
  have q':(n:Ag)<((ns.length:Ae):Ag):=by omega
  first
   |(rw[BG q']at h5;exact absurd h5 (by decide))
   |(simp at h5;omega)
 cases hwl with
 |cons w1 w2=>
  cases w2;cases w1 with
  |list ho hall=>exact⟨_,_,ns,rfl,rfl,ho,dM ns _ hall,hlen⟩
theorem gL(l:GE)(args:Ac WData):l.row.toRowW.claim.post args (.bool Aa) args=Aa:=
 postW_of (r:=l.row.toRowW) (X:=(Aa==Aa))
  (show aD [] (.bool Aa) .bool=Aa by first|rfl|decide|simp[aD,WShape.arms,WShape.armsAll])
  (show (WTm.eq .res (.lit (.bool Aa))).value [] {args:=args,res:=Ab (.bool Aa),after:=args}=Ab (.bool (Aa==Aa)) from w_eq_bool (w_res rfl) w_lit) rfl
theorem attach_call{q:AQ}{loose:Ac Ak}{XP:(Ak->Ao Ai)->AK->Prop}{YP:AT->AK->Prop}{d:DefRec}(hn:l.most=Ab n)(hdf:d.params.defaults=[])(call:∀(w:AT)(s₀ s₁:Ap)(mg mb:Ak->Ao Ai)(fa:Al)(o:Dx)(pm cd doc:Ai)(a:Al)(vs:Ac Ai)(ns:Ac Ag),
   Ground q loose [] XP w s₀ mg mb s₁.heap->YP w s₁.heap ->
   s₁.heap.get? fa=Ab o->o.data=.func (docDef d.name d.params d.body d.scope pm cd doc)->s₁.heap.CodeRec cd d.name->mg d.name=Ab (.ref fa) ->
   s₁.heap.get? a=Ab { cls:=.type "list",data:=.seq vs.toArray }->Fc vs ns->ns.length<=n->s₁.gens=#[] ->
   FC (model l.prog w) Io (.call (.ref fa) ⟨[.ref a],[]⟩) (λr s'=>r=.ok (.ret (.bool Aa))/\OldK s₁.heap s'.heap/\s'.os=s₁.os/\Ge s'.gens) s₁):WalkO q loose XP YP l.row.toRowW d [] (λf vs=>LD f vs):=by
 intro w s₀ s₁ mg mb G Y_ fa o pm cd doc dV kV ho hd hcd hD hmg hg args vals as hpre hlay hrd hwl hlo;obtain rfl:dV=.none:=Dflts.none hD hdf;obtain rfl:kV=.none:=Dflts.noKw hD;obtain⟨a,vs,ns,rfl,rfl,hobj,hints,hlen⟩:=gF hn hpre hwl;refine enter_call (F5 (call w s₀ s₁ mg mb fa o pm cd doc a vs ns G Y_ ho (fd_plain hd) hcd hmg hobj hints hlen hg) λr s' hq=>?_)
 obtain⟨rfl,h2,h3,h4⟩:=hq;exact⟨.inl ⟨.bool Aa,.bool Aa,[],rfl,λ_=>rfl,.bool Aa,gL l _,λ_=>⟨List.Pairwise.nil,λ_ hm=>(nomatch hm)⟩⟩,h2,h3,h4⟩
section
variable{prog:AQ}{w:AT}{A:AV}{E:Vq}{s:Ap}{K:Frag}
end
end Att
namespace L2
open PySem PySem.Spec PyProof.Rows
variable{k:Ae}{x:Ak}
theorem Tj:∀{vs:Ac Ai}{ns:Ac Ag},Fc vs ns->Bb (ns.map V.int) vs
 |_,_,.nil=>.nil
 |_,_,.cons n t h=>.cons ⟨t,rfl⟩ (Tj h)
def Sh(H:Hp):Prop:=∀ b,H b=Ad\/∃ o xs,H b=Ab (.frz o (.lst xs))
theorem jG{P:AQ}{w:AT}{K:Fg}{mg mb:Ak->Ao Ai}{CX:CXT}{fa a:Al}{fd:Co}{sp:Sp}{s₁:Ap}{vs:Ac Ai}{ns:Ac Ag}(KX:K.In s₁.heap)(hns:s₁.heap.Ns Bc mg)(hb:s₁.heap.Ns JP mb)(hbb:∀ x:Ak,x≠"__name__"->mb x=Dc x)(hlim:s₁.heap.NoLimit)(hg:s₁.gens=#[])(ha:s₁.heap.get? a=Ab { cls:=.type "list",data:=.seq vs.toArray })(hi:Fc vs ns)(hl:ns.length<=sizeLine)(hr:Room k Io)(F:∀ base:AK,K.In base->base.Ns Bc mg->FnOk P w K mg base CX k fa fd [x] sp)(hbind:∀(s:Ap)(u:Ai),Hq s fd ⟨[u],[]⟩ [(x,u)])(hsp:∀ H:Hp,Sh H->SqL K H a (ns.map V.int)->sp [.ref a] H (λv _=>v=.bl Aa) λ_ _ _=>Ba)(hCX:∀ H e s',CX [] H s₁ (λ_ _ _=>Ba) e s'->Ba):FC (model P w) Io (.call (.ref fa) ⟨[.ref a],[]⟩) (λr s'=>r=.ok (.ret (.bool Aa))/\OldK s₁.heap s'.heap/\s'.os=s₁.os/\Ge s'.gens) s₁:=by
 have rv:=Tj hi;have lenV:=hi.length
 -- from an abstract heap in which nothing but the script may be tracked
 have core:∀ H:Hp,Sh H->SqL K H a (ns.map V.int)->HOk P w H s₁.heap->(∀ b,H b≠Ad->b=a)->(H a≠Ad->K.lookup a=Ad) ->
   FC (model P w) Io (.call (.ref fa) ⟨[.ref a],[]⟩) (λr s'=>r=.ok (.ret (.bool Aa))/\OldK s₁.heap s'.heap/\s'.os=s₁.os/\Ge s'.gens) s₁:=by
  intro H hO hS hok hA hK;have base_of:∀{b:Al}{o:Dx},s₁.heap.get? b=Ab o->H b=Ad->(J9 s₁.heap H).get? b=Ab o:=λe n=>iQ e n
  have noA:∀{b:Al}{o:Dx}{es:Au DictEntry}{ep:Ae},s₁.heap.get? b=Ab o->o.data=.dict es ep->H b=Ad:=λ{b o es ep} e d=>by
   cases q:H b with
   |none=>rfl
   |some u=>
    have e':b=a:=hA b (by rw[q];simp)
    subst e';rw[ha]at e;cases e;have d':MJ vs.toArray _=Data.dict es ep:=d;cases d'
  have nsK:∀{b:Al}{m:Ak->Ao Ai},s₁.heap.Ns b m->(J9 s₁.heap H).Ns b m:=λ{b m} ⟨o,es,ep,e,d,r⟩=>⟨o,es,ep,base_of e (noA e d),d,r⟩
  have hKb:K.In (J9 s₁.heap H):=λb o e=>base_of (KX b o e) (by
   cases q:H b with
   |none=>rfl
   |some u=>
    have e':b=a:=hA b (by rw[q];simp)
    subst e';rw[hK (by rw[q];simp)]at e;cases e)
  have hM:Mod K mg (J9 s₁.heap H):=⟨hKb,nsK hns,⟨mb,nsK hb,hbb⟩,let ⟨mc,h1,h2⟩:=hlim;⟨mc,nsK h1,h2⟩⟩
  have e0:Env0 P w K mg (J9 s₁.heap H) Io [] s₁ H:=⟨rfl,hM,λb o e=>mQ e,Km (iC _ _),trivial,λb hb=>absurd (show b∈([]:Ac Al) from hb) (by simp),hok,.of_eq hg⟩
  refine F5 ((F _ hKb (nsK hns)).run Io [] s₁ H ⟨[.ref a],[]⟩ [.ref a] [.ref a] _ _ hr e0 (hbind s₁ (.ref a)) (.cons rfl .nil) (hsp H hO hS)) λr s' h=>?_
  cases r with
  |error e=>exact(hCX H e s' h).elim
  |ok fl=>
   cases fl with
   |next=>exact BH h
   |brk=>exact BH h
   |cont=>exact BH h
   |ret u=>
    obtain⟨v,H',os,bare,un,hok',r',q⟩:=h;have q':v=.bl Aa:=q;subst q';obtain rfl:u=LB Aa:=r';refine⟨rfl,OldK.of_keep λb o e=>?_,os,bare⟩
    cases q:H b with
    |none=>exact un.keep b o e q (by intro z;exact absurd (show b∈([]:Ac Al) from z) (by simp)) (by simp)
    |some u=>
     rcases hO b with z|⟨ob,xs,z⟩
     .rw[q]at z;cases z
     .have z2:=un.frzs b ob _ z;obtain⟨e1,_⟩:=hok b _ z;obtain⟨e2,_⟩:=hok' b _ z2;rw[e]at e1;cases e1;exact e2
 cases hk:K.lookup a with
 |some o=>
  -- the script is one of the module's own objects
  have e:=KX a o hk;rw[ha]at e;cases e;refine core (λ_=>Ad) (λ_=>.inl rfl) (.inr ⟨_,vs.toArray,_,hk,rfl,rfl,rfl,by rw[AO,lenV];exact hl,by simpa using rv⟩) (λb u z=>by have z':(Ad:Ao HO)=Ab u:=z;cases z') (λb z=>absurd rfl z) λz=>absurd rfl z
 |none=>
  refine core (λb=>if b=a then Ab (.frz { cls:=.type "list",data:=.seq vs.toArray } (.lst (ns.map V.int))) else Ad) (λb=>?_) (.inl (.inr ⟨{ cls:=.type "list",data:=.seq vs.toArray },Ar rfl⟩)) (λb u z=>?_) (λb z=>?_) λ_=>hk
  .by_cases hb:b=a
   .exact .inr ⟨_,_,Ar hb⟩
   .exact .inl (As hb)
  .by_cases hb:b=a
   .have z':=(Ar hb).symm.trans z;cases z';subst hb;exact⟨ha,by rw[AF];exact hl,vs,_,rv,ha⟩
   .have z':=(As hb).symm.trans z;cases z'
  .by_cases hb:b=a
   .exact hb
   .exact absurd (As hb) z
noncomputable abbrev KOf{K:Fg}{h:AK}(_:K.In h):Fg:=K
theorem walk_of{l:GE}{n:Ae}{q:AQ}{loose:Ac Ak}{XP:(Ak->Ao Ai)->AK->Prop}{YP:AT->AK->Prop}{d:DefRec}{K:ML->Fg}{CX:AT->CXT}{sp:AT->Sp}(hn:l.most=Ab n)(hn2:n<=sizeLine)(hdf:d.params.defaults=[])(hr:Room k Io)(hY:∀(w:AT)(h:AK),YP w h->(K w.params).In h)(F:∀(w:AT)(mg:Ak->Ao Ai)(fa:Al)(h:AK),(K w.params).In h->h.Ns Bc mg->mg d.name=Ab (.ref fa) ->
   ∃ fd:Co,(∀(s:Ap)(u:Ai),Hq s fd ⟨[u],[]⟩ [(x,u)]) /\
    ∀ base:AK,(K w.params).In base->base.Ns Bc mg->FnOk l.prog w (K w.params) mg base (CX w) k fa fd [x] (sp w))(hsp:∀(w:AT)(H:Hp)(a:Al)(ns:Ac Ag),ns.length<=n->Sh H->SqL (K w.params) H a (ns.map V.int)->sp w [.ref a] H (λv _=>v=.bl Aa) λ_ _ _=>Ba)(hCX:∀(w:AT)(H:Hp)(s:Ap)(e:Ai)(s':Ap),CX w [] H s (λ_ _ _=>Ba) e s'->Ba):aE q loose XP YP l.row.toRowW d [] (λf vs=>LD f vs):=by
 refine Att.attach_call hn hdf λw s₀ s₁ mg mb fa o pm cd doc a vs ns G Y_ ho hd hcd hmg hobj hints hlen hg=>?_
 have KX:=hY w _ Y_;obtain⟨fd,hb,hF⟩:=F w mg fa _ KX G.T.g hmg;exact jG KX G.T.g G.T.b G.T.builtins G.T.nolimit hg hobj hints (Da hlen hn2) hr hF hb (λH hO hS=>hsp w H a ns hlen hO hS) λH e s'=>hCX w H s₁ e s'
end L2
/- THE LAST THEOREM (shape;LID,My.* are yours):
   My.Adr:a structure of the addresses that your layer names (classes,functions);My.Txt K t:a structure (Prop) of the equations over K;
   My.txt_mk:{K} {implicit addresses ..} (e1:nsIn K Bc "law" = Ab (Ab (.ref f))) (e2:K.lookup f=Ab ⟨oc,od,.func (fnOf "law" "law" params body scope dV kV doc pm an cdv ct),sl⟩) (e3:codeIn K cdv "law" = Aa) ..:∃ t,My.Txt K t
set_option maxRecDepth 100000 in
set_option maxHeartbeats 0 in
theorem PySem.Challenge.cw_LID_holds:PySem.Challenge.rw_LID.Holds:=by
 w_on;o_law;k_head;(case hw=>w_witness2)
 k_fill
 refine L2.walk_of (l:=PySem.Challenge.rw_LID) (n:=63) (k:=40) (x := "script") (CX:=λw=>..) (sp:=λ_=>My.sp_law) rfl (by decide) rfl ⟨rfl,by decide,by decide⟩ (λw h Y_=>aI Y_) ?F ?S ?C
 case F=>
  intro w mg fa h KX G hmg;have T:∃ t,My.Txt (L2.KOf KX) t:=by
   dsimp only[L2.KOf]                          -- K must stand as «<heap const> w.params» for k_is
   refine' My.txt_mk ?e1 ?e2 ?e3 ..
   (case e1=>PySem.W.k_is)                    -- in the order: a name -> its address -> its object -> its parts
   (case e2=>PySem.W.k_is)
   ..
  obtain⟨t,T⟩:=T;have e0:=hmg.symm.trans (HN KX G T.law);cases e0                                       -- fa is the law's own address
  exact⟨_,fun s u=>.of_eq rfl,fun base kb nb=>My.law_fn T kb nb⟩     -- if «.of_eq rfl» comes too early: refine' ⟨_,?b,fun base kb nb=>My.law_fn T kb nb⟩;exact fun s u=>.of_eq rfl
 case S=>exact λw H a ns hl hO hS=>..
 case C=>exact ..
(the tactic k_is has no namespace:write k_is) -/
namespace L2
open PySem PySem.Spec PyProof.Rows
noncomputable def Li(s:A7):Arguments:=match s with
  |.FunctionDef _ a _ _ _ _ _ _ _ _=>a
  |_=>{posonlyargs:=[],args:=[],vararg:=Ad,kwonlyargs:=[],kw_defaults:=[],kwarg:=Ad,defaults:=[]}
noncomputable def Ji(s:A7):Ac A7:=match s with
  |.FunctionDef _ _ b _ _ _ _ _ _ _=>b
  |_=>[]
noncomputable def Hc(s:A7):Cr:=match s with
  |.FunctionDef _ _ _ _ _ _ sc _ _ _=>sc
  |_=>{kind:=.function,names:=[],isGenerator:=Af,isCoroutine:=Af}
noncomputable abbrev CX0:CXT:=λ_ _ _ _ _ _=>Ba
noncomputable abbrev E0:XK:=λ_ _ _=>Ba
structure Fun (K:Fg) (x qual:Ak) (st:A7) (f:Al) (fd:Co):Prop where
 ex:∃(oc:Ai)(od:Ao Al)(kV doc pm:Ai)(an:Ao Al)(cdv ct:Ai)(osl:Au (Ao Ai)),
  fd=Eu x qual (Li st) (Ji st) (Hc st) .none kV doc pm an cdv ct/\K.lookup f=Ab ⟨oc,od,.func fd,osl⟩/\Gh K cdv qual=Aa
 kp:CH K (.ref f)=Aa
section
variable{P:AQ}{w:AT}{K:Fg}{mg:Ak->Ao Ai}{base:AK}
theorem Fun.ok{x qual:Ak}{st:A7}{f:Al}{fd:Co}{N ps:Ac Ak}{k:Ae}{sp:Sp}(F:Fun K x qual st f fd)(S:FnScope N ps (Hc st))(len:∀ vs H Q E,sp vs H Q E->vs.length=ps.length)(hbody:∀(cdv:Ai)(A:AV)(outer:Ac CU)(s:Ap)(H:Hp)(vs:Ac V)(Q:VK)(E:XK),Room k (A.deeper (FS qual (Hc st) s.heap.objs.size f cdv))->sp vs H Q E ->
   ∃ t,PSs (Hy CX0 P w K mg base N qual (Hc st) f cdv A outer s H E).nox (Ji st) t/\t {nx:=λ_ H'=>Q .non H',rt:=Q} (start N vs) H):FnOk P w K mg base CX0 (k+1) f fd ps sp:=by
 obtain⟨oc,od,kV,doc,pm,an,cdv,ct,osl,rfl,lk,hcd⟩:=F.ex;refine WK lk hcd S len λA outer s H vs Q E hr hsp=>?_
 obtain⟨t,h,q⟩:=hbody cdv A outer s H vs Q E hr hsp;exact⟨t,h.nox,q⟩
theorem Fun.binds{x qual:Ak}{st:A7}{f:Al}{fd:Co}{ps:Ac Ak}(F:Fun K x qual st f fd)(h:∀(kV doc pm:Ai)(an:Ao Al)(cdv ct:Ai)(us:Ac Ai),us.length=ps.length->MO (Eu x qual (Li st) (Ji st) (Hc st) .none kV doc pm an cdv ct) ⟨us,[]⟩=pure (ps.zip us)):HY K fd ps []:=by
 obtain⟨oc,od,kV,doc,pm,an,cdv,ct,osl,rfl,lk,hcd⟩:=F.ex;exact .all (h kV doc pm an cdv ct)
theorem tY{x qual:Ak}{st:A7}{f:Al}{oc:Ai}{od an:Ao Al}{osl:Au (Ao Ai)}{kV doc pm cdv ct:Ai}(l:K.lookup f=Ab ⟨oc,od,.func (Eu x qual (Li st) (Ji st) (Hc st) .none kV doc pm an cdv ct),osl⟩)(c:Gh K cdv qual=Aa)(k:CH K (.ref f)=Aa):Fun K x qual st f (Eu x qual (Li st) (Ji st) (Hc st) .none kV doc pm an cdv ct):=⟨⟨oc,od,kV,doc,pm,an,cdv,ct,osl,rfl,l,c⟩,k⟩
end
section
variable{X:Cx}
end
def AN(H H':Hp):Prop:=∀ b o,H b=Ab o->H' b=Ab o
theorem AN.refl(H:Hp):AN H H:=λ_ _ h=>h
theorem AN.trans{H H1 H2:Hp}(a:AN H H1)(b:AN H1 H2):AN H H2:=λc o h=>b c o (a c o h)
theorem AN.free{H H':Hp}(e:AN H H'){l:Al}(h:H' l=Ad):H l=Ad:=by
 cases q:H l with
 |none=>rfl
 |some o=>
  rw[e l o q]at h;cases h
end L2
section
namespace Ov
open PySem
variable{α β:Type}
inductive D where
 |non|bl (b:Aj)|int (i:Ag)|str (x:Ak)|tup (ds:Ac D)|lst (ds:Ac D)
 |obj (c:Ae) (fs:Ac (Ak×D))|exc (c:Ae) (fs:Ac (Ak×D))|dic (kvs:Ac (Ac Ag×D))
 deriving Inhabited
structure Ex where
 c:Ae
 fs:Ac (Ak×D)
 deriving Inhabited
inductive R (α:Type) where
 |ok (a:α)|exn (x:Ex)|bad
 deriving Inhabited
noncomputable def R.bind{α β:Type}(r:R α)(f:α->R β):R β:=match r with
  |.ok a=>f a
  |.exn x=>.exn x
  |.bad=>.bad
@[simp]theorem R.bind_ok(a:α)(f:α->R β):(R.ok a).bind f=f a:=rfl
@[simp]theorem R.bind_exn(x:Ex)(f:α->R β):(R.exn x:R α).bind f=.exn x:=rfl
@[simp]theorem R.bind_bad(f:α->R β):(R.bad:R α).bind f=.bad:=rfl
theorem R.bind_assoc{γ:Type}(r:R α)(f:α->R β)(g:β->R γ):(r.bind f).bind g=r.bind λa=>(f a).bind g:=by cases r<;>rfl
noncomputable def BY(n:Ae):Aj:=FW n 1000000
noncomputable def FX(i j:Ag):Aj:=(decide (-(18446744073709551616:Ag)<i)&&decide (i<18446744073709551616))||(decide (-(18446744073709551616:Ag)<j)&&decide (j<18446744073709551616))
noncomputable def OY(i j:Ag):Aj:=decide (i.natAbs<2 ^ 2000)&&decide (j.natAbs<2 ^ 2000)
noncomputable def Dr:F3->D->D->R D
 |.Add,.int i,.int j=>.ok (.int (i+j))
 |.Sub,.int i,.int j=>.ok (.int (i-j))
 |.Mult,.int i,.int j=>if (FX i j||OY i j)=Aa then .ok (.int (i*j)) else .bad
 |.FloorDiv,.int i,.int j=>if 0<j/\j<1073741824 then .ok (.int (i/j)) else .bad
 |.Mod,.int i,.int j=>if 0<j then .ok (.int (i%j)) else .bad
 |.Pow,.int i,.int j=>if (0<=j/\j<=1000000)/\(-(18446744073709551616:Ag)<i/\i<18446744073709551616) then .ok (.int (i ^ j.toNat)) else .bad
 |.Add,.str x,.str y=>if BY (x.length+y.length)=Aa then .ok (.str (x++y)) else .bad
 |.Add,.lst x,.lst y=>if BY (x.length+y.length)=Aa then .ok (.lst (x++y)) else .bad
 |.Add,.tup x,.tup y=>if (!x.isEmpty&&BY (x.length+y.length))=Aa then .ok (.tup (x++y)) else .bad
 |_,_,_=>.bad
noncomputable def unD:KQ->D->R D
 |.USub,.int i=>.ok (.int (-i))
 |_,_=>.bad
noncomputable def b2i(b:Aj):Ag:=if b=Aa then 1 else 0
mutual
noncomputable def eqD:D->D->Aj
 |.non,.non=>Aa
 |.bl a,.bl b=>a==b
 |.bl a,.int j=>b2i a==j
 |.int i,.bl b=>i==b2i b
 |.int i,.int j=>i==j
 |.str x,.str y=>x==y
 |.tup xs,.tup ys=>eqDs xs ys
 |.lst xs,.lst ys=>eqDs xs ys
 |_,_=>Af
noncomputable def eqDs:Ac D->Ac D->Aj
 |[],[]=>Aa
 |x::xs,y::ys=>eqD x y&&eqDs xs ys
 |_,_=>Af
end
noncomputable def flD:Ae->D->Aj
 |_,.non=>Aa
 |_,.bl _=>Aa
 |_,.int _=>Aa
 |_,.str _=>Aa
 |n+1,.tup xs=>xs.all (flD n)
 |n+1,.lst xs=>xs.all (flD n)
 |_,_=>Af
noncomputable def KP:D->Ao (Ac Ag)
 |.tup ds=>keyDs ds
 |_=>Ad
where keyDs:Ac D->Ao (Ac Ag)
 |[]=>Ab []
 |.int i::r=>(keyDs r).map (i :: ·)
 |_=>Ad
noncomputable def ltD:Ae->D->D->Aj
 |0,.int i,.int j=>decide (i<j)
 |n+1,.tup xs,.tup ys=>ltDs (ltD n) xs ys
 |_,_,_=>Af
where ltDs (lt:D->D->Aj):Ac D->Ac D->Aj
 |[],[]=>Af
 |[],_::_=>Aa
 |_::_,[]=>Af
 |x::xs,y::ys=>if eqD x y=Aa then ltDs lt xs ys else lt x y
noncomputable def rkD:Ae->D->Aj
 |0,.int _=>Aa
 |n+1,.tup xs=>xs.all (rkD n)
 |_,_=>Af
noncomputable def MC(lt:D->D->Aj)(x:D):Ac D->Ac D
 |[]=>[x]
 |y::ys=>if lt y x=Aa then y::MC lt x ys else x::y::ys
noncomputable def KG(lt:D->D->Aj):Ac D->Ac D
 |[]=>[]
 |x::xs=>MC lt x (KG lt xs)
noncomputable def MB:Ac D->Aj
 |[]=>Aa
 |x::xs=>xs.all (λy=>!eqD x y)&&MB xs
noncomputable def Hu(xs:Ac D):R (Ac D):=if (xs.all (λd=>rkD 1 d && !eqD d (.tup []))&&MB xs&&decide (xs.length<=1000))=Aa then .ok (KG (ltD 1) xs) else .bad
noncomputable def Cf:DW->D->D->R D
  |.Eq,x,y=>if (flD 5 x&&flD 5 y)=Aa then .ok (.bl (eqD x y)) else .bad
  |.NotEq,x,y=>if (flD 5 x&&flD 5 y)=Aa then .ok (.bl (!eqD x y)) else .bad
  |.Lt,.int i,.int j=>.ok (.bl (decide (i<j)))
  |.LtE,.int i,.int j=>.ok (.bl (decide (i<=j)))
  |.Gt,.int i,.int j=>.ok (.bl (decide (j<i)))
  |.GtE,.int i,.int j=>.ok (.bl (decide (j<=i)))
  |.In,x,.lst ys=>if (flD 5 x&&ys.all (flD 5))=Aa then .ok (.bl (ys.any λy=>eqD y x)) else .bad
  |.In,x,.dic kvs=>match KP x with
    |some k=>.ok (.bl (kvs.any λp=>p.1==k))
    |none=>.bad
  |.In,x,.tup ys=>if (flD 5 x&&ys.all (flD 5))=Aa then .ok (.bl (ys.any λy=>eqD y x)) else .bad
  |.NotIn,x,.lst ys=>if (flD 5 x&&ys.all (flD 5))=Aa then .ok (.bl (!ys.any λy=>eqD y x)) else .bad
  |.NotIn,x,.tup ys=>if (flD 5 x&&ys.all (flD 5))=Aa then .ok (.bl (!ys.any λy=>eqD y x)) else .bad
  |.NotIn,.str x,.str y=>.ok (.bl (!(!(PySem.Builtin.Str.occurrences y x 0 y.length 1).isEmpty)))
  |.Is,.non,.non=>.ok (.bl Aa)
  |.Is,.bl _,.non=>.ok (.bl Af)
  |.Is,.int _,.non=>.ok (.bl Af)
  |.Is,.str _,.non=>.ok (.bl Af)
  |.Is,.tup _,.non=>.ok (.bl Af)
  |.Is,.lst _,.non=>.ok (.bl Af)
  |.Is,.obj _ _,.non=>.ok (.bl Af)
  |.Is,.bl a,.bl b=>.ok (.bl (a==b))
  |.IsNot,.bl a,.bl b=>.ok (.bl (!(a==b)))
  |.IsNot,.non,.non=>.ok (.bl Af)
  |.IsNot,.bl _,.non=>.ok (.bl Aa)
  |.IsNot,.int _,.non=>.ok (.bl Aa)
  |.IsNot,.str _,.non=>.ok (.bl Aa)
  |.IsNot,.tup _,.non=>.ok (.bl Aa)
  |.IsNot,.lst _,.non=>.ok (.bl Aa)
  |.IsNot,.obj _ _,.non=>.ok (.bl Aa)
  |_,_,_=>.bad
noncomputable def Ce:D->R Aj
 |.non=>.ok Af
 |.bl b=>.ok b
 |.int i=>.ok (i != 0)
 |.str x=>if BY x.length=Aa then .ok (x.length != 0) else .bad
 |.tup xs=>.ok (!xs.isEmpty)
 |.lst xs=>.ok (!xs.isEmpty)
 |_=>.bad
noncomputable def plD(n:Ae)(i:Ag):Ao Ae:=if 0<=i then (if i<n then Ab i.toNat else Ad) else if -(n:Ag)<=i then Ab (i+n).toNat else Ad
noncomputable def FE(xs:Ac D)(i:Ag):R D:=match plD xs.length i with
  |some k=>match xs[k]? with
    |some d=>.ok d
    |none=>.bad
  |none=>.bad
noncomputable def Rl(kvs:Ac (Ac Ag×D))(k:Ac Ag):Ao D:=(kvs.find? λp=>p.1==k).map (·.2)
noncomputable def Wd(kvs:Ac (Ac Ag×D))(k:Ac Ag)(v:D):Ac (Ac Ag×D):=if (kvs.any λp=>p.1==k)=Aa then kvs.map (λp=>if (p.1==k)=Aa then (k,v) else p) else kvs++[(k,v)]
noncomputable def Mz(x:Ak):Ac D:=x.cps.toList.map λc=>.str ⟨#[c]⟩
noncomputable def J6:D->D->R D
  |.str x,.int i=>if BY x.length=Aa then FE (Mz x) i else .bad
  |.lst xs,.int i=>FE xs i
  |.tup xs,.int i=>FE xs i
  |.dic kvs,k=>match (KP k).bind (Rl kvs) with
    |some d=>.ok d
    |none=>.bad
  |_,_=>.bad
noncomputable def D6:D->R Ag
 |.int i=>.ok i
 |_=>.bad
noncomputable def EJ:D->R Aj
 |.bl b=>.ok b
 |_=>.bad
noncomputable def EI:D->R (Ac D)
 |.lst xs=>.ok xs
 |.tup xs=>.ok xs
 |_=>.bad
noncomputable def KN:D->R (Ac D)
 |.lst xs=>.ok xs
 |_=>.bad
inductive BI where
 |len|abs|max|min|int|list|tuple|all|any|sum|sorted|str|count|stp|lset|tmin|tmax|tlt|rvs|sset|sjoin
 deriving DecidableEq,Inhabited
inductive Ki where
 |int|bool|str|list|tuple|verr|cls (c:Ae)
 deriving DecidableEq,Inhabited
mutual
inductive E where
 |non|bl (b:Aj)|int (i:Ag)|str (x:Ak)
 |var (i:Ae)|glob (g:Ae)
 |bin (op:F3) (a b:E)|un (op:KQ) (a:E)|no (a:E)
 |and (es:Es)|or (es:Es)
 |cmp (op:DW) (a b:E)|cmp2 (op op':DW) (a b c:E)
 |ite (c a b:E)
 |call (f:Ae) (as:Es)|bi (b:BI) (as:Es)
 |isi (a:E) (ks:Ac Ki)
 |idx (a i:E)|sl (a lo hi:E)
 |tup (es:Es)|lst (es:Es)
 |comp (elt:E) (t:Ae) (it:I) (c:E)|compT (elt:E) (ts:Ac Ae) (it:I) (c:E)|tupI (it:I)|dnew
 |fld (o:E) (f:Ak)
inductive Es where
 |nil|cons (e:E) (es:Es)
inductive I where
 |e (a:E)|rng (a:E)|rng2 (a b:E)|rng3 (a b c:E)|rrv (a:E)|zip (a b:E)|zip3 (a b c:E)|enm (a:E)
end
abbrev Sl:=Ao (D×Aj)
abbrev Rho:=Ac Sl
structure Gam where
 F:Ae->Ac D->R D
 G:Ae->D
 up:Ae->Ac Ae
 /-- the defs whose answer is a new list -/
 fr:Ae->Aj
 /-- what is raised: the class,what it is made of -/
 xn:Ae->Ac D->R Ex
noncomputable def Fa(lo:Ag)(n:Ae):Ac D:=(AD n).map fun(k:Ae)=>D.int (lo+(k:Ag))
noncomputable def D7(lo hi:Ag):R (Ac D):=if (-(4611686018427387904:Ag)<=lo/\lo<4611686018427387904)/\(-(4611686018427387904:Ag)<=hi/\hi<4611686018427387904)/\hi-lo<1000000 then .ok (Fa lo (hi-lo).toNat) else .bad
noncomputable def FF(lo:Ag)(n:Ae):Ac D:=(AD n).map fun(k:Ae)=>D.int (lo-(k:Ag))
noncomputable def HR(lo hi c:Ag):R (Ac D):=if c=-1/\(-(4611686018427387904:Ag)<=lo/\lo<4611686018427387904)/\(-(4611686018427387904:Ag)<=hi/\hi<4611686018427387904)/\lo-hi<1000000 then .ok (FF lo (lo-hi).toNat) else .bad
noncomputable def KI(x:Ak):Ac D:=x.cps.toList.map λc=>D.str ⟨#[c]⟩
noncomputable def asZ:D->R (Ac D)
 |.str x=>if x.cps.all (· < 128)=Aa then .ok (KI x) else .bad
 |d=>EI d
noncomputable def IP(i:Ag):R (Ac D):=if 1<=i/\i<1000000 then .ok (FF (i-1) i.toNat) else .bad
noncomputable def kiD(up:Ae->Ac Ae):Ki->D->Aj
 |.int,.int _=>Aa
 |.int,.bl _=>Aa
 |.bool,.bl _=>Aa
 |.str,.str _=>Aa
 |.list,.lst _=>Aa
 |.tuple,.tup _=>Aa
 |.cls c,.obj k _=>(up k).contains c
 |.cls c,.exc k _=>(up k).contains c
 |.verr,.exc _ _=>Aa
 |_,_=>Af
noncomputable def Fp:Ki->Aj
 |.cls _=>Aa
 |.verr=>Aa
 |_=>Af
noncomputable def Fo(up:Ae->Ac Ae)(ks:Ac Ki)(x:D):R D:=match x with
  |.obj _ _=>.bad
  |.exc _ _=>if ks.all Fp=Aa then .ok (.bl (ks.any λk=>kiD up k x)) else .bad
  |.dic _=>.bad
  |_=>if ks.any Fp=Aa then .bad else .ok (.bl (ks.any λk=>kiD up k x))
noncomputable def GX:D->R Aj
 |.non=>.ok Af
 |.bl b=>.ok b
 |.int i=>.ok (i != 0)
 |_=>.bad
noncomputable def FP:Ac D->R Aj
 |[]=>.ok Aa
 |x::r=>(GX x).bind λb=>(FP r).bind λc=>.ok (b&&c)
noncomputable def KO:Ac D->R Aj
 |[]=>.ok Af
 |x::r=>(GX x).bind λb=>(KO r).bind λc=>.ok (b||c)
noncomputable def NE:Ag->Ac D->R Ag
 |a,[]=>.ok a
 |a,.int i::r=>NE (a+i) r
 |_,_=>.bad
noncomputable def El:Ac D->Ac D->Ac D
 |x::xs,y::ys=>.tup [x,y]::El xs ys
 |_,_=>[]
noncomputable def Wu:Ac D->Ac D->Ac D->Ac D
 |x::xs,y::ys,z::zs=>.tup [x,y,z]::Wu xs ys zs
 |_,_,_=>[]
noncomputable def Wt(x y z:D):R (Ac D):=(EI x).bind λxs=>(EI y).bind λys=>(EI z).bind λzs=>if 0<xs.length/\xs.length<=1000/\ys.length=xs.length/\zs.length=xs.length then .ok (Wu xs ys zs) else .bad
noncomputable def Sj:Ag->Ac D->Ac D
 |_,[]=>[]
 |i,x::xs=>.tup [.int i,x]::Sj (i+1) xs
noncomputable def nlD:Ae->D->Aj
 |_,.non=>Aa
 |_,.bl _=>Aa
 |_,.int _=>Aa
 |_,.str _=>Aa
 |n+1,.tup xs=>xs.all (nlD n)
 |_,_=>Af
noncomputable def Fq(fr:Aj):D->Aj
 |.lst ds=>fr&&ds.all (nlD 5)
 |d=>nlD 5 d
noncomputable def Ga:Ac D->Ao (Ac Ag)
 |[]=>Ab []
 |.int i::r=>(Ga r).map (i :: ·)
 |_=>Ad
noncomputable def Js(i:Ag):Ac Ag->Ag
 |[]=>i
 |j::r=>Js (if j<i then j else i) r
noncomputable def pk2(k n:Ae):Ac Ae:=(AD ((n-min k n+1)/2)).map λj=>min k n+2*j
noncomputable def Xf(k:Ae)(xs:Ac D):Ac D:=(pk2 k xs.length).filterMap λi=>xs[i]?
noncomputable def ddS(acc:Ac Ag)(x:Ag):Ac Ag:=if acc.any (· == x)=Aa then acc else acc++[x]
noncomputable def ddN(is:Ac Ag):Ae:=(is.foldl ddS []).length
noncomputable def WL(xs:Ac D):R D:=match Ga xs with
  |some is=>if FW is.length 4000=Aa then .ok (.int (ddN is)) else .bad
  |none=>.bad
noncomputable def mmD(mx:Aj)(x y:D):R D:=if [x,y].all (λd=>rkD 1 d && !eqD d (.tup []))=Aa then .ok (if (if mx=Aa then ltD 1 x y else ltD 1 y x)=Aa then y else x) else .bad
noncomputable def WZ(x y:D):R D:=if [x,y].all (λd=>rkD 1 d && !eqD d (.tup []))=Aa then .ok (.bl (ltD 1 x y)) else .bad
noncomputable def Dg(k:Ac Ag):Ag:=reduceHash (Builtin.Tuple.tupleHashOf (k.map hashInt))
noncomputable def HV:Ac D->Ao (Ac (Ac Ag))
 |[]=>Ab []
 |.tup xs::r=>(Ga xs).bind λk=>(HV r).map (k :: ·)
 |_=>Ad
noncomputable def NF:Ac Ag->Aj
 |[]=>Aa
 |h::r=>!r.contains h&&NF r
noncomputable def ak(xs:Ac D):R D:=match HV xs with
  |some ks=>if (FW ks.length 3&&NF (ks.map Dg))=Aa then .ok (.int ks.length) else .bad
  |none=>.bad
noncomputable def ddK(ks:Ac (Ac Ag)):Ac (Ac Ag):=ks.foldl (λacc k=>if (acc.any λq=>q==k)=Aa then acc else acc++[k]) []
noncomputable def NH(ks:Ac (Ac Ag)):Aj:=ks.all λr=>ks.all λq=>!decide (Dg r=Dg q)||decide (r=q)
noncomputable def Mp(xs:Ac D):R D:=match HV xs with
  |some ks=>if (ks.all (λk=>!k.isEmpty)&&FW ks.length 200&&NH ks)=Aa then .ok (.lst (KG (ltD 1) ((ddK ks).map λk=>D.tup (k.map D.int)))) else .bad
  |none=>.bad
noncomputable def KD:Ac D->Ao (Ac Ak)
 |[]=>Ab []
 |.str x::r=>(KD r).map (x :: ·)
 |_=>Ad
noncomputable def Nm(s:Ak)(xs:Ac D):R D:=match KD xs with
  |some ss=>if Kq s ss=Aa then .ok (.str (MM s ss)) else .bad
  |none=>.bad
noncomputable def W4(x:Ak)(l h:Ao Ag):Ak:=if ((YW l h 1 x.length).length==x.length)=Aa then x else ⟨((YW l h 1 x.length).filterMap (x.cps[·]?)).toArray⟩
noncomputable def biD:BI->Ac D->R D
  |.len,[.lst xs]=>.ok (.int xs.length)
  |.len,[.tup xs]=>.ok (.int xs.length)
  |.len,[.str x]=>if BY x.length=Aa then .ok (.int x.length) else .bad
  |.abs,[.int i]=>.ok (.int (if i<0 then -i else i))
  |.max,[.int i,.int j]=>.ok (.int (if i<j then j else i))
  |.min,[.int i,.int j]=>.ok (.int (if j<i then j else i))
  |.min,[.lst xs]=>match Ga xs with
    |some (i::is)=>.ok (.int (Js i is))
    |_=>.bad
  |.int,[.int i]=>.ok (.int i)
  |.int,[.bl b]=>.ok (.int (b2i b))
  |.list,[.lst xs]=>.ok (.lst xs)
  |.list,[.tup xs]=>.ok (.lst xs)
  |.tuple,[.lst xs]=>.ok (.tup xs)
  |.tuple,[.tup xs]=>.ok (.tup xs)
  |.all,[.lst xs]=>(FP xs).bind λb=>.ok (.bl b)
  |.any,[.lst xs]=>(KO xs).bind λb=>.ok (.bl b)
  |.any,[.tup xs]=>(KO xs).bind λb=>.ok (.bl b)
  |.sum,[.lst xs]=>(NE 0 xs).bind λi=>.ok (.int i)
  |.sum,[.tup xs]=>(NE 0 xs).bind λi=>.ok (.int i)
  |.sorted,[.lst xs]=>(Hu xs).bind λys=>.ok (.lst ys)
  |.count,[.lst xs,x]=>if (flD 5 x&&xs.all (flD 5))=Aa then .ok (.int ((xs.filter λy=>eqD y x).length:Ae)) else .bad
  |.len,[.dic kvs]=>.ok (.int kvs.length)
  |.stp,[.lst xs,.int k]=>.ok (.lst (Xf k.toNat xs))
  |.lset,[.lst xs]=>WL xs
  |.lset,[.tup xs]=>ak xs
  |.sjoin,[.str s,.lst xs]=>Nm s xs
  |.tmin,[x,y]=>mmD Af x y
  |.tmax,[x,y]=>mmD Aa x y
  |.tlt,[x,y]=>WZ x y
  |.rvs,[.lst xs]=>.ok (.lst xs.reverse)
  |.sset,[.lst xs]=>Mp xs
  |_,_=>.bad
noncomputable def slE(c:E)(d:D):R (Ao Ag):=match c with
  |.non=>.ok Ad
  |_=>(D6 d).bind λi=>.ok (Ab i)
noncomputable def Ls(n d:Ae):Ao Ag->Ae
 |none=>d
 |some i=>if i<0 then (i+n).toNat else min i.toNat n
noncomputable def O3(xs:Ac D)(lo hi:Ao Ag):Ac D:=(xs.drop (Ls xs.length 0 lo)).take (Ls xs.length xs.length hi-Ls xs.length 0 lo)
noncomputable def slD:D->Ao Ag->Ao Ag->R D
 |.lst xs,l,h=>.ok (.lst (O3 xs l h))
 |.tup xs,l,h=>if (Ls xs.length 0 l==0&&Ls xs.length xs.length h==xs.length)=Aa then .bad else .ok (.tup (O3 xs l h))
 |.str x,l,h=>if (BY x.length&&BY (W4 x l h).length)=Aa then .ok (.str (W4 x l h)) else .bad
 |_,_,_=>.bad
noncomputable def Pa:D->Ak->R D
  |.exc _ fs,f=>match fs.lookup f with
    |some d=>.ok d
    |none=>.bad
  |_,_=>.bad
noncomputable def GA(U:Rho)(i:Ae):R D:=match U[i]? with
  |some (Ab (d,Af))=>.ok d
  |_=>.bad
noncomputable def EX(U:Rho)(i:Ae):R D:=match U[i]? with
  |some (Ab (d,_))=>.ok d
  |_=>.bad
noncomputable def shE(U:Rho):E->Aj
  | .var i=>(match U[i]? with
    |some (Ab (_,Aa))=>Af
    | _=>Aa)
  |_=>Aa
noncomputable def Jr(U:Rho):Es->Aj
 |.nil=>Aa
 |.cons e es=>shE U e&&Jr U es
noncomputable def HU:Ac Ae->Ac D->Rho->Ao Rho
 |[],[],U=>Ab U
 |t::ts,d::ds,U=>HU ts ds (U.set t (Ab (d,Af)))
 |_,_,_=>Ad
noncomputable def F8(ts:Ac Ae)(d:D)(U:Rho):R Rho:=match d with
  | .tup xs=>(match HU ts xs U with
    |some U'=>.ok U'
    | none=>.bad)
  |_=>.bad
noncomputable def OZ(ts:Ac Ae)(d:D)(U:Rho):R Rho:=match d with
  | .lst xs=>(match HU ts xs U with
    |some U'=>.ok U'
    | none=>.bad)
  |d=>F8 ts d U
noncomputable def BU(g:D->R Aj)(f:D->R D):Ac D->R (Ac D)
 |[]=>.ok []
 |x::xs=>(g x).bind λb=>if b=Aa then (f x).bind λy=>(BU g f xs).bind λys=>.ok (y::ys) else BU g f xs
noncomputable def noX{α:Type}:R α->R α
 |.ok a=>.ok a
 |_=>.bad
noncomputable def top(U:Rho)(e:E)(r:R D):R D:=match e with
  |.var i=>EX U i
  |_=>r
mutual
noncomputable def evE(Y:Gam)(U:Rho):E->R D
 |.non=>.ok .non
 |.bl b=>.ok (.bl b)
 |.int i=>.ok (.int i)
 |.str x=>.ok (.str x)
 |.var i=>GA U i
 |.glob g=>.ok (Y.G g)
 |.bin op a b=>(top U a (evE Y U a)).bind λx=>(top U b (evE Y U b)).bind λy=>Dr op x y
 |.un op a=>(top U a (evE Y U a)).bind λx=>unD op x
 |.no a=>(top U a (evE Y U a)).bind λx=>(EJ x).bind λb=>.ok (.bl (!b))
 |.and es=>evN Y U es
 |.or es=>evO Y U es
 |.cmp op a b=>(top U a (evE Y U a)).bind λx=>(top U b (evE Y U b)).bind λy=>Cf op x y
 |.cmp2 op op' a b c=>(top U a (evE Y U a)).bind λx=>(top U b (evE Y U b)).bind λy=>(Cf op x y).bind λz=>(EJ z).bind λk=>if k=Aa then (top U c (evE Y U c)).bind λu=>Cf op' y u else .ok (.bl Af)
 |.ite c a b=>(top U c (evE Y U c)).bind λx=>(Ce x).bind λk=>if k=Aa then evE Y U a else evE Y U b
 |.call f as=>(evB Y U as).bind λxs=>(Y.F f xs).bind λd=>if Jr U as=Aa then .ok d else if Fq (Y.fr f) d=Aa then .ok d else .bad
 |.bi b as=>(evB Y U as).bind λxs=>biD b xs
 |.isi a ks=>(top U a (evE Y U a)).bind λx=>Fo Y.up ks x
 |.idx a i=>(top U a (evE Y U a)).bind λx=>(top U i (evE Y U i)).bind λy=>J6 x y
 |.sl a lo hi=>(top U a (evE Y U a)).bind λx=>(top U lo (evE Y U lo)).bind λl=>(slE lo l).bind λl'=>(top U hi (evE Y U hi)).bind λh=>(slE hi h).bind λh'=>slD x l' h'
 |.tup es=>(evA Y U es).bind λxs=>.ok (.tup xs)
 |.lst es=>(evA Y U es).bind λxs=>.ok (.lst xs)
 |.comp elt t it c=>(evI Y U it).bind λxs=>(noX (BU (λx=>(top (U.set t (Ab (x,Af))) c (evE Y (U.set t (Ab (x,Af))) c)).bind Ce) (λx=>evE Y (U.set t (Ab (x,Af))) elt) xs)).bind λys=>.ok (.lst ys)
 |.compT elt ts it c=>(evI Y U it).bind λxs=>(noX (BU (λx=>(F8 ts x U).bind λU'=>(top U' c (evE Y U' c)).bind Ce) (λx=>(F8 ts x U).bind λU'=>evE Y U' elt) xs)).bind λys=>.ok (.lst ys)
 |.tupI it=>(evI Y U it).bind λxs=>.ok (.tup xs)
 |.dnew=>.ok (.dic [])
 |.fld o f=>(top U o (evE Y U o)).bind λx=>Pa x f
noncomputable def evN(Y:Gam)(U:Rho):Es->R D
 |.nil=>.bad
 |.cons e .nil=>evE Y U e
 |.cons e (.cons e' es)=>(evE Y U e).bind λx=>(EJ x).bind λc=>if c=Aa then evN Y U (.cons e' es) else .ok (.bl Af)
noncomputable def evO(Y:Gam)(U:Rho):Es->R D
 |.nil=>.bad
 |.cons e .nil=>evE Y U e
 |.cons e (.cons e' es)=>(evE Y U e).bind λx=>(EJ x).bind λc=>if c=Aa then .ok (.bl Aa) else evO Y U (.cons e' es)
noncomputable def evA(Y:Gam)(U:Rho):Es->R (Ac D)
 |.nil=>.ok []
 |.cons e es=>(evE Y U e).bind λx=>(evA Y U es).bind λxs=>.ok (x::xs)
noncomputable def evB(Y:Gam)(U:Rho):Es->R (Ac D)
 |.nil=>.ok []
 |.cons e es=>(top U e (evE Y U e)).bind λx=>(evB Y U es).bind λxs=>.ok (x::xs)
noncomputable def evI(Y:Gam)(U:Rho):I->R (Ac D)
 |.e a=>(evE Y U a).bind EI
 |.rng a=>(top U a (evE Y U a)).bind λx=>(D6 x).bind λj=>D7 0 j
 |.rng2 a b=>(top U a (evE Y U a)).bind λx=>(top U b (evE Y U b)).bind λy=>(D6 x).bind λi=>(D6 y).bind λj=>D7 i j
 |.rrv a=>(top U a (evE Y U a)).bind λx=>(D6 x).bind λi=>IP i
 |.rng3 a b c=>(top U a (evE Y U a)).bind λx=>(top U b (evE Y U b)).bind λy=>(top U c (evE Y U c)).bind λz=>(D6 x).bind λi=>(D6 y).bind λj=>(D6 z).bind λk=>HR i j k
 |.zip a b=>(evE Y U a).bind λx=>(evE Y U b).bind λy=>(asZ x).bind λxs=>(EI y).bind λys=>.ok (El xs ys)
 |.zip3 a b c=>(evE Y U a).bind λx=>(evE Y U b).bind λy=>(evE Y U c).bind λz=>Wt x y z
 |.enm a=>(evE Y U a).bind λx=>(EI x).bind λxs=>.ok (Sj 0 xs)
end
noncomputable def DI(Y:Gam):E->Aj
 |.lst _=>Aa
 |.comp _ _ _ _=>Aa
 |.compT _ _ _ _=>Aa
 |.dnew=>Aa
 |.bin .Add _ _=>Aa
 |.bi .list _=>Aa
 |.bi .sorted _=>Aa
 |.sl _ _ _=>Aa
 |.call f _=>Y.fr f
 |_=>Af
mutual
inductive S where
 |pass
 /-- x=e;fresh: x alone holds the new list -/
 |asg (i:Ae) (fresh:Aj) (e:E)
 /-- a,b,..=e -/
 |asgT (ts:Ac Ae) (e:E)
 |expr (e:E)
 |ret (e:E)|retN
 |ife (c:E) (a b:Ss)
 |fors (t:Ae) (it:I) (body:Ss)
 |forT (ts:Ac Ae) (it:I) (body:Ss)
 |whl (c:E) (body:Ss)
 /-- raise C(e,..) -/
 |rais (c:Ae) (as:Es)
 /-- try: body except C as x: h -/
 |tryx (body:Ss) (c:Ae) (x:Ae) (h:Ss)
 /-- .. except C as x: h,except C' as x: h',else: els -/
 |try2 (body:Ss) (c:Ae) (x:Ae) (h:Ss) (c':Ae) (h' els:Ss)
 /-- x.append(e),x.extend(e),x.insert(k,e),x.reverse(),x.clear() -/
 |app (i:Ae) (e:E)|ext (i:Ae) (e:E)|ins (i:Ae) (k e:E)|rev (i:Ae)|clr (i:Ae)
 /-- d[k]=e,d.setdefault(k,e) -/
 |dput (i:Ae) (k e:E)|dsd (i:Ae) (k e:E)
 /-- x[k]=e -/
 |put (i:Ae) (k e:E)
 /-- x[k],x[l]=x[l],x[k] -/
 |swp (i k l:Ae)
 /-- x.append(y.pop(e)) -/
 |apop (j i:Ae) (e:E)
 |brk|cont
 /-- if c: a else: b,the test with every name let go -/
 |lnd (c:E) (a b:Ss)
 /-- nothing: from here on x is no longer changed -/
 |rel (i:Ae)
inductive Ss where
 |nil|cons (s:S) (ss:Ss)
end
inductive O where
 |next (U:Rho)|ret (d:D) (fr:Aj)|brk (U:Rho)|cont (U:Rho)|exn (x:Ex) (U:Rho)|bad
 deriving Inhabited
noncomputable def O.of{α:Type}(U:Rho)(r:R α)(f:α->O):O:=match r with
  |.ok a=>f a
  |.exn x=>.exn x U
  |.bad=>.bad
@[simp]theorem O.of_ok(U:Rho)(a:α)(f:α->O):O.of U (.ok a) f=f a:=rfl
@[simp]theorem O.of_exn(U:Rho)(x:Ex)(f:α->O):O.of U (.exn x:R α) f=.exn x U:=rfl
@[simp]theorem O.of_bad(U:Rho)(f:α->O):O.of U (.bad:R α) f=.bad:=rfl
noncomputable def H9(Y:Gam)(U:Rho)(i:I):R (Ac D):=evI Y U i
noncomputable def De(U:Rho)(i:Ae):R (Ac D):=match U[i]? with
  |some (Ab (.lst xs,Aa))=>.ok xs
  |_=>.bad
noncomputable def Xn(U:Rho)(i:Ae):R (Ac (Ac Ag×D)):=match U[i]? with
  |some (Ab (.dic xs,Aa))=>.ok xs
  |_=>.bad
noncomputable def WY(d:D):R (Ac Ag):=match KP d with
  |some k=>.ok k
  |none=>.bad
noncomputable def WG:Ae:=4096
noncomputable def O.seq(o:O)(f:Rho->O):O:=match o with
  |.next U=>f U
  |.ret d b=>.ret d b
  |.brk U=>.brk U
  |.cont U=>.cont U
  |.exn x U=>.exn x U
  |.bad=>.bad
noncomputable def O.turn(o:O)(f:Rho->O):O:=match o with
  |.next U=>f U
  |.cont U=>f U
  |.brk U=>.next U
  |.ret d b=>.ret d b
  |.exn x U=>.exn x U
  |.bad=>.bad
noncomputable def Dh(body:D->Rho->O):Ac D->Rho->O
 |[],U=>.next U
 |x::xs,U=>(body x U).turn (Dh body xs)
noncomputable def R8(c:Rho->R Aj)(body:Rho->O):Ae->Rho->O
 |0,_=>.bad
 |n+1,U=>O.of U (c U) λb=>if b=Aa then (body U).turn (R8 c body n) else .next U
noncomputable def WO(U:Rho)(k:Ae):R Ag:=(GA U k).bind D6
noncomputable def cZ(U:Rho)(d:D)(i k l:Ae):O:=match d with
  |.tup [x,y]=>O.of U (De U i) λxs=>O.of U (WO U k) λa=>O.of U (WO U l) λb=>match plD xs.length a,plD xs.length b with
    |some m,Ab n=>.next (U.set i (Ab (.lst ((xs.set m x).set n y),Aa)))
    |_,_=>.bad
  |_=>.bad
noncomputable def apD(U:Rho)(j i:Ae)(ys xs:Ac D)(n:Ag):O:=match plD xs.length n with
  | some m=>(match xs[m]? with
    |some d=>if (j != i&&(BY xs.length&&BY (ys.length+1)))=Aa then .next ((U.set i (Ab (.lst (xs.eraseIdx m),Aa))).set j (Ab (.lst (ys++[d]),Aa))) else .bad
    | none=>.bad)
  |none=>.bad
noncomputable def shS:Sl->Sl
  | some (d,Aa)=>(match d with
    |.lst ds=>Ab (.lst ds,Af)
    | _=>Ad)
  |s=>s
noncomputable def shA(U:Rho):Rho:=U.map shS
noncomputable def hdO(i:Ae)(y:Ex)(U':Rho)(fh:Rho->O):O:=match fh (U'.set i (Ab (.exc y.c y.fs,Af))) with
  |.next U''=>.next (U''.set i Ad)
  |.ret d f=>.ret d f
  |_=>.bad
mutual
noncomputable def evS(Y:Gam)(U:Rho):S->O
  |.pass=>.next U
  | .asg i fresh e=>O.of U (evE Y U e) λd=>if fresh=Aa then (if DI Y e=Aa then (match d with
      |.lst xs=>.next (U.set i (Ab (.lst xs,Aa)))
      |.dic xs=>.next (U.set i (Ab (.dic xs,Aa)))
      | _=>.bad) else .bad) else .next (U.set i (Ab (d,Af)))
  |.asgT ts e=>O.of U (evE Y U e) λd=>O.of U (OZ ts d U) λU'=>.next U'
  |.expr e=>O.of U (evE Y U e) λ_=>.next U
  |.ret e=>O.of U (top U e (evE Y U e)) λd=>.ret d (DI Y e||(match e with | .var i=>(match U[i]? with|some (Ab (_,o))=>o|_=>Af)|_=>Af))
  |.retN=>.ret .non Af
  |.ife c a b=>O.of U ((top U c (evE Y U c)).bind Ce) λk=>if k=Aa then evSs Y U a else evSs Y U b
  |.lnd c a b=>O.of U ((top (shA U) c (evE Y (shA U) c)).bind Ce) λk=>if k=Aa then evSs Y U a else evSs Y U b
  |.fors t it body=>O.of U (H9 Y U it) λxs=>Dh (λx U'=>evSs Y (U'.set t (Ab (x,Af))) body) xs U
  |.forT ts it body=>O.of U (H9 Y U it) λxs=>Dh (λx U'=>O.of U' (F8 ts x U') λU''=>evSs Y U'' body) xs U
  |.whl c body=>R8 (λU'=>(top U' c (evE Y U' c)).bind Ce) (λU'=>evSs Y U' body) WG U
  |.rais c as=>O.of U (noX (evA Y U as)) λxs=>O.of U (Y.xn c xs) λx=>.exn x U
  |.tryx body c x h=>match evSs Y U body with
      | .exn y U'=>if (Y.up y.c).contains c=Aa then (match evSs Y (U'.set x (Ab (.exc y.c y.fs,Af))) h with
          |.next U''=>.next (U''.set x Ad)
          |.ret d f=>.ret d f
          | _=>.bad) else .bad
      |o=>o
  |.try2 body c x h c' h' els=>match evSs Y U body with
      |.exn y U'=>if (Y.up y.c).contains c=Aa then hdO x y U' (λr=>evSs Y r h) else if (Y.up y.c).contains c'=Aa then hdO x y U' (λr=>evSs Y r h') else .bad
      |.next U'=>evSs Y U' els
      |o=>o
  |.app i e=>O.of U (De U i) λxs=>O.of U (evE Y U e) λd=>if BY (xs.length+1)=Aa then .next (U.set i (Ab (.lst (xs++[d]),Aa))) else .bad
  |.ext i e=>if DI Y e=Aa then (O.of U (De U i) λxs=>O.of U (evE Y U e) λd=>O.of U (KN d) λys=>if BY (xs.length+ys.length)=Aa then .next (U.set i (Ab (.lst (xs++ys),Aa))) else .bad) else .bad
  |.ins i k e=>O.of U (De U i) λxs=>O.of U ((top U k (evE Y U k)).bind D6) λj=>O.of U (evE Y U e) λd=>if (BY (xs.length+1)&&decide (0<=j)&&decide (j<=xs.length))=Aa then .next (U.set i (Ab (.lst (xs.take j.toNat++d::xs.drop j.toNat),Aa))) else .bad
  |.rev i=>O.of U (De U i) λxs=>.next (U.set i (Ab (.lst xs.reverse,Aa)))
  |.clr i=>O.of U (De U i) λ_=>.next (U.set i (Ab (.lst [],Aa)))
  |.dput i k e=>O.of U (evE Y U e) λd=>O.of U (Xn U i) λxs=>O.of U ((evE Y U k).bind WY) λj=>if BY (xs.length+1)=Aa then .next (U.set i (Ab (.dic (Wd xs j d),Aa))) else .bad
  |.dsd i k e=>O.of U (Xn U i) λxs=>O.of U ((evE Y U k).bind WY) λj=>O.of U (evE Y U e) λd=>if BY (xs.length+1)=Aa then .next (U.set i (Ab (.dic (if (xs.any λp=>p.1==j)=Aa then xs else Wd xs j d),Aa))) else .bad
  |.put i k e=>O.of U (evE Y U e) λd=>O.of U (De U i) λxs=>O.of U ((top U k (evE Y U k)).bind D6) λj=>match plD xs.length j with
      |some n=>.next (U.set i (Ab (.lst (xs.set n d),Aa)))
      |none=>.bad
  |.swp i k l=>O.of U (evE Y U (.tup (.cons (.idx (.var i) (.var l)) (.cons (.idx (.var i) (.var k)) .nil)))) λd=>cZ U d i k l
  |.apop j i e=>O.of U (De U j) λys=>O.of U (De U i) λxs=>O.of U (evE Y U e) λd=>O.of U (D6 d) λn=>apD U j i ys xs n
  |.brk=>.brk U
  |.cont=>.cont U
  |.rel i=>match U[i]? with
      |some (Ab (d,Aa))=>.next (U.set i (Ab (d,Af)))
      |_=>.next U
noncomputable def evSs(Y:Gam)(U:Rho):Ss->O
 |.nil=>.next U
 |.cons s ss=>(evS Y U s).seq λU'=>evSs Y U' ss
end
structure Df where
 n:Ae
 fr:Aj
 body:Ss
noncomputable def DB(n:Ae)(ds:Ac D):Rho:=ds.map (λd=>Ab (d,Af))++Ho (n-ds.length) Ad
noncomputable def isL:D->Aj
 |.lst _=>Aa
 |.dic _=>Aa
 |_=>Af
noncomputable def O.ans(fr:Aj)(o:O):R D:=match o with
  |.ret d b=>if (fr&&(!b&&isL d))=Aa then .bad else .ok d
  |.next _=>if fr=Aa then .bad else .ok .non
  |.exn x _=>.exn x
  |_=>.bad
noncomputable def Df.run(Y:Gam)(f:Df)(ds:Ac D):R D:=(evSs Y (DB f.n ds) f.body).ans f.fr
structure Prg where
 xs:Aj
 defs:Ae->Df
 G:Ae->D
 up:Ae->Ac Ae
 xn:Ae->Ac D->R Ex
noncomputable def Ia(xs:Aj)(r:R D):R D:=match xs with
  |true=>r
  |false=>noX r
noncomputable def gam(P:Prg):Ae->Gam
 |0=>⟨λ_ _=>.bad,P.G,P.up,λi=>(P.defs i).fr,P.xn⟩
 |n+1=>⟨λi ds=>Ia P.xs ((P.defs i).run (gam P n) ds),P.G,P.up,λi=>(P.defs i).fr,P.xn⟩
end Ov
end
section
namespace Ov
open PySem
variable{α:Type}{lo hi:Ag}
section
variable(Y:Gam)(U:Rho)
@[simp]theorem Zyj:evE Y U .non=.ok .non:=rfl
@[simp]theorem Zz4(b):evE Y U (.bl b)=.ok (.bl b):=rfl
@[simp]theorem Zyn(b):evE Y U (.int b)=.ok (.int b):=rfl
@[simp]theorem pP(b):evE Y U (.str b)=.ok (.str b):=rfl
@[simp]theorem Zyi(i):evE Y U (.var i)=GA U i:=rfl
@[simp]theorem ZuW(i):evE Y U (.glob i)=.ok (Y.G i):=rfl
@[simp]theorem pR(op a b):evE Y U (.bin op a b)=(top U a (evE Y U a)).bind λx=>(top U b (evE Y U b)).bind λy=>Dr op x y:=rfl
@[simp]theorem Zz0(op a):evE Y U (.un op a)=(top U a (evE Y U a)).bind λx=>unD op x:=rfl
@[simp]theorem Zz3(a):evE Y U (.no a)=(top U a (evE Y U a)).bind λx=>(EJ x).bind λb=>.ok (.bl (!b)):=rfl
@[simp]theorem Zyq(es):evE Y U (.and es)=evN Y U es:=rfl
@[simp]theorem Zz2(es):evE Y U (.or es)=evO Y U es:=rfl
@[simp]theorem Zyd(e):evN Y U (.cons e .nil)=evE Y U e:=rfl
@[simp]theorem ZuN(e e' es):evN Y U (.cons e (.cons e' es))=(evE Y U e).bind λx=>(EJ x).bind λc=>if c=Aa then evN Y U (.cons e' es) else .ok (.bl Af):=rfl
@[simp]theorem Zyc(e):evO Y U (.cons e .nil)=evE Y U e:=rfl
@[simp]theorem ZuM(e e' es):evO Y U (.cons e (.cons e' es))=(evE Y U e).bind λx=>(EJ x).bind λc=>if c=Aa then .ok (.bl Aa) else evO Y U (.cons e' es):=rfl
@[simp]theorem pQ(op a b):evE Y U (.cmp op a b)=(top U a (evE Y U a)).bind λx=>(top U b (evE Y U b)).bind λy=>Cf op x y:=rfl
@[simp]theorem ZuZ(op op' a b c):evE Y U (.cmp2 op op' a b c)=(top U a (evE Y U a)).bind λx=>(top U b (evE Y U b)).bind λy=>(Cf op x y).bind λz=>(EJ z).bind λk=>if k=Aa then (top U c (evE Y U c)).bind λu=>Cf op' y u else .ok (.bl Af):=rfl
@[simp]theorem Zyl(c a b):evE Y U (.ite c a b)=(top U c (evE Y U c)).bind λx=>(Ce x).bind λk=>if k=Aa then evE Y U a else evE Y U b:=rfl
@[simp]theorem Zu0(f as):evE Y U (.call f as)=(evB Y U as).bind λxs=>(Y.F f xs).bind λd=>if Jr U as=Aa then .ok d else if Fq (Y.fr f) d=Aa then .ok d else .bad:=rfl
@[simp]theorem Rj(f as):evE Y U (.bi f as)=(evB Y U as).bind λxs=>biD f xs:=rfl
@[simp]theorem Zym(a ks):evE Y U (.isi a ks)=(top U a (evE Y U a)).bind λx=>Fo Y.up ks x:=rfl
@[simp]theorem Zyo(a i):evE Y U (.idx a i)=(top U a (evE Y U a)).bind λx=>(top U i (evE Y U i)).bind λy=>J6 x y:=rfl
@[simp]theorem Zz1(a lo hi):evE Y U (.sl a lo hi)=(top U a (evE Y U a)).bind λx=>(top U lo (evE Y U lo)).bind λl=>(slE lo l).bind λl'=>(top U hi (evE Y U hi)).bind λh=>(slE hi h).bind λh'=>slD x l' h':=rfl
@[simp]theorem pO(es):evE Y U (.tup es)=(evA Y U es).bind λxs=>.ok (.tup xs):=rfl
@[simp]theorem Zyk(es):evE Y U (.lst es)=(evA Y U es).bind λxs=>.ok (.lst xs):=rfl
noncomputable def cG(Y:Gam)(U:Rho)(t:Ae)(c:E):D->R Aj:=λx=>(top (U.set t (Ab (x,Af))) c (evE Y (U.set t (Ab (x,Af))) c)).bind Ce
noncomputable def cF(Y:Gam)(U:Rho)(t:Ae)(elt:E):D->R D:=λx=>evE Y (U.set t (Ab (x,Af))) elt
noncomputable def mkL(r:R (Ac D)):R D:=(noX r).bind λys=>.ok (.lst ys)
@[simp]theorem ZzC(ys):mkL (.ok ys)=.ok (.lst ys):=rfl
@[simp]theorem ZuY(elt t it c):evE Y U (.comp elt t it c)=(evI Y U it).bind λxs=>mkL (BU (cG Y U t c) (cF Y U t elt) xs):=rfl
noncomputable def cGT(Y:Gam)(U:Rho)(ts:Ac Ae)(c:E):D->R Aj:=λx=>(F8 ts x U).bind λU'=>(top U' c (evE Y U' c)).bind Ce
noncomputable def cFT(Y:Gam)(U:Rho)(ts:Ac Ae)(elt:E):D->R D:=λx=>(F8 ts x U).bind λU'=>evE Y U' elt
@[simp]theorem Zth(elt ts it c):evE Y U (.compT elt ts it c)=(evI Y U it).bind λxs=>mkL (BU (cGT Y U ts c) (cFT Y U ts elt) xs):=rfl
@[simp]theorem ZuV(it):evE Y U (.tupI it)=(evI Y U it).bind λxs=>.ok (.tup xs):=rfl
@[simp]theorem ZuX:evE Y U .dnew=.ok (.dic []):=rfl
@[simp]theorem Zyp(o f):evE Y U (.fld o f)=(top U o (evE Y U o)).bind λx=>Pa x f:=rfl
@[simp]theorem Zys:evA Y U .nil=.ok []:=rfl
@[simp]theorem Us(e es):evA Y U (.cons e es)=(evE Y U e).bind λx=>(evA Y U es).bind λxs=>.ok (x::xs):=rfl
@[simp]theorem Zyr:evB Y U .nil=.ok []:=rfl
@[simp]theorem Qw(e es):evB Y U (.cons e es)=(top U e (evE Y U e)).bind λx=>(evB Y U es).bind λxs=>.ok (x::xs):=rfl
@[simp]theorem ZAY(a):evI Y U (.e a)=(evE Y U a).bind EI:=rfl
@[simp]theorem Zyg(a):evI Y U (.rng a)=(top U a (evE Y U a)).bind λx=>(D6 x).bind λj=>D7 0 j:=rfl
@[simp]theorem ZuU(a b):evI Y U (.rng2 a b)=(top U a (evE Y U a)).bind λx=>(top U b (evE Y U b)).bind λy=>(D6 x).bind λi=>(D6 y).bind λj=>D7 i j:=rfl
@[simp]theorem ZA2(xs):asZ (.lst xs)=.ok xs:=rfl
@[simp]theorem ZA1(xs):asZ (.tup xs)=.ok xs:=rfl
@[simp]theorem Zyf(a):evI Y U (.rrv a)=(top U a (evE Y U a)).bind λx=>(D6 x).bind λi=>IP i:=rfl
@[simp]theorem ZuP(a):H9 Y U (.rrv a)=evI Y U (.rrv a):=rfl
@[simp]theorem ZuT(a b c):evI Y U (.rng3 a b c)=(top U a (evE Y U a)).bind λx=>(top U b (evE Y U b)).bind λy=>(top U c (evE Y U c)).bind λz=>(D6 x).bind λi=>(D6 y).bind λj=>(D6 z).bind λk=>HR i j k:=rfl
@[simp]theorem Ztf(a b c):H9 Y U (.rng3 a b c)=evI Y U (.rng3 a b c):=rfl
@[simp]theorem Zye(a b):evI Y U (.zip a b)=(evE Y U a).bind λx=>(evE Y U b).bind λy=>(asZ x).bind λxs=>(EI y).bind λys=>.ok (El xs ys):=rfl
@[simp]theorem ZuS(a b c):evI Y U (.zip3 a b c)=(evE Y U a).bind λx=>(evE Y U b).bind λy=>(evE Y U c).bind λz=>Wt x y z:=rfl
@[simp]theorem Zyh(a):evI Y U (.enm a)=(evE Y U a).bind λx=>(EI x).bind λxs=>.ok (Sj 0 xs):=rfl
@[simp]theorem ZuO(a b):H9 Y U (.zip a b)=evI Y U (.zip a b):=rfl
@[simp]theorem Zte(a b c):H9 Y U (.zip3 a b c)=evI Y U (.zip3 a b c):=rfl
@[simp]theorem ZuR(a):H9 Y U (.enm a)=evI Y U (.enm a):=rfl
@[simp]theorem ZzZ(a):H9 Y U (.e a)=(evE Y U a).bind EI:=rfl
@[simp]theorem ZuQ(a):H9 Y U (.rng a)=evI Y U (.rng a):=rfl
@[simp]theorem Ztg(a b):H9 Y U (.rng2 a b)=evI Y U (.rng2 a b):=rfl
variable(r:R D)
@[simp]theorem Zvu(i):top U (.var i) r=EX U i:=rfl
@[simp]theorem Zvv:top U .non r=r:=rfl
@[simp]theorem Zy4(b):top U (.bl b) r=r:=rfl
@[simp]theorem Zvz(b):top U (.int b) r=r:=rfl
@[simp]theorem lG(b):top U (.str b) r=r:=rfl
@[simp]theorem Zt6(b):top U (.glob b) r=r:=rfl
@[simp]theorem lH(op a b):top U (.bin op a b) r=r:=rfl
@[simp]theorem Zy0(op a):top U (.un op a) r=r:=rfl
@[simp]theorem Zy3(a):top U (.no a) r=r:=rfl
@[simp]theorem ZvD(a):top U (.and a) r=r:=rfl
@[simp]theorem Zy2(a):top U (.or a) r=r:=rfl
@[simp]theorem ZvC(op a b):top U (.cmp op a b) r=r:=rfl
@[simp]theorem Zt9(op op' a b c):top U (.cmp2 op op' a b c) r=r:=rfl
@[simp]theorem Zvx(a b c):top U (.ite a b c) r=r:=rfl
@[simp]theorem Zua(a b):top U (.call a b) r=r:=rfl
@[simp]theorem Zy5(a b):top U (.bi a b) r=r:=rfl
@[simp]theorem Zvy(a b):top U (.isi a b) r=r:=rfl
@[simp]theorem ZvA(a b):top U (.idx a b) r=r:=rfl
@[simp]theorem Zy1(a b c):top U (.sl a b c) r=r:=rfl
@[simp]theorem lF(a):top U (.tup a) r=r:=rfl
@[simp]theorem Zvw(a):top U (.lst a) r=r:=rfl
@[simp]theorem Zt8(a b c d):top U (.comp a b c d) r=r:=rfl
@[simp]theorem ZvB(a b):top U (.fld a b) r=r:=rfl
@[simp]theorem ZqW(a b c d):top U (.compT a b c d) r=r:=rfl
@[simp]theorem Zt5(a):top U (.tupI a) r=r:=rfl
@[simp]theorem Zt7:top U .dnew r=r:=rfl
end
@[simp]theorem ZqL(x:D×Aj)(U:Rho):EX (Ab x::U) 0=.ok x.1:=rfl
@[simp]theorem ZqM(x:D)(U:Rho):GA (Ab (x,Af)::U) 0=.ok x:=rfl
@[simp]theorem Zqq(x:Sl)(U:Rho)(i:Ae)[NeZero i]:EX (x::U) i=EX U (i-1):=by
 obtain⟨j,rfl⟩:∃ j,i=j+1:=⟨i-1,by have:=MD i;omega⟩
 rfl
@[simp]theorem Zqr(x:Sl)(U:Rho)(i:Ae)[NeZero i]:GA (x::U) i=GA U (i-1):=by
 obtain⟨j,rfl⟩:∃ j,i=j+1:=⟨i-1,by have:=MD i;omega⟩
 rfl
noncomputable def shV(U:Rho)(i:Ae):Aj:=match U[i]? with
    |some (Ab (_,Aa))=>Af
    |_=>Aa
@[simp]theorem Zud(x:D)(b:Aj)(U:Rho):shV (Ab (x,b)::U) 0=!b:=by cases b<;>rfl
@[simp]theorem Zrq(U:Rho):shV (Ad::U) 0=Aa:=rfl
@[simp]theorem Zrr(x:Sl)(U:Rho)(i:Ae)[NeZero i]:shV (x::U) i=shV U (i-1):=by
 obtain⟨j,rfl⟩:∃ j,i=j+1:=⟨i-1,by have:=MD i;omega⟩
 rfl
section
variable(U:Rho)
@[simp]theorem Zv4(i):shE U (.var i)=shV U i:=rfl
@[simp]theorem Zv7:shE U .non=Aa:=rfl
@[simp]theorem Zzm(b):shE U (.bl b)=Aa:=rfl
@[simp]theorem Zwb(b):shE U (.int b)=Aa:=rfl
@[simp]theorem Zv6(b):shE U (.str b)=Aa:=rfl
@[simp]theorem Zug(b):shE U (.glob b)=Aa:=rfl
@[simp]theorem Zwf(op a b):shE U (.bin op a b)=Aa:=rfl
@[simp]theorem Zzi(op a):shE U (.un op a)=Aa:=rfl
@[simp]theorem Zzl(a):shE U (.no a)=Aa:=rfl
@[simp]theorem Zwg(a):shE U (.and a)=Aa:=rfl
@[simp]theorem Zzk(a):shE U (.or a)=Aa:=rfl
@[simp]theorem Zwe(op a b):shE U (.cmp op a b)=Aa:=rfl
@[simp]theorem Zuj(op op' a b c):shE U (.cmp2 op op' a b c)=Aa:=rfl
@[simp]theorem Zv9(a b c):shE U (.ite a b c)=Aa:=rfl
@[simp]theorem Zuk(a b):shE U (.call a b)=Aa:=rfl
@[simp]theorem Zzn(a b):shE U (.bi a b)=Aa:=rfl
@[simp]theorem Zwa(a b):shE U (.isi a b)=Aa:=rfl
@[simp]theorem Zwc(a b):shE U (.idx a b)=Aa:=rfl
@[simp]theorem Zzj(a b c):shE U (.sl a b c)=Aa:=rfl
@[simp]theorem Zv5(a):shE U (.tup a)=Aa:=rfl
@[simp]theorem Zv8(a):shE U (.lst a)=Aa:=rfl
@[simp]theorem Zui(a b c d):shE U (.comp a b c d)=Aa:=rfl
@[simp]theorem Zrs(a b c d):shE U (.compT a b c d)=Aa:=rfl
@[simp]theorem Zuf(a):shE U (.tupI a)=Aa:=rfl
@[simp]theorem Zuh:shE U .dnew=Aa:=rfl
@[simp]theorem Zwd(a b):shE U (.fld a b)=Aa:=rfl
@[simp]theorem Zue:Jr U .nil=Aa:=rfl
@[simp]theorem gE(e es):Jr U (.cons e es)=(shE U e&&Jr U es):=rfl
end
@[simp]theorem Zqs(U:Rho):HU [] [] U=Ab U:=rfl
@[simp]theorem Zn4(t ts d ds)(U:Rho):HU (t::ts) (d::ds) U=HU ts ds (U.set t (Ab (d,Af))):=rfl
@[simp]theorem ZtL(ts ds)(U:Rho):OZ ts (.lst ds) U=match HU ts ds U with
  |some U'=>.ok U'
  |none=>.bad:=rfl
@[simp]theorem ZtK(ts ds)(U:Rho):OZ ts (.tup ds) U=F8 ts (.tup ds) U:=rfl
@[simp]theorem eP(ts ds)(U:Rho):F8 ts (.tup ds) U=match HU ts ds U with
  |some U'=>.ok U'
  |none=>.bad:=rfl
@[simp]theorem Zvb{β:Type}(c:Prop)[Fi c](a b:R α)(f:α->R β):(if c then a else b).bind f=if c then a.bind f else b.bind f:=by split<;>rfl
@[simp]theorem ZzB(U:Rho)(c:Prop)[Fi c](a b:R α)(f:α->O):O.of U (if c then a else b) f=if c then O.of U a f else O.of U b f:=by split<;>rfl
@[simp]theorem Zxk{β:Type}(U:Rho)(a:R α)(g:α->R β)(f:β->O):O.of U (a.bind g) f=O.of U a λx=>O.of U (g x) f:=by cases a<;>rfl
@[simp]theorem Zwi(c:Prop)[Fi c](a b:O)(f:Rho->O):O.seq (if c then a else b) f=if c then a.seq f else b.seq f:=by split<;>rfl
@[simp]theorem ZtV(c:Prop)[Fi c](a b:O)(f:Rho->O):O.turn (if c then a else b) f=if c then a.turn f else b.turn f:=by split<;>rfl
@[simp]theorem ZyP(fr:Aj)(c:Prop)[Fi c](a b:O):O.ans fr (if c then a else b)=if c then a.ans fr else b.ans fr:=by split<;>rfl
@[simp]theorem Zul(U f):O.seq (.next U) f=f U:=rfl
@[simp]theorem Zwh(d b f):O.seq (.ret d b) f=.ret d b:=rfl
@[simp]theorem Zwk(U f):O.seq (.brk U) f=.brk U:=rfl
@[simp]theorem Zum(U f):O.seq (.cont U) f=.cont U:=rfl
@[simp]theorem Zwj(x U f):O.seq (.exn x U) f=.exn x U:=rfl
@[simp]theorem Zwl(f):O.seq .bad f=.bad:=rfl
@[simp]theorem ZqS(U f):O.turn (.next U) f=f U:=rfl
@[simp]theorem ZtU(d b f):O.turn (.ret d b) f=.ret d b:=rfl
@[simp]theorem ZtX(U f):O.turn (.brk U) f=.next U:=rfl
@[simp]theorem ZqT(U f):O.turn (.cont U) f=f U:=rfl
@[simp]theorem ZtW(x U f):O.turn (.exn x U) f=.exn x U:=rfl
@[simp]theorem ZtY(f):O.turn .bad f=.bad:=rfl
@[simp]theorem Zve(U):O.ans Af (.next U)=.ok .non:=rfl
@[simp]theorem ZyO(d b):O.ans Af (.ret d b)=.ok d:=rfl
@[simp]theorem Zvd(d b):O.ans Aa (.ret d b)=if (!b&&isL d)=Aa then .bad else .ok d:=rfl
@[simp]theorem ZxL(d):isL (.lst d)=Aa:=rfl
@[simp]theorem ZxK(d):isL (.tup d)=Af:=rfl
@[simp]theorem ZxM(d):isL (.int d)=Af:=rfl
@[simp]theorem ZyQ(fr x U):O.ans fr (.exn x U)=.exn x:=rfl
@[simp]theorem ZyR(fr):O.ans fr .bad=.bad:=rfl
@[simp]theorem ZAb(i j:Ag):Dr .Add (.int i) (.int j)=.ok (.int (i+j)):=rfl
@[simp]theorem Zzb(i j:Ag):Dr .Sub (.int i) (.int j)=.ok (.int (i-j)):=rfl
@[simp]theorem vK(i j:Ag):Dr .Mult (.int i) (.int j)=if (FX i j||OY i j)=Aa then .ok (.int (i*j)) else .bad:=rfl
@[simp]theorem pK(i j:Ag):Dr .FloorDiv (.int i) (.int j)=if 0<j/\j<1073741824 then .ok (.int (i/j)) else .bad:=rfl
@[simp]theorem vM(i j:Ag):Dr .Mod (.int i) (.int j)=if 0<j then .ok (.int (i%j)) else .bad:=rfl
@[simp]theorem rS(i j:Ag):Dr .Pow (.int i) (.int j)=if (0<=j/\j<=1000000)/\(-(18446744073709551616:Ag)<i/\i<18446744073709551616) then .ok (.int (i ^ j.toNat)) else .bad:=rfl
@[simp]theorem Rh(x y:Ak):Dr .Add (.str x) (.str y)=if BY (x.length+y.length)=Aa then .ok (.str (x++y)) else .bad:=rfl
@[simp]theorem Wl(x y:Ac D):Dr .Add (.lst x) (.lst y)=if BY (x.length+y.length)=Aa then .ok (.lst (x++y)) else .bad:=rfl
@[simp]theorem Wk(x y:Ac D):Dr .Add (.tup x) (.tup y)=if (!x.isEmpty&&BY (x.length+y.length))=Aa then .ok (.tup (x++y)) else .bad:=rfl
@[simp]theorem ZAH(i:Ag):unD .USub (.int i)=.ok (.int (-i)):=rfl
@[simp]theorem bj(x y:D):Cf .Eq x y=if (flD 5 x&&flD 5 y)=Aa then .ok (.bl (eqD x y)) else .bad:=rfl
@[simp]theorem ah(x y:D):Cf .NotEq x y=if (flD 5 x&&flD 5 y)=Aa then .ok (.bl (!eqD x y)) else .bad:=rfl
@[simp]theorem ZAI(i j:Ag):Cf .Lt (.int i) (.int j)=.ok (.bl (decide (i<j))):=rfl
@[simp]theorem ZAK(i j:Ag):Cf .LtE (.int i) (.int j)=.ok (.bl (decide (i<=j))):=rfl
@[simp]theorem ZAW(i j:Ag):Cf .Gt (.int i) (.int j)=.ok (.bl (decide (j<i))):=rfl
@[simp]theorem ZAX(i j:Ag):Cf .GtE (.int i) (.int j)=.ok (.bl (decide (j<=i))):=rfl
@[simp]theorem cC(x:D)(ys:Ac D):Cf .In x (.lst ys)=if (flD 5 x&&ys.all (flD 5))=Aa then .ok (.bl (ys.any λy=>eqD y x)) else .bad:=rfl
@[simp]theorem cB(x:D)(ys:Ac D):Cf .In x (.tup ys)=if (flD 5 x&&ys.all (flD 5))=Aa then .ok (.bl (ys.any λy=>eqD y x)) else .bad:=rfl
@[simp]theorem af(x:D)(ys:Ac D):Cf .NotIn x (.lst ys)=if (flD 5 x&&ys.all (flD 5))=Aa then .ok (.bl (!ys.any λy=>eqD y x)) else .bad:=rfl
@[simp]theorem aa(x:D)(ys:Ac D):Cf .NotIn x (.tup ys)=if (flD 5 x&&ys.all (flD 5))=Aa then .ok (.bl (!ys.any λy=>eqD y x)) else .bad:=rfl
@[simp]theorem ZzN:Cf .Is .non .non=.ok (.bl Aa):=rfl
@[simp]theorem ZzP(i):Cf .Is (.int i) .non=.ok (.bl Af):=rfl
@[simp]theorem ZzM(i):Cf .Is (.tup i) .non=.ok (.bl Af):=rfl
@[simp]theorem ZzO(i):Cf .Is (.lst i) .non=.ok (.bl Af):=rfl
@[simp]theorem ZAM(a b):Cf .Is (.bl a) (.bl b)=.ok (.bl (a==b)):=rfl
@[simp]theorem ZzK(a b):Cf .IsNot (.bl a) (.bl b)=.ok (.bl (!(a==b))):=rfl
@[simp]theorem ZxA:Cf .IsNot .non .non=.ok (.bl Af):=rfl
@[simp]theorem ZxC(i):Cf .IsNot (.int i) .non=.ok (.bl Aa):=rfl
@[simp]theorem Zxz(i):Cf .IsNot (.tup i) .non=.ok (.bl Aa):=rfl
@[simp]theorem ZxB(i):Cf .IsNot (.lst i) .non=.ok (.bl Aa):=rfl
@[simp]theorem Zyy(i j:Ag):eqD (.int i) (.int j)=(i==j):=rfl
@[simp]theorem Zz5(i j:Aj):eqD (.bl i) (.bl j)=(i==j):=rfl
@[simp]theorem Zyv(i j:Ak):eqD (.str i) (.str j)=(i==j):=rfl
@[simp]theorem Zyu(i j:Ac D):eqD (.tup i) (.tup j)=eqDs i j:=rfl
@[simp]theorem Zyx(i j:Ac D):eqD (.lst i) (.lst j)=eqDs i j:=rfl
@[simp]theorem Zyw:eqD .non .non=Aa:=rfl
@[simp]theorem ZpO(i):eqD .non (.int i)=Af:=rfl
@[simp]theorem ZpP(i):eqD (.int i) .non=Af:=rfl
@[simp]theorem Zu1:eqDs [] []=Aa:=rfl
@[simp]theorem PN(x y:D)(xs ys:Ac D):eqDs (x::xs) (y::ys)=(eqD x y&&eqDs xs ys):=rfl
@[simp]theorem Zx1(n)(i:Ag):flD n (.int i)=Aa:=by cases n<;>rfl
@[simp]theorem ZzY(n)(i:Aj):flD n (.bl i)=Aa:=by cases n<;>rfl
@[simp]theorem ZxZ(n)(i:Ak):flD n (.str i)=Aa:=by cases n<;>rfl
@[simp]theorem Zx0(n):flD n .non=Aa:=by cases n<;>rfl
@[simp]theorem Zus(i):flD 5 (.tup i)=i.all (flD 4):=rfl
@[simp]theorem Zux(i):flD 5 (.lst i)=i.all (flD 4):=rfl
@[simp]theorem Zut(i):flD 4 (.tup i)=i.all (flD 3):=rfl
@[simp]theorem Zuy(i):flD 4 (.lst i)=i.all (flD 3):=rfl
@[simp]theorem Zuu(i):flD 3 (.tup i)=i.all (flD 2):=rfl
@[simp]theorem Zuz(i):flD 3 (.lst i)=i.all (flD 2):=rfl
@[simp]theorem Zuv(i):flD 2 (.tup i)=i.all (flD 1):=rfl
@[simp]theorem ZuA(i):flD 2 (.lst i)=i.all (flD 1):=rfl
@[simp]theorem Zuw(i):flD 1 (.tup i)=i.all (flD 0):=rfl
@[simp]theorem ZuB(i):flD 1 (.lst i)=i.all (flD 0):=rfl
@[simp]theorem Zvs(b):Ce (.bl b)=.ok b:=rfl
@[simp]theorem Zt2(i):Ce (.int i)=.ok (i != 0):=rfl
@[simp]theorem Zt1(i):Ce (.lst i)=.ok (!i.isEmpty):=rfl
@[simp]theorem ZtZ(i):Ce (.tup i)=.ok (!i.isEmpty):=rfl
@[simp]theorem Zt0:Ce .non=.ok Af:=rfl
@[simp]theorem Zvt(b):GX (.bl b)=.ok b:=rfl
@[simp]theorem Zt4(i):GX (.int i)=.ok (i != 0):=rfl
@[simp]theorem Zt3:GX .non=.ok Af:=rfl
@[simp]theorem ZtR:FP []=.ok Aa:=rfl
@[simp]theorem SU(x r):FP (x::r)=(GX x).bind λb=>(FP r).bind λc=>.ok (b&&c):=rfl
@[simp]theorem ZtQ:KO []=.ok Af:=rfl
@[simp]theorem ZqD(x r):KO (x::r)=(GX x).bind λb=>(KO r).bind λc=>.ok (b||c):=rfl
@[simp]theorem ZyC(b)(d):Ia b (.ok d)=.ok d:=by cases b<;>rfl
@[simp]theorem Zu3(b):Ia b .bad=.bad:=by cases b<;>rfl
@[simp]theorem Zu2(x):Ia Aa (.exn x)=.exn x:=rfl
@[simp]theorem ZqA(r):Ia Af r=noX r:=rfl
@[simp]theorem Zxl(a:α):noX (.ok a)=.ok a:=rfl
@[simp]theorem Zxn:noX (.bad:R α)=.bad:=rfl
@[simp]theorem Zxm(x):noX (.exn x:R α)=.bad:=rfl
@[simp]theorem ZyN(b):EJ (.bl b)=.ok b:=rfl
@[simp]theorem ZtP(b):D6 (.int b)=.ok b:=rfl
@[simp]theorem T5(b):KN (.lst b)=.ok b:=rfl
@[simp]theorem ZtN(b):EI (.lst b)=.ok b:=rfl
@[simp]theorem ZtM(b):EI (.tup b)=.ok b:=rfl
@[simp]theorem zK(xs i):J6 (.lst xs) (.int i)=FE xs i:=rfl
@[simp]theorem zJ(xs i):J6 (.tup xs) (.int i)=FE xs i:=rfl
@[simp]theorem ao(xs):biD .len [.lst xs]=.ok (.int xs.length):=rfl
@[simp]theorem ZAJ(xs):biD .len [.tup xs]=.ok (.int xs.length):=rfl
@[simp]theorem ZA5(i):biD .abs [.int i]=.ok (.int (if i<0 then -i else i)):=rfl
@[simp]theorem ZzE(i j):biD .max [.int i,.int j]=.ok (.int (if i<j then j else i)):=rfl
@[simp]theorem ZzD(i j):biD .min [.int i,.int j]=.ok (.int (if j<i then j else i)):=rfl
@[simp]theorem ZAO(i):biD .int [.int i]=.ok (.int i):=rfl
@[simp]theorem ZAP(i):biD .int [.bl i]=.ok (.int (b2i i)):=rfl
@[simp]theorem ZzI(i):biD .list [.lst i]=.ok (.lst i):=rfl
@[simp]theorem ZzH(i):biD .list [.tup i]=.ok (.lst i):=rfl
@[simp]theorem Zvr(i):biD .tuple [.lst i]=.ok (.tup i):=rfl
@[simp]theorem Zvq(i):biD .tuple [.tup i]=.ok (.tup i):=rfl
@[simp]theorem bd(i):biD .all [.lst i]=(FP i).bind λb=>.ok (.bl b):=rfl
@[simp]theorem ZA4(i):biD .any [.lst i]=(KO i).bind λb=>.ok (.bl b):=rfl
@[simp]theorem ZA3(i):biD .any [.tup i]=(KO i).bind λb=>.ok (.bl b):=rfl
@[simp]theorem ZAv(i):biD .sum [.lst i]=(NE 0 i).bind λb=>.ok (.int b):=rfl
@[simp]theorem ZAu(i):biD .sum [.tup i]=(NE 0 i).bind λb=>.ok (.int b):=rfl
@[simp]theorem Zub(i):biD .sorted [.lst i]=(Hu i).bind λb=>.ok (.lst b):=rfl
@[simp]theorem ZAw(xs k):biD .stp [.lst xs,.int k]=.ok (.lst (Xf k.toNat xs)):=rfl
@[simp]theorem Zze(xs):biD .sset [.lst xs]=Mp xs:=rfl
@[simp]theorem ZAA(xs):biD .rvs [.lst xs]=.ok (.lst xs.reverse):=rfl
@[simp]theorem ZzF(xs):biD .lset [.lst xs]=WL xs:=rfl
@[simp]theorem Zy6(x y):biD .tmin [x,y]=mmD Af x y:=rfl
@[simp]theorem ZAh(x y):biD .tlt [x,y]=WZ x y:=rfl
@[simp]theorem Zy7(x y):biD .tmax [x,y]=mmD Aa x y:=rfl
@[simp]theorem ZyE(xs x):biD .count [.lst xs,x]=if (flD 5 x&&xs.all (flD 5))=Aa then .ok (.int ((xs.filter λy=>eqD y x).length:Ae)) else .bad:=rfl
@[simp]theorem ZBe(xs lo hi):slD (.tup xs) lo hi=if (Ls xs.length 0 lo==0&&Ls xs.length xs.length hi==xs.length)=Aa then .bad else .ok (.tup (O3 xs lo hi)):=rfl
@[simp]theorem ZBf(xs lo hi):slD (.lst xs) lo hi=.ok (.lst (O3 xs lo hi)):=rfl
@[simp]theorem ZvX(d):slE .non d=.ok Ad:=rfl
@[simp]theorem ZvY(k i):slE (.int k) (.int i)=.ok (Ab i):=rfl
@[simp]theorem ZvW(k i):slE (.var k) (.int i)=.ok (Ab i):=rfl
@[simp]theorem ZvZ(op a b i):slE (.bin op a b) (.int i)=.ok (Ab i):=rfl
@[simp]theorem Zzf(op a i):slE (.un op a) (.int i)=.ok (Ab i):=rfl
@[simp]theorem Zzg(b as i):slE (.bi b as) (.int i)=.ok (Ab i):=rfl
@[simp]theorem ZxF(up ks):Fo up ks .non=if ks.any Fp=Aa then .bad else .ok (.bl (ks.any λk=>kiD up k .non)):=rfl
@[simp]theorem ZzL(up ks b):Fo up ks (.bl b)=if ks.any Fp=Aa then .bad else .ok (.bl (ks.any λk=>kiD up k (.bl b))):=rfl
@[simp]theorem ZxH(up ks b):Fo up ks (.int b)=if ks.any Fp=Aa then .bad else .ok (.bl (ks.any λk=>kiD up k (.int b))):=rfl
@[simp]theorem ZxE(up ks b):Fo up ks (.str b)=if ks.any Fp=Aa then .bad else .ok (.bl (ks.any λk=>kiD up k (.str b))):=rfl
@[simp]theorem ZxD(up ks b):Fo up ks (.tup b)=if ks.any Fp=Aa then .bad else .ok (.bl (ks.any λk=>kiD up k (.tup b))):=rfl
@[simp]theorem ZxG(up ks b):Fo up ks (.lst b)=if ks.any Fp=Aa then .bad else .ok (.bl (ks.any λk=>kiD up k (.lst b))):=rfl
@[simp]theorem ZxI(up ks c f):Fo up ks (.exc c f)=if ks.all Fp=Aa then .ok (.bl (ks.any λk=>kiD up k (.exc c f))) else .bad:=rfl
@[simp]theorem Zu7(c):Fp (.cls c)=Aa:=rfl
@[simp]theorem Ztn:Fp .verr=Aa:=rfl
@[simp]theorem Zu6:Fp .int=Af:=rfl
@[simp]theorem Ztp:Fp .bool=Af:=rfl
@[simp]theorem Zu5:Fp .str=Af:=rfl
@[simp]theorem Zto:Fp .list=Af:=rfl
@[simp]theorem ZqB:Fp .tuple=Af:=rfl
@[simp]theorem Zqw(up i):kiD up .int (.int i)=Aa:=rfl
@[simp]theorem Zqv(up):kiD up .int .non=Af:=rfl
@[simp]theorem Zpl(up i):kiD up .bool (.int i)=Af:=rfl
@[simp]theorem Zqu(up i):kiD up .int (.tup i)=Af:=rfl
@[simp]theorem Zqy(up i):kiD up .bool (.bl i)=Aa:=rfl
@[simp]theorem Zpk(up):kiD up .bool .non=Af:=rfl
@[simp]theorem Zpj(up i):kiD up .list (.lst i)=Aa:=rfl
@[simp]theorem ZmX(up i):kiD up .tuple (.tup i)=Aa:=rfl
@[simp]theorem ZmY(up):kiD up .tuple .non=Af:=rfl
@[simp]theorem Zqx(up c k f):kiD up (.cls c) (.exc k f)=(up k).contains c:=rfl
@[simp]theorem Zpi(up k f):kiD up .verr (.exc k f)=Aa:=rfl
theorem Qv{xs:Ac D}{i:Ag}{d:D}(h0:0<=i)(h:xs[i.toNat]?=Ab d):FE xs i=.ok d:=by
 unfold FE plD;obtain⟨h1,_⟩:=AZ.mp h;rw[Ar h0,Ar (by omega)]
 dsimp only;rw[h]
section
variable(Y:Gam)(U:Rho)
@[simp]theorem ZuC:evSs Y U .nil=.next U:=rfl
noncomputable def GZ(Y:Gam)(ss:Ss)(o:O):O:=o.seq λU'=>evSs Y U' ss
@[simp]theorem Ztd(s ss):evSs Y U (.cons s ss)=GZ Y ss (evS Y U s):=rfl
@[simp]theorem pF(ss):GZ Y ss (.next U)=evSs Y U ss:=rfl
@[simp]theorem ZzQ(ss d b):GZ Y ss (.ret d b)=.ret d b:=rfl
@[simp]theorem ZzU(ss):GZ Y ss (.brk U)=.brk U:=rfl
@[simp]theorem ZxV(ss):GZ Y ss (.cont U)=.cont U:=rfl
@[simp]theorem ZzT(ss x):GZ Y ss (.exn x U)=.exn x U:=rfl
@[simp]theorem ZzV(ss):GZ Y ss .bad=.bad:=rfl
@[simp]theorem ZzS(ss)(c:Prop)[Fi c](a b:O):GZ Y ss (if c then a else b)=if c then GZ Y ss a else GZ Y ss b:=by split<;>rfl
@[simp]theorem ZzR(o:O):GZ Y .nil o=o:=by cases o<;>rfl
noncomputable def Ef(Y:Gam)(t:Ae)(body:Ss):D->Rho->O:=λx U'=>evSs Y (U'.set t (Ab (x,Af))) body
noncomputable def whC(Y:Gam)(c:E):Rho->R Aj:=λU'=>(top U' c (evE Y U' c)).bind Ce
noncomputable def whB(Y:Gam)(body:Ss):Rho->O:=λU'=>evSs Y U' body
noncomputable def Xc(Y:Gam)(t:Ae)(body:Ss)(U:Rho)(r:R (Ac D)):O:=O.of U r λxs=>Dh (Ef Y t body) xs U
@[simp]theorem ZxY(t body xs):Xc Y t body U (.ok xs)=Dh (Ef Y t body) xs U:=rfl
@[simp]theorem ZuG:evS Y U .pass=.next U:=rfl
@[simp]theorem Zya(i e):evS Y U (.asg i Af e)=O.of U (evE Y U e) λd=>.next (U.set i (Ab (d,Af))):=rfl
@[simp]theorem ZuJ(e):evS Y U (.expr e)=O.of U (evE Y U e) λ_=>.next U:=rfl
@[simp]theorem pN(e):evS Y U (.ret e)=O.of U (top U e (evE Y U e)) λd=>.ret d (DI Y e||(match e with | .var i=>(match U[i]? with|some (Ab (_,o))=>o|_=>Af)|_=>Af)):=rfl
@[simp]theorem ZuE:evS Y U .retN=.ret .non Af:=rfl
@[simp]theorem Zx6(c a b):evS Y U (.lnd c a b)=O.of U ((top (shA U) c (evE Y (shA U) c)).bind Ce) λk=>if k=Aa then evSs Y U a else evSs Y U b:=rfl
@[simp]theorem Zx7(c a b):evS Y U (.ife c a b)=O.of U ((top U c (evE Y U c)).bind Ce) λk=>if k=Aa then evSs Y U a else evSs Y U b:=rfl
@[simp]theorem ZuH(t it body):evS Y U (.fors t it body)=Xc Y t body U (H9 Y U it):=rfl
noncomputable def Gz(Y:Gam)(ts:Ac Ae)(body:Ss):D->Rho->O:=λx U'=>O.of U' (F8 ts x U') λU''=>evSs Y U'' body
noncomputable def WI(Y:Gam)(ts:Ac Ae)(body:Ss)(U:Rho)(r:R (Ac D)):O:=O.of U r λxs=>Dh (Gz Y ts body) xs U
@[simp]theorem Zuq(t body xs):WI Y t body U (.ok xs)=Dh (Gz Y t body) xs U:=rfl
@[simp]theorem ZuI(t it body):evS Y U (.forT t it body)=WI Y t body U (H9 Y U it):=rfl
@[simp]theorem ZuL(ts e):evS Y U (.asgT ts e)=O.of U (evE Y U e) λd=>O.of U (OZ ts d U) λU'=>.next U':=rfl
theorem Ld(i e):evS Y U (.asg i Aa e)=O.of U (evE Y U e) λd=>if DI Y e=Aa then (match d with
      |.lst xs=>.next (U.set i (Ab (.lst xs,Aa)))
      |.dic xs=>.next (U.set i (Ab (.dic xs,Aa)))
      | _=>.bad) else .bad:=rfl
noncomputable def setF(U:Rho)(i:Ae):D->O
 |.lst xs=>.next (U.set i (Ab (.lst xs,Aa)))
 |.dic xs=>.next (U.set i (Ab (.dic xs,Aa)))
 |_=>.bad
@[simp]theorem Zzo(i xs):setF U i (.lst xs)=.next (U.set i (Ab (.lst xs,Aa))):=rfl
@[simp]theorem Zzp(i xs):setF U i (.dic xs)=.next (U.set i (Ab (.dic xs,Aa))):=rfl
@[simp]theorem iH(i e):evS Y U (.asg i Aa e)=O.of U (evE Y U e) λd=>if DI Y e=Aa then setF U i d else .bad:=by
 rw[Ld]
 congr 1
@[simp]theorem Zyb(i e):evS Y U (.app i e)=O.of U (De U i) λxs=>O.of U (evE Y U e) λd=>if BY (xs.length+1)=Aa then .next (U.set i (Ab (.lst (xs++[d]),Aa))) else .bad:=rfl
@[simp]theorem QO(i e):evS Y U (.ext i e)=if DI Y e=Aa then (O.of U (De U i) λxs=>O.of U (evE Y U e) λd=>O.of U (KN d) λys=>if BY (xs.length+ys.length)=Aa then .next (U.set i (Ab (.lst (xs++ys),Aa))) else .bad) else .bad:=rfl
@[simp]theorem Zx5(i):evS Y U (.rev i)=O.of U (De U i) λxs=>.next (U.set i (Ab (.lst xs.reverse,Aa))):=rfl
@[simp]theorem Zx8(i):evS Y U (.clr i)=O.of U (De U i) λ_=>.next (U.set i (Ab (.lst [],Aa))):=rfl
@[simp]theorem kJ(body c x h):evS Y U (.tryx body c x h)=match evSs Y U body with
      | .exn y U'=>if (Y.up y.c).contains c=Aa then (match evSs Y (U'.set x (Ab (.exc y.c y.fs,Af))) h with
          |.next U''=>.next (U''.set x Ad)
          |.ret d f=>.ret d f
          | _=>.bad) else .bad
      |o=>o:=rfl
@[simp]theorem ZuD(body c x h c' h' els):evS Y U (.try2 body c x h c' h' els)=match evSs Y U body with
      |.exn y U'=>if (Y.up y.c).contains c=Aa then hdO x y U' (λr=>evSs Y r h) else if (Y.up y.c).contains c'=Aa then hdO x y U' (λr=>evSs Y r h') else .bad
      |.next U'=>evSs Y U' els
      |o=>o:=rfl
@[simp]theorem Zx4(c body):evS Y U (.whl c body)=R8 (whC Y c) (whB Y body) WG U:=rfl
@[simp]theorem ZuF(c as):evS Y U (.rais c as)=O.of U (noX (evA Y U as)) λxs=>O.of U (Y.xn c xs) λx=>.exn x U:=rfl
@[simp]theorem Zx9:evS Y U .brk=.brk U:=rfl
@[simp]theorem ZuK:evS Y U .cont=.cont U:=rfl
end
end Ov
namespace Ov
open PySem
theorem Pv{body:D->Rho->O}(P:Ae->Rho->Prop):∀(xs:Ac D)(n:Ae)(U:Rho),P n U->(∀ i x,xs[i]?=Ab x->∀ U,P (n+i) U->∃ U',body x U=.next U'/\P (n+i+1) U')->∃ U',Dh body xs U=.next U'/\P (n+xs.length) U'
 |[],n,U,h,_=>⟨U,rfl,h⟩
 |x::xs,n,U,h,k=>by
  obtain⟨U1,e1,h1⟩:=k 0 x rfl U h;obtain⟨U2,e2,h2⟩:=Pv P xs (n+1) U1 h1 λi y hy U hρ=>by
   have:=k (i+1) y (by simpa using hy) U (by rw[show n+(i+1)=n+1+i by omega];exact hρ)
   rw[show n+(i+1)=n+1+i by omega]at this
   exact this
  exact⟨U2,by show (body x U).turn _=_;rw[e1];exact e2,by rw[show n+(x::xs).length=n+1+xs.length by simp;omega];exact h2⟩
theorem gJ(h1:0<=lo)(h2:lo<1000000)(h3:0<=hi)(h4:hi<1000000):D7 lo hi=.ok (Fa lo (hi-lo).toNat):=by
 unfold D7;rw[Ar (by omega)]
theorem P3(h3:0<=hi)(h4:hi<1000000):D7 0 hi=.ok (Fa 0 hi.toNat):=by
 rw[gJ (by omega) (by omega) h3 h4,XO]
theorem PB(lo:Ag)(n:Ae):(Fa lo n).length=n:=by simp[Fa]
theorem kF{n i:Ae}{x:D}(h:(Fa lo n)[i]?=Ab x):i<n/\x=.int (lo+(i:Ag)):=by
 have hl:=(AZ.mp h).1;rw[PB]at hl;unfold Fa at h;rw[BC,Hj hl]at h;cases h;exact⟨hl,rfl⟩
noncomputable def Ss.take:Ae->Ss->Ss
 |0,_=>.nil
 |_,.nil=>.nil
 |n+1,.cons s ss=>.cons s (ss.take n)
noncomputable def Ss.drop:Ae->Ss->Ss
 |0,ss=>ss
 |_,.nil=>.nil
 |n+1,.cons _ ss=>ss.drop n
theorem Ur(Y:Gam):∀(n:Ae)(ss:Ss)(U:Rho),evSs Y U ss=GZ Y (ss.drop n) (evSs Y U (ss.take n))
 |0,_,_=>rfl
 |_+1,.nil,_=>rfl
 |n+1,.cons s ss,U=>by
  show (evS Y U s).seq (λU'=>evSs Y U' ss)=GZ Y (ss.drop n) ((evS Y U s).seq λU'=>evSs Y U' (ss.take n))
  cases evS Y U s with
  |next U'=>exact Ur Y n ss U'
  |_=>rfl
end Ov
end
section
namespace Ov
end Ov
end
section
namespace OvC
open PySem Ov PyProof.Rows
variable{j:Ag}{Y:Gam}
noncomputable abbrev scr(ns:Ac Ag):D:=.lst (ns.map .int)
noncomputable abbrev sh(d:D):Sl:=Ab (d,Af)
noncomputable abbrev si(i:Ag):Sl:=Ab (.int i,Af)
noncomputable def OX(ns:Ac Ag)(k:Ag):Ag:=if ns=[] then 0 else ns.getD (k%ns.length).toNat 0
noncomputable def Lu(ns:Ac Ag)(k:Ag):Ag:=(OX ns k%1000003+7919*k+11)*48271%1000033
noncomputable def Rb(ns:Ac Ag)(k:Ag):Ag:=[3,5,7,11].getD (Lu ns k/16%4).toNat 0
theorem Xb{P:Ae->Prop}(h0:P 0)(h1:P 1)(h2:P 2)(h3:P 3):P (j%4).toNat:=by
 have:(j%4).toNat=0\/(j%4).toNat=1\/(j%4).toNat=2\/(j%4).toNat=3:=by omega
 rcases this with e|e|e|e<;>rw[e]<;>assumption
def P4(p:Ag):Prop:=p=3\/p=5\/p=7\/p=11
noncomputable def pr4(j:Ag):Ag:=[3,5,7,11].getD (j%4).toNat 0
theorem tB(j):P4 (pr4 j):=by
 unfold pr4;exact Xb (P:=λj=>P4 ([3,5,7,11].getD j 0)) (.inl rfl) (.inr (.inl rfl)) (.inr (.inr (.inl rfl))) (.inr (.inr (.inr rfl)))
theorem jZ(ns k):P4 (Rb ns k):=tB _
theorem P4.pos{p}(h:P4 p):0<p:=by rcases h with rfl|rfl|rfl|rfl<;>decide
theorem P4.lo{p}(h:P4 p):3<=p:=by rcases h with rfl|rfl|rfl|rfl<;>decide
theorem P4.hi{p}(h:P4 p):p<=11:=by rcases h with rfl|rfl|rfl|rfl<;>decide
theorem kH(j:Ag):FE [.int 3,.int 5,.int 7,.int 11] (j%4)=.ok (.int (pr4 j)):=by
 have h:=Xb (P:=λj=>[D.int 3,D.int 5,D.int 7,D.int 11][j]?=Ab (D.int ([3,5,7,11].getD j 0))) (j:=j) rfl rfl rfl rfl
 exact Qv (by omega) h
theorem Ng{i:Ag}(h0:-18446744073709551616<i)(h1:i<18446744073709551616):FX i j=Aa:=by simp[FX];left;exact⟨h0,h1⟩
theorem Ve{i:Ag}(h0:-18446744073709551616<j)(h1:j<18446744073709551616):FX i j=Aa:=by simp[FX];right;exact⟨h0,h1⟩
noncomputable def Rc:Df:=⟨2,Af,(.cons (.ret (.bin .Mod (.var 1) (.var 0))) .nil)⟩
def Os(Y:Gam):Prop:=∀ p n:Ag,0<p->Y.F 1 [.int p,.int n]=.ok (.int (n%p))
theorem sR(Y:Gam)(p n:Ag)(h:0<p):Rc.run Y [.int p,.int n]=.ok (.int (n%p)):=by simp[Rc,Df.run,DB,h]
noncomputable def Pr:Df:=⟨2,Af,(.cons (.ife (.cmp .Eq (.bi .len (.cons (.var 0) .nil)) (.int 0)) (.cons (.ret (.int 0)) .nil) .nil) (.cons (.ret (.idx (.var 0) (.bin .Mod (.var 1) (.bi .len (.cons (.var 0) .nil))))) .nil))⟩
def Wr(Y:Gam):Prop:=∀(ns:Ac Ag)(k:Ag),Y.F 2 [scr ns,.int k]=.ok (.int (OX ns k))
theorem sV(Y:Gam)(ns:Ac Ag)(k:Ag):Pr.run Y [scr ns,.int k]=.ok (.int (OX ns k)):=by
 simp[Pr,Df.run,DB,OX];by_cases h:ns=[]
 .simp[h]
 .have hn:=Ye.mpr h;have hl:0<(ns.length:Ag):=by omega
  have h1:=DQ k (XN hl);have h2:=DJ k hl;have h3:(k%ns.length).toNat<ns.length:=by omega
  simp[h,hn,Qv (xs:=ns.map .int) (d:=.int (ns.getD (k%ns.length).toNat 0)) h1 (by simp[h3])]
noncomputable def Py:Df:=⟨2,Af,(.cons (.ret (.bin .Mod (.bin .Mult (.bin .Add (.bin .Add (.bin .Mod (.call 2 (.cons (.var 0) (.cons (.var 1) .nil))) (.int 1000003)) (.bin .Mult (.int 7919) (.var 1))) (.int 11)) (.int 48271)) (.int 1000033))) .nil)⟩
def QR(Y:Gam):Prop:=∀(ns:Ac Ag)(k:Ag),Y.F 3 [scr ns,.int k]=.ok (.int (Lu ns k))
theorem oE(h2:Wr Y)(ns:Ac Ag)(k:Ag):Py.run Y [scr ns,.int k]=.ok (.int (Lu ns k)):=by
 simp[Py,Df.run,DB,h2 ns k,FX,Lu]
noncomputable def Px:Df:=⟨2,Af,(.cons (.ret (.idx (.lst (.cons (.int 3) (.cons (.int 5) (.cons (.int 7) (.cons (.int 11) .nil))))) (.bin .Mod (.bin .FloorDiv (.call 3 (.cons (.var 0) (.cons (.var 1) .nil))) (.int 16)) (.int 4)))) .nil)⟩
def Vr(Y:Gam):Prop:=∀(ns:Ac Ag)(k:Ag),Y.F 4 [scr ns,.int k]=.ok (.int (Rb ns k))
theorem oD(h:QR Y)(ns:Ac Ag)(k:Ag):Px.run Y [scr ns,.int k]=.ok (.int (Rb ns k)):=by
 simp[Px,Df.run,DB,h ns k,kH];rfl
end OvC
end
namespace Ov
open PySem PySem.Spec PyProof.Rows L2
variable{A B:Al->Prop}{H H' H1 H0:Hp}{a b l q l2:Al}{xs ys vs:Ac V}{v:V}{d:D}{Rp Rq:Hp->V->D->Prop}{r:R D}{Q:VK}{X:Cx}{e c tg iter elt:An}{U:Rho}{i n j k tk:Ae}{Z:L2.St}{g:D->D->R D}{op:DW}{K:Fg}{pins:Pn}{s:Ap}{items2 its:Au Ai}{h h':AK}{u:Ai}{its2:Ac Ai}{es ifs:Ac An}{fs fi:Rho->R (Ac D)}{Q':Ao Ag->Hp->Prop}{x:Ak}{id T:C3}{p pos' pos pos2 tpos:AY}{f fc:Rho->R Aj}{α:Type}{Fz:Al->HO->Prop}{D':Ends}{lo hi:Ag}{as:D->Rho->R Rho}{up:Ae->Ac Ae}{prog P:AQ}{w:AT}{o:Dx}{scope:Cr}{env:CU}{cl:Ac (Ak×Al)}{N':Ac Ak}{ts:Ac Ae}{fp:Ac Al}{tt:TT}{te:TE}{J:It}{wi:TI}{t t1 t2:Aj}{ta:TA}
abbrev ClA:=Ae->Ao Al
variable{CL:ClA}
def KL(K:Fg)(a:Al)(xs:Ac V):Prop:=∃(o:Dx)(its:Au Ai)(n:Ae),K.lookup a=Ab o/\o.cls=.type "list"/\o.dict=Ad/\o.data=.seq its n/\its.size<=sizeLine/\Bb xs its.toList
def KT(K:Fg)(a:Al)(xs:Ac V):Prop:=∃(o:Dx)(its:Au Ai)(n:Ae),K.lookup a=Ab o/\o.cls=.type "tuple"/\o.data=.seq its n/\its.size<=sizeLine/\Bb xs its.toList
section
variable(K:Fg)(CL:ClA)(H:Hp)(A:Al->Prop)
mutual
def Rep:V->D->Prop
 |v,.non=>v=.non
 |v,.bl b=>v=.bl b
 |v,.int i=>v=.int i
 |v,.str x=>v=.str x
 |v,.tup ds=>∃ a xs,v=.ref a/\(¬ A a\/KT K a xs)/\SqT K H a xs/\Reps xs ds
 |v,.lst ds=>∃ a xs,v=.ref a/\(¬ A a\/KL K a xs)/\SqL K H a xs/\Reps xs ds
 |v,.obj c fs=>∃ a C dx vs,v=.ref a/\¬ A a/\CL c=Ab C/\H a=Ab (.ins C dx vs)/\Repf vs fs
 |_,.dic _=>Ba
 |v,.exc c fs=>∃ a C φ,v=.ref a/\¬ A a/\CL c=Ab C/\H a=Ab (.ext φ)/\(∀ h,φ h->∃ o,h.get? a=Ab o/\o.cls=.ref C)/\(fs=[]\/∃ dx vs,¬ A dx/\H dx=Ab (.xd vs)/\Repf vs fs/\∀ h,φ h->∃ o,h.get? a=Ab o/\o.dict=Ab dx/\∃ us,o.data=.fields us)
def Reps:Ac V->Ac D->Prop
 |[],[]=>Jg
 |v::vs,d::ds=>Rep v d/\Reps vs ds
 |_,_=>Ba
def Repf:Ac (Ak×V)->Ac (Ak×D)->Prop
 |[],[]=>Jg
 |v::vs,d::ds=>Repp v d/\Repf vs ds
 |_,_=>Ba
def Repp:Ak×V->Ak×D->Prop
 |v,(n,d)=>v.1=n/\Rep v.2 d
end
def CY(v:V)(d:D):Prop:=Rep K CL H A v d\/∃ a xs ds,v=.ref a/\d=.lst ds/\H a=Ab (.lst xs)/\Reps K CL H A xs ds
end
def Kp(A:Al->Prop)(H H':Hp):Prop:=∀ b o,H b=Ab o->¬ A b->H' b=Ab o
def AOk(H:Hp)(A:Al->Prop):Prop:=∀ a,A a->∃ xs,H a=Ab (.lst xs)
theorem Kp.of(h:AN H H'):Kp A H H':=λb o e _=>h b o e
theorem AOk.same(h:AOk H A)(s:AN H H'):AOk H' A:=λa ha=>let ⟨xs,e⟩:=h a ha;⟨xs,s _ _ e⟩
theorem AOk.new{p:Al}(h:AOk H A)(e:H p=Ad):¬ A p:=λha=>by
 obtain⟨xs,q⟩:=h p ha;rw[e]at q;cases q
section
variable{K:Fg}{CL:ClA}{H H':Hp}{A B:Al->Prop}
theorem Wz{u:HO}(k:Kp A H H')(na:¬ A a)(h:Rd H a u):Rd H' a u:=by
 rcases h with h|⟨o,h⟩
 .exact .inl (k _ _ h na)
 .exact .inr ⟨o,k _ _ h na⟩
theorem OB(k:Kp A H H')(na:¬ A a\/KL K a xs)(h:SqL K H a xs):SqL K H' a xs:=na.elim (λna=>h.imp (Wz k na) id) .inr
theorem OA(k:Kp A H H')(na:¬ A a\/KT K a xs)(h:SqT K H a xs):SqT K H' a xs:=na.elim (λna=>h.imp (Wz k na) id) .inr
mutual
theorem Rep.kp(k:Kp A H H'):∀{v:V}(d:D),Rep K CL H A v d->Rep K CL H' A v d
 |_,.non,h=>h
 |_,.bl _,h=>h
 |_,.int _,h=>h
 |_,.str _,h=>h
 |_,.dic _,h=>h.elim
 |_,.tup ds,h=>by
  obtain⟨a,xs,e,na,s,r⟩:=h;exact⟨a,xs,e,na,by first|exact OA k na s|exact OB k na s,Reps.kp k ds r⟩
 |_,.lst ds,h=>by
  obtain⟨a,xs,e,na,s,r⟩:=h;exact⟨a,xs,e,na,by first|exact OA k na s|exact OB k na s,Reps.kp k ds r⟩
 |_,.obj c fs,h=>by
  obtain⟨a,C,dx,vs,e,na,c,s,r⟩:=h;exact⟨a,C,dx,vs,e,na,c,k _ _ s na,Repf.kp k fs r⟩
 |_,.exc c fs,h=>by
  obtain⟨a,C,φ,e,na,c,s,p,q⟩:=h;refine⟨a,C,φ,e,na,c,k _ _ s na,p,q.imp id ?_⟩;rintro⟨dx,vs,nx,s2,r,z⟩;exact⟨dx,vs,nx,k _ _ s2 nx,Repf.kp k fs r,z⟩
theorem Reps.kp(k:Kp A H H'):∀{vs:Ac V}(ds:Ac D),Reps K CL H A vs ds->Reps K CL H' A vs ds
 |[],[],h=>h
 |_::_,d::ds,h=>⟨Rep.kp k d h.1,Reps.kp k ds h.2⟩
 |[],_::_,h=>h.elim
 |_::_,[],h=>h.elim
theorem Repf.kp(k:Kp A H H'):∀{vs:Ac (Ak×V)}(ds:Ac (Ak×D)),Repf K CL H A vs ds->Repf K CL H' A vs ds
 |[],[],h=>h
 |_::_,d::ds,h=>⟨Repp.kp k d h.1,Repf.kp k ds h.2⟩
 |[],_::_,h=>h.elim
 |_::_,[],h=>h.elim
theorem Repp.kp(k:Kp A H H'):∀{v:Ak×V}(d:Ak×D),Repp K CL H A v d->Repp K CL H' A v d
 |_,(_,d),h=>⟨h.1,Rep.kp k d h.2⟩
end
mutual
theorem Rep.sub(k:∀ a,B a->A a):∀{v:V}(d:D),Rep K CL H A v d->Rep K CL H B v d
 |_,.non,h=>h
 |_,.bl _,h=>h
 |_,.int _,h=>h
 |_,.str _,h=>h
 |_,.dic _,h=>h.elim
 |_,.tup ds,h=>by
  obtain⟨a,xs,e,na,s,r⟩:=h;exact⟨a,xs,e,na.imp (λna z=>na (k _ z)) id,s,Reps.sub k ds r⟩
 |_,.lst ds,h=>by
  obtain⟨a,xs,e,na,s,r⟩:=h;exact⟨a,xs,e,na.imp (λna z=>na (k _ z)) id,s,Reps.sub k ds r⟩
 |_,.obj c fs,h=>by
  obtain⟨a,C,dx,vs,e,na,c,s,r⟩:=h;exact⟨a,C,dx,vs,e,λz=>na (k _ z),c,s,Repf.sub k fs r⟩
 |_,.exc c fs,h=>by
  obtain⟨a,C,φ,e,na,c,s,p,q⟩:=h;refine⟨a,C,φ,e,λz=>na (k _ z),c,s,p,q.imp id ?_⟩
  rintro⟨dx,vs,nx,s2,r,z⟩;exact⟨dx,vs,λz=>nx (k _ z),s2,Repf.sub k fs r,z⟩
theorem Reps.sub(k:∀ a,B a->A a):∀{vs:Ac V}(ds:Ac D),Reps K CL H A vs ds->Reps K CL H B vs ds
 |[],[],h=>h
 |_::_,d::ds,h=>⟨Rep.sub k d h.1,Reps.sub k ds h.2⟩
 |[],_::_,h=>h.elim
 |_::_,[],h=>h.elim
theorem Repf.sub(k:∀ a,B a->A a):∀{vs:Ac (Ak×V)}(ds:Ac (Ak×D)),Repf K CL H A vs ds->Repf K CL H B vs ds
 |[],[],h=>h
 |_::_,d::ds,h=>⟨Repp.sub k d h.1,Repf.sub k ds h.2⟩
 |[],_::_,h=>h.elim
 |_::_,[],h=>h.elim
theorem Repp.sub(k:∀ a,B a->A a):∀{v:Ak×V}(d:Ak×D),Repp K CL H A v d->Repp K CL H B v d
 |_,(_,d),h=>⟨h.1,Rep.sub k d h.2⟩
end
mutual
theorem Rep.wide(hp:∀ a,B a->A a\/H a=Ad):∀{v:V}(d:D),Rep K CL H A v d->Rep K CL H B v d
 |_,.non,h=>h
 |_,.bl _,h=>h
 |_,.int _,h=>h
 |_,.str _,h=>h
 |_,.dic _,h=>h.elim
 |_,.tup ds,h=>by
  obtain⟨a,xs,e,na,s,r⟩:=h;refine⟨a,xs,e,?_,s,Reps.wide hp ds r⟩;rcases s with s|s
  .refine na.imp (λna z=>(hp _ z).elim na λe=>?_) id
   rcases s with s|⟨o,s⟩<;>rw[e]at s<;>cases s
  .exact .inr s
 |_,.lst ds,h=>by
  obtain⟨a,xs,e,na,s,r⟩:=h;refine⟨a,xs,e,?_,s,Reps.wide hp ds r⟩;rcases s with s|s
  .refine na.imp (λna z=>(hp _ z).elim na λe=>?_) id
   rcases s with s|⟨o,s⟩<;>rw[e]at s<;>cases s
  .exact .inr s
 |_,.obj c fs,h=>by
  obtain⟨a,C,dx,vs,e,na,c,s,r⟩:=h;exact⟨a,C,dx,vs,e,(λz=>(hp _ z).elim na λe=>by rw[e]at s;cases s),c,s,Repf.wide hp fs r⟩
 |_,.exc c fs,h=>by
  obtain⟨a,C,φ,e,na,c,s,p,q⟩:=h;refine⟨a,C,φ,e,(λz=>(hp _ z).elim na λe=>by rw[e]at s;cases s),c,s,p,q.imp id ?_⟩
  rintro⟨dx,vs,nx,s2,r,z⟩;exact⟨dx,vs,(λz=>(hp _ z).elim nx λe=>by rw[e]at s2;cases s2),s2,Repf.wide hp fs r,z⟩
theorem Reps.wide(hp:∀ a,B a->A a\/H a=Ad):∀{vs:Ac V}(ds:Ac D),Reps K CL H A vs ds->Reps K CL H B vs ds
 |[],[],h=>h
 |_::_,d::ds,h=>⟨Rep.wide hp d h.1,Reps.wide hp ds h.2⟩
 |[],_::_,h=>h.elim
 |_::_,[],h=>h.elim
theorem Repf.wide(hp:∀ a,B a->A a\/H a=Ad):∀{vs:Ac (Ak×V)}(ds:Ac (Ak×D)),Repf K CL H A vs ds->Repf K CL H B vs ds
 |[],[],h=>h
 |_::_,d::ds,h=>⟨Repp.wide hp d h.1,Repf.wide hp ds h.2⟩
 |[],_::_,h=>h.elim
 |_::_,[],h=>h.elim
theorem Repp.wide(hp:∀ a,B a->A a\/H a=Ad):∀{v:Ak×V}(d:Ak×D),Repp K CL H A v d->Repp K CL H B v d
 |_,(_,d),h=>⟨h.1,Rep.wide hp d h.2⟩
end
theorem Rep.same(s:AN H H')(h:Rep K CL H A v d):Rep K CL H' A v d:=Rep.kp (Kp.of s) d h
theorem Reps.same{v:Ac V}{d:Ac D}(s:AN H H')(h:Reps K CL H A v d):Reps K CL H' A v d:=Reps.kp (Kp.of s) d h
theorem CY.same{v:V}{d:D}(s:AN H H')(h:CY K CL H A v d):CY K CL H' A v d:=by
 rcases h with h|⟨a,xs,ds,e,e2,q,r⟩
 .exact .inl (h.same s)
 .exact .inr ⟨a,xs,ds,e,e2,s _ _ q,r.same s⟩
theorem Reps.length:∀{vs:Ac V}{ds:Ac D},Reps K CL H A vs ds->vs.length=ds.length
 |[],[],_=>rfl
 |_::_,_::_,h=>congrArg (· + 1) (Reps.length h.2)
 |[],_::_,h=>h.elim
 |_::_,[],h=>h.elim
theorem Reps.append:∀{vs ws:Ac V}{ds es:Ac D},Reps K CL H A vs ds->Reps K CL H A ws es->Reps K CL H A (vs++ws) (ds++es)
 |[],_,[],_,_,h=>h
 |_::_,_,_::_,_,h,g=>⟨h.1,Reps.append h.2 g⟩
 |[],_,_::_,_,h,_=>h.elim
 |_::_,_,[],_,h,_=>h.elim
theorem Reps.get:∀{vs:Ac V}{ds:Ac D}{i:Ae}{d:D},Reps K CL H A vs ds->ds[i]?=Ab d->∃ v,vs[i]?=Ab v/\Rep K CL H A v d
 |[],[],_,_,_,e=>by simp at e
 |v::_,_::_,0,_,h,e=>by simp at e;subst e;exact⟨v,rfl,h.1⟩
 |_::_,_::_,i+1,_,h,e=>by
  obtain⟨v,q,r⟩:=Reps.get (i:=i) h.2 (by simpa using e)
  exact⟨v,by simpa using q,r⟩
 |[],_::_,_,_,h,_=>h.elim
 |_::_,[],_,_,h,_=>h.elim
theorem Reps.take:∀{vs:Ac V}{ds:Ac D}(n:Ae),Reps K CL H A vs ds->Reps K CL H A (vs.take n) (ds.take n)
 |_,_,0,_=>trivial
 |[],[],_+1,_=>trivial
 |_::_,_::_,n+1,h=>⟨h.1,Reps.take n h.2⟩
 |[],_::_,_+1,h=>h.elim
 |_::_,[],_+1,h=>h.elim
theorem Reps.drop:∀{vs:Ac V}{ds:Ac D}(n:Ae),Reps K CL H A vs ds->Reps K CL H A (vs.drop n) (ds.drop n)
 |_,_,0,h=>h
 |[],[],_+1,_=>trivial
 |_::_,_::_,n+1,h=>Reps.drop n h.2
 |[],_::_,_+1,h=>h.elim
 |_::_,[],_+1,h=>h.elim
theorem Reps.set{x:V}{e:D}(r:Rep K CL H A x e):∀{vs:Ac V}{ds:Ac D}(n:Ae),Reps K CL H A vs ds->Reps K CL H A (vs.set n x) (ds.set n e)
 |[],[],_,_=>trivial
 |_::_,_::_,0,h=>⟨r,h.2⟩
 |_::_,_::_,n+1,h=>⟨h.1,Reps.set r n h.2⟩
 |[],_::_,_,h=>h.elim
 |_::_,[],_,h=>h.elim
end
structure Good (K:Fg) (CL:ClA) (A:Al->Prop) (U:Rho) (Z:L2.St) (H:Hp):Prop where
 sh:∀(i:Ae)(d:D),U[i]?=Ab (Ab (d,Af))->∃ v,Z[i]?=Ab (Ab v)/\Rep K CL H A v d
 ow:∀(i:Ae)(d:D),U[i]?=Ab (Ab (d,Aa))->∃ a xs ds,Z[i]?=Ab (Ab (.ref a))/\d=.lst ds/\A a/\H a=Ab (.lst xs)/\Reps K CL H A xs ds
 len:U.length=Z.length
theorem Good.same{K:Fg}{CL:ClA}{A:Al->Prop}{U:Rho}{Z:L2.St}{H H':Hp}(g:Good K CL A U Z H)(s:AN H H'):Good K CL A U Z H':=
 ⟨λi d e=>let ⟨v,q,r⟩:=g.sh i d e;⟨v,q,r.same s⟩,λi d e=>let ⟨a,xs,ds,q,z,na,h,r⟩:=g.ow i d e;⟨a,xs,ds,q,z,na,s _ _ h,r.same s⟩,g.len⟩
abbrev XW:=Ex->Hp->Prop
variable{W:XW}
def Bg(Rp:Hp->V->D->Prop)(W:XW)(H:Hp)(r:R D)(Q:VK):Prop:=match r with
  |.ok d=>∀ v H',AN H H'->Rp H' v d->Q v H'
  |.exn x=>∀ H',AN H H'->W x H'
  |.bad=>Ba
def HX(Rp:Hp->Ac V->Ac D->Prop)(W:XW)(H:Hp)(r:R (Ac D))(Q:Ac V->Hp->Prop):Prop:=match r with
  |.ok d=>∀ v H',AN H H'->Rp H' v d->Q v H'
  |.exn x=>∀ H',AN H H'->W x H'
  |.bad=>Ba
def DF(W:XW)(H:Hp)(r:R Aj)(Q:Aj->Hp->Prop):Prop:=match r with
  |.ok b=>∀ H',AN H H'->Q b H'
  |.exn x=>∀ H',AN H H'->W x H'
  |.bad=>Ba
theorem Bg.same(s:AN H H')(h:Bg Rp W H r Q):Bg Rp W H' r Q:=by
 cases r with
 |ok d=>exact λv H2 s2 q=>h v H2 (s.trans s2) q
 |exn x=>exact λH2 s2=>h H2 (s.trans s2)
 |bad=>exact h
theorem DF.same{r:R Aj}{Q:Aj->Hp->Prop}(s:AN H H')(h:DF W H r Q):DF W H' r Q:=by
 cases r with
 |ok d=>exact λH2 s2=>h H2 (s.trans s2)
 |exn x=>exact λH2 s2=>h H2 (s.trans s2)
 |bad=>exact h
theorem Bg.bind{f:D->R D}{Q':VK}(h:Bg Rq W H (r.bind f) Q)(k:∀ d v H',r=.ok d->AN H H'->Rp H' v d->Bg Rq W H' (f d) Q->Q' v H'):Bg Rp W H r Q':=by
 cases r with
 |ok d=>exact λv H2 s2 q=>k d v H2 rfl s2 q (Bg.same s2 h)
 |exn x=>exact h
 |bad=>exact h
section
variable(X:Cx)(CL:ClA)(W:XW)
def SE(e:An)(f:Rho->R D):Prop:=∀ A,PE X e (λZ H Q=>AOk H A/\∃ U,Good X.K CL A U Z H/\Bg (λH=>Rep X.K CL H A) W H (f U) Q)
def ST(e:An)(f:Rho->R D):Prop:=∀ A,PE X e (λZ H Q=>AOk H A/\∃ U,Good X.K CL A U Z H/\Bg (λH=>CY X.K CL H A) W H (f U) Q)
def SB(e:An)(f:Rho->R Aj):Prop:=∀ A,PT X e (λZ H Q=>AOk H A/\∃ U,Good X.K CL A U Z H/\DF W H (f U) Q)
def SA(es:Ac An)(f:Rho->R (Ac D)):Prop:=∀ A,PA X es (λZ H Q=>AOk H A/\∃ U,Good X.K CL A U Z H/\HX (λH=>Reps X.K CL H A) W H (f U) Q)
end
theorem PE.weak{t t':TE}(h:PE X e t)(k:∀ Z H Q,t' Z H Q->t Z H Q):PE X e t':=λpins s Z H Q I q=>h pins s Z H Q I (k _ _ _ q)
theorem PT.weak{t t':TT}(h:PT X e t)(k:∀ Z H Q,t' Z H Q->t Z H Q):PT X e t':=λpins s Z H Q I q=>h pins s Z H Q I (k _ _ _ q)
theorem PA.weak{e:Ac An}{t t':TA}(h:PA X e t)(k:∀ Z H Q,t' Z H Q->t Z H Q):PA X e t':=λpos pins s Z H Q I q=>h pos pins s Z H Q I (k _ _ _ q)
noncomputable def OpD(X:Cx)(CL:ClA)(W:XW)(f:Ai->Ai->DZ Ai)(g:D->D->R D):Prop:=
 ∀ A,OpR X f (λx y H Q=>AOk H A/\∃ dx dy,CY X.K CL H A x dx/\CY X.K CL H A y dy/\Bg (λH=>Rep X.K CL H A) W H (g dx dy) Q)
section
variable{X:Cx}{CL:ClA}{W:XW}{a b c:An}{fa fb fc:Rho->R D}{pos:AY}
theorem SE.st(h:SE X CL W a fa):ST X CL W a fa:=λA=>PE.weak (h A) λZ H Q ⟨hA,U,g,p⟩=>⟨hA,U,g,by
 cases e:fa U with
 |ok d=>rw[e]at p;exact λv H' s r=>p v H' s (.inl r)
 |exn x=>rw[e]at p;exact p
 | bad=>rw[e]at p;exact p⟩
theorem SE.congr{f g:Rho->R D}(h:SE X CL W a f)(e:∀ U,g U=f U):SE X CL W a g:=λA=>PE.weak (h A) λZ H Q ⟨hA,U,q,p⟩=>⟨hA,U,q,by rw[<-e];exact p⟩
theorem OQ(h:PE X a (tC v))(r:∀ H A,AOk H A->Rep X.K CL H A v d):SE X CL W a (λ_=>.ok d):=λA=>PE.weak h λZ H Q ⟨hA,U,g,p⟩=>p v H (AN.refl H) (r H A hA)
theorem sE{i j}:SE X CL W (.Constant (.int i) j pos) (λ_=>.ok (.int i)):=OQ uV λ_ _ _=>rfl
theorem Wy{b j}:SE X CL W (.Constant (.bool b) j pos) (λ_=>.ok (.bl b)):=OQ zQ λ_ _ _=>rfl
theorem tS{j}:SE X CL W (.Constant .none j pos) (λ_=>.ok .non):=OQ uT λ_ _ _=>rfl
theorem Q5{x j}:SE X CL W (.Constant (.str x) j pos) (λ_=>.ok (.str x)):=OQ rZ λ_ _ _=>rfl
theorem mM(h:GA U i=.ok d):U[i]?=Ab (Ab (d,Af)):=by
 unfold GA at h;split at h
 .rename_i e;cases h;exact e
 .cases h
theorem U_0(h:EX U i=.ok d):∃ o,U[i]?=Ab (Ab (d,o)):=by
 unfold EX at h;split at h
 .rename_i e;cases h;exact⟨_,e⟩
 .cases h
theorem gR{x:Ex}(h:GA U i=.exn x):Ba:=by
 unfold GA at h;split at h<;>cases h
theorem TF{x:Ex}(h:EX U i=.exn x):Ba:=by
 unfold EX at h;split at h<;>cases h
theorem tR(h:PE X a (J5 i)):SE X CL W a (λU=>GA U i):=λA=>PE.weak h λZ H Q ⟨hA,U,g,p⟩=>by
 dsimp only at p;cases e:GA U i with
 |ok d=>
  rw[e]at p;obtain⟨v,q,r⟩:=g.sh i d (mM e);exact⟨v,q,p v H (AN.refl H) r⟩
 |exn x=>exact(gR e).elim
 |bad=>rw[e]at p;exact p.elim
theorem Mn(h:PE X a (J5 i)):ST X CL W a (λU=>EX U i):=λA=>PE.weak h λZ H Q ⟨hA,U,g,p⟩=>by
 dsimp only at p;cases e:EX U i with
 |ok d=>
  rw[e]at p;obtain⟨o,e⟩:=U_0 e;cases o with
  |false=>
   obtain⟨v,q,r⟩:=g.sh i d e;exact⟨v,q,p v H (AN.refl H) (.inl r)⟩
  |true=>
   obtain⟨x,xs,ds,q,rfl,ha,hh,r⟩:=g.ow i d e;exact⟨_,q,p _ H (AN.refl H) (.inr ⟨x,xs,ds,rfl,rfl,hh,r⟩)⟩
 |exn x=>exact(TF e).elim
 |bad=>rw[e]at p;exact p.elim
theorem op2(h:AOk H A/\∃ U,Good X.K CL A U Z H/\Bg Rq W H ((fa U).bind λx=>(fb U).bind λy=>g x y) Q):AOk H A/\∃ U,Good X.K CL A U Z H/\Bg (λH=>CY X.K CL H A) W H (fa U) (λx H1=>AOk H1 A/\∃ U,Good X.K CL A U Z H1/\Bg (λH=>CY X.K CL H A) W H1 (fb U) (λy H2=>AOk H2 A/\∃ dx dy,CY X.K CL H2 A x dx/\CY X.K CL H2 A y dy/\Bg Rq W H2 (g dx dy) Q)):=by
 obtain⟨hA,U,gd,p⟩:=h;refine⟨hA,U,gd,Bg.bind p λdx x H1 _ s1 r1 p1=>⟨hA.same s1,U,gd.same s1,Bg.bind p1 λdy y H2 _ s2 r2 p2=>⟨(hA.same s1).same s2,dx,dy,r1.same s2,r2,p2⟩⟩⟩
theorem Q7{op:F3}(ho:OpD X CL W (Ct op) g)(ha:ST X CL W a fa)(hb:ST X CL W b fb):SE X CL W (.BinOp a op b pos) (λU=>(fa U).bind λx=>(fb U).bind λy=>g x y):=
 λA=>PE.weak (Wx (ho A) (ha A) (hb A)) λZ H Q h=>op2 h
theorem sG(ho:OpD X CL W (Dd op) g)(ha:ST X CL W a fa)(hb:ST X CL W b fb)(hm:HP op b=Af):SE X CL W (.Compare a [op] [b] pos) (λU=>(fa U).bind λx=>(fb U).bind λy=>g x y):=
 λA=>PE.weak (nE (ho A) (ha A) (hb A) hm) λZ H Q h=>op2 h
theorem CY.int_of{i:Ag}(h:CY K CL H A v (.int i)):v=.int i:=by
 rcases h with h|⟨_,_,_,_,e,_⟩
 .exact h
 .cases e
theorem CY.str_of{i:Ak}(h:CY K CL H A v (.str i)):v=.str i:=by
 rcases h with h|⟨_,_,_,_,e,_⟩
 .exact h
 .cases e
theorem CY.bl_of{i:Aj}(h:CY K CL H A v (.bl i)):v=.bl i:=by
 rcases h with h|⟨_,_,_,_,e,_⟩
 .exact h
 .cases e
theorem CY.non_of(h:CY K CL H A v .non):v=.non:=by
 rcases h with h|⟨_,_,_,_,e,_⟩
 .exact h
 .cases e
theorem CY.lst_of{ds:Ac D}(h:CY K CL H A v (.lst ds)):∃ a xs,v=.ref a/\SqL K H a xs/\Reps K CL H A xs ds:=by
 rcases h with ⟨a,xs,e,_,s,r⟩|⟨a,xs,es,rfl,e,s,r⟩
 .exact⟨a,xs,e,s,r⟩
 .cases e;exact⟨a,xs,rfl,SqL.of s,r⟩
theorem CY.tup_of{ds:Ac D}(h:CY K CL H A v (.tup ds)):∃ a xs,v=.ref a/\(¬ A a\/KT K a xs)/\SqT K H a xs/\Reps K CL H A xs ds:=by
 rcases h with ⟨a,xs,e,n,s,r⟩|⟨_,_,_,_,e,_⟩
 .exact⟨a,xs,e,n,s,r⟩
 .cases e
theorem mS{i j:Ag}(h:FX i j=Aa):Pf i j:=by
 unfold FX at h;simp only[C1,Am,AU]at h;unfold Pf;omega
theorem Vn{a:Ag}(h:a.natAbs<2 ^ 2000):YS a<=2 ^ 20:=by
 unfold YS;split
 .omega
 .rename_i hz;have h0:a.natAbs≠0:=by intro z;exact hz (by rw[Int.natAbs_eq_zero.mp z];rfl)
  have:=(Nat.log2_lt h0).mpr h;omega
theorem mR{i j:Ag}(h:(FX i j||OY i j)=Aa):MK i j:=by
 rcases Bool.or_eq_true_iff.mp h with h|h
 .exact(mS h).ok
 .unfold OY at h;rw[Am,AU,AU]at h;exact .of_bits (Vn h.1) (Vn h.2)
theorem nL:OpR X (Ct .Mult) (rI MK λi j=>.int (i*j)):=opI λ_ _ _ _ _ _ _ hc q=>mul_int q hc
theorem JU(h:BY n=Aa):n<=sizeLine:=by
 unfold BY at h;rw[Bv];have:=Fw h;omega
theorem QL{p:Al}{ds:Ac D}(hA:AOk H A)(hp:H p=Ad)(r:Reps K CL H A xs ds):Rep K CL (upd H p (.lst xs)) A (.ref p) (.lst ds):=
 ⟨p,xs,rfl,.inl (hA.new hp),SqL.of Hv,r.same λb o e=>by rw[Cv (Gy e hp)];exact e⟩
theorem Nf{p:Al}{ds:Ac D}(hA:AOk H A)(hp:H p=Ad)(r:Reps K CL H A xs ds):Rep K CL (upd H p (.tup xs)) A (.ref p) (.tup ds):=
 ⟨p,xs,rfl,.inl (hA.new hp),SqT.of Hv,r.same λb o e=>by rw[Cv (Gy e hp)];exact e⟩
theorem GR{p:Al}(h:H p=Ad)(o:HO):AN H (upd H p o):=λb u q=>by rw[Cv (Gy q h)];exact q
def xI(K:Fg):R2:=λx y H Q=>∃ l b xs zs,x=.ref l/\y=.ref b/\SqL K H l xs/\SqL K H b zs/\xs.length+zs.length<=sizeLine/\∀ p,H p=Ad->Q (.ref p) (upd H p (.lst (xs++zs)))
end
section
variable{X:Cx}{CL:ClA}{W:XW}
theorem Vb:OpR X (Ct .Add) (xI X.K):=by
 intro pins s Z H x y v u Q I rx ry h;obtain⟨l,b,xs,zs,rfl,rfl,hH,hB,hz,q⟩:=h;cases rx;cases ry;obtain⟨its,r,⟨o,n,e,c,dd,dt⟩,z⟩:=I.list hH;obtain⟨its2,r2,⟨o2,n2,e2,c2,dd2,dt2⟩,z2⟩:=I.list hB;have hl:=r.length;have hl2:=r2.length;obtain⟨cls,dd0,data,sl⟩:=o;obtain⟨cls2,dd02,data2,sl2⟩:=o2;simp only at c dd dt c2 dd2 dt2;subst c dd dt c2 dd2 dt2;have ea:its.toArray++its2.toArray=(its++its2).toArray:=by simp
 refine Kt ⟨_,e,rfl⟩ ⟨_,e2,rfl⟩ noFill_list_add seq_list_add PySem.F.slot_list_add PySem.F.entry_list_add (PySem.F.args_list_add_2 _ _) (list_addW l b its.toArray its2.toArray n n2 Ad Ad sl sl2 (by simp;omega)) ⟨e,e2,?_⟩
 rw[ea];exact⟨.ref _,_,I.lnew (t':=s.toks) (r.append r2) (by rw[Bt];omega),rfl,q _ I.fresh⟩
theorem Va:OpD X CL W (Ct .Add) (Dr .Add):=by
 intro A pins s Z H x y v u Q I rx ry ⟨hA,dx,dy,hx,hy,p⟩;cases dx with
 |int i=>
  cases dy with
  |int j=>
   have ex:=hx.int_of;have ey:=hy.int_of
   subst ex ey;exact vE pins s Z H _ _ v u Q I rx ry ⟨i,j,rfl,rfl,p _ H (AN.refl H) rfl⟩
  |_=>exact p.elim
 |str i=>
  cases dy with
  |str j=>
   have ex:=hx.str_of;have ey:=hy.str_of
   subst ex ey;simp only[Rh]at p;split at p
   .rename_i h;exact fK pins s Z H _ _ v u Q I rx ry ⟨i,j,rfl,rfl,JU h,p _ H (AN.refl H) rfl⟩
   .exact p.elim
  |_=>exact p.elim
 |lst ds=>
  cases dy with
  |lst es=>
   obtain⟨a,xs,rfl,s1,r1⟩:=hx.lst_of;obtain⟨b,ys,rfl,s2,r2⟩:=hy.lst_of;simp only[Wl]at p;split at p
   .rename_i h;refine Vb pins s Z H _ _ v u Q I rx ry ⟨a,b,xs,ys,rfl,rfl,s1,s2,by rw[r1.length,r2.length];exact JU h,λq hq=>?_⟩
    exact p _ _ (GR hq _) (QL hA hq (r1.append r2))
   .exact p.elim
  |_=>exact p.elim
 |tup ds=>
  cases dy with
  |tup es=>
   obtain⟨a,xs,rfl,na1,s1,r1⟩:=hx.tup_of;obtain⟨b,ys,rfl,_,s2,r2⟩:=hy.tup_of;simp only[Wk]at p;split at p
   .rename_i h;simp only[Am]at h;refine nN pins s Z H _ _ v u Q I rx ry ⟨a,b,xs,ys,rfl,rfl,s1,s2,?_,by rw[r1.length,r2.length];exact JU h.2,λhy0=>?_,λ_ q hq=>?_⟩
    .rintro rfl;cases ds with
     |nil=>cases h.1
     |cons _ _=>exact r1.elim
    .subst hy0;cases es with
     |nil=>rw[Bu]at p;exact p _ H (AN.refl H) ⟨a,xs,rfl,na1,s1,r1⟩
     |cons _ _=>exact r2.elim
    .exact p _ _ (GR hq _) (Nf hA hq (r1.append r2))
   .exact p.elim
  |_=>exact p.elim
 |_=>exact p.elim
theorem Oc{op:F3}{C:Ag->Ag->Prop}{g:Ag->Ag->Ag}(ho:OpR X (Ct op) (rI C λi j=>.int (g i j)))(hg:∀ dx dy,(∃ i j,dx=.int i/\dy=.int j/\((C i j/\Dr op dx dy=.ok (.int (g i j)))\/Dr op dx dy=.bad))\/Dr op dx dy=.bad):OpD X CL W (Ct op) (Dr op):=by
 intro A pins s Z H x y v u Q I rx ry ⟨hA,dx,dy,hx,hy,p⟩;rcases hg dx dy with ⟨i,j,rfl,rfl,⟨c,e⟩|e⟩|e
 .have ex:=hx.int_of;have ey:=hy.int_of
  subst ex ey;rw[e]at p;exact ho pins s Z H _ _ v u Q I rx ry ⟨i,j,rfl,rfl,c,p _ H (AN.refl H) rfl⟩
 .rw[e]at p;exact p.elim
 .rw[e]at p;exact p.elim
theorem nG:OpD X CL W (Ct .Sub) (Dr .Sub):=by
 intro A pins s Z H x y v u Q I rx ry ⟨hA,dx,dy,hx,hy,p⟩;cases dx with
 |int i=>
  cases dy with
  |int j=>
   have ex:=hx.int_of;have ey:=hy.int_of
   subst ex ey;exact uY pins s Z H _ _ v u Q I rx ry ⟨i,j,rfl,rfl,p _ H (AN.refl H) rfl⟩
  |_=>exact p.elim
 |_=>exact p.elim
theorem nI:OpD X CL W (Ct .Mult) (Dr .Mult):=Oc nL λdx dy=>by
 cases dx with
 |int i=>
  cases dy with
  |int j=>
   refine .inl ⟨i,j,rfl,rfl,?_⟩;rw[vK];split
   .rename_i h;exact .inl ⟨mR h,rfl⟩
   .exact .inr rfl
  |_=>exact .inr rfl
 |_=>exact .inr rfl
theorem iR:OpD X CL W (Ct .FloorDiv) (Dr .FloorDiv):=Oc nM λdx dy=>by
 cases dx with
 |int i=>
  cases dy with
  |int j=>
   refine .inl ⟨i,j,rfl,rfl,?_⟩;rw[pK];split
   .rename_i h;exact .inl ⟨h,rfl⟩
   .exact .inr rfl
  |_=>exact .inr rfl
 |_=>exact .inr rfl
theorem nJ:OpD X CL W (Ct .Mod) (Dr .Mod):=Oc vC λdx dy=>by
 cases dx with
 |int i=>
  cases dy with
  |int j=>
   refine .inl ⟨i,j,rfl,rfl,?_⟩;rw[vM];split
   .rename_i h;exact .inl ⟨h,rfl⟩
   .exact .inr rfl
  |_=>exact .inr rfl
 |_=>exact .inr rfl
theorem nH:OpD X CL W (Ct .Pow) (Dr .Pow):=Oc uZ λdx dy=>by
 cases dx with
 |int i=>
  cases dy with
  |int j=>
   refine .inl ⟨i,j,rfl,rfl,?_⟩;rw[rS];split
   .rename_i h;exact .inl ⟨⟨h.1.1,h.1.2,by omega⟩,rfl⟩
   .exact .inr rfl
  |_=>exact .inr rfl
 |_=>exact .inr rfl
theorem QI(op:F3):OpD X CL W (Ct op) (Dr op):=by
 cases op with
 |Add=>exact Va
 |Sub=>exact nG
 |Mult=>exact nI
 |FloorDiv=>exact iR
 |Mod=>exact nJ
 |Pow=>exact nH
 |_=>
  intro A pins s Z H x y v u Q I rx ry ⟨hA,dx,dy,hx,hy,p⟩;exact p.elim
noncomputable abbrev A0:Al->Prop:=λ_=>Ba
theorem CY.plain(h:CY K CL H A v d):Rep K CL H A0 v d:=by
 rcases h with h|⟨a,xs,ds,rfl,rfl,e,r⟩
 .exact Rep.sub (λ_ z=>z.elim) d h
 .exact⟨a,xs,rfl,.inl λz=>z.elim,SqL.of e,Reps.sub (λ_ z=>z.elim) ds r⟩
mutual
theorem Qx:∀(n:Ae)(d:D),flD n d=Aa->eqD d d=Aa
 |_,.non,_=>rfl
 |_,.bl b,_=>by simp
 |_,.int i,_=>by simp
 |_,.str x,_=>by simp
 |n+1,.tup ds,h=>by
  show eqDs ds ds=Aa;exact eqDs_refl n ds h
 |n+1,.lst ds,h=>by
  show eqDs ds ds=Aa;exact eqDs_refl n ds h
 |0,.tup ds,h=>by cases h
 |0,.lst ds,h=>by cases h
 |n,.obj _ _,h=>by cases n<;>cases h
 |n,.exc _ _,h=>by cases n<;>cases h
 |n,.dic _,h=>by cases n<;>cases h
theorem eqDs_refl:∀(n:Ae)(ds:Ac D),ds.all (flD n)=Aa->eqDs ds ds=Aa
 |_,[],_=>rfl
 |n,d::ds,h=>by
  simp only[EA,Am]at h;simp only[PN,Am];exact⟨Qx n d h.1,eqDs_refl n ds h.2⟩
end
theorem SV(I:Inv X pins Z H s)(h:SqL X.K H a xs)(h':SqT X.K H a ys):Ba:=by
 obtain⟨its,r,⟨o,n,e,c,_,_⟩,_⟩:=I.list h;obtain⟨its',r',⟨o',e',c',_⟩,_⟩:=I.tuple h';rw[e]at e';cases e';rw[c]at c'
 injection c' with z
 exact absurd z (by decide)
mutual
theorem Og{pins:Pn}{Z:L2.St}{H:Hp}{s:Ap}(I:Inv X pins Z H s):∀(n:Ae)(d e:D){v:V},flD n d=Aa->flD n e=Aa->Rep X.K CL H A0 v d->Rep X.K CL H A0 v e->d=e
 |n,.tup ds,e,v,hd,he,r,q=>by
  obtain⟨a,xs,rfl,_,s1,r1⟩:=r;cases e with
  |tup es=>
   obtain⟨b,ys,e,_,s2,r2⟩:=q;cases e;have z:=I.tuple_inj s1 s2;subst z;cases n with
   |zero=>cases hd
   |succ n=>rw[reps_inj I n ds es hd he r1 r2]
  |lst es=>
   obtain⟨b,ys,e,_,s2,r2⟩:=q;cases e;exact(SV I s2 s1).elim
  |obj=>cases n<;>cases he
  |exc=>cases n<;>cases he
  |dic=>cases n<;>cases he
  |_=>cases q
 |n,.lst ds,e,v,hd,he,r,q=>by
  obtain⟨a,xs,rfl,_,s1,r1⟩:=r;cases e with
  |lst es=>
   obtain⟨b,ys,e,_,s2,r2⟩:=q;cases e;have z:=I.list_inj s1 s2;subst z;cases n with
   |zero=>cases hd
   |succ n=>rw[reps_inj I n ds es hd he r1 r2]
  |tup es=>
   obtain⟨b,ys,e,_,s2,r2⟩:=q;cases e;exact(SV I s1 s2).elim
  |obj=>cases n<;>cases he
  |exc=>cases n<;>cases he
  |dic=>cases n<;>cases he
  |_=>cases q
 |n,.obj _ _,e,v,hd,he,r,q=>by cases n<;>cases hd
 |n,.exc _ _,e,v,hd,he,r,q=>by cases n<;>cases hd
 |n,.dic _,e,v,hd,he,r,q=>by cases n<;>cases hd
 |n,.non,e,v,hd,he,r,q=>by
  cases r;cases e with
  |tup=>obtain⟨_,_,z,_⟩:=q;cases z
  |lst=>obtain⟨_,_,z,_⟩:=q;cases z
  |obj=>cases n<;>cases he
  |exc=>cases n<;>cases he
  |dic=>cases n<;>cases he
  |_=>cases q<;>rfl
 |n,.bl b,e,v,hd,he,r,q=>by
  cases r;cases e with
  |tup=>obtain⟨_,_,z,_⟩:=q;cases z
  |lst=>obtain⟨_,_,z,_⟩:=q;cases z
  |obj=>cases n<;>cases he
  |exc=>cases n<;>cases he
  |dic=>cases n<;>cases he
  |_=>cases q<;>rfl
 |n,.int b,e,v,hd,he,r,q=>by
  cases r;cases e with
  |tup=>obtain⟨_,_,z,_⟩:=q;cases z
  |lst=>obtain⟨_,_,z,_⟩:=q;cases z
  |obj=>cases n<;>cases he
  |exc=>cases n<;>cases he
  |dic=>cases n<;>cases he
  |_=>cases q<;>rfl
 |n,.str b,e,v,hd,he,r,q=>by
  cases r;cases e with
  |tup=>obtain⟨_,_,z,_⟩:=q;cases z
  |lst=>obtain⟨_,_,z,_⟩:=q;cases z
  |obj=>cases n<;>cases he
  |exc=>cases n<;>cases he
  |dic=>cases n<;>cases he
  |_=>cases q<;>rfl
theorem reps_inj{pins:Pn}{Z:L2.St}{H:Hp}{s:Ap}(I:Inv X pins Z H s):∀(n:Ae)(ds es:Ac D){xs:Ac V},ds.all (flD n)=Aa->es.all (flD n)=Aa->Reps X.K CL H A0 xs ds->Reps X.K CL H A0 xs es->ds=es
 |_,[],[],_,_,_,_,_=>rfl
 |n,d::ds,e::es,x::xs,hd,he,r,q=>by
  simp only[EA,Am]at hd he;rw[Og I n d e hd.1 he.1 r.1 q.1,reps_inj I n ds es hd.2 he.2 r.2 q.2]
 |_,[],_::_,[],_,_,_,q=>q.elim
 |_,[],_::_,_::_,_,_,r,_=>r.elim
 |_,_::_,[],[],_,_,r,_=>r.elim
 |_,_::_,[],_::_,_,_,_,q=>q.elim
 |_,_::_,_::_,[],_,_,r,_=>r.elim
end
theorem M9:∀{ds es:Ac D},ds.length≠es.length->eqDs ds es=Af
 |[],[],h=>absurd rfl h
 |[],_::_,_=>rfl
 |_::_,[],_=>rfl
 |d::ds,e::es,h=>by
  simp only[PN,M9 (ds:=ds) (es:=es) (by simpa using h),Gd]
theorem Sy(n:Ae)(f:Ae->Aj):(AD (n+1)).all f=(f 0&&(AD n).all λj=>f (j+1)):=by
 rw[Fn,EA,Fu];rfl
theorem Na:∀{ds es:Ac D},ds.length=es.length->eqDs ds es=(AD ds.length).all λj=>eqD (ds.getD j .non) (es.getD j .non)
 |[],[],_=>rfl
 |d::ds,e::es,h=>by
  rw[PN,Na (ds:=ds) (es:=es) (by simpa using h),A5,Sy]
  rfl
 |[],_::_,h=>by cases h
 |_::_,[],h=>by cases h
theorem Lo{ds:Ac D}{its:Ac Ai}(r:Reps K CL H A0 xs ds)(rv:Bb xs its)(h:j<its.length):∃ x,Rep K CL H A0 x (ds.getD j .non)/\BM x its[j]:=by
 have e1:=rv.length;have e2:=r.length;have hd:ds[j]?=Ab (ds.getD j .non):=by
  rw[A8,AC (by omega)];rfl
 obtain⟨x,hx,q⟩:=r.get hd;obtain⟨u,hu,ru⟩:=rv.get hx;refine⟨x,q,?_⟩;rw[AC h]at hu;cases hu;exact ru
theorem Lf{ds:Ac D}(h:ds.all (flD n)=Aa)(j:Ae):flD n (ds.getD j .non)=Aa:=by
 rw[A8];cases e:ds[j]? with
 |none=>cases n<;>rfl
 |some d=>exact Bx.mp h d (EO e)
def CZ(B:AV)(s:Ap)(u t:Ai)(k:Aj):Prop:=LA B s u t k/\G8 B s u t k/\Kr B s u t (!k)
section
variable{B:AV}{s:Ap}
open SeqAt
theorem xR:CZ B s .none .none Aa:=⟨RcAt.none_none,EqAt.same _,RcNeAt.none_none⟩
theorem yL(a b:Aj):CZ B s (.bool a) (.bool b) (a==b):=⟨RcAt.bool_bool _ _,EqAt.bool_bool _ _,RcNeAt.bool_bool _ _⟩
theorem xU(b:Aj):CZ B s .none (.bool b) Af:=⟨RcAt.none_bool _,EqAt.none_bool _,RcNeAt.none_bool _⟩
theorem yI(b:Aj):CZ B s (.bool b) .none Af:=⟨RcAt.bool_none _,EqAt.bool_none _,RcNeAt.bool_none _⟩
theorem yE(a:Ag)(t:Ci)(b:Ag)(u:Ci):CZ B s (.int a t) (.int b u) (a==b):=⟨RcAt.int_int _ _ _ _,EqAt.int_int _ _ _ _,RcNeAt.int_int _ _ _ _⟩
theorem yX(a:Ak)(t:Ci)(b:Ak)(u:Ci):CZ B s (.str a t) (.str b u) (a==b):=⟨RcAt.str_str _ _ _ _,EqAt.str_str _ _ _ _,RcNeAt.str_str _ _ _ _⟩
theorem yB(a:Ag)(t:Ci)(b:Ak)(u:Ci):CZ B s (.int a t) (.str b u) Af:=⟨RcAt.int_str _ _ _ _,EqAt.int_str _ _ _ _,RcNeAt.int_str _ _ _ _⟩
theorem zA(a:Ak)(t:Ci)(b:Ag)(u:Ci):CZ B s (.str a t) (.int b u) Af:=⟨RcAt.str_int _ _ _ _,EqAt.str_int _ _ _ _,RcNeAt.str_int _ _ _ _⟩
theorem xT(b:Ag)(u:Ci):CZ B s .none (.int b u) Af:=⟨RcAt.none_int _ _,EqAt.none_int _ _,RcNeAt.none_int _ _⟩
theorem yC(b:Ag)(u:Ci):CZ B s (.int b u) .none Af:=⟨RcAt.int_none _ _,EqAt.int_none _ _,RcNeAt.int_none _ _⟩
theorem xQ(b:Ak)(u:Ci):CZ B s .none (.str b u) Af:=⟨RcAt.none_str _ _,EqAt.none_str _ _,RcNeAt.none_str _ _⟩
theorem yY(b:Ak)(u:Ci):CZ B s (.str b u) .none Af:=⟨RcAt.str_none _ _,EqAt.str_none _ _,RcNeAt.str_none _ _⟩
theorem yK(a:Aj)(b:Ag)(u:Ci):CZ B s (.bool a) (.int b u) (b2i a==b):=⟨RcAt.bool_int _ _ _,EqAt.bool_int _ _ _,RcNeAt.bool_int _ _ _⟩
theorem yF(a:Aj)(b:Ag)(u:Ci):CZ B s (.int b u) (.bool a) (b==b2i a):=⟨RcAt.int_bool _ _ _,EqAt.int_bool _ _ _,RcNeAt.int_bool _ _ _⟩
theorem yH(a:Aj)(b:Ak)(u:Ci):CZ B s (.bool a) (.str b u) Af:=⟨RcAt.bool_str _ _ _,EqAt.bool_str _ _ _,RcNeAt.bool_str _ _ _⟩
theorem zB(a:Aj)(b:Ak)(u:Ci):CZ B s (.str b u) (.bool a) Af:=⟨RcAt.str_bool _ _ _,EqAt.str_bool _ _ _,RcNeAt.str_bool _ _ _⟩
variable{l:Al}{items:Au Ai}
theorem xX(h:s.heap.IsList l items)(hu:B.units<Cj):CZ B s (.ref l) .none Af:=⟨RcAt.list_none h hu,EqAt.list_none h hu,RcNeAt.list_none h hu⟩
theorem xS(h:s.heap.IsList l items)(hu:B.units<Cj):CZ B s .none (.ref l) Af:=⟨RcAt.none_list h hu,EqAt.none_list h hu,RcNeAt.none_list h hu⟩
theorem xZ(b:Aj)(h:s.heap.IsList l items)(hu:B.units<Cj):CZ B s (.ref l) (.bool b) Af:=⟨RcAt.list_bool b h hu,EqAt.list_bool b h hu,RcNeAt.list_bool b h hu⟩
theorem yJ(b:Aj)(h:s.heap.IsList l items)(hu:B.units<Cj):CZ B s (.bool b) (.ref l) Af:=⟨RcAt.bool_list b h hu,EqAt.bool_list b h hu,RcNeAt.bool_list b h hu⟩
theorem xY(b:Ag)(u:Ci)(h:s.heap.IsList l items)(hu:B.units<Cj):CZ B s (.ref l) (.int b u) Af:=⟨RcAt.list_int b u h hu,EqAt.list_int b u h hu,RcNeAt.list_int b u h hu⟩
theorem yD(b:Ag)(u:Ci)(h:s.heap.IsList l items)(hu:B.units<Cj):CZ B s (.int b u) (.ref l) Af:=⟨RcAt.int_list b u h hu,EqAt.int_list b u h hu,RcNeAt.int_list b u h hu⟩
theorem xW(b:Ak)(u:Ci)(h:s.heap.IsList l items)(hu:B.units<Cj):CZ B s (.ref l) (.str b u) Af:=⟨RcAt.list_str b u h hu,EqAt.list_str b u h hu,RcNeAt.list_str b u h hu⟩
theorem yZ(b:Ak)(u:Ci)(h:s.heap.IsList l items)(hu:B.units<Cj):CZ B s (.str b u) (.ref l) Af:=⟨RcAt.str_list b u h hu,EqAt.str_list b u h hu,RcNeAt.str_list b u h hu⟩
theorem yS(h:s.heap.IsTuple l items)(hu:B.units<Cj):CZ B s (.ref l) .none Af:=⟨RcAt.tuple_none h hu,EqAt.tuple_none h hu,RcNeAt.tuple_none h hu⟩
theorem zC(h:s.heap.IsTuple l items)(hu:B.units<Cj):CZ B s .none (.ref l) Af:=⟨RcAt.none_tuple h hu,EqAt.none_tuple h hu,RcNeAt.none_tuple h hu⟩
theorem yV(b:Aj)(h:s.heap.IsTuple l items)(hu:B.units<Cj):CZ B s (.ref l) (.bool b) Af:=⟨RcAt.tuple_bool b h hu,EqAt.tuple_bool b h hu,RcNeAt.tuple_bool b h hu⟩
theorem yG(b:Aj)(h:s.heap.IsTuple l items)(hu:B.units<Cj):CZ B s (.bool b) (.ref l) Af:=⟨RcAt.bool_tuple b h hu,EqAt.bool_tuple b h hu,RcNeAt.bool_tuple b h hu⟩
theorem yU(b:Ag)(u:Ci)(h:s.heap.IsTuple l items)(hu:B.units<Cj):CZ B s (.ref l) (.int b u) Af:=⟨RcAt.tuple_int b u h hu,EqAt.tuple_int b u h hu,RcNeAt.tuple_int b u h hu⟩
theorem yA(b:Ag)(u:Ci)(h:s.heap.IsTuple l items)(hu:B.units<Cj):CZ B s (.int b u) (.ref l) Af:=⟨RcAt.int_tuple b u h hu,EqAt.int_tuple b u h hu,RcNeAt.int_tuple b u h hu⟩
theorem yR(b:Ak)(u:Ci)(h:s.heap.IsTuple l items)(hu:B.units<Cj):CZ B s (.ref l) (.str b u) Af:=⟨RcAt.tuple_str b u h hu,EqAt.tuple_str b u h hu,RcNeAt.tuple_str b u h hu⟩
theorem yW(b:Ak)(u:Ci)(h:s.heap.IsTuple l items)(hu:B.units<Cj):CZ B s (.str b u) (.ref l) Af:=⟨RcAt.str_tuple b u h hu,EqAt.str_tuple b u h hu,RcNeAt.str_tuple b u h hu⟩
theorem xV(h:s.heap.IsList l items)(h2:s.heap.IsTuple b items2)(hu:B.units<Cj):CZ B s (.ref l) (.ref b) Af:=⟨RcAt.list_tuple h h2 hu,EqAt.list_tuple h h2 hu,RcNeAt.list_tuple h h2 hu⟩
theorem yT(h:s.heap.IsTuple l items)(h2:s.heap.IsList b items2)(hu:B.units<Cj):CZ B s (.ref l) (.ref b) Af:=⟨RcAt.tuple_list h h2 hu,EqAt.tuple_list h h2 hu,RcNeAt.tuple_list h h2 hu⟩
end
end
section
variable{X:Cx}{CL:ClA}{W:XW}
theorem Mj(x:PlainL h a its):h.IsList a its:=let ⟨o,n,e,c,_,d⟩:=x;⟨o,e,c,n,d⟩
def bS(X:Cx)(CL:ClA)(H:Hp)(s:Ap)(d:D)(u:Ai):Prop:=match d with
  |.non=>u=.none
  |.bl b=>u=.bool b
  |.int i=>∃ t,u=.int i t
  |.str x=>∃ t,u=.str x t
  |.tup ds=>∃ a xs its,u=.ref a/\Reps X.K CL H A0 xs ds/\Bb xs its/\s.heap.IsTuple a its.toArray
  |.lst ds=>∃ a xs its,u=.ref a/\Reps X.K CL H A0 xs ds/\Bb xs its/\s.heap.IsList a its.toArray
  |_=>Ba
theorem Vh(I:Inv X pins Z H s)(hd:flD n d=Aa)(r:Rep X.K CL H A0 v d)(q:BM v u):bS X CL H s d u:=by
 cases d with
 |non=>cases r;exact q
 |bl b=>cases r;exact q
 |int b=>cases r;exact q
 |str b=>cases r;exact q
 |tup ds=>
  obtain⟨a,xs,rfl,_,sq,r⟩:=r;obtain⟨its,rv,p,_⟩:=I.tuple sq;cases q;exact⟨a,xs,its,rfl,r,rv,p⟩
 |lst ds=>
  obtain⟨a,xs,rfl,_,sq,r⟩:=r;obtain⟨its,rv,p,_⟩:=I.list sq;cases q;exact⟨a,xs,its,rfl,r,rv,Mj p⟩
 |obj=>cases n<;>cases hd
 |exc=>cases n<;>cases hd
 |dic=>cases n<;>cases hd
theorem nZ{B:AV}{its:Ac Ai}{ds es:Ac D}(hl:s.heap.IsList l its.toArray)(hb:s.heap.IsList b its2.toArray)(e1:its.length=ds.length)(e2:its2.length=es.length)(hu:B.units<Cj)(hs:l=b->eqDs ds es=Aa)(he:∀ j (h1:j<its.length) (h2:j<its2.length),G8 B.in1 s its[j] its2[j] (eqD (ds.getD j .non) (es.getD j .non))):CZ B s (.ref l) (.ref b) (eqDs ds es):=by
 have rc:LA B s (.ref l) (.ref b) (eqDs ds es):=by
  by_cases hz:its.length=its2.length
  .have q:=SeqAt.RcAt.lists (e:=λj=>eqD (ds.getD j .non) (es.getD j .non)) hl hb (by simpa using hz) hu (λj h1 h2=>by simpa using he j (by simpa using h1) (by simpa using h2))
   rw[Na (by omega)]
   have e:its.toArray.size=ds.length:=by simpa using e1
   rw[e]at q;exact q
  .rw[M9 (by omega)]
   exact SeqAt.RcAt.lists_lengths hl hb (by simpa using hz) hu
 have ne:Kr B s (.ref l) (.ref b) (!eqDs ds es):=by
  by_cases hz:its.length=its2.length
  .have q:=SeqAt.RcNeAt.lists (e:=λj=>eqD (ds.getD j .non) (es.getD j .non)) hl hb (by simpa using hz) hu (λj h1 h2=>by simpa using he j (by simpa using h1) (by simpa using h2))
   rw[Na (by omega)]
   have e:its.toArray.size=ds.length:=by simpa using e1
   rw[e]at q;exact q
  .rw[M9 (by omega)]
   exact SeqAt.RcNeAt.lists_lengths hl hb (by simpa using hz) hu
 refine⟨rc,?_,ne⟩;by_cases hlb:l=b
 .rw[hs hlb,hlb];exact ZS _
 .exact ZR hlb rc
theorem nY{B:AV}{its:Ac Ai}{ds es:Ac D}(hl:s.heap.IsTuple l its.toArray)(hb:s.heap.IsTuple b its2.toArray)(e1:its.length=ds.length)(e2:its2.length=es.length)(hu:B.units<Cj)(hs:l=b->eqDs ds es=Aa)(he:∀ j (h1:j<its.length) (h2:j<its2.length),G8 B.in1 s its[j] its2[j] (eqD (ds.getD j .non) (es.getD j .non))):CZ B s (.ref l) (.ref b) (eqDs ds es):=by
 have rc:LA B s (.ref l) (.ref b) (eqDs ds es):=by
  have q:=SeqAt.RcAt.tuples (e:=λj=>eqD (ds.getD j .non) (es.getD j .non)) hl hb hu (λj h1 h2=>by simpa using he j (by simpa using h1) (by simpa using h2))
  have e:its.toArray.size=ds.length:=by simpa using e1
  have e':its2.toArray.size=es.length:=by simpa using e2
  rw[e,e']at q;by_cases hz:ds.length=es.length
  .rw[Na hz];rw[hz,Yx,CM,HL]at q;rw[hz];exact q
  .rw[M9 hz];rw[E7.mpr hz,Gd]at q;exact q
 have ne:Kr B s (.ref l) (.ref b) (!eqDs ds es):=by
  have q:=SeqAt.RcNeAt.tuples (e:=λj=>eqD (ds.getD j .non) (es.getD j .non)) hl hb hu (λj h1 h2=>by simpa using he j (by simpa using h1) (by simpa using h2))
  have e:its.toArray.size=ds.length:=by simpa using e1
  have e':its2.toArray.size=es.length:=by simpa using e2
  rw[e,e']at q;by_cases hz:ds.length=es.length
  .rw[Na hz];rw[hz,Yx,CM,HL]at q;rw[hz];exact q
  .rw[M9 hz];rw[E7.mpr hz,Gd]at q;exact q
 refine⟨rc,?_,ne⟩;by_cases hlb:l=b
 .rw[hs hlb,hlb];exact ZS _
 .exact ZR hlb rc
theorem Nq{pins:Pn}{Z:L2.St}{H:Hp}{s:Ap}(I:Inv X pins Z H s):∀(n:Ae)(d e:D)(v w':V)(u t:Ai)(B:AV),flD n d=Aa->flD n e=Aa->Rep X.K CL H A0 v d->Rep X.K CL H A0 w' e->BM v u->BM w' t->B.units+n<Cj->CZ B s u t (eqD d e)
  |n,d,e,v,w',u,t,B,hd,he,r,q,rv,rw',hu=>by
    have hu0:B.units<Cj:=by omega
    have sd:=Vh I hd r rv;have se:=Vh I he q rw'
    match d,e,sd,se with
    |.non,.non,s1,s2=>cases s1;cases s2;exact xR
    |.non,.bl b,s1,s2=>cases s1;cases s2;exact xU b
    |.non,.int b,s1,s2=>cases s1;obtain⟨_,rfl⟩:=s2;exact xT b _
    |.non,.str b,s1,s2=>cases s1;obtain⟨_,rfl⟩:=s2;exact xQ b _
    |.non,.tup es,s1,s2=>cases s1;obtain⟨_,_,_,rfl,_,_,p⟩:=s2;exact zC p hu0
    |.non,.lst es,s1,s2=>cases s1;obtain⟨_,_,_,rfl,_,_,p⟩:=s2;exact xS p hu0
    |.bl a,.non,s1,s2=>cases s1;cases s2;exact yI a
    |.bl a,.bl b,s1,s2=>cases s1;cases s2;exact yL a b
    |.bl a,.int b,s1,s2=>cases s1;obtain⟨_,rfl⟩:=s2;exact yK a b _
    |.bl a,.str b,s1,s2=>cases s1;obtain⟨_,rfl⟩:=s2;exact yH a b _
    |.bl a,.tup es,s1,s2=>cases s1;obtain⟨_,_,_,rfl,_,_,p⟩:=s2;exact yG a p hu0
    |.bl a,.lst es,s1,s2=>cases s1;obtain⟨_,_,_,rfl,_,_,p⟩:=s2;exact yJ a p hu0
    |.int a,.non,s1,s2=>obtain⟨_,rfl⟩:=s1;cases s2;exact yC a _
    |.int a,.bl b,s1,s2=>obtain⟨_,rfl⟩:=s1;cases s2;exact yF b a _
    |.int a,.int b,s1,s2=>obtain⟨_,rfl⟩:=s1;obtain⟨_,rfl⟩:=s2;exact yE a _ b _
    |.int a,.str b,s1,s2=>obtain⟨_,rfl⟩:=s1;obtain⟨_,rfl⟩:=s2;exact yB a _ b _
    |.int a,.tup es,s1,s2=>obtain⟨_,rfl⟩:=s1;obtain⟨_,_,_,rfl,_,_,p⟩:=s2;exact yA a _ p hu0
    |.int a,.lst es,s1,s2=>obtain⟨_,rfl⟩:=s1;obtain⟨_,_,_,rfl,_,_,p⟩:=s2;exact yD a _ p hu0
    |.str a,.non,s1,s2=>obtain⟨_,rfl⟩:=s1;cases s2;exact yY a _
    |.str a,.bl b,s1,s2=>obtain⟨_,rfl⟩:=s1;cases s2;exact zB b a _
    |.str a,.int b,s1,s2=>obtain⟨_,rfl⟩:=s1;obtain⟨_,rfl⟩:=s2;exact zA a _ b _
    |.str a,.str b,s1,s2=>obtain⟨_,rfl⟩:=s1;obtain⟨_,rfl⟩:=s2;exact yX a _ b _
    |.str a,.tup es,s1,s2=>obtain⟨_,rfl⟩:=s1;obtain⟨_,_,_,rfl,_,_,p⟩:=s2;exact yW a _ p hu0
    |.str a,.lst es,s1,s2=>obtain⟨_,rfl⟩:=s1;obtain⟨_,_,_,rfl,_,_,p⟩:=s2;exact yZ a _ p hu0
    |.tup ds,.non,s1,s2=>cases s2;obtain⟨_,_,_,rfl,_,_,p⟩:=s1;exact yS p hu0
    |.tup ds,.bl b,s1,s2=>cases s2;obtain⟨_,_,_,rfl,_,_,p⟩:=s1;exact yV b p hu0
    |.tup ds,.int b,s1,s2=>obtain⟨_,rfl⟩:=s2;obtain⟨_,_,_,rfl,_,_,p⟩:=s1;exact yU b _ p hu0
    |.tup ds,.str b,s1,s2=>obtain⟨_,rfl⟩:=s2;obtain⟨_,_,_,rfl,_,_,p⟩:=s1;exact yR b _ p hu0
    |.tup ds,.lst es,s1,s2=>obtain⟨_,_,_,rfl,_,_,p⟩:=s1;obtain⟨_,_,_,rfl,_,_,p2⟩:=s2;exact yT p p2 hu0
    |.lst ds,.non,s1,s2=>cases s2;obtain⟨_,_,_,rfl,_,_,p⟩:=s1;exact xX p hu0
    |.lst ds,.bl b,s1,s2=>cases s2;obtain⟨_,_,_,rfl,_,_,p⟩:=s1;exact xZ b p hu0
    |.lst ds,.int b,s1,s2=>obtain⟨_,rfl⟩:=s2;obtain⟨_,_,_,rfl,_,_,p⟩:=s1;exact xY b _ p hu0
    |.lst ds,.str b,s1,s2=>obtain⟨_,rfl⟩:=s2;obtain⟨_,_,_,rfl,_,_,p⟩:=s1;exact xW b _ p hu0
    |.lst ds,.tup es,s1,s2=>obtain⟨_,_,_,rfl,_,_,p⟩:=s1;obtain⟨_,_,_,rfl,_,_,p2⟩:=s2;exact xV p p2 hu0
    |.tup ds,.tup es,s1,s2=>
      match n,hd,he,hu with
      |n+1,hd,he,hu=>
        obtain⟨a,xs,its,rfl,r1,v1,p1⟩:=s1;obtain⟨b,ys,its2,rfl,r2,v2,p2⟩:=s2;have l1:=v1.length;have l2:=r1.length;have l3:=v2.length;have l4:=r2.length
        refine nY p1 p2 (by omega) (by omega) hu0 (λhab=>?_) λj h1 h2=>?_
        · have e1:v=.ref a:=BM.inj rv rfl;have e2:w'=.ref b:=BM.inj rw' rfl;subst e1 e2 hab;have z:=Og I (n+1) _ _ hd he r q
          injection z with z
          rw[z];exact eqDs_refl n es he
        · obtain⟨x,rx,qx⟩:=Lo r1 v1 h1;obtain⟨y,ry,qy⟩:=Lo r2 v2 h2;exact(Nq I n _ _ x y _ _ B.in1 (Lf hd j) (Lf he j) rx ry qx qy (by show B.units+1+n<Cj;omega)).2.1
    |.lst ds,.lst es,s1,s2=>
      match n,hd,he,hu with
      |n+1,hd,he,hu=>
        obtain⟨a,xs,its,rfl,r1,v1,p1⟩:=s1;obtain⟨b,ys,its2,rfl,r2,v2,p2⟩:=s2;have l1:=v1.length;have l2:=r1.length;have l3:=v2.length;have l4:=r2.length
        refine nZ p1 p2 (by omega) (by omega) hu0 (λhab=>?_) λj h1 h2=>?_
        · have e1:v=.ref a:=BM.inj rv rfl;have e2:w'=.ref b:=BM.inj rw' rfl;subst e1 e2 hab;have z:=Og I (n+1) _ _ hd he r q
          injection z with z
          rw[z];exact eqDs_refl n es he
        · obtain⟨x,rx,qx⟩:=Lo r1 v1 h1;obtain⟨y,ry,qy⟩:=Lo r2 v2 h2;exact(Nq I n _ _ x y _ _ B.in1 (Lf hd j) (Lf he j) rx ry qx qy (by show B.units+1+n<Cj;omega)).2.1
    |.obj _ _,_,s1,_=>exact s1.elim
    |.exc _ _,_,s1,_=>exact s1.elim
    |.dic _,_,s1,_=>exact s1.elim
    |_,.obj _ _,_,s2=>exact s2.elim
    |_,.exc _ _,_,s2=>exact s2.elim
    |_,.dic _,_,s2=>exact s2.elim
end
section
variable{X:Cx}{CL:ClA}{W:XW}
theorem Ot(I:Inv X pins Z H s){ds:Ac D}{its:Ac Ai}(B:AV)(hd:flD n d=Aa)(hs:ds.all (flD n)=Aa)(r:Reps X.K CL H A0 xs ds)(rv:Bb xs its)(q:Rep X.K CL H A0 v d)(qv:BM v u)(hu:B.units+n<Cj):∃ e:Ai->Aj,(∀ y,y∈its.toArray->G8 B s y u (e y))/\its.toArray.any e=ds.any λy=>eqD y d:=by
 have l1:=rv.length;have l2:=r.length
 have key:∀ y,y∈its->∃ k:Aj,G8 B s y u k/\∀ j (h:j<its.length),its[j]=y->eqD (ds.getD j .non) d=k:=λy hy=>by
  obtain⟨j,hj,rfl⟩:=Cp hy;obtain⟨x,rx,qx⟩:=Lo r rv hj;refine⟨eqD (ds.getD j .non) d,(Nq I n _ _ x v _ _ B (Lf hs j) hd rx q qx qv hu).2.1,λj' hj' e=>?_⟩
  obtain⟨x',rx',qx'⟩:=Lo r rv hj';rw[e]at qx';have z:=BM.inj qx qx';subst z;rw[Og I n _ _ (Lf hs j') (Lf hs j) rx' rx]
 have key2:∀ y,∃ k:Aj,y∈its->G8 B s y u k/\∀ j (h:j<its.length),its[j]=y->eqD (ds.getD j .non) d=k:=λy=>by
  by_cases hy:y∈its
  .obtain⟨k,hk⟩:=key y hy;exact⟨k,λ_=>hk⟩
  .exact⟨Aa,λh=>absurd h hy⟩
 refine⟨λy=>XD (key2 y),λy hy=>(Fs (key2 y) (by simpa using hy)).1,?_⟩
 rw[Fh];simp only[List.any_toArray,C6];constructor
 .rintro⟨y,hy,hk⟩;obtain⟨j,hj,rfl⟩:=Cp hy;have z:=(Fs (key2 its[j]) hy).2 j hj rfl;rw[hk]at z;refine⟨ds.getD j .non,?_,z⟩;rw[A8,AC (by omega)]
  exact C8 _
 .rintro⟨y,hy,hk⟩;obtain⟨j,hj,rfl⟩:=Cp hy;have hj':j<its.length:=by omega
  refine⟨its[j],C8 _,?_⟩;have z:=(Fs (key2 its[j]) (C8 _)).2 j hj' rfl;rw[<-z,A8,AC hj];exact hk
theorem N7{g:Ag->Ag->Aj}(ho:OpR X (Dd op) (rI0 λi j=>.bl (g i j)))(hg:∀ dx dy,(∃ i j,dx=.int i/\dy=.int j/\Cf op dx dy=.ok (.bl (g i j)))\/Cf op dx dy=.bad):OpD X CL W (Dd op) (Cf op):=by
 intro A pins s Z H x y v u Q I rx ry ⟨hA,dx,dy,hx,hy,p⟩;rcases hg dx dy with ⟨i,j,rfl,rfl,e⟩|e
 .have ex:=hx.int_of;have ey:=hy.int_of
  subst ex ey;rw[e]at p;exact ho pins s Z H _ _ v u Q I rx ry ⟨i,j,rfl,rfl,p _ H (AN.refl H) rfl⟩
 .rw[e]at p;exact p.elim
theorem VB{x:V}(h:CY X.K CL H A x d)(hd:d≠.non):x≠.non:=by
 rintro rfl;have h:=h.plain;cases d with
 |non=>exact hd rfl
 |tup=>obtain⟨_,_,e,_⟩:=h;cases e
 |lst=>obtain⟨_,_,e,_⟩:=h;cases e
 |obj=>obtain⟨_,_,_,_,e,_⟩:=h;cases e
 |exc=>obtain⟨_,_,_,e,_⟩:=h;cases e
 |dic=>exact h.elim
 |_=>cases h
theorem Od(hu:X.A.units+64<Cj)(op:DW):OpD X CL W (Dd op) (Cf op):=by
 cases op with
 |Eq=>
  intro A pins s Z H x y v u Q I rx ry ⟨hA,dx,dy,hx,hy,p⟩;rw[bj]at p;split at p
  .rename_i h;simp only[Am]at h;exact(Nq I 5 dx dy x y v u X.A h.1 h.2 hx.plain hy.plain rx ry (by omega)).1 X.prog X.w X.xe _ ⟨.bl _,H,I,rfl,p _ H (AN.refl H) rfl⟩
  .exact p.elim
 |NotEq=>
  intro A pins s Z H x y v u Q I rx ry ⟨hA,dx,dy,hx,hy,p⟩;rw[ah]at p;split at p
  .rename_i h;simp only[Am]at h;exact(Nq I 5 dx dy x y v u X.A h.1 h.2 hx.plain hy.plain rx ry (by omega)).2.2 X.prog X.w X.xe _ ⟨.bl _,H,I,rfl,p _ H (AN.refl H) rfl⟩
  .exact p.elim
 |Lt=>
  refine N7 zS λdx dy=>?_
  cases dx with
  |int i=>
   cases dy with
   |int j=>exact .inl ⟨i,j,rfl,rfl,rfl⟩
   |_=>exact .inr rfl
  |_=>exact .inr rfl
 |LtE=>
  refine N7 zT λdx dy=>?_
  cases dx with
  |int i=>
   cases dy with
   |int j=>exact .inl ⟨i,j,rfl,rfl,rfl⟩
   |_=>exact .inr rfl
  |_=>exact .inr rfl
 |Gt=>
  refine N7 zU λdx dy=>?_
  cases dx with
  |int i=>
   cases dy with
   |int j=>exact .inl ⟨i,j,rfl,rfl,rfl⟩
   |_=>exact .inr rfl
  |_=>exact .inr rfl
 |GtE=>
  refine N7 zV λdx dy=>?_
  cases dx with
  |int i=>
   cases dy with
   |int j=>exact .inl ⟨i,j,rfl,rfl,rfl⟩
   |_=>exact .inr rfl
  |_=>exact .inr rfl
 |In=>
  intro A pins s Z H x y v u Q I rx ry ⟨hA,dx,dy,hx,hy,p⟩;cases dy with
  |lst es=>
   rw[cC]at p;split at p
   .rename_i h;simp only[Am]at h;obtain⟨a,xs,e,_,sq,r⟩:=hy.plain;subst e;cases ry;obtain⟨its,rv,pl,_⟩:=I.list sq;obtain⟨e,he,ha⟩:=Ot I (n:=5) X.A.in1 h.1 h.2 r rv hx.plain rx (by show X.A.units+1+5<Cj;omega)
    refine SeqAt.in_listAt e (Mj pl) he ?_;rw[ha];exact⟨.bl _,H,I,rfl,p _ H (AN.refl H) rfl⟩
   .exact p.elim
  |tup es=>
   rw[cB]at p;split at p
   .rename_i h;simp only[Am]at h;obtain⟨a,xs,e,_,sq,r⟩:=hy.plain;subst e;cases ry;obtain⟨its,rv,pl,_⟩:=I.tuple sq;obtain⟨e,he,ha⟩:=Ot I (n:=5) X.A.in1 h.1 h.2 r rv hx.plain rx (by show X.A.units+1+5<Cj;omega)
    refine SeqAt.in_tupleAt e pl he ?_;rw[ha];exact⟨.bl _,H,I,rfl,p _ H (AN.refl H) rfl⟩
   .exact p.elim
  |dic kvs=>exact hy.plain.elim
  |_=>exact p.elim
 |NotIn=>
  intro A pins s Z H x y v u Q I rx ry ⟨hA,dx,dy,hx,hy,p⟩;cases dy with
  |lst es=>
   rw[af]at p;split at p
   .rename_i h;simp only[Am]at h;obtain⟨a,xs,e,_,sq,r⟩:=hy.plain;subst e;cases ry;obtain⟨its,rv,pl,_⟩:=I.list sq;obtain⟨e,he,ha⟩:=Ot I (n:=5) X.A.in1 h.1 h.2 r rv hx.plain rx (by show X.A.units+1+5<Cj;omega)
    refine SeqAt.notIn_listAt e (Mj pl) he ?_;rw[ha];exact⟨.bl _,H,I,rfl,p _ H (AN.refl H) rfl⟩
   .exact p.elim
  |tup es=>
   rw[aa]at p;split at p
   .rename_i h;simp only[Am]at h;obtain⟨a,xs,e,_,sq,r⟩:=hy.plain;subst e;cases ry;obtain⟨its,rv,pl,_⟩:=I.tuple sq;obtain⟨e,he,ha⟩:=Ot I (n:=5) X.A.in1 h.1 h.2 r rv hx.plain rx (by show X.A.units+1+5<Cj;omega)
    refine SeqAt.notIn_tupleAt e pl he ?_;rw[ha];exact⟨.bl _,H,I,rfl,p _ H (AN.refl H) rfl⟩
   .exact p.elim
  |str j=>
   cases dx with
   |str i=>exact dR pins s Z H x y v u _ I rx ry ⟨i,j,hx.plain,hy.plain,p _ H (AN.refl H) rfl⟩
   |_=>exact p.elim
  |_=>exact p.elim
 |Is=>
  intro A pins s Z H x y v u Q I rx ry ⟨hA,dx,dy,hx,hy,p⟩;cases dy with
  |non=>
   have ey:=hy.non_of;subst ey;refine vD pins s Z H _ _ v u Q I rx ry ⟨rfl,?_⟩;cases dx with
   |non=>
    have ex:=hx.non_of;subst ex;exact p _ H (AN.refl H) rfl
   |exc=>exact p.elim
   |dic=>exact p.elim
   |_=>rw[BD (VB hx (by simp))];exact p _ H (AN.refl H) rfl
  |bl b=>
   cases dx with
   |bl a=>
    have ey:=hy.bl_of;have ex:=hx.bl_of;subst ex ey;cases rx;cases ry;refine wpAny_is_plain rfl ⟨.bl (a==b),H,I,?_,p _ H (AN.refl H) rfl⟩;cases a<;>cases b<;>rfl
   |_=>exact p.elim
  |_=>cases dx<;>exact p.elim
 |IsNot=>
  intro A pins s Z H x y v u Q I rx ry ⟨hA,dx,dy,hx,hy,p⟩;cases dy with
  |non=>
   have ey:=hy.non_of;subst ey;refine nK pins s Z H _ _ v u Q I rx ry ⟨rfl,?_⟩;cases dx with
   |non=>
    have ex:=hx.non_of;subst ex;exact p _ H (AN.refl H) rfl
   |exc=>exact p.elim
   |dic=>exact p.elim
   |_=>rw[BD (VB hx (by simp))];exact p _ H (AN.refl H) rfl
  |bl b=>
   cases dx with
   |bl a=>
    have ey:=hy.bl_of;have ex:=hx.bl_of;subst ex ey;cases rx;cases ry;refine wpAny_isNot_plain rfl ⟨.bl (!(a==b)),H,I,?_,p _ H (AN.refl H) rfl⟩;cases a<;>cases b<;>rfl
   |_=>exact p.elim
  |_=>cases dx<;>exact p.elim
end
section
variable{X:Cx}{CL:ClA}{W:XW}{a b c:An}{fa fb fc:Rho->R D}{pos:AY}
theorem Bg.bindB{r:R Aj}{f:Aj->R D}{Q':Aj->Hp->Prop}(h:Bg Rp W H (r.bind f) Q)(k:∀ b H',r=.ok b->AN H H'->Bg Rp W H' (f b) Q->Q' b H'):DF W H r Q':=by
 cases r with
 |ok d=>exact λH2 s2=>k d H2 rfl s2 (Bg.same s2 h)
 |exn x=>exact h
 |bad=>exact h
theorem DF.bind{f:D->R Aj}{Q:Aj->Hp->Prop}{Q':VK}(h:DF W H (r.bind f) Q)(k:∀ d v H',r=.ok d->AN H H'->Rp H' v d->DF W H' (f d) Q->Q' v H'):Bg Rp W H r Q':=by
 cases r with
 |ok d=>exact λv H2 s2 q=>k d v H2 rfl s2 q (DF.same s2 h)
 |exn x=>exact h
 |bad=>exact h
theorem DF.bindB{r:R Aj}{f:Aj->R Aj}{Q:Aj->Hp->Prop}{Q':Aj->Hp->Prop}(h:DF W H (r.bind f) Q)(k:∀ b H',r=.ok b->AN H H'->DF W H' (f b) Q->Q' b H'):DF W H r Q':=by
 cases r with
 |ok d=>exact λH2 s2=>k d H2 rfl s2 (DF.same s2 h)
 |exn x=>exact h
 |bad=>exact h
theorem HX.bind{Rp:Hp->Ac V->Ac D->Prop}{r:R (Ac D)}{f:Ac D->R D}{Q':Ac V->Hp->Prop}(h:Bg Rq W H (r.bind f) Q)(k:∀ d v H',r=.ok d->AN H H'->Rp H' v d->Bg Rq W H' (f d) Q->Q' v H'):HX Rp W H r Q':=by
 cases r with
 |ok d=>exact λv H2 s2 q=>k d v H2 rfl s2 q (Bg.same s2 h)
 |exn x=>exact h
 |bad=>exact h
theorem tT(ha:ST X CL W a fa):SE X CL W (.UnaryOp .USub a pos) (λU=>(fa U).bind λx=>unD .USub x):=λA=>PE.weak (xN rD (ha A)) λZ H Q ⟨hA,U,g,p⟩=>⟨hA,U,g,Bg.bind p λd v H1 _ s1 r1 p1=>by
 cases d with
 |int i=>
  have e:=r1.int_of;subst e;exact⟨i,rfl,p1 _ H1 (AN.refl H1) rfl⟩
 | _=>exact p1.elim⟩
theorem Qk{f:Aj->R D}(h:Bg Rq W H ((EJ d).bind f) Q):∃ c,d=.bl c/\Bg Rq W H (f c) Q:=by
 cases d with
 |bl c=>exact⟨c,rfl,h⟩
 |_=>exact h.elim
theorem VR(ha:ST X CL W a fa):SE X CL W (.UnaryOp .Not a pos) (λU=>(fa U).bind λx=>(EJ x).bind λb=>.ok (.bl (!b))):=λA=>PE.weak (sB (ha A)) λZ H Q ⟨hA,U,g,p⟩=>⟨hA,U,g,Bg.bind p λd v H1 _ s1 r1 p1=>by
 obtain⟨c,rfl,p2⟩:=Qk p1;exact⟨c,r1.bl_of,p2 _ H1 (AN.refl H1) rfl⟩⟩
theorem Q6{op}(ha:SE X CL W a fa):SE X CL W (.BoolOp op [a] pos) fa:=λA=>sA (ha A)
theorem VT{rest:Ac An}(ha:SE X CL W a fa)(hb:SE X CL W (.BoolOp .And (b::rest) pos) fb):SE X CL W (.BoolOp .And (a::b::rest) pos) (λU=>(fa U).bind λx=>(EJ x).bind λc=>if c=Aa then fb U else .ok (.bl Af)):=
 λA=>PE.weak (uW (ha A) (hb A)) λZ H Q ⟨hA,U,g,p⟩=>⟨hA,U,g,Bg.bind p λd v H1 _ s1 r1 p1=>by
  obtain⟨c,rfl,p2⟩:=Qk p1;refine⟨c,r1,?_⟩;cases c with
  |true=>exact⟨hA.same s1,U,g.same s1,p2⟩
  | false=>exact p2 _ H1 (AN.refl H1) rfl⟩
theorem yP{rest:Ac An}(ha:SE X CL W a fa)(hb:SE X CL W (.BoolOp .Or (b::rest) pos) fb):SE X CL W (.BoolOp .Or (a::b::rest) pos) (λU=>(fa U).bind λx=>(EJ x).bind λc=>if c=Aa then .ok (.bl Aa) else fb U):=
 λA=>PE.weak (xO (ha A) (hb A)) λZ H Q ⟨hA,U,g,p⟩=>⟨hA,U,g,Bg.bind p λd v H1 _ s1 r1 p1=>by
  obtain⟨c,rfl,p2⟩:=Qk p1;refine⟨c,r1,?_⟩;cases c with
  |false=>exact⟨hA.same s1,U,g.same s1,p2⟩
  | true=>exact p2 _ H1 (AN.refl H1) rfl⟩
theorem tU{fb':Rho->R Aj}(hc:SB X CL W c fb')(ha:SE X CL W a fa)(hb:SE X CL W b fb):SE X CL W (.IfExp c a b pos) (λU=>(fb' U).bind λk=>if k=Aa then fa U else fb U):=
 λA=>PE.weak (kC (hc A) (ha A) (hb A)) λZ H Q ⟨hA,U,g,p⟩=>⟨hA,U,g,Bg.bindB p λk H1 _ s1 p1=>by
  cases k with
  |true=>exact⟨hA.same s1,U,g.same s1,p1⟩
  | false=>exact⟨hA.same s1,U,g.same s1,p1⟩⟩
theorem Vv{xs:Ac D}{i:Ag}(h:FE xs i=.ok d):∃ k,plD xs.length i=Ab k/\xs[k]?=Ab d:=by
 unfold FE at h;split at h
 .rename_i k e;split at h
  .rename_i d' e';cases h;exact⟨k,e,e'⟩
  .cases h
 .cases h
theorem Mb{xs:Ac D}{i:Ag}{x:Ex}(h:FE xs i=.exn x):Ba:=by
 unfold FE at h;split at h
 .split at h<;>cases h
 .cases h
theorem Vo{ds:Ac D}{i:Ag}(r:Reps K CL H A xs ds)(h:FE ds i=.ok d):∃ v,atI xs i=Ab v/\Rep K CL H A v d:=by
 obtain⟨k,e,q⟩:=Vv h;obtain⟨v,hv,rv⟩:=r.get q;refine⟨v,?_,rv⟩;unfold atI;have:ixN xs.length i=Ab k:=by rw[r.length];exact e
 rw[this];exact hv
theorem oZ{z:Ak}{i:Ag}(h:FE (Mz z) i=.ok d):∃ c,atI z.cps.toList i=Ab c/\d=.str ⟨#[c]⟩:=by
 obtain⟨k,e,q⟩:=Vv h;unfold Mz at e q;rw[AF]at e;rw[BC]at q;cases hc:z.cps.toList[k]? with
 |none=>rw[hc]at q;cases q
 |some c=>
  rw[hc]at q;refine⟨c,?_,(Bf q).symm⟩;unfold atI;have:ixN z.cps.toList.length i=Ab k:=e;rw[this];exact hc
theorem eZ(h:BY n=Aa):n<=sizeLine:=by
 unfold BY at h;have:=Fw h;rw[Bv];omega
theorem sF(hs:QF b)(ha:ST X CL W a fa)(hb:ST X CL W b fb):SE X CL W (.Subscript a b pos) (λU=>(fa U).bind λx=>(fb U).bind λy=>J6 x y):=
 λA=>PE.weak (xP (r:=rIx X.K) uJ (ha A) (hb A) hs) λZ H Q h=>by
  obtain⟨hA,U,g,h⟩:=op2 h;refine⟨hA,U,g,?_⟩;cases e:fa U with
  |bad=>rw[e]at h;exact h
  |exn x=>rw[e]at h;exact h
  |ok dx0=>
   rw[e]at h;intro x H1 s1 r1;obtain⟨hA1,U1,g1,h1⟩:=h x H1 s1 r1;refine⟨hA1,U1,g1,?_⟩;cases e1:fb U1 with
   |bad=>rw[e1]at h1;exact h1
   |exn x=>rw[e1]at h1;exact h1
   |ok dy0=>
    rw[e1]at h1;intro y H2 s2 r2;obtain⟨hA2,dx,dy,rx,ry,p⟩:=h1 y H2 s2 r2;cases dy with
    |int i=>
     have ey:=ry.int_of;subst ey;cases dx with
     |lst ds=>
      obtain⟨q,xs,rfl,sq,r⟩:=rx.lst_of;rw[zK]at p;cases e2:FE ds i with
      |ok d=>
       rw[e2]at p;obtain⟨v,hv,rv⟩:=Vo r e2;exact .inl ⟨q,xs,i,v,rfl,rfl,sq,hv,p v H2 (AN.refl H2) rv⟩
      |exn x=>exact(Mb e2).elim
      |bad=>rw[e2]at p;exact p.elim
     |tup ds=>
      obtain⟨q,xs,rfl,_,sq,r⟩:=rx.tup_of;rw[zJ]at p;cases e2:FE ds i with
      |ok d=>
       rw[e2]at p;obtain⟨v,hv,rv⟩:=Vo r e2;exact .inr (.inl ⟨q,xs,i,v,rfl,rfl,sq,hv,p v H2 (AN.refl H2) rv⟩)
      |exn x=>exact(Mb e2).elim
      |bad=>rw[e2]at p;exact p.elim
     |str z=>
      have ex:=rx.str_of;subst ex;have p':Bg (λH=>Rep X.K CL H A) W H2 (if BY z.length=Aa then FE (Mz z) i else .bad) Q:=p
      split at p'
      .rename_i hz;cases e2:FE (Mz z) i with
       |ok d=>
        rw[e2]at p';obtain⟨c,hc,rfl⟩:=oZ e2;exact .inr (.inr ⟨z,i,c,rfl,rfl,eZ hz,hc,p' _ H2 (AN.refl H2) rfl⟩)
       |exn x=>exact(Mb e2).elim
       |bad=>rw[e2]at p';exact p'.elim
      .exact p'.elim
     |dic=>exact rx.plain.elim
     |_=>exact p.elim
    |_=>cases dx<;>first|exact p.elim|exact rx.plain.elim
theorem VU:SA X CL W [] (λ_=>.ok []):=λA=>PA.weak F7 λZ H Q ⟨hA,U,g,p⟩=>p [] H (AN.refl H) trivial
theorem Vi(ha:SE X CL W a fa)(hs:SA X CL W es fs)(hst:AB (a::es) X.env=(Af,eval a X.env)::AB es X.env):SA X CL W (a::es) (λU=>(fa U).bind λx=>(fs U).bind λxs=>.ok (x::xs)):=
 λA=>PA.weak (EH (ha A) (hs A) hst) λZ H Q ⟨hA,U,g,p⟩=>by
  dsimp only at p;refine⟨hA,U,g,?_⟩;cases e:fa U with
  |bad=>rw[e]at p;exact p
  |exn x=>rw[e]at p;exact p
  |ok d=>
   rw[e]at p;intro v H1 s1 r1;refine⟨hA.same s1,U,g.same s1,?_⟩;cases e1:fs U with
   |bad=>rw[R.bind_ok,e1]at p;exact p
   |exn x=>rw[R.bind_ok,e1]at p;exact λH2 s2=>p H2 (s1.trans s2)
   |ok ds=>
    rw[R.bind_ok,e1]at p;exact λvs H2 s2 r2=>p (v::vs) H2 (s1.trans s2) ⟨r1.same s2,r2⟩
theorem VQ(hs:SA X CL W es fs)(hz:∀ U ds,fs U=.ok ds->ds.length<=100000):SE X CL W (.Tuple es k pos) (λU=>(fs U).bind λxs=>.ok (.tup xs)):=
 λA=>PE.weak (V0 (hs A)) λZ H Q ⟨hA,U,g,p⟩=>⟨hA,U,g,HX.bind p λds vs H1 e s1 r1 p1=>⟨by
  rw[r1.length,Bv];have:=hz U ds e;omega,λq hq=>p1 _ _ (GR hq _) (Nf (hA.same s1) hq r1)⟩⟩
def NB(W:XW)(H:Hp)(r:R (Ao Ag))(Q:Ao Ag->Hp->Prop):Prop:=match r with
  |.ok o=>∀ H',AN H H'->Q o H'
  |.exn x=>∀ H',AN H H'->W x H'
  |.bad=>Ba
theorem NB.bind{r:R (Ao Ag)}{f:Ao Ag->R D}(h:Bg Rq W H (r.bind f) Q)(k:∀ o H',r=.ok o->AN H H'->Bg Rq W H' (f o) Q->Q' o H'):NB W H r Q':=by
 cases r with
 |ok d=>exact λH2 s2=>k d H2 rfl s2 (Bg.same s2 h)
 |exn x=>exact h
 |bad=>exact h
def SO(X:Cx)(CL:ClA)(W:XW)(e:Ao An)(f:Rho->R (Ao Ag)):Prop:=∀ A,PO X e (λZ H Q=>AOk H A/\∃ U,Good X.K CL A U Z H/\NB W H (f U) Q)
theorem PO.weak{e:Ao An}{t t':TO}(h:PO X e t)(k:∀ Z H Q,t' Z H Q->t Z H Q):PO X e t':=λpins s Z H Q I q=>h pins s Z H Q I (k _ _ _ q)
theorem kU:SO X CL W Ad (λ_=>.ok Ad):=λA=>PO.weak mW λZ H Q ⟨hA,U,g,p⟩=>p H (AN.refl H)
theorem kT(ha:ST X CL W a fa):SO X CL W (Ab a) (λU=>(fa U).bind λd=>(D6 d).bind λi=>.ok (Ab i)):=λA=>PO.weak (oR (ha A)) λZ H Q ⟨hA,U,g,p⟩=>by
 dsimp only at p;refine⟨hA,U,g,?_⟩;cases e:fa U with
 |bad=>rw[e]at p;exact p
 |exn x=>rw[e]at p;exact p
 |ok d=>
  rw[e]at p;intro v H1 s1 r1;cases d with
  |int i=>exact⟨i,r1.int_of,p H1 s1⟩
  |_=>exact p.elim
end
section
variable{X:Cx}{CL:ClA}{W:XW}{a b c:An}{fa fb fc:Rho->R D}{pos:AY}
def GV(K:Fg)(CL:ClA)(H:Hp)(A:Al->Prop):Ac V->Ac D->Prop
 |[],[]=>Jg
 |v::vs,d::ds=>CY K CL H A v d/\GV K CL H A vs ds
 |_,_=>Ba
theorem GV.same{K:Fg}{H H':Hp}{A:Al->Prop}(s:AN H H'):∀{vs:Ac V}{ds:Ac D},GV K CL H A vs ds->GV K CL H' A vs ds
 |[],[],h=>h
 |_::_,_::_,h=>⟨h.1.same s,GV.same s h.2⟩
 |[],_::_,h=>h.elim
 |_::_,[],h=>h.elim
theorem GV.one(h:GV K CL H A vs [d]):∃ v,vs=[v]/\CY K CL H A v d:=by
 cases vs with
 |nil=>exact h.elim
 |cons v vs=>
  cases vs with
  |nil=>exact⟨v,rfl,h.1⟩
  |cons=>exact h.2.elim
theorem GV.two{e:D}(h:GV K CL H A vs [d,e]):∃ v w',vs=[v,w']/\CY K CL H A v d/\CY K CL H A w' e:=by
 cases vs with
 |nil=>exact h.elim
 |cons v vs=>
  cases vs with
  |nil=>exact h.2.elim
  |cons w' vs=>
   cases vs with
   |nil=>exact⟨v,w',rfl,h.1,h.2.1⟩
   |cons=>exact h.2.2.elim
def SAT(X:Cx)(CL:ClA)(W:XW)(es:Ac An)(f:Rho->R (Ac D)):Prop:=∀ A,PA X es (λZ H Q=>AOk H A/\∃ U,Good X.K CL A U Z H/\HX (λH=>GV X.K CL H A) W H (f U) Q)
theorem nW:SAT X CL W [] (λ_=>.ok []):=λA=>PA.weak F7 λZ H Q ⟨hA,U,g,p⟩=>p [] H (AN.refl H) trivial
theorem jR(ha:ST X CL W a fa)(hs:SAT X CL W es fs)(hst:AB (a::es) X.env=(Af,eval a X.env)::AB es X.env):SAT X CL W (a::es) (λU=>(fa U).bind λx=>(fs U).bind λxs=>.ok (x::xs)):=
 λA=>PA.weak (EH (ha A) (hs A) hst) λZ H Q ⟨hA,U,g,p⟩=>by
  dsimp only at p;refine⟨hA,U,g,?_⟩;cases e:fa U with
  |bad=>rw[e]at p;exact p
  |exn x=>rw[e]at p;exact p
  |ok d=>
   rw[e]at p;intro v H1 s1 r1;refine⟨hA.same s1,U,g.same s1,?_⟩;cases e1:fs U with
   |bad=>rw[R.bind_ok,e1]at p;exact p
   |exn x=>rw[R.bind_ok,e1]at p;exact λH2 s2=>p H2 (s1.trans s2)
   |ok ds=>
    rw[R.bind_ok,e1]at p;exact λvs H2 s2 r2=>p (v::vs) H2 (s1.trans s2) ⟨r1.same s2,r2⟩
def Lp(X:Cx)(CL:ClA)(W:XW)(f:Ai)(g:Ac D->R D):Prop:=∀ A,IJ X f (λxs H Q=>AOk H A/\∃ ds,GV X.K CL H A xs ds/\Bg (λH=>Rep X.K CL H A) W H (g ds) Q)
theorem Q8{g:Ac D->R D}(hc:Lp X CL W (.builtin id) g)(hg:Gl X x)(hm:X.mg x=Ad)(hv:Dc x=Ab (.builtin id))(ha:SAT X CL W (e::es) fs)(hn:x≠"__name__")(hdb:(x==("__debug__" : Ak))=Af)(he:AB (e::es) X.env=(Af,eval e X.env)::AB es X.env)(hpl:∀ pos,(Cc pos (AB es X.env)).any (·.1)=Af):SE X CL W (.Call (.Name x p) (e::es) [] pos) (λU=>(fs U).bind g):=λA=>PE.weak (L5 (hc A) hg hm hv (ha A) hn hdb he (hpl _)) λZ H Q ⟨hA,U,gd,q⟩=>⟨hA,U,gd,HX.bind q λds vs H1 _ s1 r1 p1=>⟨hA.same s1,ds,r1,p1⟩⟩
theorem VS{g:Ac D->R D}(hc:Lp X CL W (.type T) g)(hg:Gl X x)(hm:X.mg x=Ad)(hv:Dc x=Ab (.type T))(ha:SAT X CL W (e::es) fs)(hn:x≠"__name__")(hdb:(x==("__debug__" : Ak))=Af)(he:AB (e::es) X.env=(Af,eval e X.env)::AB es X.env)(hpl:∀ pos,(Cc pos (AB es X.env)).any (·.1)=Af):SE X CL W (.Call (.Name x p) (e::es) [] pos) (λU=>(fs U).bind g):=λA=>PE.weak (Tw (hc A) hg hm hv (ha A) hn hdb he (hpl _)) λZ H Q ⟨hA,U,gd,q⟩=>⟨hA,U,gd,HX.bind q λds vs H1 _ s1 r1 p1=>⟨hA.same s1,ds,r1,p1⟩⟩
theorem vQ:Lp X CL W (.builtin "len") (biD .len):=by
  intro A pins s Z H xs us Q I r ⟨hA,ds,rs,p⟩
  match ds,rs,p with
  |[.lst es],rs,p=>
    obtain⟨v,rfl,rv⟩:=rs.one;obtain⟨q,ys,rfl,sq,ry⟩:=rv.lst_of;exact SJ pins s Z H _ us Q I r ⟨q,ys,rfl,.inl sq,p _ H (AN.refl H) (by rw[ry.length];rfl)⟩
  |[.tup es],rs,p=>
    obtain⟨v,rfl,rv⟩:=rs.one;obtain⟨q,ys,rfl,_,sq,ry⟩:=rv.tup_of;exact SJ pins s Z H _ us Q I r ⟨q,ys,rfl,.inr sq,p _ H (AN.refl H) (by rw[ry.length];rfl)⟩
  |[.str x],rs,p=>
    obtain⟨v,rfl,rv⟩:=rs.one;have e:=rv.str_of;subst e;have p':Bg (λH=>Rep X.K CL H A) W H (if BY x.length=Aa then .ok (.int x.length) else .bad) Q:=p
    split at p'
    · rename_i h;exact eE pins s Z H _ us Q I r ⟨x,rfl,JU h,p' _ H (AN.refl H) rfl⟩
    · exact p'.elim
  |[],_,p=>exact p.elim
  |[.non],_,p=>exact p.elim
  |[.bl _],_,p=>exact p.elim
  |[.int _],_,p=>exact p.elim
  |[.obj _ _],_,p=>exact p.elim
  |[.exc _ _],_,p=>exact p.elim
  |[.dic _],rs,p=>first|exact p.elim|(obtain⟨v,rfl,rv⟩:=rs.one;exact rv.plain.elim)
  |x::_::_,_,p=>cases x<;>exact p.elim
theorem Tb:∀(is:Ac Ag)(i:Ag),Js i is∈i::is/\∀ a∈i::is,Js i is<=a
 |[],i=>⟨AM,λa h=>by rw[A6]at h;rw[h];exact Int.le_refl _⟩
 |j::r,i=>by
  obtain⟨h1,h2⟩:=Tb r (if j<i then j else i)
  refine⟨?_,λa h=>?_⟩
  .show Js (if j<i then j else i) r∈_
   rcases AJ.mp h1 with e|e
   .rw[e];split
    .exact AG _ AM
    .exact AM
   .exact AG _ (AG _ e)
  .show Js (if j<i then j else i) r<=a
   have h0:=h2 _ AM;rcases AJ.mp h with e|e
   .subst e;refine XH h0 ?_;split<;>omega
   .rcases AJ.mp e with e|e
    .subst e;refine XH h0 ?_;split<;>omega
    .exact h2 a (AG _ e)
theorem SN:∀{is:Ac Ag}{its:Ac Ai},Bb (is.map V.int) its->∃ xs:Au (Ag×Ci),its.toArray=MQ xs/\xs.toList.map (·.1)=is
 |[],_,h=>by cases h;exact⟨#[],by simp[MQ],rfl⟩
 |i::is,_,h=>by
  cases h with
  |cons h1 h2=>
   obtain⟨t,rfl⟩:=h1;obtain⟨xs,e1,e2⟩:=SN h2;refine⟨((i,t)::xs.toList).toArray,?_,?_⟩
   .apply GK.mp
    have e1':=congrArg Kk e1;simp[MQ]at e1' ⊢;exact e1'
   .simp[e2]
theorem gX(hc:X.calm=Aa):IJ X (.builtin "min") (λxs H Q=>∃ a i is,xs=[.ref a]/\SqL X.K H a ((i::is).map V.int)/\Q (.int (Js i is)) H):=by
 intro pins s Z H xs us Q I r h;obtain⟨a,i,is,rfl,sq,q⟩:=h;obtain⟨u,rfl,ru⟩:=J3 r;cases ru;obtain⟨its,rv,pl,hz⟩:=I.list sq;obtain⟨ys,e1,e2⟩:=SN rv;have hsz:0<ys.size:=by
  have:=congrArg FV e2;simp at this;omega
 have hl:=pl.isList;rw[e1]at hl;refine min_intList (I.ok.hd hc) hl hsz λv h' tk hv hk=>?_
 obtain⟨t,rfl⟩:=intItems_at hv;obtain⟨h1,h2⟩:=argBest_lt (JR ys) (ys.size-1);have nm:∀ j,j<ys.size->JR ys j∈i::is:=λj hj=>by
  rw[<-e2];unfold JR;rw[BN hj];simp only[IX,Option.getD_some];exact Br.mpr ⟨ys[j],by simp,rfl⟩
 have nx:∀ x∈i::is,∃ j,j<ys.size/\JR ys j=x:=λx hx=>by
  rw[<-e2]at hx;obtain⟨y,hy,rfl⟩:=Br.mp hx;obtain⟨j,hj,ej⟩:=Xx.mp (EL.mp hy);refine⟨j,hj,?_⟩;unfold JR;rw[BN hj,ej];rfl
 obtain⟨m1,m2⟩:=Tb is i;have em:JR ys (argBest (λi j=>decide (JR ys i<JR ys j)) (ys.size-1))=Js i is:=by
  refine Int.le_antisymm ?_ (m2 _ (nm _ (by omega)))
  obtain⟨j,hj,ej⟩:=nx _ m1;rw[<-ej];exact h2 j (by omega)
 rw[em];exact⟨.int (Js i is),H,I.kept hk,⟨_,rfl⟩,q⟩
theorem Pt{K:Fg}{CL:ClA}{H:Hp}{A:Al->Prop}:∀{es:Ac D}{is:Ac Ag}{ys:Ac V},Ga es=Ab is->Reps K CL H A ys es->ys=is.map V.int
 |[],_,[],h,_=>by cases h;rfl
 |[],_,_::_,_,r=>r.elim
 |_::_,_,[],_,r=>r.elim
 |e::es,is,y::ys,h,r=>by
  cases e with
  |int i=>
   have h':(Ga es).map (i :: ·)=Ab is:=h;cases e2:Ga es with
   |none=>rw[e2]at h';cases h'
   |some js=>
    rw[e2]at h';cases h';have ih:=Pt e2 r.2;have e1:y=.int i:=r.1;rw[ih,e1];rfl
  |_=>cases h
theorem gB(ds:Ac D)(hl:∀ es,ds≠[.lst es]):(∃ i j,ds=[.int i,.int j])\/biD .min ds=.bad:=by
 rcases ds with _|⟨x,_|⟨y,_|⟨z,r⟩⟩⟩
 .exact .inr rfl
 .cases x with
  |lst es=>exact absurd rfl (hl es)
  |_=>exact .inr rfl
 .cases x with
  |int i=>
   cases y with
   |int j=>exact .inl ⟨i,j,rfl⟩
   |_=>exact .inr rfl
  |_=>exact .inr rfl
 .cases x with
  |int i=>cases y<;>exact .inr rfl
  |_=>exact .inr rfl
theorem vP(hc:X.calm=Aa):Lp X CL W (.builtin "min") (biD .min):=by
  intro A pins s Z H xs us Q I r ⟨hA,ds,rs,p⟩;by_cases hls:∃ es,ds=[.lst es]
  · obtain⟨es,rfl⟩:=hls;obtain⟨v,rfl,rv⟩:=rs.one;obtain⟨a,ys,rfl,sq,ry⟩:=rv.lst_of;have p':Bg (Rep X.K CL · A) W H (match Ga es with
      |some (i::is)=>R.ok (.int (Js i is))
      | _=>.bad) Q:=p
    cases e1:Ga es with
    |none=>rw[e1]at p';exact p'.elim
    |some is=>
      cases is with
      |nil=>rw[e1]at p';exact p'.elim
      |cons i is=>
        rw[e1]at p';have ey:=Pt e1 ry;subst ey;exact gX hc pins s Z H _ us Q I r ⟨a,i,is,rfl,sq,p' _ H (AN.refl H) rfl⟩
  rcases gB ds (λes z=>hls ⟨es,z⟩) with ⟨i,j,rfl⟩|e
  · obtain⟨v,w',rfl,rv,rw'⟩:=rs.two;have e1:=rv.int_of;have e2:=rw'.int_of
    subst e1 e2;exact gY hc pins s Z H _ us Q I r ⟨i,j,rfl,p _ H (AN.refl H) rfl⟩
  · rw[e]at p;exact p.elim
theorem vR:Lp X CL W (.type "int") (biD .int):=by
  intro A pins s Z H xs us Q I r ⟨hA,ds,rs,p⟩
  match ds,rs,p with
  |[.int i],rs,p=>
    obtain⟨v,rfl,rv⟩:=rs.one;have e:=rv.int_of;subst e;exact TU pins s Z H _ us Q I r (.inl ⟨i,rfl,p _ H (AN.refl H) rfl⟩)
  |[.bl i],rs,p=>
    obtain⟨v,rfl,rv⟩:=rs.one;have e:=rv.bl_of;subst e;exact TU pins s Z H _ us Q I r (.inr ⟨i,rfl,p _ H (AN.refl H) rfl⟩)
  |[],_,p=>exact p.elim
  |[.non],_,p=>exact p.elim
  |[.str _],_,p=>exact p.elim
  |[.tup _],_,p=>exact p.elim
  |[.lst _],_,p=>exact p.elim
  |[.obj _ _],_,p=>exact p.elim
  |[.exc _ _],_,p=>exact p.elim
  |[.dic _],rs,p=>first|exact p.elim|(obtain⟨v,rfl,rv⟩:=rs.one;exact rv.plain.elim)
  |x::_::_,_,p=>cases x<;>exact p.elim
theorem kO:Lp X CL W (.type "tuple") (biD .tuple):=by
  intro A pins s Z H xs us Q I r ⟨hA,ds,rs,p⟩
  match ds,rs,p with
  |[.lst es],rs,p=>
    obtain⟨v,rfl,rv⟩:=rs.one;obtain⟨q,ys,rfl,sq,ry⟩:=rv.lst_of;exact Sw pins s Z H _ us Q I r ⟨q,ys,rfl,.inl ⟨sq,λl hl=>p _ _ (GR hl _) (Nf hA hl ry)⟩⟩
  |[.tup es],rs,p=>
    obtain⟨v,rfl,rv⟩:=rs.one;obtain⟨q,ys,rfl,na,sq,ry⟩:=rv.tup_of;exact Sw pins s Z H _ us Q I r ⟨q,ys,rfl,.inr ⟨sq,p _ H (AN.refl H) ⟨q,ys,rfl,na,sq,ry⟩⟩⟩
  |[],_,p=>exact p.elim
  |[.non],_,p=>exact p.elim
  |[.bl _],_,p=>exact p.elim
  |[.int _],_,p=>exact p.elim
  |[.str _],_,p=>exact p.elim
  |[.obj _ _],_,p=>exact p.elim
  |[.exc _ _],_,p=>exact p.elim
  |[.dic _],rs,p=>first|exact p.elim|(obtain⟨v,rfl,rv⟩:=rs.one;exact rv.plain.elim)
  |x::_::_,_,p=>cases x<;>exact p.elim
end
section
variable{X:Cx}{CL:ClA}{W:XW}{a b c:An}{fa fb fc:Rho->R D}{pos:AY}
theorem SB.congr{g:Rho->R Aj}(h:SB X CL W a f)(e:∀ U,g U=f U):SB X CL W a g:=λA=>PT.weak (h A) λZ H Q ⟨hA,U,q,p⟩=>⟨hA,U,q,by rw[<-e];exact p⟩
theorem sJ(ha:SB X CL W a f):SB X CL W (.UnaryOp .Not a pos) (λU=>(f U).bind λb=>.ok (!b)):=λA=>PT.weak (sY (ha A)) λZ H Q ⟨hA,U,g,p⟩=>⟨hA,U,g,DF.bindB p λb H1 _ s1 p1=>p1 H1 (AN.refl H1)⟩
def SW(X:Cx)(CL:ClA)(W:XW)(e:An)(f:Rho->R Aj):Prop:=∀ A,PW X e (λZ H Q=>AOk H A/\∃ U,Good X.K CL A U Z H/\DF W H (f U) Q)
theorem PW.weak{t t':TT}(h:PW X e t)(k:∀ Z H Q,t' Z H Q->t Z H Q):PW X e t':=λwh pins s Z H Q I q=>h wh pins s Z H Q I (k _ _ _ q)
theorem SW.sb(h:SW X CL W a f):SB X CL W a f:=λA=>PW.pt (h A)
theorem SW.congr{g:Rho->R Aj}(h:SW X CL W a f)(e:∀ U,g U=f U):SW X CL W a g:=λA=>PW.weak (h A) λZ H Q ⟨hA,U,q,p⟩=>⟨hA,U,q,by rw[<-e];exact p⟩
theorem lP(ha:SB X CL W a f):SW X CL W (.BoolOp .And [a] pos) f:=λA=>oJ (ha A)
theorem qT(ha:SB X CL W a f):SW X CL W (.BoolOp .Or [a] pos) f:=λA=>sW (ha A)
theorem qX{g:Rho->R Aj}{rest:Ac An}(ha:SB X CL W a f)(hb:SW X CL W (.BoolOp .And (b::rest) pos) g):SW X CL W (.BoolOp .And (a::b::rest) pos) (λU=>(f U).bind λc=>if c=Aa then g U else .ok Af):=
 λA=>PW.weak (sX (ha A) (hb A)) λZ H Q ⟨hA,U,gd,p⟩=>⟨hA,U,gd,DF.bindB p λc H1 _ s1 p1=>by
  cases c with
  |true=>exact⟨hA.same s1,U,gd.same s1,p1⟩
  | false=>exact p1 H1 (AN.refl H1)⟩
theorem wW{g:Rho->R Aj}{rest:Ac An}(ha:SB X CL W a f)(hb:SW X CL W (.BoolOp .Or (b::rest) pos) g):SW X CL W (.BoolOp .Or (a::b::rest) pos) (λU=>(f U).bind λc=>if c=Aa then .ok Aa else g U):=
 λA=>PW.weak (xJ (ha A) (hb A)) λZ H Q ⟨hA,U,gd,p⟩=>⟨hA,U,gd,DF.bindB p λc H1 _ s1 p1=>by
  cases c with
  |false=>exact⟨hA.same s1,U,gd.same s1,p1⟩
  | true=>exact p1 H1 (AN.refl H1)⟩
theorem sK(ho:OpD X CL W (Dd op) g)(ha:ST X CL W a fa)(hb:ST X CL W b fb)(hm:HP op b=Af):SB X CL W (.Compare a [op] [b] pos) (λU=>(fa U).bind λx=>(fb U).bind λy=>(g x y).bind EJ):=
 λA=>PT.weak (oO (ho A) (ha A) (hb A) hm) λZ H Q ⟨hA,U,gd,p⟩=>⟨hA,U,gd,DF.bind p λdx x H1 _ s1 r1 p1=>⟨hA.same s1,U,gd.same s1,DF.bind p1 λdy y H2 _ s2 r2 p2=>
  ⟨(hA.same s1).same s2,dx,dy,r1.same s2,r2,DF.bind p2 λdz z H3 _ s3 r3 p3=>by
   cases dz with
   |bl k=>exact⟨k,r3,p3 H3 (AN.refl H3)⟩
   | _=>exact p3.elim⟩⟩⟩
theorem jQ{op':DW}(hu:X.A.units+64<Cj)(ha:ST X CL W a fa)(hb:ST X CL W b fb)(hc:ST X CL W c fc)(hm:lastMarks [op,op'] [b,c]=Af):SB X CL W (.Compare a [op,op'] [b,c] pos) (λU=>(fa U).bind λx=>(fb U).bind λy=>(Cf op x y).bind λz=>(EJ z).bind λk=>if k=Aa then (fc U).bind λu=>(Cf op' y u).bind EJ else .ok Af):=
  λA=>PT.weak (jX (Od hu op A) (Od hu op' A) (ha A) (hb A) (hc A) hm) λZ H Q ⟨hA,U,g,p⟩=>⟨hA,U,g,DF.bind p λdx x H1 _ s1 r1 p1=>⟨hA.same s1,U,g.same s1,DF.bind p1 λdy y H2 _ s2 r2 p2=>
    ⟨(hA.same s1).same s2,dx,dy,r1.same s2,r2,DF.bind p2 λdz z H3 _ s3 r3 p3=>by
      cases dz with
      |bl k=>
        refine⟨k,r3,?_⟩;cases k with
        |false=>exact⟨Af,rfl,p3 H3 (AN.refl H3)⟩
        | true=>exact⟨((hA.same s1).same s2).same s3,U,((g.same s1).same s2).same s3,DF.bind p3 λdu u H4 _ s4 r4 p5=>⟨(((hA.same s1).same s2).same s3).same s4,dy,du,(r2.same s3).same s4,r4,DF.bind p5 λdv v H5 _ s5 r5 p6=>by
            cases dv with
            |bl k'=>exact⟨k',r5,p6 H5 (AN.refl H5)⟩
            | _=>exact p6.elim⟩⟩
      | _=>exact p3.elim⟩⟩⟩
theorem sI(ha:ST X CL W a fa)(he:∀ whole,JH a X.env whole=(do let v <-whole;standAt a.pos;holding [v] (truthy v))):SB X CL W a (λU=>(fa U).bind Ce):=
 λA=>PT.weak (jW (ha A) he) λZ H Q ⟨hA,U,g,p⟩=>⟨hA,U,g,DF.bind p λd v H1 _ s1 r1 p1=>by
  cases d with
  |non=>
   have e:=r1.non_of;subst e;exact⟨Af,rfl,p1 H1 (AN.refl H1)⟩
  |bl b=>
   have e:=r1.bl_of;subst e;exact⟨b,rfl,p1 H1 (AN.refl H1)⟩
  |int i=>
   have e:=r1.int_of;subst e;exact⟨_,rfl,p1 H1 (AN.refl H1)⟩
  |str x=>
   have e:=r1.str_of;subst e;have p2:DF W H1 (if BY x.length=Aa then .ok (x.length != 0) else .bad) Q:=p1
   split at p2
   .rename_i h;refine⟨_,⟨JU h,rfl⟩,?_⟩;have e:((x.length:Ag) != 0)=(x.length != 0):=by
     rw[Fh];simp
    rw[e];exact p2 H1 (AN.refl H1)
   .exact p2.elim
  |tup ds=>
   obtain⟨q,xs,rfl,_,sq,r⟩:=r1.tup_of;refine⟨_,.inr (.inl ⟨xs,sq,rfl⟩),?_⟩;have e:xs.isEmpty=ds.isEmpty:=by
    have:=r.length;cases xs<;>cases ds<;>first|rfl|cases this
   rw[e];exact p1 H1 (AN.refl H1)
  |lst ds=>
   obtain⟨q,xs,rfl,sq,r⟩:=r1.lst_of;refine⟨_,.inl ⟨xs,sq,rfl⟩,?_⟩;have e:xs.isEmpty=ds.isEmpty:=by
    have:=r.length;cases xs<;>cases ds<;>first|rfl|cases this
   rw[e];exact p1 H1 (AN.refl H1)
  | _=>exact p1.elim⟩
noncomputable def bQ(K:Fg)(CL:ClA)(H:Hp)(A:Al->Prop)(cls:Ai)(dx:Ao Al)(x:Ex):Prop:=
 ∃ C,CL x.c=Ab C/\cls=.ref C/\(x.fs=[]\/∃ d vs,dx=Ab d/\¬ A d/\H d=Ab (.xd vs)/\Repf K CL H A vs x.fs)
def GU(K:Fg)(CL:ClA)(H:Hp)(cls:Ai)(dx:Ao Al)(x:Ex):Prop:=∀ A,AOk H A->bQ K CL H A cls dx x
end
def Ck(B:Al->Prop)(U:Rho)(Z:L2.St):Al->Prop:=λa=>B a\/∃(j:Ae)(d:D),U[j]?=Ab (Ab (d,Aa))/\Z[j]?=Ab (Ab (.ref a))
structure Sx (K:Fg) (CL:ClA) (Fz:Al->HO->Prop) (B:Al->Prop) (U:Rho) (Z:L2.St) (H:Hp):Prop where
 good:Good K CL (Ck B U Z) U Z H
 aok:AOk H (Ck B U Z)
 new:∀(j:Ae)(d:D)(a:Al),U[j]?=Ab (Ab (d,Aa))->Z[j]?=Ab (Ab (.ref a))->(∀ o,¬ Fz a o)/\¬ B a
 dis:∀(i j:Ae)(d e:D)(a:Al),U[i]?=Ab (Ab (d,Aa))->U[j]?=Ab (Ab (e,Aa))->Z[i]?=Ab (Ab (.ref a))->Z[j]?=Ab (Ab (.ref a))->i=j
 same:∀ b o,Fz b o->H b=Ab o
 len:U.length=Z.length
def Cq(K:Fg)(CL:ClA)(Fz:Al->HO->Prop)(B:Al->Prop)(W:XW)(o:O)(D:Ends):Prop:=match o with
  |.next U=>∀ Z H,Sx K CL Fz B U Z H->D.nx Z H
  |.brk U=>∀ Z H,Sx K CL Fz B U Z H->D.bk Z H
  |.cont U=>∀ Z H,Sx K CL Fz B U Z H->D.ct Z H
  |.ret d fr=>∀ v H,(∀ b o,Fz b o->H b=Ab o)->Rep K CL H B v d->(fr=Aa->∀ ds,d=.lst ds->∃ a xs,v=.ref a/\(∀ o,¬ Fz a o)/\H a=Ab (.lst xs)/\Reps K CL H (λb=>B b\/b=a) xs ds)->D.rt v H
  |.exn x _=>∀ H,(∀ b o,Fz b o->H b=Ab o)->W x H
  |.bad=>Ba
section
variable{K:Fg}{CL:ClA}{Fz Fy:Al->HO->Prop}{B:Al->Prop}{U:Rho}{Z:L2.St}{H H':Hp}
theorem Sx.mono(k:∀ b o,Fz b o->Fy b o)(x:Sx K CL Fy B U Z H):Sx K CL Fz B U Z H:=⟨x.good,x.aok,λj d a h1 h2=>⟨λo z=>(x.new j d a h1 h2).1 o (k _ _ z),(x.new j d a h1 h2).2⟩,x.dis,λb o z=>x.same b o (k _ _ z),x.len⟩
theorem Sx.grow(x:Sx K CL Fz B U Z H)(s:AN H H'):Sx K CL Fz B U Z H':=⟨x.good.same s,x.aok.same s,x.new,x.dis,λb o z=>s _ _ (x.same b o z),x.len⟩
theorem CJ{l:Ac α}{v:α}(h:i≠j):(l.set i v)[j]?=l[j]?:=by rw[G3 h]
theorem Hw{l:Ac α}{v w':α}(h:(l.set i v)[i]?=Ab w'):w'=v:=by
 rw[Gj]at h;cases e:l[i]? with
 |none=>rw[e]at h;cases h
 |some x=>rw[e]at h;cases h;rfl
theorem Sx.set(x:Sx K CL Fz B U Z H){v:V}{d:D}(i:Ae)(r:Rep K CL H (Ck B U Z) v d):Sx K CL Fz B (U.set i (Ab (d,Af))) (Z.set i (Ab v)) H:=by
 have own:∀(j:Ae)(e:D),(U.set i (Ab (d,Af)))[j]?=Ab (Ab (e,Aa))->i≠j/\U[j]?=Ab (Ab (e,Aa)):=λj e h=>by
  by_cases hj:i=j
  .subst hj;have:=Hw h;cases this
  .exact⟨hj,by rw[CJ hj]at h;exact h⟩
 have sub:∀ a,Ck B (U.set i (Ab (d,Af))) (Z.set i (Ab v)) a->Ck B U Z a:=λa h=>by
  rcases h with h|⟨j,e,h1,h2⟩
  .exact .inl h
  .obtain⟨hj,h1⟩:=own j e h1;rw[CJ hj]at h2;exact .inr ⟨j,e,h1,h2⟩
 refine⟨⟨λj e h=>?_,λj e h=>?_,by rw[Bj,Bj];exact x.len⟩,λa h=>x.aok a (sub a h),λj e a h1 h2=>?_,λj k e f a h1 h2 h3 h4=>?_,x.same,by rw[Bj,Bj];exact x.len⟩
 .by_cases hj:i=j
  .subst hj;have e1:=Hw h;cases e1;refine⟨v,?_,Rep.sub sub _ r⟩;have hl:i<Z.length:=by
    rw[<-x.len];have:=(AZ.mp h).1;simpa using this
   rw[DD hl]
  .rw[CJ hj]at h;obtain⟨w',q,rw'⟩:=x.good.sh j e h;exact⟨w',by rw[CJ hj];exact q,Rep.sub sub _ rw'⟩
 .obtain⟨hj,h1⟩:=own j e h;obtain⟨a,xs,ds,q,z,ha,hh,rr⟩:=x.good.ow j e h1;exact⟨a,xs,ds,by rw[CJ hj];exact q,z,.inr ⟨j,e,h,by rw[CJ hj];exact q⟩,hh,Reps.sub sub _ rr⟩
 .obtain⟨hj,h1⟩:=own j e h1;rw[CJ hj]at h2;exact x.new j e a h1 h2
 .obtain⟨hj,h1⟩:=own j e h1;obtain⟨hk,h2⟩:=own k f h2;rw[CJ hj]at h3;rw[CJ hk]at h4;exact x.dis j k e f a h1 h2 h3 h4
end
section
variable{X:Cx}{CL:ClA}{W:XW}{pos:AY}{e:An}{fe:Rho->R D}
def SS(X:Cx)(CL:ClA)(W:XW)(st:A7)(f:Rho->O):Prop:=∀ Fz B,PS X st (λD Z H=>∃ U,Sx X.K CL Fz B U Z H/\Cq X.K CL Fz B W (f U) D)
def SSs(X:Cx)(CL:ClA)(W:XW)(st:Ac A7)(f:Rho->O):Prop:=∀ Fz B,PSs X st (λD Z H=>∃ U,Sx X.K CL Fz B U Z H/\Cq X.K CL Fz B W (f U) D)
theorem PS.weak{e:A7}{t t':TS}(h:PS X e t)(k:∀ D Z H,t' D Z H->t D Z H):PS X e t':=λpins s Z H D I q=>h pins s Z H D I (k _ _ _ q)
theorem PSs.weak{e:Ac A7}{t t':TS}(h:PSs X e t)(k:∀ D Z H,t' D Z H->t D Z H):PSs X e t':=λpins s Z H D I q=>h pins s Z H D I (k _ _ _ q)
theorem Cq.ex{f:D->O}(x:Sx X.K CL Fz B U Z H)(h:Cq X.K CL Fz B W (O.of U r f) D')(k:∀ d v H',r=.ok d->AN H H'->Rp H' v d->Sx X.K CL Fz B U Z H'->Cq X.K CL Fz B W (f d) D'->Q v H'):Bg Rp W H r Q:=by
 cases r with
 |ok d=>exact λv H' s r=>k d v H' rfl s r (x.grow s) h
 |exn y=>exact λH' s=>h H' λb o z=>s _ _ (x.same b o z)
 |bad=>exact h
theorem Cq.exB{r:R Aj}{f:Aj->O}{Q:Aj->Hp->Prop}(x:Sx X.K CL Fz B U Z H)(h:Cq X.K CL Fz B W (O.of U r f) D')(k:∀ b H',r=.ok b->AN H H'->Sx X.K CL Fz B U Z H'->Cq X.K CL Fz B W (f b) D'->Q b H'):DF W H r Q:=by
 cases r with
 |ok d=>exact λH' s=>k d H' rfl s (x.grow s) h
 |exn y=>exact λH' s=>h H' λb o z=>s _ _ (x.same b o z)
 |bad=>exact h
theorem mE(he:SE X CL W e fe)(hs:DN e Ad pos.line X.env=pure Af):SS X CL W (.Expr e pos) (λU=>O.of U (fe U) λ_=>.next U):=λFz B pins s Z H D I ⟨U,x,p⟩=>
 LY (he (Ck B U Z)) hs pins s Z H D I ⟨x.aok,U,x.good,Cq.ex x p λd v H' _ s r x' q=>q Z H' x'⟩
theorem tH{n:Ak}(hN:X.N.Nodup)(hi:X.N[i]?=Ab n)(hx:Loc X.env.scope n)(he:SE X CL W e fe)(hs:DN e (Ab (.Name n pos')) pos.line X.env=pure Af)(hf:X.fn n=Aa\/X.env.scope.names.lookup n=Ab .local):SS X CL W (.Assign [.Name n pos'] e pos) (λU=>O.of U (fe U) λd=>.next (U.set i (Ab (d,Af)))):=λFz B pins s Z H D I ⟨U,x,p⟩=>
 OC hN hi hx (he (Ck B U Z)) hs hf pins s Z H D I ⟨x.aok,U,x.good,Cq.ex x p λd v H' _ s r x' q=>q _ H' (x'.set i r)⟩
theorem mB(he:SE X CL W e fe):SS X CL W (.Return (Ab e) pos) (λU=>O.of U (fe U) λd=>.ret d Af):=λFz B pins s Z H D I ⟨U,x,p⟩=>
 Ra (he (Ck B U Z)) pins s Z H D I ⟨x.aok,U,x.good,Cq.ex x p λd v H' _ s r x' q=>q v H' x'.same (Rep.sub (λa h=>.inl h) _ r) λz=>nomatch z⟩
theorem WA{a b:Ac A7}{fa fb:Rho->O}(hc:SB X CL W c fc)(ha:SSs X CL W a fa)(hb:SSs X CL W b fb):SS X CL W (.If c a b pos) (λU=>O.of U (fc U) λk=>if k=Aa then fa U else fb U):=λFz B pins s Z H D I ⟨U,x,p⟩=>
 xL (hc (Ck B U Z)) (ha Fz B) (hb Fz B) pins s Z H D I ⟨x.aok,U,x.good,Cq.exB x p λk H' _ s x' q=>by
  cases k with
  |true=>exact⟨U,x',q⟩
  | false=>exact⟨U,x',q⟩⟩
theorem kE(g:Good K CL A U Z H):Good K CL (λ_=>Ba) (shA U) Z H:=by
 have nz:∀ a:Al,(λ_:Al=>Ba) a->A a:=λ_ z=>z.elim
 refine⟨λi d e=>?_,λi d e=>?_,by rw[shA,AF];exact g.len⟩
 .rw[shA,BC]at e;cases q:U[i]? with
  |none=>rw[q]at e;cases e
  |some s=>
   rw[q]at e;have e':shS s=Ab (d,Af):=Bf e;cases s with
   |none=>cases e'
   |some z=>
    obtain⟨x,b⟩:=z;cases b with
    |false=>
     cases e';obtain⟨v,h1,h2⟩:=g.sh i _ q;exact⟨v,h1,Rep.sub nz _ h2⟩
    |true=>
     cases x with
     |lst ds=>
      cases e';obtain⟨a,xs,ds',h1,h2,na,h3,h4⟩:=g.ow i _ q;cases h2;exact⟨.ref a,h1,a,xs,rfl,.inl λz=>z,.inl (.inl h3),Reps.sub nz _ h4⟩
     |_=>cases e'
 .rw[shA,BC]at e;cases q:U[i]? with
  |none=>rw[q]at e;cases e
  |some s=>
   rw[q]at e;have e':shS s=Ab (d,Aa):=Bf e;cases s with
   |none=>cases e'
   |some z=>
    obtain⟨x,b⟩:=z;cases b with
    |false=>cases e'
    |true=>cases x<;>cases e'
theorem nV(hc:SB X CL W c fc):SB X CL W c (λU=>fc (shA U)):=λA=>PT.weak (hc λ_=>Ba) λZ H Q ⟨hA,U,g,p⟩=>⟨λ_ z=>z.elim,shA U,kE g,p⟩
theorem UT:SSs X CL W [] (λU=>.next U):=λFz B=>PSs.weak oP λD Z H ⟨U,x,p⟩=>p Z H x
theorem Qi{st:A7}{rest:Ac A7}{f g:Rho->O}(h1:SS X CL W st f)(h2:SSs X CL W rest g):SSs X CL W (st::rest) (λU=>(f U).seq g):=λFz B=>PSs.weak (jY (h1 Fz B) (h2 Fz B)) λD Z H ⟨U,x,p⟩=>⟨U,x,by
 dsimp only at p;cases e:f U with
 |next U'=>rw[e]at p;exact λZ' H' x'=>⟨U',x',p⟩
 |ret d b=>rw[e]at p;exact p
 |brk U'=>rw[e]at p;exact p
 |cont U'=>rw[e]at p;exact p
 |exn y U'=>rw[e]at p;exact p
 | bad=>rw[e]at p;exact p⟩
end
def Jw(K:Fg)(CL:ClA)(A:Al->Prop)(ds:Ac D)(J:It)(H1:Hp):Prop:=∀ H,Kp A H1 H->∀ i:Ae,(ds.length<=i->J.stop i H)/\∀ d,ds[i]?=Ab d->J.go i H/\∀ x H',J.yld i H x H'->AN H H'/\∀ B,(∀ a,B a->A a\/H1 a=Ad)->AOk H B->Rep K CL H' B x d
def EU(K:Fg)(CL:ClA)(A:Al->Prop)(W:XW)(H:Hp)(r:R (Ac D))(Q:It->Hp->Prop):Prop:=match r with
  |.ok ds=>∀ J H',AN H H'->Jw K CL A ds J H'->ds.length<=sizeLine->Q J H'
  |.exn x=>∀ H',AN H H'->W x H'
  |.bad=>Ba
def SI(X:Cx)(CL:ClA)(W:XW)(tg iter:An)(f:Rho->R (Ac D)):Prop:=∀ A,PI X tg iter (λZ H R=>AOk H A/\∃ U,Good X.K CL A U Z H/\EU X.K CL A W H (f U) R)
theorem PI.weak{t t':TI}(h:PI X tg e t)(k:∀ Z H Q,t' Z H Q->t Z H Q):PI X tg e t':=λpins s Z H Q I q=>h pins s Z H Q I (k _ _ _ q)
section
variable{X:Cx}{CL:ClA}{W:XW}{pos p:AY}{tg e a b:An}{fe fa fb:Rho->R D}
theorem EU.ex{f:D->R (Ac D)}{Q:It->Hp->Prop}{Q':VK}(h:EU X.K CL A W H (r.bind f) Q)(k:∀ d v H',r=.ok d->AN H H'->Rp H' v d->EU X.K CL A W H' (f d) Q->Q' v H'):Bg Rp W H r Q':=by
  cases r with
  | ok d=>exact λv H' s q=>k d v H' rfl s q (by
      have h':EU X.K CL A W H (f d) Q:=h;cases e:f d with
      |ok ds=>rw[e]at h';exact λJ H2 s2 y z=>h' J H2 (s.trans s2) y z
      |exn y=>rw[e]at h';exact λH2 s2=>h' H2 (s.trans s2)
      | bad=>rw[e]at h';exact h')
  |exn y=>exact h
  |bad=>exact h
theorem MW{x:V}(r:Rep K CL H1 A x d)(k:Kp A H1 H)(hB:∀ a,B a->A a\/H1 a=Ad):Rep K CL H B x d:=by
 have r1:Rep K CL H1 (λa=>A a\/B a) x d:=Rep.wide (λa ha=>ha.elim .inl (hB a)) _ r
 have r2:Rep K CL H (λa=>A a\/B a) x d:=Rep.kp (λb o e na=>k b o e λz=>na (.inl z)) _ r1
 exact Rep.sub (λa ha=>.inr ha) _ r2
theorem eF{ds:Ac D}(na:¬ A q\/KL K q xs)(s:SqL K H q xs)(r:Reps K CL H A xs ds):Jw K CL A ds (Itl K q) H:=λH' k i=>by
 have s':=OB k na s;refine⟨λh=>⟨xs,s',by rw[r.length];exact h⟩,λd hd=>?_⟩
 obtain⟨v,hv,rv⟩:=r.get hd;exact⟨⟨xs,v,s',hv⟩,λx H2 ⟨e,y⟩=>by
  subst e;have:=y xs s';rw[hv]at this;cases this;exact⟨AN.refl _,λB hB _=>MW rv k hB⟩⟩
theorem gM{ds:Ac D}(na:¬ A q\/KT K q xs)(s:SqT K H q xs)(r:Reps K CL H A xs ds):Jw K CL A ds (Itt K q) H:=λH' k i=>by
 have s':=OA k na s;refine⟨λh=>⟨xs,s',by rw[r.length];exact h⟩,λd hd=>?_⟩
 obtain⟨v,hv,rv⟩:=r.get hd;exact⟨⟨xs,v,s',hv⟩,λx H2 ⟨e,y⟩=>by
  subst e;have:=y xs s';rw[hv]at this;cases this;exact⟨AN.refl _,λB hB _=>MW rv k hB⟩⟩
theorem TD(lo:Ag)(n:Ae):Jw K CL A (Fa lo n) (Itr lo n) H:=λH' k i=>by
 refine⟨λh=>by rw[PB]at h;exact h,λd hd=>?_⟩
 obtain⟨h1,rfl⟩:=kF hd;exact⟨h1,λx H2 ⟨e,y⟩=>by
  subst e y;exact⟨AN.refl _,λ_ _ _=>rfl⟩⟩
theorem rW{l:An}{tl:TE}(hl:PE X l tl):PI X tg l (λZ H R=>tl Z H λx H1=>(∃ a,x=.ref a/\(∃ xs,SqL X.K H1 a xs/\(xs.length<=sizeLine->R (Itl X.K a) H1)))\/∃ a,x=.ref a/\(∃ xs,SqT X.K H1 a xs/\(xs.length<=sizeLine->R (Itt X.K a) H1))):=by
 intro pins s Z H R I h;refine thn (hl pins s Z H _ I h) λv s1 ⟨x,H1,I1,r1,q1⟩=>?_
 rcases q1 with ⟨a,e,xs,hq,q⟩|⟨a,e,xs,hq,q⟩
 .subst e;cases r1;obtain⟨its,rv,p,hz⟩:=I1.list hq;refine Gw p.isList ?_;refine⟨s1.heap.objs.size,[s1.heap.objs.size],_,_,H1,rfl,I1.kept (t':=s1.toks) λb o e=>Aq _ e,eX a _,⟨_,AH _ rfl,rfl,rfl⟩,λb hb=>?_,q hz⟩
  have e:b=s1.heap.objs.size:=by simpa using hb
  subst e;exact I1.fpOk (Ay _) (I1.hok.fresh (Ay _))
 .subst e;cases r1;obtain⟨its,rv,p,hz⟩:=I1.tuple hq;refine bI (show s1.heap.IsTuple a its.toArray from p) ?_
  refine⟨s1.heap.objs.size,[s1.heap.objs.size],_,_,H1,rfl,I1.kept (t':=s1.toks) λb o e=>Aq _ e,eH a _,⟨_,AH _ rfl,rfl,rfl⟩,λb hb=>?_,q hz⟩
  have e:b=s1.heap.objs.size:=by simpa using hb
  subst e;exact I1.fpOk (Ay _) (I1.hok.fresh (Ay _))
theorem dB(he:SE X CL W e fe):SI X CL W tg e (λU=>(fe U).bind EI):=λA=>PI.weak (rW (he A)) λZ H R ⟨hA,U,g,p⟩=>⟨hA,U,g,EU.ex p λd v H1 _ s1 r1 p1=>by
 cases d with
 |lst ds=>
  obtain⟨q,xs,rfl,na,sq,r⟩:=r1;exact .inl ⟨q,rfl,xs,sq,λhz=>p1 _ H1 (AN.refl H1) (eF na sq r) (by rw[<-r.length];exact hz)⟩
 |tup ds=>
  obtain⟨q,xs,rfl,na,sq,r⟩:=r1;exact .inr ⟨q,rfl,xs,sq,λhz=>p1 _ H1 (AN.refl H1) (gM na sq r) (by rw[<-r.length];exact hz)⟩
 | _=>exact p1.elim⟩
theorem Tt{ds:Ac D}(h:D7 lo hi=.ok ds):(-(2 ^ 62)<=lo/\lo<2 ^ 62)/\(-(2 ^ 62)<=hi/\hi<2 ^ 62)/\ds=Fa lo (hi-lo).toNat/\(Fa lo (hi-lo).toNat).length<=sizeLine:=by
 unfold D7 at h;split at h
 .rename_i q;cases h;exact⟨by omega,by omega,rfl,by rw[PB,Bv];omega⟩
 .cases h
theorem SL{x:Ex}(h:D7 lo hi=.exn x):Ba:=by
 unfold D7 at h;split at h<;>cases h
theorem tQ(ha:ST X CL W a fa)(hg:Gl X "range")(hm:X.mg "range" = Ad)(hs:AB [a] X.env=[(Af,eval a X.env)]):SI X CL W tg (.Call (.Name "range" p) [a] [] pos) (λU=>(fa U).bind λx=>(D6 x).bind λj=>D7 0 j):=
 λA=>PI.weak (fV hg hm (EH (ha A) F7 hs) hs) λZ H R ⟨hA,U,g,q⟩=>⟨hA,U,g,EU.ex q λd v H1 _ s1 r1 p1=>by
  cases d with
  |int j=>
   have e:=r1.int_of;subst e;have p2:EU X.K CL A W H1 (D7 0 j) R:=p1;cases e2:D7 0 j with
   |ok ds=>
    rw[e2]at p2;obtain⟨_,h2,rfl,hz⟩:=Tt e2;exact⟨j,rfl,h2.1,h2.2,p2 _ H1 (AN.refl H1) (by rw[XO];exact TD 0 j.toNat) hz⟩
   |exn y=>exact(SL e2).elim
   |bad=>rw[e2]at p2;exact p2.elim
  | _=>exact p1.elim⟩
theorem kX(ha:ST X CL W a fa)(hb:ST X CL W b fb)(hg:Gl X "range")(hm:X.mg "range" = Ad)(hs:AB [a,b] X.env=[(Af,eval a X.env),(Af,eval b X.env)])(hs2:AB [b] X.env=[(Af,eval b X.env)]):
  SI X CL W tg (.Call (.Name "range" p) [a,b] [] pos) (λU=>(fa U).bind λx=>(fb U).bind λy=>(D6 x).bind λi=>(D6 y).bind λj=>D7 i j):=
 λA=>PI.weak (fU hg hm (EH (ha A) (EH (hb A) F7 hs2) (by rw[hs,hs2])) hs hs2) λZ H R ⟨hA,U,g,q⟩=>⟨hA,U,g,EU.ex q λd v H1 _ s1 r1 p1=>⟨hA.same s1,U,g.same s1,EU.ex p1 λd2 v2 H2 _ s2 r2 p2=>by
  cases d with
  |int i=>
   cases d2 with
   |int j=>
    have e:=r1.int_of;have e':=r2.int_of
    subst e e';have p3:EU X.K CL A W H2 (D7 i j) R:=p2;cases e2:D7 i j with
    |ok ds=>
     rw[e2]at p3;obtain⟨h1,h2,rfl,hz⟩:=Tt e2;exact⟨i,j,rfl,⟨h1.1,h1.2,h2.1,h2.2⟩,p3 _ H2 (AN.refl H2) (TD _ _) hz⟩
    |exn y=>exact(SL e2).elim
    |bad=>rw[e2]at p3;exact p3.elim
   |_=>exact p2.elim
  | _=>exact p2.elim⟩⟩
theorem Cq.exI{r:R (Ac D)}{f:Ac D->O}{Q:It->Hp->Prop}(x:Sx X.K CL Fz B U Z H)(h:Cq X.K CL Fz B W (O.of U r f) D')(k:∀ ds J H',r=.ok ds->AN H H'->Jw X.K CL A ds J H'->ds.length<=sizeLine->Sx X.K CL Fz B U Z H'->Cq X.K CL Fz B W (f ds) D'->Q J H'):EU X.K CL A W H r Q:=by
 cases r with
 |ok d=>exact λJ H' s y z=>k d J H' rfl s y z (x.grow s) h
 |exn y=>exact λH' s=>h H' λb o z=>s _ _ (x.same b o z)
 |bad=>exact h
theorem Cq.turn{Fy:Al->HO->Prop}{o:O}{g:Rho->O}{N:L2.St->Hp->Prop}(hf:∀ b q,Fz b q->Fy b q)(h:Cq K CL Fz B W (o.turn g) D')(k:∀ U' Z' H',Sx K CL Fy B U' Z' H'->Cq K CL Fz B W (g U') D'->N Z' H'):Cq K CL Fy B W o {D' with nx:=N,ct:=N,bk:=D'.nx}:=by
 cases o with
 |next U'=>exact λZ' H' x=>k U' Z' H' x h
 |cont U'=>exact λZ' H' x=>k U' Z' H' x h
 |brk U'=>exact λZ' H' x=>h Z' H' (x.mono hf)
 |ret d b=>exact λv H' s r n=>h v H' (λb o z=>s b o (hf b o z)) r λz ds e=>let ⟨a,xs,h1,h2,h3⟩:=n z ds e;⟨a,xs,h1,λo q=>h2 o (hf a o q),h3⟩
 |exn y U'=>exact λH' s=>h H' (λb o z=>s b o (hf b o z))
 |bad=>exact h
noncomputable def Hf(ts:Ac Ae)(U:Rho):Rho:=ts.foldl (λU t=>U.set t Ad) U
def GT(K:Fg)(CL:ClA)(as:D->Rho->R Rho)(g:TG):Prop:=∀ Fz B U Z H v d U' Q,Sx K CL Fz B U Z H->Rep K CL H (Ck B U Z) v d->as d U=.ok U'->(∀ Z',Sx K CL Fz B U' Z' H->Q Z' H)->g v Z H Q
theorem qQ(i:Ae):GT K CL (λd U=>.ok (U.set i (Ab (d,Af)))) (HW i):=λFz B U Z H v d U' Q x r e k=>by
 cases e;exact k _ (x.set i r)
theorem VG{K:Fg}{Fz:Al->HO->Prop}{B:Al->Prop}{H:Hp}:∀(ts:Ac Ae)(ds:Ac D)(vs:Ac V)(U U':Rho)(Z:L2.St)(Q:L2.St->Hp->Prop),Sx K CL Fz B U Z H->Reps K CL H (Ck B U Z) vs ds->HU ts ds U=Ab U'->(∀ Z',Sx K CL Fz B U' Z' H->Q Z' H)->(ts.foldr (λt u=>NC (HW t) u) NG) vs Z H Q
 |[],[],[],U,U',Z,Q,x,_,e,k=>by
  cases e;exact⟨rfl,k Z x⟩
 |t::ts,d::ds,v::vs,U,U',Z,Q,x,r,e,k=>by
  refine⟨v,vs,rfl,VG ts ds vs _ U' _ Q (x.set t r.1) (Reps.sub (λa ha=>?_) ds r.2) e k⟩
  rcases ha with ha|⟨j,c,h1,h2⟩
  .exact .inl ha
  .by_cases hj:t=j
   .subst hj;have:=Hw h1;cases this
   .rw[CJ hj]at h1 h2;exact .inr ⟨j,c,h1,h2⟩
 |[],_::_,_,_,_,_,_,_,_,e,_=>by cases e
 |_::_,[],_,_,_,_,_,_,_,e,_=>by cases e
 |[],[],_::_,_,_,_,_,_,r,_,_=>r.elim
 |_::_,_::_,[],_,_,_,_,_,r,_,_=>r.elim
theorem S9:∀(ts:Ac Ae)(ds:Ac D)(U U':Rho),HU ts ds U=Ab U'->ds.length=ts.length
 |[],[],_,_,_=>rfl
 |_::ts,_::ds,_,_,e=>congrArg (· + 1) (S9 ts ds _ _ e)
 |[],_::_,_,_,e=>by cases e
 |_::_,[],_,_,e=>by cases e
theorem uO(ts:Ac Ae):GT K CL (F8 ts) (Sb K ts.length (ts.foldr (λt u=>NC (HW t) u) NG)):=λFz B U Z H v d U' Q x r e k=>by
 cases d with
 |tup ds=>
  obtain⟨a,xs,rfl,na,sq,rs⟩:=r;rw[eP]at e;cases e2:HU ts ds U with
  |none=>rw[e2]at e;cases e
  |some U2=>
   rw[e2]at e;cases e;exact⟨a,xs,rfl,sq,by rw[rs.length];exact S9 _ _ _ _ e2,VG ts ds xs U _ Z Q x rs e2 k⟩
 |_=>cases e
theorem VN{body:Ac A7}{fbd:Rho->O}{g:TG}(hp:F4 (model X.prog X.w) X.A X.env X.xe)(hc:X.calm=Aa)(hGT:GT X.K CL as g)(hg:PG X tg g)(hit:SI X CL W tg iter fi)(hb:SSs X CL W body fbd)(hs:∀ x,Dz iter X.env x=pure x)(hax:∀ d U x,as d U≠.exn x):SS X CL W (.For tg iter body [] pos) (λU=>O.of U (fi U) λxs=>Dh (λx U'=>O.of U' (as x U') fbd) xs U):=λFz B pins s Z H D I ⟨U,x,p⟩=>by
 refine sZ hp hc (hit (Ck B U Z)) hg (tb:=λD Z H=>∃ Fy,(λD Z H=>∃ U,Sx X.K CL Fy B U Z H/\Cq X.K CL Fy B W (fbd U) D) D Z H) (λpins s Z H D I ⟨Fy,q⟩=>hb Fy B pins s Z H D I q) hs pins s Z H D I ⟨x.aok,U,x.good,Cq.exI x p λds J H1 _ s1 y _ x1 q=>?_⟩
 let Fy:Al->HO->Prop:=λb o=>H1 b=Ab o/\¬ ∃(j:Ae)(d:Ov.D),U[j]?=Ab (Ab (d,Aa))/\Z[j]?=Ab (Ab (.ref b))
 have hfy:∀ b o,Fz b o->Fy b o:=λb o z=>⟨x1.same b o z,λ⟨j,d,h1,h2⟩=>(x1.new j d b h1 h2).1 o z⟩
 have xy:Sx X.K CL Fy B U Z H1:=⟨x1.good,x1.aok,λj d a h1 h2=>⟨λo z=>z.2 ⟨j,d,h1,h2⟩,(x1.new j d a h1 h2).2⟩,x1.dis,λb o z=>z.1,x1.len⟩
 refine⟨λk m Z' H'=>m=ds.length-k/\k<=ds.length/\∃ U',Sx X.K CL Fy B U' Z' H'/\Cq X.K CL Fz B W (Dh (λx U'=>O.of U' (as x U') fbd) (ds.drop k) U') D,⟨ds.length,by simp,BK _,U,xy,q⟩,?_⟩
 rintro k m Z' H' ⟨rfl,hk,U',x',q'⟩;have kp:Kp (Ck B U Z) H1 H':=λb o e na=>x'.same b o ⟨e,λz=>na (.inr z)⟩
 obtain⟨yst,ygo⟩:=y H' kp k;by_cases hlt:k<ds.length
 .have hd:ds[k]?=Ab ds[k]:=AC hlt;obtain⟨hgo,hyl⟩:=ygo _ hd;refine .inr ⟨hgo,λZ'' H''=>∃ U'',Sx X.K CL Fy B U'' Z'' H''/\Cq X.K CL Fz B W (Dh (λx U'=>O.of U' (as x U') fbd) (ds.drop (k+1)) U'') D,λZ'' H'' z=>⟨ds.length-(k+1),by omega,rfl,hlt,z⟩,λv H2 hv=>?_⟩
  obtain⟨e2,rv⟩:=hyl v H2 hv;rw[DO hlt]at q';have q2:Cq X.K CL Fz B W ((O.of U' (as ds[k] U') fbd).turn (Dh (λx U'=>O.of U' (as x U') fbd) (ds.drop (k+1)))) D:=q'
  have rv':Rep X.K CL H2 (Ck B U' Z') v ds[k]:=rv _ (λa ha=>by
    rcases ha with ha|⟨j,d,h1,h2⟩
    .exact .inl (.inl ha)
    .cases e:H1 a with
     |none=>exact .inr rfl
     |some o=>
      by_cases ho:∃(j:Ae)(d:Ov.D),U[j]?=Ab (Ab (d,Aa))/\Z[j]?=Ab (Ab (.ref a))
      .exact .inl (.inr ho)
      .exact absurd ⟨e,ho⟩ ((x'.new j d a h1 h2).1 o)) x'.aok
  cases ea:as ds[k] U' with
  |bad=>rw[ea]at q2;exact q2.elim
  |exn z=>exact absurd ea (hax _ _ z)
  |ok U2=>
   rw[ea,O.of_ok]at q2;exact hGT Fy B U' Z' H2 v ds[k] U2 _ (x'.grow e2) rv' ea λZ3 x3=>⟨Fy,U2,x3,Cq.turn hfy q2 λU3 Z3 H3 x3 q3=>⟨U3,x3,q3⟩⟩
 .have hk':ds.length<=k:=by omega
  rw[XZ hk']at q';exact .inl ⟨yst hk',q' Z' H' (x'.mono hfy)⟩
end
section
variable{X:Cx}{CL:ClA}{W:XW}{a b c:An}{fa fb fc:Rho->R D}{pos:AY}
noncomputable def tyK:Ki->Ao C3
 |.int=>Ab "int"
 |.bool=>Ab "bool"
 |.str=>Ab "str"
 |.list=>Ab "list"
 |.tuple=>Ab "tuple"
 |_=>Ad
noncomputable def QX:D->Aj
 |.obj _ _=>Af
 |.exc _ _=>Af
 |.dic _=>Af
 |_=>Aa
theorem uL{k:Ki}{Q:Vq}{E:Vq}(I:Inv X pins Z H s)(r:CY X.K CL H A v d)(q:BM v u)(hT:tyK k=Ab T)(hd:QX d=Aa)(h:∀ s',Inv X pins Z H s'->Q (.bool (kiD up k d)) s'):
  Aw (model X.prog X.w) X.A (call (.builtin "isinstance") [u,.type T]) Q E s:=by
 have r':=r.plain;have it:=λt=>h _ (I.tok t)
 cases d with
 |obj=>cases hd
 |exc=>cases hd
 |dic=>cases hd
 |non=>
  cases r';cases q;cases k<;>simp only[tyK]at hT<;>cases hT
  .exact IsiPair.NoneType_int (it _)
  .exact IsiPair.NoneType_bool (it _)
  .exact IsiPair.NoneType_str (it _)
  .exact IsiPair.NoneType_list (it _)
  .exact IsiPair.NoneType_tuple (it _)
 |bl b=>
  cases r';cases q;cases k<;>simp only[tyK]at hT<;>cases hT
  .exact IsiPair.bool_int (h _ I)
  .exact IsiPair.bool_bool (h _ I)
  .exact IsiPair.bool_str (it _)
  .exact IsiPair.bool_list (it _)
  .exact IsiPair.bool_tuple (it _)
 |int i=>
  cases r';obtain⟨t,rfl⟩:=q;cases k<;>simp only[tyK]at hT<;>cases hT
  .exact IsiPair.int_int (h _ I)
  .exact IsiPair.int_bool (it _)
  .exact IsiPair.int_str (it _)
  .exact IsiPair.int_list (it _)
  .exact IsiPair.int_tuple (it _)
 |str x=>
  cases r';obtain⟨t,rfl⟩:=q;cases k<;>simp only[tyK]at hT<;>cases hT
  .exact IsiPair.str_int (it _)
  .exact IsiPair.str_bool (it _)
  .exact IsiPair.str_str (h _ I)
  .exact IsiPair.str_list (it _)
  .exact IsiPair.str_tuple (it _)
 |tup ds=>
  obtain⟨p,xs,rfl,_,sq,rr⟩:=r';obtain⟨its,rv,pt,_⟩:=I.tuple sq;cases q;have pt':s.heap.IsTuple p its.toArray:=pt;cases k<;>simp only[tyK]at hT<;>cases hT
  .exact IsiPair.isTuple_int pt' (λ_ _ e=>e) (it _)
  .exact IsiPair.isTuple_bool pt' (λ_ _ e=>e) (it _)
  .exact IsiPair.isTuple_str pt' (λ_ _ e=>e) (it _)
  .exact IsiPair.isTuple_list pt' (λ_ _ e=>e) (it _)
  .exact IsiPair.isTuple_tuple pt' (λ_ _ e=>e) (h _ I)
 |lst ds=>
  obtain⟨p,xs,rfl,_,sq,rr⟩:=r';obtain⟨its,rv,pl,_⟩:=I.list sq;cases q;have pt':s.heap.IsList p its.toArray:=Mj pl;cases k<;>simp only[tyK]at hT<;>cases hT
  .exact IsiPair.isList_int pt' (λ_ _ e=>e) (it _)
  .exact IsiPair.isList_bool pt' (λ_ _ e=>e) (it _)
  .exact IsiPair.isList_str pt' (λ_ _ e=>e) (it _)
  .exact IsiPair.isList_list pt' (λ_ _ e=>e) (h _ I)
  .exact IsiPair.isList_tuple pt' (λ_ _ e=>e) (it _)
theorem fR{k:Ki}(hT:tyK k=Ab T)(p:Bg Rp W H (Fo up [k] d) Q):QX d=Aa/\Bg Rp W H (.ok (.bl (kiD up k d))) Q:=by
 cases k<;>simp only[tyK]at hT<;>cases hT<;>cases d<;>first|exact p.elim|exact⟨rfl,by simpa using p⟩
theorem sC{k:Ki}{p2:AY}(hT:tyK k=Ab T)(hg:Gl X "isinstance")(hm:X.mg "isinstance" = Ad)(hg2:Gl X x)(hm2:X.mg x=Ad)(hv:Dc x=Ab (.type T))(hn:x≠"__name__")(hdb:(x==("__debug__" : Ak))=Af)(ha:ST X CL W a fa)(he:AB [a,.Name x p2] X.env=(Af,eval a X.env)::AB [.Name x p2] X.env):SE X CL W (.Call (.Name "isinstance" p) [a,.Name x p2] [] pos) (λU=>(fa U).bind λx=>Fo up [k] x):=λA=>
 PE.weak (L5 (r:=λxs H Q=>∃ y d,xs=[y,.ty T]/\CY X.K CL H A y d/\QX d=Aa/\Q (.bl (kiD up k d)) H) (λpins s Z H xs us Q I r ⟨y,d,e,ry,hd,q⟩=>by
   subst e;obtain⟨u,w',rfl,r1,r2⟩:=Nu r;cases r2;exact uL I ry r1 hT hd λs' I'=>⟨.bl _,H,I',rfl,q⟩)
  hg hm G6 (EH (ha A) (EH (U_9 (v:=.ty T) hg2 hm2 hv rfl hn hdb) F7 rfl) he) (by decide) (by decide) he rfl) λZ H Q ⟨hA,U,g,q⟩=>⟨hA,U,g,Bg.bind q λd v H1 _ s1 r1 p1=>by
   obtain⟨hd,p2⟩:=fR hT p1;exact⟨v,d,rfl,r1,hd,p2 _ H1 (AN.refl H1) rfl⟩⟩
theorem lE{b:Aj}{A':AV}{E:Vq}{Q:Aj->Ap->Prop}(r:Rep X.K CL H A v d)(q:BM v u)(h:GX d=.ok b)(hq:Q b s):Aw (model prog w) A' (truthy u) Q E s:=by
 cases d with
 |non=>
  cases r;cases q;cases h;exact truthy_none hq
 |bl k=>
  cases r;cases q;cases h;exact DA hq
 |int i=>
  cases r;obtain⟨t,rfl⟩:=q;cases h;exact truthy_int hq
 |_=>cases h
theorem S5:∀{ds:Ac D}{b:Aj},FP ds=.ok b->(∀ j,j<ds.length->∃ c,GX (ds.getD j .non)=.ok c)/\b=(AD ds.length).all λj=>match GX (ds.getD j .non) with
  |.ok c=>c
  |_=>Af
 |[],b,h=>by cases h;exact⟨λj hj=>absurd hj (Nat.not_lt_zero _),rfl⟩
 |d::ds,b,h=>by
  rw[SU]at h;cases e:GX d with
  |bad=>rw[e]at h;cases h
  |exn x=>rw[e]at h;cases h
  |ok c=>
   rw[e,R.bind_ok]at h;cases e2:FP ds with
   |bad=>rw[e2]at h;cases h
   |exn x=>rw[e2]at h;cases h
   |ok c2=>
    rw[e2,R.bind_ok]at h;cases h;obtain⟨h1,h2⟩:=S5 e2;refine⟨λj hj=>?_,?_⟩
    .cases j with
     |zero=>exact⟨c,e⟩
     |succ j=>exact h1 j (by simpa using hj)
    .rw[A5,Sy,h2];show (c&&_)=((match GX d with | .ok c=>c|_=>Af)&&_)
     rw[e];rfl
theorem rL{ds:Ac D}{its:Ac Ai}(r:Reps X.K CL H A0 xs ds)(rv:Bb xs its){v:Ai}(h:its.toArray[j]?=Ab v):j<ds.length/\∃ x,Rep X.K CL H A0 x (ds.getD j .non)/\BM x v:=by
 have h':its[j]?=Ab v:=by simpa using h
 obtain⟨hj,e⟩:=AZ.mp h';obtain⟨x,rx,q⟩:=Lo r rv hj;have l1:=rv.length;have l2:=r.length
 exact⟨by omega,x,rx,by rw[<-e];exact q⟩
theorem ar(k:∀ b q,b∉[h.objs.size]->(h.push o).get? b=Ab q->h'.get? b=Ab q):∀ b q,h.get? b=Ab q->h'.get? b=Ab q:=λb q e=>k b q (by
 intro z;have:=A6.mp z;rw[this]at e;exact absurd (AL e) (Bk _)) (Aq _ e)
theorem vS(hc:X.calm=Aa):Lp X CL W (.builtin "all") (biD .all):=by
  intro A pins s Z H xs us Q I r ⟨hA,ds,rs,p⟩
  match ds,rs,p with
  |[.lst es],rs,p=>
    obtain⟨v,rfl,rv⟩:=rs.one;obtain⟨q,ys,e,_,sq,ry⟩:=rv.plain;subst e;obtain⟨u,rfl,ru⟩:=J3 r;cases ru;rw[bd]at p;cases e1:FP es with
    |bad=>rw[e1]at p;exact p.elim
    |exn x=>
      exfalso
      have:∀(es:Ac D) x,FP es≠.exn x:=by
        intro es
        induction es with
        |nil=>intro x h;cases h
        |cons d ds ih=>
          intro x h;rw[SU]at h;cases e:GX d with
          |bad=>rw[e]at h;cases h
          |exn y=>cases d<;>cases e
          |ok c=>
            rw[e,R.bind_ok]at h;cases e2:FP ds with
            |bad=>rw[e2]at h;cases h
            |exn y=>exact ih y e2
            |ok c2=>rw[e2]at h;cases h
      exact this es x e1
    |ok b=>
      rw[e1,R.bind_ok]at p;obtain⟨h1,h2⟩:=S5 e1;obtain⟨its,rvv,pl,_⟩:=I.list sq;have hlt:q<s.heap.objs.size:=by obtain⟨o,n,e,_⟩:=pl;exact AL e
      have hl:its.toArray.size=es.length:=by rw[AO,<-rvv.length,ry.length]
      refine call_all_walk (Gw (Mj pl) ⟨s.heap.objs.size,_,_,_,_,_,(λj=>match GX (es.getD j .non) with | .ok c=>c|_=>Af),rfl,aP (A:=X.A.in1) (I.ok.hd hc) s.heap.objs.size q (AW hlt) its.toArray,⟨⟨_,AH _ rfl,rfl,rfl⟩,(Mj pl).push _⟩,λj v s' Q' E' hv hQ=>?_,λh' tk k=>?_⟩)
      · obtain⟨hj,x,rx,qx⟩:=rL ry rvv hv;obtain⟨c,ec⟩:=h1 j hj;exact lE rx qx ec (by dsimp only at hQ;rw[ec]at hQ;exact hQ)
      · rw[hl,<-h2];exact⟨.bl b,H,I.kept (ar k),rfl,p _ H (AN.refl H) rfl⟩
  |[],_,p=>exact p.elim
  |[.non],_,p=>exact p.elim
  |[.bl _],_,p=>exact p.elim
  |[.int _],_,p=>exact p.elim
  |[.str _],_,p=>exact p.elim
  |[.tup _],_,p=>exact p.elim
  |[.obj _ _],_,p=>exact p.elim
  |[.exc _ _],_,p=>exact p.elim
  |[.dic _],_,p=>exact p.elim
  |x::_::_,_,p=>cases x<;>exact p.elim
end
section
variable(K:Fg)(CL:ClA)
def bh(H0:Hp)(A:Al->Prop)(H:Hp)(v:V)(d:D):Prop:=∀ ds,d=.lst ds->∃ a xs,v=.ref a/\H0 a=Ad/\H a=Ab (.lst xs)/\Reps K CL H (λb=>A b\/b=a) xs ds
def EV(fr:Aj)(H0:Hp)(A:Al->Prop)(H:Hp)(v:V)(d:D):Prop:=Rep K CL H A v d/\(fr=Aa->bh K CL H0 A H v d)
end
section
variable{X:Cx}{CL:ClA}{W:XW}{a b c:An}{fa fb fc:Rho->R D}{pos:AY}
def SC(X:Cx)(CL:ClA)(W:XW)(fr:Aj)(e:An)(f:Rho->R D):Prop:=∀ A,PE X e (λZ H Q=>AOk H A/\∃ U,Good X.K CL A U Z H/\Bg (EV X.K CL fr H A) W H (f U) Q)
theorem SC.se{fr:Aj}(h:SC X CL W fr a fa):SE X CL W a fa:=λA=>PE.weak (h A) λZ H Q ⟨hA,U,g,p⟩=>⟨hA,U,g,by
 cases e:fa U with
 |ok d=>rw[e]at p;exact λv H' s r=>p v H' s r.1
 |exn x=>rw[e]at p;exact p
 | bad=>rw[e]at p;exact p⟩
theorem SE.sc(h:SE X CL W a fa):SC X CL W Af a fa:=λA=>PE.weak (h A) λZ H Q ⟨hA,U,g,p⟩=>⟨hA,U,g,by
 cases e:fa U with
 |ok d=>rw[e]at p;exact λv H' s r=>p v H' s ⟨r,λz=>nomatch z⟩
 |exn x=>rw[e]at p;exact p
 | bad=>rw[e]at p;exact p⟩
theorem SC.congr{fr:Aj}{f g:Rho->R D}(h:SC X CL W fr a f)(e:∀ U,g U=f U):SC X CL W fr a g:=λA=>PE.weak (h A) λZ H Q ⟨hA,U,q,p⟩=>⟨hA,U,q,by rw[<-e];exact p⟩
theorem L4{p:Al}{ds:Ac D}(s:AN H0 H)(hA:AOk H A)(hp:H p=Ad)(r:Reps K CL H A xs ds):EV K CL Aa H0 A (upd H p (.lst xs)) (.ref p) (.lst ds):=
 ⟨QL hA hp r,λ_ ds' e=>by
  cases e;exact⟨p,xs,rfl,s.free hp,Hv,(Reps.wide (λa ha=>ha.imp id λe=>by rw[e];exact hp) _ r).same (GR hp _)⟩⟩
theorem oA{fr:Aj}(r:Rep K CL H A v d)(h:∀ ds,d≠.lst ds):EV K CL fr H0 A H v d:=⟨r,λ_ ds e=>absurd e (h ds)⟩
theorem Q1(hs:SA X CL W es fs)(hz:∀ U ds,fs U=.ok ds->ds.length<=100000):SC X CL W Aa (.List es pos) (λU=>(fs U).bind λxs=>.ok (.lst xs)):=
 λA=>PE.weak (uU (hs A)) λZ H Q ⟨hA,U,g,p⟩=>⟨hA,U,g,HX.bind p λds vs H1 e s1 r1 p1=>⟨by
  rw[r1.length,Bv];have:=hz U ds e;omega,λq hq=>p1 _ _ (GR hq _) (L4 s1 (hA.same s1) hq r1)⟩⟩
theorem Bg.bindF{fr:Aj}{f:D->R D}{Q':VK}(h:Bg (EV K CL fr H A) W H (r.bind f) Q)(k:∀ d v H',r=.ok d->AN H H'->Rp H' v d->Bg (EV K CL fr H A) W H' (f d) Q->Q' v H'):Bg Rp W H r Q':=by
 cases r with
 |ok d=>exact λv H2 s2 q=>k d v H2 rfl s2 q (Bg.same s2 h)
 |exn x=>exact h
 |bad=>exact h
theorem HX.bindF{Rp:Hp->Ac V->Ac D->Prop}{r:R (Ac D)}{f:Ac D->R D}{Q':Ac V->Hp->Prop}(h:Bg Rq W H (r.bind f) Q)(k:∀ d v H',r=.ok d->AN H H'->Rp H' v d->Bg Rq W H' (f d) Q->Q' v H'):HX Rp W H r Q':=by
 cases r with
 |ok d=>exact λv H2 s2 q=>k d v H2 rfl s2 q (Bg.same s2 h)
 |exn x=>exact h
 |bad=>exact h
theorem NB.bindF{r:R (Ao Ag)}{f:Ao Ag->R D}(h:Bg Rq W H (r.bind f) Q)(k:∀ o H',r=.ok o->AN H H'->Bg Rq W H' (f o) Q->Q' o H'):NB W H r Q':=by
 cases r with
 |ok d=>exact λH2 s2=>k d H2 rfl s2 (Bg.same s2 h)
 |exn x=>exact h
 |bad=>exact h
noncomputable def OpN(X:Cx)(CL:ClA)(W:XW)(f:Ai->Ai->DZ Ai)(g:D->D->R D):Prop:=
 ∀ A H0,OpR X f (λx y H Q=>AN H0 H/\AOk H A/\∃ dx dy,CY X.K CL H A x dx/\CY X.K CL H A y dy/\Bg (EV X.K CL Aa H0 A) W H (g dx dy) Q)
theorem nF:OpN X CL W (Ct .Add) (Dr .Add):=by
 intro A H0 pins s Z H x y v u Q I rx ry ⟨s0,hA,dx,dy,hx,hy,p⟩;have key:(∀ ds,dx≠.lst ds)->EP X pins Z Q=EP X pins Z Q->Aw (model X.prog X.w) X.A (Ct .Add v u) (EP X pins Z Q) X.xe s:=λhd _=>by
  refine Va (W:=W) A pins s Z H x y v u Q I rx ry ⟨hA,dx,dy,hx,hy,?_⟩;cases e:Dr .Add dx dy with
  |bad=>rw[e]at p;exact p
  |exn x=>rw[e]at p;exact p
  |ok d=>
   rw[e]at p;refine λv' H' s' r'=>p v' H' s' (oA r' λds z=>?_)
   subst z;cases dx with
   |lst ds=>exact hd _ rfl
   |tup xs=>
    cases dy with
    |tup ys=>rw[Wk]at e;split at e<;>cases e
    |_=>cases e
   |str xs=>
    cases dy with
    |str ys=>rw[Rh]at e;split at e<;>cases e
    |_=>cases e
   |int i=>cases dy<;>cases e
   |_=>cases e
 cases dx with
 |lst ds=>
  cases dy with
  |lst es=>
   obtain⟨a,xs,rfl,s1,r1⟩:=hx.lst_of;obtain⟨b,ys,rfl,s2,r2⟩:=hy.lst_of;simp only[Wl]at p;split at p
   .rename_i h;refine Vb pins s Z H _ _ v u Q I rx ry ⟨a,b,xs,ys,rfl,rfl,s1,s2,by rw[r1.length,r2.length];exact JU h,λq hq=>?_⟩
    exact p _ _ (GR hq _) (L4 s0 hA hq (r1.append r2))
   .exact p.elim
  |_=>exact p.elim
 |_=>exact key (by intro _ z;cases z) rfl
theorem tO(ha:ST X CL W a fa)(hb:ST X CL W b fb):SC X CL W Aa (.BinOp a .Add b pos) (λU=>(fa U).bind λx=>(fb U).bind λy=>Dr .Add x y):=
 λA pins s Z H Q I h=>by
  obtain⟨hA,U,g,p⟩:=h;exact Wx (nF (W:=W) A H) (ha A) (hb A) pins s Z H Q I ⟨hA,U,g,Bg.bindF p λdx x H1 _ s1 r1 p1=>⟨hA.same s1,U,g.same s1,Bg.bind (Rq:=EV X.K CL Aa H A) p1 λdy y H2 _ s2 r2 p2=>⟨s1.trans s2,(hA.same s1).same s2,dx,dy,r1.same s2,r2,p2⟩⟩⟩
def O2(X:Cx)(CL:ClA)(W:XW)(f:Ai)(g:Ac D->R D):Prop:=∀ A H0,IJ X f (λxs H Q=>AN H0 H/\AOk H A/\∃ ds,GV X.K CL H A xs ds/\Bg (EV X.K CL Aa H0 A) W H (g ds) Q)
theorem pU:O2 X CL W (.type "list") (biD .list):=by
  intro A H0 pins s Z H xs us Q I r ⟨s0,hA,ds,rs,p⟩
  match ds,rs,p with
  |[.lst es],rs,p=>
    obtain⟨v,rfl,rv⟩:=rs.one;obtain⟨q,ys,rfl,sq,ry⟩:=rv.lst_of;exact SG pins s Z H _ us Q I r ⟨q,ys,rfl,.inl sq,λl hl=>p _ _ (GR hl _) (L4 s0 hA hl ry)⟩
  |[.tup es],rs,p=>
    obtain⟨v,rfl,rv⟩:=rs.one;obtain⟨q,ys,rfl,_,sq,ry⟩:=rv.tup_of;exact SG pins s Z H _ us Q I r ⟨q,ys,rfl,.inr sq,λl hl=>p _ _ (GR hl _) (L4 s0 hA hl ry)⟩
  |[],_,p=>exact p.elim
  |[.non],_,p=>exact p.elim
  |[.bl _],_,p=>exact p.elim
  |[.int _],_,p=>exact p.elim
  |[.str _],_,p=>exact p.elim
  |[.obj _ _],_,p=>exact p.elim
  |[.exc _ _],_,p=>exact p.elim
  |[.dic _],_,p=>exact p.elim
  |x::_::_,_,p=>cases x<;>exact p.elim
theorem tM{g:Ac D->R D}(hc:O2 X CL W (.type T) g)(hg:Gl X x)(hm:X.mg x=Ad)(hv:Dc x=Ab (.type T))(ha:SAT X CL W (e::es) fs)(hn:x≠"__name__")(hdb:(x==("__debug__" : Ak))=Af)(he:AB (e::es) X.env=(Af,eval e X.env)::AB es X.env)(hpl:∀ pos,(Cc pos (AB es X.env)).any (·.1)=Af):SC X CL W Aa (.Call (.Name x p) (e::es) [] pos) (λU=>(fs U).bind g):=λA pins s Z H Q I ⟨hA,U,gd,q⟩=>
 Tw (hc A H) hg hm hv (ha A) hn hdb he (hpl _) pins s Z H Q I ⟨hA,U,gd,HX.bindF q λds vs H1 _ s1 r1 p1=>⟨s1,hA.same s1,ds,r1,p1⟩⟩
theorem tN{g:Ac D->R D}(hc:O2 X CL W (.builtin id) g)(hg:Gl X x)(hm:X.mg x=Ad)(hv:Dc x=Ab (.builtin id))(ha:SAT X CL W (e::es) fs)(hn:x≠"__name__")(hdb:(x==("__debug__" : Ak))=Af)(he:AB (e::es) X.env=(Af,eval e X.env)::AB es X.env)(hpl:∀ pos,(Cc pos (AB es X.env)).any (·.1)=Af):SC X CL W Aa (.Call (.Name x p) (e::es) [] pos) (λU=>(fs U).bind g):=λA pins s Z H Q I ⟨hA,U,gd,q⟩=>
 L5 (hc A H) hg hm hv (ha A) hn hdb he (hpl _) pins s Z H Q I ⟨hA,U,gd,HX.bindF q λds vs H1 _ s1 r1 p1=>⟨s1,hA.same s1,ds,r1,p1⟩⟩
mutual
theorem WU{K:Fg}{H:Hp}{A:Al->Prop}(hA:AOk H A):∀(n:Ae)(d:D){v:V},nlD n d=Aa->Rep K CL H A0 v d->Rep K CL H A v d
 |_,.non,_,_,h=>h
 |_,.bl _,_,_,h=>h
 |_,.int _,_,_,h=>h
 |_,.str _,_,_,h=>h
 |0,.tup _,_,hn,_=>by cases hn
 |n+1,.tup ds,_,hn,h=>by
  obtain⟨a,xs,e,_,s,r⟩:=h;refine⟨a,xs,e,?_,s,nls_up hA n ds hn r⟩;rcases s with s|s
  .refine .inl λz=>?_
   obtain⟨ys,q⟩:=hA a z;rcases s with s|⟨o,s⟩<;>rw[q]at s<;>cases s
  .exact .inr s
 |n,.lst _,_,hn,_=>by cases n<;>cases hn
 |n,.obj _ _,_,hn,_=>by cases n<;>cases hn
 |n,.exc _ _,_,hn,_=>by cases n<;>cases hn
 |n,.dic _,_,hn,_=>by cases n<;>cases hn
theorem nls_up{K:Fg}{H:Hp}{A:Al->Prop}(hA:AOk H A):∀(n:Ae)(ds:Ac D){vs:Ac V},ds.all (nlD n)=Aa->Reps K CL H A0 vs ds->Reps K CL H A vs ds
 |_,[],[],_,h=>h
 |n,d::ds,_::_,hn,h=>by
  simp only[EA,Am]at hn;exact⟨WU hA n d hn.1 h.1,nls_up hA n ds hn.2 h.2⟩
 |_,[],_::_,_,h=>h.elim
 |_,_::_,[],_,h=>h.elim
end
theorem Wf{fr:Aj}(hA0:AOk H0 A)(s:AN H0 H)(hc:Fq fr d=Aa)(r:EV K CL fr H0 A0 H v d):EV K CL fr H0 A H v d:=by
 have hA:=hA0.same s;cases d with
 |lst ds=>
  have hc':(fr&&ds.all (nlD 5))=Aa:=hc;rw[Am]at hc';obtain⟨a,xs,e,h0,h1,rs⟩:=r.2 hc'.1 ds rfl;have hA2:AOk H (λb=>A b\/b=a):=λb hb=>hb.elim (hA b) λe=>by rw[e];exact⟨xs,h1⟩
  have rs':=nls_up hA2 5 ds hc'.2 (Reps.sub (λ_ z=>z.elim) _ rs)
  refine⟨⟨a,xs,e,.inl (hA0.new h0),SqL.of h1,Reps.sub (λ_ z=>.inl z) _ rs'⟩,λ_ ds' e'=>?_⟩
  cases e';exact⟨a,xs,e,h0,h1,rs'⟩
 |_=>exact⟨WU hA 5 _ hc r.1,λ_ _ z=>nomatch z⟩
def spD(K:Fg)(CL:ClA)(n:Ae)(fr:Aj)(F:Ac D->R D):Sp:=λvs H Q E=>∃(ds:Ac D)(A:Al->Prop),vs.length=n/\AOk H A/\Reps K CL H A vs ds/\(match F ds with
  |.ok d=>∀ v H',AN H H'->EV K CL fr H A H' v d->Q v H'
  |.exn x=>∀ cls dx H',AN H H'->GU K CL H' cls dx x->E cls dx H'
  | .bad=>Ba)
def EKW(K:Fg)(CL:ClA)(A:Al->Prop)(W:XW):XK:=λcls dx H'=>∃ x,GU K CL H' cls dx x/\W x H'
theorem GV.plain{K:Fg}{H:Hp}{A:Al->Prop}:∀{vs:Ac V}{ds:Ac D},GV K CL H A vs ds->Reps K CL H A0 vs ds
 |[],[],h=>trivial
 |_::_,_::_,h=>⟨h.1.plain,GV.plain h.2⟩
 |[],_::_,h=>h.elim
 |_::_,[],h=>h.elim
theorem nU{CX:CXT}{fr:Aj}{f:Al}{fd:Co}{ps:Ac Ak}{F:Ac D->R D}{ft:Rho->R (Ac D)}{sh:Rho->Aj}(G:FnOk X.prog X.w X.K X.mg X.base CX k f fd ps (spD X.K CL n fr F))(hr:Room k X.A)(hg:Gl X x)(hm:X.mg x=Ab (.ref f))(hk:CH X.K (.ref f)=Aa)(hb:HY X.K fd ps [])(hx:∀ A,Mm CX X (EKW X.K CL A W))(ha:SA X CL W (e::es) fs)(hat:SAT X CL W (e::es) ft)(hst:∀ U,sh U=Aa->ft U=fs U)(hn:∀ U ds,ft U=.ok ds->ds.length=n)(hdb:(x==("__debug__" : Ak))=Af)(he:AB (e::es) X.env=(Af,eval e X.env)::AB es X.env)(hpl:∀ pos,(Cc pos (AB es X.env)).any (·.1)=Af):SC X CL W fr (.Call (.Name x p) (e::es) [] pos) (λU=>(ft U).bind λds=>(F ds).bind λd=>if sh U=Aa then .ok d else if Fq fr d=Aa then .ok d else .bad):=λA pins s Z H Q I ⟨hA,U,gd,q⟩=>by
 dsimp only at q;by_cases hs:sh U=Aa
 .rw[hst U hs]at q;refine U_8 G hr hg hm hk hb .nil (hx A) (ha A) hdb he (hpl _) pins s Z H Q I ⟨hA,U,gd,?_⟩;cases e1:fs U with
  |bad=>rw[e1]at q;exact q
  |exn y=>rw[e1]at q;exact q
  |ok ds=>
   rw[e1]at q;intro vs H1 s1 r1;refine⟨ds,A,by rw[Bu,r1.length];exact hn U ds (by rw[hst U hs];exact e1),hA.same s1,by rw[Bu];exact r1,?_⟩
   have q':Bg (EV X.K CL fr H A) W H ((F ds).bind λd=>if sh U=Aa then .ok d else if Fq fr d=Aa then .ok d else .bad) Q:=q
   cases e2:F ds with
   |ok d=>
    rw[e2,R.bind_ok,Ar hs]at q';exact λv H2 s2 r2=>q' v H2 (s1.trans s2) ⟨r2.1,λz ds' e'=>let ⟨a,xs,z1,z2,z3⟩:=r2.2 z ds' e';⟨a,xs,z1,s1.free z2,z3⟩⟩
   |exn y=>rw[e2]at q';exact λcls dx H2 s2 xr=>⟨y,xr,q' H2 (s1.trans s2)⟩
   |bad=>rw[e2]at q';exact q'.elim
 .refine U_8 G hr hg hm hk hb .nil (hx A0) (hat A) hdb he (hpl _) pins s Z H Q I ⟨hA,U,gd,?_⟩;cases e1:ft U with
  |bad=>rw[e1]at q;exact q
  |exn y=>rw[e1]at q;exact q
  |ok ds=>
   rw[e1]at q;intro vs H1 s1 r1;refine⟨ds,A0,by rw[Bu,r1.plain.length];exact hn U ds e1,λ_ z=>z.elim,by rw[Bu];exact r1.plain,?_⟩
   have q':Bg (EV X.K CL fr H A) W H ((F ds).bind λd=>if sh U=Aa then .ok d else if Fq fr d=Aa then .ok d else .bad) Q:=q
   cases e2:F ds with
   |ok d=>
    rw[e2,R.bind_ok,As hs]at q';split at q'
    .rename_i hc;exact λv H2 s2 r2=>q' v H2 (s1.trans s2) (Wf hA (s1.trans s2) hc ⟨r2.1,λz ds' e'=>let ⟨a,xs,z1,z2,z3⟩:=r2.2 z ds' e';⟨a,xs,z1,s1.free z2,z3⟩⟩)
    .exact q'.elim
   |exn y=>rw[e2]at q';exact λcls dx H2 s2 xr=>⟨y,xr,q' H2 (s1.trans s2)⟩
   |bad=>rw[e2]at q';exact q'.elim
end
theorem P5(env:CU):∀(ns:Ac (Ak×E4))(acc:Ac (Ak×Al)),(∀ x∈ns,x.2=.free->∃ c,env.cells.lookup x.1=Ab c)->(∀ x c,acc.lookup x=Ab c->env.cells.lookup x=Ab c) ->
  ∃ cl,(forIn ns acc fun(x:Ak×E4)(cs:Ac (Ak×Al))=>(if (x.2==.free)=Aa then do let c <-cellOf env x.1;pure (Fj ((x.1,c)::cs)) else pure (Fj cs):DZ (ForInStep (Ac (Ak×Al)))))=pure cl /\
   (∀ x c,cl.lookup x=Ab c->env.cells.lookup x=Ab c)/\(∀ x,((x,ED)∈ns\/∃ c,acc.lookup x=Ab c)->∃ c,cl.lookup x=Ab c)
 |[],acc,_,h2=>⟨acc,by rw[Hn],h2,λx hx=>hx.elim (λz=>nomatch z) id⟩
 |(n,k)::r,acc,h1,h2=>by
  rw[IT];by_cases hk:k=.free
  .subst hk;obtain⟨c,hc⟩:=h1 (n,.free) AM rfl;obtain⟨cl,e,p,q⟩:=P5 env r ((n,c)::acc) (λx hx=>h1 x (AG _ hx)) (λx d hd=>by
    rw[Cy]at hd;split at hd
    .rename_i hx;cases hd;rw[eq_of_beq hx];exact hc
    .exact h2 x d hd)
   refine⟨cl,?_,p,λx hx=>q x ?_⟩
   .have e1:cellOf env n=pure c:=by unfold cellOf;dsimp only at hc;rw[hc]
    rw[Ar (by rfl),e1]
    exact e
   .rcases hx with hx|⟨d,hd⟩
    .rcases AJ.mp hx with z|z
     .cases z;exact .inr ⟨c,by simp[Cy]⟩
     .exact .inl z
    .by_cases hxn:x=n
     .exact .inr ⟨c,by subst hxn;simp[Cy]⟩
     .exact .inr ⟨d,by rw[Cy];rw[E7.mpr hxn];exact hd⟩
  .obtain⟨cl,e,p,q⟩:=P5 env r acc (λx hx=>h1 x (AG _ hx)) h2
   refine⟨cl,?_,p,λx hx=>q x ?_⟩
   .rw[As (by simpa using hk)]
    exact e
   .rcases hx with hx|hx
    .rcases AJ.mp hx with z|z
     .cases z;exact absurd rfl hk
     .exact .inl z
    .exact .inr hx
theorem SR(h:∀ x∈scope.names,x.2=.free->∃ c,env.cells.lookup x.1=Ab c):∃ cl,closureFor scope env=pure cl/\(∀ x c,cl.lookup x=Ab c->env.cells.lookup x=Ab c)/\∀ x,(x,ED)∈scope.names->∃ c,cl.lookup x=Ab c:=by
 obtain⟨cl,e,p,q⟩:=P5 env scope.names [] h (λx c z=>by simp at z)
 refine⟨cl,?_,p,λx hx=>q x (.inl hx)⟩
 unfold closureFor
 first
  |exact e
  |(simp only[bind_pure];exact e)
  |(rw[show (forIn scope.names ([]:Ac (Ak×Al)) _:DZ _)=pure cl from e];rfl)
theorem PQ:∀(names:Ac (Ak×E4))(h:AK)(acc:Ac (Ak×Al))(x:Ak)(c:Al),(DM h.objs.size names acc).lookup x=Ab c->acc.lookup x=Ab c\/((x,B9)∈names/\h.objs.size<=c/\(HJ h names).IsCell c Ad)
 |[],_,_,_,_,e=>.inl e
 |(n,k)::r,h,acc,x,c,e=>by
  unfold DM at e;unfold HJ;by_cases hk:(k==B9)=Aa
  .rw[Ar hk]at e ⊢;have hs:h.objs.size+1=(h.push { cls:=.type "cell",data:=.cell Ad }).objs.size:=(Bh ..).symm;rw[hs]at e;rcases PQ r _ _ x c e with q|⟨q1,q2,q3⟩
   .rw[Cy]at q;cases hx:x==n with
    |true=>
     rw[hx]at q;cases q;refine .inr ⟨?_,Ay _,?_⟩
     .rw[eq_of_beq hx,eq_of_beq hk];exact AM
     .exact⟨_,Jc r _ _ _ (AH _ rfl),rfl⟩
    |false=>rw[hx]at q;exact .inl q
   .exact .inr ⟨AG _ q1,by omega,q3⟩
  .rw[As hk]at e ⊢;rcases PQ r h acc x c e with q|⟨q1,q2,q3⟩
   .exact .inl q
   .exact .inr ⟨AG _ q1,q2,q3⟩
theorem PR:∀(names:Ac (Ak×E4))(h:AK)(acc:Ac (Ak×Al)),(∀ x y c,acc.lookup x=Ab c->acc.lookup y=Ab c->x=y)->(∀ x c,acc.lookup x=Ab c->c<h.objs.size)->∀ x y c,(DM h.objs.size names acc).lookup x=Ab c->(DM h.objs.size names acc).lookup y=Ab c->x=y
 |[],_,_,i,_,x,y,c,e1,e2=>i x y c e1 e2
 |(n,k)::r,h,acc,i,b,x,y,c,e1,e2=>by
  unfold DM at e1 e2;by_cases hk:(k==B9)=Aa
  .rw[Ar hk]at e1 e2;have hs:h.objs.size+1=(h.push { cls:=.type "cell",data:=.cell Ad }).objs.size:=(Bh ..).symm;rw[hs]at e1 e2;have look:∀ z d,Jf z ((n,h.objs.size)::acc)=Ab d->(z=n/\d=h.objs.size)\/(z≠n/\acc.lookup z=Ab d):=λz d q=>by
    rw[Cy]at q;cases hx:z==n with
    |true=>rw[hx]at q;cases q;exact .inl ⟨eq_of_beq hx,rfl⟩
    |false=>rw[hx]at q;exact .inr ⟨λe=>by rw[e]at hx;simp at hx,q⟩
   refine PR r _ _ (λz z' d q q'=>?_) (λz d q=>?_) x y c e1 e2
   .rcases look z d q with ⟨rfl,q1⟩|⟨_,q1⟩<;>rcases look z' d q' with ⟨rfl,q2⟩|⟨_,q2⟩
    .rfl
    .exact absurd (b _ _ q2) (by rw[q1];exact Bk _)
    .exact absurd (b _ _ q1) (by rw[q2];exact Bk _)
    .exact i _ _ _ q1 q2
   .rw[<-hs];rcases look z d q with ⟨_,q1⟩|⟨_,q1⟩
    .rw[q1];exact FL _
    .exact By (b _ _ q1)
  .rw[As hk]at e1 e2;exact PR r h acc i b x y c e1 e2
theorem P6:∀(names:Ac (Ak×E4))(n:Ae)(acc:Ac (Ak×Al))(x:Ak),(x,B9)∉names->(DM n names acc).lookup x=acc.lookup x
 |[],_,_,_,_=>rfl
 |(m,k)::r,n,acc,x,hx=>by
  unfold DM;have hr:(x,B9)∉r:=λz=>hx (AG _ z)
  by_cases hk:(k==B9)=Aa
  .rw[Ar hk,P6 r _ _ x hr,Cy];cases q:x==m with
   |true=>exact absurd (by rw[eq_of_beq q,eq_of_beq hk];exact AM) hx
   |false=>rfl
  .rw[As hk];exact P6 r n acc x hr
theorem PU(n0:Ae):∀(names:Ac (Ak×E4))(n:Ae)(acc:Ac (Ak×Al))(x:Ak),n0<=n->((x,B9)∈names\/∃ c,acc.lookup x=Ab c/\n0<=c)->∃ c,(DM n names acc).lookup x=Ab c/\n0<=c
 |[],_,_,_,_,h=>h.elim (λz=>nomatch z) id
 |(m,k)::r,n,acc,x,hn,h=>by
  unfold DM;by_cases hk:(k==B9)=Aa
  .rw[Ar hk];refine PU n0 r _ _ x (by omega) ?_
   by_cases hx:(x==m)=Aa
   .exact .inr ⟨n,by rw[Cy,hx],hn⟩
   .rcases h with h|⟨c,h,hc⟩
    .rcases AJ.mp h with z|z
     .cases z;simp at hx
     .exact .inl z
    .exact .inr ⟨c,by rw[Cy];simp only[hx];exact h,hc⟩
  .rw[As hk];refine PU n0 r _ _ x hn (h.imp (λh=>?_) id)
   rcases AJ.mp h with z|z
   .cases z;simp at hk
   .exact z
theorem dN{M:E6}{A:AV}{E:Vq}{globals:Al}{qual:Ak}{Q:CU->Ap->Prop}(hQ:Q (newEnv scope s.heap.objs.size globals (DM (s.heap.objs.size+1) scope.names cl) qual Ad .none (Ab env) JP) { s with heap:=HJ (s.heap.push { cls:=.type "dict",data:=.dict #[] }) scope.names }):Aw M A (JI scope globals cl [] qual Ad .none (Ab env)) Q E s:=by
 simp only[JI,Option.isSome_some,Ir];refine Ah (wpAny_alloc ?_);refine Ah (wpAny_layCells _ (λname kind cells=>by cases hkc:kind==B9<;>simp[hkc]) _ _ _ _ ?_)
 rw[show ({ s with heap:=s.heap.push { cls:=.type "dict",data:=.dict #[] } }:Ap).heap.objs.size=s.heap.objs.size+1 from Bh ..]
 rw[Hn];exact Ah (At (At hQ))
noncomputable def cxC(X:Cx)(scope:Cr)(cl:Ac (Ak×Al))(C:Al)(N':Ac Ak)(s₀:Ap)(H₀:Hp)(fp:Ac Al):Cx where
 prog:=X.prog
 w:=X.w
 K:=X.K
 mg:=X.mg
 base:=X.base
 A:=X.A
 N:=N'
 s₀:=s₀
 H₀:=H₀
 env:=compEnvC scope cl C X.env
 outer:=X.stack
 stack:=X.stack
 ex:=fp
 fn:=λx=>scope.names.lookup x==Ab B9
 calm:=X.calm
 pn:=[]
 xe:=λ_ _=>Ba
theorem NS{env:CU}:∀{names:Ac (Ak×E4)}{x:Ak}{k:E4},(names.map λ(n,k)=>if (k==ED&&env.scope.kind==.function&&env.kindOf n==Ab .cell) then (n,B9) else (n,k)).lookup x=Ab k->names.lookup x=Ab k\/(k=.cell/\names.lookup x=Ab .free)
 |[],_,_,h=>by simp at h
 |(n,j)::r,x,k,h=>by
  have ih:=@NS env r x k;have h':Jf x ((if (j==ED&&env.scope.kind==.function&&env.kindOf n==Ab .cell)=Aa then (n,B9) else (n,j))::(r.map λ(n,k)=>if (k==ED&&env.scope.kind==.function&&env.kindOf n==Ab .cell) then (n,B9) else (n,k)))=Ab k:=h
  by_cases hc:(j==ED&&env.scope.kind==.function&&env.kindOf n==Ab .cell)=Aa
  .rw[Ar hc]at h';rw[Cy]at h' ⊢;cases hx:x==n with
   |true=>
    rw[hx]at h';cases h';simp only[Am]at hc;exact .inr ⟨rfl,by rw[eq_of_beq hc.1.1]⟩
   |false=>rw[hx]at h';exact ih h'
  .rw[As hc]at h';rw[Cy]at h' ⊢;cases hx:x==n with
   |true=>rw[hx]at h';exact .inl h'
   |false=>rw[hx]at h';exact ih h'
structure BlockOk (X:Cx) (scope:Cr) (N':Ac Ak) (ts:Ac Ae):Prop where
 kind:scope.kind=.function
 uniq:∀ y∈scope.names,scope.names.lookup y.1=Ab y.2
 names:∀ y∈scope.names,y.2=.local->scope.names.lookup y.1=Ab .local
 free:∀ y∈scope.names,y.2=.free->X.env.scope.names.lookup y.1=Ab .cell\/X.env.scope.names.lookup y.1=Ab .free
 len:N'.length=X.N.length
 same:∀ i x,N'[i]?=Ab x->scope.names.lookup x=Ab .free->i∉ts->X.N[i]?=Ab x
 loc:∀ i x,N'[i]?=Ab x->(scope.names.lookup x=Ab .local\/scope.names.lookup x=Ab .cell)->i∈ts
structure BCells (X:Cx) (scope:Cr) (cl:Ac (Ak×Al)) (C:Al) (h:AK):Prop where
 own:∀ x c,cl.lookup x=Ab c->X.env.cells.lookup x=Ab c\/(scope.names.lookup x=Ab .cell/\C<c/\h.IsCell c Ad)
 inj:∀ x y c,cl.lookup x=Ab c->cl.lookup y=Ab c->x=y
 has:∀ x,scope.names.lookup x=Ab .cell->∃ c,cl.lookup x=Ab c/\C<c
 fr:∀ x,(x,ED)∈scope.names->∃ c,cl.lookup x=Ab c/\X.env.cells.lookup x=Ab c
section
variable{X:Cx}{pins:Pn}{Z:L2.St}{H:Hp}{s:Ap}
noncomputable def hideT(ts:Ac Ae)(Z:L2.St):L2.St:=ts.foldl (λZ t=>Z.set t Ad) Z
theorem PF:∀(ts:Ac Ae)(Z:L2.St),(hideT ts Z).length=Z.length
 |[],_=>rfl
 |t::ts,Z=>by show (hideT ts (Z.set t Ad)).length=_;rw[PF ts,Bj]
theorem TJ:∀(ts:Ac Ae)(Z:L2.St){i:Ae}{v:V},(hideT ts Z)[i]?=Ab (Ab v)->Z[i]?=Ab (Ab v)/\i∉ts
 |[],_,_,_,h=>⟨h,by simp⟩
 |t::ts,Z,i,v,h=>by
  obtain⟨h1,h2⟩:=TJ ts (Z.set t Ad) (i:=i) (v:=v) h;by_cases e:t=i
  .subst e;have:=Hw h1;cases this
  .rw[CJ e]at h1;exact⟨h1,by simp only[AJ,FH];exact⟨λz=>e z.symm,h2⟩⟩
theorem eD{C:Al}{m:Ak->Ao Ai}(I:Inv X pins Z H s)(B:BlockOk X scope N' ts)(hf:∀ b∈fp,Hh X pins H b)(hfo:∀ b∈fp,b<s.heap.objs.size)(hb:BCells X scope cl C h')(hk:∀ b o,s.heap.get? b=Ab o->h'.get? b=Ab o)(hC:s.heap.objs.size<=C)(hn:h'.Ns C m):Inv (cxC X scope cl C N' s H fp) [] (hideT ts Z) H {s with heap:=h',toks:=tk}:=by
 have stf:∀ b∈fp,b∉frs X.stack:=λb hb z=>by
  rcases AJ.mp (I.stkSub b z) with e|e
  .exact(hf b hb).2.1 e
  .exact(hf b hb).2.2.1 e
 have frOf:∀ x,((relabel scope X.env).names.lookup x=Ab .cell\/(relabel scope X.env).names.lookup x=Ab .free)->scope.names.lookup x=Ab .free\/scope.names.lookup x=Ab .cell:=λx hx=>by
  rcases hx with z|z
  .rcases NS z with z|⟨_,z⟩
   .exact .inr z
   .exact .inl z
  .rcases NS z with z|⟨z,_⟩
   .exact .inl z
   .cases z
 have gtC:∀ c:Al,C<c->s.heap.objs.size<=c:=λc z=>Da hC (Fx z)
 have cellK:∀ c v,s.heap.IsCell c v->h'.IsCell c v:=λc v ⟨o,ho,hd⟩=>⟨o,hk _ _ ho,hd⟩
 refine⟨⟨I.ok.mod,B.kind,I.ok.glob,I.ok.blt,hC,hb.inj,λx hx=>?_,λx c h e=>?_,I.ok.hd,I.ok.frames,.inl rfl,λb hbb=>⟨?_,λx c e=>?_⟩,I.bs,Da I.ok.bsz I.sz,λb o e hbb=>?_,stf,I.stack,I.stkFree⟩,rfl,I.bare,Un.kept hk,⟨m,hn,λi x v h1 h2 h3=>?_⟩,λx c e=>?_,I.hok.fresh hC,λx c e=>(hb.own x c e).elim (I.freeC x c) (λz=>I.hok.fresh (gtC c z.2.1)),λp hp=>absurd (show p∈([]:Pn) from hp) (by simp),I.hok.kept hk,?_⟩
 .rcases frOf x hx with z|z
  .obtain⟨c,q,_⟩:=hb.fr x (CW z);exact⟨c,q⟩
  .obtain⟨c,q,_⟩:=hb.has x z;exact⟨c,q⟩
 .obtain⟨c',q,z⟩:=hb.has x (eq_of_beq h);have e':cl.lookup x=Ab c:=e;rw[q]at e';cases e';exact gtC _ z
 .intro z;have z':b=C:=z;have:=hfo b hbb;rw[z']at this;exact absurd (AS this hC) (Bk _)
 .rcases hb.own x c e with z|z
  .exact(hf b hbb).2.2.2.2.1 x c z
  .intro q;have:=hfo b hbb;have:=gtC c z.2.1;rw[q]at this;exact absurd ‹b<_› (Yy.mpr this)
 .rcases (hf b hbb).2.2.2.1 with z|z
  .exact I.ok.noex b o e z
  .exact absurd (AS (AL e) (Da I.ok.bsz z)) (Bk _)
 .obtain⟨h2,hts⟩:=TJ ts Z h2;have h3':(relabel scope X.env).names.lookup x=Ab .local\/(relabel scope X.env).names.lookup x=Ab .cell\/(relabel scope X.env).names.lookup x=Ab .free:=h3;have h1':N'[i]?=Ab x:=h1;rcases h3' with z|z
  .rcases NS z with z|⟨z,_⟩
   .exact absurd (B.loc i x h1' (.inl z)) hts
   .cases z
  .have fr:=(frOf x z).resolve_right λq=>hts (B.loc i x h1' (.inr q))
   have hm:=CW fr;have hX:=B.same i x h1' fr hts;obtain⟨m0,hn0,hl0⟩:=I.loc;obtain⟨u,ru,lk⟩:=hl0 i x v hX h2 (by
    rcases B.free _ hm rfl with q|q
    .exact .inr (.inl q)
    .exact .inr (.inr q))
   refine⟨u,ru,?_⟩;obtain⟨c,hc,hcX⟩:=hb.fr x hm;rcases lk with ⟨q,_⟩|⟨_,c',hc',hcell⟩
   .have q':X.env.scope.names.lookup x=Ab .local:=q;rcases B.free _ hm rfl with p|p
    .rw[show X.env.scope.names.lookup x=_ from p]at q';cases q'
    .rw[show X.env.scope.names.lookup x=_ from p]at q';cases q'
   .have e:=hcX;rw[hc']at e;cases e;exact .inr ⟨z,c,hc,cellK _ _ hcell⟩
 .rcases hb.own x c e with z|z
  .obtain⟨v,q⟩:=I.cell x c z;exact⟨v,cellK _ _ q⟩
  .exact⟨_,z.2.2⟩
 .show (hideT ts Z).length=N'.length;rw[PF,I.len,B.len]
theorem TV{C D:Al}{s':Ap}{Z':L2.St}{pins':Pn}{h'':AK}{ys:Ac Ai}(I:Inv X pins Z H s)(hf:∀ b∈fp,Hh X pins H b)(I':Inv (cxC X scope cl C N' s H fp) pins' Z' H' s')(hD:s.heap.objs.size<=D)(hDC:D≠C)(hC:s.heap.objs.size<=C)(hd:s'.heap.get? D=Ab { cls:=.type "list",data:=.seq ys.toArray n })(hDn:H' D=Ad)(rv:Bb xs ys)(hz:xs.length<=sizeLine)(hs:DY C s'.heap h''):Inv X pins Z (upd H' D (.lst xs)) {s' with heap:=h''}:=by
  have u:Un (frs X.stack) fp H H' s.heap s'.heap:=I'.base;have lt:∀ b o,s.heap.get? b=Ab o->b≠C/\b≠D:=λb o e=>⟨λz=>absurd (AS (AL e) (z ▸ hC)) (Bk _),λz=>absurd (AS (AL e) (z ▸ hD)) (Bk _)⟩
  have HD:H D=Ad:=I.hok.fresh hD;have hCn:H' C=Ad:=I'.free;have kb:∀ b o,b≠C->s'.heap.get? b=Ab o->h''.get? b=Ab o:=λb o hb e=>(hs.2 b hb).trans e
  have u2:Un (frs X.stack) fp H (upd H' D (.lst xs)) s.heap h'':=⟨λb o e q hb hx=>kb b o (lt b o e).1 (u.keep b o e q hb hx),λb o e q hb hx=>by
      obtain⟨sl,e1⟩:=u.slot b o e q hb hx;exact⟨sl,kb b _ (lt b o e).1 e1⟩,λb o e q hx=>by rw[Cv (lt b o e).2];exact u.free b o e q hx,λb o e hx=>by
      obtain⟨o',e1⟩:=u.there b o e hx;exact⟨o',kb b _ (lt b o e).1 e1⟩,λb zs q=>by rw[Cv (Gy q HD)];exact u.tups b zs q,λb o zs q=>by rw[Cv (Gy q HD)];exact u.frzs b o zs q,λb ps q=>by rw[Cv (Gy q HD)];exact u.tbls b ps q⟩
  have hok:HOk X.prog X.w (upd H' D (.lst xs)) h'':=λb o e=>by
    by_cases hb:b=D
    · subst hb;rw[Hv]at e;cases e;exact⟨hz,ys,n,rv,kb _ _ hDC hd⟩
    · rw[Cv hb]at e;refine(I'.hok b o e).stay (λc v hc q=>kb c v ?_ q) (λc q=>by rw[Cv (Gy q hDn)];exact q) λc zs q=>by rw[Cv (Gy q hDn)];exact q
      rcases hc with rfl|hc
      · exact Gy e hCn
      · exact Gy hc hCn
  exact I.call' (s':={s' with heap:=h''}) (ch:=fp) I'.os u2 hok I'.bare λb hb=>⟨(hf b hb).2.2.2.1,(hf b hb).2.1,(hf b hb).2.2.2.2.1,(hf b hb).2.2.2.2.2⟩
end
def PTs(X:Cx)(ifs:Ac An)(tt:TT):Prop:=∀(pins:Pn)(s:Ap)(Z:L2.St)(H:Hp)(Q:Aj->Hp->Prop),Inv X pins Z H s->tt Z H Q ->
 Aw (model X.prog X.w) X.A (forIn ifs Aa λc r=>if r=Aa then do let ok <-JH c X.env (eval c X.env);pure (Fj ok) else pure (Fj r)) (TP X pins Z Q) X.xe s
theorem oM:PTs X [] (λZ H Q=>Q Aa H):=λpins s Z H Q I h=>wpAny_tests_nil ⟨H,I,h⟩
theorem oK{t:TT}(h:PT X c t):PTs X [c] t:=λpins s Z H Q I q=>wpAny_tests_one (h pins s Z H Q I q)
theorem eS{D:Al}{ys:Ac Ai}{y:Ai}{E:Vq}{Q:Vq}(I:Inv X ((D,{ cls:=.type "list",data:=.seq ys.toArray n })::pins) Z H s)(hD:X.s₀.heap.objs.size<=D)(hp:∀ p∈X.pn++pins,p.1≠D)(hc:∀ x c,X.env.cells.lookup x=Ab c->c≠D)(hz:ys.length<=sizeLine)(h:∀ s',Inv X ((D,{ cls:=.type "list",data:=.seq (ys++[y]).toArray (n+1) })::pins) Z H s'->(∀ b o,b≠D->s.heap.get? b=Ab o->s'.heap.get? b=Ab o)->Q .none s'):Aw (model X.prog X.w) X.A (call (.builtin "list.append") [.ref D,y]) Q E s:=by
 obtain⟨e,hn,hL,hfs,_⟩:=I.pin (D,{ cls:=.type "list",data:=.seq ys.toArray n }) (Bw _ AM);refine append_at (hsz:=by rw[AO];exact hz) e λh' hs hd=>?_
 have hd':h'.get? D=Ab { cls:=.type "list",data:=.seq (ys++[y]).toArray (n+1) }:=by rw[hd];simp
 have kb:∀ b o,b≠D->s.heap.get? b=Ab o->h'.get? b=Ab o:=λb o hb q=>(hs.2 b hb).trans q
 have I0:Inv X pins Z H s:=I.pins_of λp hp=>I.pin p (Bw _ (AG _ hp))
 have I1:Inv X pins Z H {s with heap:=h'}:=I0.turned (t':=s.toks) kb hn hL (.inr hD) hc hp
 refine h _ (I1.pins_of λp hp=>?_) kb
 rcases AJ.mp hp with rfl|hp
 .exact⟨hd',hn,hL,hfs,λv z=>by
   have z':MJ _ _=Ko v:=z;cases z'⟩
 .exact I1.pin p (Bw _ hp)
section
variable{prog:AQ}{w:AT}{A:AV}{R:IA->Ap->Prop}{s:Ap}
theorem eB{target:An}{it acc:Ai}(I:Ae->Ap->Prop)(turn:∀ n s,I n s->Aw (model prog w) A (Fm it) (λr s₁=>match r with
      |none=>R (.ok .next) s₁
      | some v=>Aw (model prog w) A (G9 target it v) (λ_ s₁'=>Aw (model prog w) A (assign target env v) (λ_ s₂=>
          Aw (model prog w) A (forIn ifs Aa λc r=>if r=Aa then do let ok <-JH c env (eval c env);pure (Fj ok) else pure (Fj r)) (λok s₃=>
            if ok=Aa then Aw (model prog w) A (eval elt env) (λx s₄=>
              Aw (model prog w) A (call (.builtin "list.append") [acc,x]) (λ_ s₅=>∃ m,m<n/\I m s₅) (JJ (model prog w) A env λe s'=>R (.error e) s') s₄) (JJ (model prog w) A env λe s'=>R (.error e) s') s₃
            else ∃ m,m<n/\I m s₃) (JJ (model prog w) A env λe s'=>R (.error e) s') s₂) (JJ (model prog w) A env λe s'=>R (.error e) s') s₁') (JJ (model prog w) A env λe s'=>R (.error e) s') s₁) (JJ (model prog w) A env λe s'=>R (.error e) s') s)(n:Ae)(h:I n s):FC (model prog w) A (.compLoop (.ListComp elt [⟨target,iter,ifs,0⟩] scope pos) 0 it acc env) R s:=by
  refine codeAny_loop rfl I (λn s hI=>?_) n h
  show Aw _ A ((compTurn (.ListComp elt [⟨target,iter,ifs,0⟩] scope pos) 0 it acc env).onRaise (λx=>do HG x env;theTreesLotGoes x)) _ _ s
  refine wpAny_noted ?_;rw[compTurn_list];refine Ah (wpAny_standAt (Ah (BJ (turn n s hI) (λr s₁ h₁=>?_) λ_ _ h'=>h')))
  cases r with
  |none=>exact At h₁
  |some v=>
    refine Ah (BJ h₁ (λ_ s₁' h₁'=>?_) λ_ _ h'=>h')
    refine Ah (BJ h₁' (λ_ s₂ h₂=>Ah (BJ h₂ (λok s₃ h₃=>?_) λ_ _ h'=>h')) λ_ _ h'=>h')
    cases ok with
    |false=>exact At ⟨rfl,h₃⟩
    |true=>
      exact Ah (Ah (BJ h₃ (λx s₄ h₄=>Ah (BJ h₄ (λ_ s₅ h₅=>At (At ⟨rfl,h₅⟩)) λ_ _ h'=>h')) λ_ _ h'=>h'))
end
def Nb(J:It)(ts:Ac Ae)(g:TG)(tt:TT)(te:TE)(Z:L2.St)(H:Hp)(Q:VK):Prop:=∃ W:Ae->Ae->Ac V->L2.St->Hp->Prop,(∃ m,W 0 m [] (hideT ts Z) H)/\∀ i m xs Z H,W i m xs Z H ->
 (J.stop i H/\∀ p,H p=Ad->Q (.ref p) (upd H p (.lst xs))) \/
 (J.go i H/\xs.length<sizeLine/\∀ x H',J.yld i H x H'->g x Z H' λZ2 H2=>tt Z2 H2 λb H3=>if b=Aa then te Z2 H3 λy H4=>∃ m',m'<m/\W (i+1) m' (xs++[y]) Z2 H4 else ∃ m',m'<m/\W (i+1) m' xs Z2 H3)
theorem Uv{g:TG}{it:Al}{tn:Ae->AK->Prop}{E:Vq}{RR:Ai->Al->IA->Ap->Prop}(hc:X.calm=Aa)(B:BlockOk X scope N' ts)(I:Inv X pins Z H s)(T:Turn X.prog X.w X.K tg J fp it tn)(st:tn 0 s.heap)(hf:∀ b∈fp,Hh X pins H b)(hcl:∀ x c,cl.lookup x=Ab c->X.env.cells.lookup x=Ab c)(hcl2:∀ x,(x,ED)∈scope.names->∃ c,cl.lookup x=Ab c)(hg:∀ cl C s H,PG (cxC X scope cl C N' s H fp) tg g)(ht:∀ cl C s H,PTs (cxC X scope cl C N' s H fp) ifs tt)(he:∀ cl C s H,PE (cxC X scope cl C N' s H fp) elt te)(h:Nb J ts g tt te Z H Q)(hRR:∀ cl D C s' H' Z' pins' xs ys n m,Inv (cxC X scope cl C N' s H fp) pins' Z' H' s'->s'.heap.get? D=Ab { cls:=.type "list",data:=.seq (C9 ys) n }->H' D=Ad->Bb xs ys->xs.length<=sizeLine->s.heap.objs.size<=D->D≠C->s.heap.objs.size<=C->s'.heap.Ns C m->Q (.ref D) (upd H' D (.lst xs))->RR (.ref D) C (.ok .next) s'):Aw (model X.prog X.w) X.A (newList []) (λacc s₃=>Aw (model X.prog X.w) X.A (JI scope X.env.globals cl [] X.env.qual Ad .none (Ab X.env)) (λcenv s₄=>FC (model X.prog X.w) X.A (.compStart (.ListComp elt [⟨tg,iter,ifs,0⟩] scope pos) 0 (.ref it) acc {cenv with scope:=relabel scope X.env}) (RR acc cenv.locals) s₄) E s₃) E s:=by
 refine CT (dN ?_);dsimp only;generalize hH2:s.heap.push { cls:=.type "list",dict:=Ad,data:=.seq ([]:Ac Ai).toArray }=H2;have hns₁:(HJ (H2.push { cls:=.type "dict",data:=.dict #[] }) scope.names).Ns H2.objs.size (λ_=>Ad):=(Heap.Ns.new H2 (.type "dict")).keeps (Jc _ _)
 have hkp₁:∀ b o,H2.get? b=Ab o->(HJ (H2.push { cls:=.type "dict",data:=.dict #[] }) scope.names).get? b=Ab o:=λb o e=>Jc _ _ b o (Aq _ e)
 have hown:=PQ scope.names (H2.push { cls:=.type "dict",data:=.dict #[] }) cl;have hinj:=PR scope.names (H2.push { cls:=.type "dict",data:=.dict #[] }) cl;rw[Bh]at hown hinj;generalize hcl':DM (H2.objs.size+1) scope.names cl=cl' at hown hinj;have hcf:∀ x,(x,B9)∉scope.names->cl'.lookup x=cl.lookup x:=λx hx=>by rw[<-hcl'];exact P6 _ _ _ x hx
 have hch:∀ x,(x,B9)∈scope.names->∃ c,cl'.lookup x=Ab c/\H2.objs.size+1<=c:=λx hx=>by rw[<-hcl'];exact PU _ _ _ _ x (Ay _) (.inl hx)
 generalize hh₁:HJ (H2.push { cls:=.type "dict",data:=.dict #[] }) scope.names=h₁ at hns₁ hkp₁ hown;have hC:H2.objs.size=s.heap.objs.size+1:=by rw[<-hH2,Bh]
 have hCle:s.heap.objs.size<=H2.objs.size:=by rw[hC];exact KS _
 have hDC:s.heap.objs.size≠H2.objs.size:=by rw[hC];exact AW (FL _)
 have below:∀ b,b<s.heap.objs.size->b≠H2.objs.size:=λb hb=>by rw[hC];exact AW (By hb)
 have old:∀ b o,s.heap.get? b=Ab o->h₁.get? b=Ab o:=λb o e=>hkp₁ b o (hH2 ▸ Aq _ e)
 have hacc:h₁.get? s.heap.objs.size=Ab { cls:=.type "list",data:=.seq ([]:Ac Ai).toArray 0 }:=hkp₁ _ _ (hH2 ▸ AH _ rfl);have clt:∀ x c,cl.lookup x=Ab c->c<s.heap.objs.size:=λx c e=>by
  obtain⟨v,q⟩:=I.cell x c (hcl x c e);exact q.lt
 have bc:BCells X scope cl' H2.objs.size h₁:=by
  refine⟨λx c e=>?_,hinj (λx y c e1 e2=>I.ok.inj x y c (hcl x c e1) (hcl y c e2)) (λx c e=>By (AS (clt x c e) hCle)),λx hx=>?_,λx hx=>?_⟩
  .rcases hown x c e with q|⟨q1,q2,q3⟩
   .exact .inl (hcl x c q)
   .exact .inr ⟨B.uniq _ q1,q2,q3⟩
  .have hm:=CW hx;obtain⟨c,e,hc⟩:=hch x hm;exact⟨c,e,hc⟩
  .have hno:(x,B9)∉scope.names:=λz=>by
    have e1:=B.uniq _ hx;have e2:=B.uniq _ z;rw[show scope.names.lookup x=_ from e1]at e2
    cases e2
   obtain⟨c,e⟩:=hcl2 x hx;exact⟨c,by rw[hcf x hno];exact e,hcl x c e⟩
 have hfo:∀ b∈fp,b<s.heap.objs.size:=λb hb=>by
  obtain⟨o,e,_⟩:=T.obj 0 _ st b hb;exact AL e
 generalize hD:s.heap.objs.size=D at *;generalize hC':H2.objs.size=C at *;have I0:Inv (cxC X scope cl' C N' s H fp) [] (hideT ts Z) H {s with heap:=h₁,toks:=s.toks+([]:Ac (Ak×Ai)).length}:=eD (tk:=s.toks+([]:Ac (Ak×Ai)).length) I B hf (λb hb=>by rw[hD];exact hfo b hb) bc old (by rw[hD];exact hCle) hns₁
 have nD:H D=Ad:=I.hok.fresh (by rw[hD];exact Ay _)
 have noD:∀ b∈fp,b≠D:=λb hb=>AW (hfo b hb)
 have noC:∀ b∈fp,b≠C:=λb hb=>below b (hfo b hb)
 have stfs:D∉frs X.stack:=λz=>by
  obtain⟨_,o,ho,_⟩:=I.stack.mem z;exact absurd (AL ho) (by rw[hD];exact Bk _)
 have cD:∀ x c,cl'.lookup x=Ab c->c≠D:=λx c e z=>by
  rcases bc.own x c e with q|⟨_,q,_⟩
  .obtain⟨v,q⟩:=I.cell x c q;exact absurd q.lt (by rw[z,hD];exact Bk _)
  .rw[z]at q;exact absurd (AS q hCle) (Bk _)
 have I1:Inv (cxC X scope cl' C N' s H fp) [(D,{ cls:=.type "list",data:=.seq ([]:Ac Ai).toArray 0 })] (hideT ts Z) H {s with heap:=h₁,toks:=s.toks+([]:Ac (Ak×Ai)).length}:=I0.pins_of λp hp=>by
  have e:=A6.mp hp;subst e;exact⟨hacc,nD,hDC,stfs,λv z=>by
   have z':MJ _ _=Ko v:=z;cases z'⟩
 have st1:tn 0 h₁:=T.keep _ _ _ st λb _ o e=>old b o e
 obtain⟨W,⟨m0,w0⟩,turn⟩:=h;have fpk:∀{pl:Pn}{H':Hp},(∀ p∈pl,p.1=D)->(∀ b∈fp,H' b=Ad)->∀ b∈fp,Hh (cxC X scope cl' C N' s H fp) pl H' b:=λ{pl H'} hp hn b hb=>
  ⟨hn b hb,noC b hb,λz=>by
   rcases AJ.mp (I.stkSub b z) with e|e
   .exact(hf b hb).2.1 e
   .exact(hf b hb).2.2.1 e,.inl hb,λx c e=>(bc.own x c e).elim ((hf b hb).2.2.2.2.1 x c) (λz q=>absurd (HC hCle z.2.1) (Yy.mpr (by rw[q];exact Fx (hfo b hb)))),λp hp'=>by
   have hp2:p∈pl:=hp';rw[hp p hp2];exact(noD b hb).symm⟩
 have loop:∀ s₃:Ap,s₃={s with heap:=h₁,toks:=s.toks+([]:Ac (Ak×Ai)).length} ->
   FC (model X.prog X.w) X.A (.compLoop (.ListComp elt [⟨tg,iter,ifs,0⟩] scope pos) 0 (.ref it) (.ref D) (compEnvC scope cl' C X.env)) (RR (.ref D) C) s₃:=by
  rintro s₃ rfl;refine eB (λk s'=>∃ i Z' H' xs ys n,Inv (cxC X scope cl' C N' s H fp) [(D,{ cls:=.type "list",data:=.seq (C9 ys) n })] Z' H' s'/\tn i s'.heap/\(∀ b∈fp,H' b=Ad)/\Bb xs ys/\xs.length<=sizeLine/\W i k xs Z' H') ?_ m0
   ⟨0,_,H,[],[],0,I1,st1,λb hb=>(hf b hb).1,.nil,BK _,w0⟩
  rintro k s' ⟨i,Z',H',xs,ys,n,I',st',fr',rv,hz,w'⟩;have one:∀ p∈[((D,{ cls:=.type "list",data:=.seq (C9 ys) n }):Al×Dx)],p.1=D:=λp hp=>by rw[A6.mp hp]
  rcases turn i k xs Z' H' w' with ⟨stop,q⟩|⟨go,hlt,step⟩
  .refine BJ (T.done (cxC X scope cl' C N' s H fp) rfl rfl rfl hc i _ s' Z' H' (λ_ _=>Ba) I' (fpk one fr') st' stop) (λr s1 ⟨hr,J1⟩=>?_) λ_ _ f=>f.elim
   subst hr;obtain⟨e,hn,_⟩:=J1.pin _ (Bw _ AM);obtain⟨m,hm,_⟩:=J1.loc;exact hRR cl' D C s1 H' Z' _ xs ys n m J1 e hn rv hz (Ay _) hDC hCle hm (q D hn)
  .refine BJ (T.item (cxC X scope cl' C N' s H fp) rfl rfl rfl hc i _ s' Z' H' (λ_ _=>Ba) I' (fpk one fr') st' go) (λr s1 ⟨u,hr,h4⟩=>?_) λ_ _ f=>f.elim
   subst hr;refine BJ h4 (λ_ s5 ⟨x,H5,I5,r5,y5,st5,fr5⟩=>?_) λ_ _ f=>f.elim
   have I5':=I5.pinned (fpk one fr5) (T.obj _ _ st5);refine BJ (hg cl' C s H _ s5 Z' H5 x u _ I5' r5 (step x H5 y5)) (λ_ s6 ⟨Z6,H6,I6,q6⟩=>?_) λ_ _ f=>f.elim
   refine BJ (ht cl' C s H _ s6 Z6 H6 _ I6 q6) (λok s7 ⟨H7,I7,q7⟩=>?_) λ_ _ f=>f.elim
   have again:∀{s8:Ap}{H8:Hp}{ys':Ac Ai}{n':Ae},Inv (cxC X scope cl' C N' s H fp) ((D,{ cls:=.type "list",data:=.seq (C9 ys') n' })::Lk fp s5.heap) Z6 H8 s8->Inv (cxC X scope cl' C N' s H fp) [(D,{ cls:=.type "list",data:=.seq (C9 ys') n' })] Z6 H8 s8/\tn (i+1) s8.heap/\∀ b∈fp,H8 b=Ad:=λ{s8 H8 ys' n'} I8=>
    ⟨I8.pins_of λp hp=>I8.pin p (Bw _ (by rw[A6.mp hp];exact AM)),T.keep _ _ _ st5 λb hb o e=>(I8.pin (b,o) (Bw _ (AG _ (N2 hb e)))).1,λb hb=>by
     obtain⟨o,e,d⟩:=T.obj _ _ st5 b hb;exact(I8.pin (b,o) (Bw _ (AG _ (N2 hb e)))).2.1⟩
   cases ok with
   |false=>
    rw[As (by decide)]at q7
    obtain⟨m',hm,w7⟩:=q7;obtain⟨a1,a2,a3⟩:=again I7;rw[As (by decide)]
    exact⟨m',hm,i+1,Z6,H7,xs,ys,n,a1,a2,a3,rv,hz,w7⟩
   |true=>
    rw[Ar rfl]at q7;rw[Ar rfl];refine BJ (he cl' C s H _ s7 Z6 H7 _ I7 q7) (λval s8 ⟨y,H8,I8,r8,m',hm,w8⟩=>?_) λ_ _ f=>f.elim
    have hl:=rv.length;refine eS (X:=cxC X scope cl' C N' s H fp) (ys:=ys) (n:=n) (pins:=Lk fp s5.heap) I8 (by show s.heap.objs.size<=D;rw[hD];exact Ay _) (λp hp=>?_) cD (by omega) λs9 I9 kb=>?_
    .have hp2:p∈Lk fp s5.heap:=hp;exact noD _ (Tx hp2).1
    .obtain⟨a1,a2,a3⟩:=again I9;exact⟨m',hm,i+1,Z6,H8,xs++[y],ys++[val],n+1,a1,a2,a3,rv.append (.cons r8 .nil),by rw[Bt];exact hlt,w8⟩
 exact codeAny_compStart_list (loop _ rfl) (T.self _ 0 _ _ _ st1 (loop _ rfl))
theorem nC{g:TG}(hc:X.calm=Aa)(B:BlockOk X scope N' ts)(hi:PI X tg iter wi)(hg:∀ cl C s H fp,PG (cxC X scope cl C N' s H fp) tg g)(ht:∀ cl C s H fp,PTs (cxC X scope cl C N' s H fp) ifs tt)(he:∀ cl C s H fp,PE (cxC X scope cl C N' s H fp) elt te)(hs:∀ x,Dz iter X.env x=pure x):PE X (.ListComp elt [⟨tg,iter,ifs,0⟩] scope pos) (λZ H Q=>wi Z H λJ H1=>Nb J ts g tt te Z H1 Q):=by
 intro pins s Z H Q I h;obtain⟨cl,hclos,hcl,hcl2⟩:=SR (scope:=scope) (env:=X.env) λx hx hk=>I.ok.has x.1 ((B.free x hx hk).imp id id)
 rw[eval_ListComp];refine bA (use:=Ad) rfl hs hclos B.kind B.names (thn (hi pins s Z H _ I h) λv s1 h1=>thn h1 λitv s2 h2=>?_)
 obtain⟨it,fp,tn,J,H2,e,I2,T,st2,f2,h3⟩:=h2;subst e;refine Uv (RR:=λacc C=>compPost (model X.prog X.w) X.A X.xe Ad (EP X pins Z Q) acc C) hc B I2 T st2 f2 hcl hcl2 (λcl C s H=>hg cl C s H fp) (λcl C s H=>ht cl C s H fp) (λcl C s H=>he cl C s H fp) h3 λcl' D C s' H' Z' pins' xs ys n m I' hd hDn rv hz hD hDC hC hm q=>?_
 exact⟨m,hm,λh'' hs''=>⟨.ref D,_,TV I2 f2 I' hD hDC hC hd hDn rv hz hs'',rfl,q⟩⟩
theorem oQ{n:Ak}{g:TG}(hc:X.calm=Aa)(B:BlockOk X scope N' ts)(hi:PI X tg iter wi)(hg:∀ cl C s H fp,PG (cxC X scope cl C N' s H fp) tg g)(ht:∀ cl C s H fp,PTs (cxC X scope cl C N' s H fp) ifs tt)(he:∀ cl C s H fp,PE (cxC X scope cl C N' s H fp) elt te)(hs:∀ x,Dz iter X.env x=pure x)(hN:X.N.Nodup)(hni:X.N[i]?=Ab n)(hx:X.env.scope.names.lookup n=Ab .local)(hsw:DN (.ListComp elt [⟨tg,iter,ifs,0⟩] scope pos) (Ab (.Name n pos')) pos2.line X.env=pure Aa):PS X (.Assign [.Name n pos'] (.ListComp elt [⟨tg,iter,ifs,0⟩] scope pos) pos2) (RY (λZ H Q=>wi Z H λJ H1=>Nb J ts g tt te Z H1 Q) (HW i)):=by
 intro pins s Z H Dn I h;obtain⟨cl,hclos,hcl,hcl2⟩:=SR (scope:=scope) (env:=X.env) λx hx hk=>I.ok.has x.1 ((B.free x hx hk).imp id id)
 rw[exec_Assign_Name_used _ _ _ _ hsw];refine Ah (wpAny_standAt (Ah ?_));show Aw _ X.A (do let _ <-comprehension (.ListComp elt [⟨tg,iter,ifs,0⟩] scope pos) scope X.env _ (newList []) Af (eval iter X.env) (Ab (assign (.Name n pos') X.env))) _ _ s
 refine Ah (BJ (bA (use:=Ab (assign (.Name n pos') X.env)) (Q:=λ_ s'=>SP X pins Dn .next s') rfl hs hclos B.kind B.names
  (thn (hi pins s Z H _ I h) λv s1 h1=>thn h1 λitv s2 h2=>?_)) (λ_ s' hq=>At (At hq)) λ_ _ e=>e)
 obtain⟨it,fp,tn,J,H2,e,I2,T,st2,f2,h3⟩:=h2;subst e;refine Uv (RR:=λacc C=>compPost (model X.prog X.w) X.A X.xe (Ab (assign (.Name n pos') X.env)) (λ_ s'=>SP X pins Dn .next s') acc C) hc B I2 T st2 f2 hcl hcl2 (λcl C s H=>hg cl C s H fp) (λcl C s H=>ht cl C s H fp) (λcl C s H=>he cl C s H fp) h3 λcl' D C s' H' Z' pins' xs ys n' m I' hd hDn rv hz hD hDC hC hm q=>?_
 have J0:Inv X pins Z (upd H' D (.lst xs)) s':=TV I2 f2 I' hD hDC hC hd hDn rv hz (ZN ..);refine aZ (Tn J0 hN hni (.inl hx) (show BM (.ref D) (.ref D) from rfl) (λs'' J1 ⟨a,sb,ha⟩=>?_) (.inr hx))
 have hC0:X.s₀.heap.objs.size<=C:=Da I2.sz hC;have hL:C≠X.env.locals:=λz=>absurd (AS I2.lt (z ▸ hC)) (Bk _)
 have hcC:∀ x c,X.env.cells.lookup x=Ab c->c≠C:=λx c e z=>by
  obtain⟨v,q'⟩:=I2.cell x c e;exact absurd (AS q'.lt (by rw[z];exact hC)) (Bk _)
 have hp:∀ p∈X.pn++pins,p.1≠C:=λp hp z=>absurd (AS (AL (I2.pin p hp).1) (by rw[z];exact hC)) (Bk _)
 have hCn:upd H' D (.lst xs) C=Ad:=by rw[Cv hDC.symm];exact I'.free
 have hCa:C≠a:=by
  rcases ha with rfl|ha
  .exact hL
  .exact λz=>hcC n a ha z.symm
 refine⟨m,hm.sameBut sb hCa,λh'' hs''=>⟨_,_,J1.turned (t':=s''.toks) (λb o hb e=>(hs''.2 b hb).trans e) hCn hL (.inr hC0) hcC hp,q⟩⟩
theorem PJ:∀(ts:Ac Ae)(U:Rho)(j:Ae),(Hf ts U)[j]?=if j∈ts then (U[j]?).map (λ_=>Ad) else U[j]?
 |[],U,j=>by simp[Hf]
 |t::ts,U,j=>by
  show (Hf ts (U.set t Ad))[j]?=_;rw[PJ ts];by_cases h1:j∈ts
  .rw[Ar h1,Ar (AG _ h1)];by_cases h2:t=j
   .subst h2;rw[Gj];cases U[t]?<;>rfl
   .rw[CJ h2]
  .rw[As h1];by_cases h2:t=j
   .subst h2;rw[Ar AM,Gj];cases U[t]?<;>rfl
   .rw[CJ h2,As (by simp only[AJ,FH];exact⟨λz=>h2 z.symm,h1⟩)]
theorem PH:∀(ts:Ac Ae)(U:Rho),(Hf ts U).length=U.length
 |[],_=>rfl
 |t::ts,U=>by show (Hf ts (U.set t Ad)).length=_;rw[PH ts,Bj]
theorem Pu:∀(ts:Ac Ae)(Z:L2.St){i:Ae},i∉ts->(hideT ts Z)[i]?=Z[i]?
 |[],_,_,_=>rfl
 |t::ts,Z,i,h=>by
  simp only[AJ,FH]at h;show (hideT ts (Z.set t Ad))[i]?=_;rw[Pu ts _ h.2,CJ (λz=>h.1 z.symm)]
section
variable{K:Fg}{CL:ClA}{A:Al->Prop}{U U':Rho}{Z:L2.St}{H:Hp}
theorem Good.less(g:Good K CL A U Z H)(hl:U'.length=U.length)(h:∀(i:Ae)(d:D)(o:Aj),U'[i]?=Ab (Ab (d,o))->U[i]?=Ab (Ab (d,o))):Good K CL A U' Z H:=⟨λi d e=>g.sh i d (h i d Af e),λi d e=>g.ow i d (h i d Aa e),hl.trans g.len⟩
theorem Good.put(g:Good K CL A U Z H)(t:Ae)(r:Rep K CL H A v d):Good K CL A (U.set t (Ab (d,Af))) (Z.set t (Ab v)) H:=by
 refine⟨λj e h=>?_,λj e h=>?_,by rw[Bj,Bj];exact g.len⟩
 .by_cases hj:t=j
  .subst hj;have e1:=Hw h;cases e1;have hl:t<Z.length:=by
    rw[<-g.len];have:=(AZ.mp h).1;simpa using this
   exact⟨v,by rw[DD hl],r⟩
  .rw[CJ hj]at h;obtain⟨w',q,rw'⟩:=g.sh j e h;exact⟨w',by rw[CJ hj];exact q,rw'⟩
 .have hj:t≠j:=by
   rintro rfl;have:=Hw h;cases this
  rw[CJ hj]at h;obtain⟨a,xs,ds,q,z⟩:=g.ow j e h;exact⟨a,xs,ds,by rw[CJ hj];exact q,z⟩
theorem Good.hide(g:Good K CL A U Z H)(ts:Ac Ae):Good K CL A (Hf ts U) Z H:=g.less (PH _ _) λi d o e=>by
 rw[PJ]at e;split at e
 .cases q:U[i]? with
  |none=>rw[q]at e;cases e
  |some x=>rw[q]at e;cases e
 .exact e
theorem Good.hideT(g:Good K CL A U Z H)(ts:Ac Ae):Good K CL A (Hf ts U) (hideT ts Z) H:=by
 have key:∀ i x,(Hf ts U)[i]?=Ab (Ab x)->U[i]?=Ab (Ab x)/\i∉ts:=λi x e=>by
  rw[PJ]at e;split at e
  .cases q:U[i]? with
   |none=>rw[q]at e;cases e
   |some x=>rw[q]at e;cases e
  .exact⟨e,by assumption⟩
 refine⟨λi d e=>?_,λi d e=>?_,by rw[PH,PF];exact g.len⟩
 .obtain⟨e1,e2⟩:=key i _ e;obtain⟨v,q,r⟩:=g.sh i d e1;exact⟨v,by rw[Pu _ _ e2];exact q,r⟩
 .obtain⟨e1,e2⟩:=key i _ e;obtain⟨a,xs,ds,q,r⟩:=g.ow i d e1;exact⟨a,xs,ds,by rw[Pu _ _ e2];exact q,r⟩
end
def GG(K:Fg)(CL:ClA)(ts:Ac Ae)(as:D->Rho->R Rho)(g:TG):Prop:=∀ A U Z H v d U' Q,Good K CL A (Hf ts U) Z H->Rep K CL H A v d->as d U=.ok U'->(∀ Z',Good K CL A U' Z' H->Good K CL A (Hf ts U) Z' H->Q Z' H)->g v Z H Q
theorem pG(i:Ae):GG K CL [i] (λd U=>.ok (U.set i (Ab (d,Af)))) (HW i):=λA U Z H v d U' Q g r e k=>by
 cases e;have g2:=g.put i r;have e1:(Hf [i] U).set i (Ab (d,Af))=U.set i (Ab (d,Af)):=by
  show (U.set i Ad).set i (Ab (d,Af))=_;rw[Yp]
 rw[e1]at g2;refine k _ g2 ?_;have:=g2.hide [i];have e2:Hf [i] (U.set i (Ab (d,Af)))=Hf [i] U:=by
  show (U.set i _).set i Ad=U.set i Ad;rw[Yp]
 rw[e2]at this;exact this
noncomputable abbrev W0:XW:=λ_ _=>Ba
def STs(X:Cx)(CL:ClA)(ifs:Ac An)(f:Rho->R Aj):Prop:=∀ A,PTs X ifs (λZ H Q=>AOk H A/\∃ U,Good X.K CL A U Z H/\DF W0 H (f U) Q)
theorem lR:STs X CL [] (λ_=>.ok Aa):=λA pins s Z H Q I ⟨hA,U,g,p⟩=>oM pins s Z H Q I (p H (AN.refl H))
theorem lQ(h:SB X CL W0 c f):STs X CL [c] f:=λA pins s Z H Q I q=>oK (h A) pins s Z H Q I q
section
variable{X:Cx}{CL:ClA}{W:XW}{tg iter elt:An}{ifs:Ac An}{scope:Cr}{pos:AY}{N':Ac Ak}{ts:Ac Ae}{fi:Rho->R (Ac D)}{fc:Rho->R Aj}{fe:Rho->R D}{as:D->Rho->R Rho}{g:TG}
theorem dS{g:D->R Aj}{f:D->R D}{x:D}{xs ys:Ac D}(h:BU g f (x::xs)=.ok ys):(g x=.ok Af/\BU g f xs=.ok ys)\/∃ y r,g x=.ok Aa/\f x=.ok y/\BU g f xs=.ok r/\ys=y::r:=by
 unfold BU at h;cases e:g x with
 |bad=>rw[e]at h;cases h
 |exn z=>rw[e]at h;cases h
 |ok b=>
  rw[e,R.bind_ok]at h;cases b with
  |false=>exact .inl ⟨rfl,h⟩
  |true=>
   rw[Ar rfl]at h;cases e2:f x with
   |bad=>rw[e2]at h;cases h
   |exn z=>rw[e2]at h;cases h
   |ok y=>
    rw[e2,R.bind_ok]at h;cases e3:BU g f xs with
    |bad=>rw[e3]at h;cases h
    |exn z=>rw[e3]at h;cases h
    |ok r=>
     rw[e3,R.bind_ok]at h;cases h;exact .inr ⟨y,r,rfl,rfl,rfl,rfl⟩
theorem K5{β:Type}{r:R α}{f:α->R β}{b:β}(h:r.bind f=.ok b):∃ a,r=.ok a/\f a=.ok b:=by
 cases r with
 |ok a=>exact⟨a,rfl,h⟩
 |exn x=>cases h
 |bad=>cases h
theorem iJ{ds ys:Ac D}(hGG:GG K CL ts as g)(hA:AOk H1 A)(gd:Good K CL A U Z H1)(yl:Jw K CL A ds J H1)(hz:ds.length<=sizeLine)(hcp:BU (λx=>(as x U).bind fc) (λx=>(as x U).bind fe) ds=.ok ys)(q:∀ xs H2,AN H1 H2->Reps K CL H2 A xs ys->∀ p,H2 p=Ad->Q (.ref p) (upd H2 p (.lst xs))):Nb J ts g (λZ H Q=>AOk H A/\∃ U,Good K CL A U Z H/\DF W0 H (fc U) Q) (λZ H Q=>AOk H A/\∃ U,Good K CL A U Z H/\Bg (λH=>Rep K CL H A) W0 H (fe U) Q) Z H1 Q:=by
 refine⟨λi m xs Z' H'=>m=ds.length-i/\i<=ds.length/\xs.length<=i/\AN H1 H'/\Good K CL A (Hf ts U) Z' H'/\∃ outs rest,Reps K CL H' A xs outs/\BU (λx=>(as x U).bind fc) (λx=>(as x U).bind fe) (ds.drop i)=.ok rest/\ys=outs++rest,
  ⟨ds.length,by simp,BK _,Ay _,AN.refl _,gd.hideT ts,[],ys,trivial,hcp,rfl⟩,?_⟩
 rintro i m xs Z' H' ⟨rfl,hi,hxl,sm,g',outs,rest,rs,hc,e⟩;obtain⟨yst,ygo⟩:=yl H' (Kp.of sm) i;by_cases hlt:i<ds.length
 .have hd:ds[i]?=Ab ds[i]:=AC hlt;obtain⟨hgo,hyl⟩:=ygo _ hd;refine .inr ⟨hgo,by omega,λx H2 hx=>?_⟩
  obtain⟨s2,rx⟩:=hyl x H2 hx;have rx':=rx A (λa ha=>.inl ha) (hA.same sm)
  rw[DO hlt]at hc;have sm2:=sm.trans s2;rcases dS hc with ⟨h1,h2⟩|⟨y,r,h1,h2,h3,h4⟩
  .obtain⟨U',ea,ec⟩:=K5 h1;refine hGG A U Z' H2 x ds[i] U' _ (g'.same s2) rx' ea λZ3 g3 g4=>⟨hA.same sm2,U',g3,?_⟩
   rw[ec];exact λH3 s3=>by
    dsimp only;rw[As (by decide)]
    exact⟨ds.length-(i+1),by omega,rfl,hlt,by omega,sm2.trans s3,g4.same s3,outs,rest,(rs.same s2).same s3,h2,e⟩
  .obtain⟨U',ea,ec⟩:=K5 h1;obtain⟨U2,ea2,ee⟩:=K5 h2;rw[ea]at ea2;cases ea2;refine hGG A U Z' H2 x ds[i] U' _ (g'.same s2) rx' ea λZ3 g3 g4=>⟨hA.same sm2,U',g3,?_⟩
   rw[ec];exact λH3 s3=>by
    dsimp only;rw[Ar rfl];refine⟨(hA.same sm2).same s3,U',g3.same s3,?_⟩;rw[ee];exact λv H4 s4 r4=>⟨ds.length-(i+1),by omega,rfl,hlt,by rw[Bt,Yh];omega,(sm2.trans s3).trans s4,(g4.same s3).same s4,outs++[y],r,(((rs.same s2).same s3).same s4).append ⟨r4,trivial⟩,h3,by rw[e,h4];simp⟩
 .have hk':ds.length<=i:=by omega
  rw[XZ hk']at hc;have hr:rest=[]:=by cases hc;rfl
  subst hr;rw[Bu]at e;subst e;exact .inl ⟨yst hk',λp hp=>q xs H' sm rs p hp⟩
theorem EU.ok_of{r:R (Ac D)}{f:Ac D->R D}{Q':It->Hp->Prop}(h:Bg Rq W H (r.bind f) Q)(k:∀ ds J H',r=.ok ds->AN H H'->Jw K CL A ds J H'->ds.length<=sizeLine->Bg Rq W H' (f ds) Q->Q' J H'):EU K CL A W H r Q':=by
 cases r with
 |ok d=>exact λJ H2 s2 y z=>k d J H2 rfl s2 y z (Bg.same s2 h)
 |exn x=>exact h
 |bad=>exact h
theorem vJ{r:R α}{a:α}(h:noX r=.ok a):r=.ok a:=by
 cases r with
 |ok b=>exact h
 |exn x=>cases h
 |bad=>cases h
theorem TR(hGG:GG X.K CL ts as g)(hA:AOk H A)(gd:Good X.K CL A U Z H)(p:Bg (EV X.K CL Aa H A) W H ((fi U).bind λxs=>(noX (BU (λx=>(as x U).bind fc) (λx=>(as x U).bind fe) xs)).bind λys=>.ok (.lst ys)) Q):EU X.K CL A W H (fi U) (λJ H1=>Nb J ts g (λZ H Q=>AOk H A/\∃ U,Good X.K CL A U Z H/\DF W0 H (fc U) Q) (λZ H Q=>AOk H A/\∃ U,Good X.K CL A U Z H/\Bg (λH=>Rep X.K CL H A) W0 H (fe U) Q) Z H1 Q):=
 EU.ok_of p λds J H1 e1 s1 yl hz p1=>by
  cases e2:noX (BU (λx=>(as x U).bind fc) (λx=>(as x U).bind fe) ds) with
  |ok ys=>
   rw[e2]at p1;exact iJ hGG (hA.same s1) (gd.same s1) yl hz (vJ e2) λxs H2 s2 rs q hq=>p1 _ _ (s2.trans (GR hq _)) (L4 (s1.trans s2) ((hA.same s1).same s2) hq rs)
  |exn x=>rw[e2]at p1;cases hq:BU (λx=>(as x U).bind fc) (λx=>(as x U).bind fe) ds<;>rw[hq]at e2<;>cases e2
  |bad=>rw[e2]at p1;exact p1.elim
theorem nS(hc:X.calm=Aa)(B:BlockOk X scope N' ts)(hi:SI X CL W tg iter fi)(hGG:GG X.K CL ts as g)(hg:∀ cl C s H fp,PG (cxC X scope cl C N' s H fp) tg g)(ht:∀ cl C s H fp,STs (cxC X scope cl C N' s H fp) CL ifs fc)(he:∀ cl C s H fp,SE (cxC X scope cl C N' s H fp) CL W0 elt fe)(hs:∀ x,Dz iter X.env x=pure x):SC X CL W Aa (.ListComp elt [⟨tg,iter,ifs,0⟩] scope pos) (λU=>(fi U).bind λxs=>(noX (BU (λx=>(as x U).bind fc) (λx=>(as x U).bind fe) xs)).bind λys=>.ok (.lst ys)):=λA pins s Z H Q I ⟨hA,U,gd,p⟩=>
 nC hc B (hi A) hg (λcl C s H fp=>ht cl C s H fp A) (λcl C s H fp=>he cl C s H fp A) hs pins s Z H Q I ⟨hA,U,gd,TR hGG hA gd p⟩
end
section
variable{K:Fg}{CL:ClA}{Fz:Al->HO->Prop}{B:Al->Prop}{U:Rho}{Z:L2.St}{H H':Hp}
theorem Sx.setF(x:Sx K CL Fz B U Z H)(s:AN H H'){ds:Ac D}(h0:H a=Ad)(h1:H' a=Ab (.lst xs))(r:Reps K CL H' (λb=>Ck B U Z b\/b=a) xs ds):Sx K CL Fz B (U.set i (Ab (.lst ds,Aa))) (Z.set i (Ab (.ref a))) H':=by
 have nA:¬ Ck B U Z a:=x.aok.new h0;have own:∀(j:Ae)(e:D),(U.set i (Ab (.lst ds,Aa)))[j]?=Ab (Ab (e,Aa))->(i=j/\e=.lst ds)\/(i≠j/\U[j]?=Ab (Ab (e,Aa))):=λj e h=>by
  by_cases hj:i=j
  .subst hj;have:=Hw h;cases this;exact .inl ⟨rfl,rfl⟩
  .exact .inr ⟨hj,by rw[CJ hj]at h;exact h⟩
 have atI:∀{j:Ae}{y:Sl},(U.set i (Ab (.lst ds,Aa)))[j]?=Ab y->i=j->(Z.set i (Ab (.ref a)))[j]?=Ab (Ab (.ref a)):=λ{j y} h e=>by
  subst e;have hl:i<Z.length:=by
   rw[<-x.len];have:=(AZ.mp h).1;simpa using this
  rw[DD hl]
 have sub:∀ b,Ck B (U.set i (Ab (.lst ds,Aa))) (Z.set i (Ab (.ref a))) b->Ck B U Z b\/b=a:=λb h=>by
  rcases h with h|⟨j,e,h1,h2⟩
  .exact .inl (.inl h)
  .rcases own j e h1 with ⟨hj,_⟩|⟨hj,h1'⟩
   .rw[atI h1 hj]at h2;cases h2;exact .inr rfl
   .rw[CJ hj]at h2;exact .inl (.inr ⟨j,e,h1',h2⟩)
 have wide:∀{v:V}{d:D},Rep K CL H (Ck B U Z) v d->Rep K CL H' (Ck B (U.set i (Ab (.lst ds,Aa))) (Z.set i (Ab (.ref a)))) v d:=λr=>(Rep.wide (λb hb=>(sub b hb).imp id λe=>by rw[e];exact h0) _ r).same s
 have wides:∀{v:Ac V}{d:Ac D},Reps K CL H (Ck B U Z) v d->Reps K CL H' (Ck B (U.set i (Ab (.lst ds,Aa))) (Z.set i (Ab (.ref a)))) v d:=λr=>(Reps.wide (λb hb=>(sub b hb).imp id λe=>by rw[e];exact h0) _ r).same s
 refine⟨⟨λj e h=>?_,λj e h=>?_,by rw[Bj,Bj];exact x.len⟩,λb h=>?_,λj e b g1 g2=>?_,λj k e f b g1 g2 g3 g4=>?_,λb o z=>s _ _ (x.same b o z),by rw[Bj,Bj];exact x.len⟩
 .have hj:i≠j:=by
   rintro rfl;have:=Hw h;cases this
  rw[CJ hj]at h;obtain⟨w',q,rw'⟩:=x.good.sh j e h;exact⟨w',by rw[CJ hj];exact q,wide rw'⟩
 .rcases own j e h with ⟨hj,rfl⟩|⟨hj,h'⟩
  .have q:=atI h hj;exact⟨a,xs,ds,q,rfl,.inr ⟨j,_,h,q⟩,h1,Reps.sub sub _ r⟩
  .obtain⟨b,ys,es,q,z,ha,hh,rr⟩:=x.good.ow j e h';have q':(Z.set i (Ab (.ref a)))[j]?=Ab (Ab (.ref b)):=by rw[CJ hj];exact q
   exact⟨b,ys,es,q',z,.inr ⟨j,e,h,q'⟩,s _ _ hh,wides rr⟩
 .rcases sub b h with z|z
  .obtain⟨ys,q⟩:=x.aok b z;exact⟨ys,s _ _ q⟩
  .rw[z];exact⟨xs,h1⟩
 .rcases own j e g1 with ⟨hj,_⟩|⟨hj,h'⟩
  .rw[atI g1 hj]at g2;cases g2;refine⟨λo z=>?_,λz=>nA (.inl z)⟩
   have:=x.same a o z;rw[h0]at this;cases this
  .rw[CJ hj]at g2;exact x.new j e b h' g2
 .rcases own j e g1 with ⟨hj,_⟩|⟨hj,h'⟩
  .rw[atI g1 hj]at g3;cases g3;rcases own k f g2 with ⟨hk,_⟩|⟨hk,h''⟩
   .exact hj.symm.trans hk
   .rw[CJ hk]at g4;exact absurd (.inr ⟨k,f,h'',g4⟩) nA
  .rw[CJ hj]at g3;rcases own k f g2 with ⟨hk,_⟩|⟨hk,h''⟩
   .rw[atI g2 hk]at g4;cases g4;exact absurd (.inr ⟨j,e,h',g3⟩) nA
   .rw[CJ hk]at g4;exact x.dis j k e f b h' h'' g3 g4
theorem Sx.upd(x:Sx K CL Fz B U Z H){i:Ae}{d:D}{a:Al}{xs:Ac V}{ds:Ac D}(hi:U[i]?=Ab (Ab (d,Aa)))(ha:Z[i]?=Ab (Ab (.ref a)))(r:Reps K CL H (Ck B U Z) xs ds):Sx K CL Fz B (U.set i (Ab (.lst ds,Aa))) Z (L2.upd H a (.lst xs)):=by
 have oa:Ck B U Z a:=.inr ⟨i,d,hi,ha⟩;have hil:i<U.length:=(AZ.mp hi).1;have get:∀(j:Ae)(e:D),(U.set i (Ab (.lst ds,Aa)))[j]?=Ab (Ab (e,Aa))↔(i=j/\e=.lst ds)\/(i≠j/\U[j]?=Ab (Ab (e,Aa))):=λj e=>by
  by_cases hj:i=j
  .subst hj;rw[DD hil];simp;exact⟨λz=>z.symm,λz=>z.symm⟩
  .rw[CJ hj];simp[hj]
 have same:∀ b,Ck B (U.set i (Ab (.lst ds,Aa))) Z b↔Ck B U Z b:=λb=>by
  constructor
  .rintro (h|⟨j,e,h1,h2⟩)
   .exact .inl h
   .rcases (get j e).mp h1 with ⟨rfl,_⟩|⟨_,h1⟩
    .exact .inr ⟨i,d,hi,h2⟩
    .exact .inr ⟨j,e,h1,h2⟩
  .rintro (h|⟨j,e,h1,h2⟩)
   .exact .inl h
   .by_cases hj:i=j
    .subst hj;exact .inr ⟨i,.lst ds,(get i _).mpr (.inl ⟨rfl,rfl⟩),h2⟩
    .exact .inr ⟨j,e,(get j e).mpr (.inr ⟨hj,h1⟩),h2⟩
 have kp:Kp (Ck B U Z) H (L2.upd H a (.lst xs)):=λb o e na=>by
  have hne:b≠a:=by
   rintro rfl;exact na oa
  rw[Cv hne];exact e
 refine⟨⟨λj e h=>?_,λj e h=>?_,by rw[Bj];exact x.len⟩,λb h=>?_,λj e b g1 g2=>?_,λj k e f b g1 g2 g3 g4=>?_,λb o z=>?_,by rw[Bj];exact x.len⟩
 .have hj:i≠j:=by
   rintro rfl;have:=Hw h;cases this
  rw[CJ hj]at h;obtain⟨w',q,rw'⟩:=x.good.sh j e h;exact⟨w',q,Rep.sub (λb hb=>(same b).mp hb) _ (Rep.kp kp _ rw')⟩
 .rcases (get j e).mp h with ⟨rfl,rfl⟩|⟨hj,h'⟩
  .exact⟨a,xs,ds,ha,rfl,(same a).mpr oa,Hv,Reps.sub (λb hb=>(same b).mp hb) _ (Reps.kp kp _ r)⟩
  .obtain⟨b,ys,es,q,z,hb,hh,rr⟩:=x.good.ow j e h';have hne:b≠a:=λz=>hj (x.dis i j d e a hi h' ha (z ▸ q))
   exact⟨b,ys,es,q,z,(same b).mpr hb,by rw[Cv hne];exact hh,Reps.sub (λb hb=>(same b).mp hb) _ (Reps.kp kp _ rr)⟩
 .obtain⟨ys,q⟩:=x.aok b ((same b).mp h);by_cases e:b=a
  .rw[e];exact⟨xs,Hv⟩
  .exact⟨ys,by rw[Cv e];exact q⟩
 .rcases (get j e).mp g1 with ⟨rfl,_⟩|⟨_,h'⟩
  .exact x.new i d b hi g2
  .exact x.new j e b h' g2
 .rcases (get j e).mp g1 with ⟨rfl,_⟩|⟨hj,h'⟩
  .rcases (get k f).mp g2 with ⟨rfl,_⟩|⟨hk,h''⟩
   .rfl
   .exact x.dis i k d f b hi h'' g3 g4
  .rcases (get k f).mp g2 with ⟨rfl,_⟩|⟨hk,h''⟩
   .exact x.dis j i e d b h' hi g3 g4
   .exact x.dis j k e f b h' h'' g3 g4
 .have hne:b≠a:=λe=>(x.new i d a hi ha).1 o (e ▸ z)
  rw[Cv hne];exact x.same b o z
theorem Sx.rel(x:Sx K CL Fz B U Z H)(hi:U[i]?=Ab (Ab (d,Aa))):Sx K CL Fz B (U.set i (Ab (d,Af))) Z H:=by
 obtain⟨a,xs,ds,q,rfl,oa,hh,rr⟩:=x.good.ow i d hi;have own:∀(j:Ae)(e:D),(U.set i (Ab (.lst ds,Af)))[j]?=Ab (Ab (e,Aa))->i≠j/\U[j]?=Ab (Ab (e,Aa)):=λj e h=>by
  by_cases hj:i=j
  .subst hj;have:=Hw h;cases this
  .exact⟨hj,by rw[CJ hj]at h;exact h⟩
 have sub:∀ b,Ck B (U.set i (Ab (.lst ds,Af))) Z b->Ck B U Z b:=λb h=>by
  rcases h with h|⟨j,e,h1,h2⟩
  .exact .inl h
  .exact .inr ⟨j,e,(own j e h1).2,h2⟩
 have na:¬ Ck B (U.set i (Ab (.lst ds,Af))) Z a:=λh=>by
  rcases h with h|⟨j,e,h1,h2⟩
  .exact(x.new i _ a hi q).2 h
  .obtain⟨hj,h1⟩:=own j e h1;exact hj (x.dis i j _ e a hi h1 q h2)
 refine⟨⟨λj e h=>?_,λj e h=>?_,by rw[Bj];exact x.len⟩,λb h=>x.aok b (sub b h),λj e b g1 g2=>x.new j e b (own j e g1).2 g2,λj k e f b g1 g2 g3 g4=>x.dis j k e f b (own j e g1).2 (own k f g2).2 g3 g4,x.same,by rw[Bj];exact x.len⟩
 .by_cases hj:i=j
  .subst hj;have e1:=Hw h;cases e1;exact⟨_,q,a,xs,rfl,.inl na,SqL.of hh,Reps.sub sub _ rr⟩
  .rw[CJ hj]at h;obtain⟨w',q',rw'⟩:=x.good.sh j e h;exact⟨w',q',Rep.sub sub _ rw'⟩
 .obtain⟨hj,h'⟩:=own j e h;obtain⟨b,ys,es,q',z,hb,hh',rr'⟩:=x.good.ow j e h';exact⟨b,ys,es,q',z,.inr ⟨j,e,h,q'⟩,hh',Reps.sub sub _ rr'⟩
end
section
variable{X:Cx}{CL:ClA}{W:XW}{pos:AY}{e:An}{fe:Rho->R D}{fr:Aj}
theorem Cq.exC{f:D->O}(x:Sx X.K CL Fz B U Z H)(h:Cq X.K CL Fz B W (O.of U r f) D')(k:∀ d v H',r=.ok d->AN H H'->EV X.K CL fr H A H' v d->Sx X.K CL Fz B U Z H'->Cq X.K CL Fz B W (f d) D'->Q v H'):Bg (EV X.K CL fr H A) W H r Q:=by
 cases r with
 |ok d=>exact λv H' s r=>k d v H' rfl s r (x.grow s) h
 |exn y=>exact λH' s=>h H' λb o z=>s _ _ (x.same b o z)
 |bad=>exact h
def SAs(X:Cx)(CL:ClA)(W:XW)(fr:Aj)(i:Ae)(st:A7)(f:Rho->R D):Prop:=∀ A,PS X st (RY (λZ H Q=>AOk H A/\∃ U,Good X.K CL A U Z H/\Bg (EV X.K CL fr H A) W H (f U) Q) (HW i))
theorem SC.sas{n:Ak}(hN:X.N.Nodup)(hi:X.N[i]?=Ab n)(hx:Loc X.env.scope n)(he:SC X CL W fr e fe)(hs:DN e (Ab (.Name n pos')) pos.line X.env=pure Af)(hf:X.fn n=Aa\/X.env.scope.names.lookup n=Ab .local):SAs X CL W fr i (.Assign [.Name n pos'] e pos) fe:=
 λA=>OC hN hi hx (he A) hs hf
theorem jS{n:Ak}{fe:Rho->R D}{g:TG}(hc:X.calm=Aa)(B:BlockOk X scope N' ts)(hi:SI X CL W tg iter fi)(hGG:GG X.K CL ts as g)(hg:∀ cl C s H fp,PG (cxC X scope cl C N' s H fp) tg g)(ht:∀ cl C s H fp,STs (cxC X scope cl C N' s H fp) CL ifs fc)(he:∀ cl C s H fp,SE (cxC X scope cl C N' s H fp) CL W0 elt fe)(hs:∀ x,Dz iter X.env x=pure x)(hN:X.N.Nodup)(hni:X.N[i]?=Ab n)(hx:X.env.scope.names.lookup n=Ab .local)(hsw:DN (.ListComp elt [⟨tg,iter,ifs,0⟩] scope pos) (Ab (.Name n pos')) pos2.line X.env=pure Aa):SAs X CL W Aa i (.Assign [.Name n pos'] (.ListComp elt [⟨tg,iter,ifs,0⟩] scope pos) pos2) (λU=>(fi U).bind λxs=>(noX (BU (λx=>(as x U).bind fc) (λx=>(as x U).bind fe) xs)).bind λys=>.ok (.lst ys)):=λA pins s Z H Dn I ⟨hA,U,gd,p⟩=>
 oQ hc B (hi A) hg (λcl C s H fp=>ht cl C s H fp A) (λcl C s H fp=>he cl C s H fp A) hs hN hni hx hsw pins s Z H Dn I ⟨hA,U,gd,TR hGG hA gd p⟩
theorem VO{st:A7}(h:SAs X CL W fr i st fe):SS X CL W st (λU=>O.of U (fe U) λd=>.next (U.set i (Ab (d,Af)))):=λFz B pins s Z H D I ⟨U,x,p⟩=>
 h (Ck B U Z) pins s Z H D I ⟨x.aok,U,x.good,Cq.exC x p λd v H' _ s r x' q=>q _ H' (x'.set i r.1)⟩
theorem Vf{st:A7}(h:SAs X CL W Aa i st fe):SS X CL W st (λU=>O.of U (fe U) λd=>setF U i d):=λFz B pins s Z H D I ⟨U,x,p⟩=>
 h (Ck B U Z) pins s Z H D I ⟨x.aok,U,x.good,Cq.exC x p λd v H' _ s r x' q=>by
  cases d with
  |lst ds=>
   obtain⟨a,xs,rfl,h0,h1,rs⟩:=r.2 rfl ds rfl;exact q _ H' (x.setF s h0 h1 rs)
  |dic ds=>exact r.1.elim
  | _=>exact q.elim⟩
theorem mC(he:SC X CL W Aa e fe):SS X CL W (.Return (Ab e) pos) (λU=>O.of U (fe U) λd=>.ret d Aa):=λFz B pins s Z H D I ⟨U,x,p⟩=>
 Ra (he (Ck B U Z)) pins s Z H D I ⟨x.aok,U,x.good,Cq.exC x p λd v H' _ s r x' q=>q v H' x'.same (Rep.sub (λa h=>.inl h) _ r.1) λ_ ds e=>by
  obtain⟨a,xs,h0,h1,h2,h3⟩:=r.2 rfl ds e;refine⟨a,xs,h0,λo z=>?_,h2,Reps.sub (λb hb=>hb.imp .inl id) _ h3⟩
  have:=x.same a o z;rw[h1]at this;cases this⟩
noncomputable def Sc(U:Rho)(i:Ae):Aj:=match U[i]? with
  |some (Ab (_,o))=>o
  |_=>Af
theorem lZ(he:PE X e (J5 i)):SS X CL W (.Return (Ab e) pos) (λU=>O.of U (EX U i) λd=>.ret d (Sc U i)):=λFz B pins s Z H D I ⟨U,x,p⟩=>
 Ra he pins s Z H D I (by
  dsimp only at p;cases e:EX U i with
  |bad=>rw[e]at p;exact p.elim
  |exn z=>exact(TF e).elim
  |ok d=>
   rw[e]at p;obtain⟨o,e⟩:=U_0 e;have eo:Sc U i=o:=by unfold Sc;rw[e]
   rw[O.of_ok,eo]at p;cases o with
   |false=>
    obtain⟨v,q,r⟩:=x.good.sh i d e;exact⟨v,q,p v H x.same (Rep.sub (λa h=>.inl h) _ r) λz=>nomatch z⟩
   |true=>
    obtain⟨a,xs,ds,q,rfl,ha,hh,r⟩:=x.good.ow i d e;obtain⟨n1,n2⟩:=x.new i _ a e q;refine⟨_,q,p _ H x.same ⟨a,xs,rfl,.inl n2,SqL.of hh,Reps.sub (λa h=>.inl h) _ r⟩ λ_ ds' e'=>?_⟩
    cases e';exact⟨a,xs,rfl,n1,hh,Reps.sub (λb hb=>hb.elim .inl λz=>z ▸ ha) _ r⟩)
theorem QH{ds:Ac D}(h:De U i=.ok ds):U[i]?=Ab (Ab (.lst ds,Aa)):=by
 unfold De at h;split at h
 .rename_i e;cases h;exact e
 .cases h
theorem P9{x:Ex}(h:De U i=.exn x):Ba:=by
 unfold De at h;split at h<;>cases h
variable{o:An}{i:Ae}{apos cpos:AY}
theorem tK(ho:PE X o (J5 i))(he:SE X CL W e fe)(hbase:Fd o "append" X.env (eval o X.env)=eval o X.env)(hfew:((Cc cpos (AB [e] X.env)).all (λx=>!x.1)&&(JM cpos (Hz [] X.env)).all (λx=>x.1.isSome)&&decide ([e].length+([]:Ac Ey).length+(if ([]:Ac Ey).isEmpty then 0 else 1)<30))=Aa)(hline:(apos.endLine==cpos.line)=Aa)(hs:AB [e] X.env=[(Af,eval e X.env)])(hsw:DN (.Call (.Attribute o "append" apos) [e] [] cpos) Ad pos.line X.env=pure Af):
  SS X CL W (.Expr (.Call (.Attribute o "append" apos) [e] [] cpos) pos) (λU=>O.of U (De U i) λxs=>O.of U (fe U) λd=>if BY (xs.length+1)=Aa then .next (U.set i (Ab (.lst (xs++[d]),Aa))) else .bad):=λFz B pins s Z H D I ⟨U,x,p⟩=>by
 refine LY (OS Gn PySem.F.slot_list_append PySem.F.type_list_append gA ho (EH (he (Ck B U Z)) F7 hs) hbase hfew hline hs rfl) hsw pins s Z H D I ?_;dsimp only at p;cases e1:De U i with
 |bad=>rw[e1]at p;exact p.elim
 |exn z=>exact(P9 e1).elim
 |ok ds=>
  rw[e1,O.of_ok]at p;have hi:=QH e1;obtain⟨a,xs,ds',q,e2,ha,hh,r⟩:=x.good.ow i _ hi;cases e2;refine⟨_,q,.inl ⟨rfl,xs,SqL.of hh⟩,x.aok,U,x.good,Cq.ex x p λd v H' _ s rv x' q'=>?_⟩
  split at q'
  .rename_i hz;refine⟨a,xs,v,rfl,rfl,s _ _ hh,?_,q' _ _ (x'.upd hi q ((r.same s).append ⟨rv,trivial⟩))⟩;have:=JU hz;rw[r.length];omega
  .exact q'.elim
theorem tJ(ho:PE X o (J5 i))(he:SC X CL W Aa e fe)(hbase:Fd o "extend" X.env (eval o X.env)=eval o X.env)(hfew:((Cc cpos (AB [e] X.env)).all (λx=>!x.1)&&(JM cpos (Hz [] X.env)).all (λx=>x.1.isSome)&&decide ([e].length+([]:Ac Ey).length+(if ([]:Ac Ey).isEmpty then 0 else 1)<30))=Aa)(hline:(apos.endLine==cpos.line)=Aa)(hs:AB [e] X.env=[(Af,eval e X.env)])(hsw:DN (.Call (.Attribute o "extend" apos) [e] [] cpos) Ad pos.line X.env=pure Af):
  SS X CL W (.Expr (.Call (.Attribute o "extend" apos) [e] [] cpos) pos) (λU=>O.of U (De U i) λxs=>O.of U (fe U) λd=>O.of U (KN d) λys=>if BY (xs.length+ys.length)=Aa then .next (U.set i (Ab (.lst (xs++ys),Aa))) else .bad):=λFz B pins s Z H D I ⟨U,x,p⟩=>by
 refine LY (OS Gn FA ZM fZ ho (EH (he (Ck B U Z)) F7 hs) hbase hfew hline hs rfl) hsw pins s Z H D I ?_;dsimp only at p;cases e1:De U i with
 |bad=>rw[e1]at p;exact p.elim
 |exn z=>exact(P9 e1).elim
 |ok ds=>
  rw[e1,O.of_ok]at p;have hi:=QH e1;obtain⟨a,xs,ds',q,e2,ha,hh,r⟩:=x.good.ow i _ hi;cases e2;refine⟨_,q,.inl ⟨rfl,xs,SqL.of hh⟩,x.aok,U,x.good,Cq.exC x p λd v H' _ s rv x' q'=>?_⟩
  cases d with
  |lst es=>
   obtain⟨b,ys,rfl,h0,h1,rs⟩:=rv.2 rfl es rfl;rw[T5,O.of_ok]at q';split at q'
   .rename_i hz;refine⟨a,b,xs,ys,rfl,rfl,s _ _ hh,h1,?_,q' _ _ (x'.upd hi q ((r.same s).append (Reps.sub (λc hc=>.inl hc) _ rs)))⟩
    rw[r.length,rs.length];exact JU hz
   .exact q'.elim
  |_=>exact q'.elim
theorem lW{rest:Ac A7}{f:Rho->O}(i:Ae)(h:SSs X CL W rest f):SSs X CL W rest (λU=>(match U[i]? with
   |some (Ab (d,Aa))=>O.next (U.set i (Ab (d,Af)))
   | _=>O.next U).seq f):=λFz B=>PSs.weak (h Fz B) λD Z H ⟨U,x,p⟩=>by
 dsimp only at p;split at p
 .rename_i d e;exact⟨_,x.rel e,p⟩
 .exact⟨U,x,p⟩
end
section
variable{X:Cx}{CL:ClA}{W:XW}{pos:AY}{e k o:An}{fe fk:Rho->R D}{i:Ae}{apos cpos:AY}
theorem Bb.take{its:Ac Ai}(r:Bb xs its):∀ n,Bb (xs.take n) (its.take n):=by
 induction r with
 |nil=>intro n;simp;exact .nil
 |cons h _ ih=>
  intro n;cases n with
  |zero=>exact .nil
  |succ n=>exact .cons h (ih n)
theorem Bb.drop{its:Ac Ai}(r:Bb xs its):∀ n,Bb (xs.drop n) (its.drop n):=by
 induction r with
 |nil=>intro n;simp;exact .nil
 |cons h t ih=>
  intro n;cases n with
  |zero=>exact .cons h t
  |succ n=>exact ih n
end
section
variable{prog:AQ}{w:AT}{A:AV}{E:Vq}{s:Ap}
theorem vH{j t:Al}{x:Ai}{Q:Vq}(st:s.heap.IsTupleIter j t k)(sq:s.heap.IsTuple t its)(at_:its[k]?=Ab x)(go:∀ h2,h2.IsTupleIter j t (k+1)->DY j s.heap h2->Q x {s with heap:=h2}):Aw (model prog w) A (BP (.ref j)) Q E s:=by
 obtain⟨oj,gj,cj,dj⟩:=id st;obtain⟨ot,gt,_,nt,dt⟩:=sq;show Aw _ _ (callSpecial? _ _ >>= _) _ _ _;refine Ah (Cu st.typeIs EB (Ca EB st.typeIs ZB ?_ (Zw _)));show Aw _ _ (field (.ref j) 0 >>= _) _ _ _;refine Ah (B8 gj dj (x:=.ref t) rfl ?_);show Aw _ _ (field (.ref j) 1 >>= _) _ _ _;refine Ah (B8 gj dj (x:=.int k 0) rfl ?_);refine Ah (Dq gt dt ?_);simp only[Ic,at_];exact Ah (Ek gj dj (by simp) (At ⟨x,rfl,At (go _ ⟨_,CG _ gj (DK (Cm dj _)),(Gv ..).trans cj,by rw[Cm dj];simp[CB]⟩ (CV ..))⟩))
theorem fY{j t:Al}{Q:Vq}(calm:A.handled=Ad)(st:s.heap.IsTupleIter j t k)(sq:s.heap.IsTuple t its)(at_:its[k]?=Ad)(up:∀ h2 e,KU j s.heap h2->(∃ o,h2.get? e=Ab o/\o.cls=.type "StopIteration")->E (.ref e) {s with heap:=h2}):Aw (model prog w) A (BP (.ref j)) Q E s:=by
 obtain⟨oj,gj,cj,dj⟩:=id st;obtain⟨ot,gt,_,nt,dt⟩:=sq;show Aw _ _ (callSpecial? _ _ >>= _) _ _ _;refine Ah (Cu st.typeIs EB (Ca EB st.typeIs ZB ?_ (Zw _)));show Aw _ _ (field (.ref j) 0 >>= _) _ _ _;refine Ah (B8 gj dj (x:=.ref t) rfl ?_);show Aw _ _ (field (.ref j) 1 >>= _) _ _ _;refine Ah (B8 gj dj (x:=.int k 0) rfl ?_);refine Ah (Dq gt dt ?_);simp only[Ic,at_];refine Ah (Ha (Ah (Ek gj dj (by simp) ?_)))
 refine Ah ?_;simp only[newExc,newTuple];refine Ah (CT ?_ (by size_fits))
 refine Ah (m:=Hr _ _) (DE (a:=.none) (by first|rfl|(simp only[Hr];rfl)) (CT ?_ (by size_fits)))
 simp only[MR];refine Ah (wpAny_handled ?_)
 first|rw[show A.in1.handled=Ad from calm]|rw[calm]
 exact Ah (At (wpAny_throw (up _ _ (((CV ..).extBut.push _).push _) ⟨_,AH _ rfl,rfl⟩)))
end
structure Dw (prog:AQ) (w:AT) (A:AV) (j:Al) (fp:Ac Al) (n:Ae) (P:Ae->Ai->Prop) (S:Ae->AK->Prop):Prop where
 frame:∀ i h h2,S i h->(∀ c∈fp,∀ o,h.get? c=Ab o->h2.get? c=Ab o)->S i h2
 item:∀ i (s:Ap) (Q:Vq) (E:Vq),i<n->S i s.heap->(∀ x h2 tk,P i x->S (i+1) h2->DY j s.heap h2->Q x {s with heap:=h2,toks:=tk})->Aw (model prog w) A (BP (.ref j)) Q E s
 done:∀ i (s:Ap) (Q:Vq) (E:Vq),n<=i->S i s.heap->(∀ h2 e,KU j s.heap h2->(∃ o,h2.get? e=Ab o/\o.cls=.type "StopIteration")->E (.ref e) {s with heap:=h2})->Aw (model prog w) A (BP (.ref j)) Q E s
def GW(t:Aj)(h:AK)(j l:Al)(i:Ae):Prop:=match t with
  |true=>h.IsTupleIter j l i
  |false=>h.IsListIter j l i
def FG(t:Aj)(h:AK)(l:Al)(its:Au Ai):Prop:=match t with
  |true=>h.IsTuple l its
  |false=>h.IsList l its
theorem Mx{A:AV}(calm:A.handled=Ad)(t:Aj)(j l:Al)(ne:l≠j)(its:Au Ai):Dw prog w A j [j,l] its.size (λi v=>its[i]?=Ab v) (λi h=>GW t h j l i/\FG t h l its):=by
 cases t with
 |true=>exact⟨λ_ _ _ z k=>⟨z.1.at λo e=>k j (by simp) o e,z.2.at λo e=>k l (by simp) o e⟩,λi s Q E hi z q=>vH z.1 z.2 (x:=its[i]) (by simp[hi]) λh2 z2 sb=>q _ h2 s.toks (by simp[hi]) ⟨z2,z.2.extBut sb.extBut ne⟩ sb,λi s Q E hi z q=>fY calm z.1 z.2 (by simp[hi]) q⟩
 |false=>exact⟨λ_ _ _ z k=>⟨z.1.at λo e=>k j (by simp) o e,z.2.at λo e=>k l (by simp) o e⟩,λi s Q E hi z q=>wpAny_nextOf_list_item z.1 z.2 (x:=its[i]) (by simp[hi]) λh2 z2 sb=>q _ h2 s.toks (by simp[hi]) ⟨z2,z.2.extBut sb.extBut ne⟩ sb,λi s Q E hi z q=>wpAny_nextOf_list_end calm z.1 z.2 (by simp[hi]) q⟩
theorem nb1{I l c:Ae}(b:l<I)(h:c∈[I,l])(j:Ae):c≠I+(j+1):=by
 have h':c=I\/c=l:=by simpa using h
 omega
theorem nb2{I l c:Ae}(b:l<I)(h:c∈[I+1,l]):c≠I/\c≠I+3/\c≠I+4:=by
 have h':c=I+1\/c=l:=by simpa using h
 omega
theorem nij{I i j:Ae}(h:i≠j):I+i≠I+j:=by omega
theorem ni0{I i:Ae}(h:i≠0):I+i≠I:=by omega
section
variable{prog:AQ}{w:AT}{A:AV}{E:Vq}{s:Ap}
theorem TC{I l1 l2 n1 n2 k:Ae}{P1 P2:Ae->Ai->Prop}{S1 S2:Ae->AK->Prop}{a b:Ai}{Q:Vq}(b1:l1<I)(b2:l2<I)(D1:Dw prog w A I [I,l1] n1 P1 S1)(D2:Dw prog w A (I+1) [I+1,l2] n2 P2 S2)(hz:GH s.heap (I+4) (I+2) (I+3) .none)(hI:E3 s.heap (I+2) (.ref I) (.ref (I+1)))(hO:E3 s.heap (I+3) a b)(g1:S1 k s.heap)(g2:S2 k s.heap)(k1:k<n1)(k2:k<n2)(go:∀ x y h2 tk,P1 k x->P2 k y->GH h2 (I+4) (I+2) (I+3) (CB s.heap.objs.size)->E3 h2 (I+3) x y->S1 (k+1) h2->S2 (k+1) h2->E3 h2 s.heap.objs.size x y ->
   (∀ c o,c∉[I,I+1,I+3,I+4]->s.heap.get? c=Ab o->h2.get? c=Ab o)->Q (.ref s.heap.objs.size) {s with heap:=h2,toks:=tk}):Aw (model prog w) A (Builtin.«zip.__next__» ⟨[.ref (I+4)],[]⟩) (λfin s'=>∃ v,fin=.done (.ret v)/\Q v s') E s:=by
 refine Ah (m:=field (.ref (I+4)) 2) (B8 hz rfl (x:=.bool Af) rfl ?_);refine Ah (m:=field (.ref (I+4)) 3) (B8 hz rfl (x:=.ref (I+2)) rfl (Ah (Dq hI rfl ?_)));refine Ah (m:=Do (.ref (I+4))) ?_;simp only[Do];refine Ah (B8 hz rfl (x:=.none) rfl (At ?_));rw[Ar rfl];refine Ah (Ha (Ah (B8 hz rfl (x:=.ref (I+3)) rfl (Ah (Ev hz (by simp) λp1 z1 e1=>Ah ?_)))))
 have z1':GH p1 (I+4) (I+2) (I+3) .ellipsis:=z1;simp only[Ix,Yr,IT,Hn];refine Ah (Ah (GJ (Ah (m:=BP (.ref I)) (D1.item k _ _ _ k1 (D1.frame _ _ _ g1 λc hc o q=>e1.extBut c o (nb1 b1 hc 3) q) λx p2 t2 px s2 e2=>At ?_))))
 have o2:E3 p2 (I+3) a b:=e2.extBut _ _ (ni0 (by decide)) (e1.extBut _ _ (nij (by decide)) hO)
 refine Ah (Dq o2 rfl (Ah (Hb o2 λp3 o3 e3=>Ah (K0 (At ?_)))))
 have o3':E3 p3 (I+3) x b:=o3;have g2':S2 k p3:=D2.frame _ _ _ g2 λc hc o q=>e3.extBut c o (nb2 b2 hc).2.1 (e2.extBut c o (nb2 b2 hc).1 (e1.extBut c o (nb2 b2 hc).2.2 q))
 refine Ah (Ah (GJ (Ah (m:=BP (.ref (I+1))) (D2.item k _ _ _ k2 g2' λy p4 t4 py s4 e4=>At ?_))))
 have o4:E3 p4 (I+3) x b:=e4.extBut _ _ (nij (by decide)) o3'
 refine Ah (Dq o4 rfl (Ah (Hb o4 λp5 o5 e5=>Ah (K0 (At (At ?_))))))
 have o5':E3 p5 (I+3) x y:=o5;have sz:p5.objs.size=s.heap.objs.size:=by rw[e5.1,e4.1,e3.1,e2.1,e1.1]
 have z5:GH p5 (I+4) (I+2) (I+3) .ellipsis:=e5.extBut _ _ (nij (by decide)) (e4.extBut _ _ (nij (by decide)) (e3.extBut _ _ (nij (by decide)) (e2.extBut _ _ (ni0 (by decide)) z1')))
 refine Ah (Dq o5' rfl (Ah (bF ?_)));refine Ah (m:=YV (.ref (I+4)) (.ref p5.objs.size)) ?_;simp only[YV];have z6:GH (p5.push { cls:=.type "tuple",data:=.seq #[x,y] }) (I+4) (I+2) (I+3) .ellipsis:=Aq _ z5;refine Ah (Ev z6 (by simp) λp7 z7 e7=>?_)
 have z7':GH p7 (I+4) (I+2) (I+3) (CB p5.objs.size):=z7;refine Ev z7' (by simp) λp8 z8 e8=>At ⟨_,rfl,?_⟩
 have z8':GH p8 (I+4) (I+2) (I+3) (CB p5.objs.size):=z8;have lt5:I+4<p5.objs.size:=AL z5;have up:∀ c o,c≠I+4->p5.get? c=Ab o->p8.get? c=Ab o:=λc o nc q=>e8.extBut _ _ nc (e7.extBut _ _ nc (Aq _ q))
 have t8:E3 p8 p5.objs.size x y:=e8.extBut _ _ (E1 lt5) (e7.extBut _ _ (E1 lt5) (AH _ rfl));have a1:S1 (k+1) p8:=D1.frame _ _ _ s2 λc hc o q=>up c o (nb1 b1 hc 3) (e5.extBut c o (nb1 b1 hc 2) (e4.extBut c o (nb1 b1 hc 0) (e3.extBut c o (nb1 b1 hc 2) q)))
 have a2:S2 (k+1) p8:=D2.frame _ _ _ s4 λc hc o q=>up c o (nb2 b2 hc).2.2 (e5.extBut c o (nb2 b2 hc).2.1 q)
 have kp:∀ c o,c∉[I,I+1,I+3,I+4]->s.heap.get? c=Ab o->p8.get? c=Ab o:=λc o nc q=>by
  simp only[AJ,Bo,CN,FH]at nc;exact up c o nc.2.2.2 (e5.extBut c o nc.2.2.1 (e4.extBut c o nc.2.1 (e3.extBut c o nc.2.2.1 (e2.extBut c o nc.1 (e1.extBut c o nc.2.2.2 q)))))
 have q:=go x y p8 t4 px py (by rw[<-sz];exact z8') (up _ _ (nij (by decide)) o5') a1 a2 (by rw[<-sz];exact t8) kp
 rw[<-sz]at q;exact q
theorem UU{I l1 l2 n1 n2 k:Ae}{P1 P2:Ae->Ai->Prop}{S1 S2:Ae->AK->Prop}{a b:Ai}{Q:Fin->Ap->Prop}(b1:l1<I)(b2:l2<I)(D1:Dw prog w A I [I,l1] n1 P1 S1)(D2:Dw prog w A (I+1) [I+1,l2] n2 P2 S2)(hz:GH s.heap (I+4) (I+2) (I+3) .none)(hI:E3 s.heap (I+2) (.ref I) (.ref (I+1)))(hO:E3 s.heap (I+3) a b)(g1:S1 k s.heap)(g2:S2 k s.heap)(hk:n1<=k\/(k<n1/\n2<=k))(up:∀ h2 e tk,(∀ c o,c∉[I,I+1,I+3,I+4]->s.heap.get? c=Ab o->h2.get? c=Ab o)->(∃ o,h2.get? e=Ab o/\o.cls=.type "StopIteration")->E (.ref e) {s with heap:=h2,toks:=tk}):Aw (model prog w) A (Builtin.«zip.__next__» ⟨[.ref (I+4)],[]⟩) Q E s:=by
 refine Ah (m:=field (.ref (I+4)) 2) (B8 hz rfl (x:=.bool Af) rfl ?_);refine Ah (m:=field (.ref (I+4)) 3) (B8 hz rfl (x:=.ref (I+2)) rfl (Ah (Dq hI rfl ?_)));refine Ah (m:=Do (.ref (I+4))) ?_;simp only[Do];refine Ah (B8 hz rfl (x:=.none) rfl (At ?_));rw[Ar rfl];refine Ah (Ha (Ah (B8 hz rfl (x:=.ref (I+3)) rfl (Ah (Ev hz (by simp) λp1 z1 e1=>Ah ?_)))))
 have z1':GH p1 (I+4) (I+2) (I+3) .ellipsis:=z1;simp only[Ix,Yr,IT,Hn];have g1':S1 k p1:=D1.frame _ _ _ g1 λc hc o q=>e1.extBut c o (nb1 b1 hc 3) q
 rcases hk with k1|⟨k1,k2⟩
 .refine Ah (Ah (GJ (Ah (m:=BP (.ref I)) (D1.done _ _ _ _ k1 g1' λp2 e e2 he=>?_))))
  obtain⟨oe,hoe,hce⟩:=he;have z2:GH p2 (I+4) (I+2) (I+3) .ellipsis:=e2 _ _ (ni0 (by decide)) z1'
  have ne:e≠I+4:=λx=>by subst x;rw[z2]at hoe;cases hoe;simp at hce
  refine Ev z2 (by simp) λp3 _ e3=>up p3 e s.toks (λc o nc q=>?_) ⟨oe,e3.extBut _ _ ne hoe,hce⟩
  simp only[AJ,Bo,CN,FH]at nc;exact e3.extBut c o nc.2.2.2 (e2 c o nc.1 (e1.extBut c o nc.2.2.2 q))
 .refine Ah (Ah (GJ (Ah (m:=BP (.ref I)) (D1.item k _ _ _ k1 g1' λx p2 t2 px s2 e2=>At ?_))))
  have o2:E3 p2 (I+3) a b:=e2.extBut _ _ (ni0 (by decide)) (e1.extBut _ _ (nij (by decide)) hO)
  refine Ah (Dq o2 rfl (Ah (Hb o2 λp3 o3 e3=>Ah (K0 (At ?_)))))
  have g2':S2 k p3:=D2.frame _ _ _ g2 λc hc o q=>e3.extBut c o (nb2 b2 hc).2.1 (e2.extBut c o (nb2 b2 hc).1 (e1.extBut c o (nb2 b2 hc).2.2 q))
  refine Ah (Ah (GJ (Ah (m:=BP (.ref (I+1))) (D2.done _ _ _ _ k2 g2' λp4 e e4 he=>?_))))
  obtain⟨oe,hoe,hce⟩:=he;have z4:GH p4 (I+4) (I+2) (I+3) .ellipsis:=e4 _ _ (nij (by decide)) (e3.extBut _ _ (nij (by decide)) (e2.extBut _ _ (ni0 (by decide)) z1'))
  have ne:e≠I+4:=λx=>by subst x;rw[z4]at hoe;cases hoe;simp at hce
  refine Ev z4 (by simp) λp5 _ e5=>up p5 e t2 (λc o nc q=>?_) ⟨oe,e5.extBut _ _ ne hoe,hce⟩
  simp only[AJ,Bo,CN,FH]at nc;exact e5.extBut c o nc.2.2.2 (e4 c o nc.2.1 (e3.extBut c o nc.2.2.1 (e2.extBut c o nc.1 (e1.extBut c o nc.2.2.2 q))))
end
def SqX(t:Aj)(K:Fg)(H:Hp)(a:Al)(xs:Ac V):Prop:=match t with
  |true=>SqT K H a xs
  |false=>SqL K H a xs
theorem JZ(I:Inv X pins Z H s)(h:SqX t X.K H a xs):∃ its:Ac Ai,Bb xs its/\FG t s.heap a its.toArray/\xs.length<=sizeLine:=by
 cases t with
 |true=>
  obtain⟨its,rv,p,z⟩:=I.tuple h;exact⟨its,rv,p,z⟩
 |false=>
  obtain⟨its,rv,p,z⟩:=I.list h;exact⟨its,rv,p.isList,z⟩
theorem Ps(I:Inv X pins Z H s)(h:SqX t X.K H a xs)(h2:SqX t X.K H a ys):xs=ys:=by
 cases t with
 |true=>exact I.tuple_inj h h2
 |false=>exact I.list_inj h h2
noncomputable def Itz(K:Fg)(t1 t2:Aj)(a b:Al):It:=
  ⟨λi H=>∃ xs ys x y,SqX t1 K H a xs/\SqX t2 K H b ys/\xs[i]?=Ab x/\ys[i]?=Ab y,
   λi H v H'=>∃ p x y,H p=Ad/\v=.ref p/\(∀ xs,SqX t1 K H a xs->xs[i]?=Ab x)/\(∀ ys,SqX t2 K H b ys->ys[i]?=Ab y)/\H'=upd H p (.tup [x,y]),
   λi H=>∃ xs ys,SqX t1 K H a xs/\SqX t2 K H b ys/\(xs.length<=i\/(i<xs.length/\ys.length<=i))⟩
theorem Inv.turnedL{t':Ae}(ch:Ac Al)(I:Inv X pins Z H s)(k:∀ b o,b∉ch->s.heap.get? b=Ab o->h'.get? b=Ab o)(hf:∀ b∈ch,Hh X pins H b):Inv X pins Z H {s with heap:=h',toks:=t'}:=by
 have nit:∀ b u,H b=Ab u->b∉ch:=λb u e z=>by rw[(hf b z).1]at e;cases e
 refine I.step (g':=s.gens) (d':=s.drawn) (ch:=ch) (λb hb=>⟨(hf b hb).2.2.2.1,(hf b hb).2.1,(hf b hb).2.2.2.2.1,(hf b hb).2.2.2.2.2⟩) (λb o _ _ hc e _=>k b o hc e) (λb o _ _ hc e _=>⟨o.slots,k b o hc e⟩) (λ_ _ _ _ n=>n)
  (λb o hc e=>⟨o,k b o hc e⟩) (λ_ _ e=>e) (λ_ _ _ e=>e) (λb ps e=>⟨#[],by rw[e];simp⟩) (λm ⟨o,es,ep,ho,r⟩=>⟨o,es,ep,k _ o (λz=>(hf _ z).2.1 rfl) ho,r⟩) (λb u e=>(I.hok b u e).stay (λc v hc q=>k c v ?_ q) (λ_ q=>q) λ_ _ q=>q) I.bare
 rcases hc with z|z
 .rw[z];exact nit b u e
 .exact nit c _ z
def zTn(t1 t2:Aj)(I l1 l2:Ae)(i:Ae)(h:AK):Prop:=GH h (I+4) (I+2) (I+3) .none/\E3 h (I+2) (.ref I) (.ref (I+1))/\(∃ a b,E3 h (I+3) a b)/\GW t1 h I l1 i/\GW t2 h (I+1) l2 i
noncomputable def zFp(I:Ae):Ac Al:=[I,I+1,I+2,I+3,I+4]
theorem GW.obj{j:Al}(z:GW t h j l i):∃ o,h.get? j=Ab o/\∀ v,o.data≠.cell v:=by
 cases t with
 |true=>obtain⟨o,e,c,d⟩:=z;exact⟨o,e,λv z=>by rw[d]at z;cases z⟩
 |false=>obtain⟨o,e,c,d⟩:=z;exact⟨o,e,λv z=>by rw[d]at z;cases z⟩
theorem GW.at'{h2:AK}{j:Al}(z:GW t h j l i)(k:∀ o,h.get? j=Ab o->h2.get? j=Ab o):GW t h2 j l i:=by
 cases t with
 |true=>exact PySem.Heap.IsTupleIter.at z k
 |false=>exact PySem.Heap.IsListIter.at z k
theorem gS(t1 t2:Aj)(I l1 l2:Ae)(b1:l1<I)(b2:l2<I):Turn P w K (.Tuple es n pos) (Itz K t1 t2 l1 l2) (zFp I) (I+4) (zTn t1 t2 I l1 l2) where
  mem:=by simp[zFp]
  obj:=λi h ⟨z1,z2,⟨a,b,z3⟩,z4,z5⟩ c hc=>by
    simp only[zFp,AJ,Bo,CN]at hc;rcases hc with rfl|rfl|rfl|rfl|rfl
    · exact z4.obj
    · exact z5.obj
    · exact⟨_,z2,λv z=>by cases z⟩
    · exact⟨_,z3,λv z=>by cases z⟩
    · exact⟨_,z1,λv z=>by cases z⟩
  keep:=λi h h2 ⟨z1,z2,⟨a,b,z3⟩,z4,z5⟩ k=>⟨k _ (by simp[zFp]) _ z1,k _ (by simp[zFp]) _ z2,⟨a,b,k _ (by simp[zFp]) _ z3⟩,z4.at' λo e=>k _ (by simp[zFp]) o e,z5.at' λo e=>k _ (by simp[zFp]) o e⟩
  item:=by
    intro X hP hw hK hc i pins s Z H E Iv hf ⟨z1,z2,⟨a,b,z3⟩,z4,z5⟩ ⟨xs,ys,x,y,q1,q2,hx,hy⟩;subst hP hw hK;obtain⟨us,rx,sx,_⟩:=JZ Iv q1;obtain⟨vs,ry,sy,_⟩:=JZ Iv q2;obtain⟨u,hu,ru⟩:=rx.get hx;obtain⟨v,hv,rv⟩:=ry.get hy;have hT:s.TypeIs (.ref (I+4)) "zip" := ⟨_,z1,rfl⟩;have calm:X.A.in1.handled=Ad:=Iv.ok.hd hc;show Aw _ _ (Fm _) _ _ _;simp only[Fm];refine Ah (Fe (Cu hT DX (Ca DX hT GM (TC (k:=i) b1 b2 (Mx calm t1 I l1 (AW b1) us.toArray) (Mx calm t2 (I+1) l2 (AW (By b2)) vs.toArray) z1 z2 z3 ⟨z4,sx⟩ ⟨z5,sy⟩
      (by have:=(AZ.mp hu).1;simpa using this) (by have:=(AZ.mp hv).1;simpa using this) λx' y' h2 tk px py c1 c2 c3 c4 c5 kp=>At ?_) (Gr _))))
    have ex:x'=u:=by
      have px':us[i]?=Ab x':=by simpa using px
      rw[hu]at px';exact(Bf px').symm
    have ey:y'=v:=by
      have py':vs[i]?=Ab y':=by simpa using py
      rw[hv]at py';exact(Bf py').symm
    subst ex ey;refine⟨_,rfl,bE c1 λh3 d1 sb=>?_⟩
    have lt4:I+4<s.heap.objs.size:=AL z1;have kp3:∀ c o,c∉zFp I->s.heap.get? c=Ab o->h3.get? c=Ab o:=λc o nc q=>by
      simp only[zFp,AJ,Bo,CN,FH]at nc;exact sb.extBut c o nc.2.2.2.2 (kp c o (by simp only[AJ,Bo,CN,FH];exact⟨nc.1,nc.2.1,nc.2.2.2.1,nc.2.2.2.2⟩) q)
    have nT:∀ c∈zFp I,c≠s.heap.objs.size:=λc hc z=>by
      have:c<=I+4:=by
        simp only[zFp,AJ,Bo,CN]at hc;rcases hc with z|z|z|z|z<;>rw[z]<;>simp
      exact absurd (z ▸ HC this lt4) (Bk _)
    have I1:Inv X pins Z (upd H s.heap.objs.size (.tup [x,y])) { s with heap:=s.heap.push { cls:=.type "tuple",data:=.seq #[x',y'] },toks:=s.toks }:=
      Iv.laid (λ_ _ q=>Aq _ q) (Ay _) ⟨(by decide:2<=sizeLine),[x',y'],.cons ru (.cons rv .nil),⟨_,AH _ rfl,rfl,_,rfl⟩⟩
    have hf':∀ b∈zFp I,Hh X pins (upd H s.heap.objs.size (.tup [x,y])) b:=λb hb=>⟨by rw[Cv (nT b hb)];exact(hf b hb).1,(hf b hb).2⟩
    have I2:Inv X pins Z (upd H s.heap.objs.size (.tup [x,y])) {s with heap:=h3,toks:=tk}:=Inv.turnedL (s:={ s with heap:=s.heap.push { cls:=.type "tuple",data:=.seq #[x',y'] },toks:=s.toks }) (zFp I) I1 (λc o nc q=>by
      rcases ZO q with ⟨e1,e2⟩|e1
      · subst e1 e2;exact sb.extBut _ _ (E1 lt4) c5
      · exact kp3 c o nc e1) hf'
    refine⟨.ref s.heap.objs.size,_,I2,rfl,⟨s.heap.objs.size,x,y,Iv.fresh,rfl,λzs hz=>by rw[Ps Iv hz q1];exact hx,λzs hz=>by rw[Ps Iv hz q2];exact hy,rfl⟩,⟨d1,sb.extBut _ _ (nij (by decide)) (kp _ _ (by simp) z2),⟨_,_,sb.extBut _ _ (nij (by decide)) c2⟩,c3.1.at' λo q=>sb.extBut _ o (Ea (ni0 (by decide))) q,c4.1.at' λo q=>sb.extBut _ o (nij (by decide)) q⟩,λb hb=>(hf' b hb).1⟩
  done:=by
    intro X hP hw hK hc i pins s Z H E Iv hf ⟨z1,z2,⟨a,b,z3⟩,z4,z5⟩ ⟨xs,ys,q1,q2,hk⟩;subst hP hw hK;obtain⟨us,rx,sx,_⟩:=JZ Iv q1;obtain⟨vs,ry,sy,_⟩:=JZ Iv q2;have hT:s.TypeIs (.ref (I+4)) "zip" := ⟨_,z1,rfl⟩;have calm:X.A.in1.handled=Ad:=Iv.ok.hd hc;have e1:=rx.length;have e2:=ry.length;simp only[Fm];refine Ah (Fe (Cu hT DX (Ca DX hT GM (UU (k:=i) b1 b2 (Mx calm t1 I l1 (AW b1) us.toArray) (Mx calm t2 (I+1) l2 (AW (By b2)) vs.toArray) z1 z2 z3 ⟨z4,sx⟩ ⟨z5,sy⟩
      (by simp only[AO];omega) λh2 e tk kp he=>?_) (Gr _))))
    obtain⟨o,ho,hcl⟩:=he;refine Ah (GO (T := "StopIteration") (b:=Aa) ⟨o,ho,hcl⟩ JG (At ⟨rfl,Inv.turnedL [I,I+1,I+3,I+4] Iv (λc o nc q=>kp c o nc q) λc hc=>hf c ?_⟩))
    simp only[AJ,Bo,CN]at hc;simp only[zFp,AJ,Bo,CN];rcases hc with rfl|rfl|rfl|rfl<;>simp
  self:=λ_ _ _ _ _ st h=>GP st.1 h
section
variable{prog:AQ}{w:AT}{A:AV}{E:Vq}{s:Ap}
noncomputable def itO(t:Aj)(l:Al):Dx:=match t with
  |true=>{ cls:=.type "tuple_iterator",data:=.fields #[.ref l,.int 0 0] }
  |false=>{ cls:=.type "list_iterator",data:=.fields #[.ref l,.int 0 0] }
theorem RI{Q:Vq}(h:FG t s.heap l its)(q:Q (.ref s.heap.objs.size) {s with heap:=s.heap.push (itO t l)}):Aw (model prog w) A (HK (.ref l)) Q E s:=by
 cases t with
 |true=>exact bI h q
 |false=>exact Gw h q
theorem FG.push(z:FG t h l its)(o:Dx):FG t (h.push o) l its:=by
 cases t with
 |true=>exact PySem.Heap.IsTuple.at z λ_ e=>Aq _ e
 |false=>exact PySem.Heap.IsList.at z λ_ e=>Aq _ e
theorem QW{j:Al}(e:h.get? j=Ab (itO t l)):GW t h j l 0:=by
 cases t with
 |true=>exact⟨_,e,rfl,rfl⟩
 |false=>exact⟨_,e,rfl,rfl⟩
theorem Qs(t:Aj)(l:Al):(itO t l).isFreed=Af:=by cases t<;>rfl
noncomputable abbrev zh2(t1 t2:Aj)(h:AK)(l1 l2:Al):AK:=(h.push (itO t1 l1)).push (itO t2 l2)
noncomputable abbrev zh3(t1 t2:Aj)(h:AK)(l1 l2:Al):AK:=(zh2 t1 t2 h l1 l2).push { cls:=.type "tuple",data:=.seq #[.ref h.objs.size,.ref (h.push (itO t1 l1)).objs.size] }
noncomputable abbrev zh4(t1 t2:Aj)(h:AK)(l1 l2:Al):AK:=(zh3 t1 t2 h l1 l2).push { cls:=.type "tuple",data:=.seq #[.none,.none] }
noncomputable abbrev zh5(t1 t2:Aj)(h:AK)(l1 l2:Al):AK:=(zh4 t1 t2 h l1 l2).push { cls:=.type "zip",data:=.fields #[.none,.bool Af,.bool Af,.ref (zh2 t1 t2 h l1 l2).objs.size,.ref (zh3 t1 t2 h l1 l2).objs.size] }
theorem mF(t1 t2:Aj)(l1 l2:Al)(xs ys:Au Ai):Meets (Builtin.«zip.__new__» ⟨[.type "zip",.ref l1,.ref l2],[]⟩) (λ_ R s=>FG t1 s.heap l1 xs/\FG t2 s.heap l2 ys/\R (.ok (.ret (.ref (zh4 t1 t2 s.heap l1 l2).objs.size))) {s with heap:=zh5 t1 t2 s.heap l1 l2}):=
 .of_wp λprog w A R s h=>by
  obtain⟨hp,g,d,tk,os⟩:=s;obtain⟨a1,a2,q⟩:=h;have hsub:=sub_zip;have L1:FG t1 (KY ⟨hp,g,d,tk,os⟩) l1 xs:=a1;have L2:FG t2 (KY ⟨hp.push (itO t1 l1),g,d,tk,os⟩) l2 ys:=a2.push _
  wp_walk using RI L1,RI L2
  exact⟨_,rfl,q⟩
theorem hG{l1:Al}{xs ys:Au Ai}{Q:Vq}(a1:FG t1 s.heap l1 xs)(a2:FG t2 s.heap l2 ys)(q:∀ h2,zTn t1 t2 s.heap.objs.size l1 l2 0 h2->(∀ c o,s.heap.get? c=Ab o->h2.get? c=Ab o)->Q (.ref (s.heap.objs.size+4)) {s with heap:=h2}):Aw (model prog w) A (call (.type "zip") [.ref l1,.ref l2]) Q E s:=by
 refine callType_new Zx (by decide) (ZK _ _) (ZD _ _) (λobj=>Zu obj _ _) ZC (mF t1 t2 l1 l2 xs ys) ⟨a1,a2,?_⟩
 have s1:(s.heap.push (itO t1 l1)).objs.size=s.heap.objs.size+1:=Bh ..;have s2:(zh2 t1 t2 s.heap l1 l2).objs.size=s.heap.objs.size+2:=by rw[Bh,s1]
 have s3:(zh3 t1 t2 s.heap l1 l2).objs.size=s.heap.objs.size+3:=by rw[Bh,s2]
 have s4:(zh4 t1 t2 s.heap l1 l2).objs.size=s.heap.objs.size+4:=by rw[Bh,s3]
 have u5:∀ {c o},(zh4 t1 t2 s.heap l1 l2).get? c=Ab o->(zh5 t1 t2 s.heap l1 l2).get? c=Ab o:=λe=>Aq _ e
 have u4:∀ {c o},(zh3 t1 t2 s.heap l1 l2).get? c=Ab o->(zh5 t1 t2 s.heap l1 l2).get? c=Ab o:=λe=>u5 (Aq _ e)
 have u3:∀ {c o},(zh2 t1 t2 s.heap l1 l2).get? c=Ab o->(zh5 t1 t2 s.heap l1 l2).get? c=Ab o:=λe=>u4 (Aq _ e)
 have u2:∀ {c o},(s.heap.push (itO t1 l1)).get? c=Ab o->(zh5 t1 t2 s.heap l1 l2).get? c=Ab o:=λe=>u3 (Aq _ e)
 have g5:(zh5 t1 t2 s.heap l1 l2).get? (zh4 t1 t2 s.heap l1 l2).objs.size=Ab _:=AH _ rfl;have g4:(zh5 t1 t2 s.heap l1 l2).get? (zh3 t1 t2 s.heap l1 l2).objs.size=Ab _:=u5 (AH _ rfl);have g3:(zh5 t1 t2 s.heap l1 l2).get? (zh2 t1 t2 s.heap l1 l2).objs.size=Ab _:=u4 (AH _ rfl);have g2:(zh5 t1 t2 s.heap l1 l2).get? (s.heap.push (itO t1 l1)).objs.size=Ab _:=u3 (AH _ (Qs _ _));have g1:(zh5 t1 t2 s.heap l1 l2).get? s.heap.objs.size=Ab _:=u2 (AH _ (Qs _ _));show _/\_;rw[s2,s3,s4]at g5;rw[s3]at g4;rw[s1,s2]at g3;rw[s1]at g2;rw[s4];exact⟨⟨_,g5,rfl⟩,q _ ⟨g5,g3,⟨_,_,g4⟩,QW g1,QW g2⟩ λc o e=>u2 (Aq _ e)⟩
end
theorem FG.lt(z:FG t h a its):a<h.objs.size:=by
 cases t with
 |true=>obtain⟨o,e,_⟩:=z;exact AL e
 |false=>obtain⟨o,e,_⟩:=z;exact AL e
theorem WB{ds:Ac D}(r:Rep K CL H A v d)(e:EI d=.ok ds):∃ t a xs,v=.ref a/\(∀ H2,Kp A H H2->SqX t K H2 a xs)/\Reps K CL H A xs ds:=by
 cases d with
 |lst es=>
  cases e;obtain⟨q,xs,rfl,na,sq,r⟩:=r;exact⟨Af,q,xs,rfl,λH2 k=>OB k na sq,r⟩
 |tup es=>
  cases e;obtain⟨q,xs,rfl,na,sq,r⟩:=r;exact⟨Aa,q,xs,rfl,λH2 k=>OA k na sq,r⟩
 |_=>cases e
theorem M6:∀(xs ys:Ac D),(El xs ys).length=min xs.length ys.length
 |[],_=>by simp[El]
 |_::_,[]=>by simp[El]
 |x::xs,y::ys=>by
  rw[El,A5,M6 xs ys];simp only[A5];omega
theorem Qf:∀(xs ys:Ac D)(i:Ae)(d:D),(El xs ys)[i]?=Ab d->∃ x y,xs[i]?=Ab x/\ys[i]?=Ab y/\d=.tup [x,y]
 |[],_,i,d,h=>by simp[El]at h
 |_::_,[],i,d,h=>by simp[El]at h
 |x::xs,y::ys,0,d,h=>by
  rw[El]at h;simp only[List.getElem?_cons_zero,Option.some.injEq]at h;exact⟨x,y,rfl,rfl,h.symm⟩
 |x::xs,y::ys,i+1,d,h=>by
  rw[El]at h;simp only[List.getElem?_cons_succ]at h ⊢;exact Qf xs ys i d h
theorem hV{ds es:Ac D}(s1:∀ H2,Kp A H1 H2->SqX t1 K H2 a xs)(s2:∀ H2,Kp A H1 H2->SqX t2 K H2 b ys)(r1:Reps K CL H1 A xs ds)(r2:Reps K CL H1 A ys es):Jw K CL A (El ds es) (Itz K t1 t2 a b) H1:=λH k i=>by
 refine⟨λhi=>⟨xs,ys,s1 H k,s2 H k,?_⟩,λd hd=>?_⟩
 .rw[M6]at hi;rw[r1.length,r2.length];omega
 .obtain⟨x,y,hx,hy,rfl⟩:=Qf _ _ _ _ hd;obtain⟨u,hu,ru⟩:=r1.get hx;obtain⟨v,hv,rv⟩:=r2.get hy;refine⟨⟨xs,ys,u,v,s1 H k,s2 H k,hu,hv⟩,?_⟩;rintro w' H' ⟨p,x',y',hp,rfl,c1,c2,rfl⟩;have ex:x'=u:=Bf ((c1 xs (s1 H k)).symm.trans hu);have ey:y'=v:=Bf ((c2 ys (s2 H k)).symm.trans hv);subst ex ey;have sm:=GR hp (.tup [x',y']);exact⟨sm,λB hB aB=>Nf aB hp ⟨MW ru k hB,MW rv k hB,trivial⟩⟩
section
variable{X:Cx}{CL:ClA}{W:XW}{pos p:AY}{a b:An}{fa fb:Rho->R D}
end
noncomputable abbrev SIt(h:AK)(j:Al)(x:Ak)(t:Ci)(i:Ae):Prop:=h.IsStrIter j "str_ascii_iterator" x t i
theorem Wc{A:AV}(calm:A.handled=Ad)(j l:Al)(x:Ak)(t:Ci):Dw prog w A j [j,l] x.cps.size (λi v=>∃ c k,x.cps[i]?=Ab c/\v=.str ⟨#[c]⟩ k) (λi h=>SIt h j x t i):=
 ⟨λ_ _ _ ⟨o,ho,r⟩ k=>⟨o,k j (by simp) o ho,r⟩,λi s Q E hi z q=>wpAny_nextOf_ascii_item z (c:=x.cps[i]) (by simp[hi]) λh2 z2 sb=>q _ h2 _ ⟨x.cps[i],s.toks,by simp[hi],rfl⟩ z2 sb,λi s Q E hi z q=>wpAny_nextOf_ascii_end calm z (by simp[hi]) q⟩
noncomputable def Its(K:Fg)(x:Ak)(t2:Aj)(b:Al):It:=
  ⟨λi H=>∃ ys c y,SqX t2 K H b ys/\x.cps[i]?=Ab c/\ys[i]?=Ab y,
   λi H v H'=>∃ p c y,H p=Ad/\v=.ref p/\x.cps[i]?=Ab c/\(∀ ys,SqX t2 K H b ys->ys[i]?=Ab y)/\H'=upd H p (.tup [.str ⟨#[c]⟩,y]),
   λi H=>∃ ys,SqX t2 K H b ys/\(x.cps.size<=i\/(i<x.cps.size/\ys.length<=i))⟩
def sTn(x:Ak)(t:Ci)(t2:Aj)(I l2:Ae)(i:Ae)(h:AK):Prop:=GH h (I+4) (I+2) (I+3) .none/\E3 h (I+2) (.ref I) (.ref (I+1))/\(∃ a b,E3 h (I+3) a b)/\SIt h I x t i/\GW t2 h (I+1) l2 i
theorem eW(x:Ak)(t:Ci)(t2:Aj)(I l2:Ae)(b2:l2<I):Turn P w K (.Tuple es n pos) (Its K x t2 l2) (zFp I) (I+4) (sTn x t t2 I l2) where
  mem:=by simp[zFp]
  obj:=λi h ⟨z1,z2,⟨a,b,z3⟩,z4,z5⟩ c hc=>by
    simp only[zFp,AJ,Bo,CN]at hc;rcases hc with rfl|rfl|rfl|rfl|rfl
    · obtain⟨o,e,_,d⟩:=z4;exact⟨o,e,λv z=>by rw[d]at z;cases z⟩
    · exact z5.obj
    · exact⟨_,z2,λv z=>by cases z⟩
    · exact⟨_,z3,λv z=>by cases z⟩
    · exact⟨_,z1,λv z=>by cases z⟩
  keep:=λi h h2 ⟨z1,z2,⟨a,b,z3⟩,z4,z5⟩ k=>⟨k _ (by simp[zFp]) _ z1,k _ (by simp[zFp]) _ z2,⟨a,b,k _ (by simp[zFp]) _ z3⟩,(let ⟨o,e,r⟩:=z4;⟨o,k _ (by simp[zFp]) o e,r⟩),z5.at' λo e=>k _ (by simp[zFp]) o e⟩
  item:=by
    intro X hP hw hK hc i pins s Z H E Iv hf ⟨z1,z2,⟨a,b,z3⟩,z4,z5⟩ ⟨ys,cc,y,q2,hx,hy⟩;subst hP hw hK;obtain⟨vs,ry,sy,_⟩:=JZ Iv q2;obtain⟨v,hv,rv⟩:=ry.get hy;have hT:s.TypeIs (.ref (I+4)) "zip" := ⟨_,z1,rfl⟩;have calm:X.A.in1.handled=Ad:=Iv.ok.hd hc;show Aw _ _ (Fm _) _ _ _;simp only[Fm];refine Ah (Fe (Cu hT DX (Ca DX hT GM (TC (k:=i) b2 b2 (Wc calm I l2 x t) (Mx calm t2 (I+1) l2 (AW (By b2)) vs.toArray) z1 z2 z3 z4 ⟨z5,sy⟩
      (FR.mp hx).1 (by have:=(AZ.mp hv).1;simpa using this) λx' y' h2 tk px py c1 c2 c3 c4 c5 kp=>At ?_) (Gr _))))
    obtain⟨c0,k0,px,ex⟩:=px;have ec:cc=c0:=by
      rw[hx]at px;exact Bf px
    subst ec;have ey:y'=v:=by
      have py':vs[i]?=Ab y':=by simpa using py
      rw[hv]at py';exact(Bf py').symm
    subst ex ey;refine⟨_,rfl,bE c1 λh3 d1 sb=>?_⟩
    have lt4:I+4<s.heap.objs.size:=AL z1;have kp3:∀ c o,c∉zFp I->s.heap.get? c=Ab o->h3.get? c=Ab o:=λc o nc q=>by
      simp only[zFp,AJ,Bo,CN,FH]at nc;exact sb.extBut c o nc.2.2.2.2 (kp c o (by simp only[AJ,Bo,CN,FH];exact⟨nc.1,nc.2.1,nc.2.2.2.1,nc.2.2.2.2⟩) q)
    have nT:∀ c∈zFp I,c≠s.heap.objs.size:=λc hc z=>by
      have:c<=I+4:=by
        simp only[zFp,AJ,Bo,CN]at hc;rcases hc with z|z|z|z|z<;>rw[z]<;>simp
      exact absurd (z ▸ HC this lt4) (Bk _)
    have I1:Inv X pins Z (upd H s.heap.objs.size (.tup [.str ⟨#[cc]⟩,y])) { s with heap:=s.heap.push { cls:=.type "tuple",data:=.seq #[.str ⟨#[cc]⟩ k0,y'] },toks:=s.toks }:=
      Iv.laid (λ_ _ q=>Aq _ q) (Ay _) ⟨(by decide:2<=sizeLine),[.str ⟨#[cc]⟩ k0,y'],.cons ⟨k0,rfl⟩ (.cons rv .nil),⟨_,AH _ rfl,rfl,_,rfl⟩⟩
    have hf':∀ b∈zFp I,Hh X pins (upd H s.heap.objs.size (.tup [.str ⟨#[cc]⟩,y])) b:=λb hb=>⟨by rw[Cv (nT b hb)];exact(hf b hb).1,(hf b hb).2⟩
    have I2:Inv X pins Z (upd H s.heap.objs.size (.tup [.str ⟨#[cc]⟩,y])) {s with heap:=h3,toks:=tk}:=Inv.turnedL (s:={ s with heap:=s.heap.push { cls:=.type "tuple",data:=.seq #[.str ⟨#[cc]⟩ k0,y'] },toks:=s.toks }) (zFp I) I1 (λc o nc q=>by
      rcases ZO q with ⟨e1,e2⟩|e1
      · subst e1 e2;exact sb.extBut _ _ (E1 lt4) c5
      · exact kp3 c o nc e1) hf'
    refine⟨.ref s.heap.objs.size,_,I2,rfl,⟨s.heap.objs.size,cc,y,Iv.fresh,rfl,hx,λzs hz=>by rw[Ps Iv hz q2];exact hy,rfl⟩,⟨d1,sb.extBut _ _ (nij (by decide)) (kp _ _ (by simp) z2),⟨_,_,sb.extBut _ _ (nij (by decide)) c2⟩,(let ⟨o,e,r⟩:=c3;⟨o,sb.extBut _ o (Ea (ni0 (by decide))) e,r⟩),c4.1.at' λo q=>sb.extBut _ o (nij (by decide)) q⟩,λb hb=>(hf' b hb).1⟩
  done:=by
    intro X hP hw hK hc i pins s Z H E Iv hf ⟨z1,z2,⟨a,b,z3⟩,z4,z5⟩ ⟨ys,q2,hk⟩;subst hP hw hK;obtain⟨vs,ry,sy,_⟩:=JZ Iv q2;have hT:s.TypeIs (.ref (I+4)) "zip" := ⟨_,z1,rfl⟩;have calm:X.A.in1.handled=Ad:=Iv.ok.hd hc;have e2:=ry.length;simp only[Fm];refine Ah (Fe (Cu hT DX (Ca DX hT GM (UU (k:=i) b2 b2 (Wc calm I l2 x t) (Mx calm t2 (I+1) l2 (AW (By b2)) vs.toArray) z1 z2 z3 z4 ⟨z5,sy⟩
      (by simp only[AO];omega) λh2 e tk kp he=>?_) (Gr _))))
    obtain⟨o,ho,hcl⟩:=he;refine Ah (GO (T := "StopIteration") (b:=Aa) ⟨o,ho,hcl⟩ JG (At ⟨rfl,Inv.turnedL [I,I+1,I+3,I+4] Iv (λc o nc q=>kp c o nc q) λc hc=>hf c ?_⟩))
    simp only[AJ,Bo,CN]at hc;simp only[zFp,AJ,Bo,CN];rcases hc with rfl|rfl|rfl|rfl<;>simp
  self:=λ_ _ _ _ _ st h=>GP st.1 h
section
variable{prog:AQ}{w:AT}{A:AV}{E:Vq}{s:Ap}
noncomputable abbrev itS(x:Ak)(t:Ci):Dx:={ cls:=.type "str_ascii_iterator",data:=.fields #[.str x t,.int 0 0] }
noncomputable abbrev sh2(x:Ak)(t:Ci)(t2:Aj)(h:AK)(l2:Al):AK:=(h.push (itS x t)).push (itO t2 l2)
noncomputable abbrev sh3(x:Ak)(t:Ci)(t2:Aj)(h:AK)(l2:Al):AK:=(sh2 x t t2 h l2).push { cls:=.type "tuple",data:=.seq #[.ref h.objs.size,.ref (h.push (itS x t)).objs.size] }
noncomputable abbrev sh4(x:Ak)(t:Ci)(t2:Aj)(h:AK)(l2:Al):AK:=(sh3 x t t2 h l2).push { cls:=.type "tuple",data:=.seq #[.none,.none] }
noncomputable abbrev sh5(x:Ak)(t:Ci)(t2:Aj)(h:AK)(l2:Al):AK:=(sh4 x t t2 h l2).push { cls:=.type "zip",data:=.fields #[.none,.bool Af,.bool Af,.ref (sh2 x t t2 h l2).objs.size,.ref (sh3 x t t2 h l2).objs.size] }
theorem gZ(x:Ak)(t:Ci)(ha:x.cps.all (· < 128)=Aa)(t2:Aj)(l2:Al)(ys:Au Ai):Meets (Builtin.«zip.__new__» ⟨[.type "zip",.str x t,.ref l2],[]⟩) (λ_ R s=>FG t2 s.heap l2 ys/\R (.ok (.ret (.ref (sh4 x t t2 s.heap l2).objs.size))) {s with heap:=sh5 x t t2 s.heap l2}):=
 .of_wp λprog w A R s h=>by
  obtain⟨hp,g,d,tk,os⟩:=s;obtain⟨a2,q⟩:=h;have hsub:=sub_zip;have L2:FG t2 (KY ⟨hp.push (itS x t),g,d,tk,os⟩) l2 ys:=a2.push _
  wp_walk using wpAny_pyIter_ascii ha,RI L2
  exact⟨_,rfl,q⟩
theorem eT{t:Ci}{ys:Au Ai}{Q:Vq}(ha:x.cps.all (· < 128)=Aa)(a2:FG t2 s.heap l2 ys)(q:∀ h2,sTn x t t2 s.heap.objs.size l2 0 h2->(∀ c o,s.heap.get? c=Ab o->h2.get? c=Ab o)->Q (.ref (s.heap.objs.size+4)) {s with heap:=h2}):Aw (model prog w) A (call (.type "zip") [.str x t,.ref l2]) Q E s:=by
 refine callType_new Zx (by decide) (ZK _ _) (ZD _ _) (λobj=>Zu obj _ _) ZC (gZ x t ha t2 l2 ys) ⟨a2,?_⟩
 have s1:(s.heap.push (itS x t)).objs.size=s.heap.objs.size+1:=Bh ..;have s2:(sh2 x t t2 s.heap l2).objs.size=s.heap.objs.size+2:=by rw[Bh,s1]
 have s3:(sh3 x t t2 s.heap l2).objs.size=s.heap.objs.size+3:=by rw[Bh,s2]
 have s4:(sh4 x t t2 s.heap l2).objs.size=s.heap.objs.size+4:=by rw[Bh,s3]
 have u5:∀ {c o},(sh4 x t t2 s.heap l2).get? c=Ab o->(sh5 x t t2 s.heap l2).get? c=Ab o:=λe=>Aq _ e
 have u4:∀ {c o},(sh3 x t t2 s.heap l2).get? c=Ab o->(sh5 x t t2 s.heap l2).get? c=Ab o:=λe=>u5 (Aq _ e)
 have u3:∀ {c o},(sh2 x t t2 s.heap l2).get? c=Ab o->(sh5 x t t2 s.heap l2).get? c=Ab o:=λe=>u4 (Aq _ e)
 have u2:∀ {c o},(s.heap.push (itS x t)).get? c=Ab o->(sh5 x t t2 s.heap l2).get? c=Ab o:=λe=>u3 (Aq _ e)
 have g5:(sh5 x t t2 s.heap l2).get? (sh4 x t t2 s.heap l2).objs.size=Ab _:=AH _ rfl;have g4:(sh5 x t t2 s.heap l2).get? (sh3 x t t2 s.heap l2).objs.size=Ab _:=u5 (AH _ rfl);have g3:(sh5 x t t2 s.heap l2).get? (sh2 x t t2 s.heap l2).objs.size=Ab _:=u4 (AH _ rfl);have g2:(sh5 x t t2 s.heap l2).get? (s.heap.push (itS x t)).objs.size=Ab _:=u3 (AH _ (Qs _ _));have g1:(sh5 x t t2 s.heap l2).get? s.heap.objs.size=Ab _:=u2 (AH _ rfl);show _/\_;rw[s2,s3,s4]at g5;rw[s3]at g4;rw[s1,s2]at g3;rw[s1]at g2;rw[s4];exact⟨⟨_,g5,rfl⟩,q _ ⟨g5,g3,⟨_,_,g4⟩,⟨_,g1,rfl,rfl⟩,QW g2⟩ λc o e=>u2 (Aq _ e)⟩
end
def iZs(K:Fg)(ta:TA):TI:=λZ H R=>ta Z H λvs H1=>(∃ t1 t2 a b xs ys,vs=[.ref a,.ref b]/\SqX t1 K H1 a xs/\SqX t2 K H1 b ys/\(xs.length<=sizeLine->R (Itz K t1 t2 a b) H1))\/∃ x t2 b ys,vs=[.str x,.ref b]/\x.cps.all (· < 128)=Aa/\SqX t2 K H1 b ys/\(ys.length<=sizeLine->R (Its K x t2 b) H1)
theorem xM{a b:An}(hg:Gl X "zip")(hm:X.mg "zip" = Ad)(ha:PA X [a,b] ta)(hs:AB [a,b] X.env=[(Af,eval a X.env),(Af,eval b X.env)])(hs2:AB [b] X.env=[(Af,eval b X.env)]):
  PI X (.Tuple es n tpos) (.Call (.Name "zip" p) [a,b] [] pos) (iZs X.K ta):=by
 intro pins s Z H R I h;refine JK (IF I hg hm PyProof.Rows.boot_zip (BV (thn (ha pos pins s Z H _ I h) λus s1 ⟨vs,H1,I1,r1,q1⟩=>?_) (by rw[hs,hs2]) (by rw[hs2];rfl)))
 have fp:∀ b∈zFp s1.heap.objs.size,Hh X pins H1 b:=λb hb=>by
  have hb':s1.heap.objs.size<=b:=by
   simp only[zFp,AJ,Bo,CN]at hb;rcases hb with z|z|z|z|z<;>rw[z]<;>simp
  exact I1.fpOk hb' (I1.hok.fresh hb')
 rcases q1 with ⟨t1,t2,c,d,xs,ys,e,sx,sy,q⟩|⟨x,t2,d,ys,e,hx,sy,q⟩
 .subst e;cases r1 with
  |cons r rr=>
   cases rr with
   |cons r' rr=>
    cases rr;cases r;cases r';obtain⟨us,ru,iu,zu⟩:=JZ I1 sx;obtain⟨vs,rv,iv,_⟩:=JZ I1 sy;refine hG iu iv λh2 z kp=>GP z.1 ?_
    exact⟨s1.heap.objs.size+4,zFp s1.heap.objs.size,_,_,H1,rfl,I1.kept (t':=s1.toks) kp,gS t1 t2 s1.heap.objs.size c d iu.lt iv.lt,z,fp,q zu⟩
 .subst e;cases r1 with
  |cons r rr=>
   cases rr with
   |cons r' rr=>
    cases rr;obtain⟨tk,rfl⟩:=r;cases r';obtain⟨vs,rv,iv,zv⟩:=JZ I1 sy;refine eT hx iv λh2 z kp=>GP z.1 ?_
    exact⟨s1.heap.objs.size+4,zFp s1.heap.objs.size,_,_,H1,rfl,I1.kept (t':=s1.toks) kp,eW x tk t2 s1.heap.objs.size d iv.lt,z,fp,q zv⟩
theorem mG{es:Ac D}(s2:∀ H2,Kp A H1 H2->SqX t2 K H2 b ys)(r2:Reps K CL H1 A ys es):Jw K CL A (El (KI x) es) (Its K x t2 b) H1:=λH k i=>by
 have sl:(KI x).length=x.cps.size:=by simp[KI]
 refine⟨λhi=>⟨ys,s2 H k,?_⟩,λd hd=>?_⟩
 .rw[M6,sl]at hi;rw[r2.length];omega
 .obtain⟨u,y,hx,hy,rfl⟩:=Qf _ _ _ _ hd;have hx':∃ c,x.cps[i]?=Ab c/\u=D.str ⟨#[c]⟩:=by
   unfold KI at hx;rw[BC,BZ]at hx;cases e:x.cps[i]? with
   |none=>rw[e]at hx;cases hx
   |some c=>rw[e]at hx;exact⟨c,rfl,(Bf hx).symm⟩
  obtain⟨c,hc,rfl⟩:=hx';obtain⟨v,hv,rv⟩:=r2.get hy;refine⟨⟨ys,c,v,s2 H k,hc,hv⟩,?_⟩;rintro w' H' ⟨p,c',y',hp,rfl,c1,c2,rfl⟩;have ex:c'=c:=Bf (c1.symm.trans hc);have ey:y'=v:=Bf ((c2 ys (s2 H k)).symm.trans hv);subst ex ey;have sm:=GR hp (.tup [.str ⟨#[c']⟩,y']);exact⟨sm,λB hB aB=>Nf aB hp ⟨rfl,MW rv k hB,trivial⟩⟩
theorem RK(x:Ak):asZ (.str x)=if x.cps.all (· < 128)=Aa then .ok (KI x) else .bad:=rfl
theorem rN{z:Ex}(h:asZ d=.exn z):Ba:=by
 by_cases hd:∃ x,d=.str x
 .obtain⟨x,rfl⟩:=hd;rw[RK]at h;split at h<;>cases h
 .have ea:asZ d=EI d:=by
   cases d<;>first|rfl|exact absurd ⟨_,rfl⟩ hd
  rw[ea]at h;cases d<;>simp[EI]at h
section
variable{X:Cx}{CL:ClA}{W:XW}{pos p:AY}{a b:An}{fa fb:Rho->R D}
theorem wN(ha:SE X CL W a fa)(hb:SE X CL W b fb)(hg:Gl X "zip")(hm:X.mg "zip" = Ad)(hs:AB [a,b] X.env=[(Af,eval a X.env),(Af,eval b X.env)])(hs2:AB [b] X.env=[(Af,eval b X.env)]):
  SI X CL W (.Tuple es n tpos) (.Call (.Name "zip" p) [a,b] [] pos) (λU=>(fa U).bind λx=>(fb U).bind λy=>(asZ x).bind λxs=>(EI y).bind λys=>.ok (El xs ys)):=
 λA=>PI.weak (xM hg hm (EH (ha A) (EH (hb A) F7 hs2) (by rw[hs,hs2])) hs hs2) λZ H R ⟨hA,U,g,q⟩=>⟨hA,U,g,EU.ex q λd v H1 _ s1 r1 p1=>⟨hA.same s1,U,g.same s1,EU.ex p1 λd2 v2 H2 _ s2 r2 p2=>by
  cases e2:EI d2 with
  |bad=>
   rw[e2]at p2;cases e1:asZ d with
   |bad=>rw[e1]at p2;exact p2.elim
   |exn z=>exact(rN e1).elim
   |ok ds=>rw[e1]at p2;exact p2.elim
  |exn z=>exact absurd e2 (by cases d2<;>simp[EI])
  |ok es=>
   obtain⟨t2,c2,ys,rfl,k2,rs2⟩:=WB r2 e2;rw[e2]at p2;by_cases hd:∃ x,d=.str x
   .obtain⟨x,rfl⟩:=hd;by_cases hx:x.cps.all (· < 128)=Aa
    .have e1:asZ (.str x)=.ok (KI x):=by rw[RK,Ar hx]
     rw[e1]at p2;have e:v=V.str x:=r1;subst e;refine .inr ⟨x,t2,c2,ys,rfl,hx,k2 H2 (Kp.of (AN.refl H2)),λhz=>p2 _ H2 (AN.refl H2) (mG k2 rs2) ?_⟩
     rw[M6,<-rs2.length];omega
    .have e1:asZ (.str x)=.bad:=by rw[RK,As hx]
     rw[e1]at p2;exact p2.elim
   .have ea:asZ d=EI d:=by
     cases d<;>first|rfl|exact absurd ⟨_,rfl⟩ hd
    rw[ea]at p2;cases e1:EI d with
    |bad=>rw[e1]at p2;exact p2.elim
    |exn z=>exact absurd e1 (by cases d<;>simp[EI])
    |ok ds=>
     rw[e1]at p2;obtain⟨t1,c1,xs,rfl,k1,rs1⟩:=WB (r1.same s2) e1;refine .inl ⟨t1,t2,c1,c2,xs,ys,rfl,k1 H2 (Kp.of (AN.refl H2)),k2 H2 (Kp.of (AN.refl H2)),λhz=>p2 _ H2 (AN.refl H2) (hV k1 k2 rs1 rs2) ?_⟩
     rw[M6,<-rs1.length];omega⟩⟩
end
noncomputable def Itd(lo:Ag)(n:Ae):It:=⟨λi _=>i<n,λi H x H'=>H'=H/\x=.int (lo-i),λi _=>n<=i⟩
theorem Tl(it:Al)(lo:Ag)(n:Ae):Turn P w K tg (Itd lo n) [it] it (λi h=>GD h it (lo+(i:Ae)*(-1)) ((n:Ag)-(i:Ae)) (-1)) where
  mem:=by simp
  obj:=λi h st b hb=>by
    have e:b=it:=by simpa using hb
    subst e;exact⟨_,st,λv z=>by
      have z':Y_1 _=Ko v:=z;cases z'⟩
  keep:=λi h h' st k=>k it (by simp) _ st
  item:=by
    intro X hP hw hK hc i pins s Z H E I hf st hg;subst hP hw hK;obtain⟨f0,f1,f2,f3,f4,f5⟩:=hf it (by simp)
    have W:=aQ (prog:=X.prog) (w:=X.w) (I.ok.hd hc) it lo (-1) n;refine W.item i s _ _ hg st λv h' tk hv st' kk=>?_
    obtain⟨t,rfl⟩:=hv;have I1:Inv X pins Z H {s with heap:=h',toks:=tk}:=I.turned (λb o hb e=>kk b o (by simpa using hb) e) f0 f1 f3 f4 f5
    refine⟨_,rfl,OT (s:={s with heap:=h',toks:=tk}) (n := "range_iterator") st' rfl rfl (by decide) ⟨.int (lo-i),H,I1,⟨t,?_⟩,⟨rfl,rfl⟩,st',λb hb=>(hf b hb).1⟩⟩
    rw[show lo+(i:Ag)*(-1)=lo-i by omega]
  done:=by
    intro X hP hw hK hc i pins s Z H E I hf st hg;subst hP hw hK;obtain⟨f0,f1,f2,f3,f4,f5⟩:=hf it (by simp)
    exact bJ (I.ok.hd hc) st (by have:n<=i:=hg;omega) λh' eb=>⟨rfl,I.turned (t':=s.toks) (λb o hb e=>eb b o hb e) f0 f1 f3 f4 f5⟩
  self:=λ_ _ _ _ _ st h=>GF st h
section
variable{X:Cx}{tg:An}
theorem pS{R:It->Hp->Prop}{E:Vq}{t u v:Ci}(I:Inv X pins Z H s)(h1:-(2 ^ 62)<=lo)(h2:lo<2 ^ 62)(h3:-(2 ^ 62)<=hi)(h4:hi<2 ^ 62)(q:R (Itd lo (lo-hi).toNat) H):Aw (model X.prog X.w) X.A (HK (.ref s.heap.objs.size)) (PIE X pins Z tg R) E { s with heap:=s.heap.push { cls:=.type "range",data:=.fields #[.int lo t,.int hi u,.int (-1) v] },toks:=tk }:=by
 refine bG (KW ..) (PySem.W.small_down h1 h2 h3 h4) ?_;have I1:Inv X pins Z H { s with heap:=s.heap.push { cls:=.type "range",data:=.fields #[.int lo t,.int hi u,.int (-1) v] },toks:=tk }:=I.kept λb o e=>Aq _ e
 refine⟨(s.heap.push { cls:=.type "range",data:=.fields #[.int lo t,.int hi u,.int (-1) v] }).objs.size,[(s.heap.push { cls:=.type "range",data:=.fields #[.int lo t,.int hi u,.int (-1) v] }).objs.size],_,_,H,rfl,
  I1.kept (t':=tk) λb o e=>Aq _ e,Tl _ lo (lo-hi).toNat,?_,λb hb=>?_,q⟩
 .have e1:lo+((0:Ae):Ag)*(-1)=lo:=by simp
  have e2:(((lo-hi).toNat:Ae):Ag)-((0:Ae):Ag)=Gm lo hi (-1):=by rw[PySem.W.rangeSize_downNat];simp
  show GD _ _ (lo+((0:Ae):Ag)*(-1)) ((((lo-hi).toNat:Ae):Ag)-((0:Ae):Ag)) (-1);rw[e1,e2];exact AH _ rfl
 .have e:b=(s.heap.push { cls:=.type "range",data:=.fields #[.int lo t,.int hi u,.int (-1) v] }).objs.size:=by simpa using hb
  subst e;exact I1.fpOk (Ay _) (I1.hok.fresh (Ay _))
def zL(ta:TA):TI:=λZ H R=>ta Z H λvs H1=>∃ i j:Ag,vs=[.int i,.int j,.int (-1)]/\(-(2 ^ 62)<=i/\i<2 ^ 62/\-(2 ^ 62)<=j/\j<2 ^ 62)/\R (Itd i (i-j).toNat) H1
theorem fT{a b:An}(hg:Gl X "range")(hm:X.mg "range" = Ad)(ha:PA X [a,b,c] ta)(hs:AB [a,b,c] X.env=[(Af,eval a X.env),(Af,eval b X.env),(Af,eval c X.env)])(hs2:AB [b,c] X.env=[(Af,eval b X.env),(Af,eval c X.env)]):
  PI X tg (.Call (.Name "range" p) [a,b,c] [] pos) (zL ta):=by
 intro pins s Z H R I h;refine JK (IF I hg hm JL (BV (thn (ha pos pins s Z H _ I h) λus s1 ⟨vs,H1,I1,r1,q1⟩=>?_) (by rw[hs,hs2]) (by rw[hs2];rfl)))
 obtain⟨i,j,e,⟨q1,q2,q3,q4⟩,q⟩:=q1;subst e;cases r1 with
 |cons r rr=>
  cases rr with
  |cons r' rr=>
   cases rr with
   |cons r'' rr=>
    cases rr;obtain⟨t,rfl⟩:=r;obtain⟨t',rfl⟩:=r';obtain⟨t'',rfl⟩:=r'';exact call_range_3 (by decide) (pS I1 q1 q2 q3 q4 q) (Or.inl (YQ (by decide)))
end
theorem PC(lo:Ag)(n:Ae):(FF lo n).length=n:=by simp[FF]
theorem kG(h:(FF lo n)[i]?=Ab d):i<n/\d=.int (lo-i):=by
 unfold FF at h;rw[BC]at h;by_cases hi:i<n
 .rw[Hj hi]at h;exact⟨hi,(Bf h).symm⟩
 .rw[Fv (by simp;omega)]at h
  cases h
section
variable{X:Cx}{CL:ClA}{W:XW}{pos p:AY}{tg a b c:An}{fa fb fc:Rho->R D}
theorem Tz(lo:Ag)(n:Ae):Jw K CL A (FF lo n) (Itd lo n) H:=λH' k i=>by
 refine⟨λh=>by rw[PC]at h;exact h,λd hd=>?_⟩
 obtain⟨h1,rfl⟩:=kG hd;exact⟨h1,λx H2 ⟨e,y⟩=>by
  subst e y;exact⟨AN.refl _,λ_ _ _=>rfl⟩⟩
theorem fJ{lo hi c:Ag}{ds:Ac D}(h:HR lo hi c=.ok ds):c=-1/\(-(2 ^ 62)<=lo/\lo<2 ^ 62)/\(-(2 ^ 62)<=hi/\hi<2 ^ 62)/\ds=FF lo (lo-hi).toNat/\(FF lo (lo-hi).toNat).length<=sizeLine:=by
 unfold HR at h;split at h
 .rename_i q;cases h;exact⟨q.1,by omega,by omega,rfl,by rw[PC,Bv];omega⟩
 .cases h
theorem dZ{lo hi c:Ag}{x:Ex}(h:HR lo hi c=.exn x):Ba:=by
 unfold HR at h;split at h<;>cases h
theorem kW(ha:ST X CL W a fa)(hb:ST X CL W b fb)(hc:ST X CL W c fc)(hg:Gl X "range")(hm:X.mg "range" = Ad)(hs:AB [a,b,c] X.env=[(Af,eval a X.env),(Af,eval b X.env),(Af,eval c X.env)])(hs2:AB [b,c] X.env=[(Af,eval b X.env),(Af,eval c X.env)])(hs3:AB [c] X.env=[(Af,eval c X.env)]):
  SI X CL W tg (.Call (.Name "range" p) [a,b,c] [] pos) (λU=>(fa U).bind λx=>(fb U).bind λy=>(fc U).bind λz=>(D6 x).bind λi=>(D6 y).bind λj=>(D6 z).bind λk=>HR i j k):=
 λA=>PI.weak (fT hg hm (EH (ha A) (EH (hb A) (EH (hc A) F7 hs3) (by rw[hs2,hs3])) (by rw[hs,hs2])) hs hs2) λZ H R ⟨hA,U,g,q⟩=>⟨hA,U,g,EU.ex q λd v H1 _ s1 r1 p1=>⟨hA.same s1,U,g.same s1,EU.ex p1 λd2 v2 H2 _ s2 r2 p2=>⟨(hA.same s1).same s2,U,(g.same s1).same s2,EU.ex p2 λd3 v3 H3 _ s3 r3 p3=>by
  cases d with
  |int i=>
   cases d2 with
   |int j=>
    cases d3 with
    |int k=>
     have e:=r1.int_of;have e':=r2.int_of;have e'':=r3.int_of
     subst e e' e'';have p4:EU X.K CL A W H3 (HR i j k) R:=p3;cases e2:HR i j k with
     |ok ds=>
      rw[e2]at p4;obtain⟨rfl,h1,h2,rfl,hz⟩:=fJ e2;exact⟨i,j,rfl,⟨h1.1,h1.2,h2.1,h2.2⟩,p4 _ H3 (AN.refl H3) (Tz _ _) hz⟩
     |exn y=>exact(dZ e2).elim
     |bad=>rw[e2]at p4;exact p4.elim
    |_=>exact p3.elim
   |_=>exact p3.elim
  | _=>exact p3.elim⟩⟩⟩
end
theorem dL:isSubtype (.type "range_iterator") (.type "reversed")=pure Af:=by rw[Hs];kernel_rfl
section
variable{prog:AQ}{w:AT}{A:AV}{E:Vq}{s:Ap}
noncomputable def Lj(i:Ag):Dx:={ cls:=.type "range_iterator",data:=.fields #[CB (i-1),CB i,CB (-1)] }
theorem dH{r:Al}{i:Ag}{t u v:Ci}{Q:Vq}(hr:IsRange s.heap r 0 i 1 t u v)(h1:1<=i)(h2:i<1000000)(h:Q (.ref s.heap.objs.size) {s with heap:=s.heap.push (Lj i)}):Aw (model prog w) A (call (.builtin "range.__reversed__") [.ref r]) Q E s:=by
 have hT:s.TypeIs (.ref r) "range" := ⟨_,hr,rfl⟩;refine Ca F.slot_range_reversed hT F.entry_range_reversed ?_ (F.args_range_reversed_1 _);unfold Builtin.«range.__reversed__»;refine Ah (DE (a:=Be r) rfl ?_);refine Ah ?_;unfold Builtin.Range.rangeFields;refine Ah (B8 hr rfl (x:=.int 0 t) rfl ?_);refine Ah (m:=asInt? (.int 0 t)) (At ?_);refine Ah (B8 hr rfl (x:=.int i u) rfl ?_);refine Ah (m:=asInt? (.int i u)) (At ?_);refine Ah (B8 hr rfl (x:=.int 1 v) rfl ?_);refine Ah (m:=asInt? (.int 1 v)) (At ?_);refine At ?_;have n:Gm 0 i 1=i:=by rw[rangeSize_one,Ar (by omega)];omega
 dsimp only;rw[n];have sm:(BX 0&&BX i&&BX 1&&BX (-1)&&BX (0-1)&&BX i)=Aa:=by
  have q:BX i=Aa:=by
   unfold BX;simp;omega
  rw[q];decide
 rw[sm];rw[As (by decide),Ar rfl]
 refine Ah (CT ?_);have e:(0:Ag)+(i-1)*1=i-1:=by omega
 rw[e];exact At ⟨_,rfl,h⟩
theorem dI{r:Al}{i:Ag}{t u v:Ci}{Q₁:Vq}(hr:IsRange s.heap r 0 i 1 t u v)(h1:1<=i)(h2:i<1000000)(h:Q₁ (.ref s.heap.objs.size) {s with heap:=s.heap.push (Lj i)}):
  FC (model prog w) A (.call (.builtin "reversed.__new__") ⟨[.type "reversed",.ref r],[]⟩) (wants Q₁ E) s:=by
 have hT:s.TypeIs (.ref r) "range" := ⟨_,hr,rfl⟩;refine Jb ?_;show Aw _ A.in1 (do GN "reversed.__new__" ⟨[.type "reversed",.ref r],[]⟩;again (.builtin "reversed.__new__" ⟨[.type "reversed",.ref r],[]⟩)) _ _ s
 refine Ah (DE (F.newCall_reversed_1 _) (At ⟨GI ZF _,D5 F.entry_reversed_new ?_⟩));rw[DU ZF _];unfold Builtin.«reversed.__new__»;refine Ah (DE (newClass_reversed _) ?_)
 try dsimp only
 refine Ah (DE (a:=()) (by first|rfl|kernel_rfl) ?_)
 refine Ah (DE (a:=()) (by first|rfl|kernel_rfl) ?_)
 try dsimp only
 refine Ah (Je hT F.slot_range_reversed.lookup ?_)
 try dsimp only
 refine Ah (DE (F.slot_range_reversed.bind _) ?_)
 try dsimp only
 first
 |rw[As (show ¬ ((CF "range.__reversed__" == AI)=Aa) from Ax)]
 |(show Aw _ _ (if (CF "range.__reversed__" == AI)=Aa then _ else _) _ _ _;rw[As (show ¬ ((CF "range.__reversed__" == AI)=Aa) from Ax)])
 refine Ah (Ha ?_);refine Ah (m:=runValue (.call (.builtin "range.__reversed__") ⟨[.ref r],[]⟩)) (show Aw _ _ (call (.builtin "range.__reversed__") [.ref r]) _ _ _ from dH hr h1 h2 ?_)
 first
 |exact At h
 |exact Ah (At (At h))
theorem dJ{r:Al}{i:Ag}{t u v:Ci}{Q:Vq}(hr:IsRange s.heap r 0 i 1 t u v)(h1:1<=i)(h2:i<1000000)(h:Q (.ref s.heap.objs.size) {s with heap:=s.heap.push (Lj i)}):Aw (model prog w) A (call (.type "reversed") [.ref r]) Q E s:=by
 refine callType_other (Q₁:=λobj s₁=>obj=.ref s.heap.objs.size/\s₁={s with heap:=s.heap.push (Lj i)}) (by decide+kernel) F.create_reversed ⟨_,_,F.mro_reversed⟩ F.made_reversed dL (F.typeCall_reversed_1 _) (dI hr h1 h2 ⟨rfl,rfl⟩) ?_
 rintro obj s₁ ⟨rfl,rfl⟩;exact⟨⟨_,AH _ rfl,rfl⟩,h⟩
end
section
variable{X:Cx}{tg:An}
def cE(ta:TA):TI:=λZ H R=>ta Z H λvs H1=>∃ i:Ag,vs=[.int i]/\(1<=i/\i<1000000)/\R (Itd (i-1) i.toNat) H1
theorem sN{R:It->Hp->Prop}{E:Vq}{i:Ag}(I:Inv X pins Z H s)(h1:1<=i)(q:R (Itd (i-1) i.toNat) H):Aw (model X.prog X.w) X.A (HK (.ref (s.heap.push o).objs.size)) (PIE X pins Z tg R) E {s with heap:=(s.heap.push o).push (Lj i),toks:=tk}:=by
  have hit:GD ((s.heap.push o).push (Lj i)) (s.heap.push o).objs.size (i-1) i (-1):=AH _ rfl;refine GF (s:={s with heap:=(s.heap.push o).push (Lj i),toks:=tk}) hit ?_
  have I1:Inv X pins Z H {s with heap:=s.heap.push o,toks:=tk}:=I.kept λb o e=>Aq _ e
  refine⟨(s.heap.push o).objs.size,[(s.heap.push o).objs.size],_,_,H,rfl,
    I1.kept (t':=tk) λb o e=>Aq _ e,Tl _ (i-1) i.toNat,?_,λb hb=>?_,q⟩
  · show GD _ _ (i-1+((0:Ae):Ag)*(-1)) (((i.toNat:Ae):Ag)-((0:Ae):Ag)) (-1);rw[show i-1+((0:Ae):Ag)*(-1)=i-1 by simp,show (((i.toNat:Ae):Ag)-((0:Ae):Ag))=i by omega]
    exact hit
  · have e:b=(s.heap.push o).objs.size:=by simpa using hb
    subst e;exact I1.fpOk (Ay _) (I1.hok.fresh (Ay _))
theorem rX{a:An}{p':AY}(hg:Gl X "range")(hm:X.mg "range" = Ad)(hg':Gl X "reversed")(hm':X.mg "reversed" = Ad)(ha:PA X [a] ta)(hs:AB [a] X.env=[(Af,eval a X.env)]):
  PI X tg (.Call (.Name "reversed" p) [.Call (.Name "range" p') [a] [] pos'] [] pos) (cE ta):=by
 intro pins s Z H R I h;refine JK (IF I hg' hm' boot_reversed (BV ?_ rfl rfl));show Aw _ _ (spliced ((Af,eval (.Call (.Name "range" p') [a] [] pos') X.env)::Cc pos (AB [] X.env))) _ _ s;refine HE ?_;refine JK (IF I hg hm JL (BV (thn (ha pos' pins s Z H _ I h) λus s1 ⟨vs,H1,I1,r1,q1⟩=>?_) (by rw[hs];rfl) rfl))
 obtain⟨i,e,⟨q1,q2⟩,q⟩:=q1;subst e;cases r1 with
 |cons r rr=>
  cases rr;obtain⟨t,rfl⟩:=r;refine call_range_1 (Ih ?_);refine dJ (KW ..) q1 q2 ?_;exact sN I1 q1 q
end
section
variable{X:Cx}{CL:ClA}{W:XW}{pos p pos' p':AY}{tg a:An}{fa:Rho->R D}
theorem tP(ha:ST X CL W a fa)(hg:Gl X "range")(hm:X.mg "range" = Ad)(hg':Gl X "reversed")(hm':X.mg "reversed" = Ad)(hs:AB [a] X.env=[(Af,eval a X.env)]):SI X CL W tg (.Call (.Name "reversed" p) [.Call (.Name "range" p') [a] [] pos'] [] pos) (λU=>(fa U).bind λx=>(D6 x).bind λj=>IP j):=
 λA=>PI.weak (rX hg hm hg' hm' (EH (ha A) F7 hs) hs) λZ H R ⟨hA,U,g,q⟩=>⟨hA,U,g,EU.ex q λd v H1 _ s1 r1 p1=>by
  cases d with
  |int j=>
   have e:=r1.int_of;subst e;have p2:EU X.K CL A W H1 (IP j) R:=p1;by_cases hj:1<=j/\j<1000000
   .unfold IP at p2;rw[Ar hj]at p2;exact⟨j,rfl,hj,p2 _ H1 (AN.refl H1) (Tz _ _) (by rw[PC,Bv];omega)⟩
   .unfold IP at p2;rw[As hj]at p2;exact p2.elim
  | _=>exact p1.elim⟩
end
theorem GW.live{l:Ae}(z:GW t h j l i):∃ o,h.get? j=Ab o/\∀ v,o.data≠.cell v:=by
 cases t with
 |true=>obtain⟨o,e,c,d⟩:=z;exact⟨o,e,λv z=>by rw[d]at z;cases z⟩
 |false=>obtain⟨o,e,c,d⟩:=z;exact⟨o,e,λv z=>by rw[d]at z;cases z⟩
section
variable{prog:AQ}{w:AT}{A:AV}{E:Vq}{s:Ap}
end
section
variable{X:Cx}{CL:ClA}{W:XW}{pos p:AY}{a:An}{fa:Rho->R D}
end
noncomputable abbrev Sq(h:AK)(z TI TO:Al)(f0 f1:Ai):Prop:=h.get? z=Ab { cls:=.type "zip",dict:=Ad,data:=.fields #[f0,f1,.bool Af,.ref TI,.ref TO],slots:=#[] }
noncomputable abbrev Sr(h:AK)(T:Al)(a b c:Ai):Prop:=h.get? T=Ab { cls:=.type "tuple",data:=.seq #[a,b,c] }
section
variable{prog:AQ}{w:AT}{A:AV}{E:Vq}{s:Ap}
def Z_3(t1 t2 t3:Aj)(I l1 l2 l3 i:Ae)(h:AK):Prop:=Sr h (I+3) (.ref (I+0)) (.ref (I+1)) (.ref (I+2))/\GW t1 h (I+0) l1 i/\GW t2 h (I+1) l2 i/\GW t3 h (I+2) l3 i/\(∃ a b c,Sr h (I+4) a b c) /\
 (Sq h (I+5) (I+3) (I+4) .none (.bool Af)\/∃(T1:Ae)(f1:Aj),Sq h (I+5) (I+3) (I+4) (CB T1) (.bool f1))
end
section
variable{prog:AQ}{w:AT}{A:AV}{R:IA->Ap->Prop}
theorem FG.at'{h2:AK}(z:FG t h l its)(k:∀ o,h.get? l=Ab o->h2.get? l=Ab o):FG t h2 l its:=by
 cases t with
 |true=>exact PySem.Heap.IsTuple.at z k
 |false=>exact PySem.Heap.IsList.at z k
theorem Z_3.at'{t1 t2 t3:Aj}{I l1 l2 l3 i:Ae}{h h2:AK}(z:Z_3 t1 t2 t3 I l1 l2 l3 i h)(k:∀ j,j<=5->∀ o,h.get? (I+j)=Ab o->h2.get? (I+j)=Ab o):Z_3 t1 t2 t3 I l1 l2 l3 i h2:=by
 obtain⟨zI,i1,i2,i3,⟨a,b,c,hO⟩,zz⟩:=z;exact⟨k 3 (by decide) _ zI,i1.at' λo q=>k 0 (by decide) o q,i2.at' λo q=>k 1 (by decide) o q,i3.at' λo q=>k 2 (by decide) o q,⟨a,b,c,k 4 (by decide) _ hO⟩,zz.imp (k 5 (by decide) _) λ⟨T1,f1,hz⟩=>⟨T1,f1,k 5 (by decide) _ hz⟩⟩
end
section
variable{prog:AQ}{w:AT}{A:AV}{E:Vq}{s:Ap}
end
theorem Z_3.ty{t3:Aj}{I l1 l2 l3 i:Ae}(z:Z_3 t1 t2 t3 I l1 l2 l3 i s.heap):s.TypeIs (.ref (I+5)) "zip" := by
 obtain⟨_,_,_,_,_,hz|⟨_,_,hz⟩⟩:=z
 .exact⟨_,hz,rfl⟩
 .exact⟨_,hz,rfl⟩
section
variable{prog:AQ}{w:AT}{A:AV}{E:Vq}{s:Ap}
end
section
variable{X:Cx}{CL:ClA}{W:XW}{pos p pos' p':AY}{a b c:An}{fa fb fc:Rho->R D}
end
section
variable{X:Cx}{CL:ClA}{W:XW}{pos p tpos:AY}{a b c:An}{fa fb fc:Rho->R D}{x:Ak}
end
section
variable{X:Cx}{CL:ClA}{W:XW}{a:An}{fa:Rho->R D}
end
section
variable{X:Cx}{CL:ClA}{W:XW}{o o' e:An}{fe:Rho->R D}{i j:Ae}{apos cpos apos' cpos' pos:AY}
end
section
variable{X:Cx}{CL:ClA}{W:XW}
end
section
variable{X:Cx}
variable{CL:ClA}{W:XW}{pos p pos' p':AY}{a b:An}{fa fb:Rho->R D}
end
section
variable{X:Cx}{CL:ClA}{W:XW}{e o o' k l:An}{fe:Rho->R Ov.D}{i ik il:Ae}{pos spos spos' tpos:AY}{kt:Ae}
end
section
variable{prog:AQ}{w:AT}{A:AV}{E:Vq}{s:Ap}
end
section
variable{X:Cx}{pos:AY}{CL:ClA}
end
section
variable{X:Cx}{CL:ClA}{W:XW}
end
end Ov
namespace Ov
open PySem PyProof.Rows
variable{arr a a':Au Av}{i k n j ja jb lo hi p e d:Ae}{st:A4}{left:Aj}{key x:Av}{α:Type}{c:Prop}{m:Ac Av}{Q:Aj->A4->Prop}
noncomputable def pJ:Aj->Av->Au Av->Ae->Ae->Ae->EK A4 DZ (Ao Ae):=sortPriv%PySem.Builtin.gallop
noncomputable def jE:Au Av->Au Av->EK A4 DZ (Au Av):=sortPriv%PySem.Builtin.mergeLo
noncomputable def jF:Au Av->Au Av->EK A4 DZ (Au Av):=sortPriv%PySem.Builtin.mergeHi
noncomputable def Uc:Ae->EK A4 DZ Aj:=sortPriv%PySem.Builtin.mergeAt
noncomputable def ka0(a:Au Av)(i:Ae):Av:=a.getD i (AI,AI)
section
variable{M:E6}{A:AV}{E:Vq}{s:Ap}{κ:E2}{V:Av->Prop}{lt:Av->Av->Aj}
def IR(M:E6)(A:AV)(s:Ap)(κ:E2)(V:Av->Prop)(lt:Av->Av->Aj):Prop:=∀(E:Vq)(st:A4)(x y:Av)(Q:Ao Aj->A4->Prop),kindOf st=κ->V x->V y->Q (Ab (lt x y)) st->Bs M A E s (lt' x y) Q st
structure OrdK (V:Av->Prop) (lt:Av->Av->Aj):Prop where
 asymm:∀ {x y},V x->V y->lt x y=Aa->lt y x=Af
 trans:∀ {x y z},V x->V y->V z->lt y x=Af->lt z y=Af->lt z x=Af
theorem Ed{Q:Av->A4->Prop}(h:i<arr.size)(q:Q (ka0 arr i) st):Bs M A E s (elem' arr i) Q st:=by
 rw[elem'_eq,BN h];refine AE ?_;have e:ka0 arr i=arr[i]:=by simp[ka0,Em,h]
 rw[<-e];exact q
noncomputable def byd(lt:Av->Av->Aj)(left:Aj)(key x:Av):Aj:=if left=Aa then lt x key else !lt key x
theorem qW(C:IR M A s κ V lt){Q:Ao Aj->A4->Prop}(hk:kindOf st=κ)(vk:V key)(h:k<arr.size)(v:V (ka0 arr k))(q:Q (Ab (byd lt left key (ka0 arr k))) st):
  Bs M A E s (do let x <-elem' arr k;if left=Aa then lt' x key else do let r <-lt' key x;pure (YD (λx=>!x) r)) Q st:=by
 refine Az (Ed h ?_);cases left with
 |true=>rw[Ar rfl];exact C _ _ _ _ _ hk v vk q
 |false=>rw[As (by decide)];exact Az (C _ _ _ _ _ hk vk v (AE q))
def Mo(B:Ae->Aj)(n k:Ae):Prop:=k<=n/\(∀ i,i<k->B i=Aa)/\∀ i,k<=i->i<n->B i=Af
theorem Lg(C:IR M A s κ V lt){base hint:Ae}{Q:Ao Ae->A4->Prop}(hk:kindOf st=κ)(vk:V key)(hb:base+n<=arr.size)(hv:∀ i,i<n->V (ka0 arr (base+i)))(hh:hint<n)(mono:∀ i j,i<=j->j<n->byd lt left key (ka0 arr (base+j))=Aa->byd lt left key (ka0 arr (base+i))=Aa)(q:∀ k,Mo (λi=>byd lt left key (ka0 arr (base+i))) n k->Q (Ab k) st):Bs M A E s (pJ left key arr base n hint) Q st:=by
 have up:∀ i j,i<=j->j<n->byd lt left key (ka0 arr (base+i))=Af->byd lt left key (ka0 arr (base+j))=Af:=λi j h1 h2 h3=>by
  cases e:byd lt left key (ka0 arr (base+j)) with
  |false=>rfl
  |true=>rw[mono i j h1 h2 e]at h3;cases h3
 have ask:∀(i:Ae)(Q:Ao Aj->A4->Prop),i<n->Q (Ab (byd lt left key (ka0 arr (base+i)))) st->Bs M A E s (do let x <-elem' arr (base+i);if left=Aa then lt' x key else do let r <-lt' key x;pure (YD (λx=>!x) r)) Q st:=λi Q h q=>qW C hk vk (by omega) (hv i h) q
 refine Az (ask hint _ hh ?_);dsimp only;by_cases hB:byd lt left key (ka0 arr (base+hint))=Aa
 .rw[Ar hB];refine Az (Db (Q:=λb st'=>st=st'/\∃ l h,l<=h/\h<=n/\(∀ i,i<l->byd lt left key (ka0 arr (base+i))=Aa)/\(∀ i,h<=i->i<n->byd lt left key (ka0 arr (base+i))=Af)/\b.1=Ad/\l=hint+b.2.1+1/\h=hint+min b.2.2 (n-hint)) (BW (λi b st'=>st=st'/\b.1=Ad/\b.2.1<b.2.2/\i+1<=b.2.2/\hint+b.2.1<n/\byd lt left key (ka0 arr (base+(hint+b.2.1)))=Aa) (λi b st' _ hi hI=>?_) (λb st' hI=>?_) ⟨rfl,rfl,by decide,by decide,hh,hB⟩) λb st' hP=>?_)
  .obtain⟨rfl,b1,b2,b3,b4,b5⟩:=hI;obtain⟨r,l,o⟩:=b;dsimp only at b1 b2 b3 b4 b5 ⊢;subst b1;by_cases ho:o ≥ n-hint
   .rw[Ar ho];exact AE ⟨rfl,hint+l+1,hint+min o (n-hint),by omega,by omega,λi hi'=>mono i (hint+l) (by omega) b4 b5,λi h1 h2=>by omega,rfl,rfl,rfl⟩
   .rw[As ho];refine Az (ask (hint+o) _ (by omega) ?_)
    dsimp only;cases e:byd lt left key (ka0 arr (base+(hint+o))) with
    |false=>exact AE ⟨rfl,hint+l+1,hint+min o (n-hint),by omega,by omega,λi hi'=>mono i (hint+l) (by omega) b4 b5,λi h1 h2=>up (hint+o) i (by omega) h2 e,rfl,rfl,rfl⟩
    |true=>exact AE ⟨rfl,rfl,by show o<2*o+1;omega,by show i+1+1<=2*o+1;omega,by show hint+o<n;omega,e⟩
  .obtain⟨rfl,b1,b2,b3,b4,b5⟩:=hI;rw[Et]at b3;exact⟨rfl,hint+b.2.1+1,hint+min b.2.2 (n-hint),by omega,by omega,λi hi'=>mono i (hint+b.2.1) (by omega) b4 b5,λi h1 h2=>by omega,b1,rfl,rfl⟩
  obtain⟨rfl,l,h,c1,c2,c3,c4,b1,rfl,rfl⟩:=hP;rw[b1];dsimp only;generalize hint+b.2.1+1=l at *;generalize hint+min b.2.2 (n-hint)=h at *;refine Az (Db (Q:=λb st'=>st=st'/\b.1=Ad/\Mo (λi=>byd lt left key (ka0 arr (base+i))) n b.2.2) (BW (λi b st'=>st=st'/\b.1=Ad/\b.2.1<=b.2.2/\b.2.2<=n/\b.2.2-b.2.1<=n-i/\(∀ i,i<b.2.1->byd lt left key (ka0 arr (base+i))=Aa)/\(∀ i,b.2.2<=i->i<n->byd lt left key (ka0 arr (base+i))=Af)) (λi b st' _ hi hI=>?_) (λb st' hI=>?_) ⟨rfl,rfl,c1,c2,by show h-l<=n-0;omega,c3,c4⟩) λb st' hP=>?_)
  .obtain⟨rfl,b1,b2,b3,b4,b5,b6⟩:=hI;obtain⟨r,l,h⟩:=b;dsimp only at b1 b2 b3 b4 b5 b6 ⊢;subst b1;by_cases ho:l ≥ h
   .rw[Ar ho];exact AE ⟨rfl,rfl,b3,λi hi'=>b5 i (by show i<l;have:i<h:=hi';omega),b6⟩
   .rw[As ho];refine Az (ask (l+(h-l)/2) _ (by omega) ?_)
    dsimp only;cases e:byd lt left key (ka0 arr (base+(l+(h-l)/2))) with
    |false=>
     rw[As (by decide)]
     exact AE ⟨rfl,rfl,by show l<=l+(h-l)/2;omega,by show l+(h-l)/2<=n;omega,by show l+(h-l)/2-l<=n-(i+1);omega,b5,λi h1 h2=>up (l+(h-l)/2) i h1 h2 e⟩
    |true=>
     rw[Ar rfl];exact AE ⟨rfl,rfl,by show l+(h-l)/2+1<=h;omega,b3,by show h-(l+(h-l)/2+1)<=n-(i+1);omega,λi hi'=>mono i (l+(h-l)/2) (by have:i<l+(h-l)/2+1:=hi';omega) (by omega) e,b6⟩
  .obtain⟨rfl,b1,b2,b3,b4,b5,b6⟩:=hI;rw[Et]at b4;exact⟨rfl,b1,b3,λi hi'=>b5 i (by omega),b6⟩
  obtain⟨rfl,b1,b2⟩:=hP;rw[b1];exact AE (q _ b2)
 .have hB':byd lt left key (ka0 arr (base+hint))=Af:=by cases e:byd lt left key (ka0 arr (base+hint)) with|false=>rfl|true=>exact absurd e hB
  rw[As hB];refine Az (Db (Q:=λb st'=>st=st'/\∃ l h,l<=h/\h<=n/\(∀ i,i<l->byd lt left key (ka0 arr (base+i))=Aa)/\(∀ i,h<=i->i<n->byd lt left key (ka0 arr (base+i))=Af)/\b.1=Ad/\l=hint+1-min b.2.2 (hint+1)/\h=hint-b.2.1) (BW (λi b st'=>st=st'/\b.1=Ad/\b.2.1<b.2.2/\i+1<=b.2.2/\b.2.1<=hint/\byd lt left key (ka0 arr (base+(hint-b.2.1)))=Af) (λi b st' _ hi hI=>?_) (λb st' hI=>?_) ⟨rfl,rfl,by decide,by decide,BK _,hB'⟩) λb st' hP=>?_)
  .obtain⟨rfl,b1,b2,b3,b4,b5⟩:=hI;obtain⟨r,l,o⟩:=b;dsimp only at b1 b2 b3 b4 b5 ⊢;subst b1;by_cases ho:o ≥ hint+1
   .rw[Ar ho];exact AE ⟨rfl,hint+1-min o (hint+1),hint-l,by omega,by omega,λi hi'=>by omega,λi h1 h2=>up (hint-l) i h1 h2 b5,rfl,rfl,rfl⟩
   .rw[As ho];refine Az (ask (hint-o) _ (by omega) ?_)
    dsimp only;cases e:byd lt left key (ka0 arr (base+(hint-o))) with
    |true=>
     rw[Ar rfl];exact AE ⟨rfl,hint+1-min o (hint+1),hint-l,by omega,by omega,λi hi'=>mono i (hint-o) (by omega) (by omega) e,λi h1 h2=>up (hint-l) i h1 h2 b5,rfl,rfl,rfl⟩
    |false=>
     rw[As (by decide)]
     exact AE ⟨rfl,rfl,by show o<2*o+1;omega,by show i+1+1<=2*o+1;omega,by show o<=hint;omega,e⟩
  .obtain⟨rfl,b1,b2,b3,b4,b5⟩:=hI;rw[Et]at b3;exact⟨rfl,hint+1-min b.2.2 (hint+1),hint-b.2.1,by omega,by omega,λi hi'=>by omega,λi h1 h2=>up (hint-b.2.1) i h1 h2 b5,b1,rfl,rfl⟩
  obtain⟨rfl,l,h,c1,c2,c3,c4,b1,rfl,rfl⟩:=hP;rw[b1];dsimp only;generalize hint+1-min b.2.2 (hint+1)=l at *;generalize hint-b.2.1=h at *;refine Az (Db (Q:=λb st'=>st=st'/\b.1=Ad/\Mo (λi=>byd lt left key (ka0 arr (base+i))) n b.2.2) (BW (λi b st'=>st=st'/\b.1=Ad/\b.2.1<=b.2.2/\b.2.2<=n/\b.2.2-b.2.1<=n-i/\(∀ i,i<b.2.1->byd lt left key (ka0 arr (base+i))=Aa)/\(∀ i,b.2.2<=i->i<n->byd lt left key (ka0 arr (base+i))=Af)) (λi b st' _ hi hI=>?_) (λb st' hI=>?_) ⟨rfl,rfl,c1,c2,by show h-l<=n-0;omega,c3,c4⟩) λb st' hP=>?_)
  .obtain⟨rfl,b1,b2,b3,b4,b5,b6⟩:=hI;obtain⟨r,l,h⟩:=b;dsimp only at b1 b2 b3 b4 b5 b6 ⊢;subst b1;by_cases ho:l ≥ h
   .rw[Ar ho];exact AE ⟨rfl,rfl,b3,λi hi'=>b5 i (by show i<l;have:i<h:=hi';omega),b6⟩
   .rw[As ho];refine Az (ask (l+(h-l)/2) _ (by omega) ?_)
    dsimp only;cases e:byd lt left key (ka0 arr (base+(l+(h-l)/2))) with
    |false=>
     rw[As (by decide)]
     exact AE ⟨rfl,rfl,by show l<=l+(h-l)/2;omega,by show l+(h-l)/2<=n;omega,by show l+(h-l)/2-l<=n-(i+1);omega,b5,λi h1 h2=>up (l+(h-l)/2) i h1 h2 e⟩
    |true=>
     rw[Ar rfl];exact AE ⟨rfl,rfl,by show l+(h-l)/2+1<=h;omega,b3,by show h-(l+(h-l)/2+1)<=n-(i+1);omega,λi hi'=>mono i (l+(h-l)/2) (by have:i<l+(h-l)/2+1:=hi';omega) (by omega) e,b6⟩
  .obtain⟨rfl,b1,b2,b3,b4,b5,b6⟩:=hI;rw[Et]at b4;exact⟨rfl,b1,b3,λi hi'=>b5 i (by omega),b6⟩
  obtain⟨rfl,b1,b2⟩:=hP;rw[b1];exact AE (q _ b2)
end
section
variable{V:Av->Prop}{lt:Av->Av->Aj}{T out A B:Ac Av}
def leK(lt:Av->Av->Aj)(x y:Av):Prop:=lt y x=Af
structure MI (lt:Av->Av->Aj) (T out A B:Ac Av):Prop where
 pm:(out++(A++B)).Perm T
 sa:(out++A).Pairwise (leK lt)
 sb:(out++B).Pairwise (leK lt)
def SPk(lt:Av->Av->Aj)(T r:Ac Av):Prop:=r.Perm T/\r.Pairwise (leK lt)
theorem MI.mvA(O:OrdK V lt)(hv:∀ x∈T,V x){A1 A2 B':Ac Av}{y:Av}(h:MI lt T out (A1++A2) (y::B'))(hy:∀ x∈A1,leK lt x y):MI lt T (out++A1) A2 (y::B'):=by
 have vm:∀ x,x∈out++((A1++A2)++(y::B'))->V x:=λx hx=>hv x (h.pm.mem_iff.mp hx)
 refine⟨by rw[CC,<-CC A1];exact h.pm,by rw[CC];exact h.sa,?_⟩
 obtain⟨s1,s2,s3⟩:=EQ.mp h.sa;obtain⟨t1,t2,t3⟩:=EQ.mp h.sb;obtain⟨u1,u2,u3⟩:=EQ.mp s2;rw[CC];refine EQ.mpr ⟨s1,EQ.mpr ⟨u1,t2,λx hx z hz=>?_⟩,λx hx z hz=>?_⟩
 .rcases AJ.mp hz with rfl|hz
  .exact hy x hx
  .exact O.trans (vm x (by simp[hx])) (vm y (by simp)) (vm z (by simp[hz])) (hy x hx) ((Ep.mp t2).1 z hz)
 .rcases DC.mp hz with hz|hz
  .exact s3 x hx z (FJ _ hz)
  .exact t3 x hx z hz
theorem MI.swap(h:MI lt T out A B):MI lt T out B A:=⟨(XU out List.perm_append_comm).trans h.pm,h.sb,h.sa⟩
theorem MI.mvB(O:OrdK V lt)(hv:∀ x∈T,V x){B1 B2 A':Ac Av}(h:MI lt T out (x::A') (B1++B2))(hx:∀ y∈B1,leK lt y x):MI lt T (out++B1) (x::A') B2:=(h.swap.mvA O hv hx).swap
theorem MI.endB(h:MI lt T out A []):SPk lt T (out++A):=⟨by have:=h.pm;rwa [Bu]at this,h.sa⟩
theorem MI.endA(h:MI lt T out [] B):SPk lt T (out++B):=h.swap.endB
theorem MI.end1(O:OrdK V lt)(hv:∀ x∈T,V x)(h:MI lt T out [x] B)(hx:∀ y∈B,leK lt y x):SPk lt T (out++B++[x]):=by
 have h':MI lt T out [x] (B++[]):=by rw[Bu];exact h
 exact(h'.mvB O hv hx).endB
end
section
variable{M:E6}{A:AV}{E:Vq}{s:Ap}{κ:E2}{V:Av->Prop}{lt:Av->Av->Aj}
theorem LW{r:C3}{Q:IY->A4->Prop}(q:Q ⟨⟩ st):Bs M A E s (liftM (rule r):EK A4 DZ IY) Q st:=by
 unfold Bs;show Aw M A ((StateT.lift (rule r):EK A4 DZ IY).run st) _ E s;rw[StateT.run_lift];exact Ah (Ha (At ⟨rfl,q⟩))
def Gb(κ:E2)(st st':A4):Prop:=kindOf st'=κ/\AA st'=AA st/\Bq st'=Bq st/\Ej st'=Ej st
theorem HS(h:i<a.size):a.toList.drop i=ka0 a i::a.toList.drop (i+1):=by
 have e:ka0 a i=a[i]:=by simp[ka0,Em,h]
 rw[e,<-Dk];exact DO (by rw[AR];exact h)
theorem L3(a:Au Av)(i:Ae):(a.extract i a.size).toList=a.toList.drop i:=by
 rw[Dl,Ch,GC];rw[EZ,AR];exact Ay _
theorem RC(a:Au Av)(i k:Ae):(a.extract i (i+k)).toList=(a.toList.drop i).take k:=by
 rw[Dl,Ch]
 congr 1
 omega
end
section
variable{M:E6}{A:AV}{E:Vq}{s:Ap}{κ:E2}{V:Av->Prop}{lt:Av->Av->Aj}
theorem He[Fi c]{m1 m2:EK A4 DZ α}{Q:α->A4->Prop}(h1:Bs M A E s m1 Q st)(h2:Bs M A E s m2 Q st):Bs M A E s (if c then m1 else m2) Q st:=by
 split<;>assumption
theorem US[Fi c]{f:Ae->EK A4 DZ α}{u v:Ae}{Q:α->A4->Prop}(h:∀ x,Bs M A E s (f x) Q st):Bs M A E s (if c then f u else f v) Q st:=He (h _) (h _)
structure LI (lt:Av->Av->Aj) (a b:Au Av) (out:Au Av) (ia ib:Ae):Prop where
 la:ia+1<a.size
 lb:ib<b.size
 mi:MI lt (a.toList++b.toList) out.toList (a.toList.drop ia) (b.toList.drop ib)
 sz:out.size=ia+ib
structure Pre (V:Av->Prop) (lt:Av->Av->Aj) (a b:Au Av):Prop where
 va:∀ x∈a.toList,V x
 vb:∀ x∈b.toList,V x
 sa:a.toList.Pairwise (leK lt)
 sb:b.toList.Pairwise (leK lt)
 pa:0<a.size
 pb:0<b.size
 fst:∀ x∈a.toList,leK lt (ka0 b 0) x
 lst:∀ y∈b.toList,leK lt y (ka0 a (a.size-1))
variable{a b out:Au Av}{ia ib:Ae}
theorem Pre.v(P:Pre V lt a b):∀ x∈a.toList++b.toList,V x:=λx hx=>(DC.mp hx).elim (P.va x) (P.vb x)
theorem Jl(h:i<a.size):ka0 a i∈a.toList:=by
 have e:ka0 a i=a[i]:=by simp[ka0,Em,h]
 rw[e];exact Array.mem_toList_iff.mpr (Array.getElem_mem h)
theorem WX(h:a.toList.Pairwise (leK lt))(hij:i<j)(hj:j<a.size):leK lt (ka0 a i) (ka0 a j):=by
 have e1:ka0 a i=a[i]:=by simp[ka0,Em,Yw hij hj]
 have e2:ka0 a j=a[j]:=by simp[ka0,Em,hj]
 rw[e1,e2,<-Dk,<-Dk];exact(BO.mp h) i j _ _ hij
theorem LI.pushB(O:OrdK V lt)(P:Pre V lt a b)(h:LI lt a b out ia ib)(hc:leK lt (ka0 b ib) (ka0 a ia)):MI lt (a.toList++b.toList) (out.push (ka0 b ib)).toList (a.toList.drop ia) (b.toList.drop (ib+1)):=by
 have m:=h.mi;have e:=HS (a:=a) (i:=ia) (by have:=h.la;omega)
 rw[HS h.lb]at m;rw[Dt];rw[e]at m ⊢;exact m.mvB (B1:=[ka0 b ib]) O P.v (λy hy=>by rw[A6.mp hy];exact hc)
theorem LI.pushA(O:OrdK V lt)(P:Pre V lt a b)(h:LI lt a b out ia ib)(hc:leK lt (ka0 a ia) (ka0 b ib)):MI lt (a.toList++b.toList) (out.push (ka0 a ia)).toList (a.toList.drop (ia+1)) (b.toList.drop ib):=by
 have m:=h.mi;have e:=HS h.lb;rw[HS (a:=a) (i:=ia) (by have:=h.la;omega)]at m
 rw[Dt];rw[e]at m ⊢;exact m.mvA (A1:=[ka0 a ia]) O P.v (λy hy=>by rw[A6.mp hy];exact hc)
theorem MI.pB(O:OrdK V lt)(P:Pre V lt a b)(m:MI lt (a.toList++b.toList) out.toList (a.toList.drop ja) (b.toList.drop jb))(ha:ja<a.size)(hb:jb<b.size)(hc:leK lt (ka0 b jb) (ka0 a ja)):MI lt (a.toList++b.toList) (out.push (ka0 b jb)).toList (a.toList.drop ja) (b.toList.drop (jb+1)):=by
 have e:=HS ha;rw[HS hb]at m;rw[Dt];rw[e]at m ⊢;exact m.mvB (B1:=[ka0 b jb]) O P.v (λy hy=>by rw[A6.mp hy];exact hc)
theorem MI.pA(O:OrdK V lt)(P:Pre V lt a b)(m:MI lt (a.toList++b.toList) out.toList (a.toList.drop ja) (b.toList.drop jb))(ha:ja<a.size)(hb:jb<b.size)(hc:leK lt (ka0 a ja) (ka0 b jb)):MI lt (a.toList++b.toList) (out.push (ka0 a ja)).toList (a.toList.drop (ja+1)) (b.toList.drop jb):=by
 have e:=HS hb;rw[HS ha]at m;rw[Dt];rw[e]at m ⊢;exact m.mvA (A1:=[ka0 a ja]) O P.v (λy hy=>by rw[A6.mp hy];exact hc)
theorem QT(o a:Au Av)(h:j+k<=a.size):(o++a.extract j (j+k)).size=o.size+k:=by
 rw[Ib,Ff];omega
theorem N9(h:x∈(a.toList.drop j).take k):∃ i,i<k/\j+i<a.size/\x=ka0 a (j+i):=by
 obtain⟨i,hi,rfl⟩:=Cp h;rw[Ei,EZ,AR]at hi;refine⟨i,by omega,by omega,?_⟩
 rw[Yd,Yb,Dk];simp[ka0,Em,show j+i<a.size by omega]
theorem MI.chA(O:OrdK V lt)(P:Pre V lt a b)(m:MI lt (a.toList++b.toList) out.toList (a.toList.drop ja) (b.toList.drop jb))(hb:jb<b.size)(hc:∀ i,i<k->ja+i<a.size->leK lt (ka0 a (ja+i)) (ka0 b jb)):MI lt (a.toList++b.toList) (out++a.extract ja (ja+k)).toList (a.toList.drop (ja+k)) (b.toList.drop jb):=by
 rw[Bm,RC];have e:=HS hb;rw[e]at m ⊢;rw[show a.toList.drop (ja+k)=(a.toList.drop ja).drop k from (Hl ..).symm]
 refine MI.mvA O P.v (by rw[C4];exact m) λx hx=>?_
 obtain⟨i,h1,h2,rfl⟩:=N9 hx;exact hc i h1 h2
theorem MI.chB(O:OrdK V lt)(P:Pre V lt a b)(m:MI lt (a.toList++b.toList) out.toList (a.toList.drop ja) (b.toList.drop jb))(ha:ja<a.size)(hc:∀ i,i<k->jb+i<b.size->leK lt (ka0 b (jb+i)) (ka0 a ja)):MI lt (a.toList++b.toList) (out++b.extract jb (jb+k)).toList (a.toList.drop ja) (b.toList.drop (jb+k)):=by
 rw[Bm,RC];have e:=HS ha;rw[e]at m ⊢;rw[show b.toList.drop (jb+k)=(b.toList.drop jb).drop k from (Hl ..).symm]
 refine MI.mvB O P.v (by rw[C4];exact m) λx hx=>?_
 obtain⟨i,h1,h2,rfl⟩:=N9 hx;exact hc i h1 h2
theorem V4(O:OrdK V lt)(va:∀ x∈a.toList,V x)(sa:a.toList.Pairwise (leK lt))(vk:V key)(i k:Ae)(h:i<=k)(hk:j+k<a.size)(hb:byd lt Af key (ka0 a (j+k))=Aa):byd lt Af key (ka0 a (j+i))=Aa:=by
 by_cases e:i=k
 .rw[e];exact hb
 .have l:=WX sa (i:=j+i) (j:=j+k) (by omega) hk
  have hb':lt key (ka0 a (j+k))=Af:=by simpa [byd] using hb
  have:=O.trans (va _ (Jl (by omega))) (va _ (Jl hk)) vk l hb'
  simpa [byd] using this
theorem QZ(O:OrdK V lt)(va:∀ x∈a.toList,V x)(sa:a.toList.Pairwise (leK lt))(vk:V key)(i k:Ae)(h:i<=k)(hk:j+k<a.size)(hb:byd lt Aa key (ka0 a (j+k))=Aa):byd lt Aa key (ka0 a (j+i))=Aa:=by
 by_cases e:i=k
 .rw[e];exact hb
 .have l:=WX sa (i:=j+i) (j:=j+k) (by omega) hk
  have hb':lt (ka0 a (j+k)) key=Aa:=by simpa [byd] using hb
  show byd lt Aa key (ka0 a (j+i))=Aa;cases q:lt (ka0 a (j+i)) key with
  |true=>simpa [byd] using q
  |false=>
   have:=O.trans vk (va _ (Jl (show j+i<a.size by omega))) (va _ (Jl hk)) q l
   rw[this]at hb';cases hb'
theorem RG(h:Mo (λi=>byd lt Af key (ka0 a (j+i))) n k):k<=n/\(∀ i,i<k->leK lt (ka0 a (j+i)) key)/\∀ i,k<=i->i<n->lt key (ka0 a (j+i))=Aa:=⟨h.1,λi hi=>by have:=h.2.1 i hi;simpa [byd,leK] using this,λi h1 h2=>by have:=h.2.2 i h1 h2;simpa [byd,leK] using this⟩
theorem OU(h:Mo (λi=>byd lt Aa key (ka0 a (j+i))) n k):k<=n/\(∀ i,i<k->lt (ka0 a (j+i)) key=Aa)/\∀ i,k<=i->i<n->leK lt key (ka0 a (j+i)):=⟨h.1,λi hi=>by have:=h.2.1 i hi;simpa [byd,leK] using this,λi h1 h2=>by have:=h.2.2 i h1 h2;simpa [byd,leK] using this⟩
theorem Mc{a b out:Au Av}{ia:Ae}(m:MI lt (a.toList++b.toList) out.toList (a.toList.drop ia) (b.toList.drop b.size)):SPk lt (a.toList++b.toList) (out++a.extract ia a.size++b.extract b.size b.size).toList:=by
 rw[Bm,Bm,L3,L3];have e:b.toList.drop b.size=[]:=GB (by rw[AR];exact Ay _)
 rw[e]at m ⊢;rw[Bu];exact m.endB
theorem iG{a b out:Au Av}{ib:Ae}(m:MI lt (a.toList++b.toList) out.toList (a.toList.drop a.size) (b.toList.drop ib)):SPk lt (a.toList++b.toList) (out++a.extract a.size a.size++b.extract ib b.size).toList:=by
 rw[Bm,Bm,L3,L3];have e:a.toList.drop a.size=[]:=GB (by rw[AR];exact Ay _)
 rw[e]at m ⊢;rw[Bu];exact m.endA
theorem Lc(O:OrdK V lt)(P:Pre V lt a b)(e:ia+1=a.size)(m:MI lt (a.toList++b.toList) out.toList (a.toList.drop ia) (b.toList.drop ib)):SPk lt (a.toList++b.toList) (out++b.extract ib b.size++a.extract ia a.size).toList:=by
 rw[Bm,Bm,L3,L3];have e1:a.toList.drop ia=[ka0 a ia]:=by
  rw[HS (by omega),e,GB (by rw[AR];exact Ay _)]
 rw[e1]at m ⊢;refine m.end1 O P.v λy hy=>?_
 have:=P.lst y (List.mem_of_mem_drop hy)
 rwa [show a.size-1=ia by omega]at this
theorem fA(C:IR M A s κ V lt)(O:OrdK V lt)(P:Pre V lt a b){Q:Au Av->A4->Prop}(hk:kindOf st=κ)(q:∀ r st',SPk lt (a.toList++b.toList) r.toList->Gb κ st st'->Q r st'):Bs M A E s (jE a b) Q st:=by
 have ss0:Gb κ st st:=⟨hk,rfl,rfl,rfl⟩;have vA:∀ {i},i<a.size->V (ka0 a i):=λh=>P.va _ (Jl h)
 have vB:∀ {i},i<b.size->V (ka0 b i):=λh=>P.vb _ (Jl h)
 have m0:MI lt (a.toList++b.toList) (#[ka0 b 0]:Au Av).toList (a.toList.drop 0) (b.toList.drop 1):=by
  have e:=HS P.pb;rw[Hm]at e;rw[Hm];refine⟨?_,Ep.mpr ⟨λx hx=>P.fst x hx,P.sa⟩,by have:=P.sb;rw[e]at this;exact this⟩
  have pm:(ka0 b 0::(a.toList++b.toList.drop 1)).Perm (a.toList++(ka0 b 0::b.toList.drop (0+1))):=List.perm_middle.symm;rw[<-e]at pm;exact pm
 refine Az (LW ?_);refine Az (Ed P.pb ?_)
 extract_lets out0 ia0 ib0
 by_cases h1:(ib0==b.size)=Aa
 .rw[Ar h1];have e1:1=b.size:=by simpa [ib0] using h1
  refine AE (q _ _ ?_ ss0);show SPk lt _ (#[ka0 b 0]++a.extract 0 a.size++b.extract 1 b.size).toList;rw[e1];rw[e1]at m0;exact Mc m0
 rw[As h1];by_cases h2:(ia0+1==a.size)=Aa
 .rw[Ar h2];have e2:0+1=a.size:=by simpa [ia0] using h2
  exact AE (q _ _ (Lc O P e2 m0) ss0)
 rw[As h2];have b1:1<b.size:=by
  have n1:¬ 1=b.size:=by simpa [ib0] using h1
  have:=P.pb;omega
 have a1:0+1<a.size:=by
  have n1:¬ 0+1=a.size:=by simpa [ia0] using h2
  have:=P.pa;omega
 refine Az (Gf ?_)
 extract_lets mg0
 refine Az (Db (Q:=λx st'=>Gb κ st st'/\∃ r,x.1=Ab r/\SPk lt (a.toList++b.toList) r.toList) (BW (λi x st'=>Gb κ st st'/\x.1=Ad/\LI lt a b x.2.1 x.2.2.1 x.2.2.2.1/\i+1<=x.2.1.size) (λi x st' _ hi hI=>?_) (λx st' hI=>?_) ⟨ss0,rfl,⟨a1,b1,m0,rfl⟩,Ay _⟩) λx st' hP=>?_)
 .obtain⟨ss,hx,li,hsz⟩:=hI;obtain⟨x1,out,ia,ib,mg⟩:=x;have li:LI lt a b out ia ib:=li;have hsz:i+1<=out.size:=hsz;have ht:0<a.size+b.size:=by omega
  try extract_lets
  refine Az (Db (Q:=λy st''=>Gb κ st st''/\((y.1=Ad/\LI lt a b y.2.1 y.2.2.1 y.2.2.2.1/\out.size+1<=y.2.1.size)\/∃ r,y.1=Ab r/\SPk lt (a.toList++b.toList) r.toList)) (BW (λj y st''=>Gb κ st st''/\y.1=Ad/\LI lt a b y.2.1 y.2.2.1 y.2.2.2.1/\out.size+j<=y.2.1.size) (λj y st'' _ hj hJ=>?_) (λy st'' hJ=>?_) ⟨ss,rfl,li,Ay _⟩) λy st'' hP=>?_)
  .obtain⟨ss1,hy,l1,hs1⟩:=hJ;obtain⟨y1,o,ja,jb,ac,bc⟩:=y;have l1:LI lt a b o ja jb:=l1;have hs1:out.size+j<=o.size:=hs1;have la:=l1.la;have lb:=l1.lb;have lja:ja<a.size:=by omega
   try extract_lets
   refine Az (Ed lb ?_);refine Az (Ed lja ?_);refine Az (C _ _ _ _ _ ss1.1 (vB lb) (vA (by omega)) ?_)
   show Bs M A E s (if lt (ka0 b jb) (ka0 a ja)=Aa then _ else _) _ _
   by_cases e:lt (ka0 b jb) (ka0 a ja)=Aa
   .rw[Ar e];refine Az (Ed lb ?_);have m:=l1.pushB O P (O.asymm (vB lb) (vA (by omega)) e)
    try extract_lets
    show Bs M A E s (if (jb+1==b.size)=Aa then _ else _) _ _
    by_cases hb:(jb+1==b.size)=Aa
    .rw[Ar hb];have e1:jb+1=b.size:=by simpa using hb
     refine AE ⟨ss1,.inr ⟨_,rfl,?_⟩⟩;show SPk lt _ (o.push (ka0 b jb)++a.extract ja a.size++b.extract (jb+1) b.size).toList;rw[e1]at m ⊢;exact Mc m
    .rw[As hb];have e1:¬ jb+1=b.size:=by simpa using hb
     have li':LI lt a b (o.push (ka0 b jb)) ja (jb+1):=⟨la,by omega,m,by rw[B0,l1.sz];omega⟩
     have sz':(o.push (ka0 b jb)).size=o.size+1:=B0 ..;refine He ?_ ?_
     .exact AE ⟨ss1,.inl ⟨rfl,li',by show out.size+1<=(o.push (ka0 b jb)).size;omega⟩⟩
     .exact AE ⟨ss1,rfl,li',by show out.size+(j+1)<=(o.push (ka0 b jb)).size;omega⟩
   .rw[As e];refine Az (Ed lja ?_);have m:=l1.pushA O P (show lt (ka0 b jb) (ka0 a ja)=Af by simpa using e)
    try extract_lets
    show Bs M A E s (if (ja+1+1==a.size)=Aa then _ else _) _ _
    by_cases hb:(ja+1+1==a.size)=Aa
    .rw[Ar hb];have e1:ja+1+1=a.size:=by simpa using hb
     exact AE ⟨ss1,.inr ⟨_,rfl,Lc O P e1 m⟩⟩
    .rw[As hb];have e1:¬ ja+1+1=a.size:=by simpa using hb
     have li':LI lt a b (o.push (ka0 a ja)) (ja+1) jb:=⟨by omega,lb,m,by rw[B0,l1.sz];omega⟩
     have sz':(o.push (ka0 a ja)).size=o.size+1:=B0 ..;refine He ?_ ?_
     .exact AE ⟨ss1,.inl ⟨rfl,li',by show out.size+1<=(o.push (ka0 a ja)).size;omega⟩⟩
     .exact AE ⟨ss1,rfl,li',by show out.size+(j+1)<=(o.push (ka0 a ja)).size;omega⟩
  .obtain⟨ss1,hy,l1,hs1⟩:=hJ;rw[Et]at hs1;exact⟨ss1,.inl ⟨hy,l1,by omega⟩⟩
  .obtain⟨ss1,hP⟩:=hP;obtain⟨y1,o,ja,jb,ac,bc⟩:=y;rcases hP with ⟨hy,l1,hs1⟩|⟨r,hy,sp⟩
   .have hy:y1=Ad:=hy;have l1:LI lt a b o ja jb:=l1;have hs1:out.size+1<=o.size:=hs1;subst hy
    try extract_lets
    refine Az (LW ?_)
    extract_lets mg1
    refine Az (Db (Q:=λy st3=>Gb κ st st3/\((y.1=Ad/\LI lt a b y.2.1 y.2.2.1 y.2.2.2.1/\out.size+1<=y.2.1.size)\/∃ r,y.1=Ab r/\SPk lt (a.toList++b.toList) r.toList)) (BW (λj y st3=>Gb κ st st3/\y.1=Ad/\LI lt a b y.2.1 y.2.2.1 y.2.2.2.1/\out.size+1<=y.2.1.size) (λj y st3 _ hj hJ=>?_) (λy st3 hJ=>⟨hJ.1,.inl hJ.2⟩) ⟨ss1,rfl,l1,hs1⟩) λy st3 hP=>?_)
    .obtain⟨ss2,hy,l2,hs2⟩:=hJ;obtain⟨y1,o,ja,jb,mg2,ac,bc⟩:=y;have l2:LI lt a b o ja jb:=l2;have hs2:out.size+1<=o.size:=hs2;have la:=l2.la;have lb:=l2.lb;have lja:ja<a.size:=by omega
     try extract_lets
     refine US λmg3=>?_
     refine Az (ER ?_);refine Az (Ed lb ?_);refine Az (Lg C ss2.1 (vB lb) (show ja+(a.size-ja)<=a.size by omega) (λi hi=>vA (by omega)) (show 0<a.size-ja by omega) (λi k h1 h2 h3=>V4 O P.va P.sa (vB lb) i k h1 (by omega) h3) λk hk=>?_)
     obtain⟨k1,k2,k3⟩:=RG hk;have k1:k<=a.size-ja:=k1;have k2:∀ i,i<k->leK lt (ka0 a (ja+i)) (ka0 b jb):=k2;have k3:∀ i,k<=i->i<a.size-ja->lt (ka0 b jb) (ka0 a (ja+i))=Aa:=k3;have m1:=l2.mi.chA O P (k:=k) lb λi hi _=>k2 i hi
     try extract_lets
     show Bs M A E s (if k>0 then _ else _) _ _
     by_cases hk0:k>0
     .rw[Ar hk0];have z1:=QT o a (show ja+k<=a.size by omega)
      try extract_lets
      show Bs M A E s (if (ja+k+1==a.size)=Aa then _ else if (ja+k==a.size)=Aa then _ else _) _ _
      by_cases c1:(ja+k+1==a.size)=Aa
      .rw[Ar c1];exact AE ⟨ss2,.inr ⟨_,rfl,Lc O P (by simpa using c1) m1⟩⟩
      rw[As c1];by_cases c2:(ja+k==a.size)=Aa
      .rw[Ar c2];have e2:ja+k=a.size:=by simpa using c2
       refine AE ⟨ss2,.inr ⟨_,rfl,?_⟩⟩;show SPk lt _ (o++a.extract ja (ja+k)++a.extract (ja+k) a.size++b.extract jb b.size).toList;rw[e2]at m1 ⊢;exact iG m1
      rw[As c2];have c1:¬ ja+k+1=a.size:=by simpa using c1
      have c2:¬ ja+k=a.size:=by simpa using c2
      have lt2:=k3 k (Ay _) (by omega)
      have sz2:=l2.sz;refine Az (Ed lb ?_);have m2:=MI.pB O P m1 (by omega) lb (O.asymm (vB lb) (vA (by omega)) lt2)
      have z2:((o++a.extract ja (ja+k)).push (ka0 b jb)).size=(o++a.extract ja (ja+k)).size+1:=B0 ..
      try extract_lets
      show Bs M A E s (if (jb+1==b.size)=Aa then _ else _) _ _
      by_cases c3:(jb+1==b.size)=Aa
      .rw[Ar c3];have e3:jb+1=b.size:=by simpa using c3
       refine AE ⟨ss2,.inr ⟨_,rfl,?_⟩⟩;show SPk lt _ (((o++a.extract ja (ja+k)).push (ka0 b jb))++a.extract (ja+k) a.size++b.extract (jb+1) b.size).toList;rw[e3]at m2 ⊢;exact Mc m2
      rw[As c3];have c3:¬ jb+1=b.size:=by simpa using c3
      have lb2:jb+1<b.size:=by omega
      have lj2:ja+k<a.size:=by omega
      refine Az (Ed lj2 ?_);refine Az (Lg C ss2.1 (vA lj2) (show jb+1+(b.size-(jb+1))<=b.size by omega) (λi hi=>vB (by omega)) (show 0<b.size-(jb+1) by omega) (λi k h1 h2 h3=>QZ O P.vb P.sb (vA lj2) i k h1 (by omega) h3) λkk hkk=>?_)
      obtain⟨q1,q2,q3⟩:=OU hkk;have q1:kk<=b.size-(jb+1):=q1;have q2:∀ i,i<kk->lt (ka0 b (jb+1+i)) (ka0 a (ja+k))=Aa:=q2;have q3:∀ i,kk<=i->i<b.size-(jb+1)->leK lt (ka0 a (ja+k)) (ka0 b (jb+1+i)):=q3
      try extract_lets
      show Bs M A E s (if kk>0 then _ else _) _ _
      by_cases hk1:kk>0
      .rw[Ar hk1];have m3:=MI.chB O P (k:=kk) m2 lj2 λi hi h'=>O.asymm (vB h') (vA lj2) (q2 i hi)
       have z3:=QT ((o++a.extract ja (ja+k)).push (ka0 b jb)) b (show jb+1+kk<=b.size by omega)
       try extract_lets
       show Bs M A E s (if (jb+1+kk==b.size)=Aa then _ else _) _ _
       by_cases c4:(jb+1+kk==b.size)=Aa
       .rw[Ar c4];have e4:jb+1+kk=b.size:=by simpa using c4
        refine AE ⟨ss2,.inr ⟨_,rfl,?_⟩⟩;show SPk lt _ (((o++a.extract ja (ja+k)).push (ka0 b jb))++b.extract (jb+1) (jb+1+kk)++a.extract (ja+k) a.size++b.extract (jb+1+kk) b.size).toList;rw[e4]at m3 ⊢;exact Mc m3
       rw[As c4];have c4:¬ jb+1+kk=b.size:=by simpa using c4
       have lb3:jb+1+kk<b.size:=by omega
       have lt3:=q3 kk (Ay _) (by omega)
       refine Az (Ed (show ja+k<a.size by omega) ?_)
       have m4:=MI.pA O P m3 (by omega) lb3 lt3
       have z4:((((o++a.extract ja (ja+k)).push (ka0 b jb))++b.extract (jb+1) (jb+1+kk)).push (ka0 a (ja+k))).size=(((o++a.extract ja (ja+k)).push (ka0 b jb))++b.extract (jb+1) (jb+1+kk)).size+1:=B0 ..
       try extract_lets
       show Bs M A E s (if (ja+k+1+1==a.size)=Aa then _ else _) _ _
       by_cases d1:(ja+k+1+1==a.size)=Aa
       .rw[Ar d1];exact AE ⟨ss2,.inr ⟨_,rfl,Lc O P (by simpa using d1) m4⟩⟩
       .rw[As d1];have d1:¬ ja+k+1+1=a.size:=by simpa using d1
        have l4:LI lt a b ((((o++a.extract ja (ja+k)).push (ka0 b jb))++b.extract (jb+1) (jb+1+kk)).push (ka0 a (ja+k))) (ja+k+1) (jb+1+kk):=⟨by omega,lb3,m4,by omega⟩
        have h4:out.size+1<=((((o++a.extract ja (ja+k)).push (ka0 b jb))++b.extract (jb+1) (jb+1+kk)).push (ka0 a (ja+k))).size:=by omega
        refine He ?_ ?_
        .exact AE ⟨ss2,.inl ⟨rfl,l4,h4⟩⟩
        .exact AE ⟨ss2,rfl,l4,h4⟩
      .rw[As hk1];have hk1:kk=0:=by omega
       subst hk1;have m3:=m2;have lb3:=lb2;have lt3:=q3 0 (Ay _) (by omega)
       refine Az (Ed (show ja+k<a.size by omega) ?_)
       have m4:=MI.pA O P m3 (by omega) lb3 lt3
       have z4:(((o++a.extract ja (ja+k)).push (ka0 b jb)).push (ka0 a (ja+k))).size=((o++a.extract ja (ja+k)).push (ka0 b jb)).size+1:=B0 ..
       try extract_lets
       show Bs M A E s (if (ja+k+1+1==a.size)=Aa then _ else _) _ _
       by_cases d1:(ja+k+1+1==a.size)=Aa
       .rw[Ar d1];exact AE ⟨ss2,.inr ⟨_,rfl,Lc O P (by simpa using d1) m4⟩⟩
       .rw[As d1];have d1:¬ ja+k+1+1=a.size:=by simpa using d1
        have l4:LI lt a b (((o++a.extract ja (ja+k)).push (ka0 b jb)).push (ka0 a (ja+k))) (ja+k+1) (jb+1):=⟨by omega,lb3,m4,by omega⟩
        have h4:out.size+1<=(((o++a.extract ja (ja+k)).push (ka0 b jb)).push (ka0 a (ja+k))).size:=by omega
        refine He ?_ ?_
        .exact AE ⟨ss2,.inl ⟨rfl,l4,h4⟩⟩
        .exact AE ⟨ss2,rfl,l4,h4⟩
     .rw[As hk0];have hk0:k=0:=by omega
      subst hk0;have m1:=l2.mi;have lt2:=k3 0 (Ay _) (by omega)
      have sz2:=l2.sz;refine Az (Ed lb ?_);have m2:=MI.pB O P m1 (by omega) lb (O.asymm (vB lb) (vA (by omega)) lt2)
      have z2:(o.push (ka0 b jb)).size=o.size+1:=B0 ..
      try extract_lets
      show Bs M A E s (if (jb+1==b.size)=Aa then _ else _) _ _
      by_cases c3:(jb+1==b.size)=Aa
      .rw[Ar c3];have e3:jb+1=b.size:=by simpa using c3
       refine AE ⟨ss2,.inr ⟨_,rfl,?_⟩⟩;show SPk lt _ ((o.push (ka0 b jb))++a.extract (ja) a.size++b.extract (jb+1) b.size).toList;rw[e3]at m2 ⊢;exact Mc m2
      rw[As c3];have c3:¬ jb+1=b.size:=by simpa using c3
      have lb2:jb+1<b.size:=by omega
      have lj2:ja<a.size:=by omega
      refine Az (Ed lj2 ?_);refine Az (Lg C ss2.1 (vA lj2) (show jb+1+(b.size-(jb+1))<=b.size by omega) (λi hi=>vB (by omega)) (show 0<b.size-(jb+1) by omega) (λi k h1 h2 h3=>QZ O P.vb P.sb (vA lj2) i k h1 (by omega) h3) λkk hkk=>?_)
      obtain⟨q1,q2,q3⟩:=OU hkk;have q1:kk<=b.size-(jb+1):=q1;have q2:∀ i,i<kk->lt (ka0 b (jb+1+i)) (ka0 a (ja))=Aa:=q2;have q3:∀ i,kk<=i->i<b.size-(jb+1)->leK lt (ka0 a (ja)) (ka0 b (jb+1+i)):=q3
      try extract_lets
      show Bs M A E s (if kk>0 then _ else _) _ _
      by_cases hk1:kk>0
      .rw[Ar hk1];have m3:=MI.chB O P (k:=kk) m2 lj2 λi hi h'=>O.asymm (vB h') (vA lj2) (q2 i hi)
       have z3:=QT (o.push (ka0 b jb)) b (show jb+1+kk<=b.size by omega)
       try extract_lets
       show Bs M A E s (if (jb+1+kk==b.size)=Aa then _ else _) _ _
       by_cases c4:(jb+1+kk==b.size)=Aa
       .rw[Ar c4];have e4:jb+1+kk=b.size:=by simpa using c4
        refine AE ⟨ss2,.inr ⟨_,rfl,?_⟩⟩;show SPk lt _ ((o.push (ka0 b jb))++b.extract (jb+1) (jb+1+kk)++a.extract (ja) a.size++b.extract (jb+1+kk) b.size).toList;rw[e4]at m3 ⊢;exact Mc m3
       rw[As c4];have c4:¬ jb+1+kk=b.size:=by simpa using c4
       have lb3:jb+1+kk<b.size:=by omega
       have lt3:=q3 kk (Ay _) (by omega)
       refine Az (Ed (show ja<a.size by omega) ?_)
       have m4:=MI.pA O P m3 (by omega) lb3 lt3
       have z4:(((o.push (ka0 b jb))++b.extract (jb+1) (jb+1+kk)).push (ka0 a (ja))).size=((o.push (ka0 b jb))++b.extract (jb+1) (jb+1+kk)).size+1:=B0 ..
       try extract_lets
       show Bs M A E s (if (ja+1+1==a.size)=Aa then _ else _) _ _
       by_cases d1:(ja+1+1==a.size)=Aa
       .rw[Ar d1];exact AE ⟨ss2,.inr ⟨_,rfl,Lc O P (by simpa using d1) m4⟩⟩
       .rw[As d1];have d1:¬ ja+1+1=a.size:=by simpa using d1
        have l4:LI lt a b (((o.push (ka0 b jb))++b.extract (jb+1) (jb+1+kk)).push (ka0 a (ja))) (ja+1) (jb+1+kk):=⟨by omega,lb3,m4,by omega⟩
        have h4:out.size+1<=(((o.push (ka0 b jb))++b.extract (jb+1) (jb+1+kk)).push (ka0 a (ja))).size:=by omega
        refine He ?_ ?_
        .exact AE ⟨ss2,.inl ⟨rfl,l4,h4⟩⟩
        .exact AE ⟨ss2,rfl,l4,h4⟩
      .rw[As hk1];have hk1:kk=0:=by omega
       subst hk1;have m3:=m2;have lb3:=lb2;have lt3:=q3 0 (Ay _) (by omega)
       refine Az (Ed (show ja<a.size by omega) ?_)
       have m4:=MI.pA O P m3 (by omega) lb3 lt3
       have z4:((o.push (ka0 b jb)).push (ka0 a (ja))).size=(o.push (ka0 b jb)).size+1:=B0 ..
       try extract_lets
       show Bs M A E s (if (ja+1+1==a.size)=Aa then _ else _) _ _
       by_cases d1:(ja+1+1==a.size)=Aa
       .rw[Ar d1];exact AE ⟨ss2,.inr ⟨_,rfl,Lc O P (by simpa using d1) m4⟩⟩
       .rw[As d1];have d1:¬ ja+1+1=a.size:=by simpa using d1
        have l4:LI lt a b ((o.push (ka0 b jb)).push (ka0 a (ja))) (ja+1) (jb+1):=⟨by omega,lb3,m4,by omega⟩
        have h4:out.size+1<=((o.push (ka0 b jb)).push (ka0 a (ja))).size:=by omega
        refine He ?_ ?_
        .exact AE ⟨ss2,.inl ⟨rfl,l4,h4⟩⟩
        .exact AE ⟨ss2,rfl,l4,h4⟩
    .obtain⟨ss2,hP⟩:=hP;obtain⟨y1,o,ja,jb,mg2,ac,bc⟩:=y;rcases hP with ⟨hy,l2,hs2⟩|⟨r,hy,sp⟩
     .have hy:y1=Ad:=hy;subst hy;refine Az (ER ?_);exact AE ⟨ss2,rfl,l2,by have:out.size+1<=o.size:=hs2;show i+1+1<=o.size;omega⟩
     .have hy:y1=Ab r:=hy;subst hy;exact AE ⟨ss2,r,rfl,sp⟩
   .have hy:y1=Ab r:=hy;subst hy;exact AE ⟨ss1,r,rfl,sp⟩
 .obtain⟨_,_,h,h3⟩:=hI
  exfalso
  have:=h.sz;have:=h.la;have:=h.lb;rw[Et]at h3;omega
 .obtain⟨ss,r,e,sp⟩:=hP;obtain⟨x1,x2⟩:=x;have e:x1=Ab r:=e;subst e;exact AE (q _ _ sp ss)
end
section
variable{M:E6}{A:AV}{E:Vq}{s:Ap}{κ:E2}{V:Av->Prop}{lt:Av->Av->Aj}
theorem Ws{f:IY->Ae->Au Av->EK A4 DZ α}{H:Ae->Au Av->Prop}{m:EK A4 DZ α}{Q:α->A4->Prop}(J:∀ n o,H n o->Bs M A E s (f ⟨⟩ n o) Q st)(main:(∀ n o,H n o->Bs M A E s (f ⟨⟩ n o) Q st)->Bs M A E s m Q st):Bs M A E s m Q st:=main J
noncomputable def flp(lt:Av->Av->Aj)(x y:Av):Aj:=lt y x
theorem OrdK.flp(O:OrdK V lt):OrdK V (flp lt):=⟨λhx hy h=>O.asymm hy hx h,λhx hy hz h1 h2=>O.trans hz hy hx h2 h1⟩
def MH(lt:Av->Av->Aj)(T out A B:Ac Av):Prop:=MI (flp lt) T out A.reverse B.reverse
theorem SPk.rev{T r:Ac Av}(h:SPk (flp lt) T r):SPk lt T r.reverse:=⟨(Ig r).trans h.1,G0.mpr h.2⟩
theorem Ky(h:i<a.size):(a.toList.take (i+1)).reverse=ka0 a i::(a.toList.take i).reverse:=by
 have e:ka0 a i=a[i]:=by simp[ka0,Em,h]
 rw[e,<-Dk,Yq (by rw[AR];exact h),Eg]
 rfl
theorem Mw(a:Au Av)(k:Ae):(a.extract 0 k).toList=a.toList.take k:=by
 rw[Dl,Ch,Hm];rfl
theorem Vy(a:Au Av)(h:j<=n):(a.toList.take n).reverse=((a.extract j n).reverse).toList++(a.toList.take j).reverse:=by
 rw[EM,Dl,Ch,<-Eg]
 congr 1
 conv=>lhs;rw[show n=j+(n-j) by omega,List.take_add]
theorem U_2(hn:n<=a.size)(h:x∈(a.extract j n).reverse.toList):∃ i,j<=i/\i<n/\x=ka0 a i:=by
 rw[EM,List.mem_reverse,Dl,Ch]at h;obtain⟨i,h1,h2,rfl⟩:=N9 h;exact⟨j+i,by omega,by omega,rfl⟩
structure HI (lt:Av->Av->Aj) (a b:Au Av) (out:Au Av) (na nb:Ae):Prop where
 la:0<na
 la':na<=a.size
 lb:1<nb
 lb':nb<=b.size
 mi:MH lt (a.toList++b.toList) out.toList (a.toList.take na) (b.toList.take nb)
 sz:out.size+na+nb=a.size+b.size
variable{a b out:Au Av}
theorem MH.pA(O:OrdK V lt)(P:Pre V lt a b)(m:MH lt (a.toList++b.toList) out.toList (a.toList.take (n+1)) (b.toList.take (k+1)))(ha:n<a.size)(hb:k<b.size)(hc:leK lt (ka0 b k) (ka0 a n)):MH lt (a.toList++b.toList) (out.push (ka0 a n)).toList (a.toList.take n) (b.toList.take (k+1)):=by
 unfold MH at m ⊢;have e:=Ky hb;rw[Ky ha]at m;rw[Dt];rw[e]at m ⊢;exact m.mvA (A1:=[ka0 a n]) O.flp P.v (λy hy=>by rw[A6.mp hy];exact hc)
theorem MH.pB(O:OrdK V lt)(P:Pre V lt a b)(m:MH lt (a.toList++b.toList) out.toList (a.toList.take (n+1)) (b.toList.take (k+1)))(ha:n<a.size)(hb:k<b.size)(hc:leK lt (ka0 a n) (ka0 b k)):MH lt (a.toList++b.toList) (out.push (ka0 b k)).toList (a.toList.take (n+1)) (b.toList.take k):=by
 unfold MH at m ⊢;have e:=Ky ha;rw[Ky hb]at m;rw[Dt];rw[e]at m ⊢;exact m.mvB (B1:=[ka0 b k]) O.flp P.v (λy hy=>by rw[A6.mp hy];exact hc)
theorem MH.chA(O:OrdK V lt)(P:Pre V lt a b)(m:MH lt (a.toList++b.toList) out.toList (a.toList.take n) (b.toList.take (k+1)))(hj:j<=n)(hn:n<=a.size)(hb:k<b.size)(hc:∀ i,j<=i->i<n->leK lt (ka0 b k) (ka0 a i)):MH lt (a.toList++b.toList) (out++(a.extract j n).reverse).toList (a.toList.take j) (b.toList.take (k+1)):=by
 unfold MH at m ⊢;rw[Bm];rw[Vy a hj]at m;rw[Ky hb]at m ⊢;refine m.mvA O.flp P.v λx hx=>?_
 obtain⟨i,h1,h2,rfl⟩:=U_2 hn hx;exact hc i h1 h2
theorem MH.chB(O:OrdK V lt)(P:Pre V lt a b)(m:MH lt (a.toList++b.toList) out.toList (a.toList.take (k+1)) (b.toList.take n))(hj:j<=n)(hn:n<=b.size)(ha:k<a.size)(hc:∀ i,j<=i->i<n->leK lt (ka0 a k) (ka0 b i)):MH lt (a.toList++b.toList) (out++(b.extract j n).reverse).toList (a.toList.take (k+1)) (b.toList.take j):=by
 unfold MH at m ⊢;rw[Bm];rw[Vy b hj]at m;rw[Ky ha]at m ⊢;refine m.mvB O.flp P.v λx hx=>?_
 obtain⟨i,h1,h2,rfl⟩:=U_2 hn hx;exact hc i h1 h2
theorem Ow(m:MH lt (a.toList++b.toList) out.toList (a.toList.take 0) (b.toList.take n)):SPk lt (a.toList++b.toList) (a.extract 0 0++b.extract 0 n++out.reverse).toList:=by
 rw[Bm,Bm,Mw,Mw,EM];unfold MH at m;rw[JC]at m ⊢;have:=(m.endA).rev
 rwa [Eg,FK]at this
theorem vV(m:MH lt (a.toList++b.toList) out.toList (a.toList.take n) (b.toList.take 0)):SPk lt (a.toList++b.toList) (a.extract 0 n++b.extract 0 0++out.reverse).toList:=by
 rw[Bm,Bm,Mw,Mw,EM];unfold MH at m;rw[JC]at m ⊢;have:=(m.endB).rev;rw[Eg,FK]at this
 rwa [Bu]
theorem Ox(O:OrdK V lt)(P:Pre V lt a b)(m:MH lt (a.toList++b.toList) out.toList (a.toList.take n) (b.toList.take 1)):SPk lt (a.toList++b.toList) (b.extract 0 1++a.extract 0 n++out.reverse).toList:=by
 rw[Bm,Bm,Mw,Mw,EM];unfold MH at m;have e:=Ky P.pb;rw[JC]at e;rw[e]at m;have e':b.toList.take 1=[ka0 b 0]:=by
  have:=congrArg List.reverse e;rw[FK]at this;exact this
 have:=(m.swap.end1 O.flp P.v λy hy=>P.fst y (List.mem_of_mem_take (Yl.mp hy))).rev
 rw[Eg,Eg,FK]at this;rw[e',CC];exact this
theorem szr(o a:Au Av)(h:j<=n)(hn:n<=a.size):(o++(a.extract j n).reverse).size=o.size+(n-j):=by
 rw[Ib,Array.size_reverse,Ff];omega
theorem fB(C:IR M A s κ V lt)(O:OrdK V lt)(P:Pre V lt a b){Q:Au Av->A4->Prop}(hk:kindOf st=κ)(q:∀ r st',SPk lt (a.toList++b.toList) r.toList->Gb κ st st'->Q r st'):Bs M A E s (jF a b) Q st:=by
 have ss0:Gb κ st st:=⟨hk,rfl,rfl,rfl⟩;have vA:∀ {i},i<a.size->V (ka0 a i):=λh=>P.va _ (Jl h)
 have vB:∀ {i},i<b.size->V (ka0 b i):=λh=>P.vb _ (Jl h)
 have hpa:=P.pa;have hpb:=P.pb;have la0:a.size-1<a.size:=by omega
 have m0:MH lt (a.toList++b.toList) (#[ka0 a (a.size-1)]:Au Av).toList (a.toList.take (a.size-1)) (b.toList.take b.size):=by
  have e:=Ky la0;rw[show a.size-1+1=a.size by omega,GC (by rw[AR];exact Ay _)]at e
  have e2:b.toList.take b.size=b.toList:=GC (by rw[AR];exact Ay _)
  unfold MH;rw[e2];have sr:a.toList.reverse.Pairwise (leK (flp lt)):=G0.mpr P.sa;have sb:b.toList.reverse.Pairwise (leK (flp lt)):=G0.mpr P.sb;rw[e]at sr;refine⟨?_,sr,Ep.mpr ⟨λx hx=>P.lst x (Yl.mp hx),sb⟩⟩
  show (ka0 a (a.size-1)::(List.take (a.size-1) a.toList).reverse++b.toList.reverse).Perm _;rw[<-e];exact Iu (Ig _) (Ig _)
 refine Az (LW ?_)
 extract_lets tot dn fb na0 nb0 ac0
 refine Az (Ed la0 ?_)
 extract_lets out0
 by_cases h1:(na0==0)=Aa
 .rw[Ar h1];have e1:a.size-1=0:=by simpa [na0] using h1
  refine AE (q _ _ ?_ ss0);show SPk lt _ (a.extract 0 (a.size-1)++b.extract 0 b.size++(#[ka0 a (a.size-1)]:Au Av).reverse).toList;rw[e1]at m0 ⊢;exact Ow m0
 rw[As h1];by_cases h2:(nb0==1)=Aa
 .rw[Ar h2];have e2:b.size=1:=by simpa [nb0] using h2
  refine AE (q _ _ ?_ ss0);show SPk lt _ (b.extract 0 b.size++a.extract 0 (a.size-1)++(#[ka0 a (a.size-1)]:Au Av).reverse).toList;rw[e2]at m0 ⊢;exact Ox O P m0
 rw[As h2];have n1:¬ a.size-1=0:=by simpa [na0] using h1
 have n2:¬ b.size=1:=by simpa [nb0] using h2
 have hi0:HI lt a b #[ka0 a (a.size-1)] (a.size-1) b.size:=⟨by omega,by omega,by omega,Ay _,m0,by show 1+(a.size-1)+b.size=_;omega⟩
 refine Az (Gf ?_)
 extract_lets mg0
 refine Az (Db (Q:=λx st'=>Gb κ st st'/\∃ r,x.1=Ab r/\SPk lt (a.toList++b.toList) r.toList) (BW (λi x st'=>Gb κ st st'/\x.1=Ad/\HI lt a b x.2.2.2.1 x.2.1 x.2.2.1/\i+1<=x.2.2.2.1.size) (λi x st' _ hi hI=>?_) (λx st' hI=>?_) ⟨ss0,rfl,hi0,Ay _⟩) λx st' hP=>?_)
 .obtain⟨ss,hx,li,hsz⟩:=hI;obtain⟨x1,na,nb,out,mg⟩:=x;have li:HI lt a b out na nb:=li;have hsz:i+1<=out.size:=hsz;have ht:0<a.size+b.size:=by omega
  try extract_lets
  refine Az (Db (Q:=λy st''=>Gb κ st st''/\((y.1=Ad/\HI lt a b y.2.2.2.1 y.2.1 y.2.2.1/\out.size+1<=y.2.2.2.1.size)\/∃ r,y.1=Ab r/\SPk lt (a.toList++b.toList) r.toList)) (BW (λj y st''=>Gb κ st st''/\y.1=Ad/\HI lt a b y.2.2.2.1 y.2.1 y.2.2.1/\out.size+j<=y.2.2.2.1.size) (λj y st'' _ hj hJ=>?_) (λy st'' hJ=>?_) ⟨ss,rfl,li,Ay _⟩) λy st'' hP=>?_)
  .obtain⟨ss1,hy,l1,hs1⟩:=hJ;obtain⟨y1,ja,jb,o,ac,bc⟩:=y;have l1:HI lt a b o ja jb:=l1;have hs1:out.size+j<=o.size:=hs1;have la:=l1.la;have lb:=l1.lb;obtain⟨n,rfl⟩:∃ n,ja=n+1:=⟨ja-1,by omega⟩
   obtain⟨k,rfl⟩:∃ k,jb=k+1:=⟨jb-1,by omega⟩
   have ln:n<a.size:=l1.la';have lk:k<b.size:=l1.lb';have l1s:=l1.sz
   try extract_lets
   refine Az (Ed lk ?_);refine Az (Ed ln ?_);refine Az (C _ _ _ _ _ ss1.1 (vB lk) (vA ln) ?_);show Bs M A E s (if lt (ka0 b k) (ka0 a n)=Aa then _ else _) _ _
   by_cases e:lt (ka0 b k) (ka0 a n)=Aa
   .rw[Ar e];refine Az (Ed ln ?_);have m:=l1.mi.pA O P ln lk (O.asymm (vB lk) (vA ln) e);have sz':(o.push (ka0 a n)).size=o.size+1:=B0 ..
    try extract_lets
    show Bs M A E s (if (n==0)=Aa then _ else _) _ _
    by_cases hb:(n==0)=Aa
    .rw[Ar hb];have e1:n=0:=by simpa using hb
     refine AE ⟨ss1,.inr ⟨_,rfl,?_⟩⟩;show SPk lt _ (a.extract 0 n++b.extract 0 (k+1)++(o.push (ka0 a n)).reverse).toList;generalize o.push (ka0 a n)=o' at m ⊢;rw[e1]at m ⊢;exact Ow m
    .rw[As hb];have e1:¬ n=0:=by simpa using hb
     have li':HI lt a b (o.push (ka0 a n)) n (k+1):=⟨by omega,by omega,lb,lk,m,by omega⟩
     refine He ?_ ?_
     .exact AE ⟨ss1,.inl ⟨rfl,li',by show out.size+1<=(o.push (ka0 a n)).size;omega⟩⟩
     .exact AE ⟨ss1,rfl,li',by show out.size+(j+1)<=(o.push (ka0 a n)).size;omega⟩
   .rw[As e];refine Az (Ed lk ?_);have m:=l1.mi.pB O P ln lk (show lt (ka0 b k) (ka0 a n)=Af by simpa using e)
    have sz':(o.push (ka0 b k)).size=o.size+1:=B0 ..
    try extract_lets
    show Bs M A E s (if (k==1)=Aa then _ else _) _ _
    by_cases hb:(k==1)=Aa
    .rw[Ar hb];have e1:k=1:=by simpa using hb
     refine AE ⟨ss1,.inr ⟨_,rfl,?_⟩⟩;show SPk lt _ (b.extract 0 k++a.extract 0 (n+1)++(o.push (ka0 b k)).reverse).toList;generalize o.push (ka0 b k)=o' at m ⊢;rw[e1]at m ⊢;exact Ox O P m
    .rw[As hb];have e1:¬ k=1:=by simpa using hb
     have li':HI lt a b (o.push (ka0 b k)) (n+1) k:=⟨by omega,by omega,by omega,by omega,m,by omega⟩
     refine He ?_ ?_
     .exact AE ⟨ss1,.inl ⟨rfl,li',by show out.size+1<=(o.push (ka0 b k)).size;omega⟩⟩
     .exact AE ⟨ss1,rfl,li',by show out.size+(j+1)<=(o.push (ka0 b k)).size;omega⟩
  .obtain⟨ss1,hy,l1,hs1⟩:=hJ;rw[Et]at hs1;exact⟨ss1,.inl ⟨hy,l1,by have:out.size+(a.size+b.size)<=_:=hs1;omega⟩⟩
  .obtain⟨ss1,hP⟩:=hP;obtain⟨y1,ja,jb,o,ac,bc⟩:=y;rcases hP with ⟨hy,l1,hs1⟩|⟨r,hy,sp⟩
   .have hy:y1=Ad:=hy;have l1:HI lt a b o ja jb:=l1;have hs1:out.size+1<=o.size:=hs1;subst hy
    try extract_lets
    refine Az (LW ?_)
    extract_lets mg1
    refine Az (Db (Q:=λy st3=>Gb κ st st3/\((y.1=Ad/\HI lt a b y.2.2.2.1 y.2.1 y.2.2.1/\out.size+1<=y.2.2.2.1.size)\/∃ r,y.1=Ab r/\SPk lt (a.toList++b.toList) r.toList)) (BW (λj y st3=>Gb κ st st3/\y.1=Ad/\HI lt a b y.2.2.2.1 y.2.1 y.2.2.1/\out.size+1<=y.2.2.2.1.size) (λj y st3 _ hj hJ=>?_) (λy st3 hJ=>⟨hJ.1,.inl hJ.2⟩) ⟨ss1,rfl,l1,hs1⟩) λy st3 hP=>?_)
    .obtain⟨ss2,hy,l2,hs2⟩:=hJ;obtain⟨y1,ja,jb,o,mg2,ac,bc⟩:=y;have l2:HI lt a b o ja jb:=l2;have hs2:out.size+1<=o.size:=hs2;have la:=l2.la;have lb:=l2.lb;obtain⟨n,rfl⟩:∃ n,ja=n+1:=⟨ja-1,by omega⟩
     obtain⟨k,rfl⟩:∃ k,jb=k+1:=⟨jb-1,by omega⟩
     have ln:n<a.size:=l2.la';have lk:k<b.size:=l2.lb';have l2s:=l2.sz
     try extract_lets
     refine US λmg3=>?_
     refine Az (ER ?_);refine Az (Ed lk ?_);refine Az (Lg C ss2.1 (vB lk) (show 0+(n+1)<=a.size by omega) (λi hi=>vA (by have:i<n+1:=hi;omega)) (show n<n+1 by omega) (λi k h1 h2 h3=>V4 O P.va P.sa (vB lk) i k h1 (by have:k<n+1:=h2;omega) h3) λc hc=>?_)
     obtain⟨k1,k2,k3⟩:=RG hc;have k1:c<=n+1:=k1;have k2:∀ i,i<c->leK lt (ka0 a i) (ka0 b k):=λi h=>by have:=k2 i h;rwa [DT]at this
     have k3:∀ i,c<=i->i<n+1->lt (ka0 b k) (ka0 a i)=Aa:=λi h h'=>by have:=k3 i h h';rwa [DT]at this
     dsimp -zeta only
     extract_lets kk ack jp
     refine Ws (f:=jp) (H:=λna' o'=>0<na'/\na'<=n+1/\leK lt (ka0 a (na'-1)) (ka0 b k)/\MH lt (a.toList++b.toList) o'.toList (a.toList.take na') (b.toList.take (k+1))/\out.size+1<=o'.size/\o'.size+na'+(k+1)=a.size+b.size) (λna' o' hH=>?_) (λJ=>?_)
     .obtain⟨g1,g2,g3,g4,g5,g6⟩:=hH;obtain⟨n',rfl⟩:∃ n',na'=n'+1:=⟨na'-1,by omega⟩
      have g3:leK lt (ka0 a n') (ka0 b k):=g3;have ln':n'<a.size:=by omega
      refine Az (Ed lk ?_);have m2:=g4.pB O P ln' lk g3;have z2:(o'.push (ka0 b k)).size=o'.size+1:=B0 ..
      try extract_lets
      show Bs M A E s (if (k==1)=Aa then _ else _) _ _
      by_cases c3:(k==1)=Aa
      .rw[Ar c3];have e3:k=1:=by simpa using c3
       refine AE ⟨ss2,.inr ⟨_,rfl,?_⟩⟩;show SPk lt _ (b.extract 0 k++a.extract 0 (n'+1)++(o'.push (ka0 b k)).reverse).toList;generalize o'.push (ka0 b k)=o3 at m2 ⊢;rw[e3]at m2 ⊢;exact Ox O P m2
      rw[As c3];have c3:¬ k=1:=by simpa using c3
      obtain⟨k',rfl⟩:∃ k',k=k'+1:=⟨k-1,by omega⟩
      have lk':k'<b.size:=by omega
      refine Az (Ed ln' ?_);refine Az (Lg C ss2.1 (vA ln') (show 0+(k'+1)<=b.size by omega) (λi hi=>vB (by have:i<k'+1:=hi;omega)) (show k'<k'+1 by omega) (λi k h1 h2 h3=>QZ O P.vb P.sb (vA ln') i k h1 (by have:k<k'+1:=h2;omega) h3) λc' hc'=>?_)
      obtain⟨q1,q2,q3⟩:=OU hc';have q1:c'<=k'+1:=q1;have q2:∀ i,i<c'->lt (ka0 b i) (ka0 a n')=Aa:=λi h=>by have:=q2 i h;rwa [DT]at this
      have q3:∀ i,c'<=i->i<k'+1->leK lt (ka0 a n') (ka0 b i):=λi h h'=>by have:=q3 i h h';rwa [DT]at this
      dsimp -zeta only
      extract_lets kk' bck jp'
      refine Ws (f:=jp') (H:=λnb' o4=>1<nb'/\nb'<=k'+1/\leK lt (ka0 b (nb'-1)) (ka0 a n')/\MH lt (a.toList++b.toList) o4.toList (a.toList.take (n'+1)) (b.toList.take nb')/\out.size+1<=o4.size/\o4.size+(n'+1)+nb'=a.size+b.size) (λnb' o4 hH=>?_) (λJ=>?_)
      .obtain⟨j1,j2,j3,j4,j5,j6⟩:=hH;obtain⟨k'',rfl⟩:∃ k'',nb'=k''+1:=⟨nb'-1,by omega⟩
       have j3:leK lt (ka0 b k'') (ka0 a n'):=j3;refine Az (Ed ln' ?_);have m4:=j4.pA O P ln' (show k''<b.size by omega) j3
       have z4:(o4.push (ka0 a n')).size=o4.size+1:=B0 ..
       try extract_lets
       show Bs M A E s (if (n'==0)=Aa then _ else _) _ _
       by_cases d1:(n'==0)=Aa
       .rw[Ar d1];have e1:n'=0:=by simpa using d1
        refine AE ⟨ss2,.inr ⟨_,rfl,?_⟩⟩;show SPk lt _ (a.extract 0 n'++b.extract 0 (k''+1)++(o4.push (ka0 a n')).reverse).toList;generalize o4.push (ka0 a n')=o5 at m4 ⊢;rw[e1]at m4 ⊢;exact Ow m4
       .rw[As d1];have d1:¬ n'=0:=by simpa using d1
        have l4:HI lt a b (o4.push (ka0 a n')) n' (k''+1):=⟨by omega,by omega,by omega,by omega,m4,by omega⟩
        have h4:out.size+1<=(o4.push (ka0 a n')).size:=by omega
        refine He ?_ ?_
        .exact AE ⟨ss2,.inl ⟨rfl,l4,h4⟩⟩
        .exact AE ⟨ss2,rfl,l4,h4⟩
      .show Bs M A E s (if k'+1-c'>0 then _ else _) _ _
       by_cases hk1:k'+1-c'>0
       .rw[Ar hk1];have m3:=m2.chB O P q1 (show k'+1<=b.size by omega) ln' λi h1 h2=>q3 i h1 h2
        have z3:=szr (o'.push (ka0 b (k'+1))) b q1 (show k'+1<=b.size by omega)
        try extract_lets
        show Bs M A E s (if (c'==1)=Aa then _ else if (c'==0)=Aa then _ else _) _ _
        by_cases d1:(c'==1)=Aa
        .rw[Ar d1];have e1:c'=1:=by simpa using d1
         refine AE ⟨ss2,.inr ⟨_,rfl,?_⟩⟩;show SPk lt _ (b.extract 0 c'++a.extract 0 (n'+1)++((o'.push (ka0 b (k'+1)))++(b.extract c' (k'+1)).reverse).reverse).toList;generalize (o'.push (ka0 b (k'+1)))++(b.extract c' (k'+1)).reverse=o5 at m3 ⊢;rw[e1]at m3 ⊢;exact Ox O P m3
        rw[As d1];by_cases d2:(c'==0)=Aa
        .rw[Ar d2];have e1:c'=0:=by simpa using d2
         refine AE ⟨ss2,.inr ⟨_,rfl,?_⟩⟩;show SPk lt _ (a.extract 0 (n'+1)++b.extract 0 c'++((o'.push (ka0 b (k'+1)))++(b.extract c' (k'+1)).reverse).reverse).toList;generalize (o'.push (ka0 b (k'+1)))++(b.extract c' (k'+1)).reverse=o5 at m3 ⊢;rw[e1]at m3 ⊢;exact vV m3
        rw[As d2];have d1:¬ c'=1:=by simpa using d1
        have d2:¬ c'=0:=by simpa using d2
        exact J c' _ ⟨by omega,q1,O.asymm (vB (by omega)) (vA ln') (q2 (c'-1) (by omega)),m3,by show out.size+1<=((o'.push (ka0 b (k'+1)))++(b.extract c' (k'+1)).reverse).size;omega,by show ((o'.push (ka0 b (k'+1)))++(b.extract c' (k'+1)).reverse).size+_+_=_;omega⟩
       .rw[As hk1];exact J (k'+1) (o'.push (ka0 b (k'+1))) ⟨by omega,Ay _,O.asymm (vB lk') (vA ln') (q2 k' (by omega)),m2,by omega,by omega⟩
     .show Bs M A E s (if n+1-c>0 then _ else _) _ _
      by_cases hk0:n+1-c>0
      .rw[Ar hk0];have m1:=l2.mi.chA O P k1 (show n+1<=a.size by omega) lk λi h1 h2=>O.asymm (vB lk) (vA (by omega)) (k3 i h1 h2)
       have z1:=szr o a k1 (show n+1<=a.size by omega)
       try extract_lets
       show Bs M A E s (if (c==0)=Aa then _ else _) _ _
       by_cases c1:(c==0)=Aa
       .rw[Ar c1];have e1:c=0:=by simpa using c1
        refine AE ⟨ss2,.inr ⟨_,rfl,?_⟩⟩;show SPk lt _ (a.extract 0 c++b.extract 0 (k+1)++(o++(a.extract c (n+1)).reverse).reverse).toList;generalize o++(a.extract c (n+1)).reverse=o5 at m1 ⊢;rw[e1]at m1 ⊢;exact Ow m1
       rw[As c1];have c1:¬ c=0:=by simpa using c1
       exact J c _ ⟨by omega,k1,k2 (c-1) (by omega),m1,by show out.size+1<=(o++(a.extract c (n+1)).reverse).size;omega,by show (o++(a.extract c (n+1)).reverse).size+_+_=_;omega⟩
      .rw[As hk0];exact J (n+1) o ⟨by omega,Ay _,k2 n (by omega),l2.mi,hs2,l2s⟩
    .obtain⟨ss2,hP⟩:=hP;obtain⟨y1,ja,jb,o,mg2,ac,bc⟩:=y;rcases hP with ⟨hy,l2,hs2⟩|⟨r,hy,sp⟩
     .have hy:y1=Ad:=hy;subst hy;refine Az (ER ?_);exact AE ⟨ss2,rfl,l2,by have:out.size+1<=o.size:=hs2;show i+1+1<=o.size;omega⟩
     .have hy:y1=Ab r:=hy;subst hy;exact AE ⟨ss2,r,rfl,sp⟩
   .have hy:y1=Ab r:=hy;subst hy;exact AE ⟨ss1,r,rfl,sp⟩
 .obtain⟨_,_,h,h3⟩:=hI
  exfalso
  have:=h.sz;have:=h.la;have:=h.lb;rw[Et]at h3;have h3:a.size+b.size+1<=_:=h3;omega
 .obtain⟨ss,r,e,sp⟩:=hP;obtain⟨x1,x2⟩:=x;have e:x1=Ab r:=e;subst e;exact AE (q _ _ sp ss)
end
section
variable{M:E6}{A:AV}{E:Vq}{s:Ap}{κ:E2}{V:Av->Prop}{lt:Av->Av->Aj}
def Srt(lt:Av->Av->Aj)(a:Au Av)(lo hi:Ae):Prop:=∀ i j,lo<=i->i<j->j<hi->leK lt (ka0 a i) (ka0 a j)
structure Upd (a a':Au Av) (lo hi:Ae):Prop where
 sz:a'.size=a.size
 pm:a'.toList.Perm a.toList
 out:∀ i,i<lo\/hi<=i->ka0 a' i=ka0 a i
theorem Upd.rfl':Upd a a lo hi:=⟨rfl,JA _,λ_ _=>rfl⟩
theorem Upd.trans{a a' a'':Au Av}{lo hi:Ae}(h:Upd a a' lo hi)(h':Upd a' a'' lo hi):Upd a a'' lo hi:=⟨h'.sz.trans h.sz,h'.pm.trans h.pm,λi hi=>(h'.out i hi).trans (h.out i hi)⟩
theorem Upd.mono{lo' hi':Ae}(h:Upd a a' lo hi)(h1:lo'<=lo)(h2:hi<=hi'):Upd a a' lo' hi':=⟨h.sz,h.pm,λi hi=>h.out i (by omega)⟩
theorem Me(a:Au Av)(i:Ae):ka0 a i=(a.toList[i]?).getD (AI,AI):=by
 unfold ka0;rw[BZ,Bz]
theorem UV(p:Ae):∀(m:Ac Av)(k:Ae)(a:Au Av),p+k+m.length<=a.size->((m.zipIdx k).foldl (λa x=>a.setIfInBounds (p+x.2) x.1) a).toList=a.toList.take (p+k)++m++a.toList.drop (p+k+m.length)
 |[],k,a,_=>by simp
 |x::m,k,a,h=>by
  rw[Ix,X7];rw[A5]at h;show ((m.zipIdx (k+1)).foldl _ (a.setIfInBounds (p+k) x)).toList=_;rw[UV p m (k+1) (a.setIfInBounds (p+k) x) (by rw[Xz];omega),XB,A5]
  have hl:p+k<a.toList.length:=by rw[AR];omega
  rw[show p+(k+1)=p+k+1 by omega,Yq (by rw[Bj];exact hl),List.getElem_set_self,List.take_set_of_le (Ay _),List.drop_set_of_lt (by omega)]
  rw[show p+k+1+m.length=p+k+(m.length+1) by omega]
  simp
theorem L8(hn:n<=a.size)(h:x∈(a.extract j n).toList):∃ i,j<=i/\i<n/\x=ka0 a i:=by
 rw[Dl,Ch]at h;obtain⟨i,h1,h2,rfl⟩:=N9 h;exact⟨j+i,by omega,by omega,rfl⟩
theorem Vx(hn:n<=a.size)(h:Srt lt a j n):(a.extract j n).toList.Pairwise (leK lt):=by
 rw[BO];intro i i' h1 h2 h3;rw[Dk,Dk,Xv,Xv];rw[AR,Ff]at h1 h2;have:=h (j+i) (j+i') (by omega) (by omega) (by omega)
 have e1:ka0 a (j+i)=a[j+i]'(by omega):=by simp[ka0,Em,show j+i<a.size by omega]
 have e2:ka0 a (j+i')=a[j+i']'(by omega):=by simp[ka0,Em,show j+i'<a.size by omega]
 rwa [e1,e2]at this
theorem Wi(hn:n<=a.size)(h:j+i<n):ka0 (a.extract j n) i=ka0 a (j+i):=by
 rw[Me,Me,Dl,Ch,X9,Ar (by omega),HB]
theorem Wv(hp:p+m.length<=a.size)(h:a'.toList=a.toList.take p++m++a.toList.drop (p+m.length)):(∀ i,i<p\/p+m.length<=i->ka0 a' i=ka0 a i)/\∀ i,p<=i->i<p+m.length->ka0 a' i=(m[i-p]?).getD (AI,AI):=by
 have l1:(a.toList.take p).length=p:=by rw[Ei,AR];omega
 constructor
 .intro i hi;rw[Me,Me,h,CC];rcases hi with hi|hi
  .rw[C2 (by rw[l1];exact hi),X9,Ar hi]
  .rw[BB (by rw[l1];omega),l1,BB (by omega),HB]
   congr 2
   omega
 .intro i h1 h2;rw[Me,h,CC,BB (by rw[l1];exact h1),l1,C2 (by omega)]
theorem rB(he:p+m.length=e)(hp:e<=a.size)(h:a'.toList=a.toList.take p++m++a.toList.drop (p+m.length))(pm:m.Perm (a.extract p e).toList):Upd a a' p e:=by
 subst he;refine⟨?_,?_,(Wv hp h).1⟩
 .have:=congrArg FV h;rw[AR,Bt,Bt,Ei,EZ,AR]at this;omega
 .rw[h];rw[RC]at pm;have e1:a.toList=a.toList.take p++(a.toList.drop p).take m.length++a.toList.drop (p+m.length):=by
   rw[CC,<-Hl,C4,C4]
  refine G2 ?_ (FY e1.symm);exact Iu (Iu (JA _) pm) (JA _)
theorem pH(h:k<m.length):(m[k]?).getD (AI,AI)∈m:=by
 rw[AC h];exact C8 h
theorem uQ(hm:m.Pairwise (leK lt)){k':Ae}(h:k<k')(h':k'<m.length):leK lt ((m[k]?).getD (AI,AI)) ((m[k']?).getD (AI,AI)):=by
 rw[AC h',AC (Yw h h')];exact(BO.mp hm) k k' _ _ h
theorem qV{f:Au Av->EK A4 DZ α}{H:Au Av->A4->Prop}{m:EK A4 DZ α}{Q:α->A4->Prop}(J:∀ o st',H o st'->Bs M A E s (f o) Q st')(main:(∀ o st',H o st'->Bs M A E s (f o) Q st')->Bs M A E s m Q st):Bs M A E s m Q st:=main J
theorem mL{x:A4}{Q:IY->A4->Prop}(h:Q ⟨⟩ x):Bs M A E s (set x:EK A4 DZ IY) Q st:=ER (f:=λ_=>x) h
theorem vL(O:OrdK V lt)(va:∀ i,i<hi->V (ka0 a i))(sa:Srt lt a lo hi)(vk:V key)(h:i<=k)(hk:lo+k<hi)(hb:byd lt Af key (ka0 a (lo+k))=Aa):byd lt Af key (ka0 a (lo+i))=Aa:=by
 by_cases e:i=k
 .rw[e];exact hb
 .have l:=sa (lo+i) (lo+k) (by omega) (by omega) hk
  have hb':lt key (ka0 a (lo+k))=Af:=by simpa [byd] using hb
  have:=O.trans (va _ (by omega)) (va _ hk) vk l hb'
  simpa [byd] using this
theorem pY(O:OrdK V lt)(va:∀ i,i<hi->V (ka0 a i))(sa:Srt lt a lo hi)(vk:V key)(h:i<=k)(hk:lo+k<hi)(hb:byd lt Aa key (ka0 a (lo+k))=Aa):byd lt Aa key (ka0 a (lo+i))=Aa:=by
 by_cases e:i=k
 .rw[e];exact hb
 .have l:=sa (lo+i) (lo+k) (by omega) (by omega) hk
  have hb':lt (ka0 a (lo+k)) key=Aa:=by simpa [byd] using hb
  show byd lt Aa key (ka0 a (lo+i))=Aa;cases q:lt (ka0 a (lo+i)) key with
  |true=>simpa [byd] using q
  |false=>
   have:=O.trans vk (va _ (show lo+i<hi by omega)) (va _ hk) q l
   rw[this]at hb';cases hb'
theorem fC(C:IR M A s κ V lt)(O:OrdK V lt){sa na pw sb nb pw2:Ae}(h1:(Bq st)[i]?=Ab (sa,na,pw))(h2:(Bq st)[i+1]?=Ab (sb,nb,pw2))(hc:sa+na=sb)(hn:0<na)(hm:0<nb)(hs:sb+nb<=(AA st).size)(s1:Srt lt (AA st) sa sb)(s2:Srt lt (AA st) sb (sb+nb))(hv:∀ x∈(AA st).toList,V x)(hk:kindOf st=κ)(hf:Ej st=Ad)(q:∀ st',kindOf st'=κ->Ej st'=Ad->Bq st'=((Bq st).setIfInBounds i (sa,na+nb,pw)).eraseIdxIfInBounds (i+1)->Upd (AA st) (AA st') sa (sb+nb)->Srt lt (AA st') sa (sb+nb)->Q Aa st'):Bs M A E s (Uc i) Q st:=by
 have va:∀ {i},i<(AA st).size->V (ka0 (AA st) i):=λh=>hv _ (Jl h)
 refine Az (Gf ?_);show Bs M A E s (match ((Bq st)[i]?,(Bq st)[i+1]?) with|(Ab (sa,na,power),Ab (sb,nb,snd))=>_|x=>_) _ _
 rw[h1,h2];dsimp -zeta only;refine Az (mL ?_);refine Az (Ed (show sb<(AA st).size by omega) ?_)
 refine Az (Lg C hk (va (show sb<(AA st).size by omega)) (show sa+na<=(AA st).size by omega) (λi hi=>va (by omega)) hn (λi j h1 h2 h3=>vL O (λi h=>va (i:=i) (by omega)) s1 (va (show sb<(AA st).size by omega)) h1 (by omega) h3) λc hc'=>?_)
 obtain⟨k1,k2,k3⟩:=RG hc';have bsz:sb<(AA st).size:=by omega
 dsimp -zeta only;by_cases d1:(na-c==0)=Aa
 .rw[Ar d1];have d1:na-c=0:=by simpa using d1
  refine AE (q _ hk hf rfl Upd.rfl' λi j h1 h2 h3=>?_)
  by_cases hj:j<sb
  .exact s1 i j h1 h2 hj
  .by_cases hi:sb<=i
   .exact s2 i j hi h2 h3
   .have l1:=k2 (i-sa) (by omega)
    rw[show sa+(i-sa)=i by omega]at l1
    by_cases e:j=sb
    .rw[e];exact l1
    .exact O.trans (va (by omega)) (va bsz) (va (by omega)) l1 (s2 sb j (Ay _) (by omega) h3)
 rw[As d1];have d1:¬ na-c=0:=by simpa using d1
 have ek:sa+c+(na-c)-1=sb-1:=by omega
 have bs1:sb-1<(AA st).size:=by omega
 refine Az (Ed (show sa+c+(na-c)-1<(AA st).size by omega) ?_)
 rw[ek];refine Az (Lg C hk (va bs1) (show sb+nb<=(AA st).size by omega) (λi hi=>va (by omega)) (show nb-1<nb by omega) (λi j h1 h2 h3=>pY O (λi h=>va (i:=i) (by omega)) s2 (va bs1) h1 (by omega) h3) λc' hc2=>?_)
 obtain⟨q1,q2,q3⟩:=OU hc2;dsimp -zeta only;by_cases d2:(c'==0)=Aa
 .rw[Ar d2];have d2:c'=0:=by simpa using d2
  refine AE (q _ hk hf rfl Upd.rfl' λi j h1 h2 h3=>?_)
  by_cases hj:j<sb
  .exact s1 i j h1 h2 hj
  .by_cases hi:sb<=i
   .exact s2 i j hi h2 h3
   .have l1:=q3 (j-sb) (by omega) (by omega)
    rw[show sb+(j-sb)=j by omega]at l1
    by_cases e:i=sb-1
    .rw[e];exact l1
    .exact O.trans (va (by omega)) (va bs1) (va (by omega)) (s1 i (sb-1) h1 (by omega) (by omega)) l1
 rw[As d2];have d2:¬ c'=0:=by simpa using d2
 extract_lets X Y_ jp
 have K3:∀ i,sa+c<=i->i<sb->lt (ka0 (AA st) sb) (ka0 (AA st) i)=Aa:=λi h h'=>by
  have:=k3 (i-sa) (by omega) (by omega)
  rwa [show sa+(i-sa)=i by omega]at this
 have K2:∀ i,sa<=i->i<sa+c->leK lt (ka0 (AA st) i) (ka0 (AA st) sb):=λi h h'=>by
  have:=k2 (i-sa) (by omega)
  rwa [show sa+(i-sa)=i by omega]at this
 have Q2:∀ i,sb<=i->i<sb+c'->lt (ka0 (AA st) i) (ka0 (AA st) (sb-1))=Aa:=λi h h'=>by
  have:=q2 (i-sb) (by omega)
  rwa [show sb+(i-sb)=i by omega]at this
 have Q3:∀ i,sb+c'<=i->i<sb+nb->leK lt (ka0 (AA st) (sb-1)) (ka0 (AA st) i):=λi h h'=>by
  have:=q3 (i-sb) (by omega) (by omega)
  rwa [show sb+(i-sb)=i by omega]at this
 have zX:X.size=sb-(sa+c):=by show ((AA st).extract (sa+c) sb).size=_;rw[Ff];omega
 have zY:Y_.size=c':=by show ((AA st).extract sb (sb+c')).size=_;rw[Ff];omega
 have z1:sb<=(AA st).size:=by omega
 have z2:sb+c'<=(AA st).size:=by omega
 have P:Pre V lt X Y_:=by
  refine⟨λx hx=>?_,λx hx=>?_,Vx z1 λi j h1 h2 h3=>s1 i j (by omega) h2 h3,Vx z2 λi j h1 h2 h3=>s2 i j h1 h2 (by omega),by omega,by omega,λx hx=>?_,λy hy=>?_⟩
  .obtain⟨i,_,_,rfl⟩:=L8 z1 hx;exact va (by omega)
  .obtain⟨i,_,_,rfl⟩:=L8 z2 hx;exact va (by omega)
  .obtain⟨i,g1,g2,rfl⟩:=L8 z1 hx;have e:ka0 Y_ 0=ka0 (AA st) (sb+0):=Wi z2 (by omega)
   rw[e,G5];exact O.asymm (va bsz) (va (by omega)) (K3 i g1 g2)
  .obtain⟨i,g1,g2,rfl⟩:=L8 z2 hy;have e:ka0 X (X.size-1)=ka0 (AA st) (sa+c+(X.size-1)):=Wi z1 (by omega)
   rw[e,show sa+c+(X.size-1)=sb-1 by omega]
   exact O.asymm (va (by omega)) (va bs1) (Q2 i g1 g2)
 refine qV (f:=jp) (H:=λmg st2=>SPk lt (X.toList++Y_.toList) mg.toList/\Gb κ (setPending st (((Bq st).setIfInBounds i (sa,na+nb,pw)).eraseIdxIfInBounds (i+1))) st2) (λmg st2 hH=>?_) (λJ=>?_)
 .obtain⟨⟨pm,so⟩,sk,sar,sp,sf⟩:=hH;have sar:AA st2=AA st:=sar;have sf:Ej st2=Ad:=sf.trans hf;have lm:mg.toList.length=sb+c'-(sa+c):=by
   rw[pm.length_eq,Bt,AR,AR];omega
  have wl:=UV (sa+c) mg.toList 0 (AA st) (by omega)
  rw[G5]at wl;have pm':mg.toList.Perm ((AA st).extract (sa+c) (sb+c')).toList:=by
   refine pm.trans (FY ?_);show ((AA st).extract (sa+c) sb).toList++((AA st).extract sb (sb+c')).toList=_;rw[<-Bm,Array.extract_append_extract]
   congr 2<;>omega
  refine Az (ER ?_);refine Az (Gf ?_);have U_:=rB (e:=sb+c') (by omega) (by omega) wl pm'
  obtain⟨w1,w2⟩:=Wv (by omega) wl
  generalize hA:(mg.toList.zipIdx.foldl (λa x=>a.setIfInBounds (sa+c+x.2) x.1) (AA st))=a' at U_ w1 w2
  have hm:∀ i,sa+c<=i->i<sb+c'->(∃ j,sa+c<=j/\j<sb/\ka0 a' i=ka0 (AA st) j)\/∃ j,sb<=j/\j<sb+c'/\ka0 a' i=ka0 (AA st) j:=λi h h'=>by
   have g:ka0 a' i∈mg.toList:=by rw[w2 i h (by omega)];exact pH (by omega)
   rcases DC.mp (pm.mem_iff.mp g) with g|g
   .exact .inl (L8 z1 g)
   .exact .inr (L8 z2 g)
  have S:Srt lt a' sa (sb+nb):=λi j h1 h2 h3=>by
   by_cases i1:i<sa+c
   .rw[w1 i (by omega)]
    by_cases j1:j<sa+c
    .rw[w1 j (by omega)];exact s1 i j h1 h2 (by omega)
    .by_cases j2:j<sb+c'
     .rcases hm j (by omega) j2 with ⟨l,g1,g2,g3⟩|⟨l,g1,g2,g3⟩
      .rw[g3];exact s1 i l h1 (by omega) g2
      .rw[g3];by_cases e:l=sb
       .rw[e];exact K2 i h1 i1
       .exact O.trans (va (by omega)) (va bsz) (va (by omega)) (K2 i h1 i1) (s2 sb l (Ay _) (by omega) (by omega))
     .rw[w1 j (by omega)]
      exact O.trans (va (by omega)) (va bsz) (va (by omega)) (K2 i h1 i1) (s2 sb j (Ay _) (by omega) (by omega))
   .by_cases i2:i<sb+c'
    .by_cases j2:j<sb+c'
     .rw[w2 i (by omega) (by omega),w2 j (by omega) (by omega)]
      exact uQ so (by omega) (by omega)
     .rw[w1 j (by omega)]
      rcases hm i (by omega) i2 with ⟨l,g1,g2,g3⟩|⟨l,g1,g2,g3⟩
      .rw[g3];by_cases e:l=sb-1
       .rw[e];exact Q3 j (by omega) h3
       .exact O.trans (va (by omega)) (va bs1) (va (by omega)) (s1 l (sb-1) (by omega) (by omega) (by omega)) (Q3 j (by omega) h3)
      .rw[g3];exact s2 l j g1 (by omega) h3
    .rw[w1 i (by omega),w1 j (by omega)]
     exact s2 i j (by omega) h2 h3
  rw[<-sar]at hA;refine AE ?_;show Q (Ej st2).isNone _;rw[sf];refine q _ sk sf sp ?_ ?_
  .show Upd (AA st) (mg.toList.zipIdx.foldl (λa x=>a.setIfInBounds (sa+c+x.2) x.1) (AA st2)) _ _
   rw[hA];exact U_.mono (by omega) (by omega)
  .show Srt lt (mg.toList.zipIdx.foldl (λa x=>a.setIfInBounds (sa+c+x.2) x.1) (AA st2)) _ _
   rw[hA];exact S
 .refine He ?_ ?_
  .exact Az (fA C O P hk λr st' sp ss=>J r st' ⟨sp,ss⟩)
  .exact Az (fB C O P hk λr st' sp ss=>J r st' ⟨sp,ss⟩)
end
section
variable{M:E6}{A:AV}{E:Vq}{s:Ap}{κ:E2}{V:Av->Prop}{lt:Av->Av->Aj}
structure BS (κ:E2) (a0:Au Av) (p:Au (Ae×Ae×Ae)) (lo hi:Ae) (st:A4):Prop where
 kd:kindOf st=κ
 fl:Ej st=Ad
 pd:Bq st=p
 up:Upd a0 (AA st) lo hi
variable{a0:Au Av}{p:Au (Ae×Ae×Ae)}{lo hi:Ae}
theorem BS.v(B:BS κ a0 p lo hi st)(hv:∀ x∈a0.toList,V x)(h:i<a0.size):V (ka0 (AA st) i):=hv _ (B.up.pm.mem_iff.mp (Jl (by rw[B.up.sz];exact h)))
theorem LX(C:IR M A s κ V lt){Q:Ao Aj->A4->Prop}(B:BS κ a0 p lo hi st)(hv:∀ x∈a0.toList,V x)(h1:i<a0.size)(h2:j<a0.size)(q:Q (Ab (lt (ka0 (AA st) i) (ka0 (AA st) j))) st):Bs M A E s (ltAt' i j) Q st:=by
 rw[ltAt'_eq];refine Az (Gf ?_);refine Az (Ed (by rw[B.up.sz];exact h1) ?_)
 refine Az (Ed (by rw[B.up.sz];exact h2) ?_)
 exact C _ _ _ _ _ B.kd (B.v hv h1) (B.v hv h2) q
theorem NK(a:Au Av)(i:Ae):ka0 a i=(a[i]?).getD (AI,AI):=by
 unfold ka0;rw[Bz]
theorem Wj{src:Ae}(hs:src<a.size)(hd:d<=src)(k:Ae):ka0 (bubble a src d) k=if k=src-d then ka0 a src else if src-d<k/\k<=src then ka0 a (k-1) else ka0 a k:=by
 rw[NK,getElem?_bubble hs d hd];split
 .rw[NK]
 .split<;>rw[NK]
theorem Nt(hj:j<=a.size)(k:Ae):ka0 (mirror a i j ((j-i)/2)) k=if i<=k/\k<j then ka0 a (i+j-1-k) else ka0 a k:=by
 rw[NK,getElem?_mirror_all hj];split<;>rw[NK]
theorem pC{src:Ae}(hs:src<a.size)(hd:d<=src):Upd a (bubble a src d) (src-d) (src+1):=⟨bubble_size ..,Xy.mp (bubble_perm ..),λi h=>by rw[Wj hs hd,As (by omega),As (by omega)]⟩
theorem pZ(hj:j<=a.size):Upd a (mirror a i j ((j-i)/2)) i j:=⟨mirror_size ..,Xy.mp (mirror_perm ..),λk h=>by rw[Nt hj,As (by omega)]⟩
theorem eK(C:IR M A s κ V lt)(O:OrdK V lt)(hv:∀ x∈a0.toList,V x){ok:Ae}(B:BS κ a0 p lo hi st)(h1:1<=ok)(h2:ok<=n)(h3:lo+n<=hi)(h4:hi<=a0.size)(so:Srt lt (AA st) lo (lo+ok))(q:∀ st',BS κ a0 p lo hi st'->Srt lt (AA st') lo (lo+n)->Q Aa st'):Bs M A E s (binarySort' lo n ok) Q st:=by
 rw[binarySort'_eq];refine Az (Db (Q:=λx st'=>x.1=Ad/\BS κ a0 p lo hi st'/\Srt lt (AA st') lo (lo+n)) (BW (λk x st'=>x.1=Ad/\BS κ a0 p lo hi st'/\Srt lt (AA st') lo (lo+k)) (λk x st' g1 g2 hI=>?_) (λx st' hI=>?_) ⟨rfl,B,by rw[show max ok 1=ok by omega];exact so⟩) λx st' hP=>?_)
 .obtain⟨hx,B',S⟩:=hI;have va:∀ {i},i<a0.size->V (ka0 (AA st') i):=λh=>B'.v hv h
  have hk:lo+k<a0.size:=by omega
  extract_lets l0 r0
  refine Az (Db (Q:=λy st''=>st'=st''/\y.1=Ad/\Mo (λj=>!lt (ka0 (AA st') (lo+k)) (ka0 (AA st') (lo+j))) k y.2.1) (BW (λi y st''=>st'=st''/\y.1=Ad/\y.2.1<=y.2.2/\y.2.2<=k/\y.2.2-y.2.1<=k-i/\(∀ j,j<y.2.1->lt (ka0 (AA st') (lo+k)) (ka0 (AA st') (lo+j))=Af)/\(∀ j,y.2.2<=j->j<k->lt (ka0 (AA st') (lo+k)) (ka0 (AA st') (lo+j))=Aa)) (λi y st'' _ hi hJ=>?_) (λy st'' hJ=>?_) ⟨rfl,rfl,BK _,Ay _,by show k-0<=k-0;omega,λj h=>absurd (show j<0 from h) (by omega),λj h h'=>by have:k<=j:=h;omega⟩) λy st'' hP=>?_)
  .obtain⟨rfl,b1,b2,b3,b4,b5,b6⟩:=hJ;obtain⟨y1,l,r⟩:=y;dsimp only at b1 b2 b3 b4 b5 b6;subst b1
   try extract_lets
   show Bs M A E s (if l ≥ r then _ else _) _ _
   by_cases hl:l ≥ r
   .rw[Ar hl];exact AE ⟨rfl,rfl,by show l<=k;omega,λj h=>by simpa using b5 j h,λj h h'=>by have:=b6 j (by have:l<=j:=h;omega) h';simpa using this⟩
   rw[As hl]
   try extract_lets
   refine Az (LX C (j:=lo+(l+r)/2) B' hv hk (by omega) ?_)
   show Bs M A E s (if lt (ka0 (AA st') (lo+k)) (ka0 (AA st') (lo+(l+r)/2))=Aa then _ else _) _ _
   by_cases e:lt (ka0 (AA st') (lo+k)) (ka0 (AA st') (lo+(l+r)/2))=Aa
   .rw[Ar e];refine AE ⟨rfl,rfl,by show l<=(l+r)/2;omega,by show (l+r)/2<=k;omega,by show (l+r)/2-l<=k-(i+1);omega,b5,λj h h'=>?_⟩
    have h:(l+r)/2<=j:=h;cases e':lt (ka0 (AA st') (lo+k)) (ka0 (AA st') (lo+j)) with
    |true=>rfl
    |false=>
     by_cases ej:j=(l+r)/2
     .rw[ej,e]at e';cases e'
     .have:=O.trans (va (show lo+(l+r)/2<a0.size by omega)) (va (show lo+j<a0.size by omega)) (va hk) (S (lo+(l+r)/2) (lo+j) (by omega) (by omega) (by omega)) e'
      rw[this]at e;cases e
   .rw[As e];have e:lt (ka0 (AA st') (lo+k)) (ka0 (AA st') (lo+(l+r)/2))=Af:=by simpa using e
    refine AE ⟨rfl,rfl,by show (l+r)/2+1<=r;omega,b3,by show r-((l+r)/2+1)<=k-(i+1);omega,λj h=>?_,b6⟩
    have h:j<(l+r)/2+1:=h;by_cases ej:j=(l+r)/2
    .rw[ej];exact e
    .exact O.trans (va (show lo+j<a0.size by omega)) (va (show lo+(l+r)/2<a0.size by omega)) (va hk) (S (lo+j) (lo+(l+r)/2) (by omega) (by omega) (by omega)) e
  .obtain⟨rfl,b1,b2,b3,b4,b5,b6⟩:=hJ;rw[Et]at b4;exact⟨rfl,b1,by omega,λj h=>by simpa using b5 j h,λj h h'=>by have:=b6 j (by omega) h';simpa using this⟩
  .obtain⟨rfl,b1,c1,c2,c3⟩:=hP;obtain⟨y1,l,r⟩:=y;dsimp only at b1 c1 c2 c3;subst b1
   try extract_lets
   have hsz:lo+k<(AA st').size:=by rw[B'.up.sz];exact hk
   have ab:=Wj hsz (show lo+k-(lo+l)<=lo+k by omega)
   have ub:=pC hsz (show lo+k-(lo+l)<=lo+k by omega)
   rw[show lo+k-(lo+k-(lo+l))=lo+l by omega]at ab ub
   refine Az (m:=moveDown' (lo+k) (lo+l)) ?_;rw[moveDown'_eq];refine ER (AE ⟨rfl,⟨B'.kd,B'.fl,B'.pd,B'.up.trans (ub.mono (by omega) (by omega))⟩,?_⟩)
   show Srt lt (bubble (AA st') (lo+k) (lo+k-(lo+l))) lo (lo+(k+1));have c2:∀ j,j<l->lt (ka0 (AA st') (lo+k)) (ka0 (AA st') (lo+j))=Af:=λj h=>by simpa using c2 j h
   have c3:∀ j,l<=j->j<k->lt (ka0 (AA st') (lo+k)) (ka0 (AA st') (lo+j))=Aa:=λj h h'=>by simpa using c3 j h h'
   have P1:∀ i,lo<=i->i<lo+l->leK lt (ka0 (AA st') i) (ka0 (AA st') (lo+k)):=λi h h'=>by
    have:=c2 (i-lo) (by omega)
    rwa [show lo+(i-lo)=i by omega]at this
   have P2:∀ i,lo+l<=i->i<lo+k->leK lt (ka0 (AA st') (lo+k)) (ka0 (AA st') i):=λi h h'=>by
    have:=c3 (i-lo) (by omega) (by omega)
    rw[show lo+(i-lo)=i by omega]at this
    exact O.asymm (va hk) (va (by omega)) this
   intro i j g3 g4 g5;rw[ab,ab];by_cases i1:i<lo+l
   .rw[As (show ¬ i=lo+l by omega),As (show ¬ (lo+l<i/\i<=lo+k) by omega)]
    by_cases j1:j<lo+l
    .rw[As (show ¬ j=lo+l by omega),As (show ¬ (lo+l<j/\j<=lo+k) by omega)]
     exact S i j g3 g4 (by omega)
    .by_cases j2:j=lo+l
     .rw[Ar j2];exact P1 i g3 i1
     .rw[As j2,Ar (show lo+l<j/\j<=lo+k by omega)]
      exact S i (j-1) g3 (by omega) (by omega)
   .by_cases i2:i=lo+l
    .rw[Ar i2,As (show ¬ j=lo+l by omega),Ar (show lo+l<j/\j<=lo+k by omega)]
     exact P2 (j-1) (by omega) (by omega)
    .rw[As i2,Ar (show lo+l<i/\i<=lo+k by omega),As (show ¬ j=lo+l by omega),Ar (show lo+l<j/\j<=lo+k by omega)]
     exact S (i-1) (j-1) (by omega) (by omega) (by omega)
 .obtain⟨hx,B',S⟩:=hI;exact⟨hx,B',λi j h h' h''=>S i j h h' (by omega)⟩
 .obtain⟨hx,B',S⟩:=hP;obtain⟨x1,x2⟩:=x;have hx:x1=Ad:=hx;subst hx;exact AE (q _ B' S)
end
section
variable{M:E6}{A:AV}{E:Vq}{s:Ap}{κ:E2}{V:Av->Prop}{lt:Av->Av->Aj}
variable{a0:Au Av}{p:Au (Ae×Ae×Ae)}{lo hi:Ae}
theorem Op{f:IY->EK A4 DZ α}{H:A4->Prop}{m:EK A4 DZ α}{Q:α->A4->Prop}(J:∀ st',H st'->Bs M A E s (f ⟨⟩) Q st')(main:(∀ st',H st'->Bs M A E s (f ⟨⟩) Q st')->Bs M A E s m Q st):Bs M A E s m Q st:=main J
def Dec(lt:Av->Av->Aj)(a:Au Av)(lo hi:Ae):Prop:=∀ i j,lo<=i->i<j->j<hi->leK lt (ka0 a j) (ka0 a i)
def Eqs(lt:Av->Av->Aj)(a:Au Av)(lo hi:Ae):Prop:=∀ i j,lo<=i->i<hi->lo<=j->j<hi->leK lt (ka0 a i) (ka0 a j)
theorem Srt.one:Srt lt a lo (lo+1):=λi j h1 h2 h3=>by omega
theorem Srt.snoc(O:OrdK V lt)(v:∀ i,i<hi->V (ka0 a i))(hk:k<hi)(h0:lo<k)(S:Srt lt a lo k)(h:leK lt (ka0 a (k-1)) (ka0 a k)):Srt lt a lo (k+1):=λi j h1 h2 h3=>by
 by_cases e:j=k
 .subst e;by_cases e':i=j-1
  .rw[e'];exact h
  .exact O.trans (v i (by omega)) (v (j-1) (by omega)) (v j hk) (S i (j-1) h1 (by omega) (by omega)) h
 .exact S i j h1 h2 (by omega)
theorem Dec.snoc(O:OrdK V lt)(v:∀ i,i<hi->V (ka0 a i))(hk:k<hi)(h0:lo<k)(S:Dec lt a lo k)(h:leK lt (ka0 a k) (ka0 a (k-1))):Dec lt a lo (k+1):=λi j h1 h2 h3=>by
 by_cases e:j=k
 .subst e;by_cases e':i=j-1
  .rw[e'];exact h
  .exact O.trans (v j hk) (v (j-1) (by omega)) (v i (by omega)) h (S i (j-1) h1 (by omega) (by omega))
 .exact S i j h1 h2 (by omega)
theorem Eqs.snoc(O:OrdK V lt){q:Ae}(v:∀ i,i<hi->V (ka0 a i))(hk:k<hi)(h0:q<k)(S:Eqs lt a q k)(hr:leK lt (ka0 a k) (ka0 a k))(h:leK lt (ka0 a k) (ka0 a (k-1)))(h':leK lt (ka0 a (k-1)) (ka0 a k)):Eqs lt a q (k+1):=λi j h1 h2 h3 h4=>by
 by_cases e:j=k
 .by_cases e':i=k
  .rw[e,e'];exact hr
  .rw[e];exact O.trans (v i (by omega)) (v (k-1) (by omega)) (v k hk) (S i (k-1) h1 (by omega) (by omega) (by omega)) h'
 .by_cases e':i=k
  .rw[e'];exact O.trans (v k hk) (v (k-1) (by omega)) (v j (by omega)) h (S (k-1) j (by omega) (by omega) h3 (by omega))
  .exact S i j h1 (by omega) h3 (by omega)
theorem Eqs.one(hr:leK lt (ka0 a k) (ka0 a k)):Eqs lt a k (k+1):=λi j h1 h2 h3 h4=>by
 rw[show i=k by omega,show j=k by omega];exact hr
theorem OrdK.refl(O:OrdK V lt)(v:V x):leK lt x x:=by
 cases e:lt x x with
 |false=>exact e
 |true=>exact O.asymm v v e
theorem Dec.mir{b:Ae}(he:e<=a.size)(D:Dec lt a lo hi)(S:Eqs lt a b e)(h1:lo<=b)(h2:e<=hi):Dec lt (mirror a b e ((e-b)/2)) lo hi:=λi j g1 g2 g3=>by
 rw[Nt he,Nt he];by_cases i1:b<=i/\i<e
 .rw[Ar i1];by_cases j1:b<=j/\j<e
  .rw[Ar j1];exact S _ _ (by omega) (by omega) (by omega) (by omega)
  .rw[As j1];exact D _ _ (by omega) (by omega) g3
 .rw[As i1];by_cases j1:b<=j/\j<e
  .rw[Ar j1];exact D _ _ g1 (by omega) (by omega)
  .rw[As j1];exact D _ _ g1 g2 g3
theorem Dec.flip(he:e<=a.size)(D:Dec lt a lo e):Srt lt (mirror a lo e ((e-lo)/2)) lo e:=λi j g1 g2 g3=>by
 rw[Nt he,Nt he,Ar (by omega),Ar (by omega)]
 exact D _ _ (by omega) (by omega) (by omega)
theorem Oo{b:Ae}{Q:Gx->A4->Prop}(B:BS κ a0 p lo hi st)(h1:lo<=b)(h2:e<=hi)(h3:e<=a0.size)(q:∀ st',BS κ a0 p lo hi st'->AA st'=mirror (AA st) b e ((e-b)/2)->Q ⟨⟩ st'):Bs M A E s (reverseSlice' b e) Q st:=by
 rw[reverseSlice'_eq];exact ER (q _ ⟨B.kd,B.fl,B.pd,B.up.trans ((pZ (by rw[B.up.sz];exact h3)).mono h1 h2)⟩ rfl)
theorem jI(C:IR M A s κ V lt)(O:OrdK V lt)(hv:∀ x∈a0.toList,V x){nrem:Ae}{Q:Ao Ae->A4->Prop}(B:BS κ a0 p lo hi st)(h1:1<=nrem)(h3:lo+nrem<=hi)(h4:hi<=a0.size)(q:∀ n st',1<=n->n<=nrem->BS κ a0 p lo hi st'->Srt lt (AA st') lo (lo+n)->Q (Ab n) st'):Bs M A E s (countRun' lo nrem) Q st:=by
 rw[countRun'_eq]
 extract_lets n0
 refine Az (Db (Q:=λx st'=>st=st'/\x.1=Ad/\1<=x.2/\x.2<=nrem/\Srt lt (AA st) lo (lo+x.2)/\(x.2<nrem->lt (ka0 (AA st) (lo+x.2)) (ka0 (AA st) (lo+x.2-1))=Aa)) (BW (λi x st'=>st=st'/\x.1=Ad/\x.2=i/\Srt lt (AA st) lo (lo+i)) (λi x st' g1 g2 hI=>?_) (λx st' hI=>?_) ⟨rfl,rfl,rfl,Srt.one⟩) λx st' hP=>?_)
 .obtain⟨rfl,b1,b2,S⟩:=hI;obtain⟨x1,n⟩:=x;have b2:n=i:=b2;subst b2
  try extract_lets
  refine Az (LX C B hv (show lo+n<a0.size by omega) (show lo+n-1<a0.size by omega) ?_)
  show Bs M A E s (if lt (ka0 (AA st) (lo+n)) (ka0 (AA st) (lo+n-1))=Aa then _ else _) _ _
  by_cases e:lt (ka0 (AA st) (lo+n)) (ka0 (AA st) (lo+n-1))=Aa
  .rw[Ar e];exact AE ⟨rfl,rfl,g1,by show n<=nrem;omega,S,λ_=>e⟩
  .rw[As e];exact AE ⟨rfl,rfl,rfl,Srt.snoc O (hi:=a0.size) (k:=lo+n) (λi h=>B.v hv h) (by omega) (by omega) S (by simpa [leK] using e)⟩
 .obtain⟨rfl,b1,b2,S⟩:=hI;rw[show max 1 nrem=nrem by omega]at b2 S
  exact⟨rfl,b1,by omega,by omega,by rw[b2];exact S,λh=>by omega⟩
 obtain⟨rfl,b1,b2,b3,S,b4⟩:=hP;obtain⟨x1,n⟩:=x;dsimp only at b1 b2 b3 S b4;subst b1
 try extract_lets
 show Bs M A E s (if (n==nrem)=Aa then _ else _) _ _
 by_cases e0:(n==nrem)=Aa
 .rw[Ar e0];exact AE (q n _ b2 b3 B S)
 rw[As e0];have e0:¬ n=nrem:=by simpa using e0
 have b4:=b4 (by omega)
 rename_i jp _;have hsz:(AA st).size=a0.size:=B.up.sz;refine Op (f:=jp) (H:=λst'=>BS κ a0 p lo hi st'/\Dec lt (AA st') lo (lo+n+1)) (λst1 hH=>?_) (λJ=>?_)
 .obtain⟨B1,D1⟩:=hH;refine Az (LW ?_)
  extract_lets n1 neq0
  refine Az (Db (Q:=λx st'=>x.1=Ad/\1<=x.2.1/\x.2.1<=nrem/\BS κ a0 p lo hi st'/\Dec lt (AA st') lo (lo+x.2.1)/\x.2.2+1<=x.2.1/\Eqs lt (AA st') (lo+x.2.1-(x.2.2+1)) (lo+x.2.1)) (BW (λi x st'=>x.1=Ad/\x.2.1=i/\BS κ a0 p lo hi st'/\Dec lt (AA st') lo (lo+i)/\x.2.2+1<=i/\Eqs lt (AA st') (lo+i-(x.2.2+1)) (lo+i)) (λi x st' g1 g2 hI=>?_) (λx st' hI=>?_) ⟨rfl,rfl,B1,D1,by show 0+1<=n+1;omega,Eqs.one (O.refl (B1.v hv (by omega)))⟩) λx st' hP=>?_)
  .obtain⟨c1,c2,B2,D2,c3,e2⟩:=hI;obtain⟨x1,m,neq⟩:=x;have c2:m=i:=c2;subst c2;have c3:neq+1<=m:=c3;have e2:Eqs lt (AA st') (lo+m-(neq+1)) (lo+m):=e2;have g1:n+1<=m:=g1;have z2:(AA st').size=a0.size:=B2.up.sz;have v2:∀ i,i<a0.size->V (ka0 (AA st') i):=λi h=>B2.v hv h
   try extract_lets
   refine Az (LX C B2 hv (show lo+m<a0.size by omega) (show lo+m-1<a0.size by omega) ?_)
   try dsimp -zeta only
   try extract_lets
   by_cases e:lt (ka0 (AA st') (lo+m)) (ka0 (AA st') (lo+m-1))=Aa
   .rw[Ar e];have D3:=Dec.snoc O v2 (show lo+m<a0.size by omega) (by omega) D2 (O.asymm (v2 _ (by omega)) (v2 _ (by omega)) e)
    rename_i jp2 _;refine Op (f:=jp2) (H:=λst'=>BS κ a0 p lo hi st'/\Dec lt (AA st') lo (lo+m+1)) (λst3 hH=>?_) (λJ=>?_)
    .obtain⟨B3,D3⟩:=hH;exact AE ⟨rfl,rfl,B3,D3,by show 0+1<=m+1;omega,Eqs.one (O.refl (B3.v hv (by omega)))⟩
    .refine He ?_ ?_
     .refine Az (Oo (b:=lo+m-(neq+1)) (e:=lo+m) B2 (by omega) (by omega) (by omega) λst3 B3 e3=>?_)
      refine J st3 ⟨B3,?_⟩;rw[e3];exact D3.mir (by omega) e2 (by omega) (by omega)
     .exact J _ ⟨B2,D3⟩
   .rw[As e];have e:lt (ka0 (AA st') (lo+m)) (ka0 (AA st') (lo+m-1))=Af:=by simpa using e
    refine Az (LX C B2 hv (show lo+m-1<a0.size by omega) (show lo+m<a0.size by omega) ?_)
    show Bs M A E s (if lt (ka0 (AA st') (lo+m-1)) (ka0 (AA st') (lo+m))=Aa then _ else _) _ _
    by_cases f:lt (ka0 (AA st') (lo+m-1)) (ka0 (AA st') (lo+m))=Aa
    .rw[Ar f];exact AE ⟨rfl,by show 1<=m;omega,by show m<=nrem;omega,B2,D2,c3,e2⟩
    .rw[As f];have f:lt (ka0 (AA st') (lo+m-1)) (ka0 (AA st') (lo+m))=Af:=by simpa using f
     refine AE ⟨rfl,rfl,B2,Dec.snoc O (k:=lo+m) v2 (show lo+m<a0.size by omega) (by omega) D2 f,by show neq+1+1<=m+1;omega,?_⟩
     show Eqs lt (AA st') (lo+(m+1)-(neq+1+1)) (lo+m+1);rw[show lo+(m+1)-(neq+1+1)=lo+m-(neq+1) by omega]
     exact Eqs.snoc O v2 (by omega) (by omega) e2 (O.refl (v2 _ (by omega))) f e
  .obtain⟨c1,c2,B2,D2,c3,e2⟩:=hI;have em:max (n+1) nrem=nrem:=by omega
   have c2:x.2.1=max (n+1) nrem:=c2;have D2:Dec lt (AA st') lo (lo+max (n+1) nrem):=D2;have c3:x.2.2+1<=max (n+1) nrem:=c3;have e2:Eqs lt (AA st') (lo+max (n+1) nrem-(x.2.2+1)) (lo+max (n+1) nrem):=e2;rw[<-c2]at D2 c3 e2;exact⟨c1,by omega,by omega,B2,D2,c3,e2⟩
  .obtain⟨c1,c2,c4,B2,D2,c3,e2⟩:=hP;obtain⟨x1,m,neq⟩:=x;dsimp only at c1 c2 c3 c4 D2 e2;subst c1;have z2:(AA st').size=a0.size:=B2.up.sz
   try dsimp -zeta only
   try extract_lets
   try dsimp -zeta only
   rename_i jp3;refine Op (f:=jp3) (H:=λst'=>BS κ a0 p lo hi st'/\Dec lt (AA st') lo (lo+m)) (λst3 hH=>?_) (λJ=>?_)
   .obtain⟨B3,D3⟩:=hH;have z3:(AA st3).size=a0.size:=B3.up.sz;refine Az (Oo (b:=lo) (e:=lo+m) B3 (Ay _) (by omega) (by omega) λst4 B4 e4=>?_)
    have S4:Srt lt (AA st4) lo (lo+m):=by rw[e4];exact D3.flip (by omega)
    refine Az (Db (Q:=λx st'=>st4=st'/\x.1=Ad/\1<=x.2/\x.2<=nrem/\Srt lt (AA st4) lo (lo+x.2)) (BW (λi x st'=>st4=st'/\x.1=Ad/\x.2=i/\Srt lt (AA st4) lo (lo+i)) (λi x st' g1 g2 hI=>?_) (λx st' hI=>?_) ⟨rfl,rfl,rfl,S4⟩) λx st' hP=>?_)
    .obtain⟨rfl,b1,b2,S⟩:=hI;obtain⟨x1,n⟩:=x;have b2:n=i:=b2;subst b2;have g1:m<=n:=g1
     try extract_lets
     refine Az (LX C B4 hv (show lo+n<a0.size by omega) (show lo+n-1<a0.size by omega) ?_)
     show Bs M A E s (if lt (ka0 (AA st4) (lo+n)) (ka0 (AA st4) (lo+n-1))=Aa then _ else _) _ _
     by_cases e:lt (ka0 (AA st4) (lo+n)) (ka0 (AA st4) (lo+n-1))=Aa
     .rw[Ar e];exact AE ⟨rfl,rfl,by show 1<=n;omega,by show n<=nrem;omega,S⟩
     .rw[As e];exact AE ⟨rfl,rfl,rfl,Srt.snoc O (hi:=a0.size) (k:=lo+n) (λi h=>B4.v hv h) (by omega) (by omega) S (by simpa [leK] using e)⟩
    .obtain⟨rfl,b1,b2,S⟩:=hI;have b2:x.2=max m nrem:=b2;have S:Srt lt (AA st4) lo (lo+max m nrem):=S;rw[<-b2]at S;exact⟨rfl,b1,by omega,by omega,S⟩
    .obtain⟨rfl,b1,b2,b3,S⟩:=hP;obtain⟨x1,n⟩:=x;dsimp only at b1 b2 b3 S;subst b1;exact AE (q n _ b2 b3 B4 S)
   .show Bs M A E s (if neq>0 then _ else _) _ _
    refine He ?_ ?_
    .refine Az (Oo (b:=lo+m-(neq+1)) (e:=lo+m) B2 (by omega) (by omega) (by omega) λst3 B3 e3=>?_)
     refine J st3 ⟨B3,?_⟩;rw[e3];exact D2.mir (by omega) e2 (by omega) (by omega)
    .exact J _ ⟨B2,D2⟩
 .have v0:∀ i,i<a0.size->V (ka0 (AA st) i):=λi h=>B.v hv h
  show Bs M A E s (if n>1 then _ else _) _ _
  by_cases hn:n>1
  .rw[Ar hn];refine Az (LX C B hv (show lo<a0.size by omega) (show lo+n-1<a0.size by omega) ?_)
   show Bs M A E s (if lt (ka0 (AA st) lo) (ka0 (AA st) (lo+n-1))=Aa then _ else _) _ _
   by_cases e:lt (ka0 (AA st) lo) (ka0 (AA st) (lo+n-1))=Aa
   .rw[Ar e];exact AE (q n _ b2 b3 B S)
   .rw[As e];have e:leK lt (ka0 (AA st) (lo+n-1)) (ka0 (AA st) lo):=by simpa [leK] using e
    refine Az (Oo (b:=lo) (e:=lo+n) B (Ay _) (by omega) (by omega) λst3 B3 e3=>?_)
    refine J st3 ⟨B3,?_⟩;have Q0:Eqs lt (AA st) lo (lo+n):=λi j g1 g2 g3 g4=>by
     have x1:leK lt (ka0 (AA st) i) (ka0 (AA st) (lo+n-1)):=by
      by_cases h:i=lo+n-1
      .rw[h];exact O.refl (v0 _ (by omega))
      .exact S i (lo+n-1) g1 (by omega) (by omega)
     have x2:leK lt (ka0 (AA st) lo) (ka0 (AA st) j):=by
      by_cases h:j=lo
      .rw[h];exact O.refl (v0 _ (by omega))
      .exact S lo j (Ay _) (by omega) (by omega)
     exact O.trans (v0 _ (by omega)) (v0 lo (by omega)) (v0 _ (by omega)) (O.trans (v0 _ (by omega)) (v0 (lo+n-1) (by omega)) (v0 lo (by omega)) x1 e) x2
    have D0:Dec lt (AA st) lo (lo+n):=λi j g1 g2 g3=>Q0 j i (by omega) g3 g1 (by omega)
    have D1:=Dec.snoc O v0 (show lo+n<a0.size by omega) (by omega) D0 (O.asymm (v0 _ (by omega)) (v0 _ (by omega)) b4)
    rw[e3];exact D1.mir (by omega) Q0 (Ay _) (by omega)
  .rw[As hn];have:n=1:=by omega
   subst this;exact J _ ⟨B,Dec.snoc O v0 (show lo+1<a0.size by omega) (by omega) (λi j g1 g2 g3=>by omega) (O.asymm (v0 _ (by omega)) (v0 _ (by omega)) b4)⟩
end
section
variable{M:E6}{A:AV}{E:Vq}{s:Ap}{κ:E2}{V:Av->Prop}{lt:Av->Av->Aj}
variable{a0:Au Av}{lo hi:Ae}
def D8(lt:Av->Av->Aj)(a:Au Av):Ac (Ae×Ae×Ae)->Ae->Ae->Prop
 |[],b,e=>b=e
 |x::r,b,e=>x.1=b/\0<x.2.1/\Srt lt a b (b+x.2.1)/\D8 lt a r (b+x.2.1) e
theorem D8.le{a:Au Av}:∀{l:Ac (Ae×Ae×Ae)}{b e:Ae},D8 lt a l b e->b+l.length<=e
 |[],b,e,h=>by have h:b=e:=h;rw[h];exact Ay _
 |x::r,b,e,h=>by
  have:=D8.le h.2.2.2;have:=h.2.1;rw[A5];omega
theorem D8.mono{a a':Au Av}:∀{l:Ac (Ae×Ae×Ae)}{b e:Ae},D8 lt a l b e->(∀ i,b<=i->i<e->ka0 a' i=ka0 a i)->D8 lt a' l b e
 |[],b,e,h,_=>h
 |x::r,b,e,h,g=>by
  have:=D8.le h.2.2.2;exact⟨h.1,h.2.1,λi j h1 h2 h3=>by rw[g i h1 (by omega),g j (by omega) (by omega)];exact h.2.2.1 i j h1 h2 h3,D8.mono h.2.2.2 λi h1 h2=>g i (by omega) h2⟩
theorem D8.split{a:Au Av}:∀{L R:Ac (Ae×Ae×Ae)}{b e:Ae},D8 lt a (L++R) b e->∃ m,D8 lt a L b m/\D8 lt a R m e
 |[],R,b,e,h=>⟨b,rfl,h⟩
 |x::L,R,b,e,h=>by
  obtain⟨m,h1,h2⟩:=D8.split (L:=L) h.2.2.2;exact⟨m,⟨h.1,h.2.1,h.2.2.1,h1⟩,h2⟩
theorem D8.join{a:Au Av}:∀{L R:Ac (Ae×Ae×Ae)}{b m e:Ae},D8 lt a L b m->D8 lt a R m e->D8 lt a (L++R) b e
 |[],R,b,m,e,h,h'=>by have h:b=m:=h;rw[h];exact h'
 |x::L,R,b,m,e,h,h'=>⟨h.1,h.2.1,h.2.2.1,D8.join h.2.2.2 h'⟩
theorem D8.modify{a:Au Av}{f:Ae×Ae×Ae->Ae×Ae×Ae}(h1:∀ x,(f x).1=x.1)(h2:∀ x,(f x).2.1=x.2.1):∀{l:Ac (Ae×Ae×Ae)}{i b e:Ae},D8 lt a l b e->D8 lt a (l.modify i f) b e
 |[],i,b,e,h=>by rw[List.modify_nil];exact h
 |x::r,0,b,e,h=>by
  rw[List.modify_zero_cons];unfold D8 at h ⊢;rw[h1,h2];exact h
 |x::r,i+1,b,e,h=>by
  rw[List.modify_succ_cons];exact⟨h.1,h.2.1,h.2.2.1,D8.modify h1 h2 h.2.2.2⟩
structure RS (κ:E2) (lt:Av->Av->Aj) (a0:Au Av) (lo:Ae) (st:A4):Prop where
 kd:kindOf st=κ
 fl:Ej st=Ad
 up:Upd a0 (AA st) 0 a0.size
 rn:D8 lt (AA st) (Bq st).toList 0 lo
 hl:lo<=a0.size
theorem rF{l:Ac α}(h:i+1<l.length):∃ L x y R,l=L++x::y::R/\L.length=i:=by
 refine⟨l.take i,l[i]'(by omega),l[i+1]'h,l.drop (i+2),?_,by rw[Ei];omega⟩
 rw[<-DO h,<-DO (show i<l.length by omega),C4]
theorem UR(C:IR M A s κ V lt)(O:OrdK V lt)(hv:∀ x∈a0.toList,V x)(R:RS κ lt a0 lo st)(hi:i+1<(Bq st).size)(q:∀ st',RS κ lt a0 lo st'->(Bq st').size+1=(Bq st).size->(∀ j,lo<=j->ka0 (AA st') j=ka0 (AA st) j)->Q Aa st'):Bs M A E s (Uc i) Q st:=by
 obtain⟨L,⟨sa,na,pw⟩,⟨sb,nb,pw2⟩,T,e,hL⟩:=rF (l:=(Bq st).toList) (i:=i) (by rw[AR];exact hi)
 have rn:=R.rn;rw[e]at rn;obtain⟨m,r1,r2⟩:=rn.split;obtain⟨ea,pa,s1,eb,pb,s2,r3⟩:=r2;dsimp only at ea pa s1 eb pb s2 r3;subst ea;have hle:=r3.le;have hle1:=r1.le;have hhl:=R.hl;have hsz:=R.up.sz;refine fC C O (sa:=sa) (na:=na) (pw:=pw) (sb:=sb) (nb:=nb) (pw2:=pw2) ?_ ?_ (by omega) pa pb (by omega) (by rw[eb];exact s1) (by rw[eb];exact s2) (λx hx=>hv x (R.up.pm.mem_iff.mp hx)) R.kd R.fl λst' k1 k2 k3 U_ S=>?_
 .rw[<-BZ,e,BB (by omega),hL,Kn];rfl
 .rw[<-BZ,e,BB (by omega),hL,show i+1-i=1 by omega];rfl
 have ep:(Bq st').toList=L++(sa,na+nb,pw)::T:=by
  rw[k3,Array.toList_eraseIdxIfInBounds,XB,e,<-hL];simp[List.set_append,List.eraseIdx_append];intro h;omega
 refine q st' ⟨k1,k2,R.up.trans (U_.mono (BK _) (by omega)),?_,R.hl⟩ ?_ λj hj=>U_.out j (by omega)
 .rw[ep];refine(r1.mono λi h1 h2=>U_.out i (by omega)).join ⟨rfl,by show 0<na+nb;omega,?_,?_⟩
  .show Srt lt (AA st') sa (sa+(na+nb));rw[show sa+(na+nb)=sb+nb by omega]
   exact S
  .show D8 lt (AA st') T (sa+(na+nb)) lo;rw[show sa+(na+nb)=sa+na+nb by omega]
   exact r3.mono λi h1 h2=>U_.out i (by omega)
 .rw[<-AR,<-AR,ep,e];simp;omega
theorem RS.push{st:A4}{n pw:Ae}(R:RS κ lt a0 lo st)(h1:1<=n)(h2:lo+n<=a0.size)(S:Srt lt (AA st) lo (lo+n)):RS κ lt a0 (lo+n) (setPending st ((Bq st).push (lo,n,pw))):=by
 refine⟨R.kd,R.fl,R.up,?_,h2⟩;show D8 lt (AA st) ((Bq st).push (lo,n,pw)).toList 0 (lo+n);rw[Dt];exact R.rn.join ⟨rfl,h1,S,rfl⟩
theorem uK[Fi c]{x y:Ae}:(if c then x else y)=x\/(if c then x else y)=y:=by split<;>simp
theorem qU{f:IY->Ae->EK A4 DZ α}{H:Ae->A4->Prop}{m:EK A4 DZ α}{Q:α->A4->Prop}(J:∀ n st',H n st'->Bs M A E s (f ⟨⟩ n) Q st')(main:(∀ n st',H n st'->Bs M A E s (f ⟨⟩ n) Q st')->Bs M A E s m Q st):Bs M A E s m Q st:=main J
theorem dW(C:IR M A s κ V lt)(O:OrdK V lt)(hv:∀ x∈a0.toList,V x){Q:Gx->A4->Prop}(hk:kindOf st=κ)(hf:Ej st=Ad)(ha:AA st=a0)(hp:Bq st=#[])(q:∀ st',kindOf st'=κ->Ej st'=Ad->(AA st').toList.Perm a0.toList->Srt lt (AA st') 0 a0.size->Q ⟨⟩ st'):Bs M A E s sortRuns' Q st:=by
 rw[sortRuns'_eq];refine Az (Gf ?_);rw[ha]
 extract_lets size mr lo0
 have R0:RS κ lt a0 0 st:=⟨hk,hf,by rw[ha];exact Upd.rfl',by rw[hp];rfl,BK _⟩
 refine Az (Db (Q:=λx st'=>x.1=Ad/\RS κ lt a0 a0.size st') (BW (λi x st'=>x.1=Ad/\RS κ lt a0 x.2 st'/\i<=x.2) (λi x st' g1 g2 hI=>?_) (λx st' hI=>?_) ⟨rfl,R0,Ay _⟩) λx st' hP=>?_)
 .obtain⟨b1,R,b2⟩:=hI;obtain⟨x1,lo⟩:=x;have R:RS κ lt a0 lo st':=R;have b2:i<=lo:=b2;have hl:=R.hl
  try extract_lets
  show Bs M A E s (if lo ≥ a0.size then _ else _) _ _
  by_cases h1:lo ≥ a0.size
  .rw[Ar h1];refine AE ⟨rfl,?_⟩;have e:lo=a0.size:=by omega
   rw[e]at R;exact R
  rw[As h1];have hsz:=R.up.sz;have hv':∀ x∈(AA st').toList,V x:=λx hx=>hv x (R.up.pm.mem_iff.mp hx)
  have toR:∀ {st2},BS κ (AA st') (Bq st') lo a0.size st2->RS κ lt a0 lo st2:=λB=>⟨B.kd,B.fl,R.up.trans (B.up.mono (BK _) (Ay _)),by rw[B.pd];exact R.rn.mono λi _ h=>B.up.out i (.inl h),hl⟩
  refine Az (jI C O hv' (hi:=a0.size) ⟨R.kd,R.fl,rfl,Upd.rfl'⟩ (show 1<=a0.size-lo by omega) (by omega) (by omega) λn st2 n1 n2 B S=>?_)
  dsimp -zeta only;rename_i jp _ _;refine qU (f:=jp) (H:=λn st2=>1<=n/\lo+n<=a0.size/\RS κ lt a0 lo st2/\Srt lt (AA st2) lo (lo+n)) (λn st2 hH=>?_) (λJ=>?_)
  .obtain⟨n1,n2,R2,S2⟩:=hH;refine Az (Gf ?_)
   extract_lets lo2 jp2
   refine Op (f:=jp2) (H:=λst2=>RS κ lt a0 lo st2/\Srt lt (AA st2) lo (lo+n)) (λst3 hH=>?_) (λJ=>?_)
   .obtain⟨R3,S3⟩:=hH;refine Az (ER ?_);exact AE ⟨rfl,R3.push n1 n2 S3,by show i+1<=lo+n;omega⟩
   .cases hb:(Bq st2).back? with
    |none=>exact J _ ⟨R2,S2⟩
    |some v=>
     obtain⟨s1,n1',pw0⟩:=v;dsimp -zeta only
     extract_lets pw
     refine Az (Db (Q:=λx st3=>x.1=Ad/\RS κ lt a0 lo st3/\Srt lt (AA st3) lo (lo+n)) (BW (fun(j:Ae)(x:Ao Gx×Gx)(st3:A4)=>x.1=Ad/\RS κ lt a0 lo st3/\Srt lt (AA st3) lo (lo+n)) (λj x st3 _ _ hI=>?_) (λx st3 hI=>hI) ⟨rfl,R2,S2⟩) λx st3 hP=>?_)
     .obtain⟨_,R3,S3⟩:=hI;refine Az (Gf ?_)
      extract_lets p
      cases hq:(if p.size>1 then p[p.size-2]? else Ad) with
      |none=>exact AE ⟨rfl,R3,S3⟩
      |some v=>
       obtain⟨f1,f2,older⟩:=v;have p1:p.size>1:=by
        by_cases h:p.size>1
        .exact h
        .rw[As h]at hq;cases hq
       have p1:(Bq st3).size>1:=p1;dsimp -zeta only;refine He (AE ⟨rfl,R3,S3⟩) ?_;refine Az (UR C O hv R3 (i:=(Bq st3).size-2) (by omega) λst4 R4 z4 o4=>?_)
       exact AE ⟨rfl,R4,λi j h1 h2 h3=>by rw[o4 i h1,o4 j (by omega)];exact S3 i j h1 h2 h3⟩
     .obtain⟨b1,R3,S3⟩:=hP;obtain⟨x1,x2⟩:=x;have b1:x1=Ad:=b1;subst b1;refine Az (ER ?_);refine J _ ⟨⟨R3.kd,R3.fl,R3.up,?_,R3.hl⟩,S3⟩;show D8 lt (AA st3) ((Bq st3).modify _ _).toList 0 lo;rw[Array.toList_modify];exact D8.modify (f:=λx=>(x.1,x.2.1,pw)) (λ_=>rfl) (λ_=>rfl) R3.rn
  .show Bs M A E s (if n<mr then _ else _) _ _
   by_cases h2:n<mr
   .rw[Ar h2];refine Az (LW ?_);refine Az (eK C O hv' (n:=min (a0.size-lo) mr) B n1 (by omega) (by omega) (by omega) S λst3 B3 S3=>?_)
    exact J _ _ ⟨by omega,by omega,toR B3,S3⟩
   .rw[As h2];exact J _ _ ⟨n1,by omega,toR B,S⟩
 .obtain⟨b1,R,b2⟩:=hI;have b2:max 0 a0.size<=x.2:=b2;have:=R.hl;rw[show x.2=a0.size by omega]at R
  exact⟨b1,R⟩
 .obtain⟨b1,R⟩:=hP;obtain⟨x1,lo⟩:=x;have b1:x1=Ad:=b1;subst b1
  try extract_lets
  have hle:=R.rn.le;rw[AR]at hle;refine Az (Db (Q:=λx st3=>x.1=Ad/\RS κ lt a0 a0.size st3/\(Bq st3).size<=1) (BW (λj x st3=>x.1=Ad/\RS κ lt a0 a0.size st3/\((Bq st3).size<=1\/(Bq st3).size+j<=a0.size)) (λj x st3 _ _ hI=>?_) (λx st3 hI=>?_) ⟨rfl,R,.inr (by omega)⟩) λx st3 hP=>?_)
  .obtain⟨c1,R3,c2⟩:=hI
   try extract_lets
   refine Az (Gf ?_)
   extract_lets p
   show Bs M A E s (if (Bq st3).size<=1 then _ else _) _ _
   by_cases h:(Bq st3).size<=1
   .rw[Ar h];exact AE ⟨rfl,R3,h⟩
   rw[As h];rename_i i1;have hi:i1=(Bq st3).size-2-1\/i1=(Bq st3).size-2:=uK;have hi:i1+1<(Bq st3).size:=by omega
   refine Az (UR C O hv R3 hi λst4 R4 z4 o4=>?_)
   exact AE ⟨rfl,R4,.inr (by omega)⟩
  .obtain⟨c1,R3,c2⟩:=hI;have c2:(Bq st3).size<=1\/(Bq st3).size+max 0 a0.size<=a0.size:=c2;exact⟨c1,R3,by omega⟩
  .obtain⟨c1,R3,c2⟩:=hP;obtain⟨x1,x2⟩:=x;have c1:x1=Ad:=c1;subst c1;refine AE (q _ R3.kd R3.fl R3.up.pm ?_);have rn:=R3.rn;cases hl:(Bq st3).toList with
   |nil=>
    rw[hl]at rn;have rn:0=a0.size:=rn;exact λi j h1 h2 h3=>by omega
   |cons x r=>
    rw[hl]at rn;have:r.length=0:=by
     have:=congrArg FV hl;rw[AR,A5]at this;omega
    have hr:=List.length_eq_zero_iff.mp this;rw[hr]at rn;obtain⟨_,_,S,e⟩:=rn;have e:0+x.2.1=a0.size:=e;rw[e]at S;exact S
end
end Ov
namespace Ov
open PySem PySem.W PyProof.Rows
variable{h:AK}{v:Ai}{r q:Ac Ag}{rs:Ac (Ac Ag)}{vs:Ac Ai}
structure Sto (lt:Ae->Ae->Aj) (n:Ae):Prop where
 tr:∀ i j k,i<n->j<n->k<n->lt i j=Aa->lt j k=Aa->lt i k=Aa
 tot:∀ i j,i<n->j<n->i≠j->lt i j=Af->lt j i=Aa
 asy:∀ i j,i<n->j<n->lt i j=Aa->lt j i=Af
noncomputable def at0(p:Au Ae)(x:Ae):Ae:=p.getD x 0
structure Pm (n:Ae) (p:Au Ae):Prop where
 sz:p.size=n
 lt:∀ x,x<n->at0 p x<n
 inj:∀ x y,x<n->y<n->at0 p x=at0 p y->x=y
section
variable{lt:Ae->Ae->Aj}{n:Ae}
def MA(lt:Ae->Ae->Aj)(p:Au Ae)(m:Ae):Prop:=∀ x y,x<y->y<m->lt (at0 p x) (at0 p y)=Aa
theorem jT(n:Ae):Pm n (C9 (AD n)):=by
 have e:∀ x,x<n->at0 (C9 (AD n)) x=x:=λx hx=>by simp[at0,Em,hx]
 exact⟨by simp,λx hx=>by rw[e x hx];exact hx,λx y hx hy h=>by rw[e x hx,e y hy]at h;exact h⟩
end
def ET(h:AK)(v:Ai)(r:Ac Ag):Prop:=∃ a its,v=.ref a/\MG h a its/\Fc its.toList r/\r≠[]
theorem ET.kept{h':AK}(t:ET h v r)(k:∀ b o,h.get? b=Ab o->h'.get? b=Ab o):ET h' v r:=by
 obtain⟨a,its,e,⟨o,ho,q⟩,i,n⟩:=t;exact⟨a,its,e,⟨o,k _ _ ho,q⟩,i,n⟩
noncomputable def Cw:Ac Ag->Ac Ag->Aj
 |[],[]=>Af
 |[],_::_=>Aa
 |_::_,[]=>Af
 |x::xs,y::ys=>if x=y then Cw xs ys else decide (x<y)
section
variable{prog:AQ}{w:AT}{A:AV}{E:Vq}{s:Ap}
theorem V8{C:Aj->Ap->Prop}:∀{vs us:Ac Ai}{r q:Ac Ag}(i:Ae),Fc vs r->Fc us q->C (Cw r q) s->KatLex prog w A Aa (decide (vs.length<us.length)) C (vs.zip us) i s
 |[],[],[],[],i,_,_,h=>by
  have h':C Af s:=h;exact kat_nil h'
 |[],u::us,[],y::q,i,_,_,h=>by
  have h':C Aa s:=h;refine kat_nil ?_;have e:decide (([]:Ac Ai).length<(u::us).length)=Aa:=by simp
  rw[e];exact h'
 |v::vs,[],x::r,[],i,_,_,h=>by
  have h':C Af s:=h;exact kat_nil h'
 |v::vs,u::us,x::r,y::q,i,hv,hu,h=>by
  cases hv with
  |cons _ tv hv=>
   cases hu with
   |cons _ tu hu=>
    have e0:decide ((HF x tv::vs).length<(HF y tu::us).length)=decide (vs.length<us.length):=by simp
    rw[e0];refine kat_cons (bB ?_);by_cases e:x=y
    .have e1:(x==y)=Aa:=by simp[e]
     rw[e1];refine kat_yes (V8 (i+1) hv hu ?_);have h':C (if x=y then Cw r q else decide (x<y)) s:=h
     rw[Ar e]at h';exact h'
    .have e1:(x==y)=Af:=by simp[e]
     rw[e1];have h':C (decide (x<y)) s:=by
      have h':C (if x=y then Cw r q else decide (x<y)) s:=h
      rwa [As e]at h'
     refine kat_no ?_;cases i with
     |zero=>exact oneLt_int h'
     |succ i=>
      have e2:(Aa&&(i+1==0))=Af:=rfl;rw[e2];exact kat_one _ _ (wpAny_lt_int h')
 |[],_,_::_,_,_,hv,_,_=>nomatch hv
 |_::_,_,[],_,_,hv,_,_=>nomatch hv
 |_,[],_,_::_,_,_,hu,_=>nomatch hu
 |_,_::_,_,[],_,_,hu,_=>nomatch hu
theorem rG{C:Aj->Ap->Prop}{u:Ai}(hv:ET s.heap v r)(hu:ET s.heap u q)(h:C (Cw r q) s):Aw (model prog w) A (keyLt' (tuples' Aa) v u) C E s:=by
 obtain⟨a,xs,rfl,⟨oa,ga,_,n,da⟩,ix,_⟩:=hv;obtain⟨b,ys,rfl,⟨ob,gb,_,m,db⟩,iy,_⟩:=hu;refine kat_lt ga da gb db ?_;have:=V8 (prog:=prog) (w:=w) (A:=A) (s:=s) 0 ix iy h;simpa using this
theorem M8:∀{r q:Ac Ag},Cw r q=Aa->Cw q r=Af
 |[],[],h=>by cases h
 |[],_::_,_=>rfl
 |_::_,[],h=>by cases h
 |x::r,y::q,h=>by
  have h':(if x=y then Cw r q else decide (x<y))=Aa:=h
  show (if y=x then Cw q r else decide (y<x))=Af
  by_cases e:x=y
  .rw[Ar e]at h';rw[Ar e.symm];exact M8 h'
  .rw[As e,AU]at h';rw[As (Ea e),Go];omega
theorem Oa:∀{r q:Ac Ag},r≠q->Cw r q=Af->Cw q r=Aa
 |[],[],n,_=>absurd rfl n
 |[],_::_,_,h=>by cases h
 |_::_,[],_,_=>rfl
 |x::r,y::q,n,h=>by
  have h':(if x=y then Cw r q else decide (x<y))=Af:=h
  show (if y=x then Cw q r else decide (y<x))=Aa
  by_cases e:x=y
  .rw[Ar e]at h';rw[Ar e.symm];exact Oa (λz=>n (by rw[e,z])) h'
  .rw[As e,Go]at h';rw[As (Ea e),AU];omega
theorem Oi:∀{r q t:Ac Ag},Cw r q=Aa->Cw q t=Aa->Cw r t=Aa
 |[],[],_,h,_=>by cases h
 |_::_,[],_,h,_=>by cases h
 |_,_::_,[],_,h=>by cases h
 |[],_::_,_::_,_,_=>rfl
 |x::r,y::q,u::t,h,g=>by
  have h':(if x=y then Cw r q else decide (x<y))=Aa:=h
  have g':(if y=u then Cw q t else decide (y<u))=Aa:=g
  show (if x=u then Cw r t else decide (x<u))=Aa
  by_cases e:x=y
  .rw[Ar e]at h';by_cases f:y=u
   .rw[Ar f]at g';rw[Ar (e.trans f)];exact Oi h' g'
   .rw[As f,AU]at g';rw[As (by omega),AU]
    omega
  .rw[As e,AU]at h';by_cases f:y=u
   .rw[As (by omega),AU]
    omega
   .rw[As f,AU]at g';rw[As (by omega),AU]
    omega
noncomputable def ltR(rs:Ac (Ac Ag))(i j:Ae):Aj:=Cw (rs.getD i []) (rs.getD j [])
theorem jK(nd:rs.Nodup):Sto (ltR rs) rs.length:=by
 refine⟨λi j k _ _ _=>Oi,λi j hi hj ne h=>Oa (λe=>ne ?_) h,λi j _ _=>M8⟩
 have h':=BO.mp nd;rw[A8,A8,AC hi,AC hj]at e;have e':rs[i]=rs[j]:=e;rcases Gq i j with z|z|z
 .exact absurd e' (h' i j hi hj z)
 .exact z
 .exact absurd e'.symm (h' j i hj hi z)
noncomputable abbrev IM(vs:Ac Ai)(p:Au Ae):Au Ai:=C9 (p.toList.map λi=>vs.getD i AI)
theorem fX(vs:Ac Ai):IM vs (C9 (AD vs.length))=vs.toArray:=by
 apply GK.mp
 show (AD vs.length).map (λi=>vs.getD i AI)=vs
 apply Eh
 .simp
 .intro i h1 h2;simp[h2]
theorem TL{h:AK}:∀{vs:Ac Ai}{rs:Ac (Ac Ag)},rs.length=vs.length->(∀(i:Ae)(v:Ai)(r:Ac Ag),vs[i]?=Ab v->rs[i]?=Ab r->ET h v r)->∃ fs,KatTups h vs fs/\fs.length=vs.length/\∀ v∈fs,∃ x t,v=HF x t
 |[],_,_,_=>⟨[],KatTups.nil,rfl,λv hv=>by cases hv⟩
 |v::vs,[],hl,_=>by cases hl
 |v::vs,r::rs,hl,ht=>by
  obtain⟨fs,h1,h2,h3⟩:=TL (vs:=vs) (rs:=rs) (by simpa using hl) λi v r a b=>ht (i+1) v r a b
  obtain⟨a,its,rfl,⟨o,ho,hc,n,hd⟩,hi,hne⟩:=ht 0 v r rfl rfl;cases e:its.toList with
  |nil=>
   rw[e]at hi;cases hi;exact absurd rfl hne
  |cons f l=>
   rw[e]at hi;cases hi with
   |cons x t hi=>
    refine⟨.int x t::fs,KatTups.cons ho hc hd ?_ h1,by simp[h2],λv hv=>?_⟩
    .rw[<-BZ,e];rfl
    .rcases AJ.mp hv with rfl|hv
     .exact⟨x,t,rfl⟩
     .exact h3 v hv
theorem UF{α:Type}(d:α){l' l:Ac α}(h:l'.Perm l):∃ p:Ac Ae,p.Perm (AD l.length)/\l'=p.map λi=>l.getD i d:=by
 induction h with
 |nil=>exact⟨[],.nil,rfl⟩
 | @cons x l1 l2 h ih=>
  obtain⟨p,hp,e⟩:=ih;refine⟨0::p.map (· + 1),?_,?_⟩
  .rw[A5,Fn];exact(hp.map _).cons 0
  .rw[CO,Bl,e];rfl
 | @swap x y l=>
  refine⟨1::0::(AD l.length).map (· + 2),?_,?_⟩
  .rw[A5,A5,Fn,Fn,CO,Bl];exact .swap ..
  .rw[CO,CO,Bl];show y::x::l=_
   congr 2
   apply Eh
   .simp
   .intro i h1 h2;simp[h1]
 | @trans l1 l2 l3 h1 h2 ih1 ih2=>
  obtain⟨p,hp,e⟩:=ih1;obtain⟨q,hq,f⟩:=ih2;have hl:l2.length=l3.length:=h2.length_eq;have ql:q.length=l3.length:=by rw[hq.length_eq,D9]
  refine⟨p.map λi=>q.getD i 0,?_,?_⟩
  .refine(hp.map _).trans (G2 (FY ?_) hq)
   apply Eh
   .rw[AF,D9,hl,ql]
   .intro i h1 h2;rw[FI,List.getElem_range];simp[h2]
  .rw[e,Bl]
   apply B7
   intro i hi;have hi':i<l2.length:=BE.mp (hp.mem_iff.mp hi);show l2.getD i d=l3.getD (q.getD i 0) d;have g1:l2.getD i d=(q.map λi=>l3.getD i d).getD i d:=by rw[<-f]
   rw[g1];have hq':i<q.length:=by omega
   simp[hq']
theorem Fc.uniq(h:Fc vs r)(h':Fc vs q):r=q:=by rw[<-h.nums,<-h'.nums]
theorem ET.uniq{h:AK}{v:Ai}{r q:Ac Ag}(t:ET h v r)(u:ET h v q):r=q:=by
 obtain⟨a,its,rfl,⟨o,ho,hc,n,hd⟩,hi,_⟩:=t;obtain⟨b,its',e,⟨o',ho',hc',n',hd'⟩,hi',_⟩:=u;cases e;rw[ho]at ho';cases ho';rw[hd]at hd';cases hd';exact Fc.uniq hi hi'
open Classical in
noncomputable def ltK(h:AK)(x y:Av):Aj:=decide (∃ r q,ET h x.1 r/\ET h y.1 q/\Cw r q=Aa)
open Classical in
theorem Ln{x y:Av}(t:ET h x.1 r)(u:ET h y.1 q):ltK h x y=Cw r q:=by
 unfold ltK;cases e:Cw r q with
 |true=>exact BG ⟨r,q,t,u,e⟩
 |false=>
  refine BD λ⟨r',q',t',u',e'⟩=>?_
  rw[t'.uniq t,u'.uniq u,e]at e';cases e'
theorem kD(h:AK):OrdK (λx=>∃ r,ET h x.1 r) (ltK h):=by
 refine⟨λ⟨r,t⟩ ⟨q,u⟩ e=>?_,λ⟨r,t⟩ ⟨q,u⟩ ⟨p,v⟩ e1 e2=>?_⟩
 .rw[Ln t u]at e;rw[Ln u t];exact M8 e
 .rw[Ln u t]at e1;rw[Ln v u]at e2;rw[Ln v t];cases e:Cw p r with
  |false=>rfl
  |true=>
   by_cases a:p=q
   .rw[a,e1]at e;cases e
   .have x:=Oa a e2;have y:=Oi x e;rw[e1]at y;cases y
theorem kL:IR (model prog w) A s (tuples' Aa) (λx=>∃ r,ET s.heap x.1 r) (ltK s.heap):=λE st x y Q hk ⟨r,t⟩ ⟨q,u⟩ h=>by
 rw[lt'_eq];refine Az (Gf ?_);rw[hk];rw[Ln t u]at h;refine Az (wpS_lift (Fe (rG t u ⟨rfl,?_⟩)));exact AE h
theorem nX(hr:rs.length=vs.length)(kt:∀(i:Ae)(v:Ai)(r:Ac Ag),vs[i]?=Ab v->rs[i]?=Ab r->ET s.heap v r)(nd:rs.Nodup):Aw (model prog w) A ((sortRuns').run (Lz (tuples' Aa) (vs.toArray.zip vs.toArray) #[] 7 Ad)) (λr s'=>s'=s/\∃ p,Pm vs.length p/\MA (ltR rs) p vs.length/\(AA r.2).map (·.2)=IM vs p/\Ej r.2=Ad) E s:=by
 have tl:(vs.toArray.zip vs.toArray).toList=vs.zip vs:=by simp
 have zl:(vs.zip vs).length=vs.length:=by simp
 have zg:∀ i (h:i<vs.length),(vs.zip vs).getD i (AI,AI)=(vs[i],vs[i]):=λi h=>by simp[h]
 refine dW (st:=Lz (tuples' Aa) (vs.toArray.zip vs.toArray) #[] 7 Ad) (Q:=λ_ st'=>∃ p,Pm vs.length p/\MA (ltR rs) p vs.length/\(AA st').map (·.2)=IM vs p/\Ej st'=Ad) (V:=λx=>∃ r,ET s.heap x.1 r) (a0:=vs.toArray.zip vs.toArray) kL (kD s.heap) (λx hx=>?_) rfl rfl rfl rfl λst' _ hf pm so=>?_
 .rw[tl]at hx;obtain⟨i,hi,rfl⟩:=Cp hx;rw[zl]at hi;rw[List.getElem_zip];exact⟨_,kt i _ _ (AC hi) (AC (by omega:i<rs.length))⟩
 .rw[tl]at pm;obtain⟨p,hp,e⟩:=UF (AI,AI) pm;rw[zl]at hp;have pl:p.length=vs.length:=by rw[hp.length_eq,D9]
  have pn:p.Nodup:=hp.symm.nodup Ym;have pa:∀ x (h:x<vs.length),at0 p.toArray x=p[x]'(by omega):=λx h=>by simp[at0,Em,show x<p.length by omega]
  have plt:∀ x (h:x<vs.length),p[x]'(by omega)<vs.length:=λx h=>BE.mp (hp.mem_iff.mp (C8 (by omega)))
  have PM:Pm vs.length p.toArray:=by
   refine⟨by simpa using pl,λx hx=>by rw[pa x hx];exact plt x hx,λx y hx hy h=>?_⟩
   rw[pa x hx,pa y hy]at h;have:=BO.mp pn;rcases Gq x y with z|z|z
   .exact absurd h (this x y (by omega) (by omega) z)
   .exact z
   .exact absurd h.symm (this y x (by omega) (by omega) z)
  have ka:∀ x (h:x<vs.length),ka0 (AA st') x=(vs[p[x]'(by omega)]'(plt x h),vs[p[x]'(by omega)]'(plt x h)):=λx h=>by
   rw[Me,e,BC,AC (by omega)]
   show (vs.zip vs).getD p[x] (AI,AI)=_;rw[zg _ (plt x h)]
  have kr:∀ x (h:x<vs.length),ET s.heap (ka0 (AA st') x).1 (rs.getD (p[x]'(by omega)) []):=λx h=>by
   rw[ka x h];have:=plt x h;refine kt _ _ _ (AC this) ?_;rw[A8,AC (by omega)]
   rfl
  have zs:(vs.toArray.zip vs.toArray).size=vs.length:=by simp
  refine⟨p.toArray,PM,λx y hxy hy=>?_,?_,hf⟩
  .have g:=so x y (BK _) hxy (by rw[zs];exact hy)
   have hx:x<vs.length:=by omega
   have g:ltK s.heap (ka0 (AA st') y) (ka0 (AA st') x)=Af:=g;rw[Ln (kr y hy) (kr x hx)]at g;rw[pa x hx,pa y hy];have S:=jK nd;refine S.tot _ _ (by rw[hr];exact plt y hy) (by rw[hr];exact plt x hx) (λh=>?_) g
   have:=PM.inj y x hy hx (by rw[pa x hx,pa y hy];exact h)
   omega
  .apply GK.mp
   rw[Array.toList_map,e,Bl];show _=p.map λi=>vs.getD i AI
   apply B7
   intro i hi;have hi':i<vs.length:=BE.mp (hp.mem_iff.mp hi);show ((vs.zip vs).getD i (AI,AI)).2=_;rw[zg i hi'];simp[hi']
theorem Sv{a:Al}{n:Ae}{P:ME->Ap->Prop}(ho:s.heap.get? a=Ab (CP "list" vs.toArray n))(hr:rs.length=vs.length)(ht:∀(i:Ae)(v:Ai)(r:Ac Ag),vs[i]?=Ab v->rs[i]?=Ab r->ET s.heap v r)(nd:rs.Nodup)(hz:vs.length<=1000)(h:∀ p:Au Ae,Pm vs.length p->MA (ltR rs) p vs.length->P (.done (.ret .none)) {s with heap:=sortedHeap s.heap a vs (IM vs p)}):Aw (model prog w) A (Builtin.«list.sort» ⟨[.ref a],[]⟩) P E s:=by
 rw[list_sort_plain];have ha:a<s.heap.objs.size:=AL ho;refine Ah (listItems_at ho rfl ?_ );refine Ah (HM ho rfl ?_ (by rw[AO,Bv];omega) (BK _))
 obtain⟨e1,ho1⟩:∃ e1,(s.heap.update a (B5 λ_=>(#[]:Au Ai))).get? a=Ab (CP "list" #[] e1):=⟨_,IZ ho (λ_=>#[])⟩
 refine Ah (seqEpoch_at ho1 rfl ?_);refine Ah (bF ?_ (by show vs.length<=_;rw[Bv];omega))
 refine Ah (Kj ?_ (BK _));refine EG ?_;have ho6:(((s.heap.update a (B5 λ_=>(#[]:Au Ai))).push (CP "tuple" vs.toArray 0)).push (CP "list" #[] 0)).get? a=Ab (CP "list" #[] e1):=by
  rw[Gu _ _ _ (by rw[size_push',FM];exact AW (By ha)),Gu _ _ _ (by rw[FM];exact AW ha)]
  exact ho1
 show Aw (model prog w) A _ P E { s with heap:=((s.heap.update a (B5 λ_=>(#[]:Au Ai))).push (CP "tuple" vs.toArray 0)).push (CP "list" #[] 0) }
 have kt:∀(i:Ae)(v:Ai)(r:Ac Ag),vs[i]?=Ab v->rs[i]?=Ab r->ET (((s.heap.update a (B5 λ_=>(#[]:Au Ai))).push (CP "tuple" vs.toArray 0)).push (CP "list" #[] 0)) v r:=λi v r h1 h2=>by
  obtain⟨b,its,e,⟨o,hb,hc,q⟩,x,y⟩:=ht i v r h1 h2;have ne:b≠a:=λz=>by
   rw[z,ho]at hb;cases hb;have hc':Fl "list" = Fl "tuple" := hc
   injection hc' with hc'
   exact absurd hc' (by decide)
  refine⟨b,its,e,⟨o,?_,hc,q⟩,x,y⟩;exact Aq _ (Aq _ ((Cz _ _ (Ea ne)).trans hb))
 dsimp only;have hsz:vs.toArray.size=vs.length:=by simp
 have fin:∀ p:Au Ae,Pm vs.length p->MA (ltR rs) p vs.length->∀ st':A4,(AA st').map (·.2)=IM vs p->Ej st'=Ad->∀ s':Ap,s'={ s with heap:=((s.heap.update a (B5 λ_=>(#[]:Au Ai))).push (CP "tuple" vs.toArray 0)).push (CP "list" #[] 0) }->Aw (model prog w) A (do
   let sorted:=(AA st').map (·.2)
   let touched:=(<-seqEpoch a) != e1
   Builtin.List.listUpdate (.ref a) λ_=>sorted
   if let Ab e:=Ej st' then rule "list.sort.comparison-raised"; throw e
   if touched then rule "list.sort.modified"; raiseError "ValueError" "list modified during sort"
   ret .none) P E s':=λp hp hs st' ho' hf s' es=>by
  subst es;have osz:(IM vs p).size=vs.length:=by show (C9 (p.toList.map _)).size=_;rw[AO,AF,AR,hp.sz]
  refine Ah (seqEpoch_at ho6 rfl ?_);rw[ho',hf];refine Ah (HM ho6 rfl ?_ (BK _) (by rw[osz,Bv];omega))
  simp only[bne_self_eq_false,HA,NO];exact At (h p hp hs)
 by_cases h2:vs.toArray.size<2
 .rw[Ar h2,Ar h2];refine Ah (At ?_);rw[StateT.run_pure];refine Ah (At ?_);dsimp only;refine fin (C9 (AD vs.length)) (jT _) (λx y a b=>by omega) (Lz general' (vs.toArray.zip vs.toArray) #[] 7 Ad) ?_ rfl _ rfl
  rw[fX];show (vs.toArray.zip vs.toArray).map (·.2)=vs.toArray
  apply GK.mp
  simp[List.map_snd_zip]
 .rw[As h2,As h2];have h2':2<=vs.length:=by rw[hsz]at h2;omega
  obtain⟨fs,t1,t2,t3⟩:=TL hr kt;refine Ah (kat_kind t1 (by omega) (T:=Fl "int") (λv hv=>?_) rfl ?_)
  .obtain⟨x,t,rfl⟩:=t3 v hv;exact .now
  .have e0:tuples' (Fl "int" != Fl "tuple")=tuples' Aa:=rfl;rw[e0];refine Ah (BJ (nX hr kt nd) ?_ λ_ _ e=>e)
   rintro⟨⟨⟩,st'⟩ s' ⟨es,p,hp,hs,ho',hf⟩;exact fin p hp hs st' ho' hf s' es
theorem fD{l:Al}{Q:Vq}(hl:s.heap.IsList l vs.toArray)(hr:rs.length=vs.length)(ht:∀(i:Ae)(v:Ai)(r:Ac Ag),vs[i]?=Ab v->rs[i]?=Ab r->ET s.heap v r)(nd:rs.Nodup)(hz:vs.length<=1000)(h:∀ p:Au Ae,Pm vs.length p->MA (ltR rs) p vs.length->Q (.ref (s.heap.objs.size+1)) {s with heap:=sortedAll s.heap vs (IM vs p)}):
    Aw (model prog w) A (call (.builtin "sorted") [.ref l]) Q E s:=by
  refine YY kind_sorted plain_sorted entry_sorted (args_sorted1 _) ?_;unfold Builtin.«sorted»;refine Ah (m:=checkCount "sorted" 1 1 _) (At ?_);refine Ah (collect_list hl ?_ (by rw[Bv];omega))
  refine Ah (Kj ?_ (by rw[Bv];omega))
  have hsz:((s.heap.push (CP "list" #[] 0)).update s.heap.objs.size (B5 (· ++ vs.toArray))).objs.size=s.heap.objs.size+1:=by
    rw[FM,size_push']
  have hoL:(((s.heap.push (CP "list" #[] 0)).update s.heap.objs.size (B5 (· ++ vs.toArray))).push (CP "list" vs.toArray 0)).get? (s.heap.objs.size+1)=Ab (CP "list" vs.toArray 0):=by
    rw[<-hsz];exact AH _ rfl
  have keep:∀ b o,s.heap.get? b=Ab o->(((s.heap.push (CP "list" #[] 0)).update s.heap.objs.size (B5 (· ++ vs.toArray))).push (CP "list" vs.toArray 0)).get? b=Ab o:=λb o q=>by
    have hlt:b<s.heap.objs.size:=AL q;rw[Gu _ _ _ (by rw[hsz];exact AW (By hlt)),E5 _ _ _ _ (AW hlt),Gu _ _ _ (AW hlt)]
    exact q
  show Aw _ _ _ _ _ { s with heap:=((s.heap.push (CP "list" #[] 0)).update s.heap.objs.size (B5 (· ++ vs.toArray))).push (CP "list" vs.toArray 0) }
  rw[hsz];refine Ah (EG (Ca YN ⟨_,hoL,rfl⟩ YM (Sv (s:={ s with heap:=((s.heap.push (CP "list" #[] 0)).update s.heap.objs.size (B5 (· ++ vs.toArray))).push (CP "list" vs.toArray 0) }) hoL hr (λi v r h1 h2=>(ht i v r h1 h2).kept keep) nd hz λp hp hs=>⟨_,rfl,?_⟩) (YG _)))
  exact At ⟨_,rfl,h p hp hs⟩
end
end Ov
section
namespace Ov
noncomputable def tI(r:Ac Ag):D:=.tup (r.map D.int)
theorem PL:∀(r q:Ac Ag),eqDs (r.map D.int) (q.map D.int)=decide (r=q)
 |[],[]=>rfl
 |[],_::_=>rfl
 |_::_,[]=>rfl
 |x::r,y::q=>by
  have e:eqDs ((x::r).map D.int) ((y::q).map D.int)=(x==y&&eqDs (r.map D.int) (q.map D.int)):=rfl;rw[e,PL r q];by_cases h:x=y<;>by_cases g:r=q<;>simp[h,g]
theorem Wb(r q:Ac Ag):eqD (tI r) (tI q)=decide (r=q):=PL r q
theorem Td:∀(r q:Ac Ag),ltD.ltDs (ltD 0) (r.map D.int) (q.map D.int)=Cw r q
 |[],[]=>rfl
 |[],_::_=>rfl
 |_::_,[]=>rfl
 |x::r,y::q=>by
  have e:ltD.ltDs (ltD 0) ((x::r).map D.int) ((y::q).map D.int)=if (x==y)=Aa then ltD.ltDs (ltD 0) (r.map D.int) (q.map D.int) else decide (x<y):=rfl
  have e':Cw (x::r) (y::q)=if x=y then Cw r q else decide (x<y):=rfl
  rw[e,e',Td r q];by_cases h:x=y<;>simp[h]
theorem vO(r q:Ac Ag):ltD 1 (tI r) (tI q)=Cw r q:=Td r q
theorem Vj:∀{xs:Ac D},xs.all (rkD 0)=Aa->∃ r:Ac Ag,xs=r.map D.int
 |[],_=>⟨[],rfl⟩
 |x::xs,h=>by
  rw[EA,Am]at h;obtain⟨r,e⟩:=Vj h.2;cases x with
  |int i=>exact⟨i::r,by rw[e];rfl⟩
  |_=>cases h.1
theorem yM{d:D}(h:rkD 1 d=Aa):∃ r,d=tI r:=by
 cases d with
 |tup xs=>
  obtain⟨r,e⟩:=Vj (xs:=xs) h;exact⟨r,by rw[e];rfl⟩
 |_=>cases h
theorem VW:∀{xs:Ac D},xs.all (λd=>rkD 1 d && !eqD d (.tup []))=Aa->∃ rs:Ac (Ac Ag),xs=rs.map tI/\∀ r∈rs,r≠[]
 |[],_=>⟨[],rfl,λr h=>by cases h⟩
 |x::xs,h=>by
  rw[EA,Am,Am]at h;obtain⟨rs,e,hn⟩:=VW h.2;obtain⟨r,e1⟩:=yM h.1.1;refine⟨r::rs,by rw[e,e1];rfl,λq hq=>?_⟩
  rcases AJ.mp hq with rfl|hq
  .intro z;have h2:=h.1.2;rw[e1,z]at h2;cases h2
  .exact hn q hq
theorem VY:∀{rs:Ac (Ac Ag)},(∀ r∈rs,r≠[])->(rs.map tI).all (λd=>rkD 1 d && !eqD d (.tup []))=Aa
 |[],_=>rfl
 |r::rs,h=>by
  rw[CO,EA,Am,Am];refine⟨⟨?_,?_⟩,VY λq hq=>h q (AG _ hq)⟩
  .show (r.map D.int).all (rkD 0)=Aa;rw[Bx];intro d hd;obtain⟨i,_,rfl⟩:=Br.mp hd;rfl
  .have e:eqD (tI r) (.tup [])=decide (r=[]):=PL r [];rw[e];have:=h r (AM ..);simp[this]
noncomputable def Ju(x:Ac Ag):Ac (Ac Ag)->Ac (Ac Ag)
 |[]=>[x]
 |y::ys=>if Cw y x=Aa then y::Ju x ys else x::y::ys
noncomputable def E9:Ac (Ac Ag)->Ac (Ac Ag)
 |[]=>[]
 |x::xs=>Ju x (E9 xs)
theorem VD(x:Ac Ag):∀ ys:Ac (Ac Ag),MC (ltD 1) (tI x) (ys.map tI)=(Ju x ys).map tI
 |[]=>rfl
 |y::ys=>by
  have e:MC (ltD 1) (tI x) ((y::ys).map tI)=if ltD 1 (tI y) (tI x)=Aa then tI y::MC (ltD 1) (tI x) (ys.map tI) else tI x::tI y::ys.map tI:=rfl
  have e':Ju x (y::ys)=if Cw y x=Aa then y::Ju x ys else x::y::ys:=rfl
  rw[e,e',vO,VD x ys];by_cases h:Cw y x=Aa<;>simp[h]
theorem Nc:∀ rs:Ac (Ac Ag),KG (ltD 1) (rs.map tI)=(E9 rs).map tI
 |[]=>rfl
 |r::rs=>by
  show MC (ltD 1) (tI r) (KG (ltD 1) (rs.map tI))=(Ju r (E9 rs)).map tI;rw[Nc rs,VD]
theorem Qu(x:Ac Ag):∀ ys:Ac (Ac Ag),(Ju x ys).Perm (x::ys)
 |[]=>.refl _
 |y::ys=>by
  show (if Cw y x=Aa then y::Ju x ys else x::y::ys).Perm _
  split
  .exact(Jz y (Qu x ys)).trans (List.Perm.swap ..)
  .exact .refl _
theorem JV:∀ rs:Ac (Ac Ag),(E9 rs).Perm rs
 |[]=>.refl _
 |r::rs=>(Qu r _).trans (Jz r (JV rs))
theorem VE(x:Ac Ag):∀{ys:Ac (Ac Ag)},x∉ys->ys.Pairwise (λa b=>Cw a b=Aa)->(Ju x ys).Pairwise (λa b=>Cw a b=Aa)
 |[],_,_=>List.pairwise_singleton ..
 |y::ys,hx,h=>by
  show (if Cw y x=Aa then y::Ju x ys else x::y::ys).Pairwise _
  obtain⟨h1,h2⟩:=Ep.mp h;by_cases g:Cw y x=Aa
  .rw[Ar g];refine Ep.mpr ⟨λz hz=>?_,VE x (λm=>hx (AG _ m)) h2⟩
   rcases AJ.mp ((Qu x ys).mem_iff.mp hz) with rfl|hz
   .exact g
   .exact h1 z hz
  .rw[As g];have g':Cw y x=Af:=by simpa using g
   have xy:Cw x y=Aa:=Oa (λe=>hx (by rw[e];exact AM ..)) g'
   refine Ep.mpr ⟨λz hz=>?_,h⟩
   rcases AJ.mp hz with rfl|hz
   .exact xy
   .exact Oi xy (h1 z hz)
theorem Nd:∀{rs:Ac (Ac Ag)},rs.Nodup->(E9 rs).Pairwise (λa b=>Cw a b=Aa)
 |[],_=>.nil
 |r::rs,h=>by
  obtain⟨h1,h2⟩:=DS.mp h;exact VE r (λm=>h1 ((JV rs).mem_iff.mp m)) (Nd h2)
theorem PX{ys rs:Ac (Ac Ag)}(nd:rs.Nodup)(hs:ys.Pairwise (λa b=>Cw a b=Aa))(hp:ys.Perm rs):E9 rs=ys:=by
 refine List.Perm.eq_of_pairwise (le:=λa b=>Cw a b=Aa) (λa b _ _ h1 h2=>?_) (Nd nd) hs ((JV rs).trans hp.symm)
 rw[M8 h1]at h2;cases h2
theorem Qg{α:Type}[DecidableEq α]:∀{l m:Ac α},l.Nodup->(∀ x∈l,x∈m)->m.length<=l.length->l.Perm m
 |[],m,_,_,hl=>by
  cases m with
  |nil=>exact .refl _
  |cons a m=>simp at hl
 |x::l,m,nd,hs,hl=>by
  obtain⟨h1,h2⟩:=DS.mp nd;have hx:x∈m:=hs x (AM ..);have hp:=List.perm_cons_erase hx;refine(Jz x (Qg h2 (λy hy=>?_) ?_)).trans hp.symm
  .refine(List.mem_erase_of_ne (λe=>h1 (by rw[<-e];exact hy))).mpr (hs y (AG _ hy))
  .have:=List.length_erase_of_mem hx;simp at hl;omega
theorem Ta{ys:Ac (Ac Ag)}(h:ys.Pairwise (λa b=>Cw a b=Aa)):ys.Nodup:=
 h.imp λ{a b} g e=>by
  subst e;have:=M8 g;rw[g]at this;cases this
theorem gH{α:Type}[DecidableEq α]{l m:Ac α}(hl:l.Nodup)(hm:m.Nodup)(h:∀ x,x∈l↔x∈m):l.Perm m:=by
 rw[List.perm_iff_count];intro a;rw[hl.count,hm.count];simp[h]
theorem QK:∀ rs:Ac (Ac Ag),MB (rs.map tI)=Aa↔rs.Nodup
 |[]=>by simp[MB]
 |r::rs=>by
  have e:MB ((r::rs).map tI)=((rs.map tI).all (λy=>!eqD (tI r) y)&&MB (rs.map tI)):=rfl
  rw[e,Am,QK rs,List.nodup_cons];refine and_congr ?_ Iff.rfl;rw[Fu,Bx];constructor
  .intro h m;have:=h r m;simp[Wb]at this
  .intro h q hq;have:r≠q:=λz=>h (by rw[z];exact hq)
   simp[Wb,this]
theorem S8{rs ys:Ac (Ac Ag)}(hn:∀ r∈rs,r≠[])(nd:rs.Nodup)(hz:rs.length<=1000)(hs:ys.Pairwise (λa b=>Cw a b=Aa))(hm:∀ r,r∈ys↔r∈rs):Hu (rs.map tI)=.ok (ys.map tI):=by
 unfold Hu;rw[Ar (by rw[VY hn,(QK rs).mpr nd,AF,BG hz];rfl),Nc,PX nd hs (gH (Ta hs) nd hm)]
theorem fF{xs:Ac D}{d:Ac D}(h:Hu xs=.ok d):∃ rs:Ac (Ac Ag),xs=rs.map tI/\(∀ r∈rs,r≠[])/\rs.Nodup/\rs.length<=1000/\d=(E9 rs).map tI:=by
 unfold Hu at h;split at h
 .next g=>
  rw[Am,Am,AU]at g;obtain⟨rs,e,hn⟩:=VW g.1.1;subst e;rw[Nc]at h;cases h;exact⟨rs,rfl,hn,(QK rs).mp g.1.2,by simpa using g.2,rfl⟩
 .cases h
open PySem PySem.Spec PyProof.Rows L2
variable{n:Ae}{p:Au Ae}
section
variable{X:Cx}{CL:ClA}{W:XW}
theorem TH{K:Fg}{H:Hp}{A:Al->Prop}:∀{is:Ac Ag}{ys:Ac V},Reps K CL H A ys (is.map D.int)->ys=is.map V.int
 |[],[],_=>rfl
 |[],_::_,r=>r.elim
 |_::_,[],r=>r.elim
 |i::is,y::ys,r=>by
  have e1:y=.int i:=r.1;rw[TH r.2,e1];rfl
theorem Uj:∀{is:Ac Ag}{its:Ac Ai},Bb (is.map V.int) its->Fc its is
 |[],_,h=>by cases h;exact .nil
 |i::is,_,h=>by
  cases h with
  |cons h1 h2=>
   obtain⟨t,rfl⟩:=h1;exact .cons i t (Uj h2)
theorem Uz{pins:Pn}{s:Ap}{Z:Ac (Ao V)}{H:Hp}{A:Al->Prop}(I:Inv X pins Z H s):∀{rs:Ac (Ac Ag)}{ys:Ac V}{its:Ac Ai},Reps X.K CL H A ys (rs.map tI)->Bb ys its->(∀ r∈rs,r≠[])->∀(i:Ae)(v:Ai)(r:Ac Ag),its[i]?=Ab v->rs[i]?=Ab r->ET s.heap v r
 |[],_,_,_,_,_,i,v,r,_,e=>by cases e
 |_::_,[],_,h,_,_,_,_,_,_,_=>h.elim
 |q::rs,y::ys,_,h,hv,hn,i,v,r,e1,e2=>by
  cases hv with
  |cons h1 h2=>
   cases i with
   |succ i=>exact Uz I h.2 h2 (λr m=>hn r (AG _ m)) i v r e1 e2
   |zero=>
    cases e1;cases e2;have h0:CY X.K CL H A y (.tup (q.map D.int)):=.inl h.1;obtain⟨a,xs,rfl,_,sq,rx⟩:=h0.tup_of;obtain⟨its,hi,ht,_⟩:=I.tuple sq;rw[TH rx]at hi;cases h1;exact⟨a,its.toArray,rfl,ht,Uj hi,hn q (AM ..)⟩
theorem PV{ys:Ac V}{its:Ac Ai}(h:Bb ys its):∀ l:Ac Ae,(∀ i∈l,i<ys.length)->Bb (l.map λi=>ys.getD i .non) (l.map λi=>its.getD i AI)
 |[],_=>.nil
 |i::l,hl=>by
  have hi:i<ys.length:=hl i (AM ..);have e:ys[i]?=Ab ys[i]:=AC hi;obtain⟨u,e2,r⟩:=h.get e;refine .cons ?_ (PV h l λj hj=>hl j (AG _ hj))
  show BM (ys.getD i .non) (its.getD i AI);rw[A8,A8,e,e2];exact r
theorem Vk{K:Fg}{H:Hp}{A:Al->Prop}:∀{ys:Ac V}{ds:Ac D}{i:Ae},Reps K CL H A ys ds->i<ds.length->Rep K CL H A (ys.getD i .non) (ds.getD i .non)
 |[],[],_,_,h=>by cases h
 |[],_::_,_,r,_=>r.elim
 |_::_,[],_,r,_=>r.elim
 |y::ys,d::ds,0,r,_=>r.1
 |y::ys,d::ds,i+1,r,h=>Vk (ys:=ys) (ds:=ds) (i:=i) r.2 (Nat.lt_of_succ_lt_succ h)
theorem P0{K:Fg}{H:Hp}{A:Al->Prop}{ys:Ac V}{ds:Ac D}(h:Reps K CL H A ys ds):∀ l:Ac Ae,(∀ i∈l,i<ds.length)->Reps K CL H A (l.map λi=>ys.getD i .non) (l.map λi=>ds.getD i .non)
 |[],_=>trivial
 |i::l,hl=>⟨Vk h (hl i (AM ..)),P0 h l λj hj=>hl j (AG _ hj)⟩
theorem Mg(hp:Pm n p):∀ i∈p.toList,i<n:=λi hi=>by
 obtain⟨j,hj,e⟩:=List.mem_iff_getElem.mp hi;have hj':j<n:=by rw[<-hp.sz];simpa using hj
 have:=hp.lt j hj';unfold at0 at this;rw[Bz,<-BZ,AC hj,e]at this;exact this
theorem OR(hp:Pm n p){j:Ae}(hj:j<p.toList.length):at0 p j=p.toList[j]:=by
 unfold at0;rw[Bz,<-BZ,AC hj];rfl
theorem Tv{rs:Ac (Ac Ag)}(nd:rs.Nodup)(hp:Pm rs.length p)(hs:MA (ltR rs) p rs.length):p.toList.map (λi=>rs.getD i [])=E9 rs:=by
 have hl:p.toList.length=rs.length:=by rw[AR,hp.sz]
 have pw:(p.toList.map (λi=>rs.getD i [])).Pairwise (λa b=>Cw a b=Aa):=by
  rw[List.pairwise_map,BO];intro i j hi hj hij;have:=hs i j hij (by omega)
  rw[OR hp hi,OR hp hj]at this;exact this
 refine(PX nd pw (Qg (Ta pw) (λx hx=>?_) (by rw[AF,hl];exact Ay _))).symm
 obtain⟨i,hi,rfl⟩:=Br.mp hx;have:=Mg hp i hi;rw[A8,AC this];exact C8 this
theorem iK:O2 X CL W (.builtin "sorted") (biD .sorted):=by
  intro A H0 pins s Z H xs us Q I r ⟨s0,hA,ds,rs,p⟩;by_cases hls:∃ es,ds=[.lst es]
  · obtain⟨es,rfl⟩:=hls;obtain⟨v,rfl,rv⟩:=rs.one;obtain⟨q,ys,rfl,sq,ry⟩:=rv.lst_of;have p':Bg (EV X.K CL Aa H0 A) W H ((Hu es).bind λb=>.ok (.lst b)) Q:=p
    cases hd:Hu es with
    |exn x=>
      unfold Hu at hd;split at hd<;>cases hd
    |bad=>
      rw[hd]at p';exact p'.elim
    |ok d=>
      rw[hd]at p';obtain⟨rs',rfl,hn,nd,h1000,rfl⟩:=fF hd;obtain⟨u,rfl,rx⟩:=J3 r;cases rx;obtain⟨its,hv,pl,hz⟩:=I.list sq;have l1:ys.length=rs'.length:=by rw[ry.length,AF]
      have l2:ys.length=its.length:=hv.length;refine fD pl.isList (by omega) (Uz I ry hv hn) nd (by omega) λpp hp hs=>?_
      rw[<-l2,l1]at hp hs;have e1:=Tv nd hp hs;have rp:=P0 ry pp.toList (λi hi=>by rw[AF];exact Mg hp i hi)
      have e2:(pp.toList.map λi=>(rs'.map tI).getD i .non)=(E9 rs').map tI:=by
        rw[<-e1,Bl]
        apply B7
        intro i hi;have:=Mg hp i hi;simp[AC this]
      rw[e2]at rp;have vp:=PV hv pp.toList (λi hi=>by rw[l1];exact Mg hp i hi)
      obtain⟨c,hat⟩:=sortedAll_at s.heap its (IM its pp);have hf:=I.hok.fresh (KS s.heap.objs.size);refine⟨.ref (s.heap.objs.size+1),_,I.laid (t':=s.toks) (λb o hb=>sortedAll_old hb) (KS _) (o:=.lst (pp.toList.map λi=>ys.getD i .non)) ?_,rfl,p' _ _ (GR hf _) (L4 s0 hA hf rp)⟩
      refine⟨?_,pp.toList.map λi=>its.getD i AI,c,vp,hat⟩
      rw[AF,AR,hp.sz,Bv];omega
  · have e:biD .sorted ds=.bad:=by
      match ds with
      |[]=>rfl
      |[x]=>cases x<;>first|rfl|exact absurd ⟨_,rfl⟩ hls
      |x::_::_=>cases x<;>rfl
    rw[e]at p;exact p.elim
end
end Ov
end
section
namespace Ov
open PySem PySem.Spec PyProof.Rows
section
variable{t:EF}{hashAt:Ae->Ag}{h:Ag}
noncomputable def stand(i b:Ae):JD:=⟨i,0,i,b,Ad⟩
end
section
variable{prog:AQ}{w:AT}{A:AV}{E:Vq}{s:Ap}{K:Type} [DecidableEq K] {knd:KeyKind prog w K}
theorem hbv{ks:Ac Ag}{a:Al}{Q:Aj->Ap->Prop}(hk:CD (C5 prog w) s.heap ks a)(h:Q Aa s):Aw (model prog w) A (KZ 8 (.ref a)) Q E s:=by
 have hT:=hk.typeIs;obtain⟨o,items,n,ho,_,hd,hi⟩:=hk;unfold KZ;refine Ah (Je hT F.slot_tuple_hash.lookup ?_);dsimp only;refine Ah (Dq ho hd ?_);refine Ah ?_;show Aw _ _ (forIn items _ _) _ _ s;rw[<-Xs];refine IC _ (λrest r s'=>r.1=Ad/\s'=s/\∃ ks,ItemsAre (C5 prog w) ks rest) _ ?_ ?_ _ _ ⟨rfl,rfl,ks,hi⟩
 .rintro v rest r s' ⟨hr,rfl,ks,hall⟩;cases hall with
  | @cons k _ ks' _ h1 h2=>
   cases v with
   |int i t=>
    unfold KZ;refine Ah (At ?_);simp only[XC,HA,NO];exact At ⟨rfl,rfl,ks',h2⟩
   |_=>exact absurd (show Af=Aa from h1) Ax
 .rintro⟨r1,r2⟩ s' ⟨hr,rfl,_⟩;simp only at hr;subst hr;exact At h
end
section
variable{prog:AQ}{w:AT}{A:AV}{R:IA->Ap->Prop}{I:Al}{fp wr:Ac Al}{G:Au EC->Au EC->Prop}{n:Ae}{P:Ae->Ai->Prop}{St:Ae->Ap->Prop}
theorem Rm{h h':AK}{k:Ac Ag}{b:Al}(x:CD (C5 prog w) h k b)(e:∀ o,h.get? b=Ab o->h'.get? b=Ab o):CD (C5 prog w) h' k b:=by
 obtain⟨o,items,n,ho,r⟩:=x;exact⟨o,items,n,e o ho,r⟩
end
section
variable{prog:AQ}{w:AT}{A:AV}{E:Vq}{s:Ap}
end
end Ov
end
namespace Ov
open PySem
variable{m r T j k:Ae}{e:Ag×Ai}{h:Ag}{owner:Au (Ao Ae)}
def Mk(m:Ae):Prop:=m=7\/m=31\/m=127\/m=511
noncomputable def wI(m:Ae)(h:Ag):Ae->Ae×Ae
 |0=>(Di h%(m+1),Di h)
 |T+1=>SetTable.leap m (wI m h T).1 (wI m h T).2
noncomputable def pI(m:Ae)(h:Ag)(T:Ae):Ae:=(wI m h T).1
noncomputable def mo(m i:Ae):Ae:=FZ m i-i
theorem II(m:Ae)(h:Ag)(T:Ae):pI m h T<=m:=by
 unfold pI;cases T with
 |zero=>exact Dv (Ly _ (YA m))
 |succ T=>exact Dv (Ly _ (YA m))
theorem WV(m i:Ae):mo m i<=9:=by
 unfold mo FZ;split<;>omega
theorem Jp{i:Ae}(hi:i<=m)(hr:r<=mo m i):i+r<=m:=by
 unfold mo FZ at hr;split at hr<;>omega
theorem W2(m:Ae)(h:Ag):∀ T,(wI m h T).2=Di h/32 ^ T
 |0=>by simp[wI]
 |T+1=>by
  show (wI m h T).2/32=_;rw[W2 m h T,Yt,Nat.pow_succ]
theorem pD(h:Ag):Di h<2 ^ 64:=by
 unfold Di;have h0:=DQ h (show (2 ^ 64:Ag)≠0 by decide)
 have h1:=DJ h (show (0:Ag)<2 ^ 64 by decide)
 omega
noncomputable def itf(M:Ae):Ae->Ae->Ae
 |0,x=>x
 |s+1,x=>itf M s ((x*5+1)%M)
theorem Ni(M:Ae):∀(a b x:Ae),itf M (a+b) x=itf M b (itf M a x)
 |0,b,x=>by rw[DT];rfl
 |a+1,b,x=>by
  rw[show a+1+b=(a+b)+1 by omega]
  exact Ni M a b _
noncomputable def vis(M:Ae):Ae->Ae->Ae->Ae
 |0,_,acc=>acc
 |f+1,x,acc=>vis M f ((x*5+1)%M) (acc ||| 1 <<< x)
theorem UY(M:Ae):∀(f x acc b:Ae),(vis M f x acc).testBit b=Aa->acc.testBit b=Aa\/∃ s,s<f/\itf M s x=b
 |0,_,_,_,h=>.inl h
 |f+1,x,acc,b,h=>by
  rcases UY M f _ _ b h with q|⟨s,hs,e⟩
  .rw[Nat.testBit_or,C1]at q;rcases q with q|q
   .exact .inl q
   .refine .inr ⟨0,by omega,?_⟩
    rw[Nat.one_shiftLeft,Nat.testBit_two_pow,AU]at q;exact q
  .exact .inr ⟨s+1,by omega,e⟩
theorem wA(hm:Mk m):(∀ b,b<=m->∃ s,s<m+1/\itf (m+1) s 0=b)/\itf (m+1) (m+1) 0=0:=by
 have key:∀ M:Ae,vis M M 0 0=2 ^ M-1->∀ b,b<M->∃ s,s<M/\itf M s 0=b:=λM h b hb=>by
  have t:(vis M M 0 0).testBit b=Aa:=by
   rw[h,Nat.testBit_two_pow_sub_one];exact BG hb
  rcases UY M M 0 0 b t with q|q
  .simp at q
  .exact q
 rcases hm with rfl|rfl|rfl|rfl
 .exact⟨λb hb=>key 8 (by decide+kernel) b (by omega),by decide+kernel⟩
 .exact⟨λb hb=>key 32 (by decide+kernel) b (by omega),by decide+kernel⟩
 .exact⟨λb hb=>key 128 (by decide+kernel) b (by omega),by decide+kernel⟩
 .exact⟨λb hb=>key 512 (by decide+kernel) b (by omega),by decide+kernel⟩
theorem aw(hm:Mk m){a b:Ae}(ha:a<=m)(hb:b<=m):∃ s,s<=m/\itf (m+1) s a=b:=by
 obtain⟨c,z⟩:=wA hm;obtain⟨sa,la,rfl⟩:=c a ha;obtain⟨sb,lb,rfl⟩:=c b hb;by_cases h:sa<=sb
 .refine⟨sb-sa,by omega,?_⟩
  rw[<-Ni,show sa+(sb-sa)=sb by omega]
 .refine⟨m+1-sa+sb,by omega,?_⟩
  rw[Ni,<-Ni _ sa (m+1-sa),show sa+(m+1-sa)=m+1 by omega,z]
theorem WR{m:Ae}(h:Ag):∀ s,pI m h (13+s)=itf (m+1) s (pI m h 13)
  |0=>rfl
  |s+1=>by
    have ih:=WR (m:=m) h s;have e:pI m h (13+(s+1))=(pI m h (13+s)*5+1+(wI m h (13+s)).2/32)%(m+1):=rfl;have z:(wI m h (13+s)).2/32=0:=by
      rw[W2,Yt];refine Nat.div_eq_of_lt (AS (pD h) ?_)
      calc 2 ^ 64<=32 ^ 13*32:=by decide
        _<=32 ^ (13+s)*32:=Nat.mul_le_mul_right _ (Yz (by decide) (by omega))
    rw[e,z,G5,ih,show s+1=s+1 from rfl,Ni _ s 1]
    rfl
theorem every(hm:Mk m)(h:Ag){e:Ae}(he:e<=m):∃ T,T<m+15/\pI m h T=e:=by
 obtain⟨s,hs,q⟩:=aw hm (II m h 13) he;exact⟨13+s,by omega,by rw[WR,q]⟩
theorem WM{P:Ae->Prop}:∀ n,P n->∃ k,k<=n/\P k/\∀ j,j<k->¬ P j:=by
 intro n
 induction n using Nat.strongRecOn with
 |ind n ih=>
  intro h;by_cases q:∃ j,j<n/\P j
  .obtain⟨j,hj,pj⟩:=q;obtain⟨k,a,b,c⟩:=ih j hj pj;exact⟨k,by omega,b,c⟩
  .exact⟨n,Ay _,h,λj hj pj=>q ⟨j,hj,pj⟩⟩
structure Stop (m:Ae) (h:Ag) (S:Ae->Aj) (T r:Ae):Prop where
 lt:T<m+15
 le:r<=mo m (pI m h T)
 at_:S (pI m h T+r)=Aa
 ear:∀ T',T'<T->∀ r',r'<=mo m (pI m h T')->S (pI m h T'+r')=Af
 run:∀ r',r'<r->S (pI m h T+r')=Af
theorem Pw(hm:Mk m)(h:Ag)(S:Ae->Aj){e:Ae}(he:e<=m)(hs:S e=Aa):∃ T r,Stop m h S T r:=by
 obtain⟨T0,l0,q0⟩:=every hm h he;obtain⟨T,lT,⟨r0,lr0,sr0⟩,mT⟩:=WM (P:=λT=>∃ r,r<=mo m (pI m h T)/\S (pI m h T+r)=Aa) T0 ⟨0,BK _,by rw[q0];exact hs⟩
 obtain⟨r,lr,sr,mr⟩:=WM (P:=λr=>S (pI m h T+r)=Aa) r0 sr0
 refine⟨T,r,by omega,by omega,sr,λT' lT' r' lr'=>?_,λr' lr'=>?_⟩
 .cases q:S (pI m h T'+r') with
  |false=>rfl
  |true=>exact absurd ⟨r',lr',q⟩ (mT T' lT')
 .cases q:S (pI m h T+r') with
  |false=>rfl
  |true=>exact absurd q (mr r' lr')
section
variable{t:EF}{hashAt:Ae->Ag}{h:Ag}{m:Ae}
noncomputable def prT(m:Ae)(h:Ag)(T r:Ae):JD:=⟨pI m h T+r,mo m (pI m h T)-r,pI m h T,(wI m h T).2,Ad⟩
theorem rR(hm:t.mask=m)(hr:r<mo m (pI m h T)):t.advance (prT m h T r)=prT m h T (r+1):=by
 unfold ZT prT;dsimp only;rw[Ar (by omega)]
 congr 1
theorem kS(hm:t.mask=m)(hr:r=mo m (pI m h T)):t.advance (prT m h T r)=prT m h (T+1) 0:=by
 subst hm;unfold ZT prT;dsimp only;rw[As (by omega)]
 rfl
def Pass(t:EF)(hashAt:Ae->Ag)(h:Ag)(j:Ae):Prop:=∃ i,t.slot j=.live i/\(hashAt i==h)=Af
theorem Vu{p:JD}(hp:Pass t hashAt h p.j)(f:Ae):Cb t hashAt h (f+1) p=Cb t hashAt h f (t.advance p):=by
 obtain⟨i,e,q⟩:=hp;rw[Cb];rw[e];dsimp only;rw[q];rfl
theorem Ri(hm:t.mask=m){T:Ae}:∀ r,r<=mo m (pI m h T)->(∀ r',r'<r->Pass t hashAt h (pI m h T+r'))->∀ f,Cb t hashAt h (f+r) (prT m h T 0)=Cb t hashAt h f (prT m h T r)
 |0,_,_,f=>rfl
 |r+1,hr,hp,f=>by
  have ih:=Ri hm r (by omega) (λr' h'=>hp r' (by omega)) (f+1)
  rw[show f+(r+1)=f+1+r by omega,ih,Vu (p:=prT m h T r) (hp r (by omega)),rR hm (by omega)]
theorem qR(hm:t.mask=m)(hp:∀ r',r'<=mo m (pI m h T)->Pass t hashAt h (pI m h T+r'))(f:Ae):Cb t hashAt h (f+(mo m (pI m h T)+1)) (prT m h T 0)=Cb t hashAt h f (prT m h (T+1) 0):=by
 have e:=Ri hm (mo m (pI m h T)) (Ay _) (λr' h'=>hp r' (by omega)) (f+1)
 rw[show f+(mo m (pI m h T)+1)=f+1+mo m (pI m h T) by omega,e,Vu (p:=prT m h T (mo m (pI m h T))) (hp _ (Ay _)),kS hm rfl]
theorem Um(hm:t.mask=m):∀ T,(∀ T',T'<T->∀ r',r'<=mo m (pI m h T')->Pass t hashAt h (pI m h T'+r'))->∃ c,c<=10*T/\∀ f,Cb t hashAt h (f+c) (prT m h 0 0)=Cb t hashAt h f (prT m h T 0)
 |0,_=>⟨0,Ay _,λ_=>rfl⟩
 |T+1,hp=>by
  obtain⟨c,lc,ec⟩:=Um hm T λT' h'=>hp T' (by omega)
  have l9:=WV m (pI m h T);refine⟨mo m (pI m h T)+1+c,by omega,λf=>?_⟩
  rw[show f+(mo m (pI m h T)+1+c)=f+(mo m (pI m h T)+1)+c by omega,ec,qR hm (hp T (by omega))]
theorem UE(hm:t.mask=m)(lt:T<m+15)(le:r<=mo m (pI m h T))(ear:∀ T',T'<T->∀ r',r'<=mo m (pI m h T')->Pass t hashAt h (pI m h T'+r'))(run:∀ r',r'<r->Pass t hashAt h (pI m h T+r')):∃ f,t.probe hashAt h (t.probeStart h)=Cb t hashAt h (f+1) (prT m h T r):=by
 obtain⟨c,lc,ec⟩:=Um hm T ear;have l9:=WV m (pI m h T);have hl:c+r+1<=10*(m+15):=by omega
 refine⟨10*(m+15)-(c+r+1),?_⟩;have st:t.probeStart h=prT m h 0 0:=by
  subst hm;rfl
 unfold SetTable.probe FB;rw[st,hm,show 10*(m+15)=10*(m+15)-(c+r+1)+1+r+c by omega,ec,Ri hm r le run]
 congr 1
 omega
end
abbrev Own:=Ae->Ao (Ag×Ai)
noncomputable def plc(m:Ae)(own:Own):Ac Ae:=(AD (m+1)).filter λj=>(own j).isSome
noncomputable def ent(m:Ae)(own:Own):Ac (Ag×Ai):=(AD (m+1)).filterMap own
noncomputable def cnt(own:Own)(j:Ae):Ae:=((AD j).filter λj=>(own j).isSome).length
theorem Ts(h:j<=m):AD (m+1)=AD j++j::(EY (j+1) (m-j)):=by
 have e:AD (m+1)=AD j++EY j (m+1-j):=by
  have q:=List.range'_append_1 (s:=0) (m:=j) (n:=m+1-j);rw[DT,show j+(m+1-j)=m+1 by omega]at q
  rw[G4,G4,q]
 rw[e,show m+1-j=(m-j)+1 by omega,List.range'_succ]
theorem LU(own:Own)(h:j<=m):plc m own=((AD j).filter λj=>(own j).isSome)++((if (own j).isSome then [j] else [])++((EY (j+1) (m-j)).filter λj=>(own j).isSome)):=by
 unfold plc;rw[Ts h,X5,C7]
 congr 1
 split<;>rfl
theorem Ml(own:Own):∀ l:Ac Ae,(l.filterMap own).length=(l.filter λj=>(own j).isSome).length
 |[]=>rfl
 |x::l=>by
  rw[B6,C7];cases own x with
  |none=>exact Ml own l
  |some e=>simp[Ml own l]
theorem PP(own:Own)(h:j<=m):ent m own=((AD j).filterMap own)++((own j).toList++((EY (j+1) (m-j)).filterMap own)):=by
 unfold ent;rw[Ts h,List.filterMap_append,B6]
 congr 1
 cases own j<;>rfl
theorem vN{own:Own}{x:Ae}(h:x∈(AD j).filter λj=>(own j).isSome):x<j:=BE.mp (DR.mp h).1
theorem V5{own:Own}{x:Ae}(h:x∈(EY (j+1) k).filter λj=>(own j).isSome):j<x:=by
 have:=(DR.mp h).1;rw[Ie]at this;omega
theorem QC{xs:Au Ae}{j n:Ae}(lo_:∀ i,i<n->xs.getD i j<j)(hi_:∀ i,n<=i->¬ xs.getD i j<j):∀ f lo hi,lo<=n->n<=hi->hi-lo<=f->ZU xs j f lo hi=n
 |0,lo,hi,h1,h2,h3=>by
  show lo=n;omega
 |f+1,lo,hi,h1,h2,h3=>by
  rw[ZU];by_cases c:lo<hi
  .rw[Ar c];dsimp only;by_cases d:xs.getD ((lo+hi)/2) j<j
   .rw[Ar d];have:¬ n<=(lo+hi)/2:=λz=>hi_ _ z d
    exact QC lo_ hi_ f _ _ (by omega) h2 (by omega)
   .rw[As d];have:¬ (lo+hi)/2<n:=λz=>d (lo_ _ z)
    exact QC lo_ hi_ f _ _ h1 (by omega) (by omega)
  .rw[As c];omega
theorem QB{A B:Ac Ae}(hA:∀ x∈A,x<j)(hB:∀ x∈B,¬ x<j):DL (A++B).toArray j=A.length:=by
 have g:∀ i,(A++B).toArray.getD i j=((A++B)[i]?).getD j:=λi=>by
  rw[Bz,Ew]
 unfold DL;refine QC (λi hi=>?_) (λi hi=>?_) _ _ _ (BK _) (by simp) (by simp)
 .rw[g,C2 hi,AC hi];exact hA _ (C8 _)
 .rw[g,BB hi];cases q:B[i-A.length]? with
  |none=>exact Bk j
  |some x=>exact hB x (EO q)
theorem T2(own:Own)(h:j<=m):DL (plc m own).toArray j=cnt own j:=by
 rw[LU own h];refine QB (λx hx=>vN hx) (λx hx=>?_)
 rcases DC.mp hx with hx|hx
 .split at hx
  .rw[A6.mp hx];exact Bk _
  .cases hx
 .have:=V5 hx;omega
structure Lnk (t:EF) (es:Au (Ag×Ai)) (m:Ae) (own:Own):Prop where
 mask:t.mask=m
 dum:t.dummies=#[]
 pl:t.place=(plc m own).toArray
 en:es=(ent m own).toArray
section
variable{t:EF}{es:Au (Ag×Ai)}{m:Ae}{own:Own}
theorem Lnk.slot(L:Lnk t es m own){j:Ae}(h:j<=m):t.slot j=if (own j).isSome=Aa then .live (cnt own j) else .empty:=by
 unfold SetTable.slot Ks;rw[L.pl,L.dum,T2 own h];dsimp only;have e:(plc m own).toArray[cnt own j]?=(if (own j).isSome=Aa then Ab j else ((EY (j+1) (m-j)).filter λj=>(own j).isSome)[0]?):=by
  rw[Ew,LU own h,BB (show _<=cnt own j from Ay _)]
  show (_:Ac Ae)[cnt own j-cnt own j]?=_;rw[Kn];split<;>rfl
 rw[e];by_cases c:(own j).isSome=Aa
 .rw[Ar c,Ar c,Ar (by simp)]
 .rw[As c,As c];rw[As,As (by simp)]
  intro z;have z':=eq_of_beq z;exact Bk j (V5 (EO z'))
theorem Lnk.entry(L:Lnk t es m own)(h:j<=m)(q:own j=Ab e):es[cnt own j]?=Ab e:=by
 rw[L.en,Ew,PP own h,BB (by rw[Ml];exact Ay _),Ml]
 show (_:Ac (Ag×Ai))[cnt own j-cnt own j]?=_;rw[Kn,q];rfl
theorem Lnk.size(L:Lnk t es m own):es.size=(plc m own).length:=by
 rw[L.en,AO];exact Ml own _
theorem Lnk.mem(L:Lnk t es m own):e∈es↔∃ j,j<=m/\own j=Ab e:=by
 rw[L.en,List.mem_toArray];unfold ent;rw[Yj];constructor
 .rintro⟨j,h1,h2⟩;exact⟨j,Dv (BE.mp h1),h2⟩
 .rintro⟨j,h1,h2⟩;exact⟨j,BE.mpr (by omega),h2⟩
end
noncomputable def Gc(own:Own)(j:Ae)(e:Ag×Ai):Own:=λk=>if k=j then Ab e else own k
theorem JT{own:Own}:Gc own j e j=Ab e:=Ar rfl
theorem Ht{own:Own}(h:k≠j):Gc own j e k=own k:=As h
theorem Ul{α:Type}(A B:Ac α)(x:α):CS (A++B).toArray A.length x=(A++x::B).toArray:=by
 unfold CS
 apply Lx
 simp[Ch,List.take_append,List.drop_append]
theorem MY{own own':Own}:∀ l:Ac Ae,(∀ k∈l,own k=own' k)->(l.filter λj=>(own j).isSome)=l.filter λj=>(own' j).isSome
 |[],_=>rfl
 |x::l,h=>by
  rw[C7,C7,h x (by simp),MY l λk hk=>h k (by simp[hk])]
theorem PK{own own':Own}:∀ l:Ac Ae,(∀ k∈l,own k=own' k)->l.filterMap own=l.filterMap own'
 |[],_=>rfl
 |x::l,h=>by
  rw[B6,B6,h x (by simp),PK l λk hk=>h k (by simp[hk])]
section
variable{t:EF}{es:Au (Ag×Ai)}{m:Ae}{own:Own}
theorem Lnk.put(L:Lnk t es m own){j:Ae}(h:j<=m)(hn:own j=Ad)(e:Ag×Ai):Lnk (t.put j).1 (CS es (t.put j).2 e) m (Gc own j e)/\(t.put j).1.moves=t.moves/\(t.put j).1.led=t.led/\(t.put j).1.plain=t.plain:=by
 have p2:(t.put j).2=cnt own j:=by
  show DL t.place j=_;rw[L.pl,T2 own h]
 have lo:∀ k∈AD j,own k=Gc own j e k:=λk hk=>(Ht (AW (BE.mp hk))).symm
 have hi:∀ k∈EY (j+1) (m-j),own k=Gc own j e k:=λk hk=>by
  rw[Ie]at hk;exact(Ht (by omega)).symm
 refine⟨⟨L.mask,?_,?_,?_⟩,rfl,rfl,rfl⟩
 .show (if Ks t.dummies j=Aa then SetTable.eraseAt t.dummies (DL t.dummies j) else t.dummies)=#[]
  rw[L.dum,As (by unfold Ks;simp)]
 .show CS t.place (t.put j).2 j=_;rw[p2,L.pl,LU own h,LU (Gc own j e) h,hn,JT];show CS (_++([]++_)).toArray _ j=(_++([j]++_)).toArray;rw[IU,<-MY _ lo,<-MY _ hi];exact Ul _ _ j
 .rw[p2,L.en,PP own h,PP (Gc own j e) h,hn,JT,<-PK _ lo,<-PK _ hi];have:=Ul ((AD j).filterMap own) ((EY (j+1) (m-j)).filterMap own) e;rw[Ml]at this;exact this
end
def Rch(occ:Ae->Aj)(m:Ae)(h:Ag)(j:Ae):Prop:=∃ T r,T<m+15/\r<=mo m (pI m h T)/\j=pI m h T+r/\(∀ T',T'<T->∀ r',r'<=mo m (pI m h T')->occ (pI m h T'+r')=Aa)/\∀ r',r'<r->occ (pI m h T+r')=Aa
theorem Rch.mono{occ occ':Ae->Aj}(x:Rch occ m h j)(k:∀ i,occ i=Aa->occ' i=Aa):Rch occ' m h j:=by
 obtain⟨T,r,a,b,c,d,e⟩:=x;exact⟨T,r,a,b,c,λT' h1 r' h2=>k _ (d T' h1 r' h2),λr' h1=>k _ (e r' h1)⟩
noncomputable def occ(own:Own):Ae->Aj:=λj=>(own j).isSome
structure WF (m:Ae) (own:Own):Prop where
 km:Mk m
 rng:∀ j e,own j=Ab e->j<=m
 rch:∀ j e,own j=Ab e->Rch (occ own) m e.1 j
 inj:∀ j j' e e',own j=Ab e->own j'=Ab e'->e.1=e'.1->j=j'
noncomputable def hAt(es:Au (Ag×Ai))(i:Ae):Ag:=(es[i]?.map (·.1)).getD 0
section
variable{t:EF}{es:Au (Ag×Ai)}{m:Ae}{own:Own}{h:Ag}
theorem Lnk.pass(L:Lnk t es m own)(hj:j<=m)(q:own j=Ab e)(ne:e.1≠h):Pass t (hAt es) h j:=by
 refine⟨cnt own j,?_,?_⟩
 .rw[L.slot hj,q];rfl
 .unfold hAt;rw[L.entry hj q];exact E7.mpr ne
theorem fG(L:Lnk t es m own)(W:WF m own){j0:Ae}(q:own j0=Ab e):∃ nx,t.probe (hAt es) e.1 (t.probeStart e.1)=Ab (.candidate j0 (cnt own j0) nx):=by
  obtain⟨T0,r0,a,b,c,d,f⟩:=W.rch j0 e q;have hj0:=W.rng j0 e q
  let S:Ae->Aj:=λj=>match own j with
    |none=>Aa
    |some e'=>e'.1==e.1
  have S0:S j0=Aa:=by
    show (match own j0 with|none=>Aa|some e'=>e'.1==e.1)=Aa
    rw[q];exact CM _
  obtain⟨T,r,st⟩:=Pw W.km e.1 S hj0 S0;have hT:T<=T0:=Nat.le_of_not_lt λz=>by
    have:=st.ear T0 z r0 b;rw[<-c,S0]at this;cases this
  have hin:pI m e.1 T+r<=m:=Jp (II _ _ _) st.le;have key:pI m e.1 T+r=j0:=by
    have at_:=st.at_;cases o:own (pI m e.1 T+r) with
    |some e'=>
      have z:(e'.1==e.1)=Aa:=by
        have:S (pI m e.1 T+r)=(e'.1==e.1):=by
          show (match own (pI m e.1 T+r) with|none=>Aa|some e'=>e'.1==e.1)=_
          rw[o]
        rw[<-this];exact at_
      exact W.inj _ _ _ _ o q (eq_of_beq z)
    |none=>
      exfalso
      rcases Er hT with lt|eq
      · have:=d T lt r st.le;unfold occ at this;rw[o]at this;cases this
      · subst eq;rcases Gq r r0 with lt|eq|gt
        · have:=f r lt;unfold occ at this;rw[o]at this;cases this
        · subst eq;rw[<-c,q]at o;cases o
        · have:=st.run r0 gt;rw[<-c,S0]at this;cases this
  have pass:∀ j,j<=m->S j=Af->Pass t (hAt es) e.1 j:=λj hj z=>by
    cases o:own j with
    |none=>
      have:S j=Aa:=by
        show (match own j with|none=>Aa|some e'=>e'.1==e.1)=Aa
        rw[o]
      rw[this]at z;cases z
    |some e'=>
      refine L.pass hj o λy=>?_
      have:S j=Aa:=by
        show (match own j with|none=>Aa|some e'=>e'.1==e.1)=Aa
        rw[o];exact A9.mpr y
      rw[this]at z;cases z
  obtain⟨g,eg⟩:=UE (h:=e.1) L.mask st.lt st.le (λT' h1 r' h2=>pass _ (Jp (II _ _ _) h2) (st.ear T' h1 r' h2)) λr' h1=>pass _ (Jp (II _ _ _) (by have:=st.le;omega)) (st.run r' h1)
  rw[eg];refine⟨t.advance (prT m e.1 T r),?_⟩;have sl:t.slot j0=.live (cnt own j0):=by rw[L.slot hj0,q];rfl
  have hh:hAt es (cnt own j0)=e.1:=by unfold hAt;rw[L.entry hj0 q];rfl
  rw[Cb,show (prT m e.1 T r).j=pI m e.1 T+r from rfl,key,sl]
  show (if (hAt es (cnt own j0)==e.1)=Aa then _ else _)=_
  rw[hh,Ar (CM _)]
theorem dY(L:Lnk t es m own)(hm:Mk m)(no:∀ j e,own j=Ab e->e.1≠h){z:Ae}(hz:z<=m)(oz:own z=Ad):∃ j,j<=m/\own j=Ad/\Rch (occ own) m h j/\t.probe (hAt es) h (t.probeStart h)=Ab (.empty j Ad):=by
 obtain⟨T,r,st⟩:=Pw hm h (λj=>(own j).isNone) hz (by rw[oz];rfl)
 have at_:own (pI m h T+r)=Ad:=YC.mp st.at_;have oc:∀ j,(own j).isNone=Af->occ own j=Aa:=λj q=>by
  unfold occ;cases o:own j with
  |none=>rw[o]at q;cases q
  |some=>rfl
 have pass:∀ j,j<=m->(own j).isNone=Af->Pass t (hAt es) h j:=λj hj q=>by
  cases o:own j with
  |none=>rw[o]at q;cases q
  |some e=>exact L.pass hj o (no j e o)
 refine⟨pI m h T+r,Jp (II _ _ _) st.le,at_,⟨T,r,st.lt,st.le,rfl,λT' h1 r' h2=>oc _ (st.ear T' h1 r' h2),λr' h1=>oc _ (st.run r' h1)⟩,?_⟩
 obtain⟨g,eg⟩:=UE L.mask st.lt st.le (λT' h1 r' h2=>pass _ (Jp (II _ _ _) h2) (st.ear T' h1 r' h2)) λr' h1=>pass _ (Jp (II _ _ _) (by have:=st.le;omega)) (st.run r' h1)
 rw[eg,Cb,show (prT m h T r).j=pI m h T+r from rfl,L.slot (Jp (II _ _ _) st.le),at_]
 rfl
end
theorem To{occ:Ae->Aj}(h:((AD (m+1)).filter λj=>occ j).length<=m):∃ z,z<=m/\occ z=Af:=by
 by_cases q:∃ z,z<=m/\occ z=Af
 .exact q
 .exfalso
  have all:∀ j∈AD (m+1),occ j=Aa:=λj hj=>by
   cases o:occ j with
   |true=>rfl
   |false=>exact absurd ⟨j,Dv (BE.mp hj),o⟩ q
  rw[List.filter_eq_self.mpr all,D9]at h;omega
theorem WF.put{own:Own}(W:WF m own)(hj:j<=m)(hn:own j=Ad)(r:Rch (occ own) m e.1 j)(no:∀ j e',own j=Ab e'->e'.1≠e.1):WF m (Gc own j e):=by
 have mo':∀ i,occ own i=Aa->occ (Gc own j e) i=Aa:=λi q=>by
  unfold occ at *;by_cases z:i=j
  .rw[z,JT];rfl
  .rw[Ht z];exact q
 refine⟨W.km,λk x q=>?_,λk x q=>?_,λk k' x x' q q' z=>?_⟩
 .by_cases y:k=j
  .rw[y];exact hj
  .rw[Ht y]at q;exact W.rng k x q
 .by_cases y:k=j
  .rw[y,JT]at q;cases q;rw[y];exact r.mono mo'
  .rw[Ht y]at q;exact(W.rch k x q).mono mo'
 .by_cases y:k=j
  .by_cases y':k'=j
   .rw[y,y']
   .rw[y,JT]at q;cases q;rw[Ht y']at q';exact absurd z.symm (no k' x' q')
  .by_cases y':k'=j
   .rw[y',JT]at q';cases q';rw[Ht y]at q;exact absurd z (no k x q)
   .rw[Ht y]at q;rw[Ht y']at q';exact W.inj k k' x x' q q' z
theorem Vl{own:Own}(hj:j<=m)(hn:own j=Ad):(plc m (Gc own j e)).length=(plc m own).length+1:=by
 have lo:∀ k∈AD j,own k=Gc own j e k:=λk hk=>(Ht (AW (BE.mp hk))).symm
 have hi:∀ k∈EY (j+1) (m-j),own k=Gc own j e k:=λk hk=>by
  rw[Ie]at hk;exact(Ht (by omega)).symm
 rw[LU own hj,LU (Gc own j e) hj,hn,JT,<-MY _ lo,<-MY _ hi];simp only[Bt];show _+(1+_)=_+(0+_)+1;omega
noncomputable def oc(owner:Au (Ao Ae))(j:Ae):Ao Ae:=owner.getD j Ad
structure LC (m:Ae) (hs:Ac Ag) (owner:Au (Ao Ae)) (k:Ae):Prop where
 sz:owner.size=m+1
 lt:∀ j k',oc owner j=Ab k'->k'<k/\j<=m
 rc:∀ j k' h,oc owner j=Ab k'->hs[k']?=Ab h->Rch (λj=>(oc owner j).isSome) m h j
 on:∀ k',k'<k->∃ j,j<=m/\oc owner j=Ab k'
 nj:∀ j j' k',oc owner j=Ab k'->oc owner j'=Ab k'->j=j'
 ct:((AD (m+1)).filter λj=>(oc owner j).isSome).length=k
theorem Ll{i:Ae}{x:Ao Ae}(hj:j<owner.size):oc (owner.setIfInBounds j x) i=if i=j then x else oc owner i:=by
 unfold oc;rw[Bz,Bz,Array.getElem?_setIfInBounds];by_cases z:i=j
 .subst z;rw[Ar rfl,Ar rfl,Ar hj];rfl
 .rw[As (Ea z),As z]
theorem Vw{m:Ae}{h:Ag}{owner:Au (Ao Ae)}{T r:Ae}(st:Stop m h (λj=>(owner.getD j (Ab 0)).isNone) T r):∀ f T0,T0<=T->T-T0<f->En m owner f (pI m h T0) (wI m h T0).2=Ab (pI m h T+r)
 |0,T0,_,h2=>by omega
 |f+1,T0,h1,h2=>by
  rw[En];have e:FZ m (pI m h T0)+1-pI m h T0=mo m (pI m h T0)+1:=by
   unfold mo FZ;split<;>omega
  rw[e];rcases Er h1 with lt|eq
  .have fn:(AD (mo m (pI m h T0)+1)).find? (λk=>(owner.getD (pI m h T0+k) (Ab 0)).isNone)=Ad:=by
    rw[List.find?_eq_none];intro k hk;have:=st.ear T0 lt k (Dv (BE.mp hk));rw[this];exact Ax
   rw[fn];exact Vw st f (T0+1) lt (by omega)
  .subst eq;have fs:(AD (mo m (pI m h T0)+1)).find? (λk=>(owner.getD (pI m h T0+k) (Ab 0)).isNone)=Ab r:=by
    rw[List.find?_range_eq_some];refine⟨st.at_,BE.mpr (Yv st.le),λk hk=>?_⟩
    have:=st.run k hk;rw[this];rfl
   rw[fs]
theorem qD{hs:Ac Ag}(hm:Mk m)(x:LC m hs owner k)(hk:k<=m)(eh:hs[k]?=Ab h):∃ j,En m owner (FB m) (Di h%(m+1)) (Di h)=Ab j/\LC m hs (owner.setIfInBounds j (Ab k)) (k+1):=by
 obtain⟨z,hz,oz⟩:=To (occ:=λj=>(oc owner j).isSome) (m:=m) (by rw[x.ct];exact hk)
 have sm:∀ j,j<=m->(owner.getD j (Ab 0)).isNone=!(oc owner j).isSome:=λj hj=>by
  unfold oc;rw[Bz,Bz,BN (by rw[x.sz];omega)]
  cases owner[j]'(by rw[x.sz];omega)<;>rfl
 obtain⟨T,r,st⟩:=Pw hm h (λj=>(owner.getD j (Ab 0)).isNone) hz (by rw[sm z hz];rw[oz];rfl)
 have hj:pI m h T+r<=m:=Jp (II _ _ _) st.le;have oj:oc owner (pI m h T+r)=Ad:=by
  have:=st.at_;rw[sm _ hj]at this;cases o:oc owner (pI m h T+r) with
  |none=>rfl
  |some=>rw[o]at this;cases this
 have hs':pI m h T+r<owner.size:=by rw[x.sz];omega
 have occ':∀ j,j<=m->(owner.getD j (Ab 0)).isNone=Af->(oc owner j).isSome=Aa:=λj h1 h2=>by
  rw[sm j h1]at h2;cases q:(oc owner j).isSome with
  |true=>rfl
  |false=>rw[q]at h2;cases h2
 have rj:Rch (λj=>(oc owner j).isSome) m h (pI m h T+r):=⟨T,r,st.lt,st.le,rfl,λT' h1 r' h2=>occ' _ (Jp (II _ _ _) h2) (st.ear T' h1 r' h2),λr' h1=>occ' _ (Jp (II _ _ _) (by have:=st.le;omega)) (st.run r' h1)⟩
 refine⟨pI m h T+r,Vw st (FB m) 0 (BK _) (by have:=st.lt;unfold FB;omega),?_⟩
 have mono:∀ i,(oc owner i).isSome=Aa->(oc (owner.setIfInBounds (pI m h T+r) (Ab k)) i).isSome=Aa:=λi q=>by
  rw[Ll hs'];split
  .rfl
  .exact q
 refine⟨by rw[Xz];exact x.sz,λj k' q=>?_,λj k' h' q e=>?_,λk' q=>?_,λj j' k' q q'=>?_,?_⟩
 .rw[Ll hs']at q;split at q
  .rename_i z;cases q;rw[z];exact⟨FL _,hj⟩
  .exact⟨By (x.lt j k' q).1,(x.lt j k' q).2⟩
 .rw[Ll hs']at q;split at q
  .rename_i z;cases q;rw[eh]at e;cases e;rw[z];exact rj.mono mono
  .exact(x.rc j k' h' q e).mono mono
 .rcases Er (Dv q) with lt|eq
  .obtain⟨j,h1,h2⟩:=x.on k' lt;refine⟨j,h1,?_⟩;rw[Ll hs',As λz=>by rw[z,oj]at h2;cases h2]
   exact h2
  .refine⟨_,hj,?_⟩;rw[Ll hs',Ar rfl,eq]
 .rw[Ll hs']at q q';split at q
  .rename_i z;cases q;split at q'
   .rename_i z';rw[z,z']
   .exact absurd (x.lt j' k q').1 (Bk _)
  .split at q'
   .cases q';exact absurd (x.lt j k q).1 (Bk _)
   .exact x.nj j j' k' q q'
 .have ow:∀ ow:Au (Ao Ae),((AD (m+1)).filter λj=>(oc ow j).isSome).length=(plc m (λj=>(oc ow j).map λ_=>((0:Ag),AI))).length:=λow=>by
   unfold plc
   congr 2
   funext j
   show _=((oc ow j).map λ_=>((0:Ag),AI)).isSome
   cases oc ow j<;>rfl
  rw[ow];have e:(λj=>(oc (owner.setIfInBounds (pI m h T+r) (Ab k)) j).map λ_=>((0:Ag),AI))=Gc (λj=>(oc owner j).map λ_=>((0:Ag),AI)) (pI m h T+r) (0,AI):=by
   funext i
   unfold Gc;rw[Ll hs'];split<;>rfl
  rw[e,Vl hj (by rw[oj];rfl),<-ow,x.ct]
noncomputable def Rn(m:Ae)(acc:Ao (Au (Ao Ae)×Ae))(h:Ag):Ao (Au (Ao Ae)×Ae):=acc.bind λx=>(En m x.1 (FB m) (Di h%(m+1)) (Di h)).bind λj=>Ab (x.1.setIfInBounds j (Ab x.2),x.2+1)
theorem eA(m:Ae)(hs:Ac Ag):Ii m hs.toArray=(hs.foldl (Rn m) (Ab (IS (m+1) Ad,0))).map (·.1):=by
 unfold Ii;rw[<-Array.foldl_toList];rfl
theorem U_4{m:Ae}{hs:Ac Ag}(hm:Mk m)(hz:hs.length<=m):∀(rest:Ac Ag)(k:Ae)(owner:Au (Ao Ae)),LC m hs owner k->hs.drop k=rest->k<=hs.length->∃ owner',rest.foldl (Rn m) (Ab (owner,k))=Ab (owner',hs.length)/\LC m hs owner' hs.length
 |[],k,owner,x,e,hk=>by
  have:hs.length<=k:=by
   have:=congrArg FV e;rw[EZ]at this;simp at this;omega
  have e2:k=hs.length:=by omega
  subst e2;exact⟨owner,rfl,x⟩
 |h::rest,k,owner,x,e,hk=>by
  have lk:k<hs.length:=by
   have:=congrArg FV e;rw[EZ,A5]at this;omega
  have eh:hs[k]?=Ab h:=by
   have:(hs.drop k)[0]?=(h::rest)[0]?:=by rw[e]
   rw[HB,G5]at this;rw[this];rfl
  obtain⟨j,ej,x'⟩:=qD hm x (by omega) eh
  have e':hs.drop (k+1)=rest:=by
   rw[<-Hl,e];rfl
  obtain⟨owner',h1,h2⟩:=U_4 hm hz rest (k+1) _ x' e' lk;refine⟨owner',?_,h2⟩;rw[X7];have:Rn m (Ab (owner,k)) h=Ab (owner.setIfInBounds j (Ab k),k+1):=by
   show (En m owner (FB m) (Di h%(m+1)) (Di h)).bind _=_;rw[ej];rfl
  rw[this];exact h1
theorem OD(n j:Ae):oc (IS n Ad) j=Ad:=by
 unfold oc;rw[Bz,Array.getElem?_replicate];split<;>rfl
theorem qC(m:Ae)(hs:Ac Ag):LC m hs (IS (m+1) Ad) 0:=by
 refine⟨Array.size_replicate,λj k' q=>?_,λj k' h q=>?_,λk' q=>(by omega),λj j' k' q=>?_,?_⟩
 .rw[OD]at q;cases q
 .rw[OD]at q;cases q
 .rw[OD]at q;cases q
 .rw[List.length_eq_zero_iff,List.filter_eq_nil_iff];intro j _;rw[OD];exact Ax
theorem V7{α:Type}{f:Ae->Ao Ae}{g:Ae->Ao α}:∀ l:Ac Ae,(∀ j∈l,(f j).isSome=(g j).isSome)->(l.filterMap λj=>(f j).map (j,·)).map (·.1)=l.filter λj=>(g j).isSome
 |[],_=>rfl
 |x::l,h=>by
  have hx:=h x (by simp)
  have ih:=V7 l λj hj=>h j (by simp[hj])
  rw[B6,C7,<-hx];cases f x with
  |none=>exact ih
  |some k=>simp[ih]
theorem V6{α:Type}{f:Ae->Ao Ae}{e:Ae->Ao α}:∀ l:Ac Ae,((l.filterMap λj=>(f j).map (j,·)).map (·.2)).filterMap e=l.filterMap λj=>(f j).bind e
 |[]=>rfl
 |x::l=>by
  have ih:=V6 (f:=f) (e:=e) l;rw[B6,B6];cases f x with
  |none=>exact ih
  |some k=>
   show X4 e (k::_)=match e k with|none=>_|some b=>_
   rw[B6,ih];cases e k<;>rfl
theorem gI(hm:Mk m){es:Au (Ag×Ai)}(hz:es.size<=m)(nd:(es.toList.map (·.1)).Nodup)(finger moves:Ae)(led plain:Aj):∃ t' order own',ZV m finger moves led plain (es.map (·.1))=Ab (t',order)/\Lnk t' (order.filterMap (es[·]?)) m own'/\WF m own'/\(∀ e,(∃ j,own' j=Ab e)↔e∈es)/\t'.led=led/\t'.plain=plain:=by
 have em:es.map (·.1)=(es.toList.map (·.1)).toArray:=by
  apply Lx
  simp
 have hl:(es.toList.map (·.1)).length=es.size:=by simp
 obtain⟨owner,h1,x⟩:=U_4 hm (by rw[hl];exact hz) (es.toList.map (·.1)) 0 _ (qC m _) (Hm) (BK _)
 have lc:Ii m (es.map (·.1))=Ab owner:=by
  rw[em,eA,h1];rfl
 have inb:∀ j k,oc owner j=Ab k->∃ e,es[k]?=Ab e:=λj k q=>by
  have:=(x.lt j k q).1;rw[hl]at this;exact⟨_,BN this⟩
 have hsk:∀(k:Ae)(e:Ag×Ai),es[k]?=Ab e->(es.toList.map (·.1))[k]?=Ab e.1:=λk e q=>by
  rw[BC,BZ,q];rfl
 let own':Own:=λj=>(oc owner j).bind λk=>es[k]?
 have oS:∀ j,(oc owner j).isSome=(own' j).isSome:=λj=>by
  show _=((oc owner j).bind λk=>es[k]?).isSome
  cases q:oc owner j with
  |none=>rfl
  |some k=>
   obtain⟨e,he⟩:=inb j k q;show Aa=(es[k]?).isSome;rw[he];rfl
 have un:∀ j e,own' j=Ab e->∃ k,oc owner j=Ab k/\es[k]?=Ab e:=λj e q=>by
  have q':(oc owner j).bind (λk=>es[k]?)=Ab e:=q
  cases o:oc owner j with
  |none=>rw[o]at q';cases q'
  |some k=>rw[o]at q';exact⟨k,rfl,q'⟩
 refine⟨_,_,own',by unfold ZV;rw[lc];rfl,⟨rfl,rfl,?_,?_⟩,⟨hm,λj e q=>?_,λj e q=>?_,λj j' e e' q q' z=>?_⟩,λe=>⟨?_,λq=>?_⟩,rfl,rfl⟩
 .show ((X4 _ _).map _).toArray=_;unfold plc
  congr 1
  exact V7 _ λj _=>oS j
 .unfold ent
  apply Lx
  rw[Array.toList_filterMap];exact V6 _
 .obtain⟨k,a,_⟩:=un j e q;exact(x.lt j k a).2
 .obtain⟨k,a,b⟩:=un j e q;refine(x.rc j k e.1 a (hsk k e b)).mono λi y=>?_
  unfold occ;rw[<-oS];exact y
 .obtain⟨k,a,b⟩:=un j e q;obtain⟨k',a',b'⟩:=un j' e' q';have h3:=hsk k e b;have h4:=hsk k' e' b';have:k=k':=by
   rw[z]at h3;obtain⟨l1,g1⟩:=AZ.mp h3;obtain⟨l2,g2⟩:=AZ.mp h4;exact(Yc nd).mp (g1.trans g2.symm)
  subst this;exact x.nj j j' k a a'
 .rintro⟨j,q⟩;obtain⟨k,a,b⟩:=un j e q;exact Array.mem_of_getElem? b
 .obtain⟨k,lk,e'⟩:=Xx.mp q;obtain⟨j,_,a⟩:=x.on k (by rw[hl];exact lk)
  refine⟨j,?_⟩;show (oc owner j).bind (λk=>es[k]?)=Ab e
  rw[a];show es[k]?=Ab e;rw[BN lk,e']
end Ov
namespace Ov
open PySem PySem.Spec PyProof.Rows
variable{k:Ac Ag}{Q:Aj->Ap->Prop}{b:Al}
noncomputable def Ent(k:Ac Ag)(b:Al):Ag×Ai:=(Dg k,.ref b)
noncomputable def byT(w:AT):Aj:=w.params.followText "set-order"
structure SetI (w:AT) (L:Ac (Ac Ag×Al)) (es:Au (Ag×Ai)) (t:EF) (m:Ae) (own:Own):Prop where
 lk:Lnk t es m own
 wf:WF m own
 ro:es.size*5<m*3
 iff:∀ e,(∃ j,own j=Ab e)↔∃ p∈L,e=Ent p.1 p.2
 sz:es.size=L.length
 pl:t.plain=Aa
 ld:t.led=!(byT w)
def IQ(w:AT)(hp:AK)(a:Al)(L:Ac (Ac Ag×Al)):Prop:=∃ o es ep t m own,hp.get? a=Ab o/\o.ExactSet/\o.data=.set es ep t/\SetI w L es t m own
noncomputable def Jv(L:Ac (Ac Ag×Al))(k:Ac Ag)(b:Al):Ac (Ac Ag×Al):=if (L.any λp=>p.1==k)=Aa then L else L++[(k,b)]
theorem Mv{m:Ae}(h:Mk m):m<=511/\m%2=1/\7<=m:=by
 rcases h with rfl|rfl|rfl|rfl<;>decide
section
variable{t:EF}{es:Au (Ag×Ai)}{m:Ae}{own:Own}
theorem RJ(L:Lnk t es m own)(W:WF m own):(es.toList.map (·.1)).Nodup:=by
 rw[L.en];show ((ent m own).map (·.1)).Nodup;unfold ent;refine Du.mpr (List.Pairwise.filterMap (R:=λa b=>a≠b) own (λa a' ne b hb b' hb' z=>ne (W.inj a a' b b' hb hb' z)) Ym)
theorem Lnk.fits(L:Lnk t es m own)(h:es.size<=m):t.fits es.size=Aa:=by
 have e:t.place.size=es.size:=by rw[L.pl,AO,L.size]
 unfold SetTable.fits Ke;rw[e,L.dum,L.mask];simp;exact h
end
theorem gG{es es':Au (Ag×Ai)}(h1:(es.toList.map (·.1)).Nodup)(h2:(es'.toList.map (·.1)).Nodup)(h:∀ e,e∈es'↔e∈es):es'.size=es.size:=by
 have n1:es.toList.Nodup:=(Du.mp h1).imp λa z=>a (by rw[z])
 have n2:es'.toList.Nodup:=(Du.mp h2).imp λa z=>a (by rw[z])
 have p:=(Yn n2 n1).mpr λe=>by
  rw[EL,EL];exact h e
 have:=p.length_eq;simpa using this
section
variable{prog:AQ}{w:AT}{A:AV}{E:Vq}{s:Ap}
theorem Vd{a:Al}(hk:CD (C5 prog w) s.heap k a)(h:Q Af s):Aw (model prog w) A (Ik 8 (.ref a)) Q E s:=by
 have hT:=hk.typeIs;obtain⟨o,items,n,ho,_,hd,hi⟩:=hk;unfold Ik;refine Ah (Kx hT ?_);dsimp only;rw[Ar (by decide+kernel)]
 refine Ah (At ?_);rw[As (by decide)]
 refine Ah (Dq ho hd ?_);refine Ah ?_;show Aw _ _ (forIn items _ _) _ _ s;rw[<-Xs];refine IC _ (λrest r s'=>r.1=Ad/\s'=s/\∃ ks,ItemsAre (C5 prog w) ks rest) _ ?_ ?_ _ _ ⟨rfl,rfl,k,hi⟩
 .rintro v rest r s' ⟨hr,rfl,ks,hall⟩;cases hall with
  | @cons k _ ks' _ h1 h2=>
   cases v with
   |int i t=>
    unfold Ik;refine Ah (At ?_);simp only[HA,NO];exact At ⟨rfl,rfl,ks',h2⟩
   |_=>exact absurd (show Af=Aa from h1) Ax
 .rintro⟨r1,r2⟩ s' ⟨hr,rfl,_⟩;simp only at hr;subst hr;exact At h
theorem rC(hk:CD (C5 prog w) s.heap k b)(st:Ac Ai)(hs:∀ y∈st,∃ c k',y=.ref c/\CD (C5 prog w) s.heap k' c)(h:Q Af s):Aw (model prog w) A (aX (.ref b) st) Q E s:=by
 unfold aX;refine Ah ?_;refine IC _ (λrest r s'=>r.1=Ad/\s'=s/\∀ y∈rest,y∈st) _ ?_ ?_ _ _ ⟨rfl,rfl,λ_ z=>z⟩
 .rintro v rest r s' ⟨hr,rfl,hall⟩;obtain⟨c,k',rfl,hk'⟩:=hs v (hall v (by simp))
  have fin:∀ r:Ao Aj×IY,r.1=Ad->r.1=Ad/\s'=s'/\∀ y∈rest,y∈st:=λr z=>⟨z,rfl,λy hy=>hall y (by simp[hy])⟩
  dsimp only;by_cases hv:(b==c)=Aa
  .rw[Ar (by rw[hv];rfl)]
   exact At (fin _ rfl)
  .rw[As (by simp at hv;simp[hv,carriedByValue])]
   refine Ah (bC hk ?_);rw[As (by decide)]
   refine Ah (bC hk' ?_);rw[As (by decide)]
   refine Ah (Vd hk ?_);rw[As (by decide)]
   refine Ah (Vd hk' ?_);rw[As (by decide)]
   exact At (fin _ rfl)
 .rintro⟨r1,r2⟩ s' ⟨hr,rfl,_⟩;simp only at hr;subst hr;exact At h
end
section
variable{prog:AQ}{w:AT}{A:AV}{E:Vq}{s:Ap}{a b:Al}{L:Ac (Ac Ag×Al)}{k:Ac Ag}{o:Dx}{es:Au (Ag×Ai)}{ep:Ae}{t:EF}{m:Ae}{own:Own}
theorem SetI.fits(I:SetI w L es t m own):t.fits es.size=Aa:=I.lk.fits (by have:=I.ro;have:=(Mv I.wf.km).2.2;omega)
theorem SetI.way(I:SetI w L es t m own):t.gaveWay=Af:=by
 unfold SetTable.gaveWay;rw[I.lk.mask,(Mv I.wf.km).2.1];rfl
theorem jN(ho:s.heap.get? a=Ab o)(hd:o.data=.set es ep t)(I:SetI w L es t m own)(hk:CD (C5 prog w) s.heap k b)(hL:∀ p∈L,CD (C5 prog w) s.heap p.1 p.2){p:Ac Ag×Al}(hp:p∈L)(he:p.1=k)(hu:A.units<Cj){Q:SetFound->Ap->Prop}(q:Q (.there Ad) s):Aw (model prog w) A (Kw a (.ref b) (Dg k) Aa) Q E s:=by
  obtain⟨j0,oj⟩:=(I.iff (Ent p.1 p.2)).mpr ⟨p,hp,rfl⟩;have hj:=I.wf.rng j0 _ oj;obtain⟨nx,pr⟩:=fG I.lk I.wf oj;have e1:(Ent p.1 p.2).1=Dg k:=by rw[<-he];rfl
  rw[e1]at pr;have en:=I.lk.entry hj oj;unfold Kw HQ;refine Ah (Cd ho hd I.fits ?_);dsimp only;rw[As (by rw[I.way];decide)]
  show Aw _ _ (match t.probe (hAt es) (Dg k) (t.probeStart (Dg k)) with|some met=>_|_=>_) _ _ _
  rw[pr];dsimp only;have go:Aw (model prog w) A (do
      let equal <-holding [Be p.2] (eqBool (.ref p.2) (.ref b))
      let (es',_,t') <-setState a
      if Aa&&equal then return SetFound.there Ad
      let Ab same:=t'.sameMemory t.moves t.mask|unsupported "set.changed-during-lookup:is-the-new-block-at-the-old-address"
      let still <-match (if same then t'.slot j0 else .empty) with
        |.live i'=>match es'[i']? with
          |some (_,y')=>do pure (if <-isSame y' (.ref p.2) then Ab i' else Ad)
          |none=>pure Ad
        |_=>pure Ad
      match still with
      |none=>rule "set.search.anew"; HQ a (.ref b) (Dg k) Aa 99999 Ad
      | some i'=>if equal then return .there (Ab i') else HQ a (.ref b) (Dg k) Aa 99999 (Ab nx)) Q E s:=by
    refine Ah (EG (wpAny_eqBool_tuple hu (hL p hp) hk ?_));rw[BG he];refine Ah (Cd ho hd I.fits ?_);exact At q
  have es':es[cnt own j0]?=Ab (Dg p.1,Be p.2):=en;by_cases hl:t.led=Aa
  · rw[As (by rw[hl];decide),es']
    exact go
  · rw[Ar (by simpa using hl)]
    refine Ah (rC hk _ (λy hy=>?_) ?_)
    · obtain⟨e,he',rfl⟩:=Br.mp hy;rw[EL,Array.mem_filter]at he';obtain⟨j,_,oj'⟩:=I.lk.mem.mp he'.1;obtain⟨p',hp',rfl⟩:=(I.iff e).mp ⟨j,oj'⟩;exact⟨p'.2,p'.1,rfl,hL p' hp'⟩
    · rw[As (by decide),es']
      exact go
theorem gD(ho:s.heap.get? a=Ab o)(hd:o.data=.set es ep t)(I:SetI w L es t m own){h:Ag}(no:∀ p∈L,Dg p.1≠h){x:Ai}{Q:SetFound->Ap->Prop}(q:∀ j,j<=m->own j=Ad->Rch (occ own) m h j->Q (.free j Af) s):Aw (model prog w) A (Kw a x h Aa) Q E s:=by
 have no':∀ j e,own j=Ab e->e.1≠h:=λj e oj=>by
  obtain⟨p,hp,rfl⟩:=(I.iff e).mp ⟨j,oj⟩;exact no p hp
 have sz:=I.lk.size;obtain⟨z,hz,oz⟩:=To (occ:=occ own) (m:=m) (by
  show (plc m own).length<=m;have:=I.ro;have:=(Mv I.wf.km).2.2;omega)
 have oz':own z=Ad:=by
  unfold occ at oz;cases o:own z with
  |none=>rfl
  |some=>rw[o]at oz;cases oz
 obtain⟨j,hj,oj,rj,pr⟩:=dY I.lk I.wf.km no' hz oz';unfold Kw HQ;refine Ah (Cd ho hd I.fits ?_);dsimp only;rw[As (by rw[I.way];decide)]
 show Aw _ _ (match t.probe (hAt es) h (t.probeStart h) with|some met=>_|_=>_) _ _ _
 rw[pr];exact At (q j hj oj rj)
theorem oB(ho:s.heap.get? a=Ab o)(hx:o.ExactSet)(hd:o.data=.set es ep t)(lk:Lnk t es m own)(wf:WF m own)(iff:∀ e,(∃ j,own j=Ab e)↔∃ p∈L,e=Ent p.1 p.2)(sz:es.size=L.length)(pl:t.plain=Aa)(ld:t.led=!(byT w))(hf:es.size<=m){m':Ae}(km:Mk m')(e1:ZW (Gg es.size)=m'+1)(e2:es.size*5<m'*3){Q:Gx->Ap->Prop}(q:∀ h',DY a s.heap h'->IQ w h' a L->Q () {s with heap:=h'}):Aw (model prog w) A (MS a (Gg es.size)) Q E s:=by
 have lm:=(Mv km).1;have nd:=RJ lk wf;obtain⟨t',order,own',r1,r2,r3,r4,r5,r6⟩:=gI km (es:=es) (by have:=(Mv km).2.2;omega) nd t.finger (t.movedTo m') t.led t.plain
 have ss:=gG nd (RJ r2 r3) λe=>by
  rw[r2.mem];rw[<-r4 e];constructor
  .rintro⟨j,_,z⟩;exact⟨j,z⟩
  .rintro⟨j,z⟩;exact⟨j,r3.rng j e z,z⟩
 unfold MS;refine Ah (Cd ho hd (lk.fits hf) ?_);dsimp only;rw[As (by rw[e1,Bv];omega)]
 have rl:t.relaid (es.map (·.1)) (Gg es.size)=Ab (t',order):=by
  unfold SetTable.relaid;rw[e1];exact r1
 rw[rl];refine Ah ?_;show Aw _ _ (if (order.filterMap (es[·]?)).size != es.size then _ else _) _ _ _
 rw[As (by rw[ss];simp)]
 refine At ?_;refine bL ho hd ?_ (by rw[ss,Bv];omega)
 refine q _ (CV s.heap a _) ?_;have hg:=CG (ZP (order.filterMap (es[·]?)) t') ho (by rw[Kv _ t' hd];rfl)
 rw[Kv _ t' hd]at hg;refine⟨_,_,_,_,m',own',hg,hx,rfl,r2,r3,by rw[ss];exact e2,λe=>?_,by rw[ss];exact sz,by rw[r6];exact pl,by rw[r5];exact ld⟩
 rw[r4 e,lk.mem];rw[<-iff e];constructor
 .rintro⟨j,_,z⟩;exact⟨j,z⟩
 .rintro⟨j,z⟩;exact⟨j,wf.rng j e z,z⟩
theorem bf(S:IQ w s.heap a L)(hk:CD (C5 prog w) s.heap k b)(hL:∀ p∈L,CD (C5 prog w) s.heap p.1 p.2)(inj:∀ p∈L,Dg p.1=Dg k->p.1=k)(hn:L.length<=200)(hu:A.units<Cj)(q:∀ h' r,DY a s.heap h'->IQ w h' a (Jv L k b)->Q r {s with heap:=h'}):Aw (model prog w) A (setAddHashed a (.ref b) (Dg k)) Q E s:=by
  obtain⟨o,es,ep,t,m,own,ho,hx,hd,I⟩:=id S;unfold setAddHashed setAddHashedIn;refine EG (Ah (Cd ho hd I.fits ?_));dsimp only;rw[As (by unfold byScan;simp[Value.scannable])]
  by_cases hp:∃ p∈L,p.1=k
  · obtain⟨p,hp,he⟩:=hp;refine Ah (jN ho hd I hk hL hp he hu ?_);refine At ?_;have e:Jv L k b=L:=Ar (C6.mpr ⟨p,hp,by rw[he];exact CM _⟩)
    have:=q s.heap Af (ZN a s.heap) (by rw[e];exact S)
    exact this
  · have no:∀ p∈L,Dg p.1≠Dg k:=λp h z=>hp ⟨p,h,inj p h z⟩
    have e:Jv L k b=L++[(k,b)]:=As (by
      rw[C6];rintro⟨p,h,z⟩;exact hp ⟨p,h,eq_of_beq z⟩)
    refine Ah (gD ho hd I no λj hj oj rj=>?_)
    dsimp only;refine Ah (Cd ho hd I.fits ?_);dsimp only;obtain⟨lk',p1,p2,p3⟩:=I.lk.put hj oj (Dg k,Be b);have wf':WF m (Gc own j (Dg k,Be b)):=I.wf.put hj oj rj λj' e' z=>by
      obtain⟨p,h,rfl⟩:=(I.iff e').mp ⟨j',z⟩;exact no p h
    have iff':∀ e,(∃ i,Gc own j (Dg k,Be b) i=Ab e)↔∃ p∈L++[(k,b)],e=Ent p.1 p.2:=λe=>by
      constructor
      · rintro⟨i,z⟩;by_cases y:i=j
        · rw[y,JT]at z;cases z;exact⟨(k,b),by simp,rfl⟩
        · rw[Ht y]at z;obtain⟨p,h,r⟩:=(I.iff e).mp ⟨i,z⟩;exact⟨p,by simp[h],r⟩
      · rintro⟨p,h,r⟩;rcases DC.mp h with h|h
        · obtain⟨i,z⟩:=(I.iff e).mpr ⟨p,h,r⟩;refine⟨i,?_⟩;rw[Ht λy=>by rw[y,oj]at z;cases z]
          exact z
        · rw[A6.mp h]at r;exact⟨j,by rw[JT,r];rfl⟩
    have zz:(CS es (t.put j).2 (Dg k,Be b)).size=es.size+1:=by
      have a1:=lk'.size;rw[Vl hj oj]at a1;rw[a1,I.lk.size]
    have fin:Aw (model prog w) A (do
        storeSet a (CS es (t.put j).2 (Dg k,.ref b)) (t.put j).1
        if (!false&&(t.put j).1.tooFull)=Aa then MS a (Gg (es.size+1))
        pure Aa) Q E s:=by
      have lm:=Mv I.wf.km;have ro:=I.ro;refine Ah (bL ho hd ?_ (by rw[zz,Bv];omega))
      have hg:=CG (ZP (CS es (t.put j).2 (Dg k,.ref b)) (t.put j).1) ho (by rw[Kv _ (t.put j).1 hd];rfl)
      rw[Kv _ (t.put j).1 hd]at hg;have sl:(L++[(k,b)]).length=L.length+1:=by simp
      by_cases tf:(t.put j).1.tooFull=Aa
      · rw[Ar (by rw[tf];rfl)]
        have fl:(es.size+1)*5 ≥ m*3:=by
          unfold ZX Ke at tf;rw[lk'.dum,lk'.mask,lk'.pl]at tf;have a1:=lk'.size;rw[zz]at a1;rw[AO,<-a1]at tf;simpa using tf
        obtain⟨m',km,e1,e2⟩:∃ m',Mk m'/\ZW (Gg (es.size+1))=m'+1/\(es.size+1)*5<m'*3:=by
          have hL':es.size<=200:=by rw[I.sz];exact hn
          rcases I.wf.km with h|h|h|h
          · have:es.size=4:=by omega
            rw[this];exact⟨31,.inr (.inl rfl),by decide+kernel,by decide⟩
          · have:es.size=18:=by omega
            rw[this];exact⟨127,.inr (.inr (.inl rfl)),by decide+kernel,by decide⟩
          · have:es.size=76:=by omega
            rw[this];exact⟨511,.inr (.inr (.inr rfl)),by decide+kernel,by decide⟩
          · omega
        have es1:es.size+1=(CS es (t.put j).2 (Dg k,Be b)).size:=zz.symm;rw[es1];refine Ah (oB (L:=L++[(k,b)]) (s:={s with heap:=_}) hg hx rfl lk' wf' iff' (by rw[zz,sl,I.sz]) (by rw[p3];exact I.pl) (by rw[p2];exact I.ld) (by rw[zz];omega) km (by rw[zz];exact e1) (by rw[zz];exact e2) λh' sb SH=>?_)
        refine At ?_;have sb2:DY a s.heap h':=(CV s.heap a _).trans sb;exact q h' Aa sb2 (by rw[e];exact SH)
      · rw[As (by simpa using tf)]
        refine At (q _ Aa (CV s.heap a _) ?_);have nf:(es.size+1)*5<m*3:=by
          unfold ZX Ke at tf;rw[lk'.dum,lk'.mask,lk'.pl]at tf;have a1:=lk'.size;rw[zz]at a1;rw[AO,<-a1]at tf;simpa using tf
        rw[e];exact⟨_,_,_,_,m,_,hg,hx,rfl,lk',wf',by rw[zz];exact nf,iff',by rw[zz,sl,I.sz],by rw[p3];exact I.pl,by rw[p2];exact I.ld⟩
    rw[show (t.put j).1.plain=Aa by rw[p3];exact I.pl]
    rw[Ar rfl];refine Ah (hbv hk ?_);exact fin
end
noncomputable def E8(kA:Ae->Ac Ag×Al):Ae->Ac (Ac Ag×Al)
 |0=>[]
 |i+1=>Jv (E8 kA i) (kA i).1 (kA i).2
theorem K6{kA:Ae->Ac Ag×Al}:∀{i:Ae}{p:Ac Ag×Al},p∈E8 kA i->∃ j,j<i/\p=kA j
 |0,_,h=>by cases h
 |i+1,p,h=>by
  unfold E8 Jv at h;split at h
  .obtain⟨j,hj,e⟩:=K6 h;exact⟨j,by omega,e⟩
  .rcases DC.mp h with h|h
   .obtain⟨j,hj,e⟩:=K6 h;exact⟨j,by omega,e⟩
   .exact⟨i,by omega,A6.mp h⟩
theorem M0(kA:Ae->Ac Ag×Al):∀ i,(E8 kA i).length<=i
 |0=>Ay _
 |i+1=>by
  have:=M0 kA i;unfold E8 Jv;split
  .omega
  .rw[Bt];simp;omega
theorem Ql(kA:Ae->Ac Ag×Al):∀ i,((E8 kA i).map (·.1)).Nodup
 |0=>JB
 |i+1=>by
  have ih:=Ql kA i;unfold E8 Jv;split
  .exact ih
  .rename_i h;rw[Fk,List.nodup_append];refine⟨ih,by simp,λa ha b hb=>?_⟩
   have hb':b=(kA i).1:=by simpa using hb
   obtain⟨p,hp,rfl⟩:=Br.mp ha;rintro rfl;exact h (C6.mpr ⟨p,hp,by rw[hb'];exact CM _⟩)
theorem P8{kA:Ae->Ac Ag×Al}:∀{i j:Ae},j<i->(kA j).1∈(E8 kA i).map (·.1)
 |0,j,h=>by omega
 |i+1,j,h=>by
  unfold E8 Jv;split
  .rename_i q;rcases Er (Dv h) with lt|eq
   .exact P8 lt
   .obtain⟨p,hp,e⟩:=List.any_eq_true.mp q;rw[eq,<-eq_of_beq e];exact Yk hp
  .rw[Fk,List.mem_append];rcases Er (Dv h) with lt|eq
   .exact .inl (P8 lt)
   .exact .inr (by simp[eq])
theorem WC{w:AT}{h h':AK}{L:Ac (Ac Ag×Al)}(x:IQ w h b L)(e:∀ o,h.get? b=Ab o->h'.get? b=Ab o):IQ w h' b L:=by
 obtain⟨o,es,ep,t,m,own,ho,r⟩:=x;exact⟨o,es,ep,t,m,own,e o ho,r⟩
section
variable{prog:AQ}{w:AT}{A:AV}{R:IA->Ap->Prop}{I:Al}{fp wr:Ac Al}{G:Au EC->Au EC->Prop}{n:Ae}{P:Ae->Ai->Prop}{St:Ae->Ap->Prop}
theorem uB(W:WalksS prog w A.in1 I fp wr G n P St)(S:Al)(hSf:S∉fp)(hu:A.in1.units<Cj)(kA:Ae->Ac Ag×Al)(hn:n<=200)(inj:∀ i j,i<n->j<n->Dg (kA i).1=Dg (kA j).1->(kA i).1=(kA j).1)(hv:∀ j v,j<n->P j v->v=.ref (kA j).2)(hw:∀ j,j<n->(kA j).2∉S::wr):
    ∀(k i:Ae)(s:Ap),n-i=k->i<=n->St i s->(∀ j,j<n->CD (C5 prog w) s.heap (kA j).1 (kA j).2) ->
      IQ w s.heap S (E8 kA i) ->
      (∀ s',Moved (S::wr) G s s'->IQ w s'.heap S (E8 kA n)->R (.ok (.ret .none)) s') ->
      FC (model prog w) A (.builtin "set.update.loop" ⟨[.ref S,.ref I],[]⟩) R s:=by
  have hSw:S∉wr:=λh=>hSf (W.sub _ h)
  have hsub:∀ b∈wr,b∈S::wr:=λb hb=>AG _ hb
  intro k
  induction k with
  |zero=>
    intro i s hk hi hst hky hS hR;have hin:i=n:=by omega
    subst hin;refine D5 YE ?_;rw[DU Gk _];show Aw _ A.in1 (Fm (.ref I) >>= _) _ _ s;refine Ah (W.done s _ _ hst λs' hm=>?_)
    show Aw _ A.in1 (ret AI) _ _ s';exact At (hR s' (hm.mono hsub) (WC hS λo e=>hm.heap S _ hSw e))
  |succ k ih=>
    intro i s hk hi hst hky hS hR;have hlt:i<n:=by omega
    refine D5 YE ?_;rw[DU Gk _];show Aw _ A.in1 (Fm (.ref I) >>= _) _ _ s;refine Ah (W.item i s _ _ hlt hst λv s' hP hst' hm=>?_)
    obtain rfl:=hv i v hlt hP;have hky':∀ j,j<n->CD (C5 prog w) s'.heap (kA j).1 (kA j).2:=λj hj=>Rm (hky j hj) λo e=>hm.heap _ _ (λz=>hw j hj (hsub _ z)) e
    have hS':=WC hS λo e=>hm.heap S _ hSw e
    show Aw _ A.in1 (holding [Be (kA i).2] (setAdd S (.ref (kA i).2)) >>= _) _ _ s';refine Ah (EG ?_);unfold setAdd;refine EG ?_;refine Ah (wpAny_pyHash_tuple hu (hky' i hlt) ?_);have hl:=M0 kA i;refine bf (s:={s' with toks:=s'.toks+((kA i).1.length+1)}) (k:=(kA i).1) hS' (hky' i hlt) (λp hp=>?_) (λp hp e=>?_) (by omega) hu λh' r hsb hS2=>?_
    · obtain⟨j,hj,rfl⟩:=K6 hp;exact hky' j (by omega)
    · obtain⟨j,hj,rfl⟩:=K6 hp;exact inj j i (by omega) hlt e
    refine At ⟨GI Gk _,ih (i+1) _ (by omega) hlt (W.frame _ s' _ _ hst' (Yu _ _) λb hb o e=>?_) (λj hj=>Rm (hky' j hj) λo e=>?_) hS2 λs'' hm'' hS''=>?_⟩
    · rw[hsb.2 b (λh:b=S=>hSf (by rw[<-h];exact hb))];exact e
    · rw[hsb.2 _ (λh:(kA j).2=S=>hw j hj (by rw[h];exact AM))];exact e
    · refine hR s'' (Moved.trans W.gtrans ((hm.mono hsub).then_heap (Yu _ _) λb o hb e=>?_) hm'') hS''
      rw[hsb.2 b (λh:b=S=>hb (by rw[h];exact AM))];exact e
end
section
variable{prog:AQ}{w:AT}{A:AV}{E:Vq}{s:Ap}
theorem dU(a:Ai){Q₁:Vq}(h:Q₁ (.ref s.heap.objs.size) { s with heap:=s.heap.push { cls:=.type "set",dict:=Ad,data:=.set #[] 0 (.fresh 0 0 (!(byT w))) } }):
  FC (model prog w) A (.call (.builtin "set.__new__") ⟨[.type "set",a],[]⟩) (wants Q₁ E) s:=by
 refine Jb ?_;show Aw _ A.in1 (do GN "set.__new__" ⟨[.type "set",a],[]⟩;again (.builtin "set.__new__" ⟨[.type "set",a],[]⟩)) _ _ s
 refine Ah (DE (F.newCall_set_1 a) (At ⟨GI ZG _,D5 F.entry_set_new ?_⟩));rw[DU ZG _];unfold Builtin.«set.__new__» Builtin.Frozenset.newClass;have hsub:=sub_set_self;obtain⟨hp,g,d,tk,os⟩:=s;dsimp only
 wp_walk
 refine DH (At ?_);dsimp only;simp only[newObj];refine Ah (wpAny_alloc (At ?_));exact At h
theorem wf0:WF 7 (λ_=>Ad):=⟨.inl rfl,(λj e h=>by cases h),(λj e h=>by cases h),(λj j' e e' h=>by cases h)⟩
theorem dO{l:Al}{items:Au Ai}{kA:Ae->Ac Ag×Al}{Q:Vq}(hu:A.units+8<Cj)(hh:A.handled=Ad)(hl:s.heap.IsList l items)(hi:∀ j v,items[j]?=Ab v->v=.ref (kA j).2/\CD (C5 prog w) s.heap (kA j).1 (kA j).2)(hn:items.size<=200)(inj:∀ i j,i<items.size->j<items.size->Dg (kA i).1=Dg (kA j).1->(kA i).1=(kA j).1)(h:∀(h':AK)(tk:Ae),IQ w h' s.heap.objs.size (E8 kA items.size) ->
   (∀ b o,b<s.heap.objs.size->s.heap.get? b=Ab o->h'.get? b=Ab o)->Q (.ref s.heap.objs.size) {s with heap:=h',toks:=tk}):
  Aw (model prog w) A (call (.type "set") [.ref l]) Q E s:=by
 obtain⟨c,tl,hmro⟩:=F.called_set.mro;have hmade:=F.called_set.made;have hsub:=F.called_set.sub;refine LK (Jb ?_);show Aw _ _ (callAny (.type "set") _) _ _ _;refine At ⟨Y_0 _ (by decide+kernel),D5 F.entry_type_call ?_⟩
 rw[Around.under_plain (weight_type_call_type "set" [.ref l] []) rfl];have h1:=F.called_set.notType;have h2:=F.called_set.canCreate;have hct:=F.typeCall_set_1 (.ref l)
 repeat (any_goals (first|assumption|wp_step))
 refine F5 (dU (w:=w) (.ref l) (E:=E) (Q₁:=λobj s₁=>obj=.ref s.heap.objs.size/\s₁={ s with heap:=s.heap.push { cls:=.type "set",dict:=Ad,data:=.set #[] 0 (.fresh 0 0 (!(byT w))) } }) ⟨rfl,rfl⟩) λr s₁ hr=>?_
 generalize hled:(!(byT w))=led at hr;cases r with
 |error e=>exact hr
 |ok fl=>
  cases fl with
  |ret obj=>
   obtain⟨rfl,rfl⟩:=hr;have hS:(s.heap.push { cls:=.type "set",dict:=Ad,data:=.set #[] 0 (.fresh 0 0 led) }).get? s.heap.objs.size=Ab { cls:=.type "set",dict:=Ad,data:=.set #[] 0 (.fresh 0 0 led) }:=AH _ rfl;have hT:Kf { s with heap:=s.heap.push { cls:=.type "set",dict:=Ad,data:=.set #[] 0 (.fresh 0 0 led) } } (.ref s.heap.objs.size) "set" := ⟨_,hS,rfl⟩
   have hli:=F.called_set.init.lookup;have hbi:=F.called_set.init.bind (.ref s.heap.objs.size)
   repeat (any_goals (first|assumption|wp_step))
   refine F5 (FN (R:=wants (λr s₂=>r=.none/\∃ h' tk,s₂={s with heap:=h',toks:=tk} /\
     IQ w h' s.heap.objs.size (E8 kA items.size) /\
     (∀ b o,b<s.heap.objs.size->s.heap.get? b=Ab o->h'.get? b=Ab o)) E) F.called_set.init.plain F.entry_set_init (check_set_init_1 hT ?_)) λr₂ s₂ hr₂=>?_
   .obtain⟨ol,hol,hcl,nl,hdl⟩:=hl;obtain⟨ocls,odict,odata,oslots⟩:=ol;simp only at hcl hdl;subst hcl;subst hdl;have hol':(s.heap.push { cls:=.type "set",dict:=Ad,data:=.set #[] 0 (.fresh 0 0 led) }).get? l=Ab { cls:=.type "list",dict:=odict,data:=.seq items nl,slots:=oslots }:=Aq _ hol;have hsls:=F.sub_list_set;have hslf:=F.sub_list_frozenset;have hne:(Fl "list" == Fl "dict")=Af:=by decide
    have hl1:(s.heap.push { cls:=.type "set",dict:=Ad,data:=.set #[] 0 (.fresh 0 0 led) }).IsList l items:=⟨_,hol',rfl,nl,rfl⟩;unfold Builtin.«set.__init__» noKeywords Builtin.Frozenset.updateFrom;generalize hPI:HK=PI
    wp_walk
    subst hPI;refine Gw hl1 ?_;refine Ah (bK ?_);have hlS:l<s.heap.objs.size:=AL hol;have hh3:A.in1.in1.in1.handled=Ad:=by simp[hh]
    have hneI:l≠(s.heap.push { cls:=.type "set",dict:=Ad,data:=.set #[] 0 (.fresh 0 0 led) }).objs.size:=by
     rw[Bh];exact AW (By hlS)
    have hSf:s.heap.objs.size∉[(s.heap.push { cls:=.type "set",dict:=Ad,data:=.set #[] 0 (.fresh 0 0 led) }).objs.size,l]:=by
     rw[Bh];simp only[AJ,A6,Bo,CN,FH];exact⟨AW (FL _),E1 hlS⟩
    have lt_of:∀ j,j<items.size->(kA j).2<s.heap.objs.size/\CD (C5 prog w) s.heap (kA j).1 (kA j).2:=λj hj=>by
     obtain⟨_,hk⟩:=hi j _ (BN hj);refine⟨?_,hk⟩;obtain⟨o,_,_,ho,_⟩:=id hk;exact AL ho
    refine uB ((aP hh3 _ l hneI items).toS) s.heap.objs.size hSf (show A.units+1+1+1<Cj by omega) kA hn inj (λj v _ hv=>(hi j v hv).1) (λj hj=>?_) (items.size-0) 0 _ (by omega) (BK _)
     ⟨⟨_,AH _ rfl,rfl,rfl⟩,(hl1.push _)⟩ ?hK ?hS0 ?hR
    .have hb:=(lt_of j hj).1;rw[Bh];simp only[AJ,Bo,CN,FH];exact⟨AW hb,AW (By hb)⟩
    case hK=>
     intro j hj;exact Rm (lt_of j hj).2 λo e=>Aq _ (Aq _ e)
    case hS0=>
     have hget:((s.heap.push { cls:=.type "set",dict:=Ad,data:=.set #[] 0 (.fresh 0 0 led) }).push { cls:=.type "list_iterator",data:=.fields #[.ref l,.int 0 0] }).get? s.heap.objs.size
       = Ab { cls:=.type "set",dict:=Ad,data:=.set #[] 0 (.fresh 0 0 led) }:=Aq _ hS
     refine⟨_,#[],0,.fresh 0 0 led,7,λ_=>Ad,hget,⟨rfl,rfl,rfl⟩,rfl,⟨rfl,rfl,?_,?_⟩,wf0,by decide,(λe=>⟨(λ⟨_,z⟩=>by cases z),(λ⟨_,z,_⟩=>by cases z)⟩),rfl,rfl,hled.symm⟩
     .show (SetTable.fresh 0 0 Aa).place=_;decide+kernel
     .have:ent 7 (λ_=>Ad)=[]:=by
       unfold ent;exact List.filterMap_eq_nil_iff.mpr λ_ _=>rfl
      rw[this]
    case hR=>
     intro s' hm hS';obtain⟨h',g',d',tk',os'⟩:=s';have eg:g'=s.gens:=hm.gens;have ed:d'=s.drawn:=hm.drawn;have eo:os'=s.os:=hm.os;subst eg;subst ed;subst eo;show Aw _ _ _ _ _ _;refine At ?_;show Aw _ _ (ret AI) _ _ _;refine At ⟨rfl,h',tk',rfl,hS',λb o hb e=>?_⟩
     have hb1:b≠s.heap.objs.size:=AW hb;have hb2:b≠(s.heap.push { cls:=.type "set",dict:=Ad,data:=.set #[] 0 (.fresh 0 0 led) }).objs.size:=by
      rw[Bh];exact AW (By hb)
     exact hm.heap b o (by simp only[AJ,A6,Bo,CN,FH];exact⟨hb1,hb2⟩) (Aq _ (Aq _ e))
   .cases r₂ with
    |error e=>exact hr₂
    |ok fl₂=>
     cases fl₂ with
     |ret r=>
      obtain⟨rfl,h',tk,rfl,hS',hk'⟩:=hr₂
      repeat (any_goals (first|assumption|wp_step))
      exact h _ _ hS' hk'
     |_=>exact hr₂.elim
  |_=>exact hr.elim
end
end Ov
section
namespace Ov
open PySem PySem.Spec PyProof.Rows
variable{Q:Ao Ai->Ap->Prop}
theorem Vt{α:Type}(next:Ae->Ae):∀(f k:Ae)(left:Ac α)(out:Au α),left.length<=f->(aV next f k left out).toList.Perm (out.toList++left)
 |0,k,left,out,h=>by
  have:left=[]:=X3 (by omega)
  subst this;show out.toList.Perm _;rw[Bu]
 |f+1,k,left,out,h=>by
  rw[aV];cases left with
  |nil=>
   show out.toList.Perm _;rw[Bu]
  |cons y ys=>
   have hl:next k%(y::ys).length<(y::ys).length:=Ly _ (by simp)
   rw[AC hl];dsimp only;refine(Vt next f (k+1) _ _ (by rw[List.length_eraseIdx_of_lt hl];omega)).trans ?_
   rw[Dt,CC];refine XU _ ?_;generalize next k%(y::ys).length=i at hl;generalize y::ys=l at hl;rw[List.eraseIdx_eq_take_drop_succ];have e:l=l.take i++l[i]::l.drop (i+1):=by rw[List.getElem_cons_drop,C4]
   have q:=(List.perm_middle (a:=l[i]) (l₁:=l.take i) (l₂:=l.drop (i+1))).symm;rw[<-e]at q;exact q
theorem fS{α:Type}(next:Ae->Ae)(xs:Au α):(HH next xs).toList.Perm xs.toList:=by
 have:=Vt next xs.size 0 xs.toList #[] (by simp)
 simpa [HH] using this
noncomputable def IN(w:AT)(S:Al)(ep:Ae)(es:Au (Ag×Ai)):Au (Ag×Ai):=if byT w=Aa then HH (w.params.setOrder S ep) es else es
theorem UI(w:AT)(S:Al)(ep:Ae)(es:Au (Ag×Ai)):(IN w S ep es).toList.Perm es.toList:=by
 unfold IN;split
 .exact fS _ _
 .exact .refl _
theorem Qa(w:AT)(S:Al)(ep:Ae)(es:Au (Ag×Ai)):(IN w S ep es).size=es.size:=by
 have:=(UI w S ep es).length_eq;simpa using this
theorem rT(m:Ae)(own:Own):(plc m own).Pairwise (· < ·):=List.Pairwise.filter _ (by rw[G4];exact List.pairwise_lt_range')
theorem eO{l:Ac Ae}(h:l.Pairwise (· < ·)){i j:Ae}(e:l[i]?=Ab j):DL l.toArray (j+1)=i+1:=by
 obtain⟨hi,rfl⟩:=AZ.mp e;have pw:=BO.mp h;have q:=QB (A:=l.take (i+1)) (B:=l.drop (i+1)) (j:=l[i]+1) (λx hx=>?_) (λx hx=>?_)
 .rw[C4,Ei,Nat.min_eq_left hi]at q;exact q
 .obtain⟨k,hk,rfl⟩:=Cp hx;rw[Ei]at hk;rw[Yd];rcases Er (show k<=i by omega) with z|z
  .have:=pw k i (by omega) hi z
   omega
  .subst z;omega
 .obtain⟨k,hk,rfl⟩:=Cp hx;rw[EZ]at hk;rw[Yb];have:=pw i (i+1+k) hi (by omega) (by omega)
  omega
theorem fO(l:Ac Ae):DL l.toArray 0=0:=by
 have q:=QB (A:=[]) (B:=l) (j:=0) (λx hx=>by cases hx) (λx _=>by omega)
 exact q
namespace F
theorem UH:Manifest.owners.lookup (String.ofList ['r','o','t','a','r','e','t','i','_','t','e','s'].reverse)=Ab Manifest.sig_set_iterator:=by kernel_rfl
theorem slot_si_next:Slot "set_iterator" "__next__" "set_iterator.__next__":=
 .of (owner := "set_iterator") (n := "__next__") (by rw[aY,aR];kernel_rfl) (by decide+kernel) (by decide+kernel) (by decide+kernel)
  (by first|exact .inl (by decide+kernel)|exact .inr (by decide+kernel)) (by rw[Hs];kernel_rfl)
theorem entry_si_next:MP table "set_iterator.__next__" = Ab Builtin.«set_iterator.__next__»:=entryFor_of_tree (by kernel_rfl)
theorem args_si_next_1(a:Ai):MN "set_iterator.__next__" ⟨[a],[]⟩:=by
 unfold MN;rw[signature?_of (id := "set_iterator.__next__") (n:=['_','_','t','x','e','n','_','_']) (o:=['r','o','t','a','r','e','t','i','_','t','e','s']) (by kernel_rfl) UH];kernel_rfl
theorem slot_si_iter:Slot "set_iterator" "__iter__" "set_iterator.__iter__":=
 .of (owner := "set_iterator") (n := "__iter__") (by rw[aY,aR];kernel_rfl) (by decide+kernel) (by decide+kernel) (by decide+kernel)
  (by first|exact .inl (by decide+kernel)|exact .inr (by decide+kernel)) (by rw[Hs];kernel_rfl)
theorem args_si_iter_1(a:Ai):MN "set_iterator.__iter__" ⟨[a],[]⟩:=by
 unfold MN;rw[signature?_of (id := "set_iterator.__iter__") (n:=['_','_','r','e','t','i','_','_']) (o:=['r','o','t','a','r','e','t','i','_','t','e','s']) (by kernel_rfl) UH];kernel_rfl
theorem entry_si_iter:MP table "set_iterator.__iter__" = Ab Builtin.«dict_keyiterator.__iter__»:=
 aS (id' := "dict_keyiterator.__iter__") (by kernel_rfl) (by first|rfl|decide+kernel|(unfold bM;simp+decide [bN])) (by decide+kernel) (by kernel_rfl)
theorem entry_set_iter:MP table "set.__iter__" = Ab Builtin.«frozenset.__iter__»:=
 aS (id' := "frozenset.__iter__") (by kernel_rfl) (by first|rfl|decide+kernel|(unfold bM;simp+decide [bN])) (by decide+kernel) (by kernel_rfl)
end F
section
variable{prog:AQ}{w:AT}{A:AV}{E:Vq}{s:Ap}
noncomputable def JY(slot i:Ae)(S:Al)(n ep:Ae):Dx:={ cls:=.type "set_iterator",data:=.fields #[CB slot,CB i,.ref S,CB n,CB ep] }
structure SitAt (w:AT) (I S:Al) (o:Dx) (es:Au (Ag×Ai)) (ep:Ae) (t:EF) (i:Ae) (h:AK):Prop where
 it:∃ slot oi,h.get? I=Ab oi/\oi.cls=.type "set_iterator"/\oi.data=.fields #[CB ((slot:Ae):Ag),CB (i:Ag),.ref S,CB (es.size:Ag),CB (ep:Ag)]/\(byT w=Af->DL t.place slot=i)
 st:h.get? S=Ab o
variable{I S:Al}{o:Dx}{es:Au (Ag×Ai)}{ep:Ae}{t:EF}{i:Ae}{L:Ac (Ac Ag×Al)}{m:Ae}{own:Own}
theorem SitAt.typeIs(x:SitAt w I S o es ep t i s.heap):s.TypeIs (.ref I) "set_iterator" := let ⟨_,oi,h,c,_⟩:=x.it;⟨oi,h,c⟩
theorem dQ(hd:o.data=.set es ep t)(hI:SetI w L es t m own)(x:SitAt w I S o es ep t i s.heap)(ne:S≠I){e:Ag×Ai}(he:(IN w S ep es)[i]?=Ab e)(hQ:∀ h',SitAt w I S o es ep t (i+1) h'->DY I s.heap h'->Q (Ab e.2) {s with heap:=h'}):Aw (model prog w) A (Fm (.ref I)) Q E s:=by
 obtain⟨slot,oi,ho,hc,hdi,hb⟩:=x.it;have hS:=x.st;unfold Fm;refine Ah (Fe (Cu (name:=A3 "__next__") x.typeIs F.slot_si_next
  (Ca F.slot_si_next x.typeIs F.entry_si_next ?_ (F.args_si_next_1 _))))
 unfold Builtin.«set_iterator.__next__»;refine Ah (DE (a:=(Be I,[])) rfl ?_);refine Ah (bD ho hdi ?_);show Aw _ _ (setEntries S >>= _) _ _ s;refine Ah (Hk hS hd hI.fits ?_);rw[As (by simp)]
 show Aw _ _ (LM S slot i ep >>= _) _ _ s;have fin:∀(E':Vq)(nx:Ae),(byT w=Af->DL t.place nx=i+1)->Aw (model prog w) A.in1 (do
   K4 (.ref I) 0 (CB ((nx:Ae):Ag))
   K4 (.ref I) 1 (CB ((i:Ag)+1))
   ret e.2) (fun(f:ME) s'=>∃ v,f=.done (.ret v)/\Aw (model prog w) A (pure (Ab v)) Q E s') E' s:=λE' nx hnx=>by
  refine Ah (Ek ho hdi (by simp) ?_)
  have ho1:=CG (FU (·.setIfInBounds 0 (CB ((nx:Ae):Ag)))) ho (DK (Cm hdi _));have hd1:=Cm hdi (·.setIfInBounds 0 (CB ((nx:Ae):Ag)));refine Ah (Ek ho1 hd1 (by simp) ?_)
  refine At ⟨e.2,rfl,At (hQ _ ⟨⟨nx,_,CG _ ho1 (DK (Cm hd1 _)),(Gv ..).trans ((Gv ..).trans hc),?_,hnx⟩,?_⟩ ?_)⟩
  .rw[Cm hd1];simp[CB]
  .rw[Cz _ _ (Ea ne),Cz _ _ (Ea ne)];exact hS
  .exact(CV ..).trans (CV ..)
 unfold LM;refine Ah (Ah (Cd hS hd hI.fits ?_));dsimp only;refine Ah (Ah (DH (At ?_)));show Aw _ _ (if byT w=Aa then _ else _) _ _ _
 cases hby:byT w with
 |true=>
  rw[Ar rfl,As (by simp)]
  unfold setWalk;refine Ah (Ah (Cd hS hd hI.fits ?_));dsimp only;refine Ah (Ah (DH (At ?_)));show Aw _ _ (if byT w=Aa then _ else _) _ _ _
  rw[Ar hby];refine Ah (DH (At ?_));have q:(HH (w.params.setOrder S ep) es)[i]?=Ab e:=by
   unfold IN at he
   rwa [Ar hby]at he
  refine At ?_;have q':(HH ((model prog w).w.params.setOrder S ep) es)[i]?=Ab e:=q;simp only[q',IX];exact fin _ slot (λz=>by rw[hby]at z;cases z)
 |false=>
  rw[As (by decide)]
  have q:es[i]?=Ab e:=by
   unfold IN at he
   rwa [As (by rw[hby];decide)]at he
  have hb':=hb hby;have hi:i<es.size:=(FR.mp q).1;have hpl:=hI.lk.pl;have hsz:=hI.lk.size;have hp:t.place[i]?=Ab ((plc m own)[i]'(by omega)):=by
   rw[hpl,Ew];exact AC _
  have hled:t.led=Aa:=by rw[hI.ld,hby];rfl
  show Aw _ _ (if (!t.plain&&decide (es.size>1))=Aa then _ else _) _ _ _
  rw[As (by rw[hI.pl];simp)]
  refine Ah ?_;show Aw _ _ (if (!t.led && !es.isEmpty)=Aa then _ else _) _ _ _
  rw[As (by rw[hled];simp)]
  refine At ?_;simp only[hb',q,hp];refine At ?_;refine fin _ _ λ_=>?_
  rw[hpl];exact eO (rT m own) (AC _)
theorem dX(hh:A.handled=Ad)(hd:o.data=.set es ep t)(hI:SetI w L es t m own)(x:SitAt w I S o es ep t es.size s.heap)(ne:S≠I)(hQ:∀ h',KU I s.heap h'->Q Ad {s with heap:=h'}):Aw (model prog w) A (Fm (.ref I)) Q E s:=by
 obtain⟨slot,oi,ho,hc,hdi,hb⟩:=x.it;have hS:=x.st;unfold Fm;refine Ah (Fe (Cu (name:=A3 "__next__") x.typeIs F.slot_si_next
  (Ca F.slot_si_next x.typeIs F.entry_si_next ?_ (F.args_si_next_1 _))))
 unfold Builtin.«set_iterator.__next__»;refine Ah (DE (a:=(Be I,[])) rfl ?_);refine Ah (bD ho hdi ?_);show Aw _ _ (setEntries S >>= _) _ _ s;refine Ah (Hk hS hd hI.fits ?_);rw[As (by simp)]
 show Aw _ _ (LM S slot es.size ep >>= _) _ _ s;have fin:Aw (model prog w) A.in1 (do K4 (.ref I) 2 .none;MR (<-newExc (.type "StopIteration") [])) (fun(f:ME) s'=>∃ v,f=.done (.ret v)/\Aw (model prog w) A (pure (Ab v)) Q E s') (λe s'=>Aw (model prog w) A (do if <-LF e (.type "StopIteration") then pure Ad else throw e) Q E s') s:=by
  refine Ah (Ek ho hdi (by simp) ?_)
  refine Ah ?_;simp only[newExc,newTuple];refine Ah (CT ?_ (by size_fits))
  refine Ah (m:=Hr _ _) (DE (a:=AI) (by first|rfl|(simp only[Hr];rfl)) ?_)
  refine CT ?_ (by size_fits)
  simp only[MR];refine Ah (wpAny_handled ?_)
  first|rw[show A.in1.handled=Ad from hh]|rw[hh]
  refine Ah (At (wpAny_throw ?_));refine Ah (GO (T := "StopIteration") (b:=Aa) ⟨_,AH _ rfl,rfl⟩ JG ?_);exact At (hQ _ ((((CV ..).extBut).push _).push _))
 unfold LM;refine Ah (Ah (Cd hS hd hI.fits ?_));dsimp only;refine Ah (Ah (DH (At ?_)));show Aw _ _ (if byT w=Aa then _ else _) _ _ _
 cases hby:byT w with
 |true=>
  rw[Ar rfl,As (by simp)]
  unfold setWalk;refine Ah (Ah (Cd hS hd hI.fits ?_));dsimp only;refine Ah (Ah (DH (At ?_)));show Aw _ _ (if byT w=Aa then _ else _) _ _ _
  rw[Ar hby];refine Ah (DH (At ?_));have q':(HH ((model prog w).w.params.setOrder S ep) es)[es.size]?=Ad:=by
   have:=Qa w S ep es;unfold IN at this;rw[Ar hby]at this;exact Xu (Km this)
  refine At ?_;simp only[q',Option.map_none];exact fin
 |false=>
  rw[As (by decide)]
  have hb':=hb hby;have hled:t.led=Aa:=by rw[hI.ld,hby];rfl
  have q:es[es.size]?=Ad:=Xu (Ay _);show Aw _ _ (if (!t.plain&&decide (es.size>1))=Aa then _ else _) _ _ _
  rw[As (by rw[hI.pl];simp)]
  refine Ah ?_;show Aw _ _ (if (!t.led && !es.isEmpty)=Aa then _ else _) _ _ _
  rw[As (by rw[hled];simp)]
  refine At ?_;simp only[hb',q];refine At ?_;exact fin
theorem SitAt.self{Q:Vq}(x:SitAt w I S o es ep t i s.heap)(h:Q (.ref I) s):Aw (model prog w) A (HK (.ref I)) Q E s:=by
 refine bH x.typeIs F.slot_si_iter (Ca F.slot_si_iter x.typeIs F.entry_si_iter ?_ (F.args_si_iter_1 _));show Aw _ _ (ret (.ref I)) _ _ s;exact At ⟨_,rfl, "set_iterator",_,x.typeIs,F.slot_si_next.lookup,h⟩
theorem gQ(hh:A.handled=Ad)(hd:o.data=.set es ep t)(hI:SetI w L es t m own)(ne:S≠I):
  Walks prog w A I [I,S] [I] es.size (λi v=>∃ e,(IN w S ep es)[i]?=Ab e/\v=e.2) (λi h=>SitAt w I S o es ep t i h) where
 sub:=λb hb=>by simp at hb;simp[hb]
 frame:=λ_ _ _ x hk=>⟨let ⟨sl,oi,e,r⟩:=x.it;⟨sl,oi,hk I (by simp) _ e,r⟩,hk S (by simp) _ x.st⟩
 item:=λi s Q E hi x hQ=>by
  have he:(IN w S ep es)[i]?=Ab ((IN w S ep es)[i]'(by rw[Qa];exact hi)):=BN _
  refine dQ hd hI x ne he λh' x' hs'=>?_
  exact hQ _ h' s.toks ⟨_,he,rfl⟩ x' λb o hb eo=>hs'.extBut b o (λh=>hb (by simp[h])) eo
 done:=λs Q E x hQ=>dX hh hd hI x ne λh' he'=>hQ h' s.toks λb o hb eo=>he' b o (λh=>hb (by simp[h])) eo
 self:=λ_ _ _ _ x hQ=>x.self hQ
theorem iN{Q:Vq}(hS:s.heap.get? S=Ab o)(hx:o.ExactSet)(hd:o.data=.set es ep t)(hI:SetI w L es t m own)(h:Q (.ref s.heap.objs.size) {s with heap:=s.heap.push (JY 0 0 S es.size ep)}):Aw (model prog w) A (HK (.ref S)) Q E s:=by
 have hT:s.TypeIs (.ref S) "set" := ⟨o,hS,hx.1⟩;refine bH hT ZH (Ca ZH hT F.entry_set_iter ?_ (F.args_set_iter_1 _));unfold Builtin.«frozenset.__iter__»;refine Ah (DE (a:=S) rfl ?_);refine Ah (Ah (Hk hS hd hI.fits (At ?_)));refine Ah (Ah (Cd hS hd hI.fits ?_));dsimp only;refine Ah (Ah (DH (At ?_)));refine At ?_;show Aw _ _ (if (!(byT w)&&(!t.plain&&decide (es.size>1)))=Aa then _ else _) _ _ _
 rw[As (by rw[hI.pl];simp)]
 refine Ah (At ?_);refine Ah (Ah (Cd hS hd hI.fits (At ?_)));refine Ah (CT ?_);exact At ⟨_,rfl, "set_iterator",_,⟨_,AH _ rfl,rfl⟩,F.slot_si_next.lookup,h⟩
end
end Ov
end
section
namespace Ov
open PySem PySem.Spec PyProof.Rows PySem.W
theorem qA{m:Ae}{own:Own}(W:WF m own){e:Ag×Ai}:e∈ent m own↔∃ j,own j=Ab e:=by
 unfold ent;rw[Yj];exact⟨λ⟨j,_,q⟩=>⟨j,q⟩,λ⟨j,q⟩=>⟨j,BE.mpr (Yv (W.rng j e q)),q⟩⟩
section
variable{w:AT}{L:Ac (Ac Ag×Al)}{es:Au (Ag×Ai)}{t:EF}{m:Ae}{own:Own}
noncomputable def Lw(p:Ac Ag×Al):Ag×Ai:=Ent p.1 p.2
theorem SetI.perm(I:SetI w L es t m own)(nd:(L.map Lw).Nodup):es.toList.Perm (L.map Lw):=by
 have n1:es.toList.Nodup:=(Du.mp (RJ I.lk I.wf)).imp λa z=>a (by rw[z])
 refine(Yn n1 nd).mpr λe=>?_
 have e1:e∈es.toList↔∃ j,own j=Ab e:=by rw[I.lk.en];exact qA I.wf
 rw[e1,I.iff];constructor
 .rintro⟨p,hp,rfl⟩;exact Br.mpr ⟨p,hp,rfl⟩
 .intro h;obtain⟨p,hp,rfl⟩:=Br.mp h;exact⟨p,hp,rfl⟩
theorem fW{α β:Type}[Inhabited α][Inhabited β]{f:α->β}{l:Ac α}{l':Ac β}(h:l'.Perm (l.map f)):∃ k:Ac α,k.Perm l/\l'=k.map f:=by
 obtain⟨p,hp,e⟩:=UF default h;rw[AF]at hp;refine⟨p.map λi=>l.getD i default,(hp.map _).trans (FY ?_),?_⟩
 .apply Eh
  .simp
  .intro i h1 h2;simp[h2]
 .rw[e,Bl]
  apply B7
  intro i hi;have hi':i<l.length:=BE.mp (hp.mem_iff.mp hi);simp[hi']
theorem SetI.order(I:SetI w L es t m own)(S:Al)(ep:Ae)(nd:(L.map Lw).Nodup):∃ k:Ac (Ac Ag×Al),k.Perm L/\(IN w S ep es).toList=k.map Lw:=fW ((UI w S ep es).trans (I.perm nd))
end
theorem fQ{k:Ac (Ac Ag×Al)}{os:Au (Ag×Ai)}{acc:Au Ai}(e:os.toList=k.map Lw)(h:ItemsOf (λi v=>∃ e,os[i]?=Ab e/\v=e.2) acc os.size):acc.toList=k.map λp=>Be p.2:=by
 obtain⟨h1,h2⟩:=h;have n:os.size=k.length:=by have:=congrArg FV e;simpa using this
 apply List.ext_getElem?
 intro j;by_cases hj:j<k.length
 .have ea:acc[j]?=Ab (acc[j]'(by omega)):=BN (by omega)
  obtain⟨x,hx,hv⟩:=h2 j _ ea;rw[BZ,ea,BC,AC hj,hv];rw[<-BZ,e,BC,AC hj]at hx;cases hx;rfl
 .rw[Fv (by rw[AR];omega),Fv (by rw[AF];omega)]
section
variable{prog:AQ}{w:AT}{A:AV}{E:Vq}{s:Ap}{S:Al}{L:Ac (Ac Ag×Al)}
theorem eC{Q:Ac Ai->Ap->Prop}(hh:A.handled=Ad)(hS:IQ w s.heap S L)(nd:(L.map Lw).Nodup)(hz:L.length<=1000)(hQ:∀(k:Ac (Ac Ag×Al))(h':AK)(tk:Ae),k.Perm L->(∀ b o,s.heap.get? b=Ab o->h'.get? b=Ab o)->s.heap.objs.size<=h'.objs.size->Q (k.map λp=>.ref p.2) {s with heap:=h',toks:=tk}):Aw (model prog w) A (collect (.ref S)) Q E s:=by
 obtain⟨o,es,ep,t,m,own,ho,hx,hd,hI⟩:=hS;obtain⟨k,kpk,ke⟩:=hI.order S ep nd;have lS:S<s.heap.objs.size:=AL ho;have hSS:s.heap.objs.size≠S:=E1 lS;have hsz:es.size<=1000:=by rw[hI.sz];exact hz
 unfold collect;refine Ah (bK (D5 F.entry_proto_collect ?_));rw[DU F.plain_proto_collect _];show Aw _ A.in1 (newList [] >>= λl=>again (.builtin "list.__iadd__" ⟨[l,.ref S],[]⟩)) _ _ s
 refine Ah (CT ?_);refine At ⟨GI ZE _,D5 F.entry_list_iadd ?_⟩;rw[DU ZE _];have ho₁:(s.heap.push { cls:=.type "list",data:=.seq ([]:Ac Ai).toArray }).get? S=Ab o:=Aq _ ho;have hl₁:(s.heap.push { cls:=.type "list",data:=.seq ([]:Ac Ai).toArray }).get? s.heap.objs.size=Ab { cls:=.type "list",data:=.seq ([]:Ac Ai).toArray }:=AH _ rfl;have hT:Kf { s with heap:=s.heap.push { cls:=.type "list",data:=.seq ([]:Ac Ai).toArray } } (.ref S) "set" := ⟨o,ho₁,hx.1⟩
 have h1:YU (.ref s.heap.objs.size) (.ref S)=Af:=by simp[YU,hSS]
 show Aw _ A.in1 (YT (.ref s.heap.objs.size) (.ref S) (.ref s.heap.objs.size)) _ _ _;unfold YT;refine Ah (Kx hT ?_);rw[As (by rw[h1];decide)]
 refine Ah (iN ho₁ hx hd hI ?_);refine Ah (EG ?_);have ho₂:((s.heap.push { cls:=.type "list",data:=.seq ([]:Ac Ai).toArray }).push (JY 0 0 S es.size ep)).get? S=Ab o:=Aq _ ho₁;have hl₂:((s.heap.push { cls:=.type "list",data:=.seq ([]:Ac Ai).toArray }).push (JY 0 0 S es.size ep)).get? s.heap.objs.size=Ab { cls:=.type "list",data:=.seq ([]:Ac Ai).toArray }:=Aq _ hl₁;have hT₂:Kf { s with heap:=(s.heap.push { cls:=.type "list",data:=.seq ([]:Ac Ai).toArray }).push (JY 0 0 S es.size ep) } (.ref S) "set" := ⟨o,ho₂,hx.1⟩
 unfold Builtin.List.listLengthHint;refine Ah (Je hT₂ F.slot_set_len.lookup ?_)
 (generalize hid:("set.__len__" : C3)=id0;(fail_if_success (clear hid id0));wp_delta;rw[show splitId id0=Ab ("set", "__len__") from by subst hid;decide+kernel];subst hid)
 refine Ah (GO (b:=Aa) hT₂ (by rw[Hs];kernel_rfl) ?_)
 refine Ah (Kx hT₂ ?_);refine At ?_;rw[Ar (by decide+kernel)]
 refine Ah (Ha ?_);unfold Builtin.List.listTouch;refine Ah (Ah (HM hl₂ rfl ?_ (BK _) (by simp[Bv])))
 have hl₃:=IZ hl₂ (·.push AI);refine(HM hl₃ rfl ?_ (by simp[Bv]) (BK _))
 have hl₄:=IZ hl₃ (·.pop);have kp4:∀ b o,s.heap.get? b=Ab o->((((s.heap.push { cls:=.type "list",data:=.seq ([]:Ac Ai).toArray }).push (JY 0 0 S es.size ep)).update s.heap.objs.size (B5 (·.push AI))).update s.heap.objs.size (B5 (·.pop))).get? b=Ab o:=λb o e=>by
  have hb:b≠s.heap.objs.size:=AW (AL e);rw[E5 _ _ _ _ hb,E5 _ _ _ _ hb];exact Aq _ (Aq _ e)
 have hit4:((((s.heap.push { cls:=.type "list",data:=.seq ([]:Ac Ai).toArray }).push (JY 0 0 S es.size ep)).update s.heap.objs.size (B5 (·.push AI))).update s.heap.objs.size (B5 (·.pop))).get? (s.heap.push { cls:=.type "list",data:=.seq ([]:Ac Ai).toArray }).objs.size=Ab (JY 0 0 S es.size ep):=by
  have hb:(s.heap.push { cls:=.type "list",data:=.seq ([]:Ac Ai).toArray }).objs.size≠s.heap.objs.size:=by rw[Bh];exact Nat.succ_ne_self _
  rw[E5 _ _ _ _ hb,E5 _ _ _ _ hb];exact AH _ rfl
 have sz4:s.heap.objs.size<=((((s.heap.push { cls:=.type "list",data:=.seq ([]:Ac Ai).toArray }).push (JY 0 0 S es.size ep)).update s.heap.objs.size (B5 (·.push AI))).update s.heap.objs.size (B5 (·.pop))).objs.size:=by
  rw[FM,FM,Bh,Bh];omega
 have eI:(s.heap.push { cls:=.type "list",data:=.seq ([]:Ac Ai).toArray }).objs.size=s.heap.objs.size+1:=Bh ..;rw[eI]at hit4 ⊢;generalize (((s.heap.push { cls:=.type "list",data:=.seq ([]:Ac Ai).toArray }).push (JY 0 0 S es.size ep)).update s.heap.objs.size (B5 (·.push AI))).update s.heap.objs.size (B5 (·.pop))=h4 at hl₄ kp4 hit4 sz4 ⊢;have neI:S≠s.heap.objs.size+1:=AW (By lS);have W:=(gQ (prog:=prog) (A:=A.in1) (I:=s.heap.objs.size+1) hh hd hI neI).toS;have hSf:s.heap.objs.size∉[s.heap.objs.size+1,S]:=λhm=>by
  rcases AJ.mp hm with e|hm
  .omega
  .exact hSS (A6.mp hm)
 have hst:SitAt w (s.heap.objs.size+1) S o es ep t 0 h4:=⟨⟨0,_,hit4,rfl,rfl,λ_=>by rw[hI.lk.pl];exact fO _⟩,kp4 S o ho⟩
 refine At ⟨GI F.plain_extend_loop _,codeAny_extend_loopS W (by rw[Bv];omega) _ hSf _ es.size 0 {s with heap:=h4} _ _ rfl (BK _) hst hl₄ (ItemsOf.nil _) λs' acc' c' hm hS' hacc=>?_⟩
 show Aw _ A (load s.heap.objs.size >>= _) _ _ s';refine Ah (wpAny_load hS' ?_);have hacc':acc'.toList=k.map λp=>Be p.2:=fQ ke (by rw[Qa];exact hacc)
 refine At ?_;rw[hacc',Moved.eq_with hm];have kp:∀ b o,s.heap.get? b=Ab o->s'.heap.get? b=Ab o:=λb o e=>hm.heap b o (λhmem=>by
  have hb:=AL e;rcases AJ.mp hmem with z|z
  .exact AW hb z
  .exact AW (By hb) (A6.mp z)) (kp4 b o e)
 exact hQ k s'.heap s'.toks kpk kp (Fx (AL hS'))
theorem mX{n:Ae}{p:Au Ae}(hp:Pm n p):p.toList.Perm (AD n):=by
 have hl:p.toList.length=n:=by rw[AR,hp.sz]
 refine Qg ?_ (λx hx=>BE.mpr (Mg hp x hx)) (by rw[D9,hl];exact Ay _)
 rw[List.Nodup,BO];intro i j hi hj hij e;rw[<-OR hp hi,<-OR hp hj]at e;have:=hp.inj i j (by omega) (by omega) e
 omega
theorem fE{Q:Vq}(hh:A.handled=Ad)(hS:IQ w s.heap S L)(nd:(L.map (·.1)).Nodup)(hz:L.length<=1000)(ht:∀ p∈L,ET s.heap (.ref p.2) p.1)(h:∀(k:Ac (Ac Ag×Al))(h':AK)(tk:Ae)(a:Al)(c:Ae),k.Perm L->k.map (·.1)=E9 (L.map (·.1))->(∀ b o,s.heap.get? b=Ab o->h'.get? b=Ab o)->s.heap.objs.size<=a ->
      h'.get? a=Ab (CP "list" (k.map λp=>Be p.2).toArray c)->Q (.ref a) {s with heap:=h',toks:=tk}):Aw (model prog w) A (call (.builtin "sorted") [.ref S]) Q E s:=by
  have ndE:(L.map Lw).Nodup:=by
    refine Du.mpr ((Du.mp nd).imp_of_mem λ{p q} hp hq ne e=>ne ?_)
    have e2:Be p.2=Be q.2:=congrArg (·.2) e;have t1:=ht p hp;rw[e2]at t1;exact t1.uniq (ht q hq)
  refine YY kind_sorted plain_sorted entry_sorted (args_sorted1 _) ?_;unfold Builtin.«sorted»;refine Ah (m:=checkCount "sorted" 1 1 _) (At ?_);refine Ah (eC hh hS ndE hz λk h1 tk kp keep hsz=>?_)
  have kl:k.length=L.length:=kp.length_eq;refine Ah (Kj ?_ (by rw[AF,Bv];omega))
  have hoL:(h1.push (CP "list" (k.map λp=>Be p.2).toArray 0)).get? h1.objs.size=Ab (CP "list" (k.map λp=>Be p.2).toArray 0):=AH _ rfl
  have kd:(k.map (·.1)).Nodup:=(kp.map _).symm.nodup nd;show Aw _ _ _ _ _ { s with heap:=h1.push (CP "list" (k.map λp=>Be p.2).toArray 0),toks:=tk }
  refine Ah (EG (Ca YN ⟨_,hoL,rfl⟩ YM (Sv (s:={ s with heap:=h1.push (CP "list" (k.map λp=>Be p.2).toArray 0),toks:=tk }) (rs:=k.map (·.1)) hoL (by simp) (λi v r e1 e2=>?_) kd (by rw[AF];omega) λpp hp hs=>⟨_,rfl,?_⟩) (YG _)))
  · rw[BC]at e1 e2;cases e:k[i]? with
    |none=>rw[e]at e1;cases e1
    |some p=>
      rw[e]at e1 e2;cases e1;cases e2;exact(ht p (kp.mem_iff.mp (EO e))).kept λb o q=>Aq _ (keep b o q)
  refine At ⟨_,rfl,?_⟩;have vl:(k.map λp=>Be p.2).length=(k.map (·.1)).length:=by simp
  rw[vl]at hp hs;have e1:=Tv kd hp hs;have pl:∀ i∈pp.toList,i<k.length:=λi hi=>by have:=Mg hp i hi;simpa using this
  obtain⟨c,hat⟩:=sortedHeap_at (out:=IM (k.map λp=>Be p.2) pp) hoL
  have o1:(IM (k.map λp=>Be p.2) pp)=((pp.toList.map λi=>k.getD i ([],0)).map λp=>Be p.2).toArray:=by
    unfold IM
    congr 1
    rw[Bl]
    apply B7
    intro i hi;simp[pl i hi]
  rw[o1]at hat ⊢;refine h (pp.toList.map λi=>k.getD i ([],0)) _ tk _ c ?_ ?_ (λb o q=>?_) hsz hat
  · refine G2 ?_ kp;refine G2 ?_ (FY (show (AD k.length).map (λi=>k.getD i ([],0))=k from ?_))
    · refine List.Perm.map _ ?_;have:pp.toList.Perm (AD (k.map (·.1)).length):=mX hp;simpa using this
    · apply Eh
      · simp
      · intro i h1 h2;simp[h2]
  · have e2:(pp.toList.map λi=>k.getD i ([],0)).map (·.1)=pp.toList.map (λi=>(k.map (·.1)).getD i []):=by
      rw[Bl]
      apply B7
      intro i hi;simp[pl i hi]
    rw[e2,e1];exact(PX kd (Nd nd) ((JV _).trans (kp.map _).symm))
  · have hb:b<s.heap.objs.size:=AL q;rw[sortedHeap_old (AW (AS hb hsz)) (by rw[Bh];exact By (AS hb hsz))]
    exact Aq _ (keep b o q)
end
end Ov
end
namespace Ov
open PySem PySem.Spec PyProof.Rows L2
variable{P:AQ}{w:AT}{K:Fg}{CL:ClA}{H H':Hp}{A B:Al->Prop}{X:Cx}{pins:Pn}{Z Z0:L2.St}{h h':AK}{a T' C C':Al}{p pos pos' np cpos:AY}{oe:Dx}{vs:Au Ai}{Q:Gx->Ap->Prop}{a0:Ai}{m:Ak->Ao Ai}{x g qual x0:Ak}{v:Ao Ai}{M:E6}{tk:Ci}{fill expr fr:Aj}{φ:AK->Prop}{Fz:Al->HO->Prop}{U:Rho}{W:XW}{hs:Ac A7}{h0:A7}{fh:Rho->O}{up:Ae->Ac Ae}{CX:CXT}{k c kk:Ae}{fd:Co}{ps:Ac Ak}{Xw:Vq}{fs:Rho->R (Ac D)}{xn:Ae->Ac D->R Ex}{d:D}{α:Type}{as:Es}{xs ys:Ac An}{env:CU}{scope:Cr}{ts:Ac Ae}
section
variable{X:Cx}
theorem iM:∀{k:Ac Ag}{its:Ac Ai},Bb (k.map V.int) its->ItemsAre (C5 P w) k its:=by
 intro k
 induction k with
 |nil=>intro its v;cases v;exact .nil
 |cons i k ih=>
  intro its v;cases v with
  |cons v1 v2=>
   obtain⟨t,rfl⟩:=v1;exact .cons (intKind_is _ _ _ _) (ih v2)
def Lv(K:Fg)(H:Hp):Ac V->Ac (Ac Ag)->Prop
 |[],[]=>Jg
 |x::xs,k::ks=>(∃ b,x=.ref b/\SqT K H b (k.map V.int))/\Lv K H xs ks
 |_,_=>Ba
theorem qF:∀{ds:Ac D}{ks:Ac (Ac Ag)}{xs:Ac V},HV ds=Ab ks->Reps K CL H A xs ds->Lv K H xs ks:=by
 intro ds
 induction ds with
 |nil=>
  intro ks xs e r;cases e;cases xs with
  |nil=>exact trivial
  |cons=>exact r.elim
 |cons d ds ih=>
  intro ks xs e r;cases xs with
  |nil=>exact r.elim
  |cons x xs=>
   cases d with
   |tup es=>
    have e':((Ga es).bind λk=>(HV ds).map (k :: ·))=Ab ks:=e
    cases e1:Ga es with
    |none=>rw[e1]at e';cases e'
    |some k=>
     cases e2:HV ds with
     |none=>rw[e1,e2]at e';cases e'
     |some ks'=>
      rw[e1,e2]at e';cases e';obtain⟨a,ys,ev,na,sq,rs⟩:=r.1;exact⟨⟨a,ev,Pt e1 rs ▸ sq⟩,ih e2 r.2⟩
   |_=>cases e
theorem Lv.length{K:Fg}{H:Hp}:∀{xs:Ac V}{ks:Ac (Ac Ag)},Lv K H xs ks->xs.length=ks.length
 |[],[],_=>rfl
 |_::_,_::_,h=>congrArg (· + 1) (Lv.length h.2)
 |[],_::_,h=>h.elim
 |_::_,[],h=>h.elim
theorem qG{s:Ap}(I:Inv X pins Z H s):∀{xs:Ac V}{ks:Ac (Ac Ag)}{its:Ac Ai},Lv X.K H xs ks->Bb xs its->∀(j:Ae)(v:Ai),its[j]?=Ab v->∃ b,v=.ref b/\CD (C5 X.prog X.w) s.heap (ks.getD j []) b:=by
 intro xs
 induction xs with
 |nil=>intro ks its k v j u e;cases v;cases e
 |cons x xs ih=>
  intro ks its k v j u e;cases ks with
  |nil=>exact k.elim
  |cons k0 ks=>
   cases v with
   |cons v1 v2=>
    cases j with
    |zero=>
     cases e;obtain⟨⟨b,rfl,sq⟩,_⟩:=k;cases v1;obtain⟨its,vs,⟨o,ho,hc,n,hd⟩,_⟩:=I.tuple sq;exact⟨b,rfl,o,its.toArray,n,ho,hc,hd,iM vs⟩
    |succ j=>exact ih k.2 v2 j u e
variable{CL:ClA}{W:XW}{pos p pos' p':AY}{a:An}{fa:Rho->R D}
end
theorem qN{ks:Ac (Ac Ag)}(h:NH ks=Aa):∀ r∈ks,∀ q∈ks,Dg r=Dg q->r=q:=λr hr q hq e=>by
 have:=Bx.mp (Bx.mp h r hr) q hq;rw[BG e]at this;simpa using this
theorem Qm(kA:Ae->Ac Ag×Al):∀ n,(E8 kA n).map (·.1)=ddK ((AD n).map λi=>(kA i).1)
 |0=>rfl
 |n+1=>by
  have ih:=Qm kA n;unfold ddK at ih ⊢;rw[IW,Fk,List.foldl_append,<-ih];show (Jv (E8 kA n) (kA n).1 (kA n).2).map (·.1)=_;unfold Jv;have e:((E8 kA n).map (·.1)).any (λq=>q==(kA n).1)=(E8 kA n).any λp=>p.1==(kA n).1:=by rw[Kl];rfl
  show _=if (((E8 kA n).map (·.1)).any λq=>q==(kA n).1)=Aa then (E8 kA n).map (·.1) else (E8 kA n).map (·.1)++[(kA n).1]
  rw[e];split
  .rfl
  .rw[Fk];rfl
theorem eY{k:Ac Ag}(t:CD (C5 P w) h k a)(hn:k≠[]):ET h (.ref a) k:=by
 obtain⟨o,items,n,ho,hc,hd,hi⟩:=t;refine⟨a,items,rfl,⟨o,ho,hc,n,hd⟩,?_,hn⟩;generalize items.toList=vs at hi
 clear ho hc hd hn
 induction hi with
 |nil=>exact .nil
 | @cons k v ks vs h1 h2 ih=>
  cases v with
  |int i t=>
   have e:i=k:=by
    have:decide (i=k)=Aa\/decide (k=i)=Aa:=by
     first
     |exact .inl h1
     |exact .inr h1
     |(have h1':(i==k)=Aa:=h1;exact .inl (BG (eq_of_beq h1')))
     |(have h1':(k==i)=Aa:=h1;exact .inr (BG (eq_of_beq h1')))
    rcases this with q|q
    .exact AX q
    .exact(AX q).symm
   subst e;exact .cons _ _ ih
  |_=>exact absurd (show Af=Aa from h1) Ax
theorem UD{α:Type}{f:Ae->α}{n:Ae}:∀{k:Ac α},(∀ p∈k,∃ j,j<n/\p=f j)->∃ js:Ac Ae,(∀ j∈js,j<n)/\k=js.map f
 |[],_=>⟨[],λ_ h=>by (cases h),rfl⟩
 |p::k,h=>by
  obtain⟨j,hj,rfl⟩:=h p AM;obtain⟨js,h1,rfl⟩:=UD (k:=k) λq hq=>h q (AG _ hq)
  exact⟨j::js,λi hi=>by
   rcases AJ.mp hi with rfl|hi
   .exact hj
   .exact h1 i hi,rfl⟩
noncomputable def adr:Ai->Al
 |.ref b=>b
 |_=>0
section
variable{X:Cx}
def cN(K:Fg)(ta:TA):TE:=λZ H Q=>ta Z H λvs H1=>∃ a xs ks,vs=[.ref a]/\SqL K H1 a xs/\Lv K H1 xs ks/\(∀ k∈ks,k≠[])/\ks.length<=200/\NH ks=Aa /\
 ∀(js:Ac Ae)(p:Al),(∀ j∈js,j<ks.length)->(js.map λj=>ks.getD j [])=E9 (ddK ks)->H1 p=Ad->Q (.ref p) (upd H1 p (.lst (js.map λj=>xs.getD j .non)))
theorem nB{a:An}{ta:TA}{p':AY}(hu:X.A.units+64<Cj)(hc:X.calm=Aa)(hg:Gl X "sorted")(hm:X.mg "sorted" = Ad)(hg':Gl X "set")(hm':X.mg "set" = Ad)(ha:PA X [a] ta)(hs:AB [a] X.env=[(Af,eval a X.env)]):
    PE X (.Call (.Name "sorted" p) [.Call (.Name "set" p') [a] [] pos'] [] pos) (cN X.K ta):=by
  intro pins s Z H Q I h;refine JK (IF I hg hm YJ (YL ?_ rfl rfl));show Aw _ _ (spliced ((Af,eval (.Call (.Name "set" p') [a] [] pos') X.env)::Cc pos (AB [] X.env))) _ _ s;refine HE ?_;refine JK (IF I hg' hm' PyProof.Rows.boot_set (BV (thn (ha pos' pins s Z H _ I h) λus s1 ⟨vs,H1,I1,r1,q1⟩=>?_) (by rw[hs];rfl) rfl))
  obtain⟨b,xs,ks,e,sq,kv,hne,hl,hin,q⟩:=q1;subst e;cases r1 with
  |cons r rr=>
    cases rr;cases r;obtain⟨its,rv,pl,hz⟩:=I1.list sq;have hsz:its.toArray.size=ks.length:=by rw[AO,<-rv.length,kv.length]
    have hiz:its.length=ks.length:=by rw[<-rv.length,kv.length]
    have kat:∀ j v,its[j]?=Ab v->v=.ref (adr (its.getD j AI))/\CD (C5 X.prog X.w) s1.heap (ks.getD j []) (adr (its.getD j AI)):=λj v e=>by
      obtain⟨c,rfl,hk⟩:=qG I1 kv rv j v e;have e2:its.getD j AI=.ref c:=by rw[A8,e];rfl
      rw[e2];exact⟨rfl,hk⟩
    have hmem:∀ j,j<ks.length->ks.getD j []∈ks:=λj hj=>by
      rw[A8,AC hj];exact C8 _
    refine dO (kA:=λj=>(ks.getD j [],adr (its.getD j AI))) (by omega) (I1.ok.hd hc) pl.isList (λj v e=>kat j v (by rw[<-Ew];exact e)) (by rw[hsz];exact hl)
      (λi j hi hj e=>qN hin _ (hmem i (by rw[<-hsz];exact hi)) _ (hmem j (by rw[<-hsz];exact hj)) e) λh' tk hS kp=>Ih ?_
    have dd:(E8 (λj=>(ks.getD j [],adr (its.getD j AI))) its.toArray.size).map (·.1)=ddK ks:=by
      rw[Qm,hsz]
      congr 1
      apply Eh
      · simp
      · intro i h1 h2;simp[h2]
    refine fE (s:={s1 with heap:=h',toks:=tk}) (I1.ok.hd hc) hS (Ql _ _) (by have:=M0 (λj=>(ks.getD j [],adr (its.getD j AI))) its.toArray.size;omega) (λp hp=>?_) λk h2 tk2 aL c kp2 ek keep hge hat=>?_
    · obtain⟨j,hj,rfl⟩:=K6 hp;have hj':j<its.length:=by rw[hiz,<-hsz];exact hj
      obtain⟨_,hk⟩:=kat j _ (AC hj');exact(eY hk (hne _ (hmem j (by omega)))).kept λb o e=>kp b o (AL e) e
    · obtain⟨js,hjs,rfl⟩:=UD (k:=k) (n:=its.toArray.size) (f:=λj=>(ks.getD j [],adr (its.getD j AI))) λp hp=>K6 (kp2.mem_iff.mp hp)
      rw[hsz]at hjs;rw[dd,Bl]at ek;have ek':(js.map λj=>ks.getD j [])=E9 (ddK ks):=ek
      have sz1:s1.heap.objs.size<=h'.objs.size:=by
        obtain⟨o,es,ep,t,m,own,ho,_⟩:=hS;exact Fx (AL ho)
      have ev:((js.map λj=>(ks.getD j [],adr (its.getD j AI))).map λp=>Be p.2)=js.map λj=>its.getD j AI:=by
        rw[Bl]
        apply B7
        intro j hj;have hj':j<its.length:=by rw[hiz];exact hjs j hj
        have e1:=AC hj';have e2:its.getD j AI=its[j]:=by rw[A8,e1];rfl
        have:=(kat j _ e1).1;show Be (adr (its.getD j AI))=its.getD j AI;rw[<-this,e2]
      rw[ev]at hat;have hf:H1 aL=Ad:=I1.hok.fresh (Da sz1 hge);have vp:=PV rv js (λi hi=>by rw[kv.length];exact hjs i hi)
      have jl:js.length<=1000:=by
        have e1:js.length=(E9 (ddK ks)).length:=by rw[<-ek',AF]
        have e2:=(JV (ddK ks)).length_eq;have e3:=M0 (λj=>(ks.getD j [],adr (its.getD j AI))) its.toArray.size
        rw[<-dd,AF]at e2;rw[<-dd]at e1;omega
      refine⟨.ref aL,_,I1.laid (t':=tk2) (λb o e=>keep b o (kp b o (AL e) e)) (Da sz1 hge) (o:=.lst (js.map λj=>xs.getD j .non)) ?_,rfl,q js aL hjs ek' hf⟩
      refine⟨?_,js.map λi=>its.getD i AI,c,vp,hat⟩
      rw[AF,Bv];omega
end
section
variable{X:Cx}{CL:ClA}{W:XW}{pos p pos' p':AY}{a:An}{fa:Rho->R D}
theorem Uk:∀{xs:Ac D}{k:Ac Ag},Ga xs=Ab k->xs=k.map D.int
 |[],k,h=>by cases h;rfl
 |d::xs,k,h=>by
  cases d with
  |int i=>
   have h':(Ga xs).map (i :: ·)=Ab k:=h;cases e:Ga xs with
   |none=>rw[e]at h';cases h'
   |some k'=>
    rw[e]at h';cases h';rw[Uk e];rfl
  |_=>cases h
theorem U_6:∀{ds:Ac D}{ks:Ac (Ac Ag)},HV ds=Ab ks->ds=ks.map tI
 |[],ks,h=>by cases h;rfl
 |d::ds,ks,h=>by
  cases d with
  |tup xs=>
   have h':((Ga xs).bind λk=>(HV ds).map (k :: ·))=Ab ks:=h
   cases e:Ga xs with
   |none=>rw[e]at h';cases h'
   |some k=>
    cases e2:HV ds with
    |none=>rw[e,e2]at h';cases h'
    |some ks'=>
     rw[e,e2]at h';cases h';rw[U_6 e2,Uk e];rfl
  |_=>cases h
theorem lC(ha:ST X CL W a fa)(hu:X.A.units+64<Cj)(hc:X.calm=Aa)(hg:Gl X "sorted")(hm:X.mg "sorted" = Ad)(hg':Gl X "set")(hm':X.mg "set" = Ad)(hs:AB [a] X.env=[(Af,eval a X.env)]):
  SE X CL W (.Call (.Name "sorted" p) [.Call (.Name "set" p') [a] [] pos'] [] pos) (λU=>(fa U).bind λx=>biD .sset [x]):=
 λA=>PE.weak (nB hu hc hg hm hg' hm' (EH (ha A) F7 hs) hs) λZ H Q ⟨hA,U,g,q⟩=>⟨hA,U,g,Bg.bind q λd v H1 _ s1 r1 p1=>by
  cases d with
  |lst ds=>
   obtain⟨b,xs,rfl,sq,r⟩:=r1.lst_of;have p2:Bg (λH=>Rep X.K CL H A) W H1 (Mp ds) Q:=p1
   unfold Mp at p2;cases e:HV ds with
   |none=>rw[e]at p2;exact p2.elim
   |some ks=>
    rw[e]at p2;dsimp only at p2;split at p2
    .rename_i hb;simp only[Am]at hb;obtain⟨⟨h1,h2⟩,h3⟩:=hb;have kv:=qF e r;refine⟨b,xs,ks,rfl,sq,kv,λk hk z=>?_,Fw h2,h3,λjs p hj ej hp=>?_⟩
     .have:=Bx.mp h1 k hk;rw[z]at this;cases this
     .refine p2 _ _ (GR hp _) ?_;have ed:=U_6 e;subst ed;have rp:=P0 r js (λi hi=>by rw[AF];exact hj i hi)
      have e2:(js.map λi=>(ks.map tI).getD i .non)=KG (ltD 1) ((ddK ks).map λk=>D.tup (k.map D.int)):=by
       have e3:KG (ltD 1) ((ddK ks).map tI)=(E9 (ddK ks)).map tI:=Nc _;show _=KG (ltD 1) ((ddK ks).map tI);rw[e3,<-ej,Bl]
       apply B7
       intro i hi;simp[hj i hi]
      rw[e2]at rp;exact QL (hA.same s1) hp rp
    .exact p2.elim
  | _=>exact p1.elim⟩
end
section
theorem pL(l:Al)(items:Au Ai)(n:Ae)(b:Al)(items2:Au Ai)(n2:Ae)(dd:Ao Al)(sl:Au (Ao Ai))(hs0:¬(!items.isEmpty&&DV (items.size+items2.size))=Aa)(hs1:items.size<=sizeLine)(hs2:items.size+items2.size<=sizeLine+1):
  Meets (Builtin.«list.extend» ⟨[.ref l,.ref b],[]⟩) (λ_ R s=>s.heap.get? l=Ab { cls:=.type "list",dict:=Ad,data:=.seq items n,slots:=#[] }/\s.heap.get? b=Ab { cls:=.type "tuple",dict:=dd,data:=.seq items2 n2,slots:=sl }/\R (.ok (.ret AI)) {s with heap:=s.heap.update l (B5 λx=>x++items2),toks:=s.toks}):=
 .of_wp λprog w A R s h=>by
  obtain⟨hp,g,d,tk,os⟩:=s;obtain⟨hl,hb,h⟩:=h;have f1:=AutoSeq1.idx_int;have f2:=AutoSeq1.sub_tuple_tuple;have f3:=AutoSeq1.sub_list_list;have f4:=AutoSeq1.sub_tuple_list;have f5:=AutoSeq1.sub_list_tuple;
  have hz':(items++items2).size<=sizeLine+1:=by rw[Ib];exact hs2
  wp_walk using (wpAny_updateSeq hl rfl (hz:=hs1) (_hz':=hz')),YR hl,YR hb;exact⟨_,rfl,h⟩
end
section
variable{X:Cx}
def xG(K:Fg):V->Ac V->Hp->VK->Prop:=λx vs H Q=>∃ l b xs zs,x=.ref l/\vs=[.ref b]/\H l=Ab (.lst xs)/\SqT K H b zs/\xs.length+zs.length<=sizeLine/\Q .non (upd H l (.lst (xs++zs)))
theorem mV:MtM X "list.extend" (xG X.K):=by
 intro pins s Z H x vs v us Q I rx rv h;obtain⟨l,b,xs,zs,rfl,rfl,hH,hB,hz,q⟩:=h;cases rx;obtain⟨u,rfl,ru⟩:=rv.one;cases ru;obtain⟨z,its,n,r,hl,e⟩:=I.lstM hH;obtain⟨its2,r2,⟨o,e2,c2,n2,d2⟩,z2⟩:=I.tuple hB;have hl2:=r2.length;obtain⟨oc,od,oda,os⟩:=o;dsimp only at c2 d2;subst c2 d2;have hsz:its.toArray.size+its2.toArray.size<=sizeLine:=by rw[AO,AO];omega
 have hlong:¬ (!its.toArray.isEmpty&&DV (its.toArray.size+its2.toArray.size))=Aa:=by
  rw[Ub hsz,Gd];exact Ax
 refine JQ FA ⟨_,e,rfl⟩ Zz (Zt _ _)
  (pL l its.toArray n b its2.toArray n2 od os hlong (by rw[AO];omega) (by omega)) ⟨e,e2,?_⟩
 refine⟨.non,_,I.lset (its':=its++its2) hH e (by simp) (r.append r2) ?_,rfl,q⟩
 rw[Bt];omega
variable{CL:ClA}{W:XW}{o e:An}{fe:Rho->R D}{i:Ae}{apos cpos pos:AY}
theorem mD(ho:PE X o (J5 i))(he:ST X CL W e fe)(hbase:Fd o "extend" X.env (eval o X.env)=eval o X.env)(hfew:((Cc cpos (AB [e] X.env)).all (λx=>!x.1)&&(JM cpos (Hz [] X.env)).all (λx=>x.1.isSome)&&decide ([e].length+([]:Ac Ey).length+(if ([]:Ac Ey).isEmpty then 0 else 1)<30))=Aa)(hline:(apos.endLine==cpos.line)=Aa)(hs:AB [e] X.env=[(Af,eval e X.env)])(hsw:DN (.Call (.Attribute o "extend" apos) [e] [] cpos) Ad pos.line X.env=pure Af):
  SS X CL W (.Expr (.Call (.Attribute o "extend" apos) [e] [] cpos) pos) (λU=>O.of U (De U i) λxs=>O.of U (fe U) λx=>O.of U ((Dr .Add x (.tup [])).bind λy=>biD .list [y]) λd=>O.of U (KN d) λys=>if BY (xs.length+ys.length)=Aa then .next (U.set i (Ab (.lst (xs++ys),Aa))) else .bad):=λFz B pins s Z H D I ⟨U,x,p⟩=>by
 refine LY (OS Gn FA ZM mV ho (EH (he (Ck B U Z)) F7 hs) hbase hfew hline hs rfl) hsw pins s Z H D I ?_;dsimp only at p;cases e1:De U i with
 |bad=>rw[e1]at p;exact p.elim
 |exn z=>exact(P9 e1).elim
 |ok ds=>
  rw[e1,O.of_ok]at p;have hi:=QH e1;obtain⟨a,xs,ds',q,e2,ha,hh,r⟩:=x.good.ow i _ hi;cases e2;refine⟨_,q,.inl ⟨rfl,xs,SqL.of hh⟩,x.aok,U,x.good,Cq.ex x p λd v H' _ s rv x' q'=>?_⟩
  cases d with
  |tup es=>
   obtain⟨b,ys,rfl,h0,h1,rs⟩:=CY.tup_of rv;have eb:Dr .Add (.tup es) (.tup [])=if (!es.isEmpty&&BY (es.length+0))=Aa then .ok (.tup (es++[])) else .bad:=rfl
   rw[eb]at q';split at q'
   .rw[R.bind_ok,show biD .list [.tup (es++[])]=.ok (.lst (es++[])) from rfl,O.of_ok,T5,O.of_ok,Bu]at q'
    split at q'
    .rename_i hz;refine⟨a,b,xs,ys,rfl,rfl,s _ _ hh,h1,?_,q' _ _ (x'.upd hi q ((r.same s).append rs))⟩;rw[r.length,rs.length];exact JU hz
    .exact q'.elim
   .exact q'.elim
  |_=>exact q'.elim
end
section
open PySem.AutoSeq1 (wpAny_loadPart')
end
section
variable{prog:AQ}{w:AT}{A:AV}{R:IA->Ap->Prop}{I S T:Al}{u v:Ai}{c:Ae}{P:Ae->Ai->Prop}{St:Ae->AK->Prop}{s:Ap}{r q:Ac Ag}
end
section
variable{X:Cx}{CL:ClA}{W:XW}
end
def Pe(e T:Al)(cls:Ai)(dx:Ao Al)(fl:Ai)(h:AK):Prop:=∃ oe vs oT ts a0,h.get? e=Ab oe/\oe.cls=cls/\oe.dict=dx/\vs[0]?=Ab a0/\oe.data=.fields vs/\vs[1]?=Ab (.ref T)/\T≠e/\h.get? T=Ab oT/\oT.data=.fields ts/\ts[3]?=Ab fl
noncomputable abbrev Fly(e T:Al)(cls:Ai)(dx:Ao Al)(h:AK):Prop:=Pe e T cls dx AI h
noncomputable def zE(C:Al)(dx:Ao Al)(t:Al):Dx:={cls:=.ref C,dict:=dx,data:=.fields #[.ref t,.none,.none,.none,.bool Af,.none]}
structure Shift (ex fs:Ac Al) (h h':AK):Prop where
 keep:∀ b o,h.get? b=Ab o->b∉ex->b∉fs->h'.get? b=Ab o
 slot:∀ b o,h.get? b=Ab o->b∈fs->∃ sl,h'.get? b=Ab {o with slots:=sl}
theorem ObjOk.isThere:∀(o:HO),L2.ObjOk P w H h a o->∃ ob,h.get? a=Ab ob
 |.lst _,x=>by obtain⟨_,_,_,_,e⟩:=x;exact⟨_,e⟩
 |.tup _,x=>by obtain⟨_,_,_,p⟩:=x;obtain⟨o,e,_⟩:=p;exact⟨_,e⟩
 |.dK _,x=>by obtain⟨_,_,_,_,o,_,_,e,_⟩:=x;exact⟨_,e⟩
 |.dT _,x=>by obtain⟨_,_,_,_,o,_,_,e,_⟩:=x;exact⟨_,e⟩
 |.set _ _,x=>by obtain⟨o,_,_,_,e,_⟩:=x;exact⟨_,e⟩
 |.ins _ _ _,x=>by obtain⟨_,_,_,e,_⟩:=x;exact⟨_,e⟩
 |.own _,x=>x
 |.xd _,x=>by obtain⟨_,⟨_,_,_,e,_⟩,_⟩:=x;exact⟨_,e⟩
 |.met _ _,x=>⟨_,x⟩
 |.rng _ _,x=>by obtain⟨_,_,_,e⟩:=x;exact⟨_,e⟩
 |.frz _ _,x=>⟨_,x.1⟩
 |.tbl _,x=>⟨_,x⟩
 |.ext _,x=>x.2.1
theorem N4(x:HOk P w H h)(e:h.get? a=Ad):H a=Ad:=by
 cases q:H a with
 |none=>rfl
 |some o=>
  obtain⟨ob,z⟩:=ObjOk.isThere o (x a o q);rw[e]at z;cases z
theorem HOk.shift{ex fs:Ac Al}(x:HOk P w H h)(sh:Shift ex fs h h')(h1:∀ b∈ex,H b=Ad)(h2:∀ b∈fs,H b=Ad):HOk P w H h':=λa o e=>
 (x a o e).stay (λb u hb q=>by
  have hs:∃ v,H b=Ab v:=by
   rcases hb with rfl|hb
   .exact⟨_,e⟩
   .exact⟨_,hb⟩
  obtain⟨v,hv⟩:=hs;exact sh.keep b u q (λz=>by rw[h1 b z]at hv;cases hv) (λz=>by rw[h2 b z]at hv;cases hv)) (λ_ q=>q) λ_ _ q=>q
theorem Un.shift{fs0 fs ex:Ac Al}{h0:AK}(u:Un fs0 [] H H' h0 h)(sh:Shift ex fs h h')(h1:∀ b∈ex,h0.get? b=Ad)(h2:∀ b∈fs,b∈fs0\/h0.get? b=Ad):Un fs0 [] H H' h0 h' where
 keep:=λb o q n hb hx=>sh.keep b o (u.keep b o q n hb hx) (λz=>by rw[h1 b z]at q;cases q) λz=>(h2 b z).elim hb λe=>by rw[e]at q;cases q
 slot:=λb o q n hb hx=>by
  obtain⟨sl,e1⟩:=u.slot b o q n hb hx;by_cases hf:b∈fs
  .obtain⟨sl',e2⟩:=sh.slot b _ e1 hf;exact⟨sl',e2⟩
  .exact⟨sl,sh.keep b _ e1 (λz=>by rw[h1 b z]at q;cases q) hf⟩
 free:=u.free
 there:=λb o q hx=>by
  obtain⟨o',e1⟩:=u.there b o q hx;by_cases hf:b∈fs
  .obtain⟨sl',e2⟩:=sh.slot b _ e1 hf;exact⟨_,e2⟩
  .exact⟨o',sh.keep b _ e1 (λz=>by rw[h1 b z]at q;cases q) hf⟩
 tups:=u.tups
 frzs:=u.frzs
 tbls:=u.tbls
theorem pT(f:Au Ai->Au Ai)(o:Dx):(FU f o).dict=o.dict:=by
 obtain⟨c,d,dt,sl⟩:=o;cases dt<;>rfl
section
variable{M:E6}{A:AV}{E:Vq}{s:Ap}{env:CU}{outer:Ac CU}{L e T:Al}{cls:Ai}{dx:Ao Al}{base h:AK}
theorem Tu{hd:Ai}{nx:Aj}(hfr:A.frames=Ab (env::outer))(hf:env.frame=Ab L)(ff:s.heap.FunFrames base (env::outer))(he:s.heap.get? e=Ab oe)(dt:oe.data=.fields vs)(hz:1<vs.size)(hQ:∀ h' T' oT ts,h'.get? e=Ab (FU (·.setIfInBounds 1 (.ref T')) oe)->T'≠e->s.heap.get? T'=Ad->h'.get? T'=Ab oT->oT.data=.fields ts->ts[3]?=Ab (CB L)->Shift [e] (frs (env::outer)) s.heap h'->Q () {s with heap:=h'}):
  Aw M A (do
   let fr <-frameOf env
   let pl <-entryPlaceOf L nx
   let en <-Y_2 hd fr .none (CB L) .none pl
   K4 (.ref e) 1 en) Q E s:=by
 have nf:e∉frs (env::outer):=λz=>by
  obtain⟨_,o,q,n⟩:=ff.mem z;rw[he]at q;cases q;exact n vs dt
 refine Ah (wpAny_frameOf_fun hfr ff hf λk1 so=>Ah (wpAny_entryPlaceOf λpl ip=>?_))
 obtain⟨sz,sm,sl⟩:=so;have e1:k1.get? e=Ab oe:=(sm e nf).trans he;unfold Y_2;unfold newFields;refine Ah (CT ?_ (ip.sizeOk5 _ _ _ _ _));generalize hX:({ cls:=.type "traceback",dict:=Ad,data:=.fields ([hd,.ref L,.none,CB L,.none]++(if pl.isEmpty then Ho 6 AI else pl)).toArray }:Dx)=ob
 have od:ob.data=.fields ([hd,.ref L,.none,CB L,.none]++(if pl.isEmpty then Ho 6 AI else pl)).toArray:=by rw[<-hX]
 have nl:k1.objs.size≠e:=E1 (AL e1);have e2:=Aq ob e1;refine Ek e2 dt hz ?_;have up:∀ b,b≠e->((k1.push ob).update e (FU (·.setIfInBounds 1 (.ref k1.objs.size)))).get? b=(k1.push ob).get? b:=λb nb=>Cz _ _ (Ea nb)
 have lf:ob.isFreed=Af:=by rw[<-hX];rfl
 refine hQ _ k1.objs.size ob _ (CG _ e2 (DK (Cm dt _))) nl ?_ ((up _ nl).trans (AH k1 lf)) od ?_ ⟨λb o q n1 n2=>?_,λb o q hb=>?_⟩
 .rw[sz];exact G7 (Ay _)
 .simp
 .have nb:b≠e:=λz=>n1 (by rw[z];exact AM)
  rw[up b nb];exact Aq ob ((sm b n2).trans q)
 .obtain⟨sl',q'⟩:=sl b o q;have nb:b≠e:=λz=>nf (z ▸ hb)
  exact⟨sl',(up b nb).trans (Aq ob q')⟩
theorem TN{oT:Dx}{ts:Au Ai}{fl:Ai}(hc:oe.cls=cls)(hx:oe.dict=dx)(h0:vs[0]?=Ab a0)(dt:oe.data=.fields vs)(hz:1<vs.size)(g:h'.get? e=Ab (FU (·.setIfInBounds 1 (.ref T')) oe))(ne:T'≠e)(gT:h'.get? T'=Ab oT)(dT:oT.data=.fields ts)(f3:ts[3]?=Ab fl):Pe e T' cls dx fl h':=
 ⟨_,_,oT,ts,a0,g,(Gv _ _).trans hc,(pT _ _).trans hx,by rw[Array.getElem?_setIfInBounds_ne (by decide)];exact h0,Cm dt _,by simp[hz],ne,gT,dT,f3⟩
theorem LV{i:Ae}{v:Ai}(q:vs[i]?=Ab v):i<vs.size:=(FR.mp q).1
theorem Up(hfr:A.frames=Ab (env::outer))(hf:env.frame=Ab L)(ff:s.heap.FunFrames base (env::outer))(fl:Fly e T cls dx s.heap)(hQ:∀ h' T',Pe e T' cls dx (CB L) h'->Shift [e,T] (frs (env::outer)) s.heap h'->s.heap.get? T'=Ad->Q () {s with heap:=h'}):Aw M A (HG (.ref e) env) Q E s:=by
 obtain⟨oe,vs,oT,ts,a0,he,hc,hx,h0,dt,h1,ne,hT,dT,h3⟩:=fl;have z3:=LV h3;unfold HG;simp only[hf];refine Ah (B8 he dt h1 ?_);rw[Ar (by simp:(Be T != AI)=Aa)]
 refine Ah (B8 hT dT h3 ?_);rw[As (by simp[CB]:¬ (AI==CB L)=Aa)]
 refine Ah (Ek hT dT z3 ?_);have up:∀ b,b≠T->(s.heap.update T (FU (·.setIfInBounds 3 AI))).get? b=s.heap.get? b:=λb nb=>Cz _ _ (Ea nb)
 have rcd:∀ b o,s.heap.get? b=Ab o->(∀ us,o.data≠.fields us)->b≠T:=λb o q n z=>by
  rw[z,hT]at q;cases q;exact n ts dT
 refine Tu (base:=base) hfr hf (ff.of_keeps λb o q n=>⟨o,(up b (rcd b o q n)).trans q,rfl⟩) ((up e (Ea ne)).trans he) dt (LV h1) λh' T' oT' ts' g nT gn gT dT' f3 sh=>?_
 have T0:s.heap.get? T'=Ad:=by
  by_cases z:T'=T
  .rw[z]at gn;rw[CG _ hT (DK (Cm dT _))]at gn;cases gn
  .rw[<-up T' z];exact gn
 refine hQ h' T' (TN hc hx h0 dt (LV h1) g nT gT dT' f3) ⟨λb o q n1 n2=>?_,λb o q hb=>?_⟩ T0
 .simp only[AJ,Bo,CN,FH]at n1;exact sh.keep b o ((up b n1.2).trans q) (by simp[n1.1]) n2
 .obtain⟨_,o',q',n⟩:=ff.mem hb;rw[q]at q';cases q';exact sh.slot b o ((up b (rcd b o q n)).trans q) hb
theorem Oj{fv:Ai}(fl:Pe e T cls dx fv s.heap)(hQ:∀ h',Fly e T cls dx h'->(∀ b o,b≠T->s.heap.get? b=Ab o->h'.get? b=Ab o)->Q () {s with heap:=h'}):Aw M A (Jd (.ref e) Ad) Q E s:=by
 obtain⟨oe,vs,oT,ts,a0,he,hc,hx,h0,dt,h1,ne,hT,dT,h3⟩:=fl;have z3:=LV h3;unfold Jd;refine Ah (B8 he dt h1 ?_);rw[Ar (by simp:(Be T != AI)=Aa)]
 refine Ek hT dT z3 (hQ _ ?_ λb o nb q=>(Cz _ _ (Ea nb)).trans q)
 exact⟨oe,vs,_,_,a0,(Cz _ _ ne).trans he,hc,hx,h0,dt,h1,ne,CG _ hT (DK (Cm dT _)),Cm dT _,by simp[z3]⟩
theorem PZ{h1 h2:AK}{ex:Ac Al}(ff:s.heap.FunFrames base (env::outer))(sh:Shift ex (frs (env::outer)) s.heap h1)(hT:s.heap.get? T'=Ad)(k:∀ b o,b≠T'->h1.get? b=Ab o->h2.get? b=Ab o):Shift ex (frs (env::outer)) s.heap h2:=
 ⟨λb o q n1 n2=>k b o (λz=>by rw[z,hT]at q;cases q) (sh.keep b o q n1 n2),λb o q hb=>let ⟨sl,q'⟩:=sh.slot b o q hb;⟨sl,k b _ (λz=>by rw[z,hT]at q;cases q) q'⟩⟩
theorem iE(hfr:A.frames=Ab (env::outer))(hf:env.frame=Ab L)(ff:s.heap.FunFrames base (env::outer))(fl:Fly e T cls dx s.heap)(hQ:∀ h' T',Fly e T' cls dx h'->Shift [e,T] (frs (env::outer)) s.heap h'->(T'=T\/s.heap.get? T'=Ad)->Q () {s with heap:=h'}):Aw M A (leaving env (.ref e)) Q E s:=by
 unfold leaving;exact Ah (Up hfr hf ff fl λh1 T' f1 sh hT=>Oj f1 λh2 f2 k=>hQ h2 T' f2 (PZ ff sh hT k) (.inr hT))
theorem fL(hfr:A.frames=Ab (env::outer))(hf:env.frame=Ab L)(ff:s.heap.FunFrames base (env::outer))(he:s.heap.get? e=Ab oe)(hc:oe.cls=cls)(hx:oe.dict=dx)(dt:oe.data=.fields vs)(h0:vs[0]?=Ab a0)(h1:vs[1]?=Ab .none)(hQ:∀ h' T',Fly e T' cls dx h'->Shift [e] (frs (env::outer)) s.heap h'->s.heap.get? T'=Ad->Q () {s with heap:=h'}):Aw M A (leaving env (.ref e)) Q E s:=by
 unfold leaving HG;simp only[hf];refine Ah (Ah (B8 he dt h1 ?_));rw[As (by decide)]
 exact Tu (base:=base) hfr hf ff he dt (LV h1) λh' T' oT ts g nT gn gT dT f3 sh=>Oj (TN hc hx h0 dt (LV h1) g nT gT dT f3) λh2 f2 k=>hQ h2 T' f2 (PZ ff sh gn k) gn
theorem kI(hfr:A.frames=Ab (env::outer))(hf:env.frame=Ab L)(ff:s.heap.FunFrames base (env::outer))(fl:Fly e T cls dx s.heap)(hQ:∀ h' T',Fly e T' cls dx h'->Shift [e,T] (frs (env::outer)) s.heap h'->(T'=T\/s.heap.get? T'=Ad)->Q () {s with heap:=h'}):Aw M A (HG (.ref e) env) (λ_ s2=>Aw M A (Jd (.ref e) Ad) Q E s2) E s:=
 Up hfr hf ff fl λh1 T' f1 sh hT=>Oj f1 λh2 f2 k=>hQ h2 T' f2 (PZ ff sh hT k) (.inr hT)
theorem iF{l:Ac CU}{A':AV}(ff:s.heap.FunFrames base l)(fl:Fly e T cls dx s.heap)(hQ:∀ h' T',Fly e T' cls dx h'->Shift [e,T] (frs l) s.heap h'->(T'=T\/s.heap.get? T'=Ad)->Q () {s with heap:=h'}):Aw M A' (Jd (.ref e) Ad) Q E s:=by
 obtain⟨oe,vs,oT,ts,a0,he,hc,hx,h0,dt,h1,ne,hT,dT,h3⟩:=id fl;refine Oj fl λh' f' k=>hQ h' T f' ⟨λb o q n1 n2=>k b o (λz=>n1 (by rw[z];simp)) q,λb o q hb=>⟨o.slots,k b o (λz=>?_) q⟩⟩ (.inl rfl)
 obtain⟨_,o',q',n⟩:=ff.mem hb;rw[z,hT]at q';cases q';exact n ts dT
end
def CXR(P:AQ)(w:AT):CXT:=λouter H s E ev s'=>∃ e T cls dx H',ev=.ref e/\s'.os=s.os/\Ge s'.gens/\Un (frs outer) [] H H' s.heap s'.heap/\HOk P w H' s'.heap/\Fly e T cls dx s'.heap/\H' e=Ad/\H' T=Ad/\s.heap.get? e=Ad/\s.heap.get? T=Ad/\E cls dx H'
def NL(X:Cx)(CL:ClA)(W:XW):Prop:=∀ pins Z H s e C dx t x,Inv X pins Z H s->(X.ex=[]->X.s₀.heap.get? e=Ad)->H e=Ad->s.heap.get? e=Ab (zE C dx t)->GU X.K CL H (.ref C) dx x->W x H->X.xe (.ref e) s
section
variable{P:AQ}{w:AT}{K:Fg}{mg:Ak->Ao Ai}{base:AK}{N:Ac Ak}{qual:Ak}{scope:Cr}{f:Al}{cd:Ai}{A:AV}{outer:Ac CU}{s:Ap}{H:Hp}{E:XK}{CL:ClA}{W:XW}
theorem QN{s:Ap}(I:Inv X pins Z H s):∀ b∈frs X.stack,b∈X.fs\/X.s₀.heap.get? b=Ad:=λb hb=>by
 rcases AJ.mp (I.stkSub b hb) with z|z
 .exact .inr (by rw[z];exact G7 I.ok.above)
 .exact .inl z
theorem L6{s:Ap}{b:Al}(I:Inv X pins Z H s)(hx:X.ex=[])(h:s.heap.get? b=Ad):X.s₀.heap.get? b=Ad:=by
 cases q:X.s₀.heap.get? b with
 |none=>rfl
 |some o=>
  obtain⟨o',z⟩:=I.base.there b o q (by rw[hx];simp)
  rw[h]at z;cases z
theorem zR(hE:∀ x cls dx H',W x H'->GU K CL H' cls dx x->E cls dx H'):∀ A',Mm (CXR P w) (Hy (CXR P w) P w K mg base N qual scope f cd A outer s H E) (EKW K CL A' W):=by
 intro A' pins Z H1 s1 ev s2 I h;obtain⟨e,T,cls,dx,H',rfl,os,bare,un,hok,fl,he,hT,ne,nT,x,xr,wx⟩:=h;have I':=I.call' (s':=s2) (ch:=[]) os un hok bare (λb z=>absurd z (by simp))
 have hb0:Un (frs outer) [] H H' s.heap s2.heap:=I'.base;show Aw (model P w) (A.deeper (FS qual scope s.heap.objs.size f cd)) (leaving (FS qual scope s.heap.objs.size f cd) (.ref e)) _ _ s2;refine iE (L:=s.heap.objs.size) I'.ok.frames rfl I'.stack fl λh' T' fl' sh hT'=>?_
 have e0:s.heap.get? e=Ad:=L6 I rfl ne;have T0:s.heap.get? T=Ad:=L6 I rfl nT;refine⟨e,T',cls,dx,H',rfl,I'.os,bare,Un.shift hb0 sh ?_ (QN I'),HOk.shift hok sh ?_ I'.stkFree,fl',he,?_,e0,?_,?_⟩
 .intro b hb;rcases AJ.mp hb with rfl|hb
  .exact e0
  .rw[A6.mp hb];exact T0
 .intro b hb;rcases AJ.mp hb with rfl|hb
  .exact he
  .rw[A6.mp hb];exact hT
 .rcases hT' with rfl|z
  .exact hT
  .exact N4 hok z
 .rcases hT' with rfl|z
  .exact T0
  .exact L6 I' rfl z
 .exact hE x cls dx H' wx xr
theorem rzR(hE:∀ x cls dx H',W x H'->GU K CL H' cls dx x->E cls dx H'):NL (Hy (CXR P w) P w K mg base N qual scope f cd A outer s H E) CL W:=by
 intro pins Z H1 s1 e C dx t x I e0 he ge xr hw;have hb0:Un (frs outer) [] H H1 s.heap s1.heap:=I.base;have e0':s.heap.get? e=Ad:=e0 rfl;show Aw (model P w) (A.deeper (FS qual scope s.heap.objs.size f cd)) (leaving (FS qual scope s.heap.objs.size f cd) (.ref e)) _ _ s1;refine fL (cls:=.ref C) (dx:=dx) (L:=s.heap.objs.size) I.ok.frames rfl I.stack ge rfl rfl rfl (a0:=.ref t) rfl rfl λh' T' fl' sh hT'=>?_
 have one:∀{Z_:Al->Prop},Z_ e->∀ b∈[e],Z_ b:=λ{Z_} z b hb=>by rw[A6.mp hb];exact z
 exact⟨e,T',.ref C,dx,H1,rfl,I.os,I.bare,Un.shift hb0 sh (one e0') (QN I),HOk.shift I.hok sh (one (Z_:=λb=>H1 b=Ad) he) I.stkFree,fl',he,N4 I.hok hT',e0',L6 I rfl hT',hE x _ dx H1 hw xr⟩
theorem ownR:F4 (model P w) (Hy (CXR P w) P w K mg base N qual scope f cd A outer s H E).A (Hy (CXR P w) P w K mg base N qual scope f cd A outer s H E).env (Hy (CXR P w) P w K mg base N qual scope f cd A outer s H E).xe:=PassesOwn.leaving
end
noncomputable def veB:Ac Ai:=[.type "ValueError",.type "Exception",.type "BaseException",.type "object"]
noncomputable def EW(K:Fg)(C:Al)(v:Ao Ai):Aj:=match K.lookup C with
  | some ⟨.type "type",_,.cls c,z⟩=>(match c.mro,z.toList with
    |.ref c0::tl,[_,_,_,_,Ab (.builtin nw),_]=>c0==C&&(nw == "ValueError.__new__" && (!c.hasDel&&(PySem.W.tailIn K veB tl&&(aM K c.ns&&BA K c.ns "__init__" == Ab v))))
    | _,_=>Af)
  |_=>Af
theorem mH(q:Kh K C veB "ValueError.__new__" = Aa):EW K C Ad=Aa:=by
 unfold Kh at q;unfold EW;split at q
 .rename_i dd cd sl ho;split at q
  .rename_i C' bm k0 k1 k2 k3 n k5 hm hs;simp only[Am]at q;obtain⟨⟨⟨⟨⟨h1,h2⟩,h3⟩,h4⟩,h5⟩,h6⟩:=q;simp only[ho,hm,hs,Am];exact⟨h1,h2,h3,h4,h5,h6⟩
  .cases q
 .cases q
structure XcOk (K:Fg) (C:Al):Prop where
 exc:∃ v,EW K C v=Aa
 ga:Bi K (.ref C) "__getattribute__" = Ab (Ab (.builtin "BaseException.__getattribute__"))
 gt:Bi K (.ref C) "__getattr__" = Ab Ad
 cl:Bi K (.ref C) "__class__" = Ab (Ab (.builtin "object.__class__"))
 ob:Dj K C (.type "object")=Ab Aa
 be:BR K (.ref C) (.type "BaseException")=Ab Aa
 cs:(Eb K C).isSome=Aa
 ve:Dp K (.ref C) (.type "ValueError")=Ab Aa
def XAt(e C:Al)(h:AK):Prop:=∃ o,h.get? e=Ab o/\o.cls=.ref C
theorem vI{N:Al}{v:Ai}(X:K.In h)(G:h.Ns N m)(q:BA K N x=Ab (Ab v)):m x=Ab v:=by
 obtain⟨ob,es,ep,g,dt,_,fd⟩:=G;unfold BA at q;split at q
 .rename_i es' n' sl lk;have g':=X _ _ lk;rw[g]at g';cases g';cases dt;split at q
  .rename_i hf;cases q;rw[<-fd];unfold nsFind findBy;rw[<-Xr,hf];rfl
  .by_cases z:(es.toList.any λy=>y.refKey)=Aa
   .rw[Ar z]at q;cases q
   .rw[As z]at q;cases q
 .cases q
theorem Uq{h0:AK}(X0:K.In h0)(q:EW K C v=Aa):
  ∃ bm N nm qn bs hd sn sub ab col dd k0 k1 k2 k3 k5 mN,(∀ h:AK,K.In h->h.get? C=Ab (excClassObj nm qn C N bs bm hd sn sub ab col dd k0 k1 k2 k3 k5 "ValueError.__new__")/\h.Ns N mN/\OwnTail h veB bm)/\mN "__init__" = v/\bm.contains (.type "BaseException")=Aa:=by
 unfold EW at q;split at q
 .rename_i dd cd sl ho;split at q
  .rename_i C' bm k0 k1 k2 k3 n k5 hm hs;simp only[Am,A9,BQ]at q;obtain⟨rfl,rfl,hdel,ht,hok,hni⟩:=q;obtain⟨nm,bs,mro,ns,qn,hd,sn,sub,ab,col,del⟩:=cd;dsimp only at hm hdel hok hni;subst hm hdel;have hsl:sl=#[k0,k1,k2,k3,Ab (.builtin "ValueError.__new__"),k5]:=by
    obtain⟨l⟩:=sl;simp only at hs;rw[hs]
   subst hsl;have kN:∃ o,K.lookup ns=Ab o:=by
    unfold aM at hok;split at hok
    .rename_i z;exact⟨_,z⟩
    .cases hok
   obtain⟨oN,hoN⟩:=kN;have nsAt:∀ h:AK,K.In h->h.Ns ns (h0.nsMap ns):=λh X=>by
    obtain⟨o,es,ep,e1,r⟩:=Heap.Ns.of_isNs (aH X0 hok);have e2:=X0 _ _ hoN;rw[e1]at e2;cases e2;exact⟨_,es,ep,X _ _ hoN,r⟩
   refine⟨bm,ns,nm,qn,bs,hd,sn,sub,ab,col,dd,k0,k1,k2,k3,k5,h0.nsMap ns,λh X=>⟨X _ _ ho,nsAt h X,aO X ht⟩,?_,(aO X0 ht).hasType (by decide)⟩
   cases v with
   |none=>exact PySem.W.nsMap_none_of_in X0 hok hni
   |some u=>exact vI X0 (.of_isNs (aH X0 hok)) hni
  .cases q
 .cases q
theorem pM(X:K.In h)(q:EW K C v=Aa):
  ∃ bm N nm qn bs hd sn sub ab col dd k0 k1 k2 k3 k5 mN,h.get? C=Ab (excClassObj nm qn C N bs bm hd sn sub ab col dd k0 k1 k2 k3 k5 "ValueError.__new__")/\h.Ns N mN/\mN "__init__" = v/\OwnTail h veB bm:=by
 obtain⟨bm,N,nm,qn,bs,hd,sn,sub,ab,col,dd,k0,k1,k2,k3,k5,mN,ho,hi,_⟩:=Uq X q;obtain⟨o1,o2,o3⟩:=ho h X;exact⟨bm,N,nm,qn,bs,hd,sn,sub,ab,col,dd,k0,k1,k2,k3,k5,mN,o1,o2,hi,o3⟩
section
variable{prog:AQ}{w:AT}{A:AV}{E:Vq}{h:AK}{g:Au EC}{d:Ja}{t:Ae}{os:Im}{K:Fg}{e C:Al}
theorem KA(p:XAt e C h):PySem.W.Looks M h (typeOf (.ref e)) (.ref C):=by
 obtain⟨o,h1,h2⟩:=p;exact h2 ▸ (PySem.W.Looks.ld h1).andThen .now
theorem gO{R:IA->Ap->Prop}{tp:Ai}(X:K.In h)(p:XAt e C h)(hm:Dj K C (.type "object")=Ab Aa)(hq:R (.ok (.ret (.ref C))) ⟨h,g,d,t,os⟩):
  FC (model prog w) A (.call (.builtin "getset_descriptor.__get__") ⟨[.builtin "object.__class__",.ref e,tp],[]⟩) R ⟨h,g,d,t,os⟩:=by
 have L0:=KA (M:=model prog w) p;have L1:=PySem.W.looks_mroIn (M:=model prog w) X hm;refine FN PySem.W.KF.slot_gs.plain PySem.W.KF.entry_gs (PySem.W.KF.slot_gs.check _ _ _ _ _ _ _ _ PySem.W.KF.type_class (PySem.W.KF.args_gs _ _ _) ?_);unfold Builtin.«getset_descriptor.__get__» Builtin.Getset_descriptor.descrGet;rw[PySem.W.dga_obj];refine Ah (At ?_);unfold Builtin.Getset_descriptor.descrGetter Builtin.Getset_descriptor.descrCheckInstance Builtin.Getset_descriptor.descrNameAndClass LF;simp only[PySem.W.KF.owner_class]
 repeat lk
 refine⟨Y_0 _ (by decide+kernel),D5 PySem.W.KF.entry_class ?_⟩
 unfold Builtin.«object.__class__» shownTypeOf
 repeat lk
 exact hq
theorem eG{Q:Fin->Ap->Prop}(X:K.In h)(x:XcOk K C)(p:XAt e C h)(hq:Q (.done (.ret (.ref C))) ⟨h,g,d,t,os⟩):
  Aw (model prog w) A (Builtin.«object.__getattribute__» ⟨[.ref e,.str "__class__" tk],[]⟩) Q E ⟨h,g,d,t,os⟩:=by
 have L0:=KA (M:=model prog w) p;have L1:=D4 (M:=model prog w) X x.cl;have hT5:(⟨h,g,d,t,os⟩:Ap).TypeIs (.builtin "object.__class__") "getset_descriptor" := ZL;have f5:=ZL;have f6:=F.slot_gs_get.lookup;have f7:=F.slot_gs_set.lookup
 repeat (any_goals (first|assumption|with_reducible refine L0.at ?_|with_reducible refine L1.at ?_|wp_step))
 refine gO X p x.ob ?_
 repeat (any_goals (first|assumption|wp_step))
theorem S6{nameV:Ai}(X:K.In h)(x:XcOk K C)(p:XAt e C h)(hq:Q () ⟨h,g,d,t,os⟩):Aw M A (GN "BaseException.__getattribute__" ⟨[.ref e,nameV],[]⟩) Q E ⟨h,g,d,t,os⟩:=by
 have hk:builtinKind "BaseException.__getattribute__" = Ab .slot:=by decide+kernel
 have hsplit:splitId "BaseException.__getattribute__" = Ab ("BaseException", "__getattribute__"):=by decide+kernel
 have L0:=KA (M:=M) p;have L1:=aK (M:=M) X x.be;have ha:=F.args_bexc_ga (.ref e) nameV;simp only[GN,hk,hsplit];refine Ah ?_
 .unfold LF
  repeat (first|(with_reducible refine Ah (L0.at ?_))|(with_reducible refine L1.at ?_)|wp_step)
  exact hq
theorem mI{Q:Vq}(X:K.In h)(x:XcOk K C)(p:XAt e C h)(hq:Q (.ref C) ⟨h,g,d,t,os⟩):Aw (model prog w) A (getAttrBy (.ref e) (.str "__class__" tk) fill expr) Q E ⟨h,g,d,t,os⟩:=by
 have L0:=KA (M:=model prog w) p;have L1:=D4 (M:=model prog w) X x.ga;have L2:=D4 (M:=model prog w) X x.gt;have f3:=Gs.ga.bind (.ref e);have hx0:(expr&&Ku (CF "BaseException.__getattribute__"))=Af:=by cases expr<;>rfl
 have hx2:(CF "BaseException.__getattribute__" == CF "object.__getattribute__")=Af:=by decide+kernel
 have hx1:(Ku (Be C)&&CF "BaseException.__getattribute__" == CF "object.__getattribute__")=Af:=by rw[hx2];rfl
 repeat (any_goals (first|assumption|with_reducible refine L0.at ?_|with_reducible refine L1.at ?_|with_reducible refine L2.at ?_|wp_step))
 refine FN Gs.ga.plain Zy (S6 X x p (eG X x p ?_))
 repeat (any_goals (first|assumption|wp_step))
theorem eV{Q:Ao Ai->Ap->Prop}(X:K.In h)(x:XcOk K C)(p:XAt e C h)(hq:Q (Ab (.ref C)) ⟨h,g,d,t+1,os⟩):Aw (model prog w) A (getAttr? (.ref e) "__class__") Q E ⟨h,g,d,t,os⟩:=by
 unfold getAttr? getAttrBy?
 repeat (any_goals (first|assumption|with_reducible apply mI X x p|wp_step))
end
theorem Ug{e C:Al}(x:XcOk K C):PySem.W.KitX K (.ref e) (.ref C) (XAt e C) where
 ty:=λM h _ p=>KA p
 it:=λM h X _=>by
  obtain⟨cd,hc⟩:=F2.mp x.cs;unfold Eb at hc;split at hc
  .rename_i c' d' cd' sl' ho;intro A' Q' E' s' k q;unfold isType loadHead;exact Ah (wpAny_loadPart (k _ _ (X _ _ ho)) (At q))
  .cases hc
 ne:=λh tp dd its n sl X htp=>by
  obtain⟨cd,hc⟩:=F2.mp x.cs;refine Bool.eq_false_iff.mpr λq=>?_
  have e:C=tp:=Kg (A9.mp q);subst e;unfold Eb at hc;split at hc
  .rename_i c' d' cd' sl' ho;have z:=(X _ _ ho).symm.trans htp;cases z
  .cases hc
 ca:=λ{_ _ _ _ _ s} X p k=>by
  obtain⟨h,g,d,t,os⟩:=s;exact eV X x p k
theorem gP{A:AV}{E:Vq}{g:Au EC}{d:Ja}{t:Ae}{os:Im}{e C C':Al}{b:Aj}{Q:Aj->Ap->Prop}(X:K.In h)(p:XAt e C h)(x':XcOk K C')(hs:BR K (.ref C) (.ref C')=Ab b)(hq:Q b ⟨h,g,d,t,os⟩):Aw M A (excMatches (.ref e) (.ref C')) Q E ⟨h,g,d,t,os⟩:=by
 obtain⟨bm,N,nm,qn,bs,hd,sn,sub,ab,col,dd,k0,k1,k2,k3,k5,mN,hC',_,_,T⟩:=pM X x'.exc.choose_spec;have hcB:(Be C'::bm).contains (.type "BaseException")=Aa:=by rw[List.contains_cons,T.hasType (show veB.contains (.type "BaseException")=Aa by decide),Bool.or_true]
 have L0:=KA (M:=M) p;have L1:=aK (M:=M) X hs;have f:=tc_notTuple;unfold excMatches
 repeat (first|(with_reducible refine Ah (L0.at ?_))|(with_reducible refine L1.at ?_)|(with_reducible refine Ah (L1.at ?_))|with_reducible refine Il hC' ?_|(with_reducible refine wpAny_isSubtype_exc hC' ?_;rw[hcB])|wp_step)
 all_goals first|exact hq|(cases b<;>(wp_walk;exact hq))
def J4(X:Cx)(pins:Pn)(e:Al):Prop:=e≠X.env.locals/\(∀ x c,X.env.cells.lookup x=Ab c->c≠e)/\(∀ p∈X.pn++pins,p.1≠e)/\X.s₀.heap.get? e=Ad
section
variable{X:Cx}{pins:Pn}{Z:L2.St}{H:Hp}{s:Ap}{e:Al}
theorem QD(I:Inv X pins Z H s)(hx:X.ex=[])(h:s.heap.get? e=Ad):J4 X pins e:=by
 refine⟨?_,λx c q z=>?_,λp hp z=>?_,L6 I hx h⟩
 .rintro rfl;obtain⟨m,⟨o,_,_,ho,_⟩,_⟩:=I.loc;rw[h]at ho;cases ho
 .obtain⟨v,o,ho,_⟩:=I.cell x c q;rw[z,h]at ho;cases ho
 .obtain⟨q,_⟩:=I.pin p hp;rw[z,h]at q;cases q
theorem Th{ex:Ac Al}(I:Inv X pins Z H s)(hx:X.ex=[])(sh:Shift ex (frs X.stack) s.heap h')(ha:∀ b∈ex,J4 X pins b)(hH:∀ b∈ex,H b=Ad):Inv X pins Z H {s with heap:=h'}:=by
 have kp:∀ b o,s.heap.get? b=Ab o->b∉ex->∃ sl,h'.get? b=Ab {o with slots:=sl}:=λb o q n=>by
  by_cases hb:b∈frs X.stack
  .exact sh.slot b o q hb
  .exact⟨o.slots,sh.keep b o q n hb⟩
 have cellK:∀ x c,X.env.cells.lookup x=Ab c->∀ v,s.heap.IsCell c v->h'.IsCell c v:=λx c q v ⟨o,ho,hd⟩=>by
  obtain⟨sl,z⟩:=kp c o ho λz=>(ha c z).2.1 x c q rfl
  exact⟨_,z,hd⟩
 refine⟨I.ok,I.os,I.bare,?_,?_,λx c q=>?_,I.free,I.freeC,λp hp=>?_,HOk.shift I.hok sh hH I.stkFree,I.len⟩
 .have b0:=I.base;rw[hx]at b0 ⊢;exact Un.shift b0 sh (λb hb=>(ha b hb).2.2.2) (QN I)
 .obtain⟨m,⟨o,es,ep,ho,r⟩,hl⟩:=I.loc;obtain⟨sl,z⟩:=kp _ o ho λz=>(ha _ z).1 rfl
  refine⟨m,⟨_,es,ep,z,r⟩,λi x v e1 e2 e3=>?_⟩
  obtain⟨u,ru,l⟩:=hl i x v e1 e2 e3;refine⟨u,ru,?_⟩;rcases l with l|⟨k,c,q,z⟩
  .exact .inl l
  .exact .inr ⟨k,c,q,cellK x c q _ z⟩
 .obtain⟨v,z⟩:=I.cell x c q;exact⟨v,cellK x c q v z⟩
 .obtain⟨q,n,ne,nf,d⟩:=I.pin p hp;exact⟨sh.keep p.1 p.2 q (λz=>(ha p.1 z).2.2.1 p hp rfl) (λz=>(AJ.mp (I.stkSub p.1 z)).elim ne nf),n,ne,nf,d⟩
theorem iA(I:Inv X pins Z H s)(hx:X.ex=[])(ha:J4 X pins e)(hH:H e=Ad)(ho:∃ o,s.heap.get? e=Ab o)(p:φ s.heap)(hφ:∀ h1 h2:AK,φ h1->(∀ o,h1.get? e=Ab o->h2.get? e=Ab o)->φ h2):Inv X pins Z (upd H e (.ext φ)) s:=by
 have ne:∀ b o,H b=Ab o->b≠e:=λb o q z=>by rw[z,hH]at q;cases q
 refine⟨I.ok,I.os,I.bare,⟨I.base.keep,I.base.slot,λb o q n hb=>?_,I.base.there,λb xs q=>?_,λb o u q=>?_,λb ps q=>?_⟩,I.loc,I.cell,?_,λx c q=>?_,λp hp=>?_,λb o q=>?_,I.len⟩
 .rw[Cv λz=>by rw[z,ha.2.2.2]at q;cases q]
  exact I.base.free b o q n hb
 .have:=I.base.tups b xs q;rw[Cv (ne _ _ this)];exact this
 .have:=I.base.frzs b o u q;rw[Cv (ne _ _ this)];exact this
 .obtain⟨more,this⟩:=I.base.tbls b ps q;exact⟨more,by rw[Cv (ne _ _ this)];exact this⟩
 .rw[Cv λz=>ha.1 z.symm];exact I.free
 .rw[Cv (ha.2.1 x c q)];exact I.freeC x c q
 .obtain⟨q,n,r⟩:=I.pin p hp;exact⟨q,by rw[Cv (ha.2.2.1 p hp)];exact n,r⟩
 .by_cases hb:b=e
  .subst hb;rw[Hv]at q;cases q;exact⟨p,ho,hφ⟩
  .rw[Cv hb]at q;exact(I.hok b o q).stay (λc v hc z=>z) (λc z=>by rw[Cv (ne _ _ z)];exact z) λc zs z=>by rw[Cv (ne _ _ z)];exact z
theorem hZ{i:Ae}{n:Ak}{tk:Ae}(I:Inv X pins Z H s)(hN:X.N.Nodup)(hi:X.N[i]?=Ab n)(hn:s.heap.Ns X.env.locals m)(hn':h'.Ns X.env.locals (λx=>if x=n then v else m x))(hs:DY X.env.locals s.heap h'):Inv X pins (Z.set i Ad) H {s with heap:=h',toks:=tk}:=by
 obtain⟨m0,hn0,hl⟩:=I.loc;have em:m0=m:=by
  obtain⟨o,es,ep,h1,h2,_,h3⟩:=hn0;obtain⟨o',es',ep',h1',h2',_,h3'⟩:=hn;rw[h1]at h1';cases h1';rw[h2]at h2';cases h2'
  funext y
  rw[<-h3,<-h3']
 subst em;obtain⟨oL,_,_,hoL,_⟩:=id hn;have lt:∀ b o,X.s₀.heap.get? b=Ab o->b≠X.env.locals:=λb o q=>AW (AS (AL q) I.ok.above)
 refine⟨I.ok,I.os,I.bare,⟨λb o q n hb hx=>?_,λb o q n hb hx=>?_,I.base.free,λb o q hx=>?_,I.base.tups,I.base.frzs,I.base.tbls⟩,⟨_,hn',λj y v' e1 e2 e3=>?_⟩,λy c q=>?_,I.free,I.freeC,λp hp=>?_,λb ob q=>?_,by rw[Bj];exact I.len⟩
 .exact(hs.2 b (lt b o q)).trans (I.base.keep b o q n hb hx)
 .obtain⟨sl,e1⟩:=I.base.slot b o q n hb hx;exact⟨sl,(hs.2 b (lt b o q)).trans e1⟩
 .obtain⟨o',e1⟩:=I.base.there b o q hx;exact⟨o',(hs.2 b (lt b o q)).trans e1⟩
 .by_cases hj:i=j
  .subst hj;have:=Hw e2;cases this
  .rw[CJ hj]at e2;obtain⟨u',r',q⟩:=hl j y v' e1 e2 e3;refine⟨u',r',?_⟩;rcases q with ⟨k,e⟩|⟨k,c,e,z⟩
   .refine .inl ⟨k,?_⟩;have:y≠n:=λe=>hj (Qq hN hi (e ▸ e1))
    simp[this,e]
   .exact .inr ⟨k,c,e,z.sameBut hs (I.cne y c e)⟩
 .obtain⟨w',z⟩:=I.cell y c q;exact⟨w',z.sameBut hs (I.cne y c q)⟩
 .obtain⟨q,n,ne,nf,d⟩:=I.pin p hp;exact⟨(hs.2 p.1 ne).trans q,n,ne,nf,d⟩
 .refine(I.hok b ob q).stay (λc w' hc z=>(hs.2 c ?_).trans z) (λ_ q=>q) λ_ _ q=>q
  rintro rfl;have hfree:=I.free;rcases hc with z|hc
  .rw[<-z,hfree]at q;cases q
  .rw[hfree]at hc;cases hc
end
noncomputable def Cx.hot(X:Cx)(e:Al):Cx:={X with A:=X.A.mark (Ab (.ref e)),calm:=Af,xe:=λ_ _=>Ba}
section
variable{X:Cx}{pins:Pn}{Z:L2.St}{H:Hp}{s:Ap}{e:Al}
theorem vG(ok:X.Ok):(Cx.hot X e).Ok:=⟨ok.mod,ok.kind,ok.glob,ok.blt,ok.above,ok.inj,ok.has,ok.cab,λz=>(nomatch z),ok.frames,ok.stk,ok.exf,ok.bs,ok.bsz,ok.noex,ok.exfs,ok.funs,ok.frf⟩
theorem Vs(I:Inv X pins Z H s)(e:Al):Inv (Cx.hot X e) pins Z H s:=⟨vG I.ok,I.os,I.bare,I.base,I.loc,I.cell,I.free,I.freeC,I.pin,I.hok,I.len⟩
theorem iP(ok:X.Ok)(I:Inv (Cx.hot X e) pins Z H s):Inv X pins Z H s:=⟨ok,I.os,I.bare,I.base,I.loc,I.cell,I.free,I.freeC,I.pin,I.hok,I.len⟩
theorem Sx.unset(x:Sx K CL Fz B U Z H)(i:Ae):Sx K CL Fz B (U.set i Ad) (Z.set i Ad) H:=by
 have get:∀(j:Ae)(y:D×Aj),(U.set i Ad)[j]?=Ab (Ab y)->i≠j/\U[j]?=Ab (Ab y):=λj y h=>by
  by_cases hj:i=j
  .subst hj;have:=Hw h;cases this
  .exact⟨hj,by rw[CJ hj]at h;exact h⟩
 have sub:∀ a,Ck B (U.set i Ad) (Z.set i Ad) a->Ck B U Z a:=λa h=>by
  rcases h with h|⟨j,d,h1,h2⟩
  .exact .inl h
  .obtain⟨hj,h1⟩:=get j _ h1;rw[CJ hj]at h2;exact .inr ⟨j,d,h1,h2⟩
 refine⟨⟨λj d h=>?_,λj d h=>?_,by rw[Bj,Bj];exact x.len⟩,λa h=>x.aok a (sub a h),λj d a h1 h2=>?_,λj k d f a h1 h2 h3 h4=>?_,x.same,by rw[Bj,Bj];exact x.len⟩
 .obtain⟨hj,h1⟩:=get j _ h;obtain⟨v,q,r⟩:=x.good.sh j d h1;exact⟨v,by rw[CJ hj];exact q,Rep.sub sub _ r⟩
 .obtain⟨hj,h1⟩:=get j _ h;obtain⟨a,xs,ds,q,z,ha,hh,rr⟩:=x.good.ow j d h1;exact⟨a,xs,ds,by rw[CJ hj];exact q,z,.inr ⟨j,d,h,by rw[CJ hj];exact q⟩,hh,Reps.sub sub _ rr⟩
 .obtain⟨hj,h1⟩:=get j _ h1;rw[CJ hj]at h2;exact x.new j d a h1 h2
 .obtain⟨hj,h1⟩:=get j _ h1;obtain⟨hk,h2⟩:=get k _ h2;rw[CJ hj]at h3;rw[CJ hk]at h4;exact x.dis j k d f a h1 h2 h3 h4
end
def Kb(e C:Al)(dx:Ao Al)(h:AK):Prop:=∃ o,h.get? e=Ab o/\o.cls=.ref C/\o.dict=dx/\∃ us,o.data=.fields us
noncomputable def Lq(X:Cx)(CL:ClA)(pins:Pn)(Z:L2.St)(H:Hp)(y:Ex)(Xw:Vq):Prop:=
 ∀ s' H' e T cls dx,Inv X pins Z H' s'->AN H H'->Fly e T cls dx s'.heap->H' e=Ad->H' T=Ad->J4 X pins e->J4 X pins T->GU X.K CL H' cls dx y->Xw (.ref e) s'
def STB(X:Cx)(CL:ClA)(body:Ac A7)(f:Rho->O):Prop:=∀ Fz B pins s Z H D U (Xw:Vq),F4 (model X.prog X.w) X.A X.env Xw->Inv X pins Z H s->Sx X.K CL Fz B U Z H ->
  (match f U with
   |.exn y U'=>U'=U->Lq X CL pins Z H y Xw
   | o=>Cq X.K CL Fz B (λ_ _=>Ba) o D)->(∀ y U',f U=.exn y U'->U'=U)->Aw (model X.prog X.w) X.A (execs body X.env) (SP X pins D) Xw s
noncomputable def W3(up:Ae->Ac Ae)(c i:Ae)(o:O)(fh:Rho->O):O:=match o with
  | .exn y U'=>if (up y.c).contains c=Aa then (match fh (U'.set i (Ab (.exc y.c y.fs,Af))) with
      |.next U''=>.next (U''.set i Ad)
      |.ret d f=>.ret d f
      | _=>.bad) else .bad
  |o=>o
theorem qP{i:Ae}{g n:Ak}{p1 hp:AY}{b:Aj}{rest:Ac FT}{s1:Ap}{U':Rho}{D:Ends}{e T1:Al}{dx:Ao Al}{y:Ex}(hx:X.ex=[])(hN:X.N.Nodup)(hi:X.N[i]?=Ab n)(hl:X.env.scope.names.lookup n=Ab .local)(hg:Gl X g)(hm:X.mg g=Ab (.ref C'))(hdb:(g==("__debug__" : Ak))=Af)(xc:XcOk X.K C')(hsu:BR X.K (.ref C) (.ref C')=Ab b)(hh:∀ e,SSs (Cx.hot X e) CL (λ_ _=>Ba) (h0::hs) fh)(I1:Inv X pins Z H' s1)(fl1:Fly e T1 (.ref C) dx s1.heap)(ae:J4 X pins e)(aT1:J4 X pins T1)(he:H' e=Ad)(HT1:H' T1=Ad)(gx:Sx X.K CL Fz B U' Z H')(hcl:CL y.c=Ab C)(xr:GU X.K CL H' (.ref C) dx y)(p2:b=Aa->Cq X.K CL Fz B W (hdO i y U' fh) D)(p3:b=Af->Aw (model X.prog X.w) X.A (K1 (.ref e) X.env rest) (SP X pins D) X.xe s1):Aw (model X.prog X.w) X.A (K1 (.ref e) X.env (.ExceptHandler (Ab (.Name g p1)) (Ab n) (h0::hs) hp::rest)) (SP X pins D) X.xe s1:=by
 obtain⟨Cx0,hcl0,ecl,hfs⟩:=xr (Ck B U' Z) gx.aok;have xat:∀{h:AK}{T:Al},Fly e T (.ref C) dx h->XAt e C h:=λ{h T} z=>by
  obtain⟨oe,_,_,_,_,z1,z2,_⟩:=z;exact⟨oe,z1,z2⟩
 have xad:∀{h:AK}{T:Al},Fly e T (.ref C) dx h->Kb e C dx h:=λ{h T} z=>by
  obtain⟨oe,vs,_,_,_,z1,z2,z3,_,z4,_⟩:=z;exact⟨oe,z1,z2,z3,vs,z4⟩
 have two:∀{T:Al}{Z_:Al->Prop},Z_ e->Z_ T->∀ b∈[e,T],Z_ b:=λ{T Z_} h1 h2 b hb=>by
  rcases AJ.mp hb with rfl|hb
  .exact h1
  .rw[A6.mp hb];exact h2
 refine wpAny_handleBy_cons (codeAny_handlers_test (Nh (X:=Cx.hot X e) (Vs I1 e) hg hm ?_ hdb)) (by intro q;cases q)
 refine gP (K:=X.K) I1.kIn (xat fl1) xc hsu ?_;cases b with
 |false=>exact p3 rfl
 |true=>
 have p2:=p2 rfl;refine codeAny_handlers_suite_as ?_;refine iF (base:=X.base) (l:=X.stack) I1.stack fl1 λh3 T3 fl3 sh3 hT3=>?_
 have I3:=Th I1 hx sh3 (two ae aT1) (two (Z_:=λb=>H' b=Ad) he HT1)
 obtain⟨oe,oeg,oec⟩:=xad fl3;have I3':=iA (φ:=Kb e C dx) I3 hx ae he ⟨oe,oeg⟩ ⟨oe,oeg,oec⟩ λh1 h2 ⟨o,q1,q2⟩ k=>⟨o,k o q1,q2⟩
 have sm3:AN H' (upd H' e (.ext (Kb e C dx))):=λb o q=>by rw[Cv λz=>by rw[z,he]at q;cases q];exact q
 refine Qh (X:=Cx.hot X e) (i:=i) (v:=.ref e) (Vs I3' e) hN hi (.inl hl) rfl (λs4 I4=>?_) (.inr hl)
 have x3:=gx.grow sm3;have nA:¬ Ck B U' Z e:=λz=>by
  obtain⟨xs,q⟩:=x3.aok e z;rw[Hv]at q;cases q
 have rp:Rep X.K CL (upd H' e (.ext (Kb e C dx))) (Ck B U' Z) (.ref e) (.exc y.c y.fs):=by
  refine⟨e,C,Kb e C dx,rfl,nA,hcl,Hv,λh ⟨o,z1,z2,_⟩=>⟨o,z1,z2⟩,?_⟩
  rcases hfs with z|⟨d,vs,ed,nd,hd,rf⟩
  .exact .inl z
  .exact .inr ⟨d,vs,nd,sm3 _ _ hd,Repf.kp (Kp.of sm3) _ rf,λh ⟨o,z1,_,z3,z4⟩=>⟨o,z1,z3.trans ed,z4⟩⟩
 have x4:=x3.set i rp;have fin:∀{s5:Ap}{Z5:L2.St}{H5:Hp}{Q:Gx->Ap->Prop},Inv (Cx.hot X e) pins Z5 H5 s5->(∀ s6,Inv X pins (Z5.set i Ad) H5 s6->Q () s6)->Aw (model X.prog X.w) X.A (do bindName X.env n .none;unbindBehindTheSuite X.env n hp) Q X.xe s5:=λ{s5 Z5 H5 Q} I5 k=>by
  have I5':=iP I1.ok I5;obtain⟨m,hn,_⟩:=id I5'.loc;refine wpAny_nameGoes_keeps hl hn (by rw[I1.ok.kind];rfl) λh6 v6 hn6 sb6=>?_
  exact k _ (hZ I5' hN hi hn hn6 sb6)
 refine BJ (hh e Fz B pins s4 _ _ {nx:=λZ5 H5=>D.nx (Z5.set i Ad) H5,rt:=D.rt} I4 ⟨_,x4,?_⟩) (λf s5 hf=>?_) λ_ _ z=>BH z
 .unfold hdO at p2;cases ef:fh (U'.set i (Ab (.exc y.c y.fs,Af))) with
  |next U''=>rw[ef]at p2;exact λZ5 H5 x5=>p2 _ _ (x5.unset i)
  |ret d b=>rw[ef]at p2;exact p2
  |brk _=>rw[ef]at p2;exact p2.elim
  |cont _=>rw[ef]at p2;exact p2.elim
  |exn _ _=>rw[ef]at p2;exact p2.elim
  |bad=>rw[ef]at p2;exact p2.elim
 .cases f with
  |next=>
   obtain⟨Z5,H5,I5,q⟩:=hf;exact fin I5 λs6 I6=>⟨_,H5,I6,q⟩
  |ret u=>
   obtain⟨v,Z5,H5,I5,r,q⟩:=hf;exact fin I5 λs6 I6=>⟨v,_,H5,I6,r,q⟩
  |brk=>obtain⟨_,_,_,q⟩:=hf;exact BH q
  |cont=>obtain⟨_,_,_,q⟩:=hf;exact BH q
def Su(X:Cx)(CL:ClA)(up:Ae->Ac Ae)(g:Ak)(c:Ae):Prop:=∃ C',Gl X g/\X.mg g=Ab (.ref C')/\(g==("__debug__" : Ak))=Af/\XcOk X.K C'/\∀ c' C,CL c'=Ab C->BR X.K (.ref C) (.ref C')=Ab ((up c').contains c)
theorem gU{y:Ex}{Q:Flow->Ap->Prop}{hd:Ac FT}(hx:X.ex=[])(hst:X.stack=X.env::X.outer)(hfm:X.env.frame=Ab X.env.locals)(k:∀ e T1 cls dx H' s1,Inv X pins Z H' s1->AN H H'->Fly e T1 cls dx s1.heap->J4 X pins e->J4 X pins T1->H' e=Ad->H' T1=Ad->GU X.K CL H' cls dx y->Aw (model X.prog X.w) X.A (K1 (.ref e) X.env hd) Q X.xe s1):Lq X CL pins Z H y (λev s1=>Aw (model X.prog X.w) X.A (HG ev X.env) (λ_ s2=>Aw (model X.prog X.w) X.A (Jd ev Ad) (λ_ s3=>Aw (model X.prog X.w) X.A (K1 ev X.env hd) Q X.xe s3) X.xe s2) X.xe s1):=by
 intro s' H' e T cls dx I' sm fl he hT ae aT xr;have two:∀{T:Al}{Z_:Al->Prop},Z_ e->Z_ T->∀ b∈[e,T],Z_ b:=λ{T Z_} h1 h2 b hb=>by
  rcases AJ.mp hb with rfl|hb
  .exact h1
  .rw[A6.mp hb];exact h2
 have hfr:X.A.frames=Ab (X.env::X.outer):=by rw[<-hst];exact I'.ok.frames
 refine kI (base:=X.base) hfr hfm (by rw[<-hst];exact I'.stack) fl λh1 T1 fl1 sh1 hT1=>?_
 rw[<-hst]at sh1;exact k e T1 cls dx H' _ (Th I' hx sh1 (two ae aT) (two (Z_:=λb=>H' b=Ad) he hT)) sm fl1 ae (hT1.elim (λz=>z ▸ aT) λz=>QD I' hx z) he (hT1.elim (λz=>z ▸ hT) λz=>N4 I'.hok z) xr
theorem tG{c i:Ae}{g n:Ak}{body:Ac A7}{p1 hp:AY}{fb:Rho->O}(hx:X.ex=[])(hst:X.stack=X.env::X.outer)(hfm:X.env.frame=Ab X.env.locals)(hN:X.N.Nodup)(hi:X.N[i]?=Ab n)(hl:X.env.scope.names.lookup n=Ab .local)(h1:Su X CL up g c)(hb:STB X CL body fb)(hρ:∀ U y U',fb U=.exn y U'->U'=U)(hh:∀ e,SSs (Cx.hot X e) CL (λ_ _=>Ba) (h0::hs) fh):SS X CL W (.Try body [.ExceptHandler (Ab (.Name g p1)) (Ab n) (h0::hs) hp] [] [] pos) (λU=>W3 up c i (fb U) fh):=λFz B pins s Z H D I ⟨U,x,p⟩=>by
 refine wpAny_Try_except (BJ (hb Fz B pins s Z H D U _ PassesOwn.looking I x ?_ (hρ U)) (λf s1 hf=>?_) λ_ _ z=>z)
 .dsimp only at p;cases eb:fb U with
  |exn y U'=>
   rw[eb]at p;intro e0;subst e0;have p2:Cq X.K CL Fz B W (if (up y.c).contains c=Aa then hdO i y U' fh else .bad) D:=p
   refine gU hx hst hfm λe T1 cls dx H' s1 I1 sm fl1 ae aT1 he HT1 xr=>?_
   have gx:=x.grow sm;obtain⟨C,hcl,rfl,_⟩:=xr (Ck B U' Z) gx.aok;obtain⟨C',hg,hm,hdb,xc,hup⟩:=h1;refine qP (W:=W) hx hN hi hl hg hm hdb xc (hup y.c C hcl) hh I1 fl1 ae aT1 he HT1 gx hcl xr (λhc=>?_) (λhc=>?_)
   .rw[Ar hc]at p2;exact p2
   .rw[As (by rw[hc];exact Ax)]at p2;exact p2.elim
  |next U'=>rw[eb]at p;exact p
  |ret d b=>rw[eb]at p;exact p
  |brk U'=>rw[eb]at p;exact p
  |cont U'=>rw[eb]at p;exact p
  |bad=>rw[eb]at p;exact p.elim
 .cases f with
  |next=>exact F0 hf
  |ret u=>exact hf
  |brk=>exact hf
  |cont=>exact hf
theorem UG{f:Al}{sp:Sp}{E:XK}{e:An}{es:Ac An}{t:TA}(F:FnOk X.prog X.w X.K X.mg X.base CX k f fd ps sp)(hr:Room k X.A)(hg:Gl X x)(hm:X.mg x=Ab (.ref f))(hk:CH X.K (.ref f)=Aa)(hb:HY X.K fd ps [])(hx:∀ pins H s e s',Inv X pins Z0 H s->CX X.stack H s E e s'->X.xe e s')(ha:PA X (e::es) t)(hdb:(x==("__debug__" : Ak))=Af)(he:AB (e::es) X.env=(Af,eval e X.env)::AB es X.env)(hpl:(Cc pos (AB es X.env)).any (·.1)=Af):PE X (.Call (.Name x p) (e::es) [] pos) (λZ H Q=>Z=Z0/\t Z H λvs H1=>sp vs H1 Q E):=by
 intro pins s Z H Q I ⟨e0,h⟩;subst e0;refine F6 (Nh I hg hm ?_ hdb);refine aF (h₀:=X.base) I.ok.mod.kin hk (thn (ha pos pins s Z H _ I h) λus s1 ⟨vs,H1,I1,r,q⟩=>⟨I1.kIn,?_⟩) he hpl
 have hl:us.length=ps.length:=by rw[<-r.length];exact F.len _ _ _ _ q
 have hb':Hq s1 fd ⟨us,[]⟩ (ps.zip us):=by
  have:=hb s1 us I1.kIn (by rw[Bu];exact hl)
  rw[Bu]at this;exact this
 refine LK (F5 (F.run X.A X.stack s1 H1 ⟨us,[]⟩ us vs Q E hr I1.env0 hb' r q) λr s' hq=>?_)
 cases r with
 |error e=>exact hx pins H1 s1 e s' I1 hq
 |ok fl=>
  cases fl with
  |ret u=>exact I1.after hq
  |next=>exact BH hq
  |brk=>exact BH hq
  |cont=>exact BH hq
def RQ(K:Fg)(CL:ClA)(Rp:Hp->V->D->Prop)(E0:XK)(H:Hp)(r:R D)(Q:VK):Prop:=match r with
  |.ok d=>∀ v H',AN H H'->Rp H' v d->Q v H'
  |.exn y=>∀ cls dx H',AN H H'->GU K CL H' cls dx y->E0 cls dx H'
  |.bad=>Ba
theorem N6{k n:Ae}{f:Al}{F:Ac D->R D}{e:An}{es:Ac An}{fs ft:Rho->R (Ac D)}{sh:Rho->Aj}{E0:XK}(G:FnOk X.prog X.w X.K X.mg X.base CX k f fd ps (spD X.K CL n fr F))(hr:Room k X.A)(hg:Gl X x)(hm:X.mg x=Ab (.ref f))(hk:CH X.K (.ref f)=Aa)(hb:HY X.K fd ps [])(hx:∀ pins H s e s',Inv X pins Z0 H s->CX X.stack H s E0 e s'->X.xe e s')(ha:SA X CL (λ_ _=>Ba) (e::es) fs)(hat:SAT X CL (λ_ _=>Ba) (e::es) ft)(hst:∀ U,sh U=Aa->ft U=fs U)(hn:∀ U ds,ft U=.ok ds->ds.length=n)(hnx:∀ U y,ft U≠.exn y)(hdb:(x==("__debug__" : Ak))=Af)(he:AB (e::es) X.env=(Af,eval e X.env)::AB es X.env)(hpl:∀ pos,(Cc pos (AB es X.env)).any (·.1)=Af)(A:Al->Prop):PE X (.Call (.Name x p) (e::es) [] pos) (λZ H Q=>Z=Z0/\AOk H A/\∃ U,Good X.K CL A U Z H/\RQ X.K CL (EV X.K CL fr H A) E0 H ((ft U).bind λds=>(F ds).bind λd=>if sh U=Aa then .ok d else if Fq fr d=Aa then .ok d else .bad) Q):=λpins s Z H Q I ⟨e0,hA,U,gd,q⟩=>by
 by_cases hs:sh U=Aa
 .rw[hst U hs]at q;refine UG G hr hg hm hk hb hx (ha A) hdb he (hpl _) pins s Z H Q I ⟨e0,hA,U,gd,?_⟩;cases e1:fs U with
  |bad=>rw[e1]at q;exact q
  |exn y=>exact absurd (by rw[hst U hs];exact e1) (hnx U y)
  |ok ds=>
   rw[e1]at q;intro vs H1 s1 r1;refine⟨ds,A,by rw[r1.length];exact hn U ds (by rw[hst U hs];exact e1),hA.same s1,r1,?_⟩
   have q':RQ X.K CL (EV X.K CL fr H A) E0 H ((F ds).bind λd=>if sh U=Aa then .ok d else if Fq fr d=Aa then .ok d else .bad) Q:=q
   cases e2:F ds with
   |ok d=>
    rw[e2,R.bind_ok,Ar hs]at q';exact λv H2 s2 r2=>q' v H2 (s1.trans s2) ⟨r2.1,λz ds' e'=>let ⟨a,xs,z1,z2,z3⟩:=r2.2 z ds' e';⟨a,xs,z1,s1.free z2,z3⟩⟩
   |exn y=>
    rw[e2]at q';exact λcls dx H2 s2 xr=>q' cls dx H2 (s1.trans s2) xr
   |bad=>rw[e2]at q';exact q'.elim
 .refine UG G hr hg hm hk hb hx (hat A) hdb he (hpl _) pins s Z H Q I ⟨e0,hA,U,gd,?_⟩;cases e1:ft U with
  |bad=>rw[e1]at q;exact q
  |exn y=>exact absurd e1 (hnx U y)
  |ok ds=>
   rw[e1]at q;intro vs H1 s1 r1;refine⟨ds,A0,by rw[r1.plain.length];exact hn U ds e1,λ_ z=>z.elim,r1.plain,?_⟩
   have q':RQ X.K CL (EV X.K CL fr H A) E0 H ((F ds).bind λd=>if sh U=Aa then .ok d else if Fq fr d=Aa then .ok d else .bad) Q:=q
   cases e2:F ds with
   |ok d=>
    rw[e2,R.bind_ok,As hs]at q';split at q'
    .rename_i hc;exact λv H2 s2 r2=>q' v H2 (s1.trans s2) (Wf hA (s1.trans s2) hc ⟨r2.1,λz ds' e'=>let ⟨a,xs,z1,z2,z3⟩:=r2.2 z ds' e';⟨a,xs,z1,s1.free z2,z3⟩⟩)
    .exact q'.elim
   |exn y=>
    rw[e2]at q';exact λcls dx H2 s2 xr=>q' cls dx H2 (s1.trans s2) xr
   |bad=>rw[e2]at q';exact q'.elim
noncomputable def Cx.pw(X:Cx)(pins:Pn)(Xw:Vq):Cx:={X with pn:=X.pn++pins,xe:=Xw}
section
variable{X:Cx}{pins pins':Pn}{Z:L2.St}{H:Hp}{s:Ap}{Xw:Vq}
theorem zW(ok:X.Ok):(Cx.pw X pins Xw).Ok:=⟨ok.mod,ok.kind,ok.glob,ok.blt,ok.above,ok.inj,ok.has,ok.cab,ok.hd,ok.frames,ok.stk,ok.exf,ok.bs,ok.bsz,ok.noex,ok.exfs,ok.funs,ok.frf⟩
theorem Nl(I:Inv X pins Z H s)(Xw:Vq):Inv (Cx.pw X pins Xw) [] Z H s:=⟨zW I.ok,I.os,I.bare,I.base,I.loc,I.cell,I.free,I.freeC,λp hp=>I.pin p (by
 rcases DC.mp hp with z|z
 .exact z
 .exact absurd z (by simp)),I.hok,I.len⟩
theorem Ma(ok:X.Ok)(I:Inv (Cx.pw X pins Xw) pins' Z H s):Inv X pins Z H s:=⟨ok,I.os,I.bare,I.base,I.loc,I.cell,I.free,I.freeC,λp hp=>I.pin p (FJ _ hp),I.hok,I.len⟩
theorem Of(ok:X.Ok){D:Ends}{f:Flow}{s':Ap}(h:SP (Cx.pw X pins Xw) pins' D f s'):SP X pins D f s':=by
 cases f with
 |next=>obtain⟨Z',H',I,q⟩:=h;exact⟨Z',H',Ma ok I,q⟩
 |brk=>obtain⟨Z',H',I,q⟩:=h;exact⟨Z',H',Ma ok I,q⟩
 |cont=>obtain⟨Z',H',I,q⟩:=h;exact⟨Z',H',Ma ok I,q⟩
 |ret u=>obtain⟨v,Z',H',I,r,q⟩:=h;exact⟨v,Z',H',Ma ok I,r,q⟩
end
section
variable{X:Cx}{CL:ClA}{k n:Ae}{fr:Aj}{f:Al}{fd:Co}{ps:Ac Ak}{F:Ac D->R D}{x:Ak}{p pos pos2:AY}{e:An}{es:Ac An}{fs ft:Rho->R (Ac D)}{sh:Rho->Aj}
theorem UW{y:Ex}(hx:X.ex=[])(ok:X.Ok)(q:Lq X CL pins Z H y Xw):∀ pins' H1 s1 e s',Inv (Cx.pw X pins Xw) pins' Z H1 s1->CXR X.prog X.w (Cx.pw X pins Xw).stack H1 s1 (λcls dx H'=>GU X.K CL H' cls dx y/\AN H H') e s'->(Cx.pw X pins Xw).xe e s':=by
 intro pins' H1 s1 ev s' J h;obtain⟨e,T,cls,dx,H',rfl,os,bare,un,hok,fl,he,hT,ne,nT,xr,sm⟩:=h;have J':=Ma ok J;have J2:=J'.call' (s':=s') (ch:=[]) os un hok bare (λb z=>absurd z (by simp))
 exact q s' H' e T cls dx J2 sm fl he hT (QD J' hx ne) (QD J' hx nT) xr
theorem UX:∀ pins' H1 s1 e s',Inv (Cx.pw X pins Xw) pins' Z H1 s1->CXR X.prog X.w (Cx.pw X pins Xw).stack H1 s1 (λ_ _ _=>Ba) e s'->(Cx.pw X pins Xw).xe e s':=by
 intro pins' H1 s1 ev s' J h;obtain⟨e,T,cls,dx,H',rfl,os,bare,un,hok,fl,he,hT,ne,nT,w⟩:=h;exact w.elim
variable(hx0:X.ex=[])(G:FnOk X.prog X.w X.K X.mg X.base (CXR X.prog X.w) k f fd ps (spD X.K CL n fr F))(hr:Room k X.A)(hg:Gl X x)(hm:X.mg x=Ab (.ref f))
    (hk:CH X.K (.ref f)=Aa) (hb:HY X.K fd ps []) (hst:∀ U,sh U=Aa->ft U=fs U) (hn:∀ U ds,ft U=.ok ds->ds.length=n) (hnx:∀ U y,ft U≠.exn y)
    (hdb:(x==("__debug__" : Ak))=Af) (he:AB (e::es) X.env=(Af,eval e X.env)::AB es X.env) (hpl:∀ pos,(Cc pos (AB es X.env)).any (·.1)=Af)
    (ha:∀ pins Xw,F4 (model X.prog X.w) X.A X.env Xw->SA (Cx.pw X pins Xw) CL (λ_ _=>Ba) (e::es) fs/\SAT (Cx.pw X pins Xw) CL (λ_ _=>Ba) (e::es) ft)
include hx0 G hr hg hm hk hb hst hn hnx hdb he hpl ha
theorem jL(hs:DN (.Call (.Name x p) (e::es) [] pos) Ad pos2.line X.env=pure Af):STB X CL [.Expr (.Call (.Name x p) (e::es) [] pos) pos2] (λU=>O.of U ((ft U).bind λds=>(F ds).bind λd=>if sh U=Aa then .ok d else if Fq fr d=Aa then .ok d else .bad) λ_=>.next U):=by
 intro Fz B pins s Z H D U Xw own I sx q _;obtain⟨ha1,ha2⟩:=ha pins Xw own;dsimp only at q;cases er:(ft U).bind λds=>(F ds).bind λd=>if sh U=Aa then .ok d else if Fq fr d=Aa then .ok d else .bad with
 |bad=>rw[er]at q;exact q.elim
 |exn y=>
  rw[er]at q;have key:=N6 (X:=Cx.pw X pins Xw) (p:=p) (pos:=pos) (Z0:=Z) (fr:=fr) (F:=F) (n:=n) (sh:=sh) G hr hg hm hk hb (UW hx0 I.ok (q rfl)) ha1 ha2 hst hn hnx hdb he hpl (Ck B U Z);refine BJ (Oh (LY (pos:=pos2) key hs) [] s Z H D (Nl I Xw) ⟨rfl,sx.aok,U,sx.good,?_⟩) (λ_ _ z=>Of I.ok z) λ_ _ z=>z
  rw[er];exact λcls dx H' sm xr=>⟨xr,sm⟩
 |ok d=>
  rw[er]at q;have key:=N6 (X:=Cx.pw X pins Xw) (p:=p) (pos:=pos) (Z0:=Z) (fr:=fr) (F:=F) (n:=n) (sh:=sh) (E0:=λ_ _ _=>Ba) G hr hg hm hk hb UX ha1 ha2 hst hn hnx hdb he hpl (Ck B U Z)
  refine BJ (Oh (LY (pos:=pos2) key hs) [] s Z H D (Nl I Xw) ⟨rfl,sx.aok,U,sx.good,?_⟩) (λ_ _ z=>Of I.ok z) λ_ _ z=>z
  rw[er];exact λv H' sm r=>q Z H' (sx.grow sm)
theorem lV{i:Ae}{m:Ak}(hN:X.N.Nodup)(hi:X.N[i]?=Ab m)(hl:Loc X.env.scope m)(hf:X.fn m=Aa\/X.env.scope.names.lookup m=Ab .local)(hs:DN (.Call (.Name x p) (e::es) [] pos) (Ab (.Name m pos')) pos2.line X.env=pure Af):STB X CL [.Assign [.Name m pos'] (.Call (.Name x p) (e::es) [] pos) pos2] (λU=>O.of U ((ft U).bind λds=>(F ds).bind λd=>if sh U=Aa then .ok d else if Fq fr d=Aa then .ok d else .bad) λd=>.next (U.set i (Ab (d,Af)))):=by
 intro Fz B pins s Z H D U Xw own I sx q _;obtain⟨ha1,ha2⟩:=ha pins Xw own;dsimp only at q;cases er:(ft U).bind λds=>(F ds).bind λd=>if sh U=Aa then .ok d else if Fq fr d=Aa then .ok d else .bad with
 |bad=>rw[er]at q;exact q.elim
 |exn y=>
  rw[er]at q;have key:=N6 (X:=Cx.pw X pins Xw) (p:=p) (pos:=pos) (Z0:=Z) (fr:=fr) (F:=F) (n:=n) (sh:=sh) G hr hg hm hk hb (UW hx0 I.ok (q rfl)) ha1 ha2 hst hn hnx hdb he hpl (Ck B U Z);refine BJ (Oh (OC (X:=Cx.pw X pins Xw) (i:=i) (pos:=pos2) hN hi hl key hs hf) [] s Z H D (Nl I Xw) ⟨rfl,sx.aok,U,sx.good,?_⟩) (λ_ _ z=>Of I.ok z) λ_ _ z=>z
  rw[er];exact λcls dx H' sm xr=>⟨xr,sm⟩
 |ok d=>
  rw[er]at q;have key:=N6 (X:=Cx.pw X pins Xw) (p:=p) (pos:=pos) (Z0:=Z) (fr:=fr) (F:=F) (n:=n) (sh:=sh) (E0:=λ_ _ _=>Ba) G hr hg hm hk hb UX ha1 ha2 hst hn hnx hdb he hpl (Ck B U Z)
  refine BJ (Oh (OC (X:=Cx.pw X pins Xw) (i:=i) (pos:=pos2) hN hi hl key hs hf) [] s Z H D (Nl I Xw) ⟨rfl,sx.aok,U,sx.good,?_⟩) (λ_ _ z=>Of I.ok z) λ_ _ z=>z
  rw[er];exact λv H' sm r=>q _ H' ((sx.grow sm).set i r.1)
end
section
variable{X:Cx}{CL:ClA}{W:XW}
theorem jM{e:An}{es:Ac An}(hcalm:X.calm=Aa)(rz:NL X CL W)(hg:Gl X g)(hm:X.mg g=Ab (.ref C))(hdb:(g==("__debug__" : Ak))=Af)(xc:EW X.K C Ad=Aa)(hcl:CL c=Ab C)(ha:SA X CL W (e::es) fs)(hxn:∀ ds,xn c ds=.bad\/xn c ds=.ok ⟨c,[]⟩)(he:AB (e::es) X.env=(Af,eval e X.env)::AB es X.env)(hpl:∀ pos,(Cc pos (AB es X.env)).any (·.1)=Af)(hz:∀ U ds,fs U=.ok ds->ds.length<=100000):SS X CL W (.Raise (Ab (.Call (.Name g np) (e::es) [] cpos)) Ad pos) (λU=>O.of U (noX (fs U)) λxs=>O.of U (xn c xs) λx=>.exn x U):=λFz B pins s Z H D I ⟨U,x,p⟩=>by
 dsimp only at p;cases e1:fs U with
 |bad=>rw[e1]at p;exact p.elim
 |exn y=>rw[e1]at p;exact p.elim
 |ok ds=>
  rw[e1]at p;have p2:Cq X.K CL Fz B W (O.of U (xn c ds) λx=>.exn x U) D:=p
  rcases hxn ds with e2|e2
  .rw[e2]at p2;exact p2.elim
  .rw[e2]at p2;have p3:∀ H,(∀ b o,Fz b o->H b=Ab o)->W ⟨c,[]⟩ H:=p2;obtain⟨bm,N,nm,qn,bs,hd,sn,sub,ab,col,dd,k0,k1,k2,k3,k5,mN,hob,hni,hbase⟩:=Uq I.kIn xc;refine wpAny_Raise_call_subT (bmB:=veB) (nm:=nm) (q:=qn) (C:=C) (N:=N) (bs:=bs) (bm:=bm) (hdct:=hd) (sn:=sn) (sub:=sub) (ab:=ab) (col:=col) (dd:=dd) (k0:=k0) (k1:=k1) (k2:=k2) (k3:=k3) (k5:=k5) (mN:=mN) PySem.F.excBase_ValueError hbase (I.ok.hd hcalm) (by rw[he];show (Af||(Cc cpos (AB es X.env)).any (·.1))=Af;rw[hpl];rfl) hni ?_
   refine Nh I hg hm ⟨rfl,?_⟩ hdb;have q1:=ha (Ck B U Z) cpos pins s Z H (λvs H1=>AN H H1/\vs.length=ds.length) I ⟨x.aok,U,x.good,by rw[e1];exact λvs H1 s1 r1=>⟨s1,r1.length⟩⟩
   rw[he]at q1 ⊢;refine YZ (BJ q1 (λus s2 ⟨vs,H2,I2,r2,s2',hl⟩=>⟨rfl,?_⟩) λ_ _ z=>z)
   obtain⟨o1,o2,o3⟩:=hob _ I2.kIn;refine⟨?_,o1,o2,o3,λh' ev hmade=>?_⟩
   .rw[<-r2.length,hl,Bv];have:=hz U ds e1;omega
   .obtain⟨t,ge,_⟩:=hmade.there;have I3:Inv X pins Z H2 {s2 with heap:=h'}:=I2.kept (t':=s2.toks) hmade.keeps
    exact rz pins Z H2 _ ev C Ad t ⟨c,[]⟩ I3 (λhx=>L6 I2 hx hmade.new) (N4 I2.hok hmade.new) ge (λA _=>⟨C,hcl,rfl,.inl rfl⟩) (p3 H2 λb o z=>s2' _ _ (x.same b o z))
def No(K:Fg)(CL:ClA)(up:Ae->Ac Ae)(c':Ae)(C':Al):Prop:=∀ c C,CL c=Ab C->Dp K (.ref C) (.ref C')=Ab ((up c).contains c')
theorem Uh{s:Ap}{cv:Ai}{b:Aj}{Q:VK}(I:Inv X pins Z H s)(ha:H a=Ab (.ext φ))(hφ:∀ h,φ h->∃ o,h.get? a=Ab o/\o.cls=.ref C)(xc:XcOk X.K C)(e:Dp X.K (.ref C) cv=Ab b)(q:Q (.bl b) H):
  Aw (model X.prog X.w) X.A (call (.builtin "isinstance") [.ref a,cv]) (EP X pins Z Q) X.xe s:=by
 have p:XAt a C s.heap:=hφ _ (I.hok a _ ha).1;exact PySem.W.kia_one (Ug xc) I.kIn p e (by intro z;cases z) λtk=>⟨.bl b,H,I.tok tk,rfl,q⟩
theorem TB:∀(Cs:Ac Al){its:Ac Ai},Bb (Cs.map V.ref) its->its=Cs.map Be
 |[],_,rv=>by cases rv;rfl
 |c::cs,_,rv=>by
  cases rv with
  |cons h1 h2=>rw[TB cs h2];cases h1;rfl
theorem qL{s:Ap}{tp:Al}{Cs:Ac Al}{b:Aj}{Q:VK}(I:Inv X pins Z H s)(ha:H a=Ab (.ext φ))(hφ:∀ h,φ h->∃ o,h.get? a=Ab o/\o.cls=.ref C)(xc:XcOk X.K C)(ht:H tp=Ab (.tup (Cs.map V.ref)))(e:JE X.K (.ref C) (Cs.map Be)=Ab b)(q:Q (.bl b) H):
  Aw (model X.prog X.w) X.A (call (.builtin "isinstance") [.ref a,.ref tp]) (EP X pins Z Q) X.xe s:=by
 have p:XAt a C s.heap:=hφ _ (I.hok a _ ha).1;obtain⟨_,its,rv,⟨o,ho,hc,n,hd⟩⟩:=I.hok tp _ ht;have ei:its=Cs.map Be:=TB Cs rv;subst ei;obtain⟨cls,dd,dat,sl⟩:=o;have hc':cls=.type "tuple" := hc;have hd':dat=.seq (C9 (Cs.map Be)) n:=hd;subst hc' hd';exact PySem.W.kia_tup (Ug xc) I.kIn p ho e (by intro z;cases z) λtk=>⟨.bl b,H,I.tok tk,rfl,q⟩
theorem U_5{K:Fg}{up:Ae->Ac Ae}{c:Ae}{C:Al}(h:CL c=Ab C):∀(cs:Ac (Ae×Al)),(∀ p∈cs,No K CL up p.1 p.2)->JE K (.ref C) ((cs.map λq:Ae×Al=>q.2).map Be)=Ab (cs.any λp=>(up c).contains p.1)
  |[],_=>rfl
  |p::cs,hk=>by
    have h1:=hk p AM c C h;have h2:=U_5 h cs λq hq=>hk q (AG _ hq)
    show (match Dp K (.ref C) (.ref p.2) with
      |some Aa=>Ab Aa
      |some Af=>JE K (.ref C) ((cs.map λq:Ae×Al=>q.2).map Be)
      | none=>Ad)=_
    rw[h1,XV];cases (up c).contains p.1 with
    |true=>rfl
    |false=>rw[h2];rfl
theorem Qt{ks:Ac Ki}{Rp:Hp->V->D->Prop}{Q:VK}(hk:ks.all Fp=Aa)(hne:ks≠[])(p:Bg Rp W H (Fo up ks d) Q):∃ c fs,d=.exc c fs/\Bg Rp W H (.ok (.bl (ks.any λk=>kiD up k d))) Q:=by
 have ha:ks.any Fp=Aa:=by
  cases ks with
  |nil=>exact absurd rfl hne
  |cons k ks=>simp only[EA,Am]at hk;simp[XV,hk.1]
 cases d with
 | exc c fs=>exact⟨c,fs,rfl,by
   have p':Bg Rp W H (if ks.all Fp=Aa then .ok (.bl (ks.any λk=>kiD up k (.exc c fs))) else .bad) Q:=p
   rw[Ar hk]at p';exact p'⟩
 |obj c fs=>exact BH p
 |dic _=>exact BH p
 |non=>simp only[Fo,ha,Ir]at p;exact BH p
 |bl _=>simp only[Fo,ha,Ir]at p;exact BH p
 |int _=>simp only[Fo,ha,Ir]at p;exact BH p
 |str _=>simp only[Fo,ha,Ir]at p;exact BH p
 |tup _=>simp only[Fo,ha,Ir]at p;exact BH p
 |lst _=>simp only[Fo,ha,Ir]at p;exact BH p
theorem QG{v:V}{fs:Ac (Ak×D)}(r:CY K CL H A v (.exc c fs)):∃ a C φ,v=.ref a/\CL c=Ab C/\H a=Ab (.ext φ)/\∀ h,φ h->∃ o,h.get? a=Ab o/\o.cls=.ref C:=by
 rcases r with ⟨a,C,φ,e,_,hc,hH,hφ,_⟩|⟨a,xs,ds,_,z,_⟩
 .exact⟨a,C,φ,e,hc,hH,hφ⟩
 .cases z
variable{a:An}{fa:Rho->R D}{up:Ae->Ac Ae}{x:Ak}{p p2 pos:AY}
theorem sD{c':Ae}(hxc:∀ c C,CL c=Ab C->XcOk X.K C)(hg:Gl X "isinstance")(hm:X.mg "isinstance" = Ad)(hg2:Gl X x)(hm2:X.mg x=Ab (.ref C'))(hkit:No X.K CL up c' C')(hdb:(x==("__debug__" : Ak))=Af)(ha:ST X CL W a fa)(he:AB [a,.Name x p2] X.env=(Af,eval a X.env)::AB [.Name x p2] X.env):SE X CL W (.Call (.Name "isinstance" p) [a,.Name x p2] [] pos) (λU=>(fa U).bind λx=>Fo up [.cls c'] x):=λA=>
 PE.weak (L5 (r:=λxs H Q=>∃ a C φ c,xs=[.ref a,.ref C']/\CL c=Ab C/\H a=Ab (.ext φ)/\(∀ h,φ h->∃ o,h.get? a=Ab o/\o.cls=.ref C)/\Q (.bl ((up c).contains c')) H) (λpins s Z H xs us Q I r ⟨b,C,φ,c,e,hc,hH,hφ,q⟩=>by
   subst e;obtain⟨u,w',rfl,r1,r2⟩:=Nu r;cases r1;cases r2;exact Uh I hH hφ (hxc c C hc) (hkit c C hc) q)
  hg hm G6 (EH (ha A) (EH (U_7 (v:=.ref C') hg2 hm2 rfl hdb) F7 rfl) he) (by decide) (by decide) he rfl) λZ H Q ⟨hA,U,g,q⟩=>⟨hA,U,g,Bg.bind q λd v H1 _ s1 r1 p1=>by
   obtain⟨c,fs,rfl,p2⟩:=Qt (by rfl) (by simp) p1
   obtain⟨b,C,φ,rfl,hc,hH,hφ⟩:=QG r1;refine⟨b,C,φ,c,rfl,hc,hH,hφ,p2 _ H1 (AN.refl H1) ?_⟩;exact congrArg V.bl (Fb _).symm⟩
theorem tV(hxc:∀ c C,CL c=Ab C->XcOk X.K C)(hg:Gl X "isinstance")(hm:X.mg "isinstance" = Ad)(hg2:Gl X "ValueError")(hm2:X.mg "ValueError" = Ad)(ha:ST X CL W a fa)(he:AB [a,.Name "ValueError" p2] X.env=(Af,eval a X.env)::AB [.Name "ValueError" p2] X.env):SE X CL W (.Call (.Name "isinstance" p) [a,.Name "ValueError" p2] [] pos) (λU=>(fa U).bind λx=>Fo up [.verr] x):=λA=>
 PE.weak (L5 (r:=λxs H Q=>∃ a C φ c,xs=[.ref a,.ty "ValueError"]/\CL c=Ab C/\H a=Ab (.ext φ)/\(∀ h,φ h->∃ o,h.get? a=Ab o/\o.cls=.ref C)/\Q (.bl Aa) H) (λpins s Z H xs us Q I r ⟨b,C,φ,c,e,hc,hH,hφ,q⟩=>by
   subst e;obtain⟨u,w',rfl,r1,r2⟩:=Nu r;cases r1;cases r2;exact Uh I hH hφ (hxc c C hc) (hxc c C hc).ve q)
  hg hm G6 (EH (ha A) (EH (U_9 (v:=.ty "ValueError") hg2 hm2 PyProof.Rows.Boot.«ValueError» rfl (by decide) (by decide)) F7 rfl) he) (by decide) (by decide) he rfl) λZ H Q ⟨hA,U,g,q⟩=>⟨hA,U,g,Bg.bind q λd v H1 _ s1 r1 p1=>by
   obtain⟨c,fs,rfl,p2⟩:=Qt (by rfl) (by simp) p1
   obtain⟨b,C,φ,rfl,hc,hH,hφ⟩:=QG r1;refine⟨b,C,φ,c,rfl,hc,hH,hφ,p2 _ H1 (AN.refl H1) ?_⟩;exact congrArg V.bl (Fb _).symm⟩
theorem rP(up:Ae->Ac Ae)(c:Ae)(fs:Ac (Ak×D))(cs:Ac (Ae×Al)):((cs.map λq=>Ki.cls q.1).any λk=>kiD up k (.exc c fs))=cs.any λq=>(up c).contains q.1:=Kl
def Xd(Cs:Ac Al):TA:=λ_ H Q=>Q (Cs.map V.ref) H
theorem tW{ts:Ac An}{cs:Ac (Ae×Al)}(hxc:∀ c C,CL c=Ab C->XcOk X.K C)(hg:Gl X "isinstance")(hm:X.mg "isinstance" = Ad)(hts:PA X ts (Xd (cs.map λq:Ae×Al=>q.2)))(hne:cs≠[])(hl:cs.length<=1000)(hkit:∀ q∈cs,No X.K CL up q.1 q.2)(ha:ST X CL W a fa)(he:AB [a,.Tuple ts kk p2] X.env=(Af,eval a X.env)::AB [.Tuple ts kk p2] X.env):SE X CL W (.Call (.Name "isinstance" p) [a,.Tuple ts kk p2] [] pos) (λU=>(fa U).bind λx=>Fo up (cs.map λq=>.cls q.1) x):=λA=>
 PE.weak (L5 (r:=λxs H Q=>∃ a C φ c tp,xs=[.ref a,.ref tp]/\CL c=Ab C/\H a=Ab (.ext φ)/\(∀ h,φ h->∃ o,h.get? a=Ab o/\o.cls=.ref C)/\H tp=Ab (.tup ((cs.map λq:Ae×Al=>q.2).map V.ref))/\Q (.bl (cs.any λq=>(up c).contains q.1)) H) (λpins s Z H xs us Q I r ⟨b,C,φ,c,tp,e,hc,hH,hφ,ht,q⟩=>by
   subst e;obtain⟨u,w',rfl,r1,r2⟩:=Nu r;cases r1;cases r2;exact qL I hH hφ (hxc c C hc) ht (U_5 hc cs hkit) q)
  hg hm G6 (EH (ha A) (EH (V0 hts) F7 rfl) he) (by decide) (by decide) he rfl) λZ H Q ⟨hA,U,g,q⟩=>⟨hA,U,g,Bg.bind q λd v H1 _ s1 r1 p1=>by
   have hk:(cs.map λq=>Ki.cls q.1).all Fp=Aa:=by simp[Fu,Fp]
   obtain⟨c,fs,rfl,p2⟩:=Qt hk (by simpa using hne) p1
   obtain⟨b,C,φ,rfl,hc,hH,hφ⟩:=QG r1;refine⟨by rw[AF,AF,Bv];omega,λt ht=>?_⟩
   have hbt:b≠t:=Gy hH ht;refine⟨b,C,φ,c,t,rfl,hc,by rw[Cv hbt];exact hH,hφ,Hv,p2 _ _ (GR ht _) ?_⟩
   exact congrArg V.bl (rP up c fs cs).symm⟩
end
theorem VJ(q:EW K C v=Aa):∃ dd cd sl bm,K.lookup C=Ab ⟨.type "type",dd,.cls cd,sl⟩/\cd.mro=.ref C::bm:=by
 unfold EW at q;split at q
 .rename_i dd cd sl ho;split at q
  .rename_i C' bm k0 k1 k2 k3 n k5 hm hs;simp only[Am,A9,BQ]at q;obtain⟨rfl,_⟩:=q;exact⟨dd,cd,sl,bm,ho,hm⟩
  .cases q
 .cases q
theorem Ol(q:EW K C v=Aa):∃ cd bm,Eb K C=Ab cd/\cd.mro=.ref C::bm:=by
 obtain⟨dd,cd,sl,bm,h1,h2⟩:=VJ q;exact⟨cd,bm,by unfold Eb;rw[h1],h2⟩
theorem vW(q:EW K C v=Aa):Gi K (.ref C)=Ab (.type "type"):=by
 obtain⟨dd,cd,sl,bm,h1,h2⟩:=VJ q;show (K.lookup C).map _=_;rw[h1];rfl
theorem qE{v:Aj}{i i':Ao Ai}(q:EW K C i=Aa)(q':EW K C' i'=Aa)(su:BR K (.ref C) (.ref C')=Ab v):Dp K (.ref C) (.ref C')=Ab v:=by
 unfold Dp;by_cases e:C=C'
 .subst e;obtain⟨cd,bm,h1,h2⟩:=Ol q;have su':Dj K C (.ref C)=Ab v:=su;have:v=Aa:=by
   unfold Dj at su';rw[h1,YB,h2,As (by simp)]at su'
   rw[<-Bf su'];simp
  rw[Ar (by simp),this]
 .rw[As (λz=>e (Kg (A9.mp z)))]
  obtain⟨cd,bm,h1,h2⟩:=Ol q';show (if ((Eb K C').isSome&&Gi K (.ref C')==Ab (.type "type"))=Aa then BR K (.ref C) (.ref C') else Ad)=_
  rw[h1,vW q',Ar (by simp),su]
theorem xE(exc:EW K C v=Aa)(ga:Bi K (.ref C) "__getattribute__" = Ab (Ab (.builtin "BaseException.__getattribute__")))(gt:Bi K (.ref C) "__getattr__" = Ab Ad)(cl:Bi K (.ref C) "__class__" = Ab (Ab (.builtin "object.__class__")))(ob:Dj K C (.type "object")=Ab Aa)(be:BR K (.ref C) (.type "BaseException")=Ab Aa)(sv:BR K (.ref C) (.type "ValueError")=Ab Aa):XcOk K C:=by
 obtain⟨cd,bm,h1,h2⟩:=Ol exc;refine⟨⟨v,exc⟩,ga,gt,cl,ob,be,by rw[h1];rfl,?_⟩
 unfold Dp;rw[As (λz=>by cases A9.mp z)]
 have hm:aJ "ValueError" = Aa:=by decide+kernel
 show (if aJ "ValueError" = Aa then BR K (.ref C) (.type "ValueError") else Ad)=_
 rw[Ar hm,sv]
noncomputable abbrev dD:CXT:=λ_ _ _ _ _ _=>Ba
structure HotOk (P:AQ) (w:AT) (K:Fg) (mg:Ak->Ao Ai) (base:AK) (k:Ae) (f:Al) (fd:Co) (ps:Ac Ak) (sp:Sp):Prop where
 len:∀ vs H Q E,sp vs H Q E->vs.length=ps.length
 run:∀(A:AV)(ev:Al)(outer:Ac CU)(s:Ap)(H:Hp)(args:Args)(us:Ac Ai)(vs:Ac V)(Q:VK)(E:XK),Room k A->Env0 P w K mg base (A.mark (Ab (.ref ev))) outer s H->Hq s fd args (ps.zip us)->Bb vs us->sp vs H Q E ->
  FC (model P w) (A.mark (Ab (.ref ev))) (.call (.ref f) args) (CR dD outer P w H s Q E) s
theorem iL{v:Aj}{i:Ao Ai}(q:EW K C i=Aa)(mr:Dj K C' (.type "object")=Ab Aa)(ty:Gi K (.ref C')=Ab (.type "type"))(su:BR K (.ref C) (.ref C')=Ab v):Dp K (.ref C) (.ref C')=Ab v:=by
 unfold Dp;by_cases e:C=C'
 .subst e;obtain⟨cd,bm,h1,h2⟩:=Ol q;have su':Dj K C (.ref C)=Ab v:=su;have:v=Aa:=by
   unfold Dj at su';rw[h1,YB,h2,As (by simp)]at su'
   rw[<-Bf su'];simp
  rw[Ar (by simp),this]
 .rw[As (λz=>e (Kg (A9.mp z)))]
  show (if ((Eb K C').isSome&&Gi K (.ref C')==Ab (.type "type"))=Aa then BR K (.ref C) (.ref C') else Ad)=_
  have cs:(Eb K C').isSome=Aa:=by
   unfold Dj at mr;cases e1:Eb K C' with
   |none=>rw[e1]at mr;cases mr
   |some cd=>rfl
  rw[cs,ty,Ar (by simp),su]
def spH(K:Fg)(CL:ClA)(n:Ae)(fr:Aj)(F:Ac D->R D):Sp:=λvs H Q _=>∃(ds:Ac D)(A:Al->Prop),vs.length=n/\AOk H A/\Reps K CL H A vs ds/\(match F ds with
  |.ok d=>∀ v H',AN H H'->EV K CL fr H A H' v d->Q v H'
  |.exn _=>Ba
  | .bad=>Ba)
section
variable{X:Cx}{CL:ClA}{ev:Al}
theorem lU{t:An}{xs ys:Ac A7}{fc:Rho->R Aj}{fx fy:Rho->O}(hc:∀ pins Xw,F4 (model X.prog X.w) X.A X.env Xw->SB (Cx.pw X pins Xw) CL (λ_ _=>Ba) t fc)(hnx:∀ U y,fc U≠.exn y)(hx:STB X CL xs fx)(hy:STB X CL ys fy):STB X CL [.If t xs ys pos] (λU=>O.of U (fc U) λb=>if b=Aa then fx U else fy U):=by
  intro Fz B pins s Z H D U Xw own I sx q hρ;dsimp only at q hρ;cases ec:fc U with
  |bad=>rw[ec]at q;exact q.elim
  |exn y=>exact absurd ec (hnx U y)
  |ok b=>
    rw[ec]at q hρ;have key:=hc pins Xw own (Ck B U Z) [] s Z H (λb' H'=>b'=b/\AN H H') (Nl I Xw) ⟨sx.aok,U,sx.good,by rw[ec];exact λH' sm=>⟨rfl,sm⟩⟩
    refine IB (thn (wpAny_If (Q:=SP X pins D) (thn key λb' s1 ⟨H1,I1,e,sm⟩=>?_)) (λf s1 z=>by
      cases f with
      |next=>exact F0 z
      |ret v=>exact z
      |brk=>exact z
      | cont=>exact z))
    subst e;have J:=Ma I.ok I1;have up:∀{y:Ex},Lq X CL pins Z H y Xw->Lq X CL pins Z H1 y Xw:=λ{y} w s' H' e T cls dx a1 a2=>w s' H' e T cls dx a1 (sm.trans a2)
    have lift:∀{o:O},(match o with
       |.exn y U'=>U'=U->Lq X CL pins Z H y Xw
       |o=>Cq X.K CL Fz B (λ_ _=>Ba) o D)->(match o with
       |.exn y U'=>U'=U->Lq X CL pins Z H1 y Xw
       | o=>Cq X.K CL Fz B (λ_ _=>Ba) o D):=λ{o} z=>by
      cases o with
      |exn y U'=>exact λe=>up (z e)
      |next _=>exact z
      |ret _ _=>exact z
      |brk _=>exact z
      |cont _=>exact z
      |bad=>exact z
    cases b' with
    |true=>exact hx Fz B pins s1 Z H1 D U Xw own J (sx.grow sm) (lift q) hρ
    |false=>exact hy Fz B pins s1 Z H1 D U Xw own J (sx.grow sm) (lift q) hρ
end
section
variable{M:E6}{A:AV}{E:Vq}{s:Ap}{env:CU}{nm q:Ak}{C N:Al}{bs bm bmB:Ac Ai}{hdct:Aj}{sn:Ac Ak}{sub:Ac Ai}{ab:Aj}{col:Ao Aj}{dd:Ao Al}{k0 k1 k2 k3 k5:Ao Ai}{B newId initId:C3}
end
section
variable{prog:AQ}{w:AT}{A:AV}{E:Vq}{h:AK}{g:Au EC}{d:Ja}{t:Ae}{os:Im}
variable{nm q:Ak}{C N fI:Al}{bs bm bmB:Ac Ai}{hdct:Aj}{sn:Ac Ak}{sub:Ac Ai}{ab:Aj}{col:Ao Aj}{dd:Ao Al}{k0 k1 k2 k3 k5:Ao Ai}{B newId initId:C3}{mN:Ak->Ao Ai}{rest:Ac Ai}{oI:Dx}
end
section
variable{prog:AQ}{w:AT}{A:AV}{E:Vq}{s:Ap}{env:CU}
variable{nm q:Ak}{C N fI:Al}{bs bm bmB:Ac Ai}{hdct:Aj}{sn:Ac Ak}{sub:Ac Ai}{ab:Aj}{col:Ao Aj}{dd:Ao Al}{k0 k1 k2 k3 k5:Ao Ai}{B newId initId:C3}{mN:Ak->Ao Ai}
end
section
variable{prog:AQ}{w:AT}{A:AV}{E:Vq}{h:AK}{g:Au EC}{d:Ja}{tk0:Ae}{os:Im}
variable{nm q:Ak}{C N e t:Al}{dx:Ao Al}{bs bm bmB:Ac Ai}{hdct:Aj}{sn:Ac Ak}{sub:Ac Ai}{ab:Aj}{col:Ao Aj}{dd:Ao Al}{k0 k1 k2 k3 k5:Ao Ai}{B newId initId:C3}
end
section
variable{X:Cx}{CL:ClA}{pins:Pn}{Z:L2.St}{H:Hp}{s:Ap}
end
section
variable{X:Cx}{CL:ClA}
end
section
variable{X:Cx}{CL:ClA}{C:Al}{nm q:Ak}{N:Al}{bs bm:Ac Ai}{hdct:Aj}{sn:Ac Ak}{sub:Ac Ai}{ab:Aj}{col:Ao Aj}{dd:Ao Al}{k0 k1 k2 k3 k5:Ao Ai}
end
section
variable{prog:AQ}{w:AT}{A:AV}{E:Vq}{h:AK}{g:Au EC}{d:Ja}{tk0:Ae}{os:Im}{K:Fg}
variable{nm q:Ak}{C N e t:Al}{bs bm bmB:Ac Ai}{sn:Ac Ak}{sub:Ac Ai}{ab:Aj}{col:Ao Aj}{dd:Ao Al}{k0 k1 k2 k3 k5:Ao Ai}{B newId sa owner:C3}
end
section
variable{prog:AQ}{w:AT}{A:AV}{E:Vq}{h:AK}{g:Au EC}{d:Ja}{tk0:Ae}{os:Im}{K:Fg}
variable{nm q:Ak}{C N e t:Al}{bs bm bmB:Ac Ai}{sn:Ac Ak}{sub:Ac Ai}{ab:Aj}{col:Ao Aj}{dd:Ao Al}{k0 k1 k2 k3 k5:Ao Ai}{B newId sa owner:C3}
end
section
variable{X:Cx}{pins:Pn}{Z:L2.St}{H:Hp}{s:Ap}{e:Al}
end
section
variable{X:Cx}{C:Al}{nm q:Ak}{N:Al}{bs bm:Ac Ai}{sn:Ac Ak}{sub:Ac Ai}{ab:Aj}{col:Ao Aj}{dd:Ao Al}{k0 k1 k2 k3 k5:Ao Ai}
end
noncomputable def IL(K:Fg)(C:Al):Aj:=match K.lookup C with
  |some ⟨_,_,.cls c,_⟩=>c.hasDict
  |_=>Af
section
variable{P:AQ}{w:AT}{K:Fg}{mg:Ak->Ao Ai}{base:AK}{CL:ClA}{C fI OV:Al}{x qual g par z f:Ak}{st:A7}{fd:Co}{k:Ae}{np apos p1 p2 p3 p4 p5 cpos p6 p7 p8 p9 p10:AY}
variable{nm q:Ak}{N:Al}{bs bm:Ac Ai}{sn:Ac Ak}{sub:Ac Ai}{ab:Aj}{col:Ao Aj}{dd:Ao Al}{k0 k1 k2 k3 k5:Ao Ai}
end
section
variable{X:Cx}{CL:ClA}{W:XW}
theorem eN{e:An}{es:Ac An}(hcalm:X.calm=Aa)(hx:X.ex=[])(hr:Room k X.A)(rz:NL X CL W)(hg:Gl X g)(hm:X.mg g=Ab (.ref C))(hdb:(g==("__debug__" : Ak))=Af)(hcl:CL c=Ab C)(ha:SA X CL W (e::es) fs)(hxn:∀ ds,xn c ds=.bad\/(xn c ds=.ok ⟨c,[]⟩/\EW X.K C Ad=Aa)\/Ba)(he:AB (e::es) X.env=(Af,eval e X.env)::AB es X.env)(hpl:∀ pos,(Cc pos (AB es X.env)).any (·.1)=Af)(hz:∀ U ds,fs U=.ok ds->ds.length<=100000):SS X CL W (.Raise (Ab (.Call (.Name g np) (e::es) [] cpos)) Ad pos) (λU=>O.of U (noX (fs U)) λxs=>O.of U (xn c xs) λx=>.exn x U):=λFz B pins s Z H D I ⟨U,x,p⟩=>by
 have hpl':(Cc cpos (AB (e::es) X.env)).any (·.1)=Af:=by rw[he];show (Af||(Cc cpos (AB es X.env)).any (·.1))=Af;rw[hpl];rfl
 cases e1:fs U with
 |bad=>dsimp only at p;rw[e1]at p;exact p.elim
 |exn y=>dsimp only at p;rw[e1]at p;exact p.elim
 |ok ds=>
  rcases hxn ds with e2|⟨e2,xc⟩|z
  .dsimp only at p;rw[e1]at p;have p2:Cq X.K CL Fz B W (O.of U (xn c ds) λx=>.exn x U) D:=p
   rw[e2]at p2;exact p2.elim
  .refine jM (fs:=fs) (xn:=λ_ ds'=>match xn c ds' with | .ok ⟨_,[]⟩=>.ok ⟨c,[]⟩|_=>.bad) hcalm rz hg hm hdb xc hcl ha (λds'=>by
    split
    .exact .inr rfl
    .exact .inl rfl) he hpl hz Fz B pins s Z H D I ⟨U,x,?_⟩
   dsimp only at p ⊢;rw[e1]at p ⊢;have p2:Cq X.K CL Fz B W (O.of U (xn c ds) λx=>.exn x U) D:=p
   rw[e2]at p2;show Cq X.K CL Fz B W (O.of U (match xn c ds with | .ok ⟨_,[]⟩=>(.ok ⟨c,[]⟩:R Ex)|_=>.bad) λx=>.exn x U) D
   rw[e2];exact p2
  .exact z.elim
end
section
variable{prog:AQ}{w:AT}{A:AV}{E:Vq}{h:AK}{g:Au EC}{d:Ja}{t:Ae}{os:Im}{K:Fg}{e C dx:Al}{f:Ak}{mA:Ak->Ao Ai}{v:Ai}
theorem QU(p:Kb e C (Ab dx) h):XAt e C h:=let ⟨o,a,b,_⟩:=p;⟨o,a,b⟩
theorem eU{Q:Fin->Ap->Prop}(X:K.In h)(hf:Bi K (.ref C) f=Ab Ad)(hd:IL K C=Aa)(p:Kb e C (Ab dx) h)(hn:h.Ns1 dx mA)(hv:mA f=Ab v)(hq:Q (.done (.ret v)) ⟨h,g,d,t,os⟩):Aw (model prog w) A (Builtin.«object.__getattribute__» ⟨[.ref e,.str f tk],[]⟩) Q E ⟨h,g,d,t,os⟩:=by
 have L0:=KA (M:=model prog w) (QU p);have L1:=D4 (M:=model prog w) X hf;obtain⟨o,ge,oc,od,us,dt⟩:=p;unfold IL at hd;split at hd
 .rename_i c' d' cd' sl' lk;have gC:=X _ _ lk;unfold Builtin.«object.__getattribute__»
  repeat (any_goals (first|assumption|with_reducible refine L0.at ?_|with_reducible refine L1.at ?_|wp_step))
  rw[dt];unfold instanceDict
  repeat (first|(with_reducible refine Il ge ?_;rw[oc])|with_reducible refine Il gC ?_|wp_step)
  rw[od]
  repeat (first|(with_reducible refine wpAny_nsGet hn.ns ?_;rw[hv])|wp_step)
  exact hq
 .cases hd
theorem qZ{Q:Vq}(X:K.In h)(x:XcOk K C)(hf:Bi K (.ref C) f=Ab Ad)(hd:IL K C=Aa)(p:Kb e C (Ab dx) h)(hn:h.Ns1 dx mA)(hv:mA f=Ab v)(hh:handedOut v=pure v)(hq:Q v ⟨h,g,d,t,os⟩):Aw (model prog w) A (getAttrBy (.ref e) (.str f tk) fill expr) Q E ⟨h,g,d,t,os⟩:=by
 have L0:=KA (M:=model prog w) (QU p);have L1:=D4 (M:=model prog w) X x.ga;have L2:=D4 (M:=model prog w) X x.gt;have f3:=Gs.ga.bind (.ref e);have hx0:(expr&&Ku (CF "BaseException.__getattribute__"))=Af:=by cases expr<;>rfl
 have hx2:(CF "BaseException.__getattribute__" == CF "object.__getattribute__")=Af:=by decide+kernel
 have hx1:(Ku (Be C)&&CF "BaseException.__getattribute__" == CF "object.__getattribute__")=Af:=by rw[hx2];rfl
 repeat (any_goals (first|assumption|with_reducible refine L0.at ?_|with_reducible refine L1.at ?_|with_reducible refine L2.at ?_|wp_step))
 refine FN Gs.ga.plain Zy (S6 X x (QU p) (eU X hf hd p hn hv ?_))
 repeat (any_goals (first|assumption|wp_step))
 all_goals trace_state
theorem gN{b:Aj}{Q:Vq}(X:K.In h)(x:XcOk K C)(hf:Bi K (.ref C) f=Ab Ad)(hd:IL K C=Aa)(p:Kb e C (Ab dx) h)(hn:h.Ns1 dx mA)(hv:mA f=Ab v)(hh:handedOut v=pure v)(hq:Q v ⟨h,g,d,t+1,os⟩):Aw (model prog w) A (getAttr (.ref e) f b) Q E ⟨h,g,d,t,os⟩:=by
 unfold getAttr
 repeat (any_goals (first|assumption|with_reducible apply qZ X x hf hd p hn hv hh|wp_step))
end
section
variable{X:Cx}{CL:ClA}{W:XW}{K:Fg}{H:Hp}{A:Al->Prop}
theorem UB{f:Ak}{d:D}:∀{vs:Ac (Ak×V)}{fs:Ac (Ak×D)},Repf K CL H A vs fs->fs.lookup f=Ab d->∃ v,vs.lookup f=Ab v/\Rep K CL H A v d
 |[],[],_,q=>nomatch q
 |(n,v)::vs,(m,d')::fs,⟨⟨e,r⟩,rs⟩,q=>by
  have e':n=m:=e;subst e';by_cases z:(f==n)=Aa
  .simp only[Jf,z]at q ⊢;cases q;exact⟨v,rfl,r⟩
  .simp only[Jf,z]at q ⊢;exact UB rs q
theorem lB{a:An}{fa:Rho->R D}{f:Ak}(hxc:∀ c C,CL c=Ab C->XcOk X.K C)(hnf:∀ c C,CL c=Ab C->IL X.K C=Aa/\Bi X.K (.ref C) f=Ab Ad)(ha:ST X CL W a fa)(hb:Fd a f X.env (eval a X.env)=eval a X.env):SE X CL W (.Attribute a f pos) (λU=>(fa U).bind λx=>Pa x f):=λA=>by
 intro pins s Z H Q I ⟨hA,U,gd,q⟩;refine pE hb (thn (ha A pins s Z H _ I ⟨hA,U,gd,Bg.bind q (Q':=λv H1=>∃ d,CY X.K CL H1 A v d/\Bg (λH2=>Rep X.K CL H2 A) W H1 (Pa d f) Q) λd v H1 _ s1 r1 p1=>⟨d,r1,p1⟩⟩) λu s1 ⟨v,H1,I1,rv,d,rp,p1⟩=>?_)
 cases d with
 |exc c fs=>
  have p2:Bg (λH2=>Rep X.K CL H2 A) W H1 (match fs.lookup f with|some d=>.ok d|none=>.bad) Q:=p1
  cases el:fs.lookup f with
  |none=>rw[el]at p2;exact p2.elim
  |some d=>
   rw[el]at p2;rcases rp with ⟨e,C,φ,rfl,_,hc,hH,hφ,hfs⟩|⟨a,xs,ds,_,z,_⟩
   .rcases hfs with z|⟨dx,vs,nd,hd,rf,hφ2⟩
    .rw[z]at el;cases el
    .obtain⟨y,l,ry⟩:=UB rf el;cases rv;have ph:=(I1.hok e _ hH).1;obtain⟨o,ge,oc⟩:=hφ _ ph;obtain⟨o',ge',od,us,odt⟩:=hφ2 _ ph;rw[ge]at ge';cases ge';obtain⟨mA,hn,rel⟩:=I1.hok dx _ hd;obtain⟨u',hu,ru⟩:=NM.some_of (v:=y) (o:=mA f) (by rw[<-l];exact rel f)
     obtain⟨k1,k2⟩:=hnf c C hc;obtain⟨hp,g2,d2,tk2,os2⟩:=s1;exact gN I1.kIn (hxc c C hc) k2 k1 ⟨o,ge,oc,od,us,odt⟩ hn hu (PySem.W.handedOut_of (iD ru)) ⟨y,H1,I1.tok _,ru,p2 y H1 (AN.refl H1) ry⟩
   .cases z
 |_=>exact p1.elim
end
theorem jJ:∀{ss:Ac Ak}{its:Ac Ai},Bb (ss.map V.str) its->∃ l:Ac (Ak×Ci),its=strValues l/\l.map (·.1)=ss:=by
 intro ss
 induction ss with
 |nil=>intro its v;cases v;exact⟨[],rfl,rfl⟩
 |cons x ss ih=>
  intro its v;cases v with
  |cons v1 v2=>
   obtain⟨t,rfl⟩:=v1;obtain⟨l,e1,e2⟩:=ih v2;exact⟨(x,t)::l,by rw[e1];rfl,by rw[CO,e2]⟩
section
variable{X:Cx}{CL:ClA}{W:XW}
def yO(K:Fg):V->Ac V->Hp->VK->Prop:=λx xs H Q=>∃ sep q ss,x=.str sep/\xs=[.ref q]/\SqL K H q (ss.map V.str)/\Kq sep ss=Aa/\Q (.str (MM sep ss)) H
theorem mU:MtR X "str.join" (yO X.K):=by
 intro pins s Z H x vs v us Q I rx rv h;obtain⟨sep,l,ss,rfl,rfl,sq,hok,q⟩:=h;obtain⟨t,rfl⟩:=rx;obtain⟨u,rfl,ru⟩:=rv.one;cases ru;obtain⟨its,r,pl,hz⟩:=I.list sq;obtain⟨ls,rfl,rfl⟩:=jJ r;unfold Kq at hok;rw[BQ]at hok;refine JQ ZI (LH _ _ _) PySem.F.entry_str_join (PySem.F.args_str_join_2 _ _) (meets_str_join_list sep t l ls hok) ⟨pl.isList,post_join ls ⟨joinFit_length hok,λt' k=>?_⟩⟩
 exact⟨.str _,H,I.kept (t':=k) λ_ _ e=>e,⟨_,rfl⟩,q⟩
theorem eL:∀{es:Ac D}{ss:Ac Ak}{ys:Ac V},KD es=Ab ss->Reps K CL H A ys es->ys=ss.map V.str:=by
 intro es
 induction es with
 |nil=>
  intro ss ys h r;cases h;cases ys with
  |nil=>rfl
  |cons=>exact r.elim
 |cons e es ih=>
  intro ss ys h r;cases ys with
  |nil=>exact r.elim
  |cons y ys=>
   cases e with
   |str x=>
    have h':(KD es).map (x :: ·)=Ab ss:=h;cases e2:KD es with
    |none=>rw[e2]at h';cases h'
    |some js=>
     rw[e2]at h';cases h';have e1:y=.str x:=r.1;rw[ih e2 r.2,e1];rfl
   |_=>cases h
theorem nR{y:An}{s:Ak}{apos:AY}{fy:Rho->R D}(hy:SE X CL W y fy)(hbase:Fd (.Constant (.str s) k p) "join" X.env (eval (.Constant (.str s) k p) X.env)=eval (.Constant (.str s) k p) X.env)(hfew:((Cc cpos (AB [y] X.env)).all (λx=>!x.1)&&(JM cpos (Hz [] X.env)).all (λx=>x.1.isSome)&&decide ([y].length+([]:Ac Ey).length+(if ([]:Ac Ey).isEmpty then 0 else 1)<30))=Aa)(hline:(apos.endLine==cpos.line)=Aa)(hs:AB [y] X.env=[(Af,eval y X.env)]):
  SE X CL W (.Call (.Attribute (.Constant (.str s) k p) "join" apos) [y] [] cpos) (λU=>(fy U).bind λx=>biD .sjoin [.str s,x]):=λA=>
 PE.weak (OS PySem.F.plainAttrs_str ZI PySem.F.type_str_join mU (Q5 (X:=X) (CL:=CL) (W:=W) A) (EH (hy A) F7 hs) hbase hfew hline hs rfl) λZ H Q ⟨hA,U,g,p⟩=>⟨hA,U,g,λv H1 s1 r1=>by
  dsimp only at p;have ev:v=.str s:=r1;subst ev;refine⟨rfl,hA.same s1,U,g.same s1,?_⟩;cases e:fy U with
  |bad=>rw[e]at p;exact p.elim
  |exn x=>rw[e]at p;exact λH2 s2=>p H2 (s1.trans s2)
  |ok d=>
   rw[e]at p;intro v' H2 s2 r2;have p1:Bg (λH=>Rep X.K CL H A) W H (biD .sjoin [.str s,d]) Q:=p
   cases d with
   |lst ds=>
    obtain⟨a,xs,rfl,_,sq,rs⟩:=r2;have p2:Bg (λH=>Rep X.K CL H A) W H (Nm s ds) Q:=p1
    unfold Nm at p2;cases e3:KD ds with
    |none=>rw[e3]at p2;exact p2.elim
    |some ss=>
     rw[e3]at p2;dsimp only at p2;split at p2
     .rename_i hok;have ex:=eL e3 rs;subst ex;exact⟨s,a,ss,rfl,rfl,sq,hok,p2 _ H2 (s1.trans s2) rfl⟩
     .exact p2.elim
   | _=>exact p1.elim⟩
end
theorem noF{P:Prop}(h:Af=Aa):P:=nomatch h
structure Tc where
 sc:Cr
 N:Ac Ak
 /-- a def's name,its number,how many parameters it has -/
 fns:Ac (Ak×Ae×Ae)
 /-- built-in names that the text does not hide -/
 bl:Ac Ak
 /-- exceptions' classes by their names: those that are raised,all that are asked for -/
 rzs:Ac (Ak×Ae)
 exs:Ac (Ak×Ae)
 /-- the text's constants -/
 gls:Ac (Ak×Ae)
noncomputable def R9(T:Tc)(x:Ak):Aj:=match T.sc.names.lookup x with
  |some .local=>Aa
  |some .cell=>Aa
  |some .free=>Aa
  |_=>Af
noncomputable def J7(T:Tc)(x:Ak):Aj:=match T.sc.names.lookup x with
  |some .local=>Aa
  |some .cell=>Aa
  |_=>Af
noncomputable def glB(T:Tc)(x:Ak):Aj:=T.sc.names.lookup x==Ab .globalImplicit
noncomputable def HZ(x:Ak):Aj:=!(x==("__debug__" : Ak)) && !(x==("__classdict__" : Ak)) && !(x==("__name__" : Ak))
noncomputable def isV(T:Tc)(x:Ak)(i:Ae):Aj:=T.N[i]? == Ab x&&R9 T x&&HZ x
noncomputable def isB(T:Tc)(x:Ak):Aj:=T.bl.contains x&&glB T x&&HZ x
theorem CQ{a b:Aj}(h:(a&&b)=Aa):a=Aa/\b=Aa:=(Am a b).mp h
theorem orT{a b:Aj}(h:(a||b)=Aa):a=Aa\/b=Aa:=(C1 a b).mp h
noncomputable def GS(e:An)(F:Ak->Aj):Aj:=if c:e.ctorIdx=23 then Zm (motive_1:=λ_=>Aj) e c λx _=>F x else Af
theorem Hd{e:An}{F:Ak->Aj}(h:GS e F=Aa):∃ x p,e=Zl x p/\F x=Aa:=by
 by_cases c:e.ctorIdx=23
 .exact Zm (motive_1:=λe=>GS e F=Aa->∃ x p,e=Zl x p/\F x=Aa) e c (λx p h=>⟨x,p,rfl,h⟩) h
 .exact noF ((Cn c).symm.trans h)
noncomputable def Jo(e:An)(F:Const->Aj):Aj:=if c:e.ctorIdx=19 then Ze (motive_1:=λ_=>Aj) e c λc _ _=>F c else Af
theorem La{e:An}{F:Const->Aj}(h:Jo e F=Aa):∃ c u p,e=Zd c u p/\F c=Aa:=by
 by_cases c:e.ctorIdx=19
 .exact Ze (motive_1:=λe=>Jo e F=Aa->∃ c u p,e=Zd c u p/\F c=Aa) e c (λc u p h=>⟨c,u,p,rfl,h⟩) h
 .exact noF ((Cn c).symm.trans h)
noncomputable def ON(e:An)(F:An->F3->An->Aj):Aj:=if c:e.ctorIdx=2 then Y_6 (motive_1:=λ_=>Aj) e c λx o y _=>F x o y else Af
theorem UO{e:An}{F:An->F3->An->Aj}(h:ON e F=Aa):∃ x o y p,e=Y_5 x o y p/\F x o y=Aa:=by
 by_cases c:e.ctorIdx=2
 .exact Y_6 (motive_1:=λe=>ON e F=Aa->∃ x o y p,e=Y_5 x o y p/\F x o y=Aa) e c (λx o y p h=>⟨x,o,y,p,rfl,h⟩) h
 .exact noF ((Cn c).symm.trans h)
noncomputable def Lr(e:An)(F:KQ->An->Aj):Aj:=if c:e.ctorIdx=3 then Zs (motive_1:=λ_=>Aj) e c λo x _=>F o x else Af
theorem Oe{e:An}{F:KQ->An->Aj}(h:Lr e F=Aa):∃ o x p,e=Zr o x p/\F o x=Aa:=by
 by_cases c:e.ctorIdx=3
 .exact Zs (motive_1:=λe=>Lr e F=Aa->∃ o x p,e=Zr o x p/\F o x=Aa) e c (λo x p h=>⟨o,x,p,rfl,h⟩) h
 .exact noF ((Cn c).symm.trans h)
noncomputable def KM(e:An)(F:BoolOp->Ac An->AY->Aj):Aj:=if c:e.ctorIdx=0 then Y_8 (motive_1:=λ_=>Aj) e c λo xs p=>F o xs p else Af
theorem M7{e:An}{F:BoolOp->Ac An->AY->Aj}(h:KM e F=Aa):∃ o xs p,e=Y_7 o xs p/\F o xs p=Aa:=by
 by_cases c:e.ctorIdx=0
 .exact Y_8 (motive_1:=λe=>KM e F=Aa->∃ o xs p,e=Y_7 o xs p/\F o xs p=Aa) e c (λo xs p h=>⟨o,xs,p,rfl,h⟩) h
 .exact noF ((Cn c).symm.trans h)
noncomputable def Nx(e:An)(F:An->Ac DW->Ac An->Aj):Aj:=if c:e.ctorIdx=15 then Zc (motive_1:=λ_=>Aj) e c λx os ys _=>F x os ys else Af
theorem UM{e:An}{F:An->Ac DW->Ac An->Aj}(h:Nx e F=Aa):∃ x os ys p,e=Zb x os ys p/\F x os ys=Aa:=by
 by_cases c:e.ctorIdx=15
 .exact Zc (motive_1:=λe=>Nx e F=Aa->∃ x os ys p,e=Zb x os ys p/\F x os ys=Aa) e c (λx os ys p h=>⟨x,os,ys,p,rfl,h⟩) h
 .exact noF ((Cn c).symm.trans h)
noncomputable def Ry(e:An)(F:An->An->An->Aj):Aj:=if c:e.ctorIdx=5 then Zg (motive_1:=λ_=>Aj) e c λt x y _=>F t x y else Af
theorem iX{e:An}{F:An->An->An->Aj}(h:Ry e F=Aa):∃ t x y p,e=Zf t x y p/\F t x y=Aa:=by
 by_cases c:e.ctorIdx=5
 .exact Zg (motive_1:=λe=>Ry e F=Aa->∃ t x y p,e=Zf t x y p/\F t x y=Aa) e c (λt x y p h=>⟨t,x,y,p,rfl,h⟩) h
 .exact noF ((Cn c).symm.trans h)
noncomputable def Ms(e:An)(F:An->Ac An->Ac Ey->AY->Aj):Aj:=if c:e.ctorIdx=16 then Za (motive_1:=λ_=>Aj) e c λf as ks p=>F f as ks p else Af
theorem Qe{e:An}{F:An->Ac An->Ac Ey->AY->Aj}(h:Ms e F=Aa):∃ f as ks p,e=Y_9 f as ks p/\F f as ks p=Aa:=by
 by_cases c:e.ctorIdx=16
 .exact Za (motive_1:=λe=>Ms e F=Aa->∃ f as ks p,e=Y_9 f as ks p/\F f as ks p=Aa) e c (λf as ks p h=>⟨f,as,ks,p,rfl,h⟩) h
 .exact noF ((Cn c).symm.trans h)
noncomputable def Mu(e:An)(F:An->Ak->AY->Aj):Aj:=if c:e.ctorIdx=20 then Y_4 (motive_1:=λ_=>Aj) e c λo m p=>F o m p else Af
theorem Qo{e:An}{F:An->Ak->AY->Aj}(h:Mu e F=Aa):∃ o m p,e=Y_3 o m p/\F o m p=Aa:=by
 by_cases c:e.ctorIdx=20
 .exact Y_4 (motive_1:=λe=>Mu e F=Aa->∃ o m p,e=Y_3 o m p/\F o m p=Aa) e c (λo m p h=>⟨o,m,p,rfl,h⟩) h
 .exact noF ((Cn c).symm.trans h)
noncomputable def Rt(e:An)(F:An->An->Aj):Aj:=if c:e.ctorIdx=21 then Zo (motive_1:=λ_=>Aj) e c λx y _=>F x y else Af
theorem iT{e:An}{F:An->An->Aj}(h:Rt e F=Aa):∃ x y p,e=Zn x y p/\F x y=Aa:=by
 by_cases c:e.ctorIdx=21
 .exact Zo (motive_1:=λe=>Rt e F=Aa->∃ x y p,e=Zn x y p/\F x y=Aa) e c (λx y p h=>⟨x,y,p,rfl,h⟩) h
 .exact noF ((Cn c).symm.trans h)
noncomputable def Mq(e:An)(F:Ac An->Aj):Aj:=if c:e.ctorIdx=25 then Zq (motive_1:=λ_=>Aj) e c λxs _ _=>F xs else Af
theorem N8{e:An}{F:Ac An->Aj}(h:Mq e F=Aa):∃ xs c p,e=Zp xs c p/\F xs=Aa:=by
 by_cases c:e.ctorIdx=25
 .exact Zq (motive_1:=λe=>Mq e F=Aa->∃ xs c p,e=Zp xs c p/\F xs=Aa) e c (λxs c p h=>⟨xs,c,p,rfl,h⟩) h
 .exact noF ((Cn c).symm.trans h)
noncomputable def OI(e:An)(F:Ac An->Aj):Aj:=if c:e.ctorIdx=24 then Zi (motive_1:=λ_=>Aj) e c λxs _=>F xs else Af
theorem Qc{e:An}{F:Ac An->Aj}(h:OI e F=Aa):∃ xs p,e=Zh xs p/\F xs=Aa:=by
 by_cases c:e.ctorIdx=24
 .exact Zi (motive_1:=λe=>OI e F=Aa->∃ xs p,e=Zh xs p/\F xs=Aa) e c (λxs p h=>⟨xs,p,rfl,h⟩) h
 .exact noF ((Cn c).symm.trans h)
noncomputable def Rx(e:An)(F:An->Ac Kd->Cr->Aj):Aj:=if c:e.ctorIdx=8 then Zk (motive_1:=λ_=>Aj) e c λx gs sc _=>F x gs sc else Af
theorem iW{e:An}{F:An->Ac Kd->Cr->Aj}(h:Rx e F=Aa):∃ x gs sc p,e=Zj x gs sc p/\F x gs sc=Aa:=by
 by_cases c:e.ctorIdx=8
 .exact Zk (motive_1:=λe=>Rx e F=Aa->∃ x gs sc p,e=Zj x gs sc p/\F x gs sc=Aa) e c (λx gs sc p h=>⟨x,gs,sc,p,rfl,h⟩) h
 .exact noF ((Cn c).symm.trans h)
noncomputable def Ro(e:A7)(F:Ac An->An->Aj):Aj:=if c:e.ctorIdx=5 then ZZ (motive_2:=λ_=>Aj) e c λts v _=>F ts v else Af
theorem jB{e:A7}{F:Ac An->An->Aj}(h:Ro e F=Aa):∃ ts v p,e=ZY ts v p/\F ts v=Aa:=by
 by_cases c:e.ctorIdx=5
 .exact ZZ (motive_2:=λe=>Ro e F=Aa->∃ ts v p,e=ZY ts v p/\F ts v=Aa) e c (λts v p h=>⟨ts,v,p,rfl,h⟩) h
 .exact noF ((Cn c).symm.trans h)
noncomputable def Mr(e:A7)(F:An->Aj):Aj:=if c:e.ctorIdx=24 then Z_1 (motive_2:=λ_=>Aj) e c λv _=>F v else Af
theorem Qd{e:A7}{F:An->Aj}(h:Mr e F=Aa):∃ v p,e=Z_0 v p/\F v=Aa:=by
 by_cases c:e.ctorIdx=24
 .exact Z_1 (motive_2:=λe=>Mr e F=Aa->∃ v p,e=Z_0 v p/\F v=Aa) e c (λv p h=>⟨v,p,rfl,h⟩) h
 .exact noF ((Cn c).symm.trans h)
noncomputable def Rv(e:A7)(F:Ao An->Aj):Aj:=if c:e.ctorIdx=3 then Z_8 (motive_2:=λ_=>Aj) e c λo _=>F o else Af
theorem iU{e:A7}{F:Ao An->Aj}(h:Rv e F=Aa):∃ o p,e=Z_7 o p/\F o=Aa:=by
 by_cases c:e.ctorIdx=3
 .exact Z_8 (motive_2:=λe=>Rv e F=Aa->∃ o p,e=Z_7 o p/\F o=Aa) e c (λo p h=>⟨o,p,rfl,h⟩) h
 .exact noF ((Cn c).symm.trans h)
noncomputable def NI(e:A7)(F:An->Ac A7->Ac A7->Aj):Aj:=if c:e.ctorIdx=12 then Z_4 (motive_2:=λ_=>Aj) e c λt xs ys _=>F t xs ys else Af
theorem QJ{e:A7}{F:An->Ac A7->Ac A7->Aj}(h:NI e F=Aa):∃ t xs ys p,e=Stmt.If t xs ys p/\F t xs ys=Aa:=by
 by_cases c:e.ctorIdx=12
 .exact Z_4 (motive_2:=λe=>NI e F=Aa->∃ t xs ys p,e=Stmt.If t xs ys p/\F t xs ys=Aa) e c (λt xs ys p h=>⟨t,xs,ys,p,rfl,h⟩) h
 .exact noF ((Cn c).symm.trans h)
noncomputable def OJ(e:A7)(F:An->An->Ac A7->Ac A7->Aj):Aj:=if c:e.ctorIdx=9 then Z_2 (motive_2:=λ_=>Aj) e c λt it xs ys _=>F t it xs ys else Af
theorem UL{e:A7}{F:An->An->Ac A7->Ac A7->Aj}(h:OJ e F=Aa):∃ t it xs ys p,e=Stmt.For t it xs ys p/\F t it xs ys=Aa:=by
 by_cases c:e.ctorIdx=9
 .exact Z_2 (motive_2:=λe=>OJ e F=Aa->∃ t it xs ys p,e=Stmt.For t it xs ys p/\F t it xs ys=Aa) e c (λt it xs ys p h=>⟨t,it,xs,ys,p,rfl,h⟩) h
 .exact noF ((Cn c).symm.trans h)
noncomputable def OH(e:A7)(F:Ao An->Ao An->Aj):Aj:=if c:e.ctorIdx=16 then Z_6 (motive_2:=λ_=>Aj) e c λa b _=>F a b else Af
theorem iV{e:A7}{F:Ao An->Ao An->Aj}(h:OH e F=Aa):∃ a b p,e=Z_5 a b p/\F a b=Aa:=by
 by_cases c:e.ctorIdx=16
 .exact Z_6 (motive_2:=λe=>OH e F=Aa->∃ a b p,e=Z_5 a b p/\F a b=Aa) e c (λa b p h=>⟨a,b,p,rfl,h⟩) h
 .exact noF ((Cn c).symm.trans h)
noncomputable def Jj{α:Type}:Ac α->(α->Ac α->Aj)->Aj
 |[],_=>Af
 |x::xs,F=>F x xs
theorem JW{l:Ac α}{F:α->Ac α->Aj}(h:Jj l F=Aa):∃ x xs,l=x::xs/\F x xs=Aa:=by
 cases l with
 |nil=>exact noF h
 |cons x xs=>exact⟨x,xs,rfl,h⟩
theorem Jk{l:Ac α}(h:l.isEmpty=Aa):l=[]:=List.isEmpty_iff.mp h
noncomputable def FO{α:Type}(l:Ac α)(F:α->Aj):Aj:=Jj l λx r=>r.isEmpty&&F x
theorem GQ{l:Ac α}{F:α->Aj}(h:FO l F=Aa):∃ x,l=[x]/\F x=Aa:=by
 obtain⟨x,r,rfl,h⟩:=JW h;obtain⟨h1,h2⟩:=CQ h;exact⟨x,by rw[Jk h1],h2⟩
noncomputable def Jn{α:Type}(l:Ac α)(F:α->α->Aj):Aj:=Jj l λx r=>FO r λy=>F x y
theorem K9{l:Ac α}{F:α->α->Aj}(h:Jn l F=Aa):∃ x y,l=[x,y]/\F x y=Aa:=by
 obtain⟨x,r,rfl,h⟩:=JW h;obtain⟨y,rfl,h⟩:=GQ h;exact⟨x,y,rfl,h⟩
noncomputable def WS{α:Type}(l:Ac α)(F:α->α->α->Aj):Aj:=Jj l λx r=>Jn r λy z=>F x y z
theorem iS{l:Ac α}{F:α->α->α->Aj}(h:WS l F=Aa):∃ x y z,l=[x,y,z]/\F x y z=Aa:=by
 obtain⟨x,r,rfl,h⟩:=JW h;obtain⟨y,z,rfl,h⟩:=K9 h;exact⟨x,y,z,rfl,h⟩
noncomputable def KJ(e:An)(F:Ak->Ac An->Aj):Aj:=Ms e λf as ks _=>GS f λg=>ks.isEmpty&&F g as
theorem Lb{e:An}{F:Ak->Ac An->Aj}(h:KJ e F=Aa):∃ g p as q,e=.Call (.Name g p) as [] q/\F g as=Aa:=by
 obtain⟨f,as,ks,q,rfl,h⟩:=Qe h;obtain⟨g,p,rfl,h⟩:=Hd h;obtain⟨h1,h2⟩:=CQ h;exact⟨g,p,as,q,by rw[Jk h1],h2⟩
noncomputable def Nn(e:An)(F:Ak->An->Ac An->Aj):Aj:=KJ e λg l=>Jj l λx xs=>F g x xs
theorem NY{e:An}{F:Ak->An->Ac An->Aj}(h:Nn e F=Aa):∃ g p x xs q,e=.Call (.Name g p) (x::xs) [] q/\F g x xs=Aa:=by
 obtain⟨g,p,as,q,rfl,h⟩:=Lb h;obtain⟨x,xs,rfl,h⟩:=JW h;exact⟨g,p,x,xs,q,rfl,h⟩
noncomputable def Rw(st:A7)(F:Ak->Ak->Ac An->Aj):Aj:=Mr st λe=>Ms e λf as ks cp=>Mu f λo m ap=>GS o λx=>ks.isEmpty&&(ap.endLine==cp.line&&F x m as)
theorem UK{st:A7}{F:Ak->Ak->Ac An->Aj}(h:Rw st F=Aa):∃ x p m ap as cp q,st=.Expr (.Call (.Attribute (.Name x p) m ap) as [] cp) q/\ap.endLine=cp.line/\F x m as=Aa:=by
 obtain⟨e,q,rfl,h⟩:=Qd h;obtain⟨f,as,ks,cp,rfl,h⟩:=Qe h;obtain⟨o,m,ap,rfl,h⟩:=Qo h;obtain⟨x,p,rfl,h⟩:=Hd h;obtain⟨h1,h⟩:=CQ h;obtain⟨h2,h3⟩:=CQ h;exact⟨x,p,m,ap,as,cp,q,by rw[Jk h1],eq_of_beq h2,h3⟩
noncomputable def WT(st:A7)(F:An->An->Aj):Aj:=Ro st λts v=>FO ts λt=>F t v
theorem jC{st:A7}{F:An->An->Aj}(h:WT st F=Aa):∃ t v q,st=.Assign [t] v q/\F t v=Aa:=by
 obtain⟨ts,v,q,rfl,h⟩:=jB h;obtain⟨t,rfl,h⟩:=GQ h;exact⟨t,v,q,rfl,h⟩
noncomputable def Ny(st:A7)(F:Ak->An->Aj):Aj:=WT st λt v=>GS t λx=>F x v
theorem Qp{st:A7}{F:Ak->An->Aj}(h:Ny st F=Aa):∃ x p v q,st=.Assign [.Name x p] v q/\F x v=Aa:=by
 obtain⟨t,v,q,rfl,h⟩:=jC h;obtain⟨x,p,rfl,h⟩:=Hd h;exact⟨x,p,v,q,rfl,h⟩
noncomputable def Xp(e:An)(F:An->An->An->Ac An->Cr->Aj):Aj:=Rx e λx gs sc=>FO gs λg=>decide (g.is_async=0)&&F x g.target g.iter g.ifs sc
theorem nQ{e:An}{F:An->An->An->Ac An->Cr->Aj}(h:Xp e F=Aa):∃ x t it ifs sc p,e=.ListComp x [⟨t,it,ifs,0⟩] sc p/\F x t it ifs sc=Aa:=by
 obtain⟨x,gs,sc,p,rfl,h⟩:=iW h;obtain⟨g,rfl,h⟩:=GQ h;obtain⟨t,it,ifs,a⟩:=g;obtain⟨h1,h2⟩:=CQ h;have h1:a=0:=AX h1;subst h1;exact⟨x,t,it,ifs,sc,p,rfl,h2⟩
noncomputable def O9(e:E)(F:E->Aj):Aj:=if c:e.ctorIdx=8 then E.no.elim (motive_1:=λ_=>Aj) e c F else Af
theorem nP{e:E}{F:E->Aj}(h:O9 e F=Aa):∃ a,e=E.no a/\F a=Aa:=by
 by_cases c:e.ctorIdx=8
 .exact E.no.elim (motive_1:=λe=>O9 e F=Aa->∃ a,e=E.no a/\F a=Aa) e c (λa h=>⟨a,rfl,h⟩) h
 .exact noF ((Cn c).symm.trans h)
noncomputable def OO(e:E)(F:Es->Aj):Aj:=if c:e.ctorIdx=9 then E.and.elim (motive_1:=λ_=>Aj) e c F else Af
theorem jD{e:E}{F:Es->Aj}(h:OO e F=Aa):∃ es,e=E.and es/\F es=Aa:=by
 by_cases c:e.ctorIdx=9
 .exact E.and.elim (motive_1:=λe=>OO e F=Aa->∃ es,e=E.and es/\F es=Aa) e c (λes h=>⟨es,rfl,h⟩) h
 .exact noF ((Cn c).symm.trans h)
noncomputable def O8(e:E)(F:Es->Aj):Aj:=if c:e.ctorIdx=10 then E.or.elim (motive_1:=λ_=>Aj) e c F else Af
theorem nO{e:E}{F:Es->Aj}(h:O8 e F=Aa):∃ es,e=E.or es/\F es=Aa:=by
 by_cases c:e.ctorIdx=10
 .exact E.or.elim (motive_1:=λe=>O8 e F=Aa->∃ es,e=E.or es/\F es=Aa) e c (λes h=>⟨es,rfl,h⟩) h
 .exact noF ((Cn c).symm.trans h)
noncomputable def OK(e:E)(F:DW->E->E->Aj):Aj:=if c:e.ctorIdx=11 then E.cmp.elim (motive_1:=λ_=>Aj) e c F else Af
theorem iY{e:E}{F:DW->E->E->Aj}(h:OK e F=Aa):∃ o a b,e=E.cmp o a b/\F o a b=Aa:=by
 by_cases c:e.ctorIdx=11
 .exact E.cmp.elim (motive_1:=λe=>OK e F=Aa->∃ o a b,e=E.cmp o a b/\F o a b=Aa) e c (λo a b h=>⟨o,a,b,rfl,h⟩) h
 .exact noF ((Cn c).symm.trans h)
noncomputable def OL(e:E)(F:DW->DW->E->E->E->Aj):Aj:=if c:e.ctorIdx=12 then E.cmp2.elim (motive_1:=λ_=>Aj) e c F else Af
theorem iZ{e:E}{F:DW->DW->E->E->E->Aj}(h:OL e F=Aa):∃ o q a b c,e=E.cmp2 o q a b c/\F o q a b c=Aa:=by
 by_cases c:e.ctorIdx=12
 .exact E.cmp2.elim (motive_1:=λe=>OL e F=Aa->∃ o q a b c,e=E.cmp2 o q a b c/\F o q a b c=Aa) e c (λo q a b c h=>⟨o,q,a,b,c,rfl,h⟩) h
 .exact noF ((Cn c).symm.trans h)
noncomputable def OM(e:E)(F:BI->Es->Aj):Aj:=if c:e.ctorIdx=15 then E.bi.elim (motive_1:=λ_=>Aj) e c F else Af
theorem jA{e:E}{F:BI->Es->Aj}(h:OM e F=Aa):∃ b as,e=E.bi b as/\F b as=Aa:=by
 by_cases c:e.ctorIdx=15
 .exact E.bi.elim (motive_1:=λe=>OM e F=Aa->∃ b as,e=E.bi b as/\F b as=Aa) e c (λb as h=>⟨b,as,rfl,h⟩) h
 .exact noF ((Cn c).symm.trans h)
noncomputable def Sd(e:E)(F:Aj->Aj):Aj:=if c:e.ctorIdx=1 then E.bl.elim (motive_1:=λ_=>Aj) e c F else Af
theorem mP{e:E}{F:Aj->Aj}(h:Sd e F=Aa):∃ b,e=E.bl b/\F b=Aa:=by
 by_cases c:e.ctorIdx=1
 .exact E.bl.elim (motive_1:=λe=>Sd e F=Aa->∃ b,e=E.bl b/\F b=Aa) e c (λb h=>⟨b,rfl,h⟩) h
 .exact noF ((Cn c).symm.trans h)
noncomputable def Nw(e:E)(F:Ae->Aj):Aj:=if c:e.ctorIdx=4 then E.var.elim (motive_1:=λ_=>Aj) e c F else Af
theorem Qb{e:E}{F:Ae->Aj}(h:Nw e F=Aa):∃ i,e=E.var i/\F i=Aa:=by
 by_cases c:e.ctorIdx=4
 .exact E.var.elim (motive_1:=λe=>Nw e F=Aa->∃ i,e=E.var i/\F i=Aa) e c (λi h=>⟨i,rfl,h⟩) h
 .exact noF ((Cn c).symm.trans h)
noncomputable def Mt(e:E)(F:Ae->Es->Aj):Aj:=if c:e.ctorIdx=14 then E.call.elim (motive_1:=λ_=>Aj) e c F else Af
theorem UN{e:E}{F:Ae->Es->Aj}(h:Mt e F=Aa):∃ f as,e=E.call f as/\F f as=Aa:=by
 by_cases c:e.ctorIdx=14
 .exact E.call.elim (motive_1:=λe=>Mt e F=Aa->∃ f as,e=E.call f as/\F f as=Aa) e c (λf as h=>⟨f,as,rfl,h⟩) h
 .exact noF ((Cn c).symm.trans h)
noncomputable def OF(e:E):Aj:=decide (e.ctorIdx=0)
theorem iO{e:E}(h:OF e=Aa):e=.non:=E.non.elim (motive_1:=λe=>e=.non) e (AX h) rfl
noncomputable def DG:An->Aj
 |.Starred _ _=>Af
 |_=>Aa
noncomputable def Vc:An->Aj
 |.Slice _ _ _ _=>Af
 |_=>Aa
noncomputable def OP:An->Aj
 |.Set _ _ _=>Af
 |_=>Aa
noncomputable def Lm:An->Aj
 |.ListComp _ _ _ _=>Af
 |.SetComp _ _ _ _=>Af
 |.DictComp _ _ _ _ _=>Af
 |_=>Aa
noncomputable def W1(tu:Aj):An->Aj
 |.Tuple ..=>tu
 |.Name ..=>!tu
 |_=>Af
noncomputable def zF:An->Aj
 |.Tuple _ _ _=>Aa
 |_=>Af
noncomputable def NX:An->Aj
 |.UnaryOp _ _ _=>Af
 |.BoolOp _ _ _=>Af
 |.IfExp _ _ _ _=>Af
 |.Compare _ _ _ _=>Af
 |_=>Aa
noncomputable def Rr:Ki->Ao Ak
 |.int=>Ab "int"
 |.bool=>Ab "bool"
 |.str=>Ab "str"
 |.list=>Ab "list"
 |.tuple=>Ab "tuple"
 |_=>Ad
noncomputable def Rs:BI->Ao Ak
 |.len=>Ab "len"
 |.abs=>Ad
 |.max=>Ad
 |.min=>Ab "min"
 |.int=>Ab "int"
 |.list=>Ab "list"
 |.tuple=>Ab "tuple"
 |.all=>Ab "all"
 |.any=>Ad
 |.sum=>Ad
 |.sorted=>Ab "sorted"
 |.tmin=>Ad
 |.tmax=>Ad
 |_=>Ad
noncomputable def RA(o scope:Cr):Cr:={scope with names:=scope.names.map λ(n,k)=>if (k==.free&&o.kind==.function&&o.names.lookup n==Ab .cell) then (n,.cell) else (n,k)}
noncomputable def ND:Ac Ae->Ac Ak->Ac Ak->Ac Ak
 |t::ts,x::xs,N=>ND ts xs ((N.map λy=>if y==x then N.getD t x else y).set t x)
 |_,_,N=>N
noncomputable def Nk:Ac Ak->Aj
 |[]=>Aa
 |x::xs=>!xs.contains x&&Nk xs
noncomputable def Pb(T:Tc)(scope:Cr)(ts:Ac Ae)(N':Ac Ak):Aj:=
  scope.kind==.function&&scope.names.all (λy=>scope.names.lookup y.1==Ab y.2) &&
  scope.names.all (λy=>y.2 != .free||T.sc.names.lookup y.1==Ab .cell||T.sc.names.lookup y.1==Ab .free) &&
  N'.length==T.N.length&&Nk N' &&
  (AD N'.length).all λi=>ts.contains i||(match N'[i]? with
    |some x=>(scope.names.lookup x != Ab .local&&scope.names.lookup x != Ab .cell)&&(scope.names.lookup x != Ab .free||T.N[i]? == Ab x)
    | none=>Aa)
noncomputable def IG:Ac An->Ao (Ac Ak)
 |[]=>Ab []
 |.Name x _::r=>(IG r).map (x :: ·)
 |_=>Ad
noncomputable def tgN(ys:Ac An):Ac Ak:=(IG ys).getD []
noncomputable def tgO(T:Tc)(scope:Cr)(t:Ae)(x:Ak):Aj:=T.N[t]? == Ab x&&(T.sc.names.lookup x==Ab .local||(T.sc.names.lookup x==Ab .cell&&scope.names.lookup x==Ab .cell))
noncomputable def tgC(T:Tc):Ac Ae->Ac Ak->Aj
 |[],[]=>Aa
 |t::ts,x::xs=>T.N[t]? == Ab x&&J7 T x&&tgC T ts xs
 |_,_=>Af
noncomputable def Tc.blk(T:Tc)(scope:Cr)(ts:Ac Ae)(xs:Ac Ak):Tc:={T with sc:=RA T.sc scope,N:=ND ts xs T.N}
noncomputable def bY:E->Aj
 |.lst _=>Aa
 |.comp _ _ _ _=>Aa
 |.compT _ _ _ _=>Aa
 |.bin .Add _ _=>Aa
 |.bi .list _=>Aa
 |.sl _ _ _=>Aa
 |_=>Af
noncomputable def zG:E->Aj
 |.call _ _=>Aa
 |_=>Af
noncomputable def O0:E->Ao E
  | .bi b as=>(match b with
    | .list=>(match as with
      | .cons x r=>(match r with
        | .nil=>(match x with
          | .bin op a c=>(match op with
            | .Add=>(match c with
              | .tup es=>(match es with
                |.nil=>Ab a
                | _=>Ad)
              | _=>Ad)
            | _=>Ad)
          | _=>Ad)
        | _=>Ad)
      | .nil=>Ad)
    | _=>Ad)
  |_=>Ad
theorem kR{e a:E}(q:O0 e=Ab a):e=.bi .list (.cons (.bin .Add a (.tup .nil)) .nil):=by
 unfold O0 at q
 repeat' split at q
 all_goals first|cases q;done|skip
 cases q;rfl
noncomputable def inX(l:Ac (Ak×Ae))(g:Ak)(c:Ae):Aj:=l.any λp=>p.1==g&&p.2==c
noncomputable def Sk:An->Ao (An×An×AY)
  | .Compare x ops ys p=>(match ops with
    | [.Lt]=>(match ys with
      |[y]=>Ab (x,y,p)
      | _=>Ad)
    | _=>Ad)
  |_=>Ad
noncomputable def RL(_:Es):Ao (E×E):=Ad
noncomputable def RX(_:Tc)(_:Tc->An->E->Aj)(_:An)(_:Ac DW)(_:Ac An)(_:BI)(_:Es):Aj:=Af
noncomputable def W5(T:Tc)(e:An)(b:BI)(as:Es):Aj:=Af
noncomputable def Re:An->Ao (Ak×AY)
 |.Name x p=>Ab (x,p)
 |_=>Ad
theorem T4{e:An}{t:Ak×AY}(q:Re e=Ab t):e=.Name t.1 t.2:=by
 cases e with
 |Name x p=>cases q;rfl
 |_=>cases q
noncomputable def Rg:An->Ao (An×Ac An×Ac Ey×AY)
 |.Call f as ks p=>Ab (f,as,ks,p)
 |_=>Ad
theorem T6{e:An}{t:An×Ac An×Ac Ey×AY}(q:Rg e=Ab t):e=.Call t.1 t.2.1 t.2.2.1 t.2.2.2:=by
 cases e with
 |Call f as ks p=>cases q;rfl
 |_=>cases q
noncomputable def bb:An->Ao (Ac An×Ae×AY)
 |.Tuple es k p=>Ab (es,k,p)
 |_=>Ad
noncomputable def one{α:Type}:Ac α->Ao α
 |[a]=>Ab a
 |_=>Ad
theorem vF{l:Ac α}{a:α}(q:one l=Ab a):l=[a]:=by
  match l,q with
  |[b],q=>cases q;rfl
noncomputable def O4(e:An):Ao (Ak×Ak×Ac An):=(Rg e).bind λc=>(Re c.1).bind λg=>(one c.2.1).bind λa=>(Rg a).bind λd=>(Re d.1).bind λh=>if (c.2.2.1.isEmpty&&d.2.2.1.isEmpty)=Aa then Ab (g.1,h.1,d.2.1) else Ad
theorem pW{e:An}{h:Ak}{bs:Ac An}(q:O4 e=Ab (g,h,bs)):∃ p p' pos pos',e=.Call (.Name g p) [.Call (.Name h p') bs [] pos'] [] pos:=by
 obtain⟨⟨f,as,ks,pos⟩,e1,q⟩:=Ds.mp q;obtain⟨⟨g',p⟩,e2,q⟩:=Ds.mp q;obtain⟨a,e3,q⟩:=Ds.mp q;obtain⟨⟨f',bs',ks',pos'⟩,e4,q⟩:=Ds.mp q;obtain⟨⟨h',p'⟩,e5,q⟩:=Ds.mp q;by_cases hk:(ks.isEmpty&&ks'.isEmpty)=Aa
 .rw[Ar hk]at q;cases q;rw[Am,Iw,Iw]at hk;obtain⟨rfl,rfl⟩:=hk;have x1:=T6 e1;have x2:=T4 e2;have x3:=vF e3;have x4:=T6 e4;have x5:=T4 e5;dsimp only at x1 x2 x3 x4 x5;subst x1 x2 x3 x4 x5;exact⟨_,_,_,_,rfl⟩
 .rw[As hk]at q;cases q
noncomputable def W9(e:An):Ao (Ak×Ak×An×An):=match O4 e with
  | some (g,h,bs)=>(match bs with
    |[x,y]=>Ab (g,h,x,y)
    | _=>Ad)
  |none=>Ad
noncomputable def RO(_:Es):Ao (E×E):=Ad
noncomputable def Jt(e:An):Ao (Ak×Ak×An):=match O4 e with
  | some (g,h,bs)=>(match bs with
    |[x]=>Ab (g,h,x)
    | _=>Ad)
  |none=>Ad
theorem U_3{e:An}{h:Ak}{x:An}(q:Jt e=Ab (g,h,x)):∃ p p' pos pos',e=.Call (.Name g p) [.Call (.Name h p') [x] [] pos'] [] pos:=by
  unfold Jt at q;cases c:O4 e with
  |none=>rw[c]at q;cases q
  |some t=>
    obtain⟨g',h',bs⟩:=t;rw[c]at q
    match bs,q,c with
    |[a],q,c=>cases q;exact pW c
noncomputable def Pc:Es->Ao (Ak×E)
  | .cons a r=>(match a with
    | .str s=>(match r with
      | .cons b r'=>(match r' with
        | .nil=>(match b with
          |.var _=>Ad
          | b=>Ab (s,b))
        | _=>Ad)
      | _=>Ad)
    | _=>Ad)
  |.nil=>Ad
theorem rO{s:Ak}{a:E}(q:Pc as=Ab (s,a)):as=.cons (.str s) (.cons a .nil)/\∀ U r,top U a r=r:=by
 cases as with
 |nil=>cases q
 |cons a r=>
  cases a with
  |str s=>
   cases r with
   |nil=>cases q
   |cons b r'=>
    cases r' with
    |nil=>cases b<;>first|(cases q;exact⟨rfl,λ_ _=>rfl⟩)|cases q
    |cons=>cases q
  |_=>cases q
noncomputable def NA:Es->Ao E
  | .cons a r=>(match r with
    |.nil=>Ab a
    | _=>Ad)
  |.nil=>Ad
theorem kQ{a:E}(q:NA as=Ab a):as=.cons a .nil:=by
 unfold NA at q;split at q
 .split at q
  .cases q;rfl
  .cases q
 .cases q
noncomputable def RN(_:Es):Ao E:=Ad
noncomputable def two(e:An):Ao (An×An):=(bb e).bind λt=>match t.1 with
  |[a,b]=>Ab (a,b)
  |_=>Ad
noncomputable def Sg(_:Es):Ao E:=Ad
noncomputable def Xi(_:An):Ao An:=Ad
noncomputable def Xe:An->Ao (An×Ag)
  | .Subscript v s _=>(match s with
    | .Slice lo hi st _=>(match lo with
      | some (.Constant (.int k) _ _)=>(match hi with
        | none=>(match st with
          |some (.Constant (.int j) _ _)=>if j=2 then Ab (v,k) else Ad
          | _=>Ad)
        | some _=>Ad)
      | _=>Ad)
    | _=>Ad)
  |_=>Ad
noncomputable def RM(_:Es):Ao (E×Ag):=Ad
mutual
noncomputable def Bp:Ae->Tc->An->E->Aj
  |0,_,_,_=>Af
  |n+1,T,e,c=>match c with
    |.non=>Jo e λc=>decide (c=.none)
    |.bl b=>Jo e λc=>decide (c=.bool b)
    |.int i=>Jo e λc=>decide (c=.int i)
    |.str x=>Jo e λc=>decide (c=.str x)
    |.var i=>GS e λx=>isV T x i
    |.glob g=>Af
    |.bin op a b=>ON e λx op' y=>decide (op'=op)&&Bp n T x a&&Bp n T y b
    |.un op a=>Lr e λo x=>decide (o=.USub)&&(decide (op=.USub)&&Bp n T x a)
    |.no a=>Lr e λo x=>decide (o=.Not)&&Bp n T x a
    |.and es=>KM e λo xs _=>decide (o=.And)&&(chkEs n T xs es && !xs.isEmpty)
    |.or es=>KM e λo xs _=>decide (o=.Or)&&(chkEs n T xs es && !xs.isEmpty)
    |.cmp op a b=>Nx e λx os ys=>FO os λop'=>FO ys λy=>decide (op'=op) && !behindInMarks op y&&Bp n T x a&&Bp n T y b
    |.cmp2 op1 op2 a b c=>Af
    |.ite c a b=>Ry e λt x y=>chkB n T t c&&Bp n T x a&&Bp n T y b
    |.call f as=>Nn e λg x xs=>(T.fns.any λp=>p.1==g&&p.2.1==f&&p.2.2==xs.length+1)&&decide (xs.length<900)&&glB T g&&HZ g&&chkEs n T (x::xs) as
    |.bi b as=>(Nn e λg x xs=>Rs b==Ab g&&isB T g&&chkEs n T (x::xs) as)||W5 T e b as||(match RO as with|some (a,c)=>(match W9 e with|some (g,h,x,y)=>decide (b=.list)&&g==("list" : Ak)&&h==("range" : Ak)&&isB T g&&isB T h&&DG x&&DG y&&Bp n T x a&&Bp n T y c|none=>Af)|none=>Af)||(match RM as with|some (a,k)=>(match Xe e with|some (x,j)=>decide (b=.stp)&&decide (j=k)&&decide (0<=k)&&Bp n T x a|none=>Af)|none=>Af)||(match RN as with|some a=>(match Jt e with|some (g,h,x)=>decide (b=.lset)&&g==("len" : Ak)&&h==("set" : Ak)&&isB T g&&isB T h&&DG x&&Bp n T x a|none=>Af)|none=>Af)||(match NA as with|some a=>(match Jt e with|some (g,h,x)=>decide (b=.sset)&&g==("sorted" : Ak)&&h==("set" : Ak)&&isB T g&&isB T h&&DG x&&Bp n T x a|none=>Af)|none=>Af)||(match RL as with|some (a,c)=>(match Sk e with|some (x,y,_)=>decide (b=.tlt) && !behindInMarks .Lt y&&Bp n T x a&&Bp n T y c|none=>Af)|none=>Af)||(match Pc as with|some (s,a)=>Ms e λf l ks cp=>ks.isEmpty&&(Mu f λo m ap=>m==("join" : Ak)&&ap.endLine==cp.line&&(Jo o λc=>decide (c=.str s)&&decide (b=.sjoin)&&(FO l λy=>DG y&&Bp n T y a)))|none=>Af)||(match Sg as with|some a=>(match Xi e with|some x=>decide (b=.rvs)&&Bp n T x a|none=>Af)|none=>Af)
    |.isi a ks=>FO ks λk=>KJ e λg l=>Jn l λx t=>GS t λt=>g==("isinstance" : Ak)&&isB T g&&Rr k==Ab t&&isB T t&&DG x&&Bp n T x a
    |.idx a i=>Rt e λx y=>Vc y&&Bp n T x a&&Bp n T y i
    |.sl a lo hi=>Af
    |.tup es=>Mq e λxs=>chkEs n T xs es&&decide (xs.length<=1000)
    |.lst es=>OI e λxs=>chkEs n T xs es&&decide (xs.length<=1000)
    |.comp elt t it c=>Xp e λx tg iter ifs scope=>GS tg λy=>chkI n T Af iter it&&OP iter&&Pb T scope [t] (ND [t] [y] T.N)&&tgO (T.blk scope [t] [y]) scope t y&&chkT n (T.blk scope [t] [y]) ifs c&&Bp n (T.blk scope [t] [y]) x elt
    |.compT elt ts it c=>Af
    |.tupI _=>Af
    |.dnew=>Af
    |.fld _ _=>Af
noncomputable def chkB:Ae->Tc->An->E->Aj
 |0,_,_,_=>Af
 |n+1,T,e,c=>(Lr e λo x=>decide (o=.Not)&&(O9 c λa=>chkB n T x a)) ||
  (KM e λo xs _=>(decide (o=.And)&&(OO c λes=>chkBs n T xs es && !xs.isEmpty))||(decide (o=.Or)&&(O8 c λes=>chkBs n T xs es && !xs.isEmpty))) ||
  (Nx e λx os ys=>(OK c λop a b=>FO os λop'=>FO ys λy=>decide (op'=op) && !behindInMarks op y&&Bp n T x a&&Bp n T y b) ||
   (OL c λop1 op2 a b c=>Jn os λo1 o2=>Jn ys λy z=>decide (o1=op1)&&decide (o2=op2) && !lastMarks [op1,op2] [y,z]&&Bp n T x a&&Bp n T y b&&Bp n T z c) ||
   (OM c λb as=>RX T (Bp n) x os ys b as)) ||
  NX e&&Bp n T e c
noncomputable def chkBs:Ae->Tc->Ac An->Es->Aj
  |0,_,_,_=>Af
  |n+1,T,xs,es=>match xs,es with
    |[],.nil=>Aa
    |x::xs,.cons e es=>chkB n T x e&&chkBs n T xs es
    |_,_=>Af
noncomputable def chkEs:Ae->Tc->Ac An->Es->Aj
  |0,_,_,_=>Af
  |n+1,T,xs,es=>match xs,es with
    |[],.nil=>Aa
    |x::xs,.cons e es=>DG x&&Bp n T x e&&chkEs n T xs es
    |_,_=>Af
noncomputable def W6:Ae->Tc->Ao An->E->Aj
  |0,_,_,_=>Af
  |n+1,T,x,e=>match x with
    |none=>OF e
    |some x=>!(OF e)&&Bp n T x e
noncomputable def chkT:Ae->Tc->Ac An->E->Aj
  |0,_,_,_=>Af
  |n+1,T,xs,e=>match xs with
    |[]=>Sd e λb=>b
    |x::r=>r.isEmpty&&chkB n T x e
noncomputable def chkI:Ae->Tc->Aj->An->I->Aj
  |0,_,_,_,_=>Af
  |n+1,T,tu,e,i=>match i with
    |.e a=>Bp n T e a
    |.rng a=>KJ e λg l=>FO l λx=>g==("range" : Ak)&&isB T g&&DG x&&Bp n T x a
    |.enm a=>Af
    |.zip a b=>KJ e λg l=>Jn l λx y=>tu&&g==("zip" : Ak)&&isB T g&&DG x&&DG y&&Bp n T x a&&Bp n T y b
    |.rng2 a b=>KJ e λg l=>Jn l λx y=>g==("range" : Ak)&&isB T g&&DG x&&DG y&&Bp n T x a&&Bp n T y b
    |.rrv a=>(match Jt e with|some (g,h,x)=>g==("reversed" : Ak)&&h==("range" : Ak)&&isB T g&&isB T h&&DG x&&Bp n T x a|none=>Af)
    |.rng3 a b c=>KJ e λg l=>WS l λx y z=>g==("range" : Ak)&&isB T g&&DG x&&DG y&&DG z&&Bp n T x a&&Bp n T y b&&Bp n T z c
    |.zip3 a b c=>Af
end
noncomputable def RV:E->E->Aj
 |.var _,.int _=>Aa
 |_,_=>Af
noncomputable def Xg:F3->Aj
 |.Sub=>Aa
 |_=>Af
noncomputable def O6:E->Aj
 |.idx a b=>RV a b
 |.bin op a b=>Xg op&&RV a b
 |.var _=>Aa
 |.int _=>Aa
 |.bl _=>Aa
 |.str _=>Aa
 |.non=>Aa
 |_=>Af
noncomputable def KH:Es->Aj
 |.nil=>Aa
 |.cons e es=>O6 e&&KH es
noncomputable def R7:An->Ao (Ak×AY)
 |.Name x p=>Ab (x,p)
 |_=>Ad
theorem mK{e:An}{t:Ak×AY}(h:R7 e=Ab t):e=.Name t.1 t.2:=by
 cases e with
 |Name x p=>cases h;rfl
 |_=>exact nomatch (show Ad=Ab t from h)
noncomputable def xHd:FT->Ao (Ak×Ak×A7×Ac A7)
  | .ExceptHandler ty nm b _=>(match nm,b,ty with
    |some m,h0::hs,Ab e=>(R7 e).bind λg=>Ab (g.1,m,h0,hs)
    | _,_,_=>Ad)
theorem rA{h:FT}{m:Ak}(q:xHd h=Ab (g,m,h0,hs)):∃ p r,h=.ExceptHandler (Ab (.Name g p)) (Ab m) (h0::hs) r:=by
 obtain⟨ty,nm,b,r⟩:=h;cases nm with
 |none=>cases ty<;>cases b<;>exact nomatch (show Ad=Ab (g,m,h0,hs) from q)
 |some m'=>
  cases b with
  |nil=>cases ty<;>exact nomatch (show Ad=Ab (g,m,h0,hs) from q)
  |cons h0' hs'=>
   cases ty with
   |none=>exact nomatch (show Ad=Ab (g,m,h0,hs) from q)
   |some e=>
    obtain⟨g',e1,q⟩:=Ds.mp (show ((R7 e).bind λg=>Ab (g.1,m',h0',hs'))=Ab (g,m,h0,hs) from q)
    cases q;rw[mK e1];exact⟨_,_,rfl⟩
noncomputable def R6:A7->Ao (A7×Ac FT×Ac A7)
  | .Try b hs es fs _=>(match b,fs with
    |[bt],[]=>Ab (bt,hs,es)
    | _,_=>Ad)
  |_=>Ad
theorem mJ{st bt:A7}{hs:Ac FT}{es:Ac A7}(q:R6 st=Ab (bt,hs,es)):∃ p,st=.Try [bt] hs es [] p:=by
 cases st with
 |Try b h e f p=>
  cases b with
  |nil=>cases f<;>exact nomatch (show Ad=Ab (bt,hs,es) from q)
  |cons x b=>
   cases b with
   |cons=>cases f<;>exact nomatch (show Ad=Ab (bt,hs,es) from q)
   |nil=>
    cases f with
    |nil=>cases q;exact⟨_,rfl⟩
    |cons=>exact nomatch (show Ad=Ab (bt,hs,es) from q)
 |_=>exact nomatch (show Ad=Ab (bt,hs,es) from q)
noncomputable def Xq(e:An)(F:Ak->Ak->An->Aj):Aj:=KJ e λg l=>Jn l λa t=>GS a λv=>F g v t
theorem mO{e:An}{F:Ak->Ak->An->Aj}(h:Xq e F=Aa):∃ g p v q t r,e=.Call (.Name g p) [.Name v q,t] [] r/\F g v t=Aa:=by
 obtain⟨g,p,l,r,rfl,h⟩:=Lb h;obtain⟨a,t,rfl,h⟩:=K9 h;obtain⟨v,q,rfl,h⟩:=Hd h;exact⟨g,p,v,q,t,r,rfl,h⟩
noncomputable def RH(T:Tc):Ac An->Ac Ki->Aj
  |[],ks=>ks.isEmpty
  | e::r,ks=>Jj ks λk ks=>GS e λt=>(match k with
    |.cls c=>inX T.exs t c&&glB T t&&HZ t
    | _=>Af)&&RH T r ks
noncomputable def Nz(f:An->E->Aj):Ac An->Es->Aj
 |[],.nil=>Aa
 |x::xs,.cons e es=>DG x&&f x e&&Nz f xs es
 |_,_=>Af
noncomputable def ax(T:Tc)(t:An)(ks:Ac Ki):Aj:=Jj ks λk r=>match k with
  |.verr=>r.isEmpty&&(GS t λt=>t==("ValueError" : Ak)&&isB T t)
  | .cls c=>(match r with
    |[]=>GS t λt=>inX T.exs t c&&glB T t&&HZ t
    | k2::r=>Mq t λts=>RH T ts (.cls c::k2::r)&&decide (ts.length<=1000))
  |_=>Af
noncomputable def Jq:Ae->Tc->Ae->An->E->Aj
  |0,_,_,_,_=>Af
  |n+1,T,x,e,c=>match c with
    |.bl b=>Jo e λk=>decide (k=.bool b)
    |.no a=>Lr e λo y=>decide (o=.Not)&&Jq n T x y a
    | .and es=>(match es with
      |.nil=>Af
      | .cons a r=>(match r with
        |.nil=>KM e λo l _=>decide (o=.And)&&(FO l λy=>Jq n T x y a)
        | .cons a' as=>KM e λo l p=>decide (o=.And)&&(Jj l λy l=>Jj l λz zs=>Jq n T x y a&&Jq n T x (.BoolOp .And (z::zs) p) (.and (.cons a' as)))))
    |.isi a ks=>Nw a λi=>Xq e λg v t=>i==x&&g==("isinstance" : Ak)&&isB T g&&isV T v x&&ax T t ks
    |.call _ _=>Af
    |.str s=>Jo e λk=>decide (k=.str s)
    |.lst es=>OI e λxs=>Nz (Jq n T x) xs es&&decide (xs.length<=1000)
    |.tup es=>Mq e λxs=>Nz (Jq n T x) xs es&&decide (xs.length<=1000)
    |.bin op a b=>decide (op=.Add)&&(Nw a λi=>ON e λl o y=>decide (o=.Add)&&(GS l λv=>isV T v i&&Jq n T x y b))
    |.fld o f=>Nw o λi=>Mu e λw g _=>GS w λv=>i==x&&g==f&&(f==("triple" : Ak)||f==("points" : Ak))&&isV T v x
    |_=>Af
noncomputable def cA:E->Aj
 |.lst _=>Aa
 |_=>Af
noncomputable def RB:Ae->Tc->Ae->Ac A7->Ss->Aj
  |0,_,_,_,_=>Af
  |n+1,T,x,sts,ss=>match ss with
    |.nil=>sts.isEmpty
    | .cons s ss=>Jj sts λst r=>(match s with
      |.asg i b e=>Ny st λy v=>T.N[i]? == Ab y&&J7 T y&&Lm v&&Jq n T x v e&&(!b||cA e)
      |.ife _ _ _=>Af
      |.ret _=>Af
      |.app _ _=>Af
      | _=>Af)&&RB n T x r ss
noncomputable def RU:E->Aj
 |.var _=>Aa
 |.cmp _ a b=>O6 a&&O6 b
 |_=>Af
noncomputable def Oq(n:Ae)(T:Tc)(st:A7)(s:S):Aj:=match s with
  |.expr e=>Mt e λf as=>Mr st λv=>Bp n T v (.call f as)&&KH as
  |.asg i b e=>!b&&(Mt e λf as=>Ny st λy v=>T.N[i]? == Ab y&&J7 T y&&Bp n T v (.call f as)&&KH as)
  |_=>Af
noncomputable def Ru:Ss->(S->Aj)->Aj
  |.nil,_=>Af
  | .cons a r,F=>(match r with
    |.nil=>F a
    | .cons _ _=>Af)
theorem UJ{l:Ss}{F:S->Aj}(h:Ru l F=Aa):∃ a,l=.cons a .nil/\F a=Aa:=by
 cases l with
 |nil=>exact noF h
 |cons a r=>
  cases r with
  |nil=>exact⟨a,rfl,h⟩
  |cons=>exact noF h
noncomputable def Wg(f:A7->S->Aj)(n:Ae)(T:Tc)(st:A7):S->Aj
 |.ife c a b=>Ru a λa=>Ru b λb=>NI st λt xs ys=>FO xs λx=>FO ys λy=>chkB n T t c&&RU c&&f x a&&f y b
 |_=>Af
noncomputable def OW:Ae->Ae->Tc->A7->S->Aj
 |0,n,T,st,s=>Oq n T st s
 |m+1,n,T,st,s=>Oq n T st s||Wg (OW m n T) n T st s
noncomputable def bO:E->Aj
  | .bi b as=>(match b,as with
    |.len,.nil=>Aa
    | _,_=>Af)
  |_=>Af
noncomputable def cK:S->Aj
 |.expr e=>bO e
 |_=>Af
noncomputable def O5:Ss->Aj
 |.cons s _=>cK s
 |.nil=>Af
noncomputable def hdB(T:Tc)(g:Ak)(c:Ae):Aj:=inX T.exs g c&&inX T.rzs g c&&glB T g&&HZ g
mutual
noncomputable def NJ:Ae->Tc->A7->S->Aj
  |0,_,_,_=>Af
  |n+1,T,st,s=>match s with
    |.pass=>Af
    |.brk=>Af
    |.cont=>Af
    |.asg i _ e=>Ny st λx v=>T.N[i]? == Ab x&&J7 T x&&Bp n T v e
    |.asgT ts e=>Af
    |.expr e=>Mr st λv=>Lm v&&Bp n T v e
    |.ret e=>Rv st λo=>match o with|some v=>Bp n T v e|none=>Af
    |.retN=>Af
    |.ife c a b=>NI st λt xs ys=>chkB n T t c&&chkSs n T xs a&&chkSs n T ys b
    |.lnd c a b=>NI st λt xs ys=>chkB n T t c&&chkSs n T xs a&&chkSs n T ys b
    |.fors t it body=>OJ st λtg iter xs ys=>ys.isEmpty&&(GS tg λx=>tgC T [t] [x]&&OP iter&&chkI n T Af iter it&&chkSs n T xs body)
    |.forT ts it body=>OJ st λtg iter xs zs=>zs.isEmpty&&(Mq tg λys=>(IG ys).isSome&&tgC T ts (tgN ys)&&OP iter&&chkI n T Aa iter it&&chkSs n T xs body)
    |.whl c body=>Af
    |.rais c as=>!(T.rzs.any λp=>p.2==c)||(OH st λa b=>b.isNone&&(match a with|some e=>Nn e λg x xs=>inX T.rzs g c&&glB T g&&HZ g&&decide (xs.length<=1000)&&chkEs n T (x::xs) as|none=>Af))
    |.tryx bs c x h=>(match bs with | .cons b .nil=>(match R6 st with|some (bt,[h1],[])=>(match xHd h1 with|some (g,m,h0,hs)=>hdB T g c&&T.N[x]? == Ab m&&T.sc.names.lookup m==Ab .local&&OW 6 n T bt b&&RB n T x (h0::hs) h|none=>Af)|_=>Af)|_=>Af)
    |.try2 _ _ _ _ _ _ _=>Af
    |.app i e=>Rw st λx m l=>FO l λv=>m==("append" : Ak)&&isV T x i&&DG v&&Bp n T v e
    |.ext i e=>Rw st λx m l=>FO l λv=>m==("extend" : Ak)&&isV T x i&&DG v&&((bY e||zG e)&&Bp n T v e||(match O0 e with|some a=>Bp n T v a|none=>Af))
    |.rev i=>Af
    |.clr i=>Af
    |.put i k e=>Af
    |.swp _ _ _=>Af
    |.apop _ _ _=>Af
    |.ins i k e=>Af
    |.dput _ _ _=>Af
    |.dsd _ _ _=>Af
    |.rel _=>Af
noncomputable def chkSs:Ae->Tc->Ac A7->Ss->Aj
  |0,_,_,_=>Af
  | n+1,T,sts,ss=>(match ss with
    |.nil=>sts.isEmpty
    |.cons (.rel i) ss=>chkSs n T sts ss
    | .cons s ss=>(match sts with
      |st::r=>NJ n T st s&&chkSs n T r ss
      | []=>Af))||O5 ss
end
noncomputable def Ka(fuel:Ae)(hot:Aj)(fns:Ac (Ak×Ae×Ae))(bl:Ac Ak)(rzs exs gls:Ac (Ak×Ae))(ps N:Ac Ak)(st:A7)(df:Df):Aj:=
  let sc:=Hc st
  sc.kind==.function && !sc.isCoroutine && !sc.isGenerator&&Nk N&&N.take ps.length==ps&&ps.all (λx=>sc.names.lookup x==Ab .local||sc.names.lookup x==Ab .cell)&&sc.names.all (λy=>y.2 != .free)&&N.length==df.n &&
  (match hot with
  |true=>Af
  | false=>chkSs fuel ⟨sc,N,fns,bl,rzs,exs,gls⟩ (Ji st) df.body)
structure XT (up:Ae->Ac Ae) (xn:Ae->Ac D->R Ex) (CL:ClA) (rzs exs:Ac (Ak×Ae)) (K:Fg) (mg:Ak->Ao Ai):Prop where
 xc:∀ c C,CL c=Ab C->XcOk K C
 rz:∀ p∈rzs,∃ C,CL p.2=Ab C/\mg p.1=Ab (.ref C)
 ex:∀ p∈exs,∃ C,mg p.1=Ab (.ref C)/\No K CL up p.2 C/\∀ c D,CL c=Ab D->BR K (.ref D) (.ref C)=Ab ((up c).contains p.2)
 made:∀ c C ds,CL c=Ab C->xn c ds=.bad\/(xn c ds=.ok ⟨c,[]⟩/\EW K C Ad=Aa)\/Ba
 nf:∀ c C,CL c=Ab C->∀ f:Ak,(f==("triple" : Ak)||f==("points" : Ak))=Aa->IL K C=Aa/\Bi K (.ref C) f=Ab Ad
 xb:∀ c,(∀ p∈rzs,p.2≠c)->∀ ds,xn c ds=.bad
def Si(K:Fg)(mg:Ak->Ao Ai)(CL:ClA)(x:Ak)(d:D):Prop:=∃ u v,mg x=Ab u/\BM v u/\∀ H A,Rep K CL H A v d
structure VX (Y:Gam) (CL:ClA) (k:Ae) (W:XW) (T:Tc) (X:Cx):Prop where
 sc:X.env.scope=T.sc
 kd:T.sc.kind=.function
 N:X.N=T.N
 nd:T.N.Nodup
 calm:X.calm=Aa
 room:Room k X.A
 bl:∀ x,x∈T.bl->X.mg x=Ad
 fn:∀ p∈T.fns,∃ f fd ps,X.mg p.1=Ab (.ref f)/\CH X.K (.ref f)=Aa/\HY X.K fd ps []/\ps.length=p.2.2%1000/\(p.2.2<1000->FnOk X.prog X.w X.K X.mg X.base (CXR X.prog X.w) k f fd ps (spD X.K CL (p.2.2%1000) (Y.fr p.2.1) (Y.F p.2.1)))/\(1000<=p.2.2->HotOk X.prog X.w X.K X.mg X.base k f fd ps (spH X.K CL (p.2.2%1000) (Y.fr p.2.1) (Y.F p.2.1)))
 own:F4 (model X.prog X.w) X.A X.env X.xe
 px:∀ A,Mm (CXR X.prog X.w) X (EKW X.K CL A W)
 rz:NL X CL W
 xt:XT Y.up Y.xn CL T.rzs T.exs X.K X.mg
 gl:∀ p∈T.gls,Si X.K X.mg CL p.1 (Y.G p.2)
theorem V1:∀ A,Mm (CXR X.prog X.w) X (EKW X.K CL A W0):=λA pins Z H s ev s' I h=>by
 obtain⟨e,T,cls,dx,H',_,_,_,_,_,_,_,_,_,_,x,_,w⟩:=h;exact w.elim
theorem Xh:NL X CL W0:=λ_ _ _ _ _ _ _ _ _ _ _ _ _ _ z=>z.elim
def Rf{α:Type}(g f:Rho->R α):Prop:=∀ U,g U=.bad\/g U=f U
section
variable{X:Cx}{CL:ClA}{W:XW}{a:An}{f g:Rho->R D}
theorem SE.ref(h:SE X CL W a f)(r:Rf g f):SE X CL W a g:=λA=>PE.weak (h A) λZ H Q ⟨hA,U,q,p⟩=>⟨hA,U,q,by
 rcases r U with e|e
 .rw[e]at p;exact p.elim
 .rw[e]at p;exact p⟩
theorem SB.ref{f g:Rho->R Aj}(h:SB X CL W a f)(r:Rf g f):SB X CL W a g:=λA=>PT.weak (h A) λZ H Q ⟨hA,U,q,p⟩=>⟨hA,U,q,by
 rcases r U with e|e
 .rw[e]at p;exact p.elim
 .rw[e]at p;exact p⟩
theorem SW.ref{f g:Rho->R Aj}(h:SW X CL W a f)(r:Rf g f):SW X CL W a g:=λA=>PW.weak (h A) λZ H Q ⟨hA,U,q,p⟩=>⟨hA,U,q,by
 rcases r U with e|e
 .rw[e]at p;exact p.elim
 .rw[e]at p;exact p⟩
theorem SC.ref(h:SC X CL W fr a f)(r:Rf g f):SC X CL W fr a g:=λA=>PE.weak (h A) λZ H Q ⟨hA,U,q,p⟩=>⟨hA,U,q,by
 rcases r U with e|e
 .rw[e]at p;exact p.elim
 .rw[e]at p;exact p⟩
theorem SS.ref{st:A7}{f g:Rho->O}(h:SS X CL W st f)(r:∀ U,g U=.bad\/g U=f U):SS X CL W st g:=λFz B=>PS.weak (h Fz B) λD Z H ⟨U,x,p⟩=>⟨U,x,by
 rcases r U with e|e
 .rw[e]at p;exact p.elim
 .rw[e]at p;exact p⟩
end
theorem NZ:∀{l:Ac Ak},Nk l=Aa->l.Nodup
 |[],_=>JB
 |x::xs,h=>by
  unfold Nk at h;simp only[Am,BQ,XY,Go]at h;exact DS.mpr ⟨h.1,NZ h.2⟩
section
variable{T:Tc}{X:Cx}{Y:Gam}{CL:ClA}{k:Ae}{W:XW}
theorem UZ(h:R9 T x=Aa):Vis T.sc x:=by
 unfold R9 at h;split at h
 .exact .inl (by assumption)
 .exact .inr (.inl (by assumption))
 .exact .inr (.inr (by assumption))
 .cases h
theorem LZ(h:J7 T x=Aa):Loc T.sc x:=by
 unfold J7 at h;split at h
 .exact .inl (by assumption)
 .exact .inr (by assumption)
 .cases h
theorem Jh(h:HZ x=Aa):(x==("__debug__" : Ak))=Af/\(x==("__classdict__" : Ak))=Af/\x≠"__name__" := by
 unfold HZ at h;simp only[Am,BQ]at h;exact⟨h.1.1,h.1.2,λe=>by subst e;exact absurd h.2 (by simp)⟩
theorem Mi{i:Ae}(v:VX Y CL k W T X)(h:isV T x i=Aa):PE X (.Name x pos) (J5 i):=by
 unfold isV at h;simp only[Am,A9]at h;obtain⟨h2,h3,_⟩:=Jh h.2;exact VZ (by rw[v.N];exact h.1.1) (by rw[v.sc];exact UZ h.1.2) h2 h3
theorem Hx(v:VX Y CL k W T X)(h:isB T x=Aa):Gl X x/\X.mg x=Ad/\x≠"__name__"/\(x==("__debug__" : Ak))=Af:=by
 unfold isB glB at h;simp only[Am,A9,XY,AU]at h;obtain⟨h2,h3,h4⟩:=Jh h.2;exact⟨by show X.env.scope.names.lookup x=_;rw[v.sc];exact h.1.2,v.bl x h.1.1,h4,h2⟩
theorem CK{x:An}(h:DG x=Aa):AB (x::xs) env=(Af,eval x env)::AB xs env:=by
 cases x<;>first|rfl|cases h
theorem jP{y:An}(h:Vc y=Aa):QF y:=by
 intro o i;cases y<;>first|rfl|cases h
theorem Q4{e:An}(h:OP e=Aa):∀ x,Dz e env x=pure x:=by
 intro x;cases e<;>first|rfl|cases h
theorem Md{e:An}{t:Ao An}{l:Ae}(h:Lm e=Aa):DN e t l env=pure Af:=by
 cases e<;>first|rfl|cases h
theorem lN{e:An}(h:NX e=Aa):∀ whole,JH e env whole=(do let v <-whole;standAt e.pos;holding [v] (truthy v)):=by
 intro whole;cases e<;>first|rfl|cases h
theorem fH(v:VX Y CL k W T X)(scope:Cr):relabel scope X.env=RA T.sc scope:=by
 unfold relabel RA;have:∀ n,X.env.kindOf n=T.sc.names.lookup n:=λn=>by show X.env.scope.names.lookup n=_;rw[v.sc]
 simp only[this,v.sc]
theorem Wh{N':Ac Ak}(v:VX Y CL k W T X)(h:Pb T scope ts N'=Aa):BlockOk X scope N' ts/\N'.Nodup/\scope.kind=.function:=by
 unfold Pb at h;simp only[Am,A9,Bx,C1,LL,ne_eq]at h;obtain⟨⟨⟨⟨⟨h1,h2⟩,h4⟩,h5⟩,h6⟩,h7⟩:=h;have at7:∀ i x,N'[i]?=Ab x->i∈ts\/((scope.names.lookup x≠Ab .local/\scope.names.lookup x≠Ab .cell)/\(scope.names.lookup x≠Ab .free\/T.N[i]?=Ab x)):=λi x e=>by
  have hi:=(AZ.mp e).1;have:=h7 i (BE.mpr hi);rcases this with z|z
  .exact .inl (by simpa using z)
  .rw[e]at z;simp only[Am,LL,ne_eq,C1,A9]at z;exact .inr z
 refine⟨⟨h1,h2,λy hy hl=>by rw[h2 y hy,hl],λy hy hf=>?_,by rw[v.N];exact h5,λi x e hf hn=>?_,λi x e hl=>?_⟩,NZ h6,h1⟩
 .rw[v.sc];rcases h4 y hy with (z|z)|z
  .exact absurd hf z
  .exact .inl z
  .exact .inr z
 .rw[v.N];rcases at7 i x e with z|⟨_,z⟩
  .exact absurd z hn
  .exact z.resolve_left λq=>q hf
 .rcases at7 i x e with z|⟨z,_⟩
  .exact z
  .exact hl.elim (λq=>absurd q z.1) (λq=>absurd q z.2)
theorem VX.blk{xs:Ac Ak}{cl:Ac (Ak×Al)}{s:Ap}{fp:Ac Al}(v:VX Y CL k W T X)(h:Pb T scope ts (ND ts xs T.N)=Aa):VX Y CL k W0 (T.blk scope ts xs) (cxC X scope cl C (ND ts xs T.N) s H fp):=by
 obtain⟨_,h2,h3⟩:=Wh v h;exact⟨fH v scope,h3,rfl,h2,v.calm,v.room,v.bl,v.fn,PassesOwn.never,V1,Xh,v.xt,v.gl⟩
theorem lJ{t:Ae}(v:VX Y CL k W T X)(hfn:scope.names.lookup x=Ab .cell->X.fn x=Aa)(h:tgO T scope t x=Aa):PG X (.Name x pos) (HW t):=by
 unfold tgO at h;simp only[Am,C1,A9]at h;rcases h with ⟨h1,h2|h2⟩
 .exact Ob (by rw[v.N];exact v.nd) (by rw[v.N];exact h1) (by rw[v.sc];exact .inl h2) (.inr (by rw[v.sc];exact h2))
 .exact Ob (by rw[v.N];exact v.nd) (by rw[v.N];exact h1) (by rw[v.sc];exact .inr h2.1) (.inl (hfn h2.2))
theorem SF{y:An}{r:Ac An}{zs:Ac Ak}(h:IG (y::r)=Ab zs):∃ x p ws,y=.Name x p/\IG r=Ab ws/\zs=x::ws:=by
 cases y with
 |Name x p=>
  have h':(IG r).map (x :: ·)=Ab zs:=h;cases e:IG r with
  |none=>rw[e]at h';cases h'
  |some ws=>rw[e]at h';cases h';exact⟨x,p,ws,rfl,rfl,rfl⟩
 |_=>cases h
theorem TQ(x:Ak)(p:AY)(r:Ac An)(env:CU):ES (.Name x p::r) env=(Af,assign (.Name x p) env)::ES r env:=rfl
theorem dP:∀(ys:Ac An)(zs:Ac Ak),IG ys=Ab zs->(ES ys env).length=ys.length/\(ES ys env).findIdx? (·.1)=Ad/\(ES ys env).map (·.2)=ys.map λy=>assign y env:=by
 intro ys
 induction ys with
 |nil=>intro _ _;exact⟨rfl,rfl,rfl⟩
 |cons y r ih=>
  intro zs h;obtain⟨x,p,ws,rfl,e,rfl⟩:=SF h;obtain⟨h1,h2,h3⟩:=ih ws e;rw[TQ];refine⟨?_,?_,?_⟩
  .rw[A5,A5,h1]
  .rw[List.findIdx?_cons,h2];simp
  .rw[CO,CO,h3]
end
noncomputable def Es.len:Es->Ae
 |.nil=>0
 |.cons _ es=>es.len+1
theorem Lh(Y:Gam)(U:Rho):∀(es:Es)(ds:Ac D),evA Y U es=.ok ds->ds.length=es.len
 |.nil,ds,h=>by cases h;rfl
 |.cons e es,ds,h=>by
  obtain⟨x,h1,h2⟩:=K5 (Us Y U e es ▸ h);obtain⟨xs,h3,h4⟩:=K5 h2;cases h4;exact congrArg (· + 1) (Lh Y U es xs h3)
theorem Om(Y:Gam)(U:Rho):∀(es:Es)(ds:Ac D),evB Y U es=.ok ds->ds.length=es.len
 |.nil,ds,h=>by cases h;rfl
 |.cons e es,ds,h=>by
  obtain⟨x,h1,h2⟩:=K5 (Qw Y U e es ▸ h);obtain⟨xs,h3,h4⟩:=K5 h2;cases h4;exact congrArg (· + 1) (Om Y U es xs h3)
theorem VL(Y:Gam)(U:Rho)(e:E)(h:shE U e=Aa):top U e (evE Y U e)=evE Y U e:=by
 cases e with
 |var i=>
  show EX U i=GA U i;have h':shV U i=Aa:=h;unfold shV at h';unfold EX GA;cases q:U[i]? with
  |none=>rfl
  |some x=>
   cases x with
   |none=>rfl
   |some y=>
    obtain⟨d,o⟩:=y;cases o with
    |true=>rw[q]at h';cases h'
    |false=>rfl
 |_=>rfl
theorem Oy(Y:Gam)(U:Rho):∀(es:Es),Jr U es=Aa->evB Y U es=evA Y U es
 |.nil,_=>rfl
 |.cons e es,h=>by
  simp only[gE,Am]at h;rw[Us,Qw,VL Y U e h.1,Oy Y U es h.2]
theorem QV(Y:Gam)(c:E):Rf (λU=>evE Y U c) (λU=>top U c (evE Y U c)):=λU=>by
 by_cases h:shE U c=Aa
 .exact .inr (VL Y U c h).symm
 .cases c with
  |var i=>
   refine .inl ?_;show GA U i=.bad;have h':¬ shV U i=Aa:=h;unfold shV at h';unfold GA;cases q:U[i]? with
   |none=>rfl
   |some x=>
    cases x with
    |none=>rfl
    |some y=>
     obtain⟨d,o⟩:=y;cases o with
     |true=>rfl
     |false=>rw[q]at h';exact absurd rfl h'
  |_=>exact absurd rfl h
def Pcs(X:Cx)(CL:ClA)(W:XW)(e:An)(f:Rho->R D):Prop:=∃ tg iter elt ifs scope pos N' ts fi fc fe as g,e=.ListComp elt [⟨tg,iter,ifs,0⟩] scope pos/\BlockOk X scope N' ts/\SI X CL W tg iter fi/\GG X.K CL ts as g /\
 (∀ cl C s H fp,PG (cxC X scope cl C N' s H fp) tg g)/\(∀ cl C s H fp,STs (cxC X scope cl C N' s H fp) CL ifs fc)/\(∀ cl C s H fp,SE (cxC X scope cl C N' s H fp) CL W0 elt fe)/\(∀ x,Dz iter X.env x=pure x) /\
 ∀ U,f U=(fi U).bind λxs=>(noX (BU (λx=>(as x U).bind fc) (λx=>(as x U).bind fe) xs)).bind λys=>.ok (.lst ys)
theorem Pcs.sc{e:An}{f:Rho->R D}(hc:X.calm=Aa)(h:Pcs X CL W e f):SC X CL W Aa e f:=by
 obtain⟨tg,iter,elt,ifs,scope,pos,N',ts,fi,fc,fe,as,g,rfl,B,hi,hGG,hg,ht,he,hs,ef⟩:=h;exact SC.congr (nS hc B hi hGG hg ht he hs) ef
structure OkE (Y:Gam) (CL:ClA) (W:XW) (X:Cx) (e:An) (c:E):Prop where
 se:SE X CL W e (λU=>evE Y U c)
 st:ST X CL W e (λU=>top U c (evE Y U c))
 nw:DI Y c=Aa->SC X CL W Aa e (λU=>evE Y U c)
 cp:Lm e=Af->Pcs X CL W e (λU=>evE Y U c)
section
variable{Y:Gam}{CL:ClA}{W:XW}{X:Cx}{e:An}{c:E}
theorem FD(h:SE X CL W e (λU=>evE Y U c))(ht:∀ U r,top U c r=r)(hn:DI Y c=Af)(hc:Lm e=Aa):OkE Y CL W X e c:=
 ⟨h,by simp only[ht];exact h.st,λz=>absurd z (by rw[hn];decide),λz=>absurd z (by rw[hc];decide)⟩
theorem QY(h:SC X CL W Aa e (λU=>evE Y U c))(ht:∀ U r,top U c r=r)(hc:Lm e=Aa):OkE Y CL W X e c:=
 ⟨h.se,by simp only[ht];exact h.se.st,λ_=>h,λz=>absurd z (by rw[hc];decide)⟩
theorem zZ(hc:X.calm=Aa)(h:Pcs X CL W e (λU=>evE Y U c))(ht:∀ U r,top U c r=r):OkE Y CL W X e c:=
 ⟨(h.sc hc).se,by simp only[ht];exact(h.sc hc).se.st,λ_=>h.sc hc,λ_=>h⟩
end
theorem b9{k:Ki}(h:Rr k=Ab x):∃ T,tyK k=Ab T/\Dc x=Ab (.type T):=by
 cases k<;>simp only[Rr]at h<;>cases h
 .exact⟨_,rfl,YH⟩
 .exact⟨_,rfl,PyProof.Rows.boot_bool⟩
 .exact⟨_,rfl,PyProof.Rows.boot_str⟩
 .exact⟨_,rfl,YI⟩
 .exact⟨_,rfl,YK⟩
structure Snd (Y:Gam) (CL:ClA) (k:Ae) (n:Ae):Prop where
 e:∀(W:XW)(T:Tc)(X:Cx)(x:An)(c:E),VX Y CL k W T X->Bp n T x c=Aa->OkE Y CL W X x c
 b:∀(W:XW)(T:Tc)(X:Cx)(x:An)(c:E),VX Y CL k W T X->chkB n T x c=Aa->SB X CL W x (λU=>(top U c (evE Y U c)).bind Ce)
 bs:∀(W:XW)(T:Tc)(X:Cx)(xs:Ac An)(es:Es)(pos:AY),VX Y CL k W T X->chkBs n T xs es=Aa->xs≠[]->SW X CL W (.BoolOp .And xs pos) (λU=>(evN Y U es).bind Ce)/\SW X CL W (.BoolOp .Or xs pos) (λU=>(evO Y U es).bind Ce)
 es:∀(W:XW)(T:Tc)(X:Cx)(xs:Ac An)(es:Es),VX Y CL k W T X->chkEs n T xs es=Aa->SA X CL W xs (λU=>evA Y U es)/\SAT X CL W xs (λU=>evB Y U es)/\xs.length=es.len/\(∀ pos,xs≠[]->SE X CL W (.BoolOp .And xs pos) (λU=>evN Y U es)/\SE X CL W (.BoolOp .Or xs pos) (λU=>evO Y U es))/\(∀ pos,(Cc pos (AB xs X.env)).any (·.1)=Af)
 o:∀(W:XW)(T:Tc)(X:Cx)(x:Ao An)(c:E),VX Y CL k W T X->W6 n T x c=Aa->SO X CL W x (λU=>(top U c (evE Y U c)).bind (slE c))
 t:∀(T:Tc)(X:Cx)(xs:Ac An)(c:E),VX Y CL k W0 T X->chkT n T xs c=Aa->STs X CL xs (λU=>(top U c (evE Y U c)).bind Ce)
 i:∀(W:XW)(T:Tc)(X:Cx)(tu:Aj)(tg x:An)(i:I),VX Y CL k W T X->W1 tu tg=Aa->chkI n T tu x i=Aa->SI X CL W tg x (λU=>evI Y U i)
section
variable{Y:Gam}{CL:ClA}{W:XW}{k n:Ae}{T:Tc}{X:Cx}
theorem jO:Snd Y CL k 0:=⟨λ_ _ _ _ _ _ h=>noF h,λ_ _ _ _ _ _ h=>noF h,λ_ _ _ _ _ _ _ h=>noF h,λ_ _ _ _ _ _ h=>noF h,λ_ _ _ _ _ _ h=>noF h,λ_ _ _ _ _ h=>noF h,λ_ _ _ _ _ _ _ _ _ h=>noF h⟩
theorem SK{x:An}(h:DG x=Aa)(hx:(Cc pos (AB xs env)).any (·.1)=Af):(Cc pos (AB (x::xs) env)).any (·.1)=Af:=by
 rw[CK h];show (Af||(Cc pos (AB xs env)).any (·.1))=Af;rw[hx];rfl
theorem tE(S:Snd Y CL k n)(W:XW)(T:Tc)(X:Cx)(xs:Ac An)(es:Es)(v:VX Y CL k W T X)(h:chkEs (n+1) T xs es=Aa):SA X CL W xs (λU=>evA Y U es)/\SAT X CL W xs (λU=>evB Y U es)/\xs.length=es.len/\(∀ pos,xs≠[]->SE X CL W (.BoolOp .And xs pos) (λU=>evN Y U es)/\SE X CL W (.BoolOp .Or xs pos) (λU=>evO Y U es))/\(∀ pos,(Cc pos (AB xs X.env)).any (·.1)=Af):=by
 cases xs with
 |nil=>
  cases es with
  |nil=>exact⟨VU,nW,rfl,λ_ z=>absurd rfl z,λ_=>rfl⟩
  |cons=>exact noF h
 |cons x xs=>
  cases es with
  |nil=>exact noF h
  |cons e es=>
   replace h:(DG x&&Bp n T x e&&chkEs n T xs es)=Aa:=h;simp only[Am]at h;obtain⟨⟨h0,h1⟩,h2⟩:=h;have he:=S.e W T X x e v h1;obtain⟨a1,a2,a3,a4,a5⟩:=S.es W T X xs es v h2;refine⟨Vi he.se a1 (CK h0),jR he.st a2 (CK h0),congrArg (· + 1) a3,λpos _=>?_,λpos=>SK h0 (a5 pos)⟩
   cases xs with
   |nil=>
    cases es with
    |nil=>exact⟨Q6 he.se,Q6 he.se⟩
    |cons=>cases a3
   |cons y ys=>
    cases es with
    |nil=>cases a3
    |cons e' es'=>
     obtain⟨b1,b2⟩:=a4 pos (by simp)
     exact⟨VT he.se b1,yP he.se b2⟩
theorem wZ(S:Snd Y CL k n)(W:XW)(T:Tc)(X:Cx)(x:Ao An)(c:E)(v:VX Y CL k W T X)(h:W6 (n+1) T x c=Aa):SO X CL W x (λU=>(top U c (evE Y U c)).bind (slE c)):=by
 cases x with
 |none=>
  obtain rfl:=iO h;exact kU
 |some x=>
  replace h:(!(OF c)&&Bp n T x c)=Aa:=h;rw[Am]at h;have q:=kT (S.e W T X x c v h.2).st;have e:slE c=λd=>(D6 d).bind λi=>.ok (Ab i):=by
   funext d
   cases c<;>first|rfl|exact absurd (show Af=Aa from h.1) Ax
  rw[e];exact q
theorem wX(S:Snd Y CL k n)(T:Tc)(X:Cx)(xs:Ac An)(c:E)(v:VX Y CL k W0 T X)(h:chkT (n+1) T xs c=Aa):STs X CL xs (λU=>(top U c (evE Y U c)).bind Ce):=by
 cases xs with
 |nil=>
  replace h:=mP h;obtain⟨b,rfl,h⟩:=h;subst h;exact lR
 |cons x xs=>
  replace h:(xs.isEmpty&&chkB n T x c)=Aa:=h;rw[Am]at h;obtain rfl:=Jk h.1;exact lQ (S.b W0 T X x c v h.2)
theorem xA(S:Snd Y CL k n)(W:XW)(T:Tc)(X:Cx)(tu:Aj)(tg x:An)(i:I)(v:VX Y CL k W T X)(ht':W1 tu tg=Aa)(h:chkI (n+1) T tu x i=Aa):SI X CL W tg x (λU=>evI Y U i):=by
 have ht:tu=Aa->zF tg=Aa:=λz=>by
  subst z;cases tg<;>first|rfl|cases ht'
 cases i with
 |e a=>
  exact dB (S.e W T X x a v h).se
 |rng a=>
  replace h:=Lb h;obtain⟨g,pp,l,qq,rfl,h⟩:=h;replace h:=GQ h;obtain⟨y,rfl,h⟩:=h;simp only[Am,A9]at h;obtain⟨⟨⟨rfl,h1⟩,h2⟩,h3⟩:=h;obtain⟨g1,g2,_,_⟩:=Hx v h1;exact tQ (S.e W T X _ a v h3).st g1 g2 (CK h2)
 |rng2 a b=>
  replace h:=Lb h;obtain⟨g,pp,l,qq,rfl,h⟩:=h;replace h:=K9 h;obtain⟨y,z,rfl,h⟩:=h;simp only[Am,A9]at h;obtain⟨⟨⟨⟨⟨rfl,h1⟩,h2⟩,h3⟩,h4⟩,h5⟩:=h;obtain⟨g1,g2,_,_⟩:=Hx v h1;exact kX (S.e W T X _ a v h4).st (S.e W T X _ b v h5).st g1 g2 (by rw[CK h2,CK h3];rfl) (by rw[CK h3];rfl)
 |rrv a=>
  have h':(match Jt x with|some (g,h,y)=>g==("reversed" : Ak)&&h==("range" : Ak)&&isB T g&&isB T h&&DG y&&Bp n T y a|none=>Af)=Aa:=h
  cases q2:Jt x with
  |none=>rw[q2]at h';cases h'
  |some t2=>
   obtain⟨g,f,y⟩:=t2;rw[q2]at h';simp only[Am,A9]at h';obtain⟨⟨⟨⟨⟨rfl,rfl⟩,h1⟩,h2⟩,h3⟩,h4⟩:=h';obtain⟨p,p',pos,pos',rfl⟩:=U_3 q2;obtain⟨g1,g2,_,_⟩:=Hx v h1;obtain⟨g3,g4,_,_⟩:=Hx v h2;exact tP (S.e W T X _ a v h4).st g3 g4 g1 g2 (by rw[CK h3];rfl)
 |rng3 a b c=>
  replace h:=Lb h;obtain⟨g,pp,l,qq,rfl,h⟩:=h;replace h:=iS h;obtain⟨y,z,w,rfl,h⟩:=h;simp only[Am,A9]at h;obtain⟨⟨⟨⟨⟨⟨⟨rfl,h1⟩,h2⟩,h3⟩,h4⟩,h5⟩,h6⟩,h7⟩:=h;obtain⟨g1,g2,_,_⟩:=Hx v h1;exact kW (S.e W T X _ a v h5).st (S.e W T X _ b v h6).st (S.e W T X _ c v h7).st g1 g2 (by rw[CK h2,CK h3,CK h4];rfl) (by rw[CK h3,CK h4];rfl) (by rw[CK h4];rfl)
 |zip a b=>
  replace h:=Lb h;obtain⟨g,pp,l,qq,rfl,h⟩:=h;replace h:=K9 h;obtain⟨y,z,rfl,h⟩:=h;simp only[Am,A9]at h;obtain⟨⟨⟨⟨⟨⟨h0,rfl⟩,h1⟩,h2⟩,h3⟩,h4⟩,h5⟩:=h;obtain⟨g1,g2,_,_⟩:=Hx v h1;have hg:=ht h0;cases tg with
  |Tuple es m tpos=>exact wN (S.e W T X _ a v h4).se (S.e W T X _ b v h5).se g1 g2 (by rw[CK h2,CK h3];rfl) (by rw[CK h3];rfl)
  |_=>cases hg
 |zip3 a b c=>exact absurd (show Af=Aa from h) Ax
 |enm a=>exact absurd (show Af=Aa from h) Ax
theorem L9{c:Prop}[Fi c]{b:Aj}:(if c then R.ok (D.bl b) else .bad)=.bad\/∃ b',(if c then R.ok (D.bl b) else .bad)=.ok (.bl b'):=by
 by_cases h:c
 .rw[Ar h];exact .inr ⟨_,rfl⟩
 .rw[As h];exact .inl rfl
theorem T8(op:DW)(d d':D):Cf op d d'=.bad\/∃ b,Cf op d d'=.ok (.bl b):=by
 cases op with
 |Eq=>exact L9
 |NotEq=>exact L9
 |In=>
  cases d' with
  |lst ys=>exact L9
  |tup ys=>exact L9
  |dic kvs=>
   show (match KP d with|some k=>R.ok (D.bl (kvs.any λp=>p.1==k))|none=>.bad)=.bad\/∃ b,(match KP d with|some k=>R.ok (D.bl (kvs.any λp=>p.1==k))|none=>.bad)=.ok (.bl b)
   cases KP d with
   |some k=>exact .inr ⟨_,rfl⟩
   |none=>exact .inl rfl
  |_=>exact .inl rfl
 |NotIn=>
  cases d' with
  |lst ys=>exact L9
  |tup ys=>exact L9
  |str j=>cases d<;>first|exact .inr ⟨_,rfl⟩|exact .inl rfl
  |_=>exact .inl rfl
 |Is=>
  cases d' with
  |non=>cases d<;>first|exact .inr ⟨_,rfl⟩|exact .inl rfl
  |_=>cases d<;>first|exact .inl rfl|exact .inr ⟨_,rfl⟩
 |IsNot=>
  cases d' with
  |non=>cases d<;>first|exact .inr ⟨_,rfl⟩|exact .inl rfl
  |_=>cases d<;>first|exact .inl rfl|exact .inr ⟨_,rfl⟩
 |_=>
  cases d with
  |int i=>cases d'<;>first|exact .inr ⟨_,rfl⟩|exact .inl rfl
  |_=>exact .inl rfl
theorem VA(op:DW)(d d':D):(Cf op d d').bind Ce=.bad\/(Cf op d d').bind Ce=(Cf op d d').bind EJ:=by
 rcases T8 op d d' with h|⟨b,h⟩
 .rw[h];exact .inl rfl
 .rw[h];exact .inr rfl
theorem vU(e e':E)(es:Es):Rf (λU=>(evN Y U (.cons e (.cons e' es))).bind Ce) (λU=>((top U e (evE Y U e)).bind Ce).bind λc=>if c=Aa then (evN Y U (.cons e' es)).bind Ce else .ok Af):=λU=>by
 have e0:evN Y U (.cons e (.cons e' es))=(evE Y U e).bind λx=>(EJ x).bind λc=>if c=Aa then evN Y U (.cons e' es) else .ok (.bl Af):=rfl
 dsimp only;rw[e0];rcases QV Y e U with z|z<;>dsimp only at z
 .rw[z];exact .inl rfl
 .rw[<-z];cases evE Y U e with
  |bad=>exact .inl rfl
  |exn x=>exact .inr rfl
  |ok d=>
   cases d with
   |bl b=>cases b<;>exact .inr rfl
   |_=>exact .inl rfl
theorem vT(e e':E)(es:Es):Rf (λU=>(evO Y U (.cons e (.cons e' es))).bind Ce) (λU=>((top U e (evE Y U e)).bind Ce).bind λc=>if c=Aa then .ok Aa else (evO Y U (.cons e' es)).bind Ce):=λU=>by
 have e0:evO Y U (.cons e (.cons e' es))=(evE Y U e).bind λx=>(EJ x).bind λc=>if c=Aa then .ok (.bl Aa) else evO Y U (.cons e' es):=rfl
 dsimp only;rw[e0];rcases QV Y e U with z|z<;>dsimp only at z
 .rw[z];exact .inl rfl
 .rw[<-z];cases evE Y U e with
  |bad=>exact .inl rfl
  |exn x=>exact .inr rfl
  |ok d=>
   cases d with
   |bl b=>cases b<;>exact .inr rfl
   |_=>exact .inl rfl
theorem Rf.tru(e:E):Rf (λU=>(evE Y U e).bind Ce) (λU=>(top U e (evE Y U e)).bind Ce):=λU=>by
 rcases QV Y e U with z|z<;>dsimp only at z ⊢
 .rw[z];exact .inl rfl
 .rw[<-z];exact .inr rfl
theorem tF(S:Snd Y CL k n)(W:XW)(T:Tc)(X:Cx)(xs:Ac An)(es:Es)(pos:AY)(v:VX Y CL k W T X)(h:chkBs (n+1) T xs es=Aa)(hne:xs≠[]):SW X CL W (.BoolOp .And xs pos) (λU=>(evN Y U es).bind Ce)/\SW X CL W (.BoolOp .Or xs pos) (λU=>(evO Y U es).bind Ce):=by
 cases xs with
 |nil=>exact absurd rfl hne
 |cons x xs=>
  cases es with
  |nil=>exact noF h
  |cons e es=>
   replace h:(chkB n T x e&&chkBs n T xs es)=Aa:=h;simp only[Am]at h;obtain⟨h1,h2⟩:=h;have he:=S.b W T X x e v h1;cases xs with
   |nil=>
    cases es with
    |nil=>exact⟨SW.ref (lP he) (Rf.tru e),SW.ref (qT he) (Rf.tru e)⟩
    |cons=>
     cases n with
     |zero=>exact absurd (show Af=Aa from h2) Ax
     |succ n=>exact absurd (show Af=Aa from h2) Ax
   |cons y ys=>
    cases es with
    |nil=>
     cases n with
     |zero=>exact absurd (show Af=Aa from h2) Ax
     |succ n=>exact absurd (show Af=Aa from h2) Ax
    |cons e' es'=>
     obtain⟨b1,b2⟩:=S.bs W T X (y::ys) (.cons e' es') pos v h2 (by simp)
     exact⟨SW.ref (qX he b1) (vU e e' es'),SW.ref (wW he b2) (vT e e' es')⟩
theorem lI(S:Snd Y CL k n){x:An}{ops:Ac DW}{b:BI}(v:VX Y CL k W T X)(h:RX T (Bp n) x ops ys b as=Aa):SB X CL W (.Compare x ops ys pos) (λU=>(top U (.bi b as) (evE Y U (.bi b as))).bind Ce):=by
 exact absurd (show Af=Aa from h) Ax
theorem xC(S:Snd Y CL k n)(W:XW)(T:Tc)(X:Cx)(x:An)(c:E)(v:VX Y CL k W T X)(h:chkB (n+1) T x c=Aa):SB X CL W x (λU=>(top U c (evE Y U c)).bind Ce):=by
 have plain:∀ e,NX e=Aa->Bp n T e c=Aa->SB X CL W e (λU=>(top U c (evE Y U c)).bind Ce):=λe h1 h2=>sI (S.e W T X e c v h2).st (lN h1)
 replace h:((Lr x λo x=>decide (o=.Not)&&(O9 c λa=>chkB n T x a))||(KM x λo xs _=>(decide (o=.And)&&(OO c λes=>chkBs n T xs es && !xs.isEmpty))||(decide (o=.Or)&&(O8 c λes=>chkBs n T xs es && !xs.isEmpty)))||(Nx x λx os ys=>(OK c λop a b=>FO os λop'=>FO ys λy=>decide (op'=op) && !behindInMarks op y&&Bp n T x a&&Bp n T y b)||(OL c λop1 op2 a b c=>Jn os λo1 o2=>Jn ys λy z=>decide (o1=op1)&&decide (o2=op2) && !lastMarks [op1,op2] [y,z]&&Bp n T x a&&Bp n T y b&&Bp n T z c)||(OM c λb as=>RX T (Bp n) x os ys b as))||NX x&&Bp n T x c)=Aa:=h
 replace h:=(orT h).imp_left λz=>(orT z).imp_left orT
 rcases h with ((h|h)|h)|h
 .replace h:=Oe h;obtain⟨o,y,p,rfl,h⟩:=h;replace h:=CQ h;obtain⟨h0,h⟩:=h;obtain rfl:=AX h0;replace h:=nP h;obtain⟨a,rfl,h⟩:=h
  .skip
   refine SB.ref (sJ (S.b W T X _ a v h)) λU=>?_
   show ((top U a (evE Y U a)).bind λx=>(EJ x).bind λb=>.ok (.bl (!b))).bind Ce=.bad\/((top U a (evE Y U a)).bind λx=>(EJ x).bind λb=>.ok (.bl (!b))).bind Ce=_
   cases top U a (evE Y U a) with
   |bad=>exact .inl rfl
   |exn x=>exact .inr rfl
   |ok d=>cases d<;>first|exact .inr rfl|exact .inl rfl
 .replace h:=M7 h;obtain⟨o,ys,p,rfl,h⟩:=h;replace h:=orT h;rcases h with h|h
  .replace h:=CQ h;obtain⟨h0,h⟩:=h;obtain rfl:=AX h0;replace h:=jD h;obtain⟨es,rfl,h⟩:=h;simp only[Am,BQ,EN]at h;exact(S.bs W T X _ _ _ v h.1 h.2).1.sb
  .replace h:=CQ h;obtain⟨h0,h⟩:=h;obtain rfl:=AX h0;replace h:=nO h;obtain⟨es,rfl,h⟩:=h;simp only[Am,BQ,EN]at h;exact(S.bs W T X _ _ _ v h.1 h.2).2.sb
 .replace h:=UM h;obtain⟨w,os,ys,p,rfl,h⟩:=h;replace h:=(orT h).imp_left orT;rcases h with (h|h)|h
  .replace h:=iY h;obtain⟨op,a,b,rfl,h⟩:=h;replace h:=GQ h;obtain⟨op',rfl,h⟩:=h;replace h:=GQ h;obtain⟨y,rfl,h⟩:=h
   .simp only[Am,BQ,AU]at h;obtain⟨⟨⟨rfl,h1⟩,h2⟩,h3⟩:=h;refine SB.ref (sK (Od v.room.units _) (S.e W T X _ a v h2).st (S.e W T X _ b v h3).st h1) λU=>?_
    show ((top U a (evE Y U a)).bind λx=>(top U b (evE Y U b)).bind λy=>Cf op' x y).bind Ce=.bad\/((top U a (evE Y U a)).bind λx=>(top U b (evE Y U b)).bind λy=>Cf op' x y).bind Ce=_
    cases top U a (evE Y U a) with
    |bad=>exact .inl rfl
    |exn x=>exact .inr rfl
    |ok d=>
     cases top U b (evE Y U b) with
     |bad=>exact .inl rfl
     |exn x=>exact .inr rfl
     |ok d'=>
      dsimp only[R.bind];exact VA _ d d'
  .replace h:=iZ h;obtain⟨op1,op2,a,b,c,rfl,h⟩:=h;replace h:=K9 h;obtain⟨o1,o2,rfl,h⟩:=h;replace h:=K9 h;obtain⟨y,z,rfl,h⟩:=h
   .simp only[Am,BQ,AU]at h;obtain⟨⟨⟨⟨⟨rfl,rfl⟩,h1⟩,h2⟩,h3⟩,h4⟩:=h;refine SB.ref (jQ v.room.units (S.e W T X _ a v h2).st (S.e W T X _ b v h3).st (S.e W T X _ c v h4).st h1) λU=>?_
    show ((top U a (evE Y U a)).bind λx=>(top U b (evE Y U b)).bind λy=>(Cf o1 x y).bind λz=>(EJ z).bind λk=>if k=Aa then (top U c (evE Y U c)).bind λu=>Cf o2 y u else .ok (.bl Af)).bind Ce=.bad\/((top U a (evE Y U a)).bind λx=>(top U b (evE Y U b)).bind λy=>(Cf o1 x y).bind λz=>(EJ z).bind λk=>if k=Aa then (top U c (evE Y U c)).bind λu=>Cf o2 y u else .ok (.bl Af)).bind Ce=_
    cases top U a (evE Y U a) with
    |bad=>exact .inl rfl
    |exn x=>exact .inr rfl
    |ok d=>
     cases top U b (evE Y U b) with
     |bad=>exact .inl rfl
     |exn x=>exact .inr rfl
     |ok d'=>
      dsimp only[R.bind];cases Cf o1 d d' with
      |bad=>exact .inl rfl
      |exn x=>exact .inr rfl
      |ok d3=>
       cases d3 with
       |bl k=>
        cases k with
        |false=>exact .inr rfl
        |true=>
         dsimp only[R.bind,EJ];rw[Ar rfl,Ar rfl];cases top U c (evE Y U c) with
         |bad=>exact .inl rfl
         |exn x=>exact .inr rfl
         |ok d4=>exact VA _ d' d4
       |_=>exact .inl rfl
  .replace h:=jA h;obtain⟨b,as,rfl,h⟩:=h;exact lI S v h
 .exact plain _ (CQ h).1 (CQ h).2
end
section
variable{Y:Gam}{CL:ClA}{W:XW}{k n:Ae}{T:Tc}{X:Cx}
theorem ba{b:BI}{x:An}(v:VX Y CL k W T X)(hb:Rs b=Ab g)(hg:isB T g=Aa)(hs:SAT X CL W (x::xs) (λU=>evB Y U as))(h0:DG x=Aa)(hpl:∀ pos,(Cc pos (AB xs X.env)).any (·.1)=Af):OkE Y CL W X (.Call (.Name g p) (x::xs) [] pos) (.bi b as):=by
 obtain⟨g1,g2,g3,g4⟩:=Hx v hg;cases b<;>simp only[Rs]at hb<;>cases hb
 .exact FD (Q8 vQ g1 g2 PySem.boot_len hs g3 g4 (CK h0) hpl) (λ_ _=>rfl) rfl rfl
 .exact FD (Q8 (vP v.calm) g1 g2 PyProof.Rows.boot_min hs g3 g4 (CK h0) hpl) (λ_ _=>rfl) rfl rfl
 .exact FD (VS vR g1 g2 YH hs g3 g4 (CK h0) hpl) (λ_ _=>rfl) rfl rfl
 .exact QY (tM pU g1 g2 YI hs g3 g4 (CK h0) hpl) (λ_ _=>rfl) rfl
 .exact FD (VS kO g1 g2 YK hs g3 g4 (CK h0) hpl) (λ_ _=>rfl) rfl rfl
 .exact FD (Q8 (vS v.calm) g1 g2 PyProof.Rows.boot_all hs g3 g4 (CK h0) hpl) (λ_ _=>rfl) rfl rfl
 .exact QY (tN iK g1 g2 YJ hs g3 g4 (CK h0) hpl) (λ_ _=>rfl) rfl
theorem Np{l:Ac (Ak×Ae)}(h:inX l g c=Aa):(g,c)∈l:=by
 unfold inX at h;simp only[C6,Am,A9]at h;obtain⟨p,hp,rfl,rfl⟩:=h;exact hp
theorem LS{x:An}{es:Es}(h:chkEs n T (x::xs) es=Aa):DG x=Aa/\∃ e es',es=.cons e es'/\∃ m,n=m+1/\chkEs m T xs es'=Aa:=by
 cases n with
 |zero=>exact noF h
 |succ m=>
  cases es with
  |nil=>exact noF h
  |cons e es=>
   replace h:(DG x&&Bp m T x e&&chkEs m T xs es)=Aa:=h;simp only[Am]at h;exact⟨h.1.1,e,es,rfl,m,rfl,h.2⟩
theorem M2:∀(m:Ae)(xs:Ac An)(es:Es),chkEs m T xs es=Aa->∀ pos,(Cc pos (AB xs X.env)).any (·.1)=Af:=by
 intro m
 induction m with
 |zero=>intro xs es h;exact noF h
 |succ m ih=>
  intro xs es h pos;cases xs with
  |nil=>rfl
  |cons x xs=>
   obtain⟨h0,e,es',rfl,m',e1,h1⟩:=LS h;cases e1;exact SK h0 (ih xs es' h1 pos)
theorem qI(S:Snd Y CL k n){x:An}{b:BI}(v:VX Y CL k W T X)(h:(match Pc as with|some (s,a)=>Ms x λf l ks cp=>ks.isEmpty&&(Mu f λo m ap=>m==("join" : Ak)&&ap.endLine==cp.line&&(Jo o λc=>decide (c=.str s)&&decide (b=.sjoin)&&(FO l λy=>DG y&&Bp n T y a)))|none=>Af)=Aa):OkE Y CL W X x (.bi b as):=by
 cases q1:Pc as with
 |none=>rw[q1]at h;cases h
 |some t=>
  obtain⟨s,a⟩:=t;rw[q1]at h;obtain⟨e,te⟩:=rO q1;subst e;replace h:=Qe h;obtain⟨f,l,ks,cp,rfl,h⟩:=h;replace h:=CQ h;obtain⟨h0,h⟩:=h;obtain rfl:=Jk h0;replace h:=Qo h;obtain⟨o,m,ap,rfl,h⟩:=h;replace h:=CQ h;obtain⟨h1,h⟩:=h;replace h1:=CQ h1;obtain⟨h1,h2⟩:=h1;obtain rfl:=eq_of_beq h1;replace h:=La h;obtain⟨c,u,p,rfl,h⟩:=h;replace h:=CQ h;obtain⟨h3,h⟩:=h;replace h3:=CQ h3;obtain⟨h3,h4⟩:=h3;obtain rfl:=AX h3;obtain rfl:=AX h4;replace h:=GQ h;obtain⟨y,rfl,h⟩:=h;replace h:=CQ h;obtain⟨h5,h6⟩:=h;refine FD (SE.congr (nR (S.e W T X _ a v h6).se rfl (by rw[CK h5];rfl) h2 (by rw[CK h5];rfl)) λU=>?_) (λ_ _=>rfl) rfl rfl
  simp only[Rj,evB,R.bind_assoc,R.bind_ok,lG,pP,te]
theorem sL(S:Snd Y CL k n){x:An}{b:BI}(v:VX Y CL k W T X)(h:(match Sg as with|some a=>(match Xi x with|some y=>decide (b=.rvs)&&Bp n T y a|none=>Af)|none=>Af)=Aa):OkE Y CL W X x (.bi b as):=by
 simp[Sg]at h
theorem rJ(S:Snd Y CL k n){x:An}{b:BI}(v:VX Y CL k W T X)(h:(match RL as with|some (a,c)=>(match Sk x with|some (y,z,_)=>decide (b=.tlt) && !behindInMarks .Lt z&&Bp n T y a&&Bp n T z c|none=>Af)|none=>Af)=Aa):OkE Y CL W X x (.bi b as):=by
 simp[RL]at h
theorem wB{x:An}{b:BI}(v:VX Y CL k W T X)(h:W5 T x b as=Aa):OkE Y CL W X x (.bi b as):=by
 exact absurd h Ax
theorem qY(S:Snd Y CL k n){x:An}{b:BI}(v:VX Y CL k W T X)(h:(match RM as with|some (a,k)=>(match Xe x with|some (y,j)=>decide (b=.stp)&&decide (j=k)&&decide (0<=k)&&Bp n T y a|none=>Af)|none=>Af)=Aa):OkE Y CL W X x (.bi b as):=by
 simp[RM]at h
theorem uA(S:Snd Y CL k n){x:An}{b:BI}(v:VX Y CL k W T X)(h:(match RO as with|some (a,c)=>(match W9 x with|some (g,h,y,z)=>decide (b=.list)&&g==("list" : Ak)&&h==("range" : Ak)&&isB T g&&isB T h&&DG y&&DG z&&Bp n T y a&&Bp n T z c|none=>Af)|none=>Af)=Aa):OkE Y CL W X x (.bi b as):=by
 simp[RO]at h
theorem qB(S:Snd Y CL k n){x:An}{b:BI}(v:VX Y CL k W T X)(h:(match RN as with|some a=>(match Jt x with|some (g,h,y)=>decide (b=.lset)&&g==("len" : Ak)&&h==("set" : Ak)&&isB T g&&isB T h&&DG y&&Bp n T y a|none=>Af)|none=>Af)=Aa):OkE Y CL W X x (.bi b as):=by
 simp[RN]at h
theorem lY(S:Snd Y CL k n){x:An}{b:BI}(v:VX Y CL k W T X)(h:(match NA as with|some a=>(match Jt x with|some (g,h,y)=>decide (b=.sset)&&g==("sorted" : Ak)&&h==("set" : Ak)&&isB T g&&isB T h&&DG y&&Bp n T y a|none=>Af)|none=>Af)=Aa):OkE Y CL W X x (.bi b as):=by
 cases q1:NA as with
 |none=>rw[q1]at h;cases h
 |some a=>
  cases q2:Jt x with
  |none=>rw[q1,q2]at h;cases h
  |some t2=>
   obtain⟨g,f,y⟩:=t2;rw[q1,q2]at h;simp only[Am,A9,AU]at h;obtain⟨⟨⟨⟨⟨⟨rfl,rfl⟩,rfl⟩,h1⟩,h2⟩,h3⟩,h4⟩:=h;obtain⟨p,p',pos,pos',rfl⟩:=U_3 q2;have e:=kQ q1;subst e;obtain⟨g1,g2,_,_⟩:=Hx v h1;obtain⟨g3,g4,_,_⟩:=Hx v h2;refine FD (SE.congr (lC (S.e W T X _ a v h4).st v.room.units v.calm g1 g2 g3 g4 (by rw[CK h3];rfl)) λU=>?_) (λ_ _=>rfl) rfl rfl
   simp only[Rj,evB,R.bind_assoc,R.bind_ok]
theorem xB(S:Snd Y CL k n)(W:XW)(T:Tc)(X:Cx)(x:An)(c:E)(v:VX Y CL k W T X)(h:Bp (n+1) T x c=Aa):OkE Y CL W X x c:=by
 cases c with
 |non=>
  replace h:=La h;obtain⟨c,u,p,rfl,h⟩:=h;obtain rfl:=AX h;exact FD tS (λ_ _=>rfl) rfl rfl
 |bl b=>
  replace h:=La h;obtain⟨c,u,p,rfl,h⟩:=h;obtain rfl:=AX h;exact FD Wy (λ_ _=>rfl) rfl rfl
 |int i=>
  replace h:=La h;obtain⟨c,u,p,rfl,h⟩:=h;obtain rfl:=AX h;exact FD sE (λ_ _=>rfl) rfl rfl
 |str i=>
  replace h:=La h;obtain⟨c,u,p,rfl,h⟩:=h;obtain rfl:=AX h;exact FD Q5 (λ_ _=>rfl) rfl rfl
 |var i=>
  replace h:=Hd h;obtain⟨y,p,rfl,h⟩:=h;exact⟨tR (Mi v h),Mn (Mi v h),λz=>(nomatch z),λz=>(nomatch z)⟩
 |glob g=>exact absurd (show Af=Aa from h) Ax
 |bin op a b=>
  replace h:=UO h;obtain⟨y,op',z,p,rfl,h⟩:=h;simp only[Am,AU]at h;obtain⟨⟨rfl,h1⟩,h2⟩:=h;have ha:=(S.e W T X _ a v h1).st;have hb:=(S.e W T X _ b v h2).st;refine⟨Q7 (QI _) ha hb,(Q7 (QI _) ha hb).st,λz=>?_,λz=>nomatch z⟩
  cases op'<;>first|exact tO ha hb|cases z
 |un op a=>
  replace h:=Oe h;obtain⟨o,y,p,rfl,h⟩:=h;replace h:=CQ h;obtain⟨h0,h⟩:=h;obtain rfl:=AX h0;simp only[Am,AU]at h;obtain⟨rfl,h1⟩:=h;exact FD (tT (S.e W T X _ a v h1).st) (λ_ _=>rfl) rfl rfl
 |no a=>
  replace h:=Oe h;obtain⟨o,y,p,rfl,h⟩:=h;replace h:=CQ h;obtain⟨h0,h⟩:=h;obtain rfl:=AX h0;exact FD (VR (S.e W T X _ a v h).st) (λ_ _=>rfl) rfl rfl
 |and es=>
  replace h:=M7 h;obtain⟨o,ys,p,rfl,h⟩:=h;replace h:=CQ h;obtain⟨h0,h⟩:=h;obtain rfl:=AX h0;simp only[Am,BQ,EN]at h;exact FD ((S.es W T X _ es v h.1).2.2.2.1 _ h.2).1 (λ_ _=>rfl) rfl rfl
 |or es=>
  replace h:=M7 h;obtain⟨o,ys,p,rfl,h⟩:=h;replace h:=CQ h;obtain⟨h0,h⟩:=h;obtain rfl:=AX h0;simp only[Am,BQ,EN]at h;exact FD ((S.es W T X _ es v h.1).2.2.2.1 _ h.2).2 (λ_ _=>rfl) rfl rfl
 |cmp op a b=>
  replace h:=UM h;obtain⟨y,os,ys,p,rfl,h⟩:=h;replace h:=GQ h;obtain⟨op',rfl,h⟩:=h;replace h:=GQ h;obtain⟨z,rfl,h⟩:=h;simp only[Am,BQ,AU]at h;obtain⟨⟨⟨rfl,h1⟩,h2⟩,h3⟩:=h;exact FD (sG (Od v.room.units _) (S.e W T X _ a v h2).st (S.e W T X _ b v h3).st h1) (λ_ _=>rfl) rfl rfl
 |cmp2 op1 op2 a b c=>exact absurd (show Af=Aa from h) Ax
 |ite c a b=>
  replace h:=iX h;obtain⟨t,y,z,p,rfl,h⟩:=h;simp only[Am]at h;obtain⟨⟨h1,h2⟩,h3⟩:=h;refine FD (SE.congr (tU (S.b W T X _ c v h1) (S.e W T X _ a v h2).se (S.e W T X _ b v h3).se) λU=>?_) (λ_ _=>rfl) rfl rfl
  show ((top U c (evE Y U c)).bind λx=>(Ce x).bind λk=>if k=Aa then evE Y U a else evE Y U b)=_
  rw[R.bind_assoc]
 |call f as=>
  replace h:=NY h;obtain⟨g,pp,y,ys,qq,rfl,h⟩:=h;simp only[Am,C6,A9,AU]at h;obtain⟨⟨⟨⟨⟨p,hp,⟨rfl,rfl⟩,hl⟩,h900⟩,h1⟩,h2⟩,h3⟩:=h;obtain⟨fa,fd,ps,m1,m2,m3,m4,m5,_⟩:=v.fn p hp;have hlt:p.2.2<1000:=by omega
  rw[Iy hlt]at m4 m5;have m5:=m5 hlt;obtain⟨n2,n3,n4⟩:=Jh h2;obtain⟨a1,a2,a3,a4,a5⟩:=S.es W T X _ as v h3;obtain⟨s0,e,es',rfl,m,rfl,s1⟩:=LS h3;have q:SC X CL W (Y.fr p.2.1) (.Call (.Name p.1 pp) (y::ys) [] qq) (λU=>evE Y U (.call p.2.1 (.cons e es'))):=nU (sh:=λU=>Jr U (.cons e es')) m5 v.room (by unfold glB at h1;show X.env.scope.names.lookup p.1=_;rw[v.sc];exact eq_of_beq h1) m1 m2 m3 v.px a1 a2 (λU z=>Oy Y U _ z) (λU ds z=>by rw[Om Y U _ _ z,<-a3,hl];rfl) n2 (CK s0) (M2 m ys es' s1)
  exact⟨q.se,q.se.st,λz=>by
   have z':Y.fr p.2.1=Aa:=z;rw[z']at q;exact q,λz=>nomatch z⟩
 |bi b as=>
  unfold Bp at h;dsimp only at h;simp only[C1]at h;rcases h with (((((((h|h)|h)|h)|h)|h)|h)|h)|h
  .replace h:=NY h;obtain⟨g,pp,y,ys,qq,rfl,h⟩:=h;simp only[Am,A9]at h;obtain⟨⟨h1,h2⟩,h3⟩:=h;obtain⟨s0,e,es',rfl,m,rfl,s1⟩:=LS h3;exact ba v h1 h2 (S.es W T X _ _ v h3).2.1 s0 (M2 m _ es' s1)
  .exact wB v h
  .exact uA S v h
  .exact qY S v h
  .exact qB S v h
  .exact lY S v h
  .exact rJ S v h
  .exact qI S v h
  .exact sL S v h
 |isi a ks=>
  replace h:=GQ h;obtain⟨k',rfl,h⟩:=h;replace h:=Lb h;obtain⟨g,pp,l,qq,rfl,h⟩:=h;replace h:=K9 h;obtain⟨y,t,rfl,h⟩:=h;replace h:=Hd h;obtain⟨t,pt,rfl,h⟩:=h;simp only[Am,A9]at h;obtain⟨⟨⟨⟨⟨rfl,h1⟩,h2⟩,h3⟩,h4⟩,h5⟩:=h;obtain⟨g1,g2,_,_⟩:=Hx v h1;obtain⟨b1,b2,b3,b4⟩:=Hx v h3;obtain⟨ty,t1,t2⟩:=b9 h2;exact FD (sC t1 g1 g2 b1 b2 t2 b3 b4 (S.e W T X _ a v h5).st (CK h4)) (λ_ _=>rfl) rfl rfl
 |idx a i=>
  replace h:=iT h;obtain⟨y,z,p,rfl,h⟩:=h;simp only[Am]at h;obtain⟨⟨h1,h2⟩,h3⟩:=h;exact FD (sF (jP h1) (S.e W T X _ a v h2).st (S.e W T X _ i v h3).st) (λ_ _=>rfl) rfl rfl
 |sl a lo hi=>exact absurd (show Af=Aa from h) Ax
 |tup es=>
  replace h:=N8 h;obtain⟨ys,cc,p,rfl,h⟩:=h;simp only[Am,AU]at h;have q:=S.es W T X _ es v h.1;exact FD (VQ q.1 λU ds z=>by rw[Lh Y U _ _ z,<-q.2.2.1];omega) (λ_ _=>rfl) rfl rfl
 |lst es=>
  replace h:=Qc h;obtain⟨ys,p,rfl,h⟩:=h;simp only[Am,AU]at h;have q:=S.es W T X _ es v h.1;exact QY (Q1 q.1 λU ds z=>by rw[Lh Y U _ _ z,<-q.2.2.1];omega) (λ_ _=>rfl) rfl
 |comp elt t it c=>
  replace h:=nQ (e:=x) (F:=_) (by unfold Bp at h;exact h)
  obtain⟨y,tg,it',ifs,scope,p,rfl,h⟩:=h;replace h:=Hd h;obtain⟨w,pw,rfl,h⟩:=h;simp only[Am]at h;obtain⟨⟨⟨⟨⟨h1,h2⟩,h3⟩,h4⟩,h5⟩,h6⟩:=h;refine zZ v.calm ⟨_,_,_,_,_,_,_,_,_,_,_,_,_,rfl,(Wh v h3).1,S.i W T X Af _ _ it v rfl h1,pG t,λcl C s H fp=>lJ (v.blk h3) (λz=>A9.mpr z) h4,λcl C s H fp=>S.t _ _ _ c (v.blk h3) h5,λcl C s H fp=>(S.e W0 _ _ _ elt (v.blk h3) h6).se,Q4 h2,λU=>rfl⟩ (λ_ _=>rfl)
 |compT elt ts it c=>exact absurd (show Af=Aa from h) Ax
 |tupI it=>exact absurd (show Af=Aa from h) Ax
 |dnew=>exact noF h
 |fld o f=>exact noF h
theorem snd:∀ n,Snd Y CL k n
 |0=>jO
 |n+1=>⟨xB (snd n),xC (snd n),tF (snd n),tE (snd n),wZ (snd n),wX (snd n),xA (snd n)⟩
end
section
variable{Y:Gam}{CL:ClA}{W:XW}{k n:Ae}{T:Tc}{X:Cx}
theorem lL{t:Ae}(v:VX Y CL k W T X)(hf:∀ x,X.fn x=Aa)(h:tgC T [t] [x]=Aa):PG X (.Name x pos) (HW t):=by
 unfold tgC at h;simp only[Am,A9]at h;exact Ob (by rw[v.N];exact v.nd) (by rw[v.N];exact h.1.1) (by rw[v.sc];exact LZ h.1.2) (.inl (hf x))
theorem lM(v:VX Y CL k W T X)(hf:∀ x,X.fn x=Aa):∀(ys:Ac An)(ts:Ac Ae)(zs:Ac Ak),IG ys=Ab zs->tgC T ts zs=Aa->PGs X ys (ts.foldr (λt u=>NC (HW t) u) NG)/\ts.length=ys.length:=by
 intro ys
 induction ys with
 |nil=>
  intro ts zs e h;cases e;cases ts with
  |nil=>exact⟨mZ,rfl⟩
  |cons t ts=>cases h
 |cons y r ih=>
  intro ts zs e h;obtain⟨x,p,ws,rfl,e2,rfl⟩:=SF e;cases ts with
  |nil=>cases h
  |cons t ts=>
   have h':(T.N[t]? == Ab x&&J7 T x&&tgC T ts ws)=Aa:=h;simp only[Am,A9]at h';obtain⟨h1,h2⟩:=ih ts ws e2 h'.2;exact⟨kB (Ob (by rw[v.N];exact v.nd) (by rw[v.N];exact h'.1.1) (by rw[v.sc];exact LZ h'.1.2) (.inl (hf x))) h1 (by rw[TQ];rfl),congrArg (· + 1) h2⟩
theorem lK(v:VX Y CL k W T X)(hf:∀ x,X.fn x=Aa)(hn:(IG ys).isSome=Aa)(h:tgC T ts (tgN ys)=Aa):PG X (.Tuple ys kk pos) (Sb X.K ts.length (ts.foldr (λt u=>NC (HW t) u) NG)):=by
 cases e:IG ys with
 |none=>rw[e]at hn;cases hn
 |some zs=>
  have e2:tgN ys=zs:=by unfold tgN;rw[e];rfl
  rw[e2]at h;obtain⟨h1,h2⟩:=lM v hf ys ts zs e h;obtain⟨h3,h4,_⟩:=dP (env:=X.env) ys zs e;exact rY v.calm h1 (by rw[h3,h2]) h4
theorem eQ(ts:Ac Ae):∀ d U x,F8 ts d U≠.exn x:=λd U x h=>by
 unfold F8 at h;cases d with
 |tup xs=>
  dsimp only at h;cases e:HU ts xs U with
  |some r=>rw[e]at h;cases h
  |none=>rw[e]at h;cases h
 |_=>cases h
theorem jH{elt:An}{gs:Ac Kd}{l:Ae}:∃ b,DN (.ListComp elt gs scope pos) (Ab (.Name x pos')) l env=pure b/\(b=Aa->env.scope.names.lookup x=Ab .local):=by
 refine⟨_,rfl,λh=>?_⟩
 simp only[Am,A9]at h;exact h.1.1.2
theorem Q9{v0:An}{i:Ae}{e:E}(v:VX Y CL k W T X)(hf:∀ x,X.fn x=Aa)(hi:T.N[i]?=Ab x)(hl:J7 T x=Aa)(o:OkE Y CL W X v0 e)(hfr:fr=Aa->DI Y e=Aa):SAs X CL W fr i (.Assign [.Name x p] v0 pos) (λU=>evE Y U e):=by
 have hN:X.N.Nodup:=by rw[v.N];exact v.nd
 have hi':X.N[i]?=Ab x:=by rw[v.N];exact hi
 have hx:Loc X.env.scope x:=by rw[v.sc];exact LZ hl
 have sc:SC X CL W fr v0 (λU=>evE Y U e):=by
  cases fr with
  |false=>exact o.se.sc
  |true=>exact o.nw (hfr rfl)
 cases hc:Lm v0 with
 |true=>exact SC.sas hN hi' hx sc (Md hc) (.inl (hf x))
 |false=>
  obtain⟨tg,iter,elt,ifs,scope,pos2,N',ts,fi,fc,fe,as,g,rfl,B,h2,hGG,hg,ht,he,hs,ef⟩:=o.cp hc;obtain⟨b,hb,hb'⟩:=jH (elt:=elt) (gs:=[⟨tg,iter,ifs,0⟩]) (scope:=scope) (pos:=pos2) (pos':=p) (x:=x) (l:=pos.line) (env:=X.env);cases b with
  |false=>exact SC.sas hN hi' hx sc hb (.inl (hf x))
  |true=>
   have q:=jS (pos2:=pos) v.calm B h2 hGG hg ht he hs hN hi' (hb' rfl) hb;have q':SAs X CL W Aa i (.Assign [.Name x p] (.ListComp elt [⟨tg,iter,ifs,0⟩] scope pos2) pos) (λU=>evE Y U e):=by
    have:(λU=>evE Y U e)=_:=funext ef
    rw[this];exact q
   cases fr with
   |true=>exact q'
   | false=>exact λA=>PS.weak (q' A) λD Z H ⟨hA,U,gd,z⟩=>⟨hA,U,gd,by
     dsimp only at z ⊢;cases e0:evE Y U e with
     |ok d=>
      rw[e0]at z;exact λv' H' s' r'=>z v' H' s' ⟨r'.1,λ_=>r'.2 rfl⟩
     |exn y=>rw[e0]at z;exact z
     | bad=>rw[e0]at z;exact z⟩
theorem TM(U:Rho)(e:E)(h:∀ i,e≠.var i):evS Y U (.ret e)=O.of U (evE Y U e) λd=>.ret d (DI Y e):=by
 have k:∀ b:Aj,b=Af->top U e (evE Y U e)=evE Y U e->(O.of U (top U e (evE Y U e)) λd=>.ret d (DI Y e||b))=O.of U (evE Y U e) λd=>.ret d (DI Y e):=λb hb ht=>by
  rw[hb,ht];simp only[Fb]
 rw[pN];cases e with
 |var i=>exact absurd rfl (h i)
 |_=>exact k _ rfl rfl
structure DefX (X:Cx):Prop where
 fn:∀ x,X.fn x=Aa
 ex:X.ex=[]
 st:X.stack=X.env::X.outer
 fm:X.env.frame=Ab X.env.locals
structure SndS (Y:Gam) (CL:ClA) (k:Ae) (n:Ae):Prop where
 s:∀(W:XW)(T:Tc)(X:Cx)(x:A7)(c:S),VX Y CL k W T X->DefX X->NJ n T x c=Aa->SS X CL W x (λU=>evS Y U c)
 ss:∀(W:XW)(T:Tc)(X:Cx)(x:Ac A7)(c:Ss),VX Y CL k W T X->DefX X->chkSs n T x c=Aa->SSs X CL W x (λU=>evSs Y U c)
theorem qO(x y:D)(e:Ex):J6 x y≠.exn e:=by
 intro z;cases x with
 |lst xs=>cases y<;>first|exact Mb z|cases z
 |tup xs=>cases y<;>first|exact Mb z|cases z
 |str x=>
  cases y with
  |int i=>
   have z':(if BY x.length=Aa then FE (Mz x) i else .bad)=.exn e:=z
   split at z'
   .exact Mb z'
   .cases z'
  |_=>cases z
 |dic kvs=>
  have z':(match (KP y).bind (Rl kvs) with|some d=>R.ok d|none=>.bad)=.exn e:=z
  cases h:(KP y).bind (Rl kvs) with
  |none=>rw[h]at z';cases z'
  |some k=>rw[h]at z';cases z'
 |_=>cases z
theorem U_1{i:Ae}{y:Ex}:EX U i≠.exn y:=λz'=>by
 unfold EX at z';split at z'<;>cases z'
theorem N5(Y:Gam)(U:Rho)(e:E)(h:O6 e=Aa)(y:Ex):top U e (evE Y U e)≠.exn y:=by
 cases e with
 |var i=>
  intro z;have z':EX U i=.exn y:=z;unfold EX at z';split at z'<;>cases z'
 |idx a b=>
  cases a with
  |var i=>
   cases b with
   |int j=>
    intro z;have z':(EX U i).bind (λx=>J6 x (.int j))=.exn y:=z
    cases e1:EX U i with
    |bad=>rw[e1]at z';cases z'
    |exn w=>exact U_1 e1
    |ok d=>rw[e1]at z';exact qO _ _ _ z'
   |_=>exact noF h
  |_=>exact noF h
 |bin op a b=>
  have h:(Xg op&&RV a b)=Aa:=h;rw[Am]at h;obtain⟨h0,h⟩:=h;cases op with
  |Sub=>
   cases a with
   |var i=>
    cases b with
    |int j=>
     intro z;have z':(EX U i).bind (λx=>Dr .Sub x (.int j))=.exn y:=z
     cases e1:EX U i with
     |bad=>rw[e1]at z';cases z'
     |exn w=>exact U_1 e1
     |ok d=>rw[e1]at z';cases d<;>cases z'
    |_=>exact noF h
   |_=>exact noF h
  |_=>exact absurd (show Af=Aa from h0) Ax
 |int i=>intro z;cases z
 |bl i=>intro z;cases z
 |str i=>intro z;cases z
 |non=>intro z;cases z
 |_=>cases h
theorem PY(Y:Gam)(U:Rho):∀(es:Es),KH es=Aa->∀ y,evB Y U es≠.exn y
 |.nil,_,y=>λz=>by cases z
 |.cons e es,h,y=>λz=>by
  unfold KH at h;rw[Am]at h;rw[Qw]at z;cases e1:top U e (evE Y U e) with
  |bad=>rw[e1]at z;cases z
  |exn w=>exact N5 Y U e h.1 w e1
  |ok d=>
   rw[e1,R.bind_ok]at z;cases e2:evB Y U es with
   |bad=>rw[e2]at z;cases z
   |exn w=>exact PY Y U es h.2 w e2
   |ok ds=>rw[e2]at z;cases z
theorem VX.pw(v:VX Y CL k W T X)(own:F4 (model X.prog X.w) X.A X.env Xw):VX Y CL k W0 T (Cx.pw X pins Xw):=⟨v.sc,v.kd,v.N,v.nd,v.calm,v.room,v.bl,v.fn,own,V1,Xh,v.xt,v.gl⟩
theorem Tp(o:O):(o.seq λU'=>O.next U')=o:=by cases o<;>rfl
theorem STB.congr{st:Ac A7}{f g:Rho->O}(h:STB X CL st f)(e:∀ U,g U=f U):STB X CL st g:=by
 have:g=f:=funext e;rw[this];exact h
theorem VM(Sn:Snd Y CL k n)(v:VX Y CL k W T X)(hf:DefX X){st:A7}{s:S}(h:Oq n T st s=Aa):STB X CL [st] (λU=>evSs Y U (.cons s .nil))/\∀ U y U',evSs Y U (.cons s .nil)=.exn y U'->U'=U:=by
 have seq:∀ U,evSs Y U (.cons s .nil)=evS Y U s:=λU=>Tp _
 have ofn:∀{r:R D}{f:D->Rho}{U U':Rho}{y:Ex},(O.of U r λd=>O.next (f d))=.exn y U'->U'=U:=λ{r f U U' y} z=>by
  cases r with
  |ok d=>cases z
  |exn w=>cases z;rfl
  |bad=>cases z
 have call:∀{e:An}{f:Ae}{as:Es},Bp n T e (.call f as)=Aa->KH as=Aa->∃ g pp y ys qq,e=.Call (.Name g pp) (y::ys) [] qq/\∃ p∈T.fns,g=p.1/\f=p.2.1/\p.2.2=ys.length+1/\ys.length<900/\glB T g=Aa/\HZ g=Aa/\∃ m,n=m+1/\chkEs m T (y::ys) as=Aa:=λ{e f as} h _=>by
  cases n with
  |zero=>exact noF h
  |succ m=>
   replace h:=NY h;obtain⟨g,pp,y,ys,qq,rfl,h⟩:=h;simp only[Am,C6,A9,AU]at h;obtain⟨⟨⟨⟨⟨p,hp,⟨e1,e2⟩,hl⟩,h900⟩,h1⟩,h2⟩,h3⟩:=h;exact⟨g,pp,y,ys,qq,rfl,p,hp,e1.symm,e2.symm,hl,h900,h1,h2,m,rfl,h3⟩
 cases s with
 |expr e0=>
  replace h:(Mt e0 λf as=>Mr st λv=>Bp n T v (.call f as)&&KH as)=Aa:=h
  replace h:=UN h;obtain⟨f,as,rfl,h⟩:=h;replace h:=Qd h;obtain⟨v0,pos,rfl,h⟩:=h;rw[Am]at h;obtain⟨g,pp,y,ys,qq,rfl,p,hp,rfl,rfl,hl,h900,h1,h2,m,rfl,h3⟩:=call h.1 h.2;obtain⟨fa,fd,ps,m1,m2,m3,m4,m5,_⟩:=v.fn p hp;have hlt:p.2.2<1000:=by omega
  rw[Iy hlt]at m4 m5;have m5:=m5 hlt;obtain⟨n2,n3,n4⟩:=Jh h2;obtain⟨s0,e,es',rfl,m',rfl,s1⟩:=LS h3;have hlen:ys.length+1=(Es.cons e es').len:=(snd (Y:=Y) (CL:=CL) (k:=k) (m'+1)).es W T X _ _ v h3 |>.2.2.1;refine⟨STB.congr (jL (X:=X) (fs:=λU=>evA Y U (.cons e es')) (sh:=λU=>Jr U (.cons e es')) hf.ex m5 v.room (by unfold glB at h1;show X.env.scope.names.lookup p.1=_;rw[v.sc];exact eq_of_beq h1) m1 m2 m3 (λU z=>Oy Y U _ z) (λU ds z=>by rw[Om Y U _ _ z,<-hlen,hl]) (λU=>PY Y U _ h.2) n2 (CK s0) (M2 m' ys es' s1) (λpins Xw own=>by
   obtain⟨a1,a2,_⟩:=(snd (Y:=Y) (CL:=CL) (k:=k) (m'+1)).es W0 T (Cx.pw X pins Xw) _ _ (v.pw own) h3;exact⟨a1,a2⟩) (Md rfl)) λU=>seq U,λU y U' z=>?_⟩
  rw[seq]at z;exact ofn (f:=λ_=>U) z
 |asg i b0 e0=>
  replace h:(!b0&&(Mt e0 λf as=>Ny st λy v=>T.N[i]? == Ab y&&J7 T y&&Bp n T v (.call f as)&&KH as))=Aa:=h
  replace h:=CQ h;obtain⟨hb,h⟩:=h;cases b0 with
  |true=>exact absurd (show Af=Aa from hb) Ax
  |false=>
  replace h:=UN h;obtain⟨f,as,rfl,h⟩:=h;replace h:=Qp h;obtain⟨y0,p0,v0,pos,rfl,h⟩:=h;simp only[Am,A9]at h;obtain⟨⟨⟨i1,i2⟩,hc⟩,hsim⟩:=h;obtain⟨g,pp,y,ys,qq,rfl,p,hp,rfl,rfl,hl,h900,h1,h2,m,rfl,h3⟩:=call hc hsim;obtain⟨fa,fd,ps,m1,m2,m3,m4,m5,_⟩:=v.fn p hp;have hlt:p.2.2<1000:=by omega
  rw[Iy hlt]at m4 m5;have m5:=m5 hlt;obtain⟨n2,n3,n4⟩:=Jh h2;obtain⟨s0,e,es',rfl,m',rfl,s1⟩:=LS h3;have hlen:ys.length+1=(Es.cons e es').len:=(snd (Y:=Y) (CL:=CL) (k:=k) (m'+1)).es W T X _ _ v h3 |>.2.2.1;refine⟨STB.congr (lV (X:=X) (fs:=λU=>evA Y U (.cons e es')) (sh:=λU=>Jr U (.cons e es')) (i:=i) hf.ex m5 v.room (by unfold glB at h1;show X.env.scope.names.lookup p.1=_;rw[v.sc];exact eq_of_beq h1) m1 m2 m3 (λU z=>Oy Y U _ z) (λU ds z=>by rw[Om Y U _ _ z,<-hlen,hl]) (λU=>PY Y U _ hsim) n2 (CK s0) (M2 m' ys es' s1) (λpins Xw own=>by
   obtain⟨a1,a2,_⟩:=(snd (Y:=Y) (CL:=CL) (k:=k) (m'+1)).es W0 T (Cx.pw X pins Xw) _ _ (v.pw own) h3;exact⟨a1,a2⟩) (by rw[v.N];exact v.nd) (by rw[v.N];exact i1) (by rw[v.sc];exact LZ i2) (.inl (hf.fn _)) (Md rfl)) λU=>seq U,λU y U' z=>?_⟩
  rw[seq]at z;exact ofn (f:=λd=>U.set i (Ab (d,Af))) z
 |_=>exact noF h
theorem pV(op:DW)(x y:D)(e:Ex):Cf op x y≠.exn e:=λz=>by
 rcases T8 op x y with w|⟨b,w⟩<;>(rw[w]at z;cases z)
theorem lD(x:D)(e:Ex):Ce x≠.exn e:=by
 unfold Ce;split<;>first|(intro z;cases z;done)|(split<;>intro z<;>cases z)
theorem Uw(Y:Gam)(U:Rho)(c:E)(h:RU c=Aa)(y:Ex):(top U c (evE Y U c)).bind Ce≠.exn y:=by
 have key:∀ e,top U c (evE Y U c)≠.exn e:=by
  cases c with
  |var i=>exact N5 Y U (.var i) rfl
  |cmp op a b=>
   unfold RU at h;rw[Am]at h;intro e z;have z':((top U a (evE Y U a)).bind λx=>(top U b (evE Y U b)).bind λy=>Cf op x y)=.exn e:=by
    have e0:evE Y U (.cmp op a b)=((top U a (evE Y U a)).bind λx=>(top U b (evE Y U b)).bind λy=>Cf op x y):=pQ Y U op a b
    rw[<-e0];exact z
   cases e1:top U a (evE Y U a) with
   |bad=>rw[e1]at z';cases z'
   |exn w=>exact N5 Y U a h.1 w e1
   |ok d=>
    rw[e1,R.bind_ok]at z';cases e2:top U b (evE Y U b) with
    |bad=>rw[e2]at z';cases z'
    |exn w=>exact N5 Y U b h.2 w e2
    |ok d2=>rw[e2,R.bind_ok]at z';exact pV _ _ _ _ z'
  |_=>cases h
 intro z;cases e1:top U c (evE Y U c) with
 |bad=>rw[e1]at z;cases z
 |exn w=>exact key w e1
 |ok d=>rw[e1,R.bind_ok]at z;exact lD _ _ z
theorem wO(Sn:Snd Y CL k n)(v:VX Y CL k W T X)(hf:DefX X):∀(m:Ae){st:A7}{s:S},OW m n T st s=Aa->STB X CL [st] (λU=>evSs Y U (.cons s .nil))/\∀ U y U',evSs Y U (.cons s .nil)=.exn y U'->U'=U:=by
 intro m
 induction m with
 |zero=>intro st s h;exact VM Sn v hf h
 |succ m ih=>
  intro st s h;replace h:=orT (a:=Oq n T st s) (b:=Wg (OW m n T) n T st s) h;rcases h with h|h
  .exact VM Sn v hf h
  .cases s with
   |ife c a b=>
    replace h:=UJ h;obtain⟨a,rfl,h⟩:=h;replace h:=UJ h;obtain⟨b,rfl,h⟩:=h;replace h:=QJ h;obtain⟨t,xs,ys,pos,rfl,h⟩:=h;replace h:=GQ h;obtain⟨xs,rfl,h⟩:=h;replace h:=GQ h;obtain⟨ys,rfl,h⟩:=h;simp only[Am]at h;obtain⟨⟨⟨h1,h2⟩,h3⟩,h4⟩:=h;obtain⟨a1,a2⟩:=ih h3;obtain⟨b1,b2⟩:=ih h4;have ev:∀ U,evSs Y U (.cons (.ife c (.cons a .nil) (.cons b .nil)) .nil)=O.of U ((top U c (evE Y U c)).bind Ce) λk=>if k=Aa then evSs Y U (.cons a .nil) else evSs Y U (.cons b .nil):=λU=>Tp _
    refine⟨STB.congr (lU (λpins Xw own=>(Sn.b W0 T (Cx.pw X pins Xw) _ _ (v.pw own) h1)) (λU y=>Uw Y U c h2 y) a1 b1) λU=>ev U,λU y U' z=>?_⟩
    rw[ev]at z;cases e1:(top U c (evE Y U c)).bind Ce with
    |bad=>rw[e1]at z;cases z
    |exn w=>exact absurd e1 (Uw Y U c h2 w)
    |ok k=>
     rw[e1,O.of_ok]at z;cases k with
     |true=>exact a2 U y U' z
     |false=>exact b2 U y U' z
   |_=>exact noF h
theorem Nj{i:Ae}{e:Al}(v:VX Y CL k W T X)(h:isV T x i=Aa):PE (Cx.hot X e) (.Name x pos) (J5 i):=by
 unfold isV at h;simp only[Am,A9]at h;obtain⟨h2,h3,_⟩:=Jh h.2;exact VZ (by show X.N[i]?=_;rw[v.N];exact h.1.1) (by show Vis X.env.scope x;rw[v.sc];exact UZ h.1.2) h2 h3
theorem VF{x:Ae}{t:An}{c:E}:∀{n:Ae},Jq n T x t c=Aa->∀ U r,top U c r=r:=λ{n} h=>by
 cases n with
 |zero=>exact noF h
 |succ n=>
  cases c with
  |var i=>exact noF h
  |_=>exact λ_ _=>rfl
theorem kM(v:VX Y CL k W T X)(e:Al):∀(ts:Ac An)(ks:Ac Ki),RH T ts ks=Aa->∃ cs:Ac (Ae×Al),ks=cs.map (λq=>Ki.cls q.1)/\cs.length=ts.length/\PA (Cx.hot X e) ts (Xd (cs.map λq:Ae×Al=>q.2))/\∀ q∈cs,No X.K CL Y.up q.1 q.2:=by
 intro ts
 induction ts with
 |nil=>
  intro ks h;obtain rfl:=Jk h;exact⟨[],rfl,rfl,F7,λq hq=>nomatch hq⟩
 |cons t ts ih=>
  intro ks h;replace h:=JW h;obtain⟨kk,ks,rfl,h⟩:=h;replace h:=Hd h;obtain⟨t,p,rfl,h⟩:=h;replace h:=CQ h;obtain⟨h,h4⟩:=h;cases kk with
  |cls c=>
   replace h:(inX T.exs t c&&glB T t&&HZ t)=Aa:=h;simp only[Am]at h;obtain⟨⟨h1,h2⟩,h3⟩:=h;obtain⟨cs,e1,e2,e3,e4⟩:=ih ks h4;obtain⟨C,m1,m3,_⟩:=v.xt.ex _ (Np h1);obtain⟨n2,_,_⟩:=Jh h3;refine⟨(c,C)::cs,by rw[e1];rfl,by rw[A5,A5,e2],?_,λq hq=>?_⟩
   .exact EH (U_7 (X:=Cx.hot X e) (v:=.ref C) (by unfold glB at h2;show X.env.scope.names.lookup t=_;rw[v.sc];exact eq_of_beq h2) m1 rfl n2) e3 rfl
   .rcases AJ.mp hq with rfl|hq
    .exact m3
    .exact e4 q hq
  |_=>exact noF h
theorem OG{e:Al}{f:An->E->Aj}(ih:∀ t c,f t c=Aa->SE (Cx.hot X e) CL W0 t (λU=>evE Y U c)):∀(xs:Ac An)(es:Es),Nz f xs es=Aa->SA (Cx.hot X e) CL W0 xs (λU=>evA Y U es)/\xs.length=es.len
 |[],.nil,_=>⟨VU,rfl⟩
 |[],.cons _ _,h=>nomatch (show Af=Aa from h)
 |_::_,.nil,h=>nomatch (show Af=Aa from h)
 |x::xs,.cons c es,h=>by
  have h:(DG x&&f x c&&Nz f xs es)=Aa:=h;simp only[Am]at h;obtain⟨⟨h1,h2⟩,h3⟩:=h;obtain⟨q,l⟩:=OG ih xs es h3;exact⟨Vi (ih x c h2) q (CK h1),by rw[A5,l];rfl⟩
theorem WP(v:VX Y CL k W T X)(e:Al)(x:Ae):∀(n:Ae)(t:An)(c:E),Jq n T x t c=Aa->SE (Cx.hot X e) CL W0 t (λU=>evE Y U c):=by
 intro n
 induction n with
 |zero=>intro t c h;exact noF h
 |succ n ih=>
  intro t c h;cases c with
  |bl b=>
   replace h:=La h;obtain⟨k,u,p,rfl,h⟩:=h;obtain rfl:=AX h;exact Wy
  |no a=>
   replace h:=Oe h;obtain⟨o,y,p,rfl,h⟩:=h;replace h:=CQ h;obtain⟨h0,h⟩:=h;obtain rfl:=AX h0;have q:=(ih _ _ h).st;refine SE.congr (VR q) λU=>?_
   show ((top U a (evE Y U a)).bind λx=>(EJ x).bind λb=>R.ok (D.bl (!b)))=_
   rw[VF h]
  |and es=>
   cases es with
   |nil=>exact noF h
   |cons a as=>
    cases as with
    |nil=>
     replace h:=M7 h;obtain⟨o,l,p,rfl,h⟩:=h;replace h:=CQ h;obtain⟨h0,h⟩:=h;obtain rfl:=AX h0;replace h:=GQ h;obtain⟨y,rfl,h⟩:=h;exact SE.congr (Q6 (ih _ _ h)) λU=>rfl
    |cons a' as=>
     replace h:=M7 h;obtain⟨o,l,p,rfl,h⟩:=h;replace h:=CQ h;obtain⟨h0,h⟩:=h;obtain rfl:=AX h0;replace h:=JW h;obtain⟨y,l,rfl,h⟩:=h;replace h:=JW h;obtain⟨z,zs,rfl,h⟩:=h;exact SE.congr (VT (ih _ _ (CQ h).1) (ih _ _ (CQ h).2)) λU=>rfl
  |isi a ks=>
   replace h:=Qb h;obtain⟨i,rfl,h⟩:=h;replace h:=mO h;obtain⟨g,pp,w,pq,u,pr,rfl,h⟩:=h;simp only[Am,A9]at h;obtain⟨⟨⟨⟨rfl,rfl⟩,h3⟩,h4⟩,h⟩:=h;obtain⟨g1,g2,_,_⟩:=Hx v h3;replace h:=JW h;obtain⟨kk,ks,rfl,h⟩:=h;cases kk with
   |verr=>
    replace h:=CQ h;obtain⟨h0,h⟩:=h;obtain rfl:=Jk h0;replace h:=Hd h;obtain⟨t,pt,rfl,h⟩:=h;simp only[Am,A9]at h;obtain⟨h5,h6⟩:=h;obtain⟨b1,b2,_,_⟩:=Hx v h6;rw[h5]at b1 b2 ⊢;exact tV (X:=Cx.hot X e) v.xt.xc g1 g2 b1 b2 (Mn (Nj v h4)) rfl
   |cls c=>
    cases ks with
    |nil=>
     replace h:=Hd h;obtain⟨t,pt,rfl,h⟩:=h;simp only[Am]at h;obtain⟨⟨h5,h6⟩,h7⟩:=h;obtain⟨C,m1,m3,_⟩:=v.xt.ex _ (Np h5);obtain⟨n2,_,_⟩:=Jh h7;exact sD (X:=Cx.hot X e) v.xt.xc g1 g2 (by unfold glB at h6;show X.env.scope.names.lookup _=_;rw[v.sc];exact eq_of_beq h6) m1 m3 n2 (Mn (Nj v h4)) rfl
    |cons k2 ks=>
     replace h:=N8 h;obtain⟨ts,z1,z2,rfl,h⟩:=h;replace h:=CQ h;obtain⟨h5,h6⟩:=h;obtain⟨cs,e1,e2,e3,e4⟩:=kM v e _ _ h5;have hne:cs≠[]:=by rintro rfl;cases e1
     rw[e1];exact tW (X:=Cx.hot X e) (W:=W0) (up:=Y.up) v.xt.xc g1 g2 e3 hne (by rw[e2];exact AX h6) e4 (Mn (Nj v h4)) rfl
   |_=>exact noF h
  |call f as=>exact absurd (show Af=Aa from h) Ax
  |str s=>
   replace h:=La h;obtain⟨k,u,p,rfl,h⟩:=h;obtain rfl:=AX h;exact Q5
  |lst es=>
   replace h:=Qc h;obtain⟨xs,p,rfl,h⟩:=h;simp only[Am,AU]at h;obtain⟨q,ql⟩:=OG (ih) _ _ h.1;exact(Q1 q λU ds z=>by rw[Lh Y U _ _ z,<-ql];omega).se
  |tup es=>
   replace h:=N8 h;obtain⟨xs,cc,p,rfl,h⟩:=h;simp only[Am,AU]at h;obtain⟨q,ql⟩:=OG (ih) _ _ h.1;exact VQ q λU ds z=>by rw[Lh Y U _ _ z,<-ql];omega
  |bin op a b=>
   replace h:=CQ h;obtain⟨h0,h⟩:=h;obtain rfl:=AX h0;replace h:=Qb h;obtain⟨i,rfl,h⟩:=h;replace h:=UO h;obtain⟨l,o,y,p,rfl,h⟩:=h;replace h:=CQ h;obtain⟨h0,h⟩:=h;obtain rfl:=AX h0;replace h:=Hd h;obtain⟨w,pw,rfl,h⟩:=h;replace h:=CQ h;obtain⟨h1,h2⟩:=h;refine SE.congr (Q7 (QI .Add) (Mn (Nj v h1)) (ih _ _ h2).st) λU=>?_
   show ((EX U i).bind λx=>(top U b (evE Y U b)).bind λy=>Dr .Add x y)=_
   rw[VF h2]
  |fld o f=>
   replace h:=Qb h;obtain⟨i,rfl,h⟩:=h;replace h:=Qo h;obtain⟨w,g,p,rfl,h⟩:=h;replace h:=Hd h;obtain⟨w,pw,rfl,h⟩:=h;simp only[Am,A9]at h;obtain⟨⟨⟨rfl,rfl⟩,h3⟩,h4⟩:=h;exact lB (X:=Cx.hot X e) v.xt.xc (λc C z=>v.xt.nf c C z _ h3) (Mn (Nj v h4)) rfl
  |_=>exact noF h
theorem zO(v:VX Y CL k W T X)(hf:DefX X)(e:Al)(x:Ae):∀(n:Ae)(sts:Ac A7)(ss:Ss),RB n T x sts ss=Aa->SSs (Cx.hot X e) CL W0 sts (λU=>evSs Y U ss):=by
 intro n
 induction n with
 |zero=>intro t c h;exact noF h
 |succ n ih=>
  intro sts ss0 h;cases ss0 with
  |nil=>
   obtain rfl:=Jk h;exact UT
  |cons s ss0=>
   replace h:=JW h;obtain⟨st,r,rfl,h⟩:=h;replace h:=CQ h;obtain⟨h,h5⟩:=h;cases s with
   |asg i b e0=>
    replace h:=Qp h;obtain⟨y,py,v0,pos,rfl,h⟩:=h;simp only[Am,A9]at h;obtain⟨⟨⟨⟨h1,h2⟩,h3⟩,h4⟩,h6⟩:=h;cases b with
    |true=>
     cases e0 with
     |lst es=>
      have sc:SC (Cx.hot X e) CL W0 Aa v0 (λU=>evE Y U (.lst es)):=by
       cases n with
       |zero=>exact absurd (show Af=Aa from h4) Ax
       |succ n=>
        replace h4:=Qc h4;obtain⟨l,pl,rfl,h4⟩:=h4;obtain⟨q,ql⟩:=OG (WP v e x n) _ _ (CQ h4).1;have hle:=AX (CQ h4).2;exact Q1 q λU ds z=>by rw[Lh Y U _ _ z,<-ql];omega
      have q:=Qi (Vf (SC.sas (X:=Cx.hot X e) (pos:=pos) (pos':=py) (by show X.N.Nodup;rw[v.N];exact v.nd) (by show X.N[i]?=_;rw[v.N];exact h1) (by show Loc X.env.scope _;rw[v.sc];exact LZ h2) sc (Md h3) (.inl (hf.fn _)))) (ih _ _ h5)
      have ef:(λU=>evSs Y U (.cons (.asg i Aa (.lst es)) ss0))=λU=>(O.of U (evE Y U (.lst es)) λd=>setF U i d).seq λU=>evSs Y U ss0:=by
       funext U
       show (evS Y U (.asg i Aa (.lst es))).seq _=_;rw[iH];rfl
      rw[ef];exact q
     |_=>exact absurd (show Af=Aa from h6) Ax
    |false=>
    exact Qi (tH (X:=Cx.hot X e) (by show X.N.Nodup;rw[v.N];exact v.nd) (by show X.N[_]?=_;rw[v.N];exact h1) (by show Loc X.env.scope _;rw[v.sc];exact LZ h2) (WP v e x n _ _ h4) (Md h3) (.inl (hf.fn _))) (ih _ _ h5)
   |ife c a b=>exact absurd (show Af=Aa from h) Ax
   |ret e0=>exact absurd (show Af=Aa from h) Ax
   |app i e0=>exact absurd (show Af=Aa from h) Ax
   |_=>exact noF h
theorem uN(v:VX Y CL k W T X)(h:hdB T g c=Aa):Su X CL Y.up g c:=by
 unfold hdB at h;simp only[Am]at h;obtain⟨⟨⟨i1,i0⟩,i2⟩,i3⟩:=h;obtain⟨C,m1,m3,m4⟩:=v.xt.ex _ (Np i1);obtain⟨C0,r1,r2⟩:=v.xt.rz _ (Np i0);obtain⟨n2,_,_⟩:=Jh i3;refine⟨C,by unfold glB at i2;show X.env.scope.names.lookup g=_;rw[v.sc];exact eq_of_beq i2,m1,n2,?_,λc' D hD=>m4 c' D hD⟩
 have e0:=m1.symm.trans r2;cases e0;exact v.xt.xc _ _ r1
theorem wY(Z_:SndS Y CL k n)(W:XW)(T:Tc)(X:Cx)(st:A7)(c:S)(v:VX Y CL k W T X)(hf:DefX X)(h:NJ (n+1) T st c=Aa):SS X CL W st (λU=>evS Y U c):=by
  have E:=snd (Y:=Y) (CL:=CL) (k:=k) n;cases c with
  |pass=>exact absurd (show Af=Aa from h) Ax
  |brk=>exact absurd (show Af=Aa from h) Ax
  |cont=>exact absurd (show Af=Aa from h) Ax
  |asg i fresh e=>
    replace h:=Qp h;obtain⟨x,px,v0,pos,rfl,h⟩:=h;simp only[Am,A9]at h;obtain⟨⟨h1,h2⟩,h3⟩:=h;have o:=E.e W T X _ e v h3;cases fresh with
    |false=>exact VO (Q9 (fr:=Af) v hf.fn h1 h2 o (λz=>nomatch z))
    |true=>
      cases hn:DI Y e with
      |true=>
        refine SS.ref (Vf (Q9 (fr:=Aa) v hf.fn h1 h2 o (λ_=>hn))) λU=>.inr ?_
        show O.of U (evE Y U e) (λd=>if Aa=Aa then (if DI Y e=Aa then (match d with
          |.lst xs=>.next (U.set i (Ab (.lst xs,Aa)))
          |.dic xs=>.next (U.set i (Ab (.dic xs,Aa)))
          | _=>.bad) else .bad) else .next (U.set i (Ab (d,Af))))=_
        rw[hn];rfl
      |false=>
        refine SS.ref (VO (Q9 (fr:=Af) v hf.fn h1 h2 o (λz=>nomatch z))) λU=>?_
        have e0:evS Y U (.asg i Aa e)=O.of U (evE Y U e) (λd=>if Aa=Aa then (if DI Y e=Aa then (match d with
          |.lst xs=>.next (U.set i (Ab (.lst xs,Aa)))
          |.dic xs=>.next (U.set i (Ab (.dic xs,Aa)))
          | _=>.bad) else .bad) else .next (U.set i (Ab (d,Af)))):=rfl
        rw[e0,hn];cases evE Y U e with
        |ok d=>exact .inl rfl
        |exn y=>exact .inr rfl
        |bad=>exact .inl rfl
  |asgT ts e=>exact absurd (show Af=Aa from h) Ax
  |expr e=>
    replace h:=Qd h;obtain⟨v0,pos,rfl,h⟩:=h;simp only[Am]at h;exact mE (E.e W T X _ e v h.2).se (Md h.1)
  |ret e=>
    replace h:=iU h;obtain⟨o,pos,rfl,h⟩:=h;cases o with
    |none=>exact noF h
    |some v0=>
    replace h:Bp n T v0 e=Aa:=h;have o:=E.e W T X _ e v h;cases hv:DI Y e with
    |true=>
      refine SS.ref (mC (o.nw hv)) λU=>.inr ?_
      rw[TM U e (λi z=>by subst z;cases hv),hv]
    |false=>
      cases e with
      |var i=>
        cases n with
        |zero=>exact noF h
        |succ n=>
          replace h:=Hd h;obtain⟨y,py,rfl,h⟩:=h;exact lZ (Mi v h)
      |_=>
        refine SS.ref (mB o.se) λU=>.inr ?_
        rw[TM U _ (by intro i z;cases z),hv]
  |retN=>exact absurd (show Af=Aa from h) Ax
  |ife c a b=>
    replace h:=QJ h;obtain⟨t,xs,ys,pos,rfl,h⟩:=h;simp only[Am]at h;exact WA (E.b W T X _ c v h.1.1) (Z_.ss W T X _ a v hf h.1.2) (Z_.ss W T X _ b v hf h.2)
  |lnd c a b=>
    replace h:=QJ h;obtain⟨t,xs,ys,pos,rfl,h⟩:=h;simp only[Am]at h;exact WA (nV (E.b W T X _ c v h.1.1)) (Z_.ss W T X _ a v hf h.1.2) (Z_.ss W T X _ b v hf h.2)
  |fors t it body=>
    replace h:=UL h;obtain⟨tg,it',xs,ys,pos,rfl,h⟩:=h;replace h:=CQ h;obtain⟨hn,h⟩:=h;obtain rfl:=Jk hn;replace h:=Hd h;obtain⟨y,py,rfl,h⟩:=h;simp only[Am]at h;obtain⟨⟨⟨h1,h2⟩,h3⟩,h4⟩:=h;exact VN v.own v.calm (qQ t) (lL v hf.fn h1) (E.i W T X Af _ _ it v rfl h3) (Z_.ss W T X _ body v hf h4) (Q4 h2) (λ_ _ _ z=>nomatch z)
  |forT ts it body=>
    replace h:=UL h;obtain⟨tg,it',xs,zs,pos,rfl,h⟩:=h;replace h:=CQ h;obtain⟨hn,h⟩:=h;obtain rfl:=Jk hn;replace h:=N8 h;obtain⟨ys,cc,py,rfl,h⟩:=h;simp only[Am]at h;obtain⟨⟨⟨⟨h0,h1⟩,h2⟩,h3⟩,h4⟩:=h;exact VN v.own v.calm (uO ts) (lK v hf.fn h0 h1) (E.i W T X Aa _ _ it v rfl h3) (Z_.ss W T X _ body v hf h4) (Q4 h2) (eQ ts)
  |whl c body=>exact absurd (show Af=Aa from h) Ax
  |rais c as=>
    replace h:(!(T.rzs.any λp=>p.2==c)||(OH st λa b=>b.isNone&&(match a with|some e=>Nn e λg x xs=>inX T.rzs g c&&glB T g&&HZ g&&decide (xs.length<=1000)&&chkEs n T (x::xs) as|none=>Af)))=Aa:=h
    cases hc:T.rzs.any (λp=>p.2==c) with
    |false=>
      have hb:∀ ds,Y.xn c ds=.bad:=v.xt.xb c λp hp z=>by
        have:T.rzs.any (λp=>p.2==c)=Aa:=C6.mpr ⟨p,hp,A9.mpr z⟩
        rw[hc]at this;cases this
      intro Fz B pins s Z H D I ⟨U,x,p⟩;have p':Cq X.K CL Fz B W (O.of U (noX (evA Y U as)) λxs=>O.of U (Y.xn c xs) λx=>.exn x U) D:=p
      cases e1:evA Y U as with
      |bad=>rw[e1]at p';exact p'.elim
      |exn y=>rw[e1]at p';exact p'.elim
      |ok ds=>
        rw[e1]at p';have p2:Cq X.K CL Fz B W (O.of U (Y.xn c ds) λx=>.exn x U) D:=p'
        rw[hb ds]at p2;exact p2.elim
    |true=>
      rw[hc,XC,Bool.false_or]at h;replace h:=iV h;obtain⟨ea,eb,pos,rfl,h⟩:=h;replace h:=CQ h;obtain⟨h0,h⟩:=h;obtain rfl:=YC.mp h0;cases ea with
      |none=>exact noF h
      |some e0=>
        replace h:=NY h;obtain⟨g,np,x,xs,cpos,rfl,h⟩:=h;simp only[Am,AU]at h;obtain⟨⟨⟨⟨h1,h2⟩,h3⟩,h4⟩,h5⟩:=h;obtain⟨C,m1,m2⟩:=v.xt.rz _ (Np h1);obtain⟨n2,_,_⟩:=Jh h3;obtain⟨s0,e,es',rfl,m,rfl,s1⟩:=LS h5;have q:=E.es W T X _ _ v h5;exact eN v.calm hf.ex v.room v.rz (by unfold glB at h2;show X.env.scope.names.lookup g=_;rw[v.sc];exact eq_of_beq h2) m2 n2 m1 q.1 (λds=>v.xt.made c C ds m1) (CK s0) (M2 m xs es' s1) (λU ds z=>by rw[Lh Y U _ _ z,<-q.2.2.1,A5];omega)
  |app i e=>
    replace h:=UK h;obtain⟨x,px,m,ap,l,cp,pos,rfl,h2,h⟩:=h;replace h:=GQ h;obtain⟨v0,rfl,h⟩:=h;simp only[Am,A9]at h;obtain⟨⟨⟨rfl,h1⟩,h3⟩,h4⟩:=h;exact tK (Mi v h1) (E.e W T X _ e v h4).se rfl (by rw[CK h3];rfl) (by rw[h2];exact CM _) (CK h3) rfl
  |ext i e=>
    replace h:=UK h;obtain⟨x,px,m,ap,l,cp,pos,rfl,h2,h⟩:=h;replace h:=GQ h;obtain⟨v0,rfl,h⟩:=h;simp only[Am,A9]at h;rw[C1]at h;obtain⟨⟨⟨rfl,h1⟩,h3⟩,h5⟩:=h;rcases h5 with h5|h5
    · rw[Am]at h5;obtain⟨h5,h4⟩:=h5;by_cases hn:DI Y e=Aa
      case neg=>
        have fe:(λU=>evS Y U (.ext i e))=λ_=>O.bad:=by
          funext U
          rw[QO,As hn]
        show SS X CL W _ (λU=>evS Y U (.ext i e))
        rw[fe];exact λFz B pins s Z H D I ⟨U,x,p⟩=>p.elim
      have fe:(λU=>evS Y U (.ext i e))=λU=>O.of U (De U i) λxs=>O.of U (evE Y U e) λd=>O.of U (KN d) λys=>if BY (xs.length+ys.length)=Aa then .next (U.set i (Ab (.lst (xs++ys),Aa))) else .bad:=by
        funext U
        rw[QO,Ar hn]
      show SS X CL W _ (λU=>evS Y U (.ext i e))
      rw[fe];exact tJ (Mi v h1) ((E.e W T X _ e v h4).nw hn) rfl (by rw[CK h3];rfl) (by rw[h2];exact CM _) (CK h3) rfl
    · cases q:O0 e with
      |none=>rw[q]at h5;cases h5
      |some a=>
        rw[q]at h5;have eq:=kR q;subst eq;have fe:(λU=>evS Y U (.ext i (.bi .list (.cons (.bin .Add a (.tup .nil)) .nil))))=λU=>O.of U (De U i) λxs=>O.of U (top U a (evE Y U a)) λx=>O.of U ((Dr .Add x (.tup [])).bind λy=>biD .list [y]) λd=>O.of U (KN d) λys=>if BY (xs.length+ys.length)=Aa then .next (U.set i (Ab (.lst (xs++ys),Aa))) else .bad:=funext λU=>by
          rw[QO,Ar (show DI Y (.bi .list (.cons (.bin .Add a (.tup .nil)) .nil))=Aa from rfl)]
          have e2:evE Y U (.bi .list (.cons (.bin .Add a (.tup .nil)) .nil))=(top U a (evE Y U a)).bind λx=>(Dr .Add x (.tup [])).bind λy=>biD .list [y]:=by
            simp only[Rj,evB,pR,lH,lF,pO,evA,R.bind_ok,R.bind_assoc]
          rw[e2];cases De U i with
          |ok xs=>
            rw[O.of_ok,O.of_ok];cases top U a (evE Y U a)<;>rfl
          |exn z=>rfl
          |bad=>rfl
        show SS X CL W _ (λU=>evS Y U (.ext i (.bi .list (.cons (.bin .Add a (.tup .nil)) .nil))))
        rw[fe];exact mD (Mi v h1) (E.e W T X _ a v h5).st rfl (by rw[CK h3];rfl) (by rw[h2];exact CM _) (CK h3) rfl
  |rev i=>exact absurd (show Af=Aa from h) Ax
  |clr i=>exact absurd (show Af=Aa from h) Ax
  |put i k e=>exact absurd (show Af=Aa from h) Ax
  |tryx body c x hd=>
    cases body with
    |nil=>exact noF h
    |cons b bs=>
      cases bs with
      |cons=>exact noF h
      |nil=>
        unfold NJ at h;dsimp only at h;cases q:R6 st with
        |none=>rw[q]at h;cases h
        |some t=>
          obtain⟨bt,hl,es⟩:=t;rw[q]at h;obtain⟨pos,rfl⟩:=mJ q;cases hl with
          |nil=>exact noF h
          |cons h1 hl=>
            cases hl with
            |cons=>exact noF h
            |nil=>
              cases es with
              |cons=>exact noF h
              |nil=>
                dsimp only at h;cases q1:xHd h1 with
                |none=>rw[q1]at h;cases h
                |some t1=>
                  obtain⟨g,m,h0,hs⟩:=t1;obtain⟨p1,hp,rfl⟩:=rA q1;rw[q1]at h;simp only[Am,A9]at h;obtain⟨⟨⟨⟨i1,i4⟩,i5⟩,i6⟩,i7⟩:=h;obtain⟨t1,t2⟩:=wO E v hf 6 i6;refine SS.ref (tG (up:=Y.up) (c:=c) (i:=x) hf.ex hf.st hf.fm (by rw[v.N];exact v.nd) (by rw[v.N];exact i4) (by rw[v.sc];exact i5) (uN v i1) t1 t2 (λe=>zO v hf e x n _ _ i7)) λU=>.inr ?_
                  rw[kJ];unfold W3;cases evSs Y U (.cons b .nil)<;>rfl
  |try2 body c x hd c' hd' els=>exact absurd (show Af=Aa from h) Ax
  |swp i k l=>exact absurd (show Af=Aa from h) Ax
  |apop j i e=>exact absurd (show Af=Aa from h) Ax
  |ins i k e=>exact absurd (show Af=Aa from h) Ax
  |dput=>exact noF h
  |dsd=>exact noF h
  |rel=>exact noF h
theorem kP{c:Ss}(h:O5 c=Aa)(U:Rho):evSs Y U c=.bad:=by
 cases c with
 |nil=>cases h
 |cons s ss=>
  cases s with
  |expr e=>
   cases e with
   |bi b as=>
    cases as with
    |nil=>
     cases b with
     |len=>rfl
     |_=>exact noF h
    |cons=>cases b<;>exact noF h
   |_=>exact noF h
  |_=>exact noF h
theorem tD(Z_:SndS Y CL k n)(W:XW)(T:Tc)(X:Cx)(xs:Ac A7)(c:Ss)(v:VX Y CL k W T X)(hf:DefX X)(h:chkSs (n+1) T xs c=Aa):SSs X CL W xs (λU=>evSs Y U c):=by
 by_cases hb:O5 c=Aa
 .exact λFz B pins s Z H D I ⟨U,x,p⟩=>by
   dsimp only at p;rw[kP hb]at p;exact p.elim
 have hb:O5 c=Af:=by simpa using hb
 cases c with
 |nil=>
  simp only[chkSs,hb,Fb,Iw]at h;subst h;exact UT
 |cons s ss=>
  by_cases hr:∃ i,s=.rel i
  .obtain⟨i,rfl⟩:=hr;simp only[chkSs,hb,Fb]at h;exact lW i (Z_.ss W T X xs ss v hf h)
  .cases xs with
   |nil=>cases s<;>first|(simp[chkSs,hb]at h;done)|exact absurd ⟨_,rfl⟩ hr
   |cons st r=>
    have h':NJ n T st s=Aa/\chkSs n T r ss=Aa:=by
     cases s<;>first|(simp only[chkSs,hb,Fb,Am]at h;exact h)|exact absurd ⟨_,rfl⟩ hr
    exact Qi (Z_.s W T X st s v hf h'.1) (Z_.ss W T X r ss v hf h'.2)
theorem RZ:∀ n,SndS Y CL k n
 |0=>⟨λ_ _ _ _ _ _ _ h=>noF h,λ_ _ _ _ _ _ _ h=>noF h⟩
 |n+1=>⟨wY (RZ n),tD (RZ n)⟩
end
theorem M1{n:Ae}{ds:Ac D}{i:Ae}{o:Aj}(h:(DB n ds)[i]?=Ab (Ab (d,o))):o=Af/\ds[i]?=Ab d:=by
 unfold DB at h;by_cases hi:i<ds.length
 .rw[C2 (by simpa using hi),BC]at h
  cases e:ds[i]? with
  |none=>rw[e]at h;cases h
  |some x=>rw[e]at h;cases h;exact⟨rfl,rfl⟩
 .rw[BB (by simpa using Nat.le_of_not_lt hi),X8]at h
  split at h<;>cases h
theorem eM{N:Ac Ak}{vs:Ac V}{i:Ae}{v:V}(h:vs[i]?=Ab v):(L2.start N vs)[i]?=Ab (Ab v):=by
 unfold L2.start;have hi:=(AZ.mp h).1;rw[C2 (by simpa using hi),BC,h]
 rfl
theorem gW{N:Ac Ak}{n:Ae}{vs:Ac V}{ds:Ac D}(hn:N.length=n)(hA:AOk H A)(r:Reps K CL H A vs ds):Sx K CL (λb o=>H b=Ab o) A (DB n ds) (L2.start N vs) H:=by
 have own:∀ a,Ck A (DB n ds) (L2.start N vs) a->A a:=λa h=>by
  rcases h with h|⟨j,d,h,_⟩
  .exact h
  .exact absurd (M1 h).1 (by decide)
 have hlen:(DB n ds).length=(L2.start N vs).length:=by
  unfold DB L2.start;simp only[Bt,AF,Yg,r.length,hn]
 refine⟨⟨λi d h=>?_,λi d h=>absurd (M1 h).1 (by decide),hlen⟩,λa h=>hA a (own a h),λj d a h _=>absurd (M1 h).1 (by decide),λi j d e a h _ _ _=>absurd (M1 h).1 (by decide),λb o h=>h,hlen⟩
 obtain⟨v,h1,h2⟩:=r.get (M1 h).2;exact⟨v,eM h1,Rep.sub own _ h2⟩
structure FunX (K:Fg) (x qual:Ak) (st:A7) (f:Al) (fd:Co):Prop where
 ex:∃(oc:Ai)(od:Ao Al)(dV kV doc pm:Ai)(an:Ao Al)(cdv ct:Ai)(osl:Au (Ao Ai)),
  fd=Eu x qual (Li st) (Ji st) (Hc st) dV kV doc pm an cdv ct/\K.lookup f=Ab ⟨oc,od,.func fd,osl⟩/\Gh K cdv qual=Aa
 kp:CH K (.ref f)=Aa
theorem WE{st:A7}{f:Al}(F:Fun K x qual st f fd):FunX K x qual st f fd:=by
 obtain⟨oc,od,kV,doc,pm,an,cdv,ct,osl,e,lk,hcd⟩:=F.ex;exact⟨⟨oc,od,.none,kV,doc,pm,an,cdv,ct,osl,e,lk,hcd⟩,F.kp⟩
def Pd(K:Fg)(mg:Ak->Ao Ai)(fns:Ac (Ak×Ae×Ae))(bl:Ac Ak)(rzs exs gls:Ac (Ak×Ae))(Pg:Prg)(fuel:Ae)(p:Ak×Ae×Ae):Prop:=∃ f fd ps qual st N,mg p.1=Ab (.ref f)/\FunX K p.1 qual st f fd/\HY K fd ps []/\ps.length=p.2.2%1000/\Ka fuel (FW 1000 p.2.2) fns bl rzs exs gls ps N st (Pg.defs p.2.1)=Aa
structure Tab (K:Fg) (mg:Ak->Ao Ai) (CL:ClA) (fns:Ac (Ak×Ae×Ae)) (bl:Ac Ak) (rzs exs gls:Ac (Ak×Ae)) (Pg:Prg) (fuel:Ae):Prop where
 xt:XT Pg.up Pg.xn CL rzs exs K mg
 bln:∀ x,x∈bl->mg x=Ad
 gl:∀ p∈gls,Si K mg CL p.1 (Pg.G p.2)
 fn:∀ p∈fns,Pd K mg fns bl rzs exs gls Pg fuel p
theorem tX(Pg:Prg)(n i:Ae):(gam Pg n).fr i=(Pg.defs i).fr:=by cases n<;>rfl
theorem uS(Pg:Prg)(n:Ae):(gam Pg n).up=Pg.up:=by cases n<;>rfl
theorem zP(Pg:Prg)(n:Ae):(gam Pg n).G=Pg.G:=by cases n<;>rfl
theorem uR(Pg:Prg)(n:Ae):(gam Pg n).xn=Pg.xn:=by cases n<;>rfl
section
variable{P:AQ}{w:AT}{K:Fg}{mg:Ak->Ao Ai}{base:AK}{CL:ClA}{fns:Ac (Ak×Ae×Ae)}{bl:Ac Ak}{rzs exs gls:Ac (Ak×Ae)}{Pg:Prg}{fuel:Ae}
def Lvl(P:AQ)(w:AT)(K:Fg)(mg:Ak->Ao Ai)(base:AK)(CL:ClA)(Pg:Prg)(n:Ae)(p:Ak×Ae×Ae):Prop:=∃ f fd ps,mg p.1=Ab (.ref f)/\CH K (.ref f)=Aa/\HY K fd ps []/\ps.length=p.2.2%1000/\(p.2.2<1000->FnOk P w K mg base (CXR P w) n f fd ps (spD K CL (p.2.2%1000) ((gam Pg n).fr p.2.1) ((gam Pg n).F p.2.1)))/\(1000<=p.2.2->HotOk P w K mg base n f fd ps (spH K CL (p.2.2%1000) ((gam Pg n).fr p.2.1) ((gam Pg n).F p.2.1)))
theorem We(t:Tab K mg CL fns bl rzs exs gls Pg fuel){n:Ae}(hlv:∀ q∈fns,Lvl P w K mg base CL Pg n q){st:A7}{f:Al}{ps N:Ac Ak}{m id:Ae}(h2:FunX K x qual st f fd)(h4:ps.length=m)(h5:Ka fuel Af fns bl rzs exs gls ps N st (Pg.defs id)=Aa):FnOk P w K mg base (CXR P w) (n+1) f fd ps (spD K CL m ((gam Pg (n+1)).fr id) ((gam Pg (n+1)).F id)):=by
  unfold Ka at h5;simp only[Am,A9,BQ,Bx,C1,LL,ne_eq]at h5;obtain⟨⟨⟨⟨⟨⟨⟨⟨c1,c2⟩,c3⟩,c4⟩,c5⟩,c6⟩,c7⟩,c8⟩,c9⟩:=h5;obtain⟨oc,od,dV,kV,doc,pm,an,cdv,ct,osl,rfl,lk,hcd⟩:=h2.ex;refine WK (N:=N) lk hcd ⟨c1,c2,c3,NZ c4,c5,c6,c7⟩ (λvs H Q E ⟨ds,A,z,_⟩=>z.trans h4.symm) λA outer s H vs Q E hr ⟨ds,B,hl,hA,hreps,hpost⟩=>?_
  have xt:XT (gam Pg n).up (gam Pg n).xn CL rzs exs K mg:=by rw[uS,uR];exact t.xt
  have gl:∀ p∈gls,Si K mg CL p.1 ((gam Pg n).G p.2):=by rw[zP];exact t.gl
  have key:∀ W:XW,(∀ x cls dx H',W x H'->GU K CL H' cls dx x->E cls dx H')->Cq K CL (λb o=>H b=Ab o) B W (evSs (gam Pg n) (DB (Pg.defs id).n ds) (Pg.defs id).body) {nx:=λ_ H'=>Q .non H',rt:=Q} ->
      ∃ t,PSs (Hy (CXR P w) P w K mg base N qual (Hc st) f cdv A outer s H E) (Ji st) t/\t {nx:=λ_ H'=>Q .non H',rt:=Q} (start N vs) H:=λW hW hp=>by
    have v:VX (gam Pg n) CL n W ⟨Hc st,N,fns,bl,rzs,exs,gls⟩ (Hy (CXR P w) P w K mg base N qual (Hc st) f cdv A outer s H E):=⟨rfl,c1,rfl,NZ c4,rfl,hr,t.bln,hlv,ownR,zR hW,rzR hW,xt,gl⟩;exact⟨_,(RZ fuel).ss W _ _ _ (Pg.defs id).body v ⟨λ_=>rfl,rfl,rfl,rfl⟩ c9 (λb o=>H b=Ab o) B,_,gW c8 hA hreps,hp⟩
  have no:∀ x cls dx H',W0 x H'->GU K CL H' cls dx x->E cls dx H':=λ_ _ _ _ z=>z.elim
  have e:(gam Pg (n+1)).F id ds=Ia Pg.xs ((evSs (gam Pg n) (DB (Pg.defs id).n ds) (Pg.defs id).body).ans (Pg.defs id).fr):=rfl;rw[e,tX]at hpost;have cutO:∀ r:R D,(∀ x,r≠.exn x)->Ia Pg.xs r=r:=λr hr=>by
    cases Pg.xs<;>cases r<;>first|rfl|exact absurd rfl (hr _)
  cases eo:evSs (gam Pg n) (DB (Pg.defs id).n ds) (Pg.defs id).body with
  |next U'=>
    refine key W0 no ?_;rw[eo]at hpost ⊢;cases ef:(Pg.defs id).fr with
    |true=>rw[ef]at hpost;rw[cutO _ (by intro x z;cases z)]at hpost;exact hpost.elim
    |false=>
      rw[ef]at hpost;rw[cutO _ (by intro x z;cases z)]at hpost
      exact λZ' H' x'=>hpost .non H' (λb o z=>x'.same b o z) ⟨rfl,λz=>nomatch z⟩
  |ret d b=>
    refine key W0 no ?_;rw[eo]at hpost ⊢;intro v H' sm rp fr;have hp2:(match Ia Pg.xs (if ((Pg.defs id).fr&&(!b&&isL d))=Aa then R.bad else R.ok d) with
      |.ok d=>∀ v H',AN H H'->EV K CL (Pg.defs id).fr H B H' v d->Q v H'
      |.exn x=>∀ cls dx H',AN H H'->GU K CL H' cls dx x->E cls dx H'
      | .bad=>Ba):=hpost
    cases ec:((Pg.defs id).fr&&(!b&&isL d)) with
    |true=>rw[ec,Ar rfl,cutO _ (by intro x z;cases z)]at hp2;exact hp2.elim
    |false=>
      rw[ec,As (by decide),cutO _ (by intro x z;cases z)]at hp2
      refine hp2 v H' sm ⟨rp,λefr es hd=>?_⟩
      subst hd;have eb:b=Aa:=by
        cases b with
        |true=>rfl
        |false=>rw[efr]at ec;cases ec
      obtain⟨a,xs,h1,h2,h3,h4⟩:=fr eb es rfl;refine⟨a,xs,h1,?_,h3,h4⟩;cases ha:H a with
      |none=>rfl
      |some o=>exact absurd ha (h2 o)
  |brk U'=>rw[eo]at hpost;have hp2:(match Ia Pg.xs (R.bad:R D) with | .ok _=>_ | .exn _=>_ | .bad=>Ba):=hpost;rw[cutO _ (by intro x z;cases z)]at hp2;exact hp2.elim
  |cont U'=>rw[eo]at hpost;have hp2:(match Ia Pg.xs (R.bad:R D) with | .ok _=>_ | .exn _=>_ | .bad=>Ba):=hpost;rw[cutO _ (by intro x z;cases z)]at hp2;exact hp2.elim
  |bad=>rw[eo]at hpost;have hp2:(match Ia Pg.xs (R.bad:R D) with | .ok _=>_ | .exn _=>_ | .bad=>Ba):=hpost;rw[cutO _ (by intro x z;cases z)]at hp2;exact hp2.elim
  |exn x U'=>
    rw[eo]at hpost;have hp2:(match Ia Pg.xs (R.exn x:R D) with
      |.ok d=>∀ v H',AN H H'->EV K CL (Pg.defs id).fr H B H' v d->Q v H'
      |.exn x=>∀ cls dx H',AN H H'->GU K CL H' cls dx x->E cls dx H'
      | .bad=>Ba):=hpost
    cases ex:Pg.xs with
    |false=>rw[ex]at hp2;exact hp2.elim
    |true=>
      rw[ex]at hp2;have hp3:∀ cls dx H',AN H H'->GU K CL H' cls dx x->E cls dx H':=hp2;refine key (λy H'=>y=x/\AN H H') (λy cls dx H' ⟨e1,sm⟩ xr=>?_) ?_
      · subst e1;exact hp3 cls dx H' sm xr
      · rw[eo];exact λH' sm=>⟨rfl,sm⟩
theorem uM(t:Tab K mg CL fns bl rzs exs gls Pg fuel){n:Ae}(hlv:∀ q∈fns,Lvl P w K mg base CL Pg n q){st:A7}{f:Al}{ps N:Ac Ak}{m id:Ae}(h2:FunX K x qual st f fd)(h4:ps.length=m)(h5:Ka fuel Aa fns bl rzs exs gls ps N st (Pg.defs id)=Aa):HotOk P w K mg base (n+1) f fd ps (spH K CL m ((gam Pg (n+1)).fr id) ((gam Pg (n+1)).F id)):=by
 exfalso
 unfold Ka at h5;simp at h5
theorem QS(t:Tab K mg CL fns bl rzs exs gls Pg fuel):∀ n,∀ p∈fns,Lvl P w K mg base CL Pg n p
 |0,p,hp=>by
  obtain⟨f,fd,ps,qual,st,N,h1,h2,h3,h4,h5⟩:=t.fn p hp;exact⟨f,fd,ps,h1,h2.kp,h3,h4,λ_=>⟨λvs H Q E ⟨ds,A,_,_,_,z⟩=>z.elim,λA outer s H args us vs Q E _ _ _ _ ⟨ds,A,_,_,_,z⟩=>z.elim⟩,λ_=>⟨λvs H Q E ⟨ds,A,_,_,_,z⟩=>z.elim,λA ev outer s H args us vs Q E _ _ _ _ ⟨ds,A,_,_,_,z⟩=>z.elim⟩⟩
 |n+1,p,hp=>by
  obtain⟨f,fd,ps,qual,st,N,h1,h2,h3,h4,h5⟩:=t.fn p hp;refine⟨f,fd,ps,h1,h2.kp,h3,h4,λhlt=>?_,λhge=>?_⟩
  .have eb:FW 1000 p.2.2=Af:=by
    cases e:FW 1000 p.2.2 with
    |false=>rfl
    |true=>exact absurd (Fw e) (by omega)
   rw[eb]at h5;exact We t (λq hq=>QS t n q hq) h2 h4 h5
  .rw[Nat.ble_eq_true_of_le hge]at h5;exact uM t (λq hq=>QS t n q hq) h2 h4 h5
theorem vZ{s s':Ap}{e:Ai}(h:CXR P w [] H s (λ_ _ _=>Ba) e s'):Ba:=by
 obtain⟨_,_,_,_,_,_,_,_,_,_,_,_,_,_,_,z⟩:=h;exact z
theorem aj(h:∀ ds,xn c ds=.bad\/xn c ds=.ok ⟨c,[]⟩)(e:EW K C Ad=Aa)(ds:Ac D):xn c ds=.bad\/(xn c ds=.ok ⟨c,[]⟩/\EW K C Ad=Aa)\/Ba:=(h ds).imp id λz=>.inl ⟨z,e⟩
theorem ag(dc:IL K C=Aa)(h1:Bi K (.ref C) "triple" = Ab Ad)(h2:Bi K (.ref C) "points" = Ab Ad)(f:Ak)(h:(f==("triple" : Ak)||f==("points" : Ak))=Aa):IL K C=Aa/\Bi K (.ref C) f=Ab Ad:=by
 rw[C1]at h;rcases h with h|h
 .rw[eq_of_beq h];exact⟨dc,h1⟩
 .rw[eq_of_beq h];exact⟨dc,h2⟩
structure XA (K:Fg) (c:Ak) (x:Al) (i:Ao Ai):Prop where
 n:BA K Bc c=Ab (Ab (.ref x))
 y:EW K x i=Aa
 dc:IL K x=Aa
 ft:Bi K (.ref x) "triple" = Ab Ad
 fp:Bi K (.ref x) "points" = Ab Ad
 ok:XcOk K x
theorem xcls_l{x:Al}(e:Kh K x [.type "ValueError",.type "Exception",.type "BaseException",.type "object"] "ValueError.__new__" = Aa):EW K x Ad=Aa:=mH e
theorem xa_mk{c:Ak}{x:Al}{i:Ao Ai}(n:BA K Bc c=Ab (Ab (.ref x)))(e:EW K x i=Aa)(dc:IL K x=Aa)(ft:Bi K (.ref x) "triple" = Ab Ad)(fp:Bi K (.ref x) "points" = Ab Ad)(ga:Bi K (.ref x) "__getattribute__" = Ab (Ab (.builtin "BaseException.__getattribute__")))(gt:Bi K (.ref x) "__getattr__" = Ab Ad)(cl:Bi K (.ref x) "__class__" = Ab (Ab (.builtin "object.__class__")))(ob:Dj K x (.type "object")=Ab Aa)(be:BR K (.ref x) (.type "BaseException")=Ab Aa)(sv:BR K (.ref x) (.type "ValueError")=Ab Aa):XA K c x i:=⟨n,e,dc,ft,fp,xE e ga gt cl ob be sv⟩
structure XE (K:Fg) (c:Ak) (x:Al):Prop where
 n:BA K Bc c=Ab (Ab (.ref x))
 cs:Dj K x (.type "object")=Ab Aa
 ty:Gi K (.ref x)=Ab (.type "type")
def SuC(K:Fg)(C:Al)(l:Ac (Al×Aj)):Prop:=∀ q∈l,BR K (.ref q.1) (.ref C)=Ab q.2
def KC(K:Fg)(C:Al):Prop:=∀ x i v,EW K x i=Aa->BR K (.ref x) (.ref C)=Ab v->Dp K (.ref x) (.ref C)=Ab v
theorem XA.kc{c:Ak}{x:Al}{i:Ao Ai}(a:XA K c x i):KC K x:=λ_ _ _ y s=>qE y a.y s
theorem XE.kc{c:Ak}{x:Al}(a:XE K c x):KC K x:=λ_ _ _ y s=>iL y a.cs a.ty s
noncomputable def clL:Ac (Ae×Al)->Ae->Ao Al
 |[],_=>Ad
 |p::r,c=>if Nat.beq c p.1=Aa then Ab p.2 else clL r c
theorem Nr:∀{l:Ac (Ae×Al)},clL l c=Ab C->(c,C)∈l:=by
 intro l
 induction l with
 |nil=>intro q;cases q
 |cons p r ih=>
  intro q;obtain⟨n,x⟩:=p;by_cases e:Nat.beq c n=Aa
  .cases Nat.eq_of_beq_eq_true e;cases (show Ab x=Ab C from (Ar e).symm.trans q)
   exact AM
  .exact AG _ (ih ((As e).symm.trans q))
structure XR (K:Fg) (mg:Ak->Ao Ai) (xn:Ae->Ac D->R Ex) (p:Ae×Al):Prop where
 ok:XcOk K p.2
 nf:∀ f:Ak,(f==("triple" : Ak)||f==("points" : Ak))=Aa->IL K p.2=Aa/\Bi K (.ref p.2) f=Ab Ad
 md:∀ ds,xn p.1 ds=.bad\/(xn p.1 ds=.ok ⟨p.1,[]⟩/\EW K p.2 Ad=Aa)\/Ba
theorem XA.row{c:Ak}{x:Al}(a:XA K c x Ad)(h:∀ ds,xn k ds=.bad\/xn k ds=.ok ⟨k,[]⟩):XR K mg xn (k,x):=⟨a.ok,ag a.dc a.ft a.fp,aj h a.y⟩
theorem xD{l:Ac (Ae×Al)}{rzs exs:Ac (Ak×Ae)}(r:∀ p∈l,XR K mg xn p)(rz:∀ p∈rzs,∃ C,clL l p.2=Ab C/\mg p.1=Ab (.ref C))(ex:∀ p∈exs,∃ C,mg p.1=Ab (.ref C)/\KC K C/\SuC K C (l.map λq=>(q.2,(up q.1).contains p.2)))(xb:∀ c,(∀ p∈rzs,p.2≠c)->∀ ds,xn c ds=.bad):XT up xn (clL l) rzs exs K mg:=by
 refine⟨λc C q=>(r _ (Nr q)).ok,rz,λp hp=>?_,λc C ds q=>(r _ (Nr q)).md ds,λc C q=>(r _ (Nr q)).nf,xb⟩
 obtain⟨C,e,kc,su⟩:=ex p hp;have s:∀ c D,clL l c=Ab D->BR K (.ref D) (.ref C)=Ab ((up c).contains p.2):=λc D q=>su _ (Yk (f:=λq:Ae×Al=>(q.2,(up q.1).contains p.2)) (Nr q))
 exact⟨C,e,λc D q=>let ⟨_,y⟩:=(r _ (Nr q)).ok.exc;kc _ _ _ y (s c D q),s⟩
def OE(K:Fg):Sp:=λvs H Q _=>∃(a:Al)(ns:Ac Ag),vs=[.ref a]/\ns.length<=63/\SqL K H a (ns.map V.int)/\∀ v H',v=V.bl Aa->Q v H'
theorem law_fn{f:Al}{F:Ac D->R D}(G:FnOk P w K mg base CX k f fd ps (spD K CL 1 Af F))(h:∀ ns:Ac Ag,F [.lst (ns.map .int)]=.ok (.bl Aa)):FnOk P w K mg base CX k f fd ps (OE K):=G.imp λvs H Q E ⟨a,ns,e,hl,hS,q⟩=>by
 subst e;have rs:∀ l:Ac Ag,Reps K CL H A0 (l.map V.int) (l.map D.int):=λl=>by
  induction l with
  |nil=>trivial
  |cons x l ih=>exact⟨rfl,ih⟩
 refine⟨[.lst (ns.map .int)],A0,rfl,λ_ z=>z.elim,⟨⟨a,_,rfl,.inl (λz=>z),hS,rs ns⟩,trivial⟩,?_⟩
 rw[h ns];exact λv H' _ r=>q v H' r.1
theorem Mf{Q:α->Prop}:∀ x∈([]:Ac α),Q x:=λ_ h=>nomatch h
theorem all_cons{Q:α->Prop}{a:α}{l:Ac α}(h1:Q a)(h2:∀ x∈l,Q x):∀ x∈a::l,Q x:=List.forall_mem_cons.2 ⟨h1,h2⟩
def FnI(K:Fg)(f:Al)(n:Ak)(st:A7):Prop:=∃ fd,Fun K n n st f fd/\BA K Bc n=Ab (Ab (.ref f))
theorem fni{n:Ak}{st:A7}{f:Al}{oc:Ai}{od an:Ao Al}{osl:Au (Ao Ai)}{kV doc pm cdv ct:Ai}(a:BA K Bc n=Ab (Ab (.ref f)))(l:K.lookup f=Ab ⟨oc,od,.func (Eu n n (Li st) (Ji st) (Hc st) .none kV doc pm an cdv ct),osl⟩)(c:Gh K cdv n=Aa)(k:CH K (.ref f)=Aa):FnI K f n st:=⟨_,tY l c k,a⟩
def Bd(n:Ak)(st:A7)(ps:Ac Ak)(us:Ac Ai):Prop:=∀(kV doc pm:Ai)(an:Ao Al)(cdv ct:Ai),MO (Eu n n (Li st) (Ji st) (Hc st) .none kV doc pm an cdv ct) ⟨us,[]⟩=pure (ps.zip us)
theorem VV{n:Ak}{f:Al}{st:A7}{ps N:Ac Ak}(m id:Ae)(X:K.In h)(G:h.Ns Bc mg)(A:FnI K f n st)(hl:ps.length=m%1000)(hc:Ka fuel (FW 1000 m) fns bl rzs exs gls ps N st (Pg.defs id)=Aa)(hb:∀ us:Ac Ai,us.length=ps.length->Bd n st ps us):Pd K mg fns bl rzs exs gls Pg fuel (n,id,m):=by
 obtain⟨fd,F,a⟩:=A;exact⟨_,_,_,_,_,_,HN X G a,WE F,F.binds λkV doc pm an cdv ct us hu=>hb us hu kV doc pm an cdv ct,hl,hc⟩
theorem Xa{l:Ac α}(h:l.length=0):l=[]:=X3 h
theorem Se{l:Ac α}{n:Ae}(h:l.length=n+1):∃ a r,l=a::r/\r.length=n:=by
 cases l with
 |nil=>cases h
 |cons a r=>exact⟨a,r,rfl,Nat.succ.inj h⟩
theorem Xj{n:Ak}{f:Al}{st:A7}{N:Ac Ak}(m id:Ae)(X:K.In h)(G:h.Ns Bc mg)(A:FnI K f n st)(hl:1=m%1000)(hc:Ka fuel (FW 1000 m) fns bl rzs exs gls [x0] N st (Pg.defs id)=Aa)(hb:∀ u0,Bd n st [x0] [u0]):Pd K mg fns bl rzs exs gls Pg fuel (n,id,m):=
 VV (ps:=[x0]) m id X G A hl hc λus hu=>by obtain⟨u0,v0,rfl,h0⟩:=Se hu;obtain rfl:=Xa h0;exact hb u0
theorem GY{n:Ak}{f:Al}{st:A7}{N:Ac Ak}{x1:Ak}(m id:Ae)(X:K.In h)(G:h.Ns Bc mg)(A:FnI K f n st)(hl:2=m%1000)(hc:Ka fuel (FW 1000 m) fns bl rzs exs gls [x0,x1] N st (Pg.defs id)=Aa)(hb:∀ u0 u1,Bd n st [x0,x1] [u0,u1]):Pd K mg fns bl rzs exs gls Pg fuel (n,id,m):=
 VV (ps:=[x0,x1]) m id X G A hl hc λus hu=>by obtain⟨u0,v0,rfl,h0⟩:=Se hu;obtain⟨u1,v1,rfl,h1⟩:=Se h0;obtain rfl:=Xa h1;exact hb u0 u1
end
end Ov
namespace OvC
open PySem Ov
variable{x p l y N:Ag}{xs:Ac Ag}{Y:Gam}{G L Z_ RW Y_:Ac D}{s2 s5 s3:Sl}{X:D}{t:Ak}
noncomputable abbrev tr(a b c:Ag):D:=.tup [.int a,.int b,.int c]
noncomputable def det(a0 a1 a2 b0 b1 b2 c0 c1 c2:Ag):Ag:=a0*(b1*c2-b2*c1)-a1*(b0*c2-b2*c0)+a2*(b0*c1-b1*c0)
def Sm(x:Ag):Prop:=0<=x/\x<11
theorem mo(h:Sm x)(y:Ag):FX x y=Aa:=Ng (by have:=h.1;omega) (by have:=h.2;omega)
theorem rng3:Fa 0 3=[.int 0,.int 1,.int 2]:=rfl
theorem Sm.of(h:P4 p)(x:Ag):Sm (x%p):=⟨DQ _ (by have:=h.pos;omega),by have:=DJ x h.pos;have:=h.hi;omega⟩
theorem SQ{body:D->Rho->O}(I:Rho->Prop)(g:Ag->Aj):∀(L:Ac Ag),(∀ t∈L,∀ U,I U->(g t=Aa/\body (.int t) U=.ret (.int t) Af)\/(g t=Af/\∃ U',body (.int t) U=.next U'/\I U'))->∀ U,I U->(∃ t∈L,g t=Aa/\Dh body (L.map D.int) U=.ret (.int t) Af)\/((∀ t∈L,g t=Af)/\∃ U',Dh body (L.map D.int) U=.next U'/\I U')
 |[],_,U,i=>.inr ⟨(λ_ h=>nomatch h),U,rfl,i⟩
 |m::L,h,U,i=>by
  rcases h m (AM ..) U i with ⟨e1,e2⟩|⟨e1,U',e2,i'⟩
  .refine .inl ⟨m,AM ..,e1,?_⟩;show (body (.int m) U).turn _=_;rw[e2];rfl
  .rcases SQ I g L (λm' h'=>h m' (AG _ h')) U' i' with ⟨t,ht,a,b⟩|⟨a,r,b,c⟩
   .refine .inl ⟨t,AG _ ht,a,?_⟩;show (body (.int m) U).turn _=_;rw[e2];exact b
   .refine .inr ⟨λt ht=>?_,r,?_,c⟩
    .rcases AJ.mp ht with rfl|ht
     .exact e1
     .exact a t ht
    .show (body (.int m) U).turn _=_;rw[e2];exact b
noncomputable def LP:Ss:=(.cons (.ife (.cmp .Eq (.call 1 (.cons (.var 0) (.cons (.bin .Mult (.var 1) (.var 2)) .nil))) (.int 1)) (.cons (.ret (.var 2)) .nil) .nil) .nil)
noncomputable def NU:Df:=⟨3,Af,(.cons (.fors 2 (.rng2 (.int 1) (.var 0)) LP) (.cons (.rais 2 (.cons (.str (A3 "a number with the rest 0 is not turned over")) .nil)) .nil))⟩
noncomputable def Hg(p:Ag):Ac Ag:=(AD (p-1).toNat).map fun(k:Ae)=>1+(k:Ag)
theorem L7{t:Ag}:t∈Hg p↔1<=t/\t<p:=by
 unfold Hg;rw[List.mem_map];constructor
 .rintro⟨k,hk,rfl⟩;have:=BE.mp hk;omega
 .rintro⟨h1,h2⟩;exact⟨(t-1).toNat,BE.mpr (by omega),by omega⟩
theorem UA(h:P4 p):D7 1 p=.ok ((Hg p).map D.int):=by
 rcases h with rfl|rfl|rfl|rfl<;>rfl
theorem qM:∀ p:Fin 12,(p.val=3\/p.val=5\/p.val=7\/p.val=11)->∀ r:Fin 12,r.val<p.val->r.val≠0->∃ t:Fin 12,1<=t.val/\t.val<p.val/\r.val*t.val%p.val=1:=by decide+kernel
theorem VC{p n:Ag}(h:P4 p)(hn:n%p≠0):∃ t,1<=t/\t<p/\n*t%p=1:=by
 have p0:0<p/\p<12:=by rcases h with rfl|rfl|rfl|rfl<;>decide
 obtain⟨q,rfl⟩:∃ q:Ae,p=q:=⟨p.toNat,by omega⟩
 have h0:=DQ n (b:=(q:Ag)) (by omega)
 have h1:=DJ n p0.1;obtain⟨r,hr⟩:∃ r:Ae,n%(q:Ag)=r:=⟨(n%(q:Ag)).toNat,by omega⟩
 obtain⟨t,t1,t2,t3⟩:=qM ⟨q,by omega⟩ (by rcases h with e|e|e|e<;>simp<;>omega) ⟨r,by omega⟩ (by show r<q;omega) (by show r≠0;omega)
 refine⟨(t.val:Ag),by omega,by show (t.val:Ag)<q;exact Int.ofNat_lt.mpr t2,?_⟩
 have e:((r*t.val%q:Ae):Ag)=1:=by rw[show r*t.val%q=1 from t3];rfl
 rw[<-e,Int.natCast_emod,Int.natCast_mul,<-hr];exact(Eo n _ _).trans (by rw[Eo (n%(q:Ag)) (t.val:Ag) (q:Ag),Dm n (Ft _)])
def Jx(p n t:Ag):Prop:=1<=t/\t<p/\n*t%p=1
theorem Ti{p n t u:Ag}(h1:Jx p n t)(h2:Jx p n u):t=u:=by
 have hp:1<p:=by have:=h1.1;have:=h1.2.1;omega
 have e:t%p=u%p:=by
  have a:t%p=t*(n*u)%p:=by rw[Eo,h2.2.2,XJ,Dm _ (Ft p)]
  have b:u%p=(n*t)*u%p:=by rw[Eo (n*t) u p,h1.2.2,KR,Dm _ (Ft p)]
  rw[a,b]
  congr 1
  rw[<-XI,G1 t n]
 rw[Gp (by have:=h1.1;omega) h1.2.1,Gp (by have:=h2.1;omega) h2.2.1]at e
 exact e
theorem V2{c:Ag}(hp:P4 p)(hc:c%p≠0)(hx:x%p≠0):c*x%p≠0:=λz=>by
 obtain⟨t,_,_,e⟩:=VC hp hc;refine hx ?_;have e1:x%p=(c*t)*x%p:=by rw[Eo (c*t) x p,e,KR,Dm _ (Ft p)]
 rw[e1,show c*t*x=t*(c*x) by rw[G1 c t,XI],Eo,z,XM,XS]
noncomputable def Ee(p:Ag):Ac Ag->Ao Ag
 |[]=>Ad
 |x::xs=>if x%p=0 then Ee p xs else Ab (x%p)
theorem Tf{p:Ag}:∀{xs:Ac Ag},Ee p xs=Ad↔∀ x∈xs,x%p=0
 |[]=>by simp[Ee]
 |x::xs=>by
  unfold Ee;by_cases h:x%p=0
  .rw[Ar h,Tf (xs:=xs)];simp[h]
  .rw[As h];simp[h]
theorem MX{p l:Ag}(hp:0<p):∀{xs:Ac Ag},Ee p xs=Ab l->l%p≠0/\0<l/\l<p
 |[],h=>by cases h
 |x::xs,h=>by
  unfold Ee at h;by_cases hx:x%p=0
  .rw[Ar hx]at h;exact MX hp h
  .rw[As hx]at h;cases h;have h0:=DQ x (b:=p) (by omega)
   have h1:=DJ x hp;exact⟨by rw[Dm _ (Ft p)];exact hx,by omega,h1⟩
theorem Uf{p c:Ag}(hp:P4 p)(hc:c%p≠0){f:Ag->Ag}(hf:∀ x,f x%p=c*x%p):∀ xs:Ac Ag,Ee p (xs.map f)=(Ee p xs).map λl=>c*l%p
 |[]=>rfl
 |x::xs=>by
  rw[CO];unfold Ee;rw[hf x];by_cases hx:x%p=0
  .rw[Ar hx,Ar (by rw[Eo,hx,XM,XS]),Uf hp hc hf xs]
  .rw[As hx,As (V2 hp hc hx),IX]
   congr 1
   rw[Eo c (x%p),Dm _ (Ft p),<-Eo]
noncomputable def ds(xs:Ac Ag):Ac D:=xs.map D.int
noncomputable def FQ(b:Aj)(xs:Ac Ag):D:=if b=Aa then .tup (ds xs) else .lst (ds xs)
theorem eR(b xs):EI (FQ b xs)=.ok (ds xs):=by unfold FQ;cases b<;>rfl
theorem MZ{g:D->R Aj}{f:D->R D}{φ:Ag->Ag}:∀(xs:Ac Ag),(∀ x∈xs,g (.int x)=.ok Aa/\f (.int x)=.ok (.int (φ x)))->BU g f (ds xs)=.ok (ds (xs.map φ))
 |[],_=>rfl
 |x::xs,h=>by
  obtain⟨h1,h2⟩:=h x (AM ..);show (g (.int x)).bind _=_;rw[h1,R.bind_ok,Ar rfl,h2,R.bind_ok];show (BU g f (ds xs)).bind _=_;rw[MZ xs λy hy=>h y (AG _ hy)]
  rfl
noncomputable def CI:E:=(.bl Aa)
noncomputable def Pi:E:=(.call 1 (.cons (.var 0) (.cons (.var 5) .nil)))
noncomputable def Ph:E:=(.call 1 (.cons (.var 0) (.cons (.bin .Mult (.var 4) (.var 6)) .nil)))
noncomputable def IE:Ss:=(.cons (.ife (.cmp .NotEq (.var 3) (.int 0)) (.cons (.asg 4 Af (.call 9 (.cons (.var 0) (.cons (.var 3) .nil)))) (.cons (.ret (.bi .tuple (.cons (.comp Ph 6 (.e (.var 2)) CI) .nil))) .nil)) .nil) .nil)
noncomputable def N3:Df:=⟨7,Af,(.cons (.asg 2 Af (.comp Pi 5 (.e (.var 1)) CI)) (.cons (.fors 3 (.e (.var 2)) IE) (.cons (.rais 3 (.cons (.str (A3 "all the numbers have the rest 0")) .nil)) .nil)))⟩
noncomputable def fmI(p t:Ag)(xs:Ac Ag):Ac Ag:=xs.map λx=>t*(x%p)%p
section
variable{Y:Gam}{p:Ag}{xs:Ac Ag}{b:Aj}
end
noncomputable def Pq:E:=(.bin .Mod (.var 5) (.var 1))
noncomputable def Pk:E:=(.cmp .Gt (.var 6) (.int 0))
noncomputable def Pp:E:=(.var 6)
noncomputable def Pj:E:=(.cmp .Eq (.bin .Mod (.bin .Mult (.var 7) (.idx (.var 3) (.int 0))) (.var 1)) (.int 1))
noncomputable def Po:E:=(.var 7)
noncomputable def Pl:E:=(.bin .Mod (.bin .Mult (.var 8) (.var 4)) (.var 1))
noncomputable def M4:Df:=⟨9,Af,(.cons (.asg 2 Af (.comp Pq 5 (.e (.var 0)) CI)) (.cons (.asg 3 Af (.comp Pp 6 (.e (.var 2)) Pk)) (.cons (.ife (.cmp .Eq (.bi .len (.cons (.var 3) .nil)) (.int 0)) (.cons (.ret .non) .nil) .nil) (.cons (.asg 4 Af (.idx (.comp Po 7 (.rng2 (.int 1) (.var 1)) Pj) (.int 0))) (.cons (.ret (.bi .tuple (.cons (.comp Pl 8 (.e (.var 2)) CI) .nil))) .nil)))))⟩
theorem PD{g:D->R Aj}{f:D->R D}{q:Ag->Aj}:∀(xs:Ac Ag),(∀ x∈xs,g (.int x)=.ok (q x)/\f (.int x)=.ok (.int x))->BU g f (ds xs)=.ok (ds (xs.filter q))
 |[],_=>rfl
 |x::xs,h=>by
  obtain⟨h1,h2⟩:=h x (AM ..);have ih:=PD xs λy hy=>h y (AG _ hy)
  show (g (.int x)).bind _=_;rw[h1,R.bind_ok];cases hq:q x with
  |true=>
   rw[Ar rfl,h2,R.bind_ok,C7,hq,Ar rfl];show (BU g f (ds xs)).bind _=_;rw[ih];rfl
  |false=>
   rw[As (by decide),C7,hq,As (by decide)]
   exact ih
theorem SD{p:Ag}(hp:0<p):∀(xs:Ac Ag),((xs.map λx=>x%p).filter λr=>decide (0<r)).head?=Ee p xs
 |[]=>rfl
 |x::xs=>by
  have h0:=DQ x (b:=p) (by omega)
  unfold Ee;rw[CO,C7];by_cases h:x%p=0
  .rw[Ar h,As (by simp[h]),SD hp xs]
  .rw[As h,Ar (by simp;omega)]
   rfl
theorem fN{t:Ag}(it:Jx p l t):((Hg p).filter λk=>decide (k*l%p=1)).head?=Ab t:=by
 have hm:t∈(Hg p).filter λk=>decide (k*l%p=1):=DR.mpr ⟨L7.mpr ⟨it.1,it.2.1⟩,by simp[G1 t l,it.2.2]⟩
 cases e:(Hg p).filter λk=>decide (k*l%p=1) with
 |nil=>rw[e]at hm;cases hm
 |cons u us=>
  have hu:u∈(Hg p).filter λk=>decide (k*l%p=1):=by rw[e];exact AM ..
  obtain⟨h1,h2⟩:=DR.mp hu;obtain⟨a,b⟩:=L7.mp h1;have h3:u*l%p=1:=by simpa using h2
  rw[Ti it ⟨a,b,by rw[G1];exact h3⟩]
  rfl
theorem TK(h:xs.head?=Ab l):FE (ds xs) 0=.ok (.int l):=by
 cases xs with
 |nil=>cases h
 |cons x xs=>cases h;exact Qv (by omega) rfl
noncomputable abbrev own(xs:Ac Ag):Sl:=Ab (.lst (ds xs),Aa)
section
variable{Y:Gam}{ns:Ac Ag}{a1 a2 a4 a6 a7 a8 a9 b0 b1 b2 b3 b4:Sl}{p:Ag}
end
section
variable{Y:Gam}{ns:Ac Ag}{a1 a4 a6 a7 a8 a9 b2 b3 b4:Sl}{p m:Ag}{xs:Ac Ag}
end
def Cg(p x y:Ag):Prop:=x%p=y%p
section
variable{p a b c d:Ag}
theorem Cg.of(h:a=b):Cg p a b:=by unfold Cg;rw[h]
end
theorem P4.m1(h:P4 p):(-1:Ag)%p≠0:=by rcases h with rfl|rfl|rfl|rfl<;>decide
theorem P4.o1(h:P4 p):(1:Ag)%p≠0:=by rcases h with rfl|rfl|rfl|rfl<;>decide
abbrev R3:=Ag×Ag×Ag
variable{a b q:R3}{P:Ac R3}
noncomputable def Sa(a:R3):D:=.lst [.int a.1,.int a.2.1,.int a.2.2]
noncomputable def NN(a b c:R3):Ag:=det a.1 a.2.1 a.2.2 b.1 b.2.1 b.2.2 c.1 c.2.1 c.2.2
def In3(p:Ag)(a:R3):Prop:=(0<=a.1/\a.1<p)/\(0<=a.2.1/\a.2.1<p)/\(0<=a.2.2/\a.2.2<p)
structure GoodR (p:Ag) (a b c:R3):Prop where
 p4:P4 p
 ia:In3 p a
 ib:In3 p b
 ic:In3 p c
 nz:NN a b c%p≠0
theorem GoodR.of{k:Ag}{c a' b' c':R3}(h:GoodR p a b c)(hk:k%p≠0)(e:Cg p (NN a' b' c') (k*NN a b c))(hin:In3 p a'/\In3 p b'/\In3 p c'):GoodR p a' b' c':=⟨h.p4,hin.1,hin.2.1,hin.2.2,by rw[show NN a' b' c'%p=_ from e];exact V2 h.p4 hk h.nz⟩
noncomputable abbrev ownR(a b c:R3):Sl:=Ab (.lst [Sa a,Sa b,Sa c],Aa)
section
variable{Y:Gam}{ns:Ac Ag}{at_ many s5 s0 s1 s2:Sl}{p t m:Ag}{a b c:R3}
end
section
variable{Y:Gam}{ns:Ac Ag}{many s5 s6 s7 s8 s9 s0 s1 s2:Sl}{p:Ag}{a b c:R3}
end
def Bd(n:Ae)(x:Ag):Prop:=x.natAbs<2 ^ n
def B3(a:R3):Prop:=Bd 300 a.1/\Bd 300 a.2.1/\Bd 300 a.2.2
noncomputable def BL(q:Aj)(a:R3):D:=FQ q [a.1,a.2.1,a.2.2]
section
variable{Y:Gam}{ns:Ac Ag}{p t:Ag}{a b c r:R3}{made s6 s7:Sl}
end
section
variable{Y:Gam}{ns:Ac Ag}{p m:Ag}{a b c:R3}{fa fb fc:R3}{q:Aj}{s9 s0 s1 s2:Sl}
end
def Qn(Y:Gam):Prop:=∀ p n:Ag,P4 p->n%p≠0->∃ t,1<=t/\t<p/\n*t%p=1/\Y.F 9 [.int p,.int n]=.ok (.int t)
def QE(Y:Gam):Prop:=∀(p:Ag)(b:Aj)(xs:Ac Ag)(l t:Ag),P4 p->Ee p xs=Ab l->Jx p l t->Y.F 17 [.int p,FQ b xs]=.ok (.tup (ds (fmI p t xs)))
theorem gK(hr:Os Y)(p n:Ag)(hp:P4 p)(z:n%p≠0):∃ t,1<=t/\t<p/\n*t%p=1/\NU.run Y [.int p,.int n]=.ok (.int t):=by
 have p0:=hp.pos;have ph:=hp.hi;have body:∀ t∈Hg p,∀ U,(∃ s,U=[si p,si n,s])->(decide (n*t%p=1)=Aa/\Ef Y 2 LP (.int t) U=.ret (.int t) Af)\/(decide (n*t%p=1)=Af/\∃ U',Ef Y 2 LP (.int t) U=.next U'/\∃ s,U'=[si p,si n,s]):=by
  rintro t ht U ⟨s,rfl⟩;obtain⟨t1,t2⟩:=L7.mp ht;have m:FX n t=Aa:=Ve (by omega) (by omega)
  by_cases e:n*t%p=1
  .exact .inl ⟨by simp[e],by simp[Ef,LP,hr p (n*t) p0,m,e,DI]⟩
  .exact .inr ⟨by simp[e],_,by simp[Ef,LP,hr p (n*t) p0,m,e];rfl,_,rfl⟩
 have run:∀ o,Dh (Ef Y 2 LP) ((Hg p).map D.int) [si p,si n,Ad]=o->NU.run Y [.int p,.int n]=(GZ Y (.cons (.rais 2 (.cons (.str (A3 "a number with the rest 0 is not turned over")) .nil)) .nil) o).ans Af:=by
  rintro o rfl;simp[NU,Df.run,DB,UA hp]
 rcases SQ (λU=>∃ s,U=[si p,si n,s]) (λt=>decide (n*t%p=1)) (Hg p) body [si p,si n,Ad] ⟨_,rfl⟩ with ⟨t,ht,a,b⟩|⟨a,r,b,s,rfl⟩
 .obtain⟨t1,t2⟩:=L7.mp ht;have a':n*t%p=1:=by simpa using a
  exact⟨t,t1,t2,a',by rw[run _ b];rfl⟩
 .obtain⟨t,t1,t2,e⟩:=VC hp z;have:=a t (L7.mpr ⟨t1,t2⟩);simp[e]at this
section
variable{Y:Gam}{p:Ag}{xs:Ac Ag}{b:Aj}
theorem UQ(hr:Os Y)(ht:Qn Y)(hp:P4 p)(rs:Ac Ag):∀(ys:Ac Ag),(∀ y∈ys,0<=y/\y<p)->∀ s3,(Ee p ys=Ad->∃ s3',Dh (Ef Y 3 IE) (ds ys) [si p,sh (FQ b xs),sh (.lst (ds rs)),s3,Ad,Ad,Ad]=.next [si p,sh (FQ b xs),sh (.lst (ds rs)),s3',Ad,Ad,Ad])/\(∀ l t,Ee p ys=Ab l->Jx p l t->Dh (Ef Y 3 IE) (ds ys) [si p,sh (FQ b xs),sh (.lst (ds rs)),s3,Ad,Ad,Ad]=.ret (.tup (ds (rs.map λr=>t*r%p))) Af)
 |[],_,s3=>⟨λ_=>⟨s3,rfl⟩,(λl t h=>nomatch h)⟩
 |y::ys,hy,s3=>by
  obtain⟨y0,y1⟩:=hy y (AM ..);have ym:y%p=y:=Gp y0 y1;have ih:=UQ hr ht hp rs ys (λz hz=>hy z (AG _ hz)) (si y)
  have step:∀ o,Ef Y 3 IE (.int y) [si p,sh (FQ b xs),sh (.lst (ds rs)),s3,Ad,Ad,Ad]=o->Dh (Ef Y 3 IE) (ds (y::ys)) [si p,sh (FQ b xs),sh (.lst (ds rs)),s3,Ad,Ad,Ad]=o.turn (Dh (Ef Y 3 IE) (ds ys)):=by
   rintro o rfl;rfl
  unfold Ee;rw[ym];by_cases hz:y=0
  .have e:Ef Y 3 IE (.int y) [si p,sh (FQ b xs),sh (.lst (ds rs)),s3,Ad,Ad,Ad]=.next [si p,sh (FQ b xs),sh (.lst (ds rs)),si y,Ad,Ad,Ad]:=by
    simp[Ef,IE,hz]
   rw[Ar hz,step _ e];exact ih
  .rw[As hz];refine⟨(λz=>nomatch z),λl t e it=>?_⟩
   cases e;obtain⟨u,u1,u2,u3,u4⟩:=ht p y hp (by rw[ym];exact hz)
   have:t=u:=Ti it ⟨u1,u2,u3⟩;subst this;have p0:=hp.pos;have ph:=hp.hi;have cp:BU (cG Y [si p,sh (FQ b xs),sh (.lst (ds rs)),si y,si t,Ad,Ad] 6 CI) (cF Y [si p,sh (FQ b xs),sh (.lst (ds rs)),si y,si t,Ad,Ad] 6 Ph) (ds rs)=.ok (ds (rs.map λr=>t*r%p)):=by
    refine MZ rs λr _=>⟨rfl,?_⟩
    have m:FX t r=Aa:=Ng (by omega) (by omega)
    simp[cF,Ph,m,hr p (t*r) p0]
   have e:Ef Y 3 IE (.int y) [si p,sh (FQ b xs),sh (.lst (ds rs)),s3,Ad,Ad,Ad]=.ret (.tup (ds (rs.map λr=>t*r%p))) Af:=by
    simp[Ef,IE,hz,u4,cp,DI]
   rw[step _ e];rfl
theorem oF(hr:Os Y)(ht:Qn Y)(hp:P4 p){t:Ag}(e:Ee p xs=Ab l)(it:Jx p l t):N3.run Y [.int p,FQ b xs]=.ok (.tup (ds (fmI p t xs))):=by
 have p0:=hp.pos;have cp:BU (cG Y [si p,sh (FQ b xs),Ad,Ad,Ad,Ad,Ad] 5 CI) (cF Y [si p,sh (FQ b xs),Ad,Ad,Ad,Ad,Ad] 5 Pi) (ds xs)=.ok (ds (xs.map λx=>x%p)):=by
  refine MZ xs λx _=>⟨rfl,?_⟩
  simp[cF,Pi,hr p x p0]
 have run:∀ o,Dh (Ef Y 3 IE) (ds (xs.map λx=>x%p)) [si p,sh (FQ b xs),sh (.lst (ds (xs.map λx=>x%p))),Ad,Ad,Ad,Ad]=o->N3.run Y [.int p,FQ b xs]=(GZ Y (.cons (.rais 3 (.cons (.str (A3 "all the numbers have the rest 0")) .nil)) .nil) o).ans Af:=by
  rintro o rfl;simp[N3,Df.run,DB,eR,cp]
 have le:Ee p (xs.map λx=>x%p)=Ee p xs:=by
  have:=Uf (c:=1) hp (by rcases hp with rfl|rfl|rfl|rfl<;>decide) (f:=λx=>x%p) (λx=>by rw[KR,Dm _ (Ft p)]) xs
  rw[this];cases e:Ee p xs with
  |none=>rfl
  |some l=>
   obtain⟨_,l0,l1⟩:=MX p0 e;simp[Gp (Int.le_of_lt l0) l1]
 obtain⟨a,c⟩:=UQ (b:=b) (xs:=xs) hr ht hp (xs.map λx=>x%p) (xs.map λx=>x%p) (λy hy=>by
  obtain⟨x,_,rfl⟩:=Br.mp hy;exact⟨DQ _ (by omega),DJ _ p0⟩) Ad
 rw[le]at a c;rw[run _ (c l t e it)];simp[fmI,Bl,XF]
end
theorem Vz:∀ xs ys:Ac Ag,eqDs (ds xs) (ds ys)=decide (xs=ys)
 |[],[]=>rfl
 |[],_::_=>rfl
 |_::_,[]=>rfl
 |x::xs,y::ys=>by
  show ((x==y)&&eqDs (ds xs) (ds ys))=_;rw[Vz xs ys,Fh];simp
theorem Rk(a b:R3):eqD (BL Aa a) (BL Aa b)=decide (a=b):=by
 show eqDs (ds [a.1,a.2.1,a.2.2]) (ds [b.1,b.2.1,b.2.2])=_;rw[Vz,Fh];simp only[List.cons.injEq,and_true,AU];exact⟨λ⟨h1,h2,h3⟩=>by obtain⟨a1,a2,a3⟩:=a;obtain⟨b1,b2,b3⟩:=b;simp at h1 h2 h3;rw[h1,h2,h3],λh=>by rw[h];exact⟨rfl,rfl,rfl⟩⟩
theorem Bd.mono{m n:Ae}(h:Bd m x)(hm:m<=n):Bd n x:=AS h (Yz (by decide) hm)
def Bn(n:Ae)(a:R3):Prop:=Bd n a.1/\Bd n a.2.1/\Bd n a.2.2
theorem Bn.b3{n:Ae}(h:Bn n a)(hn:n<=300):B3 a:=⟨h.1.mono hn,h.2.1.mono hn,h.2.2.mono hn⟩
noncomputable def dC(k:Ag)(a:R3):R3:=(k*a.1,k*a.2.1,k*a.2.2)
noncomputable def fk0(p:Ag)(a b c d:R3):Ag:=NN d b c%p
noncomputable def fs0(p:Ag)(a b c d:R3):R3:=dC (fk0 p a b c d) a
noncomputable def NR:E:=(.call 17 (.cons (.var 0) (.cons (.tup (.cons (.var 3) (.cons (.var 2) (.cons (.int 1) .nil)))) .nil)))
noncomputable def MV:Ss:=(.cons (.app 1 (.comp NR 3 (.rng (.var 0)) CI)) .nil)
noncomputable def NQ:E:=(.tup (.cons (.int 1) (.cons (.var 4) (.cons (.int 0) .nil))))
noncomputable def NP:Df:=⟨5,Af,(.cons (.asg 1 Aa (.lst .nil)) (.cons (.fors 2 (.rng3 (.bin .Sub (.var 0) (.int 1)) (.un .USub (.int 1)) (.un .USub (.int 1))) MV) (.cons (.app 1 (.bin .Add (.comp NQ 4 (.rng (.var 0)) CI) (.lst (.cons (.tup (.cons (.int 0) (.cons (.int 1) (.cons (.int 0) .nil)))) .nil)))) (.cons (.ret (.var 1)) .nil))))⟩
noncomputable def K7:Ss:=(.cons (.ife (.cmp .Eq (.var 3) (.str (A3 "#"))) (.cons (.app 2 (.var 4)) .nil) (.cons (.ife (.cmp .NotEq (.var 3) (.str (A3 "."))) (.cons (.rais 16 (.cons (.str (A3 "a sign that is not drawn")) .nil)) .nil) .nil) .nil)) .nil)
noncomputable def M3:Df:=⟨5,Aa,(.cons (.ife (.cmp .NotEq (.bi .len (.cons (.var 0) .nil)) (.bi .len (.cons (.var 1) .nil))) (.cons (.rais 16 (.cons (.str (A3 "a text of another length")) .nil)) .nil) .nil) (.cons (.asg 2 Aa (.lst .nil)) (.cons (.forT [3,4] (.zip (.var 0) (.var 1)) K7) (.cons (.ret (.var 2)) .nil))))⟩
noncomputable def JX:Ss:=(.cons (.ext 3 (.call 312 (.cons (.var 4) (.cons (.var 5) .nil)))) .nil)
noncomputable def KB:Df:=⟨6,Aa,(.cons (.asg 2 Af (.call 309 (.cons (.var 0) .nil))) (.cons (.ife (.cmp .NotEq (.bi .len (.cons (.var 1) .nil)) (.bi .len (.cons (.var 2) .nil))) (.cons (.rais 16 (.cons (.str (A3 "texts too many or few")) .nil)) .nil) .nil) (.cons (.asg 3 Aa (.lst .nil)) (.cons (.forT [4,5] (.zip (.var 1) (.var 2)) JX) (.cons (.ret (.bi .sorted (.cons (.var 3) .nil))) .nil)))))⟩
noncomputable def hsh:Ak:=⟨#[35]⟩
noncomputable def dot:Ak:=⟨#[46]⟩
theorem Ou:A3 "#" = hsh:=by kernel_rfl
theorem Oz:A3 "." = dot:=by kernel_rfl
noncomputable def sg(c:Ae):Ak:=⟨#[c]⟩
theorem WD(c d:Ae):(sg c==sg d)=decide (c=d):=by
 by_cases h:c=d
 .rw[BG h,h];simp
 .rw[BD h];have:sg c≠sg d:=λe=>h (by
   have:=congrArg Str.cps e;simpa [sg] using this)
  simpa using this
theorem IK{n:Ae}(h:n<=1000):BY n=Aa:=Ys.mpr (by omega)
noncomputable def rw3(l:Ac R3):Ac D:=l.map (BL Aa)
noncomputable def DP:Ac Ae->Ac R3->Ac R3
 |c::cs,a::as=>if c=35 then a::DP cs as else DP cs as
 |_,_=>[]
theorem Vg:∀(cs:Ac Ae)(as:Ac R3),(DP cs as).length<=as.length
 |[],as=>by simp[DP]
 |c::cs,[]=>by simp[DP]
 |c::cs,a::as=>by
  have:=Vg cs as;rw[DP];split
  .rw[A5,A5];omega
  .rw[A5];omega
noncomputable def okS(c:Ae):Aj:=decide (c=35)||decide (c=46)
noncomputable def exP:Ex:=⟨16,[]⟩
section
variable{Y:Gam}
theorem Qr(hx:∀ es,Y.xn 16 es=.ok exP)(X L:D):∀(cs:Ac Ae)(as acc:Ac R3)(s3 s4:Sl),cs.length=as.length->acc.length+as.length<=900->(cs.all okS=Aa->∃ s3' s4',Dh (Gz Y [3,4] K7) (El (cs.map λc=>D.str (sg c)) (rw3 as)) [sh X,sh L,Ab (.lst (rw3 acc),Aa),s3,s4]=.next [sh X,sh L,Ab (.lst (rw3 (acc++DP cs as)),Aa),s3',s4'])/\(cs.all okS=Af->∃ U,Dh (Gz Y [3,4] K7) (El (cs.map λc=>D.str (sg c)) (rw3 as)) [sh X,sh L,Ab (.lst (rw3 acc),Aa),s3,s4]=.exn exP U)
 |[],[],acc,s3,s4,_,_=>⟨λ_=>⟨s3,s4,by simp[DP,rw3,El,Dh]⟩,λh=>by simp at h⟩
 |[],_::_,_,_,_,h,_=>by cases h
 |_::_,[],_,_,_,h,_=>by cases h
 |c::cs,a::as,acc,s3,s4,hl,hz=>by
  rw[A5,A5]at hl;rw[A5]at hz;have hl:cs.length=as.length:=by omega
  have e1:(sg c==hsh)=decide (c=35):=WD c 35;have e2:(sg c==dot)=decide (c=46):=WD c 46;have z:BY ((rw3 acc).length+1)=Aa:=IK (by rw[rw3,AF];omega)
  have hz':El ((c::cs).map λc=>D.str (sg c)) (rw3 (a::as))=.tup [.str (sg c),BL Aa a]::El (cs.map λc=>D.str (sg c)) (rw3 as):=rfl
  have hd:∀(b:D->Rho->O)(x:D)(xs:Ac D)(U:Rho),Dh b (x::xs) U=(b x U).turn (Dh b xs):=λ_ _ _ _=>rfl
  rw[hz',hd];have ha:rw3 acc++[BL Aa a]=rw3 (acc++[a]):=by simp[rw3]
  have step:Gz Y [3,4] K7 (.tup [.str (sg c),BL Aa a]) [sh X,sh L,Ab (.lst (rw3 acc),Aa),s3,s4]=if c=35 then .next [sh X,sh L,Ab (.lst (rw3 (acc++[a])),Aa),sh (.str (sg c)),sh (BL Aa a)] else if c=46 then .next [sh X,sh L,Ab (.lst (rw3 acc),Aa),sh (.str (sg c)),sh (BL Aa a)] else .exn exP [sh X,sh L,Ab (.lst (rw3 acc),Aa),sh (.str (sg c)),sh (BL Aa a)]:=by
   rw[<-ha];generalize BL Aa a=Q at *;generalize rw3 acc=Y_ at *;generalize sg c=S at *;by_cases c1:c=35
   .simp[Gz,K7,Ou,Oz,F8,e1,e2,c1,De,z]
   .by_cases c2:c=46
    .simp[Gz,K7,Ou,Oz,F8,e1,e2,c1,c2,De,z]
    .simp[Gz,K7,Ou,Oz,F8,e1,e2,c1,c2,De,z,hx]
  rw[step];by_cases c1:c=35
  .rw[Ar c1];have ih:=Qr hx X L cs as (acc++[a]) (sh (.str (sg c))) (sh (BL Aa a)) hl (by rw[Bt];simp;omega)
   have es:acc++DP (c::cs) (a::as)=acc++[a]++DP cs as:=by rw[DP,Ar c1];simp
   rw[es];have eo:(c::cs).all okS=cs.all okS:=by simp[okS,c1]
   rw[eo];exact ih
  .rw[As c1];have es:acc++DP (c::cs) (a::as)=acc++DP cs as:=by rw[DP,As c1]
   rw[es];by_cases c2:c=46
   .rw[Ar c2];have ih:=Qr hx X L cs as acc (sh (.str (sg c))) (sh (BL Aa a)) hl (by omega)
    have eo:(c::cs).all okS=cs.all okS:=by simp[okS,c2]
    rw[eo];exact ih
   .rw[As c2];have eo:(c::cs).all okS=Af:=by simp[okS,c1,c2]
    rw[eo];exact⟨λh=>by (cases h),λ_=>⟨_,rfl⟩⟩
noncomputable def Jm(x:Ak)(as:Ac R3):Aj:=decide (x.cps.size=as.length)&&x.cps.toList.all okS
noncomputable def asc(x:Ak):Aj:=x.cps.all (· < 128)
def QQ(Y:Gam):Prop:=∀(x:Ak)(as:Ac R3),asc x=Aa->x.length<=900->as.length<=900->Y.F 312 [.str x,.lst (rw3 as)]=if Jm x as=Aa then .ok (.lst (rw3 (DP x.cps.toList as))) else .exn exP
theorem oC(hx:∀ es,Y.xn 16 es=.ok exP)(x:Ak)(as:Ac R3)(ha:asc x=Aa)(h1:x.length<=900)(h2:as.length<=900):M3.run Y [.str x,.lst (rw3 as)]=if Jm x as=Aa then .ok (.lst (rw3 (DP x.cps.toList as))) else .exn exP:=by
 have ll:biD .len [.lst (rw3 as)]=.ok (.int as.length):=by rw[ao,rw3,AF]
 have ls:biD .len [.str x]=.ok (.int x.cps.size):=by
  show (if BY x.length=Aa then R.ok (D.int x.length) else .bad)=_
  rw[Ar (IK (by omega))]
  rfl
 have az:asZ (.str x)=.ok (x.cps.toList.map λc=>D.str (sg c)):=by
  show (if x.cps.all (· < 128)=Aa then R.ok (KI x) else .bad)=_
  rw[Ar (show x.cps.all (· < 128)=Aa from ha)]
  rfl
 by_cases hl:x.cps.size=as.length
 .obtain⟨l1,l2⟩:=Qr hx (.str x) (.lst (rw3 as)) x.cps.toList as [] Ad Ad (by simpa using hl) (by simp;omega)
  have en:rw3 []=([]:Ac D):=rfl;rw[en]at l1 l2;have eb:Jm x as=x.cps.toList.all okS:=by unfold Jm;rw[BG hl];simp
  rw[eb];have asq:EI (.lst (rw3 as))=.ok (rw3 as):=rfl;generalize rw3 as=L at *;generalize x.cps.toList.map (λc=>D.str (sg c))=S at *
  cases e:x.cps.toList.all okS with
  |true=>
   obtain⟨s3,s4,lo⟩:=l1 e;rw[IU]at lo;generalize rw3 (DP x.cps.toList as)=Z_ at *;simp[M3,Df.run,DB,ll,ls,az,hl,lo,Ld,DI,Fq]
  |false=>
   obtain⟨U,lo⟩:=l2 e;simp[M3,Df.run,DB,ll,ls,az,hl,lo,Ld,DI,Fq]
 .have eb:Jm x as=Af:=by unfold Jm;rw[BD hl];rfl
  rw[eb];have hl':¬ ((x.cps.size:Ag)=(as.length:Ag)):=by omega
  generalize rw3 as=L at *;simp[M3,Df.run,DB,ll,ls,hl',hx]
end
noncomputable def F9(p l:Ag):Ag:=(((AD p.toNat).map fun(k:Ae)=>(k:Ag)).find? λt=>decide (l*t%p=1)).getD 0
theorem Ui(hp:P4 p)(h0:0<l)(h1:l<p):Jx p l (F9 p l):=by
 obtain⟨n,rfl⟩:∃ n:Ae,l=n:=⟨l.toNat,by omega⟩
 unfold Jx;rcases hp with rfl|rfl|rfl|rfl
 .have:∀ n:Ae,n<3->0<n->(1<=F9 3 n/\F9 3 n<3/\(n:Ag)*F9 3 n%3=1):=by decide+kernel
  exact this n (by omega) (by omega)
 .have:∀ n:Ae,n<5->0<n->(1<=F9 5 n/\F9 5 n<5/\(n:Ag)*F9 5 n%5=1):=by decide+kernel
  exact this n (by omega) (by omega)
 .have:∀ n:Ae,n<7->0<n->(1<=F9 7 n/\F9 7 n<7/\(n:Ag)*F9 7 n%7=1):=by decide+kernel
  exact this n (by omega) (by omega)
 .have:∀ n:Ae,n<11->0<n->(1<=F9 11 n/\F9 11 n<11/\(n:Ag)*F9 11 n%11=1):=by decide+kernel
  exact this n (by omega) (by omega)
noncomputable def l3(q:R3):Ac Ag:=[q.1,q.2.1,q.2.2]
noncomputable def fq(p:Ag)(q:R3):R3:=match Ee p (l3 q) with
  |some l=>(F9 p l*(q.1%p)%p,F9 p l*(q.2.1%p)%p,F9 p l*(q.2.2%p)%p)
  |none=>q
theorem WH(h:Ee p (l3 q)=Ab l):l3 (fq p q)=fmI p (F9 p l) (l3 q):=by
 unfold fq;rw[h];rfl
theorem tZ(hf:QE Y)(hp:P4 p)(hl:∃ l,Ee p (l3 q)=Ab l)(b:Aj):Y.F 17 [.int p,BL b q]=.ok (BL Aa (fq p q)):=by
 obtain⟨l,hl⟩:=hl;obtain⟨_,h0,h1⟩:=MX hp.pos hl;have e:=hf p b (l3 q) l _ hp hl (Ui hp h0 h1);rw[<-WH hl]at e;exact e
noncomputable def aff(n y:Ae):Ac R3:=(AD n).map fun(x:Ae)=>fq n ((x:Ag),(n:Ag)-1-(y:Ag),1)
noncomputable def Nv(n:Ae):Ac R3:=((AD n).map fun(m:Ae)=>((1:Ag),(m:Ag),(0:Ag)))++[(0,1,0)]
noncomputable def cells(n:Ae):Ac (Ac R3):=(AD n).map (aff n)++[Nv n]
noncomputable def rws(l:Ac (Ac R3)):Ac D:=l.map λr=>D.lst (rw3 r)
theorem P4.n{n:Ae}(hp:P4 n):n=3\/n=5\/n=7\/n=11:=by
 rcases hp with h|h|h|h<;>omega
theorem Qy{g:D->R Aj}{f:D->R D}{φ:Ae->R3}:∀ L:Ac Ae,(∀ k∈L,g (.int (0+(k:Ag)))=.ok Aa/\f (.int (0+(k:Ag)))=.ok (BL Aa (φ k)))->BU g f (L.map fun(k:Ae)=>D.int (0+(k:Ag)))=.ok (rw3 (L.map φ))
 |[],_=>rfl
 |k::L,h=>by
  obtain⟨h1,h2⟩:=h k (AM ..);have ih:=Qy L λm hm=>h m (AG _ hm)
  show (g (.int (0+(k:Ag)))).bind _=_;rw[h1,R.bind_ok,Ar rfl,h2,R.bind_ok,show BU g f (List.map _ L)=_ from ih]
  rfl
theorem Ud(lo:Ag)(n:Ae):(FF lo n).length=n:=by simp[FF]
theorem Uo{lo:Ag}{n i:Ae}{d:D}(h:(FF lo n)[i]?=Ab d):i<n/\d=.int (lo-i):=by
 unfold FF at h;rw[BC]at h;by_cases hi:i<n
 .rw[Hj hi]at h;exact⟨hi,(Bf h).symm⟩
 .rw[Fv (by simp;omega)]at h
  cases h
theorem bU{n:Ae}(hn:n<=11):HR ((n:Ag)-1) (-1) (-1)=.ok (FF ((n:Ag)-1) n):=by
 have h:(-1:Ag)=-1/\(-(4611686018427387904:Ag)<=(n:Ag)-1/\(n:Ag)-1<4611686018427387904)/\(-(4611686018427387904:Ag)<=-1/\(-1:Ag)<4611686018427387904)/\(n:Ag)-1 - -1<1000000:=⟨rfl,⟨by omega,by omega⟩,⟨by omega,by omega⟩,by omega⟩
 have e:((n:Ag)-1 - -1).toNat=n:=by omega
 rw[HR,Ar h,e]
section
variable{Y:Gam}{n:Ae}
def RP(Y:Gam):Prop:=∀ n:Ae,P4 n->Y.F 309 [.int n]=.ok (.lst (rws (cells n)))
theorem Ue{a b:Ag}(hp:P4 p):∃ l,Ee p [a,b,1]=Ab l:=by
 cases e:Ee p [a,b,1] with
 |some l=>exact⟨l,rfl⟩
 |none=>
  have:=Tf.mp e 1 (by simp)
  rcases hp with rfl|rfl|rfl|rfl<;>cases this
theorem rV(rg:D7 0 p=.ok G)(r:BU (cG Y [si p,Ab (.lst L,Aa),si y,Ad,Ad] 3 CI) (cF Y [si p,Ab (.lst L,Aa),si y,Ad,Ad] 3 NR) G=.ok Z_)(z:BY (L.length+1)=Aa):Ef Y 2 MV (.int y) [si p,Ab (.lst L,Aa),s2,Ad,Ad]=.next [si p,Ab (.lst (L++[.lst Z_]),Aa),si y,Ad,Ad]:=by
 simp[Ef,MV,rg,r,De,z]
theorem mY{Dn:Ac D}(rg:D7 0 p=.ok G)(rd:HR (p-1) (-1) (-1)=.ok Dn)(el:Dh (Ef Y 2 MV) Dn [si p,Ab (.lst [],Aa),Ad,Ad,Ad]=.next [si p,Ab (.lst L,Aa),s2,Ad,Ad])(c2:BU (cG Y [si p,Ab (.lst L,Aa),s2,Ad,Ad] 4 CI) (cF Y [si p,Ab (.lst L,Aa),s2,Ad,Ad] 4 NQ) G=.ok Z_)(z1:BY (L.length+1)=Aa)(z2:BY (Z_.length+1)=Aa):NP.run Y [.int p]=.ok (.lst (L++[.lst (Z_++[.tup [.int 0,.int 1,.int 0]])])):=by
 simp[NP,Df.run,DB,Ld,DI,rd,el,c2,rg,De,z1,z2]
theorem yN(hf:QE Y)(n:Ae)(hp:P4 n):NP.run Y [.int n]=.ok (.lst (rws (cells n))):=by
 have hn:n<=11:=by rcases hp.n with rfl|rfl|rfl|rfl<;>decide
 have rg:D7 0 (n:Ag)=.ok (Fa 0 n):=by
  rw[P3 (by omega) (by omega)]
  simp
 have rd:=bU hn;have row:∀(i:Ae)(L:D)(U3:Sl),BU (cG Y [si n,Ab (L,Aa),si ((n:Ag)-1-i),Ad,Ad] 3 CI) (cF Y [si n,Ab (L,Aa),si ((n:Ag)-1-i),Ad,Ad] 3 NR) (Fa 0 n)=.ok (rw3 (aff n i)):=λi L _=>by
  refine Qy (AD n) λk hk=>⟨rfl,?_⟩
  have e:=tZ hf (q:=((k:Ag),(n:Ag)-1-(i:Ag),1)) hp (Ue hp) Aa;have er:BL Aa ((k:Ag),(n:Ag)-1-(i:Ag),1)=.tup [.int k,.int ((n:Ag)-1-(i:Ag)),.int 1]:=rfl;rw[er]at e;generalize BL Aa (fq n _)=Y_ at *;simp[cF,NR,e]
 obtain⟨U',el,s2,eρ⟩:=Pv (body:=Ef Y 2 MV) (λi U=>∃ s2,U=[si n,Ab (.lst (rws ((AD i).map (aff n))),Aa),s2,Ad,Ad]) (FF ((n:Ag)-1) n) 0 [si n,Ab (.lst [],Aa),Ad,Ad,Ad] ⟨Ad,rfl⟩ λi x hx U hρ=>by
  obtain⟨s2,rfl⟩:=hρ;rw[DT];obtain⟨hi,rfl⟩:=Uo hx;have r:=row i (.lst (rws ((AD i).map (aff n)))) Ad;have z:BY ((rws ((AD i).map (aff n))).length+1)=Aa:=IK (by simp[rws];omega)
  have ea:rws ((AD (i+1)).map (aff n))=rws ((AD i).map (aff n))++[.lst (rw3 (aff n i))]:=by simp[rws,IW]
  rw[ea];exact⟨_,rV rg r z,si ((n:Ag)-1-i),rfl⟩
 rw[Ud,DT]at eρ;subst eρ;have c2:∀(L:D)(s:Sl),BU (cG Y [si n,Ab (L,Aa),s,Ad,Ad] 4 CI) (cF Y [si n,Ab (L,Aa),s,Ad,Ad] 4 NQ) (Fa 0 n)=.ok (rw3 ((AD n).map fun(m:Ae)=>((1:Ag),(m:Ag),(0:Ag)))):=λL s=>by
  refine Qy (AD n) λk hk=>⟨rfl,?_⟩
  have er:BL Aa ((1:Ag),(k:Ag),(0:Ag))=.tup [.int 1,.int k,.int 0]:=rfl;rw[er];simp[cF,NQ]
 have z1:BY ((rws ((AD n).map (aff n))).length+1)=Aa:=IK (by simp[rws];omega)
 have z2:BY ((rw3 ((AD n).map fun(m:Ae)=>((1:Ag),(m:Ag),(0:Ag)))).length+1)=Aa:=IK (by simp[rw3];omega)
 have ec:rws (cells n)=rws ((AD n).map (aff n))++[.lst (rw3 ((AD n).map fun(m:Ae)=>((1:Ag),(m:Ag),(0:Ag)))++[.tup [.int 0,.int 1,.int 0]])]:=by
  unfold cells Nv rws rw3;simp;rfl
 rw[ec];exact mY rg rd el (c2 _ _) z1 z2
end
noncomputable def Hi:Ac Ak->Ac (Ac R3)->Ac R3
 |x::xs,r::rs=>DP x.cps.toList r++Hi xs rs
 |_,_=>[]
noncomputable def okA:Ac Ak->Ac (Ac R3)->Aj
 |x::xs,r::rs=>Jm x r&&okA xs rs
 |_,_=>Aa
def Txs(xs:Ac Ak):Prop:=∀ x∈xs,asc x=Aa/\x.length<=900
section
variable{Y:Gam}
theorem Te(hr:QQ Y)(fr:Y.fr 312=Aa)(P X R0:D):∀(xs:Ac Ak)(rs:Ac (Ac R3))(acc:Ac R3)(s4 s5:Sl),Txs xs->(∀ r∈rs,r.length<=20)->acc.length+20*rs.length<=900->(okA xs rs=Aa->∃ s4' s5',Dh (Gz Y [4,5] JX) (El (xs.map D.str) (rws rs)) [sh P,sh X,sh R0,Ab (.lst (rw3 acc),Aa),s4,s5]=.next [sh P,sh X,sh R0,Ab (.lst (rw3 (acc++Hi xs rs)),Aa),s4',s5'])/\(okA xs rs=Af->∃ U,Dh (Gz Y [4,5] JX) (El (xs.map D.str) (rws rs)) [sh P,sh X,sh R0,Ab (.lst (rw3 acc),Aa),s4,s5]=.exn exP U)
 |[],rs,acc,s4,s5,_,_,_=>by
  have e:okA [] rs=Aa:=by cases rs<;>rfl
  have e2:Hi [] rs=[]:=by cases rs<;>rfl
  have e3:El (([]:Ac Ak).map D.str) (rws rs)=[]:=by cases rs<;>rfl
  rw[e,e2,e3,Bu];exact⟨λ_=>⟨s4,s5,rfl⟩,λh=>by (cases h)⟩
 |x::xs,[],acc,s4,s5,_,_,_=>by
  have e2:Hi (x::xs) []=[]:=rfl;rw[e2,Bu];exact⟨λ_=>⟨s4,s5,rfl⟩,λh=>by (cases h)⟩
 |x::xs,r::rs,acc,s4,s5,hx,hl,hz=>by
  obtain⟨h1,h2⟩:=hx x (by simp)
  have l1:=hl r (by simp)
  rw[A5]at hz;have e:=hr x r h1 h2 (by omega)
  have sl:=Vg x.cps.toList r;have hz':El ((x::xs).map D.str) (rws (r::rs))=.tup [.str x,.lst (rw3 r)]::El (xs.map D.str) (rws rs):=rfl;have hd:∀(b:D->Rho->O)(x:D)(xs:Ac D)(U:Rho),Dh b (x::xs) U=(b x U).turn (Dh b xs):=λ_ _ _ _=>rfl
  rw[hz',hd];by_cases ok:Jm x r=Aa
  .rw[Ar ok]at e;have z:BY ((rw3 acc).length+(rw3 (DP x.cps.toList r)).length)=Aa:=IK (by rw[rw3,rw3,AF,AF];omega)
   have step:Gz Y [4,5] JX (.tup [.str x,.lst (rw3 r)]) [sh P,sh X,sh R0,Ab (.lst (rw3 acc),Aa),s4,s5]=.next [sh P,sh X,sh R0,Ab (.lst (rw3 acc++rw3 (DP x.cps.toList r)),Aa),sh (.str x),sh (.lst (rw3 r))]:=by
    generalize rw3 (DP x.cps.toList r)=Q at *;generalize rw3 acc=Y_ at *;generalize rw3 r=Z_ at *;simp[Gz,JX,F8,e,De,z,DI,fr,KN]
   rw[step];have ea:rw3 acc++rw3 (DP x.cps.toList r)=rw3 (acc++DP x.cps.toList r):=by simp[rw3]
   rw[ea];have ih:=Te hr fr P X R0 xs rs (acc++DP x.cps.toList r) (sh (.str x)) (sh (.lst (rw3 r))) (λy hy=>hx y (by simp[hy])) (λy hy=>hl y (by simp[hy])) (by rw[Bt];omega)
   have es:acc++Hi (x::xs) (r::rs)=acc++DP x.cps.toList r++Hi xs rs:=by rw[Hi,CC]
   have eo:okA (x::xs) (r::rs)=okA xs rs:=by rw[okA,ok,Kc]
   rw[es,eo];exact ih
  .have ok':Jm x r=Af:=by simpa using ok
   rw[As ok]at e;have step:Gz Y [4,5] JX (.tup [.str x,.lst (rw3 r)]) [sh P,sh X,sh R0,Ab (.lst (rw3 acc),Aa),s4,s5]=.exn exP [sh P,sh X,sh R0,Ab (.lst (rw3 acc),Aa),sh (.str x),sh (.lst (rw3 r))]:=by
    generalize rw3 acc=Y_ at *;generalize rw3 r=Z_ at *;simp[Gz,JX,F8,e,De,DI,fr]
   rw[step];have eo:okA (x::xs) (r::rs)=Af:=by rw[okA,ok',Jy]
   rw[eo];exact⟨λh=>by (cases h),λ_=>⟨_,rfl⟩⟩
theorem kZ{X:Ac D}(h9:Y.F 309 [.int p]=.ok (.lst RW))(hx:∀ es,Y.xn 16 es=.ok exP)(hl:¬ X.length=RW.length):KB.run Y [.int p,.lst X]=.exn exP:=by
 have hl':¬ ((X.length:Ag)=(RW.length:Ag)):=by omega
 simp[KB,Df.run,DB,h9,hl',hx]
theorem kY{X:Ac D}{s4:Sl}(h9:Y.F 309 [.int p]=.ok (.lst RW))(hl:X.length=RW.length)(lo:Dh (Gz Y [4,5] JX) (El X RW) [si p,sh (.lst X),sh (.lst RW),Ab (.lst [],Aa),Ad,Ad]=.next [si p,sh (.lst X),sh (.lst RW),Ab (.lst Y_,Aa),s4,s5])(so:Hu Y_=.ok Z_)(cl:Z_.all (nlD 5)=Aa):KB.run Y [.int p,.lst X]=.ok (.lst Z_):=by
 have cl':Fq Aa (.lst Z_)=Aa:=by show (Aa&&Z_.all (nlD 5))=Aa;rw[cl];rfl
 simp[KB,Df.run,DB,h9,hl,lo,so,Ld,DI,cl']
theorem lA{X:Ac D}{U:Rho}(h9:Y.F 309 [.int p]=.ok (.lst RW))(hl:X.length=RW.length)(lo:Dh (Gz Y [4,5] JX) (El X RW) [si p,sh (.lst X),sh (.lst RW),Ab (.lst [],Aa),Ad,Ad]=.exn exP U):KB.run Y [.int p,.lst X]=.exn exP:=by
 simp[KB,Df.run,DB,h9,hl,lo,Ld,DI]
end
theorem Qj:∀(cs:Ac Ae)(as:Ac R3),(DP cs as).Sublist as
 |[],as=>by cases as<;>exact GL _
 |c::cs,[]=>GL _
 |c::cs,a::as=>by
  rw[DP];split
  .exact(Qj cs as).cons₂ a
  .exact(Qj cs as).cons a
theorem Ux:∀(xs:Ac Ak)(rs:Ac (Ac R3)),(Hi xs rs).Sublist rs.flatten
 |[],rs=>by cases rs<;>exact GL _
 |x::xs,[]=>GL _
 |x::xs,r::rs=>by
  rw[Hi,X6];exact(Qj _ r).append (Ux xs rs)
theorem Le{n:Ae}(hp:P4 n):(cells n).flatten.Nodup/\(cells n).flatten.length<=200/\(cells n).length=n+1/\∀ r∈cells n,r.length<=20:=by
 rcases hp.n with rfl|rfl|rfl|rfl
 .decide+kernel
 .decide+kernel
 .decide+kernel
 .decide+kernel
noncomputable def WW(r:Ac Ag):R3:=(r.getD 0 0,r.getD 1 0,r.getD 2 0)
theorem tL{l:Ac R3}(nd:l.Nodup)(hl:l.length<=1000):∃ l',Hu (rw3 l)=.ok (rw3 l'):=by
 have e:∀ l:Ac R3,rw3 l=(l.map l3).map tI:=λl=>by
  unfold rw3;rw[Bl];exact B7 λa _=>rfl
 have inj:∀ a b:R3,l3 a=l3 b->a=b:=λa b h=>by
  obtain⟨a1,a2,a3⟩:=a;obtain⟨b1,b2,b3⟩:=b;simp[l3]at h;obtain⟨rfl,rfl,rfl⟩:=h;rfl
 have nd':(l.map l3).Nodup:=Du.mpr (nd.imp λh z=>h (inj _ _ z))
 refine⟨(E9 (l.map l3)).map WW,?_⟩;rw[e,e];have h:=S8 (rs:=l.map l3) (ys:=E9 (l.map l3)) (λr hr=>by
  obtain⟨a,_,rfl⟩:=Br.mp hr;exact XX _ _) nd' (by rw[AF];exact hl) (Nd nd') λr=>(JV _).mem_iff
 have tb:((E9 (l.map l3)).map WW).map l3=E9 (l.map l3):=by
  rw[Bl]
  conv=>rhs;rw[<-Yi (E9 (l.map l3))]
  exact B7 λr hr=>by
   obtain⟨a,_,rfl⟩:=Br.mp ((JV _).mem_iff.mp hr);rfl
 rw[h,tb]
noncomputable def IH(n:Ae)(xs:Ac Ak):Ac R3:=open Classical in if h:∃ l',Hu (rw3 (Hi xs (cells n)))=.ok (rw3 l') then XD h else []
theorem Uy{n:Ae}(hp:P4 n)(xs:Ac Ak):Hu (rw3 (Hi xs (cells n)))=.ok (rw3 (IH n xs)):=by
 obtain⟨c1,c2,_⟩:=Le hp;have sb:=Ux xs (cells n);have h:=tL (c1.sublist sb) (by have:=sb.length_le;omega)
 unfold IH;rw[dif_pos h];exact Fs h
noncomputable def good(n:Ae)(xs:Ac Ak):Aj:=decide (xs.length=n+1)&&okA xs (cells n)
section
variable{Y:Gam}
def Ua(Y:Gam):Prop:=∀(n:Ae)(xs:Ac Ak),P4 n->Txs xs->Y.F 313 [.int n,.lst (xs.map D.str)]=if good n xs=Aa then .ok (.lst (rw3 (IH n xs))) else .exn exP
theorem V3(l:Ac R3):(rw3 l).all (nlD 5)=Aa:=by
 unfold rw3;rw[Fu];exact Bx.mpr λ_ _=>rfl
theorem jU(h9:RP Y)(hr:QQ Y)(fr:Y.fr 312=Aa)(hx:∀ es,Y.xn 16 es=.ok exP)(n:Ae)(xs:Ac Ak)(hp:P4 n)(ht:Txs xs):KB.run Y [.int n,.lst (xs.map D.str)]=if good n xs=Aa then .ok (.lst (rw3 (IH n xs))) else .exn exP:=by
 obtain⟨c1,c2,c3,c4⟩:=Le hp;have rl:(rws (cells n)).length=n+1:=by unfold rws;rw[AF,c3]
 by_cases hl:xs.length=n+1
 .have hl':(xs.map D.str).length=(rws (cells n)).length:=by rw[AF,rl,hl]
  have eg:good n xs=okA xs (cells n):=by unfold good;rw[BG hl,Kc]
  have n11:n<=11:=by rcases hp.n with rfl|rfl|rfl|rfl<;>decide
  obtain⟨l1,l2⟩:=Te hr fr (.int n) (.lst (xs.map D.str)) (.lst (rws (cells n))) xs (cells n) [] Ad Ad ht c4 (by rw[c3];simp;omega)
  rw[eg];cases e:okA xs (cells n) with
  |true=>
   obtain⟨s4,s5,lo⟩:=l1 e;rw[IU]at lo;rw[Ar rfl];exact kY (h9 n hp) hl' lo (Uy hp xs) (V3 _)
  |false=>
   obtain⟨U,lo⟩:=l2 e;exact lA (h9 n hp) hl' lo
 .have eg:good n xs=Af:=by unfold good;rw[BD hl,Jy]
  rw[eg];exact kZ (h9 n hp) hx (by rw[AF,rl];exact hl)
end
theorem jV(Y:Gam)(hp:P4 p):(Ee p xs=Ad->M4.run Y [.tup (ds xs),.int p]=.ok .non)/\(∀ l t,Ee p xs=Ab l->Jx p l t->M4.run Y [.tup (ds xs),.int p]=.ok (.tup (ds (fmI p t xs)))):=by
 have p0:=hp.pos;have ph:=hp.hi;have c1:BU (cG Y [sh (.tup (ds xs)),si p,Ad,Ad,Ad,Ad,Ad,Ad,Ad] 5 CI) (cF Y [sh (.tup (ds xs)),si p,Ad,Ad,Ad,Ad,Ad,Ad,Ad] 5 Pq) (ds xs)=.ok (ds (xs.map λx=>x%p)):=by
  refine MZ xs λx _=>⟨rfl,?_⟩
  simp[cF,Pq,p0]
 generalize hR:(xs.map λx=>x%p)=rs at c1
 have c2:BU (cG Y [sh (.tup (ds xs)),si p,sh (.lst (ds rs)),Ad,Ad,Ad,Ad,Ad,Ad] 6 Pk) (cF Y [sh (.tup (ds xs)),si p,sh (.lst (ds rs)),Ad,Ad,Ad,Ad,Ad,Ad] 6 Pp) (ds rs)=.ok (ds (rs.filter λr=>decide (0<r))):=by
  refine PD rs λx _=>⟨?_,?_⟩
  .simp[cG,Pk]
  .simp[cF,Pp]
 have hl:=SD p0 xs;rw[hR]at hl;generalize hL:(rs.filter λr=>decide (0<r))=ls at c2 hl
 have dl:(ds ls).length=ls.length:=AF ..;refine⟨λz=>?_,λl t e it=>?_⟩
 .rw[z]at hl;have:ls=[]:=List.head?_eq_none_iff.mp hl;subst this;simp[M4,Df.run,DB,c1,c2,dl]
 .rw[e]at hl;have hne:ls≠[]:=by rintro rfl;cases hl
  have hlen:(ls.length:Ag)≠0:=by have:=Ye.mpr hne;omega
  have g0:=TK hl;obtain⟨_,l0,l1⟩:=MX p0 e;have c3:BU (cG Y [sh (.tup (ds xs)),si p,sh (.lst (ds rs)),sh (.lst (ds ls)),Ad,Ad,Ad,Ad,Ad] 7 Pj) (cF Y [sh (.tup (ds xs)),si p,sh (.lst (ds rs)),sh (.lst (ds ls)),Ad,Ad,Ad,Ad,Ad] 7 Po) (ds (Hg p))=.ok (ds ((Hg p).filter λk=>decide (k*l%p=1))):=by
   refine PD (Hg p) λx hx=>⟨?_,?_⟩
   .obtain⟨x1,x2⟩:=L7.mp hx;have m:FX x l=Aa:=Ng (by omega) (by omega)
    simp[cG,Pj,g0,m,p0];rw[Fh];simp
   .simp[cF,Po]
  have g1:=TK (fN it);have c4:BU (cG Y [sh (.tup (ds xs)),si p,sh (.lst (ds rs)),sh (.lst (ds ls)),si t,Ad,Ad,Ad,Ad] 8 CI) (cF Y [sh (.tup (ds xs)),si p,sh (.lst (ds rs)),sh (.lst (ds ls)),si t,Ad,Ad,Ad,Ad] 8 Pl) (ds rs)=.ok (ds (rs.map λr=>t*r%p)):=by
   refine MZ rs λx _=>⟨rfl,?_⟩
   have m:FX x t=Aa:=Ve (by have:=it.1;omega) (by have:=it.2.1;omega)
   simp[cF,Pl,m,p0,G1]
  have ru:D7 1 p=.ok (ds (Hg p)):=UA hp;have fe:fmI p t xs=rs.map λr=>t*r%p:=by rw[<-hR];simp[fmI,Bl,XF]
  simp[M4,Df.run,DB,c1,c2,dl,hlen,hne,ru,c3,g1,c4,fe]
def O1(Y:Gam):Prop:=∀(p:Ag)(xs:Ac Ag)(l t:Ag),P4 p->Ee p xs=Ab l->Jx p l t->Y.F 44 [.tup (ds xs),.int p]=.ok (.tup (ds (fmI p t xs)))
section
variable{Y:Gam}
theorem vY(hf:O1 Y)(hp:P4 p)(hl:∃ l,Ee p (l3 q)=Ab l):Y.F 44 [BL Aa q,.int p]=.ok (BL Aa (fq p q)):=by
 obtain⟨l,hl⟩:=hl;obtain⟨_,h0,h1⟩:=MX hp.pos hl;have e:=hf p (l3 q) l _ hp hl (Ui hp h0 h1);rw[<-WH hl]at e;exact e
end
noncomputable def hd2:Ak:=⟨#[35,46]⟩
section
variable{Y:Gam}
end
section
variable{Y:Gam}
end
section
variable{Y:Gam}
end
theorem rM{x:Ak}:asc x=Aa↔∀ c∈x.cps.toList,c<128:=by
 unfold asc;rw[<-Array.all_toList,Bx];simp
theorem bg{x y:Ak}(h:x.length+y.length<=1000):Dr .Add (.str x) (.str y)=.ok (.str (x++y)):=by
 rw[Rh,Ar (IK h)]
section
variable{Y:Gam}
end
section
variable{Y:Gam}
noncomputable def chA:Ss:=(.cons (.ret (.bin .Add (.sl (.var 0) .non (.var 3)) (.sl (.var 0) (.bin .Add (.var 3) (.int 1)) .non))) .nil)
noncomputable def chB:Ss:=(.cons (.ret (.bin .Add (.bin .Add (.sl (.var 0) .non (.var 3)) (.lst (.cons (.var 4) .nil))) (.sl (.var 0) (.var 3) .non))) .nil)
section
variable{L:Ac D}{m W t u:Ag}{x0:Ak}{s6 s7:Sl}
end
end
noncomputable def SY:E:=(.bl Aa)
noncomputable def SZ:E:=(.and (.cons (.isi (.var 2) [.int]) (.cons (.no (.isi (.var 2) [.bool])) .nil)))
noncomputable def QA:Df:=⟨3,Af,(.cons (.ife (.or (.cons (.no (.isi (.var 0) [.tuple])) (.cons (.cmp .NotEq (.var 0) (.var 1)) .nil))) (.cons (.ret (.bl Af)) .nil) .nil) (.cons (.ret (.bi .all (.cons (.comp SZ 2 (.e (.var 0)) SY) .nil))) .nil))⟩
noncomputable def SX:E:=(.bl Aa)
noncomputable def Pz:E:=(.call 45 (.cons (.var 2) (.cons (.var 2) .nil)))
noncomputable def Qz:Df:=⟨3,Af,(.cons (.ret (.and (.cons (.isi (.var 0) [.list]) (.cons (.cmp .Eq (.var 0) (.var 1)) (.cons (.bi .all (.cons (.comp Pz 2 (.e (.var 0)) SX) .nil)) .nil))))) .nil)⟩
theorem Sz:∀ xs:Ac Ak,KD (xs.map D.str)=Ab xs
 |[]=>rfl
 |x::xs=>by
  show (KD (xs.map D.str)).map (x :: ·)=_;rw[Sz xs];rfl
theorem S7:∀ xs:Ac Ak,(∀ x∈xs,x.length=1)->(xs.map (·.length)).sum=xs.length
 |[],_=>rfl
 |x::xs,h=>by
  rw[CO,List.sum_cons,S7 xs λy hy=>h y (AG _ hy),h x (by simp),A5]
  omega
section
variable{Y:Gam}
def Wn(Y:Gam):Prop:=∀ q:R3,Y.F 45 [BL Aa q,BL Aa q]=.ok (.bl Aa)
theorem sQ(q:R3):QA.run Y [BL Aa q,BL Aa q]=.ok (.bl Aa):=by
 have e:Cf .NotEq (BL Aa q) (BL Aa q)=.ok (.bl Af):=by
  have fl:flD 5 (BL Aa q)=Aa:=rfl;show (if (flD 5 (BL Aa q)&&flD 5 (BL Aa q))=Aa then R.ok (D.bl (!eqD (BL Aa q) (BL Aa q))) else .bad)=_
  rw[fl,Qx 5 _ fl];rfl
 have er:BL Aa q=.tup [.int q.1,.int q.2.1,.int q.2.2]:=rfl;rw[er]at e ⊢;simp[QA,Df.run,DB,e,BU,cG,cF,SY,SZ,mkL,GX,FP]
theorem T7{g:D->R Aj}{f:D->R D}:∀ l:Ac R3,(∀ q∈l,g (BL Aa q)=.ok Aa/\f (BL Aa q)=.ok (.bl Aa))->BU g f (rw3 l)=.ok (l.map λ_=>D.bl Aa)
 |[],_=>rfl
 |q::l,h=>by
  obtain⟨g1,f1⟩:=h q (by simp)
  show (g (BL Aa q)).bind _=_;rw[g1,R.bind_ok,Ar rfl,f1,R.bind_ok];show (BU g f (rw3 l)).bind _=_;rw[T7 l λy hy=>h y (AG _ hy)]
  rfl
theorem VH(l:Ac R3):flD 5 (.lst (rw3 l))=Aa:=by
 show (rw3 l).all (flD 4)=Aa;unfold rw3;rw[Fu];exact Bx.mpr λ_ _=>rfl
def Wm(Y:Gam):Prop:=∀ l:Ac R3,Y.F 316 [.lst (rw3 l),.lst (rw3 l)]=.ok (.bl Aa)
theorem sP(hs:Wn Y)(l:Ac R3):Qz.run Y [.lst (rw3 l),.lst (rw3 l)]=.ok (.bl Aa):=by
 have c:=T7 (g:=cG Y [sh (.lst (rw3 l)),sh (.lst (rw3 l)),Ad] 2 SX) (f:=cF Y [sh (.lst (rw3 l)),sh (.lst (rw3 l)),Ad] 2 Pz) l λq _=>⟨rfl,by
  have e:=hs q;generalize BL Aa q=Q at *;simp[cF,Pz,e]⟩
 have fl:=VH l;have eq:=Qx 5 _ fl;have al:biD .all [.lst (l.map λ_=>D.bl Aa)]=.ok (.bl Aa):=by
  show (FP (l.map λ_=>D.bl Aa)).bind _=_
  have:∀ l:Ac R3,FP (l.map λ_=>D.bl Aa)=.ok Aa:=λl=>by
   induction l with
   |nil=>rfl
   |cons _ l ih=>
    show (FP (l.map λ_=>D.bl Aa)).bind _=_
    rw[ih];rfl
  rw[this l];rfl
 generalize rw3 l=L at *;generalize (l.map λ_=>D.bl Aa)=M at *
 simp[Qz,Df.run,DB,c,fl,eq,al]
end
noncomputable def MU:E:=(.ite (.cmp .In (.var 2) (.var 0)) (.str (A3 "#")) (.str (A3 ".")))
noncomputable def NT:Df:=⟨3,Af,(.cons (.ret (.bi .sjoin (.cons (.str (A3 "")) (.cons (.comp MU 2 (.e (.var 1)) CI) .nil)))) .nil)⟩
noncomputable def P7:E:=(.call 310 (.cons (.var 1) (.cons (.var 2) .nil)))
noncomputable def On:Df:=⟨3,Aa,(.cons (.ret (.comp P7 2 (.e (.call 309 (.cons (.var 0) .nil))) CI)) .nil)⟩
noncomputable def Ec(P:Ac R3)(a:R3):Ae:=if a∈P then 35 else 46
noncomputable def CA(P:Ac R3)(as:Ac R3):Ak:=⟨(as.map (Ec P)).toArray⟩
theorem N1(P:Ac R3)(a:R3):Cf .In (BL Aa a) (.lst (rw3 P))=.ok (.bl (decide (a∈P))):=by
 have f1:(rw3 P).all (flD 5)=Aa:=by
  unfold rw3;rw[Fu];exact Bx.mpr λ_ _=>rfl
 have f2:flD 5 (BL Aa a)=Aa:=rfl;show (if (flD 5 (BL Aa a)&&(rw3 P).all (flD 5))=Aa then R.ok (D.bl ((rw3 P).any λy=>eqD y (BL Aa a))) else .bad)=_
 rw[f1,f2,Ar (show (Aa&&Aa)=Aa from rfl)]
 congr 2
 unfold rw3;rw[Kl,Fh,C6,bn];constructor
 .rintro⟨b,hb,e⟩;have e':eqD (BL Aa b) (BL Aa a)=Aa:=e;rw[Rk,bn]at e';rw[<-e'];exact hb
 .intro h;refine⟨a,h,?_⟩;show eqD (BL Aa a) (BL Aa a)=Aa;rw[Rk];exact BG rfl
theorem Kz{α:Type}{g:D->R Aj}{f:D->R D}{d c:α->D}:∀ l:Ac α,(∀ a∈l,g (d a)=.ok Aa/\f (d a)=.ok (c a))->BU g f (l.map d)=.ok (l.map c)
 |[],_=>rfl
 |a::l,h=>by
  obtain⟨h1,h2⟩:=h a (AM ..);have ih:=Kz l λm hm=>h m (AG _ hm)
  show (g (d a)).bind _=_;rw[h1,R.bind_ok,Ar rfl,h2,R.bind_ok,show BU g f (List.map _ l)=_ from ih]
  rfl
theorem Tg:∀ cs:Ac Ae,Str.join ⟨#[]⟩ (cs.map sg)=⟨cs.toArray⟩
 |[]=>rfl
 |[c]=>rfl
 |c::d::r=>by
  have ih:=Tg (d::r);show (sg c++⟨#[]⟩)++Str.join ⟨#[]⟩ ((d::r).map sg)=_;rw[ih];show (⟨(#[c] ++ #[])++(d::r).toArray⟩:Ak)=_
  congr 1
  simp
theorem RT{cs:Ac Ae}(hl:cs.length<=100):biD .sjoin [.str (A3 ""),.lst (cs.map λc=>D.str (sg c))]=.ok (.str ⟨cs.toArray⟩):=by
 have e0:A3 "" = (⟨#[]⟩:Ak):=by kernel_rfl
 rw[e0];have em:(cs.map λc=>D.str (sg c))=(cs.map sg).map D.str:=by rw[Bl];rfl
 rw[em];have sm:=S7 (cs.map sg) λx h=>by
  obtain⟨c,_,rfl⟩:=Br.mp h;rfl
 have jo:Kq ⟨#[]⟩ (cs.map sg)=Aa:=by
  unfold Kq Builtin.Str.tooLong;rw[StrLaws.joinTotal,sm,show (⟨#[]⟩:Ak).length=0 from rfl,Nat.mul_zero,G5]
  have:¬ ((cs.map sg).length>sizeLine):=λh=>by
   have:sizeLine ≥ 1000:=by decide
   rw[AF]at h;omega
  rw[AF]at this ⊢;simp[this]
 show Nm ⟨#[]⟩ ((cs.map sg).map D.str)=_;unfold Nm;rw[Sz];show (if Kq ⟨#[]⟩ (cs.map sg)=Aa then R.ok (D.str (MM ⟨#[]⟩ (cs.map sg))) else .bad)=_
 rw[Ar jo];show R.ok (D.str (Builtin.Str.glued ⟨#[]⟩ (cs.map sg)))=_;rw[StrLaws.glued_eq_join,Tg]
section
variable{Y:Gam}
theorem kK(ce:BU (cG Y [sh X,sh (.lst L),Ad] 2 CI) (cF Y [sh X,sh (.lst L),Ad] 2 MU) L=.ok Z_)(e:biD .sjoin [.str (A3 ""),.lst Z_]=.ok (.str t)):NT.run Y [X,.lst L]=.ok (.str t):=by
 generalize hT:A3 "" = T at *;simp[NT,Df.run,DB,ce,e,hT]
def Wo(Y:Gam):Prop:=∀ P as:Ac R3,as.length<=100->Y.F 310 [.lst (rw3 P),.lst (rw3 as)]=.ok (.str (CA P as))
theorem sS(P as:Ac R3)(hl:as.length<=100):NT.run Y [.lst (rw3 P),.lst (rw3 as)]=.ok (.str (CA P as)):=by
 have key:BU (cG Y [sh (.lst (rw3 P)),sh (.lst (rw3 as)),Ad] 2 CI) (cF Y [sh (.lst (rw3 P)),sh (.lst (rw3 as)),Ad] 2 MU) (rw3 as)=.ok (as.map λa=>D.str (sg (Ec P a))):=by
  refine Kz as λa _=>⟨rfl,?_⟩
  have e:=N1 P a;have e1:=Ou;have e2:=Oz;generalize hX:D.lst (rw3 P)=X at *;generalize hY:D.lst (rw3 as)=Y_ at *;by_cases h:a∈P
  .rw[BG h]at e;have ec:D.str (sg (Ec P a))=.str hsh:=by unfold Ec;rw[Ar h];rfl
   rw[ec];generalize BL Aa a=A at *;simp[cF,MU,e,e1]
  .rw[BD h]at e;have ec:D.str (sg (Ec P a))=.str dot:=by unfold Ec;rw[As h];rfl
   rw[ec];generalize BL Aa a=A at *;simp[cF,MU,e,e2]
 refine kK key ?_;have e:=RT (cs:=as.map (Ec P)) (by rw[AF];exact hl)
 rw[Bl]at e;exact e
def Wq(Y:Gam):Prop:=∀(n:Ae)(P:Ac R3),P4 n->Y.F 311 [.int n,.lst (rw3 P)]=.ok (.lst ((cells n).map λr=>D.str (CA P r)))
theorem iI{p:D}(h9:Y.F 309 [p]=.ok (.lst L))(ce:BU (cG Y [sh p,sh X,Ad] 2 CI) (cF Y [sh p,sh X,Ad] 2 P7) L=.ok Z_):On.run Y [p,X]=.ok (.lst Z_):=by
 simp[On,Df.run,DB,h9,ce,DI]
theorem sU(h9:RP Y)(hr:Wo Y)(n:Ae)(P:Ac R3)(hp:P4 n):On.run Y [.int n,.lst (rw3 P)]=.ok (.lst ((cells n).map λr=>D.str (CA P r))):=by
 obtain⟨_,_,_,c4⟩:=Le hp;refine iI (h9 n hp) ?_;refine Kz (d:=λr=>D.lst (rw3 r)) (cells n) λr hr'=>⟨rfl,?_⟩
 have e:=hr P r (by have:=c4 r hr';omega)
 generalize D.lst (rw3 P)=X at *;generalize D.lst (rw3 r)=Y_ at *;simp[cF,P7,e]
end
noncomputable def LR:E:=(.idx (.str (A3 ".#")) (.bi .int (.cons (.cmp .In (.call 44 (.cons (.tup (.cons (.var 5) (.cons (.var 3) (.cons (.int 1) .nil)))) (.cons (.var 1) .nil))) (.var 0)) .nil)))
noncomputable def MT:Ss:=(.cons (.app 2 (.bi .sjoin (.cons (.str (A3 "")) (.cons (.comp LR 5 (.rng (.var 1)) CI) .nil)))) .nil)
noncomputable def LQ:E:=(.idx (.str (A3 ".#")) (.bi .int (.cons (.cmp .In (.tup (.cons (.int 1) (.cons (.var 6) (.cons (.int 0) .nil)))) (.var 0)) .nil)))
noncomputable def NV:Df:=⟨7,Af,(.cons (.asg 2 Aa (.lst .nil)) (.cons (.fors 3 (.rrv (.var 1)) MT) (.cons (.asg 4 Af (.bi .sjoin (.cons (.str (A3 "")) (.cons (.comp LQ 6 (.rng (.var 1)) CI) .nil)))) (.cons (.ret (.bin .Add (.var 2) (.lst (.cons (.bin .Add (.var 4) (.idx (.str (A3 ".#")) (.bi .int (.cons (.cmp .In (.tup (.cons (.int 0) (.cons (.int 1) (.cons (.int 0) .nil)))) (.var 0)) .nil)))) .nil)))) .nil))))⟩
theorem RE(b:Aj):J6 (.str (A3 ".#")) (.int (b2i b))=.ok (.str (sg (if b=Aa then 35 else 46))):=by
 cases b
 .kernel_rfl
 .kernel_rfl
theorem RF(P:Ac R3)(a:R3):(if decide (a∈P)=Aa then 35 else 46)=Ec P a:=by
 unfold Ec;by_cases h:a∈P
 .rw[Ar (BG h),Ar h]
 .rw[As (by rw[BD h];decide),As h]
section
variable{Y:Gam}
theorem bX(hf:O1 Y){n:Ae}(hp:P4 n)(P:Ac R3)(x y:Ag)(L s4:Sl):cF Y [sh (.lst (rw3 P)),si n,L,si y,s4,Ad,Ad] 5 LR (.int x)=.ok (.str (sg (Ec P (fq n (x,y,1))))):=by
 have e:=vY hf (q:=(x,y,1)) hp (Ue hp);have er:BL Aa (x,y,1)=.tup [.int x,.int y,.int 1]:=rfl;rw[er]at e;have i:=N1 P (fq n (x,y,1));have d:=RE (decide (fq n (x,y,1)∈P));rw[RF]at d;generalize sg (Ec P (fq n (x,y,1)))=C at *;generalize decide (fq n (x,y,1)∈P)=b at *;generalize BL Aa (fq n (x,y,1))=Y_ at *;generalize D.lst (rw3 P)=X at *;generalize (n:Ag)=N at *;generalize hT:A3 ".#" = T at *;simp[cF,LR,e,i,d,hT]
theorem bW(P:Ac R3)(x:Ag)(N L Y_ s4:Sl):cF Y [sh (.lst (rw3 P)),N,L,Y_,s4,Ad,Ad] 6 LQ (.int x)=.ok (.str (sg (Ec P (1,x,0)))):=by
 have er:BL Aa ((1:Ag),x,(0:Ag))=.tup [.int 1,.int x,.int 0]:=rfl;have i:=N1 P (1,x,0);rw[er]at i;have d:=RE (decide ((1,x,0)∈P));rw[RF]at d;generalize sg (Ec P (1,x,0))=C at *;generalize decide ((1,x,0)∈P)=b at *;generalize D.lst (rw3 P)=X at *;generalize hT:A3 ".#" = T at *;simp[cF,LQ,i,d,hT]
theorem bV(rg:D7 0 p=.ok G)(r:BU (cG Y [sh X,si p,Ab (.lst L,Aa),si y,Ad,Ad,Ad] 5 CI) (cF Y [sh X,si p,Ab (.lst L,Aa),si y,Ad,Ad,Ad] 5 LR) G=.ok Z_)(j:biD .sjoin [.str (A3 ""),.lst Z_]=.ok (.str t))(z:BY (L.length+1)=Aa):Ef Y 3 MT (.int y) [sh X,si p,Ab (.lst L,Aa),s3,Ad,Ad,Ad]=.next [sh X,si p,Ab (.lst (L++[.str t]),Aa),si y,Ad,Ad,Ad]:=by
 generalize hT:A3 "" = T at *;simp[Ef,MT,rg,r,De,z,j,hT]
theorem uX{Dn:Ac D}{u v:Ak}{b:Aj}(rg:D7 0 p=.ok G)(rd:IP p=.ok Dn)(el:Dh (Ef Y 3 MT) Dn [sh X,si p,Ab (.lst [],Aa),Ad,Ad,Ad,Ad]=.next [sh X,si p,Ab (.lst L,Aa),s3,Ad,Ad,Ad])(c2:BU (cG Y [sh X,si p,Ab (.lst L,Aa),s3,Ad,Ad,Ad] 6 CI) (cF Y [sh X,si p,Ab (.lst L,Aa),s3,Ad,Ad,Ad] 6 LQ) G=.ok Z_)(j:biD .sjoin [.str (A3 ""),.lst Z_]=.ok (.str t))(i:Cf .In (.tup [.int 0,.int 1,.int 0]) X=.ok (.bl b))(d:J6 (.str (A3 ".#")) (.int (b2i b))=.ok (.str u))(a:Dr .Add (.str t) (.str u)=.ok (.str v))(z1:BY (L.length+1)=Aa):NV.run Y [X,.int p]=.ok (.lst (L++[.str v])):=by
 generalize hT:A3 ".#" = T at *;generalize hU:A3 "" = U_ at *;simp[NV,Df.run,DB,Ld,DI,rd,el,c2,rg,j,i,d,a,z1,hT,hU]
theorem bT{n:Ae}(hp:P4 n):IP (n:Ag)=.ok (FF ((n:Ag)-1) n):=by
 have h:1<=(n:Ag)/\(n:Ag)<1000000:=by rcases hp.n with rfl|rfl|rfl|rfl<;>decide
 rw[IP,Ar h,Ic]
def Wp(Y:Gam):Prop:=∀(n:Ae)(P:Ac R3),P4 n->Y.F 314 [.lst (rw3 P),.int n]=.ok (.lst ((cells n).map λr=>D.str (CA P r)))
theorem sT(hf:O1 Y)(n:Ae)(P:Ac R3)(hp:P4 n):NV.run Y [.lst (rw3 P),.int n]=.ok (.lst ((cells n).map λr=>D.str (CA P r))):=by
 have hn:n<=11:=by rcases hp.n with rfl|rfl|rfl|rfl<;>decide
 have rg:D7 0 (n:Ag)=.ok (Fa 0 n):=by
  rw[P3 (by omega) (by omega)]
  simp
 have row:∀(i:Ae)(L:Sl),BU (cG Y [sh (.lst (rw3 P)),si n,L,si ((n:Ag)-1-i),Ad,Ad,Ad] 5 CI) (cF Y [sh (.lst (rw3 P)),si n,L,si ((n:Ag)-1-i),Ad,Ad,Ad] 5 LR) (Fa 0 n)=.ok (((aff n i).map (Ec P)).map λc=>D.str (sg c)):=λi L=>by
  have:=Kz (g:=cG Y [sh (.lst (rw3 P)),si n,L,si ((n:Ag)-1-i),Ad,Ad,Ad] 5 CI) (f:=cF Y [sh (.lst (rw3 P)),si n,L,si ((n:Ag)-1-i),Ad,Ad,Ad] 5 LR) (d:=fun(k:Ae)=>D.int (0+(k:Ag))) (c:=λk=>D.str (sg (Ec P (fq n ((k:Ag),(n:Ag)-1-(i:Ag),1))))) (AD n) λk hk=>⟨rfl,by
   have:=bX hf hp P (0+(k:Ag)) ((n:Ag)-1-i) L Ad;rw[XQ]at this ⊢;exact this⟩
  unfold Fa;rw[this];unfold aff;rw[Bl,Bl];rfl
 obtain⟨U',el,s3,eρ⟩:=Pv (body:=Ef Y 3 MT) (λi U=>∃ s3,U=[sh (.lst (rw3 P)),si n,Ab (.lst ((AD i).map λj=>D.str (CA P (aff n j))),Aa),s3,Ad,Ad,Ad]) (FF ((n:Ag)-1) n) 0 [sh (.lst (rw3 P)),si n,Ab (.lst [],Aa),Ad,Ad,Ad,Ad] ⟨Ad,rfl⟩ λi x hx U hρ=>by
  obtain⟨s3,rfl⟩:=hρ;rw[DT];obtain⟨hi,rfl⟩:=Uo hx;have r:=row i (Ab (.lst ((AD i).map λj=>D.str (CA P (aff n j))),Aa))
  have z:BY (((AD i).map λj=>D.str (CA P (aff n j))).length+1)=Aa:=IK (by simp;omega)
  have ea:((AD (i+1)).map λj=>D.str (CA P (aff n j)))=((AD i).map λj=>D.str (CA P (aff n j)))++[.str (CA P (aff n i))]:=by simp[IW]
  rw[ea];exact⟨_,bV rg r (RT (by unfold aff;simp;omega)) z,si ((n:Ag)-1-i),rfl⟩
 rw[Ud,DT]at eρ;subst eρ;have c2:∀(L s:Sl),BU (cG Y [sh (.lst (rw3 P)),si n,L,s,Ad,Ad,Ad] 6 CI) (cF Y [sh (.lst (rw3 P)),si n,L,s,Ad,Ad,Ad] 6 LQ) (Fa 0 n)=.ok ((((AD n).map fun(m:Ae)=>((1:Ag),(m:Ag),(0:Ag))).map (Ec P)).map λc=>D.str (sg c)):=λL s=>by
  have:=Kz (g:=cG Y [sh (.lst (rw3 P)),si n,L,s,Ad,Ad,Ad] 6 CI) (f:=cF Y [sh (.lst (rw3 P)),si n,L,s,Ad,Ad,Ad] 6 LQ) (d:=fun(k:Ae)=>D.int (0+(k:Ag))) (c:=λk=>D.str (sg (Ec P (1,(k:Ag),0)))) (AD n) λk hk=>⟨rfl,by
   have:=bW (Y:=Y) P (0+(k:Ag)) (si n) L s Ad;rw[XQ]at this ⊢;exact this⟩
  unfold Fa;rw[this,Bl,Bl];rfl
 have z1:BY (((AD n).map λj=>D.str (CA P (aff n j))).length+1)=Aa:=IK (by simp;omega)
 have er:BL Aa ((0:Ag),(1:Ag),(0:Ag))=.tup [.int 0,.int 1,.int 0]:=rfl;have i:=N1 P (0,1,0);rw[er]at i;have d:=RE (decide ((0,1,0)∈P));rw[RF]at d;have ad:Dr .Add (.str (CA P ((AD n).map fun(m:Ae)=>((1:Ag),(m:Ag),(0:Ag))))) (.str (sg (Ec P (0,1,0))))=.ok (.str (CA P (Nv n))):=by
  rw[bg (by
   have e1:(CA P ((AD n).map fun(m:Ae)=>((1:Ag),(m:Ag),(0:Ag)))).length=n:=by
    show ((((AD n).map fun(m:Ae)=>((1:Ag),(m:Ag),(0:Ag))).map (Ec P)).toArray).size=n
    simp
   have e2:(sg (Ec P (0,1,0))).length=1:=rfl;omega)]
  have e3:∀(A:Ac Ae)(c:Ae),(⟨A.toArray⟩:Ak)++sg c=⟨(A++[c]).toArray⟩:=λA c=>by
   show (⟨A.toArray ++ #[c]⟩:Ak)=_;rw[show A.toArray ++ #[c]=(A++[c]).toArray from by simp]
  unfold CA;rw[e3];unfold Nv;rw[Fk];rfl
 have ec:((cells n).map λr=>D.str (CA P r))=((AD n).map λj=>D.str (CA P (aff n j)))++[.str (CA P (Nv n))]:=by
  unfold cells;rw[Fk,Bl];rfl
 rw[ec];exact uX rg (bT hp) el (c2 _ _) (RT (by simp;omega)) i d ad z1
end
noncomputable def J8(p n:Ag):R3:=if n=0 then (0,0,1) else if n<=p then (0,1,n-1) else (1,(n-p-1)/p,(n-p-1)%p)
noncomputable def M5:Df:=⟨2,Af,(.cons (.asg 0 Af (.bin .Mod (.var 0) (.bin .Add (.bin .Add (.bin .Mult (.var 1) (.var 1)) (.var 1)) (.int 1)))) (.cons (.ife (.cmp .Eq (.var 0) (.int 0)) (.cons (.ret (.tup (.cons (.int 0) (.cons (.int 0) (.cons (.int 1) .nil))))) .nil) .nil) (.cons (.ife (.cmp .LtE (.var 0) (.var 1)) (.cons (.ret (.tup (.cons (.int 0) (.cons (.int 1) (.cons (.bin .Sub (.var 0) (.int 1)) .nil))))) .nil) .nil) (.cons (.ret (.tup (.cons (.int 1) (.cons (.bin .FloorDiv (.bin .Sub (.bin .Sub (.var 0) (.var 1)) (.int 1)) (.var 1)) (.cons (.bin .Mod (.bin .Sub (.bin .Sub (.var 0) (.var 1)) (.int 1)) (.var 1)) .nil))))) .nil))))⟩
theorem N91{p n:Ag}(hp:P4 p):0<p*p+p+1/\0<=n%(p*p+p+1)/\n%(p*p+p+1)<p*p+p+1:=by
 have p0:=hp.pos;have N0:0<p*p+p+1:=by have:=Int.mul_pos p0 p0;omega
 exact⟨N0,DQ n (XN N0),DJ n N0⟩
theorem sO(Y:Gam)(p n:Ag)(hp:P4 p):M5.run Y [.int n,.int p]=.ok (BL Aa (J8 p (n%(p*p+p+1)))):=by
 have pp:FX p p=Aa:=Ng (by have:=hp.lo;omega) (by have:=hp.hi;omega)
 have p0:=hp.pos;have ph:=hp.hi;obtain⟨N0,h0,h1⟩:=N91 (n:=n) hp;have pb:p<1073741824:=by omega
 generalize hr:n%(p*p+p+1)=r at *;unfold J8;by_cases z0:r=0
 .rw[Ar z0];simp[M5,Df.run,DB,pp,N0,hr,z0];rfl
 .rw[As z0];by_cases z1:r<=p
  .rw[Ar z1];simp[M5,Df.run,DB,pp,N0,hr,z0,z1];rfl
  .rw[As z1];simp[M5,Df.run,DB,pp,N0,hr,z0,z1,p0,pb];rfl
theorem W8{n:Ae}(hp:P4 n)(m:Ag):J8 n (m%((n:Ag)*n+n+1))∈(cells n).flatten:=by
 obtain⟨_,h0,h1⟩:=N91 (n:=m) hp;generalize m%((n:Ag)*n+n+1)=r at *;obtain⟨k,rfl⟩:=XG h0;have key:∀ n:Ae,(n=3\/n=5\/n=7\/n=11)->∀ k,k<n*n+n+1->J8 n k∈(cells n).flatten:=by
  intro n hn;rcases hn with rfl|rfl|rfl|rfl<;>decide+kernel
 exact key n hp.n k (by omega)
theorem cH{n:Ae}(hp:P4 n):NF ((cells n).flatten.map λq=>Dg (l3 q))=Aa:=by
 rcases hp.n with rfl|rfl|rfl|rfl
 .decide+kernel
 .decide+kernel
 .decide+kernel
 .decide+kernel
theorem uC(h:l3 a=l3 b):a=b:=by
 obtain⟨a1,a2,a3⟩:=a;obtain⟨b1,b2,b3⟩:=b;simp[l3]at h;obtain⟨rfl,rfl,rfl⟩:=h;rfl
theorem Tk:∀{hs:Ac Ag},NF hs=Aa->hs.Nodup
 |[],_=>JB
 |h::r,e=>by
  have e':(!r.contains h&&NF r)=Aa:=e;rw[Am]at e';refine DS.mpr ⟨λm=>?_,Tk e'.2⟩
  have:=e'.1;rw[List.contains_iff_mem.mpr m]at this;cases this
theorem zH{n:Ae}(hp:P4 n)(ha:a∈(cells n).flatten)(hb:b∈(cells n).flatten)(h:Dg (l3 a)=Dg (l3 b)):a=b:=by
 have nd:=BO.mp (Tk (cH hp));obtain⟨i,hi,rfl⟩:=Cp ha;obtain⟨j,hj,rfl⟩:=Cp hb;rcases Gq i j with z|z|z
 .have:=nd i j (by rw[AF];exact hi) (by rw[AF];exact hj) z
  rw[FI,FI]at this;exact absurd h this
 .subst z;rfl
 .have:=nd j i (by rw[AF];exact hj) (by rw[AF];exact hi) z
  rw[FI,FI]at this;exact absurd h.symm this
theorem V9:∀ P:Ac R3,HV (rw3 P)=Ab (P.map l3)
 |[]=>rfl
 |a::P=>by
  have ih:=V9 P;show ((Ga [D.int a.1,D.int a.2.1,D.int a.2.2]).bind λk=>(HV (rw3 P)).map (k :: ·))=_
  rw[ih];rfl
theorem Uu(ks:Ac (Ac Ag)):(ddK ks).Nodup/\(∀ k,k∈ddK ks↔k∈ks)/\(ddK ks).length<=ks.length:=by
 have e:(E8 (λj=>(ks.getD j [],0)) ks.length).map (·.1)=ddK ks:=by
  rw[Qm]
  congr 1
  apply Eh
  .simp
  .intro i h1 h2;simp[h2]
 rw[<-e];refine⟨Ql _ _,λk=>⟨λh=>?_,λh=>?_⟩,by rw[AF];exact M0 _ _⟩
 .obtain⟨p,hp,rfl⟩:=Br.mp h;obtain⟨j,hj,rfl⟩:=K6 hp;show ks.getD j []∈ks;rw[A8,AC hj];exact C8 _
 .obtain⟨j,hj,rfl⟩:=Cp h;have:=P8 (kA:=λj=>(ks.getD j [],0)) hj
  have e2:ks.getD j []=ks[j]:=by rw[A8,AC hj];rfl
  rw[<-e2];exact this
theorem dA{n:Ae}(hp:P4 n)(hl:P.length<=200)(hP:∀ a∈P,a∈(cells n).flatten):biD .sset [.lst (rw3 P)]=.ok (.lst ((E9 (ddK (P.map l3))).map tI)):=by
 show Mp (rw3 P)=_;unfold Mp;rw[V9];have h1:(P.map l3).all (λk=>!k.isEmpty)=Aa:=by
  rw[Fu];exact Bx.mpr λ_ _=>rfl
 have h2:FW (P.map l3).length 200=Aa:=Ys.mpr (by rw[AF];exact hl)
 have h3:NH (P.map l3)=Aa:=by
  unfold NH;refine Bx.mpr λr hr=>Bx.mpr λq hq=>?_
  obtain⟨a,ha,rfl⟩:=Br.mp hr;obtain⟨b,hb,rfl⟩:=Br.mp hq;by_cases e:Dg (l3 a)=Dg (l3 b)
  .rw[zH hp (hP a ha) (hP b hb) e];simp
  .rw[BD e];rfl
 dsimp only;rw[h1,h2,h3,Ar (show (Aa&&Aa&&Aa)=Aa from rfl)]
 congr 2
 exact Nc _
theorem Tq(P:Ac R3):∀ as:Ac R3,DP (as.map (Ec P)) as=as.filter λa=>decide (a∈P)
 |[]=>rfl
 |a::as=>by
  have ih:=Tq P as;show DP (Ec P a::as.map (Ec P)) (a::as)=_;rw[DP,ih,C7];unfold Ec;by_cases h:a∈P
  .simp[h]
  .simp[h]
theorem Tr(P:Ac R3):∀ rs:Ac (Ac R3),Hi (rs.map (CA P)) rs=rs.flatten.filter λa=>decide (a∈P)
 |[]=>rfl
 |r::rs=>by
  have ih:=Tr P rs;show Hi (CA P r::rs.map (CA P)) (r::rs)=_;rw[Hi,ih,X6,X5]
  congr 1
  exact Tq P r
theorem UP(P:Ac R3):∀ rs:Ac (Ac R3),okA (rs.map (CA P)) rs=Aa
 |[]=>rfl
 |r::rs=>by
  have ih:=UP P rs;show okA (CA P r::rs.map (CA P)) (r::rs)=Aa;rw[okA,ih,HL];unfold Jm CA;rw[Am];refine⟨BG (by simp),?_⟩
  refine Bx.mpr λc hc=>?_
  obtain⟨a,_,rfl⟩:=Br.mp hc;unfold Ec okS;split<;>decide
theorem xF{n:Ae}(hp:P4 n)(P:Ac R3):Txs ((cells n).map (CA P)):=λx hx=>by
 obtain⟨_,_,_,c4⟩:=Le hp;obtain⟨r,hr,rfl⟩:=Br.mp hx;refine⟨rM.mpr λc hc=>?_,?_⟩
 .have hc':c∈r.map (Ec P):=hc;obtain⟨a,_,rfl⟩:=Br.mp hc';unfold Ec;split<;>decide
 .have:=c4 r hr;show ((r.map (Ec P)).toArray).size<=900;simp;omega
theorem uP{n:Ae}(hp:P4 n)(P:Ac R3):good n ((cells n).map (CA P))=Aa:=by
 obtain⟨_,_,c3,_⟩:=Le hp;unfold good;rw[UP,HL];exact BG (by rw[AF,c3])
theorem VP{n:Ae}(hp:P4 n)(hP:∀ a∈P,a∈(cells n).flatten):(E9 (ddK (P.map l3))).map tI=rw3 (IH n ((cells n).map (CA P))):=by
 obtain⟨c1,c2,_,_⟩:=Le hp;have h:=Uy hp ((cells n).map (CA P));rw[Tr]at h;obtain⟨d1,d2,_⟩:=Uu (P.map l3);have er:∀ l:Ac R3,rw3 l=(l.map l3).map tI:=λl=>by
  unfold rw3;rw[Bl];exact B7 λa _=>rfl
 rw[er]at h;have nd:((((cells n).flatten.filter λa=>decide (a∈P))).map l3).Nodup:=Du.mpr ((c1.sublist List.filter_sublist).imp λh z=>h (uC z))
 have s:=S8 (rs:=(((cells n).flatten.filter λa=>decide (a∈P))).map l3) (ys:=E9 (ddK (P.map l3))) (λr hr=>by
  obtain⟨a,_,rfl⟩:=Br.mp hr;exact XX _ _) nd (by rw[AF];have:=List.length_filter_le (λa=>decide (a∈P)) (cells n).flatten;omega) (Nd d1) λr=>by
  rw[(JV _).mem_iff,d2];constructor
  .intro hr;obtain⟨a,ha,rfl⟩:=Br.mp hr;exact Br.mpr ⟨a,DR.mpr ⟨hP a ha,BG ha⟩,rfl⟩
  .intro hr;obtain⟨a,ha,rfl⟩:=Br.mp hr;exact Br.mpr ⟨a,AX (DR.mp ha).2,rfl⟩
 rw[s]at h
 injection h
theorem Wa:∀ P:Ac R3,eqD (.lst (rw3 P)) (.lst (rw3 P))=Aa
 |[]=>rfl
 |a::P=>by
  have ih:eqDs (rw3 P) (rw3 P)=Aa:=Wa P;show (eqD (BL Aa a) (BL Aa a)&&eqDs (rw3 P) (rw3 P))=Aa;rw[ih,Rk,BG rfl];rfl
theorem Ut{α:Type}(f:α->Ak):∀ C:Ac α,eqDs (C.map λr=>D.str (f r)) (C.map λr=>D.str (f r))=Aa
 |[]=>rfl
 |a::C=>by
  have ih:=Ut f C;have e:eqD (D.str (f a)) (D.str (f a))=Aa:=by
   show (f a==f a)=Aa;exact CM _
  show (eqD (D.str (f a)) (D.str (f a))&&eqDs _ _)=Aa;rw[e];exact ih
theorem Vp{α:Type}:∀ l:Ac α,FP (l.map λ_=>D.bl Aa)=.ok Aa
 |[]=>rfl
 |a::l=>by
  have ih:=Vp l;show FP (D.bl Aa::l.map λ_=>D.bl Aa)=_
  simp[FP,ih]
noncomputable def K8:E:=(.call 40 (.cons (.bin .FloorDiv (.call 3 (.cons (.var 0) (.cons (.var 8) .nil))) (.int 3)) (.cons (.var 1) .nil)))
noncomputable def LO:E:=(.call 40 (.cons (.var 9) (.cons (.var 1) .nil)))
noncomputable def LN:E:=(.isi (.var 10) [.str])
noncomputable def NW:Ss:=(.cons (.asg 6 Aa (.call 311 (.cons (.var 1) (.cons (.var 3) .nil)))) (.cons (.lnd (.or (.cons (.no (.isi (.var 6) [.list])) (.cons (.no (.bi .all (.cons (.comp LN 10 (.e (.var 6)) CI) .nil))) .nil))) (.cons (.ret (.bl Af)) .nil) .nil) (.cons (.ife (.or (.cons (.cmp .NotEq (.var 6) (.var 4)) (.cons (.cmp .NotEq (.var 3) (.var 2)) .nil))) (.cons (.ret (.bl Af)) .nil) .nil) (.cons (.asg 7 Aa (.call 313 (.cons (.var 1) (.cons (.var 6) .nil)))) (.cons (.ife (.or (.cons (.no (.call 316 (.cons (.var 7) (.cons (.bi .sset (.cons (.var 2) .nil)) .nil)))) (.cons (.cmp .NotEq (.var 6) (.var 4)) .nil))) (.cons (.ret (.bl Af)) .nil) .nil) (.cons (.app 6 (.str (A3 ""))) (.cons (.app 7 (.int 0)) .nil)))))))
noncomputable def ID:Df:=⟨11,Af,(.cons (.asg 1 Af (.call 4 (.cons (.var 0) (.cons (.int 70) .nil)))) (.cons (.asg 2 Af (.comp K8 8 (.rng (.bi .min (.cons (.int 60) (.cons (.bi .len (.cons (.var 0) .nil)) .nil)))) CI)) (.cons (.ife (.cmp .Eq (.bin .Mod (.call 3 (.cons (.var 0) (.cons (.int 71) .nil))) (.int 8)) (.int 1)) (.cons (.asg 2 Af (.comp LO 9 (.rrv (.bin .Add (.bin .Add (.bin .Mult (.var 1) (.var 1)) (.var 1)) (.int 1))) CI)) .nil) .nil) (.cons (.asg 3 Af (.bi .list (.cons (.var 2) .nil))) (.cons (.asg 4 Af (.call 314 (.cons (.var 2) (.cons (.var 1) .nil)))) (.cons (.fors 5 (.rng (.int 2)) NW) (.cons (.ret (.bl Aa)) .nil)))))))⟩
structure H91 (Y:Gam):Prop where
 mi:QR Y
 pr:Vr Y
 tr:∀(p n:Ag),P4 p->Y.F 40 [.int n,.int p]=.ok (BL Aa (J8 p (n%(p*p+p+1))))
 dr:Wq Y
 pa:Wp Y
 se:Ua Y
 st:Wm Y
 f1:Y.fr 311=Aa
 f2:Y.fr 313=Aa
section
variable{Y:Gam}{ns:Ac Ag}
theorem zD{S H:D}{X:Ac D}{s6 s7:Sl}(f1:Y.fr 311=Aa)(f2:Y.fr 313=Aa)(e1:Y.F 311 [.int p,H]=.ok (.lst Y_))(c0:Fq Aa (.lst Y_)=Aa)(ce:∀ u:Sl,BU (cG Y [sh S,si p,sh H,sh H,sh (.lst Y_),si y,sh (.lst Y_),u,Ad,Ad,Ad] 10 CI) (cF Y [sh S,si p,sh H,sh H,sh (.lst Y_),si y,sh (.lst Y_),u,Ad,Ad,Ad] 10 LN) Y_=.ok Z_)(al:biD .all [.lst Z_]=.ok (.bl Aa))(q1:∀ x,x∈Y_->flD 4 x=Aa)(q2:eqDs Y_ Y_=Aa)(q3:flD 5 H=Aa)(q4:eqD H H=Aa)(e2:Y.F 313 [.int p,.lst Y_]=.ok (.lst X))(c1:Fq Aa (.lst X)=Aa)(ss:biD .sset [H]=.ok (.lst X))(e3:Y.F 316 [.lst X,.lst X]=.ok (.bl Aa))(z1:BY (Y_.length+1)=Aa)(z2:BY (X.length+1)=Aa):∃ s6' s7',Ef Y 5 NW (.int y) [sh S,si p,sh H,sh H,sh (.lst Y_),s5,s6,s7,Ad,Ad,Ad]=.next [sh S,si p,sh H,sh H,sh (.lst Y_),si y,s6',s7',Ad,Ad,Ad]:=by
 generalize hT:A3 "" = T at *;refine⟨Ab (.lst (Y_++[.str T]),Aa),Ab (.lst (X++[.int 0]),Aa),?_⟩;have k0:kiD Y.up .list (.lst Y_)=Aa:=rfl;have k1:Fq (Y.fr 316) (.bl Aa)=Aa:=rfl;simp[Ef,NW,e1,f1,f2,DI,shA,shS,ce,al,q2,q3,q4,e2,c0,c1,ss,e3,De,z1,z2,hT,k0,k1];rw[Ar q1,Ar q1]
theorem ai{S:D}(ln:biD .len [S]=.ok (.int l)):evE Y [sh S,si N,Ad,Ad,Ad,Ad,Ad,Ad,Ad,Ad,Ad] (.bi .min (.cons (.int 60) (.cons (.bi .len (.cons (.var 0) .nil)) .nil)))=.ok (.int (if l<60 then l else 60)):=by
 simp[ln]
theorem cJ{S:D}{m q:Ag}{R1 R2 X1 X2:Ac D}(ep:Y.F 4 [S,.int 70]=.ok (.int N))(em:Y.F 3 [S,.int 71]=.ok (.int m))(eq:evE Y [sh S,si N,Ad,Ad,Ad,Ad,Ad,Ad,Ad,Ad,Ad] (.bi .min (.cons (.int 60) (.cons (.bi .len (.cons (.var 0) .nil)) .nil)))=.ok (.int q))(rg:D7 0 q=.ok R1)(c1:BU (cG Y [sh S,si N,Ad,Ad,Ad,Ad,Ad,Ad,Ad,Ad,Ad] 8 CI) (cF Y [sh S,si N,Ad,Ad,Ad,Ad,Ad,Ad,Ad,Ad,Ad] 8 K8) R1=.ok X1)(hc:m%8=1)(pp:FX N N=Aa)(rv:IP (N*N+N+1)=.ok R2)(c2:∀ X:Sl,BU (cG Y [sh S,si N,X,Ad,Ad,Ad,Ad,Ad,Ad,Ad,Ad] 9 CI) (cF Y [sh S,si N,X,Ad,Ad,Ad,Ad,Ad,Ad,Ad,Ad] 9 LO) R2=.ok X2):evSs Y [sh S,Ad,Ad,Ad,Ad,Ad,Ad,Ad,Ad,Ad,Ad] (ID.body.take 3)=.next [sh S,si N,sh (.lst X2),Ad,Ad,Ad,Ad,Ad,Ad,Ad,Ad]:=by
 have tp:∀(U:Rho)(r:R D),top U (E.bi .min (.cons (.int 60) (.cons (.bi .len (.cons (.var 0) .nil)) .nil))) r=r:=λ_ _=>rfl
 generalize hE:E.bi .min (.cons (.int 60) (.cons (.bi .len (.cons (.var 0) .nil)) .nil))=EE at *;simp[ID,Ss.take,ep,em,hE,eq,tp,rg,c1,hc,pp,rv,c2]
theorem cI{S:D}{m q:Ag}{R1 X1:Ac D}(ep:Y.F 4 [S,.int 70]=.ok (.int N))(em:Y.F 3 [S,.int 71]=.ok (.int m))(eq:evE Y [sh S,si N,Ad,Ad,Ad,Ad,Ad,Ad,Ad,Ad,Ad] (.bi .min (.cons (.int 60) (.cons (.bi .len (.cons (.var 0) .nil)) .nil)))=.ok (.int q))(rg:D7 0 q=.ok R1)(c1:BU (cG Y [sh S,si N,Ad,Ad,Ad,Ad,Ad,Ad,Ad,Ad,Ad] 8 CI) (cF Y [sh S,si N,Ad,Ad,Ad,Ad,Ad,Ad,Ad,Ad,Ad] 8 K8) R1=.ok X1)(hc:¬ m%8=1):evSs Y [sh S,Ad,Ad,Ad,Ad,Ad,Ad,Ad,Ad,Ad,Ad] (ID.body.take 3)=.next [sh S,si N,sh (.lst X1),Ad,Ad,Ad,Ad,Ad,Ad,Ad,Ad]:=by
 have tp:∀(U:Rho)(r:R D),top U (E.bi .min (.cons (.int 60) (.cons (.bi .len (.cons (.var 0) .nil)) .nil))) r=r:=λ_ _=>rfl
 generalize hE:E.bi .min (.cons (.int 60) (.cons (.bi .len (.cons (.var 0) .nil)) .nil))=EE at *;simp[ID,Ss.take,ep,em,hE,eq,tp,rg,c1,hc]
theorem av{S:D}{v K:Ag}{Y_:D}(e1:Y.F 3 [S,.int K]=.ok (.int v))(e2:Y.F 40 [.int (v/3),.int N]=.ok Y_):cF Y [sh S,si N,Ad,Ad,Ad,Ad,Ad,Ad,Ad,Ad,Ad] 8 K8 (.int K)=.ok Y_:=by
 simp[cF,K8,e1,e2]
theorem au{S Y_:D}{K:Ag}{X:Sl}(e2:Y.F 40 [.int K,.int N]=.ok Y_):cF Y [sh S,si N,X,Ad,Ad,Ad,Ad,Ad,Ad,Ad,Ad] 9 LO (.int K)=.ok Y_:=by
 simp[cF,LO,e2]
theorem b8(h:H91 Y){n:Ae}(hp:P4 n)(q:Ae)(hq:q<=60):∃ P1:Ac R3,P1.length<=200/\(∀ a∈P1,a∈(cells n).flatten)/\BU (cG Y [sh (scr ns),si n,Ad,Ad,Ad,Ad,Ad,Ad,Ad,Ad,Ad] 8 CI) (cF Y [sh (scr ns),si n,Ad,Ad,Ad,Ad,Ad,Ad,Ad,Ad,Ad] 8 K8) (Fa 0 q)=.ok (rw3 P1):=by
  refine⟨(AD q).map fun(k:Ae)=>J8 n (Lu ns (0+(k:Ag))/3%((n:Ag)*n+n+1)),by rw[AF,D9];omega,λa ha=>by
      obtain⟨k,_,rfl⟩:=Br.mp ha;exact W8 hp _,?_⟩
  have:=Kz (g:=cG Y [sh (scr ns),si n,Ad,Ad,Ad,Ad,Ad,Ad,Ad,Ad,Ad] 8 CI) (f:=cF Y [sh (scr ns),si n,Ad,Ad,Ad,Ad,Ad,Ad,Ad,Ad,Ad] 8 K8) (d:=fun(k:Ae)=>D.int (0+(k:Ag))) (c:=λk=>BL Aa (J8 n (Lu ns (0+(k:Ag))/3%((n:Ag)*n+n+1)))) (AD q) λk _=>⟨rfl,av (h.mi ns _) (h.tr n _ hp)⟩
  unfold Fa;rw[this];unfold rw3;rw[Bl];rfl
theorem ay(h:H91 Y){n:Ae}(hp:P4 n){S:D}(M:Ae)(hM:M<=133):∃ P2:Ac R3,P2.length<=200/\(∀ a∈P2,a∈(cells n).flatten)/\∀ X:Sl,BU (cG Y [sh S,si n,X,Ad,Ad,Ad,Ad,Ad,Ad,Ad,Ad] 9 CI) (cF Y [sh S,si n,X,Ad,Ad,Ad,Ad,Ad,Ad,Ad,Ad] 9 LO) (FF ((M:Ag)-1) M)=.ok (rw3 P2):=by
  refine⟨(AD M).map fun(k:Ae)=>J8 n (((M:Ag)-1-(k:Ag))%((n:Ag)*n+n+1)),by rw[AF,D9];omega,λa ha=>by
      obtain⟨k,_,rfl⟩:=Br.mp ha;exact W8 hp _,λX=>?_⟩
  have:=Kz (g:=cG Y [sh S,si n,X,Ad,Ad,Ad,Ad,Ad,Ad,Ad,Ad] 9 CI) (f:=cF Y [sh S,si n,X,Ad,Ad,Ad,Ad,Ad,Ad,Ad,Ad] 9 LO) (d:=fun(k:Ae)=>D.int ((M:Ag)-1-(k:Ag))) (c:=λk=>BL Aa (J8 n (((M:Ag)-1-(k:Ag))%((n:Ag)*n+n+1)))) (AD M) λk _=>⟨rfl,au (h.tr n _ hp)⟩
  unfold FF;rw[this];unfold rw3;rw[Bl];rfl
theorem yQ{n:Ae}(hp:P4 n):∃ M:Ae,M<=133/\IP ((n:Ag)*n+n+1)=.ok (FF ((M:Ag)-1) M):=by
 refine⟨n*n+n+1,?_,?_⟩
 .rcases hp.n with rfl|rfl|rfl|rfl<;>decide
 .rcases hp.n with rfl|rfl|rfl|rfl<;>rfl
theorem xK(h:H91 Y){n:Ae}(hp:P4 n)(ep:Y.F 4 [scr ns,.int 70]=.ok (.int n)):∃ P:Ac R3,P.length<=200/\(∀ a∈P,a∈(cells n).flatten)/\evSs Y [sh (scr ns),Ad,Ad,Ad,Ad,Ad,Ad,Ad,Ad,Ad,Ad] (ID.body.take 3)=.next [sh (scr ns),si n,sh (.lst (rw3 P)),Ad,Ad,Ad,Ad,Ad,Ad,Ad,Ad]:=by
 have em:=h.mi ns 71;generalize Lu ns 71=m at *;have ln:biD .len [scr ns]=.ok (.int ns.length):=by simp[scr]
 have eq:=ai (Y:=Y) (N:=n) ln;have q0:0<=(if (ns.length:Ag)<60 then (ns.length:Ag) else 60):=by split<;>omega
 have q1:(if (ns.length:Ag)<60 then (ns.length:Ag) else 60)<=60:=by split<;>omega
 generalize (if (ns.length:Ag)<60 then (ns.length:Ag) else 60)=q at *
 have rg:D7 0 q=.ok (Fa 0 q.toNat):=P3 q0 (by omega)
 have n11:n<=11:=by rcases hp.n with rfl|rfl|rfl|rfl<;>decide
 have pp:FX (n:Ag) n=Aa:=Ng (by omega) (by omega)
 obtain⟨P1,l1,m1,c1⟩:=b8 (ns:=ns) h hp q.toNat (by omega)
 obtain⟨M,hM,rv⟩:=yQ hp;obtain⟨P2,l2,m2,c2⟩:=ay h hp (S:=scr ns) M hM;by_cases hc:m%8=1
 .exact⟨P2,l2,m2,cJ ep em eq rg c1 hc pp rv c2⟩
 .exact⟨P1,l1,m1,cI ep em eq rg c1 hc⟩
theorem rK{S H:D}{s6 s7:Sl}(li:biD .list [H]=.ok H)(e4:Y.F 314 [H,.int N]=.ok (.lst Y_))(lo:Dh (Ef Y 5 NW) [.int 0,.int 1] [sh S,si N,sh H,sh H,sh (.lst Y_),Ad,Ad,Ad,Ad,Ad,Ad]=.next [sh S,si N,sh H,sh H,sh (.lst Y_),s5,s6,s7,Ad,Ad,Ad]):(evSs Y [sh S,si N,sh H,Ad,Ad,Ad,Ad,Ad,Ad,Ad,Ad] (ID.body.drop 3)).ans Af=.ok (.bl Aa):=by
 have rg:D7 0 2=.ok [.int 0,.int 1]:=rfl;simp[ID,Ss.drop,li,e4,rg,lo]
theorem vX(h:H91 Y):ID.run Y [scr ns]=.ok (.bl Aa):=by
 obtain⟨p,hp,ep⟩:∃ p,P4 p/\Y.F 4 [scr ns,.int 70]=.ok (.int p):=⟨_,jZ ns 70,h.pr ns 70⟩;obtain⟨n,rfl⟩:=XG (show 0<=p from by have:=hp.pos;omega)
 obtain⟨P,pl,pm,e1⟩:=xK (ns:=ns) h hp ep;obtain⟨_,c2,c3,_⟩:=Le hp;have n11:n<=11:=by rcases hp.n with rfl|rfl|rfl|rfl<;>decide
 have e0:ID.run Y [scr ns]=(evSs Y [sh (scr ns),Ad,Ad,Ad,Ad,Ad,Ad,Ad,Ad,Ad,Ad] ID.body).ans Af:=rfl;rw[e0,Ur Y 3,e1,pF];have li:biD .list [.lst (rw3 P)]=.ok (.lst (rw3 P)):=rfl;have e4:=h.pa n P hp;have e5:=h.dr n P hp;have e6:=h.se n ((cells n).map (CA P)) hp (xF hp P);rw[uP hp P,Ar rfl,Bl]at e6;have ss:=dA hp pl pm;rw[VP hp pm]at ss;have st:=h.st (IH n ((cells n).map (CA P)));have e6':Y.F 313 [.int n,.lst ((cells n).map λr=>D.str (CA P r))]=.ok (.lst (rw3 (IH n ((cells n).map (CA P))))):=e6
 have lX:(rw3 (IH n ((cells n).map (CA P)))).length<=200:=by
  rw[<-VP hp pm,AF,(JV _).length_eq];have:=(Uu (P.map l3)).2.2;rw[AF]at this;omega
 have cX:Fq Aa (.lst (rw3 (IH n ((cells n).map (CA P)))))=Aa:=by
  show (Aa&&(rw3 (IH n ((cells n).map (CA P)))).all (nlD 5))=Aa;rw[V3];rfl
 have sH:=VH P;have qH:=Wa P;generalize rw3 (IH n ((cells n).map (CA P)))=X at *;have yl:((cells n).map λr=>D.str (CA P r)).length=n+1:=by rw[AF,c3]
 have yf:∀ x,x∈((cells n).map λr=>D.str (CA P r))->flD 4 x=Aa/\nlD 5 x=Aa/\∃ t,x=.str t:=λx hx=>by
  obtain⟨r,_,rfl⟩:=Br.mp hx;exact⟨rfl,rfl,_,rfl⟩
 have yq:=Ut (CA P) (cells n);generalize ((cells n).map λr=>D.str (CA P r))=Y_ at *
 have cY:Fq Aa (.lst Y_)=Aa:=by
  show (Aa&&Y_.all (nlD 5))=Aa;rw[Kc];exact Bx.mpr λx hx=>(yf x hx).2.1
 generalize D.lst (rw3 P)=H at *;have ce:∀(y:Ag)(u:Sl),BU (cG Y [sh (scr ns),si n,sh H,sh H,sh (.lst Y_),si y,sh (.lst Y_),u,Ad,Ad,Ad] 10 CI) (cF Y [sh (scr ns),si n,sh H,sh H,sh (.lst Y_),si y,sh (.lst Y_),u,Ad,Ad,Ad] 10 LN) Y_=.ok (Y_.map λ_=>D.bl Aa):=λy u=>by
  have:=Kz (g:=cG Y [sh (scr ns),si n,sh H,sh H,sh (.lst Y_),si y,sh (.lst Y_),u,Ad,Ad,Ad] 10 CI) (f:=cF Y [sh (scr ns),si n,sh H,sh H,sh (.lst Y_),si y,sh (.lst Y_),u,Ad,Ad,Ad] 10 LN) (d:=id) (c:=λ_=>D.bl Aa) Y_ λx hx=>⟨rfl,by
   obtain⟨_,_,t,rfl⟩:=yf x hx;generalize scr ns=S;generalize (n:Ag)=N;show cF Y _ 10 LN (.str t)=_;simp[cF,LN,kiD]⟩
  rw[Yi]at this;exact this
 have al:biD .all [.lst (Y_.map λ_=>D.bl Aa)]=.ok (.bl Aa):=by
  show (FP (Y_.map λ_=>D.bl Aa)).bind _=_
  rw[Vp];rfl
 have z1:BY (Y_.length+1)=Aa:=IK (by omega)
 have z2:BY (X.length+1)=Aa:=IK (by omega)
 have rd:=fun(y:Ag)(s5 s6 s7:Sl)=>zD (Y:=Y) (S:=scr ns) (s5:=s5) (s6:=s6) (s7:=s7) h.f1 h.f2 e5 cY (ce y) al (λx hx=>(yf x hx).1) yq sH qH e6' cX ss st z1 z2
 obtain⟨a6,a7,r1⟩:=rd 0 Ad Ad Ad;obtain⟨b6,b7,r2⟩:=rd 1 (si 0) a6 a7;refine rK (s5:=si 1) (s6:=b6) (s7:=b7) li e4 ?_;simp[Dh,r1,r2]
end
noncomputable def cL:Ae->Ac Ae
 |2=>[2,0]
 |3=>[3,0]
 |16=>[16,0]
 |_=>[]
noncomputable def R5:Ae->Ac D->R Ex
 |16,_=>.ok ⟨16,[]⟩
 |_,_=>.bad
noncomputable def Q91:Prg:=⟨Aa,fun
 |1=>Rc
 |9=>NU
 |17=>N3
 |309=>NP
 |310=>NT
 |311=>On
 |312=>M3
 |313=>KB
 |2=>Pr
 |3=>Py
 |4=>Px
 |40=>M5
 |44=>M4
 |45=>QA
 |316=>Qz
 |314=>NV
 |315=>ID
 | _=>⟨0,Af,.nil⟩,λ_=>.non,cL,R5⟩
theorem aq(ns:Ac Ag):(gam Q91 8).F 315 [scr ns]=.ok (.bl Aa):=by
 have rs:∀ n,Os (gam Q91 (n+1)):=λn p m hp=>sR (gam Q91 n) p m hp
 have tu:∀ n,Qn (gam Q91 (n+2)):=λn p m hp z=>gK (rs n) p m hp z
 have fo:∀ n,QE (gam Q91 (n+3)):=λn p b xs l t hp e it=>oF (rs (n+1)) (tu n) hp e it
 have xn:∀ n es,(gam Q91 n).xn 16 es=.ok exP:=λn es=>by cases n<;>rfl
 have pc:∀ n,RP (gam Q91 (n+4)):=λn k hp=>yN (fo n) k hp
 have rw':∀ n,QQ (gam Q91 (n+1)):=λn x as a b c=>oC (Y:=gam Q91 n) (xn n) x as a b c
 have se:∀ n,Ua (gam Q91 (n+5)):=λn k xs hp ht=>jU (pc n) (rw' (n+3)) rfl (xn _) k xs hp ht
 have rd:∀ n,Wo (gam Q91 (n+1)):=λn P as hl=>sS (Y:=gam Q91 n) P as hl
 have dr:∀ n,Wq (gam Q91 (n+5)):=λn k P hp=>sU (pc n) (rd (n+3)) k P hp
 have ce:∀ n,Wr (gam Q91 (n+1)):=λn ns k=>sV (gam Q91 n) ns k
 have mi:∀ n,QR (gam Q91 (n+2)):=λn ns k=>oE (ce n) ns k
 have pr:∀ n,Vr (gam Q91 (n+3)):=λn ns k=>oD (mi n) ns k
 have lf:∀ n,O1 (gam Q91 (n+1)):=λn p xs l t hp e it=>(jV (gam Q91 n) hp).2 l t e it
 have pa:∀ n,Wp (gam Q91 (n+2)):=λn k P hp=>sT (lf n) k P hp
 have sm:∀ n,Wn (gam Q91 (n+1)):=λn q=>sQ (Y:=gam Q91 n) q
 have st:∀ n,Wm (gam Q91 (n+2)):=λn l=>sP (sm n) l
 exact vX (Y:=gam Q91 7) ⟨mi 5,pr 4,λp n hp=>sO (gam Q91 6) p n hp,dr 2,pa 5,se 2,st 5,rfl,rfl⟩
end OvC
namespace OvC
open PySem PySem.Spec PyProof.Rows Ov L2
variable{l:GE}
noncomputable def tp91(i:Ae):A7:=PySem.Challenge.pw_ovalfield_k91_drawn_and_seen.main.body.getD i (.Pass ⟨0,0,0,0⟩)
noncomputable def WJ:Ac (Ak×Ae×Ae):=([("rest",1,2),("turned_over",9,2),("one_form",17,2),("picture_rows",309,1),("row_drawn",310,2),("drawn",311,2),("row_seen",312,2),("seen",313,2),("_law_cell_at",2,2),("_law_mixed",3,2),("_law_prime",4,2),("_law_triple",40,2),("_law_form",44,2),("_law_same_tuple",45,2),("_law_same_triples",316,2),("_law_painted",314,2),("law",315,1)]:Ac (Ak×Ae×Ae))
noncomputable def W7:Ac Ak:=["all", "bool", "int", "isinstance", "len", "list", "min", "range", "reversed", "set", "sorted", "str", "tuple", "zip"]
noncomputable def Rz:Ac (Ak×Ae):=[("NoPicture",16)]
noncomputable def RD:Ac (Ak×Ae):=[]
noncomputable def WQ:Ac (Ak×Ae):=[]
noncomputable abbrev C91(h:Aj)(n:Ae)(N:Ac Ak)(i d:Ae):Aj:=Ka 80 h WJ W7 Rz RD WQ (N.take n) N (tp91 i) (Q91.defs d)
theorem wM:C91 Af 2 ["p", "n"] 6 1=Aa:=by decide+kernel
theorem wL:C91 Af 2 ["p", "n", "turned"] 7 9=Aa:=by decide+kernel
theorem wK:C91 Af 2 ["p", "numbers", "rests", "first", "factor", "#5", "#6"] 9 17=Aa:=by decide+kernel
theorem wJ:C91 Af 1 ["p", "rows", "y", "#3", "#4"] 11 309=Aa:=by decide+kernel
theorem wH:C91 Af 2 ["points", "row", "#2"] 12 310=Aa:=by decide+kernel
theorem wG:C91 Af 2 ["p", "points", "#2"] 13 311=Aa:=by decide+kernel
theorem wF:C91 Af 2 ["text", "row", "told", "sign", "point"] 14 312=Aa:=by decide+kernel
theorem wE:C91 Af 2 ["p", "texts", "rows", "told", "text", "row"] 15 313=Aa:=by decide+kernel
theorem wD:C91 Af 2 ["_law_script", "_law_k"] 17 2=Aa:=by decide+kernel
theorem wC:C91 Af 2 ["_law_script", "_law_k"] 18 3=Aa:=by decide+kernel
theorem oY:C91 Af 2 ["_law_script", "_law_k"] 19 4=Aa:=by decide+kernel
theorem oX:C91 Af 2 ["_law_n", "_law_p"] 20 40=Aa:=by decide+kernel
theorem oW:C91 Af 2 ["_law_numbers", "_law_p", "_law_rests", "_law_lead", "_law_over", "#5", "#6", "#7", "#8"] 21 44=Aa:=by decide+kernel
theorem oV:C91 Af 2 ["_law_found", "_law_due", "#2"] 22 45=Aa:=by decide+kernel
theorem oU:C91 Af 2 ["_law_found", "_law_due", "#2"] 23 316=Aa:=by decide+kernel
theorem pX:C91 Af 2 ["_law_points", "_law_p", "_law_rows", "_law_y", "_law_last", "#5", "#6"] 24 314=Aa:=by decide+kernel
theorem Vm:C91 Af 1 ["_law_script", "_law_p", "_law_points", "_law_handed", "_law_due", "_law_turn", "_law_found", "_law_told", "#8", "#9", "#10"] 25 315=Aa:=by decide+kernel
set_option maxHeartbeats 0 in
theorem all91{w:AT}{K:Fg}{h:AK}{mg:Ak->Ao Ai}{fa f0 f1 f2 f3 f4 f5 f6 f7 f8 f9 f10 f11 f12 f13 f14 f15 f16 x0:Al}(X:K.In h)(G:h.Ns Bc mg)(hfa:mg "law" = Ab (.ref fa))(a0:FnI K f0 "rest" (tp91 6))(a1:FnI K f1 "turned_over" (tp91 7))(a2:FnI K f2 "one_form" (tp91 9))(a3:FnI K f3 "picture_rows" (tp91 11))(a4:FnI K f4 "row_drawn" (tp91 12))(a5:FnI K f5 "drawn" (tp91 13))(a6:FnI K f6 "row_seen" (tp91 14))(a7:FnI K f7 "seen" (tp91 15))(a8:FnI K f8 "_law_cell_at" (tp91 17))(a9:FnI K f9 "_law_mixed" (tp91 18))(a10:FnI K f10 "_law_prime" (tp91 19))(a11:FnI K f11 "_law_triple" (tp91 20))(a12:FnI K f12 "_law_form" (tp91 21))(a13:FnI K f13 "_law_same_tuple" (tp91 22))(a14:FnI K f14 "_law_same_triples" (tp91 23))(a15:FnI K f15 "_law_painted" (tp91 24))(a16:FnI K f16 "law" (tp91 25))(cx0:XA K "NoPicture" x0 Ad)(z0:BA K Bc "all" = Ab Ad)(z1:BA K Bc "bool" = Ab Ad)(z2:BA K Bc "int" = Ab Ad)(z3:BA K Bc "isinstance" = Ab Ad)(z4:BA K Bc "len" = Ab Ad)(z5:BA K Bc "list" = Ab Ad)(z6:BA K Bc "min" = Ab Ad)(z7:BA K Bc "range" = Ab Ad)(z8:BA K Bc "reversed" = Ab Ad)(z9:BA K Bc "set" = Ab Ad)(z10:BA K Bc "sorted" = Ab Ad)(z11:BA K Bc "str" = Ab Ad)(z12:BA K Bc "tuple" = Ab Ad)(z13:BA K Bc "zip" = Ab Ad):
    ∃ fd:Co,(∀(s:Ap)(v:Ai),Hq s fd ⟨[v],[]⟩ [("_law_script",v)])/\∀ base:AK,K.In base->base.Ns Bc mg->FnOk l.prog w K mg base (CXR l.prog w) 8 fa fd ["_law_script"] (OE K):=by
  obtain⟨_,F,e⟩:=a16;obtain⟨_,_,_,_,_,_,_,_,_,rfl,_,_⟩:=F.ex;cases hfa.symm.trans (HN X G e);have XT91:XT Q91.up Q91.xn (clL [(16,x0)]) Rz RD K mg:=by
    refine xD (all_cons (cx0.row λ_=>by first|exact .inr rfl|exact .inl rfl) (Mf)) (all_cons ⟨_,rfl,HN X G cx0.n⟩ (Mf)) (Mf) ?_
    intro c q ds;show R5 c ds=.bad;unfold R5;split<;>first|rfl|exact absurd rfl (q ("NoPicture",16) (by decide))
  have T:Tab K mg (clL [(16,x0)]) WJ W7 Rz RD WQ Q91 80:=⟨XT91,all_cons (BF X G z0) (all_cons (BF X G z1) (all_cons (BF X G z2) (all_cons (BF X G z3) (all_cons (BF X G z4) (all_cons (BF X G z5) (all_cons (BF X G z6) (all_cons (BF X G z7) (all_cons (BF X G z8) (all_cons (BF X G z9) (all_cons (BF X G z10) (all_cons (BF X G z11) (all_cons (BF X G z12) (all_cons (BF X G z13) (Mf)))))))))))))),Mf,all_cons (GY 2 1 X G a0 rfl wM λ_ _ _ _ _ _ _ _=>rfl) (all_cons (GY 2 9 X G a1 rfl wL λ_ _ _ _ _ _ _ _=>rfl) (all_cons (GY 2 17 X G a2 rfl wK λ_ _ _ _ _ _ _ _=>rfl) (all_cons (Xj 1 309 X G a3 rfl wJ λ_ _ _ _ _ _ _=>rfl) (all_cons (GY 2 310 X G a4 rfl wH λ_ _ _ _ _ _ _ _=>rfl) (all_cons (GY 2 311 X G a5 rfl wG λ_ _ _ _ _ _ _ _=>rfl) (all_cons (GY 2 312 X G a6 rfl wF λ_ _ _ _ _ _ _ _=>rfl) (all_cons (GY 2 313 X G a7 rfl wE λ_ _ _ _ _ _ _ _=>rfl) (all_cons (GY 2 2 X G a8 rfl wD λ_ _ _ _ _ _ _ _=>rfl) (all_cons (GY 2 3 X G a9 rfl wC λ_ _ _ _ _ _ _ _=>rfl) (all_cons (GY 2 4 X G a10 rfl oY λ_ _ _ _ _ _ _ _=>rfl) (all_cons (GY 2 40 X G a11 rfl oX λ_ _ _ _ _ _ _ _=>rfl) (all_cons (GY 2 44 X G a12 rfl oW λ_ _ _ _ _ _ _ _=>rfl) (all_cons (GY 2 45 X G a13 rfl oV λ_ _ _ _ _ _ _ _=>rfl) (all_cons (GY 2 316 X G a14 rfl oU λ_ _ _ _ _ _ _ _=>rfl) (all_cons (GY 2 314 X G a15 rfl pX λ_ _ _ _ _ _ _ _=>rfl) (all_cons (Xj 1 315 X G ⟨_,F,e⟩ rfl Vm λ_ _ _ _ _ _ _=>rfl) (Mf)))))))))))))))))⟩
  exact⟨_,λs v=>.of_eq rfl,λbase _ _=>law_fn (We T (QS T 7) (WE F) rfl Vm) aq⟩
theorem walk91{q:AQ}{loose:Ac Ak}{XP:(Ak->Ao Ai)->AK->Prop}{YP:AT->AK->Prop}{d:DefRec}{K:ML->Fg}(hn:l.most=Ab 63)(hdf:d.params.defaults=[])(hY:∀(w:AT)(h:AK),YP w h->(K w.params).In h)(F:∀(w:AT)(mg:Ak->Ao Ai)(fa:Al)(h:AK),(K w.params).In h->h.Ns Bc mg->mg d.name=Ab (.ref fa) ->
   ∃ fd:Co,(∀(s:Ap)(u:Ai),Hq s fd ⟨[u],[]⟩ [("_law_script",u)])/\∀ base:AK,(K w.params).In base->base.Ns Bc mg->FnOk l.prog w (K w.params) mg base (CXR l.prog w) 8 fa fd ["_law_script"] (OE (K w.params))):aE q loose XP YP l.row.toRowW d [] (λf vs=>LD f vs):=
 L2.walk_of (n:=63) (k:=8) (x := "_law_script") (CX:=λw=>CXR l.prog w) (sp:=λw=>OE (K w.params)) hn (by decide) hdf ⟨rfl,by decide,by decide,rfl⟩ hY F (λ_ H a ns hl _ hS=>⟨a,ns,rfl,hl,hS,λ_ _ z=>z⟩) λ_ _ _ _ _ z=>vZ z
end OvC
open PySem PySem.W PyProof.Rows
noncomputable def OvC.view91:PySem.Program:={ PySem.Challenge.pw_ovalfield_k91_drawn_and_seen with main:={PySem.Challenge.pw_ovalfield_k91_drawn_and_seen.main with body:=[OvC.tp91 1,OvC.tp91 2,OvC.tp91 3,OvC.tp91 4,OvC.tp91 6,OvC.tp91 7,OvC.tp91 9,OvC.tp91 11,OvC.tp91 12,OvC.tp91 13,OvC.tp91 14,OvC.tp91 15,OvC.tp91 17,OvC.tp91 18,OvC.tp91 19,OvC.tp91 20,OvC.tp91 21,OvC.tp91 22,OvC.tp91 23,OvC.tp91 24,OvC.tp91 25]} }
set_option hygiene false
local macro_rules | `(tactic| o_head $H)=>`(tactic| refine holds_open (q:=OvC.view91) (loose:=[]) (Xt:=fun s=>xlAt OvC.view91 [] s&&recOk (RowW.records (OpenRow.toRowW (PySem.Challenge.rw_ovalfield_k91_drawn_and_seen.row))) s) (XP:=XL OvC.view91 []) (Yf:=Hook.obs $H) (Ya:=Hook.val $H) (YP:=Hook.says $H) (N:=2830) ?hl (Hook.of $H) (Hook.keeps $H) (fun s e=>xl_of s (Bool.and_eq_true_iff.mp e).1) XL.keeps (by rfl) (by rfl) (by rfl) (fun s e=>recFacts_of (Bool.and_eq_true_iff.mp e).2) (by rfl) (by first|assumption|decide +kernel) (by decide +kernel) ⟨rfl,rfl,rfl,rfl,rfl,by decide +kernel⟩ ?hw ?hc)
set_option maxRecDepth 100000 in
set_option maxHeartbeats 0 in
theorem PySem.Challenge.cw_ovalfield_k91_drawn_and_seen_holds : PySem.Challenge.rw_ovalfield_k91_drawn_and_seen.Holds := by
 w_on;refine holds_law (by decide+kernel) λsaid=>?_;k_head
 (case hl=>intro w;unfold openEnds fencedOpening topFrom;rw[PySem.W.Fast.te10274390034422433532,PySem.W.Fast.te14364793385576792824,PySem.W.Fast.te1435165496053646825,PySem.W.Fast.te14289696077712309145,PySem.W.Fast.te14082659384304107361,PySem.W.Fast.te4187177175401517315];kernel_rfl)
 (case hw=>w_witness2)
 k_fill
 refine OvC.walk91 (l:=PySem.Challenge.rw_ovalfield_k91_drawn_and_seen) rfl rfl (λw h Y_=>aI Y_) ?F
 case F=>
  intro w mg fa h KX G hmg
  refine' OvC.all91 KX G hmg ?a0 ?a1 ?a2 ?a3 ?a4 ?a5 ?a6 ?a7 ?a8 ?a9 ?a10 ?a11 ?a12 ?a13 ?a14 ?a15 ?a16 ?cx0 ?z0 ?z1 ?z2 ?z3 ?z4 ?z5 ?z6 ?z7 ?z8 ?z9 ?z10 ?z11 ?z12 ?z13
  case a0|a1|a2|a3|a4|a5|a6|a7|a8|a9|a10|a11|a12|a13|a14|a15|a16=>(refine' Ov.fni ?a ?l ?c ?k;(case a=>k_is);(case l=>k_is);(case c=>k_is);(case k=>k_is))
  case cx0=>(refine' Ov.xa_mk ?n (Ov.xcls_l ?e) ?d ?f ?g ?a ?b ?c ?o ?h ?v;(case n=>k_is);(case e=>k_exc);(case d=>kernel_rfl);(case f|g|a|b|c|o|h|v=>k_is))
  case z0|z1|z2|z3|z4|z5|z6|z7|z8|z9|z10|z11|z12|z13=>k_is
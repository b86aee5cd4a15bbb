import PyProof.Rows.All
import Wide.All
import OpenK.AllK
import Wide.FinOn
import PyProof.EqAt
import KE.KSortTup
import PyProof.EqKinds
import PyProof.TupleCall
import Lean
import PySem.Challenge.RW_ovalfield_k92_no_picture
set_option Elab.async false
set_option linter.all false
set_option maxRecDepth 100000
set_option maxHeartbeats 4000000
open Option renaming some→Aa,none→Ae,bind_eq_some_iff→Ax,isSome_iff_exists→B1,isNone_iff_eq_none→Dj,getD_some→HG,bind_some→Xp,getD_none→Xq
open Bool renaming true→Ab,false→Ad,and_eq_true→Ai,false_ne_true→Au,not_eq_true'→Br,or_eq_true→BL,false_and→DE,or_false→DW,true_and→E8,and_false→FJ,eq_iff_iff→Ia,not_true→Jv,or_true→JB,and_true→WM,not_false→WN
open _root_ renaming List→Ac,Nat→Af,Int→Ah,Bool→Al,Option→Ao,if_pos→As,decide_eq_true_eq→Az,if_neg→AB,beq_iff_eq→AD,of_decide_eq_true→AS,False→AX,Array→A9,decide_eq_false→By,dif_neg→BZ,beq_self_eq_true→Cz,String→CM,or_false→CO,beq_eq_false_iff_ne→C5,decide_eq_true→Di,Unit→D0,if_true→EW,not_or→EX,decide_eq_false_iff_not→FR,Decidable→Gp,ne_true_of_eq_false→GS,bne_iff_ne→Ht,True→HM,if_false→KO,ne_eq→LI
open PySem renaming Str→Ag,Value→Aj,Addr→Ak,Expr→Am,wpAny_bind→An,Shared→Ap,starEach→Aq,wpAny→At,Heap→AC,Pos→AF,wpAny_pure→AH,Stmt→AM,Program→AO,Around→AW,World→A1,wpAny_mono→A3,mainGlobals→A8,backTo→Bo,sizeLine_eq→Bs,wpAny_field→Bt,FuncData→Bx,cLine→BJ,attributeBase→BO,Scope→BP,foldedSetIterable→BQ,excClassObj→BX,wpAny_loadPart_at→B7,binaryOp→B8,Env→Cj,swapsWith→Cn,wpAny_Call_Name_kw→Cy,mem_of_lookup→CD,Tok→CG,bootBuiltins→CJ,compareOp→CK,wpAny_newObj_type→CY,wpAny_truthy_bool→CZ,cellsFrom→C3,Keyword→C4,Obj→Da,CmpOp→Dr,wpAny_holding→Dz,wpAny_callSpecial?_slot→DC,rawInt→DD,wpAny_seqItems→DI,PassesOwn→DP,codeAny_mono→DQ,wpAny_setField_rec→DR,OwnTail→DU,wpAny_standAt→DZ,assignEach→D9,codeAny_call_builtin→Ea,keywordEach→Ec,noteFrame→Ed,wpAny_setField→Ee,NameKind→Eg,wpAny_call_entry→Eh,call_meets→Ey,wpAny_call→Ez,GenState→ED,IsPair→ER,codeAny→ES,ExceptHandler→E9,methodCallPos→Fb,sliceBounds→Fc,wpAny_isSubtype_exc→Fd,wpAny_execs_nil→Fs,wpAny_passesOwn→Ft,Operator→Fx,backToKw→FA,wpAny_comprehension_free→FB,typeIs_str→FM,Sem→FW,strLen_append→F7,wpAny_onRaise→F8,checkBuiltinCall→Gd,BindsTo→Gq,setFlight→Gs,IsZip→GB,Model→GC,letOwnedTupleGo→GE,wpAny_updateSeq_pair→GF,compEnvC→GY,notedBy→GZ,wpAny_of_eq→G9,IsPart→Hc,pushCells→Hd,behindInMarks→He,wpAny_pyIter_list→Hs,OsState→Hu,callerA→Hv,ExcBaseFacts→HH,Paired→HJ,Result→HK,wpAny_execs_cons→HL,Drawn→Ie,pushCells_keeps→Ii,isTrue→IJ,methodCallForm→IK,newFunctionEnv→IL,recursionLimit→IM,bindArgs→IQ,bindC→IR,bindL→IS,builtinsNs→IT,isInstance→IU,Comprehension→Jw,arm_eval_Call→Jz,wpAny_attempt→JA,JoinOk→JF,Within→JJ,callSpecial?→JK,concat_meets→JL,onTheHeap→JM,pyNext→JN,UnaryOp→Kb,getAttr→Kc,getItem→Kd,wpAny_letGo→Kh,compPost→Kk,handleBy→Kl,PyData→KR,StoreFacts→KU,call→KW,methodCall→KY,sysModules→KZ,wpAny_Name→K4,wpAny_rule→K5,setAttr→K6,IntMulOk→LK,Params→LL,pyIter→LO,codeAny_call_function→Zh,firstArgMember→Zi,noFill_tuple_add→Zj,pastItsLine_dict→Zk,plainObj_wpAny_Assign_Attribute→Zl,refuseLoop_ref→Zm,slot_list_getitem→Zn,wpAny_JoinedStr→Zo,wpAny_assign_Name→Zp,wpAny_eqBool_int→Zq,wpAny_loadPart→Zr,wpAny_lookBehind→Zs,wpAny_newFunctionEnv_cells→Zt,wpAny_newTuple→Zu,wpAny_pyIter_enum→Zv,wpAny_pyIter_tuple→Zw
open PySem.Heap renaming get?_push_of_some→Ar,lt_size→AL,get?_push_size→AN,get?_update_other→BE,get?_update_self→Cr,size_push→Ct,get?_none_of_le→CS,SameBut→EQ,get?_push_ne→FV,get?_update_ne→GQ,size_update→HI,MadeExcOf→IH,ExtBut→YD,get?_push_at→YG,get?_push_cases→YH
open PySem.W renaming findIn→Av,keepIn→Bm,nsIn→Bu,subIn→BD,mg_none_of→BW,kitOne→B9,kia_one→Cb,looks_findIn→Cc,specialIn→Co,mroIn→Cp,emptyDict→CC,callWith_K→CI,fnOf→C6,mg_of→C9,typeIn→Dh,instObj→Ds,clsIn→Dy,findCls→Fp,readsIn→Fq,codeIn→FL,OpenLaw→F6,plainGet→Gc,isFn→GD,plainGet_of→GR,lookIn→GX,hasDictIn→Hq,methodObj→Hr,takerIn→Ih,kitAny→II,excIn→Jy,WalkO→Y_2,cellsFrom_some→Y_3,codeRec_of→Y_4,handedIn→Y_5,isNs_of_in→Y_6,kIn_of→Y_7,kitMeta→Y_8,kitx_dict→Y_9,kitx_list→Za,looks_subIn→Zb,makesIn→Zc,nsOkIn→Zd,plainOver→Ze,tail_of_in→Zf,takesIn→Zg
open List renaming mem_cons_of_mem→Aw,mem_cons→AA,getElem?_eq_getElem→AE,size_toArray→AG,length_cons→AI,mem_cons_self→AJ,length_set→AR,length_map→AU,getElem?_eq_some_iff→A2,getD_eq_getElem?_getD→A6,range→Ba,append_nil→Bg,mem_append_right→Bi,length_append→Bj,mem_singleton→Bk,not_mem_nil→Bl,all_eq_true→Bw,map_cons→Bz,getElem_mem→BM,drop_eq_getElem_cons→BR,getElem?_set_self→BV,all_cons→B0,lookup→B6,lookup_cons→Ci,toArray→CA,map_map→Do,mem_append→Dp,getElem?_map→Du,any_eq_true→DF,mem_range→DG,length_singleton→DT,isEmpty_eq_false_iff→D7,getElem_of_mem→Ek,map_congr_left→El,nodup_cons→Eu,drop_eq_nil_of_le→EA,range_succ_eq_map→EB,mem_append_left→EY,getElem?_append_left→Fm,all_map→Fu,mem_map→Fv,getElem?_set_self'→FP,append_assoc→FT,length_take→F9,nil_sublist→Ga,getElem?_set_ne→Gv,mem_filter→Gw,mem_of_getElem?→Gx,nil_append→Gy,filterMap_cons→GP,drop_zero→GU,forIn_nil→GV,replicate→GW,range'→G8,contains_cons→Ha,getElem?_set→Hn,length_range→Ho,ext_getElem→HA,filter_cons→HB,length_drop→HE,forIn_cons→Ib,of_mem_zip→Ic,set_set→JC,any_cons→WV,contains_eq_mem→WW,drop_of_length_le→WX,ext_getElem?→WY,getElem?_append_right→WZ,getElem?_cons_succ→W2,getElem?_cons_zero→W3,getElem?_eq_none→W4,getElem?_range→W5,getElem?_replicate→W6,length_pos_iff→W7,length_replicate→W8,map_append→W9,map_nil→Xa,mem_filterMap→Xb,pairwise_cons→Xc,pairwise_iff_getElem→Xd,range'_succ→Xe,reverse_cons→Xf,sum_cons→Xg,zipIdx_cons→Xh,zipIdx_nil→Xi
open Nat renaming le_refl→AK,lt_of_lt_of_le→AQ,ne_of_lt→A5,lt_irrefl→Bp,le_trans→BF,le_of_ble_eq_true→Cq,zero_le→Cv,lt_succ_of_lt→Dv,ble→DH,lt_of_le_of_lt→DM,ne_of_gt→EM,zero_add→EN,lt_succ_self→EZ,le_succ→F4,mod_eq_of_lt→Gb,le_of_lt→Gz,log2_le_self→HF,add_zero→Xj,le_of_eq→Xk,lt_trichotomy→Xl,min_self→Xm,mul_zero→Xn,not_lt→Xo
open PySem.Str renaming ofString→AT,empty→Dx,join→LM
open False renaming elim→AY
open PySem.Value renaming ref→Bc,none→Bh,builtin→CB,type→E2,int→Gr,bool→IP,str→JI,float→Kg,bytes→YZ
open Option.some renaming inj→Be,injEq→Xr
open PySem.Builtin.SmallTypes renaming nextOf→BC,ownedTupleIsFree→CQ,ownedTupleHandOut→XI
open PySem.NameKind renaming cell→BN,free→DY
open Ne renaming symm→B4
open PySem.Obj renaming data_mapFields→Ca,mapSeq→C8,isFreed_of_fields→Dg,mapFields→Fa,cls_mapFields→YI
open PySem.Builtin.Str renaming occurrences→Ch,strSliceIndices→DO,partsBetween→XJ,strKind→XM
open Array renaming length_toList→Cm,getElem?_toList→Go,toList_inj→Hy,find?_toList→WH,getD→WI,getD_eq_getD_getElem?→WJ,size_append→WK,toList→WL
open Int renaming emod_lt_of_pos→CH,emod_emod_of_dvd→CP,emod_nonneg→C2,mul_emod→DL,dvd_refl→EK,zero_add→EL,eq_ofNat_of_zero_le→FO,emod_eq_of_lt→FS,mul_comm→Gu,one_mul→Ke,mul_assoc→WP,mul_one→WQ,mul_zero→WR,sub_zero→WS,toNat_natCast→WT,zero_emod→WU
open PySem.F renaming excBase_ValueError→C7,plainAttrs_list→DB,slot_tuple_iterator_next→DX,slot_str_split→EC,slot_list_extend→EO,args_str_split_2→Fw,entry_str_split→FQ,attr_ValueError→FU,slot_zip_next→GA,args_list_extend_2→Yo,args_tuple_add_2→Yp,args_tuple_iterator_next_1→Yq,args_zip_next_1→Yr,entry_bexc_ga→Ys,entry_list_extend→Yt,entry_tuple_add→Yu,entry_tuple_iterator_next→Yv,entry_zip_next→Yw,plainAttrs_str→Yx,slot_list_index→Yy,slot_str_join→Yz,slot_tuple_add→YA,typeOf_object_class→YB,type_list_extend→YC
open Classical renaming choose_spec→Dd,choose→Hz
open PyProof.Rows renaming seqObj→De,callWith_type1→DN,IntsAre→Er,envOfC→Ev,boot_isinstance→Fn,AllBare→FK,arrOf→IN,failedOf→Kj,IsTup→KP,boot_int→Xs,boot_list→Xu,boot_str→Xv,boot_tuple→Xx,slicePart_none→Xy,slot_tuple_getitem→Xz,subscriptTail_builtinR→XC
open PySem.Builtin.List renaming listTooLong→Dq
open PySem.PyData renaming shownAll→DV,depthAll→Ig,hasDictAll→YK,showableAll→YL
open PySem.Builtin.Slice renaming slicePlaces→D8,sliceAdjust→Fo,sliceApplied→XH
open PySem.Builtin.Tuple renaming tupleExact→Ef
open ForInStep renaming yield→Et
open PySem.SeqAt renaming EqAt→Ew,RcNeAt→JG,RcAt→KS
open PySem.Calls renaming evalArgs_plain→E1,callWith_builtin→F5,Name_function_global→XN
open True renaming intro→FN
open PySem.Code renaming quiet_builtin→Hb,isFrame→JE,frames→XQ
open Sum renaming inl→Hw,inr→Hx
open List.Perm renaming cons→IG
open PySem.Value.ref renaming inj→Jx
open PySem.Around renaming under→JD
open PySem.Txt renaming split→JH,join→LN
open PySem.Shared renaming heap→Kf
open PyProof.Rows.SortSt renaming mk'→KQ
open NeZero renaming ne→LF
open PyProof.Rows.IsTup renaming new→LG
open PySem.Data renaming cell→LH,seq→LJ
open Function renaming comp_def→WO
open PySem.AutoSeq1 renaming wpAny_loadPart'→XD
open PySem.Builtin.Int renaming intBits→XF
open PySem.Builtin.ObjectAttr renaming storeInDict→XG
open PySem.EntryCells renaming newEntry→XS
open PySem.Expr renaming Attribute→XU,BinOp→XX,BoolOp→XZ,Call→X2,Compare→X4,Constant→X6,List→X8,ListComp→Yb,Name→Yd,Slice→Yg,Subscript→Yi,Tuple→Yk,UnaryOp→Ym
open PySem.Expr.Attribute renaming elim→XV
open PySem.Expr.BinOp renaming elim→XY
open PySem.Expr.BoolOp renaming elim→X1
open PySem.Expr.Call renaming elim→X3
open PySem.Expr.Compare renaming elim→X5
open PySem.Expr.Constant renaming elim→X7
open PySem.Expr.List renaming elim→X9
open PySem.Expr.ListComp renaming elim→Yc
open PySem.Expr.Name renaming elim→Ye
open PySem.Expr.Slice renaming elim→Yh
open PySem.Expr.Subscript renaming elim→Yj
open PySem.Expr.Tuple renaming elim→Yl
open PySem.Expr.UnaryOp renaming elim→Yn
open PySem.Heap.Ns1 renaming of_empty→YE
open PySem.Heap.SameBut renaming update→YF
open PySem.Paired renaming length→YJ
open PySem.SeqAt.EqAt renaming of_refs→YM,same→YN
open PySem.Stmt renaming Assign→YO,Expr→YR,Raise→YV,Return→YX
open PySem.Stmt.Assign renaming elim→YQ
open PySem.Stmt.Expr renaming elim→YS
open PySem.Stmt.For renaming elim→YT
open PySem.Stmt.If renaming elim→YU
open PySem.Stmt.Raise renaming elim→YW
open PySem.Stmt.Return renaming elim→YY
open PySem.W.WData renaming int→Y_0
open PySem.W.WShape renaming has→Y_1
abbrev Fg:=PySem.W.Frag
abbrev Pn:=Ac (PySem.Addr×PySem.Obj)
abbrev Vq:=PySem.Value->PySem.Shared->Prop
set_option genSizeOfSpec false
-- CHANGE: your row's module here,as the last of these rows
namespace L2
open PySem PySem.Spec PyProof.Rows
abbrev Key:=Sum Ah Ag
noncomputable def VP:Key->Aj->Al
 |.inl k,v=>Value.isInt k v
 |.inr x,v=>Value.isStrOf x v
noncomputable def Zx(w:A1):Key->Ah
 |.inl k=>hashInt k
 |.inr x=>hashStr w x
theorem IY:∀{k:Key}{v:Aj},VP k v=Ab->(∃ i t,k=Hw i/\v=Gr i t)\/(∃ x t,k=Hx x/\v=JI x t)
 |.inl i,v,h=>by
  obtain⟨t,e⟩:=Value.isInt_shape (k:=i) (v:=v) h;exact .inl ⟨i,t,rfl,e⟩
 |.inr x,v,h=>by
  obtain⟨t,e⟩:=Value.isStrOf_shape (x:=x) (v:=v) h;exact .inr ⟨x,t,rfl,e⟩
theorem rP(a b:Ah):decide ((Hw a:Key)=Hw b)=(a==b):=by
 by_cases e:a=b
 .subst e;simp
 .have h:¬ (Hw a:Key)=Hw b:=λq=>e (Sum.inl.inj q)
  rw[By h];exact(C5.mpr e).symm
theorem rM(a b:Ag):decide ((Hx a:Key)=Hx b)=decide (a=b):=by
 by_cases e:a=b
 .subst e;simp
 .have h:¬ (Hx a:Key)=Hx b:=λq=>e (Sum.inr.inj q)
  rw[By h,By e]
theorem rO(a:Ah)(b:Ag):decide ((Hw a:Key)=Hx b)=Ad:=By (λq=>nomatch q)
theorem rN(a:Ag)(b:Ah):decide ((Hx a:Key)=Hw b)=Ad:=By (λq=>nomatch q)
noncomputable def PL(prog:AO)(w:A1):PySem.KeyKind prog w Key where
 is:=VP
 hash:=Zx w
 inj:=λv a b ha hb=>by
  rcases IY ha with ⟨i,t,rfl,rfl⟩|⟨x,t,rfl,rfl⟩
  .rcases IY hb with ⟨j,u,rfl,e⟩|⟨y,u,rfl,e⟩
   .injection e with e1 _;rw[e1]
   .exact nomatch e
  .rcases IY hb with ⟨j,u,rfl,e⟩|⟨y,u,rfl,e⟩
   .exact nomatch e
   .injection e with e1 _;rw[e1]
 byValue:=λk v h=>by
  rcases IY h with ⟨i,t,rfl,rfl⟩|⟨x,t,rfl,rfl⟩<;>rfl
 pyHash:=λhv h=>by
  rcases IY hv with ⟨i,t,rfl,rfl⟩|⟨x,t,rfl,rfl⟩
  .exact wpAny_pyHash_int h
  .exact wpAny_pyHash_str h
 eqBool:=λhu hv h=>by
  rcases IY hu with ⟨i,t,rfl,rfl⟩|⟨x,t,rfl,rfl⟩
  .rcases IY hv with ⟨j,u,rfl,rfl⟩|⟨y,u,rfl,rfl⟩
   .rw[rP]at h;exact Zq h
   .rw[rO]at h;exact SeqAt.EqAt.int_str i t y u _ _ _ _ h
  .rcases IY hv with ⟨j,u,rfl,rfl⟩|⟨y,u,rfl,rfl⟩
   .rw[rN]at h;exact SeqAt.EqAt.str_int x t j u _ _ _ _ h
   .rw[rM]at h;exact wpAny_eqBool_str h
 «strs»:=λk x t v h=>by
  rcases IY h with ⟨i,u,rfl,e⟩|⟨y,u,rfl,e⟩
  .exact nomatch e
  .injection e with e1 _
   subst e1;cases v<;>rfl
end L2
namespace L2
open PySem PySem.Spec PyProof.Rows
variable{us:Ac Aj}{a b it dx C:Ak}{P:AO}{h:AC}{o:Da}{g':A9 ED}{t' i k n:Af}{d':Ie}{ch fp:Ac Ak}{x qual:Ag}{M:GC}{u:Aj}{Q:D0->Ap->Prop}{e tg:Am}{s:Ap}{pos p:AF}{pI:Pn}{es:Ac Am}{body:Ac AM}{f:Aj->Aj->FW Aj}{g:Ah->Ah->Ah}{op:Dr}{mA:Ag->Ao Aj}{pl:FW Al}{kw:Ac (Ag×Aj)}{fd:Bx}{ps:Ac Ag}{scope:BP}
inductive V where
 |non|bl (b:Al)|int (i:Ah)|str (x:Ag)|byt (b:A9 UInt8)|flt (b:UInt64)|ref (a:Ak)|ty (n:CM)
 deriving DecidableEq
variable{xs vs:Ac V}{v y:V}
def Bq:V->Aj->Prop
 |.non,u=>u=Bh
 |.bl b,u=>u=IP b
 |.int i,u=>∃ t,u=Gr i t
 |.str x,u=>∃ t,u=JI x t
 |.byt b,u=>∃ t,u=YZ b t
 |.flt b,u=>∃ t,u=Kg b t
 |.ref a,u=>u=Bc a
 |.ty n,u=>u=E2 n
noncomputable abbrev AZ:Ac V->Ac Aj->Prop:=HJ Bq
theorem AZ.length(r:AZ xs us):xs.length=us.length:=YJ r
theorem AZ.get:∀{xs:Ac V}{us:Ac Aj}{i:Af}{x:V},AZ xs us->xs[i]?=Aa x->∃ u,us[i]?=Aa u/\Bq x u
 |_,_,_,_,.nil,e=>by simp at e
 |_,_,0,_,.cons r _,e=>by simp at e;subst e;exact⟨_,rfl,r⟩
 |_,_,i+1,x,.cons _ t,e=>by
  obtain⟨u,h1,h2⟩:=AZ.get (i:=i) (x:=x) t (by simpa using e)
  exact⟨u,by simpa using h1,h2⟩
theorem AZ.set{x:V}{u:Aj}(r:Bq x u):∀{xs:Ac V}{us:Ac Aj}(i:Af),AZ xs us->AZ (xs.set i x) (us.set i u)
 |_,_,_,.nil=>.nil
 |_,_,0,.cons _ t=>.cons r t
 |_,_,i+1,.cons q t=>.cons q (AZ.set r i t)
theorem AZ.append:∀{xs ys:Ac V}{us ws:Ac Aj},AZ xs us->AZ ys ws->AZ (xs++ys) (us++ws)
 |_,_,_,_,.nil,s=>s
 |_,_,_,_,.cons r t,s=>.cons r (AZ.append t s)
theorem AZ.take:∀{xs:Ac V}{us:Ac Aj}(n:Af),AZ xs us->AZ (xs.take n) (us.take n)
 |_,_,0,_=>.nil
 |_,_,_+1,.nil=>.nil
 |_,_,n+1,.cons r t=>.cons r (AZ.take n t)
theorem AZ.drop:∀{xs:Ac V}{us:Ac Aj}(n:Af),AZ xs us->AZ (xs.drop n) (us.drop n)
 |_,_,0,r=>r
 |_,_,_+1,.nil=>.nil
 |_,_,n+1,.cons _ t=>AZ.drop n t
def HZ:Ao V->Ao Aj->Prop
 |some v,Aa u=>Bq v u
 |none,Ae=>HM
 |_,_=>AX
def KV{κ:Type}:Ac (κ×V)->Ac (κ×Aj)->Prop:=HJ fun(p:κ×V)(q:κ×Aj)=>p.1=q.1/\Bq p.2 q.2
noncomputable def kV:Key->V
 |.inl i=>.int i
 |.inr x=>.str x
inductive HO where
 /-- a list -/
 |lst (xs:Ac V)
 /-- a tuple (never changes) -/
 |tup (xs:Ac V)
 /-- a dict whose keys are ints and texts;one whose keys are tuples of ints and texts (the empty one is both) -/
 |dK (kvs:Ac (Key×V))|dT (kvs:Ac (Ac Key×V))
 /-- a set of ints: its members,its size -/
 |set (S:Ah->Al) (n:Af)
 /-- an instance of the class at C,its dict at dx,its attributes -/
 |ins (C dx:Ak) (fs:Ac (Ag×V))
 /-- the dict of the instance at x -/
 |own (x:Ak)
 /-- the dict of an exception -/
 |xd (fs:Ac (Ag×V))
 /-- a bound method,f of x -/
 |met (f x:Ak)
 /-- a range object lo,lo+1,.. below hi -/
 |rng (lo hi:Ah)
 /-- a thing that is known to the object (the script;a dict while a loop walks it): read,never written while it is so -/
 |frz (o:Da) (u:HO)
 /-- a code object's table -/
 |tbl (ps:A9 Aj)
 /-- any other thing,by what is Ab of its one object (a def of one's own: SetO a S n:=HO.ext fun h=>..) -/
 |ext (φ:AC->Prop)
abbrev Hp:=Ak->Ao HO
variable{H:Hp}
noncomputable def upd(H:Hp)(a:Ak)(o:HO):Hp:=λb=>if b=a then Aa o else H b
theorem Db{o:HO}:upd H a o a=Aa o:=by unfold upd;rw[As rfl]
theorem Bb{o:HO}(h:b≠a):upd H a o b=H b:=by unfold upd;rw[AB h]
theorem Pw{o u:HO}:upd (upd H a o) a u=upd H a u:=by
 funext b;unfold upd;split<;>rfl
theorem F1{o:HO}(h:H a=Aa o)(h':H b=Ae):a≠b:=by
 intro e;subst e;rw[h]at h';cases h'
section
variable(P:AO)(w:A1)
def ObjOk(H:Hp)(h:AC)(a:Ak):HO->Prop
  |.lst xs=>xs.length<=sizeLine/\∃(its:Ac Aj)(n:Af),AZ xs its/\h.get? a=Aa { cls:=.type "list",data:=.seq its.toArray n }
  |.tup xs=>xs.length<=sizeLine/\∃ its:Ac Aj,AZ xs its/\KP h a its.toArray
  |.dK kvs=>kvs.length<=sizeLine/\(a==KZ)=Ad/\∃ vs,KV kvs vs/\h.DictOf (PL P w) a vs
  |.dT kvs=>kvs.length<=sizeLine/\(a==KZ)=Ad/\∃ xs:Ac (Ac Key×Ak×Aj),
      HJ (fun(p:Ac Key×V)(q:Ac Key×Ak×Aj)=>p.1=q.1/\H q.2.1=Aa (.tup (p.1.map kV))/\Bq p.2 q.2.2) kvs xs /\
      ∃ o es ep,h.get? a=Aa o/\o.ExactDict/\o.data=.dict es ep/\es.toList=xs.map (entryOfKey (tupleKind (PL P w)))/\(xs.map (·.1)).Nodup
  |.set S n=>h.SetOf (intKind P w) a S n
  |.ins C dx fs=>H dx=Aa (.own a)/\fs.length<=1000/\dx≠a/\h.get? a=Aa (Ds C dx) /\
      ∃ mA,h.Ns1 dx mA/\(∀ f,HZ (fs.lookup f) (mA f))/\JJ mA (fs.map (·.1))
  |.own _=>∃ o,h.get? a=Aa o
  |.xd fs=>∃ mA,h.Ns1 a mA/\∀ f,HZ (fs.lookup f) (mA f)
  |.rng lo hi=>∃ t u v,h.get? a=Aa { cls:=.type "range",data:=.fields #[.int lo t,.int hi u,.int 1 v] }
  |.frz o u=>h.get? a=Aa o/\ObjOk H h a u
  |.tbl ps=>h.get? a=Aa {cls:=.none,data:=.fields ps}
  |.met f x=>h.get? a=Aa (Hr (.ref f) (.ref x))
  |.ext φ=>φ h/\(∃ o,h.get? a=Aa o)/\∀ h1 h2:AC,φ h1->(∀ o,h1.get? a=Aa o->h2.get? a=Aa o)->φ h2
def HOk(H:Hp)(h:AC):Prop:=∀ a o,H a=Aa o->ObjOk P w H h a o
end
section
variable{P:AO}{w:A1}{H H':Hp}{h h':AC}{a:Ak}{o:HO}
theorem ObjOk.lt(x:ObjOk P w H h a o):a<h.objs.size:=by
 cases o with
 |lst xs=>obtain⟨_,_,_,_,e⟩:=x;exact AL e
 |tup xs=>obtain⟨_,_,_,p⟩:=x;exact p.lt
 |dK kvs=>obtain⟨_,_,_,_,o,_,_,e,_⟩:=x;exact AL e
 |dT kvs=>obtain⟨_,_,_,_,o,_,_,e,_⟩:=x;exact AL e
 |set S n=>obtain⟨o,_,_,_,e,_⟩:=x;exact AL e
 |ins C dx fs=>obtain⟨_,_,_,e,_⟩:=x;exact AL e
 |own y=>obtain⟨_,e⟩:=x;exact AL e
 |xd fs=>obtain⟨_,⟨_,_,_,e,_⟩,_⟩:=x;exact AL e
 |rng lo hi=>obtain⟨_,_,_,e⟩:=x;exact AL e
 |frz ob u=>obtain⟨e,_⟩:=x;exact AL e
 |tbl ps=>exact AL (show h.get? a=Aa _ from x)
 |met f y=>exact AL (show h.get? a=Aa _ from x)
 |ext φ=>obtain⟨_,⟨_,e⟩,_⟩:=x;exact AL e
theorem HJ.mapP{α β:Type}{F G:α->β->Prop}:∀{l₁:Ac α}{l₂:Ac β},HJ F l₁ l₂->(∀ a b,F a b->G a b)->HJ G l₁ l₂
 |_,_,.nil,_=>.nil
 |_,_,.cons r t,f=>.cons (f _ _ r) (HJ.mapP t f)
theorem ObjOk.stay(x:ObjOk P w H h a o)(k:∀ b u,(b=a\/H b=Aa (.own a))->h.get? b=Aa u->h'.get? b=Aa u)(ho:∀ b,H b=Aa (.own a)->H' b=Aa (.own a))(ht:∀ b xs,H b=Aa (.tup xs)->H' b=Aa (.tup xs)):ObjOk P w H' h' a o:=by
 induction o with
 |lst xs=>obtain⟨z,its,n,r,e⟩:=x;exact⟨z,its,n,r,k _ _ (.inl rfl) e⟩
 |tup xs=>obtain⟨z,its,r,ob,e,c⟩:=x;exact⟨z,its,r,ob,k _ _ (.inl rfl) e,c⟩
 |dK kvs=>obtain⟨z,y,vs,r,ob,es,ep,e,c⟩:=x;exact⟨z,y,vs,r,ob,es,ep,k _ _ (.inl rfl) e,c⟩
 |dT kvs=>
  obtain⟨z,y,xs,r,ob,es,ep,e,c⟩:=x;exact⟨z,y,xs,HJ.mapP r λp q z=>⟨z.1,ht _ _ z.2.1,z.2.2⟩,ob,es,ep,k _ _ (.inl rfl) e,c⟩
 |set S n=>obtain⟨ob,es,ep,t,e,c⟩:=x;exact⟨ob,es,ep,t,k _ _ (.inl rfl) e,c⟩
 |ins C dx fs=>
  obtain⟨d,z,ne,e,mA,⟨od,es,ep,e2,c⟩,r⟩:=x;exact⟨ho _ d,z,ne,k _ _ (.inl rfl) e,mA,⟨od,es,ep,k _ _ (.inr d) e2,c⟩,r⟩
 |own y=>obtain⟨ob,e⟩:=x;exact⟨ob,k _ _ (.inl rfl) e⟩
 |xd fs=>obtain⟨mA,⟨od,es,ep,e,c⟩,r⟩:=x;exact⟨mA,⟨od,es,ep,k _ _ (.inl rfl) e,c⟩,r⟩
 |rng lo hi=>obtain⟨t,u,v,e⟩:=x;exact⟨t,u,v,k _ _ (.inl rfl) e⟩
 |frz ob u ih=>obtain⟨e,q⟩:=x;exact⟨k _ _ (.inl rfl) e,ih q⟩
 |tbl ps=>
  have e:h.get? a=Aa {cls:=.none,data:=.fields ps}:=x;show h'.get? a=Aa {cls:=.none,data:=.fields ps};exact k a _ (.inl rfl) e
 |met f y=>
  have e:h.get? a=Aa (Hr (.ref f) (.ref y)):=x;show h'.get? a=Aa (Hr (.ref f) (.ref y));exact k a _ (.inl rfl) e
 |ext φ=>obtain⟨p,⟨o,e⟩,st⟩:=x;exact⟨st _ _ p λo q=>k _ _ (.inl rfl) q,⟨o,k _ _ (.inl rfl) e⟩,st⟩
theorem HOk.lt(x:HOk P w H h)(e:H a=Aa o):a<h.objs.size:=(x a o e).lt
theorem HOk.fresh(x:HOk P w H h)(e:h.objs.size<=a):H a=Ae:=by
 cases q:H a with
 |none=>rfl
 |some u=>exact absurd (AQ (x.lt q) e) (Bp _)
theorem HOk.kept(x:HOk P w H h)(k:∀ b u,h.get? b=Aa u->h'.get? b=Aa u):HOk P w H h':=λa o e=>
 (x a o e).stay (λb u _ q=>k b u q) (λ_ q=>q) λ_ _ q=>q
theorem HOk.laid(x:HOk P w H h)(k:∀ b u,h.get? b=Aa u->h'.get? b=Aa u)(hp:h.objs.size<=a)(new:ObjOk P w (upd H a o) h' a o):HOk P w (upd H a o) h':=λb u e=>by
 have hn:=x.fresh hp;by_cases hb:b=a
 .subst hb;rw[Db]at e;cases e;exact new
 .rw[Bb hb]at e;exact(x b u e).stay (λc v _ q=>k c v q) (λc q=>by rw[Bb (F1 q hn)];exact q) λc xs q=>by rw[Bb (F1 q hn)];exact q
end
def Rd(H:Hp)(a:Ak)(u:HO):Prop:=H a=Aa u\/∃ o,H a=Aa (.frz o u)
theorem Rd.ok{w:A1}{u:HO}(r:Rd H a u)(x:HOk P w H h):ObjOk P w H h a u:=by
 rcases r with r|⟨o,r⟩
 .exact x a u r
 .obtain⟨_,q⟩:=x a _ r;exact q
def Mut:Ao HO->Prop
 |some (.lst _)=>HM
 |some (.dK _)=>HM
 |some (.dT _)=>HM
 |some (.set _ _)=>HM
 |some (.ins _ _ _)=>HM
 |some (.ext _)=>HM
 |_=>AX
section
variable{P:AO}{w:A1}{H:Hp}{h h':AC}{x e:Ak}{o':HO}
theorem HOk.write(ok:HOk P w H h)(mu:Mut (H x))(he:e=x\/H e=Aa (.own x))(k:∀ b u,b≠e->h.get? b=Aa u->h'.get? b=Aa u)(heo:∃ u,h'.get? e=Aa u)(new:ObjOk P w (upd H x o') h' x o'):HOk P w (upd H x o') h':=λb u q=>by
 have nown:∀ c y,H c=Aa (.own y)->c≠x:=λc y r z=>by subst z;rw[r]at mu;exact mu
 have ntup:∀ c xs,H c=Aa (.tup xs)->c≠x:=λc xs r z=>by subst z;rw[r]at mu;exact mu
 by_cases hb:b=x
 .subst hb;rw[Db]at q;cases q;exact new
 .rw[Bb hb]at q;by_cases hbe:b=e
  .have q':H b=Aa (.own x):=by
    rcases he with z|z
    .exact absurd (hbe.trans z) hb
    .rw[hbe];exact z
   rw[q]at q';cases q';obtain⟨v,hv⟩:=heo;exact⟨v,by rw[hbe];exact hv⟩
  .refine(ok b u q).stay (λc v hc r=>k c v ?_ r) (λc r=>by rw[Bb (nown c b r)];exact r) λc xs r=>by rw[Bb (ntup c xs r)];exact r
   rcases hc with rfl|hc
   .exact hbe
   .rintro rfl;rcases he with z|z
    .exact nown c b hc z
    .rw[hc]at z;cases z;exact hb rfl
end
structure Un (fs ex:Ac Ak) (H H':Hp) (h h':AC):Prop where
 keep:∀ b o,h.get? b=Aa o->H b=Ae->b∉fs->b∉ex->h'.get? b=Aa o
 slot:∀ b o,h.get? b=Aa o->H b=Ae->b∈fs->b∉ex->∃ sl,h'.get? b=Aa {o with slots:=sl}
 free:∀ b o,h.get? b=Aa o->H b=Ae->b∉ex->H' b=Ae
 there:∀ b o,h.get? b=Aa o->b∉ex->∃ o',h'.get? b=Aa o'
 tups:∀ b xs,H b=Aa (.tup xs)->H' b=Aa (.tup xs)
 frzs:∀ b o u,H b=Aa (.frz o u)->H' b=Aa (.frz o u)
 tbls:∀ b ps,H b=Aa (.tbl ps)->∃ more,H' b=Aa (.tbl (ps++more))
section
variable{fs fs' ex ex':Ac Ak}{H H1 H2:Hp}{h h1 h2 h':AC}{a x e:Ak}{o:HO}
theorem Un.any(u:Un fs ex H H1 h h1){ob:Da}(q:h.get? b=Aa ob)(n:H b=Ae)(hx:b∉ex):∃ sl,h1.get? b=Aa {ob with slots:=sl}:=by
 by_cases hb:b∈fs
 .exact u.slot b ob q n hb hx
 .exact⟨ob.slots,u.keep b ob q n hb hx⟩
theorem Un.kept(k:∀ b u,h.get? b=Aa u->h'.get? b=Aa u):Un fs ex H H h h':=
 ⟨λb ob q _ _ _=>k b ob q,λb ob q _ _ _=>⟨ob.slots,k b ob q⟩,λ_ _ _ n _=>n,λb ob q _=>⟨ob,k b ob q⟩,λ_ _ q=>q,λ_ _ _ q=>q,λ_ ps q=>⟨#[],by rw[q];simp⟩⟩
theorem Un.refl:Un fs ex H H h h:=Un.kept λ_ _ q=>q
theorem Un.laid(k:∀ b u,h.get? b=Aa u->h'.get? b=Aa u)(hp:h.objs.size<=a)(hn:H a=Ae):Un fs ex H (upd H a o) h h' where
 keep:=λb u q _ _ _=>k b u q
 slot:=λb u q _ _ _=>⟨u.slots,k b u q⟩
 free:=λb u q n _=>by rw[Bb (A5 (AQ (AL q) hp))];exact n
 there:=λb u q _=>⟨u,k b u q⟩
 tups:=λb xs q=>by rw[Bb (F1 q hn)];exact q
 frzs:=λb u xs q=>by rw[Bb (F1 q hn)];exact q
 tbls:=λb ps q=>⟨#[],by rw[Bb (F1 q hn),q];simp⟩
theorem Un.write(mu:Mut (H x))(he:e=x\/H e=Aa (.own x))(k:∀ b u,b≠e->h.get? b=Aa u->h'.get? b=Aa u)(heo:∃ u,h'.get? e=Aa u):Un fs ex H (upd H x o) h h':=by
 have hx:∀ b,H b=Ae->b≠x:=λb n z=>by subst z;rw[n]at mu;exact mu
 have hb:∀ b,H b=Ae->b≠e:=λb n z=>by
  subst z;rcases he with r|r
  .exact hx b n r
  .rw[n]at r;cases r
 have hm:∀ b u,H b=Aa u->¬ Mut (Aa u)->b≠x:=λb u q nm z=>by subst z;rw[q]at mu;exact nm mu
 refine⟨λb u q n _ _=>k b u (hb b n) q,λb u q n _ _=>⟨u.slots,k b u (hb b n) q⟩,λb u q n _=>by rw[Bb (hx b n)];exact n,λb u q _=>?_,
  λb xs q=>by rw[Bb (hm b _ q λz=>z)];exact q,λb u xs q=>by rw[Bb (hm b _ q λz=>z)];exact q,λb ps q=>⟨#[],by rw[Bb (hm b _ q λz=>z),q];simp⟩⟩
 by_cases hbe:b=e
 .subst hbe;exact heo
 .exact⟨u,k b u hbe q⟩
end
noncomputable def trk(h:AC)(H:Hp):Ac Ak:=(Ba h.objs.size).filter λa=>(H a).isSome
noncomputable def Jp(h:AC)(H:Hp):AC:=PySem.W.hideAll h (trk h H)
theorem bY(h:AC)(H:Hp):(Jp h H).objs.size=h.objs.size:=PySem.W.hideAll_size _ _
theorem fO(e:h.get? b=Aa o)(n:H b=Ae):(Jp h H).get? b=Aa o:=
 PySem.W.hideAll_get _ e λhm=>by
  have q:(H b).isSome=Ab:=(Gw.mp hm).2;rw[n]at q;simp at q
theorem jD(e:(Jp h H).get? b=Aa o):h.get? b=Aa o/\H b=Ae:=by
 have e':h.get? b=Aa o:=PySem.W.of_hideAll (trk h H) e;refine⟨e',?_⟩;cases q:H b with
 |none=>rfl
 |some x=>
  have hm:b∈trk h H:=Gw.mpr ⟨DG.mpr (AL e'),by simp[q]⟩
  have z:(Jp h H).get? b=Ae:=PySem.W.hideAll_none (trk h H) hm;rw[z]at e;cases e
noncomputable def nZ(g h:AC)(L:Ak):Pn:=(Ba h.objs.size).filterMap λa=>if a=L\/(g.get? a).isSome=Ab then Ae else (h.get? a).map λo=>(a,o)
noncomputable def rest(g h:AC)(L d:Ak):Pn:=(nZ g h L).filter λp=>decide (p.1≠d)
structure Mod (K:Fg) (mg:Ag->Ao Aj) (base:AC):Prop where
 kin:K.In base
 glob:base.Ns A8 mg
 blt:∃ mb,base.Ns IT mb/\∀ x:Ag,x≠"__name__"->mb x=CJ x
 nolimit:base.NoLimit
structure Cx where
 prog:AO
 w:A1
 K:Fg
 mg:Ag->Ao Aj
 base:AC
 A:AW
 N:Ac Ag
 s₀:Ap
 H₀:Hp
 env:Cj
 outer:Ac Cj
 stack:Ac Cj
 ex:Ac Ak
 fn:Ag->Al
 calm:Al
 pn:Pn
 xe:Aj->Ap->Prop
variable{X:Cx}
noncomputable def frs(l:Ac Cj):Ac Ak:=l.filterMap (·.frame)
noncomputable abbrev Cx.fs(X:Cx):Ac Ak:=frs X.outer
def Vis(sc:BP)(x:Ag):Prop:=sc.names.lookup x=Aa .local\/sc.names.lookup x=Aa .cell\/sc.names.lookup x=Aa .free
def Loc(sc:BP)(x:Ag):Prop:=sc.names.lookup x=Aa .local\/sc.names.lookup x=Aa .cell
noncomputable def aA(env:Cj)(h:AC)(m:Ag->Ao Aj)(x:Ag)(u:Aj):Prop:=
 (env.kindOf x=Aa .local/\m x=Aa u)\/((env.kindOf x=Aa .cell\/env.kindOf x=Aa .free)/\∃ c,env.cells.lookup x=Aa c/\h.IsCell c (Aa u))
structure Cx.Ok (X:Cx):Prop where
 mod:Mod X.K X.mg X.base
 kind:X.env.scope.kind=.function
 glob:X.env.globals=A8
 blt:X.env.builtins=IT
 above:X.s₀.heap.objs.size<=X.env.locals
 inj:∀ x y c,X.env.cells.lookup x=Aa c->X.env.cells.lookup y=Aa c->x=y
 has:∀ x,(X.env.kindOf x=Aa .cell\/X.env.kindOf x=Aa .free)->∃ c,X.env.cells.lookup x=Aa c
 cab:∀ x c,X.fn x=Ab->X.env.cells.lookup x=Aa c->X.s₀.heap.objs.size<=c
 hd:X.calm=Ab->X.A.handled=Ae
 frames:X.A.frames=Aa X.stack
 stk:X.stack=X.outer\/(X.stack=X.env::X.outer/\X.env.frame=Aa X.env.locals)
 exf:∀ b∈X.ex,b≠X.env.locals/\∀ x c,X.env.cells.lookup x=Aa c->c≠b
 bs:∀ b o,X.base.get? b=Aa o->X.s₀.heap.get? b=Aa o/\X.H₀ b=Ae
 bsz:X.base.objs.size<=X.s₀.heap.objs.size
 noex:∀ b o,X.base.get? b=Aa o->b∉X.ex
 exfs:∀ b∈X.ex,b∉X.fs
 funs:X.s₀.heap.FunFrames X.base X.outer
 frf:∀ b∈X.fs,X.H₀ b=Ae
structure Inv (X:Cx) (pI:Pn) (Y:Ac (Ao V)) (H:Hp) (s:Ap):Prop where
 ok:X.Ok
 os:s.os=X.s₀.os
 bare:FK s.gens
 base:Un X.fs X.ex X.H₀ H X.s₀.heap s.heap
 loc:∃ m,s.heap.Ns X.env.locals m/\∀(i:Af)(x:Ag)(v:V),X.N[i]?=Aa x->Y[i]?=Aa (Aa v)->Vis X.env.scope x->∃ u,Bq v u/\aA X.env s.heap m x u
 cell:∀ x c,X.env.cells.lookup x=Aa c->∃ v,s.heap.IsCell c v
 free:H X.env.locals=Ae
 freeC:∀ x c,X.env.cells.lookup x=Aa c->H c=Ae
 pin:∀ p∈X.pn++pI,s.heap.get? p.1=Aa p.2/\H p.1=Ae/\p.1≠X.env.locals/\p.1∉X.fs/\∀ v,p.2.data≠.cell v
 hok:HOk X.prog X.w H s.heap
 len:Y.length=X.N.length
section
variable{X:Cx}{pI:Pn}{Y:Ac (Ao V)}{H H':Hp}{s:Ap}{h':AC}
theorem Cx.Ok.nofr(ok:X.Ok)(e:X.base.get? b=Aa o):b∉X.fs:=λhb=>by
 have:=(ok.funs.mem hb).1;rw[e]at this;cases this
theorem Inv.bs(I:Inv X pI Y H s):∀ b o,X.base.get? b=Aa o->s.heap.get? b=Aa o/\H b=Ae:=λb o e=>
 ⟨I.base.keep b o (I.ok.bs b o e).1 (I.ok.bs b o e).2 (I.ok.nofr e) (I.ok.noex b o e),I.base.free b o (I.ok.bs b o e).1 (I.ok.bs b o e).2 (I.ok.noex b o e)⟩
theorem Inv.bk(I:Inv X pI Y H s):∀ b o,X.base.get? b=Aa o->s.heap.get? b=Aa o:=λb o e=>(I.bs b o e).1
theorem Inv.mod(I:Inv X pI Y H s):Mod X.K X.mg X.base:=I.ok.mod
theorem Inv.kIn(I:Inv X pI Y H s):X.K.In s.heap:=I.ok.mod.kin.keeps I.bk
theorem Inv.lt(I:Inv X pI Y H s):X.env.locals<s.heap.objs.size:=let ⟨_,hn,_⟩:=I.loc;hn.lt
theorem Inv.sz(I:Inv X pI Y H s):X.s₀.heap.objs.size<=s.heap.objs.size:=BF I.ok.above (Gz I.lt)
theorem Inv.nofs(I:Inv X pI Y H s)(h:s.heap.objs.size<=a):a∉X.fs:=λhb=>by
 obtain⟨_,o,ho,_⟩:=I.ok.funs.mem hb;exact absurd (AQ (AL ho) (BF I.sz h)) (Bp _)
theorem Inv.cne(I:Inv X pI Y H s):∀ x c,X.env.cells.lookup x=Aa c->c≠X.env.locals:=λx c e z=>by
 obtain⟨v,o,ho,hd⟩:=I.cell x c e;obtain⟨m,⟨o',es,ep,ho',hd',_⟩,_⟩:=I.loc;rw[z,ho']at ho;cases ho;rw[hd']at hd;cases hd
theorem Inv.funs(I:Inv X pI Y H s):s.heap.FunFrames X.base X.outer:=by
 have all:∀(l:Ac Cj),(∀ b∈frs l,b∈X.fs)->X.s₀.heap.FunFrames X.base l->s.heap.FunFrames X.base l:=by
  intro l
  induction l with
  |nil=>intro _ _;trivial
  |cons env r ih=>
   intro hs hl;obtain⟨hk,⟨L,o,hf,hn,ho,hd⟩,hr⟩:=hl;have hL:L∈X.fs:=hs L (by unfold frs;rw[GP,hf];exact AJ)
   obtain⟨sl,e⟩:=I.base.slot L o ho (I.ok.frf L hL) hL λz=>I.ok.exfs L z hL
   exact⟨hk,⟨L,_,hf,hn,e,hd⟩,ih (λb hb=>hs b (by unfold frs;rw[GP,hf];exact Aw _ hb)) hr⟩
 exact all X.outer (λ_ hb=>hb) I.ok.funs
theorem Inv.stack(I:Inv X pI Y H s):s.heap.FunFrames X.base X.stack:=by
 rcases I.ok.stk with e|⟨e,hf⟩
 .rw[e];exact I.funs
 .rw[e];obtain⟨m,hn,_⟩:=I.loc;refine .cons (by rw[I.ok.kind];decide) hf hn ?_ I.funs
  exact CS (BF I.ok.bsz I.ok.above)
theorem Inv.stkSub(I:Inv X pI Y H s):∀ b∈frs X.stack,b∈X.env.locals::X.fs:=λb hb=>by
 rcases I.ok.stk with e|⟨e,hf⟩
 .rw[e]at hb;exact Aw _ hb
 .rw[e]at hb;unfold frs at hb;rw[GP,hf]at hb;exact hb
theorem Inv.stkFree(I:Inv X pI Y H s):∀ b∈frs X.stack,H b=Ae:=λb hb=>by
 rcases AA.mp (I.stkSub b hb) with e|hb
 .rw[e];exact I.free
 .obtain⟨_,o,ho,_⟩:=I.ok.funs.mem hb;exact I.base.free b o ho (I.ok.frf b hb) λz=>I.ok.exfs b z hb
theorem Inv.step(I:Inv X pI Y H s)(hch:∀ b∈ch,(b∈X.ex\/X.s₀.heap.objs.size<=b)/\b≠X.env.locals/\(∀ x c,X.env.cells.lookup x=Aa c->c≠b)/\∀ p∈X.pn++pI,p.1≠b)(keep:∀ b o,b≠X.env.locals->b∉X.fs->b∉ch->s.heap.get? b=Aa o->H b=Ae->h'.get? b=Aa o)(slot:∀ b o,b≠X.env.locals->b∈X.fs->b∉ch->s.heap.get? b=Aa o->H b=Ae->∃ sl,h'.get? b=Aa {o with slots:=sl})(free:∀ b o,b∉ch->s.heap.get? b=Aa o->H b=Ae->H' b=Ae)(there:∀ b o,b∉ch->s.heap.get? b=Aa o->∃ o',h'.get? b=Aa o')(tups:∀ b xs,H b=Aa (.tup xs)->H' b=Aa (.tup xs))(frzs:∀ b o u,H b=Aa (.frz o u)->H' b=Aa (.frz o u))(tbls:∀ b ps,H b=Aa (.tbl ps)->∃ more,H' b=Aa (.tbl (ps++more)))(ns:∀ m,s.heap.Ns X.env.locals m->h'.Ns X.env.locals m)(hok:HOk X.prog X.w H' h')(hg:FK g'):Inv X pI Y H' {s with heap:=h',gens:=g',drawn:=d',toks:=t'}:=by
 have neL:∀ b o,X.s₀.heap.get? b=Aa o->b≠X.env.locals:=λb o e=>A5 (AQ (AL e) I.ok.above)
 have neC:∀ b o,X.s₀.heap.get? b=Aa o->b∉X.ex->b∉ch:=λb o e hx hb=>by
  rcases (hch b hb).1 with z|z
  .exact hx z
  .exact absurd (AQ (AL e) z) (Bp _)
 have cellK:∀ x c,X.env.cells.lookup x=Aa c->∀ v,s.heap.IsCell c v->h'.IsCell c v:=λx c e v ⟨o,ho,hd⟩=>by
  have nch:c∉ch:=λz=>(hch c z).2.2.1 x c e rfl
  by_cases hc:c∈X.fs
  .obtain⟨sl,q⟩:=slot c o (I.cne x c e) hc nch ho (I.freeC x c e);exact⟨_,q,hd⟩
  .exact⟨o,keep c o (I.cne x c e) hc nch ho (I.freeC x c e),hd⟩
 refine⟨I.ok,I.os,hg,⟨λb o e n hb hx=>?_,λb o e n hb hx=>?_,λb o e n hx=>?_,λb o e hx=>?_,λb xs e=>tups b xs (I.base.tups b xs e),λb o xs e=>frzs b o xs (I.base.frzs b o xs e),λb ps e=>?_⟩,?_,λx c e=>?_,?_,λx c e=>?_,λp hp=>?_,hok,I.len⟩
 .exact keep b o (neL b o e) hb (neC b o e hx) (I.base.keep b o e n hb hx) (I.base.free b o e n hx)
 .obtain⟨sl,e1⟩:=I.base.slot b o e n hb hx;obtain⟨sl',e2⟩:=slot b _ (neL b o e) hb (neC b o e hx) e1 (I.base.free b o e n hx);exact⟨sl',e2⟩
 .obtain⟨o',e1⟩:=I.base.there b o e hx;exact free b o' (neC b o e hx) e1 (I.base.free b o e n hx)
 .obtain⟨o',e1⟩:=I.base.there b o e hx;exact there b o' (neC b o e hx) e1
 .obtain⟨m1,e1⟩:=I.base.tbls b ps e;obtain⟨m2,e2⟩:=tbls b _ e1;exact⟨m1++m2,by rw[e2,Array.append_assoc]⟩
 .obtain⟨m,hn,hl⟩:=I.loc;refine⟨m,ns m hn,λi x v e1 e2 e3=>?_⟩
  obtain⟨u,r,l⟩:=hl i x v e1 e2 e3;refine⟨u,r,?_⟩;rcases l with l|⟨k,c,e,z⟩
  .exact .inl l
  .exact .inr ⟨k,c,e,cellK x c e _ z⟩
 .obtain⟨v,z⟩:=I.cell x c e;exact⟨v,cellK x c e v z⟩
 .obtain⟨m,⟨o,_,_,ho,_⟩,_⟩:=I.loc;exact free _ o (λz=>(hch _ z).2.1 rfl) ho I.free
 .obtain⟨v,o,ho,hd⟩:=I.cell x c e;exact free c o (λz=>(hch c z).2.2.1 x c e rfl) ho (I.freeC x c e)
 .obtain⟨e,n,ne,nf,d⟩:=I.pin p hp;have nch:p.1∉ch:=λz=>(hch p.1 z).2.2.2 p hp rfl
  exact⟨keep p.1 p.2 ne nf nch e n,free p.1 p.2 nch e n,ne,nf,d⟩
theorem Inv.un(I:Inv X pI Y H s)(u:Un X.fs [] H H' s.heap h')(hok:HOk X.prog X.w H' h'):Inv X pI Y H' {s with heap:=h',toks:=t'}:=by
 obtain⟨m,⟨o,es,ep,ho,r⟩,_⟩:=id I.loc;obtain⟨sl,hL⟩:=u.any ho I.free (by simp)
 exact I.step (g':=s.gens) (d':=s.drawn) (ch:=[]) (λ_ z=>nomatch z) (λb o _ hb _ e n=>u.keep b o e n hb (by simp)) (λb o _ hb _ e n=>u.slot b o e n hb (by simp)) (λb o _ e n=>u.free b o e n (by simp)) (λb o _ e=>u.there b o e (by simp)) u.tups u.frzs u.tbls (λm' hm=>by
  obtain⟨o',es',ep',ho',r'⟩:=hm;rw[ho]at ho';cases ho';exact⟨_,es',ep',hL,r'⟩) hok I.bare
theorem Inv.call(I:Inv X pI Y H s)(u:Un (frs X.stack) ch H H' s.heap h')(hok:HOk X.prog X.w H' h')(hg:FK g')(hch:∀ b∈ch,(b∈X.ex\/X.s₀.heap.objs.size<=b)/\b≠X.env.locals/\(∀ x c,X.env.cells.lookup x=Aa c->c≠b)/\∀ p∈X.pn++pI,p.1≠b):Inv X pI Y H' {s with heap:=h',gens:=g',drawn:=d',toks:=t'}:=by
 obtain⟨m,⟨o,es,ep,ho,r⟩,_⟩:=id I.loc;obtain⟨sl,hL⟩:=u.any ho I.free λz=>(hch _ z).2.1 rfl
 exact I.step (ch:=ch) hch (λb o hL hb hc e n=>u.keep b o e n (λz=>(AA.mp (I.stkSub b z)).elim hL hb) hc) (λb o _ _ hc e n=>u.any e n hc) (λb o hc e n=>u.free b o e n hc) (λb o hc e=>u.there b o e hc) u.tups u.frzs u.tbls (λm' hm=>by
  obtain⟨o',es',ep',ho',r'⟩:=hm;rw[ho]at ho';cases ho';exact⟨_,es',ep',hL,r'⟩) hok hg
theorem Inv.turned(I:Inv X pI Y H s)(k:∀ b o,b≠it->s.heap.get? b=Aa o->h'.get? b=Aa o)(hn:H it=Ae)(hL:it≠X.env.locals)(h1:it∈X.ex\/X.s₀.heap.objs.size<=it)(h2:∀ x c,X.env.cells.lookup x=Aa c->c≠it)(h3:∀ p∈X.pn++pI,p.1≠it):Inv X pI Y H {s with heap:=h',toks:=t'}:=by
 have nit:∀ b u,H b=Aa u->b≠it:=λb u e z=>by rw[z,hn]at e;cases e
 refine I.step (g':=s.gens) (d':=s.drawn) (ch:=[it]) (λb hb=>?_) (λb o _ _ hc e _=>k b o (λz=>hc (by simp[z])) e) (λb o _ _ hc e _=>⟨o.slots,k b o (λz=>hc (by simp[z])) e⟩) (λ_ _ _ _ n=>n)
  (λb o hc e=>⟨o,k b o (λz=>hc (by simp[z])) e⟩) (λ_ _ e=>e) (λ_ _ _ e=>e) (λb ps e=>⟨#[],by rw[e];simp⟩) (λm hm=>?_) (λb u e=>?_) I.bare
 .have e:b=it:=by simpa using hb
  subst e;exact⟨h1,hL,h2,h3⟩
 .obtain⟨o,es,ep,ho,r⟩:=hm;exact⟨o,es,ep,k _ o (B4 hL) ho,r⟩
 .refine(I.hok b u e).stay (λc v hc q=>k c v ?_ q) (λ_ q=>q) λ_ _ q=>q
  rcases hc with z|z
  .rw[z];exact nit b u e
  .exact nit c _ z
theorem Inv.tok(I:Inv X pI Y H s)(t:Af):Inv X pI Y H {s with toks:=t}:=I.un (h':=s.heap) (t':=t) Un.refl I.hok
theorem Inv.kept{t':Af}(I:Inv X pI Y H s)(k:∀ b u,s.heap.get? b=Aa u->h'.get? b=Aa u):Inv X pI Y H {s with heap:=h',toks:=t'}:=I.un (Un.kept k) (I.hok.kept k)
theorem Inv.laid{a:Ak}{o:HO}{t':Af}(I:Inv X pI Y H s)(k:∀ b u,s.heap.get? b=Aa u->h'.get? b=Aa u)(hp:s.heap.objs.size<=a)(new:ObjOk X.prog X.w (upd H a o) h' a o):Inv X pI Y (upd H a o) {s with heap:=h',toks:=t'}:=I.un (Un.laid k hp (I.hok.fresh hp)) (I.hok.laid k hp new)
theorem Inv.write{x e:Ak}{o:HO}{t':Af}(I:Inv X pI Y H s)(mu:Mut (H x))(he:e=x\/H e=Aa (.own x))(k:∀ b u,b≠e->s.heap.get? b=Aa u->h'.get? b=Aa u)(heo:∃ u,h'.get? e=Aa u)(new:ObjOk X.prog X.w (upd H x o) h' x o):Inv X pI Y (upd H x o) {s with heap:=h',toks:=t'}:=I.un (Un.write mu he k heo) (I.hok.write mu he k heo new)
theorem Inv.pins_of{pins':Pn}(I:Inv X pI Y H s)(h:∀ p∈pins',s.heap.get? p.1=Aa p.2/\H p.1=Ae/\p.1≠X.env.locals/\p.1∉X.fs/\∀ v,p.2.data≠.cell v):Inv X pins' Y H s:=
 ⟨I.ok,I.os,I.bare,I.base,I.loc,I.cell,I.free,I.freeC,λp hp=>(Dp.mp hp).elim (λz=>I.pin p (EY _ z)) (h p),I.hok,I.len⟩
theorem Pb{N:Ac Ag}(hN:N.Nodup){j:Af}(a:N[i]?=Aa x)(b:N[j]?=Aa x):i=j:=by
 obtain⟨h1,e1⟩:=A2.mp a;obtain⟨h2,e2⟩:=A2.mp b;exact(List.getElem_inj hN).mp (e1.trans e2.symm)
theorem RY{A:AW}{E:Vq}(I:Inv X pI Y H s)(hN:X.N.Nodup)(hi:X.N[i]?=Aa x)(hx:Loc X.env.scope x)(r:Bq v u)(h:∀ s',Inv X pI (Y.set i (Aa v)) H s'->(∃ a,EQ a s.heap s'.heap/\(a=X.env.locals\/X.env.cells.lookup x=Aa a))->Q () s')(hf:X.fn x=Ab\/X.env.scope.names.lookup x=Aa .local:=by first|exact .inl rfl|exact .inr rfl|assumption):At M A (storeName X.env x u) Q E s:=by
 obtain⟨m,hn,hl⟩:=id I.loc;have hcls:(X.env.scope.kind==.class||(X.env.scope.kind==.module&&X.env.locals != X.env.globals))=Ad:=by rw[I.ok.kind];rfl
 have hiσ:i<Y.length:=by rw[I.len];exact(A2.mp hi).1
 have cne:=I.cne;have tracked:∀{a:Ak}{h':AC},(∃ o,s.heap.get? a=Aa o/\H a=Ae)->EQ a s.heap h'->HOk X.prog X.w H h':=λ{a h'} ha hs b ob e=>by
  obtain⟨_,_,hfree⟩:=ha;refine(I.hok b ob e).stay (λc w' hc q=>(hs.2 c ?_).trans q) (λ_ q=>q) λ_ _ q=>q
  rintro rfl;rcases hc with rfl|hc
  .rw[hfree]at e;cases e
  .rw[hfree]at hc;cases hc
 rcases hx with hk|hk
 .refine wpAny_storeName_local hk hn (λh' hn' hs=>?_) hcls
  obtain⟨oL,_,_,hoL,_⟩:=id hn;refine h _ ⟨I.ok,I.os,I.bare,⟨λb o e n hb hx=>?_,λb o e n hb hx=>?_,I.base.free,λb o e hx=>?_,I.base.tups,I.base.frzs,I.base.tbls⟩,⟨_,hn',λj y v' e1 e2 e3=>?_⟩,λy c e=>?_,I.free,I.freeC,λp hp=>?_,tracked ⟨oL,hoL,I.free⟩ hs,by simpa using I.len⟩ ⟨_,hs,.inl rfl⟩
  .exact(hs.2 b (A5 (AQ (AL e) I.ok.above))).trans (I.base.keep b o e n hb hx)
  .obtain⟨sl,e1⟩:=I.base.slot b o e n hb hx;exact⟨sl,(hs.2 b (A5 (AQ (AL e) I.ok.above))).trans e1⟩
  .obtain⟨o',e1⟩:=I.base.there b o e hx;exact⟨o',(hs.2 b (A5 (AQ (AL e) I.ok.above))).trans e1⟩
  .by_cases hj:j=i
   .subst hj;rw[hi]at e1;cases e1;rw[BV hiσ]at e2;cases e2;exact⟨u,r,.inl ⟨hk,by simp⟩⟩
   .rw[Gv (B4 hj)]at e2;obtain⟨u',r',q⟩:=hl j y v' e1 e2 e3;refine⟨u',r',?_⟩;rcases q with ⟨k,e⟩|⟨k,c,e,z⟩
    .refine .inl ⟨k,?_⟩;have:y≠x:=λe=>hj (Pb hN e1 (e ▸ hi))
     simp[this,e]
    .exact .inr ⟨k,c,e,z.sameBut hs (cne y c e)⟩
  .obtain⟨w',z⟩:=I.cell y c e;exact⟨w',z.sameBut hs (cne y c e)⟩
  .obtain⟨e,n,ne,nf,d⟩:=I.pin p hp;exact⟨(hs.2 p.1 ne).trans e,n,ne,nf,d⟩
 .have hfn:X.fn x=Ab:=by
   rcases hf with z|z
   .exact z
   .rw[z]at hk;cases hk
  obtain⟨c,hc⟩:=I.ok.has x (.inl hk);obtain⟨w',z⟩:=I.cell x c hc;refine wpAny_storeName_cell I.ok.kind hk hc z (λh' hc' hs=>?_)
  obtain⟨oc,hoc,hocd⟩:=id z;refine h {s with heap:=h'} ⟨I.ok,I.os,I.bare,⟨λb o e n hb hx=>?_,λb o e n hb hx=>?_,I.base.free,λb o e hx=>?_,I.base.tups,I.base.frzs,I.base.tbls⟩,⟨m,hn.sameBut hs (B4 (cne x c hc)),λj y v' e1 e2 e3=>?_⟩,λy c' e=>?_,I.free,I.freeC,λp hp=>?_,tracked ⟨oc,hoc,I.freeC x c hc⟩ hs,by simpa using I.len⟩ ⟨c,hs,.inr hc⟩
  .exact(hs.2 b (A5 (AQ (AL e) (I.ok.cab x c hfn hc)))).trans (I.base.keep b o e n hb hx)
  .obtain⟨sl,e1⟩:=I.base.slot b o e n hb hx;exact⟨sl,(hs.2 b (A5 (AQ (AL e) (I.ok.cab x c hfn hc)))).trans e1⟩
  .obtain⟨o',e1⟩:=I.base.there b o e hx;exact⟨o',(hs.2 b (A5 (AQ (AL e) (I.ok.cab x c hfn hc)))).trans e1⟩
  .by_cases hj:j=i
   .subst hj;rw[hi]at e1;cases e1;rw[BV hiσ]at e2;cases e2;exact⟨u,r,.inr ⟨.inl hk,c,hc,hc'⟩⟩
   .rw[Gv (B4 hj)]at e2;obtain⟨u',r',q⟩:=hl j y v' e1 e2 e3;refine⟨u',r',?_⟩;rcases q with q|⟨k,c',e,z'⟩
    .exact .inl q
    .refine .inr ⟨k,c',e,z'.sameBut hs ?_⟩;rintro rfl;exact hj (Pb hN e1 (I.ok.inj _ _ _ e hc ▸ hi))
  .by_cases hcc:c'=c
   .subst hcc;exact⟨_,hc'⟩
   .obtain⟨w2,z2⟩:=I.cell y c' e;exact⟨w2,z2.sameBut hs hcc⟩
  .obtain⟨e,n,ne,nf,d⟩:=I.pin p hp;refine⟨(hs.2 p.1 ?_).trans e,n,ne,nf,d⟩;intro q;rw[q,hoc]at e;have q':oc=p.2:=Be e;exact d w' (by rw[<-q'];exact hocd)
theorem OQ{A:AW}{E:Vq}(I:Inv X pI Y H s)(hN:X.N.Nodup)(hi:X.N[i]?=Aa x)(hx:Loc X.env.scope x)(r:Bq v u)(h:∀ s',Inv X pI (Y.set i (Aa v)) H s'->Q () s')(hf:X.fn x=Ab\/X.env.scope.names.lookup x=Aa .local:=by first|exact .inl rfl|exact .inr rfl|assumption):At M A (storeName X.env x u) Q E s:=
 RY I hN hi hx r (λs' I' _=>h s' I') hf
theorem Inv.call'{s':Ap}(I:Inv X pI Y H s)(ho:s'.os=s.os)(u:Un (frs X.stack) ch H H' s.heap s'.heap)(hok:HOk X.prog X.w H' s'.heap)(hg:FK s'.gens)(hch:∀ b∈ch,(b∈X.ex\/X.s₀.heap.objs.size<=b)/\b≠X.env.locals/\(∀ x c,X.env.cells.lookup x=Aa c->c≠b)/\∀ p∈X.pn++pI,p.1≠b):Inv X pI Y H' s':=by
 obtain⟨h',g',d',t',o'⟩:=s';have e:o'=s.os:=ho;subst e;exact I.call (g':=g') (t':=t') (d':=d') u hok hg hch
end
abbrev XK:=Aj->Ao Ak->Hp->Prop
abbrev St:=Ac (Ao V)
variable{Y:St}
abbrev VK:=V->Hp->Prop
abbrev TE:=St->Hp->VK->Prop
abbrev TT:=St->Hp->(Al->Hp->Prop)->Prop
abbrev TA:=St->Hp->(Ac V->Hp->Prop)->Prop
variable{ta:TA}
structure Ends where
 nx:St->Hp->Prop
 rt:VK
 bk:St->Hp->Prop:=λ_ _=>AX
 ct:St->Hp->Prop:=λ_ _=>AX
abbrev TS:=Ends->St->Hp->Prop
def EP(X:Cx)(pI:Pn)(Y:St)(Q:VK)(u:Aj)(s':Ap):Prop:=∃ v H',Inv X pI Y H' s'/\Bq v u/\Q v H'
def TP(X:Cx)(pI:Pn)(Y:St)(Q:Al->Hp->Prop)(b:Al)(s':Ap):Prop:=∃ H',Inv X pI Y H' s'/\Q b H'
def AP(X:Cx)(pI:Pn)(Y:St)(Q:Ac V->Hp->Prop)(us:Ac Aj)(s':Ap):Prop:=∃ vs H',Inv X pI Y H' s'/\AZ vs us/\Q vs H'
noncomputable def SP(X:Cx)(pI:Pn)(D:Ends)(f:Flow)(s':Ap):Prop:=
  match f with
  |.next=>∃ Y' H',Inv X pI Y' H' s'/\D.nx Y' H'
  |.brk=>∃ Y' H',Inv X pI Y' H' s'/\D.bk Y' H'
  |.cont=>∃ Y' H',Inv X pI Y' H' s'/\D.ct Y' H'
  |.ret u=>∃ v Y' H',Inv X pI Y' H' s'/\Bq v u/\D.rt v H'
noncomputable def PE(X:Cx)(e:Am)(t:TE):Prop:=
 ∀(pI:Pn)(s:Ap)(Y:St)(H:Hp)(Q:VK),Inv X pI Y H s->t Y H Q->At (model X.prog X.w) X.A (eval e X.env) (EP X pI Y Q) X.xe s
noncomputable def PT(X:Cx)(e:Am)(t:TT):Prop:=
 ∀(pI:Pn)(s:Ap)(Y:St)(H:Hp)(Q:Al->Hp->Prop),Inv X pI Y H s->t Y H Q->At (model X.prog X.w) X.A (IJ e X.env (eval e X.env)) (TP X pI Y Q) X.xe s
noncomputable def PW(X:Cx)(e:Am)(t:TT):Prop:=
 ∀(whole:FW Aj)(pI:Pn)(s:Ap)(Y:St)(H:Hp)(Q:Al->Hp->Prop),Inv X pI Y H s->t Y H Q->At (model X.prog X.w) X.A (IJ e X.env whole) (TP X pI Y Q) X.xe s
theorem PW.pt{t:TT}(h:PW X e t):PT X e t:=h _
noncomputable def PA(X:Cx)(es:Ac Am)(t:TA):Prop:=
 ∀(pos:AF)(pI:Pn)(s:Ap)(Y:St)(H:Hp)(Q:Ac V->Hp->Prop),Inv X pI Y H s->t Y H Q->At (model X.prog X.w) X.A (spliced (Bo pos (Aq es X.env))) (AP X pI Y Q) X.xe s
noncomputable def PS(X:Cx)(st:AM)(t:TS):Prop:=
 ∀(pI:Pn)(s:Ap)(Y:St)(H:Hp)(D:Ends),Inv X pI Y H s->t D Y H->At (model X.prog X.w) X.A (exec st X.env) (SP X pI D) X.xe s
noncomputable def PSs(X:Cx)(st:Ac AM)(t:TS):Prop:=
 ∀(pI:Pn)(s:Ap)(Y:St)(H:Hp)(D:Ends),Inv X pI Y H s->t D Y H->At (model X.prog X.w) X.A (execs st X.env) (SP X pI D) X.xe s
theorem thn{α:Type}{t:FW α}{Q Q':α->Ap->Prop}{A:AW}{E:Vq}(h:At M A t Q E s)(hQ:∀ a s,Q a s->Q' a s):At M A t Q' E s:=A3 h hQ λ_ _ x=>x
section
variable{X:Cx}
def Ej(i:Af):TE:=λY H Q=>∃ v,Y[i]?=Aa (Aa v)/\Q v H
def tC(v:V):TE:=λ_ H Q=>Q v H
theorem Ll(hN:X.N[i]?=Aa x)(hv:Vis X.env.scope x)(hd:(x==("__debug__" : Ag))=Ad:=by decide)(hcd:(x==("__classdict__" : Ag))=Ad:=by decide):PE X (.Name x pos) (Ej i):=by
 intro pI s Y H Q I h;obtain⟨v,e,h⟩:=h;obtain⟨m,hn,hl⟩:=I.loc;obtain⟨u,r,l⟩:=hl i x v hN e hv;have fin:EP X pI Y Q u s:=⟨v,H,I,r,h⟩;rcases l with ⟨hk,hm⟩|⟨hk,c,hc,hcell⟩
 .exact K4 (wpAny_loadName_local I.ok.kind hk hn hm fin) hd
 .rcases hk with hk|hk
  .exact K4 (wpAny_loadName_cell I.ok.kind hk hc hcell fin) hd
  .exact K4 (wpAny_loadName_free I.ok.kind hk hc hcell fin hcd) hd
theorem oG{i j pos}:PE X (.Constant (.int i) j pos) (tC (.int i)):=λ_ _ _ H _ I h=>wpAny_Constant_int ⟨.int i,H,I.tok _,⟨_,rfl⟩,h⟩
theorem vV{b j pos}:PE X (.Constant (.bool b) j pos) (tC (.bl b)):=λ_ _ _ H _ I h=>Constant_bool ⟨.bl b,H,I,rfl,h⟩
theorem oF{j pos}:PE X (.Constant .none j pos) (tC .non):=λ_ _ _ H _ I h=>Constant_none ⟨.non,H,I,rfl,h⟩
theorem NA{x j pos}:PE X (.Constant (.str x) j pos) (tC (.str x)):=λ_ _ _ H _ I h=>Calls.Constant_str ⟨.str x,H,I.tok _,⟨_,rfl⟩,h⟩
def Gl(X:Cx)(x:Ag):Prop:=X.env.kindOf x=Aa .globalImplicit
theorem Hh{E:Vq}{Q:Vq}(I:Inv X pI Y H s)(hg:Gl X x)(hm:X.mg x=Aa u)(h:Q u s)(hd:(x==("__debug__" : Ag))=Ad:=by decide):At (model X.prog X.w) X.A (eval (.Name x pos) X.env) Q E s:=
 XN I.ok.kind hg (Calls.loadGlobal_global (by rw[I.ok.glob];exact I.mod.glob.keeps I.bk) hm h) hd
theorem Lo{E:Vq}{Q:Vq}(I:Inv X pI Y H s)(hg:Gl X x)(hm:X.mg x=Ae)(hv:CJ x=Aa u)(h:Q u s)(hn:x≠"__name__" := by decide)(hd:(x==("__debug__" : Ag))=Ad:=by decide):At (model X.prog X.w) X.A (eval (.Name x pos) X.env) Q E s:=by
 obtain⟨mb,h1,h2⟩:=I.mod.blt;exact XN I.ok.kind hg (Calls.loadGlobal_builtin (by rw[I.ok.glob];exact I.mod.glob.keeps I.bk) hm (by rw[I.ok.blt];exact h1.keeps I.bk) ((h2 x hn).trans hv) h) hd
theorem PD(hg:Gl X x)(hm:X.mg x=Aa u)(r:Bq v u)(hd:(x==("__debug__" : Ag))=Ad:=by decide):PE X (.Name x pos) (tC v):=
 λ_ _ _ H _ I h=>Hh I hg hm ⟨v,H,I,r,h⟩ hd
theorem Uk(hg:Gl X x)(hm:X.mg x=Ae)(hv:CJ x=Aa u)(r:Bq v u)(hn:x≠"__name__" := by decide)(hd:(x==("__debug__" : Ag))=Ad:=by decide):PE X (.Name x pos) (tC v):=
 λ_ _ _ H _ I h=>Lo I hg hm hv ⟨v,H,I,r,h⟩ hn hd
variable{a b:Am}{ta tb:TE}{pos:AF}
variable{tA tB':TT}{rest:Ac Am}
def ZM(t u:TT):TT:=λY H Q=>t Y H λc H1=>if c=Ab then u Y H1 Q else Q Ad H1
def tOr(t u:TT):TT:=λY H Q=>t Y H λc H1=>if c=Ab then Q Ab H1 else u Y H1 Q
def ZG(t:TT):TT:=λY H Q=>t Y H λc H1=>Q (!c) H1
theorem jH(ha:PT X a tA):PW X (.BoolOp .And [a] pos) tA:=by
 intro wh pI s Y H Q I h;refine isTrue_and (thn (ha pI s Y H Q I h) λc s1 e=>?_)
 cases c with
 |true=>exact isTrue_and_nil e
 |false=>exact e
theorem pE(ha:PT X a tA):PW X (.BoolOp .Or [a] pos) tA:=by
 intro wh pI s Y H Q I h;refine isTrue_or (thn (ha pI s Y H Q I h) λc s1 e=>?_)
 cases c with
 |false=>exact isTrue_or_nil e
 |true=>exact e
theorem pF(ha:PT X a tA)(hb:PW X (.BoolOp .And (b::rest) pos) tB'):PW X (.BoolOp .And (a::b::rest) pos) (ZM tA tB'):=by
 intro wh pI s Y H Q I h;refine isTrue_and (thn (ha pI s Y H _ I h) λc s1 ⟨H1,I1,q1⟩=>?_)
 cases c with
 |true=>exact hb wh pI s1 Y H1 Q I1 q1
 |false=>exact⟨H1,I1,q1⟩
theorem vR(ha:PT X a tA)(hb:PW X (.BoolOp .Or (b::rest) pos) tB'):PW X (.BoolOp .Or (a::b::rest) pos) (tOr tA tB'):=by
 intro wh pI s Y H Q I h;refine isTrue_or (thn (ha pI s Y H _ I h) λc s1 ⟨H1,I1,q1⟩=>?_)
 cases c with
 |true=>exact⟨H1,I1,q1⟩
 |false=>exact hb wh pI s1 Y H1 Q I1 q1
theorem pG(ha:PT X a tA):PT X (.UnaryOp .Not a pos) (ZG tA):=by
 intro pI s Y H Q I h;exact isTrue_not (ha pI s Y H (λc H1=>Q (!c) H1) I h)
def sX(ta tb:TE):TE:=λY H Q=>ta Y H λx H1=>∃ c,x=.bl c/\if c=Ab then tb Y H1 Q else Q (.bl Ad) H1
def ZF(ta tb:TE):TE:=λY H Q=>ta Y H λx H1=>∃ c,x=.bl c/\if c=Ab then Q (.bl Ab) H1 else tb Y H1 Q
def sT(ta:TE):TE:=λY H Q=>ta Y H λx H1=>∃ c,x=.bl c/\Q (.bl (!c)) H1
theorem oC{op}{t:TE}(h:PE X a t):PE X (.BoolOp op [a] pos) t:=λpI s Y H Q I hw=>BoolOp_one (h pI s Y H Q I hw)
theorem oJ(ha:PE X a ta)(hb:PE X (.BoolOp .And (b::rest) pos) tb):PE X (.BoolOp .And (a::b::rest) pos) (sX ta tb):=by
 intro pI s Y H Q I h;refine BoolOp_and (thn (ha pI s Y H _ I h) λv s1 ⟨x,H1,I1,r1,q1⟩=>?_)
 obtain⟨c,rfl,q1⟩:=q1;cases r1;refine CZ ?_;cases c with
 |true=>exact hb pI s1 Y H1 Q I1 q1
 |false=>exact⟨.bl Ad,H1,I1,rfl,q1⟩
theorem vT(ha:PE X a ta)(hb:PE X (.BoolOp .Or (b::rest) pos) tb):PE X (.BoolOp .Or (a::b::rest) pos) (ZF ta tb):=by
 intro pI s Y H Q I h;refine BoolOp_or (thn (ha pI s Y H _ I h) λv s1 ⟨x,H1,I1,r1,q1⟩=>?_)
 obtain⟨c,rfl,q1⟩:=q1;cases r1;refine CZ ?_;cases c with
 |false=>exact hb pI s1 Y H1 Q I1 q1
 |true=>exact⟨.bl Ab,H1,I1,rfl,q1⟩
theorem oE(ha:PE X a ta):PE X (.UnaryOp .Not a pos) (sT ta):=by
 intro pI s Y H Q I h;refine UnaryOp_ (thn (ha pI s Y H _ I h) λv s1 ⟨x,H1,I1,r1,q1⟩=>?_)
 obtain⟨c,rfl,q1⟩:=q1;cases r1;exact not_of (CZ ⟨.bl (!c),H1,I1,rfl,q1⟩)
end
noncomputable def SqL(K:Fg)(H:Hp)(a:Ak)(xs:Ac V):Prop:=
 Rd H a (.lst xs) \/
  ∃(o:Da)(its:A9 Aj)(n:Af),K.lookup a=Aa o/\o.cls=.type "list"/\o.dict=Ae/\o.data=.seq its n/\its.size<=sizeLine/\AZ xs its.toList
noncomputable def SqT(K:Fg)(H:Hp)(a:Ak)(xs:Ac V):Prop:=
 Rd H a (.tup xs) \/
  ∃(o:Da)(its:A9 Aj)(n:Af),K.lookup a=Aa o/\o.cls=.type "tuple"/\o.data=.seq its n/\its.size<=sizeLine/\AZ xs its.toList
noncomputable def Z_6:Aj->Ao V
 |.none=>Aa .non
 |.bool b=>Aa (.bl b)
 |.int i _=>Aa (.int i)
 |.str x _=>Aa (.str x)
 |.bytes b _=>Aa (.byt b)
 |.float b _=>Aa (.flt b)
 |.ref a=>Aa (.ref a)
 |.type n=>Aa (.ty n)
 |_=>Ae
theorem Bq.abs{x:V}(r:Bq x u):Z_6 u=Aa x:=by
 cases x with
 |non=>cases r;rfl
 |bl _=>cases r;rfl
 |int _=>obtain⟨t,rfl⟩:=r;rfl
 |str _=>obtain⟨t,rfl⟩:=r;rfl
 |byt _=>obtain⟨t,rfl⟩:=r;rfl
 |flt _=>obtain⟨t,rfl⟩:=r;rfl
 |ref _=>cases r;rfl
 |ty _=>cases r;rfl
theorem Bq.inj{x:V}(r:Bq x u)(q:Bq y u):x=y:=Be (r.abs.symm.trans q.abs)
theorem AZ.inj:∀{xs ys:Ac V}{us:Ac Aj},AZ xs us->AZ ys us->xs=ys
 |_,_,_,.nil,.nil=>rfl
 |_,_,_,.cons r t,.cons r' t'=>by rw[r.inj r',AZ.inj t t']
section
variable{X:Cx}{pI:Pn}{Y:St}{H:Hp}{s:Ap}{a:Ak}{xs ys:Ac V}
theorem SqL.of{K:Fg}(h:H a=Aa (.lst xs)):SqL K H a xs:=.inl (.inl h)
theorem SqT.of{K:Fg}(h:H a=Aa (.tup xs)):SqT K H a xs:=.inl (.inl h)
theorem Inv.list(I:Inv X pI Y H s)(h:SqL X.K H a xs):∃ its:Ac Aj,AZ xs its/\PlainL s.heap a its.toArray/\xs.length<=sizeLine:=by
 rcases h with h|⟨o,its,n,hk,hc,hd,hs,hz,r⟩
 .obtain⟨z,its,n,r,e⟩:=h.ok I.hok;exact⟨its,r,⟨_,n,e,rfl,rfl,rfl⟩,z⟩
 .refine⟨its.toList,r,⟨o,n,I.kIn a o hk,hc,hd,by simpa using hs⟩,?_⟩
  have e:=r.length;simp only[Cm]at e;omega
theorem Inv.tuple(I:Inv X pI Y H s)(h:SqT X.K H a xs):∃ its:Ac Aj,AZ xs its/\KP s.heap a its.toArray/\xs.length<=sizeLine:=by
 rcases h with h|⟨o,its,n,hk,hc,hs,hz,r⟩
 .obtain⟨z,its,r,p⟩:=h.ok I.hok;exact⟨its,r,p,z⟩
 .refine⟨its.toList,r,⟨o,I.kIn a o hk,hc,n,by simpa using hs⟩,?_⟩
  have e:=r.length;simp only[Cm]at e;omega
theorem Inv.list_inj(I:Inv X pI Y H s)(h:SqL X.K H a xs)(h':SqL X.K H a ys):xs=ys:=by
 obtain⟨its,r,⟨o,n,e,_,_,d⟩,_⟩:=I.list h;obtain⟨its',r',⟨o',n',e',_,_,d'⟩,_⟩:=I.list h';rw[e]at e';cases e';rw[d]at d'
 injection d' with d1 _
 have:its=its':=by simpa using congrArg WL d1
 subst this;exact r.inj r'
theorem Inv.tuple_inj(I:Inv X pI Y H s)(h:SqT X.K H a xs)(h':SqT X.K H a ys):xs=ys:=by
 obtain⟨its,r,⟨o,e,_,n,d⟩,_⟩:=I.tuple h;obtain⟨its',r',⟨o',e',_,n',d'⟩,_⟩:=I.tuple h';rw[e]at e';cases e';rw[d]at d'
 injection d' with d1 _
 have:its=its':=by simpa using congrArg WL d1
 subst this;exact r.inj r'
end
noncomputable abbrev Cx.wish(X:Cx)(E:Vq):Cx:={X with xe:=E}
noncomputable abbrev Cx.nox(X:Cx):Cx:=X.wish λ_ _=>AX
theorem Cx.Ok.wish(ok:X.Ok)(E:Vq):(X.wish E).Ok:=
 ⟨ok.mod,ok.kind,ok.glob,ok.blt,ok.above,ok.inj,ok.has,ok.cab,ok.hd,ok.frames,ok.stk,ok.exf,ok.bs,ok.bsz,ok.noex,ok.exfs,ok.funs,ok.frf⟩
theorem Cx.Ok.unwish{E:Vq}(ok:(X.wish E).Ok):X.Ok:=
 ⟨ok.mod,ok.kind,ok.glob,ok.blt,ok.above,ok.inj,ok.has,ok.cab,ok.hd,ok.frames,ok.stk,ok.exf,ok.bs,ok.bsz,ok.noex,ok.exfs,ok.funs,ok.frf⟩
section
variable{X:Cx}{pI:Pn}{Y:St}{H:Hp}{s:Ap}{E:Vq}
theorem Inv.wish(I:Inv X pI Y H s)(E:Vq):Inv (X.wish E) pI Y H s:=⟨I.ok.wish E,I.os,I.bare,I.base,I.loc,I.cell,I.free,I.freeC,I.pin,I.hok,I.len⟩
theorem Inv.unwish(I:Inv (X.wish E) pI Y H s):Inv X pI Y H s:=⟨I.ok.unwish,I.os,I.bare,I.base,I.loc,I.cell,I.free,I.freeC,I.pin,I.hok,I.len⟩
theorem SP.unwish{D:Ends}{f:Flow}{s':Ap}(h:SP (X.wish E) pI D f s'):SP X pI D f s':=by
 cases f with
 |next=>obtain⟨Y',H',I,q⟩:=h;exact⟨Y',H',I.unwish,q⟩
 |brk=>obtain⟨Y',H',I,q⟩:=h;exact⟨Y',H',I.unwish,q⟩
 |cont=>obtain⟨Y',H',I,q⟩:=h;exact⟨Y',H',I.unwish,q⟩
 |ret u=>obtain⟨v,Y',H',I,r,q⟩:=h;exact⟨v,Y',H',I.unwish,r,q⟩
theorem PSs.nox{st:Ac AM}{t:TS}(h:PSs X.nox st t):PSs X st t:=λpI s Y H D I hw=>
 A3 (h pI s Y H D (I.wish _) hw) (λ_ _ q=>q.unwish) λ_ _ z=>AY z
end
section
variable{X:Cx}{st:AM}{rest:Ac AM}{t u:TS}{e:Am}{te:TE}{pos:AF}
def VB:TS:=λD Y H=>D.nx Y H
def ZX(t u:TS):TS:=λD Y H=>t {D with nx:=u D} Y H
theorem Uh:PSs X [] VB:=λ_ _ Y H _ I h=>Fs ⟨Y,H,I,h⟩
theorem JP(h1:PS X st t)(h2:PSs X rest u):PSs X (st::rest) (ZX t u):=by
 intro pI s Y H D I h;refine HL (thn (h1 pI s Y H {D with nx:=u D} I h) λf s1 q=>?_)
 cases f with
 |next=>
  obtain⟨Y',H',I',q⟩:=q;exact h2 pI s1 Y' H' D I' q
 |ret v=>exact q
 |brk=>exact q
 |cont=>exact q
theorem Ja(h1:PS X st t):PSs X [st] t:=by
 intro pI s Y H D I h;refine HL (thn (h1 pI s Y H D I h) λf s1 q=>?_)
 cases f with
 |next=>exact Fs q
 |ret v=>exact q
 |brk=>exact q
 |cont=>exact q
theorem Inv.quiet(I:Inv X pI Y H s):interactive X.env=Ad:=by simp[interactive,I.ok.kind]
def sU(te:TE):TS:=λD Y H=>te Y H λ_ H1=>D.nx Y H1
theorem Ir(he:PE X e te)(hs:Cn e Ae pos.line X.env=pure Ad:=by rfl):PS X (.Expr e pos) (sU te):=by
 intro pI s Y H D I h;exact wpAny_Expr_any (thn (he pI s Y H _ I h) λv s1 ⟨x,H1,I1,r1,q1⟩=>⟨Y,H1,I1,q1⟩) I.quiet hs
def ZE(te:TE):TS:=λD Y H=>te Y H D.rt
theorem P3(he:PE X e te):PS X (.Return (Aa e) pos) (ZE te):=by
 intro pI s Y H D I h;exact wpAny_Return_some (thn (he pI s Y H _ I h) λv s1 ⟨x,H1,I1,r1,q1⟩=>⟨x,Y,H1,I1,r1,q1⟩)
def ZJ(c:TT)(t u:TS):TS:=λD Y H=>c Y H λb H1=>if b=Ab then t D Y H1 else u D Y H1
theorem VJ{c:Am}{a b:Ac AM}{tc:TT}(hc:PT X c tc)(ha:PSs X a t)(hb:PSs X b u):PS X (.If c a b pos) (ZJ tc t u):=by
 intro pI s Y H D I h;refine wpAny_If (thn (hc pI s Y H _ I h) λd s1 ⟨H1,I1,q1⟩=>?_)
 cases d with
 |true=>exact ha pI s1 Y H1 D I1 q1
 |false=>exact hb pI s1 Y H1 D I1 q1
def U_8:TS:=λ_ _ _=>AX
theorem cV{sts:Ac AM}:PSs X sts U_8:=λ_ _ _ _ _ _ h=>h.elim
end
abbrev TG:=V->St->Hp->(St->Hp->Prop)->Prop
abbrev TGs:=Ac V->St->Hp->(St->Hp->Prop)->Prop
noncomputable def PG(X:Cx)(target:Am)(t:TG):Prop:=
 ∀(pI:Pn)(s:Ap)(Y:St)(H:Hp)(v:V)(u:Aj)(Q:St->Hp->Prop),Inv X pI Y H s->Bq v u->t v Y H Q ->
  At (model X.prog X.w) X.A (assign target X.env u) (λ_ s'=>∃ Y' H',Inv X pI Y' H' s'/\Q Y' H') X.xe s
noncomputable def PGs(X:Cx)(ts:Ac Am)(t:TGs):Prop:=
 ∀(pI:Pn)(s:Ap)(Y:St)(H:Hp)(vs:Ac V)(us:Ac Aj)(Q:St->Hp->Prop),Inv X pI Y H s->AZ vs us->t vs Y H Q ->
  At (model X.prog X.w) X.A (assignInOrder ((D9 ts X.env).map (·.2)) us) (λ_ s'=>∃ Y' H',Inv X pI Y' H' s'/\Q Y' H') X.xe s
section
variable{X:Cx}{pos:AF}
def EG(i:Af):TG:=λv Y H Q=>Q (Y.set i (Aa v)) H
theorem Mc(hN:X.N.Nodup)(hi:X.N[i]?=Aa x)(hx:Loc X.env.scope x)(hf:X.fn x=Ab\/X.env.scope.names.lookup x=Aa .local:=by first|exact .inl rfl|exact .inr rfl|assumption):PG X (.Name x pos) (EG i):=by
 intro pI s Y H v u Q I r h;exact Zp (OQ I hN hi hx r (λs' I'=>⟨_,H,I',h⟩) hf)
def Jq:TGs:=λvs Y H Q=>vs=[]/\Q Y H
def Jm(t:TG)(u:TGs):TGs:=λvs Y H Q=>∃ v r,vs=v::r/\t v Y H λY' H'=>u r Y' H' Q
theorem Ui:PGs X [] Jq:=by
 intro pI s Y H vs us Q I r h;obtain⟨e,h⟩:=h;subst e;cases r;exact assignInOrder_nil ⟨Y,H,I,h⟩
theorem Tv{t:TG}{u:TGs}(h1:PG X e t)(h2:PGs X es u)(hs:(D9 (e::es) X.env).map (·.2)=assign e X.env::(D9 es X.env).map (·.2):=by rfl):PGs X (e::es) (Jm t u):=by
 intro pI s Y H vs us Q I r h;obtain⟨v,vr,e1,h⟩:=h;subst e1;cases r with
 |cons r rr=>
  rw[hs];refine assignInOrder_cons (thn (h1 pI s Y H _ _ _ I r h) λ_ s1 ⟨Y1,H1,I1,q1⟩=>?_)
  exact h2 pI s1 Y1 H1 _ _ Q I1 rr q1
def MG(K:Fg)(n:Af)(t:TGs):TG:=λv Y H Q=>∃ a xs,v=.ref a/\SqT K H a xs/\xs.length=n/\t xs Y H Q
theorem US{t:TGs}(hc:X.calm=Ab)(h:PGs X es t)(hn:(D9 es X.env).length=n:=by rfl)(hst:(D9 es X.env).findIdx? (·.1)=Ae:=by rfl):PG X (.Tuple es k pos) (MG X.K n t):=by
 intro pI s Y H v u Q I r hw;obtain⟨a,xs,e1,hq,hl,hw⟩:=hw;subst e1;cases r;obtain⟨its,rv,ht,hz⟩:=I.tuple hq;refine assign_Tuple_tuple (I.ok.hd hc) ht (by simp[hn,<-hl,rv.length]) hst λh' hx=>?_
 have I1:Inv X pI Y H {s with heap:=h'}:=I.kept (t':=s.toks) λb o e=>hx b o (A5 (AL e)) e
 exact h pI _ Y H xs _ Q I1 (by simpa using rv) hw
def KI(te:TE)(g:TG):TS:=λD Y H=>te Y H λx H1=>g x Y H1 D.nx
theorem Ml{te:TE}{pos':AF}(hN:X.N.Nodup)(hi:X.N[i]?=Aa x)(hx:Loc X.env.scope x)(he:PE X e te)(hs:Cn e (Aa (.Name x pos')) pos.line X.env=pure Ad:=by rfl)(hf:X.fn x=Ab\/X.env.scope.names.lookup x=Aa .local:=by first|exact .inl rfl|exact .inr rfl|assumption):PS X (.Assign [.Name x pos'] e pos) (KI te (EG i)):=by
 intro pI s Y H D I h;refine wpAny_Assign_Name (thn (he pI s Y H _ I h) λv s1 ⟨y,H1,I1,r1,q1⟩=>?_) hs
 exact OQ I1 hN hi hx r1 (λs2 I2=>⟨_,H1,I2,q1⟩) hf
end
section
variable{X:Cx}{pos:AF}
end
structure It where
 go:Af->Hp->Prop
 yld:Af->Hp->V->Hp->Prop
 stop:Af->Hp->Prop
noncomputable def GM(X:Cx)(pI:Pn)(H:Hp)(b:Ak):Prop:=
 H b=Ae/\b≠X.env.locals/\b∉X.fs/\(b∈X.ex\/X.s₀.heap.objs.size<=b)/\(∀ x c,X.env.cells.lookup x=Aa c->c≠b)/\∀ p∈X.pn++pI,p.1≠b
theorem Inv.fpOk{H':Hp}(I:Inv X pI Y H s)(hb:s.heap.objs.size<=b)(hn:H' b=Ae):GM X pI H' b:=by
 refine⟨hn,EM (AQ I.lt hb),I.nofs hb,.inr (BF I.sz hb),λx c e z=>?_,λp hp z=>?_⟩
 .obtain⟨v,q⟩:=I.cell x c e;exact absurd (AQ q.lt (by rw[z];exact hb)) (Bp _)
 .exact absurd (AQ (AL (I.pin p hp).1) (by rw[z];exact hb)) (Bp _)
structure Turn (P:AO) (w:A1) (K:Fg) (tg:Am) (J:It) (fp:Ac Ak) (it:Ak) (tn:Af->AC->Prop):Prop where
 mem:it∈fp
 obj:∀ i h,tn i h->∀ b∈fp,∃ o,h.get? b=Aa o/\∀ v,o.data≠.cell v
 keep:∀ i h h',tn i h->(∀ b∈fp,∀ o,h.get? b=Aa o->h'.get? b=Aa o)->tn i h'
 item:∀(X:Cx),X.prog=P->X.w=w->X.K=K->X.calm=Ab->∀(i:Af)(pI:Pn)(s:Ap)(Y:St)(H:Hp)(E:Vq),Inv X pI Y H s->(∀ b∈fp,GM X pI H b)->tn i s.heap->J.go i H ->
  At (model P w) X.A (JN (.ref it)) (λr s1=>∃ u,r=Aa u /\
   At (model P w) X.A (GE tg (.ref it) u) (λ_ s2=>∃ x H',Inv X pI Y H' s2/\Bq x u/\J.yld i H x H'/\tn (i+1) s2.heap/\∀ b∈fp,H' b=Ae) E s1) E s
 done:∀(X:Cx),X.prog=P->X.w=w->X.K=K->X.calm=Ab->∀(i:Af)(pI:Pn)(s:Ap)(Y:St)(H:Hp)(E:Vq),Inv X pI Y H s->(∀ b∈fp,GM X pI H b)->tn i s.heap->J.stop i H ->
  At (model P w) X.A (JN (.ref it)) (λr s1=>r=Ae/\Inv X pI Y H s1) E s
 self:∀(A:AW)(i:Af)(s:Ap)(Q:Vq)(E:Vq),tn i s.heap->Q (.ref it) s->At (model P w) A (LO (.ref it)) Q E s
abbrev TI:=St->Hp->(It->Hp->Prop)->Prop
noncomputable def PIE(X:Cx)(pI:Pn)(Y:St)(tg:Am)(R:It->Hp->Prop)(itv:Aj)(s2:Ap):Prop:=
 ∃(it:Ak)(fp:Ac Ak)(tn:Af->AC->Prop)(J:It)(H':Hp),itv=.ref it/\Inv X pI Y H' s2/\Turn X.prog X.w X.K tg J fp it tn/\tn 0 s2.heap/\(∀ b∈fp,GM X pI H' b)/\R J H'
noncomputable def PI(X:Cx)(tg iter:Am)(wi:TI):Prop:=
 ∀(pI:Pn)(s:Ap)(Y:St)(H:Hp)(R:It->Hp->Prop),Inv X pI Y H s->wi Y H R ->
  At (model X.prog X.w) X.A (eval iter X.env) (λv s1=>At (model X.prog X.w) X.A (LO v) (PIE X pI Y tg R) X.xe s1) X.xe s
theorem Qs{A:AW}{E:Vq}{n:CM}{vs:A9 Aj}(ho:s.heap.get? it=Aa o)(hc:o.cls=.type n)(hd:o.data=.fields vs)(hn:["enumerate", "zip", "dict_itemiterator", "dict_reverseitemiterator", "odict_iterator", "itertools.zip_longest", "itertools.pairwise"].contains n=Ad)(hQ:Q () s):At M A (GE tg (.ref it) u) Q E s:=by
  unfold GE;cases tg<;>first
    |exact AH hQ
    | (cases u<;>first
        |exact AH hQ
        | (refine An (wpAny_load ho ?_)
           rw[hc,hd];show At M A (if (["enumerate", "zip", "dict_itemiterator", "dict_reverseitemiterator", "odict_iterator", "itertools.zip_longest", "itertools.pairwise"].contains n&&vs[0]? == Aa (DD _))=Ab then _ else _) Q E s
           rw[AB (by intro h;rw[hn,DE]at h;cases h)]
           exact AH hQ))
noncomputable def Itl(K:Fg)(a:Ak):It:=
 ⟨λi H=>∃ xs x,SqL K H a xs/\xs[i]?=Aa x,λi H x H'=>H'=H/\∀ xs,SqL K H a xs->xs[i]?=Aa x,λi H=>∃ xs,SqL K H a xs/\xs.length<=i⟩
noncomputable def Itt(K:Fg)(a:Ak):It:=
 ⟨λi H=>∃ xs x,SqT K H a xs/\xs[i]?=Aa x,λi H x H'=>H'=H/\∀ xs,SqT K H a xs->xs[i]?=Aa x,λi H=>∃ xs,SqT K H a xs/\xs.length<=i⟩
noncomputable def Itr(lo:Ah)(n:Af):It:=⟨λi _=>i<n,λi H x H'=>H'=H/\x=.int (lo+i),λi _=>n<=i⟩
theorem bB{w:A1}{K:Fg}(a it:Ak):Turn P w K tg (Itl K a) [it] it (λi h=>h.IsListIter it a i) where
  mem:=by simp
  obj:=λi h st b hb=>by
    have e:b=it:=by simpa using hb
    subst e;obtain⟨o,e,c,d⟩:=st;exact⟨o,e,λv z=>by rw[d]at z;cases z⟩
  keep:=λi h h' st k=>st.at λo e=>k it (by simp) o e
  item:=by
    intro X hP hw hK hc i pI s Y H E I hf st hg;subst hP hw hK;obtain⟨xs,x,hq,hx⟩:=hg;obtain⟨its,rv,p,hz⟩:=I.list hq;obtain⟨u,hu,ru⟩:=rv.get hx;obtain⟨f0,f1,f2,f3,f4,f5⟩:=hf it (by simp)
    refine wpAny_pyNext_list_item st p.isList (x:=u) (by simpa using hu) λh' st' sb=>?_
    have I1:Inv X pI Y H {s with heap:=h'}:=I.turned (t':=s.toks) (λb o hb e=>(sb.2 b hb).trans e) f0 f1 f3 f4 f5
    obtain⟨o,e,c,d⟩:=id st';exact⟨u,rfl,Qs (s:={s with heap:=h'}) e c d (by decide) ⟨x,H,I1,ru,⟨rfl,λys hy=>by rw[I.list_inj hy hq];exact hx⟩,st',λb hb=>(hf b hb).1⟩⟩
  done:=by
    intro X hP hw hK hc i pI s Y H E I hf st hg;subst hP hw hK;obtain⟨xs,hq,hx⟩:=hg;obtain⟨its,rv,p,hz⟩:=I.list hq;obtain⟨f0,f1,f2,f3,f4,f5⟩:=hf it (by simp)
    have hl:=rv.length;exact wpAny_pyNext_list_end (I.ok.hd hc) st p.isList (by simp;omega) λh' eb=>⟨rfl,I.turned (t':=s.toks) (λb o hb e=>eb b o hb e) f0 f1 f3 f4 f5⟩
  self:=λ_ _ _ _ _ st h=>wpAny_pyIter_listiter st h
theorem bF{w:A1}{K:Fg}(a it:Ak):Turn P w K tg (Itt K a) [it] it (λi h=>h.IsTupleIter it a i) where
  mem:=by simp
  obj:=λi h st b hb=>by
    have e:b=it:=by simpa using hb
    subst e;obtain⟨o,e,c,d⟩:=st;exact⟨o,e,λv z=>by rw[d]at z;cases z⟩
  keep:=λi h h' st k=>st.at λo e=>k it (by simp) o e
  item:=by
    intro X hP hw hK hc i pI s Y H E I hf st hg;subst hP hw hK;obtain⟨xs,x,hq,hx⟩:=hg;obtain⟨its,rv,p,hz⟩:=I.tuple hq;obtain⟨u,hu,ru⟩:=rv.get hx;obtain⟨f0,f1,f2,f3,f4,f5⟩:=hf it (by simp)
    refine wpAny_pyNext_tuple_item st (show s.heap.IsTuple a its.toArray from p) (x:=u) (by simpa using hu) λh' st' sb=>?_
    have I1:Inv X pI Y H {s with heap:=h'}:=I.turned (t':=s.toks) (λb o hb e=>(sb.2 b hb).trans e) f0 f1 f3 f4 f5
    obtain⟨o,e,c,d⟩:=id st';exact⟨u,rfl,Qs (s:={s with heap:=h'}) e c d (by decide) ⟨x,H,I1,ru,⟨rfl,λys hy=>by rw[I.tuple_inj hy hq];exact hx⟩,st',λb hb=>(hf b hb).1⟩⟩
  done:=by
    intro X hP hw hK hc i pI s Y H E I hf st hg;subst hP hw hK;obtain⟨xs,hq,hx⟩:=hg;obtain⟨its,rv,p,hz⟩:=I.tuple hq;obtain⟨f0,f1,f2,f3,f4,f5⟩:=hf it (by simp)
    have hl:=rv.length;exact wpAny_pyNext_tuple_end (I.ok.hd hc) st (show s.heap.IsTuple a its.toArray from p) (by simp;omega) λh' eb=>⟨rfl,I.turned (t':=s.toks) (λb o hb e=>eb b o hb e) f0 f1 f3 f4 f5⟩
  self:=λ_ _ _ _ _ st h=>wpAny_pyIter_tupleiter st h
theorem bG{w:A1}{K:Fg}(it:Ak)(lo:Ah)(n:Af):Turn P w K tg (Itr lo n) [it] it (λi h=>IsRangeIter h it (lo+(i:Af)*1) ((n:Ah)-(i:Af)) 1) where
  mem:=by simp
  obj:=λi h st b hb=>by
    have e:b=it:=by simpa using hb
    subst e;exact⟨_,st,λv z=>by
      have z':Data.fields _=LH v:=z;cases z'⟩
  keep:=λi h h' st k=>k it (by simp) _ st
  item:=by
    intro X hP hw hK hc i pI s Y H E I hf st hg;subst hP hw hK;obtain⟨f0,f1,f2,f3,f4,f5⟩:=hf it (by simp)
    have W:=Walks.range (prog:=X.prog) (w:=X.w) (I.ok.hd hc) it lo 1 n;refine W.item i s _ _ hg st λv h' tk hv st' kk=>?_
    obtain⟨t,rfl⟩:=hv;have I1:Inv X pI Y H {s with heap:=h',toks:=tk}:=I.turned (λb o hb e=>kk b o (by simpa using hb) e) f0 f1 f3 f4 f5
    refine⟨_,rfl,Qs (s:={s with heap:=h',toks:=tk}) (n := "range_iterator") st' rfl rfl (by decide) ⟨.int (lo+i),H,I1,⟨t,?_⟩,⟨rfl,rfl⟩,st',λb hb=>(hf b hb).1⟩⟩
    rw[WQ]
  done:=by
    intro X hP hw hK hc i pI s Y H E I hf st hg;subst hP hw hK;obtain⟨f0,f1,f2,f3,f4,f5⟩:=hf it (by simp)
    exact wpAny_pyNext_range_end (I.ok.hd hc) st (by have:n<=i:=hg;omega) λh' eb=>⟨rfl,I.turned (t':=s.toks) (λb o hb e=>eb b o hb e) f0 f1 f3 f4 f5⟩
  self:=λ_ _ _ _ _ st h=>wpAny_pyIter_rangeiter st h
section
variable{X:Cx}{tg:Am}
theorem Tu{R:It->Hp->Prop}{E:Vq}{lo hi:Ah}{t u v:CG}{tk:Af}(I:Inv X pI Y H s)(h1:-(2 ^ 62)<=lo)(h2:lo<2 ^ 62)(h3:-(2 ^ 62)<=hi)(h4:hi<2 ^ 62)(q:R (Itr lo (hi-lo).toNat) H):At (model X.prog X.w) X.A (LO (.ref s.heap.objs.size)) (PIE X pI Y tg R) E { s with heap:=s.heap.push { cls:=.type "range",data:=.fields #[.int lo t,.int hi u,.int 1 v] },toks:=tk }:=by
 refine wpAny_pyIter_range (IsRange.new ..) (small_one h1 h2 h3 h4) ?_;have I1:Inv X pI Y H { s with heap:=s.heap.push { cls:=.type "range",data:=.fields #[.int lo t,.int hi u,.int 1 v] },toks:=tk }:=I.kept λb o e=>Ar _ e
 refine⟨(s.heap.push { cls:=.type "range",data:=.fields #[.int lo t,.int hi u,.int 1 v] }).objs.size,[(s.heap.push { cls:=.type "range",data:=.fields #[.int lo t,.int hi u,.int 1 v] }).objs.size],_,_,H,rfl,
  I1.kept (t':=tk) λb o e=>Ar _ e,bG _ lo (hi-lo).toNat,?_,λb hb=>?_,q⟩
 .have e1:lo+((0:Af):Ah)*1=lo:=by simp
  have e2:(((hi-lo).toNat:Af):Ah)-((0:Af):Ah)=Builtin.Range.rangeSize lo hi 1:=by rw[rangeSize_one];split<;>omega
  show IsRangeIter _ _ (lo+((0:Af):Ah)*1) ((((hi-lo).toNat:Af):Ah)-((0:Af):Ah)) 1;rw[e1,e2];exact AN _ rfl
 .have e:b=(s.heap.push { cls:=.type "range",data:=.fields #[.int lo t,.int hi u,.int 1 v] }).objs.size:=by simpa using hb
  subst e;exact I1.fpOk (AK _) (I1.hok.fresh (AK _))
def uZ(ta:TA):TI:=λY H R=>ta Y H λvs H1=>∃ j:Ah,vs=[.int j]/\-(2 ^ 62)<=j/\j<2 ^ 62/\R (Itr 0 j.toNat) H1
def uY(ta:TA):TI:=λY H R=>ta Y H λvs H1=>∃ i j:Ah,vs=[.int i,.int j]/\(-(2 ^ 62)<=i/\i<2 ^ 62/\-(2 ^ 62)<=j/\j<2 ^ 62)/\R (Itr i (j-i).toNat) H1
theorem cZ{a:Am}(hg:Gl X "range")(hm:X.mg "range" = Ae)(ha:PA X [a] ta)(hs:Aq [a] X.env=[(Ad,eval a X.env)]:=by rfl):PI X tg (.Call (.Name "range" p) [a] [] pos) (uZ ta):=by
 intro pI s Y H R I h;refine Call_ (Lo I hg hm boot_range (DN (thn (ha pos pI s Y H _ I h) λus s1 ⟨vs,H1,I1,r1,q1⟩=>?_) hs rfl))
 obtain⟨j,e,q1,q2,q⟩:=q1;subst e;cases r1 with
 |cons r rr=>
  cases rr;obtain⟨t,rfl⟩:=r;exact call_range_1 (Tu I1 (by omega) (by omega) q1 q2 (by simpa using q))
theorem cY{a b:Am}(hg:Gl X "range")(hm:X.mg "range" = Ae)(ha:PA X [a,b] ta)(hs:Aq [a,b] X.env=[(Ad,eval a X.env),(Ad,eval b X.env)]:=by rfl)(hs2:Aq [b] X.env=[(Ad,eval b X.env)]:=by rfl):
  PI X tg (.Call (.Name "range" p) [a,b] [] pos) (uY ta):=by
 intro pI s Y H R I h;refine Call_ (Lo I hg hm boot_range (DN (thn (ha pos pI s Y H _ I h) λus s1 ⟨vs,H1,I1,r1,q1⟩=>?_) (by rw[hs,hs2]) (by rw[hs2];rfl)))
 obtain⟨i,j,e,⟨q1,q2,q3,q4⟩,q⟩:=q1;subst e;cases r1 with
 |cons r rr=>
  cases rr with
  |cons r' rr=>
   cases rr;obtain⟨t,rfl⟩:=r;obtain⟨t',rfl⟩:=r';exact call_range_2 (Tu I1 q1 q2 q3 q4 q)
def ZK(wi:TI)(g:TG)(tb:TS):TS:=λD Y H=>wi Y H λJ H1=>∃ W:Af->Af->St->Hp->Prop,(∃ m,W 0 m Y H1)/\∀ i m Y H,W i m Y H ->
 (J.stop i H/\D.nx Y H)\/(J.go i H/\∃ N:St->Hp->Prop,(∀ Y' H',N Y' H'->∃ m',m'<m/\W (i+1) m' Y' H')/\∀ x H',J.yld i H x H'->g x Y H' λY2 H2=>tb {D with nx:=N,ct:=N,bk:=D.nx} Y2 H2)
noncomputable def Ky(fp:Ac Ak)(h:AC):Pn:=fp.filterMap λb=>(h.get? b).map λo=>(b,o)
theorem LR(hb:b∈fp)(e:h.get? b=Aa o):(b,o)∈Ky fp h:=List.mem_filterMap.mpr ⟨b,hb,by rw[e];rfl⟩
theorem RL{p:Ak×Da}(hp:p∈Ky fp h):p.1∈fp/\h.get? p.1=Aa p.2:=by
 obtain⟨b,hb,e⟩:=Xb.mp hp;cases q:h.get? b with
 |none=>rw[q]at e;cases e
 |some o=>
  rw[q]at e;have e':(b,o)=p:=Be e;subst e';exact⟨hb,q⟩
theorem Inv.pinned(I:Inv X pI Y H s)(hf:∀ b∈fp,GM X pI H b)(ho:∀ b∈fp,∃ o,s.heap.get? b=Aa o/\∀ v,o.data≠.cell v):Inv X (pI++Ky fp s.heap) Y H s:=
 I.pins_of λp hp=>(Dp.mp hp).elim (λz=>I.pin p (Bi _ z)) λz=>by
  obtain⟨hb,e⟩:=RL z;obtain⟨f0,f1,f2,_⟩:=hf p.1 hb;obtain⟨o,e',d⟩:=ho p.1 hb;rw[e]at e';cases e';exact⟨e,f0,f1,f2,d⟩
theorem Inv.unpinned{pl:Pn}(I:Inv X (pI++pl) Y H s):Inv X pI Y H s:=I.pins_of λp hp=>I.pin p (Bi _ (EY _ hp))
theorem P5{iter:Am}{wi:TI}{g:TG}{tb:TS}(hp:DP (model X.prog X.w) X.A X.env X.xe)(hc:X.calm=Ab)(hi:PI X tg iter wi)(hg:PG X tg g)(hb:PSs X body tb)(hs:∀ x,BQ iter X.env x=pure x:=by intro _;rfl):PS X (.For tg iter body [] pos) (ZK wi g tb):=by
 intro pI s Y H D I h;refine wpAny_For (thn (hi pI s Y H _ I h) λv s1 h1=>thn h1 λitv s2 h2=>?_) hs
 obtain⟨it,fp,tn,J,H2,e,I2,T,st2,f2,W,⟨m0,w0⟩,turn⟩:=h2;subst e
 -- what stays Ab of the iterator's objects through the loop
 have stat:∀{H':Hp},(∀ b∈fp,H' b=Ae)->∀ b∈fp,GM X pI H' b:=λhn b hb=>⟨hn b hb,(f2 b hb).2⟩
 refine codeAny_forLoop_any (λn s'=>∃ i Y' H',Inv X pI Y' H' s'/\tn i s'.heap/\(∀ b∈fp,H' b=Ae)/\W i n Y' H') ?_ m0 ⟨0,Y,H2,I2,st2,λb hb=>(f2 b hb).1,w0⟩
 rintro n s3 ⟨i,Y3,H3,I3,st3,fr3,w3⟩;rcases turn i n Y3 H3 w3 with ⟨stop,qn⟩|⟨go,N,hN,step⟩
 .refine Ft hp (thn (T.done X rfl rfl rfl hc i pI s3 Y3 H3 X.xe I3 (stat fr3) st3 stop) λr s4 ⟨hr,I4⟩=>?_)
  subst hr;exact Fs ⟨Y3,H3,I4,qn⟩
 .refine Ft hp (thn (T.item X rfl rfl rfl hc i pI s3 Y3 H3 X.xe I3 (stat fr3) st3 go) λr s4 ⟨u,hr,h4⟩=>?_)
  subst hr;refine Ft hp (thn h4 λ_ s5 ⟨x,H5,I5,r5,y5,st5,fr5⟩=>?_)
  have I5':=I5.pinned (stat fr5) (T.obj _ _ st5);refine Ft hp (thn (hg _ s5 Y3 H5 x u _ I5' r5 (step x H5 y5)) λ_ s6 ⟨Y6,H6,I6,q6⟩=>?_)
  refine Ft hp (thn (hb _ s6 Y6 H6 _ I6 q6) λf s7 q7=>?_)
  have again:∀{Y7:St}{H7:Hp},Inv X (pI++Ky fp s5.heap) Y7 H7 s7->N Y7 H7->∃ m,m<n/\∃ i Y' H',Inv X pI Y' H' s7/\tn i s7.heap/\(∀ b∈fp,H' b=Ae)/\W i m Y' H':=λ{Y7 H7} I7 n7=>by
   obtain⟨m',hm,w7⟩:=hN Y7 H7 n7;refine⟨m',hm,i+1,Y7,H7,I7.unpinned,T.keep _ _ _ st5 λb hb o e=>(I7.pin (b,o) (Bi _ (Bi _ (LR hb e)))).1,λb hb=>?_,w7⟩
   obtain⟨o,e,d⟩:=T.obj _ _ st5 b hb;exact(I7.pin (b,o) (Bi _ (Bi _ (LR hb e)))).2.1
  cases f with
  |next=>obtain⟨Y7,H7,I7,n7⟩:=q7;exact again I7 n7
  |cont=>obtain⟨Y7,H7,I7,n7⟩:=q7;exact again I7 n7
  |brk=>obtain⟨Y7,H7,I7,q7⟩:=q7;exact⟨Y7,H7,I7.unpinned,q7⟩
  |ret v=>obtain⟨x7,Y7,H7,I7,r7,q7⟩:=q7;exact⟨x7,Y7,H7,I7.unpinned,r7,q7⟩
end
abbrev R2:=V->V->Hp->VK->Prop
variable{r:R2}
noncomputable def OpR(X:Cx)(f:Aj->Aj->FW Aj)(r:R2):Prop:=
 ∀(pI:Pn)(s:Ap)(Y:St)(H:Hp)(x y:V)(v u:Aj)(Q:VK),Inv X pI Y H s->Bq x v->Bq y u->r x y H Q ->
  At (model X.prog X.w) X.A (f v u) (EP X pI Y Q) X.xe s
noncomputable def UnR(X:Cx)(f:Aj->FW Aj)(r:V->Hp->VK->Prop):Prop:=
 ∀(pI:Pn)(s:Ap)(Y:St)(H:Hp)(x:V)(v:Aj)(Q:VK),Inv X pI Y H s->Bq x v->r x H Q ->
  At (model X.prog X.w) X.A (f v) (EP X pI Y Q) X.xe s
noncomputable def IC(X:Cx)(f:Aj)(r:Ac V->Hp->VK->Prop):Prop:=
 ∀(pI:Pn)(s:Ap)(Y:St)(H:Hp)(xs:Ac V)(us:Ac Aj)(Q:VK),Inv X pI Y H s->AZ xs us->r xs H Q ->
  At (model X.prog X.w) X.A (call f us) (EP X pI Y Q) X.xe s
noncomputable def Z_8(X:Cx)(r:V->Hp->(Al->Hp->Prop)->Prop):Prop:=
 ∀(pI:Pn)(s:Ap)(Y:St)(H:Hp)(x:V)(v:Aj)(Q:Al->Hp->Prop),Inv X pI Y H s->Bq x v->r x H Q ->
  At (model X.prog X.w) X.A (truthy v) (TP X pI Y Q) X.xe s
def tOp(r:R2)(ta tb:TE):TE:=λY H Q=>ta Y H λx H1=>tb Y H1 λy H2=>r x y H2 Q
def tUn(r:V->Hp->VK->Prop)(ta:TE):TE:=λY H Q=>ta Y H λx H1=>r x H1 Q
def rI(C:Ah->Ah->Prop)(g:Ah->Ah->V):R2:=λx y H Q=>∃ i j,x=.int i/\y=.int j/\C i j/\Q (g i j) H
def rI0(g:Ah->Ah->V):R2:=λx y H Q=>∃ i j,x=.int i/\y=.int j/\Q (g i j) H
def rU(g:Ah->V):V->Hp->VK->Prop:=λx H Q=>∃ i,x=.int i/\Q (g i) H
section
variable{X:Cx}{a b c:Am}{ta tb tc:TE}{pos:AF}
theorem QZ(ha:PE X a ta)(hb:PE X b tb){R:V->V->Hp->Prop}(I:Inv X pI Y H s)(h:ta Y H λx H1=>tb Y H1 λy H2=>R x y H2){Q:Vq}(hf:∀ v u s2 x y H2,Inv X pI Y H2 s2->Bq x v->Bq y u->R x y H2->At (model X.prog X.w) X.A (f v u) Q X.xe s2):At (model X.prog X.w) X.A (eval a X.env) (λv s₁=>At (model X.prog X.w) X.A (eval b X.env) (λu s₂=>At (model X.prog X.w) X.A (f v u) Q X.xe s₂) X.xe s₁) X.xe s:=by
 refine thn (ha pI s Y H _ I h) λv s1 ⟨x,H1,I1,r1,q1⟩=>?_
 refine thn (hb pI s1 Y H1 _ I1 q1) λu s2 ⟨y,H2,I2,r2,q2⟩=>?_
 exact hf v u s2 x y H2 I2 r1 r2 q2
theorem VE{op:Fx}(ho:OpR X (B8 op) r)(ha:PE X a ta)(hb:PE X b tb):PE X (.BinOp a op b pos) (tOp r ta tb):=by
 intro pI s Y H Q I h;exact wpAny_BinOp (QZ ha hb I h λv u s2 x y H2 I2 rx ry q=>ho pI s2 Y H2 x y v u Q I2 rx ry q)
theorem vS{op:Kb}{r:V->Hp->VK->Prop}(ho:UnR X (unaryOp op) r)(ha:PE X a ta):PE X (.UnaryOp op a pos) (tUn r ta):=by
 intro pI s Y H Q I h;exact UnaryOp_ (thn (ha pI s Y H _ I h) λv s1 ⟨x,H1,I1,r1,q1⟩=>ho pI s1 Y H1 x v Q I1 r1 q1)
theorem opI{C:Ah->Ah->Prop}(rule:∀(i j:Ah)(t u:CG)(s:Ap)(Q:Vq)(E:Vq),C i j->Q (.int (g i j) s.toks) {s with toks:=s.toks+1}->At (model X.prog X.w) X.A (f (.int i t) (.int j u)) Q E s):OpR X f (rI C λi j=>.int (g i j)):=by
 intro pI s Y H x y v u Q I rx ry h;obtain⟨i,j,rfl,rfl,hc,q⟩:=h;obtain⟨t,rfl⟩:=rx;obtain⟨t',rfl⟩:=ry;exact rule i j t t' s _ _ hc ⟨.int (g i j),H,I.tok _,⟨_,rfl⟩,q⟩
theorem Wt(rule:∀(i j:Ah)(t u:CG)(s:Ap)(Q:Vq)(E:Vq),Q (.int (g i j) s.toks) {s with toks:=s.toks+1}->At (model X.prog X.w) X.A (f (.int i t) (.int j u)) Q E s):OpR X f (rI0 λi j=>.int (g i j)):=by
 intro pI s Y H x y v u Q I rx ry h;obtain⟨i,j,rfl,rfl,q⟩:=h;obtain⟨t,rfl⟩:=rx;obtain⟨t',rfl⟩:=ry;exact rule i j t t' s _ _ ⟨.int (g i j),H,I.tok _,⟨_,rfl⟩,q⟩
theorem N5{g:Ah->Ah->Al}(rule:∀(i j:Ah)(t u:CG)(s:Ap)(Q:Vq)(E:Vq),Q (.bool (g i j)) s->At (model X.prog X.w) X.A (f (.int i t) (.int j u)) Q E s):OpR X f (rI0 λi j=>.bl (g i j)):=by
 intro pI s Y H x y v u Q I rx ry h;obtain⟨i,j,rfl,rfl,q⟩:=h;obtain⟨t,rfl⟩:=rx;obtain⟨t',rfl⟩:=ry;exact rule i j t t' s _ _ ⟨.bl (g i j),H,I,rfl,q⟩
def aD(i j:Ah):Prop:=0<j/\j<1073741824
def aC(i j:Ah):Prop:=0<=j/\j<=1000000/\i.natAbs<2 ^ 64
def Oh(i j:Ah):Prop:=(-(2 ^ 64)<i/\i<2 ^ 64)\/(-(2 ^ 64)<j/\j<2 ^ 64)
theorem Oh.ok{i j:Ah}(h:Oh i j):LK i j:=by
 rcases h with ⟨h1,h2⟩|⟨h1,h2⟩
 .exact .of_left (intBits_le_64 h1 h2)
 .exact .of_right (intBits_le_64 h1 h2)
theorem qY:OpR X (B8 .Add) (rI0 λi j=>.int (i+j)):=Wt λ_ _ _ _ _ _ _ q=>add_int q
theorem oK:OpR X (B8 .Sub) (rI0 λi j=>.int (i-j)):=Wt λ_ _ _ _ _ _ _ q=>sub_int q
theorem kB:OpR X (B8 .FloorDiv) (rI aD λi j=>.int (i/j)):=opI λi j _ _ _ _ _ hc q=>by
 have h1:(0:Ah)<j:=hc.1;have h2:j<1073741824:=hc.2;exact floordiv_int (by omega) (by rw[Int.fdiv_eq_ediv_of_nonneg i (by omega)];exact q) (.inl (PyProof.noPylong_small (by omega)))
theorem qW:OpR X (B8 .Mod) (rI (λ_ j=>0<j) λi j=>.int (i%j)):=opI λi j _ _ _ _ _ hc q=>by
 have h1:(0:Ah)<j:=hc;exact mod_int' (by omega) (by rw[Int.fmod_eq_emod_of_nonneg i (by omega)];exact q)
theorem oM:OpR X (B8 .Pow) (rI aC λi j=>.int (i ^ j.toNat)):=opI λ_ _ _ _ _ _ _ hc q=>pow_int_small hc.1 hc.2.1 hc.2.2 q
theorem unI{f:Aj->FW Aj}{g:Ah->Ah}(rule:∀(i:Ah)(t:CG)(s:Ap)(Q:Vq)(E:Vq),Q (.int (g i) s.toks) {s with toks:=s.toks+1}->At (model X.prog X.w) X.A (f (.int i t)) Q E s):UnR X f (rU λi=>.int (g i)):=by
 intro pI s Y H x v Q I rx h;obtain⟨i,rfl,q⟩:=h;obtain⟨t,rfl⟩:=rx;exact rule i t s _ _ ⟨.int (g i),H,I.tok _,⟨_,rfl⟩,q⟩
theorem nM:UnR X (unaryOp .USub) (rU λi=>.int (-i)):=unI λ_ _ _ _ _ q=>neg_int q
end
section
variable{X:Cx}{a b c:Am}{ta tb tc:TE}{pos:AF}
theorem Vi{Q:VK}{k k':Al}(I:Inv X pI Y H s)(q:Q (.bl k) H)(e:k=k'):EP X pI Y Q (.bool k') s:=by
 subst e;exact⟨.bl k,H,I,rfl,q⟩
theorem vX:OpR X (CK .Lt) (rI0 λi j=>.bl (decide (i<j))):=N5 λ_ _ _ _ _ _ _ q=>lt_int q
theorem vY:OpR X (CK .LtE) (rI0 λi j=>.bl (decide (i<=j))):=N5 λ_ _ _ _ _ _ _ q=>le_int q
theorem vZ:OpR X (CK .Gt) (rI0 λi j=>.bl (decide (j<i))):=N5 λ_ _ _ _ _ _ _ q=>gt_int q
theorem wA:OpR X (CK .GtE) (rI0 λi j=>.bl (decide (j<=i))):=N5 λ_ _ _ _ _ _ _ q=>ge_int q
theorem qX:OpR X (CK .Is) (λx y H Q=>y=.non/\Q (.bl (decide (x=.non))) H):=by
 intro pI s Y H x y v u Q I rx ry h;obtain⟨rfl,q⟩:=h;cases ry;refine is_none_gen (Vi I q ?_);cases x<;>first
  |(cases rx;rfl)
  |(obtain⟨t,rfl⟩:=rx;rfl)
theorem jZ:OpR X (CK .IsNot) (λx y H Q=>y=.non/\Q (.bl (!decide (x=.non))) H):=by
 intro pI s Y H x y v u Q I rx ry h;obtain⟨rfl,q⟩:=h;cases ry;refine isnot_none_gen (Vi I q ?_);cases x<;>first
  |(cases rx;rfl)
  |(obtain⟨t,rfl⟩:=rx;rfl)
theorem jT(ho:OpR X (CK op) r)(ha:PE X a ta)(hb:PE X b tb)(hm:He op b=Ad):PE X (.Compare a [op] [b] pos) (tOp r ta tb):=by
 intro pI s Y H Q I h;exact wpAny_Compare1 (QZ ha hb I h λv u s2 x y H2 I2 rx ry q=>ho pI s2 Y H2 x y v u Q I2 rx ry q) hm
def VA(t:TE):TT:=λY H Q=>t Y H λx H'=>∃ k,x=.bl k/\Q k H'
theorem jK(ho:OpR X (CK op) r)(ha:PE X a ta)(hb:PE X b tb)(hm:He op b=Ad):PT X (.Compare a [op] [b] pos) (VA (tOp r ta tb)):=by
 intro pI s Y H Q I h;refine wpAny_isTrue_Compare1 (thn (ha pI s Y H _ I h) λv s1 ⟨x,H1,I1,r1,q1⟩=>thn (hb pI s1 Y H1 _ I1 q1) λu s2 ⟨y,H2,I2,r2,q2⟩=>
  thn (ho pI s2 Y H2 x y v u _ I2 r1 r2 q2) λc s3 ⟨z,H3,I3,r3,k,e,q3⟩=>?_) hm
 subst e;cases r3;exact CZ ⟨H3,I3,q3⟩
def nS(r r':R2)(ta tb tc:TE):TE:=λY H Q=>ta Y H λx H1=>tb Y H1 λy H2=>r x y H2 λz H3=>∃ k,z=.bl k /\
 (if k=Ab then tc Y H3 λw' H4=>r' y w' H4 Q else Q (.bl Ad) H3)
theorem dG{op':Dr}{r':R2}(ho:OpR X (CK op) r)(ho':OpR X (CK op') r')(ha:PE X a ta)(hb:PE X b tb)(hc:PE X c tc)(hm:lastMarks [op,op'] [b,c]=Ad:=by with_unfolding_all rfl):PT X (.Compare a [op,op'] [b,c] pos) (VA (nS r r' ta tb tc)):=by
 intro pI s Y H Q I h;refine isTrue_chain (thn (ha pI s Y H _ I h) λv s1 ⟨x,H1,I1,r1,q1⟩=>test_link (thn (hb pI s1 Y H1 _ I1 q1) λu s2 ⟨y,H2,I2,r2,q2⟩=>
  thn (ho pI s2 Y H2 x y v u _ I2 r1 r2 q2) λd s3 ⟨z,H3,I3,r3,k,e,q3⟩=>?_)) hm
 subst e;cases r3;refine CZ ?_;cases k with
 |false=>
  obtain⟨k',e',q'⟩:=q3;cases e';exact ite_ff ⟨H3,I3,q'⟩
 |true=>
  refine ite_tt (test_last (thn (hc pI s3 Y H3 _ I3 q3) λw' s4 ⟨z',H4,I4,r4,q4⟩=>thn (ho' pI s4 Y H4 y z' u w' _ I4 r2 r4 q4) λd' s5 ⟨z2,H5,I5,r5,k2,e2,q5⟩=>?_))
  subst e2;cases r5;exact CZ ⟨H5,I5,q5⟩
noncomputable def Q9(K:Fg)(x:V)(H:Hp)(k:Al):Prop:=
  match x with
  |.non=>k=Ad
  |.bl b=>k=b
  |.int i=>k=(i != 0)
  |.str y=>y.length<=sizeLine/\k=((y.length:Ah) != 0)
  |.byt y=>y.size<=sizeLine/\k=((y.size:Ah) != 0)
  |.ref p=>(∃ xs,SqL K H p xs/\k=!xs.isEmpty)\/(∃ xs,SqT K H p xs/\k=!xs.isEmpty)\/∃ kvs,H p=Aa (.dK kvs)/\k=!kvs.isEmpty
  |_=>AX
theorem bP{κ:Type}{kvs:Ac (κ×V)}{vs:Ac (κ×Aj)}(r:KV kvs vs):(!vs.isEmpty)=!kvs.isEmpty:=by
 cases r<;>rfl
theorem RA{its:Ac Aj}(r:AZ xs its):(!its.toArray.isEmpty)=!xs.isEmpty:=by
 cases r<;>simp
theorem Ln:(sizeLine:Af)<2 ^ 63:=by rw[Bs];decide
theorem nO:Z_8 X (λx H Q=>∃ k,Q9 X.K x H k/\Q k H):=by
 intro pI s Y H x v Q I rx h;obtain⟨k,e,q⟩:=h;have hl:=Ln;have hs:sizeLine=16777216:=Bs;cases x with
 |non=>
  cases rx;have e':k=Ad:=e;subst e';exact truthy_none ⟨H,I,q⟩
 |bl b=>
  cases rx;have e':k=b:=e;subst e';exact CZ ⟨H,I,q⟩
 |int i=>
  obtain⟨t,rfl⟩:=rx;have e':k=(i != 0):=e;subst e';exact PySem.P.truthy_int ⟨H,I,q⟩
 |str y=>
  obtain⟨t,rfl⟩:=rx;obtain⟨hy,e'⟩:y.length<=sizeLine/\k=((y.length:Ah) != 0):=e;subst e';exact PySem.P.truthy_str (by omega) ⟨H,I.tok _,q⟩
 |byt y=>
  obtain⟨t,rfl⟩:=rx;obtain⟨hy,e'⟩:y.size<=sizeLine/\k=((y.size:Ah) != 0):=e;subst e';exact PySem.W.truthy_bytes (by omega) ⟨H,I.tok _,q⟩
 |ref p=>
  cases rx;have e':(∃ xs,SqL X.K H p xs/\k=!xs.isEmpty)\/(∃ xs,SqT X.K H p xs/\k=!xs.isEmpty)\/∃ kvs,H p=Aa (.dK kvs)/\k=!kvs.isEmpty:=e;rcases e' with ⟨xs,hx,e'⟩|⟨xs,hx,e'⟩|⟨kvs,hx,e'⟩
  .subst e';obtain⟨its,r,pl,hz⟩:=I.list hx;have hlen:=r.length;exact wpAny_truthy_list pl.isList (by simp only[AG];omega) ⟨H,I.tok _,by rw[RA r];exact q⟩
  .subst e';obtain⟨its,r,pl,hz⟩:=I.tuple hx;have hlen:=r.length;exact truthy_tuple pl (by simp only[AG];omega) ⟨H,I.tok _,by rw[RA r];exact q⟩
  .subst e';obtain⟨hz,hS,vs,r,m⟩:kvs.length<=sizeLine/\(p==KZ)=Ad/\∃ vs,KV kvs vs/\s.heap.DictOf (PL X.prog X.w) p vs:=I.hok p _ hx;have hlen:kvs.length=vs.length:=YJ r;exact wpAny_truthy_dict hS m (by omega) ⟨H,I.tok _,by rw[bP r];exact q⟩
 |_=>exact(show AX from e).elim
theorem dF(ha:PE X a ta)(he:∀ whole,IJ a X.env whole=(do let v <-whole;standAt a.pos;holding [v] (truthy v))):PT X a (λY H Q=>ta Y H λx H'=>∃ k,Q9 X.K x H' k/\Q k H'):=by
 intro pI s Y H Q I h;exact isTrue_plain (thn (ha pI s Y H _ I h) λv s1 ⟨x,H1,I1,r1,q1⟩=>nO pI s1 Y H1 x v Q I1 r1 q1) (he _)
theorem bN:OpR X (B8 .Add) (λx y H Q=>∃ i j,x=.str i/\y=.str j/\i.length+j.length<=sizeLine/\Q (.str (i++j)) H):=by
 intro pI s Y H x y v u Q I rx ry h;obtain⟨i,j,rfl,rfl,hz,q⟩:=h;obtain⟨t,rfl⟩:=rx;obtain⟨t',rfl⟩:=ry;exact add_str (λt' tk=>⟨.str (i++j),H,I.tok _,⟨_,rfl⟩,q⟩) hz
theorem HS{x:V}(r:AZ [x] us):∃ u,us=[u]/\Bq x u:=by
 cases r with
 |cons r1 r2=>cases r2;exact⟨_,rfl,r1⟩
theorem Lr{x:V}(r:AZ [x,y] us):∃ u w',us=[u,w']/\Bq x u/\Bq y w':=by
 cases r with
 |cons r1 r2=>
  cases r2 with
  |cons r3 r4=>cases r4;exact⟨_,_,rfl,r1,r3⟩
theorem Su:IC X (.type "int") (λxs H Q=>(∃ i,xs=[.int i]/\Q (.int i) H)\/∃ k,xs=[.bl k]/\Q (.int (if k then 1 else 0)) H):=by
 intro pI s Y H xs us Q I r h;rcases h with ⟨i,rfl,q⟩|⟨k,rfl,q⟩
 .obtain⟨u,rfl,t,rfl⟩:=HS r;exact call_int_int ⟨.int i,H,I,⟨_,rfl⟩,q⟩
 .obtain⟨u,rfl,r1⟩:=HS r;cases r1;exact call_int_bool ⟨.int (if k then 1 else 0),H,I.tok _,⟨_,rfl⟩,q⟩
theorem aP:IC X (.type "str") (λxs H Q=>∃ i,xs=[.int i]/\i.natAbs.log2<1920/\Q (.str (toString i)) H):=by
 intro pI s Y H xs us Q I r h;obtain⟨i,rfl,hz,q⟩:=h;obtain⟨u,rfl,t,rfl⟩:=HS r;exact PySem.P.str_of_int hz ⟨.str _,H,I.tok _,⟨_,rfl⟩,q⟩
end
structure ObjM (h:AC) (x dx C:Ak) (mA:Ag->Ao Aj):Prop where
 obj:h.get? x=Aa (Ds C dx)
 ns:h.Ns1 dx mA
 ne:dx≠x
theorem cK(n:h.Ns1 dx mA):∃ od,h.get? dx=Aa od/\∀ name,GX name od=Aa (mA name):=by
 obtain⟨o,es,ep,ho,hd,hk,_,hm⟩:=n;refine⟨o,ho,λname=>?_⟩
 have e:=hm name;unfold nsFind findBy at e;rw[<-WH]at e;unfold GX;rw[hd];dsimp only;split
 .rename_i y q;rw[q]at e;exact congrArg Aa e
 .rename_i q;rw[q]at e;have a:es.toList.any (·.refKey)=Ad:=by
   rw[List.any_eq_false];intro y hy;obtain⟨z,t,hkey⟩:=hk y (Array.mem_toList_iff.mp hy);simp[DictEntry.refKey,hkey]
  have a':¬ es.toList.any (·.refKey)=Ab:=by rw[a];exact Au
  rw[AB a'];exact congrArg Aa e
theorem ObjM.look{x:Ak}(I:ObjM h x dx C mA):∃ od,PySem.W.InstAt h x (Ds C dx) C (Aa od)/\∀ name,GX name od=Aa (mA name):=
 let ⟨od,ho,hl⟩:=cK I.ns
 ⟨od,⟨I.obj,rfl,rfl,ho⟩,hl⟩
section
variable{prog:AO}{w:A1}{A:AW}{E:Vq}{s:Ap}{K:Fg}{x dx C f:Ak}{mA:Ag->Ao Aj}{name:Ag}{v:Aj}
theorem lI{expr:Al}{Q:Vq}(X:K.In s.heap)(I:ObjM s.heap x dx C mA)(hg:Gc K C name=Ab)(hh:Hq K C=Ab)(ha:Av K (.ref C) name=Aa Ae)(hv:mA name=Aa v)(hv':Y_5 v=Ab)(h:Q v {s with toks:=s.toks+1}):At (model prog w) A (Kc (.ref x) name expr) Q E s:=by
 obtain⟨od,J,hl⟩:=I.look;exact PySem.W.get_value X J (GR hg).1 (PySem.W.findObj_own hh ha rfl (by rw[hl,hv])) hv' h
theorem fP{Q:Aj×Ac Aj->Ap->Prop}(X:K.In s.heap)(I:ObjM s.heap x dx C mA)(hg:Gc K C name=Ab)(hf:Av K (.ref C) name=Aa (Aa (.ref f)))(ht:GD K (.ref f)=Ab)(hv:mA name=Ae)(h:Q (.ref f,[.ref x]) s):At (model prog w) A (getMethod (.ref x) name pl) Q E s:=by
 obtain⟨od,J,hl⟩:=I.look;exact PySem.W.method_fn X J (GR hg).1 (GR hg).2 hf (AD.mp ht) (by show (GX name od).map (·.isSome)=Aa Ad;rw[hl,hv];rfl) h
theorem kG{ns:Ac Ag}(X:K.In s.heap)(I:ObjM s.heap x dx C mA)(hs:Av K (.ref C) "__setattr__" = Aa (Aa (.builtin "object.__setattr__")))(hp:Ze K C=Ab)(ht:Ih K C name=Aa Ae)(hh:Hq K C=Ab)(hw:JJ mA ns)(hsz:ns.length<=sizeLine)(h:∀ h',ObjM h' x dx C (λy=>if y=name then Aa v else mA y)->EQ dx s.heap h'->Q () {s with heap:=h',toks:=s.toks+2}):At (model prog w) A (K6 (.ref x) name v) Q E s:=by
  obtain⟨od,J,hl⟩:=I.look;refine PySem.W.set_plain X J hs (PySem.W.osa_open (s:={s with toks:=s.toks+1}) (r:=Ae) X J hp ht λb=>?_)
  obtain⟨cd,hc,hd'⟩:=PySem.W.any_some hh;have hx:s.heap.get? x=Aa ⟨.ref C,Aa dx,.plain,#[]⟩:=I.obj;refine An (AH (An (An (Zr hx (An (PySem.W.Looks.here (s:={s with toks:=s.toks+1}) (PySem.W.looks_clsIn X hc) ?_))))))
  rw[hd'];refine AH (a:=Aa dx) (An (AH (An ?_)));refine wpAny_nsSet1 (s:={s with toks:=s.toks+1}) I.ns λh' hn2 hs2=>?_
  obtain⟨oD,esD,epD,hoD,hdD,hcD⟩:=hn2.count (PySem.Within.cons name v hw);refine An (Zs hoD (by rw[hdD];exact Zk (BF hcD (by rw[AI];omega))) ?_)
  exact AH (h _ ⟨(hs2.2 _ (B4 I.ne)).trans I.obj,hn2,I.ne⟩ hs2)
theorem S0{R:HK->Ap->Prop}{vs:Ac Aj}(X:K.In s.heap)(hm:Zc K C=Ab)(hi:Av K (.ref C) "__init__" = Aa (Aa (.ref f)))(hf:Dh K (.ref f)=Aa (.type "function"))(h:ES (model prog w) (A.under (.builtin "type.__call__" ⟨.ref C::vs,kw⟩)) (.call (.ref f) ⟨.ref (s.heap.objs.size+1)::vs,kw⟩) (PySem.W.InitBack (s.heap.objs.size+1) R)
      {s with heap:=(s.heap.push CC).push (Ds C s.heap.objs.size)}):ES (model prog w) A (.call (.ref C) ⟨vs,kw⟩) R s:=by
  obtain⟨hh,g,d,t,os⟩:=s;exact PySem.W.make_core (PySem.W.makes_of X hm) (Cc X hi) (λself=>PySem.W.bind_fn X self hf) (.inl rfl) h
end
noncomputable def Fj(f:Ag)(v:V):Ac (Ag×V)->Ac (Ag×V)
 |[]=>[(f,v)]
 |(g,x)::r=>if g=f then (g,v)::r else (g,x)::Fj f v r
theorem Rh(f g:Ag)(v:V):∀ fs:Ac (Ag×V),(Fj f v fs).lookup g=if g=f then Aa v else fs.lookup g
 |[]=>by
  show B6 g [(f,v)]=_;by_cases h:g=f
  .have hb:(g==f)=Ab:=AD.mpr h;simp only[B6,hb,As h]
  .have hb:(g==f)=Ad:=C5.mpr h;simp only[B6,hb,AB h]
 |(k,x)::r=>by
  have ih:=Rh f g v r;rw[show Fj f v ((k,x)::r)=(if k=f then (k,v)::r else (k,x)::Fj f v r) from rfl]
  by_cases hk:k=f
  .rw[As hk];by_cases h:g=k
   .have hb:(g==k)=Ab:=AD.mpr h;simp only[B6,hb,As (h.trans hk)]
   .have hb:(g==k)=Ad:=C5.mpr h;simp only[B6,hb,AB (λe:g=f=>h (e.trans hk.symm))]
  .rw[AB hk];by_cases h:g=k
   .have hb:(g==k)=Ab:=AD.mpr h;simp only[B6,hb,AB (λe:g=f=>hk (h.symm.trans e))]
   .have hb:(g==k)=Ad:=C5.mpr h;simp only[B6,hb];exact ih
theorem OD(f:Ag)(v:V):∀ fs:Ac (Ag×V),f∈(Fj f v fs).map (·.1)/\∀ g,g∈fs.map (·.1)->g∈(Fj f v fs).map (·.1)
 |[]=>⟨by simp[Fj],λg h=>by simp at h⟩
 |(k,x)::r=>by
  obtain⟨i1,i2⟩:=OD f v r;rw[show Fj f v ((k,x)::r)=(if k=f then (k,v)::r else (k,x)::Fj f v r) from rfl]
  by_cases hk:k=f
  .rw[As hk];subst hk;exact⟨by simp,λg h=>by simpa using h⟩
  .rw[AB hk];refine⟨?_,λg h=>?_⟩
   .rw[Bz];exact Aw _ i1
   .rw[Bz]at h ⊢;rcases AA.mp h with e|e
    .exact List.mem_cons.mpr (.inl e)
    .exact Aw _ (i2 g e)
theorem Ri(f:Ag)(v:V):∀ fs:Ac (Ag×V),(Fj f v fs).length<=fs.length+1
 |[]=>by simp[Fj]
 |(k,x)::r=>by
  have ih:=Ri f v r;rw[show Fj f v ((k,x)::r)=(if k=f then (k,v)::r else (k,x)::Fj f v r) from rfl]
  by_cases hk:k=f
  .rw[As hk,AI,AI];omega
  .rw[AB hk,AI,AI];omega
theorem HZ.some_of{o:Ao Aj}(r:HZ (Aa v) o):∃ u,o=Aa u/\Bq v u:=by
 cases o with
 |none=>exact(show AX from r).elim
 |some u=>exact⟨u,rfl,r⟩
theorem HZ.none_of{o:Ao Aj}(r:HZ Ae o):o=Ae:=by
 cases o with
 |none=>rfl
 |some u=>exact(show AX from r).elim
theorem Sf(r:Bq v u):Y_5 u=Ab:=by
 cases v with
 |non=>cases (show u=Bh from r);rfl
 |bl b=>cases (show u=IP b from r);rfl
 |int i=>obtain⟨t,e⟩:=(show ∃ t,u=Gr i t from r);cases e;rfl
 |str x=>obtain⟨t,e⟩:=(show ∃ t,u=JI x t from r);cases e;rfl
 |byt b=>obtain⟨t,e⟩:=(show ∃ t,u=YZ b t from r);cases e;rfl
 |flt b=>obtain⟨t,e⟩:=(show ∃ t,u=Kg b t from r);cases e;rfl
 |ref a=>cases (show u=Bc a from r);rfl
 |ty n=>cases (show u=E2 n from r);rfl
section
variable{P:AO}{w:A1}{H H':Hp}{h h':AC}{a C dx:Ak}{fs fs':Ac (Ag×V)}
theorem Nl(hok:HOk P w H h)(e:H a=Aa (.ins C dx fs)):∃ mA,ObjM h a dx C mA/\(∀ f,HZ (fs.lookup f) (mA f))/\JJ mA (fs.map (·.1))/\fs.length<=1000/\H dx=Aa (.own a):=by
 obtain⟨d,z,ne,ob,mA,n,r,q⟩:=(show ObjOk P w H h a (.ins C dx fs) from hok a _ e)
 exact⟨mA,⟨ob,n,ne⟩,r,q,z,d⟩
end
structure Cls (K:Fg) (C:Ak):Prop where
 pg:Gc K C Dx=Ab
 hd:Hq K C=Ab
 po:Ze K C=Ab
 sa:Av K (.ref C) "__setattr__" = Aa (Aa (.builtin "object.__setattr__"))
theorem Cls.get{K:Fg}(c:Cls K C)(f:Ag):Gc K C f=Ab:=c.pg
def Hi(K:Fg)(C:Ak)(f:Ag):Prop:=Av K (.ref C) f=Aa Ae
theorem Hi.taker{K:Fg}{f:Ag}(n:Hi K C f):Ih K C f=Aa Ae:=by
 unfold Ih;rw[show Av K (.ref C) f=Aa Ae from n]
 rfl
structure Meth (K:Fg) (C:Ak) (m:Ag) (f:Ak):Prop where
 at_:Av K (.ref C) m=Aa (Aa (.ref f))
 fn:GD K (.ref f)=Ab
 kp:Bm K (.ref f)=Ab
section
variable{X:Cx}{pI:Pn}{Y:St}{H:Hp}{s:Ap}{a C dx:Ak}{fs:Ac (Ag×V)}{f:Ag}{v:V}{A:AW}{E:Vq}
theorem bQ{b:Al}{Q:Vq}(I:Inv X pI Y H s)(e:H a=Aa (.ins C dx fs))(c:Cls X.K C)(n:Hi X.K C f)(l:fs.lookup f=Aa v)(h:∀ u s',Inv X pI Y H s'->Bq v u->Q u s'):At (model X.prog X.w) A (Kc (.ref a) f b) Q E s:=by
 obtain⟨mA,O,r,_,_,_⟩:=Nl I.hok e;obtain⟨u,hu,ru⟩:=HZ.some_of (v:=v) (o:=mA f) (by rw[<-l];exact r f)
 exact lI I.kIn O (c.get f) c.hd n hu (Sf ru) (h u _ (I.tok _) ru)
theorem RB{m:Ag}{g:Ak}{Q:Aj×Ac Aj->Ap->Prop}(I:Inv X pI Y H s)(e:H a=Aa (.ins C dx fs))(c:Cls X.K C)(k:Meth X.K C m g)(l:fs.lookup m=Ae)(h:Q (.ref g,[.ref a]) s):At (model X.prog X.w) A (getMethod (.ref a) m pl) Q E s:=by
 obtain⟨mA,O,r,_,_,_⟩:=Nl I.hok e;have hn:mA m=Ae:=HZ.none_of (by rw[<-l];exact r m)
 exact fP I.kIn O (c.get m) k.at_ k.fn hn h
theorem bK(I:Inv X pI Y H s)(e:H a=Aa (.ins C dx fs))(c:Cls X.K C)(n:Hi X.K C f)(hl:fs.length<1000)(ry:Bq y u)(h:∀ s',Inv X pI Y (upd H a (.ins C dx (Fj f y fs))) s'->Q () s'):At (model X.prog X.w) A (K6 (.ref a) f u) Q E s:=by
 obtain⟨mA,O,r,wi,_,ho⟩:=Nl I.hok e;have hz:(fs.map (·.1)).length<=sizeLine:=by rw[AU,Bs];omega
 refine kG I.kIn O c.sa c.po n.taker c.hd wi hz λh' O' sb=>h _ ?_
 have hd:∃ o,h'.get? dx=Aa o:=let ⟨o,_,_,e',_⟩:=O'.ns;⟨o,e'⟩
 refine I.write (x:=a) (e:=dx) (by rw[e];exact FN) (.inr ho) (λb q hb z=>(sb.2 b hb).trans z) hd ?_
 refine⟨by rw[Bb O.ne];exact ho,?_,O.ne,O'.obj,_,O'.ns,λg=>?_,λg hg=>?_⟩
 .have:=Ri f y fs;omega
 .show HZ ((Fj f y fs).lookup g) (if g=f then Aa u else mA g)
  rw[Rh];by_cases q:g=f
  .rw[As q,As q];exact ry
  .rw[AB q,AB q];exact r g
 .by_cases q:g=f
  .rw[q];exact(OD f y fs).1
  .refine(OD f y fs).2 g (wi g λz=>hg ?_)
   show (if g=f then Aa u else mA g)=Ae
   rw[AB q];exact z
theorem Inv.made(I:Inv X pI Y H s):Inv X pI Y (upd (upd H s.heap.objs.size (.own (s.heap.objs.size+1))) (s.heap.objs.size+1) (.ins C s.heap.objs.size [])) {s with heap:=(s.heap.push CC).push (Ds C s.heap.objs.size)}:=by
  have e1:(s.heap.push CC).get? s.heap.objs.size=Aa CC:=AN s.heap rfl;have e2:((s.heap.push CC).push (Ds C s.heap.objs.size)).get? (s.heap.objs.size+1)=Aa (Ds C s.heap.objs.size):=by
    have:=AN (s.heap.push CC) (o:=Ds C s.heap.objs.size) rfl
    rwa [Ct]at this
  have e3:(s.heap.push CC).Ns s.heap.objs.size (λ_=>Ae):=⟨CC,#[],_,e1,rfl,(λe he=>absurd he (by simp)),λ_=>rfl⟩
  have I1:=I.laid (a:=s.heap.objs.size) (o:=.own (s.heap.objs.size+1)) (h':=s.heap.push CC) (t':=s.toks) (λb u q=>Ar _ q) (AK _) ⟨_,e1⟩
  refine I1.laid (a:=s.heap.objs.size+1) (o:=.ins C s.heap.objs.size []) (t':=s.toks) (λb u q=>Ar _ q) (Xk (Ct _ _)) ?_
  have ne:s.heap.objs.size≠s.heap.objs.size+1:=A5 (EZ _);refine⟨by rw[Bb ne,Db],Cv _,ne,e2,λ_=>Ae,(YE e3).at λo q=>Ar _ q,λ_=>FN,λy hy=>absurd rfl hy⟩
theorem Uv{prog:AO}{w:A1}{env:Cj}{f:Ag}{Q:Vq}(hb:BO e f env (eval e env)=eval e env)(h:At (model prog w) A (eval e env) (λo s₁=>At (model prog w) A (Kc o f Ab) Q E s₁) E s):At (model prog w) A (eval (.Attribute e f pos) env) Q E s:=
 Attribute_any_ h (by rw[arm_eval_Attribute,hb])
end
def ZS(K:Fg)(ta tv:TE)(f:Ag):TS:=λD Y H=>tv Y H λy H1=>ta Y H1 λx H2=>∃ a C dx fs,x=.ref a/\H2 a=Aa (.ins C dx fs)/\Cls K C/\Hi K C f/\fs.length<1000 /\
 D.nx Y (upd H2 a (.ins C dx (Fj f y fs)))
section
variable{X:Cx}{o e value:Am}{f:Ag}{pos pos' tpos:AF}{ta tv:TE}
theorem UQ(ha:PE X o ta)(hv:PE X value tv)(hs:Cn value (Aa (.Attribute o f pos')) pos.line X.env=pure Ad):PS X (.Assign [.Attribute o f pos'] value pos) (ZS X.K ta tv f):=by
 intro pI s Y H D I h;refine Zl (thn (hv pI s Y H _ I h) λu s1 ⟨y,H1,I1,ry,q⟩=>thn (ha pI s1 Y H1 _ I1 q) λov s2 ⟨x,H2,I2,rx,a,C,dx,fs,ex,ea,c,n,l,q2⟩=>?_) hs
 subst ex;obtain rfl:ov=Bc a:=rx;exact bK I2 ea c n l ry λs3 I3=>⟨Y,_,I3,q2⟩
end
section
variable{X:Cx}{pI:Pn}{Y:St}{H:Hp}{s:Ap}{A:AW}{E:Vq}{Q:Vq}{c:Aj}{b:Al}
inductive TyOf (K:Fg) (H:Hp):V->Aj->Prop where
  |non:TyOf K H .non (.type "NoneType")
  |bl (x:Al):TyOf K H (.bl x) (.type "bool")
  |int (i:Ah):TyOf K H (.int i) (.type "int")
  |str (x:Ag):TyOf K H (.str x) (.type "str")
  |flt (x:UInt64):TyOf K H (.flt x) (.type "float")
  |lst {a:Ak} {xs:Ac V} (e:H a=Aa (.lst xs)):TyOf K H (.ref a) (.type "list")
  |frz {a:Ak} {o:Da} {xs:Ac V} (e:H a=Aa (.frz o (.lst xs))):TyOf K H (.ref a) (.type "list")
  |tup {a:Ak} {xs:Ac V} (e:H a=Aa (.tup xs)):TyOf K H (.ref a) (.type "tuple")
  |dK {a:Ak} {kvs:Ac (Key×V)} (e:H a=Aa (.dK kvs)):TyOf K H (.ref a) (.type "dict")
  |dT {a:Ak} {kvs:Ac (Ac Key×V)} (e:H a=Aa (.dT kvs)):TyOf K H (.ref a) (.type "dict")
  |ins {a C dx:Ak} {fs:Ac (Ag×V)} (e:H a=Aa (.ins C dx fs)) (cl:Cls K C) (ha:Av K (.ref C) "__class__" = Aa (Aa (.builtin "object.__class__")))
      (hn:Co K (.builtin "object.__class__") "__get__" = Aa (Aa (.builtin "getset_descriptor.__get__"))) (htk:Zg K (.builtin "object.__class__")=Aa Ab)
      (hm:Cp K C (.type "object")=Aa Ab):TyOf K H (.ref a) (.ref C)
theorem cL{x:V}{t:Aj}(I:Inv X pI Y H s)(rx:Bq x u)(ty:TyOf X.K H x t)(e:B9 X.K t c=Aa b)(h:∀ tk,Q (.bool b) {s with toks:=tk}):
  At (model X.prog X.w) A (call (.builtin "isinstance") [u,c]) Q E s:=by
 cases ty with
 |non=>cases (show u=Bh from rx);exact Cb PySem.W.kitx_none I.kIn FN e (λz=>nomatch z) h
 |bl y=>cases (show u=IP y from rx);exact Cb PySem.W.kitx_bool I.kIn FN e (λz=>nomatch z) h
 |int i=>obtain⟨t,q⟩:=(show ∃ t,u=Gr i t from rx);cases q;exact Cb PySem.W.kitx_int I.kIn FN e (λz=>nomatch z) h
 |str y=>obtain⟨t,q⟩:=(show ∃ t,u=JI y t from rx);cases q;exact Cb PySem.W.kitx_str I.kIn FN e (λz=>nomatch z) h
 |flt y=>obtain⟨t,q⟩:=(show ∃ t,u=Kg y t from rx);cases q;exact Cb PySem.W.kitx_float I.kIn FN e (λz=>nomatch z) h
 | @lst a xs ea=>
  cases (show u=Bc a from rx)
  obtain⟨_,_,n,_,h1⟩:=(show ObjOk X.prog X.w H s.heap a (.lst xs) from I.hok a _ ea)
  exact Cb Za I.kIn ⟨_,h1,rfl⟩ e (λz=>nomatch z) h
 | @frz a ob xs ea=>
  cases (show u=Bc a from rx)
  obtain⟨_,_,_,n,_,h1⟩:=(show ObjOk X.prog X.w H s.heap a (.frz ob (.lst xs)) from I.hok a _ ea)
  exact Cb Za I.kIn ⟨_,h1,rfl⟩ e (λz=>nomatch z) h
 | @tup a xs ea=>
  cases (show u=Bc a from rx)
  obtain⟨_,_,_,p⟩:=(show ObjOk X.prog X.w H s.heap a (.tup xs) from I.hok a _ ea)
  obtain⟨o,h1,h2,_⟩:=p;exact Cb PySem.W.kitx_tuple I.kIn ⟨o,h1,h2⟩ e (λz=>nomatch z) h
 | @dK a kvs ea=>
  cases (show u=Bc a from rx)
  obtain⟨_,_,vs,_,p⟩:=(show ObjOk X.prog X.w H s.heap a (.dK kvs) from I.hok a _ ea)
  obtain⟨o,es,ep,h1,h2,_⟩:=p;exact Cb Y_9 I.kIn ⟨o,h1,h2.1⟩ e (λz=>nomatch z) h
 | @dT a kvs ea=>
  cases (show u=Bc a from rx)
  obtain⟨_,_,xs,_,o,es,ep,h1,h2,_⟩:=(show ObjOk X.prog X.w H s.heap a (.dT kvs) from I.hok a _ ea)
  exact Cb Y_9 I.kIn ⟨o,h1,h2.1⟩ e (λz=>nomatch z) h
 | @ins a C dx fs ea cl ha hn htk hm=>
  cases (show u=Bc a from rx)
  obtain⟨mA,O,_⟩:=Nl I.hok ea;obtain⟨od,J,_⟩:=O.look;exact Cb (PySem.W.kitx_own (cl.get _) cl.hd ha hn htk hm) I.kIn J e (λz=>nomatch z) h
end
structure Room (k:Af) (A:AW):Prop where
 hd:A.handled=Ae
 dp:A.depth+3*k+5<IM
 un:A.units+16*k+200<BJ
 gd:A.guards=Aa []
theorem Room.mono{j:Af}{A:AW}(r:Room k A)(h:j<=k):Room j A:=⟨r.hd,by have:=r.dp;omega,by have:=r.un;omega,r.gd⟩
theorem Room.deeper{A:AW}(r:Room (k+1) A)(env:Cj):Room k (A.deeper env):=
 ⟨r.hd,by have:=r.dp;show A.depth+1+3*k+5<_;omega,by have:=r.un;show A.units+3+16*k+200<_;omega,r.gd⟩
theorem OJ{A:AW}:(A.under (.builtin "type.__call__" ⟨.ref C::us,kw⟩)).depth=A.depth+1:=by
 first|rfl|simp[JD,Code.weight,Code.isCreation,Code.isGuard,Code.isCaller,XQ,JE,guardIds]
theorem OI{A:AW}:(A.under (.builtin "type.__call__" ⟨.ref C::us,kw⟩)).units=A.units+1:=by
 first|rfl|simp[JD,Code.cUnits,XQ,JE]
theorem Room.make{A:AW}(r:Room (k+1) A)(C:Ak)(us:Ac Aj)(kw:Ac (Ag×Aj)):Room k (A.under (.builtin "type.__call__" ⟨.ref C::us,kw⟩)):=
 ⟨r.hd,by have:=r.dp;rw[OJ];omega,by have:=r.un;rw[OI];omega,r.gd⟩
theorem Room.depth{A:AW}(r:Room k A):A.depth<IM:=by have:=r.dp;omega
theorem Room.units{A:AW}(r:Room k A):A.units+64<BJ:=by have:=r.un;omega
def ZH:TA:=λ_ H Q=>Q [] H
def sV(ta:TE)(tr:TA):TA:=λY H Q=>ta Y H λx H1=>tr Y H1 λxs H2=>Q (x::xs) H2
section
variable{X:Cx}{e:Am}{es:Ac Am}{te:TE}{t:TA}{pos:AF}
theorem ET:PA X [] ZH:=λ_ _ _ _ H Q I h=>Calls.spliced_nil ⟨[],H,I,.nil,h⟩
theorem DJ(ha:PE X e te)(hr:PA X es t)(hs:Aq (e::es) X.env=(Ad,eval e X.env)::Aq es X.env:=by rfl):PA X (e::es) (sV te t):=by
 intro pos pI s Y H Q I h;rw[hs];show At _ _ (spliced ((Ad,eval e X.env)::Bo pos (Aq es X.env))) _ _ s;refine Calls.spliced_cons (thn (ha pI s Y H _ I h) λu s1 ⟨x,H1,I1,r1,q1⟩=>?_)
 exact thn (hr pos pI s1 Y H1 _ I1 q1) λus s2 ⟨xs,H2,I2,r2,q2⟩=>⟨x::xs,H2,I2,.cons r1 r2,q2⟩
def ZW(t:TA):TE:=λY H Q=>t Y H λxs H1=>xs.length<=sizeLine/\∀ p,H1 p=Ae->Q (.ref p) (upd H1 p (.tup xs))
def ZI(t:TA):TE:=λY H Q=>t Y H λxs H1=>xs.length<=sizeLine/\∀ p,H1 p=Ae->Q (.ref p) (upd H1 p (.lst xs))
theorem UT{x1}(h:PA X es t):PE X (.Tuple es x1 pos) (ZW t):=by
 intro pI s Y H Q I hq;refine wpAny_Tuple_spliced (thn (h pos pI s Y H _ I hq) λus s1 ⟨xs,H1,I1,r,z,q⟩=>⟨by rw[<-r.length];exact z,?_⟩)
 have hf:H1 s1.heap.objs.size=Ae:=I1.hok.fresh (AK _);refine⟨.ref s1.heap.objs.size,upd H1 s1.heap.objs.size (.tup xs),I1.laid (t':=s1.toks) (λb u e=>Ar _ e) (AK _) ?_,rfl,q _ hf⟩
 exact⟨z,us,r,⟨_,AN _ rfl,rfl,_,rfl⟩⟩
theorem UU(h:PA X es t):PE X (.List es pos) (ZI t):=by
 intro pI s Y H Q I hq;refine wpAny_List_spliced (thn (h pos pI s Y H _ I hq) λus s1 ⟨xs,H1,I1,r,z,q⟩=>⟨by rw[<-r.length];exact z,?_⟩)
 have hf:H1 s1.heap.objs.size=Ae:=I1.hok.fresh (AK _);refine⟨.ref s1.heap.objs.size,upd H1 s1.heap.objs.size (.lst xs),I1.laid (t':=s1.toks) (λb u e=>Ar _ e) (AK _) ?_,rfl,q _ hf⟩
 exact⟨z,us,0,r,AN _ rfl⟩
end
abbrev Sp:=Ac V->Hp->VK->XK->Prop
variable{sp:Sp}
abbrev CXT:=Ac Cj->Hp->Ap->XK->Aj->Ap->Prop
variable{CX:CXT}
structure Env0 (P:AO) (w:A1) (K:Fg) (mg:Ag->Ao Aj) (base:AC) (A:AW) (outer:Ac Cj) (s:Ap) (H:Hp):Prop where
 frames:A.frames=Aa outer
 mod:Mod K mg base
 bs:∀ b o,base.get? b=Aa o->s.heap.get? b=Aa o/\H b=Ae
 bsz:base.objs.size<=s.heap.objs.size
 funs:s.heap.FunFrames base outer
 frf:∀ b∈frs outer,H b=Ae
 hok:HOk P w H s.heap
 bare:FK s.gens
noncomputable def CE(outer:Ac Cj)(P:AO)(w:A1)(H:Hp)(s:Ap)(Q:VK)(u:Aj)(s':Ap):Prop:=
 ∃ v H',s'.os=s.os/\FK s'.gens/\Un (frs outer) [] H H' s.heap s'.heap/\HOk P w H' s'.heap/\Bq v u/\Q v H'
noncomputable def CR(CX:CXT)(outer:Ac Cj)(P:AO)(w:A1)(H:Hp)(s:Ap)(Q:VK)(E:XK)(r:HK)(s':Ap):Prop:=
  match r with
  |.ok (.ret u)=>CE outer P w H s Q u s'
  |.ok _=>AX
  |.error e=>CX outer H s E e s'
structure FnOk (P:AO) (w:A1) (K:Fg) (mg:Ag->Ao Aj) (base:AC) (CX:CXT) (k:Af) (f:Ak) (fd:Bx) (ps:Ac Ag) (sp:Sp):Prop where
 len:∀ vs H Q E,sp vs H Q E->vs.length=ps.length
 run:∀(A:AW)(outer:Ac Cj)(s:Ap)(H:Hp)(args:Args)(us:Ac Aj)(vs:Ac V)(Q:VK)(E:XK),Room k A->Env0 P w K mg base A outer s H->Gq s fd args (ps.zip us)->AZ vs us->sp vs H Q E ->
  ES (model P w) A (.call (.ref f) args) (CR CX outer P w H s Q E) s
theorem FnOk.imp{w:A1}{K:Fg}{mg:Ag->Ao Aj}{base:AC}{f:Ak}{sp':Sp}(F:FnOk P w K mg base CX k f fd ps sp)(h:∀ vs H Q E,sp' vs H Q E->sp vs H Q E):FnOk P w K mg base CX k f fd ps sp':=
 ⟨λvs H Q E q=>F.len vs H Q E (h _ _ _ _ q),λA outer s H args us vs Q E hr he hb hv hs=>F.run A outer s H args us vs Q E hr he hb hv (h _ _ _ _ hs)⟩
theorem Env0.make{w:A1}{K:Fg}{mg:Ag->Ao Aj}{base:AC}{A:AW}{outer:Ac Cj}(e:Env0 P w K mg base A outer s H)(C:Ak)(us:Ac Aj)(kw:Ac (Ag×Aj)):
    Env0 P w K mg base (A.under (.builtin "type.__call__" ⟨.ref C::us,kw⟩)) outer s H:=⟨by first|exact e.frames|(simpa [JD,Code.envs,JE,pushEnvs] using e.frames),e.mod,e.bs,e.bsz,e.funs,e.frf,e.hok,e.bare⟩
section
variable{X:Cx}{pI:Pn}{Y:St}{H:Hp}{s s':Ap}
theorem Inv.env0(I:Inv X pI Y H s):Env0 X.prog X.w X.K X.mg X.base X.A X.stack s H:=
 ⟨I.ok.frames,I.ok.mod,I.bs,BF I.ok.bsz I.sz,I.stack,I.stkFree,I.hok,I.bare⟩
theorem Inv.after{Q:VK}(I:Inv X pI Y H s)(h:CE X.stack X.prog X.w H s Q u s'):EP X pI Y Q u s':=by
 obtain⟨v,H',os,bare,un,hok,r,q⟩:=h;obtain⟨hh,g,d,t,os'⟩:=s';obtain rfl:os'=s.os:=os;exact⟨v,H',I.call (h':=hh) (g':=g) (d':=d) (t':=t) (ch:=[]) un hok bare (λb z=>absurd z (by simp)),r,q⟩
end
def sW(sp:Sp)(dvs:Ac V)(E:XK)(t:TA):TE:=λY H Q=>t Y H λvs H1=>sp (vs++dvs) H1 Q E
noncomputable def DS(K:Fg)(fd:Bx)(ps:Ac Ag)(ds:Ac Aj):Prop:=
 ∀(s:Ap)(us:Ac Aj),K.In s.heap->(us++ds).length=ps.length->Gq s fd ⟨us,[]⟩ (ps.zip (us++ds))
theorem DS.all{K:Fg}(h:∀ us:Ac Aj,us.length=ps.length->IQ fd ⟨us,[]⟩=pure (ps.zip us)):DS K fd ps []:=λs us _ hl=>by
 rw[Bg]at hl ⊢;exact .of_eq (h us hl)
def IA(CX:CXT)(X:Cx)(E:XK):Prop:=∀(pI:Pn)(Y:St)(H:Hp)(s:Ap)(e:Aj)(s':Ap),Inv X pI Y H s->CX X.stack H s E e s'->X.xe e s'
section
variable{X:Cx}{CX:CXT}{k:Af}{f C:Ak}{fd:Bx}{ps:Ac Ag}{sp:Sp}{dvs:Ac V}{ds:Ac Aj}{E:XK}{x m:Ag}{p pos apos:AF}{e o:Am}{es:Ac Am}{ta:TE}{t:TA}
theorem UM{Q:VK}(F:FnOk X.prog X.w X.K X.mg X.base CX k f fd ps sp)(hr:Room k X.A)(hb:DS X.K fd ps ds)(hd:AZ dvs ds)(hx:IA CX X E)(I:Inv X pI Y H s)(r:AZ vs us)(h:sp (vs++dvs) H Q E):At (model X.prog X.w) X.A (call (.ref f) us) (EP X pI Y Q) X.xe s:=by
 have r2:AZ (vs++dvs) (us++ds):=r.append hd;have hl:(us++ds).length=ps.length:=by rw[<-r2.length];exact F.len _ _ _ _ h
 refine Ez (DQ (F.run X.A X.stack s H ⟨us,[]⟩ (us++ds) (vs++dvs) Q E hr I.env0 (hb s us I.kIn hl) r2 h) λr s' hq=>?_)
 cases r with
 |error e=>exact hx pI Y H s e s' I hq
 |ok fl=>
  cases fl with
  |ret u=>exact I.after hq
  |next=>exact AY hq
  |brk=>exact AY hq
  |cont=>exact AY hq
theorem Uj(F:FnOk X.prog X.w X.K X.mg X.base CX k f fd ps sp)(hr:Room k X.A)(hg:Gl X x)(hm:X.mg x=Aa (.ref f))(hk:Bm X.K (.ref f)=Ab)(hb:DS X.K fd ps ds)(hd:AZ dvs ds)(hx:IA CX X E)(ha:PA X (e::es) t)(hdb:(x==("__debug__" : Ag))=Ad:=by decide)(he:Aq (e::es) X.env=(Ad,eval e X.env)::Aq es X.env:=by rfl)(hpl:(Bo pos (Aq es X.env)).any (·.1)=Ad:=by rfl):PE X (.Call (.Name x p) (e::es) [] pos) (sW sp dvs E t):=by
 intro pI s Y H Q I h;refine Cy (Hh I hg hm ?_ hdb);refine CI (h₀:=X.base) I.ok.mod.kin hk (thn (ha pos pI s Y H _ I h) λus s1 ⟨vs,H1,I1,r,q⟩=>⟨I1.kIn,?_⟩) he hpl
 exact UM F hr hb hd hx I1 r q
structure Mk (K:Fg) (C f:Ak):Prop where
 makes:Zc K C=Ab
 init:Av K (.ref C) "__init__" = Aa (Aa (.ref f))
 fn:GD K (.ref f)=Ab
 kp:Bm K (.ref C)=Ab
theorem Tr{Q:VK}(M:Mk X.K C f)(F:FnOk X.prog X.w X.K X.mg X.base CX k f fd ps sp)(hr:Room (k+1) X.A)(hb:DS X.K fd ps ds)(hd:AZ dvs ds)(hx:IA CX X E)(I:Inv X pI Y H s)(r:AZ vs us)(h:∀ x dx,H x=Ae->H dx=Ae->dx≠x->sp (.ref x::(vs++dvs)) (upd (upd H dx (.own x)) x (.ins C dx [])) (λv H2=>v=.non/\Q (.ref x) H2) E):At (model X.prog X.w) X.A (call (.ref C) us) (EP X pI Y Q) X.xe s:=by
 have hq:=h (s.heap.objs.size+1) s.heap.objs.size (I.hok.fresh (F4 _)) (I.hok.fresh (AK _)) (A5 (EZ _));have I2:=Inv.made (C:=C) I;have r2:AZ (V.ref (s.heap.objs.size+1)::(vs++dvs)) (Bc (s.heap.objs.size+1)::(us++ds)):=.cons rfl (r.append hd);have hl:(Bc (s.heap.objs.size+1)::us++ds).length=ps.length:=by
  have e:=r2.length;rw[F.len _ _ _ _ hq]at e;exact e.symm
 refine Ez (S0 (f:=f) I.kIn M.makes M.init (AD.mp M.fn) (DQ (F.run _ X.stack _ _ ⟨Bc (s.heap.objs.size+1)::us,[]⟩ (Bc (s.heap.objs.size+1)::(us++ds)) _ _ E (hr.make C us [])
  (I2.env0.make C us []) (hb _ (Bc (s.heap.objs.size+1)::us) I2.kIn hl) r2 hq) λr s' hq'=>?_))
 cases r with
 |error e=>exact hx pI Y _ _ e s' I2 hq'
 |ok fl=>
  cases fl with
  |ret u=>
   obtain⟨v,H',I3,rv,ev,q3⟩:=I2.after hq';subst ev;exact⟨rv,⟨V.ref (s.heap.objs.size+1),H',I3,rfl,q3⟩⟩
  |next=>exact AY hq'
  |brk=>exact AY hq'
  |cont=>exact AY hq'
end
section
variable{X:Cx}{CX:CXT}{k:Af}{f C:Ak}{fd:Bx}{ps ks:Ac Ag}{sp:Sp}{E:XK}{x m:Ag}{p pos apos kpos:AF}{e o:Am}{es:Ac Am}{kws:Ac C4}{te ta:TE}{t tk:TA}{nm:Ao Ag}
variable{g:Ac Aj->Ac Aj->Ac Aj}{gV:Ac V->Ac V->Ac V}
end
structure FnScope (N P:Ac Ag) (sc:BP):Prop where
 kind:sc.kind=.function
 co:sc.isCoroutine=Ad
 gen:sc.isGenerator=Ad
 nd:N.Nodup
 pre:N.take P.length=P
 par:∀ x∈P,sc.names.lookup x=Aa .local\/sc.names.lookup x=Aa .cell
 nofree:∀ y∈sc.names,y.2≠.free
theorem Sv{kindOf:Ag->Ao Eg}{x:Ag}:∀{binds:Ac (Ag×Aj)}{m:Ag->Ao Aj},(∀ v,(x,v)∉binds)->IS kindOf binds m x=m x
 |[],_,_=>rfl
 |(n,v)::r,m,h=>by
  unfold IS;rw[Sv λw hw=>h w (Aw _ hw)]
  split
  .have:x≠n:=by rintro rfl;exact h v AJ
   simp[this]
  .rfl
theorem Sy{kindOf:Ag->Ao Eg}{x:Ag}:∀{binds:Ac (Ag×Aj)}{m:Ag->Ao Aj},(∀ v,(x,v)∉binds)->IR kindOf binds m x=m x
 |[],_,_=>rfl
 |(n,v)::r,m,h=>by
  unfold IR;rw[Sy λw hw=>h w (Aw _ hw)]
  split
  .rfl
  .have:x≠n:=by rintro rfl;exact h v AJ
   simp[this]
theorem Sw{kindOf:Ag->Ao Eg}{x:Ag}{v:Aj}:∀{P:Ac Ag}{vs:Ac Aj}{i:Af}{m:Ag->Ao Aj},P.Nodup->P[i]?=Aa x->vs[i]?=Aa v->kindOf x=Aa .local->IS kindOf (P.zip vs) m x=Aa v
 |[],_,_,_,_,h,_,_=>by simp at h
 |_::_,[],_,_,_,_,h,_=>by simp at h
 |p::P,w::vs,0,m,nd,h1,h2,hk=>by
  simp at h1 h2;subst h1;subst h2;show IS kindOf ((p,w)::P.zip vs) m p=_;unfold IS;rw[Sv λv hv=>(Eu.mp nd).1 (Ic hv).1,As hk]
  simp
 |p::P,w::vs,i+1,m,nd,h1,h2,hk=>by
  show IS kindOf ((p,w)::P.zip vs) m x=_;unfold IS;exact Sw (i:=i) (Eu.mp nd).2 (by simpa using h1) (by simpa using h2) hk
theorem Sz{kindOf:Ag->Ao Eg}{x:Ag}{v:Aj}:∀{P:Ac Ag}{vs:Ac Aj}{i:Af}{m:Ag->Ao Aj},P.Nodup->P[i]?=Aa x->vs[i]?=Aa v->kindOf x≠Aa .local->IR kindOf (P.zip vs) m x=Aa v
 |[],_,_,_,_,h,_,_=>by simp at h
 |_::_,[],_,_,_,_,h,_=>by simp at h
 |p::P,w::vs,0,m,nd,h1,h2,hk=>by
  simp at h1 h2;subst h1;subst h2;show IR kindOf ((p,w)::P.zip vs) m p=_;unfold IR;rw[Sy λv hv=>(Eu.mp nd).1 (Ic hv).1,AB hk]
  simp
 |p::P,w::vs,i+1,m,nd,h1,h2,hk=>by
  show IR kindOf ((p,w)::P.zip vs) m x=_;unfold IR;exact Sz (i:=i) (Eu.mp nd).2 (by simpa using h1) (by simpa using h2) hk
noncomputable def start(N:Ac Ag)(vs:Ac V):St:=vs.map Aa++GW (N.length-vs.length) Ae
noncomputable def Fk(CX:CXT)(P:AO)(w:A1)(K:Fg)(mg:Ag->Ao Aj)(base:AC)(N:Ac Ag)(qual:Ag)(scope:BP)(f:Ak)(cd:Aj)(A:AW)(outer:Ac Cj)(s:Ap)(H:Hp)(E:XK):Cx where
 prog:=P
 w:=w
 K:=K
 mg:=mg
 base:=base
 A:=A.deeper (Ev qual scope s.heap.objs.size f cd)
 N:=N
 s₀:=s
 H₀:=H
 env:=Ev qual scope s.heap.objs.size f cd
 outer:=outer
 stack:=Ev qual scope s.heap.objs.size f cd::outer
 ex:=[]
 calm:=Ab
 fn:=λ_=>Ab
 pn:=[]
 xe:=λe s'=>At (model P w) (A.deeper (Ev qual scope s.heap.objs.size f cd)) (leaving (Ev qual scope s.heap.objs.size f cd) e) (λ_ s''=>CX outer H s E e s'') (λe' s''=>CX outer H s E e' s'') s'
theorem SH{sc:BP}(h:sc.names.lookup x=Aa .cell):∃ c,(C3 n sc.names []).lookup x=Aa c:=by
 have q:=Y_3 sc.names n [] (.inl h);exact B1.mp q
theorem RS{w:A1}{K:Fg}{mg:Ag->Ao Aj}{base:AC}{N ps:Ac Ag}{f:Ak}{cd:Aj}{A:AW}{outer:Ac Cj}{s1:Ap}{E:XK}(S:FnScope N ps scope)(hd:A.handled=Ae)(e0:Env0 P w K mg base A outer s H)(hl:vs.length=ps.length)(r:AZ vs us)(x:InCallC s s.heap.objs.size (IS (Ev qual scope s.heap.objs.size f cd).kindOf (ps.zip us) λ_=>Ae) (C3 (s.heap.objs.size+1) scope.names []) (IR (Ev qual scope s.heap.objs.size f cd).kindOf (ps.zip us) λ_=>Ae) s1):Inv (Fk CX P w K mg base N qual scope f cd A outer s H E) [] (start N vs) H s1:=by
 have hpl:ps.length<=N.length:=by have:=congrArg List.length S.pre;rw[F9]at this;omega
 obtain⟨h1,tk,rfl,hk⟩:=x.done;have noA:∀ b:Ak,b∉(Fk CX P w K mg base N qual scope f cd A outer s H E).ex:=λb z=>absurd (show b∈([]:Ac Ak) from z) (by simp)
 refine⟨⟨e0.mod,S.kind,rfl,rfl,AK _,λy z c h1 h2=>?_,λy hy=>?_,λy c _ h=>?_,λ_=>hd,Around.frames_deeper e0.frames,.inr ⟨rfl,rfl⟩,λb z=>absurd z (noA b),e0.bs,e0.bsz,λb _ _=>noA b,λb z=>absurd z (noA b),e0.funs,e0.frf⟩,
  rfl,e0.bare,Un.kept hk,⟨_,x.toInCall.ns,λi y v h1 h2 h3=>?_⟩,λy c h=>⟨_,x.cell y c h⟩,e0.hok.fresh (AK _),λy c h=>?_,λp hp=>absurd (show p∈([]:Pn) from hp) (by simp),e0.hok.kept hk,?_⟩
 .exact name_of_addr x.apart (CD h1) (CD h2)
 .have hy:scope.names.lookup y=Aa .cell\/scope.names.lookup y=Aa .free:=hy;rcases hy with hy|hy
  .exact SH hy
  .exact absurd rfl (S.nofree _ (CD hy))
 .exact Gz (x.above y c (CD h))
 .have hi:i<vs.length:=by
   unfold start at h2;by_cases hi:i<vs.length
   .exact hi
   .rw[WZ (by simpa using hi)]at h2
    rw[W6]at h2;split at h2<;>cases h2
  have ha:vs[i]?=Aa v:=by
   unfold start at h2;rw[Fm (by simpa using hi),Du]at h2
   cases e:vs[i]? with
   |none=>rw[e]at h2;cases h2
   |some a=>rw[e]at h2;cases h2;rfl
  obtain⟨u,hu,rv⟩:=r.get ha;have hp:ps[i]?=Aa y:=by
   rw[<-S.pre,List.getElem?_take_of_lt (by omega)];exact h1
  have ndP:ps.Nodup:=by rw[<-S.pre];exact S.nd.sublist (List.take_sublist _ _)
  refine⟨u,rv,?_⟩;rcases S.par y (Gx hp) with k|k
  .exact .inl ⟨k,Sw ndP hp hu k⟩
  .obtain⟨c,e⟩:=SH (n:=s.heap.objs.size+1) k;refine .inr ⟨.inl k,c,e,?_⟩;have q:=x.cell y c e;rw[Sz ndP hp hu (by show scope.names.lookup y≠_;rw[k];decide)]at q
   exact q
 .exact e0.hok.fresh (Gz (x.above y c (CD h)))
 .unfold start;show _=N.length;rw[Bj,AU,W8];omega
theorem Qt{w:A1}{K:Fg}{mg:Ag->Ao Aj}{base:AC}{f:Ak}{name:Ag}{params:Arguments}{dV kV doc pm cdv ct oc:Aj}{an od:Ao Ak}{osl:A9 (Ao Aj)}{N ps:Ac Ag}(lk:K.lookup f=Aa ⟨oc,od,.func (C6 name qual params body scope dV kV doc pm an cdv ct),osl⟩)(hcd:FL K cdv qual=Ab)(S:FnScope N ps scope)(len:∀ vs H Q E,sp vs H Q E->vs.length=ps.length)(hbody:∀(A:AW)(outer:Ac Cj)(s:Ap)(H:Hp)(vs:Ac V)(Q:VK)(E:XK),Room k (A.deeper (Ev qual scope s.heap.objs.size f cdv))->sp vs H Q E ->
   ∃ t,PSs (Fk CX P w K mg base N qual scope f cdv A outer s H E) body t/\t {nx:=λ_ H'=>Q .non H',rt:=Q} (start N vs) H):FnOk P w K mg base CX (k+1) f (C6 name qual params body scope dV kV doc pm an cdv ct) ps sp:=by
 refine⟨len,λA outer s H args us vs Q E hr e0 hb r hsp=>?_⟩
 have hl:=len _ _ _ _ hsp;have KX:K.In s.heap:=e0.mod.kin.keeps λb o e=>(e0.bs b o e).1
 have lim:s.heap.NoLimit:=e0.mod.nolimit.keeps λb o e=>(e0.bs b o e).1
 have hkind:∀ y∈ps.zip us,scope.names.lookup y.1=Aa .local\/(scope.names.lookup y.1=Aa .cell/\((C3 (s.heap.objs.size+1) scope.names []).lookup y.1).isSome=Ab):=λ⟨n,v⟩ hy=>by
  rcases S.par n (Ic hy).1 with q|q
  .exact .inl q
  .exact .inr ⟨q,Y_3 _ _ _ (.inl q)⟩
 refine Zh hr.depth (KX _ _ lk) rfl S.co S.gen rfl (Y_4 KX hcd) (hb _ _ _ _ ?_);refine Zt S.kind hkind λenv he s1 x=>?_
 subst he;refine⟨lim.keeps x.toInCall.keep,codeAny_func ?_⟩;obtain⟨t,ht,hq⟩:=hbody A outer s H vs Q E (hr.deeper _) hsp;have I:Inv (Fk CX P w K mg base N qual scope f cdv A outer s H E) [] (start N vs) H s1:=RS S hr.hd e0 hl r x;refine A3 (ht [] s1 (start N vs) H _ I hq) (λfl s' hs=>?_) λe s' hs=>hs
 have fin:∀{Y':St}{H':Hp}{v:V}{u:Aj},Inv (Fk CX P w K mg base N qual scope f cdv A outer s H E) [] Y' H' s'->Bq v u->Q v H'->CE outer P w H s Q u s':=
  λ{Y' H' v u} J rv q=>⟨v,H',J.os,J.bare,J.base,J.hok,rv,q⟩
 cases fl with
 |ret u=>
  obtain⟨v,Y',H',J,rv,q⟩:=hs;exact fin J rv q
 |next=>
  obtain⟨Y',H',J,q⟩:=hs;exact fin (v:=V.non) (u:=Bh) J rfl q
 |brk=>
  obtain⟨_,_,_,q⟩:=hs;exact AY q
 |cont=>
  obtain⟨_,_,_,q⟩:=hs;exact AY q
section
variable{X:Cx}{x:Ag}{p pos:AF}{e:Am}{es:Ac Am}{t:TA}{id T:CM}{r:Ac V->Hp->VK->Prop}
def tCB(r:Ac V->Hp->VK->Prop)(t:TA):TE:=λY H Q=>t Y H λvs H1=>r vs H1 Q
theorem Kq(hc:IC X (.builtin id) r)(hg:Gl X x)(hm:X.mg x=Ae)(hv:CJ x=Aa (.builtin id))(ha:PA X (e::es) t)(hn:x≠"__name__" := by decide)(hdb:(x==("__debug__" : Ag))=Ad:=by decide)(he:Aq (e::es) X.env=(Ad,eval e X.env)::Aq es X.env:=by rfl)(hpl:(Bo pos (Aq es X.env)).any (·.1)=Ad:=by rfl):PE X (.Call (.Name x p) (e::es) [] pos) (tCB r t):=by
 intro pI s Y H Q I h;refine Cy (Lo I hg hm hv ?_ hn hdb);exact PyProof.Rows.callWith_builtin1 (thn (ha pos pI s Y H _ I h) λus s1 ⟨vs,H1,I1,r1,q1⟩=>hc pI s1 Y H1 vs us Q I1 r1 q1) he hpl
theorem R9(hc:IC X (.type T) r)(hg:Gl X x)(hm:X.mg x=Ae)(hv:CJ x=Aa (.type T))(ha:PA X (e::es) t)(hn:x≠"__name__" := by decide)(hdb:(x==("__debug__" : Ag))=Ad:=by decide)(he:Aq (e::es) X.env=(Ad,eval e X.env)::Aq es X.env:=by rfl)(hpl:(Bo pos (Aq es X.env)).any (·.1)=Ad:=by rfl):PE X (.Call (.Name x p) (e::es) [] pos) (tCB r t):=by
 intro pI s Y H Q I h;refine Cy (Lo I hg hm hv ?_ hn hdb);exact DN (thn (ha pos pI s Y H _ I h) λus s1 ⟨vs,H1,I1,r1,q1⟩=>hc pI s1 Y H1 vs us Q I1 r1 q1) he hpl
end
end L2
namespace HT
open PySem PyProof.Rows
variable{sl:Ak}
section
open PySem.SeqAt
open PySem.AutoSeq1 (wpAny_loadPart')
open PySem.MeetsSeq PySem.MeetsSeq2 PySem.MeetsSeq3
end
section
variable{prog:AO}{w:A1}{A:AW}{E:Vq}{s:Ap}
theorem cat_tup{t b:Ak}{vs ws:Ac Aj}{Q:Vq}(ht:KP s.heap t vs.toArray)(hb:KP s.heap b ws.toArray)(hv:vs≠[])(h1:ws=[]->Q (.ref t) s)(h2:ws≠[]->Q (.ref s.heap.objs.size) { s with heap:=s.heap.push { cls:=.type "tuple",data:=.seq (vs++ws).toArray } })(hsz:vs.length+ws.length<=sizeLine):At (model prog w) A (B8 .Add (.ref t) (.ref b)) Q E s:=by
 obtain⟨⟨cls,dd,data,sl⟩,ho,hc,n,hd⟩:=id ht;obtain⟨⟨cls2,dd2,data2,sl2⟩,ho2,hc2,n2,hd2⟩:=id hb;simp only at hc hd hc2 hd2;subst hc hd hc2 hd2;have e:vs.toArray++ws.toArray=(vs++ws).toArray:=by simp
 by_cases hw:ws=[]
 .exact JL ⟨_,ho,rfl⟩ ⟨_,ho2,rfl⟩ Zj seq_tuple_add YA Yu (Yp _ _)
   (tuple_addW1 t b vs.toArray ws.toArray n n2 dd dd2 sl sl2 (by simpa using hv) (by simp[hw])) ⟨ho,ho2,h1 hw⟩
 .refine JL ⟨_,ho,rfl⟩ ⟨_,ho2,rfl⟩ Zj seq_tuple_add YA Yu (Yp _ _)
   (tuple_addW2 t b vs.toArray ws.toArray n n2 dd dd2 sl sl2 (by simpa using hv) (by simpa using hw) (by rw[AG,AG];exact hsz)) ⟨ho,ho2,?_⟩
  rw[e];exact h2 hw
noncomputable def sIx(n d:Af):Ao Ah->Af
 |none=>d
 |some v=>if v<0 then (v+(n:Ah)).toNat else min v.toNat n
theorem oP(n d:Af)(hd:d<=n)(o:Ao Ah):sIx n d o<=n:=by
 cases o with
 |none=>exact hd
 |some v=>
  show (if v<0 then (v+(n:Ah)).toNat else min v.toNat n)<=n
  by_cases hv:v<0
  .rw[As hv];omega
  .rw[AB hv];exact Nat.min_le_right _ _
theorem Us(v:Ah)(n d:Af):(if v<0 then max (v+(n:Ah)) 0 else min v (n:Ah))=((sIx n d (Aa v):Af):Ah):=by
 show (if v<0 then max (v+(n:Ah)) 0 else min v (n:Ah))=(((if v<0 then (v+(n:Ah)).toNat else min v.toNat n):Af):Ah)
 by_cases hv:v<0
 .simp only[As hv];omega
 .simp only[AB hv];omega
theorem aW(lo hi:Ao Ah)(n:Af):Fo lo hi 1 (n:Ah)=(((sIx n 0 lo:Af):Ah),((sIx n n hi:Af):Ah)):=by
 have h1:¬ ((1:Ah)<0):=by omega
 unfold Fo;simp only[h1,KO];refine Prod.ext ?_ ?_
 .cases lo with
  |none=>rfl
  |some v=>exact Us v n 0
 .cases hi with
  |none=>rfl
  |some v=>exact Us v n n
theorem bM(i j:Af):D8 (i:Ah) (j:Ah) 1=j-i:=by
 unfold D8;have h1:(1:Ah)>0:=by omega
 simp only[h1,EW,Int.ediv_one];split<;>omega
theorem Rw{v:Aj}{o:Ao Ah}{Q:Ao Ah->Ap->Prop}(p:Hc v o)(h:Q o s):At (model prog w) A (Builtin.Slice.slicePartIndex v) Q E s:=by
 cases p with
 |none=>exact Xy h
 |int i t=>exact slicePart_int h
theorem aF{vl vu:Aj}{lo hi:Ao Ah}{n:Af}{Q:Ah×Ah×Af->Ap->Prop}(hs:s.heap.IsSliceOf sl vl vu .none)(pl:Hc vl lo)(pu:Hc vu hi)(h:Q (((sIx n 0 lo:Af):Ah),1,sIx n n hi-sIx n 0 lo) s):At (model prog w) A (XH (.ref sl) (pure (n:Ah))) Q E s:=by
 obtain⟨os,hos,hcs,hds⟩:=id hs;unfold XH Builtin.Slice.sliceFields;refine An (An (Bt hos hds (x:=vl) rfl (An (Bt hos hds (x:=vu) rfl (An (Bt hos hds (x:=.none) rfl (AH ?_)))))));refine An (Xy ?_);show At _ _ (if ((1:Ah)==0)=Ab then _ else _) _ _ s
 rw[AB (by decide)]
 refine An (Rw pl (An (Rw pu (An (AH ?_)))));show At _ _ (match Fo lo hi 1 (n:Ah) with|(lo,hi)=>pure (lo,(1:Ah),D8 lo hi 1)) _ _ s
 rw[aW lo hi n];show At _ _ (pure (((sIx n 0 lo:Af):Ah),(1:Ah),D8 ((sIx n 0 lo:Af):Ah) ((sIx n n hi:Af):Ah) 1)) _ _ s;rw[bM];exact AH h
theorem dI(xs:A9 Aj)(i k:Af):((Ba k).filterMap fun(m:Af)=>xs[((i:Ah)+(m:Ah)*1).toNat]?).toArray=((xs.toList.drop i).take k).toArray:=by
 have e:(fun(m:Af)=>xs[((i:Ah)+(m:Ah)*1).toNat]?)=λm=>xs[i+m]?:=by
  funext m
  have:((i:Ah)+(m:Ah)*1).toNat=i+m:=by omega
  rw[this]
 rw[e];have:=pick_run xs i k;rw[List.filterMap_map]at this;have e2:((λx=>xs[x]?) ∘ λx=>i+x)=λm=>xs[i+m]?:=rfl
 rw[e2]at this;rw[this]
theorem getItem_tuple_cut{t:Ak}{items:A9 Aj}{vl vu:Aj}{lo hi:Ao Ah}{Q:Vq}(ht:KP s.heap t items)(hs:s.heap.IsSliceOf sl vl vu .none)(pl:Hc vl lo)(pu:Hc vu hi)(hw:¬ (sIx items.size 0 lo=0/\sIx items.size items.size hi=items.size))(h:Q (.ref s.heap.objs.size) { s with heap:=s.heap.push { cls:=.type "tuple",data:=.seq ((items.toList.drop (sIx items.size 0 lo)).take (sIx items.size items.size hi-sIx items.size 0 lo)).toArray } })(hsz:items.size<=sizeLine):At (model prog w) A (Kd (.ref t) (.ref sl)) Q E s:=by
 have htake:sizeOk (.seq ((items.toList.drop (sIx items.size 0 lo)).take (sIx items.size items.size hi-sIx items.size 0 lo)).toArray):=by
  show ((items.toList.drop (sIx items.size 0 lo)).take (sIx items.size items.size hi-sIx items.size 0 lo)).toArray.size<=sizeLine;rw[AG,F9,HE,Cm];omega
 have hj:sIx items.size items.size hi<=items.size:=oP _ _ (AK _) hi;obtain⟨os,hos,hcs,hds⟩:=id hs;have hTs:s.TypeIs (.ref sl) "slice" := ⟨os,hos,hcs⟩;unfold Kd
 try with_reducible refine Dz ?_
 first|refine An (AH ?_)|skip
 refine An (wpAny_sequenceKey ht.typeIs (by decide) ?_)
 refine An (DC (name:=AT "__getitem__") ht.typeIs Xz
  (Eh Xz ht.typeIs entry_tuple_getitem ?_ (args_tuple_getitem _ _)))
 show At _ _ (Builtin.Tuple.tupleItemsOf (.ref t) >>= _) _ _ s;refine An (tupleItemsOf_ ht ?_);refine An (wpAny_typeOf hTs ?_);rw[As (by decide)]
 refine An (aF hs pl pu ?_);have hno:¬ ((((sIx items.size 0 lo:Af):Ah)==0&&(1:Ah)==1&&(sIx items.size items.size hi-sIx items.size 0 lo)==items.size)=Ab):=by
  intro q;rw[Ai,Ai]at q;have q1:((sIx items.size 0 lo:Af):Ah)=0:=eq_of_beq q.1.1;have q2:sIx items.size items.size hi-sIx items.size 0 lo=items.size:=eq_of_beq q.2;exact hw ⟨by omega,by omega⟩
 show At _ _ (if (((sIx items.size 0 lo:Af):Ah)==0&&(1:Ah)==1&&(sIx items.size items.size hi-sIx items.size 0 lo)==items.size)=Ab then _ else _) _ _ s
 rw[AB hno,dI]
 first
  |exact An (m:=Ef _) (CY (AH ⟨_,rfl,AH h⟩) htake)
  |exact An (m:=Ef _) (CY (An (AH (AH ⟨_,rfl,AH h⟩))) htake)
  |exact An (An (m:=Ef _) (CY (AH (AH ⟨_,rfl,AH h⟩)) htake))
  |exact An (An (m:=Ef _) (CY (AH ⟨_,rfl,AH h⟩) htake))
end
end HT
namespace L2
open PySem PySem.Spec PyProof.Rows
variable{r:V->Ao Ah->Ao Ah->Hp->VK->Prop}{xs:Ac V}{us its:Ac Aj}{n t':Af}{i:Ah}
abbrev TO:=St->Hp->(Ao Ah->Hp->Prop)->Prop
noncomputable def PO(X:Cx)(e:Ao Am)(t:TO):Prop:=
 ∀(pI:Pn)(s:Ap)(Y:St)(H:Hp)(Q:Ao Ah->Hp->Prop),Inv X pI Y H s->t Y H Q ->
  At (model X.prog X.w) X.A (evalPart e X.env) (λu s'=>∃ o H',Inv X pI Y H' s'/\Hc u o/\Q o H') X.xe s
def iO:TO:=λ_ H Q=>Q Ae H
def sS(t:TE):TO:=λY H Q=>t Y H λx H1=>∃ i,x=.int i/\Q (Aa i) H1
section
variable{X:Cx}{e:Am}{te:TE}{lo hi:Ao Am}{tl th:TO}{pos p2:AF}
theorem jO:PO X Ae iO:=by
 intro pI s Y H Q I h;rw[evalPart_none];exact AH ⟨Ae,H,I,.none,h⟩
theorem jN(h:PE X e te):PO X (Aa e) (sS te):=by
 intro pI s Y H Q I hw;rw[evalPart_some];refine thn (h pI s Y H _ I hw) λu s1 ⟨x,H1,I1,r1,q1⟩=>?_
 obtain⟨i,rfl,q⟩:=q1;obtain⟨t,rfl⟩:=r1;exact⟨Aa i,H1,I1,.int i t,q⟩
noncomputable def SlR(X:Cx)(r:V->Ao Ah->Ao Ah->Hp->VK->Prop):Prop:=
 ∀(pI:Pn)(s:Ap)(Y:St)(H:Hp)(x:V)(v vl vu:Aj)(lo hi:Ao Ah)(sl:Ak)(Q:VK),Inv X pI Y H s->Bq x v->s.heap.IsSliceOf sl vl vu .none->Hc vl lo->Hc vu hi->r x lo hi H Q ->
  ∃ T id,typeLookup (.type T) "__getitem__" = pure (Aa (.builtin id))/\s.TypeIs v T/\At (model X.prog X.w) X.A (Kd v (.ref sl)) (EP X pI Y Q) X.xe s
theorem SlR.or{r':V->Ao Ah->Ao Ah->Hp->VK->Prop}(h:SlR X r)(h':SlR X r'):SlR X (λx lo hi H Q=>r x lo hi H Q\/r' x lo hi H Q):=by
 intro pI s Y H x v vl vu lo hi sl Q I rx hs pl pu q;rcases q with q|q
 .exact h pI s Y H x v vl vu lo hi sl Q I rx hs pl pu q
 .exact h' pI s Y H x v vl vu lo hi sl Q I rx hs pl pu q
def tSl(r:V->Ao Ah->Ao Ah->Hp->VK->Prop)(te:TE)(tl th:TO):TE:=λY H Q=>te Y H λx H1=>tl Y H1 λl H2=>th Y H2 λu H3=>r x l u H3 Q
theorem fS(hr:SlR X r)(he:PE X e te)(hl:PO X lo tl)(hu:PO X hi th):PE X (.Subscript e (.Slice lo hi Ae p2) pos) (tSl r te tl th):=by
 intro pI s Y H Q I h;refine Subscript_ (thn (he pI s Y H _ I h) λv s1 ⟨x,H1,I1,r1,q1⟩=>?_)
 refine wpAny_Slice (thn (hl pI s1 Y H1 _ I1 q1) λvl s2 ⟨l,H2,I2,pl,q2⟩=>thn (hu pI s2 Y H2 _ I2 q2) λvu s3 ⟨u,H3,I3,pu,q3⟩=>?_)
 rw[evalPart_none];refine AH ?_;have I4:Inv X pI Y H3 { s3 with heap:=s3.heap.push { cls:=.type "slice",data:=.fields #[vl,vu,.none] } }:=I3.kept (t':=s3.toks) λb ob q=>Ar _ q
 obtain⟨T,id,hT,ht,hg⟩:=hr pI { s3 with heap:=s3.heap.push { cls:=.type "slice",data:=.fields #[vl,vu,.none] } } Y H3 x v vl vu l u s3.heap.objs.size Q I4 r1 (Heap.IsSliceOf.new ..) pl pu q3
 show At (model X.prog X.w) X.A (subscriptTail e (.Slice lo hi Ae p2) v (.ref s3.heap.objs.size)) (EP X pI Y Q) X.xe { s3 with heap:=s3.heap.push { cls:=.type "slice",data:=.fields #[vl,vu,.none] } }
 exact tail_any (ops:=[.ref s3.heap.objs.size,v]) ht hT hg (by with_unfolding_all rfl)
noncomputable def Ka(xs:Ac V)(lo hi:Ao Ah):Ac V:=(xs.drop (HT.sIx xs.length 0 lo)).take (HT.sIx xs.length xs.length hi-HT.sIx xs.length 0 lo)
theorem RG(xs:Ac V)(lo hi:Ao Ah):(Ka xs lo hi).length<=xs.length:=by
 unfold Ka;rw[F9,HE];omega
def Wm(K:Fg):V->Ao Ah->Ao Ah->Hp->VK->Prop:=λx lo hi H Q=>∃ a xs,x=.ref a/\SqT K H a xs /\
 ¬ (HT.sIx xs.length 0 lo=0/\HT.sIx xs.length xs.length hi=xs.length)/\∀ p,H p=Ae->Q (.ref p) (upd H p (.tup (Ka xs lo hi)))
theorem pO:SlR X (Wm X.K):=by
 intro pI s Y H x v vl vu lo hi sl Q I rx hs pl pu h;obtain⟨a,xs,rfl,hx,hw,q⟩:=h;cases rx;obtain⟨its,r,ht,hz⟩:=I.tuple hx;have hlen:its.toArray.size=xs.length:=by rw[AG];exact r.length.symm
 refine⟨"tuple",_,PyProof.Rows.slot_tuple_getitem.lookup,ht.typeIs,?_⟩;refine HT.getItem_tuple_cut ht hs pl pu (by rw[hlen];exact hw) ?_ (by rw[hlen];exact hz)
 rw[hlen];refine⟨.ref s.heap.objs.size,_,I.laid (t':=s.toks) (o:=.tup (Ka xs lo hi)) (λb ob q=>Ar _ q) (AK _) ?_,rfl,q _ (I.hok.fresh (AK _))⟩
 exact⟨BF (RG xs lo hi) hz,_,(r.drop (HT.sIx xs.length 0 lo)).take (HT.sIx xs.length xs.length hi-HT.sIx xs.length 0 lo),LG _ _⟩
def vP(K:Fg):R2:=λx y H Q=>∃ a b xs ys,x=.ref a/\y=.ref b/\SqT K H a xs/\SqT K H b ys/\xs≠[]/\xs.length+ys.length<=sizeLine /\
 (ys=[]->Q (.ref a) H)/\(ys≠[]->∀ p,H p=Ae->Q (.ref p) (upd H p (.tup (xs++ys))))
theorem AZ.nil_iff(r:AZ xs us):us=[]↔xs=[]:=by
 cases r with
 |nil=>simp
 |cons _ _=>simp
theorem kC:OpR X (B8 .Add) (vP X.K):=by
 intro pI s Y H x y v u Q I rx ry h;obtain⟨a,b,xs,ys,rfl,rfl,ha,hb,hx,hz,q1,q2⟩:=h;cases rx;cases ry;obtain⟨its,r1,p1,_⟩:=I.tuple ha;obtain⟨its2,r2,p2,_⟩:=I.tuple hb;refine HT.cat_tup p1 p2 (λz=>hx (r1.nil_iff.mp z)) (λz=>⟨.ref a,H,I,rfl,q1 (r2.nil_iff.mp z)⟩) (λz=>?_) (by rw[<-r1.length,<-r2.length];exact hz)
 refine⟨.ref s.heap.objs.size,_,I.laid (t':=s.toks) (o:=.tup (xs++ys)) (λb ob q=>Ar _ q) (AK _) ?_,rfl,q2 (λw=>z (r2.nil_iff.mpr w)) _ (I.hok.fresh (AK _))⟩
 exact⟨by rw[Bj];exact hz,_,r1.append r2,LG _ _⟩
end
noncomputable def ixN(n:Af)(i:Ah):Ao Af:=if 0<=i then (if i<n then Aa i.toNat else Ae) else if -(n:Ah)<=i then Aa (i+n).toNat else Ae
noncomputable def atI{α:Type}(xs:Ac α)(i:Ah):Ao α:=(ixN xs.length i).bind λj=>xs[j]?
theorem mL{j:Af}(h:ixN n i=Aa j):seqIndex? i n=Aa j/\j<n/\-(n:Ah)<=i/\i<n:=by
 unfold ixN at h;by_cases h0:0<=i
 .rw[As h0]at h;by_cases h1:i<n
  .rw[As h1]at h;have e:i.toNat=j:=Be h;exact⟨by rw[seqIndex_of h0 h1,e],by omega,by omega,h1⟩
  .rw[AB h1]at h;cases h
 .rw[AB h0]at h;by_cases h1:-(n:Ah)<=i
  .rw[As h1]at h;have e:(i+n).toNat=j:=Be h;exact⟨by rw[seqIndex_neg (by omega) h1,e],by omega,h1,by omega⟩
  .rw[AB h1]at h;cases h
theorem Pq{α:Type}{xs:Ac α}{v:α}(h:atI xs i=Aa v):∃ j,seqIndex? i xs.length=Aa j/\xs[j]?=Aa v/\j<xs.length/\-(xs.length:Ah)<=i/\i<xs.length:=by
 unfold atI at h;cases e:ixN xs.length i with
 |none=>rw[e]at h;cases h
 |some j=>
  rw[e]at h;obtain⟨h1,h2,h3,h4⟩:=mL e;exact⟨j,h1,h,h2,h3,h4⟩
def PP(b:Am):Prop:=∀ o i,subscripted b Ad o i=operate [o,i] (Kd o i)
noncomputable def IxR(X:Cx)(r:R2):Prop:=
 ∀(value slice:Am)(pI:Pn)(s:Ap)(Y:St)(H:Hp)(x y:V)(v u:Aj)(Q:VK),Inv X pI Y H s->Bq x v->Bq y u->r x y H Q ->
  subscripted slice Ad v u=operate [v,u] (Kd v u)->At (model X.prog X.w) X.A (subscriptTail value slice v u) (EP X pI Y Q) X.xe s
noncomputable def MtR(X:Cx)(id:CM)(r:V->Ac V->Hp->VK->Prop):Prop:=
 ∀(pI:Pn)(s:Ap)(Y:St)(H:Hp)(x:V)(xs:Ac V)(v:Aj)(us:Ac Aj)(Q:VK),Inv X pI Y H s->Bq x v->AZ xs us->r x xs H Q ->
  At (model X.prog X.w) X.A (call (.builtin id) (v::us)) (EP X pI Y Q) X.xe s
section
variable{X:Cx}{a b:Am}{ta tb:TE}{pos:AF}
theorem IxR.or{r r':R2}(h:IxR X r)(h':IxR X r'):IxR X (λx y H Q=>r x y H Q\/r' x y H Q):=by
 intro value slice pI s Y H x y v u Q I rx ry q hs;rcases q with q|q
 .exact h value slice pI s Y H x y v u Q I rx ry q hs
 .exact h' value slice pI s Y H x y v u Q I rx ry q hs
theorem vU{r:R2}(hr:IxR X r)(ha:PE X a ta)(hb:PE X b tb)(hs:PP b):PE X (.Subscript a b pos) (tOp r ta tb):=by
 intro pI s Y H Q I h;exact Subscript_ (QZ ha hb I h λv u s2 x y H2 I2 rx ry q=>hr a b pI s2 Y H2 x y v u Q I2 rx ry q (hs _ _))
def Wr(K:Fg):R2:=λx y H Q=>∃ p xs i v,x=.ref p/\y=.int i/\SqL K H p xs/\atI xs i=Aa v/\Q v H
def Wp(K:Fg):R2:=λx y H Q=>∃ p xs i v,x=.ref p/\y=.int i/\SqT K H p xs/\atI xs i=Aa v/\Q v H
def Wq:R2:=λx y H Q=>∃ z i c,x=.str z/\y=.int i/\z.length<=sizeLine/\atI z.cps.toList i=Aa c/\Q (.str ⟨#[c]⟩) H
theorem mK:IxR X (Wr X.K):=by
 intro value slice pI s Y H x y v u Q I rx ry h hs;obtain⟨p,xs,i,z,rfl,rfl,hq,he,q⟩:=h;cases rx;obtain⟨t,rfl⟩:=ry;obtain⟨its,r,pl,hz⟩:=I.list hq;obtain⟨j,h1,h2,h3,h4,h5⟩:=Pq he;obtain⟨w,ew,rw'⟩:=r.get h2;have hl:=r.length;have hn:=Ln;have fin:EP X pI Y Q w s:=⟨z,H,I,rw',q⟩;by_cases h0:0<=i
 .have hj:i.toNat=j:=by
   rw[seqIndex_of h0 h5]at h1;exact Be h1
  exact item_listR pl.isList h0 (by omega) (by rw[hj];simpa using ew) fin hs
 .have hj:(i+(its.toArray.size:Ah)).toNat=j:=by
   rw[seqIndex_neg (by omega) h4]at h1
   rw[AG,<-hl];exact Be h1
  exact XC (x:=w) pl.isList.typeIs Zn.lookup
   (wpAny_getItem_list_neg (Q:=λr s'=>r=w/\EP X pI Y Q r s') pl.isList (by omega) (by rw[AG]<;>omega) (by omega) (by rw[hj];simpa using ew) ⟨rfl,fin⟩) hs
theorem qI:IxR X (Wp X.K):=by
 intro value slice pI s Y H x y v u Q I rx ry h hs;obtain⟨p,xs,i,z,rfl,rfl,hq,he,q⟩:=h;cases rx;obtain⟨t,rfl⟩:=ry;obtain⟨its,r,pl,hz⟩:=I.tuple hq;obtain⟨j,h1,h2,h3,h4,h5⟩:=Pq he;obtain⟨w,ew,rw'⟩:=r.get h2;have hl:=r.length;have hn:=Ln;have fin:EP X pI Y Q w s:=⟨z,H,I,rw',q⟩;exact XC (x:=w) pl.typeIs slot_tuple_getitem.lookup
  (getItem_tuple (j:=j) (Q:=λr s'=>r=w/\EP X pI Y Q r s') pl (by omega) (by omega) (by rw[AG,<-hl];exact h1) (by simpa using ew) ⟨rfl,fin⟩) hs
theorem qJ:IxR X Wq:=by
 intro value slice pI s Y H x y v u Q I rx ry h hs;obtain⟨z,i,c,rfl,rfl,hz,he,q⟩:=h;obtain⟨t,rfl⟩:=rx;obtain⟨t',rfl⟩:=ry;obtain⟨j,h1,h2,h3,h4,h5⟩:=Pq he;have hl:z.cps.toList.length=z.length:=by simp[Str.length]
 rw[hl]at h1 h4 h5;have hn:=Ln;exact tail_any (FM s z t) slot_str_getitem.lookup (getItem_str (c:=c) (by
  have e1:decide (i < -(2 ^ 63:Ah))=Ad:=By (by omega)
  have e2:decide (i ≥ 2 ^ 63)=Ad:=By (by omega)
  rw[e1,e2,DW]) (by rw[h1];simpa using h2) ⟨.str ⟨#[c]⟩,H,I.tok _,⟨_,rfl⟩,q⟩) hs
def rIx(K:Fg):R2:=λx y H Q=>Wr K x y H Q\/Wp K x y H Q\/Wq x y H Q
theorem qK:IxR X (rIx X.K):=mK.or (qI.or qJ)
theorem Inv.lst{pI:Pn}{Y:St}{H:Hp}{s:Ap}{p:Ak}{xs:Ac V}(I:Inv X pI Y H s)(h:H p=Aa (.lst xs)):
  ∃(its:Ac Aj)(n:Af),AZ xs its/\s.heap.get? p=Aa { cls:=.type "list",data:=.seq its.toArray n }/\xs.length<=sizeLine:=by
 obtain⟨z,its,n,r,e⟩:=I.hok p _ h;exact⟨its,n,r,e,z⟩
theorem aI(lo hi:Ao Ah)(n:Af):(Fc lo hi Ae n).1=((HT.sIx n 0 lo:Af):Ah)/\(Fc lo hi Ae n).2.1=((HT.sIx n n hi:Af):Ah)/\(Fc lo hi Ae n).2.2=1:=by
 refine⟨?_,?_,rfl⟩
 .cases lo with
  |none=>simp[Fc,HT.sIx]
  |some i=>
   simp only[Fc,HT.sIx,Xq,show (1:Ah)>0 by decide,EW]
   by_cases h:i<0
   .simp only[h,EW]<;>omega
   .simp only[h,KO]<;>omega
 .cases hi with
  |none=>simp[Fc,HT.sIx]
  |some i=>
   simp only[Fc,HT.sIx,Xq,show (1:Ah)>0 by decide,EW]
   by_cases h:i<0
   .simp only[h,EW]<;>omega
   .simp only[h,KO]<;>omega
theorem aG(its:Ac Aj)(lo hi:Ao Ah):slicePick its.toArray lo hi Ae=((its.drop (HT.sIx its.length 0 lo)).take (HT.sIx its.length its.length hi-HT.sIx its.length 0 lo)).toArray:=by
 obtain⟨h1,h2,h3⟩:=aI lo hi its.toArray.size;unfold slicePick;rw[h1,h2,h3];simp only[sliceRange_one,pick_run,AG]<;>rfl
def Wo(K:Fg):V->Ao Ah->Ao Ah->Hp->VK->Prop:=λx lo hi H Q=>∃ a xs,x=.ref a/\SqL K H a xs/\∀ p,H p=Ae->Q (.ref p) (upd H p (.lst (Ka xs lo hi)))
theorem kE:SlR X (Wo X.K):=by
 intro pI s Y H x v vl vu lo hi sl Q I rx hs pl pu h;obtain⟨a,xs,rfl,hx,q⟩:=h;cases rx;obtain⟨its,r,ht,hz⟩:=I.list hx;have hlen:=r.length;refine⟨"list",_,Zn.lookup,ht.isList.typeIs,?_⟩;refine wpAny_getItem_list_slice ht.isList hs pl pu .none (by simp) ?_ (by rw[AG]<;>omega)
 rw[aG,<-hlen];refine⟨.ref s.heap.objs.size,_,I.laid (t':=s.toks) (o:=.lst (Ka xs lo hi)) (λb ob q=>Ar _ q) (AK _) ?_,rfl,q _ (I.hok.fresh (AK _))⟩
 exact⟨BF (RG xs lo hi) hz,_,0,(r.drop (HT.sIx xs.length 0 lo)).take (HT.sIx xs.length xs.length hi-HT.sIx xs.length 0 lo),AN _ rfl⟩
theorem aJ:OpR X (CK .NotIn) (λx y H Q=>∃ i j,x=.str i/\y=.str j/\Q (.bl (!(!(Ch j i 0 j.length 1).isEmpty))) H):=by
 intro pI s Y H x y v u Q I rx ry h;obtain⟨i,j,rfl,rfl,q⟩:=h;obtain⟨t,rfl⟩:=rx;obtain⟨t',rfl⟩:=ry;exact notIn_str ⟨.bl _,H,I,rfl,q⟩
theorem Rr:IC X (.builtin "len") (λxs H Q=>∃ p ys,xs=[.ref p]/\(SqL X.K H p ys\/SqT X.K H p ys)/\Q (.int ys.length) H):=by
 intro pI s Y H xs us Q I r h;obtain⟨p,ys,rfl,hq,q⟩:=h;obtain⟨u,rfl,rx⟩:=HS r;cases rx;have hn:=Ln;rcases hq with hq|hq
 .obtain⟨its,r',pl,hz⟩:=I.list hq;have hlen:=r'.length;exact Calls.call_len_list pl.isList (by simp only[AG]<;>omega) ⟨.int ys.length,H,I.tok _,⟨s.toks+1,by rw[AG,hlen]⟩,q⟩
 .obtain⟨its,r',pl,hz⟩:=I.tuple hq;have hlen:=r'.length;exact len_tuple pl (by simp only[AG]<;>omega) ⟨.int ys.length,H,I.tok _,⟨s.toks+1,by rw[AG,hlen]⟩,q⟩
theorem aQ:IC X (.builtin "len") (λxs H Q=>∃ z,xs=[.str z]/\z.length<=sizeLine/\Q (.int z.length) H):=by
 intro pI s Y H xs us Q I r h;obtain⟨z,rfl,hz,q⟩:=h;obtain⟨u,rfl,t,rfl⟩:=HS r;have hn:=Ln;exact len_str (by omega) ⟨.int z.length,H,I.tok _,⟨_,rfl⟩,q⟩
theorem Ro:IC X (.type "list") (λxs H Q=>∃ p ys,xs=[.ref p]/\(SqL X.K H p ys\/SqT X.K H p ys)/\∀ l,H l=Ae->Q (.ref l) (upd H l (.lst ys))):=by
 intro pI s Y H xs us Q I r h;obtain⟨p,ys,rfl,hq,q⟩:=h;obtain⟨u,rfl,rx⟩:=HS r;cases rx;have fin:∀(its:Ac Aj),AZ ys its->ys.length<=sizeLine->∀(h':AC)(c':Af),(∀ b o',s.heap.get? b=Aa o'->h'.get? b=Aa o') ->
   h'.get? s.heap.objs.size=Aa { cls:=.type "list",dict:=Ae,data:=.seq its.toArray c',slots:=#[] }->EP X pI Y Q (.ref s.heap.objs.size) {s with heap:=h'}:=λits r' hz h' c' kp e=>
  ⟨.ref s.heap.objs.size,_,I.laid (t':=s.toks) kp (AK _) (show ObjOk X.prog X.w _ h' _ (.lst ys) from ⟨hz,its,c',r',e⟩),rfl,q _ (I.hok.fresh (AK _))⟩
 rcases hq with hq|hq
 .obtain⟨its,r',pl,hz⟩:=I.list hq;have hlen:=r'.length;obtain⟨o,ho,hc,n,hd⟩:=pl.isList;exact call_list_seq p (.inl rfl) ho hc hd (λh' c' kp e=>fin its r' hz h' c' kp e) (by simp only[AG]<;>omega)
 .obtain⟨its,r',pl,hz⟩:=I.tuple hq;have hlen:=r'.length;obtain⟨o,ho,hc,n,hd⟩:=pl;exact call_list_seq p (.inr rfl) ho hc hd (λh' c' kp e=>fin its r' hz h' c' kp e) (by simp only[AG]<;>omega)
theorem Re:IC X (.type "tuple") (λxs H Q=>∃ p ys,xs=[.ref p]/\((SqL X.K H p ys/\∀ l,H l=Ae->Q (.ref l) (upd H l (.tup ys)))\/(SqT X.K H p ys/\Q (.ref p) H))):=by
 intro pI s Y H xs us Q I r h;obtain⟨p,ys,rfl,h⟩:=h;obtain⟨u,rfl,rx⟩:=HS r;cases rx;rcases h with ⟨hq,q⟩|⟨hq,q⟩
 .obtain⟨its,r',pl,hz⟩:=I.list hq;have hlen:=r'.length;refine call_tuple_list pl.isList (λh' kp=>?_) (by simp only[AG]<;>omega)
  have I1:Inv X pI Y H {s with heap:=h'}:=I.kept (t':=s.toks) kp
  have I2:Inv X pI Y (upd H h'.objs.size (.tup ys)) { s with heap:=h'.push { cls:=.type "tuple",data:=.seq its.toArray } }:=
   I1.laid (t':=s.toks) (λb o e=>Ar _ e) (AK _) (show ObjOk X.prog X.w _ _ _ (.tup ys) from ⟨hz,its,r',LG _ _⟩)
  exact⟨.ref h'.objs.size,_,I2,rfl,q _ (I1.hok.fresh (AK _))⟩
 .obtain⟨its,r',pl,hz⟩:=I.tuple hq;exact call_tuple_same pl ⟨.ref p,H,I,rfl,q⟩
def tyV(K:Fg)(T:CM)(x:V)(H:Hp):Prop:=match x with
  |.str _=>T = "str"
  |.int _=>T = "int"
  |.ref p=>(T = "list"/\∃ xs,SqL K H p xs)\/(T = "tuple"/\∃ o,K.lookup p=Aa o/\o.cls=.type "tuple"/\o.dict=Ae) \/
      (T = "dict"/\((∃ kvs,H p=Aa (.dK kvs))\/∃ kvs,H p=Aa (.dT kvs)))\/(T = "set"/\∃ S n,H p=Aa (.set S n))
  |_=>AX
theorem U_5{pI:Pn}{Y:St}{H:Hp}{s:Ap}{T:CM}{x:V}{v:Aj}(I:Inv X pI Y H s)(r:Bq x v)(ty:tyV X.K T x H):s.TypeIs v T/\∀ a,v=.ref a->∃ ob,s.heap.get? a=Aa ob/\ob.dict=Ae:=by
 cases x with
 |str z=>
  obtain⟨t,rfl⟩:=r;cases (show T = "str" from ty)
  exact⟨FM s z t,λ_ e=>nomatch e⟩
 |int i=>
  obtain⟨t,rfl⟩:=r;cases (show T = "int" from ty)
  exact⟨typeIs_int s i t,λ_ e=>nomatch e⟩
 |ref p=>
  cases r;rcases ty with ⟨rfl,xs,hq⟩|⟨rfl,o,hk,hc,hd⟩|⟨rfl,hk⟩|⟨rfl,S,n,hk⟩
  .obtain⟨its,_,pl,_⟩:=I.list hq;refine⟨pl.isList.typeIs,λa e=>?_⟩
   cases e;obtain⟨o,n,e,c,hd,_⟩:=pl;exact⟨o,e,hd⟩
  .refine⟨⟨o,I.kIn p o hk,hc⟩,λa e=>?_⟩
   cases e;exact⟨o,I.kIn _ o hk,hd⟩
  .have z:∃ o,s.heap.get? p=Aa o/\o.ExactDict:=by
    rcases hk with ⟨kvs,hk⟩|⟨kvs,hk⟩
    .obtain⟨_,_,_,_,o,_,_,e,ex,_⟩:=I.hok p _ hk;exact⟨o,e,ex⟩
    .obtain⟨_,_,_,_,o,_,_,e,ex,_⟩:=I.hok p _ hk;exact⟨o,e,ex⟩
   obtain⟨o,e,ex⟩:=z;refine⟨⟨o,e,ex.1⟩,λa e2=>?_⟩
   cases e2;exact⟨o,e,ex.2.1⟩
  .obtain⟨o,_,_,_,e,ex,_⟩:=I.hok p _ hk;refine⟨⟨o,e,ex.1⟩,λa e2=>?_⟩
   cases e2;exact⟨o,e,ex.2.1⟩
 |_=>exact AY ty
def ZL(K:Fg)(T:CM)(r:V->Ac V->Hp->VK->Prop)(to:TE):TE:=λY H Q=>to Y H λx H1=>tyV K T x H1/\r x [] H1 Q
def tBM(K:Fg)(T:CM)(r:V->Ac V->Hp->VK->Prop)(to:TE)(t:TA):TE:=λY H Q=>to Y H λx H1=>tyV K T x H1/\t Y H1 λxs H2=>r x xs H2 Q
variable{o e:Am}{es:Ac Am}{to:TE}{t:TA}{name:Ag}{apos cpos:AF}{T id:CM}{r:V->Ac V->Hp->VK->Prop}
theorem oH(pa:PlainAttrs T)(slot:Slot T name id)(hty:typeOf (.builtin id)=pure (.type "method_descriptor"))(hm:MtR X id r)(ho:PE X o to)(hbase:BO o name X.env (eval o X.env)=eval o X.env:=by rfl)(hline:(apos.endLine==cpos.line)=Ab:=by rfl):PE X (.Call (.Attribute o name apos) [] [] cpos) (ZL X.K T r to):=by
 intro pI s Y H Q I h;refine wpAny_Call_method0_late hbase hline (thn (ho pI s Y H _ I h) λv s1 ⟨x,H1,I1,r1,ty,q1⟩=>?_)
 obtain⟨h1,h2⟩:=U_5 I1 r1 ty;exact⟨T,id,pa,slot,hty,h1,h2,F5 rfl (PySem.evalArgs_none (hm pI s1 Y H1 x [] v [] Q I1 r1 .nil q1))⟩
theorem Lu(pa:PlainAttrs T)(slot:Slot T name id)(hty:typeOf (.builtin id)=pure (.type "method_descriptor"))(hm:MtR X id r)(ho:PE X o to)(ha:PA X (e::es) t)(hbase:BO o name X.env (eval o X.env)=eval o X.env:=by rfl)(hfew:((Bo cpos (Aq (e::es) X.env)).all (λx=>!x.1)&&(FA cpos (Ec [] X.env)).all (λx=>x.1.isSome)
   && decide ((e::es).length+([]:Ac C4).length+(if ([]:Ac C4).isEmpty then 0 else 1)<30))=Ab:=by rfl)(hline:(apos.endLine==cpos.line)=Ab:=by rfl)(hs:Aq (e::es) X.env=(Ad,eval e X.env)::Aq es X.env:=by rfl)(hplain:(Bo cpos (Aq es X.env)).any (·.1)=Ad:=by rfl):PE X (.Call (.Attribute o name apos) (e::es) [] cpos) (tBM X.K T r to t):=by
 intro pI s Y H Q I h;refine wpAny_Call_method_late hbase hfew hline rfl (thn (ho pI s Y H _ I h) λv s1 ⟨x,H1,I1,r1,ty,q1⟩=>?_)
 obtain⟨h1,h2⟩:=U_5 I1 r1 ty;refine⟨T,id,pa,slot,hty,h1,h2,?_⟩;have hA:=ha cpos pI s1 Y H1 _ I1 q1;rw[hs]at hA ⊢;refine F5 (by show (Ad||(Bo cpos (Aq es X.env)).any (·.1))=Ad;rw[hplain]<;>rfl) (E1 ?_)
 exact thn hA λus s2 ⟨vs,H2,I2,r2,q2⟩=>hm pI s2 Y H2 x vs v us Q I2 r1 r2 q2
/- xs.append(e),list.index on a module's tuple .. are MtR facts of 06m -/
end
noncomputable def MtM(X:Cx)(id:CM)(r:V->Ac V->Hp->VK->Prop):Prop:=
 ∀(pI:Pn)(s:Ap)(Y:St)(H:Hp)(x:V)(xs:Ac V)(v:Aj)(us:Ac Aj)(Q:VK),Inv X pI Y H s->Bq x v->AZ xs us->r x xs H Q ->
  At (model X.prog X.w) X.A (call (.builtin id) (v::us)) (EP X pI Y Q) X.xe s
theorem AZ.one:∀{x:V}{us:Ac Aj},AZ [x] us->∃ u,us=[u]/\Bq x u
 |_,_,.cons r .nil=>⟨_,rfl,r⟩
theorem AZ.zero:∀{us:Ac Aj},AZ [] us->us=[]
 |_,.nil=>rfl
theorem AZ.eraseIdx:∀{xs:Ac V}{us:Ac Aj}(i:Af),AZ xs us->AZ (xs.eraseIdx i) (us.eraseIdx i)
 |_,_,_,.nil=>.nil
 |_,_,0,.cons _ t=>t
 |_,_,i+1,.cons r t=>.cons r (AZ.eraseIdx i t)
theorem AZ.reverse(h:AZ xs us):AZ xs.reverse us.reverse:=by
 induction h with
 |nil=>exact .nil
 |cons r t ih=>rw[Xf,Xf];exact AZ.append ih (.cons r .nil)
section
variable{X:Cx}{pI:Pn}{Y:St}{H:Hp}{s:Ap}{l b:Ak}{xs ys zs:Ac V}
theorem Inv.lset{its':Ac Aj}{f:A9 Aj->A9 Aj}(I:Inv X pI Y H s)(hH:H l=Aa (.lst xs))(e:s.heap.get? l=Aa { cls:=.type "list",data:=.seq its.toArray n })(hf:f its.toArray=its'.toArray)(hv:AZ ys its')(hz:ys.length<=sizeLine):Inv X pI Y (upd H l (.lst ys)) {s with heap:=s.heap.update l (C8 f),toks:=t'}:=by
 have q:=PySem.IsL.update e f;rw[hf]at q;refine I.write (x:=l) (e:=l) (by rw[hH];exact trivial) (.inl rfl) (λb' u hb hu=>(BE s.heap (C8 f) (B4 hb)).trans hu) ⟨_,q⟩ ?_
 exact⟨hz,its',_,hv,q⟩
theorem Inv.lnew(I:Inv X pI Y H s)(hv:AZ ys its)(hz:ys.length<=sizeLine):
  Inv X pI Y (upd H s.heap.objs.size (.lst ys)) { s with heap:=s.heap.push { cls:=.type "list",data:=.seq its.toArray },toks:=t' }:=
 I.laid (λ_ _ q=>Ar _ q) (AK _) ⟨hz,its,0,hv,AN _ rfl⟩
theorem Inv.fresh(I:Inv X pI Y H s):H s.heap.objs.size=Ae:=I.hok.fresh (AK _)
theorem Inv.lstM(I:Inv X pI Y H s)(hH:H l=Aa (.lst xs)):xs.length<=sizeLine/\∃(its:Ac Aj)(n:Af),AZ xs its/\xs.length=its.length/\s.heap.get? l=Aa { cls:=.type "list",data:=.seq its.toArray n }:=by
 obtain⟨z,its,n,r,e⟩:=I.hok l _ hH;exact⟨z,its,n,r,r.length,e⟩
theorem SY(h:n<=sizeLine):Dq n=Ad:=by
 unfold Dq;exact By (by omega)
end
section
variable{X:Cx}
def jG:V->Ac V->Hp->VK->Prop:=λx vs H Q=>∃ l xs y,x=.ref l/\vs=[y]/\H l=Aa (.lst xs)/\xs.length<sizeLine/\Q .non (upd H l (.lst (xs++[y])))
theorem cJ:MtM X "list.append" jG:=by
 intro pI s Y H x vs v us Q I rx rv h;obtain⟨l,xs,y,rfl,rfl,hH,hz,q⟩:=h;cases rx;obtain⟨u,rfl,ru⟩:=rv.one;obtain⟨z,its,n,r,hl,e⟩:=I.lstM hH;refine Ey F.slot_list_append ⟨_,e,rfl⟩ F.entry_list_append (F.args_list_append_2 _ _) (PySem.list_append l its.toArray n u (by rw[AG];omega)) ⟨e,?_⟩
 refine⟨.non,_,I.lset (its':=its++[u]) hH e (by simp) (r.append (.cons ru .nil)) ?_,rfl,q⟩
 rw[Bj,DT];omega
def jF:V->Ac V->Hp->VK->Prop:=λx vs H Q=>∃ l b xs zs,x=.ref l/\vs=[.ref b]/\H l=Aa (.lst xs)/\H b=Aa (.lst zs)/\xs.length+zs.length<=sizeLine/\Q .non (upd H l (.lst (xs++zs)))
theorem cH:MtM X "list.extend" jF:=by
 intro pI s Y H x vs v us Q I rx rv h;obtain⟨l,b,xs,zs,rfl,rfl,hH,hB,hz,q⟩:=h;cases rx;obtain⟨u,rfl,ru⟩:=rv.one;cases ru;obtain⟨z,its,n,r,hl,e⟩:=I.lstM hH;obtain⟨z2,its2,n2,r2,hl2,e2⟩:=I.lstM hB;have hsz:its.toArray.size+its2.toArray.size<=sizeLine:=by rw[AG,AG];omega
 have hlong:¬ (!its.toArray.isEmpty&&Dq (its.toArray.size+its2.toArray.size))=Ab:=by
  rw[SY hsz,FJ];exact Au
 refine Ey EO ⟨_,e,rfl⟩ Yt (Yo _ _)
  (AutoSeq1.list_extend_list_list_0 l its.toArray n b its2.toArray n2 hlong (by rw[AG];omega) (by omega)) ⟨e,e2,?_⟩
 refine⟨.non,_,I.lset (its':=its++its2) hH e (by simp) (r.append r2) ?_,rfl,q⟩
 rw[Bj];omega
def pC:V->Ac V->Hp->VK->Prop:=λx vs H Q=>∃ l xs,x=.ref l/\vs=[]/\H l=Aa (.lst xs)/\Q .non (upd H l (.lst []))
theorem fC:MtM X "list.clear" pC:=by
 intro pI s Y H x vs v us Q I rx rv h;obtain⟨l,xs,rfl,rfl,hH,q⟩:=h;cases rx;have hus:=rv.zero;subst hus;obtain⟨z,its,n,r,hl,e⟩:=I.lstM hH;refine Ey F.slot_list_clear ⟨_,e,rfl⟩ F.entry_list_clear (F.args_list_clear_1 _) (AutoSeq1.list_clear_list_0 l its.toArray n (by rw[AG];omega)) ⟨e,?_⟩
 exact⟨.non,_,I.lset (its':=[]) (ys:=[]) hH e rfl .nil (Cv _),rfl,q⟩
end
section
variable{prog:AO}{w:A1}{A:AW}{E:Vq}{s:Ap}
set_option maxRecDepth 100000 in
end
section
variable{X:Cx}
end
end L2
namespace Att
open PySem PySem.W PySem.Calls PyProof.Rows
variable{P:LL}{h:AC}{l:F6}{n:Af}
theorem aE:∀(ns:Ac Ah)(vs:Ac Aj),WellAll P h vs (ns.map Y_0)->Er vs ns:=by
 intro ns
 induction ns with
 |nil=>
  intro vs w;rw[Xa]at w;cases w;exact .nil
 |cons n ns ih=>
  intro vs w;rw[Bz]at w;cases w with
  |cons a b=>
   cases a;exact .cons _ _ (ih _ b)
theorem cQ(hn:l.most=Aa n){args:Ac WData}{vals:Ac Aj}(hpre:l.row.toRowW.claim.pre args=Ab)(hwl:WellAll P h vals args):
  ∃ a vs ns,vals=[Bc a]/\args=[WData.list (ns.map Y_0)]/\h.get? a=Aa { cls:=.type "list",data:=.seq vs.toArray }/\Er vs ns/\ns.length<=n:=by
 have hsh:WShape.hasAll [] args [.list .int]=Ab:=(pre_splitW hpre).1;have hc:l.pre.holds [] {args:=args}=Ab:=(pre_splitW hpre).2;obtain⟨d,r,rfl,h1,h2⟩:=hasAllW_cons hsh;obtain rfl:=hasAllW_nil h2;obtain⟨xs,rfl,h3⟩:=hasW_list h1;obtain⟨ns,rfl⟩:=items_int h3;have hlen:ns.length<=n:=by
  unfold OpenLaw.pre at hc;have h4:(WTm.not (.lt (.lit (.int (n:Ah))) (.len (.arg 0)))).holds [] {args:=[.list (ns.map .int)]}=Ab:=by
   have h4:=(holds_andW hc).1;rw[hn]at h4;exact h4
  have h5:=condW_of h4 (w_not (w_lt w_lit (w_len_list (w_arg rfl))));rw[AU]at h5;refine Nat.le_of_not_lt λq=>?_
  have q':(n:Ah)<((ns.length:Af):Ah):=by omega
  first
   |(rw[Di q']at h5;exact absurd h5 (by decide))
   |(simp at h5;omega)
 cases hwl with
 |cons w1 w2=>
  cases w2;cases w1 with
  |list ho hall=>exact⟨_,_,ns,rfl,rfl,ho,aE ns _ hall,hlen⟩
theorem cW(l:F6)(args:Ac WData):l.row.toRowW.claim.post args (.bool Ab) args=Ab:=
 postW_of (r:=l.row.toRowW) (X:=(Ab==Ab))
  (show Y_1 [] (.bool Ab) .bool=Ab by first|rfl|decide|simp[Y_1,WShape.arms,WShape.armsAll])
  (show (WTm.eq .res (.lit (.bool Ab))).value [] {args:=args,res:=Aa (.bool Ab),after:=args}=Aa (.bool (Ab==Ab)) from w_eq_bool (w_res rfl) w_lit) rfl
theorem attach_call{q:AO}{loose:Ac Ag}{XP:(Ag->Ao Aj)->AC->Prop}{YP:A1->AC->Prop}{d:DefRec}(hn:l.most=Aa n)(hdf:d.params.defaults=[])(call:∀(w:A1)(s₀ s₁:Ap)(mg mb:Ag->Ao Aj)(fa:Ak)(o:Da)(pm cd doc:Aj)(a:Ak)(vs:Ac Aj)(ns:Ac Ah),
   Ground q loose [] XP w s₀ mg mb s₁.heap->YP w s₁.heap ->
   s₁.heap.get? fa=Aa o->o.data=.func (docDef d.name d.params d.body d.scope pm cd doc)->s₁.heap.CodeRec cd d.name->mg d.name=Aa (.ref fa) ->
   s₁.heap.get? a=Aa { cls:=.type "list",data:=.seq vs.toArray }->Er vs ns->ns.length<=n->s₁.gens=#[] ->
   ES (model l.prog w) Hv (.call (.ref fa) ⟨[.ref a],[]⟩) (λr s'=>r=.ok (.ret (.bool Ab))/\OldK s₁.heap s'.heap/\s'.os=s₁.os/\FK s'.gens) s₁):WalkO q loose XP YP l.row.toRowW d [] (λf vs=>KW f vs):=by
 intro w s₀ s₁ mg mb G Y_ fa o pm cd doc dV kV ho hd hcd hD hmg hg args vals as hpre hlay hrd hwl hlo;obtain rfl:dV=.none:=Dflts.none hD hdf;obtain rfl:kV=.none:=Dflts.noKw hD;obtain⟨a,vs,ns,rfl,rfl,hobj,hints,hlen⟩:=cQ hn hpre hwl;refine enter_call (DQ (call w s₀ s₁ mg mb fa o pm cd doc a vs ns G Y_ ho (fd_plain hd) hcd hmg hobj hints hlen hg) λr s' hq=>?_)
 obtain⟨rfl,h2,h3,h4⟩:=hq;exact⟨.inl ⟨.bool Ab,.bool Ab,[],rfl,λ_=>rfl,.bool Ab,cW l _,λ_=>⟨List.Pairwise.nil,λ_ hm=>(nomatch hm)⟩⟩,h2,h3,h4⟩
section
variable{prog:AO}{w:A1}{A:AW}{E:Vq}{s:Ap}{K:Frag}
end
end Att
namespace L2
open PySem PySem.Spec PyProof.Rows
variable{k:Af}{x:Ag}
theorem RX:∀{vs:Ac Aj}{ns:Ac Ah},Er vs ns->AZ (ns.map V.int) vs
 |_,_,.nil=>.nil
 |_,_,.cons n t h=>.cons ⟨t,rfl⟩ (RX h)
def QY(H:Hp):Prop:=∀ b,H b=Ae\/∃ o xs,H b=Aa (.frz o (.lst xs))
theorem fH{P:AO}{w:A1}{K:Fg}{mg mb:Ag->Ao Aj}{CX:CXT}{fa a:Ak}{fd:Bx}{sp:Sp}{s₁:Ap}{vs:Ac Aj}{ns:Ac Ah}(KX:K.In s₁.heap)(hns:s₁.heap.Ns A8 mg)(hb:s₁.heap.Ns IT mb)(hbb:∀ x:Ag,x≠"__name__"->mb x=CJ x)(hlim:s₁.heap.NoLimit)(hg:s₁.gens=#[])(ha:s₁.heap.get? a=Aa { cls:=.type "list",data:=.seq vs.toArray })(hi:Er vs ns)(hl:ns.length<=sizeLine)(hr:Room k Hv)(F:∀ base:AC,K.In base->base.Ns A8 mg->FnOk P w K mg base CX k fa fd [x] sp)(hbind:∀(s:Ap)(u:Aj),Gq s fd ⟨[u],[]⟩ [(x,u)])(hsp:∀ H:Hp,QY H->SqL K H a (ns.map V.int)->sp [.ref a] H (λv _=>v=.bl Ab) λ_ _ _=>AX)(hCX:∀ H e s',CX [] H s₁ (λ_ _ _=>AX) e s'->AX):ES (model P w) Hv (.call (.ref fa) ⟨[.ref a],[]⟩) (λr s'=>r=.ok (.ret (.bool Ab))/\OldK s₁.heap s'.heap/\s'.os=s₁.os/\FK s'.gens) s₁:=by
 have rv:=RX hi;have lenV:=hi.length
 -- from an abstract heap in which nothing but the script may be tracked
 have core:∀ H:Hp,QY H->SqL K H a (ns.map V.int)->HOk P w H s₁.heap->(∀ b,H b≠Ae->b=a)->(H a≠Ae->K.lookup a=Ae) ->
   ES (model P w) Hv (.call (.ref fa) ⟨[.ref a],[]⟩) (λr s'=>r=.ok (.ret (.bool Ab))/\OldK s₁.heap s'.heap/\s'.os=s₁.os/\FK s'.gens) s₁:=by
  intro H hO hS hok hA hK;have base_of:∀{b:Ak}{o:Da},s₁.heap.get? b=Aa o->H b=Ae->(Jp s₁.heap H).get? b=Aa o:=λe n=>fO e n
  have noA:∀{b:Ak}{o:Da}{es:A9 DictEntry}{ep:Af},s₁.heap.get? b=Aa o->o.data=.dict es ep->H b=Ae:=λ{b o es ep} e d=>by
   cases q:H b with
   |none=>rfl
   |some u=>
    have e':b=a:=hA b (by rw[q];simp)
    subst e';rw[ha]at e;cases e;have d':LJ vs.toArray _=Data.dict es ep:=d;cases d'
  have nsK:∀{b:Ak}{m:Ag->Ao Aj},s₁.heap.Ns b m->(Jp s₁.heap H).Ns b m:=λ{b m} ⟨o,es,ep,e,d,r⟩=>⟨o,es,ep,base_of e (noA e d),d,r⟩
  have hKb:K.In (Jp s₁.heap H):=λb o e=>base_of (KX b o e) (by
   cases q:H b with
   |none=>rfl
   |some u=>
    have e':b=a:=hA b (by rw[q];simp)
    subst e';rw[hK (by rw[q];simp)]at e;cases e)
  have hM:Mod K mg (Jp s₁.heap H):=⟨hKb,nsK hns,⟨mb,nsK hb,hbb⟩,let ⟨mc,h1,h2⟩:=hlim;⟨mc,nsK h1,h2⟩⟩
  have e0:Env0 P w K mg (Jp s₁.heap H) Hv [] s₁ H:=⟨rfl,hM,λb o e=>jD e,Xk (bY _ _),trivial,λb hb=>absurd (show b∈([]:Ac Ak) from hb) (by simp),hok,.of_eq hg⟩
  refine DQ ((F _ hKb (nsK hns)).run Hv [] s₁ H ⟨[.ref a],[]⟩ [.ref a] [.ref a] _ _ hr e0 (hbind s₁ (.ref a)) (.cons rfl .nil) (hsp H hO hS)) λr s' h=>?_
  cases r with
  |error e=>exact(hCX H e s' h).elim
  |ok fl=>
   cases fl with
   |next=>exact AY h
   |brk=>exact AY h
   |cont=>exact AY h
   |ret u=>
    obtain⟨v,H',os,bare,un,hok',r',q⟩:=h;have q':v=.bl Ab:=q;subst q';obtain rfl:u=IP Ab:=r';refine⟨rfl,OldK.of_keep λb o e=>?_,os,bare⟩
    cases q:H b with
    |none=>exact un.keep b o e q (by intro z;exact absurd (show b∈([]:Ac Ak) from z) (by simp)) (by simp)
    |some u=>
     rcases hO b with z|⟨ob,xs,z⟩
     .rw[q]at z;cases z
     .have z2:=un.frzs b ob _ z;obtain⟨e1,_⟩:=hok b _ z;obtain⟨e2,_⟩:=hok' b _ z2;rw[e]at e1;cases e1;exact e2
 cases hk:K.lookup a with
 |some o=>
  -- the script is one of the module's own objects
  have e:=KX a o hk;rw[ha]at e;cases e;refine core (λ_=>Ae) (λ_=>.inl rfl) (.inr ⟨_,vs.toArray,_,hk,rfl,rfl,rfl,by rw[AG,lenV];exact hl,by simpa using rv⟩) (λb u z=>by have z':(Ae:Ao HO)=Aa u:=z;cases z') (λb z=>absurd rfl z) λz=>absurd rfl z
 |none=>
  refine core (λb=>if b=a then Aa (.frz { cls:=.type "list",data:=.seq vs.toArray } (.lst (ns.map V.int))) else Ae) (λb=>?_) (.inl (.inr ⟨{ cls:=.type "list",data:=.seq vs.toArray },As rfl⟩)) (λb u z=>?_) (λb z=>?_) λ_=>hk
  .by_cases hb:b=a
   .exact .inr ⟨_,_,As hb⟩
   .exact .inl (AB hb)
  .by_cases hb:b=a
   .have z':=(As hb).symm.trans z;cases z';subst hb;exact⟨ha,by rw[AU];exact hl,vs,_,rv,ha⟩
   .have z':=(AB hb).symm.trans z;cases z'
  .by_cases hb:b=a
   .exact hb
   .exact absurd (AB hb) z
noncomputable abbrev KOf{K:Fg}{h:AC}(_:K.In h):Fg:=K
theorem walk_of{l:F6}{n:Af}{q:AO}{loose:Ac Ag}{XP:(Ag->Ao Aj)->AC->Prop}{YP:A1->AC->Prop}{d:DefRec}{K:LL->Fg}{CX:A1->CXT}{sp:A1->Sp}(hn:l.most=Aa n)(hn2:n<=sizeLine)(hdf:d.params.defaults=[])(hr:Room k Hv)(hY:∀(w:A1)(h:AC),YP w h->(K w.params).In h)(F:∀(w:A1)(mg:Ag->Ao Aj)(fa:Ak)(h:AC),(K w.params).In h->h.Ns A8 mg->mg d.name=Aa (.ref fa) ->
   ∃ fd:Bx,(∀(s:Ap)(u:Aj),Gq s fd ⟨[u],[]⟩ [(x,u)]) /\
    ∀ base:AC,(K w.params).In base->base.Ns A8 mg->FnOk l.prog w (K w.params) mg base (CX w) k fa fd [x] (sp w))(hsp:∀(w:A1)(H:Hp)(a:Ak)(ns:Ac Ah),ns.length<=n->QY H->SqL (K w.params) H a (ns.map V.int)->sp w [.ref a] H (λv _=>v=.bl Ab) λ_ _ _=>AX)(hCX:∀(w:A1)(H:Hp)(s:Ap)(e:Aj)(s':Ap),CX w [] H s (λ_ _ _=>AX) e s'->AX):Y_2 q loose XP YP l.row.toRowW d [] (λf vs=>KW f vs):=by
 refine Att.attach_call hn hdf λw s₀ s₁ mg mb fa o pm cd doc a vs ns G Y_ ho hd hcd hmg hobj hints hlen hg=>?_
 have KX:=hY w _ Y_;obtain⟨fd,hb,hF⟩:=F w mg fa _ KX G.T.g hmg;exact fH KX G.T.g G.T.b G.T.builtins G.T.nolimit hg hobj hints (BF hlen hn2) hr hF hb (λH hO hS=>hsp w H a ns hlen hO hS) λH e s'=>hCX w H s₁ e s'
end L2
/- THE LAST THEOREM (shape;LID,My.* are yours):
   My.Adr:a structure of the addresses that your layer names (classes,functions);My.Txt K t:a structure (Prop) of the equations over K;
   My.txt_mk:{K} {implicit addresses ..} (e1:nsIn K A8 "law" = Aa (Aa (.ref f))) (e2:K.lookup f=Aa ⟨oc,od,.func (fnOf "law" "law" params body scope dV kV doc pm an cdv ct),sl⟩) (e3:codeIn K cdv "law" = Ab) ..:∃ t,My.Txt K t
set_option maxRecDepth 100000 in
set_option maxHeartbeats 0 in
theorem PySem.Challenge.cw_LID_holds:PySem.Challenge.rw_LID.Holds:=by
 w_on;o_law;k_head;(case hw=>w_witness2)
 k_fill
 refine L2.walk_of (l:=PySem.Challenge.rw_LID) (n:=63) (k:=40) (x := "script") (CX:=λw=>..) (sp:=λ_=>My.sp_law) rfl (by decide) rfl ⟨rfl,by decide,by decide⟩ (λw h Y_=>Y_7 Y_) ?F ?S ?C
 case F=>
  intro w mg fa h KX G hmg;have T:∃ t,My.Txt (L2.KOf KX) t:=by
   dsimp only[L2.KOf]                          -- K must stand as «<heap const> w.params» for k_is
   refine' My.txt_mk ?e1 ?e2 ?e3 ..
   (case e1=>PySem.W.k_is)                    -- in the order: a name -> its address -> its object -> its parts
   (case e2=>PySem.W.k_is)
   ..
  obtain⟨t,T⟩:=T;have e0:=hmg.symm.trans (C9 KX G T.law);cases e0                                       -- fa is the law's own address
  exact⟨_,fun s u=>.of_eq rfl,fun base kb nb=>My.law_fn T kb nb⟩     -- if «.of_eq rfl» comes too early: refine' ⟨_,?b,fun base kb nb=>My.law_fn T kb nb⟩;exact fun s u=>.of_eq rfl
 case S=>exact λw H a ns hl hO hS=>..
 case C=>exact ..
(the tactic k_is has no namespace:write k_is) -/
namespace L2
open PySem PySem.Spec PyProof.Rows
noncomputable def Jb(s:AM):Arguments:=match s with
  |.FunctionDef _ a _ _ _ _ _ _ _ _=>a
  |_=>{posonlyargs:=[],args:=[],vararg:=Ae,kwonlyargs:=[],kw_defaults:=[],kwarg:=Ae,defaults:=[]}
noncomputable def FZ(s:AM):Ac AM:=match s with
  |.FunctionDef _ _ b _ _ _ _ _ _ _=>b
  |_=>[]
noncomputable def B2(s:AM):BP:=match s with
  |.FunctionDef _ _ _ _ _ _ sc _ _ _=>sc
  |_=>{kind:=.function,names:=[],isGenerator:=Ad,isCoroutine:=Ad}
noncomputable abbrev CX0:CXT:=λ_ _ _ _ _ _=>AX
noncomputable abbrev E0:XK:=λ_ _ _=>AX
structure Fun (K:Fg) (x qual:Ag) (st:AM) (f:Ak) (fd:Bx):Prop where
 ex:∃(oc:Aj)(od:Ao Ak)(kV doc pm:Aj)(an:Ao Ak)(cdv ct:Aj)(osl:A9 (Ao Aj)),
  fd=C6 x qual (Jb st) (FZ st) (B2 st) .none kV doc pm an cdv ct/\K.lookup f=Aa ⟨oc,od,.func fd,osl⟩/\FL K cdv qual=Ab
 kp:Bm K (.ref f)=Ab
section
variable{P:AO}{w:A1}{K:Fg}{mg:Ag->Ao Aj}{base:AC}
theorem Fun.ok{x qual:Ag}{st:AM}{f:Ak}{fd:Bx}{N ps:Ac Ag}{k:Af}{sp:Sp}(F:Fun K x qual st f fd)(S:FnScope N ps (B2 st))(len:∀ vs H Q E,sp vs H Q E->vs.length=ps.length)(hbody:∀(cdv:Aj)(A:AW)(outer:Ac Cj)(s:Ap)(H:Hp)(vs:Ac V)(Q:VK)(E:XK),Room k (A.deeper (Ev qual (B2 st) s.heap.objs.size f cdv))->sp vs H Q E ->
   ∃ t,PSs (Fk CX0 P w K mg base N qual (B2 st) f cdv A outer s H E).nox (FZ st) t/\t {nx:=λ_ H'=>Q .non H',rt:=Q} (start N vs) H):FnOk P w K mg base CX0 (k+1) f fd ps sp:=by
 obtain⟨oc,od,kV,doc,pm,an,cdv,ct,osl,rfl,lk,hcd⟩:=F.ex;refine Qt lk hcd S len λA outer s H vs Q E hr hsp=>?_
 obtain⟨t,h,q⟩:=hbody cdv A outer s H vs Q E hr hsp;exact⟨t,h.nox,q⟩
theorem Fun.binds{x qual:Ag}{st:AM}{f:Ak}{fd:Bx}{ps:Ac Ag}(F:Fun K x qual st f fd)(h:∀(kV doc pm:Aj)(an:Ao Ak)(cdv ct:Aj)(us:Ac Aj),us.length=ps.length->IQ (C6 x qual (Jb st) (FZ st) (B2 st) .none kV doc pm an cdv ct) ⟨us,[]⟩=pure (ps.zip us)):DS K fd ps []:=by
 obtain⟨oc,od,kV,doc,pm,an,cdv,ct,osl,rfl,lk,hcd⟩:=F.ex;exact .all (h kV doc pm an cdv ct)
theorem qS{x qual:Ag}{st:AM}{f:Ak}{oc:Aj}{od an:Ao Ak}{osl:A9 (Ao Aj)}{kV doc pm cdv ct:Aj}(l:K.lookup f=Aa ⟨oc,od,.func (C6 x qual (Jb st) (FZ st) (B2 st) .none kV doc pm an cdv ct),osl⟩)(c:FL K cdv qual=Ab)(k:Bm K (.ref f)=Ab):Fun K x qual st f (C6 x qual (Jb st) (FZ st) (B2 st) .none kV doc pm an cdv ct):=⟨⟨oc,od,kV,doc,pm,an,cdv,ct,osl,rfl,l,c⟩,k⟩
end
section
variable{X:Cx}
end
def Ay(H H':Hp):Prop:=∀ b o,H b=Aa o->H' b=Aa o
theorem Ay.refl(H:Hp):Ay H H:=λ_ _ h=>h
theorem Ay.trans{H H1 H2:Hp}(a:Ay H H1)(b:Ay H1 H2):Ay H H2:=λc o h=>b c o (a c o h)
theorem Ay.free{H H':Hp}(e:Ay H H'){l:Ak}(h:H' l=Ae):H l=Ae:=by
 cases q:H l with
 |none=>rfl
 |some o=>
  rw[e l o q]at h;cases h
end L2
section
namespace Ov
open PySem
variable{α β:Type}
inductive D where
 |non|bl (b:Al)|int (i:Ah)|str (x:Ag)|tup (ds:Ac D)|lst (ds:Ac D)
 |obj (c:Af) (fs:Ac (Ag×D))|exc (c:Af) (fs:Ac (Ag×D))|dic (kvs:Ac (Ac Ah×D))
 deriving Inhabited
structure Ex where
 c:Af
 fs:Ac (Ag×D)
 deriving Inhabited
inductive R (α:Type) where
 |ok (a:α)|exn (x:Ex)|bad
 deriving Inhabited
noncomputable def R.bind{α β:Type}(r:R α)(f:α->R β):R β:=match r with
  |.ok a=>f a
  |.exn x=>.exn x
  |.bad=>.bad
@[simp]theorem R.bind_ok(a:α)(f:α->R β):(R.ok a).bind f=f a:=rfl
@[simp]theorem R.bind_exn(x:Ex)(f:α->R β):(R.exn x:R α).bind f=.exn x:=rfl
@[simp]theorem R.bind_bad(f:α->R β):(R.bad:R α).bind f=.bad:=rfl
theorem R.bind_assoc{γ:Type}(r:R α)(f:α->R β)(g:β->R γ):(r.bind f).bind g=r.bind λa=>(f a).bind g:=by cases r<;>rfl
noncomputable def BG(n:Af):Al:=DH n 1000000
noncomputable def FD(i j:Ah):Al:=(decide (-(18446744073709551616:Ah)<i)&&decide (i<18446744073709551616))||(decide (-(18446744073709551616:Ah)<j)&&decide (j<18446744073709551616))
noncomputable def NV(i j:Ah):Al:=decide (i.natAbs<2 ^ 2000)&&decide (j.natAbs<2 ^ 2000)
noncomputable def CN:Fx->D->D->R D
 |.Add,.int i,.int j=>.ok (.int (i+j))
 |.Sub,.int i,.int j=>.ok (.int (i-j))
 |.Mult,.int i,.int j=>if (FD i j||NV i j)=Ab then .ok (.int (i*j)) else .bad
 |.FloorDiv,.int i,.int j=>if 0<j/\j<1073741824 then .ok (.int (i/j)) else .bad
 |.Mod,.int i,.int j=>if 0<j then .ok (.int (i%j)) else .bad
 |.Pow,.int i,.int j=>if (0<=j/\j<=1000000)/\(-(18446744073709551616:Ah)<i/\i<18446744073709551616) then .ok (.int (i ^ j.toNat)) else .bad
 |.Add,.str x,.str y=>if BG (x.length+y.length)=Ab then .ok (.str (x++y)) else .bad
 |.Add,.lst x,.lst y=>if BG (x.length+y.length)=Ab then .ok (.lst (x++y)) else .bad
 |.Add,.tup x,.tup y=>if (!x.isEmpty&&BG (x.length+y.length))=Ab then .ok (.tup (x++y)) else .bad
 |_,_,_=>.bad
noncomputable def unD:Kb->D->R D
 |.USub,.int i=>.ok (.int (-i))
 |_,_=>.bad
noncomputable def b2i(b:Al):Ah:=if b=Ab then 1 else 0
mutual
noncomputable def eqD:D->D->Al
 |.non,.non=>Ab
 |.bl a,.bl b=>a==b
 |.bl a,.int j=>b2i a==j
 |.int i,.bl b=>i==b2i b
 |.int i,.int j=>i==j
 |.str x,.str y=>x==y
 |.tup xs,.tup ys=>eqDs xs ys
 |.lst xs,.lst ys=>eqDs xs ys
 |_,_=>Ad
noncomputable def eqDs:Ac D->Ac D->Al
 |[],[]=>Ab
 |x::xs,y::ys=>eqD x y&&eqDs xs ys
 |_,_=>Ad
end
noncomputable def flD:Af->D->Al
 |_,.non=>Ab
 |_,.bl _=>Ab
 |_,.int _=>Ab
 |_,.str _=>Ab
 |n+1,.tup xs=>xs.all (flD n)
 |n+1,.lst xs=>xs.all (flD n)
 |_,_=>Ad
noncomputable def J8:D->Ao (Ac Ah)
 |.tup ds=>keyDs ds
 |_=>Ae
where keyDs:Ac D->Ao (Ac Ah)
 |[]=>Aa []
 |.int i::r=>(keyDs r).map (i :: ·)
 |_=>Ae
noncomputable def ltD:Af->D->D->Al
 |0,.int i,.int j=>decide (i<j)
 |n+1,.tup xs,.tup ys=>ltDs (ltD n) xs ys
 |_,_,_=>Ad
where ltDs (lt:D->D->Al):Ac D->Ac D->Al
 |[],[]=>Ad
 |[],_::_=>Ab
 |_::_,[]=>Ad
 |x::xs,y::ys=>if eqD x y=Ab then ltDs lt xs ys else lt x y
noncomputable def rkD:Af->D->Al
 |0,.int _=>Ab
 |n+1,.tup xs=>xs.all (rkD n)
 |_,_=>Ad
noncomputable def LB(lt:D->D->Al)(x:D):Ac D->Ac D
 |[]=>[x]
 |y::ys=>if lt y x=Ab then y::LB lt x ys else x::y::ys
noncomputable def NB(lt:D->D->Al):Ac D->Ac D
 |[]=>[]
 |x::xs=>LB lt x (NB lt xs)
noncomputable def LA:Ac D->Al
 |[]=>Ab
 |x::xs=>xs.all (λy=>!eqD x y)&&LA xs
noncomputable def GH(xs:Ac D):R (Ac D):=if (xs.all (λd=>rkD 1 d && !eqD d (.tup []))&&LA xs&&decide (xs.length<=1000))=Ab then .ok (NB (ltD 1) xs) else .bad
noncomputable def BU:Dr->D->D->R D
  |.Eq,x,y=>if (flD 5 x&&flD 5 y)=Ab then .ok (.bl (eqD x y)) else .bad
  |.NotEq,x,y=>if (flD 5 x&&flD 5 y)=Ab then .ok (.bl (!eqD x y)) else .bad
  |.Lt,.int i,.int j=>.ok (.bl (decide (i<j)))
  |.LtE,.int i,.int j=>.ok (.bl (decide (i<=j)))
  |.Gt,.int i,.int j=>.ok (.bl (decide (j<i)))
  |.GtE,.int i,.int j=>.ok (.bl (decide (j<=i)))
  |.In,x,.lst ys=>if (flD 5 x&&ys.all (flD 5))=Ab then .ok (.bl (ys.any λy=>eqD y x)) else .bad
  |.In,x,.dic kvs=>match J8 x with
    |some k=>.ok (.bl (kvs.any λp=>p.1==k))
    |none=>.bad
  |.In,x,.tup ys=>if (flD 5 x&&ys.all (flD 5))=Ab then .ok (.bl (ys.any λy=>eqD y x)) else .bad
  |.NotIn,x,.lst ys=>if (flD 5 x&&ys.all (flD 5))=Ab then .ok (.bl (!ys.any λy=>eqD y x)) else .bad
  |.NotIn,x,.tup ys=>if (flD 5 x&&ys.all (flD 5))=Ab then .ok (.bl (!ys.any λy=>eqD y x)) else .bad
  |.NotIn,.str x,.str y=>.ok (.bl (!(!(Ch y x 0 y.length 1).isEmpty)))
  |.Is,.non,.non=>.ok (.bl Ab)
  |.Is,.bl _,.non=>.ok (.bl Ad)
  |.Is,.int _,.non=>.ok (.bl Ad)
  |.Is,.str _,.non=>.ok (.bl Ad)
  |.Is,.tup _,.non=>.ok (.bl Ad)
  |.Is,.lst _,.non=>.ok (.bl Ad)
  |.Is,.obj _ _,.non=>.ok (.bl Ad)
  |.Is,.bl a,.bl b=>.ok (.bl (a==b))
  |.IsNot,.bl a,.bl b=>.ok (.bl (!(a==b)))
  |.IsNot,.non,.non=>.ok (.bl Ad)
  |.IsNot,.bl _,.non=>.ok (.bl Ab)
  |.IsNot,.int _,.non=>.ok (.bl Ab)
  |.IsNot,.str _,.non=>.ok (.bl Ab)
  |.IsNot,.tup _,.non=>.ok (.bl Ab)
  |.IsNot,.lst _,.non=>.ok (.bl Ab)
  |.IsNot,.obj _ _,.non=>.ok (.bl Ab)
  |_,_,_=>.bad
noncomputable def BS:D->R Al
 |.non=>.ok Ad
 |.bl b=>.ok b
 |.int i=>.ok (i != 0)
 |.str x=>if BG x.length=Ab then .ok (x.length != 0) else .bad
 |.tup xs=>.ok (!xs.isEmpty)
 |.lst xs=>.ok (!xs.isEmpty)
 |_=>.bad
noncomputable def plD(n:Af)(i:Ah):Ao Af:=if 0<=i then (if i<n then Aa i.toNat else Ae) else if -(n:Ah)<=i then Aa (i+n).toNat else Ae
noncomputable def CW(xs:Ac D)(i:Ah):R D:=match plD xs.length i with
  |some k=>match xs[k]? with
    |some d=>.ok d
    |none=>.bad
  |none=>.bad
noncomputable def Qb(kvs:Ac (Ac Ah×D))(k:Ac Ah):Ao D:=(kvs.find? λp=>p.1==k).map (·.2)
noncomputable def Vl(kvs:Ac (Ac Ah×D))(k:Ac Ah)(v:D):Ac (Ac Ah×D):=if (kvs.any λp=>p.1==k)=Ab then kvs.map (λp=>if (p.1==k)=Ab then (k,v) else p) else kvs++[(k,v)]
noncomputable def Jr(x:Ag):Ac D:=x.cps.toList.map λc=>.str ⟨#[c]⟩
noncomputable def HW:D->D->R D
  |.str x,.int i=>if BG x.length=Ab then CW (Jr x) i else .bad
  |.lst xs,.int i=>CW xs i
  |.tup xs,.int i=>CW xs i
  |.dic kvs,k=>match (J8 k).bind (Qb kvs) with
    |some d=>.ok d
    |none=>.bad
  |_,_=>.bad
noncomputable def Ei:D->R Ah
 |.int i=>.ok i
 |_=>.bad
noncomputable def D5:D->R Al
 |.bl b=>.ok b
 |_=>.bad
noncomputable def FF:D->R (Ac D)
 |.lst xs=>.ok xs
 |.tup xs=>.ok xs
 |_=>.bad
noncomputable def J7:D->R (Ac D)
 |.lst xs=>.ok xs
 |_=>.bad
inductive BI where
 |len|abs|max|min|int|list|tuple|all|any|sum|sorted|str|count|stp|lset|tmin|tmax|tlt|rvs|sjoin|ssplit|index
 deriving DecidableEq,Inhabited
inductive Ki where
 |int|bool|str|list|tuple|verr|cls (c:Af)
 deriving DecidableEq,Inhabited
mutual
inductive E where
 |non|bl (b:Al)|int (i:Ah)|str (x:Ag)
 |var (i:Af)|glob (g:Af)
 |bin (op:Fx) (a b:E)|un (op:Kb) (a:E)|no (a:E)
 |and (es:Es)|or (es:Es)
 |cmp (op:Dr) (a b:E)|cmp2 (op op':Dr) (a b c:E)
 |ite (c a b:E)
 |call (f:Af) (as:Es)|bi (b:BI) (as:Es)
 |isi (a:E) (ks:Ac Ki)
 |idx (a i:E)|sl (a lo hi:E)
 |tup (es:Es)|lst (es:Es)
 |comp (elt:E) (t:Af) (it:I) (c:E)|compT (elt:E) (ts:Ac Af) (it:I) (c:E)|tupI (it:I)|dnew
 |fld (o:E) (f:Ag)|mkx (c:Af) (as:Es)
 |ofl (o:E) (f:Ag)|iso (a:E) (k:Af)|meth (m:Ag) (ms:Ac (Af×Af)) (o:E)|mkob (c:Af) (e:E)|mkn (c:Af) (as:Es)
 |methA (m:Ag) (ms:Ac (Af×Af)) (o e:E)
inductive Es where
 |nil|cons (e:E) (es:Es)
inductive I where
 |e (a:E)|rng (a:E)|rng2 (a b:E)|rng3 (a b c:E)|zip (a b:E)|zip3 (a b c:E)|enm (a:E)
end
abbrev Sl:=Ao (D×Al)
abbrev Rho:=Ac Sl
structure Gam where
 F:Af->Ac D->R D
 G:Af->D
 up:Af->Ac Af
 /-- the defs whose answer is a new list -/
 fr:Af->Al
 /-- what is raised: the class,what it is made of -/
 xn:Af->Ac D->R Ex
noncomputable def Dt(lo:Ah)(n:Af):Ac D:=(Ba n).map fun(k:Af)=>D.int (lo+(k:Ah))
noncomputable def Dk(lo hi:Ah):R (Ac D):=if (-(4611686018427387904:Ah)<=lo/\lo<4611686018427387904)/\(-(4611686018427387904:Ah)<=hi/\hi<4611686018427387904)/\hi-lo<1000000 then .ok (Dt lo (hi-lo).toNat) else .bad
noncomputable def KN(lo:Ah)(n:Af):Ac D:=(Ba n).map fun(k:Af)=>D.int (lo-(k:Ah))
noncomputable def Me(lo hi c:Ah):R (Ac D):=if c=-1/\(-(4611686018427387904:Ah)<=lo/\lo<4611686018427387904)/\(-(4611686018427387904:Ah)<=hi/\hi<4611686018427387904)/\lo-hi<1000000 then .ok (KN lo (lo-hi).toNat) else .bad
noncomputable def VM(x:Ag):Ac D:=x.cps.toList.map λc=>D.str ⟨#[c]⟩
noncomputable def asZ:D->R (Ac D)
 |.str x=>if x.cps.all (· < 128)=Ab then .ok (VM x) else .bad
 |d=>FF d
noncomputable def kiD(up:Af->Ac Af):Ki->D->Al
 |.int,.int _=>Ab
 |.int,.bl _=>Ab
 |.bool,.bl _=>Ab
 |.str,.str _=>Ab
 |.list,.lst _=>Ab
 |.tuple,.tup _=>Ab
 |.cls c,.obj k _=>(up k).contains c
 |.cls c,.exc k _=>(up k).contains c
 |.verr,.exc _ _=>Ab
 |_,_=>Ad
noncomputable def Eo:Ki->Al
 |.cls _=>Ab
 |.verr=>Ab
 |_=>Ad
noncomputable def EI(up:Af->Ac Af)(ks:Ac Ki)(x:D):R D:=match x with
  |.obj _ _=>.bad
  |.exc _ _=>if ks.all Eo=Ab then .ok (.bl (ks.any λk=>kiD up k x)) else .bad
  |.dic _=>.bad
  |_=>if ks.any Eo=Ab then .bad else .ok (.bl (ks.any λk=>kiD up k x))
noncomputable def Gk:D->R Al
 |.non=>.ok Ad
 |.bl b=>.ok b
 |.int i=>.ok (i != 0)
 |_=>.bad
noncomputable def Gg:Ac D->R Al
 |[]=>.ok Ab
 |x::r=>(Gk x).bind λb=>(Gg r).bind λc=>.ok (b&&c)
noncomputable def J6:Ac D->R Al
 |[]=>.ok Ad
 |x::r=>(Gk x).bind λb=>(J6 r).bind λc=>.ok (b||c)
noncomputable def MC:Ah->Ac D->R Ah
 |a,[]=>.ok a
 |a,.int i::r=>MC (a+i) r
 |_,_=>.bad
noncomputable def D6:Ac D->Ac D->Ac D
 |x::xs,y::ys=>.tup [x,y]::D6 xs ys
 |_,_=>[]
noncomputable def VD:Ac D->Ac D->Ac D->Ac D
 |x::xs,y::ys,z::zs=>.tup [x,y,z]::VD xs ys zs
 |_,_,_=>[]
noncomputable def VC(x y z:D):R (Ac D):=(FF x).bind λxs=>(FF y).bind λys=>(FF z).bind λzs=>if 0<xs.length/\xs.length<=1000/\ys.length=xs.length/\zs.length=xs.length then .ok (VD xs ys zs) else .bad
noncomputable def D4:Ah->Ac D->Ac D
 |_,[]=>[]
 |i,x::xs=>.tup [.int i,x]::D4 (i+1) xs
noncomputable def nlD:Af->D->Al
 |_,.non=>Ab
 |_,.bl _=>Ab
 |_,.int _=>Ab
 |_,.str _=>Ab
 |n+1,.tup xs=>xs.all (nlD n)
 |_,_=>Ad
noncomputable def Fl(fr:Al):D->Al
 |.lst ds=>fr&&ds.all (nlD 5)
 |d=>nlD 5 d
noncomputable def NH:Ac D->Ao (Ac Ah)
 |[]=>Aa []
 |.int i::r=>(NH r).map (i :: ·)
 |_=>Ae
noncomputable def Ww(i:Ah):Ac Ah->Ah
 |[]=>i
 |j::r=>Ww (if j<i then j else i) r
noncomputable def pk2(k n:Af):Ac Af:=(Ba ((n-min k n+1)/2)).map λj=>min k n+2*j
noncomputable def WF(k:Af)(xs:Ac D):Ac D:=(pk2 k xs.length).filterMap λi=>xs[i]?
noncomputable def ddS(acc:Ac Ah)(x:Ah):Ac Ah:=if acc.any (· == x)=Ab then acc else acc++[x]
noncomputable def ddN(is:Ac Ah):Af:=(is.foldl ddS []).length
noncomputable def V4(xs:Ac D):R D:=match NH xs with
  |some is=>if DH is.length 4000=Ab then .ok (.int (ddN is)) else .bad
  |none=>.bad
noncomputable def mmD(mx:Al)(x y:D):R D:=if [x,y].all (λd=>rkD 1 d && !eqD d (.tup []))=Ab then .ok (if (if mx=Ab then ltD 1 x y else ltD 1 y x)=Ab then y else x) else .bad
noncomputable def WA(x y:D):R D:=if [x,y].all (λd=>rkD 1 d && !eqD d (.tup []))=Ab then .ok (.bl (ltD 1 x y)) else .bad
noncomputable def ZD(k:Ac Ah):Ah:=reduceHash (Builtin.Tuple.tupleHashOf (k.map hashInt))
noncomputable def V5:Ac D->Ao (Ac (Ac Ah))
 |[]=>Aa []
 |.tup xs::r=>(NH xs).bind λk=>(V5 r).map (k :: ·)
 |_=>Ae
noncomputable def Wf:Ac Ah->Al
 |[]=>Ab
 |h::r=>!r.contains h&&Wf r
noncomputable def vI(xs:Ac D):R D:=match V5 xs with
  |some ks=>if (DH ks.length 3&&Wf (ks.map ZD))=Ab then .ok (.int ks.length) else .bad
  |none=>.bad
noncomputable def JY:Ac D->Ao (Ac Ag)
 |[]=>Aa []
 |.str x::r=>(JY r).map (x :: ·)
 |_=>Ae
noncomputable def Mj(s:Ag)(xs:Ac D):R D:=match JY xs with
  |some ss=>if JF s ss=Ab then .ok (.str (LN s ss)) else .bad
  |none=>.bad
noncomputable def WD(i:Ah):Al:=decide (i.natAbs<1000)
noncomputable def N1(x y:Ag):Al:=DH x.length 1000000&&DH (XJ x (Ch x y 0 x.length (x.length+1)) y.length).length 1000000
noncomputable def FH(x:Ag)(l h:Ao Ah):Ag:=if ((DO l h 1 x.length).length==x.length)=Ab then x else ⟨((DO l h 1 x.length).filterMap (x.cps[·]?)).toArray⟩
noncomputable def Mq(xs:Ac D)(x:D):R D:=if (flD 5 x&&xs.all (flD 5))=Ab then (match xs.findIdx? λy=>eqD y x with
  |some j=>.ok (.int (j:Af))
  | none=>.bad) else .bad
noncomputable def biD:BI->Ac D->R D
  |.len,[.lst xs]=>.ok (.int xs.length)
  |.len,[.tup xs]=>.ok (.int xs.length)
  |.len,[.str x]=>if BG x.length=Ab then .ok (.int x.length) else .bad
  |.abs,[.int i]=>.ok (.int (if i<0 then -i else i))
  |.max,[.int i,.int j]=>.ok (.int (if i<j then j else i))
  |.min,[.int i,.int j]=>.ok (.int (if j<i then j else i))
  |.min,[.lst xs]=>match NH xs with
    |some (i::is)=>.ok (.int (Ww i is))
    |_=>.bad
  |.int,[.int i]=>.ok (.int i)
  |.int,[.bl b]=>.ok (.int (b2i b))
  |.list,[.lst xs]=>.ok (.lst xs)
  |.list,[.tup xs]=>.ok (.lst xs)
  |.tuple,[.lst xs]=>.ok (.tup xs)
  |.tuple,[.tup xs]=>.ok (.tup xs)
  |.all,[.lst xs]=>(Gg xs).bind λb=>.ok (.bl b)
  |.any,[.lst xs]=>(J6 xs).bind λb=>.ok (.bl b)
  |.any,[.tup xs]=>(J6 xs).bind λb=>.ok (.bl b)
  |.sum,[.lst xs]=>(MC 0 xs).bind λi=>.ok (.int i)
  |.sum,[.tup xs]=>(MC 0 xs).bind λi=>.ok (.int i)
  |.sorted,[.lst xs]=>(GH xs).bind λys=>.ok (.lst ys)
  |.index,[.lst xs,x]=>Mq xs x
  |.count,[.lst xs,x]=>if (flD 5 x&&xs.all (flD 5))=Ab then .ok (.int ((xs.filter λy=>eqD y x).length:Af)) else .bad
  |.len,[.dic kvs]=>.ok (.int kvs.length)
  |.stp,[.lst xs,.int k]=>.ok (.lst (WF k.toNat xs))
  |.lset,[.lst xs]=>V4 xs
  |.lset,[.tup xs]=>vI xs
  |.sjoin,[.str s,.lst xs]=>Mj s xs
  |.str,[.int i]=>if WD i=Ab then .ok (.str (AT (toString i))) else .bad
  |.ssplit,[.str x,.str y]=>if (!(y.length==0)&&N1 x y)=Ab then .ok (.lst ((JH x y).map D.str)) else .bad
  |.tmin,[x,y]=>mmD Ad x y
  |.tmax,[x,y]=>mmD Ab x y
  |.tlt,[x,y]=>WA x y
  |.rvs,[.lst xs]=>.ok (.lst xs.reverse)
  |_,_=>.bad
noncomputable def slE(c:E)(d:D):R (Ao Ah):=match c with
  |.non=>.ok Ae
  |_=>(Ei d).bind λi=>.ok (Aa i)
noncomputable def Jn(n d:Af):Ao Ah->Af
 |none=>d
 |some i=>if i<0 then (i+n).toNat else min i.toNat n
noncomputable def GL(xs:Ac D)(lo hi:Ao Ah):Ac D:=(xs.drop (Jn xs.length 0 lo)).take (Jn xs.length xs.length hi-Jn xs.length 0 lo)
noncomputable def slD:D->Ao Ah->Ao Ah->R D
 |.lst xs,l,h=>.ok (.lst (GL xs l h))
 |.tup xs,l,h=>if (Jn xs.length 0 l==0&&Jn xs.length xs.length h==xs.length)=Ab then .bad else .ok (.tup (GL xs l h))
 |.str x,l,h=>if (BG x.length&&BG (FH x l h).length)=Ab then .ok (.str (FH x l h)) else .bad
 |_,_,_=>.bad
noncomputable def oup:Af->Ac Af
 |0=>[0]
 |1=>[1,0]
 |2=>[2,0]
 |_=>[]
noncomputable def ofD:D->Ag->R D
  |.obj _ fs,f=>match fs.lookup f with
    |some d=>.ok d
    |none=>.bad
  |_,_=>.bad
noncomputable def QR(k:Af):D->R D
 |.obj c _=>.ok (.bl ((oup c).contains k))
 |_=>.bad
noncomputable def NE(F:Af->Ac D->R D)(m:Ag)(ms:Ac (Af×Af)):D->R D
  |.obj c fs=>match ms.lookup c with
    |some id=>if (fs.lookup m).isNone=Ab then F id [.obj c fs] else .bad
    |none=>.bad
  |_=>.bad
noncomputable def Mv(m:Ag)(ms:Ac (Af×Af)):D->R Af
  |.obj c fs=>match ms.lookup c with
    |some id=>if (fs.lookup m).isNone=Ab then .ok id else .bad
    |none=>.bad
  |_=>.bad
noncomputable def DA(c:Af):D->R D
 |.tup [a,b]=>if nlD 5 b=Ab then .ok (.obj c [("p",a),("triple",b)]) else .bad
 |_=>.bad
noncomputable def N9:D->Ag->R D
  |.exc _ fs,f=>match fs.lookup f with
    |some d=>.ok d
    |none=>.bad
  |_,_=>.bad
noncomputable def E5(U:Rho)(i:Af):R D:=match U[i]? with
  |some (Aa (d,Ad))=>.ok d
  |_=>.bad
noncomputable def ZU:D->R D
 |.lst xs=>.ok (.lst xs)
 |_=>.bad
noncomputable def Eb(U:Rho)(i:Af):R D:=match U[i]? with
  |some (Aa (d,Ad))=>.ok d
  |some (Aa (d,Ab))=>ZU d
  |_=>.bad
noncomputable def shE(U:Rho):E->Al
  | .var i=>(match U[i]? with
    |some (Aa (_,Ab))=>Ad
    | _=>Ab)
  |_=>Ab
noncomputable def HV(U:Rho):Es->Al
 |.nil=>Ab
 |.cons e es=>shE U e&&HV U es
noncomputable def Fe:Ac Af->Ac D->Rho->Ao Rho
 |[],[],U=>Aa U
 |t::ts,d::ds,U=>Fe ts ds (U.set t (Aa (d,Ad)))
 |_,_,_=>Ae
noncomputable def EF(ts:Ac Af)(d:D)(U:Rho):R Rho:=match d with
  | .tup xs=>(match Fe ts xs U with
    |some U'=>.ok U'
    | none=>.bad)
  |_=>.bad
noncomputable def NW(ts:Ac Af)(d:D)(U:Rho):R Rho:=match d with
  | .lst xs=>(match Fe ts xs U with
    |some U'=>.ok U'
    | none=>.bad)
  |d=>EF ts d U
noncomputable def BK(g:D->R Al)(f:D->R D):Ac D->R (Ac D)
 |[]=>.ok []
 |x::xs=>(g x).bind λb=>if b=Ab then (f x).bind λy=>(BK g f xs).bind λys=>.ok (y::ys) else BK g f xs
noncomputable def noX{α:Type}:R α->R α
 |.ok a=>.ok a
 |_=>.bad
noncomputable def top(U:Rho)(e:E)(r:R D):R D:=match e with
  |.var i=>Eb U i
  |_=>r
mutual
noncomputable def evE(Z:Gam)(U:Rho):E->R D
 |.non=>.ok .non
 |.bl b=>.ok (.bl b)
 |.int i=>.ok (.int i)
 |.str x=>.ok (.str x)
 |.var i=>E5 U i
 |.glob g=>.ok (Z.G g)
 |.bin op a b=>(top U a (evE Z U a)).bind λx=>(top U b (evE Z U b)).bind λy=>CN op x y
 |.un op a=>(top U a (evE Z U a)).bind λx=>unD op x
 |.no a=>(top U a (evE Z U a)).bind λx=>(D5 x).bind λb=>.ok (.bl (!b))
 |.and es=>evN Z U es
 |.or es=>evO Z U es
 |.cmp op a b=>(top U a (evE Z U a)).bind λx=>(top U b (evE Z U b)).bind λy=>BU op x y
 |.cmp2 op op' a b c=>(top U a (evE Z U a)).bind λx=>(top U b (evE Z U b)).bind λy=>(BU op x y).bind λz=>(D5 z).bind λk=>if k=Ab then (top U c (evE Z U c)).bind λu=>BU op' y u else .ok (.bl Ad)
 |.ite c a b=>(top U c (evE Z U c)).bind λx=>(BS x).bind λk=>if k=Ab then evE Z U a else evE Z U b
 |.call f as=>(evB Z U as).bind λxs=>(Z.F f xs).bind λd=>if HV U as=Ab then .ok d else if Fl (Z.fr f) d=Ab then .ok d else .bad
 |.bi b as=>(evB Z U as).bind λxs=>biD b xs
 |.isi a ks=>(top U a (evE Z U a)).bind λx=>EI Z.up ks x
 |.idx a i=>(top U a (evE Z U a)).bind λx=>(top U i (evE Z U i)).bind λy=>HW x y
 |.sl a lo hi=>(top U a (evE Z U a)).bind λx=>(top U lo (evE Z U lo)).bind λl=>(slE lo l).bind λl'=>(top U hi (evE Z U hi)).bind λh=>(slE hi h).bind λh'=>slD x l' h'
 |.tup es=>(evA Z U es).bind λxs=>.ok (.tup xs)
 |.lst es=>(evA Z U es).bind λxs=>.ok (.lst xs)
 |.comp elt t it c=>(evI Z U it).bind λxs=>(noX (BK (λx=>(top (U.set t (Aa (x,Ad))) c (evE Z (U.set t (Aa (x,Ad))) c)).bind BS) (λx=>evE Z (U.set t (Aa (x,Ad))) elt) xs)).bind λys=>.ok (.lst ys)
 |.compT elt ts it c=>(evI Z U it).bind λxs=>(noX (BK (λx=>(EF ts x U).bind λU'=>(top U' c (evE Z U' c)).bind BS) (λx=>(EF ts x U).bind λU'=>evE Z U' elt) xs)).bind λys=>.ok (.lst ys)
 |.tupI it=>(evI Z U it).bind λxs=>.ok (.tup xs)
 |.dnew=>.ok (.dic [])
 |.fld o f=>(top U o (evE Z U o)).bind λx=>N9 x f
 |.mkx c as=>(noX (evA Z U as)).bind λxs=>(Z.xn c xs).bind λx=>.ok (.exc x.c x.fs)
 |.ofl o f=>(top U o (evE Z U o)).bind λx=>ofD x f
 |.iso a k=>(top U a (evE Z U a)).bind λx=>QR k x
 |.meth m ms o=>(top U o (evE Z U o)).bind λx=>NE Z.F m ms x
 |.mkob c e=>(evE Z U e).bind λx=>DA c x
 |.mkn c as=>(evA Z U as).bind λxs=>Z.F (900+c) xs
 |.methA m ms o e=>(noX (top U o (evE Z U o))).bind λx=>(Mv m ms x).bind λid=>(noX (evE Z U e)).bind λy=>Z.F id [x,y]
noncomputable def evN(Z:Gam)(U:Rho):Es->R D
 |.nil=>.bad
 |.cons e .nil=>evE Z U e
 |.cons e (.cons e' es)=>(evE Z U e).bind λx=>(D5 x).bind λc=>if c=Ab then evN Z U (.cons e' es) else .ok (.bl Ad)
noncomputable def evO(Z:Gam)(U:Rho):Es->R D
 |.nil=>.bad
 |.cons e .nil=>evE Z U e
 |.cons e (.cons e' es)=>(evE Z U e).bind λx=>(D5 x).bind λc=>if c=Ab then .ok (.bl Ab) else evO Z U (.cons e' es)
noncomputable def evA(Z:Gam)(U:Rho):Es->R (Ac D)
 |.nil=>.ok []
 |.cons e es=>(evE Z U e).bind λx=>(evA Z U es).bind λxs=>.ok (x::xs)
noncomputable def evB(Z:Gam)(U:Rho):Es->R (Ac D)
 |.nil=>.ok []
 |.cons e es=>(top U e (evE Z U e)).bind λx=>(evB Z U es).bind λxs=>.ok (x::xs)
noncomputable def evI(Z:Gam)(U:Rho):I->R (Ac D)
 |.e a=>(evE Z U a).bind FF
 |.rng a=>(top U a (evE Z U a)).bind λx=>(Ei x).bind λj=>Dk 0 j
 |.rng2 a b=>(top U a (evE Z U a)).bind λx=>(top U b (evE Z U b)).bind λy=>(Ei x).bind λi=>(Ei y).bind λj=>Dk i j
 |.rng3 a b c=>(top U a (evE Z U a)).bind λx=>(top U b (evE Z U b)).bind λy=>(top U c (evE Z U c)).bind λz=>(Ei x).bind λi=>(Ei y).bind λj=>(Ei z).bind λk=>Me i j k
 |.zip a b=>(evE Z U a).bind λx=>(evE Z U b).bind λy=>(asZ x).bind λxs=>(FF y).bind λys=>.ok (D6 xs ys)
 |.zip3 a b c=>(evE Z U a).bind λx=>(evE Z U b).bind λy=>(evE Z U c).bind λz=>VC x y z
 |.enm a=>(evE Z U a).bind λx=>(FF x).bind λxs=>.ok (D4 0 xs)
end
noncomputable def B5(Z:Gam):E->Al
 |.lst _=>Ab
 |.comp _ _ _ _=>Ab
 |.compT _ _ _ _=>Ab
 |.dnew=>Ab
 |.bin .Add _ _=>Ab
 |.bi .list _=>Ab
 |.bi .sorted _=>Ab
 |.sl _ _ _=>Ab
 |.call f _=>Z.fr f
 |_=>Ad
mutual
inductive S where
 |pass
 /-- x=e;fresh: x alone holds the new list -/
 |asg (i:Af) (fresh:Al) (e:E)
 /-- a,b,..=e -/
 |asgT (ts:Ac Af) (e:E)
 |expr (e:E)
 |ret (e:E)|retN
 /-- return [f(..) for .. in ..]: what f raises flies out -/
 |retc (ts:Ac Af) (it:I) (f:Af) (as:Es)
 |ife (c:E) (a b:Ss)
 |fors (t:Af) (it:I) (body:Ss)
 |forT (ts:Ac Af) (it:I) (body:Ss)
 /-- for t,u in enumerate(x): x is held alone -/
 |forO (i:Af) (ts:Ac Af) (body:Ss)
 |whl (c:E) (body:Ss)
 /-- raise C(e,..) -/
 |rais (c:Af) (as:Es)
 /-- try: body except C as x: h -/
 |tryx (body:Ss) (c:Af) (x:Af) (h:Ss)
 /-- .. except C as x: h,except C' as x: h',else: els -/
 |try2 (body:Ss) (c:Af) (x:Af) (h:Ss) (c':Af) (h' els:Ss)
 /-- x.append(e),x.extend(e),x.insert(k,e),x.reverse(),x.clear() -/
 |app (i:Af) (e:E)|ext (i:Af) (e:E)|ins (i:Af) (k e:E)|rev (i:Af)|clr (i:Af)
 /-- d[k]=e,d.setdefault(k,e) -/
 |dput (i:Af) (k e:E)|dsd (i:Af) (k e:E)
 /-- x[k]=e -/
 |put (i:Af) (k e:E)
 /-- x[k],x[l]=x[l],x[k] -/
 |swp (i k l:Af)
 /-- x.append(y.pop(e)) -/
 |apop (j i:Af) (e:E)
 |brk|cont
 /-- x=[list(..),..];y=e;z=e';if c: ..;for w in x: w.clear() -/
 |hand (i:Af) (es:Es) (p:Af) (e:E) (r:Af) (e':E) (c:E) (n:Af)
 /-- nothing: from here on x is no longer changed -/
 |rel (i:Af)
inductive Ss where
 |nil|cons (s:S) (ss:Ss)
end
inductive O where
 |next (U:Rho)|ret (d:D) (fr:Al)|brk (U:Rho)|cont (U:Rho)|exn (x:Ex) (U:Rho)|bad
 deriving Inhabited
noncomputable def O.of{α:Type}(U:Rho)(r:R α)(f:α->O):O:=match r with
  |.ok a=>f a
  |.exn x=>.exn x U
  |.bad=>.bad
@[simp]theorem O.of_ok(U:Rho)(a:α)(f:α->O):O.of U (.ok a) f=f a:=rfl
@[simp]theorem O.of_exn(U:Rho)(x:Ex)(f:α->O):O.of U (.exn x:R α) f=.exn x U:=rfl
@[simp]theorem O.of_bad(U:Rho)(f:α->O):O.of U (.bad:R α) f=.bad:=rfl
noncomputable def MF:D->Al
 |.lst (.int _::_)=>Ab
 |_=>Ad
noncomputable def N0:D->Al
 |.obj _ fs=>fs.all λf=>nlD 5 f.2
 |_=>Ad
noncomputable def ME:D->Al
 |.lst (d::ds)=>(d::ds).all N0
 |_=>Ad
noncomputable def Mr(f1:Rho->R (Ac D))(f2 f3:Rho->R D)(fc:Rho->R Al)(i p r n:Af)(U:Rho):O:=
 O.of U (noX (f1 U)) λds=>O.of U (noX (f2 (U.set i (Aa (.lst ds,Ad))))) λd2=>O.of U (noX (f3 ((U.set i (Aa (.lst ds,Ad))).set p (Aa (d2,Ad))))) λd3=>O.of U (noX (fc (((U.set i (Aa (.lst ds,Ad))).set p (Aa (d2,Ad))).set r (Aa (d3,Ad))))) λk=>
  if (!k&&(ds.all MF && !ds.isEmpty&&(ME d2&&ME d3)&&(decide (i<U.length)&&decide (n<U.length))))=Ab then .next ((((U.set i Ae).set p (Aa (d2,Ad))).set r (Aa (d3,Ad))).set n Ae) else .bad
noncomputable def G7(Z:Gam)(U:Rho)(i:I):R (Ac D):=evI Z U i
noncomputable def Ck(U:Rho)(i:Af):R (Ac D):=match U[i]? with
  |some (Aa (.lst xs,Ab))=>.ok xs
  |_=>.bad
noncomputable def Ws(U:Rho)(i:Af):R (Ac (Ac Ah×D)):=match U[i]? with
  |some (Aa (.dic xs,Ab))=>.ok xs
  |_=>.bad
noncomputable def V6(d:D):R (Ac Ah):=match J8 d with
  |some k=>.ok k
  |none=>.bad
noncomputable def VW:Af:=4096
noncomputable def O.seq(o:O)(f:Rho->O):O:=match o with
  |.next U=>f U
  |.ret d b=>.ret d b
  |.brk U=>.brk U
  |.cont U=>.cont U
  |.exn x U=>.exn x U
  |.bad=>.bad
noncomputable def O.turn(o:O)(f:Rho->O):O:=match o with
  |.next U=>f U
  |.cont U=>f U
  |.brk U=>.next U
  |.ret d b=>.ret d b
  |.exn x U=>.exn x U
  |.bad=>.bad
noncomputable def BH(body:D->Rho->O):Ac D->Rho->O
 |[],U=>.next U
 |x::xs,U=>(body x U).turn (BH body xs)
noncomputable def QI(c:Rho->R Al)(body:Rho->O):Af->Rho->O
 |0,_=>.bad
 |n+1,U=>O.of U (c U) λb=>if b=Ab then (body U).turn (QI c body n) else .next U
noncomputable def VQ(U:Rho)(k:Af):R Ah:=(E5 U k).bind Ei
noncomputable def ZN(U:Rho)(d:D)(i k l:Af):O:=match d with
  |.tup [x,y]=>O.of U (Ck U i) λxs=>O.of U (VQ U k) λa=>O.of U (VQ U l) λb=>match plD xs.length a,plD xs.length b with
    |some m,Aa n=>.next (U.set i (Aa (.lst ((xs.set m x).set n y),Ab)))
    |_,_=>.bad
  |_=>.bad
noncomputable def apD(U:Rho)(j i:Af)(ys xs:Ac D)(n:Ah):O:=match plD xs.length n with
  | some m=>(match xs[m]? with
    |some d=>if (j != i&&(BG xs.length&&BG (ys.length+1)))=Ab then .next ((U.set i (Aa (.lst (xs.eraseIdx m),Ab))).set j (Aa (.lst (ys++[d]),Ab))) else .bad
    | none=>.bad)
  |none=>.bad
noncomputable def hdO(i:Af)(y:Ex)(U':Rho)(fh:Rho->O):O:=match fh (U'.set i (Aa (.exc y.c y.fs,Ad))) with
  |.next U''=>.next (U''.set i Ae)
  |.ret d f=>.ret d f
  |_=>.bad
noncomputable def QS(U:Rho)(i:Af):D->O
 |.lst xs=>.next (U.set i (Aa (.lst xs,Ad)))
 |_=>.bad
noncomputable def G5(U:Rho)(i:Af):Al:=match U[i]? with
  |some (Aa (.non,Ab))=>Ab
  |_=>Ad
noncomputable def KD(i:Af)(xs:Ac D):O->O
 |.next U=>if G5 U i=Ab then .next (U.set i (Aa (.lst xs,Ab))) else .bad
 |.ret d fr=>.ret d fr
 |_=>.bad
mutual
noncomputable def evS(Z:Gam)(U:Rho):S->O
  |.pass=>.next U
  | .asg i fresh e=>O.of U (evE Z U e) λd=>if fresh=Ab then (if B5 Z e=Ab then (match d with
      |.lst xs=>.next (U.set i (Aa (.lst xs,Ab)))
      |.dic xs=>.next (U.set i (Aa (.dic xs,Ab)))
      | _=>.bad) else .bad) else .next (U.set i (Aa (d,Ad)))
  |.asgT ts e=>O.of U (evE Z U e) λd=>O.of U (NW ts d U) λU'=>.next U'
  |.expr e=>O.of U (evE Z U e) λ_=>.next U
  |.ret e=>O.of U (top U e (evE Z U e)) λd=>.ret d (B5 Z e||(match e with | .var i=>(match U[i]? with|some (Aa (_,o))=>o|_=>Ad)|_=>Ad))
  |.retN=>.ret .non Ad
  |.retc ts it f as=>O.of U ((G7 Z U it).bind λxs=>(BK (λx=>(EF ts x U).bind λ_=>.ok Ab) (λx=>(EF ts x U).bind λU'=>evE Z U' (.call f as)) xs).bind λys=>.ok (.lst ys)) λd=>.ret d Ab
  |.ife c a b=>O.of U ((top U c (evE Z U c)).bind BS) λk=>if k=Ab then evSs Z U a else evSs Z U b
  |.fors t it body=>O.of U (G7 Z U it) λxs=>BH (λx U'=>evSs Z (U'.set t (Aa (x,Ad))) body) xs U
  |.forT ts it body=>O.of U (G7 Z U it) λxs=>BH (λx U'=>O.of U' (EF ts x U') λU''=>evSs Z U'' body) xs U
  |.forO i ts body=>O.of U (Ck U i) λxs=>KD i xs (BH (λx U'=>if G5 U' i=Ab then O.of U' (EF ts x U') λU''=>evSs Z U'' body else .bad) (D4 0 xs) (U.set i (Aa (.non,Ab))))
  |.whl c body=>QI (λU'=>(top U' c (evE Z U' c)).bind BS) (λU'=>evSs Z U' body) VW U
  |.rais c as=>O.of U (noX (evA Z U as)) λxs=>O.of U (Z.xn c xs) λx=>.exn x U
  |.tryx body c x h=>match evSs Z U body with
      | .exn y U'=>if (Z.up y.c).contains c=Ab then (match evSs Z (U'.set x (Aa (.exc y.c y.fs,Ad))) h with
          |.next U''=>.next (U''.set x Ae)
          |.ret d f=>.ret d f
          | _=>.bad) else .bad
      |o=>o
  |.try2 body c x h c' h' els=>match evSs Z U body with
      |.exn y U'=>if (Z.up y.c).contains c=Ab then hdO x y U' (λr=>evSs Z r h) else if (Z.up y.c).contains c'=Ab then hdO x y U' (λr=>evSs Z r h') else .bad
      |.next U'=>evSs Z U' els
      |o=>o
  |.app i e=>O.of U (Ck U i) λxs=>O.of U (evE Z U e) λd=>if BG (xs.length+1)=Ab then .next (U.set i (Aa (.lst (xs++[d]),Ab))) else .bad
  |.ext i e=>if B5 Z e=Ab then (O.of U (Ck U i) λxs=>O.of U (evE Z U e) λd=>O.of U (J7 d) λys=>if BG (xs.length+ys.length)=Ab then .next (U.set i (Aa (.lst (xs++ys),Ab))) else .bad) else .bad
  |.ins i k e=>O.of U (Ck U i) λxs=>O.of U ((top U k (evE Z U k)).bind Ei) λj=>O.of U (evE Z U e) λd=>if (BG (xs.length+1)&&decide (0<=j)&&decide (j<=xs.length))=Ab then .next (U.set i (Aa (.lst (xs.take j.toNat++d::xs.drop j.toNat),Ab))) else .bad
  |.rev i=>O.of U (Ck U i) λxs=>.next (U.set i (Aa (.lst xs.reverse,Ab)))
  |.clr i=>O.of U (Ck U i) λ_=>.next (U.set i (Aa (.lst [],Ab)))
  |.dput i k e=>O.of U (evE Z U e) λd=>O.of U (Ws U i) λxs=>O.of U ((evE Z U k).bind V6) λj=>if BG (xs.length+1)=Ab then .next (U.set i (Aa (.dic (Vl xs j d),Ab))) else .bad
  |.dsd i k e=>O.of U (Ws U i) λxs=>O.of U ((evE Z U k).bind V6) λj=>O.of U (evE Z U e) λd=>if BG (xs.length+1)=Ab then .next (U.set i (Aa (.dic (if (xs.any λp=>p.1==j)=Ab then xs else Vl xs j d),Ab))) else .bad
  |.put i k e=>O.of U (evE Z U e) λd=>O.of U (Ck U i) λxs=>O.of U ((top U k (evE Z U k)).bind Ei) λj=>match plD xs.length j with
      |some n=>.next (U.set i (Aa (.lst (xs.set n d),Ab)))
      |none=>.bad
  |.swp i k l=>O.of U (evE Z U (.tup (.cons (.idx (.var i) (.var l)) (.cons (.idx (.var i) (.var k)) .nil)))) λd=>ZN U d i k l
  |.apop j i e=>O.of U (Ck U j) λys=>O.of U (Ck U i) λxs=>O.of U (evE Z U e) λd=>O.of U (Ei d) λn=>apD U j i ys xs n
  |.brk=>.brk U
  |.cont=>.cont U
  |.hand i es p e r e' c n=>Mr (λU=>evA Z U es) (λU=>evE Z U e) (λU=>evE Z U e') (λU=>(top U c (evE Z U c)).bind BS) i p r n U
  |.rel i=>match U[i]? with
      |some (Aa (d,Ab))=>QS U i d
      |_=>.next U
noncomputable def evSs(Z:Gam)(U:Rho):Ss->O
 |.nil=>.next U
 |.cons s ss=>(evS Z U s).seq λU'=>evSs Z U' ss
end
structure Df where
 n:Af
 fr:Al
 body:Ss
noncomputable def Cd(n:Af)(ds:Ac D):Rho:=ds.map (λd=>Aa (d,Ad))++GW (n-ds.length) Ae
noncomputable def isL:D->Al
 |.lst _=>Ab
 |.dic _=>Ab
 |_=>Ad
noncomputable def O.ans(fr:Al)(o:O):R D:=match o with
  |.ret d b=>if (fr&&(!b&&isL d))=Ab then .bad else .ok d
  |.next _=>if fr=Ab then .bad else .ok .non
  |.exn x _=>.exn x
  |_=>.bad
noncomputable def Df.run(Z:Gam)(f:Df)(ds:Ac D):R D:=(evSs Z (Cd f.n ds) f.body).ans f.fr
structure Prg where
 xs:Al
 defs:Af->Df
 G:Af->D
 up:Af->Ac Af
 xn:Af->Ac D->R Ex
noncomputable def E7(xs:Al)(r:R D):R D:=match xs with
  |true=>r
  |false=>noX r
noncomputable def gam(P:Prg):Af->Gam
 |0=>⟨λ_ _=>.bad,P.G,P.up,λi=>(P.defs i).fr,P.xn⟩
 |n+1=>⟨λi ds=>E7 P.xs ((P.defs i).run (gam P n) ds),P.G,P.up,λi=>(P.defs i).fr,P.xn⟩
end Ov
end
section
namespace Ov
open PySem
variable{α:Type}{lo hi:Ah}{n:Af}{x:D}
section
variable(Z:Gam)(U:Rho)
@[simp]theorem Zyu:evE Z U .non=.ok .non:=rfl
@[simp]theorem ZAl(b):evE Z U (.bl b)=.ok (.bl b):=rfl
@[simp]theorem ZyB(b):evE Z U (.int b)=.ok (.int b):=rfl
@[simp]theorem Up(b):evE Z U (.str b)=.ok (.str b):=rfl
@[simp]theorem Zys(i):evE Z U (.var i)=E5 U i:=rfl
@[simp]theorem ZuZ(i):evE Z U (.glob i)=.ok (Z.G i):=rfl
@[simp]theorem lP(op a b):evE Z U (.bin op a b)=(top U a (evE Z U a)).bind λx=>(top U b (evE Z U b)).bind λy=>CN op x y:=rfl
@[simp]theorem ZAh(op a):evE Z U (.un op a)=(top U a (evE Z U a)).bind λx=>unD op x:=rfl
@[simp]theorem ZAk(a):evE Z U (.no a)=(top U a (evE Z U a)).bind λx=>(D5 x).bind λb=>.ok (.bl (!b)):=rfl
@[simp]theorem ZyE(es):evE Z U (.and es)=evN Z U es:=rfl
@[simp]theorem ZAj(es):evE Z U (.or es)=evO Z U es:=rfl
@[simp]theorem Zyo(e):evN Z U (.cons e .nil)=evE Z U e:=rfl
@[simp]theorem ZuP(e e' es):evN Z U (.cons e (.cons e' es))=(evE Z U e).bind λx=>(D5 x).bind λc=>if c=Ab then evN Z U (.cons e' es) else .ok (.bl Ad):=rfl
@[simp]theorem Zyn(e):evO Z U (.cons e .nil)=evE Z U e:=rfl
@[simp]theorem ZuO(e e' es):evO Z U (.cons e (.cons e' es))=(evE Z U e).bind λx=>(D5 x).bind λc=>if c=Ab then .ok (.bl Ab) else evO Z U (.cons e' es):=rfl
@[simp]theorem lO(op a b):evE Z U (.cmp op a b)=(top U a (evE Z U a)).bind λx=>(top U b (evE Z U b)).bind λy=>BU op x y:=rfl
@[simp]theorem Zu2(op op' a b c):evE Z U (.cmp2 op op' a b c)=(top U a (evE Z U a)).bind λx=>(top U b (evE Z U b)).bind λy=>(BU op x y).bind λz=>(D5 z).bind λk=>if k=Ab then (top U c (evE Z U c)).bind λu=>BU op' y u else .ok (.bl Ad):=rfl
@[simp]theorem Zyy(c a b):evE Z U (.ite c a b)=(top U c (evE Z U c)).bind λx=>(BS x).bind λk=>if k=Ab then evE Z U a else evE Z U b:=rfl
@[simp]theorem Zu3(f as):evE Z U (.call f as)=(evB Z U as).bind λxs=>(Z.F f xs).bind λd=>if HV U as=Ab then .ok d else if Fl (Z.fr f) d=Ab then .ok d else .bad:=rfl
@[simp]theorem Mn(f as):evE Z U (.bi f as)=(evB Z U as).bind λxs=>biD f xs:=rfl
@[simp]theorem ZyA(a ks):evE Z U (.isi a ks)=(top U a (evE Z U a)).bind λx=>EI Z.up ks x:=rfl
@[simp]theorem ZyC(a i):evE Z U (.idx a i)=(top U a (evE Z U a)).bind λx=>(top U i (evE Z U i)).bind λy=>HW x y:=rfl
@[simp]theorem ZAi(a lo hi):evE Z U (.sl a lo hi)=(top U a (evE Z U a)).bind λx=>(top U lo (evE Z U lo)).bind λl=>(slE lo l).bind λl'=>(top U hi (evE Z U hi)).bind λh=>(slE hi h).bind λh'=>slD x l' h':=rfl
@[simp]theorem lN(es):evE Z U (.tup es)=(evA Z U es).bind λxs=>.ok (.tup xs):=rfl
@[simp]theorem Zyx(es):evE Z U (.lst es)=(evA Z U es).bind λxs=>.ok (.lst xs):=rfl
noncomputable def cG(Z:Gam)(U:Rho)(t:Af)(c:E):D->R Al:=λx=>(top (U.set t (Aa (x,Ad))) c (evE Z (U.set t (Aa (x,Ad))) c)).bind BS
noncomputable def cF(Z:Gam)(U:Rho)(t:Af)(elt:E):D->R D:=λx=>evE Z (U.set t (Aa (x,Ad))) elt
noncomputable def mkL(r:R (Ac D)):R D:=(noX r).bind λys=>.ok (.lst ys)
@[simp]theorem ZzO(ys):mkL (.ok ys)=.ok (.lst ys):=rfl
@[simp]theorem Zu1(elt t it c):evE Z U (.comp elt t it c)=(evI Z U it).bind λxs=>mkL (BK (cG Z U t c) (cF Z U t elt) xs):=rfl
noncomputable def cGT(Z:Gam)(U:Rho)(ts:Ac Af)(c:E):D->R Al:=λx=>(EF ts x U).bind λU'=>(top U' c (evE Z U' c)).bind BS
noncomputable def cFT(Z:Gam)(U:Rho)(ts:Ac Af)(elt:E):D->R D:=λx=>(EF ts x U).bind λU'=>evE Z U' elt
@[simp]theorem Zs6(elt ts it c):evE Z U (.compT elt ts it c)=(evI Z U it).bind λxs=>mkL (BK (cGT Z U ts c) (cFT Z U ts elt) xs):=rfl
@[simp]theorem ZuW(it):evE Z U (.tupI it)=(evI Z U it).bind λxs=>.ok (.tup xs):=rfl
@[simp]theorem Zu0:evE Z U .dnew=.ok (.dic []):=rfl
@[simp]theorem Zyt(o f):evE Z U (.ofl o f)=(top U o (evE Z U o)).bind λx=>ofD x f:=rfl
@[simp]theorem Zyz(a k):evE Z U (.iso a k)=(top U a (evE Z U a)).bind λx=>QR k x:=rfl
@[simp]theorem ZuY(m ms o):evE Z U (.meth m ms o)=(top U o (evE Z U o)).bind λx=>NE Z.F m ms x:=rfl
@[simp]theorem ZuX(c e):evE Z U (.mkob c e)=(evE Z U e).bind λx=>DA c x:=rfl
@[simp]theorem Zyw(c as):evE Z U (.mkn c as)=(evA Z U as).bind λxs=>Z.F (900+c) xs:=rfl
@[simp]theorem Zs5(m ms o e):evE Z U (.methA m ms o e)=(noX (top U o (evE Z U o))).bind λx=>(Mv m ms x).bind λid=>(noX (evE Z U e)).bind λy=>Z.F id [x,y]:=rfl
@[simp]theorem Zyv(c as):evE Z U (.mkx c as)=(noX (evA Z U as)).bind λxs=>(Z.xn c xs).bind λx=>.ok (.exc x.c x.fs):=rfl
@[simp]theorem ZyD(o f):evE Z U (.fld o f)=(top U o (evE Z U o)).bind λx=>N9 x f:=rfl
@[simp]theorem ZyG:evA Z U .nil=.ok []:=rfl
@[simp]theorem Td(e es):evA Z U (.cons e es)=(evE Z U e).bind λx=>(evA Z U es).bind λxs=>.ok (x::xs):=rfl
@[simp]theorem ZyF:evB Z U .nil=.ok []:=rfl
@[simp]theorem Pj(e es):evB Z U (.cons e es)=(top U e (evE Z U e)).bind λx=>(evB Z U es).bind λxs=>.ok (x::xs):=rfl
@[simp]theorem ZBf(a):evI Z U (.e a)=(evE Z U a).bind FF:=rfl
@[simp]theorem Zyq(a):evI Z U (.rng a)=(top U a (evE Z U a)).bind λx=>(Ei x).bind λj=>Dk 0 j:=rfl
@[simp]theorem ZuV(a b):evI Z U (.rng2 a b)=(top U a (evE Z U a)).bind λx=>(top U b (evE Z U b)).bind λy=>(Ei x).bind λi=>(Ei y).bind λj=>Dk i j:=rfl
@[simp]theorem ZBk(xs):asZ (.lst xs)=.ok xs:=rfl
@[simp]theorem ZBj(xs):asZ (.tup xs)=.ok xs:=rfl
@[simp]theorem ZuU(a b c):evI Z U (.rng3 a b c)=(top U a (evE Z U a)).bind λx=>(top U b (evE Z U b)).bind λy=>(top U c (evE Z U c)).bind λz=>(Ei x).bind λi=>(Ei y).bind λj=>(Ei z).bind λk=>Me i j k:=rfl
@[simp]theorem Zs3(a b c):G7 Z U (.rng3 a b c)=evI Z U (.rng3 a b c):=rfl
@[simp]theorem Zyp(a b):evI Z U (.zip a b)=(evE Z U a).bind λx=>(evE Z U b).bind λy=>(asZ x).bind λxs=>(FF y).bind λys=>.ok (D6 xs ys):=rfl
@[simp]theorem ZuT(a b c):evI Z U (.zip3 a b c)=(evE Z U a).bind λx=>(evE Z U b).bind λy=>(evE Z U c).bind λz=>VC x y z:=rfl
@[simp]theorem Zyr(a):evI Z U (.enm a)=(evE Z U a).bind λx=>(FF x).bind λxs=>.ok (D4 0 xs):=rfl
@[simp]theorem ZuQ(a b):G7 Z U (.zip a b)=evI Z U (.zip a b):=rfl
@[simp]theorem Zs2(a b c):G7 Z U (.zip3 a b c)=evI Z U (.zip3 a b c):=rfl
@[simp]theorem ZuS(a):G7 Z U (.enm a)=evI Z U (.enm a):=rfl
@[simp]theorem ZAg(a):G7 Z U (.e a)=(evE Z U a).bind FF:=rfl
@[simp]theorem ZuR(a):G7 Z U (.rng a)=evI Z U (.rng a):=rfl
@[simp]theorem Zs4(a b):G7 Z U (.rng2 a b)=evI Z U (.rng2 a b):=rfl
variable(r:R D)
@[simp]theorem TM(i):top U (.var i) r=Eb U i:=rfl
@[simp]theorem ZvB:top U .non r=r:=rfl
@[simp]theorem Zze(b):top U (.bl b) r=r:=rfl
@[simp]theorem ZvI(b):top U (.int b) r=r:=rfl
@[simp]theorem TN(b):top U (.str b) r=r:=rfl
@[simp]theorem Zt3(b):top U (.glob b) r=r:=rfl
@[simp]theorem iG(op a b):top U (.bin op a b) r=r:=rfl
@[simp]theorem Zza(op a):top U (.un op a) r=r:=rfl
@[simp]theorem Zzd(a):top U (.no a) r=r:=rfl
@[simp]theorem ZvM(a):top U (.and a) r=r:=rfl
@[simp]theorem Zzc(a):top U (.or a) r=r:=rfl
@[simp]theorem ZvL(op a b):top U (.cmp op a b) r=r:=rfl
@[simp]theorem Zt6(op op' a b c):top U (.cmp2 op op' a b c) r=r:=rfl
@[simp]theorem ZvF(a b c):top U (.ite a b c) r=r:=rfl
@[simp]theorem Zt7(a b):top U (.call a b) r=r:=rfl
@[simp]theorem Zzf(a b):top U (.bi a b) r=r:=rfl
@[simp]theorem ZvH(a b):top U (.isi a b) r=r:=rfl
@[simp]theorem ZvJ(a b):top U (.idx a b) r=r:=rfl
@[simp]theorem Zzb(a b c):top U (.sl a b c) r=r:=rfl
@[simp]theorem iF(a):top U (.tup a) r=r:=rfl
@[simp]theorem ZvE(a):top U (.lst a) r=r:=rfl
@[simp]theorem Zt5(a b c d):top U (.comp a b c d) r=r:=rfl
@[simp]theorem ZvA(a b):top U (.ofl a b) r=r:=rfl
@[simp]theorem ZvG(a b):top U (.iso a b) r=r:=rfl
@[simp]theorem Zt2(a b c):top U (.meth a b c) r=r:=rfl
@[simp]theorem Zt1(a b):top U (.mkob a b) r=r:=rfl
@[simp]theorem ZvD(a b):top U (.mkn a b) r=r:=rfl
@[simp]theorem ZqO(a b c d):top U (.methA a b c d) r=r:=rfl
@[simp]theorem ZvC(a b):top U (.mkx a b) r=r:=rfl
@[simp]theorem ZvK(a b):top U (.fld a b) r=r:=rfl
@[simp]theorem ZqP(a b c d):top U (.compT a b c d) r=r:=rfl
@[simp]theorem Zt0(a):top U (.tupI a) r=r:=rfl
@[simp]theorem Zt4:top U .dnew r=r:=rfl
end
@[simp]theorem ZqF(d:D)(U:Rho):Eb (Aa (d,Ad)::U) 0=.ok d:=rfl
@[simp]theorem Zqf(xs:Ac D)(U:Rho):Eb (Aa (.lst xs,Ab)::U) 0=.ok (.lst xs):=rfl
@[simp]theorem ZqH(x:D)(U:Rho):E5 (Aa (x,Ad)::U) 0=.ok x:=rfl
@[simp]theorem Zqg(x:Sl)(U:Rho)(i:Af)[NeZero i]:Eb (x::U) i=Eb U (i-1):=by
 obtain⟨j,rfl⟩:∃ j,i=j+1:=⟨i-1,by have:=LF i;omega⟩
 rfl
@[simp]theorem Zqh(x:Sl)(U:Rho)(i:Af)[NeZero i]:E5 (x::U) i=E5 U (i-1):=by
 obtain⟨j,rfl⟩:∃ j,i=j+1:=⟨i-1,by have:=LF i;omega⟩
 rfl
noncomputable def shV(U:Rho)(i:Af):Al:=match U[i]? with
    |some (Aa (_,Ab))=>Ad
    |_=>Ab
@[simp]theorem Zuc(x:D)(b:Al)(U:Rho):shV (Aa (x,b)::U) 0=!b:=by cases b<;>rfl
@[simp]theorem Zrh(U:Rho):shV (Ae::U) 0=Ab:=rfl
@[simp]theorem Zri(x:Sl)(U:Rho)(i:Af)[NeZero i]:shV (x::U) i=shV U (i-1):=by
 obtain⟨j,rfl⟩:∃ j,i=j+1:=⟨i-1,by have:=LF i;omega⟩
 rfl
section
variable(U:Rho)
@[simp]theorem Zwc(i):shE U (.var i)=shV U i:=rfl
@[simp]theorem Zwg:shE U .non=Ab:=rfl
@[simp]theorem Zzw(b):shE U (.bl b)=Ab:=rfl
@[simp]theorem Zwn(b):shE U (.int b)=Ab:=rfl
@[simp]theorem Zwe(b):shE U (.str b)=Ab:=rfl
@[simp]theorem Zuh(b):shE U (.glob b)=Ab:=rfl
@[simp]theorem Zwr(op a b):shE U (.bin op a b)=Ab:=rfl
@[simp]theorem Zzs(op a):shE U (.un op a)=Ab:=rfl
@[simp]theorem Zzv(a):shE U (.no a)=Ab:=rfl
@[simp]theorem Zws(a):shE U (.and a)=Ab:=rfl
@[simp]theorem Zzu(a):shE U (.or a)=Ab:=rfl
@[simp]theorem Zwq(op a b):shE U (.cmp op a b)=Ab:=rfl
@[simp]theorem Zuk(op op' a b c):shE U (.cmp2 op op' a b c)=Ab:=rfl
@[simp]theorem Zwk(a b c):shE U (.ite a b c)=Ab:=rfl
@[simp]theorem Zul(a b):shE U (.call a b)=Ab:=rfl
@[simp]theorem Zzx(a b):shE U (.bi a b)=Ab:=rfl
@[simp]theorem Zwm(a b):shE U (.isi a b)=Ab:=rfl
@[simp]theorem Zwo(a b):shE U (.idx a b)=Ab:=rfl
@[simp]theorem Zzt(a b c):shE U (.sl a b c)=Ab:=rfl
@[simp]theorem Zwd(a):shE U (.tup a)=Ab:=rfl
@[simp]theorem Zwj(a):shE U (.lst a)=Ab:=rfl
@[simp]theorem Zuj(a b c d):shE U (.comp a b c d)=Ab:=rfl
@[simp]theorem Zrk(a b c d):shE U (.compT a b c d)=Ab:=rfl
@[simp]theorem Zue(a):shE U (.tupI a)=Ab:=rfl
@[simp]theorem Zui:shE U .dnew=Ab:=rfl
@[simp]theorem Zwf(a b):shE U (.ofl a b)=Ab:=rfl
@[simp]theorem Zwl(a b):shE U (.iso a b)=Ab:=rfl
@[simp]theorem Zug(a b c):shE U (.meth a b c)=Ab:=rfl
@[simp]theorem Zuf(a b):shE U (.mkob a b)=Ab:=rfl
@[simp]theorem Zwi(a b):shE U (.mkn a b)=Ab:=rfl
@[simp]theorem Zrj(a b c d):shE U (.methA a b c d)=Ab:=rfl
@[simp]theorem Zwh(a b):shE U (.mkx a b)=Ab:=rfl
@[simp]theorem Zwp(a b):shE U (.fld a b)=Ab:=rfl
@[simp]theorem Zud:HV U .nil=Ab:=rfl
@[simp]theorem aV(e es):HV U (.cons e es)=(shE U e&&HV U es):=rfl
end
@[simp]theorem Zqj(U:Rho):Fe [] [] U=Aa U:=rfl
@[simp]theorem Zof(t ts d ds)(U:Rho):Fe (t::ts) (d::ds) U=Fe ts ds (U.set t (Aa (d,Ad))):=rfl
@[simp]theorem ZtC(ts ds)(U:Rho):NW ts (.lst ds) U=match Fe ts ds U with
  |some U'=>.ok U'
  |none=>.bad:=rfl
@[simp]theorem ZtB(ts ds)(U:Rho):NW ts (.tup ds) U=EF ts (.tup ds) U:=rfl
@[simp]theorem RD(ts ds)(U:Rho):EF ts (.tup ds) U=match Fe ts ds U with
  |some U'=>.ok U'
  |none=>.bad:=rfl
@[simp]theorem Zvc{β:Type}(c:Prop)[Gp c](a b:R α)(f:α->R β):(if c then a else b).bind f=if c then a.bind f else b.bind f:=by split<;>rfl
@[simp]theorem ZzN(U:Rho)(c:Prop)[Gp c](a b:R α)(f:α->O):O.of U (if c then a else b) f=if c then O.of U a f else O.of U b f:=by split<;>rfl
@[simp]theorem Zxu{β:Type}(U:Rho)(a:R α)(g:α->R β)(f:β->O):O.of U (a.bind g) f=O.of U a λx=>O.of U (g x) f:=by cases a<;>rfl
@[simp]theorem Zwu(c:Prop)[Gp c](a b:O)(f:Rho->O):O.seq (if c then a else b) f=if c then a.seq f else b.seq f:=by split<;>rfl
@[simp]theorem ZtQ(c:Prop)[Gp c](a b:O)(f:Rho->O):O.turn (if c then a else b) f=if c then a.turn f else b.turn f:=by split<;>rfl
@[simp]theorem ZyX(fr:Al)(c:Prop)[Gp c](a b:O):O.ans fr (if c then a else b)=if c then a.ans fr else b.ans fr:=by split<;>rfl
@[simp]theorem Zum(U f):O.seq (.next U) f=f U:=rfl
@[simp]theorem Zwt(d b f):O.seq (.ret d b) f=.ret d b:=rfl
@[simp]theorem Zww(U f):O.seq (.brk U) f=.brk U:=rfl
@[simp]theorem Zun(U f):O.seq (.cont U) f=.cont U:=rfl
@[simp]theorem Zwv(x U f):O.seq (.exn x U) f=.exn x U:=rfl
@[simp]theorem Zwx(f):O.seq .bad f=.bad:=rfl
@[simp]theorem ZqK(U f):O.turn (.next U) f=f U:=rfl
@[simp]theorem ZtP(d b f):O.turn (.ret d b) f=.ret d b:=rfl
@[simp]theorem ZtS(U f):O.turn (.brk U) f=.next U:=rfl
@[simp]theorem ZqL(U f):O.turn (.cont U) f=f U:=rfl
@[simp]theorem ZtR(x U f):O.turn (.exn x U) f=.exn x U:=rfl
@[simp]theorem ZtT(f):O.turn .bad f=.bad:=rfl
@[simp]theorem Zvg(U):O.ans Ad (.next U)=.ok .non:=rfl
@[simp]theorem ZyW(d b):O.ans Ad (.ret d b)=.ok d:=rfl
@[simp]theorem Zvf(d b):O.ans Ab (.ret d b)=if (!b&&isL d)=Ab then .bad else .ok d:=rfl
@[simp]theorem ZxY(d):isL (.lst d)=Ab:=rfl
@[simp]theorem ZxX(d):isL (.tup d)=Ad:=rfl
@[simp]theorem ZxZ(d):isL (.int d)=Ad:=rfl
@[simp]theorem ZyY(fr x U):O.ans fr (.exn x U)=.exn x:=rfl
@[simp]theorem ZyZ(fr):O.ans fr .bad=.bad:=rfl
@[simp]theorem ZAr(i j:Ah):CN .Add (.int i) (.int j)=.ok (.int (i+j)):=rfl
@[simp]theorem Zzl(i j:Ah):CN .Sub (.int i) (.int j)=.ok (.int (i-j)):=rfl
@[simp]theorem rF(i j:Ah):CN .Mult (.int i) (.int j)=if (FD i j||NV i j)=Ab then .ok (.int (i*j)) else .bad:=rfl
@[simp]theorem lK(i j:Ah):CN .FloorDiv (.int i) (.int j)=if 0<j/\j<1073741824 then .ok (.int (i/j)) else .bad:=rfl
@[simp]theorem rG(i j:Ah):CN .Mod (.int i) (.int j)=if 0<j then .ok (.int (i%j)) else .bad:=rfl
@[simp]theorem pJ(i j:Ah):CN .Pow (.int i) (.int j)=if (0<=j/\j<=1000000)/\(-(18446744073709551616:Ah)<i/\i<18446744073709551616) then .ok (.int (i ^ j.toNat)) else .bad:=rfl
@[simp]theorem HQ(x y:Ag):CN .Add (.str x) (.str y)=if BG (x.length+y.length)=Ab then .ok (.str (x++y)) else .bad:=rfl
@[simp]theorem Hg(x y:Ac D):CN .Add (.lst x) (.lst y)=if BG (x.length+y.length)=Ab then .ok (.lst (x++y)) else .bad:=rfl
@[simp]theorem Vs(x y:Ac D):CN .Add (.tup x) (.tup y)=if (!x.isEmpty&&BG (x.length+y.length))=Ab then .ok (.tup (x++y)) else .bad:=rfl
@[simp]theorem ZAW(i:Ah):unD .USub (.int i)=.ok (.int (-i)):=rfl
@[simp]theorem wG(x y:D):BU .Eq x y=if (flD 5 x&&flD 5 y)=Ab then .ok (.bl (eqD x y)) else .bad:=rfl
@[simp]theorem vD(x y:D):BU .NotEq x y=if (flD 5 x&&flD 5 y)=Ab then .ok (.bl (!eqD x y)) else .bad:=rfl
@[simp]theorem ZAX(i j:Ah):BU .Lt (.int i) (.int j)=.ok (.bl (decide (i<j))):=rfl
@[simp]theorem ZAZ(i j:Ah):BU .LtE (.int i) (.int j)=.ok (.bl (decide (i<=j))):=rfl
@[simp]theorem ZBa(i j:Ah):BU .Gt (.int i) (.int j)=.ok (.bl (decide (j<i))):=rfl
@[simp]theorem ZBb(i j:Ah):BU .GtE (.int i) (.int j)=.ok (.bl (decide (j<=i))):=rfl
@[simp]theorem ZB(x:D)(ys:Ac D):BU .In x (.lst ys)=if (flD 5 x&&ys.all (flD 5))=Ab then .ok (.bl (ys.any λy=>eqD y x)) else .bad:=rfl
@[simp]theorem ZA(x:D)(ys:Ac D):BU .In x (.tup ys)=if (flD 5 x&&ys.all (flD 5))=Ab then .ok (.bl (ys.any λy=>eqD y x)) else .bad:=rfl
@[simp]theorem vB(x:D)(ys:Ac D):BU .NotIn x (.lst ys)=if (flD 5 x&&ys.all (flD 5))=Ab then .ok (.bl (!ys.any λy=>eqD y x)) else .bad:=rfl
@[simp]theorem wD(x:D)(ys:Ac D):BU .NotIn x (.tup ys)=if (flD 5 x&&ys.all (flD 5))=Ab then .ok (.bl (!ys.any λy=>eqD y x)) else .bad:=rfl
@[simp]theorem Zz1:BU .Is .non .non=.ok (.bl Ab):=rfl
@[simp]theorem Zz3(i):BU .Is (.int i) .non=.ok (.bl Ad):=rfl
@[simp]theorem Zz0(i):BU .Is (.tup i) .non=.ok (.bl Ad):=rfl
@[simp]theorem Zz2(i):BU .Is (.lst i) .non=.ok (.bl Ad):=rfl
@[simp]theorem ZA2(a b):BU .Is (.bl a) (.bl b)=.ok (.bl (a==b)):=rfl
@[simp]theorem ZzY(a b):BU .IsNot (.bl a) (.bl b)=.ok (.bl (!(a==b))):=rfl
@[simp]theorem ZxN:BU .IsNot .non .non=.ok (.bl Ad):=rfl
@[simp]theorem ZxP(i):BU .IsNot (.int i) .non=.ok (.bl Ab):=rfl
@[simp]theorem ZxM(i):BU .IsNot (.tup i) .non=.ok (.bl Ab):=rfl
@[simp]theorem ZxO(i):BU .IsNot (.lst i) .non=.ok (.bl Ab):=rfl
@[simp]theorem ZyM(i j:Ah):eqD (.int i) (.int j)=(i==j):=rfl
@[simp]theorem ZAm(i j:Al):eqD (.bl i) (.bl j)=(i==j):=rfl
@[simp]theorem ZyJ(i j:Ag):eqD (.str i) (.str j)=(i==j):=rfl
@[simp]theorem ZyI(i j:Ac D):eqD (.tup i) (.tup j)=eqDs i j:=rfl
@[simp]theorem ZyL(i j:Ac D):eqD (.lst i) (.lst j)=eqDs i j:=rfl
@[simp]theorem ZyK:eqD .non .non=Ab:=rfl
@[simp]theorem ZpM(i):eqD .non (.int i)=Ad:=rfl
@[simp]theorem ZpN(i):eqD (.int i) .non=Ad:=rfl
@[simp]theorem Zu4:eqDs [] []=Ab:=rfl
@[simp]theorem OY(x y:D)(xs ys:Ac D):eqDs (x::xs) (y::ys)=(eqD x y&&eqDs xs ys):=rfl
@[simp]theorem Zyc(n)(i:Ah):flD n (.int i)=Ab:=by cases n<;>rfl
@[simp]theorem ZAf(n)(i:Al):flD n (.bl i)=Ab:=by cases n<;>rfl
@[simp]theorem Zya(n)(i:Ag):flD n (.str i)=Ab:=by cases n<;>rfl
@[simp]theorem Zyb(n):flD n .non=Ab:=by cases n<;>rfl
@[simp]theorem Zuv(i):flD 5 (.tup i)=i.all (flD 4):=rfl
@[simp]theorem ZuA(i):flD 5 (.lst i)=i.all (flD 4):=rfl
@[simp]theorem Zuw(i):flD 4 (.tup i)=i.all (flD 3):=rfl
@[simp]theorem ZuB(i):flD 4 (.lst i)=i.all (flD 3):=rfl
@[simp]theorem Zux(i):flD 3 (.tup i)=i.all (flD 2):=rfl
@[simp]theorem ZuC(i):flD 3 (.lst i)=i.all (flD 2):=rfl
@[simp]theorem Zuy(i):flD 2 (.tup i)=i.all (flD 1):=rfl
@[simp]theorem ZuD(i):flD 2 (.lst i)=i.all (flD 1):=rfl
@[simp]theorem Zuz(i):flD 1 (.tup i)=i.all (flD 0):=rfl
@[simp]theorem ZuE(i):flD 1 (.lst i)=i.all (flD 0):=rfl
@[simp]theorem Zvy(b):BS (.bl b)=.ok b:=rfl
@[simp]theorem ZtX(i):BS (.int i)=.ok (i != 0):=rfl
@[simp]theorem ZtW(i):BS (.lst i)=.ok (!i.isEmpty):=rfl
@[simp]theorem ZtU(i):BS (.tup i)=.ok (!i.isEmpty):=rfl
@[simp]theorem ZtV:BS .non=.ok Ad:=rfl
@[simp]theorem Zvz(b):Gk (.bl b)=.ok b:=rfl
@[simp]theorem ZtZ(i):Gk (.int i)=.ok (i != 0):=rfl
@[simp]theorem ZtY:Gk .non=.ok Ad:=rfl
@[simp]theorem ZtI:Gg []=.ok Ab:=rfl
@[simp]theorem RE(x r):Gg (x::r)=(Gk x).bind λb=>(Gg r).bind λc=>.ok (b&&c):=rfl
@[simp]theorem ZtH:J6 []=.ok Ad:=rfl
@[simp]theorem Zqt(x r):J6 (x::r)=(Gk x).bind λb=>(J6 r).bind λc=>.ok (b||c):=rfl
@[simp]theorem ZyN(b)(d):E7 b (.ok d)=.ok d:=by cases b<;>rfl
@[simp]theorem Zu7(b):E7 b .bad=.bad:=by cases b<;>rfl
@[simp]theorem Zu6(x):E7 Ab (.exn x)=.exn x:=rfl
@[simp]theorem Zqr(r):E7 Ad r=noX r:=rfl
@[simp]theorem T6(a:α):noX (.ok a)=.ok a:=rfl
@[simp]theorem Zxy:noX (.bad:R α)=.bad:=rfl
@[simp]theorem Zxx(x):noX (.exn x:R α)=.bad:=rfl
@[simp]theorem ZyV(b):D5 (.bl b)=.ok b:=rfl
@[simp]theorem ZtG(b):Ei (.int b)=.ok b:=rfl
@[simp]theorem SD(b):J7 (.lst b)=.ok b:=rfl
@[simp]theorem ZtE(b):FF (.lst b)=.ok b:=rfl
@[simp]theorem ZtD(b):FF (.tup b)=.ok b:=rfl
@[simp]theorem uX(xs i):HW (.lst xs) (.int i)=CW xs i:=rfl
@[simp]theorem uW(xs i):HW (.tup xs) (.int i)=CW xs i:=rfl
@[simp]theorem GJ(xs):biD .len [.lst xs]=.ok (.int xs.length):=rfl
@[simp]theorem ZAY(xs):biD .len [.tup xs]=.ok (.int xs.length):=rfl
@[simp]theorem ZBn(i):biD .abs [.int i]=.ok (.int (if i<0 then -i else i)):=rfl
@[simp]theorem ZzR(i j):biD .max [.int i,.int j]=.ok (.int (if i<j then j else i)):=rfl
@[simp]theorem ZzP(i j):biD .min [.int i,.int j]=.ok (.int (if j<i then j else i)):=rfl
@[simp]theorem ZA4(i):biD .int [.int i]=.ok (.int i):=rfl
@[simp]theorem ZA5(i):biD .int [.bl i]=.ok (.int (b2i i)):=rfl
@[simp]theorem ZzW(i):biD .list [.lst i]=.ok (.lst i):=rfl
@[simp]theorem ZzV(i):biD .list [.tup i]=.ok (.lst i):=rfl
@[simp]theorem Zvx(i):biD .tuple [.lst i]=.ok (.tup i):=rfl
@[simp]theorem Zvw(i):biD .tuple [.tup i]=.ok (.tup i):=rfl
@[simp]theorem wE(i):biD .all [.lst i]=(Gg i).bind λb=>.ok (.bl b):=rfl
@[simp]theorem ZBm(i):biD .any [.lst i]=(J6 i).bind λb=>.ok (.bl b):=rfl
@[simp]theorem ZBl(i):biD .any [.tup i]=(J6 i).bind λb=>.ok (.bl b):=rfl
@[simp]theorem ZAL(i):biD .sum [.lst i]=(MC 0 i).bind λb=>.ok (.int b):=rfl
@[simp]theorem ZAK(i):biD .sum [.tup i]=(MC 0 i).bind λb=>.ok (.int b):=rfl
@[simp]theorem Zua(i):biD .sorted [.lst i]=(GH i).bind λb=>.ok (.lst b):=rfl
@[simp]theorem ZAM(xs k):biD .stp [.lst xs,.int k]=.ok (.lst (WF k.toNat xs)):=rfl
@[simp]theorem ZAT(xs):biD .rvs [.lst xs]=.ok (.lst xs.reverse):=rfl
@[simp]theorem ZzT(xs):biD .lset [.lst xs]=V4 xs:=rfl
@[simp]theorem Zzg(x y):biD .tmin [x,y]=mmD Ad x y:=rfl
@[simp]theorem ZAx(x y):biD .tlt [x,y]=WA x y:=rfl
@[simp]theorem Zzh(x y):biD .tmax [x,y]=mmD Ab x y:=rfl
@[simp]theorem ZyO(xs x):biD .count [.lst xs,x]=if (flD 5 x&&xs.all (flD 5))=Ab then .ok (.int ((xs.filter λy=>eqD y x).length:Af)) else .bad:=rfl
@[simp]theorem ZO(xs lo hi):slD (.tup xs) lo hi=if (Jn xs.length 0 lo==0&&Jn xs.length xs.length hi==xs.length)=Ab then .bad else .ok (.tup (GL xs lo hi)):=rfl
@[simp]theorem ZBv(xs lo hi):slD (.lst xs) lo hi=.ok (.lst (GL xs lo hi)):=rfl
@[simp]theorem Zv6(d):slE .non d=.ok Ae:=rfl
@[simp]theorem Zv7(k i):slE (.int k) (.int i)=.ok (Aa i):=rfl
@[simp]theorem Zv5(k i):slE (.var k) (.int i)=.ok (Aa i):=rfl
@[simp]theorem Zv8(op a b i):slE (.bin op a b) (.int i)=.ok (Aa i):=rfl
@[simp]theorem Zzp(op a i):slE (.un op a) (.int i)=.ok (Aa i):=rfl
@[simp]theorem Zzq(b as i):slE (.bi b as) (.int i)=.ok (Aa i):=rfl
@[simp]theorem ZxS(up ks):EI up ks .non=if ks.any Eo=Ab then .bad else .ok (.bl (ks.any λk=>kiD up k .non)):=rfl
@[simp]theorem ZzZ(up ks b):EI up ks (.bl b)=if ks.any Eo=Ab then .bad else .ok (.bl (ks.any λk=>kiD up k (.bl b))):=rfl
@[simp]theorem ZxU(up ks b):EI up ks (.int b)=if ks.any Eo=Ab then .bad else .ok (.bl (ks.any λk=>kiD up k (.int b))):=rfl
@[simp]theorem ZxR(up ks b):EI up ks (.str b)=if ks.any Eo=Ab then .bad else .ok (.bl (ks.any λk=>kiD up k (.str b))):=rfl
@[simp]theorem ZxQ(up ks b):EI up ks (.tup b)=if ks.any Eo=Ab then .bad else .ok (.bl (ks.any λk=>kiD up k (.tup b))):=rfl
@[simp]theorem ZxT(up ks b):EI up ks (.lst b)=if ks.any Eo=Ab then .bad else .ok (.bl (ks.any λk=>kiD up k (.lst b))):=rfl
@[simp]theorem ZxV(up ks c f):EI up ks (.exc c f)=if ks.all Eo=Ab then .ok (.bl (ks.any λk=>kiD up k (.exc c f))) else .bad:=rfl
@[simp]theorem Zva(c):Eo (.cls c)=Ab:=rfl
@[simp]theorem Zte:Eo .verr=Ab:=rfl
@[simp]theorem Zu9:Eo .int=Ad:=rfl
@[simp]theorem Ztg:Eo .bool=Ad:=rfl
@[simp]theorem Zu8:Eo .str=Ad:=rfl
@[simp]theorem Ztf:Eo .list=Ad:=rfl
@[simp]theorem Zqs:Eo .tuple=Ad:=rfl
@[simp]theorem Zqn(up i):kiD up .int (.int i)=Ab:=rfl
@[simp]theorem Zqm(up):kiD up .int .non=Ad:=rfl
@[simp]theorem Zpo(up i):kiD up .bool (.int i)=Ad:=rfl
@[simp]theorem Zql(up i):kiD up .int (.tup i)=Ad:=rfl
@[simp]theorem Zqp(up i):kiD up .bool (.bl i)=Ab:=rfl
@[simp]theorem Zpn(up):kiD up .bool .non=Ad:=rfl
@[simp]theorem Zpm(up i):kiD up .list (.lst i)=Ab:=rfl
@[simp]theorem ZmZ(up i):kiD up .tuple (.tup i)=Ab:=rfl
@[simp]theorem Zm0(up):kiD up .tuple .non=Ad:=rfl
@[simp]theorem Zqo(up c k f):kiD up (.cls c) (.exc k f)=(up k).contains c:=rfl
@[simp]theorem Zpl(up k f):kiD up .verr (.exc k f)=Ab:=rfl
theorem Kt{xs:Ac D}{i:Ah}{d:D}(h0:0<=i)(h:xs[i.toNat]?=Aa d):CW xs i=.ok d:=by
 unfold CW plD;obtain⟨h1,_⟩:=A2.mp h;rw[As h0,As (by omega)]
 dsimp only;rw[h]
section
variable(Z:Gam)(U:Rho)
@[simp]theorem ZuF:evSs Z U .nil=.next U:=rfl
noncomputable def Gi(Z:Gam)(ss:Ss)(o:O):O:=o.seq λU'=>evSs Z U' ss
@[simp]theorem Si(s ss):evSs Z U (.cons s ss)=Gi Z ss (evS Z U s):=rfl
@[simp]theorem TX(ss):Gi Z ss (.next U)=evSs Z U ss:=rfl
@[simp]theorem Zz6(ss d b):Gi Z ss (.ret d b)=.ret d b:=rfl
@[simp]theorem ZAa(ss):Gi Z ss (.brk U)=.brk U:=rfl
@[simp]theorem Zx9(ss):Gi Z ss (.cont U)=.cont U:=rfl
@[simp]theorem Zz9(ss x):Gi Z ss (.exn x U)=.exn x U:=rfl
@[simp]theorem ZAb(ss):Gi Z ss .bad=.bad:=rfl
@[simp]theorem Zz8(ss)(c:Prop)[Gp c](a b:O):Gi Z ss (if c then a else b)=if c then Gi Z ss a else Gi Z ss b:=by split<;>rfl
@[simp]theorem Zz7(o:O):Gi Z .nil o=o:=by cases o<;>rfl
noncomputable def BB(Z:Gam)(t:Af)(body:Ss):D->Rho->O:=λx U'=>evSs Z (U'.set t (Aa (x,Ad))) body
noncomputable def whC(Z:Gam)(c:E):Rho->R Al:=λU'=>(top U' c (evE Z U' c)).bind BS
noncomputable def whB(Z:Gam)(body:Ss):Rho->O:=λU'=>evSs Z U' body
noncomputable def Q4(Z:Gam)(t:Af)(body:Ss)(U:Rho)(r:R (Ac D)):O:=O.of U r λxs=>BH (BB Z t body) xs U
@[simp]theorem lJ(t body xs):Q4 Z t body U (.ok xs)=BH (BB Z t body) xs U:=rfl
@[simp]theorem ZuJ:evS Z U .pass=.next U:=rfl
@[simp]theorem Zyl(i e):evS Z U (.asg i Ad e)=O.of U (evE Z U e) λd=>.next (U.set i (Aa (d,Ad))):=rfl
@[simp]theorem ZuL(e):evS Z U (.expr e)=O.of U (evE Z U e) λ_=>.next U:=rfl
@[simp]theorem Uo(e):evS Z U (.ret e)=O.of U (top U e (evE Z U e)) λd=>.ret d (B5 Z e||(match e with | .var i=>(match U[i]? with|some (Aa (_,o))=>o|_=>Ad)|_=>Ad)):=rfl
@[simp]theorem ZuH:evS Z U .retN=.ret .non Ad:=rfl
@[simp]theorem Zyi(c a b):evS Z U (.ife c a b)=O.of U ((top U c (evE Z U c)).bind BS) λk=>if k=Ab then evSs Z U a else evSs Z U b:=rfl
@[simp]theorem eU(t it body):evS Z U (.fors t it body)=Q4 Z t body U (G7 Z U it):=rfl
noncomputable def F2(Z:Gam)(ts:Ac Af)(body:Ss):D->Rho->O:=λx U'=>O.of U' (EF ts x U') λU''=>evSs Z U'' body
noncomputable def VZ(Z:Gam)(ts:Ac Af)(body:Ss)(U:Rho)(r:R (Ac D)):O:=O.of U r λxs=>BH (F2 Z ts body) xs U
@[simp]theorem Zut(t body xs):VZ Z t body U (.ok xs)=BH (F2 Z t body) xs U:=rfl
@[simp]theorem ZuK(t it body):evS Z U (.forT t it body)=VZ Z t body U (G7 Z U it):=rfl
@[simp]theorem ZuN(ts e):evS Z U (.asgT ts e)=O.of U (evE Z U e) λd=>O.of U (NW ts d U) λU'=>.next U':=rfl
theorem Jg(i e):evS Z U (.asg i Ab e)=O.of U (evE Z U e) λd=>if B5 Z e=Ab then (match d with
      |.lst xs=>.next (U.set i (Aa (.lst xs,Ab)))
      |.dic xs=>.next (U.set i (Aa (.dic xs,Ab)))
      | _=>.bad) else .bad:=rfl
noncomputable def setF(U:Rho)(i:Af):D->O
 |.lst xs=>.next (U.set i (Aa (.lst xs,Ab)))
 |.dic xs=>.next (U.set i (Aa (.dic xs,Ab)))
 |_=>.bad
@[simp]theorem Zzy(i xs):setF U i (.lst xs)=.next (U.set i (Aa (.lst xs,Ab))):=rfl
@[simp]theorem Zzz(i xs):setF U i (.dic xs)=.next (U.set i (Aa (.dic xs,Ab))):=rfl
@[simp]theorem eN(i e):evS Z U (.asg i Ab e)=O.of U (evE Z U e) λd=>if B5 Z e=Ab then setF U i d else .bad:=by
 rw[Jg]
 congr 1
@[simp]theorem Zym(i e):evS Z U (.app i e)=O.of U (Ck U i) λxs=>O.of U (evE Z U e) λd=>if BG (xs.length+1)=Ab then .next (U.set i (Aa (.lst (xs++[d]),Ab))) else .bad:=rfl
@[simp]theorem Po(i e):evS Z U (.ext i e)=if B5 Z e=Ab then (O.of U (Ck U i) λxs=>O.of U (evE Z U e) λd=>O.of U (J7 d) λys=>if BG (xs.length+ys.length)=Ab then .next (U.set i (Aa (.lst (xs++ys),Ab))) else .bad) else .bad:=rfl
@[simp]theorem Zyh(i):evS Z U (.rev i)=O.of U (Ck U i) λxs=>.next (U.set i (Aa (.lst xs.reverse,Ab))):=rfl
@[simp]theorem Zyj(i):evS Z U (.clr i)=O.of U (Ck U i) λ_=>.next (U.set i (Aa (.lst [],Ab))):=rfl
@[simp]theorem Zuo(U:Rho)(i)(xs):QS U i (.lst xs)=.next (U.set i (Aa (.lst xs,Ad))):=rfl
@[simp]theorem eT(body c x h):evS Z U (.tryx body c x h)=match evSs Z U body with
      | .exn y U'=>if (Z.up y.c).contains c=Ab then (match evSs Z (U'.set x (Aa (.exc y.c y.fs,Ad))) h with
          |.next U''=>.next (U''.set x Ae)
          |.ret d f=>.ret d f
          | _=>.bad) else .bad
      |o=>o:=rfl
@[simp]theorem ZuG(body c x h c' h' els):evS Z U (.try2 body c x h c' h' els)=match evSs Z U body with
      |.exn y U'=>if (Z.up y.c).contains c=Ab then hdO x y U' (λr=>evSs Z r h) else if (Z.up y.c).contains c'=Ab then hdO x y U' (λr=>evSs Z r h') else .bad
      |.next U'=>evSs Z U' els
      |o=>o:=rfl
@[simp]theorem Zyg(c body):evS Z U (.whl c body)=QI (whC Z c) (whB Z body) VW U:=rfl
@[simp]theorem ZuI(c as):evS Z U (.rais c as)=O.of U (noX (evA Z U as)) λxs=>O.of U (Z.xn c xs) λx=>.exn x U:=rfl
@[simp]theorem Zyk:evS Z U .brk=.brk U:=rfl
@[simp]theorem ZuM:evS Z U .cont=.cont U:=rfl
end
end Ov
namespace Ov
open PySem
theorem MZ{body:D->Rho->O}(P:Af->Rho->Prop):∀(xs:Ac D)(n:Af)(U:Rho),P n U->(∀ i x,xs[i]?=Aa x->∀ U,P (n+i) U->∃ U',body x U=.next U'/\P (n+i+1) U')->∃ U',BH body xs U=.next U'/\P (n+xs.length) U'
 |[],n,U,h,_=>⟨U,rfl,h⟩
 |x::xs,n,U,h,k=>by
  obtain⟨U1,e1,h1⟩:=k 0 x rfl U h;obtain⟨U2,e2,h2⟩:=MZ P xs (n+1) U1 h1 λi y hy U hρ=>by
   have:=k (i+1) y (by simpa using hy) U (by rw[show n+(i+1)=n+1+i by omega];exact hρ)
   rw[show n+(i+1)=n+1+i by omega]at this
   exact this
  exact⟨U2,by show (body x U).turn _=_;rw[e1];exact e2,by rw[show n+(x::xs).length=n+1+xs.length by simp;omega];exact h2⟩
theorem cS(h1:0<=lo)(h2:lo<1000000)(h3:0<=hi)(h4:hi<1000000):Dk lo hi=.ok (Dt lo (hi-lo).toNat):=by
 unfold Dk;rw[As (by omega)]
theorem L7(h3:0<=hi)(h4:hi<1000000):Dk 0 hi=.ok (Dt 0 hi.toNat):=by
 rw[cS (by omega) (by omega) h3 h4,WS]
theorem fD(h:x∈Dt lo n):∃ k:Af,k<n/\x=.int (lo+(k:Ah)):=by
 obtain⟨k,hk,e⟩:=Fv.mp h;exact⟨k,DG.mp hk,e.symm⟩
theorem K7(lo:Ah)(n:Af):(Dt lo n).length=n:=by simp[Dt]
theorem Ph{i:Af}(h:(Dt lo n)[i]?=Aa x):i<n/\x=.int (lo+(i:Ah)):=by
 have hl:=(A2.mp h).1;rw[K7]at hl;unfold Dt at h;rw[Du,W5 hl]at h;cases h;exact⟨hl,rfl⟩
noncomputable def Ss.take:Af->Ss->Ss
 |0,_=>.nil
 |_,.nil=>.nil
 |n+1,.cons s ss=>.cons s (ss.take n)
noncomputable def Ss.drop:Af->Ss->Ss
 |0,ss=>ss
 |_,.nil=>.nil
 |n+1,.cons _ ss=>ss.drop n
theorem Tb(Z:Gam):∀(n:Af)(ss:Ss)(U:Rho),evSs Z U ss=Gi Z (ss.drop n) (evSs Z U (ss.take n))
 |0,_,_=>rfl
 |_+1,.nil,_=>rfl
 |n+1,.cons s ss,U=>by
  show (evS Z U s).seq (λU'=>evSs Z U' ss)=Gi Z (ss.drop n) ((evS Z U s).seq λU'=>evSs Z U' (ss.take n))
  cases evS Z U s with
  |next U'=>exact Tb Z n ss U'
  |_=>rfl
noncomputable def mkC(c:Af):Df:=⟨2,Ad,.cons (.ret (.mkob c (.call 910 (.cons (.var 0) (.cons (.var 1) .nil))))) .nil⟩
noncomputable def inC:Df:=⟨2,Ad,.cons (.ret (.tup (.cons (.var 0) (.cons (.call 17 (.cons (.var 0) (.cons (.var 1) .nil))) .nil)))) .nil⟩
end Ov
end
section
namespace Ov
noncomputable def xfD:Af->D->Al
 |0,.int i=>decide (0<=i)&&decide (i<100)
 |n+1,.tup ds=>DH ds.length 8&&ds.all (xfD n)
 |_,_=>Ad
noncomputable def mkX(c:Af)(f:Ag):Ac D->R Ex
 |[d]=>if (xfD 1 d||xfD 2 d)=Ab then .ok ⟨c,[(f,d)]⟩ else .bad
 |_=>.bad
noncomputable def mkA(c:Af)(f:Ag):Ac D->R Ex
 |[d]=>if (xfD 0 d||(xfD 1 d||xfD 2 d))=Ab then .ok ⟨c,[(f,d)]⟩ else .bad
 |_=>.bad
end Ov
end
section
namespace OvC
open PySem Ov PyProof.Rows
variable{j:Ah}{Z:Gam}
noncomputable abbrev scr(ns:Ac Ah):D:=.lst (ns.map .int)
noncomputable abbrev sh(d:D):Sl:=Aa (d,Ad)
noncomputable abbrev si(i:Ah):Sl:=Aa (.int i,Ad)
noncomputable def NU(ns:Ac Ah)(k:Ah):Ah:=if ns=[] then 0 else ns.getD (k%ns.length).toNat 0
noncomputable def Jo(ns:Ac Ah)(k:Ah):Ah:=(NU ns k%1000003+7919*k+11)*48271%1000033
noncomputable def P6(ns:Ac Ah)(k:Ah):Ah:=[3,5,7,11].getD (Jo ns k/16%4).toNat 0
theorem rJ(ns k):0<=Jo ns k:=by unfold Jo;omega
theorem Q3{P:Af->Prop}(h0:P 0)(h1:P 1)(h2:P 2)(h3:P 3):P (j%4).toNat:=by
 have:(j%4).toNat=0\/(j%4).toNat=1\/(j%4).toNat=2\/(j%4).toNat=3:=by omega
 rcases this with e|e|e|e<;>rw[e]<;>assumption
def P4(p:Ah):Prop:=p=3\/p=5\/p=7\/p=11
noncomputable def pr4(j:Ah):Ah:=[3,5,7,11].getD (j%4).toNat 0
theorem pH(j):P4 (pr4 j):=by
 unfold pr4;exact Q3 (P:=λj=>P4 ([3,5,7,11].getD j 0)) (.inl rfl) (.inr (.inl rfl)) (.inr (.inr (.inl rfl))) (.inr (.inr (.inr rfl)))
theorem dH(ns k):P4 (P6 ns k):=pH _
theorem P4.pos{p}(h:P4 p):0<p:=by rcases h with rfl|rfl|rfl|rfl<;>decide
theorem P4.lo{p}(h:P4 p):3<=p:=by rcases h with rfl|rfl|rfl|rfl<;>decide
theorem P4.hi{p}(h:P4 p):p<=11:=by rcases h with rfl|rfl|rfl|rfl<;>decide
theorem fR(j:Ah):CW [.int 3,.int 5,.int 7,.int 11] (j%4)=.ok (.int (pr4 j)):=by
 have h:=Q3 (P:=λj=>[D.int 3,D.int 5,D.int 7,D.int 11][j]?=Aa (D.int ([3,5,7,11].getD j 0))) (j:=j) rfl rfl rfl rfl
 exact Kt (by omega) h
theorem Nj{i:Ah}(h0:-18446744073709551616<i)(h1:i<18446744073709551616):FD i j=Ab:=by simp[FD];left;exact⟨h0,h1⟩
theorem T8{i:Ah}(h0:-18446744073709551616<j)(h1:j<18446744073709551616):FD i j=Ab:=by simp[FD];right;exact⟨h0,h1⟩
noncomputable def Qc:Df:=⟨2,Ad,(.cons (.ret (.bin .Mod (.var 1) (.var 0))) .nil)⟩
def Nq(Z:Gam):Prop:=∀ p n:Ah,0<p->Z.F 1 [.int p,.int n]=.ok (.int (n%p))
theorem oW(Z:Gam)(p n:Ah)(h:0<p):Qc.run Z [.int p,.int n]=.ok (.int (n%p)):=by simp[Qc,Df.run,Cd,h]
noncomputable def Op:Df:=⟨2,Ad,(.cons (.ife (.cmp .Eq (.bi .len (.cons (.var 0) .nil)) (.int 0)) (.cons (.ret (.int 0)) .nil) .nil) (.cons (.ret (.idx (.var 0) (.bin .Mod (.var 1) (.bi .len (.cons (.var 0) .nil))))) .nil))⟩
def Vy(Z:Gam):Prop:=∀(ns:Ac Ah)(k:Ah),Z.F 2 [scr ns,.int k]=.ok (.int (NU ns k))
theorem oZ(Z:Gam)(ns:Ac Ah)(k:Ah):Op.run Z [scr ns,.int k]=.ok (.int (NU ns k)):=by
 simp[Op,Df.run,Cd,NU];by_cases h:ns=[]
 .simp[h]
 .have hn:=W7.mpr h;have hl:0<(ns.length:Ah):=by omega
  have h1:=C2 k (Int.ne_of_gt hl);have h2:=CH k hl;have h3:(k%ns.length).toNat<ns.length:=by omega
  simp[h,hn,Kt (xs:=ns.map .int) (d:=.int (ns.getD (k%ns.length).toNat 0)) h1 (by simp[h3])]
noncomputable def Oz:Df:=⟨2,Ad,(.cons (.ret (.bin .Mod (.bin .Mult (.bin .Add (.bin .Add (.bin .Mod (.call 2 (.cons (.var 0) (.cons (.var 1) .nil))) (.int 1000003)) (.bin .Mult (.int 7919) (.var 1))) (.int 11)) (.int 48271)) (.int 1000033))) .nil)⟩
def Li(Z:Gam):Prop:=∀(ns:Ac Ah)(k:Ah),Z.F 3 [scr ns,.int k]=.ok (.int (Jo ns k))
theorem kZ(h2:Vy Z)(ns:Ac Ah)(k:Ah):Oz.run Z [scr ns,.int k]=.ok (.int (Jo ns k)):=by
 simp[Oz,Df.run,Cd,h2 ns k,FD,Jo]
noncomputable def Oy:Df:=⟨2,Ad,(.cons (.ret (.idx (.lst (.cons (.int 3) (.cons (.int 5) (.cons (.int 7) (.cons (.int 11) .nil))))) (.bin .Mod (.bin .FloorDiv (.call 3 (.cons (.var 0) (.cons (.var 1) .nil))) (.int 16)) (.int 4)))) .nil)⟩
def Ux(Z:Gam):Prop:=∀(ns:Ac Ah)(k:Ah),Z.F 4 [scr ns,.int k]=.ok (.int (P6 ns k))
theorem kY(h:Li Z)(ns:Ac Ah)(k:Ah):Oy.run Z [scr ns,.int k]=.ok (.int (P6 ns k)):=by
 simp[Oy,Df.run,Cd,h ns k,fR];rfl
end OvC
end
namespace Ov
open PySem PySem.Spec PyProof.Rows L2
variable{K:Fg}{mg:Ag->Ao Aj}{x:Ag}{A B:Ak->Prop}{H H' H1 H0:Hp}{a b l q:Ak}{xs:Ac V}{v:V}{d:D}{Rp Rq:Hp->V->D->Prop}{r:R D}{Q:VK}{X:Cx}{e c tg iter elt:Am}{U:Rho}{i n j k:Af}{Y:L2.St}{g:D->D->R D}{op:Dr}{pI:Pn}{s:Ap}{its its2 ys:Ac Aj}{items2:A9 Aj}{h h' h2:AC}{u:Aj}{es ifs:Ac Am}{fs fi:Rho->R (Ac D)}{Q':Ao Ah->Hp->Prop}{id T:CM}{p pos' p2 pos pos2:AF}{α:Type}{D':Ends}{fc:Rho->R Al}{as:D->Rho->R Rho}{up:Af->Ac Af}{prog P:AO}{w:A1}{scope:BP}{env:Cj}{cl:Ac (Ag×Ak)}{N':Ac Ag}{ts:Ac Af}{fp:Ac Ak}{tt:TT}{te:TE}{J:It}{wi:TI}{t t1 t2:Al}
noncomputable def QX:Af->Ag
 |0 => "Triple"
 |1 => "Point"
 |2 => "Line"
 |_ => ""
noncomputable def OC(K:Fg)(c:Af):Ao Ak:=if c<3 then (match Bu K A8 (QX c) with
  |some (Aa (.ref C))=>Aa C
  | _=>Ae) else Ae
noncomputable def HX:Ac (Ag×Af×Ag):=[("0.told",0, "told"),("1.told",1, "told"),("2.told",2, "told"),("0.shown",0, "shown"),("1.shown",1, "shown"),("2.shown",2, "shown"),("1.across",1, "across"),("2.across",2, "across"),("1.meets",1, "meets"),("2.meets",2, "meets")]
noncomputable def Jl(K:Fg)(mg:Ag->Ao Aj)(x:Ag):Ao Aj:=match HX.lookup x with
  |some (c,m)=>(OC K c).bind λC=>(Av K (.ref C) m).join
  |none=>mg x
theorem M7{v:Ao Aj}(h:Jl K mg x=v)(e:HX.lookup x=Ae):mg x=v:=by
 unfold Jl at h;rw[e]at h;exact h
theorem S4{m:Ag}{c:Af}{C:Ak}{v:Aj}(h:Jl K mg x=Aa v)(e:HX.lookup x=Aa (c,m))(hC:OC K c=Aa C):Av K (.ref C) m=Aa (Aa v):=by
 unfold Jl at h;rw[e]at h;dsimp only at h;rw[hC]at h;have h':(Av K (.ref C) m).join=Aa v:=h;cases q:Av K (.ref C) m with
 |none=>rw[q]at h';cases h'
 |some u=>rw[q]at h';have:u=Aa v:=h';rw[this]
abbrev ClA:=Af->Ao Ak
variable{CL:ClA}
def KL(K:Fg)(a:Ak)(xs:Ac V):Prop:=∃(o:Da)(its:A9 Aj)(n:Af),K.lookup a=Aa o/\o.cls=.type "list"/\o.dict=Ae/\o.data=.seq its n/\its.size<=sizeLine/\AZ xs its.toList
def KT(K:Fg)(a:Ak)(xs:Ac V):Prop:=∃(o:Da)(its:A9 Aj)(n:Af),K.lookup a=Aa o/\o.cls=.type "tuple"/\o.data=.seq its n/\its.size<=sizeLine/\AZ xs its.toList
section
variable(K:Fg)(CL:ClA)(H:Hp)(A:Ak->Prop)
mutual
def Rep:V->D->Prop
 |v,.non=>v=.non
 |v,.bl b=>v=.bl b
 |v,.int i=>v=.int i
 |v,.str x=>v=.str x
 |v,.tup ds=>∃ a xs,v=.ref a/\(¬ A a\/KT K a xs)/\SqT K H a xs/\Reps xs ds
 |v,.lst ds=>∃ a xs,v=.ref a/\(¬ A a\/KL K a xs)/\SqL K H a xs/\Reps xs ds
 |v,.obj c fs=>∃ a C dx vs,v=.ref a/\¬ A a/\OC K c=Aa C/\H a=Aa (.ins C dx vs)/\Repf vs fs
 |_,.dic _=>AX
 |v,.exc c fs=>∃ a C φ,v=.ref a/\¬ A a/\CL c=Aa C/\H a=Aa (.ext φ)/\(∀ h,φ h->∃ o,h.get? a=Aa o/\o.cls=.ref C)/\(fs=[]\/∃ dx vs,¬ A dx/\H dx=Aa (.xd vs)/\Repf vs fs/\∀ h,φ h->∃ o,h.get? a=Aa o/\o.dict=Aa dx/\∃ us,o.data=.fields us)
def Reps:Ac V->Ac D->Prop
 |[],[]=>HM
 |v::vs,d::ds=>Rep v d/\Reps vs ds
 |_,_=>AX
def Repf:Ac (Ag×V)->Ac (Ag×D)->Prop
 |[],[]=>HM
 |v::vs,d::ds=>Repp v d/\Repf vs ds
 |_,_=>AX
def Repp:Ag×V->Ag×D->Prop
 |v,(n,d)=>v.1=n/\Rep v.2 d
end
def Cw(v:V)(d:D):Prop:=Rep K CL H A v d\/∃ a xs ds,v=.ref a/\d=.lst ds/\H a=Aa (.lst xs)/\Reps K CL H A xs ds
end
def Kp(A:Ak->Prop)(H H':Hp):Prop:=∀ b o,H b=Aa o->¬ A b->H' b=Aa o
def AOk(H:Hp)(A:Ak->Prop):Prop:=∀ a,A a->∃ xs,H a=Aa (.lst xs)
theorem Kp.of(h:Ay H H'):Kp A H H':=λb o e _=>h b o e
theorem AOk.same(h:AOk H A)(s:Ay H H'):AOk H' A:=λa ha=>let ⟨xs,e⟩:=h a ha;⟨xs,s _ _ e⟩
theorem AOk.new{p:Ak}(h:AOk H A)(e:H p=Ae):¬ A p:=λha=>by
 obtain⟨xs,q⟩:=h p ha;rw[e]at q;cases q
section
variable{K:Fg}{CL:ClA}{H H':Hp}{A B:Ak->Prop}
theorem VI{u:HO}(k:Kp A H H')(na:¬ A a)(h:Rd H a u):Rd H' a u:=by
 rcases h with h|⟨o,h⟩
 .exact .inl (k _ _ h na)
 .exact .inr ⟨o,k _ _ h na⟩
theorem Nx(k:Kp A H H')(na:¬ A a\/KL K a xs)(h:SqL K H a xs):SqL K H' a xs:=na.elim (λna=>h.imp (VI k na) id) .inr
theorem Nw(k:Kp A H H')(na:¬ A a\/KT K a xs)(h:SqT K H a xs):SqT K H' a xs:=na.elim (λna=>h.imp (VI k na) id) .inr
mutual
theorem Rep.kp(k:Kp A H H'):∀{v:V}(d:D),Rep K CL H A v d->Rep K CL H' A v d
 |_,.non,h=>h
 |_,.bl _,h=>h
 |_,.int _,h=>h
 |_,.str _,h=>h
 |_,.dic _,h=>h.elim
 |_,.tup ds,h=>by
  obtain⟨a,xs,e,na,s,r⟩:=h;exact⟨a,xs,e,na,by first|exact Nw k na s|exact Nx k na s,Reps.kp k ds r⟩
 |_,.lst ds,h=>by
  obtain⟨a,xs,e,na,s,r⟩:=h;exact⟨a,xs,e,na,by first|exact Nw k na s|exact Nx k na s,Reps.kp k ds r⟩
 |_,.obj c fs,h=>by
  obtain⟨a,C,dx,vs,e,na,c,s,r⟩:=h;exact⟨a,C,dx,vs,e,na,c,k _ _ s na,Repf.kp k fs r⟩
 |_,.exc c fs,h=>by
  obtain⟨a,C,φ,e,na,c,s,p,q⟩:=h;refine⟨a,C,φ,e,na,c,k _ _ s na,p,q.imp id ?_⟩;rintro⟨dx,vs,nx,s2,r,z⟩;exact⟨dx,vs,nx,k _ _ s2 nx,Repf.kp k fs r,z⟩
theorem Reps.kp(k:Kp A H H'):∀{vs:Ac V}(ds:Ac D),Reps K CL H A vs ds->Reps K CL H' A vs ds
 |[],[],h=>h
 |_::_,d::ds,h=>⟨Rep.kp k d h.1,Reps.kp k ds h.2⟩
 |[],_::_,h=>h.elim
 |_::_,[],h=>h.elim
theorem Repf.kp(k:Kp A H H'):∀{vs:Ac (Ag×V)}(ds:Ac (Ag×D)),Repf K CL H A vs ds->Repf K CL H' A vs ds
 |[],[],h=>h
 |_::_,d::ds,h=>⟨Repp.kp k d h.1,Repf.kp k ds h.2⟩
 |[],_::_,h=>h.elim
 |_::_,[],h=>h.elim
theorem Repp.kp(k:Kp A H H'):∀{v:Ag×V}(d:Ag×D),Repp K CL H A v d->Repp K CL H' A v d
 |_,(_,d),h=>⟨h.1,Rep.kp k d h.2⟩
end
mutual
theorem Rep.sub(k:∀ a,B a->A a):∀{v:V}(d:D),Rep K CL H A v d->Rep K CL H B v d
 |_,.non,h=>h
 |_,.bl _,h=>h
 |_,.int _,h=>h
 |_,.str _,h=>h
 |_,.dic _,h=>h.elim
 |_,.tup ds,h=>by
  obtain⟨a,xs,e,na,s,r⟩:=h;exact⟨a,xs,e,na.imp (λna z=>na (k _ z)) id,s,Reps.sub k ds r⟩
 |_,.lst ds,h=>by
  obtain⟨a,xs,e,na,s,r⟩:=h;exact⟨a,xs,e,na.imp (λna z=>na (k _ z)) id,s,Reps.sub k ds r⟩
 |_,.obj c fs,h=>by
  obtain⟨a,C,dx,vs,e,na,c,s,r⟩:=h;exact⟨a,C,dx,vs,e,λz=>na (k _ z),c,s,Repf.sub k fs r⟩
 |_,.exc c fs,h=>by
  obtain⟨a,C,φ,e,na,c,s,p,q⟩:=h;refine⟨a,C,φ,e,λz=>na (k _ z),c,s,p,q.imp id ?_⟩
  rintro⟨dx,vs,nx,s2,r,z⟩;exact⟨dx,vs,λz=>nx (k _ z),s2,Repf.sub k fs r,z⟩
theorem Reps.sub(k:∀ a,B a->A a):∀{vs:Ac V}(ds:Ac D),Reps K CL H A vs ds->Reps K CL H B vs ds
 |[],[],h=>h
 |_::_,d::ds,h=>⟨Rep.sub k d h.1,Reps.sub k ds h.2⟩
 |[],_::_,h=>h.elim
 |_::_,[],h=>h.elim
theorem Repf.sub(k:∀ a,B a->A a):∀{vs:Ac (Ag×V)}(ds:Ac (Ag×D)),Repf K CL H A vs ds->Repf K CL H B vs ds
 |[],[],h=>h
 |_::_,d::ds,h=>⟨Repp.sub k d h.1,Repf.sub k ds h.2⟩
 |[],_::_,h=>h.elim
 |_::_,[],h=>h.elim
theorem Repp.sub(k:∀ a,B a->A a):∀{v:Ag×V}(d:Ag×D),Repp K CL H A v d->Repp K CL H B v d
 |_,(_,d),h=>⟨h.1,Rep.sub k d h.2⟩
end
mutual
theorem Rep.wide(hp:∀ a,B a->A a\/H a=Ae):∀{v:V}(d:D),Rep K CL H A v d->Rep K CL H B v d
 |_,.non,h=>h
 |_,.bl _,h=>h
 |_,.int _,h=>h
 |_,.str _,h=>h
 |_,.dic _,h=>h.elim
 |_,.tup ds,h=>by
  obtain⟨a,xs,e,na,s,r⟩:=h;refine⟨a,xs,e,?_,s,Reps.wide hp ds r⟩;rcases s with s|s
  .refine na.imp (λna z=>(hp _ z).elim na λe=>?_) id
   rcases s with s|⟨o,s⟩<;>rw[e]at s<;>cases s
  .exact .inr s
 |_,.lst ds,h=>by
  obtain⟨a,xs,e,na,s,r⟩:=h;refine⟨a,xs,e,?_,s,Reps.wide hp ds r⟩;rcases s with s|s
  .refine na.imp (λna z=>(hp _ z).elim na λe=>?_) id
   rcases s with s|⟨o,s⟩<;>rw[e]at s<;>cases s
  .exact .inr s
 |_,.obj c fs,h=>by
  obtain⟨a,C,dx,vs,e,na,c,s,r⟩:=h;exact⟨a,C,dx,vs,e,(λz=>(hp _ z).elim na λe=>by rw[e]at s;cases s),c,s,Repf.wide hp fs r⟩
 |_,.exc c fs,h=>by
  obtain⟨a,C,φ,e,na,c,s,p,q⟩:=h;refine⟨a,C,φ,e,(λz=>(hp _ z).elim na λe=>by rw[e]at s;cases s),c,s,p,q.imp id ?_⟩
  rintro⟨dx,vs,nx,s2,r,z⟩;exact⟨dx,vs,(λz=>(hp _ z).elim nx λe=>by rw[e]at s2;cases s2),s2,Repf.wide hp fs r,z⟩
theorem Reps.wide(hp:∀ a,B a->A a\/H a=Ae):∀{vs:Ac V}(ds:Ac D),Reps K CL H A vs ds->Reps K CL H B vs ds
 |[],[],h=>h
 |_::_,d::ds,h=>⟨Rep.wide hp d h.1,Reps.wide hp ds h.2⟩
 |[],_::_,h=>h.elim
 |_::_,[],h=>h.elim
theorem Repf.wide(hp:∀ a,B a->A a\/H a=Ae):∀{vs:Ac (Ag×V)}(ds:Ac (Ag×D)),Repf K CL H A vs ds->Repf K CL H B vs ds
 |[],[],h=>h
 |_::_,d::ds,h=>⟨Repp.wide hp d h.1,Repf.wide hp ds h.2⟩
 |[],_::_,h=>h.elim
 |_::_,[],h=>h.elim
theorem Repp.wide(hp:∀ a,B a->A a\/H a=Ae):∀{v:Ag×V}(d:Ag×D),Repp K CL H A v d->Repp K CL H B v d
 |_,(_,d),h=>⟨h.1,Rep.wide hp d h.2⟩
end
theorem Rep.same(s:Ay H H')(h:Rep K CL H A v d):Rep K CL H' A v d:=Rep.kp (Kp.of s) d h
theorem Reps.same{v:Ac V}{d:Ac D}(s:Ay H H')(h:Reps K CL H A v d):Reps K CL H' A v d:=Reps.kp (Kp.of s) d h
theorem Cw.same{v:V}{d:D}(s:Ay H H')(h:Cw K CL H A v d):Cw K CL H' A v d:=by
 rcases h with h|⟨a,xs,ds,e,e2,q,r⟩
 .exact .inl (h.same s)
 .exact .inr ⟨a,xs,ds,e,e2,s _ _ q,r.same s⟩
theorem Reps.length:∀{vs:Ac V}{ds:Ac D},Reps K CL H A vs ds->vs.length=ds.length
 |[],[],_=>rfl
 |_::_,_::_,h=>congrArg (· + 1) (Reps.length h.2)
 |[],_::_,h=>h.elim
 |_::_,[],h=>h.elim
theorem Reps.append:∀{vs ws:Ac V}{ds es:Ac D},Reps K CL H A vs ds->Reps K CL H A ws es->Reps K CL H A (vs++ws) (ds++es)
 |[],_,[],_,_,h=>h
 |_::_,_,_::_,_,h,g=>⟨h.1,Reps.append h.2 g⟩
 |[],_,_::_,_,h,_=>h.elim
 |_::_,_,[],_,h,_=>h.elim
theorem Reps.get:∀{vs:Ac V}{ds:Ac D}{i:Af}{d:D},Reps K CL H A vs ds->ds[i]?=Aa d->∃ v,vs[i]?=Aa v/\Rep K CL H A v d
 |[],[],_,_,_,e=>by simp at e
 |v::_,_::_,0,_,h,e=>by simp at e;subst e;exact⟨v,rfl,h.1⟩
 |_::_,_::_,i+1,_,h,e=>by
  obtain⟨v,q,r⟩:=Reps.get (i:=i) h.2 (by simpa using e)
  exact⟨v,by simpa using q,r⟩
 |[],_::_,_,_,h,_=>h.elim
 |_::_,[],_,_,h,_=>h.elim
theorem Reps.take:∀{vs:Ac V}{ds:Ac D}(n:Af),Reps K CL H A vs ds->Reps K CL H A (vs.take n) (ds.take n)
 |_,_,0,_=>trivial
 |[],[],_+1,_=>trivial
 |_::_,_::_,n+1,h=>⟨h.1,Reps.take n h.2⟩
 |[],_::_,_+1,h=>h.elim
 |_::_,[],_+1,h=>h.elim
theorem Reps.drop:∀{vs:Ac V}{ds:Ac D}(n:Af),Reps K CL H A vs ds->Reps K CL H A (vs.drop n) (ds.drop n)
 |_,_,0,h=>h
 |[],[],_+1,_=>trivial
 |_::_,_::_,n+1,h=>Reps.drop n h.2
 |[],_::_,_+1,h=>h.elim
 |_::_,[],_+1,h=>h.elim
theorem Reps.set{x:V}{e:D}(r:Rep K CL H A x e):∀{vs:Ac V}{ds:Ac D}(n:Af),Reps K CL H A vs ds->Reps K CL H A (vs.set n x) (ds.set n e)
 |[],[],_,_=>trivial
 |_::_,_::_,0,h=>⟨r,h.2⟩
 |_::_,_::_,n+1,h=>⟨h.1,Reps.set r n h.2⟩
 |[],_::_,_,h=>h.elim
 |_::_,[],_,h=>h.elim
end
structure Good (K:Fg) (CL:ClA) (A:Ak->Prop) (U:Rho) (Y:L2.St) (H:Hp):Prop where
 sh:∀(i:Af)(d:D),U[i]?=Aa (Aa (d,Ad))->∃ v,Y[i]?=Aa (Aa v)/\Rep K CL H A v d
 ow:∀(i:Af)(d:D),U[i]?=Aa (Aa (d,Ab))->d≠.non->∃ a xs ds,Y[i]?=Aa (Aa (.ref a))/\d=.lst ds/\A a/\H a=Aa (.lst xs)/\Reps K CL H A xs ds
 len:U.length=Y.length
theorem Good.same{K:Fg}{CL:ClA}{A:Ak->Prop}{U:Rho}{Y:L2.St}{H H':Hp}(g:Good K CL A U Y H)(s:Ay H H'):Good K CL A U Y H':=
 ⟨λi d e=>let ⟨v,q,r⟩:=g.sh i d e;⟨v,q,r.same s⟩,λi d e hn=>let ⟨a,xs,ds,q,z,na,h,r⟩:=g.ow i d e hn;⟨a,xs,ds,q,z,na,s _ _ h,r.same s⟩,g.len⟩
abbrev XW:=Ex->Hp->Prop
variable{W:XW}
def AV(Rp:Hp->V->D->Prop)(W:XW)(H:Hp)(r:R D)(Q:VK):Prop:=match r with
  |.ok d=>∀ v H',Ay H H'->Rp H' v d->Q v H'
  |.exn x=>∀ H',Ay H H'->W x H'
  |.bad=>AX
def G4(Rp:Hp->Ac V->Ac D->Prop)(W:XW)(H:Hp)(r:R (Ac D))(Q:Ac V->Hp->Prop):Prop:=match r with
  |.ok d=>∀ v H',Ay H H'->Rp H' v d->Q v H'
  |.exn x=>∀ H',Ay H H'->W x H'
  |.bad=>AX
def CU(W:XW)(H:Hp)(r:R Al)(Q:Al->Hp->Prop):Prop:=match r with
  |.ok b=>∀ H',Ay H H'->Q b H'
  |.exn x=>∀ H',Ay H H'->W x H'
  |.bad=>AX
theorem AV.same(s:Ay H H')(h:AV Rp W H r Q):AV Rp W H' r Q:=by
 cases r with
 |ok d=>exact λv H2 s2 q=>h v H2 (s.trans s2) q
 |exn x=>exact λH2 s2=>h H2 (s.trans s2)
 |bad=>exact h
theorem CU.same{r:R Al}{Q:Al->Hp->Prop}(s:Ay H H')(h:CU W H r Q):CU W H' r Q:=by
 cases r with
 |ok d=>exact λH2 s2=>h H2 (s.trans s2)
 |exn x=>exact λH2 s2=>h H2 (s.trans s2)
 |bad=>exact h
theorem AV.bind{f:D->R D}{Q':VK}(h:AV Rq W H (r.bind f) Q)(k:∀ d v H',r=.ok d->Ay H H'->Rp H' v d->AV Rq W H' (f d) Q->Q' v H'):AV Rp W H r Q':=by
 cases r with
 |ok d=>exact λv H2 s2 q=>k d v H2 rfl s2 q (AV.same s2 h)
 |exn x=>exact h
 |bad=>exact h
section
variable(X:Cx)(CL:ClA)(W:XW)
def SE(e:Am)(f:Rho->R D):Prop:=∀ A,PE X e (λY H Q=>AOk H A/\∃ U,Good X.K CL A U Y H/\AV (λH=>Rep X.K CL H A) W H (f U) Q)
def ST(e:Am)(f:Rho->R D):Prop:=∀ A,PE X e (λY H Q=>AOk H A/\∃ U,Good X.K CL A U Y H/\AV (λH=>Cw X.K CL H A) W H (f U) Q)
def SB(e:Am)(f:Rho->R Al):Prop:=∀ A,PT X e (λY H Q=>AOk H A/\∃ U,Good X.K CL A U Y H/\CU W H (f U) Q)
def SA(es:Ac Am)(f:Rho->R (Ac D)):Prop:=∀ A,PA X es (λY H Q=>AOk H A/\∃ U,Good X.K CL A U Y H/\G4 (λH=>Reps X.K CL H A) W H (f U) Q)
end
theorem PE.weak{t t':TE}(h:PE X e t)(k:∀ Y H Q,t' Y H Q->t Y H Q):PE X e t':=λpI s Y H Q I q=>h pI s Y H Q I (k _ _ _ q)
theorem PT.weak{t t':TT}(h:PT X e t)(k:∀ Y H Q,t' Y H Q->t Y H Q):PT X e t':=λpI s Y H Q I q=>h pI s Y H Q I (k _ _ _ q)
theorem PA.weak{e:Ac Am}{t t':TA}(h:PA X e t)(k:∀ Y H Q,t' Y H Q->t Y H Q):PA X e t':=λpos pI s Y H Q I q=>h pos pI s Y H Q I (k _ _ _ q)
noncomputable def OpD(X:Cx)(CL:ClA)(W:XW)(f:Aj->Aj->FW Aj)(g:D->D->R D):Prop:=
 ∀ A,OpR X f (λx y H Q=>AOk H A/\∃ dx dy,Cw X.K CL H A x dx/\Cw X.K CL H A y dy/\AV (λH=>Rep X.K CL H A) W H (g dx dy) Q)
section
variable{X:Cx}{CL:ClA}{W:XW}{a b c:Am}{fa fb fc:Rho->R D}{pos:AF}
theorem SE.st(h:SE X CL W a fa):ST X CL W a fa:=λA=>PE.weak (h A) λY H Q ⟨hA,U,g,p⟩=>⟨hA,U,g,by
 cases e:fa U with
 |ok d=>rw[e]at p;exact λv H' s r=>p v H' s (.inl r)
 |exn x=>rw[e]at p;exact p
 | bad=>rw[e]at p;exact p⟩
theorem SE.congr{f g:Rho->R D}(h:SE X CL W a f)(e:∀ U,g U=f U):SE X CL W a g:=λA=>PE.weak (h A) λY H Q ⟨hA,U,q,p⟩=>⟨hA,U,q,by rw[<-e];exact p⟩
theorem NC(h:PE X a (tC v))(r:∀ H A,AOk H A->Rep X.K CL H A v d):SE X CL W a (λ_=>.ok d):=λA=>PE.weak h λY H Q ⟨hA,U,g,p⟩=>p v H (Ay.refl H) (r H A hA)
theorem pZ{i j}:SE X CL W (.Constant (.int i) j pos) (λ_=>.ok (.int i)):=NC oG λ_ _ _=>rfl
theorem VN{b j}:SE X CL W (.Constant (.bool b) j pos) (λ_=>.ok (.bl b)):=NC vV λ_ _ _=>rfl
theorem Vf{j}:SE X CL W (.Constant .none j pos) (λ_=>.ok .non):=NC oF λ_ _ _=>rfl
theorem Ny{x j}:SE X CL W (.Constant (.str x) j pos) (λ_=>.ok (.str x)):=NC NA λ_ _ _=>rfl
theorem iC(h:E5 U i=.ok d):U[i]?=Aa (Aa (d,Ad)):=by
 unfold E5 at h;split at h
 .rename_i e;cases h;exact e
 .cases h
theorem TK(h:Eb U i=.ok d):∃ o,U[i]?=Aa (Aa (d,o))/\(o=Ab->d≠.non):=by
 unfold Eb at h;split at h
 .rename_i e;cases h;exact⟨_,e,λz=>nomatch z⟩
 .rename_i x e;cases x with
  |lst xs=>cases h;exact⟨_,e,λ_ z=>nomatch z⟩
  |_=>cases h
 .cases h
theorem dR{x:Ex}(h:E5 U i=.exn x):AX:=by
 unfold E5 at h;split at h<;>cases h
theorem L3{x:Ex}(h:Eb U i=.exn x):AX:=by
 unfold Eb at h;split at h
 .cases h
 .rename_i y _;cases y<;>cases h
 .cases h
theorem pR(h:PE X a (Ej i)):SE X CL W a (λU=>E5 U i):=λA=>PE.weak h λY H Q ⟨hA,U,g,p⟩=>by
 dsimp only at p;cases e:E5 U i with
 |ok d=>
  rw[e]at p;obtain⟨v,q,r⟩:=g.sh i d (iC e);exact⟨v,q,p v H (Ay.refl H) r⟩
 |exn x=>exact(dR e).elim
 |bad=>rw[e]at p;exact p.elim
theorem Ji(h:PE X a (Ej i)):ST X CL W a (λU=>Eb U i):=λA=>PE.weak h λY H Q ⟨hA,U,g,p⟩=>by
 dsimp only at p;cases e:Eb U i with
 |ok d=>
  rw[e]at p;obtain⟨o,e,hn⟩:=TK e;cases o with
  |false=>
   obtain⟨v,q,r⟩:=g.sh i d e;exact⟨v,q,p v H (Ay.refl H) (.inl r)⟩
  |true=>
   obtain⟨x,xs,ds,q,rfl,ha,hh,r⟩:=g.ow i d e (hn rfl);exact⟨_,q,p _ H (Ay.refl H) (.inr ⟨x,xs,ds,rfl,rfl,hh,r⟩)⟩
 |exn x=>exact(L3 e).elim
 |bad=>rw[e]at p;exact p.elim
theorem op2(h:AOk H A/\∃ U,Good X.K CL A U Y H/\AV Rq W H ((fa U).bind λx=>(fb U).bind λy=>g x y) Q):AOk H A/\∃ U,Good X.K CL A U Y H/\AV (λH=>Cw X.K CL H A) W H (fa U) (λx H1=>AOk H1 A/\∃ U,Good X.K CL A U Y H1/\AV (λH=>Cw X.K CL H A) W H1 (fb U) (λy H2=>AOk H2 A/\∃ dx dy,Cw X.K CL H2 A x dx/\Cw X.K CL H2 A y dy/\AV Rq W H2 (g dx dy) Q)):=by
 obtain⟨hA,U,gd,p⟩:=h;refine⟨hA,U,gd,AV.bind p λdx x H1 _ s1 r1 p1=>⟨hA.same s1,U,gd.same s1,AV.bind p1 λdy y H2 _ s2 r2 p2=>⟨(hA.same s1).same s2,dx,dy,r1.same s2,r2,p2⟩⟩⟩
theorem PU{op:Fx}(ho:OpD X CL W (B8 op) g)(ha:ST X CL W a fa)(hb:ST X CL W b fb):SE X CL W (.BinOp a op b pos) (λU=>(fa U).bind λx=>(fb U).bind λy=>g x y):=
 λA=>PE.weak (VE (ho A) (ha A) (hb A)) λY H Q h=>op2 h
theorem qB(ho:OpD X CL W (CK op) g)(ha:ST X CL W a fa)(hb:ST X CL W b fb)(hm:He op b=Ad):SE X CL W (.Compare a [op] [b] pos) (λU=>(fa U).bind λx=>(fb U).bind λy=>g x y):=
 λA=>PE.weak (jT (ho A) (ha A) (hb A) hm) λY H Q h=>op2 h
theorem Cw.int_of{i:Ah}(h:Cw K CL H A v (.int i)):v=.int i:=by
 rcases h with h|⟨_,_,_,_,e,_⟩
 .exact h
 .cases e
theorem Cw.str_of{i:Ag}(h:Cw K CL H A v (.str i)):v=.str i:=by
 rcases h with h|⟨_,_,_,_,e,_⟩
 .exact h
 .cases e
theorem Cw.bl_of{i:Al}(h:Cw K CL H A v (.bl i)):v=.bl i:=by
 rcases h with h|⟨_,_,_,_,e,_⟩
 .exact h
 .cases e
theorem Cw.non_of(h:Cw K CL H A v .non):v=.non:=by
 rcases h with h|⟨_,_,_,_,e,_⟩
 .exact h
 .cases e
theorem Cw.lst_of{ds:Ac D}(h:Cw K CL H A v (.lst ds)):∃ a xs,v=.ref a/\SqL K H a xs/\Reps K CL H A xs ds:=by
 rcases h with ⟨a,xs,e,_,s,r⟩|⟨a,xs,es,rfl,e,s,r⟩
 .exact⟨a,xs,e,s,r⟩
 .cases e;exact⟨a,xs,rfl,SqL.of s,r⟩
theorem Cw.tup_of{ds:Ac D}(h:Cw K CL H A v (.tup ds)):∃ a xs,v=.ref a/\(¬ A a\/KT K a xs)/\SqT K H a xs/\Reps K CL H A xs ds:=by
 rcases h with ⟨a,xs,e,n,s,r⟩|⟨_,_,_,_,e,_⟩
 .exact⟨a,xs,e,n,s,r⟩
 .cases e
theorem mE{i j:Ah}(h:FD i j=Ab):Oh i j:=by
 unfold FD at h;simp only[BL,Ai,Az]at h;unfold Oh;omega
theorem Uu{a:Ah}(h:a.natAbs<2 ^ 2000):XF a<=2 ^ 20:=by
 unfold XF;split
 .omega
 .rename_i hz;have h0:a.natAbs≠0:=by intro z;exact hz (by rw[Int.natAbs_eq_zero.mp z];rfl)
  have:=(Nat.log2_lt h0).mpr h;omega
theorem mD{i j:Ah}(h:(FD i j||NV i j)=Ab):LK i j:=by
 rcases Bool.or_eq_true_iff.mp h with h|h
 .exact(mE h).ok
 .unfold NV at h;rw[Ai,Az,Az]at h;exact .of_bits (Uu h.1) (Uu h.2)
theorem kA:OpR X (B8 .Mult) (rI LK λi j=>.int (i*j)):=opI λ_ _ _ _ _ _ _ hc q=>mul_int q hc
theorem IZ(h:BG n=Ab):n<=sizeLine:=by
 unfold BG at h;rw[Bs];have:=Cq h;omega
theorem PK{p:Ak}{ds:Ac D}(hA:AOk H A)(hp:H p=Ae)(r:Reps K CL H A xs ds):Rep K CL (upd H p (.lst xs)) A (.ref p) (.lst ds):=
 ⟨p,xs,rfl,.inl (hA.new hp),SqL.of Db,r.same λb o e=>by rw[Bb (F1 e hp)];exact e⟩
theorem Lh{p:Ak}{ds:Ac D}(hA:AOk H A)(hp:H p=Ae)(r:Reps K CL H A xs ds):Rep K CL (upd H p (.tup xs)) A (.ref p) (.tup ds):=
 ⟨p,xs,rfl,.inl (hA.new hp),SqT.of Db,r.same λb o e=>by rw[Bb (F1 e hp)];exact e⟩
theorem En{p:Ak}(h:H p=Ae)(o:HO):Ay H (upd H p o):=λb u q=>by rw[Bb (F1 q h)];exact q
def vQ(K:Fg):R2:=λx y H Q=>∃ l b xs zs,x=.ref l/\y=.ref b/\SqL K H l xs/\SqL K H b zs/\xs.length+zs.length<=sizeLine/\∀ p,H p=Ae->Q (.ref p) (upd H p (.lst (xs++zs)))
end
section
variable{X:Cx}{CL:ClA}{W:XW}
theorem T4:OpR X (B8 .Add) (vQ X.K):=by
 intro pI s Y H x y v u Q I rx ry h;obtain⟨l,b,xs,zs,rfl,rfl,hH,hB,hz,q⟩:=h;cases rx;cases ry;obtain⟨its,r,⟨o,n,e,c,dd,dt⟩,z⟩:=I.list hH;obtain⟨its2,r2,⟨o2,n2,e2,c2,dd2,dt2⟩,z2⟩:=I.list hB;have hl:=r.length;have hl2:=r2.length;obtain⟨cls,dd0,data,sl⟩:=o;obtain⟨cls2,dd02,data2,sl2⟩:=o2;simp only at c dd dt c2 dd2 dt2;subst c dd dt c2 dd2 dt2;have ea:its.toArray++its2.toArray=(its++its2).toArray:=by simp
 refine JL ⟨_,e,rfl⟩ ⟨_,e2,rfl⟩ noFill_list_add seq_list_add PySem.F.slot_list_add PySem.F.entry_list_add (PySem.F.args_list_add_2 _ _) (list_addW l b its.toArray its2.toArray n n2 Ae Ae sl sl2 (by simp;omega)) ⟨e,e2,?_⟩
 rw[ea];exact⟨.ref _,_,I.lnew (t':=s.toks) (r.append r2) (by rw[Bj];omega),rfl,q _ I.fresh⟩
theorem Um:OpD X CL W (B8 .Add) (CN .Add):=by
 intro A pI s Y H x y v u Q I rx ry ⟨hA,dx,dy,hx,hy,p⟩;cases dx with
 |int i=>
  cases dy with
  |int j=>
   have ex:=hx.int_of;have ey:=hy.int_of
   subst ex ey;exact qY pI s Y H _ _ v u Q I rx ry ⟨i,j,rfl,rfl,p _ H (Ay.refl H) rfl⟩
  |_=>exact p.elim
 |str i=>
  cases dy with
  |str j=>
   have ex:=hx.str_of;have ey:=hy.str_of
   subst ex ey;simp only[HQ]at p;split at p
   .rename_i h;exact bN pI s Y H _ _ v u Q I rx ry ⟨i,j,rfl,rfl,IZ h,p _ H (Ay.refl H) rfl⟩
   .exact p.elim
  |_=>exact p.elim
 |lst ds=>
  cases dy with
  |lst es=>
   obtain⟨a,xs,rfl,s1,r1⟩:=hx.lst_of;obtain⟨b,ys,rfl,s2,r2⟩:=hy.lst_of;simp only[Hg]at p;split at p
   .rename_i h;refine T4 pI s Y H _ _ v u Q I rx ry ⟨a,b,xs,ys,rfl,rfl,s1,s2,by rw[r1.length,r2.length];exact IZ h,λq hq=>?_⟩
    exact p _ _ (En hq _) (PK hA hq (r1.append r2))
   .exact p.elim
  |_=>exact p.elim
 |tup ds=>
  cases dy with
  |tup es=>
   obtain⟨a,xs,rfl,na1,s1,r1⟩:=hx.tup_of;obtain⟨b,ys,rfl,_,s2,r2⟩:=hy.tup_of;simp only[Vs]at p;split at p
   .rename_i h;simp only[Ai]at h;refine kC pI s Y H _ _ v u Q I rx ry ⟨a,b,xs,ys,rfl,rfl,s1,s2,?_,by rw[r1.length,r2.length];exact IZ h.2,λhy0=>?_,λ_ q hq=>?_⟩
    .rintro rfl;cases ds with
     |nil=>cases h.1
     |cons _ _=>exact r1.elim
    .subst hy0;cases es with
     |nil=>rw[Bg]at p;exact p _ H (Ay.refl H) ⟨a,xs,rfl,na1,s1,r1⟩
     |cons _ _=>exact r2.elim
    .exact p _ _ (En hq _) (Lh hA hq (r1.append r2))
   .exact p.elim
  |_=>exact p.elim
 |_=>exact p.elim
theorem Nf{op:Fx}{C:Ah->Ah->Prop}{g:Ah->Ah->Ah}(ho:OpR X (B8 op) (rI C λi j=>.int (g i j)))(hg:∀ dx dy,(∃ i j,dx=.int i/\dy=.int j/\((C i j/\CN op dx dy=.ok (.int (g i j)))\/CN op dx dy=.bad))\/CN op dx dy=.bad):OpD X CL W (B8 op) (CN op):=by
 intro A pI s Y H x y v u Q I rx ry ⟨hA,dx,dy,hx,hy,p⟩;rcases hg dx dy with ⟨i,j,rfl,rfl,⟨c,e⟩|e⟩|e
 .have ex:=hx.int_of;have ey:=hy.int_of
  subst ex ey;rw[e]at p;exact ho pI s Y H _ _ v u Q I rx ry ⟨i,j,rfl,rfl,c,p _ H (Ay.refl H) rfl⟩
 .rw[e]at p;exact p.elim
 .rw[e]at p;exact p.elim
theorem jV:OpD X CL W (B8 .Sub) (CN .Sub):=by
 intro A pI s Y H x y v u Q I rx ry ⟨hA,dx,dy,hx,hy,p⟩;cases dx with
 |int i=>
  cases dy with
  |int j=>
   have ex:=hx.int_of;have ey:=hy.int_of
   subst ex ey;exact oK pI s Y H _ _ v u Q I rx ry ⟨i,j,rfl,rfl,p _ H (Ay.refl H) rfl⟩
  |_=>exact p.elim
 |_=>exact p.elim
theorem jX:OpD X CL W (B8 .Mult) (CN .Mult):=Nf kA λdx dy=>by
 cases dx with
 |int i=>
  cases dy with
  |int j=>
   refine .inl ⟨i,j,rfl,rfl,?_⟩;rw[rF];split
   .rename_i h;exact .inl ⟨mD h,rfl⟩
   .exact .inr rfl
  |_=>exact .inr rfl
 |_=>exact .inr rfl
theorem fY:OpD X CL W (B8 .FloorDiv) (CN .FloorDiv):=Nf kB λdx dy=>by
 cases dx with
 |int i=>
  cases dy with
  |int j=>
   refine .inl ⟨i,j,rfl,rfl,?_⟩;rw[lK];split
   .rename_i h;exact .inl ⟨h,rfl⟩
   .exact .inr rfl
  |_=>exact .inr rfl
 |_=>exact .inr rfl
theorem jY:OpD X CL W (B8 .Mod) (CN .Mod):=Nf qW λdx dy=>by
 cases dx with
 |int i=>
  cases dy with
  |int j=>
   refine .inl ⟨i,j,rfl,rfl,?_⟩;rw[rG];split
   .rename_i h;exact .inl ⟨h,rfl⟩
   .exact .inr rfl
  |_=>exact .inr rfl
 |_=>exact .inr rfl
theorem jW:OpD X CL W (B8 .Pow) (CN .Pow):=Nf oM λdx dy=>by
 cases dx with
 |int i=>
  cases dy with
  |int j=>
   refine .inl ⟨i,j,rfl,rfl,?_⟩;rw[pJ];split
   .rename_i h;exact .inl ⟨⟨h.1.1,h.1.2,by omega⟩,rfl⟩
   .exact .inr rfl
  |_=>exact .inr rfl
 |_=>exact .inr rfl
theorem PF(op:Fx):OpD X CL W (B8 op) (CN op):=by
 cases op with
 |Add=>exact Um
 |Sub=>exact jV
 |Mult=>exact jX
 |FloorDiv=>exact fY
 |Mod=>exact jY
 |Pow=>exact jW
 |_=>
  intro A pI s Y H x y v u Q I rx ry ⟨hA,dx,dy,hx,hy,p⟩;exact p.elim
noncomputable abbrev A0:Ak->Prop:=λ_=>AX
theorem Cw.plain(h:Cw K CL H A v d):Rep K CL H A0 v d:=by
 rcases h with h|⟨a,xs,ds,rfl,rfl,e,r⟩
 .exact Rep.sub (λ_ z=>z.elim) d h
 .exact⟨a,xs,rfl,.inl λz=>z.elim,SqL.of e,Reps.sub (λ_ z=>z.elim) ds r⟩
mutual
theorem M9:∀(n:Af)(d:D),flD n d=Ab->eqD d d=Ab
 |_,.non,_=>rfl
 |_,.bl b,_=>by simp
 |_,.int i,_=>by simp
 |_,.str x,_=>by simp
 |n+1,.tup ds,h=>by
  show eqDs ds ds=Ab;exact eqDs_refl n ds h
 |n+1,.lst ds,h=>by
  show eqDs ds ds=Ab;exact eqDs_refl n ds h
 |0,.tup ds,h=>by cases h
 |0,.lst ds,h=>by cases h
 |n,.obj _ _,h=>by cases n<;>cases h
 |n,.exc _ _,h=>by cases n<;>cases h
 |n,.dic _,h=>by cases n<;>cases h
theorem eqDs_refl:∀(n:Af)(ds:Ac D),ds.all (flD n)=Ab->eqDs ds ds=Ab
 |_,[],_=>rfl
 |n,d::ds,h=>by
  simp only[B0,Ai]at h;simp only[OY,Ai];exact⟨M9 n d h.1,eqDs_refl n ds h.2⟩
end
theorem RF{ys:Ac V}(I:Inv X pI Y H s)(h:SqL X.K H a xs)(h':SqT X.K H a ys):AX:=by
 obtain⟨its,r,⟨o,n,e,c,_,_⟩,_⟩:=I.list h;obtain⟨its',r',⟨o',e',c',_⟩,_⟩:=I.tuple h';rw[e]at e';cases e';rw[c]at c'
 injection c' with z
 exact absurd z (by decide)
mutual
theorem Md{pI:Pn}{Y:L2.St}{H:Hp}{s:Ap}(I:Inv X pI Y H s):∀(n:Af)(d e:D){v:V},flD n d=Ab->flD n e=Ab->Rep X.K CL H A0 v d->Rep X.K CL H A0 v e->d=e
 |n,.tup ds,e,v,hd,he,r,q=>by
  obtain⟨a,xs,rfl,_,s1,r1⟩:=r;cases e with
  |tup es=>
   obtain⟨b,ys,e,_,s2,r2⟩:=q;cases e;have z:=I.tuple_inj s1 s2;subst z;cases n with
   |zero=>cases hd
   |succ n=>rw[reps_inj I n ds es hd he r1 r2]
  |lst es=>
   obtain⟨b,ys,e,_,s2,r2⟩:=q;cases e;exact(RF I s2 s1).elim
  |obj=>cases n<;>cases he
  |exc=>cases n<;>cases he
  |dic=>cases n<;>cases he
  |_=>cases q
 |n,.lst ds,e,v,hd,he,r,q=>by
  obtain⟨a,xs,rfl,_,s1,r1⟩:=r;cases e with
  |lst es=>
   obtain⟨b,ys,e,_,s2,r2⟩:=q;cases e;have z:=I.list_inj s1 s2;subst z;cases n with
   |zero=>cases hd
   |succ n=>rw[reps_inj I n ds es hd he r1 r2]
  |tup es=>
   obtain⟨b,ys,e,_,s2,r2⟩:=q;cases e;exact(RF I s1 s2).elim
  |obj=>cases n<;>cases he
  |exc=>cases n<;>cases he
  |dic=>cases n<;>cases he
  |_=>cases q
 |n,.obj _ _,e,v,hd,he,r,q=>by cases n<;>cases hd
 |n,.exc _ _,e,v,hd,he,r,q=>by cases n<;>cases hd
 |n,.dic _,e,v,hd,he,r,q=>by cases n<;>cases hd
 |n,.non,e,v,hd,he,r,q=>by
  cases r;cases e with
  |tup=>obtain⟨_,_,z,_⟩:=q;cases z
  |lst=>obtain⟨_,_,z,_⟩:=q;cases z
  |obj=>cases n<;>cases he
  |exc=>cases n<;>cases he
  |dic=>cases n<;>cases he
  |_=>cases q<;>rfl
 |n,.bl b,e,v,hd,he,r,q=>by
  cases r;cases e with
  |tup=>obtain⟨_,_,z,_⟩:=q;cases z
  |lst=>obtain⟨_,_,z,_⟩:=q;cases z
  |obj=>cases n<;>cases he
  |exc=>cases n<;>cases he
  |dic=>cases n<;>cases he
  |_=>cases q<;>rfl
 |n,.int b,e,v,hd,he,r,q=>by
  cases r;cases e with
  |tup=>obtain⟨_,_,z,_⟩:=q;cases z
  |lst=>obtain⟨_,_,z,_⟩:=q;cases z
  |obj=>cases n<;>cases he
  |exc=>cases n<;>cases he
  |dic=>cases n<;>cases he
  |_=>cases q<;>rfl
 |n,.str b,e,v,hd,he,r,q=>by
  cases r;cases e with
  |tup=>obtain⟨_,_,z,_⟩:=q;cases z
  |lst=>obtain⟨_,_,z,_⟩:=q;cases z
  |obj=>cases n<;>cases he
  |exc=>cases n<;>cases he
  |dic=>cases n<;>cases he
  |_=>cases q<;>rfl
theorem reps_inj{pI:Pn}{Y:L2.St}{H:Hp}{s:Ap}(I:Inv X pI Y H s):∀(n:Af)(ds es:Ac D){xs:Ac V},ds.all (flD n)=Ab->es.all (flD n)=Ab->Reps X.K CL H A0 xs ds->Reps X.K CL H A0 xs es->ds=es
 |_,[],[],_,_,_,_,_=>rfl
 |n,d::ds,e::es,x::xs,hd,he,r,q=>by
  simp only[B0,Ai]at hd he;rw[Md I n d e hd.1 he.1 r.1 q.1,reps_inj I n ds es hd.2 he.2 r.2 q.2]
 |_,[],_::_,[],_,_,_,q=>q.elim
 |_,[],_::_,_::_,_,_,r,_=>r.elim
 |_,_::_,[],[],_,_,r,_=>r.elim
 |_,_::_,[],_::_,_,_,_,q=>q.elim
 |_,_::_,_::_,[],_,_,r,_=>r.elim
end
theorem LY:∀{ds es:Ac D},ds.length≠es.length->eqDs ds es=Ad
 |[],[],h=>absurd rfl h
 |[],_::_,_=>rfl
 |_::_,[],_=>rfl
 |d::ds,e::es,h=>by
  simp only[OY,LY (ds:=ds) (es:=es) (by simpa using h),FJ]
theorem Rg(n:Af)(f:Af->Al):(Ba (n+1)).all f=(f 0&&(Ba n).all λj=>f (j+1)):=by
 rw[EB,B0,Fu];rfl
theorem LZ:∀{ds es:Ac D},ds.length=es.length->eqDs ds es=(Ba ds.length).all λj=>eqD (ds.getD j .non) (es.getD j .non)
 |[],[],_=>rfl
 |d::ds,e::es,h=>by
  rw[OY,LZ (ds:=ds) (es:=es) (by simpa using h),AI,Rg]
  rfl
 |[],_::_,h=>by cases h
 |_::_,[],h=>by cases h
theorem Jj{ds:Ac D}(r:Reps K CL H A0 xs ds)(rv:AZ xs its)(h:j<its.length):∃ x,Rep K CL H A0 x (ds.getD j .non)/\Bq x its[j]:=by
 have e1:=rv.length;have e2:=r.length;have hd:ds[j]?=Aa (ds.getD j .non):=by
  rw[A6,AE (by omega)];rfl
 obtain⟨x,hx,q⟩:=r.get hd;obtain⟨u,hu,ru⟩:=rv.get hx;refine⟨x,q,?_⟩;rw[AE h]at hu;cases hu;exact ru
theorem Iy{ds:Ac D}(h:ds.all (flD n)=Ab)(j:Af):flD n (ds.getD j .non)=Ab:=by
 rw[A6];cases e:ds[j]? with
 |none=>cases n<;>rfl
 |some d=>exact Bw.mp h d (Gx e)
def CF(B:AW)(s:Ap)(u t:Aj)(k:Al):Prop:=KS B s u t k/\Ew B s u t k/\JG B s u t (!k)
section
variable{B:AW}{s:Ap}
open SeqAt
theorem uG:CF B s .none .none Ab:=⟨RcAt.none_none,EqAt.same _,RcNeAt.none_none⟩
theorem tR(a b:Al):CF B s (.bool a) (.bool b) (a==b):=⟨RcAt.bool_bool _ _,EqAt.bool_bool _ _,RcNeAt.bool_bool _ _⟩
theorem uJ(b:Al):CF B s .none (.bool b) Ad:=⟨RcAt.none_bool _,EqAt.none_bool _,RcNeAt.none_bool _⟩
theorem tO(b:Al):CF B s (.bool b) .none Ad:=⟨RcAt.bool_none _,EqAt.bool_none _,RcNeAt.bool_none _⟩
theorem tK(a:Ah)(t:CG)(b:Ah)(u:CG):CF B s (.int a t) (.int b u) (a==b):=⟨RcAt.int_int _ _ _ _,EqAt.int_int _ _ _ _,RcNeAt.int_int _ _ _ _⟩
theorem tZ(a:Ag)(t:CG)(b:Ag)(u:CG):CF B s (.str a t) (.str b u) (a==b):=⟨RcAt.str_str _ _ _ _,EqAt.str_str _ _ _ _,RcNeAt.str_str _ _ _ _⟩
theorem uQ(a:Ah)(t:CG)(b:Ag)(u:CG):CF B s (.int a t) (.str b u) Ad:=⟨RcAt.int_str _ _ _ _,EqAt.int_str _ _ _ _,RcNeAt.int_str _ _ _ _⟩
theorem uC(a:Ag)(t:CG)(b:Ah)(u:CG):CF B s (.str a t) (.int b u) Ad:=⟨RcAt.str_int _ _ _ _,EqAt.str_int _ _ _ _,RcNeAt.str_int _ _ _ _⟩
theorem uI(b:Ah)(u:CG):CF B s .none (.int b u) Ad:=⟨RcAt.none_int _ _,EqAt.none_int _ _,RcNeAt.none_int _ _⟩
theorem uR(b:Ah)(u:CG):CF B s (.int b u) .none Ad:=⟨RcAt.int_none _ _,EqAt.int_none _ _,RcNeAt.int_none _ _⟩
theorem uF(b:Ag)(u:CG):CF B s .none (.str b u) Ad:=⟨RcAt.none_str _ _,EqAt.none_str _ _,RcNeAt.none_str _ _⟩
theorem uA(b:Ag)(u:CG):CF B s (.str b u) .none Ad:=⟨RcAt.str_none _ _,EqAt.str_none _ _,RcNeAt.str_none _ _⟩
theorem tQ(a:Al)(b:Ah)(u:CG):CF B s (.bool a) (.int b u) (b2i a==b):=⟨RcAt.bool_int _ _ _,EqAt.bool_int _ _ _,RcNeAt.bool_int _ _ _⟩
theorem tL(a:Al)(b:Ah)(u:CG):CF B s (.int b u) (.bool a) (b==b2i a):=⟨RcAt.int_bool _ _ _,EqAt.int_bool _ _ _,RcNeAt.int_bool _ _ _⟩
theorem tN(a:Al)(b:Ag)(u:CG):CF B s (.bool a) (.str b u) Ad:=⟨RcAt.bool_str _ _ _,EqAt.bool_str _ _ _,RcNeAt.bool_str _ _ _⟩
theorem uD(a:Al)(b:Ag)(u:CG):CF B s (.str b u) (.bool a) Ad:=⟨RcAt.str_bool _ _ _,EqAt.str_bool _ _ _,RcNeAt.str_bool _ _ _⟩
variable{l:Ak}{items:A9 Aj}
theorem uM(h:s.heap.IsList l items)(hu:B.units<BJ):CF B s (.ref l) .none Ad:=⟨RcAt.list_none h hu,EqAt.list_none h hu,RcNeAt.list_none h hu⟩
theorem uH(h:s.heap.IsList l items)(hu:B.units<BJ):CF B s .none (.ref l) Ad:=⟨RcAt.none_list h hu,EqAt.none_list h hu,RcNeAt.none_list h hu⟩
theorem uO(b:Al)(h:s.heap.IsList l items)(hu:B.units<BJ):CF B s (.ref l) (.bool b) Ad:=⟨RcAt.list_bool b h hu,EqAt.list_bool b h hu,RcNeAt.list_bool b h hu⟩
theorem tP(b:Al)(h:s.heap.IsList l items)(hu:B.units<BJ):CF B s (.bool b) (.ref l) Ad:=⟨RcAt.bool_list b h hu,EqAt.bool_list b h hu,RcNeAt.bool_list b h hu⟩
theorem uN(b:Ah)(u:CG)(h:s.heap.IsList l items)(hu:B.units<BJ):CF B s (.ref l) (.int b u) Ad:=⟨RcAt.list_int b u h hu,EqAt.list_int b u h hu,RcNeAt.list_int b u h hu⟩
theorem uS(b:Ah)(u:CG)(h:s.heap.IsList l items)(hu:B.units<BJ):CF B s (.int b u) (.ref l) Ad:=⟨RcAt.int_list b u h hu,EqAt.int_list b u h hu,RcNeAt.int_list b u h hu⟩
theorem uL(b:Ag)(u:CG)(h:s.heap.IsList l items)(hu:B.units<BJ):CF B s (.ref l) (.str b u) Ad:=⟨RcAt.list_str b u h hu,EqAt.list_str b u h hu,RcNeAt.list_str b u h hu⟩
theorem uB(b:Ag)(u:CG)(h:s.heap.IsList l items)(hu:B.units<BJ):CF B s (.str b u) (.ref l) Ad:=⟨RcAt.str_list b u h hu,EqAt.str_list b u h hu,RcNeAt.str_list b u h hu⟩
theorem tU(h:s.heap.IsTuple l items)(hu:B.units<BJ):CF B s (.ref l) .none Ad:=⟨RcAt.tuple_none h hu,EqAt.tuple_none h hu,RcNeAt.tuple_none h hu⟩
theorem uE(h:s.heap.IsTuple l items)(hu:B.units<BJ):CF B s .none (.ref l) Ad:=⟨RcAt.none_tuple h hu,EqAt.none_tuple h hu,RcNeAt.none_tuple h hu⟩
theorem tX(b:Al)(h:s.heap.IsTuple l items)(hu:B.units<BJ):CF B s (.ref l) (.bool b) Ad:=⟨RcAt.tuple_bool b h hu,EqAt.tuple_bool b h hu,RcNeAt.tuple_bool b h hu⟩
theorem tM(b:Al)(h:s.heap.IsTuple l items)(hu:B.units<BJ):CF B s (.bool b) (.ref l) Ad:=⟨RcAt.bool_tuple b h hu,EqAt.bool_tuple b h hu,RcNeAt.bool_tuple b h hu⟩
theorem tW(b:Ah)(u:CG)(h:s.heap.IsTuple l items)(hu:B.units<BJ):CF B s (.ref l) (.int b u) Ad:=⟨RcAt.tuple_int b u h hu,EqAt.tuple_int b u h hu,RcNeAt.tuple_int b u h hu⟩
theorem uP(b:Ah)(u:CG)(h:s.heap.IsTuple l items)(hu:B.units<BJ):CF B s (.int b u) (.ref l) Ad:=⟨RcAt.int_tuple b u h hu,EqAt.int_tuple b u h hu,RcNeAt.int_tuple b u h hu⟩
theorem tT(b:Ag)(u:CG)(h:s.heap.IsTuple l items)(hu:B.units<BJ):CF B s (.ref l) (.str b u) Ad:=⟨RcAt.tuple_str b u h hu,EqAt.tuple_str b u h hu,RcNeAt.tuple_str b u h hu⟩
theorem tY(b:Ag)(u:CG)(h:s.heap.IsTuple l items)(hu:B.units<BJ):CF B s (.str b u) (.ref l) Ad:=⟨RcAt.str_tuple b u h hu,EqAt.str_tuple b u h hu,RcNeAt.str_tuple b u h hu⟩
theorem uK(h:s.heap.IsList l items)(h2:s.heap.IsTuple b items2)(hu:B.units<BJ):CF B s (.ref l) (.ref b) Ad:=⟨RcAt.list_tuple h h2 hu,EqAt.list_tuple h h2 hu,RcNeAt.list_tuple h h2 hu⟩
theorem tV(h:s.heap.IsTuple l items)(h2:s.heap.IsList b items2)(hu:B.units<BJ):CF B s (.ref l) (.ref b) Ad:=⟨RcAt.tuple_list h h2 hu,EqAt.tuple_list h h2 hu,RcNeAt.tuple_list h h2 hu⟩
end
end
section
variable{X:Cx}{CL:ClA}{W:XW}
theorem Lp{its:A9 Aj}(x:PlainL h a its):h.IsList a its:=let ⟨o,n,e,c,_,d⟩:=x;⟨o,e,c,n,d⟩
def Z_9(X:Cx)(CL:ClA)(H:Hp)(s:Ap)(d:D)(u:Aj):Prop:=match d with
  |.non=>u=.none
  |.bl b=>u=.bool b
  |.int i=>∃ t,u=.int i t
  |.str x=>∃ t,u=.str x t
  |.tup ds=>∃ a xs its,u=.ref a/\Reps X.K CL H A0 xs ds/\AZ xs its/\s.heap.IsTuple a its.toArray
  |.lst ds=>∃ a xs its,u=.ref a/\Reps X.K CL H A0 xs ds/\AZ xs its/\s.heap.IsList a its.toArray
  |_=>AX
theorem TB(I:Inv X pI Y H s)(hd:flD n d=Ab)(r:Rep X.K CL H A0 v d)(q:Bq v u):Z_9 X CL H s d u:=by
 cases d with
 |non=>cases r;exact q
 |bl b=>cases r;exact q
 |int b=>cases r;exact q
 |str b=>cases r;exact q
 |tup ds=>
  obtain⟨a,xs,rfl,_,sq,r⟩:=r;obtain⟨its,rv,p,_⟩:=I.tuple sq;cases q;exact⟨a,xs,its,rfl,r,rv,p⟩
 |lst ds=>
  obtain⟨a,xs,rfl,_,sq,r⟩:=r;obtain⟨its,rv,p,_⟩:=I.list sq;cases q;exact⟨a,xs,its,rfl,r,rv,Lp p⟩
 |obj=>cases n<;>cases hd
 |exc=>cases n<;>cases hd
 |dic=>cases n<;>cases hd
theorem kW{B:AW}{ds es:Ac D}(hl:s.heap.IsList l its.toArray)(hb:s.heap.IsList b its2.toArray)(e1:its.length=ds.length)(e2:its2.length=es.length)(hu:B.units<BJ)(hs:l=b->eqDs ds es=Ab)(he:∀ j (h1:j<its.length) (h2:j<its2.length),Ew B.in1 s its[j] its2[j] (eqD (ds.getD j .non) (es.getD j .non))):CF B s (.ref l) (.ref b) (eqDs ds es):=by
 have rc:KS B s (.ref l) (.ref b) (eqDs ds es):=by
  by_cases hz:its.length=its2.length
  .have q:=SeqAt.RcAt.lists (e:=λj=>eqD (ds.getD j .non) (es.getD j .non)) hl hb (by simpa using hz) hu (λj h1 h2=>by simpa using he j (by simpa using h1) (by simpa using h2))
   rw[LZ (by omega)]
   have e:its.toArray.size=ds.length:=by simpa using e1
   rw[e]at q;exact q
  .rw[LY (by omega)]
   exact SeqAt.RcAt.lists_lengths hl hb (by simpa using hz) hu
 have ne:JG B s (.ref l) (.ref b) (!eqDs ds es):=by
  by_cases hz:its.length=its2.length
  .have q:=SeqAt.RcNeAt.lists (e:=λj=>eqD (ds.getD j .non) (es.getD j .non)) hl hb (by simpa using hz) hu (λj h1 h2=>by simpa using he j (by simpa using h1) (by simpa using h2))
   rw[LZ (by omega)]
   have e:its.toArray.size=ds.length:=by simpa using e1
   rw[e]at q;exact q
  .rw[LY (by omega)]
   exact SeqAt.RcNeAt.lists_lengths hl hb (by simpa using hz) hu
 refine⟨rc,?_,ne⟩;by_cases hlb:l=b
 .rw[hs hlb,hlb];exact YN _
 .exact YM hlb rc
theorem kU{B:AW}{ds es:Ac D}(hl:s.heap.IsTuple l its.toArray)(hb:s.heap.IsTuple b its2.toArray)(e1:its.length=ds.length)(e2:its2.length=es.length)(hu:B.units<BJ)(hs:l=b->eqDs ds es=Ab)(he:∀ j (h1:j<its.length) (h2:j<its2.length),Ew B.in1 s its[j] its2[j] (eqD (ds.getD j .non) (es.getD j .non))):CF B s (.ref l) (.ref b) (eqDs ds es):=by
 have rc:KS B s (.ref l) (.ref b) (eqDs ds es):=by
  have q:=SeqAt.RcAt.tuples (e:=λj=>eqD (ds.getD j .non) (es.getD j .non)) hl hb hu (λj h1 h2=>by simpa using he j (by simpa using h1) (by simpa using h2))
  have e:its.toArray.size=ds.length:=by simpa using e1
  have e':its2.toArray.size=es.length:=by simpa using e2
  rw[e,e']at q;by_cases hz:ds.length=es.length
  .rw[LZ hz];rw[hz,Xm,Cz,WM]at q;rw[hz];exact q
  .rw[LY hz];rw[C5.mpr hz,FJ]at q;exact q
 have ne:JG B s (.ref l) (.ref b) (!eqDs ds es):=by
  have q:=SeqAt.RcNeAt.tuples (e:=λj=>eqD (ds.getD j .non) (es.getD j .non)) hl hb hu (λj h1 h2=>by simpa using he j (by simpa using h1) (by simpa using h2))
  have e:its.toArray.size=ds.length:=by simpa using e1
  have e':its2.toArray.size=es.length:=by simpa using e2
  rw[e,e']at q;by_cases hz:ds.length=es.length
  .rw[LZ hz];rw[hz,Xm,Cz,WM]at q;rw[hz];exact q
  .rw[LY hz];rw[C5.mpr hz,FJ]at q;exact q
 refine⟨rc,?_,ne⟩;by_cases hlb:l=b
 .rw[hs hlb,hlb];exact YN _
 .exact YM hlb rc
theorem Lq{pI:Pn}{Y:L2.St}{H:Hp}{s:Ap}(I:Inv X pI Y H s):∀(n:Af)(d e:D)(v w':V)(u t:Aj)(B:AW),flD n d=Ab->flD n e=Ab->Rep X.K CL H A0 v d->Rep X.K CL H A0 w' e->Bq v u->Bq w' t->B.units+n<BJ->CF B s u t (eqD d e)
  |n,d,e,v,w',u,t,B,hd,he,r,q,rv,rw',hu=>by
    have hu0:B.units<BJ:=by omega
    have sd:=TB I hd r rv;have se:=TB I he q rw'
    match d,e,sd,se with
    |.non,.non,s1,s2=>cases s1;cases s2;exact uG
    |.non,.bl b,s1,s2=>cases s1;cases s2;exact uJ b
    |.non,.int b,s1,s2=>cases s1;obtain⟨_,rfl⟩:=s2;exact uI b _
    |.non,.str b,s1,s2=>cases s1;obtain⟨_,rfl⟩:=s2;exact uF b _
    |.non,.tup es,s1,s2=>cases s1;obtain⟨_,_,_,rfl,_,_,p⟩:=s2;exact uE p hu0
    |.non,.lst es,s1,s2=>cases s1;obtain⟨_,_,_,rfl,_,_,p⟩:=s2;exact uH p hu0
    |.bl a,.non,s1,s2=>cases s1;cases s2;exact tO a
    |.bl a,.bl b,s1,s2=>cases s1;cases s2;exact tR a b
    |.bl a,.int b,s1,s2=>cases s1;obtain⟨_,rfl⟩:=s2;exact tQ a b _
    |.bl a,.str b,s1,s2=>cases s1;obtain⟨_,rfl⟩:=s2;exact tN a b _
    |.bl a,.tup es,s1,s2=>cases s1;obtain⟨_,_,_,rfl,_,_,p⟩:=s2;exact tM a p hu0
    |.bl a,.lst es,s1,s2=>cases s1;obtain⟨_,_,_,rfl,_,_,p⟩:=s2;exact tP a p hu0
    |.int a,.non,s1,s2=>obtain⟨_,rfl⟩:=s1;cases s2;exact uR a _
    |.int a,.bl b,s1,s2=>obtain⟨_,rfl⟩:=s1;cases s2;exact tL b a _
    |.int a,.int b,s1,s2=>obtain⟨_,rfl⟩:=s1;obtain⟨_,rfl⟩:=s2;exact tK a _ b _
    |.int a,.str b,s1,s2=>obtain⟨_,rfl⟩:=s1;obtain⟨_,rfl⟩:=s2;exact uQ a _ b _
    |.int a,.tup es,s1,s2=>obtain⟨_,rfl⟩:=s1;obtain⟨_,_,_,rfl,_,_,p⟩:=s2;exact uP a _ p hu0
    |.int a,.lst es,s1,s2=>obtain⟨_,rfl⟩:=s1;obtain⟨_,_,_,rfl,_,_,p⟩:=s2;exact uS a _ p hu0
    |.str a,.non,s1,s2=>obtain⟨_,rfl⟩:=s1;cases s2;exact uA a _
    |.str a,.bl b,s1,s2=>obtain⟨_,rfl⟩:=s1;cases s2;exact uD b a _
    |.str a,.int b,s1,s2=>obtain⟨_,rfl⟩:=s1;obtain⟨_,rfl⟩:=s2;exact uC a _ b _
    |.str a,.str b,s1,s2=>obtain⟨_,rfl⟩:=s1;obtain⟨_,rfl⟩:=s2;exact tZ a _ b _
    |.str a,.tup es,s1,s2=>obtain⟨_,rfl⟩:=s1;obtain⟨_,_,_,rfl,_,_,p⟩:=s2;exact tY a _ p hu0
    |.str a,.lst es,s1,s2=>obtain⟨_,rfl⟩:=s1;obtain⟨_,_,_,rfl,_,_,p⟩:=s2;exact uB a _ p hu0
    |.tup ds,.non,s1,s2=>cases s2;obtain⟨_,_,_,rfl,_,_,p⟩:=s1;exact tU p hu0
    |.tup ds,.bl b,s1,s2=>cases s2;obtain⟨_,_,_,rfl,_,_,p⟩:=s1;exact tX b p hu0
    |.tup ds,.int b,s1,s2=>obtain⟨_,rfl⟩:=s2;obtain⟨_,_,_,rfl,_,_,p⟩:=s1;exact tW b _ p hu0
    |.tup ds,.str b,s1,s2=>obtain⟨_,rfl⟩:=s2;obtain⟨_,_,_,rfl,_,_,p⟩:=s1;exact tT b _ p hu0
    |.tup ds,.lst es,s1,s2=>obtain⟨_,_,_,rfl,_,_,p⟩:=s1;obtain⟨_,_,_,rfl,_,_,p2⟩:=s2;exact tV p p2 hu0
    |.lst ds,.non,s1,s2=>cases s2;obtain⟨_,_,_,rfl,_,_,p⟩:=s1;exact uM p hu0
    |.lst ds,.bl b,s1,s2=>cases s2;obtain⟨_,_,_,rfl,_,_,p⟩:=s1;exact uO b p hu0
    |.lst ds,.int b,s1,s2=>obtain⟨_,rfl⟩:=s2;obtain⟨_,_,_,rfl,_,_,p⟩:=s1;exact uN b _ p hu0
    |.lst ds,.str b,s1,s2=>obtain⟨_,rfl⟩:=s2;obtain⟨_,_,_,rfl,_,_,p⟩:=s1;exact uL b _ p hu0
    |.lst ds,.tup es,s1,s2=>obtain⟨_,_,_,rfl,_,_,p⟩:=s1;obtain⟨_,_,_,rfl,_,_,p2⟩:=s2;exact uK p p2 hu0
    |.tup ds,.tup es,s1,s2=>
      match n,hd,he,hu with
      |n+1,hd,he,hu=>
        obtain⟨a,xs,its,rfl,r1,v1,p1⟩:=s1;obtain⟨b,ys,its2,rfl,r2,v2,p2⟩:=s2;have l1:=v1.length;have l2:=r1.length;have l3:=v2.length;have l4:=r2.length
        refine kU p1 p2 (by omega) (by omega) hu0 (λhab=>?_) λj h1 h2=>?_
        · have e1:v=.ref a:=Bq.inj rv rfl;have e2:w'=.ref b:=Bq.inj rw' rfl;subst e1 e2 hab;have z:=Md I (n+1) _ _ hd he r q
          injection z with z
          rw[z];exact eqDs_refl n es he
        · obtain⟨x,rx,qx⟩:=Jj r1 v1 h1;obtain⟨y,ry,qy⟩:=Jj r2 v2 h2;exact(Lq I n _ _ x y _ _ B.in1 (Iy hd j) (Iy he j) rx ry qx qy (by show B.units+1+n<BJ;omega)).2.1
    |.lst ds,.lst es,s1,s2=>
      match n,hd,he,hu with
      |n+1,hd,he,hu=>
        obtain⟨a,xs,its,rfl,r1,v1,p1⟩:=s1;obtain⟨b,ys,its2,rfl,r2,v2,p2⟩:=s2;have l1:=v1.length;have l2:=r1.length;have l3:=v2.length;have l4:=r2.length
        refine kW p1 p2 (by omega) (by omega) hu0 (λhab=>?_) λj h1 h2=>?_
        · have e1:v=.ref a:=Bq.inj rv rfl;have e2:w'=.ref b:=Bq.inj rw' rfl;subst e1 e2 hab;have z:=Md I (n+1) _ _ hd he r q
          injection z with z
          rw[z];exact eqDs_refl n es he
        · obtain⟨x,rx,qx⟩:=Jj r1 v1 h1;obtain⟨y,ry,qy⟩:=Jj r2 v2 h2;exact(Lq I n _ _ x y _ _ B.in1 (Iy hd j) (Iy he j) rx ry qx qy (by show B.units+1+n<BJ;omega)).2.1
    |.obj _ _,_,s1,_=>exact s1.elim
    |.exc _ _,_,s1,_=>exact s1.elim
    |.dic _,_,s1,_=>exact s1.elim
    |_,.obj _ _,_,s2=>exact s2.elim
    |_,.exc _ _,_,s2=>exact s2.elim
    |_,.dic _,_,s2=>exact s2.elim
end
section
variable{X:Cx}{CL:ClA}{W:XW}
theorem Nu(I:Inv X pI Y H s){ds:Ac D}(B:AW)(hd:flD n d=Ab)(hs:ds.all (flD n)=Ab)(r:Reps X.K CL H A0 xs ds)(rv:AZ xs its)(q:Rep X.K CL H A0 v d)(qv:Bq v u)(hu:B.units+n<BJ):∃ e:Aj->Al,(∀ y,y∈its.toArray->Ew B s y u (e y))/\its.toArray.any e=ds.any λy=>eqD y d:=by
 have l1:=rv.length;have l2:=r.length
 have key:∀ y,y∈its->∃ k:Al,Ew B s y u k/\∀ j (h:j<its.length),its[j]=y->eqD (ds.getD j .non) d=k:=λy hy=>by
  obtain⟨j,hj,rfl⟩:=Ek hy;obtain⟨x,rx,qx⟩:=Jj r rv hj;refine⟨eqD (ds.getD j .non) d,(Lq I n _ _ x v _ _ B (Iy hs j) hd rx q qx qv hu).2.1,λj' hj' e=>?_⟩
  obtain⟨x',rx',qx'⟩:=Jj r rv hj';rw[e]at qx';have z:=Bq.inj qx qx';subst z;rw[Md I n _ _ (Iy hs j') (Iy hs j) rx' rx]
 have key2:∀ y,∃ k:Al,y∈its->Ew B s y u k/\∀ j (h:j<its.length),its[j]=y->eqD (ds.getD j .non) d=k:=λy=>by
  by_cases hy:y∈its
  .obtain⟨k,hk⟩:=key y hy;exact⟨k,λ_=>hk⟩
  .exact⟨Ab,λh=>absurd h hy⟩
 refine⟨λy=>Hz (key2 y),λy hy=>(Dd (key2 y) (by simpa using hy)).1,?_⟩
 rw[Ia];simp only[List.any_toArray,DF];constructor
 .rintro⟨y,hy,hk⟩;obtain⟨j,hj,rfl⟩:=Ek hy;have z:=(Dd (key2 its[j]) hy).2 j hj rfl;rw[hk]at z;refine⟨ds.getD j .non,?_,z⟩;rw[A6,AE (by omega)]
  exact BM _
 .rintro⟨y,hy,hk⟩;obtain⟨j,hj,rfl⟩:=Ek hy;have hj':j<its.length:=by omega
  refine⟨its[j],BM _,?_⟩;have z:=(Dd (key2 its[j]) (BM _)).2 j hj' rfl;rw[<-z,A6,AE hj];exact hk
theorem M3{g:Ah->Ah->Al}(ho:OpR X (CK op) (rI0 λi j=>.bl (g i j)))(hg:∀ dx dy,(∃ i j,dx=.int i/\dy=.int j/\BU op dx dy=.ok (.bl (g i j)))\/BU op dx dy=.bad):OpD X CL W (CK op) (BU op):=by
 intro A pI s Y H x y v u Q I rx ry ⟨hA,dx,dy,hx,hy,p⟩;rcases hg dx dy with ⟨i,j,rfl,rfl,e⟩|e
 .have ex:=hx.int_of;have ey:=hy.int_of
  subst ex ey;rw[e]at p;exact ho pI s Y H _ _ v u Q I rx ry ⟨i,j,rfl,rfl,p _ H (Ay.refl H) rfl⟩
 .rw[e]at p;exact p.elim
theorem Uz{x:V}(h:Cw X.K CL H A x d)(hd:d≠.non):x≠.non:=by
 rintro rfl;have h:=h.plain;cases d with
 |non=>exact hd rfl
 |tup=>obtain⟨_,_,e,_⟩:=h;cases e
 |lst=>obtain⟨_,_,e,_⟩:=h;cases e
 |obj=>obtain⟨_,_,_,_,e,_⟩:=h;cases e
 |exc=>obtain⟨_,_,_,e,_⟩:=h;cases e
 |dic=>exact h.elim
 |_=>cases h
theorem Ng(hu:X.A.units+64<BJ)(op:Dr):OpD X CL W (CK op) (BU op):=by
 cases op with
 |Eq=>
  intro A pI s Y H x y v u Q I rx ry ⟨hA,dx,dy,hx,hy,p⟩;rw[wG]at p;split at p
  .rename_i h;simp only[Ai]at h;exact(Lq I 5 dx dy x y v u X.A h.1 h.2 hx.plain hy.plain rx ry (by omega)).1 X.prog X.w X.xe _ ⟨.bl _,H,I,rfl,p _ H (Ay.refl H) rfl⟩
  .exact p.elim
 |NotEq=>
  intro A pI s Y H x y v u Q I rx ry ⟨hA,dx,dy,hx,hy,p⟩;rw[vD]at p;split at p
  .rename_i h;simp only[Ai]at h;exact(Lq I 5 dx dy x y v u X.A h.1 h.2 hx.plain hy.plain rx ry (by omega)).2.2 X.prog X.w X.xe _ ⟨.bl _,H,I,rfl,p _ H (Ay.refl H) rfl⟩
  .exact p.elim
 |Lt=>
  refine M3 vX λdx dy=>?_
  cases dx with
  |int i=>
   cases dy with
   |int j=>exact .inl ⟨i,j,rfl,rfl,rfl⟩
   |_=>exact .inr rfl
  |_=>exact .inr rfl
 |LtE=>
  refine M3 vY λdx dy=>?_
  cases dx with
  |int i=>
   cases dy with
   |int j=>exact .inl ⟨i,j,rfl,rfl,rfl⟩
   |_=>exact .inr rfl
  |_=>exact .inr rfl
 |Gt=>
  refine M3 vZ λdx dy=>?_
  cases dx with
  |int i=>
   cases dy with
   |int j=>exact .inl ⟨i,j,rfl,rfl,rfl⟩
   |_=>exact .inr rfl
  |_=>exact .inr rfl
 |GtE=>
  refine M3 wA λdx dy=>?_
  cases dx with
  |int i=>
   cases dy with
   |int j=>exact .inl ⟨i,j,rfl,rfl,rfl⟩
   |_=>exact .inr rfl
  |_=>exact .inr rfl
 |In=>
  intro A pI s Y H x y v u Q I rx ry ⟨hA,dx,dy,hx,hy,p⟩;cases dy with
  |lst es=>
   rw[ZB]at p;split at p
   .rename_i h;simp only[Ai]at h;obtain⟨a,xs,e,_,sq,r⟩:=hy.plain;subst e;cases ry;obtain⟨its,rv,pl,_⟩:=I.list sq;obtain⟨e,he,ha⟩:=Nu I (n:=5) X.A.in1 h.1 h.2 r rv hx.plain rx (by show X.A.units+1+5<BJ;omega)
    refine SeqAt.in_listAt e (Lp pl) he ?_;rw[ha];exact⟨.bl _,H,I,rfl,p _ H (Ay.refl H) rfl⟩
   .exact p.elim
  |tup es=>
   rw[ZA]at p;split at p
   .rename_i h;simp only[Ai]at h;obtain⟨a,xs,e,_,sq,r⟩:=hy.plain;subst e;cases ry;obtain⟨its,rv,pl,_⟩:=I.tuple sq;obtain⟨e,he,ha⟩:=Nu I (n:=5) X.A.in1 h.1 h.2 r rv hx.plain rx (by show X.A.units+1+5<BJ;omega)
    refine SeqAt.in_tupleAt e pl he ?_;rw[ha];exact⟨.bl _,H,I,rfl,p _ H (Ay.refl H) rfl⟩
   .exact p.elim
  |dic kvs=>exact hy.plain.elim
  |_=>exact p.elim
 |NotIn=>
  intro A pI s Y H x y v u Q I rx ry ⟨hA,dx,dy,hx,hy,p⟩;cases dy with
  |lst es=>
   rw[vB]at p;split at p
   .rename_i h;simp only[Ai]at h;obtain⟨a,xs,e,_,sq,r⟩:=hy.plain;subst e;cases ry;obtain⟨its,rv,pl,_⟩:=I.list sq;obtain⟨e,he,ha⟩:=Nu I (n:=5) X.A.in1 h.1 h.2 r rv hx.plain rx (by show X.A.units+1+5<BJ;omega)
    refine SeqAt.notIn_listAt e (Lp pl) he ?_;rw[ha];exact⟨.bl _,H,I,rfl,p _ H (Ay.refl H) rfl⟩
   .exact p.elim
  |tup es=>
   rw[wD]at p;split at p
   .rename_i h;simp only[Ai]at h;obtain⟨a,xs,e,_,sq,r⟩:=hy.plain;subst e;cases ry;obtain⟨its,rv,pl,_⟩:=I.tuple sq;obtain⟨e,he,ha⟩:=Nu I (n:=5) X.A.in1 h.1 h.2 r rv hx.plain rx (by show X.A.units+1+5<BJ;omega)
    refine SeqAt.notIn_tupleAt e pl he ?_;rw[ha];exact⟨.bl _,H,I,rfl,p _ H (Ay.refl H) rfl⟩
   .exact p.elim
  |str j=>
   cases dx with
   |str i=>exact aJ pI s Y H x y v u _ I rx ry ⟨i,j,hx.plain,hy.plain,p _ H (Ay.refl H) rfl⟩
   |_=>exact p.elim
  |_=>exact p.elim
 |Is=>
  intro A pI s Y H x y v u Q I rx ry ⟨hA,dx,dy,hx,hy,p⟩;cases dy with
  |non=>
   have ey:=hy.non_of;subst ey;refine qX pI s Y H _ _ v u Q I rx ry ⟨rfl,?_⟩;cases dx with
   |non=>
    have ex:=hx.non_of;subst ex;exact p _ H (Ay.refl H) rfl
   |exc=>exact p.elim
   |dic=>exact p.elim
   |_=>rw[By (Uz hx (by simp))];exact p _ H (Ay.refl H) rfl
  |bl b=>
   cases dx with
   |bl a=>
    have ey:=hy.bl_of;have ex:=hx.bl_of;subst ex ey;cases rx;cases ry;refine wpAny_is_plain rfl ⟨.bl (a==b),H,I,?_,p _ H (Ay.refl H) rfl⟩;cases a<;>cases b<;>rfl
   |_=>exact p.elim
  |_=>cases dx<;>exact p.elim
 |IsNot=>
  intro A pI s Y H x y v u Q I rx ry ⟨hA,dx,dy,hx,hy,p⟩;cases dy with
  |non=>
   have ey:=hy.non_of;subst ey;refine jZ pI s Y H _ _ v u Q I rx ry ⟨rfl,?_⟩;cases dx with
   |non=>
    have ex:=hx.non_of;subst ex;exact p _ H (Ay.refl H) rfl
   |exc=>exact p.elim
   |dic=>exact p.elim
   |_=>rw[By (Uz hx (by simp))];exact p _ H (Ay.refl H) rfl
  |bl b=>
   cases dx with
   |bl a=>
    have ey:=hy.bl_of;have ex:=hx.bl_of;subst ex ey;cases rx;cases ry;refine wpAny_isNot_plain rfl ⟨.bl (!(a==b)),H,I,?_,p _ H (Ay.refl H) rfl⟩;cases a<;>cases b<;>rfl
   |_=>exact p.elim
  |_=>cases dx<;>exact p.elim
end
section
variable{X:Cx}{CL:ClA}{W:XW}{a b c:Am}{fa fb fc:Rho->R D}{pos:AF}
theorem CU.bind{f:D->R Al}{Q:Al->Hp->Prop}{Q':VK}(h:CU W H (r.bind f) Q)(k:∀ d v H',r=.ok d->Ay H H'->Rp H' v d->CU W H' (f d) Q->Q' v H'):AV Rp W H r Q':=by
 cases r with
 |ok d=>exact λv H2 s2 q=>k d v H2 rfl s2 q (CU.same s2 h)
 |exn x=>exact h
 |bad=>exact h
theorem CU.bindB{r:R Al}{f:Al->R Al}{Q:Al->Hp->Prop}{Q':Al->Hp->Prop}(h:CU W H (r.bind f) Q)(k:∀ b H',r=.ok b->Ay H H'->CU W H' (f b) Q->Q' b H'):CU W H r Q':=by
 cases r with
 |ok d=>exact λH2 s2=>k d H2 rfl s2 (CU.same s2 h)
 |exn x=>exact h
 |bad=>exact h
theorem G4.bind{Rp:Hp->Ac V->Ac D->Prop}{r:R (Ac D)}{f:Ac D->R D}{Q':Ac V->Hp->Prop}(h:AV Rq W H (r.bind f) Q)(k:∀ d v H',r=.ok d->Ay H H'->Rp H' v d->AV Rq W H' (f d) Q->Q' v H'):G4 Rp W H r Q':=by
 cases r with
 |ok d=>exact λv H2 s2 q=>k d v H2 rfl s2 q (AV.same s2 h)
 |exn x=>exact h
 |bad=>exact h
theorem pT(ha:ST X CL W a fa):SE X CL W (.UnaryOp .USub a pos) (λU=>(fa U).bind λx=>unD .USub x):=λA=>PE.weak (vS nM (ha A)) λY H Q ⟨hA,U,g,p⟩=>⟨hA,U,g,AV.bind p λd v H1 _ s1 r1 p1=>by
 cases d with
 |int i=>
  have e:=r1.int_of;subst e;exact⟨i,rfl,p1 _ H1 (Ay.refl H1) rfl⟩
 | _=>exact p1.elim⟩
theorem O5{f:Al->R D}(h:AV Rq W H ((D5 d).bind f) Q):∃ c,d=.bl c/\AV Rq W H (f c) Q:=by
 cases d with
 |bl c=>exact⟨c,rfl,h⟩
 |_=>exact h.elim
theorem Ve(ha:ST X CL W a fa):SE X CL W (.UnaryOp .Not a pos) (λU=>(fa U).bind λx=>(D5 x).bind λb=>.ok (.bl (!b))):=λA=>PE.weak (oE (ha A)) λY H Q ⟨hA,U,g,p⟩=>⟨hA,U,g,AV.bind p λd v H1 _ s1 r1 p1=>by
 obtain⟨c,rfl,p2⟩:=O5 p1;exact⟨c,r1.bl_of,p2 _ H1 (Ay.refl H1) rfl⟩⟩
theorem PR{op}(ha:SE X CL W a fa):SE X CL W (.BoolOp op [a] pos) fa:=λA=>oC (ha A)
theorem UK{rest:Ac Am}(ha:SE X CL W a fa)(hb:SE X CL W (.BoolOp .And (b::rest) pos) fb):SE X CL W (.BoolOp .And (a::b::rest) pos) (λU=>(fa U).bind λx=>(D5 x).bind λc=>if c=Ab then fb U else .ok (.bl Ad)):=
 λA=>PE.weak (oJ (ha A) (hb A)) λY H Q ⟨hA,U,g,p⟩=>⟨hA,U,g,AV.bind p λd v H1 _ s1 r1 p1=>by
  obtain⟨c,rfl,p2⟩:=O5 p1;refine⟨c,r1,?_⟩;cases c with
  |true=>exact⟨hA.same s1,U,g.same s1,p2⟩
  | false=>exact p2 _ H1 (Ay.refl H1) rfl⟩
theorem uT{rest:Ac Am}(ha:SE X CL W a fa)(hb:SE X CL W (.BoolOp .Or (b::rest) pos) fb):SE X CL W (.BoolOp .Or (a::b::rest) pos) (λU=>(fa U).bind λx=>(D5 x).bind λc=>if c=Ab then .ok (.bl Ab) else fb U):=
 λA=>PE.weak (vT (ha A) (hb A)) λY H Q ⟨hA,U,g,p⟩=>⟨hA,U,g,AV.bind p λd v H1 _ s1 r1 p1=>by
  obtain⟨c,rfl,p2⟩:=O5 p1;refine⟨c,r1,?_⟩;cases c with
  |false=>exact⟨hA.same s1,U,g.same s1,p2⟩
  | true=>exact p2 _ H1 (Ay.refl H1) rfl⟩
theorem TZ{xs:Ac D}{i:Ah}(h:CW xs i=.ok d):∃ k,plD xs.length i=Aa k/\xs[k]?=Aa d:=by
 unfold CW at h;split at h
 .rename_i k e;split at h
  .rename_i d' e';cases h;exact⟨k,e,e'⟩
  .cases h
 .cases h
theorem Lf{xs:Ac D}{i:Ah}{x:Ex}(h:CW xs i=.exn x):AX:=by
 unfold CW at h;split at h
 .split at h<;>cases h
 .cases h
theorem Uw{ds:Ac D}{i:Ah}(r:Reps K CL H A xs ds)(h:CW ds i=.ok d):∃ v,atI xs i=Aa v/\Rep K CL H A v d:=by
 obtain⟨k,e,q⟩:=TZ h;obtain⟨v,hv,rv⟩:=r.get q;refine⟨v,?_,rv⟩;unfold atI;have:ixN xs.length i=Aa k:=by rw[r.length];exact e
 rw[this];exact hv
theorem lE{z:Ag}{i:Ah}(h:CW (Jr z) i=.ok d):∃ c,atI z.cps.toList i=Aa c/\d=.str ⟨#[c]⟩:=by
 obtain⟨k,e,q⟩:=TZ h;unfold Jr at e q;rw[AU]at e;rw[Du]at q;cases hc:z.cps.toList[k]? with
 |none=>rw[hc]at q;cases q
 |some c=>
  rw[hc]at q;refine⟨c,?_,(Be q).symm⟩;unfold atI;have:ixN z.cps.toList.length i=Aa k:=e;rw[this];exact hc
theorem Ru(h:BG n=Ab):n<=sizeLine:=by
 unfold BG at h;have:=Cq h;rw[Bs];omega
theorem qA(hs:PP b)(ha:ST X CL W a fa)(hb:ST X CL W b fb):SE X CL W (.Subscript a b pos) (λU=>(fa U).bind λx=>(fb U).bind λy=>HW x y):=
 λA=>PE.weak (vU (r:=rIx X.K) qK (ha A) (hb A) hs) λY H Q h=>by
  obtain⟨hA,U,g,h⟩:=op2 h;refine⟨hA,U,g,?_⟩;cases e:fa U with
  |bad=>rw[e]at h;exact h
  |exn x=>rw[e]at h;exact h
  |ok dx0=>
   rw[e]at h;intro x H1 s1 r1;obtain⟨hA1,U1,g1,h1⟩:=h x H1 s1 r1;refine⟨hA1,U1,g1,?_⟩;cases e1:fb U1 with
   |bad=>rw[e1]at h1;exact h1
   |exn x=>rw[e1]at h1;exact h1
   |ok dy0=>
    rw[e1]at h1;intro y H2 s2 r2;obtain⟨hA2,dx,dy,rx,ry,p⟩:=h1 y H2 s2 r2;cases dy with
    |int i=>
     have ey:=ry.int_of;subst ey;cases dx with
     |lst ds=>
      obtain⟨q,xs,rfl,sq,r⟩:=rx.lst_of;rw[uX]at p;cases e2:CW ds i with
      |ok d=>
       rw[e2]at p;obtain⟨v,hv,rv⟩:=Uw r e2;exact .inl ⟨q,xs,i,v,rfl,rfl,sq,hv,p v H2 (Ay.refl H2) rv⟩
      |exn x=>exact(Lf e2).elim
      |bad=>rw[e2]at p;exact p.elim
     |tup ds=>
      obtain⟨q,xs,rfl,_,sq,r⟩:=rx.tup_of;rw[uW]at p;cases e2:CW ds i with
      |ok d=>
       rw[e2]at p;obtain⟨v,hv,rv⟩:=Uw r e2;exact .inr (.inl ⟨q,xs,i,v,rfl,rfl,sq,hv,p v H2 (Ay.refl H2) rv⟩)
      |exn x=>exact(Lf e2).elim
      |bad=>rw[e2]at p;exact p.elim
     |str z=>
      have ex:=rx.str_of;subst ex;have p':AV (λH=>Rep X.K CL H A) W H2 (if BG z.length=Ab then CW (Jr z) i else .bad) Q:=p
      split at p'
      .rename_i hz;cases e2:CW (Jr z) i with
       |ok d=>
        rw[e2]at p';obtain⟨c,hc,rfl⟩:=lE e2;exact .inr (.inr ⟨z,i,c,rfl,rfl,Ru hz,hc,p' _ H2 (Ay.refl H2) rfl⟩)
       |exn x=>exact(Lf e2).elim
       |bad=>rw[e2]at p';exact p'.elim
      .exact p'.elim
     |dic=>exact rx.plain.elim
     |_=>exact p.elim
    |_=>cases dx<;>first|exact p.elim|exact rx.plain.elim
theorem UL:SA X CL W [] (λ_=>.ok []):=λA=>PA.weak ET λY H Q ⟨hA,U,g,p⟩=>p [] H (Ay.refl H) trivial
theorem Ue(ha:SE X CL W a fa)(hs:SA X CL W es fs)(hst:Aq (a::es) X.env=(Ad,eval a X.env)::Aq es X.env):SA X CL W (a::es) (λU=>(fa U).bind λx=>(fs U).bind λxs=>.ok (x::xs)):=
 λA=>PA.weak (DJ (ha A) (hs A) hst) λY H Q ⟨hA,U,g,p⟩=>by
  dsimp only at p;refine⟨hA,U,g,?_⟩;cases e:fa U with
  |bad=>rw[e]at p;exact p
  |exn x=>rw[e]at p;exact p
  |ok d=>
   rw[e]at p;intro v H1 s1 r1;refine⟨hA.same s1,U,g.same s1,?_⟩;cases e1:fs U with
   |bad=>rw[R.bind_ok,e1]at p;exact p
   |exn x=>rw[R.bind_ok,e1]at p;exact λH2 s2=>p H2 (s1.trans s2)
   |ok ds=>
    rw[R.bind_ok,e1]at p;exact λvs H2 s2 r2=>p (v::vs) H2 (s1.trans s2) ⟨r1.same s2,r2⟩
theorem Vd(hs:SA X CL W es fs)(hz:∀ U ds,fs U=.ok ds->ds.length<=100000):SE X CL W (.Tuple es k pos) (λU=>(fs U).bind λxs=>.ok (.tup xs)):=
 λA=>PE.weak (UT (hs A)) λY H Q ⟨hA,U,g,p⟩=>⟨hA,U,g,G4.bind p λds vs H1 e s1 r1 p1=>⟨by
  rw[r1.length,Bs];have:=hz U ds e;omega,λq hq=>p1 _ _ (En hq _) (Lh (hA.same s1) hq r1)⟩⟩
def KB(W:XW)(H:Hp)(r:R (Ao Ah))(Q:Ao Ah->Hp->Prop):Prop:=match r with
  |.ok o=>∀ H',Ay H H'->Q o H'
  |.exn x=>∀ H',Ay H H'->W x H'
  |.bad=>AX
theorem KB.bind{r:R (Ao Ah)}{f:Ao Ah->R D}(h:AV Rq W H (r.bind f) Q)(k:∀ o H',r=.ok o->Ay H H'->AV Rq W H' (f o) Q->Q' o H'):KB W H r Q':=by
 cases r with
 |ok d=>exact λH2 s2=>k d H2 rfl s2 (AV.same s2 h)
 |exn x=>exact h
 |bad=>exact h
def SO(X:Cx)(CL:ClA)(W:XW)(e:Ao Am)(f:Rho->R (Ao Ah)):Prop:=∀ A,PO X e (λY H Q=>AOk H A/\∃ U,Good X.K CL A U Y H/\KB W H (f U) Q)
theorem PO.weak{e:Ao Am}{t t':TO}(h:PO X e t)(k:∀ Y H Q,t' Y H Q->t Y H Q):PO X e t':=λpI s Y H Q I q=>h pI s Y H Q I (k _ _ _ q)
theorem kD:SO X CL W Ae (λ_=>.ok Ae):=λA=>PO.weak jO λY H Q ⟨hA,U,g,p⟩=>p H (Ay.refl H)
theorem hG(ha:ST X CL W a fa):SO X CL W (Aa a) (λU=>(fa U).bind λd=>(Ei d).bind λi=>.ok (Aa i)):=λA=>PO.weak (jN (ha A)) λY H Q ⟨hA,U,g,p⟩=>by
 dsimp only at p;refine⟨hA,U,g,?_⟩;cases e:fa U with
 |bad=>rw[e]at p;exact p
 |exn x=>rw[e]at p;exact p
 |ok d=>
  rw[e]at p;intro v H1 s1 r1;cases d with
  |int i=>exact⟨i,r1.int_of,p H1 s1⟩
  |_=>exact p.elim
theorem Uq{ds:Ac D}(lo hi:Ao Ah)(r:Reps K CL H A xs ds):Reps K CL H A (Ka xs lo hi) (GL ds lo hi):=by
 unfold Ka GL;have e:∀ d o,HT.sIx xs.length d o=Jn ds.length d o:=λd o=>by rw[r.length];cases o<;>rfl
 rw[e,e,r.length];exact(r.drop _).take _
end
section
variable{X:Cx}{CL:ClA}{W:XW}{a b c:Am}{fa fb fc:Rho->R D}{pos:AF}
def G3(K:Fg)(CL:ClA)(H:Hp)(A:Ak->Prop):Ac V->Ac D->Prop
 |[],[]=>HM
 |v::vs,d::ds=>Cw K CL H A v d/\G3 K CL H A vs ds
 |_,_=>AX
theorem G3.same{K:Fg}{H H':Hp}{A:Ak->Prop}(s:Ay H H'):∀{vs:Ac V}{ds:Ac D},G3 K CL H A vs ds->G3 K CL H' A vs ds
 |[],[],h=>h
 |_::_,_::_,h=>⟨h.1.same s,G3.same s h.2⟩
 |[],_::_,h=>h.elim
 |_::_,[],h=>h.elim
theorem G3.one{vs:Ac V}(h:G3 K CL H A vs [d]):∃ v,vs=[v]/\Cw K CL H A v d:=by
 cases vs with
 |nil=>exact h.elim
 |cons v vs=>
  cases vs with
  |nil=>exact⟨v,rfl,h.1⟩
  |cons=>exact h.2.elim
def SAT(X:Cx)(CL:ClA)(W:XW)(es:Ac Am)(f:Rho->R (Ac D)):Prop:=∀ A,PA X es (λY H Q=>AOk H A/\∃ U,Good X.K CL A U Y H/\G4 (λH=>G3 X.K CL H A) W H (f U) Q)
theorem kQ:SAT X CL W [] (λ_=>.ok []):=λA=>PA.weak ET λY H Q ⟨hA,U,g,p⟩=>p [] H (Ay.refl H) trivial
theorem eM(ha:ST X CL W a fa)(hs:SAT X CL W es fs)(hst:Aq (a::es) X.env=(Ad,eval a X.env)::Aq es X.env):SAT X CL W (a::es) (λU=>(fa U).bind λx=>(fs U).bind λxs=>.ok (x::xs)):=
 λA=>PA.weak (DJ (ha A) (hs A) hst) λY H Q ⟨hA,U,g,p⟩=>by
  dsimp only at p;refine⟨hA,U,g,?_⟩;cases e:fa U with
  |bad=>rw[e]at p;exact p
  |exn x=>rw[e]at p;exact p
  |ok d=>
   rw[e]at p;intro v H1 s1 r1;refine⟨hA.same s1,U,g.same s1,?_⟩;cases e1:fs U with
   |bad=>rw[R.bind_ok,e1]at p;exact p
   |exn x=>rw[R.bind_ok,e1]at p;exact λH2 s2=>p H2 (s1.trans s2)
   |ok ds=>
    rw[R.bind_ok,e1]at p;exact λvs H2 s2 r2=>p (v::vs) H2 (s1.trans s2) ⟨r1.same s2,r2⟩
def KH(X:Cx)(CL:ClA)(W:XW)(f:Aj)(g:Ac D->R D):Prop:=∀ A,IC X f (λxs H Q=>AOk H A/\∃ ds,G3 X.K CL H A xs ds/\AV (λH=>Rep X.K CL H A) W H (g ds) Q)
theorem UJ{g:Ac D->R D}(hc:KH X CL W (.builtin id) g)(hg:Gl X x)(hm:X.mg x=Ae)(hv:CJ x=Aa (.builtin id))(ha:SAT X CL W (e::es) fs)(hn:x≠"__name__")(hdb:(x==("__debug__" : Ag))=Ad)(he:Aq (e::es) X.env=(Ad,eval e X.env)::Aq es X.env)(hpl:∀ pos,(Bo pos (Aq es X.env)).any (·.1)=Ad):SE X CL W (.Call (.Name x p) (e::es) [] pos) (λU=>(fs U).bind g):=λA=>PE.weak (Kq (hc A) hg hm hv (ha A) hn hdb he (hpl _)) λY H Q ⟨hA,U,gd,q⟩=>⟨hA,U,gd,G4.bind q λds vs H1 _ s1 r1 p1=>⟨hA.same s1,ds,r1,p1⟩⟩
theorem PZ{g:Ac D->R D}(hc:KH X CL W (.type T) g)(hg:Gl X x)(hm:X.mg x=Ae)(hv:CJ x=Aa (.type T))(ha:SAT X CL W (e::es) fs)(hn:x≠"__name__")(hdb:(x==("__debug__" : Ag))=Ad)(he:Aq (e::es) X.env=(Ad,eval e X.env)::Aq es X.env)(hpl:∀ pos,(Bo pos (Aq es X.env)).any (·.1)=Ad):SE X CL W (.Call (.Name x p) (e::es) [] pos) (λU=>(fs U).bind g):=λA=>PE.weak (R9 (hc A) hg hm hv (ha A) hn hdb he (hpl _)) λY H Q ⟨hA,U,gd,q⟩=>⟨hA,U,gd,G4.bind q λds vs H1 _ s1 r1 p1=>⟨hA.same s1,ds,r1,p1⟩⟩
theorem sI:KH X CL W (.builtin "len") (biD .len):=by
  intro A pI s Y H xs us Q I r ⟨hA,ds,rs,p⟩
  match ds,rs,p with
  |[.lst es],rs,p=>
    obtain⟨v,rfl,rv⟩:=rs.one;obtain⟨q,ys,rfl,sq,ry⟩:=rv.lst_of;exact Rr pI s Y H _ us Q I r ⟨q,ys,rfl,.inl sq,p _ H (Ay.refl H) (by rw[ry.length];rfl)⟩
  |[.tup es],rs,p=>
    obtain⟨v,rfl,rv⟩:=rs.one;obtain⟨q,ys,rfl,_,sq,ry⟩:=rv.tup_of;exact Rr pI s Y H _ us Q I r ⟨q,ys,rfl,.inr sq,p _ H (Ay.refl H) (by rw[ry.length];rfl)⟩
  |[.str x],rs,p=>
    obtain⟨v,rfl,rv⟩:=rs.one;have e:=rv.str_of;subst e;have p':AV (λH=>Rep X.K CL H A) W H (if BG x.length=Ab then .ok (.int x.length) else .bad) Q:=p
    split at p'
    · rename_i h;exact aQ pI s Y H _ us Q I r ⟨x,rfl,IZ h,p' _ H (Ay.refl H) rfl⟩
    · exact p'.elim
  |[],_,p=>exact p.elim
  |[.non],_,p=>exact p.elim
  |[.bl _],_,p=>exact p.elim
  |[.int _],_,p=>exact p.elim
  |[.obj _ _],_,p=>exact p.elim
  |[.exc _ _],_,p=>exact p.elim
  |[.dic _],rs,p=>first|exact p.elim|(obtain⟨v,rfl,rv⟩:=rs.one;exact rv.plain.elim)
  |x::_::_,_,p=>cases x<;>exact p.elim
theorem sJ:KH X CL W (.type "int") (biD .int):=by
  intro A pI s Y H xs us Q I r ⟨hA,ds,rs,p⟩
  match ds,rs,p with
  |[.int i],rs,p=>
    obtain⟨v,rfl,rv⟩:=rs.one;have e:=rv.int_of;subst e;exact Su pI s Y H _ us Q I r (.inl ⟨i,rfl,p _ H (Ay.refl H) rfl⟩)
  |[.bl i],rs,p=>
    obtain⟨v,rfl,rv⟩:=rs.one;have e:=rv.bl_of;subst e;exact Su pI s Y H _ us Q I r (.inr ⟨i,rfl,p _ H (Ay.refl H) rfl⟩)
  |[],_,p=>exact p.elim
  |[.non],_,p=>exact p.elim
  |[.str _],_,p=>exact p.elim
  |[.tup _],_,p=>exact p.elim
  |[.lst _],_,p=>exact p.elim
  |[.obj _ _],_,p=>exact p.elim
  |[.exc _ _],_,p=>exact p.elim
  |[.dic _],rs,p=>first|exact p.elim|(obtain⟨v,rfl,rv⟩:=rs.one;exact rv.plain.elim)
  |x::_::_,_,p=>cases x<;>exact p.elim
theorem gM:KH X CL W (.type "tuple") (biD .tuple):=by
  intro A pI s Y H xs us Q I r ⟨hA,ds,rs,p⟩
  match ds,rs,p with
  |[.lst es],rs,p=>
    obtain⟨v,rfl,rv⟩:=rs.one;obtain⟨q,ys,rfl,sq,ry⟩:=rv.lst_of;exact Re pI s Y H _ us Q I r ⟨q,ys,rfl,.inl ⟨sq,λl hl=>p _ _ (En hl _) (Lh hA hl ry)⟩⟩
  |[.tup es],rs,p=>
    obtain⟨v,rfl,rv⟩:=rs.one;obtain⟨q,ys,rfl,na,sq,ry⟩:=rv.tup_of;exact Re pI s Y H _ us Q I r ⟨q,ys,rfl,.inr ⟨sq,p _ H (Ay.refl H) ⟨q,ys,rfl,na,sq,ry⟩⟩⟩
  |[],_,p=>exact p.elim
  |[.non],_,p=>exact p.elim
  |[.bl _],_,p=>exact p.elim
  |[.int _],_,p=>exact p.elim
  |[.str _],_,p=>exact p.elim
  |[.obj _ _],_,p=>exact p.elim
  |[.exc _ _],_,p=>exact p.elim
  |[.dic _],rs,p=>first|exact p.elim|(obtain⟨v,rfl,rv⟩:=rs.one;exact rv.plain.elim)
  |x::_::_,_,p=>cases x<;>exact p.elim
end
section
variable{X:Cx}{CL:ClA}{W:XW}{a b c:Am}{fa fb fc:Rho->R D}{pos:AF}
theorem SB.congr{f g:Rho->R Al}(h:SB X CL W a f)(e:∀ U,g U=f U):SB X CL W a g:=λA=>PT.weak (h A) λY H Q ⟨hA,U,q,p⟩=>⟨hA,U,q,by rw[<-e];exact p⟩
theorem qD{f:Rho->R Al}(ha:SB X CL W a f):SB X CL W (.UnaryOp .Not a pos) (λU=>(f U).bind λb=>.ok (!b)):=λA=>PT.weak (pG (ha A)) λY H Q ⟨hA,U,g,p⟩=>⟨hA,U,g,CU.bindB p λb H1 _ s1 p1=>p1 H1 (Ay.refl H1)⟩
def SW(X:Cx)(CL:ClA)(W:XW)(e:Am)(f:Rho->R Al):Prop:=∀ A,PW X e (λY H Q=>AOk H A/\∃ U,Good X.K CL A U Y H/\CU W H (f U) Q)
theorem PW.weak{t t':TT}(h:PW X e t)(k:∀ Y H Q,t' Y H Q->t Y H Q):PW X e t':=λwh pI s Y H Q I q=>h wh pI s Y H Q I (k _ _ _ q)
theorem SW.sb{f:Rho->R Al}(h:SW X CL W a f):SB X CL W a f:=λA=>PW.pt (h A)
theorem SW.congr{f g:Rho->R Al}(h:SW X CL W a f)(e:∀ U,g U=f U):SW X CL W a g:=λA=>PW.weak (h A) λY H Q ⟨hA,U,q,p⟩=>⟨hA,U,q,by rw[<-e];exact p⟩
theorem iP{f:Rho->R Al}(ha:SB X CL W a f):SW X CL W (.BoolOp .And [a] pos) f:=λA=>jH (ha A)
theorem nU{f:Rho->R Al}(ha:SB X CL W a f):SW X CL W (.BoolOp .Or [a] pos) f:=λA=>pE (ha A)
theorem nV{f g:Rho->R Al}{rest:Ac Am}(ha:SB X CL W a f)(hb:SW X CL W (.BoolOp .And (b::rest) pos) g):SW X CL W (.BoolOp .And (a::b::rest) pos) (λU=>(f U).bind λc=>if c=Ab then g U else .ok Ad):=
 λA=>PW.weak (pF (ha A) (hb A)) λY H Q ⟨hA,U,gd,p⟩=>⟨hA,U,gd,CU.bindB p λc H1 _ s1 p1=>by
  cases c with
  |true=>exact⟨hA.same s1,U,gd.same s1,p1⟩
  | false=>exact p1 H1 (Ay.refl H1)⟩
theorem sY{f g:Rho->R Al}{rest:Ac Am}(ha:SB X CL W a f)(hb:SW X CL W (.BoolOp .Or (b::rest) pos) g):SW X CL W (.BoolOp .Or (a::b::rest) pos) (λU=>(f U).bind λc=>if c=Ab then .ok Ab else g U):=
 λA=>PW.weak (vR (ha A) (hb A)) λY H Q ⟨hA,U,gd,p⟩=>⟨hA,U,gd,CU.bindB p λc H1 _ s1 p1=>by
  cases c with
  |false=>exact⟨hA.same s1,U,gd.same s1,p1⟩
  | true=>exact p1 H1 (Ay.refl H1)⟩
theorem oO(ho:OpD X CL W (CK op) g)(ha:ST X CL W a fa)(hb:ST X CL W b fb)(hm:He op b=Ad):SB X CL W (.Compare a [op] [b] pos) (λU=>(fa U).bind λx=>(fb U).bind λy=>(g x y).bind D5):=
 λA=>PT.weak (jK (ho A) (ha A) (hb A) hm) λY H Q ⟨hA,U,gd,p⟩=>⟨hA,U,gd,CU.bind p λdx x H1 _ s1 r1 p1=>⟨hA.same s1,U,gd.same s1,CU.bind p1 λdy y H2 _ s2 r2 p2=>
  ⟨(hA.same s1).same s2,dx,dy,r1.same s2,r2,CU.bind p2 λdz z H3 _ s3 r3 p3=>by
   cases dz with
   |bl k=>exact⟨k,r3,p3 H3 (Ay.refl H3)⟩
   | _=>exact p3.elim⟩⟩⟩
theorem eL{op':Dr}(hu:X.A.units+64<BJ)(ha:ST X CL W a fa)(hb:ST X CL W b fb)(hc:ST X CL W c fc)(hm:lastMarks [op,op'] [b,c]=Ad):SB X CL W (.Compare a [op,op'] [b,c] pos) (λU=>(fa U).bind λx=>(fb U).bind λy=>(BU op x y).bind λz=>(D5 z).bind λk=>if k=Ab then (fc U).bind λu=>(BU op' y u).bind D5 else .ok Ad):=
  λA=>PT.weak (dG (Ng hu op A) (Ng hu op' A) (ha A) (hb A) (hc A) hm) λY H Q ⟨hA,U,g,p⟩=>⟨hA,U,g,CU.bind p λdx x H1 _ s1 r1 p1=>⟨hA.same s1,U,g.same s1,CU.bind p1 λdy y H2 _ s2 r2 p2=>
    ⟨(hA.same s1).same s2,dx,dy,r1.same s2,r2,CU.bind p2 λdz z H3 _ s3 r3 p3=>by
      cases dz with
      |bl k=>
        refine⟨k,r3,?_⟩;cases k with
        |false=>exact⟨Ad,rfl,p3 H3 (Ay.refl H3)⟩
        | true=>exact⟨((hA.same s1).same s2).same s3,U,((g.same s1).same s2).same s3,CU.bind p3 λdu u H4 _ s4 r4 p5=>⟨(((hA.same s1).same s2).same s3).same s4,dy,du,(r2.same s3).same s4,r4,CU.bind p5 λdv v H5 _ s5 r5 p6=>by
            cases dv with
            |bl k'=>exact⟨k',r5,p6 H5 (Ay.refl H5)⟩
            | _=>exact p6.elim⟩⟩
      | _=>exact p3.elim⟩⟩⟩
theorem qC(ha:ST X CL W a fa)(he:∀ whole,IJ a X.env whole=(do let v <-whole;standAt a.pos;holding [v] (truthy v))):SB X CL W a (λU=>(fa U).bind BS):=
 λA=>PT.weak (dF (ha A) he) λY H Q ⟨hA,U,g,p⟩=>⟨hA,U,g,CU.bind p λd v H1 _ s1 r1 p1=>by
  cases d with
  |non=>
   have e:=r1.non_of;subst e;exact⟨Ad,rfl,p1 H1 (Ay.refl H1)⟩
  |bl b=>
   have e:=r1.bl_of;subst e;exact⟨b,rfl,p1 H1 (Ay.refl H1)⟩
  |int i=>
   have e:=r1.int_of;subst e;exact⟨_,rfl,p1 H1 (Ay.refl H1)⟩
  |str x=>
   have e:=r1.str_of;subst e;have p2:CU W H1 (if BG x.length=Ab then .ok (x.length != 0) else .bad) Q:=p1
   split at p2
   .rename_i h;refine⟨_,⟨IZ h,rfl⟩,?_⟩;have e:((x.length:Ah) != 0)=(x.length != 0):=by
     rw[Ia];simp
    rw[e];exact p2 H1 (Ay.refl H1)
   .exact p2.elim
  |tup ds=>
   obtain⟨q,xs,rfl,_,sq,r⟩:=r1.tup_of;refine⟨_,.inr (.inl ⟨xs,sq,rfl⟩),?_⟩;have e:xs.isEmpty=ds.isEmpty:=by
    have:=r.length;cases xs<;>cases ds<;>first|rfl|cases this
   rw[e];exact p1 H1 (Ay.refl H1)
  |lst ds=>
   obtain⟨q,xs,rfl,sq,r⟩:=r1.lst_of;refine⟨_,.inl ⟨xs,sq,rfl⟩,?_⟩;have e:xs.isEmpty=ds.isEmpty:=by
    have:=r.length;cases xs<;>cases ds<;>first|rfl|cases this
   rw[e];exact p1 H1 (Ay.refl H1)
  | _=>exact p1.elim⟩
noncomputable def Z_7(K:Fg)(CL:ClA)(H:Hp)(A:Ak->Prop)(cls:Aj)(dx:Ao Ak)(x:Ex):Prop:=
 ∃ C,CL x.c=Aa C/\cls=.ref C/\(x.fs=[]\/∃ d vs,dx=Aa d/\¬ A d/\H d=Aa (.xd vs)/\Repf K CL H A vs x.fs)
def EH(K:Fg)(CL:ClA)(H:Hp)(cls:Aj)(dx:Ao Ak)(x:Ex):Prop:=∀ A,AOk H A->Z_7 K CL H A cls dx x
end
structure Fr where
 f:Ak->HO->Prop
 pin:Af->Ak->Ac V->Prop
variable{Fz:Fr}
instance:CoeFun Fr λ_=>Ak->HO->Prop:=⟨Fr.f⟩
def Bf(B:Ak->Prop)(U:Rho)(Y:L2.St):Ak->Prop:=λa=>B a\/∃(j:Af)(d:D),U[j]?=Aa (Aa (d,Ab))/\Y[j]?=Aa (Aa (.ref a))
structure Sx (K:Fg) (CL:ClA) (Fz:Fr) (B:Ak->Prop) (U:Rho) (Y:L2.St) (H:Hp):Prop where
 good:Good K CL (Bf B U Y) U Y H
 aok:AOk H (Bf B U Y)
 new:∀(j:Af)(d:D)(a:Ak),U[j]?=Aa (Aa (d,Ab))->Y[j]?=Aa (Aa (.ref a))->(∀ o,¬ Fz a o)/\¬ B a
 dis:∀(i j:Af)(d e:D)(a:Ak),U[i]?=Aa (Aa (d,Ab))->U[j]?=Aa (Aa (e,Ab))->Y[i]?=Aa (Aa (.ref a))->Y[j]?=Aa (Aa (.ref a))->i=j
 same:∀ b o,Fz b o->H b=Aa o
 len:U.length=Y.length
 pin:∀ j:Af,U[j]?=Aa (Aa (.non,Ab))->∃ a xs,Fz.pin j a xs/\Y[j]?=Aa (Aa (.ref a))/\H a=Aa (.lst xs)
def Bv(K:Fg)(CL:ClA)(Fz:Fr)(B:Ak->Prop)(W:XW)(o:O)(D:Ends):Prop:=match o with
  |.next U=>∀ Y H,Sx K CL Fz B U Y H->D.nx Y H
  |.brk U=>∀ Y H,Sx K CL Fz B U Y H->D.bk Y H
  |.cont U=>∀ Y H,Sx K CL Fz B U Y H->D.ct Y H
  |.ret d fr=>∀ v H,(∀ b o,Fz b o->H b=Aa o)->Rep K CL H B v d->(fr=Ab->∀ ds,d=.lst ds->∃ a xs,v=.ref a/\(∀ o,¬ Fz a o)/\H a=Aa (.lst xs)/\Reps K CL H (λb=>B b\/b=a) xs ds)->D.rt v H
  |.exn x _=>∀ H,(∀ b o,Fz b o->H b=Aa o)->W x H
  |.bad=>AX
section
variable{K:Fg}{CL:ClA}{Fz Fy:Fr}{B:Ak->Prop}{U:Rho}{Y:L2.St}{H H':Hp}
theorem Sx.mono(k:∀ b o,Fz b o->Fy b o)(kp:∀ j a xs,Fy.pin j a xs->Fz.pin j a xs)(x:Sx K CL Fy B U Y H):Sx K CL Fz B U Y H:=⟨x.good,x.aok,λj d a h1 h2=>⟨λo z=>(x.new j d a h1 h2).1 o (k _ _ z),(x.new j d a h1 h2).2⟩,x.dis,λb o z=>x.same b o (k _ _ z),x.len,λj h=>let ⟨a,xs,h1,h2⟩:=x.pin j h;⟨a,xs,kp _ _ _ h1,h2⟩⟩
theorem Sx.grow(x:Sx K CL Fz B U Y H)(s:Ay H H'):Sx K CL Fz B U Y H':=⟨x.good.same s,x.aok.same s,x.new,x.dis,λb o z=>s _ _ (x.same b o z),x.len,λj h=>let ⟨a,xs,h1,h2,h3⟩:=x.pin j h;⟨a,xs,h1,h2,s _ _ h3⟩⟩
theorem BA{l:Ac α}{v:α}(h:i≠j):(l.set i v)[j]?=l[j]?:=by rw[Gv h]
theorem Ff{l:Ac α}{v w':α}(h:(l.set i v)[i]?=Aa w'):w'=v:=by
 rw[FP]at h;cases e:l[i]? with
 |none=>rw[e]at h;cases h
 |some x=>rw[e]at h;cases h;rfl
theorem Sx.set(x:Sx K CL Fz B U Y H){v:V}{d:D}(i:Af)(r:Rep K CL H (Bf B U Y) v d):Sx K CL Fz B (U.set i (Aa (d,Ad))) (Y.set i (Aa v)) H:=by
 have own:∀(j:Af)(e:D),(U.set i (Aa (d,Ad)))[j]?=Aa (Aa (e,Ab))->i≠j/\U[j]?=Aa (Aa (e,Ab)):=λj e h=>by
  by_cases hj:i=j
  .subst hj;have:=Ff h;cases this
  .exact⟨hj,by rw[BA hj]at h;exact h⟩
 have sub:∀ a,Bf B (U.set i (Aa (d,Ad))) (Y.set i (Aa v)) a->Bf B U Y a:=λa h=>by
  rcases h with h|⟨j,e,h1,h2⟩
  .exact .inl h
  .obtain⟨hj,h1⟩:=own j e h1;rw[BA hj]at h2;exact .inr ⟨j,e,h1,h2⟩
 refine⟨⟨λj e h=>?_,λj e h hn=>?_,by rw[AR,AR];exact x.len⟩,λa h=>x.aok a (sub a h),λj e a h1 h2=>?_,λj k e f a h1 h2 h3 h4=>?_,x.same,by rw[AR,AR];exact x.len,λj h=>?_⟩
 .by_cases hj:i=j
  .subst hj;have e1:=Ff h;cases e1;refine⟨v,?_,Rep.sub sub _ r⟩;have hl:i<Y.length:=by
    rw[<-x.len];have:=(A2.mp h).1;simpa using this
   rw[BV hl]
  .rw[BA hj]at h;obtain⟨w',q,rw'⟩:=x.good.sh j e h;exact⟨w',by rw[BA hj];exact q,Rep.sub sub _ rw'⟩
 .obtain⟨hj,h1⟩:=own j e h;obtain⟨a,xs,ds,q,z,ha,hh,rr⟩:=x.good.ow j e h1 hn;exact⟨a,xs,ds,by rw[BA hj];exact q,z,.inr ⟨j,e,h,by rw[BA hj];exact q⟩,hh,Reps.sub sub _ rr⟩
 .obtain⟨hj,h1⟩:=own j e h1;rw[BA hj]at h2;exact x.new j e a h1 h2
 .obtain⟨hj,h1⟩:=own j e h1;obtain⟨hk,h2⟩:=own k f h2;rw[BA hj]at h3;rw[BA hk]at h4;exact x.dis j k e f a h1 h2 h3 h4
 .obtain⟨hj,h1⟩:=own j _ h;obtain⟨a,xs,p1,p2,p3⟩:=x.pin j h1;exact⟨a,xs,p1,by rw[BA hj];exact p2,p3⟩
end
section
variable{X:Cx}{CL:ClA}{W:XW}{pos:AF}{e:Am}{fe:Rho->R D}
def SS(X:Cx)(CL:ClA)(W:XW)(st:AM)(f:Rho->O):Prop:=∀ Fz B,PS X st (λD Y H=>∃ U,Sx X.K CL Fz B U Y H/\Bv X.K CL Fz B W (f U) D)
def SSs(X:Cx)(CL:ClA)(W:XW)(st:Ac AM)(f:Rho->O):Prop:=∀ Fz B,PSs X st (λD Y H=>∃ U,Sx X.K CL Fz B U Y H/\Bv X.K CL Fz B W (f U) D)
theorem PS.weak{e:AM}{t t':TS}(h:PS X e t)(k:∀ D Y H,t' D Y H->t D Y H):PS X e t':=λpI s Y H D I q=>h pI s Y H D I (k _ _ _ q)
theorem PSs.weak{e:Ac AM}{t t':TS}(h:PSs X e t)(k:∀ D Y H,t' D Y H->t D Y H):PSs X e t':=λpI s Y H D I q=>h pI s Y H D I (k _ _ _ q)
theorem Bv.ex{f:D->O}(x:Sx X.K CL Fz B U Y H)(h:Bv X.K CL Fz B W (O.of U r f) D')(k:∀ d v H',r=.ok d->Ay H H'->Rp H' v d->Sx X.K CL Fz B U Y H'->Bv X.K CL Fz B W (f d) D'->Q v H'):AV Rp W H r Q:=by
 cases r with
 |ok d=>exact λv H' s r=>k d v H' rfl s r (x.grow s) h
 |exn y=>exact λH' s=>h H' λb o z=>s _ _ (x.same b o z)
 |bad=>exact h
theorem Bv.exB{r:R Al}{f:Al->O}{Q:Al->Hp->Prop}(x:Sx X.K CL Fz B U Y H)(h:Bv X.K CL Fz B W (O.of U r f) D')(k:∀ b H',r=.ok b->Ay H H'->Sx X.K CL Fz B U Y H'->Bv X.K CL Fz B W (f b) D'->Q b H'):CU W H r Q:=by
 cases r with
 |ok d=>exact λH' s=>k d H' rfl s (x.grow s) h
 |exn y=>exact λH' s=>h H' λb o z=>s _ _ (x.same b o z)
 |bad=>exact h
theorem gY(he:SE X CL W e fe)(hs:Cn e Ae pos.line X.env=pure Ad):SS X CL W (.Expr e pos) (λU=>O.of U (fe U) λ_=>.next U):=λFz B pI s Y H D I ⟨U,x,p⟩=>
 Ir (he (Bf B U Y)) hs pI s Y H D I ⟨x.aok,U,x.good,Bv.ex x p λd v H' _ s r x' q=>q Y H' x'⟩
theorem nC{n:Ag}(hN:X.N.Nodup)(hi:X.N[i]?=Aa n)(hx:Loc X.env.scope n)(he:SE X CL W e fe)(hs:Cn e (Aa (.Name n pos')) pos.line X.env=pure Ad)(hf:X.fn n=Ab\/X.env.scope.names.lookup n=Aa .local):SS X CL W (.Assign [.Name n pos'] e pos) (λU=>O.of U (fe U) λd=>.next (U.set i (Aa (d,Ad)))):=λFz B pI s Y H D I ⟨U,x,p⟩=>
 Ml hN hi hx (he (Bf B U Y)) hs hf pI s Y H D I ⟨x.aok,U,x.good,Bv.ex x p λd v H' _ s r x' q=>q _ H' (x'.set i r)⟩
theorem gU(he:SE X CL W e fe):SS X CL W (.Return (Aa e) pos) (λU=>O.of U (fe U) λd=>.ret d Ad):=λFz B pI s Y H D I ⟨U,x,p⟩=>
 P3 (he (Bf B U Y)) pI s Y H D I ⟨x.aok,U,x.good,Bv.ex x p λd v H' _ s r x' q=>q v H' x'.same (Rep.sub (λa h=>.inl h) _ r) λz=>nomatch z⟩
theorem sP{a b:Ac AM}{fa fb:Rho->O}(hc:SB X CL W c fc)(ha:SSs X CL W a fa)(hb:SSs X CL W b fb):SS X CL W (.If c a b pos) (λU=>O.of U (fc U) λk=>if k=Ab then fa U else fb U):=λFz B pI s Y H D I ⟨U,x,p⟩=>
 VJ (hc (Bf B U Y)) (ha Fz B) (hb Fz B) pI s Y H D I ⟨x.aok,U,x.good,Bv.exB x p λk H' _ s x' q=>by
  cases k with
  |true=>exact⟨U,x',q⟩
  | false=>exact⟨U,x',q⟩⟩
theorem TV:SSs X CL W [] (λU=>.next U):=λFz B=>PSs.weak Uh λD Y H ⟨U,x,p⟩=>p Y H x
theorem OR{st:AM}{rest:Ac AM}{f g:Rho->O}(h1:SS X CL W st f)(h2:SSs X CL W rest g):SSs X CL W (st::rest) (λU=>(f U).seq g):=λFz B=>PSs.weak (JP (h1 Fz B) (h2 Fz B)) λD Y H ⟨U,x,p⟩=>⟨U,x,by
 dsimp only at p;cases e:f U with
 |next U'=>rw[e]at p;exact λY' H' x'=>⟨U',x',p⟩
 |ret d b=>rw[e]at p;exact p
 |brk U'=>rw[e]at p;exact p
 |cont U'=>rw[e]at p;exact p
 |exn y U'=>rw[e]at p;exact p
 | bad=>rw[e]at p;exact p⟩
end
def Jt(K:Fg)(CL:ClA)(A:Ak->Prop)(ds:Ac D)(J:It)(H1:Hp):Prop:=∀ H,Kp A H1 H->∀ i:Af,(ds.length<=i->J.stop i H)/\∀ d,ds[i]?=Aa d->J.go i H/\∀ x H',J.yld i H x H'->Ay H H'/\∀ B,(∀ a,B a->A a\/H1 a=Ae)->AOk H B->Rep K CL H' B x d
def Fi(K:Fg)(CL:ClA)(A:Ak->Prop)(W:XW)(H:Hp)(r:R (Ac D))(Q:It->Hp->Prop):Prop:=match r with
  |.ok ds=>∀ J H',Ay H H'->Jt K CL A ds J H'->ds.length<=sizeLine->Q J H'
  |.exn x=>∀ H',Ay H H'->W x H'
  |.bad=>AX
def SI(X:Cx)(CL:ClA)(W:XW)(tg iter:Am)(f:Rho->R (Ac D)):Prop:=∀ A,PI X tg iter (λY H R=>AOk H A/\∃ U,Good X.K CL A U Y H/\Fi X.K CL A W H (f U) R)
theorem PI.weak{t t':TI}(h:PI X tg e t)(k:∀ Y H Q,t' Y H Q->t Y H Q):PI X tg e t':=λpI s Y H Q I q=>h pI s Y H Q I (k _ _ _ q)
section
variable{X:Cx}{CL:ClA}{W:XW}{pos p:AF}{tg e a b:Am}{fe fa fb:Rho->R D}
theorem Fi.ex{f:D->R (Ac D)}{Q:It->Hp->Prop}{Q':VK}(h:Fi X.K CL A W H (r.bind f) Q)(k:∀ d v H',r=.ok d->Ay H H'->Rp H' v d->Fi X.K CL A W H' (f d) Q->Q' v H'):AV Rp W H r Q':=by
  cases r with
  | ok d=>exact λv H' s q=>k d v H' rfl s q (by
      have h':Fi X.K CL A W H (f d) Q:=h;cases e:f d with
      |ok ds=>rw[e]at h';exact λJ H2 s2 y z=>h' J H2 (s.trans s2) y z
      |exn y=>rw[e]at h';exact λH2 s2=>h' H2 (s.trans s2)
      | bad=>rw[e]at h';exact h')
  |exn y=>exact h
  |bad=>exact h
theorem MX{x:V}(r:Rep K CL H1 A x d)(k:Kp A H1 H)(hB:∀ a,B a->A a\/H1 a=Ae):Rep K CL H B x d:=by
 have r1:Rep K CL H1 (λa=>A a\/B a) x d:=Rep.wide (λa ha=>ha.elim .inl (hB a)) _ r
 have r2:Rep K CL H (λa=>A a\/B a) x d:=Rep.kp (λb o e na=>k b o e λz=>na (.inl z)) _ r1
 exact Rep.sub (λa ha=>.inr ha) _ r2
theorem aR{ds:Ac D}(na:¬ A q\/KL K q xs)(s:SqL K H q xs)(r:Reps K CL H A xs ds):Jt K CL A ds (Itl K q) H:=λH' k i=>by
 have s':=Nx k na s;refine⟨λh=>⟨xs,s',by rw[r.length];exact h⟩,λd hd=>?_⟩
 obtain⟨v,hv,rv⟩:=r.get hd;exact⟨⟨xs,v,s',hv⟩,λx H2 ⟨e,y⟩=>by
  subst e;have:=y xs s';rw[hv]at this;cases this;exact⟨Ay.refl _,λB hB _=>MX rv k hB⟩⟩
theorem dM{ds:Ac D}(na:¬ A q\/KT K q xs)(s:SqT K H q xs)(r:Reps K CL H A xs ds):Jt K CL A ds (Itt K q) H:=λH' k i=>by
 have s':=Nw k na s;refine⟨λh=>⟨xs,s',by rw[r.length];exact h⟩,λd hd=>?_⟩
 obtain⟨v,hv,rv⟩:=r.get hd;exact⟨⟨xs,v,s',hv⟩,λx H2 ⟨e,y⟩=>by
  subst e;have:=y xs s';rw[hv]at this;cases this;exact⟨Ay.refl _,λB hB _=>MX rv k hB⟩⟩
theorem Ti(lo:Ah)(n:Af):Jt K CL A (Dt lo n) (Itr lo n) H:=λH' k i=>by
 refine⟨λh=>by rw[K7]at h;exact h,λd hd=>?_⟩
 obtain⟨h1,rfl⟩:=Ph hd;exact⟨h1,λx H2 ⟨e,y⟩=>by
  subst e y;exact⟨Ay.refl _,λ_ _ _=>rfl⟩⟩
theorem UR{l:Am}{tl:TE}(hl:PE X l tl):PI X tg l (λY H R=>tl Y H λx H1=>(∃ a,x=.ref a/\(∃ xs,SqL X.K H1 a xs/\(xs.length<=sizeLine->R (Itl X.K a) H1)))\/∃ a,x=.ref a/\(∃ xs,SqT X.K H1 a xs/\(xs.length<=sizeLine->R (Itt X.K a) H1))):=by
 intro pI s Y H R I h;refine thn (hl pI s Y H _ I h) λv s1 ⟨x,H1,I1,r1,q1⟩=>?_
 rcases q1 with ⟨a,e,xs,hq,q⟩|⟨a,e,xs,hq,q⟩
 .subst e;cases r1;obtain⟨its,rv,p,hz⟩:=I1.list hq;refine Hs p.isList ?_;refine⟨s1.heap.objs.size,[s1.heap.objs.size],_,_,H1,rfl,I1.kept (t':=s1.toks) λb o e=>Ar _ e,bB a _,⟨_,AN _ rfl,rfl,rfl⟩,λb hb=>?_,q hz⟩
  have e:b=s1.heap.objs.size:=by simpa using hb
  subst e;exact I1.fpOk (AK _) (I1.hok.fresh (AK _))
 .subst e;cases r1;obtain⟨its,rv,p,hz⟩:=I1.tuple hq;refine Zw (show s1.heap.IsTuple a its.toArray from p) ?_
  refine⟨s1.heap.objs.size,[s1.heap.objs.size],_,_,H1,rfl,I1.kept (t':=s1.toks) λb o e=>Ar _ e,bF a _,⟨_,AN _ rfl,rfl,rfl⟩,λb hb=>?_,q hz⟩
  have e:b=s1.heap.objs.size:=by simpa using hb
  subst e;exact I1.fpOk (AK _) (I1.hok.fresh (AK _))
theorem ZQ(he:SE X CL W e fe):SI X CL W tg e (λU=>(fe U).bind FF):=λA=>PI.weak (UR (he A)) λY H R ⟨hA,U,g,p⟩=>⟨hA,U,g,Fi.ex p λd v H1 _ s1 r1 p1=>by
 cases d with
 |lst ds=>
  obtain⟨q,xs,rfl,na,sq,r⟩:=r1;exact .inl ⟨q,rfl,xs,sq,λhz=>p1 _ H1 (Ay.refl H1) (aR na sq r) (by rw[<-r.length];exact hz)⟩
 |tup ds=>
  obtain⟨q,xs,rfl,na,sq,r⟩:=r1;exact .inr ⟨q,rfl,xs,sq,λhz=>p1 _ H1 (Ay.refl H1) (dM na sq r) (by rw[<-r.length];exact hz)⟩
 | _=>exact p1.elim⟩
theorem R8{lo hi:Ah}{ds:Ac D}(h:Dk lo hi=.ok ds):(-(2 ^ 62)<=lo/\lo<2 ^ 62)/\(-(2 ^ 62)<=hi/\hi<2 ^ 62)/\ds=Dt lo (hi-lo).toNat/\(Dt lo (hi-lo).toNat).length<=sizeLine:=by
 unfold Dk at h;split at h
 .rename_i q;cases h;exact⟨by omega,by omega,rfl,by rw[K7,Bs];omega⟩
 .cases h
theorem Rx{lo hi:Ah}{x:Ex}(h:Dk lo hi=.exn x):AX:=by
 unfold Dk at h;split at h<;>cases h
theorem pQ(ha:ST X CL W a fa)(hg:Gl X "range")(hm:X.mg "range" = Ae)(hs:Aq [a] X.env=[(Ad,eval a X.env)]):SI X CL W tg (.Call (.Name "range" p) [a] [] pos) (λU=>(fa U).bind λx=>(Ei x).bind λj=>Dk 0 j):=
 λA=>PI.weak (cZ hg hm (DJ (ha A) ET hs) hs) λY H R ⟨hA,U,g,q⟩=>⟨hA,U,g,Fi.ex q λd v H1 _ s1 r1 p1=>by
  cases d with
  |int j=>
   have e:=r1.int_of;subst e;have p2:Fi X.K CL A W H1 (Dk 0 j) R:=p1;cases e2:Dk 0 j with
   |ok ds=>
    rw[e2]at p2;obtain⟨_,h2,rfl,hz⟩:=R8 e2;exact⟨j,rfl,h2.1,h2.2,p2 _ H1 (Ay.refl H1) (by rw[WS];exact Ti 0 j.toNat) hz⟩
   |exn y=>exact(Rx e2).elim
   |bad=>rw[e2]at p2;exact p2.elim
  | _=>exact p1.elim⟩
theorem kF(ha:ST X CL W a fa)(hb:ST X CL W b fb)(hg:Gl X "range")(hm:X.mg "range" = Ae)(hs:Aq [a,b] X.env=[(Ad,eval a X.env),(Ad,eval b X.env)])(hs2:Aq [b] X.env=[(Ad,eval b X.env)]):
  SI X CL W tg (.Call (.Name "range" p) [a,b] [] pos) (λU=>(fa U).bind λx=>(fb U).bind λy=>(Ei x).bind λi=>(Ei y).bind λj=>Dk i j):=
 λA=>PI.weak (cY hg hm (DJ (ha A) (DJ (hb A) ET hs2) (by rw[hs,hs2])) hs hs2) λY H R ⟨hA,U,g,q⟩=>⟨hA,U,g,Fi.ex q λd v H1 _ s1 r1 p1=>⟨hA.same s1,U,g.same s1,Fi.ex p1 λd2 v2 H2 _ s2 r2 p2=>by
  cases d with
  |int i=>
   cases d2 with
   |int j=>
    have e:=r1.int_of;have e':=r2.int_of
    subst e e';have p3:Fi X.K CL A W H2 (Dk i j) R:=p2;cases e2:Dk i j with
    |ok ds=>
     rw[e2]at p3;obtain⟨h1,h2,rfl,hz⟩:=R8 e2;exact⟨i,j,rfl,⟨h1.1,h1.2,h2.1,h2.2⟩,p3 _ H2 (Ay.refl H2) (Ti _ _) hz⟩
    |exn y=>exact(Rx e2).elim
    |bad=>rw[e2]at p3;exact p3.elim
   |_=>exact p2.elim
  | _=>exact p2.elim⟩⟩
theorem Bv.exI{r:R (Ac D)}{f:Ac D->O}{Q:It->Hp->Prop}(x:Sx X.K CL Fz B U Y H)(h:Bv X.K CL Fz B W (O.of U r f) D')(k:∀ ds J H',r=.ok ds->Ay H H'->Jt X.K CL A ds J H'->ds.length<=sizeLine->Sx X.K CL Fz B U Y H'->Bv X.K CL Fz B W (f ds) D'->Q J H'):Fi X.K CL A W H r Q:=by
 cases r with
 |ok d=>exact λJ H' s y z=>k d J H' rfl s y z (x.grow s) h
 |exn y=>exact λH' s=>h H' λb o z=>s _ _ (x.same b o z)
 |bad=>exact h
theorem Bv.turn{Fy:Fr}{o:O}{g:Rho->O}{N:L2.St->Hp->Prop}(hf:∀ b q,Fz b q->Fy b q)(hp:∀ j a xs,Fy.pin j a xs->Fz.pin j a xs)(h:Bv K CL Fz B W (o.turn g) D')(k:∀ U' Y' H',Sx K CL Fy B U' Y' H'->Bv K CL Fz B W (g U') D'->N Y' H'):Bv K CL Fy B W o {D' with nx:=N,ct:=N,bk:=D'.nx}:=by
 cases o with
 |next U'=>exact λY' H' x=>k U' Y' H' x h
 |cont U'=>exact λY' H' x=>k U' Y' H' x h
 |brk U'=>exact λY' H' x=>h Y' H' (x.mono hf hp)
 |ret d b=>exact λv H' s r n=>h v H' (λb o z=>s b o (hf b o z)) r λz ds e=>let ⟨a,xs,h1,h2,h3⟩:=n z ds e;⟨a,xs,h1,λo q=>h2 o (hf a o q),h3⟩
 |exn y U'=>exact λH' s=>h H' (λb o z=>s b o (hf b o z))
 |bad=>exact h
noncomputable def Fh(ts:Ac Af)(U:Rho):Rho:=ts.foldl (λU t=>U.set t Ae) U
def GT(K:Fg)(CL:ClA)(as:D->Rho->R Rho)(g:TG):Prop:=∀ Fz B U Y H v d U' Q,Sx K CL Fz B U Y H->Rep K CL H (Bf B U Y) v d->as d U=.ok U'->(∀ Y',Sx K CL Fz B U' Y' H->Q Y' H)->g v Y H Q
theorem mU(i:Af):GT K CL (λd U=>.ok (U.set i (Aa (d,Ad)))) (EG i):=λFz B U Y H v d U' Q x r e k=>by
 cases e;exact k _ (x.set i r)
theorem UF{K:Fg}{Fz:Fr}{B:Ak->Prop}{H:Hp}:∀(ts:Ac Af)(ds:Ac D)(vs:Ac V)(U U':Rho)(Y:L2.St)(Q:L2.St->Hp->Prop),Sx K CL Fz B U Y H->Reps K CL H (Bf B U Y) vs ds->Fe ts ds U=Aa U'->(∀ Y',Sx K CL Fz B U' Y' H->Q Y' H)->(ts.foldr (λt u=>Jm (EG t) u) Jq) vs Y H Q
 |[],[],[],U,U',Y,Q,x,_,e,k=>by
  cases e;exact⟨rfl,k Y x⟩
 |t::ts,d::ds,v::vs,U,U',Y,Q,x,r,e,k=>by
  refine⟨v,vs,rfl,UF ts ds vs _ U' _ Q (x.set t r.1) (Reps.sub (λa ha=>?_) ds r.2) e k⟩
  rcases ha with ha|⟨j,c,h1,h2⟩
  .exact .inl ha
  .by_cases hj:t=j
   .subst hj;have:=Ff h1;cases this
   .rw[BA hj]at h1 h2;exact .inr ⟨j,c,h1,h2⟩
 |[],_::_,_,_,_,_,_,_,_,e,_=>by cases e
 |_::_,[],_,_,_,_,_,_,_,e,_=>by cases e
 |[],[],_::_,_,_,_,_,_,r,_,_=>r.elim
 |_::_,_::_,[],_,_,_,_,_,r,_,_=>r.elim
theorem OH:∀(ts:Ac Af)(ds:Ac D)(U U':Rho),Fe ts ds U=Aa U'->ds.length=ts.length
 |[],[],_,_,_=>rfl
 |_::ts,_::ds,_,_,e=>congrArg (· + 1) (OH ts ds _ _ e)
 |[],_::_,_,_,e=>by cases e
 |_::_,[],_,_,e=>by cases e
theorem UE(ts:Ac Af):GT K CL (EF ts) (MG K ts.length (ts.foldr (λt u=>Jm (EG t) u) Jq)):=λFz B U Y H v d U' Q x r e k=>by
 cases d with
 |tup ds=>
  obtain⟨a,xs,rfl,na,sq,rs⟩:=r;rw[RD]at e;cases e2:Fe ts ds U with
  |none=>rw[e2]at e;cases e
  |some U2=>
   rw[e2]at e;cases e;exact⟨a,xs,rfl,sq,by rw[rs.length];exact OH _ _ _ _ e2,UF ts ds xs U _ Y Q x rs e2 k⟩
 |_=>cases e
theorem Va{body:Ac AM}{fbd:Rho->O}{g:TG}(hp:DP (model X.prog X.w) X.A X.env X.xe)(hc:X.calm=Ab)(hGT:GT X.K CL as g)(hg:PG X tg g)(hit:SI X CL W tg iter fi)(hb:SSs X CL W body fbd)(hs:∀ x,BQ iter X.env x=pure x)(hax:∀ d U x,as d U≠.exn x):SS X CL W (.For tg iter body [] pos) (λU=>O.of U (fi U) λxs=>BH (λx U'=>O.of U' (as x U') fbd) xs U):=λFz B pI s Y H D I ⟨U,x,p⟩=>by
 refine P5 hp hc (hit (Bf B U Y)) hg (tb:=λD Y H=>∃ Fy,(λD Y H=>∃ U,Sx X.K CL Fy B U Y H/\Bv X.K CL Fy B W (fbd U) D) D Y H) (λpI s Y H D I ⟨Fy,q⟩=>hb Fy B pI s Y H D I q) hs pI s Y H D I ⟨x.aok,U,x.good,Bv.exI x p λds J H1 _ s1 y _ x1 q=>?_⟩
 let Fy:Fr:=⟨λb o=>H1 b=Aa o/\¬ ∃(j:Af)(d:Ov.D),U[j]?=Aa (Aa (d,Ab))/\Y[j]?=Aa (Aa (.ref b)),Fz.pin⟩
 have hfy:∀ b o,Fz b o->Fy b o:=λb o z=>⟨x1.same b o z,λ⟨j,d,h1,h2⟩=>(x1.new j d b h1 h2).1 o z⟩
 have xy:Sx X.K CL Fy B U Y H1:=⟨x1.good,x1.aok,λj d a h1 h2=>⟨λo z=>z.2 ⟨j,d,h1,h2⟩,(x1.new j d a h1 h2).2⟩,x1.dis,λb o z=>z.1,x1.len,x1.pin⟩
 refine⟨λk m Y' H'=>m=ds.length-k/\k<=ds.length/\∃ U',Sx X.K CL Fy B U' Y' H'/\Bv X.K CL Fz B W (BH (λx U'=>O.of U' (as x U') fbd) (ds.drop k) U') D,⟨ds.length,by simp,Cv _,U,xy,q⟩,?_⟩
 rintro k m Y' H' ⟨rfl,hk,U',x',q'⟩;have kp:Kp (Bf B U Y) H1 H':=λb o e na=>x'.same b o ⟨e,λz=>na (.inr z)⟩
 obtain⟨yst,ygo⟩:=y H' kp k;by_cases hlt:k<ds.length
 .have hd:ds[k]?=Aa ds[k]:=AE hlt;obtain⟨hgo,hyl⟩:=ygo _ hd;refine .inr ⟨hgo,λY'' H''=>∃ U'',Sx X.K CL Fy B U'' Y'' H''/\Bv X.K CL Fz B W (BH (λx U'=>O.of U' (as x U') fbd) (ds.drop (k+1)) U'') D,λY'' H'' z=>⟨ds.length-(k+1),by omega,rfl,hlt,z⟩,λv H2 hv=>?_⟩
  obtain⟨e2,rv⟩:=hyl v H2 hv;rw[BR hlt]at q';have q2:Bv X.K CL Fz B W ((O.of U' (as ds[k] U') fbd).turn (BH (λx U'=>O.of U' (as x U') fbd) (ds.drop (k+1)))) D:=q'
  have rv':Rep X.K CL H2 (Bf B U' Y') v ds[k]:=rv _ (λa ha=>by
    rcases ha with ha|⟨j,d,h1,h2⟩
    .exact .inl (.inl ha)
    .cases e:H1 a with
     |none=>exact .inr rfl
     |some o=>
      by_cases ho:∃(j:Af)(d:Ov.D),U[j]?=Aa (Aa (d,Ab))/\Y[j]?=Aa (Aa (.ref a))
      .exact .inl (.inr ho)
      .exact absurd ⟨e,ho⟩ ((x'.new j d a h1 h2).1 o)) x'.aok
  cases ea:as ds[k] U' with
  |bad=>rw[ea]at q2;exact q2.elim
  |exn z=>exact absurd ea (hax _ _ z)
  |ok U2=>
   rw[ea,O.of_ok]at q2;exact hGT Fy B U' Y' H2 v ds[k] U2 _ (x'.grow e2) rv' ea λY3 x3=>⟨Fy,U2,x3,Bv.turn hfy (λ_ _ _ z=>z) q2 λU3 Y3 H3 x3 q3=>⟨U3,x3,q3⟩⟩
 .have hk':ds.length<=k:=by omega
  rw[EA hk']at q';exact .inl ⟨yst hk',q' Y' H' (x'.mono hfy λ_ _ _ z=>z)⟩
end
section
variable{X:Cx}{CL:ClA}{W:XW}{a b c:Am}{fa fb fc:Rho->R D}{pos:AF}
noncomputable def tyK:Ki->Ao CM
 |.int=>Aa "int"
 |.bool=>Aa "bool"
 |.str=>Aa "str"
 |.list=>Aa "list"
 |.tuple=>Aa "tuple"
 |_=>Ae
noncomputable def P7:D->Al
 |.obj _ _=>Ad
 |.exc _ _=>Ad
 |.dic _=>Ad
 |_=>Ab
theorem qL{k:Ki}{Q:Vq}{E:Vq}(I:Inv X pI Y H s)(r:Cw X.K CL H A v d)(q:Bq v u)(hT:tyK k=Aa T)(hd:P7 d=Ab)(h:∀ s',Inv X pI Y H s'->Q (.bool (kiD up k d)) s'):
  At (model X.prog X.w) X.A (call (.builtin "isinstance") [u,.type T]) Q E s:=by
 have r':=r.plain;have it:=λt=>h _ (I.tok t)
 cases d with
 |obj=>cases hd
 |exc=>cases hd
 |dic=>cases hd
 |non=>
  cases r';cases q;cases k<;>simp only[tyK]at hT<;>cases hT
  .exact IsiPair.NoneType_int (it _)
  .exact IsiPair.NoneType_bool (it _)
  .exact IsiPair.NoneType_str (it _)
  .exact IsiPair.NoneType_list (it _)
  .exact IsiPair.NoneType_tuple (it _)
 |bl b=>
  cases r';cases q;cases k<;>simp only[tyK]at hT<;>cases hT
  .exact IsiPair.bool_int (h _ I)
  .exact IsiPair.bool_bool (h _ I)
  .exact IsiPair.bool_str (it _)
  .exact IsiPair.bool_list (it _)
  .exact IsiPair.bool_tuple (it _)
 |int i=>
  cases r';obtain⟨t,rfl⟩:=q;cases k<;>simp only[tyK]at hT<;>cases hT
  .exact IsiPair.int_int (h _ I)
  .exact IsiPair.int_bool (it _)
  .exact IsiPair.int_str (it _)
  .exact IsiPair.int_list (it _)
  .exact IsiPair.int_tuple (it _)
 |str x=>
  cases r';obtain⟨t,rfl⟩:=q;cases k<;>simp only[tyK]at hT<;>cases hT
  .exact IsiPair.str_int (it _)
  .exact IsiPair.str_bool (it _)
  .exact IsiPair.str_str (h _ I)
  .exact IsiPair.str_list (it _)
  .exact IsiPair.str_tuple (it _)
 |tup ds=>
  obtain⟨p,xs,rfl,_,sq,rr⟩:=r';obtain⟨its,rv,pt,_⟩:=I.tuple sq;cases q;have pt':s.heap.IsTuple p its.toArray:=pt;cases k<;>simp only[tyK]at hT<;>cases hT
  .exact IsiPair.isTuple_int pt' (λ_ _ e=>e) (it _)
  .exact IsiPair.isTuple_bool pt' (λ_ _ e=>e) (it _)
  .exact IsiPair.isTuple_str pt' (λ_ _ e=>e) (it _)
  .exact IsiPair.isTuple_list pt' (λ_ _ e=>e) (it _)
  .exact IsiPair.isTuple_tuple pt' (λ_ _ e=>e) (h _ I)
 |lst ds=>
  obtain⟨p,xs,rfl,_,sq,rr⟩:=r';obtain⟨its,rv,pl,_⟩:=I.list sq;cases q;have pt':s.heap.IsList p its.toArray:=Lp pl;cases k<;>simp only[tyK]at hT<;>cases hT
  .exact IsiPair.isList_int pt' (λ_ _ e=>e) (it _)
  .exact IsiPair.isList_bool pt' (λ_ _ e=>e) (it _)
  .exact IsiPair.isList_str pt' (λ_ _ e=>e) (it _)
  .exact IsiPair.isList_list pt' (λ_ _ e=>e) (h _ I)
  .exact IsiPair.isList_tuple pt' (λ_ _ e=>e) (it _)
theorem cM{k:Ki}(hT:tyK k=Aa T)(p:AV Rp W H (EI up [k] d) Q):P7 d=Ab/\AV Rp W H (.ok (.bl (kiD up k d))) Q:=by
 cases k<;>simp only[tyK]at hT<;>cases hT<;>cases d<;>first|exact p.elim|exact⟨rfl,by simpa using p⟩
theorem pY{k:Ki}(hT:tyK k=Aa T)(hg:Gl X "isinstance")(hm:X.mg "isinstance" = Ae)(hg2:Gl X x)(hm2:X.mg x=Ae)(hv:CJ x=Aa (.type T))(hn:x≠"__name__")(hdb:(x==("__debug__" : Ag))=Ad)(ha:ST X CL W a fa)(he:Aq [a,.Name x p2] X.env=(Ad,eval a X.env)::Aq [.Name x p2] X.env):SE X CL W (.Call (.Name "isinstance" p) [a,.Name x p2] [] pos) (λU=>(fa U).bind λx=>EI up [k] x):=λA=>
 PE.weak (Kq (r:=λxs H Q=>∃ y d,xs=[y,.ty T]/\Cw X.K CL H A y d/\P7 d=Ab/\Q (.bl (kiD up k d)) H) (λpI s Y H xs us Q I r ⟨y,d,e,ry,hd,q⟩=>by
   subst e;obtain⟨u,w',rfl,r1,r2⟩:=Lr r;cases r2;exact qL I ry r1 hT hd λs' I'=>⟨.bl _,H,I',rfl,q⟩)
  hg hm Fn (DJ (ha A) (DJ (Uk (v:=.ty T) hg2 hm2 hv rfl hn hdb) ET rfl) he) (by decide) (by decide) he rfl) λY H Q ⟨hA,U,g,q⟩=>⟨hA,U,g,AV.bind q λd v H1 _ s1 r1 p1=>by
   obtain⟨hd,p2⟩:=cM hT p1;exact⟨v,d,rfl,r1,hd,p2 _ H1 (Ay.refl H1) rfl⟩⟩
theorem iE{b:Al}{A':AW}{E:Vq}{Q:Al->Ap->Prop}(r:Rep X.K CL H A v d)(q:Bq v u)(h:Gk d=.ok b)(hq:Q b s):At (model prog w) A' (truthy u) Q E s:=by
 cases d with
 |non=>
  cases r;cases q;cases h;exact truthy_none hq
 |bl k=>
  cases r;cases q;cases h;exact CZ hq
 |int i=>
  cases r;obtain⟨t,rfl⟩:=q;cases h;exact truthy_int hq
 |_=>cases h
theorem RK:∀{ds:Ac D}{b:Al},Gg ds=.ok b->(∀ j,j<ds.length->∃ c,Gk (ds.getD j .non)=.ok c)/\b=(Ba ds.length).all λj=>match Gk (ds.getD j .non) with
  |.ok c=>c
  |_=>Ad
 |[],b,h=>by cases h;exact⟨λj hj=>absurd hj (Nat.not_lt_zero _),rfl⟩
 |d::ds,b,h=>by
  rw[RE]at h;cases e:Gk d with
  |bad=>rw[e]at h;cases h
  |exn x=>rw[e]at h;cases h
  |ok c=>
   rw[e,R.bind_ok]at h;cases e2:Gg ds with
   |bad=>rw[e2]at h;cases h
   |exn x=>rw[e2]at h;cases h
   |ok c2=>
    rw[e2,R.bind_ok]at h;cases h;obtain⟨h1,h2⟩:=RK e2;refine⟨λj hj=>?_,?_⟩
    .cases j with
     |zero=>exact⟨c,e⟩
     |succ j=>exact h1 j (by simpa using hj)
    .rw[AI,Rg,h2];show (c&&_)=((match Gk d with | .ok c=>c|_=>Ad)&&_)
     rw[e];rfl
theorem lF{ds:Ac D}(r:Reps X.K CL H A0 xs ds)(rv:AZ xs its){v:Aj}(h:its.toArray[j]?=Aa v):j<ds.length/\∃ x,Rep X.K CL H A0 x (ds.getD j .non)/\Bq x v:=by
 have h':its[j]?=Aa v:=by simpa using h
 obtain⟨hj,e⟩:=A2.mp h';obtain⟨x,rx,q⟩:=Jj r rv hj;have l1:=rv.length;have l2:=r.length
 exact⟨by omega,x,rx,by rw[<-e];exact q⟩
theorem vK{o:Da}(k:∀ b q,b∉[h.objs.size]->(h.push o).get? b=Aa q->h'.get? b=Aa q):∀ b q,h.get? b=Aa q->h'.get? b=Aa q:=λb q e=>k b q (by
 intro z;have:=Bk.mp z;rw[this]at e;exact absurd (AL e) (Bp _)) (Ar _ e)
theorem sK(hc:X.calm=Ab):KH X CL W (.builtin "all") (biD .all):=by
  intro A pI s Y H xs us Q I r ⟨hA,ds,rs,p⟩
  match ds,rs,p with
  |[.lst es],rs,p=>
    obtain⟨v,rfl,rv⟩:=rs.one;obtain⟨q,ys,e,_,sq,ry⟩:=rv.plain;subst e;obtain⟨u,rfl,ru⟩:=HS r;cases ru;rw[wE]at p;cases e1:Gg es with
    |bad=>rw[e1]at p;exact p.elim
    |exn x=>
      exfalso
      have:∀(es:Ac D) x,Gg es≠.exn x:=by
        intro es
        induction es with
        |nil=>intro x h;cases h
        |cons d ds ih=>
          intro x h;rw[RE]at h;cases e:Gk d with
          |bad=>rw[e]at h;cases h
          |exn y=>cases d<;>cases e
          |ok c=>
            rw[e,R.bind_ok]at h;cases e2:Gg ds with
            |bad=>rw[e2]at h;cases h
            |exn y=>exact ih y e2
            |ok c2=>rw[e2]at h;cases h
      exact this es x e1
    |ok b=>
      rw[e1,R.bind_ok]at p;obtain⟨h1,h2⟩:=RK e1;obtain⟨its,rvv,pl,_⟩:=I.list sq;have hlt:q<s.heap.objs.size:=by obtain⟨o,n,e,_⟩:=pl;exact AL e
      have hl:its.toArray.size=es.length:=by rw[AG,<-rvv.length,ry.length]
      refine call_all_walk (Hs (Lp pl) ⟨s.heap.objs.size,_,_,_,_,_,(λj=>match Gk (es.getD j .non) with | .ok c=>c|_=>Ad),rfl,Walks.list (A:=X.A.in1) (I.ok.hd hc) s.heap.objs.size q (A5 hlt) its.toArray,⟨⟨_,AN _ rfl,rfl,rfl⟩,(Lp pl).push _⟩,λj v s' Q' E' hv hQ=>?_,λh' tk k=>?_⟩)
      · obtain⟨hj,x,rx,qx⟩:=lF ry rvv hv;obtain⟨c,ec⟩:=h1 j hj;exact iE rx qx ec (by dsimp only at hQ;rw[ec]at hQ;exact hQ)
      · rw[hl,<-h2];exact⟨.bl b,H,I.kept (vK k),rfl,p _ H (Ay.refl H) rfl⟩
  |[],_,p=>exact p.elim
  |[.non],_,p=>exact p.elim
  |[.bl _],_,p=>exact p.elim
  |[.int _],_,p=>exact p.elim
  |[.str _],_,p=>exact p.elim
  |[.tup _],_,p=>exact p.elim
  |[.obj _ _],_,p=>exact p.elim
  |[.exc _ _],_,p=>exact p.elim
  |[.dic _],_,p=>exact p.elim
  |x::_::_,_,p=>cases x<;>exact p.elim
end
section
variable(K:Fg)(CL:ClA)
def wF(H0:Hp)(A:Ak->Prop)(H:Hp)(v:V)(d:D):Prop:=∀ ds,d=.lst ds->∃ a xs,v=.ref a/\H0 a=Ae/\H a=Aa (.lst xs)/\Reps K CL H (λb=>A b\/b=a) xs ds
def DK(fr:Al)(H0:Hp)(A:Ak->Prop)(H:Hp)(v:V)(d:D):Prop:=Rep K CL H A v d/\(fr=Ab->wF K CL H0 A H v d)
end
section
variable{X:Cx}{CL:ClA}{W:XW}{a b c:Am}{fa fb fc:Rho->R D}{pos:AF}
def SC(X:Cx)(CL:ClA)(W:XW)(fr:Al)(e:Am)(f:Rho->R D):Prop:=∀ A,PE X e (λY H Q=>AOk H A/\∃ U,Good X.K CL A U Y H/\AV (DK X.K CL fr H A) W H (f U) Q)
theorem SC.se{fr:Al}(h:SC X CL W fr a fa):SE X CL W a fa:=λA=>PE.weak (h A) λY H Q ⟨hA,U,g,p⟩=>⟨hA,U,g,by
 cases e:fa U with
 |ok d=>rw[e]at p;exact λv H' s r=>p v H' s r.1
 |exn x=>rw[e]at p;exact p
 | bad=>rw[e]at p;exact p⟩
theorem SE.sc(h:SE X CL W a fa):SC X CL W Ad a fa:=λA=>PE.weak (h A) λY H Q ⟨hA,U,g,p⟩=>⟨hA,U,g,by
 cases e:fa U with
 |ok d=>rw[e]at p;exact λv H' s r=>p v H' s ⟨r,λz=>nomatch z⟩
 |exn x=>rw[e]at p;exact p
 | bad=>rw[e]at p;exact p⟩
theorem SC.congr{fr:Al}{f g:Rho->R D}(h:SC X CL W fr a f)(e:∀ U,g U=f U):SC X CL W fr a g:=λA=>PE.weak (h A) λY H Q ⟨hA,U,q,p⟩=>⟨hA,U,q,by rw[<-e];exact p⟩
theorem Jd{p:Ak}{ds:Ac D}(s:Ay H0 H)(hA:AOk H A)(hp:H p=Ae)(r:Reps K CL H A xs ds):DK K CL Ab H0 A (upd H p (.lst xs)) (.ref p) (.lst ds):=
 ⟨PK hA hp r,λ_ ds' e=>by
  cases e;exact⟨p,xs,rfl,s.free hp,Db,(Reps.wide (λa ha=>ha.imp id λe=>by rw[e];exact hp) _ r).same (En hp _)⟩⟩
theorem PC{fr:Al}(r:Rep K CL H A v d)(h:∀ ds,d≠.lst ds):DK K CL fr H0 A H v d:=⟨r,λ_ ds e=>absurd e (h ds)⟩
theorem PQ(hs:SA X CL W es fs)(hz:∀ U ds,fs U=.ok ds->ds.length<=100000):SC X CL W Ab (.List es pos) (λU=>(fs U).bind λxs=>.ok (.lst xs)):=
 λA=>PE.weak (UU (hs A)) λY H Q ⟨hA,U,g,p⟩=>⟨hA,U,g,G4.bind p λds vs H1 e s1 r1 p1=>⟨by
  rw[r1.length,Bs];have:=hz U ds e;omega,λq hq=>p1 _ _ (En hq _) (Jd s1 (hA.same s1) hq r1)⟩⟩
theorem AV.bindF{fr:Al}{f:D->R D}{Q':VK}(h:AV (DK K CL fr H A) W H (r.bind f) Q)(k:∀ d v H',r=.ok d->Ay H H'->Rp H' v d->AV (DK K CL fr H A) W H' (f d) Q->Q' v H'):AV Rp W H r Q':=by
 cases r with
 |ok d=>exact λv H2 s2 q=>k d v H2 rfl s2 q (AV.same s2 h)
 |exn x=>exact h
 |bad=>exact h
theorem G4.bindF{Rp:Hp->Ac V->Ac D->Prop}{r:R (Ac D)}{f:Ac D->R D}{Q':Ac V->Hp->Prop}(h:AV Rq W H (r.bind f) Q)(k:∀ d v H',r=.ok d->Ay H H'->Rp H' v d->AV Rq W H' (f d) Q->Q' v H'):G4 Rp W H r Q':=by
 cases r with
 |ok d=>exact λv H2 s2 q=>k d v H2 rfl s2 q (AV.same s2 h)
 |exn x=>exact h
 |bad=>exact h
theorem KB.bindF{r:R (Ao Ah)}{f:Ao Ah->R D}(h:AV Rq W H (r.bind f) Q)(k:∀ o H',r=.ok o->Ay H H'->AV Rq W H' (f o) Q->Q' o H'):KB W H r Q':=by
 cases r with
 |ok d=>exact λH2 s2=>k d H2 rfl s2 (AV.same s2 h)
 |exn x=>exact h
 |bad=>exact h
def Wn:V->Ao Ah->Ao Ah->Hp->VK->Prop:=λx l h H Q=>∃ z,x=.str z/\(FH z l h).length<=sizeLine/\Q (.str (FH z l h)) H
theorem Ul{v:Aj}{o:Ao Ah}(h:Hc v o):∃ p:Ao (Ah×CG),v=partValue p/\p.map (·.1)=o:=by
 cases h with
 |none=>exact⟨Ae,rfl,rfl⟩
 |int i t=>exact⟨Aa (i,t),rfl,rfl⟩
theorem pP:SlR X Wn:=by
 intro pI s Y H x v vl vu lo hi sl Q I rx hs pl pu h;obtain⟨z,rfl,hz,q⟩:=h;obtain⟨t,rfl⟩:=rx;obtain⟨l,rfl,el⟩:=Ul pl;obtain⟨u,rfl,eu⟩:=Ul pu;refine⟨"str",_,PySem.F.slot_str_getitem.lookup,FM _ _ _,?_⟩;refine wpAny_getItem_str_slice (l:=l) (u:=u) (st:=Ae) hs rfl ?_;subst el eu;unfold sliceMade slicePicked;unfold FH at hz q;by_cases c:((DO (l.map (·.1)) (u.map (·.1)) 1 z.length).length==z.length)=Ab
 .rw[As c]at q;rw[As (by rw[Ai];exact⟨rfl,c⟩)]
  exact⟨.str z,H,I,⟨t,rfl⟩,q⟩
 .rw[AB c]at q hz;rw[AB (by rw[Ai];exact λh=>c h.2)]
  exact⟨hz,.str _,H,I.tok _,⟨_,rfl⟩,q⟩
theorem sQ{lo hi:Ao Am}{fl fh:Rho->R (Ao Ah)}(ha:ST X CL W a fa)(hl:SO X CL W lo fl)(hh:SO X CL W hi fh):SC X CL W Ab (.Subscript a (.Slice lo hi Ae p2) pos) (λU=>(fa U).bind λx=>(fl U).bind λl=>(fh U).bind λh=>slD x l h):=
 λA=>PE.weak (fS (r:=λx l h H Q=>Wo X.K x l h H Q\/(Wm X.K x l h H Q\/Wn x l h H Q)) (SlR.or kE (SlR.or pO pP)) (ha A) (hl A) (hh A)) λY H Q ⟨hA,U,g,p⟩=>⟨hA,U,g,AV.bindF p λdx x H1 _ s1 r1 p1=>⟨hA.same s1,U,g.same s1,KB.bindF p1 λl H2 _ s2 p2=>⟨(hA.same s1).same s2,U,(g.same s1).same s2,KB.bindF p2 λh H3 _ s3 p3=>by
  cases dx with
  |lst ds=>
   obtain⟨q,xs,rfl,sq,r⟩:=((r1.same s2).same s3).lst_of;exact .inl ⟨q,xs,rfl,sq,λt ht=>p3 _ _ (En ht _) (Jd ((s1.trans s2).trans s3) (((hA.same s1).same s2).same s3) ht (Uq l h r))⟩
  |tup ds=>
   obtain⟨q,xs,rfl,_,sq,r⟩:=((r1.same s2).same s3).tup_of;rw[ZO]at p3;split at p3
   .exact p3.elim
   .rename_i hw;refine .inr (.inl ⟨q,xs,rfl,sq,?_,λt ht=>p3 _ _ (En ht _) (PC (Lh (((hA.same s1).same s2).same s3) ht (Uq l h r)) (by intro _ z;cases z))⟩)
    rintro⟨h1,h2⟩;refine hw ?_;have e:∀ d o,HT.sIx xs.length d o=Jn ds.length d o:=λd o=>by rw[r.length];cases o<;>rfl
    rw[e]at h1 h2;rw[r.length]at h2;simp[h1,h2]
  |str z=>
   have e:=((r1.same s2).same s3).str_of;subst e;have p4:AV (DK X.K CL Ab H A) W H3 (if (BG z.length&&BG (FH z l h).length)=Ab then .ok (.str (FH z l h)) else .bad) Q:=p3
   split at p4
   .rename_i hk;rw[Ai]at hk;exact .inr (.inr ⟨z,rfl,Ru hk.2,p4 _ H3 (Ay.refl H3) (PC rfl (by intro _ z;cases z))⟩)
   .exact p4.elim
  | _=>exact p3.elim⟩⟩⟩
noncomputable def OpN(X:Cx)(CL:ClA)(W:XW)(f:Aj->Aj->FW Aj)(g:D->D->R D):Prop:=
 ∀ A H0,OpR X f (λx y H Q=>Ay H0 H/\AOk H A/\∃ dx dy,Cw X.K CL H A x dx/\Cw X.K CL H A y dy/\AV (DK X.K CL Ab H0 A) W H (g dx dy) Q)
theorem jU:OpN X CL W (B8 .Add) (CN .Add):=by
 intro A H0 pI s Y H x y v u Q I rx ry ⟨s0,hA,dx,dy,hx,hy,p⟩;have key:(∀ ds,dx≠.lst ds)->EP X pI Y Q=EP X pI Y Q->At (model X.prog X.w) X.A (B8 .Add v u) (EP X pI Y Q) X.xe s:=λhd _=>by
  refine Um (W:=W) A pI s Y H x y v u Q I rx ry ⟨hA,dx,dy,hx,hy,?_⟩;cases e:CN .Add dx dy with
  |bad=>rw[e]at p;exact p
  |exn x=>rw[e]at p;exact p
  |ok d=>
   rw[e]at p;refine λv' H' s' r'=>p v' H' s' (PC r' λds z=>?_)
   subst z;cases dx with
   |lst ds=>exact hd _ rfl
   |tup xs=>
    cases dy with
    |tup ys=>rw[Vs]at e;split at e<;>cases e
    |_=>cases e
   |str xs=>
    cases dy with
    |str ys=>rw[HQ]at e;split at e<;>cases e
    |_=>cases e
   |int i=>cases dy<;>cases e
   |_=>cases e
 cases dx with
 |lst ds=>
  cases dy with
  |lst es=>
   obtain⟨a,xs,rfl,s1,r1⟩:=hx.lst_of;obtain⟨b,ys,rfl,s2,r2⟩:=hy.lst_of;simp only[Hg]at p;split at p
   .rename_i h;refine T4 pI s Y H _ _ v u Q I rx ry ⟨a,b,xs,ys,rfl,rfl,s1,s2,by rw[r1.length,r2.length];exact IZ h,λq hq=>?_⟩
    exact p _ _ (En hq _) (Jd s0 hA hq (r1.append r2))
   .exact p.elim
  |_=>exact p.elim
 |_=>exact key (by intro _ z;cases z) rfl
theorem pN(ha:ST X CL W a fa)(hb:ST X CL W b fb):SC X CL W Ab (.BinOp a .Add b pos) (λU=>(fa U).bind λx=>(fb U).bind λy=>CN .Add x y):=
 λA pI s Y H Q I h=>by
  obtain⟨hA,U,g,p⟩:=h;exact VE (jU (W:=W) A H) (ha A) (hb A) pI s Y H Q I ⟨hA,U,g,AV.bindF p λdx x H1 _ s1 r1 p1=>⟨hA.same s1,U,g.same s1,AV.bind (Rq:=DK X.K CL Ab H A) p1 λdy y H2 _ s2 r2 p2=>⟨s1.trans s2,(hA.same s1).same s2,dx,dy,r1.same s2,r2,p2⟩⟩⟩
def NZ(X:Cx)(CL:ClA)(W:XW)(f:Aj)(g:Ac D->R D):Prop:=∀ A H0,IC X f (λxs H Q=>Ay H0 H/\AOk H A/\∃ ds,G3 X.K CL H A xs ds/\AV (DK X.K CL Ab H0 A) W H (g ds) Q)
theorem lU:NZ X CL W (.type "list") (biD .list):=by
  intro A H0 pI s Y H xs us Q I r ⟨s0,hA,ds,rs,p⟩
  match ds,rs,p with
  |[.lst es],rs,p=>
    obtain⟨v,rfl,rv⟩:=rs.one;obtain⟨q,ys,rfl,sq,ry⟩:=rv.lst_of;exact Ro pI s Y H _ us Q I r ⟨q,ys,rfl,.inl sq,λl hl=>p _ _ (En hl _) (Jd s0 hA hl ry)⟩
  |[.tup es],rs,p=>
    obtain⟨v,rfl,rv⟩:=rs.one;obtain⟨q,ys,rfl,_,sq,ry⟩:=rv.tup_of;exact Ro pI s Y H _ us Q I r ⟨q,ys,rfl,.inr sq,λl hl=>p _ _ (En hl _) (Jd s0 hA hl ry)⟩
  |[],_,p=>exact p.elim
  |[.non],_,p=>exact p.elim
  |[.bl _],_,p=>exact p.elim
  |[.int _],_,p=>exact p.elim
  |[.str _],_,p=>exact p.elim
  |[.obj _ _],_,p=>exact p.elim
  |[.exc _ _],_,p=>exact p.elim
  |[.dic _],_,p=>exact p.elim
  |x::_::_,_,p=>cases x<;>exact p.elim
theorem pL{g:Ac D->R D}(hc:NZ X CL W (.type T) g)(hg:Gl X x)(hm:X.mg x=Ae)(hv:CJ x=Aa (.type T))(ha:SAT X CL W (e::es) fs)(hn:x≠"__name__")(hdb:(x==("__debug__" : Ag))=Ad)(he:Aq (e::es) X.env=(Ad,eval e X.env)::Aq es X.env)(hpl:∀ pos,(Bo pos (Aq es X.env)).any (·.1)=Ad):SC X CL W Ab (.Call (.Name x p) (e::es) [] pos) (λU=>(fs U).bind g):=λA pI s Y H Q I ⟨hA,U,gd,q⟩=>
 R9 (hc A H) hg hm hv (ha A) hn hdb he (hpl _) pI s Y H Q I ⟨hA,U,gd,G4.bindF q λds vs H1 _ s1 r1 p1=>⟨s1,hA.same s1,ds,r1,p1⟩⟩
theorem pM{g:Ac D->R D}(hc:NZ X CL W (.builtin id) g)(hg:Gl X x)(hm:X.mg x=Ae)(hv:CJ x=Aa (.builtin id))(ha:SAT X CL W (e::es) fs)(hn:x≠"__name__")(hdb:(x==("__debug__" : Ag))=Ad)(he:Aq (e::es) X.env=(Ad,eval e X.env)::Aq es X.env)(hpl:∀ pos,(Bo pos (Aq es X.env)).any (·.1)=Ad):SC X CL W Ab (.Call (.Name x p) (e::es) [] pos) (λU=>(fs U).bind g):=λA pI s Y H Q I ⟨hA,U,gd,q⟩=>
 Kq (hc A H) hg hm hv (ha A) hn hdb he (hpl _) pI s Y H Q I ⟨hA,U,gd,G4.bindF q λds vs H1 _ s1 r1 p1=>⟨s1,hA.same s1,ds,r1,p1⟩⟩
mutual
theorem ND{K:Fg}{H:Hp}{A:Ak->Prop}(hA:AOk H A):∀(n:Af)(d:D){v:V},nlD n d=Ab->Rep K CL H A0 v d->Rep K CL H A v d
 |_,.non,_,_,h=>h
 |_,.bl _,_,_,h=>h
 |_,.int _,_,_,h=>h
 |_,.str _,_,_,h=>h
 |0,.tup _,_,hn,_=>by cases hn
 |n+1,.tup ds,_,hn,h=>by
  obtain⟨a,xs,e,_,s,r⟩:=h;refine⟨a,xs,e,?_,s,nls_up hA n ds hn r⟩;rcases s with s|s
  .refine .inl λz=>?_
   obtain⟨ys,q⟩:=hA a z;rcases s with s|⟨o,s⟩<;>rw[q]at s<;>cases s
  .exact .inr s
 |n,.lst _,_,hn,_=>by cases n<;>cases hn
 |n,.obj _ _,_,hn,_=>by cases n<;>cases hn
 |n,.exc _ _,_,hn,_=>by cases n<;>cases hn
 |n,.dic _,_,hn,_=>by cases n<;>cases hn
theorem nls_up{K:Fg}{H:Hp}{A:Ak->Prop}(hA:AOk H A):∀(n:Af)(ds:Ac D){vs:Ac V},ds.all (nlD n)=Ab->Reps K CL H A0 vs ds->Reps K CL H A vs ds
 |_,[],[],_,h=>h
 |n,d::ds,_::_,hn,h=>by
  simp only[B0,Ai]at hn;exact⟨ND hA n d hn.1 h.1,nls_up hA n ds hn.2 h.2⟩
 |_,[],_::_,_,h=>h.elim
 |_,_::_,[],_,h=>h.elim
end
theorem Vn{fr:Al}(hA0:AOk H0 A)(s:Ay H0 H)(hc:Fl fr d=Ab)(r:DK K CL fr H0 A0 H v d):DK K CL fr H0 A H v d:=by
 have hA:=hA0.same s;cases d with
 |lst ds=>
  have hc':(fr&&ds.all (nlD 5))=Ab:=hc;rw[Ai]at hc';obtain⟨a,xs,e,h0,h1,rs⟩:=r.2 hc'.1 ds rfl;have hA2:AOk H (λb=>A b\/b=a):=λb hb=>hb.elim (hA b) λe=>by rw[e];exact⟨xs,h1⟩
  have rs':=nls_up hA2 5 ds hc'.2 (Reps.sub (λ_ z=>z.elim) _ rs)
  refine⟨⟨a,xs,e,.inl (hA0.new h0),SqL.of h1,Reps.sub (λ_ z=>.inl z) _ rs'⟩,λ_ ds' e'=>?_⟩
  cases e';exact⟨a,xs,e,h0,h1,rs'⟩
 |_=>exact⟨ND hA 5 _ hc r.1,λ_ _ z=>nomatch z⟩
def spD(K:Fg)(CL:ClA)(n:Af)(fr:Al)(F:Ac D->R D):Sp:=λvs H Q E=>∃(ds:Ac D)(A:Ak->Prop),vs.length=n/\AOk H A/\Reps K CL H A vs ds/\(match F ds with
  |.ok d=>∀ v H',Ay H H'->DK K CL fr H A H' v d->Q v H'
  |.exn x=>∀ cls dx H',Ay H H'->EH K CL H' cls dx x->E cls dx H'
  | .bad=>AX)
def EKW(K:Fg)(CL:ClA)(A:Ak->Prop)(W:XW):XK:=λcls dx H'=>∃ x,EH K CL H' cls dx x/\W x H'
theorem G3.plain{K:Fg}{H:Hp}{A:Ak->Prop}:∀{vs:Ac V}{ds:Ac D},G3 K CL H A vs ds->Reps K CL H A0 vs ds
 |[],[],h=>trivial
 |_::_,_::_,h=>⟨h.1.plain,G3.plain h.2⟩
 |[],_::_,h=>h.elim
 |_::_,[],h=>h.elim
theorem kP{CX:CXT}{fr:Al}{f:Ak}{fd:Bx}{ps:Ac Ag}{F:Ac D->R D}{ft:Rho->R (Ac D)}{sh:Rho->Al}(G:FnOk X.prog X.w X.K X.mg X.base CX k f fd ps (spD X.K CL n fr F))(hr:Room k X.A)(hg:Gl X x)(hm:X.mg x=Aa (.ref f))(hk:Bm X.K (.ref f)=Ab)(hb:DS X.K fd ps [])(hx:∀ A,IA CX X (EKW X.K CL A W))(ha:SA X CL W (e::es) fs)(hat:SAT X CL W (e::es) ft)(hst:∀ U,sh U=Ab->ft U=fs U)(hn:∀ U ds,ft U=.ok ds->ds.length=n)(hdb:(x==("__debug__" : Ag))=Ad)(he:Aq (e::es) X.env=(Ad,eval e X.env)::Aq es X.env)(hpl:∀ pos,(Bo pos (Aq es X.env)).any (·.1)=Ad):SC X CL W fr (.Call (.Name x p) (e::es) [] pos) (λU=>(ft U).bind λds=>(F ds).bind λd=>if sh U=Ab then .ok d else if Fl fr d=Ab then .ok d else .bad):=λA pI s Y H Q I ⟨hA,U,gd,q⟩=>by
 dsimp only at q;by_cases hs:sh U=Ab
 .rw[hst U hs]at q;refine Uj G hr hg hm hk hb .nil (hx A) (ha A) hdb he (hpl _) pI s Y H Q I ⟨hA,U,gd,?_⟩;cases e1:fs U with
  |bad=>rw[e1]at q;exact q
  |exn y=>rw[e1]at q;exact q
  |ok ds=>
   rw[e1]at q;intro vs H1 s1 r1;refine⟨ds,A,by rw[Bg,r1.length];exact hn U ds (by rw[hst U hs];exact e1),hA.same s1,by rw[Bg];exact r1,?_⟩
   have q':AV (DK X.K CL fr H A) W H ((F ds).bind λd=>if sh U=Ab then .ok d else if Fl fr d=Ab then .ok d else .bad) Q:=q
   cases e2:F ds with
   |ok d=>
    rw[e2,R.bind_ok,As hs]at q';exact λv H2 s2 r2=>q' v H2 (s1.trans s2) ⟨r2.1,λz ds' e'=>let ⟨a,xs,z1,z2,z3⟩:=r2.2 z ds' e';⟨a,xs,z1,s1.free z2,z3⟩⟩
   |exn y=>rw[e2]at q';exact λcls dx H2 s2 xr=>⟨y,xr,q' H2 (s1.trans s2)⟩
   |bad=>rw[e2]at q';exact q'.elim
 .refine Uj G hr hg hm hk hb .nil (hx A0) (hat A) hdb he (hpl _) pI s Y H Q I ⟨hA,U,gd,?_⟩;cases e1:ft U with
  |bad=>rw[e1]at q;exact q
  |exn y=>rw[e1]at q;exact q
  |ok ds=>
   rw[e1]at q;intro vs H1 s1 r1;refine⟨ds,A0,by rw[Bg,r1.plain.length];exact hn U ds e1,λ_ z=>z.elim,by rw[Bg];exact r1.plain,?_⟩
   have q':AV (DK X.K CL fr H A) W H ((F ds).bind λd=>if sh U=Ab then .ok d else if Fl fr d=Ab then .ok d else .bad) Q:=q
   cases e2:F ds with
   |ok d=>
    rw[e2,R.bind_ok,AB hs]at q';split at q'
    .rename_i hc;exact λv H2 s2 r2=>q' v H2 (s1.trans s2) (Vn hA (s1.trans s2) hc ⟨r2.1,λz ds' e'=>let ⟨a,xs,z1,z2,z3⟩:=r2.2 z ds' e';⟨a,xs,z1,s1.free z2,z3⟩⟩)
    .exact q'.elim
   |exn y=>rw[e2]at q';exact λcls dx H2 s2 xr=>⟨y,xr,q' H2 (s1.trans s2)⟩
   |bad=>rw[e2]at q';exact q'.elim
end
theorem ON(env:Cj):∀(ns:Ac (Ag×Eg))(acc:Ac (Ag×Ak)),(∀ x∈ns,x.2=.free->∃ c,env.cells.lookup x.1=Aa c)->(∀ x c,acc.lookup x=Aa c->env.cells.lookup x=Aa c) ->
  ∃ cl,(forIn ns acc fun(x:Ag×Eg)(cs:Ac (Ag×Ak))=>(if (x.2==.free)=Ab then do let c <-cellOf env x.1;pure (Et ((x.1,c)::cs)) else pure (Et cs):FW (ForInStep (Ac (Ag×Ak)))))=pure cl /\
   (∀ x c,cl.lookup x=Aa c->env.cells.lookup x=Aa c)/\(∀ x,((x,DY)∈ns\/∃ c,acc.lookup x=Aa c)->∃ c,cl.lookup x=Aa c)
 |[],acc,_,h2=>⟨acc,by rw[GV],h2,λx hx=>hx.elim (λz=>nomatch z) id⟩
 |(n,k)::r,acc,h1,h2=>by
  rw[Ib];by_cases hk:k=.free
  .subst hk;obtain⟨c,hc⟩:=h1 (n,.free) AJ rfl;obtain⟨cl,e,p,q⟩:=ON env r ((n,c)::acc) (λx hx=>h1 x (Aw _ hx)) (λx d hd=>by
    rw[Ci]at hd;split at hd
    .rename_i hx;cases hd;rw[eq_of_beq hx];exact hc
    .exact h2 x d hd)
   refine⟨cl,?_,p,λx hx=>q x ?_⟩
   .have e1:cellOf env n=pure c:=by unfold cellOf;dsimp only at hc;rw[hc]
    rw[As (by rfl),e1]
    exact e
   .rcases hx with hx|⟨d,hd⟩
    .rcases AA.mp hx with z|z
     .cases z;exact .inr ⟨c,by simp[Ci]⟩
     .exact .inl z
    .by_cases hxn:x=n
     .exact .inr ⟨c,by subst hxn;simp[Ci]⟩
     .exact .inr ⟨d,by rw[Ci];rw[C5.mpr hxn];exact hd⟩
  .obtain⟨cl,e,p,q⟩:=ON env r acc (λx hx=>h1 x (Aw _ hx)) h2
   refine⟨cl,?_,p,λx hx=>q x ?_⟩
   .rw[AB (by simpa using hk)]
    exact e
   .rcases hx with hx|hx
    .rcases AA.mp hx with z|z
     .cases z;exact absurd rfl hk
     .exact .inl z
    .exact .inr hx
theorem OM(h:∀ x∈scope.names,x.2=.free->∃ c,env.cells.lookup x.1=Aa c):∃ cl,closureFor scope env=pure cl/\(∀ x c,cl.lookup x=Aa c->env.cells.lookup x=Aa c)/\∀ x,(x,DY)∈scope.names->∃ c,cl.lookup x=Aa c:=by
 obtain⟨cl,e,p,q⟩:=ON env scope.names [] h (λx c z=>by simp at z)
 refine⟨cl,?_,p,λx hx=>q x (.inl hx)⟩
 unfold closureFor
 first
  |exact e
  |(simp only[bind_pure];exact e)
  |(rw[show (forIn scope.names ([]:Ac (Ag×Ak)) _:FW _)=pure cl from e];rfl)
theorem O1:∀(names:Ac (Ag×Eg))(h:AC)(acc:Ac (Ag×Ak))(x:Ag)(c:Ak),(C3 h.objs.size names acc).lookup x=Aa c->acc.lookup x=Aa c\/((x,BN)∈names/\h.objs.size<=c/\(Hd h names).IsCell c Ae)
 |[],_,_,_,_,e=>.inl e
 |(n,k)::r,h,acc,x,c,e=>by
  unfold C3 at e;unfold Hd;by_cases hk:(k==BN)=Ab
  .rw[As hk]at e ⊢;have hs:h.objs.size+1=(h.push { cls:=.type "cell",data:=.cell Ae }).objs.size:=(Ct ..).symm;rw[hs]at e;rcases O1 r _ _ x c e with q|⟨q1,q2,q3⟩
   .rw[Ci]at q;cases hx:x==n with
    |true=>
     rw[hx]at q;cases q;refine .inr ⟨?_,AK _,?_⟩
     .rw[eq_of_beq hx,eq_of_beq hk];exact AJ
     .exact⟨_,Ii r _ _ _ (AN _ rfl),rfl⟩
    |false=>rw[hx]at q;exact .inl q
   .exact .inr ⟨Aw _ q1,by omega,q3⟩
  .rw[AB hk]at e ⊢;rcases O1 r h acc x c e with q|⟨q1,q2,q3⟩
   .exact .inl q
   .exact .inr ⟨Aw _ q1,q2,q3⟩
theorem O2:∀(names:Ac (Ag×Eg))(h:AC)(acc:Ac (Ag×Ak)),(∀ x y c,acc.lookup x=Aa c->acc.lookup y=Aa c->x=y)->(∀ x c,acc.lookup x=Aa c->c<h.objs.size)->∀ x y c,(C3 h.objs.size names acc).lookup x=Aa c->(C3 h.objs.size names acc).lookup y=Aa c->x=y
 |[],_,_,i,_,x,y,c,e1,e2=>i x y c e1 e2
 |(n,k)::r,h,acc,i,b,x,y,c,e1,e2=>by
  unfold C3 at e1 e2;by_cases hk:(k==BN)=Ab
  .rw[As hk]at e1 e2;have hs:h.objs.size+1=(h.push { cls:=.type "cell",data:=.cell Ae }).objs.size:=(Ct ..).symm;rw[hs]at e1 e2;have look:∀ z d,B6 z ((n,h.objs.size)::acc)=Aa d->(z=n/\d=h.objs.size)\/(z≠n/\acc.lookup z=Aa d):=λz d q=>by
    rw[Ci]at q;cases hx:z==n with
    |true=>rw[hx]at q;cases q;exact .inl ⟨eq_of_beq hx,rfl⟩
    |false=>rw[hx]at q;exact .inr ⟨λe=>by rw[e]at hx;simp at hx,q⟩
   refine O2 r _ _ (λz z' d q q'=>?_) (λz d q=>?_) x y c e1 e2
   .rcases look z d q with ⟨rfl,q1⟩|⟨_,q1⟩<;>rcases look z' d q' with ⟨rfl,q2⟩|⟨_,q2⟩
    .rfl
    .exact absurd (b _ _ q2) (by rw[q1];exact Bp _)
    .exact absurd (b _ _ q1) (by rw[q2];exact Bp _)
    .exact i _ _ _ q1 q2
   .rw[<-hs];rcases look z d q with ⟨_,q1⟩|⟨_,q1⟩
    .rw[q1];exact EZ _
    .exact Dv (b _ _ q1)
  .rw[AB hk]at e1 e2;exact O2 r h acc i b x y c e1 e2
theorem OO:∀(names:Ac (Ag×Eg))(n:Af)(acc:Ac (Ag×Ak))(x:Ag),(x,BN)∉names->(C3 n names acc).lookup x=acc.lookup x
 |[],_,_,_,_=>rfl
 |(m,k)::r,n,acc,x,hx=>by
  unfold C3;have hr:(x,BN)∉r:=λz=>hx (Aw _ z)
  by_cases hk:(k==BN)=Ab
  .rw[As hk,OO r _ _ x hr,Ci];cases q:x==m with
   |true=>exact absurd (by rw[eq_of_beq q,eq_of_beq hk];exact AJ) hx
   |false=>rfl
  .rw[AB hk];exact OO r n acc x hr
theorem O3(n0:Af):∀(names:Ac (Ag×Eg))(n:Af)(acc:Ac (Ag×Ak))(x:Ag),n0<=n->((x,BN)∈names\/∃ c,acc.lookup x=Aa c/\n0<=c)->∃ c,(C3 n names acc).lookup x=Aa c/\n0<=c
 |[],_,_,_,_,h=>h.elim (λz=>nomatch z) id
 |(m,k)::r,n,acc,x,hn,h=>by
  unfold C3;by_cases hk:(k==BN)=Ab
  .rw[As hk];refine O3 n0 r _ _ x (by omega) ?_
   by_cases hx:(x==m)=Ab
   .exact .inr ⟨n,by rw[Ci,hx],hn⟩
   .rcases h with h|⟨c,h,hc⟩
    .rcases AA.mp h with z|z
     .cases z;simp at hx
     .exact .inl z
    .exact .inr ⟨c,by rw[Ci];simp only[hx];exact h,hc⟩
  .rw[AB hk];refine O3 n0 r _ _ x hn (h.imp (λh=>?_) id)
   rcases AA.mp h with z|z
   .cases z;simp at hk
   .exact z
theorem aH{M:GC}{A:AW}{E:Vq}{globals:Ak}{qual:Ag}{Q:Cj->Ap->Prop}(hQ:Q (newEnv scope s.heap.objs.size globals (C3 (s.heap.objs.size+1) scope.names cl) qual Ae .none (Aa env) IT) { s with heap:=Hd (s.heap.push { cls:=.type "dict",data:=.dict #[] }) scope.names }):At M A (IL scope globals cl [] qual Ae .none (Aa env)) Q E s:=by
 simp only[IL,Option.isSome_some,EW];refine An (wpAny_alloc ?_);refine An (wpAny_layCells _ (λname kind cells=>by cases hkc:kind==BN<;>simp[hkc]) _ _ _ _ ?_)
 rw[show ({ s with heap:=s.heap.push { cls:=.type "dict",data:=.dict #[] } }:Ap).heap.objs.size=s.heap.objs.size+1 from Ct ..]
 rw[GV];exact An (AH (AH hQ))
noncomputable def cxC(X:Cx)(scope:BP)(cl:Ac (Ag×Ak))(C:Ak)(N':Ac Ag)(s₀:Ap)(H₀:Hp)(fp:Ac Ak):Cx where
 prog:=X.prog
 w:=X.w
 K:=X.K
 mg:=X.mg
 base:=X.base
 A:=X.A
 N:=N'
 s₀:=s₀
 H₀:=H₀
 env:=GY scope cl C X.env
 outer:=X.stack
 stack:=X.stack
 ex:=fp
 fn:=λx=>scope.names.lookup x==Aa BN
 calm:=X.calm
 pn:=[]
 xe:=λ_ _=>AX
theorem MM{env:Cj}:∀{names:Ac (Ag×Eg)}{x:Ag}{k:Eg},(names.map λ(n,k)=>if (k==DY&&env.scope.kind==.function&&env.kindOf n==Aa .cell) then (n,BN) else (n,k)).lookup x=Aa k->names.lookup x=Aa k\/(k=.cell/\names.lookup x=Aa .free)
 |[],_,_,h=>by simp at h
 |(n,j)::r,x,k,h=>by
  have ih:=@MM env r x k;have h':B6 x ((if (j==DY&&env.scope.kind==.function&&env.kindOf n==Aa .cell)=Ab then (n,BN) else (n,j))::(r.map λ(n,k)=>if (k==DY&&env.scope.kind==.function&&env.kindOf n==Aa .cell) then (n,BN) else (n,k)))=Aa k:=h
  by_cases hc:(j==DY&&env.scope.kind==.function&&env.kindOf n==Aa .cell)=Ab
  .rw[As hc]at h';rw[Ci]at h' ⊢;cases hx:x==n with
   |true=>
    rw[hx]at h';cases h';simp only[Ai]at hc;exact .inr ⟨rfl,by rw[eq_of_beq hc.1.1]⟩
   |false=>rw[hx]at h';exact ih h'
  .rw[AB hc]at h';rw[Ci]at h' ⊢;cases hx:x==n with
   |true=>rw[hx]at h';exact .inl h'
   |false=>rw[hx]at h';exact ih h'
structure BlockOk (X:Cx) (scope:BP) (N':Ac Ag) (ts:Ac Af):Prop where
 kind:scope.kind=.function
 uniq:∀ y∈scope.names,scope.names.lookup y.1=Aa y.2
 names:∀ y∈scope.names,y.2=.local->scope.names.lookup y.1=Aa .local
 free:∀ y∈scope.names,y.2=.free->X.env.scope.names.lookup y.1=Aa .cell\/X.env.scope.names.lookup y.1=Aa .free
 len:N'.length=X.N.length
 same:∀ i x,N'[i]?=Aa x->scope.names.lookup x=Aa .free->i∉ts->X.N[i]?=Aa x
 loc:∀ i x,N'[i]?=Aa x->(scope.names.lookup x=Aa .local\/scope.names.lookup x=Aa .cell)->i∈ts
structure BCells (X:Cx) (scope:BP) (cl:Ac (Ag×Ak)) (C:Ak) (h:AC):Prop where
 own:∀ x c,cl.lookup x=Aa c->X.env.cells.lookup x=Aa c\/(scope.names.lookup x=Aa .cell/\C<c/\h.IsCell c Ae)
 inj:∀ x y c,cl.lookup x=Aa c->cl.lookup y=Aa c->x=y
 has:∀ x,scope.names.lookup x=Aa .cell->∃ c,cl.lookup x=Aa c/\C<c
 fr:∀ x,(x,DY)∈scope.names->∃ c,cl.lookup x=Aa c/\X.env.cells.lookup x=Aa c
section
variable{X:Cx}{pI:Pn}{Y:L2.St}{H:Hp}{s:Ap}
noncomputable def hideT(ts:Ac Af)(Y:L2.St):L2.St:=ts.foldl (λY t=>Y.set t Ae) Y
theorem OW:∀(ts:Ac Af)(Y:L2.St),(hideT ts Y).length=Y.length
 |[],_=>rfl
 |t::ts,Y=>by show (hideT ts (Y.set t Ae)).length=_;rw[OW ts,AR]
theorem Se:∀(ts:Ac Af)(Y:L2.St){i:Af}{v:V},(hideT ts Y)[i]?=Aa (Aa v)->Y[i]?=Aa (Aa v)/\i∉ts
 |[],_,_,_,h=>⟨h,by simp⟩
 |t::ts,Y,i,v,h=>by
  obtain⟨h1,h2⟩:=Se ts (Y.set t Ae) (i:=i) (v:=v) h;by_cases e:t=i
  .subst e;have:=Ff h1;cases this
  .rw[BA e]at h1;exact⟨h1,by simp only[AA,EX];exact⟨λz=>e z.symm,h2⟩⟩
theorem aN{tk:Af}{C:Ak}{m:Ag->Ao Aj}(I:Inv X pI Y H s)(B:BlockOk X scope N' ts)(hf:∀ b∈fp,GM X pI H b)(hfo:∀ b∈fp,b<s.heap.objs.size)(hb:BCells X scope cl C h')(hk:∀ b o,s.heap.get? b=Aa o->h'.get? b=Aa o)(hC:s.heap.objs.size<=C)(hn:h'.Ns C m):Inv (cxC X scope cl C N' s H fp) [] (hideT ts Y) H {s with heap:=h',toks:=tk}:=by
 have stf:∀ b∈fp,b∉frs X.stack:=λb hb z=>by
  rcases AA.mp (I.stkSub b z) with e|e
  .exact(hf b hb).2.1 e
  .exact(hf b hb).2.2.1 e
 have frOf:∀ x,((relabel scope X.env).names.lookup x=Aa .cell\/(relabel scope X.env).names.lookup x=Aa .free)->scope.names.lookup x=Aa .free\/scope.names.lookup x=Aa .cell:=λx hx=>by
  rcases hx with z|z
  .rcases MM z with z|⟨_,z⟩
   .exact .inr z
   .exact .inl z
  .rcases MM z with z|⟨z,_⟩
   .exact .inl z
   .cases z
 have gtC:∀ c:Ak,C<c->s.heap.objs.size<=c:=λc z=>BF hC (Gz z)
 have cellK:∀ c v,s.heap.IsCell c v->h'.IsCell c v:=λc v ⟨o,ho,hd⟩=>⟨o,hk _ _ ho,hd⟩
 refine⟨⟨I.ok.mod,B.kind,I.ok.glob,I.ok.blt,hC,hb.inj,λx hx=>?_,λx c h e=>?_,I.ok.hd,I.ok.frames,.inl rfl,λb hbb=>⟨?_,λx c e=>?_⟩,I.bs,BF I.ok.bsz I.sz,λb o e hbb=>?_,stf,I.stack,I.stkFree⟩,rfl,I.bare,Un.kept hk,⟨m,hn,λi x v h1 h2 h3=>?_⟩,λx c e=>?_,I.hok.fresh hC,λx c e=>(hb.own x c e).elim (I.freeC x c) (λz=>I.hok.fresh (gtC c z.2.1)),λp hp=>absurd (show p∈([]:Pn) from hp) (by simp),I.hok.kept hk,?_⟩
 .rcases frOf x hx with z|z
  .obtain⟨c,q,_⟩:=hb.fr x (CD z);exact⟨c,q⟩
  .obtain⟨c,q,_⟩:=hb.has x z;exact⟨c,q⟩
 .obtain⟨c',q,z⟩:=hb.has x (eq_of_beq h);have e':cl.lookup x=Aa c:=e;rw[q]at e';cases e';exact gtC _ z
 .intro z;have z':b=C:=z;have:=hfo b hbb;rw[z']at this;exact absurd (AQ this hC) (Bp _)
 .rcases hb.own x c e with z|z
  .exact(hf b hbb).2.2.2.2.1 x c z
  .intro q;have:=hfo b hbb;have:=gtC c z.2.1;rw[q]at this;exact absurd ‹b<_› (Xo.mpr this)
 .rcases (hf b hbb).2.2.2.1 with z|z
  .exact I.ok.noex b o e z
  .exact absurd (AQ (AL e) (BF I.ok.bsz z)) (Bp _)
 .obtain⟨h2,hts⟩:=Se ts Y h2;have h3':(relabel scope X.env).names.lookup x=Aa .local\/(relabel scope X.env).names.lookup x=Aa .cell\/(relabel scope X.env).names.lookup x=Aa .free:=h3;have h1':N'[i]?=Aa x:=h1;rcases h3' with z|z
  .rcases MM z with z|⟨z,_⟩
   .exact absurd (B.loc i x h1' (.inl z)) hts
   .cases z
  .have fr:=(frOf x z).resolve_right λq=>hts (B.loc i x h1' (.inr q))
   have hm:=CD fr;have hX:=B.same i x h1' fr hts;obtain⟨m0,hn0,hl0⟩:=I.loc;obtain⟨u,ru,lk⟩:=hl0 i x v hX h2 (by
    rcases B.free _ hm rfl with q|q
    .exact .inr (.inl q)
    .exact .inr (.inr q))
   refine⟨u,ru,?_⟩;obtain⟨c,hc,hcX⟩:=hb.fr x hm;rcases lk with ⟨q,_⟩|⟨_,c',hc',hcell⟩
   .have q':X.env.scope.names.lookup x=Aa .local:=q;rcases B.free _ hm rfl with p|p
    .rw[show X.env.scope.names.lookup x=_ from p]at q';cases q'
    .rw[show X.env.scope.names.lookup x=_ from p]at q';cases q'
   .have e:=hcX;rw[hc']at e;cases e;exact .inr ⟨z,c,hc,cellK _ _ hcell⟩
 .rcases hb.own x c e with z|z
  .obtain⟨v,q⟩:=I.cell x c z;exact⟨v,cellK _ _ q⟩
  .exact⟨_,z.2.2⟩
 .show (hideT ts Y).length=N'.length;rw[OW,I.len,B.len]
theorem O4{C D:Ak}{s':Ap}{Y':L2.St}{pins':Pn}{h'':AC}(I:Inv X pI Y H s)(hf:∀ b∈fp,GM X pI H b)(I':Inv (cxC X scope cl C N' s H fp) pins' Y' H' s')(hD:s.heap.objs.size<=D)(hDC:D≠C)(hC:s.heap.objs.size<=C)(hd:s'.heap.get? D=Aa { cls:=.type "list",data:=.seq ys.toArray n })(hDn:H' D=Ae)(rv:AZ xs ys)(hz:xs.length<=sizeLine)(hs:EQ C s'.heap h''):Inv X pI Y (upd H' D (.lst xs)) {s' with heap:=h''}:=by
  have u:Un (frs X.stack) fp H H' s.heap s'.heap:=I'.base;have lt:∀ b o,s.heap.get? b=Aa o->b≠C/\b≠D:=λb o e=>⟨λz=>absurd (AQ (AL e) (z ▸ hC)) (Bp _),λz=>absurd (AQ (AL e) (z ▸ hD)) (Bp _)⟩
  have HD:H D=Ae:=I.hok.fresh hD;have hCn:H' C=Ae:=I'.free;have kb:∀ b o,b≠C->s'.heap.get? b=Aa o->h''.get? b=Aa o:=λb o hb e=>(hs.2 b hb).trans e
  have u2:Un (frs X.stack) fp H (upd H' D (.lst xs)) s.heap h'':=⟨λb o e q hb hx=>kb b o (lt b o e).1 (u.keep b o e q hb hx),λb o e q hb hx=>by
      obtain⟨sl,e1⟩:=u.slot b o e q hb hx;exact⟨sl,kb b _ (lt b o e).1 e1⟩,λb o e q hx=>by rw[Bb (lt b o e).2];exact u.free b o e q hx,λb o e hx=>by
      obtain⟨o',e1⟩:=u.there b o e hx;exact⟨o',kb b _ (lt b o e).1 e1⟩,λb zs q=>by rw[Bb (F1 q HD)];exact u.tups b zs q,λb o zs q=>by rw[Bb (F1 q HD)];exact u.frzs b o zs q,λb ps q=>by rw[Bb (F1 q HD)];exact u.tbls b ps q⟩
  have hok:HOk X.prog X.w (upd H' D (.lst xs)) h'':=λb o e=>by
    by_cases hb:b=D
    · subst hb;rw[Db]at e;cases e;exact⟨hz,ys,n,rv,kb _ _ hDC hd⟩
    · rw[Bb hb]at e;refine(I'.hok b o e).stay (λc v hc q=>kb c v ?_ q) (λc q=>by rw[Bb (F1 q hDn)];exact q) λc zs q=>by rw[Bb (F1 q hDn)];exact q
      rcases hc with rfl|hc
      · exact F1 e hCn
      · exact F1 hc hCn
  exact I.call' (s':={s' with heap:=h''}) (ch:=fp) I'.os u2 hok I'.bare λb hb=>⟨(hf b hb).2.2.2.1,(hf b hb).2.1,(hf b hb).2.2.2.2.1,(hf b hb).2.2.2.2.2⟩
end
def PTs(X:Cx)(ifs:Ac Am)(tt:TT):Prop:=∀(pI:Pn)(s:Ap)(Y:L2.St)(H:Hp)(Q:Al->Hp->Prop),Inv X pI Y H s->tt Y H Q ->
 At (model X.prog X.w) X.A (forIn ifs Ab λc r=>if r=Ab then do let ok <-IJ c X.env (eval c X.env);pure (Et ok) else pure (Et r)) (TP X pI Y Q) X.xe s
theorem jJ:PTs X [] (λY H Q=>Q Ab H):=λpI s Y H Q I h=>wpAny_tests_nil ⟨H,I,h⟩
theorem jI{t:TT}(h:PT X c t):PTs X [c] t:=λpI s Y H Q I q=>wpAny_tests_one (h pI s Y H Q I q)
theorem aX{D:Ak}{y:Aj}{E:Vq}{Q:Vq}(I:Inv X ((D,{ cls:=.type "list",data:=.seq ys.toArray n })::pI) Y H s)(hD:X.s₀.heap.objs.size<=D)(hp:∀ p∈X.pn++pI,p.1≠D)(hc:∀ x c,X.env.cells.lookup x=Aa c->c≠D)(hz:ys.length<=sizeLine)(h:∀ s',Inv X ((D,{ cls:=.type "list",data:=.seq (ys++[y]).toArray (n+1) })::pI) Y H s'->(∀ b o,b≠D->s.heap.get? b=Aa o->s'.heap.get? b=Aa o)->Q .none s'):At (model X.prog X.w) X.A (call (.builtin "list.append") [.ref D,y]) Q E s:=by
 obtain⟨e,hn,hL,hfs,_⟩:=I.pin (D,{ cls:=.type "list",data:=.seq ys.toArray n }) (Bi _ AJ);refine append_at (hsz:=by rw[AG];exact hz) e λh' hs hd=>?_
 have hd':h'.get? D=Aa { cls:=.type "list",data:=.seq (ys++[y]).toArray (n+1) }:=by rw[hd];simp
 have kb:∀ b o,b≠D->s.heap.get? b=Aa o->h'.get? b=Aa o:=λb o hb q=>(hs.2 b hb).trans q
 have I0:Inv X pI Y H s:=I.pins_of λp hp=>I.pin p (Bi _ (Aw _ hp))
 have I1:Inv X pI Y H {s with heap:=h'}:=I0.turned (t':=s.toks) kb hn hL (.inr hD) hc hp
 refine h _ (I1.pins_of λp hp=>?_) kb
 rcases AA.mp hp with rfl|hp
 .exact⟨hd',hn,hL,hfs,λv z=>by
   have z':LJ _ _=LH v:=z;cases z'⟩
 .exact I1.pin p (Bi _ hp)
section
variable{prog:AO}{w:A1}{A:AW}{R:HK->Ap->Prop}{s:Ap}
theorem aM{target:Am}{it acc:Aj}(I:Af->Ap->Prop)(turn:∀ n s,I n s->At (model prog w) A (JN it) (λr s₁=>match r with
      |none=>R (.ok .next) s₁
      | some v=>At (model prog w) A (GE target it v) (λ_ s₁'=>At (model prog w) A (assign target env v) (λ_ s₂=>
          At (model prog w) A (forIn ifs Ab λc r=>if r=Ab then do let ok <-IJ c env (eval c env);pure (Et ok) else pure (Et r)) (λok s₃=>
            if ok=Ab then At (model prog w) A (eval elt env) (λx s₄=>
              At (model prog w) A (call (.builtin "list.append") [acc,x]) (λ_ s₅=>∃ m,m<n/\I m s₅) (GZ (model prog w) A env λe s'=>R (.error e) s') s₄) (GZ (model prog w) A env λe s'=>R (.error e) s') s₃
            else ∃ m,m<n/\I m s₃) (GZ (model prog w) A env λe s'=>R (.error e) s') s₂) (GZ (model prog w) A env λe s'=>R (.error e) s') s₁') (GZ (model prog w) A env λe s'=>R (.error e) s') s₁) (GZ (model prog w) A env λe s'=>R (.error e) s') s)(n:Af)(h:I n s):ES (model prog w) A (.compLoop (.ListComp elt [⟨target,iter,ifs,0⟩] scope pos) 0 it acc env) R s:=by
  refine codeAny_loop rfl I (λn s hI=>?_) n h
  show At _ A ((compTurn (.ListComp elt [⟨target,iter,ifs,0⟩] scope pos) 0 it acc env).onRaise (λx=>do Ed x env;theTreesLotGoes x)) _ _ s
  refine wpAny_noted ?_;rw[compTurn_list];refine An (DZ (An (A3 (turn n s hI) (λr s₁ h₁=>?_) λ_ _ h'=>h')))
  cases r with
  |none=>exact AH h₁
  |some v=>
    refine An (A3 h₁ (λ_ s₁' h₁'=>?_) λ_ _ h'=>h')
    refine An (A3 h₁' (λ_ s₂ h₂=>An (A3 h₂ (λok s₃ h₃=>?_) λ_ _ h'=>h')) λ_ _ h'=>h')
    cases ok with
    |false=>exact AH ⟨rfl,h₃⟩
    |true=>
      exact An (An (A3 h₃ (λx s₄ h₄=>An (A3 h₄ (λ_ s₅ h₅=>AH (AH ⟨rfl,h₅⟩)) λ_ _ h'=>h')) λ_ _ h'=>h'))
end
def JO(J:It)(ts:Ac Af)(g:TG)(tt:TT)(te:TE)(Y:L2.St)(H:Hp)(Q:VK):Prop:=∃ W:Af->Af->Ac V->L2.St->Hp->Prop,(∃ m,W 0 m [] (hideT ts Y) H)/\∀ i m xs Y H,W i m xs Y H ->
 (J.stop i H/\∀ p,H p=Ae->Q (.ref p) (upd H p (.lst xs))) \/
 (J.go i H/\xs.length<sizeLine/\∀ x H',J.yld i H x H'->g x Y H' λY2 H2=>tt Y2 H2 λb H3=>if b=Ab then te Y2 H3 λy H4=>∃ m',m'<m/\W (i+1) m' (xs++[y]) Y2 H4 else ∃ m',m'<m/\W (i+1) m' xs Y2 H3)
theorem Pk{g:TG}{it:Ak}{tn:Af->AC->Prop}{E:Vq}{RR:Aj->Ak->HK->Ap->Prop}(hc:X.calm=Ab)(B:BlockOk X scope N' ts)(I:Inv X pI Y H s)(T:Turn X.prog X.w X.K tg J fp it tn)(st:tn 0 s.heap)(hf:∀ b∈fp,GM X pI H b)(hcl:∀ x c,cl.lookup x=Aa c->X.env.cells.lookup x=Aa c)(hcl2:∀ x,(x,DY)∈scope.names->∃ c,cl.lookup x=Aa c)(hg:∀ cl C s H,PG (cxC X scope cl C N' s H fp) tg g)(ht:∀ cl C s H,PTs (cxC X scope cl C N' s H fp) ifs tt)(he:∀ cl' C D pl Y' H' s' (Q':VK),s.heap.objs.size<=C->Inv (cxC X scope cl' C N' s H fp) pl Y' H' s'->(∀ b∈fp,∃ o,(b,o)∈pl)->te Y' H' Q'->At (model X.prog X.w) X.A (eval elt (GY scope cl' C X.env)) (EP (cxC X scope cl' C N' s H fp) pl Y' Q') (GZ (model X.prog X.w) X.A (GY scope cl' C X.env) λe s''=>RR (.ref D) C (.error e) s'') s')(h:JO J ts g tt te Y H Q)(hRR:∀ cl D C s' H' Y' pins' xs ys n m,Inv (cxC X scope cl C N' s H fp) pins' Y' H' s'->s'.heap.get? D=Aa { cls:=.type "list",data:=.seq (CA ys) n }->H' D=Ae->AZ xs ys->xs.length<=sizeLine->s.heap.objs.size<=D->D≠C->s.heap.objs.size<=C->s'.heap.Ns C m->Q (.ref D) (upd H' D (.lst xs))->RR (.ref D) C (.ok .next) s'):At (model X.prog X.w) X.A (newList []) (λacc s₃=>At (model X.prog X.w) X.A (IL scope X.env.globals cl [] X.env.qual Ae .none (Aa X.env)) (λcenv s₄=>ES (model X.prog X.w) X.A (.compStart (.ListComp elt [⟨tg,iter,ifs,0⟩] scope pos) 0 (.ref it) acc {cenv with scope:=relabel scope X.env}) (RR acc cenv.locals) s₄) E s₃) E s:=by
 refine CY (aH ?_);dsimp only;generalize hH2:s.heap.push { cls:=.type "list",dict:=Ae,data:=.seq ([]:Ac Aj).toArray }=H2;have hns₁:(Hd (H2.push { cls:=.type "dict",data:=.dict #[] }) scope.names).Ns H2.objs.size (λ_=>Ae):=(Heap.Ns.new H2 (.type "dict")).keeps (Ii _ _)
 have hkp₁:∀ b o,H2.get? b=Aa o->(Hd (H2.push { cls:=.type "dict",data:=.dict #[] }) scope.names).get? b=Aa o:=λb o e=>Ii _ _ b o (Ar _ e)
 have hown:=O1 scope.names (H2.push { cls:=.type "dict",data:=.dict #[] }) cl;have hinj:=O2 scope.names (H2.push { cls:=.type "dict",data:=.dict #[] }) cl;rw[Ct]at hown hinj;generalize hcl':C3 (H2.objs.size+1) scope.names cl=cl' at hown hinj;have hcf:∀ x,(x,BN)∉scope.names->cl'.lookup x=cl.lookup x:=λx hx=>by rw[<-hcl'];exact OO _ _ _ x hx
 have hch:∀ x,(x,BN)∈scope.names->∃ c,cl'.lookup x=Aa c/\H2.objs.size+1<=c:=λx hx=>by rw[<-hcl'];exact O3 _ _ _ _ x (AK _) (.inl hx)
 generalize hh₁:Hd (H2.push { cls:=.type "dict",data:=.dict #[] }) scope.names=h₁ at hns₁ hkp₁ hown;have hC:H2.objs.size=s.heap.objs.size+1:=by rw[<-hH2,Ct]
 have hCle:s.heap.objs.size<=H2.objs.size:=by rw[hC];exact F4 _
 have hDC:s.heap.objs.size≠H2.objs.size:=by rw[hC];exact A5 (EZ _)
 have below:∀ b,b<s.heap.objs.size->b≠H2.objs.size:=λb hb=>by rw[hC];exact A5 (Dv hb)
 have old:∀ b o,s.heap.get? b=Aa o->h₁.get? b=Aa o:=λb o e=>hkp₁ b o (hH2 ▸ Ar _ e)
 have hacc:h₁.get? s.heap.objs.size=Aa { cls:=.type "list",data:=.seq ([]:Ac Aj).toArray 0 }:=hkp₁ _ _ (hH2 ▸ AN _ rfl);have clt:∀ x c,cl.lookup x=Aa c->c<s.heap.objs.size:=λx c e=>by
  obtain⟨v,q⟩:=I.cell x c (hcl x c e);exact q.lt
 have bc:BCells X scope cl' H2.objs.size h₁:=by
  refine⟨λx c e=>?_,hinj (λx y c e1 e2=>I.ok.inj x y c (hcl x c e1) (hcl y c e2)) (λx c e=>Dv (AQ (clt x c e) hCle)),λx hx=>?_,λx hx=>?_⟩
  .rcases hown x c e with q|⟨q1,q2,q3⟩
   .exact .inl (hcl x c q)
   .exact .inr ⟨B.uniq _ q1,q2,q3⟩
  .have hm:=CD hx;obtain⟨c,e,hc⟩:=hch x hm;exact⟨c,e,hc⟩
  .have hno:(x,BN)∉scope.names:=λz=>by
    have e1:=B.uniq _ hx;have e2:=B.uniq _ z;rw[show scope.names.lookup x=_ from e1]at e2
    cases e2
   obtain⟨c,e⟩:=hcl2 x hx;exact⟨c,by rw[hcf x hno];exact e,hcl x c e⟩
 have hfo:∀ b∈fp,b<s.heap.objs.size:=λb hb=>by
  obtain⟨o,e,_⟩:=T.obj 0 _ st b hb;exact AL e
 generalize hD:s.heap.objs.size=D at *;generalize hC':H2.objs.size=C at *;have I0:Inv (cxC X scope cl' C N' s H fp) [] (hideT ts Y) H {s with heap:=h₁,toks:=s.toks+([]:Ac (Ag×Aj)).length}:=aN (tk:=s.toks+([]:Ac (Ag×Aj)).length) I B hf (λb hb=>by rw[hD];exact hfo b hb) bc old (by rw[hD];exact hCle) hns₁
 have nD:H D=Ae:=I.hok.fresh (by rw[hD];exact AK _)
 have noD:∀ b∈fp,b≠D:=λb hb=>A5 (hfo b hb)
 have noC:∀ b∈fp,b≠C:=λb hb=>below b (hfo b hb)
 have stfs:D∉frs X.stack:=λz=>by
  obtain⟨_,o,ho,_⟩:=I.stack.mem z;exact absurd (AL ho) (by rw[hD];exact Bp _)
 have cD:∀ x c,cl'.lookup x=Aa c->c≠D:=λx c e z=>by
  rcases bc.own x c e with q|⟨_,q,_⟩
  .obtain⟨v,q⟩:=I.cell x c q;exact absurd q.lt (by rw[z,hD];exact Bp _)
  .rw[z]at q;exact absurd (AQ q hCle) (Bp _)
 have I1:Inv (cxC X scope cl' C N' s H fp) [(D,{ cls:=.type "list",data:=.seq ([]:Ac Aj).toArray 0 })] (hideT ts Y) H {s with heap:=h₁,toks:=s.toks+([]:Ac (Ag×Aj)).length}:=I0.pins_of λp hp=>by
  have e:=Bk.mp hp;subst e;exact⟨hacc,nD,hDC,stfs,λv z=>by
   have z':LJ _ _=LH v:=z;cases z'⟩
 have st1:tn 0 h₁:=T.keep _ _ _ st λb _ o e=>old b o e
 obtain⟨W,⟨m0,w0⟩,turn⟩:=h;have fpk:∀{pl:Pn}{H':Hp},(∀ p∈pl,p.1=D)->(∀ b∈fp,H' b=Ae)->∀ b∈fp,GM (cxC X scope cl' C N' s H fp) pl H' b:=λ{pl H'} hp hn b hb=>
  ⟨hn b hb,noC b hb,λz=>by
   rcases AA.mp (I.stkSub b z) with e|e
   .exact(hf b hb).2.1 e
   .exact(hf b hb).2.2.1 e,.inl hb,λx c e=>(bc.own x c e).elim ((hf b hb).2.2.2.2.1 x c) (λz q=>absurd (DM hCle z.2.1) (Xo.mpr (by rw[q];exact Gz (hfo b hb)))),λp hp'=>by
   have hp2:p∈pl:=hp';rw[hp p hp2];exact(noD b hb).symm⟩
 have loop:∀ s₃:Ap,s₃={s with heap:=h₁,toks:=s.toks+([]:Ac (Ag×Aj)).length} ->
   ES (model X.prog X.w) X.A (.compLoop (.ListComp elt [⟨tg,iter,ifs,0⟩] scope pos) 0 (.ref it) (.ref D) (GY scope cl' C X.env)) (RR (.ref D) C) s₃:=by
  rintro s₃ rfl;refine aM (λk s'=>∃ i Y' H' xs ys n,Inv (cxC X scope cl' C N' s H fp) [(D,{ cls:=.type "list",data:=.seq (CA ys) n })] Y' H' s'/\tn i s'.heap/\(∀ b∈fp,H' b=Ae)/\AZ xs ys/\xs.length<=sizeLine/\W i k xs Y' H') ?_ m0
   ⟨0,_,H,[],[],0,I1,st1,λb hb=>(hf b hb).1,.nil,Cv _,w0⟩
  rintro k s' ⟨i,Y',H',xs,ys,n,I',st',fr',rv,hz,w'⟩;have one:∀ p∈[((D,{ cls:=.type "list",data:=.seq (CA ys) n }):Ak×Da)],p.1=D:=λp hp=>by rw[Bk.mp hp]
  rcases turn i k xs Y' H' w' with ⟨stop,q⟩|⟨go,hlt,step⟩
  .refine A3 (T.done (cxC X scope cl' C N' s H fp) rfl rfl rfl hc i _ s' Y' H' (λ_ _=>AX) I' (fpk one fr') st' stop) (λr s1 ⟨hr,J1⟩=>?_) λ_ _ f=>f.elim
   subst hr;obtain⟨e,hn,_⟩:=J1.pin _ (Bi _ AJ);obtain⟨m,hm,_⟩:=J1.loc;exact hRR cl' D C s1 H' Y' _ xs ys n m J1 e hn rv hz (AK _) hDC hCle hm (q D hn)
  .refine A3 (T.item (cxC X scope cl' C N' s H fp) rfl rfl rfl hc i _ s' Y' H' (λ_ _=>AX) I' (fpk one fr') st' go) (λr s1 ⟨u,hr,h4⟩=>?_) λ_ _ f=>f.elim
   subst hr;refine A3 h4 (λ_ s5 ⟨x,H5,I5,r5,y5,st5,fr5⟩=>?_) λ_ _ f=>f.elim
   have I5':=I5.pinned (fpk one fr5) (T.obj _ _ st5);refine A3 (hg cl' C s H _ s5 Y' H5 x u _ I5' r5 (step x H5 y5)) (λ_ s6 ⟨Y6,H6,I6,q6⟩=>?_) λ_ _ f=>f.elim
   refine A3 (ht cl' C s H _ s6 Y6 H6 _ I6 q6) (λok s7 ⟨H7,I7,q7⟩=>?_) λ_ _ f=>f.elim
   have again:∀{s8:Ap}{H8:Hp}{ys':Ac Aj}{n':Af},Inv (cxC X scope cl' C N' s H fp) ((D,{ cls:=.type "list",data:=.seq (CA ys') n' })::Ky fp s5.heap) Y6 H8 s8->Inv (cxC X scope cl' C N' s H fp) [(D,{ cls:=.type "list",data:=.seq (CA ys') n' })] Y6 H8 s8/\tn (i+1) s8.heap/\∀ b∈fp,H8 b=Ae:=λ{s8 H8 ys' n'} I8=>
    ⟨I8.pins_of λp hp=>I8.pin p (Bi _ (by rw[Bk.mp hp];exact AJ)),T.keep _ _ _ st5 λb hb o e=>(I8.pin (b,o) (Bi _ (Aw _ (LR hb e)))).1,λb hb=>by
     obtain⟨o,e,d⟩:=T.obj _ _ st5 b hb;exact(I8.pin (b,o) (Bi _ (Aw _ (LR hb e)))).2.1⟩
   cases ok with
   |false=>
    rw[AB (by decide)]at q7
    obtain⟨m',hm,w7⟩:=q7;obtain⟨a1,a2,a3⟩:=again I7;rw[AB (by decide)]
    exact⟨m',hm,i+1,Y6,H7,xs,ys,n,a1,a2,a3,rv,hz,w7⟩
   |true=>
    rw[As rfl]at q7;rw[As rfl];refine A3 (he cl' C D _ Y6 H7 s7 _ hCle I7 (λb hb=>let ⟨o,e,_⟩:=T.obj _ _ st5 b hb;⟨o,Aw _ (LR hb e)⟩) q7) (λval s8 ⟨y,H8,I8,r8,m',hm,w8⟩=>?_) λ_ _ f=>f
    have hl:=rv.length;refine aX (X:=cxC X scope cl' C N' s H fp) (ys:=ys) (n:=n) (pI:=Ky fp s5.heap) I8 (by show s.heap.objs.size<=D;rw[hD];exact AK _) (λp hp=>?_) cD (by omega) λs9 I9 kb=>?_
    .have hp2:p∈Ky fp s5.heap:=hp;exact noD _ (RL hp2).1
    .obtain⟨a1,a2,a3⟩:=again I9;exact⟨m',hm,i+1,Y6,H8,xs++[y],ys++[val],n+1,a1,a2,a3,rv.append (.cons r8 .nil),by rw[Bj];exact hlt,w8⟩
 exact codeAny_compStart_list (loop _ rfl) (T.self _ 0 _ _ _ st1 (loop _ rfl))
theorem jS{g:TG}(hc:X.calm=Ab)(B:BlockOk X scope N' ts)(hi:PI X tg iter wi)(hg:∀ cl C s H fp,PG (cxC X scope cl C N' s H fp) tg g)(ht:∀ cl C s H fp,PTs (cxC X scope cl C N' s H fp) ifs tt)(he:∀ cl C s H fp,PE (cxC X scope cl C N' s H fp) elt te)(hs:∀ x,BQ iter X.env x=pure x):PE X (.ListComp elt [⟨tg,iter,ifs,0⟩] scope pos) (λY H Q=>wi Y H λJ H1=>JO J ts g tt te Y H1 Q):=by
 intro pI s Y H Q I h;obtain⟨cl,hclos,hcl,hcl2⟩:=OM (scope:=scope) (env:=X.env) λx hx hk=>I.ok.has x.1 ((B.free x hx hk).imp id id)
 rw[eval_ListComp];refine FB (use:=Ae) rfl hs hclos B.kind B.names (thn (hi pI s Y H _ I h) λv s1 h1=>thn h1 λitv s2 h2=>?_)
 obtain⟨it,fp,tn,J,H2,e,I2,T,st2,f2,h3⟩:=h2;subst e;refine Pk (RR:=λacc C=>Kk (model X.prog X.w) X.A X.xe Ae (EP X pI Y Q) acc C) hc B I2 T st2 f2 hcl hcl2 (λcl C s H=>hg cl C s H fp) (λcl C s H=>ht cl C s H fp) (λcl C D pl Y' H' s' Q' _ I' _ q=>A3 (he cl C s2 H2 fp pl s' Y' H' Q' I' q) (λ_ _ z=>z) λ_ _ f=>f.elim) h3 λcl' D C s' H' Y' pins' xs ys n m I' hd hDn rv hz hD hDC hC hm q=>?_
 exact⟨m,hm,λh'' hs''=>⟨.ref D,_,O4 I2 f2 I' hD hDC hC hd hDn rv hz hs'',rfl,q⟩⟩
theorem jM{n:Ag}{g:TG}(hc:X.calm=Ab)(B:BlockOk X scope N' ts)(hi:PI X tg iter wi)(hg:∀ cl C s H fp,PG (cxC X scope cl C N' s H fp) tg g)(ht:∀ cl C s H fp,PTs (cxC X scope cl C N' s H fp) ifs tt)(he:∀ cl C s H fp,PE (cxC X scope cl C N' s H fp) elt te)(hs:∀ x,BQ iter X.env x=pure x)(hN:X.N.Nodup)(hni:X.N[i]?=Aa n)(hx:X.env.scope.names.lookup n=Aa .local)(hsw:Cn (.ListComp elt [⟨tg,iter,ifs,0⟩] scope pos) (Aa (.Name n pos')) pos2.line X.env=pure Ab):PS X (.Assign [.Name n pos'] (.ListComp elt [⟨tg,iter,ifs,0⟩] scope pos) pos2) (KI (λY H Q=>wi Y H λJ H1=>JO J ts g tt te Y H1 Q) (EG i)):=by
 intro pI s Y H Dn I h;obtain⟨cl,hclos,hcl,hcl2⟩:=OM (scope:=scope) (env:=X.env) λx hx hk=>I.ok.has x.1 ((B.free x hx hk).imp id id)
 rw[exec_Assign_Name_used _ _ _ _ hsw];refine An (DZ (An ?_));show At _ X.A (do let _ <-comprehension (.ListComp elt [⟨tg,iter,ifs,0⟩] scope pos) scope X.env _ (newList []) Ad (eval iter X.env) (Aa (assign (.Name n pos') X.env))) _ _ s
 refine An (A3 (FB (use:=Aa (assign (.Name n pos') X.env)) (Q:=λ_ s'=>SP X pI Dn .next s') rfl hs hclos B.kind B.names
  (thn (hi pI s Y H _ I h) λv s1 h1=>thn h1 λitv s2 h2=>?_)) (λ_ s' hq=>AH (AH hq)) λ_ _ e=>e)
 obtain⟨it,fp,tn,J,H2,e,I2,T,st2,f2,h3⟩:=h2;subst e;refine Pk (RR:=λacc C=>Kk (model X.prog X.w) X.A X.xe (Aa (assign (.Name n pos') X.env)) (λ_ s'=>SP X pI Dn .next s') acc C) hc B I2 T st2 f2 hcl hcl2 (λcl C s H=>hg cl C s H fp) (λcl C s H=>ht cl C s H fp) (λcl C D pl Y' H' s' Q' _ I' _ q=>A3 (he cl C s2 H2 fp pl s' Y' H' Q' I' q) (λ_ _ z=>z) λ_ _ f=>f.elim) h3 λcl' D C s' H' Y' pins' xs ys n' m I' hd hDn rv hz hD hDC hC hm q=>?_
 have J0:Inv X pI Y (upd H' D (.lst xs)) s':=O4 I2 f2 I' hD hDC hC hd hDn rv hz (Heap.SameBut.refl ..);refine Zp (RY J0 hN hni (.inl hx) (show Bq (.ref D) (.ref D) from rfl) (λs'' J1 ⟨a,sb,ha⟩=>?_) (.inr hx))
 have hC0:X.s₀.heap.objs.size<=C:=BF I2.sz hC;have hL:C≠X.env.locals:=λz=>absurd (AQ I2.lt (z ▸ hC)) (Bp _)
 have hcC:∀ x c,X.env.cells.lookup x=Aa c->c≠C:=λx c e z=>by
  obtain⟨v,q'⟩:=I2.cell x c e;exact absurd (AQ q'.lt (by rw[z];exact hC)) (Bp _)
 have hp:∀ p∈X.pn++pI,p.1≠C:=λp hp z=>absurd (AQ (AL (I2.pin p hp).1) (by rw[z];exact hC)) (Bp _)
 have hCn:upd H' D (.lst xs) C=Ae:=by rw[Bb hDC.symm];exact I'.free
 have hCa:C≠a:=by
  rcases ha with rfl|ha
  .exact hL
  .exact λz=>hcC n a ha z.symm
 refine⟨m,hm.sameBut sb hCa,λh'' hs''=>⟨_,_,J1.turned (t':=s''.toks) (λb o hb e=>(hs''.2 b hb).trans e) hCn hL (.inr hC0) hcC hp,q⟩⟩
theorem K9:∀(ts:Ac Af)(U:Rho)(j:Af),(Fh ts U)[j]?=if j∈ts then (U[j]?).map (λ_=>Ae) else U[j]?
 |[],U,j=>by simp[Fh]
 |t::ts,U,j=>by
  show (Fh ts (U.set t Ae))[j]?=_;rw[K9 ts];by_cases h1:j∈ts
  .rw[As h1,As (Aw _ h1)];by_cases h2:t=j
   .subst h2;rw[FP];cases U[t]?<;>rfl
   .rw[BA h2]
  .rw[AB h1];by_cases h2:t=j
   .subst h2;rw[As AJ,FP];cases U[t]?<;>rfl
   .rw[BA h2,AB (by simp only[AA,EX];exact⟨λz=>h2 z.symm,h1⟩)]
theorem MS:∀(ts:Ac Af)(U:Rho),(Fh ts U).length=U.length
 |[],_=>rfl
 |t::ts,U=>by show (Fh ts (U.set t Ae)).length=_;rw[MS ts,AR]
theorem OL:∀(ts:Ac Af)(Y:L2.St){i:Af},i∉ts->(hideT ts Y)[i]?=Y[i]?
 |[],_,_,_=>rfl
 |t::ts,Y,i,h=>by
  simp only[AA,EX]at h;show (hideT ts (Y.set t Ae))[i]?=_;rw[OL ts _ h.2,BA (λz=>h.1 z.symm)]
theorem Rn:∀(ts:Ac Af)(ds:Ac D)(U1 U2:Rho),U1.length=U2.length->(∀ j,j∉ts->U1[j]?=U2[j]?)->Fe ts ds U1=Fe ts ds U2
 |[],[],U1,U2,hl,h=>congrArg Aa (WY λj=>h j (by simp))
 |[],_::_,_,_,_,_=>rfl
 |_::_,[],_,_,_,_=>rfl
 |t::ts,d::ds,U1,U2,hl,h=>by
  refine Rn ts ds _ _ (by rw[AR,AR];exact hl) λj hj=>?_
  by_cases e:t=j
  .subst e;rw[Hn,Hn,As rfl,As rfl,hl]
  .rw[BA e,BA e];exact h j (by simp only[AA,EX];exact⟨λz=>e z.symm,hj⟩)
theorem Rl:∀(ts us:Ac Af)(ds:Ac D)(U U':Rho),(∀ t∈ts,t∈us)->Fe ts ds U=Aa U'->Fh us U'=Fh us U
 |[],us,[],U,U',_,e=>by cases e;rfl
 |t::ts,us,d::ds,U,U',hs,e=>by
  rw[Rl ts us ds _ U' (λu hu=>hs u (Aw _ hu)) e]
  refine WY λj=>?_
  rw[K9,K9];by_cases h:j∈us
  .rw[As h,As h,Hn];split
   .rename_i e2;subst e2;split
    .rename_i h3;rw[AE h3];rfl
    .rename_i h3;rw[W4 (by omega)]
   .rfl
  .rw[AB h,AB h,BA];rintro rfl;exact h (hs _ AJ)
 |[],_,_::_,_,_,_,e=>by cases e
 |_::_,_,[],_,_,_,e=>by cases e
section
variable{K:Fg}{CL:ClA}{A:Ak->Prop}{U U':Rho}{Y:L2.St}{H:Hp}
theorem Good.less(g:Good K CL A U Y H)(hl:U'.length=U.length)(h:∀(i:Af)(d:D)(o:Al),U'[i]?=Aa (Aa (d,o))->U[i]?=Aa (Aa (d,o))):Good K CL A U' Y H:=⟨λi d e=>g.sh i d (h i d Ad e),λi d e hn=>g.ow i d (h i d Ab e) hn,hl.trans g.len⟩
theorem Good.put(g:Good K CL A U Y H)(t:Af)(r:Rep K CL H A v d):Good K CL A (U.set t (Aa (d,Ad))) (Y.set t (Aa v)) H:=by
 refine⟨λj e h=>?_,λj e h hn=>?_,by rw[AR,AR];exact g.len⟩
 .by_cases hj:t=j
  .subst hj;have e1:=Ff h;cases e1;have hl:t<Y.length:=by
    rw[<-g.len];have:=(A2.mp h).1;simpa using this
   exact⟨v,by rw[BV hl],r⟩
  .rw[BA hj]at h;obtain⟨w',q,rw'⟩:=g.sh j e h;exact⟨w',by rw[BA hj];exact q,rw'⟩
 .have hj:t≠j:=by
   rintro rfl;have:=Ff h;cases this
  rw[BA hj]at h;obtain⟨a,xs,ds,q,z⟩:=g.ow j e h hn;exact⟨a,xs,ds,by rw[BA hj];exact q,z⟩
theorem Good.hide(g:Good K CL A U Y H)(ts:Ac Af):Good K CL A (Fh ts U) Y H:=g.less (MS _ _) λi d o e=>by
 rw[K9]at e;split at e
 .cases q:U[i]? with
  |none=>rw[q]at e;cases e
  |some x=>rw[q]at e;cases e
 .exact e
theorem Good.hideT(g:Good K CL A U Y H)(ts:Ac Af):Good K CL A (Fh ts U) (hideT ts Y) H:=by
 have key:∀ i x,(Fh ts U)[i]?=Aa (Aa x)->U[i]?=Aa (Aa x)/\i∉ts:=λi x e=>by
  rw[K9]at e;split at e
  .cases q:U[i]? with
   |none=>rw[q]at e;cases e
   |some x=>rw[q]at e;cases e
  .exact⟨e,by assumption⟩
 refine⟨λi d e=>?_,λi d e hn=>?_,by rw[MS,OW];exact g.len⟩
 .obtain⟨e1,e2⟩:=key i _ e;obtain⟨v,q,r⟩:=g.sh i d e1;exact⟨v,by rw[OL _ _ e2];exact q,r⟩
 .obtain⟨e1,e2⟩:=key i _ e;obtain⟨a,xs,ds,q,r⟩:=g.ow i d e1 hn;exact⟨a,xs,ds,by rw[OL _ _ e2];exact q,r⟩
end
def GG(K:Fg)(CL:ClA)(ts:Ac Af)(as:D->Rho->R Rho)(g:TG):Prop:=∀ A U Y H v d U' Q,Good K CL A (Fh ts U) Y H->Rep K CL H A v d->as d U=.ok U'->(∀ Y',Good K CL A U' Y' H->Good K CL A (Fh ts U) Y' H->Q Y' H)->g v Y H Q
theorem lH(i:Af):GG K CL [i] (λd U=>.ok (U.set i (Aa (d,Ad)))) (EG i):=λA U Y H v d U' Q g r e k=>by
 cases e;have g2:=g.put i r;have e1:(Fh [i] U).set i (Aa (d,Ad))=U.set i (Aa (d,Ad)):=by
  show (U.set i Ae).set i (Aa (d,Ad))=_;rw[JC]
 rw[e1]at g2;refine k _ g2 ?_;have:=g2.hide [i];have e2:Fh [i] (U.set i (Aa (d,Ad)))=Fh [i] U:=by
  show (U.set i _).set i Ae=U.set i Ae;rw[JC]
 rw[e2]at this;exact this
theorem TY{K:Fg}{CL:ClA}{A:Ak->Prop}{H:Hp}:∀(ts:Ac Af)(ds:Ac D)(vs:Ac V)(U U':Rho)(Y:L2.St)(Q:L2.St->Hp->Prop),Good K CL A U Y H->Reps K CL H A vs ds->Fe ts ds U=Aa U'->(∀ Y',Good K CL A U' Y' H->Q Y' H)->(ts.foldr (λt u=>Jm (EG t) u) Jq) vs Y H Q
 |[],[],[],U,U',Y,Q,x,_,e,k=>by
  cases e;exact⟨rfl,k Y x⟩
 |t::ts,d::ds,v::vs,U,U',Y,Q,x,r,e,k=>⟨v,vs,rfl,TY ts ds vs _ U' _ Q (x.put t r.1) r.2 e k⟩
 |[],_::_,_,_,_,_,_,_,_,e,_=>by cases e
 |_::_,[],_,_,_,_,_,_,_,e,_=>by cases e
 |[],[],_::_,_,_,_,_,_,r,_,_=>r.elim
 |_::_,_::_,[],_,_,_,_,_,r,_,_=>r.elim
theorem qQ(ts:Ac Af):GG K CL ts (EF ts) (MG K ts.length (ts.foldr (λt u=>Jm (EG t) u) Jq)):=λA U Y H v d U' Q g r e k=>by
 cases d with
 |tup ds=>
  obtain⟨a,xs,rfl,na,sq,rs⟩:=r;rw[RD]at e;cases e2:Fe ts ds U with
  |none=>rw[e2]at e;cases e
  |some U2=>
   rw[e2]at e;cases e;have e3:Fe ts ds (Fh ts U)=Aa U':=by
    rw[<-e2];exact Rn ts ds _ _ (MS _ _) λj hj=>by rw[K9,AB hj]
   refine⟨a,xs,rfl,sq,by rw[rs.length];exact OH _ _ _ _ e2,TY ts ds xs _ U' Y Q g rs e3 λY' g'=>k Y' g' ?_⟩
   have:=g'.hide ts;rw[Rl ts ts ds U U' (λ_ h=>h) e2]at this
   exact this
 |_=>cases e
noncomputable abbrev W0:XW:=λ_ _=>AX
def STs(X:Cx)(CL:ClA)(ifs:Ac Am)(f:Rho->R Al):Prop:=∀ A,PTs X ifs (λY H Q=>AOk H A/\∃ U,Good X.K CL A U Y H/\CU W0 H (f U) Q)
theorem TU:STs X CL [] (λ_=>.ok Ab):=λA pI s Y H Q I ⟨hA,U,g,p⟩=>jJ pI s Y H Q I (p H (Ay.refl H))
theorem iQ{f:Rho->R Al}(h:SB X CL W0 c f):STs X CL [c] f:=λA pI s Y H Q I q=>jI (h A) pI s Y H Q I q
section
variable{X:Cx}{CL:ClA}{W:XW}{tg iter elt:Am}{ifs:Ac Am}{scope:BP}{pos:AF}{N':Ac Ag}{ts:Ac Af}{fi:Rho->R (Ac D)}{fc:Rho->R Al}{fe:Rho->R D}{as:D->Rho->R Rho}{g:TG}
theorem aL{g:D->R Al}{f:D->R D}{x:D}{xs ys:Ac D}(h:BK g f (x::xs)=.ok ys):(g x=.ok Ad/\BK g f xs=.ok ys)\/∃ y r,g x=.ok Ab/\f x=.ok y/\BK g f xs=.ok r/\ys=y::r:=by
 unfold BK at h;cases e:g x with
 |bad=>rw[e]at h;cases h
 |exn z=>rw[e]at h;cases h
 |ok b=>
  rw[e,R.bind_ok]at h;cases b with
  |false=>exact .inl ⟨rfl,h⟩
  |true=>
   rw[As rfl]at h;cases e2:f x with
   |bad=>rw[e2]at h;cases h
   |exn z=>rw[e2]at h;cases h
   |ok y=>
    rw[e2,R.bind_ok]at h;cases e3:BK g f xs with
    |bad=>rw[e3]at h;cases h
    |exn z=>rw[e3]at h;cases h
    |ok r=>
     rw[e3,R.bind_ok]at h;cases h;exact .inr ⟨y,r,rfl,rfl,rfl,rfl⟩
theorem Km{β:Type}{r:R α}{f:α->R β}{b:β}(h:r.bind f=.ok b):∃ a,r=.ok a/\f a=.ok b:=by
 cases r with
 |ok a=>exact⟨a,rfl,h⟩
 |exn x=>cases h
 |bad=>cases h
theorem Sq{We:XW}{ds ys:Ac D}(hGG:GG K CL ts as g)(hA:AOk H1 A)(gd:Good K CL A U Y H1)(yl:Jt K CL A ds J H1)(hz:ds.length<=sizeLine)(hcp:BK (λx=>(as x U).bind fc) (λx=>(as x U).bind fe) ds=.ok ys)(q:∀ xs H2,Ay H1 H2->Reps K CL H2 A xs ys->∀ p,H2 p=Ae->Q (.ref p) (upd H2 p (.lst xs))):JO J ts g (λY H Q=>AOk H A/\∃ U,Good K CL A U Y H/\CU W0 H (fc U) Q) (λY H Q=>AOk H A/\∃ U,Good K CL A U Y H/\AV (λH=>Rep K CL H A) We H (fe U) Q) Y H1 Q:=by
 refine⟨λi m xs Y' H'=>m=ds.length-i/\i<=ds.length/\xs.length<=i/\Ay H1 H'/\Good K CL A (Fh ts U) Y' H'/\∃ outs rest,Reps K CL H' A xs outs/\BK (λx=>(as x U).bind fc) (λx=>(as x U).bind fe) (ds.drop i)=.ok rest/\ys=outs++rest,
  ⟨ds.length,by simp,Cv _,AK _,Ay.refl _,gd.hideT ts,[],ys,trivial,hcp,rfl⟩,?_⟩
 rintro i m xs Y' H' ⟨rfl,hi,hxl,sm,g',outs,rest,rs,hc,e⟩;obtain⟨yst,ygo⟩:=yl H' (Kp.of sm) i;by_cases hlt:i<ds.length
 .have hd:ds[i]?=Aa ds[i]:=AE hlt;obtain⟨hgo,hyl⟩:=ygo _ hd;refine .inr ⟨hgo,by omega,λx H2 hx=>?_⟩
  obtain⟨s2,rx⟩:=hyl x H2 hx;have rx':=rx A (λa ha=>.inl ha) (hA.same sm)
  rw[BR hlt]at hc;have sm2:=sm.trans s2;rcases aL hc with ⟨h1,h2⟩|⟨y,r,h1,h2,h3,h4⟩
  .obtain⟨U',ea,ec⟩:=Km h1;refine hGG A U Y' H2 x ds[i] U' _ (g'.same s2) rx' ea λY3 g3 g4=>⟨hA.same sm2,U',g3,?_⟩
   rw[ec];exact λH3 s3=>by
    dsimp only;rw[AB (by decide)]
    exact⟨ds.length-(i+1),by omega,rfl,hlt,by omega,sm2.trans s3,g4.same s3,outs,rest,(rs.same s2).same s3,h2,e⟩
  .obtain⟨U',ea,ec⟩:=Km h1;obtain⟨U2,ea2,ee⟩:=Km h2;rw[ea]at ea2;cases ea2;refine hGG A U Y' H2 x ds[i] U' _ (g'.same s2) rx' ea λY3 g3 g4=>⟨hA.same sm2,U',g3,?_⟩
   rw[ec];exact λH3 s3=>by
    dsimp only;rw[As rfl];refine⟨(hA.same sm2).same s3,U',g3.same s3,?_⟩;rw[ee];exact λv H4 s4 r4=>⟨ds.length-(i+1),by omega,rfl,hlt,by rw[Bj,DT];omega,(sm2.trans s3).trans s4,(g4.same s3).same s4,outs++[y],r,(((rs.same s2).same s3).same s4).append ⟨r4,trivial⟩,h3,by rw[e,h4];simp⟩
 .have hk':ds.length<=i:=by omega
  rw[EA hk']at hc;have hr:rest=[]:=by cases hc;rfl
  subst hr;rw[Bg]at e;subst e;exact .inl ⟨yst hk',λp hp=>q xs H' sm rs p hp⟩
theorem Fi.ok_of{r:R (Ac D)}{f:Ac D->R D}{Q':It->Hp->Prop}(h:AV Rq W H (r.bind f) Q)(k:∀ ds J H',r=.ok ds->Ay H H'->Jt K CL A ds J H'->ds.length<=sizeLine->AV Rq W H' (f ds) Q->Q' J H'):Fi K CL A W H r Q':=by
 cases r with
 |ok d=>exact λJ H2 s2 y z=>k d J H2 rfl s2 y z (AV.same s2 h)
 |exn x=>exact h
 |bad=>exact h
theorem rC{r:R α}{a:α}(h:noX r=.ok a):r=.ok a:=by
 cases r with
 |ok b=>exact h
 |exn x=>cases h
 |bad=>cases h
theorem Sk(hGG:GG X.K CL ts as g)(hA:AOk H A)(gd:Good X.K CL A U Y H)(p:AV (DK X.K CL Ab H A) W H ((fi U).bind λxs=>(noX (BK (λx=>(as x U).bind fc) (λx=>(as x U).bind fe) xs)).bind λys=>.ok (.lst ys)) Q):Fi X.K CL A W H (fi U) (λJ H1=>JO J ts g (λY H Q=>AOk H A/\∃ U,Good X.K CL A U Y H/\CU W0 H (fc U) Q) (λY H Q=>AOk H A/\∃ U,Good X.K CL A U Y H/\AV (λH=>Rep X.K CL H A) W0 H (fe U) Q) Y H1 Q):=
 Fi.ok_of p λds J H1 e1 s1 yl hz p1=>by
  cases e2:noX (BK (λx=>(as x U).bind fc) (λx=>(as x U).bind fe) ds) with
  |ok ys=>
   rw[e2]at p1;exact Sq hGG (hA.same s1) (gd.same s1) yl hz (rC e2) λxs H2 s2 rs q hq=>p1 _ _ (s2.trans (En hq _)) (Jd (s1.trans s2) ((hA.same s1).same s2) hq rs)
  |exn x=>rw[e2]at p1;cases hq:BK (λx=>(as x U).bind fc) (λx=>(as x U).bind fe) ds<;>rw[hq]at e2<;>cases e2
  |bad=>rw[e2]at p1;exact p1.elim
theorem kO(hc:X.calm=Ab)(B:BlockOk X scope N' ts)(hi:SI X CL W tg iter fi)(hGG:GG X.K CL ts as g)(hg:∀ cl C s H fp,PG (cxC X scope cl C N' s H fp) tg g)(ht:∀ cl C s H fp,STs (cxC X scope cl C N' s H fp) CL ifs fc)(he:∀ cl C s H fp,SE (cxC X scope cl C N' s H fp) CL W0 elt fe)(hs:∀ x,BQ iter X.env x=pure x):SC X CL W Ab (.ListComp elt [⟨tg,iter,ifs,0⟩] scope pos) (λU=>(fi U).bind λxs=>(noX (BK (λx=>(as x U).bind fc) (λx=>(as x U).bind fe) xs)).bind λys=>.ok (.lst ys)):=λA pI s Y H Q I ⟨hA,U,gd,p⟩=>
 jS hc B (hi A) hg (λcl C s H fp=>ht cl C s H fp A) (λcl C s H fp=>he cl C s H fp A) hs pI s Y H Q I ⟨hA,U,gd,Sk hGG hA gd p⟩
end
section
variable{K:Fg}{CL:ClA}{Fz:Fr}{B:Ak->Prop}{U:Rho}{Y:L2.St}{H H':Hp}
theorem Sx.setF(x:Sx K CL Fz B U Y H)(s:Ay H H'){ds:Ac D}(h0:H a=Ae)(h1:H' a=Aa (.lst xs))(r:Reps K CL H' (λb=>Bf B U Y b\/b=a) xs ds):Sx K CL Fz B (U.set i (Aa (.lst ds,Ab))) (Y.set i (Aa (.ref a))) H':=by
 have nA:¬ Bf B U Y a:=x.aok.new h0;have own:∀(j:Af)(e:D),(U.set i (Aa (.lst ds,Ab)))[j]?=Aa (Aa (e,Ab))->(i=j/\e=.lst ds)\/(i≠j/\U[j]?=Aa (Aa (e,Ab))):=λj e h=>by
  by_cases hj:i=j
  .subst hj;have:=Ff h;cases this;exact .inl ⟨rfl,rfl⟩
  .exact .inr ⟨hj,by rw[BA hj]at h;exact h⟩
 have atI:∀{j:Af}{y:Sl},(U.set i (Aa (.lst ds,Ab)))[j]?=Aa y->i=j->(Y.set i (Aa (.ref a)))[j]?=Aa (Aa (.ref a)):=λ{j y} h e=>by
  subst e;have hl:i<Y.length:=by
   rw[<-x.len];have:=(A2.mp h).1;simpa using this
  rw[BV hl]
 have sub:∀ b,Bf B (U.set i (Aa (.lst ds,Ab))) (Y.set i (Aa (.ref a))) b->Bf B U Y b\/b=a:=λb h=>by
  rcases h with h|⟨j,e,h1,h2⟩
  .exact .inl (.inl h)
  .rcases own j e h1 with ⟨hj,_⟩|⟨hj,h1'⟩
   .rw[atI h1 hj]at h2;cases h2;exact .inr rfl
   .rw[BA hj]at h2;exact .inl (.inr ⟨j,e,h1',h2⟩)
 have wide:∀{v:V}{d:D},Rep K CL H (Bf B U Y) v d->Rep K CL H' (Bf B (U.set i (Aa (.lst ds,Ab))) (Y.set i (Aa (.ref a)))) v d:=λr=>(Rep.wide (λb hb=>(sub b hb).imp id λe=>by rw[e];exact h0) _ r).same s
 have wides:∀{v:Ac V}{d:Ac D},Reps K CL H (Bf B U Y) v d->Reps K CL H' (Bf B (U.set i (Aa (.lst ds,Ab))) (Y.set i (Aa (.ref a)))) v d:=λr=>(Reps.wide (λb hb=>(sub b hb).imp id λe=>by rw[e];exact h0) _ r).same s
 refine⟨⟨λj e h=>?_,λj e h hn=>?_,by rw[AR,AR];exact x.len⟩,λb h=>?_,λj e b g1 g2=>?_,λj k e f b g1 g2 g3 g4=>?_,λb o z=>s _ _ (x.same b o z),by rw[AR,AR];exact x.len,λj h=>?_⟩
 .have hj:i≠j:=by
   rintro rfl;have:=Ff h;cases this
  rw[BA hj]at h;obtain⟨w',q,rw'⟩:=x.good.sh j e h;exact⟨w',by rw[BA hj];exact q,wide rw'⟩
 .rcases own j e h with ⟨hj,rfl⟩|⟨hj,h'⟩
  .have q:=atI h hj;exact⟨a,xs,ds,q,rfl,.inr ⟨j,_,h,q⟩,h1,Reps.sub sub _ r⟩
  .obtain⟨b,ys,es,q,z,ha,hh,rr⟩:=x.good.ow j e h' hn;have q':(Y.set i (Aa (.ref a)))[j]?=Aa (Aa (.ref b)):=by rw[BA hj];exact q
   exact⟨b,ys,es,q',z,.inr ⟨j,e,h,q'⟩,s _ _ hh,wides rr⟩
 .rcases sub b h with z|z
  .obtain⟨ys,q⟩:=x.aok b z;exact⟨ys,s _ _ q⟩
  .rw[z];exact⟨xs,h1⟩
 .rcases own j e g1 with ⟨hj,_⟩|⟨hj,h'⟩
  .rw[atI g1 hj]at g2;cases g2;refine⟨λo z=>?_,λz=>nA (.inl z)⟩
   have:=x.same a o z;rw[h0]at this;cases this
  .rw[BA hj]at g2;exact x.new j e b h' g2
 .rcases own j e g1 with ⟨hj,_⟩|⟨hj,h'⟩
  .rw[atI g1 hj]at g3;cases g3;rcases own k f g2 with ⟨hk,_⟩|⟨hk,h''⟩
   .exact hj.symm.trans hk
   .rw[BA hk]at g4;exact absurd (.inr ⟨k,f,h'',g4⟩) nA
  .rw[BA hj]at g3;rcases own k f g2 with ⟨hk,_⟩|⟨hk,h''⟩
   .rw[atI g2 hk]at g4;cases g4;exact absurd (.inr ⟨j,e,h',g3⟩) nA
   .rw[BA hk]at g4;exact x.dis j k e f b h' h'' g3 g4
 .rcases own j _ h with ⟨_,z⟩|⟨hj,h'⟩
  .cases z
  .obtain⟨b,ys,p1,p2,p3⟩:=x.pin j h';exact⟨b,ys,p1,by rw[BA hj];exact p2,s _ _ p3⟩
theorem Sx.upd(x:Sx K CL Fz B U Y H){i:Af}{d:D}{a:Ak}{xs:Ac V}{ds:Ac D}(hi:U[i]?=Aa (Aa (d,Ab)))(ha:Y[i]?=Aa (Aa (.ref a)))(r:Reps K CL H (Bf B U Y) xs ds):Sx K CL Fz B (U.set i (Aa (.lst ds,Ab))) Y (L2.upd H a (.lst xs)):=by
 have oa:Bf B U Y a:=.inr ⟨i,d,hi,ha⟩;have hil:i<U.length:=(A2.mp hi).1;have get:∀(j:Af)(e:D),(U.set i (Aa (.lst ds,Ab)))[j]?=Aa (Aa (e,Ab))↔(i=j/\e=.lst ds)\/(i≠j/\U[j]?=Aa (Aa (e,Ab))):=λj e=>by
  by_cases hj:i=j
  .subst hj;rw[BV hil];simp;exact⟨λz=>z.symm,λz=>z.symm⟩
  .rw[BA hj];simp[hj]
 have same:∀ b,Bf B (U.set i (Aa (.lst ds,Ab))) Y b↔Bf B U Y b:=λb=>by
  constructor
  .rintro (h|⟨j,e,h1,h2⟩)
   .exact .inl h
   .rcases (get j e).mp h1 with ⟨rfl,_⟩|⟨_,h1⟩
    .exact .inr ⟨i,d,hi,h2⟩
    .exact .inr ⟨j,e,h1,h2⟩
  .rintro (h|⟨j,e,h1,h2⟩)
   .exact .inl h
   .by_cases hj:i=j
    .subst hj;exact .inr ⟨i,.lst ds,(get i _).mpr (.inl ⟨rfl,rfl⟩),h2⟩
    .exact .inr ⟨j,e,(get j e).mpr (.inr ⟨hj,h1⟩),h2⟩
 have kp:Kp (Bf B U Y) H (L2.upd H a (.lst xs)):=λb o e na=>by
  have hne:b≠a:=by
   rintro rfl;exact na oa
  rw[Bb hne];exact e
 refine⟨⟨λj e h=>?_,λj e h hn=>?_,by rw[AR];exact x.len⟩,λb h=>?_,λj e b g1 g2=>?_,λj k e f b g1 g2 g3 g4=>?_,λb o z=>?_,by rw[AR];exact x.len,λj h=>?_⟩
 .have hj:i≠j:=by
   rintro rfl;have:=Ff h;cases this
  rw[BA hj]at h;obtain⟨w',q,rw'⟩:=x.good.sh j e h;exact⟨w',q,Rep.sub (λb hb=>(same b).mp hb) _ (Rep.kp kp _ rw')⟩
 .rcases (get j e).mp h with ⟨rfl,rfl⟩|⟨hj,h'⟩
  .exact⟨a,xs,ds,ha,rfl,(same a).mpr oa,Db,Reps.sub (λb hb=>(same b).mp hb) _ (Reps.kp kp _ r)⟩
  .obtain⟨b,ys,es,q,z,hb,hh,rr⟩:=x.good.ow j e h' hn;have hne:b≠a:=λz=>hj (x.dis i j d e a hi h' ha (z ▸ q))
   exact⟨b,ys,es,q,z,(same b).mpr hb,by rw[Bb hne];exact hh,Reps.sub (λb hb=>(same b).mp hb) _ (Reps.kp kp _ rr)⟩
 .obtain⟨ys,q⟩:=x.aok b ((same b).mp h);by_cases e:b=a
  .rw[e];exact⟨xs,Db⟩
  .exact⟨ys,by rw[Bb e];exact q⟩
 .rcases (get j e).mp g1 with ⟨rfl,_⟩|⟨_,h'⟩
  .exact x.new i d b hi g2
  .exact x.new j e b h' g2
 .rcases (get j e).mp g1 with ⟨rfl,_⟩|⟨hj,h'⟩
  .rcases (get k f).mp g2 with ⟨rfl,_⟩|⟨hk,h''⟩
   .rfl
   .exact x.dis i k d f b hi h'' g3 g4
  .rcases (get k f).mp g2 with ⟨rfl,_⟩|⟨hk,h''⟩
   .exact x.dis j i e d b h' hi g3 g4
   .exact x.dis j k e f b h' h'' g3 g4
 .have hne:b≠a:=λe=>(x.new i d a hi ha).1 o (e ▸ z)
  rw[Bb hne];exact x.same b o z
 .rcases (get j _).mp h with ⟨_,z⟩|⟨hj,h'⟩
  .cases z
  .obtain⟨b,ys,p1,p2,p3⟩:=x.pin j h';have hne:b≠a:=λz=>hj (x.dis i j d _ a hi h' ha (z ▸ p2))
   exact⟨b,ys,p1,p2,by rw[Bb hne];exact p3⟩
theorem Sx.rel(x:Sx K CL Fz B U Y H)(hi:U[i]?=Aa (Aa (d,Ab)))(hn:d≠.non):Sx K CL Fz B (U.set i (Aa (d,Ad))) Y H:=by
 obtain⟨a,xs,ds,q,rfl,oa,hh,rr⟩:=x.good.ow i d hi hn;have own:∀(j:Af)(e:D),(U.set i (Aa (.lst ds,Ad)))[j]?=Aa (Aa (e,Ab))->i≠j/\U[j]?=Aa (Aa (e,Ab)):=λj e h=>by
  by_cases hj:i=j
  .subst hj;have:=Ff h;cases this
  .exact⟨hj,by rw[BA hj]at h;exact h⟩
 have sub:∀ b,Bf B (U.set i (Aa (.lst ds,Ad))) Y b->Bf B U Y b:=λb h=>by
  rcases h with h|⟨j,e,h1,h2⟩
  .exact .inl h
  .exact .inr ⟨j,e,(own j e h1).2,h2⟩
 have na:¬ Bf B (U.set i (Aa (.lst ds,Ad))) Y a:=λh=>by
  rcases h with h|⟨j,e,h1,h2⟩
  .exact(x.new i _ a hi q).2 h
  .obtain⟨hj,h1⟩:=own j e h1;exact hj (x.dis i j _ e a hi h1 q h2)
 refine⟨⟨λj e h=>?_,λj e h hn=>?_,by rw[AR];exact x.len⟩,λb h=>x.aok b (sub b h),λj e b g1 g2=>x.new j e b (own j e g1).2 g2,λj k e f b g1 g2 g3 g4=>x.dis j k e f b (own j e g1).2 (own k f g2).2 g3 g4,x.same,by rw[AR];exact x.len,λj h=>x.pin j (own j _ h).2⟩
 .by_cases hj:i=j
  .subst hj;have e1:=Ff h;cases e1;exact⟨_,q,a,xs,rfl,.inl na,SqL.of hh,Reps.sub sub _ rr⟩
  .rw[BA hj]at h;obtain⟨w',q',rw'⟩:=x.good.sh j e h;exact⟨w',q',Rep.sub sub _ rw'⟩
 .obtain⟨hj,h'⟩:=own j e h;obtain⟨b,ys,es,q',z,hb,hh',rr'⟩:=x.good.ow j e h' hn;exact⟨b,ys,es,q',z,.inr ⟨j,e,h,q'⟩,hh',Reps.sub sub _ rr'⟩
end
section
variable{X:Cx}{CL:ClA}{W:XW}{pos:AF}{e:Am}{fe:Rho->R D}{fr:Al}
theorem Bv.exC{f:D->O}(x:Sx X.K CL Fz B U Y H)(h:Bv X.K CL Fz B W (O.of U r f) D')(k:∀ d v H',r=.ok d->Ay H H'->DK X.K CL fr H A H' v d->Sx X.K CL Fz B U Y H'->Bv X.K CL Fz B W (f d) D'->Q v H'):AV (DK X.K CL fr H A) W H r Q:=by
 cases r with
 |ok d=>exact λv H' s r=>k d v H' rfl s r (x.grow s) h
 |exn y=>exact λH' s=>h H' λb o z=>s _ _ (x.same b o z)
 |bad=>exact h
def SAs(X:Cx)(CL:ClA)(W:XW)(fr:Al)(i:Af)(st:AM)(f:Rho->R D):Prop:=∀ A,PS X st (KI (λY H Q=>AOk H A/\∃ U,Good X.K CL A U Y H/\AV (DK X.K CL fr H A) W H (f U) Q) (EG i))
theorem SC.sas{n:Ag}(hN:X.N.Nodup)(hi:X.N[i]?=Aa n)(hx:Loc X.env.scope n)(he:SC X CL W fr e fe)(hs:Cn e (Aa (.Name n pos')) pos.line X.env=pure Ad)(hf:X.fn n=Ab\/X.env.scope.names.lookup n=Aa .local):SAs X CL W fr i (.Assign [.Name n pos'] e pos) fe:=
 λA=>Ml hN hi hx (he A) hs hf
theorem dB{n:Ag}{fe:Rho->R D}{g:TG}(hc:X.calm=Ab)(B:BlockOk X scope N' ts)(hi:SI X CL W tg iter fi)(hGG:GG X.K CL ts as g)(hg:∀ cl C s H fp,PG (cxC X scope cl C N' s H fp) tg g)(ht:∀ cl C s H fp,STs (cxC X scope cl C N' s H fp) CL ifs fc)(he:∀ cl C s H fp,SE (cxC X scope cl C N' s H fp) CL W0 elt fe)(hs:∀ x,BQ iter X.env x=pure x)(hN:X.N.Nodup)(hni:X.N[i]?=Aa n)(hx:X.env.scope.names.lookup n=Aa .local)(hsw:Cn (.ListComp elt [⟨tg,iter,ifs,0⟩] scope pos) (Aa (.Name n pos')) pos2.line X.env=pure Ab):SAs X CL W Ab i (.Assign [.Name n pos'] (.ListComp elt [⟨tg,iter,ifs,0⟩] scope pos) pos2) (λU=>(fi U).bind λxs=>(noX (BK (λx=>(as x U).bind fc) (λx=>(as x U).bind fe) xs)).bind λys=>.ok (.lst ys)):=λA pI s Y H Dn I ⟨hA,U,gd,p⟩=>
 jM hc B (hi A) hg (λcl C s H fp=>ht cl C s H fp A) (λcl C s H fp=>he cl C s H fp A) hs hN hni hx hsw pI s Y H Dn I ⟨hA,U,gd,Sk hGG hA gd p⟩
theorem Vb{st:AM}(h:SAs X CL W fr i st fe):SS X CL W st (λU=>O.of U (fe U) λd=>.next (U.set i (Aa (d,Ad)))):=λFz B pI s Y H D I ⟨U,x,p⟩=>
 h (Bf B U Y) pI s Y H D I ⟨x.aok,U,x.good,Bv.exC x p λd v H' _ s r x' q=>q _ H' (x'.set i r.1)⟩
theorem Tx{st:AM}(h:SAs X CL W Ab i st fe):SS X CL W st (λU=>O.of U (fe U) λd=>setF U i d):=λFz B pI s Y H D I ⟨U,x,p⟩=>
 h (Bf B U Y) pI s Y H D I ⟨x.aok,U,x.good,Bv.exC x p λd v H' _ s r x' q=>by
  cases d with
  |lst ds=>
   obtain⟨a,xs,rfl,h0,h1,rs⟩:=r.2 rfl ds rfl;exact q _ H' (x.setF s h0 h1 rs)
  |dic ds=>exact r.1.elim
  | _=>exact q.elim⟩
theorem TW(he:SC X CL W Ab e fe):SS X CL W (.Return (Aa e) pos) (λU=>O.of U (fe U) λd=>.ret d Ab):=λFz B pI s Y H D I ⟨U,x,p⟩=>
 P3 (he (Bf B U Y)) pI s Y H D I ⟨x.aok,U,x.good,Bv.exC x p λd v H' _ s r x' q=>q v H' x'.same (Rep.sub (λa h=>.inl h) _ r.1) λ_ ds e=>by
  obtain⟨a,xs,h0,h1,h2,h3⟩:=r.2 rfl ds e;refine⟨a,xs,h0,λo z=>?_,h2,Reps.sub (λb hb=>hb.imp .inl id) _ h3⟩
  have:=x.same a o z;rw[h1]at this;cases this⟩
noncomputable def QT(U:Rho)(i:Af):Al:=match U[i]? with
  |some (Aa (_,o))=>o
  |_=>Ad
theorem gS(he:PE X e (Ej i)):SS X CL W (.Return (Aa e) pos) (λU=>O.of U (Eb U i) λd=>.ret d (QT U i)):=λFz B pI s Y H D I ⟨U,x,p⟩=>
 P3 he pI s Y H D I (by
  dsimp only at p;cases e:Eb U i with
  |bad=>rw[e]at p;exact p.elim
  |exn z=>exact(L3 e).elim
  |ok d=>
   rw[e]at p;obtain⟨o,e,hn⟩:=TK e;have eo:QT U i=o:=by unfold QT;rw[e]
   rw[O.of_ok,eo]at p;cases o with
   |false=>
    obtain⟨v,q,r⟩:=x.good.sh i d e;exact⟨v,q,p v H x.same (Rep.sub (λa h=>.inl h) _ r) λz=>nomatch z⟩
   |true=>
    obtain⟨a,xs,ds,q,rfl,ha,hh,r⟩:=x.good.ow i d e (hn rfl);obtain⟨n1,n2⟩:=x.new i _ a e q;refine⟨_,q,p _ H x.same ⟨a,xs,rfl,.inl n2,SqL.of hh,Reps.sub (λa h=>.inl h) _ r⟩ λ_ ds' e'=>?_⟩
    cases e';exact⟨a,xs,rfl,n1,hh,Reps.sub (λb hb=>hb.elim .inl λz=>z ▸ ha) _ r⟩)
theorem Nc{ds:Ac D}(h:Ck U i=.ok ds):U[i]?=Aa (Aa (.lst ds,Ab)):=by
 unfold Ck at h;split at h
 .rename_i e;cases h;exact e
 .cases h
theorem M2{x:Ex}(h:Ck U i=.exn x):AX:=by
 unfold Ck at h;split at h<;>cases h
variable{o:Am}{i:Af}{apos cpos:AF}
theorem nF(ho:PE X o (Ej i))(he:SE X CL W e fe)(hbase:BO o "append" X.env (eval o X.env)=eval o X.env)(hfew:((Bo cpos (Aq [e] X.env)).all (λx=>!x.1)&&(FA cpos (Ec [] X.env)).all (λx=>x.1.isSome)&&decide ([e].length+([]:Ac C4).length+(if ([]:Ac C4).isEmpty then 0 else 1)<30))=Ab)(hline:(apos.endLine==cpos.line)=Ab)(hs:Aq [e] X.env=[(Ad,eval e X.env)])(hsw:Cn (.Call (.Attribute o "append" apos) [e] [] cpos) Ae pos.line X.env=pure Ad):
  SS X CL W (.Expr (.Call (.Attribute o "append" apos) [e] [] cpos) pos) (λU=>O.of U (Ck U i) λxs=>O.of U (fe U) λd=>if BG (xs.length+1)=Ab then .next (U.set i (Aa (.lst (xs++[d]),Ab))) else .bad):=λFz B pI s Y H D I ⟨U,x,p⟩=>by
 refine Ir (Lu DB PySem.F.slot_list_append PySem.F.type_list_append cJ ho (DJ (he (Bf B U Y)) ET hs) hbase hfew hline hs rfl) hsw pI s Y H D I ?_;dsimp only at p;cases e1:Ck U i with
 |bad=>rw[e1]at p;exact p.elim
 |exn z=>exact(M2 e1).elim
 |ok ds=>
  rw[e1,O.of_ok]at p;have hi:=Nc e1;obtain⟨a,xs,ds',q,e2,ha,hh,r⟩:=x.good.ow i _ hi (λz=>nomatch z)
  cases e2;refine⟨_,q,.inl ⟨rfl,xs,SqL.of hh⟩,x.aok,U,x.good,Bv.ex x p λd v H' _ s rv x' q'=>?_⟩
  split at q'
  .rename_i hz;refine⟨a,xs,v,rfl,rfl,s _ _ hh,?_,q' _ _ (x'.upd hi q ((r.same s).append ⟨rv,trivial⟩))⟩;have:=IZ hz;rw[r.length];omega
  .exact q'.elim
theorem nE(ho:PE X o (Ej i))(he:SC X CL W Ab e fe)(hbase:BO o "extend" X.env (eval o X.env)=eval o X.env)(hfew:((Bo cpos (Aq [e] X.env)).all (λx=>!x.1)&&(FA cpos (Ec [] X.env)).all (λx=>x.1.isSome)&&decide ([e].length+([]:Ac C4).length+(if ([]:Ac C4).isEmpty then 0 else 1)<30))=Ab)(hline:(apos.endLine==cpos.line)=Ab)(hs:Aq [e] X.env=[(Ad,eval e X.env)])(hsw:Cn (.Call (.Attribute o "extend" apos) [e] [] cpos) Ae pos.line X.env=pure Ad):
  SS X CL W (.Expr (.Call (.Attribute o "extend" apos) [e] [] cpos) pos) (λU=>O.of U (Ck U i) λxs=>O.of U (fe U) λd=>O.of U (J7 d) λys=>if BG (xs.length+ys.length)=Ab then .next (U.set i (Aa (.lst (xs++ys),Ab))) else .bad):=λFz B pI s Y H D I ⟨U,x,p⟩=>by
 refine Ir (Lu DB EO YC cH ho (DJ (he (Bf B U Y)) ET hs) hbase hfew hline hs rfl) hsw pI s Y H D I ?_;dsimp only at p;cases e1:Ck U i with
 |bad=>rw[e1]at p;exact p.elim
 |exn z=>exact(M2 e1).elim
 |ok ds=>
  rw[e1,O.of_ok]at p;have hi:=Nc e1;obtain⟨a,xs,ds',q,e2,ha,hh,r⟩:=x.good.ow i _ hi (λz=>nomatch z)
  cases e2;refine⟨_,q,.inl ⟨rfl,xs,SqL.of hh⟩,x.aok,U,x.good,Bv.exC x p λd v H' _ s rv x' q'=>?_⟩
  cases d with
  |lst es=>
   obtain⟨b,ys,rfl,h0,h1,rs⟩:=rv.2 rfl es rfl;rw[SD,O.of_ok]at q';split at q'
   .rename_i hz;refine⟨a,b,xs,ys,rfl,rfl,s _ _ hh,h1,?_,q' _ _ (x'.upd hi q ((r.same s).append (Reps.sub (λc hc=>.inl hc) _ rs)))⟩
    rw[r.length,rs.length];exact IZ hz
   .exact q'.elim
  |_=>exact q'.elim
theorem gR{rest:Ac AM}{f:Rho->O}(i:Af)(h:SSs X CL W rest f):SSs X CL W rest (λU=>(match U[i]? with
   |some (Aa (d,Ab))=>QS U i d
   | _=>O.next U).seq f):=λFz B=>PSs.weak (h Fz B) λD Y H ⟨U,x,p⟩=>by
 dsimp only at p;split at p
 .rename_i d e;cases d with
  |lst xs=>exact⟨_,x.rel e (λz=>nomatch z),p⟩
  |_=>exact p.elim
 .exact⟨U,x,p⟩
end
section
variable{X:Cx}{CL:ClA}{W:XW}{pos:AF}{e k o:Am}{fe fk:Rho->R D}{i:Af}{apos cpos:AF}
theorem AZ.take(r:AZ xs its):∀ n,AZ (xs.take n) (its.take n):=by
 induction r with
 |nil=>intro n;simp;exact .nil
 |cons h _ ih=>
  intro n;cases n with
  |zero=>exact .nil
  |succ n=>exact .cons h (ih n)
theorem AZ.drop(r:AZ xs its):∀ n,AZ (xs.drop n) (its.drop n):=by
 induction r with
 |nil=>intro n;simp;exact .nil
 |cons h t ih=>
  intro n;cases n with
  |zero=>exact .cons h t
  |succ n=>exact ih n
end
section
variable{prog:AO}{w:A1}{A:AW}{E:Vq}{s:Ap}
theorem rA{j t:Ak}{its:A9 Aj}{x:Aj}{Q:Vq}(st:s.heap.IsTupleIter j t k)(sq:s.heap.IsTuple t its)(at_:its[k]?=Aa x)(go:∀ h2,h2.IsTupleIter j t (k+1)->EQ j s.heap h2->Q x {s with heap:=h2}):At (model prog w) A (BC (.ref j)) Q E s:=by
 obtain⟨oj,gj,cj,dj⟩:=id st;obtain⟨ot,gt,_,nt,dt⟩:=sq;show At _ _ (JK _ _ >>= _) _ _ _;refine An (DC st.typeIs DX (Eh DX st.typeIs Yv ?_ (Yq _)));show At _ _ (field (.ref j) 0 >>= _) _ _ _;refine An (Bt gj dj (x:=.ref t) rfl ?_);show At _ _ (field (.ref j) 1 >>= _) _ _ _;refine An (Bt gj dj (x:=.int k 0) rfl ?_);refine An (DI gt dt ?_);simp only[WT,at_];exact An (Ee gj dj (by simp) (AH ⟨x,rfl,AH (go _ ⟨_,Cr _ gj (Dg (Ca dj _)),(YI ..).trans cj,by rw[Ca dj];simp[DD]⟩ (YF ..))⟩))
theorem cE{j t:Ak}{its:A9 Aj}{Q:Vq}(calm:A.handled=Ae)(st:s.heap.IsTupleIter j t k)(sq:s.heap.IsTuple t its)(at_:its[k]?=Ae)(up:∀ h2 e,YD j s.heap h2->(∃ o,h2.get? e=Aa o/\o.cls=.type "StopIteration")->E (.ref e) {s with heap:=h2}):At (model prog w) A (BC (.ref j)) Q E s:=by
 obtain⟨oj,gj,cj,dj⟩:=id st;obtain⟨ot,gt,_,nt,dt⟩:=sq;show At _ _ (JK _ _ >>= _) _ _ _;refine An (DC st.typeIs DX (Eh DX st.typeIs Yv ?_ (Yq _)));show At _ _ (field (.ref j) 0 >>= _) _ _ _;refine An (Bt gj dj (x:=.ref t) rfl ?_);show At _ _ (field (.ref j) 1 >>= _) _ _ _;refine An (Bt gj dj (x:=.int k 0) rfl ?_);refine An (DI gt dt ?_);simp only[WT,at_];refine An (K5 (An (Ee gj dj (by simp) ?_)))
 refine An ?_;simp only[newExc,newTuple];refine An (CY ?_ (by size_fits))
 refine An (m:=Zi _ _) (G9 (a:=.none) (by first|rfl|(simp only[Zi];rfl)) (CY ?_ (by size_fits)))
 simp only[raiseNew];refine An (wpAny_handled ?_)
 first|rw[show A.in1.handled=Ae from calm]|rw[calm]
 exact An (AH (wpAny_throw (up _ _ (((YF ..).extBut.push _).push _) ⟨_,AN _ rfl,rfl⟩)))
end
structure Dw (prog:AO) (w:A1) (A:AW) (j:Ak) (fp:Ac Ak) (n:Af) (P:Af->Aj->Prop) (S:Af->AC->Prop):Prop where
 frame:∀ i h h2,S i h->(∀ c∈fp,∀ o,h.get? c=Aa o->h2.get? c=Aa o)->S i h2
 item:∀ i (s:Ap) (Q:Vq) (E:Vq),i<n->S i s.heap->(∀ x h2 tk,P i x->S (i+1) h2->EQ j s.heap h2->Q x {s with heap:=h2,toks:=tk})->At (model prog w) A (BC (.ref j)) Q E s
 done:∀ i (s:Ap) (Q:Vq) (E:Vq),n<=i->S i s.heap->(∀ h2 e,YD j s.heap h2->(∃ o,h2.get? e=Aa o/\o.cls=.type "StopIteration")->E (.ref e) {s with heap:=h2})->At (model prog w) A (BC (.ref j)) Q E s
def EJ(t:Al)(h:AC)(j l:Ak)(i:Af):Prop:=match t with
  |true=>h.IsTupleIter j l i
  |false=>h.IsListIter j l i
def Ep(t:Al)(h:AC)(l:Ak)(its:A9 Aj):Prop:=match t with
  |true=>h.IsTuple l its
  |false=>h.IsList l its
theorem Ly{A:AW}(calm:A.handled=Ae)(t:Al)(j l:Ak)(ne:l≠j)(its:A9 Aj):Dw prog w A j [j,l] its.size (λi v=>its[i]?=Aa v) (λi h=>EJ t h j l i/\Ep t h l its):=by
 cases t with
 |true=>exact⟨λ_ _ _ z k=>⟨z.1.at λo e=>k j (by simp) o e,z.2.at λo e=>k l (by simp) o e⟩,λi s Q E hi z q=>rA z.1 z.2 (x:=its[i]) (by simp[hi]) λh2 z2 sb=>q _ h2 s.toks (by simp[hi]) ⟨z2,z.2.extBut sb.extBut ne⟩ sb,λi s Q E hi z q=>cE calm z.1 z.2 (by simp[hi]) q⟩
 |false=>exact⟨λ_ _ _ z k=>⟨z.1.at λo e=>k j (by simp) o e,z.2.at λo e=>k l (by simp) o e⟩,λi s Q E hi z q=>wpAny_nextOf_list_item z.1 z.2 (x:=its[i]) (by simp[hi]) λh2 z2 sb=>q _ h2 s.toks (by simp[hi]) ⟨z2,z.2.extBut sb.extBut ne⟩ sb,λi s Q E hi z q=>wpAny_nextOf_list_end calm z.1 z.2 (by simp[hi]) q⟩
theorem nb1{I l c:Af}(b:l<I)(h:c∈[I,l])(j:Af):c≠I+(j+1):=by
 have h':c=I\/c=l:=by simpa using h
 omega
theorem nb2{I l c:Af}(b:l<I)(h:c∈[I+1,l]):c≠I/\c≠I+3/\c≠I+4:=by
 have h':c=I+1\/c=l:=by simpa using h
 omega
theorem nij{I i j:Af}(h:i≠j):I+i≠I+j:=by omega
theorem ni0{I i:Af}(h:i≠0):I+i≠I:=by omega
section
variable{prog:AO}{w:A1}{A:AW}{E:Vq}{s:Ap}
theorem dL{I l1 l2 n1 n2 k:Af}{P1 P2:Af->Aj->Prop}{S1 S2:Af->AC->Prop}{a b:Aj}{Q:Vq}(b1:l1<I)(b2:l2<I)(D1:Dw prog w A I [I,l1] n1 P1 S1)(D2:Dw prog w A (I+1) [I+1,l2] n2 P2 S2)(hz:GB s.heap (I+4) (I+2) (I+3) .none)(hI:ER s.heap (I+2) (.ref I) (.ref (I+1)))(hO:ER s.heap (I+3) a b)(g1:S1 k s.heap)(g2:S2 k s.heap)(k1:k<n1)(k2:k<n2)(go:∀ x y h2 tk,P1 k x->P2 k y->GB h2 (I+4) (I+2) (I+3) (DD s.heap.objs.size)->ER h2 (I+3) x y->S1 (k+1) h2->S2 (k+1) h2->ER h2 s.heap.objs.size x y ->
   (∀ c o,c∉[I,I+1,I+3,I+4]->s.heap.get? c=Aa o->h2.get? c=Aa o)->Q (.ref s.heap.objs.size) {s with heap:=h2,toks:=tk}):At (model prog w) A (Builtin.«zip.__next__» ⟨[.ref (I+4)],[]⟩) (λfin s'=>∃ v,fin=.done (.ret v)/\Q v s') E s:=by
 refine An (m:=field (.ref (I+4)) 2) (Bt hz rfl (x:=.bool Ad) rfl ?_);refine An (m:=field (.ref (I+4)) 3) (Bt hz rfl (x:=.ref (I+2)) rfl (An (DI hI rfl ?_)));refine An (m:=CQ (.ref (I+4))) ?_;simp only[CQ];refine An (Bt hz rfl (x:=.none) rfl (AH ?_));rw[As rfl];refine An (K5 (An (Bt hz rfl (x:=.ref (I+3)) rfl (An (DR hz (by simp) λp1 z1 e1=>An ?_)))))
 have z1':GB p1 (I+4) (I+2) (I+3) .ellipsis:=z1;simp only[Xh,Xi,Ib,GV];refine An (An (F8 (An (m:=BC (.ref I)) (D1.item k _ _ _ k1 (D1.frame _ _ _ g1 λc hc o q=>e1.extBut c o (nb1 b1 hc 3) q) λx p2 t2 px s2 e2=>AH ?_))))
 have o2:ER p2 (I+3) a b:=e2.extBut _ _ (ni0 (by decide)) (e1.extBut _ _ (nij (by decide)) hO)
 refine An (DI o2 rfl (An (GF o2 λp3 o3 e3=>An (Kh (AH ?_)))))
 have o3':ER p3 (I+3) x b:=o3;have g2':S2 k p3:=D2.frame _ _ _ g2 λc hc o q=>e3.extBut c o (nb2 b2 hc).2.1 (e2.extBut c o (nb2 b2 hc).1 (e1.extBut c o (nb2 b2 hc).2.2 q))
 refine An (An (F8 (An (m:=BC (.ref (I+1))) (D2.item k _ _ _ k2 g2' λy p4 t4 py s4 e4=>AH ?_))))
 have o4:ER p4 (I+3) x b:=e4.extBut _ _ (nij (by decide)) o3'
 refine An (DI o4 rfl (An (GF o4 λp5 o5 e5=>An (Kh (AH (AH ?_))))))
 have o5':ER p5 (I+3) x y:=o5;have sz:p5.objs.size=s.heap.objs.size:=by rw[e5.1,e4.1,e3.1,e2.1,e1.1]
 have z5:GB p5 (I+4) (I+2) (I+3) .ellipsis:=e5.extBut _ _ (nij (by decide)) (e4.extBut _ _ (nij (by decide)) (e3.extBut _ _ (nij (by decide)) (e2.extBut _ _ (ni0 (by decide)) z1')))
 refine An (DI o5' rfl (An (Zu ?_)));refine An (m:=XI (.ref (I+4)) (.ref p5.objs.size)) ?_;simp only[XI];have z6:GB (p5.push { cls:=.type "tuple",data:=.seq #[x,y] }) (I+4) (I+2) (I+3) .ellipsis:=Ar _ z5;refine An (DR z6 (by simp) λp7 z7 e7=>?_)
 have z7':GB p7 (I+4) (I+2) (I+3) (DD p5.objs.size):=z7;refine DR z7' (by simp) λp8 z8 e8=>AH ⟨_,rfl,?_⟩
 have z8':GB p8 (I+4) (I+2) (I+3) (DD p5.objs.size):=z8;have lt5:I+4<p5.objs.size:=AL z5;have up:∀ c o,c≠I+4->p5.get? c=Aa o->p8.get? c=Aa o:=λc o nc q=>e8.extBut _ _ nc (e7.extBut _ _ nc (Ar _ q))
 have t8:ER p8 p5.objs.size x y:=e8.extBut _ _ (EM lt5) (e7.extBut _ _ (EM lt5) (AN _ rfl));have a1:S1 (k+1) p8:=D1.frame _ _ _ s2 λc hc o q=>up c o (nb1 b1 hc 3) (e5.extBut c o (nb1 b1 hc 2) (e4.extBut c o (nb1 b1 hc 0) (e3.extBut c o (nb1 b1 hc 2) q)))
 have a2:S2 (k+1) p8:=D2.frame _ _ _ s4 λc hc o q=>up c o (nb2 b2 hc).2.2 (e5.extBut c o (nb2 b2 hc).2.1 q)
 have kp:∀ c o,c∉[I,I+1,I+3,I+4]->s.heap.get? c=Aa o->p8.get? c=Aa o:=λc o nc q=>by
  simp only[AA,Bl,CO,EX]at nc;exact up c o nc.2.2.2 (e5.extBut c o nc.2.2.1 (e4.extBut c o nc.2.1 (e3.extBut c o nc.2.2.1 (e2.extBut c o nc.1 (e1.extBut c o nc.2.2.2 q)))))
 have q:=go x y p8 t4 px py (by rw[<-sz];exact z8') (up _ _ (nij (by decide)) o5') a1 a2 (by rw[<-sz];exact t8) kp
 rw[<-sz]at q;exact q
theorem iS{I l1 l2 n1 n2 k:Af}{P1 P2:Af->Aj->Prop}{S1 S2:Af->AC->Prop}{a b:Aj}{Q:Fin->Ap->Prop}(b1:l1<I)(b2:l2<I)(D1:Dw prog w A I [I,l1] n1 P1 S1)(D2:Dw prog w A (I+1) [I+1,l2] n2 P2 S2)(hz:GB s.heap (I+4) (I+2) (I+3) .none)(hI:ER s.heap (I+2) (.ref I) (.ref (I+1)))(hO:ER s.heap (I+3) a b)(g1:S1 k s.heap)(g2:S2 k s.heap)(hk:n1<=k\/(k<n1/\n2<=k))(up:∀ h2 e tk,(∀ c o,c∉[I,I+1,I+3,I+4]->s.heap.get? c=Aa o->h2.get? c=Aa o)->(∃ o,h2.get? e=Aa o/\o.cls=.type "StopIteration")->E (.ref e) {s with heap:=h2,toks:=tk}):At (model prog w) A (Builtin.«zip.__next__» ⟨[.ref (I+4)],[]⟩) Q E s:=by
 refine An (m:=field (.ref (I+4)) 2) (Bt hz rfl (x:=.bool Ad) rfl ?_);refine An (m:=field (.ref (I+4)) 3) (Bt hz rfl (x:=.ref (I+2)) rfl (An (DI hI rfl ?_)));refine An (m:=CQ (.ref (I+4))) ?_;simp only[CQ];refine An (Bt hz rfl (x:=.none) rfl (AH ?_));rw[As rfl];refine An (K5 (An (Bt hz rfl (x:=.ref (I+3)) rfl (An (DR hz (by simp) λp1 z1 e1=>An ?_)))))
 have z1':GB p1 (I+4) (I+2) (I+3) .ellipsis:=z1;simp only[Xh,Xi,Ib,GV];have g1':S1 k p1:=D1.frame _ _ _ g1 λc hc o q=>e1.extBut c o (nb1 b1 hc 3) q
 rcases hk with k1|⟨k1,k2⟩
 .refine An (An (F8 (An (m:=BC (.ref I)) (D1.done _ _ _ _ k1 g1' λp2 e e2 he=>?_))))
  obtain⟨oe,hoe,hce⟩:=he;have z2:GB p2 (I+4) (I+2) (I+3) .ellipsis:=e2 _ _ (ni0 (by decide)) z1'
  have ne:e≠I+4:=λx=>by subst x;rw[z2]at hoe;cases hoe;simp at hce
  refine DR z2 (by simp) λp3 _ e3=>up p3 e s.toks (λc o nc q=>?_) ⟨oe,e3.extBut _ _ ne hoe,hce⟩
  simp only[AA,Bl,CO,EX]at nc;exact e3.extBut c o nc.2.2.2 (e2 c o nc.1 (e1.extBut c o nc.2.2.2 q))
 .refine An (An (F8 (An (m:=BC (.ref I)) (D1.item k _ _ _ k1 g1' λx p2 t2 px s2 e2=>AH ?_))))
  have o2:ER p2 (I+3) a b:=e2.extBut _ _ (ni0 (by decide)) (e1.extBut _ _ (nij (by decide)) hO)
  refine An (DI o2 rfl (An (GF o2 λp3 o3 e3=>An (Kh (AH ?_)))))
  have g2':S2 k p3:=D2.frame _ _ _ g2 λc hc o q=>e3.extBut c o (nb2 b2 hc).2.1 (e2.extBut c o (nb2 b2 hc).1 (e1.extBut c o (nb2 b2 hc).2.2 q))
  refine An (An (F8 (An (m:=BC (.ref (I+1))) (D2.done _ _ _ _ k2 g2' λp4 e e4 he=>?_))))
  obtain⟨oe,hoe,hce⟩:=he;have z4:GB p4 (I+4) (I+2) (I+3) .ellipsis:=e4 _ _ (nij (by decide)) (e3.extBut _ _ (nij (by decide)) (e2.extBut _ _ (ni0 (by decide)) z1'))
  have ne:e≠I+4:=λx=>by subst x;rw[z4]at hoe;cases hoe;simp at hce
  refine DR z4 (by simp) λp5 _ e5=>up p5 e t2 (λc o nc q=>?_) ⟨oe,e5.extBut _ _ ne hoe,hce⟩
  simp only[AA,Bl,CO,EX]at nc;exact e5.extBut c o nc.2.2.2 (e4 c o nc.2.1 (e3.extBut c o nc.2.2.1 (e2.extBut c o nc.1 (e1.extBut c o nc.2.2.2 q))))
end
def SqX(t:Al)(K:Fg)(H:Hp)(a:Ak)(xs:Ac V):Prop:=match t with
  |true=>SqT K H a xs
  |false=>SqL K H a xs
theorem Kx(I:Inv X pI Y H s)(h:SqX t X.K H a xs):∃ its:Ac Aj,AZ xs its/\Ep t s.heap a its.toArray/\xs.length<=sizeLine:=by
 cases t with
 |true=>
  obtain⟨its,rv,p,z⟩:=I.tuple h;exact⟨its,rv,p,z⟩
 |false=>
  obtain⟨its,rv,p,z⟩:=I.list h;exact⟨its,rv,p.isList,z⟩
theorem OK{ys:Ac V}(I:Inv X pI Y H s)(h:SqX t X.K H a xs)(h2:SqX t X.K H a ys):xs=ys:=by
 cases t with
 |true=>exact I.tuple_inj h h2
 |false=>exact I.list_inj h h2
noncomputable def Itz(K:Fg)(t1 t2:Al)(a b:Ak):It:=
  ⟨λi H=>∃ xs ys x y,SqX t1 K H a xs/\SqX t2 K H b ys/\xs[i]?=Aa x/\ys[i]?=Aa y,
   λi H v H'=>∃ p x y,H p=Ae/\v=.ref p/\(∀ xs,SqX t1 K H a xs->xs[i]?=Aa x)/\(∀ ys,SqX t2 K H b ys->ys[i]?=Aa y)/\H'=upd H p (.tup [x,y]),
   λi H=>∃ xs ys,SqX t1 K H a xs/\SqX t2 K H b ys/\(xs.length<=i\/(i<xs.length/\ys.length<=i))⟩
theorem Inv.turnedL{t':Af}(ch:Ac Ak)(I:Inv X pI Y H s)(k:∀ b o,b∉ch->s.heap.get? b=Aa o->h'.get? b=Aa o)(hf:∀ b∈ch,GM X pI H b):Inv X pI Y H {s with heap:=h',toks:=t'}:=by
 have nit:∀ b u,H b=Aa u->b∉ch:=λb u e z=>by rw[(hf b z).1]at e;cases e
 refine I.step (g':=s.gens) (d':=s.drawn) (ch:=ch) (λb hb=>⟨(hf b hb).2.2.2.1,(hf b hb).2.1,(hf b hb).2.2.2.2.1,(hf b hb).2.2.2.2.2⟩) (λb o _ _ hc e _=>k b o hc e) (λb o _ _ hc e _=>⟨o.slots,k b o hc e⟩) (λ_ _ _ _ n=>n)
  (λb o hc e=>⟨o,k b o hc e⟩) (λ_ _ e=>e) (λ_ _ _ e=>e) (λb ps e=>⟨#[],by rw[e];simp⟩) (λm ⟨o,es,ep,ho,r⟩=>⟨o,es,ep,k _ o (λz=>(hf _ z).2.1 rfl) ho,r⟩) (λb u e=>(I.hok b u e).stay (λc v hc q=>k c v ?_ q) (λ_ q=>q) λ_ _ q=>q) I.bare
 rcases hc with z|z
 .rw[z];exact nit b u e
 .exact nit c _ z
def zTn(t1 t2:Al)(I l1 l2:Af)(i:Af)(h:AC):Prop:=GB h (I+4) (I+2) (I+3) .none/\ER h (I+2) (.ref I) (.ref (I+1))/\(∃ a b,ER h (I+3) a b)/\EJ t1 h I l1 i/\EJ t2 h (I+1) l2 i
noncomputable def zFp(I:Af):Ac Ak:=[I,I+1,I+2,I+3,I+4]
theorem EJ.obj{j:Ak}(z:EJ t h j l i):∃ o,h.get? j=Aa o/\∀ v,o.data≠.cell v:=by
 cases t with
 |true=>obtain⟨o,e,c,d⟩:=z;exact⟨o,e,λv z=>by rw[d]at z;cases z⟩
 |false=>obtain⟨o,e,c,d⟩:=z;exact⟨o,e,λv z=>by rw[d]at z;cases z⟩
theorem EJ.at'{j:Ak}(z:EJ t h j l i)(k:∀ o,h.get? j=Aa o->h2.get? j=Aa o):EJ t h2 j l i:=by
 cases t with
 |true=>exact PySem.Heap.IsTupleIter.at z k
 |false=>exact PySem.Heap.IsListIter.at z k
theorem ZtO(t1 t2:Al)(I l1 l2:Af)(b1:l1<I)(b2:l2<I):Turn P w K (.Tuple es n pos) (Itz K t1 t2 l1 l2) (zFp I) (I+4) (zTn t1 t2 I l1 l2) where
  mem:=by simp[zFp]
  obj:=λi h ⟨z1,z2,⟨a,b,z3⟩,z4,z5⟩ c hc=>by
    simp only[zFp,AA,Bl,CO]at hc;rcases hc with rfl|rfl|rfl|rfl|rfl
    · exact z4.obj
    · exact z5.obj
    · exact⟨_,z2,λv z=>by cases z⟩
    · exact⟨_,z3,λv z=>by cases z⟩
    · exact⟨_,z1,λv z=>by cases z⟩
  keep:=λi h h2 ⟨z1,z2,⟨a,b,z3⟩,z4,z5⟩ k=>⟨k _ (by simp[zFp]) _ z1,k _ (by simp[zFp]) _ z2,⟨a,b,k _ (by simp[zFp]) _ z3⟩,z4.at' λo e=>k _ (by simp[zFp]) o e,z5.at' λo e=>k _ (by simp[zFp]) o e⟩
  item:=by
    intro X hP hw hK hc i pI s Y H E Iv hf ⟨z1,z2,⟨a,b,z3⟩,z4,z5⟩ ⟨xs,ys,x,y,q1,q2,hx,hy⟩;subst hP hw hK;obtain⟨us,rx,sx,_⟩:=Kx Iv q1;obtain⟨vs,ry,sy,_⟩:=Kx Iv q2;obtain⟨u,hu,ru⟩:=rx.get hx;obtain⟨v,hv,rv⟩:=ry.get hy;have hT:s.TypeIs (.ref (I+4)) "zip" := ⟨_,z1,rfl⟩;have calm:X.A.in1.handled=Ae:=Iv.ok.hd hc;show At _ _ (JN _) _ _ _;simp only[JN];refine An (JA (DC hT GA (Eh GA hT Yw (dL (k:=i) b1 b2 (Ly calm t1 I l1 (A5 b1) us.toArray) (Ly calm t2 (I+1) l2 (A5 (Dv b2)) vs.toArray) z1 z2 z3 ⟨z4,sx⟩ ⟨z5,sy⟩
      (by have:=(A2.mp hu).1;simpa using this) (by have:=(A2.mp hv).1;simpa using this) λx' y' h2 tk px py c1 c2 c3 c4 c5 kp=>AH ?_) (Yr _))))
    have ex:x'=u:=by
      have px':us[i]?=Aa x':=by simpa using px
      rw[hu]at px';exact(Be px').symm
    have ey:y'=v:=by
      have py':vs[i]?=Aa y':=by simpa using py
      rw[hv]at py';exact(Be py').symm
    subst ex ey;refine⟨_,rfl,wpAny_letOwnedTupleGo_zip c1 λh3 d1 sb=>?_⟩
    have lt4:I+4<s.heap.objs.size:=AL z1;have kp3:∀ c o,c∉zFp I->s.heap.get? c=Aa o->h3.get? c=Aa o:=λc o nc q=>by
      simp only[zFp,AA,Bl,CO,EX]at nc;exact sb.extBut c o nc.2.2.2.2 (kp c o (by simp only[AA,Bl,CO,EX];exact⟨nc.1,nc.2.1,nc.2.2.2.1,nc.2.2.2.2⟩) q)
    have nT:∀ c∈zFp I,c≠s.heap.objs.size:=λc hc z=>by
      have:c<=I+4:=by
        simp only[zFp,AA,Bl,CO]at hc;rcases hc with z|z|z|z|z<;>rw[z]<;>simp
      exact absurd (z ▸ DM this lt4) (Bp _)
    have I1:Inv X pI Y (upd H s.heap.objs.size (.tup [x,y])) { s with heap:=s.heap.push { cls:=.type "tuple",data:=.seq #[x',y'] },toks:=s.toks }:=
      Iv.laid (λ_ _ q=>Ar _ q) (AK _) ⟨(by decide:2<=sizeLine),[x',y'],.cons ru (.cons rv .nil),⟨_,AN _ rfl,rfl,_,rfl⟩⟩
    have hf':∀ b∈zFp I,GM X pI (upd H s.heap.objs.size (.tup [x,y])) b:=λb hb=>⟨by rw[Bb (nT b hb)];exact(hf b hb).1,(hf b hb).2⟩
    have I2:Inv X pI Y (upd H s.heap.objs.size (.tup [x,y])) {s with heap:=h3,toks:=tk}:=Inv.turnedL (s:={ s with heap:=s.heap.push { cls:=.type "tuple",data:=.seq #[x',y'] },toks:=s.toks }) (zFp I) I1 (λc o nc q=>by
      rcases YH q with ⟨e1,e2⟩|e1
      · subst e1 e2;exact sb.extBut _ _ (EM lt4) c5
      · exact kp3 c o nc e1) hf'
    refine⟨.ref s.heap.objs.size,_,I2,rfl,⟨s.heap.objs.size,x,y,Iv.fresh,rfl,λzs hz=>by rw[OK Iv hz q1];exact hx,λzs hz=>by rw[OK Iv hz q2];exact hy,rfl⟩,⟨d1,sb.extBut _ _ (nij (by decide)) (kp _ _ (by simp) z2),⟨_,_,sb.extBut _ _ (nij (by decide)) c2⟩,c3.1.at' λo q=>sb.extBut _ o (B4 (ni0 (by decide))) q,c4.1.at' λo q=>sb.extBut _ o (nij (by decide)) q⟩,λb hb=>(hf' b hb).1⟩
  done:=by
    intro X hP hw hK hc i pI s Y H E Iv hf ⟨z1,z2,⟨a,b,z3⟩,z4,z5⟩ ⟨xs,ys,q1,q2,hk⟩;subst hP hw hK;obtain⟨us,rx,sx,_⟩:=Kx Iv q1;obtain⟨vs,ry,sy,_⟩:=Kx Iv q2;have hT:s.TypeIs (.ref (I+4)) "zip" := ⟨_,z1,rfl⟩;have calm:X.A.in1.handled=Ae:=Iv.ok.hd hc;have e1:=rx.length;have e2:=ry.length;simp only[JN];refine An (JA (DC hT GA (Eh GA hT Yw (iS (k:=i) b1 b2 (Ly calm t1 I l1 (A5 b1) us.toArray) (Ly calm t2 (I+1) l2 (A5 (Dv b2)) vs.toArray) z1 z2 z3 ⟨z4,sx⟩ ⟨z5,sy⟩
      (by simp only[AG];omega) λh2 e tk kp he=>?_) (Yr _))))
    obtain⟨o,ho,hcl⟩:=he;refine An (wpAny_isInstance (T := "StopIteration") (b:=Ab) ⟨o,ho,hcl⟩ isSubtype_stop (AH ⟨rfl,Inv.turnedL [I,I+1,I+3,I+4] Iv (λc o nc q=>kp c o nc q) λc hc=>hf c ?_⟩))
    simp only[AA,Bl,CO]at hc;simp only[zFp,AA,Bl,CO];rcases hc with rfl|rfl|rfl|rfl<;>simp
  self:=λ_ _ _ _ _ st h=>wpAny_pyIter_zip st.1 h
section
variable{prog:AO}{w:A1}{A:AW}{E:Vq}{s:Ap}
noncomputable def itO(t:Al)(l:Ak):Da:=match t with
  |true=>{ cls:=.type "tuple_iterator",data:=.fields #[.ref l,.int 0 0] }
  |false=>{ cls:=.type "list_iterator",data:=.fields #[.ref l,.int 0 0] }
theorem Mx{its:A9 Aj}{Q:Vq}(h:Ep t s.heap l its)(q:Q (.ref s.heap.objs.size) {s with heap:=s.heap.push (itO t l)}):At (model prog w) A (LO (.ref l)) Q E s:=by
 cases t with
 |true=>exact Zw h q
 |false=>exact Hs h q
theorem Ep.push{its:A9 Aj}(z:Ep t h l its)(o:Da):Ep t (h.push o) l its:=by
 cases t with
 |true=>exact PySem.Heap.IsTuple.at z λ_ e=>Ar _ e
 |false=>exact PySem.Heap.IsList.at z λ_ e=>Ar _ e
theorem PY{j:Ak}(e:h.get? j=Aa (itO t l)):EJ t h j l 0:=by
 cases t with
 |true=>exact⟨_,e,rfl,rfl⟩
 |false=>exact⟨_,e,rfl,rfl⟩
theorem Pd(t:Al)(l:Ak):(itO t l).isFreed=Ad:=by cases t<;>rfl
noncomputable abbrev zh2(t1 t2:Al)(h:AC)(l1 l2:Ak):AC:=(h.push (itO t1 l1)).push (itO t2 l2)
noncomputable abbrev zh3(t1 t2:Al)(h:AC)(l1 l2:Ak):AC:=(zh2 t1 t2 h l1 l2).push { cls:=.type "tuple",data:=.seq #[.ref h.objs.size,.ref (h.push (itO t1 l1)).objs.size] }
noncomputable abbrev zh4(t1 t2:Al)(h:AC)(l1 l2:Ak):AC:=(zh3 t1 t2 h l1 l2).push { cls:=.type "tuple",data:=.seq #[.none,.none] }
noncomputable abbrev zh5(t1 t2:Al)(h:AC)(l1 l2:Ak):AC:=(zh4 t1 t2 h l1 l2).push { cls:=.type "zip",data:=.fields #[.none,.bool Ad,.bool Ad,.ref (zh2 t1 t2 h l1 l2).objs.size,.ref (zh3 t1 t2 h l1 l2).objs.size] }
theorem iR(t1 t2:Al)(l1 l2:Ak)(xs ys:A9 Aj):Meets (Builtin.«zip.__new__» ⟨[.type "zip",.ref l1,.ref l2],[]⟩) (λ_ R s=>Ep t1 s.heap l1 xs/\Ep t2 s.heap l2 ys/\R (.ok (.ret (.ref (zh4 t1 t2 s.heap l1 l2).objs.size))) {s with heap:=zh5 t1 t2 s.heap l1 l2}):=
 .of_wp λprog w A R s h=>by
  obtain⟨hp,g,d,tk,os⟩:=s;obtain⟨a1,a2,q⟩:=h;have hsub:=sub_zip;have L1:Ep t1 (Kf ⟨hp,g,d,tk,os⟩) l1 xs:=a1;have L2:Ep t2 (Kf ⟨hp.push (itO t1 l1),g,d,tk,os⟩) l2 ys:=a2.push _
  wp_walk using Mx L1,Mx L2
  exact⟨_,rfl,q⟩
theorem ZtL{l1 l2:Ak}{xs ys:A9 Aj}{Q:Vq}(a1:Ep t1 s.heap l1 xs)(a2:Ep t2 s.heap l2 ys)(q:∀ h2,zTn t1 t2 s.heap.objs.size l1 l2 0 h2->(∀ c o,s.heap.get? c=Aa o->h2.get? c=Aa o)->Q (.ref (s.heap.objs.size+4)) {s with heap:=h2}):At (model prog w) A (call (.type "zip") [.ref l1,.ref l2]) Q E s:=by
 refine callType_new F.called_zip (by decide) (F.typeCall_zip_2 _ _) (F.newCall_zip_2 _ _) (λobj=>F.args_object_init_3 obj _ _) F.entry_zip_new (iR t1 t2 l1 l2 xs ys) ⟨a1,a2,?_⟩
 have s1:(s.heap.push (itO t1 l1)).objs.size=s.heap.objs.size+1:=Ct ..;have s2:(zh2 t1 t2 s.heap l1 l2).objs.size=s.heap.objs.size+2:=by rw[Ct,s1]
 have s3:(zh3 t1 t2 s.heap l1 l2).objs.size=s.heap.objs.size+3:=by rw[Ct,s2]
 have s4:(zh4 t1 t2 s.heap l1 l2).objs.size=s.heap.objs.size+4:=by rw[Ct,s3]
 have u5:∀ {c o},(zh4 t1 t2 s.heap l1 l2).get? c=Aa o->(zh5 t1 t2 s.heap l1 l2).get? c=Aa o:=λe=>Ar _ e
 have u4:∀ {c o},(zh3 t1 t2 s.heap l1 l2).get? c=Aa o->(zh5 t1 t2 s.heap l1 l2).get? c=Aa o:=λe=>u5 (Ar _ e)
 have u3:∀ {c o},(zh2 t1 t2 s.heap l1 l2).get? c=Aa o->(zh5 t1 t2 s.heap l1 l2).get? c=Aa o:=λe=>u4 (Ar _ e)
 have u2:∀ {c o},(s.heap.push (itO t1 l1)).get? c=Aa o->(zh5 t1 t2 s.heap l1 l2).get? c=Aa o:=λe=>u3 (Ar _ e)
 have g5:(zh5 t1 t2 s.heap l1 l2).get? (zh4 t1 t2 s.heap l1 l2).objs.size=Aa _:=AN _ rfl;have g4:(zh5 t1 t2 s.heap l1 l2).get? (zh3 t1 t2 s.heap l1 l2).objs.size=Aa _:=u5 (AN _ rfl);have g3:(zh5 t1 t2 s.heap l1 l2).get? (zh2 t1 t2 s.heap l1 l2).objs.size=Aa _:=u4 (AN _ rfl);have g2:(zh5 t1 t2 s.heap l1 l2).get? (s.heap.push (itO t1 l1)).objs.size=Aa _:=u3 (AN _ (Pd _ _));have g1:(zh5 t1 t2 s.heap l1 l2).get? s.heap.objs.size=Aa _:=u2 (AN _ (Pd _ _));show _/\_;rw[s2,s3,s4]at g5;rw[s3]at g4;rw[s1,s2]at g3;rw[s1]at g2;rw[s4];exact⟨⟨_,g5,rfl⟩,q _ ⟨g5,g3,⟨_,_,g4⟩,PY g1,PY g2⟩ λc o e=>u2 (Ar _ e)⟩
end
theorem Ep.lt{its:A9 Aj}(z:Ep t h a its):a<h.objs.size:=by
 cases t with
 |true=>obtain⟨o,e,_⟩:=z;exact AL e
 |false=>obtain⟨o,e,_⟩:=z;exact AL e
theorem ZAN{ds:Ac D}(r:Rep K CL H A v d)(e:FF d=.ok ds):∃ t a xs,v=.ref a/\(∀ H2,Kp A H H2->SqX t K H2 a xs)/\Reps K CL H A xs ds:=by
 cases d with
 |lst es=>
  cases e;obtain⟨q,xs,rfl,na,sq,r⟩:=r;exact⟨Ad,q,xs,rfl,λH2 k=>Nx k na sq,r⟩
 |tup es=>
  cases e;obtain⟨q,xs,rfl,na,sq,r⟩:=r;exact⟨Ab,q,xs,rfl,λH2 k=>Nw k na sq,r⟩
 |_=>cases e
theorem Tg:∀(xs ys:Ac D),(D6 xs ys).length=min xs.length ys.length
 |[],_=>by simp[D6]
 |_::_,[]=>by simp[D6]
 |x::xs,y::ys=>by
  rw[D6,AI,Tg xs ys];simp only[AI];omega
theorem Th:∀(xs ys:Ac D)(i:Af)(d:D),(D6 xs ys)[i]?=Aa d->∃ x y,xs[i]?=Aa x/\ys[i]?=Aa y/\d=.tup [x,y]
 |[],_,i,d,h=>by simp[D6]at h
 |_::_,[],i,d,h=>by simp[D6]at h
 |x::xs,y::ys,0,d,h=>by
  rw[D6]at h;simp only[W3,Xr]at h;exact⟨x,y,rfl,rfl,h.symm⟩
 |x::xs,y::ys,i+1,d,h=>by
  rw[D6]at h;simp only[W2]at h ⊢;exact Th xs ys i d h
theorem ZtM{ys:Ac V}{ds es:Ac D}(s1:∀ H2,Kp A H1 H2->SqX t1 K H2 a xs)(s2:∀ H2,Kp A H1 H2->SqX t2 K H2 b ys)(r1:Reps K CL H1 A xs ds)(r2:Reps K CL H1 A ys es):Jt K CL A (D6 ds es) (Itz K t1 t2 a b) H1:=λH k i=>by
 refine⟨λhi=>⟨xs,ys,s1 H k,s2 H k,?_⟩,λd hd=>?_⟩
 .rw[Tg]at hi;rw[r1.length,r2.length];omega
 .obtain⟨x,y,hx,hy,rfl⟩:=Th _ _ _ _ hd;obtain⟨u,hu,ru⟩:=r1.get hx;obtain⟨v,hv,rv⟩:=r2.get hy;refine⟨⟨xs,ys,u,v,s1 H k,s2 H k,hu,hv⟩,?_⟩;rintro w' H' ⟨p,x',y',hp,rfl,c1,c2,rfl⟩;have ex:x'=u:=Be ((c1 xs (s1 H k)).symm.trans hu);have ey:y'=v:=Be ((c2 ys (s2 H k)).symm.trans hv);subst ex ey;have sm:=En hp (.tup [x',y']);exact⟨sm,λB hB aB=>Lh aB hp ⟨MX ru k hB,MX rv k hB,trivial⟩⟩
section
variable{X:Cx}{CL:ClA}{W:XW}{pos p:AF}{a b:Am}{fa fb:Rho->R D}
end
theorem EJ.live{l:Af}(z:EJ t h j l i):∃ o,h.get? j=Aa o/\∀ v,o.data≠.cell v:=by
 cases t with
 |true=>obtain⟨o,e,c,d⟩:=z;exact⟨o,e,λv z=>by rw[d]at z;cases z⟩
 |false=>obtain⟨o,e,c,d⟩:=z;exact⟨o,e,λv z=>by rw[d]at z;cases z⟩
theorem EJ.keep{l:Af}(z:EJ t h j l i)(k:∀ o,h.get? j=Aa o->h2.get? j=Aa o):EJ t h2 j l i:=by
 cases t with
 |true=>exact PySem.Heap.IsTupleIter.at z k
 |false=>exact PySem.Heap.IsListIter.at z k
theorem rR{A:AW}(calm:A.handled=Ae)(t:Al)(j l:Ak)(ne:l≠j)(its:A9 Aj):Draws prog w A j [j,l] its.size (λi v=>its[i]?=Aa v) (λi h=>EJ t h j l i/\Ep t h l its):=
 have d:=Ly (prog:=prog) (w:=w) calm t j l ne its
 ⟨λi h z=>let ⟨o,e,_⟩:=z.1.live;⟨o,e⟩,d.frame,d.item,λs Q E h q=>d.done _ s Q E (AK _) h q⟩
theorem lS{A:AW}(calm:A.handled=Ae)(t:Al)(j l:Ak)(ne:l≠j)(its:A9 Aj)(i:Af)(hi:its.size<=i):Draws prog w A j [j,l] i (λ_ _=>AX) (λk h=>k=i/\EJ t h j l i/\Ep t h l its):=
 have d:=Ly (prog:=prog) (w:=w) calm t j l ne its
 ⟨λ_ h z=>let ⟨o,e,_⟩:=z.2.1.live;⟨o,e⟩,λk h h' z q=>⟨z.1,d.frame i h h' z.2 q⟩,λk s Q E lt z=>absurd z.1 (A5 lt),λs Q E h q=>d.done i s Q E hi h.2 q⟩
noncomputable def Ite(K:Fg)(t:Al)(a:Ak):It:=
 ⟨λi H=>∃ xs x,SqX t K H a xs/\xs[i]?=Aa x,λi H v H'=>∃ p x,H p=Ae/\v=.ref p/\(∀ xs,SqX t K H a xs->xs[i]?=Aa x)/\H'=upd H p (.tup [.int i,x]),λi H=>∃ xs,SqX t K H a xs/\xs.length<=i⟩
def eTn(t:Al)(I l:Af)(i:Af)(h:AC):Prop:=(∃ old,IsEnum h (I+1) I i old)/\EJ t h I l i
theorem bC(t:Al)(I l:Af)(b:l<I):Turn P w K (.Tuple es n pos) (Ite K t l) [I,I+1] (I+1) (eTn t I l) where
  mem:=by simp
  obj:=λi h ⟨⟨old,z1⟩,z2⟩ c hc=>by
    simp only[AA,Bl,CO]at hc;rcases hc with rfl|rfl
    · exact z2.live
    · exact⟨_,z1,λv z=>by cases z⟩
  keep:=λi h h2 ⟨⟨old,z1⟩,z2⟩ k=>⟨⟨old,k _ (by simp) _ z1⟩,z2.keep λo e=>k _ (by simp) o e⟩
  item:=by
    intro X hP hw hK hc i pI s Y H E Iv hf ⟨⟨old,z1⟩,z2⟩ ⟨xs,x,q1,hx⟩;subst hP hw hK;obtain⟨us,rx,px,_⟩:=Kx Iv q1;obtain⟨u,hu,ru⟩:=rx.get hx;have lu:i<us.toArray.size:=by
      have:=(A2.mp hu).1;simpa using this
    refine wpAny_pyNext_enum_itemD (rR (A:=X.A.in1) (Iv.ok.hd hc) t I l (A5 b) us.toArray) z1 ⟨z2,px⟩ lu (ni0 (by decide)) (by simp only[AA,Bl,CO,EX];exact⟨ni0 (by decide),EM (AQ b (Nat.le_add_right _ _))⟩) λu' h2 tk hu' ho it2 hT sz kp=>⟨_,rfl,wpAny_letOwnedTupleGo_enum ho λh3 d1 sb=>?_⟩
    have eu:u'=u:=by
      rw[List.getElem?_toArray,hu]at hu';exact(Be hu').symm
    subst eu;have lt:I+1<s.heap.objs.size:=AL z1;have kp3:∀ c o,c∉[I,I+1]->s.heap.get? c=Aa o->h3.get? c=Aa o:=λc o nc q=>by
      simp only[AA,Bl,CO,EX]at nc;exact sb.extBut c o nc.2 (kp c o nc.2 nc.1 q)
    have nT:∀ c∈[I,I+1],c≠s.heap.objs.size:=λc hc z=>by
      have:c<=I+1:=by
        simp only[AA,Bl,CO]at hc;rcases hc with z|z<;>rw[z]<;>simp
      exact absurd (z ▸ DM this lt) (Bp _)
    have I1:Inv X pI Y (upd H s.heap.objs.size (.tup [.int i,x])) { s with heap:=s.heap.push { cls:=.type "tuple",data:=.seq #[.int i tk,u'] },toks:=s.toks }:=
      Iv.laid (λ_ _ q=>Ar _ q) (AK _) ⟨(by decide:2<=sizeLine),[.int i tk,u'],.cons ⟨_,rfl⟩ (.cons ru .nil),⟨_,AN _ rfl,rfl,_,rfl⟩⟩
    have hf':∀ b∈[I,I+1],GM X pI (upd H s.heap.objs.size (.tup [.int i,x])) b:=λb hb=>⟨by rw[Bb (nT b hb)];exact(hf b hb).1,(hf b hb).2⟩
    have I2:Inv X pI Y (upd H s.heap.objs.size (.tup [.int i,x])) {s with heap:=h3,toks:=tk+1}:=Inv.turnedL (s:={ s with heap:=s.heap.push { cls:=.type "tuple",data:=.seq #[.int i tk,u'] },toks:=s.toks }) [I,I+1] I1 (λc o nc q=>by
      rcases YH q with ⟨e1,e2⟩|e1
      · subst e1 e2;exact sb.extBut _ _ (EM lt) hT
      · exact kp3 c o nc e1) hf'
    exact⟨.ref s.heap.objs.size,_,I2,rfl,⟨s.heap.objs.size,x,Iv.fresh,rfl,λzs hz=>by rw[OK Iv hz q1];exact hx,rfl⟩,⟨⟨u',by simpa using d1⟩,it2.1.keep λo q=>sb.extBut _ o (B4 (ni0 (by decide))) q⟩,λb hb=>(hf' b hb).1⟩
  done:=by
    intro X hP hw hK hc i pI s Y H E Iv hf ⟨⟨old,z1⟩,z2⟩ ⟨xs,q1,hk⟩;subst hP hw hK;obtain⟨us,rx,px,_⟩:=Kx Iv q1;have e1:=rx.length;have e2:us.toArray.size<=i:=by rw[AG,<-e1];exact hk
    refine wpAny_pyNext_enum_endD (lS (A:=X.A.in1) (Iv.ok.hd hc) t I l (A5 b) us.toArray i e2) z1 ⟨rfl,z2,px⟩ λh2 eb=>⟨rfl,Inv.turnedL [I] Iv (t':=s.toks) (λc o nc q=>eb c o (λz=>nc (by simp[z])) q) λc hc=>hf c ?_⟩
    have:c=I:=by simpa using hc
    subst this;simp
  self:=λ_ _ _ _ _ st h=>Zv st.1.choose_spec h
section
variable{prog:AO}{w:A1}{A:AW}{E:Vq}{s:Ap}
theorem eV(t:Al)(l:Ak)(xs:A9 Aj):Meets (Builtin.«enumerate.__new__» ⟨[.type "enumerate",.ref l],[]⟩) (λ_ R s=>Ep t s.heap l xs /\
   R (.ok (.ret (.ref (s.heap.push (itO t l)).objs.size))) { s with heap:=(s.heap.push (itO t l)).push { cls:=.type "enumerate",data:=.fields #[.none,.bool Ad,.ref s.heap.objs.size,DD 0,.none,.none] } }):=
 .of_wp λprog w A R s h=>by
  obtain⟨hp,g,d,tk,os⟩:=s;obtain⟨hl,h⟩:=h;have hsub:=sub_enumerate;have hL:Ep t (Kf ⟨hp,g,d,tk,os⟩) l xs:=hl
  wp_walk
  refine wpAny_stack_any λst=>AH ?_
  split
  .rename_i c _ _ _ _ _;cases (c==E2 "enumerate")
   .wp_walk using Mx hL
    exact⟨_,rfl,h⟩
   .wp_walk using Mx hL
    exact⟨_,rfl,h⟩
  .wp_walk using Mx hL
   exact⟨_,rfl,h⟩
theorem eO{xs:A9 Aj}{Q:Vq}(hL:Ep t s.heap l xs)(h:∀ h',IsEnum h' (s.heap.objs.size+1) s.heap.objs.size 0 .none->EJ t h' s.heap.objs.size l 0->(∀ b o,s.heap.get? b=Aa o->h'.get? b=Aa o)->Q (.ref (s.heap.objs.size+1)) {s with heap:=h'}):
    At (model prog w) A (call (.type "enumerate") [.ref l]) Q E s:=by
  refine callType_new F.called_enumerate (by decide) (F.typeCall_enumerate_1 _) (F.newCall_enumerate_1 _) (λobj=>F.args_object_init_2 obj _) F.entry_enumerate_new (eV t l xs) ⟨hL,?_⟩
  have hz:(s.heap.push (itO t l)).objs.size=s.heap.objs.size+1:=Ct ..;show _/\_;rw[hz];have he:IsEnum ((s.heap.push (itO t l)).push { cls:=.type "enumerate",data:=.fields #[.none,.bool Ad,.ref s.heap.objs.size,DD 0,.none,.none] }) (s.heap.objs.size+1) s.heap.objs.size 0 .none:=by
    have:=AN (s.heap.push (itO t l)) (o:={ cls:=.type "enumerate",data:=.fields #[.none,.bool Ad,.ref s.heap.objs.size,DD 0,.none,.none] }) rfl;rw[hz]at this;exact this
  exact⟨⟨_,he,rfl⟩,h _ he (PY (Ar _ (AN _ (Pd _ _)))) λb o x=>Ar _ (Ar _ x)⟩
end
def ZC(K:Fg)(ta:TA):TI:=λY H R=>ta Y H λvs H1=>∃ t a xs,vs=[.ref a]/\SqX t K H1 a xs/\(xs.length<=sizeLine->R (Ite K t a) H1)
theorem jQ{a:Am}{ta:TA}{tpos:AF}(hg:Gl X "enumerate")(hm:X.mg "enumerate" = Ae)(ha:PA X [a] ta)(hs:Aq [a] X.env=[(Ad,eval a X.env)]):
  PI X (.Tuple es n tpos) (.Call (.Name "enumerate" p) [a] [] pos) (ZC X.K ta):=by
 intro pI s Y H R I h;refine Call_ (Lo I hg hm PyProof.Rows.boot_enumerate (DN (thn (ha pos pI s Y H _ I h) λus s1 ⟨vs,H1,I1,r1,q1⟩=>?_) hs rfl))
 obtain⟨t,c,xs,e,sx,q⟩:=q1;subst e;cases r1 with
 |cons r rr=>
  cases rr;cases r;obtain⟨us,ru,pu,zu⟩:=Kx I1 sx;refine eO pu λh2 z1 z2 kp=>Zv z1 ?_
  refine⟨s1.heap.objs.size+1,[s1.heap.objs.size,s1.heap.objs.size+1],_,_,H1,rfl,I1.kept (t':=s1.toks) kp,bC t s1.heap.objs.size c pu.lt,⟨⟨_,z1⟩,z2⟩,λb hb=>?_,q zu⟩
  have hb':s1.heap.objs.size<=b:=by
   simp only[AA,Bl,CO]at hb;rcases hb with z|z<;>rw[z]<;>simp
  exact I1.fpOk hb' (I1.hok.fresh hb')
theorem Te:∀(j:Ah)(xs:Ac D),(D4 j xs).length=xs.length
 |_,[]=>rfl
 |j,x::xs=>by rw[D4,AI,Te,AI]
theorem Tf:∀(xs:Ac D)(j:Ah)(i:Af)(d:D),(D4 j xs)[i]?=Aa d->∃ x,xs[i]?=Aa x/\d=.tup [.int (j+i),x]
 |[],j,i,d,h=>by simp[D4]at h
 |x::xs,j,0,d,h=>by
  rw[D4]at h;simp only[W3,Xr]at h;exact⟨x,rfl,by rw[<-h];simp⟩
 |x::xs,j,i+1,d,h=>by
  rw[D4]at h;simp only[W2]at h ⊢;obtain⟨y,h1,h2⟩:=Tf xs (j+1) i d h;exact⟨y,h1,by rw[h2];congr 3;omega⟩
section
variable{X:Cx}{CL:ClA}{W:XW}{pos p:AF}{a:Am}{fa:Rho->R D}
end
noncomputable abbrev Ra(h:AC)(z TI TO:Ak)(f0 f1:Aj):Prop:=h.get? z=Aa { cls:=.type "zip",dict:=Ae,data:=.fields #[f0,f1,.bool Ad,.ref TI,.ref TO],slots:=#[] }
noncomputable abbrev Rb(h:AC)(T:Ak)(a b c:Aj):Prop:=h.get? T=Aa { cls:=.type "tuple",data:=.seq #[a,b,c] }
section
variable{prog:AO}{w:A1}{A:AW}{E:Vq}{s:Ap}
def Z_3(t1 t2 t3:Al)(I l1 l2 l3 i:Af)(h:AC):Prop:=Rb h (I+3) (.ref (I+0)) (.ref (I+1)) (.ref (I+2))/\EJ t1 h (I+0) l1 i/\EJ t2 h (I+1) l2 i/\EJ t3 h (I+2) l3 i/\(∃ a b c,Rb h (I+4) a b c) /\
 (Ra h (I+5) (I+3) (I+4) .none (.bool Ad)\/∃(T1:Af)(f1:Al),Ra h (I+5) (I+3) (I+4) (DD T1) (.bool f1))
end
section
variable{prog:AO}{w:A1}{A:AW}{R:HK->Ap->Prop}
theorem Ep.at'{its:A9 Aj}(z:Ep t h l its)(k:∀ o,h.get? l=Aa o->h2.get? l=Aa o):Ep t h2 l its:=by
 cases t with
 |true=>exact PySem.Heap.IsTuple.at z k
 |false=>exact PySem.Heap.IsList.at z k
theorem Z_3.at'{t1 t2 t3:Al}{I l1 l2 l3 i:Af}{h h2:AC}(z:Z_3 t1 t2 t3 I l1 l2 l3 i h)(k:∀ j,j<=5->∀ o,h.get? (I+j)=Aa o->h2.get? (I+j)=Aa o):Z_3 t1 t2 t3 I l1 l2 l3 i h2:=by
 obtain⟨zI,i1,i2,i3,⟨a,b,c,hO⟩,zz⟩:=z;exact⟨k 3 (by decide) _ zI,i1.at' λo q=>k 0 (by decide) o q,i2.at' λo q=>k 1 (by decide) o q,i3.at' λo q=>k 2 (by decide) o q,⟨a,b,c,k 4 (by decide) _ hO⟩,zz.imp (k 5 (by decide) _) λ⟨T1,f1,hz⟩=>⟨T1,f1,k 5 (by decide) _ hz⟩⟩
end
section
variable{prog:AO}{w:A1}{A:AW}{E:Vq}{s:Ap}
end
theorem Z_3.ty{t3:Al}{I l1 l2 l3 i:Af}(z:Z_3 t1 t2 t3 I l1 l2 l3 i s.heap):s.TypeIs (.ref (I+5)) "zip" := by
 obtain⟨_,_,_,_,_,hz|⟨_,_,hz⟩⟩:=z
 .exact⟨_,hz,rfl⟩
 .exact⟨_,hz,rfl⟩
section
variable{prog:AO}{w:A1}{A:AW}{E:Vq}{s:Ap}
end
section
variable{X:Cx}{CL:ClA}{W:XW}{pos p pos' p':AF}{a b c:Am}{fa fb fc:Rho->R D}
end
section
variable{X:Cx}{CL:ClA}{W:XW}{pos p tpos:AF}{a b c:Am}{fa fb fc:Rho->R D}{x:Ag}
end
section
variable{X:Cx}{CL:ClA}{W:XW}{a:Am}{fa:Rho->R D}
end
section
variable{X:Cx}{CL:ClA}{W:XW}{o o' e:Am}{fe:Rho->R D}{i j:Af}{apos cpos apos' cpos' pos:AF}
end
section
variable{X:Cx}{CL:ClA}{W:XW}
theorem rQ(I:Inv X pI Y H s){ds:Ac D}(B:AW)(hd:flD n d=Ab)(hs:ds.all (flD n)=Ab)(r:Reps X.K CL H A0 xs ds)(rv:AZ xs its)(q:Rep X.K CL H A0 v d)(qv:Bq v u)(hu:B.units+n<BJ):∃ e:Aj->Al,(∀ y,y∈its.toArray->Ew B s y u (e y))/\∀ j (h:j<its.length),e its[j]=eqD (ds.getD j .non) d:=by
 have l1:=rv.length;have l2:=r.length
 have key:∀ y,y∈its->∃ k:Al,Ew B s y u k/\∀ j (h:j<its.length),its[j]=y->eqD (ds.getD j .non) d=k:=λy hy=>by
  obtain⟨j,hj,rfl⟩:=Ek hy;obtain⟨x,rx,qx⟩:=Jj r rv hj;refine⟨eqD (ds.getD j .non) d,(Lq I n _ _ x v _ _ B (Iy hs j) hd rx q qx qv hu).2.1,λj' hj' e=>?_⟩
  obtain⟨x',rx',qx'⟩:=Jj r rv hj';rw[e]at qx';have z:=Bq.inj qx qx';subst z;rw[Md I n _ _ (Iy hs j') (Iy hs j) rx' rx]
 have key2:∀ y,∃ k:Al,y∈its->Ew B s y u k/\∀ j (h:j<its.length),its[j]=y->eqD (ds.getD j .non) d=k:=λy=>by
  by_cases hy:y∈its
  .obtain⟨k,hk⟩:=key y hy;exact⟨k,λ_=>hk⟩
  .exact⟨Ab,λh=>absurd h hy⟩
 exact⟨λy=>Hz (key2 y),λy hy=>(Dd (key2 y) (by simpa using hy)).1,λj hj=>((Dd (key2 its[j]) (BM _)).2 j hj rfl).symm⟩
end
section
variable{X:Cx}
variable{CL:ClA}{W:XW}{pos p pos' p':AF}{a b:Am}{fa fb:Rho->R D}
end
section
variable{X:Cx}{CL:ClA}{W:XW}{e o o' k l:Am}{fe:Rho->R Ov.D}{i ik il:Af}{pos spos spos' tpos:AF}{kt:Af}
end
section
variable{prog:AO}{w:A1}{A:AW}{E:Vq}{s:Ap}
end
section
variable{X:Cx}{pos:AF}{CL:ClA}
end
section
variable{X:Cx}{CL:ClA}{W:XW}
end
end Ov
namespace Ov
open PySem PySem.W PyProof.Rows
variable{h:AC}{v:Aj}{r q:Ac Ah}{rs:Ac (Ac Ah)}{vs:Ac Aj}
structure Sto (lt:Af->Af->Al) (n:Af):Prop where
 tr:∀ i j k,i<n->j<n->k<n->lt i j=Ab->lt j k=Ab->lt i k=Ab
 tot:∀ i j,i<n->j<n->i≠j->lt i j=Ad->lt j i=Ab
 asy:∀ i j,i<n->j<n->lt i j=Ab->lt j i=Ad
noncomputable def at0(p:A9 Af)(x:Af):Af:=p.getD x 0
structure Pm (n:Af) (p:A9 Af):Prop where
 sz:p.size=n
 lt:∀ x,x<n->at0 p x<n
 inj:∀ x y,x<n->y<n->at0 p x=at0 p y->x=y
section
variable{lt:Af->Af->Al}{n:Af}
def LC(lt:Af->Af->Al)(p:A9 Af)(m:Af):Prop:=∀ x y,x<y->y<m->lt (at0 p x) (at0 p y)=Ab
theorem dC(n:Af):Pm n (CA (Ba n)):=by
 have e:∀ x,x<n->at0 (CA (Ba n)) x=x:=λx hx=>by simp[at0,WI,hx]
 exact⟨by simp,λx hx=>by rw[e x hx];exact hx,λx y hx hy h=>by rw[e x hx,e y hy]at h;exact h⟩
end
def Em(h:AC)(v:Aj)(r:Ac Ah):Prop:=∃ a its,v=.ref a/\KP h a its/\Er its.toList r/\r≠[]
theorem Em.kept{h':AC}(t:Em h v r)(k:∀ b o,h.get? b=Aa o->h'.get? b=Aa o):Em h' v r:=by
 obtain⟨a,its,e,⟨o,ho,q⟩,i,n⟩:=t;exact⟨a,its,e,⟨o,k _ _ ho,q⟩,i,n⟩
noncomputable def Cf:Ac Ah->Ac Ah->Al
 |[],[]=>Ad
 |[],_::_=>Ab
 |_::_,[]=>Ad
 |x::xs,y::ys=>if x=y then Cf xs ys else decide (x<y)
section
variable{prog:AO}{w:A1}{A:AW}{E:Vq}{s:Ap}
theorem U_4{C:Al->Ap->Prop}:∀{vs us:Ac Aj}{r q:Ac Ah}(i:Af),Er vs r->Er us q->C (Cf r q) s->KatLex prog w A Ab (decide (vs.length<us.length)) C (vs.zip us) i s
 |[],[],[],[],i,_,_,h=>by
  have h':C Ad s:=h;exact kat_nil h'
 |[],u::us,[],y::q,i,_,_,h=>by
  have h':C Ab s:=h;refine kat_nil ?_;have e:decide (([]:Ac Aj).length<(u::us).length)=Ab:=by simp
  rw[e];exact h'
 |v::vs,[],x::r,[],i,_,_,h=>by
  have h':C Ad s:=h;exact kat_nil h'
 |v::vs,u::us,x::r,y::q,i,hv,hu,h=>by
  cases hv with
  |cons _ tv hv=>
   cases hu with
   |cons _ tu hu=>
    have e0:decide ((Gr x tv::vs).length<(Gr y tu::us).length)=decide (vs.length<us.length):=by simp
    rw[e0];refine kat_cons (Zq ?_);by_cases e:x=y
    .have e1:(x==y)=Ab:=by simp[e]
     rw[e1];refine kat_yes (U_4 (i+1) hv hu ?_);have h':C (if x=y then Cf r q else decide (x<y)) s:=h
     rw[As e]at h';exact h'
    .have e1:(x==y)=Ad:=by simp[e]
     rw[e1];have h':C (decide (x<y)) s:=by
      have h':C (if x=y then Cf r q else decide (x<y)) s:=h
      rwa [AB e]at h'
     refine kat_no ?_;cases i with
     |zero=>exact oneLt_int h'
     |succ i=>
      have e2:(Ab&&(i+1==0))=Ad:=rfl;rw[e2];exact kat_one _ _ (wpAny_lt_int h')
 |[],_,_::_,_,_,hv,_,_=>nomatch hv
 |_::_,_,[],_,_,hv,_,_=>nomatch hv
 |_,[],_,_::_,_,_,hu,_=>nomatch hu
 |_,_::_,_,[],_,_,hu,_=>nomatch hu
theorem nN{C:Al->Ap->Prop}{u:Aj}(hv:Em s.heap v r)(hu:Em s.heap u q)(h:C (Cf r q) s):At (model prog w) A (keyLt' (tuples' Ab) v u) C E s:=by
 obtain⟨a,xs,rfl,⟨oa,ga,_,n,da⟩,ix,_⟩:=hv;obtain⟨b,ys,rfl,⟨ob,gb,_,m,db⟩,iy,_⟩:=hu;refine kat_lt ga da gb db ?_;have:=U_4 (prog:=prog) (w:=w) (A:=A) (s:=s) 0 ix iy h;simpa using this
theorem LW:∀{r q:Ac Ah},Cf r q=Ab->Cf q r=Ad
 |[],[],h=>by cases h
 |[],_::_,_=>rfl
 |_::_,[],h=>by cases h
 |x::r,y::q,h=>by
  have h':(if x=y then Cf r q else decide (x<y))=Ab:=h
  show (if y=x then Cf q r else decide (y<x))=Ad
  by_cases e:x=y
  .rw[As e]at h';rw[As e.symm];exact LW h'
  .rw[AB e,Az]at h';rw[AB (B4 e),FR];omega
theorem M8:∀{r q:Ac Ah},r≠q->Cf r q=Ad->Cf q r=Ab
 |[],[],n,_=>absurd rfl n
 |[],_::_,_,h=>by cases h
 |_::_,[],_,_=>rfl
 |x::r,y::q,n,h=>by
  have h':(if x=y then Cf r q else decide (x<y))=Ad:=h
  show (if y=x then Cf q r else decide (y<x))=Ab
  by_cases e:x=y
  .rw[As e]at h';rw[As e.symm];exact M8 (λz=>n (by rw[e,z])) h'
  .rw[AB e,FR]at h';rw[AB (B4 e),Az];omega
theorem Nk:∀{r q t:Ac Ah},Cf r q=Ab->Cf q t=Ab->Cf r t=Ab
 |[],[],_,h,_=>by cases h
 |_::_,[],_,h,_=>by cases h
 |_,_::_,[],_,h=>by cases h
 |[],_::_,_::_,_,_=>rfl
 |x::r,y::q,u::t,h,g=>by
  have h':(if x=y then Cf r q else decide (x<y))=Ab:=h
  have g':(if y=u then Cf q t else decide (y<u))=Ab:=g
  show (if x=u then Cf r t else decide (x<u))=Ab
  by_cases e:x=y
  .rw[As e]at h';by_cases f:y=u
   .rw[As f]at g';rw[As (e.trans f)];exact Nk h' g'
   .rw[AB f,Az]at g';rw[AB (by omega),Az]
    omega
  .rw[AB e,Az]at h';by_cases f:y=u
   .rw[AB (by omega),Az]
    omega
   .rw[AB f,Az]at g';rw[AB (by omega),Az]
    omega
noncomputable def ltR(rs:Ac (Ac Ah))(i j:Af):Al:=Cf (rs.getD i []) (rs.getD j [])
theorem dY(nd:rs.Nodup):Sto (ltR rs) rs.length:=by
 refine⟨λi j k _ _ _=>Nk,λi j hi hj ne h=>M8 (λe=>ne ?_) h,λi j _ _=>LW⟩
 have h':=Xd.mp nd;rw[A6,A6,AE hi,AE hj]at e;have e':rs[i]=rs[j]:=e;rcases Xl i j with z|z|z
 .exact absurd e' (h' i j hi hj z)
 .exact z
 .exact absurd e'.symm (h' j i hj hi z)
noncomputable abbrev J9(vs:Ac Aj)(p:A9 Af):A9 Aj:=CA (p.toList.map λi=>vs.getD i Bh)
theorem dA(vs:Ac Aj):J9 vs (CA (Ba vs.length))=vs.toArray:=by
 apply Hy.mp
 show (Ba vs.length).map (λi=>vs.getD i Bh)=vs
 apply HA
 .simp
 .intro i h1 h2;simp[h2]
theorem Sh{h:AC}:∀{vs:Ac Aj}{rs:Ac (Ac Ah)},rs.length=vs.length->(∀(i:Af)(v:Aj)(r:Ac Ah),vs[i]?=Aa v->rs[i]?=Aa r->Em h v r)->∃ fs,KatTups h vs fs/\fs.length=vs.length/\∀ v∈fs,∃ x t,v=Gr x t
 |[],_,_,_=>⟨[],KatTups.nil,rfl,λv hv=>by cases hv⟩
 |v::vs,[],hl,_=>by cases hl
 |v::vs,r::rs,hl,ht=>by
  obtain⟨fs,h1,h2,h3⟩:=Sh (vs:=vs) (rs:=rs) (by simpa using hl) λi v r a b=>ht (i+1) v r a b
  obtain⟨a,its,rfl,⟨o,ho,hc,n,hd⟩,hi,hne⟩:=ht 0 v r rfl rfl;cases e:its.toList with
  |nil=>
   rw[e]at hi;cases hi;exact absurd rfl hne
  |cons f l=>
   rw[e]at hi;cases hi with
   |cons x t hi=>
    refine⟨.int x t::fs,KatTups.cons ho hc hd ?_ h1,by simp[h2],λv hv=>?_⟩
    .rw[<-Go,e];rfl
    .rcases AA.mp hv with rfl|hv
     .exact⟨x,t,rfl⟩
     .exact h3 v hv
theorem dJ{α:Type}(d:α){l' l:Ac α}(h:l'.Perm l):∃ p:Ac Af,p.Perm (Ba l.length)/\l'=p.map λi=>l.getD i d:=by
 induction h with
 |nil=>exact⟨[],.nil,rfl⟩
 | @cons x l1 l2 h ih=>
  obtain⟨p,hp,e⟩:=ih;refine⟨0::p.map (· + 1),?_,?_⟩
  .rw[AI,EB];exact(hp.map _).cons 0
  .rw[Bz,Do,e];rfl
 | @swap x y l=>
  refine⟨1::0::(Ba l.length).map (· + 2),?_,?_⟩
  .rw[AI,AI,EB,EB,Bz,Do];exact .swap ..
  .rw[Bz,Bz,Do];show y::x::l=_
   congr 2
   apply HA
   .simp
   .intro i h1 h2;simp[h1]
 | @trans l1 l2 l3 h1 h2 ih1 ih2=>
  obtain⟨p,hp,e⟩:=ih1;obtain⟨q,hq,f⟩:=ih2;have hl:l2.length=l3.length:=h2.length_eq;have ql:q.length=l3.length:=by rw[hq.length_eq,Ho]
  refine⟨p.map λi=>q.getD i 0,?_,?_⟩
  .refine(hp.map _).trans (List.Perm.trans (List.Perm.of_eq ?_) hq)
   apply HA
   .rw[AU,Ho,hl,ql]
   .intro i h1 h2;rw[List.getElem_map,List.getElem_range];simp[h2]
  .rw[e,Do]
   apply El
   intro i hi;have hi':i<l2.length:=DG.mp (hp.mem_iff.mp hi);show l2.getD i d=l3.getD (q.getD i 0) d;have g1:l2.getD i d=(q.map λi=>l3.getD i d).getD i d:=by rw[<-f]
   rw[g1];have hq':i<q.length:=by omega
   simp[hq']
theorem Er.uniq(h:Er vs r)(h':Er vs q):r=q:=by rw[<-h.nums,<-h'.nums]
theorem Em.uniq{h:AC}{v:Aj}{r q:Ac Ah}(t:Em h v r)(u:Em h v q):r=q:=by
 obtain⟨a,its,rfl,⟨o,ho,hc,n,hd⟩,hi,_⟩:=t;obtain⟨b,its',e,⟨o',ho',hc',n',hd'⟩,hi',_⟩:=u;cases e;rw[ho]at ho';cases ho';rw[hd]at hd';cases hd';exact Er.uniq hi hi'
open Classical in
noncomputable def ltK(h:AC)(x y:Keyed):Al:=decide (∃ r q,Em h x.1 r/\Em h y.1 q/\Cf r q=Ab)
open Classical in
theorem Kw{x y:Keyed}(t:Em h x.1 r)(u:Em h y.1 q):ltK h x y=Cf r q:=by
 unfold ltK;cases e:Cf r q with
 |true=>exact Di ⟨r,q,t,u,e⟩
 |false=>
  refine By λ⟨r',q',t',u',e'⟩=>?_
  rw[t'.uniq t,u'.uniq u,e]at e';cases e'
theorem fX(h:AC):OrdK (λx=>∃ r,Em h x.1 r) (ltK h):=by
 refine⟨λ⟨r,t⟩ ⟨q,u⟩ e=>?_,λ⟨r,t⟩ ⟨q,u⟩ ⟨p,v⟩ e1 e2=>?_⟩
 .rw[Kw t u]at e;rw[Kw u t];exact LW e
 .rw[Kw u t]at e1;rw[Kw v u]at e2;rw[Kw v t];cases e:Cf p r with
  |false=>rfl
  |true=>
   by_cases a:p=q
   .rw[a,e1]at e;cases e
   .have x:=M8 a e2;have y:=Nk x e;rw[e1]at y;cases y
theorem eY:CmpS (model prog w) A s (tuples' Ab) (λx=>∃ r,Em s.heap x.1 r) (ltK s.heap):=λE st x y Q hk ⟨r,t⟩ ⟨q,u⟩ h=>by
 rw[lt'_eq];refine wpS_bind (wpS_get ?_);rw[hk];rw[Kw t u]at h;refine wpS_bind (wpS_lift (JA (nN t u ⟨rfl,?_⟩)));exact wpS_pure h
theorem kT(hr:rs.length=vs.length)(kt:∀(i:Af)(v:Aj)(r:Ac Ah),vs[i]?=Aa v->rs[i]?=Aa r->Em s.heap v r)(nd:rs.Nodup):At (model prog w) A ((sortRuns').run (KQ (tuples' Ab) (vs.toArray.zip vs.toArray) #[] 7 Ae)) (λr s'=>s'=s/\∃ p,Pm vs.length p/\LC (ltR rs) p vs.length/\(IN r.2).map (·.2)=J9 vs p/\Kj r.2=Ae) E s:=by
 have tl:(vs.toArray.zip vs.toArray).toList=vs.zip vs:=by simp
 have zl:(vs.zip vs).length=vs.length:=by simp
 have zg:∀ i (h:i<vs.length),(vs.zip vs).getD i (Bh,Bh)=(vs[i],vs[i]):=λi h=>by simp[h]
 refine sw_sortRuns (st:=KQ (tuples' Ab) (vs.toArray.zip vs.toArray) #[] 7 Ae) (Q:=λ_ st'=>∃ p,Pm vs.length p/\LC (ltR rs) p vs.length/\(IN st').map (·.2)=J9 vs p/\Kj st'=Ae) (V:=λx=>∃ r,Em s.heap x.1 r) (a0:=vs.toArray.zip vs.toArray) eY (fX s.heap) (λx hx=>?_) rfl rfl rfl rfl λst' _ hf pm so=>?_
 .rw[tl]at hx;obtain⟨i,hi,rfl⟩:=Ek hx;rw[zl]at hi;rw[List.getElem_zip];exact⟨_,kt i _ _ (AE hi) (AE (by omega:i<rs.length))⟩
 .rw[tl]at pm;obtain⟨p,hp,e⟩:=dJ (Bh,Bh) pm;rw[zl]at hp;have pl:p.length=vs.length:=by rw[hp.length_eq,Ho]
  have pn:p.Nodup:=hp.symm.nodup List.nodup_range;have pa:∀ x (h:x<vs.length),at0 p.toArray x=p[x]'(by omega):=λx h=>by simp[at0,WI,show x<p.length by omega]
  have plt:∀ x (h:x<vs.length),p[x]'(by omega)<vs.length:=λx h=>DG.mp (hp.mem_iff.mp (BM (by omega)))
  have PM:Pm vs.length p.toArray:=by
   refine⟨by simpa using pl,λx hx=>by rw[pa x hx];exact plt x hx,λx y hx hy h=>?_⟩
   rw[pa x hx,pa y hy]at h;have:=Xd.mp pn;rcases Xl x y with z|z|z
   .exact absurd h (this x y (by omega) (by omega) z)
   .exact z
   .exact absurd h.symm (this y x (by omega) (by omega) z)
  have ka:∀ x (h:x<vs.length),ka0 (IN st') x=(vs[p[x]'(by omega)]'(plt x h),vs[p[x]'(by omega)]'(plt x h)):=λx h=>by
   rw[at_list,e,Du,AE (by omega)]
   show (vs.zip vs).getD p[x] (Bh,Bh)=_;rw[zg _ (plt x h)]
  have kr:∀ x (h:x<vs.length),Em s.heap (ka0 (IN st') x).1 (rs.getD (p[x]'(by omega)) []):=λx h=>by
   rw[ka x h];have:=plt x h;refine kt _ _ _ (AE this) ?_;rw[A6,AE (by omega)]
   rfl
  have zs:(vs.toArray.zip vs.toArray).size=vs.length:=by simp
  refine⟨p.toArray,PM,λx y hxy hy=>?_,?_,hf⟩
  .have g:=so x y (Cv _) hxy (by rw[zs];exact hy)
   have hx:x<vs.length:=by omega
   have g:ltK s.heap (ka0 (IN st') y) (ka0 (IN st') x)=Ad:=g;rw[Kw (kr y hy) (kr x hx)]at g;rw[pa x hx,pa y hy];have S:=dY nd;refine S.tot _ _ (by rw[hr];exact plt y hy) (by rw[hr];exact plt x hx) (λh=>?_) g
   have:=PM.inj y x hy hx (by rw[pa x hx,pa y hy];exact h)
   omega
  .apply Hy.mp
   rw[Array.toList_map,e,Do];show _=p.map λi=>vs.getD i Bh
   apply El
   intro i hi;have hi':i<vs.length:=DG.mp (hp.mem_iff.mp hi);show ((vs.zip vs).getD i (Bh,Bh)).2=_;rw[zg i hi'];simp[hi']
theorem aK{a:Ak}{n:Af}{P:PySem.Fin->Ap->Prop}(ho:s.heap.get? a=Aa (De "list" vs.toArray n))(hr:rs.length=vs.length)(ht:∀(i:Af)(v:Aj)(r:Ac Ah),vs[i]?=Aa v->rs[i]?=Aa r->Em s.heap v r)(nd:rs.Nodup)(hz:vs.length<=1000)(h:∀ p:A9 Af,Pm vs.length p->LC (ltR rs) p vs.length->P (.done (.ret .none)) {s with heap:=sortedHeap s.heap a vs (J9 vs p)}):At (model prog w) A (Builtin.«list.sort» ⟨[.ref a],[]⟩) P E s:=by
 rw[list_sort_plain];have ha:a<s.heap.objs.size:=AL ho;refine An (listItems_at ho rfl ?_ );refine An (listUpdate_at ho rfl ?_ (by rw[AG,Bs];omega) (Cv _))
 obtain⟨e1,ho1⟩:∃ e1,(s.heap.update a (C8 λ_=>(#[]:A9 Aj))).get? a=Aa (De "list" #[] e1):=⟨_,get?_update_seq ho (λ_=>#[])⟩
 refine An (seqEpoch_at ho1 rfl ?_);refine An (Zu ?_ (by show vs.length<=_;rw[Bs];omega))
 refine An (wpAny_newList ?_ (Cv _));refine Dz ?_;have ho6:(((s.heap.update a (C8 λ_=>(#[]:A9 Aj))).push (De "tuple" vs.toArray 0)).push (De "list" #[] 0)).get? a=Aa (De "list" #[] e1):=by
  rw[FV _ _ _ (by rw[size_push',HI];exact A5 (Dv ha)),FV _ _ _ (by rw[HI];exact A5 ha)]
  exact ho1
 show At (model prog w) A _ P E { s with heap:=((s.heap.update a (C8 λ_=>(#[]:A9 Aj))).push (De "tuple" vs.toArray 0)).push (De "list" #[] 0) }
 have kt:∀(i:Af)(v:Aj)(r:Ac Ah),vs[i]?=Aa v->rs[i]?=Aa r->Em (((s.heap.update a (C8 λ_=>(#[]:A9 Aj))).push (De "tuple" vs.toArray 0)).push (De "list" #[] 0)) v r:=λi v r h1 h2=>by
  obtain⟨b,its,e,⟨o,hb,hc,q⟩,x,y⟩:=ht i v r h1 h2;have ne:b≠a:=λz=>by
   rw[z,ho]at hb;cases hb;have hc':E2 "list" = E2 "tuple" := hc
   injection hc' with hc'
   exact absurd hc' (by decide)
  refine⟨b,its,e,⟨o,?_,hc,q⟩,x,y⟩;exact Ar _ (Ar _ ((BE _ _ (B4 ne)).trans hb))
 dsimp only;have hsz:vs.toArray.size=vs.length:=by simp
 have fin:∀ p:A9 Af,Pm vs.length p->LC (ltR rs) p vs.length->∀ st':SortSt,(IN st').map (·.2)=J9 vs p->Kj st'=Ae->∀ s':Ap,s'={ s with heap:=((s.heap.update a (C8 λ_=>(#[]:A9 Aj))).push (De "tuple" vs.toArray 0)).push (De "list" #[] 0) }->At (model prog w) A (do
   let sorted:=(IN st').map (·.2)
   let touched:=(<-seqEpoch a) != e1
   Builtin.List.listUpdate (.ref a) λ_=>sorted
   if let Aa e:=Kj st' then rule "list.sort.comparison-raised"; throw e
   if touched then rule "list.sort.modified"; raiseError "ValueError" "list modified during sort"
   ret .none) P E s':=λp hp hs st' ho' hf s' es=>by
  subst es;have osz:(J9 vs p).size=vs.length:=by show (CA (p.toList.map _)).size=_;rw[AG,AU,Cm,hp.sz]
  refine An (seqEpoch_at ho6 rfl ?_);rw[ho',hf];refine An (listUpdate_at ho6 rfl ?_ (Cv _) (by rw[osz,Bs];omega))
  simp only[bne_self_eq_false,Bool.false_eq_true,KO];exact AH (h p hp hs)
 by_cases h2:vs.toArray.size<2
 .rw[As h2,As h2];refine An (AH ?_);rw[StateT.run_pure];refine An (AH ?_);dsimp only;refine fin (CA (Ba vs.length)) (dC _) (λx y a b=>by omega) (KQ general' (vs.toArray.zip vs.toArray) #[] 7 Ae) ?_ rfl _ rfl
  rw[dA];show (vs.toArray.zip vs.toArray).map (·.2)=vs.toArray
  apply Hy.mp
  simp[List.map_snd_zip]
 .rw[AB h2,AB h2];have h2':2<=vs.length:=by rw[hsz]at h2;omega
  obtain⟨fs,t1,t2,t3⟩:=Sh hr kt;refine An (kat_kind t1 (by omega) (T:=E2 "int") (λv hv=>?_) rfl ?_)
  .obtain⟨x,t,rfl⟩:=t3 v hv;exact .now
  .have e0:tuples' (E2 "int" != E2 "tuple")=tuples' Ab:=rfl;rw[e0];refine An (A3 (kT hr kt nd) ?_ λ_ _ e=>e)
   rintro⟨⟨⟩,st'⟩ s' ⟨es,p,hp,hs,ho',hf⟩;exact fin p hp hs st' ho' hf s' es
theorem bH{l:Ak}{Q:Vq}(hl:s.heap.IsList l vs.toArray)(hr:rs.length=vs.length)(ht:∀(i:Af)(v:Aj)(r:Ac Ah),vs[i]?=Aa v->rs[i]?=Aa r->Em s.heap v r)(nd:rs.Nodup)(hz:vs.length<=1000)(h:∀ p:A9 Af,Pm vs.length p->LC (ltR rs) p vs.length->Q (.ref (s.heap.objs.size+1)) {s with heap:=sortedAll s.heap vs (J9 vs p)}):
    At (model prog w) A (call (.builtin "sorted") [.ref l]) Q E s:=by
  refine Calls.call_function_entry kind_sorted plain_sorted entry_sorted (args_sorted1 _) ?_;unfold Builtin.«sorted»;refine An (m:=checkCount "sorted" 1 1 _) (AH ?_);refine An (collect_list hl ?_ (by rw[Bs];omega))
  refine An (wpAny_newList ?_ (by rw[Bs];omega))
  have hsz:((s.heap.push (De "list" #[] 0)).update s.heap.objs.size (C8 (· ++ vs.toArray))).objs.size=s.heap.objs.size+1:=by
    rw[HI,size_push']
  have hoL:(((s.heap.push (De "list" #[] 0)).update s.heap.objs.size (C8 (· ++ vs.toArray))).push (De "list" vs.toArray 0)).get? (s.heap.objs.size+1)=Aa (De "list" vs.toArray 0):=by
    rw[<-hsz];exact AN _ rfl
  have keep:∀ b o,s.heap.get? b=Aa o->(((s.heap.push (De "list" #[] 0)).update s.heap.objs.size (C8 (· ++ vs.toArray))).push (De "list" vs.toArray 0)).get? b=Aa o:=λb o q=>by
    have hlt:b<s.heap.objs.size:=AL q;rw[FV _ _ _ (by rw[hsz];exact A5 (Dv hlt)),GQ _ _ _ _ (A5 hlt),FV _ _ _ (A5 hlt)]
    exact q
  show At _ _ _ _ _ { s with heap:=((s.heap.push (De "list" #[] 0)).update s.heap.objs.size (C8 (· ++ vs.toArray))).push (De "list" vs.toArray 0) }
  rw[hsz];refine An (Dz (Eh slot_list_sort ⟨_,hoL,rfl⟩ entry_list_sort (aK (s:={ s with heap:=((s.heap.push (De "list" #[] 0)).update s.heap.objs.size (C8 (· ++ vs.toArray))).push (De "list" vs.toArray 0) }) hoL hr (λi v r h1 h2=>(ht i v r h1 h2).kept keep) nd hz λp hp hs=>⟨_,rfl,?_⟩) (args_list_sort _)))
  exact AH ⟨_,rfl,h p hp hs⟩
end
end Ov
section
namespace Ov
noncomputable def tI(r:Ac Ah):D:=.tup (r.map D.int)
theorem OX:∀(r q:Ac Ah),eqDs (r.map D.int) (q.map D.int)=decide (r=q)
 |[],[]=>rfl
 |[],_::_=>rfl
 |_::_,[]=>rfl
 |x::r,y::q=>by
  have e:eqDs ((x::r).map D.int) ((y::q).map D.int)=(x==y&&eqDs (r.map D.int) (q.map D.int)):=rfl;rw[e,OX r q];by_cases h:x=y<;>by_cases g:r=q<;>simp[h,g]
theorem Vk(r q:Ac Ah):eqD (tI r) (tI q)=decide (r=q):=OX r q
theorem RN:∀(r q:Ac Ah),ltD.ltDs (ltD 0) (r.map D.int) (q.map D.int)=Cf r q
 |[],[]=>rfl
 |[],_::_=>rfl
 |_::_,[]=>rfl
 |x::r,y::q=>by
  have e:ltD.ltDs (ltD 0) ((x::r).map D.int) ((y::q).map D.int)=if (x==y)=Ab then ltD.ltDs (ltD 0) (r.map D.int) (q.map D.int) else decide (x<y):=rfl
  have e':Cf (x::r) (y::q)=if x=y then Cf r q else decide (x<y):=rfl
  rw[e,e',RN r q];by_cases h:x=y<;>simp[h]
theorem rK(r q:Ac Ah):ltD 1 (tI r) (tI q)=Cf r q:=RN r q
theorem Uf:∀{xs:Ac D},xs.all (rkD 0)=Ab->∃ r:Ac Ah,xs=r.map D.int
 |[],_=>⟨[],rfl⟩
 |x::xs,h=>by
  rw[B0,Ai]at h;obtain⟨r,e⟩:=Uf h.2;cases x with
  |int i=>exact⟨i::r,by rw[e];rfl⟩
  |_=>cases h.1
theorem tS{d:D}(h:rkD 1 d=Ab):∃ r,d=tI r:=by
 cases d with
 |tup xs=>
  obtain⟨r,e⟩:=Uf (xs:=xs) h;exact⟨r,by rw[e];rfl⟩
 |_=>cases h
theorem UO:∀{xs:Ac D},xs.all (λd=>rkD 1 d && !eqD d (.tup []))=Ab->∃ rs:Ac (Ac Ah),xs=rs.map tI/\∀ r∈rs,r≠[]
 |[],_=>⟨[],rfl,λr h=>by cases h⟩
 |x::xs,h=>by
  rw[B0,Ai,Ai]at h;obtain⟨rs,e,hn⟩:=UO h.2;obtain⟨r,e1⟩:=tS h.1.1;refine⟨r::rs,by rw[e,e1];rfl,λq hq=>?_⟩
  rcases AA.mp hq with rfl|hq
  .intro z;have h2:=h.1.2;rw[e1,z]at h2;cases h2
  .exact hn q hq
theorem UP:∀{rs:Ac (Ac Ah)},(∀ r∈rs,r≠[])->(rs.map tI).all (λd=>rkD 1 d && !eqD d (.tup []))=Ab
 |[],_=>rfl
 |r::rs,h=>by
  rw[Bz,B0,Ai,Ai];refine⟨⟨?_,?_⟩,UP λq hq=>h q (Aw _ hq)⟩
  .show (r.map D.int).all (rkD 0)=Ab;rw[Bw];intro d hd;obtain⟨i,_,rfl⟩:=Fv.mp hd;rfl
  .have e:eqD (tI r) (.tup [])=decide (r=[]):=OX r [];rw[e];have:=h r (AJ ..);simp[this]
noncomputable def IE(x:Ac Ah):Ac (Ac Ah)->Ac (Ac Ah)
 |[]=>[x]
 |y::ys=>if Cf y x=Ab then y::IE x ys else x::y::ys
noncomputable def GK:Ac (Ac Ah)->Ac (Ac Ah)
 |[]=>[]
 |x::xs=>IE x (GK xs)
theorem UB(x:Ac Ah):∀ ys:Ac (Ac Ah),LB (ltD 1) (tI x) (ys.map tI)=(IE x ys).map tI
 |[]=>rfl
 |y::ys=>by
  have e:LB (ltD 1) (tI x) ((y::ys).map tI)=if ltD 1 (tI y) (tI x)=Ab then tI y::LB (ltD 1) (tI x) (ys.map tI) else tI x::tI y::ys.map tI:=rfl
  have e':IE x (y::ys)=if Cf y x=Ab then y::IE x ys else x::y::ys:=rfl
  rw[e,e',rK,UB x ys];by_cases h:Cf y x=Ab<;>simp[h]
theorem Px:∀ rs:Ac (Ac Ah),NB (ltD 1) (rs.map tI)=(GK rs).map tI
 |[]=>rfl
 |r::rs=>by
  show LB (ltD 1) (tI r) (NB (ltD 1) (rs.map tI))=(IE r (GK rs)).map tI;rw[Px rs,UB]
theorem Pf(x:Ac Ah):∀ ys:Ac (Ac Ah),(IE x ys).Perm (x::ys)
 |[]=>.refl _
 |y::ys=>by
  show (if Cf y x=Ab then y::IE x ys else x::y::ys).Perm _
  split
  .exact(IG y (Pf x ys)).trans (List.Perm.swap ..)
  .exact .refl _
theorem L6:∀ rs:Ac (Ac Ah),(GK rs).Perm rs
 |[]=>.refl _
 |r::rs=>(Pf r _).trans (IG r (L6 rs))
theorem UC(x:Ac Ah):∀{ys:Ac (Ac Ah)},x∉ys->ys.Pairwise (λa b=>Cf a b=Ab)->(IE x ys).Pairwise (λa b=>Cf a b=Ab)
 |[],_,_=>List.pairwise_singleton ..
 |y::ys,hx,h=>by
  show (if Cf y x=Ab then y::IE x ys else x::y::ys).Pairwise _
  obtain⟨h1,h2⟩:=List.pairwise_cons.mp h;by_cases g:Cf y x=Ab
  .rw[As g];refine Xc.mpr ⟨λz hz=>?_,UC x (λm=>hx (Aw _ m)) h2⟩
   rcases AA.mp ((Pf x ys).mem_iff.mp hz) with rfl|hz
   .exact g
   .exact h1 z hz
  .rw[AB g];have g':Cf y x=Ad:=by simpa using g
   have xy:Cf x y=Ab:=M8 (λe=>hx (by rw[e];exact AJ ..)) g'
   refine Xc.mpr ⟨λz hz=>?_,h⟩
   rcases AA.mp hz with rfl|hz
   .exact xy
   .exact Nk xy (h1 z hz)
theorem Py:∀{rs:Ac (Ac Ah)},rs.Nodup->(GK rs).Pairwise (λa b=>Cf a b=Ab)
 |[],_=>.nil
 |r::rs,h=>by
  obtain⟨h1,h2⟩:=Eu.mp h;exact UC r (λm=>h1 ((L6 rs).mem_iff.mp m)) (Py h2)
theorem RZ{ys rs:Ac (Ac Ah)}(nd:rs.Nodup)(hs:ys.Pairwise (λa b=>Cf a b=Ab))(hp:ys.Perm rs):GK rs=ys:=by
 refine List.Perm.eq_of_pairwise (le:=λa b=>Cf a b=Ab) (λa b _ _ h1 h2=>?_) (Py nd) hs ((L6 rs).trans hp.symm)
 rw[LW h1]at h2;cases h2
theorem Tl{α:Type}[DecidableEq α]:∀{l m:Ac α},l.Nodup->(∀ x∈l,x∈m)->m.length<=l.length->l.Perm m
 |[],m,_,_,hl=>by
  cases m with
  |nil=>exact .refl _
  |cons a m=>simp at hl
 |x::l,m,nd,hs,hl=>by
  obtain⟨h1,h2⟩:=Eu.mp nd;have hx:x∈m:=hs x (AJ ..);have hp:=List.perm_cons_erase hx;refine(IG x (Tl h2 (λy hy=>?_) ?_)).trans hp.symm
  .refine(List.mem_erase_of_ne (λe=>h1 (by rw[<-e];exact hy))).mpr (hs y (Aw _ hy))
  .have:=List.length_erase_of_mem hx;simp at hl;omega
theorem RM{ys:Ac (Ac Ah)}(h:ys.Pairwise (λa b=>Cf a b=Ab)):ys.Nodup:=
 h.imp λ{a b} g e=>by
  subst e;have:=LW g;rw[g]at this;cases this
theorem cR{α:Type}[DecidableEq α]{l m:Ac α}(hl:l.Nodup)(hm:m.Nodup)(h:∀ x,x∈l↔x∈m):l.Perm m:=by
 rw[List.perm_iff_count];intro a;rw[hl.count,hm.count];simp[h]
theorem PJ:∀ rs:Ac (Ac Ah),LA (rs.map tI)=Ab↔rs.Nodup
 |[]=>by simp[LA]
 |r::rs=>by
  have e:LA ((r::rs).map tI)=((rs.map tI).all (λy=>!eqD (tI r) y)&&LA (rs.map tI)):=rfl
  rw[e,Ai,PJ rs,List.nodup_cons];refine and_congr ?_ Iff.rfl;rw[Fu,Bw];constructor
  .intro h m;have:=h r m;simp[Vk]at this
  .intro h q hq;have:r≠q:=λz=>h (by rw[z];exact hq)
   simp[Vk,this]
theorem bJ{rs ys:Ac (Ac Ah)}(hn:∀ r∈rs,r≠[])(nd:rs.Nodup)(hz:rs.length<=1000)(hs:ys.Pairwise (λa b=>Cf a b=Ab))(hm:∀ r,r∈ys↔r∈rs):GH (rs.map tI)=.ok (ys.map tI):=by
 unfold GH;rw[As (by rw[UP hn,(PJ rs).mpr nd,AU,Di hz];rfl),Px,RZ nd hs (cR (RM hs) nd hm)]
theorem bI{xs:Ac D}{d:Ac D}(h:GH xs=.ok d):∃ rs:Ac (Ac Ah),xs=rs.map tI/\(∀ r∈rs,r≠[])/\rs.Nodup/\rs.length<=1000/\d=(GK rs).map tI:=by
 unfold GH at h;split at h
 .next g=>
  rw[Ai,Ai,Az]at g;obtain⟨rs,e,hn⟩:=UO g.1.1;subst e;rw[Px]at h;cases h;exact⟨rs,rfl,hn,(PJ rs).mp g.1.2,by simpa using g.2,rfl⟩
 .cases h
open PySem PySem.Spec PyProof.Rows L2
variable{n:Af}{p:A9 Af}
section
variable{X:Cx}{CL:ClA}{W:XW}
theorem Sd{K:Fg}{H:Hp}{A:Ak->Prop}:∀{is:Ac Ah}{ys:Ac V},Reps K CL H A ys (is.map D.int)->ys=is.map V.int
 |[],[],_=>rfl
 |[],_::_,r=>r.elim
 |_::_,[],r=>r.elim
 |i::is,y::ys,r=>by
  have e1:y=.int i:=r.1;rw[Sd r.2,e1];rfl
theorem Ta:∀{is:Ac Ah}{its:Ac Aj},AZ (is.map V.int) its->Er its is
 |[],_,h=>by cases h;exact .nil
 |i::is,_,h=>by
  cases h with
  |cons h1 h2=>
   obtain⟨t,rfl⟩:=h1;exact .cons i t (Ta h2)
theorem Ts{pI:Pn}{s:Ap}{Y:Ac (Ao V)}{H:Hp}{A:Ak->Prop}(I:Inv X pI Y H s):∀{rs:Ac (Ac Ah)}{ys:Ac V}{its:Ac Aj},Reps X.K CL H A ys (rs.map tI)->AZ ys its->(∀ r∈rs,r≠[])->∀(i:Af)(v:Aj)(r:Ac Ah),its[i]?=Aa v->rs[i]?=Aa r->Em s.heap v r
 |[],_,_,_,_,_,i,v,r,_,e=>by cases e
 |_::_,[],_,h,_,_,_,_,_,_,_=>h.elim
 |q::rs,y::ys,_,h,hv,hn,i,v,r,e1,e2=>by
  cases hv with
  |cons h1 h2=>
   cases i with
   |succ i=>exact Ts I h.2 h2 (λr m=>hn r (Aw _ m)) i v r e1 e2
   |zero=>
    cases e1;cases e2;have h0:Cw X.K CL H A y (.tup (q.map D.int)):=.inl h.1;obtain⟨a,xs,rfl,_,sq,rx⟩:=h0.tup_of;obtain⟨its,hi,ht,_⟩:=I.tuple sq;rw[Sd rx]at hi;cases h1;exact⟨a,its.toArray,rfl,ht,Ta hi,hn q (AJ ..)⟩
theorem RV{ys:Ac V}{its:Ac Aj}(h:AZ ys its):∀ l:Ac Af,(∀ i∈l,i<ys.length)->AZ (l.map λi=>ys.getD i .non) (l.map λi=>its.getD i Bh)
 |[],_=>.nil
 |i::l,hl=>by
  have hi:i<ys.length:=hl i (AJ ..);have e:ys[i]?=Aa ys[i]:=AE hi;obtain⟨u,e2,r⟩:=h.get e;refine .cons ?_ (RV h l λj hj=>hl j (Aw _ hj))
  show Bq (ys.getD i .non) (its.getD i Bh);rw[A6,A6,e,e2];exact r
theorem Ug{K:Fg}{H:Hp}{A:Ak->Prop}:∀{ys:Ac V}{ds:Ac D}{i:Af},Reps K CL H A ys ds->i<ds.length->Rep K CL H A (ys.getD i .non) (ds.getD i .non)
 |[],[],_,_,h=>by cases h
 |[],_::_,_,r,_=>r.elim
 |_::_,[],_,r,_=>r.elim
 |y::ys,d::ds,0,r,_=>r.1
 |y::ys,d::ds,i+1,r,h=>Ug (ys:=ys) (ds:=ds) (i:=i) r.2 (Nat.lt_of_succ_lt_succ h)
theorem R7{K:Fg}{H:Hp}{A:Ak->Prop}{ys:Ac V}{ds:Ac D}(h:Reps K CL H A ys ds):∀ l:Ac Af,(∀ i∈l,i<ds.length)->Reps K CL H A (l.map λi=>ys.getD i .non) (l.map λi=>ds.getD i .non)
 |[],_=>trivial
 |i::l,hl=>⟨Ug h (hl i (AJ ..)),R7 h l λj hj=>hl j (Aw _ hj)⟩
theorem Nz(hp:Pm n p):∀ i∈p.toList,i<n:=λi hi=>by
 obtain⟨j,hj,e⟩:=List.mem_iff_getElem.mp hi;have hj':j<n:=by rw[<-hp.sz];simpa using hj
 have:=hp.lt j hj';unfold at0 at this;rw[WJ,<-Go,AE hj,e]at this;exact this
theorem VL(hp:Pm n p){j:Af}(hj:j<p.toList.length):at0 p j=p.toList[j]:=by
 unfold at0;rw[WJ,<-Go,AE hj];rfl
theorem cX{rs:Ac (Ac Ah)}(nd:rs.Nodup)(hp:Pm rs.length p)(hs:LC (ltR rs) p rs.length):p.toList.map (λi=>rs.getD i [])=GK rs:=by
 have hl:p.toList.length=rs.length:=by rw[Cm,hp.sz]
 have pw:(p.toList.map (λi=>rs.getD i [])).Pairwise (λa b=>Cf a b=Ab):=by
  rw[List.pairwise_map,List.pairwise_iff_getElem];intro i j hi hj hij;have:=hs i j hij (by omega)
  rw[VL hp hi,VL hp hj]at this;exact this
 refine(RZ nd pw (Tl (RM pw) (λx hx=>?_) (by rw[AU,hl];exact AK _))).symm
 obtain⟨i,hi,rfl⟩:=Fv.mp hx;have:=Nz hp i hi;rw[A6,AE this];exact BM this
theorem eP:NZ X CL W (.builtin "sorted") (biD .sorted):=by
  intro A H0 pI s Y H xs us Q I r ⟨s0,hA,ds,rs,p⟩;by_cases hls:∃ es,ds=[.lst es]
  · obtain⟨es,rfl⟩:=hls;obtain⟨v,rfl,rv⟩:=rs.one;obtain⟨q,ys,rfl,sq,ry⟩:=rv.lst_of;have p':AV (DK X.K CL Ab H0 A) W H ((GH es).bind λb=>.ok (.lst b)) Q:=p
    cases hd:GH es with
    |exn x=>
      unfold GH at hd;split at hd<;>cases hd
    |bad=>
      rw[hd]at p';exact p'.elim
    |ok d=>
      rw[hd]at p';obtain⟨rs',rfl,hn,nd,h1000,rfl⟩:=bI hd;obtain⟨u,rfl,rx⟩:=HS r;cases rx;obtain⟨its,hv,pl,hz⟩:=I.list sq;have l1:ys.length=rs'.length:=by rw[ry.length,AU]
      have l2:ys.length=its.length:=hv.length;refine bH pl.isList (by omega) (Ts I ry hv hn) nd (by omega) λpp hp hs=>?_
      rw[<-l2,l1]at hp hs;have e1:=cX nd hp hs;have rp:=R7 ry pp.toList (λi hi=>by rw[AU];exact Nz hp i hi)
      have e2:(pp.toList.map λi=>(rs'.map tI).getD i .non)=(GK rs').map tI:=by
        rw[<-e1,Do]
        apply El
        intro i hi;have:=Nz hp i hi;simp[AE this]
      rw[e2]at rp;have vp:=RV hv pp.toList (λi hi=>by rw[l1];exact Nz hp i hi)
      obtain⟨c,hat⟩:=sortedAll_at s.heap its (J9 its pp);have hf:=I.hok.fresh (F4 s.heap.objs.size);refine⟨.ref (s.heap.objs.size+1),_,I.laid (t':=s.toks) (λb o hb=>sortedAll_old hb) (F4 _) (o:=.lst (pp.toList.map λi=>ys.getD i .non)) ?_,rfl,p' _ _ (En hf _) (Jd s0 hA hf rp)⟩
      refine⟨?_,pp.toList.map λi=>its.getD i Bh,c,vp,hat⟩
      rw[AU,Cm,hp.sz,Bs];omega
  · have e:biD .sorted ds=.bad:=by
      match ds with
      |[]=>rfl
      |[x]=>cases x<;>first|rfl|exact absurd ⟨_,rfl⟩ hls
      |x::_::_=>cases x<;>rfl
    rw[e]at p;exact p.elim
end
end Ov
end
section
namespace Ov
open PySem PySem.Spec PyProof.Rows
section
variable{t:SetTable}{hashAt:Af->Ah}{h:Ah}
noncomputable def stand(i b:Af):SetTable.Probe:=⟨i,0,i,b,Ae⟩
end
section
variable{prog:AO}{w:A1}{A:AW}{E:Vq}{s:Ap}{K:Type} [DecidableEq K] {knd:KeyKind prog w K}
end
section
variable{prog:AO}{w:A1}{A:AW}{R:HK->Ap->Prop}{I:Ak}{fp wr:Ac Ak}{G:A9 ED->A9 ED->Prop}{n:Af}{P:Af->Aj->Prop}{St:Af->Ap->Prop}
end
section
variable{prog:AO}{w:A1}{A:AW}{E:Vq}{s:Ap}
end
end Ov
end
namespace Ov
open PySem PySem.Spec PyProof.Rows L2
variable{P:AO}{w:A1}{H H':Hp}{h h':AC}{oe:Da}{vs:A9 Aj}{Q:D0->Ap->Prop}{T' C C' OV:Ak}{a0 fv:Aj}{X:Cx}{pI pl:Pn}{Y Y0:L2.St}{K:Fg}{x g z par name qual x0:Ag}{v:Ao Aj}{M:GC}{tk:CG}{fill expr:Al}{φ:AC->Prop}{CL:ClA}{Fz:Fr}{B A A':Ak->Prop}{U U':Rho}{W:XW}{hs body:Ac AM}{h0:AM}{p1 pos p pos' p2 p3 apos cpos:AF}{fh:Rho->O}{dx:Ao Ak}{up:Af->Ac Af}{CX:CXT}{k c kk:Af}{fd:Bx}{ps N':Ac Ag}{F:Ac D->R D}{Xw:Vq}{fs:Rho->R (Ac D)}{xn:Af->Ac D->R Ex}{d d1 d2 d':D}{Rp:Hp->V->D->Prop}{fc:Rho->R Al}{ev tg elt:Am}{fy fo fe:Rho->R D}{ms:Ac (Af×Af)}{Z:Gam}{D':Ends}{scope:BP}{ts:Ac Af}{us:Ac Aj}{α:Type}{env:Cj}{as:Es}{xs ys:Ac Am}{u:D0}
section
variable{X:Cx}
def Of(K:Fg)(H:Hp):Ac V->Ac (Ac Ah)->Prop
 |[],[]=>HM
 |x::xs,k::ks=>(∃ b,x=.ref b/\SqT K H b (k.map V.int))/\Of K H xs ks
 |_,_=>AX
theorem Of.length{K:Fg}{H:Hp}:∀{xs:Ac V}{ks:Ac (Ac Ah)},Of K H xs ks->xs.length=ks.length
 |[],[],_=>rfl
 |_::_,_::_,h=>congrArg (· + 1) (Of.length h.2)
 |[],_::_,h=>h.elim
 |_::_,[],h=>h.elim
variable{CL:ClA}{W:XW}{pos p pos' p':AF}{a:Am}{fa:Rho->R D}
end
section
theorem lL(l:Ak)(items:A9 Aj)(n:Af)(b:Ak)(items2:A9 Aj)(n2:Af)(dd:Ao Ak)(sl:A9 (Ao Aj))(hs0:¬(!items.isEmpty&&Dq (items.size+items2.size))=Ab)(hs1:items.size<=sizeLine)(hs2:items.size+items2.size<=sizeLine+1):
  Meets (Builtin.«list.extend» ⟨[.ref l,.ref b],[]⟩) (λ_ R s=>s.heap.get? l=Aa { cls:=.type "list",dict:=Ae,data:=.seq items n,slots:=#[] }/\s.heap.get? b=Aa { cls:=.type "tuple",dict:=dd,data:=.seq items2 n2,slots:=sl }/\R (.ok (.ret Bh)) {s with heap:=s.heap.update l (C8 λx=>x++items2),toks:=s.toks}):=
 .of_wp λprog w A R s h=>by
  obtain⟨hp,g,d,tk,os⟩:=s;obtain⟨hl,hb,h⟩:=h;have f1:=AutoSeq1.idx_int;have f2:=AutoSeq1.sub_tuple_tuple;have f3:=AutoSeq1.sub_list_list;have f4:=AutoSeq1.sub_tuple_list;have f5:=AutoSeq1.sub_list_tuple;
  have hz':(items++items2).size<=sizeLine+1:=by rw[WK];exact hs2
  wp_walk using (wpAny_updateSeq hl rfl (hz:=hs1) (_hz':=hz')),XD hl,XD hb;exact⟨_,rfl,h⟩
end
section
variable{X:Cx}
def vO(K:Fg):V->Ac V->Hp->VK->Prop:=λx vs H Q=>∃ l b xs zs,x=.ref l/\vs=[.ref b]/\H l=Aa (.lst xs)/\SqT K H b zs/\xs.length+zs.length<=sizeLine/\Q .non (upd H l (.lst (xs++zs)))
theorem mG:MtM X "list.extend" (vO X.K):=by
 intro pI s Y H x vs v us Q I rx rv h;obtain⟨l,b,xs,zs,rfl,rfl,hH,hB,hz,q⟩:=h;cases rx;obtain⟨u,rfl,ru⟩:=rv.one;cases ru;obtain⟨z,its,n,r,hl,e⟩:=I.lstM hH;obtain⟨its2,r2,⟨o,e2,c2,n2,d2⟩,z2⟩:=I.tuple hB;have hl2:=r2.length;obtain⟨oc,od,oda,os⟩:=o;dsimp only at c2 d2;subst c2 d2;have hsz:its.toArray.size+its2.toArray.size<=sizeLine:=by rw[AG,AG];omega
 have hlong:¬ (!its.toArray.isEmpty&&Dq (its.toArray.size+its2.toArray.size))=Ab:=by
  rw[SY hsz,FJ];exact Au
 refine Ey EO ⟨_,e,rfl⟩ Yt (Yo _ _)
  (lL l its.toArray n b its2.toArray n2 od os hlong (by rw[AG];omega) (by omega)) ⟨e,e2,?_⟩
 refine⟨.non,_,I.lset (its':=its++its2) hH e (by simp) (r.append r2) ?_,rfl,q⟩
 rw[Bj];omega
variable{CL:ClA}{W:XW}{o e:Am}{fe:Rho->R D}{i:Af}{apos cpos pos:AF}
theorem gX(ho:PE X o (Ej i))(he:ST X CL W e fe)(hbase:BO o "extend" X.env (eval o X.env)=eval o X.env)(hfew:((Bo cpos (Aq [e] X.env)).all (λx=>!x.1)&&(FA cpos (Ec [] X.env)).all (λx=>x.1.isSome)&&decide ([e].length+([]:Ac C4).length+(if ([]:Ac C4).isEmpty then 0 else 1)<30))=Ab)(hline:(apos.endLine==cpos.line)=Ab)(hs:Aq [e] X.env=[(Ad,eval e X.env)])(hsw:Cn (.Call (.Attribute o "extend" apos) [e] [] cpos) Ae pos.line X.env=pure Ad):
  SS X CL W (.Expr (.Call (.Attribute o "extend" apos) [e] [] cpos) pos) (λU=>O.of U (Ck U i) λxs=>O.of U (fe U) λx=>O.of U ((CN .Add x (.tup [])).bind λy=>biD .list [y]) λd=>O.of U (J7 d) λys=>if BG (xs.length+ys.length)=Ab then .next (U.set i (Aa (.lst (xs++ys),Ab))) else .bad):=λFz B pI s Y H D I ⟨U,x,p⟩=>by
 refine Ir (Lu DB EO YC mG ho (DJ (he (Bf B U Y)) ET hs) hbase hfew hline hs rfl) hsw pI s Y H D I ?_;dsimp only at p;cases e1:Ck U i with
 |bad=>rw[e1]at p;exact p.elim
 |exn z=>exact(M2 e1).elim
 |ok ds=>
  rw[e1,O.of_ok]at p;have hi:=Nc e1;obtain⟨a,xs,ds',q,e2,ha,hh,r⟩:=x.good.ow i _ hi (λz=>nomatch z)
  cases e2;refine⟨_,q,.inl ⟨rfl,xs,SqL.of hh⟩,x.aok,U,x.good,Bv.ex x p λd v H' _ s rv x' q'=>?_⟩
  cases d with
  |tup es=>
   obtain⟨b,ys,rfl,h0,h1,rs⟩:=Cw.tup_of rv;have eb:CN .Add (.tup es) (.tup [])=if (!es.isEmpty&&BG (es.length+0))=Ab then .ok (.tup (es++[])) else .bad:=rfl
   rw[eb]at q';split at q'
   .rw[R.bind_ok,show biD .list [.tup (es++[])]=.ok (.lst (es++[])) from rfl,O.of_ok,SD,O.of_ok,Bg]at q'
    split at q'
    .rename_i hz;refine⟨a,b,xs,ys,rfl,rfl,s _ _ hh,h1,?_,q' _ _ (x'.upd hi q ((r.same s).append rs))⟩;rw[r.length,rs.length];exact IZ hz
    .exact q'.elim
   .exact q'.elim
  |_=>exact q'.elim
end
section
open PySem.AutoSeq1 (wpAny_loadPart')
end
section
variable{prog:AO}{w:A1}{A:AW}{R:HK->Ap->Prop}{I S T:Ak}{u v:Aj}{c:Af}{P:Af->Aj->Prop}{St:Af->AC->Prop}{s:Ap}{r q:Ac Ah}
end
section
variable{X:Cx}{CL:ClA}{W:XW}
end
def H9(e T:Ak)(cls:Aj)(dx:Ao Ak)(fl:Aj)(h:AC):Prop:=∃ oe vs oT ts a0,h.get? e=Aa oe/\oe.cls=cls/\oe.dict=dx/\vs[0]?=Aa a0/\oe.data=.fields vs/\vs[1]?=Aa (.ref T)/\T≠e/\h.get? T=Aa oT/\oT.data=.fields ts/\ts[3]?=Aa fl
noncomputable abbrev Fly(e T:Ak)(cls:Aj)(dx:Ao Ak)(h:AC):Prop:=H9 e T cls dx Bh h
noncomputable def Gf(C:Ak)(dx:Ao Ak)(t:Ak):Da:={cls:=.ref C,dict:=dx,data:=.fields #[.ref t,.none,.none,.none,.bool Ad,.none]}
structure Shift (ex fs:Ac Ak) (h h':AC):Prop where
 keep:∀ b o,h.get? b=Aa o->b∉ex->b∉fs->h'.get? b=Aa o
 slot:∀ b o,h.get? b=Aa o->b∈fs->∃ sl,h'.get? b=Aa {o with slots:=sl}
theorem ObjOk.isThere{a:Ak}:∀(o:HO),L2.ObjOk P w H h a o->∃ ob,h.get? a=Aa ob
 |.lst _,x=>by obtain⟨_,_,_,_,e⟩:=x;exact⟨_,e⟩
 |.tup _,x=>by obtain⟨_,_,_,p⟩:=x;obtain⟨o,e,_⟩:=p;exact⟨_,e⟩
 |.dK _,x=>by obtain⟨_,_,_,_,o,_,_,e,_⟩:=x;exact⟨_,e⟩
 |.dT _,x=>by obtain⟨_,_,_,_,o,_,_,e,_⟩:=x;exact⟨_,e⟩
 |.set _ _,x=>by obtain⟨o,_,_,_,e,_⟩:=x;exact⟨_,e⟩
 |.ins _ _ _,x=>by obtain⟨_,_,_,e,_⟩:=x;exact⟨_,e⟩
 |.own _,x=>x
 |.xd _,x=>by obtain⟨_,⟨_,_,_,e,_⟩,_⟩:=x;exact⟨_,e⟩
 |.met _ _,x=>⟨_,x⟩
 |.rng _ _,x=>by obtain⟨_,_,_,e⟩:=x;exact⟨_,e⟩
 |.frz _ _,x=>⟨_,x.1⟩
 |.tbl _,x=>⟨_,x⟩
 |.ext _,x=>x.2.1
theorem Ix{a:Ak}(x:HOk P w H h)(e:h.get? a=Ae):H a=Ae:=by
 cases q:H a with
 |none=>rfl
 |some o=>
  obtain⟨ob,z⟩:=ObjOk.isThere o (x a o q);rw[e]at z;cases z
theorem HOk.shift{ex fs:Ac Ak}(x:HOk P w H h)(sh:Shift ex fs h h')(h1:∀ b∈ex,H b=Ae)(h2:∀ b∈fs,H b=Ae):HOk P w H h':=λa o e=>
 (x a o e).stay (λb u hb q=>by
  have hs:∃ v,H b=Aa v:=by
   rcases hb with rfl|hb
   .exact⟨_,e⟩
   .exact⟨_,hb⟩
  obtain⟨v,hv⟩:=hs;exact sh.keep b u q (λz=>by rw[h1 b z]at hv;cases hv) (λz=>by rw[h2 b z]at hv;cases hv)) (λ_ q=>q) λ_ _ q=>q
theorem Un.shift{fs0 fs ex:Ac Ak}{h0:AC}(u:Un fs0 [] H H' h0 h)(sh:Shift ex fs h h')(h1:∀ b∈ex,h0.get? b=Ae)(h2:∀ b∈fs,b∈fs0\/h0.get? b=Ae):Un fs0 [] H H' h0 h' where
 keep:=λb o q n hb hx=>sh.keep b o (u.keep b o q n hb hx) (λz=>by rw[h1 b z]at q;cases q) λz=>(h2 b z).elim hb λe=>by rw[e]at q;cases q
 slot:=λb o q n hb hx=>by
  obtain⟨sl,e1⟩:=u.slot b o q n hb hx;by_cases hf:b∈fs
  .obtain⟨sl',e2⟩:=sh.slot b _ e1 hf;exact⟨sl',e2⟩
  .exact⟨sl,sh.keep b _ e1 (λz=>by rw[h1 b z]at q;cases q) hf⟩
 free:=u.free
 there:=λb o q hx=>by
  obtain⟨o',e1⟩:=u.there b o q hx;by_cases hf:b∈fs
  .obtain⟨sl',e2⟩:=sh.slot b _ e1 hf;exact⟨_,e2⟩
  .exact⟨o',sh.keep b _ e1 (λz=>by rw[h1 b z]at q;cases q) hf⟩
 tups:=u.tups
 frzs:=u.frzs
 tbls:=u.tbls
theorem lT(f:A9 Aj->A9 Aj)(o:Da):(Fa f o).dict=o.dict:=by
 obtain⟨c,d,dt,sl⟩:=o;cases dt<;>rfl
section
variable{M:GC}{A:AW}{E:Vq}{s:Ap}{env:Cj}{outer:Ac Cj}{L e T:Ak}{cls:Aj}{dx:Ao Ak}{base h:AC}
theorem OG{hd:Aj}{nx:Al}(hfr:A.frames=Aa (env::outer))(hf:env.frame=Aa L)(ff:s.heap.FunFrames base (env::outer))(he:s.heap.get? e=Aa oe)(dt:oe.data=.fields vs)(hz:1<vs.size)(hQ:∀ h' T' oT ts,h'.get? e=Aa (Fa (·.setIfInBounds 1 (.ref T')) oe)->T'≠e->s.heap.get? T'=Ae->h'.get? T'=Aa oT->oT.data=.fields ts->ts[3]?=Aa (DD L)->Shift [e] (frs (env::outer)) s.heap h'->Q () {s with heap:=h'}):
  At M A (do
   let fr <-frameOf env
   let pl <-entryPlaceOf L nx
   let en <-XS hd fr .none (DD L) .none pl
   setField (.ref e) 1 en) Q E s:=by
 have nf:e∉frs (env::outer):=λz=>by
  obtain⟨_,o,q,n⟩:=ff.mem z;rw[he]at q;cases q;exact n vs dt
 refine An (wpAny_frameOf_fun hfr ff hf λk1 so=>An (wpAny_entryPlaceOf λpl ip=>?_))
 obtain⟨sz,sm,sl⟩:=so;have e1:k1.get? e=Aa oe:=(sm e nf).trans he;unfold XS;unfold newFields;refine An (CY ?_ (ip.sizeOk5 _ _ _ _ _));generalize hX:({ cls:=.type "traceback",dict:=Ae,data:=.fields ([hd,.ref L,.none,DD L,.none]++(if pl.isEmpty then GW 6 Bh else pl)).toArray }:Da)=ob
 have od:ob.data=.fields ([hd,.ref L,.none,DD L,.none]++(if pl.isEmpty then GW 6 Bh else pl)).toArray:=by rw[<-hX]
 have nl:k1.objs.size≠e:=EM (AL e1);have e2:=Ar ob e1;refine Ee e2 dt hz ?_;have up:∀ b,b≠e->((k1.push ob).update e (Fa (·.setIfInBounds 1 (.ref k1.objs.size)))).get? b=(k1.push ob).get? b:=λb nb=>BE _ _ (B4 nb)
 have lf:ob.isFreed=Ad:=by rw[<-hX];rfl
 refine hQ _ k1.objs.size ob _ (Cr _ e2 (Dg (Ca dt _))) nl ?_ ((up _ nl).trans (AN k1 lf)) od ?_ ⟨λb o q n1 n2=>?_,λb o q hb=>?_⟩
 .rw[sz];exact CS (AK _)
 .simp
 .have nb:b≠e:=λz=>n1 (by rw[z];exact AJ)
  rw[up b nb];exact Ar ob ((sm b n2).trans q)
 .obtain⟨sl',q'⟩:=sl b o q;have nb:b≠e:=λz=>nf (z ▸ hb)
  exact⟨sl',(up b nb).trans (Ar ob q')⟩
theorem OZ{oT:Da}{ts:A9 Aj}{fl:Aj}(hc:oe.cls=cls)(hx:oe.dict=dx)(h0:vs[0]?=Aa a0)(dt:oe.data=.fields vs)(hz:1<vs.size)(g:h'.get? e=Aa (Fa (·.setIfInBounds 1 (.ref T')) oe))(ne:T'≠e)(gT:h'.get? T'=Aa oT)(dT:oT.data=.fields ts)(f3:ts[3]?=Aa fl):H9 e T' cls dx fl h':=
 ⟨_,_,oT,ts,a0,g,(YI _ _).trans hc,(lT _ _).trans hx,by rw[Array.getElem?_setIfInBounds_ne (by decide)];exact h0,Ca dt _,by simp[hz],ne,gT,dT,f3⟩
theorem Im{i:Af}{v:Aj}(q:vs[i]?=Aa v):i<vs.size:=(Array.getElem?_eq_some_iff.mp q).1
theorem Pi(hfr:A.frames=Aa (env::outer))(hf:env.frame=Aa L)(ff:s.heap.FunFrames base (env::outer))(fl:Fly e T cls dx s.heap)(hQ:∀ h' T',H9 e T' cls dx (DD L) h'->Shift [e,T] (frs (env::outer)) s.heap h'->s.heap.get? T'=Ae->Q () {s with heap:=h'}):At M A (Ed (.ref e) env) Q E s:=by
 obtain⟨oe,vs,oT,ts,a0,he,hc,hx,h0,dt,h1,ne,hT,dT,h3⟩:=fl;have z3:=Im h3;unfold Ed;simp only[hf];refine An (Bt he dt h1 ?_);rw[As (by simp:(Bc T != Bh)=Ab)]
 refine An (Bt hT dT h3 ?_);rw[AB (by simp[DD]:¬ (Bh==DD L)=Ab)]
 refine An (Ee hT dT z3 ?_);have up:∀ b,b≠T->(s.heap.update T (Fa (·.setIfInBounds 3 Bh))).get? b=s.heap.get? b:=λb nb=>BE _ _ (B4 nb)
 have rcd:∀ b o,s.heap.get? b=Aa o->(∀ us,o.data≠.fields us)->b≠T:=λb o q n z=>by
  rw[z,hT]at q;cases q;exact n ts dT
 refine OG (base:=base) hfr hf (ff.of_keeps λb o q n=>⟨o,(up b (rcd b o q n)).trans q,rfl⟩) ((up e (B4 ne)).trans he) dt (Im h1) λh' T' oT' ts' g nT gn gT dT' f3 sh=>?_
 have T0:s.heap.get? T'=Ae:=by
  by_cases z:T'=T
  .rw[z]at gn;rw[Cr _ hT (Dg (Ca dT _))]at gn;cases gn
  .rw[<-up T' z];exact gn
 refine hQ h' T' (OZ hc hx h0 dt (Im h1) g nT gT dT' f3) ⟨λb o q n1 n2=>?_,λb o q hb=>?_⟩ T0
 .simp only[AA,Bl,CO,EX]at n1;exact sh.keep b o ((up b n1.2).trans q) (by simp[n1.1]) n2
 .obtain⟨_,o',q',n⟩:=ff.mem hb;rw[q]at q';cases q';exact sh.slot b o ((up b (rcd b o q n)).trans q) hb
theorem Mg(fl:H9 e T cls dx fv s.heap)(hQ:∀ h',Fly e T cls dx h'->(∀ b o,b≠T->s.heap.get? b=Aa o->h'.get? b=Aa o)->Q () {s with heap:=h'}):At M A (Gs (.ref e) Ae) Q E s:=by
 obtain⟨oe,vs,oT,ts,a0,he,hc,hx,h0,dt,h1,ne,hT,dT,h3⟩:=fl;have z3:=Im h3;unfold Gs;refine An (Bt he dt h1 ?_);rw[As (by simp:(Bc T != Bh)=Ab)]
 refine Ee hT dT z3 (hQ _ ?_ λb o nb q=>(BE _ _ (B4 nb)).trans q)
 exact⟨oe,vs,_,_,a0,(BE _ _ ne).trans he,hc,hx,h0,dt,h1,ne,Cr _ hT (Dg (Ca dT _)),Ca dT _,by simp[z3]⟩
theorem MW{h1 h2:AC}{ex:Ac Ak}(ff:s.heap.FunFrames base (env::outer))(sh:Shift ex (frs (env::outer)) s.heap h1)(hT:s.heap.get? T'=Ae)(k:∀ b o,b≠T'->h1.get? b=Aa o->h2.get? b=Aa o):Shift ex (frs (env::outer)) s.heap h2:=
 ⟨λb o q n1 n2=>k b o (λz=>by rw[z,hT]at q;cases q) (sh.keep b o q n1 n2),λb o q hb=>let ⟨sl,q'⟩:=sh.slot b o q hb;⟨sl,k b _ (λz=>by rw[z,hT]at q;cases q) q'⟩⟩
theorem cA(hfr:A.frames=Aa (env::outer))(hf:env.frame=Aa L)(ff:s.heap.FunFrames base (env::outer))(fl:Fly e T cls dx s.heap)(hQ:∀ h' T',Fly e T' cls dx h'->Shift [e,T] (frs (env::outer)) s.heap h'->(T'=T\/s.heap.get? T'=Ae)->Q () {s with heap:=h'}):At M A (leaving env (.ref e)) Q E s:=by
 unfold leaving;exact An (Pi hfr hf ff fl λh1 T' f1 sh hT=>Mg f1 λh2 f2 k=>hQ h2 T' f2 (MW ff sh hT k) (.inr hT))
theorem bO(hfr:A.frames=Aa (env::outer))(hf:env.frame=Aa L)(ff:s.heap.FunFrames base (env::outer))(he:s.heap.get? e=Aa oe)(hc:oe.cls=cls)(hx:oe.dict=dx)(dt:oe.data=.fields vs)(h0:vs[0]?=Aa a0)(h1:vs[1]?=Aa .none)(hQ:∀ h' T',Fly e T' cls dx h'->Shift [e] (frs (env::outer)) s.heap h'->s.heap.get? T'=Ae->Q () {s with heap:=h'}):At M A (leaving env (.ref e)) Q E s:=by
 unfold leaving Ed;simp only[hf];refine An (An (Bt he dt h1 ?_));rw[AB (by decide)]
 exact OG (base:=base) hfr hf ff he dt (Im h1) λh' T' oT ts g nT gn gT dT f3 sh=>Mg (OZ hc hx h0 dt (Im h1) g nT gT dT f3) λh2 f2 k=>hQ h2 T' f2 (MW ff sh gn k) gn
theorem eS(hfr:A.frames=Aa (env::outer))(hf:env.frame=Aa L)(ff:s.heap.FunFrames base (env::outer))(fl:Fly e T cls dx s.heap)(hQ:∀ h' T',Fly e T' cls dx h'->Shift [e,T] (frs (env::outer)) s.heap h'->(T'=T\/s.heap.get? T'=Ae)->Q () {s with heap:=h'}):At M A (Ed (.ref e) env) (λ_ s2=>At M A (Gs (.ref e) Ae) Q E s2) E s:=
 Pi hfr hf ff fl λh1 T' f1 sh hT=>Mg f1 λh2 f2 k=>hQ h2 T' f2 (MW ff sh hT k) (.inr hT)
theorem cB{l:Ac Cj}{A':AW}(ff:s.heap.FunFrames base l)(fl:Fly e T cls dx s.heap)(hQ:∀ h' T',Fly e T' cls dx h'->Shift [e,T] (frs l) s.heap h'->(T'=T\/s.heap.get? T'=Ae)->Q () {s with heap:=h'}):At M A' (Gs (.ref e) Ae) Q E s:=by
 obtain⟨oe,vs,oT,ts,a0,he,hc,hx,h0,dt,h1,ne,hT,dT,h3⟩:=id fl;refine Mg fl λh' f' k=>hQ h' T f' ⟨λb o q n1 n2=>k b o (λz=>n1 (by rw[z];simp)) q,λb o q hb=>⟨o.slots,k b o (λz=>?_) q⟩⟩ (.inl rfl)
 obtain⟨_,o',q',n⟩:=ff.mem hb;rw[z,hT]at q';cases q';exact n ts dT
end
def CXR(P:AO)(w:A1):CXT:=λouter H s E ev s'=>∃ e T cls dx H',ev=.ref e/\s'.os=s.os/\FK s'.gens/\Un (frs outer) [] H H' s.heap s'.heap/\HOk P w H' s'.heap/\Fly e T cls dx s'.heap/\H' e=Ae/\H' T=Ae/\s.heap.get? e=Ae/\s.heap.get? T=Ae/\E cls dx H'
def MI(X:Cx)(CL:ClA)(W:XW):Prop:=∀ pI Y H s e C dx t x,Inv X pI Y H s->(X.ex=[]->X.s₀.heap.get? e=Ae)->H e=Ae->s.heap.get? e=Aa (Gf C dx t)->EH X.K CL H (.ref C) dx x->W x H->X.xe (.ref e) s
section
variable{P:AO}{w:A1}{K:Fg}{mg:Ag->Ao Aj}{base:AC}{N:Ac Ag}{qual:Ag}{scope:BP}{f:Ak}{cd:Aj}{A:AW}{outer:Ac Cj}{s:Ap}{H:Hp}{E:XK}{CL:ClA}{W:XW}
theorem Nm{s:Ap}(I:Inv X pI Y H s):∀ b∈frs X.stack,b∈X.fs\/X.s₀.heap.get? b=Ae:=λb hb=>by
 rcases AA.mp (I.stkSub b hb) with z|z
 .exact .inr (by rw[z];exact CS I.ok.above)
 .exact .inl z
theorem Iw{s:Ap}{b:Ak}(I:Inv X pI Y H s)(hx:X.ex=[])(h:s.heap.get? b=Ae):X.s₀.heap.get? b=Ae:=by
 cases q:X.s₀.heap.get? b with
 |none=>rfl
 |some o=>
  obtain⟨o',z⟩:=I.base.there b o q (by rw[hx];simp)
  rw[h]at z;cases z
theorem VF(hE:∀ x cls dx H',W x H'->EH K CL H' cls dx x->E cls dx H'):∀ A',IA (CXR P w) (Fk (CXR P w) P w K mg base N qual scope f cd A outer s H E) (EKW K CL A' W):=by
 intro A' pI Y H1 s1 ev s2 I h;obtain⟨e,T,cls,dx,H',rfl,os,bare,un,hok,fl,he,hT,ne,nT,x,xr,wx⟩:=h;have I':=I.call' (s':=s2) (ch:=[]) os un hok bare (λb z=>absurd z (by simp))
 have hb0:Un (frs outer) [] H H' s.heap s2.heap:=I'.base;show At (model P w) (A.deeper (Ev qual scope s.heap.objs.size f cd)) (leaving (Ev qual scope s.heap.objs.size f cd) (.ref e)) _ _ s2;refine cA (L:=s.heap.objs.size) I'.ok.frames rfl I'.stack fl λh' T' fl' sh hT'=>?_
 have e0:s.heap.get? e=Ae:=Iw I rfl ne;have T0:s.heap.get? T=Ae:=Iw I rfl nT;refine⟨e,T',cls,dx,H',rfl,I'.os,bare,Un.shift hb0 sh ?_ (Nm I'),HOk.shift hok sh ?_ I'.stkFree,fl',he,?_,e0,?_,?_⟩
 .intro b hb;rcases AA.mp hb with rfl|hb
  .exact e0
  .rw[Bk.mp hb];exact T0
 .intro b hb;rcases AA.mp hb with rfl|hb
  .exact he
  .rw[Bk.mp hb];exact hT
 .rcases hT' with rfl|z
  .exact hT
  .exact Ix hok z
 .rcases hT' with rfl|z
  .exact T0
  .exact Iw I' rfl z
 .exact hE x cls dx H' wx xr
theorem rzR(hE:∀ x cls dx H',W x H'->EH K CL H' cls dx x->E cls dx H'):MI (Fk (CXR P w) P w K mg base N qual scope f cd A outer s H E) CL W:=by
 intro pI Y H1 s1 e C dx t x I e0 he ge xr hw;have hb0:Un (frs outer) [] H H1 s.heap s1.heap:=I.base;have e0':s.heap.get? e=Ae:=e0 rfl;show At (model P w) (A.deeper (Ev qual scope s.heap.objs.size f cd)) (leaving (Ev qual scope s.heap.objs.size f cd) (.ref e)) _ _ s1;refine bO (cls:=.ref C) (dx:=dx) (L:=s.heap.objs.size) I.ok.frames rfl I.stack ge rfl rfl rfl (a0:=.ref t) rfl rfl λh' T' fl' sh hT'=>?_
 have one:∀{Z_:Ak->Prop},Z_ e->∀ b∈[e],Z_ b:=λ{Z_} z b hb=>by rw[Bk.mp hb];exact z
 exact⟨e,T',.ref C,dx,H1,rfl,I.os,I.bare,Un.shift hb0 sh (one e0') (Nm I),HOk.shift I.hok sh (one (Z_:=λb=>H1 b=Ae) he) I.stkFree,fl',he,Ix I.hok hT',e0',Iw I rfl hT',hE x _ dx H1 hw xr⟩
theorem ownR:DP (model P w) (Fk (CXR P w) P w K mg base N qual scope f cd A outer s H E).A (Fk (CXR P w) P w K mg base N qual scope f cd A outer s H E).env (Fk (CXR P w) P w K mg base N qual scope f cd A outer s H E).xe:=PassesOwn.leaving
end
noncomputable def veB:Ac Aj:=[.type "ValueError",.type "Exception",.type "BaseException",.type "object"]
noncomputable def Dl(K:Fg)(C:Ak)(v:Ao Aj):Al:=match K.lookup C with
  | some ⟨.type "type",_,.cls c,z⟩=>(match c.mro,z.toList with
    |.ref c0::tl,[_,_,_,_,Aa (.builtin nw),_]=>c0==C&&(nw == "ValueError.__new__" && (!c.hasDel&&(PySem.W.tailIn K veB tl&&(Zd K c.ns&&Bu K c.ns "__init__" == Aa v))))
    | _,_=>Ad)
  |_=>Ad
theorem iU(q:Jy K C veB "ValueError.__new__" = Ab):Dl K C Ae=Ab:=by
 unfold Jy at q;unfold Dl;split at q
 .rename_i dd cd sl ho;split at q
  .rename_i C' bm k0 k1 k2 k3 n k5 hm hs;simp only[Ai]at q;obtain⟨⟨⟨⟨⟨h1,h2⟩,h3⟩,h4⟩,h5⟩,h6⟩:=q;simp only[ho,hm,hs,Ai];exact⟨h1,h2,h3,h4,h5,h6⟩
  .cases q
 .cases q
structure XcOk (K:Fg) (C:Ak):Prop where
 exc:∃ v,Dl K C v=Ab
 ga:Av K (.ref C) "__getattribute__" = Aa (Aa (.builtin "BaseException.__getattribute__"))
 gt:Av K (.ref C) "__getattr__" = Aa Ae
 cl:Av K (.ref C) "__class__" = Aa (Aa (.builtin "object.__class__"))
 ob:Cp K C (.type "object")=Aa Ab
 be:BD K (.ref C) (.type "BaseException")=Aa Ab
 cs:(Dy K C).isSome=Ab
 ve:B9 K (.ref C) (.type "ValueError")=Aa Ab
def XAt(e C:Ak)(h:AC):Prop:=∃ o,h.get? e=Aa o/\o.cls=.ref C
theorem rB{N:Ak}{m:Ag->Ao Aj}{v:Aj}(X:K.In h)(G:h.Ns N m)(q:Bu K N x=Aa (Aa v)):m x=Aa v:=by
 obtain⟨ob,es,ep,g,dt,_,fd⟩:=G;unfold Bu at q;split at q
 .rename_i es' n' sl lk;have g':=X _ _ lk;rw[g]at g';cases g';cases dt;split at q
  .rename_i hf;cases q;rw[<-fd];unfold nsFind findBy;rw[<-WH,hf];rfl
  .by_cases z:(es.toList.any λy=>y.refKey)=Ab
   .rw[As z]at q;cases q
   .rw[AB z]at q;cases q
 .cases q
theorem LX{h0:AC}(X0:K.In h0)(q:Dl K C v=Ab):
  ∃ bm N nm qn bs hd sn sub ab col dd k0 k1 k2 k3 k5 mN,(∀ h:AC,K.In h->h.get? C=Aa (BX nm qn C N bs bm hd sn sub ab col dd k0 k1 k2 k3 k5 "ValueError.__new__")/\h.Ns N mN/\DU h veB bm)/\mN "__init__" = v/\bm.contains (.type "BaseException")=Ab:=by
 unfold Dl at q;split at q
 .rename_i dd cd sl ho;split at q
  .rename_i C' bm k0 k1 k2 k3 n k5 hm hs;simp only[Ai,AD,Br]at q;obtain⟨rfl,rfl,hdel,ht,hok,hni⟩:=q;obtain⟨nm,bs,mro,ns,qn,hd,sn,sub,ab,col,del⟩:=cd;dsimp only at hm hdel hok hni;subst hm hdel;have hsl:sl=#[k0,k1,k2,k3,Aa (.builtin "ValueError.__new__"),k5]:=by
    obtain⟨l⟩:=sl;simp only at hs;rw[hs]
   subst hsl;have kN:∃ o,K.lookup ns=Aa o:=by
    unfold Zd at hok;split at hok
    .rename_i z;exact⟨_,z⟩
    .cases hok
   obtain⟨oN,hoN⟩:=kN;have nsAt:∀ h:AC,K.In h->h.Ns ns (h0.nsMap ns):=λh X=>by
    obtain⟨o,es,ep,e1,r⟩:=Heap.Ns.of_isNs (Y_6 X0 hok);have e2:=X0 _ _ hoN;rw[e1]at e2;cases e2;exact⟨_,es,ep,X _ _ hoN,r⟩
   refine⟨bm,ns,nm,qn,bs,hd,sn,sub,ab,col,dd,k0,k1,k2,k3,k5,h0.nsMap ns,λh X=>⟨X _ _ ho,nsAt h X,Zf X ht⟩,?_,(Zf X0 ht).hasType (by decide)⟩
   cases v with
   |none=>exact PySem.W.nsMap_none_of_in X0 hok hni
   |some u=>exact rB X0 (.of_isNs (Y_6 X0 hok)) hni
  .cases q
 .cases q
theorem lM(X:K.In h)(q:Dl K C v=Ab):
  ∃ bm N nm qn bs hd sn sub ab col dd k0 k1 k2 k3 k5 mN,h.get? C=Aa (BX nm qn C N bs bm hd sn sub ab col dd k0 k1 k2 k3 k5 "ValueError.__new__")/\h.Ns N mN/\mN "__init__" = v/\DU h veB bm:=by
 obtain⟨bm,N,nm,qn,bs,hd,sn,sub,ab,col,dd,k0,k1,k2,k3,k5,mN,ho,hi,_⟩:=LX X q;obtain⟨o1,o2,o3⟩:=ho h X;exact⟨bm,N,nm,qn,bs,hd,sn,sub,ab,col,dd,k0,k1,k2,k3,k5,mN,o1,o2,hi,o3⟩
section
variable{prog:AO}{w:A1}{A:AW}{E:Vq}{h:AC}{g:A9 ED}{d:Ie}{t:Af}{os:Hu}{K:Fg}{e C:Ak}
theorem JT(p:XAt e C h):PySem.W.Looks M h (typeOf (.ref e)) (.ref C):=by
 obtain⟨o,h1,h2⟩:=p;exact h2 ▸ (PySem.W.Looks.ld h1).andThen .now
theorem dP{R:HK->Ap->Prop}{tp:Aj}(X:K.In h)(p:XAt e C h)(hm:Cp K C (.type "object")=Aa Ab)(hq:R (.ok (.ret (.ref C))) ⟨h,g,d,t,os⟩):
  ES (model prog w) A (.call (.builtin "getset_descriptor.__get__") ⟨[.builtin "object.__class__",.ref e,tp],[]⟩) R ⟨h,g,d,t,os⟩:=by
 have L0:=JT (M:=model prog w) p;have L1:=PySem.W.looks_mroIn (M:=model prog w) X hm;refine Ea PySem.W.KF.slot_gs.plain PySem.W.KF.entry_gs (PySem.W.KF.slot_gs.check _ _ _ _ _ _ _ _ PySem.W.KF.type_class (PySem.W.KF.args_gs _ _ _) ?_);unfold Builtin.«getset_descriptor.__get__» Builtin.Getset_descriptor.descrGet;rw[PySem.W.dga_obj];refine An (AH ?_);unfold Builtin.Getset_descriptor.descrGetter Builtin.Getset_descriptor.descrCheckInstance Builtin.Getset_descriptor.descrNameAndClass IU;simp only[PySem.W.KF.owner_class]
 repeat lk
 refine⟨Hb _ (by decide+kernel),codeAny_builtin PySem.W.KF.entry_class ?_⟩
 unfold Builtin.«object.__class__» shownTypeOf
 repeat lk
 exact hq
theorem aS{Q:Fin->Ap->Prop}(X:K.In h)(x:XcOk K C)(p:XAt e C h)(hq:Q (.done (.ret (.ref C))) ⟨h,g,d,t,os⟩):
  At (model prog w) A (Builtin.«object.__getattribute__» ⟨[.ref e,.str "__class__" tk],[]⟩) Q E ⟨h,g,d,t,os⟩:=by
 have L0:=JT (M:=model prog w) p;have L1:=Cc (M:=model prog w) X x.cl;have hT5:(⟨h,g,d,t,os⟩:Ap).TypeIs (.builtin "object.__class__") "getset_descriptor" := YB;have f5:=YB;have f6:=F.slot_gs_get.lookup;have f7:=F.slot_gs_set.lookup
 repeat (any_goals (first|assumption|with_reducible refine L0.at ?_|with_reducible refine L1.at ?_|wp_step))
 refine dP X p x.ob ?_
 repeat (any_goals (first|assumption|wp_step))
theorem Rt{nameV:Aj}(X:K.In h)(x:XcOk K C)(p:XAt e C h)(hq:Q () ⟨h,g,d,t,os⟩):At M A (Gd "BaseException.__getattribute__" ⟨[.ref e,nameV],[]⟩) Q E ⟨h,g,d,t,os⟩:=by
 have hk:builtinKind "BaseException.__getattribute__" = Aa .slot:=by decide+kernel
 have hsplit:splitId "BaseException.__getattribute__" = Aa ("BaseException", "__getattribute__"):=by decide+kernel
 have L0:=JT (M:=M) p;have L1:=Zb (M:=M) X x.be;have ha:=F.args_bexc_ga (.ref e) nameV;simp only[Gd,hk,hsplit];refine An ?_
 .unfold IU
  repeat (first|(with_reducible refine An (L0.at ?_))|(with_reducible refine L1.at ?_)|wp_step)
  exact hq
theorem iV{Q:Vq}(X:K.In h)(x:XcOk K C)(p:XAt e C h)(hq:Q (.ref C) ⟨h,g,d,t,os⟩):At (model prog w) A (getAttrBy (.ref e) (.str "__class__" tk) fill expr) Q E ⟨h,g,d,t,os⟩:=by
 have L0:=JT (M:=model prog w) p;have L1:=Cc (M:=model prog w) X x.ga;have L2:=Cc (M:=model prog w) X x.gt;have f3:=FU.ga.bind (.ref e);have hx0:(expr&&JM (CB "BaseException.__getattribute__"))=Ad:=by cases expr<;>rfl
 have hx2:(CB "BaseException.__getattribute__" == CB "object.__getattribute__")=Ad:=by decide+kernel
 have hx1:(JM (Bc C)&&CB "BaseException.__getattribute__" == CB "object.__getattribute__")=Ad:=by rw[hx2];rfl
 repeat (any_goals (first|assumption|with_reducible refine L0.at ?_|with_reducible refine L1.at ?_|with_reducible refine L2.at ?_|wp_step))
 refine Ea FU.ga.plain Ys (Rt X x p (aS X x p ?_))
 repeat (any_goals (first|assumption|wp_step))
theorem aZ{Q:Ao Aj->Ap->Prop}(X:K.In h)(x:XcOk K C)(p:XAt e C h)(hq:Q (Aa (.ref C)) ⟨h,g,d,t+1,os⟩):At (model prog w) A (getAttr? (.ref e) "__class__") Q E ⟨h,g,d,t,os⟩:=by
 unfold getAttr? getAttrBy?
 repeat (any_goals (first|assumption|with_reducible apply iV X x p|wp_step))
end
theorem S6{e C:Ak}(x:XcOk K C):PySem.W.KitX K (.ref e) (.ref C) (XAt e C) where
 ty:=λM h _ p=>JT p
 it:=λM h X _=>by
  obtain⟨cd,hc⟩:=B1.mp x.cs;unfold Dy at hc;split at hc
  .rename_i c' d' cd' sl' ho;intro A' Q' E' s' k q;unfold isType loadHead;exact An (Zr (k _ _ (X _ _ ho)) (AH q))
  .cases hc
 ne:=λh tp dd its n sl X htp=>by
  obtain⟨cd,hc⟩:=B1.mp x.cs;refine Bool.eq_false_iff.mpr λq=>?_
  have e:C=tp:=Jx (AD.mp q);subst e;unfold Dy at hc;split at hc
  .rename_i c' d' cd' sl' ho;have z:=(X _ _ ho).symm.trans htp;cases z
  .cases hc
 ca:=λ{_ _ _ _ _ s} X p k=>by
  obtain⟨h,g,d,t,os⟩:=s;exact aZ X x p k
theorem dQ{A:AW}{E:Vq}{g:A9 ED}{d:Ie}{t:Af}{os:Hu}{e C C':Ak}{b:Al}{Q:Al->Ap->Prop}(X:K.In h)(p:XAt e C h)(x':XcOk K C')(hs:BD K (.ref C) (.ref C')=Aa b)(hq:Q b ⟨h,g,d,t,os⟩):At M A (excMatches (.ref e) (.ref C')) Q E ⟨h,g,d,t,os⟩:=by
 obtain⟨bm,N,nm,qn,bs,hd,sn,sub,ab,col,dd,k0,k1,k2,k3,k5,mN,hC',_,_,T⟩:=lM X x'.exc.choose_spec;have hcB:(Bc C'::bm).contains (.type "BaseException")=Ab:=by rw[Ha,T.hasType (show veB.contains (.type "BaseException")=Ab by decide),JB]
 have L0:=JT (M:=M) p;have L1:=Zb (M:=M) X hs;have f:=tc_notTuple;unfold excMatches
 repeat (first|(with_reducible refine An (L0.at ?_))|(with_reducible refine L1.at ?_)|(with_reducible refine An (L1.at ?_))|with_reducible refine B7 hC' ?_|(with_reducible refine Fd hC' ?_;rw[hcB])|wp_step)
 all_goals first|exact hq|(cases b<;>(wp_walk;exact hq))
def Gh(X:Cx)(pI:Pn)(e:Ak):Prop:=e≠X.env.locals/\(∀ x c,X.env.cells.lookup x=Aa c->c≠e)/\(∀ p∈X.pn++pI,p.1≠e)/\X.s₀.heap.get? e=Ae
section
variable{X:Cx}{pI:Pn}{Y:L2.St}{H:Hp}{s:Ap}{e:Ak}
theorem Ko(I:Inv X pI Y H s)(hx:X.ex=[])(h:s.heap.get? e=Ae):Gh X pI e:=by
 refine⟨?_,λx c q z=>?_,λp hp z=>?_,Iw I hx h⟩
 .rintro rfl;obtain⟨m,⟨o,_,_,ho,_⟩,_⟩:=I.loc;rw[h]at ho;cases ho
 .obtain⟨v,o,ho,_⟩:=I.cell x c q;rw[z,h]at ho;cases ho
 .obtain⟨q,_⟩:=I.pin p hp;rw[z,h]at q;cases q
theorem Sb{ex:Ac Ak}(I:Inv X pI Y H s)(hx:X.ex=[])(sh:Shift ex (frs X.stack) s.heap h')(ha:∀ b∈ex,Gh X pI b)(hH:∀ b∈ex,H b=Ae):Inv X pI Y H {s with heap:=h'}:=by
 have kp:∀ b o,s.heap.get? b=Aa o->b∉ex->∃ sl,h'.get? b=Aa {o with slots:=sl}:=λb o q n=>by
  by_cases hb:b∈frs X.stack
  .exact sh.slot b o q hb
  .exact⟨o.slots,sh.keep b o q n hb⟩
 have cellK:∀ x c,X.env.cells.lookup x=Aa c->∀ v,s.heap.IsCell c v->h'.IsCell c v:=λx c q v ⟨o,ho,hd⟩=>by
  obtain⟨sl,z⟩:=kp c o ho λz=>(ha c z).2.1 x c q rfl
  exact⟨_,z,hd⟩
 refine⟨I.ok,I.os,I.bare,?_,?_,λx c q=>?_,I.free,I.freeC,λp hp=>?_,HOk.shift I.hok sh hH I.stkFree,I.len⟩
 .have b0:=I.base;rw[hx]at b0 ⊢;exact Un.shift b0 sh (λb hb=>(ha b hb).2.2.2) (Nm I)
 .obtain⟨m,⟨o,es,ep,ho,r⟩,hl⟩:=I.loc;obtain⟨sl,z⟩:=kp _ o ho λz=>(ha _ z).1 rfl
  refine⟨m,⟨_,es,ep,z,r⟩,λi x v e1 e2 e3=>?_⟩
  obtain⟨u,ru,l⟩:=hl i x v e1 e2 e3;refine⟨u,ru,?_⟩;rcases l with l|⟨k,c,q,z⟩
  .exact .inl l
  .exact .inr ⟨k,c,q,cellK x c q _ z⟩
 .obtain⟨v,z⟩:=I.cell x c q;exact⟨v,cellK x c q v z⟩
 .obtain⟨q,n,ne,nf,d⟩:=I.pin p hp;exact⟨sh.keep p.1 p.2 q (λz=>(ha p.1 z).2.2.1 p hp rfl) (λz=>(AA.mp (I.stkSub p.1 z)).elim ne nf),n,ne,nf,d⟩
theorem RQ(I:Inv X pI Y H s)(hx:X.ex=[])(ha:Gh X pI e)(hH:H e=Ae)(ho:∃ o,s.heap.get? e=Aa o)(p:φ s.heap)(hφ:∀ h1 h2:AC,φ h1->(∀ o,h1.get? e=Aa o->h2.get? e=Aa o)->φ h2):Inv X pI Y (upd H e (.ext φ)) s:=by
 have ne:∀ b o,H b=Aa o->b≠e:=λb o q z=>by rw[z,hH]at q;cases q
 refine⟨I.ok,I.os,I.bare,⟨I.base.keep,I.base.slot,λb o q n hb=>?_,I.base.there,λb xs q=>?_,λb o u q=>?_,λb ps q=>?_⟩,I.loc,I.cell,?_,λx c q=>?_,λp hp=>?_,λb o q=>?_,I.len⟩
 .rw[Bb λz=>by rw[z,ha.2.2.2]at q;cases q]
  exact I.base.free b o q n hb
 .have:=I.base.tups b xs q;rw[Bb (ne _ _ this)];exact this
 .have:=I.base.frzs b o u q;rw[Bb (ne _ _ this)];exact this
 .obtain⟨more,this⟩:=I.base.tbls b ps q;exact⟨more,by rw[Bb (ne _ _ this)];exact this⟩
 .rw[Bb λz=>ha.1 z.symm];exact I.free
 .rw[Bb (ha.2.1 x c q)];exact I.freeC x c q
 .obtain⟨q,n,r⟩:=I.pin p hp;exact⟨q,by rw[Bb (ha.2.2.1 p hp)];exact n,r⟩
 .by_cases hb:b=e
  .subst hb;rw[Db]at q;cases q;exact⟨p,ho,hφ⟩
  .rw[Bb hb]at q;exact(I.hok b o q).stay (λc v hc z=>z) (λc z=>by rw[Bb (ne _ _ z)];exact z) λc zs z=>by rw[Bb (ne _ _ z)];exact z
theorem cO{i:Af}{n:Ag}{m:Ag->Ao Aj}{tk:Af}(I:Inv X pI Y H s)(hN:X.N.Nodup)(hi:X.N[i]?=Aa n)(hn:s.heap.Ns X.env.locals m)(hn':h'.Ns X.env.locals (λx=>if x=n then v else m x))(hs:EQ X.env.locals s.heap h'):Inv X pI (Y.set i Ae) H {s with heap:=h',toks:=tk}:=by
 obtain⟨m0,hn0,hl⟩:=I.loc;have em:m0=m:=by
  obtain⟨o,es,ep,h1,h2,_,h3⟩:=hn0;obtain⟨o',es',ep',h1',h2',_,h3'⟩:=hn;rw[h1]at h1';cases h1';rw[h2]at h2';cases h2'
  funext y
  rw[<-h3,<-h3']
 subst em;obtain⟨oL,_,_,hoL,_⟩:=id hn;have lt:∀ b o,X.s₀.heap.get? b=Aa o->b≠X.env.locals:=λb o q=>A5 (AQ (AL q) I.ok.above)
 refine⟨I.ok,I.os,I.bare,⟨λb o q n hb hx=>?_,λb o q n hb hx=>?_,I.base.free,λb o q hx=>?_,I.base.tups,I.base.frzs,I.base.tbls⟩,⟨_,hn',λj y v' e1 e2 e3=>?_⟩,λy c q=>?_,I.free,I.freeC,λp hp=>?_,λb ob q=>?_,by rw[AR];exact I.len⟩
 .exact(hs.2 b (lt b o q)).trans (I.base.keep b o q n hb hx)
 .obtain⟨sl,e1⟩:=I.base.slot b o q n hb hx;exact⟨sl,(hs.2 b (lt b o q)).trans e1⟩
 .obtain⟨o',e1⟩:=I.base.there b o q hx;exact⟨o',(hs.2 b (lt b o q)).trans e1⟩
 .by_cases hj:i=j
  .subst hj;have:=Ff e2;cases this
  .rw[BA hj]at e2;obtain⟨u',r',q⟩:=hl j y v' e1 e2 e3;refine⟨u',r',?_⟩;rcases q with ⟨k,e⟩|⟨k,c,e,z⟩
   .refine .inl ⟨k,?_⟩;have:y≠n:=λe=>hj (Pb hN hi (e ▸ e1))
    simp[this,e]
   .exact .inr ⟨k,c,e,z.sameBut hs (I.cne y c e)⟩
 .obtain⟨w',z⟩:=I.cell y c q;exact⟨w',z.sameBut hs (I.cne y c q)⟩
 .obtain⟨q,n,ne,nf,d⟩:=I.pin p hp;exact⟨(hs.2 p.1 ne).trans q,n,ne,nf,d⟩
 .refine(I.hok b ob q).stay (λc w' hc z=>(hs.2 c ?_).trans z) (λ_ q=>q) λ_ _ q=>q
  rintro rfl;have hfree:=I.free;rcases hc with z|hc
  .rw[<-z,hfree]at q;cases q
  .rw[hfree]at hc;cases hc
end
noncomputable def Cx.hot(X:Cx)(e:Ak):Cx:={X with A:=X.A.mark (Aa (.ref e)),calm:=Ad,xe:=λ_ _=>AX}
section
variable{X:Cx}{pI:Pn}{Y:L2.St}{H:Hp}{s:Ap}{e:Ak}
theorem qZ(ok:X.Ok):(Cx.hot X e).Ok:=⟨ok.mod,ok.kind,ok.glob,ok.blt,ok.above,ok.inj,ok.has,ok.cab,λz=>(nomatch z),ok.frames,ok.stk,ok.exf,ok.bs,ok.bsz,ok.noex,ok.exfs,ok.funs,ok.frf⟩
theorem Ub(I:Inv X pI Y H s)(e:Ak):Inv (Cx.hot X e) pI Y H s:=⟨qZ I.ok,I.os,I.bare,I.base,I.loc,I.cell,I.free,I.freeC,I.pin,I.hok,I.len⟩
theorem fM(ok:X.Ok)(I:Inv (Cx.hot X e) pI Y H s):Inv X pI Y H s:=⟨ok,I.os,I.bare,I.base,I.loc,I.cell,I.free,I.freeC,I.pin,I.hok,I.len⟩
theorem Sx.unset(x:Sx K CL Fz B U Y H)(i:Af):Sx K CL Fz B (U.set i Ae) (Y.set i Ae) H:=by
 have get:∀(j:Af)(y:D×Al),(U.set i Ae)[j]?=Aa (Aa y)->i≠j/\U[j]?=Aa (Aa y):=λj y h=>by
  by_cases hj:i=j
  .subst hj;have:=Ff h;cases this
  .exact⟨hj,by rw[BA hj]at h;exact h⟩
 have sub:∀ a,Bf B (U.set i Ae) (Y.set i Ae) a->Bf B U Y a:=λa h=>by
  rcases h with h|⟨j,d,h1,h2⟩
  .exact .inl h
  .obtain⟨hj,h1⟩:=get j _ h1;rw[BA hj]at h2;exact .inr ⟨j,d,h1,h2⟩
 refine⟨⟨λj d h=>?_,λj d h hn=>?_,by rw[AR,AR];exact x.len⟩,λa h=>x.aok a (sub a h),λj d a h1 h2=>?_,λj k d f a h1 h2 h3 h4=>?_,x.same,by rw[AR,AR];exact x.len,λj h=>?_⟩
 .obtain⟨hj,h1⟩:=get j _ h;obtain⟨v,q,r⟩:=x.good.sh j d h1;exact⟨v,by rw[BA hj];exact q,Rep.sub sub _ r⟩
 .obtain⟨hj,h1⟩:=get j _ h;obtain⟨a,xs,ds,q,z,ha,hh,rr⟩:=x.good.ow j d h1 hn;exact⟨a,xs,ds,by rw[BA hj];exact q,z,.inr ⟨j,d,h,by rw[BA hj];exact q⟩,hh,Reps.sub sub _ rr⟩
 .obtain⟨hj,h1⟩:=get j _ h1;rw[BA hj]at h2;exact x.new j d a h1 h2
 .obtain⟨hj,h1⟩:=get j _ h1;obtain⟨hk,h2⟩:=get k _ h2;rw[BA hj]at h3;rw[BA hk]at h4;exact x.dis j k d f a h1 h2 h3 h4
 .obtain⟨hj,h1⟩:=get j _ h;obtain⟨a,xs,p1,p2,p3⟩:=x.pin j h1;exact⟨a,xs,p1,by rw[BA hj];exact p2,p3⟩
end
def Ju(e C:Ak)(dx:Ao Ak)(h:AC):Prop:=∃ o,h.get? e=Aa o/\o.cls=.ref C/\o.dict=dx/\∃ us,o.data=.fields us
noncomputable def KA(X:Cx)(CL:ClA)(pI:Pn)(Y:L2.St)(H:Hp)(y:Ex)(Xw:Vq):Prop:=
 ∀ s' H' e T cls dx,Inv X pI Y H' s'->Ay H H'->Fly e T cls dx s'.heap->H' e=Ae->H' T=Ae->Gh X pI e->Gh X pI T->EH X.K CL H' cls dx y->Xw (.ref e) s'
def STB(X:Cx)(CL:ClA)(body:Ac AM)(f:Rho->O):Prop:=∀ Fz B pI s Y H D U (Xw:Vq),DP (model X.prog X.w) X.A X.env Xw->Inv X pI Y H s->Sx X.K CL Fz B U Y H ->
  (match f U with
   |.exn y U'=>U'=U->KA X CL pI Y H y Xw
   | o=>Bv X.K CL Fz B (λ_ _=>AX) o D)->(∀ y U',f U=.exn y U'->U'=U)->At (model X.prog X.w) X.A (execs body X.env) (SP X pI D) Xw s
noncomputable def Wg(up:Af->Ac Af)(c i:Af)(o:O)(fh:Rho->O):O:=match o with
  | .exn y U'=>if (up y.c).contains c=Ab then (match fh (U'.set i (Aa (.exc y.c y.fs,Ad))) with
      |.next U''=>.next (U''.set i Ae)
      |.ret d f=>.ret d f
      | _=>.bad) else .bad
  |o=>o
theorem mS{i:Af}{g n:Ag}{hp:AF}{b:Al}{rest:Ac E9}{s1:Ap}{D:Ends}{e T1:Ak}{y:Ex}(hx:X.ex=[])(hN:X.N.Nodup)(hi:X.N[i]?=Aa n)(hl:X.env.scope.names.lookup n=Aa .local)(hg:Gl X g)(hm:X.mg g=Aa (.ref C'))(hdb:(g==("__debug__" : Ag))=Ad)(xc:XcOk X.K C')(hsu:BD X.K (.ref C) (.ref C')=Aa b)(hh:∀ e,SSs (Cx.hot X e) CL (λ_ _=>AX) (h0::hs) fh)(I1:Inv X pI Y H' s1)(fl1:Fly e T1 (.ref C) dx s1.heap)(ae:Gh X pI e)(aT1:Gh X pI T1)(he:H' e=Ae)(HT1:H' T1=Ae)(gx:Sx X.K CL Fz B U' Y H')(hcl:CL y.c=Aa C)(xr:EH X.K CL H' (.ref C) dx y)(p2:b=Ab->Bv X.K CL Fz B W (hdO i y U' fh) D)(p3:b=Ad->At (model X.prog X.w) X.A (Kl (.ref e) X.env rest) (SP X pI D) X.xe s1):At (model X.prog X.w) X.A (Kl (.ref e) X.env (.ExceptHandler (Aa (.Name g p1)) (Aa n) (h0::hs) hp::rest)) (SP X pI D) X.xe s1:=by
 obtain⟨Cx0,hcl0,ecl,hfs⟩:=xr (Bf B U' Y) gx.aok;have xat:∀{h:AC}{T:Ak},Fly e T (.ref C) dx h->XAt e C h:=λ{h T} z=>by
  obtain⟨oe,_,_,_,_,z1,z2,_⟩:=z;exact⟨oe,z1,z2⟩
 have xad:∀{h:AC}{T:Ak},Fly e T (.ref C) dx h->Ju e C dx h:=λ{h T} z=>by
  obtain⟨oe,vs,_,_,_,z1,z2,z3,_,z4,_⟩:=z;exact⟨oe,z1,z2,z3,vs,z4⟩
 have two:∀{T:Ak}{Z_:Ak->Prop},Z_ e->Z_ T->∀ b∈[e,T],Z_ b:=λ{T Z_} h1 h2 b hb=>by
  rcases AA.mp hb with rfl|hb
  .exact h1
  .rw[Bk.mp hb];exact h2
 refine wpAny_handleBy_cons (codeAny_handlers_test (Hh (X:=Cx.hot X e) (Ub I1 e) hg hm ?_ hdb)) (by intro q;cases q)
 refine dQ (K:=X.K) I1.kIn (xat fl1) xc hsu ?_;cases b with
 |false=>exact p3 rfl
 |true=>
 have p2:=p2 rfl;refine codeAny_handlers_suite_as ?_;refine cB (base:=X.base) (l:=X.stack) I1.stack fl1 λh3 T3 fl3 sh3 hT3=>?_
 have I3:=Sb I1 hx sh3 (two ae aT1) (two (Z_:=λb=>H' b=Ae) he HT1)
 obtain⟨oe,oeg,oec⟩:=xad fl3;have I3':=RQ (φ:=Ju e C dx) I3 hx ae he ⟨oe,oeg⟩ ⟨oe,oeg,oec⟩ λh1 h2 ⟨o,q1,q2⟩ k=>⟨o,k o q1,q2⟩
 have sm3:Ay H' (upd H' e (.ext (Ju e C dx))):=λb o q=>by rw[Bb λz=>by rw[z,he]at q;cases q];exact q
 refine OQ (X:=Cx.hot X e) (i:=i) (v:=.ref e) (Ub I3' e) hN hi (.inl hl) rfl (λs4 I4=>?_) (.inr hl)
 have x3:=gx.grow sm3;have nA:¬ Bf B U' Y e:=λz=>by
  obtain⟨xs,q⟩:=x3.aok e z;rw[Db]at q;cases q
 have rp:Rep X.K CL (upd H' e (.ext (Ju e C dx))) (Bf B U' Y) (.ref e) (.exc y.c y.fs):=by
  refine⟨e,C,Ju e C dx,rfl,nA,hcl,Db,λh ⟨o,z1,z2,_⟩=>⟨o,z1,z2⟩,?_⟩
  rcases hfs with z|⟨d,vs,ed,nd,hd,rf⟩
  .exact .inl z
  .exact .inr ⟨d,vs,nd,sm3 _ _ hd,Repf.kp (Kp.of sm3) _ rf,λh ⟨o,z1,_,z3,z4⟩=>⟨o,z1,z3.trans ed,z4⟩⟩
 have x4:=x3.set i rp;have fin:∀{s5:Ap}{Y5:L2.St}{H5:Hp}{Q:D0->Ap->Prop},Inv (Cx.hot X e) pI Y5 H5 s5->(∀ s6,Inv X pI (Y5.set i Ae) H5 s6->Q () s6)->At (model X.prog X.w) X.A (do bindName X.env n .none;unbindBehindTheSuite X.env n hp) Q X.xe s5:=λ{s5 Y5 H5 Q} I5 k=>by
  have I5':=fM I1.ok I5;obtain⟨m,hn,_⟩:=id I5'.loc;refine wpAny_nameGoes_keeps hl hn (by rw[I1.ok.kind];rfl) λh6 v6 hn6 sb6=>?_
  exact k _ (cO I5' hN hi hn hn6 sb6)
 refine A3 (hh e Fz B pI s4 _ _ {nx:=λY5 H5=>D.nx (Y5.set i Ae) H5,rt:=D.rt} I4 ⟨_,x4,?_⟩) (λf s5 hf=>?_) λ_ _ z=>AY z
 .unfold hdO at p2;cases ef:fh (U'.set i (Aa (.exc y.c y.fs,Ad))) with
  |next U''=>rw[ef]at p2;exact λY5 H5 x5=>p2 _ _ (x5.unset i)
  |ret d b=>rw[ef]at p2;exact p2
  |brk _=>rw[ef]at p2;exact p2.elim
  |cont _=>rw[ef]at p2;exact p2.elim
  |exn _ _=>rw[ef]at p2;exact p2.elim
  |bad=>rw[ef]at p2;exact p2.elim
 .cases f with
  |next=>
   obtain⟨Y5,H5,I5,q⟩:=hf;exact fin I5 λs6 I6=>⟨_,H5,I6,q⟩
  |ret u=>
   obtain⟨v,Y5,H5,I5,r,q⟩:=hf;exact fin I5 λs6 I6=>⟨v,_,H5,I6,r,q⟩
  |brk=>obtain⟨_,_,_,q⟩:=hf;exact AY q
  |cont=>obtain⟨_,_,_,q⟩:=hf;exact AY q
def Rc(X:Cx)(CL:ClA)(up:Af->Ac Af)(g:Ag)(c:Af):Prop:=∃ C',Gl X g/\X.mg g=Aa (.ref C')/\(g==("__debug__" : Ag))=Ad/\XcOk X.K C'/\∀ c' C,CL c'=Aa C->BD X.K (.ref C) (.ref C')=Aa ((up c').contains c)
theorem dS{y:Ex}{Q:Flow->Ap->Prop}{hd:Ac E9}(hx:X.ex=[])(hst:X.stack=X.env::X.outer)(hfm:X.env.frame=Aa X.env.locals)(k:∀ e T1 cls dx H' s1,Inv X pI Y H' s1->Ay H H'->Fly e T1 cls dx s1.heap->Gh X pI e->Gh X pI T1->H' e=Ae->H' T1=Ae->EH X.K CL H' cls dx y->At (model X.prog X.w) X.A (Kl (.ref e) X.env hd) Q X.xe s1):KA X CL pI Y H y (λev s1=>At (model X.prog X.w) X.A (Ed ev X.env) (λ_ s2=>At (model X.prog X.w) X.A (Gs ev Ae) (λ_ s3=>At (model X.prog X.w) X.A (Kl ev X.env hd) Q X.xe s3) X.xe s2) X.xe s1):=by
 intro s' H' e T cls dx I' sm fl he hT ae aT xr;have two:∀{T:Ak}{Z_:Ak->Prop},Z_ e->Z_ T->∀ b∈[e,T],Z_ b:=λ{T Z_} h1 h2 b hb=>by
  rcases AA.mp hb with rfl|hb
  .exact h1
  .rw[Bk.mp hb];exact h2
 have hfr:X.A.frames=Aa (X.env::X.outer):=by rw[<-hst];exact I'.ok.frames
 refine eS (base:=X.base) hfr hfm (by rw[<-hst];exact I'.stack) fl λh1 T1 fl1 sh1 hT1=>?_
 rw[<-hst]at sh1;exact k e T1 cls dx H' _ (Sb I' hx sh1 (two ae aT) (two (Z_:=λb=>H' b=Ae) he hT)) sm fl1 ae (hT1.elim (λz=>z ▸ aT) λz=>Ko I' hx z) he (hT1.elim (λz=>z ▸ hT) λz=>Ix I'.hok z) xr
theorem nB{c i:Af}{g n:Ag}{hp:AF}{fb:Rho->O}(hx:X.ex=[])(hst:X.stack=X.env::X.outer)(hfm:X.env.frame=Aa X.env.locals)(hN:X.N.Nodup)(hi:X.N[i]?=Aa n)(hl:X.env.scope.names.lookup n=Aa .local)(h1:Rc X CL up g c)(hb:STB X CL body fb)(hρ:∀ U y U',fb U=.exn y U'->U'=U)(hh:∀ e,SSs (Cx.hot X e) CL (λ_ _=>AX) (h0::hs) fh):SS X CL W (.Try body [.ExceptHandler (Aa (.Name g p1)) (Aa n) (h0::hs) hp] [] [] pos) (λU=>Wg up c i (fb U) fh):=λFz B pI s Y H D I ⟨U,x,p⟩=>by
 refine wpAny_Try_except (A3 (hb Fz B pI s Y H D U _ PassesOwn.looking I x ?_ (hρ U)) (λf s1 hf=>?_) λ_ _ z=>z)
 .dsimp only at p;cases eb:fb U with
  |exn y U'=>
   rw[eb]at p;intro e0;subst e0;have p2:Bv X.K CL Fz B W (if (up y.c).contains c=Ab then hdO i y U' fh else .bad) D:=p
   refine dS hx hst hfm λe T1 cls dx H' s1 I1 sm fl1 ae aT1 he HT1 xr=>?_
   have gx:=x.grow sm;obtain⟨C,hcl,rfl,_⟩:=xr (Bf B U' Y) gx.aok;obtain⟨C',hg,hm,hdb,xc,hup⟩:=h1;refine mS (W:=W) hx hN hi hl hg hm hdb xc (hup y.c C hcl) hh I1 fl1 ae aT1 he HT1 gx hcl xr (λhc=>?_) (λhc=>?_)
   .rw[As hc]at p2;exact p2
   .rw[AB (by rw[hc];exact Au)]at p2;exact p2.elim
  |next U'=>rw[eb]at p;exact p
  |ret d b=>rw[eb]at p;exact p
  |brk U'=>rw[eb]at p;exact p
  |cont U'=>rw[eb]at p;exact p
  |bad=>rw[eb]at p;exact p.elim
 .cases f with
  |next=>exact Fs hf
  |ret u=>exact hf
  |brk=>exact hf
  |cont=>exact hf
theorem SK{f:Ak}{sp:Sp}{E:XK}{e:Am}{es:Ac Am}{t:TA}(F:FnOk X.prog X.w X.K X.mg X.base CX k f fd ps sp)(hr:Room k X.A)(hg:Gl X x)(hm:X.mg x=Aa (.ref f))(hk:Bm X.K (.ref f)=Ab)(hb:DS X.K fd ps [])(hx:∀ pI H s e s',Inv X pI Y0 H s->CX X.stack H s E e s'->X.xe e s')(ha:PA X (e::es) t)(hdb:(x==("__debug__" : Ag))=Ad)(he:Aq (e::es) X.env=(Ad,eval e X.env)::Aq es X.env)(hpl:(Bo pos (Aq es X.env)).any (·.1)=Ad):PE X (.Call (.Name x p) (e::es) [] pos) (λY H Q=>Y=Y0/\t Y H λvs H1=>sp vs H1 Q E):=by
 intro pI s Y H Q I ⟨e0,h⟩;subst e0;refine Cy (Hh I hg hm ?_ hdb);refine CI (h₀:=X.base) I.ok.mod.kin hk (thn (ha pos pI s Y H _ I h) λus s1 ⟨vs,H1,I1,r,q⟩=>⟨I1.kIn,?_⟩) he hpl
 have hl:us.length=ps.length:=by rw[<-r.length];exact F.len _ _ _ _ q
 have hb':Gq s1 fd ⟨us,[]⟩ (ps.zip us):=by
  have:=hb s1 us I1.kIn (by rw[Bg];exact hl)
  rw[Bg]at this;exact this
 refine Ez (DQ (F.run X.A X.stack s1 H1 ⟨us,[]⟩ us vs Q E hr I1.env0 hb' r q) λr s' hq=>?_)
 cases r with
 |error e=>exact hx pI H1 s1 e s' I1 hq
 |ok fl=>
  cases fl with
  |ret u=>exact I1.after hq
  |next=>exact AY hq
  |brk=>exact AY hq
  |cont=>exact AY hq
def HU(K:Fg)(CL:ClA)(Rp:Hp->V->D->Prop)(E0:XK)(H:Hp)(r:R D)(Q:VK):Prop:=match r with
  |.ok d=>∀ v H',Ay H H'->Rp H' v d->Q v H'
  |.exn y=>∀ cls dx H',Ay H H'->EH K CL H' cls dx y->E0 cls dx H'
  |.bad=>AX
theorem L4{k n:Af}{fr:Al}{f:Ak}{e:Am}{es:Ac Am}{fs ft:Rho->R (Ac D)}{sh:Rho->Al}{E0:XK}(G:FnOk X.prog X.w X.K X.mg X.base CX k f fd ps (spD X.K CL n fr F))(hr:Room k X.A)(hg:Gl X x)(hm:X.mg x=Aa (.ref f))(hk:Bm X.K (.ref f)=Ab)(hb:DS X.K fd ps [])(hx:∀ pI H s e s',Inv X pI Y0 H s->CX X.stack H s E0 e s'->X.xe e s')(ha:SA X CL (λ_ _=>AX) (e::es) fs)(hat:SAT X CL (λ_ _=>AX) (e::es) ft)(hst:∀ U,sh U=Ab->ft U=fs U)(hn:∀ U ds,ft U=.ok ds->ds.length=n)(hnx:∀ U y,ft U≠.exn y)(hdb:(x==("__debug__" : Ag))=Ad)(he:Aq (e::es) X.env=(Ad,eval e X.env)::Aq es X.env)(hpl:∀ pos,(Bo pos (Aq es X.env)).any (·.1)=Ad)(A:Ak->Prop):PE X (.Call (.Name x p) (e::es) [] pos) (λY H Q=>Y=Y0/\AOk H A/\∃ U,Good X.K CL A U Y H/\HU X.K CL (DK X.K CL fr H A) E0 H ((ft U).bind λds=>(F ds).bind λd=>if sh U=Ab then .ok d else if Fl fr d=Ab then .ok d else .bad) Q):=λpI s Y H Q I ⟨e0,hA,U,gd,q⟩=>by
 by_cases hs:sh U=Ab
 .rw[hst U hs]at q;refine SK G hr hg hm hk hb hx (ha A) hdb he (hpl _) pI s Y H Q I ⟨e0,hA,U,gd,?_⟩;cases e1:fs U with
  |bad=>rw[e1]at q;exact q
  |exn y=>exact absurd (by rw[hst U hs];exact e1) (hnx U y)
  |ok ds=>
   rw[e1]at q;intro vs H1 s1 r1;refine⟨ds,A,by rw[r1.length];exact hn U ds (by rw[hst U hs];exact e1),hA.same s1,r1,?_⟩
   have q':HU X.K CL (DK X.K CL fr H A) E0 H ((F ds).bind λd=>if sh U=Ab then .ok d else if Fl fr d=Ab then .ok d else .bad) Q:=q
   cases e2:F ds with
   |ok d=>
    rw[e2,R.bind_ok,As hs]at q';exact λv H2 s2 r2=>q' v H2 (s1.trans s2) ⟨r2.1,λz ds' e'=>let ⟨a,xs,z1,z2,z3⟩:=r2.2 z ds' e';⟨a,xs,z1,s1.free z2,z3⟩⟩
   |exn y=>
    rw[e2]at q';exact λcls dx H2 s2 xr=>q' cls dx H2 (s1.trans s2) xr
   |bad=>rw[e2]at q';exact q'.elim
 .refine SK G hr hg hm hk hb hx (hat A) hdb he (hpl _) pI s Y H Q I ⟨e0,hA,U,gd,?_⟩;cases e1:ft U with
  |bad=>rw[e1]at q;exact q
  |exn y=>exact absurd e1 (hnx U y)
  |ok ds=>
   rw[e1]at q;intro vs H1 s1 r1;refine⟨ds,A0,by rw[r1.plain.length];exact hn U ds e1,λ_ z=>z.elim,r1.plain,?_⟩
   have q':HU X.K CL (DK X.K CL fr H A) E0 H ((F ds).bind λd=>if sh U=Ab then .ok d else if Fl fr d=Ab then .ok d else .bad) Q:=q
   cases e2:F ds with
   |ok d=>
    rw[e2,R.bind_ok,AB hs]at q';split at q'
    .rename_i hc;exact λv H2 s2 r2=>q' v H2 (s1.trans s2) (Vn hA (s1.trans s2) hc ⟨r2.1,λz ds' e'=>let ⟨a,xs,z1,z2,z3⟩:=r2.2 z ds' e';⟨a,xs,z1,s1.free z2,z3⟩⟩)
    .exact q'.elim
   |exn y=>
    rw[e2]at q';exact λcls dx H2 s2 xr=>q' cls dx H2 (s1.trans s2) xr
   |bad=>rw[e2]at q';exact q'.elim
noncomputable def Cx.pw(X:Cx)(pI:Pn)(Xw:Vq):Cx:={X with pn:=X.pn++pI,xe:=Xw}
section
variable{X:Cx}{pI pins':Pn}{Y:L2.St}{H:Hp}{s:Ap}{Xw:Vq}
theorem V2(ok:X.Ok):(Cx.pw X pI Xw).Ok:=⟨ok.mod,ok.kind,ok.glob,ok.blt,ok.above,ok.inj,ok.has,ok.cab,ok.hd,ok.frames,ok.stk,ok.exf,ok.bs,ok.bsz,ok.noex,ok.exfs,ok.funs,ok.frf⟩
theorem JU(I:Inv X pI Y H s)(Xw:Vq):Inv (Cx.pw X pI Xw) [] Y H s:=⟨V2 I.ok,I.os,I.bare,I.base,I.loc,I.cell,I.free,I.freeC,λp hp=>I.pin p (by
 rcases Dp.mp hp with z|z
 .exact z
 .exact absurd z (by simp)),I.hok,I.len⟩
theorem Ks(ok:X.Ok)(I:Inv (Cx.pw X pI Xw) pins' Y H s):Inv X pI Y H s:=⟨ok,I.os,I.bare,I.base,I.loc,I.cell,I.free,I.freeC,λp hp=>I.pin p (EY _ hp),I.hok,I.len⟩
theorem Lg(ok:X.Ok){D:Ends}{f:Flow}{s':Ap}(h:SP (Cx.pw X pI Xw) pins' D f s'):SP X pI D f s':=by
 cases f with
 |next=>obtain⟨Y',H',I,q⟩:=h;exact⟨Y',H',Ks ok I,q⟩
 |brk=>obtain⟨Y',H',I,q⟩:=h;exact⟨Y',H',Ks ok I,q⟩
 |cont=>obtain⟨Y',H',I,q⟩:=h;exact⟨Y',H',Ks ok I,q⟩
 |ret u=>obtain⟨v,Y',H',I,r,q⟩:=h;exact⟨v,Y',H',Ks ok I,r,q⟩
end
section
variable{X:Cx}{CL:ClA}{k n:Af}{fr:Al}{f:Ak}{fd:Bx}{ps:Ac Ag}{F:Ac D->R D}{x:Ag}{p pos pos2:AF}{e:Am}{es:Ac Am}{fs ft:Rho->R (Ac D)}{sh:Rho->Al}
theorem Pu{y:Ex}(hx:X.ex=[])(ok:X.Ok)(q:KA X CL pI Y H y Xw):∀ pins' H1 s1 e s',Inv (Cx.pw X pI Xw) pins' Y H1 s1->CXR X.prog X.w (Cx.pw X pI Xw).stack H1 s1 (λcls dx H'=>EH X.K CL H' cls dx y/\Ay H H') e s'->(Cx.pw X pI Xw).xe e s':=by
 intro pins' H1 s1 ev s' J h;obtain⟨e,T,cls,dx,H',rfl,os,bare,un,hok,fl,he,hT,ne,nT,xr,sm⟩:=h;have J':=Ks ok J;have J2:=J'.call' (s':=s') (ch:=[]) os un hok bare (λb z=>absurd z (by simp))
 exact q s' H' e T cls dx J2 sm fl he hT (Ko J' hx ne) (Ko J' hx nT) xr
theorem Pv:∀ pins' H1 s1 e s',Inv (Cx.pw X pI Xw) pins' Y H1 s1->CXR X.prog X.w (Cx.pw X pI Xw).stack H1 s1 (λ_ _ _=>AX) e s'->(Cx.pw X pI Xw).xe e s':=by
 intro pins' H1 s1 ev s' J h;obtain⟨e,T,cls,dx,H',rfl,os,bare,un,hok,fl,he,hT,ne,nT,w⟩:=h;exact w.elim
variable(hx0:X.ex=[])(G:FnOk X.prog X.w X.K X.mg X.base (CXR X.prog X.w) k f fd ps (spD X.K CL n fr F))(hr:Room k X.A)(hg:Gl X x)(hm:X.mg x=Aa (.ref f))
    (hk:Bm X.K (.ref f)=Ab) (hb:DS X.K fd ps []) (hst:∀ U,sh U=Ab->ft U=fs U) (hn:∀ U ds,ft U=.ok ds->ds.length=n) (hnx:∀ U y,ft U≠.exn y)
    (hdb:(x==("__debug__" : Ag))=Ad) (he:Aq (e::es) X.env=(Ad,eval e X.env)::Aq es X.env) (hpl:∀ pos,(Bo pos (Aq es X.env)).any (·.1)=Ad)
    (ha:∀ pI Xw,DP (model X.prog X.w) X.A X.env Xw->SA (Cx.pw X pI Xw) CL (λ_ _=>AX) (e::es) fs/\SAT (Cx.pw X pI Xw) CL (λ_ _=>AX) (e::es) ft)
include hx0 G hr hg hm hk hb hst hn hnx hdb he hpl ha
theorem dZ(hs:Cn (.Call (.Name x p) (e::es) [] pos) Ae pos2.line X.env=pure Ad):STB X CL [.Expr (.Call (.Name x p) (e::es) [] pos) pos2] (λU=>O.of U ((ft U).bind λds=>(F ds).bind λd=>if sh U=Ab then .ok d else if Fl fr d=Ab then .ok d else .bad) λ_=>.next U):=by
 intro Fz B pI s Y H D U Xw own I sx q _;obtain⟨ha1,ha2⟩:=ha pI Xw own;dsimp only at q;cases er:(ft U).bind λds=>(F ds).bind λd=>if sh U=Ab then .ok d else if Fl fr d=Ab then .ok d else .bad with
 |bad=>rw[er]at q;exact q.elim
 |exn y=>
  rw[er]at q;have key:=L4 (X:=Cx.pw X pI Xw) (p:=p) (pos:=pos) (Y0:=Y) (fr:=fr) (F:=F) (n:=n) (sh:=sh) G hr hg hm hk hb (Pu hx0 I.ok (q rfl)) ha1 ha2 hst hn hnx hdb he hpl (Bf B U Y);refine A3 (Ja (Ir (pos:=pos2) key hs) [] s Y H D (JU I Xw) ⟨rfl,sx.aok,U,sx.good,?_⟩) (λ_ _ z=>Lg I.ok z) λ_ _ z=>z
  rw[er];exact λcls dx H' sm xr=>⟨xr,sm⟩
 |ok d=>
  rw[er]at q;have key:=L4 (X:=Cx.pw X pI Xw) (p:=p) (pos:=pos) (Y0:=Y) (fr:=fr) (F:=F) (n:=n) (sh:=sh) (E0:=λ_ _ _=>AX) G hr hg hm hk hb Pv ha1 ha2 hst hn hnx hdb he hpl (Bf B U Y)
  refine A3 (Ja (Ir (pos:=pos2) key hs) [] s Y H D (JU I Xw) ⟨rfl,sx.aok,U,sx.good,?_⟩) (λ_ _ z=>Lg I.ok z) λ_ _ z=>z
  rw[er];exact λv H' sm r=>q Y H' (sx.grow sm)
theorem gQ{i:Af}{m:Ag}(hN:X.N.Nodup)(hi:X.N[i]?=Aa m)(hl:Loc X.env.scope m)(hf:X.fn m=Ab\/X.env.scope.names.lookup m=Aa .local)(hs:Cn (.Call (.Name x p) (e::es) [] pos) (Aa (.Name m pos')) pos2.line X.env=pure Ad):STB X CL [.Assign [.Name m pos'] (.Call (.Name x p) (e::es) [] pos) pos2] (λU=>O.of U ((ft U).bind λds=>(F ds).bind λd=>if sh U=Ab then .ok d else if Fl fr d=Ab then .ok d else .bad) λd=>.next (U.set i (Aa (d,Ad)))):=by
 intro Fz B pI s Y H D U Xw own I sx q _;obtain⟨ha1,ha2⟩:=ha pI Xw own;dsimp only at q;cases er:(ft U).bind λds=>(F ds).bind λd=>if sh U=Ab then .ok d else if Fl fr d=Ab then .ok d else .bad with
 |bad=>rw[er]at q;exact q.elim
 |exn y=>
  rw[er]at q;have key:=L4 (X:=Cx.pw X pI Xw) (p:=p) (pos:=pos) (Y0:=Y) (fr:=fr) (F:=F) (n:=n) (sh:=sh) G hr hg hm hk hb (Pu hx0 I.ok (q rfl)) ha1 ha2 hst hn hnx hdb he hpl (Bf B U Y);refine A3 (Ja (Ml (X:=Cx.pw X pI Xw) (i:=i) (pos:=pos2) hN hi hl key hs hf) [] s Y H D (JU I Xw) ⟨rfl,sx.aok,U,sx.good,?_⟩) (λ_ _ z=>Lg I.ok z) λ_ _ z=>z
  rw[er];exact λcls dx H' sm xr=>⟨xr,sm⟩
 |ok d=>
  rw[er]at q;have key:=L4 (X:=Cx.pw X pI Xw) (p:=p) (pos:=pos) (Y0:=Y) (fr:=fr) (F:=F) (n:=n) (sh:=sh) (E0:=λ_ _ _=>AX) G hr hg hm hk hb Pv ha1 ha2 hst hn hnx hdb he hpl (Bf B U Y)
  refine A3 (Ja (Ml (X:=Cx.pw X pI Xw) (i:=i) (pos:=pos2) hN hi hl key hs hf) [] s Y H D (JU I Xw) ⟨rfl,sx.aok,U,sx.good,?_⟩) (λ_ _ z=>Lg I.ok z) λ_ _ z=>z
  rw[er];exact λv H' sm r=>q _ H' ((sx.grow sm).set i r.1)
end
section
variable{X:Cx}{CL:ClA}{W:XW}
theorem eB{np cpos pos:AF}{e:Am}{es:Ac Am}(hcalm:X.calm=Ab)(rz:MI X CL W)(hg:Gl X g)(hm:X.mg g=Aa (.ref C))(hdb:(g==("__debug__" : Ag))=Ad)(xc:Dl X.K C Ae=Ab)(hcl:CL c=Aa C)(ha:SA X CL W (e::es) fs)(hxn:∀ ds,xn c ds=.bad\/xn c ds=.ok ⟨c,[]⟩)(he:Aq (e::es) X.env=(Ad,eval e X.env)::Aq es X.env)(hpl:∀ pos,(Bo pos (Aq es X.env)).any (·.1)=Ad)(hz:∀ U ds,fs U=.ok ds->ds.length<=100000):SS X CL W (.Raise (Aa (.Call (.Name g np) (e::es) [] cpos)) Ae pos) (λU=>O.of U (noX (fs U)) λxs=>O.of U (xn c xs) λx=>.exn x U):=λFz B pI s Y H D I ⟨U,x,p⟩=>by
 dsimp only at p;cases e1:fs U with
 |bad=>rw[e1]at p;exact p.elim
 |exn y=>rw[e1]at p;exact p.elim
 |ok ds=>
  rw[e1]at p;have p2:Bv X.K CL Fz B W (O.of U (xn c ds) λx=>.exn x U) D:=p
  rcases hxn ds with e2|e2
  .rw[e2]at p2;exact p2.elim
  .rw[e2]at p2;have p3:∀ H,(∀ b o,Fz b o->H b=Aa o)->W ⟨c,[]⟩ H:=p2;obtain⟨bm,N,nm,qn,bs,hd,sn,sub,ab,col,dd,k0,k1,k2,k3,k5,mN,hob,hni,hbase⟩:=LX I.kIn xc;refine wpAny_Raise_call_subT (bmB:=veB) (nm:=nm) (q:=qn) (C:=C) (N:=N) (bs:=bs) (bm:=bm) (hdct:=hd) (sn:=sn) (sub:=sub) (ab:=ab) (col:=col) (dd:=dd) (k0:=k0) (k1:=k1) (k2:=k2) (k3:=k3) (k5:=k5) (mN:=mN) C7 hbase (I.ok.hd hcalm) (by rw[he];show (Ad||(Bo cpos (Aq es X.env)).any (·.1))=Ad;rw[hpl];rfl) hni ?_
   refine Hh I hg hm ⟨rfl,?_⟩ hdb;have q1:=ha (Bf B U Y) cpos pI s Y H (λvs H1=>Ay H H1/\vs.length=ds.length) I ⟨x.aok,U,x.good,by rw[e1];exact λvs H1 s1 r1=>⟨s1,r1.length⟩⟩
   rw[he]at q1 ⊢;refine E1 (A3 q1 (λus s2 ⟨vs,H2,I2,r2,s2',hl⟩=>⟨rfl,?_⟩) λ_ _ z=>z)
   obtain⟨o1,o2,o3⟩:=hob _ I2.kIn;refine⟨?_,o1,o2,o3,λh' ev hmade=>?_⟩
   .rw[<-r2.length,hl,Bs];have:=hz U ds e1;omega
   .obtain⟨t,ge,_⟩:=hmade.there;have I3:Inv X pI Y H2 {s2 with heap:=h'}:=I2.kept (t':=s2.toks) hmade.keeps
    exact rz pI Y H2 _ ev C Ae t ⟨c,[]⟩ I3 (λhx=>Iw I2 hx hmade.new) (Ix I2.hok hmade.new) ge (λA _=>⟨C,hcl,rfl,.inl rfl⟩) (p3 H2 λb o z=>s2' _ _ (x.same b o z))
def Mm(K:Fg)(CL:ClA)(up:Af->Ac Af)(c':Af)(C':Ak):Prop:=∀ c C,CL c=Aa C->B9 K (.ref C) (.ref C')=Aa ((up c).contains c')
theorem S8{s:Ap}{a C:Ak}{cv:Aj}{b:Al}{Q:VK}(I:Inv X pI Y H s)(ha:H a=Aa (.ext φ))(hφ:∀ h,φ h->∃ o,h.get? a=Aa o/\o.cls=.ref C)(xc:XcOk X.K C)(e:B9 X.K (.ref C) cv=Aa b)(q:Q (.bl b) H):
  At (model X.prog X.w) X.A (call (.builtin "isinstance") [.ref a,cv]) (EP X pI Y Q) X.xe s:=by
 have p:XAt a C s.heap:=hφ _ (I.hok a _ ha).1;exact Cb (S6 xc) I.kIn p e (by intro z;cases z) λtk=>⟨.bl b,H,I.tok tk,rfl,q⟩
theorem RU:∀(Cs:Ac Ak){its:Ac Aj},AZ (Cs.map V.ref) its->its=Cs.map Bc
 |[],_,rv=>by cases rv;rfl
 |c::cs,_,rv=>by
  cases rv with
  |cons h1 h2=>rw[RU cs h2];cases h1;rfl
theorem mM{s:Ap}{a C tp:Ak}{Cs:Ac Ak}{b:Al}{Q:VK}(I:Inv X pI Y H s)(ha:H a=Aa (.ext φ))(hφ:∀ h,φ h->∃ o,h.get? a=Aa o/\o.cls=.ref C)(xc:XcOk X.K C)(ht:H tp=Aa (.tup (Cs.map V.ref)))(e:II X.K (.ref C) (Cs.map Bc)=Aa b)(q:Q (.bl b) H):
  At (model X.prog X.w) X.A (call (.builtin "isinstance") [.ref a,.ref tp]) (EP X pI Y Q) X.xe s:=by
 have p:XAt a C s.heap:=hφ _ (I.hok a _ ha).1;obtain⟨_,its,rv,⟨o,ho,hc,n,hd⟩⟩:=I.hok tp _ ht;have ei:its=Cs.map Bc:=RU Cs rv;subst ei;obtain⟨cls,dd,dat,sl⟩:=o;have hc':cls=.type "tuple" := hc;have hd':dat=.seq (CA (Cs.map Bc)) n:=hd;subst hc' hd';exact PySem.W.kia_tup (S6 xc) I.kIn p ho e (by intro z;cases z) λtk=>⟨.bl b,H,I.tok tk,rfl,q⟩
theorem Ua{K:Fg}{up:Af->Ac Af}{c:Af}{C:Ak}(h:CL c=Aa C):∀(cs:Ac (Af×Ak)),(∀ p∈cs,Mm K CL up p.1 p.2)->II K (.ref C) ((cs.map λq:Af×Ak=>q.2).map Bc)=Aa (cs.any λp=>(up c).contains p.1)
  |[],_=>rfl
  |p::cs,hk=>by
    have h1:=hk p AJ c C h;have h2:=Ua h cs λq hq=>hk q (Aw _ hq)
    show (match B9 K (.ref C) (.ref p.2) with
      |some Ab=>Aa Ab
      |some Ad=>II K (.ref C) ((cs.map λq:Af×Ak=>q.2).map Bc)
      | none=>Ae)=_
    rw[h1,WV];cases (up c).contains p.1 with
    |true=>rfl
    |false=>rw[h2];rfl
theorem Pe{ks:Ac Ki}{Q:VK}(hk:ks.all Eo=Ab)(hne:ks≠[])(p:AV Rp W H (EI up ks d) Q):∃ c fs,d=.exc c fs/\AV Rp W H (.ok (.bl (ks.any λk=>kiD up k d))) Q:=by
 have ha:ks.any Eo=Ab:=by
  cases ks with
  |nil=>exact absurd rfl hne
  |cons k ks=>simp only[B0,Ai]at hk;simp[WV,hk.1]
 cases d with
 | exc c fs=>exact⟨c,fs,rfl,by
   have p':AV Rp W H (if ks.all Eo=Ab then .ok (.bl (ks.any λk=>kiD up k (.exc c fs))) else .bad) Q:=p
   rw[As hk]at p';exact p'⟩
 |obj c fs=>exact AY p
 |dic _=>exact AY p
 |non=>simp only[EI,ha,EW]at p;exact AY p
 |bl _=>simp only[EI,ha,EW]at p;exact AY p
 |int _=>simp only[EI,ha,EW]at p;exact AY p
 |str _=>simp only[EI,ha,EW]at p;exact AY p
 |tup _=>simp only[EI,ha,EW]at p;exact AY p
 |lst _=>simp only[EI,ha,EW]at p;exact AY p
theorem PB{v:V}{fs:Ac (Ag×D)}(r:Cw K CL H A v (.exc c fs)):∃ a C φ,v=.ref a/\CL c=Aa C/\H a=Aa (.ext φ)/\∀ h,φ h->∃ o,h.get? a=Aa o/\o.cls=.ref C:=by
 rcases r with ⟨a,C,φ,e,_,hc,hH,hφ,_⟩|⟨a,xs,ds,_,z,_⟩
 .exact⟨a,C,φ,e,hc,hH,hφ⟩
 .cases z
variable{a:Am}{fa:Rho->R D}{up:Af->Ac Af}{x:Ag}{p p2 pos:AF}
theorem UI{c':Af}(hxc:∀ c C,CL c=Aa C->XcOk X.K C)(hg:Gl X "isinstance")(hm:X.mg "isinstance" = Ae)(hg2:Gl X x)(hm2:X.mg x=Aa (.ref C'))(hkit:Mm X.K CL up c' C')(hdb:(x==("__debug__" : Ag))=Ad)(ha:ST X CL W a fa)(he:Aq [a,.Name x p2] X.env=(Ad,eval a X.env)::Aq [.Name x p2] X.env):SE X CL W (.Call (.Name "isinstance" p) [a,.Name x p2] [] pos) (λU=>(fa U).bind λx=>EI up [.cls c'] x):=λA=>
 PE.weak (Kq (r:=λxs H Q=>∃ a C φ c,xs=[.ref a,.ref C']/\CL c=Aa C/\H a=Aa (.ext φ)/\(∀ h,φ h->∃ o,h.get? a=Aa o/\o.cls=.ref C)/\Q (.bl ((up c).contains c')) H) (λpI s Y H xs us Q I r ⟨b,C,φ,c,e,hc,hH,hφ,q⟩=>by
   subst e;obtain⟨u,w',rfl,r1,r2⟩:=Lr r;cases r1;cases r2;exact S8 I hH hφ (hxc c C hc) (hkit c C hc) q)
  hg hm Fn (DJ (ha A) (DJ (PD (v:=.ref C') hg2 hm2 rfl hdb) ET rfl) he) (by decide) (by decide) he rfl) λY H Q ⟨hA,U,g,q⟩=>⟨hA,U,g,AV.bind q λd v H1 _ s1 r1 p1=>by
   obtain⟨c,fs,rfl,p2⟩:=Pe (by rfl) (by simp) p1
   obtain⟨b,C,φ,rfl,hc,hH,hφ⟩:=PB r1;refine⟨b,C,φ,c,rfl,hc,hH,hφ,p2 _ H1 (Ay.refl H1) ?_⟩;exact congrArg V.bl (DW _).symm⟩
theorem UH(hxc:∀ c C,CL c=Aa C->XcOk X.K C)(hg:Gl X "isinstance")(hm:X.mg "isinstance" = Ae)(hg2:Gl X "ValueError")(hm2:X.mg "ValueError" = Ae)(ha:ST X CL W a fa)(he:Aq [a,.Name "ValueError" p2] X.env=(Ad,eval a X.env)::Aq [.Name "ValueError" p2] X.env):SE X CL W (.Call (.Name "isinstance" p) [a,.Name "ValueError" p2] [] pos) (λU=>(fa U).bind λx=>EI up [.verr] x):=λA=>
 PE.weak (Kq (r:=λxs H Q=>∃ a C φ c,xs=[.ref a,.ty "ValueError"]/\CL c=Aa C/\H a=Aa (.ext φ)/\(∀ h,φ h->∃ o,h.get? a=Aa o/\o.cls=.ref C)/\Q (.bl Ab) H) (λpI s Y H xs us Q I r ⟨b,C,φ,c,e,hc,hH,hφ,q⟩=>by
   subst e;obtain⟨u,w',rfl,r1,r2⟩:=Lr r;cases r1;cases r2;exact S8 I hH hφ (hxc c C hc) (hxc c C hc).ve q)
  hg hm Fn (DJ (ha A) (DJ (Uk (v:=.ty "ValueError") hg2 hm2 PyProof.Rows.Boot.«ValueError» rfl (by decide) (by decide)) ET rfl) he) (by decide) (by decide) he rfl) λY H Q ⟨hA,U,g,q⟩=>⟨hA,U,g,AV.bind q λd v H1 _ s1 r1 p1=>by
   obtain⟨c,fs,rfl,p2⟩:=Pe (by rfl) (by simp) p1
   obtain⟨b,C,φ,rfl,hc,hH,hφ⟩:=PB r1;refine⟨b,C,φ,c,rfl,hc,hH,hφ,p2 _ H1 (Ay.refl H1) ?_⟩;exact congrArg V.bl (DW _).symm⟩
theorem nY(up:Af->Ac Af)(c:Af)(fs:Ac (Ag×D))(cs:Ac (Af×Ak)):((cs.map λq=>Ki.cls q.1).any λk=>kiD up k (.exc c fs))=cs.any λq=>(up c).contains q.1:=List.any_map
def WC(Cs:Ac Ak):TA:=λ_ H Q=>Q (Cs.map V.ref) H
theorem pW{ts:Ac Am}{cs:Ac (Af×Ak)}(hxc:∀ c C,CL c=Aa C->XcOk X.K C)(hg:Gl X "isinstance")(hm:X.mg "isinstance" = Ae)(hts:PA X ts (WC (cs.map λq:Af×Ak=>q.2)))(hne:cs≠[])(hl:cs.length<=1000)(hkit:∀ q∈cs,Mm X.K CL up q.1 q.2)(ha:ST X CL W a fa)(he:Aq [a,.Tuple ts kk p2] X.env=(Ad,eval a X.env)::Aq [.Tuple ts kk p2] X.env):SE X CL W (.Call (.Name "isinstance" p) [a,.Tuple ts kk p2] [] pos) (λU=>(fa U).bind λx=>EI up (cs.map λq=>.cls q.1) x):=λA=>
 PE.weak (Kq (r:=λxs H Q=>∃ a C φ c tp,xs=[.ref a,.ref tp]/\CL c=Aa C/\H a=Aa (.ext φ)/\(∀ h,φ h->∃ o,h.get? a=Aa o/\o.cls=.ref C)/\H tp=Aa (.tup ((cs.map λq:Af×Ak=>q.2).map V.ref))/\Q (.bl (cs.any λq=>(up c).contains q.1)) H) (λpI s Y H xs us Q I r ⟨b,C,φ,c,tp,e,hc,hH,hφ,ht,q⟩=>by
   subst e;obtain⟨u,w',rfl,r1,r2⟩:=Lr r;cases r1;cases r2;exact mM I hH hφ (hxc c C hc) ht (Ua hc cs hkit) q)
  hg hm Fn (DJ (ha A) (DJ (UT hts) ET rfl) he) (by decide) (by decide) he rfl) λY H Q ⟨hA,U,g,q⟩=>⟨hA,U,g,AV.bind q λd v H1 _ s1 r1 p1=>by
   have hk:(cs.map λq=>Ki.cls q.1).all Eo=Ab:=by simp[Fu,Eo]
   obtain⟨c,fs,rfl,p2⟩:=Pe hk (by simpa using hne) p1
   obtain⟨b,C,φ,rfl,hc,hH,hφ⟩:=PB r1;refine⟨by rw[AU,AU,Bs];omega,λt ht=>?_⟩
   have hbt:b≠t:=F1 hH ht;refine⟨b,C,φ,c,t,rfl,hc,by rw[Bb hbt];exact hH,hφ,Db,p2 _ _ (En ht _) ?_⟩
   exact congrArg V.bl (nY up c fs cs).symm⟩
end
theorem P9(q:Dl K C v=Ab):∃ dd cd sl bm,K.lookup C=Aa ⟨.type "type",dd,.cls cd,sl⟩/\cd.mro=.ref C::bm:=by
 unfold Dl at q;split at q
 .rename_i dd cd sl ho;split at q
  .rename_i C' bm k0 k1 k2 k3 n k5 hm hs;simp only[Ai,AD,Br]at q;obtain⟨rfl,_⟩:=q;exact⟨dd,cd,sl,bm,ho,hm⟩
  .cases q
 .cases q
theorem No(q:Dl K C v=Ab):∃ cd bm,Dy K C=Aa cd/\cd.mro=.ref C::bm:=by
 obtain⟨dd,cd,sl,bm,h1,h2⟩:=P9 q;exact⟨cd,bm,by unfold Dy;rw[h1],h2⟩
theorem Vj(q:Dl K C v=Ab):Dh K (.ref C)=Aa (.type "type"):=by
 obtain⟨dd,cd,sl,bm,h1,h2⟩:=P9 q;show (K.lookup C).map _=_;rw[h1];rfl
theorem mI{v:Al}{i i':Ao Aj}(q:Dl K C i=Ab)(q':Dl K C' i'=Ab)(su:BD K (.ref C) (.ref C')=Aa v):B9 K (.ref C) (.ref C')=Aa v:=by
 unfold B9;by_cases e:C=C'
 .subst e;obtain⟨cd,bm,h1,h2⟩:=No q;have su':Cp K C (.ref C)=Aa v:=su;have:v=Ab:=by
   unfold Cp at su';rw[h1,Xp,h2,AB (by simp)]at su'
   rw[<-Be su'];simp
  rw[As (by simp),this]
 .rw[AB (λz=>e (Jx (AD.mp z)))]
  obtain⟨cd,bm,h1,h2⟩:=No q';show (if ((Dy K C').isSome&&Dh K (.ref C')==Aa (.type "type"))=Ab then BD K (.ref C) (.ref C') else Ae)=_
  rw[h1,Vj q',As (by simp),su]
theorem tG(exc:Dl K C v=Ab)(ga:Av K (.ref C) "__getattribute__" = Aa (Aa (.builtin "BaseException.__getattribute__")))(gt:Av K (.ref C) "__getattr__" = Aa Ae)(cl:Av K (.ref C) "__class__" = Aa (Aa (.builtin "object.__class__")))(ob:Cp K C (.type "object")=Aa Ab)(be:BD K (.ref C) (.type "BaseException")=Aa Ab)(sv:BD K (.ref C) (.type "ValueError")=Aa Ab):XcOk K C:=by
 obtain⟨cd,bm,h1,h2⟩:=No exc;refine⟨⟨v,exc⟩,ga,gt,cl,ob,be,by rw[h1];rfl,?_⟩
 unfold B9;rw[AB (λz=>by cases AD.mp z)]
 have hm:Y_8 "ValueError" = Ab:=by decide+kernel
 show (if Y_8 "ValueError" = Ab then BD K (.ref C) (.type "ValueError") else Ae)=_
 rw[As hm,sv]
noncomputable abbrev Oe:CXT:=λ_ _ _ _ _ _=>AX
structure HotOk (P:AO) (w:A1) (K:Fg) (mg:Ag->Ao Aj) (base:AC) (k:Af) (f:Ak) (fd:Bx) (ps:Ac Ag) (sp:Sp):Prop where
 len:∀ vs H Q E,sp vs H Q E->vs.length=ps.length
 run:∀(A:AW)(ev:Ak)(outer:Ac Cj)(s:Ap)(H:Hp)(args:Args)(us:Ac Aj)(vs:Ac V)(Q:VK)(E:XK),Room k A->Env0 P w K mg base (A.mark (Aa (.ref ev))) outer s H->Gq s fd args (ps.zip us)->AZ vs us->sp vs H Q E ->
  ES (model P w) (A.mark (Aa (.ref ev))) (.call (.ref f) args) (CR Oe outer P w H s Q E) s
theorem fJ{v:Al}{i:Ao Aj}(q:Dl K C i=Ab)(mr:Cp K C' (.type "object")=Aa Ab)(ty:Dh K (.ref C')=Aa (.type "type"))(su:BD K (.ref C) (.ref C')=Aa v):B9 K (.ref C) (.ref C')=Aa v:=by
 unfold B9;by_cases e:C=C'
 .subst e;obtain⟨cd,bm,h1,h2⟩:=No q;have su':Cp K C (.ref C)=Aa v:=su;have:v=Ab:=by
   unfold Cp at su';rw[h1,Xp,h2,AB (by simp)]at su'
   rw[<-Be su'];simp
  rw[As (by simp),this]
 .rw[AB (λz=>e (Jx (AD.mp z)))]
  show (if ((Dy K C').isSome&&Dh K (.ref C')==Aa (.type "type"))=Ab then BD K (.ref C) (.ref C') else Ae)=_
  have cs:(Dy K C').isSome=Ab:=by
   unfold Cp at mr;cases e1:Dy K C' with
   |none=>rw[e1]at mr;cases mr
   |some cd=>rfl
  rw[cs,ty,As (by simp),su]
def spH(K:Fg)(CL:ClA)(n:Af)(fr:Al)(F:Ac D->R D):Sp:=λvs H Q _=>∃(ds:Ac D)(A:Ak->Prop),vs.length=n/\AOk H A/\Reps K CL H A vs ds/\(match F ds with
  |.ok d=>∀ v H',Ay H H'->DK K CL fr H A H' v d->Q v H'
  |.exn _=>AX
  | .bad=>AX)
section
variable{X:Cx}{CL:ClA}{ev:Ak}
theorem gP{t:Am}{xs ys:Ac AM}{fx fy:Rho->O}(hc:∀ pI Xw,DP (model X.prog X.w) X.A X.env Xw->SB (Cx.pw X pI Xw) CL (λ_ _=>AX) t fc)(hnx:∀ U y,fc U≠.exn y)(hx:STB X CL xs fx)(hy:STB X CL ys fy):STB X CL [.If t xs ys pos] (λU=>O.of U (fc U) λb=>if b=Ab then fx U else fy U):=by
  intro Fz B pI s Y H D U Xw own I sx q hρ;dsimp only at q hρ;cases ec:fc U with
  |bad=>rw[ec]at q;exact q.elim
  |exn y=>exact absurd ec (hnx U y)
  |ok b=>
    rw[ec]at q hρ;have key:=hc pI Xw own (Bf B U Y) [] s Y H (λb' H'=>b'=b/\Ay H H') (JU I Xw) ⟨sx.aok,U,sx.good,by rw[ec];exact λH' sm=>⟨rfl,sm⟩⟩
    refine HL (thn (wpAny_If (Q:=SP X pI D) (thn key λb' s1 ⟨H1,I1,e,sm⟩=>?_)) (λf s1 z=>by
      cases f with
      |next=>exact Fs z
      |ret v=>exact z
      |brk=>exact z
      | cont=>exact z))
    subst e;have J:=Ks I.ok I1;have up:∀{y:Ex},KA X CL pI Y H y Xw->KA X CL pI Y H1 y Xw:=λ{y} w s' H' e T cls dx a1 a2=>w s' H' e T cls dx a1 (sm.trans a2)
    have lift:∀{o:O},(match o with
       |.exn y U'=>U'=U->KA X CL pI Y H y Xw
       |o=>Bv X.K CL Fz B (λ_ _=>AX) o D)->(match o with
       |.exn y U'=>U'=U->KA X CL pI Y H1 y Xw
       | o=>Bv X.K CL Fz B (λ_ _=>AX) o D):=λ{o} z=>by
      cases o with
      |exn y U'=>exact λe=>up (z e)
      |next _=>exact z
      |ret _ _=>exact z
      |brk _=>exact z
      |cont _=>exact z
      |bad=>exact z
    cases b' with
    |true=>exact hx Fz B pI s1 Y H1 D U Xw own J (sx.grow sm) (lift q) hρ
    |false=>exact hy Fz B pI s1 Y H1 D U Xw own J (sx.grow sm) (lift q) hρ
end
section
variable{M:GC}{A:AW}{E:Vq}{s:Ap}{env:Cj}{nm q:Ag}{C N:Ak}{bs bm bmB:Ac Aj}{hdct:Al}{sn:Ac Ag}{sub:Ac Aj}{ab:Al}{col:Ao Al}{dd:Ao Ak}{k0 k1 k2 k3 k5:Ao Aj}{B newId initId:CM}
theorem kR{x:FW Aj}{Q:Flow->Ap->Prop}(hb:bm.contains (.type "BaseException")=Ab)(hh:A.handled=Ae)(h:At M A x (λv s'=>∃ e t dx,v=.ref e/\s'.heap.get? C=Aa (BX nm q C N bs bm hdct sn sub ab col dd k0 k1 k2 k3 k5 newId)/\s'.heap.get? e=Aa (Gf C dx t)/\E (.ref e) s') E s):At M A (raiseStmt env (Aa x) Ae) Q E s:=by
 have hB:(Bc C::bm).contains (.type "BaseException")=Ab:=by rw[Ha,hb,JB]
 unfold raiseStmt;refine An (A3 h (λv s' z=>?_) λ_ _ z=>z)
 obtain⟨e,t,dx,rfl,gC,ge,hE⟩:=z;obtain⟨hp,g,d,tk,os⟩:=s';unfold Gf at ge
 repeat (first|(with_reducible refine B7 ge ?_)|(with_reducible refine B7 gC ?_)|(with_reducible refine Fd gC ?_;rw[hB])|wp_step)
 exact wpAny_raiseNew_none hh hE
end
section
variable{prog:AO}{w:A1}{A:AW}{E:Vq}{h:AC}{g:A9 ED}{d:Ie}{t:Af}{os:Hu}
variable{nm q:Ag}{C N fI:Ak}{bs bm bmB:Ac Aj}{hdct:Al}{sn:Ac Ag}{sub:Ac Aj}{ab:Al}{col:Ao Al}{dd:Ao Ak}{k0 k1 k2 k3 k5:Ao Aj}{B newId initId:CM}{mN:Ag->Ao Aj}{rest:Ac Aj}{oI:Da}
theorem iT{Q:Fin->Ap->Prop}(F:HH B newId initId bmB)(T:DU h bmB bm)(gC:h.get? C=Aa (BX nm q C N bs bm hdct sn sub ab col dd k0 k1 k2 k3 k5 newId))(hn:h.Ns N mN)(hi:mN "__init__" = Aa (.ref fI))(gI:h.get? fI=Aa oI)(cI:oI.cls=.type "function")(hl:rest.length<=sizeLine)(hq:∀ h' e,IH h h' e (.ref C) rest->At (model prog w) A (call (.ref fI) (.ref e::rest)) (λr s'=>r=.none/\Q (.done (.ret (.ref e))) s') E ⟨h',g,d,t,os⟩):At (model prog w) A (Builtin.«type.__call__» ⟨.ref C::rest,[]⟩) Q E ⟨h,g,d,t,os⟩:=by
 repeat (first|(with_reducible refine B7 gC ?_)|(with_reducible refine wpAny_madeBy_exc gC ?_)|wp_step)
 refine codeAny_call_builtin_code (Hb _ F.quiet) (wpAny_check_new_subT F T gC (codeAny_exc_new_subT F T gC ?_ hl));show At _ _ _ _ _ _;have kp:∀ b o,h.get? b=Aa o->((h.push { cls:=.type "tuple",data:=.seq rest.toArray }).push {cls:=.ref C,data:=.fields #[.ref h.objs.size,.none,.none,.none,.bool Ad,.none]}).get? b=Aa o:=λb o z=>Ar _ (Ar _ z)
 have ge:((h.push { cls:=.type "tuple",data:=.seq rest.toArray }).push {cls:=.ref C,data:=.fields #[.ref h.objs.size,.none,.none,.none,.bool Ad,.none]}).get? (h.objs.size+1)=Aa {cls:=.ref C,data:=.fields #[.ref h.objs.size,.none,.none,.none,.bool Ad,.none]}:=by heap_get
 have gt:((h.push { cls:=.type "tuple",data:=.seq rest.toArray }).push {cls:=.ref C,data:=.fields #[.ref h.objs.size,.none,.none,.none,.bool Ad,.none]}).get? h.objs.size=Aa { cls:=.type "tuple",data:=.seq rest.toArray }:=Ar _ (YG rfl rfl);generalize (h.push { cls:=.type "tuple",data:=.seq rest.toArray }).push {cls:=.ref C,data:=.fields #[.ref h.objs.size,.none,.none,.none,.bool Ad,.none]}=h2 at *;have gC2:=kp _ _ gC;have gI2:=kp _ _ gI;have hn2:h2.Ns N mN:=let ⟨o,es,ep,z,r⟩:=hn;⟨o,es,ep,kp _ _ z,r⟩
 have T2:=T.keeps (h':=h2) kp;have cC:(Bc C::bm).contains (.ref C)=Ab:=by simp
 unfold IU
 repeat (first|(with_reducible refine B7 ge ?_)|(with_reducible refine Fd gC2 ?_;rw[cC])|wp_step)
 show At _ _ (typeLookup (.ref C) _) _ _ _;refine wpAny_typeLookup_tail gC2 hn2 T2 F.mroIs F.init.lookup ?_;rw[hi];refine Dz (An ?_);unfold bindSpecial;refine An (wpAny_typeOf (T := "function") ⟨_,gI2,cI⟩ ?_);rw[As (by decide)]
 refine AH (An (A3 (hq h2 (h.objs.size+1) ⟨kp,CS (F4 _),h.objs.size,ge,CS (AK _),gt⟩) (λr s' z=>?_) λ_ _ z=>z))
 obtain⟨rfl,z⟩:=z
 wp_walk
 exact z
theorem TD{Q:Vq}(F:HH B newId initId bmB)(T:DU h bmB bm)(gC:h.get? C=Aa (BX nm q C N bs bm hdct sn sub ab col dd k0 k1 k2 k3 k5 newId))(hn:h.Ns N mN)(hi:mN "__init__" = Aa (.ref fI))(gI:h.get? fI=Aa oI)(cI:oI.cls=.type "function")(hl:rest.length<=sizeLine)(hq:∀ h' e,IH h h' e (.ref C) rest->At (model prog w) (A.under (.builtin "type.__call__" ⟨.ref C::rest,[]⟩)) (call (.ref fI) (.ref e::rest)) (λr s'=>r=.none/\Q (.ref e) s') E ⟨h',g,d,t,os⟩):At (model prog w) A (call (.ref C) rest) Q E ⟨h,g,d,t,os⟩:=by
 have l1:=tc_lookup;have l2:=tc_bind (.ref C);have ty:(⟨h,g,d,t,os⟩:Ap).TypeIs (.ref C) "type" := ⟨_,gC,rfl⟩;refine Ez (codeAny_of_tree ?_);show At _ _ (callAny (.ref C) _) _ _ _
 repeat (any_goals (first|assumption|(with_reducible refine B7 gC ?_)|wp_step))
 refine⟨rfl,codeAny_call_builtin_at (Hb _ (by decide+kernel)) entry_typeCall (wpAny_check_type_call_sub gC (iT F T gC hn hi gI cI hl λh' e m=>?_))⟩
 exact hq h' e m
end
section
variable{prog:AO}{w:A1}{A:AW}{E:Vq}{s:Ap}{env:Cj}
variable{nm q:Ag}{C N fI:Ak}{bs bm bmB:Ac Aj}{hdct:Al}{sn:Ac Ag}{sub:Ac Aj}{ab:Al}{col:Ao Al}{dd:Ao Ak}{k0 k1 k2 k3 k5:Ao Aj}{B newId initId:CM}{mN:Ag->Ao Aj}
theorem dN{Q:Flow->Ap->Prop}{np cpos pos:AF}{args:Ac Am}(F:HH B newId initId bmB)(hb:bm.contains (.type "BaseException")=Ab)(hh:A.handled=Ae)(hp:(Bo cpos (Aq args env)).any (·.1)=Ad)(hi:mN "__init__" = Aa (.ref fI))(h:At (model prog w) A (eval (.Name x np) env) (λf s1=>f=.ref C/\At (model prog w) A (evalArgs (.ref C) Ab (Bo cpos (Aq args env)) [])
   (λa s2=>a.kw=[]/\a.pos.length<=sizeLine/\s2.heap.get? C=Aa (BX nm q C N bs bm hdct sn sub ab col dd k0 k1 k2 k3 k5 newId)/\s2.heap.Ns N mN/\DU s2.heap bmB bm/\(∃ oI,s2.heap.get? fI=Aa oI/\oI.cls=.type "function") /\
    ∀ h' e,IH s2.heap h' e (.ref C) a.pos->At (model prog w) (A.under (.builtin "type.__call__" ⟨.ref C::a.pos,[]⟩)) (call (.ref fI) (.ref e::a.pos)) (λr s'=>r=.none/\∃ t dx,s'.heap.get? C=Aa (BX nm q C N bs bm hdct sn sub ab col dd k0 k1 k2 k3 k5 newId)/\s'.heap.get? e=Aa (Gf C dx t)/\E (.ref e) s') E {s2 with heap:=h'}) E s1) E s):At (model prog w) A (exec (.Raise (Aa (.Call (.Name x np) args [] cpos)) Ae pos) env) Q E s:=by
 rw[arm_exec_Raise]
 try simp only[evalOpt,Option.map]
 refine An (DZ (kR (nm:=nm) (q:=q) (C:=C) (N:=N) (bs:=bs) (bm:=bm) (hdct:=hdct) (sn:=sn) (sub:=sub) (ab:=ab) (col:=col) (dd:=dd) (k0:=k0) (k1:=k1) (k2:=k2) (k3:=k3) (k5:=k5) (newId:=newId) hb hh ?_));refine An (A3 (wpAny_Call_ofName (A3 h (λf s1 z=>?_) λ_ _ z=>z)) (λv s3 z=>An (DZ (AH z))) λ_ _ z=>z)
 obtain⟨rfl,z⟩:=z;unfold callWith;refine An (Dz (A3 z (λa s2 y=>An (DZ ?_)) λ_ _ y=>y))
 obtain⟨us,kw⟩:=a;obtain⟨hk,hl,gC,hn,T,⟨oI,gI,cI⟩,k⟩:=y;obtain rfl:kw=[]:=hk;obtain⟨hp2,g,d,tk,os⟩:=s2;simp only[hp];refine An (wpAny_keeperOf_exc gC (An (TD F T gC hn hi gI cI hl λh' e m=>A3 (k h' e m) (λr s' y=>?_) λ_ _ y=>y)))
 obtain⟨rfl,t,dx,c1,c2,c3⟩:=y;exact⟨rfl,An (Dz (wpAny_point (AH ⟨e,t,dx,rfl,c1,c2,c3⟩)))⟩
end
section
variable{prog:AO}{w:A1}{A:AW}{E:Vq}{h:AC}{g:A9 ED}{d:Ie}{tk0:Af}{os:Hu}
variable{nm q:Ag}{C N e t:Ak}{dx:Ao Ak}{bs bm bmB:Ac Aj}{hdct:Al}{sn:Ac Ag}{sub:Ac Aj}{ab:Al}{col:Ao Al}{dd:Ao Ak}{k0 k1 k2 k3 k5:Ao Aj}{B newId initId:CM}
theorem nL{Q:Vq}(F:HH B newId initId bmB)(T:DU h bmB bm)(gC:h.get? C=Aa (BX nm q C N bs bm hdct sn sub ab col dd k0 k1 k2 k3 k5 newId))(ge:h.get? e=Aa (Gf C dx t))(hq:∀ h' t',(∀ b o,b≠e->h.get? b=Aa o->h'.get? b=Aa o)->h'.get? e=Aa (Gf C dx t')->Q .none ⟨h',g,d,tk0,os⟩):At (model prog w) A (call (.builtin initId) [.ref e,.str z tk]) Q E ⟨h,g,d,tk0,os⟩:=by
 refine Ez (Ea F.init.plain F.initEntry (wpAny_check_init_subT F T gC ge rfl ?_));unfold Gf at ge
 wp_walk
 refine hq _ h.objs.size (λb o nb z=>(BE _ _ (B4 nb)).trans (Ar _ z)) ?_
 rw[Cr _ (Ar _ ge) rfl];rfl
end
noncomputable def xbd:Af->Af
 |0=>4
 |n+1=>8*xbd n+19
theorem Uc:∀ n:Fin 100,(AT (toString ((n.val:Af):Ah))).length<=4:=by decide+kernel
theorem U_9{α:Type}(f:α->Af){m:Af}:∀ l:Ac α,(∀ x∈l,f x<=m)->(l.map f).sum<=l.length*m
 |[],_=>by simp
 |x::l,h=>by
  have h1:=h x AJ;have h2:=U_9 f l λy hy=>h y (Aw _ hy)
  rw[Bz,Xg,AI,Nat.succ_mul];omega
section
variable{X:Cx}{CL:ClA}{pI:Pn}{Y:L2.St}{H:Hp}{s:Ap}
structure Shw (h:AC) (n:Af) (u:Aj) (pd:KR):Prop where
 rd:Reads h u pd []
 sh:pd.showable=Ab
 nd:pd.hasDict=Ad
 dp:pd.depth<=n
 ln:pd.shown.length<=xbd n
inductive ShwA (h:AC) (n:Af):Ac Aj->Ac KR->Prop where
 |nil:ShwA h n [] []
 |cons {u:Aj} {pd:KR} {us:Ac Aj} {pds:Ac KR}:Shw h n u pd->ShwA h n us pds->ShwA h n (u::us) (pd::pds)
theorem Tz{h:AC}{n:Af}:∀{us:Ac Aj}{pds:Ac KR},ShwA h n us pds->ReadsAll h us pds []/\YL pds=Ab/\YK pds=Ad/\Ig pds<=n/\(∀ t∈DV pds,t.length<=xbd n)/\(DV pds).length=us.length
 |[],[],_=>⟨.nil,rfl,rfl,Cv _,(λ_ h=>nomatch h),rfl⟩
 |u::us,pd::pds,.cons h1 h2=>by
  obtain⟨a,b,c,d,e,f⟩:=Tz h2;refine⟨.cons h1.rd a,?_,?_,?_,?_,?_⟩
  .show (pd.showable&&YL pds)=Ab;rw[h1.sh,b];rfl
  .show (pd.hasDict||YK pds)=Ad;rw[h1.nd,c];rfl
  .show max pd.depth (Ig pds)<=n;exact Nat.max_le.mpr ⟨h1.dp,d⟩
  .intro t ht;rcases AA.mp ht with rfl|ht
   .exact h1.ln
   .exact e t ht
  .show (DV pds).length+1=us.length+1;rw[f]
theorem tH(I:Inv X pI Y H s):∀(n:Af){d:D}{v:V}{u:Aj},xfD n d=Ab->Rep X.K CL H A v d->Bq v u->∃ pd,Shw s.heap n u pd:=by
 intro n
 induction n with
 |zero=>
  intro d v u hx r rv;cases d with
  |int i=>
   have e:v=.int i:=r;subst e;obtain⟨t,rfl⟩:=rv;simp only[xfD,Ai,Az]at hx;refine⟨.int i,.int i t,?_,rfl,AK _,?_⟩
   .show decide (i.natAbs.log2<1920)=Ab;refine Di (DM (HF _) (by omega))
   .have:=Uc ⟨i.toNat,by omega⟩
    rw[show ((i.toNat:Af):Ah)=i by omega]at this
    exact this
  |_=>exact absurd (show Ad=Ab from hx) Au
 |succ n ih0=>
  intro d v u hx r rv;cases d with
  |tup ds=>
   obtain⟨a,xs,rfl,_,sq,rs⟩:=r;cases rv;obtain⟨its,vs,⟨o,ho,hc,m,hd⟩,hz⟩:=I.tuple sq;simp only[xfD,Ai,Bw]at hx;have key:∀{xs:Ac V}{ds:Ac D}{its:Ac Aj},(∀ d∈ds,xfD n d=Ab)->Reps X.K CL H A xs ds->AZ xs its->∃ pds,ShwA s.heap n its pds:=λ{xs}=>by
    induction xs with
    |nil=>
     intro ds its _ rs vs;cases vs;exact⟨[],.nil⟩
    |cons x xs ih=>
     intro ds its hd rs vs;cases ds with
     |nil=>exact rs.elim
     |cons d ds=>
      cases vs with
      |cons v1 v2=>
       obtain⟨pd,h1⟩:=ih0 (hd d AJ) rs.1 v1;obtain⟨pds,h2⟩:=ih (λe he=>hd e (Aw _ he)) rs.2 v2
       exact⟨pd::pds,.cons h1 h2⟩
   obtain⟨pds,hf⟩:=key hx.2 rs vs;obtain⟨p1,p2,p3,p4,p5,p6⟩:=Tz hf;have l8:its.length<=8:=by
    have h8:=Nat.ble_eq.mp hx.1;rw[<-vs.length,rs.length];exact h8
   refine⟨.tuple pds,.tuple ho hc hd (by simpa using p1),p2,p3,?_,?_⟩
   .show Ig pds+1<=n+1;omega
   .show (tupleText (DV pds)).length<=8*xbd n+19;have h1:=tupleText_len_le (DV pds);have h2:=U_9 (λt:Ag=>t.length) (DV pds) p5
    have h3:(DV pds).length*xbd n<=8*xbd n:=Nat.mul_le_mul_right _ (by omega)
    omega
  |_=>exact absurd (show Ad=Ab from hx) Au
end
section
variable{X:Cx}{CL:ClA}
def tFs(K:Fg)(CL:ClA)(i:Af):TE:=λY H Q=>∃ v d A n,Y[i]?=Aa (Aa v)/\Rep K CL H A v d/\xfD n d=Ab/\n<=2/\∀ t:Ag,Q (.str t) H
def tFm(K:Fg)(CL:ClA)(i:Af):TE:=λY H Q=>∃ v d A n,Y[i]?=Aa (Aa v)/\Rep K CL H A v d/\xfD n d=Ab/\n<=2/\∀ t:Ag,t.length<=500->Q (.str t) H
theorem UV{e:Am}{i:Af}(hu:X.A.units+64<BJ)(hg:X.A.guards=Aa [])(he:PE X e (Ej i)):PE X (.FormattedValue e (-1) Ae p1) (tFm X.K CL i):=by
 intro pI s Y H Q I ⟨v,d,A,n,hv,r,hx,hn,q⟩;refine wpAny_FormattedValue_plain (thn (he pI s Y H (λx H1=>x=v/\H1=H) I ⟨v,hv,rfl,rfl⟩) λu s1 ⟨x,H1,I1,r1,e1,e2⟩=>?_)
 subst e1 e2;have zl:sizeLine ≥ 2000:=by decide
 obtain⟨pd,sw⟩:=tH I1 n hx r r1;have hn':n=0\/n=1\/n=2:=by omega
 have xb:xbd n<=500:=by rcases hn' with rfl|rfl|rfl<;>decide
 have ln:=sw.ln;have dp:=sw.dp;cases d with
 |int j=>
  have e:x=.int j:=r;subst e;obtain⟨t,rfl⟩:=r1;cases n with
  |zero=>
   have hx':(decide (0<=j)&&decide (j<100))=Ab:=hx;rw[Ai,Az,Az]at hx';have il:=Uc ⟨j.toNat,by omega⟩
   rw[show ((j.toNat:Af):Ah)=j by omega]at il
   exact formatField_int_small (DM (HF _) (by omega)) ⟨.str _,H1,I1.tok _,⟨_,rfl⟩,q _ (BF il (by omega))⟩
  |succ n=>cases hx
 |tup ds=>
  obtain⟨a,xs,rfl,_,sq,rs⟩:=r;cases r1;refine formatField_of_reads sw.rd sw.sh (λz=>by rw[sw.nd]at z;cases z) hg (by omega) (λ_ _ z=>z) (λh' tk1 tk2 kp=>?_) (by omega)
  exact⟨.str pd.shown,H1,I1.kept kp,⟨_,rfl⟩,q _ (by omega)⟩
 |_=>cases n<;>cases hx
theorem jR{e:Am}{i:Af}(hu:X.A.units+64<BJ)(hg:X.A.guards=Aa [])(hz:z.length<=1000)(he:PE X e (Ej i)):PE X (.JoinedStr [.FormattedValue e (-1) Ae p1,.Constant (.str z) k p2] p3) (tFs X.K CL i):=by
 intro pI s Y H Q I ⟨v,d,A,n,hv,r,hx,hn,q⟩;have zl:sizeLine ≥ 2000:=by decide
 refine Zo ?_;show At (model X.prog X.w) X.A (eval (.FormattedValue e (-1) Ae p1) X.env) (λv s1=>∃ y t,v=.str y t/\(Dx++y).length<=sizeLine/\Joins (model X.prog X.w) X.A X.xe [eval (.Constant (.str z) k p2) X.env] (Dx++y) _ s1) X.xe s
 refine thn (UV (CL:=CL) hu hg he pI s Y H (λx H1=>∃ y:Ag,x=.str y/\y.length<=500/\H1=H) I ⟨v,d,A,n,hv,r,hx,hn,λt ht=>⟨t,rfl,ht,rfl⟩⟩) λu s1 ⟨x,H1,I1,r1,y,e1,hy,e2⟩=>?_
 subst e1 e2;obtain⟨t1,rfl⟩:=r1;have l0:(Dx++y).length<=500:=by
  rw[F7];have:Dx.length=0:=rfl;omega
 refine⟨y,t1,rfl,by omega,?_⟩
 show At (model X.prog X.w) X.A (eval (.Constant (.str z) k p2) X.env) _ X.xe s1;refine thn (NA (X:=X) pI _ Y H1 (λx H2=>x=.str z/\H2=H1) I1 ⟨rfl,rfl⟩) λu2 s2 ⟨x2,H2,I3,r3,e3,e4⟩=>?_
 subst e3 e4;obtain⟨t3,rfl⟩:=r3;have l1:(Dx++y++z).length<=sizeLine:=by
  rw[F7];omega
 exact⟨z,t3,rfl,l1,l1,⟨.str _,H2,I3.tok _,⟨_,rfl⟩,q _⟩⟩
theorem fV{e:Am}{i:Af}{z':Ag}{k':Af}{p0:AF}(hu:X.A.units+64<BJ)(hg:X.A.guards=Aa [])(hz':z'.length<=400)(hz:z.length<=1000)(he:PE X e (Ej i)):PE X (.JoinedStr [.Constant (.str z') k' p0,.FormattedValue e (-1) Ae p1,.Constant (.str z) k p2] p3) (tFs X.K CL i):=by
 intro pI s Y H Q I ⟨v,d,A,n,hv,r,hx,hn,q⟩;have zl:sizeLine ≥ 2000:=by decide
 refine Zo ?_;show At (model X.prog X.w) X.A (eval (.Constant (.str z') k' p0) X.env) (λv s1=>∃ y t,v=.str y t/\(Dx++y).length<=sizeLine/\Joins (model X.prog X.w) X.A X.xe [eval (.FormattedValue e (-1) Ae p1) X.env,eval (.Constant (.str z) k p2) X.env] (Dx++y) _ s1) X.xe s
 refine thn (NA (X:=X) pI _ Y H (λx H2=>x=.str z'/\H2=H) I ⟨rfl,rfl⟩) λu0 s0 ⟨x0,H0,I0,r0,e0,e00⟩=>?_
 subst e0 e00;obtain⟨t0,rfl⟩:=r0;have le:(Dx++z').length<=400:=by
  rw[F7];have:Dx.length=0:=rfl;omega
 refine⟨z',t0,rfl,by omega,?_⟩
 show At (model X.prog X.w) X.A (eval (.FormattedValue e (-1) Ae p1) X.env) _ X.xe s0;refine thn (UV (CL:=CL) hu hg he pI s0 Y H0 (λx H1=>∃ y:Ag,x=.str y/\y.length<=500/\H1=H0) I0 ⟨v,d,A,n,hv,r,hx,hn,λt ht=>⟨t,rfl,ht,rfl⟩⟩) λu s1 ⟨x,H1,I1,r1,y,e1,hy,e2⟩=>?_
 subst e1 e2;obtain⟨t1,rfl⟩:=r1;have l0:(Dx++z'++y).length<=900:=by
  rw[F7];omega
 refine⟨y,t1,rfl,by omega,?_⟩
 show At (model X.prog X.w) X.A (eval (.Constant (.str z) k p2) X.env) _ X.xe s1;refine thn (NA (X:=X) pI _ Y H1 (λx H2=>x=.str z/\H2=H1) I1 ⟨rfl,rfl⟩) λu2 s2 ⟨x2,H2,I3,r3,e3,e4⟩=>?_
 subst e3 e4;obtain⟨t3,rfl⟩:=r3;have l1:(Dx++z'++y++z).length<=sizeLine:=by
  rw[F7];omega
 exact⟨z,t3,rfl,l1,l1,⟨.str _,H2,I3.tok _,⟨_,rfl⟩,q _⟩⟩
structure FsOk (par:Ag) (j:Am):Prop where
 st:∀ env,Aq [j] env=[(Ad,eval j env)]
 pe:∀(X:Cx)(CL:ClA)(i:Af),X.A.units+64<BJ->X.A.guards=Aa []->(∀ p,PE X (.Name par p) (Ej i))->PE X j (tFs X.K CL i)
theorem qT{p4:AF}(hz:z.length<=1000):FsOk par (.JoinedStr [.FormattedValue (.Name par p1) (-1) Ae p2,.Constant (.str z) k p3] p4):=⟨λ_=>rfl,λ_ _ _ hu hg he=>jR hu hg hz (he _)⟩
theorem eQ{z':Ag}{k':Af}{p0 p4:AF}(hz':z'.length<=400)(hz:z.length<=1000):FsOk par (.JoinedStr [.Constant (.str z') k' p0,.FormattedValue (.Name par p1) (-1) Ae p2,.Constant (.str z) k p3] p4):=⟨λ_=>rfl,λ_ _ _ hu hg he=>fV hu hg hz' hz (he _)⟩
end
def XEx(e C:Ak)(dx:Ao Ak)(t:Ak):AC->Prop:=λh=>h.get? e=Aa (Gf C dx t)
theorem Nv{e C:Ak}{t:Ak}:∀ h1 h2:AC,XEx e C dx t h1->(∀ o,h1.get? e=Aa o->h2.get? e=Aa o)->XEx e C dx t h2:=λ_ _ p k=>k _ p
section
variable{X:Cx}{CL:ClA}{C:Ak}{nm q:Ag}{N:Ak}{bs bm:Ac Aj}{hdct:Al}{sn:Ac Ag}{sub:Ac Aj}{ab:Al}{col:Ao Al}{dd:Ao Ak}{k0 k1 k2 k3 k5:Ao Aj}
theorem fT{np apos cpos:AF}{es ej:Am}{i j:Af}(hob:∀ h:AC,X.K.In h->h.get? C=Aa (BX nm q C N bs bm hdct sn sub ab col dd k0 k1 k2 k3 k5 "ValueError.__new__")/\DU h veB bm)(hg:Gl X g)(hm:X.mg g=Aa (.ref OV))(hdb:(g==("__debug__" : Ag))=Ad)(s1:Co X.K (.ref OV) "__getattribute__" = Aa (Aa (.builtin "type.__getattribute__")))(s2:Fq X.K OV (.type "type")=Ab)(s3:Fp X.K (.ref OV) (.type "type") "__init__" = Aa (.val (.builtin "ValueError.__init__")))(hline:(apos.endLine==cpos.line)=Ab)(he:PE X es (Ej i))(hj:PE X ej (tFs X.K CL j))(sA:Aq [es,ej] X.env=(Ad,eval es X.env)::Aq [ej] X.env)(sB:Aq [ej] X.env=[(Ad,eval ej X.env)]):
  PE X (.Call (.Attribute (.Name g np) "__init__" apos) [es,ej] [] cpos) (λY H Q=>∃ e dx t v d A n,Y[i]?=Aa (Aa (.ref e))/\H e=Aa (.ext (XEx e C dx t))/\Y[j]?=Aa (Aa v)/\Rep X.K CL H A v d/\xfD n d=Ab/\n<=2/\∀ t',Q .non (upd H e (.ext (XEx e C dx t')))):=by
 have st1:Aq [es,ej] X.env=[(Ad,eval es X.env),(Ad,eval ej X.env)]:=by rw[sA,sB]
 intro pI s Y H Q I ⟨e,dx,t,v,d,A,n,h1,h2,h3,r,hx,hn,hq⟩;rw[Jz];refine An (show At (model X.prog X.w) X.A (eval (.Name g np) X.env) _ X.xe s from Hh I hg hm ?_ hdb)
 refine An (DZ ?_);have form:IK ([es,ej].length+([]:Ac C4).length) (Bo cpos (Aq [es,ej] X.env)) (FA cpos (Ec [] X.env))=Ab:=by
  rw[st1];rfl
 have mpos:Fb Ab (.Name g np) X.env apos cpos=pure cpos:=by
  unfold Fb;simp[hline]
 unfold KY;rw[form];refine An (Dz (PySem.W.method_cls I.kIn s1 (PySem.W.cls_value I.kIn s2 s3 rfl ?_)));refine An (G9 mpos ?_);have I1:=I.tok (s.toks+1);have pa:PA X [es,ej] _:=DJ he (DJ hj ET sB) sA;have hA:=pa cpos pI {s with toks:=s.toks+1} Y H (λxs H'=>H'=H/\∃ z,xs=[.ref e,.str z]) I1 ⟨_,h1,⟨v,d,A,n,h3,r,hx,hn,λz=>⟨rfl,z,rfl⟩⟩⟩
 rw[st1]at hA ⊢;refine F5 rfl (E1 (thn hA λus s2 ⟨xs,H2,I2,rv,e2,z,ex⟩=>?_))
 subst e2 ex;obtain⟨u1,u2,rfl,ru1,ru2⟩:=Lr rv;cases ru1;obtain⟨tk,rfl⟩:=ru2;obtain⟨gC,T⟩:=hob _ I2.kIn;have ge:XEx e C dx t s2.heap:=(I2.hok e _ h2).1;obtain⟨hp,g2,d2,tk2,os2⟩:=s2;refine nL C7 T gC ge λh' t' kp ge'=>?_
 refine⟨.non,_,I2.write (x:=e) (e:=e) (o:=.ext (XEx e C dx t')) (t':=tk2) (by rw[h2];exact trivial) (.inl rfl) kp ⟨_,ge'⟩ ⟨ge',⟨_,ge'⟩,Nv⟩,rfl,hq t'⟩
end
theorem aO{bmB bm:Ac Aj}(T:DU h bmB bm){self:Aj}{what:Ag}(hb:refuseLoop self what bmB=pure ()):refuseLoop self what bm=pure ():=by
 induction T with
 |base=>exact hb
 |own _ _ _ _ ih=>rw[Zm];exact ih
section
variable{prog:AO}{w:A1}{A:AW}{E:Vq}{h:AC}{g:A9 ED}{d:Ie}{tk0:Af}{os:Hu}{K:Fg}
variable{nm q:Ag}{C N e t:Ak}{bs bm bmB:Ac Aj}{sn:Ac Ag}{sub:Ac Aj}{ab:Al}{col:Ao Al}{dd:Ao Ak}{k0 k1 k2 k3 k5:Ao Aj}{B newId sa owner:CM}
theorem iW{Q:Fin->Ap->Prop}{v:Aj}(X:K.In h)(SF:KU B bmB sa owner)(T:DU h bmB bm)(gC:h.get? C=Aa (BX nm q C N bs bm Ab sn sub ab col dd k0 k1 k2 k3 k5 newId))(hf:Av K (.ref C) name=Aa Ae)(ge:h.get? e=Aa (Gf C Ae t))(hq:∀ h' dx tk',(∀ b o,b≠e->h.get? b=Aa o->h'.get? b=Aa o)->h'.get? e=Aa (Gf C (Aa dx) t)->h.get? dx=Ae->h'.Ns1 dx (λy=>if y=name then Aa v else Ae)->Q (.done (.ret .none)) ⟨h',g,d,tk',os⟩):At (model prog w) A (Builtin.«object.__setattr__» ⟨[.ref e,.str name tk,v],[]⟩) Q E ⟨h,g,d,tk0,os⟩:=by
  have pass:=aO T (SF.passes (.ref e));have L1:=Cc (M:=model prog w) X hf;obtain⟨o,ho⟩:∃ o,Gf C Ae t=o:=⟨_,rfl⟩;rw[ho]at ge;have oc:o.cls=.ref C:=by rw[<-ho];rfl
  unfold Builtin.«object.__setattr__»
  repeat (first|rw[refuse_eq]|(rw[Zm,pass])|(with_reducible refine B7 ge ?_;rw[oc])|(with_reducible refine wpAny_mroOf_exc gC ?_)|(with_reducible refine L1.at ?_)|(with_reducible refine An (L1.at ?_))|wp_step)
  have od:o.dict=Ae:=by rw[<-ho];rfl
  have odt:o.data=.fields #[.ref t,.none,.none,.none,.bool Ad,.none]:=by rw[<-ho];rfl
  rw[od,odt,AB (by simp[typeHasDict])]
  let D:Da:={ cls:=.type "dict",data:=.dict #[] }
  have g1:(h.push D).get? e=Aa o:=Ar _ ge;have ne:e≠h.objs.size:=A5 (AL ge);refine An (wpAny_alloc' ?_);refine An (wpAny_update' g1 ?_);refine AH ?_
  let U_:Da->Da:=λo=>{cls:=o.cls,dict:=Aa h.objs.size,data:=o.data,slots:=o.slots}
  have gD:((h.push D).update e U_).get? h.objs.size=Aa D:=(GQ _ _ _ _ ne.symm).trans (YG rfl rfl);have nD:((h.push D).update e U_).Ns h.objs.size (λ_=>Ae):=⟨_,#[],_,gD,rfl,λz hz=>absurd hz (by simp),λ_=>rfl⟩
  change At _ _ (XG h.objs.size (.str name tk) name v) _ _ _;unfold XG Builtin.ObjectAttr.newKeyGuard;refine An (AH (An (wpAny_nsSet1 (YE nD) λk hk hs=>?_)))
  obtain⟨oD,eD,pD,q1,q2,q3⟩:=hk.count (Within.cons name v Within.nil);have le:oD.data.pastItsLine=Ae:=by
    rw[q2];refine Zk (BF q3 ?_);rw[AI,List.length_nil,Bs];omega
  refine An (Zs q1 le ?_)
  wp_walk
  refine hq k h.objs.size _ (λb ob nb hb=>?_) ?_ (CS (AK _)) hk
  · rw[hs.2 b (A5 (AL hb)),GQ _ _ _ _ nb];exact Ar _ hb
  · rw[hs.2 e ne];have:Aa (Gf C (Aa h.objs.size) t)=Aa (U_ o):=by rw[<-ho];rfl
    rw[this];exact Cr _ g1 (by rw[<-ho];rfl)
end
section
variable{prog:AO}{w:A1}{A:AW}{E:Vq}{h:AC}{g:A9 ED}{d:Ie}{tk0:Af}{os:Hu}{K:Fg}
variable{nm q:Ag}{C N e t:Ak}{bs bm bmB:Ac Aj}{sn:Ac Ag}{sub:Ac Aj}{ab:Al}{col:Ao Al}{dd:Ao Ak}{k0 k1 k2 k3 k5:Ao Aj}{B newId sa owner:CM}
theorem iX{o:Da}{a b:Aj}(SF:KU B bmB sa owner)(T:DU h bmB bm)(gC:h.get? C=Aa (BX nm q C N bs bm Ab sn sub ab col dd k0 k1 k2 k3 k5 newId))(ge:h.get? e=Aa o)(hc:o.cls=.ref C)(hq:Q () ⟨h,g,d,tk0,os⟩):At M A (Gd sa ⟨[.ref e,a,b],[]⟩) Q E ⟨h,g,d,tk0,os⟩:=by
 have hb:(Bc C::bm).contains (.type owner)=Ab:=by rw[Ha,T.hasType SF.hasOwner,JB]
 have ha:=SF.args (.ref e) a b;simp only[Gd,SF.kind,SF.split];refine An ?_;unfold IU
 repeat (first|(with_reducible refine B7 ge ?_;rw[hc])|(with_reducible refine Fd gC ?_;rw[hb])|wp_step)
 unfold argsOk at ha;split
 .rename_i sig hs;rw[hs]at ha;refine G9 ha ?_;exact hq
 .exact AH hq
theorem nJ{v:Aj}(X:K.In h)(SF:KU B bmB sa owner)(T:DU h bmB bm)(gC:h.get? C=Aa (BX nm q C N bs bm Ab sn sub ab col dd k0 k1 k2 k3 k5 newId))(hf:Av K (.ref C) name=Aa Ae)(hs:Av K (.ref C) "__setattr__" = Aa (Aa (.builtin sa)))(ge:h.get? e=Aa (Gf C Ae t))(hq:∀ h' dx tk',(∀ b o,b≠e->h.get? b=Aa o->h'.get? b=Aa o)->h'.get? e=Aa (Gf C (Aa dx) t)->h.get? dx=Ae->h'.Ns1 dx (λy=>if y=name then Aa v else Ae)->Q () ⟨h',g,d,tk',os⟩):At (model prog w) A (K6 (.ref e) name v) Q E ⟨h,g,d,tk0,os⟩:=by
 have f3:=SF.slot.bind (.ref e);have L1:=Cc (M:=model prog w) X hs;obtain⟨o,ho⟩:∃ o,Gf C Ae t=o:=⟨_,rfl⟩;have oc:o.cls=.ref C:=by rw[<-ho];rfl
 have ge':=ge;rw[ho]at ge';unfold K6 JK specialOf
 repeat (any_goals (first|assumption|(with_reducible refine B7 ge' ?_;rw[oc])|(with_reducible refine An (L1.at ?_))|(with_reducible refine L1.at ?_)|wp_step))
 refine Ea SF.slot.plain SF.entry (iX SF T gC ge' oc (iW X SF T gC hf ge λh' dx tk' k1 k2 k3 k4=>?_))
 repeat (any_goals (first|assumption|wp_step))
 exact hq h' dx tk' k1 k2 k3 k4
end
section
variable{X:Cx}{pI:Pn}{Y:L2.St}{H:Hp}{s:Ap}{e:Ak}
theorem PN{o:HO}(I:Inv X pI Y H s)(ha:Gh X pI e)(hH:H e=Ae)(ho:ObjOk X.prog X.w (upd H e o) s.heap e o):Inv X pI Y (upd H e o) s:=by
 have ne:∀ b o,H b=Aa o->b≠e:=λb o q z=>by rw[z,hH]at q;cases q
 refine⟨I.ok,I.os,I.bare,⟨I.base.keep,I.base.slot,λb o q n hb=>?_,I.base.there,λb xs q=>?_,λb o u q=>?_,λb ps q=>?_⟩,I.loc,I.cell,?_,λx c q=>?_,λp hp=>?_,λb o q=>?_,I.len⟩
 .rw[Bb λz=>by rw[z,ha.2.2.2]at q;cases q]
  exact I.base.free b o q n hb
 .have:=I.base.tups b xs q;rw[Bb (ne _ _ this)];exact this
 .have:=I.base.frzs b o u q;rw[Bb (ne _ _ this)];exact this
 .obtain⟨more,this⟩:=I.base.tbls b ps q;exact⟨more,by rw[Bb (ne _ _ this)];exact this⟩
 .rw[Bb λz=>ha.1 z.symm];exact I.free
 .rw[Bb (ha.2.1 x c q)];exact I.freeC x c q
 .obtain⟨q,n,r⟩:=I.pin p hp;exact⟨q,by rw[Bb (ha.2.2.1 p hp)];exact n,r⟩
 .by_cases hb:b=e
  .subst hb;rw[Db]at q;cases q;exact ho
  .rw[Bb hb]at q;exact(I.hok b o q).stay (λc v hc z=>z) (λc z=>by rw[Bb (ne _ _ z)];exact z) λc zs z=>by rw[Bb (ne _ _ z)];exact z
theorem fL(I:Inv X pI Y H s)(hH:H e=Aa (.ext φ))(h0:X.s₀.heap.get? e=Ae)(h1:X.ex=[]->HM):Inv X pI Y (λb=>if b=e then Ae else H b) s:=by
 have get:∀ b o,(if b=e then Ae else H b)=Aa o->b≠e/\H b=Aa o:=λb o q=>by
  by_cases z:b=e
  .rw[As z]at q;cases q
  .rw[AB z]at q;exact⟨z,q⟩
 have put:∀ b o,H b=Aa o->o≠.ext φ->(if b=e then Ae else H b)=Aa o:=λb o q n=>by
  by_cases z:b=e
  .rw[z,hH]at q;cases q;exact absurd rfl n
  .rw[AB z];exact q
 have non:∀ b,H b=Ae->(if b=e then Ae else H b)=Ae:=λb q=>by
  by_cases z:b=e
  .rw[As z]
  .rw[AB z];exact q
 refine⟨I.ok,I.os,I.bare,⟨λb o q n hb hx=>?_,I.base.slot,λb o q n hb=>?_,I.base.there,λb xs q=>?_,λb o u q=>?_,λb ps q=>?_⟩,I.loc,I.cell,non _ I.free,λx c q=>non _ (I.freeC x c q),λp hp=>?_,λb o q=>?_,I.len⟩
 .exact I.base.keep b o q n hb hx
 .exact non b (I.base.free b o q n hb)
 .exact put b _ (I.base.tups b xs q) (by intro z;cases z)
 .exact put b _ (I.base.frzs b o u q) (by intro z;cases z)
 .obtain⟨more,this⟩:=I.base.tbls b ps q;exact⟨more,put b _ this (by intro z;cases z)⟩
 .obtain⟨q,n,r⟩:=I.pin p hp;exact⟨q,non _ n,r⟩
 .obtain⟨nb,q⟩:=get b o q;exact(I.hok b o q).stay (λc v hc z=>z) (λc z=>put c _ z (by intro z;cases z)) λc zs z=>put c _ z (by intro z;cases z)
end
section
variable{X:Cx}{C:Ak}{nm q:Ag}{N:Ak}{bs bm:Ac Aj}{sn:Ac Ag}{sub:Ac Aj}{ab:Al}{col:Ao Al}{dd:Ao Ak}{k0 k1 k2 k3 k5:Ao Aj}
theorem jL{i j:Af}{f:Ag}{eo:Am}{p8 p10:AF}(hob:∀ h:AC,X.K.In h->h.get? C=Aa (BX nm q C N bs bm Ab sn sub ab col dd k0 k1 k2 k3 k5 "ValueError.__new__")/\DU h veB bm)(hx:X.ex=[])(hf:Av X.K (.ref C) f=Aa Ae)(hs:Av X.K (.ref C) "__setattr__" = Aa (Aa (.builtin "object.__setattr__")))(he:PE X eo (Ej i))(hv:PE X ev (Ej j))(sw:Cn ev (Aa (.Attribute eo f p8)) p10.line X.env=pure Ad):PS X (.Assign [.Attribute eo f p8] ev p10) (λD Y H=>∃ e t v,Y[i]?=Aa (Aa (.ref e))/\H e=Aa (.ext (XEx e C Ae t))/\Y[j]?=Aa (Aa v)/\∀ dx,H dx=Ae->dx≠e->D.nx Y (upd (upd H e (.ext (XEx e C (Aa dx) t))) dx (.xd [(f,v)]))):=by
 intro pI s Y H D I ⟨e,t,v,h1,h2,h3,hq⟩;refine Zl (thn (hv pI s Y H (λx H1=>x=v/\H1=H) I ⟨v,h3,rfl,rfl⟩) λu s1 ⟨x,H1,I1,r1,e1,e2⟩=>?_) sw
 subst e1 e2;refine thn (he pI s1 Y H1 (λx H2=>x=.ref e/\H2=H1) I1 ⟨_,h1,rfl,rfl⟩) λu2 s2 ⟨x2,H2,I2,r2,e3,e4⟩=>?_
 subst e3 e4;cases r2;obtain⟨gC,T⟩:=hob _ I2.kIn;have ge:XEx e C Ae t s2.heap:=(I2.hok e _ h2).1;obtain⟨hp,g2,d2,tk2,os2⟩:=s2;refine nJ I2.kIn PySem.F.store_ValueError T gC hf hs ge λh' dx tk' kp ge' nd ns=>?_
 have nH:H2 dx=Ae:=Ix I2.hok nd;have nde:dx≠e:=λz=>by rw[z,h2]at nH;cases nH
 have ap:Gh X pI dx:=Ko I2 hx nd;have I3:=I2.write (x:=e) (e:=e) (o:=.ext (XEx e C (Aa dx) t)) (t':=tk') (by rw[h2];exact trivial) (.inl rfl) kp ⟨_,ge'⟩ ⟨ge',⟨_,ge'⟩,Nv⟩
 have I4:=PN (o:=.xd [(f,x)]) I3 ap (by rw[Bb nde];exact nH) ⟨_,ns,λy=>by
  by_cases z:y=f
  .subst z;rw[As rfl];simp only[B6,Cz];exact r1
  .rw[AB z];have:(y==f)=Ad:=by simp[z]
   simp only[B6,this]
   trivial⟩
 exact⟨Y,_,I4,hq dx nH nde⟩
end
noncomputable def Gj(K:Fg)(C:Ak):Al:=match K.lookup C with
  |some ⟨_,_,.cls c,_⟩=>c.hasDict
  |_=>Ad
noncomputable def QO(g par f:Ag)(j:Am)(np apos p1 cpos p6 p7 p8 p9 p10:AF):Ac AM:=
 [.Expr (.Call (.Attribute (.Name g np) "__init__" apos) [.Name "self" p1,j] [] cpos) p6,.Assign [.Attribute (.Name "self" p7) f p8] (.Name par p9) p10]
inductive XIn (K:Fg) (mg:Ag->Ao Aj) (C:Ak) (f:Ag):Prop
 |mk {fI OV:Ak} {x qual g par:Ag} {j:Am} {st:AM} {fd:Bx} {np apos p1 cpos p6 p7 p8 p9 p10:AF} (xc:Dl K C (Aa (.ref fI))=Ab) (dc:Gj K C=Ab) (fn:Fun K x qual st fI fd) (ty:Dh K (.ref fI)=Aa (.type "function"))
  (S:FnScope ["self",par] ["self",par] (B2 st)) (l1:(B2 st).names.lookup ("self" : Ag)=Aa .local) (l2:(B2 st).names.lookup par=Aa .local) (bd:DS K fd ["self",par] []) (body:FZ st=QO g par f j np apos p1 cpos p6 p7 p8 p9 p10)
  (gl:(B2 st).names.lookup g=Aa .globalImplicit) (mo:mg g=Aa (.ref OV)) (dg:(g==("__debug__" : Ag))=Ad) (dp:(par==("__debug__" : Ag))=Ad) (dq:(par==("__classdict__" : Ag))=Ad)
  (s1:Co K (.ref OV) "__getattribute__" = Aa (Aa (.builtin "type.__getattribute__"))) (s2:Fq K OV (.type "type")=Ab) (s3:Fp K (.ref OV) (.type "type") "__init__" = Aa (.val (.builtin "ValueError.__init__")))
  (hl:(apos.endLine==cpos.line)=Ab) (hz:FsOk par j) (hf:Av K (.ref C) f=Aa Ae) (hs:Av K (.ref C) "__setattr__" = Aa (Aa (.builtin "object.__setattr__"))):XIn K mg C f
section
variable{P:AO}{w:A1}{K:Fg}{mg:Ag->Ao Aj}{base:AC}{CL:ClA}{C fI OV:Ak}{x qual g par f:Ag}{j:Am}{st:AM}{fd:Bx}{np apos p1 cpos p6 p7 p8 p9 p10:AF}
variable{nm q:Ag}{N:Ak}{bs bm:Ac Aj}{sn:Ac Ag}{sub:Ac Aj}{ab:Al}{col:Ao Al}{dd:Ao Ak}{k0 k1 k2 k3 k5:Ao Aj}
theorem Ud(hob:∀ h:AC,K.In h->h.get? C=Aa (BX nm q C N bs bm Ab sn sub ab col dd k0 k1 k2 k3 k5 "ValueError.__new__")/\DU h veB bm)(fn:Fun K x qual st fI fd)(S:FnScope ["self",par] ["self",par] (B2 st))(l1:(B2 st).names.lookup ("self" : Ag)=Aa .local)(l2:(B2 st).names.lookup par=Aa .local)(bd:DS K fd ["self",par] [])(body:FZ st=QO g par f j np apos p1 cpos p6 p7 p8 p9 p10)(gl:(B2 st).names.lookup g=Aa .globalImplicit)(mo:mg g=Aa (.ref OV))(dg:(g==("__debug__" : Ag))=Ad)(dp:(par==("__debug__" : Ag))=Ad)(dq:(par==("__classdict__" : Ag))=Ad)(s1:Co K (.ref OV) "__getattribute__" = Aa (Aa (.builtin "type.__getattribute__")))(s2:Fq K OV (.type "type")=Ab)(s3:Fp K (.ref OV) (.type "type") "__init__" = Aa (.val (.builtin "ValueError.__init__")))(hl:(apos.endLine==cpos.line)=Ab)(hz:FsOk par j)(hf:Av K (.ref C) f=Aa Ae)(hs:Av K (.ref C) "__setattr__" = Aa (Aa (.builtin "object.__setattr__"))){A:AW}{outer:Ac Cj}{s:Ap}{E:XK}{e t:Ak}{v:V}{u:Aj}{n:Af}(hh:A.handled=Ae)(hdp:A.depth<IM)(hun:A.units+70<BJ)(hgd:A.guards=Aa [])(e0:Env0 P w K mg base A outer s H)(he:H e=Aa (.ext (XEx e C Ae t)))(rp:Rep K CL H B v d)(hx:xfD n d=Ab)(hn:n<=2)(r:Bq v u):ES (model P w) A (.call (.ref fI) ⟨[.ref e,u],[]⟩) (CR Oe outer P w H s (λy H'=>y=.non/\∃ t' dx,H dx=Ae/\dx≠e/\H'=upd (upd H e (.ext (XEx e C (Aa dx) t'))) dx (.xd [(f,v)])) E) s:=by
 obtain⟨oc,od,kV,doc,pm,an,cdv,ct,osl,rfl,lk,hcd⟩:=fn.ex;have KX:K.In s.heap:=e0.mod.kin.keeps λb o e=>(e0.bs b o e).1
 have lim:s.heap.NoLimit:=e0.mod.nolimit.keeps λb o e=>(e0.bs b o e).1
 have hkind:∀ y∈(["self",par]:Ac Ag).zip [Bc e,u],(B2 st).names.lookup y.1=Aa .local\/((B2 st).names.lookup y.1=Aa .cell/\((C3 (s.heap.objs.size+1) (B2 st).names []).lookup y.1).isSome=Ab):=λy hy=>by
  refine .inl ?_;rcases AA.mp hy with rfl|hy
  .exact l1
  .rw[Bk.mp hy];exact l2
 have rv:AZ [.ref e,v] [.ref e,u]:=.cons rfl (.cons r .nil);refine Zh hdp (KX _ _ lk) rfl S.co S.gen rfl (Y_4 KX hcd) (bd s [.ref e,u] KX rfl _ _ _ _ ?_);refine Zt S.kind hkind λenv hen s1' x=>?_
 subst hen;refine⟨lim.keeps x.toInCall.keep,codeAny_func ?_⟩;have I:Inv (Fk Oe P w K mg base ["self",par] qual (B2 st) fI cdv A outer s H E) [] (start ["self",par] [.ref e,v]) H s1':=RS S hh e0 rfl rv x;generalize hX:Fk Oe P w K mg base ["self",par] qual (B2 st) fI cdv A outer s H E=X at I;have pself:∀ p,PE X (.Name "self" p) (Ej 0):=λp=>by rw[<-hX];exact Ll rfl (.inl l1)
 have ppar:∀ p,PE X (.Name par p) (Ej 1):=λp=>by rw[<-hX];exact Ll rfl (.inl l2) dp dq
 have st1:=fT (X:=X) (CL:=CL) (C:=C) (g:=g) (np:=np) (apos:=apos) (cpos:=cpos) (i:=0) (j:=1) (OV:=OV) (by rw[<-hX];exact hob) (by rw[<-hX];exact gl) (by rw[<-hX];exact mo) dg (by rw[<-hX];exact s1) (by rw[<-hX];exact s2) (by rw[<-hX];exact s3) hl (pself p1)
  (hz.pe X CL 1 (by rw[<-hX];show A.units+3+64<BJ;omega) (by rw[<-hX];exact hgd) ppar) rfl (hz.st _)
 have st2:=jL (X:=X) (p8:=p8) (p10:=p10) (by rw[<-hX];exact hob) (by rw[<-hX];rfl) (by rw[<-hX];exact hf) (by rw[<-hX];exact hs) (pself p7) (ppar p9) rfl
 have all:=JP (Ir (pos:=p6) st1 rfl) (Ja st2);have hk:=all [] s1' _ H {nx:=λ_ H'=>∃ t' dx,H dx=Ae/\dx≠e/\H'=upd (upd H e (.ext (XEx e C (Aa dx) t'))) dx (.xd [(f,v)]),rt:=λ_ _=>AX} I ⟨e,Ae,t,v,d,B,n,rfl,he,rfl,by rw[<-hX];exact rp,hx,hn,λt'=>⟨e,t',v,rfl,Db,rfl,λdx h1 h2=>⟨t',dx,by rw[Bb h2]at h1;exact h1,h2,by rw[Pw]⟩⟩⟩
 rw[body];refine A3 (by rw[<-hX]at hk;exact hk) (λfl s' hfl=>?_) λev s' hev=>hev
 cases fl with
 |next=>
  obtain⟨Y',H',J,w'⟩:=hfl;exact⟨.non,H',J.os,J.bare,J.base,J.hok,rfl,rfl,w'⟩
 |ret y=>obtain⟨_,_,_,_,_,w'⟩:=hfl;exact w'.elim
 |brk=>obtain⟨_,_,_,w'⟩:=hfl;exact w'.elim
 |cont=>obtain⟨_,_,_,w'⟩:=hfl;exact w'.elim
end
theorem Vz:∀(n m:Af)(d:D),xfD n d=Ab->n+1<=m->nlD m d=Ab
 |0,m+1,.int i,_,_=>rfl
 |n+1,m+1,.tup ds,h,hm=>by
  have h':(DH ds.length 8&&ds.all (xfD n))=Ab:=h;rw[Ai]at h';show ds.all (nlD m)=Ab;rw[Bw]at h' ⊢;exact λx hx=>Vz n m x (h'.2 x hx) (by omega)
 |0,_,.tup _,h,_=>nomatch h
 |n+1,_,.int _,h,_=>nomatch h
section
variable{X:Cx}{CL:ClA}{W:XW}
def Ls(xn:Af->Ac D->R Ex)(c:Af)(f:Ag)(ds:Ac D):Prop:=∃ d n,ds=[d]/\xfD n d=Ab/\n<=2/\xn c ds=.ok ⟨c,[(f,d)]⟩
theorem aU{np cpos pos:AF}{e:Am}{es:Ac Am}(hcalm:X.calm=Ab)(hx:X.ex=[])(hr:Room k X.A)(rz:MI X CL W)(hg:Gl X g)(hm:X.mg g=Aa (.ref C))(hdb:(g==("__debug__" : Ag))=Ad)(hcl:CL c=Aa C)(ha:SA X CL W (e::es) fs)(hxn:∀ ds,xn c ds=.bad\/(xn c ds=.ok ⟨c,[]⟩/\Dl X.K C Ae=Ab)\/∃ f,XIn X.K X.mg C f/\Ls xn c f ds)(he:Aq (e::es) X.env=(Ad,eval e X.env)::Aq es X.env)(hpl:∀ pos,(Bo pos (Aq es X.env)).any (·.1)=Ad)(hz:∀ U ds,fs U=.ok ds->ds.length<=100000):SS X CL W (.Raise (Aa (.Call (.Name g np) (e::es) [] cpos)) Ae pos) (λU=>O.of U (noX (fs U)) λxs=>O.of U (xn c xs) λx=>.exn x U):=λFz B pI s Y H D I ⟨U,x,p⟩=>by
 have hpl':(Bo cpos (Aq (e::es) X.env)).any (·.1)=Ad:=by rw[he];show (Ad||(Bo cpos (Aq es X.env)).any (·.1))=Ad;rw[hpl];rfl
 cases e1:fs U with
 |bad=>dsimp only at p;rw[e1]at p;exact p.elim
 |exn y=>dsimp only at p;rw[e1]at p;exact p.elim
 |ok ds=>
  rcases hxn ds with e2|⟨e2,xc⟩|⟨f,xi,d,n,rfl,xf,hn,e2⟩
  .dsimp only at p;rw[e1]at p;have p2:Bv X.K CL Fz B W (O.of U (xn c ds) λx=>.exn x U) D:=p
   rw[e2]at p2;exact p2.elim
  .refine eB (fs:=fs) (xn:=λ_ ds'=>match xn c ds' with | .ok ⟨_,[]⟩=>.ok ⟨c,[]⟩|_=>.bad) hcalm rz hg hm hdb xc hcl ha (λds'=>by
    split
    .exact .inr rfl
    .exact .inl rfl) he hpl hz Fz B pI s Y H D I ⟨U,x,?_⟩
   dsimp only at p ⊢;rw[e1]at p ⊢;have p2:Bv X.K CL Fz B W (O.of U (xn c ds) λx=>.exn x U) D:=p
   rw[e2]at p2;show Bv X.K CL Fz B W (O.of U (match xn c ds with | .ok ⟨_,[]⟩=>(.ok ⟨c,[]⟩:R Ex)|_=>.bad) λx=>.exn x U) D
   rw[e2];exact p2
  .dsimp only at p;rw[e1]at p;have p2:Bv X.K CL Fz B W (O.of U (xn c [d]) λx=>.exn x U) D:=p
   rw[e2]at p2;have p3:∀ H,(∀ b o,Fz b o->H b=Aa o)->W ⟨c,[(f,d)]⟩ H:=p2;cases xi with
   |mk xc dc fn ty S l1 l2 bd body gl mo dg dp dq w1 w2 w3 hl hz0 hf hs=>
    rename_i fI OV x0 qual g0 par j0 st fd np0 apos q1 cpos0 q6 q7 q8 q9 q10;obtain⟨bm,N,nm,qn,bs,hd,sn,sub,ab,col,dd,k0,k1,k2,k3,k5,mN,hob,hni,hbase⟩:=LX I.kIn xc;have hdt:hd=Ab:=by
     unfold Gj at dc;split at dc
     .rename_i c0 d0 cd sl lk;have g1:=I.kIn _ _ lk;rw[(hob _ I.kIn).1]at g1;unfold BX at g1;cases g1;exact dc
     .cases dc
    subst hdt;have hob2:∀ h:AC,X.K.In h->h.get? C=Aa (BX nm qn C N bs bm Ab sn sub ab col dd k0 k1 k2 k3 k5 "ValueError.__new__")/\DU h veB bm:=λh z=>⟨(hob h z).1,(hob h z).2.2⟩
    refine dN (bmB:=veB) (nm:=nm) (q:=qn) (C:=C) (N:=N) (fI:=fI) (bs:=bs) (bm:=bm) (hdct:=Ab) (sn:=sn) (sub:=sub) (ab:=ab) (col:=col) (dd:=dd) (k0:=k0) (k1:=k1) (k2:=k2) (k3:=k3) (k5:=k5) (mN:=mN) C7 hbase (I.ok.hd hcalm) hpl' hni ?_;refine Hh I hg hm ⟨rfl,?_⟩ hdb;have q1:=ha (Bf B U Y) cpos pI s Y H (λvs H1=>Ay H H1/\Reps X.K CL H1 (Bf B U Y) vs [d]) I ⟨x.aok,U,x.good,by rw[e1];exact λvs H1 s1 r1=>⟨s1,r1⟩⟩
    rw[he]at q1 ⊢;refine E1 (A3 q1 (λus s2 ⟨vs,H2,I2,r2,sm2,rps⟩=>⟨rfl,?_⟩) λ_ _ z=>z)
    cases vs with
    |nil=>exact rps.elim
    |cons v vs=>
     cases vs with
     |cons=>exact rps.2.elim
     |nil=>
      obtain⟨u,rfl,ru⟩:=HS r2;obtain⟨o1,o2,o3⟩:=hob _ I2.kIn;obtain⟨oc,od,kV,doc,pm,an,cdv,ct,osl,efd,lk,hcd⟩:=fn.ex;have coc:oc=.type "function" := by
       have ty':(X.K.lookup fI).map _=_:=ty;rw[lk]at ty';exact Be ty'
      refine⟨by rw[Bs];show 1<=_;omega,o1,o2,o3,⟨_,I2.kIn _ _ lk,coc⟩,λh' e0 made=>?_⟩
      obtain⟨t,ge,_⟩:=made.there;have I3:Inv X pI Y H2 {s2 with heap:=h'}:=I2.kept (t':=s2.toks) made.keeps
      have ap:Gh X pI e0:=Ko I2 hx made.new;have n0:H2 e0=Ae:=Ix I2.hok made.new;have I4:=PN (o:=.ext (XEx e0 C Ae t)) I3 ap n0 ⟨ge,⟨_,ge⟩,Nv⟩;have sm4:Ay H2 (upd H2 e0 (.ext (XEx e0 C Ae t))):=λb o z=>by rw[Bb λy=>by rw[y,n0]at z;cases z];exact z
      have ru0:=hr.mono (Cv k);have run:=Ud (P:=X.prog) (w:=X.w) (mg:=X.mg) (base:=X.base) (CL:=CL) (E:=λ_ _ _=>AX) (B:=Bf B U Y) (H:=upd H2 e0 (.ext (XEx e0 C Ae t))) (t:=t) hob2 fn S l1 l2 bd body gl mo dg dp dq w1 w2 w3 hl hz0 hf hs (A:=X.A.under (.builtin "type.__call__" ⟨.ref C::[u],[]⟩)) (outer:=X.stack) hr.hd (by rw[OJ];have:=ru0.dp;omega) (by rw[OI];have:=ru0.un;omega) hr.gd (I4.env0.make C [u] []) Db (Rep.same sm4 rps.1) xf hn ru
      refine Ez (DQ run λr s' hq=>?_)
      cases r with
      |error _=>exact AY hq
      |ok fl=>
       cases fl with
       |next=>exact AY hq
       |brk=>exact AY hq
       |cont=>exact AY hq
       |ret u'=>
        obtain⟨v',H5,I5,rr,ev,t',dx,ndx,dne,eH⟩:=I4.after hq;subst ev;cases rr;have nd2:H2 dx=Ae:=by rw[Bb dne]at ndx;exact ndx
        rw[Pw]at eH;have H5e:H5 e0=Aa (.ext (XEx e0 C (Aa dx) t')):=by rw[eH,Bb (B4 dne),Db]
        have ge5:XEx e0 C (Aa dx) t' s'.heap:=(I5.hok e0 _ H5e).1;have I6:=fL I5 H5e ap.2.2.2 λ_=>trivial
        have H6d:(if dx=e0 then Ae else H5 dx)=Aa (.xd [(f,v)]):=by rw[AB dne,eH,Db]
        have sm6:Ay H2 (λb=>if b=e0 then Ae else H5 b):=λb o z=>by
         have nb:b≠e0:=λy=>by rw[y,n0]at z;cases z
         have nb2:b≠dx:=λy=>by rw[y,nd2]at z;cases z
         show (if b=e0 then Ae else H5 b)=Aa o
         rw[AB nb,eH,Bb nb2,Bb nb];exact z
        refine⟨rfl,t',Aa dx,(hob2 _ I6.kIn).1,ge5,rz pI Y _ s' e0 C (Aa dx) t' ⟨c,[(f,d)]⟩ I6 (λhx=>Iw I2 hx made.new) (As rfl) ge5 (λA hA=>⟨C,hcl,rfl,.inr ⟨dx,[(f,v)],rfl,λz=>?_,H6d,⟨rfl,?_⟩,trivial⟩⟩) (p3 _ λb o z=>sm6 _ _ (sm2 _ _ (x.same b o z)))⟩
        .obtain⟨ys,q⟩:=hA dx z;have q':(if dx=e0 then Ae else H5 dx)=Aa (.lst ys):=q
         rw[H6d]at q';cases q'
        .exact ND hA 5 d (Vz n 5 d xf (by omega)) (Rep.sub (λ_ z=>z.elim) _ (Rep.same sm6 rps.1))
end
section
variable{prog:AO}{w:A1}{A:AW}{E:Vq}{h:AC}{g:A9 ED}{d:Ie}{t:Af}{os:Hu}{K:Fg}{e C dx:Ak}{f:Ag}{mA:Ag->Ao Aj}{v:Aj}
theorem PV(p:Ju e C (Aa dx) h):XAt e C h:=let ⟨o,a,b,_⟩:=p;⟨o,a,b⟩
theorem aY{Q:Fin->Ap->Prop}(X:K.In h)(hf:Av K (.ref C) f=Aa Ae)(hd:Gj K C=Ab)(p:Ju e C (Aa dx) h)(hn:h.Ns1 dx mA)(hv:mA f=Aa v)(hq:Q (.done (.ret v)) ⟨h,g,d,t,os⟩):At (model prog w) A (Builtin.«object.__getattribute__» ⟨[.ref e,.str f tk],[]⟩) Q E ⟨h,g,d,t,os⟩:=by
 have L0:=JT (M:=model prog w) (PV p);have L1:=Cc (M:=model prog w) X hf;obtain⟨o,ge,oc,od,us,dt⟩:=p;unfold Gj at hd;split at hd
 .rename_i c' d' cd' sl' lk;have gC:=X _ _ lk;unfold Builtin.«object.__getattribute__»
  repeat (any_goals (first|assumption|with_reducible refine L0.at ?_|with_reducible refine L1.at ?_|wp_step))
  rw[dt];unfold instanceDict
  repeat (first|(with_reducible refine B7 ge ?_;rw[oc])|with_reducible refine B7 gC ?_|wp_step)
  rw[od]
  repeat (first|(with_reducible refine wpAny_nsGet hn.ns ?_;rw[hv])|wp_step)
  exact hq
 .cases hd
theorem oB{Q:Vq}(X:K.In h)(x:XcOk K C)(hf:Av K (.ref C) f=Aa Ae)(hd:Gj K C=Ab)(p:Ju e C (Aa dx) h)(hn:h.Ns1 dx mA)(hv:mA f=Aa v)(hh:handedOut v=pure v)(hq:Q v ⟨h,g,d,t,os⟩):At (model prog w) A (getAttrBy (.ref e) (.str f tk) fill expr) Q E ⟨h,g,d,t,os⟩:=by
 have L0:=JT (M:=model prog w) (PV p);have L1:=Cc (M:=model prog w) X x.ga;have L2:=Cc (M:=model prog w) X x.gt;have f3:=FU.ga.bind (.ref e);have hx0:(expr&&JM (CB "BaseException.__getattribute__"))=Ad:=by cases expr<;>rfl
 have hx2:(CB "BaseException.__getattribute__" == CB "object.__getattribute__")=Ad:=by decide+kernel
 have hx1:(JM (Bc C)&&CB "BaseException.__getattribute__" == CB "object.__getattribute__")=Ad:=by rw[hx2];rfl
 repeat (any_goals (first|assumption|with_reducible refine L0.at ?_|with_reducible refine L1.at ?_|with_reducible refine L2.at ?_|wp_step))
 refine Ea FU.ga.plain Ys (Rt X x (PV p) (aY X hf hd p hn hv ?_))
 repeat (any_goals (first|assumption|wp_step))
 all_goals trace_state
theorem dO{b:Al}{Q:Vq}(X:K.In h)(x:XcOk K C)(hf:Av K (.ref C) f=Aa Ae)(hd:Gj K C=Ab)(p:Ju e C (Aa dx) h)(hn:h.Ns1 dx mA)(hv:mA f=Aa v)(hh:handedOut v=pure v)(hq:Q v ⟨h,g,d,t+1,os⟩):At (model prog w) A (Kc (.ref e) f b) Q E ⟨h,g,d,t,os⟩:=by
 unfold Kc
 repeat (any_goals (first|assumption|with_reducible apply oB X x hf hd p hn hv hh|wp_step))
end
section
variable{X:Cx}{CL:ClA}{W:XW}{K:Fg}{H:Hp}{A:Ak->Prop}
theorem OU{f:Ag}{d:D}:∀{vs:Ac (Ag×V)}{fs:Ac (Ag×D)},Repf K CL H A vs fs->fs.lookup f=Aa d->∃ v,vs.lookup f=Aa v/\Rep K CL H A v d
 |[],[],_,q=>nomatch q
 |(n,v)::vs,(m,d')::fs,⟨⟨e,r⟩,rs⟩,q=>by
  have e':n=m:=e;subst e';by_cases z:(f==n)=Ab
  .simp only[B6,z]at q ⊢;cases q;exact⟨v,rfl,r⟩
  .simp only[B6,z]at q ⊢;exact OU rs q
theorem TC{a:Am}{fa:Rho->R D}{f:Ag}(hxc:∀ c C,CL c=Aa C->XcOk X.K C)(hnf:∀ c C,CL c=Aa C->Gj X.K C=Ab/\Av X.K (.ref C) f=Aa Ae)(ha:ST X CL W a fa)(hb:BO a f X.env (eval a X.env)=eval a X.env):SE X CL W (.Attribute a f pos) (λU=>(fa U).bind λx=>N9 x f):=λA=>by
 intro pI s Y H Q I ⟨hA,U,gd,q⟩;refine Uv hb (thn (ha A pI s Y H _ I ⟨hA,U,gd,AV.bind q (Q':=λv H1=>∃ d,Cw X.K CL H1 A v d/\AV (λH2=>Rep X.K CL H2 A) W H1 (N9 d f) Q) λd v H1 _ s1 r1 p1=>⟨d,r1,p1⟩⟩) λu s1 ⟨v,H1,I1,rv,d,rp,p1⟩=>?_)
 cases d with
 |exc c fs=>
  have p2:AV (λH2=>Rep X.K CL H2 A) W H1 (match fs.lookup f with|some d=>.ok d|none=>.bad) Q:=p1
  cases el:fs.lookup f with
  |none=>rw[el]at p2;exact p2.elim
  |some d=>
   rw[el]at p2;rcases rp with ⟨e,C,φ,rfl,_,hc,hH,hφ,hfs⟩|⟨a,xs,ds,_,z,_⟩
   .rcases hfs with z|⟨dx,vs,nd,hd,rf,hφ2⟩
    .rw[z]at el;cases el
    .obtain⟨y,l,ry⟩:=OU rf el;cases rv;have ph:=(I1.hok e _ hH).1;obtain⟨o,ge,oc⟩:=hφ _ ph;obtain⟨o',ge',od,us,odt⟩:=hφ2 _ ph;rw[ge]at ge';cases ge';obtain⟨mA,hn,rel⟩:=I1.hok dx _ hd;obtain⟨u',hu,ru⟩:=HZ.some_of (v:=y) (o:=mA f) (by rw[<-l];exact rel f)
     obtain⟨k1,k2⟩:=hnf c C hc;obtain⟨hp,g2,d2,tk2,os2⟩:=s1;exact dO I1.kIn (hxc c C hc) k2 k1 ⟨o,ge,oc,od,us,odt⟩ hn hu (PySem.W.handedOut_of (Sf ru)) ⟨y,H1,I1.tok _,ru,p2 y H1 (Ay.refl H1) ry⟩
   .cases z
 |_=>exact p1.elim
end
section
variable{X:Cx}{CL:ClA}{W:XW}
theorem nI{e C:Ak}:∀ h1 h2:AC,XAt e C h1->(∀ o,h1.get? e=Aa o->h2.get? e=Aa o)->XAt e C h2:=λ_ _ ⟨o,a,b⟩ k=>⟨o,k _ a,b⟩
theorem pV{np pos:AF}{e:Am}{es:Ac Am}(hx:X.ex=[])(hk:Bm X.K (.ref C)=Ab)(hg:Gl X g)(hm:X.mg g=Aa (.ref C))(hdb:(g==("__debug__" : Ag))=Ad)(xc:Dl X.K C Ae=Ab)(hcl:CL c=Aa C)(ha:SA X CL W (e::es) fs)(he:Aq (e::es) X.env=(Ad,eval e X.env)::Aq es X.env)(hpl:(Bo pos (Aq es X.env)).any (·.1)=Ad)(hz:∀ U ds,fs U=.ok ds->ds.length<=100000):SE X CL W (.Call (.Name g np) (e::es) [] pos) (λU=>(fs U).bind λ_=>.ok (.exc c [])):=λA=>by
 intro pI s Y H Q I ⟨hA,U,gd,p⟩;dsimp only at p;obtain⟨bm,N,nm,qn,bs,hd,sn,sub,ab,col,dd,k0,k1,k2,k3,k5,mN,hob,hni,hbase⟩:=LX I.kIn xc;refine Cy (Hh I hg hm ?_ hdb);have q1:=ha A pos pI s Y H (λvs H1=>Ay H H1/\vs.length<=100000/\∀ v H',Ay H H'->Rep X.K CL H' A v (.exc c [])->Q v H') I ⟨hA,U,gd,by
  cases e1:fs U with
  |bad=>rw[e1]at p;exact p
  |exn y=>rw[e1]at p;exact p
  |ok ds=>
   rw[e1]at p;exact λvs H1 s1 r1=>⟨s1,by rw[r1.length];exact hz U ds e1,p⟩⟩
 refine CI (h₀:=X.base) I.ok.mod.kin hk (thn q1 λus s1 ⟨vs,H1,I1,r,sm,hl,q⟩=>⟨I1.kIn,?_⟩) he hpl
 obtain⟨o1,o2,o3⟩:=hob _ I1.kIn;have ap:∀ e',s1.heap.get? e'=Ae->Gh X pI e':=λe' z=>Ko I1 hx z
 have hf:=λe' (z:s1.heap.get? e'=Ae)=>Ix I1.hok z
 obtain⟨h1,g1,d1,t1,os1⟩:=s1;refine wpAny_call_exc_subT C7 o3 o1 o2 hni (λh' ev hmade=>?_) (by rw[Gy,<-r.length,Bs];omega)
 obtain⟨t,ge,_⟩:=hmade.there;have nH:H1 ev=Ae:=hf ev hmade.new;have xa:XAt ev C h':=⟨_,ge,rfl⟩;have I3:Inv X pI Y H1 ⟨h',g1,d1,t1,os1⟩:=I1.kept (t':=t1) hmade.keeps;have I2:=RQ I3 hx (ap ev hmade.new) nH ⟨_,ge⟩ xa nI;have s2:Ay H1 (upd H1 ev (.ext (XAt ev C))):=En nH _;refine⟨.ref ev,_,I2,rfl,q _ _ (sm.trans s2) ⟨ev,C,XAt ev C,rfl,λz=>?_,hcl,Db,λh x=>x,.inl rfl⟩⟩
 obtain⟨xs,z'⟩:=hA.same sm ev z;rw[nH]at z';cases z'
theorem rH{f:Ag}{ds:Ac D}{Q:VK}(p:AV Rp W H ((mkA c f ds).bind λx=>.ok (.exc x.c x.fs)) Q):∃ d n,ds=[d]/\xfD n d=Ab/\n<=2/\mkA c f ds=.ok ⟨c,[(f,d)]⟩:=by
  match ds,p with
  |[],p=>exact p.elim
  |_::_::_,p=>exact p.elim
  |[d],p=>
    have e':mkA c f [d]=if (xfD 0 d||(xfD 1 d||xfD 2 d))=Ab then .ok ⟨c,[(f,d)]⟩ else .bad:=rfl
    by_cases z:(xfD 0 d||(xfD 1 d||xfD 2 d))=Ab
    · rw[As z]at e';rcases (BL _ _).mp z with h|h
      · exact⟨d,0,rfl,h,by omega,e'⟩
      · rcases (BL _ _).mp h with h|h
        · exact⟨d,1,rfl,h,by omega,e'⟩
        · exact⟨d,2,rfl,h,by omega,e'⟩
    · rw[AB z]at e';rw[e']at p;exact p.elim
theorem pU{g f:Ag}{np pos:AF}{e:Am}{es:Ac Am}(hx:X.ex=[])(hr:Room k X.A)(hk:Bm X.K (.ref C)=Ab)(hg:Gl X g)(hm:X.mg g=Aa (.ref C))(hdb:(g==("__debug__" : Ag))=Ad)(xi:XIn X.K X.mg C f)(hcl:CL c=Aa C)(ha:SA X CL W (e::es) fs)(he:Aq (e::es) X.env=(Ad,eval e X.env)::Aq es X.env)(hpl:(Bo pos (Aq es X.env)).any (·.1)=Ad):SE X CL W (.Call (.Name g np) (e::es) [] pos) (λU=>(fs U).bind λds=>mkA c f ds |>.bind λx=>.ok (.exc x.c x.fs)):=λA=>by
 intro pI s Y H Q I ⟨hA,U,gd,p⟩;dsimp only at p;cases xi with
 |mk xc dc fn ty S l1 l2 bd body gl mo dg dp dq w1 w2 w3 hl hz0 hf hs=>
  rename_i fI OV x0 qual g0 par j0 st fd np0 apos q1 cpos0 q6 q7 q8 q9 q10;obtain⟨bm,N,nm,qn,bs,hd,sn,sub,ab,col,dd,k0,k1,k2,k3,k5,mN,hob,hni,hbase⟩:=LX I.kIn xc;have hdt:hd=Ab:=by
   unfold Gj at dc;split at dc
   .rename_i c0 d0 cd sl lk;have g1:=I.kIn _ _ lk;rw[(hob _ I.kIn).1]at g1;unfold BX at g1;cases g1;exact dc
   .cases dc
  subst hdt;have hob2:∀ h:AC,X.K.In h->h.get? C=Aa (BX nm qn C N bs bm Ab sn sub ab col dd k0 k1 k2 k3 k5 "ValueError.__new__")/\DU h veB bm:=λh z=>⟨(hob h z).1,(hob h z).2.2⟩
  refine Cy (Hh I hg hm ?_ hdb);have q1:=ha A pos pI s Y H (λvs H1=>Ay H H1/\∃ d n,Reps X.K CL H1 A vs [d]/\xfD n d=Ab/\n<=2/\∀ v H',Ay H H'->Rep X.K CL H' A v (.exc c [(f,d)])->Q v H') I ⟨hA,U,gd,by
   cases e1:fs U with
   |bad=>rw[e1]at p;exact p
   |exn y=>rw[e1]at p;exact p
   |ok ds=>
    rw[e1]at p;have p':AV (λH=>Rep X.K CL H A) W H ((mkA c f ds).bind λx=>.ok (.exc x.c x.fs)) Q:=p
    obtain⟨d,n,rfl,xf,hn,em⟩:∃ d n,ds=[d]/\xfD n d=Ab/\n<=2/\mkA c f ds=.ok ⟨c,[(f,d)]⟩:=rH p';rw[em]at p';exact λvs H1 s1 r1=>⟨s1,d,n,r1,xf,hn,p'⟩⟩
  refine CI (h₀:=X.base) I.ok.mod.kin hk (thn q1 λus s2 ⟨vs,H2,I2,r2,sm2,d,n,rps,xf,hn,q⟩=>⟨I2.kIn,?_⟩) he hpl
  cases vs with
  |nil=>exact rps.elim
  |cons v vs=>
   cases vs with
   |cons=>exact rps.2.elim
   |nil=>
    obtain⟨u,rfl,ru⟩:=HS r2;obtain⟨o1,o2,o3⟩:=hob _ I2.kIn;obtain⟨oc,od,kV,doc,pm,an,cdv,ct,osl,efd,lk,hcd⟩:=fn.ex;have coc:oc=.type "function" := by
     have ty':(X.K.lookup fI).map _=_:=ty;rw[lk]at ty';exact Be ty'
    have apO:∀ e',s2.heap.get? e'=Ae->Gh X pI e':=λe' z=>Ko I2 hx z
    have hfO:=λe' (z:s2.heap.get? e'=Ae)=>Ix I2.hok z
    have lkI:=I2.kIn _ _ lk;obtain⟨h1,g1,d1,t1,os1⟩:=s2;refine TD C7 o3 o1 o2 hni lkI coc (by rw[Bs];show 1<=_;omega) λh' e0 made=>?_
    obtain⟨t,ge,_⟩:=made.there;have I3:Inv X pI Y H2 ⟨h',g1,d1,t1,os1⟩:=I2.kept (t':=t1) made.keeps;have ap:Gh X pI e0:=apO e0 made.new;have n0:H2 e0=Ae:=hfO e0 made.new;have I4:=PN (o:=.ext (XEx e0 C Ae t)) I3 ap n0 ⟨ge,⟨_,ge⟩,Nv⟩;have sm4:Ay H2 (upd H2 e0 (.ext (XEx e0 C Ae t))):=En n0 _;have ru0:=hr.mono (Cv k);have run:=Ud (P:=X.prog) (w:=X.w) (mg:=X.mg) (base:=X.base) (CL:=CL) (E:=λ_ _ _=>AX) (B:=A) (H:=upd H2 e0 (.ext (XEx e0 C Ae t))) (t:=t) hob2 fn S l1 l2 bd body gl mo dg dp dq w1 w2 w3 hl hz0 hf hs (A:=X.A.under (.builtin "type.__call__" ⟨.ref C::[u],[]⟩)) (outer:=X.stack) hr.hd (by rw[OJ];have:=ru0.dp;omega) (by rw[OI];have:=ru0.un;omega) hr.gd (I4.env0.make C [u] []) Db (Rep.same sm4 rps.1) xf hn ru
    refine Ez (DQ run λr s' hq=>?_)
    cases r with
    |error _=>exact AY hq
    |ok fl=>
     cases fl with
     |next=>exact AY hq
     |brk=>exact AY hq
     |cont=>exact AY hq
     |ret u'=>
      obtain⟨v',H5,I5,rr,ev,t',dx,ndx,dne,eH⟩:=I4.after hq;subst ev;cases rr;have nd2:H2 dx=Ae:=by rw[Bb dne]at ndx;exact ndx
      rw[Pw]at eH;have H5e:H5 e0=Aa (.ext (XEx e0 C (Aa dx) t')):=by rw[eH,Bb (B4 dne),Db]
      have H5d:H5 dx=Aa (.xd [(f,v)]):=by rw[eH,Db]
      have s5:Ay H2 H5:=λb o z=>by
       have nb:b≠e0:=λy=>by rw[y,n0]at z;cases z
       have nb2:b≠dx:=λy=>by rw[y,nd2]at z;cases z
       rw[eH,Bb nb2,Bb nb];exact z
      have nA:∀ b,H2 b=Ae->¬ A b:=λb z ha'=>by
       obtain⟨xs,q'⟩:=hA.same sm2 b ha';rw[z]at q';cases q'
      refine⟨rfl,.ref e0,H5,I5,rfl,q _ _ (sm2.trans s5) ?_⟩;exact⟨e0,C,_,rfl,nA e0 n0,hcl,H5e,λh x=>⟨_,x,rfl⟩,.inr ⟨dx,[(f,v)],nA dx nd2,H5d,⟨⟨rfl,Rep.same s5 rps.1⟩,trivial⟩,λh x=>⟨_,x,rfl,_,rfl⟩⟩⟩
theorem S7{i:Ao Aj}(q:Dl K C i=Ab):Bm K (.ref C)=Ab:=by
  obtain⟨dd,cd,sl,bm,h1,_⟩:=P9 q;have e:Co K (.ref C) "__call__" = Aa (Aa (.builtin "type.__call__")):=by
    unfold Co;rw[Vj q];show PySem.fastLookup "type" "__call__" = _;decide+kernel
  show (match K.lookup C with
      |some ⟨_,_,.func _,_⟩=>Ab
      |some ⟨_,_,.cls _,_⟩=>Co K (.ref C) "__call__" == Aa (Aa (.builtin "type.__call__"))
      | _=>Ad)=Ab
  rw[h1,e];show (Aa (Aa (CB "type.__call__"))==Aa (Aa (CB "type.__call__")))=Ab;exact Cz _
theorem uU{np pos:AF}{e:Am}{es:Ac Am}(hx:X.ex=[])(hr:Room k X.A)(hg:Gl X g)(hm:X.mg g=Aa (.ref C))(hdb:(g==("__debug__" : Ag))=Ad)(hcl:CL c=Aa C)(ha:SA X CL W (e::es) fs)(hxn:∀ ds,xn c ds=.bad\/(xn c ds=.ok ⟨c,[]⟩/\Dl X.K C Ae=Ab)\/∃ f,XIn X.K X.mg C f/\Ls xn c f ds)(he:Aq (e::es) X.env=(Ad,eval e X.env)::Aq es X.env)(hpl:(Bo pos (Aq es X.env)).any (·.1)=Ad)(hz:∀ U ds,fs U=.ok ds->ds.length<=100000):SE X CL W (.Call (.Name g np) (e::es) [] pos) (λU=>(noX (fs U)).bind λds=>(xn c ds).bind λx=>.ok (.exc x.c x.fs)):=λA=>by
 intro pI s Y H Q I ⟨hA,U,gd,p⟩;dsimp only at p;cases e1:fs U with
 |bad=>
  rw[e1]at p;exact p.elim
 |exn y=>
  rw[e1]at p;exact p.elim
 |ok ds=>
  rw[e1]at p;have p':AV (λH=>Rep X.K CL H A) W H ((xn c ds).bind λx=>.ok (.exc x.c x.fs)) Q:=p
  rcases hxn ds with e2|⟨e2,xc⟩|⟨f,xi,d,n,rfl,xf,hn,e2⟩
  .rw[e2]at p';exact p'.elim
  .rw[e2]at p';refine pV (fs:=fs) hx (S7 xc) hg hm hdb xc hcl ha he hpl hz A pI s Y H Q I ⟨hA,U,gd,?_⟩;dsimp only;rw[e1];exact p'
  .rw[e2]at p';have m:mkA c f [d]=.ok ⟨c,[(f,d)]⟩:=by
    have:(xfD 0 d||(xfD 1 d||xfD 2 d))=Ab:=by
     have hn':n=0\/n=1\/n=2:=by omega
     rcases hn' with rfl|rfl|rfl<;>rw[xf]<;>simp
    show (if (xfD 0 d||(xfD 1 d||xfD 2 d))=Ab then (.ok ⟨c,[(f,d)]⟩:R Ex) else .bad)=_
    rw[As this]
   have kp:Bm X.K (.ref C)=Ab:=by
    cases xi with
    |mk xc=>exact S7 xc
   refine pU (fs:=fs) hx hr kp hg hm hdb xi hcl ha he hpl A pI s Y H Q I ⟨hA,U,gd,?_⟩;dsimp only;rw[e1];show AV (λH=>Rep X.K CL H A) W H ((mkA c f [d]).bind λx=>.ok (.exc x.c x.fs)) Q
   rw[m];exact p'
end
theorem dX:∀{ss:Ac Ag}{its:Ac Aj},AZ (ss.map V.str) its->∃ l:Ac (Ag×CG),its=strValues l/\l.map (·.1)=ss:=by
 intro ss
 induction ss with
 |nil=>intro its v;cases v;exact⟨[],rfl,rfl⟩
 |cons x ss ih=>
  intro its v;cases v with
  |cons v1 v2=>
   obtain⟨t,rfl⟩:=v1;obtain⟨l,e1,e2⟩:=ih v2;exact⟨(x,t)::l,by rw[e1];rfl,by rw[Bz,e2]⟩
section
variable{X:Cx}{CL:ClA}{W:XW}
def vN(K:Fg):V->Ac V->Hp->VK->Prop:=λx xs H Q=>∃ sep q ss,x=.str sep/\xs=[.ref q]/\SqL K H q (ss.map V.str)/\JF sep ss=Ab/\Q (.str (LN sep ss)) H
theorem mF:MtR X "str.join" (vN X.K):=by
 intro pI s Y H x vs v us Q I rx rv h;obtain⟨sep,l,ss,rfl,rfl,sq,hok,q⟩:=h;obtain⟨t,rfl⟩:=rx;obtain⟨u,rfl,ru⟩:=rv.one;cases ru;obtain⟨its,r,pl,hz⟩:=I.list sq;obtain⟨ls,rfl,rfl⟩:=dX r;unfold JF at hok;rw[Br]at hok;refine Ey Yz (FM _ _ _) PySem.F.entry_str_join (PySem.F.args_str_join_2 _ _) (meets_str_join_list sep t l ls hok) ⟨pl.isList,post_join ls ⟨joinFit_length hok,λt' k=>?_⟩⟩
 exact⟨.str _,H,I.kept (t':=k) λ_ _ e=>e,⟨_,rfl⟩,q⟩
theorem bD:∀{es:Ac D}{ss:Ac Ag}{ys:Ac V},JY es=Aa ss->Reps K CL H A ys es->ys=ss.map V.str:=by
 intro es
 induction es with
 |nil=>
  intro ss ys h r;cases h;cases ys with
  |nil=>rfl
  |cons=>exact r.elim
 |cons e es ih=>
  intro ss ys h r;cases ys with
  |nil=>exact r.elim
  |cons y ys=>
   cases e with
   |str x=>
    have h':(JY es).map (x :: ·)=Aa ss:=h;cases e2:JY es with
    |none=>rw[e2]at h';cases h'
    |some js=>
     rw[e2]at h';cases h';have e1:y=.str x:=r.1;rw[ih e2 r.2,e1];rfl
   |_=>cases h
theorem kM{y:Am}{s:Ag}(hy:SE X CL W y fy)(hbase:BO (.Constant (.str s) k p) "join" X.env (eval (.Constant (.str s) k p) X.env)=eval (.Constant (.str s) k p) X.env)(hfew:((Bo cpos (Aq [y] X.env)).all (λx=>!x.1)&&(FA cpos (Ec [] X.env)).all (λx=>x.1.isSome)&&decide ([y].length+([]:Ac C4).length+(if ([]:Ac C4).isEmpty then 0 else 1)<30))=Ab)(hline:(apos.endLine==cpos.line)=Ab)(hs:Aq [y] X.env=[(Ad,eval y X.env)]):
  SE X CL W (.Call (.Attribute (.Constant (.str s) k p) "join" apos) [y] [] cpos) (λU=>(fy U).bind λx=>biD .sjoin [.str s,x]):=λA=>
 PE.weak (Lu Yx Yz PySem.F.type_str_join mF (Ny (X:=X) (CL:=CL) (W:=W) A) (DJ (hy A) ET hs) hbase hfew hline hs rfl) λY H Q ⟨hA,U,g,p⟩=>⟨hA,U,g,λv H1 s1 r1=>by
  dsimp only at p;have ev:v=.str s:=r1;subst ev;refine⟨rfl,hA.same s1,U,g.same s1,?_⟩;cases e:fy U with
  |bad=>rw[e]at p;exact p.elim
  |exn x=>rw[e]at p;exact λH2 s2=>p H2 (s1.trans s2)
  |ok d=>
   rw[e]at p;intro v' H2 s2 r2;have p1:AV (λH=>Rep X.K CL H A) W H (biD .sjoin [.str s,d]) Q:=p
   cases d with
   |lst ds=>
    obtain⟨a,xs,rfl,_,sq,rs⟩:=r2;have p2:AV (λH=>Rep X.K CL H A) W H (Mj s ds) Q:=p1
    unfold Mj at p2;cases e3:JY ds with
    |none=>rw[e3]at p2;exact p2.elim
    |some ss=>
     rw[e3]at p2;dsimp only at p2;split at p2
     .rename_i hok;have ex:=bD e3 rs;subst ex;exact⟨s,a,ss,rfl,rfl,sq,hok,p2 _ H2 (s1.trans s2) rfl⟩
     .exact p2.elim
   | _=>exact p1.elim⟩
end
theorem RT:∀(l:Ac Ag)(k:Af),AZ (l.map V.str) (strsFrom k l)
 |[],_=>.nil
 |_::r,k=>.cons ⟨_,rfl⟩ (RT r (k+1))
section
variable{X:Cx}{CL:ClA}{W:XW}
def pA:V->Ac V->Hp->VK->Prop:=λx xs H Q=>∃ z y,x=.str z/\xs=[.str y]/\(y.length==0)=Ad/\N1 z y=Ab/\∀ p,H p=Ae->Q (.ref p) (upd H p (.lst ((JH z y).map V.str)))
theorem fA:MtR X "str.split" pA:=by
 intro pI s Y H x vs v us Q I rx rv h;obtain⟨z,y,rfl,rfl,hy,hok,q⟩:=h;obtain⟨t,rfl⟩:=rx;obtain⟨u0,rfl,ru⟩:=rv.one;obtain⟨u,rfl⟩:=ru;unfold N1 at hok;rw[Ai]at hok;have z1:z.length<=sizeLine:=by have:=Cq hok.1;rw[Bs];omega
 have z2:(XJ z (Ch z y 0 z.length (z.length+1)) y.length).length<=sizeLine:=by have:=Cq hok.2;rw[Bs];omega
 have one:∀(l:Ac Ag)(its:Ac Aj)(tk:Af),JH z y=l->l.length<=sizeLine->AZ (l.map V.str) its->EP X pI Y Q (.ref s.heap.objs.size) { s with heap:=s.heap.push { cls:=.type "list",data:=.seq its.toArray },toks:=tk }:=λl its tk e hl hv=>
  ⟨.ref s.heap.objs.size,_,I.laid (t':=tk) (o:=.lst (l.map V.str)) (λb ob q=>Ar _ q) (AK _) ⟨by rw[AU];exact hl,its,0,hv,AN _ rfl⟩,rfl,by rw[<-e];exact q _ (I.hok.fresh (AK _))⟩
 have self1:1<=sizeLine:=by decide
 cases h1:(decide (z.length<y.length)||decide (XM z<XM y))
 .cases hf:(Ch z y 0 z.length (z.length+1)).isEmpty
  .exact Ey EC (FM _ _ _) FQ (Fw _ _) (meets_str_split_sep z y t u h1 hy hf z1 z2) (one _ _ _ ((AB (GS h1)).trans (AB (GS hf))) z2 (RT _ _))
  .exact Ey EC (FM _ _ _) FQ (Fw _ _) (meets_str_split_not_found z y t u h1 hy hf) (one [z] [.str z t] s.toks ((AB (GS h1)).trans (As hf)) self1 (.cons ⟨_,rfl⟩ .nil))
 .exact Ey EC (FM _ _ _) FQ (Fw _ _) (meets_str_split_cannot_occur z y t u h1) (one [z] [.str z t] s.toks (As h1) self1 (.cons ⟨_,rfl⟩ .nil))
theorem R6{K:Fg}{H:Hp}{A:Ak->Prop}:∀ l:Ac Ag,Reps K CL H A (l.map V.str) (l.map D.str)
 |[]=>trivial
 |_::r=>⟨rfl,R6 r⟩
theorem eF{o:Am}{y:Ag}(ho:ST X CL W o fo)(hbase:BO o "split" X.env (eval o X.env)=eval o X.env)(hline:(apos.endLine==cpos.line)=Ab):SC X CL W Ab (.Call (.Attribute o "split" apos) [.Constant (.str y) k p] [] cpos) (λU=>(fo U).bind λx=>biD .ssplit [x,.str y]):=λA=>
 PE.weak (Lu Yx EC PySem.F.type_str_split fA (ho A) (DJ (Ny (X:=X) (CL:=CL) (W:=W) A) ET rfl) hbase rfl hline rfl rfl) λY H Q ⟨hA,U,g,q⟩=>⟨hA,U,g,AV.bind q λd v H1 _ s1 r1 p1=>by
  cases d with
  |str z=>
   have e:=r1.str_of;subst e;refine⟨rfl,hA.same s1,U,g.same s1,λv' H2 s2 r2=>?_⟩
   have e2:v'=.str y:=r2;subst e2;have p2:AV (DK X.K CL Ab H A) W H1 (if (!(y.length==0)&&N1 z y)=Ab then .ok (.lst ((JH z y).map D.str)) else .bad) Q:=p1
   split at p2
   .rename_i hk;rw[Ai,Br]at hk;exact⟨z,y,rfl,rfl,hk.1,hk.2,λa ha=>p2 _ _ (s2.trans (En ha _)) (Jd (s1.trans s2) ((hA.same s1).same s2) ha (R6 _))⟩
   .exact p2.elim
  | _=>exact p1.elim⟩
theorem sH:KH X CL W (.type "str") (biD .str):=by
  intro A pI s Y H xs us Q I r ⟨hA,ds,rs,p⟩
  match ds,rs,p with
  |[.int i],rs,p=>
    obtain⟨v,rfl,rv⟩:=rs.one;have e:=rv.int_of;subst e;have p2:AV (λH=>Rep X.K CL H A) W H (if WD i=Ab then .ok (.str (AT (toString i))) else .bad) Q:=p
    split at p2
    · rename_i hk;have hk':i.natAbs<1000:=AS hk;exact aP pI s Y H _ us Q I r ⟨i,rfl,DM (HF _) (Nat.lt_trans hk' (by decide)),p2 _ H (Ay.refl H) rfl⟩
    · exact p2.elim
  |[.bl _],_,p=>exact p.elim
  |[],_,p=>exact p.elim
  |[.non],_,p=>exact p.elim
  |[.str _],_,p=>exact p.elim
  |[.tup _],_,p=>exact p.elim
  |[.lst _],_,p=>exact p.elim
  |[.obj _ _],_,p=>exact p.elim
  |[.exc _ _],_,p=>exact p.elim
  |[.dic _],rs,p=>first|exact p.elim|(obtain⟨v,rfl,rv⟩:=rs.one;exact rv.plain.elim)
  |x::_::_,_,p=>cases x<;>exact p.elim
end
structure OCls (K:Fg) (C:Ak):Prop where
 cl:Cls K C
 np:Hi K C "p"
 nt:Hi K C "triple"
 ha:Av K (.ref C) "__class__" = Aa (Aa (.builtin "object.__class__"))
 hn:Co K (.builtin "object.__class__") "__get__" = Aa (Aa (.builtin "getset_descriptor.__get__"))
 htk:Zg K (.builtin "object.__class__")=Aa Ab
 hm:Cp K C (.type "object")=Aa Ab
theorem OF{K:Fg}{CL:ClA}{H:Hp}{A:Ak->Prop}{f:Ag}:∀{vs:Ac (Ag×V)}{fs:Ac (Ag×D)},Repf K CL H A vs fs->fs.lookup f=Ae->vs.lookup f=Ae
 |[],[],_,_=>rfl
 |v::vs,(n,d)::fs,h,q=>by
  obtain⟨⟨e,_⟩,h2⟩:=h;obtain⟨m,y⟩:=v;have e':m=n:=e;subst e';by_cases z:(f==m)=Ab
  .simp only[B6,z]at q;cases q
  .have z':(f==m)=Ad:=by simpa using z
   simp only[B6,z']at q ⊢;exact OF h2 q
 |[],_::_,h,_=>h.elim
 |_::_,[],h,_=>h.elim
section
variable{CL:ClA}{K:Fg}{H:Hp}{A:Ak->Prop}{x C dx:Ak}{vs:Ac (Ag×V)}{o:HO}
mutual
theorem U_1(hx:H x=Aa (.ins C dx vs)):∀(n:Af)(d:D){v:V},nlD n d=Ab->Rep K CL H A v d->Rep K CL (upd H x o) A v d
 |_,.non,_,_,h=>h
 |_,.bl _,_,_,h=>h
 |_,.int _,_,_,h=>h
 |_,.str _,_,_,h=>h
 |0,.tup _,_,hn,_=>by cases hn
 |n+1,.tup ds,_,hn,h=>by
  obtain⟨a,xs,e,na,s,r⟩:=h;refine⟨a,xs,e,na,?_,nls_ins hx n ds hn r⟩;rcases s with s|s
  .rcases s with s|⟨ob,s⟩
   .exact .inl (.inl (by rw[Bb λz=>by rw[z,hx]at s;cases s];exact s))
   .exact .inl (.inr ⟨ob,by rw[Bb λz=>by rw[z,hx]at s;cases s];exact s⟩)
  .exact .inr s
 |n,.lst _,_,hn,_=>by cases n<;>cases hn
 |n,.obj _ _,_,hn,_=>by cases n<;>cases hn
 |n,.exc _ _,_,hn,_=>by cases n<;>cases hn
 |n,.dic _,_,hn,_=>by cases n<;>cases hn
theorem nls_ins(hx:H x=Aa (.ins C dx vs)):∀(n:Af)(ds:Ac D){us:Ac V},ds.all (nlD n)=Ab->Reps K CL H A us ds->Reps K CL (upd H x o) A us ds
 |_,[],[],_,h=>h
 |n,d::ds,_::_,hn,h=>by
  simp only[B0,Ai]at hn;exact⟨U_1 hx n d hn.1 h.1,nls_ins hx n ds hn.2 h.2⟩
 |_,[],_::_,_,h=>h.elim
 |_,_::_,[],_,h=>h.elim
end
theorem Nb{v:V}{fs:Ac (Ag×D)}(r:Cw K CL H A v (.obj c fs)):∃ a C dx vs,v=.ref a/\¬ A a/\OC K c=Aa C/\H a=Aa (.ins C dx vs)/\Repf K CL H A vs fs:=by
 rcases r with r|⟨a,xs,ds,_,z,_⟩
 .exact r
 .cases z
end
section
variable{X:Cx}{CL:ClA}{W:XW}{a:Am}{fa:Rho->R D}
theorem pS{f:Ag}(ho:∀ c C,OC X.K c=Aa C->Cls X.K C/\Hi X.K C f)(ha:ST X CL W a fa)(hb:BO a f X.env (eval a X.env)=eval a X.env):SE X CL W (.Attribute a f pos) (λU=>(fa U).bind λx=>ofD x f):=λA=>by
 intro pI s Y H Q I ⟨hA,U,gd,q⟩;refine Uv hb (thn (ha A pI s Y H _ I ⟨hA,U,gd,AV.bind q (Q':=λv H1=>∃ d,Cw X.K CL H1 A v d/\AV (λH2=>Rep X.K CL H2 A) W H1 (ofD d f) Q) λd v H1 _ s1 r1 p1=>⟨d,r1,p1⟩⟩) λu s1 ⟨v,H1,I1,rv,d,rp,p1⟩=>?_)
 cases d with
 |obj c fs=>
  have p2:AV (λH2=>Rep X.K CL H2 A) W H1 (match fs.lookup f with|some d=>.ok d|none=>.bad) Q:=p1
  cases el:fs.lookup f with
  |none=>rw[el]at p2;exact p2.elim
  |some d=>
   rw[el]at p2;obtain⟨e,C,dx,vs,rfl,_,hc,hH,rf⟩:=Nb rp;obtain⟨y,l,ry⟩:=OU rf el;cases rv;obtain⟨k1,k2⟩:=ho c C hc;exact bQ I1 hH k1 k2 l λu s' I2 ru=>⟨y,H1,I2,ru,p2 y H1 (Ay.refl H1) ry⟩
 |_=>exact p1.elim
theorem pX(hoc:∀ c C,OC X.K c=Aa C->OCls X.K C)(hg:Gl X "isinstance")(hm:X.mg "isinstance" = Ae)(hg2:Gl X x)(hm2:X.mg x=Aa (.ref C'))(hkit:∀ c C,OC X.K c=Aa C->B9 X.K (.ref C) (.ref C')=Aa ((oup c).contains k))(hdb:(x==("__debug__" : Ag))=Ad)(ha:ST X CL W a fa)(he:Aq [a,.Name x p2] X.env=(Ad,eval a X.env)::Aq [.Name x p2] X.env):SE X CL W (.Call (.Name "isinstance" p) [a,.Name x p2] [] pos) (λU=>(fa U).bind λx=>QR k x):=λA=>
 PE.weak (Kq (r:=λxs H Q=>∃ a C dx vs c,xs=[.ref a,.ref C']/\OC X.K c=Aa C/\H a=Aa (.ins C dx vs)/\Q (.bl ((oup c).contains k)) H) (λpI s Y H xs us Q I r ⟨b,C,dx,vs,c,e,hc,hH,q⟩=>by
   subst e;obtain⟨u,w',rfl,r1,r2⟩:=Lr r;cases r2;have o:=hoc c C hc;exact cL I r1 (.ins hH o.cl o.ha o.hn o.htk o.hm) (hkit c C hc) λtk=>⟨.bl _,H,I.tok tk,rfl,q⟩)
  hg hm Fn (DJ (ha A) (DJ (PD (v:=.ref C') hg2 hm2 rfl hdb) ET rfl) he) (by decide) (by decide) he rfl) λY H Q ⟨hA,U,g,q⟩=>⟨hA,U,g,AV.bind q λd v H1 _ s1 r1 p1=>by
   cases d with
   |obj c fs=>
    obtain⟨b,C,dx,vs,rfl,_,hc,hH,_⟩:=Nb r1;exact⟨b,C,dx,vs,c,rfl,hc,hH,p1 _ H1 (Ay.refl H1) rfl⟩
   | _=>exact p1.elim⟩
theorem kK{m:Ag}{F:Af->Ac D->R D}(hr:Room k X.A)(hx:∀ A,IA (CXR X.prog X.w) X (EKW X.K CL A W))(ha:ST X CL W a fa)(hms:∀ c id C,ms.lookup c=Aa id->OC X.K c=Aa C->∃ f fd ps fr,Cls X.K C/\Meth X.K C m f/\DS X.K fd ps []/\FnOk X.prog X.w X.K X.mg X.base (CXR X.prog X.w) k f fd ps (spD X.K CL 1 fr (F id)))(hbase:BO a m X.env (eval a X.env)=eval a X.env)(hline:(apos.endLine==pos.line)=Ab):SE X CL W (.Call (.Attribute a m apos) [] [] pos) (λU=>(fa U).bind λx=>NE F m ms x):=λA=>by
 intro pI s Y H Q I ⟨hA,U,gd,q⟩;rw[Jz,hbase];refine An (thn (ha A pI s Y H (λv H1=>Ay H H1/\∃ d,Cw X.K CL H1 A v d/\AV (λH2=>Rep X.K CL H2 A) W H1 (NE F m ms d) Q) I ⟨hA,U,gd,AV.bind q λd v H1 _ s1 r1 p1=>⟨s1,d,r1,p1⟩⟩) λu s1 ⟨v,H1,I1,rv,s1',d,rp,p1⟩=>?_)
 refine An (DZ ?_);have hform:IK (([]:Ac Am).length+([]:Ac C4).length) (Bo pos (Aq [] X.env)) (FA pos (Ec [] X.env))=Ab:=rfl;have hpos:Fb Ab a X.env apos pos=pure pos:=by
  unfold Fb;simp[hline]
 unfold KY;rw[hform];cases d with
 |obj c fs=>
  have p2:AV (λH2=>Rep X.K CL H2 A) W H1 (match ms.lookup c with|some id=>if (fs.lookup m).isNone=Ab then F id [.obj c fs] else .bad|none=>.bad) Q:=p1
  cases el:ms.lookup c with
  |none=>rw[el]at p2;exact p2.elim
  |some id=>
   rw[el]at p2;dsimp only at p2;split at p2
   .rename_i hn;obtain⟨e,C,dx,vs,rfl,na,hc,hH,rf⟩:=Nb rp;obtain⟨f,fd,ps,fr,cl,me,hb,G⟩:=hms c id C el hc;cases rv;refine An (Dz (RB I1 hH cl me (OF rf (Dj.mp hn)) ?_));refine An (G9 hpos ?_);refine PySem.W.callWith_K0 (first:=[.ref e]) I1.kIn me.kp (UM (us:=[.ref e]) (vs:=[.ref e]) G hr hb .nil (hx A) I1 (.cons rfl .nil) ?_)
    refine⟨[.obj c fs],A,rfl,hA.same s1',⟨⟨e,C,dx,vs,rfl,na,hc,hH,rf⟩,trivial⟩,?_⟩;cases e2:F id [.obj c fs] with
    |ok d=>rw[e2]at p2;exact λv H2 s2 r2=>p2 v H2 s2 r2.1
    |exn y=>rw[e2]at p2;exact λcls dx H2 s2 xr=>⟨y,xr,p2 H2 s2⟩
    |bad=>rw[e2]at p2;exact p2.elim
   .exact p2.elim
 |_=>exact p1.elim
def spI(K:Fg)(CL:ClA)(G:Ac D->R D):Sp:=λvs H Q E=>∃(x C dx:Ak)(us:Ac V)(ds:Ac D)(A:Ak->Prop)(H0:Hp),vs=.ref x::us/\us.length=2/\Cls K C/\Hi K C "p"/\Hi K C "triple"/\H x=Aa (.ins C dx [])/\H0 x=Ae/\Ay H0 H/\AOk H0 A/\Reps K CL H0 A us ds/\(match G ds with
  |.ok d=>∀ d1 d2,d=.tup [d1,d2]->∀ v1 v2 H',Ay H0 H'->H' x=Aa (.ins C dx [("p",v1),("triple",v2)])->Rep K CL H' A v1 d1->Rep K CL H' A v2 d2->Q .non H'
  |.exn y=>∀ cls dy H',Ay H0 H'->EH K CL H' cls dy y->E cls dy H'
  | .bad=>AX)
theorem T9{Q:VK}(p:AV Rp W H (DA c d) Q):∃ d1 d2,d=.tup [d1,d2]/\DA c d=.ok (.obj c [("p",d1),("triple",d2)]):=by
  cases d with
  |tup ds=>
    match ds,p with
    |[],p=>exact p.elim
    |[_],p=>exact p.elim
    |_::_::_::_,p=>exact p.elim
    |[a,b],p=>
      refine⟨a,b,rfl,?_⟩;have p2:AV Rp W H (if nlD 5 b=Ab then .ok (.obj c [("p",a),("triple",b)]) else .bad) Q:=p
      show (if nlD 5 b=Ab then R.ok (D.obj c [("p",a),("triple",b)]) else .bad)=_
      split at p2
      · rename_i z;rw[As z]
      · exact p2.elim
  |_=>exact p.elim
theorem kL{C f:Ak}{np pos:AF}{e:Am}{es:Ac Am}{G:Ac D->R D}(M:Mk X.K C f)(hoc:OC X.K c=Aa C)(o:OCls X.K C)(FI:FnOk X.prog X.w X.K X.mg X.base (CXR X.prog X.w) k f fd ["self", "p", "numbers"] (spI X.K CL G))(hr:Room (k+1) X.A)(hb:DS X.K fd ["self", "p", "numbers"] [])(hx:∀ A,IA (CXR X.prog X.w) X (EKW X.K CL A W))(hF:∀ ds,ds.length=2->F ds=.bad\/F ds=(G ds).bind (DA c))(hg:Gl X g)(hm:X.mg g=Aa (.ref C))(hdb:(g==("__debug__" : Ag))=Ad)(ha:SA X CL W (e::es) fs)(hn:∀ U ds,fs U=.ok ds->ds.length=2)(he:Aq (e::es) X.env=(Ad,eval e X.env)::Aq es X.env)(hpl:(Bo pos (Aq es X.env)).any (·.1)=Ad):SE X CL W (.Call (.Name g np) (e::es) [] pos) (λU=>(fs U).bind λds=>F ds):=λA=>by
 intro pI s Y H Q I ⟨hA,U,gd,p⟩;dsimp only at p;refine Cy (Hh I hg hm ?_ hdb);have q1:=ha A pos pI s Y H (λvs H1=>∃ ds,Ay H H1/\ds.length=2/\Reps X.K CL H1 A vs ds/\AV (λH=>Rep X.K CL H A) W H (F ds) Q) I ⟨hA,U,gd,by
  cases e1:fs U with
  |bad=>rw[e1]at p;exact p
  |exn y=>rw[e1]at p;exact p
  | ok ds=>rw[e1]at p;exact λvs H1 s1 r1=>⟨ds,s1,hn U ds e1,r1,p⟩⟩
 refine CI (h₀:=X.base) I.ok.mod.kin M.kp (thn q1 λus s1 ⟨vs,H1,I1,r,ds,sm,hl,rps,q⟩=>⟨I1.kIn,?_⟩) he hpl
 rcases hF ds hl with z|z
 .rw[z]at q;exact q.elim
 .rw[z]at q;cases e2:G ds with
  |bad=>rw[e2]at q;exact q.elim
  |exn y=>
   rw[e2]at q;have q':∀ H',Ay H H'->W y H':=q;refine Tr (Q:=Q) (E:=EKW X.K CL A W) M FI hr hb .nil (hx A) I1 r λx dx nx ndx ne=>?_
   refine⟨x,C,dx,vs,ds,A,H1,by rw[Bg],by rw[rps.length];exact hl,o.cl,o.np,o.nt,Db,nx,λb ob h=>?_,hA.same sm,rps,?_⟩
   .have n1:b≠x:=λz=>by rw[z,nx]at h;cases h
    have n2:b≠dx:=λz=>by rw[z,ndx]at h;cases h
    rw[Bb n1,Bb n2];exact h
   .rw[e2];exact λcls dy H' sm2 xr=>⟨y,xr,q' H' (sm.trans sm2)⟩
  |ok d=>
   rw[e2]at q;have q':AV (λH=>Rep X.K CL H A) W H (DA c d) Q:=q
   obtain⟨d1,d2,rfl,em⟩:=T9 q';rw[em]at q';refine Tr (Q:=Q) (E:=EKW X.K CL A W) M FI hr hb .nil (hx A) I1 r λx dx nx ndx ne=>?_
   refine⟨x,C,dx,vs,ds,A,H1,by rw[Bg],by rw[rps.length];exact hl,o.cl,o.np,o.nt,Db,nx,λb ob h=>?_,hA.same sm,rps,?_⟩
   .have n1:b≠x:=λz=>by rw[z,nx]at h;cases h
    have n2:b≠dx:=λz=>by rw[z,ndx]at h;cases h
    rw[Bb n1,Bb n2];exact h
   .rw[e2];exact λe1 e3 ee v1 v2 H' sm2 hx' r1 r2=>by
     cases ee;exact⟨rfl,q' _ H' (sm.trans sm2) ⟨x,C,dx,_,rfl,(hA.same sm).new nx,hoc,hx',⟨⟨rfl,r1⟩,⟨rfl,r2⟩,trivial⟩⟩⟩
theorem eJ{np pos:AF}{e:Am}{es:Ac Am}(kp:Bm X.K (.ref C)=Ab)(hF:∀ ds,F ds=.bad)(hg:Gl X g)(hm:X.mg g=Aa (.ref C))(hdb:(g==("__debug__" : Ag))=Ad)(ha:SA X CL W (e::es) fs)(he:Aq (e::es) X.env=(Ad,eval e X.env)::Aq es X.env)(hpl:(Bo pos (Aq es X.env)).any (·.1)=Ad):SE X CL W (.Call (.Name g np) (e::es) [] pos) (λU=>(fs U).bind λds=>F ds):=λA=>by
 intro pI s Y H Q I ⟨hA,U,gd,p⟩;dsimp only at p;refine Cy (Hh I hg hm ?_ hdb);have q1:=ha A pos pI s Y H (λvs H1=>AX) I ⟨hA,U,gd,by
  cases e1:fs U with
  |bad=>rw[e1]at p;exact p
  |exn y=>rw[e1]at p;exact p
  | ok ds=>rw[e1,R.bind_ok,hF ds]at p;exact p.elim⟩
 exact CI (h₀:=X.base) I.ok.mod.kin kp (thn q1 λus s1 ⟨vs,H1,I1,r,z⟩=>z.elim) he hpl
theorem cP{p0 p4 p5 p6:AF}{id:Af}{t0:Cx}{H0:Hp}{x dx:Ak}{v1 v2:V}{Q:VK}(pself:∀ p,PE X (.Name "self" p) (Ej 0))(pp:∀ p,PE X (.Name "p" p) (Ej 1))(hv:SE X CL W ev (λU=>evE Z U (.call id (.cons (.var 1) (.cons (.var 2) .nil)))))(hs:Cn ev (Aa (.Attribute (.Name "self" p3) "triple" p4)) p5.line X.env=pure Ad):
    ∃ t,PSs X [.Assign [.Attribute (.Name "self" p0) "p" p1] (.Name "p" p2) p6,.Assign [.Attribute (.Name "self" p3) "triple" p4] ev p5] t /\
      (Y=[Aa (.ref x),Aa v1,Aa v2]->Cls X.K C->Hi X.K C "p"->Hi X.K C "triple"->H x=Aa (.ins C dx [])->H0 x=Ae->Ay H0 H->AOk H0 A->Rep X.K CL H0 A v1 d1->Rep X.K CL H0 A v2 d2 ->
        ((∃ t,Z.F id [d1,d2]=.ok t/\nlD 5 t=Ab/\∀ w1 w2 H',Ay H0 H'->H' x=Aa (.ins C dx [("p",w1),("triple",w2)])->Rep X.K CL H' A w1 d1->Rep X.K CL H' A w2 t->Q .non H')\/∃ y,Z.F id [d1,d2]=.exn y/\∀ H',Ay H0 H'->W y H')->t {nx:=λ_ H'=>Q .non H',rt:=Q} Y H):=by
  have all:=JP (UQ (X:=X) (f := "p") (pos:=p6) (pos':=p1) (pself p0) (pp p2) rfl) (Ja (UQ (X:=X) (f := "triple") (pos:=p5) (pos':=p4) (pself p3) (hv A) hs));refine⟨_,all,?_⟩;rintro rfl cl np nt hx h0 sm hA r1 r2 hq;have nx:∀ b o,H0 b=Aa o->b≠x:=λb o e z=>by rw[z,h0]at e;cases e
  have sm2:Ay H0 (upd H x (.ins C dx (Fj "p" v1 []))):=λb o e=>by rw[Bb (nx b o e)];exact sm b o e
  refine⟨v1,rfl,.ref x,rfl,x,C,dx,[],rfl,hx,cl,np,by decide,hA.same sm2,[Ae,Aa (d1,Ad),Aa (d2,Ad)],⟨λi d h=>?_,λi d h=>?_,rfl⟩,?_⟩
  · match i,h with
    |0,h=>cases h
    |1,h=>cases h;exact⟨v1,rfl,Rep.same sm2 r1⟩
    |2,h=>cases h;exact⟨v2,rfl,Rep.same sm2 r2⟩
    |n+3,h=>cases h
  · match i,h with
    |0,h=>cases h
    |1,h=>cases h
    |2,h=>cases h
    |n+3,h=>cases h
  · rcases hq with ⟨t,ef,hnl,q⟩|⟨y,ef,q⟩
    rotate_left
    · have ee:evE Z [Ae,Aa (d1,Ad),Aa (d2,Ad)] (.call id (.cons (.var 1) (.cons (.var 2) .nil)))=.exn y:=by
        show ((Z.F id [d1,d2]).bind λd=>.ok d)=_
        rw[ef];rfl
      dsimp only;rw[ee];exact λH3 s3=>q H3 (λb o e=>s3 _ _ (sm2 b o e))
    have ee:evE Z [Ae,Aa (d1,Ad),Aa (d2,Ad)] (.call id (.cons (.var 1) (.cons (.var 2) .nil)))=.ok t:=by
      show ((Z.F id [d1,d2]).bind λd=>.ok d)=_
      rw[ef];rfl
    dsimp only;rw[ee];intro w2 H3 s3 r3;have hx3:H3 x=Aa (.ins C dx [("p",v1)]):=s3 _ _ Db;refine⟨.ref x,rfl,x,C,dx,[("p",v1)],rfl,hx3,cl,nt,show 1<1000 by decide,?_⟩
    have sm4:Ay H0 (upd H3 x (.ins C dx (Fj "triple" w2 [("p",v1)]))):=λb o e=>by rw[Bb (nx b o e)];exact s3 _ _ (sm2 b o e)
    exact q v1 w2 _ sm4 Db (Rep.same sm4 r1) (U_1 hx3 5 t hnl r3)
end
theorem P8{i:Af}(h:G5 U i=Ab):U[i]?=Aa (Aa (.non,Ab)):=by
 unfold G5 at h;split at h
 .rename_i e;exact e
 .cases h
theorem Iu{i:Af}(hi:U[i]?=Aa (Aa (d,Ab)))(j:Af)(e:D):(U.set i (Aa (d',Ab)))[j]?=Aa (Aa (e,Ab))↔(i=j/\e=d')\/(i≠j/\U[j]?=Aa (Aa (e,Ab))):=by
 have hil:=(A2.mp hi).1;by_cases hj:i=j
 .subst hj;rw[BV hil];simp;exact⟨λz=>z.symm,λz=>z.symm⟩
 .rw[BA hj];simp[hj]
theorem Je{i:Af}(hi:U[i]?=Aa (Aa (d,Ab)))(b:Ak):Bf B (U.set i (Aa (d',Ab))) Y b↔Bf B U Y b:=by
 constructor
 .rintro (h|⟨j,e,h1,h2⟩)
  .exact .inl h
  .rcases (Iu hi j e).mp h1 with ⟨rfl,_⟩|⟨_,h1⟩
   .exact .inr ⟨i,d,hi,h2⟩
   .exact .inr ⟨j,e,h1,h2⟩
 .rintro (h|⟨j,e,h1,h2⟩)
  .exact .inl h
  .by_cases hj:i=j
   .subst hj;exact .inr ⟨i,d',(Iu hi i _).mpr (.inl ⟨rfl,rfl⟩),h2⟩
   .exact .inr ⟨j,e,(Iu hi j e).mpr (.inr ⟨hj,h1⟩),h2⟩
section
variable{K:Fg}{CL:ClA}{Fz Fy:Fr}{B:Ak->Prop}{U:Rho}{Y:L2.St}{H:Hp}{W:XW}
theorem Sx.dis2(x:Sx K CL Fz B U Y H){i:Af}(hi:U[i]?=Aa (Aa (d,Ab)))(j k:Af)(e f:D)(b:Ak)(g1:(U.set i (Aa (d',Ab)))[j]?=Aa (Aa (e,Ab)))(g2:(U.set i (Aa (d',Ab)))[k]?=Aa (Aa (f,Ab)))(g3:Y[j]?=Aa (Aa (.ref b)))(g4:Y[k]?=Aa (Aa (.ref b))):j=k:=by
 rcases (Iu hi j e).mp g1 with ⟨rfl,_⟩|⟨hj,h'⟩
 .rcases (Iu hi k f).mp g2 with ⟨rfl,_⟩|⟨hk,h''⟩
  .rfl
  .exact x.dis i k d f b hi h'' g3 g4
 .rcases (Iu hi k f).mp g2 with ⟨rfl,_⟩|⟨hk,h''⟩
  .exact x.dis j i e d b h' hi g3 g4
  .exact x.dis j k e f b h' h'' g3 g4
theorem Sx.new2(x:Sx K CL Fz B U Y H){i:Af}(hi:U[i]?=Aa (Aa (d,Ab)))(j:Af)(e:D)(b:Ak)(g1:(U.set i (Aa (d',Ab)))[j]?=Aa (Aa (e,Ab)))(g2:Y[j]?=Aa (Aa (.ref b))):((∀ o,¬ Fz b o)/\¬ B b)/\∃(j:Af)(d:D),U[j]?=Aa (Aa (d,Ab))/\Y[j]?=Aa (Aa (.ref b)):=by
 rcases (Iu hi j e).mp g1 with ⟨rfl,_⟩|⟨_,h'⟩
 .exact⟨x.new i d b hi g2,i,d,hi,g2⟩
 .exact⟨x.new j e b h' g2,j,e,h',g2⟩
theorem Sx.sh2(x:Sx K CL Fz B U Y H){i:Af}(hi:U[i]?=Aa (Aa (d,Ab)))(j:Af)(e:D)(h:(U.set i (Aa (d',Ab)))[j]?=Aa (Aa (e,Ad))):∃ v,Y[j]?=Aa (Aa v)/\Rep K CL H (Bf B (U.set i (Aa (d',Ab))) Y) v e:=by
 have hj:i≠j:=by
  rintro rfl;have:=Ff h;cases this
 rw[BA hj]at h;obtain⟨v,q,r⟩:=x.good.sh j e h;exact⟨v,q,Rep.sub (λb hb=>(Je hi b).mp hb) _ r⟩
theorem Sx.pinned(x:Sx K CL Fz B U Y H){i:Af}{ds:Ac D}{a:Ak}{xs:Ac V}(hi:U[i]?=Aa (Aa (.lst ds,Ab)))(ha:Y[i]?=Aa (Aa (.ref a)))(hh:H a=Aa (.lst xs)):Sx K CL ⟨λb o=>H b=Aa o/\¬ ∃(j:Af)(d:D),U[j]?=Aa (Aa (d,Ab))/\Y[j]?=Aa (Aa (.ref b)),λj b ys=>(j=i/\b=a/\ys=xs)\/(j≠i/\Fz.pin j b ys)⟩ B (U.set i (Aa (.non,Ab))) Y H:=by
 refine⟨⟨x.sh2 hi,λj e h hn=>?_,by rw[AR];exact x.len⟩,λb h=>x.aok b ((Je hi b).mp h),λj e b g1 g2=>⟨λo z=>z.2 (x.new2 hi j e b g1 g2).2,(x.new2 hi j e b g1 g2).1.2⟩,x.dis2 hi,λb o z=>z.1,by rw[AR];exact x.len,λj h=>?_⟩
 .rcases (Iu hi j e).mp h with ⟨_,rfl⟩|⟨hj,h'⟩
  .exact absurd rfl hn
  .obtain⟨b,ys,es,q,z,hb,h2,rr⟩:=x.good.ow j e h' hn;exact⟨b,ys,es,q,z,(Je hi b).mpr hb,h2,Reps.sub (λb hb=>(Je hi b).mp hb) _ rr⟩
 .by_cases hj:i=j
  .exact⟨a,xs,.inl ⟨hj.symm,rfl,rfl⟩,hj ▸ ha,hh⟩
  .rw[BA hj]at h;obtain⟨b,ys,p1,p2⟩:=x.pin j h;exact⟨b,ys,.inr ⟨B4 hj,p1⟩,p2⟩
theorem Sx.unpinned(x:Sx K CL Fy B U Y H){i:Af}{ds:Ac D}{a:Ak}{xs:Ac V}(hi:U[i]?=Aa (Aa (.non,Ab)))(hf:∀ b o,Fz b o->Fy b o)(hpn:∀ j b ys,Fy.pin j b ys->(j=i/\b=a/\ys=xs)\/(j≠i/\Fz.pin j b ys))(r:Reps K CL H (Bf B U Y) xs ds):Sx K CL Fz B (U.set i (Aa (.lst ds,Ab))) Y H:=by
 refine⟨⟨x.sh2 hi,λj e h hn=>?_,by rw[AR];exact x.len⟩,λb h=>x.aok b ((Je hi b).mp h),λj e b g1 g2=>⟨λo z=>(x.new2 hi j e b g1 g2).1.1 o (hf b o z),(x.new2 hi j e b g1 g2).1.2⟩,x.dis2 hi,λb o z=>x.same b o (hf b o z),by rw[AR];exact x.len,λj h=>?_⟩
 .rcases (Iu hi j e).mp h with ⟨rfl,rfl⟩|⟨hj,h'⟩
  .obtain⟨b,ys,p1,p2,p3⟩:=x.pin i hi;rcases hpn i b ys p1 with ⟨_,rfl,rfl⟩|⟨z,_⟩
   .exact⟨b,ys,ds,p2,rfl,(Je hi b).mpr (.inr ⟨i,.non,hi,p2⟩),p3,Reps.sub (λb hb=>(Je hi b).mp hb) _ r⟩
   .exact absurd rfl z
  .obtain⟨b,ys,es,q,z,hb,h2,rr⟩:=x.good.ow j e h' hn;exact⟨b,ys,es,q,z,(Je hi b).mpr hb,h2,Reps.sub (λb hb=>(Je hi b).mp hb) _ rr⟩
 .rcases (Iu hi j _).mp h with ⟨_,z⟩|⟨hj,h'⟩
  .cases z
  .obtain⟨b,ys,p1,p2⟩:=x.pin j h';rcases hpn j b ys p1 with ⟨z,_⟩|⟨_,z⟩
   .exact absurd z.symm hj
   .exact⟨b,ys,z,p2⟩
theorem Bv.turnO{i:Af}{ds:Ac D}{o:O}{g:Rho->O}{N:L2.St->Hp->Prop}(hf:∀ b q,Fz b q->Fy b q)(hu:∀ U' Y' H',Sx K CL Fy B U' Y' H'->G5 U' i=Ab->Sx K CL Fz B (U'.set i (Aa (.lst ds,Ab))) Y' H')(h:Bv K CL Fz B W (KD i ds (o.turn g)) D')(k:∀ U' Y' H',Sx K CL Fy B U' Y' H'->Bv K CL Fz B W (KD i ds (g U')) D'->N Y' H'):Bv K CL Fy B W o {D' with nx:=N,ct:=N,bk:=D'.nx}:=by
 cases o with
 |next U'=>exact λY' H' x=>k U' Y' H' x h
 |cont U'=>exact λY' H' x=>k U' Y' H' x h
 |brk U'=>
  have h':Bv K CL Fz B W (if G5 U' i=Ab then .next (U'.set i (Aa (.lst ds,Ab))) else .bad) D':=h
  by_cases hp:G5 U' i=Ab
  .rw[As hp]at h';exact λY' H' x=>h' Y' H' (hu U' Y' H' x hp)
  .rw[AB hp]at h';exact h'.elim
 |ret d b=>exact λv H' s r n=>h v H' (λb o z=>s b o (hf b o z)) r λz ds e=>let ⟨a,xs,h1,h2,h3⟩:=n z ds e;⟨a,xs,h1,λo q=>h2 o (hf a o q),h3⟩
 |exn y U'=>exact h.elim
 |bad=>exact h
end
section
variable{X:Cx}{CL:ClA}{W:XW}
theorem gW{i:Af}{es:Ac Am}{n:Af}{tpos:AF}{a:Am}{fbd:Rho->O}{as:D->Rho->R Rho}{g:TG}(hp:DP (model X.prog X.w) X.A X.env X.xe)(hc:X.calm=Ab)(hGT:GT X.K CL as g)(hg:PG X (.Tuple es n tpos) g)(ha:PE X a (Ej i))(hgl:Gl X "enumerate")(hm:X.mg "enumerate" = Ae)(hst:Aq [a] X.env=[(Ad,eval a X.env)])(hb:SSs X CL W body fbd)(hs:∀ x,BQ (.Call (.Name "enumerate" p1) [a] [] cpos) X.env x=pure x)(hax:∀ d U x,as d U≠.exn x):
  SS X CL W (.For (.Tuple es n tpos) (.Call (.Name "enumerate" p1) [a] [] cpos) body [] pos) (λU=>O.of U (Ck U i) λxs=>KD i xs (BH (λx U'=>if G5 U' i=Ab then O.of U' (as x U') fbd else .bad) (D4 0 xs) (U.set i (Aa (.non,Ab))))):=λFz B pI s Y H D I ⟨U,x,p⟩=>by
 dsimp only at p;cases e:Ck U i with
 |bad=>rw[e]at p;exact p.elim
 |exn y=>exact(M2 e).elim
 |ok ds=>
  rw[e,O.of_ok]at p;have hi:=Nc e;obtain⟨a',xs,ds',qa,e2,oa,hh,r⟩:=x.good.ow i _ hi (λz=>nomatch z)
  have ez:ds=ds':=by injection e2
  subst ez;refine P5 hp hc (jQ hgl hm (DJ ha ET hst) hst) hg (tb:=λD Y H=>∃ Fy,(λD Y H=>∃ U,Sx X.K CL Fy B U Y H/\Bv X.K CL Fy B W (fbd U) D) D Y H) (λpI s Y H D I ⟨Fy,q⟩=>hb Fy B pI s Y H D I q) hs pI s Y H D I ?_
  refine⟨.ref a',qa,Ad,a',xs,rfl,SqL.of hh,λhz=>?_⟩
  generalize hbd:(fun(x:Ov.D)(U':Rho)=>if G5 U' i=Ab then O.of U' (as x U') fbd else .bad)=bd at p
  let Fy:Fr:=⟨λb o=>H b=Aa o/\¬ ∃(j:Af)(d:Ov.D),U[j]?=Aa (Aa (d,Ab))/\Y[j]?=Aa (Aa (.ref b)),λj b ys=>(j=i/\b=a'/\ys=xs)\/(j≠i/\Fz.pin j b ys)⟩
  have hfy:∀ b o,Fz b o->Fy b o:=λb o z=>⟨x.same b o z,λ⟨j,d,h1,h2⟩=>(x.new j d b h1 h2).1 o z⟩
  have xy:Sx X.K CL Fy B (U.set i (Aa (.non,Ab))) Y H:=x.pinned hi qa hh;have wd:∀{U':Rho}{Y':L2.St}{H':Hp},Sx X.K CL Fy B U' Y' H'->∀ b,Bf B U' Y' b->Bf B U Y b\/H b=Ae:=λ{U' Y' H'} x' b hb'=>by
   rcases hb' with h|⟨j,d,h1,h2⟩
   .exact .inl (.inl h)
   .cases e:H b with
    |none=>exact .inr rfl
    |some o=>
     by_cases ho:∃(j:Af)(d:Ov.D),U[j]?=Aa (Aa (d,Ab))/\Y[j]?=Aa (Aa (.ref b))
     .exact .inl (.inr ho)
     .exact absurd ⟨e,ho⟩ ((x'.new j d b h1 h2).1 o)
  have kpx:∀{U':Rho}{Y':L2.St}{H':Hp},Sx X.K CL Fy B U' Y' H'->Kp (Bf B U Y) H H':=λ{U' Y' H'} x' b o e na=>x'.same b o ⟨e,λz=>na (.inr z)⟩
  have later:∀{U':Rho}{Y':L2.St}{H':Hp},Sx X.K CL Fy B U' Y' H'->Reps X.K CL H' (Bf B U' Y') xs ds:=λ{U' Y' H'} x'=>by
   have r1:Reps X.K CL H (λb=>Bf B U Y b\/Bf B U' Y' b) xs ds:=Reps.wide (λb hb'=>hb'.elim .inl (wd x' b)) _ r
   have r2:Reps X.K CL H' (λb=>Bf B U Y b\/Bf B U' Y' b) xs ds:=Reps.kp (λb o e na=>kpx x' b o e λz=>na (.inl z)) _ r1
   exact Reps.sub (λb hb'=>.inr hb') _ r2
  have hu:∀ U' Y' H',Sx X.K CL Fy B U' Y' H'->G5 U' i=Ab->Sx X.K CL Fz B (U'.set i (Aa (.lst ds,Ab))) Y' H':=λU' Y' H' x' hp'=>x'.unpinned (P8 hp') hfy (λj b ys z=>z) (later x')
  refine⟨λk m Y' H'=>m=ds.length-k/\k<=ds.length/\∃ U',Sx X.K CL Fy B U' Y' H'/\Bv X.K CL Fz B W (KD i ds (BH bd ((D4 0 ds).drop k) U')) D,⟨ds.length,by simp,Cv _,_,xy,p⟩,?_⟩
  rintro k m Y' H' ⟨rfl,hk,U',x',q'⟩;have hle:(D4 0 ds).length=ds.length:=Te _ _;by_cases hlt:k<ds.length
  .have hlt':k<(D4 0 ds).length:=by rw[hle];exact hlt
   rw[BR hlt']at q';have q2:Bv X.K CL Fz B W (KD i ds ((bd (D4 0 ds)[k] U').turn (BH bd ((D4 0 ds).drop (k+1))))) D:=q';have hd:(D4 0 ds)[k]?=Aa (D4 0 ds)[k]:=AE hlt';obtain⟨y,hy,ed⟩:=Tf _ _ _ _ hd;by_cases hpin:G5 U' i=Ab
   .have hpin':=P8 hpin;obtain⟨b,ys,p1',p2',p3'⟩:=x'.pin i hpin';have hab:b=a'/\ys=xs:=by
     rcases p1' with ⟨_,h1,h2⟩|⟨z,_⟩
     .exact⟨h1,h2⟩
     .exact absurd rfl z
    obtain⟨rfl,rfl⟩:=hab;have sq:SqX Ad X.K H' b ys:=SqL.of p3';obtain⟨u,hu1,ru⟩:=(later x').get hy;refine .inr ⟨⟨ys,u,sq,hu1⟩,λY'' H''=>∃ U'',Sx X.K CL Fy B U'' Y'' H''/\Bv X.K CL Fz B W (KD i ds (BH bd ((D4 0 ds).drop (k+1)) U'')) D,λY'' H'' z=>⟨ds.length-(k+1),by omega,rfl,hlt,z⟩,?_⟩
    rintro w' H2 ⟨pp,x2,hpp,rfl,c1,rfl⟩;have ex:x2=u:=Be ((c1 ys sq).symm.trans hu1);subst ex;have sm:Ay H' (L2.upd H' pp (.tup [.int k,x2])):=En hpp _;have rv:Rep X.K CL (L2.upd H' pp (.tup [.int k,x2])) (Bf B U' Y') (.ref pp) (D4 0 ds)[k]:=by
     rw[ed,EL];exact Lh x'.aok hpp ⟨rfl,ru,trivial⟩
    have eb:bd (D4 0 ds)[k] U'=O.of U' (as (D4 0 ds)[k] U') fbd:=by rw[<-hbd];exact As hpin
    rw[eb]at q2;cases ea:as (D4 0 ds)[k] U' with
    |bad=>rw[ea]at q2;exact q2.elim
    |exn z=>exact absurd ea (hax _ _ z)
    |ok U2=>
     rw[ea,O.of_ok]at q2;exact hGT Fy B U' Y' _ _ _ U2 _ (x'.grow sm) rv ea λY3 x3=>⟨Fy,U2,x3,Bv.turnO hfy hu q2 λU3 Y3 H3 x3 q3=>⟨U3,x3,q3⟩⟩
   .have eb:bd (D4 0 ds)[k] U'=.bad:=by rw[<-hbd];exact AB hpin
    rw[eb]at q2;exact q2.elim
  .have hk':(D4 0 ds).length<=k:=by omega
   rw[EA hk']at q';have q2:Bv X.K CL Fz B W (if G5 U' i=Ab then .next (U'.set i (Aa (.lst ds,Ab))) else .bad) D:=q'
   by_cases hpin:G5 U' i=Ab
   .rw[As hpin]at q2;obtain⟨b,ys,p1',p2',p3'⟩:=x'.pin i (P8 hpin);have hab:b=a'/\ys=xs:=by
     rcases p1' with ⟨_,h1,h2⟩|⟨z,_⟩
     .exact⟨h1,h2⟩
     .exact absurd rfl z
    obtain⟨rfl,rfl⟩:=hab;exact .inl ⟨⟨ys,SqL.of p3',by rw[(later x').length];omega⟩,q2 Y' H' (hu U' Y' H' x' hpin)⟩
   .rw[AB hpin]at q2;exact q2.elim
end
theorem Un.shiftX{fs0 fs ex xs:Ac Ak}{h0:AC}(u:Un fs0 xs H H' h0 h)(sh:Shift ex fs h h')(h1:∀ b∈ex,h0.get? b=Ae)(h2:∀ b∈fs,b∈fs0\/h0.get? b=Ae):Un fs0 xs H H' h0 h' where
 keep:=λb o q n hb hx=>sh.keep b o (u.keep b o q n hb hx) (λz=>by rw[h1 b z]at q;cases q) λz=>(h2 b z).elim hb λe=>by rw[e]at q;cases q
 slot:=λb o q n hb hx=>by
  obtain⟨sl,e1⟩:=u.slot b o q n hb hx;by_cases hf:b∈fs
  .obtain⟨sl',e2⟩:=sh.slot b _ e1 hf;exact⟨sl',e2⟩
  .exact⟨sl,sh.keep b _ e1 (λz=>by rw[h1 b z]at q;cases q) hf⟩
 free:=u.free
 there:=λb o q hx=>by
  obtain⟨o',e1⟩:=u.there b o q hx;by_cases hf:b∈fs
  .obtain⟨sl',e2⟩:=sh.slot b _ e1 hf;exact⟨_,e2⟩
  .exact⟨o',sh.keep b _ e1 (λz=>by rw[h1 b z]at q;cases q) hf⟩
 tups:=u.tups
 frzs:=u.frzs
 tbls:=u.tbls
section
variable{M:GC}{A:AW}{E:Vq}{s:Ap}{env:Cj}{outer:Ac Cj}{L e T:Ak}{cls:Aj}{dx:Ao Ak}{base:AC}
theorem bZ(hfr:A.frames=Aa (env::outer))(hf:env.frame=Aa L)(ff:s.heap.FunFrames base (env::outer))(fl:H9 e T cls dx fv s.heap)(hQ:∀ h' T' fl',H9 e T' cls dx fl' h'->Shift [e,T] (frs (env::outer)) s.heap h'->(T'=T\/s.heap.get? T'=Ae)->Q () {s with heap:=h'}):At M A (Ed (.ref e) env) Q E s:=by
 obtain⟨oe,vs,oT,ts,a0,he,hc,hx,h0,dt,h1,ne,hT,dT,h3⟩:=id fl;have z3:=Im h3;unfold Ed;simp only[hf];refine An (Bt he dt h1 ?_);rw[As (by simp:(Bc T != Bh)=Ab)]
 refine An (Bt hT dT h3 ?_);by_cases hz:(fv==DD L)=Ab
 .rw[As hz];exact AH (hQ s.heap T fv fl ⟨λb o q _ _=>q,λb o q _=>⟨o.slots,q⟩⟩ (.inl rfl))
 rw[AB hz];refine An (Ee hT dT z3 ?_);have up:∀ b,b≠T->(s.heap.update T (Fa (·.setIfInBounds 3 Bh))).get? b=s.heap.get? b:=λb nb=>BE _ _ (B4 nb)
 have rcd:∀ b o,s.heap.get? b=Aa o->(∀ us,o.data≠.fields us)->b≠T:=λb o q n z=>by
  rw[z,hT]at q;cases q;exact n ts dT
 refine OG (base:=base) hfr hf (ff.of_keeps λb o q n=>⟨o,(up b (rcd b o q n)).trans q,rfl⟩) ((up e (B4 ne)).trans he) dt (Im h1) λh' T' oT' ts' g nT gn gT dT' f3 sh=>?_
 have T0:s.heap.get? T'=Ae:=by
  by_cases z:T'=T
  .rw[z]at gn;rw[Cr _ hT (Dg (Ca dT _))]at gn;cases gn
  .rw[<-up T' z];exact gn
 refine hQ h' T' _ (OZ hc hx h0 dt (Im h1) g nT gT dT' f3) ⟨λb o q n1 n2=>?_,λb o q hb=>?_⟩ (.inr T0)
 .simp only[AA,Bl,CO,EX]at n1;exact sh.keep b o ((up b n1.2).trans q) (by simp[n1.1]) n2
 .obtain⟨_,o',q',n⟩:=ff.mem hb;rw[q]at q';cases q';exact sh.slot b o ((up b (rcd b o q n)).trans q) hb
theorem eR{fr:Ao Ak}(fl:H9 e T cls dx fv s.heap)(hQ:∀ h' fl',H9 e T cls dx fl' h'->(∀ b o,b≠T->s.heap.get? b=Aa o->h'.get? b=Aa o)->Q () {s with heap:=h'}):At M A (Gs (.ref e) fr) Q E s:=by
 obtain⟨oe,vs,oT,ts,a0,he,hc,hx,h0,dt,h1,ne,hT,dT,h3⟩:=fl;have z3:=Im h3;unfold Gs;refine An (Bt he dt h1 ?_);rw[As (by simp:(Bc T != Bh)=Ab)]
 refine Ee hT dT z3 (hQ _ (fr.elim Bh λf=>DD f) ?_ λb o nb q=>(BE _ _ (B4 nb)).trans q)
 exact⟨oe,vs,_,_,a0,(BE _ _ ne).trans he,hc,hx,h0,dt,h1,ne,Cr _ hT (Dg (Ca dT _)),Ca dT _,by simp[z3]⟩
theorem bR(hfr:A.frames=Aa (env::outer))(hf:env.frame=Aa L)(ff:s.heap.FunFrames base (env::outer))(fl:H9 e T cls dx fv s.heap)(hQ:∀ h' T',Fly e T' cls dx h'->Shift [e,T] (frs (env::outer)) s.heap h'->(T'=T\/s.heap.get? T'=Ae)->Q () {s with heap:=h'}):At M A (leaving env (.ref e)) Q E s:=by
 unfold leaving;refine An (bZ hfr hf ff fl λh1 T' fl' f1 sh hT=>Mg f1 λh2 f2 k=>hQ h2 T' f2 ?_ hT)
 rcases hT with rfl|hT
 .obtain⟨oe,vs,oT,ts,a0,he,hc,hx,h0,dt,h1,ne,hTT,dT,h3⟩:=id fl;refine⟨λb o q n1 n2=>k b o (λz=>n1 (by rw[z];simp)) (sh.keep b o q n1 n2),λb o q hb=>?_⟩
  obtain⟨sl,q2⟩:=sh.slot b o q hb;refine⟨sl,k b _ (λz=>?_) q2⟩
  obtain⟨_,o',q',n⟩:=ff.mem hb;rw[z,hTT]at q';cases q';exact n ts dT
 .exact MW ff sh hT k
end
def LD(X:Cx)(CL:ClA)(W:XW):Prop:=∀ pI Y H s e T cls dx fl x,Inv X pI Y H s->(X.ex=[]->X.s₀.heap.get? e=Ae/\X.s₀.heap.get? T=Ae)->H e=Ae->H T=Ae->H9 e T cls dx fl s.heap->EH X.K CL H cls dx x->W x H->X.xe (.ref e) s
theorem Q2:LD X CL W0:=λ_ _ _ _ _ _ _ _ _ _ _ _ _ _ _ _ z=>z.elim
section
variable{P:AO}{w:A1}{K:Fg}{mg:Ag->Ao Aj}{base:AC}{N:Ac Ag}{qual:Ag}{scope:BP}{f:Ak}{cd:Aj}{A:AW}{outer:Ac Cj}{s:Ap}{H:Hp}{E:XK}{CL:ClA}{W:XW}
theorem fzR(hE:∀ x cls dx H',W x H'->EH K CL H' cls dx x->E cls dx H'):LD (Fk (CXR P w) P w K mg base N qual scope f cd A outer s H E) CL W:=by
 intro pI Y H1 s1 e T cls dx fl x I e0 he hT ge xr hw;have hb0:Un (frs outer) [] H H1 s.heap s1.heap:=I.base;obtain⟨e0,T0⟩:=e0 rfl;have e0:s.heap.get? e=Ae:=e0;have T0:s.heap.get? T=Ae:=T0;show At (model P w) (A.deeper (Ev qual scope s.heap.objs.size f cd)) (leaving (Ev qual scope s.heap.objs.size f cd) (.ref e)) _ _ s1;refine bR (L:=s.heap.objs.size) I.ok.frames rfl I.stack ge λh' T' fl' sh hT'=>?_
 refine⟨e,T',cls,dx,H1,rfl,I.os,I.bare,Un.shift hb0 sh ?_ (Nm I),HOk.shift I.hok sh ?_ I.stkFree,fl',he,?_,e0,?_,hE x cls dx H1 hw xr⟩
 .intro b hb;rcases AA.mp hb with rfl|hb
  .exact e0
  .rw[Bk.mp hb];exact T0
 .intro b hb;rcases AA.mp hb with rfl|hb
  .exact he
  .rw[Bk.mp hb];exact hT
 .rcases hT' with rfl|z
  .exact hT
  .exact Ix I.hok z
 .rcases hT' with rfl|z
  .exact T0
  .exact Iw I rfl z
end
section
variable{X:Cx}{CL:ClA}{W:XW}
theorem bA{s:Ap}{cl:Ac (Ag×Ak)}{C D:Ak}{fp:Ac Ak}{Q0:VK}(hst:X.stack=X.env::X.outer)(hfm:X.env.frame=Aa X.env.locals)(I:Inv X pI Y H s)(hf:∀ b∈fp,GM X pI H b)(fz:LD X CL W)(hC:s.heap.objs.size<=C)(hpl:∀ b∈fp,∃ o,(b,o)∈pl):∀ pins' H1 s1 ev s',Inv (Cx.pw (cxC X scope cl C N' s H fp) pl Xw) pins' Y0 H1 s1->CXR X.prog X.w X.stack H1 s1 (EKW X.K CL A' W) ev s'->GZ (model X.prog X.w) X.A (GY scope cl C X.env) (λe s''=>Kk (model X.prog X.w) X.A X.xe Ae (EP X pI Y Q0) (.ref D) C (.error e) s'') ev s':=by
  intro pins' H1 s1 ev s' J h;obtain⟨e,T,cls,dx,H',rfl,os,bare,un,hok,fl,he,hT,ne,nT,x,xr,wx⟩:=h;have J':Inv (Cx.pw (cxC X scope cl C N' s H fp) pl Xw) pins' Y0 H' s':=J.call' (s':=s') (ch:=[]) os un hok bare (λb z=>absurd z (by simp))
  have fresh:∀{H2:Hp}{s2:Ap},Inv (Cx.pw (cxC X scope cl C N' s H fp) pl Xw) pins' Y0 H2 s2->∀ b,s2.heap.get? b=Ae->s.heap.get? b=Ae:=λ{H2 s2} K2 b hb=>by
    cases q:s.heap.get? b with
    |none=>rfl
    |some o=>
      by_cases hx:b∈fp
      · obtain⟨o',ho⟩:=hpl b hx;have:=(K2.pin (b,o') (EY _ (Bi _ ho))).1;rw[hb]at this;cases this
      · have K0:Un (frs X.stack) fp H H2 s.heap s2.heap:=K2.base;obtain⟨o',z⟩:=K0.there b o q hx;rw[hb]at z;cases z
  have e0:=fresh J e ne;have T0:=fresh J T nT;have u1:Un (frs X.stack) fp H H' s.heap s'.heap:=J'.base;have C0:s.heap.get? C=Ae:=CS hC;have en:Ed (.ref e) (GY scope cl C X.env)=Ed (.ref e) X.env:=rfl;show At _ X.A (Ed (.ref e) (GY scope cl C X.env)) _ _ s';rw[en];have fr':X.A.frames=Aa (X.env::X.outer):=by rw[<-hst];exact J'.ok.frames
  have ff':s'.heap.FunFrames X.base (X.env::X.outer):=by rw[<-hst];exact J'.stack
  refine Pi (base:=X.base) fr' hfm ff' fl λh2 T2 f2 sh hT2=>?_
  rw[<-hst]at sh;obtain⟨m,hm,_⟩:=J'.loc;have hm:s'.heap.Ns C m:=hm;have noF:C∉frs X.stack:=λz=>by
    obtain⟨_,o,ho,_⟩:=I.stack.mem z;rw[C0]at ho;cases ho
  obtain⟨oe,vs,oT,ts,a0,ge,gc,gd,g0,gt,g1,gne,gT,gdT,g3⟩:=id fl;have Ce:C≠e:=λz=>by
    obtain⟨o,es,ep,q,qd,_⟩:=hm;rw[z,ge]at q;cases q;rw[gt]at qd;cases qd
  have CT:C≠T:=λz=>by
    obtain⟨o,es,ep,q,qd,_⟩:=hm;rw[z,gT]at q;cases q;rw[gdT]at qd;cases qd
  have CT2:C≠T2:=λz=>by
    obtain⟨o,es,ep,q,qd,_⟩:=hm;rw[z,hT2]at q;cases q
  have cN:h2.Ns C m:=by
    obtain⟨o,es,ep,q,qd⟩:=hm;exact⟨o,es,ep,sh.keep C o q (by simp[Ce,CT]) noF,qd⟩
  refine⟨m,cN,λh3 sb cenv hcv=>?_⟩
  have k3:∀ b o,b≠C->h2.get? b=Aa o->h3.get? b=Aa o:=λb o hb q=>(sb.2 b hb).trans q
  have f3:H9 e T2 cls dx (DD X.env.locals) h3:=by
    obtain⟨oe,vs,oT,ts,a0,ge,gc,gd,g0,gt,g1,gne,gT,gdT,g3⟩:=f2;exact⟨oe,vs,oT,ts,a0,k3 e oe (B4 Ce) ge,gc,gd,g0,gt,g1,gne,k3 T2 oT (B4 CT2) gT,gdT,g3⟩
  unfold PySem.passOn;obtain⟨oe3,vs3,oT3,ts3,a3,ge3,gc3,gd3,g03,gt3,g13,gne3,gT3,gdT3,g33⟩:=id f3;refine An (Bt (s:={s' with heap:=h3}) ge3 gt3 g13 ?_)
  rw[AB (by simp)]
  refine An (eR (s:={s' with heap:=h3}) f3 λh4 fl4 f4 k4=>wpAny_throw ?_)
  have T20:s.heap.get? T2=Ae:=fresh J' T2 hT2;have HC:H' C=Ae:=J'.free;have HT2:H' T2=Ae:=Ix hok hT2;have sh4:Shift [e,T,C,T2] (frs X.stack) s'.heap h4:=by
    refine⟨λb o q n1 n2=>?_,λb o q hb=>?_⟩
    · simp only[AA,Bl,CO,EX]at n1;exact k4 b o n1.2.2.2 (k3 b o n1.2.2.1 (sh.keep b o q (by simp[n1.1,n1.2.1]) n2))
    · obtain⟨sl,q2⟩:=sh.slot b o q hb;refine⟨sl,k4 b _ (λz=>by rw[z,hT2]at q;cases q) (k3 b _ (λz=>noF (z ▸ hb)) q2)⟩
  have n4:∀{Z_:Ak->Prop},Z_ e->Z_ T->Z_ C->Z_ T2->∀ b∈[e,T,C,T2],Z_ b:=λ{Z_} a b c d y hy=>by
    simp only[AA,Bl,CO]at hy;rcases hy with rfl|rfl|rfl|rfl
    · exact a
    · exact b
    · exact c
    · exact d
  have u4:Un (frs X.stack) fp H H' s.heap h4:=Un.shiftX u1 sh4 (n4 (Z_:=λb=>s.heap.get? b=Ae) e0 T0 C0 T20) λb hb=>.inl hb
  have hok4:HOk X.prog X.w H' h4:=HOk.shift hok sh4 (n4 (Z_:=λb=>H' b=Ae) he hT HC HT2) J'.stkFree
  have os4:s'.os=s.os:=J'.os;have I4:Inv X pI Y H' {s' with heap:=h4}:=I.call' (s':={s' with heap:=h4}) (ch:=fp) os4 u4 hok4 bare λb hb=>⟨(hf b hb).2.2.2.1,(hf b hb).2.1,(hf b hb).2.2.2.2.1,(hf b hb).2.2.2.2.2⟩
  exact fz pI Y H' _ e T2 cls dx fl4 x I4 (λhx=>⟨Iw I hx e0,Iw I hx T20⟩) he HT2 f4 xr wx
theorem VG{Y_:Cx}{es:Ac Am}{t:TA}(hx:Y_.xe=λ_ _=>AX)(h:PA Y_ es t):PA (Cx.pw Y_ pl Xw) es t:=λpos pI s Y H Q I q=>by
 have okY:Y_.Ok:=⟨I.ok.mod,I.ok.kind,I.ok.glob,I.ok.blt,I.ok.above,I.ok.inj,I.ok.has,I.ok.cab,I.ok.hd,I.ok.frames,I.ok.stk,I.ok.exf,I.ok.bs,I.ok.bsz,I.ok.noex,I.ok.exfs,I.ok.funs,I.ok.frf⟩;have I':Inv Y_ (pl++pI) Y H s:=⟨okY,I.os,I.bare,I.base,I.loc,I.cell,I.free,I.freeC,λp hp=>I.pin p (by
  show p∈(Y_.pn++pl)++pI;rw[FT];exact hp),I.hok,I.len⟩
 refine A3 (h pos (pl++pI) s Y H Q I' q) (λus s' ⟨vs,H',J,r,z⟩=>⟨vs,H',⟨V2 J.ok,J.os,J.bare,J.base,J.loc,J.cell,J.free,J.freeC,λp hp=>J.pin p (by
  have hp':p∈(Y_.pn++pl)++pI:=hp;rw[FT]at hp';exact hp'),J.hok,J.len⟩,r,z⟩) λ_ _ z=>by rw[hx]at z;exact z.elim
theorem fW{iter:Am}{wi:TI}{g:TG}{tt:TT}{te:TE}{ifs:Ac Am}(hc:X.calm=Ab)(hst:X.stack=X.env::X.outer)(hfm:X.env.frame=Aa X.env.locals)(fz:LD X CL W)(B:BlockOk X scope N' ts)(hi:PI X tg iter wi)(hg:∀ cl C s H fp,PG (cxC X scope cl C N' s H fp) tg g)(ht:∀ cl C s H fp,PTs (cxC X scope cl C N' s H fp) ifs tt)(he:∀ cl C s H fp pl Xw Y0,(∀ pins' H1 s1 ev s',Inv (Cx.pw (cxC X scope cl C N' s H fp) pl Xw) pins' Y0 H1 s1->CXR X.prog X.w X.stack H1 s1 (EKW X.K CL A' W) ev s'->Xw ev s')->PE (Cx.pw (cxC X scope cl C N' s H fp) pl Xw) elt (λY H Q=>Y=Y0/\te Y H Q))(hs:∀ x,BQ iter X.env x=pure x):PE X (.ListComp elt [⟨tg,iter,ifs,0⟩] scope pos) (λY H Q=>wi Y H λJ H1=>JO J ts g tt te Y H1 Q):=by
 intro pI s Y H Q I h;obtain⟨cl,hclos,hcl,hcl2⟩:=OM (scope:=scope) (env:=X.env) λx hx hk=>I.ok.has x.1 ((B.free x hx hk).imp id id)
 rw[eval_ListComp];refine FB (use:=Ae) rfl hs hclos B.kind B.names (thn (hi pI s Y H _ I h) λv s1 h1=>thn h1 λitv s2 h2=>?_)
 obtain⟨it,fp,tn,J,H2,e,I2,T,st2,f2,h3⟩:=h2;subst e;refine Pk (RR:=λacc C=>Kk (model X.prog X.w) X.A X.xe Ae (EP X pI Y Q) acc C) hc B I2 T st2 f2 hcl hcl2 (λcl C s H=>hg cl C s H fp) (λcl C s H=>ht cl C s H fp) (λcl' C D pl Y' H' s' Q' hC I' hpl q=>?_) h3 λcl' D C s' H' Y' pins' xs ys n m I' hd hDn rv hz hD hDC hC hm q=>?_
 .exact A3 (he cl' C s2 H2 fp pl _ Y' (bA hst hfm I2 f2 fz hC hpl) [] s' Y' H' Q' (JU I' _) ⟨rfl,q⟩) (λu s'' ⟨v,H'',J,r,z⟩=>⟨v,H'',Ks I'.ok J,r,z⟩) λ_ _ z=>z
 .exact⟨m,hm,λh'' hs''=>⟨.ref D,_,O4 I2 f2 I' hD hDC hC hd hDn rv hz hs'',rfl,q⟩⟩
theorem eX{as:D->Rho->R Rho}{ds:Ac D}{x:Ex}(hax:∀ d U x,as d U≠.exn x)(h:BK (λx=>(as x U).bind λ_=>.ok Ab) (λx=>(as x U).bind fe) (d::ds)=.exn x):∃ U',as d U=.ok U'/\(fe U'=.exn x\/∃ y,fe U'=.ok y/\BK (λx=>(as x U).bind λ_=>.ok Ab) (λx=>(as x U).bind fe) ds=.exn x):=by
 have h':((as d U).bind λ_=>R.ok Ab).bind (λb=>if b=Ab then ((as d U).bind fe).bind λy=>(BK (λx=>(as x U).bind λ_=>.ok Ab) (λx=>(as x U).bind fe) ds).bind λys=>.ok (y::ys) else BK (λx=>(as x U).bind λ_=>.ok Ab) (λx=>(as x U).bind fe) ds)=.exn x:=h
 cases ea:as d U with
 |bad=>rw[ea]at h';cases h'
 |exn z=>exact absurd ea (hax _ _ z)
 |ok U'=>
  refine⟨U',rfl,?_⟩;rw[ea]at h';have h2:((fe U').bind λy=>(BK (λx=>(as x U).bind λ_=>.ok Ab) (λx=>(as x U).bind fe) ds).bind λys=>.ok (y::ys))=.exn x:=h'
  cases ef:fe U' with
  |bad=>rw[ef]at h2;cases h2
  |exn z=>rw[ef]at h2;cases h2;exact .inl rfl
  |ok y=>
   rw[ef]at h2;refine .inr ⟨y,rfl,?_⟩;cases ec:BK (λx=>(as x U).bind λ_=>.ok Ab) (λx=>(as x U).bind fe) ds with
   |bad=>rw[ec]at h2;cases h2
   |exn z=>rw[ec]at h2;cases h2;rfl
   |ok ys=>rw[ec]at h2;cases h2
theorem bV{H1:Hp}{J:It}{ds:Ac D}{Q:VK}{as:D->Rho->R Rho}{g:TG}{x:Ex}(hGG:GG K CL ts as g)(hax:∀ d U x,as d U≠.exn x)(hA:AOk H1 A)(gd:Good K CL A U Y H1)(yl:Jt K CL A ds J H1)(hz:ds.length<=sizeLine)(hcp:BK (λx=>(as x U).bind λ_=>.ok Ab) (λx=>(as x U).bind fe) ds=.exn x)(q:∀ H2,Ay H1 H2->W x H2):JO J ts g (λY H Q=>AOk H A/\∃ U,Good K CL A U Y H/\CU W0 H (.ok Ab) Q) (λY H Q=>AOk H A/\∃ U,Good K CL A U Y H/\AV (λH=>Rep K CL H A) W H (fe U) Q) Y H1 Q:=by
 refine⟨λi m xs Y' H'=>m=ds.length-i/\i<=ds.length/\xs.length<=i/\Ay H1 H'/\Good K CL A (Fh ts U) Y' H'/\BK (λx=>(as x U).bind λ_=>.ok Ab) (λx=>(as x U).bind fe) (ds.drop i)=.exn x,
  ⟨ds.length,by simp,Cv _,AK _,Ay.refl _,gd.hideT ts,hcp⟩,?_⟩
 rintro i m xs Y' H' ⟨rfl,hi,hxl,sm,g',hc⟩;obtain⟨yst,ygo⟩:=yl H' (Kp.of sm) i;by_cases hlt:i<ds.length
 .have hd:ds[i]?=Aa ds[i]:=AE hlt;obtain⟨hgo,hyl⟩:=ygo _ hd;refine .inr ⟨hgo,by omega,λx' H2 hx=>?_⟩
  obtain⟨s2,rx⟩:=hyl x' H2 hx;have rx':=rx A (λa ha=>.inl ha) (hA.same sm)
  rw[BR hlt]at hc;have sm2:=sm.trans s2;obtain⟨U',ea,h1⟩:=eX hax hc;refine hGG A U Y' H2 x' ds[i] U' _ (g'.same s2) rx' ea λY3 g3 g4=>⟨hA.same sm2,U',g3,λH3 s3=>?_⟩
  dsimp only;rw[As rfl];refine⟨(hA.same sm2).same s3,U',g3.same s3,?_⟩;rcases h1 with h1|⟨y,h1,h2⟩
  .rw[h1];exact λH4 s4=>q H4 ((sm2.trans s3).trans s4)
  .rw[h1];exact λv H4 s4 r4=>⟨ds.length-(i+1),by omega,rfl,hlt,by rw[Bj,DT];omega,(sm2.trans s3).trans s4,(g4.same s3).same s4,h2⟩
 .have hk':ds.length<=i:=by omega
  rw[EA hk']at hc;cases hc
theorem bU{Q:VK}{as:D->Rho->R Rho}{g:TG}{fi:Rho->R (Ac D)}(hGG:GG X.K CL ts as g)(hax:∀ d U x,as d U≠.exn x)(hA:AOk H A)(gd:Good X.K CL A U Y H)(p:AV (DK X.K CL Ab H A) W H ((fi U).bind λxs=>(BK (λx=>(as x U).bind λ_=>.ok Ab) (λx=>(as x U).bind fe) xs).bind λys=>.ok (.lst ys)) Q):Fi X.K CL A W H (fi U) (λJ H1=>JO J ts g (λY H Q=>AOk H A/\∃ U,Good X.K CL A U Y H/\CU W0 H (.ok Ab) Q) (λY H Q=>AOk H A/\∃ U,Good X.K CL A U Y H/\AV (λH=>Rep X.K CL H A) W H (fe U) Q) Y H1 Q):=
 Fi.ok_of p λds J H1 e1 s1 yl hz p1=>by
  cases e2:BK (λx=>(as x U).bind λ_=>.ok Ab) (λx=>(as x U).bind fe) ds with
  |ok ys=>
   rw[e2]at p1;exact Sq (fc:=λ_=>.ok Ab) hGG (hA.same s1) (gd.same s1) yl hz e2 λxs H2 s2 rs q hq=>p1 _ _ (s2.trans (En hq _)) (Jd (s1.trans s2) ((hA.same s1).same s2) hq rs)
  |exn x=>
   rw[e2]at p1;exact bV hGG hax (hA.same s1) (gd.same s1) yl hz e2 p1
  |bad=>rw[e2]at p1;exact p1.elim
theorem eK{iter:Am}{as:D->Rho->R Rho}{g:TG}{fi:Rho->R (Ac D)}{k n:Af}{fr:Al}{f:Ak}{e:Am}{es:Ac Am}{fs ft:Rho->R (Ac D)}{sh:Rho->Al}(hc:X.calm=Ab)(hst:X.stack=X.env::X.outer)(hfm:X.env.frame=Aa X.env.locals)(fz:LD X CL W)(B:BlockOk X scope N' ts)(hi:SI X CL W tg iter fi)(hGG:GG X.K CL ts as g)(hax:∀ d U x,as d U≠.exn x)(hg:∀ cl C s H fp,PG (cxC X scope cl C N' s H fp) tg g)(hs:∀ x,BQ iter X.env x=pure x)(G:FnOk X.prog X.w X.K X.mg X.base (CXR X.prog X.w) k f fd ps (spD X.K CL n fr F))(hr:Room k X.A)(hgl:∀ cl C s H fp,Gl (cxC X scope cl C N' s H fp) x)(hm:X.mg x=Aa (.ref f))(hk:Bm X.K (.ref f)=Ab)(hb:DS X.K fd ps [])(ha:∀ cl C s H fp,SA (cxC X scope cl C N' s H fp) CL W0 (e::es) fs/\SAT (cxC X scope cl C N' s H fp) CL W0 (e::es) ft)(hsh:∀ U,sh U=Ab->ft U=fs U)(hn:∀ U ds,ft U=.ok ds->ds.length=n)(hnx:∀ U y,ft U≠.exn y)(hdb:(x==("__debug__" : Ag))=Ad)(hse:∀ env,Aq (e::es) env=(Ad,eval e env)::Aq es env)(hpl:∀ env pos,(Bo pos (Aq es env)).any (·.1)=Ad):SC X CL W Ab (.ListComp (.Call (.Name x p) (e::es) [] cpos) [⟨tg,iter,[],0⟩] scope pos) (λU=>(fi U).bind λxs=>(BK (λx=>(as x U).bind λ_=>.ok Ab) (λx=>(as x U).bind λU=>(ft U).bind λds=>(F ds).bind λd=>if sh U=Ab then .ok d else if Fl fr d=Ab then .ok d else .bad) xs).bind λys=>.ok (.lst ys)):=λA pI s Y H Q I ⟨hA,U,gd,q⟩=>by
 refine fW (W:=W) (A':=A) hc hst hfm fz B (hi A) hg (λcl C s H fp=>TU A) (λcl C s H fp pl Xw Y0 want=>?_) hs pI s Y H Q I ⟨hA,U,gd,bU hGG hax hA gd q⟩
 have key:=L4 (X:=Cx.pw (cxC X scope cl C N' s H fp) pl Xw) (p:=p) (pos:=cpos) (Y0:=Y0) (fr:=fr) (F:=F) (n:=n) (sh:=sh) (E0:=EKW X.K CL A W) G hr (hgl cl C s H fp) hm hk hb want (λA=>VG rfl ((ha cl C s H fp).1 A)) (λA=>VG rfl ((ha cl C s H fp).2 A)) hsh hn hnx hdb (hse _) (hpl _) A
 refine PE.weak key λY H Q ⟨e0,hA,U,gd,z⟩=>⟨e0,hA,U,gd,?_⟩
 cases er:((ft U).bind λds=>(F ds).bind λd=>if sh U=Ab then R.ok d else if Fl fr d=Ab then .ok d else .bad) with
 |ok d=>rw[er]at z;exact λv H' sm r=>z v H' sm r.1
 |exn y=>rw[er]at z;exact λcls dx H' sm xr=>⟨y,xr,z H' sm⟩
 |bad=>rw[er]at z;exact z
end
section
variable{X:Cx}{CL:ClA}{W:XW}
def pB(K:Fg)(CL:ClA):V->Ac V->Hp->VK->Prop:=λx vs H Q=>∃ l xs ds v d j,x=.ref l/\vs=[v]/\SqL K H l xs/\Reps K CL H A0 xs ds/\Rep K CL H A0 v d/\flD 5 d=Ab/\ds.all (flD 5)=Ab/\(ds.findIdx? λy=>eqD y d)=Aa j/\Q (.int (j:Af)) H
theorem fB(hu:X.A.units+64<BJ):MtR X "list.index" (pB X.K CL):=by
 intro pI s Y H x vs v us Q I rx rv h;obtain⟨l,xs,ds,y,d,j,rfl,rfl,sq,rs,ry,h1,h2,hj,q⟩:=h;cases rx;obtain⟨u,rfl,ru⟩:=rv.one;obtain⟨its,r,pl,hz⟩:=I.list sq;obtain⟨⟨c,dct,dt,sl⟩,n,e,hc,hd,hdt⟩:=pl;obtain⟨f,hf,hn⟩:=rQ I (n:=5) X.A.in1 h1 h2 rs r ry ru (by show X.A.units+1+5<BJ;omega)
 replace hc:c=.type "list" := hc;replace hdt:dt=.seq its.toArray n:=hdt;subst hc hdt;have hl:its.length=ds.length:=by rw[<-r.length,rs.length]
 obtain⟨g1,g2,g3⟩:=List.findIdx?_eq_some_iff_getElem.mp hj;have gd:∀ m (h:m<ds.length),ds.getD m .non=ds[m]:=λm h=>by rw[A6,AE h];rfl
 have hzl:its.length<=sizeLine:=by rw[hl,<-rs.length];exact hz
 have zl:sizeLine<2 ^ 62:=by decide
 refine Ey Yy ⟨_,e,rfl⟩ PySem.F.entry_list_index (PySem.F.args_list_index_2 _ _) (SeqAt.list_indexAt l its.toArray n dct sl u f j (by rw[AG];omega) (by omega) ?_ ?_) ⟨e,hf,?_⟩
 .have:=hn j (by omega)
  rw[gd j g1]at this;simpa [g2] using this
 .intro m hm hmj;have hm':m<its.length:=by rw[AG]at hm;exact hm
  have:=hn m hm';rw[gd m (by omega)]at this
  have h3:eqD ds[m] d=Ad:=by
   have:=g3 m hmj;simpa using this
  rw[h3]at this;simpa using this
 .exact⟨.int _,H,I.tok _,⟨_,rfl⟩,q⟩
theorem Tq{o y:Am}(hu:X.A.units+64<BJ)(ho:ST X CL W o fo)(hy:ST X CL W y fy)(hny:∀ U e,fy U≠.exn e)(hbase:BO o "index" X.env (eval o X.env)=eval o X.env)(hfew:((Bo cpos (Aq [y] X.env)).all (λx=>!x.1)&&(FA cpos (Ec [] X.env)).all (λx=>x.1.isSome)&&decide ([y].length+([]:Ac C4).length+(if ([]:Ac C4).isEmpty then 0 else 1)<30))=Ab)(hline:(apos.endLine==cpos.line)=Ab)(hs:Aq [y] X.env=[(Ad,eval y X.env)]):
  SE X CL W (.Call (.Attribute o "index" apos) [y] [] cpos) (λU=>(fo U).bind λx=>(fy U).bind λd=>match x with | .lst xs=>Mq xs d|_=>.bad):=λA=>
 PE.weak (Lu DB Yy PySem.F.type_list_index (fB (CL:=CL) hu) (ho A) (DJ (hy A) ET hs) hbase hfew hline hs rfl) λY H Q ⟨hA,U,g,p⟩=>⟨hA,U,g,AV.bind p λd v H1 _ s1 r1 p1=>by
  have nb:∀{f:D->R D},(∀ d,f d=.bad)->AV (λH=>Rep X.K CL H A) W H1 ((fy U).bind f) Q->AX:=λ{f} hf z=>by
   cases e:fy U with
   |ok d2=>rw[e]at z;have z':AV (λH=>Rep X.K CL H A) W H1 (f d2) Q:=z;rw[hf]at z';exact z'
   |exn e'=>exact hny U e' e
   |bad=>rw[e]at z;exact z
  cases d with
  |lst ds=>
   obtain⟨a,xs,rfl,sq,rs⟩:=r1.lst_of;refine⟨.inl ⟨rfl,xs,sq⟩,hA.same s1,U,g.same s1,AV.bind p1 λd2 v' H2 _ s2 r2 p2=>?_⟩
   have r3:Rep X.K CL H2 A0 (.ref a) (.lst ds):=(Cw.same s2 r1).plain;obtain⟨a',xs',e',_,sq',rs'⟩:=r3;cases e';replace p2:AV (λH=>Rep X.K CL H A) W H2 (Mq ds d2) Q:=p2
   unfold Mq at p2;split at p2
   .rename_i h;simp only[Ai]at h;cases e3:ds.findIdx? λy=>eqD y d2 with
    |none=>rw[e3]at p2;exact p2.elim
    |some j=>
     rw[e3]at p2;exact⟨a,xs',ds,v',d2,j,rfl,rfl,sq',rs',r2.plain,h.1,h.2,e3,p2 _ H2 (Ay.refl H2) rfl⟩
   .exact p2.elim
  | _=>exact(nb (λ_=>rfl) p1).elim⟩
end
section
variable{X:Cx}{CX:CXT}{k:Af}{f C:Ak}{fd:Bx}{ps:Ac Ag}{sp:Sp}{E:XK}{Y0:L2.St}
theorem kS{s:Ap}{Q:VK}{vs:Ac V}(F:FnOk X.prog X.w X.K X.mg X.base CX k f fd ps sp)(hr:Room k X.A)(hb:DS X.K fd ps [])(hx:∀ pI H s e s',Inv X pI Y0 H s->CX X.stack H s E e s'->X.xe e s')(I:Inv X pI Y0 H s)(r:AZ vs us)(q:sp vs H Q E):At (model X.prog X.w) X.A (call (.ref f) us) (EP X pI Y0 Q) X.xe s:=by
 have hl:us.length=ps.length:=by rw[<-r.length];exact F.len _ _ _ _ q
 have hb':Gq s fd ⟨us,[]⟩ (ps.zip us):=by
  have:=hb s us I.kIn (by rw[Bg];exact hl)
  rw[Bg]at this;exact this
 refine Ez (DQ (F.run X.A X.stack s H ⟨us,[]⟩ us vs Q E hr I.env0 hb' r q) λr s' hq=>?_)
 cases r with
 |error e=>exact hx pI H s e s' I hq
 |ok fl=>
  cases fl with
  |ret u=>exact I.after hq
  |next=>exact AY hq
  |brk=>exact AY hq
  |cont=>exact AY hq
theorem R5{s:Ap}{Q:VK}{vs:Ac V}(M:Mk X.K C f)(F:FnOk X.prog X.w X.K X.mg X.base CX k f fd ps sp)(hr:Room (k+1) X.A)(hb:DS X.K fd ps [])(hx:∀ pI H s e s',Inv X pI Y0 H s->CX X.stack H s E e s'->X.xe e s')(I:Inv X pI Y0 H s)(r:AZ vs us)(h:∀ x dx,H x=Ae->H dx=Ae->dx≠x->sp (.ref x::vs) (upd (upd H dx (.own x)) x (.ins C dx [])) (λv H2=>v=.non/\Q (.ref x) H2) E):At (model X.prog X.w) X.A (call (.ref C) us) (EP X pI Y0 Q) X.xe s:=by
 have hq:=h (s.heap.objs.size+1) s.heap.objs.size (I.hok.fresh (F4 _)) (I.hok.fresh (AK _)) (A5 (EZ _));have I2:=Inv.made (C:=C) I;have r2:AZ (V.ref (s.heap.objs.size+1)::vs) (Bc (s.heap.objs.size+1)::us):=.cons rfl r;have hl:(Bc (s.heap.objs.size+1)::us).length=ps.length:=by
  have e:=r2.length;rw[F.len _ _ _ _ hq]at e;exact e.symm
 have hb':=hb _ (Bc (s.heap.objs.size+1)::us) I2.kIn (by rw[Bg];exact hl)
 rw[Bg]at hb';refine Ez (S0 (f:=f) I.kIn M.makes M.init (AD.mp M.fn) (DQ (F.run _ X.stack _ _ ⟨Bc (s.heap.objs.size+1)::us,[]⟩ (Bc (s.heap.objs.size+1)::us) _ _ E (hr.make C us [])
  (I2.env0.make C us []) hb' r2 hq) λr s' hq'=>?_))
 cases r with
 |error e=>exact hx pI _ _ e s' I2 hq'
 |ok fl=>
  cases fl with
  |ret u=>
   obtain⟨v,H',I3,rv,ev,q3⟩:=I2.after hq';subst ev;exact⟨rv,⟨V.ref (s.heap.objs.size+1),H',I3,rfl,q3⟩⟩
  |next=>exact AY hq'
  |brk=>exact AY hq'
  |cont=>exact AY hq'
end
section
variable{X:Cx}{CL:ClA}{a:Am}{fa:Rho->R D}
theorem Tw{W1:XW}{m:Ag}{F:Af->Ac D->R D}{e:Am}{E0:XK}(hr:Room k X.A)(hx:∀ pI H s ev s',Inv X pI Y0 H s->CXR X.prog X.w X.stack H s E0 ev s'->X.xe ev s')(ha:ST X CL W1 a fa)(he:SE X CL W1 e fe)(hms:∀ c id C,ms.lookup c=Aa id->OC X.K c=Aa C->∃ f fd ps fr,Cls X.K C/\Meth X.K C m f/\DS X.K fd ps []/\FnOk X.prog X.w X.K X.mg X.base (CXR X.prog X.w) k f fd ps (spD X.K CL 2 fr (F id)))(hbase:BO a m X.env (eval a X.env)=eval a X.env)(hline:(apos.endLine==pos.line)=Ab)(hst:Aq [e] X.env=[(Ad,eval e X.env)])(A:Ak->Prop):PE X (.Call (.Attribute a m apos) [e] [] pos) (λY H Q=>Y=Y0/\AOk H A/\∃ U,Good X.K CL A U Y H/\HU X.K CL (λH=>Rep X.K CL H A) E0 H ((noX (fa U)).bind λx=>(Mv m ms x).bind λid=>(noX (fe U)).bind λy=>F id [x,y]) Q):=by
 intro pI s Y H Q I ⟨e0,hA,U,gd,q⟩;subst e0;rw[Jz,hbase];refine An (thn (ha A pI s Y H (λv H1=>Ay H H1/\∃ d,fa U=.ok d/\Cw X.K CL H1 A v d) I ⟨hA,U,gd,?_⟩) λu s1 ⟨v,H1,I1,rv,s1',d,ed,rp⟩=>?_)
 .cases ef:fa U with
  |ok d=>exact λv H1 s1 r1=>⟨s1,d,rfl,r1⟩
  |exn y=>rw[ef]at q;exact q.elim
  |bad=>rw[ef]at q;exact q.elim
 rw[ed,T6,R.bind_ok]at q;refine An (DZ ?_);have hform:IK (([e]:Ac Am).length+([]:Ac C4).length) (Bo pos (Aq [e] X.env)) (FA pos (Ec [] X.env))=Ab:=by
  rw[hst];rfl
 have hpos:Fb Ab a X.env apos pos=pure pos:=by
  unfold Fb;simp[hline]
 unfold KY;rw[hform];cases d with
 |obj c fs=>
  have q2:HU X.K CL (λH=>Rep X.K CL H A) E0 H ((match ms.lookup c with|some id=>if (fs.lookup m).isNone=Ab then R.ok id else .bad|none=>.bad).bind λid=>(noX (fe U)).bind λy=>F id [.obj c fs,y]) Q:=q
  cases el:ms.lookup c with
  |none=>rw[el]at q2;exact q2.elim
  |some id=>
   rw[el]at q2;dsimp only at q2;by_cases hn:(fs.lookup m).isNone=Ab
   .rw[As hn,R.bind_ok]at q2;obtain⟨o,C,dx,vs,rfl,na,hc,hH,rf⟩:=Nb rp;obtain⟨f,fd,ps,fr,cl,me,hb,G⟩:=hms c id C el hc;cases rv;refine An (Dz (RB I1 hH cl me (OF rf (Dj.mp hn)) ?_));refine An (G9 hpos ?_);refine CI (first:=[.ref o]) (h₀:=X.base) I.ok.mod.kin me.kp (thn (DJ (he A) ET hst pos pI s1 Y H1 (λvs H2=>∃ d v,vs=[v]/\fe U=.ok d/\Ay H1 H2/\Rep X.K CL H2 A v d) I1 ⟨hA.same s1',U,gd.same s1',?_⟩) λus s2 ⟨vs2,H2,I2,r,d2,v2,ev,ed2,s2',r2⟩=>⟨I2.kIn,?_⟩) hst rfl
    .cases ef:fe U with
     |ok d=>exact λv H2 s2 r2=>⟨d,v,rfl,rfl,s2,r2⟩
     |exn y=>rw[ef]at q2;exact q2.elim
     |bad=>rw[ef]at q2;exact q2.elim
    .subst ev;rw[ed2,T6,R.bind_ok]at q2;refine kS (us:=.ref o::us) (vs:=[.ref o,v2]) G hr hb hx I2 (.cons rfl r) ?_;refine⟨[.obj c fs,d2],A,rfl,(hA.same s1').same s2',⟨⟨o,C,dx,vs,rfl,na,hc,s2' _ _ hH,Repf.kp (Kp.of s2') _ rf⟩,r2,trivial⟩,?_⟩;cases e2:F id [.obj c fs,d2] with
     |ok d=>rw[e2]at q2;exact λv H3 s3 r3=>q2 v H3 ((s1'.trans s2').trans s3) r3.1
     |exn y=>rw[e2]at q2;exact λcls dx H3 s3 xr=>q2 cls dx H3 ((s1'.trans s2').trans s3) xr
     |bad=>rw[e2]at q2;exact q2.elim
   .rw[AB hn]at q2;exact q2.elim
 |_=>exact q.elim
theorem eI{m:Ag}{F:Af->Ac D->R D}{e:Am}(hr:Room k X.A)(hx:∀ A,IA (CXR X.prog X.w) X (EKW X.K CL A W))(ha:ST X CL W a fa)(he:SE X CL W e fe)(hms:∀ c id C,ms.lookup c=Aa id->OC X.K c=Aa C->∃ f fd ps fr,Cls X.K C/\Meth X.K C m f/\DS X.K fd ps []/\FnOk X.prog X.w X.K X.mg X.base (CXR X.prog X.w) k f fd ps (spD X.K CL 2 fr (F id)))(hbase:BO a m X.env (eval a X.env)=eval a X.env)(hline:(apos.endLine==pos.line)=Ab)(hst:Aq [e] X.env=[(Ad,eval e X.env)]):SE X CL W (.Call (.Attribute a m apos) [e] [] pos) (λU=>(noX (fa U)).bind λx=>(Mv m ms x).bind λid=>(noX (fe U)).bind λy=>F id [x,y]):=λA pI s Y H Q I ⟨hA,U,gd,q⟩=>by
 refine Tw (Y0:=Y) (E0:=EKW X.K CL A W) hr (λpI H s ev s' J h=>hx A pI Y H s ev s' J h) ha he hms hbase hline hst A pI s Y H Q I ⟨rfl,hA,U,gd,?_⟩
 dsimp only at q;cases er:((noX (fa U)).bind λx=>(Mv m ms x).bind λid=>(noX (fe U)).bind λy=>F id [x,y]) with
 |ok d=>rw[er]at q;exact q
 |exn y=>rw[er]at q;exact λcls dx H' sm xr=>⟨y,xr,q H' sm⟩
 |bad=>rw[er]at q;exact q
theorem fU{C f:Ak}{np pos:AF}{e:Am}{es:Ac Am}{G:Ac D->R D}{E0:XK}(M:Mk X.K C f)(hoc:OC X.K c=Aa C)(o:OCls X.K C)(FI:FnOk X.prog X.w X.K X.mg X.base (CXR X.prog X.w) k f fd ["self", "p", "numbers"] (spI X.K CL G))(hr:Room (k+1) X.A)(hb:DS X.K fd ["self", "p", "numbers"] [])(hx:∀ pI H s ev s',Inv X pI Y0 H s->CXR X.prog X.w X.stack H s E0 ev s'->X.xe ev s')(hF:∀ ds,ds.length=2->F ds=.bad\/F ds=(G ds).bind (DA c))(hg:Gl X g)(hm:X.mg g=Aa (.ref C))(hdb:(g==("__debug__" : Ag))=Ad)(ha:SA X CL W0 (e::es) fs)(hne:∀ U y,fs U≠.exn y)(hn:∀ U ds,fs U=.ok ds->ds.length=2)(he:Aq (e::es) X.env=(Ad,eval e X.env)::Aq es X.env)(hpl:(Bo pos (Aq es X.env)).any (·.1)=Ad)(A:Ak->Prop):PE X (.Call (.Name g np) (e::es) [] pos) (λY H Q=>Y=Y0/\AOk H A/\∃ U,Good X.K CL A U Y H/\HU X.K CL (λH=>Rep X.K CL H A) E0 H ((fs U).bind λds=>F ds) Q):=by
 intro pI s Y H Q I ⟨e0,hA,U,gd,p⟩;subst e0;refine Cy (Hh I hg hm ?_ hdb);have q1:=ha A pos pI s Y H (λvs H1=>∃ ds,Ay H H1/\ds.length=2/\Reps X.K CL H1 A vs ds/\HU X.K CL (λH=>Rep X.K CL H A) E0 H (F ds) Q) I ⟨hA,U,gd,by
  cases e1:fs U with
  |bad=>rw[e1]at p;exact p
  |exn y=>exact absurd e1 (hne U y)
  | ok ds=>rw[e1]at p;exact λvs H1 s1 r1=>⟨ds,s1,hn U ds e1,r1,p⟩⟩
 refine CI (h₀:=X.base) I.ok.mod.kin M.kp (thn q1 λus s1 ⟨vs,H1,I1,r,ds,sm,hl,rps,q⟩=>⟨I1.kIn,?_⟩) he hpl
 rcases hF ds hl with z|z
 .rw[z]at q;exact q.elim
 .rw[z]at q;have old:∀{x dx:Ak},H1 x=Ae->H1 dx=Ae->Ay H1 (upd (upd H1 dx (.own x)) x (.ins C dx [])):=λ{x dx} nx ndx b ob h=>by
   have n1:b≠x:=λz=>by rw[z,nx]at h;cases h
   have n2:b≠dx:=λz=>by rw[z,ndx]at h;cases h
   rw[Bb n1,Bb n2];exact h
  cases e2:G ds with
  |bad=>rw[e2]at q;exact q.elim
  |exn y=>
   rw[e2]at q;refine R5 (Q:=Q) (E:=E0) M FI hr hb hx I1 r λx dx nx ndx ne=>?_
   refine⟨x,C,dx,vs,ds,A,H1,rfl,by rw[rps.length];exact hl,o.cl,o.np,o.nt,Db,nx,old nx ndx,hA.same sm,rps,?_⟩
   rw[e2];exact λcls dy H' sm2 xr=>q cls dy H' (sm.trans sm2) xr
  |ok d=>
   rw[e2]at q;have q':HU X.K CL (λH=>Rep X.K CL H A) E0 H (DA c d) Q:=q
   have pw:AV (λH=>Rep X.K CL H A) W0 H (DA c d) (λv H'=>Q v H'):=by
    cases em:DA c d with
    |ok d'=>rw[em]at q';exact q'
    |exn y=>
     exfalso
     unfold DA at em;split at em
     .split at em<;>cases em
     .cases em
    |bad=>rw[em]at q';exact q'
   obtain⟨d1,d2,rfl,em⟩:=T9 pw;rw[em]at pw;refine R5 (Q:=Q) (E:=E0) M FI hr hb hx I1 r λx dx nx ndx ne=>?_
   refine⟨x,C,dx,vs,ds,A,H1,rfl,by rw[rps.length];exact hl,o.cl,o.np,o.nt,Db,nx,old nx ndx,hA.same sm,rps,?_⟩
   rw[e2];exact λe1 e3 ee v1 v2 H' sm2 hx' r1 r2=>by
    cases ee;exact⟨rfl,pw _ H' (sm.trans sm2) ⟨x,C,dx,_,rfl,(hA.same sm).new nx,hoc,hx',⟨⟨rfl,r1⟩,⟨rfl,r2⟩,trivial⟩⟩⟩
theorem mZ{e:Am}{pos2:AF}(hx0:X.ex=[])(he:∀(pI:Pn)(Xw:Vq),DP (model X.prog X.w) X.A X.env Xw->∀(Y0:L2.St)(E0:XK)(A:Ak->Prop),(∀ pins' H1 s1 ev s',Inv (Cx.pw X pI Xw) pins' Y0 H1 s1->CXR X.prog X.w X.stack H1 s1 E0 ev s'->Xw ev s') ->
   PE (Cx.pw X pI Xw) e (λY H Q=>Y=Y0/\AOk H A/\∃ U,Good X.K CL A U Y H/\HU X.K CL (λH=>Rep X.K CL H A) E0 H (fe U) Q))(hs:Cn e Ae pos2.line X.env=pure Ad):STB X CL [.Expr e pos2] (λU=>O.of U (fe U) λ_=>.next U):=by
 intro Fz B pI s Y H D U Xw own I sx q _;dsimp only at q;cases er:fe U with
 |bad=>rw[er]at q;exact q.elim
 |exn y=>
  rw[er]at q;have key:=he pI Xw own Y _ (Bf B U Y) (Pu hx0 I.ok (q rfl));refine A3 (Ja (Ir (pos:=pos2) key hs) [] s Y H D (JU I Xw) ⟨rfl,sx.aok,U,sx.good,?_⟩) (λ_ _ z=>Lg I.ok z) λ_ _ z=>z
  rw[er];exact λcls dx H' sm xr=>⟨xr,sm⟩
 |ok d=>
  rw[er]at q;have key:=he pI Xw own Y (λ_ _ _=>AX) (Bf B U Y) Pv
  refine A3 (Ja (Ir (pos:=pos2) key hs) [] s Y H D (JU I Xw) ⟨rfl,sx.aok,U,sx.good,?_⟩) (λ_ _ z=>Lg I.ok z) λ_ _ z=>z
  rw[er];exact λv H' sm r=>q Y H' (sx.grow sm)
end
def NwA(X:Cx)(CL:ClA)(W:XW)(es:Ac Am)(f:Rho->R (Ac D)):Prop:=∀ A,PA X es (λY H Q=>AOk H A/\∃ U,Good X.K CL A U Y H /\
 G4 (λH' vs ds=>Reps X.K CL H' A vs ds/\(ds.all MF=Ab->∀ u∈vs,∃ a i xs,u=.ref a/\H a=Ae/\H' a=Aa (.lst (.int i::xs)))) W H (f U) Q)
section
variable{X:Cx}{CL:ClA}{W:XW}{e:Am}{es:Ac Am}{fe:Rho->R D}{fs:Rho->R (Ac D)}
theorem rE:NwA X CL W [] (λ_=>.ok []):=λA=>PA.weak ET λY H Q ⟨hA,U,g,p⟩=>p [] H (Ay.refl H) ⟨trivial,λ_ u hu=>nomatch hu⟩
theorem hd_is{ds:Ac D}{xs:Ac V}(h:MF d=Ab)(e:d=.lst ds)(r:Reps K CL H A xs ds):∃ i ys,xs=.int i::ys:=by
 subst e;cases ds with
 |nil=>cases h
 |cons d ds=>
  cases xs with
  |nil=>exact r.elim
  |cons x xs=>
   cases d with
   |int i=>exact⟨i,xs,by rw[(show x=.int i from r.1)]⟩
   |_=>cases h
theorem qO(h:MF d=Ab):∃ ds,d=.lst ds:=by
 cases d with
 |lst ds=>exact⟨ds,rfl⟩
 |_=>cases h
theorem mC(he:SC X CL W Ab e fe)(hs:NwA X CL W es fs)(hst:Aq (e::es) X.env=(Ad,eval e X.env)::Aq es X.env):NwA X CL W (e::es) (λU=>(fe U).bind λx=>(fs U).bind λxs=>.ok (x::xs)):=λA=>PA.weak (DJ (he A) (hs A) hst) λY H Q ⟨hA,U,g,p⟩=>⟨hA,U,g,by
 dsimp only at p;cases e1:fe U with
 |bad=>rw[e1]at p;exact p
 |exn y=>rw[e1]at p;exact p
 |ok d=>
  rw[e1]at p;intro v H1 s1 r1;refine⟨hA.same s1,U,g.same s1,?_⟩;cases e2:fs U with
  |bad=>rw[e2]at p;exact p
  |exn y=>rw[e2]at p;exact λH' s'=>p H' (s1.trans s')
  |ok ds=>
   rw[e2]at p;intro vs H2 s2 r2;refine p _ H2 (s1.trans s2) ⟨⟨r1.1.same s2,r2.1⟩,λhk u hu=>?_⟩
   rw[B0,Ai]at hk;rcases AA.mp hu with rfl|hu
   .obtain⟨es',ed⟩:=qO hk.1;obtain⟨a,xs,e3,e4,e5,rr⟩:=r1.2 rfl es' ed;obtain⟨i,ys,rfl⟩:=hd_is hk.1 ed rr;exact⟨a,i,ys,e3,e4,s2 _ _ e5⟩
   .obtain⟨a,i,xs,e3,e4,e5⟩:=r2.2 hk.2 u hu;exact⟨a,i,xs,e3,s1.free e4,e5⟩⟩
end
section
variable{K:Fg}{CL:ClA}{Fz:Fr}{B N:Ak->Prop}{U:Rho}{Y:L2.St}{H H0:Hp}
theorem Sx.subB(x:Sx K CL Fz (λb=>B b\/N b) U Y H):Sx K CL Fz B U Y H:=by
 have sub:∀ b,Bf B U Y b->Bf (λb=>B b\/N b) U Y b:=λb h=>h.imp .inl id
 refine⟨⟨λi d h=>?_,λi d h hn=>?_,x.len⟩,λa h=>x.aok a (sub a h),λj d a h1 h2=>⟨(x.new j d a h1 h2).1,λz=>(x.new j d a h1 h2).2 (.inl z)⟩,x.dis,x.same,x.len,x.pin⟩
 .obtain⟨v,q,r⟩:=x.good.sh i d h;exact⟨v,q,Rep.sub sub _ r⟩
 .obtain⟨a,xs,ds,q,z,ha,hh,r⟩:=x.good.ow i d h hn;exact⟨a,xs,ds,q,z,.inr ⟨i,d,h,q⟩,hh,Reps.sub sub _ r⟩
theorem Sx.supB(x:Sx K CL Fz B U Y H0)(s:Ay H0 H)(hn:∀ b,N b->H0 b=Ae)(hl:∀ b,N b->∃ xs,H b=Aa (.lst xs)):Sx K CL Fz (λb=>B b\/N b) U Y H:=by
 have sup:∀ b,Bf (λb=>B b\/N b) U Y b->Bf B U Y b\/H0 b=Ae:=λb h=>by
  rcases h with (h|h)|h
  .exact .inl (.inl h)
  .exact .inr (hn b h)
  .exact .inl (.inr h)
 have y:=x.grow s;refine⟨⟨λi d h=>?_,λi d h hk=>?_,x.len⟩,λa h=>?_,λj d a h1 h2=>⟨(x.new j d a h1 h2).1,λz=>z.elim (x.new j d a h1 h2).2 λz=>?_⟩,x.dis,y.same,x.len,y.pin⟩
 .obtain⟨v,q,r⟩:=x.good.sh i d h;exact⟨v,q,(Rep.wide sup _ r).same s⟩
 .obtain⟨a,xs,ds,q,z,ha,hh,r⟩:=x.good.ow i d h hk;exact⟨a,xs,ds,q,z,.inr ⟨i,d,h,q⟩,s _ _ hh,(Reps.wide sup _ r).same s⟩
 .rcases h with (h|h)|h
  .exact y.aok a (.inl h)
  .exact hl a h
  .exact y.aok a (.inr h)
 .obtain⟨xs,q⟩:=x.aok a (.inr ⟨j,d,h1,h2⟩);rw[hn a z]at q;cases q
theorem Sx.drop(x:Sx K CL Fz B U Y H)(i:Af){Y':L2.St}(hl:Y'.length=Y.length)(hs:∀ j,i≠j->Y'[j]?=Y[j]?):Sx K CL Fz B (U.set i Ae) Y' H:=by
 have get:∀(j:Af)(y:D×Al),(U.set i Ae)[j]?=Aa (Aa y)->i≠j/\U[j]?=Aa (Aa y):=λj y h=>by
  by_cases hj:i=j
  .subst hj;have:=Ff h;cases this
  .exact⟨hj,by rw[BA hj]at h;exact h⟩
 have sub:∀ a,Bf B (U.set i Ae) Y' a->Bf B U Y a:=λa h=>by
  rcases h with h|⟨j,e,h1,h2⟩
  .exact .inl h
  .obtain⟨hj,h1⟩:=get j _ h1;rw[hs j hj]at h2;exact .inr ⟨j,e,h1,h2⟩
 have hlen:(U.set i Ae).length=Y'.length:=by rw[AR,hl];exact x.len
 refine⟨⟨λj e h=>?_,λj e h hn=>?_,hlen⟩,λa h=>x.aok a (sub a h),λj e a h1 h2=>?_,λj k e f a h1 h2 h3 h4=>?_,x.same,hlen,λj h=>?_⟩
 .obtain⟨hj,h1⟩:=get j _ h;obtain⟨w',q,rw'⟩:=x.good.sh j e h1;exact⟨w',by rw[hs j hj];exact q,Rep.sub sub _ rw'⟩
 .obtain⟨hj,h1⟩:=get j _ h;obtain⟨a,xs,ds,q,z,ha,hh,rr⟩:=x.good.ow j e h1 hn;exact⟨a,xs,ds,by rw[hs j hj];exact q,z,.inr ⟨j,e,h,by rw[hs j hj];exact q⟩,hh,Reps.sub sub _ rr⟩
 .obtain⟨hj,h1⟩:=get j _ h1;rw[hs j hj]at h2;exact x.new j e a h1 h2
 .obtain⟨hj,h1⟩:=get j _ h1;obtain⟨hk,h2⟩:=get k _ h2;rw[hs j hj]at h3;rw[hs k hk]at h4;exact x.dis j k e f a h1 h2 h3 h4
 .obtain⟨hj,h1⟩:=get j _ h;obtain⟨a,xs,p1,p2,p3⟩:=x.pin j h1;exact⟨a,xs,p1,by rw[hs j hj];exact p2,p3⟩
theorem Sx.mut(x:Sx K CL Fz B U Y H){b:Ak}{ys zs:Ac V}(hb:B b)(hf:∀ o,¬ Fz b o)(hh:H b=Aa (.lst ys)):Sx K CL Fz B U Y (L2.upd H b (.lst zs)):=by
 have kp:Kp (Bf B U Y) H (L2.upd H b (.lst zs)):=λc o e na=>by
  rw[Bb (λz=>na (.inl (by rw[z];exact hb)))]
  exact e
 have oth:∀(j:Af)(d:D)(a:Ak),U[j]?=Aa (Aa (d,Ab))->Y[j]?=Aa (Aa (.ref a))->a≠b:=λj d a h1 h2 z=>(x.new j d a h1 h2).2 (by rw[z];exact hb)
 refine⟨⟨λi d h=>?_,λi d h hn=>?_,x.len⟩,λa h=>?_,x.new,x.dis,λc o z=>?_,x.len,λj h=>?_⟩
 .obtain⟨v,q,r⟩:=x.good.sh i d h;exact⟨v,q,Rep.kp kp _ r⟩
 .obtain⟨a,xs,ds,q,z,ha,h2,r⟩:=x.good.ow i d h hn;exact⟨a,xs,ds,q,z,ha,by rw[Bb (oth i d a h q)];exact h2,Reps.kp kp _ r⟩
 .by_cases z:a=b
  .exact⟨zs,by rw[z];exact Db⟩
  .rw[Bb z];exact x.aok a h
 .rw[Bb (λz'=>hf o (by rw[<-z'];exact z))]
  exact x.same c o z
 .obtain⟨a,xs,p1,p2,p3⟩:=x.pin j h;exact⟨a,xs,p1,p2,by rw[Bb (oth j _ a h p2)];exact p3⟩
theorem UZ{A:Ak->Prop}(hA:AOk H A):∀{vs:Ac (Ag×V)}{fs:Ac (Ag×D)},(fs.all λf=>nlD 5 f.2)=Ab->Repf K CL H A0 vs fs->Repf K CL H A vs fs
 |[],[],_,_=>trivial
 |_::_,(_,d)::fs,h,r=>by
  rw[B0,Ai]at h;exact⟨⟨r.1.1,ND hA 5 _ h.1 r.1.2⟩,UZ hA h.2 r.2⟩
 |[],_::_,_,r=>r.elim
 |_::_,[],_,r=>r.elim
theorem wC(hA:AOk H A){v:V}(ho:N0 d=Ab)(r:Rep K CL H A0 v d):Rep K CL H A v d:=by
 cases d with
 |obj c fs=>
  obtain⟨a,C,dx,vs,e,_,hc,s,rf⟩:=r;refine⟨a,C,dx,vs,e,λz=>?_,hc,s,UZ hA ho rf⟩
  obtain⟨ys,q⟩:=hA a z;rw[s]at q;cases q
 |_=>cases ho
theorem UY{A:Ak->Prop}(hA:AOk H A):∀{vs:Ac V}{ds:Ac D},ds.all N0=Ab->Reps K CL H A0 vs ds->Reps K CL H A vs ds
 |[],[],_,_=>trivial
 |_::_,d::ds,h,r=>by
  rw[B0,Ai]at h;exact⟨wC hA h.1 r.1,UY hA h.2 r.2⟩
 |[],_::_,_,r=>r.elim
 |_::_,[],_,r=>r.elim
theorem Vc(hA:AOk H A')(hs:∀ b,A' b->A b\/N b)(hN:∀ b,N b->∃ z zs,H b=Aa (.lst (z::zs))/\((∃ i,z=.int i)\/∃ c ws,z=.ref c/\H c=Aa (.lst ws))){v:V}(ho:ME d=Ab)(r:Rep K CL H A v d):Rep K CL H A' v d:=by
 cases d with
 |lst ds=>
  cases ds with
  |nil=>cases ho
  |cons d0 ds=>
   have ho:(d0::ds).all N0=Ab:=ho;obtain⟨q,xs,rfl,na,s,rs⟩:=r;refine⟨q,xs,rfl,?_,s,UY hA ho (Reps.sub (λ_ z=>z.elim) _ rs)⟩
   rcases s with s|s
   .refine na.imp (λna z=>(hs q z).elim na λhn=>?_) id
    obtain⟨z,zs,h1,h2⟩:=hN q hn;have exs:xs=z::zs:=by
     rcases s with s|⟨o,s⟩<;>rw[h1]at s<;>cases s
     rfl
    subst exs;rw[B0,Ai]at ho;have r0:=rs.1;have ho0:=ho.1;cases d0 with
    |obj c fs=>
     obtain⟨a,C,dx,vs,e,_,hc,sa,rf⟩:=r0;rcases h2 with ⟨i,rfl⟩|⟨c,ws,rfl,hw⟩
     .cases e
     .cases e;rw[hw]at sa;cases sa
    |_=>cases ho0
   .exact .inr s
 |_=>cases ho
theorem UX(h:∀(j:Af)(d:D),U[j]?=Aa (Aa (d,Ab))->U'[j]?=Aa (Aa (d,Ab))):∀ b,Bf (λb=>B b\/N b) U Y b->Bf B U' Y b\/N b:=λb z=>by
 rcases z with (z|z)|⟨j,d,h1,h2⟩
 .exact .inl (.inl z)
 .exact .inr z
 .exact .inl (.inr ⟨j,d,h j d h1,h2⟩)
end
section
variable{X:Cx}{CL:ClA}{W:XW}
theorem Nt{r:R α}{f:α->O}(h:Bv K CL Fz B W (O.of U (noX r) f) D'):∃ d,r=.ok d/\Bv K CL Fz B W (f d) D':=by
 cases r with
 |ok d=>exact⟨d,rfl,h⟩
 |exn y=>exact h.elim
 |bad=>exact h.elim
theorem SE.any{e:Am}{f:Rho->R D}(h:SE X CL W e f):PE X e (λY H Q=>∃ A,AOk H A/\∃ U,Good X.K CL A U Y H/\AV (λH=>Rep X.K CL H A) W H (f U) Q):=λpI s Y H Q I ⟨A,z⟩=>h A pI s Y H Q I z
theorem SB.any{e:Am}{f:Rho->R Al}(h:SB X CL W e f):PT X e (λY H Q=>∃ A,AOk H A/\∃ U,Good X.K CL A U Y H/\CU W H (f U) Q):=λpI s Y H Q I ⟨A,z⟩=>h A pI s Y H Q I z
theorem eA{i p r n:Af}{es:Ac Am}{e2 e3 c:Am}{tn vi vn:Am}{S1 S2 S3:AM}{bd rest:Ac AM}{lp ap cp q1 q2 q3:AF}{f1:Rho->R (Ac D)}{f2 f3:Rho->R D}{g:Rho->O}(hip:i≠p)(hir:i≠r)(hin:i≠n)(hp:DP (model X.prog X.w) X.A X.env X.xe)(hc:X.calm=Ab)(h1:NwA X CL W es f1)(hz:∀ U ds,f1 U=.ok ds->ds.length<=100000)(h2:SE X CL W e2 f2)(h3:SE X CL W e3 f3)(h4:SB X CL W c fc)(k1:∀ te,PE X (.List es lp) te->PS X S1 (KI te (EG i)))(k2:∀ te,PE X e2 te->PS X S2 (KI te (EG p)))(k3:∀ te,PE X e3 te->PS X S3 (KI te (EG r)))(hg:PG X tn (EG n))(hvi:PE X vi (Ej i))(hvn:PE X vn (Ej n))(hset:∀ x,BQ vi X.env x=pure x)(hbase:BO vn "clear" X.env (eval vn X.env)=eval vn X.env)(hline:(ap.endLine==cp.line)=Ab)(hsw:Cn (.Call (.Attribute vn "clear" ap) [] [] cp) Ae q1.line X.env=pure Ad)(hr:SSs X CL W rest g):
  SSs X CL W (S1::S2::S3 :: .If c bd [] q2 :: .For tn vi [.Expr (.Call (.Attribute vn "clear" ap) [] [] cp) q1] [] q3::rest) (λU=>(Mr f1 f2 f3 fc i p r n U).seq g):=λFz B pI s Y H D I ⟨U,x,q⟩=>by
 have q':Bv X.K CL Fz B W (Mr f1 f2 f3 fc i p r n U) {D with nx:=λY H=>∃ U,Sx X.K CL Fz B U Y H/\Bv X.K CL Fz B W (g U) D}:=by
  dsimp only at q;cases e:Mr f1 f2 f3 fc i p r n U with
  |next U'=>rw[e]at q;exact λY' H' x'=>⟨U',x',q⟩
  |ret d b=>rw[e]at q;exact q
  |brk U'=>rw[e]at q;exact q
  |cont U'=>rw[e]at q;exact q
  |exn y U'=>rw[e]at q;exact q
  |bad=>rw[e]at q;exact q
 clear q
 unfold Mr at q';obtain⟨ds,e1,q'⟩:=Nt q';obtain⟨d2,e2',q'⟩:=Nt q';obtain⟨d3,e3',q'⟩:=Nt q';obtain⟨k,e4',q'⟩:=Nt q';by_cases hok:(!k&&(ds.all MF && !ds.isEmpty&&(ME d2&&ME d3)&&(decide (i<U.length)&&decide (n<U.length))))=Ab
 rotate_left
 .rw[AB hok]at q';exact q'.elim
 rw[As hok]at q';simp only[Ai,Br,Az]at hok;obtain⟨hk,⟨⟨hd,hne⟩,hs2,hs3⟩,hil0,hnl0⟩:=hok;subst hk;refine(JP (k1 _ (UU (h1 (Bf B U Y)))) (JP (k2 _ h2.any) (JP (k3 _ h3.any)
  (JP (VJ (t:=U_8) h4.any cV Uh)
   (JP (P5 (pos:=q3) hp hc (UR hvi) hg (Ja (Ir (oH DB PySem.F.slot_list_clear PySem.F.type_list_clear fC hvn hbase hline) hsw)) hset) (hr Fz B)))))) pI s Y H D I ?_
 -- the first statement
 refine⟨x.aok,U,x.good,?_⟩;rw[e1];intro vs H1 s1 r1;refine⟨by rw[r1.1.length,Bs];have:=hz U ds e1;omega,λa ha=>?_⟩
 have fr:=r1.2 hd;have sm1:Ay H (upd H1 a (.lst vs)):=s1.trans (En ha _);have x1:=(x.grow sm1).set i (PK (x.aok.same s1) ha r1.1);have nea:∀ u∈vs,∀ b,u=.ref b->b≠a:=λu hu b eb z=>by
  obtain⟨b',j,ys,eb',_,hb⟩:=fr u hu;rw[eb]at eb';cases eb';rw[z,ha]at hb;cases hb
 -- the second
 refine⟨_,x1.aok,_,x1.good,?_⟩;rw[e2'];intro v2 H2 sm2 r2;have x2:=(x1.grow sm2).set p r2
 -- the third
 refine⟨_,x2.aok,_,x2.good,?_⟩;rw[e3'];intro v3 H3 sm3 r3;have x3:=(x2.grow sm3).set r r3
 -- the test
 refine⟨_,x3.aok,_,x3.good,?_⟩;rw[e4'];intro H4 sm4;show VB _ _ _
 -- what is known now
 let Nn:Ak->Prop:=λb=>b=a\/.ref b∈vs
 have h4a:H4 a=Aa (.lst vs):=sm4 _ _ (sm3 _ _ (sm2 _ _ Db));have h4b:∀ u∈vs,∃ b j ys,u=.ref b/\H b=Ae/\H4 b=Aa (.lst (.int j::ys)):=λu hu=>by
  obtain⟨b,j,ys,eb,h0,hb⟩:=fr u hu;exact⟨b,j,ys,eb,h0,sm4 _ _ (sm3 _ _ (sm2 _ _ (En ha _ _ _ hb)))⟩
 have hn0:∀ b,Nn b->H b=Ae:=λb hb=>by
  rcases hb with rfl|hb
  .exact s1.free ha
  .obtain⟨b',j,ys,eb,h0,_⟩:=h4b _ hb;cases eb;exact h0
 have hl4:∀ b,Nn b->∃ xs,H4 b=Aa (.lst xs):=λb hb=>by
  rcases hb with rfl|hb
  .exact⟨vs,h4a⟩
  .obtain⟨b',j,ys,eb,_,hb'⟩:=h4b _ hb;cases eb;exact⟨_,hb'⟩
 have hcont:∀ b,Nn b->∃ z zs,H4 b=Aa (.lst (z::zs))/\((∃ i,z=.int i)\/∃ c ws,z=.ref c/\H4 c=Aa (.lst ws)):=λb hb=>by
  rcases hb with rfl|hb
  .cases vs with
   |nil=>
    cases ds with
    |nil=>cases hne
    |cons d ds=>exact r1.1.elim
   |cons u us=>
    obtain⟨b',j,ys,eb,_,hb'⟩:=h4b u (AJ ..);exact⟨u,us,h4a,.inr ⟨b',_,eb,hb'⟩⟩
  .obtain⟨b',j,ys,eb,_,hb'⟩:=h4b _ hb;cases eb;exact⟨_,_,hb',.inl ⟨j,rfl⟩⟩
 have y0:Sx X.K CL Fz (λb=>B b\/Nn b) U Y H4:=x.supB (((sm1.trans sm2).trans sm3).trans sm4) hn0 hl4
 have y1:Sx X.K CL Fz (λb=>B b\/Nn b) (U.set i Ae) (Y.set i (Aa (.ref a))) H4:=y0.drop i (by rw[AR]) λj hj=>BA hj
 have y2:=y1.set p (Vc y1.aok (UX λj d hj=>by
  by_cases z:i=j
  .subst z;have:=Ff hj;cases this
  .rw[BA z]at hj ⊢;exact hj) hcont hs2 ((r2.same sm3).same sm4))
 have y3:=y2.set r (Vc y2.aok (UX λj d hj=>by
  by_cases zp:p=j
  .subst zp;have:=Ff hj;cases this
  .rw[BA zp]at hj ⊢;by_cases z:i=j
   .subst z;have:=Ff hj;cases this
   .rw[BA z]at hj ⊢;exact hj) hcont hs3 (r3.same sm4))
 have y4:=y3.drop n (Y':=((Y.set i (Aa (.ref a))).set p (Aa v2)).set r (Aa v3)) rfl λ_ _=>rfl
 -- the loop
 have hil:i<Y.length:=by rw[<-x.len];exact hil0
 have hvar:(((Y.set i (Aa (.ref a))).set p (Aa v2)).set r (Aa v3))[i]?=Aa (Aa (.ref a)):=by
  rw[BA (B4 hir),BA (B4 hip),BV hil]
 refine⟨.ref a,hvar,.inl ⟨a,rfl,vs,SqL.of h4a,λ_=>?_⟩⟩
 refine⟨λk m Y' H'=>m=vs.length-k/\k<=vs.length/\Sx X.K CL Fz (λb=>B b\/Nn b) _ Y' H'/\H' a=Aa (.lst vs)/\∀ u∈vs,∃ b ys,u=.ref b/\H' b=Aa (.lst ys),⟨vs.length,by simp,Cv _,y4,h4a,λu hu=>let ⟨b,j,ys,eb,_,hb⟩:=h4b u hu;⟨b,_,eb,hb⟩⟩,?_⟩
 rintro k m Y' H' ⟨rfl,hk,y',ha',hb'⟩;by_cases hlt:k<vs.length
 .refine .inr ⟨⟨vs,vs[k],SqL.of ha',AE hlt⟩,λY'' H''=>Sx X.K CL Fz (λb=>B b\/Nn b) _ Y'' H''/\H'' a=Aa (.lst vs)/\∀ u∈vs,∃ b ys,u=.ref b/\H'' b=Aa (.lst ys),λY'' H'' z=>⟨vs.length-(k+1),by omega,rfl,hlt,z⟩,?_⟩
  rintro v H'' ⟨rfl,hy⟩;have ev:=hy vs (SqL.of ha');have hm:v∈vs:=Gx ev;obtain⟨b,ys,rfl,hb⟩:=hb' v hm;have hnl:n<Y'.length:=by
   rw[<-y'.len];simp only[AR];exact hnl0
  refine⟨.ref b,BV hnl,.inl ⟨rfl,ys,SqL.of hb⟩,b,ys,rfl,rfl,hb,?_⟩;have y5:=y'.drop n (Y':=Y'.set n (Aa (.ref b))) (by rw[AR]) λj hj=>BA hj
  rw[JC]at y5;refine⟨y5.mut (.inr (.inr hm)) (λo z=>?_) hb,?_,λu hu=>?_⟩
  .have:=x.same b o z;rw[hn0 b (.inr hm)]at this;cases this
  .rw[Bb (B4 (nea _ hm b rfl))];exact ha'
  .obtain⟨b2,zs,eb,hb2⟩:=hb' u hu;by_cases z:b2=b
   .exact⟨b2,[],eb,by rw[z];exact Db⟩
   .exact⟨b2,zs,eb,by rw[Bb z];exact hb2⟩
 .exact .inl ⟨⟨vs,SqL.of ha',by omega⟩,q' Y' H' y'.subB⟩
end
theorem noF{P:Prop}(h:Ad=Ab):P:=nomatch h
structure Tc where
 sc:BP
 N:Ac Ag
 /-- a def's name,its number,how many parameters it has -/
 fns:Ac (Ag×Af×Af)
 /-- built-in names that the text does not hide -/
 bl:Ac Ag
 /-- exceptions' classes by their names: those that are raised,all that are asked for -/
 rzs:Ac (Ag×Af)
 exs:Ac (Ag×Af)
 /-- the text's constants -/
 gls:Ac (Ag×Af)
 /-- in no comprehension -/
 tp:Al
noncomputable def QJ(T:Tc)(x:Ag):Al:=match T.sc.names.lookup x with
  |some .local=>Ab
  |some .cell=>Ab
  |some .free=>Ab
  |_=>Ad
noncomputable def G6(T:Tc)(x:Ag):Al:=match T.sc.names.lookup x with
  |some .local=>Ab
  |some .cell=>Ab
  |_=>Ad
noncomputable def glB(T:Tc)(x:Ag):Al:=T.sc.names.lookup x==Aa .globalImplicit
noncomputable def FG(x:Ag):Al:=(!(x==("__debug__" : Ag)) && !(x==("__classdict__" : Ag)) && !(x==("__name__" : Ag)))&&(HX.lookup x).isNone
noncomputable def isV(T:Tc)(x:Ag)(i:Af):Al:=T.N[i]? == Aa x&&QJ T x&&FG x
noncomputable def isB(T:Tc)(x:Ag):Al:=T.bl.contains x&&glB T x&&FG x
noncomputable def QP(T:Tc)(e:Am)(b:BI)(as:Es):Al:=match e with
  |.Call (.Attribute (.Name x _) m ap) [.Name y _] [] cp=>decide (b=.index)&&m==("index" : Ag)&&ap.endLine==cp.line&&(match as with | .cons (.var i) (.cons (.var j) .nil)=>isV T x i&&isV T y j|_=>Ad)
  |.Call (.Attribute (.Name x _) m ap) [.Constant .none _ _] [] cp=>decide (b=.index)&&m==("index" : Ag)&&ap.endLine==cp.line&&(match as with | .cons (.var i) (.cons .non .nil)=>isV T x i|_=>Ad)
  |_=>Ad
theorem A7{a b:Al}(h:(a&&b)=Ab):a=Ab/\b=Ab:=(Ai a b).mp h
theorem orT{a b:Al}(h:(a||b)=Ab):a=Ab\/b=Ab:=(BL a b).mp h
noncomputable def EU(e:Am)(F:Ag->Al):Al:=if c:e.ctorIdx=23 then Ye (motive_1:=λ_=>Al) e c λx _=>F x else Ad
theorem E4{e:Am}{F:Ag->Al}(h:EU e F=Ab):∃ x p,e=Yd x p/\F x=Ab:=by
 by_cases c:e.ctorIdx=23
 .exact Ye (motive_1:=λe=>EU e F=Ab->∃ x p,e=Yd x p/\F x=Ab) e c (λx p h=>⟨x,p,rfl,h⟩) h
 .exact noF ((BZ c).symm.trans h)
noncomputable def Hk(e:Am)(F:Const->Al):Al:=if c:e.ctorIdx=19 then X7 (motive_1:=λ_=>Al) e c λc _ _=>F c else Ad
theorem JQ{e:Am}{F:Const->Al}(h:Hk e F=Ab):∃ c u p,e=X6 c u p/\F c=Ab:=by
 by_cases c:e.ctorIdx=19
 .exact X7 (motive_1:=λe=>Hk e F=Ab->∃ c u p,e=X6 c u p/\F c=Ab) e c (λc u p h=>⟨c,u,p,rfl,h⟩) h
 .exact noF ((BZ c).symm.trans h)
noncomputable def NQ(e:Am)(F:Am->Fx->Am->Al):Al:=if c:e.ctorIdx=2 then XY (motive_1:=λ_=>Al) e c λx o y _=>F x o y else Ad
theorem SU{e:Am}{F:Am->Fx->Am->Al}(h:NQ e F=Ab):∃ x o y p,e=XX x o y p/\F x o y=Ab:=by
 by_cases c:e.ctorIdx=2
 .exact XY (motive_1:=λe=>NQ e F=Ab->∃ x o y p,e=XX x o y p/\F x o y=Ab) e c (λx o y p h=>⟨x,o,y,p,rfl,h⟩) h
 .exact noF ((BZ c).symm.trans h)
noncomputable def KM(e:Am)(F:Kb->Am->Al):Al:=if c:e.ctorIdx=3 then Yn (motive_1:=λ_=>Al) e c λo x _=>F o x else Ad
theorem Nh{e:Am}{F:Kb->Am->Al}(h:KM e F=Ab):∃ o x p,e=Ym o x p/\F o x=Ab:=by
 by_cases c:e.ctorIdx=3
 .exact Yn (motive_1:=λe=>KM e F=Ab->∃ o x p,e=Ym o x p/\F o x=Ab) e c (λo x p h=>⟨o,x,p,rfl,h⟩) h
 .exact noF ((BZ c).symm.trans h)
noncomputable def J5(e:Am)(F:BoolOp->Ac Am->AF->Al):Al:=if c:e.ctorIdx=0 then X1 (motive_1:=λ_=>Al) e c λo xs p=>F o xs p else Ad
theorem L5{e:Am}{F:BoolOp->Ac Am->AF->Al}(h:J5 e F=Ab):∃ o xs p,e=XZ o xs p/\F o xs p=Ab:=by
 by_cases c:e.ctorIdx=0
 .exact X1 (motive_1:=λe=>J5 e F=Ab->∃ o xs p,e=XZ o xs p/\F o xs p=Ab) e c (λo xs p h=>⟨o,xs,p,rfl,h⟩) h
 .exact noF ((BZ c).symm.trans h)
noncomputable def Mu(e:Am)(F:Am->Ac Dr->Ac Am->Al):Al:=if c:e.ctorIdx=15 then X5 (motive_1:=λ_=>Al) e c λx os ys _=>F x os ys else Ad
theorem SQ{e:Am}{F:Am->Ac Dr->Ac Am->Al}(h:Mu e F=Ab):∃ x os ys p,e=X4 x os ys p/\F x os ys=Ab:=by
 by_cases c:e.ctorIdx=15
 .exact X5 (motive_1:=λe=>Mu e F=Ab->∃ x os ys p,e=X4 x os ys p/\F x os ys=Ab) e c (λx os ys p h=>⟨x,os,ys,p,rfl,h⟩) h
 .exact noF ((BZ c).symm.trans h)
noncomputable def ID(e:Am)(F:Am->Ac Am->Ac C4->AF->Al):Al:=if c:e.ctorIdx=16 then X3 (motive_1:=λ_=>Al) e c λf as ks p=>F f as ks p else Ad
theorem Kr{e:Am}{F:Am->Ac Am->Ac C4->AF->Al}(h:ID e F=Ab):∃ f as ks p,e=X2 f as ks p/\F f as ks p=Ab:=by
 by_cases c:e.ctorIdx=16
 .exact X3 (motive_1:=λe=>ID e F=Ab->∃ f as ks p,e=X2 f as ks p/\F f as ks p=Ab) e c (λf as ks p h=>⟨f,as,ks,p,rfl,h⟩) h
 .exact noF ((BZ c).symm.trans h)
noncomputable def Hl(e:Am)(F:Am->Ag->AF->Al):Al:=if c:e.ctorIdx=20 then XV (motive_1:=λ_=>Al) e c λo m p=>F o m p else Ad
theorem JR{e:Am}{F:Am->Ag->AF->Al}(h:Hl e F=Ab):∃ o m p,e=XU o m p/\F o m p=Ab:=by
 by_cases c:e.ctorIdx=20
 .exact XV (motive_1:=λe=>Hl e F=Ab->∃ o m p,e=XU o m p/\F o m p=Ab) e c (λo m p h=>⟨o,m,p,rfl,h⟩) h
 .exact noF ((BZ c).symm.trans h)
noncomputable def NJ(e:Am)(F:Am->Am->Al):Al:=if c:e.ctorIdx=21 then Yj (motive_1:=λ_=>Al) e c λx y _=>F x y else Ad
theorem SL{e:Am}{F:Am->Am->Al}(h:NJ e F=Ab):∃ x y p,e=Yi x y p/\F x y=Ab:=by
 by_cases c:e.ctorIdx=21
 .exact Yj (motive_1:=λe=>NJ e F=Ab->∃ x y p,e=Yi x y p/\F x y=Ab) e c (λx y p h=>⟨x,y,p,rfl,h⟩) h
 .exact noF ((BZ c).symm.trans h)
noncomputable def Qi(e:Am)(F:Ao Am->Ao Am->Ao Am->Al):Al:=if c:e.ctorIdx=26 then Yh (motive_1:=λ_=>Al) e c λl u s _=>F l u s else Ad
theorem gA{e:Am}{F:Ao Am->Ao Am->Ao Am->Al}(h:Qi e F=Ab):∃ l u s p,e=Yg l u s p/\F l u s=Ab:=by
 by_cases c:e.ctorIdx=26
 .exact Yh (motive_1:=λe=>Qi e F=Ab->∃ l u s p,e=Yg l u s p/\F l u s=Ab) e c (λl u s p h=>⟨l,u,s,p,rfl,h⟩) h
 .exact noF ((BZ c).symm.trans h)
noncomputable def J3(e:Am)(F:Ac Am->Al):Al:=if c:e.ctorIdx=25 then Yl (motive_1:=λ_=>Al) e c λxs _ _=>F xs else Ad
theorem Lb{e:Am}{F:Ac Am->Al}(h:J3 e F=Ab):∃ xs c p,e=Yk xs c p/\F xs=Ab:=by
 by_cases c:e.ctorIdx=25
 .exact Yl (motive_1:=λe=>J3 e F=Ab->∃ xs c p,e=Yk xs c p/\F xs=Ab) e c (λxs c p h=>⟨xs,c,p,rfl,h⟩) h
 .exact noF ((BZ c).symm.trans h)
noncomputable def Mt(e:Am)(F:Ac Am->Al):Al:=if c:e.ctorIdx=24 then X9 (motive_1:=λ_=>Al) e c λxs _=>F xs else Ad
theorem M4{e:Am}{F:Ac Am->Al}(h:Mt e F=Ab):∃ xs p,e=X8 xs p/\F xs=Ab:=by
 by_cases c:e.ctorIdx=24
 .exact X9 (motive_1:=λe=>Mt e F=Ab->∃ xs p,e=X8 xs p/\F xs=Ab) e c (λxs p h=>⟨xs,p,rfl,h⟩) h
 .exact noF ((BZ c).symm.trans h)
noncomputable def Qj(e:Am)(F:Am->Ac Jw->BP->Al):Al:=if c:e.ctorIdx=8 then Yc (motive_1:=λ_=>Al) e c λx gs sc _=>F x gs sc else Ad
theorem gE{e:Am}{F:Am->Ac Jw->BP->Al}(h:Qj e F=Ab):∃ x gs sc p,e=Yb x gs sc p/\F x gs sc=Ab:=by
 by_cases c:e.ctorIdx=8
 .exact Yc (motive_1:=λe=>Qj e F=Ab->∃ x gs sc p,e=Yb x gs sc p/\F x gs sc=Ab) e c (λx gs sc p h=>⟨x,gs,sc,p,rfl,h⟩) h
 .exact noF ((BZ c).symm.trans h)
noncomputable def Qk(e:AM)(F:Ac Am->Am->Al):Al:=if c:e.ctorIdx=5 then YQ (motive_2:=λ_=>Al) e c λts v _=>F ts v else Ad
theorem gJ{e:AM}{F:Ac Am->Am->Al}(h:Qk e F=Ab):∃ ts v p,e=YO ts v p/\F ts v=Ab:=by
 by_cases c:e.ctorIdx=5
 .exact YQ (motive_2:=λe=>Qk e F=Ab->∃ ts v p,e=YO ts v p/\F ts v=Ab) e c (λts v p h=>⟨ts,v,p,rfl,h⟩) h
 .exact noF ((BZ c).symm.trans h)
noncomputable def J4(e:AM)(F:Am->Al):Al:=if c:e.ctorIdx=24 then YS (motive_2:=λ_=>Al) e c λv _=>F v else Ad
theorem M6{e:AM}{F:Am->Al}(h:J4 e F=Ab):∃ v p,e=YR v p/\F v=Ab:=by
 by_cases c:e.ctorIdx=24
 .exact YS (motive_2:=λe=>J4 e F=Ab->∃ v p,e=YR v p/\F v=Ab) e c (λv p h=>⟨v,p,rfl,h⟩) h
 .exact noF ((BZ c).symm.trans h)
noncomputable def NK(e:AM)(F:Ao Am->Al):Al:=if c:e.ctorIdx=3 then YY (motive_2:=λ_=>Al) e c λo _=>F o else Ad
theorem SN{e:AM}{F:Ao Am->Al}(h:NK e F=Ab):∃ o p,e=YX o p/\F o=Ab:=by
 by_cases c:e.ctorIdx=3
 .exact YY (motive_2:=λe=>NK e F=Ab->∃ o p,e=YX o p/\F o=Ab) e c (λo p h=>⟨o,p,rfl,h⟩) h
 .exact noF ((BZ c).symm.trans h)
noncomputable def MH(e:AM)(F:Am->Ac AM->Ac AM->Al):Al:=if c:e.ctorIdx=12 then YU (motive_2:=λ_=>Al) e c λt xs ys _=>F t xs ys else Ad
theorem PH{e:AM}{F:Am->Ac AM->Ac AM->Al}(h:MH e F=Ab):∃ t xs ys p,e=Stmt.If t xs ys p/\F t xs ys=Ab:=by
 by_cases c:e.ctorIdx=12
 .exact YU (motive_2:=λe=>MH e F=Ab->∃ t xs ys p,e=Stmt.If t xs ys p/\F t xs ys=Ab) e c (λt xs ys p h=>⟨t,xs,ys,p,rfl,h⟩) h
 .exact noF ((BZ c).symm.trans h)
noncomputable def Lv(e:AM)(F:Am->Am->Ac AM->Ac AM->Al):Al:=if c:e.ctorIdx=9 then YT (motive_2:=λ_=>Al) e c λt it xs ys _=>F t it xs ys else Ad
theorem M5{e:AM}{F:Am->Am->Ac AM->Ac AM->Al}(h:Lv e F=Ab):∃ t it xs ys p,e=Stmt.For t it xs ys p/\F t it xs ys=Ab:=by
 by_cases c:e.ctorIdx=9
 .exact YT (motive_2:=λe=>Lv e F=Ab->∃ t it xs ys p,e=Stmt.For t it xs ys p/\F t it xs ys=Ab) e c (λt it xs ys p h=>⟨t,it,xs,ys,p,rfl,h⟩) h
 .exact noF ((BZ c).symm.trans h)
noncomputable def NL(e:AM)(F:Ao Am->Ao Am->Al):Al:=if c:e.ctorIdx=16 then YW (motive_2:=λ_=>Al) e c λa b _=>F a b else Ad
theorem gB{e:AM}{F:Ao Am->Ao Am->Al}(h:NL e F=Ab):∃ a b p,e=YV a b p/\F a b=Ab:=by
 by_cases c:e.ctorIdx=16
 .exact YW (motive_2:=λe=>NL e F=Ab->∃ a b p,e=YV a b p/\F a b=Ab) e c (λa b p h=>⟨a,b,p,rfl,h⟩) h
 .exact noF ((BZ c).symm.trans h)
noncomputable def Iz{α:Type}:Ac α->(α->Ac α->Al)->Al
 |[],_=>Ad
 |x::xs,F=>F x xs
theorem IV{l:Ac α}{F:α->Ac α->Al}(h:Iz l F=Ab):∃ x xs,l=x::xs/\F x xs=Ab:=by
 cases l with
 |nil=>exact noF h
 |cons x xs=>exact⟨x,xs,rfl,h⟩
theorem E3{l:Ac α}(h:l.isEmpty=Ab):l=[]:=List.isEmpty_iff.mp h
noncomputable def D3{α:Type}(l:Ac α)(F:α->Al):Al:=Iz l λx r=>r.isEmpty&&F x
theorem EV{l:Ac α}{F:α->Al}(h:D3 l F=Ab):∃ x,l=[x]/\F x=Ab:=by
 obtain⟨x,r,rfl,h⟩:=IV h;obtain⟨h1,h2⟩:=A7 h;exact⟨x,by rw[E3 h1],h2⟩
noncomputable def Hj{α:Type}(l:Ac α)(F:α->α->Al):Al:=Iz l λx r=>D3 r λy=>F x y
theorem Jf{l:Ac α}{F:α->α->Al}(h:Hj l F=Ab):∃ x y,l=[x,y]/\F x y=Ab:=by
 obtain⟨x,r,rfl,h⟩:=IV h;obtain⟨y,rfl,h⟩:=EV h;exact⟨x,y,rfl,h⟩
noncomputable def V0{α:Type}(l:Ac α)(F:α->α->α->Al):Al:=Iz l λx r=>Hj r λy z=>F x y z
theorem fZ{l:Ac α}{F:α->α->α->Al}(h:V0 l F=Ab):∃ x y z,l=[x,y,z]/\F x y z=Ab:=by
 obtain⟨x,r,rfl,h⟩:=IV h;obtain⟨y,z,rfl,h⟩:=Jf h;exact⟨x,y,z,rfl,h⟩
noncomputable def HR(e:Am)(F:Ag->Ac Am->Al):Al:=ID e λf as ks _=>EU f λg=>ks.isEmpty&&F g as
theorem Ij{e:Am}{F:Ag->Ac Am->Al}(h:HR e F=Ab):∃ g p as q,e=.Call (.Name g p) as [] q/\F g as=Ab:=by
 obtain⟨f,as,ks,q,rfl,h⟩:=Kr h;obtain⟨g,p,rfl,h⟩:=E4 h;obtain⟨h1,h2⟩:=A7 h;exact⟨g,p,as,q,by rw[E3 h1],h2⟩
noncomputable def Kv(e:Am)(F:Ag->Am->Ac Am->Al):Al:=HR e λg l=>Iz l λx xs=>F g x xs
theorem IW{e:Am}{F:Ag->Am->Ac Am->Al}(h:Kv e F=Ab):∃ g p x xs q,e=.Call (.Name g p) (x::xs) [] q/\F g x xs=Ab:=by
 obtain⟨g,p,as,q,rfl,h⟩:=Ij h;obtain⟨x,xs,rfl,h⟩:=IV h;exact⟨g,p,x,xs,q,rfl,h⟩
noncomputable def NM(st:AM)(F:Ag->Ag->Ac Am->Al):Al:=J4 st λe=>ID e λf as ks cp=>Hl f λo m ap=>EU o λx=>ks.isEmpty&&(ap.endLine==cp.line&&F x m as)
theorem Pa{st:AM}{F:Ag->Ag->Ac Am->Al}(h:NM st F=Ab):∃ x p m ap as cp q,st=.Expr (.Call (.Attribute (.Name x p) m ap) as [] cp) q/\ap.endLine=cp.line/\F x m as=Ab:=by
 obtain⟨e,q,rfl,h⟩:=M6 h;obtain⟨f,as,ks,cp,rfl,h⟩:=Kr h;obtain⟨o,m,ap,rfl,h⟩:=JR h;obtain⟨x,p,rfl,h⟩:=E4 h;obtain⟨h1,h⟩:=A7 h;obtain⟨h2,h3⟩:=A7 h;exact⟨x,p,m,ap,as,cp,q,by rw[E3 h1],eq_of_beq h2,h3⟩
noncomputable def V1(st:AM)(F:Am->Am->Al):Al:=Qk st λts v=>D3 ts λt=>F t v
theorem gK{st:AM}{F:Am->Am->Al}(h:V1 st F=Ab):∃ t v q,st=.Assign [t] v q/\F t v=Ab:=by
 obtain⟨ts,v,q,rfl,h⟩:=gJ h;obtain⟨t,rfl,h⟩:=EV h;exact⟨t,v,q,rfl,h⟩
noncomputable def JW(st:AM)(F:Ag->Am->Al):Al:=V1 st λt v=>EU t λx=>F x v
theorem Lc{st:AM}{F:Ag->Am->Al}(h:JW st F=Ab):∃ x p v q,st=.Assign [.Name x p] v q/\F x v=Ab:=by
 obtain⟨t,v,q,rfl,h⟩:=gK h;obtain⟨x,p,rfl,h⟩:=E4 h;exact⟨x,p,v,q,rfl,h⟩
noncomputable def QU(e:Am)(F:Am->Am->Am->Ac Am->BP->Al):Al:=Qj e λx gs sc=>D3 gs λg=>decide (g.is_async=0)&&F x g.target g.iter g.ifs sc
theorem T5{e:Am}{F:Am->Am->Am->Ac Am->BP->Al}(h:QU e F=Ab):∃ x t it ifs sc p,e=.ListComp x [⟨t,it,ifs,0⟩] sc p/\F x t it ifs sc=Ab:=by
 obtain⟨x,gs,sc,p,rfl,h⟩:=gE h;obtain⟨g,rfl,h⟩:=EV h;obtain⟨t,it,ifs,a⟩:=g;obtain⟨h1,h2⟩:=A7 h;have h1:a=0:=AS h1;subst h1;exact⟨x,t,it,ifs,sc,p,rfl,h2⟩
noncomputable def N7(e:E)(F:E->Al):Al:=if c:e.ctorIdx=8 then E.no.elim (motive_1:=λ_=>Al) e c F else Ad
theorem iZ{e:E}{F:E->Al}(h:N7 e F=Ab):∃ a,e=E.no a/\F a=Ab:=by
 by_cases c:e.ctorIdx=8
 .exact E.no.elim (motive_1:=λe=>N7 e F=Ab->∃ a,e=E.no a/\F a=Ab) e c (λa h=>⟨a,rfl,h⟩) h
 .exact noF ((BZ c).symm.trans h)
noncomputable def NR(e:E)(F:Es->Al):Al:=if c:e.ctorIdx=9 then E.and.elim (motive_1:=λ_=>Al) e c F else Ad
theorem gL{e:E}{F:Es->Al}(h:NR e F=Ab):∃ es,e=E.and es/\F es=Ab:=by
 by_cases c:e.ctorIdx=9
 .exact E.and.elim (motive_1:=λe=>NR e F=Ab->∃ es,e=E.and es/\F es=Ab) e c (λes h=>⟨es,rfl,h⟩) h
 .exact noF ((BZ c).symm.trans h)
noncomputable def N6(e:E)(F:Es->Al):Al:=if c:e.ctorIdx=10 then E.or.elim (motive_1:=λ_=>Al) e c F else Ad
theorem iY{e:E}{F:Es->Al}(h:N6 e F=Ab):∃ es,e=E.or es/\F es=Ab:=by
 by_cases c:e.ctorIdx=10
 .exact E.or.elim (motive_1:=λe=>N6 e F=Ab->∃ es,e=E.or es/\F es=Ab) e c (λes h=>⟨es,rfl,h⟩) h
 .exact noF ((BZ c).symm.trans h)
noncomputable def NN(e:E)(F:Dr->E->E->Al):Al:=if c:e.ctorIdx=11 then E.cmp.elim (motive_1:=λ_=>Al) e c F else Ad
theorem gF{e:E}{F:Dr->E->E->Al}(h:NN e F=Ab):∃ o a b,e=E.cmp o a b/\F o a b=Ab:=by
 by_cases c:e.ctorIdx=11
 .exact E.cmp.elim (motive_1:=λe=>NN e F=Ab->∃ o a b,e=E.cmp o a b/\F o a b=Ab) e c (λo a b h=>⟨o,a,b,rfl,h⟩) h
 .exact noF ((BZ c).symm.trans h)
noncomputable def NO(e:E)(F:Dr->Dr->E->E->E->Al):Al:=if c:e.ctorIdx=12 then E.cmp2.elim (motive_1:=λ_=>Al) e c F else Ad
theorem gG{e:E}{F:Dr->Dr->E->E->E->Al}(h:NO e F=Ab):∃ o q a b c,e=E.cmp2 o q a b c/\F o q a b c=Ab:=by
 by_cases c:e.ctorIdx=12
 .exact E.cmp2.elim (motive_1:=λe=>NO e F=Ab->∃ o q a b c,e=E.cmp2 o q a b c/\F o q a b c=Ab) e c (λo q a b c h=>⟨o,q,a,b,c,rfl,h⟩) h
 .exact noF ((BZ c).symm.trans h)
noncomputable def NP(e:E)(F:BI->Es->Al):Al:=if c:e.ctorIdx=15 then E.bi.elim (motive_1:=λ_=>Al) e c F else Ad
theorem gH{e:E}{F:BI->Es->Al}(h:NP e F=Ab):∃ b as,e=E.bi b as/\F b as=Ab:=by
 by_cases c:e.ctorIdx=15
 .exact E.bi.elim (motive_1:=λe=>NP e F=Ab->∃ b as,e=E.bi b as/\F b as=Ab) e c (λb as h=>⟨b,as,rfl,h⟩) h
 .exact noF ((BZ c).symm.trans h)
noncomputable def QV(e:E)(F:Al->Al):Al:=if c:e.ctorIdx=1 then E.bl.elim (motive_1:=λ_=>Al) e c F else Ad
theorem jB{e:E}{F:Al->Al}(h:QV e F=Ab):∃ b,e=E.bl b/\F b=Ab:=by
 by_cases c:e.ctorIdx=1
 .exact E.bl.elim (motive_1:=λe=>QV e F=Ab->∃ b,e=E.bl b/\F b=Ab) e c (λb h=>⟨b,rfl,h⟩) h
 .exact noF ((BZ c).symm.trans h)
noncomputable def Ms(e:E)(F:Af->Al):Al:=if c:e.ctorIdx=4 then E.var.elim (motive_1:=λ_=>Al) e c F else Ad
theorem O9{e:E}{F:Af->Al}(h:Ms e F=Ab):∃ i,e=E.var i/\F i=Ab:=by
 by_cases c:e.ctorIdx=4
 .exact E.var.elim (motive_1:=λe=>Ms e F=Ab->∃ i,e=E.var i/\F i=Ab) e c (λi h=>⟨i,rfl,h⟩) h
 .exact noF ((BZ c).symm.trans h)
noncomputable def Lw(e:E)(F:Af->Es->Al):Al:=if c:e.ctorIdx=14 then E.call.elim (motive_1:=λ_=>Al) e c F else Ad
theorem SR{e:E}{F:Af->Es->Al}(h:Lw e F=Ab):∃ f as,e=E.call f as/\F f as=Ab:=by
 by_cases c:e.ctorIdx=14
 .exact E.call.elim (motive_1:=λe=>Lw e F=Ab->∃ f as,e=E.call f as/\F f as=Ab) e c (λf as h=>⟨f,as,rfl,h⟩) h
 .exact noF ((BZ c).symm.trans h)
noncomputable def NG(e:E):Al:=decide (e.ctorIdx=0)
theorem fK{e:E}(h:NG e=Ab):e=.non:=E.non.elim (motive_1:=λe=>e=.non) e (AS h) rfl
noncomputable def CV:Am->Al
 |.Starred _ _=>Ad
 |_=>Ab
noncomputable def T7:Am->Al
 |.Slice _ _ _ _=>Ad
 |_=>Ab
noncomputable def Lx:Am->Al
 |.Set _ _ _=>Ad
 |_=>Ab
noncomputable def G1:Am->Al
 |.ListComp _ _ _ _=>Ad
 |.SetComp _ _ _ _=>Ad
 |.DictComp _ _ _ _ _=>Ad
 |_=>Ab
noncomputable def WB(tu:Al):Am->Al
 |.Tuple ..=>tu
 |.Name ..=>!tu
 |_=>Ad
noncomputable def vL:Am->Al
 |.Tuple _ _ _=>Ab
 |_=>Ad
noncomputable def MY:Am->Al
 |.UnaryOp _ _ _=>Ad
 |.BoolOp _ _ _=>Ad
 |.IfExp _ _ _ _=>Ad
 |.Compare _ _ _ _=>Ad
 |_=>Ab
noncomputable def Qx:Ki->Ao Ag
 |.int=>Aa "int"
 |.bool=>Aa "bool"
 |.str=>Aa "str"
 |.list=>Aa "list"
 |.tuple=>Aa "tuple"
 |_=>Ae
noncomputable def Qy:BI->Ao Ag
 |.len=>Aa "len"
 |.abs=>Ae
 |.max=>Ae
 |.min=>Ae
 |.int=>Aa "int"
 |.list=>Aa "list"
 |.tuple=>Aa "tuple"
 |.all=>Aa "all"
 |.any=>Ae
 |.sum=>Ae
 |.sorted=>Aa "sorted"
 |.str=>Aa "str"
 |.tmin=>Ae
 |.tmax=>Ae
 |_=>Ae
noncomputable def Qn(o scope:BP):BP:={scope with names:=scope.names.map λ(n,k)=>if (k==.free&&o.kind==.function&&o.names.lookup n==Aa .cell) then (n,.cell) else (n,k)}
noncomputable def KJ:Ac Af->Ac Ag->Ac Ag->Ac Ag
 |t::ts,x::xs,N=>KJ ts xs ((N.map λy=>if y==x then N.getD t x else y).set t x)
 |_,_,N=>N
noncomputable def Lm:Ac Ag->Al
 |[]=>Ab
 |x::xs=>!xs.contains x&&Lm xs
noncomputable def ML(T:Tc)(scope:BP)(ts:Ac Af)(N':Ac Ag):Al:=
  scope.kind==.function&&scope.names.all (λy=>scope.names.lookup y.1==Aa y.2) &&
  scope.names.all (λy=>y.2 != .free||T.sc.names.lookup y.1==Aa .cell||T.sc.names.lookup y.1==Aa .free) &&
  N'.length==T.N.length&&Lm N' &&
  (Ba N'.length).all λi=>ts.contains i||(match N'[i]? with
    |some x=>(scope.names.lookup x != Aa .local&&scope.names.lookup x != Aa .cell)&&(scope.names.lookup x != Aa .free||T.N[i]? == Aa x)
    | none=>Ab)
noncomputable def FX:Ac Am->Ao (Ac Ag)
 |[]=>Aa []
 |.Name x _::r=>(FX r).map (x :: ·)
 |_=>Ae
noncomputable def tgN(ys:Ac Am):Ac Ag:=(FX ys).getD []
noncomputable def tgB(T:Tc):Ac Af->Ac Ag->Al
 |[],[]=>Ab
 |t::ts,x::xs=>T.N[t]? == Aa x&&T.sc.names.lookup x==Aa .local&&tgB T ts xs
 |_,_=>Ad
noncomputable def tgO(T:Tc)(scope:BP)(t:Af)(x:Ag):Al:=T.N[t]? == Aa x&&(T.sc.names.lookup x==Aa .local||(T.sc.names.lookup x==Aa .cell&&scope.names.lookup x==Aa .cell))
noncomputable def tgC(T:Tc):Ac Af->Ac Ag->Al
 |[],[]=>Ab
 |t::ts,x::xs=>T.N[t]? == Aa x&&G6 T x&&tgC T ts xs
 |_,_=>Ad
noncomputable def Tc.blk(T:Tc)(scope:BP)(ts:Ac Af)(xs:Ac Ag):Tc:={T with sc:=Qn T.sc scope,N:=KJ ts xs T.N,tp:=Ad}
noncomputable def Z_0(f:Ag):Al:=(f==("triple" : Ag)||(f==("points" : Ag)||f==("row" : Ag)))
noncomputable def JX:Am->Al
 |.Call _ [] _ _=>Ad
 |_=>Ab
theorem Lj{o:Am}{f:Ag}{w:FW Aj}(h:JX o=Ab):BO o f env w=w:=by
 cases o with
 |Call g as ks p=>
  cases as with
  |nil=>cases h
  |cons=>cases g<;>rfl
 |_=>rfl
noncomputable def N8:E->Al
 |.lst _=>Ab
 |.comp _ _ _ _=>Ab
 |.compT _ _ _ _=>Ab
 |.bin .Add _ _=>Ab
 |.bi .list _=>Ab
 |.sl _ _ _=>Ab
 |_=>Ad
noncomputable def uV:E->Al
 |.call _ _=>Ab
 |_=>Ad
noncomputable def NX:E->Ao E
  | .bi b as=>(match b with
    | .list=>(match as with
      | .cons x r=>(match r with
        | .nil=>(match x with
          | .bin op a c=>(match op with
            | .Add=>(match c with
              | .tup es=>(match es with
                |.nil=>Aa a
                | _=>Ae)
              | _=>Ae)
            | _=>Ae)
          | _=>Ae)
        | _=>Ae)
      | .nil=>Ae)
    | _=>Ae)
  |_=>Ae
theorem gO{e a:E}(q:NX e=Aa a):e=.bi .list (.cons (.bin .Add a (.tup .nil)) .nil):=by
 unfold NX at q
 repeat' split at q
 all_goals first|cases q;done|skip
 cases q;rfl
theorem mB(Z:Gam){e:E}(h:N8 e=Ab):B5 Z e=Ab:=by
 unfold N8 at h;split at h<;>first|rfl|cases h
noncomputable def inX(l:Ac (Ag×Af))(g:Ag)(c:Af):Al:=l.any λp=>p.1==g&&p.2==c
noncomputable def ocB(T:Tc)(t:Ag)(k:Af):Al:=t==QX k&&decide (k<3)&&glB T t&&FG t
noncomputable def Zy(T:Tc)(t:Ag):Ki->Al
 |.verr=>t==("ValueError" : Ag)&&isB T t
 |.cls c=>inX T.exs t c&&glB T t&&FG t
 |_=>Ad
noncomputable def Q8:Am->Ao (Am×Am×AF)
  | .Compare x ops ys p=>(match ops with
    | [.Lt]=>(match ys with
      |[y]=>Aa (x,y,p)
      | _=>Ae)
    | _=>Ae)
  |_=>Ae
noncomputable def Qq(_:Es):Ao (E×E):=Ae
noncomputable def QD(_:Tc)(_:Tc->Am->E->Al)(_:Am)(_:Ac Dr)(_:Ac Am)(_:BI)(_:Es):Al:=Ad
noncomputable def Q5(T:Tc)(e:Am)(b:BI)(as:Es):Al:=Ad
noncomputable def Vp:Am->Ao (Ag×AF)
 |.Name x p=>Aa (x,p)
 |_=>Ae
noncomputable def Vr:Am->Ao (Am×Ac Am×Ac C4×AF)
 |.Call f as ks p=>Aa (f,as,ks,p)
 |_=>Ae
noncomputable def wK:Am->Ao (Ac Am×Af×AF)
 |.Tuple es k p=>Aa (es,k,p)
 |_=>Ae
noncomputable def one{α:Type}:Ac α->Ao α
 |[a]=>Aa a
 |_=>Ae
noncomputable def Q6(e:Am):Ao (Ag×Ag×Ac Am):=(Vr e).bind λc=>(Vp c.1).bind λg=>(one c.2.1).bind λa=>(Vr a).bind λd=>(Vp d.1).bind λh=>if (c.2.2.1.isEmpty&&d.2.2.1.isEmpty)=Ab then Aa (g.1,h.1,d.2.1) else Ae
noncomputable def Wy(e:Am):Ao (Ag×Ag×Am×Am):=match Q6 e with
  | some (g,h,bs)=>(match bs with
    |[x,y]=>Aa (g,h,x,y)
    | _=>Ae)
  |none=>Ae
noncomputable def QA(_:Es):Ao (E×E):=Ae
noncomputable def Wx(e:Am):Ao (Ag×Ag×Am):=match Q6 e with
  | some (g,h,bs)=>(match bs with
    |[x]=>Aa (g,h,x)
    | _=>Ae)
  |none=>Ae
noncomputable def Oc:Es->Ao (Ag×E)
  | .cons a r=>(match a with
    | .str s=>(match r with
      | .cons b r'=>(match r' with
        | .nil=>(match b with
          |.var _=>Ae
          | b=>Aa (s,b))
        | _=>Ae)
      | _=>Ae)
    | _=>Ae)
  |.nil=>Ae
theorem nX{s:Ag}{a:E}(q:Oc as=Aa (s,a)):as=.cons (.str s) (.cons a .nil)/\∀ U r,top U a r=r:=by
 cases as with
 |nil=>cases q
 |cons a r=>
  cases a with
  |str s=>
   cases r with
   |nil=>cases q
   |cons b r'=>
    cases r' with
    |nil=>cases b<;>first|(cases q;exact⟨rfl,λ_ _=>rfl⟩)|cases q
    |cons=>cases q
  |_=>cases q
noncomputable def Ob:Es->Ao (E×Ag)
  | .cons a r=>(match r with
    | .cons b r'=>(match b with
      | .str y=>(match r' with
        |.nil=>Aa (a,y)
        | _=>Ae)
      | _=>Ae)
    | _=>Ae)
  |.nil=>Ae
theorem lG{s:Ag}{a:E}(q:Ob as=Aa (a,s)):as=.cons a (.cons (.str s) .nil):=by
 cases as with
 |nil=>cases q
 |cons a r=>
  cases r with
  |nil=>cases q
  |cons b r'=>
   cases b with
   |str s=>
    cases r' with
    |nil=>cases q;rfl
    |cons=>cases q
   |_=>cases q
noncomputable def Qz(_:Es):Ao E:=Ae
noncomputable def two(e:Am):Ao (Am×Am):=(wK e).bind λt=>match t.1 with
  |[a,b]=>Aa (a,b)
  |_=>Ae
noncomputable def Q1(_:Es):Ao E:=Ae
noncomputable def Wk(_:Am):Ao Am:=Ae
noncomputable def WE:Am->Ao (Am×Ah)
  | .Subscript v s _=>(match s with
    | .Slice lo hi st _=>(match lo with
      | some (.Constant (.int k) _ _)=>(match hi with
        | none=>(match st with
          |some (.Constant (.int j) _ _)=>if j=2 then Aa (v,k) else Ae
          | _=>Ae)
        | some _=>Ae)
      | _=>Ae)
    | _=>Ae)
  |_=>Ae
noncomputable def Qr(_:Es):Ao (E×Ah):=Ae
mutual
noncomputable def A4:Af->Tc->Am->E->Al
  |0,_,_,_=>Ad
  |n+1,T,e,c=>match c with
    |.non=>Hk e λc=>decide (c=.none)
    |.bl b=>Hk e λc=>decide (c=.bool b)
    |.int i=>Hk e λc=>decide (c=.int i)
    |.str x=>Hk e λc=>decide (c=.str x)
    |.var i=>EU e λx=>isV T x i
    |.glob g=>Ad
    |.bin op a b=>NQ e λx op' y=>decide (op'=op)&&A4 n T x a&&A4 n T y b
    |.un op a=>KM e λo x=>decide (o=.USub)&&(decide (op=.USub)&&A4 n T x a)
    |.no a=>KM e λo x=>decide (o=.Not)&&A4 n T x a
    |.and es=>J5 e λo xs _=>decide (o=.And)&&(chkEs n T xs es && !xs.isEmpty)
    |.or es=>J5 e λo xs _=>decide (o=.Or)&&(chkEs n T xs es && !xs.isEmpty)
    |.cmp op a b=>Mu e λx os ys=>D3 os λop'=>D3 ys λy=>decide (op'=op) && !behindInMarks op y&&A4 n T x a&&A4 n T y b
    |.cmp2 op1 op2 a b c=>Ad
    |.ite c a b=>Ad
    |.call f as=>Kv e λg x xs=>(T.fns.any λp=>p.1==g&&p.2.1==f&&p.2.2==xs.length+1)&&decide (xs.length<900)&&glB T g&&FG g&&chkEs n T (x::xs) as
    |.bi b as=>(Kv e λg x xs=>Qy b==Aa g&&isB T g&&chkEs n T (x::xs) as)||(Q5 T e b as||QP T e b as)||(match QA as with|some (a,c)=>(match Wy e with|some (g,h,x,y)=>decide (b=.list)&&g==("list" : Ag)&&h==("range" : Ag)&&isB T g&&isB T h&&CV x&&CV y&&A4 n T x a&&A4 n T y c|none=>Ad)|none=>Ad)||(match Qr as with|some (a,k)=>(match WE e with|some (x,j)=>decide (b=.stp)&&decide (j=k)&&decide (0<=k)&&A4 n T x a|none=>Ad)|none=>Ad)||(match Qz as with|some a=>(match Wx e with|some (g,h,x)=>decide (b=.lset)&&g==("len" : Ag)&&h==("set" : Ag)&&isB T g&&isB T h&&CV x&&A4 n T x a|none=>Ad)|none=>Ad)||(match Qq as with|some (a,c)=>(match Q8 e with|some (x,y,_)=>decide (b=.tlt) && !behindInMarks .Lt y&&A4 n T x a&&A4 n T y c|none=>Ad)|none=>Ad)||(match Oc as with|some (s,a)=>ID e λf l ks cp=>ks.isEmpty&&(Hl f λo m ap=>m==("join" : Ag)&&ap.endLine==cp.line&&(Hk o λc=>decide (c=.str s)&&decide (b=.sjoin)&&(D3 l λy=>CV y&&A4 n T y a)))|none=>Ad)||(match Ob as with|some (a,s)=>ID e λf l ks cp=>ks.isEmpty&&(Hl f λo m ap=>m==("split" : Ag)&&ap.endLine==cp.line&&JX o&&A4 n T o a&&(D3 l λy=>Hk y λc=>decide (c=.str s)&&decide (b=.ssplit)))|none=>Ad)||(match Q1 as with|some a=>(match Wk e with|some x=>decide (b=.rvs)&&A4 n T x a|none=>Ad)|none=>Ad)
    |.isi a ks=>(D3 ks λk=>HR e λg l=>Hj l λx t=>EU t λt=>g==("isinstance" : Ag)&&isB T g&&Qx k==Aa t&&isB T t&&CV x&&A4 n T x a)||(D3 ks λk=>HR e λg l=>Hj l λx t=>EU t λt=>g==("isinstance" : Ag)&&isB T g&&CV x&&A4 n T x a&&Zy T t k)
    |.idx a i=>NJ e λx y=>T7 y&&A4 n T x a&&A4 n T y i
    |.sl a lo hi=>NJ e λx s=>Qi s λl h st=>st.isNone&&(A4 n T x a&&chkO n T l lo&&chkO n T h hi)
    |.tup es=>J3 e λxs=>chkEs n T xs es&&decide (xs.length<=1000)
    |.lst es=>Mt e λxs=>chkEs n T xs es&&decide (xs.length<=1000)
    |.comp elt t it c=>QU e λx tg iter ifs scope=>EU tg λy=>chkI n T Ad iter it&&Lx iter&&ML T scope [t] (KJ [t] [y] T.N)&&tgO (T.blk scope [t] [y]) scope t y&&chkT n (T.blk scope [t] [y]) ifs c&&A4 n (T.blk scope [t] [y]) x elt
    |.compT elt ts it c=>Ad
    |.tupI _=>Ad
    |.dnew=>Ad
    |.fld o f=>Hl e λw g _=>g==f&&Z_0 f&&JX w&&A4 n T w o
    |.ofl o f=>Hl e λw g _=>g==f&&(f==("triple" : Ag)||f==("p" : Ag))&&JX w&&A4 n T w o
    |.iso a k=>HR e λg l=>Hj l λx t=>EU t λt=>g==("isinstance" : Ag)&&isB T g&&CV x&&A4 n T x a&&ocB T t k
    |.meth m ms o=>ID e λf l ks cp=>ks.isEmpty&&(l.isEmpty&&(Hl f λw g ap=>g==m&&(m==("told" : Ag)||m==("shown" : Ag))&&ap.endLine==cp.line&&JX w&&A4 n T w o&&ms.all λq=>T.fns.any λp=>(HX.lookup p.1==Aa (q.1,m))&&p.2.1==q.2&&p.2.2==1))
    |.mkob _ _=>Ad
    |.methA m ms o a=>ID e λf l ks cp=>ks.isEmpty&&(D3 l λy=>Hl f λw g ap=>g==m&&(m==("across" : Ag)||m==("meets" : Ag))&&ap.endLine==cp.line&&JX w&&A4 n T w o&&CV y&&A4 n T y a&&ms.all λq=>(q.1==0)==Ad&&T.fns.any λp=>(HX.lookup p.1==Aa (q.1,m))&&p.2.1==q.2&&p.2.2==2)
    |.mkn c as=>Kv e λg x xs=>ocB T g c&&xs.length==1&&chkEs n T (x::xs) as
    |.mkx c as=>T.tp&&(Kv e λg x xs=>inX T.rzs g c&&glB T g&&FG g&&decide (xs.length<=1000)&&chkEs n T (x::xs) as)
noncomputable def HY:Af->Tc->Am->E->Al
 |0,_,_,_=>Ad
 |n+1,T,e,c=>(KM e λo x=>decide (o=.Not)&&(N7 c λa=>HY n T x a)) ||
  (J5 e λo xs _=>(decide (o=.And)&&(NR c λes=>chkBs n T xs es && !xs.isEmpty))||(decide (o=.Or)&&(N6 c λes=>chkBs n T xs es && !xs.isEmpty))) ||
  (Mu e λx os ys=>(NN c λop a b=>D3 os λop'=>D3 ys λy=>decide (op'=op) && !behindInMarks op y&&A4 n T x a&&A4 n T y b) ||
   (NO c λop1 op2 a b c=>Hj os λo1 o2=>Hj ys λy z=>decide (o1=op1)&&decide (o2=op2) && !lastMarks [op1,op2] [y,z]&&A4 n T x a&&A4 n T y b&&A4 n T z c) ||
   (NP c λb as=>QD T (A4 n) x os ys b as)) ||
  MY e&&A4 n T e c
noncomputable def chkBs:Af->Tc->Ac Am->Es->Al
  |0,_,_,_=>Ad
  |n+1,T,xs,es=>match xs,es with
    |[],.nil=>Ab
    |x::xs,.cons e es=>HY n T x e&&chkBs n T xs es
    |_,_=>Ad
noncomputable def chkEs:Af->Tc->Ac Am->Es->Al
  |0,_,_,_=>Ad
  |n+1,T,xs,es=>match xs,es with
    |[],.nil=>Ab
    |x::xs,.cons e es=>CV x&&A4 n T x e&&chkEs n T xs es
    |_,_=>Ad
noncomputable def chkO:Af->Tc->Ao Am->E->Al
  |0,_,_,_=>Ad
  |n+1,T,x,e=>match x with
    |none=>NG e
    |some x=>!(NG e)&&A4 n T x e
noncomputable def chkT:Af->Tc->Ac Am->E->Al
  |0,_,_,_=>Ad
  |n+1,T,xs,e=>match xs with
    |[]=>QV e λb=>b
    |x::r=>r.isEmpty&&HY n T x e
noncomputable def chkI:Af->Tc->Al->Am->I->Al
  |0,_,_,_,_=>Ad
  |n+1,T,tu,e,i=>match i with
    |.e a=>A4 n T e a
    |.rng a=>HR e λg l=>D3 l λx=>g==("range" : Ag)&&isB T g&&CV x&&A4 n T x a
    |.enm a=>Ad
    |.zip a b=>HR e λg l=>Hj l λx y=>tu&&g==("zip" : Ag)&&isB T g&&CV x&&CV y&&A4 n T x a&&A4 n T y b
    |.rng2 a b=>HR e λg l=>Hj l λx y=>g==("range" : Ag)&&isB T g&&CV x&&CV y&&A4 n T x a&&A4 n T y b
    |.rng3 a b c=>HR e λg l=>V0 l λx y z=>g==("range" : Ag)&&isB T g&&CV x&&CV y&&CV z&&A4 n T x a&&A4 n T y b&&A4 n T z c
    |.zip3 a b c=>Ad
end
noncomputable def QM:E->E->Al
 |.var _,.int _=>Ab
 |_,_=>Ad
noncomputable def WG:Fx->Al
 |.Sub=>Ab
 |_=>Ad
noncomputable def N4:E->Al
 |.idx a b=>QM a b
 |.bin op a b=>WG op&&QM a b
 |.var _=>Ab
 |.int _=>Ab
 |.bl _=>Ab
 |.str _=>Ab
 |.non=>Ab
 |_=>Ad
noncomputable def Jk:Es->Al
 |.nil=>Ab
 |.cons e es=>N4 e&&Jk es
noncomputable def Hm:Am->Ao (Ag×AF)
 |.Name x p=>Aa (x,p)
 |_=>Ae
theorem Iq{e:Am}{t:Ag×AF}(h:Hm e=Aa t):e=.Name t.1 t.2:=by
 cases e with
 |Name x p=>cases h;rfl
 |_=>exact nomatch (show Ae=Aa t from h)
noncomputable def Wc:Am->Ao (Am×Ac Am×AF)
  | .Call f as ks p=>(match ks with
    |[]=>Aa (f,as,p)
    | _=>Ae)
  |_=>Ae
theorem iA{e:Am}{t:Am×Ac Am×AF}(h:Wc e=Aa t):e=.Call t.1 t.2.1 [] t.2.2:=by
 cases e with
 |Call f as ks p=>
  cases ks with
  |nil=>cases h;rfl
  |cons=>exact nomatch (show Ae=Aa t from h)
 |_=>exact nomatch (show Ae=Aa t from h)
noncomputable def MB{α:Type}:Ac α->Ao (α×α)
 |[a,b]=>Aa (a,b)
 |_=>Ae
theorem Nd{l:Ac α}{t:α×α}(h:MB l=Aa t):l=[t.1,t.2]:=by
 cases l with
 |nil=>exact nomatch (show Ae=Aa t from h)
 |cons a l=>
  cases l with
  |nil=>exact nomatch (show Ae=Aa t from h)
  |cons b l=>
   cases l with
   |nil=>cases h;rfl
   |cons=>exact nomatch (show Ae=Aa t from h)
noncomputable def xHd:E9->Ao (Ag×Ag×AM×Ac AM)
  | .ExceptHandler ty nm b _=>(match nm,b,ty with
    |some m,h0::hs,Aa e=>(Hm e).bind λg=>Aa (g.1,m,h0,hs)
    | _,_,_=>Ae)
theorem nK{h:E9}{g m:Ag}(q:xHd h=Aa (g,m,h0,hs)):∃ p r,h=.ExceptHandler (Aa (.Name g p)) (Aa m) (h0::hs) r:=by
 obtain⟨ty,nm,b,r⟩:=h;cases nm with
 |none=>cases ty<;>cases b<;>exact nomatch (show Ae=Aa (g,m,h0,hs) from q)
 |some m'=>
  cases b with
  |nil=>cases ty<;>exact nomatch (show Ae=Aa (g,m,h0,hs) from q)
  |cons h0' hs'=>
   cases ty with
   |none=>exact nomatch (show Ae=Aa (g,m,h0,hs) from q)
   |some e=>
    obtain⟨g',e1,q⟩:=Ax.mp (show ((Hm e).bind λg=>Aa (g.1,m',h0',hs'))=Aa (g,m,h0,hs) from q)
    cases q;rw[Iq e1];exact⟨_,_,rfl⟩
noncomputable def QF:AM->Ao (AM×Ac E9×Ac AM)
  | .Try b hs es fs _=>(match b,fs with
    |[bt],[]=>Aa (bt,hs,es)
    | _,_=>Ae)
  |_=>Ae
theorem hJ{st bt:AM}{hs:Ac E9}{es:Ac AM}(q:QF st=Aa (bt,hs,es)):∃ p,st=.Try [bt] hs es [] p:=by
 cases st with
 |Try b h e f p=>
  cases b with
  |nil=>cases f<;>exact nomatch (show Ae=Aa (bt,hs,es) from q)
  |cons x b=>
   cases b with
   |cons=>cases f<;>exact nomatch (show Ae=Aa (bt,hs,es) from q)
   |nil=>
    cases f with
    |nil=>cases q;exact⟨_,rfl⟩
    |cons=>exact nomatch (show Ae=Aa (bt,hs,es) from q)
 |_=>exact nomatch (show Ae=Aa (bt,hs,es) from q)
noncomputable def Wu(e:Am)(F:Ag->Ag->Am->Al):Al:=HR e λg l=>Hj l λa t=>EU a λv=>F g v t
theorem jA{e:Am}{F:Ag->Ag->Am->Al}(h:Wu e F=Ab):∃ g p v q t r,e=.Call (.Name g p) [.Name v q,t] [] r/\F g v t=Ab:=by
 obtain⟨g,p,l,r,rfl,h⟩:=Ij h;obtain⟨a,t,rfl,h⟩:=Jf h;obtain⟨v,q,rfl,h⟩:=E4 h;exact⟨g,p,v,q,t,r,rfl,h⟩
noncomputable def Qv(T:Tc):Ac Am->Ac Ki->Al
  |[],ks=>ks.isEmpty
  | e::r,ks=>Iz ks λk ks=>EU e λt=>(match k with
    |.cls c=>inX T.exs t c&&glB T t&&FG t
    | _=>Ad)&&Qv T r ks
noncomputable def Mz(f:Am->E->Al):Ac Am->Es->Al
 |[],.nil=>Ab
 |x::xs,.cons e es=>CV x&&f x e&&Mz f xs es
 |_,_=>Ad
noncomputable def wH(T:Tc)(t:Am)(ks:Ac Ki):Al:=Iz ks λk r=>match k with
  |.verr=>r.isEmpty&&(EU t λt=>t==("ValueError" : Ag)&&isB T t)
  | .cls c=>(match r with
    |[]=>EU t λt=>inX T.exs t c&&glB T t&&FG t
    | k2::r=>J3 t λts=>Qv T ts (.cls c::k2::r)&&decide (ts.length<=1000))
  |_=>Ad
noncomputable def IB:Af->Tc->Af->Am->E->Al
  |0,_,_,_,_=>Ad
  |n+1,T,x,e,c=>match c with
    |.bl b=>Hk e λk=>decide (k=.bool b)
    |.no a=>KM e λo y=>decide (o=.Not)&&IB n T x y a
    | .and es=>(match es with
      |.nil=>Ad
      | .cons a r=>(match r with
        |.nil=>J5 e λo l _=>decide (o=.And)&&(D3 l λy=>IB n T x y a)
        | .cons a' as=>J5 e λo l p=>decide (o=.And)&&(Iz l λy l=>Iz l λz zs=>IB n T x y a&&IB n T x (.BoolOp .And (z::zs) p) (.and (.cons a' as)))))
    |.isi a ks=>Ms a λi=>Wu e λg v t=>i==x&&g==("isinstance" : Ag)&&isB T g&&isV T v x&&wH T t ks
    |.call _ _=>Ad
    |.str s=>Hk e λk=>decide (k=.str s)
    |.lst es=>Mt e λxs=>Mz (IB n T x) xs es&&decide (xs.length<=1000)
    |.tup es=>J3 e λxs=>Mz (IB n T x) xs es&&decide (xs.length<=1000)
    |.bin op a b=>decide (op=.Add)&&(Ms a λi=>NQ e λl o y=>decide (o=.Add)&&(EU l λv=>isV T v i&&IB n T x y b))
    |.fld o f=>Ms o λi=>Hl e λw g _=>EU w λv=>i==x&&g==f&&(f==("triple" : Ag)||(f==("points" : Ag)||f==("row" : Ag)))&&isV T v x
    |_=>Ad
noncomputable def Zz:E->Al
 |.lst _=>Ab
 |_=>Ad
noncomputable def Qo:Af->Tc->Af->Ac AM->Ss->Al
  |0,_,_,_,_=>Ad
  |n+1,T,x,sts,ss=>match ss with
    |.nil=>sts.isEmpty
    | .cons s ss=>Iz sts λst r=>(match s with
      |.asg i b e=>JW st λy v=>T.N[i]? == Aa y&&G6 T y&&G1 v&&IB n T x v e&&(!b||Zz e)
      |.ife _ _ _=>Ad
      |.ret _=>Ad
      |.app _ _=>Ad
      | _=>Ad)&&Qo n T x r ss
noncomputable def QL:E->Al
 |.var _=>Ab
 |.cmp _ a b=>N4 a&&N4 b
 |_=>Ad
noncomputable def Qg:Es->Al
 |.nil=>Ab
 |.cons e es=>(match e with | .var _=>Ab|_=>Ad)&&Qg es
noncomputable def NS(n:Af)(T:Tc)(v:Am):E->Al
 |.mkn c as=>A4 n T v (.mkn c as)&&Qg as
 |.methA m ms o a=>A4 n T v (.methA m ms o a)
 |_=>Ad
noncomputable def Np(n:Af)(T:Tc)(st:AM)(s:S):Al:=match s with
  |.expr e=>(Lw e λf as=>J4 st λv=>A4 n T v (.call f as)&&Jk as)||(J4 st λv=>NS n T v e)
  |.asg i b e=>!b&&(Lw e λf as=>JW st λy v=>T.N[i]? == Aa y&&G6 T y&&A4 n T v (.call f as)&&Jk as)
  |_=>Ad
noncomputable def Qh:Ss->(S->Al)->Al
  |.nil,_=>Ad
  | .cons a r,F=>(match r with
    |.nil=>F a
    | .cons _ _=>Ad)
theorem SM{l:Ss}{F:S->Al}(h:Qh l F=Ab):∃ a,l=.cons a .nil/\F a=Ab:=by
 cases l with
 |nil=>exact noF h
 |cons a r=>
  cases r with
  |nil=>exact⟨a,rfl,h⟩
  |cons=>exact noF h
noncomputable def Vo(f:AM->S->Al)(n:Af)(T:Tc)(st:AM):S->Al
 |.ife c a b=>Qh a λa=>Qh b λb=>MH st λt xs ys=>D3 xs λx=>D3 ys λy=>HY n T t c&&QL c&&f x a&&f y b
 |_=>Ad
noncomputable def NT:Af->Af->Tc->AM->S->Al
 |0,n,T,st,s=>Np n T st s
 |m+1,n,T,st,s=>Np n T st s||Vo (NT m n T) n T st s
noncomputable def Z_5:E->Al
  | .bi b as=>(match b,as with
    |.len,.nil=>Ab
    | _,_=>Ad)
  |_=>Ad
noncomputable def Z_4:S->Al
 |.expr e=>Z_5 e
 |_=>Ad
noncomputable def Oa:Ss->Al
 |.cons s _=>Z_4 s
 |.nil=>Ad
noncomputable def hdB(T:Tc)(g:Ag)(c:Af):Al:=inX T.exs g c&&inX T.rzs g c&&glB T g&&FG g
noncomputable def Qw:Es->Al
 |.nil=>Ab
 |.cons e es=>N8 e&&Qw es
noncomputable def Qp(n:Af)(T:Tc)(i:Af)(es:Es)(p:Af)(e2:E)(r:Af)(e3 c:E)(k:Af)(s1 s2 s3 s4 s5:AM):Al:=
 (JW s1 λx v=>T.N[i]? == Aa x&&G6 T x&&(Mt v λl=>decide (l.length<=1000)&&Qw es&&chkEs n T l es)) &&
 (JW s2 λx v=>T.N[p]? == Aa x&&G6 T x&&G1 v&&A4 n T v e2) &&
 (JW s3 λx v=>T.N[r]? == Aa x&&G6 T x&&G1 v&&A4 n T v e3) &&
 (MH s4 λt _ ys=>ys.isEmpty&&HY n T t c) &&
 (Lv s5 λtg it xs ys=>ys.isEmpty&&(EU tg λx=>tgC T [k] [x]&&(EU it λy=>isV T y i&&(D3 xs λb=>NM b λz m l=>l.isEmpty&&(m==("clear" : Ag)&&isV T z k))))) &&
 ((i==p)==Ad&&(i==r)==Ad&&(i==k)==Ad)
mutual
noncomputable def MK:Af->Tc->AM->S->Al
  |0,_,_,_=>Ad
  |n+1,T,st,s=>match s with
    |.pass=>Ad
    |.brk=>Ad
    |.cont=>Ad
    |.asg i _ e=>JW st λx v=>T.N[i]? == Aa x&&G6 T x&&A4 n T v e
    |.asgT ts e=>Ad
    |.expr e=>J4 st λv=>G1 v&&A4 n T v e
    |.ret e=>NK st λo=>match o with|some v=>A4 n T v e|none=>Ad
    |.retN=>Ad
    |.retc ts it f as=>NK st λo=>match o with|some v=>(QU v λx tg iter ifs scope=>ifs.isEmpty&&(J3 tg λys=>(FX ys).isSome&&chkI n T Ab iter it&&Lx iter&&ML T scope ts (KJ ts (tgN ys) T.N)&&tgB (T.blk scope ts (tgN ys)) ts (tgN ys)&&Jk as&&A4 n (T.blk scope ts (tgN ys)) x (.call f as)))|none=>Ad
    |.ife c a b=>MH st λt xs ys=>HY n T t c&&chkSs n T xs a&&chkSs n T ys b
    |.fors t it body=>Lv st λtg iter xs ys=>ys.isEmpty&&(EU tg λx=>tgC T [t] [x]&&Lx iter&&chkI n T Ad iter it&&chkSs n T xs body)
    |.forT ts it body=>Lv st λtg iter xs zs=>zs.isEmpty&&(J3 tg λys=>(FX ys).isSome&&tgC T ts (tgN ys)&&Lx iter&&chkI n T Ab iter it&&chkSs n T xs body)
    |.forO i ts body=>Lv st λtg iter xs zs=>zs.isEmpty&&(J3 tg λys=>(FX ys).isSome&&tgC T ts (tgN ys)&&Lx iter&&(HR iter λg l=>D3 l λx=>g==("enumerate" : Ag)&&isB T g&&(EU x λz=>isV T z i)&&chkSs n T xs body))
    |.whl c body=>Ad
    |.rais c as=>!(T.rzs.any λp=>p.2==c)||(NL st λa b=>b.isNone&&(match a with|some e=>Kv e λg x xs=>inX T.rzs g c&&glB T g&&FG g&&decide (xs.length<=1000)&&chkEs n T (x::xs) as|none=>Ad))
    |.tryx bs c x h=>(match bs with | .cons b .nil=>(match QF st with|some (bt,[h1],[])=>(match xHd h1 with|some (g,m,h0,hs)=>hdB T g c&&T.N[x]? == Aa m&&T.sc.names.lookup m==Aa .local&&NT 6 n T bt b&&Qo n T x (h0::hs) h|none=>Ad)|_=>Ad)|_=>Ad)
    |.try2 _ _ _ _ _ _ _=>Ad
    |.app i e=>NM st λx m l=>D3 l λv=>m==("append" : Ag)&&isV T x i&&CV v&&A4 n T v e
    |.ext i e=>NM st λx m l=>D3 l λv=>m==("extend" : Ag)&&isV T x i&&CV v&&((N8 e||uV e)&&A4 n T v e||(match NX e with|some a=>A4 n T v a|none=>Ad))
    |.rev i=>Ad
    |.clr i=>Ad
    |.put i k e=>Ad
    |.swp _ _ _=>Ad
    |.apop _ _ _=>Ad
    |.ins i k e=>Ad
    |.dput _ _ _=>Ad
    |.dsd _ _ _=>Ad
    |.hand _ _ _ _ _ _ _ _=>Ad
    |.rel _=>Ad
noncomputable def chkSs:Af->Tc->Ac AM->Ss->Al
  |0,_,_,_=>Ad
  | n+1,T,sts,ss=>(match ss with
    |.nil=>sts.isEmpty
    |.cons (.rel i) ss=>chkSs n T sts ss
    | .cons (.hand i es p e r e' c k) ss=>(match sts with
      |s1::s2::s3::s4::s5::q=>Qp n T i es p e r e' c k s1 s2 s3 s4 s5&&chkSs n T q ss
      | _=>Ad)
    | .cons s ss=>(match sts with
      |st::r=>MK n T st s&&chkSs n T r ss
      | []=>Ad))||Oa ss
end
noncomputable def Js(fuel:Af)(hot:Al)(fns:Ac (Ag×Af×Af))(bl:Ac Ag)(rzs exs gls:Ac (Ag×Af))(ps N:Ac Ag)(st:AM)(df:Df):Al:=
  let sc:=B2 st
  sc.kind==.function && !sc.isCoroutine && !sc.isGenerator&&Lm N&&N.take ps.length==ps&&ps.all (λx=>sc.names.lookup x==Aa .local||sc.names.lookup x==Aa .cell)&&sc.names.all (λy=>y.2 != .free)&&N.length==df.n &&
  (match hot with
  |true=>Ad
  | false=>chkSs fuel ⟨sc,N,fns,bl,rzs,exs,gls,Ab⟩ (FZ st) df.body)
structure XT (up:Af->Ac Af) (xn:Af->Ac D->R Ex) (CL:ClA) (rzs exs:Ac (Ag×Af)) (K:Fg) (mg:Ag->Ao Aj):Prop where
 xc:∀ c C,CL c=Aa C->XcOk K C
 rz:∀ p∈rzs,∃ C,CL p.2=Aa C/\mg p.1=Aa (.ref C)
 ex:∀ p∈exs,∃ C,mg p.1=Aa (.ref C)/\Mm K CL up p.2 C/\∀ c D,CL c=Aa D->BD K (.ref D) (.ref C)=Aa ((up c).contains p.2)
 made:∀ c C ds,CL c=Aa C->xn c ds=.bad\/(xn c ds=.ok ⟨c,[]⟩/\Dl K C Ae=Ab)\/∃ f,XIn K mg C f/\Ls xn c f ds
 nf:∀ c C,CL c=Aa C->∀ f:Ag,(f==("triple" : Ag)||(f==("points" : Ag)||f==("row" : Ag)))=Ab->Gj K C=Ab/\Av K (.ref C) f=Aa Ae
 xb:∀ c,(∀ p∈rzs,p.2≠c)->∀ ds,xn c ds=.bad
def Og(K:Fg)(mg:Ag->Ao Aj)(CL:ClA)(x:Ag)(d:D):Prop:=∃ u v,mg x=Aa u/\Bq v u/\∀ H A,Rep K CL H A v d
structure OS (K:Fg) (mg:Ag->Ao Aj):Prop where
 oc:∀ c C,OC K c=Aa C->OCls K C
 kit:∀ c C c' C',OC K c=Aa C->OC K c'=Aa C'->B9 K (.ref C) (.ref C')=Aa ((oup c).contains c')
 at_:∀ c,c<3->∃ C,OC K c=Aa C/\mg (QX c)=Aa (.ref C)
 kp:∀ c C,OC K c=Aa C->Bm K (.ref C)=Ab
 mf2:∀ c C m f,OC K c=Aa C->(c==0)=Ad->(m==("across" : Ag)||m==("meets" : Ag))=Ab->Av K (.ref C) m=Aa (Aa (.ref f))->GD K (.ref f)=Ab
 mf:∀ c C m f,OC K c=Aa C->(m==("told" : Ag)||m==("shown" : Ag))=Ab->Av K (.ref C) m=Aa (Aa (.ref f))->GD K (.ref f)=Ab
def MkR(P:AO)(w:A1)(K:Fg)(mg:Ag->Ao Aj)(base:AC)(CL:ClA)(F:Af->Ac D->R D)(k c:Af):Prop:=(∀ ds,F (900+c) ds=.bad)\/∃ C f fd G k',OC K c=Aa C/\Mk K C f/\DS K fd ["self", "p", "numbers"] []/\k'+1=k/\FnOk P w K mg base (CXR P w) k' f fd ["self", "p", "numbers"] (spI K CL G)/\(∀ ds,ds.length=2->F (900+c) ds=.bad\/F (900+c) ds=(G ds).bind (DA c))
structure VX (Z:Gam) (CL:ClA) (k:Af) (W:XW) (T:Tc) (X:Cx):Prop where
 sc:X.env.scope=T.sc
 kd:T.sc.kind=.function
 N:X.N=T.N
 nd:T.N.Nodup
 calm:X.calm=Ab
 room:Room k X.A
 bl:∀ x,x∈T.bl->X.mg x=Ae
 os:OS X.K X.mg
 mkr:∀ c,c<3->MkR X.prog X.w X.K X.mg X.base CL Z.F k c
 fn:∀ p∈T.fns,∃ f fd ps,Jl X.K X.mg p.1=Aa (.ref f)/\Bm X.K (.ref f)=Ab/\DS X.K fd ps []/\ps.length=p.2.2%1000/\(p.2.2<1000->FnOk X.prog X.w X.K X.mg X.base (CXR X.prog X.w) k f fd ps (spD X.K CL (p.2.2%1000) (Z.fr p.2.1) (Z.F p.2.1)))/\(1000<=p.2.2->HotOk X.prog X.w X.K X.mg X.base k f fd ps (spH X.K CL (p.2.2%1000) (Z.fr p.2.1) (Z.F p.2.1)))
 own:DP (model X.prog X.w) X.A X.env X.xe
 px:∀ A,IA (CXR X.prog X.w) X (EKW X.K CL A W)
 rz:MI X CL W
 fz:LD X CL W
 xt:XT Z.up Z.xn CL T.rzs T.exs X.K X.mg
 gl:∀ p∈T.gls,Og X.K X.mg CL p.1 (Z.G p.2)
 ex:T.tp=Ab->X.ex=[]
theorem UW:∀ A,IA (CXR X.prog X.w) X (EKW X.K CL A W0):=λA pI Y H s ev s' I h=>by
 obtain⟨e,T,cls,dx,H',_,_,_,_,_,_,_,_,_,_,x,_,w⟩:=h;exact w.elim
theorem Wj:MI X CL W0:=λ_ _ _ _ _ _ _ _ _ _ _ _ _ _ z=>z.elim
def Rf{α:Type}(g f:Rho->R α):Prop:=∀ U,g U=.bad\/g U=f U
section
variable{X:Cx}{CL:ClA}{W:XW}{a:Am}{f g:Rho->R D}
theorem SE.ref(h:SE X CL W a f)(r:Rf g f):SE X CL W a g:=λA=>PE.weak (h A) λY H Q ⟨hA,U,q,p⟩=>⟨hA,U,q,by
 rcases r U with e|e
 .rw[e]at p;exact p.elim
 .rw[e]at p;exact p⟩
theorem SB.ref{f g:Rho->R Al}(h:SB X CL W a f)(r:Rf g f):SB X CL W a g:=λA=>PT.weak (h A) λY H Q ⟨hA,U,q,p⟩=>⟨hA,U,q,by
 rcases r U with e|e
 .rw[e]at p;exact p.elim
 .rw[e]at p;exact p⟩
theorem SW.ref{f g:Rho->R Al}(h:SW X CL W a f)(r:Rf g f):SW X CL W a g:=λA=>PW.weak (h A) λY H Q ⟨hA,U,q,p⟩=>⟨hA,U,q,by
 rcases r U with e|e
 .rw[e]at p;exact p.elim
 .rw[e]at p;exact p⟩
theorem SC.ref{fr:Al}(h:SC X CL W fr a f)(r:Rf g f):SC X CL W fr a g:=λA=>PE.weak (h A) λY H Q ⟨hA,U,q,p⟩=>⟨hA,U,q,by
 rcases r U with e|e
 .rw[e]at p;exact p.elim
 .rw[e]at p;exact p⟩
theorem SS.ref{st:AM}{f g:Rho->O}(h:SS X CL W st f)(r:∀ U,g U=.bad\/g U=f U):SS X CL W st g:=λFz B=>PS.weak (h Fz B) λD Y H ⟨U,x,p⟩=>⟨U,x,by
 rcases r U with e|e
 .rw[e]at p;exact p.elim
 .rw[e]at p;exact p⟩
end
theorem L8:∀{l:Ac Ag},Lm l=Ab->l.Nodup
 |[],_=>List.nodup_nil
 |x::xs,h=>by
  unfold Lm at h;simp only[Ai,Br,WW,FR]at h;exact List.nodup_cons.mpr ⟨h.1,L8 h.2⟩
section
variable{T:Tc}{X:Cx}{Z:Gam}{CL:ClA}{k:Af}{W:XW}
theorem TJ(h:QJ T x=Ab):Vis T.sc x:=by
 unfold QJ at h;split at h
 .exact .inl (by assumption)
 .exact .inr (.inl (by assumption))
 .exact .inr (.inr (by assumption))
 .cases h
theorem Ku(h:G6 T x=Ab):Loc T.sc x:=by
 unfold G6 at h;split at h
 .exact .inl (by assumption)
 .exact .inr (by assumption)
 .cases h
theorem Ni(h:FG x=Ab):HX.lookup x=Ae:=by
 unfold FG at h;exact Dj.mp (A7 h).2
theorem FY(h:FG x=Ab):(x==("__debug__" : Ag))=Ad/\(x==("__classdict__" : Ag))=Ad/\x≠"__name__" := by
 unfold FG at h;replace h:=(A7 h).1;simp only[Ai,Br]at h;exact⟨h.1.1,h.1.2,λe=>by subst e;exact absurd h.2 (by simp)⟩
theorem Hf{i:Af}(v:VX Z CL k W T X)(h:isV T x i=Ab):PE X (.Name x pos) (Ej i):=by
 unfold isV at h;simp only[Ai,AD]at h;obtain⟨h2,h3,_⟩:=FY h.2;exact Ll (by rw[v.N];exact h.1.1) (by rw[v.sc];exact TJ h.1.2) h2 h3
theorem G2(v:VX Z CL k W T X)(h:isB T x=Ab):Gl X x/\X.mg x=Ae/\x≠"__name__"/\(x==("__debug__" : Ag))=Ad:=by
 unfold isB glB at h;simp only[Ai,AD,WW,Az]at h;obtain⟨h2,h3,h4⟩:=FY h.2;exact⟨by show X.env.scope.names.lookup x=_;rw[v.sc];exact h.1.2,v.bl x h.1.1,h4,h2⟩
theorem BY{x:Am}(h:CV x=Ab):Aq (x::xs) env=(Ad,eval x env)::Aq xs env:=by
 cases x<;>first|rfl|cases h
theorem eG{y:Am}(h:T7 y=Ab):PP y:=by
 intro o i;cases y<;>first|rfl|cases h
theorem Lk{e:Am}(h:Lx e=Ab):∀ x,BQ e env x=pure x:=by
 intro x;cases e<;>first|rfl|cases h
theorem Jc{e:Am}{t:Ao Am}{l:Af}(h:G1 e=Ab):Cn e t l env=pure Ad:=by
 cases e<;>first|rfl|cases h
theorem iM{e:Am}(h:MY e=Ab):∀ whole,IJ e env whole=(do let v <-whole;standAt e.pos;holding [v] (truthy v)):=by
 intro whole;cases e<;>first|rfl|cases h
theorem bL(v:VX Z CL k W T X)(scope:BP):relabel scope X.env=Qn T.sc scope:=by
 unfold relabel Qn;have:∀ n,X.env.kindOf n=T.sc.names.lookup n:=λn=>by show X.env.scope.names.lookup n=_;rw[v.sc]
 simp only[this,v.sc]
theorem Qd(v:VX Z CL k W T X)(h:ML T scope ts N'=Ab):BlockOk X scope N' ts/\N'.Nodup/\scope.kind=.function:=by
 unfold ML at h;simp only[Ai,AD,Bw,BL,Ht,LI]at h;obtain⟨⟨⟨⟨⟨h1,h2⟩,h4⟩,h5⟩,h6⟩,h7⟩:=h;have at7:∀ i x,N'[i]?=Aa x->i∈ts\/((scope.names.lookup x≠Aa .local/\scope.names.lookup x≠Aa .cell)/\(scope.names.lookup x≠Aa .free\/T.N[i]?=Aa x)):=λi x e=>by
  have hi:=(A2.mp e).1;have:=h7 i (DG.mpr hi);rcases this with z|z
  .exact .inl (by simpa using z)
  .rw[e]at z;simp only[Ai,Ht,LI,BL,AD]at z;exact .inr z
 refine⟨⟨h1,h2,λy hy hl=>by rw[h2 y hy,hl],λy hy hf=>?_,by rw[v.N];exact h5,λi x e hf hn=>?_,λi x e hl=>?_⟩,L8 h6,h1⟩
 .rw[v.sc];rcases h4 y hy with (z|z)|z
  .exact absurd hf z
  .exact .inl z
  .exact .inr z
 .rw[v.N];rcases at7 i x e with z|⟨_,z⟩
  .exact absurd z hn
  .exact z.resolve_left λq=>q hf
 .rcases at7 i x e with z|⟨z,_⟩
  .exact z
  .exact hl.elim (λq=>absurd q z.1) (λq=>absurd q z.2)
theorem VX.blk{xs:Ac Ag}{cl:Ac (Ag×Ak)}{s:Ap}{fp:Ac Ak}(v:VX Z CL k W T X)(h:ML T scope ts (KJ ts xs T.N)=Ab):VX Z CL k W0 (T.blk scope ts xs) (cxC X scope cl C (KJ ts xs T.N) s H fp):=by
 obtain⟨_,h2,h3⟩:=Qd v h;exact⟨bL v scope,h3,rfl,h2,v.calm,v.room,v.bl,v.os,v.mkr,v.fn,PassesOwn.never,UW,Wj,Q2,v.xt,v.gl,λz=>nomatch z⟩
theorem iI{t:Af}(v:VX Z CL k W T X)(hfn:scope.names.lookup x=Aa .cell->X.fn x=Ab)(h:tgO T scope t x=Ab):PG X (.Name x pos) (EG t):=by
 unfold tgO at h;simp only[Ai,BL,AD]at h;rcases h with ⟨h1,h2|h2⟩
 .exact Mc (by rw[v.N];exact v.nd) (by rw[v.N];exact h1) (by rw[v.sc];exact .inl h2) (.inr (by rw[v.sc];exact h2))
 .exact Mc (by rw[v.N];exact v.nd) (by rw[v.N];exact h1) (by rw[v.sc];exact .inr h2.1) (.inl (hfn h2.2))
theorem OB{y:Am}{r:Ac Am}{zs:Ac Ag}(h:FX (y::r)=Aa zs):∃ x p ws,y=.Name x p/\FX r=Aa ws/\zs=x::ws:=by
 cases y with
 |Name x p=>
  have h':(FX r).map (x :: ·)=Aa zs:=h;cases e:FX r with
  |none=>rw[e]at h';cases h'
  |some ws=>rw[e]at h';cases h';exact⟨x,p,ws,rfl,rfl,rfl⟩
 |_=>cases h
theorem O0(x:Ag)(p:AF)(r:Ac Am)(env:Cj):D9 (.Name x p::r) env=(Ad,assign (.Name x p) env)::D9 r env:=rfl
theorem Rm:∀(ys:Ac Am)(zs:Ac Ag),FX ys=Aa zs->(D9 ys env).length=ys.length/\(D9 ys env).findIdx? (·.1)=Ae/\(D9 ys env).map (·.2)=ys.map λy=>assign y env:=by
 intro ys
 induction ys with
 |nil=>intro _ _;exact⟨rfl,rfl,rfl⟩
 |cons y r ih=>
  intro zs h;obtain⟨x,p,ws,rfl,e,rfl⟩:=OB h;obtain⟨h1,h2,h3⟩:=ih ws e;rw[O0];refine⟨?_,?_,?_⟩
  .rw[AI,AI,h1]
  .rw[List.findIdx?_cons,h2];simp
  .rw[Bz,Bz,h3]
theorem iL(v:VX Z CL k W T X):∀(ys:Ac Am)(ts:Ac Af)(zs:Ac Ag),FX ys=Aa zs->tgB T ts zs=Ab->PGs X ys (ts.foldr (λt u=>Jm (EG t) u) Jq)/\ts.length=ys.length:=by
 intro ys
 induction ys with
 |nil=>
  intro ts zs e h;cases e;cases ts with
  |nil=>exact⟨Ui,rfl⟩
  |cons t ts=>cases h
 |cons y r ih=>
  intro ts zs e h;obtain⟨x,p,ws,rfl,e2,rfl⟩:=OB e;cases ts with
  |nil=>cases h
  |cons t ts=>
   have h':(T.N[t]? == Aa x&&T.sc.names.lookup x==Aa .local&&tgB T ts ws)=Ab:=h;simp only[Ai,AD]at h';obtain⟨h1,h2⟩:=ih ts ws e2 h'.2;exact⟨Tv (Mc (by rw[v.N];exact v.nd) (by rw[v.N];exact h'.1.1) (by rw[v.sc];exact .inl h'.1.2) (.inr (by rw[v.sc];exact h'.1.2))) h1 (by rw[O0];rfl),congrArg (· + 1) h2⟩
theorem iK(v:VX Z CL k W T X)(hn:(FX ys).isSome=Ab)(h:tgB T ts (tgN ys)=Ab):PG X (.Tuple ys kk pos) (MG X.K ts.length (ts.foldr (λt u=>Jm (EG t) u) Jq)):=by
 cases e:FX ys with
 |none=>rw[e]at hn;cases hn
 |some zs=>
  have e2:tgN ys=zs:=by unfold tgN;rw[e];rfl
  rw[e2]at h;obtain⟨h1,h2⟩:=iL v ys ts zs e h;obtain⟨h3,h4,_⟩:=Rm (env:=X.env) ys zs e;exact US v.calm h1 (by rw[h3,h2]) h4
end
noncomputable def Es.len:Es->Af
 |.nil=>0
 |.cons _ es=>es.len+1
theorem HP(Z:Gam)(U:Rho):∀(es:Es)(ds:Ac D),evA Z U es=.ok ds->ds.length=es.len
 |.nil,ds,h=>by cases h;rfl
 |.cons e es,ds,h=>by
  obtain⟨x,h1,h2⟩:=Km (Td Z U e es ▸ h);obtain⟨xs,h3,h4⟩:=Km h2;cases h4;exact congrArg (· + 1) (HP Z U es xs h3)
theorem Mh(Z:Gam)(U:Rho):∀(es:Es)(ds:Ac D),evB Z U es=.ok ds->ds.length=es.len
 |.nil,ds,h=>by cases h;rfl
 |.cons e es,ds,h=>by
  obtain⟨x,h1,h2⟩:=Km (Pj Z U e es ▸ h);obtain⟨xs,h3,h4⟩:=Km h2;cases h4;exact congrArg (· + 1) (Mh Z U es xs h3)
theorem U_6(Z:Gam)(U:Rho)(e:E)(h:shE U e=Ab):top U e (evE Z U e)=evE Z U e:=by
 cases e with
 |var i=>
  show Eb U i=E5 U i;have h':shV U i=Ab:=h;unfold shV at h';unfold Eb E5;cases q:U[i]? with
  |none=>rfl
  |some x=>
   cases x with
   |none=>rfl
   |some y=>
    obtain⟨d,o⟩:=y;cases o with
    |true=>rw[q]at h';cases h'
    |false=>rfl
 |_=>rfl
theorem Mo(Z:Gam)(U:Rho):∀(es:Es),HV U es=Ab->evB Z U es=evA Z U es
 |.nil,_=>rfl
 |.cons e es,h=>by
  simp only[aV,Ai]at h;rw[Td,Pj,U_6 Z U e h.1,Mo Z U es h.2]
theorem PX(Z:Gam)(c:E):Rf (λU=>evE Z U c) (λU=>top U c (evE Z U c)):=λU=>by
 by_cases h:shE U c=Ab
 .exact .inr (U_6 Z U c h).symm
 .cases c with
  |var i=>
   refine .inl ?_;show E5 U i=.bad;have h':¬ shV U i=Ab:=h;unfold shV at h';unfold E5;cases q:U[i]? with
   |none=>rfl
   |some x=>
    cases x with
    |none=>rfl
    |some y=>
     obtain⟨d,o⟩:=y;cases o with
     |true=>rfl
     |false=>rw[q]at h';exact absurd rfl h'
  |_=>exact absurd rfl h
def Pcs(X:Cx)(CL:ClA)(W:XW)(e:Am)(f:Rho->R D):Prop:=∃ tg iter elt ifs scope pos N' ts fi fc fe as g,e=.ListComp elt [⟨tg,iter,ifs,0⟩] scope pos/\BlockOk X scope N' ts/\SI X CL W tg iter fi/\GG X.K CL ts as g /\
 (∀ cl C s H fp,PG (cxC X scope cl C N' s H fp) tg g)/\(∀ cl C s H fp,STs (cxC X scope cl C N' s H fp) CL ifs fc)/\(∀ cl C s H fp,SE (cxC X scope cl C N' s H fp) CL W0 elt fe)/\(∀ x,BQ iter X.env x=pure x) /\
 ∀ U,f U=(fi U).bind λxs=>(noX (BK (λx=>(as x U).bind fc) (λx=>(as x U).bind fe) xs)).bind λys=>.ok (.lst ys)
theorem Pcs.sc{e:Am}{f:Rho->R D}(hc:X.calm=Ab)(h:Pcs X CL W e f):SC X CL W Ab e f:=by
 obtain⟨tg,iter,elt,ifs,scope,pos,N',ts,fi,fc,fe,as,g,rfl,B,hi,hGG,hg,ht,he,hs,ef⟩:=h;exact SC.congr (kO hc B hi hGG hg ht he hs) ef
structure OkE (Z:Gam) (CL:ClA) (W:XW) (X:Cx) (e:Am) (c:E):Prop where
 se:SE X CL W e (λU=>evE Z U c)
 st:ST X CL W e (λU=>top U c (evE Z U c))
 nw:B5 Z c=Ab->SC X CL W Ab e (λU=>evE Z U c)
 cp:G1 e=Ad->Pcs X CL W e (λU=>evE Z U c)
section
variable{Z:Gam}{CL:ClA}{W:XW}{X:Cx}{e:Am}{c:E}
theorem Dc(h:SE X CL W e (λU=>evE Z U c))(ht:∀ U r,top U c r=r)(hn:B5 Z c=Ad)(hc:G1 e=Ab):OkE Z CL W X e c:=
 ⟨h,by simp only[ht];exact h.st,λz=>absurd z (by rw[hn];decide),λz=>absurd z (by rw[hc];decide)⟩
theorem Nr(h:SC X CL W Ab e (λU=>evE Z U c))(ht:∀ U r,top U c r=r)(hc:G1 e=Ab):OkE Z CL W X e c:=
 ⟨h.se,by simp only[ht];exact h.se.st,λ_=>h,λz=>absurd z (by rw[hc];decide)⟩
theorem wB(hc:X.calm=Ab)(h:Pcs X CL W e (λU=>evE Z U c))(ht:∀ U r,top U c r=r):OkE Z CL W X e c:=
 ⟨(h.sc hc).se,by simp only[ht];exact(h.sc hc).se.st,λ_=>h.sc hc,λ_=>h⟩
end
theorem wI{k:Ki}(h:Qx k=Aa x):∃ T,tyK k=Aa T/\CJ x=Aa (.type T):=by
 cases k<;>simp only[Qx]at h<;>cases h
 .exact⟨_,rfl,Xs⟩
 .exact⟨_,rfl,PyProof.Rows.boot_bool⟩
 .exact⟨_,rfl,Xv⟩
 .exact⟨_,rfl,Xu⟩
 .exact⟨_,rfl,Xx⟩
structure Snd (Z:Gam) (CL:ClA) (k:Af) (n:Af):Prop where
 e:∀(W:XW)(T:Tc)(X:Cx)(x:Am)(c:E),VX Z CL k W T X->A4 n T x c=Ab->OkE Z CL W X x c
 b:∀(W:XW)(T:Tc)(X:Cx)(x:Am)(c:E),VX Z CL k W T X->HY n T x c=Ab->SB X CL W x (λU=>(top U c (evE Z U c)).bind BS)
 bs:∀(W:XW)(T:Tc)(X:Cx)(xs:Ac Am)(es:Es)(pos:AF),VX Z CL k W T X->chkBs n T xs es=Ab->xs≠[]->SW X CL W (.BoolOp .And xs pos) (λU=>(evN Z U es).bind BS)/\SW X CL W (.BoolOp .Or xs pos) (λU=>(evO Z U es).bind BS)
 es:∀(W:XW)(T:Tc)(X:Cx)(xs:Ac Am)(es:Es),VX Z CL k W T X->chkEs n T xs es=Ab->SA X CL W xs (λU=>evA Z U es)/\SAT X CL W xs (λU=>evB Z U es)/\xs.length=es.len/\(∀ pos,xs≠[]->SE X CL W (.BoolOp .And xs pos) (λU=>evN Z U es)/\SE X CL W (.BoolOp .Or xs pos) (λU=>evO Z U es))/\(∀ pos,(Bo pos (Aq xs X.env)).any (·.1)=Ad)
 o:∀(W:XW)(T:Tc)(X:Cx)(x:Ao Am)(c:E),VX Z CL k W T X->chkO n T x c=Ab->SO X CL W x (λU=>(top U c (evE Z U c)).bind (slE c))
 t:∀(T:Tc)(X:Cx)(xs:Ac Am)(c:E),VX Z CL k W0 T X->chkT n T xs c=Ab->STs X CL xs (λU=>(top U c (evE Z U c)).bind BS)
 i:∀(W:XW)(T:Tc)(X:Cx)(tu:Al)(tg x:Am)(i:I),VX Z CL k W T X->WB tu tg=Ab->chkI n T tu x i=Ab->SI X CL W tg x (λU=>evI Z U i)
section
variable{Z:Gam}{CL:ClA}{W:XW}{k n:Af}{T:Tc}{X:Cx}
theorem eE:Snd Z CL k 0:=⟨λ_ _ _ _ _ _ h=>noF h,λ_ _ _ _ _ _ h=>noF h,λ_ _ _ _ _ _ _ h=>noF h,λ_ _ _ _ _ _ h=>noF h,λ_ _ _ _ _ _ h=>noF h,λ_ _ _ _ _ h=>noF h,λ_ _ _ _ _ _ _ _ _ h=>noF h⟩
theorem Rs{x:Am}(h:CV x=Ab)(hx:(Bo pos (Aq xs env)).any (·.1)=Ad):(Bo pos (Aq (x::xs) env)).any (·.1)=Ad:=by
 rw[BY h];show (Ad||(Bo pos (Aq xs env)).any (·.1))=Ad;rw[hx];rfl
theorem mW(S:Snd Z CL k n)(W:XW)(T:Tc)(X:Cx)(xs:Ac Am)(es:Es)(v:VX Z CL k W T X)(h:chkEs (n+1) T xs es=Ab):SA X CL W xs (λU=>evA Z U es)/\SAT X CL W xs (λU=>evB Z U es)/\xs.length=es.len/\(∀ pos,xs≠[]->SE X CL W (.BoolOp .And xs pos) (λU=>evN Z U es)/\SE X CL W (.BoolOp .Or xs pos) (λU=>evO Z U es))/\(∀ pos,(Bo pos (Aq xs X.env)).any (·.1)=Ad):=by
 cases xs with
 |nil=>
  cases es with
  |nil=>exact⟨UL,kQ,rfl,λ_ z=>absurd rfl z,λ_=>rfl⟩
  |cons=>exact noF h
 |cons x xs=>
  cases es with
  |nil=>exact noF h
  |cons e es=>
   replace h:(CV x&&A4 n T x e&&chkEs n T xs es)=Ab:=h;simp only[Ai]at h;obtain⟨⟨h0,h1⟩,h2⟩:=h;have he:=S.e W T X x e v h1;obtain⟨a1,a2,a3,a4,a5⟩:=S.es W T X xs es v h2;refine⟨Ue he.se a1 (BY h0),eM he.st a2 (BY h0),congrArg (· + 1) a3,λpos _=>?_,λpos=>Rs h0 (a5 pos)⟩
   cases xs with
   |nil=>
    cases es with
    |nil=>exact⟨PR he.se,PR he.se⟩
    |cons=>cases a3
   |cons y ys=>
    cases es with
    |nil=>cases a3
    |cons e' es'=>
     obtain⟨b1,b2⟩:=a4 pos (by simp)
     exact⟨UK he.se b1,uT he.se b2⟩
theorem tD(S:Snd Z CL k n)(W:XW)(T:Tc)(X:Cx)(x:Ao Am)(c:E)(v:VX Z CL k W T X)(h:chkO (n+1) T x c=Ab):SO X CL W x (λU=>(top U c (evE Z U c)).bind (slE c)):=by
 cases x with
 |none=>
  obtain rfl:=fK h;exact kD
 |some x=>
  replace h:(!(NG c)&&A4 n T x c)=Ab:=h;rw[Ai]at h;have q:=hG (S.e W T X x c v h.2).st;have e:slE c=λd=>(Ei d).bind λi=>.ok (Aa i):=by
   funext d
   cases c<;>first|rfl|exact absurd (show Ad=Ab from h.1) Au
  rw[e];exact q
theorem sZ(S:Snd Z CL k n)(T:Tc)(X:Cx)(xs:Ac Am)(c:E)(v:VX Z CL k W0 T X)(h:chkT (n+1) T xs c=Ab):STs X CL xs (λU=>(top U c (evE Z U c)).bind BS):=by
 cases xs with
 |nil=>
  replace h:=jB h;obtain⟨b,rfl,h⟩:=h;subst h;exact TU
 |cons x xs=>
  replace h:(xs.isEmpty&&HY n T x c)=Ab:=h;rw[Ai]at h;obtain rfl:=E3 h.1;exact iQ (S.b W0 T X x c v h.2)
theorem tE(S:Snd Z CL k n)(W:XW)(T:Tc)(X:Cx)(tu:Al)(tg x:Am)(i:I)(v:VX Z CL k W T X)(ht':WB tu tg=Ab)(h:chkI (n+1) T tu x i=Ab):SI X CL W tg x (λU=>evI Z U i):=by
 have ht:tu=Ab->vL tg=Ab:=λz=>by
  subst z;cases tg<;>first|rfl|cases ht'
 cases i with
 |e a=>
  exact ZQ (S.e W T X x a v h).se
 |rng a=>
  replace h:=Ij h;obtain⟨g,pp,l,qq,rfl,h⟩:=h;replace h:=EV h;obtain⟨y,rfl,h⟩:=h;simp only[Ai,AD]at h;obtain⟨⟨⟨rfl,h1⟩,h2⟩,h3⟩:=h;obtain⟨g1,g2,_,_⟩:=G2 v h1;exact pQ (S.e W T X _ a v h3).st g1 g2 (BY h2)
 |rng2 a b=>
  replace h:=Ij h;obtain⟨g,pp,l,qq,rfl,h⟩:=h;replace h:=Jf h;obtain⟨y,z,rfl,h⟩:=h;simp only[Ai,AD]at h;obtain⟨⟨⟨⟨⟨rfl,h1⟩,h2⟩,h3⟩,h4⟩,h5⟩:=h;obtain⟨g1,g2,_,_⟩:=G2 v h1;exact kF (S.e W T X _ a v h4).st (S.e W T X _ b v h5).st g1 g2 (by rw[BY h2,BY h3];rfl) (by rw[BY h3];rfl)
 |rng3 a b c=>
  replace h:=Ij h;obtain⟨g,pp,l,qq,rfl,h⟩:=h;replace h:=fZ h;obtain⟨y,z,w,rfl,h⟩:=h;simp only[Ai,AD]at h;obtain⟨⟨⟨⟨⟨⟨⟨rfl,h1⟩,h2⟩,h3⟩,h4⟩,h5⟩,h6⟩,h7⟩:=h;obtain⟨g1,g2,_,_⟩:=G2 v h1;exact si_rng3 (S.e W T X _ a v h5).st (S.e W T X _ b v h6).st (S.e W T X _ c v h7).st g1 g2 (by rw[BY h2,BY h3,BY h4];rfl) (by rw[BY h3,BY h4];rfl) (by rw[BY h4];rfl)
 |zip a b=>
  replace h:=Ij h;obtain⟨g,pp,l,qq,rfl,h⟩:=h;replace h:=Jf h;obtain⟨y,z,rfl,h⟩:=h;simp only[Ai,AD]at h;obtain⟨⟨⟨⟨⟨⟨h0,rfl⟩,h1⟩,h2⟩,h3⟩,h4⟩,h5⟩:=h;obtain⟨g1,g2,_,_⟩:=G2 v h1;have hg:=ht h0;cases tg with
  |Tuple es m tpos=>exact si_zs (S.e W T X _ a v h4).se (S.e W T X _ b v h5).se g1 g2 (by rw[BY h2,BY h3];rfl) (by rw[BY h3];rfl)
  |_=>cases hg
 |zip3 a b c=>exact absurd (show Ad=Ab from h) Au
 |enm a=>exact absurd (show Ad=Ab from h) Au
theorem Le{c:Prop}[Gp c]{b:Al}:(if c then R.ok (D.bl b) else .bad)=.bad\/∃ b',(if c then R.ok (D.bl b) else .bad)=.ok (.bl b'):=by
 by_cases h:c
 .rw[As h];exact .inr ⟨_,rfl⟩
 .rw[AB h];exact .inl rfl
theorem SG(op:Dr)(d d':D):BU op d d'=.bad\/∃ b,BU op d d'=.ok (.bl b):=by
 cases op with
 |Eq=>exact Le
 |NotEq=>exact Le
 |In=>
  cases d' with
  |lst ys=>exact Le
  |tup ys=>exact Le
  |dic kvs=>
   show (match J8 d with|some k=>R.ok (D.bl (kvs.any λp=>p.1==k))|none=>.bad)=.bad\/∃ b,(match J8 d with|some k=>R.ok (D.bl (kvs.any λp=>p.1==k))|none=>.bad)=.ok (.bl b)
   cases J8 d with
   |some k=>exact .inr ⟨_,rfl⟩
   |none=>exact .inl rfl
  |_=>exact .inl rfl
 |NotIn=>
  cases d' with
  |lst ys=>exact Le
  |tup ys=>exact Le
  |str j=>cases d<;>first|exact .inr ⟨_,rfl⟩|exact .inl rfl
  |_=>exact .inl rfl
 |Is=>
  cases d' with
  |non=>cases d<;>first|exact .inr ⟨_,rfl⟩|exact .inl rfl
  |_=>cases d<;>first|exact .inl rfl|exact .inr ⟨_,rfl⟩
 |IsNot=>
  cases d' with
  |non=>cases d<;>first|exact .inr ⟨_,rfl⟩|exact .inl rfl
  |_=>cases d<;>first|exact .inl rfl|exact .inr ⟨_,rfl⟩
 |_=>
  cases d with
  |int i=>cases d'<;>first|exact .inr ⟨_,rfl⟩|exact .inl rfl
  |_=>exact .inl rfl
theorem Ur(op:Dr)(d d':D):(BU op d d').bind BS=.bad\/(BU op d d').bind BS=(BU op d d').bind D5:=by
 rcases SG op d d' with h|⟨b,h⟩
 .rw[h];exact .inl rfl
 .rw[h];exact .inr rfl
theorem sM(e e':E)(es:Es):Rf (λU=>(evN Z U (.cons e (.cons e' es))).bind BS) (λU=>((top U e (evE Z U e)).bind BS).bind λc=>if c=Ab then (evN Z U (.cons e' es)).bind BS else .ok Ad):=λU=>by
 have e0:evN Z U (.cons e (.cons e' es))=(evE Z U e).bind λx=>(D5 x).bind λc=>if c=Ab then evN Z U (.cons e' es) else .ok (.bl Ad):=rfl
 dsimp only;rw[e0];rcases PX Z e U with z|z<;>dsimp only at z
 .rw[z];exact .inl rfl
 .rw[<-z];cases evE Z U e with
  |bad=>exact .inl rfl
  |exn x=>exact .inr rfl
  |ok d=>
   cases d with
   |bl b=>cases b<;>exact .inr rfl
   |_=>exact .inl rfl
theorem sL(e e':E)(es:Es):Rf (λU=>(evO Z U (.cons e (.cons e' es))).bind BS) (λU=>((top U e (evE Z U e)).bind BS).bind λc=>if c=Ab then .ok Ab else (evO Z U (.cons e' es)).bind BS):=λU=>by
 have e0:evO Z U (.cons e (.cons e' es))=(evE Z U e).bind λx=>(D5 x).bind λc=>if c=Ab then .ok (.bl Ab) else evO Z U (.cons e' es):=rfl
 dsimp only;rw[e0];rcases PX Z e U with z|z<;>dsimp only at z
 .rw[z];exact .inl rfl
 .rw[<-z];cases evE Z U e with
  |bad=>exact .inl rfl
  |exn x=>exact .inr rfl
  |ok d=>
   cases d with
   |bl b=>cases b<;>exact .inr rfl
   |_=>exact .inl rfl
theorem Rf.tru(e:E):Rf (λU=>(evE Z U e).bind BS) (λU=>(top U e (evE Z U e)).bind BS):=λU=>by
 rcases PX Z e U with z|z<;>dsimp only at z ⊢
 .rw[z];exact .inl rfl
 .rw[<-z];exact .inr rfl
theorem mX(S:Snd Z CL k n)(W:XW)(T:Tc)(X:Cx)(xs:Ac Am)(es:Es)(pos:AF)(v:VX Z CL k W T X)(h:chkBs (n+1) T xs es=Ab)(hne:xs≠[]):SW X CL W (.BoolOp .And xs pos) (λU=>(evN Z U es).bind BS)/\SW X CL W (.BoolOp .Or xs pos) (λU=>(evO Z U es).bind BS):=by
 cases xs with
 |nil=>exact absurd rfl hne
 |cons x xs=>
  cases es with
  |nil=>exact noF h
  |cons e es=>
   replace h:(HY n T x e&&chkBs n T xs es)=Ab:=h;simp only[Ai]at h;obtain⟨h1,h2⟩:=h;have he:=S.b W T X x e v h1;cases xs with
   |nil=>
    cases es with
    |nil=>exact⟨SW.ref (iP he) (Rf.tru e),SW.ref (nU he) (Rf.tru e)⟩
    |cons=>
     cases n with
     |zero=>exact absurd (show Ad=Ab from h2) Au
     |succ n=>exact absurd (show Ad=Ab from h2) Au
   |cons y ys=>
    cases es with
    |nil=>
     cases n with
     |zero=>exact absurd (show Ad=Ab from h2) Au
     |succ n=>exact absurd (show Ad=Ab from h2) Au
    |cons e' es'=>
     obtain⟨b1,b2⟩:=S.bs W T X (y::ys) (.cons e' es') pos v h2 (by simp)
     exact⟨SW.ref (nV he b1) (sM e e' es'),SW.ref (sY he b2) (sL e e' es')⟩
theorem iH(S:Snd Z CL k n){x:Am}{ops:Ac Dr}{b:BI}(v:VX Z CL k W T X)(h:QD T (A4 n) x ops ys b as=Ab):SB X CL W (.Compare x ops ys pos) (λU=>(top U (.bi b as) (evE Z U (.bi b as))).bind BS):=by
 exact absurd (show Ad=Ab from h) Au
theorem sO(S:Snd Z CL k n)(W:XW)(T:Tc)(X:Cx)(x:Am)(c:E)(v:VX Z CL k W T X)(h:HY (n+1) T x c=Ab):SB X CL W x (λU=>(top U c (evE Z U c)).bind BS):=by
 have plain:∀ e,MY e=Ab->A4 n T e c=Ab->SB X CL W e (λU=>(top U c (evE Z U c)).bind BS):=λe h1 h2=>qC (S.e W T X e c v h2).st (iM h1)
 replace h:((KM x λo x=>decide (o=.Not)&&(N7 c λa=>HY n T x a))||(J5 x λo xs _=>(decide (o=.And)&&(NR c λes=>chkBs n T xs es && !xs.isEmpty))||(decide (o=.Or)&&(N6 c λes=>chkBs n T xs es && !xs.isEmpty)))||(Mu x λx os ys=>(NN c λop a b=>D3 os λop'=>D3 ys λy=>decide (op'=op) && !behindInMarks op y&&A4 n T x a&&A4 n T y b)||(NO c λop1 op2 a b c=>Hj os λo1 o2=>Hj ys λy z=>decide (o1=op1)&&decide (o2=op2) && !lastMarks [op1,op2] [y,z]&&A4 n T x a&&A4 n T y b&&A4 n T z c)||(NP c λb as=>QD T (A4 n) x os ys b as))||MY x&&A4 n T x c)=Ab:=h
 replace h:=(orT h).imp_left λz=>(orT z).imp_left orT
 rcases h with ((h|h)|h)|h
 .replace h:=Nh h;obtain⟨o,y,p,rfl,h⟩:=h;replace h:=A7 h;obtain⟨h0,h⟩:=h;obtain rfl:=AS h0;replace h:=iZ h;obtain⟨a,rfl,h⟩:=h
  .skip
   refine SB.ref (qD (S.b W T X _ a v h)) λU=>?_
   show ((top U a (evE Z U a)).bind λx=>(D5 x).bind λb=>.ok (.bl (!b))).bind BS=.bad\/((top U a (evE Z U a)).bind λx=>(D5 x).bind λb=>.ok (.bl (!b))).bind BS=_
   cases top U a (evE Z U a) with
   |bad=>exact .inl rfl
   |exn x=>exact .inr rfl
   |ok d=>cases d<;>first|exact .inr rfl|exact .inl rfl
 .replace h:=L5 h;obtain⟨o,ys,p,rfl,h⟩:=h;replace h:=orT h;rcases h with h|h
  .replace h:=A7 h;obtain⟨h0,h⟩:=h;obtain rfl:=AS h0;replace h:=gL h;obtain⟨es,rfl,h⟩:=h;simp only[Ai,Br,D7]at h;exact(S.bs W T X _ _ _ v h.1 h.2).1.sb
  .replace h:=A7 h;obtain⟨h0,h⟩:=h;obtain rfl:=AS h0;replace h:=iY h;obtain⟨es,rfl,h⟩:=h;simp only[Ai,Br,D7]at h;exact(S.bs W T X _ _ _ v h.1 h.2).2.sb
 .replace h:=SQ h;obtain⟨w,os,ys,p,rfl,h⟩:=h;replace h:=(orT h).imp_left orT;rcases h with (h|h)|h
  .replace h:=gF h;obtain⟨op,a,b,rfl,h⟩:=h;replace h:=EV h;obtain⟨op',rfl,h⟩:=h;replace h:=EV h;obtain⟨y,rfl,h⟩:=h
   .simp only[Ai,Br,Az]at h;obtain⟨⟨⟨rfl,h1⟩,h2⟩,h3⟩:=h;refine SB.ref (oO (Ng v.room.units _) (S.e W T X _ a v h2).st (S.e W T X _ b v h3).st h1) λU=>?_
    show ((top U a (evE Z U a)).bind λx=>(top U b (evE Z U b)).bind λy=>BU op' x y).bind BS=.bad\/((top U a (evE Z U a)).bind λx=>(top U b (evE Z U b)).bind λy=>BU op' x y).bind BS=_
    cases top U a (evE Z U a) with
    |bad=>exact .inl rfl
    |exn x=>exact .inr rfl
    |ok d=>
     cases top U b (evE Z U b) with
     |bad=>exact .inl rfl
     |exn x=>exact .inr rfl
     |ok d'=>
      dsimp only[R.bind];exact Ur _ d d'
  .replace h:=gG h;obtain⟨op1,op2,a,b,c,rfl,h⟩:=h;replace h:=Jf h;obtain⟨o1,o2,rfl,h⟩:=h;replace h:=Jf h;obtain⟨y,z,rfl,h⟩:=h
   .simp only[Ai,Br,Az]at h;obtain⟨⟨⟨⟨⟨rfl,rfl⟩,h1⟩,h2⟩,h3⟩,h4⟩:=h;refine SB.ref (eL v.room.units (S.e W T X _ a v h2).st (S.e W T X _ b v h3).st (S.e W T X _ c v h4).st h1) λU=>?_
    show ((top U a (evE Z U a)).bind λx=>(top U b (evE Z U b)).bind λy=>(BU o1 x y).bind λz=>(D5 z).bind λk=>if k=Ab then (top U c (evE Z U c)).bind λu=>BU o2 y u else .ok (.bl Ad)).bind BS=.bad\/((top U a (evE Z U a)).bind λx=>(top U b (evE Z U b)).bind λy=>(BU o1 x y).bind λz=>(D5 z).bind λk=>if k=Ab then (top U c (evE Z U c)).bind λu=>BU o2 y u else .ok (.bl Ad)).bind BS=_
    cases top U a (evE Z U a) with
    |bad=>exact .inl rfl
    |exn x=>exact .inr rfl
    |ok d=>
     cases top U b (evE Z U b) with
     |bad=>exact .inl rfl
     |exn x=>exact .inr rfl
     |ok d'=>
      dsimp only[R.bind];cases BU o1 d d' with
      |bad=>exact .inl rfl
      |exn x=>exact .inr rfl
      |ok d3=>
       cases d3 with
       |bl k=>
        cases k with
        |false=>exact .inr rfl
        |true=>
         dsimp only[R.bind,D5];rw[As rfl,As rfl];cases top U c (evE Z U c) with
         |bad=>exact .inl rfl
         |exn x=>exact .inr rfl
         |ok d4=>exact Ur _ d' d4
       |_=>exact .inl rfl
  .replace h:=gH h;obtain⟨b,as,rfl,h⟩:=h;exact iH S v h
 .exact plain _ (A7 h).1 (A7 h).2
end
section
variable{Z:Gam}{CL:ClA}{W:XW}{k n:Af}{T:Tc}{X:Cx}
theorem wJ{b:BI}{x:Am}(v:VX Z CL k W T X)(hb:Qy b=Aa g)(hg:isB T g=Ab)(hs:SAT X CL W (x::xs) (λU=>evB Z U as))(h0:CV x=Ab)(hpl:∀ pos,(Bo pos (Aq xs X.env)).any (·.1)=Ad):OkE Z CL W X (.Call (.Name g p) (x::xs) [] pos) (.bi b as):=by
 obtain⟨g1,g2,g3,g4⟩:=G2 v hg;cases b<;>simp only[Qy]at hb<;>cases hb
 .exact Dc (UJ sI g1 g2 PySem.boot_len hs g3 g4 (BY h0) hpl) (λ_ _=>rfl) rfl rfl
 .exact Dc (PZ sJ g1 g2 Xs hs g3 g4 (BY h0) hpl) (λ_ _=>rfl) rfl rfl
 .exact Nr (pL lU g1 g2 Xu hs g3 g4 (BY h0) hpl) (λ_ _=>rfl) rfl
 .exact Dc (PZ gM g1 g2 Xx hs g3 g4 (BY h0) hpl) (λ_ _=>rfl) rfl rfl
 .exact Dc (UJ (sK v.calm) g1 g2 PyProof.Rows.boot_all hs g3 g4 (BY h0) hpl) (λ_ _=>rfl) rfl rfl
 .exact Nr (pM eP g1 g2 PyProof.Rows.boot_sorted hs g3 g4 (BY h0) hpl) (λ_ _=>rfl) rfl
 .exact Dc (PZ sH g1 g2 Xv hs g3 g4 (BY h0) hpl) (λ_ _=>rfl) rfl rfl
theorem Ry{β:Type}[BEq α][LawfulBEq α]{a:α}{b:β}:∀{l:Ac (α×β)},l.lookup a=Aa b->(a,b)∈l:=by
 intro l
 induction l with
 |nil=>intro h;cases h
 |cons p r ih=>
  intro h;obtain⟨x,y⟩:=p;by_cases z:(a==x)=Ab
  .simp only[B6,z]at h;cases h;rw[eq_of_beq z];exact AJ
  .have z':(a==x)=Ad:=by simpa using z
   simp only[B6,z']at h;exact Aw _ (ih h)
theorem Kz{l:Ac (Ag×Af)}(h:inX l g c=Ab):(g,c)∈l:=by
 unfold inX at h;simp only[DF,Ai,AD]at h;obtain⟨p,hp,rfl,rfl⟩:=h;exact hp
theorem Il{x:Am}{es:Es}(h:chkEs n T (x::xs) es=Ab):CV x=Ab/\∃ e es',es=.cons e es'/\∃ m,n=m+1/\chkEs m T xs es'=Ab:=by
 cases n with
 |zero=>exact noF h
 |succ m=>
  cases es with
  |nil=>exact noF h
  |cons e es=>
   replace h:(CV x&&A4 m T x e&&chkEs m T xs es)=Ab:=h;simp only[Ai]at h;exact⟨h.1.1,e,es,rfl,m,rfl,h.2⟩
theorem Sr:∀(m:Af)(xs:Ac Am)(es:Es),chkEs m T xs es=Ab->xs.length=es.len:=by
 intro m
 induction m with
 |zero=>intro xs es h;exact noF h
 |succ m ih=>
  intro xs es h;cases xs with
  |nil=>
   cases es with
   |nil=>rfl
   |cons e es=>exact noF h
  |cons x xs=>
   cases es with
   |nil=>exact noF h
   |cons e es=>
    have h':(CV x&&A4 m T x e&&chkEs m T xs es)=Ab:=h;exact congrArg (· + 1) (ih xs es (A7 h').2)
theorem Ik:∀(m:Af)(xs:Ac Am)(es:Es),chkEs m T xs es=Ab->∀ pos,(Bo pos (Aq xs X.env)).any (·.1)=Ad:=by
 intro m
 induction m with
 |zero=>intro xs es h;exact noF h
 |succ m ih=>
  intro xs es h pos;cases xs with
  |nil=>rfl
  |cons x xs=>
   obtain⟨h0,e,es',rfl,m',e1,h1⟩:=Il h;cases e1;exact Rs h0 (ih xs es' h1 pos)
theorem mJ(S:Snd Z CL k n){x:Am}{b:BI}(v:VX Z CL k W T X)(h:(match Oc as with|some (s,a)=>ID x λf l ks cp=>ks.isEmpty&&(Hl f λo m ap=>m==("join" : Ag)&&ap.endLine==cp.line&&(Hk o λc=>decide (c=.str s)&&decide (b=.sjoin)&&(D3 l λy=>CV y&&A4 n T y a)))|none=>Ad)=Ab):OkE Z CL W X x (.bi b as):=by
 cases q1:Oc as with
 |none=>rw[q1]at h;cases h
 |some t=>
  obtain⟨s,a⟩:=t;rw[q1]at h;obtain⟨e,te⟩:=nX q1;subst e;replace h:=Kr h;obtain⟨f,l,ks,cp,rfl,h⟩:=h;replace h:=A7 h;obtain⟨h0,h⟩:=h;obtain rfl:=E3 h0;replace h:=JR h;obtain⟨o,m,ap,rfl,h⟩:=h;replace h:=A7 h;obtain⟨h1,h⟩:=h;replace h1:=A7 h1;obtain⟨h1,h2⟩:=h1;obtain rfl:=eq_of_beq h1;replace h:=JQ h;obtain⟨c,u,p,rfl,h⟩:=h;replace h:=A7 h;obtain⟨h3,h⟩:=h;replace h3:=A7 h3;obtain⟨h3,h4⟩:=h3;obtain rfl:=AS h3;obtain rfl:=AS h4;replace h:=EV h;obtain⟨y,rfl,h⟩:=h;replace h:=A7 h;obtain⟨h5,h6⟩:=h;refine Dc (SE.congr (kM (S.e W T X _ a v h6).se rfl (by rw[BY h5];rfl) h2 (by rw[BY h5];rfl)) λU=>?_) (λ_ _=>rfl) rfl rfl
  simp only[Mn,evB,R.bind_assoc,R.bind_ok,TN,Up,te]
theorem fN{x:Am}{b:BI}(v:VX Z CL k W T X)(h:QP T x b as=Ab):OkE Z CL W X x (.bi b as):=by
 have bd:∀ x d:D,(match x with | .lst xs=>Mq xs d|_=>.bad)=biD .index [x,d]:=λx d=>by cases x<;>rfl
 unfold QP at h;split at h
 .simp only[Ai,AD,Az]at h;obtain⟨⟨⟨rfl,rfl⟩,h2⟩,h3⟩:=h;split at h3
  .simp only[Ai]at h3;refine Dc (SE.congr (Tq v.room.units (Ji (Hf v h3.1)) (Ji (Hf v h3.2)) (λU e z=>L3 z) rfl rfl (by rw[h2];exact Cz _) rfl) λU=>?_) (λ_ _=>rfl) rfl rfl
   simp only[Mn,evB,R.bind_assoc,R.bind_ok,TM]
   congr 1;funext x;congr 1;funext d
   exact(bd x d).symm
  .cases h3
 .simp only[Ai,AD,Az]at h;obtain⟨⟨⟨rfl,rfl⟩,h2⟩,h3⟩:=h;split at h3
  .refine Dc (SE.congr (Tq v.room.units (Ji (Hf v h3)) Vf.st (λU e z=>nomatch z) rfl rfl (by rw[h2];exact Cz _) rfl) λU=>?_) (λ_ _=>rfl) rfl rfl
   simp only[Mn,evB,R.bind_assoc,R.bind_ok,TM]
   congr 1;funext x
   exact(bd x .non).symm
  .cases h3
 .cases h
theorem eC(S:Snd Z CL k n){x:Am}{b:BI}(v:VX Z CL k W T X)(h:(match Ob as with|some (a,s)=>ID x λf l ks cp=>ks.isEmpty&&(Hl f λo m ap=>m==("split" : Ag)&&ap.endLine==cp.line&&JX o&&A4 n T o a&&(D3 l λy=>Hk y λc=>decide (c=.str s)&&decide (b=.ssplit)))|none=>Ad)=Ab):OkE Z CL W X x (.bi b as):=by
 cases q1:Ob as with
 |none=>rw[q1]at h;cases h
 |some t=>
  obtain⟨a,s⟩:=t;rw[q1]at h;have e:=lG q1;subst e;replace h:=Kr h;obtain⟨f,l,ks,cp,rfl,h⟩:=h;replace h:=A7 h;obtain⟨h0,h⟩:=h;obtain rfl:=E3 h0;replace h:=JR h;obtain⟨o,m,ap,rfl,h⟩:=h;replace h:=A7 h;obtain⟨h1,h⟩:=h;replace h1:=A7 h1;obtain⟨h1,h6⟩:=h1;replace h1:=A7 h1;obtain⟨h1,h3⟩:=h1;replace h1:=A7 h1;obtain⟨h1,h2⟩:=h1;obtain rfl:=eq_of_beq h1;replace h:=EV h;obtain⟨y,rfl,h⟩:=h;replace h:=JQ h;obtain⟨c,u,p,rfl,h⟩:=h;replace h:=A7 h;obtain⟨h4,h5⟩:=h;obtain rfl:=AS h4;obtain rfl:=AS h5;refine Dc (SE.congr (eF (S.e W T X _ a v h6).st (Lj h3) h2).se λU=>?_) (λ_ _=>rfl) rfl rfl
  simp only[Mn,evB,R.bind_assoc,R.bind_ok,TN,Up]
theorem oQ(S:Snd Z CL k n){x:Am}{b:BI}(v:VX Z CL k W T X)(h:(match Q1 as with|some a=>(match Wk x with|some y=>decide (b=.rvs)&&A4 n T y a|none=>Ad)|none=>Ad)=Ab):OkE Z CL W X x (.bi b as):=by
 simp[Q1]at h
theorem nP(S:Snd Z CL k n){x:Am}{b:BI}(v:VX Z CL k W T X)(h:(match Qq as with|some (a,c)=>(match Q8 x with|some (y,z,_)=>decide (b=.tlt) && !behindInMarks .Lt z&&A4 n T y a&&A4 n T z c|none=>Ad)|none=>Ad)=Ab):OkE Z CL W X x (.bi b as):=by
 simp[Qq]at h
theorem rT{x:Am}{b:BI}(v:VX Z CL k W T X)(h:Q5 T x b as=Ab):OkE Z CL W X x (.bi b as):=by
 exact absurd h Au
theorem nW(S:Snd Z CL k n){x:Am}{b:BI}(v:VX Z CL k W T X)(h:(match Qr as with|some (a,k)=>(match WE x with|some (y,j)=>decide (b=.stp)&&decide (j=k)&&decide (0<=k)&&A4 n T y a|none=>Ad)|none=>Ad)=Ab):OkE Z CL W X x (.bi b as):=by
 simp[Qr]at h
theorem rL(S:Snd Z CL k n){x:Am}{b:BI}(v:VX Z CL k W T X)(h:(match QA as with|some (a,c)=>(match Wy x with|some (g,h,y,z)=>decide (b=.list)&&g==("list" : Ag)&&h==("range" : Ag)&&isB T g&&isB T h&&CV y&&CV z&&A4 n T y a&&A4 n T z c|none=>Ad)|none=>Ad)=Ab):OkE Z CL W X x (.bi b as):=by
 simp[QA]at h
theorem mH(S:Snd Z CL k n){x:Am}{b:BI}(v:VX Z CL k W T X)(h:(match Qz as with|some a=>(match Wx x with|some (g,h,y)=>decide (b=.lset)&&g==("len" : Ag)&&h==("set" : Ag)&&isB T g&&isB T h&&CV y&&A4 n T y a|none=>Ad)|none=>Ad)=Ab):OkE Z CL W X x (.bi b as):=by
 simp[Qz]at h
theorem SZ{e:Am}{m:Ag}{o a:E}(v:VX Z CL k W T X)(h:A4 (n+1) T e (.methA m ms o a)=Ab):∃ w y ap cp,e=.Call (.Attribute w m ap) [y] [] cp/\(m==("across" : Ag)||m==("meets" : Ag))=Ab/\(ap.endLine==cp.line)=Ab/\JX w=Ab/\A4 n T w o=Ab/\CV y=Ab/\A4 n T y a=Ab /\
  ∀ c id C,ms.lookup c=Aa id->OC X.K c=Aa C->∃ f fd ps fr,Cls X.K C/\Meth X.K C m f/\DS X.K fd ps []/\FnOk X.prog X.w X.K X.mg X.base (CXR X.prog X.w) k f fd ps (spD X.K CL 2 fr (Z.F id)):=by
 replace h:=Kr h;obtain⟨f,l,ks,cp,rfl,h⟩:=h;replace h:=A7 h;obtain⟨h0,h⟩:=h;obtain rfl:=E3 h0;replace h:=EV h;obtain⟨y,rfl,h⟩:=h;replace h:=JR h;obtain⟨w,g,ap,rfl,h⟩:=h;replace h:=A7 h;obtain⟨h,h7⟩:=h;replace h:=A7 h;obtain⟨h,h6⟩:=h;replace h:=A7 h;obtain⟨h,h5⟩:=h;replace h:=A7 h;obtain⟨h,h4⟩:=h;replace h:=A7 h;obtain⟨h,h3⟩:=h;replace h:=A7 h;obtain⟨h,h2⟩:=h;replace h:=A7 h;obtain⟨h,h1⟩:=h;obtain rfl:=eq_of_beq h;refine⟨w,y,ap,cp,rfl,h1,h2,h3,h4,h5,h6,λc id C hl hC=>?_⟩
 have hm:=Bw.mp h7 _ (Ry hl);simp only[DF,Ai,AD]at hm;obtain⟨hz,p,hp,⟨e1,e2⟩,e3⟩:=hm;obtain⟨fa,fd,ps,m1,m2,m3,m4,m5,_⟩:=v.fn p hp;have m5:=m5 (by omega)
 rw[e3,e2]at m5;have at1:=S4 m1 e1 hC;exact⟨fa,fd,ps,_,(v.os.oc c C hC).cl,⟨at1,v.os.mf2 c C _ fa hC (by simpa using hz) h1 at1,m2⟩,m3,m5⟩
theorem sN(S:Snd Z CL k n)(W:XW)(T:Tc)(X:Cx)(x:Am)(c:E)(v:VX Z CL k W T X)(h:A4 (n+1) T x c=Ab):OkE Z CL W X x c:=by
 cases c with
 |non=>
  replace h:=JQ h;obtain⟨c,u,p,rfl,h⟩:=h;obtain rfl:=AS h;exact Dc Vf (λ_ _=>rfl) rfl rfl
 |bl b=>
  replace h:=JQ h;obtain⟨c,u,p,rfl,h⟩:=h;obtain rfl:=AS h;exact Dc VN (λ_ _=>rfl) rfl rfl
 |int i=>
  replace h:=JQ h;obtain⟨c,u,p,rfl,h⟩:=h;obtain rfl:=AS h;exact Dc pZ (λ_ _=>rfl) rfl rfl
 |str i=>
  replace h:=JQ h;obtain⟨c,u,p,rfl,h⟩:=h;obtain rfl:=AS h;exact Dc Ny (λ_ _=>rfl) rfl rfl
 |var i=>
  replace h:=E4 h;obtain⟨y,p,rfl,h⟩:=h;exact⟨pR (Hf v h),Ji (Hf v h),λz=>(nomatch z),λz=>(nomatch z)⟩
 |glob g=>exact absurd (show Ad=Ab from h) Au
 |bin op a b=>
  replace h:=SU h;obtain⟨y,op',z,p,rfl,h⟩:=h;simp only[Ai,Az]at h;obtain⟨⟨rfl,h1⟩,h2⟩:=h;have ha:=(S.e W T X _ a v h1).st;have hb:=(S.e W T X _ b v h2).st;refine⟨PU (PF _) ha hb,(PU (PF _) ha hb).st,λz=>?_,λz=>nomatch z⟩
  cases op'<;>first|exact pN ha hb|cases z
 |un op a=>
  replace h:=Nh h;obtain⟨o,y,p,rfl,h⟩:=h;replace h:=A7 h;obtain⟨h0,h⟩:=h;obtain rfl:=AS h0;simp only[Ai,Az]at h;obtain⟨rfl,h1⟩:=h;exact Dc (pT (S.e W T X _ a v h1).st) (λ_ _=>rfl) rfl rfl
 |no a=>
  replace h:=Nh h;obtain⟨o,y,p,rfl,h⟩:=h;replace h:=A7 h;obtain⟨h0,h⟩:=h;obtain rfl:=AS h0;exact Dc (Ve (S.e W T X _ a v h).st) (λ_ _=>rfl) rfl rfl
 |and es=>
  replace h:=L5 h;obtain⟨o,ys,p,rfl,h⟩:=h;replace h:=A7 h;obtain⟨h0,h⟩:=h;obtain rfl:=AS h0;simp only[Ai,Br,D7]at h;exact Dc ((S.es W T X _ es v h.1).2.2.2.1 _ h.2).1 (λ_ _=>rfl) rfl rfl
 |or es=>
  replace h:=L5 h;obtain⟨o,ys,p,rfl,h⟩:=h;replace h:=A7 h;obtain⟨h0,h⟩:=h;obtain rfl:=AS h0;simp only[Ai,Br,D7]at h;exact Dc ((S.es W T X _ es v h.1).2.2.2.1 _ h.2).2 (λ_ _=>rfl) rfl rfl
 |cmp op a b=>
  replace h:=SQ h;obtain⟨y,os,ys,p,rfl,h⟩:=h;replace h:=EV h;obtain⟨op',rfl,h⟩:=h;replace h:=EV h;obtain⟨z,rfl,h⟩:=h;simp only[Ai,Br,Az]at h;obtain⟨⟨⟨rfl,h1⟩,h2⟩,h3⟩:=h;exact Dc (qB (Ng v.room.units _) (S.e W T X _ a v h2).st (S.e W T X _ b v h3).st h1) (λ_ _=>rfl) rfl rfl
 |cmp2 op1 op2 a b c=>exact absurd (show Ad=Ab from h) Au
 |ite c a b=>exact absurd (show Ad=Ab from h) Au
 |call f as=>
  replace h:=IW h;obtain⟨g,pp,y,ys,qq,rfl,h⟩:=h;simp only[Ai,DF,AD,Az]at h;obtain⟨⟨⟨⟨⟨p,hp,⟨rfl,rfl⟩,hl⟩,h900⟩,h1⟩,h2⟩,h3⟩:=h;obtain⟨fa,fd,ps,m1,m2,m3,m4,m5,_⟩:=v.fn p hp;have hlt:p.2.2<1000:=by omega
  rw[Gb hlt]at m4 m5;have m5:=m5 hlt;obtain⟨n2,n3,n4⟩:=FY h2;replace m1:=M7 m1 (Ni h2);obtain⟨a1,a2,a3,a4,a5⟩:=S.es W T X _ as v h3;obtain⟨s0,e,es',rfl,m,rfl,s1⟩:=Il h3;have q:SC X CL W (Z.fr p.2.1) (.Call (.Name p.1 pp) (y::ys) [] qq) (λU=>evE Z U (.call p.2.1 (.cons e es'))):=kP (sh:=λU=>HV U (.cons e es')) m5 v.room (by unfold glB at h1;show X.env.scope.names.lookup p.1=_;rw[v.sc];exact eq_of_beq h1) m1 m2 m3 v.px a1 a2 (λU z=>Mo Z U _ z) (λU ds z=>by rw[Mh Z U _ _ z,<-a3,hl];rfl) n2 (BY s0) (Ik m ys es' s1)
  exact⟨q.se,q.se.st,λz=>by
   have z':Z.fr p.2.1=Ab:=z;rw[z']at q;exact q,λz=>nomatch z⟩
 |bi b as=>
  unfold A4 at h;dsimp only at h;simp only[BL]at h;rcases h with (((((((h|h)|h)|h)|h)|h)|h)|h)|h
  .replace h:=IW h;obtain⟨g,pp,y,ys,qq,rfl,h⟩:=h;simp only[Ai,AD]at h;obtain⟨⟨h1,h2⟩,h3⟩:=h;obtain⟨s0,e,es',rfl,m,rfl,s1⟩:=Il h3;exact wJ v h1 h2 (S.es W T X _ _ v h3).2.1 s0 (Ik m _ es' s1)
  .rcases h with h|h
   .exact rT v h
   .exact fN v h
  .exact rL S v h
  .exact nW S v h
  .exact mH S v h
  .exact nP S v h
  .exact mJ S v h
  .exact eC S v h
  .exact oQ S v h
 |isi a ks=>
  replace h:=orT h;rcases h with h|h
  .skip
   replace h:=EV h;obtain⟨k',rfl,h⟩:=h;replace h:=Ij h;obtain⟨g,pp,l,qq,rfl,h⟩:=h;replace h:=Jf h;obtain⟨y,t,rfl,h⟩:=h;replace h:=E4 h;obtain⟨t,pt,rfl,h⟩:=h;simp only[Ai,AD]at h;obtain⟨⟨⟨⟨⟨rfl,h1⟩,h2⟩,h3⟩,h4⟩,h5⟩:=h;obtain⟨g1,g2,_,_⟩:=G2 v h1;obtain⟨b1,b2,b3,b4⟩:=G2 v h3;obtain⟨ty,t1,t2⟩:=wI h2;exact Dc (pY t1 g1 g2 b1 b2 t2 b3 b4 (S.e W T X _ a v h5).st (BY h4)) (λ_ _=>rfl) rfl rfl
  .replace h:=EV h;obtain⟨k',rfl,h⟩:=h;replace h:=Ij h;obtain⟨g,pp,l,qq,rfl,h⟩:=h;replace h:=Jf h;obtain⟨y,t,rfl,h⟩:=h;replace h:=E4 h;obtain⟨t,pt,rfl,h⟩:=h;simp only[Ai,AD]at h;obtain⟨⟨⟨⟨rfl,h1⟩,h4⟩,h5⟩,h6⟩:=h;obtain⟨g1,g2,_,_⟩:=G2 v h1;cases k' with
   |verr=>
    replace h6:=A7 (a:=t==("ValueError" : Ag)) h6;obtain⟨h6,h7⟩:=h6;obtain rfl:=eq_of_beq h6;obtain⟨b1,b2,_,_⟩:=G2 v h7;exact Dc (UH v.xt.xc g1 g2 b1 b2 (S.e W T X _ a v h5).st (BY h4)) (λ_ _=>rfl) rfl rfl
   |cls c=>
    replace h6:=A7 (a:=inX T.exs t c&&glB T t) h6;obtain⟨h6,h8⟩:=h6;replace h6:=A7 h6;obtain⟨h6,h7⟩:=h6;obtain⟨C,m1,m3,_⟩:=v.xt.ex _ (Kz h6);obtain⟨n2,_,_⟩:=FY h8;exact Dc (UI v.xt.xc g1 g2 (by unfold glB at h7;show X.env.scope.names.lookup _=_;rw[v.sc];exact eq_of_beq h7) m1 m3 n2 (S.e W T X _ a v h5).st (BY h4)) (λ_ _=>rfl) rfl rfl
   |_=>exact noF h6
 |idx a i=>
  replace h:=SL h;obtain⟨y,z,p,rfl,h⟩:=h;simp only[Ai]at h;obtain⟨⟨h1,h2⟩,h3⟩:=h;exact Dc (qA (eG h1) (S.e W T X _ a v h2).st (S.e W T X _ i v h3).st) (λ_ _=>rfl) rfl rfl
 |sl a lo hi=>
  replace h:=SL h;obtain⟨y,s,p,rfl,h⟩:=h;replace h:=gA h;obtain⟨l,u,st,p',rfl,h⟩:=h;replace h:=A7 h;obtain⟨h0,h⟩:=h;obtain rfl:=Dj.mp h0;simp only[Ai]at h;obtain⟨⟨h1,h2⟩,h3⟩:=h;refine Nr (SC.congr (sQ (S.e W T X _ a v h1).st (S.o W T X _ lo v h2) (S.o W T X _ hi v h3)) λU=>?_) (λ_ _=>rfl) rfl
  show ((top U a (evE Z U a)).bind λx=>(top U lo (evE Z U lo)).bind λl=>(slE lo l).bind λl'=>(top U hi (evE Z U hi)).bind λh=>(slE hi h).bind λh'=>slD x l' h')=_
  simp only[R.bind_assoc]
 |tup es=>
  replace h:=Lb h;obtain⟨ys,cc,p,rfl,h⟩:=h;simp only[Ai,Az]at h;have q:=S.es W T X _ es v h.1;exact Dc (Vd q.1 λU ds z=>by rw[HP Z U _ _ z,<-q.2.2.1];omega) (λ_ _=>rfl) rfl rfl
 |lst es=>
  replace h:=M4 h;obtain⟨ys,p,rfl,h⟩:=h;simp only[Ai,Az]at h;have q:=S.es W T X _ es v h.1;exact Nr (PQ q.1 λU ds z=>by rw[HP Z U _ _ z,<-q.2.2.1];omega) (λ_ _=>rfl) rfl
 |comp elt t it c=>
  replace h:=T5 (e:=x) (F:=_) (by unfold A4 at h;exact h)
  obtain⟨y,tg,it',ifs,scope,p,rfl,h⟩:=h;replace h:=E4 h;obtain⟨w,pw,rfl,h⟩:=h;simp only[Ai]at h;obtain⟨⟨⟨⟨⟨h1,h2⟩,h3⟩,h4⟩,h5⟩,h6⟩:=h;refine wB v.calm ⟨_,_,_,_,_,_,_,_,_,_,_,_,_,rfl,(Qd v h3).1,S.i W T X Ad _ _ it v rfl h1,lH t,λcl C s H fp=>iI (v.blk h3) (λz=>AD.mpr z) h4,λcl C s H fp=>S.t _ _ _ c (v.blk h3) h5,λcl C s H fp=>(S.e W0 _ _ _ elt (v.blk h3) h6).se,Lk h2,λU=>rfl⟩ (λ_ _=>rfl)
 |compT elt ts it c=>exact absurd (show Ad=Ab from h) Au
 |tupI it=>exact absurd (show Ad=Ab from h) Au
 |dnew=>exact noF h
 |fld o f=>
  replace h:=JR h;obtain⟨w,g,p,rfl,h⟩:=h;simp only[Ai,AD]at h;obtain⟨⟨⟨rfl,h2⟩,h3⟩,h4⟩:=h;exact Dc (TC v.xt.xc (λc C z=>v.xt.nf c C z _ h2) (S.e W T X _ o v h4).st (Lj h3)) (λ_ _=>rfl) rfl rfl
 |ofl o f=>
  replace h:=JR h;obtain⟨w,g,p,rfl,h⟩:=h;simp only[Ai,BL,AD]at h;obtain⟨⟨⟨rfl,h2⟩,h3⟩,h4⟩:=h;refine Dc (pS (λc C z=>?_) (S.e W T X _ o v h4).st (Lj h3)) (λ_ _=>rfl) rfl rfl
  rcases h2 with h2|h2<;>rw[h2]
  .exact⟨(v.os.oc c C z).cl,(v.os.oc c C z).nt⟩
  .exact⟨(v.os.oc c C z).cl,(v.os.oc c C z).np⟩
 |iso a k'=>
  replace h:=Ij h;obtain⟨g,pp,l,qq,rfl,h⟩:=h;replace h:=Jf h;obtain⟨y,t,rfl,h⟩:=h;replace h:=E4 h;obtain⟨t,pt,rfl,h⟩:=h;unfold ocB at h;simp only[Ai,AD,Az]at h;obtain⟨⟨⟨⟨rfl,h1⟩,h4⟩,h5⟩,⟨⟨⟨e6,h7⟩,h8⟩,h9⟩⟩:=h;obtain⟨g1,g2,_,_⟩:=G2 v h1;obtain⟨n2,_,_⟩:=FY h9;obtain⟨C',o1,o2⟩:=v.os.at_ k' h7;exact Dc (pX v.os.oc g1 g2 (by unfold glB at h8;show X.env.scope.names.lookup _=_;rw[v.sc];exact eq_of_beq h8) (by rw[e6];exact o2) (λc C z=>v.os.kit c C k' C' z o1) n2 (S.e W T X _ a v h5).st (BY h4)) (λ_ _=>rfl) rfl rfl
 |meth m ms o=>
  replace h:=Kr h;obtain⟨f,l,ks,cp,rfl,h⟩:=h;replace h:=A7 h;obtain⟨h0,h⟩:=h;obtain rfl:=E3 h0;replace h:=A7 h;obtain⟨h0',h⟩:=h;obtain rfl:=E3 h0';replace h:=JR h;obtain⟨w,g,ap,rfl,h⟩:=h;replace h:=A7 h;obtain⟨h,h5⟩:=h;replace h:=A7 h;obtain⟨h,h4⟩:=h;replace h:=A7 h;obtain⟨h,h3⟩:=h;replace h:=A7 h;obtain⟨h,h2⟩:=h;replace h:=A7 h;obtain⟨h,h1⟩:=h;obtain rfl:=eq_of_beq h;refine Dc (kK v.room v.px (S.e W T X _ o v h4).st (λc id C hl hC=>?_) (Lj h3) h2) (λ_ _=>rfl) rfl rfl
  have hm:=Bw.mp h5 _ (Ry hl);simp only[DF,Ai,AD]at hm;obtain⟨p,hp,⟨e1,e2⟩,e3⟩:=hm;obtain⟨fa,fd,ps,m1,m2,m3,m4,m5,_⟩:=v.fn p hp;have m5:=m5 (by omega)
  rw[e3,e2]at m5;have at1:=S4 m1 e1 hC;exact⟨fa,fd,ps,_,(v.os.oc c C hC).cl,⟨at1,v.os.mf c C _ fa hC h1 at1,m2⟩,m3,m5⟩
 |mkob c e=>exact noF h
 |methA m ms o a=>
  obtain⟨w,y,ap,cp,rfl,h1,h2,h3,h4,h5,h6,hms⟩:=SZ v h;exact Dc (eI v.room v.px (S.e W T X _ o v h4).st (S.e W T X _ a v h6).se hms (Lj h3) h2 (BY h5)) (λ_ _=>rfl) rfl rfl
 |mkn c as=>
  replace h:=IW h;obtain⟨g,np,x,xs,cpos,rfl,h⟩:=h;unfold ocB at h;simp only[Ai,AD,Az]at h;obtain⟨⟨⟨⟨⟨e6,h7⟩,h8⟩,h9⟩,hl⟩,h5⟩:=h;obtain⟨n2,_,_⟩:=FY h9;obtain⟨s0,e,es',rfl,m,rfl,s1⟩:=Il h5;have q:=S.es W T X _ _ v h5;rcases v.mkr c h7 with hb|⟨C,f,fd,G,k',o1,M,hb,hk,FI,hF⟩
  .obtain⟨C',o2,o3⟩:=v.os.at_ c h7;exact Dc (eJ (v.os.kp c _ o2) hb (by unfold glB at h8;show X.env.scope.names.lookup g=_;rw[v.sc];exact eq_of_beq h8) (by rw[e6];exact o3) n2 q.1 (BY s0) (Ik m xs es' s1 _)) (λ_ _=>rfl) rfl rfl
  .obtain⟨C',o2,o3⟩:=v.os.at_ c h7;have:C'=C:=by rw[o1]at o2;exact(Be o2).symm
   subst this;subst hk;exact Dc (kL M o1 (v.os.oc c _ o1) FI v.room hb v.px hF (by unfold glB at h8;show X.env.scope.names.lookup g=_;rw[v.sc];exact eq_of_beq h8) (by rw[e6];exact o3) n2 q.1 (λU ds z=>by rw[HP Z U _ _ z,<-q.2.2.1,AI,hl]) (BY s0) (Ik m xs es' s1 _)) (λ_ _=>rfl) rfl rfl
 |mkx c as=>
  replace h:=A7 h;obtain⟨h0,h⟩:=h;replace h:=IW h;obtain⟨g,np,x,xs,cpos,rfl,h⟩:=h;simp only[Ai,Az]at h;obtain⟨⟨⟨⟨h1,h2⟩,h3⟩,h4⟩,h5⟩:=h;obtain⟨C,m1,m2⟩:=v.xt.rz _ (Kz h1);obtain⟨n2,_,_⟩:=FY h3;obtain⟨s0,e,es',rfl,m,rfl,s1⟩:=Il h5;have q:=S.es W T X _ _ v h5;exact Dc (uU (v.ex h0) v.room (by unfold glB at h2;show X.env.scope.names.lookup g=_;rw[v.sc];exact eq_of_beq h2) m2 n2 m1 q.1 (λds=>v.xt.made c C ds m1) (BY s0) (Ik m xs es' s1 _) (λU ds z=>by rw[HP Z U _ _ z,<-q.2.2.1,AI];omega)) (λ_ _=>rfl) rfl rfl
theorem snd:∀ n,Snd Z CL k n
 |0=>eE
 |n+1=>⟨sN (snd n),sO (snd n),mX (snd n),mW (snd n),tD (snd n),sZ (snd n),tE (snd n)⟩
end
section
variable{Z:Gam}{CL:ClA}{W:XW}{k n:Af}{T:Tc}{X:Cx}
theorem TR{t:Af}(v:VX Z CL k W T X)(hf:∀ x,X.fn x=Ab)(h:tgC T [t] [x]=Ab):PG X (.Name x pos) (EG t):=by
 unfold tgC at h;simp only[Ai,AD]at h;exact Mc (by rw[v.N];exact v.nd) (by rw[v.N];exact h.1.1) (by rw[v.sc];exact Ku h.1.2) (.inl (hf x))
theorem iJ(v:VX Z CL k W T X)(hf:∀ x,X.fn x=Ab):∀(ys:Ac Am)(ts:Ac Af)(zs:Ac Ag),FX ys=Aa zs->tgC T ts zs=Ab->PGs X ys (ts.foldr (λt u=>Jm (EG t) u) Jq)/\ts.length=ys.length:=by
 intro ys
 induction ys with
 |nil=>
  intro ts zs e h;cases e;cases ts with
  |nil=>exact⟨Ui,rfl⟩
  |cons t ts=>cases h
 |cons y r ih=>
  intro ts zs e h;obtain⟨x,p,ws,rfl,e2,rfl⟩:=OB e;cases ts with
  |nil=>cases h
  |cons t ts=>
   have h':(T.N[t]? == Aa x&&G6 T x&&tgC T ts ws)=Ab:=h;simp only[Ai,AD]at h';obtain⟨h1,h2⟩:=ih ts ws e2 h'.2;exact⟨Tv (Mc (by rw[v.N];exact v.nd) (by rw[v.N];exact h'.1.1) (by rw[v.sc];exact Ku h'.1.2) (.inl (hf x))) h1 (by rw[O0];rfl),congrArg (· + 1) h2⟩
theorem TQ(v:VX Z CL k W T X)(hf:∀ x,X.fn x=Ab)(hn:(FX ys).isSome=Ab)(h:tgC T ts (tgN ys)=Ab):PG X (.Tuple ys kk pos) (MG X.K ts.length (ts.foldr (λt u=>Jm (EG t) u) Jq)):=by
 cases e:FX ys with
 |none=>rw[e]at hn;cases hn
 |some zs=>
  have e2:tgN ys=zs:=by unfold tgN;rw[e];rfl
  rw[e2]at h;obtain⟨h1,h2⟩:=iJ v hf ys ts zs e h;obtain⟨h3,h4,_⟩:=Rm (env:=X.env) ys zs e;exact US v.calm h1 (by rw[h3,h2]) h4
theorem OP(ts:Ac Af):∀ d U x,EF ts d U≠.exn x:=λd U x h=>by
 unfold EF at h;cases d with
 |tup xs=>
  dsimp only at h;cases e:Fe ts xs U with
  |some r=>rw[e]at h;cases h
  |none=>rw[e]at h;cases h
 |_=>cases h
theorem dW{gs:Ac Jw}{l:Af}:∃ b,Cn (.ListComp elt gs scope pos) (Aa (.Name x pos')) l env=pure b/\(b=Ab->env.scope.names.lookup x=Aa .local):=by
 refine⟨_,rfl,λh=>?_⟩
 simp only[Ai,AD]at h;exact h.1.1.2
theorem P0{v0:Am}{i:Af}{e:E}{fr:Al}(v:VX Z CL k W T X)(hf:∀ x,X.fn x=Ab)(hi:T.N[i]?=Aa x)(hl:G6 T x=Ab)(o:OkE Z CL W X v0 e)(hfr:fr=Ab->B5 Z e=Ab):SAs X CL W fr i (.Assign [.Name x p] v0 pos) (λU=>evE Z U e):=by
 have hN:X.N.Nodup:=by rw[v.N];exact v.nd
 have hi':X.N[i]?=Aa x:=by rw[v.N];exact hi
 have hx:Loc X.env.scope x:=by rw[v.sc];exact Ku hl
 have sc:SC X CL W fr v0 (λU=>evE Z U e):=by
  cases fr with
  |false=>exact o.se.sc
  |true=>exact o.nw (hfr rfl)
 cases hc:G1 v0 with
 |true=>exact SC.sas hN hi' hx sc (Jc hc) (.inl (hf x))
 |false=>
  obtain⟨tg,iter,elt,ifs,scope,pos2,N',ts,fi,fc,fe,as,g,rfl,B,h2,hGG,hg,ht,he,hs,ef⟩:=o.cp hc;obtain⟨b,hb,hb'⟩:=dW (elt:=elt) (gs:=[⟨tg,iter,ifs,0⟩]) (scope:=scope) (pos:=pos2) (pos':=p) (x:=x) (l:=pos.line) (env:=X.env);cases b with
  |false=>exact SC.sas hN hi' hx sc hb (.inl (hf x))
  |true=>
   have q:=dB (pos2:=pos) v.calm B h2 hGG hg ht he hs hN hi' (hb' rfl) hb;have q':SAs X CL W Ab i (.Assign [.Name x p] (.ListComp elt [⟨tg,iter,ifs,0⟩] scope pos2) pos) (λU=>evE Z U e):=by
    have:(λU=>evE Z U e)=_:=funext ef
    rw[this];exact q
   cases fr with
   |true=>exact q'
   | false=>exact λA=>PS.weak (q' A) λD Y H ⟨hA,U,gd,z⟩=>⟨hA,U,gd,by
     dsimp only at z ⊢;cases e0:evE Z U e with
     |ok d=>
      rw[e0]at z;exact λv' H' s' r'=>z v' H' s' ⟨r'.1,λ_=>r'.2 rfl⟩
     |exn y=>rw[e0]at z;exact z
     | bad=>rw[e0]at z;exact z⟩
theorem Sj(U:Rho)(e:E)(h:∀ i,e≠.var i):evS Z U (.ret e)=O.of U (evE Z U e) λd=>.ret d (B5 Z e):=by
 have k:∀ b:Al,b=Ad->top U e (evE Z U e)=evE Z U e->(O.of U (top U e (evE Z U e)) λd=>.ret d (B5 Z e||b))=O.of U (evE Z U e) λd=>.ret d (B5 Z e):=λb hb ht=>by
  rw[hb,ht];simp only[DW]
 rw[Uo];cases e with
 |var i=>exact absurd rfl (h i)
 |_=>exact k _ rfl rfl
structure DefX (X:Cx):Prop where
 fn:∀ x,X.fn x=Ab
 ex:X.ex=[]
 st:X.stack=X.env::X.outer
 fm:X.env.frame=Aa X.env.locals
structure SndS (Z:Gam) (CL:ClA) (k:Af) (n:Af):Prop where
 s:∀(W:XW)(T:Tc)(X:Cx)(x:AM)(c:S),VX Z CL k W T X->DefX X->MK n T x c=Ab->SS X CL W x (λU=>evS Z U c)
 ss:∀(W:XW)(T:Tc)(X:Cx)(x:Ac AM)(c:Ss),VX Z CL k W T X->DefX X->chkSs n T x c=Ab->SSs X CL W x (λU=>evSs Z U c)
theorem mR(x y:D)(e:Ex):HW x y≠.exn e:=by
 intro z;cases x with
 |lst xs=>cases y<;>first|exact Lf z|cases z
 |tup xs=>cases y<;>first|exact Lf z|cases z
 |str x=>
  cases y with
  |int i=>
   have z':(if BG x.length=Ab then CW (Jr x) i else .bad)=.exn e:=z
   split at z'
   .exact Lf z'
   .cases z'
  |_=>cases z
 |dic kvs=>
  have z':(match (J8 y).bind (Qb kvs) with|some d=>R.ok d|none=>.bad)=.exn e:=z
  cases h:(J8 y).bind (Qb kvs) with
  |none=>rw[h]at z';cases z'
  |some k=>rw[h]at z';cases z'
 |_=>cases z
theorem TL{i:Af}{y:Ex}:Eb U i≠.exn y:=λz'=>by
 exact L3 z'
theorem M1(Z:Gam)(U:Rho)(e:E)(h:N4 e=Ab)(y:Ex):top U e (evE Z U e)≠.exn y:=by
 cases e with
 |var i=>
  intro z;have z':Eb U i=.exn y:=z;exact L3 z'
 |idx a b=>
  cases a with
  |var i=>
   cases b with
   |int j=>
    intro z;have z':(Eb U i).bind (λx=>HW x (.int j))=.exn y:=z
    cases e1:Eb U i with
    |bad=>rw[e1]at z';cases z'
    |exn w=>exact TL e1
    |ok d=>rw[e1]at z';exact mR _ _ _ z'
   |_=>exact noF h
  |_=>exact noF h
 |bin op a b=>
  have h:(WG op&&QM a b)=Ab:=h;rw[Ai]at h;obtain⟨h0,h⟩:=h;cases op with
  |Sub=>
   cases a with
   |var i=>
    cases b with
    |int j=>
     intro z;have z':(Eb U i).bind (λx=>CN .Sub x (.int j))=.exn y:=z
     cases e1:Eb U i with
     |bad=>rw[e1]at z';cases z'
     |exn w=>exact TL e1
     |ok d=>rw[e1]at z';cases d<;>cases z'
    |_=>exact noF h
   |_=>exact noF h
  |_=>exact absurd (show Ad=Ab from h0) Au
 |int i=>intro z;cases z
 |bl i=>intro z;cases z
 |str i=>intro z;cases z
 |non=>intro z;cases z
 |_=>cases h
theorem MV(Z:Gam)(U:Rho):∀(es:Es),Jk es=Ab->∀ y,evB Z U es≠.exn y
 |.nil,_,y=>λz=>by cases z
 |.cons e es,h,y=>λz=>by
  unfold Jk at h;rw[Ai]at h;rw[Pj]at z;cases e1:top U e (evE Z U e) with
  |bad=>rw[e1]at z;cases z
  |exn w=>exact M1 Z U e h.1 w e1
  |ok d=>
   rw[e1,R.bind_ok]at z;cases e2:evB Z U es with
   |bad=>rw[e2]at z;cases z
   |exn w=>exact MV Z U es h.2 w e2
   |ok ds=>rw[e2]at z;cases z
theorem VX.pw(v:VX Z CL k W T X)(own:DP (model X.prog X.w) X.A X.env Xw):VX Z CL k W0 T (Cx.pw X pI Xw):=⟨v.sc,v.kd,v.N,v.nd,v.calm,v.room,v.bl,v.os,v.mkr,v.fn,own,UW,Wj,Q2,v.xt,v.gl,v.ex⟩
theorem R4(o:O):(o.seq λU'=>O.next U')=o:=by cases o<;>rfl
theorem STB.congr{st:Ac AM}{f g:Rho->O}(h:STB X CL st f)(e:∀ U,g U=f U):STB X CL st g:=by
 have:g=f:=funext e;rw[this];exact h
theorem OE(Z:Gam)(U:Rho):∀(es:Es),Qg es=Ab->∀ y,evA Z U es≠.exn y
 |.nil,_,y=>λz=>by cases z
 |.cons e es,h,y=>λz=>by
  replace h:=A7 h;cases e with
  |var i=>
   have z':(E5 U i).bind (λx=>(evA Z U es).bind λxs=>.ok (x::xs))=.exn y:=z
   cases e1:E5 U i with
   |bad=>rw[e1]at z';cases z'
   |exn w=>
    unfold E5 at e1;split at e1<;>cases e1
   |ok d=>
    rw[e1,R.bind_ok]at z';cases e2:evA Z U es with
    |bad=>rw[e2]at z';cases z'
    |exn w=>exact OE Z U es h.2 w e2
    |ok ds=>rw[e2]at z';cases z'
  |_=>exact noF h.1
theorem tJ(v:VX Z CL k W T X){e:Am}{c:E}(h:NS n T e c=Ab)(pI:Pn)(Xw:Vq)(own:DP (model X.prog X.w) X.A X.env Xw)(Y0:L2.St)(E0:XK)(A:Ak->Prop)(hx:∀ pins' H1 s1 ev s',Inv (Cx.pw X pI Xw) pins' Y0 H1 s1->CXR X.prog X.w X.stack H1 s1 E0 ev s'->Xw ev s'):PE (Cx.pw X pI Xw) e (λY H Q=>Y=Y0/\AOk H A/\∃ U,Good X.K CL A U Y H/\HU X.K CL (λH=>Rep X.K CL H A) E0 H (evE Z U c) Q):=by
 have v':=v.pw (pI:=pI) own;cases c with
 |mkn c as=>
  replace h:=A7 h;obtain⟨h,hsim⟩:=h;cases n with
  |zero=>exact noF h
  |succ n=>
   replace h:=IW h;obtain⟨g,np,x,xs,cpos,rfl,h⟩:=h;unfold ocB at h;simp only[Ai,AD,Az]at h;obtain⟨⟨⟨⟨⟨e6,h7⟩,h8⟩,h9⟩,hl⟩,h5⟩:=h;obtain⟨n2,_,_⟩:=FY h9;obtain⟨s0,e,es',rfl,m,rfl,s1⟩:=Il h5;have q:=(snd (Z:=Z) (CL:=CL) (k:=k) (m+1)).es W0 T (Cx.pw X pI Xw) _ _ v' h5;rcases v.mkr c h7 with hb|⟨C,f,fd,G,k',o1,M,hb,hk,FI,hF⟩
   .intro pins' s Y H Q I ⟨_,_,U,_,p⟩
    exfalso
    have p':HU X.K CL (λH=>Rep X.K CL H A) E0 H ((evA Z U (.cons e es')).bind λxs=>Z.F (900+c) xs) Q:=p
    cases e1:evA Z U (.cons e es') with
    |bad=>rw[e1]at p';exact p'.elim
    |exn y=>exact OE Z U _ hsim y e1
    |ok ds=>rw[e1,R.bind_ok,hb ds]at p';exact p'.elim
   .obtain⟨C',o2,o3⟩:=v.os.at_ c h7;have:C'=C:=by rw[o1]at o2;exact(Be o2).symm
    subst this;subst hk;exact fU (X:=Cx.pw X pI Xw) (F:=Z.F (900+c)) (fs:=λU=>evA Z U (.cons e es')) M o1 (v.os.oc c _ o1) FI v.room hb hx hF (by unfold glB at h8;show X.env.scope.names.lookup g=_;rw[v.sc];exact eq_of_beq h8) (by rw[e6];exact o3) n2 q.1 (λU y=>OE Z U _ hsim y) (λU ds z=>by rw[HP Z U _ _ z,<-q.2.2.1,AI,hl]) (BY s0) (Ik m xs es' s1 _) A
 |methA m ms o a=>
  cases n with
  |zero=>exact noF h
  |succ n=>
   obtain⟨w,y,ap,cp,rfl,h1,h2,h3,h4,h5,h6,hms⟩:=SZ v' h;exact Tw (X:=Cx.pw X pI Xw) (F:=Z.F) v.room hx ((snd (Z:=Z) (CL:=CL) (k:=k) n).e W0 T (Cx.pw X pI Xw) _ o v' h4).st ((snd (Z:=Z) (CL:=CL) (k:=k) n).e W0 T (Cx.pw X pI Xw) _ a v' h6).se hms (Lj h3) h2 (BY h5) A
 |_=>exact noF h
theorem bW{v:Am}{c:E}(h:NS n T v c=Ab):G1 v=Ab:=by
 cases c with
 |mkn c as=>
  replace h:=A7 h;obtain⟨h,_⟩:=h;cases n with
  |zero=>exact noF h
  |succ n=>
   replace h:=IW h;obtain⟨g,np,x,xs,cpos,rfl,h⟩:=h;rfl
 |methA m ms o a=>
  cases n with
  |zero=>exact noF h
  |succ n=>
   replace h:=Kr h;obtain⟨f,l,ks,cp,rfl,h⟩:=h;rfl
 |_=>exact noF h
theorem U_7(Sn:Snd Z CL k n)(v:VX Z CL k W T X)(hf:DefX X){st:AM}{s:S}(h:Np n T st s=Ab):STB X CL [st] (λU=>evSs Z U (.cons s .nil))/\∀ U y U',evSs Z U (.cons s .nil)=.exn y U'->U'=U:=by
 have seq:∀ U,evSs Z U (.cons s .nil)=evS Z U s:=λU=>R4 _
 have ofn:∀{r:R D}{f:D->Rho}{U U':Rho}{y:Ex},(O.of U r λd=>O.next (f d))=.exn y U'->U'=U:=λ{r f U U' y} z=>by
  cases r with
  |ok d=>cases z
  |exn w=>cases z;rfl
  |bad=>cases z
 have call:∀{e:Am}{f:Af}{as:Es},A4 n T e (.call f as)=Ab->Jk as=Ab->∃ g pp y ys qq,e=.Call (.Name g pp) (y::ys) [] qq/\∃ p∈T.fns,g=p.1/\f=p.2.1/\p.2.2=ys.length+1/\ys.length<900/\glB T g=Ab/\FG g=Ab/\∃ m,n=m+1/\chkEs m T (y::ys) as=Ab:=λ{e f as} h _=>by
  cases n with
  |zero=>exact noF h
  |succ m=>
   replace h:=IW h;obtain⟨g,pp,y,ys,qq,rfl,h⟩:=h;simp only[Ai,DF,AD,Az]at h;obtain⟨⟨⟨⟨⟨p,hp,⟨e1,e2⟩,hl⟩,h900⟩,h1⟩,h2⟩,h3⟩:=h;exact⟨g,pp,y,ys,qq,rfl,p,hp,e1.symm,e2.symm,hl,h900,h1,h2,m,rfl,h3⟩
 cases s with
 |expr e0=>
  replace h:((Lw e0 λf as=>J4 st λv=>A4 n T v (.call f as)&&Jk as)||(J4 st λv=>NS n T v e0))=Ab:=h
  replace h:=orT h;rcases h with h|h
  rotate_left
  .replace h:=M6 h;obtain⟨v0,pos,rfl,h⟩:=h;refine⟨STB.congr (mZ hf.ex (tJ v h) (Jc (bW h))) λU=>seq U,λU y U' z=>?_⟩
   rw[seq]at z;exact ofn (f:=λ_=>U) z
  replace h:=SR h;obtain⟨f,as,rfl,h⟩:=h;replace h:=M6 h;obtain⟨v0,pos,rfl,h⟩:=h;rw[Ai]at h;obtain⟨g,pp,y,ys,qq,rfl,p,hp,rfl,rfl,hl,h900,h1,h2,m,rfl,h3⟩:=call h.1 h.2;obtain⟨fa,fd,ps,m1,m2,m3,m4,m5,_⟩:=v.fn p hp;have hlt:p.2.2<1000:=by omega
  rw[Gb hlt]at m4 m5;have m5:=m5 hlt;obtain⟨n2,n3,n4⟩:=FY h2;replace m1:=M7 m1 (Ni h2);obtain⟨s0,e,es',rfl,m',rfl,s1⟩:=Il h3;have hlen:ys.length+1=(Es.cons e es').len:=(snd (Z:=Z) (CL:=CL) (k:=k) (m'+1)).es W T X _ _ v h3 |>.2.2.1;refine⟨STB.congr (dZ (X:=X) (fs:=λU=>evA Z U (.cons e es')) (sh:=λU=>HV U (.cons e es')) hf.ex m5 v.room (by unfold glB at h1;show X.env.scope.names.lookup p.1=_;rw[v.sc];exact eq_of_beq h1) m1 m2 m3 (λU z=>Mo Z U _ z) (λU ds z=>by rw[Mh Z U _ _ z,<-hlen,hl]) (λU=>MV Z U _ h.2) n2 (BY s0) (Ik m' ys es' s1) (λpI Xw own=>by
   obtain⟨a1,a2,_⟩:=(snd (Z:=Z) (CL:=CL) (k:=k) (m'+1)).es W0 T (Cx.pw X pI Xw) _ _ (v.pw own) h3;exact⟨a1,a2⟩) (Jc rfl)) λU=>seq U,λU y U' z=>?_⟩
  rw[seq]at z;exact ofn (f:=λ_=>U) z
 |asg i b0 e0=>
  replace h:(!b0&&(Lw e0 λf as=>JW st λy v=>T.N[i]? == Aa y&&G6 T y&&A4 n T v (.call f as)&&Jk as))=Ab:=h
  replace h:=A7 h;obtain⟨hb,h⟩:=h;cases b0 with
  |true=>exact absurd (show Ad=Ab from hb) Au
  |false=>
  replace h:=SR h;obtain⟨f,as,rfl,h⟩:=h;replace h:=Lc h;obtain⟨y0,p0,v0,pos,rfl,h⟩:=h;simp only[Ai,AD]at h;obtain⟨⟨⟨i1,i2⟩,hc⟩,hsim⟩:=h;obtain⟨g,pp,y,ys,qq,rfl,p,hp,rfl,rfl,hl,h900,h1,h2,m,rfl,h3⟩:=call hc hsim;obtain⟨fa,fd,ps,m1,m2,m3,m4,m5,_⟩:=v.fn p hp;have hlt:p.2.2<1000:=by omega
  rw[Gb hlt]at m4 m5;have m5:=m5 hlt;obtain⟨n2,n3,n4⟩:=FY h2;replace m1:=M7 m1 (Ni h2);obtain⟨s0,e,es',rfl,m',rfl,s1⟩:=Il h3;have hlen:ys.length+1=(Es.cons e es').len:=(snd (Z:=Z) (CL:=CL) (k:=k) (m'+1)).es W T X _ _ v h3 |>.2.2.1;refine⟨STB.congr (gQ (X:=X) (fs:=λU=>evA Z U (.cons e es')) (sh:=λU=>HV U (.cons e es')) (i:=i) hf.ex m5 v.room (by unfold glB at h1;show X.env.scope.names.lookup p.1=_;rw[v.sc];exact eq_of_beq h1) m1 m2 m3 (λU z=>Mo Z U _ z) (λU ds z=>by rw[Mh Z U _ _ z,<-hlen,hl]) (λU=>MV Z U _ hsim) n2 (BY s0) (Ik m' ys es' s1) (λpI Xw own=>by
   obtain⟨a1,a2,_⟩:=(snd (Z:=Z) (CL:=CL) (k:=k) (m'+1)).es W0 T (Cx.pw X pI Xw) _ _ (v.pw own) h3;exact⟨a1,a2⟩) (by rw[v.N];exact v.nd) (by rw[v.N];exact i1) (by rw[v.sc];exact Ku i2) (.inl (hf.fn _)) (Jc rfl)) λU=>seq U,λU y U' z=>?_⟩
  rw[seq]at z;exact ofn (f:=λd=>U.set i (Aa (d,Ad))) z
 |_=>exact noF h
theorem lV(op:Dr)(x y:D)(e:Ex):BU op x y≠.exn e:=λz=>by
 rcases SG op x y with w|⟨b,w⟩<;>(rw[w]at z;cases z)
theorem iD(x:D)(e:Ex):BS x≠.exn e:=by
 unfold BS;split<;>first|(intro z;cases z;done)|(split<;>intro z<;>cases z)
theorem Tn(Z:Gam)(U:Rho)(c:E)(h:QL c=Ab)(y:Ex):(top U c (evE Z U c)).bind BS≠.exn y:=by
 have key:∀ e,top U c (evE Z U c)≠.exn e:=by
  cases c with
  |var i=>exact M1 Z U (.var i) rfl
  |cmp op a b=>
   unfold QL at h;rw[Ai]at h;intro e z;have z':((top U a (evE Z U a)).bind λx=>(top U b (evE Z U b)).bind λy=>BU op x y)=.exn e:=by
    have e0:evE Z U (.cmp op a b)=((top U a (evE Z U a)).bind λx=>(top U b (evE Z U b)).bind λy=>BU op x y):=lO Z U op a b
    rw[<-e0];exact z
   cases e1:top U a (evE Z U a) with
   |bad=>rw[e1]at z';cases z'
   |exn w=>exact M1 Z U a h.1 w e1
   |ok d=>
    rw[e1,R.bind_ok]at z';cases e2:top U b (evE Z U b) with
    |bad=>rw[e2]at z';cases z'
    |exn w=>exact M1 Z U b h.2 w e2
    |ok d2=>rw[e2,R.bind_ok]at z';exact lV _ _ _ _ z'
  |_=>cases h
 intro z;cases e1:top U c (evE Z U c) with
 |bad=>rw[e1]at z;cases z
 |exn w=>exact key w e1
 |ok d=>rw[e1,R.bind_ok]at z;exact iD _ _ z
theorem sR(Sn:Snd Z CL k n)(v:VX Z CL k W T X)(hf:DefX X):∀(m:Af){st:AM}{s:S},NT m n T st s=Ab->STB X CL [st] (λU=>evSs Z U (.cons s .nil))/\∀ U y U',evSs Z U (.cons s .nil)=.exn y U'->U'=U:=by
 intro m
 induction m with
 |zero=>intro st s h;exact U_7 Sn v hf h
 |succ m ih=>
  intro st s h;replace h:=orT (a:=Np n T st s) (b:=Vo (NT m n T) n T st s) h;rcases h with h|h
  .exact U_7 Sn v hf h
  .cases s with
   |ife c a b=>
    replace h:=SM h;obtain⟨a,rfl,h⟩:=h;replace h:=SM h;obtain⟨b,rfl,h⟩:=h;replace h:=PH h;obtain⟨t,xs,ys,pos,rfl,h⟩:=h;replace h:=EV h;obtain⟨xs,rfl,h⟩:=h;replace h:=EV h;obtain⟨ys,rfl,h⟩:=h;simp only[Ai]at h;obtain⟨⟨⟨h1,h2⟩,h3⟩,h4⟩:=h;obtain⟨a1,a2⟩:=ih h3;obtain⟨b1,b2⟩:=ih h4;have ev:∀ U,evSs Z U (.cons (.ife c (.cons a .nil) (.cons b .nil)) .nil)=O.of U ((top U c (evE Z U c)).bind BS) λk=>if k=Ab then evSs Z U (.cons a .nil) else evSs Z U (.cons b .nil):=λU=>R4 _
    refine⟨STB.congr (gP (λpI Xw own=>(Sn.b W0 T (Cx.pw X pI Xw) _ _ (v.pw own) h1)) (λU y=>Tn Z U c h2 y) a1 b1) λU=>ev U,λU y U' z=>?_⟩
    rw[ev]at z;cases e1:(top U c (evE Z U c)).bind BS with
    |bad=>rw[e1]at z;cases z
    |exn w=>exact absurd e1 (Tn Z U c h2 w)
    |ok k=>
     rw[e1,O.of_ok]at z;cases k with
     |true=>exact a2 U y U' z
     |false=>exact b2 U y U' z
   |_=>exact noF h
theorem Mf{i:Af}{e:Ak}(v:VX Z CL k W T X)(h:isV T x i=Ab):PE (Cx.hot X e) (.Name x pos) (Ej i):=by
 unfold isV at h;simp only[Ai,AD]at h;obtain⟨h2,h3,_⟩:=FY h.2;exact Ll (by show X.N[i]?=_;rw[v.N];exact h.1.1) (by show Vis X.env.scope x;rw[v.sc];exact TJ h.1.2) h2 h3
theorem UD{x:Af}{t:Am}{c:E}:∀{n:Af},IB n T x t c=Ab->∀ U r,top U c r=r:=λ{n} h=>by
 cases n with
 |zero=>exact noF h
 |succ n=>
  cases c with
  |var i=>exact noF h
  |_=>exact λ_ _=>rfl
theorem eZ(v:VX Z CL k W T X)(e:Ak):∀(ts:Ac Am)(ks:Ac Ki),Qv T ts ks=Ab->∃ cs:Ac (Af×Ak),ks=cs.map (λq=>Ki.cls q.1)/\cs.length=ts.length/\PA (Cx.hot X e) ts (WC (cs.map λq:Af×Ak=>q.2))/\∀ q∈cs,Mm X.K CL Z.up q.1 q.2:=by
 intro ts
 induction ts with
 |nil=>
  intro ks h;obtain rfl:=E3 h;exact⟨[],rfl,rfl,ET,λq hq=>nomatch hq⟩
 |cons t ts ih=>
  intro ks h;replace h:=IV h;obtain⟨kk,ks,rfl,h⟩:=h;replace h:=E4 h;obtain⟨t,p,rfl,h⟩:=h;replace h:=A7 h;obtain⟨h,h4⟩:=h;cases kk with
  |cls c=>
   replace h:(inX T.exs t c&&glB T t&&FG t)=Ab:=h;simp only[Ai]at h;obtain⟨⟨h1,h2⟩,h3⟩:=h;obtain⟨cs,e1,e2,e3,e4⟩:=ih ks h4;obtain⟨C,m1,m3,_⟩:=v.xt.ex _ (Kz h1);obtain⟨n2,_,_⟩:=FY h3;refine⟨(c,C)::cs,by rw[e1];rfl,by rw[AI,AI,e2],?_,λq hq=>?_⟩
   .exact DJ (PD (X:=Cx.hot X e) (v:=.ref C) (by unfold glB at h2;show X.env.scope.names.lookup t=_;rw[v.sc];exact eq_of_beq h2) m1 rfl n2) e3 rfl
   .rcases AA.mp hq with rfl|hq
    .exact m3
    .exact e4 q hq
  |_=>exact noF h
theorem NI{e:Ak}{f:Am->E->Al}(ih:∀ t c,f t c=Ab->SE (Cx.hot X e) CL W0 t (λU=>evE Z U c)):∀(xs:Ac Am)(es:Es),Mz f xs es=Ab->SA (Cx.hot X e) CL W0 xs (λU=>evA Z U es)/\xs.length=es.len
 |[],.nil,_=>⟨UL,rfl⟩
 |[],.cons _ _,h=>nomatch (show Ad=Ab from h)
 |_::_,.nil,h=>nomatch (show Ad=Ab from h)
 |x::xs,.cons c es,h=>by
  have h:(CV x&&f x c&&Mz f xs es)=Ab:=h;simp only[Ai]at h;obtain⟨⟨h1,h2⟩,h3⟩:=h;obtain⟨q,l⟩:=NI ih xs es h3;exact⟨Ue (ih x c h2) q (BY h1),by rw[AI,l];rfl⟩
theorem VS(v:VX Z CL k W T X)(e:Ak)(x:Af):∀(n:Af)(t:Am)(c:E),IB n T x t c=Ab->SE (Cx.hot X e) CL W0 t (λU=>evE Z U c):=by
 intro n
 induction n with
 |zero=>intro t c h;exact noF h
 |succ n ih=>
  intro t c h;cases c with
  |bl b=>
   replace h:=JQ h;obtain⟨k,u,p,rfl,h⟩:=h;obtain rfl:=AS h;exact VN
  |no a=>
   replace h:=Nh h;obtain⟨o,y,p,rfl,h⟩:=h;replace h:=A7 h;obtain⟨h0,h⟩:=h;obtain rfl:=AS h0;have q:=(ih _ _ h).st;refine SE.congr (Ve q) λU=>?_
   show ((top U a (evE Z U a)).bind λx=>(D5 x).bind λb=>R.ok (D.bl (!b)))=_
   rw[UD h]
  |and es=>
   cases es with
   |nil=>exact noF h
   |cons a as=>
    cases as with
    |nil=>
     replace h:=L5 h;obtain⟨o,l,p,rfl,h⟩:=h;replace h:=A7 h;obtain⟨h0,h⟩:=h;obtain rfl:=AS h0;replace h:=EV h;obtain⟨y,rfl,h⟩:=h;exact SE.congr (PR (ih _ _ h)) λU=>rfl
    |cons a' as=>
     replace h:=L5 h;obtain⟨o,l,p,rfl,h⟩:=h;replace h:=A7 h;obtain⟨h0,h⟩:=h;obtain rfl:=AS h0;replace h:=IV h;obtain⟨y,l,rfl,h⟩:=h;replace h:=IV h;obtain⟨z,zs,rfl,h⟩:=h;exact SE.congr (UK (ih _ _ (A7 h).1) (ih _ _ (A7 h).2)) λU=>rfl
  |isi a ks=>
   replace h:=O9 h;obtain⟨i,rfl,h⟩:=h;replace h:=jA h;obtain⟨g,pp,w,pq,u,pr,rfl,h⟩:=h;simp only[Ai,AD]at h;obtain⟨⟨⟨⟨rfl,rfl⟩,h3⟩,h4⟩,h⟩:=h;obtain⟨g1,g2,_,_⟩:=G2 v h3;replace h:=IV h;obtain⟨kk,ks,rfl,h⟩:=h;cases kk with
   |verr=>
    replace h:=A7 h;obtain⟨h0,h⟩:=h;obtain rfl:=E3 h0;replace h:=E4 h;obtain⟨t,pt,rfl,h⟩:=h;simp only[Ai,AD]at h;obtain⟨h5,h6⟩:=h;obtain⟨b1,b2,_,_⟩:=G2 v h6;rw[h5]at b1 b2 ⊢;exact UH (X:=Cx.hot X e) v.xt.xc g1 g2 b1 b2 (Ji (Mf v h4)) rfl
   |cls c=>
    cases ks with
    |nil=>
     replace h:=E4 h;obtain⟨t,pt,rfl,h⟩:=h;simp only[Ai]at h;obtain⟨⟨h5,h6⟩,h7⟩:=h;obtain⟨C,m1,m3,_⟩:=v.xt.ex _ (Kz h5);obtain⟨n2,_,_⟩:=FY h7;exact UI (X:=Cx.hot X e) v.xt.xc g1 g2 (by unfold glB at h6;show X.env.scope.names.lookup _=_;rw[v.sc];exact eq_of_beq h6) m1 m3 n2 (Ji (Mf v h4)) rfl
    |cons k2 ks=>
     replace h:=Lb h;obtain⟨ts,z1,z2,rfl,h⟩:=h;replace h:=A7 h;obtain⟨h5,h6⟩:=h;obtain⟨cs,e1,e2,e3,e4⟩:=eZ v e _ _ h5;have hne:cs≠[]:=by rintro rfl;cases e1
     rw[e1];exact pW (X:=Cx.hot X e) (W:=W0) (up:=Z.up) v.xt.xc g1 g2 e3 hne (by rw[e2];exact AS h6) e4 (Ji (Mf v h4)) rfl
   |_=>exact noF h
  |call f as=>exact absurd (show Ad=Ab from h) Au
  |str s=>
   replace h:=JQ h;obtain⟨k,u,p,rfl,h⟩:=h;obtain rfl:=AS h;exact Ny
  |lst es=>
   replace h:=M4 h;obtain⟨xs,p,rfl,h⟩:=h;simp only[Ai,Az]at h;obtain⟨q,ql⟩:=NI (ih) _ _ h.1;exact(PQ q λU ds z=>by rw[HP Z U _ _ z,<-ql];omega).se
  |tup es=>
   replace h:=Lb h;obtain⟨xs,cc,p,rfl,h⟩:=h;simp only[Ai,Az]at h;obtain⟨q,ql⟩:=NI (ih) _ _ h.1;exact Vd q λU ds z=>by rw[HP Z U _ _ z,<-ql];omega
  |bin op a b=>
   replace h:=A7 h;obtain⟨h0,h⟩:=h;obtain rfl:=AS h0;replace h:=O9 h;obtain⟨i,rfl,h⟩:=h;replace h:=SU h;obtain⟨l,o,y,p,rfl,h⟩:=h;replace h:=A7 h;obtain⟨h0,h⟩:=h;obtain rfl:=AS h0;replace h:=E4 h;obtain⟨w,pw,rfl,h⟩:=h;replace h:=A7 h;obtain⟨h1,h2⟩:=h;refine SE.congr (PU (PF .Add) (Ji (Mf v h1)) (ih _ _ h2).st) λU=>?_
   show ((Eb U i).bind λx=>(top U b (evE Z U b)).bind λy=>CN .Add x y)=_
   rw[UD h2]
  |fld o f=>
   replace h:=O9 h;obtain⟨i,rfl,h⟩:=h;replace h:=JR h;obtain⟨w,g,p,rfl,h⟩:=h;replace h:=E4 h;obtain⟨w,pw,rfl,h⟩:=h;simp only[Ai,AD]at h;obtain⟨⟨⟨rfl,rfl⟩,h3⟩,h4⟩:=h;exact TC (X:=Cx.hot X e) v.xt.xc (λc C z=>v.xt.nf c C z _ h3) (Ji (Mf v h4)) rfl
  |_=>exact noF h
theorem vA(v:VX Z CL k W T X)(hf:DefX X)(e:Ak)(x:Af):∀(n:Af)(sts:Ac AM)(ss:Ss),Qo n T x sts ss=Ab->SSs (Cx.hot X e) CL W0 sts (λU=>evSs Z U ss):=by
 intro n
 induction n with
 |zero=>intro t c h;exact noF h
 |succ n ih=>
  intro sts ss0 h;cases ss0 with
  |nil=>
   obtain rfl:=E3 h;exact TV
  |cons s ss0=>
   replace h:=IV h;obtain⟨st,r,rfl,h⟩:=h;replace h:=A7 h;obtain⟨h,h5⟩:=h;cases s with
   |asg i b e0=>
    replace h:=Lc h;obtain⟨y,py,v0,pos,rfl,h⟩:=h;simp only[Ai,AD]at h;obtain⟨⟨⟨⟨h1,h2⟩,h3⟩,h4⟩,h6⟩:=h;cases b with
    |true=>
     cases e0 with
     |lst es=>
      have sc:SC (Cx.hot X e) CL W0 Ab v0 (λU=>evE Z U (.lst es)):=by
       cases n with
       |zero=>exact absurd (show Ad=Ab from h4) Au
       |succ n=>
        replace h4:=M4 h4;obtain⟨l,pl,rfl,h4⟩:=h4;obtain⟨q,ql⟩:=NI (VS v e x n) _ _ (A7 h4).1;have hle:=AS (A7 h4).2;exact PQ q λU ds z=>by rw[HP Z U _ _ z,<-ql];omega
      have q:=OR (Tx (SC.sas (X:=Cx.hot X e) (pos:=pos) (pos':=py) (by show X.N.Nodup;rw[v.N];exact v.nd) (by show X.N[i]?=_;rw[v.N];exact h1) (by show Loc X.env.scope _;rw[v.sc];exact Ku h2) sc (Jc h3) (.inl (hf.fn _)))) (ih _ _ h5)
      have ef:(λU=>evSs Z U (.cons (.asg i Ab (.lst es)) ss0))=λU=>(O.of U (evE Z U (.lst es)) λd=>setF U i d).seq λU=>evSs Z U ss0:=by
       funext U
       show (evS Z U (.asg i Ab (.lst es))).seq _=_;rw[eN];rfl
      rw[ef];exact q
     |_=>exact absurd (show Ad=Ab from h6) Au
    |false=>
    exact OR (nC (X:=Cx.hot X e) (by show X.N.Nodup;rw[v.N];exact v.nd) (by show X.N[_]?=_;rw[v.N];exact h1) (by show Loc X.env.scope _;rw[v.sc];exact Ku h2) (VS v e x n _ _ h4) (Jc h3) (.inl (hf.fn _))) (ih _ _ h5)
   |ife c a b=>exact absurd (show Ad=Ab from h) Au
   |ret e0=>exact absurd (show Ad=Ab from h) Au
   |app i e0=>exact absurd (show Ad=Ab from h) Au
   |_=>exact noF h
theorem qP(v:VX Z CL k W T X)(h:hdB T g c=Ab):Rc X CL Z.up g c:=by
 unfold hdB at h;simp only[Ai]at h;obtain⟨⟨⟨i1,i0⟩,i2⟩,i3⟩:=h;obtain⟨C,m1,m3,m4⟩:=v.xt.ex _ (Kz i1);obtain⟨C0,r1,r2⟩:=v.xt.rz _ (Kz i0);obtain⟨n2,_,_⟩:=FY i3;refine⟨C,by unfold glB at i2;show X.env.scope.names.lookup g=_;rw[v.sc];exact eq_of_beq i2,m1,n2,?_,λc' D hD=>m4 c' D hD⟩
 have e0:=m1.symm.trans r2;cases e0;exact v.xt.xc _ _ r1
theorem tB(Z_:SndS Z CL k n)(W:XW)(T:Tc)(X:Cx)(st:AM)(c:S)(v:VX Z CL k W T X)(hf:DefX X)(h:MK (n+1) T st c=Ab):SS X CL W st (λU=>evS Z U c):=by
  have E:=snd (Z:=Z) (CL:=CL) (k:=k) n;cases c with
  |pass=>exact absurd (show Ad=Ab from h) Au
  |brk=>exact absurd (show Ad=Ab from h) Au
  |cont=>exact absurd (show Ad=Ab from h) Au
  |asg i fresh e=>
    replace h:=Lc h;obtain⟨x,px,v0,pos,rfl,h⟩:=h;simp only[Ai,AD]at h;obtain⟨⟨h1,h2⟩,h3⟩:=h;have o:=E.e W T X _ e v h3;cases fresh with
    |false=>exact Vb (P0 (fr:=Ad) v hf.fn h1 h2 o (λz=>nomatch z))
    |true=>
      cases hn:B5 Z e with
      |true=>
        refine SS.ref (Tx (P0 (fr:=Ab) v hf.fn h1 h2 o (λ_=>hn))) λU=>.inr ?_
        show O.of U (evE Z U e) (λd=>if Ab=Ab then (if B5 Z e=Ab then (match d with
          |.lst xs=>.next (U.set i (Aa (.lst xs,Ab)))
          |.dic xs=>.next (U.set i (Aa (.dic xs,Ab)))
          | _=>.bad) else .bad) else .next (U.set i (Aa (d,Ad))))=_
        rw[hn];rfl
      |false=>
        refine SS.ref (Vb (P0 (fr:=Ad) v hf.fn h1 h2 o (λz=>nomatch z))) λU=>?_
        have e0:evS Z U (.asg i Ab e)=O.of U (evE Z U e) (λd=>if Ab=Ab then (if B5 Z e=Ab then (match d with
          |.lst xs=>.next (U.set i (Aa (.lst xs,Ab)))
          |.dic xs=>.next (U.set i (Aa (.dic xs,Ab)))
          | _=>.bad) else .bad) else .next (U.set i (Aa (d,Ad)))):=rfl
        rw[e0,hn];cases evE Z U e with
        |ok d=>exact .inl rfl
        |exn y=>exact .inr rfl
        |bad=>exact .inl rfl
  |asgT ts e=>exact absurd (show Ad=Ab from h) Au
  |expr e=>
    replace h:=M6 h;obtain⟨v0,pos,rfl,h⟩:=h;simp only[Ai]at h;exact gY (E.e W T X _ e v h.2).se (Jc h.1)
  |ret e=>
    replace h:=SN h;obtain⟨o,pos,rfl,h⟩:=h;cases o with
    |none=>exact noF h
    |some v0=>
    replace h:A4 n T v0 e=Ab:=h;have o:=E.e W T X _ e v h;cases hv:B5 Z e with
    |true=>
      refine SS.ref (TW (o.nw hv)) λU=>.inr ?_
      rw[Sj U e (λi z=>by subst z;cases hv),hv]
    |false=>
      cases e with
      |var i=>
        cases n with
        |zero=>exact noF h
        |succ n=>
          replace h:=E4 h;obtain⟨y,py,rfl,h⟩:=h;exact gS (Hf v h)
      |_=>
        refine SS.ref (gU o.se) λU=>.inr ?_
        rw[Sj U _ (by intro i z;cases z),hv]
  |retN=>exact absurd (show Ad=Ab from h) Au
  |retc ts it f as=>
    replace h:=SN h;obtain⟨o,pos,rfl,h⟩:=h;cases o with
    |none=>exact noF h
    |some v0=>
      replace h:=T5 h;obtain⟨y,tg,it',ifs,scope,p0,rfl,h⟩:=h;replace h:=A7 h;obtain⟨hn,h⟩:=h;obtain rfl:=E3 hn;replace h:=Lb h;obtain⟨ys,cc,pw,rfl,h⟩:=h;simp only[Ai]at h;obtain⟨⟨⟨⟨⟨⟨h0,h1⟩,h2⟩,h3⟩,h4⟩,h5⟩,h6⟩:=h;cases n with
      |zero=>exact noF h6
      |succ m=>
        replace h6:=IW h6;obtain⟨g,pp,y1,ys1,qq,rfl,h6⟩:=h6;simp only[Ai,DF,AD,Az]at h6;obtain⟨⟨⟨⟨⟨p,hp,⟨rfl,rfl⟩,hl⟩,h900⟩,g1⟩,g2⟩,g3⟩:=h6;obtain⟨fa,fd,ps,m1,m2,m3,m4,m5,_⟩:=v.fn p hp;have hlt:p.2.2<1000:=by omega
        rw[Gb hlt]at m4 m5;have m5:=m5 hlt;obtain⟨n2,n3,n4⟩:=FY g2;replace m1:=M7 m1 (Ni g2);obtain⟨s0,e,es',rfl,m',rfl,s1⟩:=Il g3;have hlen:ys1.length+1=(Es.cons e es').len:=Sr _ _ _ g3;exact TW (eK (fs:=λU=>evA Z U (.cons e es')) (sh:=λU=>HV U (.cons e es')) v.calm hf.st hf.fm v.fz (Qd v h3).1 (E.i W T X Ab _ _ it v rfl h1) (qQ ts) (OP ts) (λcl C s H fp=>iK (v.blk h3) h0 h4) (Lk h2) m5 v.room (λcl C s H fp=>by
          have vb:=v.blk (cl:=cl) (C:=C) (s:=s) (H:=H) (fp:=fp) h3;unfold glB at g1;show (cxC X scope cl C (KJ ts (tgN ys) T.N) s H fp).env.scope.names.lookup p.1=_;rw[vb.sc];exact eq_of_beq g1) m1 m2 m3 (λcl C s H fp=>by
          obtain⟨a1,a2,_⟩:=(snd (Z:=Z) (CL:=CL) (k:=k) (m'+1)).es W0 _ _ _ _ (v.blk (cl:=cl) (C:=C) (s:=s) (H:=H) (fp:=fp) h3) g3;exact⟨a1,a2⟩) (λU z=>Mo Z U _ z) (λU ds z=>by rw[Mh Z U _ _ z,<-hlen,hl]) (λU=>MV Z U _ h5) n2 (λenv=>BY s0) (λenv=>Ik (X:={X with env:=env}) m' ys1 es' s1))
  |ife c a b=>
    replace h:=PH h;obtain⟨t,xs,ys,pos,rfl,h⟩:=h;simp only[Ai]at h;exact sP (E.b W T X _ c v h.1.1) (Z_.ss W T X _ a v hf h.1.2) (Z_.ss W T X _ b v hf h.2)
  |fors t it body=>
    replace h:=M5 h;obtain⟨tg,it',xs,ys,pos,rfl,h⟩:=h;replace h:=A7 h;obtain⟨hn,h⟩:=h;obtain rfl:=E3 hn;replace h:=E4 h;obtain⟨y,py,rfl,h⟩:=h;simp only[Ai]at h;obtain⟨⟨⟨h1,h2⟩,h3⟩,h4⟩:=h;exact Va v.own v.calm (mU t) (TR v hf.fn h1) (E.i W T X Ad _ _ it v rfl h3) (Z_.ss W T X _ body v hf h4) (Lk h2) (λ_ _ _ z=>nomatch z)
  |forT ts it body=>
    replace h:=M5 h;obtain⟨tg,it',xs,zs,pos,rfl,h⟩:=h;replace h:=A7 h;obtain⟨hn,h⟩:=h;obtain rfl:=E3 hn;replace h:=Lb h;obtain⟨ys,cc,py,rfl,h⟩:=h;simp only[Ai]at h;obtain⟨⟨⟨⟨h0,h1⟩,h2⟩,h3⟩,h4⟩:=h;exact Va v.own v.calm (UE ts) (TQ v hf.fn h0 h1) (E.i W T X Ab _ _ it v rfl h3) (Z_.ss W T X _ body v hf h4) (Lk h2) (OP ts)
  |forO i ts body=>
    replace h:=M5 h;obtain⟨tg,it',xs,zs,pos,rfl,h⟩:=h;replace h:=A7 h;obtain⟨hn,h⟩:=h;obtain rfl:=E3 hn;replace h:=Lb h;obtain⟨ys,cc,py,rfl,h⟩:=h;simp only[Ai]at h;obtain⟨⟨⟨h0,h1⟩,h2⟩,h3⟩:=h;replace h3:=Ij h3;obtain⟨g,pp,l,qq,rfl,h3⟩:=h3;replace h3:=EV h3;obtain⟨y,rfl,h3⟩:=h3;simp only[Ai,AD]at h3;obtain⟨⟨⟨rfl,g0⟩,hz⟩,h4⟩:=h3;replace hz:=E4 hz;obtain⟨z,pz,rfl,hz⟩:=hz;obtain⟨g1,g2,_,_⟩:=G2 v g0;exact gW v.own v.calm (UE ts) (TQ v hf.fn h0 h1) (Hf v hz) g1 g2 rfl (Z_.ss W T X _ body v hf h4) (Lk h2) (OP ts)
  |whl c body=>exact absurd (show Ad=Ab from h) Au
  |rais c as=>
    replace h:(!(T.rzs.any λp=>p.2==c)||(NL st λa b=>b.isNone&&(match a with|some e=>Kv e λg x xs=>inX T.rzs g c&&glB T g&&FG g&&decide (xs.length<=1000)&&chkEs n T (x::xs) as|none=>Ad)))=Ab:=h
    cases hc:T.rzs.any (λp=>p.2==c) with
    |false=>
      have hb:∀ ds,Z.xn c ds=.bad:=v.xt.xb c λp hp z=>by
        have:T.rzs.any (λp=>p.2==c)=Ab:=List.any_eq_true.mpr ⟨p,hp,AD.mpr z⟩
        rw[hc]at this;cases this
      intro Fz B pI s Y H D I ⟨U,x,p⟩;have p':Bv X.K CL Fz B W (O.of U (noX (evA Z U as)) λxs=>O.of U (Z.xn c xs) λx=>.exn x U) D:=p
      cases e1:evA Z U as with
      |bad=>rw[e1]at p';exact p'.elim
      |exn y=>rw[e1]at p';exact p'.elim
      |ok ds=>
        rw[e1]at p';have p2:Bv X.K CL Fz B W (O.of U (Z.xn c ds) λx=>.exn x U) D:=p'
        rw[hb ds]at p2;exact p2.elim
    |true=>
      rw[hc,Jv,Bool.false_or]at h;replace h:=gB h;obtain⟨ea,eb,pos,rfl,h⟩:=h;replace h:=A7 h;obtain⟨h0,h⟩:=h;obtain rfl:=Dj.mp h0;cases ea with
      |none=>exact noF h
      |some e0=>
        replace h:=IW h;obtain⟨g,np,x,xs,cpos,rfl,h⟩:=h;simp only[Ai,Az]at h;obtain⟨⟨⟨⟨h1,h2⟩,h3⟩,h4⟩,h5⟩:=h;obtain⟨C,m1,m2⟩:=v.xt.rz _ (Kz h1);obtain⟨n2,_,_⟩:=FY h3;obtain⟨s0,e,es',rfl,m,rfl,s1⟩:=Il h5;have q:=E.es W T X _ _ v h5;exact aU v.calm hf.ex v.room v.rz (by unfold glB at h2;show X.env.scope.names.lookup g=_;rw[v.sc];exact eq_of_beq h2) m2 n2 m1 q.1 (λds=>v.xt.made c C ds m1) (BY s0) (Ik m xs es' s1) (λU ds z=>by rw[HP Z U _ _ z,<-q.2.2.1,AI];omega)
  |app i e=>
    replace h:=Pa h;obtain⟨x,px,m,ap,l,cp,pos,rfl,h2,h⟩:=h;replace h:=EV h;obtain⟨v0,rfl,h⟩:=h;simp only[Ai,AD]at h;obtain⟨⟨⟨rfl,h1⟩,h3⟩,h4⟩:=h;exact nF (Hf v h1) (E.e W T X _ e v h4).se rfl (by rw[BY h3];rfl) (by rw[h2];exact Cz _) (BY h3) rfl
  |ext i e=>
    replace h:=Pa h;obtain⟨x,px,m,ap,l,cp,pos,rfl,h2,h⟩:=h;replace h:=EV h;obtain⟨v0,rfl,h⟩:=h;simp only[Ai,AD]at h;rw[BL]at h;obtain⟨⟨⟨rfl,h1⟩,h3⟩,h5⟩:=h;rcases h5 with h5|h5
    · rw[Ai]at h5;obtain⟨h5,h4⟩:=h5;by_cases hn:B5 Z e=Ab
      case neg=>
        have fe:(λU=>evS Z U (.ext i e))=λ_=>O.bad:=by
          funext U
          rw[Po,AB hn]
        show SS X CL W _ (λU=>evS Z U (.ext i e))
        rw[fe];exact λFz B pI s Y H D I ⟨U,x,p⟩=>p.elim
      have fe:(λU=>evS Z U (.ext i e))=λU=>O.of U (Ck U i) λxs=>O.of U (evE Z U e) λd=>O.of U (J7 d) λys=>if BG (xs.length+ys.length)=Ab then .next (U.set i (Aa (.lst (xs++ys),Ab))) else .bad:=by
        funext U
        rw[Po,As hn]
      show SS X CL W _ (λU=>evS Z U (.ext i e))
      rw[fe];exact nE (Hf v h1) ((E.e W T X _ e v h4).nw hn) rfl (by rw[BY h3];rfl) (by rw[h2];exact Cz _) (BY h3) rfl
    · cases q:NX e with
      |none=>rw[q]at h5;cases h5
      |some a=>
        rw[q]at h5;have eq:=gO q;subst eq;have fe:(λU=>evS Z U (.ext i (.bi .list (.cons (.bin .Add a (.tup .nil)) .nil))))=λU=>O.of U (Ck U i) λxs=>O.of U (top U a (evE Z U a)) λx=>O.of U ((CN .Add x (.tup [])).bind λy=>biD .list [y]) λd=>O.of U (J7 d) λys=>if BG (xs.length+ys.length)=Ab then .next (U.set i (Aa (.lst (xs++ys),Ab))) else .bad:=funext λU=>by
          rw[Po,As (show B5 Z (.bi .list (.cons (.bin .Add a (.tup .nil)) .nil))=Ab from rfl)]
          have e2:evE Z U (.bi .list (.cons (.bin .Add a (.tup .nil)) .nil))=(top U a (evE Z U a)).bind λx=>(CN .Add x (.tup [])).bind λy=>biD .list [y]:=by
            simp only[Mn,evB,lP,iG,iF,lN,evA,R.bind_ok,R.bind_assoc]
          rw[e2];cases Ck U i with
          |ok xs=>
            rw[O.of_ok,O.of_ok];cases top U a (evE Z U a)<;>rfl
          |exn z=>rfl
          |bad=>rfl
        show SS X CL W _ (λU=>evS Z U (.ext i (.bi .list (.cons (.bin .Add a (.tup .nil)) .nil))))
        rw[fe];exact gX (Hf v h1) (E.e W T X _ a v h5).st rfl (by rw[BY h3];rfl) (by rw[h2];exact Cz _) (BY h3) rfl
  |rev i=>exact absurd (show Ad=Ab from h) Au
  |clr i=>exact absurd (show Ad=Ab from h) Au
  |put i k e=>exact absurd (show Ad=Ab from h) Au
  |tryx body c x hd=>
    cases body with
    |nil=>exact noF h
    |cons b bs=>
      cases bs with
      |cons=>exact noF h
      |nil=>
        unfold MK at h;dsimp only at h;cases q:QF st with
        |none=>rw[q]at h;cases h
        |some t=>
          obtain⟨bt,hl,es⟩:=t;rw[q]at h;obtain⟨pos,rfl⟩:=hJ q;cases hl with
          |nil=>exact noF h
          |cons h1 hl=>
            cases hl with
            |cons=>exact noF h
            |nil=>
              cases es with
              |cons=>exact noF h
              |nil=>
                dsimp only at h;cases q1:xHd h1 with
                |none=>rw[q1]at h;cases h
                |some t1=>
                  obtain⟨g,m,h0,hs⟩:=t1;obtain⟨p1,hp,rfl⟩:=nK q1;rw[q1]at h;simp only[Ai,AD]at h;obtain⟨⟨⟨⟨i1,i4⟩,i5⟩,i6⟩,i7⟩:=h;obtain⟨t1,t2⟩:=sR E v hf 6 i6;refine SS.ref (nB (up:=Z.up) (c:=c) (i:=x) hf.ex hf.st hf.fm (by rw[v.N];exact v.nd) (by rw[v.N];exact i4) (by rw[v.sc];exact i5) (qP v i1) t1 t2 (λe=>vA v hf e x n _ _ i7)) λU=>.inr ?_
                  rw[eT];unfold Wg;cases evSs Z U (.cons b .nil)<;>rfl
  |try2 body c x hd c' hd' els=>exact absurd (show Ad=Ab from h) Au
  |swp i k l=>exact absurd (show Ad=Ab from h) Au
  |apop j i e=>exact absurd (show Ad=Ab from h) Au
  |ins i k e=>exact absurd (show Ad=Ab from h) Au
  |dput=>exact noF h
  |dsd=>exact noF h
  |hand=>exact noF h
  |rel=>exact noF h
theorem gN{c:Ss}(h:Oa c=Ab)(U:Rho):evSs Z U c=.bad:=by
 cases c with
 |nil=>cases h
 |cons s ss=>
  cases s with
  |expr e=>
   cases e with
   |bi b as=>
    cases as with
    |nil=>
     cases b with
     |len=>rfl
     |_=>exact noF h
    |cons=>cases b<;>exact noF h
   |_=>exact noF h
  |_=>exact noF h
theorem vE(v:VX Z CL k W T X):∀(m:Af)(xs:Ac Am)(es:Es),chkEs m T xs es=Ab->Qw es=Ab->NwA X CL W xs (λU=>evA Z U es):=by
 intro m
 induction m with
 |zero=>intro xs es h;exact noF h
 |succ m ih=>
  intro xs es h hn;cases xs with
  |nil=>
   cases es with
   |nil=>exact rE
   |cons e es=>exact noF h
  |cons x xs=>
   cases es with
   |nil=>exact noF h
   |cons e es=>
    have h':(CV x&&A4 m T x e&&chkEs m T xs es)=Ab:=h;replace h':=A7 h';obtain⟨h',h3⟩:=h';replace h':=A7 h';obtain⟨h1,h2⟩:=h';replace hn:=A7 hn;obtain⟨n1,n2⟩:=hn;exact mC (((snd (Z:=Z) (CL:=CL) (k:=k) m).e W T X _ e v h2).nw (mB Z n1)) (ih xs es h3 n2) (BY h1)
theorem mT(v:VX Z CL k W T X)(hf:DefX X){i p r j:Af}{es:Es}{e2 e3 c:E}{s1 s2 s3 s4 s5:AM}{q:Ac AM}{g:Rho->O}(h:Qp n T i es p e2 r e3 c j s1 s2 s3 s4 s5=Ab)(hg:SSs X CL W q g):SSs X CL W (s1::s2::s3::s4::s5::q) (λU=>(evS Z U (.hand i es p e2 r e3 c j)).seq g):=by
 have E:=snd (Z:=Z) (CL:=CL) (k:=k) n;replace h:=A7 h;obtain⟨h,h6⟩:=h;replace h:=A7 h;obtain⟨h,h5⟩:=h;replace h:=A7 h;obtain⟨h,h4⟩:=h;replace h:=A7 h;obtain⟨h,h3⟩:=h;replace h:=A7 h;obtain⟨h1,h2⟩:=h;replace h1:=Lc h1;obtain⟨x1,p1,v1,q1,rfl,h1⟩:=h1;replace h1:=A7 h1;obtain⟨a1,h1⟩:=h1;replace h1:=M4 h1;obtain⟨l,lp,rfl,h1⟩:=h1;replace h2:=Lc h2;obtain⟨x2,p2,v2,q2,rfl,h2⟩:=h2;replace h3:=Lc h3;obtain⟨x3,p3,v3,q3,rfl,h3⟩:=h3;replace h4:=PH h4;obtain⟨t,bd,ys,q4,rfl,h4⟩:=h4;replace h4:=A7 h4;obtain⟨y4,h4⟩:=h4;obtain rfl:=E3 y4;replace h5:=M5 h5;obtain⟨tg,it,zs,ys,q5,rfl,h5⟩:=h5;replace h5:=A7 h5;obtain⟨y5,h5⟩:=h5;obtain rfl:=E3 y5;replace h5:=E4 h5;obtain⟨x5,p5,rfl,h5⟩:=h5;replace h5:=A7 h5;obtain⟨g5,h5⟩:=h5;replace h5:=E4 h5;obtain⟨x6,p6,rfl,h5⟩:=h5;replace h5:=A7 h5;obtain⟨i5,h5⟩:=h5;replace h5:=EV h5;obtain⟨b,rfl,h5⟩:=h5;replace h5:=Pa h5;obtain⟨x7,p7,m,ap,as,cp,q7,rfl,hln,h5⟩:=h5;replace h5:=A7 h5;obtain⟨y7,h5⟩:=h5;obtain rfl:=E3 y7;replace h5:=A7 h5;obtain⟨em,i7⟩:=h5;obtain rfl:=eq_of_beq em;simp only[Ai,AD,Az]at a1 h1 h2 h3;obtain⟨⟨b1,b2⟩,b3⟩:=h1;obtain⟨⟨⟨c1,c2⟩,c3⟩,c4⟩:=h2;obtain⟨⟨⟨d1,d2⟩,d3⟩,d4⟩:=h3;have hset:∀{e:Am}{z:Af}{y:Ag}{pp qq:AF},T.N[z]?=Aa y->G6 T y=Ab->G1 e=Ab->∀ te,PE X e te->PS X (.Assign [.Name y pp] e qq) (KI te (EG z)):=λ{e z y pp qq} a b cc te he=>Ml (by rw[v.N];exact v.nd) (by rw[v.N];exact a) (by rw[v.sc];exact Ku b) he (Jc cc) (.inl (hf.fn _))
 replace h6:=A7 h6;obtain⟨h6,n3⟩:=h6;replace h6:=A7 h6;obtain⟨n1,n2⟩:=h6;have ne:∀{a b:Af},((a==b)==Ad)=Ab->a≠b:=λ{a b} z y=>by rw[y]at z;simp at z
 exact eA (f1:=λU=>evA Z U es) (f2:=λU=>evE Z U e2) (f3:=λU=>evE Z U e3) (fc:=λU=>(top U c (evE Z U c)).bind BS) (ne n1) (ne n2) (ne n3) v.own v.calm (vE v _ _ _ b3 b2) (λU ds z=>by rw[HP Z U _ _ z,<-Sr _ _ _ b3];omega) (E.e W T X _ e2 v c4).se (E.e W T X _ e3 v d4).se (E.b W T X _ c v h4)
  (hset a1.1 a1.2 rfl) (hset c1 c2 c3) (hset d1 d2 d3) (TR v hf.fn g5) (Hf v i5) (Hf v i7) (Lk rfl) rfl (by rw[hln];exact Cz _) rfl hg
theorem mV(Z_:SndS Z CL k n)(W:XW)(T:Tc)(X:Cx)(xs:Ac AM)(c:Ss)(v:VX Z CL k W T X)(hf:DefX X)(h:chkSs (n+1) T xs c=Ab):SSs X CL W xs (λU=>evSs Z U c):=by
  by_cases hb:Oa c=Ab
  · exact λFz B pI s Y H D I ⟨U,x,p⟩=>by
      dsimp only at p;rw[gN hb]at p;exact p.elim
  have hb:Oa c=Ad:=by simpa using hb
  cases c with
  |nil=>
    simp only[chkSs,hb,DW,List.isEmpty_iff]at h;subst h;exact TV
  |cons s ss=>
    by_cases hr:∃ i,s=.rel i
    · obtain⟨i,rfl⟩:=hr;simp only[chkSs,hb,DW]at h;exact gR i (Z_.ss W T X xs ss v hf h)
    by_cases hh:∃ i es p e r e' c j,s=.hand i es p e r e' c j
    · obtain⟨i,es,p,e,r,e',c,j,rfl⟩:=hh
      match xs,h with
      |s1::s2::s3::s4::s5::q,h=>
        replace h:((Qp n T i es p e r e' c j s1 s2 s3 s4 s5&&chkSs n T q ss)||false)=Ab:=h;rw[DW]at h;replace h:=A7 h;exact mT v hf h.1 (Z_.ss W T X q ss v hf h.2)
      |[],h=>exact noF h
      |[_],h=>exact noF h
      |[_,_],h=>exact noF h
      |[_,_,_],h=>exact noF h
      |[_,_,_,_],h=>exact noF h
    · cases xs with
      |nil=>cases s<;>first|(simp[chkSs,hb]at h;done)|exact absurd ⟨_,rfl⟩ hr|exact absurd ⟨_,_,_,_,_,_,_,_,rfl⟩ hh
      |cons st r=>
        have h':MK n T st s=Ab/\chkSs n T r ss=Ab:=by
          cases s<;>first|(simp only[chkSs,hb,DW,Ai]at h;exact h)|exact absurd ⟨_,rfl⟩ hr|exact absurd ⟨_,_,_,_,_,_,_,_,rfl⟩ hh
        exact OR (Z_.s W T X st s v hf h'.1) (Z_.ss W T X r ss v hf h'.2)
theorem QB:∀ n,SndS Z CL k n
 |0=>⟨λ_ _ _ _ _ _ _ h=>noF h,λ_ _ _ _ _ _ _ h=>noF h⟩
 |n+1=>⟨tB (QB n),mV (QB n)⟩
end
theorem La{n:Af}{ds:Ac D}{i:Af}{o:Al}(h:(Cd n ds)[i]?=Aa (Aa (d,o))):o=Ad/\ds[i]?=Aa d:=by
 unfold Cd at h;by_cases hi:i<ds.length
 .rw[Fm (by simpa using hi),Du]at h
  cases e:ds[i]? with
  |none=>rw[e]at h;cases h
  |some x=>rw[e]at h;cases h;exact⟨rfl,rfl⟩
 .rw[WZ (by simpa using Nat.le_of_not_lt hi),W6]at h
  split at h<;>cases h
theorem bE{N:Ac Ag}{vs:Ac V}{i:Af}{v:V}(h:vs[i]?=Aa v):(L2.start N vs)[i]?=Aa (Aa v):=by
 unfold L2.start;have hi:=(A2.mp h).1;rw[Fm (by simpa using hi),Du,h]
 rfl
theorem dU{N:Ac Ag}{n:Af}{vs:Ac V}{ds:Ac D}(hn:N.length=n)(hA:AOk H A)(r:Reps K CL H A vs ds):Sx K CL ⟨λb o=>H b=Aa o,λ_ _ _=>AX⟩ A (Cd n ds) (L2.start N vs) H:=by
 have own:∀ a,Bf A (Cd n ds) (L2.start N vs) a->A a:=λa h=>by
  rcases h with h|⟨j,d,h,_⟩
  .exact h
  .exact absurd (La h).1 (by decide)
 have hlen:(Cd n ds).length=(L2.start N vs).length:=by
  unfold Cd L2.start;simp only[Bj,AU,W8,r.length,hn]
 refine⟨⟨λi d h=>?_,λi d h _=>absurd (La h).1 (by decide),hlen⟩,λa h=>hA a (own a h),λj d a h _=>absurd (La h).1 (by decide),λi j d e a h _ _ _=>absurd (La h).1 (by decide),λb o h=>h,hlen,λj h=>absurd (La h).1 (by decide)⟩
 obtain⟨v,h1,h2⟩:=r.get (La h).2;exact⟨v,bE h1,Rep.sub own _ h2⟩
structure FunX (K:Fg) (x qual:Ag) (st:AM) (f:Ak) (fd:Bx):Prop where
 ex:∃(oc:Aj)(od:Ao Ak)(dV kV doc pm:Aj)(an:Ao Ak)(cdv ct:Aj)(osl:A9 (Ao Aj)),
  fd=C6 x qual (Jb st) (FZ st) (B2 st) dV kV doc pm an cdv ct/\K.lookup f=Aa ⟨oc,od,.func fd,osl⟩/\FL K cdv qual=Ab
 kp:Bm K (.ref f)=Ab
theorem VV{st:AM}{f:Ak}(F:Fun K x qual st f fd):FunX K x qual st f fd:=by
 obtain⟨oc,od,kV,doc,pm,an,cdv,ct,osl,e,lk,hcd⟩:=F.ex;exact⟨⟨oc,od,.none,kV,doc,pm,an,cdv,ct,osl,e,lk,hcd⟩,F.kp⟩
def Od(K:Fg)(mg:Ag->Ao Aj)(fns:Ac (Ag×Af×Af))(bl:Ac Ag)(rzs exs gls:Ac (Ag×Af))(Pg:Prg)(fuel:Af)(p:Ag×Af×Af):Prop:=∃ f fd ps qual st N,Jl K mg p.1=Aa (.ref f)/\(∃ x,FunX K x qual st f fd)/\DS K fd ps []/\ps.length=p.2.2%1000/\Js fuel (DH 1000 p.2.2) fns bl rzs exs gls ps N st (Pg.defs p.2.1)=Ab
noncomputable def Qf:AM->Ao (Am×Am×AF)
  | .Assign ts v p=>(match ts with
    |[t]=>Aa (t,v,p)
    | _=>Ae)
  |_=>Ae
theorem Tk{e:AM}{t:Am×Am×AF}(h:Qf e=Aa t):e=.Assign [t.1] t.2.1 t.2.2:=by
 cases e with
 |Assign ts v p=>
  cases ts with
  |nil=>exact nomatch (show Ae=Aa t from h)
  |cons a ts=>
   cases ts with
   |nil=>cases h;rfl
   |cons=>exact nomatch (show Ae=Aa t from h)
 |_=>exact nomatch (show Ae=Aa t from h)
noncomputable def Qe:Am->Ao (Am×Ag×AF)
 |.Attribute e x p=>Aa (e,x,p)
 |_=>Ae
theorem Tj{e:Am}{t:Am×Ag×AF}(h:Qe e=Aa t):e=.Attribute t.1 t.2.1 t.2.2:=by
 cases e with
 |Attribute e x p=>cases h;rfl
 |_=>exact nomatch (show Ae=Aa t from h)
noncomputable def Wv(n:Af)(T:Tc)(b:Ac AM):Ao D0:=(MB b).bind λs=>(Qf s.1).bind λt1=>(Qe t1.1).bind λa1=>(Hm a1.1).bind λs1=>(Hm t1.2.1).bind λq1=>(Qf s.2).bind λt2=>(Qe t2.1).bind λa2=>(Hm a2.1).bind λs2=>
 if (s1.1==("self" : Ag)&&(a1.2.1==("p" : Ag)&&(q1.1==("p" : Ag)&&(s2.1==("self" : Ag)&&(a2.2.1==("triple" : Ag)&&(G1 t2.2.1&&A4 n T t2.2.1 (.call 17 (.cons (.var 1) (.cons (.var 2) .nil)))))))))=Ab then Aa () else Ae
theorem jC{n:Af}{T:Tc}{b:Ac AM}(h:Wv n T b=Aa u):∃ p0 p1 p2 p3 p4 p5 p6 ev,b=[.Assign [.Attribute (.Name "self" p0) "p" p1] (.Name "p" p2) p6,.Assign [.Attribute (.Name "self" p3) "triple" p4] ev p5]/\G1 ev=Ab/\A4 n T ev (.call 17 (.cons (.var 1) (.cons (.var 2) .nil)))=Ab:=by
 obtain⟨s,e1,h⟩:=Ax.mp h;obtain⟨t1,e2,h⟩:=Ax.mp h;obtain⟨a1,e3,h⟩:=Ax.mp h;obtain⟨s1,e4,h⟩:=Ax.mp h;obtain⟨q1,e5,h⟩:=Ax.mp h;obtain⟨t2,e6,h⟩:=Ax.mp h;obtain⟨a2,e7,h⟩:=Ax.mp h;obtain⟨s2,e8,h⟩:=Ax.mp h;split at h
 .rename_i hc;simp only[Ai,AD]at hc;obtain⟨c1,c2,c3,c4,c5,c6,c7⟩:=hc;rw[Nd e1,Tk e2,Tj e3,Iq e4,Iq e5,Tk e6,Tj e7,Iq e8,c1,c2,c3,c4,c5];exact⟨_,_,_,_,_,_,_,_,rfl,c6,c7⟩
 .cases h
noncomputable def QW(fuel:Af)(fns:Ac (Ag×Af×Af))(bl:Ac Ag)(rzs exs gls:Ac (Ag×Af))(st:AM):Al:=
 (B2 st).kind==.function&&((B2 st).isCoroutine==Ad&&((B2 st).isGenerator==Ad&&((B2 st).names.lookup ("self" : Ag)==Aa .local&&((B2 st).names.lookup ("p" : Ag)==Aa .local&&((B2 st).names.lookup ("numbers" : Ag)==Aa .local&&(((B2 st).names.all λy=>y.2 != .free) &&
  (Wv fuel ⟨B2 st,["self", "p", "numbers"],fns,bl,rzs,exs,gls,Ab⟩ (FZ st)).isSome))))))
def InR(K:Fg)(fns:Ac (Ag×Af×Af))(bl:Ac Ag)(rzs exs gls:Ac (Ag×Af))(Pg:Prg)(fuel:Af):Prop:=(∀ c,c<3->Pg.defs (900+c)=mkC c)/\Pg.defs 910=inC/\∃ f fd x qual st,FunX K x qual st f fd/\DS K fd ["self", "p", "numbers"] []/\QW fuel fns bl rzs exs gls st=Ab/\∀ c,c<3->∃ C,OC K c=Aa C/\Mk K C f
structure Tab (K:Fg) (mg:Ag->Ao Aj) (CL:ClA) (fns:Ac (Ag×Af×Af)) (bl:Ac Ag) (rzs exs gls:Ac (Ag×Af)) (Pg:Prg) (fuel:Af):Prop where
 os:OS K mg
 ini:InR K fns bl rzs exs gls Pg fuel
 xt:XT Pg.up Pg.xn CL rzs exs K mg
 bln:∀ x,x∈bl->mg x=Ae
 gl:∀ p∈gls,Og K mg CL p.1 (Pg.G p.2)
 fn:∀ p∈fns,Od K mg fns bl rzs exs gls Pg fuel p
theorem qR(Pg:Prg)(n i:Af):(gam Pg n).fr i=(Pg.defs i).fr:=by cases n<;>rfl
theorem Vg(Pg:Prg)(n:Af):(gam Pg n).up=Pg.up:=by cases n<;>rfl
theorem VU(Pg:Prg)(n:Af):(gam Pg n).G=Pg.G:=by cases n<;>rfl
theorem UG(Pg:Prg)(n:Af):(gam Pg n).xn=Pg.xn:=by cases n<;>rfl
section
variable{P:AO}{w:A1}{K:Fg}{mg:Ag->Ao Aj}{base:AC}{CL:ClA}{fns:Ac (Ag×Af×Af)}{bl:Ac Ag}{rzs exs gls:Ac (Ag×Af)}{Pg:Prg}{fuel:Af}
def Lvl(P:AO)(w:A1)(K:Fg)(mg:Ag->Ao Aj)(base:AC)(CL:ClA)(Pg:Prg)(n:Af)(p:Ag×Af×Af):Prop:=∃ f fd ps,Jl K mg p.1=Aa (.ref f)/\Bm K (.ref f)=Ab/\DS K fd ps []/\ps.length=p.2.2%1000/\(p.2.2<1000->FnOk P w K mg base (CXR P w) n f fd ps (spD K CL (p.2.2%1000) ((gam Pg n).fr p.2.1) ((gam Pg n).F p.2.1)))/\(1000<=p.2.2->HotOk P w K mg base n f fd ps (spH K CL (p.2.2%1000) ((gam Pg n).fr p.2.1) ((gam Pg n).F p.2.1)))
theorem Vm(t:Tab K mg CL fns bl rzs exs gls Pg fuel){n:Af}(hlv:∀ q∈fns,Lvl P w K mg base CL Pg n q)(hmk:∀ c,c<3->MkR P w K mg base CL (gam Pg n).F n c){st:AM}{f:Ak}{ps N:Ac Ag}{m id:Af}(h2:FunX K x qual st f fd)(h4:ps.length=m)(h5:Js fuel Ad fns bl rzs exs gls ps N st (Pg.defs id)=Ab):FnOk P w K mg base (CXR P w) (n+1) f fd ps (spD K CL m ((gam Pg (n+1)).fr id) ((gam Pg (n+1)).F id)):=by
  unfold Js at h5;simp only[Ai,AD,Br,Bw,BL,Ht,LI]at h5;obtain⟨⟨⟨⟨⟨⟨⟨⟨c1,c2⟩,c3⟩,c4⟩,c5⟩,c6⟩,c7⟩,c8⟩,c9⟩:=h5;obtain⟨oc,od,dV,kV,doc,pm,an,cdv,ct,osl,rfl,lk,hcd⟩:=h2.ex;refine Qt (N:=N) lk hcd ⟨c1,c2,c3,L8 c4,c5,c6,c7⟩ (λvs H Q E ⟨ds,A,z,_⟩=>z.trans h4.symm) λA outer s H vs Q E hr ⟨ds,B,hl,hA,hreps,hpost⟩=>?_
  have xt:XT (gam Pg n).up (gam Pg n).xn CL rzs exs K mg:=by rw[Vg,UG];exact t.xt
  have gl:∀ p∈gls,Og K mg CL p.1 ((gam Pg n).G p.2):=by rw[VU];exact t.gl
  have key:∀ W:XW,(∀ x cls dx H',W x H'->EH K CL H' cls dx x->E cls dx H')->Bv K CL ⟨λb o=>H b=Aa o,λ_ _ _=>AX⟩ B W (evSs (gam Pg n) (Cd (Pg.defs id).n ds) (Pg.defs id).body) {nx:=λ_ H'=>Q .non H',rt:=Q} ->
      ∃ t,PSs (Fk (CXR P w) P w K mg base N qual (B2 st) f cdv A outer s H E) (FZ st) t/\t {nx:=λ_ H'=>Q .non H',rt:=Q} (start N vs) H:=λW hW hp=>by
    have v:VX (gam Pg n) CL n W ⟨B2 st,N,fns,bl,rzs,exs,gls,Ab⟩ (Fk (CXR P w) P w K mg base N qual (B2 st) f cdv A outer s H E):=⟨rfl,c1,rfl,L8 c4,rfl,hr,t.bln,t.os,hmk,hlv,ownR,VF hW,rzR hW,fzR hW,xt,gl,λ_=>rfl⟩
    exact⟨_,(QB fuel).ss W _ _ _ (Pg.defs id).body v ⟨λ_=>rfl,rfl,rfl,rfl⟩ c9 ⟨λb o=>H b=Aa o,λ_ _ _=>AX⟩ B,_,dU c8 hA hreps,hp⟩
  have no:∀ x cls dx H',W0 x H'->EH K CL H' cls dx x->E cls dx H':=λ_ _ _ _ z=>z.elim
  have e:(gam Pg (n+1)).F id ds=E7 Pg.xs ((evSs (gam Pg n) (Cd (Pg.defs id).n ds) (Pg.defs id).body).ans (Pg.defs id).fr):=rfl;rw[e,qR]at hpost;have cutO:∀ r:R D,(∀ x,r≠.exn x)->E7 Pg.xs r=r:=λr hr=>by
    cases Pg.xs<;>cases r<;>first|rfl|exact absurd rfl (hr _)
  cases eo:evSs (gam Pg n) (Cd (Pg.defs id).n ds) (Pg.defs id).body with
  |next U'=>
    refine key W0 no ?_;rw[eo]at hpost ⊢;cases ef:(Pg.defs id).fr with
    |true=>rw[ef]at hpost;rw[cutO _ (by intro x z;cases z)]at hpost;exact hpost.elim
    |false=>
      rw[ef]at hpost;rw[cutO _ (by intro x z;cases z)]at hpost
      exact λY' H' x'=>hpost .non H' (λb o z=>x'.same b o z) ⟨rfl,λz=>nomatch z⟩
  |ret d b=>
    refine key W0 no ?_;rw[eo]at hpost ⊢;intro v H' sm rp fr;have hp2:(match E7 Pg.xs (if ((Pg.defs id).fr&&(!b&&isL d))=Ab then R.bad else R.ok d) with
      |.ok d=>∀ v H',Ay H H'->DK K CL (Pg.defs id).fr H B H' v d->Q v H'
      |.exn x=>∀ cls dx H',Ay H H'->EH K CL H' cls dx x->E cls dx H'
      | .bad=>AX):=hpost
    cases ec:((Pg.defs id).fr&&(!b&&isL d)) with
    |true=>rw[ec,As rfl,cutO _ (by intro x z;cases z)]at hp2;exact hp2.elim
    |false=>
      rw[ec,AB (by decide),cutO _ (by intro x z;cases z)]at hp2
      refine hp2 v H' sm ⟨rp,λefr es hd=>?_⟩
      subst hd;have eb:b=Ab:=by
        cases b with
        |true=>rfl
        |false=>rw[efr]at ec;cases ec
      obtain⟨a,xs,h1,h2,h3,h4⟩:=fr eb es rfl;refine⟨a,xs,h1,?_,h3,h4⟩;cases ha:H a with
      |none=>rfl
      |some o=>exact absurd ha (h2 o)
  |brk U'=>rw[eo]at hpost;have hp2:(match E7 Pg.xs (R.bad:R D) with | .ok _=>_ | .exn _=>_ | .bad=>AX):=hpost;rw[cutO _ (by intro x z;cases z)]at hp2;exact hp2.elim
  |cont U'=>rw[eo]at hpost;have hp2:(match E7 Pg.xs (R.bad:R D) with | .ok _=>_ | .exn _=>_ | .bad=>AX):=hpost;rw[cutO _ (by intro x z;cases z)]at hp2;exact hp2.elim
  |bad=>rw[eo]at hpost;have hp2:(match E7 Pg.xs (R.bad:R D) with | .ok _=>_ | .exn _=>_ | .bad=>AX):=hpost;rw[cutO _ (by intro x z;cases z)]at hp2;exact hp2.elim
  |exn x U'=>
    rw[eo]at hpost;have hp2:(match E7 Pg.xs (R.exn x:R D) with
      |.ok d=>∀ v H',Ay H H'->DK K CL (Pg.defs id).fr H B H' v d->Q v H'
      |.exn x=>∀ cls dx H',Ay H H'->EH K CL H' cls dx x->E cls dx H'
      | .bad=>AX):=hpost
    cases ex:Pg.xs with
    |false=>rw[ex]at hp2;exact hp2.elim
    |true=>
      rw[ex]at hp2;have hp3:∀ cls dx H',Ay H H'->EH K CL H' cls dx x->E cls dx H':=hp2;refine key (λy H'=>y=x/\Ay H H') (λy cls dx H' ⟨e1,sm⟩ xr=>?_) ?_
      · subst e1;exact hp3 cls dx H' sm xr
      · rw[eo];exact λH' sm=>⟨rfl,sm⟩
theorem qM(t:Tab K mg CL fns bl rzs exs gls Pg fuel){n:Af}(hlv:∀ q∈fns,Lvl P w K mg base CL Pg n q)(hmk:∀ c,c<3->MkR P w K mg base CL (gam Pg n).F n c){st:AM}{f:Ak}{ps N:Ac Ag}{m id:Af}(h2:FunX K x qual st f fd)(h4:ps.length=m)(h5:Js fuel Ab fns bl rzs exs gls ps N st (Pg.defs id)=Ab):HotOk P w K mg base (n+1) f fd ps (spH K CL m ((gam Pg (n+1)).fr id) ((gam Pg (n+1)).F id)):=by
 exfalso
 unfold Js at h5;simp at h5
noncomputable def Gn(Pg:Prg)(n:Af):Ac D->R D
  | [d1,d2]=>(match (gam Pg n).F 17 [d1,d2] with
    |.ok t=>if nlD 5 t=Ab then .ok (.tup [d1,t]) else .bad
    |.exn y=>.exn y
    | .bad=>.bad)
  |_=>.bad
theorem mP(t:Tab K mg CL fns bl rzs exs gls Pg fuel){n:Af}(hlv:∀ q∈fns,Lvl P w K mg base CL Pg n q)(hmk:∀ c,c<3->MkR P w K mg base CL (gam Pg n).F n c){st:AM}{f:Ak}(h2:FunX K x qual st f fd)(h5:QW fuel fns bl rzs exs gls st=Ab):
    FnOk P w K mg base (CXR P w) (n+1) f fd ["self", "p", "numbers"] (spI K CL (Gn Pg n)):=by
  unfold QW at h5;simp only[Ai,AD,Bw,Ht,LI]at h5;obtain⟨c1,c2,c3,c4,c5,c6,c7,c8⟩:=h5;obtain⟨u,c8⟩:=B1.mp c8;obtain⟨p0,p1,p2,p3,p4,p5,p6,ev,eb,hnc,hck⟩:=jC c8;obtain⟨oc,od,dV,kV,doc,pm,an,cdv,ct,osl,rfl,lk,hcd⟩:=h2.ex;refine Qt (N:=["self", "p", "numbers"]) lk hcd ⟨c1,c2,c3,by decide,rfl,λy hy=>?_,c7⟩ (λvs H Q E ⟨x,C,dx,us,ds,A,H0,e,z,_⟩=>by rw[e,AI,z];rfl) λA outer s H vs Q E hr ⟨x,C,dx,us,ds,B,H0,e,hl,cl,np,nt,hx,h0,sm,hA,hreps,hpost⟩=>?_
  · rcases AA.mp hy with rfl|hy
    · exact .inl c4
    · rcases AA.mp hy with rfl|hy
      · exact .inl c5
      · rw[Bk.mp hy];exact .inl c6
  subst e;have xt:XT (gam Pg n).up (gam Pg n).xn CL rzs exs K mg:=by rw[Vg,UG];exact t.xt
  have gl:∀ p∈gls,Og K mg CL p.1 ((gam Pg n).G p.2):=by rw[VU];exact t.gl
  have vW:∀ W:XW,(∀ x cls dx H',W x H'->EH K CL H' cls dx x->E cls dx H')->VX (gam Pg n) CL n W ⟨B2 st,["self", "p", "numbers"],fns,bl,rzs,exs,gls,Ab⟩ (Fk (CXR P w) P w K mg base ["self", "p", "numbers"] qual (B2 st) f cdv A outer s H E):=λW no=>⟨rfl,c1,rfl,(show (["self", "p", "numbers"]:Ac Ag).Nodup by decide),rfl,hr,t.bln,t.os,hmk,hlv,ownR,VF no,rzR no,fzR no,xt,gl,λ_=>rfl⟩
  match us,hl with
  |[v1,v2],_=>
    match ds,hreps with
    |[],r=>exact r.elim
    |[_],r=>exact r.2.elim
    |_::_::_::_,r=>exact r.2.2.elim
    |[d1,d2],r=>
      suffices hcase:∃ W:XW,(∀ x cls dx H',W x H'->EH K CL H' cls dx x->E cls dx H')/\((∃ t,(gam Pg n).F 17 [d1,d2]=.ok t/\nlD 5 t=Ab/\∀ w1 w2 H',Ay H0 H'->H' x=Aa (.ins C dx [("p",w1),("triple",w2)])->Rep K CL H' B w1 d1->Rep K CL H' B w2 t->Q .non H')\/∃ y,(gam Pg n).F 17 [d1,d2]=.exn y/\∀ H',Ay H0 H'->W y H') by
        obtain⟨W,no,hcond⟩:=hcase;have sv:=((snd fuel).e W _ _ ev _ (vW W no) hck).se;obtain⟨tt,pss,rd⟩:=cP (H:=H) (H0:=H0) (x:=x) (C:=C) (dx:=dx) (v1:=v1) (v2:=v2) (d1:=d1) (d2:=d2) (A:=B) (Q:=Q) (Y:=L2.start ["self", "p", "numbers"] [.ref x,v1,v2]) (p0:=p0) (p1:=p1) (p2:=p2) (p3:=p3) (p4:=p4) (p5:=p5) (p6:=p6) (t0:=Fk (CXR P w) P w K mg base ["self", "p", "numbers"] qual (B2 st) f cdv A outer s H E)
          (λp=>Ll rfl (.inl c4)) (λp=>Ll rfl (.inl c5)) sv (Jc hnc)
        exact⟨tt,by rw[eb];exact pss,rd rfl cl np nt hx h0 sm hA r.1 r.2.1 hcond⟩
      have hp2:(match (match (gam Pg n).F 17 [d1,d2] with
          |.ok t=>if nlD 5 t=Ab then R.ok (D.tup [d1,t]) else .bad
          |.exn y=>.exn y
          | .bad=>.bad) with
        |.ok d=>∀ e1 e2,d=.tup [e1,e2]->∀ v1 v2 H',Ay H0 H'->H' x=Aa (.ins C dx [("p",v1),("triple",v2)])->Rep K CL H' B v1 e1->Rep K CL H' B v2 e2->Q .non H'
        |.exn y=>∀ cls dy H',Ay H0 H'->EH K CL H' cls dy y->E cls dy H'
        | .bad=>AX):=hpost
      cases e17:(gam Pg n).F 17 [d1,d2] with
      |bad=>rw[e17]at hp2;exact hp2.elim
      |exn y=>
        rw[e17]at hp2;exact⟨λy' H'=>y'=y/\Ay H0 H',λx' cls dy H' z xr=>(by obtain⟨rfl,sm'⟩:=z;exact hp2 cls dy H' sm' xr),.inr ⟨y,rfl,λH' sm'=>⟨rfl,sm'⟩⟩⟩
      |ok t0=>
        rw[e17]at hp2;dsimp only at hp2;by_cases hn:nlD 5 t0=Ab
        · rw[As hn]at hp2;exact⟨W0,λ_ _ _ _ z=>z.elim,.inl ⟨t0,rfl,hn,λw1 w2 H' a b c d=>hp2 _ _ rfl w1 w2 H' a b c d⟩⟩
        · rw[AB hn]at hp2;exact hp2.elim
theorem mkF:(mkC c).run Z [d1,d2]=(Z.F 910 [d1,d2]).bind (DA c):=by
 simp only[Df.run,mkC,Cd,Si,Uo];show (O.seq (O.of _ (((Z.F 910 [d1,d2]).bind λd=>.ok d).bind λx=>DA c x) λd=>O.ret d _) _).ans Ad=_
 have nx:∀ d y,DA c d≠.exn y:=λd y z=>by
  unfold DA at z;split at z
  .split at z<;>cases z
  .cases z
 cases Z.F 910 [d1,d2] with
 |bad=>rfl
 |exn y=>rfl
 |ok d=>
  show (O.seq (O.of _ (DA c d) λd=>O.ret d _) _).ans Ad=DA c d
  cases e:DA c d with
  |ok _=>rfl
  |bad=>rfl
  |exn y=>exact absurd e (nx d y)
theorem inF:inC.run Z [d1,d2]=(Z.F 17 [d1,d2]).bind λt=>.ok (.tup [d1,t]):=by
 simp[Df.run,inC,Cd];cases Z.F 17 [d1,d2]<;>rfl
theorem vF(t:Tab K mg CL fns bl rzs exs gls Pg fuel):∀ n,(∀ m,m<=n->∀ q∈fns,Lvl P w K mg base CL Pg m q)->∀ c,c<3->MkR P w K mg base CL (gam Pg n).F n c:=by
  intro n
  induction n using Nat.strongRecOn with
  |ind n ih=>
    intro hl c hc;obtain⟨i1,i2,f,fd,x,qual,st,h2,h3,h5,h6⟩:=t.ini
    match n,ih,hl with
    |0,_,_=>exact .inl λds=>rfl
    |1,_,_=>
      refine .inl λds=>?_
      have e:(gam Pg 1).F (900+c) ds=E7 Pg.xs ((Pg.defs (900+c)).run (gam Pg 0) ds):=rfl;rw[e,i1 c hc];have e2:(mkC c).run (gam Pg 0) ds=.bad:=by
        match ds with
        |[]=>rfl
        |[_]=>rfl
        |_::_::_=>rfl
      rw[e2];cases Pg.xs<;>rfl
    |m+2,ih,hl=>
      obtain⟨C,o1,M⟩:=h6 c hc;refine .inr ⟨C,f,fd,Gn Pg m,m+1,o1,M,h3,rfl,mP t (λq hq=>hl m (by omega) q hq) (ih m (by omega) λk hk=>hl k (by omega)) h2 h5,λds hd=>?_⟩
      match ds,hd with
      |[d1,d2],_=>
        have e:(gam Pg (m+2)).F (900+c) [d1,d2]=E7 Pg.xs ((Pg.defs (900+c)).run (gam Pg (m+1)) [d1,d2]):=rfl;have e0:(gam Pg (m+1)).F 910 [d1,d2]=E7 Pg.xs ((Pg.defs 910).run (gam Pg m) [d1,d2]):=rfl;rw[e,i1 c hc,mkF,e0,i2,inF];cases e17:(gam Pg m).F 17 [d1,d2] with
        |bad=>refine .inl ?_;cases Pg.xs<;>rfl
        |exn y=>
          have g:Gn Pg m [d1,d2]=.exn y:=by
            show (match (gam Pg m).F 17 [d1,d2] with
              |.ok t=>if nlD 5 t=Ab then .ok (.tup [d1,t]) else .bad
              |.exn y=>.exn y
              | .bad=>.bad:R D)=_
            rw[e17]
          cases ex:Pg.xs with
          |true=>refine .inr ?_;rw[g];rfl
          |false=>exact .inl rfl
        |ok t0=>
          by_cases hn:nlD 5 t0=Ab
          · refine .inr ?_;have g:Gn Pg m [d1,d2]=.ok (.tup [d1,t0]):=by
              show (match (gam Pg m).F 17 [d1,d2] with
                |.ok t=>if nlD 5 t=Ab then .ok (.tup [d1,t]) else .bad
                |.exn y=>.exn y
                | .bad=>.bad:R D)=_
              rw[e17];exact As hn
            rw[g];have:DA c (.tup [d1,t0])=.ok (.obj c [("p",d1),("triple",t0)]):=As hn;show E7 Pg.xs ((E7 Pg.xs (R.ok (D.tup [d1,t0]))).bind (DA c))=DA c (.tup [d1,t0]);cases Pg.xs with
            |true=>show DA c (.tup [d1,t0])=_;rfl
            |false=>show noX (DA c (.tup [d1,t0]))=_;rw[this];rfl
          · refine .inl ?_;have:DA c (.tup [d1,t0])=.bad:=AB hn;show E7 Pg.xs ((E7 Pg.xs (R.ok (D.tup [d1,t0]))).bind (DA c))=.bad;cases Pg.xs with
            |true=>show DA c (.tup [d1,t0])=_;exact this
            |false=>show noX (DA c (.tup [d1,t0]))=_;rw[this];rfl
theorem iN(t:Tab K mg CL fns bl rzs exs gls Pg fuel):∀ n m,m<=n->∀ p∈fns,Lvl P w K mg base CL Pg m p:=by
 have zero:∀ p∈fns,Lvl P w K mg base CL Pg 0 p:=λp hp=>by
  obtain⟨f,fd,ps,qual,st,N,h1,⟨x0,h2⟩,h3,h4,h5⟩:=t.fn p hp;exact⟨f,fd,ps,h1,h2.kp,h3,h4,λ_=>⟨λvs H Q E ⟨ds,A,_,_,_,z⟩=>z.elim,λA outer s H args us vs Q E _ _ _ _ ⟨ds,A,_,_,_,z⟩=>z.elim⟩,λ_=>⟨λvs H Q E ⟨ds,A,_,_,_,z⟩=>z.elim,λA ev outer s H args us vs Q E _ _ _ _ ⟨ds,A,_,_,_,z⟩=>z.elim⟩⟩
 intro n
 induction n with
 |zero=>intro m hm p hp;obtain rfl:=Nat.le_zero.mp hm;exact zero p hp
 |succ n ih=>
  intro m hm p hp;by_cases hmn:m<=n
  .exact ih m hmn p hp
  .have:m=n+1:=by omega
   subst this;have mk:=vF (P:=P) (w:=w) (base:=base) t n ih;obtain⟨f,fd,ps,qual,st,N,h1,⟨x0,h2⟩,h3,h4,h5⟩:=t.fn p hp;refine⟨f,fd,ps,h1,h2.kp,h3,h4,λhlt=>?_,λhge=>?_⟩
   .have eb:DH 1000 p.2.2=Ad:=by
     cases e:DH 1000 p.2.2 with
     |false=>rfl
     |true=>exact absurd (Cq e) (by omega)
    rw[eb]at h5;exact Vm t (λq hq=>ih n (AK _) q hq) mk h2 h4 h5
   .rw[Nat.ble_eq_true_of_le hge]at h5;exact qM t (λq hq=>ih n (AK _) q hq) mk h2 h4 h5
theorem nR(t:Tab K mg CL fns bl rzs exs gls Pg fuel)(n:Af):∀ p∈fns,Lvl P w K mg base CL Pg n p:=iN t n n (AK _)
theorem rS{s s':Ap}{e:Aj}(h:CXR P w [] H s (λ_ _ _=>AX) e s'):AX:=by
 obtain⟨_,_,_,_,_,_,_,_,_,_,_,_,_,_,_,z⟩:=h;exact z
noncomputable def Wb:AM->Ao (Am×AF)
 |.Expr e p=>Aa (e,p)
 |_=>Ae
theorem hZ{e:AM}{t:Am×AF}(h:Wb e=Aa t):e=.Expr t.1 t.2:=by
 cases e with
 |Expr x p=>cases h;rfl
 |_=>exact nomatch (show Ae=Aa t from h)
noncomputable def Wd:AM->Ao (Am×Am×AF)
  | .Assign ts v p=>(match ts with
    |[t]=>Aa (t,v,p)
    | _=>Ae)
  |_=>Ae
theorem iB{e:AM}{t:Am×Am×AF}(h:Wd e=Aa t):e=.Assign [t.1] t.2.1 t.2.2:=by
 cases e with
 |Assign ts v p=>
  cases ts with
  |nil=>exact nomatch (show Ae=Aa t from h)
  |cons a ts=>
   cases ts with
   |nil=>cases h;rfl
   |cons=>exact nomatch (show Ae=Aa t from h)
 |_=>exact nomatch (show Ae=Aa t from h)
noncomputable def QH:Am->Ao (Am×Ag×AF)
 |.Attribute e x p=>Aa (e,x,p)
 |_=>Ae
theorem TH{e:Am}{t:Am×Ag×AF}(h:QH e=Aa t):e=.Attribute t.1 t.2.1 t.2.2:=by
 cases e with
 |Attribute e x p=>cases h;rfl
 |_=>exact nomatch (show Ae=Aa t from h)
noncomputable def Wa:Am->Ao (Ac Am×AF)
 |.JoinedStr l p=>Aa (l,p)
 |_=>Ae
theorem hV{e:Am}{t:Ac Am×AF}(h:Wa e=Aa t):e=.JoinedStr t.1 t.2:=by
 cases e with
 |JoinedStr l p=>cases h;rfl
 |_=>exact nomatch (show Ae=Aa t from h)
noncomputable def QG:Am->Ao (Am×Ah×AF)
  | .FormattedValue e n f p=>(match f with
    |none=>Aa (e,n,p)
    | _=>Ae)
  |_=>Ae
theorem TF{e:Am}{t:Am×Ah×AF}(h:QG e=Aa t):e=.FormattedValue t.1 t.2.1 Ae t.2.2:=by
 cases e with
 |FormattedValue e n f p=>
  cases f with
  |none=>cases h;rfl
  |some=>exact nomatch (show Ae=Aa t from h)
 |_=>exact nomatch (show Ae=Aa t from h)
noncomputable def N2:Am->Ao (Ag×Af×AF)
  | .Constant c k p=>(match c with
    |.str z=>Aa (z,k,p)
    | _=>Ae)
  |_=>Ae
theorem Pt{e:Am}{t:Ag×Af×AF}(h:N2 e=Aa t):e=.Constant (.str t.1) t.2.1 t.2.2:=by
 cases e with
 |Constant c k p=>
  cases c with
  |str z=>cases h;rfl
  |_=>exact nomatch (show Ae=Aa t from h)
 |_=>exact nomatch (show Ae=Aa t from h)
noncomputable def V9{α:Type}:Ac α->Ao (α×α×α)
 |[a,b,c]=>Aa (a,b,c)
 |_=>Ae
theorem hU{l:Ac α}{t:α×α×α}(h:V9 l=Aa t):l=[t.1,t.2.1,t.2.2]:=by
  match l,h with
  |[a,b,c],h=>cases h;rfl
  |[],h=>cases h
  |[_],h=>cases h
  |[_,_],h=>cases h
  |_::_::_::_::_,h=>cases h
noncomputable def ZZ(par:Ag)(j:Ac Am):Ao D0:=(MB j).bind λfk=>(QG fk.1).bind λfm=>(Hm fm.1).bind λq1=>(N2 fk.2).bind λz=>if (q1.1==par&&(decide (fm.2.1=-1)&&DH z.1.length 1000))=Ab then Aa () else Ae
noncomputable def ZY(par:Ag)(j:Ac Am):Ao D0:=(V9 j).bind λfk=>(N2 fk.1).bind λy=>(QG fk.2.1).bind λfm=>(Hm fm.1).bind λq1=>(N2 fk.2.2).bind λz=>if (q1.1==par&&(decide (fm.2.1=-1)&&(DH y.1.length 400&&DH z.1.length 1000)))=Ab then Aa () else Ae
noncomputable def fsX(par:Ag)(e:Am):Ao D0:=(Wa e).bind λj=>if ((ZZ par j.1).isSome||(ZY par j.1).isSome)=Ab then Aa () else Ae
theorem qU{e:Am}(h:fsX par e=Aa u):FsOk par e:=by
 obtain⟨j,e1,h⟩:=Ax.mp h;rw[hV e1];split at h
 .rename_i hc;rcases orT hc with hc|hc
  .obtain⟨_,h⟩:=B1.mp hc;obtain⟨fk,e2,h⟩:=Ax.mp h;obtain⟨fm,e3,h⟩:=Ax.mp h;obtain⟨q1,e4,h⟩:=Ax.mp h;obtain⟨z,e5,h⟩:=Ax.mp h;split at h
   .rename_i hc;simp only[Ai,AD,Az]at hc;obtain⟨c1,c2,c3⟩:=hc;rw[Nd e2,TF e3,Iq e4,Pt e5,c1,c2];exact qT (Cq c3)
   .cases h
  .obtain⟨_,h⟩:=B1.mp hc;obtain⟨fk,e2,h⟩:=Ax.mp h;obtain⟨y,e6,h⟩:=Ax.mp h;obtain⟨fm,e3,h⟩:=Ax.mp h;obtain⟨q1,e4,h⟩:=Ax.mp h;obtain⟨z,e5,h⟩:=Ax.mp h;split at h
   .rename_i hc;simp only[Ai,AD,Az]at hc;obtain⟨c1,c2,c4,c3⟩:=hc;rw[hU e2,Pt e6,TF e3,Iq e4,Pt e5,c1,c2];exact eQ (Cq c4) (Cq c3)
   .cases h
 .cases h
noncomputable def Wh(g par f:Ag)(b:Ac AM):Ao D0:=(MB b).bind λs=>(Wb s.1).bind λc=>(Wc c.1).bind λcl=>(QH cl.1).bind λat1=>(Hm at1.1).bind λg1=>(MB cl.2.1).bind λab=>(Hm ab.1).bind λs1=>(fsX par ab.2).bind λ_=>(Wd s.2).bind λt=>(QH t.1).bind λat2=>(Hm at2.1).bind λs2=>(Hm t.2.1).bind λq2=>
 if (g1.1==g&&(at1.2.1==("__init__" : Ag)&&(s1.1==("self" : Ag)&&(s2.1==("self" : Ag)&&(at2.2.1==f&&(q2.1==par&&at1.2.2.endLine==cl.2.2.line))))))=Ab then Aa () else Ae
noncomputable def Wi(g par f:Ag)(b:Ac AM):Al:=(Wh g par f b).isSome
theorem mQ{g par f:Ag}{b:Ac AM}(h:Wi g par f b=Ab):∃ j np apos p1 cpos p6 p7 p8 p9 p10,b=QO g par f j np apos p1 cpos p6 p7 p8 p9 p10/\(apos.endLine==cpos.line)=Ab/\FsOk par j:=by
 obtain⟨_,h⟩:=B1.mp (show (Wh g par f b).isSome=Ab from h)
 obtain⟨s,e1,h⟩:=Ax.mp h;obtain⟨c,e2,h⟩:=Ax.mp h;obtain⟨cl,e3,h⟩:=Ax.mp h;obtain⟨at1,e4,h⟩:=Ax.mp h;obtain⟨g1,e5,h⟩:=Ax.mp h;obtain⟨ab,e6,h⟩:=Ax.mp h;obtain⟨s1,e7,h⟩:=Ax.mp h;obtain⟨_,e8,h⟩:=Ax.mp h;obtain⟨t,f4,h⟩:=Ax.mp h;obtain⟨at2,f5,h⟩:=Ax.mp h;obtain⟨s2,f6,h⟩:=Ax.mp h;obtain⟨q2,f7,h⟩:=Ax.mp h;split at h
 .rename_i hc;simp only[Ai,AD,Az]at hc;obtain⟨c1,c2,c3,c6,c7,c8,h1⟩:=hc;rw[Nd e1,hZ e2,iA e3,TH e4,Iq e5,Nd e6,Iq e7,iB f4,TH f5,Iq f6,Iq f7,c1,c2,c3,c6,c7,c8];exact⟨_,_,_,_,_,_,_,_,_,_,rfl,by rw[AD];exact h1,qU e8⟩
 .cases h
noncomputable def QN(g par f:Ag)(st:AM):Al:=
 (B2 st).kind==.function&&((B2 st).isCoroutine==Ad&&((B2 st).isGenerator==Ad&&(Lm ["self",par]&&((B2 st).names.lookup ("self" : Ag)==Aa .local&&((B2 st).names.lookup par==Aa .local&&(((B2 st).names.all λy=>y.2 != .free) &&
  ((B2 st).names.lookup g==Aa .globalImplicit&&(g != ("__debug__" : Ag)&&(par != ("__debug__" : Ag)&&(par != ("__classdict__" : Ag)&&Wi g par f (FZ st)))))))))))
def InI(K:Fg)(f:Ak)(qual:Ag)(st:AM):Prop:=∃ fd,Fun K "__init__" qual st f fd
theorem oA{fI:Ak}{g par f qual:Ag}{st:AM}(a:InI K fI qual st)(hk:QN g par f st=Ab)(hb:∀(u0 u1 kV doc pm:Aj)(an:Ao Ak)(cdv ct:Aj),IQ (C6 "__init__" qual (Jb st) (FZ st) (B2 st) .none kV doc pm an cdv ct) ⟨[u0,u1],[]⟩=pure ((["self",par]:Ac Ag).zip [u0,u1]))(xc:Dl K C (Aa (.ref fI))=Ab)(dc:Gj K C=Ab)(ty:Dh K (.ref fI)=Aa (.type "function"))(mo:mg g=Aa (.ref OV))(s1:Co K (.ref OV) "__getattribute__" = Aa (Aa (.builtin "type.__getattribute__")))(s2:Fq K OV (.type "type")=Ab)(s3:Fp K (.ref OV) (.type "type") "__init__" = Aa (.val (.builtin "ValueError.__init__")))(hf:Av K (.ref C) f=Aa Ae)(hs:Av K (.ref C) "__setattr__" = Aa (Aa (.builtin "object.__setattr__"))):XIn K mg C f:=by
 obtain⟨fd,fn⟩:=a;unfold QN at hk;simp only[Ai,AD,Bw,Ht,LI]at hk;obtain⟨c1,c2,c3,c4,c5,c6,c7,c8,c9,c10,c11,c12⟩:=hk;obtain⟨j,np,apos,p1,cpos,p6,p7,p8,p9,p10,eb,hl,hz⟩:=mQ c12;exact .mk xc dc fn ty ⟨c1,c2,c3,L8 c4,rfl,λx hx=>by
  rcases AA.mp hx with rfl|hx
  .exact .inl c5
  .rw[Bk.mp hx];exact .inl c6,c7⟩ c5 c6 (fn.binds λkV doc pm an cdv ct us hu=>match us,hu with | [u0,u1],_=>hb u0 u1 kV doc pm an cdv ct) eb c8 mo (by simpa using c9) (by simpa using c10) (by simpa using c11) s1 s2 s3 hl hz hf hs
theorem vH(h:∀ ds,xn c ds=.bad\/xn c ds=.ok ⟨c,[]⟩)(e:Dl K C Ae=Ab)(ds:Ac D):xn c ds=.bad\/(xn c ds=.ok ⟨c,[]⟩/\Dl K C Ae=Ab)\/∃ f,XIn K mg C f/\Ls xn c f ds:=(h ds).imp id λz=>.inl ⟨z,e⟩
theorem vG{f:Ag}(h:∀ ds,xn c ds=mkX c f ds)(x:XIn K mg C f)(ds:Ac D):xn c ds=.bad\/(xn c ds=.ok ⟨c,[]⟩/\Dl K C Ae=Ab)\/∃ f,XIn K mg C f/\Ls xn c f ds:=by
  have e:=h ds
  match ds,e with
  |[],e=>exact .inl e
  |_::_::_,e=>exact .inl e
  |[d],e=>
    have e':xn c [d]=if (xfD 1 d||xfD 2 d)=Ab then .ok ⟨c,[(f,d)]⟩ else .bad:=e
    by_cases z:(xfD 1 d||xfD 2 d)=Ab
    · rw[As z]at e';refine .inr (.inr ⟨f,x,d,?_⟩);rw[BL]at z;rcases z with z|z
      · exact⟨1,rfl,z,by decide,e'⟩
      · exact⟨2,rfl,z,by decide,e'⟩
    · rw[AB z]at e';exact .inl e'
theorem V3(dc:Gj K C=Ab)(h1:Av K (.ref C) "triple" = Aa Ae)(h2:Av K (.ref C) "points" = Aa Ae)(h3:Av K (.ref C) "row" = Aa Ae)(f:Ag)(h:(f==("triple" : Ag)||(f==("points" : Ag)||f==("row" : Ag)))=Ab):Gj K C=Ab/\Av K (.ref C) f=Aa Ae:=by
 rw[BL,BL]at h;rcases h with h|h|h
 .rw[eq_of_beq h];exact⟨dc,h1⟩
 .rw[eq_of_beq h];exact⟨dc,h2⟩
 .rw[eq_of_beq h];exact⟨dc,h3⟩
structure XA (K:Fg) (c:Ag) (x:Ak) (i:Ao Aj):Prop where
 n:Bu K A8 c=Aa (Aa (.ref x))
 y:Dl K x i=Ab
 dc:Gj K x=Ab
 ft:Av K (.ref x) "triple" = Aa Ae
 fp:Av K (.ref x) "points" = Aa Ae
 fr:Av K (.ref x) "row" = Aa Ae
 ok:XcOk K x
theorem xcls_l{x:Ak}(e:Jy K x [.type "ValueError",.type "Exception",.type "BaseException",.type "object"] "ValueError.__new__" = Ab):Dl K x Ae=Ab:=iU e
theorem xa_mk{c:Ag}{x:Ak}{i:Ao Aj}(n:Bu K A8 c=Aa (Aa (.ref x)))(e:Dl K x i=Ab)(dc:Gj K x=Ab)(ft:Av K (.ref x) "triple" = Aa Ae)(fp:Av K (.ref x) "points" = Aa Ae)(fr:Av K (.ref x) "row" = Aa Ae)(ga:Av K (.ref x) "__getattribute__" = Aa (Aa (.builtin "BaseException.__getattribute__")))(gt:Av K (.ref x) "__getattr__" = Aa Ae)(cl:Av K (.ref x) "__class__" = Aa (Aa (.builtin "object.__class__")))(ob:Cp K x (.type "object")=Aa Ab)(be:BD K (.ref x) (.type "BaseException")=Aa Ab)(sv:BD K (.ref x) (.type "ValueError")=Aa Ab):XA K c x i:=⟨n,e,dc,ft,fp,fr,tG e ga gt cl ob be sv⟩
structure XB (K:Fg) (c:Ag) (x i:Ak) (q:Ag) (st:AM):Prop where
 fi:Av K (.ref x) "__init__" = Aa (Aa (.ref i))
 a:XA K c x (Aa (.ref i))
 ii:InI K i q st
 ti:Dh K (.ref i)=Aa (.type "function")
 sn:Av K (.ref x) "__setattr__" = Aa (Aa (.builtin "object.__setattr__"))
structure XE (K:Fg) (c:Ag) (x:Ak):Prop where
 n:Bu K A8 c=Aa (Aa (.ref x))
 cs:Cp K x (.type "object")=Aa Ab
 ty:Dh K (.ref x)=Aa (.type "type")
structure XO (K:Fg) (x:Ak):Prop where
 sa:Co K (.ref x) "__getattribute__" = Aa (Aa (.builtin "type.__getattribute__"))
 sb:Fq K x (.type "type")=Ab
 sc:Fp K (.ref x) (.type "type") "__init__" = Aa (.val (.builtin "ValueError.__init__"))
def SuC(K:Fg)(C:Ak)(l:Ac (Ak×Al)):Prop:=∀ q∈l,BD K (.ref q.1) (.ref C)=Aa q.2
def KC(K:Fg)(C:Ak):Prop:=∀ x i v,Dl K x i=Ab->BD K (.ref x) (.ref C)=Aa v->B9 K (.ref x) (.ref C)=Aa v
theorem XA.kc{c:Ag}{x:Ak}{i:Ao Aj}(a:XA K c x i):KC K x:=λ_ _ _ y s=>mI y a.y s
theorem XE.kc{c:Ag}{x:Ak}(a:XE K c x):KC K x:=λ_ _ _ y s=>fJ y a.cs a.ty s
noncomputable def clL:Ac (Af×Ak)->Af->Ao Ak
 |[],_=>Ae
 |p::r,c=>if Nat.beq c p.1=Ab then Aa p.2 else clL r c
theorem Mp:∀{l:Ac (Af×Ak)},clL l c=Aa C->(c,C)∈l:=by
 intro l
 induction l with
 |nil=>intro q;cases q
 |cons p r ih=>
  intro q;obtain⟨n,x⟩:=p;by_cases e:Nat.beq c n=Ab
  .cases Nat.eq_of_beq_eq_true e;cases (show Aa x=Aa C from (As e).symm.trans q)
   exact AJ
  .exact Aw _ (ih ((AB e).symm.trans q))
structure XR (K:Fg) (mg:Ag->Ao Aj) (xn:Af->Ac D->R Ex) (p:Af×Ak):Prop where
 ok:XcOk K p.2
 nf:∀ f:Ag,(f==("triple" : Ag)||(f==("points" : Ag)||f==("row" : Ag)))=Ab->Gj K p.2=Ab/\Av K (.ref p.2) f=Aa Ae
 md:∀ ds,xn p.1 ds=.bad\/(xn p.1 ds=.ok ⟨p.1,[]⟩/\Dl K p.2 Ae=Ab)\/∃ f,XIn K mg p.2 f/\Ls xn p.1 f ds
theorem XA.row{c:Ag}{x:Ak}(a:XA K c x Ae)(h:∀ ds,xn k ds=.bad\/xn k ds=.ok ⟨k,[]⟩):XR K mg xn (k,x):=⟨a.ok,V3 a.dc a.ft a.fp a.fr,vH h a.y⟩
theorem XB.row{c q:Ag}{x i o:Ak}{st:AM}{g par f:Ag}(X:K.In h)(G:h.Ns A8 mg)(b:XB K c x i q st)(w:XO K o)(no:Bu K A8 g=Aa (Aa (.ref o)))(hf:f = "triple"\/f = "points")(hk:QN g par f st=Ab)(hb:∀(u0 u1 kV doc pm:Aj)(an:Ao Ak)(cdv ct:Aj),IQ (C6 "__init__" q (Jb st) (FZ st) (B2 st) .none kV doc pm an cdv ct) ⟨[u0,u1],[]⟩=pure ((["self",par]:Ac Ag).zip [u0,u1]))(hx:∀ ds,xn k ds=mkX k f ds):XR K mg xn (k,x):=
 ⟨b.a.ok,V3 b.a.dc b.a.ft b.a.fp b.a.fr,vG hx (oA b.ii hk hb b.a.y b.a.dc b.ti (C9 X G no) w.sa w.sb w.sc (by rcases hf with rfl|rfl;exact b.a.ft;exact b.a.fp) b.sn)⟩
theorem tF{l:Ac (Af×Ak)}{rzs exs:Ac (Ag×Af)}(r:∀ p∈l,XR K mg xn p)(rz:∀ p∈rzs,∃ C,clL l p.2=Aa C/\mg p.1=Aa (.ref C))(ex:∀ p∈exs,∃ C,mg p.1=Aa (.ref C)/\KC K C/\SuC K C (l.map λq=>(q.2,(up q.1).contains p.2)))(xb:∀ c,(∀ p∈rzs,p.2≠c)->∀ ds,xn c ds=.bad):XT up xn (clL l) rzs exs K mg:=by
 refine⟨λc C q=>(r _ (Mp q)).ok,rz,λp hp=>?_,λc C ds q=>(r _ (Mp q)).md ds,λc C q=>(r _ (Mp q)).nf,xb⟩
 obtain⟨C,e,kc,su⟩:=ex p hp;have s:∀ c D,clL l c=Aa D->BD K (.ref D) (.ref C)=Aa ((up c).contains p.2):=λc D q=>su _ (List.mem_map_of_mem (f:=λq:Af×Ak=>(q.2,(up q.1).contains p.2)) (Mp q))
 exact⟨C,e,λc D q=>let ⟨_,y⟩:=(r _ (Mp q)).ok.exc;kc _ _ _ y (s c D q),s⟩
def NF(K:Fg):Sp:=λvs H Q _=>∃(a:Ak)(ns:Ac Ah),vs=[.ref a]/\ns.length<=63/\SqL K H a (ns.map V.int)/\∀ v H',v=V.bl Ab->Q v H'
theorem law_fn{f:Ak}(G:FnOk P w K mg base CX k f fd ps (spD K CL 1 Ad F))(h:∀ ns:Ac Ah,F [.lst (ns.map .int)]=.ok (.bl Ab)):FnOk P w K mg base CX k f fd ps (NF K):=G.imp λvs H Q E ⟨a,ns,e,hl,hS,q⟩=>by
 subst e;have rs:∀ l:Ac Ah,Reps K CL H A0 (l.map V.int) (l.map D.int):=λl=>by
  induction l with
  |nil=>trivial
  |cons x l ih=>exact⟨rfl,ih⟩
 refine⟨[.lst (ns.map .int)],A0,rfl,λ_ z=>z.elim,⟨⟨a,_,rfl,.inl (λz=>z),hS,rs ns⟩,trivial⟩,?_⟩
 rw[h ns];exact λv H' _ r=>q v H' r.1
theorem all_nil{Q:α->Prop}:∀ x∈([]:Ac α),Q x:=λ_ h=>nomatch h
theorem all_cons{Q:α->Prop}{a:α}{l:Ac α}(h1:Q a)(h2:∀ x∈l,Q x):∀ x∈a::l,Q x:=List.forall_mem_cons.2 ⟨h1,h2⟩
def FnI(K:Fg)(f:Ak)(n:Ag)(st:AM):Prop:=∃ fd,Fun K n n st f fd/\Bu K A8 n=Aa (Aa (.ref f))
theorem fni{n:Ag}{st:AM}{f:Ak}{oc:Aj}{od an:Ao Ak}{osl:A9 (Ao Aj)}{kV doc pm cdv ct:Aj}(a:Bu K A8 n=Aa (Aa (.ref f)))(l:K.lookup f=Aa ⟨oc,od,.func (C6 n n (Jb st) (FZ st) (B2 st) .none kV doc pm an cdv ct),osl⟩)(c:FL K cdv n=Ab)(k:Bm K (.ref f)=Ab):FnI K f n st:=⟨_,qS l c k,a⟩
def Bd(n:Ag)(st:AM)(ps:Ac Ag)(us:Ac Aj):Prop:=∀(kV doc pm:Aj)(an:Ao Ak)(cdv ct:Aj),IQ (C6 n n (Jb st) (FZ st) (B2 st) .none kV doc pm an cdv ct) ⟨us,[]⟩=pure (ps.zip us)
theorem fE(h:mg x=v)(e:HX.lookup x=Ae):Jl K mg x=v:=by
 unfold Jl;rw[e];exact h
theorem UN{n:Ag}{f:Ak}{st:AM}{ps N:Ac Ag}(m id:Af)(hm:HX.lookup n=Ae)(X:K.In h)(G:h.Ns A8 mg)(A:FnI K f n st)(hl:ps.length=m%1000)(hc:Js fuel (DH 1000 m) fns bl rzs exs gls ps N st (Pg.defs id)=Ab)(hb:∀ us:Ac Aj,us.length=ps.length->Bd n st ps us):Od K mg fns bl rzs exs gls Pg fuel (n,id,m):=by
 obtain⟨fd,F,a⟩:=A;exact⟨_,_,_,_,_,_,fE (C9 X G a) hm,⟨_,VV F⟩,F.binds λkV doc pm an cdv ct us hu=>hb us hu kV doc pm an cdv ct,hl,hc⟩
theorem Wz{l:Ac α}(h:l.length=0):l=[]:=List.eq_nil_of_length_eq_zero h
theorem QQ{l:Ac α}{n:Af}(h:l.length=n+1):∃ a r,l=a::r/\r.length=n:=by
 cases l with
 |nil=>cases h
 |cons a r=>exact⟨a,r,rfl,Nat.succ.inj h⟩
theorem QK{n:Ag}{f:Ak}{st:AM}{N:Ac Ag}(m id:Af)(hm:HX.lookup n=Ae)(X:K.In h)(G:h.Ns A8 mg)(A:FnI K f n st)(hl:1=m%1000)(hc:Js fuel (DH 1000 m) fns bl rzs exs gls [x0] N st (Pg.defs id)=Ab)(hb:∀ u0,Bd n st [x0] [u0]):Od K mg fns bl rzs exs gls Pg fuel (n,id,m):=
 UN (ps:=[x0]) m id hm X G A hl hc λus hu=>by obtain⟨u0,v0,rfl,h0⟩:=QQ hu;obtain rfl:=Wz h0;exact hb u0
theorem Gm{n:Ag}{f:Ak}{st:AM}{N:Ac Ag}{x1:Ag}(m id:Af)(hm:HX.lookup n=Ae)(X:K.In h)(G:h.Ns A8 mg)(A:FnI K f n st)(hl:2=m%1000)(hc:Js fuel (DH 1000 m) fns bl rzs exs gls [x0,x1] N st (Pg.defs id)=Ab)(hb:∀ u0 u1,Bd n st [x0,x1] [u0,u1]):Od K mg fns bl rzs exs gls Pg fuel (n,id,m):=
 UN (ps:=[x0,x1]) m id hm X G A hl hc λus hu=>by obtain⟨u0,v0,rfl,h0⟩:=QQ hu;obtain⟨u1,v1,rfl,h1⟩:=QQ h0;obtain rfl:=Wz h1;exact hb u0 u1
end
end Ov
namespace OvC
open PySem Ov
variable{p l y m L:Ah}{xs:Ac Ah}{Z:Gam}{G Z_ X RW A:Ac D}{s2 s4 s5 s3:Sl}{c:Af}{t x:Ag}
noncomputable abbrev tr(a b c:Ah):D:=.tup [.int a,.int b,.int c]
noncomputable def det(a0 a1 a2 b0 b1 b2 c0 c1 c2:Ah):Ah:=a0*(b1*c2-b2*c1)-a1*(b0*c2-b2*c0)+a2*(b0*c1-b1*c0)
def Sm(x:Ah):Prop:=0<=x/\x<11
theorem mo{x:Ah}(h:Sm x)(y:Ah):FD x y=Ab:=Nj (by have:=h.1;omega) (by have:=h.2;omega)
theorem rng3:Dt 0 3=[.int 0,.int 1,.int 2]:=rfl
theorem Sm.of(h:P4 p)(x:Ah):Sm (x%p):=⟨C2 _ (by have:=h.pos;omega),by have:=CH x h.pos;have:=h.hi;omega⟩
theorem RC{body:D->Rho->O}(I:Rho->Prop)(g:Ah->Al):∀(L:Ac Ah),(∀ t∈L,∀ U,I U->(g t=Ab/\body (.int t) U=.ret (.int t) Ad)\/(g t=Ad/\∃ U',body (.int t) U=.next U'/\I U'))->∀ U,I U->(∃ t∈L,g t=Ab/\BH body (L.map D.int) U=.ret (.int t) Ad)\/((∀ t∈L,g t=Ad)/\∃ U',BH body (L.map D.int) U=.next U'/\I U')
 |[],_,U,i=>.inr ⟨(λ_ h=>nomatch h),U,rfl,i⟩
 |m::L,h,U,i=>by
  rcases h m (AJ ..) U i with ⟨e1,e2⟩|⟨e1,U',e2,i'⟩
  .refine .inl ⟨m,AJ ..,e1,?_⟩;show (body (.int m) U).turn _=_;rw[e2];rfl
  .rcases RC I g L (λm' h'=>h m' (Aw _ h')) U' i' with ⟨t,ht,a,b⟩|⟨a,r,b,c⟩
   .refine .inl ⟨t,Aw _ ht,a,?_⟩;show (body (.int m) U).turn _=_;rw[e2];exact b
   .refine .inr ⟨λt ht=>?_,r,?_,c⟩
    .rcases AA.mp ht with rfl|ht
     .exact e1
     .exact a t ht
    .show (body (.int m) U).turn _=_;rw[e2];exact b
noncomputable def K8:Ss:=(.cons (.ife (.cmp .Eq (.call 1 (.cons (.var 0) (.cons (.bin .Mult (.var 1) (.var 2)) .nil))) (.int 1)) (.cons (.ret (.var 2)) .nil) .nil) .nil)
noncomputable def MR:Df:=⟨3,Ad,(.cons (.fors 2 (.rng2 (.int 1) (.var 0)) K8) (.cons (.rais 2 (.cons (.str (AT "a number with the rest 0 is not turned over")) .nil)) .nil))⟩
noncomputable def GN(p:Ah):Ac Ah:=(Ba (p-1).toNat).map fun(k:Af)=>1+(k:Ah)
theorem Ld{t:Ah}:t∈GN p↔1<=t/\t<p:=by
 unfold GN;rw[List.mem_map];constructor
 .rintro⟨k,hk,rfl⟩;have:=DG.mp hk;omega
 .rintro⟨h1,h2⟩;exact⟨(t-1).toNat,DG.mpr (by omega),by omega⟩
theorem Tt(h:P4 p):Dk 1 p=.ok ((GN p).map D.int):=by
 rcases h with rfl|rfl|rfl|rfl<;>rfl
theorem mO:∀ p:Fin 12,(p.val=3\/p.val=5\/p.val=7\/p.val=11)->∀ r:Fin 12,r.val<p.val->r.val≠0->∃ t:Fin 12,1<=t.val/\t.val<p.val/\r.val*t.val%p.val=1:=by decide+kernel
theorem UA{p n:Ah}(h:P4 p)(hn:n%p≠0):∃ t,1<=t/\t<p/\n*t%p=1:=by
 have p0:0<p/\p<12:=by rcases h with rfl|rfl|rfl|rfl<;>decide
 obtain⟨q,rfl⟩:∃ q:Af,p=q:=⟨p.toNat,by omega⟩
 have h0:=C2 n (b:=(q:Ah)) (by omega)
 have h1:=CH n p0.1;obtain⟨r,hr⟩:∃ r:Af,n%(q:Ah)=r:=⟨(n%(q:Ah)).toNat,by omega⟩
 obtain⟨t,t1,t2,t3⟩:=mO ⟨q,by omega⟩ (by rcases h with e|e|e|e<;>simp<;>omega) ⟨r,by omega⟩ (by show r<q;omega) (by show r≠0;omega)
 refine⟨(t.val:Ah),by omega,by show (t.val:Ah)<q;exact Int.ofNat_lt.mpr t2,?_⟩
 have e:((r*t.val%q:Af):Ah)=1:=by rw[show r*t.val%q=1 from t3];rfl
 rw[<-e,Int.natCast_emod,Int.natCast_mul,<-hr];exact(DL n _ _).trans (by rw[DL (n%(q:Ah)) (t.val:Ah) (q:Ah),CP n (EK _)])
def IF(p n t:Ah):Prop:=1<=t/\t<p/\n*t%p=1
theorem Sc{p n t u:Ah}(h1:IF p n t)(h2:IF p n u):t=u:=by
 have hp:1<p:=by have:=h1.1;have:=h1.2.1;omega
 have e:t%p=u%p:=by
  have a:t%p=t*(n*u)%p:=by rw[DL,h2.2.2,WQ,CP _ (EK p)]
  have b:u%p=(n*t)*u%p:=by rw[DL (n*t) u p,h1.2.2,Ke,CP _ (EK p)]
  rw[a,b]
  congr 1
  rw[<-WP,Gu t n]
 rw[FS (by have:=h1.1;omega) h1.2.1,FS (by have:=h2.1;omega) h2.2.1]at e
 exact e
theorem U_0{c x:Ah}(hp:P4 p)(hc:c%p≠0)(hx:x%p≠0):c*x%p≠0:=λz=>by
 obtain⟨t,_,_,e⟩:=UA hp hc;refine hx ?_;have e1:x%p=(c*t)*x%p:=by rw[DL (c*t) x p,e,Ke,CP _ (EK p)]
 rw[e1,show c*t*x=t*(c*x) by rw[Gu c t,WP],DL,z,WR,WU]
noncomputable def Dm(p:Ah):Ac Ah->Ao Ah
 |[]=>Ae
 |x::xs=>if x%p=0 then Dm p xs else Aa (x%p)
theorem RP{p:Ah}:∀{xs:Ac Ah},Dm p xs=Ae↔∀ x∈xs,x%p=0
 |[]=>by simp[Dm]
 |x::xs=>by
  unfold Dm;by_cases h:x%p=0
  .rw[As h,RP (xs:=xs)];simp[h]
  .rw[AB h];simp[h]
theorem Ma{p l:Ah}(hp:0<p):∀{xs:Ac Ah},Dm p xs=Aa l->l%p≠0/\0<l/\l<p
 |[],h=>by cases h
 |x::xs,h=>by
  unfold Dm at h;by_cases hx:x%p=0
  .rw[As hx]at h;exact Ma hp h
  .rw[AB hx]at h;cases h;have h0:=C2 x (b:=p) (by omega)
   have h1:=CH x hp;exact⟨by rw[CP _ (EK p)];exact hx,by omega,h1⟩
theorem S5{p c:Ah}(hp:P4 p)(hc:c%p≠0){f:Ah->Ah}(hf:∀ x,f x%p=c*x%p):∀ xs:Ac Ah,Dm p (xs.map f)=(Dm p xs).map λl=>c*l%p
 |[]=>rfl
 |x::xs=>by
  rw[Bz];unfold Dm;rw[hf x];by_cases hx:x%p=0
  .rw[As hx,As (by rw[DL,hx,WR,WU]),S5 hp hc hf xs]
  .rw[AB hx,AB (U_0 hp hc hx),Option.map_some]
   congr 1
   rw[DL c (x%p),CP _ (EK p),<-DL]
noncomputable def ds(xs:Ac Ah):Ac D:=xs.map D.int
noncomputable def E6(b:Al)(xs:Ac Ah):D:=if b=Ab then .tup (ds xs) else .lst (ds xs)
theorem bX(b xs):FF (E6 b xs)=.ok (ds xs):=by unfold E6;cases b<;>rfl
theorem Mb{g:D->R Al}{f:D->R D}{φ:Ah->Ah}:∀(xs:Ac Ah),(∀ x∈xs,g (.int x)=.ok Ab/\f (.int x)=.ok (.int (φ x)))->BK g f (ds xs)=.ok (ds (xs.map φ))
 |[],_=>rfl
 |x::xs,h=>by
  obtain⟨h1,h2⟩:=h x (AJ ..);show (g (.int x)).bind _=_;rw[h1,R.bind_ok,As rfl,h2,R.bind_ok];show (BK g f (ds xs)).bind _=_;rw[Mb xs λy hy=>h y (Aw _ hy)]
  rfl
noncomputable def F0:E:=(.bl Ab)
noncomputable def Os:E:=(.call 1 (.cons (.var 0) (.cons (.var 5) .nil)))
noncomputable def Oq:E:=(.call 1 (.cons (.var 0) (.cons (.bin .Mult (.var 4) (.var 6)) .nil)))
noncomputable def HN:Ss:=(.cons (.ife (.cmp .NotEq (.var 3) (.int 0)) (.cons (.asg 4 Ad (.call 9 (.cons (.var 0) (.cons (.var 3) .nil)))) (.cons (.ret (.bi .tuple (.cons (.comp Oq 6 (.e (.var 2)) F0) .nil))) .nil)) .nil) .nil)
noncomputable def M0:Df:=⟨7,Ad,(.cons (.asg 2 Ad (.comp Os 5 (.e (.var 1)) F0)) (.cons (.fors 3 (.e (.var 2)) HN) (.cons (.rais 3 (.cons (.str (AT "all the numbers have the rest 0")) .nil)) .nil)))⟩
noncomputable def fmI(p t:Ah)(xs:Ac Ah):Ac Ah:=xs.map λx=>t*(x%p)%p
section
variable{Z:Gam}{p:Ah}{xs:Ac Ah}{b:Al}
end
noncomputable def Oo:E:=(.bin .Mod (.var 5) (.var 1))
noncomputable def Oj:E:=(.cmp .Gt (.var 6) (.int 0))
noncomputable def On:E:=(.var 6)
noncomputable def Oi:E:=(.cmp .Eq (.bin .Mod (.bin .Mult (.var 7) (.idx (.var 3) (.int 0))) (.var 1)) (.int 1))
noncomputable def Om:E:=(.var 7)
noncomputable def Ol:E:=(.bin .Mod (.bin .Mult (.var 8) (.var 4)) (.var 1))
noncomputable def LU:Df:=⟨9,Ad,(.cons (.asg 2 Ad (.comp Oo 5 (.e (.var 0)) F0)) (.cons (.asg 3 Ad (.comp On 6 (.e (.var 2)) Oj)) (.cons (.ife (.cmp .Eq (.bi .len (.cons (.var 3) .nil)) (.int 0)) (.cons (.ret .non) .nil) .nil) (.cons (.asg 4 Ad (.idx (.comp Om 7 (.rng2 (.int 1) (.var 1)) Oi) (.int 0))) (.cons (.ret (.bi .tuple (.cons (.comp Ol 8 (.e (.var 2)) F0) .nil))) .nil)))))⟩
theorem Ow{g:D->R Al}{f:D->R D}{q:Ah->Al}:∀(xs:Ac Ah),(∀ x∈xs,g (.int x)=.ok (q x)/\f (.int x)=.ok (.int x))->BK g f (ds xs)=.ok (ds (xs.filter q))
 |[],_=>rfl
 |x::xs,h=>by
  obtain⟨h1,h2⟩:=h x (AJ ..);have ih:=Ow xs λy hy=>h y (Aw _ hy)
  show (g (.int x)).bind _=_;rw[h1,R.bind_ok];cases hq:q x with
  |true=>
   rw[As rfl,h2,R.bind_ok,HB,hq,As rfl];show (BK g f (ds xs)).bind _=_;rw[ih];rfl
  |false=>
   rw[AB (by decide),HB,hq,AB (by decide)]
   exact ih
theorem Rj{p:Ah}(hp:0<p):∀(xs:Ac Ah),((xs.map λx=>x%p).filter λr=>decide (0<r)).head?=Dm p xs
 |[]=>rfl
 |x::xs=>by
  have h0:=C2 x (b:=p) (by omega)
  unfold Dm;rw[Bz,HB];by_cases h:x%p=0
  .rw[As h,AB (by simp[h]),Rj hp xs]
  .rw[AB h,As (by simp;omega)]
   rfl
theorem bS{t:Ah}(it:IF p l t):((GN p).filter λk=>decide (k*l%p=1)).head?=Aa t:=by
 have hm:t∈(GN p).filter λk=>decide (k*l%p=1):=Gw.mpr ⟨Ld.mpr ⟨it.1,it.2.1⟩,by simp[Gu t l,it.2.2]⟩
 cases e:(GN p).filter λk=>decide (k*l%p=1) with
 |nil=>rw[e]at hm;cases hm
 |cons u us=>
  have hu:u∈(GN p).filter λk=>decide (k*l%p=1):=by rw[e];exact AJ ..
  obtain⟨h1,h2⟩:=Gw.mp hu;obtain⟨a,b⟩:=Ld.mp h1;have h3:u*l%p=1:=by simpa using h2
  rw[Sc it ⟨a,b,by rw[Gu];exact h3⟩]
  rfl
theorem Sg(h:xs.head?=Aa l):CW (ds xs) 0=.ok (.int l):=by
 cases xs with
 |nil=>cases h
 |cons x xs=>cases h;exact Kt (by omega) rfl
noncomputable abbrev own(xs:Ac Ah):Sl:=Aa (.lst (ds xs),Ab)
section
variable{Z:Gam}{ns:Ac Ah}{a1 a2 a4 a6 a7 a8 a9 b0 b1 b2 b3 b4:Sl}{p:Ah}
end
section
variable{Z:Gam}{ns:Ac Ah}{a1 a4 a6 a7 a8 a9 b2 b3 b4:Sl}{p m:Ah}{xs:Ac Ah}
end
def Cg(p x y:Ah):Prop:=x%p=y%p
section
variable{p a b c d:Ah}
theorem Cg.of(h:a=b):Cg p a b:=by unfold Cg;rw[h]
end
theorem P4.m1(h:P4 p):(-1:Ah)%p≠0:=by rcases h with rfl|rfl|rfl|rfl<;>decide
theorem P4.o1(h:P4 p):(1:Ah)%p≠0:=by rcases h with rfl|rfl|rfl|rfl<;>decide
abbrev R3:=Ah×Ah×Ah
variable{a q:R3}
noncomputable def MD(a:R3):D:=.lst [.int a.1,.int a.2.1,.int a.2.2]
@[simp]theorem ZqG(a:R3)(U:Rho):Eb (Aa (MD a,Ab)::U) 0=.ok (MD a):=rfl
noncomputable def MJ(a b c:R3):Ah:=det a.1 a.2.1 a.2.2 b.1 b.2.1 b.2.2 c.1 c.2.1 c.2.2
def In3(p:Ah)(a:R3):Prop:=(0<=a.1/\a.1<p)/\(0<=a.2.1/\a.2.1<p)/\(0<=a.2.2/\a.2.2<p)
structure GoodR (p:Ah) (a b c:R3):Prop where
 p4:P4 p
 ia:In3 p a
 ib:In3 p b
 ic:In3 p c
 nz:MJ a b c%p≠0
theorem GoodR.of{k:Ah}{b c a' b' c':R3}(h:GoodR p a b c)(hk:k%p≠0)(e:Cg p (MJ a' b' c') (k*MJ a b c))(hin:In3 p a'/\In3 p b'/\In3 p c'):GoodR p a' b' c':=⟨h.p4,hin.1,hin.2.1,hin.2.2,by rw[show MJ a' b' c'%p=_ from e];exact U_0 h.p4 hk h.nz⟩
noncomputable abbrev ownR(a b c:R3):Sl:=Aa (.lst [MD a,MD b,MD c],Ab)
section
variable{Z:Gam}{ns:Ac Ah}{at_ many s5 s0 s1 s2:Sl}{p t m:Ah}{a b c:R3}
end
section
variable{Z:Gam}{ns:Ac Ah}{many s5 s6 s7 s8 s9 s0 s1 s2:Sl}{p:Ah}{a b c:R3}
end
def Bd(n:Af)(x:Ah):Prop:=x.natAbs<2 ^ n
def B3(a:R3):Prop:=Bd 300 a.1/\Bd 300 a.2.1/\Bd 300 a.2.2
noncomputable def Cu(q:Al)(a:R3):D:=E6 q [a.1,a.2.1,a.2.2]
section
variable{Z:Gam}{ns:Ac Ah}{p t:Ah}{a b c r:R3}{made s6 s7:Sl}
end
section
variable{Z:Gam}{ns:Ac Ah}{p m:Ah}{a b c:R3}{fa fb fc:R3}{q:Al}{s9 s0 s1 s2:Sl}
end
def O6(Z:Gam):Prop:=∀ p n:Ah,P4 p->n%p≠0->∃ t,1<=t/\t<p/\n*t%p=1/\Z.F 9 [.int p,.int n]=.ok (.int t)
def Ps(Z:Gam):Prop:=∀(p:Ah)(b:Al)(xs:Ac Ah)(l t:Ah),P4 p->Dm p xs=Aa l->IF p l t->Z.F 17 [.int p,E6 b xs]=.ok (.tup (ds (fmI p t xs)))
theorem cU(hr:Nq Z)(p n:Ah)(hp:P4 p)(z:n%p≠0):∃ t,1<=t/\t<p/\n*t%p=1/\MR.run Z [.int p,.int n]=.ok (.int t):=by
 have p0:=hp.pos;have ph:=hp.hi;have body:∀ t∈GN p,∀ U,(∃ s,U=[si p,si n,s])->(decide (n*t%p=1)=Ab/\BB Z 2 K8 (.int t) U=.ret (.int t) Ad)\/(decide (n*t%p=1)=Ad/\∃ U',BB Z 2 K8 (.int t) U=.next U'/\∃ s,U'=[si p,si n,s]):=by
  rintro t ht U ⟨s,rfl⟩;obtain⟨t1,t2⟩:=Ld.mp ht;have m:FD n t=Ab:=T8 (by omega) (by omega)
  by_cases e:n*t%p=1
  .exact .inl ⟨by simp[e],by simp[BB,K8,hr p (n*t) p0,m,e,B5]⟩
  .exact .inr ⟨by simp[e],_,by simp[BB,K8,hr p (n*t) p0,m,e];rfl,_,rfl⟩
 have run:∀ o,BH (BB Z 2 K8) ((GN p).map D.int) [si p,si n,Ae]=o->MR.run Z [.int p,.int n]=(Gi Z (.cons (.rais 2 (.cons (.str (AT "a number with the rest 0 is not turned over")) .nil)) .nil) o).ans Ad:=by
  rintro o rfl;simp[MR,Df.run,Cd,Tt hp]
 rcases RC (λU=>∃ s,U=[si p,si n,s]) (λt=>decide (n*t%p=1)) (GN p) body [si p,si n,Ae] ⟨_,rfl⟩ with ⟨t,ht,a,b⟩|⟨a,r,b,s,rfl⟩
 .obtain⟨t1,t2⟩:=Ld.mp ht;have a':n*t%p=1:=by simpa using a
  exact⟨t,t1,t2,a',by rw[run _ b];rfl⟩
 .obtain⟨t,t1,t2,e⟩:=UA hp z;have:=a t (Ld.mpr ⟨t1,t2⟩);simp[e]at this
section
variable{Z:Gam}{p:Ah}{xs:Ac Ah}{b:Al}
theorem SX(hr:Nq Z)(ht:O6 Z)(hp:P4 p)(rs:Ac Ah):∀(ys:Ac Ah),(∀ y∈ys,0<=y/\y<p)->∀ s3,(Dm p ys=Ae->∃ s3',BH (BB Z 3 HN) (ds ys) [si p,sh (E6 b xs),sh (.lst (ds rs)),s3,Ae,Ae,Ae]=.next [si p,sh (E6 b xs),sh (.lst (ds rs)),s3',Ae,Ae,Ae])/\(∀ l t,Dm p ys=Aa l->IF p l t->BH (BB Z 3 HN) (ds ys) [si p,sh (E6 b xs),sh (.lst (ds rs)),s3,Ae,Ae,Ae]=.ret (.tup (ds (rs.map λr=>t*r%p))) Ad)
 |[],_,s3=>⟨λ_=>⟨s3,rfl⟩,(λl t h=>nomatch h)⟩
 |y::ys,hy,s3=>by
  obtain⟨y0,y1⟩:=hy y (AJ ..);have ym:y%p=y:=FS y0 y1;have ih:=SX hr ht hp rs ys (λz hz=>hy z (Aw _ hz)) (si y)
  have step:∀ o,BB Z 3 HN (.int y) [si p,sh (E6 b xs),sh (.lst (ds rs)),s3,Ae,Ae,Ae]=o->BH (BB Z 3 HN) (ds (y::ys)) [si p,sh (E6 b xs),sh (.lst (ds rs)),s3,Ae,Ae,Ae]=o.turn (BH (BB Z 3 HN) (ds ys)):=by
   rintro o rfl;rfl
  unfold Dm;rw[ym];by_cases hz:y=0
  .have e:BB Z 3 HN (.int y) [si p,sh (E6 b xs),sh (.lst (ds rs)),s3,Ae,Ae,Ae]=.next [si p,sh (E6 b xs),sh (.lst (ds rs)),si y,Ae,Ae,Ae]:=by
    simp[BB,HN,hz]
   rw[As hz,step _ e];exact ih
  .rw[AB hz];refine⟨(λz=>nomatch z),λl t e it=>?_⟩
   cases e;obtain⟨u,u1,u2,u3,u4⟩:=ht p y hp (by rw[ym];exact hz)
   have:t=u:=Sc it ⟨u1,u2,u3⟩;subst this;have p0:=hp.pos;have ph:=hp.hi;have cp:BK (cG Z [si p,sh (E6 b xs),sh (.lst (ds rs)),si y,si t,Ae,Ae] 6 F0) (cF Z [si p,sh (E6 b xs),sh (.lst (ds rs)),si y,si t,Ae,Ae] 6 Oq) (ds rs)=.ok (ds (rs.map λr=>t*r%p)):=by
    refine Mb rs λr _=>⟨rfl,?_⟩
    have m:FD t r=Ab:=Nj (by omega) (by omega)
    simp[cF,Oq,m,hr p (t*r) p0]
   have e:BB Z 3 HN (.int y) [si p,sh (E6 b xs),sh (.lst (ds rs)),s3,Ae,Ae,Ae]=.ret (.tup (ds (rs.map λr=>t*r%p))) Ad:=by
    simp[BB,HN,hz,u4,cp,B5]
   rw[step _ e];rfl
theorem lA(hr:Nq Z)(ht:O6 Z)(hp:P4 p){t:Ah}(e:Dm p xs=Aa l)(it:IF p l t):M0.run Z [.int p,E6 b xs]=.ok (.tup (ds (fmI p t xs))):=by
 have p0:=hp.pos;have cp:BK (cG Z [si p,sh (E6 b xs),Ae,Ae,Ae,Ae,Ae] 5 F0) (cF Z [si p,sh (E6 b xs),Ae,Ae,Ae,Ae,Ae] 5 Os) (ds xs)=.ok (ds (xs.map λx=>x%p)):=by
  refine Mb xs λx _=>⟨rfl,?_⟩
  simp[cF,Os,hr p x p0]
 have run:∀ o,BH (BB Z 3 HN) (ds (xs.map λx=>x%p)) [si p,sh (E6 b xs),sh (.lst (ds (xs.map λx=>x%p))),Ae,Ae,Ae,Ae]=o->M0.run Z [.int p,E6 b xs]=(Gi Z (.cons (.rais 3 (.cons (.str (AT "all the numbers have the rest 0")) .nil)) .nil) o).ans Ad:=by
  rintro o rfl;simp[M0,Df.run,Cd,bX,cp]
 have le:Dm p (xs.map λx=>x%p)=Dm p xs:=by
  have:=S5 (c:=1) hp (by rcases hp with rfl|rfl|rfl|rfl<;>decide) (f:=λx=>x%p) (λx=>by rw[Ke,CP _ (EK p)]) xs
  rw[this];cases e:Dm p xs with
  |none=>rfl
  |some l=>
   obtain⟨_,l0,l1⟩:=Ma p0 e;simp[FS (Int.le_of_lt l0) l1]
 obtain⟨a,c⟩:=SX (b:=b) (xs:=xs) hr ht hp (xs.map λx=>x%p) (xs.map λx=>x%p) (λy hy=>by
  obtain⟨x,_,rfl⟩:=Fv.mp hy;exact⟨C2 _ (by omega),CH _ p0⟩) Ae
 rw[le]at a c;rw[run _ (c l t e it)];simp[fmI,Do,WO]
end
theorem Bd.mono{m n:Af}{x:Ah}(h:Bd m x)(hm:m<=n):Bd n x:=AQ h (Nat.pow_le_pow_right (by decide) hm)
def Bn(n:Af)(a:R3):Prop:=Bd n a.1/\Bd n a.2.1/\Bd n a.2.2
theorem Bn.b3{n:Af}(h:Bn n a)(hn:n<=300):B3 a:=⟨h.1.mono hn,h.2.1.mono hn,h.2.2.mono hn⟩
noncomputable def ZR(k:Ah)(a:R3):R3:=(k*a.1,k*a.2.1,k*a.2.2)
noncomputable def fk0(p:Ah)(a b c d:R3):Ah:=MJ d b c%p
noncomputable def fs0(p:Ah)(a b c d:R3):R3:=ZR (fk0 p a b c d) a
noncomputable def MO:E:=(.call 17 (.cons (.var 0) (.cons (.tup (.cons (.var 3) (.cons (.var 2) (.cons (.int 1) .nil)))) .nil)))
noncomputable def LP:Ss:=(.cons (.app 1 (.comp MO 3 (.rng (.var 0)) F0)) .nil)
noncomputable def MN:E:=(.tup (.cons (.int 1) (.cons (.var 4) (.cons (.int 0) .nil))))
noncomputable def MP:Df:=⟨5,Ad,(.cons (.asg 1 Ab (.lst .nil)) (.cons (.fors 2 (.rng3 (.bin .Sub (.var 0) (.int 1)) (.un .USub (.int 1)) (.un .USub (.int 1))) LP) (.cons (.app 1 (.bin .Add (.comp MN 4 (.rng (.var 0)) F0) (.lst (.cons (.tup (.cons (.int 0) (.cons (.int 1) (.cons (.int 0) .nil)))) .nil)))) (.cons (.ret (.var 1)) .nil))))⟩
noncomputable def Kn:Ss:=(.cons (.ife (.cmp .Eq (.var 3) (.str (AT "#"))) (.cons (.app 2 (.var 4)) .nil) (.cons (.ife (.cmp .NotEq (.var 3) (.str (AT "."))) (.cons (.rais 16 (.cons (.str (AT "a sign that is not drawn")) .nil)) .nil) .nil) .nil)) .nil)
noncomputable def LS:Df:=⟨5,Ab,(.cons (.ife (.cmp .NotEq (.bi .len (.cons (.var 0) .nil)) (.bi .len (.cons (.var 1) .nil))) (.cons (.rais 16 (.cons (.str (AT "a text of another length")) .nil)) .nil) .nil) (.cons (.asg 2 Ab (.lst .nil)) (.cons (.forT [3,4] (.zip (.var 0) (.var 1)) Kn) (.cons (.ret (.var 2)) .nil))))⟩
noncomputable def IX:Ss:=(.cons (.ext 3 (.call 312 (.cons (.var 4) (.cons (.var 5) .nil)))) .nil)
noncomputable def JV:Df:=⟨6,Ab,(.cons (.asg 2 Ad (.call 309 (.cons (.var 0) .nil))) (.cons (.ife (.cmp .NotEq (.bi .len (.cons (.var 1) .nil)) (.bi .len (.cons (.var 2) .nil))) (.cons (.rais 16 (.cons (.str (AT "texts too many or few")) .nil)) .nil) .nil) (.cons (.asg 3 Ab (.lst .nil)) (.cons (.forT [4,5] (.zip (.var 1) (.var 2)) IX) (.cons (.ret (.bi .sorted (.cons (.var 3) .nil))) .nil)))))⟩
noncomputable def hsh:Ag:=⟨#[35]⟩
noncomputable def dot:Ag:=⟨#[46]⟩
theorem Jh:AT "#" = hsh:=by kernel_rfl
theorem Qa:AT "." = dot:=by kernel_rfl
noncomputable def sg(c:Af):Ag:=⟨#[c]⟩
theorem Ql(c d:Af):(sg c==sg d)=decide (c=d):=by
 by_cases h:c=d
 .rw[Di h,h];simp
 .rw[By h];have:sg c≠sg d:=λe=>h (by
   have:=congrArg Str.cps e;simpa [sg] using this)
  simpa using this
theorem F3{n:Af}(h:n<=1000):BG n=Ab:=Nat.ble_eq.mpr (by omega)
noncomputable def rw3(l:Ac R3):Ac D:=l.map (Cu Ab)
noncomputable def C1:Ac Af->Ac R3->Ac R3
 |c::cs,a::as=>if c=35 then a::C1 cs as else C1 cs as
 |_,_=>[]
theorem Pz:∀(cs:Ac Af)(as:Ac R3),(C1 cs as).length<=as.length
 |[],as=>by simp[C1]
 |c::cs,[]=>by simp[C1]
 |c::cs,a::as=>by
  have:=Pz cs as;rw[C1];split
  .rw[AI,AI];omega
  .rw[AI];omega
noncomputable def okS(c:Af):Al:=decide (c=35)||decide (c=46)
noncomputable def exP:Ex:=⟨16,[]⟩
section
variable{Z:Gam}
theorem Pc(hx:∀ es,Z.xn 16 es=.ok exP)(X L:D):∀(cs:Ac Af)(as acc:Ac R3)(s3 s4:Sl),cs.length=as.length->acc.length+as.length<=900->(cs.all okS=Ab->∃ s3' s4',BH (F2 Z [3,4] Kn) (D6 (cs.map λc=>D.str (sg c)) (rw3 as)) [sh X,sh L,Aa (.lst (rw3 acc),Ab),s3,s4]=.next [sh X,sh L,Aa (.lst (rw3 (acc++C1 cs as)),Ab),s3',s4'])/\(cs.all okS=Ad->∃ U,BH (F2 Z [3,4] Kn) (D6 (cs.map λc=>D.str (sg c)) (rw3 as)) [sh X,sh L,Aa (.lst (rw3 acc),Ab),s3,s4]=.exn exP U)
 |[],[],acc,s3,s4,_,_=>⟨λ_=>⟨s3,s4,by simp[C1,rw3,D6,BH]⟩,λh=>by simp at h⟩
 |[],_::_,_,_,_,h,_=>by cases h
 |_::_,[],_,_,_,h,_=>by cases h
 |c::cs,a::as,acc,s3,s4,hl,hz=>by
  rw[AI,AI]at hl;rw[AI]at hz;have hl:cs.length=as.length:=by omega
  have e1:(sg c==hsh)=decide (c=35):=Ql c 35;have e2:(sg c==dot)=decide (c=46):=Ql c 46;have z:BG ((rw3 acc).length+1)=Ab:=F3 (by rw[rw3,AU];omega)
  have hz':D6 ((c::cs).map λc=>D.str (sg c)) (rw3 (a::as))=.tup [.str (sg c),Cu Ab a]::D6 (cs.map λc=>D.str (sg c)) (rw3 as):=rfl
  have hd:∀(b:D->Rho->O)(x:D)(xs:Ac D)(U:Rho),BH b (x::xs) U=(b x U).turn (BH b xs):=λ_ _ _ _=>rfl
  rw[hz',hd];have ha:rw3 acc++[Cu Ab a]=rw3 (acc++[a]):=by simp[rw3]
  have step:F2 Z [3,4] Kn (.tup [.str (sg c),Cu Ab a]) [sh X,sh L,Aa (.lst (rw3 acc),Ab),s3,s4]=if c=35 then .next [sh X,sh L,Aa (.lst (rw3 (acc++[a])),Ab),sh (.str (sg c)),sh (Cu Ab a)] else if c=46 then .next [sh X,sh L,Aa (.lst (rw3 acc),Ab),sh (.str (sg c)),sh (Cu Ab a)] else .exn exP [sh X,sh L,Aa (.lst (rw3 acc),Ab),sh (.str (sg c)),sh (Cu Ab a)]:=by
   rw[<-ha];generalize Cu Ab a=Q at *;generalize rw3 acc=Y_ at *;generalize sg c=S at *;by_cases c1:c=35
   .simp[F2,Kn,Jh,Qa,EF,e1,e2,c1,Ck,z]
   .by_cases c2:c=46
    .simp[F2,Kn,Jh,Qa,EF,e1,e2,c1,c2,Ck,z]
    .simp[F2,Kn,Jh,Qa,EF,e1,e2,c1,c2,Ck,z,hx]
  rw[step];by_cases c1:c=35
  .rw[As c1];have ih:=Pc hx X L cs as (acc++[a]) (sh (.str (sg c))) (sh (Cu Ab a)) hl (by rw[Bj];simp;omega)
   have es:acc++C1 (c::cs) (a::as)=acc++[a]++C1 cs as:=by rw[C1,As c1];simp
   rw[es];have eo:(c::cs).all okS=cs.all okS:=by simp[okS,c1]
   rw[eo];exact ih
  .rw[AB c1];have es:acc++C1 (c::cs) (a::as)=acc++C1 cs as:=by rw[C1,AB c1]
   rw[es];by_cases c2:c=46
   .rw[As c2];have ih:=Pc hx X L cs as acc (sh (.str (sg c))) (sh (Cu Ab a)) hl (by omega)
    have eo:(c::cs).all okS=cs.all okS:=by simp[okS,c2]
    rw[eo];exact ih
   .rw[AB c2];have eo:(c::cs).all okS=Ad:=by simp[okS,c1,c2]
    rw[eo];exact⟨λh=>by (cases h),λ_=>⟨_,rfl⟩⟩
noncomputable def Ge(x:Ag)(as:Ac R3):Al:=decide (x.cps.size=as.length)&&x.cps.toList.all okS
noncomputable def asc(x:Ag):Al:=x.cps.all (· < 128)
def Pr(Z:Gam):Prop:=∀(x:Ag)(as:Ac R3),asc x=Ab->x.length<=900->as.length<=900->Z.F 312 [.str x,.lst (rw3 as)]=if Ge x as=Ab then .ok (.lst (rw3 (C1 x.cps.toList as))) else .exn exP
theorem kX(hx:∀ es,Z.xn 16 es=.ok exP)(x:Ag)(as:Ac R3)(ha:asc x=Ab)(h1:x.length<=900)(h2:as.length<=900):LS.run Z [.str x,.lst (rw3 as)]=if Ge x as=Ab then .ok (.lst (rw3 (C1 x.cps.toList as))) else .exn exP:=by
 have ll:biD .len [.lst (rw3 as)]=.ok (.int as.length):=by rw[GJ,rw3,AU]
 have ls:biD .len [.str x]=.ok (.int x.cps.size):=by
  show (if BG x.length=Ab then R.ok (D.int x.length) else .bad)=_
  rw[As (F3 (by omega))]
  rfl
 have az:asZ (.str x)=.ok (x.cps.toList.map λc=>D.str (sg c)):=by
  show (if x.cps.all (· < 128)=Ab then R.ok (VM x) else .bad)=_
  rw[As (show x.cps.all (· < 128)=Ab from ha)]
  rfl
 by_cases hl:x.cps.size=as.length
 .obtain⟨l1,l2⟩:=Pc hx (.str x) (.lst (rw3 as)) x.cps.toList as [] Ae Ae (by simpa using hl) (by simp;omega)
  have en:rw3 []=([]:Ac D):=rfl;rw[en]at l1 l2;have eb:Ge x as=x.cps.toList.all okS:=by unfold Ge;rw[Di hl];simp
  rw[eb];have asq:FF (.lst (rw3 as))=.ok (rw3 as):=rfl;generalize rw3 as=L at *;generalize x.cps.toList.map (λc=>D.str (sg c))=S at *
  cases e:x.cps.toList.all okS with
  |true=>
   obtain⟨s3,s4,lo⟩:=l1 e;rw[Gy]at lo;generalize rw3 (C1 x.cps.toList as)=Z_ at *;simp[LS,Df.run,Cd,ll,ls,az,hl,lo,Jg,B5,Fl]
  |false=>
   obtain⟨U,lo⟩:=l2 e;simp[LS,Df.run,Cd,ll,ls,az,hl,lo,Jg,B5,Fl]
 .have eb:Ge x as=Ad:=by unfold Ge;rw[By hl];rfl
  rw[eb];have hl':¬ ((x.cps.size:Ah)=(as.length:Ah)):=by omega
  generalize rw3 as=L at *;simp[LS,Df.run,Cd,ll,ls,hl',hx]
end
noncomputable def FE(p l:Ah):Ah:=(((Ba p.toNat).map fun(k:Af)=>(k:Ah)).find? λt=>decide (l*t%p=1)).getD 0
theorem S9(hp:P4 p)(h0:0<l)(h1:l<p):IF p l (FE p l):=by
 obtain⟨n,rfl⟩:∃ n:Af,l=n:=⟨l.toNat,by omega⟩
 unfold IF;rcases hp with rfl|rfl|rfl|rfl
 .have:∀ n:Af,n<3->0<n->(1<=FE 3 n/\FE 3 n<3/\(n:Ah)*FE 3 n%3=1):=by decide+kernel
  exact this n (by omega) (by omega)
 .have:∀ n:Af,n<5->0<n->(1<=FE 5 n/\FE 5 n<5/\(n:Ah)*FE 5 n%5=1):=by decide+kernel
  exact this n (by omega) (by omega)
 .have:∀ n:Af,n<7->0<n->(1<=FE 7 n/\FE 7 n<7/\(n:Ah)*FE 7 n%7=1):=by decide+kernel
  exact this n (by omega) (by omega)
 .have:∀ n:Af,n<11->0<n->(1<=FE 11 n/\FE 11 n<11/\(n:Ah)*FE 11 n%11=1):=by decide+kernel
  exact this n (by omega) (by omega)
noncomputable def l3(q:R3):Ac Ah:=[q.1,q.2.1,q.2.2]
noncomputable def fq(p:Ah)(q:R3):R3:=match Dm p (l3 q) with
  |some l=>(FE p l*(q.1%p)%p,FE p l*(q.2.1%p)%p,FE p l*(q.2.2%p)%p)
  |none=>q
theorem VY(h:Dm p (l3 q)=Aa l):l3 (fq p q)=fmI p (FE p l) (l3 q):=by
 unfold fq;rw[h];rfl
theorem qV(hf:Ps Z)(hp:P4 p)(hl:∃ l,Dm p (l3 q)=Aa l)(b:Al):Z.F 17 [.int p,Cu b q]=.ok (Cu Ab (fq p q)):=by
 obtain⟨l,hl⟩:=hl;obtain⟨_,h0,h1⟩:=Ma hp.pos hl;have e:=hf p b (l3 q) l _ hp hl (S9 hp h0 h1);rw[<-VY hl]at e;exact e
noncomputable def aff(n y:Af):Ac R3:=(Ba n).map fun(x:Af)=>fq n ((x:Ah),(n:Ah)-1-(y:Ah),1)
noncomputable def Mw(n:Af):Ac R3:=((Ba n).map fun(m:Af)=>((1:Ah),(m:Ah),(0:Ah)))++[(0,1,0)]
noncomputable def cells(n:Af):Ac (Ac R3):=(Ba n).map (aff n)++[Mw n]
noncomputable def rws(l:Ac (Ac R3)):Ac D:=l.map λr=>D.lst (rw3 r)
theorem P4.n{n:Af}(hp:P4 n):n=3\/n=5\/n=7\/n=11:=by
 rcases hp with h|h|h|h<;>omega
theorem Pl{g:D->R Al}{f:D->R D}{φ:Af->R3}:∀ L:Ac Af,(∀ k∈L,g (.int (0+(k:Ah)))=.ok Ab/\f (.int (0+(k:Ah)))=.ok (Cu Ab (φ k)))->BK g f (L.map fun(k:Af)=>D.int (0+(k:Ah)))=.ok (rw3 (L.map φ))
 |[],_=>rfl
 |k::L,h=>by
  obtain⟨h1,h2⟩:=h k (AJ ..);have ih:=Pl L λm hm=>h m (Aw _ hm)
  show (g (.int (0+(k:Ah)))).bind _=_;rw[h1,R.bind_ok,As rfl,h2,R.bind_ok,show BK g f (List.map _ L)=_ from ih]
  rfl
theorem fF(lo:Ah)(n:Af):(KN lo n).length=n:=by simp[KN]
theorem fQ{lo:Ah}{n i:Af}{d:D}(h:(KN lo n)[i]?=Aa d):i<n/\d=.int (lo-i):=by
 unfold KN at h;rw[Du]at h;by_cases hi:i<n
 .rw[W5 hi]at h;exact⟨hi,(Be h).symm⟩
 .rw[W4 (by simp;omega)]at h
  cases h
theorem ZT{n:Af}(hn:n<=11):Me ((n:Ah)-1) (-1) (-1)=.ok (KN ((n:Ah)-1) n):=by
 have h:(-1:Ah)=-1/\(-(4611686018427387904:Ah)<=(n:Ah)-1/\(n:Ah)-1<4611686018427387904)/\(-(4611686018427387904:Ah)<=-1/\(-1:Ah)<4611686018427387904)/\(n:Ah)-1 - -1<1000000:=⟨rfl,⟨by omega,by omega⟩,⟨by omega,by omega⟩,by omega⟩
 have e:((n:Ah)-1 - -1).toNat=n:=by omega
 rw[Me,As h,e]
section
variable{Z:Gam}{n:Af}
def V7(Z:Gam):Prop:=∀ n:Af,P4 n->Z.F 309 [.int n]=.ok (.lst (rws (cells n)))
theorem fG{a b:Ah}(hp:P4 p):∃ l,Dm p [a,b,1]=Aa l:=by
 cases e:Dm p [a,b,1] with
 |some l=>exact⟨l,rfl⟩
 |none=>
  have:=RP.mp e 1 (by simp)
  rcases hp with rfl|rfl|rfl|rfl<;>cases this
theorem pK{L:Ac D}(rg:Dk 0 p=.ok G)(r:BK (cG Z [si p,Aa (.lst L,Ab),si y,Ae,Ae] 3 F0) (cF Z [si p,Aa (.lst L,Ab),si y,Ae,Ae] 3 MO) G=.ok Z_)(z:BG (L.length+1)=Ab):BB Z 2 LP (.int y) [si p,Aa (.lst L,Ab),s2,Ae,Ae]=.next [si p,Aa (.lst (L++[.lst Z_]),Ab),si y,Ae,Ae]:=by
 simp[BB,LP,rg,r,Ck,z]
theorem jP{Dn L:Ac D}(rg:Dk 0 p=.ok G)(rd:Me (p-1) (-1) (-1)=.ok Dn)(el:BH (BB Z 2 LP) Dn [si p,Aa (.lst [],Ab),Ae,Ae,Ae]=.next [si p,Aa (.lst L,Ab),s2,Ae,Ae])(c2:BK (cG Z [si p,Aa (.lst L,Ab),s2,Ae,Ae] 4 F0) (cF Z [si p,Aa (.lst L,Ab),s2,Ae,Ae] 4 MN) G=.ok Z_)(z1:BG (L.length+1)=Ab)(z2:BG (Z_.length+1)=Ab):MP.run Z [.int p]=.ok (.lst (L++[.lst (Z_++[.tup [.int 0,.int 1,.int 0]])])):=by
 simp[MP,Df.run,Cd,Jg,B5,rd,el,c2,rg,Ck,z1,z2]
theorem vM(hf:Ps Z)(n:Af)(hp:P4 n):MP.run Z [.int n]=.ok (.lst (rws (cells n))):=by
 have hn:n<=11:=by rcases hp.n with rfl|rfl|rfl|rfl<;>decide
 have rg:Dk 0 (n:Ah)=.ok (Dt 0 n):=by
  rw[L7 (by omega) (by omega)]
  simp
 have rd:=ZT hn;have row:∀(i:Af)(L:D)(U3:Sl),BK (cG Z [si n,Aa (L,Ab),si ((n:Ah)-1-i),Ae,Ae] 3 F0) (cF Z [si n,Aa (L,Ab),si ((n:Ah)-1-i),Ae,Ae] 3 MO) (Dt 0 n)=.ok (rw3 (aff n i)):=λi L _=>by
  refine Pl (Ba n) λk hk=>⟨rfl,?_⟩
  have e:=qV hf (q:=((k:Ah),(n:Ah)-1-(i:Ah),1)) hp (fG hp) Ab;have er:Cu Ab ((k:Ah),(n:Ah)-1-(i:Ah),1)=.tup [.int k,.int ((n:Ah)-1-(i:Ah)),.int 1]:=rfl;rw[er]at e;generalize Cu Ab (fq n _)=Y_ at *;simp[cF,MO,e]
 obtain⟨U',el,s2,eρ⟩:=MZ (body:=BB Z 2 LP) (λi U=>∃ s2,U=[si n,Aa (.lst (rws ((Ba i).map (aff n))),Ab),s2,Ae,Ae]) (KN ((n:Ah)-1) n) 0 [si n,Aa (.lst [],Ab),Ae,Ae,Ae] ⟨Ae,rfl⟩ λi x hx U hρ=>by
  obtain⟨s2,rfl⟩:=hρ;rw[EN];obtain⟨hi,rfl⟩:=fQ hx;have r:=row i (.lst (rws ((Ba i).map (aff n)))) Ae;have z:BG ((rws ((Ba i).map (aff n))).length+1)=Ab:=F3 (by simp[rws];omega)
  have ea:rws ((Ba (i+1)).map (aff n))=rws ((Ba i).map (aff n))++[.lst (rw3 (aff n i))]:=by simp[rws,List.range_succ]
  rw[ea];exact⟨_,pK rg r z,si ((n:Ah)-1-i),rfl⟩
 rw[fF,EN]at eρ;subst eρ;have c2:∀(L:D)(s:Sl),BK (cG Z [si n,Aa (L,Ab),s,Ae,Ae] 4 F0) (cF Z [si n,Aa (L,Ab),s,Ae,Ae] 4 MN) (Dt 0 n)=.ok (rw3 ((Ba n).map fun(m:Af)=>((1:Ah),(m:Ah),(0:Ah)))):=λL s=>by
  refine Pl (Ba n) λk hk=>⟨rfl,?_⟩
  have er:Cu Ab ((1:Ah),(k:Ah),(0:Ah))=.tup [.int 1,.int k,.int 0]:=rfl;rw[er];simp[cF,MN]
 have z1:BG ((rws ((Ba n).map (aff n))).length+1)=Ab:=F3 (by simp[rws];omega)
 have z2:BG ((rw3 ((Ba n).map fun(m:Af)=>((1:Ah),(m:Ah),(0:Ah)))).length+1)=Ab:=F3 (by simp[rw3];omega)
 have ec:rws (cells n)=rws ((Ba n).map (aff n))++[.lst (rw3 ((Ba n).map fun(m:Af)=>((1:Ah),(m:Ah),(0:Ah)))++[.tup [.int 0,.int 1,.int 0]])]:=by
  unfold cells Mw rws rw3;simp;rfl
 rw[ec];exact jP rg rd el (c2 _ _) z1 z2
end
noncomputable def GO:Ac Ag->Ac (Ac R3)->Ac R3
 |x::xs,r::rs=>C1 x.cps.toList r++GO xs rs
 |_,_=>[]
noncomputable def okA:Ac Ag->Ac (Ac R3)->Al
 |x::xs,r::rs=>Ge x r&&okA xs rs
 |_,_=>Ab
def Txs(xs:Ac Ag):Prop:=∀ x∈xs,asc x=Ab/\x.length<=900
section
variable{Z:Gam}
theorem RO(hr:Pr Z)(fr:Z.fr 312=Ab)(P X R0:D):∀(xs:Ac Ag)(rs:Ac (Ac R3))(acc:Ac R3)(s4 s5:Sl),Txs xs->(∀ r∈rs,r.length<=20)->acc.length+20*rs.length<=900->(okA xs rs=Ab->∃ s4' s5',BH (F2 Z [4,5] IX) (D6 (xs.map D.str) (rws rs)) [sh P,sh X,sh R0,Aa (.lst (rw3 acc),Ab),s4,s5]=.next [sh P,sh X,sh R0,Aa (.lst (rw3 (acc++GO xs rs)),Ab),s4',s5'])/\(okA xs rs=Ad->∃ U,BH (F2 Z [4,5] IX) (D6 (xs.map D.str) (rws rs)) [sh P,sh X,sh R0,Aa (.lst (rw3 acc),Ab),s4,s5]=.exn exP U)
 |[],rs,acc,s4,s5,_,_,_=>by
  have e:okA [] rs=Ab:=by cases rs<;>rfl
  have e2:GO [] rs=[]:=by cases rs<;>rfl
  have e3:D6 (([]:Ac Ag).map D.str) (rws rs)=[]:=by cases rs<;>rfl
  rw[e,e2,e3,Bg];exact⟨λ_=>⟨s4,s5,rfl⟩,λh=>by (cases h)⟩
 |x::xs,[],acc,s4,s5,_,_,_=>by
  have e2:GO (x::xs) []=[]:=rfl;rw[e2,Bg];exact⟨λ_=>⟨s4,s5,rfl⟩,λh=>by (cases h)⟩
 |x::xs,r::rs,acc,s4,s5,hx,hl,hz=>by
  obtain⟨h1,h2⟩:=hx x (by simp)
  have l1:=hl r (by simp)
  rw[AI]at hz;have e:=hr x r h1 h2 (by omega)
  have sl:=Pz x.cps.toList r;have hz':D6 ((x::xs).map D.str) (rws (r::rs))=.tup [.str x,.lst (rw3 r)]::D6 (xs.map D.str) (rws rs):=rfl;have hd:∀(b:D->Rho->O)(x:D)(xs:Ac D)(U:Rho),BH b (x::xs) U=(b x U).turn (BH b xs):=λ_ _ _ _=>rfl
  rw[hz',hd];by_cases ok:Ge x r=Ab
  .rw[As ok]at e;have z:BG ((rw3 acc).length+(rw3 (C1 x.cps.toList r)).length)=Ab:=F3 (by rw[rw3,rw3,AU,AU];omega)
   have step:F2 Z [4,5] IX (.tup [.str x,.lst (rw3 r)]) [sh P,sh X,sh R0,Aa (.lst (rw3 acc),Ab),s4,s5]=.next [sh P,sh X,sh R0,Aa (.lst (rw3 acc++rw3 (C1 x.cps.toList r)),Ab),sh (.str x),sh (.lst (rw3 r))]:=by
    generalize rw3 (C1 x.cps.toList r)=Q at *;generalize rw3 acc=Y_ at *;generalize rw3 r=Z_ at *;simp[F2,IX,EF,e,Ck,z,B5,fr,J7]
   rw[step];have ea:rw3 acc++rw3 (C1 x.cps.toList r)=rw3 (acc++C1 x.cps.toList r):=by simp[rw3]
   rw[ea];have ih:=RO hr fr P X R0 xs rs (acc++C1 x.cps.toList r) (sh (.str x)) (sh (.lst (rw3 r))) (λy hy=>hx y (by simp[hy])) (λy hy=>hl y (by simp[hy])) (by rw[Bj];omega)
   have es:acc++GO (x::xs) (r::rs)=acc++C1 x.cps.toList r++GO xs rs:=by rw[GO,FT]
   have eo:okA (x::xs) (r::rs)=okA xs rs:=by rw[okA,ok,E8]
   rw[es,eo];exact ih
  .have ok':Ge x r=Ad:=by simpa using ok
   rw[AB ok]at e;have step:F2 Z [4,5] IX (.tup [.str x,.lst (rw3 r)]) [sh P,sh X,sh R0,Aa (.lst (rw3 acc),Ab),s4,s5]=.exn exP [sh P,sh X,sh R0,Aa (.lst (rw3 acc),Ab),sh (.str x),sh (.lst (rw3 r))]:=by
    generalize rw3 acc=Y_ at *;generalize rw3 r=Z_ at *;simp[F2,IX,EF,e,Ck,B5,fr]
   rw[step];have eo:okA (x::xs) (r::rs)=Ad:=by rw[okA,ok',DE]
   rw[eo];exact⟨λh=>by (cases h),λ_=>⟨_,rfl⟩⟩
theorem kI(h9:Z.F 309 [.int p]=.ok (.lst RW))(hx:∀ es,Z.xn 16 es=.ok exP)(hl:¬ X.length=RW.length):JV.run Z [.int p,.lst X]=.exn exP:=by
 have hl':¬ ((X.length:Ah)=(RW.length:Ah)):=by omega
 simp[JV,Df.run,Cd,h9,hl',hx]
theorem kH{Y_:Ac D}(h9:Z.F 309 [.int p]=.ok (.lst RW))(hl:X.length=RW.length)(lo:BH (F2 Z [4,5] IX) (D6 X RW) [si p,sh (.lst X),sh (.lst RW),Aa (.lst [],Ab),Ae,Ae]=.next [si p,sh (.lst X),sh (.lst RW),Aa (.lst Y_,Ab),s4,s5])(so:GH Y_=.ok Z_)(cl:Z_.all (nlD 5)=Ab):JV.run Z [.int p,.lst X]=.ok (.lst Z_):=by
 have cl':Fl Ab (.lst Z_)=Ab:=by show (Ab&&Z_.all (nlD 5))=Ab;rw[cl];rfl
 simp[JV,Df.run,Cd,h9,hl,lo,so,Jg,B5,cl']
theorem kJ{U:Rho}(h9:Z.F 309 [.int p]=.ok (.lst RW))(hl:X.length=RW.length)(lo:BH (F2 Z [4,5] IX) (D6 X RW) [si p,sh (.lst X),sh (.lst RW),Aa (.lst [],Ab),Ae,Ae]=.exn exP U):JV.run Z [.int p,.lst X]=.exn exP:=by
 simp[JV,Df.run,Cd,h9,hl,lo,Jg,B5]
end
theorem OT:∀(cs:Ac Af)(as:Ac R3),(C1 cs as).Sublist as
 |[],as=>by cases as<;>exact Ga _
 |c::cs,[]=>Ga _
 |c::cs,a::as=>by
  rw[C1];split
  .exact(OT cs as).cons₂ a
  .exact(OT cs as).cons a
theorem To:∀(xs:Ac Ag)(rs:Ac (Ac R3)),(GO xs rs).Sublist rs.flatten
 |[],rs=>by cases rs<;>exact Ga _
 |x::xs,[]=>Ga _
 |x::xs,r::rs=>by
  rw[GO,List.flatten_cons];exact(OT _ r).append (To xs rs)
theorem Na{n:Af}(hp:P4 n):(cells n).flatten.Nodup/\(cells n).flatten.length<=200/\(cells n).length=n+1/\∀ r∈cells n,r.length<=20:=by
 rcases hp.n with rfl|rfl|rfl|rfl
 .decide+kernel
 .decide+kernel
 .decide+kernel
 .decide+kernel
noncomputable def V8(r:Ac Ah):R3:=(r.getD 0 0,r.getD 1 0,r.getD 2 0)
theorem nG{l:Ac R3}(nd:l.Nodup)(hl:l.length<=1000):∃ l',GH (rw3 l)=.ok (rw3 l'):=by
 have e:∀ l:Ac R3,rw3 l=(l.map l3).map tI:=λl=>by
  unfold rw3;rw[Do];exact El λa _=>rfl
 have inj:∀ a b:R3,l3 a=l3 b->a=b:=λa b h=>by
  obtain⟨a1,a2,a3⟩:=a;obtain⟨b1,b2,b3⟩:=b;simp[l3]at h;obtain⟨rfl,rfl,rfl⟩:=h;rfl
 have nd':(l.map l3).Nodup:=List.pairwise_map.mpr (nd.imp λh z=>h (inj _ _ z))
 refine⟨(GK (l.map l3)).map V8,?_⟩;rw[e,e];have h:=bJ (rs:=l.map l3) (ys:=GK (l.map l3)) (λr hr=>by
  obtain⟨a,_,rfl⟩:=Fv.mp hr;exact List.cons_ne_nil _ _) nd' (by rw[AU];exact hl) (Py nd') λr=>(L6 _).mem_iff
 have tb:((GK (l.map l3)).map V8).map l3=GK (l.map l3):=by
  rw[Do]
  conv=>rhs;rw[<-List.map_id (GK (l.map l3))]
  exact El λr hr=>by
   obtain⟨a,_,rfl⟩:=Fv.mp ((L6 _).mem_iff.mp hr);rfl
 rw[h,tb]
noncomputable def JZ(n:Af)(xs:Ac Ag):Ac R3:=open Classical in if h:∃ l',GH (rw3 (GO xs (cells n)))=.ok (rw3 l') then Hz h else []
theorem Tp{n:Af}(hp:P4 n)(xs:Ac Ag):GH (rw3 (GO xs (cells n)))=.ok (rw3 (JZ n xs)):=by
 obtain⟨c1,c2,_⟩:=Na hp;have sb:=To xs (cells n);have h:=nG (c1.sublist sb) (by have:=sb.length_le;omega)
 unfold JZ;rw[dif_pos h];exact Dd h
noncomputable def good(n:Af)(xs:Ac Ag):Al:=decide (xs.length=n+1)&&okA xs (cells n)
section
variable{Z:Gam}
def SJ(Z:Gam):Prop:=∀(n:Af)(xs:Ac Ag),P4 n->Txs xs->Z.F 313 [.int n,.lst (xs.map D.str)]=if good n xs=Ab then .ok (.lst (rw3 (JZ n xs))) else .exn exP
theorem rD(l:Ac R3):(rw3 l).all (nlD 5)=Ab:=by
 unfold rw3;rw[Fu];exact Bw.mpr λ_ _=>rfl
theorem dD(h9:V7 Z)(hr:Pr Z)(fr:Z.fr 312=Ab)(hx:∀ es,Z.xn 16 es=.ok exP)(n:Af)(xs:Ac Ag)(hp:P4 n)(ht:Txs xs):JV.run Z [.int n,.lst (xs.map D.str)]=if good n xs=Ab then .ok (.lst (rw3 (JZ n xs))) else .exn exP:=by
 obtain⟨c1,c2,c3,c4⟩:=Na hp;have rl:(rws (cells n)).length=n+1:=by unfold rws;rw[AU,c3]
 by_cases hl:xs.length=n+1
 .have hl':(xs.map D.str).length=(rws (cells n)).length:=by rw[AU,rl,hl]
  have eg:good n xs=okA xs (cells n):=by unfold good;rw[Di hl,E8]
  have n11:n<=11:=by rcases hp.n with rfl|rfl|rfl|rfl<;>decide
  obtain⟨l1,l2⟩:=RO hr fr (.int n) (.lst (xs.map D.str)) (.lst (rws (cells n))) xs (cells n) [] Ae Ae ht c4 (by rw[c3];simp;omega)
  rw[eg];cases e:okA xs (cells n) with
  |true=>
   obtain⟨s4,s5,lo⟩:=l1 e;rw[Gy]at lo;rw[As rfl];exact kH (h9 n hp) hl' lo (Tp hp xs) (rD _)
  |false=>
   obtain⟨U,lo⟩:=l2 e;exact kJ (h9 n hp) hl' lo
 .have eg:good n xs=Ad:=by unfold good;rw[By hl,DE]
  rw[eg];exact kI (h9 n hp) hx (by rw[AU,rl];exact hl)
end
noncomputable def FC:Ss:=(.cons (.ife (.cmp .NotIn (.idx (.idx (.var 0) (.var 3)) (.var 4)) (.str (AT "#."))) (.cons (.ret .non) .nil) .nil) (.cons (.asg 5 Ad (.tup (.cons (.var 4) (.cons (.bin .Sub (.bin .Sub (.var 1) (.int 1)) (.var 3)) (.cons (.int 1) .nil))))) (.cons (.ife (.cmp .Eq (.var 3) (.var 1)) (.cons (.asg 5 Ad (.idx (.lst (.cons (.tup (.cons (.int 1) (.cons (.var 4) (.cons (.int 0) .nil)))) (.cons (.tup (.cons (.int 0) (.cons (.int 1) (.cons (.int 0) .nil)))) .nil))) (.bi .int (.cons (.cmp .Eq (.var 4) (.var 1)) .nil)))) .nil) .nil) (.cons (.ife (.cmp .Eq (.idx (.idx (.var 0) (.var 3)) (.var 4)) (.str (AT "#"))) (.cons (.app 2 (.call 44 (.cons (.var 5) (.cons (.var 1) .nil)))) .nil) .nil) .nil))))
noncomputable def GI:Ss:=(.cons (.ife (.cmp .NotEq (.bi .len (.cons (.idx (.var 0) (.var 3)) .nil)) (.bin .Add (.var 1) (.bi .int (.cons (.cmp .Eq (.var 3) (.var 1)) .nil)))) (.cons (.ret .non) .nil) .nil) (.cons (.fors 4 (.rng (.bi .len (.cons (.idx (.var 0) (.var 3)) .nil))) FC) .nil))
noncomputable def Ip:Df:=⟨6,Ad,(.cons (.ife (.or (.cons (.cmp .NotEq (.bi .len (.cons (.var 0) .nil)) (.bin .Add (.var 1) (.int 1))) (.cons (.cmp .NotEq (.bi .len (.cons (.idx (.var 0) (.var 1)) .nil)) (.bin .Add (.var 1) (.int 1))) .nil))) (.cons (.ret .non) .nil) .nil) (.cons (.asg 2 Ab (.lst .nil)) (.cons (.fors 3 (.rng (.bin .Add (.var 1) (.int 1))) GI) (.cons (.ret (.bi .sorted (.cons (.var 2) .nil))) .nil))))⟩
theorem dE(Z:Gam)(hp:P4 p):(Dm p xs=Ae->LU.run Z [.tup (ds xs),.int p]=.ok .non)/\(∀ l t,Dm p xs=Aa l->IF p l t->LU.run Z [.tup (ds xs),.int p]=.ok (.tup (ds (fmI p t xs)))):=by
 have p0:=hp.pos;have ph:=hp.hi;have c1:BK (cG Z [sh (.tup (ds xs)),si p,Ae,Ae,Ae,Ae,Ae,Ae,Ae] 5 F0) (cF Z [sh (.tup (ds xs)),si p,Ae,Ae,Ae,Ae,Ae,Ae,Ae] 5 Oo) (ds xs)=.ok (ds (xs.map λx=>x%p)):=by
  refine Mb xs λx _=>⟨rfl,?_⟩
  simp[cF,Oo,p0]
 generalize hR:(xs.map λx=>x%p)=rs at c1
 have c2:BK (cG Z [sh (.tup (ds xs)),si p,sh (.lst (ds rs)),Ae,Ae,Ae,Ae,Ae,Ae] 6 Oj) (cF Z [sh (.tup (ds xs)),si p,sh (.lst (ds rs)),Ae,Ae,Ae,Ae,Ae,Ae] 6 On) (ds rs)=.ok (ds (rs.filter λr=>decide (0<r))):=by
  refine Ow rs λx _=>⟨?_,?_⟩
  .simp[cG,Oj]
  .simp[cF,On]
 have hl:=Rj p0 xs;rw[hR]at hl;generalize hL:(rs.filter λr=>decide (0<r))=ls at c2 hl
 have dl:(ds ls).length=ls.length:=AU ..;refine⟨λz=>?_,λl t e it=>?_⟩
 .rw[z]at hl;have:ls=[]:=List.head?_eq_none_iff.mp hl;subst this;simp[LU,Df.run,Cd,c1,c2,dl]
 .rw[e]at hl;have hne:ls≠[]:=by rintro rfl;cases hl
  have hlen:(ls.length:Ah)≠0:=by have:=W7.mpr hne;omega
  have g0:=Sg hl;obtain⟨_,l0,l1⟩:=Ma p0 e;have c3:BK (cG Z [sh (.tup (ds xs)),si p,sh (.lst (ds rs)),sh (.lst (ds ls)),Ae,Ae,Ae,Ae,Ae] 7 Oi) (cF Z [sh (.tup (ds xs)),si p,sh (.lst (ds rs)),sh (.lst (ds ls)),Ae,Ae,Ae,Ae,Ae] 7 Om) (ds (GN p))=.ok (ds ((GN p).filter λk=>decide (k*l%p=1))):=by
   refine Ow (GN p) λx hx=>⟨?_,?_⟩
   .obtain⟨x1,x2⟩:=Ld.mp hx;have m:FD x l=Ab:=Nj (by omega) (by omega)
    simp[cG,Oi,g0,m,p0];rw[Ia];simp
   .simp[cF,Om]
  have g1:=Sg (bS it);have c4:BK (cG Z [sh (.tup (ds xs)),si p,sh (.lst (ds rs)),sh (.lst (ds ls)),si t,Ae,Ae,Ae,Ae] 8 F0) (cF Z [sh (.tup (ds xs)),si p,sh (.lst (ds rs)),sh (.lst (ds ls)),si t,Ae,Ae,Ae,Ae] 8 Ol) (ds rs)=.ok (ds (rs.map λr=>t*r%p)):=by
   refine Mb rs λx _=>⟨rfl,?_⟩
   have m:FD x t=Ab:=T8 (by have:=it.1;omega) (by have:=it.2.1;omega)
   simp[cF,Ol,m,p0,Gu]
  have ru:Dk 1 p=.ok (ds (GN p)):=Tt hp;have fe:fmI p t xs=rs.map λr=>t*r%p:=by rw[<-hR];simp[fmI,Do,WO]
  simp[LU,Df.run,Cd,c1,c2,dl,hlen,hne,ru,c3,g1,c4,fe]
def NY(Z:Gam):Prop:=∀(p:Ah)(xs:Ac Ah)(l t:Ah),P4 p->Dm p xs=Aa l->IF p l t->Z.F 44 [.tup (ds xs),.int p]=.ok (.tup (ds (fmI p t xs)))
section
variable{Z:Gam}
theorem qF(hf:NY Z)(hp:P4 p)(hl:∃ l,Dm p (l3 q)=Aa l):Z.F 44 [Cu Ab q,.int p]=.ok (Cu Ab (fq p q)):=by
 obtain⟨l,hl⟩:=hl;obtain⟨_,h0,h1⟩:=Ma hp.pos hl;have e:=hf p (l3 q) l _ hp hl (S9 hp h0 h1);rw[<-VY hl]at e;exact e
noncomputable def Lz(n y x:Af):R3:=if y=n then (if x=n then (0,1,0) else (1,(x:Ah),0)) else ((x:Ah),(n:Ah)-1-(y:Ah),1)
theorem gZ{n y x:Af}(hp:P4 n)(hy:y<=n)(hx:x<n+(if y=n then 1 else 0)):(∃ l,Dm n (l3 (Lz n y x))=Aa l)/\((cells n).getD y []).getD x (0,0,0)=fq n (Lz n y x):=by
 have key:∀ n:Af,(n=3\/n=5\/n=7\/n=11)->∀ y,y<n+1->∀ x,x<n+(if y=n then 1 else 0)->((Dm n (l3 (Lz n y x))).isSome=Ab/\((cells n).getD y []).getD x (0,0,0)=fq n (Lz n y x)):=by
  intro n hn;rcases hn with rfl|rfl|rfl|rfl<;>decide+kernel
 obtain⟨k1,k2⟩:=key n hp.n y (by omega) x hx
 exact⟨B1.mp k1,k2⟩
end
noncomputable def hd2:Ag:=⟨#[35,46]⟩
theorem hd_is:AT "#." = hd2:=by kernel_rfl
theorem vC(h:c<128):BU .NotIn (.str (sg c)) (.str hd2)=.ok (.bl (!okS c)):=by
 show R.ok (D.bl (!(!(Ch hd2 (sg c) 0 hd2.length 1).isEmpty)))=_;have:∀ c,c<128->(!(!(Ch hd2 (sg c) 0 hd2.length 1).isEmpty))=!okS c:=by decide+kernel
 rw[this c h]
section
variable{Z:Gam}
theorem qH{x:Ah}{q Q:D}(hc:c<128)(iy:CW X y=.ok (.str t))(ic:HW (.str t) (.int x)=.ok (.str (sg c)))(hf:Z.F 44 [q,.int p]=.ok Q)(z:BG (A.length+1)=Ab)(hq:(¬ y=p/\q=.tup [.int x,.int (p-1-y),.int 1])\/(y=p/\¬ x=p/\q=.tup [.int 1,.int x,.int 0])\/(y=p/\x=p/\q=.tup [.int 0,.int 1,.int 0])):BB Z 4 FC (.int x) [sh (.lst X),si p,Aa (.lst A,Ab),si y,s4,s5]=if okS c=Ab then (.next [sh (.lst X),si p,Aa (.lst (if c=35 then A++[Q] else A),Ab),si y,si x,sh q]) else .ret .non Ad:=by
 have nn:=vC hc;have e1:(sg c==hsh)=decide (c=35):=Ql c 35;have hi:=hd_is;generalize hd2=HD at *;have i0:∀ a b:D,CW [a,b] 0=.ok a:=λ_ _=>rfl
 have i1:∀ a b:D,CW [a,b] 1=.ok b:=λ_ _=>rfl
 generalize sg c=S at *;cases e:okS c with
 |false=>
  rw[e]at nn;simp only[WN,Jv]at nn;simp[BB,FC,iy,ic,hi,nn,B5]
 |true=>
  rw[e]at nn;simp only[WN,Jv]at nn;rcases hq with ⟨hy,rfl⟩|⟨rfl,hx,rfl⟩|⟨rfl,rfl,rfl⟩
  .by_cases c1:c=35
   .simp[BB,FC,iy,ic,hi,nn,hy,Jh,e1,c1,hf,Ck,z]
   .simp[BB,FC,iy,ic,hi,nn,hy,Jh,e1,c1,hf,Ck,z]
  .by_cases c1:c=35
   .simp[BB,FC,iy,ic,hi,nn,hx,Jh,e1,c1,hf,Ck,z,b2i,i0]
   .simp[BB,FC,iy,ic,hi,nn,hx,Jh,e1,c1,hf,Ck,z,b2i,i0]
  .by_cases c1:c=35
   .simp[BB,FC,iy,ic,hi,nn,Jh,e1,c1,hf,Ck,z,b2i,i1]
   .simp[BB,FC,iy,ic,hi,nn,Jh,e1,c1,hf,Ck,z,b2i,i1]
theorem VR{k:Af}(hz:t.length<=900)(hk:k<t.cps.size):HW (.str t) (.int (0+(k:Ah)))=.ok (.str (sg (t.cps.toList.getD k 0))):=by
 show (if BG t.length=Ab then CW (Jr t) (0+(k:Ah)) else .bad)=_
 rw[As (F3 (by omega)),EL]
 have e:(Jr t)[k]?=Aa (D.str (sg (t.cps.toList.getD k 0))):=by
  unfold Jr;simp[hk,sg]
 exact Kt (by omega) (by simpa using e)
theorem U_3{X:Ac D}{p y:Ah}{t:Ag}{row:Ac R3}{q:Af->R3}(hz:t.length<=900)(ha:asc t=Ab)(iy:CW X y=.ok (.str t))(hl:row.length=t.cps.size)(hr:row.length<=20)(hf:∀ k,k<t.cps.size->Z.F 44 [Cu Ab (q k),.int p]=.ok (Cu Ab (row.getD k (0,0,0))))(hq:∀ k:Af,k<t.cps.size->(¬ y=p/\Cu Ab (q k)=.tup [.int (0+(k:Ah)),.int (p-1-y),.int 1])\/(y=p/\¬ (0+(k:Ah))=p/\Cu Ab (q k)=.tup [.int 1,.int (0+(k:Ah)),.int 0])\/(y=p/\(0+(k:Ah))=p/\Cu Ab (q k)=.tup [.int 0,.int 1,.int 0])):∀(m j:Af)(acc:Ac R3)(s4 s5:Sl),j+m=t.cps.size->acc.length+m<=900->((t.cps.toList.drop j).all okS=Ab->∃ s4' s5',BH (BB Z 4 FC) ((G8 j m).map fun(k:Af)=>D.int (0+(k:Ah))) [sh (.lst X),si p,Aa (.lst (rw3 acc),Ab),si y,s4,s5]=.next [sh (.lst X),si p,Aa (.lst (rw3 (acc++C1 (t.cps.toList.drop j) (row.drop j))),Ab),si y,s4',s5'])/\((t.cps.toList.drop j).all okS=Ad->BH (BB Z 4 FC) ((G8 j m).map fun(k:Af)=>D.int (0+(k:Ah))) [sh (.lst X),si p,Aa (.lst (rw3 acc),Ab),si y,s4,s5]=.ret .non Ad)
 |0,j,acc,s4,s5,hj,_=>by
  have e:t.cps.toList.drop j=[]:=WX (by rw[Cm];omega)
  have e2:C1 ([]:Ac Af) (row.drop j)=[]:=by cases row.drop j<;>rfl
  rw[e,e2,Bg];exact⟨λ_=>⟨s4,s5,rfl⟩,λh=>by (cases h)⟩
 |m+1,j,acc,s4,s5,hj,hm=>by
  have hk:j<t.cps.size:=by omega
  have hk':j<t.cps.toList.length:=by rw[Cm];exact hk
  have ed:t.cps.toList.drop j=t.cps.toList.getD j 0::t.cps.toList.drop (j+1):=by
   rw[BR hk']
   congr 1
   simp[hk]
  have er:row.drop j=row.getD j (0,0,0)::row.drop (j+1):=by
   rw[BR (by omega)]
   congr 1
   simp[show j<row.length by omega]
  have c128:t.cps.toList.getD j 0<128:=by
   have h:=Array.all_eq_true.mp ha j hk;simpa [hk] using h
  have z:BG ((rw3 acc).length+1)=Ab:=F3 (by rw[rw3,AU];omega)
  have st:=qH (Z:=Z) (X:=X) (A:=rw3 acc) (p:=p) (y:=y) (x:=0+(j:Ah)) (s4:=s4) (s5:=s5) c128 iy (VR hz hk) (hf j hk) z (hq j hk);have hd:∀(b:D->Rho->O)(x:D)(xs:Ac D)(U:Rho),BH b (x::xs) U=(b x U).turn (BH b xs):=λ_ _ _ _=>rfl
  rw[Xe,Bz,hd,st,ed,er];generalize t.cps.toList.getD j 0=c at *;generalize row.getD j (0,0,0)=a at *;cases eo:okS c with
  |false=>
   rw[B0,eo,DE];exact⟨λh=>by (cases h),λ_=>rfl⟩
  |true=>
   rw[B0,eo,E8,As rfl];have hlen:(if c=35 then acc++[a] else acc).length<=acc.length+1:=by
    by_cases c1:c=35<;>simp[c1]
   have ih:=U_3 hz ha iy hl hr hf hq m (j+1) (if c=35 then acc++[a] else acc) (si (0+(j:Ah))) (sh (Cu Ab (q j))) (by omega) (by omega)
   have ea:(if c=35 then rw3 acc++[Cu Ab a] else rw3 acc)=rw3 (if c=35 then acc++[a] else acc):=by
    by_cases c1:c=35
    .rw[As c1,As c1];simp[rw3]
    .rw[AB c1,AB c1]
   have es:acc++C1 (c::t.cps.toList.drop (j+1)) (a::row.drop (j+1))=(if c=35 then acc++[a] else acc)++C1 (t.cps.toList.drop (j+1)) (row.drop (j+1)):=by
    rw[C1];by_cases c1:c=35
    .rw[As c1,As c1];simp
    .rw[AB c1,AB c1]
   rw[ea,es];exact ih
end
section
variable{Z:Gam}
theorem wL(iy:CW X y=.ok (.str t))(ln:biD .len [.str t]=.ok (.int m))(hm:¬ m=p+(if y=p then 1 else 0)):BB Z 3 GI (.int y) [sh (.lst X),si p,Aa (.lst A,Ab),s3,s4,s5]=.ret .non Ad:=by
 by_cases h:y=p
 .subst h;have hm:¬ m=y+1:=by simpa using hm
  simp[BB,GI,iy,ln,hm,B5,b2i]
 .have hm:¬ m=p:=by simpa [h] using hm
  simp[BB,GI,iy,ln,hm,B5,b2i,h]
theorem wM(iy:CW X y=.ok (.str t))(ln:biD .len [.str t]=.ok (.int m))(hm:m=p+(if y=p then 1 else 0))(rg:Dk 0 m=.ok G):(∀ U',BH (BB Z 4 FC) G [sh (.lst X),si p,Aa (.lst A,Ab),si y,s4,s5]=.next U'->BB Z 3 GI (.int y) [sh (.lst X),si p,Aa (.lst A,Ab),s3,s4,s5]=.next U')/\(BH (BB Z 4 FC) G [sh (.lst X),si p,Aa (.lst A,Ab),si y,s4,s5]=.ret .non Ad->BB Z 3 GI (.int y) [sh (.lst X),si p,Aa (.lst A,Ab),s3,s4,s5]=.ret .non Ad):=by
 by_cases h:y=p
 .subst h;have hm:m=y+1:=by simpa using hm
  constructor
  .intro U' lo;generalize hF:BH (BB Z 4 FC)=F at *;simp only[BB,GI];simp[iy,ln,rg,b2i,hF,lo,hm.symm]
  .intro lo;generalize hF:BH (BB Z 4 FC)=F at *;simp only[BB,GI];simp[iy,ln,rg,b2i,hF,lo,hm.symm]
 .have hm:m=p:=by simpa [h] using hm
  subst hm;constructor
  .intro U' lo;generalize hF:BH (BB Z 4 FC)=F at *;simp only[BB,GI];simp[iy,ln,rg,b2i,h,hF,lo]
  .intro lo;generalize hF:BH (BB Z 4 FC)=F at *;simp only[BB,GI];simp[iy,ln,rg,b2i,h,hF,lo]
theorem VH(m:Af):Dt 0 m=(G8 0 m).map fun(k:Af)=>D.int (0+(k:Ah)):=by
 unfold Dt;rw[List.range_eq_range']
theorem KG(h:t.length<=900):biD .len [.str t]=.ok (.int (t.cps.size:Ah)):=by
 show (if BG t.length=Ab then R.ok (D.int t.length) else .bad)=_
 rw[As (F3 (by omega))]
 rfl
theorem Wl{m:Af}(h:m<=900):Dk 0 (m:Ah)=.ok (Dt 0 m):=by
 rw[L7 (by omega) (by omega)]
 simp
theorem U_2(hf:NY Z){n:Af}(hp:P4 n){xs:Ac Ag}(ht:Txs xs)(hl:xs.length=n+1):∀(m j:Af)(acc:Ac R3)(s3 s4 s5:Sl),j+m=n+1->acc.length+20*m<=400->(okA (xs.drop j) ((cells n).drop j)=Ab->∃ s3' s4' s5',BH (BB Z 3 GI) ((G8 j m).map fun(k:Af)=>D.int (0+(k:Ah))) [sh (.lst (xs.map D.str)),si n,Aa (.lst (rw3 acc),Ab),s3,s4,s5]=.next [sh (.lst (xs.map D.str)),si n,Aa (.lst (rw3 (acc++GO (xs.drop j) ((cells n).drop j))),Ab),s3',s4',s5'])/\(okA (xs.drop j) ((cells n).drop j)=Ad->BH (BB Z 3 GI) ((G8 j m).map fun(k:Af)=>D.int (0+(k:Ah))) [sh (.lst (xs.map D.str)),si n,Aa (.lst (rw3 acc),Ab),s3,s4,s5]=.ret .non Ad)
 |0,j,acc,s3,s4,s5,hj,_=>by
  have e:xs.drop j=[]:=WX (by omega)
  have e2:∀ l,GO [] l=[]:=λl=>by cases l<;>rfl
  have e3:∀ l,okA [] l=Ab:=λl=>by cases l<;>rfl
  rw[e,e2,e3,Bg];exact⟨λ_=>⟨s3,s4,s5,rfl⟩,λh=>by (cases h)⟩
 |m+1,j,acc,s3,s4,s5,hj,hm=>by
  obtain⟨c1,c2,c3,c4⟩:=Na hp;have n11:n<=11:=by rcases hp.n with rfl|rfl|rfl|rfl<;>decide
  have hk:j<xs.length:=by omega
  have hk2:j<(cells n).length:=by omega
  have ed:xs.drop j=xs[j]::xs.drop (j+1):=BR hk;have er:(cells n).drop j=(cells n)[j]::(cells n).drop (j+1):=BR hk2;obtain⟨ha,hz⟩:=ht xs[j] (BM hk);have rl:(cells n)[j].length=n+(if j=n then 1 else 0):=by
   have key:∀ n:Af,(n=3\/n=5\/n=7\/n=11)->∀ j,j<n+1->((cells n).getD j []).length=n+(if j=n then 1 else 0):=by
    intro n hn;rcases hn with rfl|rfl|rfl|rfl<;>decide+kernel
   have:=key n hp.n j (by omega)
   rwa [A6,AE hk2,HG]at this
  have rg:(cells n).getD j []=(cells n)[j]:=by rw[A6,AE hk2,HG]
  have iy:CW (xs.map D.str) (0+(j:Ah))=.ok (.str xs[j]):=by
   rw[EL];exact Kt (by omega) (by simp[hk])
  have hd:∀(b:D->Rho->O)(x:D)(xs:Ac D)(U:Rho),BH b (x::xs) U=(b x U).turn (BH b xs):=λ_ _ _ _=>rfl
  rw[Xe,Bz,hd,ed,er];rw[okA,GO];have yp:((0+(j:Ah))=(n:Ah))↔j=n:=by omega
  by_cases hs:xs[j].cps.size=(cells n)[j].length
  .have hmm:(xs[j].cps.size:Ah)=(n:Ah)+(if (0+(j:Ah))=(n:Ah) then 1 else 0):=by
    rw[hs,rl];by_cases h:j=n
    .rw[As h,As (yp.mpr h)];omega
    .rw[AB h,AB (λz=>h (yp.mp z))];omega
   have sz:xs[j].cps.size<=20:=by have:=c4 _ (BM hk2);omega
   have lx:=U_3 (Z:=Z) (X:=xs.map D.str) (p:=n) (y:=0+(j:Ah)) (t:=xs[j]) (row:=(cells n)[j]) (q:=Lz n j) hz ha iy hs.symm (c4 _ (BM hk2)) (λk hk'=>by
     obtain⟨g1,g2⟩:=gZ hp (show j<=n by omega) (show k<n+(if j=n then 1 else 0) by rw[<-rl,<-hs];exact hk')
     rw[rg]at g2;rw[g2];exact qF hf hp g1) (λk hk'=>by
     unfold Lz;by_cases h:j=n
     .by_cases hx:k=n
      .exact .inr (.inr ⟨yp.mpr h,by omega,by rw[As h,As hx];rfl⟩)
      .exact .inr (.inl ⟨yp.mpr h,by omega,by rw[As h,AB hx,EL];rfl⟩)
     .exact .inl ⟨λz=>h (yp.mp z),by rw[AB h,EL,EL];rfl⟩) xs[j].cps.size 0 acc s4 s5 (by omega) (by omega)
   rw[GU,GU,<-VH]at lx;have go:=wM (Z:=Z) (A:=rw3 acc) (s3:=s3) (s4:=s4) (s5:=s5) iy (KG hz) hmm (Wl (by omega))
   have eo:Ge xs[j] (cells n)[j]=xs[j].cps.toList.all okS:=by unfold Ge;rw[Di hs,E8]
   rw[eo];cases e:xs[j].cps.toList.all okS with
   |true=>
    obtain⟨s4',s5',lo⟩:=lx.1 e;rw[go.1 _ lo,E8];have sl:=Pz xs[j].cps.toList (cells n)[j];have ih:=U_2 hf hp ht hl m (j+1) (acc++C1 xs[j].cps.toList (cells n)[j]) (si (0+(j:Ah))) s4' s5' (by omega) (by rw[Bj];omega)
    rw[<-FT];exact ih
   |false=>
    rw[go.2 (lx.2 e),DE];exact⟨λh=>by (cases h),λ_=>rfl⟩
  .have eo:Ge xs[j] (cells n)[j]=Ad:=by unfold Ge;rw[By hs,DE]
   have hmm:¬ (xs[j].cps.size:Ah)=(n:Ah)+(if (0+(j:Ah))=(n:Ah) then 1 else 0):=λz=>hs (by
    rw[rl];by_cases h:j=n
    .rw[As (yp.mpr h)]at z;rw[As h];omega
    .rw[AB (λw=>h (yp.mp w))]at z;rw[AB h];omega)
   rw[wL iy (KG hz) hmm,eo,DE];exact⟨λh=>by (cases h),λ_=>rfl⟩
end
section
variable{Z:Gam}
theorem lR(hL:biD .len [.lst X]=.ok (.int L))(h:¬ L=p+1):Ip.run Z [.lst X,.int p]=.ok .non:=by
 simp[Ip,Df.run,Cd,hL,h,B5,-GJ]
theorem eW(hL:biD .len [.lst X]=.ok (.int L))(h:L=p+1)(ip:CW X p=.ok (.str t))(ln:biD .len [.str t]=.ok (.int m))(hm:¬ m=p+1):Ip.run Z [.lst X,.int p]=.ok .non:=by
 subst h;simp[Ip,Df.run,Cd,hL,ip,ln,hm,B5,-GJ]
theorem qG{Y_:Ac D}(hL:biD .len [.lst X]=.ok (.int L))(h:L=p+1)(ip:CW X p=.ok (.str t))(ln:biD .len [.str t]=.ok (.int m))(hm:m=p+1)(rg:Dk 0 (p+1)=.ok G)(lo:BH (BB Z 3 GI) G [sh (.lst X),si p,Aa (.lst [],Ab),Ae,Ae,Ae]=.next [sh (.lst X),si p,Aa (.lst Y_,Ab),s3,s4,s5])(so:GH Y_=.ok Z_):Ip.run Z [.lst X,.int p]=.ok (.lst Z_):=by
 subst h;subst hm;simp[Ip,Df.run,Cd,hL,ip,ln,B5,Jg,rg,lo,so,-GJ]
theorem lQ(hL:biD .len [.lst X]=.ok (.int L))(h:L=p+1)(ip:CW X p=.ok (.str t))(ln:biD .len [.str t]=.ok (.int m))(hm:m=p+1)(rg:Dk 0 (p+1)=.ok G)(lo:BH (BB Z 3 GI) G [sh (.lst X),si p,Aa (.lst [],Ab),Ae,Ae,Ae]=.ret .non Ad):Ip.run Z [.lst X,.int p]=.ok .non:=by
 subst h;subst hm;simp[Ip,Df.run,Cd,hL,ip,ln,B5,Jg,rg,lo,-GJ]
theorem SV:∀(xs:Ac Ag)(rs:Ac (Ac R3))(j:Af)(h:j<xs.length)(h2:j<rs.length),okA xs rs=Ab->Ge xs[j] rs[j]=Ab
 |[],rs,j,h,_,_=>by cases h
 |x::xs,[],j,_,h,_=>by cases h
 |x::xs,r::rs,0,_,_,e=>by
  rw[okA,Ai]at e;exact e.1
 |x::xs,r::rs,j+1,h,h2,e=>by
  rw[okA,Ai]at e;exact SV xs rs j (by simpa using h) (by simpa using h2) e.2
noncomputable def N3(n:Af)(xs:Ac Ag):D:=if good n xs=Ab then .lst (rw3 (JZ n xs)) else .non
def Uy(Z:Gam):Prop:=∀(n:Af)(xs:Ac Ag),P4 n->Txs xs->Z.F 320 [.lst (xs.map D.str),.int n]=.ok (N3 n xs)
theorem jE(hf:NY Z)(n:Af)(xs:Ac Ag)(hp:P4 n)(ht:Txs xs):Ip.run Z [.lst (xs.map D.str),.int n]=.ok (N3 n xs):=by
 obtain⟨c1,c2,c3,c4⟩:=Na hp;have n11:n<=11:=by rcases hp.n with rfl|rfl|rfl|rfl<;>decide
 have hL:biD .len [.lst (xs.map D.str)]=.ok (.int (xs.length:Ah)):=by rw[GJ,AU]
 unfold N3;by_cases hl:xs.length=n+1
 .have eg:good n xs=okA xs (cells n):=by unfold good;rw[Di hl,E8]
  rw[eg];have hk:n<xs.length:=by omega
  have ip:CW (xs.map D.str) (n:Ah)=.ok (.str xs[n]):=Kt (by omega) (by simp[hk])
  obtain⟨ha,hz⟩:=ht xs[n] (BM hk);have hL':(xs.length:Ah)=(n:Ah)+1:=by omega
  have rl:(cells n)[n]'(by omega)=Mw n:=by
   unfold cells;rw[List.getElem_append_right (by simp)]
   simp
  have ll:(Mw n).length=n+1:=by simp[Mw]
  by_cases hs:xs[n].cps.size=n+1
  .have hm:(xs[n].cps.size:Ah)=(n:Ah)+1:=by omega
   have rg:Dk 0 ((n:Ah)+1)=.ok (Dt 0 (n+1)):=Wl (m:=n+1) (by omega)
   have lo:=U_2 hf hp ht hl (n+1) 0 [] Ae Ae Ae (by omega) (by simp;omega)
   rw[GU,GU,<-VH,Gy]at lo;cases e:okA xs (cells n) with
   |true=>
    obtain⟨s3,s4,s5,lo⟩:=lo.1 e;rw[As rfl];exact qG hL hL' ip (KG hz) hm rg lo (Tp hp xs)
   |false=>exact lQ hL hL' ip (KG hz) hm rg (lo.2 e)
  .have hm:¬ (xs[n].cps.size:Ah)=(n:Ah)+1:=by omega
   have e:okA xs (cells n)=Ad:=by
    cases e:okA xs (cells n) with
    |false=>rfl
    |true=>
     have:=SV xs (cells n) n hk (by omega) e
     unfold Ge at this;rw[Ai,Az,rl,ll]at this;exact absurd this.1 hs
   rw[e];exact eW hL hL' ip (KG hz) hm
 .have eg:good n xs=Ad:=by unfold good;rw[By hl,DE]
  rw[eg];exact lR hL (by omega)
end
noncomputable def Ot:Df:=⟨2,Ad,(.cons (.asg 1 Ad (.str (AT " !\"#$&'()*+,-./0123456789:;<=>?@ABCDEFGHIJKLMNOPQRSTUVWXYZ[\\]^_`"))) (.cons (.asg 1 Ad (.bin .Add (.var 1) (.str (AT "abcdefghijklmnopqrstuvwxyz{|}~#.#.")))) (.cons (.ret (.idx (.var 1) (.bin .Mod (.var 0) (.bi .len (.cons (.var 1) .nil))))) .nil)))⟩
noncomputable def Io:Df:=⟨8,Ad,(.cons (.asg 2 Ad (.bin .Mod (.var 1) (.int 7))) (.cons (.ife (.cmp .Eq (.bi .len (.cons (.var 0) .nil)) (.int 0)) (.cons (.ret (.var 0)) .nil) .nil) (.cons (.asg 3 Ad (.bin .Mod (.bin .FloorDiv (.var 1) (.int 7)) (.bi .len (.cons (.var 0) .nil)))) (.cons (.asg 4 Ad (.idx (.var 0) (.var 3))) (.cons (.asg 5 Ad (.bin .Mod (.bin .FloorDiv (.var 1) (.int 84)) (.bin .Add (.bi .len (.cons (.var 4) .nil)) (.int 1)))) (.cons (.ife (.cmp .Eq (.var 2) (.int 0)) (.cons (.ret (.bin .Add (.sl (.var 0) .non (.var 3)) (.sl (.var 0) (.bin .Add (.var 3) (.int 1)) .non))) .nil) .nil) (.cons (.ife (.cmp .Eq (.var 2) (.int 1)) (.cons (.ret (.bin .Add (.bin .Add (.sl (.var 0) .non (.var 3)) (.lst (.cons (.var 4) .nil))) (.sl (.var 0) (.var 3) .non))) .nil) .nil) (.cons (.ife (.cmp .Eq (.var 2) (.int 2)) (.cons (.ret (.bin .Add (.sl (.var 0) (.un .USub (.int 1)) .non) (.sl (.var 0) .non (.un .USub (.int 1))))) .nil) .nil) (.cons (.asg 6 Ad (.call 317 (.cons (.bin .FloorDiv (.var 1) (.int 1008)) .nil))) (.cons (.asg 7 Ad (.bin .Add (.bin .Add (.sl (.var 4) .non (.var 5)) (.var 6)) (.sl (.var 4) (.bin .Add (.var 5) (.int 1)) .non))) (.cons (.ife (.cmp .Eq (.var 2) (.int 3)) (.cons (.asg 7 Ad (.bin .Add (.sl (.var 4) .non (.var 5)) (.sl (.var 4) (.bin .Add (.var 5) (.int 1)) .non))) .nil) .nil) (.cons (.ife (.cmp .Eq (.var 2) (.int 4)) (.cons (.asg 7 Ad (.bin .Add (.bin .Add (.sl (.var 4) .non (.var 5)) (.var 6)) (.sl (.var 4) (.var 5) .non))) .nil) .nil) (.cons (.ret (.bin .Add (.bin .Add (.sl (.var 0) .non (.var 3)) (.lst (.cons (.var 7) .nil))) (.sl (.var 0) (.bin .Add (.var 3) (.int 1)) .non))) .nil)))))))))))))⟩
theorem MU(x:Ag)(l h:Ao Ah):(FH x l h).length<=x.length:=by
 unfold FH;split
 .exact AK _
 .show (CA _).size<=_;rw[AG];exact BF (List.length_filterMap_le _ _) (PyProof.Rows.indices_len_le _ _ _)
theorem Mi:asc x=Ab↔∀ c∈x.cps.toList,c<128:=by
 unfold asc;rw[<-Array.all_toList,Bw];simp
theorem Pp(h:asc x=Ab)(l u:Ao Ah):asc (FH x l u)=Ab:=by
 unfold FH;split
 .exact h
 .rw[Mi];intro c hc;have hc':c∈(DO l u 1 x.length).filterMap (x.cps[·]?):=by simpa using hc
  obtain⟨i,_,hi⟩:=Xb.mp hc';exact Mi.mp h c (by rw[Array.mem_toList_iff];exact Array.mem_of_getElem? hi)
theorem JS{y:Ag}(hx:asc x=Ab)(hy:asc y=Ab):asc (x++y)=Ab:=by
 rw[Mi]at *;intro c hc;have e:(x++y).cps.toList=x.cps.toList++y.cps.toList:=Array.toList_append ..;rw[e]at hc;rcases Dp.mp hc with h|h
 .exact hx c h
 .exact hy c h
theorem L9(x y:Ag):(x++y).length=x.length+y.length:=WK
theorem MA{y:Ag}(h:x.length+y.length<=1000):CN .Add (.str x) (.str y)=.ok (.str (x++y)):=by
 rw[HQ,As (F3 h)]
theorem QC(h:x.length<=1000)(l u:Ao Ah):slD (.str x) l u=.ok (.str (FH x l u)):=by
 show (if (BG x.length&&BG (FH x l u).length)=Ab then R.ok (D.str (FH x l u)) else .bad)=_
 rw[F3 h,F3 (BF (MU x l u) h)];rfl
theorem MT(xs:Ac Ag)(l u:Ao Ah):∃ ys:Ac Ag,(∀ y∈ys,y∈xs)/\ys.length<=xs.length/\GL (xs.map D.str) l u=ys.map D.str:=by
 unfold GL;rw[<-List.map_drop,<-List.map_take];exact⟨_,λy hy=>List.mem_of_mem_drop (List.mem_of_mem_take hy),by rw[F9,HE];omega,rfl⟩
def TxB(b:Af)(xs:Ac Ag):Prop:=∀ x∈xs,asc x=Ab/\x.length<=b
def Vw(Z:Gam):Prop:=∀ n:Ah,∃ c:Ag,asc c=Ab/\c.length=1/\Z.F 317 [.int n]=.ok (.str c)
def Vx(Z:Gam):Prop:=∀(m:Ah)(xs:Ac Ag)(b:Af),0<=m->b<=400->xs.length<=100->TxB b xs->∃ ys:Ac Ag,TxB (2*b+1) ys/\ys.length<=2*xs.length+1/\Z.F 319 [.lst (xs.map D.str),.int m]=.ok (.lst (ys.map D.str))
section
variable{Z:Gam}
theorem oV(n:Ah):∃ c:Ag,asc c=Ab/\c.length=1/\Ot.run Z [.int n]=.ok (.str c):=by
 have ha:(AT " !\"#$&'()*+,-./0123456789:;<=>?@ABCDEFGHIJKLMNOPQRSTUVWXYZ[\\]^_`").length=64:=by kernel_rfl
 have hb:(AT "abcdefghijklmnopqrstuvwxyz{|}~#.#.").length=34:=by kernel_rfl
 have aa:asc (AT " !\"#$&'()*+,-./0123456789:;<=>?@ABCDEFGHIJKLMNOPQRSTUVWXYZ[\\]^_`")=Ab:=by kernel_rfl
 have ab:asc (AT "abcdefghijklmnopqrstuvwxyz{|}~#.#.")=Ab:=by kernel_rfl
 simp only[Ot];generalize AT " !\"#$&'()*+,-./0123456789:;<=>?@ABCDEFGHIJKLMNOPQRSTUVWXYZ[\\]^_`" = A at *
 generalize AT "abcdefghijklmnopqrstuvwxyz{|}~#.#." = B at *;have ad:=MA (x:=A) (y:=B) (by omega)
 have al:=JS aa ab;have ll:=L9 A B;generalize A++B=C at *;have cz:C.cps.size=98:=by show C.length=98;omega
 have ln:=KG (t:=C) (by omega)
 rw[cz]at ln;have r0:=C2 n (b:=98) (by omega)
 have r1:=CH n (b:=98) (by omega)
 obtain⟨k,hk⟩:=FO r0;have ix:=VR (t:=C) (k:=k) (by omega) (by omega)
 rw[EL,<-hk]at ix;refine⟨sg (C.cps.toList.getD k 0),?_,rfl,?_⟩
 .rw[Mi];intro c hc;have hc':c=C.cps.toList.getD k 0:=by simpa [sg] using hc
  rw[hc'];have hk':k<C.cps.toList.length:=by rw[Cm];omega
  rw[A6,AE hk',HG];exact Mi.mp al _ (BM hk')
 .generalize sg (C.cps.toList.getD k 0)=S at *;have ln':biD .len [.str C]=.ok (.int 98):=ln;simp[Df.run,Cd,ad,ln',ix,B5,-HQ]
end
section
variable{Z:Gam}
theorem oY(hs:Vw Z)(m:Ah)(xs:Ac Ag)(b:Af)(m0:0<=m)(hb:b<=400)(hl:xs.length<=100)(hx:TxB b xs):∃ ys:Ac Ag,TxB (2*b+1) ys/\ys.length<=2*xs.length+1/\Io.run Z [.lst (xs.map D.str),.int m]=.ok (.lst (ys.map D.str)):=by
 have ln:(xs.map D.str).length=xs.length:=AU ..;by_cases h0:xs.length=0
 .refine⟨xs,λx h=>⟨(hx x h).1,by have:=(hx x h).2;omega⟩,by omega,?_⟩
  have e:xs=[]:=List.length_eq_zero_iff.mp h0;subst e;simp[Io,Df.run,Cd,B5]
 have h0':¬ ((xs.length:Ah)=0):=by omega
 have hne:¬ xs=[]:=λe=>h0 (by rw[e];rfl)
 have hpos:0<xs.length:=by omega
 have q1:(0:Ah)<(xs.length:Ah):=by omega
 have r0:=C2 (m/7) (b:=(xs.length:Ah)) (by omega)
 have r1:=CH (m/7) q1;generalize ht:m/7%(xs.length:Ah)=t at *;obtain⟨k,hk⟩:=FO r0;have hkl:k<xs.length:=by omega
 obtain⟨a0,l0⟩:=hx xs[k] (BM _);have hxm:xs[k]∈xs:=BM _;have ix:CW (xs.map D.str) t=.ok (.str xs[k]):=by
  rw[hk];exact Kt (by omega) (by simp[hkl])
 generalize xs[k]=x0 at *;have lx:biD .len [.str x0]=.ok (.int (x0.cps.size:Ah)):=KG (by omega)
 have xz:x0.cps.size=x0.length:=rfl;rw[xz]at lx;have q2:(0:Ah)<(x0.length:Ah)+1:=by omega
 generalize hu:m/84%((x0.length:Ah)+1)=u at *;have c2:∀(l1 u1 l2 u2:Ao Ah),∃ ys:Ac Ag,TxB (2*b+1) ys/\ys.length<=2*xs.length+1/\CN .Add (.lst (GL (xs.map D.str) l1 u1)) (.lst (GL (xs.map D.str) l2 u2))=.ok (.lst (ys.map D.str)):=λl1 u1 l2 u2=>by
  obtain⟨ys,y1,y2,y3⟩:=MT xs l1 u1;obtain⟨zs,z1,z2,z3⟩:=MT xs l2 u2;refine⟨ys++zs,λy hy=>?_,by rw[Bj];omega,?_⟩
  .rcases Dp.mp hy with hy|hy
   .exact⟨(hx y (y1 y hy)).1,by have:=(hx y (y1 y hy)).2;omega⟩
   .exact⟨(hx y (z1 y hy)).1,by have:=(hx y (z1 y hy)).2;omega⟩
  .rw[y3,z3,Hg,As (F3 (by simp;omega)),W9]
 have c3:∀(l1 u1 l2 u2:Ao Ah)(z:Ag),asc z=Ab->z.length<=2*b+1->∃ ys:Ac Ag,TxB (2*b+1) ys/\ys.length<=2*xs.length+1/\CN .Add (.lst (GL (xs.map D.str) l1 u1)) (.lst [.str z])=.ok (.lst (GL (xs.map D.str) l1 u1++[.str z]))/\CN .Add (.lst (GL (xs.map D.str) l1 u1++[.str z])) (.lst (GL (xs.map D.str) l2 u2))=.ok (.lst (ys.map D.str)):=λl1 u1 l2 u2 z za zl=>by
  obtain⟨ys,y1,y2,y3⟩:=MT xs l1 u1;obtain⟨zs,z1,z2,z3⟩:=MT xs l2 u2;refine⟨ys++[z]++zs,λy hy=>?_,by simp only[Bj,DT];omega,?_,?_⟩
  .rcases Dp.mp hy with hy|hy
   .rcases Dp.mp hy with hy|hy
    .exact⟨(hx y (y1 y hy)).1,by have:=(hx y (y1 y hy)).2;omega⟩
    .rw[Bk.mp hy];exact⟨za,zl⟩
   .exact⟨(hx y (z1 y hy)).1,by have:=(hx y (z1 y hy)).2;omega⟩
  .rw[y3,Hg,As (F3 (by simp;omega))]
  .rw[y3,z3,Hg,As (F3 (by simp;omega))]
   simp
 obtain⟨C,ca,cl,e17⟩:=hs (m/1008);have s1:=QC (x:=x0) (by omega) Ae (Aa u)
 have s2:=QC (x:=x0) (by omega) (Aa (u+1)) Ae
 have s3:=QC (x:=x0) (by omega) (Aa u) Ae
 have n1:=MU x0 Ae (Aa u);have n2:=MU x0 (Aa (u+1)) Ae;have n3:=MU x0 (Aa u) Ae;have a1:=Pp a0 Ae (Aa u);have a2:=Pp a0 (Aa (u+1)) Ae;have a3:=Pp a0 (Aa u) Ae;generalize FH x0 Ae (Aa u)=K1 at *;generalize FH x0 (Aa (u+1)) Ae=K2 at *;generalize FH x0 (Aa u) Ae=K3 at *;have d1:=MA (x:=K1) (y:=K2) (by omega)
 have d2:=MA (x:=K1) (y:=C) (by omega)
 have l12:=L9 K1 K2;have l1c:=L9 K1 C;have d3:=MA (x:=K1++C) (y:=K3) (by omega)
 have d4:=MA (x:=K1++C) (y:=K2) (by omega)
 have l13:=L9 (K1++C) K3;have l14:=L9 (K1++C) K2;have v1:=JS a1 a2;have v2:=JS (JS a1 ca) a3;have v3:=JS (JS a1 ca) a2;have hw:m%7=0\/m%7=1\/m%7=2\/m%7=3\/m%7=4\/m%7=5\/m%7=6:=by omega
 generalize K1++K2=Z_12 at *;generalize K1++C++K3=Z_13 at *;generalize K1++C++K2=Z_14 at *;generalize K1++C=Z_1 at *;have hL:biD .len [.lst (xs.map D.str)]=.ok (.int (xs.length:Ah)):=by rw[GJ,ln]
 generalize hN:(xs.length:Ah)=N at *;generalize hM:(x0.length:Ah)=M at *;rcases hw with w|w|w|w|w|w|w
 .obtain⟨ys,y1,y2,e⟩:=c2 Ae (Aa t) (Aa (t+1)) Ae;refine⟨ys,y1,y2,?_⟩;generalize ys.map D.str=Y_ at *;generalize xs.map D.str=L at *;simp[Io,Df.run,Cd,hL,ht,q1,w,slE,ix,lx,hu,q2,h0',e,B5,-Hg,-HQ,-GJ]
 .obtain⟨ys,y1,y2,e,f⟩:=c3 Ae (Aa t) (Aa t) Ae x0 a0 (by omega)
  refine⟨ys,y1,y2,?_⟩;generalize ys.map D.str=Y_ at *;generalize xs.map D.str=L at *;simp[Io,Df.run,Cd,hL,ht,q1,w,slE,ix,lx,hu,q2,h0',e,f,B5,-Hg,-HQ,-GJ]
 .obtain⟨ys,y1,y2,e⟩:=c2 (Aa (-1)) Ae Ae (Aa (-1));refine⟨ys,y1,y2,?_⟩;generalize ys.map D.str=Y_ at *;generalize xs.map D.str=L at *;simp[Io,Df.run,Cd,hL,ht,q1,w,slE,ix,lx,hu,q2,h0',e,B5,-Hg,-HQ,-GJ]
 .obtain⟨ys,y1,y2,e,f⟩:=c3 Ae (Aa t) (Aa (t+1)) Ae Z_12 v1 (by omega)
  refine⟨ys,y1,y2,?_⟩;generalize ys.map D.str=Y_ at *;generalize xs.map D.str=L at *;simp[Io,Df.run,Cd,hL,ht,q1,w,slE,ix,lx,hu,q2,h0',s1,s2,s3,e17,d1,d2,d3,d4,e,f,B5,-Hg,-HQ,-GJ]
 .obtain⟨ys,y1,y2,e,f⟩:=c3 Ae (Aa t) (Aa (t+1)) Ae Z_13 v2 (by omega)
  refine⟨ys,y1,y2,?_⟩;generalize ys.map D.str=Y_ at *;generalize xs.map D.str=L at *;simp[Io,Df.run,Cd,hL,ht,q1,w,slE,ix,lx,hu,q2,h0',s1,s2,s3,e17,d1,d2,d3,d4,e,f,B5,-Hg,-HQ,-GJ]
 .obtain⟨ys,y1,y2,e,f⟩:=c3 Ae (Aa t) (Aa (t+1)) Ae Z_14 v3 (by omega)
  refine⟨ys,y1,y2,?_⟩;generalize ys.map D.str=Y_ at *;generalize xs.map D.str=L at *;simp[Io,Df.run,Cd,hL,ht,q1,w,slE,ix,lx,hu,q2,h0',s1,s2,s3,e17,d1,d2,d3,d4,e,f,B5,-Hg,-HQ,-GJ]
 .obtain⟨ys,y1,y2,e,f⟩:=c3 Ae (Aa t) (Aa (t+1)) Ae Z_14 v3 (by omega)
  refine⟨ys,y1,y2,?_⟩;generalize ys.map D.str=Y_ at *;generalize xs.map D.str=L at *;simp[Io,Df.run,Cd,hL,ht,q1,w,slE,ix,lx,hu,q2,h0',s1,s2,s3,e17,d1,d2,d3,d4,e,f,B5,-Hg,-HQ,-GJ]
end
noncomputable def LQ:E:=(.idx (.str (AT ".#")) (.bin .Mod (.bin .FloorDiv (.call 3 (.cons (.var 0) (.cons (.bin .Add (.bin .Mult (.int 12) (.var 3)) (.var 5)) .nil))) (.int 5)) (.int 2)))
noncomputable def MQ:Ss:=(.cons (.asg 4 Ad (.bin .Add (.var 1) (.bi .int (.cons (.cmp .Eq (.var 3) (.var 1)) .nil)))) (.cons (.app 2 (.bi .sjoin (.cons (.str (AT "")) (.cons (.comp LQ 5 (.rng (.var 4)) F0) .nil)))) .nil))
noncomputable def Ox:Df:=⟨6,Ad,(.cons (.asg 2 Ab (.lst .nil)) (.cons (.fors 3 (.rng (.bin .Add (.var 1) (.int 1))) MQ) (.cons (.ret (.var 2)) .nil)))⟩
noncomputable def Ou:Df:=⟨4,Ad,(.cons (.asg 2 Ad (.bl Ad)) (.cons (.tryx (.cons (.expr (.call 313 (.cons (.var 0) (.cons (.var 1) .nil)))) .nil) 16 3 (.cons (.asg 2 Ad (.and (.cons (.isi (.var 3) [.cls 0]) (.cons (.isi (.var 3) [.verr]) (.cons (.no (.isi (.var 3) [.cls 106,.cls 12,.cls 1])) .nil))))) .nil)) (.cons (.ret (.var 2)) .nil)))⟩
noncomputable def RI:E:=(.bl Ab)
noncomputable def RJ:E:=(.and (.cons (.isi (.var 2) [.int]) (.cons (.no (.isi (.var 2) [.bool])) .nil)))
noncomputable def O8:Df:=⟨3,Ad,(.cons (.ife (.or (.cons (.no (.isi (.var 0) [.tuple])) (.cons (.cmp .NotEq (.var 0) (.var 1)) .nil))) (.cons (.ret (.bl Ad)) .nil) .nil) (.cons (.ret (.bi .all (.cons (.comp RJ 2 (.e (.var 0)) RI) .nil))) .nil))⟩
noncomputable def RH:E:=(.bl Ab)
noncomputable def OA:E:=(.call 45 (.cons (.var 2) (.cons (.var 2) .nil)))
noncomputable def O7:Df:=⟨3,Ad,(.cons (.ret (.and (.cons (.isi (.var 0) [.list]) (.cons (.cmp .Eq (.var 0) (.var 1)) (.cons (.bi .all (.cons (.comp OA 2 (.e (.var 0)) RH) .nil)) .nil))))) .nil)⟩
theorem Rz{sep:Ag}(hs:asc sep=Ab):∀ xs:Ac Ag,(∀ x∈xs,asc x=Ab)->asc (LM sep xs)=Ab
 |[],_=>by
  show asc Dx=Ab;decide+kernel
 |[x],h=>h x (by simp)
 |x::y::r,h=>by
  show asc (x++sep++LM sep (y::r))=Ab;exact JS (JS (h x (by simp)) hs) (Rz hs (y::r) λz hz=>h z (Aw _ hz))
theorem Rk:∀ xs:Ac Ag,JY (xs.map D.str)=Aa xs
 |[]=>rfl
 |x::xs=>by
  show (JY (xs.map D.str)).map (x :: ·)=_;rw[Rk xs];rfl
theorem Rv:∀ xs:Ac Ag,(∀ x∈xs,x.length=1)->(xs.map (·.length)).sum=xs.length
 |[],_=>rfl
 |x::xs,h=>by
  rw[Bz,Xg,Rv xs λy hy=>h y (Aw _ hy),h x (by simp),AI]
  omega
theorem ZP{xs:Ac Ag}(hl:xs.length<=100)(hx:∀ x∈xs,asc x=Ab/\x.length=1):∃ t:Ag,asc t=Ab/\t.length<=100/\biD .sjoin [.str (AT ""),.lst (xs.map D.str)]=.ok (.str t):=by
 have e0:(AT "").length=0:=by kernel_rfl
 have a0:asc (AT "")=Ab:=by kernel_rfl
 generalize AT "" = E0 at *;have sm:=Rv xs λx h=>(hx x h).2
 have jl:=StrLaws.join_length_le E0 xs;rw[sm,e0,Xn,Xj]at jl;have jo:JF E0 xs=Ab:=by
  unfold JF Builtin.Str.tooLong;rw[StrLaws.joinTotal,sm,e0,Xn,Xj];have:¬ (xs.length>sizeLine):=λh=>by
   have:sizeLine ≥ 1000:=by decide
   omega
  simp[this]
 refine⟨LM E0 xs,Rz a0 xs λx h=>(hx x h).1,by omega,?_⟩
 show Mj E0 (xs.map D.str)=_;unfold Mj;rw[Rk];show (if JF E0 xs=Ab then R.ok (D.str (LN E0 xs)) else .bad)=_
 rw[As jo];show R.ok (D.str (Builtin.Str.glued E0 xs))=_;rw[StrLaws.glued_eq_join]
theorem So{g:D->R Al}{f:D->R D}:∀ l:Ac D,(∀ d∈l,g d=.ok Ab/\∃ x:Ag,(asc x=Ab/\x.length=1)/\f d=.ok (.str x))->∃ xs:Ac Ag,xs.length=l.length/\(∀ x∈xs,asc x=Ab/\x.length=1)/\BK g f l=.ok (xs.map D.str)
 |[],_=>⟨[],rfl,λ_ h=>(by cases h),rfl⟩
 |d::l,h=>by
  obtain⟨g1,x,hx,f1⟩:=h d (by simp)
  obtain⟨xs,h1,h2,h3⟩:=So l λy hy=>h y (Aw _ hy)
  refine⟨x::xs,by rw[AI,AI,h1],λy hy=>?_,?_⟩
  .rcases AA.mp hy with e|e
   .rw[e];exact hx
   .exact h2 y e
  .show (g d).bind _=_;rw[g1,R.bind_ok,As rfl,f1,R.bind_ok];show (BK g f l).bind _=_;rw[h3];rfl
section
variable{Z:Gam}
theorem Z_2(hm:Li Z)(ns:Ac Ah)(P L s4:Sl)(y x:Ah)(hy:FD 12 y=Ab):∃ c:Ag,(asc c=Ab/\c.length=1)/\cF Z [sh (scr ns),P,L,si y,s4,Ae] 5 LQ (.int x)=.ok (.str c):=by
 have e:=hm ns (12*y+x);generalize Jo ns (12*y+x)=m at *;have i0:HW (.str (AT ".#")) (.int 0)=.ok (.str dot):=by kernel_rfl
 have i1:HW (.str (AT ".#")) (.int 1)=.ok (.str hsh):=by kernel_rfl
 generalize scr ns=S at *;have hr:m/5%2=0\/m/5%2=1:=by omega
 rcases hr with r|r
 .refine⟨dot,⟨by decide+kernel,rfl⟩,?_⟩
  generalize hT:AT ".#" = T at *;simp[cF,LQ,hy,e,r,i0,hT]
 .refine⟨hsh,⟨by decide+kernel,rfl⟩,?_⟩
  generalize hT:AT ".#" = T at *;simp[cF,LQ,hy,e,r,i1,hT]
theorem mY(hm:Li Z)(ns:Ac Ah)(p0:0<=p)(p1:p<=11)(y:Ah)(hy:FD 12 y=Ab)(xs:Ac Ag)(hl:xs.length<=100)(s3 s4:Sl):∃ t:Ag,(asc t=Ab/\t.length<=100)/\∃ s4',BB Z 3 MQ (.int y) [sh (scr ns),si p,Aa (.lst (xs.map D.str),Ab),s3,s4,Ae]=.next [sh (scr ns),si p,Aa (.lst ((xs++[t]).map D.str),Ab),si y,s4',Ae]:=by
 obtain⟨q,hq,q0,q1⟩:∃ q:Ah,(∀ U:Rho,evE Z [sh (scr ns),si p,Aa (.lst (xs.map D.str),Ab),si y,s4,Ae] (.bin .Add (.var 1) (.bi .int (.cons (.cmp .Eq (.var 3) (.var 1)) .nil)))=.ok (.int q))/\0<=q/\q<=12:=by
  generalize xs.map D.str=X at *;generalize scr ns=S at *;by_cases h:y=p
  .exact⟨p+1,λ_=>by simp[h,b2i],by omega,by omega⟩
  .exact⟨p,λ_=>by simp[h,b2i],by omega,by omega⟩
 have rg:Dk 0 q=.ok (Dt 0 q.toNat):=L7 q0 (by omega)
 obtain⟨cs,c1,c2,c3⟩:=So (g:=cG Z [sh (scr ns),si p,Aa (.lst (xs.map D.str),Ab),si y,si q,Ae] 5 F0) (f:=cF Z [sh (scr ns),si p,Aa (.lst (xs.map D.str),Ab),si y,si q,Ae] 5 LQ) (Dt 0 q.toNat) λd hd=>by
  obtain⟨k,_,rfl⟩:=fD hd;exact⟨rfl,Z_2 hm ns (si p) _ (si q) y _ hy⟩
 rw[K7]at c1;obtain⟨t,t1,t2,t3⟩:=ZP (xs:=cs) (by omega) c2
 refine⟨t,⟨t1,t2⟩,si q,?_⟩;have z:BG ((xs.map D.str).length+1)=Ab:=F3 (by rw[AU];omega)
 rw[W9,Bz,Xa];have hq:=hq [];generalize cs.map D.str=C at *;generalize xs.map D.str=X at *;generalize scr ns=S at *;generalize Dt 0 q.toNat=R1 at *;generalize hE:E.bin .Add (.var 1) (.bi .int (.cons (.cmp .Eq (.var 3) (.var 1)) .nil))=EE at *;generalize hT:AT "" = T at *;simp[BB,MQ,hE,hq,rg,c3,t3,Ck,z,hT]
def Vt(Z:Gam):Prop:=∀(ns:Ac Ah)(p:Ah),P4 p->∃ xs:Ac Ag,TxB 100 xs/\xs.length<=20/\Z.F 318 [scr ns,.int p]=.ok (.lst (xs.map D.str))
theorem oR(hm:Li Z)(ns:Ac Ah)(p:Ah)(hp:P4 p):∃ xs:Ac Ag,TxB 100 xs/\xs.length<=20/\Ox.run Z [scr ns,.int p]=.ok (.lst (xs.map D.str)):=by
 have p0:=hp.pos;have ph:p<=11:=by rcases hp with h|h|h|h<;>omega
 have rg:Dk 0 (p+1)=.ok (Dt 0 (p+1).toNat):=L7 (by omega) (by omega)
 obtain⟨U1,e1,xs,hl,hx,s3,s4,rfl⟩:=MZ (body:=BB Z 3 MQ) (λn U=>∃ xs:Ac Ag,xs.length=n/\TxB 100 xs/\∃ s3 s4:Sl,U=[sh (scr ns),si p,Aa (.lst (xs.map D.str),Ab),s3,s4,Ae]) (Dt 0 (p+1).toNat) 0 [sh (scr ns),si p,Aa (.lst [],Ab),Ae,Ae,Ae] ⟨[],rfl,λ_ z=>absurd z (by simp),Ae,Ae,rfl⟩ (by
  rintro i x hx U ⟨xs,hl,hv,s3,s4,rfl⟩;obtain⟨hi,rfl⟩:=Ph hx;obtain⟨t,ht,s4',e⟩:=mY hm ns (p:=p) (by omega) ph (0+(i:Ah)) (Nj (by omega) (by omega)) xs (by omega) s3 s4
  refine⟨_,e,xs++[t],by rw[Bj,DT];omega,λu hu=>?_,_,_,rfl⟩
  rcases Dp.mp hu with z|z
  .exact hv u z
  .rw[Bk.mp z];exact ht)
 rw[EN,K7]at hl;refine⟨xs,hx,by omega,?_⟩
 generalize xs.map D.str=X at *;generalize scr ns=S at *;generalize Dt 0 (p+1).toNat=R1 at *;simp[Ox,Df.run,Cd,rg,e1,B5,Jg]
theorem oX(hu:Z.up 16=[16,0])(p X:D)(h:Z.F 313 [p,X]=.exn exP):Ou.run Z [p,X]=.ok (.bl Ab):=by
 simp[Ou,Df.run,Cd,h,exP,hu,kiD,Eo]
def Vv(Z:Gam):Prop:=∀ q:R3,Z.F 45 [Cu Ab q,Cu Ab q]=.ok (.bl Ab)
theorem oU(q:R3):O8.run Z [Cu Ab q,Cu Ab q]=.ok (.bl Ab):=by
 have e:BU .NotEq (Cu Ab q) (Cu Ab q)=.ok (.bl Ad):=by
  have fl:flD 5 (Cu Ab q)=Ab:=rfl;show (if (flD 5 (Cu Ab q)&&flD 5 (Cu Ab q))=Ab then R.ok (D.bl (!eqD (Cu Ab q) (Cu Ab q))) else .bad)=_
  rw[fl,M9 5 _ fl];rfl
 have er:Cu Ab q=.tup [.int q.1,.int q.2.1,.int q.2.2]:=rfl;rw[er]at e ⊢;simp[O8,Df.run,Cd,e,BK,cG,cF,RI,RJ,mkL,Gk,Gg]
theorem Sa{g:D->R Al}{f:D->R D}:∀ l:Ac R3,(∀ q∈l,g (Cu Ab q)=.ok Ab/\f (Cu Ab q)=.ok (.bl Ab))->BK g f (rw3 l)=.ok (l.map λ_=>D.bl Ab)
 |[],_=>rfl
 |q::l,h=>by
  obtain⟨g1,f1⟩:=h q (by simp)
  show (g (Cu Ab q)).bind _=_;rw[g1,R.bind_ok,As rfl,f1,R.bind_ok];show (BK g f (rw3 l)).bind _=_;rw[Sa l λy hy=>h y (Aw _ hy)]
  rfl
theorem Vh(l:Ac R3):flD 5 (.lst (rw3 l))=Ab:=by
 show (rw3 l).all (flD 4)=Ab;unfold rw3;rw[Fu];exact Bw.mpr λ_ _=>rfl
def Vu(Z:Gam):Prop:=∀ l:Ac R3,Z.F 316 [.lst (rw3 l),.lst (rw3 l)]=.ok (.bl Ab)
theorem oS(hs:Vv Z)(l:Ac R3):O7.run Z [.lst (rw3 l),.lst (rw3 l)]=.ok (.bl Ab):=by
 have c:=Sa (g:=cG Z [sh (.lst (rw3 l)),sh (.lst (rw3 l)),Ae] 2 RH) (f:=cF Z [sh (.lst (rw3 l)),sh (.lst (rw3 l)),Ae] 2 OA) l λq _=>⟨rfl,by
  have e:=hs q;generalize Cu Ab q=Q at *;simp[cF,OA,e]⟩
 have fl:=Vh l;have eq:=M9 5 _ fl;have al:biD .all [.lst (l.map λ_=>D.bl Ab)]=.ok (.bl Ab):=by
  show (Gg (l.map λ_=>D.bl Ab)).bind _=_
  have:∀ l:Ac R3,Gg (l.map λ_=>D.bl Ab)=.ok Ab:=λl=>by
   induction l with
   |nil=>rfl
   |cons _ l ih=>
    show (Gg (l.map λ_=>D.bl Ab)).bind _=_
    rw[ih];rfl
  rw[this l];rfl
 generalize rw3 l=L at *;generalize (l.map λ_=>D.bl Ab)=M at *
 simp[O7,Df.run,Cd,c,fl,eq,al]
end
noncomputable def LV:Ss:=(.cons (.asg 3 Ad (.call 319 (.cons (.var 3) (.cons (.call 3 (.cons (.var 0) (.cons (.bin .Add (.int 152) (.var 4)) .nil))) .nil)))) .nil)
noncomputable def G0:Df:=⟨7,Ad,(.cons (.asg 1 Ad (.call 4 (.cons (.var 0) (.cons (.int 150) .nil)))) (.cons (.asg 2 Ad (.call 3 (.cons (.var 0) (.cons (.int 151) .nil)))) (.cons (.asg 3 Ad (.call 318 (.cons (.var 0) (.cons (.var 1) .nil)))) (.cons (.ife (.cmp .Eq (.bin .Mod (.var 2) (.int 9)) (.int 1)) (.cons (.asg 3 Ad (.call 318 (.cons (.var 0) (.cons (.idx (.lst (.cons (.int 5) (.cons (.int 7) (.cons (.int 11) (.cons (.int 3) .nil))))) (.bin .Mod (.bin .FloorDiv (.var 2) (.int 9)) (.int 4))) .nil)))) .nil) .nil) (.cons (.ife (.cmp .Eq (.bin .Mod (.var 2) (.int 9)) (.int 2)) (.cons (.asg 3 Ad (.lst .nil)) .nil) .nil) (.cons (.fors 4 (.rng (.bin .Mod (.bin .FloorDiv (.var 2) (.int 9)) (.int 3))) LV) (.cons (.asg 5 Ad (.call 320 (.cons (.var 3) (.cons (.var 1) .nil)))) (.cons (.asg 6 Ad (.bi .list (.cons (.var 3) .nil))) (.cons (.ife (.cmp .Is (.var 5) .non) (.cons (.ret (.and (.cons (.call 321 (.cons (.var 1) (.cons (.var 6) .nil))) (.cons (.call 321 (.cons (.var 1) (.cons (.var 6) .nil))) (.cons (.cmp .Eq (.var 6) (.var 3)) .nil))))) .nil) .nil) (.cons (.ret (.and (.cons (.call 316 (.cons (.call 313 (.cons (.var 1) (.cons (.var 6) .nil))) (.cons (.var 5) .nil))) (.cons (.cmp .Eq (.var 6) (.var 3)) .nil)))) .nil))))))))))⟩
noncomputable def bT:Af->Af
 |0=>100
 |n+1=>2*bT n+1
noncomputable def cT:Af->Af
 |0=>20
 |n+1=>2*cT n+1
structure H92 (Z:Gam):Prop where
 mi:Li Z
 pr:Ux Z
 tx:Vt Z
 ch:Vx Z
 du:Uy Z
 se:SJ Z
 re:∀(n:Af)(xs:Ac Ag),P4 n->Txs xs->good n xs=Ad->Z.F 321 [.int n,.lst (xs.map D.str)]=.ok (.bl Ab)
 st:Vu Z
section
variable{Z:Gam}{ns:Ac Ah}
theorem qN(h:H92 Z)(hp:P4 p)(ep:Z.F 4 [scr ns,.int 150]=.ok (.int p))(em:Z.F 3 [scr ns,.int 151]=.ok (.int m)):∃ xs:Ac Ag,TxB 100 xs/\xs.length<=20/\evSs Z [sh (scr ns),Ae,Ae,Ae,Ae,Ae,Ae] (G0.body.take 5)=.next [sh (scr ns),si p,si m,sh (.lst (xs.map D.str)),Ae,Ae,Ae]:=by
 obtain⟨xs,x1,x2,ex⟩:=h.tx ns p hp;have hq:∃ q,P4 q/\CW [D.int 5,D.int 7,D.int 11,D.int 3] (m/9%4)=.ok (.int q):=by
  have:m/9%4=0\/m/9%4=1\/m/9%4=2\/m/9%4=3:=by omega
  rcases this with e|e|e|e<;>rw[e]
  .exact⟨5,.inr (.inl rfl),rfl⟩
  .exact⟨7,.inr (.inr (.inl rfl)),rfl⟩
  .exact⟨11,.inr (.inr (.inr rfl)),rfl⟩
  .exact⟨3,.inl rfl,rfl⟩
 obtain⟨q,hq,iq⟩:=hq;obtain⟨ys,y1,y2,ey⟩:=h.tx ns q hq;generalize scr ns=S at *;by_cases c1:m%9=1
 .refine⟨ys,y1,y2,?_⟩;generalize ys.map D.str=Y_ at *;generalize xs.map D.str=X at *;simp[G0,Ss.take,ep,em,ex,c1,iq,ey]
 .by_cases c2:m%9=2
  .refine⟨[],λ_ z=>absurd z (by simp),by simp,?_⟩
   generalize xs.map D.str=X at *;simp[G0,Ss.take,ep,em,ex,c1,c2]
  .refine⟨xs,x1,x2,?_⟩;generalize xs.map D.str=X at *;simp[G0,Ss.take,ep,em,ex,c1,c2]
theorem wN(h:H92 Z){P M:Sl}(j n:Af)(hn:n<=1)(xs:Ac Ag)(hx:TxB (bT n) xs)(hl:xs.length<=cT n)(s4:Sl):∃ ys:Ac Ag,TxB (bT (n+1)) ys/\ys.length<=cT (n+1)/\BB Z 4 LV (.int (0+(j:Ah))) [sh (scr ns),P,M,sh (.lst (xs.map D.str)),s4,Ae,Ae]=.next [sh (scr ns),P,M,sh (.lst (ys.map D.str)),si (0+(j:Ah)),Ae,Ae]:=by
  have em:=h.mi ns (152+(0+(j:Ah)));have m0:=rJ ns (152+(0+(j:Ah)));generalize Jo ns (152+(0+(j:Ah)))=m at *;have bb:bT n<=400/\cT n<=100:=by
    match n,hn with
    |0,_=>decide
    |1,_=>decide
    |k+2,h=>omega
  obtain⟨ys,y1,y2,e⟩:=h.ch m xs (bT n) m0 bb.1 (by omega) hx
  refine⟨ys,y1,by show ys.length<=2*cT n+1;omega,?_⟩
  generalize ys.map D.str=Y_ at *;generalize xs.map D.str=X at *;generalize scr ns=S at *;generalize (0+(j:Ah))=J at *;simp[BB,LV,em,e]
theorem nQ(h:H92 Z){n:Af}(hp:P4 n){M:Sl}(xs:Ac Ag)(ht:Txs xs)(hl:xs.length<=900):(evSs Z [sh (scr ns),si n,M,sh (.lst (xs.map D.str)),s4,Ae,Ae] (G0.body.drop 6)).ans Ad=.ok (.bl Ab):=by
 have du:=h.du n xs hp ht;have se:=h.se n xs hp ht;have fl:flD 5 (.lst (xs.map D.str))=Ab:=by
  show (xs.map D.str).all (flD 4)=Ab;rw[Fu];exact Bw.mpr λ_ _=>rfl
 have eq:=M9 5 _ fl;have st:=h.st (JZ n xs);have fr:=Vh (JZ n xs);have re:=h.re n xs hp ht;unfold N3 at du;cases hg:good n xs with
 |true=>
  rw[hg,As rfl]at du se
  clear re
  generalize rw3 (JZ n xs)=Z_ at *;generalize xs.map D.str=X at *;generalize scr ns=S at *;generalize (n:Ah)=N at *;simp[G0,Ss.drop,du,se,st,fl,eq]
 |false=>
  have re:=re hg;rw[hg,AB Au]at du se
  clear st fr se
  generalize xs.map D.str=X at *;generalize scr ns=S at *;generalize (n:Ah)=N at *;simp[G0,Ss.drop,du,re,fl,eq]
theorem qE(h:H92 Z):G0.run Z [scr ns]=.ok (.bl Ab):=by
  obtain⟨p,hp,ep⟩:∃ p,P4 p/\Z.F 4 [scr ns,.int 150]=.ok (.int p):=⟨_,dH ns 150,h.pr ns 150⟩;have em:=h.mi ns 151;generalize Jo ns 151=m at *;obtain⟨xs,x1,x2,e1⟩:=qN h hp ep em;obtain⟨n,rfl⟩:=FO (show 0<=p from by have:=hp.pos;omega)
  have r0:=C2 (m/9) (b:=3) (by decide)
  have r1:=CH (m/9) (b:=3) (by decide)
  have rg:Dk 0 (m/9%3)=.ok (Dt 0 (m/9%3).toNat):=L7 r0 (by omega)
  obtain⟨U2,e2,ys,hy,hyl,u4,rfl⟩:=MZ (body:=BB Z 4 LV) (λn' U=>∃ ys:Ac Ag,TxB (bT n') ys/\ys.length<=cT n'/\∃ u4:Sl,U=[sh (scr ns),si n,si m,sh (.lst (ys.map D.str)),u4,Ae,Ae]) (Dt 0 (m/9%3).toNat) 0 [sh (scr ns),si n,si m,sh (.lst (xs.map D.str)),Ae,Ae,Ae] ⟨xs,x1,x2,Ae,rfl⟩ (by
    rintro i x hx U ⟨ys,y1,y2,u4,rfl⟩;obtain⟨hi,rfl⟩:=Ph hx;rw[EN]at y1 y2;obtain⟨zs,z1,z2,e⟩:=wN (ns:=ns) h (P:=si n) (M:=si m) i i (by omega) ys y1 y2 u4
    exact⟨_,e,zs,by rw[EN];exact z1,by rw[EN];exact z2,_,rfl⟩)
  rw[EN,K7]at hy hyl;have bb:bT (m/9%3).toNat<=900/\cT (m/9%3).toNat<=900:=by
    have:(m/9%3).toNat<=2:=by omega
    generalize (m/9%3).toNat=k at *
    match k,this with
    |0,_=>decide
    |1,_=>decide
    |2,_=>decide
    |k+3,h=>omega
  have ht:Txs ys:=λy hy'=>⟨(hy y hy').1,BF (hy y hy').2 bb.1⟩
  have e0:G0.run Z [scr ns]=(evSs Z [sh (scr ns),Ae,Ae,Ae,Ae,Ae,Ae] G0.body).ans Ad:=rfl;rw[e0,Tb Z 5,e1,TX];have e4:G0.body.drop 5=.cons (.fors 4 (.rng (.bin .Mod (.bin .FloorDiv (.var 2) (.int 9)) (.int 3))) LV) (G0.body.drop 6):=rfl;have e5:G7 Z [sh (scr ns),si n,si m,sh (.lst (xs.map D.str)),Ae,Ae,Ae] (.rng (.bin .Mod (.bin .FloorDiv (.var 2) (.int 9)) (.int 3)))=.ok (Dt 0 (m/9%3).toNat):=by
    generalize xs.map D.str=X at *;generalize scr ns=S at *;generalize Dt 0 (m/9%3).toNat=R1 at *;generalize (n:Ah)=N at *;simp[rg]
  rw[e4,Si,eU,e5,lJ,e2,TX];exact nQ h hp ys ht (by omega)
end
noncomputable def ZV:Af->Ac Af
 |2=>[2,0]
 |3=>[3,0]
 |16=>[16,0]
 |_=>[]
noncomputable def QE:Af->Ac D->R Ex
 |16,_=>.ok ⟨16,[]⟩
 |_,_=>.bad
noncomputable def Q92:Prg:=⟨Ab,fun
 |1=>Qc
 |9=>MR
 |17=>M0
 |309=>MP
 |312=>LS
 |313=>JV
 |2=>Op
 |3=>Oz
 |4=>Oy
 |44=>LU
 |45=>O8
 |316=>O7
 |317=>Ot
 |318=>Ox
 |319=>Io
 |320=>Ip
 |321=>Ou
 |322=>G0
 | _=>⟨0,Ad,.nil⟩,λ_=>.non,ZV,QE⟩
theorem vJ(ns:Ac Ah):(gam Q92 8).F 322 [scr ns]=.ok (.bl Ab):=by
 have rs:∀ n,Nq (gam Q92 (n+1)):=λn p m hp=>oW (gam Q92 n) p m hp
 have tu:∀ n,O6 (gam Q92 (n+2)):=λn p m hp z=>cU (rs n) p m hp z
 have fo:∀ n,Ps (gam Q92 (n+3)):=λn p b xs l t hp e it=>lA (rs (n+1)) (tu n) hp e it
 have xn:∀ n es,(gam Q92 n).xn 16 es=.ok exP:=λn es=>by cases n<;>rfl
 have pc:∀ n,V7 (gam Q92 (n+4)):=λn k hp=>vM (fo n) k hp
 have rw':∀ n,Pr (gam Q92 (n+1)):=λn x as a b c=>kX (Z:=gam Q92 n) (xn n) x as a b c
 have se:∀ n,SJ (gam Q92 (n+5)):=λn k xs hp ht=>dD (pc n) (rw' (n+3)) rfl (xn _) k xs hp ht
 have ce:∀ n,Vy (gam Q92 (n+1)):=λn ns k=>oZ (gam Q92 n) ns k
 have mi:∀ n,Li (gam Q92 (n+2)):=λn ns k=>kZ (ce n) ns k
 have pr:∀ n,Ux (gam Q92 (n+3)):=λn ns k=>kY (mi n) ns k
 have sg':∀ n,Vw (gam Q92 (n+1)):=λn m=>oV (Z:=gam Q92 n) m
 have ch:∀ n,Vx (gam Q92 (n+2)):=λn m xs b m0 b1 hl hx=>oY (sg' n) m xs b m0 b1 hl hx
 have lf:∀ n,NY (gam Q92 (n+1)):=λn p xs l t hp e it=>(dE (gam Q92 n) hp).2 l t e it
 have du:∀ n,Uy (gam Q92 (n+2)):=λn k xs hp ht=>jE (lf n) k xs hp ht
 have tx:∀ n,Vt (gam Q92 (n+3)):=λn ns p hp=>oR (mi n) ns p hp
 have sm:∀ n,Vv (gam Q92 (n+1)):=λn q=>oU (Z:=gam Q92 n) q
 have st:∀ n,Vu (gam Q92 (n+2)):=λn l=>oS (sm n) l
 refine qE (Z:=gam Q92 7) ⟨mi 5,pr 4,tx 4,ch 5,du 5,se 2,λn xs hp ht hg=>?_,st 5⟩
 have e:=se 1 n xs hp ht;rw[hg,AB Au]at e;exact oX (Z:=gam Q92 6) rfl _ _ e
end OvC
namespace OvC
open PySem PySem.Spec PyProof.Rows Ov L2
variable{l:F6}
noncomputable def tp92(i:Af):AM:=PySem.Challenge.pw_ovalfield_k92_no_picture.main.body.getD i (.Pass ⟨0,0,0,0⟩)
noncomputable def VO:Ac (Ag×Af×Af):=([("rest",1,2),("turned_over",9,2),("one_form",17,2),("picture_rows",309,1),("row_seen",312,2),("seen",313,2),("_law_cell_at",2,2),("_law_mixed",3,2),("_law_prime",4,2),("_law_form",44,2),("_law_same_tuple",45,2),("_law_same_triples",316,2),("_law_sign",317,1),("_law_texts",318,2),("_law_changed",319,2),("_law_due",320,2),("_law_refused",321,2),("law",322,1)]:Ac (Ag×Af×Af))
noncomputable def Q7:Ac Ag:=["ValueError", "all", "bool", "int", "isinstance", "len", "list", "range", "sorted", "tuple", "zip"]
noncomputable def Qm:Ac (Ag×Af):=[("NoPicture",16)]
noncomputable def Qu:Ac (Ag×Af):=[("NoPicture",16),("OvalError",0),("BadRow",106),("NoRow",12),("NoPrime",1)]
noncomputable def VT:Ac (Ag×Af):=[]
noncomputable abbrev C92(h:Al)(n:Af)(N:Ac Ag)(i d:Af):Al:=Js 80 h VO Q7 Qm Qu VT (N.take n) N (tp92 i) (Q92.defs d)
theorem sG:C92 Ad 2 ["p", "n"] 9 1=Ab:=by decide+kernel
theorem sF:C92 Ad 2 ["p", "n", "turned"] 10 9=Ab:=by decide+kernel
theorem sE:C92 Ad 2 ["p", "numbers", "rests", "first", "factor", "#5", "#6"] 12 17=Ab:=by decide+kernel
theorem sD:C92 Ad 1 ["p", "rows", "y", "#3", "#4"] 14 309=Ab:=by decide+kernel
theorem sC:C92 Ad 2 ["text", "row", "told", "sign", "point"] 15 312=Ab:=by decide+kernel
theorem rZ:C92 Ad 2 ["p", "texts", "rows", "told", "text", "row"] 16 313=Ab:=by decide+kernel
theorem rY:C92 Ad 2 ["_law_script", "_law_k"] 18 2=Ab:=by decide+kernel
theorem rX:C92 Ad 2 ["_law_script", "_law_k"] 19 3=Ab:=by decide+kernel
theorem rW:C92 Ad 2 ["_law_script", "_law_k"] 20 4=Ab:=by decide+kernel
theorem rV:C92 Ad 2 ["_law_numbers", "_law_p", "_law_rests", "_law_lead", "_law_over", "#5", "#6", "#7", "#8"] 21 44=Ab:=by decide+kernel
theorem lD:C92 Ad 2 ["_law_found", "_law_due_here", "#2"] 22 45=Ab:=by decide+kernel
theorem lC:C92 Ad 2 ["_law_found", "_law_due_here", "#2"] 23 316=Ab:=by decide+kernel
theorem lB:C92 Ad 1 ["_law_cell", "_law_some"] 24 317=Ab:=by decide+kernel
theorem lZ:C92 Ad 2 ["_law_script", "_law_p", "_law_rows", "_law_y", "_law_size", "#5"] 25 318=Ab:=by decide+kernel
theorem lY:C92 Ad 2 ["_law_texts_here", "_law_mix", "_law_way", "_law_at", "_law_text", "_law_place", "_law_sign_here", "_law_new"] 26 319=Ab:=by decide+kernel
theorem lX:C92 Ad 2 ["_law_texts_here", "_law_p", "_law_found", "_law_y", "_law_x", "_law_spot"] 27 320=Ab:=by decide+kernel
theorem lW:C92 Ad 2 ["_law_p", "_law_texts_here", "_law_plain", "e"] 28 321=Ab:=by decide+kernel
theorem Ut:C92 Ad 1 ["_law_script", "_law_p", "_law_mix", "_law_texts_here", "_law_k", "_law_due_here", "_law_handed"] 29 322=Ab:=by decide+kernel
set_option maxHeartbeats 0 in
theorem all92{w:A1}{K:Fg}{h:AC}{mg:Ag->Ao Aj}{fa f0 f1 f2 f3 f4 f5 f6 f7 f8 f9 f10 f11 f12 f13 f14 f15 f16 f17 x0 x1 x2 x3 x4:Ak}(X:K.In h)(G:h.Ns A8 mg)(hfa:mg "law" = Aa (.ref fa))(a0:FnI K f0 "rest" (tp92 9))(a1:FnI K f1 "turned_over" (tp92 10))(a2:FnI K f2 "one_form" (tp92 12))(a3:FnI K f3 "picture_rows" (tp92 14))(a4:FnI K f4 "row_seen" (tp92 15))(a5:FnI K f5 "seen" (tp92 16))(a6:FnI K f6 "_law_cell_at" (tp92 18))(a7:FnI K f7 "_law_mixed" (tp92 19))(a8:FnI K f8 "_law_prime" (tp92 20))(a9:FnI K f9 "_law_form" (tp92 21))(a10:FnI K f10 "_law_same_tuple" (tp92 22))(a11:FnI K f11 "_law_same_triples" (tp92 23))(a12:FnI K f12 "_law_sign" (tp92 24))(a13:FnI K f13 "_law_texts" (tp92 25))(a14:FnI K f14 "_law_changed" (tp92 26))(a15:FnI K f15 "_law_due" (tp92 27))(a16:FnI K f16 "_law_refused" (tp92 28))(a17:FnI K f17 "law" (tp92 29))(cx0:XA K "NoPicture" x0 Ae)(cx1:XE K "OvalError" x1)(cx2:XE K "BadRow" x2)(cx3:XE K "NoRow" x3)(cx4:XE K "NoPrime" x4)(sx0:SuC K x0 [(x0,Ab)])(sx1:SuC K x1 [(x0,Ab)])(sx2:SuC K x2 [(x0,Ad)])(sx3:SuC K x3 [(x0,Ad)])(sx4:SuC K x4 [(x0,Ad)])(z0:Bu K A8 "ValueError" = Aa Ae)(z1:Bu K A8 "all" = Aa Ae)(z2:Bu K A8 "bool" = Aa Ae)(z3:Bu K A8 "int" = Aa Ae)(z4:Bu K A8 "isinstance" = Aa Ae)(z5:Bu K A8 "len" = Aa Ae)(z6:Bu K A8 "list" = Aa Ae)(z7:Bu K A8 "range" = Aa Ae)(z8:Bu K A8 "sorted" = Aa Ae)(z9:Bu K A8 "tuple" = Aa Ae)(z10:Bu K A8 "zip" = Aa Ae):
    ∃ fd:Bx,(∀(s:Ap)(v:Aj),Gq s fd ⟨[v],[]⟩ [("_law_script",v)])/\∀ base:AC,K.In base->base.Ns A8 mg->FnOk l.prog w K mg base (CXR l.prog w) 8 fa fd ["_law_script"] (NF K):=by
  obtain⟨_,F,e⟩:=a17;obtain⟨_,_,_,_,_,_,_,_,_,rfl,_,_⟩:=F.ex;cases hfa.symm.trans (C9 X G e);have XT92:XT Q92.up Q92.xn (clL [(16,x0)]) Qm Qu K mg:=by
    refine tF (all_cons (cx0.row λ_=>by first|exact .inr rfl|exact .inl rfl) (all_nil)) (all_cons ⟨_,rfl,C9 X G cx0.n⟩ (all_nil)) (all_cons ⟨_,C9 X G cx0.n,cx0.kc,sx0⟩ (all_cons ⟨_,C9 X G cx1.n,cx1.kc,sx1⟩ (all_cons ⟨_,C9 X G cx2.n,cx2.kc,sx2⟩ (all_cons ⟨_,C9 X G cx3.n,cx3.kc,sx3⟩ (all_cons ⟨_,C9 X G cx4.n,cx4.kc,sx4⟩ (all_nil)))))) ?_
    intro c q ds;show QE c ds=.bad;unfold QE;split<;>first|rfl|exact absurd rfl (q ("NoPicture",16) (by decide))
  have T:Tab K mg (clL [(16,x0)]) VO Q7 Qm Qu VT Q92 80:=⟨XT92,all_cons (BW X G z0) (all_cons (BW X G z1) (all_cons (BW X G z2) (all_cons (BW X G z3) (all_cons (BW X G z4) (all_cons (BW X G z5) (all_cons (BW X G z6) (all_cons (BW X G z7) (all_cons (BW X G z8) (all_cons (BW X G z9) (all_cons (BW X G z10) (all_nil))))))))))),all_nil,all_cons (Gm 2 1 X G a0 rfl sG λ_ _ _ _ _ _ _ _=>rfl) (all_cons (Gm 2 9 X G a1 rfl sF λ_ _ _ _ _ _ _ _=>rfl) (all_cons (Gm 2 17 X G a2 rfl sE λ_ _ _ _ _ _ _ _=>rfl) (all_cons (QK 1 309 X G a3 rfl sD λ_ _ _ _ _ _ _=>rfl) (all_cons (Gm 2 312 X G a4 rfl sC λ_ _ _ _ _ _ _ _=>rfl) (all_cons (Gm 2 313 X G a5 rfl rZ λ_ _ _ _ _ _ _ _=>rfl) (all_cons (Gm 2 2 X G a6 rfl rY λ_ _ _ _ _ _ _ _=>rfl) (all_cons (Gm 2 3 X G a7 rfl rX λ_ _ _ _ _ _ _ _=>rfl) (all_cons (Gm 2 4 X G a8 rfl rW λ_ _ _ _ _ _ _ _=>rfl) (all_cons (Gm 2 44 X G a9 rfl rV λ_ _ _ _ _ _ _ _=>rfl) (all_cons (Gm 2 45 X G a10 rfl lD λ_ _ _ _ _ _ _ _=>rfl) (all_cons (Gm 2 316 X G a11 rfl lC λ_ _ _ _ _ _ _ _=>rfl) (all_cons (QK 1 317 X G a12 rfl lB λ_ _ _ _ _ _ _=>rfl) (all_cons (Gm 2 318 X G a13 rfl lZ λ_ _ _ _ _ _ _ _=>rfl) (all_cons (Gm 2 319 X G a14 rfl lY λ_ _ _ _ _ _ _ _=>rfl) (all_cons (Gm 2 320 X G a15 rfl lX λ_ _ _ _ _ _ _ _=>rfl) (all_cons (Gm 2 321 X G a16 rfl lW λ_ _ _ _ _ _ _ _=>rfl) (all_cons (QK 1 322 X G ⟨_,F,e⟩ rfl Ut λ_ _ _ _ _ _ _=>rfl) (all_nil))))))))))))))))))⟩
  exact⟨_,λs v=>.of_eq rfl,λbase _ _=>law_fn (Vm T (nR T 7) (VV F) rfl Ut) vJ⟩
theorem walk92{q:AO}{loose:Ac Ag}{XP:(Ag->Ao Aj)->AC->Prop}{YP:A1->AC->Prop}{d:DefRec}{K:LL->Fg}(hn:l.most=Aa 63)(hdf:d.params.defaults=[])(hY:∀(w:A1)(h:AC),YP w h->(K w.params).In h)(F:∀(w:A1)(mg:Ag->Ao Aj)(fa:Ak)(h:AC),(K w.params).In h->h.Ns A8 mg->mg d.name=Aa (.ref fa) ->
   ∃ fd:Bx,(∀(s:Ap)(u:Aj),Gq s fd ⟨[u],[]⟩ [("_law_script",u)])/\∀ base:AC,(K w.params).In base->base.Ns A8 mg->FnOk l.prog w (K w.params) mg base (CXR l.prog w) 8 fa fd ["_law_script"] (NF (K w.params))):Y_2 q loose XP YP l.row.toRowW d [] (λf vs=>KW f vs):=
 L2.walk_of (n:=63) (k:=8) (x := "_law_script") (CX:=λw=>CXR l.prog w) (sp:=λw=>NF (K w.params)) hn (by decide) hdf ⟨rfl,by decide,by decide,rfl⟩ hY F (λ_ H a ns hl _ hS=>⟨a,ns,rfl,hl,hS,λ_ _ z=>z⟩) λ_ _ _ _ _ z=>rS z
end OvC
open PySem PySem.W PyProof.Rows
noncomputable def OvC.view92:PySem.Program:={ PySem.Challenge.pw_ovalfield_k92_no_picture with main:={PySem.Challenge.pw_ovalfield_k92_no_picture.main with body:=[OvC.tp92 1,OvC.tp92 2,OvC.tp92 3,OvC.tp92 4,OvC.tp92 5,OvC.tp92 6,OvC.tp92 7,OvC.tp92 9,OvC.tp92 10,OvC.tp92 12,OvC.tp92 14,OvC.tp92 15,OvC.tp92 16,OvC.tp92 18,OvC.tp92 19,OvC.tp92 20,OvC.tp92 21,OvC.tp92 22,OvC.tp92 23,OvC.tp92 24,OvC.tp92 25,OvC.tp92 26,OvC.tp92 27,OvC.tp92 28,OvC.tp92 29]} }
set_option hygiene false
local macro_rules | `(tactic| o_head $H)=>`(tactic| refine holds_open (q:=OvC.view92) (loose:=[]) (Xt:=fun s=>xlAt OvC.view92 [] s&&recOk (RowW.records (OpenRow.toRowW (PySem.Challenge.rw_ovalfield_k92_no_picture.row))) s) (XP:=XL OvC.view92 []) (Yf:=Hook.obs $H) (Ya:=Hook.val $H) (YP:=Hook.says $H) (N:=4290) ?hl (Hook.of $H) (Hook.keeps $H) (fun s e=>xl_of s (Bool.and_eq_true_iff.mp e).1) XL.keeps (by rfl) (by rfl) (by rfl) (fun s e=>recFacts_of (Bool.and_eq_true_iff.mp e).2) (by rfl) (by first|assumption|decide +kernel) (by decide +kernel) ⟨rfl,rfl,rfl,rfl,rfl,by decide +kernel⟩ ?hw ?hc)
set_option maxRecDepth 100000 in
set_option maxHeartbeats 0 in
theorem PySem.Challenge.cw_ovalfield_k92_no_picture_holds : PySem.Challenge.rw_ovalfield_k92_no_picture.Holds := by
 w_on;refine holds_law (by decide+kernel) λsaid=>?_;k_head
 (case hl=>intro w;unfold openEnds fencedOpening topFrom;rw[PySem.W.Fast.te10274390034422433532,PySem.W.Fast.te14364793385576792824,PySem.W.Fast.te1435165496053646825,PySem.W.Fast.te14289696077712309145,PySem.W.Fast.te14082659384304107361,PySem.W.Fast.te4187177175401517315];kernel_rfl)
 (case hw=>w_witness2)
 k_fill
 refine OvC.walk92 (l:=PySem.Challenge.rw_ovalfield_k92_no_picture) rfl rfl (λw h Y_=>Y_7 Y_) ?F
 case F=>
  intro w mg fa h KX G hmg
  refine' OvC.all92 KX G hmg ?a0 ?a1 ?a2 ?a3 ?a4 ?a5 ?a6 ?a7 ?a8 ?a9 ?a10 ?a11 ?a12 ?a13 ?a14 ?a15 ?a16 ?a17 ?cx0 ?cx1 ?cx2 ?cx3 ?cx4 ?sx0 ?sx1 ?sx2 ?sx3 ?sx4 ?z0 ?z1 ?z2 ?z3 ?z4 ?z5 ?z6 ?z7 ?z8 ?z9 ?z10
  case a0|a1|a2|a3|a4|a5|a6|a7|a8|a9|a10|a11|a12|a13|a14|a15|a16|a17=>(refine' Ov.fni ?a ?l ?c ?k;(case a=>k_is);(case l=>k_is);(case c=>k_is);(case k=>k_is))
  case cx0=>(refine' Ov.xa_mk ?n (Ov.xcls_l ?e) ?d ?f ?g ?a ?b ?c ?o ?h ?v;(case n=>k_is);(case e=>k_exc);(case d=>kernel_rfl);(case f|g|a|b|c|o|h|v=>k_is))
  case cx1|cx2|cx3|cx4=>(refine' Ov.XE.mk ?a ?b ?c;(case a=>k_is);(case b|c=>k_is))
  case sx0|sx1|sx2|sx3|sx4=>(refine' Ov.all_cons ?q0 (Ov.all_nil);(case q0=>dsimp only;k_is))
  case z0|z1|z2|z3|z4|z5|z6|z7|z8|z9|z10=>k_is
import PyProof.Rows.All
import Wide.All
import OpenK.AllK
import Wide.FinOn
import PyProof.EqAt
import KE.KSortTup
import PyProof.EqKinds
import PyProof.TupleCall
import Lean
import PySem.Challenge.RW_ovalfield_k76_further_sets
set_option Elab.async false
set_option linter.all false
set_option maxRecDepth 100000
set_option maxHeartbeats 4000000
open Bool renaming true→Aa,false→Ad,and_eq_true→Al,false_ne_true→Av,not_eq_true'→Bh,eq_iff_iff→Cy,or_eq_true→Cz,or_false→DR,and_false→Fw,and_true→W6,false_and→W7,false_eq_true→W8,true_and→W9
open Option renaming some→Ab,none→Af,bind_eq_some_iff→Dz,isSome_iff_exists→Ef,map_some→HF,bind_some→XY,getD_none→XZ,isNone_iff_eq_none→X1,isSome_map→X2
open _root_ renaming List→Ac,Int→Ae,Nat→Ag,Bool→Ai,Option→Ao,if_pos→Ax,if_neg→Ay,decide_eq_true_eq→AK,of_decide_eq_true→AQ,beq_iff_eq→AS,False→AU,Array→A7,dif_neg→BS,decide_eq_false→Ca,beq_eq_false_iff_ne→Cw,beq_self_eq_true→CF,String→CO,or_false→CV,decide_eq_false_iff_not→Ew,if_true→ER,not_or→E8,decide_eq_true→FE,Decidable→F5,Unit→GJ,True→Hq,if_false→IM,bne_iff_ne→Kx
open PySem renaming Addr→Ah,Value→Aj,Str→Ak,Expr→Am,wpAny_bind→An,Shared→Aq,starEach→Ar,wpAny→Az,wpAny_pure→AC,Heap→AF,Pos→AJ,Stmt→AN,Program→AO,World→AW,Around→AZ,mainGlobals→A4,backTo→Bv,cLine→Bx,wpAny_mono→By,FuncData→BO,wpAny_field→BP,compareOp→B4,Scope→B6,binaryOp→B7,assignEach→B9,swapsWith→Cd,Env→Ch,wpAny_truthy_bool→Cq,Tok→Cr,mem_of_lookup→Ct,wpAny_holding→CH,CmpOp→CJ,Keyword→CK,wpAny_callSpecial?_slot→CN,foldedSetIterable→CQ,wpAny_newObj_type→CS,bootBuiltins→C4,Obj→C9,cellsFrom→Dg,wpAny_seqItems→DB,PassesOwn→DH,tupleKind_room_in1→DJ,wpAny_setField_rec→DK,attributeBase→DX,sysModules→D6,sizeLine_eq→Eb,NameKind→Eh,rawInt→Ei,wpAny_Call_Name_kw→EA,GenState→EC,keywordEach→ED,wpAny_pyIter_list→EJ,IsPair→EN,wpAny_call_entry→EU,ExceptHandler→E7,sliceBounds→Fa,wpAny_execs_nil→Fm,wpAny_passesOwn→Fn,Operator→Ft,BindsTo→FA,wpAny_rule→FC,wpAny_setField→FD,swappedStores→FW,wpAny_onRaise→FX,backToKw→FZ,codeAny→F7,IsZip→Gh,codeAny_mono→Gm,letOwnedTupleGo→Gn,wpAny_updateSeq_pair→Go,atKey→GZ,noteFrame→G2,pushCells→G3,wpAny_pyIter_tuple→G4,behindInMarks→G5,swapsWithSole→G6,wpAny_standAt→G7,Model→Hf,OsState→Hg,callerA→Hh,IsPart→Hl,Paired→Hm,wpAny_eqBool_int→Hn,wpAny_execs_cons→Ho,Drawn→HG,pushCells_keeps→HH,setFlight→HI,wpAny_letGo→HM,Result→Ia,dictSetDefault→Ie,isTrue→Ig,newFunctionEnv→Ih,notedBy→Ii,pyNext→Ik,standAt→Il,bindC→Im,bindL→Io,builtinsNs→Ip,entryOfKey→Iq,Comprehension→IN,callSpecial?→IT,call_meetsIn→IU,concat_meets→IV,lastMarks→IW,preSum→IX,seqIndex_neg→IY,getItem→Jy,setItem→Jz,seqIndex_of→JC,handleBy→JE,call→Ks,call_meets→Kt,typeIs_int→Ku,wpAny_Name→Kv,wpAny_call→Kw,UnaryOp→Ky,Meets→LK,IntMulOk→LP,Params→LQ,bindArgs→LR,pyIter→LS,call_sum_walkG→Zv,checkBuiltinCall→Zw,codeAny_call_builtin→Zx,firstArgMember→Zy,noFill_tuple_add→Zz,recursionLimit→ZA,richCompare_meets_room→ZB,slot_list_getitem→ZC,wpAny_Call_method_late→ZD,wpAny_assign_Name→ZE,wpAny_comprehension_free→ZF,wpAny_dictEntries→ZG,wpAny_forIn_list→ZH,wpAny_pyIter_enum→ZI,wpAny_pyIter_zip→ZJ,wpAny_pyNext_list_end→ZK,wpAny_pyNext_list_item→ZL
open PySem.Heap renaming get?_push_of_some→Au,lt_size→AH,get?_push_size→AI,size_push→BX,get?_update_other→C3,get?_update_self→Dd,SameBut→DG,get?_none_of_le→Gg,ExtBut→HL,get?_push_cases→Y_0
open List renaming mem_cons_of_mem→Aw,mem_cons_self→AA,mem_cons→AD,size_toArray→AE,length_append→AM,length_set→AT,getElem?_eq_some_iff→AX,length_cons→AY,range→A1,mem_singleton→A2,map_cons→A8,length_map→A9,mem_range→Bb,length_singleton→Bj,mem_map→Bk,mem_append_right→Bl,not_mem_nil→Bm,append_nil→Bp,any_eq_true→BQ,getElem?_set_self→BW,getElem?_eq_getElem→B1,lookup_cons→Cb,map_map→C2,getElem_mem→C8,map_append→Di,mem_append→Dj,getElem?_map→Dr,filter_cons→DA,mem_filter→DO,all_cons→DS,getD_eq_getElem?_getD→DT,append_assoc→DZ,isEmpty_eq_false_iff→D0,mem_of_getElem?→D3,all_eq_true→Ec,exists_of_findSome?_eq_some→Ed,find?_cons→Ez,take_of_length_le→EB,findSome?_eq_none_iff→E5,filter_eq_self→Fd,drop_eq_getElem_cons→Fi,getElem?_append_left→Fj,nodup_cons→Fk,toArray→Fp,getElem?_set_self'→FF,range_succ_eq_map→FO,any_cons→FS,length_filter_le→F6,foldl_cons→F9,getElem?_set_ne→Ga,mem_append_left→Gb,filterMap_cons→GC,findSome?_cons→GD,getElem_of_mem→GE,map_congr_left→GF,forIn_nil→GH,replicate→GI,getElem?_set→Hd,length_take→Hk,forIn_cons→HC,of_mem_zip→HE,nodup_nil→H9,map_nil→IR,map→JD,all_map→Xj,any_eq_false→Xk,any_map→Xl,contains_eq_mem→Xn,drop_eq_nil_of_le→Xo,drop_zero→Xp,ext_getElem?→Xq,getElem?_append_right→Xr,getElem?_cons_succ→Xs,getElem?_cons_zero→Xu,getElem?_replicate→Xv,getElem_inj→Xx,length_drop→Xy,length_replicate→Xz,lookup→XB,mem_map_of_mem→XC,nodup_append→XD,reverse_cons→XF,set_set→XG,take_left'→XH,take_sublist→XI,zipIdx_cons→XJ,zipIdx_nil→XM
open Nat renaming lt_of_lt_of_le→AG,le_refl→AV,ne_of_lt→Be,lt_irrefl→Br,ble_eq_true_of_le→BG,le_trans→Ck,ble→Ds,lt_succ_of_lt→Dt,mod_eq_of_lt→Ee,le_of_ble_eq_true→EK,ne_of_gt→EL,lt_succ_self→ES,pow_le_pow_right→ET,zero_add→Fq,le_of_lt→Gc,lt_of_le_of_lt→G0,zero_le→HK,add_comm→XN,le_of_eq→XO,min_eq_left→XQ,min_self→XS,not_lt→XU,not_lt_zero→XV
open Int renaming emod_eq_of_lt→A3,emod_lt_of_pos→Bc,emod_nonneg→Bf,emod_emod_of_dvd→BN,mul_comm→BZ,mul_emod→B0,dvd_refl→CZ,one_mul→C1,zero_emod→C7,toNat_natCast→Dq,zero_add→DF,mul_one→E9,sub_zero→Fo,mul_assoc→FR,mul_zero→F8,le_refl→HJ,mul_pos→JA,add_emod→Xb,mul_nonneg→Xc,mul_sub→Xd,ne_of_gt→Xe,sub_add_cancel→Xf,sub_emod→Xg,toNat_of_nonneg→Xh,zero_mul→Xi
open Option.some renaming inj→Bg,injEq→Cp
open False renaming elim→Bo
open PySem.W renaming findIn→Bq,nsIn→BA,keepIn→BL,subIn→BM,mg_none_of→Cf,fnOf→Cm,mg_of→Cn,mroIn→CG,kitOne→CM,emptyDict→CP,clsIn→Dv,instObj→DQ,codeIn→EQ,typeIn→FB,OpenLaw→FQ,looks_findIn→Gk,callWith_K→G1,methodObj→He,kitAny→Ib,lookIn→Ic,excIn→IQ,WalkO→Zl,cellsFrom_some→Zm,isNs_of_in→Zn,kIn_of→Zo,kitMeta→Zp,looks_subIn→Zq,nsOkIn→Zr,plainGet→Zs,tail_of_in→Zt
open PySem.Builtin.SmallTypes renaming nextOf→BK,ownedTupleIsFree→CI,ownedTupleHandOut→Yc
open PySem.NameKind renaming cell→BR,free→DW
open PyProof.Rows renaming callWith_type1→CW,IntsAre→CY,envOfC→E6,AllBare→Fx,subscriptTail_builtinR→FP,boot_isinstance→Gd,IsTup→Ko,boot_list→X3,boot_tuple→X4,slicePart_none→X5,slot_tuple_getitem→X6
open PySem.Obj renaming data_mapFields→De,isFreed_of_fields→EO,mapFields→FU,mapSeq→Gi,cls_mapFields→Y_1,data_mapDictKeys→Y_2
open Prod renaming ext→Dk
open PySem.Builtin.List renaming listTooLong→Dl
open PySem.Value renaming ref→Du,none→D5,builtin→FV,int→LJ,bool→Zg,str→Zh,type→Zi
open PySem.Str renaming ofString→DI
open Classical renaming choose_spec→DN,choose→Xa
open Ne renaming symm→DP
open PySem.F renaming slot_tuple_iterator_next→DV,plainAttrs_list→En,slot_list_extend→EM,slot_zip_next→Gf,args_list_extend_2→YK,args_tuple_add_2→YL,args_tuple_iterator_next_1→YM,args_zip_next_1→YN,entry_list_extend→YO,entry_tuple_add→YQ,entry_tuple_iterator_next→YR,entry_zip_next→YS,slot_dict_len→YT,slot_list_append→YU,slot_tuple_add→YV,typeOf_object_class→YW,type_list_append→YX,type_list_extend→YY
open PySem.Builtin.Slice renaming slicePlaces→D4,sliceAdjust→Fl,sliceApplied→Yb
open PySem.Builtin.Tuple renaming tupleExact→Eg,tupleCompareSizes→Yd
open PySem.Heap.SameBut renaming update→Em,refl→YZ
open ForInStep renaming yield→Ey
open Array renaming length_toList→Fc,find?_toList→W4,toList→W5
open PySem.AutoSeq1 renaming sub_tuple_tuple→Fs,wpAny_loadPart'→X7
open Eq renaming trans→FY,symm→MC
open PySem.Calls renaming evalArgs_plain→Ge,Name_function_global→Ye,callWith_builtin→Yg
open PySem.SeqAt renaming EqAt→Gj,RcNeAt→IS,RcAt→Kq
open Function renaming comp_def→Hc
open Sum renaming inl→Hi,inr→Hj
open PySem.Value.ref renaming inj→IP
open PySem.Shared renaming heap→JB
open NeZero renaming ne→LD
open PyProof.Rows.IsTup renaming new→LG
open PySem.Data renaming cell→LH,seq→LO
open List.cons renaming injEq→Xm
open Nat.succ renaming inj→XX
open PySem.BindsTo renaming of_defaults→X8
open PySem.Builtin.Int renaming intBits→X9
open PySem.EntryCells renaming newEntry→Yh
open PySem.Expr renaming Attribute→Yi,BinOp→Yk,BoolOp→Ym,Call→Yo,Compare→Yq,Constant→Ys,IfExp→Yu,List→Yw,ListComp→Yy,Name→YA,Slice→YC,Subscript→YE,Tuple→YG,UnaryOp→YI
open PySem.Expr.Attribute renaming elim→Yj
open PySem.Expr.BinOp renaming elim→Yl
open PySem.Expr.BoolOp renaming elim→Yn
open PySem.Expr.Call renaming elim→Yp
open PySem.Expr.Compare renaming elim→Yr
open PySem.Expr.Constant renaming elim→Yt
open PySem.Expr.IfExp renaming elim→Yv
open PySem.Expr.List renaming elim→Yx
open PySem.Expr.ListComp renaming elim→Yz
open PySem.Expr.Name renaming elim→YB
open PySem.Expr.Slice renaming elim→YD
open PySem.Expr.Subscript renaming elim→YF
open PySem.Expr.Tuple renaming elim→YH
open PySem.Expr.UnaryOp renaming elim→YJ
open PySem.Paired renaming length→Y_3
open PySem.SeqAt.EqAt renaming of_refs→Y_4,same→Y_5
open PySem.Stmt renaming Assign→Y_6,Expr→Y_8,Raise→Zc,Return→Ze
open PySem.Stmt.Assign renaming elim→Y_7
open PySem.Stmt.Expr renaming elim→Y_9
open PySem.Stmt.For renaming elim→Za
open PySem.Stmt.If renaming elim→Zb
open PySem.Stmt.Raise renaming elim→Zd
open PySem.Stmt.Return renaming elim→Zf
open PySem.W.WData renaming int→Zj
open PySem.W.WShape renaming has→Zk
open PySem.Walks renaming list→Zu
abbrev Fg:=PySem.W.Frag
abbrev Pn:=Ac (PySem.Addr×PySem.Obj)
abbrev Vq:=PySem.Value->PySem.Shared->Prop
set_option genSizeOfSpec false
-- CHANGE: your row's module here,as the last of these rows
namespace L2
open PySem PySem.Spec PyProof.Rows
abbrev Key:=Sum Ae Ak
noncomputable def WB:Key->Aj->Ai
 |.inl k,v=>Value.isInt k v
 |.inr x,v=>Value.isStrOf x v
noncomputable def aP(w:AW):Key->Ae
 |.inl k=>hashInt k
 |.inr x=>hashStr w x
theorem Iu:∀{k:Key}{v:Aj},WB k v=Aa->(∃ i t,k=Hi i/\v=LJ i t)\/(∃ x t,k=Hj x/\v=Zh x t)
 |.inl i,v,h=>by
  obtain⟨t,e⟩:=Value.isInt_shape (k:=i) (v:=v) h;exact .inl ⟨i,t,rfl,e⟩
 |.inr x,v,h=>by
  obtain⟨t,e⟩:=Value.isStrOf_shape (x:=x) (v:=v) h;exact .inr ⟨x,t,rfl,e⟩
theorem sX(a b:Ae):decide ((Hi a:Key)=Hi b)=(a==b):=by
 by_cases e:a=b
 .subst e;simp
 .have h:¬ (Hi a:Key)=Hi b:=λq=>e (Sum.inl.inj q)
  rw[Ca h];exact(Cw.mpr e).symm
theorem sU(a b:Ak):decide ((Hj a:Key)=Hj b)=decide (a=b):=by
 by_cases e:a=b
 .subst e;simp
 .have h:¬ (Hj a:Key)=Hj b:=λq=>e (Sum.inr.inj q)
  rw[Ca h,Ca e]
theorem sW(a:Ae)(b:Ak):decide ((Hi a:Key)=Hj b)=Ad:=Ca (λq=>nomatch q)
theorem sV(a:Ak)(b:Ae):decide ((Hj a:Key)=Hi b)=Ad:=Ca (λq=>nomatch q)
noncomputable def Qg(prog:AO)(w:AW):PySem.KeyKind prog w Key where
 is:=WB
 hash:=aP w
 inj:=λv a b ha hb=>by
  rcases Iu ha with ⟨i,t,rfl,rfl⟩|⟨x,t,rfl,rfl⟩
  .rcases Iu hb with ⟨j,u,rfl,e⟩|⟨y,u,rfl,e⟩
   .injection e with e1 _;rw[e1]
   .exact nomatch e
  .rcases Iu hb with ⟨j,u,rfl,e⟩|⟨y,u,rfl,e⟩
   .exact nomatch e
   .injection e with e1 _;rw[e1]
 byValue:=λk v h=>by
  rcases Iu h with ⟨i,t,rfl,rfl⟩|⟨x,t,rfl,rfl⟩<;>rfl
 pyHash:=λhv h=>by
  rcases Iu hv with ⟨i,t,rfl,rfl⟩|⟨x,t,rfl,rfl⟩
  .exact wpAny_pyHash_int h
  .exact wpAny_pyHash_str h
 eqBool:=λhu hv h=>by
  rcases Iu hu with ⟨i,t,rfl,rfl⟩|⟨x,t,rfl,rfl⟩
  .rcases Iu hv with ⟨j,u,rfl,rfl⟩|⟨y,u,rfl,rfl⟩
   .rw[sX]at h;exact Hn h
   .rw[sW]at h;exact SeqAt.EqAt.int_str i t y u _ _ _ _ h
  .rcases Iu hv with ⟨j,u,rfl,rfl⟩|⟨y,u,rfl,rfl⟩
   .rw[sV]at h;exact SeqAt.EqAt.str_int x t j u _ _ _ _ h
   .rw[sU]at h;exact wpAny_eqBool_str h
 «strs»:=λk x t v h=>by
  rcases Iu h with ⟨i,u,rfl,e⟩|⟨y,u,rfl,e⟩
  .exact nomatch e
  .injection e with e1 _
   subst e1;cases v<;>rfl
end L2
namespace L2
open PySem PySem.Spec PyProof.Rows
variable{us:Ac Aj}{a b it dx:Ah}{P:AO}{h:AF}{o:C9}{g':A7 EC}{t' i k n:Ag}{d':HG}{ch fp:Ac Ah}{x qual:Ak}{M:Hf}{u:Aj}{Q:GJ->Aq->Prop}{e c tg:Am}{s:Aq}{pos p:AJ}{pI:Pn}{es:Ac Am}{body:Ac AN}{f:Aj->Aj->Sem Aj}{g:Ae->Ae->Ae}{op:CJ}{mA:Ak->Ao Aj}{fd:BO}{ps:Ac Ak}{scope:B6}
inductive V where
 |non|bl (b:Ai)|int (i:Ae)|str (x:Ak)|byt (b:A7 UInt8)|flt (b:UInt64)|ref (a:Ah)|ty (n:CO)
 deriving DecidableEq
variable{xs vs:Ac V}{v:V}
def Bu:V->Aj->Prop
 |.non,u=>u=D5
 |.bl b,u=>u=Zg b
 |.int i,u=>∃ t,u=LJ i t
 |.str x,u=>∃ t,u=Zh x t
 |.byt b,u=>∃ t,u=Value.bytes b t
 |.flt b,u=>∃ t,u=Value.float b t
 |.ref a,u=>u=Du a
 |.ty n,u=>u=Zi n
noncomputable abbrev A6:Ac V->Ac Aj->Prop:=Hm Bu
theorem A6.length(r:A6 xs us):xs.length=us.length:=Y_3 r
theorem A6.get:∀{xs:Ac V}{us:Ac Aj}{i:Ag}{x:V},A6 xs us->xs[i]?=Ab x->∃ u,us[i]?=Ab u/\Bu x u
 |_,_,_,_,.nil,e=>by simp at e
 |_,_,0,_,.cons r _,e=>by simp at e;subst e;exact⟨_,rfl,r⟩
 |_,_,i+1,x,.cons _ t,e=>by
  obtain⟨u,h1,h2⟩:=A6.get (i:=i) (x:=x) t (by simpa using e)
  exact⟨u,by simpa using h1,h2⟩
theorem A6.set{x:V}{u:Aj}(r:Bu x u):∀{xs:Ac V}{us:Ac Aj}(i:Ag),A6 xs us->A6 (xs.set i x) (us.set i u)
 |_,_,_,.nil=>.nil
 |_,_,0,.cons _ t=>.cons r t
 |_,_,i+1,.cons q t=>.cons q (A6.set r i t)
theorem A6.append:∀{xs ys:Ac V}{us ws:Ac Aj},A6 xs us->A6 ys ws->A6 (xs++ys) (us++ws)
 |_,_,_,_,.nil,s=>s
 |_,_,_,_,.cons r t,s=>.cons r (A6.append t s)
theorem A6.take:∀{xs:Ac V}{us:Ac Aj}(n:Ag),A6 xs us->A6 (xs.take n) (us.take n)
 |_,_,0,_=>.nil
 |_,_,_+1,.nil=>.nil
 |_,_,n+1,.cons r t=>.cons r (A6.take n t)
theorem A6.drop:∀{xs:Ac V}{us:Ac Aj}(n:Ag),A6 xs us->A6 (xs.drop n) (us.drop n)
 |_,_,0,r=>r
 |_,_,_+1,.nil=>.nil
 |_,_,n+1,.cons _ t=>A6.drop n t
def Sg:Ao V->Ao Aj->Prop
 |some v,Ab u=>Bu v u
 |none,Af=>Hq
 |_,_=>AU
def KV{κ:Type}:Ac (κ×V)->Ac (κ×Aj)->Prop:=Hm fun(p:κ×V)(q:κ×Aj)=>p.1=q.1/\Bu p.2 q.2
noncomputable def kV:Key->V
 |.inl i=>.int i
 |.inr x=>.str x
inductive HO where
 /-- a list -/
 |lst (xs:Ac V)
 /-- a tuple (never changes) -/
 |tup (xs:Ac V)
 /-- a dict whose keys are ints and texts;one whose keys are tuples of ints and texts (the empty one is both) -/
 |dK (kvs:Ac (Key×V))|dT (kvs:Ac (Ac Key×V))
 /-- a set of ints: its members,its size -/
 |set (S:Ae->Ai) (n:Ag)
 /-- an instance of the class at C,its dict at dx,its attributes -/
 |ins (C dx:Ah) (fs:Ac (Ak×V))
 /-- the dict of the instance at x -/
 |own (x:Ah)
 /-- the dict of an exception -/
 |xd (fs:Ac (Ak×V))
 /-- a bound method,f of x -/
 |met (f x:Ah)
 /-- a range object lo,lo+1,.. below hi -/
 |rng (lo hi:Ae)
 /-- a thing that is known to the object (the script;a dict while a loop walks it): read,never written while it is so -/
 |frz (o:C9) (u:HO)
 /-- a code object's table -/
 |tbl (ps:A7 Aj)
 /-- any other thing,by what is Aa of its one object (a def of one's own: SetO a S n:=HO.ext fun h=>..) -/
 |ext (φ:AF->Prop)
abbrev Hp:=Ah->Ao HO
variable{H:Hp}
noncomputable def upd(H:Hp)(a:Ah)(o:HO):Hp:=λb=>if b=a then Ab o else H b
theorem Gp{o:HO}:upd H a o a=Ab o:=by unfold upd;rw[Ax rfl]
theorem B8{o:HO}(h:b≠a):upd H a o b=H b:=by unfold upd;rw[Ay h]
theorem FG{o:HO}(h:H a=Ab o)(h':H b=Af):a≠b:=by
 intro e;subst e;rw[h]at h';cases h'
section
variable(P:AO)(w:AW)
def ObjOk(H:Hp)(h:AF)(a:Ah):HO->Prop
  |.lst xs=>xs.length<=sizeLine/\∃(its:Ac Aj)(n:Ag),A6 xs its/\h.get? a=Ab { cls:=.type "list",data:=.seq its.toArray n }
  |.tup xs=>xs.length<=sizeLine/\∃ its:Ac Aj,A6 xs its/\Ko h a its.toArray
  |.dK kvs=>kvs.length<=sizeLine/\(a==D6)=Ad/\∃ vs,KV kvs vs/\h.DictOf (Qg P w) a vs
  |.dT kvs=>kvs.length<=sizeLine/\(a==D6)=Ad/\∃ xs:Ac (Ac Key×Ah×Aj),
      Hm (fun(p:Ac Key×V)(q:Ac Key×Ah×Aj)=>p.1=q.1/\H q.2.1=Ab (.tup (p.1.map kV))/\Bu p.2 q.2.2) kvs xs /\
      ∃ o es ep,h.get? a=Ab o/\o.ExactDict/\o.data=.dict es ep/\es.toList=xs.map (Iq (tupleKind (Qg P w)))/\(xs.map (·.1)).Nodup
  |.set S n=>h.SetOf (intKind P w) a S n
  |.ins C dx fs=>H dx=Ab (.own a)/\fs.length<=1000/\dx≠a/\h.get? a=Ab (DQ C dx) /\
      ∃ mA,h.Ns1 dx mA/\(∀ f,Sg (fs.lookup f) (mA f))/\PySem.Within mA (fs.map (·.1))
  |.own _=>∃ o,h.get? a=Ab o
  |.xd fs=>∃ mA,h.Ns1 a mA/\∀ f,Sg (fs.lookup f) (mA f)
  |.rng lo hi=>∃ t u v,h.get? a=Ab { cls:=.type "range",data:=.fields #[.int lo t,.int hi u,.int 1 v] }
  |.frz o u=>h.get? a=Ab o/\ObjOk H h a u
  |.tbl ps=>h.get? a=Ab {cls:=.none,data:=.fields ps}
  |.met f x=>h.get? a=Ab (He (.ref f) (.ref x))
  |.ext φ=>φ h/\(∃ o,h.get? a=Ab o)/\∀ h1 h2:AF,φ h1->(∀ o,h1.get? a=Ab o->h2.get? a=Ab o)->φ h2
def HOk(H:Hp)(h:AF):Prop:=∀ a o,H a=Ab o->ObjOk P w H h a o
end
section
variable{P:AO}{w:AW}{H H':Hp}{h h':AF}{a:Ah}{o:HO}
theorem ObjOk.lt(x:ObjOk P w H h a o):a<h.objs.size:=by
 cases o with
 |lst xs=>obtain⟨_,_,_,_,e⟩:=x;exact AH e
 |tup xs=>obtain⟨_,_,_,p⟩:=x;exact p.lt
 |dK kvs=>obtain⟨_,_,_,_,o,_,_,e,_⟩:=x;exact AH e
 |dT kvs=>obtain⟨_,_,_,_,o,_,_,e,_⟩:=x;exact AH e
 |set S n=>obtain⟨o,_,_,_,e,_⟩:=x;exact AH e
 |ins C dx fs=>obtain⟨_,_,_,e,_⟩:=x;exact AH e
 |own y=>obtain⟨_,e⟩:=x;exact AH e
 |xd fs=>obtain⟨_,⟨_,_,_,e,_⟩,_⟩:=x;exact AH e
 |rng lo hi=>obtain⟨_,_,_,e⟩:=x;exact AH e
 |frz ob u=>obtain⟨e,_⟩:=x;exact AH e
 |tbl ps=>exact AH (show h.get? a=Ab _ from x)
 |met f y=>exact AH (show h.get? a=Ab _ from x)
 |ext φ=>obtain⟨_,⟨_,e⟩,_⟩:=x;exact AH e
theorem Hm.mapP{α β:Type}{F G:α->β->Prop}:∀{l₁:Ac α}{l₂:Ac β},Hm F l₁ l₂->(∀ a b,F a b->G a b)->Hm G l₁ l₂
 |_,_,.nil,_=>.nil
 |_,_,.cons r t,f=>.cons (f _ _ r) (Hm.mapP t f)
theorem ObjOk.stay(x:ObjOk P w H h a o)(k:∀ b u,(b=a\/H b=Ab (.own a))->h.get? b=Ab u->h'.get? b=Ab u)(ho:∀ b,H b=Ab (.own a)->H' b=Ab (.own a))(ht:∀ b xs,H b=Ab (.tup xs)->H' b=Ab (.tup xs)):ObjOk P w H' h' a o:=by
 induction o with
 |lst xs=>obtain⟨z,its,n,r,e⟩:=x;exact⟨z,its,n,r,k _ _ (.inl rfl) e⟩
 |tup xs=>obtain⟨z,its,r,ob,e,c⟩:=x;exact⟨z,its,r,ob,k _ _ (.inl rfl) e,c⟩
 |dK kvs=>obtain⟨z,y,vs,r,ob,es,ep,e,c⟩:=x;exact⟨z,y,vs,r,ob,es,ep,k _ _ (.inl rfl) e,c⟩
 |dT kvs=>
  obtain⟨z,y,xs,r,ob,es,ep,e,c⟩:=x;exact⟨z,y,xs,Hm.mapP r λp q z=>⟨z.1,ht _ _ z.2.1,z.2.2⟩,ob,es,ep,k _ _ (.inl rfl) e,c⟩
 |set S n=>obtain⟨ob,es,ep,t,e,c⟩:=x;exact⟨ob,es,ep,t,k _ _ (.inl rfl) e,c⟩
 |ins C dx fs=>
  obtain⟨d,z,ne,e,mA,⟨od,es,ep,e2,c⟩,r⟩:=x;exact⟨ho _ d,z,ne,k _ _ (.inl rfl) e,mA,⟨od,es,ep,k _ _ (.inr d) e2,c⟩,r⟩
 |own y=>obtain⟨ob,e⟩:=x;exact⟨ob,k _ _ (.inl rfl) e⟩
 |xd fs=>obtain⟨mA,⟨od,es,ep,e,c⟩,r⟩:=x;exact⟨mA,⟨od,es,ep,k _ _ (.inl rfl) e,c⟩,r⟩
 |rng lo hi=>obtain⟨t,u,v,e⟩:=x;exact⟨t,u,v,k _ _ (.inl rfl) e⟩
 |frz ob u ih=>obtain⟨e,q⟩:=x;exact⟨k _ _ (.inl rfl) e,ih q⟩
 |tbl ps=>
  have e:h.get? a=Ab {cls:=.none,data:=.fields ps}:=x;show h'.get? a=Ab {cls:=.none,data:=.fields ps};exact k a _ (.inl rfl) e
 |met f y=>
  have e:h.get? a=Ab (He (.ref f) (.ref y)):=x;show h'.get? a=Ab (He (.ref f) (.ref y));exact k a _ (.inl rfl) e
 |ext φ=>obtain⟨p,⟨o,e⟩,st⟩:=x;exact⟨st _ _ p λo q=>k _ _ (.inl rfl) q,⟨o,k _ _ (.inl rfl) e⟩,st⟩
theorem HOk.lt(x:HOk P w H h)(e:H a=Ab o):a<h.objs.size:=(x a o e).lt
theorem HOk.fresh(x:HOk P w H h)(e:h.objs.size<=a):H a=Af:=by
 cases q:H a with
 |none=>rfl
 |some u=>exact absurd (AG (x.lt q) e) (Br _)
theorem HOk.kept(x:HOk P w H h)(k:∀ b u,h.get? b=Ab u->h'.get? b=Ab u):HOk P w H h':=λa o e=>
 (x a o e).stay (λb u _ q=>k b u q) (λ_ q=>q) λ_ _ q=>q
theorem HOk.laid(x:HOk P w H h)(k:∀ b u,h.get? b=Ab u->h'.get? b=Ab u)(hp:h.objs.size<=a)(new:ObjOk P w (upd H a o) h' a o):HOk P w (upd H a o) h':=λb u e=>by
 have hn:=x.fresh hp;by_cases hb:b=a
 .subst hb;rw[Gp]at e;cases e;exact new
 .rw[B8 hb]at e;exact(x b u e).stay (λc v _ q=>k c v q) (λc q=>by rw[B8 (FG q hn)];exact q) λc xs q=>by rw[B8 (FG q hn)];exact q
end
def Rd(H:Hp)(a:Ah)(u:HO):Prop:=H a=Ab u\/∃ o,H a=Ab (.frz o u)
theorem Rd.ok{w:AW}{u:HO}(r:Rd H a u)(x:HOk P w H h):ObjOk P w H h a u:=by
 rcases r with r|⟨o,r⟩
 .exact x a u r
 .obtain⟨_,q⟩:=x a _ r;exact q
def Mut:Ao HO->Prop
 |some (.lst _)=>Hq
 |some (.dK _)=>Hq
 |some (.dT _)=>Hq
 |some (.set _ _)=>Hq
 |some (.ins _ _ _)=>Hq
 |some (.ext _)=>Hq
 |_=>AU
section
variable{P:AO}{w:AW}{H:Hp}{h h':AF}{x e:Ah}{o':HO}
theorem HOk.write(ok:HOk P w H h)(mu:Mut (H x))(he:e=x\/H e=Ab (.own x))(k:∀ b u,b≠e->h.get? b=Ab u->h'.get? b=Ab u)(heo:∃ u,h'.get? e=Ab u)(new:ObjOk P w (upd H x o') h' x o'):HOk P w (upd H x o') h':=λb u q=>by
 have nown:∀ c y,H c=Ab (.own y)->c≠x:=λc y r z=>by subst z;rw[r]at mu;exact mu
 have ntup:∀ c xs,H c=Ab (.tup xs)->c≠x:=λc xs r z=>by subst z;rw[r]at mu;exact mu
 by_cases hb:b=x
 .subst hb;rw[Gp]at q;cases q;exact new
 .rw[B8 hb]at q;by_cases hbe:b=e
  .have q':H b=Ab (.own x):=by
    rcases he with z|z
    .exact absurd (hbe.trans z) hb
    .rw[hbe];exact z
   rw[q]at q';cases q';obtain⟨v,hv⟩:=heo;exact⟨v,by rw[hbe];exact hv⟩
  .refine(ok b u q).stay (λc v hc r=>k c v ?_ r) (λc r=>by rw[B8 (nown c b r)];exact r) λc xs r=>by rw[B8 (ntup c xs r)];exact r
   rcases hc with rfl|hc
   .exact hbe
   .rintro rfl;rcases he with z|z
    .exact nown c b hc z
    .rw[hc]at z;cases z;exact hb rfl
end
structure Un (fs ex:Ac Ah) (H H':Hp) (h h':AF):Prop where
 keep:∀ b o,h.get? b=Ab o->H b=Af->b∉fs->b∉ex->h'.get? b=Ab o
 slot:∀ b o,h.get? b=Ab o->H b=Af->b∈fs->b∉ex->∃ sl,h'.get? b=Ab {o with slots:=sl}
 free:∀ b o,h.get? b=Ab o->H b=Af->b∉ex->H' b=Af
 there:∀ b o,h.get? b=Ab o->b∉ex->∃ o',h'.get? b=Ab o'
 tups:∀ b xs,H b=Ab (.tup xs)->H' b=Ab (.tup xs)
 frzs:∀ b o u,H b=Ab (.frz o u)->H' b=Ab (.frz o u)
 tbls:∀ b ps,H b=Ab (.tbl ps)->∃ more,H' b=Ab (.tbl (ps++more))
section
variable{fs fs' ex ex':Ac Ah}{H H1 H2:Hp}{h h1 h2 h':AF}{a x e:Ah}{o:HO}
theorem Un.any(u:Un fs ex H H1 h h1){ob:C9}(q:h.get? b=Ab ob)(n:H b=Af)(hx:b∉ex):∃ sl,h1.get? b=Ab {ob with slots:=sl}:=by
 by_cases hb:b∈fs
 .exact u.slot b ob q n hb hx
 .exact⟨ob.slots,u.keep b ob q n hb hx⟩
theorem Un.kept(k:∀ b u,h.get? b=Ab u->h'.get? b=Ab u):Un fs ex H H h h':=
 ⟨λb ob q _ _ _=>k b ob q,λb ob q _ _ _=>⟨ob.slots,k b ob q⟩,λ_ _ _ n _=>n,λb ob q _=>⟨ob,k b ob q⟩,λ_ _ q=>q,λ_ _ _ q=>q,λ_ ps q=>⟨#[],by rw[q];simp⟩⟩
theorem Un.refl:Un fs ex H H h h:=Un.kept λ_ _ q=>q
theorem Un.laid(k:∀ b u,h.get? b=Ab u->h'.get? b=Ab u)(hp:h.objs.size<=a)(hn:H a=Af):Un fs ex H (upd H a o) h h' where
 keep:=λb u q _ _ _=>k b u q
 slot:=λb u q _ _ _=>⟨u.slots,k b u q⟩
 free:=λb u q n _=>by rw[B8 (Be (AG (AH q) hp))];exact n
 there:=λb u q _=>⟨u,k b u q⟩
 tups:=λb xs q=>by rw[B8 (FG q hn)];exact q
 frzs:=λb u xs q=>by rw[B8 (FG q hn)];exact q
 tbls:=λb ps q=>⟨#[],by rw[B8 (FG q hn),q];simp⟩
theorem Un.write(mu:Mut (H x))(he:e=x\/H e=Ab (.own x))(k:∀ b u,b≠e->h.get? b=Ab u->h'.get? b=Ab u)(heo:∃ u,h'.get? e=Ab u):Un fs ex H (upd H x o) h h':=by
 have hx:∀ b,H b=Af->b≠x:=λb n z=>by subst z;rw[n]at mu;exact mu
 have hb:∀ b,H b=Af->b≠e:=λb n z=>by
  subst z;rcases he with r|r
  .exact hx b n r
  .rw[n]at r;cases r
 have hm:∀ b u,H b=Ab u->¬ Mut (Ab u)->b≠x:=λb u q nm z=>by subst z;rw[q]at mu;exact nm mu
 refine⟨λb u q n _ _=>k b u (hb b n) q,λb u q n _ _=>⟨u.slots,k b u (hb b n) q⟩,λb u q n _=>by rw[B8 (hx b n)];exact n,λb u q _=>?_,
  λb xs q=>by rw[B8 (hm b _ q λz=>z)];exact q,λb u xs q=>by rw[B8 (hm b _ q λz=>z)];exact q,λb ps q=>⟨#[],by rw[B8 (hm b _ q λz=>z),q];simp⟩⟩
 by_cases hbe:b=e
 .subst hbe;exact heo
 .exact⟨u,k b u hbe q⟩
end
noncomputable def trk(h:AF)(H:Hp):Ac Ah:=(A1 h.objs.size).filter λa=>(H a).isSome
noncomputable def IK(h:AF)(H:Hp):AF:=PySem.W.hideAll h (trk h H)
theorem eL(h:AF)(H:Hp):(IK h H).objs.size=h.objs.size:=PySem.W.hideAll_size _ _
theorem gY(e:h.get? b=Ab o)(n:H b=Af):(IK h H).get? b=Ab o:=
 PySem.W.hideAll_get _ e λhm=>by
  have q:(H b).isSome=Aa:=(DO.mp hm).2;rw[n]at q;simp at q
theorem oX(e:(IK h H).get? b=Ab o):h.get? b=Ab o/\H b=Af:=by
 have e':h.get? b=Ab o:=PySem.W.of_hideAll (trk h H) e;refine⟨e',?_⟩;cases q:H b with
 |none=>rfl
 |some x=>
  have hm:b∈trk h H:=DO.mpr ⟨Bb.mpr (AH e'),by simp[q]⟩
  have z:(IK h H).get? b=Af:=PySem.W.hideAll_none (trk h H) hm;rw[z]at e;cases e
noncomputable def pU(g h:AF)(L:Ah):Pn:=(A1 h.objs.size).filterMap λa=>if a=L\/(g.get? a).isSome=Aa then Af else (h.get? a).map λo=>(a,o)
noncomputable def rest(g h:AF)(L d:Ah):Pn:=(pU g h L).filter λp=>decide (p.1≠d)
structure Mod (K:Fg) (mg:Ak->Ao Aj) (base:AF):Prop where
 kin:K.In base
 glob:base.Ns A4 mg
 blt:∃ mb,base.Ns Ip mb/\∀ x:Ak,x≠"__name__"->mb x=C4 x
 nolimit:base.NoLimit
structure Cx where
 prog:AO
 w:AW
 K:Fg
 mg:Ak->Ao Aj
 base:AF
 A:AZ
 N:Ac Ak
 s₀:Aq
 H₀:Hp
 env:Ch
 outer:Ac Ch
 stack:Ac Ch
 ex:Ac Ah
 fn:Ak->Ai
 calm:Ai
 pn:Pn
 xe:Aj->Aq->Prop
variable{X:Cx}
noncomputable def frs(l:Ac Ch):Ac Ah:=l.filterMap (·.frame)
noncomputable abbrev Cx.fs(X:Cx):Ac Ah:=frs X.outer
def Vis(sc:B6)(x:Ak):Prop:=sc.names.lookup x=Ab .local\/sc.names.lookup x=Ab .cell\/sc.names.lookup x=Ab .free
def Loc(sc:B6)(x:Ak):Prop:=sc.names.lookup x=Ab .local\/sc.names.lookup x=Ab .cell
noncomputable def bS(env:Ch)(h:AF)(m:Ak->Ao Aj)(x:Ak)(u:Aj):Prop:=
 (env.kindOf x=Ab .local/\m x=Ab u)\/((env.kindOf x=Ab .cell\/env.kindOf x=Ab .free)/\∃ c,env.cells.lookup x=Ab c/\h.IsCell c (Ab u))
structure Cx.Ok (X:Cx):Prop where
 mod:Mod X.K X.mg X.base
 kind:X.env.scope.kind=.function
 glob:X.env.globals=A4
 blt:X.env.builtins=Ip
 above:X.s₀.heap.objs.size<=X.env.locals
 inj:∀ x y c,X.env.cells.lookup x=Ab c->X.env.cells.lookup y=Ab c->x=y
 has:∀ x,(X.env.kindOf x=Ab .cell\/X.env.kindOf x=Ab .free)->∃ c,X.env.cells.lookup x=Ab c
 cab:∀ x c,X.fn x=Aa->X.env.cells.lookup x=Ab c->X.s₀.heap.objs.size<=c
 hd:X.calm=Aa->X.A.handled=Af
 frames:X.A.frames=Ab X.stack
 stk:X.stack=X.outer\/(X.stack=X.env::X.outer/\X.env.frame=Ab X.env.locals)
 exf:∀ b∈X.ex,b≠X.env.locals/\∀ x c,X.env.cells.lookup x=Ab c->c≠b
 bs:∀ b o,X.base.get? b=Ab o->X.s₀.heap.get? b=Ab o/\X.H₀ b=Af
 bsz:X.base.objs.size<=X.s₀.heap.objs.size
 noex:∀ b o,X.base.get? b=Ab o->b∉X.ex
 exfs:∀ b∈X.ex,b∉X.fs
 funs:X.s₀.heap.FunFrames X.base X.outer
 frf:∀ b∈X.fs,X.H₀ b=Af
structure Inv (X:Cx) (pI:Pn) (Y:Ac (Ao V)) (H:Hp) (s:Aq):Prop where
 ok:X.Ok
 os:s.os=X.s₀.os
 bare:Fx s.gens
 base:Un X.fs X.ex X.H₀ H X.s₀.heap s.heap
 loc:∃ m,s.heap.Ns X.env.locals m/\∀(i:Ag)(x:Ak)(v:V),X.N[i]?=Ab x->Y[i]?=Ab (Ab v)->Vis X.env.scope x->∃ u,Bu v u/\bS X.env s.heap m x u
 cell:∀ x c,X.env.cells.lookup x=Ab c->∃ v,s.heap.IsCell c v
 free:H X.env.locals=Af
 freeC:∀ x c,X.env.cells.lookup x=Ab c->H c=Af
 pin:∀ p∈X.pn++pI,s.heap.get? p.1=Ab p.2/\H p.1=Af/\p.1≠X.env.locals/\p.1∉X.fs/\∀ v,p.2.data≠.cell v
 hok:HOk X.prog X.w H s.heap
 len:Y.length=X.N.length
section
variable{X:Cx}{pI:Pn}{Y:Ac (Ao V)}{H H':Hp}{s:Aq}{h':AF}
theorem Cx.Ok.nofr(ok:X.Ok)(e:X.base.get? b=Ab o):b∉X.fs:=λhb=>by
 have:=(ok.funs.mem hb).1;rw[e]at this;cases this
theorem Inv.bs(I:Inv X pI Y H s):∀ b o,X.base.get? b=Ab o->s.heap.get? b=Ab o/\H b=Af:=λb o e=>
 ⟨I.base.keep b o (I.ok.bs b o e).1 (I.ok.bs b o e).2 (I.ok.nofr e) (I.ok.noex b o e),I.base.free b o (I.ok.bs b o e).1 (I.ok.bs b o e).2 (I.ok.noex b o e)⟩
theorem Inv.bk(I:Inv X pI Y H s):∀ b o,X.base.get? b=Ab o->s.heap.get? b=Ab o:=λb o e=>(I.bs b o e).1
theorem Inv.mod(I:Inv X pI Y H s):Mod X.K X.mg X.base:=I.ok.mod
theorem Inv.kIn(I:Inv X pI Y H s):X.K.In s.heap:=I.ok.mod.kin.keeps I.bk
theorem Inv.lt(I:Inv X pI Y H s):X.env.locals<s.heap.objs.size:=let ⟨_,hn,_⟩:=I.loc;hn.lt
theorem Inv.sz(I:Inv X pI Y H s):X.s₀.heap.objs.size<=s.heap.objs.size:=Ck I.ok.above (Gc I.lt)
theorem Inv.nofs(I:Inv X pI Y H s)(h:s.heap.objs.size<=a):a∉X.fs:=λhb=>by
 obtain⟨_,o,ho,_⟩:=I.ok.funs.mem hb;exact absurd (AG (AH ho) (Ck I.sz h)) (Br _)
theorem Inv.cne(I:Inv X pI Y H s):∀ x c,X.env.cells.lookup x=Ab c->c≠X.env.locals:=λx c e z=>by
 obtain⟨v,o,ho,hd⟩:=I.cell x c e;obtain⟨m,⟨o',es,ep,ho',hd',_⟩,_⟩:=I.loc;rw[z,ho']at ho;cases ho;rw[hd']at hd;cases hd
theorem Inv.funs(I:Inv X pI Y H s):s.heap.FunFrames X.base X.outer:=by
 have all:∀(l:Ac Ch),(∀ b∈frs l,b∈X.fs)->X.s₀.heap.FunFrames X.base l->s.heap.FunFrames X.base l:=by
  intro l
  induction l with
  |nil=>intro _ _;trivial
  |cons env r ih=>
   intro hs hl;obtain⟨hk,⟨L,o,hf,hn,ho,hd⟩,hr⟩:=hl;have hL:L∈X.fs:=hs L (by unfold frs;rw[GC,hf];exact AA)
   obtain⟨sl,e⟩:=I.base.slot L o ho (I.ok.frf L hL) hL λz=>I.ok.exfs L z hL
   exact⟨hk,⟨L,_,hf,hn,e,hd⟩,ih (λb hb=>hs b (by unfold frs;rw[GC,hf];exact Aw _ hb)) hr⟩
 exact all X.outer (λ_ hb=>hb) I.ok.funs
theorem Inv.stack(I:Inv X pI Y H s):s.heap.FunFrames X.base X.stack:=by
 rcases I.ok.stk with e|⟨e,hf⟩
 .rw[e];exact I.funs
 .rw[e];obtain⟨m,hn,_⟩:=I.loc;refine .cons (by rw[I.ok.kind];decide) hf hn ?_ I.funs
  exact Gg (Ck I.ok.bsz I.ok.above)
theorem Inv.stkSub(I:Inv X pI Y H s):∀ b∈frs X.stack,b∈X.env.locals::X.fs:=λb hb=>by
 rcases I.ok.stk with e|⟨e,hf⟩
 .rw[e]at hb;exact Aw _ hb
 .rw[e]at hb;unfold frs at hb;rw[GC,hf]at hb;exact hb
theorem Inv.stkFree(I:Inv X pI Y H s):∀ b∈frs X.stack,H b=Af:=λb hb=>by
 rcases AD.mp (I.stkSub b hb) with e|hb
 .rw[e];exact I.free
 .obtain⟨_,o,ho,_⟩:=I.ok.funs.mem hb;exact I.base.free b o ho (I.ok.frf b hb) λz=>I.ok.exfs b z hb
theorem Inv.step(I:Inv X pI Y H s)(hch:∀ b∈ch,(b∈X.ex\/X.s₀.heap.objs.size<=b)/\b≠X.env.locals/\(∀ x c,X.env.cells.lookup x=Ab c->c≠b)/\∀ p∈X.pn++pI,p.1≠b)(keep:∀ b o,b≠X.env.locals->b∉X.fs->b∉ch->s.heap.get? b=Ab o->H b=Af->h'.get? b=Ab o)(slot:∀ b o,b≠X.env.locals->b∈X.fs->b∉ch->s.heap.get? b=Ab o->H b=Af->∃ sl,h'.get? b=Ab {o with slots:=sl})(free:∀ b o,b∉ch->s.heap.get? b=Ab o->H b=Af->H' b=Af)(there:∀ b o,b∉ch->s.heap.get? b=Ab o->∃ o',h'.get? b=Ab o')(tups:∀ b xs,H b=Ab (.tup xs)->H' b=Ab (.tup xs))(frzs:∀ b o u,H b=Ab (.frz o u)->H' b=Ab (.frz o u))(tbls:∀ b ps,H b=Ab (.tbl ps)->∃ more,H' b=Ab (.tbl (ps++more)))(ns:∀ m,s.heap.Ns X.env.locals m->h'.Ns X.env.locals m)(hok:HOk X.prog X.w H' h')(hg:Fx g'):Inv X pI Y H' {s with heap:=h',gens:=g',drawn:=d',toks:=t'}:=by
 have neL:∀ b o,X.s₀.heap.get? b=Ab o->b≠X.env.locals:=λb o e=>Be (AG (AH e) I.ok.above)
 have neC:∀ b o,X.s₀.heap.get? b=Ab o->b∉X.ex->b∉ch:=λb o e hx hb=>by
  rcases (hch b hb).1 with z|z
  .exact hx z
  .exact absurd (AG (AH e) z) (Br _)
 have cellK:∀ x c,X.env.cells.lookup x=Ab c->∀ v,s.heap.IsCell c v->h'.IsCell c v:=λx c e v ⟨o,ho,hd⟩=>by
  have nch:c∉ch:=λz=>(hch c z).2.2.1 x c e rfl
  by_cases hc:c∈X.fs
  .obtain⟨sl,q⟩:=slot c o (I.cne x c e) hc nch ho (I.freeC x c e);exact⟨_,q,hd⟩
  .exact⟨o,keep c o (I.cne x c e) hc nch ho (I.freeC x c e),hd⟩
 refine⟨I.ok,I.os,hg,⟨λb o e n hb hx=>?_,λb o e n hb hx=>?_,λb o e n hx=>?_,λb o e hx=>?_,λb xs e=>tups b xs (I.base.tups b xs e),λb o xs e=>frzs b o xs (I.base.frzs b o xs e),λb ps e=>?_⟩,?_,λx c e=>?_,?_,λx c e=>?_,λp hp=>?_,hok,I.len⟩
 .exact keep b o (neL b o e) hb (neC b o e hx) (I.base.keep b o e n hb hx) (I.base.free b o e n hx)
 .obtain⟨sl,e1⟩:=I.base.slot b o e n hb hx;obtain⟨sl',e2⟩:=slot b _ (neL b o e) hb (neC b o e hx) e1 (I.base.free b o e n hx);exact⟨sl',e2⟩
 .obtain⟨o',e1⟩:=I.base.there b o e hx;exact free b o' (neC b o e hx) e1 (I.base.free b o e n hx)
 .obtain⟨o',e1⟩:=I.base.there b o e hx;exact there b o' (neC b o e hx) e1
 .obtain⟨m1,e1⟩:=I.base.tbls b ps e;obtain⟨m2,e2⟩:=tbls b _ e1;exact⟨m1++m2,by rw[e2,Array.append_assoc]⟩
 .obtain⟨m,hn,hl⟩:=I.loc;refine⟨m,ns m hn,λi x v e1 e2 e3=>?_⟩
  obtain⟨u,r,l⟩:=hl i x v e1 e2 e3;refine⟨u,r,?_⟩;rcases l with l|⟨k,c,e,z⟩
  .exact .inl l
  .exact .inr ⟨k,c,e,cellK x c e _ z⟩
 .obtain⟨v,z⟩:=I.cell x c e;exact⟨v,cellK x c e v z⟩
 .obtain⟨m,⟨o,_,_,ho,_⟩,_⟩:=I.loc;exact free _ o (λz=>(hch _ z).2.1 rfl) ho I.free
 .obtain⟨v,o,ho,hd⟩:=I.cell x c e;exact free c o (λz=>(hch c z).2.2.1 x c e rfl) ho (I.freeC x c e)
 .obtain⟨e,n,ne,nf,d⟩:=I.pin p hp;have nch:p.1∉ch:=λz=>(hch p.1 z).2.2.2 p hp rfl
  exact⟨keep p.1 p.2 ne nf nch e n,free p.1 p.2 nch e n,ne,nf,d⟩
theorem Inv.un(I:Inv X pI Y H s)(u:Un X.fs [] H H' s.heap h')(hok:HOk X.prog X.w H' h'):Inv X pI Y H' {s with heap:=h',toks:=t'}:=by
 obtain⟨m,⟨o,es,ep,ho,r⟩,_⟩:=id I.loc;obtain⟨sl,hL⟩:=u.any ho I.free (by simp)
 exact I.step (g':=s.gens) (d':=s.drawn) (ch:=[]) (λ_ z=>nomatch z) (λb o _ hb _ e n=>u.keep b o e n hb (by simp)) (λb o _ hb _ e n=>u.slot b o e n hb (by simp)) (λb o _ e n=>u.free b o e n (by simp)) (λb o _ e=>u.there b o e (by simp)) u.tups u.frzs u.tbls (λm' hm=>by
  obtain⟨o',es',ep',ho',r'⟩:=hm;rw[ho]at ho';cases ho';exact⟨_,es',ep',hL,r'⟩) hok I.bare
theorem Inv.call(I:Inv X pI Y H s)(u:Un (frs X.stack) ch H H' s.heap h')(hok:HOk X.prog X.w H' h')(hg:Fx g')(hch:∀ b∈ch,(b∈X.ex\/X.s₀.heap.objs.size<=b)/\b≠X.env.locals/\(∀ x c,X.env.cells.lookup x=Ab c->c≠b)/\∀ p∈X.pn++pI,p.1≠b):Inv X pI Y H' {s with heap:=h',gens:=g',drawn:=d',toks:=t'}:=by
 obtain⟨m,⟨o,es,ep,ho,r⟩,_⟩:=id I.loc;obtain⟨sl,hL⟩:=u.any ho I.free λz=>(hch _ z).2.1 rfl
 exact I.step (ch:=ch) hch (λb o hL hb hc e n=>u.keep b o e n (λz=>(AD.mp (I.stkSub b z)).elim hL hb) hc) (λb o _ _ hc e n=>u.any e n hc) (λb o hc e n=>u.free b o e n hc) (λb o hc e=>u.there b o e hc) u.tups u.frzs u.tbls (λm' hm=>by
  obtain⟨o',es',ep',ho',r'⟩:=hm;rw[ho]at ho';cases ho';exact⟨_,es',ep',hL,r'⟩) hok hg
theorem Inv.turned(I:Inv X pI Y H s)(k:∀ b o,b≠it->s.heap.get? b=Ab o->h'.get? b=Ab o)(hn:H it=Af)(hL:it≠X.env.locals)(h1:it∈X.ex\/X.s₀.heap.objs.size<=it)(h2:∀ x c,X.env.cells.lookup x=Ab c->c≠it)(h3:∀ p∈X.pn++pI,p.1≠it):Inv X pI Y H {s with heap:=h',toks:=t'}:=by
 have nit:∀ b u,H b=Ab u->b≠it:=λb u e z=>by rw[z,hn]at e;cases e
 refine I.step (g':=s.gens) (d':=s.drawn) (ch:=[it]) (λb hb=>?_) (λb o _ _ hc e _=>k b o (λz=>hc (by simp[z])) e) (λb o _ _ hc e _=>⟨o.slots,k b o (λz=>hc (by simp[z])) e⟩) (λ_ _ _ _ n=>n)
  (λb o hc e=>⟨o,k b o (λz=>hc (by simp[z])) e⟩) (λ_ _ e=>e) (λ_ _ _ e=>e) (λb ps e=>⟨#[],by rw[e];simp⟩) (λm hm=>?_) (λb u e=>?_) I.bare
 .have e:b=it:=by simpa using hb
  subst e;exact⟨h1,hL,h2,h3⟩
 .obtain⟨o,es,ep,ho,r⟩:=hm;exact⟨o,es,ep,k _ o (DP hL) ho,r⟩
 .refine(I.hok b u e).stay (λc v hc q=>k c v ?_ q) (λ_ q=>q) λ_ _ q=>q
  rcases hc with z|z
  .rw[z];exact nit b u e
  .exact nit c _ z
theorem Inv.tok(I:Inv X pI Y H s)(t:Ag):Inv X pI Y H {s with toks:=t}:=I.un (h':=s.heap) (t':=t) Un.refl I.hok
theorem Inv.kept{t':Ag}(I:Inv X pI Y H s)(k:∀ b u,s.heap.get? b=Ab u->h'.get? b=Ab u):Inv X pI Y H {s with heap:=h',toks:=t'}:=I.un (Un.kept k) (I.hok.kept k)
theorem Inv.laid{a:Ah}{o:HO}{t':Ag}(I:Inv X pI Y H s)(k:∀ b u,s.heap.get? b=Ab u->h'.get? b=Ab u)(hp:s.heap.objs.size<=a)(new:ObjOk X.prog X.w (upd H a o) h' a o):Inv X pI Y (upd H a o) {s with heap:=h',toks:=t'}:=I.un (Un.laid k hp (I.hok.fresh hp)) (I.hok.laid k hp new)
theorem Inv.write{x e:Ah}{o:HO}{t':Ag}(I:Inv X pI Y H s)(mu:Mut (H x))(he:e=x\/H e=Ab (.own x))(k:∀ b u,b≠e->s.heap.get? b=Ab u->h'.get? b=Ab u)(heo:∃ u,h'.get? e=Ab u)(new:ObjOk X.prog X.w (upd H x o) h' x o):Inv X pI Y (upd H x o) {s with heap:=h',toks:=t'}:=I.un (Un.write mu he k heo) (I.hok.write mu he k heo new)
theorem Inv.pins_of{pins':Pn}(I:Inv X pI Y H s)(h:∀ p∈pins',s.heap.get? p.1=Ab p.2/\H p.1=Af/\p.1≠X.env.locals/\p.1∉X.fs/\∀ v,p.2.data≠.cell v):Inv X pins' Y H s:=
 ⟨I.ok,I.os,I.bare,I.base,I.loc,I.cell,I.free,I.freeC,λp hp=>(Dj.mp hp).elim (λz=>I.pin p (Gb _ z)) (h p),I.hok,I.len⟩
theorem PQ{N:Ac Ak}(hN:N.Nodup){j:Ag}(a:N[i]?=Ab x)(b:N[j]?=Ab x):i=j:=by
 obtain⟨h1,e1⟩:=AX.mp a;obtain⟨h2,e2⟩:=AX.mp b;exact(Xx hN).mp (e1.trans e2.symm)
theorem Tn{A:AZ}{E:Vq}(I:Inv X pI Y H s)(hN:X.N.Nodup)(hi:X.N[i]?=Ab x)(hx:Loc X.env.scope x)(r:Bu v u)(h:∀ s',Inv X pI (Y.set i (Ab v)) H s'->(∃ a,DG a s.heap s'.heap/\(a=X.env.locals\/X.env.cells.lookup x=Ab a))->Q () s')(hf:X.fn x=Aa\/X.env.scope.names.lookup x=Ab .local:=by first|exact .inl rfl|exact .inr rfl|assumption):Az M A (storeName X.env x u) Q E s:=by
 obtain⟨m,hn,hl⟩:=id I.loc;have hcls:(X.env.scope.kind==.class||(X.env.scope.kind==.module&&X.env.locals != X.env.globals))=Ad:=by rw[I.ok.kind];rfl
 have hiσ:i<Y.length:=by rw[I.len];exact(AX.mp hi).1
 have cne:=I.cne;have tracked:∀{a:Ah}{h':AF},(∃ o,s.heap.get? a=Ab o/\H a=Af)->DG a s.heap h'->HOk X.prog X.w H h':=λ{a h'} ha hs b ob e=>by
  obtain⟨_,_,hfree⟩:=ha;refine(I.hok b ob e).stay (λc w' hc q=>(hs.2 c ?_).trans q) (λ_ q=>q) λ_ _ q=>q
  rintro rfl;rcases hc with rfl|hc
  .rw[hfree]at e;cases e
  .rw[hfree]at hc;cases hc
 rcases hx with hk|hk
 .refine wpAny_storeName_local hk hn (λh' hn' hs=>?_) hcls
  obtain⟨oL,_,_,hoL,_⟩:=id hn;refine h _ ⟨I.ok,I.os,I.bare,⟨λb o e n hb hx=>?_,λb o e n hb hx=>?_,I.base.free,λb o e hx=>?_,I.base.tups,I.base.frzs,I.base.tbls⟩,⟨_,hn',λj y v' e1 e2 e3=>?_⟩,λy c e=>?_,I.free,I.freeC,λp hp=>?_,tracked ⟨oL,hoL,I.free⟩ hs,by simpa using I.len⟩ ⟨_,hs,.inl rfl⟩
  .exact(hs.2 b (Be (AG (AH e) I.ok.above))).trans (I.base.keep b o e n hb hx)
  .obtain⟨sl,e1⟩:=I.base.slot b o e n hb hx;exact⟨sl,(hs.2 b (Be (AG (AH e) I.ok.above))).trans e1⟩
  .obtain⟨o',e1⟩:=I.base.there b o e hx;exact⟨o',(hs.2 b (Be (AG (AH e) I.ok.above))).trans e1⟩
  .by_cases hj:j=i
   .subst hj;rw[hi]at e1;cases e1;rw[BW hiσ]at e2;cases e2;exact⟨u,r,.inl ⟨hk,by simp⟩⟩
   .rw[Ga (DP hj)]at e2;obtain⟨u',r',q⟩:=hl j y v' e1 e2 e3;refine⟨u',r',?_⟩;rcases q with ⟨k,e⟩|⟨k,c,e,z⟩
    .refine .inl ⟨k,?_⟩;have:y≠x:=λe=>hj (PQ hN e1 (e ▸ hi))
     simp[this,e]
    .exact .inr ⟨k,c,e,z.sameBut hs (cne y c e)⟩
  .obtain⟨w',z⟩:=I.cell y c e;exact⟨w',z.sameBut hs (cne y c e)⟩
  .obtain⟨e,n,ne,nf,d⟩:=I.pin p hp;exact⟨(hs.2 p.1 ne).trans e,n,ne,nf,d⟩
 .have hfn:X.fn x=Aa:=by
   rcases hf with z|z
   .exact z
   .rw[z]at hk;cases hk
  obtain⟨c,hc⟩:=I.ok.has x (.inl hk);obtain⟨w',z⟩:=I.cell x c hc;refine wpAny_storeName_cell I.ok.kind hk hc z (λh' hc' hs=>?_)
  obtain⟨oc,hoc,hocd⟩:=id z;refine h {s with heap:=h'} ⟨I.ok,I.os,I.bare,⟨λb o e n hb hx=>?_,λb o e n hb hx=>?_,I.base.free,λb o e hx=>?_,I.base.tups,I.base.frzs,I.base.tbls⟩,⟨m,hn.sameBut hs (DP (cne x c hc)),λj y v' e1 e2 e3=>?_⟩,λy c' e=>?_,I.free,I.freeC,λp hp=>?_,tracked ⟨oc,hoc,I.freeC x c hc⟩ hs,by simpa using I.len⟩ ⟨c,hs,.inr hc⟩
  .exact(hs.2 b (Be (AG (AH e) (I.ok.cab x c hfn hc)))).trans (I.base.keep b o e n hb hx)
  .obtain⟨sl,e1⟩:=I.base.slot b o e n hb hx;exact⟨sl,(hs.2 b (Be (AG (AH e) (I.ok.cab x c hfn hc)))).trans e1⟩
  .obtain⟨o',e1⟩:=I.base.there b o e hx;exact⟨o',(hs.2 b (Be (AG (AH e) (I.ok.cab x c hfn hc)))).trans e1⟩
  .by_cases hj:j=i
   .subst hj;rw[hi]at e1;cases e1;rw[BW hiσ]at e2;cases e2;exact⟨u,r,.inr ⟨.inl hk,c,hc,hc'⟩⟩
   .rw[Ga (DP hj)]at e2;obtain⟨u',r',q⟩:=hl j y v' e1 e2 e3;refine⟨u',r',?_⟩;rcases q with q|⟨k,c',e,z'⟩
    .exact .inl q
    .refine .inr ⟨k,c',e,z'.sameBut hs ?_⟩;rintro rfl;exact hj (PQ hN e1 (I.ok.inj _ _ _ e hc ▸ hi))
  .by_cases hcc:c'=c
   .subst hcc;exact⟨_,hc'⟩
   .obtain⟨w2,z2⟩:=I.cell y c' e;exact⟨w2,z2.sameBut hs hcc⟩
  .obtain⟨e,n,ne,nf,d⟩:=I.pin p hp;refine⟨(hs.2 p.1 ?_).trans e,n,ne,nf,d⟩;intro q;rw[q,hoc]at e;have q':oc=p.2:=Bg e;exact d w' (by rw[<-q'];exact hocd)
theorem Pz{A:AZ}{E:Vq}(I:Inv X pI Y H s)(hN:X.N.Nodup)(hi:X.N[i]?=Ab x)(hx:Loc X.env.scope x)(r:Bu v u)(h:∀ s',Inv X pI (Y.set i (Ab v)) H s'->Q () s')(hf:X.fn x=Aa\/X.env.scope.names.lookup x=Ab .local:=by first|exact .inl rfl|exact .inr rfl|assumption):Az M A (storeName X.env x u) Q E s:=
 Tn I hN hi hx r (λs' I' _=>h s' I') hf
theorem Inv.call'{s':Aq}(I:Inv X pI Y H s)(ho:s'.os=s.os)(u:Un (frs X.stack) ch H H' s.heap s'.heap)(hok:HOk X.prog X.w H' s'.heap)(hg:Fx s'.gens)(hch:∀ b∈ch,(b∈X.ex\/X.s₀.heap.objs.size<=b)/\b≠X.env.locals/\(∀ x c,X.env.cells.lookup x=Ab c->c≠b)/\∀ p∈X.pn++pI,p.1≠b):Inv X pI Y H' s':=by
 obtain⟨h',g',d',t',o'⟩:=s';have e:o'=s.os:=ho;subst e;exact I.call (g':=g') (t':=t') (d':=d') u hok hg hch
end
abbrev XK:=Aj->Ao Ah->Hp->Prop
abbrev St:=Ac (Ao V)
variable{Y:St}
abbrev VK:=V->Hp->Prop
abbrev TE:=St->Hp->VK->Prop
variable{te:TE}
abbrev TT:=St->Hp->(Ai->Hp->Prop)->Prop
abbrev TA:=St->Hp->(Ac V->Hp->Prop)->Prop
variable{ta:TA}
structure Ends where
 nx:St->Hp->Prop
 rt:VK
 bk:St->Hp->Prop:=λ_ _=>AU
 ct:St->Hp->Prop:=λ_ _=>AU
abbrev TS:=Ends->St->Hp->Prop
def EP(X:Cx)(pI:Pn)(Y:St)(Q:VK)(u:Aj)(s':Aq):Prop:=∃ v H',Inv X pI Y H' s'/\Bu v u/\Q v H'
def TP(X:Cx)(pI:Pn)(Y:St)(Q:Ai->Hp->Prop)(b:Ai)(s':Aq):Prop:=∃ H',Inv X pI Y H' s'/\Q b H'
def AP(X:Cx)(pI:Pn)(Y:St)(Q:Ac V->Hp->Prop)(us:Ac Aj)(s':Aq):Prop:=∃ vs H',Inv X pI Y H' s'/\A6 vs us/\Q vs H'
noncomputable def SP(X:Cx)(pI:Pn)(D:Ends)(f:Flow)(s':Aq):Prop:=
  match f with
  |.next=>∃ Y' H',Inv X pI Y' H' s'/\D.nx Y' H'
  |.brk=>∃ Y' H',Inv X pI Y' H' s'/\D.bk Y' H'
  |.cont=>∃ Y' H',Inv X pI Y' H' s'/\D.ct Y' H'
  |.ret u=>∃ v Y' H',Inv X pI Y' H' s'/\Bu v u/\D.rt v H'
noncomputable def PE(X:Cx)(e:Am)(t:TE):Prop:=
 ∀(pI:Pn)(s:Aq)(Y:St)(H:Hp)(Q:VK),Inv X pI Y H s->t Y H Q->Az (model X.prog X.w) X.A (eval e X.env) (EP X pI Y Q) X.xe s
noncomputable def PT(X:Cx)(e:Am)(t:TT):Prop:=
 ∀(pI:Pn)(s:Aq)(Y:St)(H:Hp)(Q:Ai->Hp->Prop),Inv X pI Y H s->t Y H Q->Az (model X.prog X.w) X.A (Ig e X.env (eval e X.env)) (TP X pI Y Q) X.xe s
noncomputable def PW(X:Cx)(e:Am)(t:TT):Prop:=
 ∀(whole:Sem Aj)(pI:Pn)(s:Aq)(Y:St)(H:Hp)(Q:Ai->Hp->Prop),Inv X pI Y H s->t Y H Q->Az (model X.prog X.w) X.A (Ig e X.env whole) (TP X pI Y Q) X.xe s
theorem PW.pt{t:TT}(h:PW X e t):PT X e t:=h _
noncomputable def PA(X:Cx)(es:Ac Am)(t:TA):Prop:=
 ∀(pos:AJ)(pI:Pn)(s:Aq)(Y:St)(H:Hp)(Q:Ac V->Hp->Prop),Inv X pI Y H s->t Y H Q->Az (model X.prog X.w) X.A (spliced (Bv pos (Ar es X.env))) (AP X pI Y Q) X.xe s
noncomputable def PS(X:Cx)(st:AN)(t:TS):Prop:=
 ∀(pI:Pn)(s:Aq)(Y:St)(H:Hp)(D:Ends),Inv X pI Y H s->t D Y H->Az (model X.prog X.w) X.A (exec st X.env) (SP X pI D) X.xe s
noncomputable def PSs(X:Cx)(st:Ac AN)(t:TS):Prop:=
 ∀(pI:Pn)(s:Aq)(Y:St)(H:Hp)(D:Ends),Inv X pI Y H s->t D Y H->Az (model X.prog X.w) X.A (execs st X.env) (SP X pI D) X.xe s
theorem thn{α:Type}{t:Sem α}{Q Q':α->Aq->Prop}{A:AZ}{E:Vq}(h:Az M A t Q E s)(hQ:∀ a s,Q a s->Q' a s):Az M A t Q' E s:=By h hQ λ_ _ x=>x
section
variable{X:Cx}
def Gx(i:Ag):TE:=λY H Q=>∃ v,Y[i]?=Ab (Ab v)/\Q v H
def tC(v:V):TE:=λ_ H Q=>Q v H
theorem Wi(hN:X.N[i]?=Ab x)(hv:Vis X.env.scope x)(hd:(x==("__debug__" : Ak))=Ad:=by decide)(hcd:(x==("__classdict__" : Ak))=Ad:=by decide):PE X (.Name x pos) (Gx i):=by
 intro pI s Y H Q I h;obtain⟨v,e,h⟩:=h;obtain⟨m,hn,hl⟩:=I.loc;obtain⟨u,r,l⟩:=hl i x v hN e hv;have fin:EP X pI Y Q u s:=⟨v,H,I,r,h⟩;rcases l with ⟨hk,hm⟩|⟨hk,c,hc,hcell⟩
 .exact Kv (wpAny_loadName_local I.ok.kind hk hn hm fin) hd
 .rcases hk with hk|hk
  .exact Kv (wpAny_loadName_cell I.ok.kind hk hc hcell fin) hd
  .exact Kv (wpAny_loadName_free I.ok.kind hk hc hcell fin hcd) hd
theorem Wj{i j pos}:PE X (.Constant (.int i) j pos) (tC (.int i)):=λ_ _ _ H _ I h=>wpAny_Constant_int ⟨.int i,H,I.tok _,⟨_,rfl⟩,h⟩
theorem zF{b j pos}:PE X (.Constant (.bool b) j pos) (tC (.bl b)):=λ_ _ _ H _ I h=>Constant_bool ⟨.bl b,H,I,rfl,h⟩
theorem tG{j pos}:PE X (.Constant .none j pos) (tC .non):=λ_ _ _ H _ I h=>Constant_none ⟨.non,H,I,rfl,h⟩
theorem tD{x j pos}:PE X (.Constant (.str x) j pos) (tC (.str x)):=λ_ _ _ H _ I h=>Calls.Constant_str ⟨.str x,H,I.tok _,⟨_,rfl⟩,h⟩
def Gl(X:Cx)(x:Ak):Prop:=X.env.kindOf x=Ab .globalImplicit
theorem K8{E:Vq}{Q:Vq}(I:Inv X pI Y H s)(hg:Gl X x)(hm:X.mg x=Ab u)(h:Q u s)(hd:(x==("__debug__" : Ak))=Ad:=by decide):Az (model X.prog X.w) X.A (eval (.Name x pos) X.env) Q E s:=
 Ye I.ok.kind hg (Calls.loadGlobal_global (by rw[I.ok.glob];exact I.mod.glob.keeps I.bk) hm h) hd
theorem J6{E:Vq}{Q:Vq}(I:Inv X pI Y H s)(hg:Gl X x)(hm:X.mg x=Af)(hv:C4 x=Ab u)(h:Q u s)(hn:x≠"__name__" := by decide)(hd:(x==("__debug__" : Ak))=Ad:=by decide):Az (model X.prog X.w) X.A (eval (.Name x pos) X.env) Q E s:=by
 obtain⟨mb,h1,h2⟩:=I.mod.blt;exact Ye I.ok.kind hg (Calls.loadGlobal_builtin (by rw[I.ok.glob];exact I.mod.glob.keeps I.bk) hm (by rw[I.ok.blt];exact h1.keeps I.bk) ((h2 x hn).trans hv) h) hd
theorem Qb(hg:Gl X x)(hm:X.mg x=Ab u)(r:Bu v u)(hd:(x==("__debug__" : Ak))=Ad:=by decide):PE X (.Name x pos) (tC v):=
 λ_ _ _ H _ I h=>K8 I hg hm ⟨v,H,I,r,h⟩ hd
theorem Vi(hg:Gl X x)(hm:X.mg x=Af)(hv:C4 x=Ab u)(r:Bu v u)(hn:x≠"__name__" := by decide)(hd:(x==("__debug__" : Ak))=Ad:=by decide):PE X (.Name x pos) (tC v):=
 λ_ _ _ H _ I h=>J6 I hg hm hv ⟨v,H,I,r,h⟩ hn hd
variable{a b:Am}{ta tb:TE}{pos:AJ}
variable{tA tB':TT}{rest:Ac Am}
def aH(t u:TT):TT:=λY H Q=>t Y H λc H1=>if c=Aa then u Y H1 Q else Q Ad H1
def tOr(t u:TT):TT:=λY H Q=>t Y H λc H1=>if c=Aa then Q Aa H1 else u Y H1 Q
def bD(t:TT):TT:=λY H Q=>t Y H λc H1=>Q (!c) H1
theorem nE(ha:PT X a tA):PW X (.BoolOp .And [a] pos) tA:=by
 intro wh pI s Y H Q I h;refine isTrue_and (thn (ha pI s Y H Q I h) λc s1 e=>?_)
 cases c with
 |true=>exact isTrue_and_nil e
 |false=>exact e
theorem uP(ha:PT X a tA):PW X (.BoolOp .Or [a] pos) tA:=by
 intro wh pI s Y H Q I h;refine isTrue_or (thn (ha pI s Y H Q I h) λc s1 e=>?_)
 cases c with
 |false=>exact isTrue_or_nil e
 |true=>exact e
theorem uQ(ha:PT X a tA)(hb:PW X (.BoolOp .And (b::rest) pos) tB'):PW X (.BoolOp .And (a::b::rest) pos) (aH tA tB'):=by
 intro wh pI s Y H Q I h;refine isTrue_and (thn (ha pI s Y H _ I h) λc s1 ⟨H1,I1,q1⟩=>?_)
 cases c with
 |true=>exact hb wh pI s1 Y H1 Q I1 q1
 |false=>exact⟨H1,I1,q1⟩
theorem yZ(ha:PT X a tA)(hb:PW X (.BoolOp .Or (b::rest) pos) tB'):PW X (.BoolOp .Or (a::b::rest) pos) (tOr tA tB'):=by
 intro wh pI s Y H Q I h;refine isTrue_or (thn (ha pI s Y H _ I h) λc s1 ⟨H1,I1,q1⟩=>?_)
 cases c with
 |true=>exact⟨H1,I1,q1⟩
 |false=>exact hb wh pI s1 Y H1 Q I1 q1
theorem uR(ha:PT X a tA):PT X (.UnaryOp .Not a pos) (bD tA):=by
 intro pI s Y H Q I h;exact isTrue_not (ha pI s Y H (λc H1=>Q (!c) H1) I h)
def xV(ta tb:TE):TE:=λY H Q=>ta Y H λx H1=>∃ c,x=.bl c/\if c=Aa then tb Y H1 Q else Q (.bl Ad) H1
def bC(ta tb:TE):TE:=λY H Q=>ta Y H λx H1=>∃ c,x=.bl c/\if c=Aa then Q (.bl Aa) H1 else tb Y H1 Q
def xQ(ta:TE):TE:=λY H Q=>ta Y H λx H1=>∃ c,x=.bl c/\Q (.bl (!c)) H1
theorem tE{op}{t:TE}(h:PE X a t):PE X (.BoolOp op [a] pos) t:=λpI s Y H Q I hw=>BoolOp_one (h pI s Y H Q I hw)
theorem tJ(ha:PE X a ta)(hb:PE X (.BoolOp .And (b::rest) pos) tb):PE X (.BoolOp .And (a::b::rest) pos) (xV ta tb):=by
 intro pI s Y H Q I h;refine BoolOp_and (thn (ha pI s Y H _ I h) λv s1 ⟨x,H1,I1,r1,q1⟩=>?_)
 obtain⟨c,rfl,q1⟩:=q1;cases r1;refine Cq ?_;cases c with
 |true=>exact hb pI s1 Y H1 Q I1 q1
 |false=>exact⟨.bl Ad,H1,I1,rfl,q1⟩
theorem zE(ha:PE X a ta)(hb:PE X (.BoolOp .Or (b::rest) pos) tb):PE X (.BoolOp .Or (a::b::rest) pos) (bC ta tb):=by
 intro pI s Y H Q I h;refine BoolOp_or (thn (ha pI s Y H _ I h) λv s1 ⟨x,H1,I1,r1,q1⟩=>?_)
 obtain⟨c,rfl,q1⟩:=q1;cases r1;refine Cq ?_;cases c with
 |false=>exact hb pI s1 Y H1 Q I1 q1
 |true=>exact⟨.bl Aa,H1,I1,rfl,q1⟩
theorem tF(ha:PE X a ta):PE X (.UnaryOp .Not a pos) (xQ ta):=by
 intro pI s Y H Q I h;refine UnaryOp_ (thn (ha pI s Y H _ I h) λv s1 ⟨x,H1,I1,r1,q1⟩=>?_)
 obtain⟨c,rfl,q1⟩:=q1;cases r1;exact not_of (Cq ⟨.bl (!c),H1,I1,rfl,q1⟩)
def tIf(t:TT)(ta tb:TE):TE:=λY H Q=>t Y H λc H1=>if c=Aa then ta Y H1 Q else tb Y H1 Q
theorem TB(hc:PT X c tA)(ha:PE X a ta)(hb:PE X b tb):PE X (.IfExp c a b pos) (tIf tA ta tb):=by
 intro pI s Y H Q I h;refine wpAny_IfExp (thn (hc pI s Y H _ I h) λd s1 ⟨H1,I1,q1⟩=>?_)
 cases d with
 |true=>exact ha pI s1 Y H1 Q I1 q1
 |false=>exact hb pI s1 Y H1 Q I1 q1
end
noncomputable def SqL(K:Fg)(H:Hp)(a:Ah)(xs:Ac V):Prop:=
 Rd H a (.lst xs) \/
  ∃(o:C9)(its:A7 Aj)(n:Ag),K.lookup a=Ab o/\o.cls=.type "list"/\o.dict=Af/\o.data=.seq its n/\its.size<=sizeLine/\A6 xs its.toList
noncomputable def SqT(K:Fg)(H:Hp)(a:Ah)(xs:Ac V):Prop:=
 Rd H a (.tup xs) \/
  ∃(o:C9)(its:A7 Aj)(n:Ag),K.lookup a=Ab o/\o.cls=.type "tuple"/\o.data=.seq its n/\its.size<=sizeLine/\A6 xs its.toList
noncomputable def bN:Aj->Ao V
 |.none=>Ab .non
 |.bool b=>Ab (.bl b)
 |.int i _=>Ab (.int i)
 |.str x _=>Ab (.str x)
 |.bytes b _=>Ab (.byt b)
 |.float b _=>Ab (.flt b)
 |.ref a=>Ab (.ref a)
 |.type n=>Ab (.ty n)
 |_=>Af
theorem Bu.abs{x:V}(r:Bu x u):bN u=Ab x:=by
 cases x with
 |non=>cases r;rfl
 |bl _=>cases r;rfl
 |int _=>obtain⟨t,rfl⟩:=r;rfl
 |str _=>obtain⟨t,rfl⟩:=r;rfl
 |byt _=>obtain⟨t,rfl⟩:=r;rfl
 |flt _=>obtain⟨t,rfl⟩:=r;rfl
 |ref _=>cases r;rfl
 |ty _=>cases r;rfl
theorem Bu.inj{x y:V}(r:Bu x u)(q:Bu y u):x=y:=Bg (r.abs.symm.trans q.abs)
theorem A6.inj:∀{xs ys:Ac V}{us:Ac Aj},A6 xs us->A6 ys us->xs=ys
 |_,_,_,.nil,.nil=>rfl
 |_,_,_,.cons r t,.cons r' t'=>by rw[r.inj r',A6.inj t t']
section
variable{X:Cx}{pI:Pn}{Y:St}{H:Hp}{s:Aq}{a:Ah}{xs ys:Ac V}
theorem SqL.of{K:Fg}(h:H a=Ab (.lst xs)):SqL K H a xs:=.inl (.inl h)
theorem SqT.of{K:Fg}(h:H a=Ab (.tup xs)):SqT K H a xs:=.inl (.inl h)
theorem Inv.list(I:Inv X pI Y H s)(h:SqL X.K H a xs):∃ its:Ac Aj,A6 xs its/\PlainL s.heap a its.toArray/\xs.length<=sizeLine:=by
 rcases h with h|⟨o,its,n,hk,hc,hd,hs,hz,r⟩
 .obtain⟨z,its,n,r,e⟩:=h.ok I.hok;exact⟨its,r,⟨_,n,e,rfl,rfl,rfl⟩,z⟩
 .refine⟨its.toList,r,⟨o,n,I.kIn a o hk,hc,hd,by simpa using hs⟩,?_⟩
  have e:=r.length;simp only[Fc]at e;omega
theorem Inv.tuple(I:Inv X pI Y H s)(h:SqT X.K H a xs):∃ its:Ac Aj,A6 xs its/\Ko s.heap a its.toArray/\xs.length<=sizeLine:=by
 rcases h with h|⟨o,its,n,hk,hc,hs,hz,r⟩
 .obtain⟨z,its,r,p⟩:=h.ok I.hok;exact⟨its,r,p,z⟩
 .refine⟨its.toList,r,⟨o,I.kIn a o hk,hc,n,by simpa using hs⟩,?_⟩
  have e:=r.length;simp only[Fc]at e;omega
theorem Inv.list_inj(I:Inv X pI Y H s)(h:SqL X.K H a xs)(h':SqL X.K H a ys):xs=ys:=by
 obtain⟨its,r,⟨o,n,e,_,_,d⟩,_⟩:=I.list h;obtain⟨its',r',⟨o',n',e',_,_,d'⟩,_⟩:=I.list h';rw[e]at e';cases e';rw[d]at d'
 injection d' with d1 _
 have:its=its':=by simpa using congrArg W5 d1
 subst this;exact r.inj r'
theorem Inv.tuple_inj(I:Inv X pI Y H s)(h:SqT X.K H a xs)(h':SqT X.K H a ys):xs=ys:=by
 obtain⟨its,r,⟨o,e,_,n,d⟩,_⟩:=I.tuple h;obtain⟨its',r',⟨o',e',_,n',d'⟩,_⟩:=I.tuple h';rw[e]at e';cases e';rw[d]at d'
 injection d' with d1 _
 have:its=its':=by simpa using congrArg W5 d1
 subst this;exact r.inj r'
end
noncomputable abbrev Cx.wish(X:Cx)(E:Vq):Cx:={X with xe:=E}
noncomputable abbrev Cx.nox(X:Cx):Cx:=X.wish λ_ _=>AU
theorem Cx.Ok.wish(ok:X.Ok)(E:Vq):(X.wish E).Ok:=
 ⟨ok.mod,ok.kind,ok.glob,ok.blt,ok.above,ok.inj,ok.has,ok.cab,ok.hd,ok.frames,ok.stk,ok.exf,ok.bs,ok.bsz,ok.noex,ok.exfs,ok.funs,ok.frf⟩
theorem Cx.Ok.unwish{E:Vq}(ok:(X.wish E).Ok):X.Ok:=
 ⟨ok.mod,ok.kind,ok.glob,ok.blt,ok.above,ok.inj,ok.has,ok.cab,ok.hd,ok.frames,ok.stk,ok.exf,ok.bs,ok.bsz,ok.noex,ok.exfs,ok.funs,ok.frf⟩
section
variable{X:Cx}{pI:Pn}{Y:St}{H:Hp}{s:Aq}{E:Vq}
theorem Inv.wish(I:Inv X pI Y H s)(E:Vq):Inv (X.wish E) pI Y H s:=⟨I.ok.wish E,I.os,I.bare,I.base,I.loc,I.cell,I.free,I.freeC,I.pin,I.hok,I.len⟩
theorem Inv.unwish(I:Inv (X.wish E) pI Y H s):Inv X pI Y H s:=⟨I.ok.unwish,I.os,I.bare,I.base,I.loc,I.cell,I.free,I.freeC,I.pin,I.hok,I.len⟩
theorem SP.unwish{D:Ends}{f:Flow}{s':Aq}(h:SP (X.wish E) pI D f s'):SP X pI D f s':=by
 cases f with
 |next=>obtain⟨Y',H',I,q⟩:=h;exact⟨Y',H',I.unwish,q⟩
 |brk=>obtain⟨Y',H',I,q⟩:=h;exact⟨Y',H',I.unwish,q⟩
 |cont=>obtain⟨Y',H',I,q⟩:=h;exact⟨Y',H',I.unwish,q⟩
 |ret u=>obtain⟨v,Y',H',I,r,q⟩:=h;exact⟨v,Y',H',I.unwish,r,q⟩
theorem PSs.nox{st:Ac AN}{t:TS}(h:PSs X.nox st t):PSs X st t:=λpI s Y H D I hw=>
 By (h pI s Y H D (I.wish _) hw) (λ_ _ q=>q.unwish) λ_ _ z=>Bo z
end
section
variable{X:Cx}{st:AN}{rest:Ac AN}{t u:TS}{e:Am}{te:TE}{pos:AJ}
def xR:TS:=λD Y H=>D.nx Y H
def aY(t u:TS):TS:=λD Y H=>t {D with nx:=u D} Y H
theorem Nk:PSs X [] xR:=λ_ _ Y H _ I h=>Fm ⟨Y,H,I,h⟩
theorem PF(h1:PS X st t)(h2:PSs X rest u):PSs X (st::rest) (aY t u):=by
 intro pI s Y H D I h;refine Ho (thn (h1 pI s Y H {D with nx:=u D} I h) λf s1 q=>?_)
 cases f with
 |next=>
  obtain⟨Y',H',I',q⟩:=q;exact h2 pI s1 Y' H' D I' q
 |ret v=>exact q
 |brk=>exact q
 |cont=>exact q
theorem Jf(h1:PS X st t):PSs X [st] t:=by
 intro pI s Y H D I h;refine Ho (thn (h1 pI s Y H D I h) λf s1 q=>?_)
 cases f with
 |next=>exact Fm q
 |ret v=>exact q
 |brk=>exact q
 |cont=>exact q
theorem Inv.quiet(I:Inv X pI Y H s):interactive X.env=Ad:=by simp[interactive,I.ok.kind]
def xS(te:TE):TS:=λD Y H=>te Y H λ_ H1=>D.nx Y H1
theorem Jg(he:PE X e te)(hs:Cd e Af pos.line X.env=pure Ad:=by rfl):PS X (.Expr e pos) (xS te):=by
 intro pI s Y H D I h;exact wpAny_Expr_any (thn (he pI s Y H _ I h) λv s1 ⟨x,H1,I1,r1,q1⟩=>⟨Y,H1,I1,q1⟩) I.quiet hs
def aZ(te:TE):TS:=λD Y H=>te Y H D.rt
theorem Nu(he:PE X e te):PS X (.Return (Ab e) pos) (aZ te):=by
 intro pI s Y H D I h;exact wpAny_Return_some (thn (he pI s Y H _ I h) λv s1 ⟨x,H1,I1,r1,q1⟩=>⟨x,Y,H1,I1,r1,q1⟩)
def aF(c:TT)(t u:TS):TS:=λD Y H=>c Y H λb H1=>if b=Aa then t D Y H1 else u D Y H1
theorem Q5{a b:Ac AN}{tc:TT}(hc:PT X c tc)(ha:PSs X a t)(hb:PSs X b u):PS X (.If c a b pos) (aF tc t u):=by
 intro pI s Y H D I h;refine wpAny_If (thn (hc pI s Y H _ I h) λd s1 ⟨H1,I1,q1⟩=>?_)
 cases d with
 |true=>exact ha pI s1 Y H1 D I1 q1
 |false=>exact hb pI s1 Y H1 D I1 q1
end
abbrev TG:=V->St->Hp->(St->Hp->Prop)->Prop
abbrev TGs:=Ac V->St->Hp->(St->Hp->Prop)->Prop
noncomputable def PG(X:Cx)(target:Am)(t:TG):Prop:=
 ∀(pI:Pn)(s:Aq)(Y:St)(H:Hp)(v:V)(u:Aj)(Q:St->Hp->Prop),Inv X pI Y H s->Bu v u->t v Y H Q ->
  Az (model X.prog X.w) X.A (assign target X.env u) (λ_ s'=>∃ Y' H',Inv X pI Y' H' s'/\Q Y' H') X.xe s
noncomputable def PGs(X:Cx)(ts:Ac Am)(t:TGs):Prop:=
 ∀(pI:Pn)(s:Aq)(Y:St)(H:Hp)(vs:Ac V)(us:Ac Aj)(Q:St->Hp->Prop),Inv X pI Y H s->A6 vs us->t vs Y H Q ->
  Az (model X.prog X.w) X.A (assignInOrder ((B9 ts X.env).map (·.2)) us) (λ_ s'=>∃ Y' H',Inv X pI Y' H' s'/\Q Y' H') X.xe s
abbrev Oi:=V->V->V->Hp->(Hp->Prop)->Prop
noncomputable def Oy(X:Cx)(t:Oi):Prop:=
 ∀(pI:Pn)(s:Aq)(Y:St)(H:Hp)(o i v:V)(ov iv u:Aj)(Q:Hp->Prop),Inv X pI Y H s->Bu o ov->Bu i iv->Bu v u->t o i v H Q ->
  Az (model X.prog X.w) X.A (Jz ov iv u) (λ_ s'=>∃ H',Inv X pI Y H' s'/\Q H') X.xe s
section
variable{X:Cx}{pos:AJ}
def EE(i:Ag):TG:=λv Y H Q=>Q (Y.set i (Ab v)) H
theorem Mg(hN:X.N.Nodup)(hi:X.N[i]?=Ab x)(hx:Loc X.env.scope x)(hf:X.fn x=Aa\/X.env.scope.names.lookup x=Ab .local:=by first|exact .inl rfl|exact .inr rfl|assumption):PG X (.Name x pos) (EE i):=by
 intro pI s Y H v u Q I r h;exact ZE (Pz I hN hi hx r (λs' I'=>⟨_,H,I',h⟩) hf)
def Hy:TGs:=λvs Y H Q=>vs=[]/\Q Y H
def G8(t:TG)(u:TGs):TGs:=λvs Y H Q=>∃ v r,vs=v::r/\t v Y H λY' H'=>u r Y' H' Q
theorem Vh:PGs X [] Hy:=by
 intro pI s Y H vs us Q I r h;obtain⟨e,h⟩:=h;subst e;cases r;exact assignInOrder_nil ⟨Y,H,I,h⟩
theorem Tz{t:TG}{u:TGs}(h1:PG X e t)(h2:PGs X es u)(hs:(B9 (e::es) X.env).map (·.2)=assign e X.env::(B9 es X.env).map (·.2):=by rfl):PGs X (e::es) (G8 t u):=by
 intro pI s Y H vs us Q I r h;obtain⟨v,vr,e1,h⟩:=h;subst e1;cases r with
 |cons r rr=>
  rw[hs];refine assignInOrder_cons (thn (h1 pI s Y H _ _ _ I r h) λ_ s1 ⟨Y1,H1,I1,q1⟩=>?_)
  exact h2 pI s1 Y1 H1 _ _ Q I1 rr q1
def Ls(K:Fg)(n:Ag)(t:TGs):TG:=λv Y H Q=>∃ a xs,v=.ref a/\SqT K H a xs/\xs.length=n/\t xs Y H Q
theorem QF{t:TGs}(hc:X.calm=Aa)(h:PGs X es t)(hn:(B9 es X.env).length=n:=by rfl)(hst:(B9 es X.env).findIdx? (·.1)=Af:=by rfl):PG X (.Tuple es k pos) (Ls X.K n t):=by
 intro pI s Y H v u Q I r hw;obtain⟨a,xs,e1,hq,hl,hw⟩:=hw;subst e1;cases r;obtain⟨its,rv,ht,hz⟩:=I.tuple hq;refine assign_Tuple_tuple (I.ok.hd hc) ht (by simp[hn,<-hl,rv.length]) hst λh' hx=>?_
 have I1:Inv X pI Y H {s with heap:=h'}:=I.kept (t':=s.toks) λb o e=>hx b o (Be (AH e)) e
 exact h pI _ Y H xs _ Q I1 (by simpa using rv) hw
def aA(to ti:TE)(t:Oi):TG:=λv Y H Q=>to Y H λo H1=>ti Y H1 λi H2=>t o i v H2 λH3=>Q Y H3
theorem Wh{o i:Am}{to ti:TE}{t:Oi}(ho:PE X o to)(hi:PE X i ti)(hs:Oy X t)(ha:∀ v,assign (.Subscript o i pos) X.env v=(do
   let ov <-holding [v] (eval o X.env)
   let iv <-holding [v,ov] (eval i X.env)
   Il pos
   holding [v,ov,iv] (Jz ov iv v)
   release [v,ov,iv] []):=by intro _;rfl):PG X (.Subscript o i pos) (aA to ti t):=by
 intro pI s Y H v u Q I r h;rw[ha];refine An (CH (thn (ho pI s Y H _ I h) λov s1 ⟨x,H1,I1,r1,q1⟩=>?_))
 refine An (CH (thn (hi pI s1 Y H1 _ I1 q1) λiv s2 ⟨y,H2,I2,r2,q2⟩=>?_))
 refine An (G7 (An (CH (thn (hs pI s2 Y H2 x y v ov iv u _ I2 r1 r2 r q2) λ_ s3 ⟨H3,I3,q3⟩=>?_))))
 exact wpAny_release ⟨Y,H3,I3,q3⟩
def Mv(te:TE)(g:TG):TS:=λD Y H=>te Y H λx H1=>g x Y H1 D.nx
theorem Qq{g:TG}(he:PE X e te)(hg:PG X tg g)(hs:G6 [tg] e pos.line X.env=pure Ad:=by rfl)(hw:FW [tg] e X.env=pure Af:=by rfl)(h1:(B9 [tg] X.env).map (·.2)=[assign tg X.env]:=by rfl):PS X (.Assign [tg] e pos) (Mv te g):=by
 intro pI s Y H D I h;refine wpAny_Assign_stores (thn (he pI s Y H _ I h) λv s1 ⟨x,H1,I1,r1,q1⟩=>?_) hs hw
 rw[h1];exact thn (hg pI s1 Y H1 x v _ I1 r1 q1) λ_ s2 q=>q
theorem Jj{pos':AJ}(hN:X.N.Nodup)(hi:X.N[i]?=Ab x)(hx:Loc X.env.scope x)(he:PE X e te)(hs:Cd e (Ab (.Name x pos')) pos.line X.env=pure Ad:=by rfl)(hf:X.fn x=Aa\/X.env.scope.names.lookup x=Ab .local:=by first|exact .inl rfl|exact .inr rfl|assumption):PS X (.Assign [.Name x pos'] e pos) (Mv te (EE i)):=by
 intro pI s Y H D I h;refine wpAny_Assign_Name (thn (he pI s Y H _ I h) λv s1 ⟨y,H1,I1,r1,q1⟩=>?_) hs
 exact Pz I1 hN hi hx r1 (λs2 I2=>⟨_,H1,I2,q1⟩) hf
end
section
variable{X:Cx}{pos:AJ}
end
structure It where
 go:Ag->Hp->Prop
 yld:Ag->Hp->V->Hp->Prop
 stop:Ag->Hp->Prop
noncomputable def GY(X:Cx)(pI:Pn)(H:Hp)(b:Ah):Prop:=
 H b=Af/\b≠X.env.locals/\b∉X.fs/\(b∈X.ex\/X.s₀.heap.objs.size<=b)/\(∀ x c,X.env.cells.lookup x=Ab c->c≠b)/\∀ p∈X.pn++pI,p.1≠b
theorem Inv.fpOk{H':Hp}(I:Inv X pI Y H s)(hb:s.heap.objs.size<=b)(hn:H' b=Af):GY X pI H' b:=by
 refine⟨hn,EL (AG I.lt hb),I.nofs hb,.inr (Ck I.sz hb),λx c e z=>?_,λp hp z=>?_⟩
 .obtain⟨v,q⟩:=I.cell x c e;exact absurd (AG q.lt (by rw[z];exact hb)) (Br _)
 .exact absurd (AG (AH (I.pin p hp).1) (by rw[z];exact hb)) (Br _)
structure Turn (P:AO) (w:AW) (K:Fg) (tg:Am) (J:It) (fp:Ac Ah) (it:Ah) (tn:Ag->AF->Prop):Prop where
 mem:it∈fp
 obj:∀ i h,tn i h->∀ b∈fp,∃ o,h.get? b=Ab o/\∀ v,o.data≠.cell v
 keep:∀ i h h',tn i h->(∀ b∈fp,∀ o,h.get? b=Ab o->h'.get? b=Ab o)->tn i h'
 item:∀(X:Cx),X.prog=P->X.w=w->X.K=K->X.calm=Aa->∀(i:Ag)(pI:Pn)(s:Aq)(Y:St)(H:Hp)(E:Vq),Inv X pI Y H s->(∀ b∈fp,GY X pI H b)->tn i s.heap->J.go i H ->
  Az (model P w) X.A (Ik (.ref it)) (λr s1=>∃ u,r=Ab u /\
   Az (model P w) X.A (Gn tg (.ref it) u) (λ_ s2=>∃ x H',Inv X pI Y H' s2/\Bu x u/\J.yld i H x H'/\tn (i+1) s2.heap/\∀ b∈fp,H' b=Af) E s1) E s
 done:∀(X:Cx),X.prog=P->X.w=w->X.K=K->X.calm=Aa->∀(i:Ag)(pI:Pn)(s:Aq)(Y:St)(H:Hp)(E:Vq),Inv X pI Y H s->(∀ b∈fp,GY X pI H b)->tn i s.heap->J.stop i H ->
  Az (model P w) X.A (Ik (.ref it)) (λr s1=>r=Af/\Inv X pI Y H s1) E s
 self:∀(A:AZ)(i:Ag)(s:Aq)(Q:Vq)(E:Vq),tn i s.heap->Q (.ref it) s->Az (model P w) A (LS (.ref it)) Q E s
abbrev TI:=St->Hp->(It->Hp->Prop)->Prop
noncomputable def PIE(X:Cx)(pI:Pn)(Y:St)(tg:Am)(R:It->Hp->Prop)(itv:Aj)(s2:Aq):Prop:=
 ∃(it:Ah)(fp:Ac Ah)(tn:Ag->AF->Prop)(J:It)(H':Hp),itv=.ref it/\Inv X pI Y H' s2/\Turn X.prog X.w X.K tg J fp it tn/\tn 0 s2.heap/\(∀ b∈fp,GY X pI H' b)/\R J H'
noncomputable def PI(X:Cx)(tg iter:Am)(wi:TI):Prop:=
 ∀(pI:Pn)(s:Aq)(Y:St)(H:Hp)(R:It->Hp->Prop),Inv X pI Y H s->wi Y H R ->
  Az (model X.prog X.w) X.A (eval iter X.env) (λv s1=>Az (model X.prog X.w) X.A (LS v) (PIE X pI Y tg R) X.xe s1) X.xe s
theorem Q7{A:AZ}{E:Vq}{n:CO}{vs:A7 Aj}(ho:s.heap.get? it=Ab o)(hc:o.cls=.type n)(hd:o.data=.fields vs)(hn:["enumerate", "zip", "dict_itemiterator", "dict_reverseitemiterator", "odict_iterator", "itertools.zip_longest", "itertools.pairwise"].contains n=Ad)(hQ:Q () s):Az M A (Gn tg (.ref it) u) Q E s:=by
  unfold Gn;cases tg<;>first
    |exact AC hQ
    | (cases u<;>first
        |exact AC hQ
        | (refine An (wpAny_load ho ?_)
           rw[hc,hd];show Az M A (if (["enumerate", "zip", "dict_itemiterator", "dict_reverseitemiterator", "odict_iterator", "itertools.zip_longest", "itertools.pairwise"].contains n&&vs[0]? == Ab (Ei _))=Aa then _ else _) Q E s
           rw[Ay (by intro h;rw[hn,W7]at h;cases h)]
           exact AC hQ))
noncomputable def Itl(K:Fg)(a:Ah):It:=
 ⟨λi H=>∃ xs x,SqL K H a xs/\xs[i]?=Ab x,λi H x H'=>H'=H/\∀ xs,SqL K H a xs->xs[i]?=Ab x,λi H=>∃ xs,SqL K H a xs/\xs.length<=i⟩
noncomputable def Itt(K:Fg)(a:Ah):It:=
 ⟨λi H=>∃ xs x,SqT K H a xs/\xs[i]?=Ab x,λi H x H'=>H'=H/\∀ xs,SqT K H a xs->xs[i]?=Ab x,λi H=>∃ xs,SqT K H a xs/\xs.length<=i⟩
noncomputable def Itr(lo:Ae)(n:Ag):It:=⟨λi _=>i<n,λi H x H'=>H'=H/\x=.int (lo+i),λi _=>n<=i⟩
theorem eB{w:AW}{K:Fg}(a it:Ah):Turn P w K tg (Itl K a) [it] it (λi h=>h.IsListIter it a i) where
  mem:=by simp
  obj:=λi h st b hb=>by
    have e:b=it:=by simpa using hb
    subst e;obtain⟨o,e,c,d⟩:=st;exact⟨o,e,λv z=>by rw[d]at z;cases z⟩
  keep:=λi h h' st k=>st.at λo e=>k it (by simp) o e
  item:=by
    intro X hP hw hK hc i pI s Y H E I hf st hg;subst hP hw hK;obtain⟨xs,x,hq,hx⟩:=hg;obtain⟨its,rv,p,hz⟩:=I.list hq;obtain⟨u,hu,ru⟩:=rv.get hx;obtain⟨f0,f1,f2,f3,f4,f5⟩:=hf it (by simp)
    refine ZL st p.isList (x:=u) (by simpa using hu) λh' st' sb=>?_
    have I1:Inv X pI Y H {s with heap:=h'}:=I.turned (t':=s.toks) (λb o hb e=>(sb.2 b hb).trans e) f0 f1 f3 f4 f5
    obtain⟨o,e,c,d⟩:=id st';exact⟨u,rfl,Q7 (s:={s with heap:=h'}) e c d (by decide) ⟨x,H,I1,ru,⟨rfl,λys hy=>by rw[I.list_inj hy hq];exact hx⟩,st',λb hb=>(hf b hb).1⟩⟩
  done:=by
    intro X hP hw hK hc i pI s Y H E I hf st hg;subst hP hw hK;obtain⟨xs,hq,hx⟩:=hg;obtain⟨its,rv,p,hz⟩:=I.list hq;obtain⟨f0,f1,f2,f3,f4,f5⟩:=hf it (by simp)
    have hl:=rv.length;exact ZK (I.ok.hd hc) st p.isList (by simp;omega) λh' eb=>⟨rfl,I.turned (t':=s.toks) (λb o hb e=>eb b o hb e) f0 f1 f3 f4 f5⟩
  self:=λ_ _ _ _ _ st h=>wpAny_pyIter_listiter st h
theorem dB{w:AW}{K:Fg}(a it:Ah):Turn P w K tg (Itt K a) [it] it (λi h=>h.IsTupleIter it a i) where
  mem:=by simp
  obj:=λi h st b hb=>by
    have e:b=it:=by simpa using hb
    subst e;obtain⟨o,e,c,d⟩:=st;exact⟨o,e,λv z=>by rw[d]at z;cases z⟩
  keep:=λi h h' st k=>st.at λo e=>k it (by simp) o e
  item:=by
    intro X hP hw hK hc i pI s Y H E I hf st hg;subst hP hw hK;obtain⟨xs,x,hq,hx⟩:=hg;obtain⟨its,rv,p,hz⟩:=I.tuple hq;obtain⟨u,hu,ru⟩:=rv.get hx;obtain⟨f0,f1,f2,f3,f4,f5⟩:=hf it (by simp)
    refine wpAny_pyNext_tuple_item st (show s.heap.IsTuple a its.toArray from p) (x:=u) (by simpa using hu) λh' st' sb=>?_
    have I1:Inv X pI Y H {s with heap:=h'}:=I.turned (t':=s.toks) (λb o hb e=>(sb.2 b hb).trans e) f0 f1 f3 f4 f5
    obtain⟨o,e,c,d⟩:=id st';exact⟨u,rfl,Q7 (s:={s with heap:=h'}) e c d (by decide) ⟨x,H,I1,ru,⟨rfl,λys hy=>by rw[I.tuple_inj hy hq];exact hx⟩,st',λb hb=>(hf b hb).1⟩⟩
  done:=by
    intro X hP hw hK hc i pI s Y H E I hf st hg;subst hP hw hK;obtain⟨xs,hq,hx⟩:=hg;obtain⟨its,rv,p,hz⟩:=I.tuple hq;obtain⟨f0,f1,f2,f3,f4,f5⟩:=hf it (by simp)
    have hl:=rv.length;exact wpAny_pyNext_tuple_end (I.ok.hd hc) st (show s.heap.IsTuple a its.toArray from p) (by simp;omega) λh' eb=>⟨rfl,I.turned (t':=s.toks) (λb o hb e=>eb b o hb e) f0 f1 f3 f4 f5⟩
  self:=λ_ _ _ _ _ st h=>wpAny_pyIter_tupleiter st h
theorem dC{w:AW}{K:Fg}(it:Ah)(lo:Ae)(n:Ag):Turn P w K tg (Itr lo n) [it] it (λi h=>IsRangeIter h it (lo+(i:Ag)*1) ((n:Ae)-(i:Ag)) 1) where
  mem:=by simp
  obj:=λi h st b hb=>by
    have e:b=it:=by simpa using hb
    subst e;exact⟨_,st,λv z=>by
      have z':Data.fields _=LH v:=z;cases z'⟩
  keep:=λi h h' st k=>k it (by simp) _ st
  item:=by
    intro X hP hw hK hc i pI s Y H E I hf st hg;subst hP hw hK;obtain⟨f0,f1,f2,f3,f4,f5⟩:=hf it (by simp)
    have W:=Walks.range (prog:=X.prog) (w:=X.w) (I.ok.hd hc) it lo 1 n;refine W.item i s _ _ hg st λv h' tk hv st' kk=>?_
    obtain⟨t,rfl⟩:=hv;have I1:Inv X pI Y H {s with heap:=h',toks:=tk}:=I.turned (λb o hb e=>kk b o (by simpa using hb) e) f0 f1 f3 f4 f5
    refine⟨_,rfl,Q7 (s:={s with heap:=h',toks:=tk}) (n := "range_iterator") st' rfl rfl (by decide) ⟨.int (lo+i),H,I1,⟨t,?_⟩,⟨rfl,rfl⟩,st',λb hb=>(hf b hb).1⟩⟩
    rw[E9]
  done:=by
    intro X hP hw hK hc i pI s Y H E I hf st hg;subst hP hw hK;obtain⟨f0,f1,f2,f3,f4,f5⟩:=hf it (by simp)
    exact wpAny_pyNext_range_end (I.ok.hd hc) st (by have:n<=i:=hg;omega) λh' eb=>⟨rfl,I.turned (t':=s.toks) (λb o hb e=>eb b o hb e) f0 f1 f3 f4 f5⟩
  self:=λ_ _ _ _ _ st h=>wpAny_pyIter_rangeiter st h
section
variable{X:Cx}{tg:Am}
theorem T9{R:It->Hp->Prop}{E:Vq}{lo hi:Ae}{t u v:Cr}{tk:Ag}(I:Inv X pI Y H s)(h1:-(2 ^ 62)<=lo)(h2:lo<2 ^ 62)(h3:-(2 ^ 62)<=hi)(h4:hi<2 ^ 62)(q:R (Itr lo (hi-lo).toNat) H):Az (model X.prog X.w) X.A (LS (.ref s.heap.objs.size)) (PIE X pI Y tg R) E { s with heap:=s.heap.push { cls:=.type "range",data:=.fields #[.int lo t,.int hi u,.int 1 v] },toks:=tk }:=by
 refine wpAny_pyIter_range (IsRange.new ..) (small_one h1 h2 h3 h4) ?_;have I1:Inv X pI Y H { s with heap:=s.heap.push { cls:=.type "range",data:=.fields #[.int lo t,.int hi u,.int 1 v] },toks:=tk }:=I.kept λb o e=>Au _ e
 refine⟨(s.heap.push { cls:=.type "range",data:=.fields #[.int lo t,.int hi u,.int 1 v] }).objs.size,[(s.heap.push { cls:=.type "range",data:=.fields #[.int lo t,.int hi u,.int 1 v] }).objs.size],_,_,H,rfl,
  I1.kept (t':=tk) λb o e=>Au _ e,dC _ lo (hi-lo).toNat,?_,λb hb=>?_,q⟩
 .have e1:lo+((0:Ag):Ae)*1=lo:=by simp
  have e2:(((hi-lo).toNat:Ag):Ae)-((0:Ag):Ae)=Builtin.Range.rangeSize lo hi 1:=by rw[rangeSize_one];split<;>omega
  show IsRangeIter _ _ (lo+((0:Ag):Ae)*1) ((((hi-lo).toNat:Ag):Ae)-((0:Ag):Ae)) 1;rw[e1,e2];exact AI _ rfl
 .have e:b=(s.heap.push { cls:=.type "range",data:=.fields #[.int lo t,.int hi u,.int 1 v] }).objs.size:=by simpa using hb
  subst e;exact I1.fpOk (AV _) (I1.hok.fresh (AV _))
def b8(ta:TA):TI:=λY H R=>ta Y H λvs H1=>∃ j:Ae,vs=[.int j]/\-(2 ^ 62)<=j/\j<2 ^ 62/\R (Itr 0 j.toNat) H1
def az(ta:TA):TI:=λY H R=>ta Y H λvs H1=>∃ i j:Ae,vs=[.int i,.int j]/\(-(2 ^ 62)<=i/\i<2 ^ 62/\-(2 ^ 62)<=j/\j<2 ^ 62)/\R (Itr i (j-i).toNat) H1
theorem eU{a:Am}(hg:Gl X "range")(hm:X.mg "range" = Af)(ha:PA X [a] ta)(hs:Ar [a] X.env=[(Ad,eval a X.env)]:=by rfl):PI X tg (.Call (.Name "range" p) [a] [] pos) (b8 ta):=by
 intro pI s Y H R I h;refine Call_ (J6 I hg hm boot_range (CW (thn (ha pos pI s Y H _ I h) λus s1 ⟨vs,H1,I1,r1,q1⟩=>?_) hs rfl))
 obtain⟨j,e,q1,q2,q⟩:=q1;subst e;cases r1 with
 |cons r rr=>
  cases rr;obtain⟨t,rfl⟩:=r;exact call_range_1 (T9 I1 (by omega) (by omega) q1 q2 (by simpa using q))
theorem eS{a b:Am}(hg:Gl X "range")(hm:X.mg "range" = Af)(ha:PA X [a,b] ta)(hs:Ar [a,b] X.env=[(Ad,eval a X.env),(Ad,eval b X.env)]:=by rfl)(hs2:Ar [b] X.env=[(Ad,eval b X.env)]:=by rfl):
  PI X tg (.Call (.Name "range" p) [a,b] [] pos) (az ta):=by
 intro pI s Y H R I h;refine Call_ (J6 I hg hm boot_range (CW (thn (ha pos pI s Y H _ I h) λus s1 ⟨vs,H1,I1,r1,q1⟩=>?_) (by rw[hs,hs2]) (by rw[hs2];rfl)))
 obtain⟨i,j,e,⟨q1,q2,q3,q4⟩,q⟩:=q1;subst e;cases r1 with
 |cons r rr=>
  cases rr with
  |cons r' rr=>
   cases rr;obtain⟨t,rfl⟩:=r;obtain⟨t',rfl⟩:=r';exact call_range_2 (T9 I1 q1 q2 q3 q4 q)
def aG(wi:TI)(g:TG)(tb:TS):TS:=λD Y H=>wi Y H λJ H1=>∃ W:Ag->Ag->St->Hp->Prop,(∃ m,W 0 m Y H1)/\∀ i m Y H,W i m Y H ->
 (J.stop i H/\D.nx Y H)\/(J.go i H/\∃ N:St->Hp->Prop,(∀ Y' H',N Y' H'->∃ m',m'<m/\W (i+1) m' Y' H')/\∀ x H',J.yld i H x H'->g x Y H' λY2 H2=>tb {D with nx:=N,ct:=N,bk:=D.nx} Y2 H2)
noncomputable def Kb(fp:Ac Ah)(h:AF):Pn:=fp.filterMap λb=>(h.get? b).map λo=>(b,o)
theorem MN(hb:b∈fp)(e:h.get? b=Ab o):(b,o)∈Kb fp h:=List.mem_filterMap.mpr ⟨b,hb,by rw[e];rfl⟩
theorem Ts{p:Ah×C9}(hp:p∈Kb fp h):p.1∈fp/\h.get? p.1=Ab p.2:=by
 obtain⟨b,hb,e⟩:=List.mem_filterMap.mp hp;cases q:h.get? b with
 |none=>rw[q]at e;cases e
 |some o=>
  rw[q]at e;have e':(b,o)=p:=Bg e;subst e';exact⟨hb,q⟩
theorem Inv.pinned(I:Inv X pI Y H s)(hf:∀ b∈fp,GY X pI H b)(ho:∀ b∈fp,∃ o,s.heap.get? b=Ab o/\∀ v,o.data≠.cell v):Inv X (pI++Kb fp s.heap) Y H s:=
 I.pins_of λp hp=>(Dj.mp hp).elim (λz=>I.pin p (Bl _ z)) λz=>by
  obtain⟨hb,e⟩:=Ts z;obtain⟨f0,f1,f2,_⟩:=hf p.1 hb;obtain⟨o,e',d⟩:=ho p.1 hb;rw[e]at e';cases e';exact⟨e,f0,f1,f2,d⟩
theorem Inv.unpinned{pl:Pn}(I:Inv X (pI++pl) Y H s):Inv X pI Y H s:=I.pins_of λp hp=>I.pin p (Bl _ (Gb _ hp))
theorem uT{iter:Am}{wi:TI}{g:TG}{tb:TS}(hp:DH (model X.prog X.w) X.A X.env X.xe)(hc:X.calm=Aa)(hi:PI X tg iter wi)(hg:PG X tg g)(hb:PSs X body tb)(hs:∀ x,CQ iter X.env x=pure x:=by intro _;rfl):PS X (.For tg iter body [] pos) (aG wi g tb):=by
 intro pI s Y H D I h;refine wpAny_For (thn (hi pI s Y H _ I h) λv s1 h1=>thn h1 λitv s2 h2=>?_) hs
 obtain⟨it,fp,tn,J,H2,e,I2,T,st2,f2,W,⟨m0,w0⟩,turn⟩:=h2;subst e
 -- what stays Aa of the iterator's objects through the loop
 have stat:∀{H':Hp},(∀ b∈fp,H' b=Af)->∀ b∈fp,GY X pI H' b:=λhn b hb=>⟨hn b hb,(f2 b hb).2⟩
 refine codeAny_forLoop_any (λn s'=>∃ i Y' H',Inv X pI Y' H' s'/\tn i s'.heap/\(∀ b∈fp,H' b=Af)/\W i n Y' H') ?_ m0 ⟨0,Y,H2,I2,st2,λb hb=>(f2 b hb).1,w0⟩
 rintro n s3 ⟨i,Y3,H3,I3,st3,fr3,w3⟩;rcases turn i n Y3 H3 w3 with ⟨stop,qn⟩|⟨go,N,hN,step⟩
 .refine Fn hp (thn (T.done X rfl rfl rfl hc i pI s3 Y3 H3 X.xe I3 (stat fr3) st3 stop) λr s4 ⟨hr,I4⟩=>?_)
  subst hr;exact Fm ⟨Y3,H3,I4,qn⟩
 .refine Fn hp (thn (T.item X rfl rfl rfl hc i pI s3 Y3 H3 X.xe I3 (stat fr3) st3 go) λr s4 ⟨u,hr,h4⟩=>?_)
  subst hr;refine Fn hp (thn h4 λ_ s5 ⟨x,H5,I5,r5,y5,st5,fr5⟩=>?_)
  have I5':=I5.pinned (stat fr5) (T.obj _ _ st5);refine Fn hp (thn (hg _ s5 Y3 H5 x u _ I5' r5 (step x H5 y5)) λ_ s6 ⟨Y6,H6,I6,q6⟩=>?_)
  refine Fn hp (thn (hb _ s6 Y6 H6 _ I6 q6) λf s7 q7=>?_)
  have again:∀{Y7:St}{H7:Hp},Inv X (pI++Kb fp s5.heap) Y7 H7 s7->N Y7 H7->∃ m,m<n/\∃ i Y' H',Inv X pI Y' H' s7/\tn i s7.heap/\(∀ b∈fp,H' b=Af)/\W i m Y' H':=λ{Y7 H7} I7 n7=>by
   obtain⟨m',hm,w7⟩:=hN Y7 H7 n7;refine⟨m',hm,i+1,Y7,H7,I7.unpinned,T.keep _ _ _ st5 λb hb o e=>(I7.pin (b,o) (Bl _ (Bl _ (MN hb e)))).1,λb hb=>?_,w7⟩
   obtain⟨o,e,d⟩:=T.obj _ _ st5 b hb;exact(I7.pin (b,o) (Bl _ (Bl _ (MN hb e)))).2.1
  cases f with
  |next=>obtain⟨Y7,H7,I7,n7⟩:=q7;exact again I7 n7
  |cont=>obtain⟨Y7,H7,I7,n7⟩:=q7;exact again I7 n7
  |brk=>obtain⟨Y7,H7,I7,q7⟩:=q7;exact⟨Y7,H7,I7.unpinned,q7⟩
  |ret v=>obtain⟨x7,Y7,H7,I7,r7,q7⟩:=q7;exact⟨x7,Y7,H7,I7.unpinned,r7,q7⟩
end
abbrev R2:=V->V->Hp->VK->Prop
variable{r:R2}
noncomputable def OpR(X:Cx)(f:Aj->Aj->Sem Aj)(r:R2):Prop:=
 ∀(pI:Pn)(s:Aq)(Y:St)(H:Hp)(x y:V)(v u:Aj)(Q:VK),Inv X pI Y H s->Bu x v->Bu y u->r x y H Q ->
  Az (model X.prog X.w) X.A (f v u) (EP X pI Y Q) X.xe s
noncomputable def Jq(X:Cx)(f:Aj)(r:Ac V->Hp->VK->Prop):Prop:=
 ∀(pI:Pn)(s:Aq)(Y:St)(H:Hp)(xs:Ac V)(us:Ac Aj)(Q:VK),Inv X pI Y H s->A6 xs us->r xs H Q ->
  Az (model X.prog X.w) X.A (call f us) (EP X pI Y Q) X.xe s
noncomputable def bP(X:Cx)(r:V->Hp->(Ai->Hp->Prop)->Prop):Prop:=
 ∀(pI:Pn)(s:Aq)(Y:St)(H:Hp)(x:V)(v:Aj)(Q:Ai->Hp->Prop),Inv X pI Y H s->Bu x v->r x H Q ->
  Az (model X.prog X.w) X.A (truthy v) (TP X pI Y Q) X.xe s
def tOp(r:R2)(ta tb:TE):TE:=λY H Q=>ta Y H λx H1=>tb Y H1 λy H2=>r x y H2 Q
def rI(C:Ae->Ae->Prop)(g:Ae->Ae->V):R2:=λx y H Q=>∃ i j,x=.int i/\y=.int j/\C i j/\Q (g i j) H
def rI0(g:Ae->Ae->V):R2:=λx y H Q=>∃ i j,x=.int i/\y=.int j/\Q (g i j) H
section
variable{X:Cx}{a b c:Am}{ta tb tc:TE}{pos:AJ}
theorem Os(ha:PE X a ta)(hb:PE X b tb){R:V->V->Hp->Prop}(I:Inv X pI Y H s)(h:ta Y H λx H1=>tb Y H1 λy H2=>R x y H2){Q:Vq}(hf:∀ v u s2 x y H2,Inv X pI Y H2 s2->Bu x v->Bu y u->R x y H2->Az (model X.prog X.w) X.A (f v u) Q X.xe s2):Az (model X.prog X.w) X.A (eval a X.env) (λv s₁=>Az (model X.prog X.w) X.A (eval b X.env) (λu s₂=>Az (model X.prog X.w) X.A (f v u) Q X.xe s₂) X.xe s₁) X.xe s:=by
 refine thn (ha pI s Y H _ I h) λv s1 ⟨x,H1,I1,r1,q1⟩=>?_
 refine thn (hb pI s1 Y H1 _ I1 q1) λu s2 ⟨y,H2,I2,r2,q2⟩=>?_
 exact hf v u s2 x y H2 I2 r1 r2 q2
theorem WC{op:Ft}(ho:OpR X (B7 op) r)(ha:PE X a ta)(hb:PE X b tb):PE X (.BinOp a op b pos) (tOp r ta tb):=by
 intro pI s Y H Q I h;exact wpAny_BinOp (Os ha hb I h λv u s2 x y H2 I2 rx ry q=>ho pI s2 Y H2 x y v u Q I2 rx ry q)
theorem opI{C:Ae->Ae->Prop}(rule:∀(i j:Ae)(t u:Cr)(s:Aq)(Q:Vq)(E:Vq),C i j->Q (.int (g i j) s.toks) {s with toks:=s.toks+1}->Az (model X.prog X.w) X.A (f (.int i t) (.int j u)) Q E s):OpR X f (rI C λi j=>.int (g i j)):=by
 intro pI s Y H x y v u Q I rx ry h;obtain⟨i,j,rfl,rfl,hc,q⟩:=h;obtain⟨t,rfl⟩:=rx;obtain⟨t',rfl⟩:=ry;exact rule i j t t' s _ _ hc ⟨.int (g i j),H,I.tok _,⟨_,rfl⟩,q⟩
theorem RP(rule:∀(i j:Ae)(t u:Cr)(s:Aq)(Q:Vq)(E:Vq),Q (.int (g i j) s.toks) {s with toks:=s.toks+1}->Az (model X.prog X.w) X.A (f (.int i t) (.int j u)) Q E s):OpR X f (rI0 λi j=>.int (g i j)):=by
 intro pI s Y H x y v u Q I rx ry h;obtain⟨i,j,rfl,rfl,q⟩:=h;obtain⟨t,rfl⟩:=rx;obtain⟨t',rfl⟩:=ry;exact rule i j t t' s _ _ ⟨.int (g i j),H,I.tok _,⟨_,rfl⟩,q⟩
theorem N9{g:Ae->Ae->Ai}(rule:∀(i j:Ae)(t u:Cr)(s:Aq)(Q:Vq)(E:Vq),Q (.bool (g i j)) s->Az (model X.prog X.w) X.A (f (.int i t) (.int j u)) Q E s):OpR X f (rI0 λi j=>.bl (g i j)):=by
 intro pI s Y H x y v u Q I rx ry h;obtain⟨i,j,rfl,rfl,q⟩:=h;obtain⟨t,rfl⟩:=rx;obtain⟨t',rfl⟩:=ry;exact rule i j t t' s _ _ ⟨.bl (g i j),H,I,rfl,q⟩
def bU(i j:Ae):Prop:=0<j/\j<1073741824
def bT(i j:Ae):Prop:=0<=j/\j<=1000000/\i.natAbs<2 ^ 64
def On(i j:Ae):Prop:=(-(2 ^ 64)<i/\i<2 ^ 64)\/(-(2 ^ 64)<j/\j<2 ^ 64)
theorem On.ok{i j:Ae}(h:On i j):LP i j:=by
 rcases h with ⟨h1,h2⟩|⟨h1,h2⟩
 .exact .of_left (intBits_le_64 h1 h2)
 .exact .of_right (intBits_le_64 h1 h2)
theorem tP:OpR X (B7 .Add) (rI0 λi j=>.int (i+j)):=RP λ_ _ _ _ _ _ _ q=>add_int q
theorem tL:OpR X (B7 .Sub) (rI0 λi j=>.int (i-j)):=RP λ_ _ _ _ _ _ _ q=>sub_int q
theorem mE:OpR X (B7 .FloorDiv) (rI bU λi j=>.int (i/j)):=opI λi j _ _ _ _ _ hc q=>by
 have h1:(0:Ae)<j:=hc.1;have h2:j<1073741824:=hc.2;exact floordiv_int (by omega) (by rw[Int.fdiv_eq_ediv_of_nonneg i (by omega)];exact q) (.inl (PyProof.noPylong_small (by omega)))
theorem tN:OpR X (B7 .Mod) (rI (λ_ j=>0<j) λi j=>.int (i%j)):=opI λi j _ _ _ _ _ hc q=>by
 have h1:(0:Ae)<j:=hc;exact mod_int' (by omega) (by rw[Int.fmod_eq_emod_of_nonneg i (by omega)];exact q)
theorem tM:OpR X (B7 .Pow) (rI bT λi j=>.int (i ^ j.toNat)):=opI λ_ _ _ _ _ _ _ hc q=>pow_int_small hc.1 hc.2.1 hc.2.2 q
end
section
variable{X:Cx}{a b c:Am}{ta tb tc:TE}{pos:AJ}
theorem VO{Q:VK}{k k':Ai}(I:Inv X pI Y H s)(q:Q (.bl k) H)(e:k=k'):EP X pI Y Q (.bool k') s:=by
 subst e;exact⟨.bl k,H,I,rfl,q⟩
theorem yC:OpR X (B4 .Lt) (rI0 λi j=>.bl (decide (i<j))):=N9 λ_ _ _ _ _ _ _ q=>lt_int q
theorem yD:OpR X (B4 .LtE) (rI0 λi j=>.bl (decide (i<=j))):=N9 λ_ _ _ _ _ _ _ q=>le_int q
theorem yE:OpR X (B4 .Gt) (rI0 λi j=>.bl (decide (j<i))):=N9 λ_ _ _ _ _ _ _ q=>gt_int q
theorem yF:OpR X (B4 .GtE) (rI0 λi j=>.bl (decide (j<=i))):=N9 λ_ _ _ _ _ _ _ q=>ge_int q
theorem tO:OpR X (B4 .Is) (λx y H Q=>y=.non/\Q (.bl (decide (x=.non))) H):=by
 intro pI s Y H x y v u Q I rx ry h;obtain⟨rfl,q⟩:=h;cases ry;refine is_none_gen (VO I q ?_);cases x<;>first
  |(cases rx;rfl)
  |(obtain⟨t,rfl⟩:=rx;rfl)
theorem mC:OpR X (B4 .IsNot) (λx y H Q=>y=.non/\Q (.bl (!decide (x=.non))) H):=by
 intro pI s Y H x y v u Q I rx ry h;obtain⟨rfl,q⟩:=h;cases ry;refine isnot_none_gen (VO I q ?_);cases x<;>first
  |(cases rx;rfl)
  |(obtain⟨t,rfl⟩:=rx;rfl)
theorem lN(ho:OpR X (B4 op) r)(ha:PE X a ta)(hb:PE X b tb)(hm:G5 op b=Ad):PE X (.Compare a [op] [b] pos) (tOp r ta tb):=by
 intro pI s Y H Q I h;exact wpAny_Compare1 (Os ha hb I h λv u s2 x y H2 I2 rx ry q=>ho pI s2 Y H2 x y v u Q I2 rx ry q) hm
def Wy(t:TE):TT:=λY H Q=>t Y H λx H'=>∃ k,x=.bl k/\Q k H'
theorem nH(ho:OpR X (B4 op) r)(ha:PE X a ta)(hb:PE X b tb)(hm:G5 op b=Ad):PT X (.Compare a [op] [b] pos) (Wy (tOp r ta tb)):=by
 intro pI s Y H Q I h;refine wpAny_isTrue_Compare1 (thn (ha pI s Y H _ I h) λv s1 ⟨x,H1,I1,r1,q1⟩=>thn (hb pI s1 Y H1 _ I1 q1) λu s2 ⟨y,H2,I2,r2,q2⟩=>
  thn (ho pI s2 Y H2 x y v u _ I2 r1 r2 q2) λc s3 ⟨z,H3,I3,r3,k,e,q3⟩=>?_) hm
 subst e;cases r3;exact Cq ⟨H3,I3,q3⟩
def V6(r r':R2)(ta tb tc:TE):TE:=λY H Q=>ta Y H λx H1=>tb Y H1 λy H2=>r x y H2 λz H3=>∃ k,z=.bl k /\
 (if k=Aa then tc Y H3 λw' H4=>r' y w' H4 Q else Q (.bl Ad) H3)
theorem fE{op':CJ}{r':R2}(ho:OpR X (B4 op) r)(ho':OpR X (B4 op') r')(ha:PE X a ta)(hb:PE X b tb)(hc:PE X c tc)(hm:IW [op,op'] [b,c]=Ad:=by with_unfolding_all rfl):PE X (.Compare a [op,op'] [b,c] pos) (V6 r r' ta tb tc):=by
 intro pI s Y H Q I h;refine Compare_chain (thn (ha pI s Y H _ I h) λv s1 ⟨x,H1,I1,r1,q1⟩=>chain_link (thn (hb pI s1 Y H1 _ I1 q1) λu s2 ⟨y,H2,I2,r2,q2⟩=>
  thn (ho pI s2 Y H2 x y v u _ I2 r1 r2 q2) λd s3 ⟨z,H3,I3,r3,k,e,q3⟩=>?_)) hm
 subst e;cases r3;refine Cq ?_;cases k with
 |false=>exact ite_ff ⟨.bl Ad,H3,I3,rfl,q3⟩
 |true=>exact ite_tt (chain_last (thn (hc pI s3 Y H3 _ I3 q3) λw' s4 ⟨z',H4,I4,r4,q4⟩=>ho' pI s4 Y H4 y z' u w' Q I4 r2 r4 q4))
theorem fA{op':CJ}{r':R2}(ho:OpR X (B4 op) r)(ho':OpR X (B4 op') r')(ha:PE X a ta)(hb:PE X b tb)(hc:PE X c tc)(hm:IW [op,op'] [b,c]=Ad:=by with_unfolding_all rfl):PT X (.Compare a [op,op'] [b,c] pos) (Wy (V6 r r' ta tb tc)):=by
 intro pI s Y H Q I h;refine isTrue_chain (thn (ha pI s Y H _ I h) λv s1 ⟨x,H1,I1,r1,q1⟩=>test_link (thn (hb pI s1 Y H1 _ I1 q1) λu s2 ⟨y,H2,I2,r2,q2⟩=>
  thn (ho pI s2 Y H2 x y v u _ I2 r1 r2 q2) λd s3 ⟨z,H3,I3,r3,k,e,q3⟩=>?_)) hm
 subst e;cases r3;refine Cq ?_;cases k with
 |false=>
  obtain⟨k',e',q'⟩:=q3;cases e';exact ite_ff ⟨H3,I3,q'⟩
 |true=>
  refine ite_tt (test_last (thn (hc pI s3 Y H3 _ I3 q3) λw' s4 ⟨z',H4,I4,r4,q4⟩=>thn (ho' pI s4 Y H4 y z' u w' _ I4 r2 r4 q4) λd' s5 ⟨z2,H5,I5,r5,k2,e2,q5⟩=>?_))
  subst e2;cases r5;exact Cq ⟨H5,I5,q5⟩
noncomputable def Sf(K:Fg)(x:V)(H:Hp)(k:Ai):Prop:=
  match x with
  |.non=>k=Ad
  |.bl b=>k=b
  |.int i=>k=(i != 0)
  |.str y=>y.length<=sizeLine/\k=((y.length:Ae) != 0)
  |.byt y=>y.size<=sizeLine/\k=((y.size:Ae) != 0)
  |.ref p=>(∃ xs,SqL K H p xs/\k=!xs.isEmpty)\/(∃ xs,SqT K H p xs/\k=!xs.isEmpty)\/∃ kvs,H p=Ab (.dK kvs)/\k=!kvs.isEmpty
  |_=>AU
theorem dR{κ:Type}{kvs:Ac (κ×V)}{vs:Ac (κ×Aj)}(r:KV kvs vs):(!vs.isEmpty)=!kvs.isEmpty:=by
 cases r<;>rfl
theorem SM{its:Ac Aj}(r:A6 xs its):(!its.toArray.isEmpty)=!xs.isEmpty:=by
 cases r<;>simp
theorem J5:(sizeLine:Ag)<2 ^ 63:=by rw[Eb];decide
theorem sG:bP X (λx H Q=>∃ k,Sf X.K x H k/\Q k H):=by
 intro pI s Y H x v Q I rx h;obtain⟨k,e,q⟩:=h;have hl:=J5;have hs:sizeLine=16777216:=Eb;cases x with
 |non=>
  cases rx;have e':k=Ad:=e;subst e';exact truthy_none ⟨H,I,q⟩
 |bl b=>
  cases rx;have e':k=b:=e;subst e';exact Cq ⟨H,I,q⟩
 |int i=>
  obtain⟨t,rfl⟩:=rx;have e':k=(i != 0):=e;subst e';exact PySem.P.truthy_int ⟨H,I,q⟩
 |str y=>
  obtain⟨t,rfl⟩:=rx;obtain⟨hy,e'⟩:y.length<=sizeLine/\k=((y.length:Ae) != 0):=e;subst e';exact PySem.P.truthy_str (by omega) ⟨H,I.tok _,q⟩
 |byt y=>
  obtain⟨t,rfl⟩:=rx;obtain⟨hy,e'⟩:y.size<=sizeLine/\k=((y.size:Ae) != 0):=e;subst e';exact PySem.W.truthy_bytes (by omega) ⟨H,I.tok _,q⟩
 |ref p=>
  cases rx;have e':(∃ xs,SqL X.K H p xs/\k=!xs.isEmpty)\/(∃ xs,SqT X.K H p xs/\k=!xs.isEmpty)\/∃ kvs,H p=Ab (.dK kvs)/\k=!kvs.isEmpty:=e;rcases e' with ⟨xs,hx,e'⟩|⟨xs,hx,e'⟩|⟨kvs,hx,e'⟩
  .subst e';obtain⟨its,r,pl,hz⟩:=I.list hx;have hlen:=r.length;exact wpAny_truthy_list pl.isList (by simp only[AE];omega) ⟨H,I.tok _,by rw[SM r];exact q⟩
  .subst e';obtain⟨its,r,pl,hz⟩:=I.tuple hx;have hlen:=r.length;exact truthy_tuple pl (by simp only[AE];omega) ⟨H,I.tok _,by rw[SM r];exact q⟩
  .subst e';obtain⟨hz,hS,vs,r,m⟩:kvs.length<=sizeLine/\(p==D6)=Ad/\∃ vs,KV kvs vs/\s.heap.DictOf (Qg X.prog X.w) p vs:=I.hok p _ hx;have hlen:kvs.length=vs.length:=Y_3 r;exact wpAny_truthy_dict hS m (by omega) ⟨H,I.tok _,by rw[dR r];exact q⟩
 |_=>exact(show AU from e).elim
theorem eZ(ha:PE X a ta)(he:∀ whole,Ig a X.env whole=(do let v <-whole;Il a.pos;holding [v] (truthy v))):PT X a (λY H Q=>ta Y H λx H'=>∃ k,Sf X.K x H' k/\Q k H'):=by
 intro pI s Y H Q I h;exact isTrue_plain (thn (ha pI s Y H _ I h) λv s1 ⟨x,H1,I1,r1,q1⟩=>sG pI s1 Y H1 x v Q I1 r1 q1) (he _)
theorem cV:OpR X (B7 .Add) (λx y H Q=>∃ i j,x=.str i/\y=.str j/\i.length+j.length<=sizeLine/\Q (.str (i++j)) H):=by
 intro pI s Y H x y v u Q I rx ry h;obtain⟨i,j,rfl,rfl,hz,q⟩:=h;obtain⟨t,rfl⟩:=rx;obtain⟨t',rfl⟩:=ry;exact add_str (λt' tk=>⟨.str (i++j),H,I.tok _,⟨_,rfl⟩,q⟩) hz
theorem Ke{x:V}(r:A6 [x] us):∃ u,us=[u]/\Bu x u:=by
 cases r with
 |cons r1 r2=>cases r2;exact⟨_,rfl,r1⟩
theorem NC{x y:V}(r:A6 [x,y] us):∃ u w',us=[u,w']/\Bu x u/\Bu y w':=by
 cases r with
 |cons r1 r2=>
  cases r2 with
  |cons r3 r4=>cases r4;exact⟨_,_,rfl,r1,r3⟩
end
structure ObjM (h:AF) (x dx C:Ah) (mA:Ak->Ao Aj):Prop where
 obj:h.get? x=Ab (DQ C dx)
 ns:h.Ns1 dx mA
 ne:dx≠x
theorem eY(n:h.Ns1 dx mA):∃ od,h.get? dx=Ab od/\∀ name,Ic name od=Ab (mA name):=by
 obtain⟨o,es,ep,ho,hd,hk,_,hm⟩:=n;refine⟨o,ho,λname=>?_⟩
 have e:=hm name;unfold nsFind findBy at e;rw[<-W4]at e;unfold Ic;rw[hd];dsimp only;split
 .rename_i y q;rw[q]at e;exact congrArg Ab e
 .rename_i q;rw[q]at e;have a:es.toList.any (·.refKey)=Ad:=by
   rw[Xk];intro y hy;obtain⟨z,t,hkey⟩:=hk y (Array.mem_toList_iff.mp hy);simp[DictEntry.refKey,hkey]
  have a':¬ es.toList.any (·.refKey)=Aa:=by rw[a];exact Av
  rw[Ay a'];exact congrArg Ab e
theorem ObjM.look{x C:Ah}(I:ObjM h x dx C mA):∃ od,PySem.W.InstAt h x (DQ C dx) C (Ab od)/\∀ name,Ic name od=Ab (mA name):=
 let ⟨od,ho,hl⟩:=eY I.ns
 ⟨od,⟨I.obj,rfl,rfl,ho⟩,hl⟩
section
variable{prog:AO}{w:AW}{A:AZ}{E:Vq}{s:Aq}{K:Fg}{x dx C f:Ah}{mA:Ak->Ao Aj}{name:Ak}{v:Aj}
end
section
variable{P:AO}{w:AW}{H H':Hp}{h h':AF}{a C dx:Ah}{fs fs':Ac (Ak×V)}
end
structure Cls (K:Fg) (C:Ah):Prop where
 pg:Zs K C Str.empty=Aa
 hd:PySem.W.hasDictIn K C=Aa
 po:PySem.W.plainOver K C=Aa
 sa:Bq K (.ref C) "__setattr__" = Ab (Ab (.builtin "object.__setattr__"))
theorem Cls.get{K:Fg}{C:Ah}(c:Cls K C)(f:Ak):Zs K C f=Aa:=c.pg
section
variable{X:Cx}{pI:Pn}{Y:St}{H:Hp}{s:Aq}{a C dx:Ah}{fs:Ac (Ak×V)}{f:Ak}{v:V}{A:AZ}{E:Vq}
theorem Inv.made(I:Inv X pI Y H s):Inv X pI Y (upd (upd H s.heap.objs.size (.own (s.heap.objs.size+1))) (s.heap.objs.size+1) (.ins C s.heap.objs.size [])) {s with heap:=(s.heap.push CP).push (DQ C s.heap.objs.size)}:=by
  have e1:(s.heap.push CP).get? s.heap.objs.size=Ab CP:=AI s.heap rfl;have e2:((s.heap.push CP).push (DQ C s.heap.objs.size)).get? (s.heap.objs.size+1)=Ab (DQ C s.heap.objs.size):=by
    have:=AI (s.heap.push CP) (o:=DQ C s.heap.objs.size) rfl
    rwa [BX]at this
  have e3:(s.heap.push CP).Ns s.heap.objs.size (λ_=>Af):=⟨CP,#[],_,e1,rfl,(λe he=>absurd he (by simp)),λ_=>rfl⟩
  have I1:=I.laid (a:=s.heap.objs.size) (o:=.own (s.heap.objs.size+1)) (h':=s.heap.push CP) (t':=s.toks) (λb u q=>Au _ q) (AV _) ⟨_,e1⟩
  refine I1.laid (a:=s.heap.objs.size+1) (o:=.ins C s.heap.objs.size []) (t':=s.toks) (λb u q=>Au _ q) (XO (BX _ _)) ?_
  have ne:s.heap.objs.size≠s.heap.objs.size+1:=Be (ES _);refine⟨by rw[B8 ne,Gp],HK _,ne,e2,λ_=>Af,(Heap.Ns1.of_empty e3).at λo q=>Au _ q,λ_=>True.intro,λy hy=>absurd rfl hy⟩
end
section
variable{X:Cx}{o e value:Am}{f:Ak}{pos pos' tpos:AJ}{ta tv:TE}
end
section
variable{X:Cx}{pI:Pn}{Y:St}{H:Hp}{s:Aq}{A:AZ}{E:Vq}{Q:Vq}{c:Aj}{b:Ai}
end
structure Room (k:Ag) (A:AZ):Prop where
 hd:A.handled=Af
 dp:A.depth+3*k+5<ZA
 un:A.units+16*k+200<Bx
 gd:A.guards=Ab []
theorem Room.mono{j:Ag}{A:AZ}(r:Room k A)(h:j<=k):Room j A:=⟨r.hd,by have:=r.dp;omega,by have:=r.un;omega,r.gd⟩
theorem Room.deeper{A:AZ}(r:Room (k+1) A)(env:Ch):Room k (A.deeper env):=
 ⟨r.hd,by have:=r.dp;show A.depth+1+3*k+5<_;omega,by have:=r.un;show A.units+3+16*k+200<_;omega,r.gd⟩
theorem Room.depth{A:AZ}(r:Room k A):A.depth<ZA:=by have:=r.dp;omega
theorem Room.units{A:AZ}(r:Room k A):A.units+64<Bx:=by have:=r.un;omega
def bE:TA:=λ_ H Q=>Q [] H
def xT(ta:TE)(tr:TA):TA:=λY H Q=>ta Y H λx H1=>tr Y H1 λxs H2=>Q (x::xs) H2
section
variable{X:Cx}{e:Am}{es:Ac Am}{te:TE}{t:TA}{pos:AJ}
theorem Fh:PA X [] bE:=λ_ _ _ _ H Q I h=>Calls.spliced_nil ⟨[],H,I,.nil,h⟩
theorem DL(ha:PE X e te)(hr:PA X es t)(hs:Ar (e::es) X.env=(Ad,eval e X.env)::Ar es X.env:=by rfl):PA X (e::es) (xT te t):=by
 intro pos pI s Y H Q I h;rw[hs];show Az _ _ (spliced ((Ad,eval e X.env)::Bv pos (Ar es X.env))) _ _ s;refine Calls.spliced_cons (thn (ha pI s Y H _ I h) λu s1 ⟨x,H1,I1,r1,q1⟩=>?_)
 exact thn (hr pos pI s1 Y H1 _ I1 q1) λus s2 ⟨xs,H2,I2,r2,q2⟩=>⟨x::xs,H2,I2,.cons r1 r2,q2⟩
def aX(t:TA):TE:=λY H Q=>t Y H λxs H1=>xs.length<=sizeLine/\∀ p,H1 p=Af->Q (.ref p) (upd H1 p (.tup xs))
def bF(t:TA):TE:=λY H Q=>t Y H λxs H1=>xs.length<=sizeLine/\∀ p,H1 p=Af->Q (.ref p) (upd H1 p (.lst xs))
theorem QG{x1}(h:PA X es t):PE X (.Tuple es x1 pos) (aX t):=by
 intro pI s Y H Q I hq;refine wpAny_Tuple_spliced (thn (h pos pI s Y H _ I hq) λus s1 ⟨xs,H1,I1,r,z,q⟩=>⟨by rw[<-r.length];exact z,?_⟩)
 have hf:H1 s1.heap.objs.size=Af:=I1.hok.fresh (AV _);refine⟨.ref s1.heap.objs.size,upd H1 s1.heap.objs.size (.tup xs),I1.laid (t':=s1.toks) (λb u e=>Au _ e) (AV _) ?_,rfl,q _ hf⟩
 exact⟨z,us,r,⟨_,AI _ rfl,rfl,_,rfl⟩⟩
theorem tH(h:PA X es t):PE X (.List es pos) (bF t):=by
 intro pI s Y H Q I hq;refine wpAny_List_spliced (thn (h pos pI s Y H _ I hq) λus s1 ⟨xs,H1,I1,r,z,q⟩=>⟨by rw[<-r.length];exact z,?_⟩)
 have hf:H1 s1.heap.objs.size=Af:=I1.hok.fresh (AV _);refine⟨.ref s1.heap.objs.size,upd H1 s1.heap.objs.size (.lst xs),I1.laid (t':=s1.toks) (λb u e=>Au _ e) (AV _) ?_,rfl,q _ hf⟩
 exact⟨z,us,0,r,AI _ rfl⟩
end
abbrev Sp:=Ac V->Hp->VK->XK->Prop
variable{sp:Sp}
abbrev CXT:=Ac Ch->Hp->Aq->XK->Aj->Aq->Prop
variable{CX:CXT}
structure Env0 (P:AO) (w:AW) (K:Fg) (mg:Ak->Ao Aj) (base:AF) (A:AZ) (outer:Ac Ch) (s:Aq) (H:Hp):Prop where
 frames:A.frames=Ab outer
 mod:Mod K mg base
 bs:∀ b o,base.get? b=Ab o->s.heap.get? b=Ab o/\H b=Af
 bsz:base.objs.size<=s.heap.objs.size
 funs:s.heap.FunFrames base outer
 frf:∀ b∈frs outer,H b=Af
 hok:HOk P w H s.heap
 bare:Fx s.gens
noncomputable def CE(outer:Ac Ch)(P:AO)(w:AW)(H:Hp)(s:Aq)(Q:VK)(u:Aj)(s':Aq):Prop:=
 ∃ v H',s'.os=s.os/\Fx s'.gens/\Un (frs outer) [] H H' s.heap s'.heap/\HOk P w H' s'.heap/\Bu v u/\Q v H'
noncomputable def CR(CX:CXT)(outer:Ac Ch)(P:AO)(w:AW)(H:Hp)(s:Aq)(Q:VK)(E:XK)(r:Ia)(s':Aq):Prop:=
  match r with
  |.ok (.ret u)=>CE outer P w H s Q u s'
  |.ok _=>AU
  |.error e=>CX outer H s E e s'
structure FnOk (P:AO) (w:AW) (K:Fg) (mg:Ak->Ao Aj) (base:AF) (CX:CXT) (k:Ag) (f:Ah) (fd:BO) (ps:Ac Ak) (sp:Sp):Prop where
 len:∀ vs H Q E,sp vs H Q E->vs.length=ps.length
 run:∀(A:AZ)(outer:Ac Ch)(s:Aq)(H:Hp)(args:Args)(us:Ac Aj)(vs:Ac V)(Q:VK)(E:XK),Room k A->Env0 P w K mg base A outer s H->FA s fd args (ps.zip us)->A6 vs us->sp vs H Q E ->
  F7 (model P w) A (.call (.ref f) args) (CR CX outer P w H s Q E) s
theorem FnOk.imp{w:AW}{K:Fg}{mg:Ak->Ao Aj}{base:AF}{f:Ah}{sp':Sp}(F:FnOk P w K mg base CX k f fd ps sp)(h:∀ vs H Q E,sp' vs H Q E->sp vs H Q E):FnOk P w K mg base CX k f fd ps sp':=
 ⟨λvs H Q E q=>F.len vs H Q E (h _ _ _ _ q),λA outer s H args us vs Q E hr he hb hv hs=>F.run A outer s H args us vs Q E hr he hb hv (h _ _ _ _ hs)⟩
section
variable{X:Cx}{pI:Pn}{Y:St}{H:Hp}{s s':Aq}
theorem Inv.env0(I:Inv X pI Y H s):Env0 X.prog X.w X.K X.mg X.base X.A X.stack s H:=
 ⟨I.ok.frames,I.ok.mod,I.bs,Ck I.ok.bsz I.sz,I.stack,I.stkFree,I.hok,I.bare⟩
theorem Inv.after{Q:VK}(I:Inv X pI Y H s)(h:CE X.stack X.prog X.w H s Q u s'):EP X pI Y Q u s':=by
 obtain⟨v,H',os,bare,un,hok,r,q⟩:=h;obtain⟨hh,g,d,t,os'⟩:=s';obtain rfl:os'=s.os:=os;exact⟨v,H',I.call (h':=hh) (g':=g) (d':=d) (t':=t) (ch:=[]) un hok bare (λb z=>absurd z (by simp)),r,q⟩
end
def xU(sp:Sp)(dvs:Ac V)(E:XK)(t:TA):TE:=λY H Q=>t Y H λvs H1=>sp (vs++dvs) H1 Q E
noncomputable def EZ(K:Fg)(fd:BO)(ps:Ac Ak)(ds:Ac Aj):Prop:=
 ∀(s:Aq)(us:Ac Aj),K.In s.heap->(us++ds).length=ps.length->FA s fd ⟨us,[]⟩ (ps.zip (us++ds))
theorem EZ.all{K:Fg}(h:∀ us:Ac Aj,us.length=ps.length->LR fd ⟨us,[]⟩=pure (ps.zip us)):EZ K fd ps []:=λs us _ hl=>by
 rw[Bp]at hl ⊢;exact .of_eq (h us hl)
def J4(CX:CXT)(X:Cx)(E:XK):Prop:=∀(pI:Pn)(Y:St)(H:Hp)(s:Aq)(e:Aj)(s':Aq),Inv X pI Y H s->CX X.stack H s E e s'->X.xe e s'
section
variable{X:Cx}{CX:CXT}{k:Ag}{f C:Ah}{fd:BO}{ps:Ac Ak}{sp:Sp}{dvs:Ac V}{ds:Ac Aj}{E:XK}{x m:Ak}{p pos apos:AJ}{e o:Am}{es:Ac Am}{ta:TE}{t:TA}
theorem uE{Q:VK}(F:FnOk X.prog X.w X.K X.mg X.base CX k f fd ps sp)(hr:Room k X.A)(hb:EZ X.K fd ps ds)(hd:A6 dvs ds)(hx:J4 CX X E)(I:Inv X pI Y H s)(r:A6 vs us)(h:sp (vs++dvs) H Q E):Az (model X.prog X.w) X.A (call (.ref f) us) (EP X pI Y Q) X.xe s:=by
 have r2:A6 (vs++dvs) (us++ds):=r.append hd;have hl:(us++ds).length=ps.length:=by rw[<-r2.length];exact F.len _ _ _ _ h
 refine Kw (Gm (F.run X.A X.stack s H ⟨us,[]⟩ (us++ds) (vs++dvs) Q E hr I.env0 (hb s us I.kIn hl) r2 h) λr s' hq=>?_)
 cases r with
 |error e=>exact hx pI Y H s e s' I hq
 |ok fl=>
  cases fl with
  |ret u=>exact I.after hq
  |next=>exact Bo hq
  |brk=>exact Bo hq
  |cont=>exact Bo hq
theorem Qc(F:FnOk X.prog X.w X.K X.mg X.base CX k f fd ps sp)(hr:Room k X.A)(hg:Gl X x)(hm:X.mg x=Ab (.ref f))(hk:BL X.K (.ref f)=Aa)(hb:EZ X.K fd ps ds)(hd:A6 dvs ds)(hx:J4 CX X E)(ha:PA X (e::es) t)(hdb:(x==("__debug__" : Ak))=Ad:=by decide)(he:Ar (e::es) X.env=(Ad,eval e X.env)::Ar es X.env:=by rfl)(hpl:(Bv pos (Ar es X.env)).any (·.1)=Ad:=by rfl):PE X (.Call (.Name x p) (e::es) [] pos) (xU sp dvs E t):=by
 intro pI s Y H Q I h;refine EA (K8 I hg hm ?_ hdb);refine G1 (h₀:=X.base) I.ok.mod.kin hk (thn (ha pos pI s Y H _ I h) λus s1 ⟨vs,H1,I1,r,q⟩=>⟨I1.kIn,?_⟩) he hpl
 exact uE F hr hb hd hx I1 r q
end
section
variable{X:Cx}{CX:CXT}{k:Ag}{f C:Ah}{fd:BO}{ps ks:Ac Ak}{sp:Sp}{E:XK}{x m:Ak}{p pos apos kpos:AJ}{e o:Am}{es:Ac Am}{kws:Ac CK}{te ta:TE}{t tk:TA}{nm:Ao Ak}
variable{g:Ac Aj->Ac Aj->Ac Aj}{gV:Ac V->Ac V->Ac V}
end
structure FnScope (N P:Ac Ak) (sc:B6):Prop where
 kind:sc.kind=.function
 co:sc.isCoroutine=Ad
 gen:sc.isGenerator=Ad
 nd:N.Nodup
 pre:N.take P.length=P
 par:∀ x∈P,sc.names.lookup x=Ab .local\/sc.names.lookup x=Ab .cell
 nofree:∀ y∈sc.names,y.2≠.free
theorem Te{kindOf:Ak->Ao Eh}{x:Ak}:∀{binds:Ac (Ak×Aj)}{m:Ak->Ao Aj},(∀ v,(x,v)∉binds)->Io kindOf binds m x=m x
 |[],_,_=>rfl
 |(n,v)::r,m,h=>by
  unfold Io;rw[Te λw hw=>h w (Aw _ hw)]
  split
  .have:x≠n:=by rintro rfl;exact h v AA
   simp[this]
  .rfl
theorem Th{kindOf:Ak->Ao Eh}{x:Ak}:∀{binds:Ac (Ak×Aj)}{m:Ak->Ao Aj},(∀ v,(x,v)∉binds)->Im kindOf binds m x=m x
 |[],_,_=>rfl
 |(n,v)::r,m,h=>by
  unfold Im;rw[Th λw hw=>h w (Aw _ hw)]
  split
  .rfl
  .have:x≠n:=by rintro rfl;exact h v AA
   simp[this]
theorem Tf{kindOf:Ak->Ao Eh}{x:Ak}{v:Aj}:∀{P:Ac Ak}{vs:Ac Aj}{i:Ag}{m:Ak->Ao Aj},P.Nodup->P[i]?=Ab x->vs[i]?=Ab v->kindOf x=Ab .local->Io kindOf (P.zip vs) m x=Ab v
 |[],_,_,_,_,h,_,_=>by simp at h
 |_::_,[],_,_,_,_,h,_=>by simp at h
 |p::P,w::vs,0,m,nd,h1,h2,hk=>by
  simp at h1 h2;subst h1;subst h2;show Io kindOf ((p,w)::P.zip vs) m p=_;unfold Io;rw[Te λv hv=>(Fk.mp nd).1 (HE hv).1,Ax hk]
  simp
 |p::P,w::vs,i+1,m,nd,h1,h2,hk=>by
  show Io kindOf ((p,w)::P.zip vs) m x=_;unfold Io;exact Tf (i:=i) (Fk.mp nd).2 (by simpa using h1) (by simpa using h2) hk
theorem Ti{kindOf:Ak->Ao Eh}{x:Ak}{v:Aj}:∀{P:Ac Ak}{vs:Ac Aj}{i:Ag}{m:Ak->Ao Aj},P.Nodup->P[i]?=Ab x->vs[i]?=Ab v->kindOf x≠Ab .local->Im kindOf (P.zip vs) m x=Ab v
 |[],_,_,_,_,h,_,_=>by simp at h
 |_::_,[],_,_,_,_,h,_=>by simp at h
 |p::P,w::vs,0,m,nd,h1,h2,hk=>by
  simp at h1 h2;subst h1;subst h2;show Im kindOf ((p,w)::P.zip vs) m p=_;unfold Im;rw[Th λv hv=>(Fk.mp nd).1 (HE hv).1,Ay hk]
  simp
 |p::P,w::vs,i+1,m,nd,h1,h2,hk=>by
  show Im kindOf ((p,w)::P.zip vs) m x=_;unfold Im;exact Ti (i:=i) (Fk.mp nd).2 (by simpa using h1) (by simpa using h2) hk
noncomputable def start(N:Ac Ak)(vs:Ac V):St:=vs.map Ab++GI (N.length-vs.length) Af
noncomputable def GV(CX:CXT)(P:AO)(w:AW)(K:Fg)(mg:Ak->Ao Aj)(base:AF)(N:Ac Ak)(qual:Ak)(scope:B6)(f:Ah)(cd:Aj)(A:AZ)(outer:Ac Ch)(s:Aq)(H:Hp)(E:XK):Cx where
 prog:=P
 w:=w
 K:=K
 mg:=mg
 base:=base
 A:=A.deeper (E6 qual scope s.heap.objs.size f cd)
 N:=N
 s₀:=s
 H₀:=H
 env:=E6 qual scope s.heap.objs.size f cd
 outer:=outer
 stack:=E6 qual scope s.heap.objs.size f cd::outer
 ex:=[]
 calm:=Aa
 fn:=λ_=>Aa
 pn:=[]
 xe:=λe s'=>Az (model P w) (A.deeper (E6 qual scope s.heap.objs.size f cd)) (leaving (E6 qual scope s.heap.objs.size f cd) e) (λ_ s''=>CX outer H s E e s'') (λe' s''=>CX outer H s E e' s'') s'
theorem Ug{sc:B6}(h:sc.names.lookup x=Ab .cell):∃ c,(Dg n sc.names []).lookup x=Ab c:=by
 have q:=Zm sc.names n [] (.inl h);exact Ef.mp q
theorem eK{w:AW}{K:Fg}{mg:Ak->Ao Aj}{base:AF}{N ps:Ac Ak}{f:Ah}{cd:Aj}{A:AZ}{outer:Ac Ch}{s1:Aq}{E:XK}(S:FnScope N ps scope)(hd:A.handled=Af)(e0:Env0 P w K mg base A outer s H)(hl:vs.length=ps.length)(r:A6 vs us)(x:InCallC s s.heap.objs.size (Io (E6 qual scope s.heap.objs.size f cd).kindOf (ps.zip us) λ_=>Af) (Dg (s.heap.objs.size+1) scope.names []) (Im (E6 qual scope s.heap.objs.size f cd).kindOf (ps.zip us) λ_=>Af) s1):Inv (GV CX P w K mg base N qual scope f cd A outer s H E) [] (start N vs) H s1:=by
 have hpl:ps.length<=N.length:=by have:=congrArg List.length S.pre;rw[Hk]at this;omega
 obtain⟨h1,tk,rfl,hk⟩:=x.done;have noA:∀ b:Ah,b∉(GV CX P w K mg base N qual scope f cd A outer s H E).ex:=λb z=>absurd (show b∈([]:Ac Ah) from z) (by simp)
 refine⟨⟨e0.mod,S.kind,rfl,rfl,AV _,λy z c h1 h2=>?_,λy hy=>?_,λy c _ h=>?_,λ_=>hd,Around.frames_deeper e0.frames,.inr ⟨rfl,rfl⟩,λb z=>absurd z (noA b),e0.bs,e0.bsz,λb _ _=>noA b,λb z=>absurd z (noA b),e0.funs,e0.frf⟩,
  rfl,e0.bare,Un.kept hk,⟨_,x.toInCall.ns,λi y v h1 h2 h3=>?_⟩,λy c h=>⟨_,x.cell y c h⟩,e0.hok.fresh (AV _),λy c h=>?_,λp hp=>absurd (show p∈([]:Pn) from hp) (by simp),e0.hok.kept hk,?_⟩
 .exact name_of_addr x.apart (Ct h1) (Ct h2)
 .have hy:scope.names.lookup y=Ab .cell\/scope.names.lookup y=Ab .free:=hy;rcases hy with hy|hy
  .exact Ug hy
  .exact absurd rfl (S.nofree _ (Ct hy))
 .exact Gc (x.above y c (Ct h))
 .have hi:i<vs.length:=by
   unfold start at h2;by_cases hi:i<vs.length
   .exact hi
   .rw[Xr (by simpa using hi)]at h2
    rw[Xv]at h2;split at h2<;>cases h2
  have ha:vs[i]?=Ab v:=by
   unfold start at h2;rw[Fj (by simpa using hi),Dr]at h2
   cases e:vs[i]? with
   |none=>rw[e]at h2;cases h2
   |some a=>rw[e]at h2;cases h2;rfl
  obtain⟨u,hu,rv⟩:=r.get ha;have hp:ps[i]?=Ab y:=by
   rw[<-S.pre,List.getElem?_take_of_lt (by omega)];exact h1
  have ndP:ps.Nodup:=by rw[<-S.pre];exact S.nd.sublist (XI _ _)
  refine⟨u,rv,?_⟩;rcases S.par y (D3 hp) with k|k
  .exact .inl ⟨k,Tf ndP hp hu k⟩
  .obtain⟨c,e⟩:=Ug (n:=s.heap.objs.size+1) k;refine .inr ⟨.inl k,c,e,?_⟩;have q:=x.cell y c e;rw[Ti ndP hp hu (by show scope.names.lookup y≠_;rw[k];decide)]at q
   exact q
 .exact e0.hok.fresh (Gc (x.above y c (Ct h)))
 .unfold start;show _=N.length;rw[AM,A9,Xz];omega
theorem WV{w:AW}{K:Fg}{mg:Ak->Ao Aj}{base:AF}{f:Ah}{name:Ak}{params:Arguments}{dV kV doc pm cdv ct oc:Aj}{an od:Ao Ah}{osl:A7 (Ao Aj)}{N ps:Ac Ak}(lk:K.lookup f=Ab ⟨oc,od,.func (Cm name qual params body scope dV kV doc pm an cdv ct),osl⟩)(hcd:EQ K cdv qual=Aa)(S:FnScope N ps scope)(len:∀ vs H Q E,sp vs H Q E->vs.length=ps.length)(hbody:∀(A:AZ)(outer:Ac Ch)(s:Aq)(H:Hp)(vs:Ac V)(Q:VK)(E:XK),Room k (A.deeper (E6 qual scope s.heap.objs.size f cdv))->sp vs H Q E ->
   ∃ t,PSs (GV CX P w K mg base N qual scope f cdv A outer s H E) body t/\t {nx:=λ_ H'=>Q .non H',rt:=Q} (start N vs) H):FnOk P w K mg base CX (k+1) f (Cm name qual params body scope dV kV doc pm an cdv ct) ps sp:=by
 refine⟨len,λA outer s H args us vs Q E hr e0 hb r hsp=>?_⟩
 have hl:=len _ _ _ _ hsp;have KX:K.In s.heap:=e0.mod.kin.keeps λb o e=>(e0.bs b o e).1
 have lim:s.heap.NoLimit:=e0.mod.nolimit.keeps λb o e=>(e0.bs b o e).1
 have hkind:∀ y∈ps.zip us,scope.names.lookup y.1=Ab .local\/(scope.names.lookup y.1=Ab .cell/\((Dg (s.heap.objs.size+1) scope.names []).lookup y.1).isSome=Aa):=λ⟨n,v⟩ hy=>by
  rcases S.par n (HE hy).1 with q|q
  .exact .inl q
  .exact .inr ⟨q,Zm _ _ _ (.inl q)⟩
 refine codeAny_call_function hr.depth (KX _ _ lk) rfl S.co S.gen rfl (PySem.W.codeRec_of KX hcd) (hb _ _ _ _ ?_);refine wpAny_newFunctionEnv_cells S.kind hkind λenv he s1 x=>?_
 subst he;refine⟨lim.keeps x.toInCall.keep,codeAny_func ?_⟩;obtain⟨t,ht,hq⟩:=hbody A outer s H vs Q E (hr.deeper _) hsp;have I:Inv (GV CX P w K mg base N qual scope f cdv A outer s H E) [] (start N vs) H s1:=eK S hr.hd e0 hl r x;refine By (ht [] s1 (start N vs) H _ I hq) (λfl s' hs=>?_) λe s' hs=>hs
 have fin:∀{Y':St}{H':Hp}{v:V}{u:Aj},Inv (GV CX P w K mg base N qual scope f cdv A outer s H E) [] Y' H' s'->Bu v u->Q v H'->CE outer P w H s Q u s':=
  λ{Y' H' v u} J rv q=>⟨v,H',J.os,J.bare,J.base,J.hok,rv,q⟩
 cases fl with
 |ret u=>
  obtain⟨v,Y',H',J,rv,q⟩:=hs;exact fin J rv q
 |next=>
  obtain⟨Y',H',J,q⟩:=hs;exact fin (v:=V.non) (u:=D5) J rfl q
 |brk=>
  obtain⟨_,_,_,q⟩:=hs;exact Bo q
 |cont=>
  obtain⟨_,_,_,q⟩:=hs;exact Bo q
section
variable{X:Cx}{x:Ak}{p pos:AJ}{e:Am}{es:Ac Am}{t:TA}{id T:CO}{r:Ac V->Hp->VK->Prop}
def tCB(r:Ac V->Hp->VK->Prop)(t:TA):TE:=λY H Q=>t Y H λvs H1=>r vs H1 Q
theorem L9(hc:Jq X (.builtin id) r)(hg:Gl X x)(hm:X.mg x=Af)(hv:C4 x=Ab (.builtin id))(ha:PA X (e::es) t)(hn:x≠"__name__" := by decide)(hdb:(x==("__debug__" : Ak))=Ad:=by decide)(he:Ar (e::es) X.env=(Ad,eval e X.env)::Ar es X.env:=by rfl)(hpl:(Bv pos (Ar es X.env)).any (·.1)=Ad:=by rfl):PE X (.Call (.Name x p) (e::es) [] pos) (tCB r t):=by
 intro pI s Y H Q I h;refine EA (J6 I hg hm hv ?_ hn hdb);exact PyProof.Rows.callWith_builtin1 (thn (ha pos pI s Y H _ I h) λus s1 ⟨vs,H1,I1,r1,q1⟩=>hc pI s1 Y H1 vs us Q I1 r1 q1) he hpl
theorem Tq(hc:Jq X (.type T) r)(hg:Gl X x)(hm:X.mg x=Af)(hv:C4 x=Ab (.type T))(ha:PA X (e::es) t)(hn:x≠"__name__" := by decide)(hdb:(x==("__debug__" : Ak))=Ad:=by decide)(he:Ar (e::es) X.env=(Ad,eval e X.env)::Ar es X.env:=by rfl)(hpl:(Bv pos (Ar es X.env)).any (·.1)=Ad:=by rfl):PE X (.Call (.Name x p) (e::es) [] pos) (tCB r t):=by
 intro pI s Y H Q I h;refine EA (J6 I hg hm hv ?_ hn hdb);exact CW (thn (ha pos pI s Y H _ I h) λus s1 ⟨vs,H1,I1,r1,q1⟩=>hc pI s1 Y H1 vs us Q I1 r1 q1) he hpl
end
end L2
namespace HT
open PySem PyProof.Rows
variable{sl:Ah}
section
open PySem.SeqAt
open PySem.AutoSeq1 (wpAny_loadPart')
open PySem.MeetsSeq PySem.MeetsSeq2 PySem.MeetsSeq3
end
section
variable{prog:AO}{w:AW}{A:AZ}{E:Vq}{s:Aq}
theorem cat_tup{t b:Ah}{vs ws:Ac Aj}{Q:Vq}(ht:Ko s.heap t vs.toArray)(hb:Ko s.heap b ws.toArray)(hv:vs≠[])(h1:ws=[]->Q (.ref t) s)(h2:ws≠[]->Q (.ref s.heap.objs.size) { s with heap:=s.heap.push { cls:=.type "tuple",data:=.seq (vs++ws).toArray } })(hsz:vs.length+ws.length<=sizeLine):Az (model prog w) A (B7 .Add (.ref t) (.ref b)) Q E s:=by
 obtain⟨⟨cls,dd,data,sl⟩,ho,hc,n,hd⟩:=id ht;obtain⟨⟨cls2,dd2,data2,sl2⟩,ho2,hc2,n2,hd2⟩:=id hb;simp only at hc hd hc2 hd2;subst hc hd hc2 hd2;have e:vs.toArray++ws.toArray=(vs++ws).toArray:=by simp
 by_cases hw:ws=[]
 .exact IV ⟨_,ho,rfl⟩ ⟨_,ho2,rfl⟩ Zz seq_tuple_add YV YQ (YL _ _)
   (tuple_addW1 t b vs.toArray ws.toArray n n2 dd dd2 sl sl2 (by simpa using hv) (by simp[hw])) ⟨ho,ho2,h1 hw⟩
 .refine IV ⟨_,ho,rfl⟩ ⟨_,ho2,rfl⟩ Zz seq_tuple_add YV YQ (YL _ _)
   (tuple_addW2 t b vs.toArray ws.toArray n n2 dd dd2 sl sl2 (by simpa using hv) (by simpa using hw) (by rw[AE,AE];exact hsz)) ⟨ho,ho2,?_⟩
  rw[e];exact h2 hw
noncomputable def sIx(n d:Ag):Ao Ae->Ag
 |none=>d
 |some v=>if v<0 then (v+(n:Ae)).toNat else min v.toNat n
theorem uB(n d:Ag)(hd:d<=n)(o:Ao Ae):sIx n d o<=n:=by
 cases o with
 |none=>exact hd
 |some v=>
  show (if v<0 then (v+(n:Ae)).toNat else min v.toNat n)<=n
  by_cases hv:v<0
  .rw[Ax hv];omega
  .rw[Ay hv];exact Nat.min_le_right _ _
theorem U_6(v:Ae)(n d:Ag):(if v<0 then max (v+(n:Ae)) 0 else min v (n:Ae))=((sIx n d (Ab v):Ag):Ae):=by
 show (if v<0 then max (v+(n:Ae)) 0 else min v (n:Ae))=(((if v<0 then (v+(n:Ae)).toNat else min v.toNat n):Ag):Ae)
 by_cases hv:v<0
 .simp only[Ax hv];omega
 .simp only[Ay hv];omega
theorem dX(lo hi:Ao Ae)(n:Ag):Fl lo hi 1 (n:Ae)=(((sIx n 0 lo:Ag):Ae),((sIx n n hi:Ag):Ae)):=by
 have h1:¬ ((1:Ae)<0):=by omega
 unfold Fl;simp only[h1,IM];refine Dk ?_ ?_
 .cases lo with
  |none=>rfl
  |some v=>exact U_6 v n 0
 .cases hi with
  |none=>rfl
  |some v=>exact U_6 v n n
theorem cU(i j:Ag):D4 (i:Ae) (j:Ae) 1=j-i:=by
 unfold D4;have h1:(1:Ae)>0:=by omega
 simp only[h1,ER,Int.ediv_one];split<;>omega
theorem SK{v:Aj}{o:Ao Ae}{Q:Ao Ae->Aq->Prop}(p:Hl v o)(h:Q o s):Az (model prog w) A (Builtin.Slice.slicePartIndex v) Q E s:=by
 cases p with
 |none=>exact X5 h
 |int i t=>exact slicePart_int h
theorem cE{vl vu:Aj}{lo hi:Ao Ae}{n:Ag}{Q:Ae×Ae×Ag->Aq->Prop}(hs:s.heap.IsSliceOf sl vl vu .none)(pl:Hl vl lo)(pu:Hl vu hi)(h:Q (((sIx n 0 lo:Ag):Ae),1,sIx n n hi-sIx n 0 lo) s):Az (model prog w) A (Yb (.ref sl) (pure (n:Ae))) Q E s:=by
 obtain⟨os,hos,hcs,hds⟩:=id hs;unfold Yb Builtin.Slice.sliceFields;refine An (An (BP hos hds (x:=vl) rfl (An (BP hos hds (x:=vu) rfl (An (BP hos hds (x:=.none) rfl (AC ?_)))))));refine An (X5 ?_);show Az _ _ (if ((1:Ae)==0)=Aa then _ else _) _ _ s
 rw[Ay (by decide)]
 refine An (SK pl (An (SK pu (An (AC ?_)))));show Az _ _ (match Fl lo hi 1 (n:Ae) with|(lo,hi)=>pure (lo,(1:Ae),D4 lo hi 1)) _ _ s
 rw[dX lo hi n];show Az _ _ (pure (((sIx n 0 lo:Ag):Ae),(1:Ae),D4 ((sIx n 0 lo:Ag):Ae) ((sIx n n hi:Ag):Ae) 1)) _ _ s;rw[cU];exact AC h
theorem fC(xs:A7 Aj)(i k:Ag):((A1 k).filterMap fun(m:Ag)=>xs[((i:Ae)+(m:Ae)*1).toNat]?).toArray=((xs.toList.drop i).take k).toArray:=by
 have e:(fun(m:Ag)=>xs[((i:Ae)+(m:Ae)*1).toNat]?)=λm=>xs[i+m]?:=by
  funext m
  have:((i:Ae)+(m:Ae)*1).toNat=i+m:=by omega
  rw[this]
 rw[e];have:=pick_run xs i k;rw[List.filterMap_map]at this;have e2:((λx=>xs[x]?) ∘ λx=>i+x)=λm=>xs[i+m]?:=rfl
 rw[e2]at this;rw[this]
theorem getItem_tuple_cut{t:Ah}{items:A7 Aj}{vl vu:Aj}{lo hi:Ao Ae}{Q:Vq}(ht:Ko s.heap t items)(hs:s.heap.IsSliceOf sl vl vu .none)(pl:Hl vl lo)(pu:Hl vu hi)(hw:¬ (sIx items.size 0 lo=0/\sIx items.size items.size hi=items.size))(h:Q (.ref s.heap.objs.size) { s with heap:=s.heap.push { cls:=.type "tuple",data:=.seq ((items.toList.drop (sIx items.size 0 lo)).take (sIx items.size items.size hi-sIx items.size 0 lo)).toArray } })(hsz:items.size<=sizeLine):Az (model prog w) A (Jy (.ref t) (.ref sl)) Q E s:=by
 have htake:sizeOk (.seq ((items.toList.drop (sIx items.size 0 lo)).take (sIx items.size items.size hi-sIx items.size 0 lo)).toArray):=by
  show ((items.toList.drop (sIx items.size 0 lo)).take (sIx items.size items.size hi-sIx items.size 0 lo)).toArray.size<=sizeLine;rw[AE,Hk,Xy,Fc];omega
 have hj:sIx items.size items.size hi<=items.size:=uB _ _ (AV _) hi;obtain⟨os,hos,hcs,hds⟩:=id hs;have hTs:s.TypeIs (.ref sl) "slice" := ⟨os,hos,hcs⟩;unfold Jy
 try with_reducible refine CH ?_
 first|refine An (AC ?_)|skip
 refine An (wpAny_sequenceKey ht.typeIs (by decide) ?_)
 refine An (CN (name:=DI "__getitem__") ht.typeIs X6
  (EU X6 ht.typeIs entry_tuple_getitem ?_ (args_tuple_getitem _ _)))
 show Az _ _ (Builtin.Tuple.tupleItemsOf (.ref t) >>= _) _ _ s;refine An (tupleItemsOf_ ht ?_);refine An (wpAny_typeOf hTs ?_);rw[Ax (by decide)]
 refine An (cE hs pl pu ?_);have hno:¬ ((((sIx items.size 0 lo:Ag):Ae)==0&&(1:Ae)==1&&(sIx items.size items.size hi-sIx items.size 0 lo)==items.size)=Aa):=by
  intro q;rw[Al,Al]at q;have q1:((sIx items.size 0 lo:Ag):Ae)=0:=eq_of_beq q.1.1;have q2:sIx items.size items.size hi-sIx items.size 0 lo=items.size:=eq_of_beq q.2;exact hw ⟨by omega,by omega⟩
 show Az _ _ (if (((sIx items.size 0 lo:Ag):Ae)==0&&(1:Ae)==1&&(sIx items.size items.size hi-sIx items.size 0 lo)==items.size)=Aa then _ else _) _ _ s
 rw[Ay hno,fC]
 first
  |exact An (m:=Eg _) (CS (AC ⟨_,rfl,AC h⟩) htake)
  |exact An (m:=Eg _) (CS (An (AC (AC ⟨_,rfl,AC h⟩))) htake)
  |exact An (An (m:=Eg _) (CS (AC (AC ⟨_,rfl,AC h⟩)) htake))
  |exact An (An (m:=Eg _) (CS (AC ⟨_,rfl,AC h⟩) htake))
end
end HT
namespace L2
open PySem PySem.Spec PyProof.Rows
variable{r:V->Ao Ae->Ao Ae->Hp->VK->Prop}{xs:Ac V}{us its its':Ac Aj}{n j t':Ag}{i:Ae}{α:Type}{pI:Pn}{Y:St}{H:Hp}{s:Aq}{p:Ah}
abbrev TO:=St->Hp->(Ao Ae->Hp->Prop)->Prop
noncomputable def PO(X:Cx)(e:Ao Am)(t:TO):Prop:=
 ∀(pI:Pn)(s:Aq)(Y:St)(H:Hp)(Q:Ao Ae->Hp->Prop),Inv X pI Y H s->t Y H Q ->
  Az (model X.prog X.w) X.A (evalPart e X.env) (λu s'=>∃ o H',Inv X pI Y H' s'/\Hl u o/\Q o H') X.xe s
def lD:TO:=λ_ H Q=>Q Af H
def xP(t:TE):TO:=λY H Q=>t Y H λx H1=>∃ i,x=.int i/\Q (Ab i) H1
section
variable{X:Cx}{e:Am}{te:TE}{lo hi:Ao Am}{tl th:TO}{pos p2:AJ}
theorem lJ:PO X Af lD:=by
 intro pI s Y H Q I h;rw[evalPart_none];exact AC ⟨Af,H,I,.none,h⟩
theorem lI(h:PE X e te):PO X (Ab e) (xP te):=by
 intro pI s Y H Q I hw;rw[evalPart_some];refine thn (h pI s Y H _ I hw) λu s1 ⟨x,H1,I1,r1,q1⟩=>?_
 obtain⟨i,rfl,q⟩:=q1;obtain⟨t,rfl⟩:=r1;exact⟨Ab i,H1,I1,.int i t,q⟩
noncomputable def SlR(X:Cx)(r:V->Ao Ae->Ao Ae->Hp->VK->Prop):Prop:=
 ∀(pI:Pn)(s:Aq)(Y:St)(H:Hp)(x:V)(v vl vu:Aj)(lo hi:Ao Ae)(sl:Ah)(Q:VK),Inv X pI Y H s->Bu x v->s.heap.IsSliceOf sl vl vu .none->Hl vl lo->Hl vu hi->r x lo hi H Q ->
  ∃ T id,typeLookup (.type T) "__getitem__" = pure (Ab (.builtin id))/\s.TypeIs v T/\Az (model X.prog X.w) X.A (Jy v (.ref sl)) (EP X pI Y Q) X.xe s
theorem SlR.or{r':V->Ao Ae->Ao Ae->Hp->VK->Prop}(h:SlR X r)(h':SlR X r'):SlR X (λx lo hi H Q=>r x lo hi H Q\/r' x lo hi H Q):=by
 intro pI s Y H x v vl vu lo hi sl Q I rx hs pl pu q;rcases q with q|q
 .exact h pI s Y H x v vl vu lo hi sl Q I rx hs pl pu q
 .exact h' pI s Y H x v vl vu lo hi sl Q I rx hs pl pu q
def tSl(r:V->Ao Ae->Ao Ae->Hp->VK->Prop)(te:TE)(tl th:TO):TE:=λY H Q=>te Y H λx H1=>tl Y H1 λl H2=>th Y H2 λu H3=>r x l u H3 Q
theorem fD(hr:SlR X r)(he:PE X e te)(hl:PO X lo tl)(hu:PO X hi th):PE X (.Subscript e (.Slice lo hi Af p2) pos) (tSl r te tl th):=by
 intro pI s Y H Q I h;refine Subscript_ (thn (he pI s Y H _ I h) λv s1 ⟨x,H1,I1,r1,q1⟩=>?_)
 refine wpAny_Slice (thn (hl pI s1 Y H1 _ I1 q1) λvl s2 ⟨l,H2,I2,pl,q2⟩=>thn (hu pI s2 Y H2 _ I2 q2) λvu s3 ⟨u,H3,I3,pu,q3⟩=>?_)
 rw[evalPart_none];refine AC ?_;have I4:Inv X pI Y H3 { s3 with heap:=s3.heap.push { cls:=.type "slice",data:=.fields #[vl,vu,.none] } }:=I3.kept (t':=s3.toks) λb ob q=>Au _ q
 obtain⟨T,id,hT,ht,hg⟩:=hr pI { s3 with heap:=s3.heap.push { cls:=.type "slice",data:=.fields #[vl,vu,.none] } } Y H3 x v vl vu l u s3.heap.objs.size Q I4 r1 (Heap.IsSliceOf.new ..) pl pu q3
 show Az (model X.prog X.w) X.A (subscriptTail e (.Slice lo hi Af p2) v (.ref s3.heap.objs.size)) (EP X pI Y Q) X.xe { s3 with heap:=s3.heap.push { cls:=.type "slice",data:=.fields #[vl,vu,.none] } }
 exact tail_any (ops:=[.ref s3.heap.objs.size,v]) ht hT hg (by with_unfolding_all rfl)
noncomputable def Jw(xs:Ac V)(lo hi:Ao Ae):Ac V:=(xs.drop (HT.sIx xs.length 0 lo)).take (HT.sIx xs.length xs.length hi-HT.sIx xs.length 0 lo)
theorem SG(xs:Ac V)(lo hi:Ao Ae):(Jw xs lo hi).length<=xs.length:=by
 unfold Jw;rw[Hk,Xy];omega
def R9(K:Fg):V->Ao Ae->Ao Ae->Hp->VK->Prop:=λx lo hi H Q=>∃ a xs,x=.ref a/\SqT K H a xs /\
 ¬ (HT.sIx xs.length 0 lo=0/\HT.sIx xs.length xs.length hi=xs.length)/\∀ p,H p=Af->Q (.ref p) (upd H p (.tup (Jw xs lo hi)))
theorem rY:SlR X (R9 X.K):=by
 intro pI s Y H x v vl vu lo hi sl Q I rx hs pl pu h;obtain⟨a,xs,rfl,hx,hw,q⟩:=h;cases rx;obtain⟨its,r,ht,hz⟩:=I.tuple hx;have hlen:its.toArray.size=xs.length:=by rw[AE];exact r.length.symm
 refine⟨"tuple",_,PyProof.Rows.slot_tuple_getitem.lookup,ht.typeIs,?_⟩;refine HT.getItem_tuple_cut ht hs pl pu (by rw[hlen];exact hw) ?_ (by rw[hlen];exact hz)
 rw[hlen];refine⟨.ref s.heap.objs.size,_,I.laid (t':=s.toks) (o:=.tup (Jw xs lo hi)) (λb ob q=>Au _ q) (AV _) ?_,rfl,q _ (I.hok.fresh (AV _))⟩
 exact⟨Ck (SG xs lo hi) hz,_,(r.drop (HT.sIx xs.length 0 lo)).take (HT.sIx xs.length xs.length hi-HT.sIx xs.length 0 lo),LG _ _⟩
def yX(K:Fg):R2:=λx y H Q=>∃ a b xs ys,x=.ref a/\y=.ref b/\SqT K H a xs/\SqT K H b ys/\xs≠[]/\xs.length+ys.length<=sizeLine /\
 (ys=[]->Q (.ref a) H)/\(ys≠[]->∀ p,H p=Af->Q (.ref p) (upd H p (.tup (xs++ys))))
theorem A6.nil_iff(r:A6 xs us):us=[]↔xs=[]:=by
 cases r with
 |nil=>simp
 |cons _ _=>simp
theorem mF:OpR X (B7 .Add) (yX X.K):=by
 intro pI s Y H x y v u Q I rx ry h;obtain⟨a,b,xs,ys,rfl,rfl,ha,hb,hx,hz,q1,q2⟩:=h;cases rx;cases ry;obtain⟨its,r1,p1,_⟩:=I.tuple ha;obtain⟨its2,r2,p2,_⟩:=I.tuple hb;refine HT.cat_tup p1 p2 (λz=>hx (r1.nil_iff.mp z)) (λz=>⟨.ref a,H,I,rfl,q1 (r2.nil_iff.mp z)⟩) (λz=>?_) (by rw[<-r1.length,<-r2.length];exact hz)
 refine⟨.ref s.heap.objs.size,_,I.laid (t':=s.toks) (o:=.tup (xs++ys)) (λb ob q=>Au _ q) (AV _) ?_,rfl,q2 (λw=>z (r2.nil_iff.mpr w)) _ (I.hok.fresh (AV _))⟩
 exact⟨by rw[AM];exact hz,_,r1.append r2,LG _ _⟩
end
noncomputable def ixN(n:Ag)(i:Ae):Ao Ag:=if 0<=i then (if i<n then Ab i.toNat else Af) else if -(n:Ae)<=i then Ab (i+n).toNat else Af
noncomputable def atI{α:Type}(xs:Ac α)(i:Ae):Ao α:=(ixN xs.length i).bind λj=>xs[j]?
theorem U_9(h:ixN n i=Ab j):seqIndex? i n=Ab j/\j<n/\-(n:Ae)<=i/\i<n:=by
 unfold ixN at h;by_cases h0:0<=i
 .rw[Ax h0]at h;by_cases h1:i<n
  .rw[Ax h1]at h;have e:i.toNat=j:=Bg h;exact⟨by rw[JC h0 h1,e],by omega,by omega,h1⟩
  .rw[Ay h1]at h;cases h
 .rw[Ay h0]at h;by_cases h1:-(n:Ae)<=i
  .rw[Ax h1]at h;have e:(i+n).toNat=j:=Bg h;exact⟨by rw[IY (by omega) h1,e],by omega,h1,by omega⟩
  .rw[Ay h1]at h;cases h
theorem Vv{xs:Ac α}{v:α}(h:atI xs i=Ab v):∃ j,seqIndex? i xs.length=Ab j/\xs[j]?=Ab v/\j<xs.length/\-(xs.length:Ae)<=i/\i<xs.length:=by
 unfold atI at h;cases e:ixN xs.length i with
 |none=>rw[e]at h;cases h
 |some j=>
  rw[e]at h;obtain⟨h1,h2,h3,h4⟩:=U_9 e;exact⟨j,h1,h,h2,h3,h4⟩
theorem pR{xs:Ac α}{v:α}(h:xs[j]?=Ab v):atI xs (j:Ae)=Ab v:=by
 have hj:j<xs.length:=(AX.mp h).1;have e:ixN xs.length (j:Ae)=Ab j:=by
  unfold ixN;rw[Ax (by omega),Ax (by omega)];simp
 unfold atI;rw[e];exact h
def P5(b:Am):Prop:=∀ o i,subscripted b Ad o i=operate [o,i] (Jy o i)
noncomputable def IxR(X:Cx)(r:R2):Prop:=
 ∀(value slice:Am)(pI:Pn)(s:Aq)(Y:St)(H:Hp)(x y:V)(v u:Aj)(Q:VK),Inv X pI Y H s->Bu x v->Bu y u->r x y H Q ->
  subscripted slice Ad v u=operate [v,u] (Jy v u)->Az (model X.prog X.w) X.A (subscriptTail value slice v u) (EP X pI Y Q) X.xe s
noncomputable def MtR(X:Cx)(id:CO)(r:V->Ac V->Hp->VK->Prop):Prop:=
 ∀(pI:Pn)(s:Aq)(Y:St)(H:Hp)(x:V)(xs:Ac V)(v:Aj)(us:Ac Aj)(Q:VK),Inv X pI Y H s->Bu x v->A6 xs us->r x xs H Q ->
  Az (model X.prog X.w) X.A (call (.builtin id) (v::us)) (EP X pI Y Q) X.xe s
section
variable{X:Cx}{a b:Am}{ta tb:TE}{pos:AJ}
theorem IxR.or{r r':R2}(h:IxR X r)(h':IxR X r'):IxR X (λx y H Q=>r x y H Q\/r' x y H Q):=by
 intro value slice pI s Y H x y v u Q I rx ry q hs;rcases q with q|q
 .exact h value slice pI s Y H x y v u Q I rx ry q hs
 .exact h' value slice pI s Y H x y v u Q I rx ry q hs
theorem WD{r:R2}(hr:IxR X r)(ha:PE X a ta)(hb:PE X b tb)(hs:P5 b):PE X (.Subscript a b pos) (tOp r ta tb):=by
 intro pI s Y H Q I h;exact Subscript_ (Os ha hb I h λv u s2 x y H2 I2 rx ry q=>hr a b pI s2 Y H2 x y v u Q I2 rx ry q (hs _ _))
def RN(K:Fg):R2:=λx y H Q=>∃ p xs i v,x=.ref p/\y=.int i/\SqL K H p xs/\atI xs i=Ab v/\Q v H
def RM(K:Fg):R2:=λx y H Q=>∃ p xs i v,x=.ref p/\y=.int i/\SqT K H p xs/\atI xs i=Ab v/\Q v H
theorem pJ:IxR X (RN X.K):=by
 intro value slice pI s Y H x y v u Q I rx ry h hs;obtain⟨p,xs,i,z,rfl,rfl,hq,he,q⟩:=h;cases rx;obtain⟨t,rfl⟩:=ry;obtain⟨its,r,pl,hz⟩:=I.list hq;obtain⟨j,h1,h2,h3,h4,h5⟩:=Vv he;obtain⟨w,ew,rw'⟩:=r.get h2;have hl:=r.length;have hn:=J5;have fin:EP X pI Y Q w s:=⟨z,H,I,rw',q⟩;by_cases h0:0<=i
 .have hj:i.toNat=j:=by
   rw[JC h0 h5]at h1;exact Bg h1
  exact item_listR pl.isList h0 (by omega) (by rw[hj];simpa using ew) fin hs
 .have hj:(i+(its.toArray.size:Ae)).toNat=j:=by
   rw[IY (by omega) h4]at h1
   rw[AE,<-hl];exact Bg h1
  exact FP (x:=w) pl.isList.typeIs ZC.lookup
   (wpAny_getItem_list_neg (Q:=λr s'=>r=w/\EP X pI Y Q r s') pl.isList (by omega) (by rw[AE]<;>omega) (by omega) (by rw[hj];simpa using ew) ⟨rfl,fin⟩) hs
theorem VJ:IxR X (RM X.K):=by
 intro value slice pI s Y H x y v u Q I rx ry h hs;obtain⟨p,xs,i,z,rfl,rfl,hq,he,q⟩:=h;cases rx;obtain⟨t,rfl⟩:=ry;obtain⟨its,r,pl,hz⟩:=I.tuple hq;obtain⟨j,h1,h2,h3,h4,h5⟩:=Vv he;obtain⟨w,ew,rw'⟩:=r.get h2;have hl:=r.length;have hn:=J5;have fin:EP X pI Y Q w s:=⟨z,H,I,rw',q⟩;exact FP (x:=w) pl.typeIs slot_tuple_getitem.lookup
  (getItem_tuple (j:=j) (Q:=λr s'=>r=w/\EP X pI Y Q r s') pl (by omega) (by omega) (by rw[AE,<-hl];exact h1) (by simpa using ew) ⟨rfl,fin⟩) hs
theorem cW(its:Ac Aj)(n j:Ag)(u:Aj):Gi (·.setIfInBounds j u) { cls:=.type "list",data:=.seq its.toArray n }={ cls:=.type "list",data:=.seq (its.set j u).toArray n }:=by
 simp[Gi]
theorem Inv.lst(I:Inv X pI Y H s)(h:H p=Ab (.lst xs)):
  ∃(its:Ac Aj)(n:Ag),A6 xs its/\s.heap.get? p=Ab { cls:=.type "list",data:=.seq its.toArray n }/\xs.length<=sizeLine:=by
 obtain⟨z,its,n,r,e⟩:=I.hok p _ h;exact⟨its,n,r,e,z⟩
theorem Inv.lstUpd{ys:Ac V}{n':Ag}{f:C9->C9}(I:Inv X pI Y H s)(h:H p=Ab (.lst xs))(ho:s.heap.get? p=Ab { cls:=.type "list",data:=.seq its.toArray n })(hf:f { cls:=.type "list",data:=.seq its.toArray n }={ cls:=.type "list",data:=.seq its'.toArray n' })(r:A6 ys its')(hz:ys.length<=sizeLine)(t:Ag):Inv X pI Y (upd H p (.lst ys)) {s with heap:=s.heap.update p f,toks:=t}:=by
 have e:(s.heap.update p f).get? p=Ab { cls:=.type "list",data:=.seq its'.toArray n' }:=by
  rw[Dd f ho (by rw[hf]<;>rfl),hf]
 refine I.write (x:=p) (e:=p) (by rw[h];trivial) (.inl rfl) (λb u hb q=>(C3 _ _ (DP hb)).trans q) ⟨_,e⟩ ?_
 exact⟨hz,its',n',r,e⟩
def yU:V->V->V->Hp->(Hp->Prop)->Prop:=λo i v H Q=>∃ p xs k j,o=.ref p/\i=.int k/\H p=Ab (.lst xs)/\ixN xs.length k=Ab j/\Q (upd H p (.lst (xs.set j v)))
theorem fU:Oy X yU:=by
 intro pI s Y H o i v ov iv u Q I ro ri rv h;obtain⟨p,xs,k,j,rfl,rfl,hp,hj,q⟩:=h;cases ro;obtain⟨t,rfl⟩:=ri;obtain⟨its,n,r,ho,hz⟩:=I.lst hp;obtain⟨h1,h2,h3,h4⟩:=U_9 hj;have hl:=r.length;have hn:=J5;have I':Inv X pI Y (upd H p (.lst (xs.set j v))) {s with heap:=s.heap.update p (Gi (·.setIfInBounds j u))}:=
  I.lstUpd hp ho (cW its n j u) (r.set rv j) (by rw[AT];exact hz) s.toks
 by_cases h0:0<=k
 .have hk:k.toNat=j:=by
   rw[JC h0 h4]at h1;exact Bg h1
  exact PySem.W.ki_setAt ho h0 (by omega) (by rw[AE,<-hl];exact h4) (by rw[hk];exact⟨_,I',q⟩)
 .have hk:(k+(its.toArray.size:Ae)).toNat=j:=by
   rw[IY (by omega) h3]at h1
   rw[AE,<-hl];exact Bg h1
  exact PySem.W.ki_setBack ho (by omega) (by rw[AE,<-hl];exact h3) (by omega) (by rw[hk];exact⟨_,I',q⟩)
theorem cR(lo hi:Ao Ae)(n:Ag):(Fa lo hi Af n).1=((HT.sIx n 0 lo:Ag):Ae)/\(Fa lo hi Af n).2.1=((HT.sIx n n hi:Ag):Ae)/\(Fa lo hi Af n).2.2=1:=by
 refine⟨?_,?_,rfl⟩
 .cases lo with
  |none=>simp[Fa,HT.sIx]
  |some i=>
   simp only[Fa,HT.sIx,XZ,show (1:Ae)>0 by decide,ER]
   by_cases h:i<0
   .simp only[h,ER]<;>omega
   .simp only[h,IM]<;>omega
 .cases hi with
  |none=>simp[Fa,HT.sIx]
  |some i=>
   simp only[Fa,HT.sIx,XZ,show (1:Ae)>0 by decide,ER]
   by_cases h:i<0
   .simp only[h,ER]<;>omega
   .simp only[h,IM]<;>omega
theorem cH(its:Ac Aj)(lo hi:Ao Ae):slicePick its.toArray lo hi Af=((its.drop (HT.sIx its.length 0 lo)).take (HT.sIx its.length its.length hi-HT.sIx its.length 0 lo)).toArray:=by
 obtain⟨h1,h2,h3⟩:=cR lo hi its.toArray.size;unfold slicePick;rw[h1,h2,h3];simp only[sliceRange_one,pick_run,AE]<;>rfl
def RK(K:Fg):V->Ao Ae->Ao Ae->Hp->VK->Prop:=λx lo hi H Q=>∃ a xs,x=.ref a/\SqL K H a xs/\∀ p,H p=Af->Q (.ref p) (upd H p (.lst (Jw xs lo hi)))
theorem jZ:SlR X (RK X.K):=by
 intro pI s Y H x v vl vu lo hi sl Q I rx hs pl pu h;obtain⟨a,xs,rfl,hx,q⟩:=h;cases rx;obtain⟨its,r,ht,hz⟩:=I.list hx;have hlen:=r.length;refine⟨"list",_,ZC.lookup,ht.isList.typeIs,?_⟩;refine wpAny_getItem_list_slice ht.isList hs pl pu .none (by simp) ?_ (by rw[AE]<;>omega)
 rw[cH,<-hlen];refine⟨.ref s.heap.objs.size,_,I.laid (t':=s.toks) (o:=.lst (Jw xs lo hi)) (λb ob q=>Au _ q) (AV _) ?_,rfl,q _ (I.hok.fresh (AV _))⟩
 exact⟨Ck (SG xs lo hi) hz,_,0,(r.drop (HT.sIx xs.length 0 lo)).take (HT.sIx xs.length xs.length hi-HT.sIx xs.length 0 lo),AI _ rfl⟩
theorem Su:Jq X (.builtin "len") (λxs H Q=>∃ p ys,xs=[.ref p]/\(SqL X.K H p ys\/SqT X.K H p ys)/\Q (.int ys.length) H):=by
 intro pI s Y H xs us Q I r h;obtain⟨p,ys,rfl,hq,q⟩:=h;obtain⟨u,rfl,rx⟩:=Ke r;cases rx;have hn:=J5;rcases hq with hq|hq
 .obtain⟨its,r',pl,hz⟩:=I.list hq;have hlen:=r'.length;exact Calls.call_len_list pl.isList (by simp only[AE]<;>omega) ⟨.int ys.length,H,I.tok _,⟨s.toks+1,by rw[AE,hlen]⟩,q⟩
 .obtain⟨its,r',pl,hz⟩:=I.tuple hq;have hlen:=r'.length;exact len_tuple pl (by simp only[AE]<;>omega) ⟨.int ys.length,H,I.tok _,⟨s.toks+1,by rw[AE,hlen]⟩,q⟩
theorem cL:Jq X (.builtin "len") (λxs H Q=>∃ z,xs=[.str z]/\z.length<=sizeLine/\Q (.int z.length) H):=by
 intro pI s Y H xs us Q I r h;obtain⟨z,rfl,hz,q⟩:=h;obtain⟨u,rfl,t,rfl⟩:=Ke r;have hn:=J5;exact len_str (by omega) ⟨.int z.length,H,I.tok _,⟨_,rfl⟩,q⟩
theorem Sr:Jq X (.type "list") (λxs H Q=>∃ p ys,xs=[.ref p]/\(SqL X.K H p ys\/SqT X.K H p ys)/\∀ l,H l=Af->Q (.ref l) (upd H l (.lst ys))):=by
 intro pI s Y H xs us Q I r h;obtain⟨p,ys,rfl,hq,q⟩:=h;obtain⟨u,rfl,rx⟩:=Ke r;cases rx;have fin:∀(its:Ac Aj),A6 ys its->ys.length<=sizeLine->∀(h':AF)(c':Ag),(∀ b o',s.heap.get? b=Ab o'->h'.get? b=Ab o') ->
   h'.get? s.heap.objs.size=Ab { cls:=.type "list",dict:=Af,data:=.seq its.toArray c',slots:=#[] }->EP X pI Y Q (.ref s.heap.objs.size) {s with heap:=h'}:=λits r' hz h' c' kp e=>
  ⟨.ref s.heap.objs.size,_,I.laid (t':=s.toks) kp (AV _) (show ObjOk X.prog X.w _ h' _ (.lst ys) from ⟨hz,its,c',r',e⟩),rfl,q _ (I.hok.fresh (AV _))⟩
 rcases hq with hq|hq
 .obtain⟨its,r',pl,hz⟩:=I.list hq;have hlen:=r'.length;obtain⟨o,ho,hc,n,hd⟩:=pl.isList;exact call_list_seq p (.inl rfl) ho hc hd (λh' c' kp e=>fin its r' hz h' c' kp e) (by simp only[AE]<;>omega)
 .obtain⟨its,r',pl,hz⟩:=I.tuple hq;have hlen:=r'.length;obtain⟨o,ho,hc,n,hd⟩:=pl;exact call_list_seq p (.inr rfl) ho hc hd (λh' c' kp e=>fin its r' hz h' c' kp e) (by simp only[AE]<;>omega)
theorem Sy:Jq X (.type "tuple") (λxs H Q=>∃ p ys,xs=[.ref p]/\((SqL X.K H p ys/\∀ l,H l=Af->Q (.ref l) (upd H l (.tup ys)))\/(SqT X.K H p ys/\Q (.ref p) H))):=by
 intro pI s Y H xs us Q I r h;obtain⟨p,ys,rfl,h⟩:=h;obtain⟨u,rfl,rx⟩:=Ke r;cases rx;rcases h with ⟨hq,q⟩|⟨hq,q⟩
 .obtain⟨its,r',pl,hz⟩:=I.list hq;have hlen:=r'.length;refine call_tuple_list pl.isList (λh' kp=>?_) (by simp only[AE]<;>omega)
  have I1:Inv X pI Y H {s with heap:=h'}:=I.kept (t':=s.toks) kp
  have I2:Inv X pI Y (upd H h'.objs.size (.tup ys)) { s with heap:=h'.push { cls:=.type "tuple",data:=.seq its.toArray } }:=
   I1.laid (t':=s.toks) (λb o e=>Au _ e) (AV _) (show ObjOk X.prog X.w _ _ _ (.tup ys) from ⟨hz,its,r',LG _ _⟩)
  exact⟨.ref h'.objs.size,_,I2,rfl,q _ (I1.hok.fresh (AV _))⟩
 .obtain⟨its,r',pl,hz⟩:=I.tuple hq;exact call_tuple_same pl ⟨.ref p,H,I,rfl,q⟩
def tyV(K:Fg)(T:CO)(x:V)(H:Hp):Prop:=match x with
  |.str _=>T = "str"
  |.int _=>T = "int"
  |.ref p=>(T = "list"/\∃ xs,SqL K H p xs)\/(T = "tuple"/\∃ o,K.lookup p=Ab o/\o.cls=.type "tuple"/\o.dict=Af) \/
      (T = "dict"/\((∃ kvs,H p=Ab (.dK kvs))\/∃ kvs,H p=Ab (.dT kvs)))\/(T = "set"/\∃ S n,H p=Ab (.set S n))
  |_=>AU
theorem sE{T:CO}{x:V}{v:Aj}(I:Inv X pI Y H s)(r:Bu x v)(ty:tyV X.K T x H):s.TypeIs v T/\∀ a,v=.ref a->∃ ob,s.heap.get? a=Ab ob/\ob.dict=Af:=by
 cases x with
 |str z=>
  obtain⟨t,rfl⟩:=r;cases (show T = "str" from ty)
  exact⟨typeIs_str s z t,λ_ e=>nomatch e⟩
 |int i=>
  obtain⟨t,rfl⟩:=r;cases (show T = "int" from ty)
  exact⟨Ku s i t,λ_ e=>nomatch e⟩
 |ref p=>
  cases r;rcases ty with ⟨rfl,xs,hq⟩|⟨rfl,o,hk,hc,hd⟩|⟨rfl,hk⟩|⟨rfl,S,n,hk⟩
  .obtain⟨its,_,pl,_⟩:=I.list hq;refine⟨pl.isList.typeIs,λa e=>?_⟩
   cases e;obtain⟨o,n,e,c,hd,_⟩:=pl;exact⟨o,e,hd⟩
  .refine⟨⟨o,I.kIn p o hk,hc⟩,λa e=>?_⟩
   cases e;exact⟨o,I.kIn _ o hk,hd⟩
  .have z:∃ o,s.heap.get? p=Ab o/\o.ExactDict:=by
    rcases hk with ⟨kvs,hk⟩|⟨kvs,hk⟩
    .obtain⟨_,_,_,_,o,_,_,e,ex,_⟩:=I.hok p _ hk;exact⟨o,e,ex⟩
    .obtain⟨_,_,_,_,o,_,_,e,ex,_⟩:=I.hok p _ hk;exact⟨o,e,ex⟩
   obtain⟨o,e,ex⟩:=z;refine⟨⟨o,e,ex.1⟩,λa e2=>?_⟩
   cases e2;exact⟨o,e,ex.2.1⟩
  .obtain⟨o,_,_,_,e,ex,_⟩:=I.hok p _ hk;refine⟨⟨o,e,ex.1⟩,λa e2=>?_⟩
   cases e2;exact⟨o,e,ex.2.1⟩
 |_=>exact Bo ty
def tBM(K:Fg)(T:CO)(r:V->Ac V->Hp->VK->Prop)(to:TE)(t:TA):TE:=λY H Q=>to Y H λx H1=>tyV K T x H1/\t Y H1 λxs H2=>r x xs H2 Q
variable{o e:Am}{es:Ac Am}{to:TE}{t:TA}{name:Ak}{apos cpos:AJ}{T id:CO}{r:V->Ac V->Hp->VK->Prop}
theorem NB(pa:PlainAttrs T)(slot:Slot T name id)(hty:typeOf (.builtin id)=pure (.type "method_descriptor"))(hm:MtR X id r)(ho:PE X o to)(ha:PA X (e::es) t)(hbase:DX o name X.env (eval o X.env)=eval o X.env:=by rfl)(hfew:((Bv cpos (Ar (e::es) X.env)).all (λx=>!x.1)&&(FZ cpos (ED [] X.env)).all (λx=>x.1.isSome)
   && decide ((e::es).length+([]:Ac CK).length+(if ([]:Ac CK).isEmpty then 0 else 1)<30))=Aa:=by rfl)(hline:(apos.endLine==cpos.line)=Aa:=by rfl)(hs:Ar (e::es) X.env=(Ad,eval e X.env)::Ar es X.env:=by rfl)(hplain:(Bv cpos (Ar es X.env)).any (·.1)=Ad:=by rfl):PE X (.Call (.Attribute o name apos) (e::es) [] cpos) (tBM X.K T r to t):=by
 intro pI s Y H Q I h;refine ZD hbase hfew hline rfl (thn (ho pI s Y H _ I h) λv s1 ⟨x,H1,I1,r1,ty,q1⟩=>?_)
 obtain⟨h1,h2⟩:=sE I1 r1 ty;refine⟨T,id,pa,slot,hty,h1,h2,?_⟩;have hA:=ha cpos pI s1 Y H1 _ I1 q1;rw[hs]at hA ⊢;refine Yg (by show (Ad||(Bv cpos (Ar es X.env)).any (·.1))=Ad;rw[hplain]<;>rfl) (Ge ?_)
 exact thn hA λus s2 ⟨vs,H2,I2,r2,q2⟩=>hm pI s2 Y H2 x vs v us Q I2 r1 r2 q2
/- xs.append(e),list.index on a module's tuple .. are MtR facts of 06m -/
end
noncomputable def MtM(X:Cx)(id:CO)(r:V->Ac V->Hp->VK->Prop):Prop:=
 ∀(pI:Pn)(s:Aq)(Y:St)(H:Hp)(x:V)(xs:Ac V)(v:Aj)(us:Ac Aj)(Q:VK),Inv X pI Y H s->Bu x v->A6 xs us->r x xs H Q ->
  Az (model X.prog X.w) X.A (call (.builtin id) (v::us)) (EP X pI Y Q) X.xe s
theorem A6.one:∀{x:V}{us:Ac Aj},A6 [x] us->∃ u,us=[u]/\Bu x u
 |_,_,.cons r .nil=>⟨_,rfl,r⟩
theorem A6.zero:∀{us:Ac Aj},A6 [] us->us=[]
 |_,.nil=>rfl
theorem A6.eraseIdx:∀{xs:Ac V}{us:Ac Aj}(i:Ag),A6 xs us->A6 (xs.eraseIdx i) (us.eraseIdx i)
 |_,_,_,.nil=>.nil
 |_,_,0,.cons _ t=>t
 |_,_,i+1,.cons r t=>.cons r (A6.eraseIdx i t)
theorem A6.reverse(h:A6 xs us):A6 xs.reverse us.reverse:=by
 induction h with
 |nil=>exact .nil
 |cons r t ih=>rw[XF,XF];exact A6.append ih (.cons r .nil)
section
variable{X:Cx}{pI:Pn}{Y:St}{H:Hp}{s:Aq}{l b:Ah}{xs ys zs:Ac V}
theorem Inv.lset{f:A7 Aj->A7 Aj}(I:Inv X pI Y H s)(hH:H l=Ab (.lst xs))(e:s.heap.get? l=Ab { cls:=.type "list",data:=.seq its.toArray n })(hf:f its.toArray=its'.toArray)(hv:A6 ys its')(hz:ys.length<=sizeLine):Inv X pI Y (upd H l (.lst ys)) {s with heap:=s.heap.update l (Gi f),toks:=t'}:=by
 have q:=PySem.IsL.update e f;rw[hf]at q;refine I.write (x:=l) (e:=l) (by rw[hH];exact trivial) (.inl rfl) (λb' u hb hu=>(C3 s.heap (Gi f) (DP hb)).trans hu) ⟨_,q⟩ ?_
 exact⟨hz,its',_,hv,q⟩
theorem Inv.lnew(I:Inv X pI Y H s)(hv:A6 ys its)(hz:ys.length<=sizeLine):
  Inv X pI Y (upd H s.heap.objs.size (.lst ys)) { s with heap:=s.heap.push { cls:=.type "list",data:=.seq its.toArray },toks:=t' }:=
 I.laid (λ_ _ q=>Au _ q) (AV _) ⟨hz,its,0,hv,AI _ rfl⟩
theorem Inv.fresh(I:Inv X pI Y H s):H s.heap.objs.size=Af:=I.hok.fresh (AV _)
theorem Inv.lstM(I:Inv X pI Y H s)(hH:H l=Ab (.lst xs)):xs.length<=sizeLine/\∃(its:Ac Aj)(n:Ag),A6 xs its/\xs.length=its.length/\s.heap.get? l=Ab { cls:=.type "list",data:=.seq its.toArray n }:=by
 obtain⟨z,its,n,r,e⟩:=I.hok l _ hH;exact⟨z,its,n,r,r.length,e⟩
theorem Ut(h:n<=sizeLine):Dl n=Ad:=by
 unfold Dl;exact Ca (by omega)
end
section
variable{X:Cx}
def nC:V->Ac V->Hp->VK->Prop:=λx vs H Q=>∃ l xs y,x=.ref l/\vs=[y]/\H l=Ab (.lst xs)/\xs.length<sizeLine/\Q .non (upd H l (.lst (xs++[y])))
theorem Tu:MtM X "list.append" nC:=by
 intro pI s Y H x vs v us Q I rx rv h;obtain⟨l,xs,y,rfl,rfl,hH,hz,q⟩:=h;cases rx;obtain⟨u,rfl,ru⟩:=rv.one;obtain⟨z,its,n,r,hl,e⟩:=I.lstM hH;refine Kt F.slot_list_append ⟨_,e,rfl⟩ F.entry_list_append (F.args_list_append_2 _ _) (PySem.list_append l its.toArray n u (by rw[AE];omega)) ⟨e,?_⟩
 refine⟨.non,_,I.lset (its':=its++[u]) hH e (by simp) (r.append (.cons ru .nil)) ?_,rfl,q⟩
 rw[AM,Bj];omega
def mZ:V->Ac V->Hp->VK->Prop:=λx vs H Q=>∃ l b xs zs,x=.ref l/\vs=[.ref b]/\H l=Ab (.lst xs)/\H b=Ab (.lst zs)/\xs.length+zs.length<=sizeLine/\Q .non (upd H l (.lst (xs++zs)))
theorem eX:MtM X "list.extend" mZ:=by
 intro pI s Y H x vs v us Q I rx rv h;obtain⟨l,b,xs,zs,rfl,rfl,hH,hB,hz,q⟩:=h;cases rx;obtain⟨u,rfl,ru⟩:=rv.one;cases ru;obtain⟨z,its,n,r,hl,e⟩:=I.lstM hH;obtain⟨z2,its2,n2,r2,hl2,e2⟩:=I.lstM hB;have hsz:its.toArray.size+its2.toArray.size<=sizeLine:=by rw[AE,AE];omega
 have hlong:¬ (!its.toArray.isEmpty&&Dl (its.toArray.size+its2.toArray.size))=Aa:=by
  rw[Ut hsz,Fw];exact Av
 refine Kt EM ⟨_,e,rfl⟩ YO (YK _ _)
  (AutoSeq1.list_extend_list_list_0 l its.toArray n b its2.toArray n2 hlong (by rw[AE];omega) (by omega)) ⟨e,e2,?_⟩
 refine⟨.non,_,I.lset (its':=its++its2) hH e (by simp) (r.append r2) ?_,rfl,q⟩
 rw[AM];omega
end
section
variable{prog:AO}{w:AW}{A:AZ}{E:Vq}{s:Aq}
set_option maxRecDepth 100000 in
end
section
variable{X:Cx}
end
end L2
namespace Att
open PySem PySem.W PySem.Calls PyProof.Rows
variable{P:LQ}{h:AF}{l:FQ}{n:Ag}
theorem bY:∀(ns:Ac Ae)(vs:Ac Aj),WellAll P h vs (ns.map Zj)->CY vs ns:=by
 intro ns
 induction ns with
 |nil=>
  intro vs w;rw[IR]at w;cases w;exact .nil
 |cons n ns ih=>
  intro vs w;rw[A8]at w;cases w with
  |cons a b=>
   cases a;exact .cons _ _ (ih _ b)
theorem dP(hn:l.most=Ab n){args:Ac WData}{vals:Ac Aj}(hpre:l.row.toRowW.claim.pre args=Aa)(hwl:WellAll P h vals args):
  ∃ a vs ns,vals=[Du a]/\args=[WData.list (ns.map Zj)]/\h.get? a=Ab { cls:=.type "list",data:=.seq vs.toArray }/\CY vs ns/\ns.length<=n:=by
 have hsh:WShape.hasAll [] args [.list .int]=Aa:=(pre_splitW hpre).1;have hc:l.pre.holds [] {args:=args}=Aa:=(pre_splitW hpre).2;obtain⟨d,r,rfl,h1,h2⟩:=hasAllW_cons hsh;obtain rfl:=hasAllW_nil h2;obtain⟨xs,rfl,h3⟩:=hasW_list h1;obtain⟨ns,rfl⟩:=items_int h3;have hlen:ns.length<=n:=by
  unfold OpenLaw.pre at hc;have h4:(WTm.not (.lt (.lit (.int (n:Ae))) (.len (.arg 0)))).holds [] {args:=[.list (ns.map .int)]}=Aa:=by
   have h4:=(holds_andW hc).1;rw[hn]at h4;exact h4
  have h5:=condW_of h4 (w_not (w_lt w_lit (w_len_list (w_arg rfl))));rw[A9]at h5;refine Nat.le_of_not_lt λq=>?_
  have q':(n:Ae)<((ns.length:Ag):Ae):=by omega
  first
   |(rw[FE q']at h5;exact absurd h5 (by decide))
   |(simp at h5;omega)
 cases hwl with
 |cons w1 w2=>
  cases w2;cases w1 with
  |list ho hall=>exact⟨_,_,ns,rfl,rfl,ho,bY ns _ hall,hlen⟩
theorem dI(l:FQ)(args:Ac WData):l.row.toRowW.claim.post args (.bool Aa) args=Aa:=
 postW_of (r:=l.row.toRowW) (X:=(Aa==Aa))
  (show Zk [] (.bool Aa) .bool=Aa by first|rfl|decide|simp[Zk,WShape.arms,WShape.armsAll])
  (show (WTm.eq .res (.lit (.bool Aa))).value [] {args:=args,res:=Ab (.bool Aa),after:=args}=Ab (.bool (Aa==Aa)) from w_eq_bool (w_res rfl) w_lit) rfl
theorem attach_call{q:AO}{loose:Ac Ak}{XP:(Ak->Ao Aj)->AF->Prop}{YP:AW->AF->Prop}{d:DefRec}(hn:l.most=Ab n)(hdf:d.params.defaults=[])(call:∀(w:AW)(s₀ s₁:Aq)(mg mb:Ak->Ao Aj)(fa:Ah)(o:C9)(pm cd doc:Aj)(a:Ah)(vs:Ac Aj)(ns:Ac Ae),
   Ground q loose [] XP w s₀ mg mb s₁.heap->YP w s₁.heap ->
   s₁.heap.get? fa=Ab o->o.data=.func (docDef d.name d.params d.body d.scope pm cd doc)->s₁.heap.CodeRec cd d.name->mg d.name=Ab (.ref fa) ->
   s₁.heap.get? a=Ab { cls:=.type "list",data:=.seq vs.toArray }->CY vs ns->ns.length<=n->s₁.gens=#[] ->
   F7 (model l.prog w) Hh (.call (.ref fa) ⟨[.ref a],[]⟩) (λr s'=>r=.ok (.ret (.bool Aa))/\OldK s₁.heap s'.heap/\s'.os=s₁.os/\Fx s'.gens) s₁):WalkO q loose XP YP l.row.toRowW d [] (λf vs=>Ks f vs):=by
 intro w s₀ s₁ mg mb G Y_ fa o pm cd doc dV kV ho hd hcd hD hmg hg args vals as hpre hlay hrd hwl hlo;obtain rfl:dV=.none:=Dflts.none hD hdf;obtain rfl:kV=.none:=Dflts.noKw hD;obtain⟨a,vs,ns,rfl,rfl,hobj,hints,hlen⟩:=dP hn hpre hwl;refine enter_call (Gm (call w s₀ s₁ mg mb fa o pm cd doc a vs ns G Y_ ho (fd_plain hd) hcd hmg hobj hints hlen hg) λr s' hq=>?_)
 obtain⟨rfl,h2,h3,h4⟩:=hq;exact⟨.inl ⟨.bool Aa,.bool Aa,[],rfl,λ_=>rfl,.bool Aa,dI l _,λ_=>⟨List.Pairwise.nil,λ_ hm=>(nomatch hm)⟩⟩,h2,h3,h4⟩
section
variable{prog:AO}{w:AW}{A:AZ}{E:Vq}{s:Aq}{K:Frag}
end
end Att
namespace L2
open PySem PySem.Spec PyProof.Rows
variable{k:Ag}{x:Ak}
theorem Tl:∀{vs:Ac Aj}{ns:Ac Ae},CY vs ns->A6 (ns.map V.int) vs
 |_,_,.nil=>.nil
 |_,_,.cons n t h=>.cons ⟨t,rfl⟩ (Tl h)
def Oz(H:Hp):Prop:=∀ b,H b=Af\/∃ o xs,H b=Ab (.frz o (.lst xs))
theorem iU{P:AO}{w:AW}{K:Fg}{mg mb:Ak->Ao Aj}{CX:CXT}{fa a:Ah}{fd:BO}{sp:Sp}{s₁:Aq}{vs:Ac Aj}{ns:Ac Ae}(KX:K.In s₁.heap)(hns:s₁.heap.Ns A4 mg)(hb:s₁.heap.Ns Ip mb)(hbb:∀ x:Ak,x≠"__name__"->mb x=C4 x)(hlim:s₁.heap.NoLimit)(hg:s₁.gens=#[])(ha:s₁.heap.get? a=Ab { cls:=.type "list",data:=.seq vs.toArray })(hi:CY vs ns)(hl:ns.length<=sizeLine)(hr:Room k Hh)(F:∀ base:AF,K.In base->base.Ns A4 mg->FnOk P w K mg base CX k fa fd [x] sp)(hbind:∀(s:Aq)(u:Aj),FA s fd ⟨[u],[]⟩ [(x,u)])(hsp:∀ H:Hp,Oz H->SqL K H a (ns.map V.int)->sp [.ref a] H (λv _=>v=.bl Aa) λ_ _ _=>AU)(hCX:∀ H e s',CX [] H s₁ (λ_ _ _=>AU) e s'->AU):F7 (model P w) Hh (.call (.ref fa) ⟨[.ref a],[]⟩) (λr s'=>r=.ok (.ret (.bool Aa))/\OldK s₁.heap s'.heap/\s'.os=s₁.os/\Fx s'.gens) s₁:=by
 have rv:=Tl hi;have lenV:=hi.length
 -- from an abstract heap in which nothing but the script may be tracked
 have core:∀ H:Hp,Oz H->SqL K H a (ns.map V.int)->HOk P w H s₁.heap->(∀ b,H b≠Af->b=a)->(H a≠Af->K.lookup a=Af) ->
   F7 (model P w) Hh (.call (.ref fa) ⟨[.ref a],[]⟩) (λr s'=>r=.ok (.ret (.bool Aa))/\OldK s₁.heap s'.heap/\s'.os=s₁.os/\Fx s'.gens) s₁:=by
  intro H hO hS hok hA hK;have base_of:∀{b:Ah}{o:C9},s₁.heap.get? b=Ab o->H b=Af->(IK s₁.heap H).get? b=Ab o:=λe n=>gY e n
  have noA:∀{b:Ah}{o:C9}{es:A7 DictEntry}{ep:Ag},s₁.heap.get? b=Ab o->o.data=.dict es ep->H b=Af:=λ{b o es ep} e d=>by
   cases q:H b with
   |none=>rfl
   |some u=>
    have e':b=a:=hA b (by rw[q];simp)
    subst e';rw[ha]at e;cases e;have d':LO vs.toArray _=Data.dict es ep:=d;cases d'
  have nsK:∀{b:Ah}{m:Ak->Ao Aj},s₁.heap.Ns b m->(IK s₁.heap H).Ns b m:=λ{b m} ⟨o,es,ep,e,d,r⟩=>⟨o,es,ep,base_of e (noA e d),d,r⟩
  have hKb:K.In (IK s₁.heap H):=λb o e=>base_of (KX b o e) (by
   cases q:H b with
   |none=>rfl
   |some u=>
    have e':b=a:=hA b (by rw[q];simp)
    subst e';rw[hK (by rw[q];simp)]at e;cases e)
  have hM:Mod K mg (IK s₁.heap H):=⟨hKb,nsK hns,⟨mb,nsK hb,hbb⟩,let ⟨mc,h1,h2⟩:=hlim;⟨mc,nsK h1,h2⟩⟩
  have e0:Env0 P w K mg (IK s₁.heap H) Hh [] s₁ H:=⟨rfl,hM,λb o e=>oX e,XO (eL _ _),trivial,λb hb=>absurd (show b∈([]:Ac Ah) from hb) (by simp),hok,.of_eq hg⟩
  refine Gm ((F _ hKb (nsK hns)).run Hh [] s₁ H ⟨[.ref a],[]⟩ [.ref a] [.ref a] _ _ hr e0 (hbind s₁ (.ref a)) (.cons rfl .nil) (hsp H hO hS)) λr s' h=>?_
  cases r with
  |error e=>exact(hCX H e s' h).elim
  |ok fl=>
   cases fl with
   |next=>exact Bo h
   |brk=>exact Bo h
   |cont=>exact Bo h
   |ret u=>
    obtain⟨v,H',os,bare,un,hok',r',q⟩:=h;have q':v=.bl Aa:=q;subst q';obtain rfl:u=Zg Aa:=r';refine⟨rfl,OldK.of_keep λb o e=>?_,os,bare⟩
    cases q:H b with
    |none=>exact un.keep b o e q (by intro z;exact absurd (show b∈([]:Ac Ah) from z) (by simp)) (by simp)
    |some u=>
     rcases hO b with z|⟨ob,xs,z⟩
     .rw[q]at z;cases z
     .have z2:=un.frzs b ob _ z;obtain⟨e1,_⟩:=hok b _ z;obtain⟨e2,_⟩:=hok' b _ z2;rw[e]at e1;cases e1;exact e2
 cases hk:K.lookup a with
 |some o=>
  -- the script is one of the module's own objects
  have e:=KX a o hk;rw[ha]at e;cases e;refine core (λ_=>Af) (λ_=>.inl rfl) (.inr ⟨_,vs.toArray,_,hk,rfl,rfl,rfl,by rw[AE,lenV];exact hl,by simpa using rv⟩) (λb u z=>by have z':(Af:Ao HO)=Ab u:=z;cases z') (λb z=>absurd rfl z) λz=>absurd rfl z
 |none=>
  refine core (λb=>if b=a then Ab (.frz { cls:=.type "list",data:=.seq vs.toArray } (.lst (ns.map V.int))) else Af) (λb=>?_) (.inl (.inr ⟨{ cls:=.type "list",data:=.seq vs.toArray },Ax rfl⟩)) (λb u z=>?_) (λb z=>?_) λ_=>hk
  .by_cases hb:b=a
   .exact .inr ⟨_,_,Ax hb⟩
   .exact .inl (Ay hb)
  .by_cases hb:b=a
   .have z':=(Ax hb).symm.trans z;cases z';subst hb;exact⟨ha,by rw[A9];exact hl,vs,_,rv,ha⟩
   .have z':=(Ay hb).symm.trans z;cases z'
  .by_cases hb:b=a
   .exact hb
   .exact absurd (Ay hb) z
noncomputable abbrev KOf{K:Fg}{h:AF}(_:K.In h):Fg:=K
theorem walk_of{l:FQ}{n:Ag}{q:AO}{loose:Ac Ak}{XP:(Ak->Ao Aj)->AF->Prop}{YP:AW->AF->Prop}{d:DefRec}{K:LQ->Fg}{CX:AW->CXT}{sp:AW->Sp}(hn:l.most=Ab n)(hn2:n<=sizeLine)(hdf:d.params.defaults=[])(hr:Room k Hh)(hY:∀(w:AW)(h:AF),YP w h->(K w.params).In h)(F:∀(w:AW)(mg:Ak->Ao Aj)(fa:Ah)(h:AF),(K w.params).In h->h.Ns A4 mg->mg d.name=Ab (.ref fa) ->
   ∃ fd:BO,(∀(s:Aq)(u:Aj),FA s fd ⟨[u],[]⟩ [(x,u)]) /\
    ∀ base:AF,(K w.params).In base->base.Ns A4 mg->FnOk l.prog w (K w.params) mg base (CX w) k fa fd [x] (sp w))(hsp:∀(w:AW)(H:Hp)(a:Ah)(ns:Ac Ae),ns.length<=n->Oz H->SqL (K w.params) H a (ns.map V.int)->sp w [.ref a] H (λv _=>v=.bl Aa) λ_ _ _=>AU)(hCX:∀(w:AW)(H:Hp)(s:Aq)(e:Aj)(s':Aq),CX w [] H s (λ_ _ _=>AU) e s'->AU):Zl q loose XP YP l.row.toRowW d [] (λf vs=>Ks f vs):=by
 refine Att.attach_call hn hdf λw s₀ s₁ mg mb fa o pm cd doc a vs ns G Y_ ho hd hcd hmg hobj hints hlen hg=>?_
 have KX:=hY w _ Y_;obtain⟨fd,hb,hF⟩:=F w mg fa _ KX G.T.g hmg;exact iU KX G.T.g G.T.b G.T.builtins G.T.nolimit hg hobj hints (Ck hlen hn2) hr hF hb (λH hO hS=>hsp w H a ns hlen hO hS) λH e s'=>hCX w H s₁ e s'
end L2
/- THE LAST THEOREM (shape;LID,My.* are yours):
   My.Adr:a structure of the addresses that your layer names (classes,functions);My.Txt K t:a structure (Prop) of the equations over K;
   My.txt_mk:{K} {implicit addresses ..} (e1:nsIn K A4 "law" = Ab (Ab (.ref f))) (e2:K.lookup f=Ab ⟨oc,od,.func (fnOf "law" "law" params body scope dV kV doc pm an cdv ct),sl⟩) (e3:codeIn K cdv "law" = Aa) ..:∃ t,My.Txt K t
set_option maxRecDepth 100000 in
set_option maxHeartbeats 0 in
theorem PySem.Challenge.cw_LID_holds:PySem.Challenge.rw_LID.Holds:=by
 w_on;o_law;k_head;(case hw=>w_witness2)
 k_fill
 refine L2.walk_of (l:=PySem.Challenge.rw_LID) (n:=63) (k:=40) (x := "script") (CX:=λw=>..) (sp:=λ_=>My.sp_law) rfl (by decide) rfl ⟨rfl,by decide,by decide⟩ (λw h Y_=>Zo Y_) ?F ?S ?C
 case F=>
  intro w mg fa h KX G hmg;have T:∃ t,My.Txt (L2.KOf KX) t:=by
   dsimp only[L2.KOf]                          -- K must stand as «<heap const> w.params» for k_is
   refine' My.txt_mk ?e1 ?e2 ?e3 ..
   (case e1=>PySem.W.k_is)                    -- in the order: a name -> its address -> its object -> its parts
   (case e2=>PySem.W.k_is)
   ..
  obtain⟨t,T⟩:=T;have e0:=hmg.symm.trans (Cn KX G T.law);cases e0                                       -- fa is the law's own address
  exact⟨_,fun s u=>.of_eq rfl,fun base kb nb=>My.law_fn T kb nb⟩     -- if «.of_eq rfl» comes too early: refine' ⟨_,?b,fun base kb nb=>My.law_fn T kb nb⟩;exact fun s u=>.of_eq rfl
 case S=>exact λw H a ns hl hO hS=>..
 case C=>exact ..
(the tactic k_is has no namespace:write k_is) -/
namespace L2
open PySem PySem.Spec PyProof.Rows
noncomputable def Ht(s:AN):Arguments:=match s with
  |.FunctionDef _ a _ _ _ _ _ _ _ _=>a
  |_=>{posonlyargs:=[],args:=[],vararg:=Af,kwonlyargs:=[],kw_defaults:=[],kwarg:=Af,defaults:=[]}
noncomputable def Gs(s:AN):Ac AN:=match s with
  |.FunctionDef _ _ b _ _ _ _ _ _ _=>b
  |_=>[]
noncomputable def Ff(s:AN):B6:=match s with
  |.FunctionDef _ _ _ _ _ _ sc _ _ _=>sc
  |_=>{kind:=.function,names:=[],isGenerator:=Ad,isCoroutine:=Ad}
noncomputable abbrev CX0:CXT:=λ_ _ _ _ _ _=>AU
noncomputable abbrev E0:XK:=λ_ _ _=>AU
structure Fun (K:Fg) (x qual:Ak) (st:AN) (f:Ah) (fd:BO):Prop where
 ex:∃(oc:Aj)(od:Ao Ah)(kV doc pm:Aj)(an:Ao Ah)(cdv ct:Aj)(osl:A7 (Ao Aj)),
  fd=Cm x qual (Ht st) (Gs st) (Ff st) .none kV doc pm an cdv ct/\K.lookup f=Ab ⟨oc,od,.func fd,osl⟩/\EQ K cdv qual=Aa
 kp:BL K (.ref f)=Aa
section
variable{P:AO}{w:AW}{K:Fg}{mg:Ak->Ao Aj}{base:AF}
theorem Fun.ok{x qual:Ak}{st:AN}{f:Ah}{fd:BO}{N ps:Ac Ak}{k:Ag}{sp:Sp}(F:Fun K x qual st f fd)(S:FnScope N ps (Ff st))(len:∀ vs H Q E,sp vs H Q E->vs.length=ps.length)(hbody:∀(cdv:Aj)(A:AZ)(outer:Ac Ch)(s:Aq)(H:Hp)(vs:Ac V)(Q:VK)(E:XK),Room k (A.deeper (E6 qual (Ff st) s.heap.objs.size f cdv))->sp vs H Q E ->
   ∃ t,PSs (GV CX0 P w K mg base N qual (Ff st) f cdv A outer s H E).nox (Gs st) t/\t {nx:=λ_ H'=>Q .non H',rt:=Q} (start N vs) H):FnOk P w K mg base CX0 (k+1) f fd ps sp:=by
 obtain⟨oc,od,kV,doc,pm,an,cdv,ct,osl,rfl,lk,hcd⟩:=F.ex;refine WV lk hcd S len λA outer s H vs Q E hr hsp=>?_
 obtain⟨t,h,q⟩:=hbody cdv A outer s H vs Q E hr hsp;exact⟨t,h.nox,q⟩
theorem Fun.binds{x qual:Ak}{st:AN}{f:Ah}{fd:BO}{ps:Ac Ak}(F:Fun K x qual st f fd)(h:∀(kV doc pm:Aj)(an:Ao Ah)(cdv ct:Aj)(us:Ac Aj),us.length=ps.length->LR (Cm x qual (Ht st) (Gs st) (Ff st) .none kV doc pm an cdv ct) ⟨us,[]⟩=pure (ps.zip us)):EZ K fd ps []:=by
 obtain⟨oc,od,kV,doc,pm,an,cdv,ct,osl,rfl,lk,hcd⟩:=F.ex;exact .all (h kV doc pm an cdv ct)
theorem wM{x qual:Ak}{st:AN}{f:Ah}{oc:Aj}{od an:Ao Ah}{osl:A7 (Ao Aj)}{kV doc pm cdv ct:Aj}(l:K.lookup f=Ab ⟨oc,od,.func (Cm x qual (Ht st) (Gs st) (Ff st) .none kV doc pm an cdv ct),osl⟩)(c:EQ K cdv qual=Aa)(k:BL K (.ref f)=Aa):Fun K x qual st f (Cm x qual (Ht st) (Gs st) (Ff st) .none kV doc pm an cdv ct):=⟨⟨oc,od,kV,doc,pm,an,cdv,ct,osl,rfl,l,c⟩,k⟩
end
section
variable{X:Cx}
end
def AB(H H':Hp):Prop:=∀ b o,H b=Ab o->H' b=Ab o
theorem AB.refl(H:Hp):AB H H:=λ_ _ h=>h
theorem AB.trans{H H1 H2:Hp}(a:AB H H1)(b:AB H1 H2):AB H H2:=λc o h=>b c o (a c o h)
theorem AB.free{H H':Hp}(e:AB H H'){l:Ah}(h:H' l=Af):H l=Af:=by
 cases q:H l with
 |none=>rfl
 |some o=>
  rw[e l o q]at h;cases h
end L2
section
namespace Ov
open PySem
variable{α β:Type}
inductive D where
 |non|bl (b:Ai)|int (i:Ae)|str (x:Ak)|tup (ds:Ac D)|lst (ds:Ac D)
 |obj (c:Ag) (fs:Ac (Ak×D))|exc (c:Ag) (fs:Ac (Ak×D))|dic (kvs:Ac (Ac Ae×D))
 deriving Inhabited
structure Ex where
 c:Ag
 fs:Ac (Ak×D)
 deriving Inhabited
inductive R (α:Type) where
 |ok (a:α)|exn (x:Ex)|bad
 deriving Inhabited
noncomputable def R.bind{α β:Type}(r:R α)(f:α->R β):R β:=match r with
  |.ok a=>f a
  |.exn x=>.exn x
  |.bad=>.bad
@[simp]theorem R.bind_ok(a:α)(f:α->R β):(R.ok a).bind f=f a:=rfl
@[simp]theorem R.bind_exn(x:Ex)(f:α->R β):(R.exn x:R α).bind f=.exn x:=rfl
@[simp]theorem R.bind_bad(f:α->R β):(R.bad:R α).bind f=.bad:=rfl
theorem R.bind_assoc{γ:Type}(r:R α)(f:α->R β)(g:β->R γ):(r.bind f).bind g=r.bind λa=>(f a).bind g:=by cases r<;>rfl
noncomputable def BY(n:Ag):Ai:=Ds n 1000000
noncomputable def D7(i j:Ae):Ai:=(decide (-(18446744073709551616:Ae)<i)&&decide (i<18446744073709551616))||(decide (-(18446744073709551616:Ae)<j)&&decide (j<18446744073709551616))
noncomputable def G9(i j:Ae):Ai:=decide (i.natAbs<2 ^ 2000)&&decide (j.natAbs<2 ^ 2000)
noncomputable def CD:Ft->D->D->R D
 |.Add,.int i,.int j=>.ok (.int (i+j))
 |.Sub,.int i,.int j=>.ok (.int (i-j))
 |.Mult,.int i,.int j=>if (D7 i j||G9 i j)=Aa then .ok (.int (i*j)) else .bad
 |.FloorDiv,.int i,.int j=>if 0<j/\j<1073741824 then .ok (.int (i/j)) else .bad
 |.Mod,.int i,.int j=>if 0<j then .ok (.int (i%j)) else .bad
 |.Pow,.int i,.int j=>if (0<=j/\j<=1000000)/\(-(18446744073709551616:Ae)<i/\i<18446744073709551616) then .ok (.int (i ^ j.toNat)) else .bad
 |.Add,.str x,.str y=>if BY (x.length+y.length)=Aa then .ok (.str (x++y)) else .bad
 |.Add,.lst x,.lst y=>if BY (x.length+y.length)=Aa then .ok (.lst (x++y)) else .bad
 |.Add,.tup x,.tup y=>if (!x.isEmpty&&BY (x.length+y.length))=Aa then .ok (.tup (x++y)) else .bad
 |_,_,_=>.bad
noncomputable def unD:Ky->D->R D
 |.USub,.int i=>.ok (.int (-i))
 |_,_=>.bad
noncomputable def b2i(b:Ai):Ae:=if b=Aa then 1 else 0
mutual
noncomputable def eqD:D->D->Ai
 |.non,.non=>Aa
 |.bl a,.bl b=>a==b
 |.bl a,.int j=>b2i a==j
 |.int i,.bl b=>i==b2i b
 |.int i,.int j=>i==j
 |.str x,.str y=>x==y
 |.tup xs,.tup ys=>eqDs xs ys
 |.lst xs,.lst ys=>eqDs xs ys
 |_,_=>Ad
noncomputable def eqDs:Ac D->Ac D->Ai
 |[],[]=>Aa
 |x::xs,y::ys=>eqD x y&&eqDs xs ys
 |_,_=>Ad
end
noncomputable def flD:Ag->D->Ai
 |_,.non=>Aa
 |_,.bl _=>Aa
 |_,.int _=>Aa
 |_,.str _=>Aa
 |n+1,.tup xs=>xs.all (flD n)
 |n+1,.lst xs=>xs.all (flD n)
 |_,_=>Ad
noncomputable def Ea:D->Ao (Ac Ae)
 |.tup ds=>keyDs ds
 |_=>Af
where keyDs:Ac D->Ao (Ac Ae)
 |[]=>Ab []
 |.int i::r=>(keyDs r).map (i :: ·)
 |_=>Af
noncomputable def ltD:Ag->D->D->Ai
 |0,.int i,.int j=>decide (i<j)
 |n+1,.tup xs,.tup ys=>ltDs (ltD n) xs ys
 |_,_,_=>Ad
where ltDs (lt:D->D->Ai):Ac D->Ac D->Ai
 |[],[]=>Ad
 |[],_::_=>Aa
 |_::_,[]=>Ad
 |x::xs,y::ys=>if eqD x y=Aa then ltDs lt xs ys else lt x y
noncomputable def rkD:Ag->D->Ai
 |0,.int _=>Aa
 |n+1,.tup xs=>xs.all (rkD n)
 |_,_=>Ad
noncomputable def RX(lt:D->D->Ai)(x:D):Ac D->Ac D
 |[]=>[x]
 |y::ys=>if lt y x=Aa then y::RX lt x ys else x::y::ys
noncomputable def Wt(lt:D->D->Ai):Ac D->Ac D
 |[]=>[]
 |x::xs=>RX lt x (Wt lt xs)
noncomputable def RS:Ac D->Ai
 |[]=>Aa
 |x::xs=>xs.all (λy=>!eqD x y)&&RS xs
noncomputable def Se:Ac D->Ai
 |[]=>Aa
 |[_]=>Aa
 |x::y::r=>ltD 1 x y&&Se (y::r)
noncomputable def UT(xs:Ac D):R (Ac D):=if (xs.all (λd=>rkD 1 d && !eqD d (.tup []))&&RS xs&&(decide (xs.length<64)||(Se xs&&decide (xs.length<=1000))))=Aa then .ok (Wt (ltD 1) xs) else .bad
noncomputable def BJ:CJ->D->D->R D
  |.Eq,x,y=>if (flD 5 x&&flD 5 y)=Aa then .ok (.bl (eqD x y)) else .bad
  |.NotEq,x,y=>if (flD 5 x&&flD 5 y)=Aa then .ok (.bl (!eqD x y)) else .bad
  |.Lt,.int i,.int j=>.ok (.bl (decide (i<j)))
  |.LtE,.int i,.int j=>.ok (.bl (decide (i<=j)))
  |.Gt,.int i,.int j=>.ok (.bl (decide (j<i)))
  |.GtE,.int i,.int j=>.ok (.bl (decide (j<=i)))
  |.In,x,.lst ys=>if (flD 5 x&&ys.all (flD 5))=Aa then .ok (.bl (ys.any λy=>eqD y x)) else .bad
  |.In,x,.dic kvs=>match Ea x with
    |some k=>.ok (.bl (kvs.any λp=>p.1==k))
    |none=>.bad
  |.In,x,.tup ys=>if (flD 5 x&&ys.all (flD 5))=Aa then .ok (.bl (ys.any λy=>eqD y x)) else .bad
  |.NotIn,x,.lst ys=>if (flD 5 x&&ys.all (flD 5))=Aa then .ok (.bl (!ys.any λy=>eqD y x)) else .bad
  |.NotIn,x,.dic kvs=>match Ea x with
    |some k=>.ok (.bl (!kvs.any λp=>p.1==k))
    |none=>.bad
  |.NotIn,x,.tup ys=>if (flD 5 x&&ys.all (flD 5))=Aa then .ok (.bl (!ys.any λy=>eqD y x)) else .bad
  |.Is,.non,.non=>.ok (.bl Aa)
  |.Is,.bl _,.non=>.ok (.bl Ad)
  |.Is,.int _,.non=>.ok (.bl Ad)
  |.Is,.str _,.non=>.ok (.bl Ad)
  |.Is,.tup _,.non=>.ok (.bl Ad)
  |.Is,.lst _,.non=>.ok (.bl Ad)
  |.Is,.obj _ _,.non=>.ok (.bl Ad)
  |.Is,.bl a,.bl b=>.ok (.bl (a==b))
  |.IsNot,.bl a,.bl b=>.ok (.bl (!(a==b)))
  |.IsNot,.non,.non=>.ok (.bl Ad)
  |.IsNot,.bl _,.non=>.ok (.bl Aa)
  |.IsNot,.int _,.non=>.ok (.bl Aa)
  |.IsNot,.str _,.non=>.ok (.bl Aa)
  |.IsNot,.tup _,.non=>.ok (.bl Aa)
  |.IsNot,.lst _,.non=>.ok (.bl Aa)
  |.IsNot,.obj _ _,.non=>.ok (.bl Aa)
  |_,_,_=>.bad
noncomputable def BE:D->R Ai
 |.non=>.ok Ad
 |.bl b=>.ok b
 |.int i=>.ok (i != 0)
 |.str x=>if BY x.length=Aa then .ok (x.length != 0) else .bad
 |.tup xs=>.ok (!xs.isEmpty)
 |.lst xs=>.ok (!xs.isEmpty)
 |_=>.bad
noncomputable def plD(n:Ag)(i:Ae):Ao Ag:=if 0<=i then (if i<n then Ab i.toNat else Af) else if -(n:Ae)<=i then Ab (i+n).toNat else Af
noncomputable def Dx(xs:Ac D)(i:Ae):R D:=match plD xs.length i with
  |some k=>match xs[k]? with
    |some d=>.ok d
    |none=>.bad
  |none=>.bad
noncomputable def CB(kvs:Ac (Ac Ae×D))(k:Ac Ae):Ao D:=(kvs.find? λp=>p.1==k).map (·.2)
noncomputable def F2(kvs:Ac (Ac Ae×D))(k:Ac Ae)(v:D):Ac (Ac Ae×D):=if (kvs.any λp=>p.1==k)=Aa then kvs.map (λp=>if (p.1==k)=Aa then (k,v) else p) else kvs++[(k,v)]
noncomputable def Ri:D->R (Ac (Ac Ae×D))
 |.dic kvs=>.ok kvs
 |_=>.bad
noncomputable def E1(d:D):R (Ac Ae):=match Ea d with
  |some k=>.ok k
  |none=>.bad
noncomputable def EH:D->D->R D
  |.lst xs,.int i=>Dx xs i
  |.tup xs,.int i=>Dx xs i
  |.dic kvs,k=>match (Ea k).bind (CB kvs) with
    |some d=>.ok d
    |none=>.bad
  |_,_=>.bad
noncomputable def E2:D->R Ae
 |.int i=>.ok i
 |_=>.bad
noncomputable def DE:D->R Ai
 |.bl b=>.ok b
 |_=>.bad
noncomputable def Co:D->R (Ac D)
 |.lst xs=>.ok xs
 |.tup xs=>.ok xs
 |_=>.bad
noncomputable def Lp:D->R (Ac D)
 |.lst xs=>.ok xs
 |_=>.bad
inductive BI where
 |len|abs|max|min|int|list|tuple|all|any|sum|sorted|str|count|stp|lset|tmin|tmax|tlt|rvs
 deriving DecidableEq,Inhabited
inductive Ki where
 |int|bool|str|list|tuple|verr|cls (c:Ag)
 deriving DecidableEq,Inhabited
mutual
inductive E where
 |non|bl (b:Ai)|int (i:Ae)|str (x:Ak)
 |var (i:Ag)|glob (g:Ag)
 |bin (op:Ft) (a b:E)|un (op:Ky) (a:E)|no (a:E)
 |and (es:Es)|or (es:Es)
 |cmp (op:CJ) (a b:E)|cmp2 (op op':CJ) (a b c:E)
 |ite (c a b:E)
 |call (f:Ag) (as:Es)|bi (b:BI) (as:Es)
 |isi (a:E) (ks:Ac Ki)
 |idx (a i:E)|sl (a lo hi:E)
 |tup (es:Es)|lst (es:Es)
 |comp (elt:E) (t:Ag) (it:I) (c:E)|compT (elt:E) (ts:Ac Ag) (it:I) (c:E)|tupI (it:I)
 /-- d.get(k,x) -/
 |dget (i:Ag) (k x:E)
 |fld (o:E) (f:Ak)
inductive Es where
 |nil|cons (e:E) (es:Es)
inductive I where
 |e (a:E)|rng (a:E)|rng2 (a b:E)|zip (a b:E)|zip3 (a b c:E)|enm (a:E)
end
abbrev Sl:=Ao (D×Ai)
abbrev Rho:=Ac Sl
structure Gam where
 F:Ag->Ac D->R D
 G:Ag->D
 up:Ag->Ac Ag
 /-- the defs whose answer is a new list -/
 fr:Ag->Ai
 /-- what is raised: the class,what it is made of -/
 xn:Ag->Ac D->R Ex
noncomputable def Ci(lo:Ae)(n:Ag):Ac D:=(A1 n).map fun(k:Ag)=>D.int (lo+(k:Ae))
noncomputable def CA(lo hi:Ae):R (Ac D):=if (-(4611686018427387904:Ae)<=lo/\lo<4611686018427387904)/\(-(4611686018427387904:Ae)<=hi/\hi<4611686018427387904)/\hi-lo<1000000 then .ok (Ci lo (hi-lo).toNat) else .bad
noncomputable def kiD(up:Ag->Ac Ag):Ki->D->Ai
 |.int,.int _=>Aa
 |.int,.bl _=>Aa
 |.bool,.bl _=>Aa
 |.str,.str _=>Aa
 |.list,.lst _=>Aa
 |.tuple,.tup _=>Aa
 |.cls c,.obj k _=>(up k).contains c
 |.cls c,.exc k _=>(up k).contains c
 |.verr,.exc _ _=>Aa
 |_,_=>Ad
noncomputable def Ek:Ki->Ai
 |.cls _=>Aa
 |.verr=>Aa
 |_=>Ad
noncomputable def EG(up:Ag->Ac Ag)(ks:Ac Ki)(x:D):R D:=match x with
  |.obj _ _=>.bad
  |.exc _ _=>if ks.all Ek=Aa then .ok (.bl (ks.any λk=>kiD up k x)) else .bad
  |.dic _=>.bad
  |_=>if ks.any Ek=Aa then .bad else .ok (.bl (ks.any λk=>kiD up k x))
noncomputable def Gv:D->R Ai
 |.non=>.ok Ad
 |.bl b=>.ok b
 |.int i=>.ok (i != 0)
 |_=>.bad
noncomputable def E3:Ac D->R Ai
 |[]=>.ok Aa
 |x::r=>(Gv x).bind λb=>(E3 r).bind λc=>.ok (b&&c)
noncomputable def Jn:Ac D->R Ai
 |[]=>.ok Ad
 |x::r=>(Gv x).bind λb=>(Jn r).bind λc=>.ok (b||c)
noncomputable def IG:Ae->Ac D->R Ae
 |a,[]=>.ok a
 |a,.int i::r=>IG (a+i) r
 |_,_=>.bad
noncomputable def FJ:Ac D->Ac D->Ac D
 |x::xs,y::ys=>.tup [x,y]::FJ xs ys
 |_,_=>[]
noncomputable def Wv:Ac D->Ac D->Ac D->Ac D
 |x::xs,y::ys,z::zs=>.tup [x,y,z]::Wv xs ys zs
 |_,_,_=>[]
noncomputable def Wu(x y z:D):R (Ac D):=(Co x).bind λxs=>(Co y).bind λys=>(Co z).bind λzs=>if 0<xs.length/\xs.length<=1000/\ys.length=xs.length/\zs.length=xs.length then .ok (Wv xs ys zs) else .bad
noncomputable def Et:Ae->Ac D->Ac D
 |_,[]=>[]
 |i,x::xs=>.tup [.int i,x]::Et (i+1) xs
noncomputable def nlD:Ag->D->Ai
 |_,.non=>Aa
 |_,.bl _=>Aa
 |_,.int _=>Aa
 |_,.str _=>Aa
 |n+1,.tup xs=>xs.all (nlD n)
 |_,_=>Ad
noncomputable def F4(fr:Ai):D->Ai
 |.lst ds=>fr&&ds.all (nlD 5)
 |d=>nlD 5 d
noncomputable def NN:Ac D->Ao (Ac Ae)
 |[]=>Ab []
 |.int i::r=>(NN r).map (i :: ·)
 |_=>Af
noncomputable def RT(i:Ae):Ac Ae->Ae
 |[]=>i
 |j::r=>RT (if j<i then j else i) r
noncomputable def pk2(k n:Ag):Ac Ag:=(A1 ((n-min k n+1)/2)).map λj=>min k n+2*j
noncomputable def R5(k:Ag)(xs:Ac D):Ac D:=(pk2 k xs.length).filterMap λi=>xs[i]?
noncomputable def ddS(acc:Ac Ae)(x:Ae):Ac Ae:=if acc.any (· == x)=Aa then acc else acc++[x]
noncomputable def ddN(is:Ac Ae):Ag:=(is.foldl ddS []).length
noncomputable def Wz(xs:Ac D):R D:=match NN xs with
  |some is=>if Ds is.length 4000=Aa then .ok (.int (ddN is)) else .bad
  |none=>.bad
noncomputable def mmD(mx:Ai)(x y:D):R D:=if [x,y].all (λd=>rkD 1 d && !eqD d (.tup []))=Aa then .ok (if (if mx=Aa then ltD 1 x y else ltD 1 y x)=Aa then y else x) else .bad
noncomputable def Gw(x y:D):R D:=if [x,y].all (λd=>rkD 1 d && !eqD d (.tup []))=Aa then .ok (.bl (ltD 1 x y)) else .bad
noncomputable def Z_9(k:Ac Ae):Ae:=reduceHash (Builtin.Tuple.tupleHashOf (k.map hashInt))
noncomputable def WA:Ac D->Ao (Ac (Ac Ae))
 |[]=>Ab []
 |.tup xs::r=>(NN xs).bind λk=>(WA r).map (k :: ·)
 |_=>Af
noncomputable def RG:Ac Ae->Ai
 |[]=>Aa
 |h::r=>!r.contains h&&RG r
noncomputable def bu(xs:Ac D):R D:=match WA xs with
  |some ks=>if (Ds ks.length 3&&RG (ks.map Z_9))=Aa then .ok (.int ks.length) else .bad
  |none=>.bad
noncomputable def biD:BI->Ac D->R D
  |.len,[.lst xs]=>.ok (.int xs.length)
  |.len,[.tup xs]=>.ok (.int xs.length)
  |.len,[.str x]=>if BY x.length=Aa then .ok (.int x.length) else .bad
  |.abs,[.int i]=>.ok (.int (if i<0 then -i else i))
  |.max,[.int i,.int j]=>.ok (.int (if i<j then j else i))
  |.min,[.int i,.int j]=>.ok (.int (if j<i then j else i))
  |.min,[.lst xs]=>match NN xs with
    |some (i::is)=>.ok (.int (RT i is))
    |_=>.bad
  |.int,[.int i]=>.ok (.int i)
  |.int,[.bl b]=>.ok (.int (b2i b))
  |.list,[.lst xs]=>.ok (.lst xs)
  |.list,[.tup xs]=>.ok (.lst xs)
  |.tuple,[.lst xs]=>.ok (.tup xs)
  |.tuple,[.tup xs]=>.ok (.tup xs)
  |.all,[.lst xs]=>(E3 xs).bind λb=>.ok (.bl b)
  |.any,[.lst xs]=>(Jn xs).bind λb=>.ok (.bl b)
  |.any,[.tup xs]=>(Jn xs).bind λb=>.ok (.bl b)
  |.sum,[.lst xs]=>(IG 0 xs).bind λi=>.ok (.int i)
  |.sum,[.tup xs]=>(IG 0 xs).bind λi=>.ok (.int i)
  |.sorted,[.lst xs]=>(UT xs).bind λys=>.ok (.lst ys)
  |.count,[.lst xs,x]=>if (flD 5 x&&xs.all (flD 5))=Aa then .ok (.int ((xs.filter λy=>eqD y x).length:Ag)) else .bad
  |.len,[.dic kvs]=>if BY kvs.length=Aa then .ok (.int kvs.length) else .bad
  |.stp,[.lst xs,.int k]=>.ok (.lst (R5 k.toNat xs))
  |.lset,[.lst xs]=>Wz xs
  |.lset,[.tup xs]=>bu xs
  |.tmin,[x,y]=>mmD Ad x y
  |.tmax,[x,y]=>mmD Aa x y
  |.tlt,[x,y]=>Gw x y
  |.rvs,[.lst xs]=>.ok (.lst xs.reverse)
  |_,_=>.bad
noncomputable def slE(c:E)(d:D):R (Ao Ae):=match c with
  |.non=>.ok Af
  |_=>(E2 d).bind λi=>.ok (Ab i)
noncomputable def GU(n d:Ag):Ao Ae->Ag
 |none=>d
 |some i=>if i<0 then (i+n).toNat else min i.toNat n
noncomputable def Lu(xs:Ac D)(lo hi:Ao Ae):Ac D:=(xs.drop (GU xs.length 0 lo)).take (GU xs.length xs.length hi-GU xs.length 0 lo)
noncomputable def slD:D->Ao Ae->Ao Ae->R D
 |.lst xs,l,h=>.ok (.lst (Lu xs l h))
 |.tup xs,l,h=>if (GU xs.length 0 l==0&&GU xs.length xs.length h==xs.length)=Aa then .bad else .ok (.tup (Lu xs l h))
 |_,_,_=>.bad
noncomputable def RJ:D->Ak->R D
  |.exc _ fs,f=>match fs.lookup f with
    |some d=>.ok d
    |none=>.bad
  |_,_=>.bad
noncomputable def FK(Z:Rho)(i:Ag):R D:=match Z[i]? with
  |some (Ab (d,Ad))=>.ok d
  |_=>.bad
noncomputable def Cu(Z:Rho)(i:Ag):R D:=match Z[i]? with
  |some (Ab (d,_))=>.ok d
  |_=>.bad
noncomputable def shE(Z:Rho):E->Ai
  | .var i=>(match Z[i]? with
    |some (Ab (_,Aa))=>Ad
    | _=>Aa)
  |_=>Aa
noncomputable def El(Z:Rho):Es->Ai
 |.nil=>Aa
 |.cons e es=>shE Z e&&El Z es
noncomputable def EF:Ac Ag->Ac D->Rho->Ao Rho
 |[],[],Z=>Ab Z
 |t::ts,d::ds,Z=>EF ts ds (Z.set t (Ab (d,Ad)))
 |_,_,_=>Af
noncomputable def FH(ts:Ac Ag)(d:D)(Z:Rho):R Rho:=match d with
  | .tup xs=>(match EF ts xs Z with
    |some Z'=>.ok Z'
    | none=>.bad)
  |_=>.bad
noncomputable def NI(ts:Ac Ag)(d:D)(Z:Rho):R Rho:=match d with
  | .lst xs=>(match EF ts xs Z with
    |some Z'=>.ok Z'
    | none=>.bad)
  |d=>FH ts d Z
noncomputable def BU(g:D->R Ai)(f:D->R D):Ac D->R (Ac D)
 |[]=>.ok []
 |x::xs=>(g x).bind λb=>if b=Aa then (f x).bind λy=>(BU g f xs).bind λys=>.ok (y::ys) else BU g f xs
noncomputable def noX{α:Type}:R α->R α
 |.ok a=>.ok a
 |_=>.bad
noncomputable def top(Z:Rho)(e:E)(r:R D):R D:=match e with
  |.var i=>Cu Z i
  |_=>r
mutual
noncomputable def evE(U:Gam)(Z:Rho):E->R D
 |.non=>.ok .non
 |.bl b=>.ok (.bl b)
 |.int i=>.ok (.int i)
 |.str x=>.ok (.str x)
 |.var i=>FK Z i
 |.glob g=>.ok (U.G g)
 |.bin op a b=>(top Z a (evE U Z a)).bind λx=>(top Z b (evE U Z b)).bind λy=>CD op x y
 |.un op a=>(top Z a (evE U Z a)).bind λx=>unD op x
 |.no a=>(top Z a (evE U Z a)).bind λx=>(DE x).bind λb=>.ok (.bl (!b))
 |.and es=>evN U Z es
 |.or es=>evO U Z es
 |.cmp op a b=>(top Z a (evE U Z a)).bind λx=>(top Z b (evE U Z b)).bind λy=>BJ op x y
 |.cmp2 op op' a b c=>(top Z a (evE U Z a)).bind λx=>(top Z b (evE U Z b)).bind λy=>(BJ op x y).bind λz=>(DE z).bind λk=>if k=Aa then (top Z c (evE U Z c)).bind λu=>BJ op' y u else .ok (.bl Ad)
 |.ite c a b=>(top Z c (evE U Z c)).bind λx=>(BE x).bind λk=>if k=Aa then evE U Z a else evE U Z b
 |.call f as=>(evB U Z as).bind λxs=>(U.F f xs).bind λd=>if El Z as=Aa then .ok d else if F4 (U.fr f) d=Aa then .ok d else .bad
 |.bi b as=>(evB U Z as).bind λxs=>biD b xs
 |.isi a ks=>(top Z a (evE U Z a)).bind λx=>EG U.up ks x
 |.idx a i=>(top Z a (evE U Z a)).bind λx=>(top Z i (evE U Z i)).bind λy=>EH x y
 |.sl a lo hi=>(top Z a (evE U Z a)).bind λx=>(top Z lo (evE U Z lo)).bind λl=>(slE lo l).bind λl'=>(top Z hi (evE U Z hi)).bind λh=>(slE hi h).bind λh'=>slD x l' h'
 |.tup es=>(evA U Z es).bind λxs=>.ok (.tup xs)
 |.lst es=>(evA U Z es).bind λxs=>.ok (.lst xs)
 |.comp elt t it c=>(evI U Z it).bind λxs=>(noX (BU (λx=>(top (Z.set t (Ab (x,Ad))) c (evE U (Z.set t (Ab (x,Ad))) c)).bind BE) (λx=>evE U (Z.set t (Ab (x,Ad))) elt) xs)).bind λys=>.ok (.lst ys)
 |.compT elt ts it c=>(evI U Z it).bind λxs=>(noX (BU (λx=>(FH ts x Z).bind λZ'=>(top Z' c (evE U Z' c)).bind BE) (λx=>(FH ts x Z).bind λZ'=>evE U Z' elt) xs)).bind λys=>.ok (.lst ys)
 |.tupI it=>(evI U Z it).bind λxs=>.ok (.tup xs)
 |.dget i k x=>(Cu Z i).bind λd=>(Ri d).bind λkvs=>(top Z k (evE U Z k)).bind λa=>(E1 a).bind λj=>(evE U Z x).bind λy=>.ok ((CB kvs j).getD y)
 |.fld o f=>(top Z o (evE U Z o)).bind λx=>RJ x f
noncomputable def evN(U:Gam)(Z:Rho):Es->R D
 |.nil=>.bad
 |.cons e .nil=>evE U Z e
 |.cons e (.cons e' es)=>(evE U Z e).bind λx=>(DE x).bind λc=>if c=Aa then evN U Z (.cons e' es) else .ok (.bl Ad)
noncomputable def evO(U:Gam)(Z:Rho):Es->R D
 |.nil=>.bad
 |.cons e .nil=>evE U Z e
 |.cons e (.cons e' es)=>(evE U Z e).bind λx=>(DE x).bind λc=>if c=Aa then .ok (.bl Aa) else evO U Z (.cons e' es)
noncomputable def evA(U:Gam)(Z:Rho):Es->R (Ac D)
 |.nil=>.ok []
 |.cons e es=>(evE U Z e).bind λx=>(evA U Z es).bind λxs=>.ok (x::xs)
noncomputable def evB(U:Gam)(Z:Rho):Es->R (Ac D)
 |.nil=>.ok []
 |.cons e es=>(top Z e (evE U Z e)).bind λx=>(evB U Z es).bind λxs=>.ok (x::xs)
noncomputable def evI(U:Gam)(Z:Rho):I->R (Ac D)
 |.e a=>(evE U Z a).bind Co
 |.rng a=>(top Z a (evE U Z a)).bind λx=>(E2 x).bind λj=>CA 0 j
 |.rng2 a b=>(top Z a (evE U Z a)).bind λx=>(top Z b (evE U Z b)).bind λy=>(E2 x).bind λi=>(E2 y).bind λj=>CA i j
 |.zip a b=>(evE U Z a).bind λx=>(evE U Z b).bind λy=>(Co x).bind λxs=>(Co y).bind λys=>.ok (FJ xs ys)
 |.zip3 a b c=>(evE U Z a).bind λx=>(evE U Z b).bind λy=>(evE U Z c).bind λz=>Wu x y z
 |.enm a=>(evE U Z a).bind λx=>(Co x).bind λxs=>.ok (Et 0 xs)
end
noncomputable def Ce(U:Gam):E->Ai
 |.lst _=>Aa
 |.comp _ _ _ _=>Aa
 |.compT _ _ _ _=>Aa
 |.bin .Add _ _=>Aa
 |.bi .list _=>Aa
 |.bi .sorted _=>Aa
 |.sl _ _ _=>Aa
 |.call f _=>U.fr f
 |_=>Ad
noncomputable def Hz:D->Ai
 |.tup _=>Ad
 |_=>Aa
mutual
inductive S where
 |pass
 /-- x=e;fresh: x alone holds the new list -/
 |asg (i:Ag) (fresh:Ai) (e:E)
 /-- a,b,..=e -/
 |asgT (ts:Ac Ag) (e:E)
 |expr (e:E)
 |ret (e:E)|retN
 |ife (c:E) (a b:Ss)
 |fors (t:Ag) (it:I) (body:Ss)
 |forT (ts:Ac Ag) (it:I) (body:Ss)
 |whl (c:E) (body:Ss)
 /-- raise C(e,..) -/
 |rais (c:Ag) (as:Es)
 /-- try: body except C as x: h -/
 |tryx (body:Ss) (c:Ag) (x:Ag) (h:Ss)
 /-- .. except C as x: h,except C' as x: h',else: els -/
 |try2 (body:Ss) (c:Ag) (x:Ag) (h:Ss) (c':Ag) (h' els:Ss)
 /-- x.append(e),x.extend(e),x.insert(k,e),x.reverse(),x.clear() -/
 |app (i:Ag) (e:E)|ext (i:Ag) (e:E)|ins (i:Ag) (k e:E)|rev (i:Ag)|clr (i:Ag)
 /-- d={},d[k]=e,d.setdefault(k,e) -/
 |dnw (i:Ag)|dput (i:Ag) (k e:E)|dsd (i:Ag) (k e:E)
 /-- x[k]=e -/
 |put (i:Ag) (k e:E)
 /-- x[k],x[l]=x[l],x[k] -/
 |swp (i k l:Ag)
 /-- x.append(y.pop(e)) -/
 |apop (j i:Ag) (e:E)
 |brk|cont
 /-- return (a,..): a list within is new,or a name held it alone -/
 |retT (es:Es)
 /-- x=f(..) or x,y=f(..);pre;if c: a else: b;x[k].append(e) or y.append(e): the names are let go -/
 |blk (ts:Ac Ag) (f:Ag) (as:Es) (pre:Ss) (c:E) (a b:Ss) (k:Ag) (e:E)
 /-- nothing: from here on x is no longer changed -/
 |rel (i:Ag)
inductive Ss where
 |nil|cons (s:S) (ss:Ss)
end
inductive O where
 |next (Z:Rho)|ret (d:D) (fr:Ai)|brk (Z:Rho)|cont (Z:Rho)|exn (x:Ex) (Z:Rho)|bad
 deriving Inhabited
noncomputable def O.of{α:Type}(Z:Rho)(r:R α)(f:α->O):O:=match r with
  |.ok a=>f a
  |.exn x=>.exn x Z
  |.bad=>.bad
@[simp]theorem O.of_ok(Z:Rho)(a:α)(f:α->O):O.of Z (.ok a) f=f a:=rfl
@[simp]theorem O.of_exn(Z:Rho)(x:Ex)(f:α->O):O.of Z (.exn x:R α) f=.exn x Z:=rfl
@[simp]theorem O.of_bad(Z:Rho)(f:α->O):O.of Z (.bad:R α) f=.bad:=rfl
noncomputable def FN(U:Gam)(Z:Rho)(i:I):R (Ac D):=evI U Z i
noncomputable def CC(Z:Rho)(i:Ag):R (Ac D):=match Z[i]? with
  |some (Ab (.lst xs,Aa))=>.ok xs
  |_=>.bad
noncomputable def GR(Z:Rho)(i:Ag):R (Ac (Ac Ae×D)):=match Z[i]? with
  |some (Ab (.dic xs,Aa))=>.ok xs
  |_=>.bad
noncomputable def WS:Ag:=4096
noncomputable def O.seq(o:O)(f:Rho->O):O:=match o with
  |.next Z=>f Z
  |.ret d b=>.ret d b
  |.brk Z=>.brk Z
  |.cont Z=>.cont Z
  |.exn x Z=>.exn x Z
  |.bad=>.bad
noncomputable def O.turn(o:O)(f:Rho->O):O:=match o with
  |.next Z=>f Z
  |.cont Z=>f Z
  |.brk Z=>.next Z
  |.ret d b=>.ret d b
  |.exn x Z=>.exn x Z
  |.bad=>.bad
noncomputable def Bz(body:D->Rho->O):Ac D->Rho->O
 |[],Z=>.next Z
 |x::xs,Z=>(body x Z).turn (Bz body xs)
noncomputable def Ro(c:Rho->R Ai)(body:Rho->O):Ag->Rho->O
 |0,_=>.bad
 |n+1,Z=>O.of Z (c Z) λb=>if b=Aa then (body Z).turn (Ro c body n) else .next Z
noncomputable def WO(Z:Rho)(k:Ag):R Ae:=(FK Z k).bind E2
noncomputable def aI(Z:Rho)(d:D)(i k l:Ag):O:=match d with
  |.tup [x,y]=>O.of Z (CC Z i) λxs=>O.of Z (WO Z k) λa=>O.of Z (WO Z l) λb=>match plD xs.length a,plD xs.length b with
    |some m,Ab n=>.next (Z.set i (Ab (.lst ((xs.set m x).set n y),Aa)))
    |_,_=>.bad
  |_=>.bad
noncomputable def apD(Z:Rho)(j i:Ag)(ys xs:Ac D)(n:Ae):O:=match plD xs.length n with
  | some m=>(match xs[m]? with
    |some d=>if (j != i&&(BY xs.length&&BY (ys.length+1)))=Aa then .next ((Z.set i (Ab (.lst (xs.eraseIdx m),Aa))).set j (Ab (.lst (ys++[d]),Aa))) else .bad
    | none=>.bad)
  |none=>.bad
noncomputable def Kj(Z:Rho)(e:E):Ai:=match e with
  | .var i=>(match Z[i]? with
    |some (Ab (_,o))=>o
    | _=>Ad)
  |_=>Ad
noncomputable def IE(x:D×Ai):Ai:=match x.1 with
  |.lst _=>x.2
  |.dic _=>Ad
  |_=>Aa
noncomputable def evP(U:Gam)(Z:Rho):Es->R (Ac (D×Ai))
 |.nil=>.ok []
 |.cons e es=>(noX (top Z e (evE U Z e))).bind λd=>(evP U Z es).bind λxs=>.ok ((d,Ce U e||Kj Z e)::xs)
noncomputable def Ka(ts:Ac Ag)(d:D)(Z:Rho):R Rho:=match ts with
  |[x]=>.ok (Z.set x (Ab (d,Ad)))
  | [x,y]=>(match d with
    |.tup [d1,d2]=>if (x==y)=Aa then .bad else .ok ((Z.set x (Ab (d1,Ad))).set y (Ab (d2,Ad)))
    | _=>.bad)
  |_=>.bad
noncomputable def HR(ts:Ac Ag)(Z:Rho):Rho:=match ts with
  |[x]=>Z.set x Af
  |[x,y]=>(Z.set x Af).set y Af
  |_=>Z
noncomputable def Mu(ts:Ac Ag)(d:D)(k:Ag)(r:R D)(Z1 Z:Rho):O:=match d with
  | .tup ds=>(match ds[k]? with
    |some (.lst xs)=>O.of Z (noX r) λ_=>if (BY (xs.length+1)&&decide (k<2)&&ts.all (λi=>decide (i<Z.length)))=Aa then .next Z1 else .bad
    | _=>.bad)
  |_=>.bad
noncomputable def Kl(ts:Ac Ag)(r:R D)(k:Ag)(pre a b:Rho->O)(c:Rho->R Ai)(e:Rho->R D)(Z:Rho):O:=
 O.of Z (noX r) λd=>O.of Z (Ka ts d Z) λZ1=>(pre Z1).seq λ_=>O.of Z1 (noX (c Z1)) λq=>(if q=Aa then a Z1 else (b Z1).seq λ_=>Mu ts d k (e Z1) Z1 Z).seq λ_=>.next (HR ts Z)
noncomputable def hdO(i:Ag)(y:Ex)(Z':Rho)(fh:Rho->O):O:=match fh (Z'.set i (Ab (.exc y.c y.fs,Ad))) with
  |.next Z''=>.next (Z''.set i Af)
  |.ret d f=>.ret d f
  |_=>.bad
mutual
noncomputable def evS(U:Gam)(Z:Rho):S->O
  |.pass=>.next Z
  | .asg i fresh e=>O.of Z (evE U Z e) λd=>if fresh=Aa then (if Ce U e=Aa then (match d with
      |.lst xs=>.next (Z.set i (Ab (.lst xs,Aa)))
      | _=>.bad) else .bad) else .next (Z.set i (Ab (d,Ad)))
  |.asgT ts e=>O.of Z (evE U Z e) λd=>O.of Z (NI ts d Z) λZ'=>.next Z'
  |.expr e=>O.of Z (evE U Z e) λ_=>.next Z
  |.ret e=>O.of Z (top Z e (evE U Z e)) λd=>.ret d (Ce U e&&Hz d||(match e with | .var i=>(match Z[i]? with|some (Ab (_,o))=>o|_=>Ad)|_=>Ad))
  |.retN=>.ret .non Ad
  |.ife c a b=>O.of Z ((top Z c (evE U Z c)).bind BE) λk=>if k=Aa then evSs U Z a else evSs U Z b
  |.fors t it body=>O.of Z (FN U Z it) λxs=>Bz (λx Z'=>evSs U (Z'.set t (Ab (x,Ad))) body) xs Z
  |.forT ts it body=>O.of Z (FN U Z it) λxs=>Bz (λx Z'=>O.of Z' (FH ts x Z') λZ''=>evSs U Z'' body) xs Z
  |.whl c body=>Ro (λZ'=>(top Z' c (evE U Z' c)).bind BE) (λZ'=>evSs U Z' body) WS Z
  |.rais c as=>O.of Z (noX (evA U Z as)) λxs=>O.of Z (U.xn c xs) λx=>.exn x Z
  |.tryx body c x h=>match evSs U Z body with
      | .exn y Z'=>if (U.up y.c).contains c=Aa then (match evSs U (Z'.set x (Ab (.exc y.c y.fs,Ad))) h with
          |.next Z''=>.next (Z''.set x Af)
          |.ret d f=>.ret d f
          | _=>.bad) else .bad
      |o=>o
  |.try2 body c x h c' h' els=>match evSs U Z body with
      |.exn y Z'=>if (U.up y.c).contains c=Aa then hdO x y Z' (λr=>evSs U r h) else if (U.up y.c).contains c'=Aa then hdO x y Z' (λr=>evSs U r h') else .bad
      |.next Z'=>evSs U Z' els
      |o=>o
  |.app i e=>O.of Z (CC Z i) λxs=>O.of Z (evE U Z e) λd=>if BY (xs.length+1)=Aa then .next (Z.set i (Ab (.lst (xs++[d]),Aa))) else .bad
  |.ext i e=>O.of Z (CC Z i) λxs=>O.of Z (evE U Z e) λd=>O.of Z (Lp d) λys=>if BY (xs.length+ys.length)=Aa then .next (Z.set i (Ab (.lst (xs++ys),Aa))) else .bad
  |.ins i k e=>O.of Z (CC Z i) λxs=>O.of Z ((top Z k (evE U Z k)).bind E2) λj=>O.of Z (evE U Z e) λd=>if (BY (xs.length+1)&&decide (0<=j)&&decide (j<=xs.length))=Aa then .next (Z.set i (Ab (.lst (xs.take j.toNat++d::xs.drop j.toNat),Aa))) else .bad
  |.rev i=>O.of Z (CC Z i) λxs=>.next (Z.set i (Ab (.lst xs.reverse,Aa)))
  |.clr i=>O.of Z (CC Z i) λ_=>.next (Z.set i (Ab (.lst [],Aa)))
  |.dnw i=>.next (Z.set i (Ab (.dic [],Aa)))
  |.dput i k e=>O.of Z (evE U Z e) λd=>O.of Z (GR Z i) λxs=>O.of Z ((top Z k (evE U Z k)).bind E1) λj=>if BY (xs.length+1)=Aa then .next (Z.set i (Ab (.dic (F2 xs j d),Aa))) else .bad
  |.dsd i k e=>O.of Z (GR Z i) λxs=>O.of Z ((top Z k (evE U Z k)).bind E1) λj=>O.of Z (evE U Z e) λd=>if BY (xs.length+1)=Aa then .next (Z.set i (Ab (.dic (if (xs.any λp=>p.1==j)=Aa then xs else F2 xs j d),Aa))) else .bad
  |.put i k e=>O.of Z (evE U Z e) λd=>O.of Z (CC Z i) λxs=>O.of Z ((top Z k (evE U Z k)).bind E2) λj=>match plD xs.length j with
      |some n=>.next (Z.set i (Ab (.lst (xs.set n d),Aa)))
      |none=>.bad
  |.swp i k l=>O.of Z (evE U Z (.tup (.cons (.idx (.var i) (.var l)) (.cons (.idx (.var i) (.var k)) .nil)))) λd=>aI Z d i k l
  |.apop j i e=>O.of Z (CC Z j) λys=>O.of Z (CC Z i) λxs=>O.of Z (evE U Z e) λd=>O.of Z (E2 d) λn=>apD Z j i ys xs n
  |.brk=>.brk Z
  |.cont=>.cont Z
  |.retT es=>O.of Z (noX (evP U Z es)) λxs=>if xs.all IE=Aa then .ret (.tup (xs.map (·.1))) Aa else .bad
  |.blk ts f as pre c a b k e=>if (U.fr f&&El Z as)=Aa then Kl ts (evE U Z (.call f as)) k (λZ=>evSs U Z pre) (λZ=>evSs U Z a) (λZ=>evSs U Z b) (λZ=>(top Z c (evE U Z c)).bind BE) (λZ=>evE U Z e) Z else .bad
  |.rel i=>match Z[i]? with
      |some (Ab (d,Aa))=>.next (Z.set i (Ab (d,Ad)))
      |_=>.next Z
noncomputable def evSs(U:Gam)(Z:Rho):Ss->O
 |.nil=>.next Z
 |.cons s ss=>(evS U Z s).seq λZ'=>evSs U Z' ss
end
structure Df where
 n:Ag
 fr:Ai
 body:Ss
noncomputable def BD(n:Ag)(ds:Ac D):Rho:=ds.map (λd=>Ab (d,Ad))++GI (n-ds.length) Af
noncomputable def HX:D->Ai
 |.lst _=>Aa
 |_=>Ad
noncomputable def isL:D->Ai
 |.lst _=>Aa
 |.dic _=>Aa
 |.tup ds=>ds.any HX
 |_=>Ad
noncomputable def O.ans(fr:Ai)(o:O):R D:=match o with
  |.ret d b=>if (fr&&(!b&&isL d))=Aa then .bad else .ok d
  |.next _=>if fr=Aa then .bad else .ok .non
  |.exn x _=>.exn x
  |_=>.bad
noncomputable def Df.run(U:Gam)(f:Df)(ds:Ac D):R D:=(evSs U (BD f.n ds) f.body).ans f.fr
structure Prg where
 xs:Ai
 defs:Ag->Df
 G:Ag->D
 up:Ag->Ac Ag
 xn:Ag->Ac D->R Ex
noncomputable def Ha(xs:Ai)(r:R D):R D:=match xs with
  |true=>r
  |false=>noX r
noncomputable def gam(P:Prg):Ag->Gam
 |0=>⟨λ_ _=>.bad,P.G,P.up,λi=>(P.defs i).fr,P.xn⟩
 |n+1=>⟨λi ds=>Ha P.xs ((P.defs i).run (gam P n) ds),P.G,P.up,λi=>(P.defs i).fr,P.xn⟩
end Ov
end
section
namespace Ov
open PySem
variable{α:Type}{lo:Ae}{n:Ag}{x:D}
section
variable(U:Gam)(Z:Rho)
@[simp]theorem ZAd:evE U Z .non=.ok .non:=rfl
@[simp]theorem ZCc(b):evE U Z (.bl b)=.ok (.bl b):=rfl
@[simp]theorem ZAh(b):evE U Z (.int b)=.ok (.int b):=rfl
@[simp]theorem ZAc(b):evE U Z (.str b)=.ok (.str b):=rfl
@[simp]theorem ZAb(i):evE U Z (.var i)=FK Z i:=rfl
@[simp]theorem ZwG(i):evE U Z (.glob i)=.ok (U.G i):=rfl
@[simp]theorem oM(op a b):evE U Z (.bin op a b)=(top Z a (evE U Z a)).bind λx=>(top Z b (evE U Z b)).bind λy=>CD op x y:=rfl
@[simp]theorem ZB8(op a):evE U Z (.un op a)=(top Z a (evE U Z a)).bind λx=>unD op x:=rfl
@[simp]theorem ZCb(a):evE U Z (.no a)=(top Z a (evE U Z a)).bind λx=>(DE x).bind λb=>.ok (.bl (!b)):=rfl
@[simp]theorem ZAk(es):evE U Z (.and es)=evN U Z es:=rfl
@[simp]theorem ZCa(es):evE U Z (.or es)=evO U Z es:=rfl
@[simp]theorem Zz8(e):evN U Z (.cons e .nil)=evE U Z e:=rfl
@[simp]theorem ZwB(e e' es):evN U Z (.cons e (.cons e' es))=(evE U Z e).bind λx=>(DE x).bind λc=>if c=Aa then evN U Z (.cons e' es) else .ok (.bl Ad):=rfl
@[simp]theorem Zz7(e):evO U Z (.cons e .nil)=evE U Z e:=rfl
@[simp]theorem ZwA(e e' es):evO U Z (.cons e (.cons e' es))=(evE U Z e).bind λx=>(DE x).bind λc=>if c=Aa then .ok (.bl Aa) else evO U Z (.cons e' es):=rfl
@[simp]theorem oK(op a b):evE U Z (.cmp op a b)=(top Z a (evE U Z a)).bind λx=>(top Z b (evE U Z b)).bind λy=>BJ op x y:=rfl
@[simp]theorem ZwJ(op op' a b c):evE U Z (.cmp2 op op' a b c)=(top Z a (evE U Z a)).bind λx=>(top Z b (evE U Z b)).bind λy=>(BJ op x y).bind λz=>(DE z).bind λk=>if k=Aa then (top Z c (evE U Z c)).bind λu=>BJ op' y u else .ok (.bl Ad):=rfl
@[simp]theorem ZAf(c a b):evE U Z (.ite c a b)=(top Z c (evE U Z c)).bind λx=>(BE x).bind λk=>if k=Aa then evE U Z a else evE U Z b:=rfl
@[simp]theorem Ub(f as):evE U Z (.call f as)=(evB U Z as).bind λxs=>(U.F f xs).bind λd=>if El Z as=Aa then .ok d else if F4 (U.fr f) d=Aa then .ok d else .bad:=rfl
@[simp]theorem Nv(f as):evE U Z (.bi f as)=(evB U Z as).bind λxs=>biD f xs:=rfl
@[simp]theorem ZAg(a ks):evE U Z (.isi a ks)=(top Z a (evE U Z a)).bind λx=>EG U.up ks x:=rfl
@[simp]theorem ZAi(a i):evE U Z (.idx a i)=(top Z a (evE U Z a)).bind λx=>(top Z i (evE U Z i)).bind λy=>EH x y:=rfl
@[simp]theorem ZB9(a lo hi):evE U Z (.sl a lo hi)=(top Z a (evE U Z a)).bind λx=>(top Z lo (evE U Z lo)).bind λl=>(slE lo l).bind λl'=>(top Z hi (evE U Z hi)).bind λh=>(slE hi h).bind λh'=>slD x l' h':=rfl
@[simp]theorem oJ(es):evE U Z (.tup es)=(evA U Z es).bind λxs=>.ok (.tup xs):=rfl
@[simp]theorem ZAe(es):evE U Z (.lst es)=(evA U Z es).bind λxs=>.ok (.lst xs):=rfl
noncomputable def cG(U:Gam)(Z:Rho)(t:Ag)(c:E):D->R Ai:=λx=>(top (Z.set t (Ab (x,Ad))) c (evE U (Z.set t (Ab (x,Ad))) c)).bind BE
noncomputable def cF(U:Gam)(Z:Rho)(t:Ag)(elt:E):D->R D:=λx=>evE U (Z.set t (Ab (x,Ad))) elt
noncomputable def mkL(r:R (Ac D)):R D:=(noX r).bind λys=>.ok (.lst ys)
@[simp]theorem ZBI(ys):mkL (.ok ys)=.ok (.lst ys):=rfl
@[simp]theorem ZwI(elt t it c):evE U Z (.comp elt t it c)=(evI U Z it).bind λxs=>mkL (BU (cG U Z t c) (cF U Z t elt) xs):=rfl
noncomputable def cGT(U:Gam)(Z:Rho)(ts:Ac Ag)(c:E):D->R Ai:=λx=>(FH ts x Z).bind λZ'=>(top Z' c (evE U Z' c)).bind BE
noncomputable def cFT(U:Gam)(Z:Rho)(ts:Ac Ag)(elt:E):D->R D:=λx=>(FH ts x Z).bind λZ'=>evE U Z' elt
@[simp]theorem ZuB(elt ts it c):evE U Z (.compT elt ts it c)=(evI U Z it).bind λxs=>mkL (BU (cGT U Z ts c) (cFT U Z ts elt) xs):=rfl
@[simp]theorem ZwF(it):evE U Z (.tupI it)=(evI U Z it).bind λxs=>.ok (.tup xs):=rfl
@[simp]theorem ZwH(i k x):evE U Z (.dget i k x)=(Cu Z i).bind λd=>(Ri d).bind λkvs=>(top Z k (evE U Z k)).bind λa=>(E1 a).bind λj=>(evE U Z x).bind λy=>.ok ((CB kvs j).getD y):=rfl
@[simp]theorem ZAj(o f):evE U Z (.fld o f)=(top Z o (evE U Z o)).bind λx=>RJ x f:=rfl
@[simp]theorem ZAm:evA U Z .nil=.ok []:=rfl
@[simp]theorem Uc(e es):evA U Z (.cons e es)=(evE U Z e).bind λx=>(evA U Z es).bind λxs=>.ok (x::xs):=rfl
@[simp]theorem ZAl:evB U Z .nil=.ok []:=rfl
@[simp]theorem Px(e es):evB U Z (.cons e es)=(top Z e (evE U Z e)).bind λx=>(evB U Z es).bind λxs=>.ok (x::xs):=rfl
@[simp]theorem ZC9(a):evI U Z (.e a)=(evE U Z a).bind Co:=rfl
@[simp]theorem oH(a):evI U Z (.rng a)=(top Z a (evE U Z a)).bind λx=>(E2 x).bind λj=>CA 0 j:=rfl
@[simp]theorem iC(a b):evI U Z (.rng2 a b)=(top Z a (evE U Z a)).bind λx=>(top Z b (evE U Z b)).bind λy=>(E2 x).bind λi=>(E2 y).bind λj=>CA i j:=rfl
@[simp]theorem Zz9(a b):evI U Z (.zip a b)=(evE U Z a).bind λx=>(evE U Z b).bind λy=>(Co x).bind λxs=>(Co y).bind λys=>.ok (FJ xs ys):=rfl
@[simp]theorem ZwE(a b c):evI U Z (.zip3 a b c)=(evE U Z a).bind λx=>(evE U Z b).bind λy=>(evE U Z c).bind λz=>Wu x y z:=rfl
@[simp]theorem ZAa(a):evI U Z (.enm a)=(evE U Z a).bind λx=>(Co x).bind λxs=>.ok (Et 0 xs):=rfl
@[simp]theorem ZwC(a b):FN U Z (.zip a b)=evI U Z (.zip a b):=rfl
@[simp]theorem ZuA(a b c):FN U Z (.zip3 a b c)=evI U Z (.zip3 a b c):=rfl
@[simp]theorem ZwD(a):FN U Z (.enm a)=evI U Z (.enm a):=rfl
@[simp]theorem ZB7(a):FN U Z (.e a)=(evE U Z a).bind Co:=rfl
@[simp]theorem iB(a):FN U Z (.rng a)=evI U Z (.rng a):=rfl
@[simp]theorem eO(a b):FN U Z (.rng2 a b)=evI U Z (.rng2 a b):=rfl
variable(r:R D)
@[simp]theorem Zxb(i):top Z (.var i) r=Cu Z i:=rfl
@[simp]theorem Zxd:top Z .non r=r:=rfl
@[simp]theorem ZBd(b):top Z (.bl b) r=r:=rfl
@[simp]theorem Zxh(b):top Z (.int b) r=r:=rfl
@[simp]theorem Zxc(b):top Z (.str b) r=r:=rfl
@[simp]theorem ZvJ(b):top Z (.glob b) r=r:=rfl
@[simp]theorem kS(op a b):top Z (.bin op a b) r=r:=rfl
@[simp]theorem ZA9(op a):top Z (.un op a) r=r:=rfl
@[simp]theorem ZBc(a):top Z (.no a) r=r:=rfl
@[simp]theorem Zxl(a):top Z (.and a) r=r:=rfl
@[simp]theorem ZBb(a):top Z (.or a) r=r:=rfl
@[simp]theorem Zxk(op a b):top Z (.cmp op a b) r=r:=rfl
@[simp]theorem ZvM(op op' a b c):top Z (.cmp2 op op' a b c) r=r:=rfl
@[simp]theorem Zxf(a b c):top Z (.ite a b c) r=r:=rfl
@[simp]theorem ZvN(a b):top Z (.call a b) r=r:=rfl
@[simp]theorem sJ(a b):top Z (.bi a b) r=r:=rfl
@[simp]theorem Zxg(a b):top Z (.isi a b) r=r:=rfl
@[simp]theorem Zxi(a b):top Z (.idx a b) r=r:=rfl
@[simp]theorem ZBa(a b c):top Z (.sl a b c) r=r:=rfl
@[simp]theorem kR(a):top Z (.tup a) r=r:=rfl
@[simp]theorem Zxe(a):top Z (.lst a) r=r:=rfl
@[simp]theorem ZvL(a b c d):top Z (.comp a b c d) r=r:=rfl
@[simp]theorem Zxj(a b):top Z (.fld a b) r=r:=rfl
@[simp]theorem Zsq(a b c d):top Z (.compT a b c d) r=r:=rfl
@[simp]theorem ZvI(a):top Z (.tupI a) r=r:=rfl
@[simp]theorem ZvK(i k x):top Z (.dget i k x) r=r:=rfl
end
@[simp]theorem Zse(x:D×Ai)(Z:Rho):Cu (Ab x::Z) 0=.ok x.1:=rfl
@[simp]theorem Zsf(x:D)(Z:Rho):FK (Ab (x,Ad)::Z) 0=.ok x:=rfl
@[simp]theorem ZrQ(x:Sl)(Z:Rho)(i:Ag)[NeZero i]:Cu (x::Z) i=Cu Z (i-1):=by
 obtain⟨j,rfl⟩:∃ j,i=j+1:=⟨i-1,by have:=LD i;omega⟩
 rfl
@[simp]theorem ZrR(x:Sl)(Z:Rho)(i:Ag)[NeZero i]:FK (x::Z) i=FK Z (i-1):=by
 obtain⟨j,rfl⟩:∃ j,i=j+1:=⟨i-1,by have:=LD i;omega⟩
 rfl
noncomputable def shV(Z:Rho)(i:Ag):Ai:=match Z[i]? with
    |some (Ab (_,Aa))=>Ad
    |_=>Aa
@[simp]theorem ZvS(x:D)(b:Ai)(Z:Rho):shV (Ab (x,b)::Z) 0=!b:=by cases b<;>rfl
@[simp]theorem ZsZ(Z:Rho):shV (Af::Z) 0=Aa:=rfl
@[simp]theorem Zs0(x:Sl)(Z:Rho)(i:Ag)[NeZero i]:shV (x::Z) i=shV Z (i-1):=by
 obtain⟨j,rfl⟩:∃ j,i=j+1:=⟨i-1,by have:=LD i;omega⟩
 rfl
section
variable(Z:Rho)
@[simp]theorem ZxL(i):shE Z (.var i)=shV Z i:=rfl
@[simp]theorem ZxO:shE Z .non=Aa:=rfl
@[simp]theorem ZBu(b):shE Z (.bl b)=Aa:=rfl
@[simp]theorem ZxS(b):shE Z (.int b)=Aa:=rfl
@[simp]theorem ZxN(b):shE Z (.str b)=Aa:=rfl
@[simp]theorem ZvV(b):shE Z (.glob b)=Aa:=rfl
@[simp]theorem ZxW(op a b):shE Z (.bin op a b)=Aa:=rfl
@[simp]theorem ZBq(op a):shE Z (.un op a)=Aa:=rfl
@[simp]theorem ZBt(a):shE Z (.no a)=Aa:=rfl
@[simp]theorem ZxX(a):shE Z (.and a)=Aa:=rfl
@[simp]theorem ZBs(a):shE Z (.or a)=Aa:=rfl
@[simp]theorem ZxV(op a b):shE Z (.cmp op a b)=Aa:=rfl
@[simp]theorem ZvY(op op' a b c):shE Z (.cmp2 op op' a b c)=Aa:=rfl
@[simp]theorem ZxQ(a b c):shE Z (.ite a b c)=Aa:=rfl
@[simp]theorem ZvZ(a b):shE Z (.call a b)=Aa:=rfl
@[simp]theorem ZBv(a b):shE Z (.bi a b)=Aa:=rfl
@[simp]theorem ZxR(a b):shE Z (.isi a b)=Aa:=rfl
@[simp]theorem ZxT(a b):shE Z (.idx a b)=Aa:=rfl
@[simp]theorem ZBr(a b c):shE Z (.sl a b c)=Aa:=rfl
@[simp]theorem ZxM(a):shE Z (.tup a)=Aa:=rfl
@[simp]theorem ZxP(a):shE Z (.lst a)=Aa:=rfl
@[simp]theorem ZvX(a b c d):shE Z (.comp a b c d)=Aa:=rfl
@[simp]theorem Zs1(a b c d):shE Z (.compT a b c d)=Aa:=rfl
@[simp]theorem ZvU(a):shE Z (.tupI a)=Aa:=rfl
@[simp]theorem ZvW(i k x):shE Z (.dget i k x)=Aa:=rfl
@[simp]theorem ZxU(a b):shE Z (.fld a b)=Aa:=rfl
@[simp]theorem ZvT:El Z .nil=Aa:=rfl
@[simp]theorem dN(e es):El Z (.cons e es)=(shE Z e&&El Z es):=rfl
end
@[simp]theorem ZrU(Z:Rho):EF [] [] Z=Ab Z:=rfl
@[simp]theorem ZoZ(t ts d ds)(Z:Rho):EF (t::ts) (d::ds) Z=EF ts ds (Z.set t (Ab (d,Ad))):=rfl
@[simp]theorem Zvf(ts ds)(Z:Rho):NI ts (.lst ds) Z=match EF ts ds Z with
  |some Z'=>.ok Z'
  |none=>.bad:=rfl
@[simp]theorem Zve(ts ds)(Z:Rho):NI ts (.tup ds) Z=FH ts (.tup ds) Z:=rfl
@[simp]theorem SR(ts ds)(Z:Rho):FH ts (.tup ds) Z=match EF ts ds Z with
  |some Z'=>.ok Z'
  |none=>.bad:=rfl
@[simp]theorem ZwR{β:Type}(c:Prop)[F5 c](a b:R α)(f:α->R β):(if c then a else b).bind f=if c then a.bind f else b.bind f:=by split<;>rfl
@[simp]theorem ZBG(Z:Rho)(c:Prop)[F5 c](a b:R α)(f:α->O):O.of Z (if c then a else b) f=if c then O.of Z a f else O.of Z b f:=by split<;>rfl
@[simp]theorem Zza{β:Type}(Z:Rho)(a:R α)(g:α->R β)(f:β->O):O.of Z (a.bind g) f=O.of Z a λx=>O.of Z (g x) f:=by cases a<;>rfl
@[simp]theorem ZxZ(c:Prop)[F5 c](a b:O)(f:Rho->O):O.seq (if c then a else b) f=if c then a.seq f else b.seq f:=by split<;>rfl
@[simp]theorem Zvy(c:Prop)[F5 c](a b:O)(f:Rho->O):O.turn (if c then a else b) f=if c then a.turn f else b.turn f:=by split<;>rfl
@[simp]theorem ZAQ(fr:Ai)(c:Prop)[F5 c](a b:O):O.ans fr (if c then a else b)=if c then a.ans fr else b.ans fr:=by split<;>rfl
@[simp]theorem Zv0(Z f):O.seq (.next Z) f=f Z:=rfl
@[simp]theorem ZxY(d b f):O.seq (.ret d b) f=.ret d b:=rfl
@[simp]theorem Zx1(Z f):O.seq (.brk Z) f=.brk Z:=rfl
@[simp]theorem Zv1(Z f):O.seq (.cont Z) f=.cont Z:=rfl
@[simp]theorem Zx0(x Z f):O.seq (.exn x Z) f=.exn x Z:=rfl
@[simp]theorem Zx2(f):O.seq .bad f=.bad:=rfl
@[simp]theorem Zsj(Z f):O.turn (.next Z) f=f Z:=rfl
@[simp]theorem Zvx(d b f):O.turn (.ret d b) f=.ret d b:=rfl
@[simp]theorem ZvA(Z f):O.turn (.brk Z) f=.next Z:=rfl
@[simp]theorem Zsk(Z f):O.turn (.cont Z) f=f Z:=rfl
@[simp]theorem Zvz(x Z f):O.turn (.exn x Z) f=.exn x Z:=rfl
@[simp]theorem ZvB(f):O.turn .bad f=.bad:=rfl
@[simp]theorem ZwT(Z):O.ans Ad (.next Z)=.ok .non:=rfl
@[simp]theorem ZAP(d b):O.ans Ad (.ret d b)=.ok d:=rfl
@[simp]theorem ZwS(d b):O.ans Aa (.ret d b)=if (!b&&isL d)=Aa then .bad else .ok d:=rfl
@[simp]theorem ZzI(d):isL (.lst d)=Aa:=rfl
@[simp]theorem ZzH(d):isL (.tup d)=d.any HX:=rfl
@[simp]theorem ZzJ(d):isL (.int d)=Ad:=rfl
@[simp]theorem ZAR(fr x Z):O.ans fr (.exn x Z)=.exn x:=rfl
@[simp]theorem ZAS(fr):O.ans fr .bad=.bad:=rfl
@[simp]theorem ZCj(i j:Ae):CD .Add (.int i) (.int j)=.ok (.int (i+j)):=rfl
@[simp]theorem ZBk(i j:Ae):CD .Sub (.int i) (.int j)=.ok (.int (i-j)):=rfl
@[simp]theorem tW(i j:Ae):CD .Mult (.int i) (.int j)=if (D7 i j||G9 i j)=Aa then .ok (.int (i*j)) else .bad:=rfl
@[simp]theorem oD(i j:Ae):CD .FloorDiv (.int i) (.int j)=if 0<j/\j<1073741824 then .ok (.int (i/j)) else .bad:=rfl
@[simp]theorem sS(i j:Ae):CD .Mod (.int i) (.int j)=if 0<j then .ok (.int (i%j)) else .bad:=rfl
@[simp]theorem sY(i j:Ae):CD .Pow (.int i) (.int j)=if (0<=j/\j<=1000000)/\(-(18446744073709551616:Ae)<i/\i<18446744073709551616) then .ok (.int (i ^ j.toNat)) else .bad:=rfl
@[simp]theorem VC(x y:Ak):CD .Add (.str x) (.str y)=if BY (x.length+y.length)=Aa then .ok (.str (x++y)) else .bad:=rfl
@[simp]theorem VD(x y:Ac D):CD .Add (.lst x) (.lst y)=if BY (x.length+y.length)=Aa then .ok (.lst (x++y)) else .bad:=rfl
@[simp]theorem VB(x y:Ac D):CD .Add (.tup x) (.tup y)=if (!x.isEmpty&&BY (x.length+y.length))=Aa then .ok (.tup (x++y)) else .bad:=rfl
@[simp]theorem ZCO(i:Ae):unD .USub (.int i)=.ok (.int (-i)):=rfl
@[simp]theorem ZY(x y:D):BJ .Eq x y=if (flD 5 x&&flD 5 y)=Aa then .ok (.bl (eqD x y)) else .bad:=rfl
@[simp]theorem bp(x y:D):BJ .NotEq x y=if (flD 5 x&&flD 5 y)=Aa then .ok (.bl (!eqD x y)) else .bad:=rfl
@[simp]theorem ZCP(i j:Ae):BJ .Lt (.int i) (.int j)=.ok (.bl (decide (i<j))):=rfl
@[simp]theorem ZCS(i j:Ae):BJ .LtE (.int i) (.int j)=.ok (.bl (decide (i<=j))):=rfl
@[simp]theorem ZC3(i j:Ae):BJ .Gt (.int i) (.int j)=.ok (.bl (decide (j<i))):=rfl
@[simp]theorem ZC4(i j:Ae):BJ .GtE (.int i) (.int j)=.ok (.bl (decide (j<=i))):=rfl
@[simp]theorem aS(x:D)(ys:Ac D):BJ .In x (.lst ys)=if (flD 5 x&&ys.all (flD 5))=Aa then .ok (.bl (ys.any λy=>eqD y x)) else .bad:=rfl
@[simp]theorem aR(x:D)(ys:Ac D):BJ .In x (.tup ys)=if (flD 5 x&&ys.all (flD 5))=Aa then .ok (.bl (ys.any λy=>eqD y x)) else .bad:=rfl
@[simp]theorem bj(x:D)(ys:Ac D):BJ .NotIn x (.lst ys)=if (flD 5 x&&ys.all (flD 5))=Aa then .ok (.bl (!ys.any λy=>eqD y x)) else .bad:=rfl
@[simp]theorem bh(x:D)(ys:Ac D):BJ .NotIn x (.tup ys)=if (flD 5 x&&ys.all (flD 5))=Aa then .ok (.bl (!ys.any λy=>eqD y x)) else .bad:=rfl
@[simp]theorem ZBV:BJ .Is .non .non=.ok (.bl Aa):=rfl
@[simp]theorem ZBX(i):BJ .Is (.int i) .non=.ok (.bl Ad):=rfl
@[simp]theorem ZBU(i):BJ .Is (.tup i) .non=.ok (.bl Ad):=rfl
@[simp]theorem ZBW(i):BJ .Is (.lst i) .non=.ok (.bl Ad):=rfl
@[simp]theorem ZCU(a b):BJ .Is (.bl a) (.bl b)=.ok (.bl (a==b)):=rfl
@[simp]theorem ZBS(a b):BJ .IsNot (.bl a) (.bl b)=.ok (.bl (!(a==b))):=rfl
@[simp]theorem Zzw:BJ .IsNot .non .non=.ok (.bl Ad):=rfl
@[simp]theorem Zzy(i):BJ .IsNot (.int i) .non=.ok (.bl Aa):=rfl
@[simp]theorem Zzv(i):BJ .IsNot (.tup i) .non=.ok (.bl Aa):=rfl
@[simp]theorem Zzx(i):BJ .IsNot (.lst i) .non=.ok (.bl Aa):=rfl
@[simp]theorem ZAs(i j:Ae):eqD (.int i) (.int j)=(i==j):=rfl
@[simp]theorem ZCd(i j:Ai):eqD (.bl i) (.bl j)=(i==j):=rfl
@[simp]theorem ZAp(i j:Ak):eqD (.str i) (.str j)=(i==j):=rfl
@[simp]theorem ZAo(i j:Ac D):eqD (.tup i) (.tup j)=eqDs i j:=rfl
@[simp]theorem ZAr(i j:Ac D):eqD (.lst i) (.lst j)=eqDs i j:=rfl
@[simp]theorem ZAq:eqD .non .non=Aa:=rfl
@[simp]theorem ZqQ(i):eqD .non (.int i)=Ad:=rfl
@[simp]theorem ZqR(i):eqD (.int i) .non=Ad:=rfl
@[simp]theorem ZwK:eqDs [] []=Aa:=rfl
@[simp]theorem Pf(x y:D)(xs ys:Ac D):eqDs (x::xs) (y::ys)=(eqD x y&&eqDs xs ys):=rfl
@[simp]theorem ZzW(n)(i:Ae):flD n (.int i)=Aa:=by cases n<;>rfl
@[simp]theorem ZB6(n)(i:Ai):flD n (.bl i)=Aa:=by cases n<;>rfl
@[simp]theorem ZzU(n)(i:Ak):flD n (.str i)=Aa:=by cases n<;>rfl
@[simp]theorem ZzV(n):flD n .non=Aa:=by cases n<;>rfl
@[simp]theorem Zwh(i):flD 5 (.tup i)=i.all (flD 4):=rfl
@[simp]theorem Zwm(i):flD 5 (.lst i)=i.all (flD 4):=rfl
@[simp]theorem Zwi(i):flD 4 (.tup i)=i.all (flD 3):=rfl
@[simp]theorem Zwn(i):flD 4 (.lst i)=i.all (flD 3):=rfl
@[simp]theorem Zwj(i):flD 3 (.tup i)=i.all (flD 2):=rfl
@[simp]theorem Zwo(i):flD 3 (.lst i)=i.all (flD 2):=rfl
@[simp]theorem Zwk(i):flD 2 (.tup i)=i.all (flD 1):=rfl
@[simp]theorem Zwp(i):flD 2 (.lst i)=i.all (flD 1):=rfl
@[simp]theorem Zwl(i):flD 1 (.tup i)=i.all (flD 0):=rfl
@[simp]theorem Zwq(i):flD 1 (.lst i)=i.all (flD 0):=rfl
@[simp]theorem Zw9(b):BE (.bl b)=.ok b:=rfl
@[simp]theorem ZvF(i):BE (.int i)=.ok (i != 0):=rfl
@[simp]theorem ZvE(i):BE (.lst i)=.ok (!i.isEmpty):=rfl
@[simp]theorem ZvC(i):BE (.tup i)=.ok (!i.isEmpty):=rfl
@[simp]theorem ZvD:BE .non=.ok Ad:=rfl
@[simp]theorem Zxa(b):Gv (.bl b)=.ok b:=rfl
@[simp]theorem ZvH(i):Gv (.int i)=.ok (i != 0):=rfl
@[simp]theorem ZvG:Gv .non=.ok Ad:=rfl
@[simp]theorem Zvn:E3 []=.ok Aa:=rfl
@[simp]theorem SV(x r):E3 (x::r)=(Gv x).bind λb=>(E3 r).bind λc=>.ok (b&&c):=rfl
@[simp]theorem Zvl:Jn []=.ok Ad:=rfl
@[simp]theorem Zr9(x r):Jn (x::r)=(Gv x).bind λb=>(Jn r).bind λc=>.ok (b||c):=rfl
@[simp]theorem ZAB(b)(d):Ha b (.ok d)=.ok d:=by cases b<;>rfl
@[simp]theorem ZwM(b):Ha b .bad=.bad:=by cases b<;>rfl
@[simp]theorem ZwL(x):Ha Aa (.exn x)=.exn x:=rfl
@[simp]theorem Zr5(r):Ha Ad r=noX r:=rfl
@[simp]theorem Zzd(a:α):noX (.ok a)=.ok a:=rfl
@[simp]theorem Zzf:noX (.bad:R α)=.bad:=rfl
@[simp]theorem Zze(x):noX (.exn x:R α)=.bad:=rfl
@[simp]theorem ZAN(b):DE (.bl b)=.ok b:=rfl
@[simp]theorem Pa(b):E2 (.int b)=.ok b:=rfl
@[simp]theorem Tj(b):Lp (.lst b)=.ok b:=rfl
@[simp]theorem Zvh(b):Co (.lst b)=.ok b:=rfl
@[simp]theorem Zvg(b):Co (.tup b)=.ok b:=rfl
@[simp]theorem ay(xs i):EH (.lst xs) (.int i)=Dx xs i:=rfl
@[simp]theorem ax(xs i):EH (.tup xs) (.int i)=Dx xs i:=rfl
@[simp]theorem ZCR(xs):biD .len [.lst xs]=.ok (.int xs.length):=rfl
@[simp]theorem ZCQ(xs):biD .len [.tup xs]=.ok (.int xs.length):=rfl
@[simp]theorem ZDi(i):biD .abs [.int i]=.ok (.int (if i<0 then -i else i)):=rfl
@[simp]theorem ZBL(i j):biD .max [.int i,.int j]=.ok (.int (if i<j then j else i)):=rfl
@[simp]theorem ZBJ(i j):biD .min [.int i,.int j]=.ok (.int (if j<i then j else i)):=rfl
@[simp]theorem ZCW(i):biD .int [.int i]=.ok (.int i):=rfl
@[simp]theorem ZCX(i):biD .int [.bl i]=.ok (.int (b2i i)):=rfl
@[simp]theorem ZBQ(i):biD .list [.lst i]=.ok (.lst i):=rfl
@[simp]theorem ZBP(i):biD .list [.tup i]=.ok (.lst i):=rfl
@[simp]theorem Zw8(i):biD .tuple [.lst i]=.ok (.tup i):=rfl
@[simp]theorem Zw7(i):biD .tuple [.tup i]=.ok (.tup i):=rfl
@[simp]theorem ZW(i):biD .all [.lst i]=(E3 i).bind λb=>.ok (.bl b):=rfl
@[simp]theorem ZDg(i):biD .any [.lst i]=(Jn i).bind λb=>.ok (.bl b):=rfl
@[simp]theorem ZDf(i):biD .any [.tup i]=(Jn i).bind λb=>.ok (.bl b):=rfl
@[simp]theorem ZCF(i):biD .sum [.lst i]=(IG 0 i).bind λb=>.ok (.int b):=rfl
@[simp]theorem ZCE(i):biD .sum [.tup i]=(IG 0 i).bind λb=>.ok (.int b):=rfl
@[simp]theorem ZvP(i):biD .sorted [.lst i]=(UT i).bind λb=>.ok (.lst b):=rfl
@[simp]theorem ZCG(xs k):biD .stp [.lst xs,.int k]=.ok (.lst (R5 k.toNat xs)):=rfl
@[simp]theorem ZCK(xs):biD .rvs [.lst xs]=.ok (.lst xs.reverse):=rfl
@[simp]theorem ZBN(xs):biD .lset [.lst xs]=Wz xs:=rfl
@[simp]theorem ZBe(x y):biD .tmin [x,y]=mmD Ad x y:=rfl
@[simp]theorem QW(x y):biD .tlt [x,y]=Gw x y:=rfl
@[simp]theorem ZBf(x y):biD .tmax [x,y]=mmD Aa x y:=rfl
@[simp]theorem ZAC(xs x):biD .count [.lst xs,x]=if (flD 5 x&&xs.all (flD 5))=Aa then .ok (.int ((xs.filter λy=>eqD y x).length:Ag)) else .bad:=rfl
@[simp]theorem aK(xs lo hi):slD (.tup xs) lo hi=if (GU xs.length 0 lo==0&&GU xs.length xs.length hi==xs.length)=Aa then .bad else .ok (.tup (Lu xs lo hi)):=rfl
@[simp]theorem ZDr(xs lo hi):slD (.lst xs) lo hi=.ok (.lst (Lu xs lo hi)):=rfl
@[simp]theorem ZxH(d):slE .non d=.ok Af:=rfl
@[simp]theorem ZxI(k i):slE (.int k) (.int i)=.ok (Ab i):=rfl
@[simp]theorem ZxG(k i):slE (.var k) (.int i)=.ok (Ab i):=rfl
@[simp]theorem ZxJ(op a b i):slE (.bin op a b) (.int i)=.ok (Ab i):=rfl
@[simp]theorem ZBn(op a i):slE (.un op a) (.int i)=.ok (Ab i):=rfl
@[simp]theorem ZBo(b as i):slE (.bi b as) (.int i)=.ok (Ab i):=rfl
@[simp]theorem ZzB(up ks):EG up ks .non=if ks.any Ek=Aa then .bad else .ok (.bl (ks.any λk=>kiD up k .non)):=rfl
@[simp]theorem ZBT(up ks b):EG up ks (.bl b)=if ks.any Ek=Aa then .bad else .ok (.bl (ks.any λk=>kiD up k (.bl b))):=rfl
@[simp]theorem ZzD(up ks b):EG up ks (.int b)=if ks.any Ek=Aa then .bad else .ok (.bl (ks.any λk=>kiD up k (.int b))):=rfl
@[simp]theorem ZzA(up ks b):EG up ks (.str b)=if ks.any Ek=Aa then .bad else .ok (.bl (ks.any λk=>kiD up k (.str b))):=rfl
@[simp]theorem Zzz(up ks b):EG up ks (.tup b)=if ks.any Ek=Aa then .bad else .ok (.bl (ks.any λk=>kiD up k (.tup b))):=rfl
@[simp]theorem ZzC(up ks b):EG up ks (.lst b)=if ks.any Ek=Aa then .bad else .ok (.bl (ks.any λk=>kiD up k (.lst b))):=rfl
@[simp]theorem ZzE(up ks c f):EG up ks (.exc c f)=if ks.all Ek=Aa then .ok (.bl (ks.any λk=>kiD up k (.exc c f))) else .bad:=rfl
@[simp]theorem ZwP(c):Ek (.cls c)=Aa:=rfl
@[simp]theorem ZuO:Ek .verr=Aa:=rfl
@[simp]theorem ZwO:Ek .int=Ad:=rfl
@[simp]theorem ZuQ:Ek .bool=Ad:=rfl
@[simp]theorem ZwN:Ek .str=Ad:=rfl
@[simp]theorem ZuP:Ek .list=Ad:=rfl
@[simp]theorem Zr7:Ek .tuple=Ad:=rfl
@[simp]theorem Zr1(up i):kiD up .int (.int i)=Aa:=rfl
@[simp]theorem Zr0(up):kiD up .int .non=Ad:=rfl
@[simp]theorem Zqq(up i):kiD up .bool (.int i)=Ad:=rfl
@[simp]theorem ZrZ(up i):kiD up .int (.tup i)=Ad:=rfl
@[simp]theorem Zr3(up i):kiD up .bool (.bl i)=Aa:=rfl
@[simp]theorem Zqp(up):kiD up .bool .non=Ad:=rfl
@[simp]theorem Zqo(up i):kiD up .list (.lst i)=Aa:=rfl
@[simp]theorem ZnD(up i):kiD up .tuple (.tup i)=Aa:=rfl
@[simp]theorem ZnE(up):kiD up .tuple .non=Ad:=rfl
@[simp]theorem Zr2(up c k f):kiD up (.cls c) (.exc k f)=(up k).contains c:=rfl
@[simp]theorem Zqn(up k f):kiD up .verr (.exc k f)=Aa:=rfl
theorem hG(xs:Ac D)(k:Ag)(h:k<xs.length):Dx xs (k:Ae)=.ok (xs[k]):=by
 unfold Dx plD;have h1:(0:Ae)<=k:=Int.natCast_nonneg k;have h2:(k:Ae)<(xs.length:Ag):=by omega
 rw[Ax h1,Ax h2];simp[h]
theorem Pv{xs:Ac D}{i:Ae}{d:D}(h0:0<=i)(h:xs[i.toNat]?=Ab d):Dx xs i=.ok d:=by
 unfold Dx plD;obtain⟨h1,_⟩:=AX.mp h;rw[Ax h0,Ax (by omega)]
 dsimp only;rw[h]
section
variable(U:Gam)(Z:Rho)
@[simp]theorem Zwr:evSs U Z .nil=.next Z:=rfl
noncomputable def FM(U:Gam)(ss:Ss)(o:O):O:=o.seq λZ'=>evSs U Z' ss
@[simp]theorem K3(s ss):evSs U Z (.cons s ss)=FM U ss (evS U Z s):=rfl
@[simp]theorem nY(ss):FM U ss (.next Z)=evSs U Z ss:=rfl
@[simp]theorem ZBZ(ss d b):FM U ss (.ret d b)=.ret d b:=rfl
@[simp]theorem ZB2(ss):FM U ss (.brk Z)=.brk Z:=rfl
@[simp]theorem ZzQ(ss):FM U ss (.cont Z)=.cont Z:=rfl
@[simp]theorem ZB1(ss x):FM U ss (.exn x Z)=.exn x Z:=rfl
@[simp]theorem ZB3(ss):FM U ss .bad=.bad:=rfl
@[simp]theorem ZB0(ss)(c:Prop)[F5 c](a b:O):FM U ss (if c then a else b)=if c then FM U ss a else FM U ss b:=by split<;>rfl
@[simp]theorem wG(o:O):FM U .nil o=o:=by cases o<;>rfl
noncomputable def AR(U:Gam)(t:Ag)(body:Ss):D->Rho->O:=λx Z'=>evSs U (Z'.set t (Ab (x,Ad))) body
noncomputable def whC(U:Gam)(c:E):Rho->R Ai:=λZ'=>(top Z' c (evE U Z' c)).bind BE
noncomputable def whB(U:Gam)(body:Ss):Rho->O:=λZ'=>evSs U Z' body
noncomputable def RI(U:Gam)(t:Ag)(body:Ss)(Z:Rho)(r:R (Ac D)):O:=O.of Z r λxs=>Bz (AR U t body) xs Z
@[simp]theorem Qk(t body xs):RI U t body Z (.ok xs)=Bz (AR U t body) xs Z:=rfl
@[simp]theorem Zwv:evS U Z .pass=.next Z:=rfl
@[simp]theorem Zz5(i e):evS U Z (.asg i Ad e)=O.of Z (evE U Z e) λd=>.next (Z.set i (Ab (d,Ad))):=rfl
@[simp]theorem Zww(e):evS U Z (.expr e)=O.of Z (evE U Z e) λ_=>.next Z:=rfl
@[simp]theorem Vd(e):evS U Z (.ret e)=O.of Z (top Z e (evE U Z e)) λd=>.ret d (Ce U e&&Hz d||(match e with | .var i=>(match Z[i]? with|some (Ab (_,o))=>o|_=>Ad)|_=>Ad)):=rfl
@[simp]theorem Zwb(d):HX (.tup d)=Ad:=rfl
@[simp]theorem Zwf(d):HX (.int d)=Ad:=rfl
@[simp]theorem Zwc(d):HX (.str d)=Ad:=rfl
@[simp]theorem Zwe(d):HX (.lst d)=Aa:=rfl
@[simp]theorem Zwd:HX .non=Ad:=rfl
@[simp]theorem Zv8:Hz .non=Aa:=rfl
@[simp]theorem Zzc(b):Hz (.bl b)=Aa:=rfl
@[simp]theorem Zwa(i):Hz (.int i)=Aa:=rfl
@[simp]theorem Zv9(ds):Hz (.lst ds)=Aa:=rfl
@[simp]theorem Zv7(ds):Hz (.tup ds)=Ad:=rfl
theorem M9(es):evS U Z (.retT es)=O.of Z (noX (evP U Z es)) λxs=>if xs.all IE=Aa then .ret (.tup (xs.map (·.1))) Aa else .bad:=rfl
theorem Nh(ts f as pre c a b k e):evS U Z (.blk ts f as pre c a b k e)=if (U.fr f&&El Z as)=Aa then Kl ts (evE U Z (.call f as)) k (λZ=>evSs U Z pre) (λZ=>evSs U Z a) (λZ=>evSs U Z b) (λZ=>(top Z c (evE U Z c)).bind BE) (λZ=>evE U Z e) Z else .bad:=rfl
@[simp]theorem Zwt:evS U Z .retN=.ret .non Ad:=rfl
@[simp]theorem Zz0(c a b):evS U Z (.ife c a b)=O.of Z ((top Z c (evE U Z c)).bind BE) λk=>if k=Aa then evSs U Z a else evSs U Z b:=rfl
@[simp]theorem Pw(t it body):evS U Z (.fors t it body)=RI U t body Z (FN U Z it):=rfl
noncomputable def Ep(U:Gam)(ts:Ac Ag)(body:Ss):D->Rho->O:=λx Z'=>O.of Z' (FH ts x Z') λZ''=>evSs U Z'' body
noncomputable def WT(U:Gam)(ts:Ac Ag)(body:Ss)(Z:Rho)(r:R (Ac D)):O:=O.of Z r λxs=>Bz (Ep U ts body) xs Z
@[simp]theorem UC(t body xs):WT U t body Z (.ok xs)=Bz (Ep U t body) xs Z:=rfl
@[simp]theorem Ua(t it body):evS U Z (.forT t it body)=WT U t body Z (FN U Z it):=rfl
@[simp]theorem Zwz(ts e):evS U Z (.asgT ts e)=O.of Z (evE U Z e) λd=>O.of Z (NI ts d Z) λZ'=>.next Z':=rfl
theorem iA(i e):evS U Z (.asg i Aa e)=O.of Z (evE U Z e) λd=>if Ce U e=Aa then (match d with
      |.lst xs=>.next (Z.set i (Ab (.lst xs,Aa)))
      | _=>.bad) else .bad:=rfl
noncomputable def setF(Z:Rho)(i:Ag):D->O
 |.lst xs=>.next (Z.set i (Ab (.lst xs,Aa)))
 |_=>.bad
@[simp]theorem ZBw(i xs):setF Z i (.lst xs)=.next (Z.set i (Ab (.lst xs,Aa))):=rfl
@[simp]theorem S6(i e):evS U Z (.asg i Aa e)=O.of Z (evE U Z e) λd=>if Ce U e=Aa then setF Z i d else .bad:=by
 rw[iA]
 congr 1
@[simp]theorem Zz6(i e):evS U Z (.app i e)=O.of Z (CC Z i) λxs=>O.of Z (evE U Z e) λd=>if BY (xs.length+1)=Aa then .next (Z.set i (Ab (.lst (xs++[d]),Aa))) else .bad:=rfl
@[simp]theorem oG(i e):evS U Z (.ext i e)=O.of Z (CC Z i) λxs=>O.of Z (evE U Z e) λd=>O.of Z (Lp d) λys=>if BY (xs.length+ys.length)=Aa then .next (Z.set i (Ab (.lst (xs++ys),Aa))) else .bad:=rfl
@[simp]theorem Zwx(i k e):evS U Z (.dput i k e)=O.of Z (evE U Z e) λd=>O.of Z (GR Z i) λxs=>O.of Z ((top Z k (evE U Z k)).bind E1) λj=>if BY (xs.length+1)=Aa then .next (Z.set i (Ab (.dic (F2 xs j d),Aa))) else .bad:=rfl
@[simp]theorem Zz1(i k e):evS U Z (.dsd i k e)=O.of Z (GR Z i) λxs=>O.of Z ((top Z k (evE U Z k)).bind E1) λj=>O.of Z (evE U Z e) λd=>if BY (xs.length+1)=Aa then .next (Z.set i (Ab (.dic (if (xs.any λp=>p.1==j)=Aa then xs else F2 xs j d),Aa))) else .bad:=rfl
@[simp]theorem Zz2(i):evS U Z (.dnw i)=.next (Z.set i (Ab (.dic [],Aa))):=rfl
@[simp]theorem ZzZ(i):evS U Z (.rev i)=O.of Z (CC Z i) λxs=>.next (Z.set i (Ab (.lst xs.reverse,Aa))):=rfl
@[simp]theorem Zz3(i):evS U Z (.clr i)=O.of Z (CC Z i) λ_=>.next (Z.set i (Ab (.lst [],Aa))):=rfl
theorem Ql(i k e):evS U Z (.put i k e)=O.of Z (evE U Z e) λd=>O.of Z (CC Z i) λxs=>O.of Z ((top Z k (evE U Z k)).bind E2) λj=>match plD xs.length j with
      |some n=>.next (Z.set i (Ab (.lst (xs.set n d),Aa)))
      |none=>.bad:=rfl
@[simp]theorem hZ(body c x h):evS U Z (.tryx body c x h)=match evSs U Z body with
      | .exn y Z'=>if (U.up y.c).contains c=Aa then (match evSs U (Z'.set x (Ab (.exc y.c y.fs,Ad))) h with
          |.next Z''=>.next (Z''.set x Af)
          |.ret d f=>.ret d f
          | _=>.bad) else .bad
      |o=>o:=rfl
@[simp]theorem Zws(body c x h c' h' els):evS U Z (.try2 body c x h c' h' els)=match evSs U Z body with
      |.exn y Z'=>if (U.up y.c).contains c=Aa then hdO x y Z' (λr=>evSs U r h) else if (U.up y.c).contains c'=Aa then hdO x y Z' (λr=>evSs U r h') else .bad
      |.next Z'=>evSs U Z' els
      |o=>o:=rfl
@[simp]theorem ZzY(c body):evS U Z (.whl c body)=Ro (whC U c) (whB U body) WS Z:=rfl
@[simp]theorem Zwu(c as):evS U Z (.rais c as)=O.of Z (noX (evA U Z as)) λxs=>O.of Z (U.xn c xs) λx=>.exn x Z:=rfl
@[simp]theorem Zz4:evS U Z .brk=.brk Z:=rfl
@[simp]theorem Zwy:evS U Z .cont=.cont Z:=rfl
end
end Ov
namespace Ov
open PySem
theorem UD{body:D->Rho->O}(P:Rho->Prop):∀(xs:Ac D)(Z:Rho),P Z->(∀ x∈xs,∀ Z,P Z->∃ Z',body x Z=.next Z'/\P Z')->∃ Z',Bz body xs Z=.next Z'/\P Z'
 |[],Z,h,_=>⟨Z,rfl,h⟩
 |x::xs,Z,h,k=>by
  obtain⟨Z1,e1,h1⟩:=k x AA Z h;obtain⟨Z2,e2,h2⟩:=UD P xs Z1 h1 λy hy=>k y (Aw _ hy)
  exact⟨Z2,by show (body x Z).turn _=_;rw[e1];exact e2,h2⟩
theorem O6{body:D->Rho->O}(P:Ag->Rho->Prop):∀(xs:Ac D)(n:Ag)(Z:Rho),P n Z->(∀ i x,xs[i]?=Ab x->∀ Z,P (n+i) Z->∃ Z',body x Z=.next Z'/\P (n+i+1) Z')->∃ Z',Bz body xs Z=.next Z'/\P (n+xs.length) Z'
 |[],n,Z,h,_=>⟨Z,rfl,h⟩
 |x::xs,n,Z,h,k=>by
  obtain⟨Z1,e1,h1⟩:=k 0 x rfl Z h;obtain⟨Z2,e2,h2⟩:=O6 P xs (n+1) Z1 h1 λi y hy Z hρ=>by
   have:=k (i+1) y (by simpa using hy) Z (by rw[show n+(i+1)=n+1+i by omega];exact hρ)
   rw[show n+(i+1)=n+1+i by omega]at this
   exact this
  exact⟨Z2,by show (body x Z).turn _=_;rw[e1];exact e2,by rw[show n+(x::xs).length=n+1+xs.length by simp;omega];exact h2⟩
theorem iT(h:x∈Ci lo n):∃ k:Ag,k<n/\x=.int (lo+(k:Ae)):=by
 obtain⟨k,hk,e⟩:=Bk.mp h;exact⟨k,Bb.mp hk,e.symm⟩
theorem LV(lo:Ae)(n:Ag):(Ci lo n).length=n:=by simp[Ci]
theorem Pu{i:Ag}(h:(Ci lo n)[i]?=Ab x):i<n/\x=.int (lo+(i:Ae)):=by
 have hl:=(AX.mp h).1;rw[LV]at hl;unfold Ci at h;rw[Dr,List.getElem?_range hl]at h;cases h;exact⟨hl,rfl⟩
noncomputable def Ss.take:Ag->Ss->Ss
 |0,_=>.nil
 |_,.nil=>.nil
 |n+1,.cons s ss=>.cons s (ss.take n)
noncomputable def Ss.drop:Ag->Ss->Ss
 |0,ss=>ss
 |_,.nil=>.nil
 |n+1,.cons _ ss=>ss.drop n
theorem UI(U:Gam):∀(n:Ag)(ss:Ss)(Z:Rho),evSs U Z ss=FM U (ss.drop n) (evSs U Z (ss.take n))
 |0,_,_=>rfl
 |_+1,.nil,_=>rfl
 |n+1,.cons s ss,Z=>by
  show (evS U Z s).seq (λZ'=>evSs U Z' ss)=FM U (ss.drop n) ((evS U Z s).seq λZ'=>evSs U Z' (ss.take n))
  cases evS U Z s with
  |next Z'=>exact UI U n ss Z'
  |_=>rfl
end Ov
end
section
namespace Ov
end Ov
end
section
namespace OvC
open PySem Ov PyProof.Rows
noncomputable abbrev scr(ns:Ac Ae):D:=.lst (ns.map .int)
noncomputable abbrev sh(d:D):Sl:=Ab (d,Ad)
noncomputable abbrev si(i:Ae):Sl:=Ab (.int i,Ad)
def P4(p:Ae):Prop:=p=3\/p=5\/p=7\/p=11
theorem P4.pos{p}(h:P4 p):0<p:=by rcases h with rfl|rfl|rfl|rfl<;>decide
theorem P4.lo{p}(h:P4 p):3<=p:=by rcases h with rfl|rfl|rfl|rfl<;>decide
theorem P4.hi{p}(h:P4 p):p<=11:=by rcases h with rfl|rfl|rfl|rfl<;>decide
theorem Ix{i j:Ae}(h0:-18446744073709551616<i)(h1:i<18446744073709551616):D7 i j=Aa:=by simp[D7];left;exact⟨h0,h1⟩
theorem Qf{i j:Ae}(h0:-18446744073709551616<j)(h1:j<18446744073709551616):D7 i j=Aa:=by simp[D7];right;exact⟨h0,h1⟩
noncomputable def QB:Df:=⟨2,Ad,(.cons (.ret (.bin .Mod (.var 1) (.var 0))) .nil)⟩
def Ld(U:Gam):Prop:=∀ p n:Ae,0<p->U.F 1 [.int p,.int n]=.ok (.int (n%p))
theorem uG(U:Gam)(p n:Ae)(h:0<p):QB.run U [.int p,.int n]=.ok (.int (n%p)):=by simp[QB,Df.run,BD,h]
end OvC
end
namespace Ov
open PySem PySem.Spec PyProof.Rows L2
variable{A A' B:Ah->Prop}{H H' H1 H0:Hp}{a ka b l q:Ah}{xs:Ac V}{k' k:Ac Ae}{v:V}{d:D}{o:HO}{K:Fg}{Z:Rho}{Y:L2.St}{i n j:Ag}{Rp Rq:Hp->V->D->Prop}{r:R D}{Q:VK}{X:Cx}{e c tg iter elt:Am}{x:Ex}{g:D->D->R D}{op:CJ}{h' h h2:AF}{ys:Ac (Ac Ae×Ah×Aj)}{y u:Aj}{pos p pos' p2 pos2 spos tpos:AJ}{pI:Pn}{s:Aq}{items2 its items:A7 Aj}{its2:Ac Aj}{es ifs:Ac Am}{fs fi:Rho->R (Ac D)}{Q':Ao Ae->Hp->Prop}{T:CO}{f fc:Rho->R Ai}{α:Type}{Fz:Ah->HO->Prop}{D':Ends}{as:D->Rho->R Rho}{up:Ag->Ac Ag}{prog P:AO}{w:AW}{scope:B6}{env:Ch}{cl:Ac (Ak×Ah)}{N':Ac Ak}{ts:Ac Ag}{fp:Ac Ah}{tt:TT}{te:TE}{J:It}{wi:TI}{t:Ai}{ta:TA}
abbrev ClA:=Ag->Ao Ah
variable{CL:ClA}
def KL(K:Fg)(a:Ah)(xs:Ac V):Prop:=∃(o:C9)(its:A7 Aj)(n:Ag),K.lookup a=Ab o/\o.cls=.type "list"/\o.dict=Af/\o.data=.seq its n/\its.size<=sizeLine/\A6 xs its.toList
def KT(K:Fg)(a:Ah)(xs:Ac V):Prop:=∃(o:C9)(its:A7 Aj)(n:Ag),K.lookup a=Ab o/\o.cls=.type "tuple"/\o.data=.seq its n/\its.size<=sizeLine/\A6 xs its.toList
noncomputable abbrev TK(P:AO)(w:AW):HeapKind P w (Ac Ae):=tupleKind (intKind P w)
def Gz(P:AO)(w:AW)(a:Ah)(xs:Ac (Ac Ae×Ah×Aj))(h:AF):Prop:=(a==D6)=Ad/\∃ o es ep,h.get? a=Ab o/\o.ExactDict/\o.data=.dict es ep/\es.toList=xs.map (Iq (TK P w))/\(xs.map (·.1)).Nodup
inductive ValE:Ac (Ac Ae×Ah×V)->Ac (Ac Ae×Ah×Aj)->Prop
 |nil:ValE [] []
 |cons {k:Ac Ae} {a:Ah} {v:V} {y:Aj} {xs:Ac (Ac Ae×Ah×V)} {ys:Ac (Ac Ae×Ah×Aj)}:Bu v y->ValE xs ys->ValE ((k,a,v)::xs) ((k,a,y)::ys)
def Dh(a:Ah)(xs:Ac (Ac Ae×Ah×V)):AF->Prop:=λh=>∃ ys,ValE xs ys/\∀ P w,Gz P w a ys h
def DD(K:Fg)(H:Hp)(A:Ah->Prop)(a:Ah)(k:Ac Ae):Prop:=∃ xs,(¬ A a\/KT K a xs)/\SqT K H a xs/\xs=k.map V.int
section
variable(K:Fg)(CL:ClA)(H:Hp)(A:Ah->Prop)
mutual
def Rep:V->D->Prop
 |v,.non=>v=.non
 |v,.bl b=>v=.bl b
 |v,.int i=>v=.int i
 |v,.str x=>v=.str x
 |v,.tup ds=>∃ a xs,v=.ref a/\(¬ A a\/KT K a xs)/\SqT K H a xs/\Reps xs ds
 |v,.lst ds=>∃ a xs,v=.ref a/\(¬ A a\/KL K a xs)/\SqL K H a xs/\Reps xs ds
 |v,.obj c fs=>∃ a C dx vs,v=.ref a/\¬ A a/\CL c=Ab C/\H a=Ab (.ins C dx vs)/\Repf vs fs
 |v,.dic kvs=>∃ a es,v=.ref a/\¬ A a/\H a=Ab (.ext (Dh a es))/\Repk es kvs
 |v,.exc c fs=>∃ a C φ,v=.ref a/\¬ A a/\CL c=Ab C/\H a=Ab (.ext φ)/\(∀ h,φ h->∃ o,h.get? a=Ab o/\o.cls=.ref C)/\(fs=[]\/∃ dx vs,¬ A dx/\H dx=Ab (.xd vs)/\Repf vs fs/\∀ h,φ h->∃ o,h.get? a=Ab o/\o.dict=Ab dx/\∃ us,o.data=.fields us)
def Reps:Ac V->Ac D->Prop
 |[],[]=>Hq
 |v::vs,d::ds=>Rep v d/\Reps vs ds
 |_,_=>AU
def Repf:Ac (Ak×V)->Ac (Ak×D)->Prop
 |[],[]=>Hq
 |v::vs,d::ds=>Repp v d/\Repf vs ds
 |_,_=>AU
def Repp:Ak×V->Ak×D->Prop
 |v,(n,d)=>v.1=n/\Rep v.2 d
def Repk:Ac (Ac Ae×Ah×V)->Ac (Ac Ae×D)->Prop
 |[],[]=>Hq
 |v::vs,d::ds=>Repe v d/\Repk vs ds
 |_,_=>AU
def Repe:Ac Ae×Ah×V->Ac Ae×D->Prop
 |v,(k,d)=>v.1=k/\DD K H A v.2.1 k/\Rep v.2.2 d
end
def CU(a:Ah)(o:HO)(d:D):Prop:=(∃ xs ds,o=.lst xs/\d=.lst ds/\Reps K CL H A xs ds)\/∃ es kvs,o=.ext (Dh a es)/\d=.dic kvs/\Repk K CL H A es kvs
def Cj(v:V)(d:D):Prop:=Rep K CL H A v d\/∃ a o,v=.ref a/\H a=Ab o/\CU K CL H A a o d
end
def OwK(a:Ah)(o:HO):Prop:=(∃ xs,o=.lst xs)\/∃ es,o=.ext (Dh a es)
def Kp(A:Ah->Prop)(H H':Hp):Prop:=∀ b o,H b=Ab o->¬ A b->H' b=Ab o
def AOk(H:Hp)(A:Ah->Prop):Prop:=∀ a,A a->∃ o,H a=Ab o/\OwK a o
theorem Kp.of(h:AB H H'):Kp A H H':=λb o e _=>h b o e
theorem AOk.same(h:AOk H A)(s:AB H H'):AOk H' A:=λa ha=>let ⟨xs,e,k⟩:=h a ha;⟨xs,s _ _ e,k⟩
theorem AOk.new{p:Ah}(h:AOk H A)(e:H p=Af):¬ A p:=λha=>by
 obtain⟨xs,q,_⟩:=h p ha;rw[e]at q;cases q
section
variable{K:Fg}{CL:ClA}{H H':Hp}{A B:Ah->Prop}
theorem WJ{u:HO}(k:Kp A H H')(na:¬ A a)(h:Rd H a u):Rd H' a u:=by
 rcases h with h|⟨o,h⟩
 .exact .inl (k _ _ h na)
 .exact .inr ⟨o,k _ _ h na⟩
theorem Np(k:Kp A H H')(na:¬ A a\/KL K a xs)(h:SqL K H a xs):SqL K H' a xs:=na.elim (λna=>h.imp (WJ k na) id) .inr
theorem Lf(k:Kp A H H')(na:¬ A a\/KT K a xs)(h:SqT K H a xs):SqT K H' a xs:=na.elim (λna=>h.imp (WJ k na) id) .inr
theorem DD.kp(k:Kp A H H')(h:DD K H A a k'):DD K H' A a k':=by
 obtain⟨xs,na,s,e⟩:=h;exact⟨xs,na,Lf k na s,e⟩
theorem DD.sub(k:∀ a,B a->A a)(h:DD K H A a k'):DD K H B a k':=by
 obtain⟨xs,na,s,e⟩:=h;exact⟨xs,na.imp (λna z=>na (k _ z)) id,s,e⟩
theorem DD.wide(hp:∀ a,B a->A a\/H a=Af)(h:DD K H A a k'):DD K H B a k':=by
 obtain⟨xs,na,s,e⟩:=h;refine⟨xs,?_,s,e⟩;rcases s with s|s
 .refine na.imp (λna z=>(hp _ z).elim na λe=>?_) id
  rcases s with s|⟨o,s⟩<;>rw[e]at s<;>cases s
 .exact .inr s
mutual
theorem Rep.kp(k:Kp A H H'):∀{v:V}(d:D),Rep K CL H A v d->Rep K CL H' A v d
 |_,.non,h=>h
 |_,.bl _,h=>h
 |_,.int _,h=>h
 |_,.str _,h=>h
 |_,.dic kvs,h=>by
  obtain⟨a,es,e,na,s,r⟩:=h;exact⟨a,es,e,na,k _ _ s na,Repk.kp k kvs r⟩
 |_,.tup ds,h=>by
  obtain⟨a,xs,e,na,s,r⟩:=h;exact⟨a,xs,e,na,by first|exact Lf k na s|exact Np k na s,Reps.kp k ds r⟩
 |_,.lst ds,h=>by
  obtain⟨a,xs,e,na,s,r⟩:=h;exact⟨a,xs,e,na,by first|exact Lf k na s|exact Np k na s,Reps.kp k ds r⟩
 |_,.obj c fs,h=>by
  obtain⟨a,C,dx,vs,e,na,c,s,r⟩:=h;exact⟨a,C,dx,vs,e,na,c,k _ _ s na,Repf.kp k fs r⟩
 |_,.exc c fs,h=>by
  obtain⟨a,C,φ,e,na,c,s,p,q⟩:=h;refine⟨a,C,φ,e,na,c,k _ _ s na,p,q.imp id ?_⟩;rintro⟨dx,vs,nx,s2,r,z⟩;exact⟨dx,vs,nx,k _ _ s2 nx,Repf.kp k fs r,z⟩
theorem Reps.kp(k:Kp A H H'):∀{vs:Ac V}(ds:Ac D),Reps K CL H A vs ds->Reps K CL H' A vs ds
 |[],[],h=>h
 |_::_,d::ds,h=>⟨Rep.kp k d h.1,Reps.kp k ds h.2⟩
 |[],_::_,h=>h.elim
 |_::_,[],h=>h.elim
theorem Repf.kp(k:Kp A H H'):∀{vs:Ac (Ak×V)}(ds:Ac (Ak×D)),Repf K CL H A vs ds->Repf K CL H' A vs ds
 |[],[],h=>h
 |_::_,d::ds,h=>⟨Repp.kp k d h.1,Repf.kp k ds h.2⟩
 |[],_::_,h=>h.elim
 |_::_,[],h=>h.elim
theorem Repp.kp(k:Kp A H H'):∀{v:Ak×V}(d:Ak×D),Repp K CL H A v d->Repp K CL H' A v d
 |_,(_,d),h=>⟨h.1,Rep.kp k d h.2⟩
theorem Repk.kp(k:Kp A H H'):∀{vs:Ac (Ac Ae×Ah×V)}(ds:Ac (Ac Ae×D)),Repk K CL H A vs ds->Repk K CL H' A vs ds
 |[],[],h=>h
 |_::_,d::ds,h=>⟨Repe.kp k d h.1,Repk.kp k ds h.2⟩
 |[],_::_,h=>h.elim
 |_::_,[],h=>h.elim
theorem Repe.kp(k:Kp A H H'):∀{v:Ac Ae×Ah×V}(d:Ac Ae×D),Repe K CL H A v d->Repe K CL H' A v d
 |_,(_,d),h=>⟨h.1,DD.kp k h.2.1,Rep.kp k d h.2.2⟩
end
mutual
theorem Rep.sub(k:∀ a,B a->A a):∀{v:V}(d:D),Rep K CL H A v d->Rep K CL H B v d
 |_,.non,h=>h
 |_,.bl _,h=>h
 |_,.int _,h=>h
 |_,.str _,h=>h
 |_,.dic kvs,h=>by
  obtain⟨a,es,e,na,s,r⟩:=h;exact⟨a,es,e,λz=>na (k _ z),s,Repk.sub k kvs r⟩
 |_,.tup ds,h=>by
  obtain⟨a,xs,e,na,s,r⟩:=h;exact⟨a,xs,e,na.imp (λna z=>na (k _ z)) id,s,Reps.sub k ds r⟩
 |_,.lst ds,h=>by
  obtain⟨a,xs,e,na,s,r⟩:=h;exact⟨a,xs,e,na.imp (λna z=>na (k _ z)) id,s,Reps.sub k ds r⟩
 |_,.obj c fs,h=>by
  obtain⟨a,C,dx,vs,e,na,c,s,r⟩:=h;exact⟨a,C,dx,vs,e,λz=>na (k _ z),c,s,Repf.sub k fs r⟩
 |_,.exc c fs,h=>by
  obtain⟨a,C,φ,e,na,c,s,p,q⟩:=h;refine⟨a,C,φ,e,λz=>na (k _ z),c,s,p,q.imp id ?_⟩
  rintro⟨dx,vs,nx,s2,r,z⟩;exact⟨dx,vs,λz=>nx (k _ z),s2,Repf.sub k fs r,z⟩
theorem Reps.sub(k:∀ a,B a->A a):∀{vs:Ac V}(ds:Ac D),Reps K CL H A vs ds->Reps K CL H B vs ds
 |[],[],h=>h
 |_::_,d::ds,h=>⟨Rep.sub k d h.1,Reps.sub k ds h.2⟩
 |[],_::_,h=>h.elim
 |_::_,[],h=>h.elim
theorem Repf.sub(k:∀ a,B a->A a):∀{vs:Ac (Ak×V)}(ds:Ac (Ak×D)),Repf K CL H A vs ds->Repf K CL H B vs ds
 |[],[],h=>h
 |_::_,d::ds,h=>⟨Repp.sub k d h.1,Repf.sub k ds h.2⟩
 |[],_::_,h=>h.elim
 |_::_,[],h=>h.elim
theorem Repp.sub(k:∀ a,B a->A a):∀{v:Ak×V}(d:Ak×D),Repp K CL H A v d->Repp K CL H B v d
 |_,(_,d),h=>⟨h.1,Rep.sub k d h.2⟩
theorem Repk.sub(k:∀ a,B a->A a):∀{vs:Ac (Ac Ae×Ah×V)}(ds:Ac (Ac Ae×D)),Repk K CL H A vs ds->Repk K CL H B vs ds
 |[],[],h=>h
 |_::_,d::ds,h=>⟨Repe.sub k d h.1,Repk.sub k ds h.2⟩
 |[],_::_,h=>h.elim
 |_::_,[],h=>h.elim
theorem Repe.sub(k:∀ a,B a->A a):∀{v:Ac Ae×Ah×V}(d:Ac Ae×D),Repe K CL H A v d->Repe K CL H B v d
 |_,(_,d),h=>⟨h.1,DD.sub k h.2.1,Rep.sub k d h.2.2⟩
end
mutual
theorem Rep.wide(hp:∀ a,B a->A a\/H a=Af):∀{v:V}(d:D),Rep K CL H A v d->Rep K CL H B v d
 |_,.non,h=>h
 |_,.bl _,h=>h
 |_,.int _,h=>h
 |_,.str _,h=>h
 |_,.dic kvs,h=>by
  obtain⟨a,es,e,na,s,r⟩:=h;exact⟨a,es,e,(λz=>(hp _ z).elim na λe=>by rw[e]at s;cases s),s,Repk.wide hp kvs r⟩
 |_,.tup ds,h=>by
  obtain⟨a,xs,e,na,s,r⟩:=h;refine⟨a,xs,e,?_,s,Reps.wide hp ds r⟩;rcases s with s|s
  .refine na.imp (λna z=>(hp _ z).elim na λe=>?_) id
   rcases s with s|⟨o,s⟩<;>rw[e]at s<;>cases s
  .exact .inr s
 |_,.lst ds,h=>by
  obtain⟨a,xs,e,na,s,r⟩:=h;refine⟨a,xs,e,?_,s,Reps.wide hp ds r⟩;rcases s with s|s
  .refine na.imp (λna z=>(hp _ z).elim na λe=>?_) id
   rcases s with s|⟨o,s⟩<;>rw[e]at s<;>cases s
  .exact .inr s
 |_,.obj c fs,h=>by
  obtain⟨a,C,dx,vs,e,na,c,s,r⟩:=h;exact⟨a,C,dx,vs,e,(λz=>(hp _ z).elim na λe=>by rw[e]at s;cases s),c,s,Repf.wide hp fs r⟩
 |_,.exc c fs,h=>by
  obtain⟨a,C,φ,e,na,c,s,p,q⟩:=h;refine⟨a,C,φ,e,(λz=>(hp _ z).elim na λe=>by rw[e]at s;cases s),c,s,p,q.imp id ?_⟩
  rintro⟨dx,vs,nx,s2,r,z⟩;exact⟨dx,vs,(λz=>(hp _ z).elim nx λe=>by rw[e]at s2;cases s2),s2,Repf.wide hp fs r,z⟩
theorem Reps.wide(hp:∀ a,B a->A a\/H a=Af):∀{vs:Ac V}(ds:Ac D),Reps K CL H A vs ds->Reps K CL H B vs ds
 |[],[],h=>h
 |_::_,d::ds,h=>⟨Rep.wide hp d h.1,Reps.wide hp ds h.2⟩
 |[],_::_,h=>h.elim
 |_::_,[],h=>h.elim
theorem Repf.wide(hp:∀ a,B a->A a\/H a=Af):∀{vs:Ac (Ak×V)}(ds:Ac (Ak×D)),Repf K CL H A vs ds->Repf K CL H B vs ds
 |[],[],h=>h
 |_::_,d::ds,h=>⟨Repp.wide hp d h.1,Repf.wide hp ds h.2⟩
 |[],_::_,h=>h.elim
 |_::_,[],h=>h.elim
theorem Repp.wide(hp:∀ a,B a->A a\/H a=Af):∀{v:Ak×V}(d:Ak×D),Repp K CL H A v d->Repp K CL H B v d
 |_,(_,d),h=>⟨h.1,Rep.wide hp d h.2⟩
theorem Repk.wide(hp:∀ a,B a->A a\/H a=Af):∀{vs:Ac (Ac Ae×Ah×V)}(ds:Ac (Ac Ae×D)),Repk K CL H A vs ds->Repk K CL H B vs ds
 |[],[],h=>h
 |_::_,d::ds,h=>⟨Repe.wide hp d h.1,Repk.wide hp ds h.2⟩
 |[],_::_,h=>h.elim
 |_::_,[],h=>h.elim
theorem Repe.wide(hp:∀ a,B a->A a\/H a=Af):∀{v:Ac Ae×Ah×V}(d:Ac Ae×D),Repe K CL H A v d->Repe K CL H B v d
 |_,(_,d),h=>⟨h.1,DD.wide hp h.2.1,Rep.wide hp d h.2.2⟩
end
theorem Rep.same(s:AB H H')(h:Rep K CL H A v d):Rep K CL H' A v d:=Rep.kp (Kp.of s) d h
theorem Reps.same{v:Ac V}{d:Ac D}(s:AB H H')(h:Reps K CL H A v d):Reps K CL H' A v d:=Reps.kp (Kp.of s) d h
theorem CU.map(f:∀{vs:Ac V}{ds:Ac D},Reps K CL H A vs ds->Reps K CL H' A' vs ds)(g:∀{vs:Ac (Ac Ae×Ah×V)}{ds:Ac (Ac Ae×D)},Repk K CL H A vs ds->Repk K CL H' A' vs ds)(h:CU K CL H A a o d):CU K CL H' A' a o d:=
 h.imp (λ⟨xs,ds,e1,e2,r⟩=>⟨xs,ds,e1,e2,f r⟩) λ⟨xs,ds,e1,e2,r⟩=>⟨xs,ds,e1,e2,g r⟩
theorem CU.kp{a:Ah}{o:HO}{d:D}(k:Kp A H H')(h:CU K CL H A a o d):CU K CL H' A a o d:=h.map (Reps.kp k _) (Repk.kp k _)
theorem CU.sub{a:Ah}{o:HO}{d:D}(k:∀ a,B a->A a)(h:CU K CL H A a o d):CU K CL H B a o d:=h.map (Reps.sub k _) (Repk.sub k _)
theorem CU.wide{a:Ah}{o:HO}{d:D}(k:∀ a,B a->A a\/H a=Af)(h:CU K CL H A a o d):CU K CL H B a o d:=h.map (Reps.wide k _) (Repk.wide k _)
theorem CU.same(s:AB H H')(h:CU K CL H A a o d):CU K CL H' A a o d:=h.kp (Kp.of s)
theorem CU.owk(h:CU K CL H A a o d):OwK a o:=h.imp (λ⟨xs,_,e,_⟩=>⟨xs,e⟩) λ⟨xs,_,e,_⟩=>⟨xs,e⟩
theorem CU.lst{ds:Ac D}(h:Reps K CL H A xs ds):CU K CL H A a (.lst xs) (.lst ds):=.inl ⟨xs,ds,rfl,rfl,h⟩
theorem CU.dic{xs:Ac (Ac Ae×Ah×V)}{ds:Ac (Ac Ae×D)}(h:Repk K CL H A xs ds):CU K CL H A a (.ext (Dh a xs)) (.dic ds):=.inr ⟨xs,ds,rfl,rfl,h⟩
theorem CU.lst_of{ds:Ac D}(h:CU K CL H A a o (.lst ds)):∃ xs,o=.lst xs/\Reps K CL H A xs ds:=by
 rcases h with ⟨xs,ds',e,e2,r⟩|⟨_,_,_,e,_⟩
 .cases e2;exact⟨xs,e,r⟩
 .cases e
theorem CU.dic_of{ds:Ac (Ac Ae×D)}(h:CU K CL H A a o (.dic ds)):∃ xs,o=.ext (Dh a xs)/\Repk K CL H A xs ds:=by
 rcases h with ⟨_,_,_,e,_⟩|⟨xs,ds',e,e2,r⟩
 .cases e
 .cases e2;exact⟨xs,e,r⟩
theorem Cj.same{v:V}{d:D}(s:AB H H')(h:Cj K CL H A v d):Cj K CL H' A v d:=by
 rcases h with h|⟨a,o,e,q,r⟩
 .exact .inl (h.same s)
 .exact .inr ⟨a,o,e,s _ _ q,r.same s⟩
theorem Reps.length:∀{vs:Ac V}{ds:Ac D},Reps K CL H A vs ds->vs.length=ds.length
 |[],[],_=>rfl
 |_::_,_::_,h=>congrArg (· + 1) (Reps.length h.2)
 |[],_::_,h=>h.elim
 |_::_,[],h=>h.elim
theorem Reps.append:∀{vs ws:Ac V}{ds es:Ac D},Reps K CL H A vs ds->Reps K CL H A ws es->Reps K CL H A (vs++ws) (ds++es)
 |[],_,[],_,_,h=>h
 |_::_,_,_::_,_,h,g=>⟨h.1,Reps.append h.2 g⟩
 |[],_,_::_,_,h,_=>h.elim
 |_::_,_,[],_,h,_=>h.elim
theorem Reps.get:∀{vs:Ac V}{ds:Ac D}{i:Ag}{d:D},Reps K CL H A vs ds->ds[i]?=Ab d->∃ v,vs[i]?=Ab v/\Rep K CL H A v d
 |[],[],_,_,_,e=>by simp at e
 |v::_,_::_,0,_,h,e=>by simp at e;subst e;exact⟨v,rfl,h.1⟩
 |_::_,_::_,i+1,_,h,e=>by
  obtain⟨v,q,r⟩:=Reps.get (i:=i) h.2 (by simpa using e)
  exact⟨v,by simpa using q,r⟩
 |[],_::_,_,_,h,_=>h.elim
 |_::_,[],_,_,h,_=>h.elim
theorem Reps.take:∀{vs:Ac V}{ds:Ac D}(n:Ag),Reps K CL H A vs ds->Reps K CL H A (vs.take n) (ds.take n)
 |_,_,0,_=>trivial
 |[],[],_+1,_=>trivial
 |_::_,_::_,n+1,h=>⟨h.1,Reps.take n h.2⟩
 |[],_::_,_+1,h=>h.elim
 |_::_,[],_+1,h=>h.elim
theorem Reps.drop:∀{vs:Ac V}{ds:Ac D}(n:Ag),Reps K CL H A vs ds->Reps K CL H A (vs.drop n) (ds.drop n)
 |_,_,0,h=>h
 |[],[],_+1,_=>trivial
 |_::_,_::_,n+1,h=>Reps.drop n h.2
 |[],_::_,_+1,h=>h.elim
 |_::_,[],_+1,h=>h.elim
theorem Reps.set{x:V}{e:D}(r:Rep K CL H A x e):∀{vs:Ac V}{ds:Ac D}(n:Ag),Reps K CL H A vs ds->Reps K CL H A (vs.set n x) (ds.set n e)
 |[],[],_,_=>trivial
 |_::_,_::_,0,h=>⟨r,h.2⟩
 |_::_,_::_,n+1,h=>⟨h.1,Reps.set r n h.2⟩
 |[],_::_,_,h=>h.elim
 |_::_,[],_,h=>h.elim
end
structure Good (K:Fg) (CL:ClA) (A:Ah->Prop) (Z:Rho) (Y:L2.St) (H:Hp):Prop where
 sh:∀(i:Ag)(d:D),Z[i]?=Ab (Ab (d,Ad))->∃ v,Y[i]?=Ab (Ab v)/\Rep K CL H A v d
 ow:∀(i:Ag)(d:D),Z[i]?=Ab (Ab (d,Aa))->∃ a o,Y[i]?=Ab (Ab (.ref a))/\A a/\H a=Ab o/\CU K CL H A a o d
 len:Z.length=Y.length
theorem Good.same{K:Fg}{CL:ClA}{A:Ah->Prop}{Z:Rho}{Y:L2.St}{H H':Hp}(g:Good K CL A Z Y H)(s:AB H H'):Good K CL A Z Y H':=
 ⟨λi d e=>let ⟨v,q,r⟩:=g.sh i d e;⟨v,q,r.same s⟩,λi d e=>let ⟨a,o,q,na,h,r⟩:=g.ow i d e;⟨a,o,q,na,s _ _ h,r.same s⟩,g.len⟩
theorem Good.owL(g:Good K CL A Z Y H){ds:Ac D}(e:Z[i]?=Ab (Ab (.lst ds,Aa))):∃ a xs ds',Y[i]?=Ab (Ab (.ref a))/\D.lst ds=.lst ds'/\A a/\H a=Ab (.lst xs)/\Reps K CL H A xs ds':=by
 obtain⟨a,o,q,na,h,r⟩:=g.ow i _ e;obtain⟨xs,rfl,r'⟩:=r.lst_of;exact⟨a,xs,ds,q,rfl,na,h,r'⟩
theorem Good.owK(g:Good K CL A Z Y H){ds:Ac (Ac Ae×D)}(e:Z[i]?=Ab (Ab (.dic ds,Aa))):∃ a xs,Y[i]?=Ab (Ab (.ref a))/\A a/\H a=Ab (.ext (Dh a xs))/\Repk K CL H A xs ds:=by
 obtain⟨a,o,q,na,h,r⟩:=g.ow i _ e;obtain⟨xs,rfl,r'⟩:=r.dic_of;exact⟨a,xs,q,na,h,r'⟩
abbrev XW:=Ex->Hp->Prop
variable{W:XW}
def Ba(Rp:Hp->V->D->Prop)(W:XW)(H:Hp)(r:R D)(Q:VK):Prop:=match r with
  |.ok d=>∀ v H',AB H H'->Rp H' v d->Q v H'
  |.exn x=>∀ H',AB H H'->W x H'
  |.bad=>AU
def Hv(Rp:Hp->Ac V->Ac D->Prop)(W:XW)(H:Hp)(r:R (Ac D))(Q:Ac V->Hp->Prop):Prop:=match r with
  |.ok d=>∀ v H',AB H H'->Rp H' v d->Q v H'
  |.exn x=>∀ H',AB H H'->W x H'
  |.bad=>AU
def C5(W:XW)(H:Hp)(r:R Ai)(Q:Ai->Hp->Prop):Prop:=match r with
  |.ok b=>∀ H',AB H H'->Q b H'
  |.exn x=>∀ H',AB H H'->W x H'
  |.bad=>AU
theorem Ba.same(s:AB H H')(h:Ba Rp W H r Q):Ba Rp W H' r Q:=by
 cases r with
 |ok d=>exact λv H2 s2 q=>h v H2 (s.trans s2) q
 |exn x=>exact λH2 s2=>h H2 (s.trans s2)
 |bad=>exact h
theorem C5.same{r:R Ai}{Q:Ai->Hp->Prop}(s:AB H H')(h:C5 W H r Q):C5 W H' r Q:=by
 cases r with
 |ok d=>exact λH2 s2=>h H2 (s.trans s2)
 |exn x=>exact λH2 s2=>h H2 (s.trans s2)
 |bad=>exact h
theorem Ba.bind{f:D->R D}{Q':VK}(h:Ba Rq W H (r.bind f) Q)(k:∀ d v H',r=.ok d->AB H H'->Rp H' v d->Ba Rq W H' (f d) Q->Q' v H'):Ba Rp W H r Q':=by
 cases r with
 |ok d=>exact λv H2 s2 q=>k d v H2 rfl s2 q (Ba.same s2 h)
 |exn x=>exact h
 |bad=>exact h
section
variable(X:Cx)(CL:ClA)(W:XW)
def SE(e:Am)(f:Rho->R D):Prop:=∀ A,PE X e (λY H Q=>AOk H A/\∃ Z,Good X.K CL A Z Y H/\Ba (λH=>Rep X.K CL H A) W H (f Z) Q)
def ST(e:Am)(f:Rho->R D):Prop:=∀ A,PE X e (λY H Q=>AOk H A/\∃ Z,Good X.K CL A Z Y H/\Ba (λH=>Cj X.K CL H A) W H (f Z) Q)
def SB(e:Am)(f:Rho->R Ai):Prop:=∀ A,PT X e (λY H Q=>AOk H A/\∃ Z,Good X.K CL A Z Y H/\C5 W H (f Z) Q)
def SA(es:Ac Am)(f:Rho->R (Ac D)):Prop:=∀ A,PA X es (λY H Q=>AOk H A/\∃ Z,Good X.K CL A Z Y H/\Hv (λH=>Reps X.K CL H A) W H (f Z) Q)
end
theorem PE.weak{t t':TE}(h:PE X e t)(k:∀ Y H Q,t' Y H Q->t Y H Q):PE X e t':=λpI s Y H Q I q=>h pI s Y H Q I (k _ _ _ q)
theorem PT.weak{t t':TT}(h:PT X e t)(k:∀ Y H Q,t' Y H Q->t Y H Q):PT X e t':=λpI s Y H Q I q=>h pI s Y H Q I (k _ _ _ q)
theorem PA.weak{e:Ac Am}{t t':TA}(h:PA X e t)(k:∀ Y H Q,t' Y H Q->t Y H Q):PA X e t':=λpos pI s Y H Q I q=>h pos pI s Y H Q I (k _ _ _ q)
noncomputable def OpD(X:Cx)(CL:ClA)(W:XW)(f:Aj->Aj->Sem Aj)(g:D->D->R D):Prop:=
 ∀ A,OpR X f (λx y H Q=>AOk H A/\∃ dx dy,Cj X.K CL H A x dx/\Cj X.K CL H A y dy/\Ba (λH=>Rep X.K CL H A) W H (g dx dy) Q)
section
variable{X:Cx}{CL:ClA}{W:XW}{a b c:Am}{fa fb fc:Rho->R D}{pos:AJ}
theorem SE.st(h:SE X CL W a fa):ST X CL W a fa:=λA=>PE.weak (h A) λY H Q ⟨hA,Z,g,p⟩=>⟨hA,Z,g,by
 cases e:fa Z with
 |ok d=>rw[e]at p;exact λv H' s r=>p v H' s (.inl r)
 |exn x=>rw[e]at p;exact p
 | bad=>rw[e]at p;exact p⟩
theorem SE.congr{f g:Rho->R D}(h:SE X CL W a f)(e:∀ Z,g Z=f Z):SE X CL W a g:=λA=>PE.weak (h A) λY H Q ⟨hA,Z,q,p⟩=>⟨hA,Z,q,by rw[<-e];exact p⟩
theorem NG(h:PE X a (tC v))(r:∀ H A,AOk H A->Rep X.K CL H A v d):SE X CL W a (λ_=>.ok d):=λA=>PE.weak h λY H Q ⟨hA,Z,g,p⟩=>p v H (AB.refl H) (r H A hA)
theorem rB{i j}:SE X CL W (.Constant (.int i) j pos) (λ_=>.ok (.int i)):=NG Wj λ_ _ _=>rfl
theorem WH{b j}:SE X CL W (.Constant (.bool b) j pos) (λ_=>.ok (.bl b)):=NG zF λ_ _ _=>rfl
theorem qW{j}:SE X CL W (.Constant .none j pos) (λ_=>.ok .non):=NG tG λ_ _ _=>rfl
theorem Wa{x j}:SE X CL W (.Constant (.str x) j pos) (λ_=>.ok (.str x)):=NG tD λ_ _ _=>rfl
theorem kK(h:FK Z i=.ok d):Z[i]?=Ab (Ab (d,Ad)):=by
 unfold FK at h;split at h
 .rename_i e;cases h;exact e
 .cases h
theorem P8(h:Cu Z i=.ok d):∃ o,Z[i]?=Ab (Ab (d,o)):=by
 unfold Cu at h;split at h
 .rename_i e;cases h;exact⟨_,e⟩
 .cases h
theorem gP(h:FK Z i=.exn x):AU:=by
 unfold FK at h;split at h<;>cases h
theorem L7(h:Cu Z i=.exn x):AU:=by
 unfold Cu at h;split at h<;>cases h
theorem qV(h:PE X a (Gx i)):SE X CL W a (λZ=>FK Z i):=λA=>PE.weak h λY H Q ⟨hA,Z,g,p⟩=>by
 dsimp only at p;cases e:FK Z i with
 |ok d=>
  rw[e]at p;obtain⟨v,q,r⟩:=g.sh i d (kK e);exact⟨v,q,p v H (AB.refl H) r⟩
 |exn x=>exact(gP e).elim
 |bad=>rw[e]at p;exact p.elim
theorem Ji(h:PE X a (Gx i)):ST X CL W a (λZ=>Cu Z i):=λA=>PE.weak h λY H Q ⟨hA,Z,g,p⟩=>by
 dsimp only at p;cases e:Cu Z i with
 |ok d=>
  rw[e]at p;obtain⟨o,e⟩:=P8 e;cases o with
  |false=>
   obtain⟨v,q,r⟩:=g.sh i d e;exact⟨v,q,p v H (AB.refl H) (.inl r)⟩
  |true=>
   obtain⟨x,o,q,ha,hh,r⟩:=g.ow i d e;exact⟨_,q,p _ H (AB.refl H) (.inr ⟨x,o,rfl,hh,r⟩)⟩
 |exn x=>exact(L7 e).elim
 |bad=>rw[e]at p;exact p.elim
theorem op2(h:AOk H A/\∃ Z,Good X.K CL A Z Y H/\Ba Rq W H ((fa Z).bind λx=>(fb Z).bind λy=>g x y) Q):AOk H A/\∃ Z,Good X.K CL A Z Y H/\Ba (λH=>Cj X.K CL H A) W H (fa Z) (λx H1=>AOk H1 A/\∃ Z,Good X.K CL A Z Y H1/\Ba (λH=>Cj X.K CL H A) W H1 (fb Z) (λy H2=>AOk H2 A/\∃ dx dy,Cj X.K CL H2 A x dx/\Cj X.K CL H2 A y dy/\Ba Rq W H2 (g dx dy) Q)):=by
 obtain⟨hA,Z,gd,p⟩:=h;refine⟨hA,Z,gd,Ba.bind p λdx x H1 _ s1 r1 p1=>⟨hA.same s1,Z,gd.same s1,Ba.bind p1 λdy y H2 _ s2 r2 p2=>⟨(hA.same s1).same s2,dx,dy,r1.same s2,r2,p2⟩⟩⟩
theorem Qw{op:Ft}(ho:OpD X CL W (B7 op) g)(ha:ST X CL W a fa)(hb:ST X CL W b fb):SE X CL W (.BinOp a op b pos) (λZ=>(fa Z).bind λx=>(fb Z).bind λy=>g x y):=
 λA=>PE.weak (WC (ho A) (ha A) (hb A)) λY H Q h=>op2 h
theorem Wc(ho:OpD X CL W (B4 op) g)(ha:ST X CL W a fa)(hb:ST X CL W b fb)(hm:G5 op b=Ad):SE X CL W (.Compare a [op] [b] pos) (λZ=>(fa Z).bind λx=>(fb Z).bind λy=>g x y):=
 λA=>PE.weak (lN (ho A) (ha A) (hb A) hm) λY H Q h=>op2 h
theorem Cj.int_of{i:Ae}(h:Cj K CL H A v (.int i)):v=.int i:=by
 rcases h with h|⟨_,_,_,_,⟨_,_,_,e,_⟩|⟨_,_,_,e,_⟩⟩
 .exact h
 .cases e
 .cases e
theorem Cj.str_of{i:Ak}(h:Cj K CL H A v (.str i)):v=.str i:=by
 rcases h with h|⟨_,_,_,_,⟨_,_,_,e,_⟩|⟨_,_,_,e,_⟩⟩
 .exact h
 .cases e
 .cases e
theorem Cj.bl_of{i:Ai}(h:Cj K CL H A v (.bl i)):v=.bl i:=by
 rcases h with h|⟨_,_,_,_,⟨_,_,_,e,_⟩|⟨_,_,_,e,_⟩⟩
 .exact h
 .cases e
 .cases e
theorem Cj.non_of(h:Cj K CL H A v .non):v=.non:=by
 rcases h with h|⟨_,_,_,_,⟨_,_,_,e,_⟩|⟨_,_,_,e,_⟩⟩
 .exact h
 .cases e
 .cases e
theorem Cj.lst_of{K:Fg}{H:Hp}{A:Ah->Prop}{v:V}{ds:Ac D}(h:Cj K CL H A v (.lst ds)):∃ a xs,v=.ref a/\SqL K H a xs/\Reps K CL H A xs ds:=by
 rcases h with ⟨a,xs,e,_,s,r⟩|⟨a,o,rfl,s,r⟩
 .exact⟨a,xs,e,s,r⟩
 .obtain⟨xs,rfl,r'⟩:=r.lst_of;exact⟨a,xs,rfl,SqL.of s,r'⟩
theorem Cj.dic_of{K:Fg}{H:Hp}{A:Ah->Prop}{v:V}{ds:Ac (Ac Ae×D)}(h:Cj K CL H A v (.dic ds)):∃ a es,v=.ref a/\H a=Ab (.ext (Dh a es))/\Repk K CL H A es ds:=by
 rcases h with ⟨a,xs,e,_,s,r⟩|⟨a,o,rfl,s,r⟩
 .exact⟨a,xs,e,s,r⟩
 .obtain⟨xs,rfl,r'⟩:=r.dic_of;exact⟨a,xs,rfl,s,r'⟩
theorem Cj.tup_of{ds:Ac D}(h:Cj K CL H A v (.tup ds)):∃ a xs,v=.ref a/\(¬ A a\/KT K a xs)/\SqT K H a xs/\Reps K CL H A xs ds:=by
 rcases h with ⟨a,xs,e,n,s,r⟩|⟨_,_,_,_,⟨_,_,_,e,_⟩|⟨_,_,_,e,_⟩⟩
 .exact⟨a,xs,e,n,s,r⟩
 .cases e
 .cases e
theorem pC{i j:Ae}(h:D7 i j=Aa):On i j:=by
 unfold D7 at h;simp only[Cz,Al,AK]at h;unfold On;omega
theorem Vt{a:Ae}(h:a.natAbs<2 ^ 2000):X9 a<=2 ^ 20:=by
 unfold X9;split
 .omega
 .rename_i hz;have h0:a.natAbs≠0:=by intro z;exact hz (by rw[Int.natAbs_eq_zero.mp z];rfl)
  have:=(Nat.log2_lt h0).mpr h;omega
theorem pB{i j:Ae}(h:(D7 i j||G9 i j)=Aa):LP i j:=by
 rcases Bool.or_eq_true_iff.mp h with h|h
 .exact(pC h).ok
 .unfold G9 at h;rw[Al,AK,AK]at h;exact .of_bits (Vt h.1) (Vt h.2)
theorem mD:OpR X (B7 .Mult) (rI LP λi j=>.int (i*j)):=opI λ_ _ _ _ _ _ _ hc q=>mul_int q hc
theorem GK(h:BY n=Aa):n<=sizeLine:=by
 unfold BY at h;rw[Eb];have:=EK h;omega
theorem Vs{p:Ah}{ds:Ac D}(hA:AOk H A)(hp:H p=Af)(r:Reps K CL H A xs ds):Rep K CL (upd H p (.lst xs)) A (.ref p) (.lst ds):=
 ⟨p,xs,rfl,.inl (hA.new hp),SqL.of Gp,r.same λb o e=>by rw[B8 (FG e hp)];exact e⟩
theorem JR{p:Ah}{ds:Ac D}(hA:AOk H A)(hp:H p=Af)(r:Reps K CL H A xs ds):Rep K CL (upd H p (.tup xs)) A (.ref p) (.tup ds):=
 ⟨p,xs,rfl,.inl (hA.new hp),SqT.of Gp,r.same λb o e=>by rw[B8 (FG e hp)];exact e⟩
theorem Fu{p:Ah}(h:H p=Af)(o:HO):AB H (upd H p o):=λb u q=>by rw[B8 (FG q h)];exact q
def yY(K:Fg):R2:=λx y H Q=>∃ l b xs zs,x=.ref l/\y=.ref b/\SqL K H l xs/\SqL K H b zs/\xs.length+zs.length<=sizeLine/\∀ p,H p=Af->Q (.ref p) (upd H p (.lst (xs++zs)))
end
section
variable{P:AO}{w:AW}{a:Ah}{xs:Ac (Ac Ae×Ah×Aj)}{h:AF}
theorem Gz.of(d:Gz P w a xs h)(k:∀ x∈xs,(TK P w).is h x.1 x.2.1):h.DictOfH (TK P w) a xs:=by
 obtain⟨_,o,es,ep,h1,h2,h3,h4,h5⟩:=d;exact⟨o,es,ep,h1,h2,h3,h4,k,h5⟩
theorem Gz.to(hs:(a==D6)=Ad)(d:h.DictOfH (TK P w) a xs):Gz P w a xs h:=by
 obtain⟨o,es,ep,h1,h2,h3,h4,k,h5⟩:=d;exact⟨hs,o,es,ep,h1,h2,h3,h4,h5⟩
theorem Gz.keep(d:Gz P w a xs h)(k:∀ o,h.get? a=Ab o->h'.get? a=Ab o):Gz P w a xs h':=by
 obtain⟨hs,o,es,ep,h1,r⟩:=d;exact⟨hs,o,es,ep,k o h1,r⟩
theorem Gz.any(d:Gz P w a xs h):∀ P w,Gz P w a xs h:=λ_ _=>d
theorem Dh.keep{h':AF}{es:Ac (Ac Ae×Ah×V)}(d:Dh a es h)(k:∀ o,h.get? a=Ab o->h'.get? a=Ab o):Dh a es h':=let ⟨ys,v,d⟩:=d;⟨ys,v,λP w=>(d P w).keep k⟩
theorem ValE.length{es:Ac (Ac Ae×Ah×V)}(v:ValE es ys):es.length=ys.length:=by
 induction v with
 |nil=>rfl
 |cons _ _ ih=>exact congrArg (· + 1) ih
theorem eG:∀{k:Ac Ae}{its:Ac Aj},A6 (k.map V.int) its->ItemsAre (intKind P w) k its:=by
 intro k
 induction k with
 |nil=>intro its v;cases v;exact .nil
 |cons i k ih=>
  intro its v;cases v with
  |cons v1 v2=>
   obtain⟨t,rfl⟩:=v1;exact .cons (intKind_is _ _ _ _) (ih v2)
end
section
variable{K:Fg}{CL:ClA}{H:Hp}{A:Ah->Prop}
theorem gU:∀{ds:Ac D}{k:Ac Ae}{xs:Ac V},Ea.keyDs ds=Ab k->Reps K CL H A xs ds->xs=k.map V.int:=by
 intro ds
 induction ds with
 |nil=>
  intro k xs e r;cases e;cases xs with
  |nil=>rfl
  |cons=>exact r.elim
 |cons d ds ih=>
  intro k xs e r;cases xs with
  |nil=>exact r.elim
  |cons x xs=>
   cases d with
   |int i=>
    have e':(Ea.keyDs ds).map (i :: ·)=Ab k:=e;cases e1:Ea.keyDs ds with
    |none=>rw[e1]at e';cases e'
    |some k'=>
     rw[e1]at e';cases e';have ex:x=.int i:=r.1;rw[ex,ih e1 r.2];rfl
   |_=>exact nomatch (show Af=Ab k from e)
theorem mM(r:Rep K CL H A v d)(e:Ea d=Ab k):∃ a,v=.ref a/\DD K H A a k:=by
 cases d with
 |tup ds=>
  obtain⟨a,xs,ev,na,sq,rs⟩:=r;exact⟨a,ev,xs,na,sq,gU e rs⟩
 |_=>exact nomatch (show Af=Ab k from e)
theorem KR(r:Cj K CL H A v d)(e:Ea d=Ab k):∃ a,v=.ref a/\DD K H A a k:=by
 rcases r with r|⟨_,_,_,_,⟨_,_,_,rfl,_⟩|⟨_,_,_,rfl,_⟩⟩
 .exact mM r e
 .exact nomatch (show Af=Ab k from e)
 .exact nomatch (show Af=Ab k from e)
theorem Repk.length:∀{es:Ac (Ac Ae×Ah×V)}{kvs:Ac (Ac Ae×D)},Repk K CL H A es kvs->es.length=kvs.length
 |[],[],_=>rfl
 |_::_,_::_,h=>congrArg (· + 1) (Repk.length h.2)
 |[],_::_,h=>h.elim
 |_::_,[],h=>h.elim
theorem J3{es:Ac (Ac Ae×Ah×V)}(v:ValE es ys)(k:Ac Ae):∀{kvs:Ac (Ac Ae×D)},Repk K CL H A es kvs->(GZ ys k=Af/\CB kvs k=Af/\(kvs.any λp=>p.1==k)=Ad)\/∃ p x d,GZ ys k=Ab p/\CB kvs k=Ab d/\(kvs.any λp=>p.1==k)=Aa/\Bu x p.2/\Rep K CL H A x d:=by
 induction v with
 |nil=>
  intro kvs r;cases kvs with
  |nil=>exact .inl ⟨rfl,rfl,rfl⟩
  |cons=>exact r.elim
 | @cons k' a x y xs ys rv _ ih=>
  intro kvs r;cases kvs with
  |nil=>exact r.elim
  |cons q kvs=>
   obtain⟨k2,d⟩:=q;obtain⟨⟨e1,_,rd⟩,r2⟩:=r;cases (show k'=k2 from e1)
   by_cases hk:k'=k
   .refine .inr ⟨(a,y),x,d,?_,?_,?_,rv,rd⟩
    .simp[GZ,hk]
    .simp[CB,hk]
    .simp[hk]
   .have h0:(k'==k)=Ad:=Cw.mpr hk;rcases ih r2 with ⟨z1,z2,z3⟩|⟨p,x',d',z1,z2,z3,z4⟩
    .refine .inl ⟨?_,?_,?_⟩
     .simpa [GZ,Ez,hk] using z1
     .simpa [CB,Ez,h0] using z2
     .rw[FS,z3];simp[h0]
    .refine .inr ⟨p,x',d',?_,?_,?_,z4⟩
     .simpa [GZ,Ez,hk] using z1
     .simpa [CB,Ez,h0] using z2
     .rw[FS,z3];simp
theorem UK{es:Ac (Ac Ae×Ah×V)}(v:ValE es ys){x:V}(kr:DD K H A ka k)(rx:Bu x y)(rd:Rep K CL H A x d):∀{kvs:Ac (Ac Ae×D)},Repk K CL H A es kvs->∃ es',ValE es' (ys++[(k,ka,y)])/\Repk K CL H A es' (kvs++[(k,d)]):=by
 induction v with
 |nil=>
  intro kvs r;cases kvs with
  |nil=>exact⟨[(k,ka,x)],.cons rx .nil,⟨rfl,kr,rd⟩,trivial⟩
  |cons=>exact r.elim
 | @cons k' a x y xs ys rv _ ih=>
  intro kvs r;cases kvs with
  |nil=>exact r.elim
  |cons q kvs=>
   obtain⟨es',h1,h2⟩:=ih r.2;exact⟨(k',a,x)::es',.cons rv h1,r.1,h2⟩
theorem mL{es:Ac (Ac Ae×Ah×V)}(v:ValE es ys){x:V}(rx:Bu x y)(rd:Rep K CL H A x d):∀{kvs:Ac (Ac Ae×D)},Repk K CL H A es kvs->∃ es',ValE es' (ys.map (putAt k y))/\Repk K CL H A es' (kvs.map λp=>if (p.1==k)=Aa then (k,d) else p):=by
 induction v with
 |nil=>
  intro kvs r;cases kvs with
  |nil=>exact⟨[],.nil,trivial⟩
  |cons=>exact r.elim
 | @cons k' a x' y' xs ys rv _ ih=>
  intro kvs r;cases kvs with
  |nil=>exact r.elim
  |cons q kvs=>
   obtain⟨es',h1,h2⟩:=ih r.2;obtain⟨k2,d'⟩:=q;obtain⟨⟨e1,kr,rd'⟩,r2⟩:=r;cases (show k'=k2 from e1)
   by_cases hk:k'=k
   .refine⟨(k',a,x)::es',?_,?_⟩
    .rw[A8,show putAt k y (k',a,y')=(k',a,y) from Ax hk]
     exact .cons rx h1
    .rw[A8,Ax (show ((k'==k)=Aa) from AS.mpr hk)]
     exact⟨⟨hk,hk ▸ kr,rd⟩,h2⟩
   .refine⟨(k',a,x')::es',?_,?_⟩
    .rw[A8,show putAt k y (k',a,y')=(k',a,y') from Ay hk]
     exact .cons rv h1
    .rw[A8,Ay (show ¬ ((k'==k)=Aa) from λz=>hk (AS.mp z))]
     exact⟨⟨rfl,kr,rd'⟩,h2⟩
theorem mK{es:Ac (Ac Ae×Ah×V)}(v:ValE es ys){x:V}(kr:DD K H A ka k)(rx:Bu x y)(rd:Rep K CL H A x d){kvs:Ac (Ac Ae×D)}(r:Repk K CL H A es kvs):∃ es',ValE es' (storedH ys k ka y)/\Repk K CL H A es' (F2 kvs k d):=by
 unfold F2;rcases J3 v k r with ⟨z1,_,z3⟩|⟨p,_,_,z1,_,z3,_⟩
 .rw[storedH_new z1,Ay (by rw[z3];exact Av)]
  exact UK v kr rx rd r
 .rw[storedH_old z1,Ax z3];exact mL v rx rd r
end
section
variable{X:Cx}{pI:Pn}{Y:L2.St}{H:Hp}{s:Aq}{a ka:Ah}{k:Ac Ae}{CL:ClA}{A:Ah->Prop}{es:Ac (Ac Ae×Ah×V)}{kvs:Ac (Ac Ae×D)}
theorem J7(I:Inv X pI Y H s)(r:DD X.K H A ka k):(TK X.prog X.w).is s.heap k ka:=by
 obtain⟨xs,_,sq,rfl⟩:=r;obtain⟨its,vs,⟨o,ho,hc,n,hd⟩,_⟩:=I.tuple sq;exact⟨o,its.toArray,n,ho,hc,hd,eG vs⟩
theorem pH(I:Inv X pI Y H s)(v:ValE es ys):∀{kvs:Ac (Ac Ae×D)},Repk X.K CL H A es kvs->∀ x∈ys,(TK X.prog X.w).is s.heap x.1 x.2.1:=by
 induction v with
 |nil=>intro kvs r x hx;cases hx
 | @cons k' a x y xs ys rv _ ih=>
  intro kvs r z hz;cases kvs with
  |nil=>exact r.elim
  |cons q kvs=>
   obtain⟨k2,d⟩:=q;obtain⟨⟨e1,kr,rd⟩,r2⟩:=r;cases (show k'=k2 from e1)
   rcases AD.mp hz with rfl|hz
   .exact J7 I kr
   .exact ih r2 z hz
theorem dic_of(I:Inv X pI Y H s)(hH:H a=Ab (.ext (Dh a es)))(r:Repk X.K CL H A es kvs):∃ ys,ValE es ys/\(a==D6)=Ad/\s.heap.DictOfH (TK X.prog X.w) a ys:=by
 obtain⟨ys,ve,d⟩:=(I.hok a _ hH).1;have d:=d X.prog X.w;exact⟨ys,ve,d.1,d.of (pH I ve r)⟩
theorem oQ{x:V}{v:Aj}{Q:GJ->Aq->Prop}{E:Vq}(hu:X.A.units+1<Bx)(I:Inv X pI Y H s)(hH:H a=Ab (.ext (Dh a es)))(r:Repk X.K CL H A es kvs)(hk:DD X.K H A ka k)(rx:Bu x v)(rd:Rep X.K CL H A x d)(hz:kvs.length<=sizeLine)(q:∀ s' es',Repk X.K CL H A es' (F2 kvs k d)->Inv X pI Y (upd H a (.ext (Dh a es'))) s'->Q () s'):Az (model X.prog X.w) X.A (Jz (.ref a) (.ref ka) v) Q E s:=by
 obtain⟨ys,ve,hs,m⟩:=dic_of I hH r;obtain⟨es',ve',r'⟩:=mK ve hk rx rd r;refine wpAny_setItem_heap (knd:=TK X.prog X.w) (hsz:=by rw[<-ve.length,r.length];exact hz) (DJ hu) (J7 I hk) m λh' m sb=>q _ es' r' ?_
 obtain⟨o,_,_,h1,_⟩:=id m;exact I.write (x:=a) (e:=a) (by rw[hH];exact trivial) (.inl rfl) (λb u hb hu=>(sb.2 b hb).trans hu) ⟨o,h1⟩ ⟨⟨_,ve',(Gz.to hs m).any⟩,⟨o,h1⟩,λh1 h2 d k=>d.keep k⟩
theorem vG{Q:Vq}{E:Vq}(hu:X.A.units+1<Bx)(I:Inv X pI Y H s)(hH:H a=Ab (.ext (Dh a es)))(r:Repk X.K CL H A es kvs)(hk:DD X.K H A ka k)(q:∀ s',Inv X pI Y H s'->Q (.bool (kvs.any λp=>p.1==k)) s'):Az (model X.prog X.w) X.A (B4 .In (.ref ka) (.ref a)) Q E s:=by
 obtain⟨ys,ve,hs,m⟩:=dic_of I hH r;refine wpAny_in_heap (knd:=TK X.prog X.w) (DJ hu) (J7 I hk) hs m ?_;have e:(GZ ys k).isSome=(kvs.any λp=>p.1==k):=by
  rcases J3 ve k r with ⟨z1,_,z3⟩|⟨p,_,_,z1,_,z3,_⟩<;>rw[z1,z3]<;>rfl
 rw[e];exact q _ (I.kept λb o e=>e)
theorem oR{Q:Vq}{E:Vq}(hu:X.A.units+1<Bx)(I:Inv X pI Y H s)(hH:H a=Ab (.ext (Dh a es)))(r:Repk X.K CL H A es kvs)(hk:DD X.K H A ka k)(q:∀ s',Inv X pI Y H s'->Q (.bool (!(kvs.any λp=>p.1==k))) s'):Az (model X.prog X.w) X.A (B4 .NotIn (.ref ka) (.ref a)) Q E s:=by
 obtain⟨ys,ve,hs,m⟩:=dic_of I hH r;refine wpAny_notIn_heap (knd:=TK X.prog X.w) (DJ hu) (J7 I hk) hs m ?_;have e:(GZ ys k).isSome=(kvs.any λp=>p.1==k):=by
  rcases J3 ve k r with ⟨z1,_,z3⟩|⟨p,_,_,z1,_,z3,_⟩<;>rw[z1,z3]<;>rfl
 rw[e];exact q _ (I.kept λb o e=>e)
theorem eQ(d:Ah)(hd:(d==D6)=Ad):MeetsIn X.prog X.w (Builtin.«dict.__len__» ⟨[.ref d],[]⟩) (λ_ R s=>∃ ys,s.heap.DictOfH (TK X.prog X.w) d ys/\R (.ok (.ret (.int ys.length s.toks))) {s with toks:=s.toks+1}):=
 .of_wp λA R s ⟨ys,hm,h⟩=>by
  obtain⟨o,es,ep,ho,hc,hdat,hk,_,_⟩:=hm;show Az _ _ (dictSize d >>= _) _ _ s;unfold dictSize;refine An (An (ZG ho hdat (AC ?_)));show Az _ _ (Builtin.Dict.pendingCount d >>= _) _ _ s;refine An (wpAny_pendingCount_other hd ?_);refine wpAny_ret_mkInt ?_;have:es.size=ys.length:=by rw[<-Fc,hk,A9]
  rw[Nat.add_zero,this];exact h
theorem oU{Q:Vq}{E:Vq}(I:Inv X pI Y H s)(hH:H a=Ab (.ext (Dh a es)))(r:Repk X.K CL H A es kvs)(hz:kvs.length<=sizeLine)(q:∀ s' t,Inv X pI Y H s'->Q (.int kvs.length t) s'):Az (model X.prog X.w) X.A (call (.builtin "len") [.ref a]) Q E s:=by
 obtain⟨ys,ve,hs,m⟩:=dic_of I hH r;have el:ys.length=kvs.length:=by rw[<-ve.length,r.length]
 have hf:(ys.length:Ae)<2 ^ 63:=by have:=J5;omega
 refine Calls.call_function_entry kind_len plain_len entry_len (args_len1 _) ?_;unfold Builtin.«len»;refine An (m:=oneArg "len" _) (AC ?_);refine An (m:=IT (.ref a) (DI "__len__")) (CN (name:=DI "__len__") m.typeIs YT
  (IU YT m.typeIs F.entry_dict_len (F.args_dict_len_1 _) (eQ a hs) ⟨ys,m,?_⟩))
 show Az _ _ _ _ _ {s with toks:=s.toks+1}
 refine An (CH (AC ?_));refine An (HM ?_);show Az _ _ (if ((ys.length:Ag):Ae)<0 then _ else _) _ _ _
 rw[Ay (by omega)]
 show Az _ _ (if ((ys.length:Ag):Ae) ≥ 2 ^ 63 then _ else _) _ _ _
 rw[Ay (by omega)]
 refine An (wpAny_mkInt (AC ⟨_,rfl,?_⟩));rw[el];exact q _ _ (I.kept λb o e=>e)
theorem oS:PE X (.Dict [] [] pos) (λ_ H Q=>∀ a,H a=Af->Q (.ref a) (upd H a (.ext (Dh a [])))):=λpI s Y H Q I h=>by
 have big:D6<s.heap.objs.size:=Nat.lt_trans (by decide) (I.mod.glob.keeps I.bk).lt
 have at0:(s.heap.push { cls:=.type "dict",data:=.dict #[] }).get? s.heap.objs.size=Ab { cls:=.type "dict",data:=.dict #[] }:=AI _ rfl;refine wpAny_Dict_empty ⟨.ref s.heap.objs.size,_,I.laid (a:=s.heap.objs.size) (t':=s.toks) (λ_ _ q=>Au _ q) (AV _) ?_,rfl,h _ (I.hok.fresh (AV _))⟩
 exact⟨⟨[],.nil,Gz.any (P:=X.prog) (w:=X.w) ⟨Cw.mpr (DP (Be big)),_,#[],0,at0,⟨rfl,rfl,rfl⟩,rfl,rfl,H9⟩⟩,⟨_,at0⟩,λh1 h2 d k=>d.keep k⟩
def RO(K:Fg)(CL:ClA)(A:Ah->Prop):R2:=λx y H Q=>∃ a ka es kvs k d,x=.ref a/\y=.ref ka/\H a=Ab (.ext (Dh a es))/\Repk K CL H A es kvs/\DD K H A ka k/\CB kvs k=Ab d/\∀ v,Rep K CL H A v d->Q v H
theorem vZ(hu:X.A.units+1<Bx):IxR X (RO X.K CL A):=by
 intro value slice pI s Y H x y v u Q I rx ry h hs;obtain⟨a,ka,es,kvs,k,d,rfl,rfl,hH,r,hk,hp,q⟩:=h;cases rx;cases ry;obtain⟨ys,ve,_,m⟩:=dic_of I hH r;rcases J3 ve k r with ⟨_,z2,_⟩|⟨p,x,d',z1,z2,_,z4,z5⟩
 .rw[hp]at z2;cases z2
 .rw[hp]at z2;cases z2;exact FP m.typeIs slot_dict_getitem.lookup (wpAny_getItem_heap (knd:=TK X.prog X.w) (Q:=λr s'=>r=p.2/\EP X pI Y Q r s') (DJ hu) (J7 I hk) m z1 ⟨rfl,x,H,I.kept λb o e=>e,z4,q x z5⟩) hs
end
section
variable{X:Cx}{CL:ClA}{W:XW}
theorem Vn:OpR X (B7 .Add) (yY X.K):=by
 intro pI s Y H x y v u Q I rx ry h;obtain⟨l,b,xs,zs,rfl,rfl,hH,hB,hz,q⟩:=h;cases rx;cases ry;obtain⟨its,r,⟨o,n,e,c,dd,dt⟩,z⟩:=I.list hH;obtain⟨its2,r2,⟨o2,n2,e2,c2,dd2,dt2⟩,z2⟩:=I.list hB;have hl:=r.length;have hl2:=r2.length;obtain⟨cls,dd0,data,sl⟩:=o;obtain⟨cls2,dd02,data2,sl2⟩:=o2;simp only at c dd dt c2 dd2 dt2;subst c dd dt c2 dd2 dt2;have ea:its.toArray++its2.toArray=(its++its2).toArray:=by simp
 refine IV ⟨_,e,rfl⟩ ⟨_,e2,rfl⟩ noFill_list_add seq_list_add PySem.F.slot_list_add PySem.F.entry_list_add (PySem.F.args_list_add_2 _ _) (list_addW l b its.toArray its2.toArray n n2 Af Af sl sl2 (by simp;omega)) ⟨e,e2,?_⟩
 rw[ea];exact⟨.ref _,_,I.lnew (t':=s.toks) (r.append r2) (by rw[AM];omega),rfl,q _ I.fresh⟩
theorem Vm:OpD X CL W (B7 .Add) (CD .Add):=by
 intro A pI s Y H x y v u Q I rx ry ⟨hA,dx,dy,hx,hy,p⟩;cases dx with
 |int i=>
  cases dy with
  |int j=>
   have ex:=hx.int_of;have ey:=hy.int_of
   subst ex ey;exact tP pI s Y H _ _ v u Q I rx ry ⟨i,j,rfl,rfl,p _ H (AB.refl H) rfl⟩
  |_=>exact p.elim
 |str i=>
  cases dy with
  |str j=>
   have ex:=hx.str_of;have ey:=hy.str_of
   subst ex ey;simp only[VC]at p;split at p
   .rename_i h;exact cV pI s Y H _ _ v u Q I rx ry ⟨i,j,rfl,rfl,GK h,p _ H (AB.refl H) rfl⟩
   .exact p.elim
  |_=>exact p.elim
 |lst ds=>
  cases dy with
  |lst es=>
   obtain⟨a,xs,rfl,s1,r1⟩:=hx.lst_of;obtain⟨b,ys,rfl,s2,r2⟩:=hy.lst_of;simp only[VD]at p;split at p
   .rename_i h;refine Vn pI s Y H _ _ v u Q I rx ry ⟨a,b,xs,ys,rfl,rfl,s1,s2,by rw[r1.length,r2.length];exact GK h,λq hq=>?_⟩
    exact p _ _ (Fu hq _) (Vs hA hq (r1.append r2))
   .exact p.elim
  |_=>exact p.elim
 |tup ds=>
  cases dy with
  |tup es=>
   obtain⟨a,xs,rfl,na1,s1,r1⟩:=hx.tup_of;obtain⟨b,ys,rfl,_,s2,r2⟩:=hy.tup_of;simp only[VB]at p;split at p
   .rename_i h;simp only[Al]at h;refine mF pI s Y H _ _ v u Q I rx ry ⟨a,b,xs,ys,rfl,rfl,s1,s2,?_,by rw[r1.length,r2.length];exact GK h.2,λhy0=>?_,λ_ q hq=>?_⟩
    .rintro rfl;cases ds with
     |nil=>cases h.1
     |cons _ _=>exact r1.elim
    .subst hy0;cases es with
     |nil=>rw[Bp]at p;exact p _ H (AB.refl H) ⟨a,xs,rfl,na1,s1,r1⟩
     |cons _ _=>exact r2.elim
    .exact p _ _ (Fu hq _) (JR hA hq (r1.append r2))
   .exact p.elim
  |_=>exact p.elim
 |_=>exact p.elim
theorem Nm{op:Ft}{C:Ae->Ae->Prop}{g:Ae->Ae->Ae}(ho:OpR X (B7 op) (rI C λi j=>.int (g i j)))(hg:∀ dx dy,(∃ i j,dx=.int i/\dy=.int j/\((C i j/\CD op dx dy=.ok (.int (g i j)))\/CD op dx dy=.bad))\/CD op dx dy=.bad):OpD X CL W (B7 op) (CD op):=by
 intro A pI s Y H x y v u Q I rx ry ⟨hA,dx,dy,hx,hy,p⟩;rcases hg dx dy with ⟨i,j,rfl,rfl,⟨c,e⟩|e⟩|e
 .have ex:=hx.int_of;have ey:=hy.int_of
  subst ex ey;rw[e]at p;exact ho pI s Y H _ _ v u Q I rx ry ⟨i,j,rfl,rfl,c,p _ H (AB.refl H) rfl⟩
 .rw[e]at p;exact p.elim
 .rw[e]at p;exact p.elim
theorem lX:OpD X CL W (B7 .Sub) (CD .Sub):=by
 intro A pI s Y H x y v u Q I rx ry ⟨hA,dx,dy,hx,hy,p⟩;cases dx with
 |int i=>
  cases dy with
  |int j=>
   have ex:=hx.int_of;have ey:=hy.int_of
   subst ex ey;exact tL pI s Y H _ _ v u Q I rx ry ⟨i,j,rfl,rfl,p _ H (AB.refl H) rfl⟩
  |_=>exact p.elim
 |_=>exact p.elim
theorem lZ:OpD X CL W (B7 .Mult) (CD .Mult):=Nm mD λdx dy=>by
 cases dx with
 |int i=>
  cases dy with
  |int j=>
   refine .inl ⟨i,j,rfl,rfl,?_⟩;rw[tW];split
   .rename_i h;exact .inl ⟨pB h,rfl⟩
   .exact .inr rfl
  |_=>exact .inr rfl
 |_=>exact .inr rfl
theorem iI:OpD X CL W (B7 .FloorDiv) (CD .FloorDiv):=Nm mE λdx dy=>by
 cases dx with
 |int i=>
  cases dy with
  |int j=>
   refine .inl ⟨i,j,rfl,rfl,?_⟩;rw[oD];split
   .rename_i h;exact .inl ⟨h,rfl⟩
   .exact .inr rfl
  |_=>exact .inr rfl
 |_=>exact .inr rfl
theorem mB:OpD X CL W (B7 .Mod) (CD .Mod):=Nm tN λdx dy=>by
 cases dx with
 |int i=>
  cases dy with
  |int j=>
   refine .inl ⟨i,j,rfl,rfl,?_⟩;rw[sS];split
   .rename_i h;exact .inl ⟨h,rfl⟩
   .exact .inr rfl
  |_=>exact .inr rfl
 |_=>exact .inr rfl
theorem lY:OpD X CL W (B7 .Pow) (CD .Pow):=Nm tM λdx dy=>by
 cases dx with
 |int i=>
  cases dy with
  |int j=>
   refine .inl ⟨i,j,rfl,rfl,?_⟩;rw[sY];split
   .rename_i h;exact .inl ⟨⟨h.1.1,h.1.2,by omega⟩,rfl⟩
   .exact .inr rfl
  |_=>exact .inr rfl
 |_=>exact .inr rfl
theorem Qd(op:Ft):OpD X CL W (B7 op) (CD op):=by
 cases op with
 |Add=>exact Vm
 |Sub=>exact lX
 |Mult=>exact lZ
 |FloorDiv=>exact iI
 |Mod=>exact mB
 |Pow=>exact lY
 |_=>
  intro A pI s Y H x y v u Q I rx ry ⟨hA,dx,dy,hx,hy,p⟩;exact p.elim
noncomputable abbrev A0:Ah->Prop:=λ_=>AU
theorem Cj.plain(h:Cj K CL H A v d):Rep K CL H A0 v d:=by
 rcases h with h|⟨a,o,rfl,e,⟨xs,ds,rfl,rfl,r⟩|⟨es,ds,rfl,rfl,r⟩⟩
 .exact Rep.sub (λ_ z=>z.elim) d h
 .exact⟨a,xs,rfl,.inl λz=>z.elim,SqL.of e,Reps.sub (λ_ z=>z.elim) ds r⟩
 .exact⟨a,es,rfl,λz=>z.elim,e,Repk.sub (λ_ z=>z.elim) ds r⟩
mutual
theorem PU:∀(n:Ag)(d:D),flD n d=Aa->eqD d d=Aa
 |_,.non,_=>rfl
 |_,.bl b,_=>by simp
 |_,.int i,_=>by simp
 |_,.str x,_=>by simp
 |n+1,.tup ds,h=>by
  show eqDs ds ds=Aa;exact eqDs_refl n ds h
 |n+1,.lst ds,h=>by
  show eqDs ds ds=Aa;exact eqDs_refl n ds h
 |0,.tup ds,h=>by cases h
 |0,.lst ds,h=>by cases h
 |n,.obj _ _,h=>by cases n<;>cases h
 |n,.exc _ _,h=>by cases n<;>cases h
 |n,.dic _,h=>by cases n<;>cases h
theorem eqDs_refl:∀(n:Ag)(ds:Ac D),ds.all (flD n)=Aa->eqDs ds ds=Aa
 |_,[],_=>rfl
 |n,d::ds,h=>by
  simp only[DS,Al]at h;simp only[Pf,Al];exact⟨PU n d h.1,eqDs_refl n ds h.2⟩
end
theorem SJ{ys:Ac V}(I:Inv X pI Y H s)(h:SqL X.K H a xs)(h':SqT X.K H a ys):AU:=by
 obtain⟨its,r,⟨o,n,e,c,_,_⟩,_⟩:=I.list h;obtain⟨its',r',⟨o',e',c',_⟩,_⟩:=I.tuple h';rw[e]at e';cases e';rw[c]at c'
 injection c' with z
 exact absurd z (by decide)
mutual
theorem Nj{pI:Pn}{Y:L2.St}{H:Hp}{s:Aq}(I:Inv X pI Y H s):∀(n:Ag)(d e:D){v:V},flD n d=Aa->flD n e=Aa->Rep X.K CL H A0 v d->Rep X.K CL H A0 v e->d=e
 |n,.tup ds,e,v,hd,he,r,q=>by
  obtain⟨a,xs,rfl,_,s1,r1⟩:=r;cases e with
  |tup es=>
   obtain⟨b,ys,e,_,s2,r2⟩:=q;cases e;have z:=I.tuple_inj s1 s2;subst z;cases n with
   |zero=>cases hd
   |succ n=>rw[reps_inj I n ds es hd he r1 r2]
  |lst es=>
   obtain⟨b,ys,e,_,s2,r2⟩:=q;cases e;exact(SJ I s2 s1).elim
  |obj=>cases n<;>cases he
  |exc=>cases n<;>cases he
  |dic=>cases n<;>cases he
  |_=>cases q
 |n,.lst ds,e,v,hd,he,r,q=>by
  obtain⟨a,xs,rfl,_,s1,r1⟩:=r;cases e with
  |lst es=>
   obtain⟨b,ys,e,_,s2,r2⟩:=q;cases e;have z:=I.list_inj s1 s2;subst z;cases n with
   |zero=>cases hd
   |succ n=>rw[reps_inj I n ds es hd he r1 r2]
  |tup es=>
   obtain⟨b,ys,e,_,s2,r2⟩:=q;cases e;exact(SJ I s1 s2).elim
  |obj=>cases n<;>cases he
  |exc=>cases n<;>cases he
  |dic=>cases n<;>cases he
  |_=>cases q
 |n,.obj _ _,e,v,hd,he,r,q=>by cases n<;>cases hd
 |n,.exc _ _,e,v,hd,he,r,q=>by cases n<;>cases hd
 |n,.dic _,e,v,hd,he,r,q=>by cases n<;>cases hd
 |n,.non,e,v,hd,he,r,q=>by
  cases r;cases e with
  |tup=>obtain⟨_,_,z,_⟩:=q;cases z
  |lst=>obtain⟨_,_,z,_⟩:=q;cases z
  |obj=>cases n<;>cases he
  |exc=>cases n<;>cases he
  |dic=>cases n<;>cases he
  |_=>cases q<;>rfl
 |n,.bl b,e,v,hd,he,r,q=>by
  cases r;cases e with
  |tup=>obtain⟨_,_,z,_⟩:=q;cases z
  |lst=>obtain⟨_,_,z,_⟩:=q;cases z
  |obj=>cases n<;>cases he
  |exc=>cases n<;>cases he
  |dic=>cases n<;>cases he
  |_=>cases q<;>rfl
 |n,.int b,e,v,hd,he,r,q=>by
  cases r;cases e with
  |tup=>obtain⟨_,_,z,_⟩:=q;cases z
  |lst=>obtain⟨_,_,z,_⟩:=q;cases z
  |obj=>cases n<;>cases he
  |exc=>cases n<;>cases he
  |dic=>cases n<;>cases he
  |_=>cases q<;>rfl
 |n,.str b,e,v,hd,he,r,q=>by
  cases r;cases e with
  |tup=>obtain⟨_,_,z,_⟩:=q;cases z
  |lst=>obtain⟨_,_,z,_⟩:=q;cases z
  |obj=>cases n<;>cases he
  |exc=>cases n<;>cases he
  |dic=>cases n<;>cases he
  |_=>cases q<;>rfl
theorem reps_inj{pI:Pn}{Y:L2.St}{H:Hp}{s:Aq}(I:Inv X pI Y H s):∀(n:Ag)(ds es:Ac D){xs:Ac V},ds.all (flD n)=Aa->es.all (flD n)=Aa->Reps X.K CL H A0 xs ds->Reps X.K CL H A0 xs es->ds=es
 |_,[],[],_,_,_,_,_=>rfl
 |n,d::ds,e::es,x::xs,hd,he,r,q=>by
  simp only[DS,Al]at hd he;rw[Nj I n d e hd.1 he.1 r.1 q.1,reps_inj I n ds es hd.2 he.2 r.2 q.2]
 |_,[],_::_,[],_,_,_,q=>q.elim
 |_,[],_::_,_::_,_,_,r,_=>r.elim
 |_,_::_,[],[],_,_,r,_=>r.elim
 |_,_::_,[],_::_,_,_,_,q=>q.elim
 |_,_::_,_::_,[],_,_,r,_=>r.elim
end
theorem Mc:∀{ds es:Ac D},ds.length≠es.length->eqDs ds es=Ad
 |[],[],h=>absurd rfl h
 |[],_::_,_=>rfl
 |_::_,[],_=>rfl
 |d::ds,e::es,h=>by
  simp only[Pf,Mc (ds:=ds) (es:=es) (by simpa using h),Fw]
theorem So(n:Ag)(f:Ag->Ai):(A1 (n+1)).all f=(f 0&&(A1 n).all λj=>f (j+1)):=by
 rw[FO,DS,Xj];rfl
theorem Md:∀{ds es:Ac D},ds.length=es.length->eqDs ds es=(A1 ds.length).all λj=>eqD (ds.getD j .non) (es.getD j .non)
 |[],[],_=>rfl
 |d::ds,e::es,h=>by
  rw[Pf,Md (ds:=ds) (es:=es) (by simpa using h),AY,So]
  rfl
 |[],_::_,h=>by cases h
 |_::_,[],h=>by cases h
theorem JZ{ds:Ac D}{its:Ac Aj}(r:Reps K CL H A0 xs ds)(rv:A6 xs its)(h:j<its.length):∃ x,Rep K CL H A0 x (ds.getD j .non)/\Bu x its[j]:=by
 have e1:=rv.length;have e2:=r.length;have hd:ds[j]?=Ab (ds.getD j .non):=by
  rw[DT,B1 (by omega)];rfl
 obtain⟨x,hx,q⟩:=r.get hd;obtain⟨u,hu,ru⟩:=rv.get hx;refine⟨x,q,?_⟩;rw[B1 h]at hu;cases hu;exact ru
theorem JX{ds:Ac D}(h:ds.all (flD n)=Aa)(j:Ag):flD n (ds.getD j .non)=Aa:=by
 rw[DT];cases e:ds[j]? with
 |none=>cases n<;>rfl
 |some d=>exact Ec.mp h d (D3 e)
def Cv(B:AZ)(s:Aq)(u t:Aj)(k:Ai):Prop:=Kq B s u t k/\Gj B s u t k/\IS B s u t (!k)
section
variable{B:AZ}{s:Aq}
open SeqAt
theorem zS:Cv B s .none .none Aa:=⟨RcAt.none_none,EqAt.same _,RcNeAt.none_none⟩
theorem yK(a b:Ai):Cv B s (.bool a) (.bool b) (a==b):=⟨RcAt.bool_bool _ _,EqAt.bool_bool _ _,RcNeAt.bool_bool _ _⟩
theorem zV(b:Ai):Cv B s .none (.bool b) Ad:=⟨RcAt.none_bool _,EqAt.none_bool _,RcNeAt.none_bool _⟩
theorem ar(b:Ai):Cv B s (.bool b) .none Ad:=⟨RcAt.bool_none _,EqAt.bool_none _,RcNeAt.bool_none _⟩
theorem ai(a:Ae)(t:Cr)(b:Ae)(u:Cr):Cv B s (.int a t) (.int b u) (a==b):=⟨RcAt.int_int _ _ _ _,EqAt.int_int _ _ _ _,RcNeAt.int_int _ _ _ _⟩
theorem zK(a:Ak)(t:Cr)(b:Ak)(u:Cr):Cv B s (.str a t) (.str b u) (a==b):=⟨RcAt.str_str _ _ _ _,EqAt.str_str _ _ _ _,RcNeAt.str_str _ _ _ _⟩
theorem af(a:Ae)(t:Cr)(b:Ak)(u:Cr):Cv B s (.int a t) (.str b u) Ad:=⟨RcAt.int_str _ _ _ _,EqAt.int_str _ _ _ _,RcNeAt.int_str _ _ _ _⟩
theorem zN(a:Ak)(t:Cr)(b:Ae)(u:Cr):Cv B s (.str a t) (.int b u) Ad:=⟨RcAt.str_int _ _ _ _,EqAt.str_int _ _ _ _,RcNeAt.str_int _ _ _ _⟩
theorem zU(b:Ae)(u:Cr):Cv B s .none (.int b u) Ad:=⟨RcAt.none_int _ _,EqAt.none_int _ _,RcNeAt.none_int _ _⟩
theorem ag(b:Ae)(u:Cr):Cv B s (.int b u) .none Ad:=⟨RcAt.int_none _ _,EqAt.int_none _ _,RcNeAt.int_none _ _⟩
theorem zR(b:Ak)(u:Cr):Cv B s .none (.str b u) Ad:=⟨RcAt.none_str _ _,EqAt.none_str _ _,RcNeAt.none_str _ _⟩
theorem zL(b:Ak)(u:Cr):Cv B s (.str b u) .none Ad:=⟨RcAt.str_none _ _,EqAt.str_none _ _,RcNeAt.str_none _ _⟩
theorem yJ(a:Ai)(b:Ae)(u:Cr):Cv B s (.bool a) (.int b u) (b2i a==b):=⟨RcAt.bool_int _ _ _,EqAt.bool_int _ _ _,RcNeAt.bool_int _ _ _⟩
theorem aj(a:Ai)(b:Ae)(u:Cr):Cv B s (.int b u) (.bool a) (b==b2i a):=⟨RcAt.int_bool _ _ _,EqAt.int_bool _ _ _,RcNeAt.int_bool _ _ _⟩
theorem aq(a:Ai)(b:Ak)(u:Cr):Cv B s (.bool a) (.str b u) Ad:=⟨RcAt.bool_str _ _ _,EqAt.bool_str _ _ _,RcNeAt.bool_str _ _ _⟩
theorem zP(a:Ai)(b:Ak)(u:Cr):Cv B s (.str b u) (.bool a) Ad:=⟨RcAt.str_bool _ _ _,EqAt.str_bool _ _ _,RcNeAt.str_bool _ _ _⟩
variable{l:Ah}{items:A7 Aj}
theorem zY(h:s.heap.IsList l items)(hu:B.units<Bx):Cv B s (.ref l) .none Ad:=⟨RcAt.list_none h hu,EqAt.list_none h hu,RcNeAt.list_none h hu⟩
theorem zT(h:s.heap.IsList l items)(hu:B.units<Bx):Cv B s .none (.ref l) Ad:=⟨RcAt.none_list h hu,EqAt.none_list h hu,RcNeAt.none_list h hu⟩
theorem aa(b:Ai)(h:s.heap.IsList l items)(hu:B.units<Bx):Cv B s (.ref l) (.bool b) Ad:=⟨RcAt.list_bool b h hu,EqAt.list_bool b h hu,RcNeAt.list_bool b h hu⟩
theorem yI(b:Ai)(h:s.heap.IsList l items)(hu:B.units<Bx):Cv B s (.bool b) (.ref l) Ad:=⟨RcAt.bool_list b h hu,EqAt.bool_list b h hu,RcNeAt.bool_list b h hu⟩
theorem zZ(b:Ae)(u:Cr)(h:s.heap.IsList l items)(hu:B.units<Bx):Cv B s (.ref l) (.int b u) Ad:=⟨RcAt.list_int b u h hu,EqAt.list_int b u h hu,RcNeAt.list_int b u h hu⟩
theorem ah(b:Ae)(u:Cr)(h:s.heap.IsList l items)(hu:B.units<Bx):Cv B s (.int b u) (.ref l) Ad:=⟨RcAt.int_list b u h hu,EqAt.int_list b u h hu,RcNeAt.int_list b u h hu⟩
theorem zX(b:Ak)(u:Cr)(h:s.heap.IsList l items)(hu:B.units<Bx):Cv B s (.ref l) (.str b u) Ad:=⟨RcAt.list_str b u h hu,EqAt.list_str b u h hu,RcNeAt.list_str b u h hu⟩
theorem zM(b:Ak)(u:Cr)(h:s.heap.IsList l items)(hu:B.units<Bx):Cv B s (.str b u) (.ref l) Ad:=⟨RcAt.str_list b u h hu,EqAt.str_list b u h hu,RcNeAt.str_list b u h hu⟩
theorem xF(h:s.heap.IsTuple l items)(hu:B.units<Bx):Cv B s (.ref l) .none Ad:=⟨RcAt.tuple_none h hu,EqAt.tuple_none h hu,RcNeAt.tuple_none h hu⟩
theorem zQ(h:s.heap.IsTuple l items)(hu:B.units<Bx):Cv B s .none (.ref l) Ad:=⟨RcAt.none_tuple h hu,EqAt.none_tuple h hu,RcNeAt.none_tuple h hu⟩
theorem xI(b:Ai)(h:s.heap.IsTuple l items)(hu:B.units<Bx):Cv B s (.ref l) (.bool b) Ad:=⟨RcAt.tuple_bool b h hu,EqAt.tuple_bool b h hu,RcNeAt.tuple_bool b h hu⟩
theorem ao(b:Ai)(h:s.heap.IsTuple l items)(hu:B.units<Bx):Cv B s (.bool b) (.ref l) Ad:=⟨RcAt.bool_tuple b h hu,EqAt.bool_tuple b h hu,RcNeAt.bool_tuple b h hu⟩
theorem xH(b:Ae)(u:Cr)(h:s.heap.IsTuple l items)(hu:B.units<Bx):Cv B s (.ref l) (.int b u) Ad:=⟨RcAt.tuple_int b u h hu,EqAt.tuple_int b u h hu,RcNeAt.tuple_int b u h hu⟩
theorem ac(b:Ae)(u:Cr)(h:s.heap.IsTuple l items)(hu:B.units<Bx):Cv B s (.int b u) (.ref l) Ad:=⟨RcAt.int_tuple b u h hu,EqAt.int_tuple b u h hu,RcNeAt.int_tuple b u h hu⟩
theorem xE(b:Ak)(u:Cr)(h:s.heap.IsTuple l items)(hu:B.units<Bx):Cv B s (.ref l) (.str b u) Ad:=⟨RcAt.tuple_str b u h hu,EqAt.tuple_str b u h hu,RcNeAt.tuple_str b u h hu⟩
theorem zJ(b:Ak)(u:Cr)(h:s.heap.IsTuple l items)(hu:B.units<Bx):Cv B s (.str b u) (.ref l) Ad:=⟨RcAt.str_tuple b u h hu,EqAt.str_tuple b u h hu,RcNeAt.str_tuple b u h hu⟩
theorem zW(h:s.heap.IsList l items)(h2:s.heap.IsTuple b items2)(hu:B.units<Bx):Cv B s (.ref l) (.ref b) Ad:=⟨RcAt.list_tuple h h2 hu,EqAt.list_tuple h h2 hu,RcNeAt.list_tuple h h2 hu⟩
theorem xG(h:s.heap.IsTuple l items)(h2:s.heap.IsList b items2)(hu:B.units<Bx):Cv B s (.ref l) (.ref b) Ad:=⟨RcAt.tuple_list h h2 hu,EqAt.tuple_list h h2 hu,RcNeAt.tuple_list h h2 hu⟩
end
end
section
variable{X:Cx}{CL:ClA}{W:XW}
theorem Jk(x:PlainL h a its):h.IsList a its:=let ⟨o,n,e,c,_,d⟩:=x;⟨o,e,c,n,d⟩
def bQ(X:Cx)(CL:ClA)(H:Hp)(s:Aq)(d:D)(u:Aj):Prop:=match d with
  |.non=>u=.none
  |.bl b=>u=.bool b
  |.int i=>∃ t,u=.int i t
  |.str x=>∃ t,u=.str x t
  |.tup ds=>∃ a xs its,u=.ref a/\Reps X.K CL H A0 xs ds/\A6 xs its/\s.heap.IsTuple a its.toArray
  |.lst ds=>∃ a xs its,u=.ref a/\Reps X.K CL H A0 xs ds/\A6 xs its/\s.heap.IsList a its.toArray
  |_=>AU
theorem UV(I:Inv X pI Y H s)(hd:flD n d=Aa)(r:Rep X.K CL H A0 v d)(q:Bu v u):bQ X CL H s d u:=by
 cases d with
 |non=>cases r;exact q
 |bl b=>cases r;exact q
 |int b=>cases r;exact q
 |str b=>cases r;exact q
 |tup ds=>
  obtain⟨a,xs,rfl,_,sq,r⟩:=r;obtain⟨its,rv,p,_⟩:=I.tuple sq;cases q;exact⟨a,xs,its,rfl,r,rv,p⟩
 |lst ds=>
  obtain⟨a,xs,rfl,_,sq,r⟩:=r;obtain⟨its,rv,p,_⟩:=I.list sq;cases q;exact⟨a,xs,its,rfl,r,rv,Jk p⟩
 |obj=>cases n<;>cases hd
 |exc=>cases n<;>cases hd
 |dic=>cases n<;>cases hd
theorem jH{B:AZ}{its:Ac Aj}{ds es:Ac D}(hl:s.heap.IsList l its.toArray)(hb:s.heap.IsList b its2.toArray)(e1:its.length=ds.length)(e2:its2.length=es.length)(hu:B.units<Bx)(hs:l=b->eqDs ds es=Aa)(he:∀ j (h1:j<its.length) (h2:j<its2.length),Gj B.in1 s its[j] its2[j] (eqD (ds.getD j .non) (es.getD j .non))):Cv B s (.ref l) (.ref b) (eqDs ds es):=by
 have rc:Kq B s (.ref l) (.ref b) (eqDs ds es):=by
  by_cases hz:its.length=its2.length
  .have q:=SeqAt.RcAt.lists (e:=λj=>eqD (ds.getD j .non) (es.getD j .non)) hl hb (by simpa using hz) hu (λj h1 h2=>by simpa using he j (by simpa using h1) (by simpa using h2))
   rw[Md (by omega)]
   have e:its.toArray.size=ds.length:=by simpa using e1
   rw[e]at q;exact q
  .rw[Mc (by omega)]
   exact SeqAt.RcAt.lists_lengths hl hb (by simpa using hz) hu
 have ne:IS B s (.ref l) (.ref b) (!eqDs ds es):=by
  by_cases hz:its.length=its2.length
  .have q:=SeqAt.RcNeAt.lists (e:=λj=>eqD (ds.getD j .non) (es.getD j .non)) hl hb (by simpa using hz) hu (λj h1 h2=>by simpa using he j (by simpa using h1) (by simpa using h2))
   rw[Md (by omega)]
   have e:its.toArray.size=ds.length:=by simpa using e1
   rw[e]at q;exact q
  .rw[Mc (by omega)]
   exact SeqAt.RcNeAt.lists_lengths hl hb (by simpa using hz) hu
 refine⟨rc,?_,ne⟩;by_cases hlb:l=b
 .rw[hs hlb,hlb];exact Y_5 _
 .exact Y_4 hlb rc
theorem jG{B:AZ}{its:Ac Aj}{ds es:Ac D}(hl:s.heap.IsTuple l its.toArray)(hb:s.heap.IsTuple b its2.toArray)(e1:its.length=ds.length)(e2:its2.length=es.length)(hu:B.units<Bx)(hs:l=b->eqDs ds es=Aa)(he:∀ j (h1:j<its.length) (h2:j<its2.length),Gj B.in1 s its[j] its2[j] (eqD (ds.getD j .non) (es.getD j .non))):Cv B s (.ref l) (.ref b) (eqDs ds es):=by
 have rc:Kq B s (.ref l) (.ref b) (eqDs ds es):=by
  have q:=SeqAt.RcAt.tuples (e:=λj=>eqD (ds.getD j .non) (es.getD j .non)) hl hb hu (λj h1 h2=>by simpa using he j (by simpa using h1) (by simpa using h2))
  have e:its.toArray.size=ds.length:=by simpa using e1
  have e':its2.toArray.size=es.length:=by simpa using e2
  rw[e,e']at q;by_cases hz:ds.length=es.length
  .rw[Md hz];rw[hz,XS,CF,W6]at q;rw[hz];exact q
  .rw[Mc hz];rw[Cw.mpr hz,Fw]at q;exact q
 have ne:IS B s (.ref l) (.ref b) (!eqDs ds es):=by
  have q:=SeqAt.RcNeAt.tuples (e:=λj=>eqD (ds.getD j .non) (es.getD j .non)) hl hb hu (λj h1 h2=>by simpa using he j (by simpa using h1) (by simpa using h2))
  have e:its.toArray.size=ds.length:=by simpa using e1
  have e':its2.toArray.size=es.length:=by simpa using e2
  rw[e,e']at q;by_cases hz:ds.length=es.length
  .rw[Md hz];rw[hz,XS,CF,W6]at q;rw[hz];exact q
  .rw[Mc hz];rw[Cw.mpr hz,Fw]at q;exact q
 refine⟨rc,?_,ne⟩;by_cases hlb:l=b
 .rw[hs hlb,hlb];exact Y_5 _
 .exact Y_4 hlb rc
theorem Mk{pI:Pn}{Y:L2.St}{H:Hp}{s:Aq}(I:Inv X pI Y H s):∀(n:Ag)(d e:D)(v w':V)(u t:Aj)(B:AZ),flD n d=Aa->flD n e=Aa->Rep X.K CL H A0 v d->Rep X.K CL H A0 w' e->Bu v u->Bu w' t->B.units+n<Bx->Cv B s u t (eqD d e)
  |n,d,e,v,w',u,t,B,hd,he,r,q,rv,rw',hu=>by
    have hu0:B.units<Bx:=by omega
    have sd:=UV I hd r rv;have se:=UV I he q rw'
    match d,e,sd,se with
    |.non,.non,s1,s2=>cases s1;cases s2;exact zS
    |.non,.bl b,s1,s2=>cases s1;cases s2;exact zV b
    |.non,.int b,s1,s2=>cases s1;obtain⟨_,rfl⟩:=s2;exact zU b _
    |.non,.str b,s1,s2=>cases s1;obtain⟨_,rfl⟩:=s2;exact zR b _
    |.non,.tup es,s1,s2=>cases s1;obtain⟨_,_,_,rfl,_,_,p⟩:=s2;exact zQ p hu0
    |.non,.lst es,s1,s2=>cases s1;obtain⟨_,_,_,rfl,_,_,p⟩:=s2;exact zT p hu0
    |.bl a,.non,s1,s2=>cases s1;cases s2;exact ar a
    |.bl a,.bl b,s1,s2=>cases s1;cases s2;exact yK a b
    |.bl a,.int b,s1,s2=>cases s1;obtain⟨_,rfl⟩:=s2;exact yJ a b _
    |.bl a,.str b,s1,s2=>cases s1;obtain⟨_,rfl⟩:=s2;exact aq a b _
    |.bl a,.tup es,s1,s2=>cases s1;obtain⟨_,_,_,rfl,_,_,p⟩:=s2;exact ao a p hu0
    |.bl a,.lst es,s1,s2=>cases s1;obtain⟨_,_,_,rfl,_,_,p⟩:=s2;exact yI a p hu0
    |.int a,.non,s1,s2=>obtain⟨_,rfl⟩:=s1;cases s2;exact ag a _
    |.int a,.bl b,s1,s2=>obtain⟨_,rfl⟩:=s1;cases s2;exact aj b a _
    |.int a,.int b,s1,s2=>obtain⟨_,rfl⟩:=s1;obtain⟨_,rfl⟩:=s2;exact ai a _ b _
    |.int a,.str b,s1,s2=>obtain⟨_,rfl⟩:=s1;obtain⟨_,rfl⟩:=s2;exact af a _ b _
    |.int a,.tup es,s1,s2=>obtain⟨_,rfl⟩:=s1;obtain⟨_,_,_,rfl,_,_,p⟩:=s2;exact ac a _ p hu0
    |.int a,.lst es,s1,s2=>obtain⟨_,rfl⟩:=s1;obtain⟨_,_,_,rfl,_,_,p⟩:=s2;exact ah a _ p hu0
    |.str a,.non,s1,s2=>obtain⟨_,rfl⟩:=s1;cases s2;exact zL a _
    |.str a,.bl b,s1,s2=>obtain⟨_,rfl⟩:=s1;cases s2;exact zP b a _
    |.str a,.int b,s1,s2=>obtain⟨_,rfl⟩:=s1;obtain⟨_,rfl⟩:=s2;exact zN a _ b _
    |.str a,.str b,s1,s2=>obtain⟨_,rfl⟩:=s1;obtain⟨_,rfl⟩:=s2;exact zK a _ b _
    |.str a,.tup es,s1,s2=>obtain⟨_,rfl⟩:=s1;obtain⟨_,_,_,rfl,_,_,p⟩:=s2;exact zJ a _ p hu0
    |.str a,.lst es,s1,s2=>obtain⟨_,rfl⟩:=s1;obtain⟨_,_,_,rfl,_,_,p⟩:=s2;exact zM a _ p hu0
    |.tup ds,.non,s1,s2=>cases s2;obtain⟨_,_,_,rfl,_,_,p⟩:=s1;exact xF p hu0
    |.tup ds,.bl b,s1,s2=>cases s2;obtain⟨_,_,_,rfl,_,_,p⟩:=s1;exact xI b p hu0
    |.tup ds,.int b,s1,s2=>obtain⟨_,rfl⟩:=s2;obtain⟨_,_,_,rfl,_,_,p⟩:=s1;exact xH b _ p hu0
    |.tup ds,.str b,s1,s2=>obtain⟨_,rfl⟩:=s2;obtain⟨_,_,_,rfl,_,_,p⟩:=s1;exact xE b _ p hu0
    |.tup ds,.lst es,s1,s2=>obtain⟨_,_,_,rfl,_,_,p⟩:=s1;obtain⟨_,_,_,rfl,_,_,p2⟩:=s2;exact xG p p2 hu0
    |.lst ds,.non,s1,s2=>cases s2;obtain⟨_,_,_,rfl,_,_,p⟩:=s1;exact zY p hu0
    |.lst ds,.bl b,s1,s2=>cases s2;obtain⟨_,_,_,rfl,_,_,p⟩:=s1;exact aa b p hu0
    |.lst ds,.int b,s1,s2=>obtain⟨_,rfl⟩:=s2;obtain⟨_,_,_,rfl,_,_,p⟩:=s1;exact zZ b _ p hu0
    |.lst ds,.str b,s1,s2=>obtain⟨_,rfl⟩:=s2;obtain⟨_,_,_,rfl,_,_,p⟩:=s1;exact zX b _ p hu0
    |.lst ds,.tup es,s1,s2=>obtain⟨_,_,_,rfl,_,_,p⟩:=s1;obtain⟨_,_,_,rfl,_,_,p2⟩:=s2;exact zW p p2 hu0
    |.tup ds,.tup es,s1,s2=>
      match n,hd,he,hu with
      |n+1,hd,he,hu=>
        obtain⟨a,xs,its,rfl,r1,v1,p1⟩:=s1;obtain⟨b,ys,its2,rfl,r2,v2,p2⟩:=s2;have l1:=v1.length;have l2:=r1.length;have l3:=v2.length;have l4:=r2.length
        refine jG p1 p2 (by omega) (by omega) hu0 (λhab=>?_) λj h1 h2=>?_
        · have e1:v=.ref a:=Bu.inj rv rfl;have e2:w'=.ref b:=Bu.inj rw' rfl;subst e1 e2 hab;have z:=Nj I (n+1) _ _ hd he r q
          injection z with z
          rw[z];exact eqDs_refl n es he
        · obtain⟨x,rx,qx⟩:=JZ r1 v1 h1;obtain⟨y,ry,qy⟩:=JZ r2 v2 h2;exact(Mk I n _ _ x y _ _ B.in1 (JX hd j) (JX he j) rx ry qx qy (by show B.units+1+n<Bx;omega)).2.1
    |.lst ds,.lst es,s1,s2=>
      match n,hd,he,hu with
      |n+1,hd,he,hu=>
        obtain⟨a,xs,its,rfl,r1,v1,p1⟩:=s1;obtain⟨b,ys,its2,rfl,r2,v2,p2⟩:=s2;have l1:=v1.length;have l2:=r1.length;have l3:=v2.length;have l4:=r2.length
        refine jH p1 p2 (by omega) (by omega) hu0 (λhab=>?_) λj h1 h2=>?_
        · have e1:v=.ref a:=Bu.inj rv rfl;have e2:w'=.ref b:=Bu.inj rw' rfl;subst e1 e2 hab;have z:=Nj I (n+1) _ _ hd he r q
          injection z with z
          rw[z];exact eqDs_refl n es he
        · obtain⟨x,rx,qx⟩:=JZ r1 v1 h1;obtain⟨y,ry,qy⟩:=JZ r2 v2 h2;exact(Mk I n _ _ x y _ _ B.in1 (JX hd j) (JX he j) rx ry qx qy (by show B.units+1+n<Bx;omega)).2.1
    |.obj _ _,_,s1,_=>exact s1.elim
    |.exc _ _,_,s1,_=>exact s1.elim
    |.dic _,_,s1,_=>exact s1.elim
    |_,.obj _ _,_,s2=>exact s2.elim
    |_,.exc _ _,_,s2=>exact s2.elim
    |_,.dic _,_,s2=>exact s2.elim
end
section
variable{X:Cx}{CL:ClA}{W:XW}
theorem Nz(I:Inv X pI Y H s){ds:Ac D}{its:Ac Aj}(B:AZ)(hd:flD n d=Aa)(hs:ds.all (flD n)=Aa)(r:Reps X.K CL H A0 xs ds)(rv:A6 xs its)(q:Rep X.K CL H A0 v d)(qv:Bu v u)(hu:B.units+n<Bx):∃ e:Aj->Ai,(∀ y,y∈its.toArray->Gj B s y u (e y))/\its.toArray.any e=ds.any λy=>eqD y d:=by
 have l1:=rv.length;have l2:=r.length
 have key:∀ y,y∈its->∃ k:Ai,Gj B s y u k/\∀ j (h:j<its.length),its[j]=y->eqD (ds.getD j .non) d=k:=λy hy=>by
  obtain⟨j,hj,rfl⟩:=GE hy;obtain⟨x,rx,qx⟩:=JZ r rv hj;refine⟨eqD (ds.getD j .non) d,(Mk I n _ _ x v _ _ B (JX hs j) hd rx q qx qv hu).2.1,λj' hj' e=>?_⟩
  obtain⟨x',rx',qx'⟩:=JZ r rv hj';rw[e]at qx';have z:=Bu.inj qx qx';subst z;rw[Nj I n _ _ (JX hs j') (JX hs j) rx' rx]
 have key2:∀ y,∃ k:Ai,y∈its->Gj B s y u k/\∀ j (h:j<its.length),its[j]=y->eqD (ds.getD j .non) d=k:=λy=>by
  by_cases hy:y∈its
  .obtain⟨k,hk⟩:=key y hy;exact⟨k,λ_=>hk⟩
  .exact⟨Aa,λh=>absurd h hy⟩
 refine⟨λy=>Xa (key2 y),λy hy=>(DN (key2 y) (by simpa using hy)).1,?_⟩
 rw[Cy];simp only[List.any_toArray,BQ];constructor
 .rintro⟨y,hy,hk⟩;obtain⟨j,hj,rfl⟩:=GE hy;have z:=(DN (key2 its[j]) hy).2 j hj rfl;rw[hk]at z;refine⟨ds.getD j .non,?_,z⟩;rw[DT,B1 (by omega)]
  exact C8 _
 .rintro⟨y,hy,hk⟩;obtain⟨j,hj,rfl⟩:=GE hy;have hj':j<its.length:=by omega
  refine⟨its[j],C8 _,?_⟩;have z:=(DN (key2 its[j]) (C8 _)).2 j hj' rfl;rw[<-z,DT,B1 hj];exact hk
theorem M0{g:Ae->Ae->Ai}(ho:OpR X (B4 op) (rI0 λi j=>.bl (g i j)))(hg:∀ dx dy,(∃ i j,dx=.int i/\dy=.int j/\BJ op dx dy=.ok (.bl (g i j)))\/BJ op dx dy=.bad):OpD X CL W (B4 op) (BJ op):=by
 intro A pI s Y H x y v u Q I rx ry ⟨hA,dx,dy,hx,hy,p⟩;rcases hg dx dy with ⟨i,j,rfl,rfl,e⟩|e
 .have ex:=hx.int_of;have ey:=hy.int_of
  subst ex ey;rw[e]at p;exact ho pI s Y H _ _ v u Q I rx ry ⟨i,j,rfl,rfl,p _ H (AB.refl H) rfl⟩
 .rw[e]at p;exact p.elim
theorem VL{x:V}(h:Cj X.K CL H A x d)(hd:d≠.non):x≠.non:=by
 rintro rfl;have h:=h.plain;cases d with
 |non=>exact hd rfl
 |tup=>obtain⟨_,_,e,_⟩:=h;cases e
 |lst=>obtain⟨_,_,e,_⟩:=h;cases e
 |obj=>obtain⟨_,_,_,_,e,_⟩:=h;cases e
 |exc=>obtain⟨_,_,_,e,_⟩:=h;cases e
 |dic=>obtain⟨_,_,e,_⟩:=h;cases e
 |_=>cases h
theorem K6(hu:X.A.units+64<Bx)(op:CJ):OpD X CL W (B4 op) (BJ op):=by
 cases op with
 |Eq=>
  intro A pI s Y H x y v u Q I rx ry ⟨hA,dx,dy,hx,hy,p⟩;rw[ZY]at p;split at p
  .rename_i h;simp only[Al]at h;exact(Mk I 5 dx dy x y v u X.A h.1 h.2 hx.plain hy.plain rx ry (by omega)).1 X.prog X.w X.xe _ ⟨.bl _,H,I,rfl,p _ H (AB.refl H) rfl⟩
  .exact p.elim
 |NotEq=>
  intro A pI s Y H x y v u Q I rx ry ⟨hA,dx,dy,hx,hy,p⟩;rw[bp]at p;split at p
  .rename_i h;simp only[Al]at h;exact(Mk I 5 dx dy x y v u X.A h.1 h.2 hx.plain hy.plain rx ry (by omega)).2.2 X.prog X.w X.xe _ ⟨.bl _,H,I,rfl,p _ H (AB.refl H) rfl⟩
  .exact p.elim
 |Lt=>
  refine M0 yC λdx dy=>?_
  cases dx with
  |int i=>
   cases dy with
   |int j=>exact .inl ⟨i,j,rfl,rfl,rfl⟩
   |_=>exact .inr rfl
  |_=>exact .inr rfl
 |LtE=>
  refine M0 yD λdx dy=>?_
  cases dx with
  |int i=>
   cases dy with
   |int j=>exact .inl ⟨i,j,rfl,rfl,rfl⟩
   |_=>exact .inr rfl
  |_=>exact .inr rfl
 |Gt=>
  refine M0 yE λdx dy=>?_
  cases dx with
  |int i=>
   cases dy with
   |int j=>exact .inl ⟨i,j,rfl,rfl,rfl⟩
   |_=>exact .inr rfl
  |_=>exact .inr rfl
 |GtE=>
  refine M0 yF λdx dy=>?_
  cases dx with
  |int i=>
   cases dy with
   |int j=>exact .inl ⟨i,j,rfl,rfl,rfl⟩
   |_=>exact .inr rfl
  |_=>exact .inr rfl
 |In=>
  intro A pI s Y H x y v u Q I rx ry ⟨hA,dx,dy,hx,hy,p⟩;cases dy with
  |lst es=>
   rw[aS]at p;split at p
   .rename_i h;simp only[Al]at h;obtain⟨a,xs,e,_,sq,r⟩:=hy.plain;subst e;cases ry;obtain⟨its,rv,pl,_⟩:=I.list sq;obtain⟨e,he,ha⟩:=Nz I (n:=5) X.A.in1 h.1 h.2 r rv hx.plain rx (by show X.A.units+1+5<Bx;omega)
    refine SeqAt.in_listAt e (Jk pl) he ?_;rw[ha];exact⟨.bl _,H,I,rfl,p _ H (AB.refl H) rfl⟩
   .exact p.elim
  |tup es=>
   rw[aR]at p;split at p
   .rename_i h;simp only[Al]at h;obtain⟨a,xs,e,_,sq,r⟩:=hy.plain;subst e;cases ry;obtain⟨its,rv,pl,_⟩:=I.tuple sq;obtain⟨e,he,ha⟩:=Nz I (n:=5) X.A.in1 h.1 h.2 r rv hx.plain rx (by show X.A.units+1+5<Bx;omega)
    refine SeqAt.in_tupleAt e pl he ?_;rw[ha];exact⟨.bl _,H,I,rfl,p _ H (AB.refl H) rfl⟩
   .exact p.elim
  |dic kvs=>
   obtain⟨a,es,rfl,hH,rk⟩:=hy.dic_of;have p':Ba (λH=>Rep X.K CL H A) W H (match Ea dx with|some k=>.ok (.bl (kvs.any λp=>p.1==k))|none=>.bad) Q:=p
   cases ek:Ea dx with
   |none=>rw[ek]at p';exact p'.elim
   |some k=>
    rw[ek]at p';obtain⟨ka,rfl,hk⟩:=KR hx ek;cases rx;cases ry;exact vG (by omega) I hH rk hk λs' I'=>⟨.bl _,H,I',rfl,p' _ H (AB.refl H) rfl⟩
  |_=>exact p.elim
 |NotIn=>
  intro A pI s Y H x y v u Q I rx ry ⟨hA,dx,dy,hx,hy,p⟩;cases dy with
  |lst es=>
   rw[bj]at p;split at p
   .rename_i h;simp only[Al]at h;obtain⟨a,xs,e,_,sq,r⟩:=hy.plain;subst e;cases ry;obtain⟨its,rv,pl,_⟩:=I.list sq;obtain⟨e,he,ha⟩:=Nz I (n:=5) X.A.in1 h.1 h.2 r rv hx.plain rx (by show X.A.units+1+5<Bx;omega)
    refine SeqAt.notIn_listAt e (Jk pl) he ?_;rw[ha];exact⟨.bl _,H,I,rfl,p _ H (AB.refl H) rfl⟩
   .exact p.elim
  |tup es=>
   rw[bh]at p;split at p
   .rename_i h;simp only[Al]at h;obtain⟨a,xs,e,_,sq,r⟩:=hy.plain;subst e;cases ry;obtain⟨its,rv,pl,_⟩:=I.tuple sq;obtain⟨e,he,ha⟩:=Nz I (n:=5) X.A.in1 h.1 h.2 r rv hx.plain rx (by show X.A.units+1+5<Bx;omega)
    refine SeqAt.notIn_tupleAt e pl he ?_;rw[ha];exact⟨.bl _,H,I,rfl,p _ H (AB.refl H) rfl⟩
   .exact p.elim
  |dic kvs=>
   obtain⟨a,es,rfl,hH,rk⟩:=hy.dic_of;have p':Ba (λH=>Rep X.K CL H A) W H (match Ea dx with|some k=>.ok (.bl (!kvs.any λp=>p.1==k))|none=>.bad) Q:=p
   cases ek:Ea dx with
   |none=>rw[ek]at p';exact p'.elim
   |some k=>
    rw[ek]at p';obtain⟨ka,rfl,hk⟩:=KR hx ek;cases rx;cases ry;exact oR (by omega) I hH rk hk λs' I'=>⟨.bl _,H,I',rfl,p' _ H (AB.refl H) rfl⟩
  |_=>exact p.elim
 |Is=>
  intro A pI s Y H x y v u Q I rx ry ⟨hA,dx,dy,hx,hy,p⟩;cases dy with
  |non=>
   have ey:=hy.non_of;subst ey;refine tO pI s Y H _ _ v u Q I rx ry ⟨rfl,?_⟩;cases dx with
   |non=>
    have ex:=hx.non_of;subst ex;exact p _ H (AB.refl H) rfl
   |exc=>exact p.elim
   |dic=>exact p.elim
   |_=>rw[Ca (VL hx (by simp))];exact p _ H (AB.refl H) rfl
  |bl b=>
   cases dx with
   |bl a=>
    have ey:=hy.bl_of;have ex:=hx.bl_of;subst ex ey;cases rx;cases ry;refine wpAny_is_plain rfl ⟨.bl (a==b),H,I,?_,p _ H (AB.refl H) rfl⟩;cases a<;>cases b<;>rfl
   |_=>exact p.elim
  |_=>cases dx<;>exact p.elim
 |IsNot=>
  intro A pI s Y H x y v u Q I rx ry ⟨hA,dx,dy,hx,hy,p⟩;cases dy with
  |non=>
   have ey:=hy.non_of;subst ey;refine mC pI s Y H _ _ v u Q I rx ry ⟨rfl,?_⟩;cases dx with
   |non=>
    have ex:=hx.non_of;subst ex;exact p _ H (AB.refl H) rfl
   |exc=>exact p.elim
   |dic=>exact p.elim
   |_=>rw[Ca (VL hx (by simp))];exact p _ H (AB.refl H) rfl
  |bl b=>
   cases dx with
   |bl a=>
    have ey:=hy.bl_of;have ex:=hx.bl_of;subst ex ey;cases rx;cases ry;refine wpAny_isNot_plain rfl ⟨.bl (!(a==b)),H,I,?_,p _ H (AB.refl H) rfl⟩;cases a<;>cases b<;>rfl
   |_=>exact p.elim
  |_=>cases dx<;>exact p.elim
end
section
variable{X:Cx}{CL:ClA}{W:XW}{a b c:Am}{fa fb fc:Rho->R D}{pos:AJ}
theorem C5.bind{f:D->R Ai}{Q:Ai->Hp->Prop}{Q':VK}(h:C5 W H (r.bind f) Q)(k:∀ d v H',r=.ok d->AB H H'->Rp H' v d->C5 W H' (f d) Q->Q' v H'):Ba Rp W H r Q':=by
 cases r with
 |ok d=>exact λv H2 s2 q=>k d v H2 rfl s2 q (C5.same s2 h)
 |exn x=>exact h
 |bad=>exact h
theorem C5.bindB{r:R Ai}{f:Ai->R Ai}{Q:Ai->Hp->Prop}{Q':Ai->Hp->Prop}(h:C5 W H (r.bind f) Q)(k:∀ b H',r=.ok b->AB H H'->C5 W H' (f b) Q->Q' b H'):C5 W H r Q':=by
 cases r with
 |ok d=>exact λH2 s2=>k d H2 rfl s2 (C5.same s2 h)
 |exn x=>exact h
 |bad=>exact h
theorem Hv.bind{Rp:Hp->Ac V->Ac D->Prop}{r:R (Ac D)}{f:Ac D->R D}{Q':Ac V->Hp->Prop}(h:Ba Rq W H (r.bind f) Q)(k:∀ d v H',r=.ok d->AB H H'->Rp H' v d->Ba Rq W H' (f d) Q->Q' v H'):Hv Rp W H r Q':=by
 cases r with
 |ok d=>exact λv H2 s2 q=>k d v H2 rfl s2 q (Ba.same s2 h)
 |exn x=>exact h
 |bad=>exact h
theorem MP{f:Ai->R D}(h:Ba Rq W H ((DE d).bind f) Q):∃ c,d=.bl c/\Ba Rq W H (f c) Q:=by
 cases d with
 |bl c=>exact⟨c,rfl,h⟩
 |_=>exact h.elim
theorem Wb(ha:ST X CL W a fa):SE X CL W (.UnaryOp .Not a pos) (λZ=>(fa Z).bind λx=>(DE x).bind λb=>.ok (.bl (!b))):=λA=>PE.weak (tF (ha A)) λY H Q ⟨hA,Z,g,p⟩=>⟨hA,Z,g,Ba.bind p λd v H1 _ s1 r1 p1=>by
 obtain⟨c,rfl,p2⟩:=MP p1;exact⟨c,r1.bl_of,p2 _ H1 (AB.refl H1) rfl⟩⟩
theorem Qv{op}(ha:SE X CL W a fa):SE X CL W (.BoolOp op [a] pos) fa:=λA=>tE (ha A)
theorem Wd{rest:Ac Am}(ha:SE X CL W a fa)(hb:SE X CL W (.BoolOp .And (b::rest) pos) fb):SE X CL W (.BoolOp .And (a::b::rest) pos) (λZ=>(fa Z).bind λx=>(DE x).bind λc=>if c=Aa then fb Z else .ok (.bl Ad)):=
 λA=>PE.weak (tJ (ha A) (hb A)) λY H Q ⟨hA,Z,g,p⟩=>⟨hA,Z,g,Ba.bind p λd v H1 _ s1 r1 p1=>by
  obtain⟨c,rfl,p2⟩:=MP p1;refine⟨c,r1,?_⟩;cases c with
  |true=>exact⟨hA.same s1,Z,g.same s1,p2⟩
  | false=>exact p2 _ H1 (AB.refl H1) rfl⟩
theorem xC{rest:Ac Am}(ha:SE X CL W a fa)(hb:SE X CL W (.BoolOp .Or (b::rest) pos) fb):SE X CL W (.BoolOp .Or (a::b::rest) pos) (λZ=>(fa Z).bind λx=>(DE x).bind λc=>if c=Aa then .ok (.bl Aa) else fb Z):=
 λA=>PE.weak (zE (ha A) (hb A)) λY H Q ⟨hA,Z,g,p⟩=>⟨hA,Z,g,Ba.bind p λd v H1 _ s1 r1 p1=>by
  obtain⟨c,rfl,p2⟩:=MP p1;refine⟨c,r1,?_⟩;cases c with
  |false=>exact⟨hA.same s1,Z,g.same s1,p2⟩
  | true=>exact p2 _ H1 (AB.refl H1) rfl⟩
theorem fV{op':CJ}(hu:X.A.units+64<Bx)(ha:ST X CL W a fa)(hb:ST X CL W b fb)(hc:ST X CL W c fc)(hm:IW [op,op'] [b,c]=Ad):SE X CL W (.Compare a [op,op'] [b,c] pos) (λZ=>(fa Z).bind λx=>(fb Z).bind λy=>(BJ op x y).bind λz=>(DE z).bind λk=>if k=Aa then (fc Z).bind λu=>BJ op' y u else .ok (.bl Ad)):=
 λA=>PE.weak (fE (K6 hu op A) (K6 hu op' A) (ha A) (hb A) (hc A) hm) λY H Q ⟨hA,Z,g,p⟩=>⟨hA,Z,g,Ba.bind p λdx x H1 _ s1 r1 p1=>⟨hA.same s1,Z,g.same s1,Ba.bind p1 λdy y H2 _ s2 r2 p2=>
  ⟨(hA.same s1).same s2,dx,dy,r1.same s2,r2,Ba.bind p2 λdz z H3 _ s3 r3 p3=>by
   obtain⟨k,rfl,p4⟩:=MP p3;refine⟨k,r3,?_⟩;cases k with
   |false=>exact p4 _ H3 (AB.refl H3) rfl
   | true=>exact⟨((hA.same s1).same s2).same s3,Z,((g.same s1).same s2).same s3,Ba.bind p4 λdu u H4 _ s4 r4 p5=>⟨(((hA.same s1).same s2).same s3).same s4,dy,du,(r2.same s3).same s4,r4,p5⟩⟩⟩⟩⟩
theorem oC{xs:Ac D}{i:Ae}(h:Dx xs i=.ok d):∃ k,plD xs.length i=Ab k/\xs[k]?=Ab d:=by
 unfold Dx at h;split at h
 .rename_i k e;split at h
  .rename_i d' e';cases h;exact⟨k,e,e'⟩
  .cases h
 .cases h
theorem M8{xs:Ac D}{i:Ae}(h:Dx xs i=.exn x):AU:=by
 unfold Dx at h;split at h
 .split at h<;>cases h
 .cases h
theorem Vu{ds:Ac D}{i:Ae}(r:Reps K CL H A xs ds)(h:Dx ds i=.ok d):∃ v,atI xs i=Ab v/\Rep K CL H A v d:=by
 obtain⟨k,e,q⟩:=oC h;obtain⟨v,hv,rv⟩:=r.get q;refine⟨v,?_,rv⟩;unfold atI;have:ixN xs.length i=Ab k:=by rw[r.length];exact e
 rw[this];exact hv
theorem tX(hu:X.A.units+64<Bx)(hs:P5 b)(ha:ST X CL W a fa)(hb:ST X CL W b fb):SE X CL W (.Subscript a b pos) (λZ=>(fa Z).bind λx=>(fb Z).bind λy=>EH x y):=
 λA=>PE.weak (WD (r:=λx y H Q=>(RN X.K x y H Q\/RM X.K x y H Q)\/RO X.K CL A x y H Q) ((pJ.or VJ).or (vZ (by omega))) (ha A) (hb A) hs) λY H Q h=>by
  obtain⟨hA,Z,g,h⟩:=op2 h;refine⟨hA,Z,g,?_⟩;cases e:fa Z with
  |bad=>rw[e]at h;exact h
  |exn x=>rw[e]at h;exact h
  |ok dx0=>
   rw[e]at h;intro x H1 s1 r1;obtain⟨hA1,Z1,g1,h1⟩:=h x H1 s1 r1;refine⟨hA1,Z1,g1,?_⟩;cases e1:fb Z1 with
   |bad=>rw[e1]at h1;exact h1
   |exn x=>rw[e1]at h1;exact h1
   |ok dy0=>
    rw[e1]at h1;intro y H2 s2 r2;obtain⟨hA2,dx,dy,rx,ry,p⟩:=h1 y H2 s2 r2;cases dy with
    |int i=>
     have ey:=ry.int_of;subst ey;cases dx with
     |lst ds=>
      obtain⟨q,xs,rfl,sq,r⟩:=rx.lst_of;rw[ay]at p;cases e2:Dx ds i with
      |ok d=>
       rw[e2]at p;obtain⟨v,hv,rv⟩:=Vu r e2;exact .inl (.inl ⟨q,xs,i,v,rfl,rfl,sq,hv,p v H2 (AB.refl H2) rv⟩)
      |exn x=>exact(M8 e2).elim
      |bad=>rw[e2]at p;exact p.elim
     |tup ds=>
      obtain⟨q,xs,rfl,_,sq,r⟩:=rx.tup_of;rw[ax]at p;cases e2:Dx ds i with
      |ok d=>
       rw[e2]at p;obtain⟨v,hv,rv⟩:=Vu r e2;exact .inl (.inr ⟨q,xs,i,v,rfl,rfl,sq,hv,p v H2 (AB.refl H2) rv⟩)
      |exn x=>exact(M8 e2).elim
      |bad=>rw[e2]at p;exact p.elim
     |_=>exact p.elim
    |tup es=>
     cases dx with
     |dic kvs=>
      have p':Ba (λH=>Rep X.K CL H A) W H2 (match (Ea (.tup es)).bind (CB kvs) with|some d=>.ok d|none=>.bad) Q:=p
      cases ek:Ea (.tup es) with
      |none=>rw[ek]at p';exact p'.elim
      |some k=>
       rw[ek]at p';have p2:Ba (λH=>Rep X.K CL H A) W H2 (match CB kvs k with|some d=>.ok d|none=>.bad) Q:=p'
       cases eg:CB kvs k with
       |none=>rw[eg]at p2;exact p2.elim
       |some d=>
        rw[eg]at p2;obtain⟨a,es',rfl,hH,rk⟩:=rx.dic_of;obtain⟨ka,rfl,hk⟩:=KR ry ek;exact .inr ⟨a,ka,es',kvs,k,d,rfl,rfl,hH,rk,hk,eg,λv rv=>p2 v H2 (AB.refl H2) rv⟩
     |_=>exact p.elim
    |_=>cases dx<;>exact p.elim
theorem We:SA X CL W [] (λ_=>.ok []):=λA=>PA.weak Fh λY H Q ⟨hA,Z,g,p⟩=>p [] H (AB.refl H) trivial
theorem UW(ha:SE X CL W a fa)(hs:SA X CL W es fs)(hst:Ar (a::es) X.env=(Ad,eval a X.env)::Ar es X.env):SA X CL W (a::es) (λZ=>(fa Z).bind λx=>(fs Z).bind λxs=>.ok (x::xs)):=
 λA=>PA.weak (DL (ha A) (hs A) hst) λY H Q ⟨hA,Z,g,p⟩=>by
  dsimp only at p;refine⟨hA,Z,g,?_⟩;cases e:fa Z with
  |bad=>rw[e]at p;exact p
  |exn x=>rw[e]at p;exact p
  |ok d=>
   rw[e]at p;intro v H1 s1 r1;refine⟨hA.same s1,Z,g.same s1,?_⟩;cases e1:fs Z with
   |bad=>rw[R.bind_ok,e1]at p;exact p
   |exn x=>rw[R.bind_ok,e1]at p;exact λH2 s2=>p H2 (s1.trans s2)
   |ok ds=>
    rw[R.bind_ok,e1]at p;exact λvs H2 s2 r2=>p (v::vs) H2 (s1.trans s2) ⟨r1.same s2,r2⟩
theorem V9{k:Ag}(hs:SA X CL W es fs)(hz:∀ Z ds,fs Z=.ok ds->ds.length<=100000):SE X CL W (.Tuple es k pos) (λZ=>(fs Z).bind λxs=>.ok (.tup xs)):=
 λA=>PE.weak (QG (hs A)) λY H Q ⟨hA,Z,g,p⟩=>⟨hA,Z,g,Hv.bind p λds vs H1 e s1 r1 p1=>⟨by
  rw[r1.length,Eb];have:=hz Z ds e;omega,λq hq=>p1 _ _ (Fu hq _) (JR (hA.same s1) hq r1)⟩⟩
def Kd(W:XW)(H:Hp)(r:R (Ao Ae))(Q:Ao Ae->Hp->Prop):Prop:=match r with
  |.ok o=>∀ H',AB H H'->Q o H'
  |.exn x=>∀ H',AB H H'->W x H'
  |.bad=>AU
theorem Kd.bind{r:R (Ao Ae)}{f:Ao Ae->R D}(h:Ba Rq W H (r.bind f) Q)(k:∀ o H',r=.ok o->AB H H'->Ba Rq W H' (f o) Q->Q' o H'):Kd W H r Q':=by
 cases r with
 |ok d=>exact λH2 s2=>k d H2 rfl s2 (Ba.same s2 h)
 |exn x=>exact h
 |bad=>exact h
def SO(X:Cx)(CL:ClA)(W:XW)(e:Ao Am)(f:Rho->R (Ao Ae)):Prop:=∀ A,PO X e (λY H Q=>AOk H A/\∃ Z,Good X.K CL A Z Y H/\Kd W H (f Z) Q)
theorem PO.weak{e:Ao Am}{t t':TO}(h:PO X e t)(k:∀ Y H Q,t' Y H Q->t Y H Q):PO X e t':=λpI s Y H Q I q=>h pI s Y H Q I (k _ _ _ q)
theorem jX:SO X CL W Af (λ_=>.ok Af):=λA=>PO.weak lJ λY H Q ⟨hA,Z,g,p⟩=>p H (AB.refl H)
theorem jW(ha:ST X CL W a fa):SO X CL W (Ab a) (λZ=>(fa Z).bind λd=>(E2 d).bind λi=>.ok (Ab i)):=λA=>PO.weak (lI (ha A)) λY H Q ⟨hA,Z,g,p⟩=>by
 dsimp only at p;refine⟨hA,Z,g,?_⟩;cases e:fa Z with
 |bad=>rw[e]at p;exact p
 |exn x=>rw[e]at p;exact p
 |ok d=>
  rw[e]at p;intro v H1 s1 r1;cases d with
  |int i=>exact⟨i,r1.int_of,p H1 s1⟩
  |_=>exact p.elim
theorem U_3{ds:Ac D}(lo hi:Ao Ae)(r:Reps K CL H A xs ds):Reps K CL H A (Jw xs lo hi) (Lu ds lo hi):=by
 unfold Jw Lu;have e:∀ d o,HT.sIx xs.length d o=GU ds.length d o:=λd o=>by rw[r.length];cases o<;>rfl
 rw[e,e,r.length];exact(r.drop _).take _
end
section
variable{X:Cx}{CL:ClA}{W:XW}{a b c:Am}{fa fb fc:Rho->R D}{pos:AJ}
def GQ(K:Fg)(CL:ClA)(H:Hp)(A:Ah->Prop):Ac V->Ac D->Prop
 |[],[]=>Hq
 |v::vs,d::ds=>Cj K CL H A v d/\GQ K CL H A vs ds
 |_,_=>AU
theorem GQ.same{K:Fg}{H H':Hp}{A:Ah->Prop}(s:AB H H'):∀{vs:Ac V}{ds:Ac D},GQ K CL H A vs ds->GQ K CL H' A vs ds
 |[],[],h=>h
 |_::_,_::_,h=>⟨h.1.same s,GQ.same s h.2⟩
 |[],_::_,h=>h.elim
 |_::_,[],h=>h.elim
theorem GQ.one{vs:Ac V}(h:GQ K CL H A vs [d]):∃ v,vs=[v]/\Cj K CL H A v d:=by
 cases vs with
 |nil=>exact h.elim
 |cons v vs=>
  cases vs with
  |nil=>exact⟨v,rfl,h.1⟩
  |cons=>exact h.2.elim
def SAT(X:Cx)(CL:ClA)(W:XW)(es:Ac Am)(f:Rho->R (Ac D)):Prop:=∀ A,PA X es (λY H Q=>AOk H A/\∃ Z,Good X.K CL A Z Y H/\Hv (λH=>GQ X.K CL H A) W H (f Z) Q)
theorem jD:SAT X CL W [] (λ_=>.ok []):=λA=>PA.weak Fh λY H Q ⟨hA,Z,g,p⟩=>p [] H (AB.refl H) trivial
theorem fY(ha:ST X CL W a fa)(hs:SAT X CL W es fs)(hst:Ar (a::es) X.env=(Ad,eval a X.env)::Ar es X.env):SAT X CL W (a::es) (λZ=>(fa Z).bind λx=>(fs Z).bind λxs=>.ok (x::xs)):=
 λA=>PA.weak (DL (ha A) (hs A) hst) λY H Q ⟨hA,Z,g,p⟩=>by
  dsimp only at p;refine⟨hA,Z,g,?_⟩;cases e:fa Z with
  |bad=>rw[e]at p;exact p
  |exn x=>rw[e]at p;exact p
  |ok d=>
   rw[e]at p;intro v H1 s1 r1;refine⟨hA.same s1,Z,g.same s1,?_⟩;cases e1:fs Z with
   |bad=>rw[R.bind_ok,e1]at p;exact p
   |exn x=>rw[R.bind_ok,e1]at p;exact λH2 s2=>p H2 (s1.trans s2)
   |ok ds=>
    rw[R.bind_ok,e1]at p;exact λvs H2 s2 r2=>p (v::vs) H2 (s1.trans s2) ⟨r1.same s2,r2⟩
def Lr(X:Cx)(CL:ClA)(W:XW)(f:Aj)(g:Ac D->R D):Prop:=∀ A,Jq X f (λxs H Q=>AOk H A/\∃ ds,GQ X.K CL H A xs ds/\Ba (λH=>Rep X.K CL H A) W H (g ds) Q)
theorem Qx{x:Ak}{id:CO}{g:Ac D->R D}(hc:Lr X CL W (.builtin id) g)(hg:Gl X x)(hm:X.mg x=Af)(hv:C4 x=Ab (.builtin id))(ha:SAT X CL W (e::es) fs)(hn:x≠"__name__")(hdb:(x==("__debug__" : Ak))=Ad)(he:Ar (e::es) X.env=(Ad,eval e X.env)::Ar es X.env)(hpl:∀ pos,(Bv pos (Ar es X.env)).any (·.1)=Ad):SE X CL W (.Call (.Name x p) (e::es) [] pos) (λZ=>(fs Z).bind g):=λA=>PE.weak (L9 (hc A) hg hm hv (ha A) hn hdb he (hpl _)) λY H Q ⟨hA,Z,gd,q⟩=>⟨hA,Z,gd,Hv.bind q λds vs H1 _ s1 r1 p1=>⟨hA.same s1,ds,r1,p1⟩⟩
theorem tY{x:Ak}{g:Ac D->R D}(hc:Lr X CL W (.type T) g)(hg:Gl X x)(hm:X.mg x=Af)(hv:C4 x=Ab (.type T))(ha:SAT X CL W (e::es) fs)(hn:x≠"__name__")(hdb:(x==("__debug__" : Ak))=Ad)(he:Ar (e::es) X.env=(Ad,eval e X.env)::Ar es X.env)(hpl:∀ pos,(Bv pos (Ar es X.env)).any (·.1)=Ad):SE X CL W (.Call (.Name x p) (e::es) [] pos) (λZ=>(fs Z).bind g):=λA=>PE.weak (Tq (hc A) hg hm hv (ha A) hn hdb he (hpl _)) λY H Q ⟨hA,Z,gd,q⟩=>⟨hA,Z,gd,Hv.bind q λds vs H1 _ s1 r1 p1=>⟨hA.same s1,ds,r1,p1⟩⟩
theorem uY:Lr X CL W (.builtin "len") (biD .len):=by
  intro A pI s Y H xs us Q I r ⟨hA,ds,rs,p⟩
  match ds,rs,p with
  |[.lst es],rs,p=>
    obtain⟨v,rfl,rv⟩:=rs.one;obtain⟨q,ys,rfl,sq,ry⟩:=rv.lst_of;exact Su pI s Y H _ us Q I r ⟨q,ys,rfl,.inl sq,p _ H (AB.refl H) (by rw[ry.length];rfl)⟩
  |[.tup es],rs,p=>
    obtain⟨v,rfl,rv⟩:=rs.one;obtain⟨q,ys,rfl,_,sq,ry⟩:=rv.tup_of;exact Su pI s Y H _ us Q I r ⟨q,ys,rfl,.inr sq,p _ H (AB.refl H) (by rw[ry.length];rfl)⟩
  |[.str x],rs,p=>
    obtain⟨v,rfl,rv⟩:=rs.one;have e:=rv.str_of;subst e;have p':Ba (λH=>Rep X.K CL H A) W H (if BY x.length=Aa then .ok (.int x.length) else .bad) Q:=p
    split at p'
    · rename_i h;exact cL pI s Y H _ us Q I r ⟨x,rfl,GK h,p' _ H (AB.refl H) rfl⟩
    · exact p'.elim
  |[],_,p=>exact p.elim
  |[.non],_,p=>exact p.elim
  |[.bl _],_,p=>exact p.elim
  |[.int _],_,p=>exact p.elim
  |[.obj _ _],_,p=>exact p.elim
  |[.exc _ _],_,p=>exact p.elim
  |[.dic kvs],rs,p=>
    obtain⟨v,rfl,rv⟩:=rs.one;have p':Ba (λH=>Rep X.K CL H A) W H (if BY kvs.length=Aa then .ok (.int kvs.length) else .bad) Q:=p
    split at p'
    · rename_i h;obtain⟨a,es,rfl,hH,rk⟩:=rv.dic_of;cases r with
      |cons r1 r2=>
        cases r1;cases r2;exact oU I hH rk (GK h) λs' t I'=>⟨.int _,H,I',⟨t,rfl⟩,p' _ H (AB.refl H) rfl⟩
    · exact p'.elim
  |x::_::_,_,p=>cases x<;>exact p.elim
theorem iG:Lr X CL W (.type "tuple") (biD .tuple):=by
  intro A pI s Y H xs us Q I r ⟨hA,ds,rs,p⟩
  match ds,rs,p with
  |[.lst es],rs,p=>
    obtain⟨v,rfl,rv⟩:=rs.one;obtain⟨q,ys,rfl,sq,ry⟩:=rv.lst_of;exact Sy pI s Y H _ us Q I r ⟨q,ys,rfl,.inl ⟨sq,λl hl=>p _ _ (Fu hl _) (JR hA hl ry)⟩⟩
  |[.tup es],rs,p=>
    obtain⟨v,rfl,rv⟩:=rs.one;obtain⟨q,ys,rfl,na,sq,ry⟩:=rv.tup_of;exact Sy pI s Y H _ us Q I r ⟨q,ys,rfl,.inr ⟨sq,p _ H (AB.refl H) ⟨q,ys,rfl,na,sq,ry⟩⟩⟩
  |[],_,p=>exact p.elim
  |[.non],_,p=>exact p.elim
  |[.bl _],_,p=>exact p.elim
  |[.int _],_,p=>exact p.elim
  |[.str _],_,p=>exact p.elim
  |[.obj _ _],_,p=>exact p.elim
  |[.exc _ _],_,p=>exact p.elim
  |[.dic _],rs,p=>first|exact p.elim|(obtain⟨v,rfl,rv⟩:=rs.one;exact rv.plain.elim)
  |x::_::_,_,p=>cases x<;>exact p.elim
end
section
variable{X:Cx}{CL:ClA}{W:XW}{a b c:Am}{fa fb fc:Rho->R D}{pos:AJ}
theorem SB.congr{g:Rho->R Ai}(h:SB X CL W a f)(e:∀ Z,g Z=f Z):SB X CL W a g:=λA=>PT.weak (h A) λY H Q ⟨hA,Z,q,p⟩=>⟨hA,Z,q,by rw[<-e];exact p⟩
theorem uA(ha:SB X CL W a f):SB X CL W (.UnaryOp .Not a pos) (λZ=>(f Z).bind λb=>.ok (!b)):=λA=>PT.weak (uR (ha A)) λY H Q ⟨hA,Z,g,p⟩=>⟨hA,Z,g,C5.bindB p λb H1 _ s1 p1=>p1 H1 (AB.refl H1)⟩
def SW(X:Cx)(CL:ClA)(W:XW)(e:Am)(f:Rho->R Ai):Prop:=∀ A,PW X e (λY H Q=>AOk H A/\∃ Z,Good X.K CL A Z Y H/\C5 W H (f Z) Q)
theorem PW.weak{t t':TT}(h:PW X e t)(k:∀ Y H Q,t' Y H Q->t Y H Q):PW X e t':=λwh pI s Y H Q I q=>h wh pI s Y H Q I (k _ _ _ q)
theorem SW.sb(h:SW X CL W a f):SB X CL W a f:=λA=>PW.pt (h A)
theorem SW.congr{g:Rho->R Ai}(h:SW X CL W a f)(e:∀ Z,g Z=f Z):SW X CL W a g:=λA=>PW.weak (h A) λY H Q ⟨hA,Z,q,p⟩=>⟨hA,Z,q,by rw[<-e];exact p⟩
theorem jI(ha:SB X CL W a f):SW X CL W (.BoolOp .And [a] pos) f:=λA=>nE (ha A)
theorem sN(ha:SB X CL W a f):SW X CL W (.BoolOp .Or [a] pos) f:=λA=>uP (ha A)
theorem sO{g:Rho->R Ai}{rest:Ac Am}(ha:SB X CL W a f)(hb:SW X CL W (.BoolOp .And (b::rest) pos) g):SW X CL W (.BoolOp .And (a::b::rest) pos) (λZ=>(f Z).bind λc=>if c=Aa then g Z else .ok Ad):=
 λA=>PW.weak (uQ (ha A) (hb A)) λY H Q ⟨hA,Z,gd,p⟩=>⟨hA,Z,gd,C5.bindB p λc H1 _ s1 p1=>by
  cases c with
  |true=>exact⟨hA.same s1,Z,gd.same s1,p1⟩
  | false=>exact p1 H1 (AB.refl H1)⟩
theorem xW{g:Rho->R Ai}{rest:Ac Am}(ha:SB X CL W a f)(hb:SW X CL W (.BoolOp .Or (b::rest) pos) g):SW X CL W (.BoolOp .Or (a::b::rest) pos) (λZ=>(f Z).bind λc=>if c=Aa then .ok Aa else g Z):=
 λA=>PW.weak (yZ (ha A) (hb A)) λY H Q ⟨hA,Z,gd,p⟩=>⟨hA,Z,gd,C5.bindB p λc H1 _ s1 p1=>by
  cases c with
  |false=>exact⟨hA.same s1,Z,gd.same s1,p1⟩
  | true=>exact p1 H1 (AB.refl H1)⟩
theorem Qy(ho:OpD X CL W (B4 op) g)(ha:ST X CL W a fa)(hb:ST X CL W b fb)(hm:G5 op b=Ad):SB X CL W (.Compare a [op] [b] pos) (λZ=>(fa Z).bind λx=>(fb Z).bind λy=>(g x y).bind DE):=
 λA=>PT.weak (nH (ho A) (ha A) (hb A) hm) λY H Q ⟨hA,Z,gd,p⟩=>⟨hA,Z,gd,C5.bind p λdx x H1 _ s1 r1 p1=>⟨hA.same s1,Z,gd.same s1,C5.bind p1 λdy y H2 _ s2 r2 p2=>
  ⟨(hA.same s1).same s2,dx,dy,r1.same s2,r2,C5.bind p2 λdz z H3 _ s3 r3 p3=>by
   cases dz with
   |bl k=>exact⟨k,r3,p3 H3 (AB.refl H3)⟩
   | _=>exact p3.elim⟩⟩⟩
theorem fW{op':CJ}(hu:X.A.units+64<Bx)(ha:ST X CL W a fa)(hb:ST X CL W b fb)(hc:ST X CL W c fc)(hm:IW [op,op'] [b,c]=Ad):SB X CL W (.Compare a [op,op'] [b,c] pos) (λZ=>(fa Z).bind λx=>(fb Z).bind λy=>(BJ op x y).bind λz=>(DE z).bind λk=>if k=Aa then (fc Z).bind λu=>(BJ op' y u).bind DE else .ok Ad):=
  λA=>PT.weak (fA (K6 hu op A) (K6 hu op' A) (ha A) (hb A) (hc A) hm) λY H Q ⟨hA,Z,g,p⟩=>⟨hA,Z,g,C5.bind p λdx x H1 _ s1 r1 p1=>⟨hA.same s1,Z,g.same s1,C5.bind p1 λdy y H2 _ s2 r2 p2=>
    ⟨(hA.same s1).same s2,dx,dy,r1.same s2,r2,C5.bind p2 λdz z H3 _ s3 r3 p3=>by
      cases dz with
      |bl k=>
        refine⟨k,r3,?_⟩;cases k with
        |false=>exact⟨Ad,rfl,p3 H3 (AB.refl H3)⟩
        | true=>exact⟨((hA.same s1).same s2).same s3,Z,((g.same s1).same s2).same s3,C5.bind p3 λdu u H4 _ s4 r4 p5=>⟨(((hA.same s1).same s2).same s3).same s4,dy,du,(r2.same s3).same s4,r4,C5.bind p5 λdv v H5 _ s5 r5 p6=>by
            cases dv with
            |bl k'=>exact⟨k',r5,p6 H5 (AB.refl H5)⟩
            | _=>exact p6.elim⟩⟩
      | _=>exact p3.elim⟩⟩⟩
theorem tZ(ha:ST X CL W a fa)(he:∀ whole,Ig a X.env whole=(do let v <-whole;Il a.pos;holding [v] (truthy v))):SB X CL W a (λZ=>(fa Z).bind BE):=
 λA=>PT.weak (eZ (ha A) he) λY H Q ⟨hA,Z,g,p⟩=>⟨hA,Z,g,C5.bind p λd v H1 _ s1 r1 p1=>by
  cases d with
  |non=>
   have e:=r1.non_of;subst e;exact⟨Ad,rfl,p1 H1 (AB.refl H1)⟩
  |bl b=>
   have e:=r1.bl_of;subst e;exact⟨b,rfl,p1 H1 (AB.refl H1)⟩
  |int i=>
   have e:=r1.int_of;subst e;exact⟨_,rfl,p1 H1 (AB.refl H1)⟩
  |str x=>
   have e:=r1.str_of;subst e;have p2:C5 W H1 (if BY x.length=Aa then .ok (x.length != 0) else .bad) Q:=p1
   split at p2
   .rename_i h;refine⟨_,⟨GK h,rfl⟩,?_⟩;have e:((x.length:Ae) != 0)=(x.length != 0):=by
     rw[Cy];simp
    rw[e];exact p2 H1 (AB.refl H1)
   .exact p2.elim
  |tup ds=>
   obtain⟨q,xs,rfl,_,sq,r⟩:=r1.tup_of;refine⟨_,.inr (.inl ⟨xs,sq,rfl⟩),?_⟩;have e:xs.isEmpty=ds.isEmpty:=by
    have:=r.length;cases xs<;>cases ds<;>first|rfl|cases this
   rw[e];exact p1 H1 (AB.refl H1)
  |lst ds=>
   obtain⟨q,xs,rfl,sq,r⟩:=r1.lst_of;refine⟨_,.inl ⟨xs,sq,rfl⟩,?_⟩;have e:xs.isEmpty=ds.isEmpty:=by
    have:=r.length;cases xs<;>cases ds<;>first|rfl|cases this
   rw[e];exact p1 H1 (AB.refl H1)
  | _=>exact p1.elim⟩
noncomputable def bO(K:Fg)(CL:ClA)(H:Hp)(A:Ah->Prop)(cls:Aj)(dx:Ao Ah)(x:Ex):Prop:=
 ∃ C,CL x.c=Ab C/\cls=.ref C/\(x.fs=[]\/∃ d vs,dx=Ab d/\¬ A d/\H d=Ab (.xd vs)/\Repf K CL H A vs x.fs)
def FI(K:Fg)(CL:ClA)(H:Hp)(cls:Aj)(dx:Ao Ah)(x:Ex):Prop:=∀ A,AOk H A->bO K CL H A cls dx x
end
def Bi(B:Ah->Prop)(Z:Rho)(Y:L2.St):Ah->Prop:=λa=>B a\/∃(j:Ag)(d:D),Z[j]?=Ab (Ab (d,Aa))/\Y[j]?=Ab (Ab (.ref a))
structure Sx (K:Fg) (CL:ClA) (Fz:Ah->HO->Prop) (B:Ah->Prop) (Z:Rho) (Y:L2.St) (H:Hp):Prop where
 good:Good K CL (Bi B Z Y) Z Y H
 aok:AOk H (Bi B Z Y)
 new:∀(j:Ag)(d:D)(a:Ah),Z[j]?=Ab (Ab (d,Aa))->Y[j]?=Ab (Ab (.ref a))->(∀ o,¬ Fz a o)/\¬ B a
 dis:∀(i j:Ag)(d e:D)(a:Ah),Z[i]?=Ab (Ab (d,Aa))->Z[j]?=Ab (Ab (e,Aa))->Y[i]?=Ab (Ab (.ref a))->Y[j]?=Ab (Ab (.ref a))->i=j
 same:∀ b o,Fz b o->H b=Ab o
 len:Z.length=Y.length
def FT(K:Fg)(CL:ClA)(A N:Ah->Prop)(H:Hp)(v:V)(d:D):Prop:=∀ ds,d=.tup ds->ds.any HX=Aa->∃ q us,v=.ref q/\SqT K H q us/\Reps K CL H A us ds/\∀(k:Ag)(es:Ac D),ds[k]?=Ab (.lst es)->∃ a xs,us[k]?=Ab (.ref a)/\N a/\H a=Ab (.lst xs)/\xs.length=es.length
theorem FT.no{N:Ah->Prop}(h:∀ ds,d≠.tup ds):FT K CL A N H v d:=λds e=>absurd e (h ds)
theorem FT.mono{N N':Ah->Prop}(h:FT K CL A N H v d)(s:∀ a,N a->N' a):FT K CL A N' H v d:=λds e z=>let ⟨q,us,h1,h2,h3,h4⟩:=h ds e z;⟨q,us,h1,h2,h3,λk es e=>let ⟨a,xs,z1,z2,z3⟩:=h4 k es e;⟨a,xs,z1,s a z2,z3⟩⟩
def Bs(K:Fg)(CL:ClA)(Fz:Ah->HO->Prop)(B:Ah->Prop)(W:XW)(o:O)(D:Ends):Prop:=match o with
  |.next Z=>∀ Y H,Sx K CL Fz B Z Y H->D.nx Y H
  |.brk Z=>∀ Y H,Sx K CL Fz B Z Y H->D.bk Y H
  |.cont Z=>∀ Y H,Sx K CL Fz B Z Y H->D.ct Y H
  |.ret d fr=>∀ v H,(∀ b o,Fz b o->H b=Ab o)->Rep K CL H B v d->(fr=Aa->∀ ds,d=.lst ds->∃ a xs,v=.ref a/\(∀ o,¬ Fz a o)/\H a=Ab (.lst xs)/\Reps K CL H (λb=>B b\/b=a) xs ds)->(fr=Aa->FT K CL B (λa=>∀ o,¬ Fz a o) H v d)->D.rt v H
  |.exn x _=>∀ H,(∀ b o,Fz b o->H b=Ab o)->W x H
  |.bad=>AU
section
variable{K:Fg}{CL:ClA}{Fz Fy:Ah->HO->Prop}{B:Ah->Prop}{Z:Rho}{Y:L2.St}{H H':Hp}
theorem Sx.mono(k:∀ b o,Fz b o->Fy b o)(x:Sx K CL Fy B Z Y H):Sx K CL Fz B Z Y H:=⟨x.good,x.aok,λj d a h1 h2=>⟨λo z=>(x.new j d a h1 h2).1 o (k _ _ z),(x.new j d a h1 h2).2⟩,x.dis,λb o z=>x.same b o (k _ _ z),x.len⟩
theorem Sx.grow(x:Sx K CL Fz B Z Y H)(s:AB H H'):Sx K CL Fz B Z Y H':=⟨x.good.same s,x.aok.same s,x.new,x.dis,λb o z=>s _ _ (x.same b o z),x.len⟩
theorem BV{l:Ac α}{v:α}(h:i≠j):(l.set i v)[j]?=l[j]?:=by rw[Ga h]
theorem F0{l:Ac α}{v w':α}(h:(l.set i v)[i]?=Ab w'):w'=v:=by
 rw[FF]at h;cases e:l[i]? with
 |none=>rw[e]at h;cases h
 |some x=>rw[e]at h;cases h;rfl
theorem Sx.set(x:Sx K CL Fz B Z Y H){v:V}{d:D}(i:Ag)(r:Rep K CL H (Bi B Z Y) v d):Sx K CL Fz B (Z.set i (Ab (d,Ad))) (Y.set i (Ab v)) H:=by
 have own:∀(j:Ag)(e:D),(Z.set i (Ab (d,Ad)))[j]?=Ab (Ab (e,Aa))->i≠j/\Z[j]?=Ab (Ab (e,Aa)):=λj e h=>by
  by_cases hj:i=j
  .subst hj;have:=F0 h;cases this
  .exact⟨hj,by rw[BV hj]at h;exact h⟩
 have sub:∀ a,Bi B (Z.set i (Ab (d,Ad))) (Y.set i (Ab v)) a->Bi B Z Y a:=λa h=>by
  rcases h with h|⟨j,e,h1,h2⟩
  .exact .inl h
  .obtain⟨hj,h1⟩:=own j e h1;rw[BV hj]at h2;exact .inr ⟨j,e,h1,h2⟩
 refine⟨⟨λj e h=>?_,λj e h=>?_,by rw[AT,AT];exact x.len⟩,λa h=>x.aok a (sub a h),λj e a h1 h2=>?_,λj k e f a h1 h2 h3 h4=>?_,x.same,by rw[AT,AT];exact x.len⟩
 .by_cases hj:i=j
  .subst hj;have e1:=F0 h;cases e1;refine⟨v,?_,Rep.sub sub _ r⟩;have hl:i<Y.length:=by
    rw[<-x.len];have:=(AX.mp h).1;simpa using this
   rw[BW hl]
  .rw[BV hj]at h;obtain⟨w',q,rw'⟩:=x.good.sh j e h;exact⟨w',by rw[BV hj];exact q,Rep.sub sub _ rw'⟩
 .obtain⟨hj,h1⟩:=own j e h;obtain⟨a,o,q,ha,hh,rr⟩:=x.good.ow j e h1;exact⟨a,o,by rw[BV hj];exact q,.inr ⟨j,e,h,by rw[BV hj];exact q⟩,hh,rr.sub sub⟩
 .obtain⟨hj,h1⟩:=own j e h1;rw[BV hj]at h2;exact x.new j e a h1 h2
 .obtain⟨hj,h1⟩:=own j e h1;obtain⟨hk,h2⟩:=own k f h2;rw[BV hj]at h3;rw[BV hk]at h4;exact x.dis j k e f a h1 h2 h3 h4
end
section
variable{X:Cx}{CL:ClA}{W:XW}{pos:AJ}{e:Am}{fe:Rho->R D}
def SS(X:Cx)(CL:ClA)(W:XW)(st:AN)(f:Rho->O):Prop:=∀ Fz B,PS X st (λD Y H=>∃ Z,Sx X.K CL Fz B Z Y H/\Bs X.K CL Fz B W (f Z) D)
def SSs(X:Cx)(CL:ClA)(W:XW)(st:Ac AN)(f:Rho->O):Prop:=∀ Fz B,PSs X st (λD Y H=>∃ Z,Sx X.K CL Fz B Z Y H/\Bs X.K CL Fz B W (f Z) D)
theorem PS.weak{e:AN}{t t':TS}(h:PS X e t)(k:∀ D Y H,t' D Y H->t D Y H):PS X e t':=λpI s Y H D I q=>h pI s Y H D I (k _ _ _ q)
theorem PSs.weak{e:Ac AN}{t t':TS}(h:PSs X e t)(k:∀ D Y H,t' D Y H->t D Y H):PSs X e t':=λpI s Y H D I q=>h pI s Y H D I (k _ _ _ q)
theorem Bs.ex{f:D->O}(x:Sx X.K CL Fz B Z Y H)(h:Bs X.K CL Fz B W (O.of Z r f) D')(k:∀ d v H',r=.ok d->AB H H'->Rp H' v d->Sx X.K CL Fz B Z Y H'->Bs X.K CL Fz B W (f d) D'->Q v H'):Ba Rp W H r Q:=by
 cases r with
 |ok d=>exact λv H' s r=>k d v H' rfl s r (x.grow s) h
 |exn y=>exact λH' s=>h H' λb o z=>s _ _ (x.same b o z)
 |bad=>exact h
theorem Bs.exB{r:R Ai}{f:Ai->O}{Q:Ai->Hp->Prop}(x:Sx X.K CL Fz B Z Y H)(h:Bs X.K CL Fz B W (O.of Z r f) D')(k:∀ b H',r=.ok b->AB H H'->Sx X.K CL Fz B Z Y H'->Bs X.K CL Fz B W (f b) D'->Q b H'):C5 W H r Q:=by
 cases r with
 |ok d=>exact λH' s=>k d H' rfl s (x.grow s) h
 |exn y=>exact λH' s=>h H' λb o z=>s _ _ (x.same b o z)
 |bad=>exact h
theorem jU(he:SE X CL W e fe)(hs:Cd e Af pos.line X.env=pure Ad):SS X CL W (.Expr e pos) (λZ=>O.of Z (fe Z) λ_=>.next Z):=λFz B pI s Y H D I ⟨Z,x,p⟩=>
 Jg (he (Bi B Z Y)) hs pI s Y H D I ⟨x.aok,Z,x.good,Bs.ex x p λd v H' _ s r x' q=>q Y H' x'⟩
theorem rQ{n:Ak}(hN:X.N.Nodup)(hi:X.N[i]?=Ab n)(hx:Loc X.env.scope n)(he:SE X CL W e fe)(hs:Cd e (Ab (.Name n pos')) pos.line X.env=pure Ad)(hf:X.fn n=Aa\/X.env.scope.names.lookup n=Ab .local):SS X CL W (.Assign [.Name n pos'] e pos) (λZ=>O.of Z (fe Z) λd=>.next (Z.set i (Ab (d,Ad)))):=λFz B pI s Y H D I ⟨Z,x,p⟩=>
 Jj hN hi hx (he (Bi B Z Y)) hs hf pI s Y H D I ⟨x.aok,Z,x.good,Bs.ex x p λd v H' _ s r x' q=>q _ H' (x'.set i r)⟩
theorem jR(he:SE X CL W e fe):SS X CL W (.Return (Ab e) pos) (λZ=>O.of Z (fe Z) λd=>.ret d Ad):=λFz B pI s Y H D I ⟨Z,x,p⟩=>
 Nu (he (Bi B Z Y)) pI s Y H D I ⟨x.aok,Z,x.good,Bs.ex x p λd v H' _ s r x' q=>q v H' x'.same (Rep.sub (λa h=>.inl h) _ r) (λz=>nomatch z) λz=>nomatch z⟩
theorem xM{a b:Ac AN}{fa fb:Rho->O}(hc:SB X CL W c fc)(ha:SSs X CL W a fa)(hb:SSs X CL W b fb):SS X CL W (.If c a b pos) (λZ=>O.of Z (fc Z) λk=>if k=Aa then fa Z else fb Z):=λFz B pI s Y H D I ⟨Z,x,p⟩=>
 Q5 (hc (Bi B Z Y)) (ha Fz B) (hb Fz B) pI s Y H D I ⟨x.aok,Z,x.good,Bs.exB x p λk H' _ s x' q=>by
  cases k with
  |true=>exact⟨Z,x',q⟩
  | false=>exact⟨Z,x',q⟩⟩
theorem UP:SSs X CL W [] (λZ=>.next Z):=λFz B=>PSs.weak Nk λD Y H ⟨Z,x,p⟩=>p Y H x
theorem PB{st:AN}{rest:Ac AN}{f g:Rho->O}(h1:SS X CL W st f)(h2:SSs X CL W rest g):SSs X CL W (st::rest) (λZ=>(f Z).seq g):=λFz B=>PSs.weak (PF (h1 Fz B) (h2 Fz B)) λD Y H ⟨Z,x,p⟩=>⟨Z,x,by
 dsimp only at p;cases e:f Z with
 |next Z'=>rw[e]at p;exact λY' H' x'=>⟨Z',x',p⟩
 |ret d b=>rw[e]at p;exact p
 |brk Z'=>rw[e]at p;exact p
 |cont Z'=>rw[e]at p;exact p
 |exn y Z'=>rw[e]at p;exact p
 | bad=>rw[e]at p;exact p⟩
end
def II(K:Fg)(CL:ClA)(A:Ah->Prop)(ds:Ac D)(J:It)(H1:Hp):Prop:=∀ H,Kp A H1 H->∀ i:Ag,(ds.length<=i->J.stop i H)/\∀ d,ds[i]?=Ab d->J.go i H/\∀ x H',J.yld i H x H'->AB H H'/\∀ B,(∀ a,B a->A a\/H1 a=Af)->AOk H B->Rep K CL H' B x d
def E4(K:Fg)(CL:ClA)(A:Ah->Prop)(W:XW)(H:Hp)(r:R (Ac D))(Q:It->Hp->Prop):Prop:=match r with
  |.ok ds=>∀ J H',AB H H'->II K CL A ds J H'->ds.length<=sizeLine->Q J H'
  |.exn x=>∀ H',AB H H'->W x H'
  |.bad=>AU
def SI(X:Cx)(CL:ClA)(W:XW)(tg iter:Am)(f:Rho->R (Ac D)):Prop:=∀ A,PI X tg iter (λY H R=>AOk H A/\∃ Z,Good X.K CL A Z Y H/\E4 X.K CL A W H (f Z) R)
theorem PI.weak{t t':TI}(h:PI X tg e t)(k:∀ Y H Q,t' Y H Q->t Y H Q):PI X tg e t':=λpI s Y H Q I q=>h pI s Y H Q I (k _ _ _ q)
section
variable{X:Cx}{CL:ClA}{W:XW}{pos p:AJ}{tg e a b:Am}{fe fa fb:Rho->R D}
theorem E4.ex{f:D->R (Ac D)}{Q:It->Hp->Prop}{Q':VK}(h:E4 X.K CL A W H (r.bind f) Q)(k:∀ d v H',r=.ok d->AB H H'->Rp H' v d->E4 X.K CL A W H' (f d) Q->Q' v H'):Ba Rp W H r Q':=by
  cases r with
  | ok d=>exact λv H' s q=>k d v H' rfl s q (by
      have h':E4 X.K CL A W H (f d) Q:=h;cases e:f d with
      |ok ds=>rw[e]at h';exact λJ H2 s2 y z=>h' J H2 (s.trans s2) y z
      |exn y=>rw[e]at h';exact λH2 s2=>h' H2 (s.trans s2)
      | bad=>rw[e]at h';exact h')
  |exn y=>exact h
  |bad=>exact h
theorem LZ{x:V}(r:Rep K CL H1 A x d)(k:Kp A H1 H)(hB:∀ a,B a->A a\/H1 a=Af):Rep K CL H B x d:=by
 have r1:Rep K CL H1 (λa=>A a\/B a) x d:=Rep.wide (λa ha=>ha.elim .inl (hB a)) _ r
 have r2:Rep K CL H (λa=>A a\/B a) x d:=Rep.kp (λb o e na=>k b o e λz=>na (.inl z)) _ r1
 exact Rep.sub (λa ha=>.inr ha) _ r2
theorem cY{ds:Ac D}(na:¬ A q\/KL K q xs)(s:SqL K H q xs)(r:Reps K CL H A xs ds):II K CL A ds (Itl K q) H:=λH' k i=>by
 have s':=Np k na s;refine⟨λh=>⟨xs,s',by rw[r.length];exact h⟩,λd hd=>?_⟩
 obtain⟨v,hv,rv⟩:=r.get hd;exact⟨⟨xs,v,s',hv⟩,λx H2 ⟨e,y⟩=>by
  subst e;have:=y xs s';rw[hv]at this;cases this;exact⟨AB.refl _,λB hB _=>LZ rv k hB⟩⟩
theorem gM{ds:Ac D}(na:¬ A q\/KT K q xs)(s:SqT K H q xs)(r:Reps K CL H A xs ds):II K CL A ds (Itt K q) H:=λH' k i=>by
 have s':=Lf k na s;refine⟨λh=>⟨xs,s',by rw[r.length];exact h⟩,λd hd=>?_⟩
 obtain⟨v,hv,rv⟩:=r.get hd;exact⟨⟨xs,v,s',hv⟩,λx H2 ⟨e,y⟩=>by
  subst e;have:=y xs s';rw[hv]at this;cases this;exact⟨AB.refl _,λB hB _=>LZ rv k hB⟩⟩
theorem TX(lo:Ae)(n:Ag):II K CL A (Ci lo n) (Itr lo n) H:=λH' k i=>by
 refine⟨λh=>by rw[LV]at h;exact h,λd hd=>?_⟩
 obtain⟨h1,rfl⟩:=Pu hd;exact⟨h1,λx H2 ⟨e,y⟩=>by
  subst e y;exact⟨AB.refl _,λ_ _ _=>rfl⟩⟩
theorem tB{l:Am}{tl:TE}(hl:PE X l tl):PI X tg l (λY H R=>tl Y H λx H1=>(∃ a,x=.ref a/\(∃ xs,SqL X.K H1 a xs/\(xs.length<=sizeLine->R (Itl X.K a) H1)))\/∃ a,x=.ref a/\(∃ xs,SqT X.K H1 a xs/\(xs.length<=sizeLine->R (Itt X.K a) H1))):=by
 intro pI s Y H R I h;refine thn (hl pI s Y H _ I h) λv s1 ⟨x,H1,I1,r1,q1⟩=>?_
 rcases q1 with ⟨a,e,xs,hq,q⟩|⟨a,e,xs,hq,q⟩
 .subst e;cases r1;obtain⟨its,rv,p,hz⟩:=I1.list hq;refine EJ p.isList ?_;refine⟨s1.heap.objs.size,[s1.heap.objs.size],_,_,H1,rfl,I1.kept (t':=s1.toks) λb o e=>Au _ e,eB a _,⟨_,AI _ rfl,rfl,rfl⟩,λb hb=>?_,q hz⟩
  have e:b=s1.heap.objs.size:=by simpa using hb
  subst e;exact I1.fpOk (AV _) (I1.hok.fresh (AV _))
 .subst e;cases r1;obtain⟨its,rv,p,hz⟩:=I1.tuple hq;refine G4 (show s1.heap.IsTuple a its.toArray from p) ?_
  refine⟨s1.heap.objs.size,[s1.heap.objs.size],_,_,H1,rfl,I1.kept (t':=s1.toks) λb o e=>Au _ e,dB a _,⟨_,AI _ rfl,rfl,rfl⟩,λb hb=>?_,q hz⟩
  have e:b=s1.heap.objs.size:=by simpa using hb
  subst e;exact I1.fpOk (AV _) (I1.hok.fresh (AV _))
theorem aL(he:SE X CL W e fe):SI X CL W tg e (λZ=>(fe Z).bind Co):=λA=>PI.weak (tB (he A)) λY H R ⟨hA,Z,g,p⟩=>⟨hA,Z,g,E4.ex p λd v H1 _ s1 r1 p1=>by
 cases d with
 |lst ds=>
  obtain⟨q,xs,rfl,na,sq,r⟩:=r1;exact .inl ⟨q,rfl,xs,sq,λhz=>p1 _ H1 (AB.refl H1) (cY na sq r) (by rw[<-r.length];exact hz)⟩
 |tup ds=>
  obtain⟨q,xs,rfl,na,sq,r⟩:=r1;exact .inr ⟨q,rfl,xs,sq,λhz=>p1 _ H1 (AB.refl H1) (gM na sq r) (by rw[<-r.length];exact hz)⟩
 | _=>exact p1.elim⟩
theorem To{lo hi:Ae}{ds:Ac D}(h:CA lo hi=.ok ds):(-(2 ^ 62)<=lo/\lo<2 ^ 62)/\(-(2 ^ 62)<=hi/\hi<2 ^ 62)/\ds=Ci lo (hi-lo).toNat/\(Ci lo (hi-lo).toNat).length<=sizeLine:=by
 unfold CA at h;split at h
 .rename_i q;cases h;exact⟨by omega,by omega,rfl,by rw[LV,Eb];omega⟩
 .cases h
theorem SL{lo hi:Ae}(h:CA lo hi=.exn x):AU:=by
 unfold CA at h;split at h<;>cases h
theorem sA(ha:ST X CL W a fa)(hg:Gl X "range")(hm:X.mg "range" = Af)(hs:Ar [a] X.env=[(Ad,eval a X.env)]):SI X CL W tg (.Call (.Name "range" p) [a] [] pos) (λZ=>(fa Z).bind λx=>(E2 x).bind λj=>CA 0 j):=
 λA=>PI.weak (eU hg hm (DL (ha A) Fh hs) hs) λY H R ⟨hA,Z,g,q⟩=>⟨hA,Z,g,E4.ex q λd v H1 _ s1 r1 p1=>by
  cases d with
  |int j=>
   have e:=r1.int_of;subst e;have p2:E4 X.K CL A W H1 (CA 0 j) R:=p1;cases e2:CA 0 j with
   |ok ds=>
    rw[e2]at p2;obtain⟨_,h2,rfl,hz⟩:=To e2;exact⟨j,rfl,h2.1,h2.2,p2 _ H1 (AB.refl H1) (by rw[Fo];exact TX 0 j.toNat) hz⟩
   |exn y=>exact(SL e2).elim
   |bad=>rw[e2]at p2;exact p2.elim
  | _=>exact p1.elim⟩
theorem kA(ha:ST X CL W a fa)(hb:ST X CL W b fb)(hg:Gl X "range")(hm:X.mg "range" = Af)(hs:Ar [a,b] X.env=[(Ad,eval a X.env),(Ad,eval b X.env)])(hs2:Ar [b] X.env=[(Ad,eval b X.env)]):
  SI X CL W tg (.Call (.Name "range" p) [a,b] [] pos) (λZ=>(fa Z).bind λx=>(fb Z).bind λy=>(E2 x).bind λi=>(E2 y).bind λj=>CA i j):=
 λA=>PI.weak (eS hg hm (DL (ha A) (DL (hb A) Fh hs2) (by rw[hs,hs2])) hs hs2) λY H R ⟨hA,Z,g,q⟩=>⟨hA,Z,g,E4.ex q λd v H1 _ s1 r1 p1=>⟨hA.same s1,Z,g.same s1,E4.ex p1 λd2 v2 H2 _ s2 r2 p2=>by
  cases d with
  |int i=>
   cases d2 with
   |int j=>
    have e:=r1.int_of;have e':=r2.int_of
    subst e e';have p3:E4 X.K CL A W H2 (CA i j) R:=p2;cases e2:CA i j with
    |ok ds=>
     rw[e2]at p3;obtain⟨h1,h2,rfl,hz⟩:=To e2;exact⟨i,j,rfl,⟨h1.1,h1.2,h2.1,h2.2⟩,p3 _ H2 (AB.refl H2) (TX _ _) hz⟩
    |exn y=>exact(SL e2).elim
    |bad=>rw[e2]at p3;exact p3.elim
   |_=>exact p2.elim
  | _=>exact p2.elim⟩⟩
theorem Bs.exI{r:R (Ac D)}{f:Ac D->O}{Q:It->Hp->Prop}(x:Sx X.K CL Fz B Z Y H)(h:Bs X.K CL Fz B W (O.of Z r f) D')(k:∀ ds J H',r=.ok ds->AB H H'->II X.K CL A ds J H'->ds.length<=sizeLine->Sx X.K CL Fz B Z Y H'->Bs X.K CL Fz B W (f ds) D'->Q J H'):E4 X.K CL A W H r Q:=by
 cases r with
 |ok d=>exact λJ H' s y z=>k d J H' rfl s y z (x.grow s) h
 |exn y=>exact λH' s=>h H' λb o z=>s _ _ (x.same b o z)
 |bad=>exact h
theorem Bs.turn{Fy:Ah->HO->Prop}{o:O}{g:Rho->O}{N:L2.St->Hp->Prop}(hf:∀ b q,Fz b q->Fy b q)(h:Bs K CL Fz B W (o.turn g) D')(k:∀ Z' Y' H',Sx K CL Fy B Z' Y' H'->Bs K CL Fz B W (g Z') D'->N Y' H'):Bs K CL Fy B W o {D' with nx:=N,ct:=N,bk:=D'.nx}:=by
 cases o with
 |next Z'=>exact λY' H' x=>k Z' Y' H' x h
 |cont Z'=>exact λY' H' x=>k Z' Y' H' x h
 |brk Z'=>exact λY' H' x=>h Y' H' (x.mono hf)
 |ret d b=>exact λv H' s r n t=>h v H' (λb o z=>s b o (hf b o z)) r (λz ds e=>let ⟨a,xs,h1,h2,h3⟩:=n z ds e;⟨a,xs,h1,λo q=>h2 o (hf a o q),h3⟩) λz=>(t z).mono λa h o q=>h o (hf a o q)
 |exn y Z'=>exact λH' s=>h H' (λb o z=>s b o (hf b o z))
 |bad=>exact h
noncomputable def Fv(ts:Ac Ag)(Z:Rho):Rho:=ts.foldl (λZ t=>Z.set t Af) Z
def GT(K:Fg)(CL:ClA)(as:D->Rho->R Rho)(g:TG):Prop:=∀ Fz B Z Y H v d Z' Q,Sx K CL Fz B Z Y H->Rep K CL H (Bi B Z Y) v d->as d Z=.ok Z'->(∀ Y',Sx K CL Fz B Z' Y' H->Q Y' H)->g v Y H Q
theorem nX(i:Ag):GT K CL (λd Z=>.ok (Z.set i (Ab (d,Ad)))) (EE i):=λFz B Z Y H v d Z' Q x r e k=>by
 cases e;exact k _ (x.set i r)
theorem VN{K:Fg}{Fz:Ah->HO->Prop}{B:Ah->Prop}{H:Hp}:∀(ts:Ac Ag)(ds:Ac D)(vs:Ac V)(Z Z':Rho)(Y:L2.St)(Q:L2.St->Hp->Prop),Sx K CL Fz B Z Y H->Reps K CL H (Bi B Z Y) vs ds->EF ts ds Z=Ab Z'->(∀ Y',Sx K CL Fz B Z' Y' H->Q Y' H)->(ts.foldr (λt u=>G8 (EE t) u) Hy) vs Y H Q
 |[],[],[],Z,Z',Y,Q,x,_,e,k=>by
  cases e;exact⟨rfl,k Y x⟩
 |t::ts,d::ds,v::vs,Z,Z',Y,Q,x,r,e,k=>by
  refine⟨v,vs,rfl,VN ts ds vs _ Z' _ Q (x.set t r.1) (Reps.sub (λa ha=>?_) ds r.2) e k⟩
  rcases ha with ha|⟨j,c,h1,h2⟩
  .exact .inl ha
  .by_cases hj:t=j
   .subst hj;have:=F0 h1;cases this
   .rw[BV hj]at h1 h2;exact .inr ⟨j,c,h1,h2⟩
 |[],_::_,_,_,_,_,_,_,_,e,_=>by cases e
 |_::_,[],_,_,_,_,_,_,_,e,_=>by cases e
 |[],[],_::_,_,_,_,_,_,r,_,_=>r.elim
 |_::_,_::_,[],_,_,_,_,_,r,_,_=>r.elim
theorem O2:∀(ts:Ac Ag)(ds:Ac D)(Z Z':Rho),EF ts ds Z=Ab Z'->ds.length=ts.length
 |[],[],_,_,_=>rfl
 |_::ts,_::ds,_,_,e=>congrArg (· + 1) (O2 ts ds _ _ e)
 |[],_::_,_,_,e=>by cases e
 |_::_,[],_,_,e=>by cases e
theorem wF(ts:Ac Ag):GT K CL (FH ts) (Ls K ts.length (ts.foldr (λt u=>G8 (EE t) u) Hy)):=λFz B Z Y H v d Z' Q x r e k=>by
 cases d with
 |tup ds=>
  obtain⟨a,xs,rfl,na,sq,rs⟩:=r;rw[SR]at e;cases e2:EF ts ds Z with
  |none=>rw[e2]at e;cases e
  |some Z2=>
   rw[e2]at e;cases e;exact⟨a,xs,rfl,sq,by rw[rs.length];exact O2 _ _ _ _ e2,VN ts ds xs Z _ Y Q x rs e2 k⟩
 |_=>cases e
theorem V7{body:Ac AN}{fbd:Rho->O}{g:TG}(hp:DH (model X.prog X.w) X.A X.env X.xe)(hc:X.calm=Aa)(hGT:GT X.K CL as g)(hg:PG X tg g)(hit:SI X CL W tg iter fi)(hb:SSs X CL W body fbd)(hs:∀ x,CQ iter X.env x=pure x)(hax:∀ d Z x,as d Z≠.exn x):SS X CL W (.For tg iter body [] pos) (λZ=>O.of Z (fi Z) λxs=>Bz (λx Z'=>O.of Z' (as x Z') fbd) xs Z):=λFz B pI s Y H D I ⟨Z,x,p⟩=>by
 refine uT hp hc (hit (Bi B Z Y)) hg (tb:=λD Y H=>∃ Fy,(λD Y H=>∃ Z,Sx X.K CL Fy B Z Y H/\Bs X.K CL Fy B W (fbd Z) D) D Y H) (λpI s Y H D I ⟨Fy,q⟩=>hb Fy B pI s Y H D I q) hs pI s Y H D I ⟨x.aok,Z,x.good,Bs.exI x p λds J H1 _ s1 y _ x1 q=>?_⟩
 let Fy:Ah->HO->Prop:=λb o=>H1 b=Ab o/\¬ ∃(j:Ag)(d:Ov.D),Z[j]?=Ab (Ab (d,Aa))/\Y[j]?=Ab (Ab (.ref b))
 have hfy:∀ b o,Fz b o->Fy b o:=λb o z=>⟨x1.same b o z,λ⟨j,d,h1,h2⟩=>(x1.new j d b h1 h2).1 o z⟩
 have xy:Sx X.K CL Fy B Z Y H1:=⟨x1.good,x1.aok,λj d a h1 h2=>⟨λo z=>z.2 ⟨j,d,h1,h2⟩,(x1.new j d a h1 h2).2⟩,x1.dis,λb o z=>z.1,x1.len⟩
 refine⟨λk m Y' H'=>m=ds.length-k/\k<=ds.length/\∃ Z',Sx X.K CL Fy B Z' Y' H'/\Bs X.K CL Fz B W (Bz (λx Z'=>O.of Z' (as x Z') fbd) (ds.drop k) Z') D,⟨ds.length,by simp,HK _,Z,xy,q⟩,?_⟩
 rintro k m Y' H' ⟨rfl,hk,Z',x',q'⟩;have kp:Kp (Bi B Z Y) H1 H':=λb o e na=>x'.same b o ⟨e,λz=>na (.inr z)⟩
 obtain⟨yst,ygo⟩:=y H' kp k;by_cases hlt:k<ds.length
 .have hd:ds[k]?=Ab ds[k]:=B1 hlt;obtain⟨hgo,hyl⟩:=ygo _ hd;refine .inr ⟨hgo,λY'' H''=>∃ Z'',Sx X.K CL Fy B Z'' Y'' H''/\Bs X.K CL Fz B W (Bz (λx Z'=>O.of Z' (as x Z') fbd) (ds.drop (k+1)) Z'') D,λY'' H'' z=>⟨ds.length-(k+1),by omega,rfl,hlt,z⟩,λv H2 hv=>?_⟩
  obtain⟨e2,rv⟩:=hyl v H2 hv;rw[Fi hlt]at q';have q2:Bs X.K CL Fz B W ((O.of Z' (as ds[k] Z') fbd).turn (Bz (λx Z'=>O.of Z' (as x Z') fbd) (ds.drop (k+1)))) D:=q'
  have rv':Rep X.K CL H2 (Bi B Z' Y') v ds[k]:=rv _ (λa ha=>by
    rcases ha with ha|⟨j,d,h1,h2⟩
    .exact .inl (.inl ha)
    .cases e:H1 a with
     |none=>exact .inr rfl
     |some o=>
      by_cases ho:∃(j:Ag)(d:Ov.D),Z[j]?=Ab (Ab (d,Aa))/\Y[j]?=Ab (Ab (.ref a))
      .exact .inl (.inr ho)
      .exact absurd ⟨e,ho⟩ ((x'.new j d a h1 h2).1 o)) x'.aok
  cases ea:as ds[k] Z' with
  |bad=>rw[ea]at q2;exact q2.elim
  |exn z=>exact absurd ea (hax _ _ z)
  |ok Z2=>
   rw[ea,O.of_ok]at q2;exact hGT Fy B Z' Y' H2 v ds[k] Z2 _ (x'.grow e2) rv' ea λY3 x3=>⟨Fy,Z2,x3,Bs.turn hfy q2 λZ3 Y3 H3 x3 q3=>⟨Z3,x3,q3⟩⟩
 .have hk':ds.length<=k:=by omega
  rw[Xo hk']at q';exact .inl ⟨yst hk',q' Y' H' (x'.mono hfy)⟩
end
section
variable{X:Cx}{CL:ClA}{W:XW}{a b c:Am}{fa fb fc:Rho->R D}{pos:AJ}
noncomputable def tyK:Ki->Ao CO
 |.int=>Ab "int"
 |.bool=>Ab "bool"
 |.str=>Ab "str"
 |.list=>Ab "list"
 |.tuple=>Ab "tuple"
 |_=>Af
noncomputable def Qr:D->Ai
 |.obj _ _=>Ad
 |.exc _ _=>Ad
 |.dic _=>Ad
 |_=>Aa
theorem wA{k:Ki}{Q:Vq}{E:Vq}(I:Inv X pI Y H s)(r:Cj X.K CL H A v d)(q:Bu v u)(hT:tyK k=Ab T)(hd:Qr d=Aa)(h:∀ s',Inv X pI Y H s'->Q (.bool (kiD up k d)) s'):
  Az (model X.prog X.w) X.A (call (.builtin "isinstance") [u,.type T]) Q E s:=by
 have r':=r.plain;have it:=λt=>h _ (I.tok t)
 cases d with
 |obj=>cases hd
 |exc=>cases hd
 |dic=>cases hd
 |non=>
  cases r';cases q;cases k<;>simp only[tyK]at hT<;>cases hT
  .exact IsiPair.NoneType_int (it _)
  .exact IsiPair.NoneType_bool (it _)
  .exact IsiPair.NoneType_str (it _)
  .exact IsiPair.NoneType_list (it _)
  .exact IsiPair.NoneType_tuple (it _)
 |bl b=>
  cases r';cases q;cases k<;>simp only[tyK]at hT<;>cases hT
  .exact IsiPair.bool_int (h _ I)
  .exact IsiPair.bool_bool (h _ I)
  .exact IsiPair.bool_str (it _)
  .exact IsiPair.bool_list (it _)
  .exact IsiPair.bool_tuple (it _)
 |int i=>
  cases r';obtain⟨t,rfl⟩:=q;cases k<;>simp only[tyK]at hT<;>cases hT
  .exact IsiPair.int_int (h _ I)
  .exact IsiPair.int_bool (it _)
  .exact IsiPair.int_str (it _)
  .exact IsiPair.int_list (it _)
  .exact IsiPair.int_tuple (it _)
 |str x=>
  cases r';obtain⟨t,rfl⟩:=q;cases k<;>simp only[tyK]at hT<;>cases hT
  .exact IsiPair.str_int (it _)
  .exact IsiPair.str_bool (it _)
  .exact IsiPair.str_str (h _ I)
  .exact IsiPair.str_list (it _)
  .exact IsiPair.str_tuple (it _)
 |tup ds=>
  obtain⟨p,xs,rfl,_,sq,rr⟩:=r';obtain⟨its,rv,pt,_⟩:=I.tuple sq;cases q;have pt':s.heap.IsTuple p its.toArray:=pt;cases k<;>simp only[tyK]at hT<;>cases hT
  .exact IsiPair.isTuple_int pt' (λ_ _ e=>e) (it _)
  .exact IsiPair.isTuple_bool pt' (λ_ _ e=>e) (it _)
  .exact IsiPair.isTuple_str pt' (λ_ _ e=>e) (it _)
  .exact IsiPair.isTuple_list pt' (λ_ _ e=>e) (it _)
  .exact IsiPair.isTuple_tuple pt' (λ_ _ e=>e) (h _ I)
 |lst ds=>
  obtain⟨p,xs,rfl,_,sq,rr⟩:=r';obtain⟨its,rv,pl,_⟩:=I.list sq;cases q;have pt':s.heap.IsList p its.toArray:=Jk pl;cases k<;>simp only[tyK]at hT<;>cases hT
  .exact IsiPair.isList_int pt' (λ_ _ e=>e) (it _)
  .exact IsiPair.isList_bool pt' (λ_ _ e=>e) (it _)
  .exact IsiPair.isList_str pt' (λ_ _ e=>e) (it _)
  .exact IsiPair.isList_list pt' (λ_ _ e=>e) (h _ I)
  .exact IsiPair.isList_tuple pt' (λ_ _ e=>e) (it _)
theorem eH{k:Ki}(hT:tyK k=Ab T)(p:Ba Rp W H (EG up [k] d) Q):Qr d=Aa/\Ba Rp W H (.ok (.bl (kiD up k d))) Q:=by
 cases k<;>simp only[tyK]at hT<;>cases hT<;>cases d<;>first|exact p.elim|exact⟨rfl,by simpa using p⟩
theorem qZ{k:Ki}{x:Ak}(hT:tyK k=Ab T)(hg:Gl X "isinstance")(hm:X.mg "isinstance" = Af)(hg2:Gl X x)(hm2:X.mg x=Af)(hv:C4 x=Ab (.type T))(hn:x≠"__name__")(hdb:(x==("__debug__" : Ak))=Ad)(ha:ST X CL W a fa)(he:Ar [a,.Name x p2] X.env=(Ad,eval a X.env)::Ar [.Name x p2] X.env):SE X CL W (.Call (.Name "isinstance" p) [a,.Name x p2] [] pos) (λZ=>(fa Z).bind λx=>EG up [k] x):=λA=>
 PE.weak (L9 (r:=λxs H Q=>∃ y d,xs=[y,.ty T]/\Cj X.K CL H A y d/\Qr d=Aa/\Q (.bl (kiD up k d)) H) (λpI s Y H xs us Q I r ⟨y,d,e,ry,hd,q⟩=>by
   subst e;obtain⟨u,w',rfl,r1,r2⟩:=NC r;cases r2;exact wA I ry r1 hT hd λs' I'=>⟨.bl _,H,I',rfl,q⟩)
  hg hm Gd (DL (ha A) (DL (Vi (v:=.ty T) hg2 hm2 hv rfl hn hdb) Fh rfl) he) (by decide) (by decide) he rfl) λY H Q ⟨hA,Z,g,q⟩=>⟨hA,Z,g,Ba.bind q λd v H1 _ s1 r1 p1=>by
   obtain⟨hd,p2⟩:=eH hT p1;exact⟨v,d,rfl,r1,hd,p2 _ H1 (AB.refl H1) rfl⟩⟩
theorem kO{b:Ai}{A':AZ}{E:Vq}{Q:Ai->Aq->Prop}(r:Rep X.K CL H A v d)(q:Bu v u)(h:Gv d=.ok b)(hq:Q b s):Az (model prog w) A' (truthy u) Q E s:=by
 cases d with
 |non=>
  cases r;cases q;cases h;exact truthy_none hq
 |bl k=>
  cases r;cases q;cases h;exact Cq hq
 |int i=>
  cases r;obtain⟨t,rfl⟩:=q;cases h;exact truthy_int hq
 |_=>cases h
theorem Sz:∀{ds:Ac D}{b:Ai},E3 ds=.ok b->(∀ j,j<ds.length->∃ c,Gv (ds.getD j .non)=.ok c)/\b=(A1 ds.length).all λj=>match Gv (ds.getD j .non) with
  |.ok c=>c
  |_=>Ad
 |[],b,h=>by cases h;exact⟨λj hj=>absurd hj (XV _),rfl⟩
 |d::ds,b,h=>by
  rw[SV]at h;cases e:Gv d with
  |bad=>rw[e]at h;cases h
  |exn x=>rw[e]at h;cases h
  |ok c=>
   rw[e,R.bind_ok]at h;cases e2:E3 ds with
   |bad=>rw[e2]at h;cases h
   |exn x=>rw[e2]at h;cases h
   |ok c2=>
    rw[e2,R.bind_ok]at h;cases h;obtain⟨h1,h2⟩:=Sz e2;refine⟨λj hj=>?_,?_⟩
    .cases j with
     |zero=>exact⟨c,e⟩
     |succ j=>exact h1 j (by simpa using hj)
    .rw[AY,So,h2];show (c&&_)=((match Gv d with | .ok c=>c|_=>Ad)&&_)
     rw[e];rfl
theorem TY:∀(ds:Ac D)(a z:Ae),IG a ds=.ok z->(∀ j,j<ds.length->∃ i,ds.getD j .non=.int i)/\z=a+IX (λj=>match ds.getD j .non with
  |.int i=>i
  | _=>0) ds.length
 |[],a,z,h=>by cases h;exact⟨λj hj=>absurd hj (XV _),by simp[IX]⟩
 |.int i::ds,a,z,h=>by
  obtain⟨h1,h2⟩:=TY ds (a+i) z h;refine⟨λj hj=>?_,?_⟩
  .cases j with
   |zero=>exact⟨i,rfl⟩
   |succ j=>exact h1 j (by simpa using hj)
  .have key:∀ n,IX (λj=>match (D.int i::ds).getD j .non with | .int i=>i|_=>0) (n+1)=i+IX (λj=>match ds.getD j .non with | .int i=>i|_=>0) n:=by
    intro n
    induction n with
    |zero=>show (0:Ae)+i=i+0;omega
    |succ n ih=>
     show IX _ (n+1)+(match ds.getD n .non with | .int i=>i|_=>0)=i+(IX _ n+(match ds.getD n .non with | .int i=>i|_=>0))
     rw[ih];omega
   rw[h2,AY,key];omega
 |.non::_,_,_,h=>by cases h
 |.bl _::_,_,_,h=>by cases h
 |.str _::_,_,_,h=>by cases h
 |.tup _::_,_,_,h=>by cases h
 |.lst _::_,_,_,h=>by cases h
 |.obj _ _::_,_,_,h=>by cases h
 |.exc _ _::_,_,_,h=>by cases h
 |.dic _::_,_,_,h=>by cases h
theorem PZ{ds:Ac D}{its:Ac Aj}(r:Reps X.K CL H A0 xs ds)(rv:A6 xs its){v:Aj}(h:its.toArray[j]?=Ab v):j<ds.length/\∃ x,Rep X.K CL H A0 x (ds.getD j .non)/\Bu x v:=by
 have h':its[j]?=Ab v:=by simpa using h
 obtain⟨hj,e⟩:=AX.mp h';obtain⟨x,rx,q⟩:=JZ r rv hj;have l1:=rv.length;have l2:=r.length
 exact⟨by omega,x,rx,by rw[<-e];exact q⟩
theorem Rc{o:C9}(k:∀ b q,b∉[h.objs.size]->(h.push o).get? b=Ab q->h'.get? b=Ab q):∀ b q,h.get? b=Ab q->h'.get? b=Ab q:=λb q e=>k b q (by
 intro z;have:=A2.mp z;rw[this]at e;exact absurd (AH e) (Br _)) (Au _ e)
theorem uZ(hc:X.calm=Aa):Lr X CL W (.builtin "all") (biD .all):=by
  intro A pI s Y H xs us Q I r ⟨hA,ds,rs,p⟩
  match ds,rs,p with
  |[.lst es],rs,p=>
    obtain⟨v,rfl,rv⟩:=rs.one;obtain⟨q,ys,e,_,sq,ry⟩:=rv.plain;subst e;obtain⟨u,rfl,ru⟩:=Ke r;cases ru;rw[ZW]at p;cases e1:E3 es with
    |bad=>rw[e1]at p;exact p.elim
    |exn x=>
      exfalso
      have:∀(es:Ac D) x,E3 es≠.exn x:=by
        intro es
        induction es with
        |nil=>intro x h;cases h
        |cons d ds ih=>
          intro x h;rw[SV]at h;cases e:Gv d with
          |bad=>rw[e]at h;cases h
          |exn y=>cases d<;>cases e
          |ok c=>
            rw[e,R.bind_ok]at h;cases e2:E3 ds with
            |bad=>rw[e2]at h;cases h
            |exn y=>exact ih y e2
            |ok c2=>rw[e2]at h;cases h
      exact this es x e1
    |ok b=>
      rw[e1,R.bind_ok]at p;obtain⟨h1,h2⟩:=Sz e1;obtain⟨its,rvv,pl,_⟩:=I.list sq;have hlt:q<s.heap.objs.size:=by obtain⟨o,n,e,_⟩:=pl;exact AH e
      have hl:its.toArray.size=es.length:=by rw[AE,<-rvv.length,ry.length]
      refine call_all_walk (EJ (Jk pl) ⟨s.heap.objs.size,_,_,_,_,_,(λj=>match Gv (es.getD j .non) with | .ok c=>c|_=>Ad),rfl,Zu (A:=X.A.in1) (I.ok.hd hc) s.heap.objs.size q (Be hlt) its.toArray,⟨⟨_,AI _ rfl,rfl,rfl⟩,(Jk pl).push _⟩,λj v s' Q' E' hv hQ=>?_,λh' tk k=>?_⟩)
      · obtain⟨hj,x,rx,qx⟩:=PZ ry rvv hv;obtain⟨c,ec⟩:=h1 j hj;exact kO rx qx ec (by dsimp only at hQ;rw[ec]at hQ;exact hQ)
      · rw[hl,<-h2];exact⟨.bl b,H,I.kept (Rc k),rfl,p _ H (AB.refl H) rfl⟩
  |[],_,p=>exact p.elim
  |[.non],_,p=>exact p.elim
  |[.bl _],_,p=>exact p.elim
  |[.int _],_,p=>exact p.elim
  |[.str _],_,p=>exact p.elim
  |[.tup _],_,p=>exact p.elim
  |[.obj _ _],_,p=>exact p.elim
  |[.exc _ _],_,p=>exact p.elim
  |[.dic _],_,p=>exact p.elim
  |x::_::_,_,p=>cases x<;>exact p.elim
theorem UO(hc:X.calm=Aa){ys:Ac V}{es:Ac D}(I:Inv X pI Y H s)(sq:SqL X.K H q ys\/SqT X.K H q ys)(ry:Reps X.K CL H A0 ys es)(p:Ba (λH=>Rep X.K CL H A) W H ((IG 0 es).bind λb=>.ok (.int b)) Q):Az (model X.prog X.w) X.A (call (.builtin "sum") [.ref q]) (EP X pI Y Q) X.xe s:=by
 cases e1:IG 0 es with
 |bad=>rw[e1]at p;exact p.elim
 |exn x=>
  exfalso
  have:∀(es:Ac D)(a:Ae) x,IG a es≠.exn x:=by
   intro es
   induction es with
   |nil=>intro a x h;cases h
   |cons d ds ih=>
    intro a x h;cases d<;>first|exact ih _ _ h|cases h
  exact this es 0 x e1
 |ok z=>
  rw[e1,R.bind_ok]at p;obtain⟨h1,h2⟩:=TY es 0 z e1;rw[DF]at h2;rcases sq with sq|sq
  .obtain⟨its,rvv,pl,_⟩:=I.list sq;have hlt:q<s.heap.objs.size:=by obtain⟨o,n,e,_⟩:=pl;exact AH e
   have hl:its.toArray.size=es.length:=by rw[AE,<-rvv.length,ry.length]
   refine Zv (EJ (Jk pl) ⟨s.heap.objs.size,_,_,_,_,_,(λj=>match es.getD j .non with | .int i=>i|_=>0),rfl,Zu (A:=X.A.in1) (I.ok.hd hc) s.heap.objs.size q (Be hlt) its.toArray,⟨⟨_,AI _ rfl,rfl,rfl⟩,(Jk pl).push _⟩,λb hb=>?_,λj v hv=>?_,λh' tk t' k=>?_⟩)
   .show b<(s.heap.push _).objs.size;rw[BX];rcases AD.mp hb with rfl|hb
    .exact ES _
    .rw[A2.mp hb];exact Dt hlt
   .obtain⟨hj,x,rx,qx⟩:=PZ ry rvv hv;obtain⟨i,ei⟩:=h1 j hj;rw[ei]at rx;dsimp only;rw[ei];cases rx;exact qx
   .rw[hl,<-h2];exact⟨.int z,H,I.kept (Rc k),⟨_,rfl⟩,p _ H (AB.refl H) rfl⟩
  .obtain⟨its,rvv,pl,_⟩:=I.tuple sq;have pl':s.heap.IsTuple q its.toArray:=pl;have hlt:q<s.heap.objs.size:=by obtain⟨o,e,_⟩:=pl';exact AH e
   have hl:its.toArray.size=es.length:=by rw[AE,<-rvv.length,ry.length]
   refine Zv (G4 pl' ⟨s.heap.objs.size,_,_,_,_,_,(λj=>match es.getD j .non with | .int i=>i|_=>0),rfl,Walks.tuple (A:=X.A.in1) (I.ok.hd hc) s.heap.objs.size q (Be hlt) its.toArray,⟨⟨_,AI _ rfl,rfl,rfl⟩,pl'.push _⟩,λb hb=>?_,λj v hv=>?_,λh' tk t' k=>?_⟩)
   .show b<(s.heap.push _).objs.size;rw[BX];rcases AD.mp hb with rfl|hb
    .exact ES _
    .rw[A2.mp hb];exact Dt hlt
   .obtain⟨hj,x,rx,qx⟩:=PZ ry rvv hv;obtain⟨i,ei⟩:=h1 j hj;rw[ei]at rx;dsimp only;rw[ei];cases rx;exact qx
   .rw[hl,<-h2];exact⟨.int z,H,I.kept (Rc k),⟨_,rfl⟩,p _ H (AB.refl H) rfl⟩
theorem uX(hc:X.calm=Aa):Lr X CL W (.builtin "sum") (biD .sum):=by
  intro A pI s Y H xs us Q I r ⟨hA,ds,rs,p⟩
  match ds,rs,p with
  |[.lst es],rs,p=>
    obtain⟨v,rfl,rv⟩:=rs.one;obtain⟨q,ys,e,_,sq,ry⟩:=rv.plain;subst e;obtain⟨u,rfl,ru⟩:=Ke r;cases ru;exact UO hc I (.inl sq) ry p
  |[.tup es],rs,p=>
    obtain⟨v,rfl,rv⟩:=rs.one;obtain⟨q,ys,e,_,sq,ry⟩:=rv.plain;subst e;obtain⟨u,rfl,ru⟩:=Ke r;cases ru;exact UO hc I (.inr sq) ry p
  |[],_,p=>exact p.elim
  |[.non],_,p=>exact p.elim
  |[.bl _],_,p=>exact p.elim
  |[.int _],_,p=>exact p.elim
  |[.str _],_,p=>exact p.elim
  |[.obj _ _],_,p=>exact p.elim
  |[.exc _ _],_,p=>exact p.elim
  |[.dic _],_,p=>exact p.elim
  |x::_::_,_,p=>cases x<;>exact p.elim
end
section
variable(K:Fg)(CL:ClA)
def ZM(H0:Hp)(A:Ah->Prop)(H:Hp)(v:V)(d:D):Prop:=∀ ds,d=.lst ds->∃ a xs,v=.ref a/\H0 a=Af/\H a=Ab (.lst xs)/\Reps K CL H (λb=>A b\/b=a) xs ds
def Eu(fr:Ai)(H0:Hp)(A:Ah->Prop)(H:Hp)(v:V)(d:D):Prop:=Rep K CL H A v d/\(fr=Aa->ZM K CL H0 A H v d)
end
section
variable{X:Cx}{CL:ClA}{W:XW}{a b c:Am}{fa fb fc:Rho->R D}{pos:AJ}
def SC(X:Cx)(CL:ClA)(W:XW)(fr:Ai)(e:Am)(f:Rho->R D):Prop:=∀ A,PE X e (λY H Q=>AOk H A/\∃ Z,Good X.K CL A Z Y H/\Ba (Eu X.K CL fr H A) W H (f Z) Q)
theorem SC.se{fr:Ai}(h:SC X CL W fr a fa):SE X CL W a fa:=λA=>PE.weak (h A) λY H Q ⟨hA,Z,g,p⟩=>⟨hA,Z,g,by
 cases e:fa Z with
 |ok d=>rw[e]at p;exact λv H' s r=>p v H' s r.1
 |exn x=>rw[e]at p;exact p
 | bad=>rw[e]at p;exact p⟩
theorem SE.sc(h:SE X CL W a fa):SC X CL W Ad a fa:=λA=>PE.weak (h A) λY H Q ⟨hA,Z,g,p⟩=>⟨hA,Z,g,by
 cases e:fa Z with
 |ok d=>rw[e]at p;exact λv H' s r=>p v H' s ⟨r,λz=>nomatch z⟩
 |exn x=>rw[e]at p;exact p
 | bad=>rw[e]at p;exact p⟩
theorem SC.congr{fr:Ai}{f g:Rho->R D}(h:SC X CL W fr a f)(e:∀ Z,g Z=f Z):SC X CL W fr a g:=λA=>PE.weak (h A) λY H Q ⟨hA,Z,q,p⟩=>⟨hA,Z,q,by rw[<-e];exact p⟩
theorem KS{p:Ah}{ds:Ac D}(s:AB H0 H)(hA:AOk H A)(hp:H p=Af)(r:Reps K CL H A xs ds):Eu K CL Aa H0 A (upd H p (.lst xs)) (.ref p) (.lst ds):=
 ⟨Vs hA hp r,λ_ ds' e=>by
  cases e;exact⟨p,xs,rfl,s.free hp,Gp,(Reps.wide (λa ha=>ha.imp id λe=>by rw[e];exact hp) _ r).same (Fu hp _)⟩⟩
theorem UL{fr:Ai}(r:Rep K CL H A v d)(h:∀ ds,d≠.lst ds):Eu K CL fr H0 A H v d:=⟨r,λ_ ds e=>absurd e (h ds)⟩
theorem Qu(hs:SA X CL W es fs)(hz:∀ Z ds,fs Z=.ok ds->ds.length<=100000):SC X CL W Aa (.List es pos) (λZ=>(fs Z).bind λxs=>.ok (.lst xs)):=
 λA=>PE.weak (tH (hs A)) λY H Q ⟨hA,Z,g,p⟩=>⟨hA,Z,g,Hv.bind p λds vs H1 e s1 r1 p1=>⟨by
  rw[r1.length,Eb];have:=hz Z ds e;omega,λq hq=>p1 _ _ (Fu hq _) (KS s1 (hA.same s1) hq r1)⟩⟩
theorem Ba.bindF{fr:Ai}{f:D->R D}{Q':VK}(h:Ba (Eu K CL fr H A) W H (r.bind f) Q)(k:∀ d v H',r=.ok d->AB H H'->Rp H' v d->Ba (Eu K CL fr H A) W H' (f d) Q->Q' v H'):Ba Rp W H r Q':=by
 cases r with
 |ok d=>exact λv H2 s2 q=>k d v H2 rfl s2 q (Ba.same s2 h)
 |exn x=>exact h
 |bad=>exact h
theorem Hv.bindF{Rp:Hp->Ac V->Ac D->Prop}{r:R (Ac D)}{f:Ac D->R D}{Q':Ac V->Hp->Prop}(h:Ba Rq W H (r.bind f) Q)(k:∀ d v H',r=.ok d->AB H H'->Rp H' v d->Ba Rq W H' (f d) Q->Q' v H'):Hv Rp W H r Q':=by
 cases r with
 |ok d=>exact λv H2 s2 q=>k d v H2 rfl s2 q (Ba.same s2 h)
 |exn x=>exact h
 |bad=>exact h
theorem Kd.bindF{r:R (Ao Ae)}{f:Ao Ae->R D}(h:Ba Rq W H (r.bind f) Q)(k:∀ o H',r=.ok o->AB H H'->Ba Rq W H' (f o) Q->Q' o H'):Kd W H r Q':=by
 cases r with
 |ok d=>exact λH2 s2=>k d H2 rfl s2 (Ba.same s2 h)
 |exn x=>exact h
 |bad=>exact h
theorem xN{lo hi:Ao Am}{fl fh:Rho->R (Ao Ae)}(ha:ST X CL W a fa)(hl:SO X CL W lo fl)(hh:SO X CL W hi fh):SC X CL W Aa (.Subscript a (.Slice lo hi Af p2) pos) (λZ=>(fa Z).bind λx=>(fl Z).bind λl=>(fh Z).bind λh=>slD x l h):=
 λA=>PE.weak (fD (r:=λx l h H Q=>RK X.K x l h H Q\/R9 X.K x l h H Q) (λpI s Y H x v vl vu lo hi sl Q I rx hs pl pu h=>h.elim (jZ pI s Y H x v vl vu lo hi sl Q I rx hs pl pu) (rY pI s Y H x v vl vu lo hi sl Q I rx hs pl pu)) (ha A) (hl A) (hh A)) λY H Q ⟨hA,Z,g,p⟩=>⟨hA,Z,g,Ba.bindF p λdx x H1 _ s1 r1 p1=>⟨hA.same s1,Z,g.same s1,Kd.bindF p1 λl H2 _ s2 p2=>⟨(hA.same s1).same s2,Z,(g.same s1).same s2,Kd.bindF p2 λh H3 _ s3 p3=>by
  cases dx with
  |lst ds=>
   obtain⟨q,xs,rfl,sq,r⟩:=((r1.same s2).same s3).lst_of;exact .inl ⟨q,xs,rfl,sq,λt ht=>p3 _ _ (Fu ht _) (KS ((s1.trans s2).trans s3) (((hA.same s1).same s2).same s3) ht (U_3 l h r))⟩
  |tup ds=>
   obtain⟨q,xs,rfl,_,sq,r⟩:=((r1.same s2).same s3).tup_of;rw[aK]at p3;split at p3
   .exact p3.elim
   .rename_i hw;refine .inr ⟨q,xs,rfl,sq,?_,λt ht=>p3 _ _ (Fu ht _) (UL (JR (((hA.same s1).same s2).same s3) ht (U_3 l h r)) (by intro _ z;cases z))⟩
    rintro⟨h1,h2⟩;refine hw ?_;have e:∀ d o,HT.sIx xs.length d o=GU ds.length d o:=λd o=>by rw[r.length];cases o<;>rfl
    rw[e]at h1 h2;rw[r.length]at h2;simp[h1,h2]
  | _=>exact p3.elim⟩⟩⟩
noncomputable def OpN(X:Cx)(CL:ClA)(W:XW)(f:Aj->Aj->Sem Aj)(g:D->D->R D):Prop:=
 ∀ A H0,OpR X f (λx y H Q=>AB H0 H/\AOk H A/\∃ dx dy,Cj X.K CL H A x dx/\Cj X.K CL H A y dy/\Ba (Eu X.K CL Aa H0 A) W H (g dx dy) Q)
theorem lV:OpN X CL W (B7 .Add) (CD .Add):=by
 intro A H0 pI s Y H x y v u Q I rx ry ⟨s0,hA,dx,dy,hx,hy,p⟩;have key:(∀ ds,dx≠.lst ds)->EP X pI Y Q=EP X pI Y Q->Az (model X.prog X.w) X.A (B7 .Add v u) (EP X pI Y Q) X.xe s:=λhd _=>by
  refine Vm (W:=W) A pI s Y H x y v u Q I rx ry ⟨hA,dx,dy,hx,hy,?_⟩;cases e:CD .Add dx dy with
  |bad=>rw[e]at p;exact p
  |exn x=>rw[e]at p;exact p
  |ok d=>
   rw[e]at p;refine λv' H' s' r'=>p v' H' s' (UL r' λds z=>?_)
   subst z;cases dx with
   |lst ds=>exact hd _ rfl
   |tup xs=>
    cases dy with
    |tup ys=>rw[VB]at e;split at e<;>cases e
    |_=>cases e
   |str xs=>
    cases dy with
    |str ys=>rw[VC]at e;split at e<;>cases e
    |_=>cases e
   |int i=>cases dy<;>cases e
   |_=>cases e
 cases dx with
 |lst ds=>
  cases dy with
  |lst es=>
   obtain⟨a,xs,rfl,s1,r1⟩:=hx.lst_of;obtain⟨b,ys,rfl,s2,r2⟩:=hy.lst_of;simp only[VD]at p;split at p
   .rename_i h;refine Vn pI s Y H _ _ v u Q I rx ry ⟨a,b,xs,ys,rfl,rfl,s1,s2,by rw[r1.length,r2.length];exact GK h,λq hq=>?_⟩
    exact p _ _ (Fu hq _) (KS s0 hA hq (r1.append r2))
   .exact p.elim
  |_=>exact p.elim
 |_=>exact key (by intro _ z;cases z) rfl
theorem rX(ha:ST X CL W a fa)(hb:ST X CL W b fb):SC X CL W Aa (.BinOp a .Add b pos) (λZ=>(fa Z).bind λx=>(fb Z).bind λy=>CD .Add x y):=
 λA pI s Y H Q I h=>by
  obtain⟨hA,Z,g,p⟩:=h;exact WC (lV (W:=W) A H) (ha A) (hb A) pI s Y H Q I ⟨hA,Z,g,Ba.bindF p λdx x H1 _ s1 r1 p1=>⟨hA.same s1,Z,g.same s1,Ba.bind (Rq:=Eu X.K CL Aa H A) p1 λdy y H2 _ s2 r2 p2=>⟨s1.trans s2,(hA.same s1).same s2,dx,dy,r1.same s2,r2,p2⟩⟩⟩
def W3(X:Cx)(CL:ClA)(W:XW)(f:Aj)(g:Ac D->R D):Prop:=∀ A H0,Jq X f (λxs H Q=>AB H0 H/\AOk H A/\∃ ds,GQ X.K CL H A xs ds/\Ba (Eu X.K CL Aa H0 A) W H (g ds) Q)
theorem nQ:W3 X CL W (.type "list") (biD .list):=by
  intro A H0 pI s Y H xs us Q I r ⟨s0,hA,ds,rs,p⟩
  match ds,rs,p with
  |[.lst es],rs,p=>
    obtain⟨v,rfl,rv⟩:=rs.one;obtain⟨q,ys,rfl,sq,ry⟩:=rv.lst_of;exact Sr pI s Y H _ us Q I r ⟨q,ys,rfl,.inl sq,λl hl=>p _ _ (Fu hl _) (KS s0 hA hl ry)⟩
  |[.tup es],rs,p=>
    obtain⟨v,rfl,rv⟩:=rs.one;obtain⟨q,ys,rfl,_,sq,ry⟩:=rv.tup_of;exact Sr pI s Y H _ us Q I r ⟨q,ys,rfl,.inr sq,λl hl=>p _ _ (Fu hl _) (KS s0 hA hl ry)⟩
  |[],_,p=>exact p.elim
  |[.non],_,p=>exact p.elim
  |[.bl _],_,p=>exact p.elim
  |[.int _],_,p=>exact p.elim
  |[.str _],_,p=>exact p.elim
  |[.obj _ _],_,p=>exact p.elim
  |[.exc _ _],_,p=>exact p.elim
  |[.dic _],_,p=>exact p.elim
  |x::_::_,_,p=>cases x<;>exact p.elim
theorem rW{x:Ak}{g:Ac D->R D}(hc:W3 X CL W (.type T) g)(hg:Gl X x)(hm:X.mg x=Af)(hv:C4 x=Ab (.type T))(ha:SAT X CL W (e::es) fs)(hn:x≠"__name__")(hdb:(x==("__debug__" : Ak))=Ad)(he:Ar (e::es) X.env=(Ad,eval e X.env)::Ar es X.env)(hpl:∀ pos,(Bv pos (Ar es X.env)).any (·.1)=Ad):SC X CL W Aa (.Call (.Name x p) (e::es) [] pos) (λZ=>(fs Z).bind g):=λA pI s Y H Q I ⟨hA,Z,gd,q⟩=>
 Tq (hc A H) hg hm hv (ha A) hn hdb he (hpl _) pI s Y H Q I ⟨hA,Z,gd,Hv.bindF q λds vs H1 _ s1 r1 p1=>⟨s1,hA.same s1,ds,r1,p1⟩⟩
mutual
theorem WG{K:Fg}{H:Hp}{A:Ah->Prop}(hA:AOk H A):∀(n:Ag)(d:D){v:V},nlD n d=Aa->Rep K CL H A0 v d->Rep K CL H A v d
 |_,.non,_,_,h=>h
 |_,.bl _,_,_,h=>h
 |_,.int _,_,_,h=>h
 |_,.str _,_,_,h=>h
 |0,.tup _,_,hn,_=>by cases hn
 |n+1,.tup ds,_,hn,h=>by
  obtain⟨a,xs,e,_,s,r⟩:=h;refine⟨a,xs,e,?_,s,nls_up hA n ds hn r⟩;rcases s with s|s
  .refine .inl λz=>?_
   obtain⟨u,q,⟨ys,rfl⟩|⟨ys,rfl⟩⟩:=hA a z<;>rcases s with s|⟨o,s⟩<;>rw[q]at s<;>cases s
  .exact .inr s
 |n,.lst _,_,hn,_=>by cases n<;>cases hn
 |n,.obj _ _,_,hn,_=>by cases n<;>cases hn
 |n,.exc _ _,_,hn,_=>by cases n<;>cases hn
 |n,.dic _,_,hn,_=>by cases n<;>cases hn
theorem nls_up{K:Fg}{H:Hp}{A:Ah->Prop}(hA:AOk H A):∀(n:Ag)(ds:Ac D){vs:Ac V},ds.all (nlD n)=Aa->Reps K CL H A0 vs ds->Reps K CL H A vs ds
 |_,[],[],_,h=>h
 |n,d::ds,_::_,hn,h=>by
  simp only[DS,Al]at hn;exact⟨WG hA n d hn.1 h.1,nls_up hA n ds hn.2 h.2⟩
 |_,[],_::_,_,h=>h.elim
 |_,_::_,[],_,h=>h.elim
end
theorem QA{fr:Ai}(hA0:AOk H0 A)(s:AB H0 H)(hc:F4 fr d=Aa)(r:Eu K CL fr H0 A0 H v d):Eu K CL fr H0 A H v d:=by
 have hA:=hA0.same s;cases d with
 |lst ds=>
  have hc':(fr&&ds.all (nlD 5))=Aa:=hc;rw[Al]at hc';obtain⟨a,xs,e,h0,h1,rs⟩:=r.2 hc'.1 ds rfl;have hA2:AOk H (λb=>A b\/b=a):=λb hb=>hb.elim (hA b) λe=>by rw[e];exact⟨_,h1,.inl ⟨xs,rfl⟩⟩
  have rs':=nls_up hA2 5 ds hc'.2 (Reps.sub (λ_ z=>z.elim) _ rs)
  refine⟨⟨a,xs,e,.inl (hA0.new h0),SqL.of h1,Reps.sub (λ_ z=>.inl z) _ rs'⟩,λ_ ds' e'=>?_⟩
  cases e';exact⟨a,xs,e,h0,h1,rs'⟩
 |_=>exact⟨WG hA 5 _ hc r.1,λ_ _ z=>nomatch z⟩
def Ox(K:Fg)(CL:ClA)(fr:Ai)(H0:Hp)(A:Ah->Prop)(H:Hp)(v:V)(d:D):Prop:=Eu K CL fr H0 A H v d/\(fr=Aa->FT K CL A (λa=>H0 a=Af) H v d)
def spD(K:Fg)(CL:ClA)(n:Ag)(fr:Ai)(F:Ac D->R D):Sp:=λvs H Q E=>∃(ds:Ac D)(A:Ah->Prop),vs.length=n/\AOk H A/\Reps K CL H A vs ds/\(match F ds with
  |.ok d=>∀ v H',AB H H'->Ox K CL fr H A H' v d->Q v H'
  |.exn x=>∀ cls dx H',AB H H'->FI K CL H' cls dx x->E cls dx H'
  | .bad=>AU)
def EKW(K:Fg)(CL:ClA)(A:Ah->Prop)(W:XW):XK:=λcls dx H'=>∃ x,FI K CL H' cls dx x/\W x H'
theorem GQ.plain{K:Fg}{H:Hp}{A:Ah->Prop}:∀{vs:Ac V}{ds:Ac D},GQ K CL H A vs ds->Reps K CL H A0 vs ds
 |[],[],h=>trivial
 |_::_,_::_,h=>⟨h.1.plain,GQ.plain h.2⟩
 |[],_::_,h=>h.elim
 |_::_,[],h=>h.elim
theorem jC{CX:CXT}{k:Ag}{fr:Ai}{f:Ah}{fd:BO}{ps:Ac Ak}{F:Ac D->R D}{x:Ak}{ft:Rho->R (Ac D)}{sh:Rho->Ai}(G:FnOk X.prog X.w X.K X.mg X.base CX k f fd ps (spD X.K CL n fr F))(hr:Room k X.A)(hg:Gl X x)(hm:X.mg x=Ab (.ref f))(hk:BL X.K (.ref f)=Aa)(hb:EZ X.K fd ps [])(hx:∀ A,J4 CX X (EKW X.K CL A W))(ha:SA X CL W (e::es) fs)(hat:SAT X CL W (e::es) ft)(hst:∀ Z,sh Z=Aa->ft Z=fs Z)(hn:∀ Z ds,ft Z=.ok ds->ds.length=n)(hdb:(x==("__debug__" : Ak))=Ad)(he:Ar (e::es) X.env=(Ad,eval e X.env)::Ar es X.env)(hpl:∀ pos,(Bv pos (Ar es X.env)).any (·.1)=Ad):SC X CL W fr (.Call (.Name x p) (e::es) [] pos) (λZ=>(ft Z).bind λds=>(F ds).bind λd=>if sh Z=Aa then .ok d else if F4 fr d=Aa then .ok d else .bad):=λA pI s Y H Q I ⟨hA,Z,gd,q⟩=>by
 dsimp only at q;by_cases hs:sh Z=Aa
 .rw[hst Z hs]at q;refine Qc G hr hg hm hk hb .nil (hx A) (ha A) hdb he (hpl _) pI s Y H Q I ⟨hA,Z,gd,?_⟩;cases e1:fs Z with
  |bad=>rw[e1]at q;exact q
  |exn y=>rw[e1]at q;exact q
  |ok ds=>
   rw[e1]at q;intro vs H1 s1 r1;refine⟨ds,A,by rw[Bp,r1.length];exact hn Z ds (by rw[hst Z hs];exact e1),hA.same s1,by rw[Bp];exact r1,?_⟩
   have q':Ba (Eu X.K CL fr H A) W H ((F ds).bind λd=>if sh Z=Aa then .ok d else if F4 fr d=Aa then .ok d else .bad) Q:=q
   cases e2:F ds with
   |ok d=>
    rw[e2,R.bind_ok,Ax hs]at q';exact λv H2 s2 ⟨r2,_⟩=>q' v H2 (s1.trans s2) ⟨r2.1,λz ds' e'=>let ⟨a,xs,z1,z2,z3⟩:=r2.2 z ds' e';⟨a,xs,z1,s1.free z2,z3⟩⟩
   |exn y=>rw[e2]at q';exact λcls dx H2 s2 xr=>⟨y,xr,q' H2 (s1.trans s2)⟩
   |bad=>rw[e2]at q';exact q'.elim
 .refine Qc G hr hg hm hk hb .nil (hx A0) (hat A) hdb he (hpl _) pI s Y H Q I ⟨hA,Z,gd,?_⟩;cases e1:ft Z with
  |bad=>rw[e1]at q;exact q
  |exn y=>rw[e1]at q;exact q
  |ok ds=>
   rw[e1]at q;intro vs H1 s1 r1;refine⟨ds,A0,by rw[Bp,r1.plain.length];exact hn Z ds e1,λ_ z=>z.elim,by rw[Bp];exact r1.plain,?_⟩
   have q':Ba (Eu X.K CL fr H A) W H ((F ds).bind λd=>if sh Z=Aa then .ok d else if F4 fr d=Aa then .ok d else .bad) Q:=q
   cases e2:F ds with
   |ok d=>
    rw[e2,R.bind_ok,Ay hs]at q';split at q'
    .rename_i hc;exact λv H2 s2 ⟨r2,_⟩=>q' v H2 (s1.trans s2) (QA hA (s1.trans s2) hc ⟨r2.1,λz ds' e'=>let ⟨a,xs,z1,z2,z3⟩:=r2.2 z ds' e';⟨a,xs,z1,s1.free z2,z3⟩⟩)
    .exact q'.elim
   |exn y=>rw[e2]at q';exact λcls dx H2 s2 xr=>⟨y,xr,q' H2 (s1.trans s2)⟩
   |bad=>rw[e2]at q';exact q'.elim
end
theorem O7(env:Ch):∀(ns:Ac (Ak×Eh))(acc:Ac (Ak×Ah)),(∀ x∈ns,x.2=.free->∃ c,env.cells.lookup x.1=Ab c)->(∀ x c,acc.lookup x=Ab c->env.cells.lookup x=Ab c) ->
  ∃ cl,(forIn ns acc fun(x:Ak×Eh)(cs:Ac (Ak×Ah))=>(if (x.2==.free)=Aa then do let c <-cellOf env x.1;pure (Ey ((x.1,c)::cs)) else pure (Ey cs):Sem (ForInStep (Ac (Ak×Ah)))))=pure cl /\
   (∀ x c,cl.lookup x=Ab c->env.cells.lookup x=Ab c)/\(∀ x,((x,DW)∈ns\/∃ c,acc.lookup x=Ab c)->∃ c,cl.lookup x=Ab c)
 |[],acc,_,h2=>⟨acc,by rw[GH],h2,λx hx=>hx.elim (λz=>nomatch z) id⟩
 |(n,k)::r,acc,h1,h2=>by
  rw[HC];by_cases hk:k=.free
  .subst hk;obtain⟨c,hc⟩:=h1 (n,.free) AA rfl;obtain⟨cl,e,p,q⟩:=O7 env r ((n,c)::acc) (λx hx=>h1 x (Aw _ hx)) (λx d hd=>by
    rw[Cb]at hd;split at hd
    .rename_i hx;cases hd;rw[eq_of_beq hx];exact hc
    .exact h2 x d hd)
   refine⟨cl,?_,p,λx hx=>q x ?_⟩
   .have e1:cellOf env n=pure c:=by unfold cellOf;dsimp only at hc;rw[hc]
    rw[Ax (by rfl),e1]
    exact e
   .rcases hx with hx|⟨d,hd⟩
    .rcases AD.mp hx with z|z
     .cases z;exact .inr ⟨c,by simp[Cb]⟩
     .exact .inl z
    .by_cases hxn:x=n
     .exact .inr ⟨c,by subst hxn;simp[Cb]⟩
     .exact .inr ⟨d,by rw[Cb];rw[Cw.mpr hxn];exact hd⟩
  .obtain⟨cl,e,p,q⟩:=O7 env r acc (λx hx=>h1 x (Aw _ hx)) h2
   refine⟨cl,?_,p,λx hx=>q x ?_⟩
   .rw[Ay (by simpa using hk)]
    exact e
   .rcases hx with hx|hx
    .rcases AD.mp hx with z|z
     .cases z;exact absurd rfl hk
     .exact .inl z
    .exact .inr hx
theorem SQ(h:∀ x∈scope.names,x.2=.free->∃ c,env.cells.lookup x.1=Ab c):∃ cl,closureFor scope env=pure cl/\(∀ x c,cl.lookup x=Ab c->env.cells.lookup x=Ab c)/\∀ x,(x,DW)∈scope.names->∃ c,cl.lookup x=Ab c:=by
 obtain⟨cl,e,p,q⟩:=O7 env scope.names [] h (λx c z=>by simp at z)
 refine⟨cl,?_,p,λx hx=>q x (.inl hx)⟩
 unfold closureFor
 first
  |exact e
  |(simp only[bind_pure];exact e)
  |(rw[show (forIn scope.names ([]:Ac (Ak×Ah)) _:Sem _)=pure cl from e];rfl)
theorem Pi:∀(names:Ac (Ak×Eh))(h:AF)(acc:Ac (Ak×Ah))(x:Ak)(c:Ah),(Dg h.objs.size names acc).lookup x=Ab c->acc.lookup x=Ab c\/((x,BR)∈names/\h.objs.size<=c/\(G3 h names).IsCell c Af)
 |[],_,_,_,_,e=>.inl e
 |(n,k)::r,h,acc,x,c,e=>by
  unfold Dg at e;unfold G3;by_cases hk:(k==BR)=Aa
  .rw[Ax hk]at e ⊢;have hs:h.objs.size+1=(h.push { cls:=.type "cell",data:=.cell Af }).objs.size:=(BX ..).symm;rw[hs]at e;rcases Pi r _ _ x c e with q|⟨q1,q2,q3⟩
   .rw[Cb]at q;cases hx:x==n with
    |true=>
     rw[hx]at q;cases q;refine .inr ⟨?_,AV _,?_⟩
     .rw[eq_of_beq hx,eq_of_beq hk];exact AA
     .exact⟨_,HH r _ _ _ (AI _ rfl),rfl⟩
    |false=>rw[hx]at q;exact .inl q
   .exact .inr ⟨Aw _ q1,by omega,q3⟩
  .rw[Ay hk]at e ⊢;rcases Pi r h acc x c e with q|⟨q1,q2,q3⟩
   .exact .inl q
   .exact .inr ⟨Aw _ q1,q2,q3⟩
theorem Pj:∀(names:Ac (Ak×Eh))(h:AF)(acc:Ac (Ak×Ah)),(∀ x y c,acc.lookup x=Ab c->acc.lookup y=Ab c->x=y)->(∀ x c,acc.lookup x=Ab c->c<h.objs.size)->∀ x y c,(Dg h.objs.size names acc).lookup x=Ab c->(Dg h.objs.size names acc).lookup y=Ab c->x=y
 |[],_,_,i,_,x,y,c,e1,e2=>i x y c e1 e2
 |(n,k)::r,h,acc,i,b,x,y,c,e1,e2=>by
  unfold Dg at e1 e2;by_cases hk:(k==BR)=Aa
  .rw[Ax hk]at e1 e2;have hs:h.objs.size+1=(h.push { cls:=.type "cell",data:=.cell Af }).objs.size:=(BX ..).symm;rw[hs]at e1 e2;have look:∀ z d,XB z ((n,h.objs.size)::acc)=Ab d->(z=n/\d=h.objs.size)\/(z≠n/\acc.lookup z=Ab d):=λz d q=>by
    rw[Cb]at q;cases hx:z==n with
    |true=>rw[hx]at q;cases q;exact .inl ⟨eq_of_beq hx,rfl⟩
    |false=>rw[hx]at q;exact .inr ⟨λe=>by rw[e]at hx;simp at hx,q⟩
   refine Pj r _ _ (λz z' d q q'=>?_) (λz d q=>?_) x y c e1 e2
   .rcases look z d q with ⟨rfl,q1⟩|⟨_,q1⟩<;>rcases look z' d q' with ⟨rfl,q2⟩|⟨_,q2⟩
    .rfl
    .exact absurd (b _ _ q2) (by rw[q1];exact Br _)
    .exact absurd (b _ _ q1) (by rw[q2];exact Br _)
    .exact i _ _ _ q1 q2
   .rw[<-hs];rcases look z d q with ⟨_,q1⟩|⟨_,q1⟩
    .rw[q1];exact ES _
    .exact Dt (b _ _ q1)
  .rw[Ay hk]at e1 e2;exact Pj r h acc i b x y c e1 e2
theorem O8:∀(names:Ac (Ak×Eh))(n:Ag)(acc:Ac (Ak×Ah))(x:Ak),(x,BR)∉names->(Dg n names acc).lookup x=acc.lookup x
 |[],_,_,_,_=>rfl
 |(m,k)::r,n,acc,x,hx=>by
  unfold Dg;have hr:(x,BR)∉r:=λz=>hx (Aw _ z)
  by_cases hk:(k==BR)=Aa
  .rw[Ax hk,O8 r _ _ x hr,Cb];cases q:x==m with
   |true=>exact absurd (by rw[eq_of_beq q,eq_of_beq hk];exact AA) hx
   |false=>rfl
  .rw[Ay hk];exact O8 r n acc x hr
theorem Pk(n0:Ag):∀(names:Ac (Ak×Eh))(n:Ag)(acc:Ac (Ak×Ah))(x:Ak),n0<=n->((x,BR)∈names\/∃ c,acc.lookup x=Ab c/\n0<=c)->∃ c,(Dg n names acc).lookup x=Ab c/\n0<=c
 |[],_,_,_,_,h=>h.elim (λz=>nomatch z) id
 |(m,k)::r,n,acc,x,hn,h=>by
  unfold Dg;by_cases hk:(k==BR)=Aa
  .rw[Ax hk];refine Pk n0 r _ _ x (by omega) ?_
   by_cases hx:(x==m)=Aa
   .exact .inr ⟨n,by rw[Cb,hx],hn⟩
   .rcases h with h|⟨c,h,hc⟩
    .rcases AD.mp h with z|z
     .cases z;simp at hx
     .exact .inl z
    .exact .inr ⟨c,by rw[Cb];simp only[hx];exact h,hc⟩
  .rw[Ay hk];refine Pk n0 r _ _ x hn (h.imp (λh=>?_) id)
   rcases AD.mp h with z|z
   .cases z;simp at hk
   .exact z
theorem cI{M:Hf}{A:AZ}{E:Vq}{globals:Ah}{qual:Ak}{Q:Ch->Aq->Prop}(hQ:Q (newEnv scope s.heap.objs.size globals (Dg (s.heap.objs.size+1) scope.names cl) qual Af .none (Ab env) Ip) { s with heap:=G3 (s.heap.push { cls:=.type "dict",data:=.dict #[] }) scope.names }):Az M A (Ih scope globals cl [] qual Af .none (Ab env)) Q E s:=by
 simp only[Ih,Option.isSome_some,ER];refine An (wpAny_alloc ?_);refine An (wpAny_layCells _ (λname kind cells=>by cases hkc:kind==BR<;>simp[hkc]) _ _ _ _ ?_)
 rw[show ({ s with heap:=s.heap.push { cls:=.type "dict",data:=.dict #[] } }:Aq).heap.objs.size=s.heap.objs.size+1 from BX ..]
 rw[GH];exact An (AC (AC hQ))
noncomputable def cxC(X:Cx)(scope:B6)(cl:Ac (Ak×Ah))(C:Ah)(N':Ac Ak)(s₀:Aq)(H₀:Hp)(fp:Ac Ah):Cx where
 prog:=X.prog
 w:=X.w
 K:=X.K
 mg:=X.mg
 base:=X.base
 A:=X.A
 N:=N'
 s₀:=s₀
 H₀:=H₀
 env:=compEnvC scope cl C X.env
 outer:=X.stack
 stack:=X.stack
 ex:=fp
 fn:=λx=>scope.names.lookup x==Ab BR
 calm:=X.calm
 pn:=[]
 xe:=λ_ _=>AU
theorem ME{env:Ch}:∀{names:Ac (Ak×Eh)}{x:Ak}{k:Eh},(names.map λ(n,k)=>if (k==DW&&env.scope.kind==.function&&env.kindOf n==Ab .cell) then (n,BR) else (n,k)).lookup x=Ab k->names.lookup x=Ab k\/(k=.cell/\names.lookup x=Ab .free)
 |[],_,_,h=>by simp at h
 |(n,j)::r,x,k,h=>by
  have ih:=@ME env r x k;have h':XB x ((if (j==DW&&env.scope.kind==.function&&env.kindOf n==Ab .cell)=Aa then (n,BR) else (n,j))::(r.map λ(n,k)=>if (k==DW&&env.scope.kind==.function&&env.kindOf n==Ab .cell) then (n,BR) else (n,k)))=Ab k:=h
  by_cases hc:(j==DW&&env.scope.kind==.function&&env.kindOf n==Ab .cell)=Aa
  .rw[Ax hc]at h';rw[Cb]at h' ⊢;cases hx:x==n with
   |true=>
    rw[hx]at h';cases h';simp only[Al]at hc;exact .inr ⟨rfl,by rw[eq_of_beq hc.1.1]⟩
   |false=>rw[hx]at h';exact ih h'
  .rw[Ay hc]at h';rw[Cb]at h' ⊢;cases hx:x==n with
   |true=>rw[hx]at h';exact .inl h'
   |false=>rw[hx]at h';exact ih h'
structure BlockOk (X:Cx) (scope:B6) (N':Ac Ak) (ts:Ac Ag):Prop where
 kind:scope.kind=.function
 uniq:∀ y∈scope.names,scope.names.lookup y.1=Ab y.2
 names:∀ y∈scope.names,y.2=.local->scope.names.lookup y.1=Ab .local
 free:∀ y∈scope.names,y.2=.free->X.env.scope.names.lookup y.1=Ab .cell\/X.env.scope.names.lookup y.1=Ab .free
 len:N'.length=X.N.length
 same:∀ i x,N'[i]?=Ab x->scope.names.lookup x=Ab .free->i∉ts->X.N[i]?=Ab x
 loc:∀ i x,N'[i]?=Ab x->(scope.names.lookup x=Ab .local\/scope.names.lookup x=Ab .cell)->i∈ts
structure BCells (X:Cx) (scope:B6) (cl:Ac (Ak×Ah)) (C:Ah) (h:AF):Prop where
 own:∀ x c,cl.lookup x=Ab c->X.env.cells.lookup x=Ab c\/(scope.names.lookup x=Ab .cell/\C<c/\h.IsCell c Af)
 inj:∀ x y c,cl.lookup x=Ab c->cl.lookup y=Ab c->x=y
 has:∀ x,scope.names.lookup x=Ab .cell->∃ c,cl.lookup x=Ab c/\C<c
 fr:∀ x,(x,DW)∈scope.names->∃ c,cl.lookup x=Ab c/\X.env.cells.lookup x=Ab c
section
variable{X:Cx}{pI:Pn}{Y:L2.St}{H:Hp}{s:Aq}
noncomputable def hideT(ts:Ac Ag)(Y:L2.St):L2.St:=ts.foldl (λY t=>Y.set t Af) Y
theorem Pe:∀(ts:Ac Ag)(Y:L2.St),(hideT ts Y).length=Y.length
 |[],_=>rfl
 |t::ts,Y=>by show (hideT ts (Y.set t Af)).length=_;rw[Pe ts,AT]
theorem S0:∀(ts:Ac Ag)(Y:L2.St){i:Ag}{v:V},(hideT ts Y)[i]?=Ab (Ab v)->Y[i]?=Ab (Ab v)/\i∉ts
 |[],_,_,_,h=>⟨h,by simp⟩
 |t::ts,Y,i,v,h=>by
  obtain⟨h1,h2⟩:=S0 ts (Y.set t Af) (i:=i) (v:=v) h;by_cases e:t=i
  .subst e;have:=F0 h1;cases this
  .rw[BV e]at h1;exact⟨h1,by simp only[AD,E8];exact⟨λz=>e z.symm,h2⟩⟩
theorem cS{tk:Ag}{C:Ah}{m:Ak->Ao Aj}(I:Inv X pI Y H s)(B:BlockOk X scope N' ts)(hf:∀ b∈fp,GY X pI H b)(hfo:∀ b∈fp,b<s.heap.objs.size)(hb:BCells X scope cl C h')(hk:∀ b o,s.heap.get? b=Ab o->h'.get? b=Ab o)(hC:s.heap.objs.size<=C)(hn:h'.Ns C m):Inv (cxC X scope cl C N' s H fp) [] (hideT ts Y) H {s with heap:=h',toks:=tk}:=by
 have stf:∀ b∈fp,b∉frs X.stack:=λb hb z=>by
  rcases AD.mp (I.stkSub b z) with e|e
  .exact(hf b hb).2.1 e
  .exact(hf b hb).2.2.1 e
 have frOf:∀ x,((relabel scope X.env).names.lookup x=Ab .cell\/(relabel scope X.env).names.lookup x=Ab .free)->scope.names.lookup x=Ab .free\/scope.names.lookup x=Ab .cell:=λx hx=>by
  rcases hx with z|z
  .rcases ME z with z|⟨_,z⟩
   .exact .inr z
   .exact .inl z
  .rcases ME z with z|⟨z,_⟩
   .exact .inl z
   .cases z
 have gtC:∀ c:Ah,C<c->s.heap.objs.size<=c:=λc z=>Ck hC (Gc z)
 have cellK:∀ c v,s.heap.IsCell c v->h'.IsCell c v:=λc v ⟨o,ho,hd⟩=>⟨o,hk _ _ ho,hd⟩
 refine⟨⟨I.ok.mod,B.kind,I.ok.glob,I.ok.blt,hC,hb.inj,λx hx=>?_,λx c h e=>?_,I.ok.hd,I.ok.frames,.inl rfl,λb hbb=>⟨?_,λx c e=>?_⟩,I.bs,Ck I.ok.bsz I.sz,λb o e hbb=>?_,stf,I.stack,I.stkFree⟩,rfl,I.bare,Un.kept hk,⟨m,hn,λi x v h1 h2 h3=>?_⟩,λx c e=>?_,I.hok.fresh hC,λx c e=>(hb.own x c e).elim (I.freeC x c) (λz=>I.hok.fresh (gtC c z.2.1)),λp hp=>absurd (show p∈([]:Pn) from hp) (by simp),I.hok.kept hk,?_⟩
 .rcases frOf x hx with z|z
  .obtain⟨c,q,_⟩:=hb.fr x (Ct z);exact⟨c,q⟩
  .obtain⟨c,q,_⟩:=hb.has x z;exact⟨c,q⟩
 .obtain⟨c',q,z⟩:=hb.has x (eq_of_beq h);have e':cl.lookup x=Ab c:=e;rw[q]at e';cases e';exact gtC _ z
 .intro z;have z':b=C:=z;have:=hfo b hbb;rw[z']at this;exact absurd (AG this hC) (Br _)
 .rcases hb.own x c e with z|z
  .exact(hf b hbb).2.2.2.2.1 x c z
  .intro q;have:=hfo b hbb;have:=gtC c z.2.1;rw[q]at this;exact absurd ‹b<_› (XU.mpr this)
 .rcases (hf b hbb).2.2.2.1 with z|z
  .exact I.ok.noex b o e z
  .exact absurd (AG (AH e) (Ck I.ok.bsz z)) (Br _)
 .obtain⟨h2,hts⟩:=S0 ts Y h2;have h3':(relabel scope X.env).names.lookup x=Ab .local\/(relabel scope X.env).names.lookup x=Ab .cell\/(relabel scope X.env).names.lookup x=Ab .free:=h3;have h1':N'[i]?=Ab x:=h1;rcases h3' with z|z
  .rcases ME z with z|⟨z,_⟩
   .exact absurd (B.loc i x h1' (.inl z)) hts
   .cases z
  .have fr:=(frOf x z).resolve_right λq=>hts (B.loc i x h1' (.inr q))
   have hm:=Ct fr;have hX:=B.same i x h1' fr hts;obtain⟨m0,hn0,hl0⟩:=I.loc;obtain⟨u,ru,lk⟩:=hl0 i x v hX h2 (by
    rcases B.free _ hm rfl with q|q
    .exact .inr (.inl q)
    .exact .inr (.inr q))
   refine⟨u,ru,?_⟩;obtain⟨c,hc,hcX⟩:=hb.fr x hm;rcases lk with ⟨q,_⟩|⟨_,c',hc',hcell⟩
   .have q':X.env.scope.names.lookup x=Ab .local:=q;rcases B.free _ hm rfl with p|p
    .rw[show X.env.scope.names.lookup x=_ from p]at q';cases q'
    .rw[show X.env.scope.names.lookup x=_ from p]at q';cases q'
   .have e:=hcX;rw[hc']at e;cases e;exact .inr ⟨z,c,hc,cellK _ _ hcell⟩
 .rcases hb.own x c e with z|z
  .obtain⟨v,q⟩:=I.cell x c z;exact⟨v,cellK _ _ q⟩
  .exact⟨_,z.2.2⟩
 .show (hideT ts Y).length=N'.length;rw[Pe,I.len,B.len]
theorem Td{C D:Ah}{s':Aq}{Y':L2.St}{pins':Pn}{h'':AF}{ys:Ac Aj}(I:Inv X pI Y H s)(hf:∀ b∈fp,GY X pI H b)(I':Inv (cxC X scope cl C N' s H fp) pins' Y' H' s')(hD:s.heap.objs.size<=D)(hDC:D≠C)(hC:s.heap.objs.size<=C)(hd:s'.heap.get? D=Ab { cls:=.type "list",data:=.seq ys.toArray n })(hDn:H' D=Af)(rv:A6 xs ys)(hz:xs.length<=sizeLine)(hs:DG C s'.heap h''):Inv X pI Y (upd H' D (.lst xs)) {s' with heap:=h''}:=by
  have u:Un (frs X.stack) fp H H' s.heap s'.heap:=I'.base;have lt:∀ b o,s.heap.get? b=Ab o->b≠C/\b≠D:=λb o e=>⟨λz=>absurd (AG (AH e) (z ▸ hC)) (Br _),λz=>absurd (AG (AH e) (z ▸ hD)) (Br _)⟩
  have HD:H D=Af:=I.hok.fresh hD;have hCn:H' C=Af:=I'.free;have kb:∀ b o,b≠C->s'.heap.get? b=Ab o->h''.get? b=Ab o:=λb o hb e=>(hs.2 b hb).trans e
  have u2:Un (frs X.stack) fp H (upd H' D (.lst xs)) s.heap h'':=⟨λb o e q hb hx=>kb b o (lt b o e).1 (u.keep b o e q hb hx),λb o e q hb hx=>by
      obtain⟨sl,e1⟩:=u.slot b o e q hb hx;exact⟨sl,kb b _ (lt b o e).1 e1⟩,λb o e q hx=>by rw[B8 (lt b o e).2];exact u.free b o e q hx,λb o e hx=>by
      obtain⟨o',e1⟩:=u.there b o e hx;exact⟨o',kb b _ (lt b o e).1 e1⟩,λb zs q=>by rw[B8 (FG q HD)];exact u.tups b zs q,λb o zs q=>by rw[B8 (FG q HD)];exact u.frzs b o zs q,λb ps q=>by rw[B8 (FG q HD)];exact u.tbls b ps q⟩
  have hok:HOk X.prog X.w (upd H' D (.lst xs)) h'':=λb o e=>by
    by_cases hb:b=D
    · subst hb;rw[Gp]at e;cases e;exact⟨hz,ys,n,rv,kb _ _ hDC hd⟩
    · rw[B8 hb]at e;refine(I'.hok b o e).stay (λc v hc q=>kb c v ?_ q) (λc q=>by rw[B8 (FG q hDn)];exact q) λc zs q=>by rw[B8 (FG q hDn)];exact q
      rcases hc with rfl|hc
      · exact FG e hCn
      · exact FG hc hCn
  exact I.call' (s':={s' with heap:=h''}) (ch:=fp) I'.os u2 hok I'.bare λb hb=>⟨(hf b hb).2.2.2.1,(hf b hb).2.1,(hf b hb).2.2.2.2.1,(hf b hb).2.2.2.2.2⟩
end
def PTs(X:Cx)(ifs:Ac Am)(tt:TT):Prop:=∀(pI:Pn)(s:Aq)(Y:L2.St)(H:Hp)(Q:Ai->Hp->Prop),Inv X pI Y H s->tt Y H Q ->
 Az (model X.prog X.w) X.A (forIn ifs Aa λc r=>if r=Aa then do let ok <-Ig c X.env (eval c X.env);pure (Ey ok) else pure (Ey r)) (TP X pI Y Q) X.xe s
theorem nG:PTs X [] (λY H Q=>Q Aa H):=λpI s Y H Q I h=>wpAny_tests_nil ⟨H,I,h⟩
theorem nF{t:TT}(h:PT X c t):PTs X [c] t:=λpI s Y H Q I q=>wpAny_tests_one (h pI s Y H Q I q)
theorem dY{D:Ah}{ys:Ac Aj}{E:Vq}{Q:Vq}(I:Inv X ((D,{ cls:=.type "list",data:=.seq ys.toArray n })::pI) Y H s)(hD:X.s₀.heap.objs.size<=D)(hp:∀ p∈X.pn++pI,p.1≠D)(hc:∀ x c,X.env.cells.lookup x=Ab c->c≠D)(hz:ys.length<=sizeLine)(h:∀ s',Inv X ((D,{ cls:=.type "list",data:=.seq (ys++[y]).toArray (n+1) })::pI) Y H s'->(∀ b o,b≠D->s.heap.get? b=Ab o->s'.heap.get? b=Ab o)->Q .none s'):Az (model X.prog X.w) X.A (call (.builtin "list.append") [.ref D,y]) Q E s:=by
 obtain⟨e,hn,hL,hfs,_⟩:=I.pin (D,{ cls:=.type "list",data:=.seq ys.toArray n }) (Bl _ AA);refine append_at (hsz:=by rw[AE];exact hz) e λh' hs hd=>?_
 have hd':h'.get? D=Ab { cls:=.type "list",data:=.seq (ys++[y]).toArray (n+1) }:=by rw[hd];simp
 have kb:∀ b o,b≠D->s.heap.get? b=Ab o->h'.get? b=Ab o:=λb o hb q=>(hs.2 b hb).trans q
 have I0:Inv X pI Y H s:=I.pins_of λp hp=>I.pin p (Bl _ (Aw _ hp))
 have I1:Inv X pI Y H {s with heap:=h'}:=I0.turned (t':=s.toks) kb hn hL (.inr hD) hc hp
 refine h _ (I1.pins_of λp hp=>?_) kb
 rcases AD.mp hp with rfl|hp
 .exact⟨hd',hn,hL,hfs,λv z=>by
   have z':LO _ _=LH v:=z;cases z'⟩
 .exact I1.pin p (Bl _ hp)
section
variable{prog:AO}{w:AW}{A:AZ}{R:Ia->Aq->Prop}{s:Aq}
theorem cT{target:Am}{it acc:Aj}(I:Ag->Aq->Prop)(turn:∀ n s,I n s->Az (model prog w) A (Ik it) (λr s₁=>match r with
      |none=>R (.ok .next) s₁
      | some v=>Az (model prog w) A (Gn target it v) (λ_ s₁'=>Az (model prog w) A (assign target env v) (λ_ s₂=>
          Az (model prog w) A (forIn ifs Aa λc r=>if r=Aa then do let ok <-Ig c env (eval c env);pure (Ey ok) else pure (Ey r)) (λok s₃=>
            if ok=Aa then Az (model prog w) A (eval elt env) (λx s₄=>
              Az (model prog w) A (call (.builtin "list.append") [acc,x]) (λ_ s₅=>∃ m,m<n/\I m s₅) (Ii (model prog w) A env λe s'=>R (.error e) s') s₄) (Ii (model prog w) A env λe s'=>R (.error e) s') s₃
            else ∃ m,m<n/\I m s₃) (Ii (model prog w) A env λe s'=>R (.error e) s') s₂) (Ii (model prog w) A env λe s'=>R (.error e) s') s₁') (Ii (model prog w) A env λe s'=>R (.error e) s') s₁) (Ii (model prog w) A env λe s'=>R (.error e) s') s)(n:Ag)(h:I n s):F7 (model prog w) A (.compLoop (.ListComp elt [⟨target,iter,ifs,0⟩] scope pos) 0 it acc env) R s:=by
  refine codeAny_loop rfl I (λn s hI=>?_) n h
  show Az _ A ((compTurn (.ListComp elt [⟨target,iter,ifs,0⟩] scope pos) 0 it acc env).onRaise (λx=>do G2 x env;theTreesLotGoes x)) _ _ s
  refine wpAny_noted ?_;rw[compTurn_list];refine An (G7 (An (By (turn n s hI) (λr s₁ h₁=>?_) λ_ _ h'=>h')))
  cases r with
  |none=>exact AC h₁
  |some v=>
    refine An (By h₁ (λ_ s₁' h₁'=>?_) λ_ _ h'=>h')
    refine An (By h₁' (λ_ s₂ h₂=>An (By h₂ (λok s₃ h₃=>?_) λ_ _ h'=>h')) λ_ _ h'=>h')
    cases ok with
    |false=>exact AC ⟨rfl,h₃⟩
    |true=>
      exact An (An (By h₃ (λx s₄ h₄=>An (By h₄ (λ_ s₅ h₅=>AC (AC ⟨rfl,h₅⟩)) λ_ _ h'=>h')) λ_ _ h'=>h'))
end
def L6(J:It)(ts:Ac Ag)(g:TG)(tt:TT)(te:TE)(Y:L2.St)(H:Hp)(Q:VK):Prop:=∃ W:Ag->Ag->Ac V->L2.St->Hp->Prop,(∃ m,W 0 m [] (hideT ts Y) H)/\∀ i m xs Y H,W i m xs Y H ->
 (J.stop i H/\∀ p,H p=Af->Q (.ref p) (upd H p (.lst xs))) \/
 (J.go i H/\xs.length<sizeLine/\∀ x H',J.yld i H x H'->g x Y H' λY2 H2=>tt Y2 H2 λb H3=>if b=Aa then te Y2 H3 λy H4=>∃ m',m'<m/\W (i+1) m' (xs++[y]) Y2 H4 else ∃ m',m'<m/\W (i+1) m' xs Y2 H3)
theorem Ue{g:TG}{it:Ah}{tn:Ag->AF->Prop}{E:Vq}{RR:Aj->Ah->Ia->Aq->Prop}(hc:X.calm=Aa)(B:BlockOk X scope N' ts)(I:Inv X pI Y H s)(T:Turn X.prog X.w X.K tg J fp it tn)(st:tn 0 s.heap)(hf:∀ b∈fp,GY X pI H b)(hcl:∀ x c,cl.lookup x=Ab c->X.env.cells.lookup x=Ab c)(hcl2:∀ x,(x,DW)∈scope.names->∃ c,cl.lookup x=Ab c)(hg:∀ cl C s H,PG (cxC X scope cl C N' s H fp) tg g)(ht:∀ cl C s H,PTs (cxC X scope cl C N' s H fp) ifs tt)(he:∀ cl C s H,PE (cxC X scope cl C N' s H fp) elt te)(h:L6 J ts g tt te Y H Q)(hRR:∀ cl D C s' H' Y' pins' xs ys n m,Inv (cxC X scope cl C N' s H fp) pins' Y' H' s'->s'.heap.get? D=Ab { cls:=.type "list",data:=.seq (Fp ys) n }->H' D=Af->A6 xs ys->xs.length<=sizeLine->s.heap.objs.size<=D->D≠C->s.heap.objs.size<=C->s'.heap.Ns C m->Q (.ref D) (upd H' D (.lst xs))->RR (.ref D) C (.ok .next) s'):Az (model X.prog X.w) X.A (newList []) (λacc s₃=>Az (model X.prog X.w) X.A (Ih scope X.env.globals cl [] X.env.qual Af .none (Ab X.env)) (λcenv s₄=>F7 (model X.prog X.w) X.A (.compStart (.ListComp elt [⟨tg,iter,ifs,0⟩] scope pos) 0 (.ref it) acc {cenv with scope:=relabel scope X.env}) (RR acc cenv.locals) s₄) E s₃) E s:=by
 refine CS (cI ?_);dsimp only;generalize hH2:s.heap.push { cls:=.type "list",dict:=Af,data:=.seq ([]:Ac Aj).toArray }=H2;have hns₁:(G3 (H2.push { cls:=.type "dict",data:=.dict #[] }) scope.names).Ns H2.objs.size (λ_=>Af):=(Heap.Ns.new H2 (.type "dict")).keeps (HH _ _)
 have hkp₁:∀ b o,H2.get? b=Ab o->(G3 (H2.push { cls:=.type "dict",data:=.dict #[] }) scope.names).get? b=Ab o:=λb o e=>HH _ _ b o (Au _ e)
 have hown:=Pi scope.names (H2.push { cls:=.type "dict",data:=.dict #[] }) cl;have hinj:=Pj scope.names (H2.push { cls:=.type "dict",data:=.dict #[] }) cl;rw[BX]at hown hinj;generalize hcl':Dg (H2.objs.size+1) scope.names cl=cl' at hown hinj;have hcf:∀ x,(x,BR)∉scope.names->cl'.lookup x=cl.lookup x:=λx hx=>by rw[<-hcl'];exact O8 _ _ _ x hx
 have hch:∀ x,(x,BR)∈scope.names->∃ c,cl'.lookup x=Ab c/\H2.objs.size+1<=c:=λx hx=>by rw[<-hcl'];exact Pk _ _ _ _ x (AV _) (.inl hx)
 generalize hh₁:G3 (H2.push { cls:=.type "dict",data:=.dict #[] }) scope.names=h₁ at hns₁ hkp₁ hown;have hC:H2.objs.size=s.heap.objs.size+1:=by rw[<-hH2,BX]
 have hCle:s.heap.objs.size<=H2.objs.size:=by rw[hC];exact Nat.le_succ _
 have hDC:s.heap.objs.size≠H2.objs.size:=by rw[hC];exact Be (ES _)
 have below:∀ b,b<s.heap.objs.size->b≠H2.objs.size:=λb hb=>by rw[hC];exact Be (Dt hb)
 have old:∀ b o,s.heap.get? b=Ab o->h₁.get? b=Ab o:=λb o e=>hkp₁ b o (hH2 ▸ Au _ e)
 have hacc:h₁.get? s.heap.objs.size=Ab { cls:=.type "list",data:=.seq ([]:Ac Aj).toArray 0 }:=hkp₁ _ _ (hH2 ▸ AI _ rfl);have clt:∀ x c,cl.lookup x=Ab c->c<s.heap.objs.size:=λx c e=>by
  obtain⟨v,q⟩:=I.cell x c (hcl x c e);exact q.lt
 have bc:BCells X scope cl' H2.objs.size h₁:=by
  refine⟨λx c e=>?_,hinj (λx y c e1 e2=>I.ok.inj x y c (hcl x c e1) (hcl y c e2)) (λx c e=>Dt (AG (clt x c e) hCle)),λx hx=>?_,λx hx=>?_⟩
  .rcases hown x c e with q|⟨q1,q2,q3⟩
   .exact .inl (hcl x c q)
   .exact .inr ⟨B.uniq _ q1,q2,q3⟩
  .have hm:=Ct hx;obtain⟨c,e,hc⟩:=hch x hm;exact⟨c,e,hc⟩
  .have hno:(x,BR)∉scope.names:=λz=>by
    have e1:=B.uniq _ hx;have e2:=B.uniq _ z;rw[show scope.names.lookup x=_ from e1]at e2
    cases e2
   obtain⟨c,e⟩:=hcl2 x hx;exact⟨c,by rw[hcf x hno];exact e,hcl x c e⟩
 have hfo:∀ b∈fp,b<s.heap.objs.size:=λb hb=>by
  obtain⟨o,e,_⟩:=T.obj 0 _ st b hb;exact AH e
 generalize hD:s.heap.objs.size=D at *;generalize hC':H2.objs.size=C at *;have I0:Inv (cxC X scope cl' C N' s H fp) [] (hideT ts Y) H {s with heap:=h₁,toks:=s.toks+([]:Ac (Ak×Aj)).length}:=cS (tk:=s.toks+([]:Ac (Ak×Aj)).length) I B hf (λb hb=>by rw[hD];exact hfo b hb) bc old (by rw[hD];exact hCle) hns₁
 have nD:H D=Af:=I.hok.fresh (by rw[hD];exact AV _)
 have noD:∀ b∈fp,b≠D:=λb hb=>Be (hfo b hb)
 have noC:∀ b∈fp,b≠C:=λb hb=>below b (hfo b hb)
 have stfs:D∉frs X.stack:=λz=>by
  obtain⟨_,o,ho,_⟩:=I.stack.mem z;exact absurd (AH ho) (by rw[hD];exact Br _)
 have cD:∀ x c,cl'.lookup x=Ab c->c≠D:=λx c e z=>by
  rcases bc.own x c e with q|⟨_,q,_⟩
  .obtain⟨v,q⟩:=I.cell x c q;exact absurd q.lt (by rw[z,hD];exact Br _)
  .rw[z]at q;exact absurd (AG q hCle) (Br _)
 have I1:Inv (cxC X scope cl' C N' s H fp) [(D,{ cls:=.type "list",data:=.seq ([]:Ac Aj).toArray 0 })] (hideT ts Y) H {s with heap:=h₁,toks:=s.toks+([]:Ac (Ak×Aj)).length}:=I0.pins_of λp hp=>by
  have e:=A2.mp hp;subst e;exact⟨hacc,nD,hDC,stfs,λv z=>by
   have z':LO _ _=LH v:=z;cases z'⟩
 have st1:tn 0 h₁:=T.keep _ _ _ st λb _ o e=>old b o e
 obtain⟨W,⟨m0,w0⟩,turn⟩:=h;have fpk:∀{pl:Pn}{H':Hp},(∀ p∈pl,p.1=D)->(∀ b∈fp,H' b=Af)->∀ b∈fp,GY (cxC X scope cl' C N' s H fp) pl H' b:=λ{pl H'} hp hn b hb=>
  ⟨hn b hb,noC b hb,λz=>by
   rcases AD.mp (I.stkSub b z) with e|e
   .exact(hf b hb).2.1 e
   .exact(hf b hb).2.2.1 e,.inl hb,λx c e=>(bc.own x c e).elim ((hf b hb).2.2.2.2.1 x c) (λz q=>absurd (G0 hCle z.2.1) (XU.mpr (by rw[q];exact Gc (hfo b hb)))),λp hp'=>by
   have hp2:p∈pl:=hp';rw[hp p hp2];exact(noD b hb).symm⟩
 have loop:∀ s₃:Aq,s₃={s with heap:=h₁,toks:=s.toks+([]:Ac (Ak×Aj)).length} ->
   F7 (model X.prog X.w) X.A (.compLoop (.ListComp elt [⟨tg,iter,ifs,0⟩] scope pos) 0 (.ref it) (.ref D) (compEnvC scope cl' C X.env)) (RR (.ref D) C) s₃:=by
  rintro s₃ rfl;refine cT (λk s'=>∃ i Y' H' xs ys n,Inv (cxC X scope cl' C N' s H fp) [(D,{ cls:=.type "list",data:=.seq (Fp ys) n })] Y' H' s'/\tn i s'.heap/\(∀ b∈fp,H' b=Af)/\A6 xs ys/\xs.length<=sizeLine/\W i k xs Y' H') ?_ m0
   ⟨0,_,H,[],[],0,I1,st1,λb hb=>(hf b hb).1,.nil,HK _,w0⟩
  rintro k s' ⟨i,Y',H',xs,ys,n,I',st',fr',rv,hz,w'⟩;have one:∀ p∈[((D,{ cls:=.type "list",data:=.seq (Fp ys) n }):Ah×C9)],p.1=D:=λp hp=>by rw[A2.mp hp]
  rcases turn i k xs Y' H' w' with ⟨stop,q⟩|⟨go,hlt,step⟩
  .refine By (T.done (cxC X scope cl' C N' s H fp) rfl rfl rfl hc i _ s' Y' H' (λ_ _=>AU) I' (fpk one fr') st' stop) (λr s1 ⟨hr,J1⟩=>?_) λ_ _ f=>f.elim
   subst hr;obtain⟨e,hn,_⟩:=J1.pin _ (Bl _ AA);obtain⟨m,hm,_⟩:=J1.loc;exact hRR cl' D C s1 H' Y' _ xs ys n m J1 e hn rv hz (AV _) hDC hCle hm (q D hn)
  .refine By (T.item (cxC X scope cl' C N' s H fp) rfl rfl rfl hc i _ s' Y' H' (λ_ _=>AU) I' (fpk one fr') st' go) (λr s1 ⟨u,hr,h4⟩=>?_) λ_ _ f=>f.elim
   subst hr;refine By h4 (λ_ s5 ⟨x,H5,I5,r5,y5,st5,fr5⟩=>?_) λ_ _ f=>f.elim
   have I5':=I5.pinned (fpk one fr5) (T.obj _ _ st5);refine By (hg cl' C s H _ s5 Y' H5 x u _ I5' r5 (step x H5 y5)) (λ_ s6 ⟨Y6,H6,I6,q6⟩=>?_) λ_ _ f=>f.elim
   refine By (ht cl' C s H _ s6 Y6 H6 _ I6 q6) (λok s7 ⟨H7,I7,q7⟩=>?_) λ_ _ f=>f.elim
   have again:∀{s8:Aq}{H8:Hp}{ys':Ac Aj}{n':Ag},Inv (cxC X scope cl' C N' s H fp) ((D,{ cls:=.type "list",data:=.seq (Fp ys') n' })::Kb fp s5.heap) Y6 H8 s8->Inv (cxC X scope cl' C N' s H fp) [(D,{ cls:=.type "list",data:=.seq (Fp ys') n' })] Y6 H8 s8/\tn (i+1) s8.heap/\∀ b∈fp,H8 b=Af:=λ{s8 H8 ys' n'} I8=>
    ⟨I8.pins_of λp hp=>I8.pin p (Bl _ (by rw[A2.mp hp];exact AA)),T.keep _ _ _ st5 λb hb o e=>(I8.pin (b,o) (Bl _ (Aw _ (MN hb e)))).1,λb hb=>by
     obtain⟨o,e,d⟩:=T.obj _ _ st5 b hb;exact(I8.pin (b,o) (Bl _ (Aw _ (MN hb e)))).2.1⟩
   cases ok with
   |false=>
    rw[Ay (by decide)]at q7
    obtain⟨m',hm,w7⟩:=q7;obtain⟨a1,a2,a3⟩:=again I7;rw[Ay (by decide)]
    exact⟨m',hm,i+1,Y6,H7,xs,ys,n,a1,a2,a3,rv,hz,w7⟩
   |true=>
    rw[Ax rfl]at q7;rw[Ax rfl];refine By (he cl' C s H _ s7 Y6 H7 _ I7 q7) (λval s8 ⟨y,H8,I8,r8,m',hm,w8⟩=>?_) λ_ _ f=>f.elim
    have hl:=rv.length;refine dY (X:=cxC X scope cl' C N' s H fp) (ys:=ys) (n:=n) (pI:=Kb fp s5.heap) I8 (by show s.heap.objs.size<=D;rw[hD];exact AV _) (λp hp=>?_) cD (by omega) λs9 I9 kb=>?_
    .have hp2:p∈Kb fp s5.heap:=hp;exact noD _ (Ts hp2).1
    .obtain⟨a1,a2,a3⟩:=again I9;exact⟨m',hm,i+1,Y6,H8,xs++[y],ys++[val],n+1,a1,a2,a3,rv.append (.cons r8 .nil),by rw[AM];exact hlt,w8⟩
 exact codeAny_compStart_list (loop _ rfl) (T.self _ 0 _ _ _ st1 (loop _ rfl))
theorem lM{g:TG}(hc:X.calm=Aa)(B:BlockOk X scope N' ts)(hi:PI X tg iter wi)(hg:∀ cl C s H fp,PG (cxC X scope cl C N' s H fp) tg g)(ht:∀ cl C s H fp,PTs (cxC X scope cl C N' s H fp) ifs tt)(he:∀ cl C s H fp,PE (cxC X scope cl C N' s H fp) elt te)(hs:∀ x,CQ iter X.env x=pure x):PE X (.ListComp elt [⟨tg,iter,ifs,0⟩] scope pos) (λY H Q=>wi Y H λJ H1=>L6 J ts g tt te Y H1 Q):=by
 intro pI s Y H Q I h;obtain⟨cl,hclos,hcl,hcl2⟩:=SQ (scope:=scope) (env:=X.env) λx hx hk=>I.ok.has x.1 ((B.free x hx hk).imp id id)
 rw[eval_ListComp];refine ZF (use:=Af) rfl hs hclos B.kind B.names (thn (hi pI s Y H _ I h) λv s1 h1=>thn h1 λitv s2 h2=>?_)
 obtain⟨it,fp,tn,J,H2,e,I2,T,st2,f2,h3⟩:=h2;subst e;refine Ue (RR:=λacc C=>compPost (model X.prog X.w) X.A X.xe Af (EP X pI Y Q) acc C) hc B I2 T st2 f2 hcl hcl2 (λcl C s H=>hg cl C s H fp) (λcl C s H=>ht cl C s H fp) (λcl C s H=>he cl C s H fp) h3 λcl' D C s' H' Y' pins' xs ys n m I' hd hDn rv hz hD hDC hC hm q=>?_
 exact⟨m,hm,λh'' hs''=>⟨.ref D,_,Td I2 f2 I' hD hDC hC hd hDn rv hz hs'',rfl,q⟩⟩
theorem nI{n:Ak}{g:TG}(hc:X.calm=Aa)(B:BlockOk X scope N' ts)(hi:PI X tg iter wi)(hg:∀ cl C s H fp,PG (cxC X scope cl C N' s H fp) tg g)(ht:∀ cl C s H fp,PTs (cxC X scope cl C N' s H fp) ifs tt)(he:∀ cl C s H fp,PE (cxC X scope cl C N' s H fp) elt te)(hs:∀ x,CQ iter X.env x=pure x)(hN:X.N.Nodup)(hni:X.N[i]?=Ab n)(hx:X.env.scope.names.lookup n=Ab .local)(hsw:Cd (.ListComp elt [⟨tg,iter,ifs,0⟩] scope pos) (Ab (.Name n pos')) pos2.line X.env=pure Aa):PS X (.Assign [.Name n pos'] (.ListComp elt [⟨tg,iter,ifs,0⟩] scope pos) pos2) (Mv (λY H Q=>wi Y H λJ H1=>L6 J ts g tt te Y H1 Q) (EE i)):=by
 intro pI s Y H Dn I h;obtain⟨cl,hclos,hcl,hcl2⟩:=SQ (scope:=scope) (env:=X.env) λx hx hk=>I.ok.has x.1 ((B.free x hx hk).imp id id)
 rw[exec_Assign_Name_used _ _ _ _ hsw];refine An (G7 (An ?_));show Az _ X.A (do let _ <-comprehension (.ListComp elt [⟨tg,iter,ifs,0⟩] scope pos) scope X.env _ (newList []) Ad (eval iter X.env) (Ab (assign (.Name n pos') X.env))) _ _ s
 refine An (By (ZF (use:=Ab (assign (.Name n pos') X.env)) (Q:=λ_ s'=>SP X pI Dn .next s') rfl hs hclos B.kind B.names
  (thn (hi pI s Y H _ I h) λv s1 h1=>thn h1 λitv s2 h2=>?_)) (λ_ s' hq=>AC (AC hq)) λ_ _ e=>e)
 obtain⟨it,fp,tn,J,H2,e,I2,T,st2,f2,h3⟩:=h2;subst e;refine Ue (RR:=λacc C=>compPost (model X.prog X.w) X.A X.xe (Ab (assign (.Name n pos') X.env)) (λ_ s'=>SP X pI Dn .next s') acc C) hc B I2 T st2 f2 hcl hcl2 (λcl C s H=>hg cl C s H fp) (λcl C s H=>ht cl C s H fp) (λcl C s H=>he cl C s H fp) h3 λcl' D C s' H' Y' pins' xs ys n' m I' hd hDn rv hz hD hDC hC hm q=>?_
 have J0:Inv X pI Y (upd H' D (.lst xs)) s':=Td I2 f2 I' hD hDC hC hd hDn rv hz (YZ ..);refine ZE (Tn J0 hN hni (.inl hx) (show Bu (.ref D) (.ref D) from rfl) (λs'' J1 ⟨a,sb,ha⟩=>?_) (.inr hx))
 have hC0:X.s₀.heap.objs.size<=C:=Ck I2.sz hC;have hL:C≠X.env.locals:=λz=>absurd (AG I2.lt (z ▸ hC)) (Br _)
 have hcC:∀ x c,X.env.cells.lookup x=Ab c->c≠C:=λx c e z=>by
  obtain⟨v,q'⟩:=I2.cell x c e;exact absurd (AG q'.lt (by rw[z];exact hC)) (Br _)
 have hp:∀ p∈X.pn++pI,p.1≠C:=λp hp z=>absurd (AG (AH (I2.pin p hp).1) (by rw[z];exact hC)) (Br _)
 have hCn:upd H' D (.lst xs) C=Af:=by rw[B8 hDC.symm];exact I'.free
 have hCa:C≠a:=by
  rcases ha with rfl|ha
  .exact hL
  .exact λz=>hcC n a ha z.symm
 refine⟨m,hm.sameBut sb hCa,λh'' hs''=>⟨_,_,J1.turned (t':=s''.toks) (λb o hb e=>(hs''.2 b hb).trans e) hCn hL (.inr hC0) hcC hp,q⟩⟩
theorem K2:∀(ts:Ac Ag)(Z:Rho)(j:Ag),(Fv ts Z)[j]?=if j∈ts then (Z[j]?).map (λ_=>Af) else Z[j]?
 |[],Z,j=>by simp[Fv]
 |t::ts,Z,j=>by
  show (Fv ts (Z.set t Af))[j]?=_;rw[K2 ts];by_cases h1:j∈ts
  .rw[Ax h1,Ax (Aw _ h1)];by_cases h2:t=j
   .subst h2;rw[FF];cases Z[t]?<;>rfl
   .rw[BV h2]
  .rw[Ay h1];by_cases h2:t=j
   .subst h2;rw[Ax AA,FF];cases Z[t]?<;>rfl
   .rw[BV h2,Ay (by simp only[AD,E8];exact⟨λz=>h2 z.symm,h1⟩)]
theorem MU:∀(ts:Ac Ag)(Z:Rho),(Fv ts Z).length=Z.length
 |[],_=>rfl
 |t::ts,Z=>by show (Fv ts (Z.set t Af)).length=_;rw[MU ts,AT]
theorem O5:∀(ts:Ac Ag)(Y:L2.St){i:Ag},i∉ts->(hideT ts Y)[i]?=Y[i]?
 |[],_,_,_=>rfl
 |t::ts,Y,i,h=>by
  simp only[AD,E8]at h;show (hideT ts (Y.set t Af))[i]?=_;rw[O5 ts _ h.2,BV (λz=>h.1 z.symm)]
theorem Sq:∀(ts:Ac Ag)(ds:Ac D)(Z1 Z2:Rho),Z1.length=Z2.length->(∀ j,j∉ts->Z1[j]?=Z2[j]?)->EF ts ds Z1=EF ts ds Z2
 |[],[],Z1,Z2,hl,h=>congrArg Ab (Xq λj=>h j (by simp))
 |[],_::_,_,_,_,_=>rfl
 |_::_,[],_,_,_,_=>rfl
 |t::ts,d::ds,Z1,Z2,hl,h=>by
  refine Sq ts ds _ _ (by rw[AT,AT];exact hl) λj hj=>?_
  by_cases e:t=j
  .subst e;rw[Hd,Hd,Ax rfl,Ax rfl,hl]
  .rw[BV e,BV e];exact h j (by simp only[AD,E8];exact⟨λz=>e z.symm,hj⟩)
theorem SH:∀(ts us:Ac Ag)(ds:Ac D)(Z Z':Rho),(∀ t∈ts,t∈us)->EF ts ds Z=Ab Z'->Fv us Z'=Fv us Z
 |[],us,[],Z,Z',_,e=>by cases e;rfl
 |t::ts,us,d::ds,Z,Z',hs,e=>by
  rw[SH ts us ds _ Z' (λu hu=>hs u (Aw _ hu)) e]
  refine Xq λj=>?_
  rw[K2,K2];by_cases h:j∈us
  .rw[Ax h,Ax h,Hd];split
   .rename_i e2;subst e2;split
    .rename_i h3;rw[B1 h3];rfl
    .rename_i h3;rw[List.getElem?_eq_none (by omega)]
   .rfl
  .rw[Ay h,Ay h,BV];rintro rfl;exact h (hs _ AA)
 |[],_,_::_,_,_,_,e=>by cases e
 |_::_,_,[],_,_,_,e=>by cases e
section
variable{K:Fg}{CL:ClA}{A:Ah->Prop}{Z Z':Rho}{Y:L2.St}{H:Hp}
theorem Good.less(g:Good K CL A Z Y H)(hl:Z'.length=Z.length)(h:∀(i:Ag)(d:D)(o:Ai),Z'[i]?=Ab (Ab (d,o))->Z[i]?=Ab (Ab (d,o))):Good K CL A Z' Y H:=⟨λi d e=>g.sh i d (h i d Ad e),λi d e=>g.ow i d (h i d Aa e),hl.trans g.len⟩
theorem Good.put(g:Good K CL A Z Y H)(t:Ag)(r:Rep K CL H A v d):Good K CL A (Z.set t (Ab (d,Ad))) (Y.set t (Ab v)) H:=by
 refine⟨λj e h=>?_,λj e h=>?_,by rw[AT,AT];exact g.len⟩
 .by_cases hj:t=j
  .subst hj;have e1:=F0 h;cases e1;have hl:t<Y.length:=by
    rw[<-g.len];have:=(AX.mp h).1;simpa using this
   exact⟨v,by rw[BW hl],r⟩
  .rw[BV hj]at h;obtain⟨w',q,rw'⟩:=g.sh j e h;exact⟨w',by rw[BV hj];exact q,rw'⟩
 .have hj:t≠j:=by
   rintro rfl;have:=F0 h;cases this
  rw[BV hj]at h;obtain⟨a,xs,q,z⟩:=g.ow j e h;exact⟨a,xs,by rw[BV hj];exact q,z⟩
theorem Good.hide(g:Good K CL A Z Y H)(ts:Ac Ag):Good K CL A (Fv ts Z) Y H:=g.less (MU _ _) λi d o e=>by
 rw[K2]at e;split at e
 .cases q:Z[i]? with
  |none=>rw[q]at e;cases e
  |some x=>rw[q]at e;cases e
 .exact e
theorem Good.hideT(g:Good K CL A Z Y H)(ts:Ac Ag):Good K CL A (Fv ts Z) (hideT ts Y) H:=by
 have key:∀ i x,(Fv ts Z)[i]?=Ab (Ab x)->Z[i]?=Ab (Ab x)/\i∉ts:=λi x e=>by
  rw[K2]at e;split at e
  .cases q:Z[i]? with
   |none=>rw[q]at e;cases e
   |some x=>rw[q]at e;cases e
  .exact⟨e,by assumption⟩
 refine⟨λi d e=>?_,λi d e=>?_,by rw[MU,Pe];exact g.len⟩
 .obtain⟨e1,e2⟩:=key i _ e;obtain⟨v,q,r⟩:=g.sh i d e1;exact⟨v,by rw[O5 _ _ e2];exact q,r⟩
 .obtain⟨e1,e2⟩:=key i _ e;obtain⟨a,xs,q,r⟩:=g.ow i d e1;exact⟨a,xs,by rw[O5 _ _ e2];exact q,r⟩
end
def GG(K:Fg)(CL:ClA)(ts:Ac Ag)(as:D->Rho->R Rho)(g:TG):Prop:=∀ A Z Y H v d Z' Q,Good K CL A (Fv ts Z) Y H->Rep K CL H A v d->as d Z=.ok Z'->(∀ Y',Good K CL A Z' Y' H->Good K CL A (Fv ts Z) Y' H->Q Y' H)->g v Y H Q
theorem nZ(i:Ag):GG K CL [i] (λd Z=>.ok (Z.set i (Ab (d,Ad)))) (EE i):=λA Z Y H v d Z' Q g r e k=>by
 cases e;have g2:=g.put i r;have e1:(Fv [i] Z).set i (Ab (d,Ad))=Z.set i (Ab (d,Ad)):=by
  show (Z.set i Af).set i (Ab (d,Ad))=_;rw[XG]
 rw[e1]at g2;refine k _ g2 ?_;have:=g2.hide [i];have e2:Fv [i] (Z.set i (Ab (d,Ad)))=Fv [i] Z:=by
  show (Z.set i _).set i Af=Z.set i Af;rw[XG]
 rw[e2]at this;exact this
theorem Vb{K:Fg}{CL:ClA}{A:Ah->Prop}{H:Hp}:∀(ts:Ac Ag)(ds:Ac D)(vs:Ac V)(Z Z':Rho)(Y:L2.St)(Q:L2.St->Hp->Prop),Good K CL A Z Y H->Reps K CL H A vs ds->EF ts ds Z=Ab Z'->(∀ Y',Good K CL A Z' Y' H->Q Y' H)->(ts.foldr (λt u=>G8 (EE t) u) Hy) vs Y H Q
 |[],[],[],Z,Z',Y,Q,x,_,e,k=>by
  cases e;exact⟨rfl,k Y x⟩
 |t::ts,d::ds,v::vs,Z,Z',Y,Q,x,r,e,k=>⟨v,vs,rfl,Vb ts ds vs _ Z' _ Q (x.put t r.1) r.2 e k⟩
 |[],_::_,_,_,_,_,_,_,_,e,_=>by cases e
 |_::_,[],_,_,_,_,_,_,_,e,_=>by cases e
 |[],[],_::_,_,_,_,_,_,r,_,_=>r.elim
 |_::_,_::_,[],_,_,_,_,_,r,_,_=>r.elim
theorem wI(ts:Ac Ag):GG K CL ts (FH ts) (Ls K ts.length (ts.foldr (λt u=>G8 (EE t) u) Hy)):=λA Z Y H v d Z' Q g r e k=>by
 cases d with
 |tup ds=>
  obtain⟨a,xs,rfl,na,sq,rs⟩:=r;rw[SR]at e;cases e2:EF ts ds Z with
  |none=>rw[e2]at e;cases e
  |some Z2=>
   rw[e2]at e;cases e;have e3:EF ts ds (Fv ts Z)=Ab Z':=by
    rw[<-e2];exact Sq ts ds _ _ (MU _ _) λj hj=>by rw[K2,Ay hj]
   refine⟨a,xs,rfl,sq,by rw[rs.length];exact O2 _ _ _ _ e2,Vb ts ds xs _ Z' Y Q g rs e3 λY' g'=>k Y' g' ?_⟩
   have:=g'.hide ts;rw[SH ts ts ds Z Z' (λ_ h=>h) e2]at this
   exact this
 |_=>cases e
noncomputable abbrev W0:XW:=λ_ _=>AU
def STs(X:Cx)(CL:ClA)(ifs:Ac Am)(f:Rho->R Ai):Prop:=∀ A,PTs X ifs (λY H Q=>AOk H A/\∃ Z,Good X.K CL A Z Y H/\C5 W0 H (f Z) Q)
theorem jK:STs X CL [] (λ_=>.ok Aa):=λA pI s Y H Q I ⟨hA,Z,g,p⟩=>nG pI s Y H Q I (p H (AB.refl H))
theorem jJ(h:SB X CL W0 c f):STs X CL [c] f:=λA pI s Y H Q I q=>nF (h A) pI s Y H Q I q
section
variable{X:Cx}{CL:ClA}{W:XW}{tg iter elt:Am}{ifs:Ac Am}{scope:B6}{pos:AJ}{N':Ac Ak}{ts:Ac Ag}{fi:Rho->R (Ac D)}{fc:Rho->R Ai}{fe:Rho->R D}{as:D->Rho->R Rho}{g:TG}
theorem cQ{g:D->R Ai}{f:D->R D}{x:D}{xs ys:Ac D}(h:BU g f (x::xs)=.ok ys):(g x=.ok Ad/\BU g f xs=.ok ys)\/∃ y r,g x=.ok Aa/\f x=.ok y/\BU g f xs=.ok r/\ys=y::r:=by
 unfold BU at h;cases e:g x with
 |bad=>rw[e]at h;cases h
 |exn z=>rw[e]at h;cases h
 |ok b=>
  rw[e,R.bind_ok]at h;cases b with
  |false=>exact .inl ⟨rfl,h⟩
  |true=>
   rw[Ax rfl]at h;cases e2:f x with
   |bad=>rw[e2]at h;cases h
   |exn z=>rw[e2]at h;cases h
   |ok y=>
    rw[e2,R.bind_ok]at h;cases e3:BU g f xs with
    |bad=>rw[e3]at h;cases h
    |exn z=>rw[e3]at h;cases h
    |ok r=>
     rw[e3,R.bind_ok]at h;cases h;exact .inr ⟨y,r,rfl,rfl,rfl,rfl⟩
theorem JN{β:Type}{r:R α}{f:α->R β}{b:β}(h:r.bind f=.ok b):∃ a,r=.ok a/\f a=.ok b:=by
 cases r with
 |ok a=>exact⟨a,rfl,h⟩
 |exn x=>cases h
 |bad=>cases h
theorem eE{ds ys:Ac D}(hGG:GG K CL ts as g)(hA:AOk H1 A)(gd:Good K CL A Z Y H1)(yl:II K CL A ds J H1)(hz:ds.length<=sizeLine)(hcp:BU (λx=>(as x Z).bind fc) (λx=>(as x Z).bind fe) ds=.ok ys)(q:∀ xs H2,AB H1 H2->Reps K CL H2 A xs ys->∀ p,H2 p=Af->Q (.ref p) (upd H2 p (.lst xs))):L6 J ts g (λY H Q=>AOk H A/\∃ Z,Good K CL A Z Y H/\C5 W0 H (fc Z) Q) (λY H Q=>AOk H A/\∃ Z,Good K CL A Z Y H/\Ba (λH=>Rep K CL H A) W0 H (fe Z) Q) Y H1 Q:=by
 refine⟨λi m xs Y' H'=>m=ds.length-i/\i<=ds.length/\xs.length<=i/\AB H1 H'/\Good K CL A (Fv ts Z) Y' H'/\∃ outs rest,Reps K CL H' A xs outs/\BU (λx=>(as x Z).bind fc) (λx=>(as x Z).bind fe) (ds.drop i)=.ok rest/\ys=outs++rest,
  ⟨ds.length,by simp,HK _,AV _,AB.refl _,gd.hideT ts,[],ys,trivial,hcp,rfl⟩,?_⟩
 rintro i m xs Y' H' ⟨rfl,hi,hxl,sm,g',outs,rest,rs,hc,e⟩;obtain⟨yst,ygo⟩:=yl H' (Kp.of sm) i;by_cases hlt:i<ds.length
 .have hd:ds[i]?=Ab ds[i]:=B1 hlt;obtain⟨hgo,hyl⟩:=ygo _ hd;refine .inr ⟨hgo,by omega,λx H2 hx=>?_⟩
  obtain⟨s2,rx⟩:=hyl x H2 hx;have rx':=rx A (λa ha=>.inl ha) (hA.same sm)
  rw[Fi hlt]at hc;have sm2:=sm.trans s2;rcases cQ hc with ⟨h1,h2⟩|⟨y,r,h1,h2,h3,h4⟩
  .obtain⟨Z',ea,ec⟩:=JN h1;refine hGG A Z Y' H2 x ds[i] Z' _ (g'.same s2) rx' ea λY3 g3 g4=>⟨hA.same sm2,Z',g3,?_⟩
   rw[ec];exact λH3 s3=>by
    dsimp only;rw[Ay (by decide)]
    exact⟨ds.length-(i+1),by omega,rfl,hlt,by omega,sm2.trans s3,g4.same s3,outs,rest,(rs.same s2).same s3,h2,e⟩
  .obtain⟨Z',ea,ec⟩:=JN h1;obtain⟨Z2,ea2,ee⟩:=JN h2;rw[ea]at ea2;cases ea2;refine hGG A Z Y' H2 x ds[i] Z' _ (g'.same s2) rx' ea λY3 g3 g4=>⟨hA.same sm2,Z',g3,?_⟩
   rw[ec];exact λH3 s3=>by
    dsimp only;rw[Ax rfl];refine⟨(hA.same sm2).same s3,Z',g3.same s3,?_⟩;rw[ee];exact λv H4 s4 r4=>⟨ds.length-(i+1),by omega,rfl,hlt,by rw[AM,Bj];omega,(sm2.trans s3).trans s4,(g4.same s3).same s4,outs++[y],r,(((rs.same s2).same s3).same s4).append ⟨r4,trivial⟩,h3,by rw[e,h4];simp⟩
 .have hk':ds.length<=i:=by omega
  rw[Xo hk']at hc;have hr:rest=[]:=by cases hc;rfl
  subst hr;rw[Bp]at e;subst e;exact .inl ⟨yst hk',λp hp=>q xs H' sm rs p hp⟩
theorem E4.ok_of{r:R (Ac D)}{f:Ac D->R D}{Q':It->Hp->Prop}(h:Ba Rq W H (r.bind f) Q)(k:∀ ds J H',r=.ok ds->AB H H'->II K CL A ds J H'->ds.length<=sizeLine->Ba Rq W H' (f ds) Q->Q' J H'):E4 K CL A W H r Q':=by
 cases r with
 |ok d=>exact λJ H2 s2 y z=>k d J H2 rfl s2 y z (Ba.same s2 h)
 |exn x=>exact h
 |bad=>exact h
theorem tV{r:R α}{a:α}(h:noX r=.ok a):r=.ok a:=by
 cases r with
 |ok b=>exact h
 |exn x=>cases h
 |bad=>cases h
theorem S9(hGG:GG X.K CL ts as g)(hA:AOk H A)(gd:Good X.K CL A Z Y H)(p:Ba (Eu X.K CL Aa H A) W H ((fi Z).bind λxs=>(noX (BU (λx=>(as x Z).bind fc) (λx=>(as x Z).bind fe) xs)).bind λys=>.ok (.lst ys)) Q):E4 X.K CL A W H (fi Z) (λJ H1=>L6 J ts g (λY H Q=>AOk H A/\∃ Z,Good X.K CL A Z Y H/\C5 W0 H (fc Z) Q) (λY H Q=>AOk H A/\∃ Z,Good X.K CL A Z Y H/\Ba (λH=>Rep X.K CL H A) W0 H (fe Z) Q) Y H1 Q):=
 E4.ok_of p λds J H1 e1 s1 yl hz p1=>by
  cases e2:noX (BU (λx=>(as x Z).bind fc) (λx=>(as x Z).bind fe) ds) with
  |ok ys=>
   rw[e2]at p1;exact eE hGG (hA.same s1) (gd.same s1) yl hz (tV e2) λxs H2 s2 rs q hq=>p1 _ _ (s2.trans (Fu hq _)) (KS (s1.trans s2) ((hA.same s1).same s2) hq rs)
  |exn x=>rw[e2]at p1;cases hq:BU (λx=>(as x Z).bind fc) (λx=>(as x Z).bind fe) ds<;>rw[hq]at e2<;>cases e2
  |bad=>rw[e2]at p1;exact p1.elim
theorem jB(hc:X.calm=Aa)(B:BlockOk X scope N' ts)(hi:SI X CL W tg iter fi)(hGG:GG X.K CL ts as g)(hg:∀ cl C s H fp,PG (cxC X scope cl C N' s H fp) tg g)(ht:∀ cl C s H fp,STs (cxC X scope cl C N' s H fp) CL ifs fc)(he:∀ cl C s H fp,SE (cxC X scope cl C N' s H fp) CL W0 elt fe)(hs:∀ x,CQ iter X.env x=pure x):SC X CL W Aa (.ListComp elt [⟨tg,iter,ifs,0⟩] scope pos) (λZ=>(fi Z).bind λxs=>(noX (BU (λx=>(as x Z).bind fc) (λx=>(as x Z).bind fe) xs)).bind λys=>.ok (.lst ys)):=λA pI s Y H Q I ⟨hA,Z,gd,p⟩=>
 lM hc B (hi A) hg (λcl C s H fp=>ht cl C s H fp A) (λcl C s H fp=>he cl C s H fp A) hs pI s Y H Q I ⟨hA,Z,gd,S9 hGG hA gd p⟩
end
section
variable{K:Fg}{CL:ClA}{Fz:Ah->HO->Prop}{B:Ah->Prop}{Z:Rho}{Y:L2.St}{H H':Hp}
theorem CU.rep(h:CU K CL H A a o d)(na:¬ A' a)(hh:H a=Ab o)(sub:∀ b,A' b->A b):Rep K CL H A' (.ref a) d:=by
 rcases h with ⟨xs,ds,rfl,rfl,r⟩|⟨es,ds,rfl,rfl,r⟩
 .exact⟨a,xs,rfl,.inl na,SqL.of hh,Reps.sub sub _ r⟩
 .exact⟨a,es,rfl,na,hh,Repk.sub sub _ r⟩
theorem Sx.setO(x:Sx K CL Fz B Z Y H)(s:AB H H'){u:HO}(h0:H a=Af)(h1:H' a=Ab u)(r:CU K CL H' (λb=>Bi B Z Y b\/b=a) a u d):Sx K CL Fz B (Z.set i (Ab (d,Aa))) (Y.set i (Ab (.ref a))) H':=by
 have nA:¬ Bi B Z Y a:=x.aok.new h0;have own:∀(j:Ag)(e:D),(Z.set i (Ab (d,Aa)))[j]?=Ab (Ab (e,Aa))->(i=j/\e=d)\/(i≠j/\Z[j]?=Ab (Ab (e,Aa))):=λj e h=>by
  by_cases hj:i=j
  .subst hj;have:=F0 h;cases this;exact .inl ⟨rfl,rfl⟩
  .exact .inr ⟨hj,by rw[BV hj]at h;exact h⟩
 have atI:∀{j:Ag}{y:Sl},(Z.set i (Ab (d,Aa)))[j]?=Ab y->i=j->(Y.set i (Ab (.ref a)))[j]?=Ab (Ab (.ref a)):=λ{j y} h e=>by
  subst e;have hl:i<Y.length:=by
   rw[<-x.len];have:=(AX.mp h).1;simpa using this
  rw[BW hl]
 have sub:∀ b,Bi B (Z.set i (Ab (d,Aa))) (Y.set i (Ab (.ref a))) b->Bi B Z Y b\/b=a:=λb h=>by
  rcases h with h|⟨j,e,h1,h2⟩
  .exact .inl (.inl h)
  .rcases own j e h1 with ⟨hj,_⟩|⟨hj,h1'⟩
   .rw[atI h1 hj]at h2;cases h2;exact .inr rfl
   .rw[BV hj]at h2;exact .inl (.inr ⟨j,e,h1',h2⟩)
 have wide:∀{v:V}{e:D},Rep K CL H (Bi B Z Y) v e->Rep K CL H' (Bi B (Z.set i (Ab (d,Aa))) (Y.set i (Ab (.ref a)))) v e:=λr=>(Rep.wide (λb hb=>(sub b hb).imp id λe=>by rw[e];exact h0) _ r).same s
 have wides:∀{b:Ah}{o:HO}{e:D},CU K CL H (Bi B Z Y) b o e->CU K CL H' (Bi B (Z.set i (Ab (d,Aa))) (Y.set i (Ab (.ref a)))) b o e:=λr=>(r.wide (λb hb=>(sub b hb).imp id λe=>by rw[e];exact h0)).same s
 refine⟨⟨λj e h=>?_,λj e h=>?_,by rw[AT,AT];exact x.len⟩,λb h=>?_,λj e b g1 g2=>?_,λj k e f b g1 g2 g3 g4=>?_,λb o z=>s _ _ (x.same b o z),by rw[AT,AT];exact x.len⟩
 .have hj:i≠j:=by
   rintro rfl;have:=F0 h;cases this
  rw[BV hj]at h;obtain⟨w',q,rw'⟩:=x.good.sh j e h;exact⟨w',by rw[BV hj];exact q,wide rw'⟩
 .rcases own j e h with ⟨hj,rfl⟩|⟨hj,h'⟩
  .have q:=atI h hj;exact⟨a,u,q,.inr ⟨j,_,h,q⟩,h1,r.sub sub⟩
  .obtain⟨b,o,q,ha,hh,rr⟩:=x.good.ow j e h';have q':(Y.set i (Ab (.ref a)))[j]?=Ab (Ab (.ref b)):=by rw[BV hj];exact q
   exact⟨b,o,q',.inr ⟨j,e,h,q'⟩,s _ _ hh,wides rr⟩
 .rcases sub b h with z|z
  .obtain⟨ys,q,w⟩:=x.aok b z;exact⟨ys,s _ _ q,w⟩
  .rw[z];exact⟨u,h1,r.owk⟩
 .rcases own j e g1 with ⟨hj,_⟩|⟨hj,h'⟩
  .rw[atI g1 hj]at g2;cases g2;refine⟨λo z=>?_,λz=>nA (.inl z)⟩
   have:=x.same a o z;rw[h0]at this;cases this
  .rw[BV hj]at g2;exact x.new j e b h' g2
 .rcases own j e g1 with ⟨hj,_⟩|⟨hj,h'⟩
  .rw[atI g1 hj]at g3;cases g3;rcases own k f g2 with ⟨hk,_⟩|⟨hk,h''⟩
   .exact hj.symm.trans hk
   .rw[BV hk]at g4;exact absurd (.inr ⟨k,f,h'',g4⟩) nA
  .rw[BV hj]at g3;rcases own k f g2 with ⟨hk,_⟩|⟨hk,h''⟩
   .rw[atI g2 hk]at g4;cases g4;exact absurd (.inr ⟨j,e,h',g3⟩) nA
   .rw[BV hk]at g4;exact x.dis j k e f b h' h'' g3 g4
theorem Sx.setF(x:Sx K CL Fz B Z Y H)(s:AB H H'){ds:Ac D}(h0:H a=Af)(h1:H' a=Ab (.lst xs))(r:Reps K CL H' (λb=>Bi B Z Y b\/b=a) xs ds):Sx K CL Fz B (Z.set i (Ab (.lst ds,Aa))) (Y.set i (Ab (.ref a))) H':=x.setO s h0 h1 (.lst r)
theorem Sx.updO(x:Sx K CL Fz B Z Y H){u:HO}{d':D}(hi:Z[i]?=Ab (Ab (d,Aa)))(ha:Y[i]?=Ab (Ab (.ref a)))(r:CU K CL H (Bi B Z Y) a u d'):Sx K CL Fz B (Z.set i (Ab (d',Aa))) Y (L2.upd H a u):=by
 have oa:Bi B Z Y a:=.inr ⟨i,d,hi,ha⟩;have hil:i<Z.length:=(AX.mp hi).1;have get:∀(j:Ag)(e:D),(Z.set i (Ab (d',Aa)))[j]?=Ab (Ab (e,Aa))↔(i=j/\e=d')\/(i≠j/\Z[j]?=Ab (Ab (e,Aa))):=λj e=>by
  by_cases hj:i=j
  .subst hj;rw[BW hil];simp;exact⟨λz=>z.symm,λz=>z.symm⟩
  .rw[BV hj];simp[hj]
 have same:∀ b,Bi B (Z.set i (Ab (d',Aa))) Y b↔Bi B Z Y b:=λb=>by
  constructor
  .rintro (h|⟨j,e,h1,h2⟩)
   .exact .inl h
   .rcases (get j e).mp h1 with ⟨rfl,_⟩|⟨_,h1⟩
    .exact .inr ⟨i,d,hi,h2⟩
    .exact .inr ⟨j,e,h1,h2⟩
  .rintro (h|⟨j,e,h1,h2⟩)
   .exact .inl h
   .by_cases hj:i=j
    .subst hj;exact .inr ⟨i,d',(get i _).mpr (.inl ⟨rfl,rfl⟩),h2⟩
    .exact .inr ⟨j,e,(get j e).mpr (.inr ⟨hj,h1⟩),h2⟩
 have kp:Kp (Bi B Z Y) H (L2.upd H a u):=λb o e na=>by
  have hne:b≠a:=by
   rintro rfl;exact na oa
  rw[B8 hne];exact e
 refine⟨⟨λj e h=>?_,λj e h=>?_,by rw[AT];exact x.len⟩,λb h=>?_,λj e b g1 g2=>?_,λj k e f b g1 g2 g3 g4=>?_,λb o z=>?_,by rw[AT];exact x.len⟩
 .have hj:i≠j:=by
   rintro rfl;have:=F0 h;cases this
  rw[BV hj]at h;obtain⟨w',q,rw'⟩:=x.good.sh j e h;exact⟨w',q,Rep.sub (λb hb=>(same b).mp hb) _ (Rep.kp kp _ rw')⟩
 .rcases (get j e).mp h with ⟨rfl,rfl⟩|⟨hj,h'⟩
  .exact⟨a,u,ha,(same a).mpr oa,Gp,(r.kp kp).sub λb hb=>(same b).mp hb⟩
  .obtain⟨b,o,q,hb,hh,rr⟩:=x.good.ow j e h';have hne:b≠a:=λz=>hj (x.dis i j d e a hi h' ha (z ▸ q))
   exact⟨b,o,q,(same b).mpr hb,by rw[B8 hne];exact hh,(rr.kp kp).sub λb hb=>(same b).mp hb⟩
 .obtain⟨ys,q,w⟩:=x.aok b ((same b).mp h);by_cases e:b=a
  .rw[e];exact⟨u,Gp,r.owk⟩
  .exact⟨ys,by rw[B8 e];exact q,w⟩
 .rcases (get j e).mp g1 with ⟨rfl,_⟩|⟨_,h'⟩
  .exact x.new i d b hi g2
  .exact x.new j e b h' g2
 .rcases (get j e).mp g1 with ⟨rfl,_⟩|⟨hj,h'⟩
  .rcases (get k f).mp g2 with ⟨rfl,_⟩|⟨hk,h''⟩
   .rfl
   .exact x.dis i k d f b hi h'' g3 g4
  .rcases (get k f).mp g2 with ⟨rfl,_⟩|⟨hk,h''⟩
   .exact x.dis j i e d b h' hi g3 g4
   .exact x.dis j k e f b h' h'' g3 g4
 .have hne:b≠a:=λe=>(x.new i d a hi ha).1 o (e ▸ z)
  rw[B8 hne];exact x.same b o z
theorem Sx.upd(x:Sx K CL Fz B Z Y H){ds:Ac D}(hi:Z[i]?=Ab (Ab (d,Aa)))(ha:Y[i]?=Ab (Ab (.ref a)))(r:Reps K CL H (Bi B Z Y) xs ds):Sx K CL Fz B (Z.set i (Ab (.lst ds,Aa))) Y (L2.upd H a (.lst xs)):=x.updO hi ha (.lst r)
theorem Sx.rel(x:Sx K CL Fz B Z Y H)(hi:Z[i]?=Ab (Ab (d,Aa))):Sx K CL Fz B (Z.set i (Ab (d,Ad))) Y H:=by
 obtain⟨a,u,q,oa,hh,rr⟩:=x.good.ow i d hi;have own:∀(j:Ag)(e:D),(Z.set i (Ab (d,Ad)))[j]?=Ab (Ab (e,Aa))->i≠j/\Z[j]?=Ab (Ab (e,Aa)):=λj e h=>by
  by_cases hj:i=j
  .subst hj;have:=F0 h;cases this
  .exact⟨hj,by rw[BV hj]at h;exact h⟩
 have sub:∀ b,Bi B (Z.set i (Ab (d,Ad))) Y b->Bi B Z Y b:=λb h=>by
  rcases h with h|⟨j,e,h1,h2⟩
  .exact .inl h
  .exact .inr ⟨j,e,(own j e h1).2,h2⟩
 have na:¬ Bi B (Z.set i (Ab (d,Ad))) Y a:=λh=>by
  rcases h with h|⟨j,e,h1,h2⟩
  .exact(x.new i _ a hi q).2 h
  .obtain⟨hj,h1⟩:=own j e h1;exact hj (x.dis i j _ e a hi h1 q h2)
 refine⟨⟨λj e h=>?_,λj e h=>?_,by rw[AT];exact x.len⟩,λb h=>x.aok b (sub b h),λj e b g1 g2=>x.new j e b (own j e g1).2 g2,λj k e f b g1 g2 g3 g4=>x.dis j k e f b (own j e g1).2 (own k f g2).2 g3 g4,x.same,by rw[AT];exact x.len⟩
 .by_cases hj:i=j
  .subst hj;have e1:=F0 h;cases e1;exact⟨_,q,rr.rep na hh sub⟩
  .rw[BV hj]at h;obtain⟨w',q',rw'⟩:=x.good.sh j e h;exact⟨w',q',Rep.sub sub _ rw'⟩
 .obtain⟨hj,h'⟩:=own j e h;obtain⟨b,o,q',hb,hh',rr'⟩:=x.good.ow j e h';exact⟨b,o,q',.inr ⟨j,e,h,q'⟩,hh',rr'.sub sub⟩
end
section
variable{X:Cx}{CL:ClA}{W:XW}{pos:AJ}{e:Am}{fe:Rho->R D}{fr:Ai}
theorem Bs.exC{f:D->O}(x:Sx X.K CL Fz B Z Y H)(h:Bs X.K CL Fz B W (O.of Z r f) D')(k:∀ d v H',r=.ok d->AB H H'->Eu X.K CL fr H A H' v d->Sx X.K CL Fz B Z Y H'->Bs X.K CL Fz B W (f d) D'->Q v H'):Ba (Eu X.K CL fr H A) W H r Q:=by
 cases r with
 |ok d=>exact λv H' s r=>k d v H' rfl s r (x.grow s) h
 |exn y=>exact λH' s=>h H' λb o z=>s _ _ (x.same b o z)
 |bad=>exact h
def SAs(X:Cx)(CL:ClA)(W:XW)(fr:Ai)(i:Ag)(st:AN)(f:Rho->R D):Prop:=∀ A,PS X st (Mv (λY H Q=>AOk H A/\∃ Z,Good X.K CL A Z Y H/\Ba (Eu X.K CL fr H A) W H (f Z) Q) (EE i))
theorem SC.sas{n:Ak}(hN:X.N.Nodup)(hi:X.N[i]?=Ab n)(hx:Loc X.env.scope n)(he:SC X CL W fr e fe)(hs:Cd e (Ab (.Name n pos')) pos.line X.env=pure Ad)(hf:X.fn n=Aa\/X.env.scope.names.lookup n=Ab .local):SAs X CL W fr i (.Assign [.Name n pos'] e pos) fe:=
 λA=>Jj hN hi hx (he A) hs hf
theorem fZ{n:Ak}{fe:Rho->R D}{g:TG}(hc:X.calm=Aa)(B:BlockOk X scope N' ts)(hi:SI X CL W tg iter fi)(hGG:GG X.K CL ts as g)(hg:∀ cl C s H fp,PG (cxC X scope cl C N' s H fp) tg g)(ht:∀ cl C s H fp,STs (cxC X scope cl C N' s H fp) CL ifs fc)(he:∀ cl C s H fp,SE (cxC X scope cl C N' s H fp) CL W0 elt fe)(hs:∀ x,CQ iter X.env x=pure x)(hN:X.N.Nodup)(hni:X.N[i]?=Ab n)(hx:X.env.scope.names.lookup n=Ab .local)(hsw:Cd (.ListComp elt [⟨tg,iter,ifs,0⟩] scope pos) (Ab (.Name n pos')) pos2.line X.env=pure Aa):SAs X CL W Aa i (.Assign [.Name n pos'] (.ListComp elt [⟨tg,iter,ifs,0⟩] scope pos) pos2) (λZ=>(fi Z).bind λxs=>(noX (BU (λx=>(as x Z).bind fc) (λx=>(as x Z).bind fe) xs)).bind λys=>.ok (.lst ys)):=λA pI s Y H Dn I ⟨hA,Z,gd,p⟩=>
 nI hc B (hi A) hg (λcl C s H fp=>ht cl C s H fp A) (λcl C s H fp=>he cl C s H fp A) hs hN hni hx hsw pI s Y H Dn I ⟨hA,Z,gd,S9 hGG hA gd p⟩
theorem V8{st:AN}(h:SAs X CL W fr i st fe):SS X CL W st (λZ=>O.of Z (fe Z) λd=>.next (Z.set i (Ab (d,Ad)))):=λFz B pI s Y H D I ⟨Z,x,p⟩=>
 h (Bi B Z Y) pI s Y H D I ⟨x.aok,Z,x.good,Bs.exC x p λd v H' _ s r x' q=>q _ H' (x'.set i r.1)⟩
theorem UR{st:AN}(h:SAs X CL W Aa i st fe):SS X CL W st (λZ=>O.of Z (fe Z) λd=>setF Z i d):=λFz B pI s Y H D I ⟨Z,x,p⟩=>
 h (Bi B Z Y) pI s Y H D I ⟨x.aok,Z,x.good,Bs.exC x p λd v H' _ s r x' q=>by
  cases d with
  |lst ds=>
   obtain⟨a,xs,rfl,h0,h1,rs⟩:=r.2 rfl ds rfl;exact q _ H' (x.setF s h0 h1 rs)
  | _=>exact q.elim⟩
theorem jS(he:SC X CL W Aa e fe):SS X CL W (.Return (Ab e) pos) (λZ=>O.of Z (fe Z) λd=>.ret d (Hz d)):=λFz B pI s Y H D I ⟨Z,x,p⟩=>
 Nu (he (Bi B Z Y)) pI s Y H D I ⟨x.aok,Z,x.good,Bs.exC x p λd v H' _ s r x' q=>q v H' x'.same (Rep.sub (λa h=>.inl h) _ r.1) (λ_ ds e=>by
  obtain⟨a,xs,h0,h1,h2,h3⟩:=r.2 rfl ds e;refine⟨a,xs,h0,λo z=>?_,h2,Reps.sub (λb hb=>hb.imp .inl id) _ h3⟩
  have:=x.same a o z;rw[h1]at this;cases this) λz=>.no λds e=>by rw[e]at z;cases z⟩
noncomputable def Lz(Z:Rho)(i:Ag):Ai:=match Z[i]? with
  |some (Ab (_,o))=>o
  |_=>Ad
theorem jP(he:PE X e (Gx i)):SS X CL W (.Return (Ab e) pos) (λZ=>O.of Z (Cu Z i) λd=>.ret d (Lz Z i)):=λFz B pI s Y H D I ⟨Z,x,p⟩=>
 Nu he pI s Y H D I (by
  dsimp only at p;cases e:Cu Z i with
  |bad=>rw[e]at p;exact p.elim
  |exn z=>exact(L7 e).elim
  |ok d=>
   rw[e]at p;obtain⟨o,e⟩:=P8 e;have eo:Lz Z i=o:=by unfold Lz;rw[e]
   rw[O.of_ok,eo]at p;cases o with
   |false=>
    obtain⟨v,q,r⟩:=x.good.sh i d e;exact⟨v,q,p v H x.same (Rep.sub (λa h=>.inl h) _ r) (λz=>nomatch z) λz=>nomatch z⟩
   |true=>
    obtain⟨a,u,q,ha,hh,r⟩:=x.good.ow i d e;obtain⟨n1,n2⟩:=x.new i _ a e q;refine⟨_,q,p _ H x.same (r.rep n2 hh λa h=>.inl h) (λ_ ds' e'=>?_) λ_=>.no λds' e'=>?_⟩
    .cases e';obtain⟨xs,rfl,r'⟩:=r.lst_of;exact⟨a,xs,rfl,n1,hh,Reps.sub (λb hb=>hb.elim .inl λz=>z ▸ ha) _ r'⟩
    .subst e';rcases r with ⟨_,_,_,z,_⟩|⟨_,_,_,z,_⟩<;>cases z)
theorem Nl{ds:Ac D}(h:CC Z i=.ok ds):Z[i]?=Ab (Ab (.lst ds,Aa)):=by
 unfold CC at h;split at h
 .rename_i e;cases h;exact e
 .cases h
theorem MZ(h:CC Z i=.exn x):AU:=by
 unfold CC at h;split at h<;>cases h
variable{o:Am}{i:Ag}{apos cpos:AJ}
theorem rV(ho:PE X o (Gx i))(he:SE X CL W e fe)(hbase:DX o "append" X.env (eval o X.env)=eval o X.env)(hfew:((Bv cpos (Ar [e] X.env)).all (λx=>!x.1)&&(FZ cpos (ED [] X.env)).all (λx=>x.1.isSome)&&decide ([e].length+([]:Ac CK).length+(if ([]:Ac CK).isEmpty then 0 else 1)<30))=Aa)(hline:(apos.endLine==cpos.line)=Aa)(hs:Ar [e] X.env=[(Ad,eval e X.env)])(hsw:Cd (.Call (.Attribute o "append" apos) [e] [] cpos) Af pos.line X.env=pure Ad):
  SS X CL W (.Expr (.Call (.Attribute o "append" apos) [e] [] cpos) pos) (λZ=>O.of Z (CC Z i) λxs=>O.of Z (fe Z) λd=>if BY (xs.length+1)=Aa then .next (Z.set i (Ab (.lst (xs++[d]),Aa))) else .bad):=λFz B pI s Y H D I ⟨Z,x,p⟩=>by
 refine Jg (NB En YU YX Tu ho (DL (he (Bi B Z Y)) Fh hs) hbase hfew hline hs rfl) hsw pI s Y H D I ?_;dsimp only at p;cases e1:CC Z i with
 |bad=>rw[e1]at p;exact p.elim
 |exn z=>exact(MZ e1).elim
 |ok ds=>
  rw[e1,O.of_ok]at p;have hi:=Nl e1;obtain⟨a,xs,ds',q,e2,ha,hh,r⟩:=x.good.owL hi;cases e2;refine⟨_,q,.inl ⟨rfl,xs,SqL.of hh⟩,x.aok,Z,x.good,Bs.ex x p λd v H' _ s rv x' q'=>?_⟩
  split at q'
  .rename_i hz;refine⟨a,xs,v,rfl,rfl,s _ _ hh,?_,q' _ _ (x'.upd hi q ((r.same s).append ⟨rv,trivial⟩))⟩;have:=GK hz;rw[r.length];omega
  .exact q'.elim
theorem rS(ho:PE X o (Gx i))(he:SC X CL W Aa e fe)(hbase:DX o "extend" X.env (eval o X.env)=eval o X.env)(hfew:((Bv cpos (Ar [e] X.env)).all (λx=>!x.1)&&(FZ cpos (ED [] X.env)).all (λx=>x.1.isSome)&&decide ([e].length+([]:Ac CK).length+(if ([]:Ac CK).isEmpty then 0 else 1)<30))=Aa)(hline:(apos.endLine==cpos.line)=Aa)(hs:Ar [e] X.env=[(Ad,eval e X.env)])(hsw:Cd (.Call (.Attribute o "extend" apos) [e] [] cpos) Af pos.line X.env=pure Ad):
  SS X CL W (.Expr (.Call (.Attribute o "extend" apos) [e] [] cpos) pos) (λZ=>O.of Z (CC Z i) λxs=>O.of Z (fe Z) λd=>O.of Z (Lp d) λys=>if BY (xs.length+ys.length)=Aa then .next (Z.set i (Ab (.lst (xs++ys),Aa))) else .bad):=λFz B pI s Y H D I ⟨Z,x,p⟩=>by
 refine Jg (NB En EM YY eX ho (DL (he (Bi B Z Y)) Fh hs) hbase hfew hline hs rfl) hsw pI s Y H D I ?_;dsimp only at p;cases e1:CC Z i with
 |bad=>rw[e1]at p;exact p.elim
 |exn z=>exact(MZ e1).elim
 |ok ds=>
  rw[e1,O.of_ok]at p;have hi:=Nl e1;obtain⟨a,xs,ds',q,e2,ha,hh,r⟩:=x.good.owL hi;cases e2;refine⟨_,q,.inl ⟨rfl,xs,SqL.of hh⟩,x.aok,Z,x.good,Bs.exC x p λd v H' _ s rv x' q'=>?_⟩
  cases d with
  |lst es=>
   obtain⟨b,ys,rfl,h0,h1,rs⟩:=rv.2 rfl es rfl;rw[Tj,O.of_ok]at q';split at q'
   .rename_i hz;refine⟨a,b,xs,ys,rfl,rfl,s _ _ hh,h1,?_,q' _ _ (x'.upd hi q ((r.same s).append (Reps.sub (λc hc=>.inl hc) _ rs)))⟩
    rw[r.length,rs.length];exact GK hz
   .exact q'.elim
  |_=>exact q'.elim
theorem rR{k:Am}{fk:Rho->R Ov.D}(ho:PE X o (Gx i))(hk:ST X CL W k fk)(he:SE X CL W e fe)(ha:∀ v,assign (.Subscript o k spos) X.env v=(do
      let ov <-holding [v] (eval o X.env)
      let iv <-holding [v,ov] (eval k X.env)
      Il spos
      holding [v,ov,iv] (Jz ov iv v)
      release [v,ov,iv] []))(hs:G6 [.Subscript o k spos] e pos.line X.env=pure Ad)(hw:FW [.Subscript o k spos] e X.env=pure Af)(h1:(B9 [.Subscript o k spos] X.env).map (·.2)=[assign (.Subscript o k spos) X.env]):
    SS X CL W (.Assign [.Subscript o k spos] e pos) (λZ=>O.of Z (fe Z) λd=>O.of Z (CC Z i) λxs=>O.of Z ((fk Z).bind E2) λj=>match plD xs.length j with
      |some n=>.next (Z.set i (Ab (.lst (xs.set n d),Aa)))
      | none=>.bad):=λFz B pI s Y H D I ⟨Z,x,p⟩=>
  Qq (he (Bi B Z Y)) (Wh ho (hk (Bi B Z Y)) fU ha) hs hw h1 pI s Y H D I ⟨x.aok,Z,x.good,Bs.ex x p λd v H' _ s rv x' q'=>by
    cases e1:CC Z i with
    |bad=>rw[e1]at q';exact q'.elim
    |exn z=>exact(MZ e1).elim
    |ok ds=>
      rw[e1,O.of_ok]at q';have hi:=Nl e1;obtain⟨a,xs,ds',q,e2,ha,hh,r⟩:=x'.good.owL hi;cases e2;refine⟨_,q,x'.aok,Z,x'.good,?_⟩;cases e3:fk Z with
      |bad=>rw[e3]at q';exact q'.elim
      |exn z=>rw[e3]at q';exact λH2 s2=>q' H2 λb o z=>s2 _ _ (x'.same b o z)
      |ok dk=>
        rw[e3]at q';intro y H2 s2 ry;cases dk with
        |int j=>
          have ey:=ry.int_of;subst ey;rw[R.bind_ok,Pa,O.of_ok]at q';cases e4:plD ds.length j with
          |none=>rw[e4]at q';exact q'.elim
          |some n=>
            rw[e4]at q';refine⟨a,xs,j,n,rfl,rfl,s2 _ _ hh,?_,q' _ _ ((x'.grow s2).upd hi q (Reps.set (rv.same s2) n (r.same s2)))⟩;rw[r.length];exact e4
        | _=>exact q'.elim⟩
theorem jO{rest:Ac AN}{f:Rho->O}(i:Ag)(h:SSs X CL W rest f):SSs X CL W rest (λZ=>(match Z[i]? with
   |some (Ab (d,Aa))=>O.next (Z.set i (Ab (d,Ad)))
   | _=>O.next Z).seq f):=λFz B=>PSs.weak (h Fz B) λD Y H ⟨Z,x,p⟩=>by
 dsimp only at p;split at p
 .rename_i d e;exact⟨_,x.rel e,p⟩
 .exact⟨Z,x,p⟩
end
section
variable{X:Cx}{pI:Pn}{Y:L2.St}{H:Hp}{s:Aq}{a ka:Ah}{k:Ac Ae}{CL:ClA}{A:Ah->Prop}{es:Ac (Ac Ae×Ah×V)}{kvs:Ac (Ac Ae×D)}
noncomputable def sdD(kvs:Ac (Ac Ae×D))(k:Ac Ae)(d:D):Ac (Ac Ae×D):=if (kvs.any λp=>p.1==k)=Aa then kvs else F2 kvs k d
theorem dD{B:AZ}{E:Vq}{v:Aj}{Q:Vq}(hu:(TK X.prog X.w).room B)(hkey:(TK X.prog X.w).is s.heap k ka)(hm:s.heap.DictOfH (TK X.prog X.w) a ys)(hsz:ys.length<=sizeLine)(q1:∀ p,GZ ys k=Ab p->Q p.2 {s with toks:=s.toks+(TK X.prog X.w).draws k})(q2:GZ ys k=Af->∀ h',h'.DictOfH (TK X.prog X.w) a (ys++[(k,ka,v)])->DG a s.heap h'->Q v {s with heap:=h',toks:=s.toks+(TK X.prog X.w).draws k}):Az (model X.prog X.w) B (Ie a (.ref ka) v) Q E s:=by
  obtain⟨o,es,ep,ho,hc,hd,he,his,hn⟩:=hm;unfold Ie
  try with_reducible refine CH ?_
  refine An ((TK X.prog X.w).pyHash hu hkey ?_);refine An (wpAny_dictFind_heap (knd:=TK X.prog X.w) (s:={s with toks:=s.toks+(TK X.prog X.w).draws k}) hu hkey ho hd he his hn ?_ ?_)
  · intro hno;have hnot:k∉ys.map (·.1):=not_mem_keys_of_get hno;refine An (FC (An (wpAny_updateDictKeys (hz:=by have e:=size_of_entries he;omega) (s:={s with toks:=s.toks+(TK X.prog X.w).draws k}) ho hd (AC (q2 (atKey_none_of_get hno) _ ⟨_,_,ep+1,Dd _ ho (Obj.isFreed_of_dict (Y_2 hd _)),
      hc.mapDictKeys _,Y_2 hd _,?_,?_,?_⟩ (Em ..))))))
    · simp[he,Iq]
    · intro x hx;rcases Dj.mp hx with hx|hx
      · exact(TK X.prog X.w).keeps (his x hx) ho hd (Em ..)
      · simp only[A2]at hx;subst hx;exact(TK X.prog X.w).keeps hkey ho hd (Em ..)
    · rw[Di,XD];refine⟨hn,by simp,?_⟩
      intro x hx y hy;simp only[A8,IR,A2]at hy;subst hy;exact λe=>hnot (e ▸ hx)
  · intro j p hj;refine An (ZG (s:={s with toks:=s.toks+(TK X.prog X.w).draws k}) ho hd ?_)
    have ej:es[j]?=Ab (Iq (TK X.prog X.w) (k,p)):=by
      rw[<-Array.getElem?_toList,he,Dr,hj];rfl
    rw[ej];exact An (FC (AC (q1 p (atKey_of_get hn hj))))
theorem bV(hd:(a==D6)=Ad)(v:Aj):MeetsIn X.prog X.w (Builtin.«dict.setdefault» ⟨[.ref a,.ref ka,v],[]⟩) (λB R s=>(TK X.prog X.w).room B.in1/\∃ k ys,(TK X.prog X.w).is s.heap k ka/\s.heap.DictOfH (TK X.prog X.w) a ys/\ys.length<=sizeLine/\(∀ p,GZ ys k=Ab p->R (.ok (.ret p.2)) {s with toks:=s.toks+(TK X.prog X.w).draws k})/\(GZ ys k=Af->∀ h',h'.DictOfH (TK X.prog X.w) a (ys++[(k,ka,v)])->DG a s.heap h'->R (.ok (.ret v)) {s with heap:=h',toks:=s.toks+(TK X.prog X.w).draws k})):=
 .of_wp λB R s ⟨hu,k,ys,hkey,hm,hz,h1,h2⟩=>by
  unfold Builtin.«dict.setdefault»;refine An ?_;unfold Builtin.Dict.keyAndDefault;refine An (wpAny_notOrdered_dict hm.typeIs ?_);show Az _ _ (pure (a,Du ka,Ab v)) _ _ s;refine AC ?_;show Az _ _ (if (a==D6)=Aa then _ else (Ie a (.ref ka) v >>= _)) _ _ s
  rw[Ay (by rw[hd];exact Av)]
  exact An (dD hu hkey hm hz (λp hp=>AC ⟨p.2,rfl,h1 p hp⟩) λhn h' hm' hs'=>AC ⟨v,rfl,h2 hn h' hm' hs'⟩)
theorem vF{x:V}{v:Aj}{E:Vq}(hu:X.A.units+1<Bx)(I:Inv X pI Y H s)(hH:H a=Ab (.ext (Dh a es)))(r:Repk X.K CL H A es kvs)(hk:DD X.K H A ka k)(rx:Bu x v)(rd:Rep X.K CL H A x d)(hz:kvs.length<=sizeLine)(q:∀ x' es',Repk X.K CL H A es' (sdD kvs k d)->Q x' (upd H a (.ext (Dh a es')))):Az (model X.prog X.w) X.A (call (.builtin "dict.setdefault") [.ref a,.ref ka,v]) (EP X pI Y Q) E s:=by
 obtain⟨ys,ve,hs,m⟩:=dic_of I hH r;have zz:ys.length<=sizeLine:=by rw[<-ve.length,r.length];exact hz
 refine IU F.slot_dict_setdefault m.typeIs F.entry_dict_setdefault (F.args_dict_setdefault_3 _ _ _) (bV hs v) ⟨DJ hu,k,ys,J7 I hk,m,zz,λp hp=>?_,λhp h' m' sb=>?_⟩
 .rcases J3 ve k r with ⟨z1,_⟩|⟨p',x',d',z1,z2,z3,z4,z5⟩
  .rw[hp]at z1;cases z1
  .rw[hp]at z1;cases z1;have e1:sdD kvs k d=kvs:=Ax z3;have I2:Inv X pI Y (upd H a (.ext (Dh a es))) {s with toks:=s.toks+(TK X.prog X.w).draws k}:=by
    have e:upd H a (.ext (Dh a es))=H:=by
     funext b
     unfold upd;split
     .rename_i e;rw[e,hH]
     .rfl
    rw[e];exact I.kept λb o e=>e
   exact⟨x',_,I2,z4,q x' es (by rw[e1];exact r)⟩
 .rcases J3 ve k r with ⟨z1,z2,z3⟩|⟨p',_,_,z1,_⟩
  .obtain⟨es',ve',r'⟩:=UK ve hk rx rd r;have e1:sdD kvs k d=kvs++[(k,d)]:=by
    unfold sdD F2;rw[Ay (by rw[z3];exact Av),Ay (by rw[z3];exact Av)]
   obtain⟨o,_,_,h1,_⟩:=id m';exact⟨x,upd H a (.ext (Dh a es')),I.write (x:=a) (e:=a) (by rw[hH];exact trivial) (.inl rfl) (λb u hb hu=>(sb.2 b hb).trans hu) ⟨o,h1⟩ ⟨⟨_,ve',(Gz.to hs m').any⟩,⟨o,h1⟩,λh1 h2 d k=>d.keep k⟩,rx,q x es' (by rw[e1];exact r')⟩
  .rw[hp]at z1;cases z1
theorem dic_get{x:V}{v:Aj}{E:Vq}(hu:X.A.units+1<Bx)(I:Inv X pI Y H s)(hH:H a=Ab (.ext (Dh a es)))(r:Repk X.K CL H A es kvs)(hk:DD X.K H A ka k)(rx:Bu x v)(rd:Rep X.K CL H A x d)(q:∀ x',Rep X.K CL H A x' ((CB kvs k).getD d)->Q x' H):Az (model X.prog X.w) X.A (call (.builtin "dict.get") [.ref a,.ref ka,v]) (EP X pI Y Q) E s:=by
 obtain⟨ys,ve,hs,m⟩:=dic_of I hH r;refine IU F.slot_dict_get m.typeIs F.entry_dict_get (F.args_dict_get_3 _ _ _) (meetsH_dict_get_default (TK X.prog X.w) a ka hs v) ⟨DJ hu,k,ys,J7 I hk,m,?_⟩;rcases J3 ve k r with ⟨z1,z2,_⟩|⟨p',x',d',z1,z2,z3,z4,z5⟩
 .rw[z1];rw[z2]at q;exact⟨x,H,I.kept λb o e=>e,rx,q x rd⟩
 .rw[z1];rw[z2]at q;exact⟨x',H,I.kept λb o e=>e,z4,q x' z5⟩
end
section
variable{X:Cx}{o e:Am}{es:Ac Am}{t:TA}{name:Ak}{apos cpos:AJ}{id:CO}{r:V->Ac V->Hp->VK->Prop}{to:TE}
theorem Wk(slot:Slot "dict" name id)(hty:typeOf (.builtin id)=pure (.type "method_descriptor"))(hm:MtR X id r)(ho:PE X o to)(ha:PA X (e::es) t)(hbase:DX o name X.env (eval o X.env)=eval o X.env)(hfew:((Bv cpos (Ar (e::es) X.env)).all (λx=>!x.1)&&(FZ cpos (ED [] X.env)).all (λx=>x.1.isSome)
   && decide ((e::es).length+([]:Ac CK).length+(if ([]:Ac CK).isEmpty then 0 else 1)<30))=Aa)(hline:(apos.endLine==cpos.line)=Aa)(hs:Ar (e::es) X.env=(Ad,eval e X.env)::Ar es X.env)(hplain:(Bv cpos (Ar es X.env)).any (·.1)=Ad):PE X (.Call (.Attribute o name apos) (e::es) [] cpos) (λY H Q=>to Y H λx H1=>(∃ a es,x=.ref a/\H1 a=Ab (.ext (Dh a es)))/\t Y H1 λxs H2=>r x xs H2 Q):=by
 intro pI s Y H Q I h;refine ZD hbase hfew hline rfl (thn (ho pI s Y H _ I h) λv s1 ⟨x,H1,I1,r1,⟨a,xs,e0,hH⟩,q1⟩=>?_)
 subst e0;obtain⟨ys,_,d⟩:=(I1.hok a _ hH).1;obtain⟨_,ob,_,_,h1,h2,h3,_⟩:=d X.prog X.w;cases r1;have ty:s1.TypeIs (.ref a) "dict" := ⟨ob,h1,h2.1⟩;refine⟨"dict",id,F.plainAttrs_dict,slot,hty,ty,λb e=>by cases e;exact⟨ob,h1,h2.2.1⟩,?_⟩
 have hA:=ha cpos pI s1 Y H1 _ I1 q1;rw[hs]at hA ⊢;refine Yg (by show (Ad||(Bv cpos (Ar es X.env)).any (·.1))=Ad;rw[hplain]<;>rfl) (Ge ?_)
 exact thn hA λus s2 ⟨vs,H2,I2,r2,q2⟩=>hm pI s2 Y H2 (.ref a) vs _ us Q I2 rfl r2 q2
end
section
variable{X:Cx}{CL:ClA}{W:XW}{pos:AJ}{e k o:Am}{fe fk:Rho->R D}{i:Ag}{apos cpos:AJ}
noncomputable def yV(K:Fg)(CL:ClA)(A:Ah->Prop):Oi:=λo i v H Q=>∃ a ka es kvs k d,o=.ref a/\i=.ref ka/\H a=Ab (.ext (Dh a es))/\Repk K CL H A es kvs/\DD K H A ka k/\Rep K CL H A v d/\kvs.length<=sizeLine/\∀ es',Repk K CL H A es' (F2 kvs k d)->Q (upd H a (.ext (Dh a es')))
theorem kF(hu:X.A.units+1<Bx):Oy X (yV X.K CL A):=by
 intro pI s Y H o i v ov iv u Q I ro ri rv h;obtain⟨a,ka,es,kvs,k,d,rfl,rfl,hH,r,hk,rd,hz,q⟩:=h;cases ro;cases ri;exact oQ hu I hH r hk rv rd hz λs' es' r' I'=>⟨_,I',q es' r'⟩
theorem Vj{ds:Ac (Ac Ae×D)}(h:GR Z i=.ok ds):Z[i]?=Ab (Ab (.dic ds,Aa)):=by
 unfold GR at h;split at h
 .rename_i e;cases h;exact e
 .cases h
theorem TF(h:GR Z i=.exn x):AU:=by
 unfold GR at h;split at h<;>cases h
theorem PX{j:Ac Ae}(h:E1 d=.ok j):Ea d=Ab j:=by
 unfold E1 at h;split at h
 .rename_i e;cases h;exact e
 .cases h
theorem O9(h:E1 d=.exn x):AU:=by
 unfold E1 at h;split at h<;>cases h
theorem rU{n:Ak}{dpos:AJ}(hN:X.N.Nodup)(hi:X.N[i]?=Ab n)(hx:Loc X.env.scope n)(hs:Cd (.Dict [] [] dpos) (Ab (.Name n pos')) pos.line X.env=pure Ad)(hf:X.fn n=Aa\/X.env.scope.names.lookup n=Ab .local):SS X CL W (.Assign [.Name n pos'] (.Dict [] [] dpos) pos) (λZ=>.next (Z.set i (Ab (.dic [],Aa)))):=λFz B pI s Y H D I ⟨Z,x,p⟩=>
 Jj hN hi hx oS hs hf pI s Y H D I λa ha=>p _ _ (x.setO (Fu ha _) ha Gp (.dic trivial))
theorem jV(hu:X.A.units+1<Bx)(ho:PE X o (Gx i))(hk:ST X CL W k fk)(he:SE X CL W e fe)(ha:∀ v,assign (.Subscript o k spos) X.env v=(do
   let ov <-holding [v] (eval o X.env)
   let iv <-holding [v,ov] (eval k X.env)
   Il spos
   holding [v,ov,iv] (Jz ov iv v)
   release [v,ov,iv] []))(hs:G6 [.Subscript o k spos] e pos.line X.env=pure Ad)(hw:FW [.Subscript o k spos] e X.env=pure Af)(h1:(B9 [.Subscript o k spos] X.env).map (·.2)=[assign (.Subscript o k spos) X.env]):SS X CL W (.Assign [.Subscript o k spos] e pos) (λZ=>O.of Z (fe Z) λd=>O.of Z (GR Z i) λxs=>O.of Z ((fk Z).bind E1) λj=>if BY (xs.length+1)=Aa then .next (Z.set i (Ab (.dic (F2 xs j d),Aa))) else .bad):=λFz B pI s Y H D I ⟨Z,x,p⟩=>
 Qq (he (Bi B Z Y)) (Wh ho (hk (Bi B Z Y)) (kF (A:=Bi B Z Y) hu) ha) hs hw h1 pI s Y H D I ⟨x.aok,Z,x.good,Bs.ex x p λd v H' _ s rv x' q'=>by
  cases e1:GR Z i with
  |bad=>rw[e1]at q';exact q'.elim
  |exn z=>exact(TF e1).elim
  |ok ds=>
   rw[e1,O.of_ok]at q';have hi:=Vj e1;obtain⟨a,xs,q,ha,hh,r⟩:=x'.good.owK hi;refine⟨_,q,x'.aok,Z,x'.good,?_⟩;cases e3:fk Z with
   |bad=>rw[e3]at q';exact q'.elim
   |exn z=>rw[e3]at q';exact λH2 s2=>q' H2 λb o z=>s2 _ _ (x'.same b o z)
   |ok dk=>
    rw[e3,R.bind_ok]at q';intro y H2 s2 ry;cases e4:E1 dk with
    |bad=>rw[e4]at q';exact q'.elim
    |exn z=>exact(O9 e4).elim
    |ok j=>
     rw[e4,O.of_ok]at q';split at q'
     .rename_i hz;have hz:=GK hz;obtain⟨ka,rfl,kr⟩:=KR ry (PX e4);exact⟨a,ka,xs,ds,j,d,rfl,rfl,s2 _ _ hh,Repk.kp (Kp.of s2) _ r,kr,rv.same s2,by omega,λes' r'=>q' _ _ ((x'.grow s2).updO hi q (.dic r'))⟩
     .exact q'.elim⟩
theorem bq(hu:X.A.units+1<Bx):MtR X "dict.setdefault" (λx xs H Q=>∃ a ka es kvs k v d,x=.ref a/\xs=[.ref ka,v]/\H a=Ab (.ext (Dh a es))/\Repk X.K CL H A es kvs/\DD X.K H A ka k/\Rep X.K CL H A v d/\kvs.length<=sizeLine/\∀ x' es',Repk X.K CL H A es' (sdD kvs k d)->Q x' (upd H a (.ext (Dh a es')))):=by
 intro pI s Y H x xs v us Q I rx rs h;obtain⟨a,ka,es,kvs,k,v',d,rfl,rfl,hH,r,hk,rd,hz,q⟩:=h;cases rx;cases rs with
 |cons r1 r2=>
  cases r1;cases r2 with
  |cons r3 r4=>
   cases r4;exact vF hu I hH r hk r3 rd hz q
theorem sR(hu:X.A.units+1<Bx):MtR X "dict.get" (λx xs H Q=>∃ a ka es kvs k v d,x=.ref a/\xs=[.ref ka,v]/\H a=Ab (.ext (Dh a es))/\Repk X.K CL H A es kvs/\DD X.K H A ka k/\Rep X.K CL H A v d/\∀ x',Rep X.K CL H A x' ((CB kvs k).getD d)->Q x' H):=by
 intro pI s Y H x xs v us Q I rx rs h;obtain⟨a,ka,es,kvs,k,v',d,rfl,rfl,hH,r,hk,rd,q⟩:=h;cases rx;cases rs with
 |cons r1 r2=>
  cases r1;cases r2 with
  |cons r3 r4=>
   cases r4;exact dic_get hu I hH r hk r3 rd q
theorem rT(hu:X.A.units+1<Bx)(ho:PE X o (Gx i))(hk:ST X CL W k fk)(he:SE X CL W e fe)(hbase:DX o "setdefault" X.env (eval o X.env)=eval o X.env)(hfew:((Bv cpos (Ar [k,e] X.env)).all (λx=>!x.1)&&(FZ cpos (ED [] X.env)).all (λx=>x.1.isSome)&&decide ([k,e].length+([]:Ac CK).length+(if ([]:Ac CK).isEmpty then 0 else 1)<30))=Aa)(hline:(apos.endLine==cpos.line)=Aa)(hs:Ar [k,e] X.env=(Ad,eval k X.env)::Ar [e] X.env)(hs2:Ar [e] X.env=[(Ad,eval e X.env)])(hpl:(Bv cpos (Ar [e] X.env)).any (·.1)=Ad)(hsw:Cd (.Call (.Attribute o "setdefault" apos) [k,e] [] cpos) Af pos.line X.env=pure Ad):
  SS X CL W (.Expr (.Call (.Attribute o "setdefault" apos) [k,e] [] cpos) pos) (λZ=>O.of Z (GR Z i) λxs=>O.of Z ((fk Z).bind E1) λj=>O.of Z (fe Z) λd=>if BY (xs.length+1)=Aa then .next (Z.set i (Ab (.dic (if (xs.any λp=>p.1==j)=Aa then xs else F2 xs j d),Aa))) else .bad):=λFz B pI s Y H D I ⟨Z,x,p⟩=>by
 refine Jg (Wk PySem.F.slot_dict_setdefault PySem.F.type_dict_setdefault (bq (A:=Bi B Z Y) (CL:=CL) hu) ho (DL (hk (Bi B Z Y)) (DL (he (Bi B Z Y)) Fh hs2) hs) hbase hfew hline hs hpl) hsw pI s Y H D I ?_;dsimp only at p;cases e1:GR Z i with
 |bad=>rw[e1]at p;exact p.elim
 |exn z=>exact(TF e1).elim
 |ok ds=>
  rw[e1,O.of_ok]at p;have hi:=Vj e1;obtain⟨a,xs,q,ha,hh,r⟩:=x.good.owK hi;refine⟨_,q,⟨a,xs,rfl,hh⟩,x.aok,Z,x.good,?_⟩;cases e3:fk Z with
  |bad=>rw[e3]at p;exact p.elim
  |exn z=>rw[e3]at p;exact λH2 s2=>p H2 λb o z=>s2 _ _ (x.same b o z)
  |ok dk=>
   rw[e3,R.bind_ok]at p;intro y H1 s1 ry;cases e4:E1 dk with
   |bad=>rw[e4]at p;exact p.elim
   |exn z=>exact(O9 e4).elim
   |ok j=>
    rw[e4,O.of_ok]at p;have x1:=x.grow s1;refine⟨x1.aok,Z,x1.good,Bs.ex x1 p λd v H' _ s2 rv x' q'=>?_⟩
    split at q'
    .rename_i hz;have hz:=GK hz;obtain⟨ka,rfl,kr⟩:=KR ry (PX e4);exact⟨a,ka,xs,ds,j,v,d,rfl,rfl,s2 _ _ (s1 _ _ hh),Repk.kp (Kp.of (s1.trans s2)) _ r,kr.kp (Kp.of s2),rv,by omega,λx2 es' r'=>q' _ _ (x'.updO hi q (.dic r'))⟩
    .exact q'.elim
theorem jA(hu:X.A.units+1<Bx)(ho:PE X o (Gx i))(hk:ST X CL W k fk)(he:SE X CL W e fe)(hbase:DX o "get" X.env (eval o X.env)=eval o X.env)(hfew:((Bv cpos (Ar [k,e] X.env)).all (λx=>!x.1)&&(FZ cpos (ED [] X.env)).all (λx=>x.1.isSome)&&decide ([k,e].length+([]:Ac CK).length+(if ([]:Ac CK).isEmpty then 0 else 1)<30))=Aa)(hline:(apos.endLine==cpos.line)=Aa)(hs:Ar [k,e] X.env=(Ad,eval k X.env)::Ar [e] X.env)(hs2:Ar [e] X.env=[(Ad,eval e X.env)])(hpl:(Bv cpos (Ar [e] X.env)).any (·.1)=Ad):
  SE X CL W (.Call (.Attribute o "get" apos) [k,e] [] cpos) (λZ=>(Cu Z i).bind λd=>(Ri d).bind λkvs=>(fk Z).bind λa=>(E1 a).bind λj=>(fe Z).bind λy=>.ok ((CB kvs j).getD y)):=λA pI s Y H Q I ⟨hA,Z,gd,p⟩=>by
 refine Wk PySem.F.slot_dict_get PySem.F.type_dict_get (sR (A:=A) (CL:=CL) hu) (Ji (CL:=CL) (W:=W) ho A) (DL (hk A) (DL (he A) Fh hs2) hs) hbase hfew hline hs hpl pI s Y H Q I ⟨hA,Z,gd,Ba.bind p λd v H1 _ s1 r1 p1=>?_⟩
 cases d with
 |dic kvs=>
  have p1:Ba (λH=>Rep X.K CL H A) W H1 ((fk Z).bind λa=>(E1 a).bind λj=>(fe Z).bind λy=>.ok ((CB kvs j).getD y)) Q:=p1
  obtain⟨a,es,rfl,hH,rk⟩:=r1.dic_of;refine⟨⟨a,es,rfl,hH⟩,hA.same s1,Z,gd.same s1,Ba.bind p1 λdk y H2 _ s2 r2 p2=>?_⟩
  cases e4:E1 dk with
  |bad=>rw[e4]at p2;exact p2.elim
  |exn z=>exact(O9 e4).elim
  |ok j=>
   rw[e4,R.bind_ok]at p2;obtain⟨ka,rfl,kr⟩:=KR r2 (PX e4);refine⟨(hA.same s1).same s2,Z,(gd.same s1).same s2,Ba.bind p2 λd v H3 _ s3 r3 p3=>?_⟩
   exact⟨a,ka,es,kvs,j,v,d,rfl,rfl,s3 _ _ (s2 _ _ hH),Repk.kp (Kp.of (s2.trans s3)) _ rk,kr.kp (Kp.of s3),r3,λx' r'=>p3 x' H3 (AB.refl H3) r'⟩
 |_=>exact p1.elim
end
section
variable{X:Cx}{CL:ClA}{W:XW}{pos:AJ}{e k o:Am}{fe fk:Rho->R D}{i:Ag}{apos cpos:AJ}
theorem A6.take{its:Ac Aj}(r:A6 xs its):∀ n,A6 (xs.take n) (its.take n):=by
 induction r with
 |nil=>intro n;simp;exact .nil
 |cons h _ ih=>
  intro n;cases n with
  |zero=>exact .nil
  |succ n=>exact .cons h (ih n)
theorem A6.drop{its:Ac Aj}(r:A6 xs its):∀ n,A6 (xs.drop n) (its.drop n):=by
 induction r with
 |nil=>intro n;simp;exact .nil
 |cons h t ih=>
  intro n;cases n with
  |zero=>exact .cons h t
  |succ n=>exact ih n
end
section
variable{prog:AO}{w:AW}{A:AZ}{E:Vq}{s:Aq}
theorem tS{j t:Ah}{k:Ag}{x:Aj}{Q:Vq}(st:s.heap.IsTupleIter j t k)(sq:s.heap.IsTuple t its)(at_:its[k]?=Ab x)(go:∀ h2,h2.IsTupleIter j t (k+1)->DG j s.heap h2->Q x {s with heap:=h2}):Az (model prog w) A (BK (.ref j)) Q E s:=by
 obtain⟨oj,gj,cj,dj⟩:=id st;obtain⟨ot,gt,_,nt,dt⟩:=sq;show Az _ _ (IT _ _ >>= _) _ _ _;refine An (CN st.typeIs DV (EU DV st.typeIs YR ?_ (YM _)));show Az _ _ (field (.ref j) 0 >>= _) _ _ _;refine An (BP gj dj (x:=.ref t) rfl ?_);show Az _ _ (field (.ref j) 1 >>= _) _ _ _;refine An (BP gj dj (x:=.int k 0) rfl ?_);refine An (DB gt dt ?_);simp only[Dq,at_];exact An (FD gj dj (by simp) (AC ⟨x,rfl,AC (go _ ⟨_,Dd _ gj (EO (De dj _)),(Y_1 ..).trans cj,by rw[De dj];simp[Ei]⟩ (Em ..))⟩))
theorem eV{j t:Ah}{k:Ag}{Q:Vq}(calm:A.handled=Af)(st:s.heap.IsTupleIter j t k)(sq:s.heap.IsTuple t its)(at_:its[k]?=Af)(up:∀ h2 e,HL j s.heap h2->(∃ o,h2.get? e=Ab o/\o.cls=.type "StopIteration")->E (.ref e) {s with heap:=h2}):Az (model prog w) A (BK (.ref j)) Q E s:=by
 obtain⟨oj,gj,cj,dj⟩:=id st;obtain⟨ot,gt,_,nt,dt⟩:=sq;show Az _ _ (IT _ _ >>= _) _ _ _;refine An (CN st.typeIs DV (EU DV st.typeIs YR ?_ (YM _)));show Az _ _ (field (.ref j) 0 >>= _) _ _ _;refine An (BP gj dj (x:=.ref t) rfl ?_);show Az _ _ (field (.ref j) 1 >>= _) _ _ _;refine An (BP gj dj (x:=.int k 0) rfl ?_);refine An (DB gt dt ?_);simp only[Dq,at_];refine An (FC (An (FD gj dj (by simp) ?_)))
 refine An ?_;simp only[newExc,newTuple];refine An (CS ?_ (by size_fits))
 refine An (m:=Zy _ _) (wpAny_of_eq (a:=.none) (by first|rfl|(simp only[Zy];rfl)) (CS ?_ (by size_fits)))
 simp only[raiseNew];refine An (wpAny_handled ?_)
 first|rw[show A.in1.handled=Af from calm]|rw[calm]
 exact An (AC (wpAny_throw (up _ _ (((Em ..).extBut.push _).push _) ⟨_,AI _ rfl,rfl⟩)))
end
structure Dw (prog:AO) (w:AW) (A:AZ) (j:Ah) (fp:Ac Ah) (n:Ag) (P:Ag->Aj->Prop) (S:Ag->AF->Prop):Prop where
 frame:∀ i h h2,S i h->(∀ c∈fp,∀ o,h.get? c=Ab o->h2.get? c=Ab o)->S i h2
 item:∀ i (s:Aq) (Q:Vq) (E:Vq),i<n->S i s.heap->(∀ x h2 tk,P i x->S (i+1) h2->DG j s.heap h2->Q x {s with heap:=h2,toks:=tk})->Az (model prog w) A (BK (.ref j)) Q E s
 done:∀ i (s:Aq) (Q:Vq) (E:Vq),n<=i->S i s.heap->(∀ h2 e,HL j s.heap h2->(∃ o,h2.get? e=Ab o/\o.cls=.type "StopIteration")->E (.ref e) {s with heap:=h2})->Az (model prog w) A (BK (.ref j)) Q E s
def EI(t:Ai)(h:AF)(j l:Ah)(i:Ag):Prop:=match t with
  |true=>h.IsTupleIter j l i
  |false=>h.IsListIter j l i
def Ev(t:Ai)(h:AF)(l:Ah)(its:A7 Aj):Prop:=match t with
  |true=>h.IsTuple l its
  |false=>h.IsList l its
theorem Lo{A:AZ}(calm:A.handled=Af)(t:Ai)(j l:Ah)(ne:l≠j)(its:A7 Aj):Dw prog w A j [j,l] its.size (λi v=>its[i]?=Ab v) (λi h=>EI t h j l i/\Ev t h l its):=by
 cases t with
 |true=>exact⟨λ_ _ _ z k=>⟨z.1.at λo e=>k j (by simp) o e,z.2.at λo e=>k l (by simp) o e⟩,λi s Q E hi z q=>tS z.1 z.2 (x:=its[i]) (by simp[hi]) λh2 z2 sb=>q _ h2 s.toks (by simp[hi]) ⟨z2,z.2.extBut sb.extBut ne⟩ sb,λi s Q E hi z q=>eV calm z.1 z.2 (by simp[hi]) q⟩
 |false=>exact⟨λ_ _ _ z k=>⟨z.1.at λo e=>k j (by simp) o e,z.2.at λo e=>k l (by simp) o e⟩,λi s Q E hi z q=>wpAny_nextOf_list_item z.1 z.2 (x:=its[i]) (by simp[hi]) λh2 z2 sb=>q _ h2 s.toks (by simp[hi]) ⟨z2,z.2.extBut sb.extBut ne⟩ sb,λi s Q E hi z q=>wpAny_nextOf_list_end calm z.1 z.2 (by simp[hi]) q⟩
theorem nb1{I l c:Ag}(b:l<I)(h:c∈[I,l])(j:Ag):c≠I+(j+1):=by
 have h':c=I\/c=l:=by simpa using h
 omega
theorem nb2{I l c:Ag}(b:l<I)(h:c∈[I+1,l]):c≠I/\c≠I+3/\c≠I+4:=by
 have h':c=I+1\/c=l:=by simpa using h
 omega
theorem nij{I i j:Ag}(h:i≠j):I+i≠I+j:=by omega
theorem ni0{I i:Ag}(h:i≠0):I+i≠I:=by omega
section
variable{prog:AO}{w:AW}{A:AZ}{E:Vq}{s:Aq}
theorem gJ{I l1 l2 n1 n2 k:Ag}{P1 P2:Ag->Aj->Prop}{S1 S2:Ag->AF->Prop}{a b:Aj}{Q:Vq}(b1:l1<I)(b2:l2<I)(D1:Dw prog w A I [I,l1] n1 P1 S1)(D2:Dw prog w A (I+1) [I+1,l2] n2 P2 S2)(hz:Gh s.heap (I+4) (I+2) (I+3) .none)(hI:EN s.heap (I+2) (.ref I) (.ref (I+1)))(hO:EN s.heap (I+3) a b)(g1:S1 k s.heap)(g2:S2 k s.heap)(k1:k<n1)(k2:k<n2)(go:∀ x y h2 tk,P1 k x->P2 k y->Gh h2 (I+4) (I+2) (I+3) (Ei s.heap.objs.size)->EN h2 (I+3) x y->S1 (k+1) h2->S2 (k+1) h2->EN h2 s.heap.objs.size x y ->
   (∀ c o,c∉[I,I+1,I+3,I+4]->s.heap.get? c=Ab o->h2.get? c=Ab o)->Q (.ref s.heap.objs.size) {s with heap:=h2,toks:=tk}):Az (model prog w) A (Builtin.«zip.__next__» ⟨[.ref (I+4)],[]⟩) (λfin s'=>∃ v,fin=.done (.ret v)/\Q v s') E s:=by
 refine An (m:=field (.ref (I+4)) 2) (BP hz rfl (x:=.bool Ad) rfl ?_);refine An (m:=field (.ref (I+4)) 3) (BP hz rfl (x:=.ref (I+2)) rfl (An (DB hI rfl ?_)));refine An (m:=CI (.ref (I+4))) ?_;simp only[CI];refine An (BP hz rfl (x:=.none) rfl (AC ?_));rw[Ax rfl];refine An (FC (An (BP hz rfl (x:=.ref (I+3)) rfl (An (DK hz (by simp) λp1 z1 e1=>An ?_)))))
 have z1':Gh p1 (I+4) (I+2) (I+3) .ellipsis:=z1;simp only[XJ,XM,HC,GH];refine An (An (FX (An (m:=BK (.ref I)) (D1.item k _ _ _ k1 (D1.frame _ _ _ g1 λc hc o q=>e1.extBut c o (nb1 b1 hc 3) q) λx p2 t2 px s2 e2=>AC ?_))))
 have o2:EN p2 (I+3) a b:=e2.extBut _ _ (ni0 (by decide)) (e1.extBut _ _ (nij (by decide)) hO)
 refine An (DB o2 rfl (An (Go o2 λp3 o3 e3=>An (HM (AC ?_)))))
 have o3':EN p3 (I+3) x b:=o3;have g2':S2 k p3:=D2.frame _ _ _ g2 λc hc o q=>e3.extBut c o (nb2 b2 hc).2.1 (e2.extBut c o (nb2 b2 hc).1 (e1.extBut c o (nb2 b2 hc).2.2 q))
 refine An (An (FX (An (m:=BK (.ref (I+1))) (D2.item k _ _ _ k2 g2' λy p4 t4 py s4 e4=>AC ?_))))
 have o4:EN p4 (I+3) x b:=e4.extBut _ _ (nij (by decide)) o3'
 refine An (DB o4 rfl (An (Go o4 λp5 o5 e5=>An (HM (AC (AC ?_))))))
 have o5':EN p5 (I+3) x y:=o5;have sz:p5.objs.size=s.heap.objs.size:=by rw[e5.1,e4.1,e3.1,e2.1,e1.1]
 have z5:Gh p5 (I+4) (I+2) (I+3) .ellipsis:=e5.extBut _ _ (nij (by decide)) (e4.extBut _ _ (nij (by decide)) (e3.extBut _ _ (nij (by decide)) (e2.extBut _ _ (ni0 (by decide)) z1')))
 refine An (DB o5' rfl (An (wpAny_newTuple ?_)));refine An (m:=Yc (.ref (I+4)) (.ref p5.objs.size)) ?_;simp only[Yc];have z6:Gh (p5.push { cls:=.type "tuple",data:=.seq #[x,y] }) (I+4) (I+2) (I+3) .ellipsis:=Au _ z5;refine An (DK z6 (by simp) λp7 z7 e7=>?_)
 have z7':Gh p7 (I+4) (I+2) (I+3) (Ei p5.objs.size):=z7;refine DK z7' (by simp) λp8 z8 e8=>AC ⟨_,rfl,?_⟩
 have z8':Gh p8 (I+4) (I+2) (I+3) (Ei p5.objs.size):=z8;have lt5:I+4<p5.objs.size:=AH z5;have up:∀ c o,c≠I+4->p5.get? c=Ab o->p8.get? c=Ab o:=λc o nc q=>e8.extBut _ _ nc (e7.extBut _ _ nc (Au _ q))
 have t8:EN p8 p5.objs.size x y:=e8.extBut _ _ (EL lt5) (e7.extBut _ _ (EL lt5) (AI _ rfl));have a1:S1 (k+1) p8:=D1.frame _ _ _ s2 λc hc o q=>up c o (nb1 b1 hc 3) (e5.extBut c o (nb1 b1 hc 2) (e4.extBut c o (nb1 b1 hc 0) (e3.extBut c o (nb1 b1 hc 2) q)))
 have a2:S2 (k+1) p8:=D2.frame _ _ _ s4 λc hc o q=>up c o (nb2 b2 hc).2.2 (e5.extBut c o (nb2 b2 hc).2.1 q)
 have kp:∀ c o,c∉[I,I+1,I+3,I+4]->s.heap.get? c=Ab o->p8.get? c=Ab o:=λc o nc q=>by
  simp only[AD,Bm,CV,E8]at nc;exact up c o nc.2.2.2 (e5.extBut c o nc.2.2.1 (e4.extBut c o nc.2.1 (e3.extBut c o nc.2.2.1 (e2.extBut c o nc.1 (e1.extBut c o nc.2.2.2 q)))))
 have q:=go x y p8 t4 px py (by rw[<-sz];exact z8') (up _ _ (nij (by decide)) o5') a1 a2 (by rw[<-sz];exact t8) kp
 rw[<-sz]at q;exact q
theorem iW{I l1 l2 n1 n2 k:Ag}{P1 P2:Ag->Aj->Prop}{S1 S2:Ag->AF->Prop}{a b:Aj}{Q:Fin->Aq->Prop}(b1:l1<I)(b2:l2<I)(D1:Dw prog w A I [I,l1] n1 P1 S1)(D2:Dw prog w A (I+1) [I+1,l2] n2 P2 S2)(hz:Gh s.heap (I+4) (I+2) (I+3) .none)(hI:EN s.heap (I+2) (.ref I) (.ref (I+1)))(hO:EN s.heap (I+3) a b)(g1:S1 k s.heap)(g2:S2 k s.heap)(hk:n1<=k\/(k<n1/\n2<=k))(up:∀ h2 e tk,(∀ c o,c∉[I,I+1,I+3,I+4]->s.heap.get? c=Ab o->h2.get? c=Ab o)->(∃ o,h2.get? e=Ab o/\o.cls=.type "StopIteration")->E (.ref e) {s with heap:=h2,toks:=tk}):Az (model prog w) A (Builtin.«zip.__next__» ⟨[.ref (I+4)],[]⟩) Q E s:=by
 refine An (m:=field (.ref (I+4)) 2) (BP hz rfl (x:=.bool Ad) rfl ?_);refine An (m:=field (.ref (I+4)) 3) (BP hz rfl (x:=.ref (I+2)) rfl (An (DB hI rfl ?_)));refine An (m:=CI (.ref (I+4))) ?_;simp only[CI];refine An (BP hz rfl (x:=.none) rfl (AC ?_));rw[Ax rfl];refine An (FC (An (BP hz rfl (x:=.ref (I+3)) rfl (An (DK hz (by simp) λp1 z1 e1=>An ?_)))))
 have z1':Gh p1 (I+4) (I+2) (I+3) .ellipsis:=z1;simp only[XJ,XM,HC,GH];have g1':S1 k p1:=D1.frame _ _ _ g1 λc hc o q=>e1.extBut c o (nb1 b1 hc 3) q
 rcases hk with k1|⟨k1,k2⟩
 .refine An (An (FX (An (m:=BK (.ref I)) (D1.done _ _ _ _ k1 g1' λp2 e e2 he=>?_))))
  obtain⟨oe,hoe,hce⟩:=he;have z2:Gh p2 (I+4) (I+2) (I+3) .ellipsis:=e2 _ _ (ni0 (by decide)) z1'
  have ne:e≠I+4:=λx=>by subst x;rw[z2]at hoe;cases hoe;simp at hce
  refine DK z2 (by simp) λp3 _ e3=>up p3 e s.toks (λc o nc q=>?_) ⟨oe,e3.extBut _ _ ne hoe,hce⟩
  simp only[AD,Bm,CV,E8]at nc;exact e3.extBut c o nc.2.2.2 (e2 c o nc.1 (e1.extBut c o nc.2.2.2 q))
 .refine An (An (FX (An (m:=BK (.ref I)) (D1.item k _ _ _ k1 g1' λx p2 t2 px s2 e2=>AC ?_))))
  have o2:EN p2 (I+3) a b:=e2.extBut _ _ (ni0 (by decide)) (e1.extBut _ _ (nij (by decide)) hO)
  refine An (DB o2 rfl (An (Go o2 λp3 o3 e3=>An (HM (AC ?_)))))
  have g2':S2 k p3:=D2.frame _ _ _ g2 λc hc o q=>e3.extBut c o (nb2 b2 hc).2.1 (e2.extBut c o (nb2 b2 hc).1 (e1.extBut c o (nb2 b2 hc).2.2 q))
  refine An (An (FX (An (m:=BK (.ref (I+1))) (D2.done _ _ _ _ k2 g2' λp4 e e4 he=>?_))))
  obtain⟨oe,hoe,hce⟩:=he;have z4:Gh p4 (I+4) (I+2) (I+3) .ellipsis:=e4 _ _ (nij (by decide)) (e3.extBut _ _ (nij (by decide)) (e2.extBut _ _ (ni0 (by decide)) z1'))
  have ne:e≠I+4:=λx=>by subst x;rw[z4]at hoe;cases hoe;simp at hce
  refine DK z4 (by simp) λp5 _ e5=>up p5 e t2 (λc o nc q=>?_) ⟨oe,e5.extBut _ _ ne hoe,hce⟩
  simp only[AD,Bm,CV,E8]at nc;exact e5.extBut c o nc.2.2.2 (e4 c o nc.2.1 (e3.extBut c o nc.2.2.1 (e2.extBut c o nc.1 (e1.extBut c o nc.2.2.2 q))))
end
def SqX(t:Ai)(K:Fg)(H:Hp)(a:Ah)(xs:Ac V):Prop:=match t with
  |true=>SqT K H a xs
  |false=>SqL K H a xs
theorem IC(I:Inv X pI Y H s)(h:SqX t X.K H a xs):∃ its:Ac Aj,A6 xs its/\Ev t s.heap a its.toArray/\xs.length<=sizeLine:=by
 cases t with
 |true=>
  obtain⟨its,rv,p,z⟩:=I.tuple h;exact⟨its,rv,p,z⟩
 |false=>
  obtain⟨its,rv,p,z⟩:=I.list h;exact⟨its,rv,p.isList,z⟩
theorem O4{ys:Ac V}(I:Inv X pI Y H s)(h:SqX t X.K H a xs)(h2:SqX t X.K H a ys):xs=ys:=by
 cases t with
 |true=>exact I.tuple_inj h h2
 |false=>exact I.list_inj h h2
noncomputable def Itz(K:Fg)(t1 t2:Ai)(a b:Ah):It:=
  ⟨λi H=>∃ xs ys x y,SqX t1 K H a xs/\SqX t2 K H b ys/\xs[i]?=Ab x/\ys[i]?=Ab y,
   λi H v H'=>∃ p x y,H p=Af/\v=.ref p/\(∀ xs,SqX t1 K H a xs->xs[i]?=Ab x)/\(∀ ys,SqX t2 K H b ys->ys[i]?=Ab y)/\H'=upd H p (.tup [x,y]),
   λi H=>∃ xs ys,SqX t1 K H a xs/\SqX t2 K H b ys/\(xs.length<=i\/(i<xs.length/\ys.length<=i))⟩
theorem Inv.turnedL{t':Ag}(ch:Ac Ah)(I:Inv X pI Y H s)(k:∀ b o,b∉ch->s.heap.get? b=Ab o->h'.get? b=Ab o)(hf:∀ b∈ch,GY X pI H b):Inv X pI Y H {s with heap:=h',toks:=t'}:=by
 have nit:∀ b u,H b=Ab u->b∉ch:=λb u e z=>by rw[(hf b z).1]at e;cases e
 refine I.step (g':=s.gens) (d':=s.drawn) (ch:=ch) (λb hb=>⟨(hf b hb).2.2.2.1,(hf b hb).2.1,(hf b hb).2.2.2.2.1,(hf b hb).2.2.2.2.2⟩) (λb o _ _ hc e _=>k b o hc e) (λb o _ _ hc e _=>⟨o.slots,k b o hc e⟩) (λ_ _ _ _ n=>n)
  (λb o hc e=>⟨o,k b o hc e⟩) (λ_ _ e=>e) (λ_ _ _ e=>e) (λb ps e=>⟨#[],by rw[e];simp⟩) (λm ⟨o,es,ep,ho,r⟩=>⟨o,es,ep,k _ o (λz=>(hf _ z).2.1 rfl) ho,r⟩) (λb u e=>(I.hok b u e).stay (λc v hc q=>k c v ?_ q) (λ_ q=>q) λ_ _ q=>q) I.bare
 rcases hc with z|z
 .rw[z];exact nit b u e
 .exact nit c _ z
def zTn(t1 t2:Ai)(I l1 l2:Ag)(i:Ag)(h:AF):Prop:=Gh h (I+4) (I+2) (I+3) .none/\EN h (I+2) (.ref I) (.ref (I+1))/\(∃ a b,EN h (I+3) a b)/\EI t1 h I l1 i/\EI t2 h (I+1) l2 i
noncomputable def zFp(I:Ag):Ac Ah:=[I,I+1,I+2,I+3,I+4]
theorem EI.obj{j:Ah}(z:EI t h j l i):∃ o,h.get? j=Ab o/\∀ v,o.data≠.cell v:=by
 cases t with
 |true=>obtain⟨o,e,c,d⟩:=z;exact⟨o,e,λv z=>by rw[d]at z;cases z⟩
 |false=>obtain⟨o,e,c,d⟩:=z;exact⟨o,e,λv z=>by rw[d]at z;cases z⟩
theorem EI.at'{j:Ah}(z:EI t h j l i)(k:∀ o,h.get? j=Ab o->h2.get? j=Ab o):EI t h2 j l i:=by
 cases t with
 |true=>exact PySem.Heap.IsTupleIter.at z k
 |false=>exact PySem.Heap.IsListIter.at z k
theorem fJ(t1 t2:Ai)(I l1 l2:Ag)(b1:l1<I)(b2:l2<I):Turn P w K (.Tuple es n pos) (Itz K t1 t2 l1 l2) (zFp I) (I+4) (zTn t1 t2 I l1 l2) where
  mem:=by simp[zFp]
  obj:=λi h ⟨z1,z2,⟨a,b,z3⟩,z4,z5⟩ c hc=>by
    simp only[zFp,AD,Bm,CV]at hc;rcases hc with rfl|rfl|rfl|rfl|rfl
    · exact z4.obj
    · exact z5.obj
    · exact⟨_,z2,λv z=>by cases z⟩
    · exact⟨_,z3,λv z=>by cases z⟩
    · exact⟨_,z1,λv z=>by cases z⟩
  keep:=λi h h2 ⟨z1,z2,⟨a,b,z3⟩,z4,z5⟩ k=>⟨k _ (by simp[zFp]) _ z1,k _ (by simp[zFp]) _ z2,⟨a,b,k _ (by simp[zFp]) _ z3⟩,z4.at' λo e=>k _ (by simp[zFp]) o e,z5.at' λo e=>k _ (by simp[zFp]) o e⟩
  item:=by
    intro X hP hw hK hc i pI s Y H E Iv hf ⟨z1,z2,⟨a,b,z3⟩,z4,z5⟩ ⟨xs,ys,x,y,q1,q2,hx,hy⟩;subst hP hw hK;obtain⟨us,rx,sx,_⟩:=IC Iv q1;obtain⟨vs,ry,sy,_⟩:=IC Iv q2;obtain⟨u,hu,ru⟩:=rx.get hx;obtain⟨v,hv,rv⟩:=ry.get hy;have hT:s.TypeIs (.ref (I+4)) "zip" := ⟨_,z1,rfl⟩;have calm:X.A.in1.handled=Af:=Iv.ok.hd hc;show Az _ _ (Ik _) _ _ _;simp only[Ik];refine An (wpAny_attempt (CN hT Gf (EU Gf hT YS (gJ (k:=i) b1 b2 (Lo calm t1 I l1 (Be b1) us.toArray) (Lo calm t2 (I+1) l2 (Be (Dt b2)) vs.toArray) z1 z2 z3 ⟨z4,sx⟩ ⟨z5,sy⟩
      (by have:=(AX.mp hu).1;simpa using this) (by have:=(AX.mp hv).1;simpa using this) λx' y' h2 tk px py c1 c2 c3 c4 c5 kp=>AC ?_) (YN _))))
    have ex:x'=u:=by
      have px':us[i]?=Ab x':=by simpa using px
      rw[hu]at px';exact(Bg px').symm
    have ey:y'=v:=by
      have py':vs[i]?=Ab y':=by simpa using py
      rw[hv]at py';exact(Bg py').symm
    subst ex ey;refine⟨_,rfl,wpAny_letOwnedTupleGo_zip c1 λh3 d1 sb=>?_⟩
    have lt4:I+4<s.heap.objs.size:=AH z1;have kp3:∀ c o,c∉zFp I->s.heap.get? c=Ab o->h3.get? c=Ab o:=λc o nc q=>by
      simp only[zFp,AD,Bm,CV,E8]at nc;exact sb.extBut c o nc.2.2.2.2 (kp c o (by simp only[AD,Bm,CV,E8];exact⟨nc.1,nc.2.1,nc.2.2.2.1,nc.2.2.2.2⟩) q)
    have nT:∀ c∈zFp I,c≠s.heap.objs.size:=λc hc z=>by
      have:c<=I+4:=by
        simp only[zFp,AD,Bm,CV]at hc;rcases hc with z|z|z|z|z<;>rw[z]<;>simp
      exact absurd (z ▸ G0 this lt4) (Br _)
    have I1:Inv X pI Y (upd H s.heap.objs.size (.tup [x,y])) { s with heap:=s.heap.push { cls:=.type "tuple",data:=.seq #[x',y'] },toks:=s.toks }:=
      Iv.laid (λ_ _ q=>Au _ q) (AV _) ⟨(by decide:2<=sizeLine),[x',y'],.cons ru (.cons rv .nil),⟨_,AI _ rfl,rfl,_,rfl⟩⟩
    have hf':∀ b∈zFp I,GY X pI (upd H s.heap.objs.size (.tup [x,y])) b:=λb hb=>⟨by rw[B8 (nT b hb)];exact(hf b hb).1,(hf b hb).2⟩
    have I2:Inv X pI Y (upd H s.heap.objs.size (.tup [x,y])) {s with heap:=h3,toks:=tk}:=Inv.turnedL (s:={ s with heap:=s.heap.push { cls:=.type "tuple",data:=.seq #[x',y'] },toks:=s.toks }) (zFp I) I1 (λc o nc q=>by
      rcases Y_0 q with ⟨e1,e2⟩|e1
      · subst e1 e2;exact sb.extBut _ _ (EL lt4) c5
      · exact kp3 c o nc e1) hf'
    refine⟨.ref s.heap.objs.size,_,I2,rfl,⟨s.heap.objs.size,x,y,Iv.fresh,rfl,λzs hz=>by rw[O4 Iv hz q1];exact hx,λzs hz=>by rw[O4 Iv hz q2];exact hy,rfl⟩,⟨d1,sb.extBut _ _ (nij (by decide)) (kp _ _ (by simp) z2),⟨_,_,sb.extBut _ _ (nij (by decide)) c2⟩,c3.1.at' λo q=>sb.extBut _ o (DP (ni0 (by decide))) q,c4.1.at' λo q=>sb.extBut _ o (nij (by decide)) q⟩,λb hb=>(hf' b hb).1⟩
  done:=by
    intro X hP hw hK hc i pI s Y H E Iv hf ⟨z1,z2,⟨a,b,z3⟩,z4,z5⟩ ⟨xs,ys,q1,q2,hk⟩;subst hP hw hK;obtain⟨us,rx,sx,_⟩:=IC Iv q1;obtain⟨vs,ry,sy,_⟩:=IC Iv q2;have hT:s.TypeIs (.ref (I+4)) "zip" := ⟨_,z1,rfl⟩;have calm:X.A.in1.handled=Af:=Iv.ok.hd hc;have e1:=rx.length;have e2:=ry.length;simp only[Ik];refine An (wpAny_attempt (CN hT Gf (EU Gf hT YS (iW (k:=i) b1 b2 (Lo calm t1 I l1 (Be b1) us.toArray) (Lo calm t2 (I+1) l2 (Be (Dt b2)) vs.toArray) z1 z2 z3 ⟨z4,sx⟩ ⟨z5,sy⟩
      (by simp only[AE];omega) λh2 e tk kp he=>?_) (YN _))))
    obtain⟨o,ho,hcl⟩:=he;refine An (wpAny_isInstance (T := "StopIteration") (b:=Aa) ⟨o,ho,hcl⟩ isSubtype_stop (AC ⟨rfl,Inv.turnedL [I,I+1,I+3,I+4] Iv (λc o nc q=>kp c o nc q) λc hc=>hf c ?_⟩))
    simp only[AD,Bm,CV]at hc;simp only[zFp,AD,Bm,CV];rcases hc with rfl|rfl|rfl|rfl<;>simp
  self:=λ_ _ _ _ _ st h=>ZJ st.1 h
section
variable{prog:AO}{w:AW}{A:AZ}{E:Vq}{s:Aq}
noncomputable def itO(t:Ai)(l:Ah):C9:=match t with
  |true=>{ cls:=.type "tuple_iterator",data:=.fields #[.ref l,.int 0 0] }
  |false=>{ cls:=.type "list_iterator",data:=.fields #[.ref l,.int 0 0] }
theorem Mq{Q:Vq}(h:Ev t s.heap l its)(q:Q (.ref s.heap.objs.size) {s with heap:=s.heap.push (itO t l)}):Az (model prog w) A (LS (.ref l)) Q E s:=by
 cases t with
 |true=>exact G4 h q
 |false=>exact EJ h q
theorem Ev.push(z:Ev t h l its)(o:C9):Ev t (h.push o) l its:=by
 cases t with
 |true=>exact PySem.Heap.IsTuple.at z λ_ e=>Au _ e
 |false=>exact PySem.Heap.IsList.at z λ_ e=>Au _ e
theorem QD{j:Ah}(e:h.get? j=Ab (itO t l)):EI t h j l 0:=by
 cases t with
 |true=>exact⟨_,e,rfl,rfl⟩
 |false=>exact⟨_,e,rfl,rfl⟩
theorem PR(t:Ai)(l:Ah):(itO t l).isFreed=Ad:=by cases t<;>rfl
noncomputable abbrev zh2(t1 t2:Ai)(h:AF)(l1 l2:Ah):AF:=(h.push (itO t1 l1)).push (itO t2 l2)
noncomputable abbrev zh3(t1 t2:Ai)(h:AF)(l1 l2:Ah):AF:=(zh2 t1 t2 h l1 l2).push { cls:=.type "tuple",data:=.seq #[.ref h.objs.size,.ref (h.push (itO t1 l1)).objs.size] }
noncomputable abbrev zh4(t1 t2:Ai)(h:AF)(l1 l2:Ah):AF:=(zh3 t1 t2 h l1 l2).push { cls:=.type "tuple",data:=.seq #[.none,.none] }
noncomputable abbrev zh5(t1 t2:Ai)(h:AF)(l1 l2:Ah):AF:=(zh4 t1 t2 h l1 l2).push { cls:=.type "zip",data:=.fields #[.none,.bool Ad,.bool Ad,.ref (zh2 t1 t2 h l1 l2).objs.size,.ref (zh3 t1 t2 h l1 l2).objs.size] }
theorem iV(t1 t2:Ai)(l1 l2:Ah)(xs ys:A7 Aj):LK (Builtin.«zip.__new__» ⟨[.type "zip",.ref l1,.ref l2],[]⟩) (λ_ R s=>Ev t1 s.heap l1 xs/\Ev t2 s.heap l2 ys/\R (.ok (.ret (.ref (zh4 t1 t2 s.heap l1 l2).objs.size))) {s with heap:=zh5 t1 t2 s.heap l1 l2}):=
 .of_wp λprog w A R s h=>by
  obtain⟨hp,g,d,tk,os⟩:=s;obtain⟨a1,a2,q⟩:=h;have hsub:=sub_zip;have L1:Ev t1 (JB ⟨hp,g,d,tk,os⟩) l1 xs:=a1;have L2:Ev t2 (JB ⟨hp.push (itO t1 l1),g,d,tk,os⟩) l2 ys:=a2.push _
  wp_walk using Mq L1,Mq L2
  exact⟨_,rfl,q⟩
theorem gK{t1 t2:Ai}{l1 l2:Ah}{xs ys:A7 Aj}{Q:Vq}(a1:Ev t1 s.heap l1 xs)(a2:Ev t2 s.heap l2 ys)(q:∀ h2,zTn t1 t2 s.heap.objs.size l1 l2 0 h2->(∀ c o,s.heap.get? c=Ab o->h2.get? c=Ab o)->Q (.ref (s.heap.objs.size+4)) {s with heap:=h2}):Az (model prog w) A (call (.type "zip") [.ref l1,.ref l2]) Q E s:=by
 refine callType_new F.called_zip (by decide) (F.typeCall_zip_2 _ _) (F.newCall_zip_2 _ _) (λobj=>F.args_object_init_3 obj _ _) F.entry_zip_new (iV t1 t2 l1 l2 xs ys) ⟨a1,a2,?_⟩
 have s1:(s.heap.push (itO t1 l1)).objs.size=s.heap.objs.size+1:=BX ..;have s2:(zh2 t1 t2 s.heap l1 l2).objs.size=s.heap.objs.size+2:=by rw[BX,s1]
 have s3:(zh3 t1 t2 s.heap l1 l2).objs.size=s.heap.objs.size+3:=by rw[BX,s2]
 have s4:(zh4 t1 t2 s.heap l1 l2).objs.size=s.heap.objs.size+4:=by rw[BX,s3]
 have u5:∀ {c o},(zh4 t1 t2 s.heap l1 l2).get? c=Ab o->(zh5 t1 t2 s.heap l1 l2).get? c=Ab o:=λe=>Au _ e
 have u4:∀ {c o},(zh3 t1 t2 s.heap l1 l2).get? c=Ab o->(zh5 t1 t2 s.heap l1 l2).get? c=Ab o:=λe=>u5 (Au _ e)
 have u3:∀ {c o},(zh2 t1 t2 s.heap l1 l2).get? c=Ab o->(zh5 t1 t2 s.heap l1 l2).get? c=Ab o:=λe=>u4 (Au _ e)
 have u2:∀ {c o},(s.heap.push (itO t1 l1)).get? c=Ab o->(zh5 t1 t2 s.heap l1 l2).get? c=Ab o:=λe=>u3 (Au _ e)
 have g5:(zh5 t1 t2 s.heap l1 l2).get? (zh4 t1 t2 s.heap l1 l2).objs.size=Ab _:=AI _ rfl;have g4:(zh5 t1 t2 s.heap l1 l2).get? (zh3 t1 t2 s.heap l1 l2).objs.size=Ab _:=u5 (AI _ rfl);have g3:(zh5 t1 t2 s.heap l1 l2).get? (zh2 t1 t2 s.heap l1 l2).objs.size=Ab _:=u4 (AI _ rfl);have g2:(zh5 t1 t2 s.heap l1 l2).get? (s.heap.push (itO t1 l1)).objs.size=Ab _:=u3 (AI _ (PR _ _));have g1:(zh5 t1 t2 s.heap l1 l2).get? s.heap.objs.size=Ab _:=u2 (AI _ (PR _ _));show _/\_;rw[s2,s3,s4]at g5;rw[s3]at g4;rw[s1,s2]at g3;rw[s1]at g2;rw[s4];exact⟨⟨_,g5,rfl⟩,q _ ⟨g5,g3,⟨_,_,g4⟩,QD g1,QD g2⟩ λc o e=>u2 (Au _ e)⟩
end
def Z_7(K:Fg)(ta:TA):TI:=λY H R=>ta Y H λvs H1=>∃ t1 t2 a b xs ys,vs=[.ref a,.ref b]/\SqX t1 K H1 a xs/\SqX t2 K H1 b ys/\(xs.length<=sizeLine->R (Itz K t1 t2 a b) H1)
theorem Ev.lt(z:Ev t h a its):a<h.objs.size:=by
 cases t with
 |true=>obtain⟨o,e,_⟩:=z;exact AH e
 |false=>obtain⟨o,e,_⟩:=z;exact AH e
theorem sZ{a b:Am}(hg:Gl X "zip")(hm:X.mg "zip" = Af)(ha:PA X [a,b] ta)(hs:Ar [a,b] X.env=[(Ad,eval a X.env),(Ad,eval b X.env)])(hs2:Ar [b] X.env=[(Ad,eval b X.env)]):
  PI X (.Tuple es n tpos) (.Call (.Name "zip" p) [a,b] [] pos) (Z_7 X.K ta):=by
 intro pI s Y H R I h;refine Call_ (J6 I hg hm PyProof.Rows.boot_zip (CW (thn (ha pos pI s Y H _ I h) λus s1 ⟨vs,H1,I1,r1,q1⟩=>?_) (by rw[hs,hs2]) (by rw[hs2];rfl)))
 obtain⟨t1,t2,c,d,xs,ys,e,sx,sy,q⟩:=q1;subst e;cases r1 with
 |cons r rr=>
  cases rr with
  |cons r' rr=>
   cases rr;cases r;cases r';obtain⟨us,ru,iu,zu⟩:=IC I1 sx;obtain⟨vs,rv,iv,_⟩:=IC I1 sy;refine gK iu iv λh2 z kp=>ZJ z.1 ?_
   refine⟨s1.heap.objs.size+4,zFp s1.heap.objs.size,_,_,H1,rfl,I1.kept (t':=s1.toks) kp,fJ t1 t2 s1.heap.objs.size c d iu.lt iv.lt,z,λb hb=>?_,q zu⟩
   have hb':s1.heap.objs.size<=b:=by
    simp only[zFp,AD,Bm,CV]at hb;rcases hb with z|z|z|z|z<;>rw[z]<;>simp
   exact I1.fpOk hb' (I1.hok.fresh hb')
theorem QS{ds:Ac D}(r:Rep K CL H A v d)(e:Co d=.ok ds):∃ t a xs,v=.ref a/\(∀ H2,Kp A H H2->SqX t K H2 a xs)/\Reps K CL H A xs ds:=by
 cases d with
 |lst es=>
  cases e;obtain⟨q,xs,rfl,na,sq,r⟩:=r;exact⟨Ad,q,xs,rfl,λH2 k=>Np k na sq,r⟩
 |tup es=>
  cases e;obtain⟨q,xs,rfl,na,sq,r⟩:=r;exact⟨Aa,q,xs,rfl,λH2 k=>Lf k na sq,r⟩
 |_=>cases e
theorem Py:∀(xs ys:Ac D),(FJ xs ys).length=min xs.length ys.length
 |[],_=>by simp[FJ]
 |_::_,[]=>by simp[FJ]
 |x::xs,y::ys=>by
  rw[FJ,AY,Py xs ys];simp only[AY];omega
theorem TV:∀(xs ys:Ac D)(i:Ag)(d:D),(FJ xs ys)[i]?=Ab d->∃ x y,xs[i]?=Ab x/\ys[i]?=Ab y/\d=.tup [x,y]
 |[],_,i,d,h=>by simp[FJ]at h
 |_::_,[],i,d,h=>by simp[FJ]at h
 |x::xs,y::ys,0,d,h=>by
  rw[FJ]at h;simp only[Xu,Cp]at h;exact⟨x,y,rfl,rfl,h.symm⟩
 |x::xs,y::ys,i+1,d,h=>by
  rw[FJ]at h;simp only[Xs]at h ⊢;exact TV xs ys i d h
theorem gL{t1 t2:Ai}{ys:Ac V}{ds es:Ac D}(s1:∀ H2,Kp A H1 H2->SqX t1 K H2 a xs)(s2:∀ H2,Kp A H1 H2->SqX t2 K H2 b ys)(r1:Reps K CL H1 A xs ds)(r2:Reps K CL H1 A ys es):II K CL A (FJ ds es) (Itz K t1 t2 a b) H1:=λH k i=>by
 refine⟨λhi=>⟨xs,ys,s1 H k,s2 H k,?_⟩,λd hd=>?_⟩
 .rw[Py]at hi;rw[r1.length,r2.length];omega
 .obtain⟨x,y,hx,hy,rfl⟩:=TV _ _ _ _ hd;obtain⟨u,hu,ru⟩:=r1.get hx;obtain⟨v,hv,rv⟩:=r2.get hy;refine⟨⟨xs,ys,u,v,s1 H k,s2 H k,hu,hv⟩,?_⟩;rintro w' H' ⟨p,x',y',hp,rfl,c1,c2,rfl⟩;have ex:x'=u:=Bg ((c1 xs (s1 H k)).symm.trans hu);have ey:y'=v:=Bg ((c2 ys (s2 H k)).symm.trans hv);subst ex ey;have sm:=Fu hp (.tup [x',y']);exact⟨sm,λB hB aB=>JR aB hp ⟨LZ ru k hB,LZ rv k hB,trivial⟩⟩
section
variable{X:Cx}{CL:ClA}{W:XW}{pos p:AJ}{a b:Am}{fa fb:Rho->R D}
theorem rZ(ha:SE X CL W a fa)(hb:SE X CL W b fb)(hg:Gl X "zip")(hm:X.mg "zip" = Af)(hs:Ar [a,b] X.env=[(Ad,eval a X.env),(Ad,eval b X.env)])(hs2:Ar [b] X.env=[(Ad,eval b X.env)]):
  SI X CL W (.Tuple es n tpos) (.Call (.Name "zip" p) [a,b] [] pos) (λZ=>(fa Z).bind λx=>(fb Z).bind λy=>(Co x).bind λxs=>(Co y).bind λys=>.ok (FJ xs ys)):=
 λA=>PI.weak (sZ hg hm (DL (ha A) (DL (hb A) Fh hs2) (by rw[hs,hs2])) hs hs2) λY H R ⟨hA,Z,g,q⟩=>⟨hA,Z,g,E4.ex q λd v H1 _ s1 r1 p1=>⟨hA.same s1,Z,g.same s1,E4.ex p1 λd2 v2 H2 _ s2 r2 p2=>by
  cases e1:Co d with
  |bad=>rw[e1]at p2;exact p2.elim
  |exn z=>exact absurd e1 (by cases d<;>simp[Co])
  |ok ds=>
   cases e2:Co d2 with
   |bad=>rw[e1,e2]at p2;exact p2.elim
   |exn z=>exact absurd e2 (by cases d2<;>simp[Co])
   |ok es=>
    rw[e1,e2]at p2;obtain⟨t1,c1,xs,rfl,k1,rs1⟩:=QS (r1.same s2) e1;obtain⟨t2,c2,ys,rfl,k2,rs2⟩:=QS r2 e2;refine⟨t1,t2,c1,c2,xs,ys,rfl,k1 H2 (Kp.of (AB.refl H2)),k2 H2 (Kp.of (AB.refl H2)),λhz=>p2 _ H2 (AB.refl H2) (gL k1 k2 rs1 rs2) ?_⟩
    rw[Py,<-rs1.length];omega⟩⟩
end
theorem EI.live{l:Ag}(z:EI t h j l i):∃ o,h.get? j=Ab o/\∀ v,o.data≠.cell v:=by
 cases t with
 |true=>obtain⟨o,e,c,d⟩:=z;exact⟨o,e,λv z=>by rw[d]at z;cases z⟩
 |false=>obtain⟨o,e,c,d⟩:=z;exact⟨o,e,λv z=>by rw[d]at z;cases z⟩
theorem EI.keep{l:Ag}(z:EI t h j l i)(k:∀ o,h.get? j=Ab o->h2.get? j=Ab o):EI t h2 j l i:=by
 cases t with
 |true=>exact PySem.Heap.IsTupleIter.at z k
 |false=>exact PySem.Heap.IsListIter.at z k
theorem vE{A:AZ}(calm:A.handled=Af)(t:Ai)(j l:Ah)(ne:l≠j)(its:A7 Aj):Draws prog w A j [j,l] its.size (λi v=>its[i]?=Ab v) (λi h=>EI t h j l i/\Ev t h l its):=
 have d:=Lo (prog:=prog) (w:=w) calm t j l ne its
 ⟨λi h z=>let ⟨o,e,_⟩:=z.1.live;⟨o,e⟩,d.frame,d.item,λs Q E h q=>d.done _ s Q E (AV _) h q⟩
theorem oO{A:AZ}(calm:A.handled=Af)(t:Ai)(j l:Ah)(ne:l≠j)(its:A7 Aj)(i:Ag)(hi:its.size<=i):Draws prog w A j [j,l] i (λ_ _=>AU) (λk h=>k=i/\EI t h j l i/\Ev t h l its):=
 have d:=Lo (prog:=prog) (w:=w) calm t j l ne its
 ⟨λ_ h z=>let ⟨o,e,_⟩:=z.2.1.live;⟨o,e⟩,λk h h' z q=>⟨z.1,d.frame i h h' z.2 q⟩,λk s Q E lt z=>absurd z.1 (Be lt),λs Q E h q=>d.done i s Q E hi h.2 q⟩
noncomputable def Ite(K:Fg)(t:Ai)(a:Ah):It:=
 ⟨λi H=>∃ xs x,SqX t K H a xs/\xs[i]?=Ab x,λi H v H'=>∃ p x,H p=Af/\v=.ref p/\(∀ xs,SqX t K H a xs->xs[i]?=Ab x)/\H'=upd H p (.tup [.int i,x]),λi H=>∃ xs,SqX t K H a xs/\xs.length<=i⟩
def eTn(t:Ai)(I l:Ag)(i:Ag)(h:AF):Prop:=(∃ old,IsEnum h (I+1) I i old)/\EI t h I l i
theorem eC(t:Ai)(I l:Ag)(b:l<I):Turn P w K (.Tuple es n pos) (Ite K t l) [I,I+1] (I+1) (eTn t I l) where
  mem:=by simp
  obj:=λi h ⟨⟨old,z1⟩,z2⟩ c hc=>by
    simp only[AD,Bm,CV]at hc;rcases hc with rfl|rfl
    · exact z2.live
    · exact⟨_,z1,λv z=>by cases z⟩
  keep:=λi h h2 ⟨⟨old,z1⟩,z2⟩ k=>⟨⟨old,k _ (by simp) _ z1⟩,z2.keep λo e=>k _ (by simp) o e⟩
  item:=by
    intro X hP hw hK hc i pI s Y H E Iv hf ⟨⟨old,z1⟩,z2⟩ ⟨xs,x,q1,hx⟩;subst hP hw hK;obtain⟨us,rx,px,_⟩:=IC Iv q1;obtain⟨u,hu,ru⟩:=rx.get hx;have lu:i<us.toArray.size:=by
      have:=(AX.mp hu).1;simpa using this
    refine wpAny_pyNext_enum_itemD (vE (A:=X.A.in1) (Iv.ok.hd hc) t I l (Be b) us.toArray) z1 ⟨z2,px⟩ lu (ni0 (by decide)) (by simp only[AD,Bm,CV,E8];exact⟨ni0 (by decide),EL (AG b (Nat.le_add_right _ _))⟩) λu' h2 tk hu' ho it2 hT sz kp=>⟨_,rfl,wpAny_letOwnedTupleGo_enum ho λh3 d1 sb=>?_⟩
    have eu:u'=u:=by
      rw[List.getElem?_toArray,hu]at hu';exact(Bg hu').symm
    subst eu;have lt:I+1<s.heap.objs.size:=AH z1;have kp3:∀ c o,c∉[I,I+1]->s.heap.get? c=Ab o->h3.get? c=Ab o:=λc o nc q=>by
      simp only[AD,Bm,CV,E8]at nc;exact sb.extBut c o nc.2 (kp c o nc.2 nc.1 q)
    have nT:∀ c∈[I,I+1],c≠s.heap.objs.size:=λc hc z=>by
      have:c<=I+1:=by
        simp only[AD,Bm,CV]at hc;rcases hc with z|z<;>rw[z]<;>simp
      exact absurd (z ▸ G0 this lt) (Br _)
    have I1:Inv X pI Y (upd H s.heap.objs.size (.tup [.int i,x])) { s with heap:=s.heap.push { cls:=.type "tuple",data:=.seq #[.int i tk,u'] },toks:=s.toks }:=
      Iv.laid (λ_ _ q=>Au _ q) (AV _) ⟨(by decide:2<=sizeLine),[.int i tk,u'],.cons ⟨_,rfl⟩ (.cons ru .nil),⟨_,AI _ rfl,rfl,_,rfl⟩⟩
    have hf':∀ b∈[I,I+1],GY X pI (upd H s.heap.objs.size (.tup [.int i,x])) b:=λb hb=>⟨by rw[B8 (nT b hb)];exact(hf b hb).1,(hf b hb).2⟩
    have I2:Inv X pI Y (upd H s.heap.objs.size (.tup [.int i,x])) {s with heap:=h3,toks:=tk+1}:=Inv.turnedL (s:={ s with heap:=s.heap.push { cls:=.type "tuple",data:=.seq #[.int i tk,u'] },toks:=s.toks }) [I,I+1] I1 (λc o nc q=>by
      rcases Y_0 q with ⟨e1,e2⟩|e1
      · subst e1 e2;exact sb.extBut _ _ (EL lt) hT
      · exact kp3 c o nc e1) hf'
    exact⟨.ref s.heap.objs.size,_,I2,rfl,⟨s.heap.objs.size,x,Iv.fresh,rfl,λzs hz=>by rw[O4 Iv hz q1];exact hx,rfl⟩,⟨⟨u',by simpa using d1⟩,it2.1.keep λo q=>sb.extBut _ o (DP (ni0 (by decide))) q⟩,λb hb=>(hf' b hb).1⟩
  done:=by
    intro X hP hw hK hc i pI s Y H E Iv hf ⟨⟨old,z1⟩,z2⟩ ⟨xs,q1,hk⟩;subst hP hw hK;obtain⟨us,rx,px,_⟩:=IC Iv q1;have e1:=rx.length;have e2:us.toArray.size<=i:=by rw[AE,<-e1];exact hk
    refine wpAny_pyNext_enum_endD (oO (A:=X.A.in1) (Iv.ok.hd hc) t I l (Be b) us.toArray i e2) z1 ⟨rfl,z2,px⟩ λh2 eb=>⟨rfl,Inv.turnedL [I] Iv (t':=s.toks) (λc o nc q=>eb c o (λz=>nc (by simp[z])) q) λc hc=>hf c ?_⟩
    have:c=I:=by simpa using hc
    subst this;simp
  self:=λ_ _ _ _ _ st h=>ZI st.1.choose_spec h
section
variable{prog:AO}{w:AW}{A:AZ}{E:Vq}{s:Aq}
theorem iD(t:Ai)(l:Ah)(xs:A7 Aj):LK (Builtin.«enumerate.__new__» ⟨[.type "enumerate",.ref l],[]⟩) (λ_ R s=>Ev t s.heap l xs /\
   R (.ok (.ret (.ref (s.heap.push (itO t l)).objs.size))) { s with heap:=(s.heap.push (itO t l)).push { cls:=.type "enumerate",data:=.fields #[.none,.bool Ad,.ref s.heap.objs.size,Ei 0,.none,.none] } }):=
 .of_wp λprog w A R s h=>by
  obtain⟨hp,g,d,tk,os⟩:=s;obtain⟨hl,h⟩:=h;have hsub:=sub_enumerate;have hL:Ev t (JB ⟨hp,g,d,tk,os⟩) l xs:=hl
  wp_walk
  refine wpAny_stack_any λst=>AC ?_
  split
  .rename_i c _ _ _ _ _;cases (c==Zi "enumerate")
   .wp_walk using Mq hL
    exact⟨_,rfl,h⟩
   .wp_walk using Mq hL
    exact⟨_,rfl,h⟩
  .wp_walk using Mq hL
   exact⟨_,rfl,h⟩
theorem eP{xs:A7 Aj}{Q:Vq}(hL:Ev t s.heap l xs)(h:∀ h',IsEnum h' (s.heap.objs.size+1) s.heap.objs.size 0 .none->EI t h' s.heap.objs.size l 0->(∀ b o,s.heap.get? b=Ab o->h'.get? b=Ab o)->Q (.ref (s.heap.objs.size+1)) {s with heap:=h'}):
    Az (model prog w) A (call (.type "enumerate") [.ref l]) Q E s:=by
  refine callType_new F.called_enumerate (by decide) (F.typeCall_enumerate_1 _) (F.newCall_enumerate_1 _) (λobj=>F.args_object_init_2 obj _) F.entry_enumerate_new (iD t l xs) ⟨hL,?_⟩
  have hz:(s.heap.push (itO t l)).objs.size=s.heap.objs.size+1:=BX ..;show _/\_;rw[hz];have he:IsEnum ((s.heap.push (itO t l)).push { cls:=.type "enumerate",data:=.fields #[.none,.bool Ad,.ref s.heap.objs.size,Ei 0,.none,.none] }) (s.heap.objs.size+1) s.heap.objs.size 0 .none:=by
    have:=AI (s.heap.push (itO t l)) (o:={ cls:=.type "enumerate",data:=.fields #[.none,.bool Ad,.ref s.heap.objs.size,Ei 0,.none,.none] }) rfl;rw[hz]at this;exact this
  exact⟨⟨_,he,rfl⟩,h _ he (QD (Au _ (AI _ (PR _ _)))) λb o x=>Au _ (Au _ x)⟩
end
def Z_8(K:Fg)(ta:TA):TI:=λY H R=>ta Y H λvs H1=>∃ t a xs,vs=[.ref a]/\SqX t K H1 a xs/\(xs.length<=sizeLine->R (Ite K t a) H1)
theorem lK{a:Am}(hg:Gl X "enumerate")(hm:X.mg "enumerate" = Af)(ha:PA X [a] ta)(hs:Ar [a] X.env=[(Ad,eval a X.env)]):
  PI X (.Tuple es n tpos) (.Call (.Name "enumerate" p) [a] [] pos) (Z_8 X.K ta):=by
 intro pI s Y H R I h;refine Call_ (J6 I hg hm PyProof.Rows.boot_enumerate (CW (thn (ha pos pI s Y H _ I h) λus s1 ⟨vs,H1,I1,r1,q1⟩=>?_) hs rfl))
 obtain⟨t,c,xs,e,sx,q⟩:=q1;subst e;cases r1 with
 |cons r rr=>
  cases rr;cases r;obtain⟨us,ru,pu,zu⟩:=IC I1 sx;refine eP pu λh2 z1 z2 kp=>ZI z1 ?_
  refine⟨s1.heap.objs.size+1,[s1.heap.objs.size,s1.heap.objs.size+1],_,_,H1,rfl,I1.kept (t':=s1.toks) kp,eC t s1.heap.objs.size c pu.lt,⟨⟨_,z1⟩,z2⟩,λb hb=>?_,q zu⟩
  have hb':s1.heap.objs.size<=b:=by
   simp only[AD,Bm,CV]at hb;rcases hb with z|z<;>rw[z]<;>simp
  exact I1.fpOk hb' (I1.hok.fresh hb')
theorem PV:∀(j:Ae)(xs:Ac D),(Et j xs).length=xs.length
 |_,[]=>rfl
 |j,x::xs=>by rw[Et,AY,PV,AY]
theorem Ud:∀(xs:Ac D)(j:Ae)(i:Ag)(d:D),(Et j xs)[i]?=Ab d->∃ x,xs[i]?=Ab x/\d=.tup [.int (j+i),x]
 |[],j,i,d,h=>by simp[Et]at h
 |x::xs,j,0,d,h=>by
  rw[Et]at h;simp only[Xu,Cp]at h;exact⟨x,rfl,by rw[<-h];simp⟩
 |x::xs,j,i+1,d,h=>by
  rw[Et]at h;simp only[Xs]at h ⊢;obtain⟨y,h1,h2⟩:=Ud xs (j+1) i d h;exact⟨y,h1,by rw[h2];congr 3;omega⟩
theorem dZ{ds:Ac D}(sq:∀ H2,Kp A H1 H2->SqX t K H2 a xs)(r1:Reps K CL H1 A xs ds):II K CL A (Et 0 ds) (Ite K t a) H1:=λH k i=>by
 have s1:=sq H k;refine⟨λhi=>⟨xs,s1,?_⟩,λd hd=>?_⟩
 .rw[PV]at hi;rw[r1.length];exact hi
 .obtain⟨x,hx,rfl⟩:=Ud _ _ _ _ hd;obtain⟨u,hu,ru⟩:=r1.get hx;refine⟨⟨xs,u,s1,hu⟩,?_⟩;rintro w' H' ⟨p,x',hp,rfl,c1,rfl⟩;have ex:x'=u:=Bg ((c1 xs s1).symm.trans hu);subst ex;rw[DF];exact⟨Fu hp (.tup [.int i,x']),λB hB aB=>JR aB hp ⟨rfl,LZ ru k hB,trivial⟩⟩
section
variable{X:Cx}{CL:ClA}{W:XW}{pos p:AJ}{a:Am}{fa:Rho->R D}
theorem kB(ha:SE X CL W a fa)(hg:Gl X "enumerate")(hm:X.mg "enumerate" = Af)(hs:Ar [a] X.env=[(Ad,eval a X.env)]):
  SI X CL W (.Tuple es n tpos) (.Call (.Name "enumerate" p) [a] [] pos) (λZ=>(fa Z).bind λx=>(Co x).bind λxs=>.ok (Et 0 xs)):=
 λA=>PI.weak (lK hg hm (DL (ha A) Fh hs) hs) λY H R ⟨hA,Z,g,q⟩=>⟨hA,Z,g,E4.ex q λd v H1 _ s1 r1 p1=>by
  cases e1:Co d with
  |bad=>rw[e1]at p1;exact p1.elim
  |exn z=>exact absurd e1 (by cases d<;>simp[Co])
  |ok ds=>
   rw[e1]at p1;obtain⟨t,c,xs,rfl,k1,rs⟩:=QS r1 e1;exact⟨t,c,xs,rfl,k1 H1 (Kp.of (AB.refl H1)),λhz=>p1 _ H1 (AB.refl H1) (dZ k1 rs) (by rw[PV,<-rs.length];exact hz)⟩⟩
end
noncomputable abbrev Sh(h:AF)(z TI TO:Ah)(f0 f1:Aj):Prop:=h.get? z=Ab { cls:=.type "zip",dict:=Af,data:=.fields #[f0,f1,.bool Ad,.ref TI,.ref TO],slots:=#[] }
noncomputable abbrev Si(h:AF)(T:Ah)(a b c:Aj):Prop:=h.get? T=Ab { cls:=.type "tuple",data:=.seq #[a,b,c] }
section
variable{prog:AO}{w:AW}{A:AZ}{E:Vq}{s:Aq}
def Z_3(t1 t2 t3:Ai)(I l1 l2 l3 i:Ag)(h:AF):Prop:=Si h (I+3) (.ref (I+0)) (.ref (I+1)) (.ref (I+2))/\EI t1 h (I+0) l1 i/\EI t2 h (I+1) l2 i/\EI t3 h (I+2) l3 i/\(∃ a b c,Si h (I+4) a b c) /\
 (Sh h (I+5) (I+3) (I+4) .none (.bool Ad)\/∃(T1:Ag)(f1:Ai),Sh h (I+5) (I+3) (I+4) (Ei T1) (.bool f1))
end
section
variable{prog:AO}{w:AW}{A:AZ}{R:Ia->Aq->Prop}
theorem Ev.at'(z:Ev t h l its)(k:∀ o,h.get? l=Ab o->h2.get? l=Ab o):Ev t h2 l its:=by
 cases t with
 |true=>exact PySem.Heap.IsTuple.at z k
 |false=>exact PySem.Heap.IsList.at z k
theorem Z_3.at'{t1 t2 t3:Ai}{I l1 l2 l3 i:Ag}{h h2:AF}(z:Z_3 t1 t2 t3 I l1 l2 l3 i h)(k:∀ j,j<=5->∀ o,h.get? (I+j)=Ab o->h2.get? (I+j)=Ab o):Z_3 t1 t2 t3 I l1 l2 l3 i h2:=by
 obtain⟨zI,i1,i2,i3,⟨a,b,c,hO⟩,zz⟩:=z;exact⟨k 3 (by decide) _ zI,i1.at' λo q=>k 0 (by decide) o q,i2.at' λo q=>k 1 (by decide) o q,i3.at' λo q=>k 2 (by decide) o q,⟨a,b,c,k 4 (by decide) _ hO⟩,zz.imp (k 5 (by decide) _) λ⟨T1,f1,hz⟩=>⟨T1,f1,k 5 (by decide) _ hz⟩⟩
end
section
variable{prog:AO}{w:AW}{A:AZ}{E:Vq}{s:Aq}
end
theorem Z_3.ty{t1 t2 t3:Ai}{I l1 l2 l3 i:Ag}(z:Z_3 t1 t2 t3 I l1 l2 l3 i s.heap):s.TypeIs (.ref (I+5)) "zip" := by
 obtain⟨_,_,_,_,_,hz|⟨_,_,hz⟩⟩:=z
 .exact⟨_,hz,rfl⟩
 .exact⟨_,hz,rfl⟩
theorem Z_3.lt{t1 t2 t3:Ai}{I l1 l2 l3 i:Ag}(z:Z_3 t1 t2 t3 I l1 l2 l3 i s.heap):I+5<s.heap.objs.size:=by
 obtain⟨o,h,_⟩:=z.ty;exact AH h
section
variable{prog:AO}{w:AW}{A:AZ}{E:Vq}{s:Aq}
end
section
variable{X:Cx}{CL:ClA}{W:XW}{pos p pos' p':AJ}{a b c:Am}{fa fb fc:Rho->R D}
end
section
variable{X:Cx}{CL:ClA}{W:XW}{pos p tpos:AJ}{a b c:Am}{fa fb fc:Rho->R D}{x:Ak}
end
section
variable{X:Cx}{CL:ClA}{W:XW}{a:Am}{fa:Rho->R D}
end
section
variable{X:Cx}{CL:ClA}{W:XW}{o o' e:Am}{fe:Rho->R D}{i j:Ag}{apos cpos apos' cpos' pos:AJ}
end
section
variable{X:Cx}{CL:ClA}{W:XW}
end
section
variable{X:Cx}
variable{CL:ClA}{W:XW}{pos p pos' p':AJ}{a b:Am}{fa fb:Rho->R D}
end
section
variable{X:Cx}{CL:ClA}{W:XW}{e o o' k l:Am}{fe:Rho->R Ov.D}{i ik il:Ag}{pos spos spos' tpos:AJ}{kt:Ag}
end
section
variable{prog:AO}{w:AW}{A:AZ}{E:Vq}{s:Aq}
theorem S8{it t:Ah}{items:A7 Aj}(hne:t≠it):∀(n i:Ag)(s:Aq)(Q:Ac Aj->Aq->Prop),s.heap.IsListIter it t i->s.heap.IsList t items->i+n<=items.size->(∀ h',h'.IsListIter it t (i+n)->DG it s.heap h'->Q ((items.toList.drop i).take n) {s with heap:=h'})->Az (model prog w) A (draw (.ref it) n) Q E s
 |0,i,s,Q,hit,_,_,hQ=>by
  show Az _ _ (pure []) Q E s;exact AC (by simpa using hQ s.heap hit (YZ ..))
 |n+1,i,s,Q,hit,ht,hle,hQ=>by
  have hlt:i<items.size:=by omega
  show Az _ _ (Ik (.ref it) >>= _) Q E s;refine An (ZL hit ht (x:=items[i]) (by simp[hlt]) λh₁ hit₁ hs₁=>?_)
  refine An (CH (S8 hne n (i+1) _ _ hit₁ (ht.extBut hs₁.extBut hne) (by omega) λh₂ hit₂ hs₂=>AC ?_))
  have hd:items.toList.drop i=items[i]::items.toList.drop (i+1):=by simp[Fi,hlt]
  have:=hQ h₂ (by rw[show i+(n+1)=i+1+n by omega];exact hit₂) (hs₁.trans hs₂)
  rw[hd,List.take_succ_cons]at this;exact this
theorem cC{t:Ah}{Q:Ac Aj->Aq->Prop}(hh:A.handled=Af)(ht:s.heap.IsList t items)(hQ:∀ h',HL s.heap.objs.size s.heap h'->Q items.toList {s with heap:=h'}):Az (model prog w) A (unpackItems (.ref t) items.size Af) Q E s:=by
 have hlt:t≠s.heap.objs.size:=by obtain⟨o,ho,_⟩:=ht;exact Be (AH ho)
 have htp:(s.heap.push { cls:=.type "list_iterator",data:=.fields #[.ref t,.int 0 0] }).IsList t items:=by
  obtain⟨o,ho,r⟩:=ht;exact⟨o,Au _ ho,r⟩
 unfold unpackItems;refine An ?_
 .unfold notIterableAtAll;refine An (wpAny_specialOf ht.typeIs slot_list_iter.lookup ?_);refine AC ?_;simp only[W8,IM];refine An (CH (EJ ht ?_));refine An (CH (S8 hlt items.size 0 _ _ ⟨_,AI _ rfl,rfl,rfl⟩ htp (by omega) λh₁ hit₁ hs₁=>?_))
  have hall:List.take items.size (List.drop 0 items.toList)=items.toList:=by
   rw[Xp];exact EB (by simp)
  rw[hall];rw[Ay (by simp)]
  have ht₁:h₁.IsList t items:=htp.extBut hs₁.extBut hlt;refine An (CH (ZK hh hit₁ ht₁ (by simp) λh₂ he₂=>?_))
  simp only[Option.isSome_none,W8,IM];refine AC (hQ h₂ λb o hb e=>he₂ b o hb (hs₁.extBut b o hb (Au _ e)))
theorem bX{elts:Ac Am}{x1}{t:Ah}{Q:GJ->Aq->Prop}(hh:A.handled=Af)(ht:s.heap.IsList t items) (hn:(B9 elts env).length=items.size) (hstar:(B9 elts env).findIdx? (·.1)=Af) (h:∀ h',HL s.heap.objs.size s.heap h'->Az (model prog w) A (assignInOrder ((B9 elts env).map (·.2)) items.toList) Q E {s with heap:=h'}):Az (model prog w) A (assign (.Tuple elts x1 pos) env (.ref t)) Q E s:=by
 rw[assign_Tuple];refine An (G7 ?_);unfold unpack;rw[hn,hstar];exact An (CH (cC hh ht h))
end
section
variable{X:Cx}{pos:AJ}{CL:ClA}
def gSq(K:Fg)(n:Ag)(t:TGs):TG:=λv Y H Q=>Ls K n t v Y H Q\/∃ a xs,v=.ref a/\SqL K H a xs/\xs.length=n/\t xs Y H Q
theorem zD{k:Ag}{t:TGs}(hc:X.calm=Aa)(h:PGs X es t)(hn:(B9 es X.env).length=n)(hst:(B9 es X.env).findIdx? (·.1)=Af):PG X (.Tuple es k pos) (gSq X.K n t):=by
 intro pI s Y H v u Q I r hw;rcases hw with hw|hw
 .exact QF hc h hn hst pI s Y H v u Q I r hw
 .obtain⟨a,xs,e1,hq,hl,hw⟩:=hw;subst e1;cases r;obtain⟨its,rv,ht,hz⟩:=I.list hq;refine bX (I.ok.hd hc) ht.isList (by simp[hn,<-hl,rv.length]) hst λh' hx=>?_
  have I1:Inv X pI Y H {s with heap:=h'}:=I.kept (t':=s.toks) λb o e=>hx b o (Be (AH e)) e
  exact h pI _ Y H xs _ Q I1 (by simpa using rv) hw
end
section
variable{X:Cx}{CL:ClA}{W:XW}
end
end Ov
namespace Ov
open PySem PySem.W PyProof.Rows
variable{p:A7 Ag}{m:Ag}
def Kr{α:Type}(lt:Ag->Ag->Ai)(n:Ag):KasT α->(α->Prop)->Prop
 |.ret a,Q=>Q a
 |.ask i j k,Q=>i<n/\j<n/\Kr lt n (k (lt i j)) Q
theorem Kr.mono{α:Type}{lt:Ag->Ag->Ai}{n:Ag}{Q Q':α->Prop}:∀{t:KasT α},Kr lt n t Q->(∀ a,Q a->Q' a)->Kr lt n t Q'
 |.ret _,h,k=>k _ h
 |.ask i j f,h,k=>⟨h.1,h.2.1,Kr.mono (t:=f (lt i j)) h.2.2 k⟩
theorem Kr.bind{α β:Type}{lt:Ag->Ag->Ai}{n:Ag}{f:α->KasT β}{Q:β->Prop}:∀{t:KasT α},Kr lt n t (λa=>Kr lt n (f a) Q)->Kr lt n (t.bind f) Q
 |.ret _,h=>h
 |.ask i j k,h=>⟨h.1,h.2.1,Kr.bind (t:=k (lt i j)) h.2.2⟩
structure Sto (lt:Ag->Ag->Ai) (n:Ag):Prop where
 tr:∀ i j k,i<n->j<n->k<n->lt i j=Aa->lt j k=Aa->lt i k=Aa
 tot:∀ i j,i<n->j<n->i≠j->lt i j=Ad->lt j i=Aa
 asy:∀ i j,i<n->j<n->lt i j=Aa->lt j i=Ad
noncomputable def at0(p:A7 Ag)(x:Ag):Ag:=p.getD x 0
structure Pm (n:Ag) (p:A7 Ag):Prop where
 sz:p.size=n
 lt:∀ x,x<n->at0 p x<n
 inj:∀ x y,x<n->y<n->at0 p x=at0 p y->x=y
section
variable{lt:Ag->Ag->Ai}{n:Ag}
def Ou(lt:Ag->Ag->Ai)(p:A7 Ag)(m:Ag):Prop:=∀ x y,x<y->y<m->lt (at0 p x) (at0 p y)=Aa
def Op(lt:Ag->Ag->Ai)(p:A7 Ag)(m:Ag):Prop:=∀ x y,x<y->y<m->lt (at0 p y) (at0 p x)=Aa
theorem Ou.succ(S:Sto lt n)(hp:Pm n p)(h1:1<=m)(hm:m<n)(h:Ou lt p m)(e:lt (at0 p (m-1)) (at0 p m)=Aa):Ou lt p (m+1):=λx y hxy hy=>by
 by_cases hym:y<m
 .exact h x y hxy hym
 .have:y=m:=by omega
  subst this;by_cases hx:x=y-1
  .rw[hx];exact e
  .exact S.tr _ _ _ (hp.lt _ (by omega)) (hp.lt _ (by omega)) (hp.lt _ hm) (h x (y-1) (by omega) (by omega)) e
theorem Op.succ(S:Sto lt n)(hp:Pm n p)(h1:1<=m)(hm:m<n)(h:Op lt p m)(e:lt (at0 p m) (at0 p (m-1))=Aa):Op lt p (m+1):=λx y hxy hy=>by
 by_cases hym:y<m
 .exact h x y hxy hym
 .have:y=m:=by omega
  subst this;by_cases hx:x=y-1
  .rw[hx];exact e
  .exact S.tr _ _ _ (hp.lt _ hm) (hp.lt _ (by omega)) (hp.lt _ (by omega)) e (h x (y-1) (by omega) (by omega))
end
section
variable{prog:AO}{w:AW}{A:AZ}{E:Vq}{κ:SortKind}{it:A7 Keyed}
end
section
variable{lt:Ag->Ag->Ai}{n:Ag}
end
def Lb(h:AF)(v:Aj)(r:Ac Ae):Prop:=∃ a its,v=.ref a/\Ko h a its/\CY its.toList r/\r≠[]
theorem Lb.kept{h h':AF}{v:Aj}{r:Ac Ae}(t:Lb h v r)(k:∀ b o,h.get? b=Ab o->h'.get? b=Ab o):Lb h' v r:=by
 obtain⟨a,its,e,⟨o,ho,q⟩,i,n⟩:=t;exact⟨a,its,e,⟨o,k _ _ ho,q⟩,i,n⟩
noncomputable def D9:Ac Ae->Ac Ae->Ai
 |[],[]=>Ad
 |[],_::_=>Aa
 |_::_,[]=>Ad
 |x::xs,y::ys=>if x=y then D9 xs ys else decide (x<y)
section
variable{prog:AO}{w:AW}{A:AZ}{E:Vq}{s:Aq}
noncomputable def ltR(rs:Ac (Ac Ae))(i j:Ag):Ai:=D9 (rs.getD i []) (rs.getD j [])
end
end Ov
section
namespace Ov
noncomputable def tI(r:Ac Ae):D:=.tup (r.map D.int)
theorem Tv:∀(r q:Ac Ae),ltD.ltDs (ltD 0) (r.map D.int) (q.map D.int)=D9 r q
 |[],[]=>rfl
 |[],_::_=>rfl
 |_::_,[]=>rfl
 |x::r,y::q=>by
  have e:ltD.ltDs (ltD 0) ((x::r).map D.int) ((y::q).map D.int)=if (x==y)=Aa then ltD.ltDs (ltD 0) (r.map D.int) (q.map D.int) else decide (x<y):=rfl
  have e':D9 (x::r) (y::q)=if x=y then D9 r q else decide (x<y):=rfl
  rw[e,e',Tv r q];by_cases h:x=y<;>simp[h]
theorem QI(r q:Ac Ae):ltD 1 (tI r) (tI q)=D9 r q:=Tv r q
theorem UJ:∀{xs:Ac D},xs.all (rkD 0)=Aa->∃ r:Ac Ae,xs=r.map D.int
 |[],_=>⟨[],rfl⟩
 |x::xs,h=>by
  rw[DS,Al]at h;obtain⟨r,e⟩:=UJ h.2;cases x with
  |int i=>exact⟨i::r,by rw[e];rfl⟩
  |_=>cases h.1
theorem yN{d:D}(h:rkD 1 d=Aa):∃ r,d=tI r:=by
 cases d with
 |tup xs=>
  obtain⟨r,e⟩:=UJ (xs:=xs) h;exact⟨r,by rw[e];rfl⟩
 |_=>cases h
theorem Qp:∀{xs:Ac D},xs.all (λd=>rkD 1 d && !eqD d (.tup []))=Aa->∃ rs:Ac (Ac Ae),xs=rs.map tI/\∀ r∈rs,r≠[]
 |[],_=>⟨[],rfl,λr h=>by cases h⟩
 |x::xs,h=>by
  rw[DS,Al,Al]at h;obtain⟨rs,e,hn⟩:=Qp h.2;obtain⟨r,e1⟩:=yN h.1.1;refine⟨r::rs,by rw[e,e1];rfl,λq hq=>?_⟩
  rcases AD.mp hq with rfl|hq
  .intro z;have h2:=h.1.2;rw[e1,z]at h2;cases h2
  .exact hn q hq
open PySem PySem.Spec PyProof.Rows L2
section
variable{X:Cx}{CL:ClA}{W:XW}
theorem SZ{K:Fg}{H:Hp}{A:Ah->Prop}:∀{is:Ac Ae}{ys:Ac V},Reps K CL H A ys (is.map D.int)->ys=is.map V.int
 |[],[],_=>rfl
 |[],_::_,r=>r.elim
 |_::_,[],r=>r.elim
 |i::is,y::ys,r=>by
  have e1:y=.int i:=r.1;rw[SZ r.2,e1];rfl
theorem Uz:∀{is:Ac Ae}{its:Ac Aj},A6 (is.map V.int) its->CY its is
 |[],_,h=>by cases h;exact .nil
 |i::is,_,h=>by
  cases h with
  |cons h1 h2=>
   obtain⟨t,rfl⟩:=h1;exact .cons i t (Uz h2)
theorem PC{pI:Pn}{s:Aq}{Y:Ac (Ao V)}{H:Hp}{A:Ah->Prop}(I:Inv X pI Y H s):∀{rs:Ac (Ac Ae)}{ys:Ac V}{its:Ac Aj},Reps X.K CL H A ys (rs.map tI)->A6 ys its->(∀ r∈rs,r≠[])->∀(i:Ag)(v:Aj)(r:Ac Ae),its[i]?=Ab v->rs[i]?=Ab r->Lb s.heap v r
 |[],_,_,_,_,_,i,v,r,_,e=>by cases e
 |_::_,[],_,h,_,_,_,_,_,_,_=>h.elim
 |q::rs,y::ys,_,h,hv,hn,i,v,r,e1,e2=>by
  cases hv with
  |cons h1 h2=>
   cases i with
   |succ i=>exact PC I h.2 h2 (λr m=>hn r (Aw _ m)) i v r e1 e2
   |zero=>
    cases e1;cases e2;have h0:Cj X.K CL H A y (.tup (q.map D.int)):=.inl h.1;obtain⟨a,xs,rfl,_,sq,rx⟩:=h0.tup_of;obtain⟨its,hi,ht,_⟩:=I.tuple sq;rw[SZ rx]at hi;cases h1;exact⟨a,its.toArray,rfl,ht,Uz hi,hn q (AA ..)⟩
end
end Ov
end
section
namespace Ov
open PySem PySem.Spec PyProof.Rows
section
variable{t:SetTable}{hashAt:Ag->Ae}{h:Ae}
noncomputable def stand(i b:Ag):SetTable.Probe:=⟨i,0,i,b,Af⟩
end
section
variable{prog:AO}{w:AW}{A:AZ}{E:Vq}{s:Aq}{K:Type} [DecidableEq K] {knd:KeyKind prog w K}
end
section
variable{prog:AO}{w:AW}{A:AZ}{R:Ia->Aq->Prop}{I:Ah}{fp wr:Ac Ah}{G:A7 EC->A7 EC->Prop}{n:Ag}{P:Ag->Aj->Prop}{St:Ag->Aq->Prop}
end
section
variable{prog:AO}{w:AW}{A:AZ}{E:Vq}{s:Aq}
end
end Ov
end
namespace Ov
open PySem PySem.Spec PyProof.Rows L2
variable{w:AW}{r:Ac Ae}{K:Fg}{H H':Hp}{A B:Ah->Prop}{h h':AF}{P:AO}{a T' C C':Ah}{oe:C9}{vs:A7 Aj}{Q:GJ->Aq->Prop}{a0 oc:Aj}{X:Cx}{pI:Pn}{Y Y0:L2.St}{m:Ak->Ao Aj}{x g qual x0 x1 x2:Ak}{v:Ao Aj}{M:Hf}{tk:Cr}{φ:AF->Prop}{CL:ClA}{Fz:Ah->HO->Prop}{Z:Rho}{W:XW}{hs:Ac AN}{h0:AN}{fh:Rho->O}{up:Ag->Ac Ag}{pos p pos' np:AJ}{CX:CXT}{k c kk l:Ag}{fd:BO}{ps:Ac Ak}{sp:Sp}{fr:Ai}{F:Ac D->R D}{Xw:Vq}{fs:Rho->R (Ac D)}{xn:Ag->Ac D->R Ex}{d:D}{fc:Rho->R Ai}{fe:Rho->R D}{α:Type}{ts:Ac Ag}{as:Es}{xs ys:Ac Am}{env:Ch}{scope:B6}{ops:Ac CJ}{osl:A7 (Ao Aj)}
section
variable{X:Cx}
def Oj(K:Fg)(H:Hp):Ac V->Ac (Ac Ae)->Prop
 |[],[]=>Hq
 |x::xs,k::ks=>(∃ b,x=.ref b/\SqT K H b (k.map V.int))/\Oj K H xs ks
 |_,_=>AU
theorem Oj.length{K:Fg}{H:Hp}:∀{xs:Ac V}{ks:Ac (Ac Ae)},Oj K H xs ks->xs.length=ks.length
 |[],[],_=>rfl
 |_::_,_::_,h=>congrArg (· + 1) (Oj.length h.2)
 |[],_::_,h=>h.elim
 |_::_,[],h=>h.elim
variable{CL:ClA}{W:XW}{pos p pos' p':AJ}{a:Am}{fa:Rho->R D}
end
section
theorem oE(l:Ah)(items:A7 Aj)(n:Ag)(b:Ah)(items2:A7 Aj)(n2:Ag)(dd:Ao Ah)(sl:A7 (Ao Aj))(hs0:¬(!items.isEmpty&&Dl (items.size+items2.size))=Aa)(hs1:items.size<=sizeLine)(hs2:items.size+items2.size<=sizeLine+1):
  LK (Builtin.«list.extend» ⟨[.ref l,.ref b],[]⟩) (λ_ R s=>s.heap.get? l=Ab { cls:=.type "list",dict:=Af,data:=.seq items n,slots:=#[] }/\s.heap.get? b=Ab { cls:=.type "tuple",dict:=dd,data:=.seq items2 n2,slots:=sl }/\R (.ok (.ret D5)) {s with heap:=s.heap.update l (Gi λx=>x++items2),toks:=s.toks}):=
 .of_wp λprog w A R s h=>by
  obtain⟨hp,g,d,tk,os⟩:=s;obtain⟨hl,hb,h⟩:=h;have f1:=AutoSeq1.idx_int;have f2:=Fs;have f3:=AutoSeq1.sub_list_list;have f4:=AutoSeq1.sub_tuple_list;have f5:=AutoSeq1.sub_list_tuple;
  have hz':(items++items2).size<=sizeLine+1:=by rw[Array.size_append];exact hs2
  wp_walk using (wpAny_updateSeq hl rfl (hz:=hs1) (_hz':=hz')),X7 hl,X7 hb;exact⟨_,rfl,h⟩
end
section
variable{X:Cx}
def yW(K:Fg):V->Ac V->Hp->VK->Prop:=λx vs H Q=>∃ l b xs zs,x=.ref l/\vs=[.ref b]/\H l=Ab (.lst xs)/\SqT K H b zs/\xs.length+zs.length<=sizeLine/\Q .non (upd H l (.lst (xs++zs)))
theorem pD:MtM X "list.extend" (yW X.K):=by
 intro pI s Y H x vs v us Q I rx rv h;obtain⟨l,b,xs,zs,rfl,rfl,hH,hB,hz,q⟩:=h;cases rx;obtain⟨u,rfl,ru⟩:=rv.one;cases ru;obtain⟨z,its,n,r,hl,e⟩:=I.lstM hH;obtain⟨its2,r2,⟨o,e2,c2,n2,d2⟩,z2⟩:=I.tuple hB;have hl2:=r2.length;obtain⟨oc,od,oda,os⟩:=o;dsimp only at c2 d2;subst c2 d2;have hsz:its.toArray.size+its2.toArray.size<=sizeLine:=by rw[AE,AE];omega
 have hlong:¬ (!its.toArray.isEmpty&&Dl (its.toArray.size+its2.toArray.size))=Aa:=by
  rw[Ut hsz,Fw];exact Av
 refine Kt EM ⟨_,e,rfl⟩ YO (YK _ _)
  (oE l its.toArray n b its2.toArray n2 od os hlong (by rw[AE];omega) (by omega)) ⟨e,e2,?_⟩
 refine⟨.non,_,I.lset (its':=its++its2) hH e (by simp) (r.append r2) ?_,rfl,q⟩
 rw[AM];omega
variable{CL:ClA}{W:XW}{o e:Am}{fe:Rho->R D}{i:Ag}{apos cpos pos:AJ}
theorem jT(ho:PE X o (Gx i))(he:ST X CL W e fe)(hbase:DX o "extend" X.env (eval o X.env)=eval o X.env)(hfew:((Bv cpos (Ar [e] X.env)).all (λx=>!x.1)&&(FZ cpos (ED [] X.env)).all (λx=>x.1.isSome)&&decide ([e].length+([]:Ac CK).length+(if ([]:Ac CK).isEmpty then 0 else 1)<30))=Aa)(hline:(apos.endLine==cpos.line)=Aa)(hs:Ar [e] X.env=[(Ad,eval e X.env)])(hsw:Cd (.Call (.Attribute o "extend" apos) [e] [] cpos) Af pos.line X.env=pure Ad):
  SS X CL W (.Expr (.Call (.Attribute o "extend" apos) [e] [] cpos) pos) (λZ=>O.of Z (CC Z i) λxs=>O.of Z (fe Z) λx=>O.of Z ((CD .Add x (.tup [])).bind λy=>biD .list [y]) λd=>O.of Z (Lp d) λys=>if BY (xs.length+ys.length)=Aa then .next (Z.set i (Ab (.lst (xs++ys),Aa))) else .bad):=λFz B pI s Y H D I ⟨Z,x,p⟩=>by
 refine Jg (NB En EM YY pD ho (DL (he (Bi B Z Y)) Fh hs) hbase hfew hline hs rfl) hsw pI s Y H D I ?_;dsimp only at p;cases e1:CC Z i with
 |bad=>rw[e1]at p;exact p.elim
 |exn z=>exact(MZ e1).elim
 |ok ds=>
  rw[e1,O.of_ok]at p;have hi:=Nl e1;obtain⟨a,xs,ds',q,e2,ha,hh,r⟩:=x.good.owL hi;cases e2;refine⟨_,q,.inl ⟨rfl,xs,SqL.of hh⟩,x.aok,Z,x.good,Bs.ex x p λd v H' _ s rv x' q'=>?_⟩
  cases d with
  |tup es=>
   obtain⟨b,ys,rfl,h0,h1,rs⟩:=Cj.tup_of rv;have eb:CD .Add (.tup es) (.tup [])=if (!es.isEmpty&&BY (es.length+0))=Aa then .ok (.tup (es++[])) else .bad:=rfl
   rw[eb]at q';split at q'
   .rw[R.bind_ok,show biD .list [.tup (es++[])]=.ok (.lst (es++[])) from rfl,O.of_ok,Tj,O.of_ok,Bp]at q'
    split at q'
    .rename_i hz;refine⟨a,b,xs,ys,rfl,rfl,s _ _ hh,h1,?_,q' _ _ (x'.upd hi q ((r.same s).append rs))⟩;rw[r.length,rs.length];exact GK hz
    .exact q'.elim
   .exact q'.elim
  |_=>exact q'.elim
end
section
open PySem.AutoSeq1 (wpAny_loadPart')
theorem Uy:∀{vs us:Ac Aj}{r q:Ac Ae},CY vs r->CY us q->∀ y x rest,vs.zip us=(y,x)::rest->∃ i j ti tj vs' us' r' q',y=.int i ti/\x=.int j tj/\rest=vs'.zip us'/\r=i::r'/\q=j::q'/\vs=y::vs'/\us=x::us'/\CY vs' r'/\CY us' q'
 |_,_,_,_,.cons i ti h1,.cons j tj h2,y,x,rest,e=>by
  cases e;exact⟨i,j,ti,tj,_,_,_,_,rfl,rfl,rfl,rfl,rfl,rfl,rfl,h1,h2⟩
 |_,_,_,_,.nil,_,_,_,_,e=>by cases e
 |_,_,_,_,.cons _ _ _,.nil,_,_,_,e=>by cases e
theorem eD(l b:Ah)(items items2:A7 Aj)(n n2:Ag)(dd dd2:Ao Ah)(sl sl2:A7 (Ao Aj))(r q:Ac Ae):
  LK (Builtin.«tuple.__lt__» ⟨[.ref l,.ref b],[]⟩)
   (λA R s=>s.heap.get? l=Ab { cls:=.type "tuple",dict:=dd,data:=.seq items n,slots:=sl }/\s.heap.get? b=Ab { cls:=.type "tuple",dict:=dd2,data:=.seq items2 n2,slots:=sl2 } /\
    CY items.toList r/\CY items2.toList q/\R (.ok (.ret (.bool (D9 r q)))) s):=
 .of_wp λprog w A R s h=>by
  obtain⟨hp,g,d,tk,os⟩:=s;obtain⟨hl,hb,h1,h2,h⟩:=h;have f2:=Fs
  wp_walk using wpAny_loadPart' hl,wpAny_loadPart' hb,ZH _ (λrest b s'=>b.1=Af/\s'=⟨hp,g,d,tk,os⟩/\∃ vs us r' q',rest=vs.zip us/\CY vs r'/\CY us q'/\D9 r' q'=D9 r q/\(decide (vs.length<us.length)=decide (items.size<items2.size))) _
  case turn=>
   rintro⟨y,x⟩ rest b s' ⟨hb',rfl,vs,us,r',q',hz,i1,i2,hx,hd⟩;obtain⟨i,j,ti,tj,vs',us',r'',q'',rfl,rfl,rfl,rfl,rfl,rfl,rfl,k1,k2⟩:=Uy i1 i2 _ _ _ hz.symm;refine An (Hn ?_);have hx':(if i=j then D9 r'' q'' else decide (i<j))=D9 r q:=hx
   by_cases e:i=j
   .rw[Ax e]at hx';rw[show (i==j)=Aa by simp[e]]
    wp_walk
    exact⟨rfl,rfl,vs',us',r'',q'',rfl,k1,k2,hx',by simpa using hd⟩
   .rw[Ay e]at hx';rw[show (i==j)=Ad by simp[e]]
    refine An (FC (An (wpAny_lt_int ?_)));rw[hx']
    wp_walk
    exact⟨_,rfl,h⟩
  case fin=>
   rintro⟨b1,b2⟩ s' ⟨hb',rfl,vs,us,r',q',hz,i1,i2,hx,hd⟩;simp only at hb';subst hb';have e:decide (items.size<items2.size)=D9 r q:=by
    rw[<-hd,<-hx];cases i1 with
    |nil=>cases i2 with
     |nil=>rfl
     |cons _ _ _=>simp[D9]
    |cons _ _ _=>cases i2 with
     |nil=>rfl
     |cons _ _ _=>cases hz
   wp_walk
   exact⟨_,rfl,by simpa [Yd,e] using h⟩
  case h=>
   exact⟨rfl,rfl,_,_,r,q,rfl,h1,h2,rfl,by simp⟩
theorem dJ(l b:Ah)(items items2:A7 Aj)(n n2:Ag)(dd dd2:Ao Ah)(sl sl2:A7 (Ao Aj))(r q:Ac Ae):
  LK (Builtin.«tuple.__gt__» ⟨[.ref l,.ref b],[]⟩)
   (λA R s=>s.heap.get? l=Ab { cls:=.type "tuple",dict:=dd,data:=.seq items n,slots:=sl }/\s.heap.get? b=Ab { cls:=.type "tuple",dict:=dd2,data:=.seq items2 n2,slots:=sl2 } /\
    CY items.toList r/\CY items2.toList q/\R (.ok (.ret (.bool (D9 q r)))) s):=
 .of_wp λprog w A R s h=>by
  obtain⟨hp,g,d,tk,os⟩:=s;obtain⟨hl,hb,h1,h2,h⟩:=h;have f2:=Fs
  wp_walk using wpAny_loadPart' hl,wpAny_loadPart' hb,ZH _ (λrest b s'=>b.1=Af/\s'=⟨hp,g,d,tk,os⟩/\∃ vs us r' q',rest=vs.zip us/\CY vs r'/\CY us q'/\D9 q' r'=D9 q r/\(decide (us.length<vs.length)=decide (items2.size<items.size))) _
  case turn=>
   rintro⟨y,x⟩ rest b s' ⟨hb',rfl,vs,us,r',q',hz,i1,i2,hx,hd⟩;obtain⟨i,j,ti,tj,vs',us',r'',q'',rfl,rfl,rfl,rfl,rfl,rfl,rfl,k1,k2⟩:=Uy i1 i2 _ _ _ hz.symm;refine An (Hn ?_);have hx':(if j=i then D9 q'' r'' else decide (j<i))=D9 q r:=hx
   by_cases e:i=j
   .rw[Ax e.symm]at hx';rw[show (i==j)=Aa by simp[e]]
    wp_walk
    exact⟨rfl,rfl,vs',us',r'',q'',rfl,k1,k2,hx',by simpa using hd⟩
   .rw[Ay (DP e)]at hx';rw[show (i==j)=Ad by simp[e]]
    refine An (FC (An (richCompare_gives (op:=.Gt) (Ku _ i ti) (Ku _ j tj) F.slot_int_gt F.entry_int_gt (F.args_int_gt_2 _ _) (gives_int_gt i j ti tj) nofun ?_)));rw[show decide (i>j)=_ from hx']
    exact An (AC (AC (AC ⟨_,rfl,h⟩)))
  case fin=>
   rintro⟨b1,b2⟩ s' ⟨hb',rfl,vs,us,r',q',hz,i1,i2,hx,hd⟩;simp only at hb';subst hb';have e:decide (items2.size<items.size)=D9 q r:=by
    rw[<-hd,<-hx];cases i1 with
    |nil=>cases i2 with
     |nil=>rfl
     |cons _ _ _=>rfl
    |cons _ _ _=>cases i2 with
     |nil=>simp[D9]
     |cons _ _ _=>cases hz
   wp_walk
   exact⟨_,rfl,by simpa [Yd,e] using h⟩
  case h=>
   exact⟨rfl,rfl,_,_,r,q,rfl,h1,h2,rfl,by simp⟩
noncomputable def bt2(mx:Ai)(r q:Ac Ae):Ai:=if mx then D9 r q else D9 q r
theorem U_4{prog:AO}{A:AZ}{E:Vq}{s:Aq}{u v:Aj}{q:Ac Ae}{Q:Vq}(mx:Ai)(hu:A.units<Bx)(h1:Lb s.heap u r)(h2:Lb s.heap v q)(h:Q (.bool (bt2 mx r q)) s):Az (model prog w) A (richCompare (if mx then .Gt else .Lt) v u) Q E s:=by
 obtain⟨a,xs,rfl,⟨⟨_,d1,_,l1⟩,ga,rfl,n,rfl⟩,ix,_⟩:=h1;obtain⟨b,ys,rfl,⟨⟨_,d2,_,l2⟩,gb,rfl,m,rfl⟩,iy,_⟩:=h2;cases mx with
 |true=>exact ZB (op:=.Gt) ⟨_,gb,rfl⟩ ⟨_,ga,rfl⟩ F.slot_tuple_gt F.entry_tuple_gt (F.args_tuple_gt_2 _ _) (dJ b a ys xs m n d2 d1 l2 l1 q r) ⟨gb,ga,iy,ix,⟨nofun,h⟩⟩ hu
 |false=>exact ZB (op:=.Lt) ⟨_,gb,rfl⟩ ⟨_,ga,rfl⟩ F.slot_tuple_lt F.entry_tuple_lt (F.args_tuple_lt_2 _ _) (eD b a ys xs m n d2 d1 l2 l1 q r) ⟨gb,ga,iy,ix,⟨nofun,h⟩⟩ hu
end
section
variable{prog:AO}{w:AW}{A:AZ}{R:Ia->Aq->Prop}{I S T:Ah}{u v:Aj}{c:Ag}{P:Ag->Aj->Prop}{St:Ag->AF->Prop}{s:Aq}{r q:Ac Ae}
end
section
variable{X:Cx}{CL:ClA}{W:XW}
theorem Cj.tI_rep{v:V}(h:Cj K CL H A v (tI r)):Rep K CL H A v (tI r):=by
 rcases h with h|⟨_,_,_,_,⟨_,_,_,e,_⟩|⟨_,_,_,e,_⟩⟩
 .exact h
 .cases e
 .cases e
theorem Vl(hu:X.A.units+64<Bx):OpD X CL W (B4 .Lt) Gw:=by
  intro A pI s Y H x y v u Q I rx ry ⟨hA,dx,dy,hx,hy,p⟩;unfold Gw at p;split at p
  · rename_i hk;obtain⟨rs',e,hn⟩:=Qp hk
    match rs',e,hn with
    |[a,b],e,hn=>
      cases e;have ts:=PC I (rs:=[a,b]) (ys:=[x,y]) (its:=[v,u]) ⟨hx.tI_rep,hy.tI_rep,trivial⟩ (.cons rx (.cons ry .nil)) hn;refine U_4 Ad (by omega) (ts 1 u b rfl rfl) (ts 0 v a rfl rfl) ?_
      have e2:bt2 Ad b a=ltD 1 (tI a) (tI b):=(QI a b).symm;rw[e2];exact⟨.bl _,H,I,rfl,p _ H (AB.refl H) rfl⟩
    |[],e,_=>cases e
    |[_],e,_=>cases e
    |_::_::_::_,e,_=>cases e
  · exact p.elim
end
def Om(e T:Ah)(cls:Aj)(dx:Ao Ah)(fl:Aj)(h:AF):Prop:=∃ oe vs oT ts a0,h.get? e=Ab oe/\oe.cls=cls/\oe.dict=dx/\vs[0]?=Ab a0/\oe.data=.fields vs/\vs[1]?=Ab (.ref T)/\T≠e/\h.get? T=Ab oT/\oT.data=.fields ts/\ts[3]?=Ab fl
noncomputable abbrev Fly(e T:Ah)(cls:Aj)(dx:Ao Ah)(h:AF):Prop:=Om e T cls dx D5 h
noncomputable def bf(C:Ah)(dx:Ao Ah)(t:Ah):C9:={cls:=.ref C,dict:=dx,data:=.fields #[.ref t,.none,.none,.none,.bool Ad,.none]}
structure Shift (ex fs:Ac Ah) (h h':AF):Prop where
 keep:∀ b o,h.get? b=Ab o->b∉ex->b∉fs->h'.get? b=Ab o
 slot:∀ b o,h.get? b=Ab o->b∈fs->∃ sl,h'.get? b=Ab {o with slots:=sl}
theorem Shift.trans{ex fs:Ac Ah}{h1 h2:AF}(a:Shift ex fs h h1)(b:Shift ex fs h1 h2):Shift ex fs h h2:=
 ⟨λc o q n m=>b.keep c o (a.keep c o q n m) n m,λc o q m=>by
  obtain⟨sl,e1⟩:=a.slot c o q m;obtain⟨sl',e2⟩:=b.slot c _ e1 m;exact⟨sl',e2⟩⟩
theorem ObjOk.isThere:∀(o:HO),L2.ObjOk P w H h a o->∃ ob,h.get? a=Ab ob
 |.lst _,x=>by obtain⟨_,_,_,_,e⟩:=x;exact⟨_,e⟩
 |.tup _,x=>by obtain⟨_,_,_,p⟩:=x;obtain⟨o,e,_⟩:=p;exact⟨_,e⟩
 |.dK _,x=>by obtain⟨_,_,_,_,o,_,_,e,_⟩:=x;exact⟨_,e⟩
 |.dT _,x=>by obtain⟨_,_,_,_,o,_,_,e,_⟩:=x;exact⟨_,e⟩
 |.set _ _,x=>by obtain⟨o,_,_,_,e,_⟩:=x;exact⟨_,e⟩
 |.ins _ _ _,x=>by obtain⟨_,_,_,e,_⟩:=x;exact⟨_,e⟩
 |.own _,x=>x
 |.xd _,x=>by obtain⟨_,⟨_,_,_,e,_⟩,_⟩:=x;exact⟨_,e⟩
 |.met _ _,x=>⟨_,x⟩
 |.rng _ _,x=>by obtain⟨_,_,_,e⟩:=x;exact⟨_,e⟩
 |.frz _ _,x=>⟨_,x.1⟩
 |.tbl _,x=>⟨_,x⟩
 |.ext _,x=>x.2.1
theorem M7(x:HOk P w H h)(e:h.get? a=Af):H a=Af:=by
 cases q:H a with
 |none=>rfl
 |some o=>
  obtain⟨ob,z⟩:=ObjOk.isThere o (x a o q);rw[e]at z;cases z
theorem HOk.shift{ex fs:Ac Ah}(x:HOk P w H h)(sh:Shift ex fs h h')(h1:∀ b∈ex,H b=Af)(h2:∀ b∈fs,H b=Af):HOk P w H h':=λa o e=>
 (x a o e).stay (λb u hb q=>by
  have hs:∃ v,H b=Ab v:=by
   rcases hb with rfl|hb
   .exact⟨_,e⟩
   .exact⟨_,hb⟩
  obtain⟨v,hv⟩:=hs;exact sh.keep b u q (λz=>by rw[h1 b z]at hv;cases hv) (λz=>by rw[h2 b z]at hv;cases hv)) (λ_ q=>q) λ_ _ q=>q
theorem Un.shift{fs0 fs ex:Ac Ah}{h0:AF}(u:Un fs0 [] H H' h0 h)(sh:Shift ex fs h h')(h1:∀ b∈ex,h0.get? b=Af)(h2:∀ b∈fs,b∈fs0\/h0.get? b=Af):Un fs0 [] H H' h0 h' where
 keep:=λb o q n hb hx=>sh.keep b o (u.keep b o q n hb hx) (λz=>by rw[h1 b z]at q;cases q) λz=>(h2 b z).elim hb λe=>by rw[e]at q;cases q
 slot:=λb o q n hb hx=>by
  obtain⟨sl,e1⟩:=u.slot b o q n hb hx;by_cases hf:b∈fs
  .obtain⟨sl',e2⟩:=sh.slot b _ e1 hf;exact⟨sl',e2⟩
  .exact⟨sl,sh.keep b _ e1 (λz=>by rw[h1 b z]at q;cases q) hf⟩
 free:=u.free
 there:=λb o q hx=>by
  obtain⟨o',e1⟩:=u.there b o q hx;by_cases hf:b∈fs
  .obtain⟨sl',e2⟩:=sh.slot b _ e1 hf;exact⟨_,e2⟩
  .exact⟨o',sh.keep b _ e1 (λz=>by rw[h1 b z]at q;cases q) hf⟩
 tups:=u.tups
 frzs:=u.frzs
 tbls:=u.tbls
theorem oP(f:A7 Aj->A7 Aj)(o:C9):(FU f o).dict=o.dict:=by
 obtain⟨c,d,dt,sl⟩:=o;cases dt<;>rfl
section
variable{M:Hf}{A:AZ}{E:Vq}{s:Aq}{env:Ch}{outer:Ac Ch}{L e T:Ah}{cls:Aj}{dx:Ao Ah}{base h:AF}
theorem Tp{hd:Aj}{nx:Ai}(hfr:A.frames=Ab (env::outer))(hf:env.frame=Ab L)(ff:s.heap.FunFrames base (env::outer))(he:s.heap.get? e=Ab oe)(dt:oe.data=.fields vs)(hz:1<vs.size)(hQ:∀ h' T' oT ts,h'.get? e=Ab (FU (·.setIfInBounds 1 (.ref T')) oe)->T'≠e->s.heap.get? T'=Af->h'.get? T'=Ab oT->oT.data=.fields ts->ts[3]?=Ab (Ei L)->Shift [e] (frs (env::outer)) s.heap h'->Q () {s with heap:=h'}):
  Az M A (do
   let fr <-frameOf env
   let pl <-entryPlaceOf L nx
   let en <-Yh hd fr .none (Ei L) .none pl
   setField (.ref e) 1 en) Q E s:=by
 have nf:e∉frs (env::outer):=λz=>by
  obtain⟨_,o,q,n⟩:=ff.mem z;rw[he]at q;cases q;exact n vs dt
 refine An (wpAny_frameOf_fun hfr ff hf λk1 so=>An (wpAny_entryPlaceOf λpl ip=>?_))
 obtain⟨sz,sm,sl⟩:=so;have e1:k1.get? e=Ab oe:=(sm e nf).trans he;unfold Yh;unfold newFields;refine An (CS ?_ (ip.sizeOk5 _ _ _ _ _));generalize hX:({ cls:=.type "traceback",dict:=Af,data:=.fields ([hd,.ref L,.none,Ei L,.none]++(if pl.isEmpty then GI 6 D5 else pl)).toArray }:C9)=ob
 have od:ob.data=.fields ([hd,.ref L,.none,Ei L,.none]++(if pl.isEmpty then GI 6 D5 else pl)).toArray:=by rw[<-hX]
 have nl:k1.objs.size≠e:=EL (AH e1);have e2:=Au ob e1;refine FD e2 dt hz ?_;have up:∀ b,b≠e->((k1.push ob).update e (FU (·.setIfInBounds 1 (.ref k1.objs.size)))).get? b=(k1.push ob).get? b:=λb nb=>C3 _ _ (DP nb)
 have lf:ob.isFreed=Ad:=by rw[<-hX];rfl
 refine hQ _ k1.objs.size ob _ (Dd _ e2 (EO (De dt _))) nl ?_ ((up _ nl).trans (AI k1 lf)) od ?_ ⟨λb o q n1 n2=>?_,λb o q hb=>?_⟩
 .rw[sz];exact Gg (AV _)
 .simp
 .have nb:b≠e:=λz=>n1 (by rw[z];exact AA)
  rw[up b nb];exact Au ob ((sm b n2).trans q)
 .obtain⟨sl',q'⟩:=sl b o q;have nb:b≠e:=λz=>nf (z ▸ hb)
  exact⟨sl',(up b nb).trans (Au ob q')⟩
theorem S7{oT:C9}{ts:A7 Aj}{fl:Aj}(hc:oe.cls=cls)(hx:oe.dict=dx)(h0:vs[0]?=Ab a0)(dt:oe.data=.fields vs)(hz:1<vs.size)(g:h'.get? e=Ab (FU (·.setIfInBounds 1 (.ref T')) oe))(ne:T'≠e)(gT:h'.get? T'=Ab oT)(dT:oT.data=.fields ts)(f3:ts[3]?=Ab fl):Om e T' cls dx fl h':=
 ⟨_,_,oT,ts,a0,g,(Y_1 _ _).trans hc,(oP _ _).trans hx,by rw[Array.getElem?_setIfInBounds_ne (by decide)];exact h0,De dt _,by simp[hz],ne,gT,dT,f3⟩
theorem K1{i:Ag}{v:Aj}(q:vs[i]?=Ab v):i<vs.size:=(Array.getElem?_eq_some_iff.mp q).1
theorem UE(hfr:A.frames=Ab (env::outer))(hf:env.frame=Ab L)(ff:s.heap.FunFrames base (env::outer))(fl:Fly e T cls dx s.heap)(hQ:∀ h' T',Om e T' cls dx (Ei L) h'->Shift [e,T] (frs (env::outer)) s.heap h'->s.heap.get? T'=Af->Q () {s with heap:=h'}):Az M A (G2 (.ref e) env) Q E s:=by
 obtain⟨oe,vs,oT,ts,a0,he,hc,hx,h0,dt,h1,ne,hT,dT,h3⟩:=fl;have z3:=K1 h3;unfold G2;simp only[hf];refine An (BP he dt h1 ?_);rw[Ax (by simp:(Du T != D5)=Aa)]
 refine An (BP hT dT h3 ?_);rw[Ay (by simp[Ei]:¬ (D5==Ei L)=Aa)]
 refine An (FD hT dT z3 ?_);have up:∀ b,b≠T->(s.heap.update T (FU (·.setIfInBounds 3 D5))).get? b=s.heap.get? b:=λb nb=>C3 _ _ (DP nb)
 have rcd:∀ b o,s.heap.get? b=Ab o->(∀ us,o.data≠.fields us)->b≠T:=λb o q n z=>by
  rw[z,hT]at q;cases q;exact n ts dT
 refine Tp (base:=base) hfr hf (ff.of_keeps λb o q n=>⟨o,(up b (rcd b o q n)).trans q,rfl⟩) ((up e (DP ne)).trans he) dt (K1 h1) λh' T' oT' ts' g nT gn gT dT' f3 sh=>?_
 have T0:s.heap.get? T'=Af:=by
  by_cases z:T'=T
  .rw[z]at gn;rw[Dd _ hT (EO (De dT _))]at gn;cases gn
  .rw[<-up T' z];exact gn
 refine hQ h' T' (S7 hc hx h0 dt (K1 h1) g nT gT dT' f3) ⟨λb o q n1 n2=>?_,λb o q hb=>?_⟩ T0
 .simp only[AD,Bm,CV,E8]at n1;exact sh.keep b o ((up b n1.2).trans q) (by simp[n1.1]) n2
 .obtain⟨_,o',q',n⟩:=ff.mem hb;rw[q]at q';cases q';exact sh.slot b o ((up b (rcd b o q n)).trans q) hb
theorem Nd{fv:Aj}(fl:Om e T cls dx fv s.heap)(hQ:∀ h',Fly e T cls dx h'->(∀ b o,b≠T->s.heap.get? b=Ab o->h'.get? b=Ab o)->Q () {s with heap:=h'}):Az M A (HI (.ref e) Af) Q E s:=by
 obtain⟨oe,vs,oT,ts,a0,he,hc,hx,h0,dt,h1,ne,hT,dT,h3⟩:=fl;have z3:=K1 h3;unfold HI;refine An (BP he dt h1 ?_);rw[Ax (by simp:(Du T != D5)=Aa)]
 refine FD hT dT z3 (hQ _ ?_ λb o nb q=>(C3 _ _ (DP nb)).trans q)
 exact⟨oe,vs,_,_,a0,(C3 _ _ ne).trans he,hc,hx,h0,dt,h1,ne,Dd _ hT (EO (De dT _)),De dT _,by simp[z3]⟩
theorem Pq{h1 h2:AF}{ex:Ac Ah}(ff:s.heap.FunFrames base (env::outer))(sh:Shift ex (frs (env::outer)) s.heap h1)(hT:s.heap.get? T'=Af)(k:∀ b o,b≠T'->h1.get? b=Ab o->h2.get? b=Ab o):Shift ex (frs (env::outer)) s.heap h2:=
 ⟨λb o q n1 n2=>k b o (λz=>by rw[z,hT]at q;cases q) (sh.keep b o q n1 n2),λb o q hb=>let ⟨sl,q'⟩:=sh.slot b o q hb;⟨sl,k b _ (λz=>by rw[z,hT]at q;cases q) q'⟩⟩
theorem eM(hfr:A.frames=Ab (env::outer))(hf:env.frame=Ab L)(ff:s.heap.FunFrames base (env::outer))(fl:Fly e T cls dx s.heap)(hQ:∀ h' T',Fly e T' cls dx h'->Shift [e,T] (frs (env::outer)) s.heap h'->(T'=T\/s.heap.get? T'=Af)->Q () {s with heap:=h'}):Az M A (leaving env (.ref e)) Q E s:=by
 unfold leaving;exact An (UE hfr hf ff fl λh1 T' f1 sh hT=>Nd f1 λh2 f2 k=>hQ h2 T' f2 (Pq ff sh hT k) (.inr hT))
theorem cX(hfr:A.frames=Ab (env::outer))(hf:env.frame=Ab L)(ff:s.heap.FunFrames base (env::outer))(he:s.heap.get? e=Ab oe)(hc:oe.cls=cls)(hx:oe.dict=dx)(dt:oe.data=.fields vs)(h0:vs[0]?=Ab a0)(h1:vs[1]?=Ab .none)(hQ:∀ h' T',Fly e T' cls dx h'->Shift [e] (frs (env::outer)) s.heap h'->s.heap.get? T'=Af->Q () {s with heap:=h'}):Az M A (leaving env (.ref e)) Q E s:=by
 unfold leaving G2;simp only[hf];refine An (An (BP he dt h1 ?_));rw[Ay (by decide)]
 exact Tp (base:=base) hfr hf ff he dt (K1 h1) λh' T' oT ts g nT gn gT dT f3 sh=>Nd (S7 hc hx h0 dt (K1 h1) g nT gT dT f3) λh2 f2 k=>hQ h2 T' f2 (Pq ff sh gn k) gn
theorem hV(hfr:A.frames=Ab (env::outer))(hf:env.frame=Ab L)(ff:s.heap.FunFrames base (env::outer))(fl:Fly e T cls dx s.heap)(hQ:∀ h' T',Fly e T' cls dx h'->Shift [e,T] (frs (env::outer)) s.heap h'->(T'=T\/s.heap.get? T'=Af)->Q () {s with heap:=h'}):Az M A (G2 (.ref e) env) (λ_ s2=>Az M A (HI (.ref e) Af) Q E s2) E s:=
 UE hfr hf ff fl λh1 T' f1 sh hT=>Nd f1 λh2 f2 k=>hQ h2 T' f2 (Pq ff sh hT k) (.inr hT)
theorem eN{l:Ac Ch}{A':AZ}(ff:s.heap.FunFrames base l)(fl:Fly e T cls dx s.heap)(hQ:∀ h' T',Fly e T' cls dx h'->Shift [e,T] (frs l) s.heap h'->(T'=T\/s.heap.get? T'=Af)->Q () {s with heap:=h'}):Az M A' (HI (.ref e) Af) Q E s:=by
 obtain⟨oe,vs,oT,ts,a0,he,hc,hx,h0,dt,h1,ne,hT,dT,h3⟩:=id fl;refine Nd fl λh' f' k=>hQ h' T f' ⟨λb o q n1 n2=>k b o (λz=>n1 (by rw[z];simp)) q,λb o q hb=>⟨o.slots,k b o (λz=>?_) q⟩⟩ (.inl rfl)
 obtain⟨_,o',q',n⟩:=ff.mem hb;rw[z,hT]at q';cases q';exact n ts dT
end
def CXR(P:AO)(w:AW):CXT:=λouter H s E ev s'=>∃ e T cls dx H',ev=.ref e/\s'.os=s.os/\Fx s'.gens/\Un (frs outer) [] H H' s.heap s'.heap/\HOk P w H' s'.heap/\Fly e T cls dx s'.heap/\H' e=Af/\H' T=Af/\s.heap.get? e=Af/\s.heap.get? T=Af/\E cls dx H'
def MB(X:Cx)(CL:ClA)(W:XW):Prop:=∀ pI Y H s e C dx t x,Inv X pI Y H s->(X.ex=[]->X.s₀.heap.get? e=Af)->H e=Af->s.heap.get? e=Ab (bf C dx t)->FI X.K CL H (.ref C) dx x->W x H->X.xe (.ref e) s
section
variable{P:AO}{w:AW}{K:Fg}{mg:Ak->Ao Aj}{base:AF}{N:Ac Ak}{qual:Ak}{scope:B6}{f:Ah}{cd:Aj}{A:AZ}{outer:Ac Ch}{s:Aq}{H:Hp}{E:XK}{CL:ClA}{W:XW}
theorem Qj{s:Aq}(I:Inv X pI Y H s):∀ b∈frs X.stack,b∈X.fs\/X.s₀.heap.get? b=Af:=λb hb=>by
 rcases AD.mp (I.stkSub b hb) with z|z
 .exact .inr (by rw[z];exact Gg I.ok.above)
 .exact .inl z
theorem KU{s:Aq}{b:Ah}(I:Inv X pI Y H s)(hx:X.ex=[])(h:s.heap.get? b=Af):X.s₀.heap.get? b=Af:=by
 cases q:X.s₀.heap.get? b with
 |none=>rfl
 |some o=>
  obtain⟨o',z⟩:=I.base.there b o q (by rw[hx];simp)
  rw[h]at z;cases z
theorem yB(hE:∀ x cls dx H',W x H'->FI K CL H' cls dx x->E cls dx H'):∀ A',J4 (CXR P w) (GV (CXR P w) P w K mg base N qual scope f cd A outer s H E) (EKW K CL A' W):=by
 intro A' pI Y H1 s1 ev s2 I h;obtain⟨e,T,cls,dx,H',rfl,os,bare,un,hok,fl,he,hT,ne,nT,x,xr,wx⟩:=h;have I':=I.call' (s':=s2) (ch:=[]) os un hok bare (λb z=>absurd z (by simp))
 have hb0:Un (frs outer) [] H H' s.heap s2.heap:=I'.base;show Az (model P w) (A.deeper (E6 qual scope s.heap.objs.size f cd)) (leaving (E6 qual scope s.heap.objs.size f cd) (.ref e)) _ _ s2;refine eM (L:=s.heap.objs.size) I'.ok.frames rfl I'.stack fl λh' T' fl' sh hT'=>?_
 have e0:s.heap.get? e=Af:=KU I rfl ne;have T0:s.heap.get? T=Af:=KU I rfl nT;refine⟨e,T',cls,dx,H',rfl,I'.os,bare,Un.shift hb0 sh ?_ (Qj I'),HOk.shift hok sh ?_ I'.stkFree,fl',he,?_,e0,?_,?_⟩
 .intro b hb;rcases AD.mp hb with rfl|hb
  .exact e0
  .rw[A2.mp hb];exact T0
 .intro b hb;rcases AD.mp hb with rfl|hb
  .exact he
  .rw[A2.mp hb];exact hT
 .rcases hT' with rfl|z
  .exact hT
  .exact M7 hok z
 .rcases hT' with rfl|z
  .exact T0
  .exact KU I' rfl z
 .exact hE x cls dx H' wx xr
theorem rzR(hE:∀ x cls dx H',W x H'->FI K CL H' cls dx x->E cls dx H'):MB (GV (CXR P w) P w K mg base N qual scope f cd A outer s H E) CL W:=by
 intro pI Y H1 s1 e C dx t x I e0 he ge xr hw;have hb0:Un (frs outer) [] H H1 s.heap s1.heap:=I.base;have e0':s.heap.get? e=Af:=e0 rfl;show Az (model P w) (A.deeper (E6 qual scope s.heap.objs.size f cd)) (leaving (E6 qual scope s.heap.objs.size f cd) (.ref e)) _ _ s1;refine cX (cls:=.ref C) (dx:=dx) (L:=s.heap.objs.size) I.ok.frames rfl I.stack ge rfl rfl rfl (a0:=.ref t) rfl rfl λh' T' fl' sh hT'=>?_
 have one:∀{Z_:Ah->Prop},Z_ e->∀ b∈[e],Z_ b:=λ{Z_} z b hb=>by rw[A2.mp hb];exact z
 exact⟨e,T',.ref C,dx,H1,rfl,I.os,I.bare,Un.shift hb0 sh (one e0') (Qj I),HOk.shift I.hok sh (one (Z_:=λb=>H1 b=Af) he) I.stkFree,fl',he,M7 I.hok hT',e0',KU I rfl hT',hE x _ dx H1 hw xr⟩
theorem ownR:DH (model P w) (GV (CXR P w) P w K mg base N qual scope f cd A outer s H E).A (GV (CXR P w) P w K mg base N qual scope f cd A outer s H E).env (GV (CXR P w) P w K mg base N qual scope f cd A outer s H E).xe:=PassesOwn.leaving
end
noncomputable def veB:Ac Aj:=[.type "ValueError",.type "Exception",.type "BaseException",.type "object"]
noncomputable def D8(K:Fg)(C:Ah)(v:Ao Aj):Ai:=match K.lookup C with
  | some ⟨.type "type",_,.cls c,z⟩=>(match c.mro,z.toList with
    |.ref c0::tl,[_,_,_,_,Ab (.builtin nw),_]=>c0==C&&(nw == "ValueError.__new__" && (!c.hasDel&&(PySem.W.tailIn K veB tl&&(Zr K c.ns&&BA K c.ns "__init__" == Ab v))))
    | _,_=>Ad)
  |_=>Ad
theorem iX(q:IQ K C veB "ValueError.__new__" = Aa):D8 K C Af=Aa:=by
 unfold IQ at q;unfold D8;split at q
 .rename_i dd cd sl ho;split at q
  .rename_i C' bm k0 k1 k2 k3 n k5 hm hs;simp only[Al]at q;obtain⟨⟨⟨⟨⟨h1,h2⟩,h3⟩,h4⟩,h5⟩,h6⟩:=q;simp only[ho,hm,hs,Al];exact⟨h1,h2,h3,h4,h5,h6⟩
  .cases q
 .cases q
structure XcOk (K:Fg) (C:Ah):Prop where
 exc:∃ v,D8 K C v=Aa
 ga:Bq K (.ref C) "__getattribute__" = Ab (Ab (.builtin "BaseException.__getattribute__"))
 gt:Bq K (.ref C) "__getattr__" = Ab Af
 cl:Bq K (.ref C) "__class__" = Ab (Ab (.builtin "object.__class__"))
 ob:CG K C (.type "object")=Ab Aa
 be:BM K (.ref C) (.type "BaseException")=Ab Aa
 cs:(Dv K C).isSome=Aa
 ve:CM K (.ref C) (.type "ValueError")=Ab Aa
def XAt(e C:Ah)(h:AF):Prop:=∃ o,h.get? e=Ab o/\o.cls=.ref C
theorem tT{N:Ah}{v:Aj}(X:K.In h)(G:h.Ns N m)(q:BA K N x=Ab (Ab v)):m x=Ab v:=by
 obtain⟨ob,es,ep,g,dt,_,fd⟩:=G;unfold BA at q;split at q
 .rename_i es' n' sl lk;have g':=X _ _ lk;rw[g]at g';cases g';cases dt;split at q
  .rename_i hf;cases q;rw[<-fd];unfold nsFind findBy;rw[<-W4,hf];rfl
  .by_cases z:(es.toList.any λy=>y.refKey)=Aa
   .rw[Ax z]at q;cases q
   .rw[Ay z]at q;cases q
 .cases q
theorem UH{h0:AF}(X0:K.In h0)(q:D8 K C v=Aa):
  ∃ bm N nm qn bs hd sn sub ab col dd k0 k1 k2 k3 k5 mN,(∀ h:AF,K.In h->h.get? C=Ab (excClassObj nm qn C N bs bm hd sn sub ab col dd k0 k1 k2 k3 k5 "ValueError.__new__")/\h.Ns N mN/\OwnTail h veB bm)/\mN "__init__" = v/\bm.contains (.type "BaseException")=Aa:=by
 unfold D8 at q;split at q
 .rename_i dd cd sl ho;split at q
  .rename_i C' bm k0 k1 k2 k3 n k5 hm hs;simp only[Al,AS,Bh]at q;obtain⟨rfl,rfl,hdel,ht,hok,hni⟩:=q;obtain⟨nm,bs,mro,ns,qn,hd,sn,sub,ab,col,del⟩:=cd;dsimp only at hm hdel hok hni;subst hm hdel;have hsl:sl=#[k0,k1,k2,k3,Ab (.builtin "ValueError.__new__"),k5]:=by
    obtain⟨l⟩:=sl;simp only at hs;rw[hs]
   subst hsl;have kN:∃ o,K.lookup ns=Ab o:=by
    unfold Zr at hok;split at hok
    .rename_i z;exact⟨_,z⟩
    .cases hok
   obtain⟨oN,hoN⟩:=kN;have nsAt:∀ h:AF,K.In h->h.Ns ns (h0.nsMap ns):=λh X=>by
    obtain⟨o,es,ep,e1,r⟩:=Heap.Ns.of_isNs (Zn X0 hok);have e2:=X0 _ _ hoN;rw[e1]at e2;cases e2;exact⟨_,es,ep,X _ _ hoN,r⟩
   refine⟨bm,ns,nm,qn,bs,hd,sn,sub,ab,col,dd,k0,k1,k2,k3,k5,h0.nsMap ns,λh X=>⟨X _ _ ho,nsAt h X,Zt X ht⟩,?_,(Zt X0 ht).hasType (by decide)⟩
   cases v with
   |none=>exact PySem.W.nsMap_none_of_in X0 hok hni
   |some u=>exact tT X0 (.of_isNs (Zn X0 hok)) hni
  .cases q
 .cases q
theorem oF(X:K.In h)(q:D8 K C v=Aa):
  ∃ bm N nm qn bs hd sn sub ab col dd k0 k1 k2 k3 k5 mN,h.get? C=Ab (excClassObj nm qn C N bs bm hd sn sub ab col dd k0 k1 k2 k3 k5 "ValueError.__new__")/\h.Ns N mN/\mN "__init__" = v/\OwnTail h veB bm:=by
 obtain⟨bm,N,nm,qn,bs,hd,sn,sub,ab,col,dd,k0,k1,k2,k3,k5,mN,ho,hi,_⟩:=UH X q;obtain⟨o1,o2,o3⟩:=ho h X;exact⟨bm,N,nm,qn,bs,hd,sn,sub,ab,col,dd,k0,k1,k2,k3,k5,mN,o1,o2,hi,o3⟩
section
variable{prog:AO}{w:AW}{A:AZ}{E:Vq}{h:AF}{g:A7 EC}{d:HG}{t:Ag}{os:Hg}{K:Fg}{e C:Ah}
theorem Le(p:XAt e C h):PySem.W.Looks M h (typeOf (.ref e)) (.ref C):=by
 obtain⟨o,h1,h2⟩:=p;exact h2 ▸ (PySem.W.Looks.ld h1).andThen .now
theorem gN{R:Ia->Aq->Prop}{tp:Aj}(X:K.In h)(p:XAt e C h)(hm:CG K C (.type "object")=Ab Aa)(hq:R (.ok (.ret (.ref C))) ⟨h,g,d,t,os⟩):
  F7 (model prog w) A (.call (.builtin "getset_descriptor.__get__") ⟨[.builtin "object.__class__",.ref e,tp],[]⟩) R ⟨h,g,d,t,os⟩:=by
 have L0:=Le (M:=model prog w) p;have L1:=PySem.W.looks_mroIn (M:=model prog w) X hm;refine Zx PySem.W.KF.slot_gs.plain PySem.W.KF.entry_gs (PySem.W.KF.slot_gs.check _ _ _ _ _ _ _ _ PySem.W.KF.type_class (PySem.W.KF.args_gs _ _ _) ?_);unfold Builtin.«getset_descriptor.__get__» Builtin.Getset_descriptor.descrGet;rw[PySem.W.dga_obj];refine An (AC ?_);unfold Builtin.Getset_descriptor.descrGetter Builtin.Getset_descriptor.descrCheckInstance Builtin.Getset_descriptor.descrNameAndClass isInstance;simp only[PySem.W.KF.owner_class]
 repeat lk
 refine⟨Code.quiet_builtin _ (by decide+kernel),codeAny_builtin PySem.W.KF.entry_class ?_⟩
 unfold Builtin.«object.__class__» shownTypeOf
 repeat lk
 exact hq
theorem cZ{Q:Fin->Aq->Prop}(X:K.In h)(x:XcOk K C)(p:XAt e C h)(hq:Q (.done (.ret (.ref C))) ⟨h,g,d,t,os⟩):
  Az (model prog w) A (Builtin.«object.__getattribute__» ⟨[.ref e,.str "__class__" tk],[]⟩) Q E ⟨h,g,d,t,os⟩:=by
 have L0:=Le (M:=model prog w) p;have L1:=Gk (M:=model prog w) X x.cl;have hT5:(⟨h,g,d,t,os⟩:Aq).TypeIs (.builtin "object.__class__") "getset_descriptor" := YW;have f5:=YW;have f6:=F.slot_gs_get.lookup;have f7:=F.slot_gs_set.lookup
 repeat (any_goals (first|assumption|with_reducible refine L0.at ?_|with_reducible refine L1.at ?_|wp_step))
 refine gN X p x.ob ?_
 repeat (any_goals (first|assumption|wp_step))
theorem dA{nameV:Aj}(X:K.In h)(x:XcOk K C)(p:XAt e C h)(hq:Q () ⟨h,g,d,t,os⟩):Az M A (Zw "BaseException.__getattribute__" ⟨[.ref e,nameV],[]⟩) Q E ⟨h,g,d,t,os⟩:=by
 have hk:builtinKind "BaseException.__getattribute__" = Ab .slot:=by decide+kernel
 have hsplit:splitId "BaseException.__getattribute__" = Ab ("BaseException", "__getattribute__"):=by decide+kernel
 have L0:=Le (M:=M) p;have L1:=Zq (M:=M) X x.be;have ha:=F.args_bexc_ga (.ref e) nameV;simp only[Zw,hk,hsplit];refine An ?_
 .unfold isInstance
  repeat (first|(with_reducible refine An (L0.at ?_))|(with_reducible refine L1.at ?_)|wp_step)
  exact hq
theorem iY{fill expr:Ai}{Q:Vq}(X:K.In h)(x:XcOk K C)(p:XAt e C h)(hq:Q (.ref C) ⟨h,g,d,t,os⟩):Az (model prog w) A (getAttrBy (.ref e) (.str "__class__" tk) fill expr) Q E ⟨h,g,d,t,os⟩:=by
 have L0:=Le (M:=model prog w) p;have L1:=Gk (M:=model prog w) X x.ga;have L2:=Gk (M:=model prog w) X x.gt;have f3:=F.attr_ValueError.ga.bind (.ref e);have hx0:(expr&&onTheHeap (FV "BaseException.__getattribute__"))=Ad:=by cases expr<;>rfl
 have hx2:(FV "BaseException.__getattribute__" == FV "object.__getattribute__")=Ad:=by decide+kernel
 have hx1:(onTheHeap (Du C)&&FV "BaseException.__getattribute__" == FV "object.__getattribute__")=Ad:=by rw[hx2];rfl
 repeat (any_goals (first|assumption|with_reducible refine L0.at ?_|with_reducible refine L1.at ?_|with_reducible refine L2.at ?_|wp_step))
 refine Zx F.attr_ValueError.ga.plain F.entry_bexc_ga (dA X x p (cZ X x p ?_))
 repeat (any_goals (first|assumption|wp_step))
theorem eA{Q:Ao Aj->Aq->Prop}(X:K.In h)(x:XcOk K C)(p:XAt e C h)(hq:Q (Ab (.ref C)) ⟨h,g,d,t+1,os⟩):Az (model prog w) A (getAttr? (.ref e) "__class__") Q E ⟨h,g,d,t,os⟩:=by
 unfold getAttr? getAttrBy?
 repeat (any_goals (first|assumption|with_reducible apply iY X x p|wp_step))
end
theorem Uw{e C:Ah}(x:XcOk K C):PySem.W.KitX K (.ref e) (.ref C) (XAt e C) where
 ty:=λM h _ p=>Le p
 it:=λM h X _=>by
  obtain⟨cd,hc⟩:=Ef.mp x.cs;unfold Dv at hc;split at hc
  .rename_i c' d' cd' sl' ho;intro A' Q' E' s' k q;unfold isType loadHead;exact An (wpAny_loadPart (k _ _ (X _ _ ho)) (AC q))
  .cases hc
 ne:=λh tp dd its n sl X htp=>by
  obtain⟨cd,hc⟩:=Ef.mp x.cs;refine Bool.eq_false_iff.mpr λq=>?_
  have e:C=tp:=IP (AS.mp q);subst e;unfold Dv at hc;split at hc
  .rename_i c' d' cd' sl' ho;have z:=(X _ _ ho).symm.trans htp;cases z
  .cases hc
 ca:=λ{_ _ _ _ _ s} X p k=>by
  obtain⟨h,g,d,t,os⟩:=s;exact eA X x p k
theorem gO{A:AZ}{E:Vq}{g:A7 EC}{d:HG}{t:Ag}{os:Hg}{e C C':Ah}{b:Ai}{Q:Ai->Aq->Prop}(X:K.In h)(p:XAt e C h)(x':XcOk K C')(hs:BM K (.ref C) (.ref C')=Ab b)(hq:Q b ⟨h,g,d,t,os⟩):Az M A (excMatches (.ref e) (.ref C')) Q E ⟨h,g,d,t,os⟩:=by
 obtain⟨bm,N,nm,qn,bs,hd,sn,sub,ab,col,dd,k0,k1,k2,k3,k5,mN,hC',_,_,T⟩:=oF X x'.exc.choose_spec;have hcB:(Du C'::bm).contains (.type "BaseException")=Aa:=by rw[List.contains_cons,T.hasType (show veB.contains (.type "BaseException")=Aa by decide),Bool.or_true]
 have L0:=Le (M:=M) p;have L1:=Zq (M:=M) X hs;have f:=tc_notTuple;unfold excMatches
 repeat (first|(with_reducible refine An (L0.at ?_))|(with_reducible refine L1.at ?_)|(with_reducible refine An (L1.at ?_))|with_reducible refine wpAny_loadPart_at hC' ?_|(with_reducible refine wpAny_isSubtype_exc hC' ?_;rw[hcB])|wp_step)
 all_goals first|exact hq|(cases b<;>(wp_walk;exact hq))
def IF(X:Cx)(pI:Pn)(e:Ah):Prop:=e≠X.env.locals/\(∀ x c,X.env.cells.lookup x=Ab c->c≠e)/\(∀ p∈X.pn++pI,p.1≠e)/\X.s₀.heap.get? e=Af
section
variable{X:Cx}{pI:Pn}{Y:L2.St}{H:Hp}{s:Aq}{e:Ah}
theorem PY(I:Inv X pI Y H s)(hx:X.ex=[])(h:s.heap.get? e=Af):IF X pI e:=by
 refine⟨?_,λx c q z=>?_,λp hp z=>?_,KU I hx h⟩
 .rintro rfl;obtain⟨m,⟨o,_,_,ho,_⟩,_⟩:=I.loc;rw[h]at ho;cases ho
 .obtain⟨v,o,ho,_⟩:=I.cell x c q;rw[z,h]at ho;cases ho
 .obtain⟨q,_⟩:=I.pin p hp;rw[z,h]at q;cases q
theorem Tx{ex:Ac Ah}(I:Inv X pI Y H s)(hx:X.ex=[])(sh:Shift ex (frs X.stack) s.heap h')(ha:∀ b∈ex,IF X pI b)(hH:∀ b∈ex,H b=Af):Inv X pI Y H {s with heap:=h'}:=by
 have kp:∀ b o,s.heap.get? b=Ab o->b∉ex->∃ sl,h'.get? b=Ab {o with slots:=sl}:=λb o q n=>by
  by_cases hb:b∈frs X.stack
  .exact sh.slot b o q hb
  .exact⟨o.slots,sh.keep b o q n hb⟩
 have cellK:∀ x c,X.env.cells.lookup x=Ab c->∀ v,s.heap.IsCell c v->h'.IsCell c v:=λx c q v ⟨o,ho,hd⟩=>by
  obtain⟨sl,z⟩:=kp c o ho λz=>(ha c z).2.1 x c q rfl
  exact⟨_,z,hd⟩
 refine⟨I.ok,I.os,I.bare,?_,?_,λx c q=>?_,I.free,I.freeC,λp hp=>?_,HOk.shift I.hok sh hH I.stkFree,I.len⟩
 .have b0:=I.base;rw[hx]at b0 ⊢;exact Un.shift b0 sh (λb hb=>(ha b hb).2.2.2) (Qj I)
 .obtain⟨m,⟨o,es,ep,ho,r⟩,hl⟩:=I.loc;obtain⟨sl,z⟩:=kp _ o ho λz=>(ha _ z).1 rfl
  refine⟨m,⟨_,es,ep,z,r⟩,λi x v e1 e2 e3=>?_⟩
  obtain⟨u,ru,l⟩:=hl i x v e1 e2 e3;refine⟨u,ru,?_⟩;rcases l with l|⟨k,c,q,z⟩
  .exact .inl l
  .exact .inr ⟨k,c,q,cellK x c q _ z⟩
 .obtain⟨v,z⟩:=I.cell x c q;exact⟨v,cellK x c q v z⟩
 .obtain⟨q,n,ne,nf,d⟩:=I.pin p hp;exact⟨sh.keep p.1 p.2 q (λz=>(ha p.1 z).2.2.1 p hp rfl) (λz=>(AD.mp (I.stkSub p.1 z)).elim ne nf),n,ne,nf,d⟩
theorem eJ(I:Inv X pI Y H s)(hx:X.ex=[])(ha:IF X pI e)(hH:H e=Af)(ho:∃ o,s.heap.get? e=Ab o)(p:φ s.heap)(hφ:∀ h1 h2:AF,φ h1->(∀ o,h1.get? e=Ab o->h2.get? e=Ab o)->φ h2):Inv X pI Y (upd H e (.ext φ)) s:=by
 have ne:∀ b o,H b=Ab o->b≠e:=λb o q z=>by rw[z,hH]at q;cases q
 refine⟨I.ok,I.os,I.bare,⟨I.base.keep,I.base.slot,λb o q n hb=>?_,I.base.there,λb xs q=>?_,λb o u q=>?_,λb ps q=>?_⟩,I.loc,I.cell,?_,λx c q=>?_,λp hp=>?_,λb o q=>?_,I.len⟩
 .rw[B8 λz=>by rw[z,ha.2.2.2]at q;cases q]
  exact I.base.free b o q n hb
 .have:=I.base.tups b xs q;rw[B8 (ne _ _ this)];exact this
 .have:=I.base.frzs b o u q;rw[B8 (ne _ _ this)];exact this
 .obtain⟨more,this⟩:=I.base.tbls b ps q;exact⟨more,by rw[B8 (ne _ _ this)];exact this⟩
 .rw[B8 λz=>ha.1 z.symm];exact I.free
 .rw[B8 (ha.2.1 x c q)];exact I.freeC x c q
 .obtain⟨q,n,r⟩:=I.pin p hp;exact⟨q,by rw[B8 (ha.2.2.1 p hp)];exact n,r⟩
 .by_cases hb:b=e
  .subst hb;rw[Gp]at q;cases q;exact⟨p,ho,hφ⟩
  .rw[B8 hb]at q;exact(I.hok b o q).stay (λc v hc z=>z) (λc z=>by rw[B8 (ne _ _ z)];exact z) λc zs z=>by rw[B8 (ne _ _ z)];exact z
theorem eI{i:Ag}{n:Ak}{tk:Ag}(I:Inv X pI Y H s)(hN:X.N.Nodup)(hi:X.N[i]?=Ab n)(hn:s.heap.Ns X.env.locals m)(hn':h'.Ns X.env.locals (λx=>if x=n then v else m x))(hs:DG X.env.locals s.heap h'):Inv X pI (Y.set i Af) H {s with heap:=h',toks:=tk}:=by
 obtain⟨m0,hn0,hl⟩:=I.loc;have em:m0=m:=by
  obtain⟨o,es,ep,h1,h2,_,h3⟩:=hn0;obtain⟨o',es',ep',h1',h2',_,h3'⟩:=hn;rw[h1]at h1';cases h1';rw[h2]at h2';cases h2'
  funext y
  rw[<-h3,<-h3']
 subst em;obtain⟨oL,_,_,hoL,_⟩:=id hn;have lt:∀ b o,X.s₀.heap.get? b=Ab o->b≠X.env.locals:=λb o q=>Be (AG (AH q) I.ok.above)
 refine⟨I.ok,I.os,I.bare,⟨λb o q n hb hx=>?_,λb o q n hb hx=>?_,I.base.free,λb o q hx=>?_,I.base.tups,I.base.frzs,I.base.tbls⟩,⟨_,hn',λj y v' e1 e2 e3=>?_⟩,λy c q=>?_,I.free,I.freeC,λp hp=>?_,λb ob q=>?_,by rw[AT];exact I.len⟩
 .exact(hs.2 b (lt b o q)).trans (I.base.keep b o q n hb hx)
 .obtain⟨sl,e1⟩:=I.base.slot b o q n hb hx;exact⟨sl,(hs.2 b (lt b o q)).trans e1⟩
 .obtain⟨o',e1⟩:=I.base.there b o q hx;exact⟨o',(hs.2 b (lt b o q)).trans e1⟩
 .by_cases hj:i=j
  .subst hj;have:=F0 e2;cases this
  .rw[BV hj]at e2;obtain⟨u',r',q⟩:=hl j y v' e1 e2 e3;refine⟨u',r',?_⟩;rcases q with ⟨k,e⟩|⟨k,c,e,z⟩
   .refine .inl ⟨k,?_⟩;have:y≠n:=λe=>hj (PQ hN hi (e ▸ e1))
    simp[this,e]
   .exact .inr ⟨k,c,e,z.sameBut hs (I.cne y c e)⟩
 .obtain⟨w',z⟩:=I.cell y c q;exact⟨w',z.sameBut hs (I.cne y c q)⟩
 .obtain⟨q,n,ne,nf,d⟩:=I.pin p hp;exact⟨(hs.2 p.1 ne).trans q,n,ne,nf,d⟩
 .refine(I.hok b ob q).stay (λc w' hc z=>(hs.2 c ?_).trans z) (λ_ q=>q) λ_ _ q=>q
  rintro rfl;have hfree:=I.free;rcases hc with z|hc
  .rw[<-z,hfree]at q;cases q
  .rw[hfree]at hc;cases hc
end
noncomputable def Cx.hot(X:Cx)(e:Ah):Cx:={X with A:=X.A.mark (Ab (.ref e)),calm:=Ad,xe:=λ_ _=>AU}
section
variable{X:Cx}{pI:Pn}{Y:L2.St}{H:Hp}{s:Aq}{e:Ah}
theorem tQ(ok:X.Ok):(Cx.hot X e).Ok:=⟨ok.mod,ok.kind,ok.glob,ok.blt,ok.above,ok.inj,ok.has,ok.cab,λz=>(nomatch z),ok.frames,ok.stk,ok.exf,ok.bs,ok.bsz,ok.noex,ok.exfs,ok.funs,ok.frf⟩
theorem Va(I:Inv X pI Y H s)(e:Ah):Inv (Cx.hot X e) pI Y H s:=⟨tQ I.ok,I.os,I.bare,I.base,I.loc,I.cell,I.free,I.freeC,I.pin,I.hok,I.len⟩
theorem gX(ok:X.Ok)(I:Inv (Cx.hot X e) pI Y H s):Inv X pI Y H s:=⟨ok,I.os,I.bare,I.base,I.loc,I.cell,I.free,I.freeC,I.pin,I.hok,I.len⟩
theorem Sx.unset(x:Sx K CL Fz B Z Y H)(i:Ag):Sx K CL Fz B (Z.set i Af) (Y.set i Af) H:=by
 have get:∀(j:Ag)(y:D×Ai),(Z.set i Af)[j]?=Ab (Ab y)->i≠j/\Z[j]?=Ab (Ab y):=λj y h=>by
  by_cases hj:i=j
  .subst hj;have:=F0 h;cases this
  .exact⟨hj,by rw[BV hj]at h;exact h⟩
 have sub:∀ a,Bi B (Z.set i Af) (Y.set i Af) a->Bi B Z Y a:=λa h=>by
  rcases h with h|⟨j,d,h1,h2⟩
  .exact .inl h
  .obtain⟨hj,h1⟩:=get j _ h1;rw[BV hj]at h2;exact .inr ⟨j,d,h1,h2⟩
 refine⟨⟨λj d h=>?_,λj d h=>?_,by rw[AT,AT];exact x.len⟩,λa h=>x.aok a (sub a h),λj d a h1 h2=>?_,λj k d f a h1 h2 h3 h4=>?_,x.same,by rw[AT,AT];exact x.len⟩
 .obtain⟨hj,h1⟩:=get j _ h;obtain⟨v,q,r⟩:=x.good.sh j d h1;exact⟨v,by rw[BV hj];exact q,Rep.sub sub _ r⟩
 .obtain⟨hj,h1⟩:=get j _ h;obtain⟨a,o,q,ha,hh,rr⟩:=x.good.ow j d h1;exact⟨a,o,by rw[BV hj];exact q,.inr ⟨j,d,h,by rw[BV hj];exact q⟩,hh,rr.sub sub⟩
 .obtain⟨hj,h1⟩:=get j _ h1;rw[BV hj]at h2;exact x.new j d a h1 h2
 .obtain⟨hj,h1⟩:=get j _ h1;obtain⟨hk,h2⟩:=get k _ h2;rw[BV hj]at h3;rw[BV hk]at h4;exact x.dis j k d f a h1 h2 h3 h4
end
def MA(e C:Ah)(dx:Ao Ah)(h:AF):Prop:=∃ o,h.get? e=Ab o/\o.cls=.ref C/\o.dict=dx/\∃ us,o.data=.fields us
noncomputable def Jo(X:Cx)(CL:ClA)(pI:Pn)(Y:L2.St)(H:Hp)(y:Ex)(Xw:Vq):Prop:=
 ∀ s' H' e T cls dx,Inv X pI Y H' s'->AB H H'->Fly e T cls dx s'.heap->H' e=Af->H' T=Af->IF X pI e->IF X pI T->FI X.K CL H' cls dx y->Xw (.ref e) s'
def STB(X:Cx)(CL:ClA)(body:Ac AN)(f:Rho->O):Prop:=∀ Fz B pI s Y H D Z (Xw:Vq),DH (model X.prog X.w) X.A X.env Xw->Inv X pI Y H s->Sx X.K CL Fz B Z Y H ->
  (match f Z with
   |.exn y Z'=>Z'=Z->Jo X CL pI Y H y Xw
   | o=>Bs X.K CL Fz B (λ_ _=>AU) o D)->(∀ y Z',f Z=.exn y Z'->Z'=Z)->Az (model X.prog X.w) X.A (execs body X.env) (SP X pI D) Xw s
noncomputable def RH(up:Ag->Ac Ag)(c i:Ag)(o:O)(fh:Rho->O):O:=match o with
  | .exn y Z'=>if (up y.c).contains c=Aa then (match fh (Z'.set i (Ab (.exc y.c y.fs,Ad))) with
      |.next Z''=>.next (Z''.set i Af)
      |.ret d f=>.ret d f
      | _=>.bad) else .bad
  |o=>o
theorem pQ{i:Ag}{g n:Ak}{p1 hp:AJ}{b:Ai}{rest:Ac E7}{s1:Aq}{Z':Rho}{D:Ends}{e T1:Ah}{dx:Ao Ah}{y:Ex}(hx:X.ex=[])(hN:X.N.Nodup)(hi:X.N[i]?=Ab n)(hl:X.env.scope.names.lookup n=Ab .local)(hg:Gl X g)(hm:X.mg g=Ab (.ref C'))(hdb:(g==("__debug__" : Ak))=Ad)(xc:XcOk X.K C')(hsu:BM X.K (.ref C) (.ref C')=Ab b)(hh:∀ e,SSs (Cx.hot X e) CL (λ_ _=>AU) (h0::hs) fh)(I1:Inv X pI Y H' s1)(fl1:Fly e T1 (.ref C) dx s1.heap)(ae:IF X pI e)(aT1:IF X pI T1)(he:H' e=Af)(HT1:H' T1=Af)(gx:Sx X.K CL Fz B Z' Y H')(hcl:CL y.c=Ab C)(xr:FI X.K CL H' (.ref C) dx y)(p2:b=Aa->Bs X.K CL Fz B W (hdO i y Z' fh) D)(p3:b=Ad->Az (model X.prog X.w) X.A (JE (.ref e) X.env rest) (SP X pI D) X.xe s1):Az (model X.prog X.w) X.A (JE (.ref e) X.env (.ExceptHandler (Ab (.Name g p1)) (Ab n) (h0::hs) hp::rest)) (SP X pI D) X.xe s1:=by
 obtain⟨Cx0,hcl0,ecl,hfs⟩:=xr (Bi B Z' Y) gx.aok;have xat:∀{h:AF}{T:Ah},Fly e T (.ref C) dx h->XAt e C h:=λ{h T} z=>by
  obtain⟨oe,_,_,_,_,z1,z2,_⟩:=z;exact⟨oe,z1,z2⟩
 have xad:∀{h:AF}{T:Ah},Fly e T (.ref C) dx h->MA e C dx h:=λ{h T} z=>by
  obtain⟨oe,vs,_,_,_,z1,z2,z3,_,z4,_⟩:=z;exact⟨oe,z1,z2,z3,vs,z4⟩
 have two:∀{T:Ah}{Z_:Ah->Prop},Z_ e->Z_ T->∀ b∈[e,T],Z_ b:=λ{T Z_} h1 h2 b hb=>by
  rcases AD.mp hb with rfl|hb
  .exact h1
  .rw[A2.mp hb];exact h2
 refine wpAny_handleBy_cons (codeAny_handlers_test (K8 (X:=Cx.hot X e) (Va I1 e) hg hm ?_ hdb)) (by intro q;cases q)
 refine gO (K:=X.K) I1.kIn (xat fl1) xc hsu ?_;cases b with
 |false=>exact p3 rfl
 |true=>
 have p2:=p2 rfl;refine codeAny_handlers_suite_as ?_;refine eN (base:=X.base) (l:=X.stack) I1.stack fl1 λh3 T3 fl3 sh3 hT3=>?_
 have I3:=Tx I1 hx sh3 (two ae aT1) (two (Z_:=λb=>H' b=Af) he HT1)
 obtain⟨oe,oeg,oec⟩:=xad fl3;have I3':=eJ (φ:=MA e C dx) I3 hx ae he ⟨oe,oeg⟩ ⟨oe,oeg,oec⟩ λh1 h2 ⟨o,q1,q2⟩ k=>⟨o,k o q1,q2⟩
 have sm3:AB H' (upd H' e (.ext (MA e C dx))):=λb o q=>by rw[B8 λz=>by rw[z,he]at q;cases q];exact q
 refine Pz (X:=Cx.hot X e) (i:=i) (v:=.ref e) (Va I3' e) hN hi (.inl hl) rfl (λs4 I4=>?_) (.inr hl)
 have x3:=gx.grow sm3;have nA:¬ Bi B Z' Y e:=gx.aok.new he;have rp:Rep X.K CL (upd H' e (.ext (MA e C dx))) (Bi B Z' Y) (.ref e) (.exc y.c y.fs):=by
  refine⟨e,C,MA e C dx,rfl,nA,hcl,Gp,λh ⟨o,z1,z2,_⟩=>⟨o,z1,z2⟩,?_⟩
  rcases hfs with z|⟨d,vs,ed,nd,hd,rf⟩
  .exact .inl z
  .exact .inr ⟨d,vs,nd,sm3 _ _ hd,Repf.kp (Kp.of sm3) _ rf,λh ⟨o,z1,_,z3,z4⟩=>⟨o,z1,z3.trans ed,z4⟩⟩
 have x4:=x3.set i rp;have fin:∀{s5:Aq}{Y5:L2.St}{H5:Hp}{Q:GJ->Aq->Prop},Inv (Cx.hot X e) pI Y5 H5 s5->(∀ s6,Inv X pI (Y5.set i Af) H5 s6->Q () s6)->Az (model X.prog X.w) X.A (do bindName X.env n .none;unbindBehindTheSuite X.env n hp) Q X.xe s5:=λ{s5 Y5 H5 Q} I5 k=>by
  have I5':=gX I1.ok I5;obtain⟨m,hn,_⟩:=id I5'.loc;refine wpAny_nameGoes_keeps hl hn (by rw[I1.ok.kind];rfl) λh6 v6 hn6 sb6=>?_
  exact k _ (eI I5' hN hi hn hn6 sb6)
 refine By (hh e Fz B pI s4 _ _ {nx:=λY5 H5=>D.nx (Y5.set i Af) H5,rt:=D.rt} I4 ⟨_,x4,?_⟩) (λf s5 hf=>?_) λ_ _ z=>Bo z
 .unfold hdO at p2;cases ef:fh (Z'.set i (Ab (.exc y.c y.fs,Ad))) with
  |next Z''=>rw[ef]at p2;exact λY5 H5 x5=>p2 _ _ (x5.unset i)
  |ret d b=>rw[ef]at p2;exact p2
  |brk _=>rw[ef]at p2;exact p2.elim
  |cont _=>rw[ef]at p2;exact p2.elim
  |exn _ _=>rw[ef]at p2;exact p2.elim
  |bad=>rw[ef]at p2;exact p2.elim
 .cases f with
  |next=>
   obtain⟨Y5,H5,I5,q⟩:=hf;exact fin I5 λs6 I6=>⟨_,H5,I6,q⟩
  |ret u=>
   obtain⟨v,Y5,H5,I5,r,q⟩:=hf;exact fin I5 λs6 I6=>⟨v,_,H5,I6,r,q⟩
  |brk=>obtain⟨_,_,_,q⟩:=hf;exact Bo q
  |cont=>obtain⟨_,_,_,q⟩:=hf;exact Bo q
def Sj(X:Cx)(CL:ClA)(up:Ag->Ac Ag)(g:Ak)(c:Ag):Prop:=∃ C',Gl X g/\X.mg g=Ab (.ref C')/\(g==("__debug__" : Ak))=Ad/\XcOk X.K C'/\∀ c' C,CL c'=Ab C->BM X.K (.ref C) (.ref C')=Ab ((up c').contains c)
theorem fK{y:Ex}{Q:Flow->Aq->Prop}{hd:Ac E7}(hx:X.ex=[])(hst:X.stack=X.env::X.outer)(hfm:X.env.frame=Ab X.env.locals)(k:∀ e T1 cls dx H' s1,Inv X pI Y H' s1->AB H H'->Fly e T1 cls dx s1.heap->IF X pI e->IF X pI T1->H' e=Af->H' T1=Af->FI X.K CL H' cls dx y->Az (model X.prog X.w) X.A (JE (.ref e) X.env hd) Q X.xe s1):Jo X CL pI Y H y (λev s1=>Az (model X.prog X.w) X.A (G2 ev X.env) (λ_ s2=>Az (model X.prog X.w) X.A (HI ev Af) (λ_ s3=>Az (model X.prog X.w) X.A (JE ev X.env hd) Q X.xe s3) X.xe s2) X.xe s1):=by
 intro s' H' e T cls dx I' sm fl he hT ae aT xr;have two:∀{T:Ah}{Z_:Ah->Prop},Z_ e->Z_ T->∀ b∈[e,T],Z_ b:=λ{T Z_} h1 h2 b hb=>by
  rcases AD.mp hb with rfl|hb
  .exact h1
  .rw[A2.mp hb];exact h2
 have hfr:X.A.frames=Ab (X.env::X.outer):=by rw[<-hst];exact I'.ok.frames
 refine hV (base:=X.base) hfr hfm (by rw[<-hst];exact I'.stack) fl λh1 T1 fl1 sh1 hT1=>?_
 rw[<-hst]at sh1;exact k e T1 cls dx H' _ (Tx I' hx sh1 (two ae aT) (two (Z_:=λb=>H' b=Af) he hT)) sm fl1 ae (hT1.elim (λz=>z ▸ aT) λz=>PY I' hx z) he (hT1.elim (λz=>z ▸ hT) λz=>M7 I'.hok z) xr
theorem rP{c i:Ag}{g n:Ak}{body:Ac AN}{p1 hp:AJ}{fb:Rho->O}(hx:X.ex=[])(hst:X.stack=X.env::X.outer)(hfm:X.env.frame=Ab X.env.locals)(hN:X.N.Nodup)(hi:X.N[i]?=Ab n)(hl:X.env.scope.names.lookup n=Ab .local)(h1:Sj X CL up g c)(hb:STB X CL body fb)(hρ:∀ Z y Z',fb Z=.exn y Z'->Z'=Z)(hh:∀ e,SSs (Cx.hot X e) CL (λ_ _=>AU) (h0::hs) fh):SS X CL W (.Try body [.ExceptHandler (Ab (.Name g p1)) (Ab n) (h0::hs) hp] [] [] pos) (λZ=>RH up c i (fb Z) fh):=λFz B pI s Y H D I ⟨Z,x,p⟩=>by
 refine wpAny_Try_except (By (hb Fz B pI s Y H D Z _ PassesOwn.looking I x ?_ (hρ Z)) (λf s1 hf=>?_) λ_ _ z=>z)
 .dsimp only at p;cases eb:fb Z with
  |exn y Z'=>
   rw[eb]at p;intro e0;subst e0;have p2:Bs X.K CL Fz B W (if (up y.c).contains c=Aa then hdO i y Z' fh else .bad) D:=p
   refine fK hx hst hfm λe T1 cls dx H' s1 I1 sm fl1 ae aT1 he HT1 xr=>?_
   have gx:=x.grow sm;obtain⟨C,hcl,rfl,_⟩:=xr (Bi B Z' Y) gx.aok;obtain⟨C',hg,hm,hdb,xc,hup⟩:=h1;refine pQ (W:=W) hx hN hi hl hg hm hdb xc (hup y.c C hcl) hh I1 fl1 ae aT1 he HT1 gx hcl xr (λhc=>?_) (λhc=>?_)
   .rw[Ax hc]at p2;exact p2
   .rw[Ay (by rw[hc];exact Av)]at p2;exact p2.elim
  |next Z'=>rw[eb]at p;exact p
  |ret d b=>rw[eb]at p;exact p
  |brk Z'=>rw[eb]at p;exact p
  |cont Z'=>rw[eb]at p;exact p
  |bad=>rw[eb]at p;exact p.elim
 .cases f with
  |next=>exact Fm hf
  |ret u=>exact hf
  |brk=>exact hf
  |cont=>exact hf
theorem TC{f:Ah}{E:XK}{e:Am}{es:Ac Am}{t:TA}(F:FnOk X.prog X.w X.K X.mg X.base CX k f fd ps sp)(hr:Room k X.A)(hg:Gl X x)(hm:X.mg x=Ab (.ref f))(hk:BL X.K (.ref f)=Aa)(hb:EZ X.K fd ps [])(hx:∀ pI H s e s',Inv X pI Y0 H s->CX X.stack H s E e s'->X.xe e s')(ha:PA X (e::es) t)(hdb:(x==("__debug__" : Ak))=Ad)(he:Ar (e::es) X.env=(Ad,eval e X.env)::Ar es X.env)(hpl:(Bv pos (Ar es X.env)).any (·.1)=Ad):PE X (.Call (.Name x p) (e::es) [] pos) (λY H Q=>Y=Y0/\t Y H λvs H1=>sp vs H1 Q E):=by
 intro pI s Y H Q I ⟨e0,h⟩;subst e0;refine EA (K8 I hg hm ?_ hdb);refine G1 (h₀:=X.base) I.ok.mod.kin hk (thn (ha pos pI s Y H _ I h) λus s1 ⟨vs,H1,I1,r,q⟩=>⟨I1.kIn,?_⟩) he hpl
 have hl:us.length=ps.length:=by rw[<-r.length];exact F.len _ _ _ _ q
 have hb':FA s1 fd ⟨us,[]⟩ (ps.zip us):=by
  have:=hb s1 us I1.kIn (by rw[Bp];exact hl)
  rw[Bp]at this;exact this
 refine Kw (Gm (F.run X.A X.stack s1 H1 ⟨us,[]⟩ us vs Q E hr I1.env0 hb' r q) λr s' hq=>?_)
 cases r with
 |error e=>exact hx pI H1 s1 e s' I1 hq
 |ok fl=>
  cases fl with
  |ret u=>exact I1.after hq
  |next=>exact Bo hq
  |brk=>exact Bo hq
  |cont=>exact Bo hq
def NK(K:Fg)(CL:ClA)(Rp:Hp->V->D->Prop)(E0:XK)(H:Hp)(r:R D)(Q:VK):Prop:=match r with
  |.ok d=>∀ v H',AB H H'->Rp H' v d->Q v H'
  |.exn y=>∀ cls dx H',AB H H'->FI K CL H' cls dx y->E0 cls dx H'
  |.bad=>AU
theorem L8{k n:Ag}{f:Ah}{e:Am}{es:Ac Am}{fs ft:Rho->R (Ac D)}{sh:Rho->Ai}{E0:XK}(G:FnOk X.prog X.w X.K X.mg X.base CX k f fd ps (spD X.K CL n fr F))(hr:Room k X.A)(hg:Gl X x)(hm:X.mg x=Ab (.ref f))(hk:BL X.K (.ref f)=Aa)(hb:EZ X.K fd ps [])(hx:∀ pI H s e s',Inv X pI Y0 H s->CX X.stack H s E0 e s'->X.xe e s')(ha:SA X CL (λ_ _=>AU) (e::es) fs)(hat:SAT X CL (λ_ _=>AU) (e::es) ft)(hst:∀ Z,sh Z=Aa->ft Z=fs Z)(hn:∀ Z ds,ft Z=.ok ds->ds.length=n)(hnx:∀ Z y,ft Z≠.exn y)(hdb:(x==("__debug__" : Ak))=Ad)(he:Ar (e::es) X.env=(Ad,eval e X.env)::Ar es X.env)(hpl:∀ pos,(Bv pos (Ar es X.env)).any (·.1)=Ad)(A:Ah->Prop):PE X (.Call (.Name x p) (e::es) [] pos) (λY H Q=>Y=Y0/\AOk H A/\∃ Z,Good X.K CL A Z Y H/\NK X.K CL (Eu X.K CL fr H A) E0 H ((ft Z).bind λds=>(F ds).bind λd=>if sh Z=Aa then .ok d else if F4 fr d=Aa then .ok d else .bad) Q):=λpI s Y H Q I ⟨e0,hA,Z,gd,q⟩=>by
 by_cases hs:sh Z=Aa
 .rw[hst Z hs]at q;refine TC G hr hg hm hk hb hx (ha A) hdb he (hpl _) pI s Y H Q I ⟨e0,hA,Z,gd,?_⟩;cases e1:fs Z with
  |bad=>rw[e1]at q;exact q
  |exn y=>exact absurd (by rw[hst Z hs];exact e1) (hnx Z y)
  |ok ds=>
   rw[e1]at q;intro vs H1 s1 r1;refine⟨ds,A,by rw[r1.length];exact hn Z ds (by rw[hst Z hs];exact e1),hA.same s1,r1,?_⟩
   have q':NK X.K CL (Eu X.K CL fr H A) E0 H ((F ds).bind λd=>if sh Z=Aa then .ok d else if F4 fr d=Aa then .ok d else .bad) Q:=q
   cases e2:F ds with
   |ok d=>
    rw[e2,R.bind_ok,Ax hs]at q';exact λv H2 s2 ⟨r2,_⟩=>q' v H2 (s1.trans s2) ⟨r2.1,λz ds' e'=>let ⟨a,xs,z1,z2,z3⟩:=r2.2 z ds' e';⟨a,xs,z1,s1.free z2,z3⟩⟩
   |exn y=>
    rw[e2]at q';exact λcls dx H2 s2 xr=>q' cls dx H2 (s1.trans s2) xr
   |bad=>rw[e2]at q';exact q'.elim
 .refine TC G hr hg hm hk hb hx (hat A) hdb he (hpl _) pI s Y H Q I ⟨e0,hA,Z,gd,?_⟩;cases e1:ft Z with
  |bad=>rw[e1]at q;exact q
  |exn y=>exact absurd e1 (hnx Z y)
  |ok ds=>
   rw[e1]at q;intro vs H1 s1 r1;refine⟨ds,A0,by rw[r1.plain.length];exact hn Z ds e1,λ_ z=>z.elim,r1.plain,?_⟩
   have q':NK X.K CL (Eu X.K CL fr H A) E0 H ((F ds).bind λd=>if sh Z=Aa then .ok d else if F4 fr d=Aa then .ok d else .bad) Q:=q
   cases e2:F ds with
   |ok d=>
    rw[e2,R.bind_ok,Ay hs]at q';split at q'
    .rename_i hc;exact λv H2 s2 ⟨r2,_⟩=>q' v H2 (s1.trans s2) (QA hA (s1.trans s2) hc ⟨r2.1,λz ds' e'=>let ⟨a,xs,z1,z2,z3⟩:=r2.2 z ds' e';⟨a,xs,z1,s1.free z2,z3⟩⟩)
    .exact q'.elim
   |exn y=>
    rw[e2]at q';exact λcls dx H2 s2 xr=>q' cls dx H2 (s1.trans s2) xr
   |bad=>rw[e2]at q';exact q'.elim
noncomputable def Cx.pw(X:Cx)(pI:Pn)(Xw:Vq):Cx:={X with pn:=X.pn++pI,xe:=Xw}
section
variable{X:Cx}{pI pins':Pn}{Y:L2.St}{H:Hp}{s:Aq}{Xw:Vq}
theorem yH(ok:X.Ok):(Cx.pw X pI Xw).Ok:=⟨ok.mod,ok.kind,ok.glob,ok.blt,ok.above,ok.inj,ok.has,ok.cab,ok.hd,ok.frames,ok.stk,ok.exf,ok.bs,ok.bsz,ok.noex,ok.exfs,ok.funs,ok.frf⟩
theorem J8(I:Inv X pI Y H s)(Xw:Vq):Inv (Cx.pw X pI Xw) [] Y H s:=⟨yH I.ok,I.os,I.bare,I.base,I.loc,I.cell,I.free,I.freeC,λp hp=>I.pin p (by
 rcases Dj.mp hp with z|z
 .exact z
 .exact absurd z (by simp)),I.hok,I.len⟩
theorem K0(ok:X.Ok)(I:Inv (Cx.pw X pI Xw) pins' Y H s):Inv X pI Y H s:=⟨ok,I.os,I.bare,I.base,I.loc,I.cell,I.free,I.freeC,λp hp=>I.pin p (Gb _ hp),I.hok,I.len⟩
theorem K5(ok:X.Ok){D:Ends}{f:Flow}{s':Aq}(h:SP (Cx.pw X pI Xw) pins' D f s'):SP X pI D f s':=by
 cases f with
 |next=>obtain⟨Y',H',I,q⟩:=h;exact⟨Y',H',K0 ok I,q⟩
 |brk=>obtain⟨Y',H',I,q⟩:=h;exact⟨Y',H',K0 ok I,q⟩
 |cont=>obtain⟨Y',H',I,q⟩:=h;exact⟨Y',H',K0 ok I,q⟩
 |ret u=>obtain⟨v,Y',H',I,r,q⟩:=h;exact⟨v,Y',H',K0 ok I,r,q⟩
end
section
variable{X:Cx}{CL:ClA}{k n:Ag}{fr:Ai}{f:Ah}{fd:BO}{ps:Ac Ak}{F:Ac D->R D}{x:Ak}{p pos pos2:AJ}{e:Am}{es:Ac Am}{fs ft:Rho->R (Ac D)}{sh:Rho->Ai}
theorem P6{y:Ex}(hx:X.ex=[])(ok:X.Ok)(q:Jo X CL pI Y H y Xw):∀ pins' H1 s1 e s',Inv (Cx.pw X pI Xw) pins' Y H1 s1->CXR X.prog X.w (Cx.pw X pI Xw).stack H1 s1 (λcls dx H'=>FI X.K CL H' cls dx y/\AB H H') e s'->(Cx.pw X pI Xw).xe e s':=by
 intro pins' H1 s1 ev s' J h;obtain⟨e,T,cls,dx,H',rfl,os,bare,un,hok,fl,he,hT,ne,nT,xr,sm⟩:=h;have J':=K0 ok J;have J2:=J'.call' (s':=s') (ch:=[]) os un hok bare (λb z=>absurd z (by simp))
 exact q s' H' e T cls dx J2 sm fl he hT (PY J' hx ne) (PY J' hx nT) xr
theorem P7:∀ pins' H1 s1 e s',Inv (Cx.pw X pI Xw) pins' Y H1 s1->CXR X.prog X.w (Cx.pw X pI Xw).stack H1 s1 (λ_ _ _=>AU) e s'->(Cx.pw X pI Xw).xe e s':=by
 intro pins' H1 s1 ev s' J h;obtain⟨e,T,cls,dx,H',rfl,os,bare,un,hok,fl,he,hT,ne,nT,w⟩:=h;exact w.elim
variable(hx0:X.ex=[])(G:FnOk X.prog X.w X.K X.mg X.base (CXR X.prog X.w) k f fd ps (spD X.K CL n fr F))(hr:Room k X.A)(hg:Gl X x)(hm:X.mg x=Ab (.ref f))
    (hk:BL X.K (.ref f)=Aa) (hb:EZ X.K fd ps []) (hst:∀ Z,sh Z=Aa->ft Z=fs Z) (hn:∀ Z ds,ft Z=.ok ds->ds.length=n) (hnx:∀ Z y,ft Z≠.exn y)
    (hdb:(x==("__debug__" : Ak))=Ad) (he:Ar (e::es) X.env=(Ad,eval e X.env)::Ar es X.env) (hpl:∀ pos,(Bv pos (Ar es X.env)).any (·.1)=Ad)
    (ha:∀ pI Xw,DH (model X.prog X.w) X.A X.env Xw->SA (Cx.pw X pI Xw) CL (λ_ _=>AU) (e::es) fs/\SAT (Cx.pw X pI Xw) CL (λ_ _=>AU) (e::es) ft)
include hx0 G hr hg hm hk hb hst hn hnx hdb he hpl ha
theorem fN(hs:Cd (.Call (.Name x p) (e::es) [] pos) Af pos2.line X.env=pure Ad):STB X CL [.Expr (.Call (.Name x p) (e::es) [] pos) pos2] (λZ=>O.of Z ((ft Z).bind λds=>(F ds).bind λd=>if sh Z=Aa then .ok d else if F4 fr d=Aa then .ok d else .bad) λ_=>.next Z):=by
 intro Fz B pI s Y H D Z Xw own I sx q _;obtain⟨ha1,ha2⟩:=ha pI Xw own;dsimp only at q;cases er:(ft Z).bind λds=>(F ds).bind λd=>if sh Z=Aa then .ok d else if F4 fr d=Aa then .ok d else .bad with
 |bad=>rw[er]at q;exact q.elim
 |exn y=>
  rw[er]at q;have key:=L8 (X:=Cx.pw X pI Xw) (p:=p) (pos:=pos) (Y0:=Y) (fr:=fr) (F:=F) (n:=n) (sh:=sh) G hr hg hm hk hb (P6 hx0 I.ok (q rfl)) ha1 ha2 hst hn hnx hdb he hpl (Bi B Z Y);refine By (Jf (Jg (pos:=pos2) key hs) [] s Y H D (J8 I Xw) ⟨rfl,sx.aok,Z,sx.good,?_⟩) (λ_ _ z=>K5 I.ok z) λ_ _ z=>z
  rw[er];exact λcls dx H' sm xr=>⟨xr,sm⟩
 |ok d=>
  rw[er]at q;have key:=L8 (X:=Cx.pw X pI Xw) (p:=p) (pos:=pos) (Y0:=Y) (fr:=fr) (F:=F) (n:=n) (sh:=sh) (E0:=λ_ _ _=>AU) G hr hg hm hk hb P7 ha1 ha2 hst hn hnx hdb he hpl (Bi B Z Y)
  refine By (Jf (Jg (pos:=pos2) key hs) [] s Y H D (J8 I Xw) ⟨rfl,sx.aok,Z,sx.good,?_⟩) (λ_ _ z=>K5 I.ok z) λ_ _ z=>z
  rw[er];exact λv H' sm r=>q Y H' (sx.grow sm)
theorem jN{i:Ag}{m:Ak}(hN:X.N.Nodup)(hi:X.N[i]?=Ab m)(hl:Loc X.env.scope m)(hf:X.fn m=Aa\/X.env.scope.names.lookup m=Ab .local)(hs:Cd (.Call (.Name x p) (e::es) [] pos) (Ab (.Name m pos')) pos2.line X.env=pure Ad):STB X CL [.Assign [.Name m pos'] (.Call (.Name x p) (e::es) [] pos) pos2] (λZ=>O.of Z ((ft Z).bind λds=>(F ds).bind λd=>if sh Z=Aa then .ok d else if F4 fr d=Aa then .ok d else .bad) λd=>.next (Z.set i (Ab (d,Ad)))):=by
 intro Fz B pI s Y H D Z Xw own I sx q _;obtain⟨ha1,ha2⟩:=ha pI Xw own;dsimp only at q;cases er:(ft Z).bind λds=>(F ds).bind λd=>if sh Z=Aa then .ok d else if F4 fr d=Aa then .ok d else .bad with
 |bad=>rw[er]at q;exact q.elim
 |exn y=>
  rw[er]at q;have key:=L8 (X:=Cx.pw X pI Xw) (p:=p) (pos:=pos) (Y0:=Y) (fr:=fr) (F:=F) (n:=n) (sh:=sh) G hr hg hm hk hb (P6 hx0 I.ok (q rfl)) ha1 ha2 hst hn hnx hdb he hpl (Bi B Z Y);refine By (Jf (Jj (X:=Cx.pw X pI Xw) (i:=i) (pos:=pos2) hN hi hl key hs hf) [] s Y H D (J8 I Xw) ⟨rfl,sx.aok,Z,sx.good,?_⟩) (λ_ _ z=>K5 I.ok z) λ_ _ z=>z
  rw[er];exact λcls dx H' sm xr=>⟨xr,sm⟩
 |ok d=>
  rw[er]at q;have key:=L8 (X:=Cx.pw X pI Xw) (p:=p) (pos:=pos) (Y0:=Y) (fr:=fr) (F:=F) (n:=n) (sh:=sh) (E0:=λ_ _ _=>AU) G hr hg hm hk hb P7 ha1 ha2 hst hn hnx hdb he hpl (Bi B Z Y)
  refine By (Jf (Jj (X:=Cx.pw X pI Xw) (i:=i) (pos:=pos2) hN hi hl key hs hf) [] s Y H D (J8 I Xw) ⟨rfl,sx.aok,Z,sx.good,?_⟩) (λ_ _ z=>K5 I.ok z) λ_ _ z=>z
  rw[er];exact λv H' sm r=>q _ H' ((sx.grow sm).set i r.1)
end
section
variable{X:Cx}{CL:ClA}{W:XW}
theorem fP{cpos:AJ}{e:Am}{es:Ac Am}(hcalm:X.calm=Aa)(rz:MB X CL W)(hg:Gl X g)(hm:X.mg g=Ab (.ref C))(hdb:(g==("__debug__" : Ak))=Ad)(xc:D8 X.K C Af=Aa)(hcl:CL c=Ab C)(ha:SA X CL W (e::es) fs)(hxn:∀ ds,xn c ds=.bad\/xn c ds=.ok ⟨c,[]⟩)(he:Ar (e::es) X.env=(Ad,eval e X.env)::Ar es X.env)(hpl:∀ pos,(Bv pos (Ar es X.env)).any (·.1)=Ad)(hz:∀ Z ds,fs Z=.ok ds->ds.length<=100000):SS X CL W (.Raise (Ab (.Call (.Name g np) (e::es) [] cpos)) Af pos) (λZ=>O.of Z (noX (fs Z)) λxs=>O.of Z (xn c xs) λx=>.exn x Z):=λFz B pI s Y H D I ⟨Z,x,p⟩=>by
 dsimp only at p;cases e1:fs Z with
 |bad=>rw[e1]at p;exact p.elim
 |exn y=>rw[e1]at p;exact p.elim
 |ok ds=>
  rw[e1]at p;have p2:Bs X.K CL Fz B W (O.of Z (xn c ds) λx=>.exn x Z) D:=p
  rcases hxn ds with e2|e2
  .rw[e2]at p2;exact p2.elim
  .rw[e2]at p2;have p3:∀ H,(∀ b o,Fz b o->H b=Ab o)->W ⟨c,[]⟩ H:=p2;obtain⟨bm,N,nm,qn,bs,hd,sn,sub,ab,col,dd,k0,k1,k2,k3,k5,mN,hob,hni,hbase⟩:=UH I.kIn xc;refine wpAny_Raise_call_subT (bmB:=veB) (nm:=nm) (q:=qn) (C:=C) (N:=N) (bs:=bs) (bm:=bm) (hdct:=hd) (sn:=sn) (sub:=sub) (ab:=ab) (col:=col) (dd:=dd) (k0:=k0) (k1:=k1) (k2:=k2) (k3:=k3) (k5:=k5) (mN:=mN) PySem.F.excBase_ValueError hbase (I.ok.hd hcalm) (by rw[he];show (Ad||(Bv cpos (Ar es X.env)).any (·.1))=Ad;rw[hpl];rfl) hni ?_
   refine K8 I hg hm ⟨rfl,?_⟩ hdb;have q1:=ha (Bi B Z Y) cpos pI s Y H (λvs H1=>AB H H1/\vs.length=ds.length) I ⟨x.aok,Z,x.good,by rw[e1];exact λvs H1 s1 r1=>⟨s1,r1.length⟩⟩
   rw[he]at q1 ⊢;refine Ge (By q1 (λus s2 ⟨vs,H2,I2,r2,s2',hl⟩=>⟨rfl,?_⟩) λ_ _ z=>z)
   obtain⟨o1,o2,o3⟩:=hob _ I2.kIn;refine⟨?_,o1,o2,o3,λh' ev hmade=>?_⟩
   .rw[<-r2.length,hl,Eb];have:=hz Z ds e1;omega
   .obtain⟨t,ge,_⟩:=hmade.there;have I3:Inv X pI Y H2 {s2 with heap:=h'}:=I2.kept (t':=s2.toks) hmade.keeps
    exact rz pI Y H2 _ ev C Af t ⟨c,[]⟩ I3 (λhx=>KU I2 hx hmade.new) (M7 I2.hok hmade.new) ge (λA _=>⟨C,hcl,rfl,.inl rfl⟩) (p3 H2 λb o z=>s2' _ _ (x.same b o z))
def Mi(K:Fg)(CL:ClA)(up:Ag->Ac Ag)(c':Ag)(C':Ah):Prop:=∀ c C,CL c=Ab C->CM K (.ref C) (.ref C')=Ab ((up c).contains c')
theorem Ux{s:Aq}{cv:Aj}{b:Ai}{Q:VK}(I:Inv X pI Y H s)(ha:H a=Ab (.ext φ))(hφ:∀ h,φ h->∃ o,h.get? a=Ab o/\o.cls=.ref C)(xc:XcOk X.K C)(e:CM X.K (.ref C) cv=Ab b)(q:Q (.bl b) H):
  Az (model X.prog X.w) X.A (call (.builtin "isinstance") [.ref a,cv]) (EP X pI Y Q) X.xe s:=by
 have p:XAt a C s.heap:=hφ _ (I.hok a _ ha).1;exact PySem.W.kia_one (Uw xc) I.kIn p e (by intro z;cases z) λtk=>⟨.bl b,H,I.tok tk,rfl,q⟩
theorem Tk:∀(Cs:Ac Ah){its:Ac Aj},A6 (Cs.map V.ref) its->its=Cs.map Du
 |[],_,rv=>by cases rv;rfl
 |c::cs,_,rv=>by
  cases rv with
  |cons h1 h2=>rw[Tk cs h2];cases h1;rfl
theorem pK{s:Aq}{tp:Ah}{Cs:Ac Ah}{b:Ai}{Q:VK}(I:Inv X pI Y H s)(ha:H a=Ab (.ext φ))(hφ:∀ h,φ h->∃ o,h.get? a=Ab o/\o.cls=.ref C)(xc:XcOk X.K C)(ht:H tp=Ab (.tup (Cs.map V.ref)))(e:Ib X.K (.ref C) (Cs.map Du)=Ab b)(q:Q (.bl b) H):
  Az (model X.prog X.w) X.A (call (.builtin "isinstance") [.ref a,.ref tp]) (EP X pI Y Q) X.xe s:=by
 have p:XAt a C s.heap:=hφ _ (I.hok a _ ha).1;obtain⟨_,its,rv,⟨o,ho,hc,n,hd⟩⟩:=I.hok tp _ ht;have ei:its=Cs.map Du:=Tk Cs rv;subst ei;obtain⟨cls,dd,dat,sl⟩:=o;have hc':cls=.type "tuple" := hc;have hd':dat=.seq (Fp (Cs.map Du)) n:=hd;subst hc' hd';exact PySem.W.kia_tup (Uw xc) I.kIn p ho e (by intro z;cases z) λtk=>⟨.bl b,H,I.tok tk,rfl,q⟩
theorem U_8{K:Fg}{up:Ag->Ac Ag}{c:Ag}{C:Ah}(h:CL c=Ab C):∀(cs:Ac (Ag×Ah)),(∀ p∈cs,Mi K CL up p.1 p.2)->Ib K (.ref C) ((cs.map λq:Ag×Ah=>q.2).map Du)=Ab (cs.any λp=>(up c).contains p.1)
  |[],_=>rfl
  |p::cs,hk=>by
    have h1:=hk p AA c C h;have h2:=U_8 h cs λq hq=>hk q (Aw _ hq)
    show (match CM K (.ref C) (.ref p.2) with
      |some Aa=>Ab Aa
      |some Ad=>Ib K (.ref C) ((cs.map λq:Ag×Ah=>q.2).map Du)
      | none=>Af)=_
    rw[h1,FS];cases (up c).contains p.1 with
    |true=>rfl
    |false=>rw[h2];rfl
theorem Pt{ks:Ac Ki}{Rp:Hp->V->D->Prop}{Q:VK}(hk:ks.all Ek=Aa)(hne:ks≠[])(p:Ba Rp W H (EG up ks d) Q):∃ c fs,d=.exc c fs/\Ba Rp W H (.ok (.bl (ks.any λk=>kiD up k d))) Q:=by
 have ha:ks.any Ek=Aa:=by
  cases ks with
  |nil=>exact absurd rfl hne
  |cons k ks=>simp only[DS,Al]at hk;simp[FS,hk.1]
 cases d with
 | exc c fs=>exact⟨c,fs,rfl,by
   have p':Ba Rp W H (if ks.all Ek=Aa then .ok (.bl (ks.any λk=>kiD up k (.exc c fs))) else .bad) Q:=p
   rw[Ax hk]at p';exact p'⟩
 |obj c fs=>exact Bo p
 |dic _=>exact Bo p
 |non=>simp only[EG,ha,ER]at p;exact Bo p
 |bl _=>simp only[EG,ha,ER]at p;exact Bo p
 |int _=>simp only[EG,ha,ER]at p;exact Bo p
 |str _=>simp only[EG,ha,ER]at p;exact Bo p
 |tup _=>simp only[EG,ha,ER]at p;exact Bo p
 |lst _=>simp only[EG,ha,ER]at p;exact Bo p
theorem Qa{v:V}{fs:Ac (Ak×D)}(r:Cj K CL H A v (.exc c fs)):∃ a C φ,v=.ref a/\CL c=Ab C/\H a=Ab (.ext φ)/\∀ h,φ h->∃ o,h.get? a=Ab o/\o.cls=.ref C:=by
 rcases r with ⟨a,C,φ,e,_,hc,hH,hφ,_⟩|⟨_,_,_,_,⟨_,_,_,z,_⟩|⟨_,_,_,z,_⟩⟩
 .exact⟨a,C,φ,e,hc,hH,hφ⟩
 .cases z
 .cases z
variable{a:Am}{fa:Rho->R D}{up:Ag->Ac Ag}{x:Ak}{p p2 pos:AJ}
theorem rA{c':Ag}(hxc:∀ c C,CL c=Ab C->XcOk X.K C)(hg:Gl X "isinstance")(hm:X.mg "isinstance" = Af)(hg2:Gl X x)(hm2:X.mg x=Ab (.ref C'))(hkit:Mi X.K CL up c' C')(hdb:(x==("__debug__" : Ak))=Ad)(ha:ST X CL W a fa)(he:Ar [a,.Name x p2] X.env=(Ad,eval a X.env)::Ar [.Name x p2] X.env):SE X CL W (.Call (.Name "isinstance" p) [a,.Name x p2] [] pos) (λZ=>(fa Z).bind λx=>EG up [.cls c'] x):=λA=>
 PE.weak (L9 (r:=λxs H Q=>∃ a C φ c,xs=[.ref a,.ref C']/\CL c=Ab C/\H a=Ab (.ext φ)/\(∀ h,φ h->∃ o,h.get? a=Ab o/\o.cls=.ref C)/\Q (.bl ((up c).contains c')) H) (λpI s Y H xs us Q I r ⟨b,C,φ,c,e,hc,hH,hφ,q⟩=>by
   subst e;obtain⟨u,w',rfl,r1,r2⟩:=NC r;cases r1;cases r2;exact Ux I hH hφ (hxc c C hc) (hkit c C hc) q)
  hg hm Gd (DL (ha A) (DL (Qb (v:=.ref C') hg2 hm2 rfl hdb) Fh rfl) he) (by decide) (by decide) he rfl) λY H Q ⟨hA,Z,g,q⟩=>⟨hA,Z,g,Ba.bind q λd v H1 _ s1 r1 p1=>by
   obtain⟨c,fs,rfl,p2⟩:=Pt (by rfl) (by simp) p1
   obtain⟨b,C,φ,rfl,hc,hH,hφ⟩:=Qa r1;refine⟨b,C,φ,c,rfl,hc,hH,hφ,p2 _ H1 (AB.refl H1) ?_⟩;exact congrArg V.bl (DR _).symm⟩
theorem qX(hxc:∀ c C,CL c=Ab C->XcOk X.K C)(hg:Gl X "isinstance")(hm:X.mg "isinstance" = Af)(hg2:Gl X "ValueError")(hm2:X.mg "ValueError" = Af)(ha:ST X CL W a fa)(he:Ar [a,.Name "ValueError" p2] X.env=(Ad,eval a X.env)::Ar [.Name "ValueError" p2] X.env):SE X CL W (.Call (.Name "isinstance" p) [a,.Name "ValueError" p2] [] pos) (λZ=>(fa Z).bind λx=>EG up [.verr] x):=λA=>
 PE.weak (L9 (r:=λxs H Q=>∃ a C φ c,xs=[.ref a,.ty "ValueError"]/\CL c=Ab C/\H a=Ab (.ext φ)/\(∀ h,φ h->∃ o,h.get? a=Ab o/\o.cls=.ref C)/\Q (.bl Aa) H) (λpI s Y H xs us Q I r ⟨b,C,φ,c,e,hc,hH,hφ,q⟩=>by
   subst e;obtain⟨u,w',rfl,r1,r2⟩:=NC r;cases r1;cases r2;exact Ux I hH hφ (hxc c C hc) (hxc c C hc).ve q)
  hg hm Gd (DL (ha A) (DL (Vi (v:=.ty "ValueError") hg2 hm2 PyProof.Rows.Boot.«ValueError» rfl (by decide) (by decide)) Fh rfl) he) (by decide) (by decide) he rfl) λY H Q ⟨hA,Z,g,q⟩=>⟨hA,Z,g,Ba.bind q λd v H1 _ s1 r1 p1=>by
   obtain⟨c,fs,rfl,p2⟩:=Pt (by rfl) (by simp) p1
   obtain⟨b,C,φ,rfl,hc,hH,hφ⟩:=Qa r1;refine⟨b,C,φ,c,rfl,hc,hH,hφ,p2 _ H1 (AB.refl H1) ?_⟩;exact congrArg V.bl (DR _).symm⟩
theorem pT(up:Ag->Ac Ag)(c:Ag)(fs:Ac (Ak×D))(cs:Ac (Ag×Ah)):((cs.map λq=>Ki.cls q.1).any λk=>kiD up k (.exc c fs))=cs.any λq=>(up c).contains q.1:=Xl
def RZ(Cs:Ac Ah):TA:=λ_ H Q=>Q (Cs.map V.ref) H
theorem qY{ts:Ac Am}{cs:Ac (Ag×Ah)}(hxc:∀ c C,CL c=Ab C->XcOk X.K C)(hg:Gl X "isinstance")(hm:X.mg "isinstance" = Af)(hts:PA X ts (RZ (cs.map λq:Ag×Ah=>q.2)))(hne:cs≠[])(hl:cs.length<=1000)(hkit:∀ q∈cs,Mi X.K CL up q.1 q.2)(ha:ST X CL W a fa)(he:Ar [a,.Tuple ts kk p2] X.env=(Ad,eval a X.env)::Ar [.Tuple ts kk p2] X.env):SE X CL W (.Call (.Name "isinstance" p) [a,.Tuple ts kk p2] [] pos) (λZ=>(fa Z).bind λx=>EG up (cs.map λq=>.cls q.1) x):=λA=>
 PE.weak (L9 (r:=λxs H Q=>∃ a C φ c tp,xs=[.ref a,.ref tp]/\CL c=Ab C/\H a=Ab (.ext φ)/\(∀ h,φ h->∃ o,h.get? a=Ab o/\o.cls=.ref C)/\H tp=Ab (.tup ((cs.map λq:Ag×Ah=>q.2).map V.ref))/\Q (.bl (cs.any λq=>(up c).contains q.1)) H) (λpI s Y H xs us Q I r ⟨b,C,φ,c,tp,e,hc,hH,hφ,ht,q⟩=>by
   subst e;obtain⟨u,w',rfl,r1,r2⟩:=NC r;cases r1;cases r2;exact pK I hH hφ (hxc c C hc) ht (U_8 hc cs hkit) q)
  hg hm Gd (DL (ha A) (DL (QG hts) Fh rfl) he) (by decide) (by decide) he rfl) λY H Q ⟨hA,Z,g,q⟩=>⟨hA,Z,g,Ba.bind q λd v H1 _ s1 r1 p1=>by
   have hk:(cs.map λq=>Ki.cls q.1).all Ek=Aa:=by simp[Xj,Ek]
   obtain⟨c,fs,rfl,p2⟩:=Pt hk (by simpa using hne) p1
   obtain⟨b,C,φ,rfl,hc,hH,hφ⟩:=Qa r1;refine⟨by rw[A9,A9,Eb];omega,λt ht=>?_⟩
   have hbt:b≠t:=FG hH ht;refine⟨b,C,φ,c,t,rfl,hc,by rw[B8 hbt];exact hH,hφ,Gp,p2 _ _ (Fu ht _) ?_⟩
   exact congrArg V.bl (pT up c fs cs).symm⟩
end
theorem VP(q:D8 K C v=Aa):∃ dd cd sl bm,K.lookup C=Ab ⟨.type "type",dd,.cls cd,sl⟩/\cd.mro=.ref C::bm:=by
 unfold D8 at q;split at q
 .rename_i dd cd sl ho;split at q
  .rename_i C' bm k0 k1 k2 k3 n k5 hm hs;simp only[Al,AS,Bh]at q;obtain⟨rfl,_⟩:=q;exact⟨dd,cd,sl,bm,ho,hm⟩
  .cases q
 .cases q
theorem Nf(q:D8 K C v=Aa):∃ cd bm,Dv K C=Ab cd/\cd.mro=.ref C::bm:=by
 obtain⟨dd,cd,sl,bm,h1,h2⟩:=VP q;exact⟨cd,bm,by unfold Dv;rw[h1],h2⟩
theorem wP(q:D8 K C v=Aa):FB K (.ref C)=Ab (.type "type"):=by
 obtain⟨dd,cd,sl,bm,h1,h2⟩:=VP q;show (K.lookup C).map _=_;rw[h1];rfl
theorem pG{v:Ai}{i i':Ao Aj}(q:D8 K C i=Aa)(q':D8 K C' i'=Aa)(su:BM K (.ref C) (.ref C')=Ab v):CM K (.ref C) (.ref C')=Ab v:=by
 unfold CM;by_cases e:C=C'
 .subst e;obtain⟨cd,bm,h1,h2⟩:=Nf q;have su':CG K C (.ref C)=Ab v:=su;have:v=Aa:=by
   unfold CG at su';rw[h1,XY,h2,Ay (by simp)]at su'
   rw[<-Bg su'];simp
  rw[Ax (by simp),this]
 .rw[Ay (λz=>e (IP (AS.mp z)))]
  obtain⟨cd,bm,h1,h2⟩:=Nf q';show (if ((Dv K C').isSome&&FB K (.ref C')==Ab (.type "type"))=Aa then BM K (.ref C) (.ref C') else Af)=_
  rw[h1,wP q',Ax (by simp),su]
theorem xA(exc:D8 K C v=Aa)(ga:Bq K (.ref C) "__getattribute__" = Ab (Ab (.builtin "BaseException.__getattribute__")))(gt:Bq K (.ref C) "__getattr__" = Ab Af)(cl:Bq K (.ref C) "__class__" = Ab (Ab (.builtin "object.__class__")))(ob:CG K C (.type "object")=Ab Aa)(be:BM K (.ref C) (.type "BaseException")=Ab Aa)(sv:BM K (.ref C) (.type "ValueError")=Ab Aa):XcOk K C:=by
 obtain⟨cd,bm,h1,h2⟩:=Nf exc;refine⟨⟨v,exc⟩,ga,gt,cl,ob,be,by rw[h1];rfl,?_⟩
 unfold CM;rw[Ay (λz=>by cases AS.mp z)]
 have hm:Zp "ValueError" = Aa:=by decide+kernel
 show (if Zp "ValueError" = Aa then BM K (.ref C) (.type "ValueError") else Af)=_
 rw[Ax hm,sv]
noncomputable abbrev bR:CXT:=λ_ _ _ _ _ _=>AU
structure HotOk (P:AO) (w:AW) (K:Fg) (mg:Ak->Ao Aj) (base:AF) (k:Ag) (f:Ah) (fd:BO) (ps:Ac Ak) (sp:Sp):Prop where
 len:∀ vs H Q E,sp vs H Q E->vs.length=ps.length
 run:∀(A:AZ)(ev:Ah)(outer:Ac Ch)(s:Aq)(H:Hp)(args:Args)(us:Ac Aj)(vs:Ac V)(Q:VK)(E:XK),Room k A->Env0 P w K mg base (A.mark (Ab (.ref ev))) outer s H->FA s fd args (ps.zip us)->A6 vs us->sp vs H Q E ->
  F7 (model P w) (A.mark (Ab (.ref ev))) (.call (.ref f) args) (CR bR outer P w H s Q E) s
theorem gS{v:Ai}{i:Ao Aj}(q:D8 K C i=Aa)(mr:CG K C' (.type "object")=Ab Aa)(ty:FB K (.ref C')=Ab (.type "type"))(su:BM K (.ref C) (.ref C')=Ab v):CM K (.ref C) (.ref C')=Ab v:=by
 unfold CM;by_cases e:C=C'
 .subst e;obtain⟨cd,bm,h1,h2⟩:=Nf q;have su':CG K C (.ref C)=Ab v:=su;have:v=Aa:=by
   unfold CG at su';rw[h1,XY,h2,Ay (by simp)]at su'
   rw[<-Bg su'];simp
  rw[Ax (by simp),this]
 .rw[Ay (λz=>e (IP (AS.mp z)))]
  show (if ((Dv K C').isSome&&FB K (.ref C')==Ab (.type "type"))=Aa then BM K (.ref C) (.ref C') else Af)=_
  have cs:(Dv K C').isSome=Aa:=by
   unfold CG at mr;cases e1:Dv K C' with
   |none=>rw[e1]at mr;cases mr
   |some cd=>rfl
  rw[cs,ty,Ax (by simp),su]
def spH(K:Fg)(CL:ClA)(n:Ag)(fr:Ai)(F:Ac D->R D):Sp:=λvs H Q _=>∃(ds:Ac D)(A:Ah->Prop),vs.length=n/\AOk H A/\Reps K CL H A vs ds/\(match F ds with
  |.ok d=>∀ v H',AB H H'->Eu K CL fr H A H' v d->Q v H'
  |.exn _=>AU
  | .bad=>AU)
section
variable{X:Cx}{CL:ClA}{ev:Ah}
theorem jM{t:Am}{xs ys:Ac AN}{fx fy:Rho->O}(hc:∀ pI Xw,DH (model X.prog X.w) X.A X.env Xw->SB (Cx.pw X pI Xw) CL (λ_ _=>AU) t fc)(hnx:∀ Z y,fc Z≠.exn y)(hx:STB X CL xs fx)(hy:STB X CL ys fy):STB X CL [.If t xs ys pos] (λZ=>O.of Z (fc Z) λb=>if b=Aa then fx Z else fy Z):=by
  intro Fz B pI s Y H D Z Xw own I sx q hρ;dsimp only at q hρ;cases ec:fc Z with
  |bad=>rw[ec]at q;exact q.elim
  |exn y=>exact absurd ec (hnx Z y)
  |ok b=>
    rw[ec]at q hρ;have key:=hc pI Xw own (Bi B Z Y) [] s Y H (λb' H'=>b'=b/\AB H H') (J8 I Xw) ⟨sx.aok,Z,sx.good,by rw[ec];exact λH' sm=>⟨rfl,sm⟩⟩
    refine Ho (thn (wpAny_If (Q:=SP X pI D) (thn key λb' s1 ⟨H1,I1,e,sm⟩=>?_)) (λf s1 z=>by
      cases f with
      |next=>exact Fm z
      |ret v=>exact z
      |brk=>exact z
      | cont=>exact z))
    subst e;have J:=K0 I.ok I1;have up:∀{y:Ex},Jo X CL pI Y H y Xw->Jo X CL pI Y H1 y Xw:=λ{y} w s' H' e T cls dx a1 a2=>w s' H' e T cls dx a1 (sm.trans a2)
    have lift:∀{o:O},(match o with
       |.exn y Z'=>Z'=Z->Jo X CL pI Y H y Xw
       |o=>Bs X.K CL Fz B (λ_ _=>AU) o D)->(match o with
       |.exn y Z'=>Z'=Z->Jo X CL pI Y H1 y Xw
       | o=>Bs X.K CL Fz B (λ_ _=>AU) o D):=λ{o} z=>by
      cases o with
      |exn y Z'=>exact λe=>up (z e)
      |next _=>exact z
      |ret _ _=>exact z
      |brk _=>exact z
      |cont _=>exact z
      |bad=>exact z
    cases b' with
    |true=>exact hx Fz B pI s1 Y H1 D Z Xw own J (sx.grow sm) (lift q) hρ
    |false=>exact hy Fz B pI s1 Y H1 D Z Xw own J (sx.grow sm) (lift q) hρ
end
section
variable{M:Hf}{A:AZ}{E:Vq}{s:Aq}{env:Ch}{nm q:Ak}{C N:Ah}{bs bm bmB:Ac Aj}{hdct:Ai}{sn:Ac Ak}{sub:Ac Aj}{ab:Ai}{col:Ao Ai}{dd:Ao Ah}{k0 k1 k2 k3 k5:Ao Aj}{B newId initId:CO}
end
section
variable{prog:AO}{w:AW}{A:AZ}{E:Vq}{h:AF}{g:A7 EC}{d:HG}{t:Ag}{os:Hg}
variable{nm q:Ak}{C N fI:Ah}{bs bm bmB:Ac Aj}{hdct:Ai}{sn:Ac Ak}{sub:Ac Aj}{ab:Ai}{col:Ao Ai}{dd:Ao Ah}{k0 k1 k2 k3 k5:Ao Aj}{B newId initId:CO}{mN:Ak->Ao Aj}{rest:Ac Aj}{oI:C9}
end
section
variable{prog:AO}{w:AW}{A:AZ}{E:Vq}{s:Aq}{env:Ch}
variable{nm q:Ak}{C N fI:Ah}{bs bm bmB:Ac Aj}{hdct:Ai}{sn:Ac Ak}{sub:Ac Aj}{ab:Ai}{col:Ao Ai}{dd:Ao Ah}{k0 k1 k2 k3 k5:Ao Aj}{B newId initId:CO}{mN:Ak->Ao Aj}
end
section
variable{prog:AO}{w:AW}{A:AZ}{E:Vq}{h:AF}{g:A7 EC}{d:HG}{tk0:Ag}{os:Hg}
variable{nm q:Ak}{C N e t:Ah}{dx:Ao Ah}{bs bm bmB:Ac Aj}{hdct:Ai}{sn:Ac Ak}{sub:Ac Aj}{ab:Ai}{col:Ao Ai}{dd:Ao Ah}{k0 k1 k2 k3 k5:Ao Aj}{B newId initId:CO}
end
section
variable{X:Cx}{CL:ClA}{pI:Pn}{Y:L2.St}{H:Hp}{s:Aq}
end
section
variable{X:Cx}{CL:ClA}
end
section
variable{X:Cx}{CL:ClA}{C:Ah}{nm q:Ak}{N:Ah}{bs bm:Ac Aj}{hdct:Ai}{sn:Ac Ak}{sub:Ac Aj}{ab:Ai}{col:Ao Ai}{dd:Ao Ah}{k0 k1 k2 k3 k5:Ao Aj}
end
section
variable{prog:AO}{w:AW}{A:AZ}{E:Vq}{h:AF}{g:A7 EC}{d:HG}{tk0:Ag}{os:Hg}{K:Fg}
variable{nm q:Ak}{C N e t:Ah}{bs bm bmB:Ac Aj}{sn:Ac Ak}{sub:Ac Aj}{ab:Ai}{col:Ao Ai}{dd:Ao Ah}{k0 k1 k2 k3 k5:Ao Aj}{B newId sa owner:CO}
end
section
variable{prog:AO}{w:AW}{A:AZ}{E:Vq}{h:AF}{g:A7 EC}{d:HG}{tk0:Ag}{os:Hg}{K:Fg}
variable{nm q:Ak}{C N e t:Ah}{bs bm bmB:Ac Aj}{sn:Ac Ak}{sub:Ac Aj}{ab:Ai}{col:Ao Ai}{dd:Ao Ah}{k0 k1 k2 k3 k5:Ao Aj}{B newId sa owner:CO}
end
section
variable{X:Cx}{pI:Pn}{Y:L2.St}{H:Hp}{s:Aq}{e:Ah}
end
section
variable{X:Cx}{C:Ah}{nm q:Ak}{N:Ah}{bs bm:Ac Aj}{sn:Ac Ak}{sub:Ac Aj}{ab:Ai}{col:Ao Ai}{dd:Ao Ah}{k0 k1 k2 k3 k5:Ao Aj}
end
noncomputable def Lw(K:Fg)(C:Ah):Ai:=match K.lookup C with
  |some ⟨_,_,.cls c,_⟩=>c.hasDict
  |_=>Ad
section
variable{P:AO}{w:AW}{K:Fg}{mg:Ak->Ao Aj}{base:AF}{CL:ClA}{C fI OV:Ah}{x qual g par z f:Ak}{st:AN}{fd:BO}{k:Ag}{np apos p1 p2 p3 p4 p5 cpos p6 p7 p8 p9 p10:AJ}
variable{nm q:Ak}{N:Ah}{bs bm:Ac Aj}{sn:Ac Ak}{sub:Ac Aj}{ab:Ai}{col:Ao Ai}{dd:Ao Ah}{k0 k1 k2 k3 k5:Ao Aj}
end
section
variable{X:Cx}{CL:ClA}{W:XW}
theorem dM{cpos:AJ}{e:Am}{es:Ac Am}(hcalm:X.calm=Aa)(hx:X.ex=[])(hr:Room k X.A)(rz:MB X CL W)(hg:Gl X g)(hm:X.mg g=Ab (.ref C))(hdb:(g==("__debug__" : Ak))=Ad)(hcl:CL c=Ab C)(ha:SA X CL W (e::es) fs)(hxn:∀ ds,xn c ds=.bad\/(xn c ds=.ok ⟨c,[]⟩/\D8 X.K C Af=Aa)\/AU)(he:Ar (e::es) X.env=(Ad,eval e X.env)::Ar es X.env)(hpl:∀ pos,(Bv pos (Ar es X.env)).any (·.1)=Ad)(hz:∀ Z ds,fs Z=.ok ds->ds.length<=100000):SS X CL W (.Raise (Ab (.Call (.Name g np) (e::es) [] cpos)) Af pos) (λZ=>O.of Z (noX (fs Z)) λxs=>O.of Z (xn c xs) λx=>.exn x Z):=λFz B pI s Y H D I ⟨Z,x,p⟩=>by
 have hpl':(Bv cpos (Ar (e::es) X.env)).any (·.1)=Ad:=by rw[he];show (Ad||(Bv cpos (Ar es X.env)).any (·.1))=Ad;rw[hpl];rfl
 cases e1:fs Z with
 |bad=>dsimp only at p;rw[e1]at p;exact p.elim
 |exn y=>dsimp only at p;rw[e1]at p;exact p.elim
 |ok ds=>
  rcases hxn ds with e2|⟨e2,xc⟩|z
  .dsimp only at p;rw[e1]at p;have p2:Bs X.K CL Fz B W (O.of Z (xn c ds) λx=>.exn x Z) D:=p
   rw[e2]at p2;exact p2.elim
  .refine fP (fs:=fs) (xn:=λ_ ds'=>match xn c ds' with | .ok ⟨_,[]⟩=>.ok ⟨c,[]⟩|_=>.bad) hcalm rz hg hm hdb xc hcl ha (λds'=>by
    split
    .exact .inr rfl
    .exact .inl rfl) he hpl hz Fz B pI s Y H D I ⟨Z,x,?_⟩
   dsimp only at p ⊢;rw[e1]at p ⊢;have p2:Bs X.K CL Fz B W (O.of Z (xn c ds) λx=>.exn x Z) D:=p
   rw[e2]at p2;show Bs X.K CL Fz B W (O.of Z (match xn c ds with | .ok ⟨_,[]⟩=>(.ok ⟨c,[]⟩:R Ex)|_=>.bad) λx=>.exn x Z) D
   rw[e2];exact p2
  .exact z.elim
end
section
variable{prog:AO}{w:AW}{A:AZ}{E:Vq}{h:AF}{g:A7 EC}{d:HG}{t:Ag}{os:Hg}{K:Fg}{e C dx:Ah}{f:Ak}{mA:Ak->Ao Aj}{v:Aj}
end
section
variable{X:Cx}{CL:ClA}{W:XW}{K:Fg}{H:Hp}{A:Ah->Prop}
end
section
variable{K:Fg}{CL:ClA}{Fz:Ah->HO->Prop}{B:Ah->Prop}{Z:Rho}{Y:L2.St}{H H0 H1:Hp}{W:XW}{o:O}{D':Ends}
def Jp(K:Fg)(CL:ClA)(Fz:Ah->HO->Prop)(B:Ah->Prop)(W:XW)(Y:L2.St)(H0:Hp)(o:O)(D:Ends):Prop:=match o with
  |.next _=>∀ H,AB H0 H->D.nx Y H
  |.ret d fr=>Bs K CL Fz B W (.ret d fr) D
  |.exn x Z=>Bs K CL Fz B W (.exn x Z) D
  |_=>AU
theorem Jp.same(s:AB H0 H1)(p:Jp K CL Fz B W Y H0 o D'):Jp K CL Fz B W Y H1 o D':=by
 cases o with
 |next Z=>exact λH s'=>p H (s.trans s')
 |_=>exact p
theorem Sx.drop(x:Sx K CL Fz B Z Y H)(i:Ag){Y':L2.St}(hl:Y'.length=Y.length)(hs:∀ j,i≠j->Y'[j]?=Y[j]?):Sx K CL Fz B (Z.set i Af) Y' H:=by
 have get:∀(j:Ag)(y:D×Ai),(Z.set i Af)[j]?=Ab (Ab y)->i≠j/\Z[j]?=Ab (Ab y):=λj y h=>by
  by_cases hj:i=j
  .subst hj;have:=F0 h;cases this
  .exact⟨hj,by rw[BV hj]at h;exact h⟩
 have sub:∀ a,Bi B (Z.set i Af) Y' a->Bi B Z Y a:=λa h=>by
  rcases h with h|⟨j,e,h1,h2⟩
  .exact .inl h
  .obtain⟨hj,h1⟩:=get j _ h1;rw[hs j hj]at h2;exact .inr ⟨j,e,h1,h2⟩
 have hlen:(Z.set i Af).length=Y'.length:=by rw[AT,hl];exact x.len
 refine⟨⟨λj e h=>?_,λj e h=>?_,hlen⟩,λa h=>x.aok a (sub a h),λj e a h1 h2=>?_,λj k e f a h1 h2 h3 h4=>?_,x.same,hlen⟩
 .obtain⟨hj,h1⟩:=get j _ h;obtain⟨w',q,rw'⟩:=x.good.sh j e h1;exact⟨w',by rw[hs j hj];exact q,Rep.sub sub _ rw'⟩
 .obtain⟨hj,h1⟩:=get j _ h;obtain⟨a,u,q,ha,hh,rr⟩:=x.good.ow j e h1;exact⟨a,u,by rw[hs j hj];exact q,.inr ⟨j,e,h,by rw[hs j hj];exact q⟩,hh,rr.sub sub⟩
 .obtain⟨hj,h1⟩:=get j _ h1;rw[hs j hj]at h2;exact x.new j e a h1 h2
 .obtain⟨hj,h1⟩:=get j _ h1;obtain⟨hk,h2⟩:=get k _ h2;rw[hs j hj]at h3;rw[hs k hk]at h4;exact x.dis j k e f a h1 h2 h3 h4
end
section
variable{X:Cx}{CL:ClA}{W:XW}{st:AN}{rest:Ac AN}{f g:Rho->O}{pos:AJ}
def NS(X:Cx)(CL:ClA)(W:XW)(st:AN)(f:Rho->O):Prop:=∀ Fz B,PS X st (λD Y H=>∃ Z,Sx X.K CL Fz B Z Y H/\Jp X.K CL Fz B W Y H (f Z) D)
def NSc(X:Cx)(CL:ClA)(W:XW)(sts:Ac AN)(f:Rho->O):Prop:=∀(tail:Ac AN)(u:TS),PSs X tail u->∀ Fz B,PSs X (sts++tail) (λD Y H=>∃ Z,Sx X.K CL Fz B Z Y H/\Jp X.K CL Fz B W Y H (f Z) {D with nx:=u D})
noncomputable def Ry:O->Ai
 |.ret _ _=>Aa
 |.exn _ _=>Aa
 |.bad=>Aa
 |_=>Ad
theorem SS.ns(h:SS X CL W st f)(hn:∀ Z,Ry (f Z)=Aa):NS X CL W st f:=λFz B=>PS.weak (h Fz B) λD Y H ⟨Z,x,p⟩=>⟨Z,x,by
 have:=hn Z;cases e:f Z with
 |ret d b=>rw[e]at p;exact p
 |exn y Z'=>rw[e]at p;exact p
 |bad=>rw[e]at p;exact p
 | _=>rw[e]at this;cases this⟩
theorem bg{c:Am}{a b:Ac AN}{fa fb:Rho->O}(hc:SB X CL W c fc)(ha:NSc X CL W a fa)(hb:NSc X CL W b fb):NS X CL W (.If c a b pos) (λZ=>O.of Z (fc Z) λk=>if k=Aa then fa Z else fb Z):=λFz B pI s Y H D I ⟨Z,x,p⟩=>by
 have ha':=ha [] _ Nk Fz B;have hb':=hb [] _ Nk Fz B;rw[Bp]at ha' hb';refine Q5 (hc (Bi B Z Y)) ha' hb' pI s Y H D I ⟨x.aok,Z,x.good,?_⟩;dsimp only at p;cases e:fc Z with
 |bad=>rw[e]at p;exact p.elim
 |exn y=>rw[e]at p;exact λH' s=>p H' λb o z=>s _ _ (x.same b o z)
 |ok k=>
  rw[e,O.of_ok]at p;intro H' s;cases k with
  |true=>exact⟨Z,x.grow s,Jp.same s p⟩
  |false=>exact⟨Z,x.grow s,Jp.same s p⟩
theorem oY:NSc X CL W [] (λZ=>.next Z):=λtail u h Fz B=>PSs.weak h λD Y H ⟨Z,x,p⟩=>p H (AB.refl H)
theorem iS(h1:NS X CL W st f)(hk:∀ Z Z',f Z=.next Z'->Z'=Z)(h2:NSc X CL W rest g):NSc X CL W (st::rest) (λZ=>(f Z).seq g):=λtail u h Fz B=>PSs.weak (PF (h1 Fz B) (h2 tail u h Fz B)) λD Y H ⟨Z,x,p⟩=>⟨Z,x,by
 dsimp only at p;cases e:f Z with
 |next Z'=>
  rw[e]at p;have:=hk _ _ e;subst this;exact λH' s=>⟨Z',x.grow s,Jp.same s p⟩
 |ret d b=>rw[e]at p;exact p
 |exn y Z'=>rw[e]at p;exact p
 | _=>rw[e]at p;exact p.elim⟩
def tP1(X:Cx)(CL:ClA)(Fz:Ah->HO->Prop)(B:Ah->Prop)(Z:Rho)(Y0:L2.St)(r:R D)(b:Ai):TE:=λY H Q=>Y=Y0/\Sx X.K CL Fz B Z Y H/\match r with
  |.ok d=>∀ v H',AB H H'->Rep X.K CL H' B v d->(b=Aa->∀ ds,d=.lst ds->∃ a xs,v=.ref a/\(∀ o,¬ Fz a o)/\H' a=Ab (.lst xs)/\xs.length=ds.length)->Q v H'
  |_=>AU
def tPs(X:Cx)(CL:ClA)(Fz:Ah->HO->Prop)(B:Ah->Prop)(Z:Rho)(Y0:L2.St)(r:R (Ac (D×Ai))):TA:=λY H Q=>Y=Y0/\Sx X.K CL Fz B Z Y H/\match r with
  |.ok xs=>∀ vs H',AB H H'->Reps X.K CL H' B vs (xs.map (·.1))->(∀(k:Ag)(ds:Ac D),xs[k]?=Ab (.lst ds,Aa)->∃ a ys,vs[k]?=Ab (.ref a)/\(∀ o,¬ Fz a o)/\H' a=Ab (.lst ys)/\ys.length=ds.length)->Q vs H'
  |_=>AU
variable{Fz:Ah->HO->Prop}{B:Ah->Prop}{Z:Rho}{Y0:L2.St}{e:Am}{es:Ac Am}
theorem Wx(he:SC X CL W fr e fe):PE X e (tP1 X CL Fz B Z Y0 (noX (fe Z)) fr):=λpI s Y H Q I ⟨e0,x,p⟩=>by
 subst e0;refine he (Bi B Z Y) pI s Y H Q I ⟨x.aok,Z,x.good,?_⟩;cases e1:fe Z with
 |bad=>rw[e1]at p;exact p.elim
 |exn y=>rw[e1]at p;exact p.elim
 |ok d=>
  rw[e1]at p;refine λv H' s r=>p v H' s (Rep.sub (λa h=>.inl h) _ r.1) λz ds ed=>?_
  obtain⟨a,xs,h0,h1,h2,h3⟩:=r.2 z ds ed;refine⟨a,xs,h0,λo z=>?_,h2,h3.length⟩
  have:=x.same a o z;rw[h1]at this;cases this
theorem sH{i:Ag}(he:PE X e (Gx i)):PE X e (tP1 X CL Fz B Z Y0 (noX (Cu Z i)) (Lz Z i)):=λpI s Y H Q I ⟨e0,x,p⟩=>by
 subst e0;refine he pI s Y H Q I ?_;cases e:Cu Z i with
 |bad=>rw[e]at p;exact p.elim
 |exn z=>exact(L7 e).elim
 |ok d=>
  rw[e]at p;obtain⟨o,e⟩:=P8 e;have eo:Lz Z i=o:=by unfold Lz;rw[e]
  rw[eo]at p;cases o with
  |false=>
   obtain⟨v,q,r⟩:=x.good.sh i d e;exact⟨v,q,p v H (AB.refl H) (Rep.sub (λa h=>.inl h) _ r) λz=>nomatch z⟩
  |true=>
   obtain⟨a,u,q,ha,hh,r⟩:=x.good.ow i d e;obtain⟨n1,n2⟩:=x.new i _ a e q;refine⟨_,q,p _ H (AB.refl H) (r.rep n2 hh λa h=>.inl h) λ_ ds' e'=>?_⟩
   cases e';obtain⟨xs,rfl,r'⟩:=r.lst_of;exact⟨a,xs,rfl,n1,hh,r'.length⟩
theorem sI:PA X [] (tPs X CL Fz B Z Y0 (.ok [])):=PA.weak Fh λY H Q ⟨e0,x,p⟩=>p [] H (AB.refl H) trivial λk ds z=>by simp at z
theorem kQ{r:R D}{b:Ai}{rs:R (Ac (D×Ai))}(he:PE X e (tP1 X CL Fz B Z Y0 r b))(hs:PA X es (tPs X CL Fz B Z Y0 rs))(hst:Ar (e::es) X.env=(Ad,eval e X.env)::Ar es X.env):PA X (e::es) (tPs X CL Fz B Z Y0 (r.bind λd=>rs.bind λxs=>.ok ((d,b)::xs))):=PA.weak (DL he hs hst) λY H Q ⟨e0,x,p⟩=>⟨e0,x,by
 cases e1:r with
 |bad=>rw[e1]at p;exact p.elim
 |exn y=>rw[e1]at p;exact p.elim
 |ok d=>
  rw[e1,R.bind_ok]at p;intro v H1 s1 r1 f1;refine⟨e0,x.grow s1,?_⟩;cases e2:rs with
  |bad=>rw[e2]at p;exact p.elim
  |exn y=>rw[e2]at p;exact p.elim
  |ok xs=>
   rw[e2,R.bind_ok]at p;intro vs H2 s2 r2 f2;refine p (v::vs) H2 (s1.trans s2) ⟨r1.same s2,r2⟩ λk ds z=>?_
   cases k with
   |zero=>
    have z':(d,b)=(.lst ds,Aa):=Bg z;cases z';obtain⟨a,ys,h1,h2,h3,h4⟩:=f1 rfl ds rfl;exact⟨a,ys,by rw[h1];rfl,h2,s2 _ _ h3,h4⟩
   | succ k=>exact f2 k ds z⟩
theorem jQ{x1:Ag}{tp:AJ}{fs:Rho->R (Ac (D×Ai))}(hs:∀ Fz B Z Y0,PA X es (tPs X CL Fz B Z Y0 (fs Z)))(hz:∀ Z xs,fs Z=.ok xs->xs.length<=100000):SS X CL W (.Return (Ab (.Tuple es x1 tp)) pos) (λZ=>O.of Z (noX (fs Z)) λxs=>if xs.all IE=Aa then .ret (.tup (xs.map (·.1))) Aa else .bad):=λFz B pI s Y H D I ⟨Z,x,p⟩=>by
 refine Nu (QG (hs Fz B Z Y)) pI s Y H D I ⟨rfl,x,?_⟩;dsimp only at p;cases e:fs Z with
 |bad=>rw[e]at p;exact p.elim
 |exn y=>rw[e]at p;exact p.elim
 |ok xs=>
  rw[e]at p;have p:Bs X.K CL Fz B W (if xs.all IE=Aa then .ret (.tup (xs.map (·.1))) Aa else .bad) D:=p
  by_cases hk:xs.all IE=Aa
  .rw[Ax hk]at p;intro vs H1 s1 r1 f1;refine⟨by rw[r1.length,A9,Eb];have:=hz Z xs e;omega,λq hq=>?_⟩
   have aok:AOk H1 B:=λa h=>(x.aok.same s1) a (.inl h)
   have sm:AB H1 (upd H1 q (.tup vs)):=Fu hq _;refine p (.ref q) _ (λb o z=>sm _ _ (s1 _ _ (x.same b o z))) (JR aok hq r1) (λ_ ds' z=>by cases z) λ_ ds' z hl=>?_
   cases z;refine⟨q,vs,rfl,SqT.of Gp,r1.same sm,λk es' z=>?_⟩
   rw[Dr]at z;cases ek:xs[k]? with
   |none=>rw[ek]at z;cases z
   |some y=>
    rw[ek]at z;have z:y.1=.lst es':=Bg z;have hy:=Ec.mp hk y (D3 ek);obtain⟨d,b⟩:=y;cases z;have hb:b=Aa:=hy;subst hb;obtain⟨a,ys,h1,h2,h3,h4⟩:=f1 k es' ek;exact⟨a,ys,h1,h2,sm _ _ h3,h4⟩
  .rw[Ay hk]at p;exact p.elim
end
section
variable{X:Cx}{CL:ClA}{W:XW}
def SF(X:Cx)(CL:ClA)(W:XW)(e:Am)(f:Rho->R D):Prop:=∀ A,PE X e (λY H Q=>AOk H A/\∃ Z,Good X.K CL A Z Y H/\Ba (λH' v d=>Rep X.K CL H' A v d/\FT X.K CL A (λa=>H a=Af) H' v d) W H (f Z) Q)
theorem kC{k n:Ag}{f:Ah}{e:Am}{es:Ac Am}{fs ft:Rho->R (Ac D)}{sh:Rho->Ai}(G:FnOk X.prog X.w X.K X.mg X.base CX k f fd ps (spD X.K CL n Aa F))(hr:Room k X.A)(hg:Gl X x)(hm:X.mg x=Ab (.ref f))(hk:BL X.K (.ref f)=Aa)(hb:EZ X.K fd ps [])(hx:∀ A,J4 CX X (EKW X.K CL A W))(ha:SA X CL W (e::es) fs)(hst:∀ Z,sh Z=Aa->ft Z=fs Z)(hn:∀ Z ds,ft Z=.ok ds->ds.length=n)(hdb:(x==("__debug__" : Ak))=Ad)(he:Ar (e::es) X.env=(Ad,eval e X.env)::Ar es X.env)(hpl:∀ pos,(Bv pos (Ar es X.env)).any (·.1)=Ad):SF X CL W (.Call (.Name x p) (e::es) [] pos) (λZ=>if sh Z=Aa then (ft Z).bind F else .bad):=λA pI s Y H Q I ⟨hA,Z,gd,q⟩=>by
 dsimp only at q;by_cases hs:sh Z=Aa
 .rw[Ax hs,hst Z hs]at q;refine Qc G hr hg hm hk hb .nil (hx A) (ha A) hdb he (hpl _) pI s Y H Q I ⟨hA,Z,gd,?_⟩;cases e1:fs Z with
  |bad=>rw[e1]at q;exact q
  |exn y=>rw[e1]at q;exact q
  |ok ds=>
   rw[e1,R.bind_ok]at q;intro vs H1 s1 r1;refine⟨ds,A,by rw[Bp,r1.length];exact hn Z ds (by rw[hst Z hs];exact e1),hA.same s1,by rw[Bp];exact r1,?_⟩
   cases e2:F ds with
   |ok d=>
    rw[e2]at q;exact λv H2 s2 r2=>q v H2 (s1.trans s2) ⟨r2.1.1,(r2.2 rfl).mono λa z=>s1.free z⟩
   |exn y=>rw[e2]at q;exact λcls dx H2 s2 xr=>⟨y,xr,q H2 (s1.trans s2)⟩
   |bad=>rw[e2]at q;exact q.elim
 .rw[Ay hs]at q;exact q.elim
theorem Wm{r:R α}{f:α->O}{D':Ends}(h:Bs K CL Fz B W (O.of Z (noX r) f) D'):∃ d,r=.ok d/\Bs K CL Fz B W (f d) D':=by
 cases r with
 |ok d=>exact⟨d,rfl,h⟩
 |exn y=>exact h.elim
 |bad=>exact h.elim
theorem SE.any{e:Am}{f:Rho->R D}(h:SE X CL W e f):PE X e (λY H Q=>∃ A,AOk H A/\∃ Z,Good X.K CL A Z Y H/\Ba (λH=>Rep X.K CL H A) W H (f Z) Q):=λpI s Y H Q I ⟨A,z⟩=>h A pI s Y H Q I z
theorem SB.any{e:Am}{f:Rho->R Ai}(h:SB X CL W e f):PT X e (λY H Q=>∃ A,AOk H A/\∃ Z,Good X.K CL A Z Y H/\C5 W H (f Z) Q):=λpI s Y H Q I ⟨A,z⟩=>h A pI s Y H Q I z
def okN(Z:Rho)(o:O):Prop:=o=.next Z\/Ry o=Aa
def Ow(K:Fg)(CL:ClA)(ts:Ac Ag)(k:Ag)(g:TG)(Tg:L2.St->Hp->V->Prop):Prop:=∀ Fz B Z Y H N v d Z1 Q,Sx K CL Fz B Z Y H->Rep K CL H (Bi B Z Y) v d->FT K CL (Bi B Z Y) N H v d->Ka ts d Z=.ok Z1 ->
 (∀ Y1,Sx K CL Fz B Z1 Y1 H->(∀ H',Sx K CL Fz B Z Y H'->Sx K CL Fz B (HR ts Z) Y1 H')->(∀ ds es,d=.tup ds->ds[k]?=Ab (.lst es)->k<2->(ts.all λi=>decide (i<Z.length))=Aa->∃ a xs,Tg Y1 H (.ref a)/\N a/\H a=Ab (.lst xs)/\xs.length=es.length)->Q Y1 H)->g v Y H Q
theorem UQ{g:TG}{Tg:L2.St->Hp->V->Prop}{v0 o c e:Am}{S1:AN}{pre a b:Ac AN}{ap cp q1 q2:AJ}{fcall:Rho->R D}{fp fa fb:Rho->O}(hcall:SF X CL W v0 fcall)(k1:∀ te,PE X v0 te->PS X S1 (Mv te g))(hset:Ow X.K CL ts k g Tg)(hTm:∀ Y H H' u,AB H H'->Tg Y H u->Tg Y H' u)(hT:PE X o (λY H Q=>∃ u,Tg Y H u/\Q u H))(hp:NSc X CL W pre fp)(hpk:∀ Z,okN Z (fp Z))(hc:SB X CL W c fc)(ha:NSc X CL W a fa)(hak:∀ Z,okN Z (fa Z))(hb:NSc X CL W b fb)(hbk:∀ Z,okN Z (fb Z))(he:SE X CL W e fe)(hbase:DX o "append" X.env (eval o X.env)=eval o X.env)(hfew:((Bv cp (Ar [e] X.env)).all (λx=>!x.1)&&(FZ cp (ED [] X.env)).all (λx=>x.1.isSome)&&decide ([e].length+([]:Ac CK).length+(if ([]:Ac CK).isEmpty then 0 else 1)<30))=Aa)(hline:(ap.endLine==cp.line)=Aa)(hs:Ar [e] X.env=[(Ad,eval e X.env)])(hsw:Cd (.Call (.Attribute o "append" ap) [e] [] cp) Af q1.line X.env=pure Ad):
  SSs X CL W (S1::(pre++[.If c a (b++[.Expr (.Call (.Attribute o "append" ap) [e] [] cp) q1]) q2])) (λZ=>Kl ts (fcall Z) k fp fa fb fc fe Z):=λFz B pI s Y H D I ⟨Z,x,p⟩=>by
 have hsp:PS X (.Expr (.Call (.Attribute o "append" ap) [e] [] cp) q1) _:=Jg (NB En YU YX Tu hT (DL he.any Fh hs) hbase hfew hline hs rfl) hsw;have ha':=ha [] _ Nk Fz B;rw[Bp]at ha';unfold Kl at p;obtain⟨d,e1,p⟩:=Wm p;cases es:Ka ts d Z with
 |bad=>rw[es]at p;exact p.elim
 |exn y=>
  exfalso
  unfold Ka at es;split at es
  .cases es
  .split at es
   .split at es<;>cases es
   .cases es
  .cases es
 |ok Z1=>
 rw[es,O.of_ok]at p;refine(PF (k1 _ (hcall (Bi B Z Y))) (hp _ _ (Jf (Q5 hc.any ha' (hb _ _ (Jf hsp) Fz B))) Fz B)) pI s Y H D I ⟨x.aok,Z,x.good,?_⟩;rw[e1];intro v H1 s1 ⟨rv,ft⟩;refine hset Fz B Z Y H1 (λa=>H a=Af) v d Z1 _ (x.grow s1) rv ft es λY1 x1 hoff htg=>⟨Z1,x1,?_⟩
 have xe:∀ H',AB H H'->Sx X.K CL Fz B (HR ts Z) Y1 H':=λH' z=>hoff H' (x.grow z)
 rcases hpk Z1 with ep|ep
 rotate_left
 .cases eo:fp Z1 with
  |ret d' b'=>rw[eo]at p;exact p
  |exn y Z'=>rw[eo]at p;exact p
  |bad=>rw[eo]at p;exact p.elim
  |_=>rw[eo]at ep;cases ep
 rw[ep]at p ⊢;intro H2 s2;obtain⟨qb,e2,p⟩:=Wm (show Bs X.K CL Fz B W (O.of Z1 (noX (fc Z1)) _) D from p)
 refine⟨Bi B Z1 Y1,(x1.grow s2).aok,Z1,(x1.grow s2).good,?_⟩;rw[e2];intro H3 s3;cases qb with
 |true=>
  have p:Bs X.K CL Fz B W ((fa Z1).seq λ_=>.next (HR ts Z)) D:=p
  refine⟨Z1,(x1.grow s2).grow s3,?_⟩;rcases hak Z1 with ea|ea
  .rw[ea]at p ⊢;exact λH4 s4=>p Y1 H4 (xe H4 (((s1.trans s2).trans s3).trans s4))
  .cases eo:fa Z1 with
   |ret d' b'=>rw[eo]at p;exact p
   |exn y Z'=>rw[eo]at p;exact p
   |bad=>rw[eo]at p;exact p.elim
   |_=>rw[eo]at ea;cases ea
 |false=>
  have p:Bs X.K CL Fz B W (((fb Z1).seq λ_=>Mu ts d k (fe Z1) Z1 Z).seq λ_=>.next (HR ts Z)) D:=p
  refine⟨Z1,(x1.grow s2).grow s3,?_⟩;rcases hbk Z1 with eb|eb
  rotate_left
  .cases eo:fb Z1 with
   |ret d' b'=>rw[eo]at p;exact p
   |exn y Z'=>rw[eo]at p;exact p
   |bad=>rw[eo]at p;exact p.elim
   |_=>rw[eo]at eb;cases eb
  rw[eb]at p ⊢;intro H4 s4;have p:Bs X.K CL Fz B W ((Mu ts d k (fe Z1) Z1 Z).seq λ_=>.next (HR ts Z)) D:=p
  unfold Mu at p;cases d with
  |tup ds=>
   dsimp only at p;cases ek:ds[k]? with
   |none=>rw[ek]at p;exact p.elim
   |some dk=>
    rw[ek]at p;cases dk with
    |lst xs0=>
     dsimp only at p;cases e5:fe Z1 with
     |bad=>rw[e5]at p;exact p.elim
     |exn y=>rw[e5]at p;exact p.elim
     |ok dv=>
      rw[e5]at p;have p:Bs X.K CL Fz B W ((if (BY (xs0.length+1)&&decide (k<2)&&ts.all (λi=>decide (i<Z.length)))=Aa then O.next Z1 else .bad).seq λ_=>.next (HR ts Z)) D:=p
      by_cases hk:(BY (xs0.length+1)&&decide (k<2)&&ts.all (λi=>decide (i<Z.length)))=Aa
      .rw[Ax hk]at p;have p:Bs X.K CL Fz B W (.next (HR ts Z)) D:=p;rw[Al,Al]at hk;obtain⟨⟨hz,hk2⟩,hts⟩:=hk;obtain⟨l,xs,tg,hn,hl,hlen⟩:=htg ds xs0 rfl ek (AQ hk2) hts;have s14:=(s2.trans s3).trans s4;have hl4:=s14 _ _ hl;refine⟨.ref l,hTm _ _ _ _ s14 tg,.inl ⟨rfl,xs,SqL.of hl4⟩,Bi B Z1 Y1,(((x1.grow s2).grow s3).grow s4).aok,Z1,(((x1.grow s2).grow s3).grow s4).good,?_⟩;rw[e5];intro u H5 s5 ru;have hl5:=s5 _ _ hl4;refine⟨l,xs,u,rfl,rfl,hl5,?_,p Y1 _ (xe _ λb' o' z=>?_)⟩
       .have:=GK hz;omega
       .have ne:b'≠l:=λz'=>by rw[z',hn]at z;cases z
        rw[B8 ne];exact s5 _ _ (s14 _ _ (s1 _ _ z))
      .rw[Ay hk]at p;exact p.elim
    |_=>exact p.elim
  |_=>exact p.elim
theorem lO{i:Ag}{v:V}:∀ a,Bi B (Z.set i (Ab (d,Ad))) (Y.set i (Ab v)) a->Bi B Z Y a:=λa h=>by
 rcases h with h|⟨j,e,h1,h2⟩
 .exact .inl h
 .by_cases hj:i=j
  .subst hj;have:=F0 h1;cases this
  .rw[BV hj]at h1 h2;exact .inr ⟨j,e,h1,h2⟩
theorem kE(x k:Ag):Ow K CL [x] k (EE x) (λY H u=>∃ q us,Y[x]?=Ab (Ab (.ref q))/\SqT K H q us/\us[k]?=Ab u):=λFz B Z Y H N v d Z1 Q xx rv ft es kk=>by
 cases es;refine kk _ (xx.set x rv) (λH' y=>y.drop x (by rw[AT]) λj hj=>BV hj) λds es e ek _ hts=>?_
 subst e;obtain⟨q,us,rfl,hq,_,hi⟩:=ft ds rfl (BQ.mpr ⟨_,D3 ek,rfl⟩);obtain⟨a,xs,h1,h2,h3,h4⟩:=hi k es ek;have hx:x<Y.length:=by
  rw[<-xx.len];simpa using hts
 exact⟨a,xs,⟨q,us,BW hx,hq,h1⟩,h2,h3,h4⟩
theorem kD(x y k:Ag):Ow K CL [x,y] k (gSq K 2 (G8 (EE x) (G8 (EE y) Hy))) (λY H u=>Y[if k=0 then x else y]?=Ab (Ab u)):=λFz B Z Y H N v d Z1 Q xx rv ft es kk=>by
  unfold Ka at es;dsimp only at es;split at es
  · rename_i d1 d2;split at es
    · cases es
    · rename_i hne;have hxy:x≠y:=λz=>hne (by rw[z];exact CF y)
      cases es;have hu:∃ q us,v=.ref q/\SqT K H q us/\Reps K CL H (Bi B Z Y) us [d1,d2]/\∀(k:Ag)(es:Ac D),[d1,d2][k]?=Ab (.lst es)->∃ a xs,us[k]?=Ab (.ref a)/\N a/\H a=Ab (.lst xs)/\xs.length=es.length:=by
        cases hl:([d1,d2].any HX) with
        |true=>exact ft _ rfl hl
        |false=>
          obtain⟨q,us,e,_,hq,rs⟩:=rv;refine⟨q,us,e,hq,rs,λk es ek=>?_⟩
          have:=BQ.mpr ⟨_,D3 ek,(rfl:HX (.lst es)=Aa)⟩;rw[hl]at this;cases this
      obtain⟨q,us,rfl,hq,rs,hi⟩:=hu
      match us,rs with
      |[u1,u2],rs=>
        obtain⟨r1,r2,_⟩:=rs;refine .inl ⟨q,[u1,u2],rfl,hq,rfl,u1,[u2],rfl,u2,[],rfl,rfl,?_⟩;refine kk _ ((xx.set x r1).set y (Rep.sub lO _ r2)) (λH' z=>(z.drop x (Y':=Y.set x (Ab u1)) (by rw[AT]) λj hj=>BV hj).drop y (by rw[AT]) λj hj=>BV hj) λds es e ek hk hts=>?_
        cases e;obtain⟨a,xs,h1,h2,h3,h4⟩:=hi k es ek;refine⟨a,xs,?_,h2,h3,h4⟩;have hts':x<Y.length/\y<Y.length:=by
          rw[<-xx.len];simpa using hts
        match k,hk,h1 with
        |0,_,h1=>
          have h1:u1=.ref a:=Bg h1;subst h1;show ((Y.set x (Ab (.ref a))).set y (Ab u2))[x]?=_;rw[BV (DP hxy),BW hts'.1]
        |1,_,h1=>
          have h1:u2=.ref a:=Bg h1;subst h1;show ((Y.set x (Ab u1)).set y (Ab (.ref a)))[y]?=_;rw[BW (by rw[AT];exact hts'.2)]
  · cases es
end
section
variable{X:Cx}{CL:ClA}
def CE(X:Cx)(CL:ClA)(e:Am)(fr:Ai)(f:Rho->R D):Prop:=∀ pI Xw,DH (model X.prog X.w) X.A X.env Xw->∀ Y0 E0 A,(∀ pins' H s ev s',Inv (Cx.pw X pI Xw) pins' Y0 H s->CXR X.prog X.w X.stack H s E0 ev s'->Xw ev s') ->
 PE (Cx.pw X pI Xw) e (λY H Q=>Y=Y0/\AOk H A/\∃ Z,Good X.K CL A Z Y H/\NK X.K CL (Eu X.K CL fr H A) E0 H (f Z) Q)
theorem TD{f:Ah}{E:XK}{e:Am}{es:Ac Am}{t:TA}{i:Ae}(F:FnOk X.prog X.w X.K X.mg X.base CX k f fd ps sp)(hr:Room k X.A)(hg:Gl X x)(hm:X.mg x=Ab (.ref f))(hk:BL X.K (.ref f)=Aa)(hb:EZ X.K fd ps [.int i tk])(hx:∀ pI H s e s',Inv X pI Y0 H s->CX X.stack H s E e s'->X.xe e s')(ha:PA X (e::es) t)(hdb:(x==("__debug__" : Ak))=Ad)(he:Ar (e::es) X.env=(Ad,eval e X.env)::Ar es X.env)(hpl:(Bv pos (Ar es X.env)).any (·.1)=Ad):PE X (.Call (.Name x p) (e::es) [] pos) (λY H Q=>Y=Y0/\t Y H λvs H1=>sp (vs++[.int i]) H1 Q E):=by
 intro pI s Y H Q I ⟨e0,h⟩;subst e0;refine EA (K8 I hg hm ?_ hdb);refine G1 (h₀:=X.base) I.ok.mod.kin hk (thn (ha pos pI s Y H _ I h) λus s1 ⟨vs,H1,I1,r,q⟩=>⟨I1.kIn,?_⟩) he hpl
 have r':A6 (vs++[.int i]) (us++[.int i tk]):=r.append (.cons ⟨tk,rfl⟩ .nil);have hl:(us++[LJ i tk]).length=ps.length:=by rw[<-r'.length];exact F.len _ _ _ _ q
 have hb':=hb s1 us I1.kIn hl;refine Kw (Gm (F.run X.A X.stack s1 H1 ⟨us,[]⟩ (us++[.int i tk]) (vs++[.int i]) Q E hr I1.env0 hb' r' q) λr s' hq=>?_)
 cases r with
 |error e=>exact hx pI H1 s1 e s' I1 hq
 |ok fl=>
  cases fl with
  |ret u=>exact I1.after hq
  |next=>exact Bo hq
  |brk=>exact Bo hq
  |cont=>exact Bo hq
variable{k n:Ag}{fr:Ai}{f:Ah}{fd:BO}{ps:Ac Ak}{F:Ac D->R D}{x:Ak}{p pos pos2:AJ}{e:Am}{es:Ac Am}{fs ft:Rho->R (Ac D)}{sh:Rho->Ai}
theorem qU(G:FnOk X.prog X.w X.K X.mg X.base (CXR X.prog X.w) k f fd ps (spD X.K CL n fr F))(hr:Room k X.A)(hg:Gl X x)(hm:X.mg x=Ab (.ref f))(hk:BL X.K (.ref f)=Aa)(hb:EZ X.K fd ps [])(hst:∀ Z,sh Z=Aa->ft Z=fs Z)(hn:∀ Z ds,ft Z=.ok ds->ds.length=n)(hnx:∀ Z y,ft Z≠.exn y)(hdb:(x==("__debug__" : Ak))=Ad)(he:Ar (e::es) X.env=(Ad,eval e X.env)::Ar es X.env)(hpl:∀ pos,(Bv pos (Ar es X.env)).any (·.1)=Ad)(ha:∀ pI Xw,DH (model X.prog X.w) X.A X.env Xw->SA (Cx.pw X pI Xw) CL (λ_ _=>AU) (e::es) fs/\SAT (Cx.pw X pI Xw) CL (λ_ _=>AU) (e::es) ft):CE X CL (.Call (.Name x p) (e::es) [] pos) fr (λZ=>(ft Z).bind λds=>(F ds).bind λd=>if sh Z=Aa then .ok d else if F4 fr d=Aa then .ok d else .bad):=λpI Xw own Y0 E0 A hx=>
 L8 (X:=Cx.pw X pI Xw) (p:=p) (pos:=pos) (Y0:=Y0) (fr:=fr) (F:=F) (n:=n) (sh:=sh) G hr hg hm hk hb hx (ha pI Xw own).1 (ha pI Xw own).2 hst hn hnx hdb he hpl A
theorem uW{i:Ae}(G:FnOk X.prog X.w X.K X.mg X.base (CXR X.prog X.w) k f fd ps (spD X.K CL (n+1) fr F))(hr:Room k X.A)(hg:Gl X x)(hm:X.mg x=Ab (.ref f))(hk:BL X.K (.ref f)=Aa)(hb:EZ X.K fd ps [.int i tk])(hst:∀ Z,sh Z=Aa->ft Z=fs Z)(hn:∀ Z ds,ft Z=.ok ds->ds.length=n)(hnx:∀ Z y,ft Z≠.exn y)(hdb:(x==("__debug__" : Ak))=Ad)(he:Ar (e::es) X.env=(Ad,eval e X.env)::Ar es X.env)(hpl:∀ pos,(Bv pos (Ar es X.env)).any (·.1)=Ad)(ha:∀ pI Xw,DH (model X.prog X.w) X.A X.env Xw->SA (Cx.pw X pI Xw) CL (λ_ _=>AU) (e::es) fs/\SAT (Cx.pw X pI Xw) CL (λ_ _=>AU) (e::es) ft):CE X CL (.Call (.Name x p) (e::es) [] pos) fr (λZ=>(ft Z).bind λds=>(F (ds++[.int i])).bind λd=>if sh Z=Aa then .ok d else if F4 fr d=Aa then .ok d else .bad):=λpI Xw own Y0 E0 A hx pins' s Y H Q I ⟨e0,hA,Z,gd,q⟩=>by
 dsimp only at q;by_cases hs:sh Z=Aa
 .rw[hst Z hs]at q;refine TD (X:=Cx.pw X pI Xw) G hr hg hm hk hb hx ((ha pI Xw own).1 A) hdb he (hpl _) pins' s Y H Q I ⟨e0,hA,Z,gd,?_⟩;cases e1:fs Z with
  |bad=>rw[e1]at q;exact q
  |exn y=>exact absurd (by rw[hst Z hs];exact e1) (hnx Z y)
  |ok ds=>
   rw[e1,R.bind_ok]at q;intro vs H1 s1 r1;have rr:Reps X.K CL H1 A (vs++[.int i]) (ds++[.int i]):=r1.append ⟨rfl,trivial⟩;refine⟨ds++[.int i],A,by rw[rr.length,AM,hn Z ds (by rw[hst Z hs];exact e1)];rfl,hA.same s1,rr,?_⟩
   cases e2:F (ds++[.int i]) with
   |ok d=>
    rw[e2,R.bind_ok,Ax hs]at q;exact λv H2 s2 ⟨r2,_⟩=>q v H2 (s1.trans s2) ⟨r2.1,λz ds' e'=>let ⟨a,xs,z1,z2,z3⟩:=r2.2 z ds' e';⟨a,xs,z1,s1.free z2,z3⟩⟩
   |exn y=>rw[e2]at q;exact λcls dx H2 s2 xr=>q cls dx H2 (s1.trans s2) xr
   |bad=>rw[e2]at q;exact q.elim
 .refine TD (X:=Cx.pw X pI Xw) G hr hg hm hk hb hx ((ha pI Xw own).2 A) hdb he (hpl _) pins' s Y H Q I ⟨e0,hA,Z,gd,?_⟩;cases e1:ft Z with
  |bad=>rw[e1]at q;exact q
  |exn y=>exact absurd e1 (hnx Z y)
  |ok ds=>
   rw[e1,R.bind_ok]at q;intro vs H1 s1 r1;have rr:Reps X.K CL H1 A0 (vs++[.int i]) (ds++[.int i]):=r1.plain.append ⟨rfl,trivial⟩;refine⟨ds++[.int i],A0,by rw[rr.length,AM,hn Z ds e1];rfl,λ_ z=>z.elim,rr,?_⟩
   cases e2:F (ds++[.int i]) with
   |ok d=>
    rw[e2,R.bind_ok,Ay hs]at q;split at q
    .rename_i hc;exact λv H2 s2 ⟨r2,_⟩=>q v H2 (s1.trans s2) (QA hA (s1.trans s2) hc ⟨r2.1,λz ds' e'=>let ⟨a,xs,z1,z2,z3⟩:=r2.2 z ds' e';⟨a,xs,z1,s1.free z2,z3⟩⟩)
    .exact q.elim
   |exn y=>rw[e2]at q;exact λcls dx H2 s2 xr=>q cls dx H2 (s1.trans s2) xr
   |bad=>rw[e2]at q;exact q.elim
theorem lW(hu:X.A.units+64<Bx):OpD X CL W (B4 .Gt) (λx y=>Gw y x):=by
  intro A pI s Y H x y v u Q I rx ry ⟨hA,dx,dy,hx,hy,p⟩;dsimp only at p;unfold Gw at p;split at p
  · rename_i hk;obtain⟨rs',e,hn⟩:=Qp hk
    match rs',e,hn with
    |[b,a],e,hn=>
      cases e;have ts:=PC I (rs:=[b,a]) (ys:=[y,x]) (its:=[u,v]) ⟨hy.tI_rep,hx.tI_rep,trivial⟩ (.cons ry (.cons rx .nil)) hn;refine U_4 Aa (by omega) (ts 0 u b rfl rfl) (ts 1 v a rfl rfl) ?_
      have e2:bt2 Aa b a=ltD 1 (tI b) (tI a):=(QI b a).symm;rw[e2];exact⟨.bl _,H,I,rfl,p _ H (AB.refl H) rfl⟩
    |[],e,_=>cases e
    |[_],e,_=>cases e
    |_::_::_::_,e,_=>cases e
  · exact p.elim
theorem CE.congr{e:Am}{f g:Rho->R D}(h:CE X CL e fr f)(z:∀ Z,g Z=f Z):CE X CL e fr g:=λpI Xw own Y0 E0 A hx=>PE.weak (h pI Xw own Y0 E0 A hx) λY H Q ⟨e0,hA,Z,gd,q⟩=>⟨e0,hA,Z,gd,by rw[<-z];exact q⟩
theorem jL{i:Ag}{m:Ak}{c a b:Am}{fa fb:Rho->R D}{ip:AJ}(hx0:X.ex=[])(hc:∀ pI Xw,DH (model X.prog X.w) X.A X.env Xw->SB (Cx.pw X pI Xw) CL (λ_ _=>AU) c fc)(hnx:∀ Z y,fc Z≠.exn y){fra frb:Ai}(ha:CE X CL a fra fa)(hb:CE X CL b frb fb)(hN:X.N.Nodup)(hi:X.N[i]?=Ab m)(hl:Loc X.env.scope m)(hf:X.fn m=Aa\/X.env.scope.names.lookup m=Ab .local)(hs:Cd (.IfExp c a b ip) (Ab (.Name m pos')) pos2.line X.env=pure Ad):STB X CL [.Assign [.Name m pos'] (.IfExp c a b ip) pos2] (λZ=>O.of Z (fc Z) λk=>if k=Aa then O.of Z (fa Z) (λd=>if fra=Aa then setF Z i d else .bad) else O.of Z (fb Z) (λd=>if frb=Aa then setF Z i d else .bad)):=by
  intro Fz B pI s Y H D Z Xw own I sx q _;dsimp only at q;cases ec:fc Z with
  |bad=>rw[ec]at q;exact q.elim
  |exn y=>exact absurd ec (hnx Z y)
  |ok k=>
    rw[ec]at q;have one:∀{g:Rho->R Ov.D}{e':Am}{fr:Ai},CE X CL e' fr g->(match O.of Z (g Z) (λd=>if fr=Aa then setF Z i d else .bad) with
        |.exn y Z'=>Z'=Z->Jo X CL pI Y H y Xw
        | o=>Bs X.K CL Fz B (λ_ _=>AU) o D)->∃ te:TE,PE (Cx.pw X pI Xw) e' te/\∀ H1,AB H H1->te Y H1 λx H2=>EE i x Y H2 D.nx:=λ{g e' fr} hg z=>by
      cases er:g Z with
      |bad=>rw[er]at z;exact z.elim
      |exn y=>
        rw[er]at z;refine⟨_,hg pI Xw own Y (λcls dx H'=>FI X.K CL H' cls dx y/\AB H H') (Bi B Z Y) (P6 hx0 I.ok (z rfl)),λH1 s1=>⟨rfl,sx.aok.same s1,Z,sx.good.same s1,?_⟩⟩
        rw[er];exact λcls dx H' sm xr=>⟨xr,s1.trans sm⟩
      |ok d=>
        rw[er,O.of_ok]at z;cases fr with
        |false=>rw[Ay (by decide)]at z;exact z.elim
        |true=>
        rw[Ax rfl]at z;refine⟨_,hg pI Xw own Y (λ_ _ _=>AU) (Bi B Z Y) P7,λH1 s1=>⟨rfl,sx.aok.same s1,Z,sx.good.same s1,?_⟩⟩
        rw[er];intro v H' sm r;cases d with
        |lst ds=>
          obtain⟨a',xs,rfl,h0,h1,rs⟩:=r.2 rfl ds rfl;have z:Bs X.K CL Fz B (λ_ _=>AU) (.next (Z.set i (Ab (.lst ds,Aa)))) D:=z
          exact z _ H' (sx.setF (s1.trans sm) (s1.free h0) h1 rs)
        |_=>exact z.elim
    cases k with
    |true=>
      obtain⟨te,pe,w⟩:=one ha q;refine By (Jf (Jj (X:=Cx.pw X pI Xw) (i:=i) (pos:=pos2) hN hi hl (TB (tb:=λ_ _ _=>AU) (hc pI Xw own (Bi B Z Y)) pe λ_ _ _ _ _ _ z=>z.elim) hs hf) [] s Y H D (J8 I Xw) ⟨sx.aok,Z,sx.good,?_⟩) (λ_ _ z=>K5 I.ok z) λ_ _ z=>z
      rw[ec];exact λH1 s1=>w H1 s1
    |false=>
      obtain⟨te,pe,w⟩:=one hb q;refine By (Jf (Jj (X:=Cx.pw X pI Xw) (i:=i) (pos:=pos2) hN hi hl (TB (ta:=λ_ _ _=>AU) (hc pI Xw own (Bi B Z Y)) (λ_ _ _ _ _ _ z=>z.elim) pe) hs hf) [] s Y H D (J8 I Xw) ⟨sx.aok,Z,sx.good,?_⟩) (λ_ _ z=>K5 I.ok z) λ_ _ z=>z
      rw[ec];exact λH1 s1=>w H1 s1
end
theorem noF{P:Prop}(h:Ad=Aa):P:=nomatch h
structure Tc where
 sc:B6
 N:Ac Ak
 /-- a def's name,its number,how many parameters it has -/
 fns:Ac (Ak×Ag×Ag)
 /-- built-in names that the text does not hide -/
 bl:Ac Ak
 /-- exceptions' classes by their names: those that are raised,all that are asked for -/
 rzs:Ac (Ak×Ag)
 exs:Ac (Ak×Ag)
 /-- the text's constants -/
 gls:Ac (Ak×Ag)
noncomputable def Rr(T:Tc)(x:Ak):Ai:=match T.sc.names.lookup x with
  |some .local=>Aa
  |some .cell=>Aa
  |some .free=>Aa
  |_=>Ad
noncomputable def GS(T:Tc)(x:Ak):Ai:=match T.sc.names.lookup x with
  |some .local=>Aa
  |some .cell=>Aa
  |_=>Ad
noncomputable def glB(T:Tc)(x:Ak):Ai:=T.sc.names.lookup x==Ab .globalImplicit
noncomputable def Og:Am->Ao (Ak×AJ)
 |.Name x p=>Ab (x,p)
 |_=>Af
theorem UY{e:Am}{t:Ak×AJ}(h:Og e=Ab t):e=.Name t.1 t.2:=by
 cases e with
 |Name x p=>cases h;rfl
 |_=>exact nomatch (show Af=Ab t from h)
noncomputable def RD:Am->Ao (Am×Ac Am×AJ)
  | .Call f as ks p=>(match ks with
    |[]=>Ab (f,as,p)
    | _=>Af)
  |_=>Af
theorem kI{e:Am}{t:Am×Ac Am×AJ}(h:RD e=Ab t):e=.Call t.1 t.2.1 [] t.2.2:=by
 cases e with
 |Call f as ks p=>
  cases ks with
  |nil=>cases h;rfl
  |cons=>exact nomatch (show Af=Ab t from h)
 |_=>exact nomatch (show Af=Ab t from h)
noncomputable def RB{α:Type}:Ac α->Ao (α×α)
 |[a,b]=>Ab (a,b)
 |_=>Af
theorem iZ{l:Ac α}{t:α×α}(h:RB l=Ab t):l=[t.1,t.2]:=by
 cases l with
 |nil=>exact nomatch (show Af=Ab t from h)
 |cons a l=>
  cases l with
  |nil=>exact nomatch (show Af=Ab t from h)
  |cons b l=>
   cases l with
   |nil=>cases h;rfl
   |cons=>exact nomatch (show Af=Ab t from h)
noncomputable def RE:Am->Ao (Am×Ak×AJ)
 |.Attribute o m p=>Ab (o,m,p)
 |_=>Af
theorem kJ{e:Am}{t:Am×Ak×AJ}(h:RE e=Ab t):e=.Attribute t.1 t.2.1 t.2.2:=by
 cases e with
 |Attribute o m p=>cases h;rfl
 |_=>exact nomatch (show Af=Ab t from h)
noncomputable def xMt(e:Am):Ao (Ak×Ak×Am×Am):=(RD e).bind λc=>(RE c.1).bind λa=>(Og a.1).bind λx=>(RB c.2.1).bind λab=>if a.2.2.endLine=c.2.2.line then Ab (x.1,a.2.1,ab.1,ab.2) else Af
theorem Vz{e y v:Am}{m:Ak}(h:xMt e=Ab (x,m,y,v)):∃ p ap cp,e=.Call (.Attribute (.Name x p) m ap) [y,v] [] cp/\ap.endLine=cp.line:=by
 obtain⟨c,e1,h⟩:=Dz.mp h;obtain⟨a,e2,h⟩:=Dz.mp h;obtain⟨x',e3,h⟩:=Dz.mp h;obtain⟨ab,e4,h⟩:=Dz.mp h;by_cases hl:a.2.2.endLine=c.2.2.line
 .rw[Ax hl]at h;cases h;rw[kI e1,kJ e2,UY e3,iZ e4];exact⟨_,_,_,rfl,hl⟩
 .rw[Ay hl]at h;cases h
noncomputable def RC:Am->Ai
 |.Dict ks vs _=>ks.isEmpty&&vs.isEmpty
 |_=>Ad
theorem kH{e:Am}(h:RC e=Aa):∃ p,e=.Dict [] [] p:=by
 cases e with
 |Dict ks vs p=>
  cases ks with
  |nil=>
   cases vs with
   |nil=>exact⟨p,rfl⟩
   |cons=>exact nomatch (show Ad=Aa from h)
  |cons=>exact nomatch (show Ad=Aa from h)
 |_=>exact nomatch (show Ad=Aa from h)
noncomputable def GA(x:Ak):Ai:=!(x==("__debug__" : Ak)) && !(x==("__classdict__" : Ak)) && !(x==("__name__" : Ak))
noncomputable def isV(T:Tc)(x:Ak)(i:Ag):Ai:=T.N[i]? == Ab x&&Rr T x&&GA x
noncomputable def isB(T:Tc)(x:Ak):Ai:=T.bl.contains x&&glB T x&&GA x
theorem Bt{a b:Ai}(h:(a&&b)=Aa):a=Aa/\b=Aa:=(Al a b).mp h
theorem orT{a b:Ai}(h:(a||b)=Aa):a=Aa\/b=Aa:=(Cz a b).mp h
noncomputable def EX(e:Am)(F:Ak->Ai):Ai:=if c:e.ctorIdx=23 then YB (motive_1:=λ_=>Ai) e c λx _=>F x else Ad
theorem EW{e:Am}{F:Ak->Ai}(h:EX e F=Aa):∃ x p,e=YA x p/\F x=Aa:=by
 by_cases c:e.ctorIdx=23
 .exact YB (motive_1:=λe=>EX e F=Aa->∃ x p,e=YA x p/\F x=Aa) e c (λx p h=>⟨x,p,rfl,h⟩) h
 .exact noF ((BS c).symm.trans h)
noncomputable def ID(e:Am)(F:Const->Ai):Ai:=if c:e.ctorIdx=19 then Yt (motive_1:=λ_=>Ai) e c λc _ _=>F c else Ad
theorem JV{e:Am}{F:Const->Ai}(h:ID e F=Aa):∃ c u p,e=Ys c u p/\F c=Aa:=by
 by_cases c:e.ctorIdx=19
 .exact Yt (motive_1:=λe=>ID e F=Aa->∃ c u p,e=Ys c u p/\F c=Aa) e c (λc u p h=>⟨c,u,p,rfl,h⟩) h
 .exact noF ((BS c).symm.trans h)
noncomputable def N2(e:Am)(F:Am->Ft->Am->Ai):Ai:=if c:e.ctorIdx=2 then Yl (motive_1:=λ_=>Ai) e c λx o y _=>F x o y else Ad
theorem Up{e:Am}{F:Am->Ft->Am->Ai}(h:N2 e F=Aa):∃ x o y p,e=Yk x o y p/\F x o y=Aa:=by
 by_cases c:e.ctorIdx=2
 .exact Yl (motive_1:=λe=>N2 e F=Aa->∃ x o y p,e=Yk x o y p/\F x o y=Aa) e c (λx o y p h=>⟨x,o,y,p,rfl,h⟩) h
 .exact noF ((BS c).symm.trans h)
noncomputable def LB(e:Am)(F:Ky->Am->Ai):Ai:=if c:e.ctorIdx=3 then YJ (motive_1:=λ_=>Ai) e c λo x _=>F o x else Ad
theorem Qe{e:Am}{F:Ky->Am->Ai}(h:LB e F=Aa):∃ o x p,e=YI o x p/\F o x=Aa:=by
 by_cases c:e.ctorIdx=3
 .exact YJ (motive_1:=λe=>LB e F=Aa->∃ o x p,e=YI o x p/\F o x=Aa) e c (λo x p h=>⟨o,x,p,rfl,h⟩) h
 .exact noF ((BS c).symm.trans h)
noncomputable def Jt(e:Am)(F:BoolOp->Ac Am->AJ->Ai):Ai:=if c:e.ctorIdx=0 then Yn (motive_1:=λ_=>Ai) e c λo xs p=>F o xs p else Ad
theorem Ma{e:Am}{F:BoolOp->Ac Am->AJ->Ai}(h:Jt e F=Aa):∃ o xs p,e=Ym o xs p/\F o xs p=Aa:=by
 by_cases c:e.ctorIdx=0
 .exact Yn (motive_1:=λe=>Jt e F=Aa->∃ o xs p,e=Ym o xs p/\F o xs p=Aa) e c (λo xs p h=>⟨o,xs,p,rfl,h⟩) h
 .exact noF ((BS c).symm.trans h)
noncomputable def Ln(e:Am)(F:Am->Ac CJ->Ac Am->Ai):Ai:=if c:e.ctorIdx=15 then Yr (motive_1:=λ_=>Ai) e c λx os ys _=>F x os ys else Ad
theorem PK{e:Am}{F:Am->Ac CJ->Ac Am->Ai}(h:Ln e F=Aa):∃ x os ys p,e=Yq x os ys p/\F x os ys=Aa:=by
 by_cases c:e.ctorIdx=15
 .exact Yr (motive_1:=λe=>Ln e F=Aa->∃ x os ys p,e=Yq x os ys p/\F x os ys=Aa) e c (λx os ys p h=>⟨x,os,ys,p,rfl,h⟩) h
 .exact noF ((BS c).symm.trans h)
noncomputable def Q0(e:Am)(F:Am->Am->Am->Ai):Ai:=if c:e.ctorIdx=5 then Yv (motive_1:=λ_=>Ai) e c λt x y _=>F t x y else Ad
theorem iM{e:Am}{F:Am->Am->Am->Ai}(h:Q0 e F=Aa):∃ t x y p,e=Yu t x y p/\F t x y=Aa:=by
 by_cases c:e.ctorIdx=5
 .exact Yv (motive_1:=λe=>Q0 e F=Aa->∃ t x y p,e=Yu t x y p/\F t x y=Aa) e c (λt x y p h=>⟨t,x,y,p,rfl,h⟩) h
 .exact noF ((BS c).symm.trans h)
noncomputable def Mr(e:Am)(F:Am->Ac Am->Ac CK->AJ->Ai):Ai:=if c:e.ctorIdx=16 then Yp (motive_1:=λ_=>Ai) e c λf as ks p=>F f as ks p else Ad
theorem PL{e:Am}{F:Am->Ac Am->Ac CK->AJ->Ai}(h:Mr e F=Aa):∃ f as ks p,e=Yo f as ks p/\F f as ks p=Aa:=by
 by_cases c:e.ctorIdx=16
 .exact Yp (motive_1:=λe=>Mr e F=Aa->∃ f as ks p,e=Yo f as ks p/\F f as ks p=Aa) e c (λf as ks p h=>⟨f,as,ks,p,rfl,h⟩) h
 .exact noF ((BS c).symm.trans h)
noncomputable def N3(e:Am)(F:Am->Ak->AJ->Ai):Ai:=if c:e.ctorIdx=20 then Yj (motive_1:=λ_=>Ai) e c λo m p=>F o m p else Ad
theorem Uq{e:Am}{F:Am->Ak->AJ->Ai}(h:N3 e F=Aa):∃ o m p,e=Yi o m p/\F o m p=Aa:=by
 by_cases c:e.ctorIdx=20
 .exact Yj (motive_1:=λe=>N3 e F=Aa->∃ o m p,e=Yi o m p/\F o m p=Aa) e c (λo m p h=>⟨o,m,p,rfl,h⟩) h
 .exact noF ((BS c).symm.trans h)
noncomputable def Ll(e:Am)(F:Am->Am->Ai):Ai:=if c:e.ctorIdx=21 then YF (motive_1:=λ_=>Ai) e c λx y _=>F x y else Ad
theorem M3{e:Am}{F:Am->Am->Ai}(h:Ll e F=Aa):∃ x y p,e=YE x y p/\F x y=Aa:=by
 by_cases c:e.ctorIdx=21
 .exact YF (motive_1:=λe=>Ll e F=Aa->∃ x y p,e=YE x y p/\F x y=Aa) e c (λx y p h=>⟨x,y,p,rfl,h⟩) h
 .exact noF ((BS c).symm.trans h)
noncomputable def QY(e:Am)(F:Ao Am->Ao Am->Ao Am->Ai):Ai:=if c:e.ctorIdx=26 then YD (motive_1:=λ_=>Ai) e c λl u s _=>F l u s else Ad
theorem iJ{e:Am}{F:Ao Am->Ao Am->Ao Am->Ai}(h:QY e F=Aa):∃ l u s p,e=YC l u s p/\F l u s=Aa:=by
 by_cases c:e.ctorIdx=26
 .exact YD (motive_1:=λe=>QY e F=Aa->∃ l u s p,e=YC l u s p/\F l u s=Aa) e c (λl u s p h=>⟨l,u,s,p,rfl,h⟩) h
 .exact noF ((BS c).symm.trans h)
noncomputable def HU(e:Am)(F:Ac Am->Ai):Ai:=if c:e.ctorIdx=25 then YH (motive_1:=λ_=>Ai) e c λxs _ _=>F xs else Ad
theorem JU{e:Am}{F:Ac Am->Ai}(h:HU e F=Aa):∃ xs c p,e=YG xs c p/\F xs=Aa:=by
 by_cases c:e.ctorIdx=25
 .exact YH (motive_1:=λe=>HU e F=Aa->∃ xs c p,e=YG xs c p/\F xs=Aa) e c (λxs c p h=>⟨xs,c,p,rfl,h⟩) h
 .exact noF ((BS c).symm.trans h)
noncomputable def NV(e:Am)(F:Ac Am->Ai):Ai:=if c:e.ctorIdx=24 then Yx (motive_1:=λ_=>Ai) e c λxs _=>F xs else Ad
theorem PJ{e:Am}{F:Ac Am->Ai}(h:NV e F=Aa):∃ xs p,e=Yw xs p/\F xs=Aa:=by
 by_cases c:e.ctorIdx=24
 .exact Yx (motive_1:=λe=>NV e F=Aa->∃ xs p,e=Yw xs p/\F xs=Aa) e c (λxs p h=>⟨xs,p,rfl,h⟩) h
 .exact noF ((BS c).symm.trans h)
noncomputable def QZ(e:Am)(F:Am->Ac IN->B6->Ai):Ai:=if c:e.ctorIdx=8 then Yz (motive_1:=λ_=>Ai) e c λx gs sc _=>F x gs sc else Ad
theorem iL{e:Am}{F:Am->Ac IN->B6->Ai}(h:QZ e F=Aa):∃ x gs sc p,e=Yy x gs sc p/\F x gs sc=Aa:=by
 by_cases c:e.ctorIdx=8
 .exact Yz (motive_1:=λe=>QZ e F=Aa->∃ x gs sc p,e=Yy x gs sc p/\F x gs sc=Aa) e c (λx gs sc p h=>⟨x,gs,sc,p,rfl,h⟩) h
 .exact noF ((BS c).symm.trans h)
noncomputable def Q1(e:AN)(F:Ac Am->Am->Ai):Ai:=if c:e.ctorIdx=5 then Y_7 (motive_2:=λ_=>Ai) e c λts v _=>F ts v else Ad
theorem iQ{e:AN}{F:Ac Am->Am->Ai}(h:Q1 e F=Aa):∃ ts v p,e=Y_6 ts v p/\F ts v=Aa:=by
 by_cases c:e.ctorIdx=5
 .exact Y_7 (motive_2:=λe=>Q1 e F=Aa->∃ ts v p,e=Y_6 ts v p/\F ts v=Aa) e c (λts v p h=>⟨ts,v,p,rfl,h⟩) h
 .exact noF ((BS c).symm.trans h)
noncomputable def Kf(e:AN)(F:Am->Ai):Ai:=if c:e.ctorIdx=24 then Y_9 (motive_2:=λ_=>Ai) e c λv _=>F v else Ad
theorem M4{e:AN}{F:Am->Ai}(h:Kf e F=Aa):∃ v p,e=Y_8 v p/\F v=Aa:=by
 by_cases c:e.ctorIdx=24
 .exact Y_9 (motive_2:=λe=>Kf e F=Aa->∃ v p,e=Y_8 v p/\F v=Aa) e c (λv p h=>⟨v,p,rfl,h⟩) h
 .exact noF ((BS c).symm.trans h)
noncomputable def Lm(e:AN)(F:Ao Am->Ai):Ai:=if c:e.ctorIdx=3 then Zf (motive_2:=λ_=>Ai) e c λo _=>F o else Ad
theorem TR{e:AN}{F:Ao Am->Ai}(h:Lm e F=Aa):∃ o p,e=Ze o p/\F o=Aa:=by
 by_cases c:e.ctorIdx=3
 .exact Zf (motive_2:=λe=>Lm e F=Aa->∃ o p,e=Ze o p/\F o=Aa) e c (λo p h=>⟨o,p,rfl,h⟩) h
 .exact noF ((BS c).symm.trans h)
noncomputable def LC(e:AN)(F:Am->Ac AN->Ac AN->Ai):Ai:=if c:e.ctorIdx=12 then Zb (motive_2:=λ_=>Ai) e c λt xs ys _=>F t xs ys else Ad
theorem Nn{e:AN}{F:Am->Ac AN->Ac AN->Ai}(h:LC e F=Aa):∃ t xs ys p,e=Stmt.If t xs ys p/\F t xs ys=Aa:=by
 by_cases c:e.ctorIdx=12
 .exact Zb (motive_2:=λe=>LC e F=Aa->∃ t xs ys p,e=Stmt.If t xs ys p/\F t xs ys=Aa) e c (λt xs ys p h=>⟨t,xs,ys,p,rfl,h⟩) h
 .exact noF ((BS c).symm.trans h)
noncomputable def NW(e:AN)(F:Am->Am->Ac AN->Ac AN->Ai):Ai:=if c:e.ctorIdx=9 then Za (motive_2:=λ_=>Ai) e c λt it xs ys _=>F t it xs ys else Ad
theorem TU{e:AN}{F:Am->Am->Ac AN->Ac AN->Ai}(h:NW e F=Aa):∃ t it xs ys p,e=Stmt.For t it xs ys p/\F t it xs ys=Aa:=by
 by_cases c:e.ctorIdx=9
 .exact Za (motive_2:=λe=>NW e F=Aa->∃ t it xs ys p,e=Stmt.For t it xs ys p/\F t it xs ys=Aa) e c (λt it xs ys p h=>⟨t,it,xs,ys,p,rfl,h⟩) h
 .exact noF ((BS c).symm.trans h)
noncomputable def NT(e:AN)(F:Ao Am->Ao Am->Ai):Ai:=if c:e.ctorIdx=16 then Zd (motive_2:=λ_=>Ai) e c λa b _=>F a b else Ad
theorem iK{e:AN}{F:Ao Am->Ao Am->Ai}(h:NT e F=Aa):∃ a b p,e=Zc a b p/\F a b=Aa:=by
 by_cases c:e.ctorIdx=16
 .exact Zd (motive_2:=λe=>NT e F=Aa->∃ a b p,e=Zc a b p/\F a b=Aa) e c (λa b p h=>⟨a,b,p,rfl,h⟩) h
 .exact noF ((BS c).symm.trans h)
noncomputable def Iz{α:Type}:Ac α->(α->Ac α->Ai)->Ai
 |[],_=>Ad
 |x::xs,F=>F x xs
theorem Jd{l:Ac α}{F:α->Ac α->Ai}(h:Iz l F=Aa):∃ x xs,l=x::xs/\F x xs=Aa:=by
 cases l with
 |nil=>exact noF h
 |cons x xs=>exact⟨x,xs,rfl,h⟩
theorem GN{l:Ac α}(h:l.isEmpty=Aa):l=[]:=List.isEmpty_iff.mp h
noncomputable def DM{α:Type}(l:Ac α)(F:α->Ai):Ai:=Iz l λx r=>r.isEmpty&&F x
theorem Ej{l:Ac α}{F:α->Ai}(h:DM l F=Aa):∃ x,l=[x]/\F x=Aa:=by
 obtain⟨x,r,rfl,h⟩:=Jd h;obtain⟨h1,h2⟩:=Bt h;exact⟨x,by rw[GN h1],h2⟩
noncomputable def Hw{α:Type}(l:Ac α)(F:α->α->Ai):Ai:=Iz l λx r=>DM r λy=>F x y
theorem Jc{l:Ac α}{F:α->α->Ai}(h:Hw l F=Aa):∃ x y,l=[x,y]/\F x y=Aa:=by
 obtain⟨x,r,rfl,h⟩:=Jd h;obtain⟨y,rfl,h⟩:=Ej h;exact⟨x,y,rfl,h⟩
noncomputable def Js(e:Am)(F:Ak->Ac Am->Ai):Ai:=Mr e λf as ks _=>EX f λg=>ks.isEmpty&&F g as
theorem JW{e:Am}{F:Ak->Ac Am->Ai}(h:Js e F=Aa):∃ g p as q,e=.Call (.Name g p) as [] q/\F g as=Aa:=by
 obtain⟨f,as,ks,q,rfl,h⟩:=PL h;obtain⟨g,p,rfl,h⟩:=EW h;obtain⟨h1,h2⟩:=Bt h;exact⟨g,p,as,q,by rw[GN h1],h2⟩
noncomputable def Lg(e:Am)(F:Ak->Am->Ac Am->Ai):Ai:=Js e λg l=>Iz l λx xs=>F g x xs
theorem JP{e:Am}{F:Ak->Am->Ac Am->Ai}(h:Lg e F=Aa):∃ g p x xs q,e=.Call (.Name g p) (x::xs) [] q/\F g x xs=Aa:=by
 obtain⟨g,p,as,q,rfl,h⟩:=JW h;obtain⟨x,xs,rfl,h⟩:=Jd h;exact⟨g,p,x,xs,q,rfl,h⟩
noncomputable def NU(st:AN)(F:Ak->Ak->Ac Am->Ai):Ai:=Kf st λe=>Mr e λf as ks cp=>N3 f λo m ap=>EX o λx=>ks.isEmpty&&(ap.endLine==cp.line&&F x m as)
theorem PH{st:AN}{F:Ak->Ak->Ac Am->Ai}(h:NU st F=Aa):∃ x p m ap as cp q,st=.Expr (.Call (.Attribute (.Name x p) m ap) as [] cp) q/\ap.endLine=cp.line/\F x m as=Aa:=by
 obtain⟨e,q,rfl,h⟩:=M4 h;obtain⟨f,as,ks,cp,rfl,h⟩:=PL h;obtain⟨o,m,ap,rfl,h⟩:=Uq h;obtain⟨x,p,rfl,h⟩:=EW h;obtain⟨h1,h⟩:=Bt h;obtain⟨h2,h3⟩:=Bt h;exact⟨x,p,m,ap,as,cp,q,by rw[GN h1],eq_of_beq h2,h3⟩
noncomputable def N4(st:AN)(F:Am->Am->Ai):Ai:=Q1 st λts v=>DM ts λt=>F t v
theorem PN{st:AN}{F:Am->Am->Ai}(h:N4 st F=Aa):∃ t v q,st=.Assign [t] v q/\F t v=Aa:=by
 obtain⟨ts,v,q,rfl,h⟩:=iQ h;obtain⟨t,rfl,h⟩:=Ej h;exact⟨t,v,q,rfl,h⟩
noncomputable def Kh(st:AN)(F:Ak->Am->Ai):Ai:=N4 st λt v=>EX t λx=>F x v
theorem Mb{st:AN}{F:Ak->Am->Ai}(h:Kh st F=Aa):∃ x p v q,st=.Assign [.Name x p] v q/\F x v=Aa:=by
 obtain⟨t,v,q,rfl,h⟩:=PN h;obtain⟨x,p,rfl,h⟩:=EW h;exact⟨x,p,v,q,rfl,h⟩
noncomputable def Rw(e:Am)(F:Am->Am->Am->Ac Am->B6->Ai):Ai:=QZ e λx gs sc=>DM gs λg=>decide (g.is_async=0)&&F x g.target g.iter g.ifs sc
theorem Vp{e:Am}{F:Am->Am->Am->Ac Am->B6->Ai}(h:Rw e F=Aa):∃ x t it ifs sc p,e=.ListComp x [⟨t,it,ifs,0⟩] sc p/\F x t it ifs sc=Aa:=by
 obtain⟨x,gs,sc,p,rfl,h⟩:=iL h;obtain⟨g,rfl,h⟩:=Ej h;obtain⟨t,it,ifs,a⟩:=g;obtain⟨h1,h2⟩:=Bt h;have h1:a=0:=AQ h1;subst h1;exact⟨x,t,it,ifs,sc,p,rfl,h2⟩
noncomputable def Ob(e:E)(F:E->Ai):Ai:=if c:e.ctorIdx=8 then E.no.elim (motive_1:=λ_=>Ai) e c F else Ad
theorem lF{e:E}{F:E->Ai}(h:Ob e F=Aa):∃ a,e=E.no a/\F a=Aa:=by
 by_cases c:e.ctorIdx=8
 .exact E.no.elim (motive_1:=λe=>Ob e F=Aa->∃ a,e=E.no a/\F a=Aa) e c (λa h=>⟨a,rfl,h⟩) h
 .exact noF ((BS c).symm.trans h)
noncomputable def N5(e:E)(F:Es->Ai):Ai:=if c:e.ctorIdx=9 then E.and.elim (motive_1:=λ_=>Ai) e c F else Ad
theorem iR{e:E}{F:Es->Ai}(h:N5 e F=Aa):∃ es,e=E.and es/\F es=Aa:=by
 by_cases c:e.ctorIdx=9
 .exact E.and.elim (motive_1:=λe=>N5 e F=Aa->∃ es,e=E.and es/\F es=Aa) e c (λes h=>⟨es,rfl,h⟩) h
 .exact noF ((BS c).symm.trans h)
noncomputable def Oa(e:E)(F:Es->Ai):Ai:=if c:e.ctorIdx=10 then E.or.elim (motive_1:=λ_=>Ai) e c F else Ad
theorem lE{e:E}{F:Es->Ai}(h:Oa e F=Aa):∃ es,e=E.or es/\F es=Aa:=by
 by_cases c:e.ctorIdx=10
 .exact E.or.elim (motive_1:=λe=>Oa e F=Aa->∃ es,e=E.or es/\F es=Aa) e c (λes h=>⟨es,rfl,h⟩) h
 .exact noF ((BS c).symm.trans h)
noncomputable def NX(e:E)(F:CJ->E->E->Ai):Ai:=if c:e.ctorIdx=11 then E.cmp.elim (motive_1:=λ_=>Ai) e c F else Ad
theorem iN{e:E}{F:CJ->E->E->Ai}(h:NX e F=Aa):∃ o a b,e=E.cmp o a b/\F o a b=Aa:=by
 by_cases c:e.ctorIdx=11
 .exact E.cmp.elim (motive_1:=λe=>NX e F=Aa->∃ o a b,e=E.cmp o a b/\F o a b=Aa) e c (λo a b h=>⟨o,a,b,rfl,h⟩) h
 .exact noF ((BS c).symm.trans h)
noncomputable def NY(e:E)(F:CJ->CJ->E->E->E->Ai):Ai:=if c:e.ctorIdx=12 then E.cmp2.elim (motive_1:=λ_=>Ai) e c F else Ad
theorem iO{e:E}{F:CJ->CJ->E->E->E->Ai}(h:NY e F=Aa):∃ o q a b c,e=E.cmp2 o q a b c/\F o q a b c=Aa:=by
 by_cases c:e.ctorIdx=12
 .exact E.cmp2.elim (motive_1:=λe=>NY e F=Aa->∃ o q a b c,e=E.cmp2 o q a b c/\F o q a b c=Aa) e c (λo q a b c h=>⟨o,q,a,b,c,rfl,h⟩) h
 .exact noF ((BS c).symm.trans h)
noncomputable def NZ(e:E)(F:BI->Es->Ai):Ai:=if c:e.ctorIdx=15 then E.bi.elim (motive_1:=λ_=>Ai) e c F else Ad
theorem iP{e:E}{F:BI->Es->Ai}(h:NZ e F=Aa):∃ b as,e=E.bi b as/\F b as=Aa:=by
 by_cases c:e.ctorIdx=15
 .exact E.bi.elim (motive_1:=λe=>NZ e F=Aa->∃ b as,e=E.bi b as/\F b as=Aa) e c (λb as h=>⟨b,as,rfl,h⟩) h
 .exact noF ((BS c).symm.trans h)
noncomputable def Rx(e:E)(F:Ai->Ai):Ai:=if c:e.ctorIdx=1 then E.bl.elim (motive_1:=λ_=>Ai) e c F else Ad
theorem lH{e:E}{F:Ai->Ai}(h:Rx e F=Aa):∃ b,e=E.bl b/\F b=Aa:=by
 by_cases c:e.ctorIdx=1
 .exact E.bl.elim (motive_1:=λe=>Rx e F=Aa->∃ b,e=E.bl b/\F b=Aa) e c (λb h=>⟨b,rfl,h⟩) h
 .exact noF ((BS c).symm.trans h)
noncomputable def NR(e:E)(F:Ag->Ai):Ai:=if c:e.ctorIdx=4 then E.var.elim (motive_1:=λ_=>Ai) e c F else Ad
theorem TJ{e:E}{F:Ag->Ai}(h:NR e F=Aa):∃ i,e=E.var i/\F i=Aa:=by
 by_cases c:e.ctorIdx=4
 .exact E.var.elim (motive_1:=λe=>NR e F=Aa->∃ i,e=E.var i/\F i=Aa) e c (λi h=>⟨i,rfl,h⟩) h
 .exact noF ((BS c).symm.trans h)
noncomputable def Kg(e:E)(F:Ag->Es->Ai):Ai:=if c:e.ctorIdx=14 then E.call.elim (motive_1:=λ_=>Ai) e c F else Ad
theorem PM{e:E}{F:Ag->Es->Ai}(h:Kg e F=Aa):∃ f as,e=E.call f as/\F f as=Aa:=by
 by_cases c:e.ctorIdx=14
 .exact E.call.elim (motive_1:=λe=>Kg e F=Aa->∃ f as,e=E.call f as/\F f as=Aa) e c (λf as h=>⟨f,as,rfl,h⟩) h
 .exact noF ((BS c).symm.trans h)
noncomputable def NM(e:E):Ai:=decide (e.ctorIdx=0)
theorem gW{e:E}(h:NM e=Aa):e=.non:=E.non.elim (motive_1:=λe=>e=.non) e (AQ h) rfl
noncomputable def Da:Am->Ai
 |.Starred _ _=>Ad
 |_=>Aa
noncomputable def No:Am->Ai
 |.Slice _ _ _ _=>Ad
 |_=>Aa
noncomputable def Ms:Am->Ai
 |.Set _ _ _=>Ad
 |_=>Aa
noncomputable def IA:Am->Ai
 |.ListComp _ _ _ _=>Ad
 |.SetComp _ _ _ _=>Ad
 |.DictComp _ _ _ _ _=>Ad
 |_=>Aa
noncomputable def RY(tu:Ai):Am->Ai
 |.Tuple ..=>tu
 |.Name ..=>!tu
 |_=>Ad
noncomputable def av:Am->Ai
 |.Tuple _ _ _=>Aa
 |_=>Ad
noncomputable def WF:Am->Ai
 |.Tuple _ _ _=>Ad
 |_=>Aa
noncomputable def MR:Am->Ai
 |.UnaryOp _ _ _=>Ad
 |.BoolOp _ _ _=>Ad
 |.IfExp _ _ _ _=>Ad
 |.Compare _ _ _ _=>Ad
 |_=>Aa
noncomputable def Q9:Ki->Ao Ak
 |.int=>Ab "int"
 |.bool=>Ab "bool"
 |.str=>Ab "str"
 |.list=>Ab "list"
 |.tuple=>Ab "tuple"
 |_=>Af
noncomputable def Ra:BI->Ao Ak
 |.len=>Ab "len"
 |.abs=>Af
 |.max=>Af
 |.min=>Af
 |.int=>Af
 |.list=>Ab "list"
 |.tuple=>Ab "tuple"
 |.all=>Ab "all"
 |.any=>Af
 |.sum=>Ab "sum"
 |.sorted=>Af
 |.tmin=>Af
 |.tmax=>Af
 |_=>Af
noncomputable def Q4(o scope:B6):B6:={scope with names:=scope.names.map λ(n,k)=>if (k==.free&&o.kind==.function&&o.names.lookup n==Ab .cell) then (n,.cell) else (n,k)}
noncomputable def Lx:Ac Ag->Ac Ak->Ac Ak->Ac Ak
 |t::ts,x::xs,N=>Lx ts xs ((N.map λy=>if y==x then N.getD t x else y).set t x)
 |_,_,N=>N
noncomputable def Mn:Ac Ak->Ai
 |[]=>Aa
 |x::xs=>!xs.contains x&&Mn xs
noncomputable def Mw(T:Tc)(scope:B6)(ts:Ac Ag)(N':Ac Ak):Ai:=
  scope.kind==.function&&scope.names.all (λy=>scope.names.lookup y.1==Ab y.2) &&
  scope.names.all (λy=>y.2 != .free||T.sc.names.lookup y.1==Ab .cell||T.sc.names.lookup y.1==Ab .free) &&
  N'.length==T.N.length&&Mn N' &&
  (A1 N'.length).all λi=>ts.contains i||(match N'[i]? with
    |some x=>(scope.names.lookup x != Ab .local&&scope.names.lookup x != Ab .cell)&&(scope.names.lookup x != Ab .free||T.N[i]? == Ab x)
    | none=>Aa)
noncomputable def Fe:Ac Am->Ao (Ac Ak)
 |[]=>Ab []
 |.Name x _::r=>(Fe r).map (x :: ·)
 |_=>Af
noncomputable def tgN(ys:Ac Am):Ac Ak:=(Fe ys).getD []
noncomputable def tgB(T:Tc):Ac Ag->Ac Ak->Ai
 |[],[]=>Aa
 |t::ts,x::xs=>T.N[t]? == Ab x&&T.sc.names.lookup x==Ab .local&&tgB T ts xs
 |_,_=>Ad
noncomputable def tgO(T:Tc)(scope:B6)(t:Ag)(x:Ak):Ai:=T.N[t]? == Ab x&&(T.sc.names.lookup x==Ab .local||(T.sc.names.lookup x==Ab .cell&&scope.names.lookup x==Ab .cell))
noncomputable def tgC(T:Tc):Ac Ag->Ac Ak->Ai
 |[],[]=>Aa
 |t::ts,x::xs=>T.N[t]? == Ab x&&GS T x&&tgC T ts xs
 |_,_=>Ad
noncomputable def Tc.blk(T:Tc)(scope:B6)(ts:Ac Ag)(xs:Ac Ak):Tc:={T with sc:=Q4 T.sc scope,N:=Lx ts xs T.N}
noncomputable def Rz:E->Ai
 |.lst _=>Aa
 |.comp _ _ _ _=>Aa
 |.compT _ _ _ _=>Aa
 |.bin .Add _ _=>Aa
 |.bi .list _=>Aa
 |.sl _ _ _=>Aa
 |_=>Ad
noncomputable def NJ:E->Ao E
  | .bi b as=>(match b with
    | .list=>(match as with
      | .cons x r=>(match r with
        | .nil=>(match x with
          | .bin op a c=>(match op with
            | .Add=>(match c with
              | .tup es=>(match es with
                |.nil=>Ab a
                | _=>Af)
              | _=>Af)
            | _=>Af)
          | _=>Af)
        | _=>Af)
      | .nil=>Af)
    | _=>Af)
  |_=>Af
theorem gQ{e a:E}(q:NJ e=Ab a):e=.bi .list (.cons (.bin .Add a (.tup .nil)) .nil):=by
 unfold NJ at q
 repeat' split at q
 all_goals first|cases q;done|skip
 cases q;rfl
theorem pA(U:Gam){e:E}(h:Rz e=Aa):Ce U e=Aa:=by
 unfold Rz at h;split at h<;>first|rfl|cases h
noncomputable def inX(l:Ac (Ak×Ag))(g:Ak)(c:Ag):Ai:=l.any λp=>p.1==g&&p.2==c
noncomputable def Mz:Am->Ao (Am×Am×AJ)
  | .Compare x ops ys p=>(match ops with
    | [.Lt]=>(match ys with
      |[y]=>Ab (x,y,p)
      | _=>Af)
    | _=>Af)
  |_=>Af
theorem pS{e x y:Am}(q:Mz e=Ab (x,y,p)):e=.Compare x [.Lt] [y] p:=by
 unfold Mz at q;split at q
 .split at q
  .split at q
   .cases q;rfl
   .cases q
  .cases q
 .cases q
noncomputable def Kc:Es->Ao (E×E)
  | .cons a r=>(match r with
    | .cons b t=>(match t with
      |.nil=>Ab (a,b)
      | _=>Af)
    | _=>Af)
  |.nil=>Af
theorem Uh{a b:E}(q:Kc as=Ab (a,b)):as=.cons a (.cons b .nil):=by
 unfold Kc at q;split at q
 .split at q
  .split at q
   .cases q;rfl
   .cases q
  .cases q
 .cases q
noncomputable def Oc(T:Tc)(ck:Tc->Am->E->Ai)(x:Am)(ops:Ac CJ)(ys:Ac Am)(b:BI)(as:Es):Ai:=match Kc as with
  |some (a,c)=>DM ops λo=>DM ys λy=>decide (o=.Lt)&&(decide (b=.tlt) && !behindInMarks .Lt y&&ck T x a&&ck T y c)
  |none=>Ad
noncomputable def Rv(as:Es)(F:Ag->Ag->Ai):Ai:=match as with
  |.cons (.var j) (.cons (.var i) .nil)=>F j i
  |_=>Ad
noncomputable def Ru(T:Tc)(x:Am)(ops:Ac CJ)(ys:Ac Am)(b:BI)(as:Es):Ai:=Rv as λj i=>DM ops λo=>DM ys λy=>decide (o=.Gt)&&decide (b=.tlt) && !behindInMarks .Gt y&&(EX x λnx=>isV T nx i)&&(EX y λny=>isV T ny j)
noncomputable def Sa(T:Tc)(e:Am)(b:BI)(as:Es):Ai:=Ad
noncomputable def V0:Am->Ao (Ak×AJ)
 |.Name x p=>Ab (x,p)
 |_=>Af
noncomputable def V1:Am->Ao (Am×Ac Am×Ac CK×AJ)
 |.Call f as ks p=>Ab (f,as,ks,p)
 |_=>Af
noncomputable def ZU:Am->Ao (Ac Am×Ag×AJ)
 |.Tuple es k p=>Ab (es,k,p)
 |_=>Af
noncomputable def one{α:Type}:Ac α->Ao α
 |[a]=>Ab a
 |_=>Af
noncomputable def Sb(e:Am):Ao (Ak×Ak×Ac Am):=(V1 e).bind λc=>(V0 c.1).bind λg=>(one c.2.1).bind λa=>(V1 a).bind λd=>(V0 d.1).bind λh=>if (c.2.2.1.isEmpty&&d.2.2.1.isEmpty)=Aa then Ab (g.1,h.1,d.2.1) else Af
noncomputable def RV(e:Am):Ao (Ak×Ak×Am×Am):=match Sb e with
  | some (g,h,bs)=>(match bs with
    |[x,y]=>Ab (g,h,x,y)
    | _=>Af)
  |none=>Af
noncomputable def Rh(_:Es):Ao (E×E):=Af
noncomputable def RU(e:Am):Ao (Ak×Ak×Am):=match Sb e with
  | some (g,h,bs)=>(match bs with
    |[x]=>Ab (g,h,x)
    | _=>Af)
  |none=>Af
noncomputable def Rg(_:Es):Ao E:=Af
noncomputable def two(e:Am):Ao (Am×Am):=(ZU e).bind λt=>match t.1 with
  |[a,b]=>Ab (a,b)
  |_=>Af
noncomputable def Ot(_:Es):Ao E:=Af
noncomputable def R8(_:Am):Ao Am:=Af
noncomputable def R4:Am->Ao (Am×Ae)
  | .Subscript v s _=>(match s with
    | .Slice lo hi st _=>(match lo with
      | some (.Constant (.int k) _ _)=>(match hi with
        | none=>(match st with
          |some (.Constant (.int j) _ _)=>if j=2 then Ab (v,k) else Af
          | _=>Af)
        | some _=>Af)
      | _=>Af)
    | _=>Af)
  |_=>Af
noncomputable def Re(_:Es):Ao (E×Ae):=Af
mutual
noncomputable def A5:Ag->Tc->Am->E->Ai
  |0,_,_,_=>Ad
  |n+1,T,e,c=>match c with
    |.non=>ID e λc=>decide (c=.none)
    |.bl b=>ID e λc=>decide (c=.bool b)
    |.int i=>ID e λc=>decide (c=.int i)
    |.str x=>ID e λc=>decide (c=.str x)
    |.var i=>EX e λx=>isV T x i
    |.glob g=>EX e λx=>inX T.gls x g&&glB T x&&GA x
    |.bin op a b=>N2 e λx op' y=>decide (op'=op)&&A5 n T x a&&A5 n T y b
    |.un op a=>Ad
    |.no a=>LB e λo x=>decide (o=.Not)&&A5 n T x a
    |.and es=>Jt e λo xs _=>decide (o=.And)&&(chkEs n T xs es && !xs.isEmpty)
    |.or es=>Jt e λo xs _=>decide (o=.Or)&&(chkEs n T xs es && !xs.isEmpty)
    |.cmp op a b=>Ln e λx os ys=>DM os λop'=>DM ys λy=>decide (op'=op) && !behindInMarks op y&&A5 n T x a&&A5 n T y b
    |.cmp2 op1 op2 a b c=>Ln e λx os ys=>Hw os λo1 o2=>Hw ys λy z=>decide (o1=op1)&&decide (o2=op2) && !lastMarks [op1,op2] [y,z]&&A5 n T x a&&A5 n T y b&&A5 n T z c
    |.ite c a b=>Ad
    |.call f as=>Lg e λg x xs=>(T.fns.any λp=>p.1==g&&p.2.1==f&&p.2.2==xs.length+1)&&decide (xs.length<900)&&glB T g&&GA g&&chkEs n T (x::xs) as
    |.bi b as=>(Lg e λg x xs=>Ra b==Ab g&&isB T g&&chkEs n T (x::xs) as)||Sa T e b as||(match Rh as with|some (a,c)=>(match RV e with|some (g,h,x,y)=>decide (b=.list)&&g==("list" : Ak)&&h==("range" : Ak)&&isB T g&&isB T h&&Da x&&Da y&&A5 n T x a&&A5 n T y c|none=>Ad)|none=>Ad)||(match Re as with|some (a,k)=>(match R4 e with|some (x,j)=>decide (b=.stp)&&decide (j=k)&&decide (0<=k)&&A5 n T x a|none=>Ad)|none=>Ad)||(match Rg as with|some a=>(match RU e with|some (g,h,x)=>decide (b=.lset)&&g==("len" : Ak)&&h==("set" : Ak)&&isB T g&&isB T h&&Da x&&A5 n T x a|none=>Ad)|none=>Ad)||(match Kc as with|some (a,c)=>(match Mz e with|some (x,y,_)=>decide (b=.tlt) && !behindInMarks .Lt y&&A5 n T x a&&A5 n T y c|none=>Ad)|none=>Ad)||(match Ot as with|some a=>(match R8 e with|some x=>decide (b=.rvs)&&A5 n T x a|none=>Ad)|none=>Ad)
    |.isi a ks=>DM ks λk=>Js e λg l=>Hw l λx t=>EX t λt=>g==("isinstance" : Ak)&&isB T g&&Q9 k==Ab t&&isB T t&&Da x&&A5 n T x a
    |.idx a i=>Ll e λx y=>No y&&A5 n T x a&&A5 n T y i
    |.sl a lo hi=>Ll e λx s=>QY s λl h st=>st.isNone&&(A5 n T x a&&chkO n T l lo&&chkO n T h hi)
    |.tup es=>HU e λxs=>chkEs n T xs es&&decide (xs.length<=1000)
    |.lst es=>NV e λxs=>chkEs n T xs es&&decide (xs.length<=1000)
    |.comp elt t it c=>Rw e λx tg iter ifs scope=>EX tg λy=>chkI n T Ad iter it&&Ms iter&&Mw T scope [t] (Lx [t] [y] T.N)&&tgO (T.blk scope [t] [y]) scope t y&&chkT n (T.blk scope [t] [y]) ifs c&&A5 n (T.blk scope [t] [y]) x elt
    |.compT elt ts it c=>Rw e λx tg iter ifs scope=>HU tg λys=>(Fe ys).isSome&&chkI n T Aa iter it&&Ms iter&&Mw T scope ts (Lx ts (tgN ys) T.N)&&tgB (T.blk scope ts (tgN ys)) ts (tgN ys)&&chkT n (T.blk scope ts (tgN ys)) ifs c&&A5 n (T.blk scope ts (tgN ys)) x elt
    |.tupI _=>Ad
    |.dget i a c=>(match xMt e with|some (x,m,y,z)=>m==("get" : Ak)&&isV T x i&&Da y&&Da z&&A5 n T y a&&A5 n T z c|none=>Ad)
    |.fld _ _=>Ad
noncomputable def GW:Ag->Tc->Am->E->Ai
 |0,_,_,_=>Ad
 |n+1,T,e,c=>(LB e λo x=>decide (o=.Not)&&(Ob c λa=>GW n T x a)) ||
  (Jt e λo xs _=>(decide (o=.And)&&(N5 c λes=>chkBs n T xs es && !xs.isEmpty))||(decide (o=.Or)&&(Oa c λes=>chkBs n T xs es && !xs.isEmpty))) ||
  (Ln e λx os ys=>(NX c λop a b=>DM os λop'=>DM ys λy=>decide (op'=op) && !behindInMarks op y&&A5 n T x a&&A5 n T y b) ||
   (NY c λop1 op2 a b c=>Hw os λo1 o2=>Hw ys λy z=>decide (o1=op1)&&decide (o2=op2) && !lastMarks [op1,op2] [y,z]&&A5 n T x a&&A5 n T y b&&A5 n T z c) ||
   (NZ c λb as=>Oc T (A5 n) x os ys b as||Ru T x os ys b as)) ||
  MR e&&A5 n T e c
noncomputable def chkBs:Ag->Tc->Ac Am->Es->Ai
  |0,_,_,_=>Ad
  |n+1,T,xs,es=>match xs,es with
    |[],.nil=>Aa
    |x::xs,.cons e es=>GW n T x e&&chkBs n T xs es
    |_,_=>Ad
noncomputable def chkEs:Ag->Tc->Ac Am->Es->Ai
  |0,_,_,_=>Ad
  |n+1,T,xs,es=>match xs,es with
    |[],.nil=>Aa
    |x::xs,.cons e es=>Da x&&A5 n T x e&&chkEs n T xs es
    |_,_=>Ad
noncomputable def chkO:Ag->Tc->Ao Am->E->Ai
  |0,_,_,_=>Ad
  |n+1,T,x,e=>match x with
    |none=>NM e
    |some x=>!(NM e)&&A5 n T x e
noncomputable def chkT:Ag->Tc->Ac Am->E->Ai
  |0,_,_,_=>Ad
  |n+1,T,xs,e=>match xs with
    |[]=>Rx e λb=>b
    |x::r=>r.isEmpty&&GW n T x e
noncomputable def chkI:Ag->Tc->Ai->Am->I->Ai
  |0,_,_,_,_=>Ad
  |n+1,T,tu,e,i=>match i with
    |.e a=>A5 n T e a
    |.rng a=>Js e λg l=>DM l λx=>g==("range" : Ak)&&isB T g&&Da x&&A5 n T x a
    |.enm a=>Js e λg l=>DM l λx=>tu&&g==("enumerate" : Ak)&&isB T g&&Da x&&A5 n T x a
    |.zip a b=>Js e λg l=>Hw l λx y=>tu&&g==("zip" : Ak)&&isB T g&&Da x&&Da y&&A5 n T x a&&A5 n T y b
    |.rng2 a b=>Js e λg l=>Hw l λx y=>g==("range" : Ak)&&isB T g&&Da x&&Da y&&A5 n T x a&&A5 n T y b
    |.zip3 a b c=>Ad
end
noncomputable def Rt:E->E->Ai
 |.var _,.int _=>Aa
 |_,_=>Ad
noncomputable def R6:Ft->Ai
 |.Sub=>Aa
 |_=>Ad
noncomputable def Oe:E->Ai
 |.idx a b=>Rt a b
 |.bin op a b=>R6 op&&Rt a b
 |.var _=>Aa
 |.int _=>Aa
 |.bl _=>Aa
 |.str _=>Aa
 |.non=>Aa
 |_=>Ad
noncomputable def HS:Es->Ai
 |.nil=>Aa
 |.cons e es=>Oe e&&HS es
noncomputable def xHd:E7->Ao (Ak×Ak×AN×Ac AN)
  | .ExceptHandler ty nm b _=>(match nm,b,ty with
    |some m,h0::hs,Ab e=>(Og e).bind λg=>Ab (g.1,m,h0,hs)
    | _,_,_=>Af)
theorem sB{h:E7}{m:Ak}(q:xHd h=Ab (g,m,h0,hs)):∃ p r,h=.ExceptHandler (Ab (.Name g p)) (Ab m) (h0::hs) r:=by
 obtain⟨ty,nm,b,r⟩:=h;cases nm with
 |none=>cases ty<;>cases b<;>exact nomatch (show Af=Ab (g,m,h0,hs) from q)
 |some m'=>
  cases b with
  |nil=>cases ty<;>exact nomatch (show Af=Ab (g,m,h0,hs) from q)
  |cons h0' hs'=>
   cases ty with
   |none=>exact nomatch (show Af=Ab (g,m,h0,hs) from q)
   |some e=>
    obtain⟨g',e1,q⟩:=Dz.mp (show ((Og e).bind λg=>Ab (g.1,m',h0',hs'))=Ab (g,m,h0,hs) from q)
    cases q;rw[UY e1];exact⟨_,_,rfl⟩
noncomputable def Rn:AN->Ao (AN×Ac E7×Ac AN)
  | .Try b hs es fs _=>(match b,fs with
    |[bt],[]=>Ab (bt,hs,es)
    | _,_=>Af)
  |_=>Af
theorem kG{st bt:AN}{hs:Ac E7}{es:Ac AN}(q:Rn st=Ab (bt,hs,es)):∃ p,st=.Try [bt] hs es [] p:=by
 cases st with
 |Try b h e f p=>
  cases b with
  |nil=>cases f<;>exact nomatch (show Af=Ab (bt,hs,es) from q)
  |cons x b=>
   cases b with
   |cons=>cases f<;>exact nomatch (show Af=Ab (bt,hs,es) from q)
   |nil=>
    cases f with
    |nil=>cases q;exact⟨_,rfl⟩
    |cons=>exact nomatch (show Af=Ab (bt,hs,es) from q)
 |_=>exact nomatch (show Af=Ab (bt,hs,es) from q)
noncomputable def RQ(e:Am)(F:Ak->Ak->Am->Ai):Ai:=Js e λg l=>Hw l λa t=>EX a λv=>F g v t
theorem lG{e:Am}{F:Ak->Ak->Am->Ai}(h:RQ e F=Aa):∃ g p v q t r,e=.Call (.Name g p) [.Name v q,t] [] r/\F g v t=Aa:=by
 obtain⟨g,p,l,r,rfl,h⟩:=JW h;obtain⟨a,t,rfl,h⟩:=Jc h;obtain⟨v,q,rfl,h⟩:=EW h;exact⟨g,p,v,q,t,r,rfl,h⟩
noncomputable def Q6(T:Tc):Ac Am->Ac Ki->Ai
  |[],ks=>ks.isEmpty
  | e::r,ks=>Iz ks λk ks=>EX e λt=>(match k with
    |.cls c=>inX T.exs t c&&glB T t&&GA t
    | _=>Ad)&&Q6 T r ks
noncomputable def Mp(f:Am->E->Ai):Ac Am->Es->Ai
 |[],.nil=>Aa
 |x::xs,.cons e es=>Da x&&f x e&&Mp f xs es
 |_,_=>Ad
noncomputable def ZP(T:Tc)(t:Am)(ks:Ac Ki):Ai:=Iz ks λk r=>match k with
  |.verr=>r.isEmpty&&(EX t λt=>t==("ValueError" : Ak)&&isB T t)
  | .cls c=>(match r with
    |[]=>EX t λt=>inX T.exs t c&&glB T t&&GA t
    | k2::r=>HU t λts=>Q6 T ts (.cls c::k2::r)&&decide (ts.length<=1000))
  |_=>Ad
noncomputable def HV:Ag->Tc->Ag->Am->E->Ai
  |0,_,_,_,_=>Ad
  |n+1,T,x,e,c=>match c with
    |.bl b=>ID e λk=>decide (k=.bool b)
    |.no a=>LB e λo y=>decide (o=.Not)&&HV n T x y a
    | .and es=>(match es with
      |.nil=>Ad
      | .cons a r=>(match r with
        |.nil=>Jt e λo l _=>decide (o=.And)&&(DM l λy=>HV n T x y a)
        | .cons a' as=>Jt e λo l p=>decide (o=.And)&&(Iz l λy l=>Iz l λz zs=>HV n T x y a&&HV n T x (.BoolOp .And (z::zs) p) (.and (.cons a' as)))))
    |.isi a ks=>NR a λi=>RQ e λg v t=>i==x&&g==("isinstance" : Ak)&&isB T g&&isV T v x&&ZP T t ks
    |.call _ _=>Ad
    |.str s=>ID e λk=>decide (k=.str s)
    |.lst es=>NV e λxs=>Mp (HV n T x) xs es&&decide (xs.length<=1000)
    |.tup es=>HU e λxs=>Mp (HV n T x) xs es&&decide (xs.length<=1000)
    |.bin op a b=>decide (op=.Add)&&(NR a λi=>N2 e λl o y=>decide (o=.Add)&&(EX l λv=>isV T v i&&HV n T x y b))
    |.fld _ _=>Ad
    |_=>Ad
noncomputable def aQ:E->Ai
 |.lst _=>Aa
 |_=>Ad
noncomputable def Rk:Ag->Tc->Ag->Ac AN->Ss->Ai
  |0,_,_,_,_=>Ad
  |n+1,T,x,sts,ss=>match ss with
    |.nil=>sts.isEmpty
    | .cons s ss=>Iz sts λst r=>(match s with
      |.asg i b e=>Kh st λy v=>T.N[i]? == Ab y&&GS T y&&IA v&&HV n T x v e&&(!b||aQ e)
      |.ife _ _ _=>Ad
      |.ret _=>Ad
      |.app _ _=>Ad
      | _=>Ad)&&Rk n T x r ss
noncomputable def Od:E->Ai
 |.var _=>Aa
 |.cmp _ a b=>Oe a&&Oe b
 |_=>Ad
noncomputable def Nw(n:Ag)(T:Tc)(st:AN)(s:S):Ai:=match s with
  |.expr e=>Kg e λf as=>Kf st λv=>A5 n T v (.call f as)&&HS as
  |.asg i b e=>!b&&(Kg e λf as=>Kh st λy v=>T.N[i]? == Ab y&&GS T y&&A5 n T v (.call f as)&&HS as)
  |_=>Ad
noncomputable def Q3:Ss->(S->Ai)->Ai
  |.nil,_=>Ad
  | .cons a r,F=>(match r with
    |.nil=>F a
    | .cons _ _=>Ad)
theorem TN{l:Ss}{F:S->Ai}(h:Q3 l F=Aa):∃ a,l=.cons a .nil/\F a=Aa:=by
 cases l with
 |nil=>exact noF h
 |cons a r=>
  cases r with
  |nil=>exact⟨a,rfl,h⟩
  |cons=>exact noF h
noncomputable def Ly:Es->Ao Es
  |.nil=>Af
  | .cons e es=>(match es with
    | .nil=>(match e with
      |.int i=>if i=1 then Ab .nil else Af
      | _=>Af)
    | .cons _ _=>(Ly es).map (.cons e))
noncomputable def Rl(n:Ag)(T:Tc)(x:Am)(f:Ag)(as:Es):Ai:=(A5 n T x (.call f as)&&HS as) ||
  (Lg x λg y ys=>(T.fns.any λp=>p.1==g&&p.2.1==f&&p.2.2==ys.length+2)&&decide (ys.length<900)&&Ds 100000 f&&glB T g&&GA g&&(match Ly as with
    |some as0=>chkEs n T (y::ys) as0&&HS as0
    | none=>Ad))
noncomputable def Q2:S->(Ag->Ag->Es->Ai)->Ai
 |.asg i b e,F=>b&&Kg e λf as=>F i f as
 |_,_=>Ad
noncomputable def QX:Ss->(S->Ai)->Ai
  |.nil,_=>Ad
  | .cons a r,F=>(match r with
    |.nil=>F a
    | .cons _ _=>Ad)
noncomputable def WK(n:Ag)(T:Tc)(st:AN)(c:E)(a b:Ss):Ai:=QX a λsa=>QX b λsb=>Q2 sa λi f as=>Q2 sb λi' f' as'=>Kh st λy v=>Q0 v λt xa xb=>decide (i=i')&&T.N[i]? == Ab y&&GS T y&&GW n T t c&&Od c&&Rl n T xa f as&&Rl n T xb f' as'
noncomputable def VV(f:AN->S->Ai)(n:Ag)(T:Tc)(st:AN):S->Ai
 |.ife c a b=>(Q3 a λa=>Q3 b λb=>LC st λt xs ys=>DM xs λx=>DM ys λy=>GW n T t c&&Od c&&f x a&&f y b)||WK n T st c a b
 |_=>Ad
noncomputable def NQ:Ag->Ag->Tc->AN->S->Ai
 |0,n,T,st,s=>Nw n T st s
 |m+1,n,T,st,s=>Nw n T st s||VV (NQ m n T) n T st s
noncomputable def bK:E->Ai
  | .bi b as=>(match b,as with
    |.len,.nil=>Aa
    | _,_=>Ad)
  |_=>Ad
noncomputable def bJ:S->Ai
 |.expr e=>bK e
 |_=>Ad
noncomputable def Oh:Ss->Ai
 |.cons s _=>bJ s
 |.nil=>Ad
noncomputable def hdB(T:Tc)(g:Ak)(c:Ag):Ai:=inX T.exs g c&&inX T.rzs g c&&glB T g&&GA g
noncomputable def Kn:Ag->Tc->Ac AN->Ss->(Ac AN->Ai)->Ai
  |0,_,_,_,_=>Ad
  |n+1,T,sts,ss,kk=>match ss with
    |.nil=>kk sts
    | .cons s ss=>(match sts with
      |[]=>Ad
      | st::sts=>(match s with
        |.ife c a b=>LC st λt xs ys=>GW n T t c&&Kn n T xs a (λr=>r.isEmpty)&&Kn n T ys b (λr=>r.isEmpty)
        |.ret e=>Lm st λo=>match o with|some v=>A5 n T v e|none=>Ad
        | _=>Ad)&&Kn n T sts ss kk)
noncomputable def ZO(n:Ag)(T:Tc)(ts:Ac Ag)(k:Ag)(e:E)(sp:AN):Ai:=match ts with
  |[x]=>Kf sp λe0=>Mr e0 λfx l ks cp=>ks.isEmpty&&(DM l λv=>N3 fx λw m ap=>m==("append" : Ak)&&ap.endLine==cp.line&&(Ll w λo i=>(EX o λy=>isV T y x)&&ID i λc=>decide (c=.int (k:Ae)))&&Da v&&A5 n T v e)
  |[x,y]=>NU sp λz m l=>DM l λv=>m==("append" : Ak)&&isV T z (if k=0 then x else y)&&Da v&&A5 n T v e
  |_=>Ad
noncomputable def ZQ(n:Ag)(T:Tc)(ts:Ac Ag)(f:Ag)(as:Es)(s1:AN):Ai:=match ts with
  |[x]=>Kh s1 λy v=>T.N[x]? == Ab y&&GS T y&&IA v&&A5 n T v (.call f as)
  |[x,z]=>N4 s1 λt v=>HU t λys=>(Fe ys).isSome&&tgC T [x,z] (tgN ys)&&WF v&&A5 n T v (.call f as)
  |_=>Ad
noncomputable def Rm(n:Ag)(T:Tc)(ts:Ac Ag)(f:Ag)(as:Es)(pre:Ss)(c:E)(a b:Ss)(k:Ag)(e:E)(s1:AN)(q:Ac AN):Ai:=
 ZQ n T ts f as s1&&Kn n T q pre λr=>DM r λst=>LC st λt xs ys=>GW n T t c&&Kn n T xs a (λr=>r.isEmpty)&&Kn n T ys b λr=>DM r λsp=>ZO n T ts k e sp
mutual
noncomputable def Jx:Ag->Tc->AN->S->Ai
  |0,_,_,_=>Ad
  |n+1,T,st,s=>match s with
    |.pass=>Ad
    |.brk=>Ad
    |.cont=>Ad
    |.asg i _ e=>Kh st λx v=>T.N[i]? == Ab x&&GS T x&&A5 n T v e
    |.asgT ts e=>Ad
    |.expr e=>Kf st λv=>IA v&&A5 n T v e
    |.ret e=>Lm st λo=>match o with|some v=>A5 n T v e|none=>Ad
    |.retN=>Ad
    |.ife c a b=>LC st λt xs ys=>GW n T t c&&chkSs n T xs a&&chkSs n T ys b
    |.fors t it body=>NW st λtg iter xs ys=>ys.isEmpty&&(EX tg λx=>tgC T [t] [x]&&Ms iter&&chkI n T Ad iter it&&chkSs n T xs body)
    |.forT ts it body=>NW st λtg iter xs zs=>zs.isEmpty&&(HU tg λys=>(Fe ys).isSome&&tgC T ts (tgN ys)&&Ms iter&&chkI n T Aa iter it&&chkSs n T xs body)
    |.whl c body=>Ad
    |.rais c as=>!(T.rzs.any λp=>p.2==c)||(NT st λa b=>b.isNone&&(match a with|some e=>Lg e λg x xs=>inX T.rzs g c&&glB T g&&GA g&&decide (xs.length<=1000)&&chkEs n T (x::xs) as|none=>Ad))
    |.tryx bs c x h=>(match bs with | .cons b .nil=>(match Rn st with|some (bt,[h1],[])=>(match xHd h1 with|some (g,m,h0,hs)=>hdB T g c&&T.N[x]? == Ab m&&T.sc.names.lookup m==Ab .local&&NQ 6 n T bt b&&Rk n T x (h0::hs) h|none=>Ad)|_=>Ad)|_=>Ad)
    |.try2 _ _ _ _ _ _ _=>Ad
    |.app i e=>NU st λx m l=>DM l λv=>m==("append" : Ak)&&isV T x i&&Da v&&A5 n T v e
    |.ext i e=>NU st λx m l=>DM l λv=>m==("extend" : Ak)&&isV T x i&&Da v&&(Rz e&&A5 n T v e||(match NJ e with|some a=>A5 n T v a|none=>Ad))
    |.rev i=>Ad
    |.clr i=>Ad
    |.put i k e=>N4 st λt v=>Ll t λo y=>EX o λx=>isV T x i&&No y&&A5 n T y k&&A5 n T v e
    |.swp _ _ _=>Ad
    |.apop _ _ _=>Ad
    |.ins i k e=>Ad
    |.dnw i=>(match st with | .Assign [.Name x _] v _=>T.N[i]? == Ab x&&GS T x&&RC v|_=>Ad)
    |.dput i k e=>(match st with | .Assign [.Subscript (.Name x _) y _] v _=>isV T x i&&No y&&A5 n T y k&&A5 n T v e|_=>Ad)
    |.dsd i k e=>(match st with | .Expr w _=>(match xMt w with|some (x,m,y,v)=>m==("setdefault" : Ak)&&isV T x i&&Da y&&Da v&&A5 n T y k&&A5 n T v e|none=>Ad)|_=>Ad)
    |.blk _ _ _ _ _ _ _ _ _=>Ad
    |.retT es=>Lm st λo=>match o with|some v=>HU v λl=>decide (l.length<=1000)&&chkEs n T l es|none=>Ad
    |.rel _=>Ad
noncomputable def chkSs:Ag->Tc->Ac AN->Ss->Ai
  |0,_,_,_=>Ad
  | n+1,T,sts,ss=>(match ss with
    |.nil=>sts.isEmpty
    |.cons (.rel i) ss=>chkSs n T sts ss
    | .cons (.blk ts f as pre c a b k e) ss=>(match ss with
      | .nil=>(match sts with
        |s1::q=>Rm n T ts f as pre c a b k e s1 q
        | []=>Ad)
      | _=>Ad)
    | .cons s ss=>(match sts with
      |st::r=>Jx n T st s&&chkSs n T r ss
      | []=>Ad))||Oh ss
end
noncomputable def Hb(fuel:Ag)(hot:Ai)(fns:Ac (Ak×Ag×Ag))(bl:Ac Ak)(rzs exs gls:Ac (Ak×Ag))(ps N:Ac Ak)(st:AN)(df:Df):Ai:=
  let sc:=Ff st
  sc.kind==.function && !sc.isCoroutine && !sc.isGenerator&&Mn N&&N.take ps.length==ps&&ps.all (λx=>sc.names.lookup x==Ab .local||sc.names.lookup x==Ab .cell)&&sc.names.all (λy=>y.2 != .free)&&N.length==df.n &&
  (match hot with
  |true=>Ad
  | false=>chkSs fuel ⟨sc,N,fns,bl,rzs,exs,gls⟩ (Gs st) df.body)
structure XT (up:Ag->Ac Ag) (xn:Ag->Ac D->R Ex) (CL:ClA) (rzs exs:Ac (Ak×Ag)) (K:Fg) (mg:Ak->Ao Aj):Prop where
 xc:∀ c C,CL c=Ab C->XcOk K C
 rz:∀ p∈rzs,∃ C,CL p.2=Ab C/\mg p.1=Ab (.ref C)
 ex:∀ p∈exs,∃ C,mg p.1=Ab (.ref C)/\Mi K CL up p.2 C/\∀ c D,CL c=Ab D->BM K (.ref D) (.ref C)=Ab ((up c).contains p.2)
 made:∀ c C ds,CL c=Ab C->xn c ds=.bad\/(xn c ds=.ok ⟨c,[]⟩/\D8 K C Af=Aa)\/AU
 nf:∀ c C,CL c=Ab C->∀ f:Ak,(f==("triple" : Ak)||f==("points" : Ak))=Aa->Lw K C=Aa/\Bq K (.ref C) f=Ab Af
 xb:∀ c,(∀ p∈rzs,p.2≠c)->∀ ds,xn c ds=.bad
def Ol(K:Fg)(mg:Ak->Ao Aj)(CL:ClA)(x:Ak)(d:D):Prop:=∃ u v,mg x=Ab u/\Bu v u/\∀ H A,Rep K CL H A v d
structure VX (U:Gam) (CL:ClA) (k:Ag) (W:XW) (T:Tc) (X:Cx):Prop where
 sc:X.env.scope=T.sc
 kd:T.sc.kind=.function
 N:X.N=T.N
 nd:T.N.Nodup
 calm:X.calm=Aa
 room:Room k X.A
 bl:∀ x,x∈T.bl->X.mg x=Af
 fn:∀ p∈T.fns,∃ f fd ps,X.mg p.1=Ab (.ref f)/\BL X.K (.ref f)=Aa/\EZ X.K fd ps []/\ps.length=p.2.2%1000/\(p.2.2<1000->FnOk X.prog X.w X.K X.mg X.base (CXR X.prog X.w) k f fd ps (spD X.K CL (p.2.2%1000) (U.fr p.2.1) (U.F p.2.1)))/\(1000<=p.2.2->HotOk X.prog X.w X.K X.mg X.base k f fd ps (spH X.K CL (p.2.2%1000) (U.fr p.2.1) (U.F p.2.1)))/\(100000<=p.2.1->∃ t,EZ X.K fd ps [.int 1 t])
 own:DH (model X.prog X.w) X.A X.env X.xe
 px:∀ A,J4 (CXR X.prog X.w) X (EKW X.K CL A W)
 rz:MB X CL W
 xt:XT U.up U.xn CL T.rzs T.exs X.K X.mg
 gl:∀ p∈T.gls,Ol X.K X.mg CL p.1 (U.G p.2)
theorem Wl:∀ A,J4 (CXR X.prog X.w) X (EKW X.K CL A W0):=λA pI Y H s ev s' I h=>by
 obtain⟨e,T,cls,dx,H',_,_,_,_,_,_,_,_,_,_,x,_,w⟩:=h;exact w.elim
theorem R7:MB X CL W0:=λ_ _ _ _ _ _ _ _ _ _ _ _ _ _ z=>z.elim
def Rf{α:Type}(g f:Rho->R α):Prop:=∀ Z,g Z=.bad\/g Z=f Z
section
variable{X:Cx}{CL:ClA}{W:XW}{a:Am}{f g:Rho->R D}
theorem SE.ref(h:SE X CL W a f)(r:Rf g f):SE X CL W a g:=λA=>PE.weak (h A) λY H Q ⟨hA,Z,q,p⟩=>⟨hA,Z,q,by
 rcases r Z with e|e
 .rw[e]at p;exact p.elim
 .rw[e]at p;exact p⟩
theorem SB.ref{f g:Rho->R Ai}(h:SB X CL W a f)(r:Rf g f):SB X CL W a g:=λA=>PT.weak (h A) λY H Q ⟨hA,Z,q,p⟩=>⟨hA,Z,q,by
 rcases r Z with e|e
 .rw[e]at p;exact p.elim
 .rw[e]at p;exact p⟩
theorem SW.ref{f g:Rho->R Ai}(h:SW X CL W a f)(r:Rf g f):SW X CL W a g:=λA=>PW.weak (h A) λY H Q ⟨hA,Z,q,p⟩=>⟨hA,Z,q,by
 rcases r Z with e|e
 .rw[e]at p;exact p.elim
 .rw[e]at p;exact p⟩
theorem SC.ref(h:SC X CL W fr a f)(r:Rf g f):SC X CL W fr a g:=λA=>PE.weak (h A) λY H Q ⟨hA,Z,q,p⟩=>⟨hA,Z,q,by
 rcases r Z with e|e
 .rw[e]at p;exact p.elim
 .rw[e]at p;exact p⟩
theorem SS.ref{st:AN}{f g:Rho->O}(h:SS X CL W st f)(r:∀ Z,g Z=.bad\/g Z=f Z):SS X CL W st g:=λFz B=>PS.weak (h Fz B) λD Y H ⟨Z,x,p⟩=>⟨Z,x,by
 rcases r Z with e|e
 .rw[e]at p;exact p.elim
 .rw[e]at p;exact p⟩
end
theorem MS:∀{l:Ac Ak},Mn l=Aa->l.Nodup
 |[],_=>H9
 |x::xs,h=>by
  unfold Mn at h;simp only[Al,Bh,Xn,Ew]at h;exact List.nodup_cons.mpr ⟨h.1,MS h.2⟩
section
variable{T:Tc}{X:Cx}{U:Gam}{CL:ClA}{k:Ag}{W:XW}
theorem UZ(h:Rr T x=Aa):Vis T.sc x:=by
 unfold Rr at h;split at h
 .exact .inl (by assumption)
 .exact .inr (.inl (by assumption))
 .exact .inr (.inr (by assumption))
 .cases h
theorem Iy(h:GS T x=Aa):Loc T.sc x:=by
 unfold GS at h;split at h
 .exact .inl (by assumption)
 .exact .inr (by assumption)
 .cases h
theorem Gr(h:GA x=Aa):(x==("__debug__" : Ak))=Ad/\(x==("__classdict__" : Ak))=Ad/\x≠"__name__" := by
 unfold GA at h;simp only[Al,Bh]at h;exact⟨h.1.1,h.1.2,λe=>by subst e;exact absurd h.2 (by simp)⟩
theorem F1{i:Ag}(v:VX U CL k W T X)(h:isV T x i=Aa):PE X (.Name x pos) (Gx i):=by
 unfold isV at h;simp only[Al,AS]at h;obtain⟨h2,h3,_⟩:=Gr h.2;exact Wi (by rw[v.N];exact h.1.1) (by rw[v.sc];exact UZ h.1.2) h2 h3
theorem IB(v:VX U CL k W T X)(h:isB T x=Aa):Gl X x/\X.mg x=Af/\x≠"__name__"/\(x==("__debug__" : Ak))=Ad:=by
 unfold isB glB at h;simp only[Al,AS,Xn,AK]at h;obtain⟨h2,h3,h4⟩:=Gr h.2;exact⟨by show X.env.scope.names.lookup x=_;rw[v.sc];exact h.1.2,v.bl x h.1.1,h4,h2⟩
theorem B5{x:Am}(h:Da x=Aa):Ar (x::xs) env=(Ad,eval x env)::Ar xs env:=by
 cases x<;>first|rfl|cases h
theorem TZ{y:Am}(h:No y=Aa):P5 y:=by
 intro o i;cases y<;>first|rfl|cases h
theorem Nq{e:Am}(h:Ms e=Aa):∀ x,CQ e env x=pure x:=by
 intro x;cases e<;>first|rfl|cases h
theorem Jh{e:Am}{t:Ao Am}(h:IA e=Aa):Cd e t l env=pure Ad:=by
 cases e<;>first|rfl|cases h
theorem lC{e:Am}(h:MR e=Aa):∀ whole,Ig e env whole=(do let v <-whole;Il e.pos;holding [v] (truthy v)):=by
 intro whole;cases e<;>first|rfl|cases h
theorem dE(v:VX U CL k W T X)(scope:B6):relabel scope X.env=Q4 T.sc scope:=by
 unfold relabel Q4;have:∀ n,X.env.kindOf n=T.sc.names.lookup n:=λn=>by show X.env.scope.names.lookup n=_;rw[v.sc]
 simp only[this,v.sc]
theorem QN{N':Ac Ak}(v:VX U CL k W T X)(h:Mw T scope ts N'=Aa):BlockOk X scope N' ts/\N'.Nodup/\scope.kind=.function:=by
 unfold Mw at h;simp only[Al,AS,Ec,Cz,Kx,ne_eq]at h;obtain⟨⟨⟨⟨⟨h1,h2⟩,h4⟩,h5⟩,h6⟩,h7⟩:=h;have at7:∀ i x,N'[i]?=Ab x->i∈ts\/((scope.names.lookup x≠Ab .local/\scope.names.lookup x≠Ab .cell)/\(scope.names.lookup x≠Ab .free\/T.N[i]?=Ab x)):=λi x e=>by
  have hi:=(AX.mp e).1;have:=h7 i (Bb.mpr hi);rcases this with z|z
  .exact .inl (by simpa using z)
  .rw[e]at z;simp only[Al,Kx,ne_eq,Cz,AS]at z;exact .inr z
 refine⟨⟨h1,h2,λy hy hl=>by rw[h2 y hy,hl],λy hy hf=>?_,by rw[v.N];exact h5,λi x e hf hn=>?_,λi x e hl=>?_⟩,MS h6,h1⟩
 .rw[v.sc];rcases h4 y hy with (z|z)|z
  .exact absurd hf z
  .exact .inl z
  .exact .inr z
 .rw[v.N];rcases at7 i x e with z|⟨_,z⟩
  .exact absurd z hn
  .exact z.resolve_left λq=>q hf
 .rcases at7 i x e with z|⟨z,_⟩
  .exact z
  .exact hl.elim (λq=>absurd q z.1) (λq=>absurd q z.2)
theorem VX.blk{xs:Ac Ak}{cl:Ac (Ak×Ah)}{s:Aq}{fp:Ac Ah}(v:VX U CL k W T X)(h:Mw T scope ts (Lx ts xs T.N)=Aa):VX U CL k W0 (T.blk scope ts xs) (cxC X scope cl C (Lx ts xs T.N) s H fp):=by
 obtain⟨_,h2,h3⟩:=QN v h;exact⟨dE v scope,h3,rfl,h2,v.calm,v.room,v.bl,v.fn,PassesOwn.never,Wl,R7,v.xt,v.gl⟩
theorem kX{t:Ag}(v:VX U CL k W T X)(hfn:scope.names.lookup x=Ab .cell->X.fn x=Aa)(h:tgO T scope t x=Aa):PG X (.Name x pos) (EE t):=by
 unfold tgO at h;simp only[Al,Cz,AS]at h;rcases h with ⟨h1,h2|h2⟩
 .exact Mg (by rw[v.N];exact v.nd) (by rw[v.N];exact h1) (by rw[v.sc];exact .inl h2) (.inr (by rw[v.sc];exact h2))
 .exact Mg (by rw[v.N];exact v.nd) (by rw[v.N];exact h1) (by rw[v.sc];exact .inr h2.1) (.inl (hfn h2.2))
theorem OT{y:Am}{r:Ac Am}{zs:Ac Ak}(h:Fe (y::r)=Ab zs):∃ x p ws,y=.Name x p/\Fe r=Ab ws/\zs=x::ws:=by
 cases y with
 |Name x p=>
  have h':(Fe r).map (x :: ·)=Ab zs:=h;cases e:Fe r with
  |none=>rw[e]at h';cases h'
  |some ws=>rw[e]at h';cases h';exact⟨x,p,ws,rfl,rfl,rfl⟩
 |_=>cases h
theorem Ph(x:Ak)(p:AJ)(r:Ac Am)(env:Ch):B9 (.Name x p::r) env=(Ad,assign (.Name x p) env)::B9 r env:=rfl
theorem OS:∀(ys:Ac Am)(zs:Ac Ak),Fe ys=Ab zs->(B9 ys env).length=ys.length/\(B9 ys env).findIdx? (·.1)=Af/\(B9 ys env).map (·.2)=ys.map λy=>assign y env:=by
 intro ys
 induction ys with
 |nil=>intro _ _;exact⟨rfl,rfl,rfl⟩
 |cons y r ih=>
  intro zs h;obtain⟨x,p,ws,rfl,e,rfl⟩:=OT h;obtain⟨h1,h2,h3⟩:=ih ws e;rw[Ph];refine⟨?_,?_,?_⟩
  .rw[AY,AY,h1]
  .rw[List.findIdx?_cons,h2];simp
  .rw[A8,A8,h3]
theorem lB(v:VX U CL k W T X):∀(ys:Ac Am)(ts:Ac Ag)(zs:Ac Ak),Fe ys=Ab zs->tgB T ts zs=Aa->PGs X ys (ts.foldr (λt u=>G8 (EE t) u) Hy)/\ts.length=ys.length:=by
 intro ys
 induction ys with
 |nil=>
  intro ts zs e h;cases e;cases ts with
  |nil=>exact⟨Vh,rfl⟩
  |cons t ts=>cases h
 |cons y r ih=>
  intro ts zs e h;obtain⟨x,p,ws,rfl,e2,rfl⟩:=OT e;cases ts with
  |nil=>cases h
  |cons t ts=>
   have h':(T.N[t]? == Ab x&&T.sc.names.lookup x==Ab .local&&tgB T ts ws)=Aa:=h;simp only[Al,AS]at h';obtain⟨h1,h2⟩:=ih ts ws e2 h'.2;exact⟨Tz (Mg (by rw[v.N];exact v.nd) (by rw[v.N];exact h'.1.1) (by rw[v.sc];exact .inl h'.1.2) (.inr (by rw[v.sc];exact h'.1.2))) h1 (by rw[Ph];rfl),congrArg (· + 1) h2⟩
theorem lA(v:VX U CL k W T X)(hn:(Fe ys).isSome=Aa)(h:tgB T ts (tgN ys)=Aa):PG X (.Tuple ys kk pos) (Ls X.K ts.length (ts.foldr (λt u=>G8 (EE t) u) Hy)):=by
 cases e:Fe ys with
 |none=>rw[e]at hn;cases hn
 |some zs=>
  have e2:tgN ys=zs:=by unfold tgN;rw[e];rfl
  rw[e2]at h;obtain⟨h1,h2⟩:=lB v ys ts zs e h;obtain⟨h3,h4,_⟩:=OS (env:=X.env) ys zs e;exact QF v.calm h1 (by rw[h3,h2]) h4
end
noncomputable def Es.len:Es->Ag
 |.nil=>0
 |.cons _ es=>es.len+1
theorem JT(U:Gam)(Z:Rho):∀(es:Es)(ds:Ac D),evA U Z es=.ok ds->ds.length=es.len
 |.nil,ds,h=>by cases h;rfl
 |.cons e es,ds,h=>by
  obtain⟨x,h1,h2⟩:=JN (Uc U Z e es ▸ h);obtain⟨xs,h3,h4⟩:=JN h2;cases h4;exact congrArg (· + 1) (JT U Z es xs h3)
theorem JS(U:Gam)(Z:Rho):∀(es:Es)(ds:Ac D),evB U Z es=.ok ds->ds.length=es.len
 |.nil,ds,h=>by cases h;rfl
 |.cons e es,ds,h=>by
  obtain⟨x,h1,h2⟩:=JN (Px U Z e es ▸ h);obtain⟨xs,h3,h4⟩:=JN h2;cases h4;exact congrArg (· + 1) (JS U Z es xs h3)
theorem V4(U:Gam)(Z:Rho)(e:E)(h:shE Z e=Aa):top Z e (evE U Z e)=evE U Z e:=by
 cases e with
 |var i=>
  show Cu Z i=FK Z i;have h':shV Z i=Aa:=h;unfold shV at h';unfold Cu FK;cases q:Z[i]? with
  |none=>rfl
  |some x=>
   cases x with
   |none=>rfl
   |some y=>
    obtain⟨d,o⟩:=y;cases o with
    |true=>rw[q]at h';cases h'
    |false=>rfl
 |_=>rfl
theorem J9(U:Gam)(Z:Rho):∀(es:Es),El Z es=Aa->evB U Z es=evA U Z es
 |.nil,_=>rfl
 |.cons e es,h=>by
  simp only[dN,Al]at h;rw[Uc,Px,V4 U Z e h.1,J9 U Z es h.2]
theorem Qs(U:Gam)(c:E):Rf (λZ=>evE U Z c) (λZ=>top Z c (evE U Z c)):=λZ=>by
 by_cases h:shE Z c=Aa
 .exact .inr (V4 U Z c h).symm
 .cases c with
  |var i=>
   refine .inl ?_;show FK Z i=.bad;have h':¬ shV Z i=Aa:=h;unfold shV at h';unfold FK;cases q:Z[i]? with
   |none=>rfl
   |some x=>
    cases x with
    |none=>rfl
    |some y=>
     obtain⟨d,o⟩:=y;cases o with
     |true=>rfl
     |false=>rw[q]at h';exact absurd rfl h'
  |_=>exact absurd rfl h
def Pcs(X:Cx)(CL:ClA)(W:XW)(e:Am)(f:Rho->R D):Prop:=∃ tg iter elt ifs scope pos N' ts fi fc fe as g,e=.ListComp elt [⟨tg,iter,ifs,0⟩] scope pos/\BlockOk X scope N' ts/\SI X CL W tg iter fi/\GG X.K CL ts as g /\
 (∀ cl C s H fp,PG (cxC X scope cl C N' s H fp) tg g)/\(∀ cl C s H fp,STs (cxC X scope cl C N' s H fp) CL ifs fc)/\(∀ cl C s H fp,SE (cxC X scope cl C N' s H fp) CL W0 elt fe)/\(∀ x,CQ iter X.env x=pure x) /\
 ∀ Z,f Z=(fi Z).bind λxs=>(noX (BU (λx=>(as x Z).bind fc) (λx=>(as x Z).bind fe) xs)).bind λys=>.ok (.lst ys)
theorem Pcs.sc{e:Am}{f:Rho->R D}(hc:X.calm=Aa)(h:Pcs X CL W e f):SC X CL W Aa e f:=by
 obtain⟨tg,iter,elt,ifs,scope,pos,N',ts,fi,fc,fe,as,g,rfl,B,hi,hGG,hg,ht,he,hs,ef⟩:=h;exact SC.congr (jB hc B hi hGG hg ht he hs) ef
structure OkE (U:Gam) (CL:ClA) (W:XW) (X:Cx) (e:Am) (c:E):Prop where
 se:SE X CL W e (λZ=>evE U Z c)
 st:ST X CL W e (λZ=>top Z c (evE U Z c))
 nw:Ce U c=Aa->SC X CL W Aa e (λZ=>evE U Z c)
 cp:IA e=Ad->Pcs X CL W e (λZ=>evE U Z c)
section
variable{U:Gam}{CL:ClA}{W:XW}{X:Cx}{e:Am}{c:E}
theorem EY(h:SE X CL W e (λZ=>evE U Z c))(ht:∀ Z r,top Z c r=r)(hn:Ce U c=Ad)(hc:IA e=Aa):OkE U CL W X e c:=
 ⟨h,by simp only[ht];exact h.st,λz=>absurd z (by rw[hn];decide),λz=>absurd z (by rw[hc];decide)⟩
theorem QH(h:SC X CL W Aa e (λZ=>evE U Z c))(ht:∀ Z r,top Z c r=r)(hc:IA e=Aa):OkE U CL W X e c:=
 ⟨h.se,by simp only[ht];exact h.se.st,λ_=>h,λz=>absurd z (by rw[hc];decide)⟩
theorem WE(hc:X.calm=Aa)(h:Pcs X CL W e (λZ=>evE U Z c))(ht:∀ Z r,top Z c r=r):OkE U CL W X e c:=
 ⟨(h.sc hc).se,by simp only[ht];exact(h.sc hc).se.st,λ_=>h.sc hc,λ_=>h⟩
end
theorem ZR{k:Ki}(h:Q9 k=Ab x):∃ T,tyK k=Ab T/\C4 x=Ab (.type T):=by
 cases k<;>simp only[Q9]at h<;>cases h
 .exact⟨_,rfl,PyProof.Rows.boot_int⟩
 .exact⟨_,rfl,PyProof.Rows.boot_bool⟩
 .exact⟨_,rfl,PyProof.Rows.boot_str⟩
 .exact⟨_,rfl,X3⟩
 .exact⟨_,rfl,X4⟩
structure Snd (U:Gam) (CL:ClA) (k:Ag) (n:Ag):Prop where
 e:∀(W:XW)(T:Tc)(X:Cx)(x:Am)(c:E),VX U CL k W T X->A5 n T x c=Aa->OkE U CL W X x c
 b:∀(W:XW)(T:Tc)(X:Cx)(x:Am)(c:E),VX U CL k W T X->GW n T x c=Aa->SB X CL W x (λZ=>(top Z c (evE U Z c)).bind BE)
 bs:∀(W:XW)(T:Tc)(X:Cx)(xs:Ac Am)(es:Es)(pos:AJ),VX U CL k W T X->chkBs n T xs es=Aa->xs≠[]->SW X CL W (.BoolOp .And xs pos) (λZ=>(evN U Z es).bind BE)/\SW X CL W (.BoolOp .Or xs pos) (λZ=>(evO U Z es).bind BE)
 es:∀(W:XW)(T:Tc)(X:Cx)(xs:Ac Am)(es:Es),VX U CL k W T X->chkEs n T xs es=Aa->SA X CL W xs (λZ=>evA U Z es)/\SAT X CL W xs (λZ=>evB U Z es)/\xs.length=es.len/\(∀ pos,xs≠[]->SE X CL W (.BoolOp .And xs pos) (λZ=>evN U Z es)/\SE X CL W (.BoolOp .Or xs pos) (λZ=>evO U Z es))/\(∀ pos,(Bv pos (Ar xs X.env)).any (·.1)=Ad)
 o:∀(W:XW)(T:Tc)(X:Cx)(x:Ao Am)(c:E),VX U CL k W T X->chkO n T x c=Aa->SO X CL W x (λZ=>(top Z c (evE U Z c)).bind (slE c))
 t:∀(T:Tc)(X:Cx)(xs:Ac Am)(c:E),VX U CL k W0 T X->chkT n T xs c=Aa->STs X CL xs (λZ=>(top Z c (evE U Z c)).bind BE)
 i:∀(W:XW)(T:Tc)(X:Cx)(tu:Ai)(tg x:Am)(i:I),VX U CL k W T X->RY tu tg=Aa->chkI n T tu x i=Aa->SI X CL W tg x (λZ=>evI U Z i)
section
variable{U:Gam}{CL:ClA}{W:XW}{k n:Ag}{T:Tc}{X:Cx}
theorem fQ:Snd U CL k 0:=⟨λ_ _ _ _ _ _ h=>noF h,λ_ _ _ _ _ _ h=>noF h,λ_ _ _ _ _ _ _ h=>noF h,λ_ _ _ _ _ _ h=>noF h,λ_ _ _ _ _ _ h=>noF h,λ_ _ _ _ _ h=>noF h,λ_ _ _ _ _ _ _ _ _ h=>noF h⟩
theorem Sw{x:Am}(h:Da x=Aa)(hx:(Bv pos (Ar xs env)).any (·.1)=Ad):(Bv pos (Ar (x::xs) env)).any (·.1)=Ad:=by
 rw[B5 h];show (Ad||(Bv pos (Ar xs env)).any (·.1))=Ad;rw[hx];rfl
theorem rC(S:Snd U CL k n)(W:XW)(T:Tc)(X:Cx)(xs:Ac Am)(es:Es)(v:VX U CL k W T X)(h:chkEs (n+1) T xs es=Aa):SA X CL W xs (λZ=>evA U Z es)/\SAT X CL W xs (λZ=>evB U Z es)/\xs.length=es.len/\(∀ pos,xs≠[]->SE X CL W (.BoolOp .And xs pos) (λZ=>evN U Z es)/\SE X CL W (.BoolOp .Or xs pos) (λZ=>evO U Z es))/\(∀ pos,(Bv pos (Ar xs X.env)).any (·.1)=Ad):=by
 cases xs with
 |nil=>
  cases es with
  |nil=>exact⟨We,jD,rfl,λ_ z=>absurd rfl z,λ_=>rfl⟩
  |cons=>exact noF h
 |cons x xs=>
  cases es with
  |nil=>exact noF h
  |cons e es=>
   replace h:(Da x&&A5 n T x e&&chkEs n T xs es)=Aa:=h;simp only[Al]at h;obtain⟨⟨h0,h1⟩,h2⟩:=h;have he:=S.e W T X x e v h1;obtain⟨a1,a2,a3,a4,a5⟩:=S.es W T X xs es v h2;refine⟨UW he.se a1 (B5 h0),fY he.st a2 (B5 h0),congrArg (· + 1) a3,λpos _=>?_,λpos=>Sw h0 (a5 pos)⟩
   cases xs with
   |nil=>
    cases es with
    |nil=>exact⟨Qv he.se,Qv he.se⟩
    |cons=>cases a3
   |cons y ys=>
    cases es with
    |nil=>cases a3
    |cons e' es'=>
     obtain⟨b1,b2⟩:=a4 pos (by simp)
     exact⟨Wd he.se b1,xC he.se b2⟩
theorem xZ(S:Snd U CL k n)(W:XW)(T:Tc)(X:Cx)(x:Ao Am)(c:E)(v:VX U CL k W T X)(h:chkO (n+1) T x c=Aa):SO X CL W x (λZ=>(top Z c (evE U Z c)).bind (slE c)):=by
 cases x with
 |none=>
  obtain rfl:=gW h;exact jX
 |some x=>
  replace h:(!(NM c)&&A5 n T x c)=Aa:=h;rw[Al]at h;have q:=jW (S.e W T X x c v h.2).st;have e:slE c=λd=>(E2 d).bind λi=>.ok (Ab i):=by
   funext d
   cases c<;>first|rfl|exact absurd (show Ad=Aa from h.1) Av
  rw[e];exact q
theorem xX(S:Snd U CL k n)(T:Tc)(X:Cx)(xs:Ac Am)(c:E)(v:VX U CL k W0 T X)(h:chkT (n+1) T xs c=Aa):STs X CL xs (λZ=>(top Z c (evE U Z c)).bind BE):=by
 cases xs with
 |nil=>
  replace h:=lH h;obtain⟨b,rfl,h⟩:=h;subst h;exact jK
 |cons x xs=>
  replace h:(xs.isEmpty&&GW n T x c)=Aa:=h;rw[Al]at h;obtain rfl:=GN h.1;exact jJ (S.b W0 T X x c v h.2)
theorem yA(S:Snd U CL k n)(W:XW)(T:Tc)(X:Cx)(tu:Ai)(tg x:Am)(i:I)(v:VX U CL k W T X)(ht':RY tu tg=Aa)(h:chkI (n+1) T tu x i=Aa):SI X CL W tg x (λZ=>evI U Z i):=by
 have ht:tu=Aa->av tg=Aa:=λz=>by
  subst z;cases tg<;>first|rfl|cases ht'
 cases i with
 |e a=>
  exact aL (S.e W T X x a v h).se
 |rng a=>
  replace h:=JW h;obtain⟨g,pp,l,qq,rfl,h⟩:=h;replace h:=Ej h;obtain⟨y,rfl,h⟩:=h;simp only[Al,AS]at h;obtain⟨⟨⟨rfl,h1⟩,h2⟩,h3⟩:=h;obtain⟨g1,g2,_,_⟩:=IB v h1;exact sA (S.e W T X _ a v h3).st g1 g2 (B5 h2)
 |rng2 a b=>
  replace h:=JW h;obtain⟨g,pp,l,qq,rfl,h⟩:=h;replace h:=Jc h;obtain⟨y,z,rfl,h⟩:=h;simp only[Al,AS]at h;obtain⟨⟨⟨⟨⟨rfl,h1⟩,h2⟩,h3⟩,h4⟩,h5⟩:=h;obtain⟨g1,g2,_,_⟩:=IB v h1;exact kA (S.e W T X _ a v h4).st (S.e W T X _ b v h5).st g1 g2 (by rw[B5 h2,B5 h3];rfl) (by rw[B5 h3];rfl)
 |zip a b=>
  replace h:=JW h;obtain⟨g,pp,l,qq,rfl,h⟩:=h;replace h:=Jc h;obtain⟨y,z,rfl,h⟩:=h;simp only[Al,AS]at h;obtain⟨⟨⟨⟨⟨⟨h0,rfl⟩,h1⟩,h2⟩,h3⟩,h4⟩,h5⟩:=h;obtain⟨g1,g2,_,_⟩:=IB v h1;have hg:=ht h0;cases tg with
  |Tuple es m tpos=>exact rZ (S.e W T X _ a v h4).se (S.e W T X _ b v h5).se g1 g2 (by rw[B5 h2,B5 h3];rfl) (by rw[B5 h3];rfl)
  |_=>cases hg
 |zip3 a b c=>exact absurd (show Ad=Aa from h) Av
 |enm a=>
  replace h:=JW h;obtain⟨g,pp,l,qq,rfl,h⟩:=h;replace h:=Ej h;obtain⟨y,rfl,h⟩:=h;simp only[Al,AS]at h;obtain⟨⟨⟨⟨h0,rfl⟩,h1⟩,h2⟩,h3⟩:=h;obtain⟨g1,g2,_,_⟩:=IB v h1;have hg:=ht h0;cases tg with
  |Tuple es m tpos=>exact kB (S.e W T X _ a v h3).se g1 g2 (B5 h2)
  |_=>cases hg
theorem KZ{c:Prop}[F5 c]{b:Ai}:(if c then R.ok (D.bl b) else .bad)=.bad\/∃ b',(if c then R.ok (D.bl b) else .bad)=.ok (.bl b'):=by
 by_cases h:c
 .rw[Ax h];exact .inr ⟨_,rfl⟩
 .rw[Ay h];exact .inl rfl
theorem Uf(op:CJ)(d d':D):BJ op d d'=.bad\/∃ b,BJ op d d'=.ok (.bl b):=by
 cases op with
 |Eq=>exact KZ
 |NotEq=>exact KZ
 |In=>
  cases d' with
  |lst ys=>exact KZ
  |tup ys=>exact KZ
  |dic kvs=>
   show (match Ea d with|some k=>R.ok (D.bl (kvs.any λp=>p.1==k))|none=>.bad)=.bad\/∃ b,(match Ea d with|some k=>R.ok (D.bl (kvs.any λp=>p.1==k))|none=>.bad)=.ok (.bl b)
   cases Ea d with
   |some k=>exact .inr ⟨_,rfl⟩
   |none=>exact .inl rfl
  |_=>exact .inl rfl
 |NotIn=>
  cases d' with
  |lst ys=>exact KZ
  |tup ys=>exact KZ
  |dic kvs=>
   show (match Ea d with|some k=>R.ok (D.bl (!kvs.any λp=>p.1==k))|none=>.bad)=.bad\/∃ b,(match Ea d with|some k=>R.ok (D.bl (!kvs.any λp=>p.1==k))|none=>.bad)=.ok (.bl b)
   cases Ea d with
   |some k=>exact .inr ⟨_,rfl⟩
   |none=>exact .inl rfl
  |_=>exact .inl rfl
 |Is=>
  cases d' with
  |non=>cases d<;>first|exact .inr ⟨_,rfl⟩|exact .inl rfl
  |_=>cases d<;>first|exact .inl rfl|exact .inr ⟨_,rfl⟩
 |IsNot=>
  cases d' with
  |non=>cases d<;>first|exact .inr ⟨_,rfl⟩|exact .inl rfl
  |_=>cases d<;>first|exact .inl rfl|exact .inr ⟨_,rfl⟩
 |_=>
  cases d with
  |int i=>cases d'<;>first|exact .inr ⟨_,rfl⟩|exact .inl rfl
  |_=>exact .inl rfl
theorem U_5(op:CJ)(d d':D):(BJ op d d').bind BE=.bad\/(BJ op d d').bind BE=(BJ op d d').bind DE:=by
 rcases Uf op d d' with h|⟨b,h⟩
 .rw[h];exact .inl rfl
 .rw[h];exact .inr rfl
theorem vD(e e':E)(es:Es):Rf (λZ=>(evN U Z (.cons e (.cons e' es))).bind BE) (λZ=>((top Z e (evE U Z e)).bind BE).bind λc=>if c=Aa then (evN U Z (.cons e' es)).bind BE else .ok Ad):=λZ=>by
 have e0:evN U Z (.cons e (.cons e' es))=(evE U Z e).bind λx=>(DE x).bind λc=>if c=Aa then evN U Z (.cons e' es) else .ok (.bl Ad):=rfl
 dsimp only;rw[e0];rcases Qs U e Z with z|z<;>dsimp only at z
 .rw[z];exact .inl rfl
 .rw[<-z];cases evE U Z e with
  |bad=>exact .inl rfl
  |exn x=>exact .inr rfl
  |ok d=>
   cases d with
   |bl b=>cases b<;>exact .inr rfl
   |_=>exact .inl rfl
theorem vC(e e':E)(es:Es):Rf (λZ=>(evO U Z (.cons e (.cons e' es))).bind BE) (λZ=>((top Z e (evE U Z e)).bind BE).bind λc=>if c=Aa then .ok Aa else (evO U Z (.cons e' es)).bind BE):=λZ=>by
 have e0:evO U Z (.cons e (.cons e' es))=(evE U Z e).bind λx=>(DE x).bind λc=>if c=Aa then .ok (.bl Aa) else evO U Z (.cons e' es):=rfl
 dsimp only;rw[e0];rcases Qs U e Z with z|z<;>dsimp only at z
 .rw[z];exact .inl rfl
 .rw[<-z];cases evE U Z e with
  |bad=>exact .inl rfl
  |exn x=>exact .inr rfl
  |ok d=>
   cases d with
   |bl b=>cases b<;>exact .inr rfl
   |_=>exact .inl rfl
theorem Rf.tru(e:E):Rf (λZ=>(evE U Z e).bind BE) (λZ=>(top Z e (evE U Z e)).bind BE):=λZ=>by
 rcases Qs U e Z with z|z<;>dsimp only at z ⊢
 .rw[z];exact .inl rfl
 .rw[<-z];exact .inr rfl
theorem rD(S:Snd U CL k n)(W:XW)(T:Tc)(X:Cx)(xs:Ac Am)(es:Es)(pos:AJ)(v:VX U CL k W T X)(h:chkBs (n+1) T xs es=Aa)(hne:xs≠[]):SW X CL W (.BoolOp .And xs pos) (λZ=>(evN U Z es).bind BE)/\SW X CL W (.BoolOp .Or xs pos) (λZ=>(evO U Z es).bind BE):=by
 cases xs with
 |nil=>exact absurd rfl hne
 |cons x xs=>
  cases es with
  |nil=>exact noF h
  |cons e es=>
   replace h:(GW n T x e&&chkBs n T xs es)=Aa:=h;simp only[Al]at h;obtain⟨h1,h2⟩:=h;have he:=S.b W T X x e v h1;cases xs with
   |nil=>
    cases es with
    |nil=>exact⟨SW.ref (jI he) (Rf.tru e),SW.ref (sN he) (Rf.tru e)⟩
    |cons=>
     cases n with
     |zero=>exact absurd (show Ad=Aa from h2) Av
     |succ n=>exact absurd (show Ad=Aa from h2) Av
   |cons y ys=>
    cases es with
    |nil=>
     cases n with
     |zero=>exact absurd (show Ad=Aa from h2) Av
     |succ n=>exact absurd (show Ad=Aa from h2) Av
    |cons e' es'=>
     obtain⟨b1,b2⟩:=S.bs W T X (y::ys) (.cons e' es') pos v h2 (by simp)
     exact⟨SW.ref (sO he b1) (vD e e' es'),SW.ref (xW he b2) (vC e e' es')⟩
theorem UM(x y:D):(Gw x y).bind BE=.bad\/(Gw x y).bind BE=(Gw x y).bind DE:=by
 unfold Gw;split
 .exact .inr rfl
 .exact .inl rfl
theorem mG{F:Ag->Ag->Ai}(h:Rv as F=Aa):∃ j i,as=.cons (.var j) (.cons (.var i) .nil)/\F j i=Aa:=by
 unfold Rv at h;split at h
 .exact⟨_,_,rfl,h⟩
 .exact noF h
theorem kW{x:Am}{b:BI}(v:VX U CL k W T X)(h:Ru T x ops ys b as=Aa):SB X CL W (.Compare x ops ys pos) (λZ=>(top Z (.bi b as) (evE U Z (.bi b as))).bind BE):=by
 replace h:=mG h;obtain⟨j,i,rfl,h⟩:=h;replace h:=Ej h;obtain⟨o,rfl,h⟩:=h;replace h:=Ej h;obtain⟨y,rfl,h⟩:=h;replace h:=Bt h;obtain⟨h,h4⟩:=h;replace h:=Bt h;obtain⟨h,h3⟩:=h;replace h:=Bt h;obtain⟨h,h2⟩:=h;replace h:=Bt h;obtain⟨h0,h1⟩:=h;obtain rfl:=AQ h0;obtain rfl:=AQ h1;replace h3:=EW h3;obtain⟨nx,px,rfl,h3⟩:=h3;replace h4:=EW h4;obtain⟨ny,py,rfl,h4⟩:=h4;refine SB.ref (Qy (lW v.room.units) (Ji (F1 v h3)) (Ji (F1 v h4)) (by simpa using h2)) λZ=>?_
 have e:top Z (.bi .tlt (.cons (.var j) (.cons (.var i) .nil))) (evE U Z (.bi .tlt (.cons (.var j) (.cons (.var i) .nil))))=(Cu Z j).bind λx=>(Cu Z i).bind λy=>Gw x y:=by
  show evE U Z (.bi .tlt (.cons (.var j) (.cons (.var i) .nil)))=_;simp only[Nv,evB,R.bind_assoc,R.bind_ok,QW];rfl
 rw[e];cases ej:Cu Z j with
 |bad=>exact .inl rfl
 |exn z=>exact(L7 ej).elim
 |ok d=>
  cases ei:Cu Z i with
  |bad=>exact .inl rfl
  |exn z=>exact(L7 ei).elim
  |ok d'=>
   rw[R.bind_ok,R.bind_ok,R.bind_ok,R.bind_ok];exact UM d d'
theorem kU(S:Snd U CL k n){x:Am}{b:BI}(v:VX U CL k W T X)(h:Oc T (A5 n) x ops ys b as=Aa):SB X CL W (.Compare x ops ys pos) (λZ=>(top Z (.bi b as) (evE U Z (.bi b as))).bind BE):=by
 unfold Oc at h;cases q1:Kc as with
 |none=>rw[q1]at h;cases h
 |some t=>
  obtain⟨a,c⟩:=t;rw[q1]at h;replace h:=Ej h;obtain⟨o,rfl,h⟩:=h;replace h:=Ej h;obtain⟨y,rfl,h⟩:=h
  .simp only[Al,Bh,AK]at h;obtain⟨rfl,⟨⟨rfl,h1⟩,h2⟩,h3⟩:=h;rw[Uh q1];refine SB.ref (Qy (Vl v.room.units) (S.e W T X _ a v h2).st (S.e W T X _ c v h3).st h1) λZ=>?_
   have e:top Z (.bi .tlt (.cons a (.cons c .nil))) (evE U Z (.bi .tlt (.cons a (.cons c .nil))))=(top Z a (evE U Z a)).bind λx=>(top Z c (evE U Z c)).bind λy=>Gw x y:=by
    show evE U Z (.bi .tlt (.cons a (.cons c .nil)))=_;simp only[Nv,evB,R.bind_assoc,R.bind_ok,QW]
   rw[e];cases top Z a (evE U Z a) with
   |bad=>exact .inl rfl
   |exn x=>exact .inr rfl
   |ok d=>
    cases top Z c (evE U Z c) with
    |bad=>exact .inl rfl
    |exn x=>exact .inr rfl
    |ok d'=>
     dsimp only[R.bind];exact UM d d'
theorem xK(S:Snd U CL k n)(W:XW)(T:Tc)(X:Cx)(x:Am)(c:E)(v:VX U CL k W T X)(h:GW (n+1) T x c=Aa):SB X CL W x (λZ=>(top Z c (evE U Z c)).bind BE):=by
 have plain:∀ e,MR e=Aa->A5 n T e c=Aa->SB X CL W e (λZ=>(top Z c (evE U Z c)).bind BE):=λe h1 h2=>tZ (S.e W T X e c v h2).st (lC h1)
 replace h:((LB x λo x=>decide (o=.Not)&&(Ob c λa=>GW n T x a))||(Jt x λo xs _=>(decide (o=.And)&&(N5 c λes=>chkBs n T xs es && !xs.isEmpty))||(decide (o=.Or)&&(Oa c λes=>chkBs n T xs es && !xs.isEmpty)))||(Ln x λx os ys=>(NX c λop a b=>DM os λop'=>DM ys λy=>decide (op'=op) && !behindInMarks op y&&A5 n T x a&&A5 n T y b)||(NY c λop1 op2 a b c=>Hw os λo1 o2=>Hw ys λy z=>decide (o1=op1)&&decide (o2=op2) && !lastMarks [op1,op2] [y,z]&&A5 n T x a&&A5 n T y b&&A5 n T z c)||(NZ c λb as=>Oc T (A5 n) x os ys b as||Ru T x os ys b as))||MR x&&A5 n T x c)=Aa:=h
 replace h:=(orT h).imp_left λz=>(orT z).imp_left orT
 rcases h with ((h|h)|h)|h
 .replace h:=Qe h;obtain⟨o,y,p,rfl,h⟩:=h;replace h:=Bt h;obtain⟨h0,h⟩:=h;obtain rfl:=AQ h0;replace h:=lF h;obtain⟨a,rfl,h⟩:=h
  .skip
   refine SB.ref (uA (S.b W T X _ a v h)) λZ=>?_
   show ((top Z a (evE U Z a)).bind λx=>(DE x).bind λb=>.ok (.bl (!b))).bind BE=.bad\/((top Z a (evE U Z a)).bind λx=>(DE x).bind λb=>.ok (.bl (!b))).bind BE=_
   cases top Z a (evE U Z a) with
   |bad=>exact .inl rfl
   |exn x=>exact .inr rfl
   |ok d=>cases d<;>first|exact .inr rfl|exact .inl rfl
 .replace h:=Ma h;obtain⟨o,ys,p,rfl,h⟩:=h;replace h:=orT h;rcases h with h|h
  .replace h:=Bt h;obtain⟨h0,h⟩:=h;obtain rfl:=AQ h0;replace h:=iR h;obtain⟨es,rfl,h⟩:=h;simp only[Al,Bh,D0]at h;exact(S.bs W T X _ _ _ v h.1 h.2).1.sb
  .replace h:=Bt h;obtain⟨h0,h⟩:=h;obtain rfl:=AQ h0;replace h:=lE h;obtain⟨es,rfl,h⟩:=h;simp only[Al,Bh,D0]at h;exact(S.bs W T X _ _ _ v h.1 h.2).2.sb
 .replace h:=PK h;obtain⟨w,os,ys,p,rfl,h⟩:=h;replace h:=(orT h).imp_left orT;rcases h with (h|h)|h
  .replace h:=iN h;obtain⟨op,a,b,rfl,h⟩:=h;replace h:=Ej h;obtain⟨op',rfl,h⟩:=h;replace h:=Ej h;obtain⟨y,rfl,h⟩:=h
   .simp only[Al,Bh,AK]at h;obtain⟨⟨⟨rfl,h1⟩,h2⟩,h3⟩:=h;refine SB.ref (Qy (K6 v.room.units _) (S.e W T X _ a v h2).st (S.e W T X _ b v h3).st h1) λZ=>?_
    show ((top Z a (evE U Z a)).bind λx=>(top Z b (evE U Z b)).bind λy=>BJ op' x y).bind BE=.bad\/((top Z a (evE U Z a)).bind λx=>(top Z b (evE U Z b)).bind λy=>BJ op' x y).bind BE=_
    cases top Z a (evE U Z a) with
    |bad=>exact .inl rfl
    |exn x=>exact .inr rfl
    |ok d=>
     cases top Z b (evE U Z b) with
     |bad=>exact .inl rfl
     |exn x=>exact .inr rfl
     |ok d'=>
      dsimp only[R.bind];exact U_5 _ d d'
  .replace h:=iO h;obtain⟨op1,op2,a,b,c,rfl,h⟩:=h;replace h:=Jc h;obtain⟨o1,o2,rfl,h⟩:=h;replace h:=Jc h;obtain⟨y,z,rfl,h⟩:=h
   .simp only[Al,Bh,AK]at h;obtain⟨⟨⟨⟨⟨rfl,rfl⟩,h1⟩,h2⟩,h3⟩,h4⟩:=h;refine SB.ref (fW v.room.units (S.e W T X _ a v h2).st (S.e W T X _ b v h3).st (S.e W T X _ c v h4).st h1) λZ=>?_
    show ((top Z a (evE U Z a)).bind λx=>(top Z b (evE U Z b)).bind λy=>(BJ o1 x y).bind λz=>(DE z).bind λk=>if k=Aa then (top Z c (evE U Z c)).bind λu=>BJ o2 y u else .ok (.bl Ad)).bind BE=.bad\/((top Z a (evE U Z a)).bind λx=>(top Z b (evE U Z b)).bind λy=>(BJ o1 x y).bind λz=>(DE z).bind λk=>if k=Aa then (top Z c (evE U Z c)).bind λu=>BJ o2 y u else .ok (.bl Ad)).bind BE=_
    cases top Z a (evE U Z a) with
    |bad=>exact .inl rfl
    |exn x=>exact .inr rfl
    |ok d=>
     cases top Z b (evE U Z b) with
     |bad=>exact .inl rfl
     |exn x=>exact .inr rfl
     |ok d'=>
      dsimp only[R.bind];cases BJ o1 d d' with
      |bad=>exact .inl rfl
      |exn x=>exact .inr rfl
      |ok d3=>
       cases d3 with
       |bl k=>
        cases k with
        |false=>exact .inr rfl
        |true=>
         dsimp only[R.bind,DE];rw[Ax rfl,Ax rfl];cases top Z c (evE U Z c) with
         |bad=>exact .inl rfl
         |exn x=>exact .inr rfl
         |ok d4=>exact U_5 _ d' d4
       |_=>exact .inl rfl
  .replace h:=iP h;obtain⟨b,as,rfl,h⟩:=h;replace h:=orT h;rcases h with h|h
   .exact kU S v h
   .exact kW v h
 .exact plain _ (Bt h).1 (Bt h).2
end
section
variable{U:Gam}{CL:ClA}{W:XW}{k n:Ag}{T:Tc}{X:Cx}
theorem ZT{b:BI}{x:Am}(v:VX U CL k W T X)(hb:Ra b=Ab g)(hg:isB T g=Aa)(hs:SAT X CL W (x::xs) (λZ=>evB U Z as))(h0:Da x=Aa)(hpl:∀ pos,(Bv pos (Ar xs X.env)).any (·.1)=Ad):OkE U CL W X (.Call (.Name g p) (x::xs) [] pos) (.bi b as):=by
 obtain⟨g1,g2,g3,g4⟩:=IB v hg;cases b<;>simp only[Ra]at hb<;>cases hb
 .exact EY (Qx uY g1 g2 PySem.boot_len hs g3 g4 (B5 h0) hpl) (λ_ _=>rfl) rfl rfl
 .exact QH (rW nQ g1 g2 X3 hs g3 g4 (B5 h0) hpl) (λ_ _=>rfl) rfl
 .exact EY (tY iG g1 g2 X4 hs g3 g4 (B5 h0) hpl) (λ_ _=>rfl) rfl rfl
 .exact EY (Qx (uZ v.calm) g1 g2 PyProof.Rows.boot_all hs g3 g4 (B5 h0) hpl) (λ_ _=>rfl) rfl rfl
 .exact EY (Qx (uX v.calm) g1 g2 PyProof.Rows.boot_sum hs g3 g4 (B5 h0) hpl) (λ_ _=>rfl) rfl rfl
theorem Li{l:Ac (Ak×Ag)}(h:inX l g c=Aa):(g,c)∈l:=by
 unfold inX at h;simp only[BQ,Al,AS]at h;obtain⟨p,hp,rfl,rfl⟩:=h;exact hp
theorem Ir{x:Am}{es:Es}(h:chkEs n T (x::xs) es=Aa):Da x=Aa/\∃ e es',es=.cons e es'/\∃ m,n=m+1/\chkEs m T xs es'=Aa:=by
 cases n with
 |zero=>exact noF h
 |succ m=>
  cases es with
  |nil=>exact noF h
  |cons e es=>
   replace h:(Da x&&A5 m T x e&&chkEs m T xs es)=Aa:=h;simp only[Al]at h;exact⟨h.1.1,e,es,rfl,m,rfl,h.2⟩
theorem Je:∀(m:Ag)(xs:Ac Am)(es:Es),chkEs m T xs es=Aa->∀ pos,(Bv pos (Ar xs X.env)).any (·.1)=Ad:=by
 intro m
 induction m with
 |zero=>intro xs es h;exact noF h
 |succ m ih=>
  intro xs es h pos;cases xs with
  |nil=>rfl
  |cons x xs=>
   obtain⟨h0,e,es',rfl,m',e1,h1⟩:=Ir h;cases e1;exact Sw h0 (ih xs es' h1 pos)
theorem uC(S:Snd U CL k n){x:Am}{b:BI}(v:VX U CL k W T X)(h:(match Ot as with|some a=>(match R8 x with|some y=>decide (b=.rvs)&&A5 n T y a|none=>Ad)|none=>Ad)=Aa):OkE U CL W X x (.bi b as):=by
 simp[Ot]at h
theorem sK(S:Snd U CL k n){x:Am}{b:BI}(v:VX U CL k W T X)(h:(match Kc as with|some (a,c)=>(match Mz x with|some (y,z,_)=>decide (b=.tlt) && !behindInMarks .Lt z&&A5 n T y a&&A5 n T z c|none=>Ad)|none=>Ad)=Aa):OkE U CL W X x (.bi b as):=by
 cases q1:Kc as with
 |none=>rw[q1]at h;cases h
 |some t=>
  obtain⟨a,c⟩:=t;cases q2:Mz x with
  |none=>rw[q1,q2]at h;cases h
  |some t2=>
   obtain⟨y,z,p⟩:=t2;rw[q1,q2]at h;simp only[Al,AK,Bh]at h;obtain⟨⟨⟨rfl,h1⟩,h2⟩,h3⟩:=h;rw[Uh q1,pS q2];refine EY (SE.congr (Wc (Vl v.room.units) (S.e W T X _ a v h2).st (S.e W T X _ c v h3).st h1) λZ=>?_) (λ_ _=>rfl) rfl rfl
   simp only[Nv,evB,R.bind_assoc,R.bind_ok,QW]
theorem vP{x:Am}{b:BI}(v:VX U CL k W T X)(h:Sa T x b as=Aa):OkE U CL W X x (.bi b as):=by
 exact absurd h Av
theorem sP(S:Snd U CL k n){x:Am}{b:BI}(v:VX U CL k W T X)(h:(match Re as with|some (a,k)=>(match R4 x with|some (y,j)=>decide (b=.stp)&&decide (j=k)&&decide (0<=k)&&A5 n T y a|none=>Ad)|none=>Ad)=Aa):OkE U CL W X x (.bi b as):=by
 simp[Re]at h
theorem sT(S:Snd U CL k n){x:Am}{b:BI}(v:VX U CL k W T X)(h:(match Rh as with|some (a,c)=>(match RV x with|some (g,h,y,z)=>decide (b=.list)&&g==("list" : Ak)&&h==("range" : Ak)&&isB T g&&isB T h&&Da y&&Da z&&A5 n T y a&&A5 n T z c|none=>Ad)|none=>Ad)=Aa):OkE U CL W X x (.bi b as):=by
 simp[Rh]at h
theorem pE(S:Snd U CL k n){x:Am}{b:BI}(v:VX U CL k W T X)(h:(match Rg as with|some a=>(match RU x with|some (g,h,y)=>decide (b=.lset)&&g==("len" : Ak)&&h==("set" : Ak)&&isB T g&&isB T h&&Da y&&A5 n T y a|none=>Ad)|none=>Ad)=Aa):OkE U CL W X x (.bi b as):=by
 simp[Rg]at h
theorem xJ(S:Snd U CL k n)(W:XW)(T:Tc)(X:Cx)(x:Am)(c:E)(v:VX U CL k W T X)(h:A5 (n+1) T x c=Aa):OkE U CL W X x c:=by
 cases c with
 |non=>
  replace h:=JV h;obtain⟨c,u,p,rfl,h⟩:=h;obtain rfl:=AQ h;exact EY qW (λ_ _=>rfl) rfl rfl
 |bl b=>
  replace h:=JV h;obtain⟨c,u,p,rfl,h⟩:=h;obtain rfl:=AQ h;exact EY WH (λ_ _=>rfl) rfl rfl
 |int i=>
  replace h:=JV h;obtain⟨c,u,p,rfl,h⟩:=h;obtain rfl:=AQ h;exact EY rB (λ_ _=>rfl) rfl rfl
 |str i=>
  replace h:=JV h;obtain⟨c,u,p,rfl,h⟩:=h;obtain rfl:=AQ h;exact EY Wa (λ_ _=>rfl) rfl rfl
 |var i=>
  replace h:=EW h;obtain⟨y,p,rfl,h⟩:=h;exact⟨qV (F1 v h),Ji (F1 v h),λz=>(nomatch z),λz=>(nomatch z)⟩
 |glob g=>
  replace h:=EW h;obtain⟨y,p,rfl,h⟩:=h;simp only[Al]at h;obtain⟨⟨h1,h2⟩,h3⟩:=h;obtain⟨u,w',m1,m2,m3⟩:=v.gl _ (Li h1);obtain⟨n2,_,_⟩:=Gr h3;refine EY (λA=>PE.weak (Qb (by unfold glB at h2;show X.env.scope.names.lookup _=_;rw[v.sc];exact eq_of_beq h2) m1 m2 n2) λY H Q ⟨hA,Z,gd,p⟩=>?_) (λ_ _=>rfl) rfl rfl
  exact p w' H (AB.refl H) (m3 H A)
 |bin op a b=>
  replace h:=Up h;obtain⟨y,op',z,p,rfl,h⟩:=h;simp only[Al,AK]at h;obtain⟨⟨rfl,h1⟩,h2⟩:=h;have ha:=(S.e W T X _ a v h1).st;have hb:=(S.e W T X _ b v h2).st;refine⟨Qw (Qd _) ha hb,(Qw (Qd _) ha hb).st,λz=>?_,λz=>nomatch z⟩
  cases op'<;>first|exact rX ha hb|cases z
 |un op a=>exact absurd (show Ad=Aa from h) Av
 |no a=>
  replace h:=Qe h;obtain⟨o,y,p,rfl,h⟩:=h;replace h:=Bt h;obtain⟨h0,h⟩:=h;obtain rfl:=AQ h0;exact EY (Wb (S.e W T X _ a v h).st) (λ_ _=>rfl) rfl rfl
 |and es=>
  replace h:=Ma h;obtain⟨o,ys,p,rfl,h⟩:=h;replace h:=Bt h;obtain⟨h0,h⟩:=h;obtain rfl:=AQ h0;simp only[Al,Bh,D0]at h;exact EY ((S.es W T X _ es v h.1).2.2.2.1 _ h.2).1 (λ_ _=>rfl) rfl rfl
 |or es=>
  replace h:=Ma h;obtain⟨o,ys,p,rfl,h⟩:=h;replace h:=Bt h;obtain⟨h0,h⟩:=h;obtain rfl:=AQ h0;simp only[Al,Bh,D0]at h;exact EY ((S.es W T X _ es v h.1).2.2.2.1 _ h.2).2 (λ_ _=>rfl) rfl rfl
 |cmp op a b=>
  replace h:=PK h;obtain⟨y,os,ys,p,rfl,h⟩:=h;replace h:=Ej h;obtain⟨op',rfl,h⟩:=h;replace h:=Ej h;obtain⟨z,rfl,h⟩:=h;simp only[Al,Bh,AK]at h;obtain⟨⟨⟨rfl,h1⟩,h2⟩,h3⟩:=h;exact EY (Wc (K6 v.room.units _) (S.e W T X _ a v h2).st (S.e W T X _ b v h3).st h1) (λ_ _=>rfl) rfl rfl
 |cmp2 op1 op2 a b c=>
  replace h:=PK h;obtain⟨y,os,ys,p,rfl,h⟩:=h;replace h:=Jc h;obtain⟨o1,o2,rfl,h⟩:=h;replace h:=Jc h;obtain⟨z,w,rfl,h⟩:=h;simp only[Al,Bh,AK]at h;obtain⟨⟨⟨⟨⟨rfl,rfl⟩,h1⟩,h2⟩,h3⟩,h4⟩:=h;exact EY (fV v.room.units (S.e W T X _ a v h2).st (S.e W T X _ b v h3).st (S.e W T X _ c v h4).st h1) (λ_ _=>rfl) rfl rfl
 |ite c a b=>exact absurd (show Ad=Aa from h) Av
 |call f as=>
  replace h:=JP h;obtain⟨g,pp,y,ys,qq,rfl,h⟩:=h;simp only[Al,BQ,AS,AK]at h;obtain⟨⟨⟨⟨⟨p,hp,⟨rfl,rfl⟩,hl⟩,h900⟩,h1⟩,h2⟩,h3⟩:=h;obtain⟨fa,fd,ps,m1,m2,m3,m4,m5,_⟩:=v.fn p hp;have hlt:p.2.2<1000:=by omega
  rw[Ee hlt]at m4 m5;have m5:=m5 hlt;obtain⟨n2,n3,n4⟩:=Gr h2;obtain⟨a1,a2,a3,a4,a5⟩:=S.es W T X _ as v h3;obtain⟨s0,e,es',rfl,m,rfl,s1⟩:=Ir h3;have q:SC X CL W (U.fr p.2.1) (.Call (.Name p.1 pp) (y::ys) [] qq) (λZ=>evE U Z (.call p.2.1 (.cons e es'))):=jC (sh:=λZ=>El Z (.cons e es')) m5 v.room (by unfold glB at h1;show X.env.scope.names.lookup p.1=_;rw[v.sc];exact eq_of_beq h1) m1 m2 m3 v.px a1 a2 (λZ z=>J9 U Z _ z) (λZ ds z=>by rw[JS U Z _ _ z,<-a3,hl];rfl) n2 (B5 s0) (Je m ys es' s1)
  exact⟨q.se,q.se.st,λz=>by
   have z':U.fr p.2.1=Aa:=z;rw[z']at q;exact q,λz=>nomatch z⟩
 |bi b as=>
  unfold A5 at h;dsimp only at h;simp only[Cz]at h;rcases h with (((((h|h)|h)|h)|h)|h)|h
  .replace h:=JP h;obtain⟨g,pp,y,ys,qq,rfl,h⟩:=h;simp only[Al,AS]at h;obtain⟨⟨h1,h2⟩,h3⟩:=h;obtain⟨s0,e,es',rfl,m,rfl,s1⟩:=Ir h3;exact ZT v h1 h2 (S.es W T X _ _ v h3).2.1 s0 (Je m _ es' s1)
  .exact vP v h
  .exact sT S v h
  .exact sP S v h
  .exact pE S v h
  .exact sK S v h
  .exact uC S v h
 |isi a ks=>
  replace h:=Ej h;obtain⟨k',rfl,h⟩:=h;replace h:=JW h;obtain⟨g,pp,l,qq,rfl,h⟩:=h;replace h:=Jc h;obtain⟨y,t,rfl,h⟩:=h;replace h:=EW h;obtain⟨t,pt,rfl,h⟩:=h;simp only[Al,AS]at h;obtain⟨⟨⟨⟨⟨rfl,h1⟩,h2⟩,h3⟩,h4⟩,h5⟩:=h;obtain⟨g1,g2,_,_⟩:=IB v h1;obtain⟨b1,b2,b3,b4⟩:=IB v h3;obtain⟨ty,t1,t2⟩:=ZR h2;exact EY (qZ t1 g1 g2 b1 b2 t2 b3 b4 (S.e W T X _ a v h5).st (B5 h4)) (λ_ _=>rfl) rfl rfl
 |idx a i=>
  replace h:=M3 h;obtain⟨y,z,p,rfl,h⟩:=h;simp only[Al]at h;obtain⟨⟨h1,h2⟩,h3⟩:=h;exact EY (tX v.room.units (TZ h1) (S.e W T X _ a v h2).st (S.e W T X _ i v h3).st) (λ_ _=>rfl) rfl rfl
 |sl a lo hi=>
  replace h:=M3 h;obtain⟨y,s,p,rfl,h⟩:=h;replace h:=iJ h;obtain⟨l,u,st,p',rfl,h⟩:=h;replace h:=Bt h;obtain⟨h0,h⟩:=h;obtain rfl:=X1.mp h0;simp only[Al]at h;obtain⟨⟨h1,h2⟩,h3⟩:=h;refine QH (SC.congr (xN (S.e W T X _ a v h1).st (S.o W T X _ lo v h2) (S.o W T X _ hi v h3)) λZ=>?_) (λ_ _=>rfl) rfl
  show ((top Z a (evE U Z a)).bind λx=>(top Z lo (evE U Z lo)).bind λl=>(slE lo l).bind λl'=>(top Z hi (evE U Z hi)).bind λh=>(slE hi h).bind λh'=>slD x l' h')=_
  simp only[R.bind_assoc]
 |tup es=>
  replace h:=JU h;obtain⟨ys,cc,p,rfl,h⟩:=h;simp only[Al,AK]at h;have q:=S.es W T X _ es v h.1;exact EY (V9 q.1 λZ ds z=>by rw[JT U Z _ _ z,<-q.2.2.1];omega) (λ_ _=>rfl) rfl rfl
 |lst es=>
  replace h:=PJ h;obtain⟨ys,p,rfl,h⟩:=h;simp only[Al,AK]at h;have q:=S.es W T X _ es v h.1;exact QH (Qu q.1 λZ ds z=>by rw[JT U Z _ _ z,<-q.2.2.1];omega) (λ_ _=>rfl) rfl
 |comp elt t it c=>
  replace h:=Vp (e:=x) (F:=_) (by unfold A5 at h;exact h)
  obtain⟨y,tg,it',ifs,scope,p,rfl,h⟩:=h;replace h:=EW h;obtain⟨w,pw,rfl,h⟩:=h;simp only[Al]at h;obtain⟨⟨⟨⟨⟨h1,h2⟩,h3⟩,h4⟩,h5⟩,h6⟩:=h;refine WE v.calm ⟨_,_,_,_,_,_,_,_,_,_,_,_,_,rfl,(QN v h3).1,S.i W T X Ad _ _ it v rfl h1,nZ t,λcl C s H fp=>kX (v.blk h3) (λz=>AS.mpr z) h4,λcl C s H fp=>S.t _ _ _ c (v.blk h3) h5,λcl C s H fp=>(S.e W0 _ _ _ elt (v.blk h3) h6).se,Nq h2,λZ=>rfl⟩ (λ_ _=>rfl)
 |compT elt ts it c=>
  replace h:=Vp (e:=x) (F:=_) (by unfold A5 at h;exact h)
  obtain⟨y,tg,it',ifs,scope,p,rfl,h⟩:=h;replace h:=JU h;obtain⟨ys,cc,pw,rfl,h⟩:=h;simp only[Al]at h;obtain⟨⟨⟨⟨⟨⟨h0,h1⟩,h2⟩,h3⟩,h4⟩,h5⟩,h6⟩:=h;refine WE v.calm ⟨_,_,_,_,_,_,_,_,_,_,_,_,_,rfl,(QN v h3).1,S.i W T X Aa _ _ it v rfl h1,wI ts,λcl C s H fp=>lA (v.blk h3) h0 h4,λcl C s H fp=>S.t _ _ _ c (v.blk h3) h5,λcl C s H fp=>(S.e W0 _ _ _ elt (v.blk h3) h6).se,Nq h2,λZ=>rfl⟩ (λ_ _=>rfl)
 |tupI it=>exact absurd (show Ad=Aa from h) Av
 |dget i a c=>
  unfold A5 at h;dsimp only at h;cases q:xMt x with
  |none=>rw[q]at h;cases h
  |some t=>
   obtain⟨x,m,y,z⟩:=t;rw[q]at h;simp only[Al,AS]at h;obtain⟨⟨⟨⟨⟨rfl,h1⟩,h2⟩,h3⟩,h4⟩,h5⟩:=h;obtain⟨p,ap,cp,rfl,hl⟩:=Vz q;have hu:=v.room.units;exact EY (jA (by omega) (F1 v h1) (S.e W T X _ a v h4).st (S.e W T X _ c v h5).se rfl (by rw[B5 h2,B5 h3];rfl) (by rw[hl];exact CF _) (B5 h2) (B5 h3) (by rw[B5 h3];rfl)) (λ_ _=>rfl) rfl rfl
 |fld o f=>exact noF h
theorem snd:∀ n,Snd U CL k n
 |0=>fQ
 |n+1=>⟨xJ (snd n),xK (snd n),rD (snd n),rC (snd n),xZ (snd n),xX (snd n),yA (snd n)⟩
end
section
variable{U:Gam}{CL:ClA}{W:XW}{k n:Ag}{T:Tc}{X:Cx}
theorem kZ{t:Ag}(v:VX U CL k W T X)(hf:∀ x,X.fn x=Aa)(h:tgC T [t] [x]=Aa):PG X (.Name x pos) (EE t):=by
 unfold tgC at h;simp only[Al,AS]at h;exact Mg (by rw[v.N];exact v.nd) (by rw[v.N];exact h.1.1) (by rw[v.sc];exact Iy h.1.2) (.inl (hf x))
theorem UN(v:VX U CL k W T X)(hf:∀ x,X.fn x=Aa):∀(ys:Ac Am)(ts:Ac Ag)(zs:Ac Ak),Fe ys=Ab zs->tgC T ts zs=Aa->PGs X ys (ts.foldr (λt u=>G8 (EE t) u) Hy)/\ts.length=ys.length:=by
 intro ys
 induction ys with
 |nil=>
  intro ts zs e h;cases e;cases ts with
  |nil=>exact⟨Vh,rfl⟩
  |cons t ts=>cases h
 |cons y r ih=>
  intro ts zs e h;obtain⟨x,p,ws,rfl,e2,rfl⟩:=OT e;cases ts with
  |nil=>cases h
  |cons t ts=>
   have h':(T.N[t]? == Ab x&&GS T x&&tgC T ts ws)=Aa:=h;simp only[Al,AS]at h';obtain⟨h1,h2⟩:=ih ts ws e2 h'.2;exact⟨Tz (Mg (by rw[v.N];exact v.nd) (by rw[v.N];exact h'.1.1) (by rw[v.sc];exact Iy h'.1.2) (.inl (hf x))) h1 (by rw[Ph];rfl),congrArg (· + 1) h2⟩
theorem kY(v:VX U CL k W T X)(hf:∀ x,X.fn x=Aa)(hn:(Fe ys).isSome=Aa)(h:tgC T ts (tgN ys)=Aa):PG X (.Tuple ys kk pos) (Ls X.K ts.length (ts.foldr (λt u=>G8 (EE t) u) Hy)):=by
 cases e:Fe ys with
 |none=>rw[e]at hn;cases hn
 |some zs=>
  have e2:tgN ys=zs:=by unfold tgN;rw[e];rfl
  rw[e2]at h;obtain⟨h1,h2⟩:=UN v hf ys ts zs e h;obtain⟨h3,h4,_⟩:=OS (env:=X.env) ys zs e;exact QF v.calm h1 (by rw[h3,h2]) h4
theorem sM(v:VX U CL k W T X)(hf:∀ x,X.fn x=Aa)(hn:(Fe ys).isSome=Aa)(h:tgC T ts (tgN ys)=Aa):PG X (.Tuple ys kk pos) (gSq X.K ts.length (ts.foldr (λt u=>G8 (EE t) u) Hy)):=by
 cases e:Fe ys with
 |none=>rw[e]at hn;cases hn
 |some zs=>
  have e2:tgN ys=zs:=by unfold tgN;rw[e];rfl
  rw[e2]at h;obtain⟨h1,h2⟩:=UN v hf ys ts zs e h;obtain⟨h3,h4,_⟩:=OS (env:=X.env) ys zs e;exact zD v.calm h1 (by rw[h3,h2]) h4
theorem sF{e:Am}(h:(WF e||Ds 4 ys.length)=Aa):FW [.Tuple ys kk pos] e env=pure Af:=by
 cases e with
 |Tuple vs a b=>
  have h4:=EK (show Ds 4 ys.length=Aa from h)
  have e2:(ys.length==2)=Ad:=by rw[Cw];omega
  have e3:(ys.length==3)=Ad:=by rw[Cw];omega
  unfold FW;dsimp only;rw[e2,e3];rfl
 |_=>rfl
theorem dU(ts:Ac Ag):∀ d Z x,FH ts d Z≠.exn x:=λd Z x h=>by
 unfold FH at h;cases d with
 |tup xs=>
  dsimp only at h;cases e:EF ts xs Z with
  |some r=>rw[e]at h;cases h
  |none=>rw[e]at h;cases h
 |_=>cases h
theorem fM{elt:Am}{gs:Ac IN}:∃ b,Cd (.ListComp elt gs scope pos) (Ab (.Name x pos')) l env=pure b/\(b=Aa->env.scope.names.lookup x=Ab .local):=by
 refine⟨_,rfl,λh=>?_⟩
 simp only[Al,AS]at h;exact h.1.1.2
theorem Qz{v0:Am}{i:Ag}{e:E}(v:VX U CL k W T X)(hf:∀ x,X.fn x=Aa)(hi:T.N[i]?=Ab x)(hl:GS T x=Aa)(o:OkE U CL W X v0 e)(hfr:fr=Aa->Ce U e=Aa):SAs X CL W fr i (.Assign [.Name x p] v0 pos) (λZ=>evE U Z e):=by
 have hN:X.N.Nodup:=by rw[v.N];exact v.nd
 have hi':X.N[i]?=Ab x:=by rw[v.N];exact hi
 have hx:Loc X.env.scope x:=by rw[v.sc];exact Iy hl
 have sc:SC X CL W fr v0 (λZ=>evE U Z e):=by
  cases fr with
  |false=>exact o.se.sc
  |true=>exact o.nw (hfr rfl)
 cases hc:IA v0 with
 |true=>exact SC.sas hN hi' hx sc (Jh hc) (.inl (hf x))
 |false=>
  obtain⟨tg,iter,elt,ifs,scope,pos2,N',ts,fi,fc,fe,as,g,rfl,B,h2,hGG,hg,ht,he,hs,ef⟩:=o.cp hc;obtain⟨b,hb,hb'⟩:=fM (elt:=elt) (gs:=[⟨tg,iter,ifs,0⟩]) (scope:=scope) (pos:=pos2) (pos':=p) (x:=x) (l:=pos.line) (env:=X.env);cases b with
  |false=>exact SC.sas hN hi' hx sc hb (.inl (hf x))
  |true=>
   have q:=fZ (pos2:=pos) v.calm B h2 hGG hg ht he hs hN hi' (hb' rfl) hb;have q':SAs X CL W Aa i (.Assign [.Name x p] (.ListComp elt [⟨tg,iter,ifs,0⟩] scope pos2) pos) (λZ=>evE U Z e):=by
    have:(λZ=>evE U Z e)=_:=funext ef
    rw[this];exact q
   cases fr with
   |true=>exact q'
   | false=>exact λA=>PS.weak (q' A) λD Y H ⟨hA,Z,gd,z⟩=>⟨hA,Z,gd,by
     dsimp only at z ⊢;cases e0:evE U Z e with
     |ok d=>
      rw[e0]at z;exact λv' H' s' r'=>z v' H' s' ⟨r'.1,λ_=>r'.2 rfl⟩
     |exn y=>rw[e0]at z;exact z
     | bad=>rw[e0]at z;exact z⟩
theorem P9{e t:Am}(h:∀ x p,t≠.Name x p):G6 [t] e l env=pure Ad:=by
 show Cd e (Ab t) l env=pure Ad;cases e<;>first|rfl|(cases t<;>first|rfl|exact absurd rfl (h _ _))
theorem S5(Z:Rho)(e:E)(h:∀ i,e≠.var i):evS U Z (.ret e)=O.of Z (evE U Z e) λd=>.ret d (Ce U e&&Hz d):=by
 have k:∀ b:Ai,b=Ad->top Z e (evE U Z e)=evE U Z e->(O.of Z (top Z e (evE U Z e)) λd=>.ret d (Ce U e&&Hz d||b))=O.of Z (evE U Z e) λd=>.ret d (Ce U e&&Hz d):=λb hb ht=>by
  rw[hb,ht];simp only[DR]
 rw[Vd];cases e with
 |var i=>exact absurd rfl (h i)
 |_=>exact k _ rfl rfl
structure DefX (X:Cx):Prop where
 fn:∀ x,X.fn x=Aa
 ex:X.ex=[]
 st:X.stack=X.env::X.outer
 fm:X.env.frame=Ab X.env.locals
structure SndS (U:Gam) (CL:ClA) (k:Ag) (n:Ag):Prop where
 s:∀(W:XW)(T:Tc)(X:Cx)(x:AN)(c:S),VX U CL k W T X->DefX X->Jx n T x c=Aa->SS X CL W x (λZ=>evS U Z c)
 ss:∀(W:XW)(T:Tc)(X:Cx)(x:Ac AN)(c:Ss),VX U CL k W T X->DefX X->chkSs n T x c=Aa->SSs X CL W x (λZ=>evSs U Z c)
theorem pO(x y:D)(e:Ex):EH x y≠.exn e:=by
 intro z;cases x with
 |lst xs=>cases y<;>first|exact M8 z|cases z
 |tup xs=>cases y<;>first|exact M8 z|cases z
 |dic kvs=>
  have z':(match (Ea y).bind (CB kvs) with|some d=>R.ok d|none=>.bad)=.exn e:=z
  cases h:(Ea y).bind (CB kvs) with
  |none=>rw[h]at z';cases z'
  |some k=>rw[h]at z';cases z'
 |_=>cases z
theorem U_0{i:Ag}{y:Ex}:Cu Z i≠.exn y:=λz'=>by
 unfold Cu at z';split at z'<;>cases z'
theorem MY(U:Gam)(Z:Rho)(e:E)(h:Oe e=Aa)(y:Ex):top Z e (evE U Z e)≠.exn y:=by
 cases e with
 |var i=>
  intro z;have z':Cu Z i=.exn y:=z;unfold Cu at z';split at z'<;>cases z'
 |idx a b=>
  cases a with
  |var i=>
   cases b with
   |int j=>
    intro z;have z':(Cu Z i).bind (λx=>EH x (.int j))=.exn y:=z
    cases e1:Cu Z i with
    |bad=>rw[e1]at z';cases z'
    |exn w=>exact U_0 e1
    |ok d=>rw[e1]at z';exact pO _ _ _ z'
   |_=>exact noF h
  |_=>exact noF h
 |bin op a b=>
  have h:(R6 op&&Rt a b)=Aa:=h;rw[Al]at h;obtain⟨h0,h⟩:=h;cases op with
  |Sub=>
   cases a with
   |var i=>
    cases b with
    |int j=>
     intro z;have z':(Cu Z i).bind (λx=>CD .Sub x (.int j))=.exn y:=z
     cases e1:Cu Z i with
     |bad=>rw[e1]at z';cases z'
     |exn w=>exact U_0 e1
     |ok d=>rw[e1]at z';cases d<;>cases z'
    |_=>exact noF h
   |_=>exact noF h
  |_=>exact absurd (show Ad=Aa from h0) Av
 |int i=>intro z;cases z
 |bl i=>intro z;cases z
 |str i=>intro z;cases z
 |non=>intro z;cases z
 |_=>cases h
theorem LY(U:Gam)(Z:Rho):∀(es:Es),HS es=Aa->∀ y,evB U Z es≠.exn y
 |.nil,_,y=>λz=>by cases z
 |.cons e es,h,y=>λz=>by
  unfold HS at h;rw[Al]at h;rw[Px]at z;cases e1:top Z e (evE U Z e) with
  |bad=>rw[e1]at z;cases z
  |exn w=>exact MY U Z e h.1 w e1
  |ok d=>
   rw[e1,R.bind_ok]at z;cases e2:evB U Z es with
   |bad=>rw[e2]at z;cases z
   |exn w=>exact LY U Z es h.2 w e2
   |ok ds=>rw[e2]at z;cases z
theorem VX.pw(v:VX U CL k W T X)(own:DH (model X.prog X.w) X.A X.env Xw):VX U CL k W0 T (Cx.pw X pI Xw):=⟨v.sc,v.kd,v.N,v.nd,v.calm,v.room,v.bl,v.fn,own,Wl,R7,v.xt,v.gl⟩
theorem MQ(o:O):(o.seq λZ'=>O.next Z')=o:=by cases o<;>rfl
theorem STB.congr{st:Ac AN}{f g:Rho->O}(h:STB X CL st f)(e:∀ Z,g Z=f Z):STB X CL st g:=by
 have:g=f:=funext e;rw[this];exact h
theorem V5(Sn:Snd U CL k n)(v:VX U CL k W T X)(hf:DefX X){st:AN}{s:S}(h:Nw n T st s=Aa):STB X CL [st] (λZ=>evSs U Z (.cons s .nil))/\∀ Z y Z',evSs U Z (.cons s .nil)=.exn y Z'->Z'=Z:=by
 have seq:∀ Z,evSs U Z (.cons s .nil)=evS U Z s:=λZ=>MQ _
 have ofn:∀{r:R D}{f:D->Rho}{Z Z':Rho}{y:Ex},(O.of Z r λd=>O.next (f d))=.exn y Z'->Z'=Z:=λ{r f Z Z' y} z=>by
  cases r with
  |ok d=>cases z
  |exn w=>cases z;rfl
  |bad=>cases z
 have call:∀{e:Am}{f:Ag}{as:Es},A5 n T e (.call f as)=Aa->HS as=Aa->∃ g pp y ys qq,e=.Call (.Name g pp) (y::ys) [] qq/\∃ p∈T.fns,g=p.1/\f=p.2.1/\p.2.2=ys.length+1/\ys.length<900/\glB T g=Aa/\GA g=Aa/\∃ m,n=m+1/\chkEs m T (y::ys) as=Aa:=λ{e f as} h _=>by
  cases n with
  |zero=>exact noF h
  |succ m=>
   replace h:=JP h;obtain⟨g,pp,y,ys,qq,rfl,h⟩:=h;simp only[Al,BQ,AS,AK]at h;obtain⟨⟨⟨⟨⟨p,hp,⟨e1,e2⟩,hl⟩,h900⟩,h1⟩,h2⟩,h3⟩:=h;exact⟨g,pp,y,ys,qq,rfl,p,hp,e1.symm,e2.symm,hl,h900,h1,h2,m,rfl,h3⟩
 cases s with
 |expr e0=>
  replace h:(Kg e0 λf as=>Kf st λv=>A5 n T v (.call f as)&&HS as)=Aa:=h
  replace h:=PM h;obtain⟨f,as,rfl,h⟩:=h;replace h:=M4 h;obtain⟨v0,pos,rfl,h⟩:=h;rw[Al]at h;obtain⟨g,pp,y,ys,qq,rfl,p,hp,rfl,rfl,hl,h900,h1,h2,m,rfl,h3⟩:=call h.1 h.2;obtain⟨fa,fd,ps,m1,m2,m3,m4,m5,_⟩:=v.fn p hp;have hlt:p.2.2<1000:=by omega
  rw[Ee hlt]at m4 m5;have m5:=m5 hlt;obtain⟨n2,n3,n4⟩:=Gr h2;obtain⟨s0,e,es',rfl,m',rfl,s1⟩:=Ir h3;have hlen:ys.length+1=(Es.cons e es').len:=(snd (U:=U) (CL:=CL) (k:=k) (m'+1)).es W T X _ _ v h3 |>.2.2.1;refine⟨STB.congr (fN (X:=X) (fs:=λZ=>evA U Z (.cons e es')) (sh:=λZ=>El Z (.cons e es')) hf.ex m5 v.room (by unfold glB at h1;show X.env.scope.names.lookup p.1=_;rw[v.sc];exact eq_of_beq h1) m1 m2 m3 (λZ z=>J9 U Z _ z) (λZ ds z=>by rw[JS U Z _ _ z,<-hlen,hl]) (λZ=>LY U Z _ h.2) n2 (B5 s0) (Je m' ys es' s1) (λpI Xw own=>by
   obtain⟨a1,a2,_⟩:=(snd (U:=U) (CL:=CL) (k:=k) (m'+1)).es W0 T (Cx.pw X pI Xw) _ _ (v.pw own) h3;exact⟨a1,a2⟩) (Jh rfl)) λZ=>seq Z,λZ y Z' z=>?_⟩
  rw[seq]at z;exact ofn (f:=λ_=>Z) z
 |asg i b0 e0=>
  replace h:(!b0&&(Kg e0 λf as=>Kh st λy v=>T.N[i]? == Ab y&&GS T y&&A5 n T v (.call f as)&&HS as))=Aa:=h
  replace h:=Bt h;obtain⟨hb,h⟩:=h;cases b0 with
  |true=>exact absurd (show Ad=Aa from hb) Av
  |false=>
  replace h:=PM h;obtain⟨f,as,rfl,h⟩:=h;replace h:=Mb h;obtain⟨y0,p0,v0,pos,rfl,h⟩:=h;simp only[Al,AS]at h;obtain⟨⟨⟨i1,i2⟩,hc⟩,hsim⟩:=h;obtain⟨g,pp,y,ys,qq,rfl,p,hp,rfl,rfl,hl,h900,h1,h2,m,rfl,h3⟩:=call hc hsim;obtain⟨fa,fd,ps,m1,m2,m3,m4,m5,_⟩:=v.fn p hp;have hlt:p.2.2<1000:=by omega
  rw[Ee hlt]at m4 m5;have m5:=m5 hlt;obtain⟨n2,n3,n4⟩:=Gr h2;obtain⟨s0,e,es',rfl,m',rfl,s1⟩:=Ir h3;have hlen:ys.length+1=(Es.cons e es').len:=(snd (U:=U) (CL:=CL) (k:=k) (m'+1)).es W T X _ _ v h3 |>.2.2.1;refine⟨STB.congr (jN (X:=X) (fs:=λZ=>evA U Z (.cons e es')) (sh:=λZ=>El Z (.cons e es')) (i:=i) hf.ex m5 v.room (by unfold glB at h1;show X.env.scope.names.lookup p.1=_;rw[v.sc];exact eq_of_beq h1) m1 m2 m3 (λZ z=>J9 U Z _ z) (λZ ds z=>by rw[JS U Z _ _ z,<-hlen,hl]) (λZ=>LY U Z _ hsim) n2 (B5 s0) (Je m' ys es' s1) (λpI Xw own=>by
   obtain⟨a1,a2,_⟩:=(snd (U:=U) (CL:=CL) (k:=k) (m'+1)).es W0 T (Cx.pw X pI Xw) _ _ (v.pw own) h3;exact⟨a1,a2⟩) (by rw[v.N];exact v.nd) (by rw[v.N];exact i1) (by rw[v.sc];exact Iy i2) (.inl (hf.fn _)) (Jh rfl)) λZ=>seq Z,λZ y Z' z=>?_⟩
  rw[seq]at z;exact ofn (f:=λd=>Z.set i (Ab (d,Ad))) z
 |_=>exact noF h
theorem nR(op:CJ)(x y:D)(e:Ex):BJ op x y≠.exn e:=λz=>by
 rcases Uf op x y with w|⟨b,w⟩<;>(rw[w]at z;cases z)
theorem kM(x:D)(e:Ex):BE x≠.exn e:=by
 unfold BE;split<;>first|(intro z;cases z;done)|(split<;>intro z<;>cases z)
theorem MX(U:Gam)(Z:Rho)(c:E)(h:Od c=Aa)(y:Ex):(top Z c (evE U Z c)).bind BE≠.exn y:=by
 have key:∀ e,top Z c (evE U Z c)≠.exn e:=by
  cases c with
  |var i=>exact MY U Z (.var i) rfl
  |cmp op a b=>
   unfold Od at h;rw[Al]at h;intro e z;have z':((top Z a (evE U Z a)).bind λx=>(top Z b (evE U Z b)).bind λy=>BJ op x y)=.exn e:=by
    have e0:evE U Z (.cmp op a b)=((top Z a (evE U Z a)).bind λx=>(top Z b (evE U Z b)).bind λy=>BJ op x y):=oK U Z op a b
    rw[<-e0];exact z
   cases e1:top Z a (evE U Z a) with
   |bad=>rw[e1]at z';cases z'
   |exn w=>exact MY U Z a h.1 w e1
   |ok d=>
    rw[e1,R.bind_ok]at z';cases e2:top Z b (evE U Z b) with
    |bad=>rw[e2]at z';cases z'
    |exn w=>exact MY U Z b h.2 w e2
    |ok d2=>rw[e2,R.bind_ok]at z';exact nR _ _ _ _ z'
  |_=>cases h
 intro z;cases e1:top Z c (evE U Z c) with
 |bad=>rw[e1]at z;cases z
 |exn w=>exact key w e1
 |ok d=>rw[e1,R.bind_ok]at z;exact kM _ _ z
theorem TQ{l:Ss}{F:S->Ai}(h:QX l F=Aa):∃ a,l=.cons a .nil/\F a=Aa:=by
 cases l with
 |nil=>exact noF h
 |cons a r=>
  cases r with
  |nil=>exact⟨a,rfl,h⟩
  |cons=>exact noF h
theorem Ur{s:S}{F:Ag->Ag->Es->Ai}(h:Q2 s F=Aa):∃ i f as,s=.asg i Aa (.call f as)/\F i f as=Aa:=by
 cases s with
 |asg i b e=>
  replace h:=Bt h;obtain⟨hb,h⟩:=h;subst hb;replace h:=PM h;obtain⟨f,as,rfl,h⟩:=h;exact⟨i,f,as,rfl,h⟩
 |_=>exact noF h
theorem US(U:Gam)(Z:Rho):∀(as as0:Es),Ly as=Ab as0->evB U Z as=((evB U Z as0).bind λds=>.ok (ds++[.int 1]))/\El Z as=El Z as0
 |.nil,_,h=>by cases h
 |.cons e .nil,as0,h=>by
  cases e with
  |int i=>
   have h:(if i=1 then Ab Es.nil else Af)=Ab as0:=h
   by_cases z:i=1
   .subst z;rw[Ax rfl]at h;cases h;exact⟨rfl,rfl⟩
   .rw[Ay z]at h;cases h
  |_=>cases h
 |.cons e (.cons e2 es),as0,h=>by
  have h:(Ly (.cons e2 es)).map (Es.cons e)=Ab as0:=h;cases q:Ly (.cons e2 es) with
  |none=>rw[q]at h;cases h
  |some r=>
   rw[q]at h;cases h;obtain⟨h1,h2⟩:=US U Z (.cons e2 es) r q;refine⟨?_,?_⟩
   .show ((top Z e (evE U Z e)).bind λx=>(evB U Z (.cons e2 es)).bind λxs=>.ok (x::xs))=((top Z e (evE U Z e)).bind λx=>(evB U Z r).bind λxs=>.ok (x::xs)).bind λds=>.ok (ds++[.int 1])
    rw[h1];cases top Z e (evE U Z e) with
    |bad=>rfl
    |exn z=>rfl
    |ok x=>cases evB U Z r<;>rfl
   .show (shE Z e&&El Z (.cons e2 es))=(shE Z e&&El Z r);rw[h2]
theorem WM(v:VX U CL k W T X){x:Am}{f:Ag}(h:Rl n T x f as=Aa):CE X CL x (U.fr f) (λZ=>evE U Z (.call f as)):=by
 replace h:=orT h;rcases h with h|h
 .replace h:=Bt h;obtain⟨h,hsim⟩:=h;cases n with
  |zero=>exact noF h
  |succ m=>
   replace h:=JP h;obtain⟨g,pp,y,ys,qq,rfl,h⟩:=h;simp only[Al,BQ,AS,AK]at h;obtain⟨⟨⟨⟨⟨p,hp,⟨rfl,rfl⟩,hl⟩,h900⟩,h1⟩,h2⟩,h3⟩:=h;obtain⟨fa,fd,ps,m1,m2,m3,m4,m5,_⟩:=v.fn p hp;have hlt:p.2.2<1000:=by omega
   rw[Ee hlt]at m4 m5;have m5:=m5 hlt;obtain⟨n2,n3,n4⟩:=Gr h2;obtain⟨s0,e,es',rfl,m',rfl,s1⟩:=Ir h3;have hlen:ys.length+1=(Es.cons e es').len:=(snd (U:=U) (CL:=CL) (k:=k) (m'+1)).es W T X _ _ v h3 |>.2.2.1;exact CE.congr (qU (fs:=λZ=>evA U Z (.cons e es')) (ft:=λZ=>evB U Z (.cons e es')) (sh:=λZ=>El Z (.cons e es')) m5 v.room (by unfold glB at h1;show X.env.scope.names.lookup p.1=_;rw[v.sc];exact eq_of_beq h1) m1 m2 m3 (λZ z=>J9 U Z _ z) (λZ ds z=>by rw[JS U Z _ _ z,<-hlen,hl]) (λZ=>LY U Z _ hsim) n2 (B5 s0) (Je m' ys es' s1) (λpI Xw own=>by
    obtain⟨a1,a2,_⟩:=(snd (U:=U) (CL:=CL) (k:=k) (m'+1)).es W0 T (Cx.pw X pI Xw) _ _ (v.pw own) h3;exact⟨a1,a2⟩)) λZ=>rfl
 .replace h:=JP h;obtain⟨g,pp,y,ys,qq,rfl,h⟩:=h;replace h:=Bt h;obtain⟨h,h3⟩:=h;simp only[Al,BQ,AS,AK]at h;obtain⟨⟨⟨⟨⟨p,hp,⟨rfl,rfl⟩,hl⟩,h900⟩,hf⟩,h1⟩,h2⟩:=h;cases q:Ly as with
  |none=>rw[q]at h3;exact noF h3
  |some as0=>
   rw[q]at h3;replace h3:=Bt h3;obtain⟨h3,hsim⟩:=h3;obtain⟨fa,fd,ps,m1,m2,m3,m4,m5,_,m6⟩:=v.fn p hp;obtain⟨t,m6⟩:=m6 (EK hf);have hlt:p.2.2<1000:=by omega
   rw[Ee hlt]at m4 m5;have m5:=m5 hlt;rw[hl]at m5;obtain⟨n2,n3,n4⟩:=Gr h2;obtain⟨s0,e,es',rfl,m',rfl,s1⟩:=Ir h3;have hlen:ys.length+1=(Es.cons e es').len:=(snd (U:=U) (CL:=CL) (k:=k) (m'+1)).es W T X _ _ v h3 |>.2.2.1;refine CE.congr (uW (fs:=λZ=>evA U Z (.cons e es')) (ft:=λZ=>evB U Z (.cons e es')) (sh:=λZ=>El Z (.cons e es')) m5 v.room (by unfold glB at h1;show X.env.scope.names.lookup p.1=_;rw[v.sc];exact eq_of_beq h1) m1 m2 m6 (λZ z=>J9 U Z _ z) (λZ ds z=>by rw[JS U Z _ _ z,<-hlen]) (λZ=>LY U Z _ hsim) n2 (B5 s0) (Je m' ys es' s1) (λpI Xw own=>by
    obtain⟨a1,a2,_⟩:=(snd (U:=U) (CL:=CL) (k:=k) (m'+1)).es W0 T (Cx.pw X pI Xw) _ _ (v.pw own) h3;exact⟨a1,a2⟩)) λZ=>?_
   obtain⟨z1,z2⟩:=US U Z as _ q;rw[Ub,z1,z2];cases evB U Z (.cons e es')<;>rfl
theorem ce(v:VX U CL k W T X)(hf:DefX X){st:AN}{c:E}{a b:Ss}(h:WK n T st c a b=Aa):STB X CL [st] (λZ=>evSs U Z (.cons (.ife c a b) .nil))/\∀ Z y Z',evSs U Z (.cons (.ife c a b) .nil)=.exn y Z'->Z'=Z:=by
 replace h:=TQ h;obtain⟨sa,rfl,h⟩:=h;replace h:=TQ h;obtain⟨sb,rfl,h⟩:=h;replace h:=Ur h;obtain⟨i,f,as,rfl,h⟩:=h;replace h:=Ur h;obtain⟨i',f',as',rfl,h⟩:=h;replace h:=Mb h;obtain⟨y,p0,v0,pos,rfl,h⟩:=h;replace h:=iM h;obtain⟨t,xa,xb,ip,rfl,h⟩:=h;replace h:=Bt h;obtain⟨h,h6⟩:=h;replace h:=Bt h;obtain⟨h,h5⟩:=h;replace h:=Bt h;obtain⟨h,h4⟩:=h;replace h:=Bt h;obtain⟨h,h3⟩:=h;replace h:=Bt h;obtain⟨h,h2⟩:=h;replace h:=Bt h;obtain⟨h0,h1⟩:=h;obtain rfl:=AQ h0;have h1:T.N[i]?=Ab y:=by simpa using h1
 have ev1:∀ Z (f:Ag) (as:Es),evSs U Z (.cons (.asg i Aa (.call f as)) .nil)=O.of Z (evE U Z (.call f as)) λd=>if U.fr f=Aa then setF Z i d else .bad:=λZ f as=>(MQ _).trans (S6 ..)
 have ev:∀ Z,evSs U Z (.cons (.ife c (.cons (.asg i Aa (.call f as)) .nil) (.cons (.asg i Aa (.call f' as')) .nil)) .nil)=O.of Z ((top Z c (evE U Z c)).bind BE) λk=>if k=Aa then (O.of Z (evE U Z (.call f as)) λd=>if U.fr f=Aa then setF Z i d else .bad) else (O.of Z (evE U Z (.call f' as')) λd=>if U.fr f'=Aa then setF Z i d else .bad):=λZ=>by
  rw[<-ev1,<-ev1];exact MQ _
 have own:∀(r:R D)(b:Ai) Z y Z',(O.of Z r λd=>if b=Aa then setF Z i d else .bad)=.exn y Z'->Z'=Z:=λr b Z y Z' z=>by
  cases r with
  |bad=>cases z
  |exn w=>cases z;rfl
  |ok d=>cases b<;>(cases d<;>cases z)
 refine⟨STB.congr (jL hf.ex (λpI Xw own=>(snd (U:=U) (CL:=CL) (k:=k) n).b W0 T (Cx.pw X pI Xw) _ c (v.pw own) h3) (λZ y=>MX U Z c h4 y) (WM v h5) (WM v h6) (by rw[v.N];exact v.nd) (by rw[v.N];exact h1) (by rw[v.sc];exact Iy h2) (.inl (hf.fn _)) (Jh rfl)) λZ=>ev Z,λZ y Z' z=>?_⟩
 rw[ev]at z;cases e:(top Z c (evE U Z c)).bind BE with
 |bad=>rw[e]at z;cases z
 |exn w=>exact absurd e (MX U Z c h4 w)
 |ok q=>
  rw[e,O.of_ok]at z;cases q with
  |true=>exact own _ _ _ _ _ z
  |false=>exact own _ _ _ _ _ z
theorem xO(Sn:Snd U CL k n)(v:VX U CL k W T X)(hf:DefX X):∀(m:Ag){st:AN}{s:S},NQ m n T st s=Aa->STB X CL [st] (λZ=>evSs U Z (.cons s .nil))/\∀ Z y Z',evSs U Z (.cons s .nil)=.exn y Z'->Z'=Z:=by
 intro m
 induction m with
 |zero=>intro st s h;exact V5 Sn v hf h
 |succ m ih=>
  intro st s h;replace h:=orT (a:=Nw n T st s) (b:=VV (NQ m n T) n T st s) h;rcases h with h|h
  .exact V5 Sn v hf h
  .cases s with
   |ife c a b=>
    replace h:=orT h;rcases h with h|h
    rotate_left
    .exact ce v hf h
    replace h:=TN h;obtain⟨a,rfl,h⟩:=h;replace h:=TN h;obtain⟨b,rfl,h⟩:=h;replace h:=Nn h;obtain⟨t,xs,ys,pos,rfl,h⟩:=h;replace h:=Ej h;obtain⟨xs,rfl,h⟩:=h;replace h:=Ej h;obtain⟨ys,rfl,h⟩:=h;simp only[Al]at h;obtain⟨⟨⟨h1,h2⟩,h3⟩,h4⟩:=h;obtain⟨a1,a2⟩:=ih h3;obtain⟨b1,b2⟩:=ih h4;have ev:∀ Z,evSs U Z (.cons (.ife c (.cons a .nil) (.cons b .nil)) .nil)=O.of Z ((top Z c (evE U Z c)).bind BE) λk=>if k=Aa then evSs U Z (.cons a .nil) else evSs U Z (.cons b .nil):=λZ=>MQ _
    refine⟨STB.congr (jM (λpI Xw own=>(Sn.b W0 T (Cx.pw X pI Xw) _ _ (v.pw own) h1)) (λZ y=>MX U Z c h2 y) a1 b1) λZ=>ev Z,λZ y Z' z=>?_⟩
    rw[ev]at z;cases e1:(top Z c (evE U Z c)).bind BE with
    |bad=>rw[e1]at z;cases z
    |exn w=>exact absurd e1 (MX U Z c h2 w)
    |ok k=>
     rw[e1,O.of_ok]at z;cases k with
     |true=>exact a2 Z y Z' z
     |false=>exact b2 Z y Z' z
   |_=>exact noF h
theorem Nc{i:Ag}{e:Ah}(v:VX U CL k W T X)(h:isV T x i=Aa):PE (Cx.hot X e) (.Name x pos) (Gx i):=by
 unfold isV at h;simp only[Al,AS]at h;obtain⟨h2,h3,_⟩:=Gr h.2;exact Wi (by show X.N[i]?=_;rw[v.N];exact h.1.1) (by show Vis X.env.scope x;rw[v.sc];exact UZ h.1.2) h2 h3
theorem Wg{st:AN}{e:E}(v:VX U CL k W T X)(h:(Lm st λo=>match o with|some v=>A5 n T v e|none=>Ad)=Aa):SS X CL W st (λZ=>evS U Z (.ret e)):=by
    have E:=snd (U:=U) (CL:=CL) (k:=k) n;replace h:=TR h;obtain⟨o,pos,rfl,h⟩:=h;cases o with
    |none=>exact noF h
    |some v0=>
    replace h:A5 n T v0 e=Aa:=h;have o:=E.e W T X _ e v h;cases hv:Ce U e with
    |true=>
      refine SS.ref (jS (o.nw hv)) λZ=>.inr ?_
      rw[S5 Z e (λi z=>by subst z;cases hv),hv]
      simp only[W9]
    |false=>
      cases e with
      |var i=>
        cases n with
        |zero=>exact noF h
        |succ n=>
          replace h:=EW h;obtain⟨y,py,rfl,h⟩:=h;exact jP (F1 v h)
      |_=>
        refine SS.ref (jR o.se) λZ=>.inr ?_
        rw[S5 Z _ (by intro i z;cases z),hv]
        simp only[W7]
theorem Ve(U:Gam)(Z:Rho):∀(es:Es)(xs:Ac (D×Ai)),evP U Z es=.ok xs->xs.length=es.len
 |.nil,_,h=>by cases h;rfl
 |.cons e es,xs,h=>by
  have h:(noX (top Z e (evE U Z e))).bind (λd=>(evP U Z es).bind λxs=>.ok ((d,Ce U e||Kj Z e)::xs))=.ok xs:=h
  cases e1:noX (top Z e (evE U Z e)) with
  |bad=>rw[e1]at h;cases h
  |exn y=>rw[e1]at h;cases h
  |ok d=>
   rw[e1,R.bind_ok]at h;cases e2:evP U Z es with
   |bad=>rw[e2]at h;cases h
   |exn y=>rw[e2]at h;cases h
   |ok ys=>
    rw[e2]at h;cases h;show ys.length+1=es.len+1;rw[Ve U Z es ys e2]
theorem zC(v:VX U CL k W T X):∀(m:Ag)(xs:Ac Am)(es:Es),chkEs m T xs es=Aa->∀ Fz B Z Y0,PA X xs (tPs X CL Fz B Z Y0 (evP U Z es)):=by
 intro m
 induction m with
 |zero=>intro xs es h;exact noF h
 |succ m ih=>
  intro xs es h Fz B Z Y0;cases xs with
  |nil=>
   cases es with
   |nil=>exact sI
   |cons e es=>exact noF h
  |cons x xs=>
   cases es with
   |nil=>exact noF h
   |cons e es=>
    have h':(Da x&&A5 m T x e&&chkEs m T xs es)=Aa:=h;replace h':=Bt h';obtain⟨h',h3⟩:=h';replace h':=Bt h';obtain⟨h1,h2⟩:=h';refine kQ ?_ (ih xs es h3 Fz B Z Y0) (B5 h1);have o:=(snd (U:=U) (CL:=CL) (k:=k) m).e W T X _ e v h2;by_cases hv:∃ i,e=.var i
    .obtain⟨i,rfl⟩:=hv;cases m with
     |zero=>exact noF h2
     |succ m=>
      replace h2:=EW h2;obtain⟨y,py,rfl,h2⟩:=h2;exact sH (F1 v h2)
    .have ht:top Z e (evE U Z e)=evE U Z e:=by
      cases e with
      |var i=>exact absurd ⟨i,rfl⟩ hv
      |_=>rfl
     have ho:Kj Z e=Ad:=by
      cases e with
      |var i=>exact absurd ⟨i,rfl⟩ hv
      |_=>rfl
     rw[ht,ho,DR];cases hn:Ce U e with
     |true=>exact Wx (o.nw hn)
     |false=>exact Wx o.se.sc
theorem Qn(v:VX U CL k W T X):∀(m:Ag)(sts:Ac AN)(ss:Ss)(kk:Ac AN->Ai),Kn m T sts ss kk=Aa->∃ pre r,sts=pre++r/\kk r=Aa/\NSc X CL W pre (λZ=>evSs U Z ss)/\∀ Z,okN Z (evSs U Z ss):=by
 intro m
 induction m with
 |zero=>intro sts ss kk h;exact noF h
 |succ m ih=>
  intro sts ss kk h;cases ss with
  |nil=>exact⟨[],sts,rfl,h,oY,λZ=>.inl rfl⟩
  |cons s ss=>
   cases sts with
   |nil=>exact noF h
   |cons st sts=>
    replace h:=Bt h;obtain⟨h1,h2⟩:=h;obtain⟨pre,r,rfl,hk,hn,ho⟩:=ih sts ss kk h2;have key:NS X CL W st (λZ=>evS U Z s)/\∀ Z,okN Z (evS U Z s):=by
     cases s with
     |ife c a b=>
      replace h1:=Nn h1;obtain⟨t,xs,ys,pos,rfl,h1⟩:=h1;replace h1:=Bt h1;obtain⟨h1,hb⟩:=h1;replace h1:=Bt h1;obtain⟨hc,ha⟩:=h1;obtain⟨pa,ra,rfl,ka,na,oa⟩:=ih xs a _ ha;obtain⟨pb,rb,rfl,kb,nb,ob⟩:=ih ys b _ hb;obtain rfl:=GN ka;obtain rfl:=GN kb;rw[Bp,Bp];refine⟨bg ((snd (U:=U) (CL:=CL) (k:=k) m).b W T X _ c v hc) na nb,λZ=>?_⟩
      show okN Z (O.of Z ((top Z c (evE U Z c)).bind BE) λk=>if k=Aa then evSs U Z a else evSs U Z b)
      cases (top Z c (evE U Z c)).bind BE with
      |bad=>exact .inr rfl
      |exn y=>exact .inr rfl
      |ok q=>
       cases q with
       |true=>exact oa Z
       |false=>exact ob Z
     |ret e=>
      have hr:∀ Z,Ry (evS U Z (.ret e))=Aa:=λZ=>by
       rw[Vd];cases top Z e (evE U Z e)<;>rfl
      exact⟨(Wg v h1).ns hr,λZ=>.inr (hr Z)⟩
     |_=>exact noF h1
    refine⟨st::pre,r,rfl,hk,iS key.1 (λZ Z' z=>?_) hn,λZ=>?_⟩
    .rcases key.2 Z with e|e
     .rw[e]at z;cases z;rfl
     .rw[z]at e;cases e
    .show okN Z ((evS U Z s).seq λZ'=>evSs U Z' ss)
     rcases key.2 Z with e|e
     .rw[e];exact ho Z
     .cases eo:evS U Z s with
      |ret d b=>exact .inr rfl
      |exn y Z'=>exact .inr rfl
      |bad=>exact .inr rfl
      |_=>rw[eo]at e;cases e
theorem Ws(v:VX U CL k W T X){e:Am}{f:Ag}(h:A5 n T e (.call f as)=Aa)(hfr:U.fr f=Aa):SF X CL W e (λZ=>if El Z as=Aa then evE U Z (.call f as) else .bad):=by
 cases n with
 |zero=>exact noF h
 |succ n=>
  replace h:=JP h;obtain⟨g,pp,y,ys,qq,rfl,h⟩:=h;simp only[Al,BQ,AS,AK]at h;obtain⟨⟨⟨⟨⟨p,hp,⟨rfl,rfl⟩,hl⟩,h900⟩,h1⟩,h2⟩,h3⟩:=h;obtain⟨fa,fd,ps,m1,m2,m3,m4,m5,_⟩:=v.fn p hp;have hlt:p.2.2<1000:=by omega
  rw[Ee hlt]at m4 m5;have m5:=m5 hlt;obtain⟨n2,n3,n4⟩:=Gr h2;obtain⟨a1,a2,a3,a4,a5⟩:=(snd (U:=U) (CL:=CL) (k:=k) n).es W T X _ as v h3;obtain⟨s0,e,es',rfl,m,rfl,s1⟩:=Ir h3;rw[hfr]at m5;have q:=kC (pos:=qq) (p:=pp) (sh:=λZ=>El Z (.cons e es')) m5 v.room (by unfold glB at h1;show X.env.scope.names.lookup p.1=_;rw[v.sc];exact eq_of_beq h1) m1 m2 m3 v.px a1 (λZ z=>J9 U Z _ z) (λZ ds z=>by rw[JS U Z _ _ z,<-a3,hl];rfl) n2 (B5 s0) (Je m ys es' s1)
  refine λA=>PE.weak (q A) λY H Q ⟨hA,Z,gd,z⟩=>⟨hA,Z,gd,?_⟩
  dsimp only at z ⊢;by_cases hs:El Z (.cons e es')=Aa
  .rw[Ax hs]at z ⊢;rw[Ub]at z;cases e1:evB U Z (.cons e es') with
   |bad=>rw[e1]at z;exact z
   |exn y=>rw[e1]at z;exact z
   |ok ds=>
    rw[e1,R.bind_ok]at z;rw[R.bind_ok];cases e2:U.F p.2.1 ds with
    |bad=>rw[e2]at z;exact z
    |exn y=>rw[e2]at z;exact z
    |ok d=>rw[e2,R.bind_ok,Ax hs]at z;exact z
  .rw[Ay hs]at z;exact z.elim
theorem ZS(v:VX U CL k W T X)(hf:DefX X){f kk:Ag}{pre a b:Ss}{c e:E}{s1:AN}{q:Ac AN}(h:Rm n T ts f as pre c a b kk e s1 q=Aa):SSs X CL W (s1::q) (λZ=>evS U Z (.blk ts f as pre c a b kk e)):=by
  by_cases hfr:U.fr f=Aa
  rotate_left
  · intro Fz B pI s Y H D I ⟨Z,x,p⟩;dsimp only at p;rw[Nh,Ay (by rw[Al];exact λz=>hfr z.1)]at p
    exact p.elim
  replace h:=Bt h;obtain⟨h1,h2⟩:=h;obtain⟨ppre,r,rfl,h3,np,op⟩:=Qn v n q pre _ h2
  clear h2
  replace h3:=Ej h3;obtain⟨st,rfl,h3⟩:=h3;replace h3:=Nn h3;obtain⟨t,xs,ys,q2,rfl,h3⟩:=h3;replace h3:=Bt h3;obtain⟨h3,hb⟩:=h3;replace h3:=Bt h3;obtain⟨hc,ha⟩:=h3;obtain⟨pa,ra,rfl,ka,na,oa⟩:=Qn v n xs a _ ha;obtain rfl:=GN ka;obtain⟨pb,rb,rfl,kb,nb,ob⟩:=Qn v n ys b _ hb;replace kb:=Ej kb;obtain⟨sp,rfl,kb⟩:=kb;rw[Bp];have hB:=(snd (U:=U) (CL:=CL) (k:=k) n).b W T X _ c v hc;have fin:∀{st:Ac AN},SSs X CL W st (λZ=>Kl ts (if El Z as=Aa then evE U Z (.call f as) else .bad) kk (λZ=>evSs U Z pre) (λZ=>evSs U Z a) (λZ=>evSs U Z b) (λZ=>(top Z c (evE U Z c)).bind BE) (λZ=>evE U Z e) Z)->SSs X CL W st (λZ=>evS U Z (.blk ts f as pre c a b kk e)):=λz Fz B=>PSs.weak (z Fz B) λD Y H ⟨Z,x,p⟩=>⟨Z,x,by
    dsimp only at p ⊢;rw[Nh,hfr,W9]at p;by_cases hs:El Z as=Aa
    · rw[Ax hs]at p ⊢;exact p
    · rw[Ay hs]at p;exact p.elim⟩
  refine fin ?_
  match ts,h1,kb with
  |[x],g1,kc=>
    replace g1:=Mb g1;obtain⟨y1,p1,v1,q1,rfl,g1⟩:=g1;replace g1:(T.N[x]? == Ab y1&&GS T y1&&IA v1&&A5 n T v1 (.call f as))=Aa:=g1;simp only[Al,AS]at g1;obtain⟨⟨⟨a1,a2⟩,a3⟩,a4⟩:=g1;replace kc:=M4 kc;obtain⟨e0,q3,rfl,kc⟩:=kc;replace kc:=PL kc;obtain⟨fx,l,ks,cp,rfl,kc⟩:=kc;replace kc:=Bt kc;obtain⟨k0,kc⟩:=kc;obtain rfl:=GN k0;replace kc:=Ej kc;obtain⟨ve,rfl,kc⟩:=kc;replace kc:=Uq kc;obtain⟨w,m,ap,rfl,kc⟩:=kc;replace kc:=Bt kc;obtain⟨kc,b5⟩:=kc;replace kc:=Bt kc;obtain⟨kc,b4⟩:=kc;replace kc:=Bt kc;obtain⟨kc,b3⟩:=kc;replace kc:=Bt kc;obtain⟨b1,b2⟩:=kc;obtain rfl:=eq_of_beq b1;replace b3:=M3 b3;obtain⟨o,i,p5,rfl,b3⟩:=b3;replace b3:=Bt b3;obtain⟨b6,b7⟩:=b3;replace b6:=EW b6;obtain⟨y2,p6,rfl,b6⟩:=b6;replace b7:=JV b7;obtain⟨cc,u,p7,rfl,b7⟩:=b7;obtain rfl:=AQ b7;have hT:PE X (.Subscript (.Name y2 p6) (.Constant (.int (kk:Ae)) u p7) p5) (λY H Q=>∃ w,(∃ q us,Y[x]?=Ab (Ab (.ref q))/\SqT X.K H q us/\us[kk]?=Ab w)/\Q w H):=PE.weak (WD VJ (F1 v b6) Wj (TZ rfl)) λY H Q ⟨w,⟨q,us,z1,z2,z3⟩,z4⟩=>⟨_,z1,q,us,(kk:Ae),w,rfl,rfl,z2,pR z3,z4⟩
    exact UQ (Ws v a4 hfr) (λte he=>Jj (by rw[v.N];exact v.nd) (by rw[v.N];exact a1) (by rw[v.sc];exact Iy a2) he (Jh a3) (.inl (hf.fn _))) (kE x kk) (λY H H' u s ⟨q,us,z1,z2,z3⟩=>⟨q,us,z1,Lf (A:=A0) (Kp.of s) (.inl λz=>z) z2,z3⟩) hT np op hB na oa nb ob ((snd (U:=U) (CL:=CL) (k:=k) n).e W T X _ e v b5).se rfl (by rw[B5 b4];rfl) b2 (B5 b4) rfl
  |[x,y],g1,kc=>
    replace g1:=PN g1;obtain⟨t1,v1,p1,rfl,g1⟩:=g1;replace g1:=JU g1;obtain⟨ys,cc,pw,rfl,g1⟩:=g1;simp only[Al]at g1;obtain⟨⟨⟨a1,a2⟩,a3⟩,a4⟩:=g1;replace kc:=PH kc;obtain⟨y2,p6,m,ap,l,cp,q3,rfl,hln,kc⟩:=kc;replace kc:=Ej kc;obtain⟨ve,rfl,kc⟩:=kc;replace kc:=Bt kc;obtain⟨kc,b5⟩:=kc;replace kc:=Bt kc;obtain⟨kc,b4⟩:=kc;replace kc:=Bt kc;obtain⟨b1,b6⟩:=kc;obtain rfl:=eq_of_beq b1;have hT:PE X (.Name y2 p6) (λY H Q=>∃ w,Y[if kk=0 then x else y]?=Ab (Ab w)/\Q w H):=F1 v b6
    exact UQ (Ws v a4 hfr) (λte he=>Qq he (sM v hf.fn a1 a2) (P9 (λ_ _ z=>by cases z)) (sF (by rw[a3];rfl)) rfl) (kD x y kk) (λY H H' u s z=>z) hT np op hB na oa nb ob ((snd (U:=U) (CL:=CL) (k:=k) n).e W T X _ e v b5).se rfl (by rw[B5 b4];rfl) (by rw[hln];exact CF _) (B5 b4) rfl
theorem VM{x:Ag}{t:Am}{c:E}:∀{n:Ag},HV n T x t c=Aa->∀ Z r,top Z c r=r:=λ{n} h=>by
 cases n with
 |zero=>exact noF h
 |succ n=>
  cases c with
  |var i=>exact noF h
  |_=>exact λ_ _=>rfl
theorem iF(v:VX U CL k W T X)(e:Ah):∀(ts:Ac Am)(ks:Ac Ki),Q6 T ts ks=Aa->∃ cs:Ac (Ag×Ah),ks=cs.map (λq=>Ki.cls q.1)/\cs.length=ts.length/\PA (Cx.hot X e) ts (RZ (cs.map λq:Ag×Ah=>q.2))/\∀ q∈cs,Mi X.K CL U.up q.1 q.2:=by
 intro ts
 induction ts with
 |nil=>
  intro ks h;obtain rfl:=GN h;exact⟨[],rfl,rfl,Fh,λq hq=>nomatch hq⟩
 |cons t ts ih=>
  intro ks h;replace h:=Jd h;obtain⟨kk,ks,rfl,h⟩:=h;replace h:=EW h;obtain⟨t,p,rfl,h⟩:=h;replace h:=Bt h;obtain⟨h,h4⟩:=h;cases kk with
  |cls c=>
   replace h:(inX T.exs t c&&glB T t&&GA t)=Aa:=h;simp only[Al]at h;obtain⟨⟨h1,h2⟩,h3⟩:=h;obtain⟨cs,e1,e2,e3,e4⟩:=ih ks h4;obtain⟨C,m1,m3,_⟩:=v.xt.ex _ (Li h1);obtain⟨n2,_,_⟩:=Gr h3;refine⟨(c,C)::cs,by rw[e1];rfl,by rw[AY,AY,e2],?_,λq hq=>?_⟩
   .exact DL (Qb (X:=Cx.hot X e) (v:=.ref C) (by unfold glB at h2;show X.env.scope.names.lookup t=_;rw[v.sc];exact eq_of_beq h2) m1 rfl n2) e3 rfl
   .rcases AD.mp hq with rfl|hq
    .exact m3
    .exact e4 q hq
  |_=>exact noF h
theorem NP{e:Ah}{f:Am->E->Ai}(ih:∀ t c,f t c=Aa->SE (Cx.hot X e) CL W0 t (λZ=>evE U Z c)):∀(xs:Ac Am)(es:Es),Mp f xs es=Aa->SA (Cx.hot X e) CL W0 xs (λZ=>evA U Z es)/\xs.length=es.len
 |[],.nil,_=>⟨We,rfl⟩
 |[],.cons _ _,h=>nomatch (show Ad=Aa from h)
 |_::_,.nil,h=>nomatch (show Ad=Aa from h)
 |x::xs,.cons c es,h=>by
  have h:(Da x&&f x c&&Mp f xs es)=Aa:=h;simp only[Al]at h;obtain⟨⟨h1,h2⟩,h3⟩:=h;obtain⟨q,l⟩:=NP ih xs es h3;exact⟨UW (ih x c h2) q (B5 h1),by rw[AY,l];rfl⟩
theorem WP(v:VX U CL k W T X)(e:Ah)(x:Ag):∀(n:Ag)(t:Am)(c:E),HV n T x t c=Aa->SE (Cx.hot X e) CL W0 t (λZ=>evE U Z c):=by
 intro n
 induction n with
 |zero=>intro t c h;exact noF h
 |succ n ih=>
  intro t c h;cases c with
  |bl b=>
   replace h:=JV h;obtain⟨k,u,p,rfl,h⟩:=h;obtain rfl:=AQ h;exact WH
  |no a=>
   replace h:=Qe h;obtain⟨o,y,p,rfl,h⟩:=h;replace h:=Bt h;obtain⟨h0,h⟩:=h;obtain rfl:=AQ h0;have q:=(ih _ _ h).st;refine SE.congr (Wb q) λZ=>?_
   show ((top Z a (evE U Z a)).bind λx=>(DE x).bind λb=>R.ok (D.bl (!b)))=_
   rw[VM h]
  |and es=>
   cases es with
   |nil=>exact noF h
   |cons a as=>
    cases as with
    |nil=>
     replace h:=Ma h;obtain⟨o,l,p,rfl,h⟩:=h;replace h:=Bt h;obtain⟨h0,h⟩:=h;obtain rfl:=AQ h0;replace h:=Ej h;obtain⟨y,rfl,h⟩:=h;exact SE.congr (Qv (ih _ _ h)) λZ=>rfl
    |cons a' as=>
     replace h:=Ma h;obtain⟨o,l,p,rfl,h⟩:=h;replace h:=Bt h;obtain⟨h0,h⟩:=h;obtain rfl:=AQ h0;replace h:=Jd h;obtain⟨y,l,rfl,h⟩:=h;replace h:=Jd h;obtain⟨z,zs,rfl,h⟩:=h;exact SE.congr (Wd (ih _ _ (Bt h).1) (ih _ _ (Bt h).2)) λZ=>rfl
  |isi a ks=>
   replace h:=TJ h;obtain⟨i,rfl,h⟩:=h;replace h:=lG h;obtain⟨g,pp,w,pq,u,pr,rfl,h⟩:=h;simp only[Al,AS]at h;obtain⟨⟨⟨⟨rfl,rfl⟩,h3⟩,h4⟩,h⟩:=h;obtain⟨g1,g2,_,_⟩:=IB v h3;replace h:=Jd h;obtain⟨kk,ks,rfl,h⟩:=h;cases kk with
   |verr=>
    replace h:=Bt h;obtain⟨h0,h⟩:=h;obtain rfl:=GN h0;replace h:=EW h;obtain⟨t,pt,rfl,h⟩:=h;simp only[Al,AS]at h;obtain⟨h5,h6⟩:=h;obtain⟨b1,b2,_,_⟩:=IB v h6;rw[h5]at b1 b2 ⊢;exact qX (X:=Cx.hot X e) v.xt.xc g1 g2 b1 b2 (Ji (Nc v h4)) rfl
   |cls c=>
    cases ks with
    |nil=>
     replace h:=EW h;obtain⟨t,pt,rfl,h⟩:=h;simp only[Al]at h;obtain⟨⟨h5,h6⟩,h7⟩:=h;obtain⟨C,m1,m3,_⟩:=v.xt.ex _ (Li h5);obtain⟨n2,_,_⟩:=Gr h7;exact rA (X:=Cx.hot X e) v.xt.xc g1 g2 (by unfold glB at h6;show X.env.scope.names.lookup _=_;rw[v.sc];exact eq_of_beq h6) m1 m3 n2 (Ji (Nc v h4)) rfl
    |cons k2 ks=>
     replace h:=JU h;obtain⟨ts,z1,z2,rfl,h⟩:=h;replace h:=Bt h;obtain⟨h5,h6⟩:=h;obtain⟨cs,e1,e2,e3,e4⟩:=iF v e _ _ h5;have hne:cs≠[]:=by rintro rfl;cases e1
     rw[e1];exact qY (X:=Cx.hot X e) (W:=W0) (up:=U.up) v.xt.xc g1 g2 e3 hne (by rw[e2];exact AQ h6) e4 (Ji (Nc v h4)) rfl
   |_=>exact noF h
  |call f as=>exact absurd (show Ad=Aa from h) Av
  |str s=>
   replace h:=JV h;obtain⟨k,u,p,rfl,h⟩:=h;obtain rfl:=AQ h;exact Wa
  |lst es=>
   replace h:=PJ h;obtain⟨xs,p,rfl,h⟩:=h;simp only[Al,AK]at h;obtain⟨q,ql⟩:=NP (ih) _ _ h.1;exact(Qu q λZ ds z=>by rw[JT U Z _ _ z,<-ql];omega).se
  |tup es=>
   replace h:=JU h;obtain⟨xs,cc,p,rfl,h⟩:=h;simp only[Al,AK]at h;obtain⟨q,ql⟩:=NP (ih) _ _ h.1;exact V9 q λZ ds z=>by rw[JT U Z _ _ z,<-ql];omega
  |bin op a b=>
   replace h:=Bt h;obtain⟨h0,h⟩:=h;obtain rfl:=AQ h0;replace h:=TJ h;obtain⟨i,rfl,h⟩:=h;replace h:=Up h;obtain⟨l,o,y,p,rfl,h⟩:=h;replace h:=Bt h;obtain⟨h0,h⟩:=h;obtain rfl:=AQ h0;replace h:=EW h;obtain⟨w,pw,rfl,h⟩:=h;replace h:=Bt h;obtain⟨h1,h2⟩:=h;refine SE.congr (Qw (Qd .Add) (Ji (Nc v h1)) (ih _ _ h2).st) λZ=>?_
   show ((Cu Z i).bind λx=>(top Z b (evE U Z b)).bind λy=>CD .Add x y)=_
   rw[VM h2]
  |fld o f=>exact absurd (show Ad=Aa from h) Av
  |_=>exact noF h
theorem b9(v:VX U CL k W T X)(hf:DefX X)(e:Ah)(x:Ag):∀(n:Ag)(sts:Ac AN)(ss:Ss),Rk n T x sts ss=Aa->SSs (Cx.hot X e) CL W0 sts (λZ=>evSs U Z ss):=by
 intro n
 induction n with
 |zero=>intro t c h;exact noF h
 |succ n ih=>
  intro sts ss0 h;cases ss0 with
  |nil=>
   obtain rfl:=GN h;exact UP
  |cons s ss0=>
   replace h:=Jd h;obtain⟨st,r,rfl,h⟩:=h;replace h:=Bt h;obtain⟨h,h5⟩:=h;cases s with
   |asg i b e0=>
    replace h:=Mb h;obtain⟨y,py,v0,pos,rfl,h⟩:=h;simp only[Al,AS]at h;obtain⟨⟨⟨⟨h1,h2⟩,h3⟩,h4⟩,h6⟩:=h;cases b with
    |true=>
     cases e0 with
     |lst es=>
      have sc:SC (Cx.hot X e) CL W0 Aa v0 (λZ=>evE U Z (.lst es)):=by
       cases n with
       |zero=>exact absurd (show Ad=Aa from h4) Av
       |succ n=>
        replace h4:=PJ h4;obtain⟨l,pl,rfl,h4⟩:=h4;obtain⟨q,ql⟩:=NP (WP v e x n) _ _ (Bt h4).1;have hle:=AQ (Bt h4).2;exact Qu q λZ ds z=>by rw[JT U Z _ _ z,<-ql];omega
      have q:=PB (UR (SC.sas (X:=Cx.hot X e) (pos:=pos) (pos':=py) (by show X.N.Nodup;rw[v.N];exact v.nd) (by show X.N[i]?=_;rw[v.N];exact h1) (by show Loc X.env.scope _;rw[v.sc];exact Iy h2) sc (Jh h3) (.inl (hf.fn _)))) (ih _ _ h5)
      have ef:(λZ=>evSs U Z (.cons (.asg i Aa (.lst es)) ss0))=λZ=>(O.of Z (evE U Z (.lst es)) λd=>setF Z i d).seq λZ=>evSs U Z ss0:=by
       funext Z
       show (evS U Z (.asg i Aa (.lst es))).seq _=_;rw[S6];rfl
      rw[ef];exact q
     |_=>exact absurd (show Ad=Aa from h6) Av
    |false=>
    exact PB (rQ (X:=Cx.hot X e) (by show X.N.Nodup;rw[v.N];exact v.nd) (by show X.N[_]?=_;rw[v.N];exact h1) (by show Loc X.env.scope _;rw[v.sc];exact Iy h2) (WP v e x n _ _ h4) (Jh h3) (.inl (hf.fn _))) (ih _ _ h5)
   |ife c a b=>exact absurd (show Ad=Aa from h) Av
   |ret e0=>exact absurd (show Ad=Aa from h) Av
   |app i e0=>exact absurd (show Ad=Aa from h) Av
   |_=>exact noF h
theorem wD(v:VX U CL k W T X)(h:hdB T g c=Aa):Sj X CL U.up g c:=by
 unfold hdB at h;simp only[Al]at h;obtain⟨⟨⟨i1,i0⟩,i2⟩,i3⟩:=h;obtain⟨C,m1,m3,m4⟩:=v.xt.ex _ (Li i1);obtain⟨C0,r1,r2⟩:=v.xt.rz _ (Li i0);obtain⟨n2,_,_⟩:=Gr i3;refine⟨C,by unfold glB at i2;show X.env.scope.names.lookup g=_;rw[v.sc];exact eq_of_beq i2,m1,n2,?_,λc' D hD=>m4 c' D hD⟩
 have e0:=m1.symm.trans r2;cases e0;exact v.xt.xc _ _ r1
theorem xY(Z_:SndS U CL k n)(W:XW)(T:Tc)(X:Cx)(st:AN)(c:S)(v:VX U CL k W T X)(hf:DefX X)(h:Jx (n+1) T st c=Aa):SS X CL W st (λZ=>evS U Z c):=by
  have E:=snd (U:=U) (CL:=CL) (k:=k) n;cases c with
  |pass=>exact absurd (show Ad=Aa from h) Av
  |brk=>exact absurd (show Ad=Aa from h) Av
  |cont=>exact absurd (show Ad=Aa from h) Av
  |asg i fresh e=>
    replace h:=Mb h;obtain⟨x,px,v0,pos,rfl,h⟩:=h;simp only[Al,AS]at h;obtain⟨⟨h1,h2⟩,h3⟩:=h;have o:=E.e W T X _ e v h3;cases fresh with
    |false=>exact V8 (Qz (fr:=Ad) v hf.fn h1 h2 o (λz=>nomatch z))
    |true=>
      cases hn:Ce U e with
      |true=>
        refine SS.ref (UR (Qz (fr:=Aa) v hf.fn h1 h2 o (λ_=>hn))) λZ=>.inr ?_
        show O.of Z (evE U Z e) (λd=>if Aa=Aa then (if Ce U e=Aa then (match d with
          |.lst xs=>.next (Z.set i (Ab (.lst xs,Aa)))
          | _=>.bad) else .bad) else .next (Z.set i (Ab (d,Ad))))=_
        rw[hn];rfl
      |false=>
        refine SS.ref (V8 (Qz (fr:=Ad) v hf.fn h1 h2 o (λz=>nomatch z))) λZ=>?_
        have e0:evS U Z (.asg i Aa e)=O.of Z (evE U Z e) (λd=>if Aa=Aa then (if Ce U e=Aa then (match d with
          |.lst xs=>.next (Z.set i (Ab (.lst xs,Aa)))
          | _=>.bad) else .bad) else .next (Z.set i (Ab (d,Ad)))):=rfl
        rw[e0,hn];cases evE U Z e with
        |ok d=>exact .inl rfl
        |exn y=>exact .inr rfl
        |bad=>exact .inl rfl
  |asgT ts e=>exact absurd (show Ad=Aa from h) Av
  |expr e=>
    replace h:=M4 h;obtain⟨v0,pos,rfl,h⟩:=h;simp only[Al]at h;exact jU (E.e W T X _ e v h.2).se (Jh h.1)
  |ret e=>exact Wg v h
  |blk=>exact noF h
  |retT es=>
    replace h:=TR h;obtain⟨o,pos,rfl,h⟩:=h;cases o with
    |none=>exact noF h
    |some v0=>
      replace h:(HU v0 λl=>decide (l.length<=1000)&&chkEs n T l es)=Aa:=h
      replace h:=JU h;obtain⟨l,cc,pw,rfl,h⟩:=h;rw[Al,AK]at h;exact jQ (fs:=λZ=>evP U Z es) (zC v n l es h.2) λZ xs z=>by rw[Ve U Z es xs z,<-((snd (U:=U) (CL:=CL) (k:=k) n).es W T X _ es v h.2).2.2.1];omega
  |retN=>exact absurd (show Ad=Aa from h) Av
  |ife c a b=>
    replace h:=Nn h;obtain⟨t,xs,ys,pos,rfl,h⟩:=h;simp only[Al]at h;exact xM (E.b W T X _ c v h.1.1) (Z_.ss W T X _ a v hf h.1.2) (Z_.ss W T X _ b v hf h.2)
  |fors t it body=>
    replace h:=TU h;obtain⟨tg,it',xs,ys,pos,rfl,h⟩:=h;replace h:=Bt h;obtain⟨hn,h⟩:=h;obtain rfl:=GN hn;replace h:=EW h;obtain⟨y,py,rfl,h⟩:=h;simp only[Al]at h;obtain⟨⟨⟨h1,h2⟩,h3⟩,h4⟩:=h;exact V7 v.own v.calm (nX t) (kZ v hf.fn h1) (E.i W T X Ad _ _ it v rfl h3) (Z_.ss W T X _ body v hf h4) (Nq h2) (λ_ _ _ z=>nomatch z)
  |forT ts it body=>
    replace h:=TU h;obtain⟨tg,it',xs,zs,pos,rfl,h⟩:=h;replace h:=Bt h;obtain⟨hn,h⟩:=h;obtain rfl:=GN hn;replace h:=JU h;obtain⟨ys,cc,py,rfl,h⟩:=h;simp only[Al]at h;obtain⟨⟨⟨⟨h0,h1⟩,h2⟩,h3⟩,h4⟩:=h;exact V7 v.own v.calm (wF ts) (kY v hf.fn h0 h1) (E.i W T X Aa _ _ it v rfl h3) (Z_.ss W T X _ body v hf h4) (Nq h2) (dU ts)
  |whl c body=>exact absurd (show Ad=Aa from h) Av
  |rais c as=>
    replace h:(!(T.rzs.any λp=>p.2==c)||(NT st λa b=>b.isNone&&(match a with|some e=>Lg e λg x xs=>inX T.rzs g c&&glB T g&&GA g&&decide (xs.length<=1000)&&chkEs n T (x::xs) as|none=>Ad)))=Aa:=h
    cases hc:T.rzs.any (λp=>p.2==c) with
    |false=>
      have hb:∀ ds,U.xn c ds=.bad:=v.xt.xb c λp hp z=>by
        have:T.rzs.any (λp=>p.2==c)=Aa:=BQ.mpr ⟨p,hp,AS.mpr z⟩
        rw[hc]at this;cases this
      intro Fz B pI s Y H D I ⟨Z,x,p⟩;have p':Bs X.K CL Fz B W (O.of Z (noX (evA U Z as)) λxs=>O.of Z (U.xn c xs) λx=>.exn x Z) D:=p
      cases e1:evA U Z as with
      |bad=>rw[e1]at p';exact p'.elim
      |exn y=>rw[e1]at p';exact p'.elim
      |ok ds=>
        rw[e1]at p';have p2:Bs X.K CL Fz B W (O.of Z (U.xn c ds) λx=>.exn x Z) D:=p'
        rw[hb ds]at p2;exact p2.elim
    |true=>
      rw[hc,Bool.not_true,Bool.false_or]at h;replace h:=iK h;obtain⟨ea,eb,pos,rfl,h⟩:=h;replace h:=Bt h;obtain⟨h0,h⟩:=h;obtain rfl:=X1.mp h0;cases ea with
      |none=>exact noF h
      |some e0=>
        replace h:=JP h;obtain⟨g,np,x,xs,cpos,rfl,h⟩:=h;simp only[Al,AK]at h;obtain⟨⟨⟨⟨h1,h2⟩,h3⟩,h4⟩,h5⟩:=h;obtain⟨C,m1,m2⟩:=v.xt.rz _ (Li h1);obtain⟨n2,_,_⟩:=Gr h3;obtain⟨s0,e,es',rfl,m,rfl,s1⟩:=Ir h5;have q:=E.es W T X _ _ v h5;exact dM v.calm hf.ex v.room v.rz (by unfold glB at h2;show X.env.scope.names.lookup g=_;rw[v.sc];exact eq_of_beq h2) m2 n2 m1 q.1 (λds=>v.xt.made c C ds m1) (B5 s0) (Je m xs es' s1) (λZ ds z=>by rw[JT U Z _ _ z,<-q.2.2.1,AY];omega)
  |app i e=>
    replace h:=PH h;obtain⟨x,px,m,ap,l,cp,pos,rfl,h2,h⟩:=h;replace h:=Ej h;obtain⟨v0,rfl,h⟩:=h;simp only[Al,AS]at h;obtain⟨⟨⟨rfl,h1⟩,h3⟩,h4⟩:=h;exact rV (F1 v h1) (E.e W T X _ e v h4).se rfl (by rw[B5 h3];rfl) (by rw[h2];exact CF _) (B5 h3) rfl
  |ext i e=>
    replace h:=PH h;obtain⟨x,px,m,ap,l,cp,pos,rfl,h2,h⟩:=h;replace h:=Ej h;obtain⟨v0,rfl,h⟩:=h;simp only[Al,AS]at h;rw[Cz]at h;obtain⟨⟨⟨rfl,h1⟩,h3⟩,h5⟩:=h;rcases h5 with h5|h5
    · rw[Al]at h5;obtain⟨h5,h4⟩:=h5;exact rS (F1 v h1) ((E.e W T X _ e v h4).nw (pA U h5)) rfl (by rw[B5 h3];rfl) (by rw[h2];exact CF _) (B5 h3) rfl
    · cases q:NJ e with
      |none=>rw[q]at h5;cases h5
      |some a=>
        rw[q]at h5;have eq:=gQ q;subst eq;have fe:(λZ=>evS U Z (.ext i (.bi .list (.cons (.bin .Add a (.tup .nil)) .nil))))=λZ=>O.of Z (CC Z i) λxs=>O.of Z (top Z a (evE U Z a)) λx=>O.of Z ((CD .Add x (.tup [])).bind λy=>biD .list [y]) λd=>O.of Z (Lp d) λys=>if BY (xs.length+ys.length)=Aa then .next (Z.set i (Ab (.lst (xs++ys),Aa))) else .bad:=funext λZ=>by
          rw[oG];have e2:evE U Z (.bi .list (.cons (.bin .Add a (.tup .nil)) .nil))=(top Z a (evE U Z a)).bind λx=>(CD .Add x (.tup [])).bind λy=>biD .list [y]:=by
            simp only[Nv,evB,oM,kS,kR,oJ,evA,R.bind_ok,R.bind_assoc]
          rw[e2];cases CC Z i with
          |ok xs=>
            rw[O.of_ok,O.of_ok];cases top Z a (evE U Z a)<;>rfl
          |exn z=>rfl
          |bad=>rfl
        show SS X CL W _ (λZ=>evS U Z (.ext i (.bi .list (.cons (.bin .Add a (.tup .nil)) .nil))))
        rw[fe];exact jT (F1 v h1) (E.e W T X _ a v h5).st rfl (by rw[B5 h3];rfl) (by rw[h2];exact CF _) (B5 h3) rfl
  |rev i=>exact absurd (show Ad=Aa from h) Av
  |clr i=>exact absurd (show Ad=Aa from h) Av
  |put i k e=>
    replace h:=PN h;obtain⟨t,v0,pos,rfl,h⟩:=h;replace h:=M3 h;obtain⟨o,y,sp,rfl,h⟩:=h;replace h:=EW h;obtain⟨x,p,rfl,h⟩:=h;simp only[Al]at h;obtain⟨⟨⟨h1,h2⟩,h4⟩,h5⟩:=h;exact rR (F1 v h1) (E.e W T X _ k v h4).st (E.e W T X _ e v h5).se (λw=>by cases y<;>first|rfl|cases h2) (P9 (λ_ _ z=>by cases z)) rfl rfl
  |tryx body c x hd=>
    cases body with
    |nil=>exact noF h
    |cons b bs=>
      cases bs with
      |cons=>exact noF h
      |nil=>
        unfold Jx at h;dsimp only at h;cases q:Rn st with
        |none=>rw[q]at h;cases h
        |some t=>
          obtain⟨bt,hl,es⟩:=t;rw[q]at h;obtain⟨pos,rfl⟩:=kG q;cases hl with
          |nil=>exact noF h
          |cons h1 hl=>
            cases hl with
            |cons=>exact noF h
            |nil=>
              cases es with
              |cons=>exact noF h
              |nil=>
                dsimp only at h;cases q1:xHd h1 with
                |none=>rw[q1]at h;cases h
                |some t1=>
                  obtain⟨g,m,h0,hs⟩:=t1;obtain⟨p1,hp,rfl⟩:=sB q1;rw[q1]at h;simp only[Al,AS]at h;obtain⟨⟨⟨⟨i1,i4⟩,i5⟩,i6⟩,i7⟩:=h;obtain⟨t1,t2⟩:=xO E v hf 6 i6;refine SS.ref (rP (up:=U.up) (c:=c) (i:=x) hf.ex hf.st hf.fm (by rw[v.N];exact v.nd) (by rw[v.N];exact i4) (by rw[v.sc];exact i5) (wD v i1) t1 t2 (λe=>b9 v hf e x n _ _ i7)) λZ=>.inr ?_
                  rw[hZ];unfold RH;cases evSs U Z (.cons b .nil)<;>rfl
  |try2 body c x hd c' hd' els=>exact absurd (show Ad=Aa from h) Av
  |swp i k l=>exact absurd (show Ad=Aa from h) Av
  |apop j i e=>exact absurd (show Ad=Aa from h) Av
  |ins i k e=>exact absurd (show Ad=Aa from h) Av
  |dnw i=>
    unfold Jx at h;dsimp only at h;split at h
    · simp only[Al,AS]at h;obtain⟨⟨h1,h2⟩,h3⟩:=h;obtain⟨p,rfl⟩:=kH h3;exact rU (by rw[v.N];exact v.nd) (by rw[v.N];exact h1) (by rw[v.sc];exact Iy h2) rfl (.inl (hf.fn _))
    · cases h
  |dput i k e=>
    unfold Jx at h;dsimp only at h;split at h
    · simp only[Al]at h;obtain⟨⟨⟨h1,h2⟩,h4⟩,h5⟩:=h;rename_i x p y sp v0 pos;have hu:=v.room.units;exact jV (by omega) (F1 v h1) (E.e W T X _ k v h4).st (E.e W T X _ e v h5).se (λw=>by cases y<;>first|rfl|cases h2) (P9 (λ_ _ z=>by cases z)) rfl rfl
    · cases h
  |dsd i k e=>
    unfold Jx at h;dsimp only at h;split at h
    · rename_i w pos;cases q:xMt w with
      |none=>rw[q]at h;cases h
      |some t=>
        obtain⟨x,m,y,z⟩:=t;rw[q]at h;simp only[Al,AS]at h;obtain⟨⟨⟨⟨⟨rfl,h1⟩,h2⟩,h3⟩,h4⟩,h5⟩:=h;obtain⟨p,ap,cp,rfl,hl⟩:=Vz q;have hu:=v.room.units;exact rT (by omega) (F1 v h1) (E.e W T X _ k v h4).st (E.e W T X _ e v h5).se rfl (by rw[B5 h2,B5 h3];rfl) (by rw[hl];exact CF _) (B5 h2) (B5 h3) (by rw[B5 h3];rfl) rfl
    · cases h
  |rel=>exact noF h
theorem iH{c:Ss}(h:Oh c=Aa)(Z:Rho):evSs U Z c=.bad:=by
 cases c with
 |nil=>cases h
 |cons s ss=>
  cases s with
  |expr e=>
   cases e with
   |bi b as=>
    cases as with
    |nil=>
     cases b with
     |len=>rfl
     |_=>exact noF h
    |cons=>cases b<;>exact noF h
   |_=>exact noF h
  |_=>exact noF h
theorem sQ(Z_:SndS U CL k n)(W:XW)(T:Tc)(X:Cx)(xs:Ac AN)(c:Ss)(v:VX U CL k W T X)(hf:DefX X)(h:chkSs (n+1) T xs c=Aa):SSs X CL W xs (λZ=>evSs U Z c):=by
 by_cases hb:Oh c=Aa
 .exact λFz B pI s Y H D I ⟨Z,x,p⟩=>by
   dsimp only at p;rw[iH hb]at p;exact p.elim
 have hb:Oh c=Ad:=by simpa using hb
 cases c with
 |nil=>
  simp only[chkSs,hb,DR,List.isEmpty_iff]at h;subst h;exact UP
 |cons s ss=>
  by_cases hr:∃ i,s=.rel i
  .obtain⟨i,rfl⟩:=hr;simp only[chkSs,hb,DR]at h;exact jO i (Z_.ss W T X xs ss v hf h)
  by_cases hh:∃ ts f as pre c a b j e,s=.blk ts f as pre c a b j e
  .obtain⟨ts,f,as,pre,c,a,b,j,e,rfl⟩:=hh;cases ss with
   |cons s' ss'=>cases xs<;>exact noF h
   |nil=>
    cases xs with
    |nil=>exact noF h
    |cons s1 q=>
     replace h:(Rm n T ts f as pre c a b j e s1 q||false)=Aa:=h;rw[DR]at h;refine λFz B=>PSs.weak (ZS v hf h Fz B) λD Y H ⟨Z,x,p⟩=>⟨Z,x,?_⟩
     have p:Bs X.K CL Fz B W ((evS U Z (.blk ts f as pre c a b j e)).seq λZ'=>.next Z') D:=p
     show Bs X.K CL Fz B W (evS U Z (.blk ts f as pre c a b j e)) D;cases eo:evS U Z (.blk ts f as pre c a b j e)<;>(rw[eo]at p;exact p)
  .cases xs with
   |nil=>cases s<;>first|(simp[chkSs,hb]at h;done)|exact absurd ⟨_,rfl⟩ hr|exact absurd ⟨_,_,_,_,_,_,_,_,_,rfl⟩ hh
   |cons st r=>
    have h':Jx n T st s=Aa/\chkSs n T r ss=Aa:=by
     cases s<;>first|(simp only[chkSs,hb,DR,Al]at h;exact h)|exact absurd ⟨_,rfl⟩ hr|exact absurd ⟨_,_,_,_,_,_,_,_,_,rfl⟩ hh
    exact PB (Z_.s W T X st s v hf h'.1) (Z_.ss W T X r ss v hf h'.2)
theorem Rs:∀ n,SndS U CL k n
 |0=>⟨λ_ _ _ _ _ _ _ h=>noF h,λ_ _ _ _ _ _ _ h=>noF h⟩
 |n+1=>⟨xY (Rs n),sQ (Rs n)⟩
end
theorem L4{n:Ag}{ds:Ac D}{i:Ag}{o:Ai}(h:(BD n ds)[i]?=Ab (Ab (d,o))):o=Ad/\ds[i]?=Ab d:=by
 unfold BD at h;by_cases hi:i<ds.length
 .rw[Fj (by simpa using hi),Dr]at h
  cases e:ds[i]? with
  |none=>rw[e]at h;cases h
  |some x=>rw[e]at h;cases h;exact⟨rfl,rfl⟩
 .rw[Xr (by simpa using Nat.le_of_not_lt hi),Xv]at h
  split at h<;>cases h
theorem dL{N:Ac Ak}{vs:Ac V}{i:Ag}{v:V}(h:vs[i]?=Ab v):(L2.start N vs)[i]?=Ab (Ab v):=by
 unfold L2.start;have hi:=(AX.mp h).1;rw[Fj (by simpa using hi),Dr,h]
 rfl
theorem fL{N:Ac Ak}{n:Ag}{vs:Ac V}{ds:Ac D}(hn:N.length=n)(hA:AOk H A)(r:Reps K CL H A vs ds):Sx K CL (λb o=>H b=Ab o) A (BD n ds) (L2.start N vs) H:=by
 have own:∀ a,Bi A (BD n ds) (L2.start N vs) a->A a:=λa h=>by
  rcases h with h|⟨j,d,h,_⟩
  .exact h
  .exact absurd (L4 h).1 (by decide)
 have hlen:(BD n ds).length=(L2.start N vs).length:=by
  unfold BD L2.start;simp only[AM,A9,Xz,r.length,hn]
 refine⟨⟨λi d h=>?_,λi d h=>absurd (L4 h).1 (by decide),hlen⟩,λa h=>hA a (own a h),λj d a h _=>absurd (L4 h).1 (by decide),λi j d e a h _ _ _=>absurd (L4 h).1 (by decide),λb o h=>h,hlen⟩
 obtain⟨v,h1,h2⟩:=r.get (L4 h).2;exact⟨v,dL h1,Rep.sub own _ h2⟩
structure FunX (K:Fg) (x qual:Ak) (st:AN) (f:Ah) (fd:BO):Prop where
 ex:∃(oc:Aj)(od:Ao Ah)(dV kV doc pm:Aj)(an:Ao Ah)(cdv ct:Aj)(osl:A7 (Ao Aj)),
  fd=Cm x qual (Ht st) (Gs st) (Ff st) dV kV doc pm an cdv ct/\K.lookup f=Ab ⟨oc,od,.func fd,osl⟩/\EQ K cdv qual=Aa
 kp:BL K (.ref f)=Aa
theorem WR{st:AN}{f:Ah}(F:Fun K x qual st f fd):FunX K x qual st f fd:=by
 obtain⟨oc,od,kV,doc,pm,an,cdv,ct,osl,e,lk,hcd⟩:=F.ex;exact⟨⟨oc,od,.none,kV,doc,pm,an,cdv,ct,osl,e,lk,hcd⟩,F.kp⟩
def Km(K:Fg)(mg:Ak->Ao Aj)(fns:Ac (Ak×Ag×Ag))(bl:Ac Ak)(rzs exs gls:Ac (Ak×Ag))(Pg:Prg)(fuel:Ag)(p:Ak×Ag×Ag):Prop:=∃ f fd ps qual st N,mg p.1=Ab (.ref f)/\FunX K p.1 qual st f fd/\EZ K fd ps []/\ps.length=p.2.2%1000/\Hb fuel (Ds 1000 p.2.2) fns bl rzs exs gls ps N st (Pg.defs p.2.1)=Aa/\(100000<=p.2.1->∃ t,EZ K fd ps [.int 1 t])
structure Tab (K:Fg) (mg:Ak->Ao Aj) (CL:ClA) (fns:Ac (Ak×Ag×Ag)) (bl:Ac Ak) (rzs exs gls:Ac (Ak×Ag)) (Pg:Prg) (fuel:Ag):Prop where
 xt:XT Pg.up Pg.xn CL rzs exs K mg
 bln:∀ x,x∈bl->mg x=Af
 gl:∀ p∈gls,Ol K mg CL p.1 (Pg.G p.2)
 fn:∀ p∈fns,Km K mg fns bl rzs exs gls Pg fuel p
theorem wL(Pg:Prg)(n i:Ag):(gam Pg n).fr i=(Pg.defs i).fr:=by cases n<;>rfl
theorem wK(Pg:Prg)(n:Ag):(gam Pg n).up=Pg.up:=by cases n<;>rfl
theorem ba(Pg:Prg)(n:Ag):(gam Pg n).G=Pg.G:=by cases n<;>rfl
theorem wJ(Pg:Prg)(n:Ag):(gam Pg n).xn=Pg.xn:=by cases n<;>rfl
section
variable{P:AO}{w:AW}{K:Fg}{mg:Ak->Ao Aj}{base:AF}{CL:ClA}{fns:Ac (Ak×Ag×Ag)}{bl:Ac Ak}{rzs exs gls:Ac (Ak×Ag)}{Pg:Prg}{fuel:Ag}
def Lvl(P:AO)(w:AW)(K:Fg)(mg:Ak->Ao Aj)(base:AF)(CL:ClA)(Pg:Prg)(n:Ag)(p:Ak×Ag×Ag):Prop:=∃ f fd ps,mg p.1=Ab (.ref f)/\BL K (.ref f)=Aa/\EZ K fd ps []/\ps.length=p.2.2%1000/\(p.2.2<1000->FnOk P w K mg base (CXR P w) n f fd ps (spD K CL (p.2.2%1000) ((gam Pg n).fr p.2.1) ((gam Pg n).F p.2.1)))/\(1000<=p.2.2->HotOk P w K mg base n f fd ps (spH K CL (p.2.2%1000) ((gam Pg n).fr p.2.1) ((gam Pg n).F p.2.1)))/\(100000<=p.2.1->∃ t,EZ K fd ps [.int 1 t])
theorem VS(t:Tab K mg CL fns bl rzs exs gls Pg fuel){n:Ag}(hlv:∀ q∈fns,Lvl P w K mg base CL Pg n q){st:AN}{f:Ah}{ps N:Ac Ak}{m id:Ag}(h2:FunX K x qual st f fd)(h4:ps.length=m)(h5:Hb fuel Ad fns bl rzs exs gls ps N st (Pg.defs id)=Aa):FnOk P w K mg base (CXR P w) (n+1) f fd ps (spD K CL m ((gam Pg (n+1)).fr id) ((gam Pg (n+1)).F id)):=by
  unfold Hb at h5;simp only[Al,AS,Bh,Ec,Cz,Kx,ne_eq]at h5;obtain⟨⟨⟨⟨⟨⟨⟨⟨c1,c2⟩,c3⟩,c4⟩,c5⟩,c6⟩,c7⟩,c8⟩,c9⟩:=h5;obtain⟨oc,od,dV,kV,doc,pm,an,cdv,ct,osl,rfl,lk,hcd⟩:=h2.ex;refine WV (N:=N) lk hcd ⟨c1,c2,c3,MS c4,c5,c6,c7⟩ (λvs H Q E ⟨ds,A,z,_⟩=>z.trans h4.symm) λA outer s H vs Q E hr ⟨ds,B,hl,hA,hreps,hpost⟩=>?_
  have xt:XT (gam Pg n).up (gam Pg n).xn CL rzs exs K mg:=by rw[wK,wJ];exact t.xt
  have gl:∀ p∈gls,Ol K mg CL p.1 ((gam Pg n).G p.2):=by rw[ba];exact t.gl
  have key:∀ W:XW,(∀ x cls dx H',W x H'->FI K CL H' cls dx x->E cls dx H')->Bs K CL (λb o=>H b=Ab o) B W (evSs (gam Pg n) (BD (Pg.defs id).n ds) (Pg.defs id).body) {nx:=λ_ H'=>Q .non H',rt:=Q} ->
      ∃ t,PSs (GV (CXR P w) P w K mg base N qual (Ff st) f cdv A outer s H E) (Gs st) t/\t {nx:=λ_ H'=>Q .non H',rt:=Q} (start N vs) H:=λW hW hp=>by
    have v:VX (gam Pg n) CL n W ⟨Ff st,N,fns,bl,rzs,exs,gls⟩ (GV (CXR P w) P w K mg base N qual (Ff st) f cdv A outer s H E):=⟨rfl,c1,rfl,MS c4,rfl,hr,t.bln,hlv,ownR,yB hW,rzR hW,xt,gl⟩;exact⟨_,(Rs fuel).ss W _ _ _ (Pg.defs id).body v ⟨λ_=>rfl,rfl,rfl,rfl⟩ c9 (λb o=>H b=Ab o) B,_,fL c8 hA hreps,hp⟩
  have no:∀ x cls dx H',W0 x H'->FI K CL H' cls dx x->E cls dx H':=λ_ _ _ _ z=>z.elim
  have e:(gam Pg (n+1)).F id ds=Ha Pg.xs ((evSs (gam Pg n) (BD (Pg.defs id).n ds) (Pg.defs id).body).ans (Pg.defs id).fr):=rfl;rw[e,wL]at hpost;have cutO:∀ r:R D,(∀ x,r≠.exn x)->Ha Pg.xs r=r:=λr hr=>by
    cases Pg.xs<;>cases r<;>first|rfl|exact absurd rfl (hr _)
  cases eo:evSs (gam Pg n) (BD (Pg.defs id).n ds) (Pg.defs id).body with
  |next Z'=>
    refine key W0 no ?_;rw[eo]at hpost ⊢;cases ef:(Pg.defs id).fr with
    |true=>rw[ef]at hpost;rw[cutO _ (by intro x z;cases z)]at hpost;exact hpost.elim
    |false=>
      rw[ef]at hpost;rw[cutO _ (by intro x z;cases z)]at hpost
      exact λY' H' x'=>hpost .non H' (λb o z=>x'.same b o z) ⟨⟨rfl,λz=>nomatch z⟩,λz=>nomatch z⟩
  |ret d b=>
    refine key W0 no ?_;rw[eo]at hpost ⊢;intro v H' sm rp fr ft;have hp2:(match Ha Pg.xs (if ((Pg.defs id).fr&&(!b&&isL d))=Aa then R.bad else R.ok d) with
      |.ok d=>∀ v H',AB H H'->Ox K CL (Pg.defs id).fr H B H' v d->Q v H'
      |.exn x=>∀ cls dx H',AB H H'->FI K CL H' cls dx x->E cls dx H'
      | .bad=>AU):=hpost
    cases ec:((Pg.defs id).fr&&(!b&&isL d)) with
    |true=>rw[ec,Ax rfl,cutO _ (by intro x z;cases z)]at hp2;exact hp2.elim
    |false=>
      rw[ec,Ay (by decide),cutO _ (by intro x z;cases z)]at hp2
      have nn:∀ a,(∀ o,¬ H a=Ab o)->H a=Af:=λa h=>by
        cases ha:H a with
        |none=>rfl
        |some o=>exact absurd ha (h o)
      have eb:(Pg.defs id).fr=Aa->isL d=Aa->b=Aa:=λe1 e2=>by
        rw[e1,e2]at ec;cases b with
        |true=>rfl
        |false=>cases ec
      refine hp2 v H' sm ⟨⟨rp,λefr es hd=>?_⟩,λefr ds' hd hk=>?_⟩
      · subst hd;obtain⟨a,xs,h1,h2,h3,h4⟩:=fr (eb efr rfl) es rfl;exact⟨a,xs,h1,nn a h2,h3,h4⟩
      · subst hd;exact(ft (eb efr hk)).mono nn ds' rfl hk
  |brk Z'=>rw[eo]at hpost;have hp2:(match Ha Pg.xs (R.bad:R D) with | .ok _=>_ | .exn _=>_ | .bad=>AU):=hpost;rw[cutO _ (by intro x z;cases z)]at hp2;exact hp2.elim
  |cont Z'=>rw[eo]at hpost;have hp2:(match Ha Pg.xs (R.bad:R D) with | .ok _=>_ | .exn _=>_ | .bad=>AU):=hpost;rw[cutO _ (by intro x z;cases z)]at hp2;exact hp2.elim
  |bad=>rw[eo]at hpost;have hp2:(match Ha Pg.xs (R.bad:R D) with | .ok _=>_ | .exn _=>_ | .bad=>AU):=hpost;rw[cutO _ (by intro x z;cases z)]at hp2;exact hp2.elim
  |exn x Z'=>
    rw[eo]at hpost;have hp2:(match Ha Pg.xs (R.exn x:R D) with
      |.ok d=>∀ v H',AB H H'->Ox K CL (Pg.defs id).fr H B H' v d->Q v H'
      |.exn x=>∀ cls dx H',AB H H'->FI K CL H' cls dx x->E cls dx H'
      | .bad=>AU):=hpost
    cases ex:Pg.xs with
    |false=>rw[ex]at hp2;exact hp2.elim
    |true=>
      rw[ex]at hp2;have hp3:∀ cls dx H',AB H H'->FI K CL H' cls dx x->E cls dx H':=hp2;refine key (λy H'=>y=x/\AB H H') (λy cls dx H' ⟨e1,sm⟩ xr=>?_) ?_
      · subst e1;exact hp3 cls dx H' sm xr
      · rw[eo];exact λH' sm=>⟨rfl,sm⟩
theorem wB(t:Tab K mg CL fns bl rzs exs gls Pg fuel){n:Ag}(hlv:∀ q∈fns,Lvl P w K mg base CL Pg n q){st:AN}{f:Ah}{ps N:Ac Ak}{m id:Ag}(h2:FunX K x qual st f fd)(h4:ps.length=m)(h5:Hb fuel Aa fns bl rzs exs gls ps N st (Pg.defs id)=Aa):HotOk P w K mg base (n+1) f fd ps (spH K CL m ((gam Pg (n+1)).fr id) ((gam Pg (n+1)).F id)):=by
 exfalso
 unfold Hb at h5;simp at h5
theorem Qt(t:Tab K mg CL fns bl rzs exs gls Pg fuel):∀ n,∀ p∈fns,Lvl P w K mg base CL Pg n p
 |0,p,hp=>by
  obtain⟨f,fd,ps,qual,st,N,h1,h2,h3,h4,h5,h6⟩:=t.fn p hp;exact⟨f,fd,ps,h1,h2.kp,h3,h4,λ_=>⟨λvs H Q E ⟨ds,A,_,_,_,z⟩=>z.elim,λA outer s H args us vs Q E _ _ _ _ ⟨ds,A,_,_,_,z⟩=>z.elim⟩,λ_=>⟨λvs H Q E ⟨ds,A,_,_,_,z⟩=>z.elim,λA ev outer s H args us vs Q E _ _ _ _ ⟨ds,A,_,_,_,z⟩=>z.elim⟩,h6⟩
 |n+1,p,hp=>by
  obtain⟨f,fd,ps,qual,st,N,h1,h2,h3,h4,h5,h6⟩:=t.fn p hp;refine⟨f,fd,ps,h1,h2.kp,h3,h4,λhlt=>?_,λhge=>?_,h6⟩
  .have eb:Ds 1000 p.2.2=Ad:=by
    cases e:Ds 1000 p.2.2 with
    |false=>rfl
    |true=>exact absurd (EK e) (by omega)
   rw[eb]at h5;exact VS t (λq hq=>Qt t n q hq) h2 h4 h5
  .rw[BG hge]at h5;exact wB t (λq hq=>Qt t n q hq) h2 h4 h5
theorem wH{i:Ae}{u:Cr}(h:mg x=Ab (.int i u)):Ol K mg CL x (.int i):=⟨_,.int i,h,⟨_,rfl⟩,λ_ _=>rfl⟩
theorem vK{s s':Aq}{e:Aj}(h:CXR P w [] H s (λ_ _ _=>AU) e s'):AU:=by
 obtain⟨_,_,_,_,_,_,_,_,_,_,_,_,_,_,_,z⟩:=h;exact z
theorem br(h:∀ ds,xn c ds=.bad\/xn c ds=.ok ⟨c,[]⟩)(e:D8 K C Af=Aa)(ds:Ac D):xn c ds=.bad\/(xn c ds=.ok ⟨c,[]⟩/\D8 K C Af=Aa)\/AU:=(h ds).imp id λz=>.inl ⟨z,e⟩
theorem bo(dc:Lw K C=Aa)(h1:Bq K (.ref C) "triple" = Ab Af)(h2:Bq K (.ref C) "points" = Ab Af)(f:Ak)(h:(f==("triple" : Ak)||f==("points" : Ak))=Aa):Lw K C=Aa/\Bq K (.ref C) f=Ab Af:=by
 rw[Cz]at h;rcases h with h|h
 .rw[eq_of_beq h];exact⟨dc,h1⟩
 .rw[eq_of_beq h];exact⟨dc,h2⟩
structure XA (K:Fg) (c:Ak) (x:Ah) (i:Ao Aj):Prop where
 n:BA K A4 c=Ab (Ab (.ref x))
 y:D8 K x i=Aa
 dc:Lw K x=Aa
 ft:Bq K (.ref x) "triple" = Ab Af
 fp:Bq K (.ref x) "points" = Ab Af
 ok:XcOk K x
theorem xcls_l{x:Ah}(e:IQ K x [.type "ValueError",.type "Exception",.type "BaseException",.type "object"] "ValueError.__new__" = Aa):D8 K x Af=Aa:=iX e
theorem xa_mk{c:Ak}{x:Ah}{i:Ao Aj}(n:BA K A4 c=Ab (Ab (.ref x)))(e:D8 K x i=Aa)(dc:Lw K x=Aa)(ft:Bq K (.ref x) "triple" = Ab Af)(fp:Bq K (.ref x) "points" = Ab Af)(ga:Bq K (.ref x) "__getattribute__" = Ab (Ab (.builtin "BaseException.__getattribute__")))(gt:Bq K (.ref x) "__getattr__" = Ab Af)(cl:Bq K (.ref x) "__class__" = Ab (Ab (.builtin "object.__class__")))(ob:CG K x (.type "object")=Ab Aa)(be:BM K (.ref x) (.type "BaseException")=Ab Aa)(sv:BM K (.ref x) (.type "ValueError")=Ab Aa):XA K c x i:=⟨n,e,dc,ft,fp,xA e ga gt cl ob be sv⟩
structure XE (K:Fg) (c:Ak) (x:Ah):Prop where
 n:BA K A4 c=Ab (Ab (.ref x))
 cs:CG K x (.type "object")=Ab Aa
 ty:FB K (.ref x)=Ab (.type "type")
def SuC(K:Fg)(C:Ah)(l:Ac (Ah×Ai)):Prop:=∀ q∈l,BM K (.ref q.1) (.ref C)=Ab q.2
def KC(K:Fg)(C:Ah):Prop:=∀ x i v,D8 K x i=Aa->BM K (.ref x) (.ref C)=Ab v->CM K (.ref x) (.ref C)=Ab v
theorem XA.kc{c:Ak}{x:Ah}{i:Ao Aj}(a:XA K c x i):KC K x:=λ_ _ _ y s=>pG y a.y s
theorem XE.kc{c:Ak}{x:Ah}(a:XE K c x):KC K x:=λ_ _ _ y s=>gS y a.cs a.ty s
noncomputable def clL:Ac (Ag×Ah)->Ag->Ao Ah
 |[],_=>Af
 |p::r,c=>if Nat.beq c p.1=Aa then Ab p.2 else clL r c
theorem Ml:∀{l:Ac (Ag×Ah)},clL l c=Ab C->(c,C)∈l:=by
 intro l
 induction l with
 |nil=>intro q;cases q
 |cons p r ih=>
  intro q;obtain⟨n,x⟩:=p;by_cases e:Nat.beq c n=Aa
  .cases Nat.eq_of_beq_eq_true e;cases (show Ab x=Ab C from (Ax e).symm.trans q)
   exact AA
  .exact Aw _ (ih ((Ay e).symm.trans q))
structure XR (K:Fg) (mg:Ak->Ao Aj) (xn:Ag->Ac D->R Ex) (p:Ag×Ah):Prop where
 ok:XcOk K p.2
 nf:∀ f:Ak,(f==("triple" : Ak)||f==("points" : Ak))=Aa->Lw K p.2=Aa/\Bq K (.ref p.2) f=Ab Af
 md:∀ ds,xn p.1 ds=.bad\/(xn p.1 ds=.ok ⟨p.1,[]⟩/\D8 K p.2 Af=Aa)\/AU
theorem XA.row{c:Ak}{x:Ah}(a:XA K c x Af)(h:∀ ds,xn k ds=.bad\/xn k ds=.ok ⟨k,[]⟩):XR K mg xn (k,x):=⟨a.ok,bo a.dc a.ft a.fp,br h a.y⟩
theorem wZ{l:Ac (Ag×Ah)}{rzs exs:Ac (Ak×Ag)}(r:∀ p∈l,XR K mg xn p)(rz:∀ p∈rzs,∃ C,clL l p.2=Ab C/\mg p.1=Ab (.ref C))(ex:∀ p∈exs,∃ C,mg p.1=Ab (.ref C)/\KC K C/\SuC K C (l.map λq=>(q.2,(up q.1).contains p.2)))(xb:∀ c,(∀ p∈rzs,p.2≠c)->∀ ds,xn c ds=.bad):XT up xn (clL l) rzs exs K mg:=by
 refine⟨λc C q=>(r _ (Ml q)).ok,rz,λp hp=>?_,λc C ds q=>(r _ (Ml q)).md ds,λc C q=>(r _ (Ml q)).nf,xb⟩
 obtain⟨C,e,kc,su⟩:=ex p hp;have s:∀ c D,clL l c=Ab D->BM K (.ref D) (.ref C)=Ab ((up c).contains p.2):=λc D q=>su _ (XC (f:=λq:Ag×Ah=>(q.2,(up q.1).contains p.2)) (Ml q))
 exact⟨C,e,λc D q=>let ⟨_,y⟩:=(r _ (Ml q)).ok.exc;kc _ _ _ y (s c D q),s⟩
def NL(K:Fg):Sp:=λvs H Q _=>∃(a:Ah)(ns:Ac Ae),vs=[.ref a]/\ns.length<=63/\SqL K H a (ns.map V.int)/\∀ v H',v=V.bl Aa->Q v H'
theorem law_fn{f:Ah}(G:FnOk P w K mg base CX k f fd ps (spD K CL 1 Ad F))(h:∀ ns:Ac Ae,F [.lst (ns.map .int)]=.ok (.bl Aa)):FnOk P w K mg base CX k f fd ps (NL K):=G.imp λvs H Q E ⟨a,ns,e,hl,hS,q⟩=>by
 subst e;have rs:∀ l:Ac Ae,Reps K CL H A0 (l.map V.int) (l.map D.int):=λl=>by
  induction l with
  |nil=>trivial
  |cons x l ih=>exact⟨rfl,ih⟩
 refine⟨[.lst (ns.map .int)],A0,rfl,λ_ z=>z.elim,⟨⟨a,_,rfl,.inl (λz=>z),hS,rs ns⟩,trivial⟩,?_⟩
 rw[h ns];exact λv H' _ r=>q v H' r.1.1
theorem all_nil{Q:α->Prop}:∀ x∈([]:Ac α),Q x:=λ_ h=>nomatch h
theorem all_cons{Q:α->Prop}{a:α}{l:Ac α}(h1:Q a)(h2:∀ x∈l,Q x):∀ x∈a::l,Q x:=List.forall_mem_cons.2 ⟨h1,h2⟩
def FnI(K:Fg)(f:Ah)(n:Ak)(st:AN):Prop:=∃ fd,Fun K n n st f fd/\BA K A4 n=Ab (Ab (.ref f))
theorem fni{n:Ak}{st:AN}{f:Ah}{od an:Ao Ah}{kV doc pm cdv ct:Aj}(a:BA K A4 n=Ab (Ab (.ref f)))(l:K.lookup f=Ab ⟨oc,od,.func (Cm n n (Ht st) (Gs st) (Ff st) .none kV doc pm an cdv ct),osl⟩)(c:EQ K cdv n=Aa)(k:BL K (.ref f)=Aa):FnI K f n st:=⟨_,wM l c k,a⟩
def Bd(n:Ak)(st:AN)(ps:Ac Ak)(us:Ac Aj):Prop:=∀(kV doc pm:Aj)(an:Ao Ah)(cdv ct:Aj),LR (Cm n n (Ht st) (Gs st) (Ff st) .none kV doc pm an cdv ct) ⟨us,[]⟩=pure (ps.zip us)
def FnJ(K:Fg)(f T:Ah)(n:Ak)(st:AN)(v:Ae):Prop:=∃ fd,FunX K n n st f fd/\BA K A4 n=Ab (Ab (.ref f))/\∃(kV doc pm:Aj)(an:Ao Ah)(cdv ct:Aj)(t:Cr)(o:C9)(m:Ag),fd=Cm n n (Ht st) (Gs st) (Ff st) (.ref T) kV doc pm an cdv ct/\K.lookup T=Ab o/\o.data=.seq #[.int v t] m
theorem fnj{n:Ak}{st:AN}{f T:Ah}{v:Ae}{tc:Aj}{od an td:Ao Ah}{tsl:A7 (Ao Aj)}{kV doc pm cdv ct:Aj}{t:Cr}{m:Ag}(a:BA K A4 n=Ab (Ab (.ref f)))(l:K.lookup f=Ab ⟨oc,od,.func (Cm n n (Ht st) (Gs st) (Ff st) (.ref T) kV doc pm an cdv ct),osl⟩)(c:EQ K cdv n=Aa)(k:BL K (.ref f)=Aa)(d:K.lookup T=Ab ⟨tc,td,.seq #[.int v t] m,tsl⟩):FnJ K f T n st v:=
 ⟨_,⟨⟨oc,od,_,kV,doc,pm,an,cdv,ct,osl,rfl,l,c⟩,k⟩,a,kV,doc,pm,an,cdv,ct,t,_,m,rfl,d,rfl⟩
theorem yL{n:Ak}{f T:Ah}{st:AN}{N:Ac Ak}(m id:Ag)(X:K.In h)(G:h.Ns A4 mg)(A:FnJ K f T n st 1)(hl:3=m%1000)(hc:Hb fuel (Ds 1000 m) fns bl rzs exs gls [x0,x1,x2] N st (Pg.defs id)=Aa)(hb:∀(s:Aq)(kV doc pm:Aj)(an:Ao Ah)(cdv ct:Aj)(t:Cr)(o:C9)(i:Ag)(u0 u1 u2:Aj),s.heap.get? T=Ab o->o.data=.seq #[.int 1 t] i->FA s (Cm n n (Ht st) (Gs st) (Ff st) (.ref T) kV doc pm an cdv ct) ⟨[u0,u1,u2],[]⟩ ([x0,x1,x2].zip [u0,u1,u2]))(hb2:∀(s:Aq)(kV doc pm:Aj)(an:Ao Ah)(cdv ct:Aj)(t:Cr)(o:C9)(i:Ag)(u0 u1:Aj),s.heap.get? T=Ab o->o.data=.seq #[.int 1 t] i->FA s (Cm n n (Ht st) (Gs st) (Ff st) (.ref T) kV doc pm an cdv ct) ⟨[u0,u1],[]⟩ ([x0,x1,x2].zip [u0,u1,.int 1 t])):Km K mg fns bl rzs exs gls Pg fuel (n,id,m):=by
  obtain⟨fd,F,a,kV,doc,pm,an,cdv,ct,t,o,i,rfl,lk,od⟩:=A;refine⟨_,_,[x0,x1,x2],_,_,_,Cn X G a,F,λs us X' hl'=>?_,hl,hc,λ_=>⟨t,λs us X' hl'=>?_⟩⟩
  · rw[Bp]at hl' ⊢
    match us,hl' with
    |[u0,u1,u2],_=>exact hb s kV doc pm an cdv ct t o i u0 u1 u2 (X' _ _ lk) od
  · have h2:us.length=2:=by
      rw[AM]at hl';exact XX hl'
    match us,h2 with
    |[u0,u1],_=>exact hb2 s kV doc pm an cdv ct t o i u0 u1 (X' _ _ lk) od
theorem Nt{n:Ak}{f:Ah}{st:AN}{ps N:Ac Ak}(m id:Ag)(X:K.In h)(G:h.Ns A4 mg)(A:FnI K f n st)(hl:ps.length=m%1000)(hc:Hb fuel (Ds 1000 m) fns bl rzs exs gls ps N st (Pg.defs id)=Aa)(hb:∀ us:Ac Aj,us.length=ps.length->Bd n st ps us)(hi:id<100000:=by decide):Km K mg fns bl rzs exs gls Pg fuel (n,id,m):=by
 obtain⟨fd,F,a⟩:=A;exact⟨_,_,_,_,_,_,Cn X G a,WR F,F.binds λkV doc pm an cdv ct us hu=>hb us hu kV doc pm an cdv ct,hl,hc,λz=>absurd z (by show ¬ 100000<=id;omega)⟩
theorem Oo{l:Ac α}(h:l.length=0):l=[]:=List.eq_nil_of_length_eq_zero h
theorem HY{l:Ac α}{n:Ag}(h:l.length=n+1):∃ a r,l=a::r/\r.length=n:=by
 cases l with
 |nil=>cases h
 |cons a r=>exact⟨a,r,rfl,XX h⟩
theorem N8{n:Ak}{f:Ah}{st:AN}{N:Ac Ak}(m id:Ag)(X:K.In h)(G:h.Ns A4 mg)(A:FnI K f n st)(hl:1=m%1000)(hc:Hb fuel (Ds 1000 m) fns bl rzs exs gls [x0] N st (Pg.defs id)=Aa)(hb:∀ u0,Bd n st [x0] [u0])(hi:id<100000:=by decide):Km K mg fns bl rzs exs gls Pg fuel (n,id,m):=
 Nt (ps:=[x0]) (hi:=hi) m id X G A hl hc λus hu=>by obtain⟨u0,v0,rfl,h0⟩:=HY hu;obtain rfl:=Oo h0;exact hb u0
theorem FL{n:Ak}{f:Ah}{st:AN}{N:Ac Ak}(m id:Ag)(X:K.In h)(G:h.Ns A4 mg)(A:FnI K f n st)(hl:2=m%1000)(hc:Hb fuel (Ds 1000 m) fns bl rzs exs gls [x0,x1] N st (Pg.defs id)=Aa)(hb:∀ u0 u1,Bd n st [x0,x1] [u0,u1])(hi:id<100000:=by decide):Km K mg fns bl rzs exs gls Pg fuel (n,id,m):=
 Nt (ps:=[x0,x1]) (hi:=hi) m id X G A hl hc λus hu=>by obtain⟨u0,v0,rfl,h0⟩:=HY hu;obtain⟨u1,v1,rfl,h1⟩:=HY h0;obtain rfl:=Oo h1;exact hb u0 u1
theorem HW{n:Ak}{f:Ah}{st:AN}{N:Ac Ak}(m id:Ag)(X:K.In h)(G:h.Ns A4 mg)(A:FnI K f n st)(hl:3=m%1000)(hc:Hb fuel (Ds 1000 m) fns bl rzs exs gls [x0,x1,x2] N st (Pg.defs id)=Aa)(hb:∀ u0 u1 u2,Bd n st [x0,x1,x2] [u0,u1,u2])(hi:id<100000:=by decide):Km K mg fns bl rzs exs gls Pg fuel (n,id,m):=
 Nt (ps:=[x0,x1,x2]) (hi:=hi) m id X G A hl hc λus hu=>by obtain⟨u0,v0,rfl,h0⟩:=HY hu;obtain⟨u1,v1,rfl,h1⟩:=HY h0;obtain⟨u2,v2,rfl,h2⟩:=HY h1;obtain rfl:=Oo h2;exact hb u0 u1 u2
theorem N7{n:Ak}{f:Ah}{st:AN}{N:Ac Ak}{x3:Ak}(m id:Ag)(X:K.In h)(G:h.Ns A4 mg)(A:FnI K f n st)(hl:4=m%1000)(hc:Hb fuel (Ds 1000 m) fns bl rzs exs gls [x0,x1,x2,x3] N st (Pg.defs id)=Aa)(hb:∀ u0 u1 u2 u3,Bd n st [x0,x1,x2,x3] [u0,u1,u2,u3])(hi:id<100000:=by decide):Km K mg fns bl rzs exs gls Pg fuel (n,id,m):=
 Nt (ps:=[x0,x1,x2,x3]) (hi:=hi) m id X G A hl hc λus hu=>by obtain⟨u0,v0,rfl,h0⟩:=HY hu;obtain⟨u1,v1,rfl,h1⟩:=HY h0;obtain⟨u2,v2,rfl,h2⟩:=HY h1;obtain⟨u3,v3,rfl,h3⟩:=HY h2;obtain rfl:=Oo h3;exact hb u0 u1 u2 u3
end
end Ov
namespace OvC
open PySem Ov
variable{p v m i j at_ N:Ae}{ns:Ac Ae}{n k:Ag}{U:Gam}{acc RL xs:Ac D}{s4 s5 s7 s6 s8:Sl}{Z Z':Rho}{T X LF PP:D}{kv:Ac (Ac Ae×D)}{t:Ai}
noncomputable def Pl:Df:=⟨4,Ad,(.cons (.ret (.call 1 (.cons (.var 0) (.cons (.bin .Add (.bin .Sub (.bin .Mult (.idx (.var 1) (.int 0)) (.bin .Sub (.bin .Mult (.idx (.var 2) (.int 1)) (.idx (.var 3) (.int 2))) (.bin .Mult (.idx (.var 2) (.int 2)) (.idx (.var 3) (.int 1))))) (.bin .Mult (.idx (.var 1) (.int 1)) (.bin .Sub (.bin .Mult (.idx (.var 2) (.int 0)) (.idx (.var 3) (.int 2))) (.bin .Mult (.idx (.var 2) (.int 2)) (.idx (.var 3) (.int 0)))))) (.bin .Mult (.idx (.var 1) (.int 2)) (.bin .Sub (.bin .Mult (.idx (.var 2) (.int 0)) (.idx (.var 3) (.int 1))) (.bin .Mult (.idx (.var 2) (.int 1)) (.idx (.var 3) (.int 0)))))) .nil)))) .nil)⟩
noncomputable abbrev tr(a b c:Ae):D:=.tup [.int a,.int b,.int c]
noncomputable def det(a0 a1 a2 b0 b1 b2 c0 c1 c2:Ae):Ae:=a0*(b1*c2-b2*c1)-a1*(b0*c2-b2*c0)+a2*(b0*c1-b1*c0)
def Sm(x:Ae):Prop:=0<=x/\x<11
theorem Sm.of(h:P4 p)(x:Ae):Sm (x%p):=⟨Bf _ (by have:=h.pos;omega),by have:=Bc x h.pos;have:=h.hi;omega⟩
theorem SN{body:D->Rho->O}(I:Rho->Prop)(g:Ae->Ai):∀(L:Ac Ae),(∀ t∈L,∀ Z,I Z->(g t=Aa/\body (.int t) Z=.ret (.int t) Ad)\/(g t=Ad/\∃ Z',body (.int t) Z=.next Z'/\I Z'))->∀ Z,I Z->(∃ t∈L,g t=Aa/\Bz body (L.map D.int) Z=.ret (.int t) Ad)\/((∀ t∈L,g t=Ad)/\∃ Z',Bz body (L.map D.int) Z=.next Z'/\I Z')
 |[],_,Z,i=>.inr ⟨(λ_ h=>nomatch h),Z,rfl,i⟩
 |m::L,h,Z,i=>by
  rcases h m (AA ..) Z i with ⟨e1,e2⟩|⟨e1,Z',e2,i'⟩
  .refine .inl ⟨m,AA ..,e1,?_⟩;show (body (.int m) Z).turn _=_;rw[e2];rfl
  .rcases SN I g L (λm' h'=>h m' (Aw _ h')) Z' i' with ⟨t,ht,a,b⟩|⟨a,r,b,c⟩
   .refine .inl ⟨t,Aw _ ht,a,?_⟩;show (body (.int m) Z).turn _=_;rw[e2];exact b
   .refine .inr ⟨λt ht=>?_,r,?_,c⟩
    .rcases AD.mp ht with rfl|ht
     .exact e1
     .exact a t ht
    .show (body (.int m) Z).turn _=_;rw[e2];exact b
noncomputable def KH:Ss:=(.cons (.ife (.cmp .Eq (.call 1 (.cons (.var 0) (.cons (.bin .Mult (.var 1) (.var 2)) .nil))) (.int 1)) (.cons (.ret (.var 2)) .nil) .nil) .nil)
noncomputable def MG:Df:=⟨3,Ad,(.cons (.fors 2 (.rng2 (.int 1) (.var 0)) KH) (.cons (.rais 2 (.cons (.str (DI "a number with the rest 0 is not turned over")) .nil)) .nil))⟩
noncomputable def Gu(p:Ae):Ac Ae:=(A1 (p-1).toNat).map fun(k:Ag)=>1+(k:Ae)
theorem KY{t:Ae}:t∈Gu p↔1<=t/\t<p:=by
 unfold Gu;rw[Bk];constructor
 .rintro⟨k,hk,rfl⟩;have:=Bb.mp hk;omega
 .rintro⟨h1,h2⟩;exact⟨(t-1).toNat,Bb.mpr (by omega),by omega⟩
theorem T8(h:P4 p):CA 1 p=.ok ((Gu p).map D.int):=by
 rcases h with rfl|rfl|rfl|rfl<;>rfl
theorem pL:∀ p:Fin 12,(p.val=3\/p.val=5\/p.val=7\/p.val=11)->∀ r:Fin 12,r.val<p.val->r.val≠0->∃ t:Fin 12,1<=t.val/\t.val<p.val/\r.val*t.val%p.val=1:=by decide+kernel
theorem Mo{n:Ae}(h:P4 p)(hn:n%p≠0):∃ t,1<=t/\t<p/\n*t%p=1:=by
 have p0:0<p/\p<12:=by rcases h with rfl|rfl|rfl|rfl<;>decide
 obtain⟨q,rfl⟩:∃ q:Ag,p=q:=⟨p.toNat,by omega⟩
 have h0:=Bf n (b:=(q:Ae)) (by omega)
 have h1:=Bc n p0.1;obtain⟨r,hr⟩:∃ r:Ag,n%(q:Ae)=r:=⟨(n%(q:Ae)).toNat,by omega⟩
 obtain⟨t,t1,t2,t3⟩:=pL ⟨q,by omega⟩ (by rcases h with e|e|e|e<;>simp<;>omega) ⟨r,by omega⟩ (by show r<q;omega) (by show r≠0;omega)
 refine⟨(t.val:Ae),by omega,by show (t.val:Ae)<q;exact Int.ofNat_lt.mpr t2,?_⟩
 have e:((r*t.val%q:Ag):Ae)=1:=by rw[show r*t.val%q=1 from t3];rfl
 rw[<-e,Int.natCast_emod,Int.natCast_mul,<-hr];exact(B0 n _ _).trans (by rw[B0 (n%(q:Ae)) (t.val:Ae) (q:Ae),BN n (CZ _)])
def IJ(p n t:Ae):Prop:=1<=t/\t<p/\n*t%p=1
theorem SY{n t u:Ae}(h1:IJ p n t)(h2:IJ p n u):t=u:=by
 have hp:1<p:=by have:=h1.1;have:=h1.2.1;omega
 have e:t%p=u%p:=by
  have a:t%p=t*(n*u)%p:=by rw[B0,h2.2.2,E9,BN _ (CZ p)]
  have b:u%p=(n*t)*u%p:=by rw[B0 (n*t) u p,h1.2.2,C1,BN _ (CZ p)]
  rw[a,b]
  congr 1
  rw[<-FR,BZ t n]
 rw[A3 (by have:=h1.1;omega) h1.2.1,A3 (by have:=h2.1;omega) h2.2.1]at e
 exact e
theorem DY{c x:Ae}(hp:P4 p)(hc:c%p≠0)(hx:x%p≠0):c*x%p≠0:=λz=>by
 obtain⟨t,_,_,e⟩:=Mo hp hc;refine hx ?_;have e1:x%p=(c*t)*x%p:=by rw[B0 (c*t) x p,e,C1,BN _ (CZ p)]
 rw[e1,show c*t*x=t*(c*x) by rw[BZ c t,FR],B0,z,F8,C7]
noncomputable def Bw(p:Ae):Ac Ae->Ao Ae
 |[]=>Af
 |x::xs=>if x%p=0 then Bw p xs else Ab (x%p)
theorem Pd{p:Ae}:∀{xs:Ac Ae},Bw p xs=Af↔∀ x∈xs,x%p=0
 |[]=>by simp[Bw]
 |x::xs=>by
  unfold Bw;by_cases h:x%p=0
  .rw[Ax h,Pd (xs:=xs)];simp[h]
  .rw[Ay h];simp[h]
theorem MT{p l:Ae}(hp:0<p):∀{xs:Ac Ae},Bw p xs=Ab l->l%p≠0/\0<l/\l<p
 |[],h=>by cases h
 |x::xs,h=>by
  unfold Bw at h;by_cases hx:x%p=0
  .rw[Ax hx]at h;exact MT hp h
  .rw[Ay hx]at h;cases h;have h0:=Bf x (b:=p) (by omega)
   have h1:=Bc x hp;exact⟨by rw[BN _ (CZ p)];exact hx,by omega,h1⟩
theorem M6{p c:Ae}(hp:P4 p)(hc:c%p≠0){f:Ae->Ae}(hf:∀ x,f x%p=c*x%p):∀ xs:Ac Ae,Bw p (xs.map f)=(Bw p xs).map λl=>c*l%p
 |[]=>rfl
 |x::xs=>by
  rw[A8];unfold Bw;rw[hf x];by_cases hx:x%p=0
  .rw[Ax hx,Ax (by rw[B0,hx,F8,C7]),M6 hp hc hf xs]
  .rw[Ay hx,Ay (DY hp hc hx),HF]
   congr 1
   rw[B0 c (x%p),BN _ (CZ p),<-B0]
noncomputable def ds(xs:Ac Ae):Ac D:=xs.map D.int
noncomputable def Dm(b:Ai)(xs:Ac Ae):D:=if b=Aa then .tup (ds xs) else .lst (ds xs)
theorem SU(b xs):Co (Dm b xs)=.ok (ds xs):=by unfold Dm;cases b<;>rfl
theorem K4{g:D->R Ai}{f:D->R D}{φ:Ae->Ae}:∀(xs:Ac Ae),(∀ x∈xs,g (.int x)=.ok Aa/\f (.int x)=.ok (.int (φ x)))->BU g f (ds xs)=.ok (ds (xs.map φ))
 |[],_=>rfl
 |x::xs,h=>by
  obtain⟨h1,h2⟩:=h x (AA ..);show (g (.int x)).bind _=_;rw[h1,R.bind_ok,Ax rfl,h2,R.bind_ok];show (BU g f (ds xs)).bind _=_;rw[K4 xs λy hy=>h y (Aw _ hy)]
  rfl
noncomputable def CT:E:=(.bl Aa)
noncomputable def OX:E:=(.call 1 (.cons (.var 0) (.cons (.var 5) .nil)))
noncomputable def OW:E:=(.call 1 (.cons (.var 0) (.cons (.bin .Mult (.var 4) (.var 6)) .nil)))
noncomputable def Hs:Ss:=(.cons (.ife (.cmp .NotEq (.var 3) (.int 0)) (.cons (.asg 4 Ad (.call 9 (.cons (.var 0) (.cons (.var 3) .nil)))) (.cons (.ret (.bi .tuple (.cons (.comp OW 6 (.e (.var 2)) CT) .nil))) .nil)) .nil) .nil)
noncomputable def MO:Df:=⟨7,Ad,(.cons (.asg 2 Ad (.comp OX 5 (.e (.var 1)) CT)) (.cons (.fors 3 (.e (.var 2)) Hs) (.cons (.rais 3 (.cons (.str (DI "all the numbers have the rest 0")) .nil)) .nil)))⟩
noncomputable def fmI(p t:Ae)(xs:Ac Ae):Ac Ae:=xs.map λx=>t*(x%p)%p
section
variable{U:Gam}{p:Ae}{xs:Ac Ae}{b:Ai}
end
theorem OQ{g:D->R Ai}{f:D->R D}{q:Ae->Ai}:∀(xs:Ac Ae),(∀ x∈xs,g (.int x)=.ok (q x)/\f (.int x)=.ok (.int x))->BU g f (ds xs)=.ok (ds (xs.filter q))
 |[],_=>rfl
 |x::xs,h=>by
  obtain⟨h1,h2⟩:=h x (AA ..);have ih:=OQ xs λy hy=>h y (Aw _ hy)
  show (g (.int x)).bind _=_;rw[h1,R.bind_ok];cases hq:q x with
  |true=>
   rw[Ax rfl,h2,R.bind_ok,DA,hq,Ax rfl];show (BU g f (ds xs)).bind _=_;rw[ih];rfl
  |false=>
   rw[Ay (by decide),DA,hq,Ay (by decide)]
   exact ih
theorem SD{p:Ae}(hp:0<p):∀(xs:Ac Ae),((xs.map λx=>x%p).filter λr=>decide (0<r)).head?=Bw p xs
 |[]=>rfl
 |x::xs=>by
  have h0:=Bf x (b:=p) (by omega)
  unfold Bw;rw[A8,DA];by_cases h:x%p=0
  .rw[Ax h,Ay (by simp[h]),SD hp xs]
  .rw[Ay h,Ax (by simp;omega)]
   rfl
theorem dS{p l t:Ae}(it:IJ p l t):((Gu p).filter λk=>decide (k*l%p=1)).head?=Ab t:=by
 have hm:t∈(Gu p).filter λk=>decide (k*l%p=1):=DO.mpr ⟨KY.mpr ⟨it.1,it.2.1⟩,by simp[BZ t l,it.2.2]⟩
 cases e:(Gu p).filter λk=>decide (k*l%p=1) with
 |nil=>rw[e]at hm;cases hm
 |cons u us=>
  have hu:u∈(Gu p).filter λk=>decide (k*l%p=1):=by rw[e];exact AA ..
  obtain⟨h1,h2⟩:=DO.mp hu;obtain⟨a,b⟩:=KY.mp h1;have h3:u*l%p=1:=by simpa using h2
  rw[SY it ⟨a,b,by rw[BZ];exact h3⟩]
  rfl
theorem S3{xs:Ac Ae}{l:Ae}(h:xs.head?=Ab l):Dx (ds xs) 0=.ok (.int l):=by
 cases xs with
 |nil=>cases h
 |cons x xs=>cases h;exact Pv (by omega) rfl
theorem VQ:∀ xs:Ac Ae,eqDs (ds xs) (ds xs)=Aa
 |[]=>rfl
 |x::xs=>by
  show (eqD (.int x) (.int x)&&eqDs (ds xs) (ds xs))=Aa;rw[VQ xs];simp
noncomputable abbrev own(xs:Ac Ae):Sl:=Ab (.lst (ds xs),Aa)
section
variable{U:Gam}{ns:Ac Ae}{a1 a2 a4 a6 a7 a8 a9 b0 b1 b2 b3 b4:Sl}{p:Ae}
end
section
variable{U:Gam}{ns:Ac Ae}{a1 a4 a6 a7 a8 a9 b2 b3 b4:Sl}{p m:Ae}{xs:Ac Ae}
end
def Cg(p x y:Ae):Prop:=x%p=y%p
section
variable{p a b c d:Ae}
theorem Cg.rfl:Cg p a a:=Eq.refl _
theorem Cg.of(h:a=b):Cg p a b:=by unfold Cg;rw[h]
theorem Cg.trans{a b c:Ae}(h:Cg p a b)(g:Cg p b c):Cg p a c:=FY h g
theorem Cg.symm(h:Cg p a b):Cg p b a:=MC h
theorem Cg.add(h:Cg p a b)(g:Cg p c d):Cg p (a+c) (b+d):=by unfold Cg at *;rw[Xb,h,g,<-Xb]
theorem Cg.sub(h:Cg p a b)(g:Cg p c d):Cg p (a-c) (b-d):=by unfold Cg at *;rw[Xg,h,g,<-Xg]
theorem Cg.mul(h:Cg p a b)(g:Cg p c d):Cg p (a*c) (b*d):=by unfold Cg at *;rw[B0,h,g,<-B0]
theorem Cg.md(h:a=b%p):Cg p a b:=by unfold Cg;rw[h,BN _ (CZ p)]
end
theorem Jl{p a0 a1 a2 b0 b1 b2 c0 c1 c2 x0 x1 x2 y0 y1 y2 z0 z1 z2:Ae}(h0:Cg p a0 x0)(h1:Cg p a1 x1)(h2:Cg p a2 x2)(h3:Cg p b0 y0)(h4:Cg p b1 y1)(h5:Cg p b2 y2)(h6:Cg p c0 z0)(h7:Cg p c1 z1)(h8:Cg p c2 z2):Cg p (a0*(b1*c2-b2*c1)-a1*(b0*c2-b2*c0)+a2*(b0*c1-b1*c0)) (x0*(y1*z2-y2*z1)-x1*(y0*z2-y2*z0)+x2*(y0*z1-y1*z0)):=
 ((h0.mul ((h4.mul h8).sub (h5.mul h7))).sub (h1.mul ((h3.mul h8).sub (h5.mul h6)))).add (h2.mul ((h3.mul h7).sub (h4.mul h6)))
theorem P4.m1(h:P4 p):(-1:Ae)%p≠0:=by rcases h with rfl|rfl|rfl|rfl<;>decide
theorem P4.o1(h:P4 p):(1:Ae)%p≠0:=by rcases h with rfl|rfl|rfl|rfl<;>decide
abbrev R3:=Ae×Ae×Ae
variable{a x' x y r g y':R3}{L pts:Ac R3}
noncomputable def Er(a:R3):D:=.lst [.int a.1,.int a.2.1,.int a.2.2]
noncomputable def At(a b c:R3):Ae:=det a.1 a.2.1 a.2.2 b.1 b.2.1 b.2.2 c.1 c.2.1 c.2.2
def In3(p:Ae)(a:R3):Prop:=(0<=a.1/\a.1<p)/\(0<=a.2.1/\a.2.1<p)/\(0<=a.2.2/\a.2.2<p)
structure GoodR (p:Ae) (a b c:R3):Prop where
 p4:P4 p
 ia:In3 p a
 ib:In3 p b
 ic:In3 p c
 nz:At a b c%p≠0
theorem GoodR.of{k:Ae}{a b c a' b' c':R3}(h:GoodR p a b c)(hk:k%p≠0)(e:Cg p (At a' b' c') (k*At a b c))(hin:In3 p a'/\In3 p b'/\In3 p c'):GoodR p a' b' c':=⟨h.p4,hin.1,hin.2.1,hin.2.2,by rw[show At a' b' c'%p=_ from e];exact DY h.p4 hk h.nz⟩
noncomputable def RA(t:Ae)(a:R3):R3:=(a.1*t,a.2.1*t,a.2.2*t)
noncomputable def GX(t:Ae)(a b:R3):R3:=(a.1+t*b.1,a.2.1+t*b.2.1,a.2.2+t*b.2.2)
noncomputable def mdR(p:Ae)(a:R3):R3:=(a.1%p,a.2.1%p,a.2.2%p)
noncomputable def scR(p t:Ae)(a:R3):R3:=mdR p (RA t a)
noncomputable def adR(p t:Ae)(a b:R3):R3:=mdR p (GX t a b)
theorem N6(h:0<p)(a:R3):In3 p (mdR p a):=⟨⟨Bf _ (by omega),Bc _ h⟩,⟨Bf _ (by omega),Bc _ h⟩,⟨Bf _ (by omega),Bc _ h⟩⟩
theorem xD(h:0<p)(t:Ae)(a:R3):In3 p (scR p t a):=N6 h _
theorem Lq(h:0<p)(t:Ae)(a b:R3):In3 p (adR p t a b):=N6 h _
theorem bH(p t:Ae)(a b c:R3):Cg p (At (scR p t a) b c) (t*At a b c):=by
 refine Cg.trans (b:=At (RA t a) b c) ?_ (Cg.of (by unfold At det RA;grind))
 unfold At det;exact Jl (Cg.md (by rfl)) (Cg.md (by rfl)) (Cg.md (by rfl)) Cg.rfl Cg.rfl Cg.rfl Cg.rfl Cg.rfl Cg.rfl
theorem ZN(p t:Ae)(a b c:R3):Cg p (At (adR p t a b) b c) (1*At a b c):=by
 refine Cg.trans (b:=At (GX t a b) b c) ?_ (Cg.of (by unfold At det GX;grind))
 unfold At det;exact Jl (Cg.md (by rfl)) (Cg.md (by rfl)) (Cg.md (by rfl)) Cg.rfl Cg.rfl Cg.rfl Cg.rfl Cg.rfl Cg.rfl
theorem Z_6(p t:Ae)(a b c:R3):Cg p (At (adR p t a c) b c) (1*At a b c):=by
 refine Cg.trans (b:=At (GX t a c) b c) ?_ (Cg.of (by unfold At det GX;grind))
 unfold At det;exact Jl (Cg.md (by rfl)) (Cg.md (by rfl)) (Cg.md (by rfl)) Cg.rfl Cg.rfl Cg.rfl Cg.rfl Cg.rfl Cg.rfl
theorem Z_5(p t:Ae)(a b c:R3):Cg p (At a (adR p t b a) c) (1*At a b c):=by
 refine Cg.trans (b:=At a (GX t b a) c) ?_ (Cg.of (by unfold At det GX;grind))
 unfold At det;exact Jl Cg.rfl Cg.rfl Cg.rfl (Cg.md (by rfl)) (Cg.md (by rfl)) (Cg.md (by rfl)) Cg.rfl Cg.rfl Cg.rfl
theorem Z_4(p t:Ae)(a b c:R3):Cg p (At a (adR p t b c) c) (1*At a b c):=by
 refine Cg.trans (b:=At a (GX t b c) c) ?_ (Cg.of (by unfold At det GX;grind))
 unfold At det;exact Jl Cg.rfl Cg.rfl Cg.rfl (Cg.md (by rfl)) (Cg.md (by rfl)) (Cg.md (by rfl)) Cg.rfl Cg.rfl Cg.rfl
theorem Z_2(p t:Ae)(a b c:R3):Cg p (At a b (adR p t c a)) (1*At a b c):=by
 refine Cg.trans (b:=At a b (GX t c a)) ?_ (Cg.of (by unfold At det GX;grind))
 unfold At det;exact Jl Cg.rfl Cg.rfl Cg.rfl Cg.rfl Cg.rfl Cg.rfl (Cg.md (by rfl)) (Cg.md (by rfl)) (Cg.md (by rfl))
theorem Z_1(p t:Ae)(a b c:R3):Cg p (At a b (adR p t c b)) (1*At a b c):=by
 refine Cg.trans (b:=At a b (GX t c b)) ?_ (Cg.of (by unfold At det GX;grind))
 unfold At det;exact Jl Cg.rfl Cg.rfl Cg.rfl Cg.rfl Cg.rfl Cg.rfl (Cg.md (by rfl)) (Cg.md (by rfl)) (Cg.md (by rfl))/-! ### draws -/
theorem oA{k:Ae}(h0:0<=k)(h1:k<ns.length):Dx (ns.map D.int) k=.ok (.int (ns.getD k.toNat 0)):=Pv h0 (by
 have:k.toNat<ns.length:=by omega
 simp[this])
noncomputable abbrev ownR(a b c:R3):Sl:=Ab (.lst [Er a,Er b,Er c],Aa)
section
variable{U:Gam}{ns:Ac Ae}{at_ many s5 s0 s1 s2:Sl}{p t m:Ae}{a b c:R3}
end
section
variable{U:Gam}{ns:Ac Ae}{many s5 s6 s7 s8 s9 s0 s1 s2:Sl}{p:Ae}{a b c:R3}
end
noncomputable def GO(a b c:R3):D:=.lst [Er a,Er b,Er c]
noncomputable def OM:E:=(.bin .Mod (.var 5) (.var 0))
noncomputable def OI:E:=(.cmp .Gt (.var 6) (.int 0))
noncomputable def KI:E:=(.var 6)
noncomputable def OH:E:=(.cmp .Eq (.bin .Mod (.bin .Mult (.var 7) (.var 3)) (.var 0)) (.int 1))
noncomputable def OK:E:=(.var 7)
noncomputable def OJ:E:=(.bin .Mod (.bin .Mult (.var 8) (.var 4)) (.var 0))
noncomputable def O0:Df:=⟨9,Ad,(.cons (.asg 2 Ad (.comp OM 5 (.e (.var 1)) CT)) (.cons (.asg 3 Ad (.idx (.comp KI 6 (.e (.var 2)) OI) (.int 0))) (.cons (.asg 4 Ad (.idx (.comp OK 7 (.rng2 (.int 1) (.var 0)) OH) (.int 0))) (.cons (.ret (.bi .tuple (.cons (.comp OJ 8 (.e (.var 2)) CT) .nil))) .nil))))⟩
theorem mW(U:Gam){b:Ai}{xs:Ac Ae}{l t:Ae}(hp:P4 p)(e:Bw p xs=Ab l)(it:IJ p l t):O0.run U [.int p,Dm b xs]=.ok (.tup (ds (fmI p t xs))):=by
 have p0:=hp.pos;have ph:=hp.hi;have c1:BU (cG U [si p,sh (Dm b xs),Af,Af,Af,Af,Af,Af,Af] 5 CT) (cF U [si p,sh (Dm b xs),Af,Af,Af,Af,Af,Af,Af] 5 OM) (ds xs)=.ok (ds (xs.map λx=>x%p)):=by
  refine K4 xs λx _=>⟨rfl,?_⟩
  simp[cF,OM,p0]
 generalize hR:(xs.map λx=>x%p)=rs at c1
 have c2:BU (cG U [si p,sh (Dm b xs),sh (.lst (ds rs)),Af,Af,Af,Af,Af,Af] 6 OI) (cF U [si p,sh (Dm b xs),sh (.lst (ds rs)),Af,Af,Af,Af,Af,Af] 6 KI) (ds rs)=.ok (ds (rs.filter λr=>decide (0<r))):=by
  refine OQ rs λx _=>⟨?_,?_⟩
  .simp[cG,OI]
  .simp[cF,KI]
 have hl:=SD p0 xs;rw[hR,e]at hl;generalize hL:(rs.filter λr=>decide (0<r))=ls at c2 hl
 have g0:=S3 hl;obtain⟨_,l0,l1⟩:=MT p0 e;have c3:BU (cG U [si p,sh (Dm b xs),sh (.lst (ds rs)),si l,Af,Af,Af,Af,Af] 7 OH) (cF U [si p,sh (Dm b xs),sh (.lst (ds rs)),si l,Af,Af,Af,Af,Af] 7 OK) (ds (Gu p))=.ok (ds ((Gu p).filter λk=>decide (k*l%p=1))):=by
  refine OQ (Gu p) λx hx=>⟨?_,?_⟩
  .obtain⟨x1,x2⟩:=KY.mp hx;have m:D7 x l=Aa:=Ix (by omega) (by omega)
   simp[cG,OH,m,p0];rw[Cy];simp
  .simp[cF,OK]
 have g1:=S3 (dS it);have c4:BU (cG U [si p,sh (Dm b xs),sh (.lst (ds rs)),si l,si t,Af,Af,Af,Af] 8 CT) (cF U [si p,sh (Dm b xs),sh (.lst (ds rs)),si l,si t,Af,Af,Af,Af] 8 OJ) (ds rs)=.ok (ds (rs.map λr=>t*r%p)):=by
  refine K4 rs λx _=>⟨rfl,?_⟩
  have m:D7 x t=Aa:=Qf (by have:=it.1;omega) (by have:=it.2.1;omega)
  simp[cF,OJ,m,p0,BZ]
 have ru:CA 1 p=.ok (ds (Gu p)):=T8 hp;have fe:fmI p t xs=rs.map λr=>t*r%p:=by rw[<-hR];simp[fmI,C2,Hc]
 simp[O0,Df.run,BD,SU,c1,c2,g0,ru,c3,g1,c4,fe]
noncomputable def aO(a b c:R3):Ac Ae:=[a.1,a.2.1,a.2.2,b.1,b.2.1,b.2.2,c.1,c.2.1,c.2.2]
noncomputable def fmR(p t:Ae)(a:R3):R3:=(t*(a.1%p)%p,t*(a.2.1%p)%p,t*(a.2.2%p)%p)
def Bd(n:Ag)(x:Ae):Prop:=x.natAbs<2 ^ n
theorem Bd.mul{m:Ag}{x y:Ae}(h:Bd m x)(g:Bd n y):Bd (m+n) (x*y):=by
 unfold Bd at *;rw[Int.natAbs_mul,Nat.pow_add];exact Nat.mul_lt_mul'' h g
theorem Bd.sub{x y:Ae}(h:Bd n x)(g:Bd n y):Bd (n+1) (x-y):=by
 unfold Bd at *;rw[Nat.pow_succ];omega
theorem Lj{m:Ag}{x y:Ae}(h:Bd m x)(g:Bd n y)(hm:m<=2000)(hn:n<=2000):G9 x y=Aa:=by
 unfold G9 Bd at *;rw[Al,AK,AK];exact⟨AG h (ET (by decide) hm),AG g (ET (by decide) hn)⟩
def B3(a:R3):Prop:=Bd 300 a.1/\Bd 300 a.2.1/\Bd 300 a.2.2
noncomputable def Ap(q:Ai)(a:R3):D:=Dm q [a.1,a.2.1,a.2.2]
theorem Hu(q:Ai)(a:R3):EH (Ap q a) (.int 0)=.ok (.int a.1)/\EH (Ap q a) (.int 1)=.ok (.int a.2.1)/\EH (Ap q a) (.int 2)=.ok (.int a.2.2):=by cases q<;>exact⟨rfl,rfl,rfl⟩
def Mf(U:Gam):Prop:=∀(p:Ae)(q:Ai)(a b c:R3),0<p->B3 a->B3 b->B3 c->U.F 61 [.int p,Ap q a,Ap q b,Ap q c]=.ok (.int (At a b c%p))
theorem mU(h:Ld U)(p:Ae)(q:Ai)(a b c:R3)(hp:0<p)(ha:B3 a)(hb:B3 b)(hc:B3 c):Pl.run U [.int p,Ap q a,Ap q b,Ap q c]=.ok (.int (At a b c%p)):=by
 obtain⟨a0,a1,a2⟩:=Hu q a;obtain⟨b0,b1,b2⟩:=Hu q b;obtain⟨c0,c1,c2⟩:=Hu q c;have k:∀ {x y},Bd 300 x->Bd 300 y->G9 x y=Aa:=λhx hy=>Lj hx hy (by decide) (by decide)
 have k2:∀ {x y z u v},Bd 300 x->Bd 300 y->Bd 300 z->Bd 300 u->Bd 300 v->G9 x (y*z-u*v)=Aa:=λhx hy hz hu hv=>Lj hx ((hy.mul hz).sub (hu.mul hv)) (by decide) (by decide)
 simp[Pl,Df.run,BD,a0,a1,a2,b0,b1,b2,c0,c1,c2,k hb.2.1 hc.2.2,k hb.2.2 hc.2.1,k hb.1 hc.2.2,k hb.2.2 hc.1,k hb.1 hc.2.1,k hb.2.1 hc.1,k2 ha.1 hb.2.1 hc.2.2 hb.2.2 hc.2.1,k2 ha.2.1 hb.1 hc.2.2 hb.2.2 hc.1,k2 ha.2.2 hb.1 hc.2.1 hb.2.1 hc.1,h p _ hp];rfl
section
variable{U:Gam}{ns:Ac Ae}{p t:Ae}{a b c r:R3}{made s6 s7:Sl}
end
theorem O3{p:Ae}:∀{xs ys:Ac Ae},xs.map (λx=>x%p)=ys.map (λx=>x%p)->Bw p xs=Bw p ys
 |[],[],_=>rfl
 |x::xs,y::ys,h=>by
  rw[A8,A8,Xm]at h;unfold Bw;rw[h.1,O3 h.2]
 |[],_::_,h=>by simp at h
 |_::_,[],h=>by simp at h
theorem hJ{t:Ae}{xs ys:Ac Ae}(h:xs.map (λx=>x%p)=ys.map (λx=>x%p)):fmI p t xs=fmI p t ys:=by
 have e:∀ zs:Ac Ae,fmI p t zs=(zs.map λx=>x%p).map λr=>t*r%p:=λzs=>by simp[fmI,C2,Hc]
 rw[e,e,h]
theorem bb(hp:0<p)(t:Ae)(a:R3):In3 p (fmR p t a):=⟨⟨Bf _ (by omega),Bc _ hp⟩,⟨Bf _ (by omega),Bc _ hp⟩,⟨Bf _ (by omega),Bc _ hp⟩⟩
section
variable{U:Gam}{ns:Ac Ae}{p m:Ae}{a b c:R3}{fa fb fc:R3}{q:Ai}{s9 s0 s1 s2:Sl}
end
def Pb(U:Gam):Prop:=∀ p n:Ae,P4 p->n%p≠0->∃ t,1<=t/\t<p/\n*t%p=1/\U.F 9 [.int p,.int n]=.ok (.int t)
def Vx(U:Gam):Prop:=∀(p:Ae)(b:Ai)(xs:Ac Ae)(l t:Ae),P4 p->Bw p xs=Ab l->IJ p l t->U.F 17 [.int p,Dm b xs]=.ok (.tup (ds (fmI p t xs)))
theorem dF(hr:Ld U)(p n:Ae)(hp:P4 p)(z:n%p≠0):∃ t,1<=t/\t<p/\n*t%p=1/\MG.run U [.int p,.int n]=.ok (.int t):=by
 have p0:=hp.pos;have ph:=hp.hi;have body:∀ t∈Gu p,∀ Z,(∃ s,Z=[si p,si n,s])->(decide (n*t%p=1)=Aa/\AR U 2 KH (.int t) Z=.ret (.int t) Ad)\/(decide (n*t%p=1)=Ad/\∃ Z',AR U 2 KH (.int t) Z=.next Z'/\∃ s,Z'=[si p,si n,s]):=by
  rintro t ht Z ⟨s,rfl⟩;obtain⟨t1,t2⟩:=KY.mp ht;have m:D7 n t=Aa:=Qf (by omega) (by omega)
  by_cases e:n*t%p=1
  .exact .inl ⟨by simp[e],by simp[AR,KH,hr p (n*t) p0,m,e,Ce]⟩
  .exact .inr ⟨by simp[e],_,by simp[AR,KH,hr p (n*t) p0,m,e];rfl,_,rfl⟩
 have run:∀ o,Bz (AR U 2 KH) ((Gu p).map D.int) [si p,si n,Af]=o->MG.run U [.int p,.int n]=(FM U (.cons (.rais 2 (.cons (.str (DI "a number with the rest 0 is not turned over")) .nil)) .nil) o).ans Ad:=by
  rintro o rfl;simp[MG,Df.run,BD,T8 hp]
 rcases SN (λZ=>∃ s,Z=[si p,si n,s]) (λt=>decide (n*t%p=1)) (Gu p) body [si p,si n,Af] ⟨_,rfl⟩ with ⟨t,ht,a,b⟩|⟨a,r,b,s,rfl⟩
 .obtain⟨t1,t2⟩:=KY.mp ht;have a':n*t%p=1:=by simpa using a
  exact⟨t,t1,t2,a',by rw[run _ b];rfl⟩
 .obtain⟨t,t1,t2,e⟩:=Mo hp z;have:=a t (KY.mpr ⟨t1,t2⟩);simp[e]at this
section
variable{U:Gam}{p:Ae}{xs:Ac Ae}{b:Ai}
theorem Us(hr:Ld U)(ht:Pb U)(hp:P4 p)(rs:Ac Ae):∀(ys:Ac Ae),(∀ y∈ys,0<=y/\y<p)->∀ s3,(Bw p ys=Af->∃ s3',Bz (AR U 3 Hs) (ds ys) [si p,sh (Dm b xs),sh (.lst (ds rs)),s3,Af,Af,Af]=.next [si p,sh (Dm b xs),sh (.lst (ds rs)),s3',Af,Af,Af])/\(∀ l t,Bw p ys=Ab l->IJ p l t->Bz (AR U 3 Hs) (ds ys) [si p,sh (Dm b xs),sh (.lst (ds rs)),s3,Af,Af,Af]=.ret (.tup (ds (rs.map λr=>t*r%p))) Ad)
 |[],_,s3=>⟨λ_=>⟨s3,rfl⟩,(λl t h=>nomatch h)⟩
 |y::ys,hy,s3=>by
  obtain⟨y0,y1⟩:=hy y (AA ..);have ym:y%p=y:=A3 y0 y1;have ih:=Us hr ht hp rs ys (λz hz=>hy z (Aw _ hz)) (si y)
  have step:∀ o,AR U 3 Hs (.int y) [si p,sh (Dm b xs),sh (.lst (ds rs)),s3,Af,Af,Af]=o->Bz (AR U 3 Hs) (ds (y::ys)) [si p,sh (Dm b xs),sh (.lst (ds rs)),s3,Af,Af,Af]=o.turn (Bz (AR U 3 Hs) (ds ys)):=by
   rintro o rfl;rfl
  unfold Bw;rw[ym];by_cases hz:y=0
  .have e:AR U 3 Hs (.int y) [si p,sh (Dm b xs),sh (.lst (ds rs)),s3,Af,Af,Af]=.next [si p,sh (Dm b xs),sh (.lst (ds rs)),si y,Af,Af,Af]:=by
    simp[AR,Hs,hz]
   rw[Ax hz,step _ e];exact ih
  .rw[Ay hz];refine⟨(λz=>nomatch z),λl t e it=>?_⟩
   cases e;obtain⟨u,u1,u2,u3,u4⟩:=ht p y hp (by rw[ym];exact hz)
   have:t=u:=SY it ⟨u1,u2,u3⟩;subst this;have p0:=hp.pos;have ph:=hp.hi;have cp:BU (cG U [si p,sh (Dm b xs),sh (.lst (ds rs)),si y,si t,Af,Af] 6 CT) (cF U [si p,sh (Dm b xs),sh (.lst (ds rs)),si y,si t,Af,Af] 6 OW) (ds rs)=.ok (ds (rs.map λr=>t*r%p)):=by
    refine K4 rs λr _=>⟨rfl,?_⟩
    have m:D7 t r=Aa:=Ix (by omega) (by omega)
    simp[cF,OW,m,hr p (t*r) p0]
   have e:AR U 3 Hs (.int y) [si p,sh (Dm b xs),sh (.lst (ds rs)),s3,Af,Af,Af]=.ret (.tup (ds (rs.map λr=>t*r%p))) Ad:=by
    simp[AR,Hs,hz,u4,cp,Ce]
   rw[step _ e];rfl
theorem mV(hr:Ld U)(ht:Pb U)(hp:P4 p){l t:Ae}(e:Bw p xs=Ab l)(it:IJ p l t):MO.run U [.int p,Dm b xs]=.ok (.tup (ds (fmI p t xs))):=by
 have p0:=hp.pos;have cp:BU (cG U [si p,sh (Dm b xs),Af,Af,Af,Af,Af] 5 CT) (cF U [si p,sh (Dm b xs),Af,Af,Af,Af,Af] 5 OX) (ds xs)=.ok (ds (xs.map λx=>x%p)):=by
  refine K4 xs λx _=>⟨rfl,?_⟩
  simp[cF,OX,hr p x p0]
 have run:∀ o,Bz (AR U 3 Hs) (ds (xs.map λx=>x%p)) [si p,sh (Dm b xs),sh (.lst (ds (xs.map λx=>x%p))),Af,Af,Af,Af]=o->MO.run U [.int p,Dm b xs]=(FM U (.cons (.rais 3 (.cons (.str (DI "all the numbers have the rest 0")) .nil)) .nil) o).ans Ad:=by
  rintro o rfl;simp[MO,Df.run,BD,SU,cp]
 have le:Bw p (xs.map λx=>x%p)=Bw p xs:=by
  have:=M6 (c:=1) hp (by rcases hp with rfl|rfl|rfl|rfl<;>decide) (f:=λx=>x%p) (λx=>by rw[C1,BN _ (CZ p)]) xs
  rw[this];cases e:Bw p xs with
  |none=>rfl
  |some l=>
   obtain⟨_,l0,l1⟩:=MT p0 e;simp[A3 (Int.le_of_lt l0) l1]
 obtain⟨a,c⟩:=Us (b:=b) (xs:=xs) hr ht hp (xs.map λx=>x%p) (xs.map λx=>x%p) (λy hy=>by
  obtain⟨x,_,rfl⟩:=Bk.mp hy;exact⟨Bf _ (by omega),Bc _ p0⟩) Af
 rw[le]at a c;rw[run _ (c l t e it)];simp[fmI,C2,Hc]
end
noncomputable def Jr(t q:Ai)(a b c:R3):D:=if t=Aa then .tup [Ap q a,Ap q b,Ap q c] else .lst [Ap q a,Ap q b,Ap q c]
theorem aJ(t q:Ai)(a b c:R3):Co (Jr t q a b c)=.ok [Ap q a,Ap q b,Ap q c]:=by cases t<;>rfl
noncomputable def Dy(a b c:R3):R3:=(a.1,b.1,c.1)
noncomputable def Dp(a b c:R3):R3:=(a.2.1,b.2.1,c.2.1)
noncomputable def Do(a b c:R3):R3:=(a.2.2,b.2.2,c.2.2)
noncomputable def BF(a x:R3):Ae:=a.1*x.1+a.2.1*x.2.1+a.2.2*x.2.2
noncomputable def crs(a b:R3):R3:=(a.2.1*b.2.2-a.2.2*b.2.1,a.2.2*b.1-a.1*b.2.2,a.1*b.2.1-a.2.1*b.1)
theorem Vf:∀ xs ys:Ac Ae,eqDs (ds xs) (ds ys)=decide (xs=ys)
 |[],[]=>rfl
 |[],_::_=>rfl
 |_::_,[]=>rfl
 |x::xs,y::ys=>by
  show ((x==y)&&eqDs (ds xs) (ds ys))=_;rw[Vf xs ys,Cy];simp
theorem Mj(a b:R3):eqD (Ap Aa a) (Ap Aa b)=decide (a=b):=by
 show eqDs (ds [a.1,a.2.1,a.2.2]) (ds [b.1,b.2.1,b.2.2])=_;rw[Vf,Cy];simp only[Xm,and_true,AK];exact⟨λ⟨h1,h2,h3⟩=>by obtain⟨a1,a2,a3⟩:=a;obtain⟨b1,b2,b3⟩:=b;simp at h1 h2 h3;rw[h1,h2,h3],λh=>by rw[h];exact⟨rfl,rfl,rfl⟩⟩
def pY(U:Gam):Prop:=∀ a b:R3,B3 a->B3 b->a≠b->U.F 23 [Ap Aa a,Ap Aa b]=.ok (Ap Aa (crs a b))
noncomputable def bk0(a b c:R3):R3:=Dy (crs b c) (crs c a) (crs a b)
noncomputable def bk1(a b c:R3):R3:=Dp (crs b c) (crs c a) (crs a b)
noncomputable def bk2(a b c:R3):R3:=Do (crs b c) (crs c a) (crs a b)
theorem NO{x:Ae}(hp:P4 p)(h0:0<=x)(h1:x<p):Bd 10 x:=by
 unfold Bd;have:=hp.hi;omega
theorem Bd.mono{m:Ag}{x:Ae}(h:Bd m x)(hm:m<=n):Bd n x:=AG h (ET (by decide) hm)
def Bn(n:Ag)(a:R3):Prop:=Bd n a.1/\Bd n a.2.1/\Bd n a.2.2
theorem Bn.b3(h:Bn n a)(hn:n<=300):B3 a:=⟨h.1.mono hn,h.2.1.mono hn,h.2.2.mono hn⟩
theorem GB(hp:P4 p)(h:In3 p a):Bn 10 a:=⟨NO hp h.1.1 h.1.2,NO hp h.2.1.1 h.2.1.2,NO hp h.2.2.1 h.2.2.2⟩
theorem wS(a b c:R3):At (bk0 a b c) (bk1 a b c) (bk2 a b c)=At a b c*At a b c:=by
 unfold At det bk0 bk1 bk2 Dy Dp Do crs;grind
noncomputable def Cc(k:Ae)(a:R3):R3:=(k*a.1,k*a.2.1,k*a.2.2)
noncomputable def fk0(p:Ae)(a b c d:R3):Ae:=At d b c%p
noncomputable def fs0(p:Ae)(a b c d:R3):R3:=Cc (fk0 p a b c d) a
noncomputable def JG:Ss:=(.cons (.ife (.cmp .Eq (.call 61 (.cons (.var 0) (.cons (.var 3) (.cons (.idx (.var 1) (.var 4)) (.cons (.idx (.var 1) (.var 5)) .nil))))) (.int 0)) (.cons (.ret (.tup (.cons (.var 3) (.cons (.idx (.var 1) (.var 4)) (.cons (.idx (.var 1) (.var 5)) .nil))))) .nil) .nil) .nil)
noncomputable def KJ:Ss:=(.cons (.fors 5 (.rng2 (.bin .Add (.var 4) (.int 1)) (.bi .len (.cons (.var 1) .nil))) JG) .nil)
noncomputable def HP:Ss:=(.cons (.fors 4 (.rng2 (.bin .Add (.var 2) (.int 1)) (.bi .len (.cons (.var 1) .nil))) KJ) .nil)
noncomputable def O1:Df:=⟨6,Ad,(.cons (.forT [2,3] (.enm (.var 1)) HP) (.cons (.ret .non) .nil))⟩
def Sk(p:Ae)(a b c d:R3):Prop:=At a b c%p≠0/\At a b d%p≠0/\At a c d%p≠0/\At b c d%p≠0
def CgR(p:Ae)(x y:R3):Prop:=Cg p x.1 y.1/\Cg p x.2.1 y.2.1/\Cg p x.2.2 y.2.2
section
variable{p:Ae}{a b c a' b' c' x y z x':R3}{k l m k':Ae}
theorem CgR.rfl:CgR p a a:=⟨Cg.rfl,Cg.rfl,Cg.rfl⟩
theorem CgR.of(h:a=b):CgR p a b:=by rw[h];exact CgR.rfl
theorem CgR.trans(h:CgR p a b)(g:CgR p b c):CgR p a c:=⟨h.1.trans g.1,h.2.1.trans g.2.1,h.2.2.trans g.2.2⟩
theorem CgR.symm(h:CgR p a b):CgR p b a:=⟨h.1.symm,h.2.1.symm,h.2.2.symm⟩
theorem CgR.sc(hk:Cg p k k')(h:CgR p a b):CgR p (Cc k a) (Cc k' b):=⟨hk.mul h.1,hk.mul h.2.1,hk.mul h.2.2⟩
theorem CgR.md(h:a=mdR p b):CgR p a b:=by rw[h];exact⟨Cg.md _root_.rfl,Cg.md _root_.rfl,Cg.md _root_.rfl⟩
theorem Vg(ha:CgR p a a')(hb:CgR p b b')(hc:CgR p c c'):Cg p (At a b c) (At a' b' c'):=by
 unfold At det;exact Jl ha.1 ha.2.1 ha.2.2 hb.1 hb.2.1 hb.2.2 hc.1 hc.2.1 hc.2.2
theorem HQ(ha:CgR p a a')(hb:CgR p b b'):Cg p (BF a b) (BF a' b'):=((ha.1.mul hb.1).add (ha.2.1.mul hb.2.1)).add (ha.2.2.mul hb.2.2)
theorem vO(ha:CgR p a a')(hb:CgR p b b')(hc:CgR p c c'):CgR p (Dy a b c) (Dy a' b' c')/\CgR p (Dp a b c) (Dp a' b' c')/\CgR p (Do a b c) (Do a' b' c'):=⟨⟨ha.1,hb.1,hc.1⟩,⟨ha.2.1,hb.2.1,hc.2.1⟩,⟨ha.2.2,hb.2.2,hc.2.2⟩⟩
theorem vM(ha:CgR p a a')(hb:CgR p b b'):CgR p (crs a b) (crs a' b'):=
 ⟨(ha.2.1.mul hb.2.2).sub (ha.2.2.mul hb.2.1),(ha.2.2.mul hb.1).sub (ha.1.mul hb.2.2),(ha.1.mul hb.2.1).sub (ha.2.1.mul hb.1)⟩
theorem bd(p t:Ae)(a:R3):CgR p (fmR p t a) (Cc t a):=by
 have key:∀ x:Ae,Cg p (t*(x%p)%p) (t*x):=λx=>(Cg.md _root_.rfl).trans (Cg.rfl.mul (Cg.md _root_.rfl))
 exact⟨key _,key _,key _⟩
noncomputable def ap(a b c x:R3):R3:=(BF a x,BF b x,BF c x)
theorem VR(a b c x y z:R3):At (ap a b c x) (ap a b c y) (ap a b c z)=At a b c*At x y z:=by
 unfold At det ap BF;grind
theorem vH(k l m:Ae)(x y z:R3):At (Cc k x) (Cc l y) (Cc m z)=k*l*m*At x y z:=by
 unfold At det Cc;grind
theorem QQ(k l:Ae)(x:R3):Cc k (Cc l x)=Cc (k*l) x:=by
 unfold Cc;simp only[FR]
theorem ZV(a b c x:R3)(k:Ae):ap a b c (Cc k x)=Cc k (ap a b c x):=by
 unfold ap Cc BF;refine Dk ?_ (Dk ?_ ?_)<;>(simp only;grind)
theorem nK(x y z:R3):At (Dy x y z) (Dp x y z) (Do x y z)=At x y z:=by
 unfold At det Dy Dp Do;grind
end
theorem Na(a b:R3):BF a b=BF b a:=by unfold BF;grind
section
variable{p:Ae}{a b c f0 f1 f2 f3 g0 g1 g2 g3:R3}{d0 d1 d2 d3:Ae}
end
section
variable{U:Gam}{ns:Ac Ae}
end
section
variable{U:Gam}{ns:Ac Ae}{many s5 s6 s7 s8 s9 s0 s1 s2:Sl}{p:Ae}{a b c:R3}
end
def InL(p:Ae)(xs:Ac Ae):Prop:=∀ x∈xs,0<=x/\x<p
theorem InL.set{xs:Ac Ae}(h:InL p xs)(k:Ag)(h0:0<=v)(h1:v<p):InL p (xs.set k v):=λx hx=>by
 rcases List.mem_or_eq_of_mem_set hx with z|rfl
 .exact h x z
 .exact⟨h0,h1⟩
section
variable{U:Gam}{ns:Ac Ae}{p at_:Ae}
end
section
variable{U:Gam}{ns:Ac Ae}{p t:Ae}
end
structure C6 where
 c0:Ae
 c1:Ae
 c2:Ae
 c3:Ae
 c4:Ae
 c5:Ae
variable{C:C6}
noncomputable def C6.l(C:C6):Ac Ae:=[C.c0,C.c1,C.c2,C.c3,C.c4,C.c5]
noncomputable def vI(C:C6)(x:R3):Ae:=C.c0*x.1*x.1+C.c1*x.2.1*x.2.1+C.c2*x.2.2*x.2.2+(C.c3*x.1*x.2.1+C.c4*x.1*x.2.2+C.c5*x.2.1*x.2.2)
noncomputable def tw0(C:C6):R3:=(2*C.c0,C.c3,C.c4)
noncomputable def tw1(C:C6):R3:=(C.c3,2*C.c1,C.c5)
noncomputable def tw2(C:C6):R3:=(C.c4,C.c5,2*C.c2)
noncomputable def bI(C:C6)(x y:R3):Ae:=BF (ap (tw0 C) (tw1 C) (tw2 C) x) y
noncomputable def scC(k:Ae)(C:C6):C6:=⟨k*C.c0,k*C.c1,k*C.c2,k*C.c3,k*C.c4,k*C.c5⟩
def CgC(p:Ae)(C D:C6):Prop:=Cg p C.c0 D.c0/\Cg p C.c1 D.c1/\Cg p C.c2 D.c2/\Cg p C.c3 D.c3/\Cg p C.c4 D.c4/\Cg p C.c5 D.c5
noncomputable def pb(C:C6)(a b c:R3):C6:=⟨vI C (Dy a b c),vI C (Dp a b c),vI C (Do a b c),bI C (Dy a b c) (Dp a b c),bI C (Dy a b c) (Do a b c),bI C (Dp a b c) (Do a b c)⟩
section
variable{p:Ae}{C D E:C6}{a b c a' b' c' x y x' y':R3}{k k':Ae}
theorem C6.ext'(h0:C.c0=D.c0)(h1:C.c1=D.c1)(h2:C.c2=D.c2)(h3:C.c3=D.c3)(h4:C.c4=D.c4)(h5:C.c5=D.c5):C=D:=by
 cases C;cases D;simp_all
theorem CgC.rfl:CgC p C C:=⟨Cg.rfl,Cg.rfl,Cg.rfl,Cg.rfl,Cg.rfl,Cg.rfl⟩
theorem CgC.of(h:C=D):CgC p C D:=by rw[h];exact CgC.rfl
theorem CgC.symm(h:CgC p C D):CgC p D C:=⟨h.1.symm,h.2.1.symm,h.2.2.1.symm,h.2.2.2.1.symm,h.2.2.2.2.1.symm,h.2.2.2.2.2.symm⟩
theorem CgC.trans(h:CgC p C D)(g:CgC p D E):CgC p C E:=⟨h.1.trans g.1,h.2.1.trans g.2.1,h.2.2.1.trans g.2.2.1,h.2.2.2.1.trans g.2.2.2.1,h.2.2.2.2.1.trans g.2.2.2.2.1,h.2.2.2.2.2.trans g.2.2.2.2.2⟩
theorem CgC.sc(hk:Cg p k k')(h:CgC p C D):CgC p (scC k C) (scC k' D):=⟨hk.mul h.1,hk.mul h.2.1,hk.mul h.2.2.1,hk.mul h.2.2.2.1,hk.mul h.2.2.2.2.1,hk.mul h.2.2.2.2.2⟩
theorem ND(h:CgC p C D)(hx:CgR p x x'):Cg p (vI C x) (vI D x'):=
 (((((h.1.mul hx.1).mul hx.1).add ((h.2.1.mul hx.2.1).mul hx.2.1)).add ((h.2.2.1.mul hx.2.2).mul hx.2.2))).add ((((h.2.2.2.1.mul hx.1).mul hx.2.1).add ((h.2.2.2.2.1.mul hx.1).mul hx.2.2)).add ((h.2.2.2.2.2.mul hx.2.1).mul hx.2.2))
theorem Ww(h:CgC p C D):CgR p (tw0 C) (tw0 D)/\CgR p (tw1 C) (tw1 D)/\CgR p (tw2 C) (tw2 D):=
 ⟨⟨Cg.rfl.mul h.1,h.2.2.2.1,h.2.2.2.2.1⟩,⟨h.2.2.2.1,Cg.rfl.mul h.2.1,h.2.2.2.2.2⟩,⟨h.2.2.2.2.1,h.2.2.2.2.2,Cg.rfl.mul h.2.2.1⟩⟩
theorem wU(ha:CgR p a a')(hb:CgR p b b')(hc:CgR p c c')(hx:CgR p x x'):CgR p (ap a b c x) (ap a' b' c' x'):=⟨HQ ha hx,HQ hb hx,HQ hc hx⟩
theorem NH(h:CgC p C D)(hx:CgR p x x')(hy:CgR p y y'):Cg p (bI C x y) (bI D x' y'):=
 let ⟨t0,t1,t2⟩:=Ww h
 HQ (wU t0 t1 t2 hx) hy
theorem zH(h:CgC p C D)(ha:CgR p a a')(hb:CgR p b b')(hc:CgR p c c'):CgC p (pb C a b c) (pb D a' b' c'):=
 let ⟨s0,s1,s2⟩:=vO ha hb hc
 ⟨ND h s0,ND h s1,ND h s2,NH h s0 s1,NH h s0 s2,NH h s1 s2⟩
theorem Nr(k l:Ae)(C:C6):scC k (scC l C)=scC (k*l) C:=by
 unfold scC;simp only[FR]
theorem Ni(C:C6):scC 1 C=C:=by unfold scC;simp only[C1]
theorem zG(k:Ae)(C:C6)(a b c:R3):pb (scC k C) a b c=scC k (pb C a b c):=by
 unfold pb scC vI bI ap tw0 tw1 tw2 BF;refine C6.ext' ?_ ?_ ?_ ?_ ?_ ?_<;>(simp only;grind)
theorem VA(C:C6)(x y z:R3)(k l m:Ae):vI C (k*x.1+l*y.1+m*z.1,k*x.2.1+l*y.2.1+m*z.2.1,k*x.2.2+l*y.2.2+m*z.2.2)=k*k*vI C x+l*l*vI C y+m*m*vI C z+(k*l*bI C x y+k*m*bI C x z+l*m*bI C y z):=by
 unfold vI bI ap tw0 tw1 tw2 BF;simp only;grind
theorem VZ(C:C6)(x y z w:R3)(k l m:Ae):bI C (k*x.1+l*y.1+m*z.1,k*x.2.1+l*y.2.1+m*z.2.1,k*x.2.2+l*y.2.2+m*z.2.2) w=k*bI C x w+l*bI C y w+m*bI C z w:=by
 unfold bI ap tw0 tw1 tw2 BF;simp only;grind
theorem JY(C:C6)(x y:R3):bI C x y=bI C y x:=by
 unfold bI ap tw0 tw1 tw2 BF;simp only;grind
theorem K9(C:C6)(x:R3):bI C x x=2*vI C x:=by
 unfold vI bI ap tw0 tw1 tw2 BF;simp only;grind
theorem bv(v0 v1 v2 b0 b1 b2:Ae)(u w:R3):bI ⟨v0,v1,v2,b0,b1,b2⟩ u w=u.1*(w.1*(2*v0)+w.2.1*b0+w.2.2*b1)+u.2.1*(w.1*b0+w.2.1*(2*v1)+w.2.2*b2)+u.2.2*(w.1*b1+w.2.1*b2+w.2.2*(2*v2)):=by
 unfold bI ap tw0 tw1 tw2 BF;simp only;grind
theorem bL(C:C6)(s0 s1 s2 u w:R3):bI C (u.1*s0.1+u.2.1*s1.1+u.2.2*s2.1,u.1*s0.2.1+u.2.1*s1.2.1+u.2.2*s2.2.1,u.1*s0.2.2+u.2.1*s1.2.2+u.2.2*s2.2.2) (w.1*s0.1+w.2.1*s1.1+w.2.2*s2.1,w.1*s0.2.1+w.2.1*s1.2.1+w.2.2*s2.2.1,w.1*s0.2.2+w.2.1*s1.2.2+w.2.2*s2.2.2)=bI ⟨vI C s0,vI C s1,vI C s2,bI C s0 s1,bI C s0 s2,bI C s1 s2⟩ u w:=by
 have e:∀ s:R3,bI C s (w.1*s0.1+w.2.1*s1.1+w.2.2*s2.1,w.1*s0.2.1+w.2.1*s1.2.1+w.2.2*s2.2.1,w.1*s0.2.2+w.2.1*s1.2.2+w.2.2*s2.2.2)=w.1*bI C s0 s+w.2.1*bI C s1 s+w.2.2*bI C s2 s:=λs=>(JY C _ _).trans (VZ C s0 s1 s2 s w.1 w.2.1 w.2.2)
 refine FY ?_ (bv _ _ _ _ _ _ u w).symm;rw[VZ,e,e,e,K9 C s0,K9 C s1,K9 C s2,JY C s1 s0,JY C s2 s0,JY C s2 s1]
theorem vJ(C:C6)(a b c:R3):At (tw0 (pb C a b c)) (tw1 (pb C a b c)) (tw2 (pb C a b c))=At a b c*At a b c*At (tw0 C) (tw1 C) (tw2 C):=by
 have row:∀ s:R3,(bI C s (Dy a b c),bI C s (Dp a b c),bI C s (Do a b c))=ap (Dy a b c) (Dp a b c) (Do a b c) (ap (tw0 C) (tw1 C) (tw2 C) s):=λs=>by
  unfold bI;rw[Na,Na _ (Dp a b c),Na _ (Do a b c)];rfl
 have e0:tw0 (pb C a b c)=(bI C (Dy a b c) (Dy a b c),bI C (Dy a b c) (Dp a b c),bI C (Dy a b c) (Do a b c)):=by rw[K9];rfl
 have e1:tw1 (pb C a b c)=(bI C (Dp a b c) (Dy a b c),bI C (Dp a b c) (Dp a b c),bI C (Dp a b c) (Do a b c)):=by rw[K9,JY C (Dp a b c) (Dy a b c)];rfl
 have e2:tw2 (pb C a b c)=(bI C (Do a b c) (Dy a b c),bI C (Do a b c) (Dp a b c),bI C (Do a b c) (Do a b c)):=by rw[K9,JY C (Do a b c) (Dy a b c),JY C (Do a b c) (Dp a b c)];rfl
 rw[e0,e1,e2,row,row,row,VR,VR,nK];grind
theorem oV(k:Ae)(C:C6):At (tw0 (scC k C)) (tw1 (scC k C)) (tw2 (scC k C))=k*k*k*At (tw0 C) (tw1 C) (tw2 C):=by
 rw[<-vH];unfold tw0 tw1 tw2 scC Cc;simp only[<-FR,BZ 2 k]
def PrC(p:Ae)(C D:C6):Prop:=∃ d,d%p≠0/\CgC p C (scC d D)
theorem PrC.rfl(hp:P4 p):PrC p C C:=⟨1,hp.o1,CgC.of (Ni C).symm⟩
theorem PrC.trans(hp:P4 p)(i:PrC p C D)(j:PrC p D E):PrC p C E:=by
 obtain⟨d,dz,e⟩:=i;obtain⟨d',dz',e'⟩:=j;exact⟨d*d',DY hp dz dz',e.trans ((CgC.sc Cg.rfl e').trans (CgC.of (Nr _ _ _)))⟩
theorem QE(hp:P4 p)(dz:k%p≠0):∃ u,u%p≠0/\Cg p (u*k) 1:=by
 obtain⟨u,u1,u2,u3⟩:=Mo hp dz;refine⟨u,by rw[A3 (by omega) u2];omega,?_⟩
 show u*k%p=1%p;rw[BZ,u3,A3 (by decide) (by have:=hp.lo;omega)]
theorem PrC.symm(hp:P4 p)(i:PrC p C D):PrC p D C:=by
 obtain⟨d,dz,e⟩:=i;obtain⟨u,uz,o⟩:=QE hp dz;refine⟨u,uz,?_⟩;have q:=CgC.sc (k:=u) (k':=u) Cg.rfl e;rw[Nr]at q;exact(q.trans ((CgC.sc o CgC.rfl).trans (CgC.of (Ni D)))).symm
theorem PrC.pb(i:PrC p C D):PrC p (OvC.pb C a b c) (OvC.pb D a b c):=by
 obtain⟨d,dz,e⟩:=i;exact⟨d,dz,(zH e CgR.rfl CgR.rfl CgR.rfl).trans (CgC.of (zG d D a b c))⟩
def InC(p:Ae)(C:C6):Prop:=∀ x∈C.l,0<=x/\x<p
end
structure BC (C:C6):Prop where
 b0:Bd 10 C.c0
 b1:Bd 10 C.c1
 b2:Bd 10 C.c2
 b3:Bd 10 C.c3
 b4:Bd 10 C.c4
 b5:Bd 10 C.c5
theorem InC.b(hp:P4 p)(h:InC p C):BC C:=by
 have k:∀ x∈C.l,Bd 10 x:=λx hx=>NO hp (h x hx).1 (h x hx).2
 exact⟨k _ (by simp[C6.l]),k _ (by simp[C6.l]),k _ (by simp[C6.l]),k _ (by simp[C6.l]),k _ (by simp[C6.l]),k _ (by simp[C6.l])⟩
noncomputable def t0(p:Ae)(C:C6):R3:=(2*C.c0%p,C.c3,C.c4)
noncomputable def t1(p:Ae)(C:C6):R3:=(C.c3,2*C.c1%p,C.c5)
noncomputable def t2(p:Ae)(C:C6):R3:=(C.c4,C.c5,2*C.c2%p)
section
variable{U:Gam}{ns:Ac Ae}{p at_:Ae}{φ:Ae->Ae}
end
noncomputable def e0R:R3:=(1,0,0)
noncomputable def e1R:R3:=(0,1,0)
noncomputable def e2R:R3:=(0,0,1)
noncomputable def e3R:R3:=(1,1,1)
theorem bG(hp:P4 p):In3 p e0R/\In3 p e1R/\In3 p e2R/\In3 p e3R:=by
 have z:0<=(0:Ae)/\(0:Ae)<p:=⟨by decide,hp.pos⟩
 have o:0<=(1:Ae)/\(1:Ae)<p:=⟨by decide,by have:=hp.lo;omega⟩
 exact⟨⟨o,z,z⟩,⟨z,o,z⟩,⟨z,z,o⟩,⟨o,o,o⟩⟩
theorem ZZ(hp:P4 p):Sk p e0R e1R e2R e3R:=by
 rcases hp with rfl|rfl|rfl|rfl<;>exact⟨by decide,by decide,by decide,by decide⟩
def Pr(p:Ae)(x y:R3):Prop:=∃ d,d%p≠0/\CgR p x (Cc d y)
section
variable{p:Ae}{a b c x y z f g h:R3}{k:Ae}
theorem Mm(x:R3):Cc 1 x=x:=by unfold Cc;simp only[C1]
theorem Pr.rfl(hp:P4 p):Pr p x x:=⟨1,hp.o1,CgR.of (Mm x).symm⟩
theorem Pr.trans(hp:P4 p)(i:Pr p x y)(j:Pr p y z):Pr p x z:=by
 obtain⟨d,dz,e⟩:=i;obtain⟨d',dz',e'⟩:=j;exact⟨d*d',DY hp dz dz',e.trans ((CgR.sc Cg.rfl e').trans (CgR.of (QQ _ _ _)))⟩
theorem Pr.symm(hp:P4 p)(i:Pr p x y):Pr p y x:=by
 obtain⟨d,dz,e⟩:=i;obtain⟨u,u1,u2,u3⟩:=Mo hp dz;have uz:u%p≠0:=by rw[A3 (by omega) u2];omega
 have o:Cg p (u*d) 1:=by
  show u*d%p=1%p;rw[BZ,u3,A3 (by decide) (by have:=hp.lo;omega)]
 refine⟨u,uz,?_⟩;have q:=CgR.sc (k:=u) (k':=u) Cg.rfl e;rw[QQ]at q;exact(q.trans ((CgR.sc o CgR.rfl).trans (CgR.of (Mm y)))).symm
theorem Pr.cg(hp:P4 p)(e:CgR p x y):Pr p x y:=⟨1,hp.o1,e.trans (CgR.of (Mm y).symm)⟩
theorem Rj{a' b' c':R3}(ha:CgR p a a')(hb:CgR p b b')(hc:CgR p c c')(hx:CgR p x x'):CgR p (ap a b c x) (ap a' b' c' x'):=⟨HQ ha hx,HQ hb hx,HQ hc hx⟩
theorem Pr.ap(i:Pr p x y):Pr p (OvC.ap a b c x) (OvC.ap a b c y):=by
 obtain⟨d,dz,e⟩:=i;exact⟨d,dz,(Rj CgR.rfl CgR.rfl CgR.rfl e).trans (CgR.of (ZV a b c y d))⟩
theorem WY(a b c v:R3):ap (bk0 a b c) (bk1 a b c) (bk2 a b c) (ap a b c v)=Cc (At a b c) v:=by
 unfold ap Cc BF bk0 bk1 bk2 Dy Dp Do crs At det;refine Dk ?_ (Dk ?_ ?_)<;>(simp only;grind)
end
noncomputable def tri(g:R3):Ac Ae:=[g.1,g.2.1,g.2.2]
theorem Vo(hp:P4 p)(ix:In3 p x)(iy:In3 p y)(lx:Bw p (tri x)=Ab 1)(ly:Bw p (tri y)=Ab 1)(h:Pr p x y):x=y:=by
 obtain⟨d,dz,e⟩:=h;have p1:1<p:=by have:=hp.lo;omega
 have rs:(tri x).map (λx=>x%p)=((tri y).map λx=>d*x).map (λx=>x%p):=by
  simp only[tri,A8,IR];rw[show x.1%p=d*y.1%p from e.1,show x.2.1%p=d*y.2.1%p from e.2.1,show x.2.2%p=d*y.2.2%p from e.2.2]
 have el:=M6 hp dz (f:=λx=>d*x) (λ_=>rfl) (tri y)
 rw[ly,<-O3 rs,lx,HF,Cp,E9]at el;have o:Cg p d 1:=by
  show d%p=1%p;rw[<-el,A3 (by decide) p1]
 have q:=e.trans ((CgR.sc o CgR.rfl).trans (CgR.of (Mm y)));have same:∀{u v:Ae},(0<=u/\u<p)->(0<=v/\v<p)->Cg p u v->u=v:=λhu hv huv=>by
  have:=show _%p=_%p from huv
  rwa [A3 hu.1 hu.2,A3 hv.1 hv.2]at this
 exact Dk (same ix.1 iy.1 q.1) (Dk (same ix.2.1 iy.2.1 q.2.1) (same ix.2.2 iy.2.2 q.2.2))
structure Led (p:Ae) (a b c f0 f1 f2 f3 g0 g1 g2 g3:R3):Prop where
 h0:Pr p g0 (ap a b c f0)
 h1:Pr p g1 (ap a b c f1)
 h2:Pr p g2 (ap a b c f2)
 h3:Pr p g3 (ap a b c f3)
section
variable{p:Ae}{a b c a' b' c' f0 f1 f2 f3 g0 g1 g2 g3 h0 h1 h2 h3:R3}
end
section
variable{U:Gam}{ns:Ac Ae}{p:Ae}
theorem pP(hp:P4 p):GoodR p e0R e1R e2R/\Bw p (aO e0R e1R e2R)=Ab 1:=by
 obtain⟨i0,i1,i2,i3⟩:=bG hp;refine⟨⟨hp,i0,i1,i2,(ZZ hp).1⟩,?_⟩;rcases hp with rfl|rfl|rfl|rfl<;>decide
end
noncomputable def L3(a b c:R3):Ac D:=[Er a,Er b,Er c]
def Ij(i j:Ae):Prop:=(i=0/\j=1)\/(i=0/\j=2)\/(i=1/\j=0)\/(i=1/\j=2)\/(i=2/\j=0)\/(i=2/\j=1)
theorem aw(hi:m%3=i)(hj:(i+1+m/3%2)%3=j):Ij i j:=by
 have i3:i=0\/i=1\/i=2:=by omega
 have e2:m/3%2=0\/m/3%2=1:=by omega
 rcases i3 with z|z|z<;>rcases e2 with e|e<;>rw[z,e]at hj
 .exact .inl ⟨z,hj.symm⟩
 .exact .inr (.inl ⟨z,hj.symm⟩)
 .exact .inr (.inr (.inr (.inl ⟨z,hj.symm⟩)))
 .exact .inr (.inr (.inl ⟨z,hj.symm⟩))
 .exact .inr (.inr (.inr (.inr (.inl ⟨z,hj.symm⟩))))
 .exact .inr (.inr (.inr (.inr (.inr ⟨z,hj.symm⟩))))
def Jm(U:Gam)(mid:Ag)(ns:Ac Ae):Prop:=∀ k:Ae,0<=k->∃ m,0<=m/\U.F mid [scr ns,.int k]=.ok (.int m)
section
variable{U:Gam}{ns:Ac Ae}{mid:Ag}{p:Ae}{a b c:R3}{s2 s4 s5 s6 s7 s8:Sl}
end
theorem JO{lo hi:Ae}(h1:-1000<=lo)(h2:lo<=1000)(h3:-1000<=hi)(h4:hi<=1000):CA lo hi=.ok (Ci lo (hi-lo).toNat):=by
 unfold CA;rw[Ax (by refine⟨⟨by omega,by omega⟩,⟨by omega,by omega⟩,?_⟩;omega)]
theorem VI(h:1<p):Bw p [0,0,1]=Ab 1:=by
 simp[Bw,A3 (by decide:(0:Ae)<=1) h]
theorem bw(h:1<p)(z:Ae):Bw p [0,1,z]=Ab 1:=by
 simp[Bw,A3 (by decide:(0:Ae)<=1) h]
theorem RW(h:1<p)(y z:Ae):Bw p [1,y,z]=Ab 1:=by
 simp[Bw,A3 (by decide:(0:Ae)<=1) h]
theorem PD{p l:Ae}(hp:P4 p)(el:Bw p (tri r)=Ab l):∃ u,IJ p l u/\In3 p (fmR p u r)/\Bw p (tri (fmR p u r))=Ab 1/\Pr p (fmR p u r) r/\fmI p u (tri r)=tri (fmR p u r):=by
 have p0:=hp.pos;obtain⟨lz,_,_⟩:=MT p0 el;obtain⟨t,t1,t2,t3⟩:=Mo hp lz;have tz:t%p≠0:=by rw[A3 (by omega) t2];omega
 have ff:∀ x,(t*(x%p)%p)%p=t*x%p:=λx=>by rw[BN _ (CZ p),B0 t (x%p) p,BN _ (CZ p),<-B0]
 have lv:=M6 hp tz (f:=λx=>t*(x%p)%p) ff (tri r)
 rw[el,HF,BZ,t3]at lv;exact⟨t,⟨t1,t2,t3⟩,bb p0 t r,lv,⟨t,tz,bd p t r⟩,rfl⟩
theorem TW(h:Bw p (tri g)=Af):CgR p g (0,0,0):=by
 have hz:=Pd.mp h;have k:∀ x∈tri g,Cg p x 0:=λx hx=>by show x%p=0%p;rw[hz x hx,C7]
 exact⟨k _ (by simp[tri]),k _ (by simp[tri]),k _ (by simp[tri])⟩
theorem T7(h:CgR p g (0,0,0)):Bw p (tri g)=Af:=by
 refine Pd.mpr λx hx=>?_
 have k:∀{x:Ae},Cg p x 0->x%p=0:=λ{x} h=>by rw[show x%p=_ from h,C7]
 simp only[tri,AD,Bm,CV]at hx;rcases hx with rfl|rfl|rfl
 .exact k h.1
 .exact k h.2.1
 .exact k h.2.2
theorem La{p l:Ae}{a b c f g:R3}(hp:P4 p)(z:At a b c%p≠0)(lf:Bw p (tri f)=Ab l)(h:CgR p g (ap a b c f)):∃ l,Bw p (tri g)=Ab l:=by
 cases el:Bw p (tri g) with
 |some l=>exact⟨l,rfl⟩
 |none=>
  have q0:CgR p (ap a b c f) (0,0,0):=h.symm.trans (TW el);have q1:CgR p (Cc (At a b c) f) (0,0,0):=by
   have:=Rj (CgR.rfl (a:=bk0 a b c)) (CgR.rfl (a:=bk1 a b c)) (CgR.rfl (a:=bk2 a b c)) q0;rw[WY]at this;refine this.trans (CgR.of ?_);unfold ap BF;simp
  obtain⟨u,uz,o⟩:=QE hp z;have q2:CgR p f (0,0,0):=by
   have w:=CgR.sc (k:=u) (k':=u) Cg.rfl q1;rw[QQ]at w;refine((CgR.of (Mm f).symm).trans (CgR.sc o.symm CgR.rfl)).trans (w.trans (CgR.of ?_));unfold Cc;simp
  rw[T7 q2]at lf;cases lf
theorem NA(x:R3):flD 5 (Ap Aa x)=Aa/\eqD (Ap Aa x) (Ap Aa x)=Aa:=by
 refine⟨rfl,?_⟩;show eqDs (ds [x.1,x.2.1,x.2.2]) (ds [x.1,x.2.1,x.2.2])=Aa;rw[VQ]
section
variable{U:Gam}{ns:Ac Ae}{p:Ae}{C:C6}{s3 s4 s5 s6 s7 s8:Sl}
end
section
variable{U:Gam}{ns:Ac Ae}
end
noncomputable def QM:Df:=⟨3,Ad,(.cons (.ret (.call 17 (.cons (.var 0) (.cons (.call 23 (.cons (.var 1) (.cons (.var 2) .nil))) .nil)))) .nil)⟩
theorem iE{a b:R3}(hp:P4 p)(h:CgR p (crs a b) (0,0,0))(la:Bw p (tri a)=Ab 1)(lb:Bw p (tri b)=Ab 1):Pr p b a:=by
 obtain⟨h0,h1,h2⟩:=h;have p1:1<p:=by have:=hp.lo;omega
 have sw:∀{x y:Ae},Cg p (x-y) 0->Cg p x y:=λ{x y} h=>by
  have:=h.add (Cg.rfl (a:=y))
  rwa [Xf,DF]at this
 have e0:Cg p (a.2.1*b.2.2) (a.2.2*b.2.1):=sw h0;have e1:Cg p (a.2.2*b.1) (a.1*b.2.2):=sw h1;have e2:Cg p (a.1*b.2.1) (a.2.1*b.1):=sw h2;have one:∀{x:Ae},x%p=1->Cg p x 1:=λ{x} h=>by show x%p=1%p;rw[h,A3 (by decide) p1]
 have fin:∀ k,CgR p b (Cc k a)->Pr p b a:=λk hk=>by
  refine⟨k,λz=>?_,hk⟩
  have:CgR p b (0,0,0):=by
   have kz:Cg p k 0:=by show k%p=0%p;rw[z,C7]
   refine hk.trans ((CgR.sc kz CgR.rfl).trans (CgR.of ?_));unfold Cc;simp
  rw[T7 this]at lb;cases lb
 unfold tri Bw at la;by_cases z0:a.1%p=0
 .rw[Ax z0]at la;have c0:Cg p a.1 0:=by show a.1%p=0%p;rw[z0,C7]
  unfold Bw at la;by_cases z1:a.2.1%p=0
  .rw[Ax z1]at la;have c1:Cg p a.2.1 0:=by show a.2.1%p=0%p;rw[z1,C7]
   unfold Bw at la;by_cases z2:a.2.2%p=0
   .rw[Ax z2]at la;cases la
   .rw[Ay z2,Cp]at la;have c2:=one la;refine fin b.2.2 ⟨?_,?_,?_⟩
    .have:=(c2.symm.mul (Cg.rfl (a:=b.1))).trans e1;rw[C1]at this;exact this.trans (Cg.of (BZ _ _))
    .have:=(c2.symm.mul (Cg.rfl (a:=b.2.1))).trans e0.symm;rw[C1]at this;exact this.trans (Cg.of (BZ _ _))
    .have:=(Cg.rfl (a:=b.2.2)).mul c2;rw[E9]at this;exact this.symm
  .rw[Ay z1,Cp]at la;have c1:=one la;refine fin b.2.1 ⟨?_,?_,?_⟩
   .have:=(c1.symm.mul (Cg.rfl (a:=b.1))).trans e2.symm;rw[C1]at this;exact this.trans (Cg.of (BZ _ _))
   .have:=(Cg.rfl (a:=b.2.1)).mul c1;rw[E9]at this;exact this.symm
   .have:=(c1.symm.mul (Cg.rfl (a:=b.2.2))).trans e0;rw[C1]at this;exact this.trans (Cg.of (BZ _ _))
 .rw[Ay z0,Cp]at la;have c0:=one la;refine fin b.1 ⟨?_,?_,?_⟩
  .have:=(Cg.rfl (a:=b.1)).mul c0;rw[E9]at this;exact this.symm
  .have:=(c0.symm.mul (Cg.rfl (a:=b.2.1))).trans e2;rw[C1]at this;exact this.trans (Cg.of (BZ _ _))
  .have:=(c0.symm.mul (Cg.rfl (a:=b.2.2))).trans e1.symm;rw[C1]at this;exact this.trans (Cg.of (BZ _ _))
def QP(U:Gam):Prop:=∀(p:Ae)(a b:R3),P4 p->In3 p a->In3 p b->Bw p (tri a)=Ab 1->Bw p (tri b)=Ab 1->a≠b->∃ y,In3 p y/\Bw p (tri y)=Ab 1/\Pr p y (crs a b)/\U.F 57 [.int p,Ap Aa a,Ap Aa b]=.ok (Ap Aa y)
theorem uN(hc:pY U)(hf:Vx U)(p:Ae)(a b:R3)(hp:P4 p)(ia:In3 p a)(ib:In3 p b)(la:Bw p (tri a)=Ab 1)(lb:Bw p (tri b)=Ab 1)(ne:a≠b):∃ y,In3 p y/\Bw p (tri y)=Ab 1/\Pr p y (crs a b)/\QM.run U [.int p,Ap Aa a,Ap Aa b]=.ok (Ap Aa y):=by
 have e1:=hc a b ((GB hp ia).b3 (by decide)) ((GB hp ib).b3 (by decide)) ne
 cases el:Bw p (tri (crs a b)) with
 |none=>exact absurd (Vo hp ib ia lb la (iE hp (TW el) la lb)).symm ne
 |some l=>
  obtain⟨u,iu,j,l1,pr,ef⟩:=PD hp el;have e2:=hf p Aa _ l u hp el iu;rw[ef]at e2;have e2':U.F 17 [.int p,Ap Aa (crs a b)]=.ok (Ap Aa (fmR p u (crs a b))):=e2;refine⟨_,j,l1,pr,?_⟩;generalize Ap Aa (fmR p u (crs a b))=Y_ at *;simp[QM,Df.run,BD,e1,e2']
theorem Nx{k x:Ae}(hp:P4 p)(kz:k%p≠0):k*x%p=0↔x%p=0:=by
 constructor
 .intro z;exact Classical.byContradiction λn=>DY hp kz n z
 .intro z;rw[B0,z,F8,C7]
theorem yG(hp:P4 p)(hx:Pr p x x')(hy:Pr p y y'):(BF x y%p=0)↔(BF x' y'%p=0):=by
 obtain⟨d,dz,e⟩:=hx;obtain⟨d',dz',e'⟩:=hy;have q:Cg p (BF x y) (d*d'*BF x' y'):=(HQ e e').trans (Cg.of (by unfold BF Cc;simp only;grind))
 rw[show BF x y%p=_ from q]
 exact Nx hp (DY hp dz dz')
section
variable{U:Gam}{ns:Ac Ae}{p:Ae}{C:C6}{s3 s4 s5 s6 s7 s8:Sl}
end
def NF(p:Ae)(x:R3):Prop:=In3 p x/\Bw p (tri x)=Ab 1
noncomputable def ptI(p n:Ae):R3:=if n=0 then (0,0,1) else if n<=p then (0,1,n-1) else (1,(n-p-1)/p,(n-p-1)%p)
noncomputable def Dc(p:Ae):Ac R3:=(A1 (p*p+p+1).toNat).map fun(n:Ag)=>ptI p n
theorem zA{n:Ae}(hp:P4 p)(h0:0<=n)(h1:n<p*p+p+1):NF p (ptI p n):=by
 have p1:1<p:=by have:=hp.lo;omega
 have p0:=hp.pos;unfold ptI;by_cases z:n=0
 .rw[Ax z];exact⟨⟨⟨by decide,p0⟩,⟨by decide,p0⟩,⟨by decide,p1⟩⟩,VI p1⟩
 .rw[Ay z];by_cases z1:n<=p
  .rw[Ax z1];exact⟨⟨⟨HJ 0,p0⟩,⟨(by decide:(0:Ae)<=1),p1⟩,⟨by show 0<=n-1;omega,by show n-1<p;omega⟩⟩,bw p1 _⟩
  .rw[Ay z1];have d0:0<=(n-p-1)/p:=Int.ediv_nonneg (by omega) (by omega)
   have d1:(n-p-1)/p<p:=by rw[Int.ediv_lt_iff_lt_mul p0];omega
   exact⟨⟨⟨(by decide:(0:Ae)<=1),p1⟩,⟨d0,d1⟩,⟨Bf _ (by omega),Bc _ p0⟩⟩,RW p1 _ _⟩
theorem bn(hp:P4 p)(h:NF p x):∃ n:Ae,0<=n/\n<p*p+p+1/\x=ptI p n:=by
 obtain⟨⟨i0,i1,i2⟩,l⟩:=h;have p1:1<p:=by have:=hp.lo;omega
 have p0:=hp.pos;have pp:=JA p0 p0;obtain⟨x0,x1,x2⟩:=x;simp only at i0 i1 i2;unfold tri Bw at l;simp only at l;rw[A3 i0.1 i0.2]at l;by_cases z0:x0=0
 .rw[Ax z0]at l;unfold Bw at l;rw[A3 i1.1 i1.2]at l;by_cases z1:x1=0
  .rw[Ax z1]at l;unfold Bw at l;rw[A3 i2.1 i2.2]at l;by_cases z2:x2=0
   .rw[Ax z2]at l;cases l
   .rw[Ay z2,Cp]at l;exact⟨0,HJ 0,by omega,by rw[z0,z1,l];rfl⟩
  .rw[Ay z1,Cp]at l;refine⟨x2+1,by omega,by omega,?_⟩
   unfold ptI;rw[Ay (by omega),Ax (by omega),z0,l,Int.add_sub_cancel]
 .rw[Ay z0,Cp]at l;have m1:p*x1<=p*(p-1):=Int.mul_le_mul_of_nonneg_left (by omega) (by omega)
  have m0:0<=p*x1:=Xc (by omega) i1.1
  rw[Xd,E9]at m1;refine⟨p+1+p*x1+x2,by omega,by omega,?_⟩
  unfold ptI;have e:p+1+p*x1+x2-p-1=x2+p*x1:=by omega
  rw[Ay (by omega),Ay (by omega),e,Int.add_mul_ediv_left _ _ (by omega),Int.ediv_eq_zero_of_lt i2.1 i2.2,Int.add_mul_emod_self_left,A3 i2.1 i2.2,DF,l]
theorem K7(hp:P4 p):x∈Dc p↔NF p x:=by
 have p0:=hp.pos;have pp:=JA p0 p0;constructor
 .intro h;obtain⟨n,hn,rfl⟩:=Bk.mp h;have:=Bb.mp hn;exact zA hp (by omega) (by omega)
 .intro h;obtain⟨n,n0,n1,rfl⟩:=bn hp h;refine Bk.mpr ⟨n.toNat,Bb.mpr (by omega),?_⟩
  rw[Xh n0]
theorem Tt{α β:Type}{f:α->β}:∀{l:Ac α},l.Nodup->(∀ x∈l,∀ y∈l,f x=f y->x=y)->(l.map f).Nodup
 |[],_,_=>H9
 |x::l,nd,h=>by
  obtain⟨n1,n2⟩:=Fk.mp nd;rw[A8,List.nodup_cons];refine⟨λm=>?_,Tt n2 λy hy z hz=>h y (Aw _ hy) z (Aw _ hz)⟩
  obtain⟨y,hy,e⟩:=Bk.mp m;have:=h y (Aw _ hy) x AA e;exact n1 (this ▸ hy)
noncomputable def nrm(p:Ae)(r:R3):R3:=open Classical in if h:∃ y,NF p y/\Pr p y r then Xa h else r
theorem KW{p l:Ae}(hp:P4 p)(el:Bw p (tri r)=Ab l):NF p (nrm p r)/\Pr p (nrm p r) r:=by
 have h:∃ y,NF p y/\Pr p y r:=by
  obtain⟨u,iu,j,l1,pr,_⟩:=PD hp el;exact⟨_,⟨j,l1⟩,pr⟩
 unfold nrm;rw[dif_pos h];exact DN h
theorem Uv{a b c x:R3}(hp:P4 p)(z:At a b c%p≠0)(hx:NF p x):NF p (nrm p (ap a b c x))/\Pr p (nrm p (ap a b c x)) (ap a b c x):=by
 obtain⟨l,el⟩:=La hp z hx.2 CgR.rfl;exact KW hp el
theorem Ny(hp:P4 p)(hx:NF p x)(hy:NF p y)(h:Pr p x y):x=y:=Vo hp hx.1 hy.1 hx.2 hy.2 h
theorem Tw{a b c x:R3}(hp:P4 p)(z:At a b c%p≠0)(hx:NF p x):nrm p (ap (bk0 a b c) (bk1 a b c) (bk2 a b c) (nrm p (ap a b c x)))=x:=by
 obtain⟨h1,h2⟩:=Uv hp z hx;have zB:At (bk0 a b c) (bk1 a b c) (bk2 a b c)%p≠0:=by rw[wS];exact DY hp z z
 obtain⟨h3,h4⟩:=Uv hp zB h1;refine Ny hp h3 hx (h4.trans hp ((Pr.ap h2).trans hp ?_));rw[WY];exact⟨_,z,CgR.rfl⟩
noncomputable def q4(w:Ag)(k:Ae)(y:R3):Ae:=match w with
  |0=>y.1*y.2.2-y.2.1*y.2.1
  |1=>y.1*y.1
  |2=>y.1*y.2.1
  |_=>y.1*y.1-k*(y.2.1*y.2.1)
noncomputable def As(pts:Ac R3):D:=.lst (pts.map (Ap Aa))
theorem Ta{g:D->R Ai}{f:D->R D}{q:R3->Ai}:∀(xs:Ac R3),(∀ x∈xs,g (Ap Aa x)=.ok (q x)/\f (Ap Aa x)=.ok (Ap Aa x))->BU g f (xs.map (Ap Aa))=.ok ((xs.filter q).map (Ap Aa))
 |[],_=>rfl
 |x::xs,h=>by
  obtain⟨h1,h2⟩:=h x (AA ..);have ih:=Ta xs λy hy=>h y (Aw _ hy)
  show (g (Ap Aa x)).bind _=_;rw[h1,R.bind_ok,DA];cases hq:q x with
  |true=>
   rw[Ax rfl,Ax rfl,h2,R.bind_ok,show BU g f (JD (Ap Aa) xs)=_ from ih]
   rfl
  |false=>
   rw[Ay (by decide),Ay (by decide)]
   exact ih
noncomputable def cN:Ss:=(.cons (.app 1 (.tup (.cons (.int 0) (.cons (.int 1) (.cons (.var 2) .nil))))) .nil)
noncomputable def cO:E:=(.tup (.cons (.int 1) (.cons (.var 3) (.cons (.var 4) .nil))))
noncomputable def cM:Ss:=(.cons (.ext 1 (.comp cO 4 (.rng (.var 0)) CT)) .nil)
noncomputable def Tb:Df:=⟨5,Aa,(.cons (.asg 1 Aa (.lst (.cons (.tup (.cons (.int 0) (.cons (.int 0) (.cons (.int 1) .nil)))) .nil))) (.cons (.fors 2 (.rng (.var 0)) cN) (.cons (.fors 3 (.rng (.var 0)) cM) (.cons (.ret (.var 1)) .nil))))⟩
theorem yP(U:Gam)(p:Ae)(hp:P4 p):Tb.run U [.int p]=.ok (As (Dc p)):=by
 rcases hp with rfl|rfl|rfl|rfl<;>kernel_rfl!
section
variable{U:Gam}{p i j k d N:Ae}{PP x y u:D}{RL:Ac D}{s t s' t' v:Sl}
end
section
variable{U:Gam}{p:Ae}{pts:Ac R3}
end
theorem kP(h:tri x=tri y):x=y:=by
 obtain⟨x0,x1,x2⟩:=x;obtain⟨y0,y1,y2⟩:=y;unfold tri at h;simp at h;obtain⟨rfl,rfl,rfl⟩:=h;rfl
theorem vL(k l:Ae)(a b:R3):crs (Cc k a) (Cc l b)=Cc (k*l) (crs a b):=by
 unfold crs Cc;simp only;refine Dk ?_ (Dk ?_ ?_)<;>(simp only;grind)
theorem Pr.crs{a b a' b':R3}(hp:P4 p)(h:Pr p a a')(g:Pr p b b'):Pr p (OvC.crs a b) (OvC.crs a' b'):=by
 obtain⟨d,dz,e⟩:=h;obtain⟨d',dz',e'⟩:=g;exact⟨d*d',DY hp dz dz',(vM e e').trans (CgR.of (vL ..))⟩
noncomputable def QL:Df:=⟨3,Ad,(.cons (.ret (.cmp .Eq (.call 1 (.cons (.var 0) (.cons (.bin .Add (.bin .Add (.bin .Mult (.idx (.var 1) (.int 0)) (.idx (.var 2) (.int 0))) (.bin .Mult (.idx (.var 1) (.int 1)) (.idx (.var 2) (.int 1)))) (.bin .Mult (.idx (.var 1) (.int 2)) (.idx (.var 2) (.int 2)))) .nil))) (.int 0))) .nil)⟩
def VF(U:Gam):Prop:=∀(p:Ae)(x y:R3),P4 p->In3 p x->In3 p y->U.F 24 [.int p,Ap Aa x,Ap Aa y]=.ok (.bl (decide (BF x y%p=0)))
theorem uM(hr:Ld U)(p:Ae)(x y:R3)(hp:P4 p)(ix:In3 p x)(iy:In3 p y):QL.run U [.int p,Ap Aa x,Ap Aa y]=.ok (.bl (decide (BF x y%p=0))):=by
 have p0:=hp.pos;have bx:=GB hp ix;have by_:=GB hp iy;have k:∀ {u v},Bd 10 u->Bd 10 v->G9 u v=Aa:=λhu hv=>Lj hu hv (by decide) (by decide)
 have k0:=k bx.1 by_.1;have k1:=k bx.2.1 by_.2.1;have k2:=k bx.2.2 by_.2.2;obtain⟨x0,x1,x2⟩:=Hu Aa x;obtain⟨y0,y1,y2⟩:=Hu Aa y;have e:=hr p (BF x y) p0;unfold BF at *;generalize x.1=a0 at *;generalize x.2.1=a1 at *;generalize x.2.2=a2 at *;generalize y.1=b0 at *;generalize y.2.1=b1 at *;generalize y.2.2=b2 at *;generalize Ap Aa x=xx at *;generalize Ap Aa y=yy at *;generalize hs:(a0*b0+a1*b1+a2*b2)%p=s at *;simp[QL,Df.run,BD,x0,x1,x2,y0,y1,y2,k0,k1,k2,e];rw[Cy];simp
noncomputable def Oq:Df:=⟨3,Ad,(.cons (.ret (.call 24 (.cons (.var 0) (.cons (.var 1) (.cons (.var 2) .nil))))) .nil)⟩
def QO(U:Gam):Prop:=∀(p:Ae)(x y:R3),P4 p->In3 p x->In3 p y->U.F 56 [.int p,Ap Aa x,Ap Aa y]=.ok (.bl (decide (BF x y%p=0)))
theorem uK(h:VF U)(p:Ae)(x y:R3)(hp:P4 p)(ix:In3 p x)(iy:In3 p y):Oq.run U [.int p,Ap Aa x,Ap Aa y]=.ok (.bl (decide (BF x y%p=0))):=by
 have e:=h p x y hp ix iy;generalize Ap Aa x=xx at *;generalize Ap Aa y=yy at *;simp[Oq,Df.run,BD,e]
noncomputable abbrev Whl(p:Ae)(C:C6):Prop:=At (tw0 C) (tw1 C) (tw2 C)%p≠0
noncomputable def b4(u v:R3):Ae:=u.1*v.2.2+u.2.2*v.1-2*(u.2.1*v.2.1)
section
variable{p:Ae}{a b c:R3}{C:C6}
end
noncomputable def MJ:Df:=⟨2,Ad,(.cons (.asg 1 Ad (.bin .Mod (.var 1) (.bin .Add (.bin .Add (.bin .Mult (.var 0) (.var 0)) (.var 0)) (.int 1)))) (.cons (.ife (.cmp .Eq (.var 1) (.int 0)) (.cons (.ret (.tup (.cons (.int 0) (.cons (.int 0) (.cons (.int 1) .nil))))) .nil) .nil) (.cons (.ife (.cmp .LtE (.var 1) (.var 0)) (.cons (.ret (.tup (.cons (.int 0) (.cons (.int 1) (.cons (.bin .Sub (.var 1) (.int 1)) .nil))))) .nil) .nil) (.cons (.ret (.tup (.cons (.int 1) (.cons (.bin .FloorDiv (.bin .Sub (.bin .Sub (.var 1) (.var 0)) (.int 1)) (.var 0)) (.cons (.bin .Mod (.bin .Sub (.bin .Sub (.var 1) (.var 0)) (.int 1)) (.var 0)) .nil))))) .nil))))⟩
theorem pN{n:Ae}(hp:P4 p):0<p*p+p+1/\0<=n%(p*p+p+1)/\n%(p*p+p+1)<p*p+p+1:=by
 have p0:=hp.pos;have N0:0<p*p+p+1:=by have:=JA p0 p0;omega
 exact⟨N0,Bf n (Xe N0),Bc n N0⟩
theorem uH(U:Gam)(p n:Ae)(hp:P4 p):MJ.run U [.int p,.int n]=.ok (Ap Aa (ptI p (n%(p*p+p+1)))):=by
 have pp:D7 p p=Aa:=Ix (by have:=hp.lo;omega) (by have:=hp.hi;omega)
 have p0:=hp.pos;have ph:=hp.hi;obtain⟨N0,h0,h1⟩:=pN (n:=n) hp;have pb:p<1073741824:=by omega
 generalize hr:n%(p*p+p+1)=r at *;unfold ptI;by_cases z0:r=0
 .rw[Ax z0];simp[MJ,Df.run,BD,pp,N0,hr,z0];rfl
 .rw[Ay z0];by_cases z1:r<=p
  .rw[Ax z1];simp[MJ,Df.run,BD,pp,N0,hr,z0,z1];rfl
  .rw[Ay z1];simp[MJ,Df.run,BD,pp,N0,hr,z0,z1,p0,pb];rfl
theorem QV(C:C6)(a b c x:R3):vI (pb C a b c) x=vI C (ap a b c x):=by
 have e:ap a b c x=(x.1*(Dy a b c).1+x.2.1*(Dp a b c).1+x.2.2*(Do a b c).1,x.1*(Dy a b c).2.1+x.2.1*(Dp a b c).2.1+x.2.2*(Do a b c).2.1,x.1*(Dy a b c).2.2+x.2.1*(Dp a b c).2.2+x.2.2*(Do a b c).2.2):=by
  unfold ap BF Dy Dp Do;simp only;refine Dk ?_ (Dk ?_ ?_)<;>(simp only;grind)
 rw[e,VA];have e2:∀(u0 u1 u2 u3 u4 u5:Ae),vI ⟨u0,u1,u2,u3,u4,u5⟩ x=x.1*x.1*u0+x.2.1*x.2.1*u1+x.2.2*x.2.2*u2+(x.1*x.2.1*u3+x.1*x.2.2*u4+x.2.1*x.2.2*u5):=λu0 u1 u2 u3 u4 u5=>by
  unfold vI;simp only;grind
 exact e2 ..
theorem V2(C:C6)(k:Ae)(x:R3):vI C (Cc k x)=k*k*vI C x:=by
 unfold vI Cc;simp only;grind
theorem QU(hp:P4 p)(h:Pr p x y):vI C x%p=0↔vI C y%p=0:=by
 obtain⟨d,dz,e⟩:=h;have q:=(ND (D:=C) ⟨Cg.rfl,Cg.rfl,Cg.rfl,Cg.rfl,Cg.rfl,Cg.rfl⟩ e).trans (Cg.of (V2 C d y));rw[show vI C x%p=_ from q]
 exact Nx hp (DY hp dz dz)
section
variable{p:Ae}{a b c:R3}{C:C6}
end
theorem Uu(l:Ac R3):biD .len [As l]=.ok (.int (l.length:Ae)):=by
 show R.ok (D.int ((l.map (Ap Aa)).length:Ag))=_;rw[A9]
noncomputable def aN(p:Ae)(C:C6)(l:R3):R3:=nrm p (ap (bk0 (tw0 C) (tw1 C) (tw2 C)) (bk1 (tw0 C) (tw1 C) (tw2 C)) (bk2 (tw0 C) (tw1 C) (tw2 C)) l)
structure FOn (p:Ae) (C:C6) (A B P U_:R3):Prop where
 vA:vI C A%p=0
 vB:vI C B%p=0
 vU:vI C U_%p=0
 bA:bI C A P%p=0
 bB:bI C B P%p=0
theorem vN(A B P x:R3):Cc (At A B P) x=(At x B P*A.1+At A x P*B.1+At A B x*P.1,At x B P*A.2.1+At A x P*B.2.1+At A B x*P.2.1,At x B P*A.2.2+At A x P*B.2.2+At A B x*P.2.2):=by
 unfold Cc At det;refine Dk ?_ (Dk ?_ ?_)<;>(simp only;grind)
section
variable{p:Ae}{C R:C6}{A B P U_ x:R3}
theorem cg0{k x:Ae}(h:x%p=0):Cg p (k*x) 0:=by
 show k*x%p=0%p;rw[B0,h,F8]
theorem U_1(h:FOn p C A B P U_)(x:R3):Cg p (At A B P*At A B P*vI C x) (At A B x*At A B x*vI C P+At x B P*At A x P*bI C A B):=by
 have e:=VA C A B P (At x B P) (At A x P) (At A B x);rw[<-vN,V2]at e;rw[e];generalize At x B P=α;generalize At A x P=β;generalize At A B x=γ;have k1:Cg p (α*α*vI C A) 0:=cg0 h.vA;have k2:Cg p (β*β*vI C B) 0:=cg0 h.vB;have k3:Cg p (α*γ*bI C A P) 0:=cg0 h.bA;have k4:Cg p (β*γ*bI C B P) 0:=cg0 h.bB;refine(((k1.add k2).add Cg.rfl).add ((Cg.rfl.add k3).add k4)).trans (Cg.of ?_);grind
theorem QT(h:FOn p C A B P U_)(x:R3):Cg p (At A B U_*At A B U_*(At A B P*At A B P*vI C x)) (bI C A B*(At A B U_*At A B U_*(At x B P*At A x P)-At A B x*At A B x*(At U_ B P*At A U_ P))):=by
 have e1:=U_1 h x;have e2:=U_1 h U_;have e0:Cg p (At A B P*At A B P*vI C U_) 0:=cg0 h.vU;have e3:Cg p (At A B U_*At A B U_*vI C P+At U_ B P*At A U_ P*bI C A B) 0:=e2.symm.trans e0;generalize At A B P=D at *;generalize At x B P=α at *;generalize At A x P=β at *;generalize At A B x=γ at *;generalize At U_ B P=α0 at *;generalize At A U_ P=β0 at *;generalize At A B U_=γ0 at *;generalize bI C A B=b at *;generalize vI C P=v at *;generalize vI C x=vx at *;have e4:Cg p (γ0*γ0*(D*D*vx)) (γ0*γ0*(γ*γ*v+α*β*b)):=Cg.rfl.mul e1;have e5:Cg p (γ*γ*(γ0*γ0*v+α0*β0*b)) (γ*γ*0):=Cg.rfl.mul e3;refine e4.trans ?_;have e6:γ0*γ0*(γ*γ*v+α*β*b)=γ*γ*(γ0*γ0*v+α0*β0*b)+b*(γ0*γ0*(α*β)-γ*γ*(α0*β0)):=by grind
 rw[e6];refine(e5.add Cg.rfl).trans (Cg.of ?_);grind
theorem VW{k x y:Ae}(hp:P4 p)(kz:k%p≠0)(h:Cg p (k*x) (k*y)):Cg p x y:=by
 have e:k*(x-y)%p=0:=by
  have q:=h.sub (Cg.rfl (p:=p) (a:=k*y));have q2:(k*x-k*y)%p=(k*y-k*y)%p:=q;rw[Int.sub_self,C7,<-Xd]at q2;exact q2
 have z:=(Nx hp kz).mp e;have q3:=Cg.add (p:=p) (a:=x-y) (b:=0) (c:=y) (d:=y) (by show (x-y)%p=0%p;rw[z,C7]) Cg.rfl
 have q4:Cg p (x-y+y) (0+y):=q3;rw[Xf,DF]at q4;exact q4
theorem sD(hp:P4 p)(d1:At A B P%p≠0)(d2:At A B U_%p≠0)(hC:FOn p C A B P U_)(hR:FOn p R A B P U_)(x:R3):Cg p (bI C A B*vI R x) (bI R A B*vI C x):=by
 have e1:=QT hC x;have e2:=QT hR x;generalize (At A B U_*At A B U_*(At x B P*At A x P)-At A B x*At A B x*(At U_ B P*At A U_ P))=F at *;refine VW hp (k:=At A B U_*At A B U_*(At A B P*At A B P)) (DY hp (DY hp d2 d2) (DY hp d1 d1)) ?_;generalize At A B U_=γ at *;generalize At A B P=D at *;generalize bI C A B=b at *;generalize bI R A B=r at *;have f1:Cg p (b*(γ*γ*(D*D*vI R x))) (b*(r*F)):=Cg.rfl.mul e2;have f2:Cg p (r*(γ*γ*(D*D*vI C x))) (r*(b*F)):=Cg.rfl.mul e1;refine(Cg.of (by grind)).trans (f1.trans ((Cg.of (by grind:b*(r*F)=r*(b*F))).trans (f2.symm.trans (Cg.of (by grind)))))
theorem VY{k l:Ae}(h:∀ x,Cg p (k*vI R x) (l*vI C x)):CgC p (scC k R) (scC l C):=by
 have a0:=h (1,0,0);have a1:=h (0,1,0);have a2:=h (0,0,1);have b0:=h (1,1,0);have b1:=h (1,0,1);have b2:=h (0,1,1);have v0:∀ E:C6,vI E (1,0,0)=E.c0:=λE=>by unfold vI;simp
 have v1:∀ E:C6,vI E (0,1,0)=E.c1:=λE=>by unfold vI;simp
 have v2:∀ E:C6,vI E (0,0,1)=E.c2:=λE=>by unfold vI;simp
 have w0:∀ E:C6,vI E (1,1,0)=E.c0+E.c1+E.c3:=λE=>by unfold vI;simp
 have w1:∀ E:C6,vI E (1,0,1)=E.c0+E.c2+E.c4:=λE=>by unfold vI;simp
 have w2:∀ E:C6,vI E (0,1,1)=E.c1+E.c2+E.c5:=λE=>by unfold vI;simp
 rw[v0,v0]at a0;rw[v1,v1]at a1;rw[v2,v2]at a2;rw[w0,w0]at b0;rw[w1,w1]at b1;rw[w2,w2]at b2;refine⟨a0,a1,a2,?_,?_,?_⟩
 .have:=(b0.sub a0).sub a1;refine(Cg.of ?_).trans (this.trans (Cg.of ?_))<;>(unfold scC;simp only;grind)
 .have:=(b1.sub a0).sub a2;refine(Cg.of ?_).trans (this.trans (Cg.of ?_))<;>(unfold scC;simp only;grind)
 .have:=(b2.sub a1).sub a2;refine(Cg.of ?_).trans (this.trans (Cg.of ?_))<;>(unfold scC;simp only;grind)
theorem Sd(hp:P4 p)(w:Whl p C)(d1:At A B P%p≠0)(d2:At A B U_%p≠0)(hC:FOn p C A B P U_):bI C A B%p≠0:=λz=>by
 refine w ?_;have v0:∀ x,Cg p (1*vI C x) (0*vI C x):=λx=>by
  rw[C1,Xi];refine VW hp (k:=At A B U_*At A B U_*(At A B P*At A B P)) (DY hp (DY hp d2 d2) (DY hp d1 d1)) ?_;have e1:=QT hC x;refine(Cg.of (by grind)).trans (e1.trans ?_)
  rw[F8];show _%p=0%p;rw[B0,z,Xi]
 have c:=VY v0;rw[Ni]at c;obtain⟨t0,t1,t2⟩:=Ww c;have e:=Vg t0 t1 t2;rw[oV]at e;show At (tw0 C) (tw1 C) (tw2 C)%p=0;rw[show At (tw0 C) (tw1 C) (tw2 C)%p=_ from e]
 simp
theorem fB(hp:P4 p)(wC:Whl p C)(wR:Whl p R)(d1:At A B P%p≠0)(d2:At A B U_%p≠0)(hC:FOn p C A B P U_)(hR:FOn p R A B P U_):PrC p R C:=by
 have b1:=Sd hp wC d1 d2 hC;have b2:=Sd hp wR d1 d2 hR;obtain⟨u,uz,ue⟩:=QE hp b1;refine⟨u*bI R A B,DY hp uz b2,?_⟩;have c:=VY (sD hp d1 d2 hC hR);have e1:CgC p (scC u (scC (bI C A B) R)) (scC u (scC (bI R A B) C)):=CgC.sc Cg.rfl c;rw[Nr,Nr]at e1;have e2:CgC p (scC (u*bI C A B) R) (scC 1 R):=CgC.sc ue CgC.rfl;rw[Ni]at e2;exact e2.symm.trans e1
end
section
variable{p:Ae}{C E:C6}{a b c A B P U_ A' B' P' U_' x y:R3}
theorem WX(C:C6)(a b c x y:R3):bI (pb C a b c) x y=bI C (ap a b c x) (ap a b c y):=by
 have e:∀ u:R3,ap a b c u=(u.1*(Dy a b c).1+u.2.1*(Dp a b c).1+u.2.2*(Do a b c).1,u.1*(Dy a b c).2.1+u.2.1*(Dp a b c).2.1+u.2.2*(Do a b c).2.1,u.1*(Dy a b c).2.2+u.2.1*(Dp a b c).2.2+u.2.2*(Do a b c).2.2):=λu=>by
  unfold ap BF Dy Dp Do;simp only;refine Dk ?_ (Dk ?_ ?_)<;>(simp only;grind)
 rw[e x,e y,bL];rfl
theorem wT(C:C6)(k l:Ae)(x y:R3):bI C (Cc k x) (Cc l y)=k*l*bI C x y:=by
 unfold bI ap BF Cc;simp only;grind
theorem WW(hp:P4 p)(h:Pr p x x')(g:Pr p y y'):bI C x y%p=0↔bI C x' y'%p=0:=by
 obtain⟨d,dz,e⟩:=h;obtain⟨d',dz',e'⟩:=g;have q:=(NH (CgC.rfl (C:=C)) e e').trans (Cg.of (wT C d d' x' y'));rw[show bI C x y%p=_ from q]
 exact Nx hp (DY hp dz dz')
theorem wN(hp:P4 p)(h:FOn p E A' B' P' U_')(hA:Pr p A' (ap a b c A))(hB:Pr p B' (ap a b c B))(hP:Pr p P' (ap a b c P))(hU:Pr p U_' (ap a b c U_)):FOn p (pb E a b c) A B P U_:=
 ⟨by rw[QV];exact(QU hp hA).mp h.vA,by rw[QV];exact(QU hp hB).mp h.vB,by rw[QV];exact(QU hp hU).mp h.vU,by rw[WX];exact(WW hp hA hP).mp h.bA,by rw[WX];exact(WW hp hB hP).mp h.bB⟩
theorem sC(hp:P4 p)(z:At a b c%p≠0)(w:Whl p E):Whl p (pb E a b c):=by
 show At _ _ _%p≠0;rw[vJ];exact DY hp (DY hp z z) w
theorem eF(hp:P4 p)(z:At a b c%p≠0)(wC:Whl p C)(wE:Whl p E)(d1:At A B P%p≠0)(d2:At A B U_%p≠0)(hC:FOn p C A B P U_)(hE:FOn p E A' B' P' U_')(hA:Pr p A' (ap a b c A))(hB:Pr p B' (ap a b c B))(hP:Pr p P' (ap a b c P))(hU:Pr p U_' (ap a b c U_)):PrC p (pb E a b c) C:=
 fB hp wC (sC hp z wE) d1 d2 hC (wN hp hE hA hB hP hU)
end
noncomputable def MF:Df:=⟨3,Ad,(.cons (.asg 2 Ad (.int 0)) (.cons (.ife (.cmp .Gt (.bi .len (.cons (.var 0) .nil)) (.int 0)) (.cons (.asg 2 Ad (.idx (.var 0) (.bin .Mod (.var 1) (.bi .len (.cons (.var 0) .nil))))) .nil) .nil) (.cons (.ret (.bin .Mod (.bin .Mult (.bin .Add (.bin .Add (.bin .Mod (.var 2) (.int 1000003)) (.bin .Mult (.int 7919) (.var 1))) (.int 11)) (.int 48271)) (.int 1000033))) .nil)))⟩
theorem uL(U:Gam)(ns:Ac Ae)(k:Ae)(h0:0<=k):∃ m,0<=m/\MF.run U [scr ns,.int k]=.ok (.int m):=by
 have m1:D7 7919 k=Aa:=Ix (by decide) (by decide)
 have m2:∀ x,D7 x 48271=Aa:=λx=>Qf (by decide) (by decide)
 have ln:biD .len [scr ns]=.ok (.int ns.length):=by simp[scr]
 by_cases h1:0<(ns.length:Ae)
 .have q0:=Bf k (b:=(ns.length:Ae)) (by omega)
  have q1:=Bc k h1;have g:EH (scr ns) (.int (k%(ns.length:Ae)))=.ok (.int (ns.getD (k%(ns.length:Ae)).toNat 0)):=oA (ns:=ns) q0 q1;generalize ns.getD (k%(ns.length:Ae)).toNat 0=x at g;refine⟨(x%1000003+7919*k+11)*48271%1000033,Bf _ (by decide),?_⟩
  generalize scr ns=S at *;generalize (ns.length:Ae)=N at *;simp[MF,Df.run,BD,ln,h1,g,m1,m2]
 .refine⟨(0%1000003+7919*k+11)*48271%1000033,Bf _ (by decide),?_⟩
  generalize scr ns=S at *;generalize (ns.length:Ae)=N at *;simp[MF,Df.run,BD,ln,h1,m1,m2]
noncomputable def OC:Df:=⟨1,Ad,(.cons (.ret (.idx (.lst (.cons (.int 3) (.cons (.int 5) (.cons (.int 7) (.cons (.int 5) (.cons (.int 7) (.cons (.int 11) .nil))))))) (.bin .Mod (.call 228 (.cons (.var 0) (.cons (.int 0) .nil))) (.int 6)))) .nil)⟩
theorem mR(h:Jm U 228 ns):∃ p,P4 p/\OC.run U [scr ns]=.ok (.int p):=by
 obtain⟨m,m0,e⟩:=h 0 (by decide)
 have q:m%6=0\/m%6=1\/m%6=2\/m%6=3\/m%6=4\/m%6=5:=by omega
 have g:∃ p,P4 p/\Dx [.int 3,.int 5,.int 7,.int 5,.int 7,.int 11] (m%6)=.ok (.int p):=by
  rcases q with z|z|z|z|z|z<;>rw[z]
  .exact⟨3,.inl rfl,rfl⟩
  .exact⟨5,.inr (.inl rfl),rfl⟩
  .exact⟨7,.inr (.inr (.inl rfl)),rfl⟩
  .exact⟨5,.inr (.inl rfl),rfl⟩
  .exact⟨7,.inr (.inr (.inl rfl)),rfl⟩
  .exact⟨11,.inr (.inr (.inr rfl)),rfl⟩
 obtain⟨p,hp,g⟩:=g;refine⟨p,hp,?_⟩;simp[OC,Df.run,BD,e,g]
def Vy(U:Gam):Prop:=∀(p:Ae)(b:Ai)(xs:Ac Ae)(l t:Ae),P4 p->Bw p xs=Ab l->IJ p l t->U.F 288 [.int p,Dm b xs]=.ok (.tup (ds (fmI p t xs)))
noncomputable def OE:Df:=⟨6,Ad,(.cons (.asg 3 Ad (.bin .Sub (.bin .Mult (.idx (.var 1) (.int 1)) (.idx (.var 2) (.int 2))) (.bin .Mult (.idx (.var 1) (.int 2)) (.idx (.var 2) (.int 1))))) (.cons (.asg 4 Ad (.bin .Sub (.bin .Mult (.idx (.var 1) (.int 2)) (.idx (.var 2) (.int 0))) (.bin .Mult (.idx (.var 1) (.int 0)) (.idx (.var 2) (.int 2))))) (.cons (.asg 5 Ad (.bin .Sub (.bin .Mult (.idx (.var 1) (.int 0)) (.idx (.var 2) (.int 1))) (.bin .Mult (.idx (.var 1) (.int 1)) (.idx (.var 2) (.int 0))))) (.cons (.ret (.tup (.cons (.bin .Mod (.var 3) (.var 0)) (.cons (.bin .Mod (.var 4) (.var 0)) (.cons (.bin .Mod (.var 5) (.var 0)) .nil))))) .nil))))⟩
def GM(U:Gam):Prop:=∀(p:Ae)(q q':Ai)(a x:R3),0<p->B3 a->B3 x->U.F 232 [.int p,Ap q a,Ap q' x]=.ok (Ap Aa (mdR p (crs a x)))
theorem gH(U:Gam)(p:Ae)(q q':Ai)(a x:R3)(p0:0<p)(ha:B3 a)(hx:B3 x):OE.run U [.int p,Ap q a,Ap q' x]=.ok (Ap Aa (mdR p (crs a x))):=by
 obtain⟨x0,x1,x2⟩:=Hu q a;obtain⟨y0,y1,y2⟩:=Hu q' x;have k:∀ {u v},Bd 300 u->Bd 300 v->G9 u v=Aa:=λhu hv=>Lj hu hv (by decide) (by decide)
 simp[OE,Df.run,BD,x0,x1,x2,y0,y1,y2,k ha.1 hx.1,k ha.1 hx.2.1,k ha.1 hx.2.2,k ha.2.1 hx.1,k ha.2.1 hx.2.1,k ha.2.1 hx.2.2,k ha.2.2 hx.1,k ha.2.2 hx.2.1,k ha.2.2 hx.2.2,p0];rfl
noncomputable def Po:Df:=⟨3,Ad,(.cons (.ret (.bin .Mod (.bin .Add (.bin .Add (.bin .Mult (.idx (.var 1) (.int 0)) (.idx (.var 2) (.int 0))) (.bin .Mult (.idx (.var 1) (.int 1)) (.idx (.var 2) (.int 1)))) (.bin .Mult (.idx (.var 1) (.int 2)) (.idx (.var 2) (.int 2)))) (.var 0))) .nil)⟩
def Gq(U:Gam):Prop:=∀(p:Ae)(q q':Ai)(a x:R3),0<p->B3 a->B3 x->U.F 233 [.int p,Ap q a,Ap q' x]=.ok (.int (BF a x%p))
theorem gD(U:Gam)(p:Ae)(q q':Ai)(a x:R3)(p0:0<p)(ha:B3 a)(hx:B3 x):Po.run U [.int p,Ap q a,Ap q' x]=.ok (.int (BF a x%p)):=by
 obtain⟨x0,x1,x2⟩:=Hu q a;obtain⟨y0,y1,y2⟩:=Hu q' x;have k:∀ {u v},Bd 300 u->Bd 300 v->G9 u v=Aa:=λhu hv=>Lj hu hv (by decide) (by decide)
 simp[Po,Df.run,BD,x0,x1,x2,y0,y1,y2,k ha.1 hx.1,k ha.2.1 hx.2.1,k ha.2.2 hx.2.2,p0];rfl
noncomputable def MK:E:=(.call 233 (.cons (.var 0) (.cons (.var 3) (.cons (.var 2) .nil))))
noncomputable def OU:Df:=⟨4,Ad,(.cons (.ret (.call 288 (.cons (.var 0) (.cons (.comp MK 3 (.e (.var 1)) CT) .nil)))) .nil)⟩
def Uo(U:Gam):Prop:=∀(p:Ae)(t q q':Ai)(a b c x:R3),GoodR p a b c->B3 x->(∃ l,Bw p (tri x)=Ab l)->U.F 289 [.int p,Jr t q a b c,Ap q' x]=.ok (Ap Aa (nrm p (ap a b c x)))
theorem gE(hs:Gq U)(hf:Vy U)(p:Ae)(t q q':Ai)(a b c x:R3)(G:GoodR p a b c)(hx:B3 x)(lx:∃ l,Bw p (tri x)=Ab l):OU.run U [.int p,Jr t q a b c,Ap q' x]=.ok (Ap Aa (nrm p (ap a b c x))):=by
 have hp:=G.p4;have p0:=hp.pos;obtain⟨l0,lx⟩:=lx;obtain⟨l,el⟩:=La hp G.nz lx CgR.rfl;obtain⟨u,iu,j,l1,pr,ef⟩:=PD hp el;obtain⟨n1,n2⟩:=KW hp el;have e0:fmR p u (ap a b c x)=nrm p (ap a b c x):=Ny hp ⟨j,l1⟩ n1 (pr.trans hp (n2.symm hp));have md:(tri (mdR p (ap a b c x))).map (λx=>x%p)=(tri (ap a b c x)).map (λx=>x%p):=by
  show [_%p%p,_%p%p,_%p%p]=[_%p,_%p,_%p];simp only[BN _ (CZ p)]
 have e:=hf p Ad (tri (mdR p (ap a b c x))) l u hp (by rw[O3 md];exact el) iu
 rw[hJ md,ef,e0]at e;have e':U.F 288 [.int p,.lst [.int (BF a x%p),.int (BF b x%p),.int (BF c x%p)]]=.ok (Ap Aa (nrm p (ap a b c x))):=e;have b3:∀ {r},In3 p r->B3 r:=λh=>(GB hp h).b3 (by decide)
 have k:∀ r,In3 p r->cF U [si p,sh (Jr t q a b c),sh (Ap q' x),Af] 3 MK (Ap q r)=.ok (.int (BF r x%p)):=λr hr=>by
  have e1:=hs p q q' r x p0 (b3 hr) hx;generalize Ap q r=rr at *;generalize Ap q' x=xx at *;simp[cF,MK,e1]
 have g:∀ d,cG U [si p,sh (Jr t q a b c),sh (Ap q' x),Af] 3 CT d=.ok Aa:=λ_=>rfl
 have cp:BU (cG U [si p,sh (Jr t q a b c),sh (Ap q' x),Af] 3 CT) (cF U [si p,sh (Jr t q a b c),sh (Ap q' x),Af] 3 MK) [Ap q a,Ap q b,Ap q c]=.ok [.int (BF a x%p),.int (BF b x%p),.int (BF c x%p)]:=by
  simp[BU,g,k a G.ia,k b G.ib,k c G.ic]
 have sq:=aJ t q a b c;generalize Ap Aa (nrm p (ap a b c x))=Y_ at *;generalize Ap q' x=xx at *;generalize Jr t q a b c=TT at *;generalize [Ap q a,Ap q b,Ap q c]=LL at *;simp[OU,Df.run,BD,sq,cp,e']
noncomputable def LU:Ss:=(.cons (.app 2 (.call 289 (.cons (.var 0) (.cons (.var 1) (.cons (.tup (.cons (.int 1) (.cons (.var 3) (.cons (.bin .Mult (.var 3) (.var 3)) .nil)))) .nil))))) .nil)
noncomputable def MH:Df:=⟨4,Ad,(.cons (.asg 2 Aa (.lst (.cons (.call 289 (.cons (.var 0) (.cons (.var 1) (.cons (.tup (.cons (.int 0) (.cons (.int 0) (.cons (.int 1) .nil)))) .nil)))) .nil))) (.cons (.fors 3 (.rng (.var 0)) LU) (.cons (.ret (.var 2)) .nil)))⟩
noncomputable def Eo(p:Ae):Ac R3:=(0,0,1)::(A1 p.toNat).map fun(t:Ag)=>((1:Ae),(t:Ae),(t:Ae)*(t:Ae))
theorem Mh(hp:P4 p)(hx:x∈Eo p):B3 x/\∃ l,Bw p (tri x)=Ab l:=by
 have p1:1<p:=by have:=hp.lo;omega
 have ph:=hp.hi;rcases AD.mp hx with rfl|hx
 .exact⟨(GB hp (a:=(0,0,1)) ⟨⟨HJ 0,hp.pos⟩,⟨HJ 0,hp.pos⟩,⟨(by decide:(0:Ae)<=1),p1⟩⟩).b3 (by decide),1,VI p1⟩
 .obtain⟨t,ht,rfl⟩:=Bk.mp hx;have ht:=Bb.mp ht;have t0:(t:Ae)<11:=by omega
  have tt:(t:Ae)*(t:Ae)<=11*11:=Int.mul_le_mul (by omega) (by omega) (by omega) (by decide)
  have t2:0<=(t:Ae)*(t:Ae):=Xc (by omega) (by omega)
  have pw:(2:Ag) ^ 10<=2 ^ 300:=ET (by decide) (by decide)
  refine⟨⟨?_,?_,?_⟩,1,RW p1 _ _⟩
  .exact AG (by decide:(1:Ae).natAbs<2 ^ 10) pw
  .exact AG (by show ((t:Ae)).natAbs<2 ^ 10;omega) pw
  .exact AG (by show ((t:Ae)*(t:Ae)).natAbs<2 ^ 10;omega) pw
theorem lS{RR Y_:D}{s3:Sl}(mm:D7 m m=Aa)(en:U.F 289 [.int p,RR,.tup [.int 1,.int m,.int (m*m)]]=.ok Y_)(sz:BY (acc.length+1)=Aa):AR U 3 LU (.int m) [si p,sh RR,Ab (.lst acc,Aa),s3]=.next [si p,sh RR,Ab (.lst (acc++[Y_]),Aa),si m]:=by
 simp[AR,LU,mm,en,CC,sz]
def wW(U:Gam):Prop:=∀(p:Ae)(a b c:R3),GoodR p a b c->U.F 290 [.int p,GO a b c]=.ok (As ((Eo p).map λx=>nrm p (ap a b c x)))
theorem uI(hl:Uo U)(p:Ae)(a b c:R3)(G:GoodR p a b c):MH.run U [.int p,GO a b c]=.ok (As ((Eo p).map λx=>nrm p (ap a b c x))):=by
 have hp:=G.p4;have ph:=hp.hi;have pl:=hp.lo;have L:∀ x∈Eo p,U.F 289 [.int p,GO a b c,Ap Aa x]=.ok (Ap Aa (nrm p (ap a b c x))):=λx hx=>hl p Ad Ad Aa a b c x G (Mh hp hx).1 (Mh hp hx).2
 have e0:U.F 289 [.int p,GO a b c,.tup [.int 0,.int 0,.int 1]]=.ok (Ap Aa (nrm p (ap a b c (0,0,1)))):=L (0,0,1) (AA ..);have rg:CA 0 p=.ok (Ci 0 (p-0).toNat):=JO (by decide) (by decide) (by omega) (by omega)
 rw[Fo]at rg;have lp:=O6 (body:=AR U 3 LU) (λn Z=>∃ s3,Z=[si p,sh (GO a b c),Ab (.lst (((0,0,1)::(A1 n).map fun(t:Ag)=>((1:Ae),(t:Ae),(t:Ae)*(t:Ae))).map λx=>Ap Aa (nrm p (ap a b c x))),Aa),s3]) (Ci 0 p.toNat) 0 [si p,sh (GO a b c),Ab (.lst [Ap Aa (nrm p (ap a b c (0,0,1)))],Aa),Af] ⟨Af,rfl⟩ (by
  rintro n x hx Z ⟨s3,rfl⟩;obtain⟨hn,rfl⟩:=Pu hx;rw[DF,Fq];have hm:((1:Ae),(n:Ae),(n:Ae)*(n:Ae))∈Eo p:=Aw _ (Bk.mpr ⟨n,Bb.mpr (by omega),rfl⟩)
  have en:U.F 289 [.int p,GO a b c,.tup [.int 1,.int (n:Ae),.int ((n:Ae)*(n:Ae))]]=.ok (Ap Aa (nrm p (ap a b c (1,(n:Ae),(n:Ae)*(n:Ae))))):=L _ hm;have lr:(A1 (n+1)).map (fun(t:Ag)=>((1:Ae),(t:Ae),(t:Ae)*(t:Ae)))=(A1 n).map (fun(t:Ag)=>((1:Ae),(t:Ae),(t:Ae)*(t:Ae)))++[((1:Ae),(n:Ae),(n:Ae)*(n:Ae))]:=by
   rw[List.range_succ,Di];rfl
  rw[lr,<-List.cons_append,Di];have len:((((0:Ae),(0:Ae),(1:Ae))::(A1 n).map fun(t:Ag)=>((1:Ae),(t:Ae),(t:Ae)*(t:Ae))).map λx=>Ap Aa (nrm p (ap a b c x))).length=n+1:=by simp
  generalize ((((0:Ae),(0:Ae),(1:Ae))::(A1 n).map fun(t:Ag)=>((1:Ae),(t:Ae),(t:Ae)*(t:Ae))).map λx=>Ap Aa (nrm p (ap a b c x)))=acc at *
  have sz:BY (acc.length+1)=Aa:=BG (by omega)
  have mm:D7 (n:Ae) (n:Ae)=Aa:=Ix (by omega) (by omega)
  refine⟨_,?_,si (n:Ae),rfl⟩;show AR U 3 LU (.int (n:Ae)) [si p,sh (GO a b c),Ab (.lst acc,Aa),s3]=.next [si p,sh (GO a b c),Ab (.lst (acc++[Ap Aa (nrm p (ap a b c (1,(n:Ae),(n:Ae)*(n:Ae))))]),Aa),si (n:Ae)];exact lS mm en sz)
 obtain⟨Z',e,s3,rfl⟩:=lp;rw[Fq,LV]at e;have fin:D.lst (((0,0,1)::(A1 p.toNat).map fun(t:Ag)=>((1:Ae),(t:Ae),(t:Ae)*(t:Ae))).map λx=>Ap Aa (nrm p (ap a b c x)))=As ((Eo p).map λx=>nrm p (ap a b c x)):=by
  unfold As Eo;rw[C2];rfl
 rw[<-fin]
 clear fin L
 generalize (((0,0,1)::(A1 p.toNat).map fun(t:Ag)=>((1:Ae),(t:Ae),(t:Ae)*(t:Ae))).map λx=>Ap Aa (nrm p (ap a b c x)))=OUT at *
 generalize Ci 0 p.toNat=RL at *;generalize Ap Aa (nrm p (ap a b c (0,0,1)))=Y_ at *;generalize GO a b c=RR at *;simp[MH,Df.run,BD,e0,Ce,rg,e]
noncomputable def bW:E:=(.and (.cons (.isi (.var 3) [.int]) (.cons (.no (.isi (.var 3) [.bool])) (.cons (.cmp2 .LtE .Lt (.int 0) (.var 3) (.var 0)) .nil))))
noncomputable def cJ:Df:=⟨4,Ad,(.cons (.ife (.or (.cons (.no (.isi (.var 1) [.tuple])) (.cons (.cmp .NotEq (.bi .len (.cons (.var 1) .nil)) (.var 2)) .nil))) (.cons (.ret (.bl Ad)) .nil) .nil) (.cons (.ret (.bi .all (.cons (.comp bW 3 (.e (.var 1)) CT) .nil))) .nil))⟩
noncomputable def cA:E:=(.cmp .Gt (.var 3) (.int 0))
noncomputable def cB:E:=(.var 3)
noncomputable def cP:Df:=⟨4,Ad,(.cons (.ife (.or (.cons (.no (.call 236 (.cons (.var 0) (.cons (.var 1) (.cons (.var 2) .nil))))) (.cons (.cmp .Eq (.bi .sum (.cons (.var 1) .nil)) (.int 0)) .nil))) (.cons (.ret (.bl Ad)) .nil) .nil) (.cons (.ret (.cmp .Eq (.idx (.comp cB 3 (.e (.var 1)) cA) (.int 0)) (.int 1))) .nil))⟩
noncomputable def C0p:C6:=⟨0,1,0,0,-1,0⟩
noncomputable def OG:E:=(.bin .Mod (.bin .Add (.var 9) (.bin .Mult (.var 8) (.var 10))) (.var 0))
noncomputable def Hr:Ss:=(.cons (.asg 5 Ad (.call 228 (.cons (.var 1) (.cons (.bin .Add (.var 2) (.var 4)) .nil)))) (.cons (.asg 6 Ad (.bin .Mod (.var 5) (.int 3))) (.cons (.asg 7 Ad (.bin .Mod (.bin .Add (.bin .Add (.var 6) (.int 1)) (.bin .Mod (.bin .FloorDiv (.var 5) (.int 3)) (.int 2))) (.int 3))) (.cons (.asg 8 Ad (.bin .Mod (.bin .FloorDiv (.var 5) (.int 6)) (.var 0))) (.cons (.put 3 (.var 6) (.compT OG [9,10] (.zip (.idx (.var 3) (.var 6)) (.idx (.var 3) (.var 7))) CT)) (.cons (.ife (.cmp .Eq (.bin .Mod (.bin .FloorDiv (.var 5) (.int 100)) (.int 3)) (.int 1)) (.cons (.asg 3 Aa (.lst (.cons (.idx (.var 3) (.var 7)) (.cons (.idx (.var 3) (.var 6)) (.cons (.idx (.var 3) (.bin .Sub (.bin .Sub (.int 3) (.var 6)) (.var 7))) .nil))))) .nil) .nil) .nil))))))
noncomputable def OF:E:=(.bin .Mod (.bin .Mult (.var 8) (.var 11)) (.var 0))
noncomputable def OB:Df:=⟨12,Ad,(.cons (.asg 3 Aa (.lst (.cons (.lst (.cons (.int 1) (.cons (.int 0) (.cons (.int 0) .nil)))) (.cons (.lst (.cons (.int 0) (.cons (.int 1) (.cons (.int 0) .nil)))) (.cons (.lst (.cons (.int 0) (.cons (.int 0) (.cons (.int 1) .nil)))) .nil))))) (.cons (.fors 4 (.rng (.int 6)) Hr) (.cons (.asg 8 Ad (.bin .Add (.int 1) (.bin .Mod (.call 228 (.cons (.var 1) (.cons (.bin .Add (.var 2) (.int 6)) .nil))) (.bin .Sub (.var 0) (.int 1))))) (.cons (.put 3 (.int 0) (.comp OF 11 (.e (.idx (.var 3) (.int 0))) CT)) (.cons (.ret (.var 3)) .nil)))))⟩
theorem mI{t:Ae}{a b c:R3}(h:GoodR p a b c)(ij:Ij i j):∃(i':Ag)(x y a' b' c':R3),Dx (L3 a b c) i=.ok (Er x)/\Dx (L3 a b c) j=.ok (Er y)/\plD 3 i=Ab i'/\GoodR p a' b' c'/\(L3 a b c).set i' (Er (adR p t x y))=L3 a' b' c':=by
 have p0:=h.p4.pos;rcases ij with ⟨rfl,rfl⟩|⟨rfl,rfl⟩|⟨rfl,rfl⟩|⟨rfl,rfl⟩|⟨rfl,rfl⟩|⟨rfl,rfl⟩
 .exact⟨0,a,b,_,_,_,rfl,rfl,rfl,h.of (k:=1) h.p4.o1 (ZN p t a b c) ⟨Lq p0 _ _ _,h.ib,h.ic⟩,rfl⟩
 .exact⟨0,a,c,_,_,_,rfl,rfl,rfl,h.of (k:=1) h.p4.o1 (Z_6 p t a b c) ⟨Lq p0 _ _ _,h.ib,h.ic⟩,rfl⟩
 .exact⟨1,b,a,_,_,_,rfl,rfl,rfl,h.of (k:=1) h.p4.o1 (Z_5 p t a b c) ⟨h.ia,Lq p0 _ _ _,h.ic⟩,rfl⟩
 .exact⟨1,b,c,_,_,_,rfl,rfl,rfl,h.of (k:=1) h.p4.o1 (Z_4 p t a b c) ⟨h.ia,Lq p0 _ _ _,h.ic⟩,rfl⟩
 .exact⟨2,c,a,_,_,_,rfl,rfl,rfl,h.of (k:=1) h.p4.o1 (Z_2 p t a b c) ⟨h.ia,h.ib,Lq p0 _ _ _⟩,rfl⟩
 .exact⟨2,c,b,_,_,_,rfl,rfl,rfl,h.of (k:=1) h.p4.o1 (Z_1 p t a b c) ⟨h.ia,h.ib,Lq p0 _ _ _⟩,rfl⟩
theorem mH{a b c:R3}(h:GoodR p a b c)(ij:Ij i j):∃(x y z:R3),Dx (L3 a b c) j=.ok (Er x)/\Dx (L3 a b c) i=.ok (Er y)/\Dx (L3 a b c) (3-i-j)=.ok (Er z)/\GoodR p x y z:=by
 rcases ij with ⟨rfl,rfl⟩|⟨rfl,rfl⟩|⟨rfl,rfl⟩|⟨rfl,rfl⟩|⟨rfl,rfl⟩|⟨rfl,rfl⟩
 .exact⟨b,a,c,rfl,rfl,rfl,h.of (k:=-1) h.p4.m1 (Cg.of (by unfold At det;grind)) ⟨h.ib,h.ia,h.ic⟩⟩
 .exact⟨c,a,b,rfl,rfl,rfl,h.of (k:=1) h.p4.o1 (Cg.of (by unfold At det;grind)) ⟨h.ic,h.ia,h.ib⟩⟩
 .exact⟨a,b,c,rfl,rfl,rfl,h⟩
 .exact⟨c,b,a,rfl,rfl,rfl,h.of (k:=-1) h.p4.m1 (Cg.of (by unfold At det;grind)) ⟨h.ic,h.ib,h.ia⟩⟩
 .exact⟨a,c,b,rfl,rfl,rfl,h.of (k:=-1) h.p4.m1 (Cg.of (by unfold At det;grind)) ⟨h.ia,h.ic,h.ib⟩⟩
 .exact⟨b,c,a,rfl,rfl,rfl,h.of (k:=1) h.p4.o1 (Cg.of (by unfold At det;grind)) ⟨h.ib,h.ic,h.ia⟩⟩
section
variable{U:Gam}{ns:Ac Ae}{p:Ae}{a b c:R3}{s2 s4 s5 s6 s7 s8:Sl}
theorem kL(hm:Jm U 228 ns)(h:GoodR p a b c){k:Ae}(ha:0<=at_)(hk:0<=k):∃ a' b' c' v5 v6 v7 v8,GoodR p a' b' c'/\AR U 4 Hr (.int k) [si p,sh (scr ns),si at_,Ab (.lst (L3 a b c),Aa),s4,s5,s6,s7,s8,Af,Af,Af]=.next [si p,sh (scr ns),si at_,Ab (.lst (L3 a' b' c'),Aa),si k,v5,v6,v7,v8,Af,Af,Af]:=by
 have p0:=h.p4.pos;have ph:=h.p4.hi;obtain⟨m,m0,e0⟩:=hm (at_+k) (by omega)
 generalize hi:m%3=i;generalize hj:(i+1+m/3%2)%3=j;have ij:=aw hi hj;have t0:=Bf (m/6) (b:=p) (by omega)
 have t1:=Bc (m/6) p0;generalize ht:m/6%p=t at t0 t1;have mt:∀ x,D7 t x=Aa:=λx=>Ix (by omega) (by omega)
 obtain⟨i',x,y,a',b',c',gi,gj,pi,g',es⟩:=mI (t:=t) h ij;obtain⟨x2,y2,z2,f1,f2,f3,g2⟩:=mH g' ij;have pi':plD (L3 a b c).length i=Ab i':=pi;have e1:evSs U [si p,sh (scr ns),si at_,Ab (.lst (L3 a b c),Aa),si k,s5,s6,s7,s8,Af,Af,Af] (Hr.take 4)=.next [si p,sh (scr ns),si at_,Ab (.lst (L3 a b c),Aa),si k,si m,si i,si j,si t,Af,Af,Af]:=by
  simp[Hr,Ss.take,e0,hi,hj,ht,p0]
 have cp:BU (cGT U [si p,sh (scr ns),si at_,Ab (.lst (L3 a b c),Aa),si k,si m,si i,si j,si t,Af,Af,Af] [9,10] CT) (cFT U [si p,sh (scr ns),si at_,Ab (.lst (L3 a b c),Aa),si k,si m,si i,si j,si t,Af,Af,Af] [9,10] OG) (FJ [.int x.1,.int x.2.1,.int x.2.2] [.int y.1,.int y.2.1,.int y.2.2])=.ok [.int ((x.1+t*y.1)%p),.int ((x.2.1+t*y.2.1)%p),.int ((x.2.2+t*y.2.2)%p)]:=by
  generalize x.1=x0;generalize x.2.1=x1;generalize x.2.2=x2;generalize y.1=y0;generalize y.2.1=y1;generalize y.2.2=y2;simp[BU,cGT,cFT,FJ,OG,CT,p0,mt]
 have gi':Dx (L3 a b c) i=.ok (.lst [.int x.1,.int x.2.1,.int x.2.2]):=gi;have gj':Dx (L3 a b c) j=.ok (.lst [.int y.1,.int y.2.1,.int y.2.2]):=gj;have rd:D.lst [.int ((x.1+t*y.1)%p),.int ((x.2.1+t*y.2.1)%p),.int ((x.2.2+t*y.2.2)%p)]=Er (adR p t x y):=rfl;have fin:∀ {o},evSs U [si p,sh (scr ns),si at_,Ab (.lst (L3 a b c),Aa),si k,si m,si i,si j,si t,Af,Af,Af] (Hr.drop 4)=o->AR U 4 Hr (.int k) [si p,sh (scr ns),si at_,Ab (.lst (L3 a b c),Aa),s4,s5,s6,s7,s8,Af,Af,Af]=o:=λ{o} h=>by
  show evSs U [si p,sh (scr ns),si at_,Ab (.lst (L3 a b c),Aa),si k,s5,s6,s7,s8,Af,Af,Af] Hr=o;rw[UI U 4,e1];exact h
 have sL:L3 x2 y2 z2=[Er x2,Er y2,Er z2]:=rfl;by_cases q:m/100%3=1
 .refine⟨x2,y2,z2,si m,si i,si j,si t,g2,fin ?_⟩;rw[sL]
  clear e1 fin sL
  generalize L3 a b c=LL at *;generalize L3 a' b' c'=LM at *;generalize Er x2=rx at *;generalize Er y2=ry at *;generalize Er z2=rz at *;generalize scr ns=S at *;simp[Hr,Ss.drop,Ql,CC,gi',gj',pi',cp,rd,es,q,f1,f2,f3,Ce]
 .refine⟨a',b',c',si m,si i,si j,si t,g',fin ?_⟩
  clear e1 fin sL
  generalize L3 a b c=LL at *;generalize L3 a' b' c'=LM at *;generalize scr ns=S at *;simp[Hr,Ss.drop,Ql,CC,gi',gj',pi',cp,rd,es,q]
end
def pW(U:Gam)(ns:Ac Ae):Prop:=∀(p at_:Ae),P4 p->0<=at_->∃ a b c,GoodR p a b c/\U.F 250 [.int p,scr ns,.int at_]=.ok (GO a b c)
theorem mO(hm:Jm U 228 ns)(p at_:Ae)(hp:P4 p)(ha:0<=at_):∃ a b c,GoodR p a b c/\OB.run U [.int p,scr ns,.int at_]=.ok (GO a b c):=by
 have p0:=hp.pos;have g0:GoodR p e0R e1R e2R:=(pP hp).1;have rg:CA 0 6=.ok (Ci 0 6):=rfl;obtain⟨Z',e,a,b,c,s4,s5,s6,s7,s8,g,rfl⟩:=UD (body:=AR U 4 Hr) (λZ=>∃ a b c s4 s5 s6 s7 s8,GoodR p a b c/\Z=[si p,sh (scr ns),si at_,Ab (.lst (L3 a b c),Aa),s4,s5,s6,s7,s8,Af,Af,Af]) (Ci 0 6) [si p,sh (scr ns),si at_,Ab (.lst (L3 e0R e1R e2R),Aa),Af,Af,Af,Af,Af,Af,Af,Af] ⟨_,_,_,_,_,_,_,_,g0,rfl⟩ (by
  rintro x hx Z ⟨a,b,c,s4,s5,s6,s7,s8,g,rfl⟩;obtain⟨k,_,rfl⟩:=iT hx;obtain⟨a',b',c',v5,v6,v7,v8,g',e⟩:=kL (s4:=s4) (s5:=s5) (s6:=s6) (s7:=s7) (s8:=s8) hm g ha (k:=0+(k:Ae)) (by omega)
  exact⟨_,e,a',b',c',_,_,_,_,_,g',rfl⟩)
 obtain⟨m,m0,e2⟩:=hm (at_+6) (by omega)
 have q1:0<p-1:=by have:=hp.lo;omega
 have q2:1<p:=by have:=hp.lo;omega
 have t0:0<1+m%(p-1):=by have:=Bf m (b:=p-1) (by omega);omega
 have t1:1+m%(p-1)<p:=by have:=Bc m q1;omega
 generalize ht:1+m%(p-1)=t at t0 t1;have tz:t%p≠0:=by rw[A3 (by omega) t1];omega
 have mt:∀ x,D7 t x=Aa:=λx=>Ix (by omega) (by have:=hp.hi;omega)
 refine⟨scR p t a,b,c,g.of (k:=t) tz (bH p t a b c) ⟨xD p0 _ _,g.ib,g.ic⟩,?_⟩;have cp:BU (cG U [si p,sh (scr ns),si at_,Ab (.lst (L3 a b c),Aa),s4,s5,s6,s7,si t,Af,Af,Af] 11 CT) (cF U [si p,sh (scr ns),si at_,Ab (.lst (L3 a b c),Aa),s4,s5,s6,s7,si t,Af,Af,Af] 11 OF) [.int a.1,.int a.2.1,.int a.2.2]=.ok [.int (a.1*t%p),.int (a.2.1*t%p),.int (a.2.2*t%p)]:=by
  refine K4 (φ:=λx=>x*t%p) [a.1,a.2.1,a.2.2] λx _=>⟨rfl,?_⟩
  simp[cF,OF,mt,p0,BZ]
 have e':Bz (AR U 4 Hr) (Ci 0 6) [si p,sh (scr ns),si at_,Ab (.lst [.lst [.int 1,.int 0,.int 0],.lst [.int 0,.int 1,.int 0],.lst [.int 0,.int 0,.int 1]],Aa),Af,Af,Af,Af,Af,Af,Af,Af]=_:=e;have g0':Dx (L3 a b c) 0=.ok (.lst [.int a.1,.int a.2.1,.int a.2.2]):=rfl;have pl:plD (L3 a b c).length 0=Ab 0:=rfl;have out:D.lst ((L3 a b c).set 0 (.lst [.int (a.1*t%p),.int (a.2.1*t%p),.int (a.2.2*t%p)]))=GO (scR p t a) b c:=rfl
 clear e
 rw[<-out]
 clear out
 generalize L3 a b c=LL at *;generalize Ci 0 6=RL at *;generalize scr ns=S at *;simp[OB,Df.run,BD,Ce,rg,e',e2,q1,q2,ht,Ql,CC,g0',pl,cp]
section
variable{p:Ae}{C:C6}{a b c A B P U_ l m:R3}
theorem swp(h:BF U_ m%p=0):BF m U_%p=0:=by rw[Na];exact h
end
noncomputable def Lk(p:Ae):Ac R3:=(Eo p).map (mdR p)
theorem fH(hp:P4 p):(Lk p).Nodup:=by
 rcases hp with rfl|rfl|rfl|rfl<;>decide+kernel
theorem Vk(hp:P4 p):∀ x∈Lk p,x∈Dc p/\vI C0p x%p=0:=by
 rcases hp with rfl|rfl|rfl|rfl<;>decide+kernel
theorem lR(hp:P4 p):∀ x∈Dc p,vI C0p x%p=0->x∈Lk p:=by
 rcases hp with rfl|rfl|rfl|rfl<;>decide+kernel
theorem Tr(hp:P4 p)(x:R3):x∈Lk p↔NF p x/\vI C0p x%p=0:=
 ⟨λh=>⟨(K7 hp).mp (Vk hp x h).1,(Vk hp x h).2⟩,λh=>lR hp x ((K7 hp).mpr h.1) h.2⟩
theorem oZ{p l l':Ae}{s:R3}(hp:P4 p)(er:Bw p (tri r)=Ab l)(es:Bw p (tri s)=Ab l')(h:CgR p r s):nrm p r=nrm p s:=by
 obtain⟨h1,h2⟩:=KW hp er;obtain⟨h3,h4⟩:=KW hp es;exact Ny hp h1 h3 ((h2.trans hp (Pr.cg hp h)).trans hp (h4.symm hp))
theorem fF{a b c:R3}(hp:P4 p)(z:At a b c%p≠0):((Eo p).map λx=>nrm p (ap a b c x))=(Lk p).map λx=>nrm p (ap a b c x):=by
 unfold Lk;rw[C2];refine GF λx hx=>?_
 obtain⟨l,el⟩:=(Mh hp hx).2;have g:CgR p (mdR p x) x:=CgR.md rfl;have g':CgR p (ap a b c x) (ap a b c (mdR p x)):=Rj CgR.rfl CgR.rfl CgR.rfl g.symm;obtain⟨l1,e1⟩:=La hp z el (CgR.rfl (a:=ap a b c x));obtain⟨l2,e2⟩:=La hp z el g'.symm;exact oZ hp e1 e2 g'
theorem gR(x:R3)(l:Ac R3):(l.map (Ap Aa)).any (λy=>eqD y (Ap Aa x))=decide (x∈l):=by
 induction l with
 |nil=>simp
 |cons y l ih=>
  rw[A8,FS,ih,Mj,Cy,Cz,AK,AK,AK,AD];exact or_congr ⟨MC,MC⟩ Iff.rfl
theorem UA(x:R3)(l:Ac R3):BJ .In (Ap Aa x) (As l)=.ok (.bl (decide (x∈l))):=by
 have k1:(l.map (Ap Aa)).all (flD 5)=Aa:=by
  rw[Ec];intro y hy;obtain⟨z,_,rfl⟩:=Bk.mp hy;exact(NA z).1
 show (if (flD 5 (Ap Aa x)&&(l.map (Ap Aa)).all (flD 5))=Aa then R.ok (D.bl ((l.map (Ap Aa)).any λy=>eqD y (Ap Aa x))) else R.bad)=_
 rw[k1,(NA x).1,Ax (show (Aa&&Aa)=Aa from rfl),gR]
structure Fb (p:Ae) (C:C6) (A B P U_:R3):Prop where
 nA:NF p A
 nB:NF p B
 nP:NF p P
 nU:NF p U_
 ne:A≠B
 ne2:A≠U_
 ne3:B≠U_
 on:FOn p C A B P U_
 gen:Sk p A B P U_
 ln:∃ l,NF p l/\Pr p l (crs A B)/\P=aN p C l
noncomputable def KB:Ss:=(.cons (.asg 5 Ad (.bin .Mod (.call 228 (.cons (.var 0) (.cons (.bin .Add (.var 1) (.var 4)) .nil))) (.bin .Add (.bi .len (.cons (.var 3) .nil)) (.int 1)))) (.cons (.asg 3 Ad (.bin .Add (.bin .Add (.sl (.var 3) .non (.var 5)) (.lst (.cons (.idx (.var 2) (.var 4)) .nil))) (.sl (.var 3) (.var 5) .non))) .nil))
noncomputable def JI:Df:=⟨6,Ad,(.cons (.asg 3 Ad (.lst .nil)) (.cons (.fors 4 (.rng (.bi .len (.cons (.var 2) .nil))) KB) (.cons (.ret (.var 3)) .nil)))⟩
theorem kept{a b c A B P U_ A' B' P' U_':R3}(T:GoodR p a b c)(w:Whl p C)(f:Fb p C A B P U_)(f':Fb p C A' B' P' U_')(L:Led p a b c A B P U_ A' B' P' U_'):PrC p (pb C a b c) C:=eF T.p4 T.nz w w f.gen.1 f.gen.2.1 f.on f'.on L.h0 L.h1 L.h2 L.h3
theorem T6{d:Ag}(h0:0<=i):GU n d (Ab i)=min i.toNat n:=by
 show (if i<0 then _ else _)=_
 rw[Ay (by omega)]
theorem NE(M:Ac R3)(h0:0<=i):slD (As M) Af (Ab i)=.ok (As (M.take i.toNat)):=by
 show R.ok (D.lst (((M.map (Ap Aa)).drop 0).take (GU (M.map (Ap Aa)).length (M.map (Ap Aa)).length (Ab i)-0)))=_;rw[T6 h0,Xp,Nat.sub_zero,A9];unfold As;rw[List.map_take]
 congr 2
 by_cases h:i.toNat<=M.length
 .rw[XQ h]
 .rw[Nat.min_eq_right (by omega),EB (by simp),EB (by simp;omega)]
theorem UU(M:Ac R3)(h0:0<=i)(h1:i.toNat<=M.length):slD (As M) (Ab i) Af=.ok (As (M.drop i.toNat)):=by
 show R.ok (D.lst (((M.map (Ap Aa)).drop (GU (M.map (Ap Aa)).length 0 (Ab i))).take ((M.map (Ap Aa)).length-GU (M.map (Ap Aa)).length 0 (Ab i))))=_;rw[T6 h0];unfold As;rw[List.map_drop,A9,XQ h1]
 congr 2
 exact EB (by simp)
theorem SX(X Y_:Ac R3)(h:X.length+Y_.length<=1000):CD .Add (As X) (As Y_)=.ok (As (X++Y_)):=by
 show (if BY ((X.map (Ap Aa)).length+(Y_.map (Ap Aa)).length)=Aa then R.ok (D.lst (X.map (Ap Aa)++Y_.map (Ap Aa))) else R.bad)=_
 have z:BY ((X.map (Ap Aa)).length+(Y_.map (Ap Aa)).length)=Aa:=BG (by rw[A9,A9];omega)
 rw[Ax z,<-Di];rfl
theorem gZ(h:L[n]?=Ab x):EH (As L) (.int (n:Ae))=.ok (Ap Aa x):=by
 show Dx (L.map (Ap Aa)) (n:Ae)=_;exact Pv (by omega) (by rw[Dq,Dr,h];rfl)
def pX(U:Gam)(ns:Ac Ae):Prop:=∀(at_:Ae)(L:Ac R3),0<=at_->L.length<=60->∃ M:Ac R3,M.Perm L/\U.F 251 [scr ns,.int at_,As L]=.ok (As M)
theorem lU(hm:Jm U 228 ns){M:Ac R3}(ha:0<=at_)(hx:L[n]?=Ab x)(h5:M.length<=60):∃(M':Ac R3)(v5:Sl),M'.Perm (M++[x])/\AR U 4 KB (.int (n:Ae)) [sh (scr ns),si at_,sh (As L),sh (As M),s4,s5]=.next [sh (scr ns),si at_,sh (As L),sh (As M'),si (n:Ae),v5]:=by
 obtain⟨m,m0,e⟩:=hm (at_+(n:Ae)) (by omega)
 have q0:=Bf m (b:=(M.length:Ae)+1) (by omega)
 have q1:=Bc m (b:=(M.length:Ae)+1) (by omega)
 have ln:biD .len [As M]=.ok (.int (M.length:Ae)):=Uu M;have lp:(0:Ae)<(M.length:Ae)+1:=by omega
 generalize hi:m%((M.length:Ae)+1)=i at *;have s1:=NE M q0;have s2:=UU M q0 (by omega)
 have g:=gZ hx;have a1:=SX (M.take i.toNat) [x] (by simp;omega)
 have a2:=SX (M.take i.toNat++[x]) (M.drop i.toNat) (by simp;omega)
 refine⟨(M.take i.toNat++[x])++M.drop i.toNat,si i,?_,?_⟩
 .have p1:((M.take i.toNat++[x])++M.drop i.toNat).Perm (x::(M.take i.toNat++M.drop i.toNat)):=by
   rw[DZ];exact List.perm_middle
  rw[List.take_append_drop]at p1;exact p1.trans (List.perm_append_singleton x M).symm
 .have rx:D.lst [Ap Aa x]=As [x]:=rfl;generalize (M.length:Ae)=N at *;generalize As L=TL at *;generalize As M=TM at *;generalize As (M.take i.toNat)=T1 at *;generalize As (M.drop i.toNat)=T2 at *;generalize As (M.take i.toNat++[x])=T3 at *;generalize As ((M.take i.toNat++[x])++M.drop i.toNat)=T4 at *;rw[<-rx]at a1;generalize Ap Aa x=tx at *;generalize scr ns=S at *;simp[AR,KB,e,ln,lp,hi,s1,s2,g,a1,a2]
theorem lT{S TL TM:D}(ln:biD .len [TL]=.ok (.int N))(rg:CA 0 N=.ok RL)(e:Bz (AR U 4 KB) RL [sh S,si at_,sh TL,sh (.lst []),Af,Af]=.next [sh S,si at_,sh TL,sh TM,s4,s5]):JI.run U [S,.int at_,TL]=.ok TM:=by
 have e1:evSs U [sh S,si at_,sh TL,Af,Af,Af] JI.body=FM U (.cons (.ret (.var 3)) .nil) (Bz (AR U 4 KB) RL [sh S,si at_,sh TL,sh (.lst []),Af,Af]):=by
  simp[JI,ln,rg]
 show O.ans Ad (evSs U [sh S,si at_,sh TL,Af,Af,Af] JI.body)=_;rw[e1,e];simp
theorem mT(hm:Jm U 228 ns)(at_:Ae)(L:Ac R3)(ha:0<=at_)(hL:L.length<=60):∃ M:Ac R3,M.Perm L/\JI.run U [scr ns,.int at_,As L]=.ok (As M):=by
 have lp:=O6 (body:=AR U 4 KB) (λn Z=>∃(M:Ac R3)(s4 s5:Sl),M.Perm (L.take n)/\Z=[sh (scr ns),si at_,sh (As L),sh (As M),s4,s5]) (Ci 0 L.length) 0 [sh (scr ns),si at_,sh (As L),sh (As []),Af,Af] ⟨[],Af,Af,by simp,rfl⟩ (by
  rintro n y hy Z ⟨M,s4,s5,pm,rfl⟩;obtain⟨hn,rfl⟩:=Pu hy;rw[Fq]at pm;rw[DF,Fq];have hx:L[n]?=Ab L[n]:=B1 hn;obtain⟨M',v5,pm',e⟩:=lU (s4:=s4) (s5:=s5) hm ha hx (M:=M) (by rw[pm.length_eq];simp;omega)
  refine⟨_,e,M',_,_,?_,rfl⟩;rw[List.take_succ,hx];exact pm'.trans (pm.append_right _))
 obtain⟨Z',e,M,s4,s5,pm,rfl⟩:=lp;rw[Fq,LV,List.take_length]at pm;refine⟨M,pm,?_⟩;have ln:biD .len [As L]=.ok (.int (L.length:Ae)):=Uu L;have rg:CA 0 (L.length:Ae)=.ok (Ci 0 ((L.length:Ae)-0).toNat):=JO (by decide) (by decide) (by omega) (by omega)
 rw[Fo,Dq]at rg;have e0:As []=.lst []:=rfl;rw[e0]at e;generalize (L.length:Ae)=N at *;generalize Ci 0 L.length=RL at *;generalize As L=TL at *;generalize As M=TM at *;generalize scr ns=S at *;exact lT ln rg e
theorem lP{a b c:R3}(hp:P4 p)(z:At a b c%p≠0):((Eo p).map λx=>nrm p (ap a b c x)).Nodup:=by
 rw[fF hp z];refine Tt (fH hp) λx hx y hy e=>?_
 have h1:=Tw hp z ((Tr hp x).mp hx).1;have h2:=Tw hp z ((Tr hp y).mp hy).1;rw[<-h1,<-h2,e]
theorem fG(hp:P4 p):4<=(Eo p).length/\(Eo p).length<=60:=by
 rcases hp with rfl|rfl|rfl|rfl<;>decide+kernel
section
variable{U:Gam}{ns:Ac Ae}{p:Ae}
end
noncomputable def KQ:Ss:=(.cons (.ife (.call 56 (.cons (.var 0) (.cons (.var 1) (.cons (.var 3) .nil)))) (.cons (.ret (.bl Aa)) .nil) .nil) .nil)
noncomputable def Nb:Df:=⟨4,Ad,(.cons (.fors 3 (.e (.var 2)) KQ) (.cons (.ret (.bl Ad)) .nil))⟩
noncomputable def MD:E:=(.call 57 (.cons (.var 0) (.cons (.var 5) (.cons (.var 2) .nil))))
noncomputable def OP:E:=(.and (.cons (.cmp .NotEq (.var 6) (.var 2)) (.cons (.no (.call 221 (.cons (.var 0) (.cons (.var 6) (.cons (.var 4) .nil))))) .nil)))
noncomputable def ON:Df:=⟨7,Aa,(.cons (.asg 4 Ad (.comp MD 5 (.e (.var 1)) CT)) (.cons (.ret (.comp KI 6 (.e (.var 3)) OP)) .nil))⟩
noncomputable def KO:Ss:=(.cons (.asg 2 Ad (.call 222 (.cons (.var 0) (.cons (.sl (.var 1) .non (.var 3)) (.cons (.var 4) (.cons (.var 2) .nil)))))) .nil)
noncomputable def MV:Df:=⟨5,Ad,(.cons (.asg 2 Ad (.call 69 (.cons (.var 0) .nil))) (.cons (.forT [3,4] (.enm (.var 1)) KO) (.cons (.ret (.var 2)) .nil)))⟩
section
variable{U:Gam}{p:Ae}
noncomputable def HA(p:Ae)(x:R3)(ls:Ac R3):Ai:=ls.any λl=>decide (BF x l%p=0)
theorem Ui(h:QO U){x:R3}(hp:P4 p)(ix:In3 p x){L:D}:∀(ls:Ac R3)(s3:Sl),(∀ l∈ls,In3 p l)->∃ s3',Bz (AR U 3 KQ) (ls.map (Ap Aa)) [si p,sh (Ap Aa x),sh L,s3]=if HA p x ls=Aa then .ret (.bl Aa) Ad else .next [si p,sh (Ap Aa x),sh L,s3']
 |[],s3,_=>⟨s3,rfl⟩
 |l::ls,s3,hl=>by
  have e:=h p x l hp ix (hl l AA);obtain⟨s3',ih⟩:=Ui h hp ix (L:=L) ls (sh (Ap Aa l)) λy hy=>hl y (Aw _ hy)
  refine⟨s3',?_⟩;show (AR U 3 KQ (Ap Aa l) _).turn _=_;by_cases z:BF x l%p=0
  .have t:HA p x (l::ls)=Aa:=by unfold HA;simp[z]
   rw[FE z]at e;rw[Ax t];generalize Ap Aa x=X at *;generalize Ap Aa l=Y_ at *;simp[AR,KQ,e,Ce]
  .have t:HA p x (l::ls)=HA p x ls:=by unfold HA;simp[z]
   rw[Ca z]at e;rw[t,<-ih];generalize Ap Aa x=X at *;generalize Ap Aa l=Y_ at *;have q:AR U 3 KQ Y_ [si p,sh X,sh L,s3]=.next [si p,sh X,sh L,sh Y_]:=by simp[AR,KQ,e]
   rw[q];rfl
def W2(U:Gam):Prop:=∀(p:Ae)(x:R3)(ls:Ac R3),P4 p->In3 p x->(∀ l∈ls,In3 p l)->U.F 221 [.int p,Ap Aa x,As ls]=.ok (.bl (HA p x ls))
theorem yT(h:QO U)(x:R3)(ls:Ac R3)(hp:P4 p)(ix:In3 p x)(hl:∀ l∈ls,In3 p l):Nb.run U [.int p,Ap Aa x,As ls]=.ok (.bl (HA p x ls)):=by
 obtain⟨s3,e⟩:=Ui h hp ix (L:=As ls) ls Af hl;have sq:Co (As ls)=.ok (ls.map (Ap Aa)):=rfl;generalize As ls=L at *;generalize ls.map (Ap Aa)=M at *;generalize Ap Aa x=X at *;cases hb:HA p x ls with
 |true=>rw[hb,Ax rfl]at e;simp[Nb,Df.run,BD,sq,e]
 |false=>rw[hb,Ay Av]at e;simp[Nb,Df.run,BD,sq,e]
theorem tU(ny:NF p y)(pr:Pr p y r):NF p (nrm p r)/\Pr p (nrm p r) r:=by
 have ex:∃ y,NF p y/\Pr p y r:=⟨y,ny,pr⟩;unfold nrm;rw[dif_pos ex];exact DN ex
theorem cb(hp:P4 p){a b:R3}(na:NF p a)(nb:NF p b)(ne:a≠b)(h:QP U):NF p (nrm p (crs a b))/\Pr p (nrm p (crs a b)) (crs a b)/\U.F 57 [.int p,Ap Aa a,Ap Aa b]=.ok (Ap Aa (nrm p (crs a b))):=by
 obtain⟨y,i,l,pr,e⟩:=h p a b hp na.1 nb.1 na.2 nb.2 ne;obtain⟨n1,n2⟩:=tU ⟨i,l⟩ pr;have q:=Ny hp ⟨i,l⟩ n1 (pr.trans hp (n2.symm hp));rw[q]at e;exact⟨n1,n2,e⟩
theorem WN(hp:P4 p){a b q:R3}(pr:Pr p (nrm p (crs a b)) (crs a b)):BF q (nrm p (crs a b))%p=0↔At a b q%p=0:=by
 rw[yG hp (show Pr p q q from ⟨1,hp.o1,CgR.of (by unfold Cc;simp)⟩) pr,show BF q (crs a b)=At a b q by unfold BF crs At det;grind]
noncomputable def stq(p:Ae)(pts:Ac R3)(f q:R3):Ai:=!decide (q=f) && !(pts.any λa=>decide (At a f q%p=0))
def Lc(U:Gam):Prop:=∀(p:Ae)(pts:Ac R3)(f:R3)(left:Ac R3),P4 p->(∀ x∈pts,NF p x)->NF p f->f∉pts->(∀ x∈left,NF p x)->U.F 222 [.int p,As pts,Ap Aa f,As left]=.ok (As (left.filter (stq p pts f)))
theorem mP(hj:QP U)(ha:W2 U)(pts:Ac R3)(f:R3)(left:Ac R3)(hp:P4 p)(np:∀ x∈pts,NF p x)(nf:NF p f)(ni:f∉pts)(nl:∀ x∈left,NF p x):ON.run U [.int p,As pts,Ap Aa f,As left]=.ok (As (left.filter (stq p pts f))):=by
 have jn:∀ a∈pts,NF p (nrm p (crs a f))/\Pr p (nrm p (crs a f)) (crs a f)/\U.F 57 [.int p,Ap Aa a,Ap Aa f]=.ok (Ap Aa (nrm p (crs a f))):=λa h=>cb hp (np a h) nf (λz=>ni (z ▸ h)) hj
 have c1:∀ xs:Ac R3,(∀ a∈xs,a∈pts)->BU (cG U [si p,sh (As pts),sh (Ap Aa f),sh (As left),Af,Af,Af] 5 CT) (cF U [si p,sh (As pts),sh (Ap Aa f),sh (As left),Af,Af,Af] 5 MD) (xs.map (Ap Aa))=.ok ((xs.map λa=>nrm p (crs a f)).map (Ap Aa)):=by
  intro xs
  induction xs with
  |nil=>intro _;rfl
  |cons a xs ih=>
   intro h;have e:=(jn a (h a AA)).2.2;have e1:cF U [si p,sh (As pts),sh (Ap Aa f),sh (As left),Af,Af,Af] 5 MD (Ap Aa a)=.ok (Ap Aa (nrm p (crs a f))):=by
    generalize Ap Aa (nrm p (crs a f))=Y_ at *;generalize Ap Aa a=X at *;generalize Ap Aa f=F at *;generalize As pts=T at *;generalize As left=TL at *;simp[cF,MD,e]
   have ih':=ih λb hb=>h b (Aw _ hb)
   show (R.ok Aa).bind _=_;rw[R.bind_ok,Ax rfl,e1,R.bind_ok,show BU _ _ (JD _ xs)=_ from ih']
   rfl
 have c1:=c1 pts λ_ h=>h
 have il:∀ l∈(pts.map λa=>nrm p (crs a f)),In3 p l:=λl hl=>by
  obtain⟨a,h,rfl⟩:=Bk.mp hl;exact(jn a h).1.1
 have c2:=Ta (g:=cG U [si p,sh (As pts),sh (Ap Aa f),sh (As left),sh (As (pts.map λa=>nrm p (crs a f))),Af,Af] 6 OP) (f:=cF U [si p,sh (As pts),sh (Ap Aa f),sh (As left),sh (As (pts.map λa=>nrm p (crs a f))),Af,Af] 6 KI) (q:=stq p pts f) left λx hx=>by
  have e:=ha p x _ hp (nl x hx).1 il;have q1:HA p x (pts.map λa=>nrm p (crs a f))=pts.any λa=>decide (At a f x%p=0):=by
   unfold HA;rw[Xl,Cy,BQ,BQ];constructor
   .rintro⟨a,h,z⟩;exact⟨a,h,FE ((WN hp (jn a h).2.1).mp (AQ z))⟩
   .rintro⟨a,h,z⟩;exact⟨a,h,FE ((WN hp (jn a h).2.1).mpr (AQ z))⟩
  rw[q1]at e;have q2:=Mj x f;have f1:=(NA x).1;have f2:=(NA f).1;unfold stq;generalize (pts.any λa=>decide (At a f x%p=0))=B at *
  generalize decide (x=f)=B2 at *;generalize As (pts.map λa=>nrm p (crs a f))=T2 at *
  generalize Ap Aa x=X at *;generalize Ap Aa f=F at *;generalize As pts=T at *;generalize As left=TL at *;constructor
  .cases B2<;>cases B<;>simp[cG,OP,e,q2,f1,f2]
  .simp[cF,KI]
 have s1:Co (As pts)=.ok (pts.map (Ap Aa)):=rfl;have s2:Co (As left)=.ok (left.map (Ap Aa)):=rfl;have e3:As (pts.map λa=>nrm p (crs a f))=.lst ((pts.map λa=>nrm p (crs a f)).map (Ap Aa)):=rfl
 have e4:As (left.filter (stq p pts f))=.lst ((left.filter (stq p pts f)).map (Ap Aa)):=rfl;rw[e3]at c2;rw[e4];generalize (left.filter (stq p pts f)).map (Ap Aa)=RL at *;generalize (pts.map λa=>nrm p (crs a f)).map (Ap Aa)=LL at *
 generalize left.map (Ap Aa)=M2 at *;generalize pts.map (Ap Aa)=M1 at *;generalize Ap Aa f=F at *;generalize As pts=T at *;generalize As left=TL at *;simp[ON,Df.run,BD,s1,s2,c1,c2,Ce]
noncomputable def Ju(p:Ae):Ac R3->Ac R3->Ac R3->Ac R3
 |_,[],left=>left
 |seen,f::rest,left=>Ju p (seen++[f]) rest (left.filter (stq p seen f))
theorem UF(h:Lc U)(hp:P4 p){PT:Ac R3}(np:∀ x∈PT,NF p x)(nd:PT.Nodup)(hz:PT.length<=1000):∀(rest seen left:Ac R3)(s3 s4:Sl),PT=seen++rest->(∀ x∈left,NF p x)->∃ s3' s4',Bz (Ep U [3,4] KO) (Et seen.length (rest.map (Ap Aa))) [si p,sh (As PT),sh (As left),s3,s4]=.next [si p,sh (As PT),sh (As (Ju p seen rest left)),s3',s4']
 |[],seen,left,s3,s4,_,_=>⟨s3,s4,rfl⟩
 |f::rest,seen,left,s3,s4,e,nl=>by
  have nf:NF p f:=np f (by rw[e];simp)
  have ns:∀ x∈seen,NF p x:=λx hx=>np x (by rw[e];simp[hx])
  have ni:f∉seen:=λz=>by
   rw[e,XD]at nd;exact nd.2.2 f z f AA rfl
  have e1:=h p seen f left hp ns nf ni nl;obtain⟨s3',s4',ih⟩:=UF h hp np nd hz rest (seen++[f]) (left.filter (stq p seen f)) (si seen.length) (sh (Ap Aa f)) (by rw[e];simp) λx hx=>nl x (DO.mp hx).1
  refine⟨s3',s4',?_⟩;rw[AM,Bj]at ih;rw[show Ju p seen (f::rest) left=Ju p (seen++[f]) rest (left.filter (stq p seen f)) from rfl,<-ih]
  have s1:slD (As PT) Af (Ab (seen.length:Ae))=.ok (As seen):=by
   rw[NE PT (by omega),Dq,e,XH]
   rfl
  show (Ep U [3,4] KO (.tup [.int seen.length,Ap Aa f]) _).turn _=_;have t:Ep U [3,4] KO (.tup [.int seen.length,Ap Aa f]) [si p,sh (As PT),sh (As left),s3,s4]=.next [si p,sh (As PT),sh (As (left.filter (stq p seen f))),si seen.length,sh (Ap Aa f)]:=by
   generalize As (left.filter (stq p seen f))=T3 at *;generalize As left=T2 at *;generalize As PT=T1 at *;generalize As seen=T0 at *;generalize Ap Aa f=F at *;simp[Ep,KO,FH,EF,s1,e1,slE]
  rw[t];rfl
noncomputable def Db(p:Ae)(pts:Ac R3):Ac R3:=Ju p [] pts (Dc p)
def ZX(U:Gam):Prop:=∀(p:Ae)(pts:Ac R3),P4 p->(∀ x∈pts,NF p x)->pts.Nodup->pts.length<=1000->U.F 223 [.int p,As pts]=.ok (As (Db p pts))
theorem yS(h:Lc U)(ht:∀ p,P4 p->U.F 69 [.int p]=.ok (As (Dc p)))(pts:Ac R3)(hp:P4 p)(np:∀ x∈pts,NF p x)(nd:pts.Nodup)(hz:pts.length<=1000):MV.run U [.int p,As pts]=.ok (As (Db p pts)):=by
 obtain⟨s3,s4,e⟩:=UF h hp np nd hz pts [] (Dc p) Af Af rfl λx hx=>(K7 hp).mp hx
 have e1:=ht p hp;have sq:Co (As pts)=.ok (pts.map (Ap Aa)):=rfl;unfold Db;generalize As (Ju p [] pts (Dc p))=T3 at *;generalize As (Dc p)=T2 at *;generalize pts.map (Ap Aa)=M at *;generalize As pts=T at *;have e':Bz (Ep U [3,4] KO) (Et 0 M) [si p,sh T,sh T2,Af,Af]=.next [si p,sh T,sh T3,s3,s4]:=e;simp[MV,Df.run,BD,e1,sq,e']
end
noncomputable def OR:Df:=⟨2,Ad,(.cons (.ife (.cmp .Eq (.var 0) (.var 1)) (.cons (.rais 107 (.cons (.var 0) .nil)) .nil) .nil) (.cons (.ret (.tup (.cons (.bin .Sub (.bin .Mult (.idx (.var 0) (.int 1)) (.idx (.var 1) (.int 2))) (.bin .Mult (.idx (.var 0) (.int 2)) (.idx (.var 1) (.int 1)))) (.cons (.bin .Sub (.bin .Mult (.idx (.var 0) (.int 2)) (.idx (.var 1) (.int 0))) (.bin .Mult (.idx (.var 0) (.int 0)) (.idx (.var 1) (.int 2)))) (.cons (.bin .Sub (.bin .Mult (.idx (.var 0) (.int 0)) (.idx (.var 1) (.int 1))) (.bin .Mult (.idx (.var 0) (.int 1)) (.idx (.var 1) (.int 0)))) .nil))))) .nil))⟩
theorem dG(U:Gam)(a b:R3)(ha:B3 a)(hb:B3 b)(ne:a≠b):OR.run U [Ap Aa a,Ap Aa b]=.ok (Ap Aa (crs a b)):=by
 obtain⟨x0,x1,x2⟩:=Hu Aa a;obtain⟨y0,y1,y2⟩:=Hu Aa b;have k:∀ {u v},Bd 300 u->Bd 300 v->G9 u v=Aa:=λhu hv=>Lj hu hv (by decide) (by decide)
 have f:∀ r:R3,flD 5 (Ap Aa r)=Aa:=λ_=>rfl
 have e:eqD (Ap Aa a) (Ap Aa b)=Ad:=by rw[Mj];exact Ca ne
 simp[OR,Df.run,BD,f,e,x0,x1,x2,y0,y1,y2,k ha.2.1 hb.2.2,k ha.2.2 hb.2.1,k ha.2.2 hb.1,k ha.1 hb.2.2,k ha.1 hb.2.1,k ha.2.1 hb.1];rfl
section
variable{U:Gam}{ns:Ac Ae}
theorem in1(b:Ai):biD .int [.bl b]=.ok (.int (if b=Aa then 1 else 0)):=by cases b<;>rfl
end
theorem JQ{body:D->Rho->O}(I:Rho->Prop)(f:Ag->D)(g:Ag->Ao D):∀(L:Ac Ag),(∀ m∈L,∀ Z,I Z->(∃ d,g m=Ab d/\body (f m) Z=.ret d Ad)\/(g m=Af/\∃ Z',body (f m) Z=.next Z'/\I Z'))->∀ Z,I Z->(∃ d,L.findSome? g=Ab d/\Bz body (L.map f) Z=.ret d Ad)\/(L.findSome? g=Af/\∃ Z',Bz body (L.map f) Z=.next Z'/\I Z')
 |[],_,Z,i=>.inr ⟨rfl,Z,rfl,i⟩
 |m::L,h,Z,i=>by
  rcases h m (AA ..) Z i with ⟨d,e1,e2⟩|⟨e1,Z',e2,i'⟩
  .refine .inl ⟨d,by rw[GD,e1],?_⟩
   show (body (f m) Z).turn _=_;rw[e2];rfl
  .rcases JQ I f g L (λm' h'=>h m' (Aw _ h')) Z' i' with ⟨d,a,b⟩|⟨a,r,b,c⟩
   .refine .inl ⟨d,by rw[GD,e1];exact a,?_⟩
    show (body (f m) Z).turn _=_;rw[e2];exact b
   .refine .inr ⟨by rw[GD,e1];exact a,r,?_,c⟩
    show (body (f m) Z).turn _=_;rw[e2];exact b
noncomputable def atZ(pts:Ac R3)(i:Ag):R3:=pts.getD i (0,0,0)
theorem inZ(hg:∀ t∈pts,In3 p t){i:Ag}(h:i<pts.length):In3 p (atZ pts i):=by
 have e:atZ pts i=pts[i]:=by simp[atZ,h]
 rw[e];exact hg _ (C8 h)
theorem bZ(hp:P4 p)(hg:∀ t∈pts,In3 p t){i:Ag}(h:i<pts.length):B3 (atZ pts i):=(GB hp (inZ hg h)).b3 (by decide)
theorem oB{i:Ag}(h:i<pts.length):Dx (pts.map (Ap Aa)) (i:Ae)=.ok (Ap Aa (atZ pts i)):=by
 have h':i<(pts.map (Ap Aa)).length:=by simpa using h
 rw[hG _ i h'];simp[atZ,h]
theorem GP{i:Ag}(h:i<pts.length):EH (As pts) (.int (i:Ae))=.ok (Ap Aa (atZ pts i)):=oB h
def Jv(n:Ag):Prop:=n<20000
theorem uF{j:Ag}(hn:Jv n)(hj:j<n):CA ((j:Ae)+1) (n:Ae)=.ok ((A1 (n-(j+1))).map λm=>D.int ((j+1+m:Ag):Ae)):=by
 have hn':n<20000:=hn;unfold CA;rw[Ax (by omega)]
 unfold Ci;have e:((n:Ae)-((j:Ae)+1)).toNat=n-(j+1):=by omega
 rw[e]
 congr 1
theorem WL:∀(xs:Ac D)(s:Ag),Et (s:Ae) xs=(A1 xs.length).map λm=>D.tup [.int ((s+m:Ag):Ae),xs.getD m .non]
 |[],s=>rfl
 |x::xs,s=>by
  have ih:=WL xs (s+1);rw[Et,AY,FO,A8,C2];have e:((s:Ae)+1)=((s+1:Ag):Ae):=by omega
  rw[e,ih]
  congr 1
  apply GF
  intro m _;show D.tup [.int ((s+1+m:Ag):Ae),xs.getD m .non]=D.tup [.int ((s+(m+1):Ag):Ae),(x::xs).getD (m+1) .non];have e2:s+1+m=s+(m+1):=by omega
  rw[e2];rfl
noncomputable def z3_(p:Ae)(pts:Ac R3)(i j k:Ag):Ao D:=if At (atZ pts i) (atZ pts j) (atZ pts k)%p=0 then Ab (.tup [Ap Aa (atZ pts i),Ap Aa (atZ pts j),Ap Aa (atZ pts k)]) else Af
noncomputable def z2_(p:Ae)(pts:Ac R3)(i j:Ag):Ao D:=(A1 (pts.length-(j+1))).findSome? λm=>z3_ p pts i j (j+1+m)
noncomputable def z1_(p:Ae)(pts:Ac R3)(i:Ag):Ao D:=(A1 (pts.length-(i+1))).findSome? λm=>z2_ p pts i (i+1+m)
noncomputable def z0_(p:Ae)(pts:Ac R3):Ao D:=(A1 pts.length).findSome? (z1_ p pts)
theorem Ng{t:Ag}{it:I}{body:Ss}(h:FN U Z it=.ok xs):evSs U Z (.cons (.fors t it body) .nil)=Bz (AR U t body) xs Z:=by rw[K3,wG,Pw,h,Qk]
theorem M5{j a l:Ag}(hn:Jv pts.length)(hj:j<pts.length)(h1:Cu Z a=.ok (.int (j:Ae)))(h2:Cu Z l=.ok (As pts)):FN U Z (.rng2 (.bin .Add (.var a) (.int 1)) (.bi .len (.cons (.var l) .nil)))=.ok ((A1 (pts.length-(j+1))).map λm=>D.int ((j+1+m:Ag):Ae)):=by
 have e1:evE U Z (.bin .Add (.var a) (.int 1))=.ok (.int ((j:Ae)+1)):=by
  show ((Cu Z a).bind λx=>R.bind (.ok (.int 1)) λy=>CD .Add x y)=_
  rw[h1];rfl
 have e2:evE U Z (.bi .len (.cons (.var l) .nil))=.ok (.int (pts.length:Ae)):=by
  show (((Cu Z l).bind λx=>R.bind (.ok []) λxs=>.ok (x::xs)).bind λxs=>biD .len xs)=_
  rw[h2];show R.ok (D.int (((pts.map (Ap Aa)).length:Ag):Ae))=_;rw[A9]
 have e3:∀ x y:E,(∀ r,top Z x r=r)->(∀ r,top Z y r=r)->∀ i j:Ae,evE U Z x=.ok (.int i)->evE U Z y=.ok (.int j)->FN U Z (.rng2 x y)=CA i j:=λx y tx ty i j hx hy=>by
  rw[eO,iC,tx,ty,hx,hy];simp only[R.bind_ok,Pa]
 rw[e3 _ _ (λ_=>rfl) (λ_=>rfl) _ _ e1 e2]
 exact uF hn hj
section
variable{U:Gam}{p:Ae}{pts:Ac R3}
theorem aC(h:Mf U)(hp:P4 p)(hg:∀ t∈pts,In3 p t){i j:Ag}(hi:i<pts.length)(hj:j<pts.length)(hk:k<pts.length)(Z:Rho)(I:∃ s,Z=[si p,sh (As pts),si i,sh (Ap Aa (atZ pts i)),si j,s]):(∃ d,z3_ p pts i j k=Ab d/\AR U 5 JG (.int (k:Ae)) Z=.ret d Ad)\/(z3_ p pts i j k=Af/\∃ Z',AR U 5 JG (.int (k:Ae)) Z=.next Z'/\∃ s,Z'=[si p,sh (As pts),si i,sh (Ap Aa (atZ pts i)),si j,s]):=by
 obtain⟨s,rfl⟩:=I;have e:=h p Aa _ _ _ hp.pos (bZ hp hg hi) (bZ hp hg hj) (bZ hp hg hk);by_cases z:At (atZ pts i) (atZ pts j) (atZ pts k)%p=0
 .rw[z]at e;exact .inl ⟨_,Ax z,by simp[AR,JG,GP hj,GP hk,e,Ce]⟩
 .exact .inr ⟨Ay z,[si p,sh (As pts),si i,sh (Ap Aa (atZ pts i)),si j,si k],by simp[AR,JG,GP hj,GP hk,e,z],_,rfl⟩
theorem aD(h:Mf U)(hp:P4 p)(hg:∀ t∈pts,In3 p t)(hn:Jv pts.length){i j:Ag}(hi:i<pts.length)(hj:j<pts.length)(Z:Rho)(I:∃ s t,Z=[si p,sh (As pts),si i,sh (Ap Aa (atZ pts i)),s,t]):(∃ d,z2_ p pts i j=Ab d/\AR U 4 KJ (.int (j:Ae)) Z=.ret d Ad)\/(z2_ p pts i j=Af/\∃ Z',AR U 4 KJ (.int (j:Ae)) Z=.next Z'/\∃ s t,Z'=[si p,sh (As pts),si i,sh (Ap Aa (atZ pts i)),s,t]):=by
 obtain⟨s,t,rfl⟩:=I;have e:AR U 4 KJ (.int (j:Ae)) [si p,sh (As pts),si i,sh (Ap Aa (atZ pts i)),s,t]=Bz (AR U 5 JG) ((A1 (pts.length-(j+1))).map λm=>D.int ((j+1+m:Ag):Ae)) [si p,sh (As pts),si i,sh (Ap Aa (atZ pts i)),si j,t]:=by
  exact Ng (M5 hn hj rfl rfl)
 rw[e];rcases JQ (body:=AR U 5 JG) (λZ=>∃ s,Z=[si p,sh (As pts),si i,sh (Ap Aa (atZ pts i)),si j,s]) (λm=>D.int ((j+1+m:Ag):Ae)) (λm=>z3_ p pts i j (j+1+m)) (A1 (pts.length-(j+1))) (λm hm Z I=>aC h hp hg hi hj (by have:=Bb.mp hm;omega) Z I) [si p,sh (As pts),si i,sh (Ap Aa (atZ pts i)),si j,t] ⟨t,rfl⟩ with ⟨d,a,b⟩|⟨a,r,b,u,c⟩
 .exact .inl ⟨d,a,b⟩
 .exact .inr ⟨a,r,b,_,u,c⟩
theorem aE(h:Mf U)(hp:P4 p)(hg:∀ t∈pts,In3 p t)(hn:Jv pts.length){i:Ag}(hi:i<pts.length)(Z:Rho)(I:∃ a b s t,Z=[si p,sh (As pts),a,b,s,t]):(∃ d,z1_ p pts i=Ab d/\Ep U [2,3] HP (.tup [.int ((0+i:Ag):Ae),(pts.map (Ap Aa)).getD i .non]) Z=.ret d Ad)\/(z1_ p pts i=Af/\∃ Z',Ep U [2,3] HP (.tup [.int ((0+i:Ag):Ae),(pts.map (Ap Aa)).getD i .non]) Z=.next Z'/\∃ a b s t,Z'=[si p,sh (As pts),a,b,s,t]):=by
 obtain⟨a,b,s,t,rfl⟩:=I;have e0:(pts.map (Ap Aa)).getD i .non=Ap Aa (atZ pts i):=by simp[atZ,hi]
 have e:Ep U [2,3] HP (.tup [.int ((0+i:Ag):Ae),(pts.map (Ap Aa)).getD i .non]) [si p,sh (As pts),a,b,s,t]=Bz (AR U 4 KJ) ((A1 (pts.length-(i+1))).map λm=>D.int ((i+1+m:Ag):Ae)) [si p,sh (As pts),si i,sh (Ap Aa (atZ pts i)),s,t]:=by
  have e':∀(x y:D),Ep U [2,3] HP (.tup [x,y]) [si p,sh (As pts),a,b,s,t]=evSs U [si p,sh (As pts),sh x,sh y,s,t] HP:=λ_ _=>rfl
  rw[e0,Fq,e'];unfold HP;rw[Ng (M5 hn hi rfl rfl)]
 rw[e];rcases JQ (body:=AR U 4 KJ) (λZ=>∃ s t,Z=[si p,sh (As pts),si i,sh (Ap Aa (atZ pts i)),s,t]) (λm=>D.int ((i+1+m:Ag):Ae)) (λm=>z2_ p pts i (i+1+m)) (A1 (pts.length-(i+1))) (λm hm Z I=>aD h hp hg hn hi (by have:=Bb.mp hm;omega) Z I) [si p,sh (As pts),si i,sh (Ap Aa (atZ pts i)),s,t] ⟨s,t,rfl⟩ with ⟨d,a,b⟩|⟨a,r,b,u,v,c⟩
 .exact .inl ⟨d,a,b⟩
 .exact .inr ⟨a,r,b,_,_,u,v,c⟩
theorem gG(h:Mf U)(hp:P4 p)(hg:∀ t∈pts,In3 p t)(hn:Jv pts.length):O1.run U [.int p,As pts]=.ok ((z0_ p pts).getD .non):=by
 have en:=WL (pts.map (Ap Aa)) 0;rw[A9]at en;have en':Et 0 (pts.map (Ap Aa))=(A1 pts.length).map λm=>D.tup [.int ((0+m:Ag):Ae),(pts.map (Ap Aa)).getD m .non]:=en
 have hE:FN U [si p,sh (As pts),Af,Af,Af,Af] (.enm (.var 1))=.ok ((A1 pts.length).map λm=>D.tup [.int ((0+m:Ag):Ae),(pts.map (Ap Aa)).getD m .non]):=by
  show R.ok (Et 0 (pts.map (Ap Aa)))=_;rw[en']
 rcases JQ (body:=Ep U [2,3] HP) (λZ=>∃ a b s t,Z=[si p,sh (As pts),a,b,s,t]) (λm=>D.tup [.int ((0+m:Ag):Ae),(pts.map (Ap Aa)).getD m .non]) (z1_ p pts) (A1 pts.length) (λm hm Z I=>aE h hp hg hn (Bb.mp hm) Z I) [si p,sh (As pts),Af,Af,Af,Af] ⟨_,_,_,_,rfl⟩ with ⟨d,a,b⟩|⟨a,r,b,u1,u2,u3,u4,c⟩
 .have e:z0_ p pts=Ab d:=a;show (evSs U [si p,sh (As pts),Af,Af,Af,Af] (.cons (.forT [2,3] (.enm (.var 1)) HP) (.cons (.ret .non) .nil))).ans Ad=_;rw[K3,Ua,hE,UC,b,e];rfl
 .have e:z0_ p pts=Af:=a;subst c;show (evSs U [si p,sh (As pts),Af,Af,Af,Af] (.cons (.forT [2,3] (.enm (.var 1)) HP) (.cons (.ret .non) .nil))).ans Ad=_;rw[K3,Ua,hE,UC,b,e];rfl
noncomputable def JM:Ss:=(.cons (.ife (.cmp .Eq (.call 233 (.cons (.var 0) (.cons (.var 4) (.cons (.idx (.var 1) (.var 5)) .nil)))) (.int 0)) (.cons (.ret (.tup (.cons (.idx (.var 1) (.var 2)) (.cons (.idx (.var 1) (.var 3)) (.cons (.idx (.var 1) (.var 5)) .nil))))) .nil) .nil) .nil)
noncomputable def Jb:Ss:=(.cons (.asg 4 Ad (.call 232 (.cons (.var 0) (.cons (.idx (.var 1) (.var 2)) (.cons (.idx (.var 1) (.var 3)) .nil))))) (.cons (.fors 5 (.rng2 (.bin .Add (.var 3) (.int 1)) (.bi .len (.cons (.var 1) .nil))) JM) .nil))
noncomputable def JL:Ss:=(.cons (.fors 3 (.rng2 (.bin .Add (.var 2) (.int 1)) (.bi .len (.cons (.var 1) .nil))) Jb) .nil)
noncomputable def OA:Df:=⟨6,Ad,(.cons (.fors 2 (.rng (.bi .len (.cons (.var 1) .nil))) JL) (.cons (.ret .non) .nil))⟩
theorem pF(hc:GM U)(hs:Gq U)(hp:P4 p)(hg:∀ t∈pts,In3 p t){i j:Ag}(hi:i<pts.length)(hj:j<pts.length)(hk:k<pts.length):U.F 233 [.int p,Ap Aa (mdR p (crs (atZ pts i) (atZ pts j))),Ap Aa (atZ pts k)]=.ok (.int (At (atZ pts i) (atZ pts j) (atZ pts k)%p)):=by
 have e:=hs p Aa Aa (mdR p (crs (atZ pts i) (atZ pts j))) (atZ pts k) hp.pos ((GB hp (N6 hp.pos _)).b3 (by decide)) (bZ hp hg hk)
 have q:BF (mdR p (crs (atZ pts i) (atZ pts j))) (atZ pts k)%p=At (atZ pts i) (atZ pts j) (atZ pts k)%p:=by
  have c:=HQ (CgR.md (p:=p) (a:=mdR p (crs (atZ pts i) (atZ pts j))) _root_.rfl) (CgR.rfl (a:=atZ pts k));have d:BF (crs (atZ pts i) (atZ pts j)) (atZ pts k)=At (atZ pts i) (atZ pts j) (atZ pts k):=by unfold BF crs At det;grind
  rw[d]at c;exact c
 rw[q]at e;exact e
theorem aU(hc:GM U)(hs:Gq U)(hp:P4 p)(hg:∀ t∈pts,In3 p t){i j:Ag}(hi:i<pts.length)(hj:j<pts.length)(hk:k<pts.length)(Z:Rho)(I:∃ s,Z=[si p,sh (As pts),si i,si j,sh (Ap Aa (mdR p (crs (atZ pts i) (atZ pts j)))),s]):(∃ d,z3_ p pts i j k=Ab d/\AR U 5 JM (.int (k:Ae)) Z=.ret d Ad)\/(z3_ p pts i j k=Af/\∃ Z',AR U 5 JM (.int (k:Ae)) Z=.next Z'/\∃ s,Z'=[si p,sh (As pts),si i,si j,sh (Ap Aa (mdR p (crs (atZ pts i) (atZ pts j)))),s]):=by
 obtain⟨s,rfl⟩:=I;have e:=pF hc hs hp hg hi hj hk;by_cases z:At (atZ pts i) (atZ pts j) (atZ pts k)%p=0
 .rw[z]at e;exact .inl ⟨_,Ax z,by
   generalize Ap Aa (mdR p (crs (atZ pts i) (atZ pts j)))=LN at *;simp[AR,JM,GP hi,GP hj,GP hk,e,Ce]⟩
 .exact .inr ⟨Ay z,[si p,sh (As pts),si i,si j,sh (Ap Aa (mdR p (crs (atZ pts i) (atZ pts j)))),si k],by
   generalize Ap Aa (mdR p (crs (atZ pts i) (atZ pts j)))=LN at *;simp[AR,JM,GP hi,GP hj,GP hk,e,z],_,rfl⟩
theorem aV(hc:GM U)(hs:Gq U)(hp:P4 p)(hg:∀ t∈pts,In3 p t)(hn:Jv pts.length){i j:Ag}(hi:i<pts.length)(hj:j<pts.length)(Z:Rho)(I:∃ s t u,Z=[si p,sh (As pts),si i,s,t,u]):(∃ d,z2_ p pts i j=Ab d/\AR U 3 Jb (.int (j:Ae)) Z=.ret d Ad)\/(z2_ p pts i j=Af/\∃ Z',AR U 3 Jb (.int (j:Ae)) Z=.next Z'/\∃ s t u,Z'=[si p,sh (As pts),si i,s,t,u]):=by
 obtain⟨s,t,u,rfl⟩:=I;have e1:=hc p Aa Aa (atZ pts i) (atZ pts j) hp.pos (bZ hp hg hi) (bZ hp hg hj);have e:AR U 3 Jb (.int (j:Ae)) [si p,sh (As pts),si i,s,t,u]=Bz (AR U 5 JM) ((A1 (pts.length-(j+1))).map λm=>D.int ((j+1+m:Ag):Ae)) [si p,sh (As pts),si i,si j,sh (Ap Aa (mdR p (crs (atZ pts i) (atZ pts j)))),u]:=by
  have a1:evS U [si p,sh (As pts),si i,si j,t,u] (.asg 4 Ad (.call 232 (.cons (.var 0) (.cons (.idx (.var 1) (.var 2)) (.cons (.idx (.var 1) (.var 3)) .nil)))))=.next [si p,sh (As pts),si i,si j,sh (Ap Aa (mdR p (crs (atZ pts i) (atZ pts j)))),u]:=by
   generalize Ap Aa (mdR p (crs (atZ pts i) (atZ pts j)))=LN at *;simp[GP hi,GP hj,e1]
  show evSs U [si p,sh (As pts),si i,si j,t,u] Jb=_;unfold Jb;rw[K3,a1,nY];generalize Ap Aa (mdR p (crs (atZ pts i) (atZ pts j)))=LN;exact Ng (M5 hn hj rfl rfl)
 rw[e];rcases JQ (body:=AR U 5 JM) (λZ=>∃ s,Z=[si p,sh (As pts),si i,si j,sh (Ap Aa (mdR p (crs (atZ pts i) (atZ pts j)))),s]) (λm=>D.int ((j+1+m:Ag):Ae)) (λm=>z3_ p pts i j (j+1+m)) (A1 (pts.length-(j+1))) (λm hm Z I=>aU hc hs hp hg hi hj (by have:=Bb.mp hm;omega) Z I) [si p,sh (As pts),si i,si j,sh (Ap Aa (mdR p (crs (atZ pts i) (atZ pts j)))),u] ⟨_,rfl⟩ with ⟨d,a,b⟩|⟨a,r,b,w,c⟩
 .exact .inl ⟨d,a,b⟩
 .exact .inr ⟨a,r,b,_,_,w,c⟩
theorem aW(hc:GM U)(hs:Gq U)(hp:P4 p)(hg:∀ t∈pts,In3 p t)(hn:Jv pts.length){i:Ag}(hi:i<pts.length)(Z:Rho)(I:∃ r s t u,Z=[si p,sh (As pts),r,s,t,u]):(∃ d,z1_ p pts i=Ab d/\AR U 2 JL (.int (0+(i:Ae))) Z=.ret d Ad)\/(z1_ p pts i=Af/\∃ Z',AR U 2 JL (.int (0+(i:Ae))) Z=.next Z'/\∃ r s t u,Z'=[si p,sh (As pts),r,s,t,u]):=by
 obtain⟨r,s,t,u,rfl⟩:=I;rw[DF];have e:AR U 2 JL (.int (i:Ae)) [si p,sh (As pts),r,s,t,u]=Bz (AR U 3 Jb) ((A1 (pts.length-(i+1))).map λm=>D.int ((i+1+m:Ag):Ae)) [si p,sh (As pts),si i,s,t,u]:=by
  exact Ng (M5 hn hi rfl rfl)
 rw[e];rcases JQ (body:=AR U 3 Jb) (λZ=>∃ s t u,Z=[si p,sh (As pts),si i,s,t,u]) (λm=>D.int ((i+1+m:Ag):Ae)) (λm=>z2_ p pts i (i+1+m)) (A1 (pts.length-(i+1))) (λm hm Z I=>aV hc hs hp hg hn hi (by have:=Bb.mp hm;omega) Z I) [si p,sh (As pts),si i,s,t,u] ⟨_,_,_,rfl⟩ with ⟨d,a,b⟩|⟨a,r,b,w,x,y,c⟩
 .exact .inl ⟨d,a,b⟩
 .exact .inr ⟨a,r,b,_,w,x,y,c⟩
theorem yM(hN:N=n)(l:biD .len [T]=.ok (.int N))(h:N<=1000)(h0:0<=N):FN U [si p,sh T,Af,Af,Af,Af] (.rng (.bi .len (.cons (.var 1) .nil)))=.ok (Ci 0 n):=by
 have rg:CA 0 N=.ok (Ci 0 (N-0).toNat):=JO (by decide) (by decide) (by omega) (by omega)
 have q:(N-0).toNat=n:=by omega
 rw[q]at rg;generalize Ci 0 n=RR at *;have e:evE U [si p,sh T,Af,Af,Af,Af] (.bi .len (.cons (.var 1) .nil))=.ok (.int N):=by simp[l]
 rw[iB,oH];simp only[sJ,e,R.bind_ok,Pa];exact rg
theorem Pc(pts:Ac R3):biD .len [As pts]=.ok (.int pts.length):=by unfold As;simp
theorem mJ(hz:pts.length<=1000):FN U [si p,sh (As pts),Af,Af,Af,Af] (.rng (.bi .len (.cons (.var 1) .nil)))=.ok (Ci 0 pts.length):=yM rfl (Pc pts) (by omega) (by omega)
theorem gC(hc:GM U)(hs:Gq U)(hp:P4 p)(hg:∀ t∈pts,In3 p t)(hz:pts.length<=1000):OA.run U [.int p,As pts]=.ok ((z0_ p pts).getD .non):=by
 have hn:Jv pts.length:=by show pts.length<20000;omega
 have r6:=mJ (U:=U) (p:=p) hz;rw[show Ci 0 pts.length=(A1 pts.length).map fun(i:Ag)=>D.int (0+(i:Ae)) by unfold Ci;rfl]at r6
 rcases JQ (body:=AR U 2 JL) (λZ=>∃ r s t u,Z=[si p,sh (As pts),r,s,t,u]) (fun(m:Ag)=>D.int (0+(m:Ae))) (z1_ p pts) (A1 pts.length) (λm hm Z I=>aW hc hs hp hg hn (Bb.mp hm) Z I) [si p,sh (As pts),Af,Af,Af,Af] ⟨_,_,_,_,rfl⟩ with ⟨d,a,b⟩|⟨a,r,b,r1,r2,r3,r4,c⟩
 .have e:z0_ p pts=Ab d:=a;show (evSs U [si p,sh (As pts),Af,Af,Af,Af] (.cons (.fors 2 (.rng (.bi .len (.cons (.var 1) .nil))) JL) (.cons (.ret .non) .nil))).ans Ad=_;rw[K3,Pw,r6,Qk,b,e];rfl
 .have e:z0_ p pts=Af:=a;subst c;show (evSs U [si p,sh (As pts),Af,Af,Af,Af] (.cons (.fors 2 (.rng (.bi .len (.cons (.var 1) .nil))) JL) (.cons (.ret .non) .nil))).ans Ad=_;rw[K3,Pw,r6,Qk,b,e];rfl
end
noncomputable def KP:Ss:=(.cons (.ife (.cmp .In (.var 2) (.sl (.var 0) .non (.var 1))) (.cons (.rais 107 (.cons (.var 2) .nil)) .nil) .nil) .nil)
noncomputable def Pp:Df:=⟨3,Ad,(.cons (.forT [1,2] (.enm (.var 0)) KP) .nil)⟩
noncomputable def MW:Df:=⟨2,Ad,(.cons (.expr (.call 194 (.cons (.var 1) .nil))) (.cons (.expr (.call 109 (.cons (.var 0) (.cons (.var 1) .nil)))) .nil))⟩
section
variable{U:Gam}{p:Ae}
theorem jY(PT seen rest:Ac R3)(e:PT=seen++rest):slD (As PT) Af (Ab (seen.length:Ae))=.ok (As seen):=by
 rw[NE PT (by omega),Dq,e,XH]
 rfl
theorem Ps(a:Ae)(n:Ag):Ci a (n+1)=.int a::Ci (a+1) n:=by
 unfold Ci;rw[FO,A8,C2]
 congr 1
 .simp
 .refine GF λk _=>?_
  simp only[Function.comp]
  congr 1
  omega
end
section
variable{U:Gam}{p:Ae}
noncomputable abbrev ow(l:Ac R3):Sl:=Ab (.lst (l.map (Ap Aa)),Aa)
theorem P3(hp:P4 p):(Dc p).length<=133:=by
 unfold Dc;rw[A9,List.length_range];rcases hp with rfl|rfl|rfl|rfl<;>decide
end
noncomputable def cK:Df:=⟨2,Ad,(.cons (.asg 1 Ad (.bin .Mod (.var 1) (.bin .Add (.bin .Add (.bin .Mult (.var 0) (.var 0)) (.var 0)) (.int 1)))) (.cons (.ife (.cmp .Eq (.var 1) (.int 0)) (.cons (.ret (.tup (.cons (.int 0) (.cons (.int 0) (.cons (.int 1) .nil))))) .nil) .nil) (.cons (.ife (.cmp .LtE (.var 1) (.var 0)) (.cons (.ret (.tup (.cons (.int 0) (.cons (.int 1) (.cons (.bin .Sub (.var 1) (.int 1)) .nil))))) .nil) .nil) (.cons (.ret (.tup (.cons (.int 1) (.cons (.bin .FloorDiv (.bin .Sub (.bin .Sub (.var 1) (.var 0)) (.int 1)) (.var 0)) (.cons (.bin .Mod (.bin .Sub (.bin .Sub (.var 1) (.var 0)) (.int 1)) (.var 0)) .nil))))) .nil))))⟩
section
variable{U:Gam}{ns:Ac Ae}{p:Ae}
theorem eW(x:R3)(l:Ac R3):BJ .NotIn (Ap Aa x) (As l)=.ok (.bl (!decide (x∈l))):=by
 have h:=UA x l;have h:(if (flD 5 (Ap Aa x)&&(l.map (Ap Aa)).all (flD 5))=Aa then R.ok (D.bl ((l.map (Ap Aa)).any λy=>eqD y (Ap Aa x))) else .bad)=_:=h
 show (if (flD 5 (Ap Aa x)&&(l.map (Ap Aa)).all (flD 5))=Aa then R.ok (D.bl (!(l.map (Ap Aa)).any λy=>eqD y (Ap Aa x))) else .bad)=_
 split at h
 .rename_i hc;rw[Ax hc]
  injection h with h
  injection h with h
  rw[h]
 .cases h
end
section
variable{U:Gam}{ns:Ac Ae}{p:Ae}
end
section
variable{p:Ae}
theorem Lh(hp:P4 p){s t:Ae}(s0:0<=s)(s1:s<p)(t0:0<=t)(t1:t<p)(ne:s≠t):(t-s)%p≠0:=by
 rcases hp with rfl|rfl|rfl|rfl<;>omega
theorem tK(hp:P4 p){z:R3}(hx:x∈Eo p)(hy:y∈Eo p)(hz:z∈Eo p)(n1:x≠y)(n2:x≠z)(n3:y≠z):At x y z%p≠0:=by
 have p0:=hp.pos;have fm:∀{w:R3},w∈Eo p->w=(0,0,1)\/∃ t:Ae,0<=t/\t<p/\w=(1,t,t*t):=λ{w} hw=>by
  unfold Eo at hw;rcases AD.mp hw with h|h
  .exact .inl h
  .obtain⟨t,ht,rfl⟩:=Bk.mp h;have:=Bb.mp ht;exact .inr ⟨t,by omega,by omega,rfl⟩
 have df:∀{s t:Ae},((1:Ae),s,s*s)≠(1,t,t*t)->s≠t:=λh z=>h (by rw[z])
 rcases fm hx with rfl|⟨s,s0,s1,rfl⟩
 .rcases fm hy with rfl|⟨t,t0,t1,rfl⟩
  .exact absurd rfl n1
  .rcases fm hz with rfl|⟨u,u0,u1,rfl⟩
   .exact absurd rfl n2
   .have k:=Lh hp t0 t1 u0 u1 (df n3);rw[show At ((0:Ae),0,1) (1,t,t*t) (1,u,u*u)=u-t by unfold At det;simp]
    exact k
 .rcases fm hy with rfl|⟨t,t0,t1,rfl⟩
  .rcases fm hz with rfl|⟨u,u0,u1,rfl⟩
   .exact absurd rfl n3
   .have k:=Lh hp u0 u1 s0 s1 (λz=>df n2 z.symm)
    rw[show At ((1:Ae),s,s*s) (0,0,1) (1,u,u*u)=s-u by unfold At det;simp;try grind]
    exact k
  .rcases fm hz with rfl|⟨u,u0,u1,rfl⟩
   .have k:=Lh hp s0 s1 t0 t1 (df n1);rw[show At ((1:Ae),s,s*s) (1,t,t*t) (0,0,1)=t-s by unfold At det;simp;try grind]
    exact k
   .have k1:=Lh hp s0 s1 t0 t1 (df n1);have k2:=Lh hp s0 s1 u0 u1 (df n2);have k3:=Lh hp t0 t1 u0 u1 (df n3);rw[show At ((1:Ae),s,s*s) (1,t,t*t) (1,u,u*u)=(t-s)*((u-s)*(u-t)) by unfold At det;grind]
    exact DY hp k1 (DY hp k2 k3)
def N3s(p:Ae)(L:Ac R3):Prop:=∀ x∈L,∀ y∈L,∀ z∈L,x≠y->x≠z->y≠z->At x y z%p≠0
theorem nM(a b c x y z:R3):At (ap a b c x) (ap a b c y) (ap a b c z)=At a b c*At x y z:=by unfold At det ap BF;grind
theorem oW(d e f:Ae)(x y z:R3):At (Cc d x) (Cc e y) (Cc f z)=d*(e*(f*At x y z)):=by unfold At det Cc;grind
theorem nJ(hp:P4 p){z z':R3}(hx:Pr p x x')(hy:Pr p y y')(hz:Pr p z z')(h:At x' y' z'%p≠0):At x y z%p≠0:=by
 obtain⟨d,dz,ed⟩:=hx;obtain⟨e,ez,ee⟩:=hy;obtain⟨f,fz,ef⟩:=hz;have c:=Vg ed ee ef;rw[oW]at c;rw[show At x y z%p=_ from c]
 exact DY hp dz (DY hp ez (DY hp fz h))
theorem lQ(hp:P4 p){a b c:R3}(G:At a b c%p≠0):N3s p ((Eo p).map λx=>nrm p (ap a b c x)):=by
 intro x hx y hy z hz n1 n2 n3;obtain⟨x0,hx0,rfl⟩:=Bk.mp hx;obtain⟨y0,hy0,rfl⟩:=Bk.mp hy;obtain⟨z0,hz0,rfl⟩:=Bk.mp hz;have sp:∀ {w},w∈Eo p->Pr p (nrm p (ap a b c w)) (ap a b c w):=λ{w} hw=>by
  obtain⟨_,l,el⟩:=Mh hp hw;obtain⟨k,ek⟩:=La hp G el CgR.rfl;exact(KW hp ek).2
 refine nJ hp (sp hx0) (sp hy0) (sp hz0) ?_;rw[nM];exact DY hp G (tK hp hx0 hy0 hz0 (λz=>n1 (by rw[z])) (λz=>n2 (by rw[z])) (λz=>n3 (by rw[z])))
theorem xB(h:∀ i j k,i<j->j<k->k<pts.length->At (atZ pts i) (atZ pts j) (atZ pts k)%p≠0):z0_ p pts=Af:=by
 unfold z0_;rw[E5];intro i hi;unfold z1_;rw[E5];intro m hm;unfold z2_;rw[E5];intro n hn;have a:=Bb.mp hi;have b:=Bb.mp hm;have c:=Bb.mp hn;unfold z3_;rw[Ay (h i (i+1+m) (i+1+m+1+n) (by omega) (by omega) (by omega))]
theorem wY{d:D}(h:z0_ p pts=Ab d):∃ x∈pts,∃ y∈pts,∃ z∈pts,d=.tup [Ap Aa x,Ap Aa y,Ap Aa z]:=by
 unfold z0_ at h;obtain⟨i,hi,h⟩:=Ed h;unfold z1_ at h;obtain⟨m,hm,h⟩:=Ed h;unfold z2_ at h;obtain⟨n,hn,h⟩:=Ed h;have a:=Bb.mp hi;have b:=Bb.mp hm;have c:=Bb.mp hn;have mem:∀{k:Ag},k<pts.length->atZ pts k∈pts:=λ{k} hk=>by
  have e:atZ pts k=pts[k]:=by simp[atZ,hk]
  rw[e];exact C8 hk
 unfold z3_ at h;split at h
 .cases h;exact⟨_,mem (by omega),_,mem (by omega),_,mem (by omega),rfl⟩
 .cases h
theorem P0(hk:k<pts.length):atZ pts k=pts[k]:=by simp[atZ,hk]
theorem wX(nd:pts.Nodup)(h:N3s p pts):z0_ p pts=Af:=xB λi j k h1 h2 h3=>by
 have ne:∀{a b:Ag}(ha:a<pts.length)(hb:b<pts.length),a<b->pts[a]≠pts[b]:=λ{a b} ha hb hab z=>by
  have:=(Xx nd).mp z;omega
 rw[P0 (by omega),P0 (by omega),P0 h3]
 exact h _ (C8 _) _ (C8 _) _ (C8 _) (ne _ _ h1) (ne _ _ (by omega)) (ne _ _ h2)
end
def Mt(U:Gam):Prop:=∀(p n:Ae),P4 p->U.F 231 [.int p,.int n]=.ok (Ap Aa (ptI p (n%(p*p+p+1))))
noncomputable def OD:E:=(.call 231 (.cons (.var 0) (.cons (.var 8) .nil)))
noncomputable def JH:Ss:=(.cons (.ife (.cmp .Eq (.call 233 (.cons (.var 0) (.cons (.var 6) (.cons (.var 7) .nil)))) (.int 0)) (.cons (.dsd 2 (.var 7) (.tup (.cons (.idx (.var 1) (.var 4)) (.cons (.idx (.var 1) (.var 5)) .nil)))) .nil) .nil) .nil)
noncomputable def KA:Ss:=(.cons (.asg 6 Ad (.call 232 (.cons (.var 0) (.cons (.idx (.var 1) (.var 4)) (.cons (.idx (.var 1) (.var 5)) .nil))))) (.cons (.fors 7 (.e (.var 3)) JH) .nil))
noncomputable def Kz:Ss:=(.cons (.fors 5 (.rng2 (.bin .Add (.var 4) (.int 1)) (.bi .len (.cons (.var 1) .nil))) KA) .nil)
noncomputable def LW:Df:=⟨9,Ad,(.cons (.dnw 2) (.cons (.asg 3 Ad (.comp OD 8 (.rng (.bin .Add (.bin .Add (.bin .Mult (.var 0) (.var 0)) (.var 0)) (.int 1))) CT)) (.cons (.fors 4 (.rng (.bi .len (.cons (.var 1) .nil))) Kz) (.cons (.ret (.var 2)) .nil))))⟩
noncomputable def prL:Ac R3->Ac (R3×R3)
 |[]=>[]
 |a::r=>r.map (λb=>(a,b))++prL r
noncomputable def HZ(p:Ae)(x:R3)(q:R3×R3):Ai:=decide (At q.1 q.2 x%p=0)
noncomputable def twD(q:R3×R3):D:=.tup [Ap Aa q.1,Ap Aa q.2]
noncomputable def fpr(p:Ae)(pts:Ac R3)(x:R3):Ao (R3×R3):=(prL pts).find? (HZ p x)
noncomputable def okF(p:Ae):Ac R3->Ac R3->R3->Ai
 |_,[],_=>Aa
 |seen,f::rest,x=>stq p seen f x&&okF p (seen++[f]) rest x
theorem UG(p:Ae):∀(rest seen left:Ac R3),Ju p seen rest left=left.filter (okF p seen rest)
 |[],seen,left=>by
  show left=_;exact(Fd.mpr λ_ _=>rfl).symm
 |f::rest,seen,left=>by
  show Ju p (seen++[f]) rest (left.filter (stq p seen f))=_;rw[UG p rest,List.filter_filter]
  congr 1
  funext x
  show _=(stq p seen f x&&okF p (seen++[f]) rest x);rw[Bool.and_comm]
theorem Vr(p:Ae)(x:R3):∀(rest seen:Ac R3),okF p seen rest x=Aa↔x∉rest/\(∀ a∈seen,∀ f∈rest,At a f x%p≠0)/\∀ q∈prL rest,HZ p x q=Ad
 |[],seen=>by simp[okF,prL]
 |f::rest,seen=>by
  show (stq p seen f x&&okF p (seen++[f]) rest x)=Aa↔_;rw[Al,Vr p x rest (seen++[f])];unfold stq;simp only[Al,Bh,Ew,Xk,AK,List.mem_append,A2,AD,prL,Bk,HZ,E8];constructor
  .rintro⟨⟨h1,h2⟩,h3,h4,h5⟩;refine⟨⟨h1,h3⟩,λa ha g hg=>?_,λq hq=>?_⟩
   .rcases hg with rfl|hg
    .exact h2 a ha
    .exact h4 a (.inl ha) g hg
   .rcases hq with ⟨b,hb,rfl⟩|hq
    .exact h4 f (.inr (.inl rfl)) b hb
    .exact h5 q hq
  .rintro⟨⟨h1,h3⟩,h4,h5⟩;refine⟨⟨h1,λa ha=>h4 a ha f (.inl rfl)⟩,h3,λa ha g hg=>?_,λq hq=>h5 q (.inr hq)⟩
   rcases ha with ha|rfl|ha
   .exact h4 a ha g (.inr hg)
   .exact h5 (a,g) (.inl ⟨g,hg,rfl⟩)
   .cases ha
noncomputable def Mx(p:Ae)(pts:Ac R3)(x:R3):Ai:=!decide (x∈pts)&&(fpr p pts x).isNone
theorem Vc(p:Ae)(pts:Ac R3):Db p pts=(Dc p).filter (Mx p pts):=by
 unfold Db;rw[UG]
 congr 1
 funext x
 rw[Cy,Vr];unfold Mx fpr;simp
noncomputable def IH(kv:Ac (Ac Ae×D))(k:Ac Ae)(v:D):Ac (Ac Ae×D):=if (kv.any λq=>q.1==k)=Aa then kv else F2 kv k v
theorem Qi{k:Ac Ae}:(kv.any λq=>q.1==k)=(CB kv k).isSome:=by
 unfold CB;rw[X2,Cy,List.find?_isSome,BQ]
theorem fS(kv:Ac (Ac Ae×D))(k k':Ac Ae)(v:D):CB (IH kv k v) k'=if k'=k then Ab ((CB kv k).getD v) else CB kv k':=by
 unfold IH;cases e:(kv.any λq=>q.1==k) with
 |true=>
  rw[Ax rfl];rw[Qi]at e;split
  .rename_i h;rw[h];obtain⟨d,hd⟩:=Ef.mp e;rw[hd];rfl
  .rfl
 |false=>
  rw[Ay (by decide)]
  unfold F2;rw[Ay (by rw[e];decide)]
  have hn:CB kv k=Af:=by
   rw[Qi]at e;cases h:CB kv k with
   |none=>rfl
   |some d=>rw[h]at e;cases e
  rw[hn];show ((kv++[(k,v)]).find? λq=>q.1==k').map (·.2)=_
  rw[List.find?_append];split
  .rename_i h;subst h;have:kv.find? (λq=>q.1==k')=Af:=by
    unfold CB at hn;simpa using hn
   rw[this];simp
  .rename_i h;have:([(k,v)].find? λq=>q.1==k')=Af:=by
    simp;exact λz=>h z.symm
   rw[this];unfold CB;simp
theorem T5(kv:Ac (Ac Ae×D))(k:Ac Ae)(v:D):(IH kv k v).length<=kv.length+1:=by
 unfold IH;split
 .omega
 .unfold F2;split
  .rw[A9];omega
  .simp
noncomputable def Gy(p:Ae)(q:R3×R3)(kv:Ac (Ac Ae×D))(x:R3):Ac (Ac Ae×D):=if HZ p x q=Aa then IH kv (tri x) (twD q) else kv
noncomputable def HB(p:Ae)(kv:Ac (Ac Ae×D))(q:R3×R3):Ac (Ac Ae×D):=(Dc p).foldl (Gy p q) kv
theorem Uk(p:Ae)(q:R3×R3)(y:R3):∀(xs:Ac R3)(kv:Ac (Ac Ae×D)),CB (xs.foldl (Gy p q) kv) (tri y)=if y∈xs/\HZ p y q=Aa then Ab ((CB kv (tri y)).getD (twD q)) else CB kv (tri y)
 |[],kv=>by simp
 |x::xs,kv=>by
  rw[F9,Uk p q y xs];by_cases hx:HZ p x q=Aa
  .have e:Gy p q kv x=IH kv (tri x) (twD q):=Ax hx;rw[e,fS];by_cases hy:y=x
   .subst hy;rw[Ax rfl];simp[hx]
   .have:¬ tri y=tri x:=λz=>hy (kP z)
    rw[Ay this];simp[hy]
  .have e:Gy p q kv x=kv:=Ay hx;rw[e];by_cases hy:y=x
   .subst hy;simp[hx]
   .simp[hy]
theorem Uj(p:Ae)(q:R3×R3):∀(xs:Ac R3)(kv:Ac (Ac Ae×D)),(xs.foldl (Gy p q) kv).length<=kv.length+xs.length
 |[],kv=>by simp
 |x::xs,kv=>by
  rw[F9];have h1:=Uj p q xs (Gy p q kv x);have h2:(Gy p q kv x).length<=kv.length+1:=by
   unfold Gy;split
   .exact T5 ..
   .omega
  rw[AY];omega
noncomputable def IL(p:Ae)(pts:Ac R3):Ac (Ac Ae×D):=(prL pts).foldl (HB p) []
theorem Um(p:Ae){y:R3}(hy:y∈Dc p):∀(L:Ac (R3×R3))(kv:Ac (Ac Ae×D)),CB (L.foldl (HB p) kv) (tri y)=match CB kv (tri y) with
  |some v=>Ab v
  |none=>(L.find? (HZ p y)).map twD
 |[],kv=>by
  show CB kv (tri y)=_;cases CB kv (tri y)<;>rfl
 |q::L,kv=>by
  rw[F9,Um p hy L];unfold HB;rw[Uk];by_cases hh:HZ p y q=Aa
  .rw[Ax ⟨hy,hh⟩,Ez,hh];cases CB kv (tri y)<;>rfl
  .rw[Ay (λz=>hh z.2),Ez]
   have:HZ p y q=Ad:=by simpa using hh
   rw[this]
theorem dic_get(p:Ae)(pts:Ac R3)(hy:y∈Dc p):CB (IL p pts) (tri y)=(fpr p pts y).map twD:=Um p hy (prL pts) []
section
variable{U:Gam}{p:Ae}{pts:Ac R3}
theorem gI(x:R3):E1 (Ap Aa x)=.ok (tri x):=rfl
theorem rG{PT EV A B LN X:D}{k:Ac Ae}(ea:EH PT (.int i)=.ok A)(eb:EH PT (.int j)=.ok B)(e:U.F 233 [.int p,LN,X]=.ok (.int v))(ek:E1 X=.ok k)(hz:BY (kv.length+1)=Aa):AR U 7 JH X [si p,sh PT,Ab (.dic kv,Aa),sh EV,si i,si j,sh LN,s7,Af]=.next [si p,sh PT,Ab (.dic (if v=0 then IH kv k (.tup [A,B]) else kv),Aa),sh EV,si i,si j,sh LN,sh X,Af]:=by
 by_cases z:v=0
 .subst z;simp[AR,JH,e,ea,eb,ek,hz,GR,IH]
 .simp[AR,JH,e,z]
theorem Wq{PT EV LN:D}{i j:Ae}{a b:R3}(ea:EH PT (.int i)=.ok (Ap Aa a))(eb:EH PT (.int j)=.ok (Ap Aa b))(e:∀ x,NF p x->U.F 233 [.int p,LN,Ap Aa x]=.ok (.int (At a b x%p))):∀(xs:Ac R3)(kv:Ac (Ac Ae×D))(s7:Sl),(∀ x∈xs,NF p x)->kv.length+xs.length<=60000->∃ s7',Bz (AR U 7 JH) (xs.map (Ap Aa)) [si p,sh PT,Ab (.dic kv,Aa),sh EV,si i,si j,sh LN,s7,Af]=.next [si p,sh PT,Ab (.dic (xs.foldl (Gy p (a,b)) kv),Aa),sh EV,si i,si j,sh LN,s7',Af]
 |[],kv,s7,_,_=>⟨s7,rfl⟩
 |x::xs,kv,s7,hx,hl=>by
  rw[AY]at hl;have st:=rG (p:=p) (EV:=EV) (s7:=s7) (kv:=kv) ea eb (e x (hx x AA)) (gI x) (show Ds (kv.length+1) 1000000=Aa from BG (by omega))
  have e2:(if At a b x%p=0 then IH kv (tri x) (.tup [Ap Aa a,Ap Aa b]) else kv)=Gy p (a,b) kv x:=by
   unfold Gy HZ twD;by_cases z:At a b x%p=0
   .rw[Ax z,Ax (FE z)]
   .rw[Ay z,Ay (by simpa using z)]
  rw[e2]at st;have h2:(Gy p (a,b) kv x).length<=kv.length+1:=by
   unfold Gy;split
   .exact T5 ..
   .omega
  obtain⟨s7',ih⟩:=Wq ea eb e xs (Gy p (a,b) kv x) (sh (Ap Aa x)) (λy hy=>hx y (Aw _ hy)) (by omega)
  refine⟨s7',?_⟩;show (AR U 7 JH (Ap Aa x) _).turn _=_;rw[st];exact ih
theorem QC{PT seen rest:Ac R3}(e:PT=seen++a::rest):EH (As PT) (.int seen.length)=.ok (Ap Aa a):=by
 have h:=GP (pts:=PT) (i:=seen.length) (by rw[e];simp)
 rw[h];simp[atZ,e]
theorem VT(hc:GM U)(hs:Gq U)(hp:P4 p){a b x:R3}(ia:In3 p a)(ib:In3 p b)(ix:In3 p x):U.F 233 [.int p,Ap Aa (mdR p (crs a b)),Ap Aa x]=.ok (.int (At a b x%p)):=by
 have e:=hs p Aa Aa (mdR p (crs a b)) x hp.pos ((GB hp (N6 hp.pos _)).b3 (by decide)) ((GB hp ix).b3 (by decide))
 have q:BF (mdR p (crs a b)) x%p=At a b x%p:=by
  have c:=HQ (CgR.md (p:=p) (a:=mdR p (crs a b)) _root_.rfl) (CgR.rfl (a:=x));have d:BF (crs a b) x=At a b x:=by unfold BF crs At det;grind
  rw[d]at c;exact c
 rw[q]at e;exact e
theorem Ul(hp:P4 p)(kv:Ac (Ac Ae×D))(q:R3×R3):(HB p kv q).length<=kv.length+133:=by
 have h:=Uj p q (Dc p) kv;have:=P3 hp;unfold HB;omega
theorem rF{PT AL LN:D}{kv':Ac (Ac Ae×D)}{s7':Sl}{A B:D}(ea:EH PT (.int i)=.ok A)(eb:EH PT (.int j)=.ok B)(el:U.F 232 [.int p,A,B]=.ok LN)(sq:Co AL=.ok xs)(lp:Bz (AR U 7 JH) xs [si p,sh PT,Ab (.dic kv,Aa),sh AL,si i,si j,sh LN,s7,Af]=.next [si p,sh PT,Ab (.dic kv',Aa),sh AL,si i,si j,sh LN,s7',Af]):AR U 5 KA (.int j) [si p,sh PT,Ab (.dic kv,Aa),sh AL,si i,s5,s6,s7,Af]=.next [si p,sh PT,Ab (.dic kv',Aa),sh AL,si i,si j,sh LN,s7',Af]:=by
 simp[AR,KA,ea,eb,el,sq];exact lp
theorem Wp(hc:GM U)(hs:Gq U)(hp:P4 p){PT:Ac R3}(np:∀ x∈PT,NF p x){i:Ae}{a:R3}(ha:a∈PT)(ea:EH (As PT) (.int i)=.ok (Ap Aa a)):∀(rest seen:Ac R3)(kv:Ac (Ac Ae×D))(s5 s6 s7:Sl),PT=seen++rest->kv.length+133*rest.length<=50000->∃ s5' s6' s7',Bz (AR U 5 KA) (Ci seen.length rest.length) [si p,sh (As PT),Ab (.dic kv,Aa),sh (.lst ((Dc p).map (Ap Aa))),si i,s5,s6,s7,Af]=.next [si p,sh (As PT),Ab (.dic ((rest.map λb=>(a,b)).foldl (HB p) kv),Aa),sh (.lst ((Dc p).map (Ap Aa))),si i,s5',s6',s7',Af]
 |[],seen,kv,s5,s6,s7,_,_=>⟨s5,s6,s7,rfl⟩
 |b::rest,seen,kv,s5,s6,s7,e,hl=>by
  rw[AY]at hl;have hb:b∈PT:=by rw[e];simp
  have al:=P3 hp;obtain⟨t7,l0⟩:=Wq (U:=U) (p:=p) (EV:=.lst ((Dc p).map (Ap Aa))) ea (QC e) (λx hx=>VT hc hs hp (np a ha).1 (np b hb).1 hx.1) (Dc p) kv s7 (λx hx=>(K7 hp).mp hx) (by omega)
  have el:=hc p Aa Aa a b hp.pos ((GB hp (np a ha).1).b3 (by decide)) ((GB hp (np b hb).1).b3 (by decide))
  have st:=rF (s5:=s5) (s6:=s6) (AL:=.lst ((Dc p).map (Ap Aa))) ea (QC e) el rfl l0;have h2:=Ul hp kv (a,b);obtain⟨s5',s6',s7',ih⟩:=Wp hc hs hp np ha ea rest (seen++[b]) (HB p kv (a,b)) _ _ t7 (by rw[e];simp) (by omega)
  refine⟨s5',s6',s7',?_⟩;rw[AY,Ps];rw[AM,Bj]at ih;show (AR U 5 KA (.int seen.length) _).turn _=_;rw[st];exact ih
theorem rE{PT AL:D}{kv':Ac (Ac Ae×D)}{n:Ae}{s5' s6' s7':Sl}(ln:biD .len [PT]=.ok (.int n))(rg:CA (i+1) n=.ok xs)(lp:Bz (AR U 5 KA) xs [si p,sh PT,Ab (.dic kv,Aa),sh AL,si i,s5,s6,s7,Af]=.next [si p,sh PT,Ab (.dic kv',Aa),sh AL,si i,s5',s6',s7',Af]):AR U 4 Kz (.int i) [si p,sh PT,Ab (.dic kv,Aa),sh AL,s4,s5,s6,s7,Af]=.next [si p,sh PT,Ab (.dic kv',Aa),sh AL,si i,s5',s6',s7',Af]:=by
 simp[AR,Kz,ln,rg];exact lp
theorem Wo(hc:GM U)(hs:Gq U)(hp:P4 p){PT:Ac R3}(np:∀ x∈PT,NF p x)(hz:PT.length<=15):∀(rest seen:Ac R3)(kv:Ac (Ac Ae×D))(s4 s5 s6 s7:Sl),PT=seen++rest->kv.length+2000*rest.length<=40000->∃ s4' s5' s6' s7',Bz (AR U 4 Kz) (Ci seen.length rest.length) [si p,sh (As PT),Ab (.dic kv,Aa),sh (.lst ((Dc p).map (Ap Aa))),s4,s5,s6,s7,Af]=.next [si p,sh (As PT),Ab (.dic ((prL rest).foldl (HB p) kv),Aa),sh (.lst ((Dc p).map (Ap Aa))),s4',s5',s6',s7',Af]
 |[],seen,kv,s4,s5,s6,s7,_,_=>⟨s4,s5,s6,s7,rfl⟩
 |a::rest,seen,kv,s4,s5,s6,s7,e,hl=>by
  rw[AY]at hl;have ha:a∈PT:=by rw[e];simp
  have hr:rest.length<=15:=by rw[e]at hz;simp at hz;omega
  have e':PT=(seen++[a])++rest:=by rw[e];simp
  obtain⟨t5,t6,t7,l1⟩:=Wp hc hs hp np ha (QC e) rest (seen++[a]) kv s5 s6 s7 e' (by omega)
  have lk:∀(L:Ac R3)(kv:Ac (Ac Ae×D)),((L.map λb=>(a,b)).foldl (HB p) kv).length<=kv.length+133*L.length:=by
   intro L
   induction L with
   |nil=>intro kv;simp
   |cons b L ih=>
    intro kv;rw[A8,F9,AY];have:=ih (HB p kv (a,b));have:=Ul hp kv (a,b);omega
  have lk':=lk rest kv;have rg:CA ((seen.length:Ae)+1) (PT.length:Ae)=.ok (Ci (seen.length+1) rest.length):=by
   have q:(PT.length:Ae)=seen.length+1+rest.length:=by rw[e];simp;omega
   rw[q,JO (by omega) (by omega) (by omega) (by omega)]
   congr 2
   omega
  have ln:=Pc PT;rw[AM,Bj]at l1;have st:=rE (s4:=s4) ln rg (by exact l1)
  obtain⟨s4',s5',s6',s7',ih⟩:=Wo hc hs hp np hz rest (seen++[a]) ((rest.map λb=>(a,b)).foldl (HB p) kv) (si seen.length) t5 t6 t7 e' (by omega)
  refine⟨s4',s5',s6',s7',?_⟩;rw[AY,Ps];rw[AM,Bj]at ih;show (AR U 4 Kz (.int seen.length) _).turn _=_;rw[st,show prL (a::rest)=rest.map (λb=>(a,b))++prL rest from rfl,List.foldl_append]
  exact ih
theorem VU(h:Mt U)(hp:P4 p){q e:E}(hg:∀ n:Ag,(n:Ae)<p*p+p+1->cG U Z k q (.int (n:Ae))=.ok Aa/\cF U Z k e (.int (n:Ae))=U.F 231 [.int p,.int (n:Ae)]):BU (cG U Z k q) (cF U Z k e) (Ci 0 (p*p+p+1).toNat)=.ok ((Dc p).map (Ap Aa)):=by
 have N1:0<=p*p+p+1/\p*p+p+1<=1000:=by rcases hp with rfl|rfl|rfl|rfl<;>decide
 have key:∀ L:Ac Ag,(∀ k∈L,(k:Ae)<p*p+p+1)->BU (cG U Z k q) (cF U Z k e) (L.map fun(k:Ag)=>D.int (0+(k:Ae)))=.ok ((L.map fun(n:Ag)=>ptI p n).map (Ap Aa)):=by
  intro L
  induction L with
  |nil=>intro _;rfl
  |cons n L ih=>
   intro hL;have e1:=h p n hp;have hn:=hL n AA;rw[A3 (by omega) hn]at e1
   obtain⟨g1,g2⟩:=hg n hn;rw[e1]at g2;have ih':=ih λm hm=>hL m (Aw _ hm)
   rw[A8,DF];show (cG U Z k q (.int (n:Ae))).bind _=_;rw[g1,R.bind_ok,Ax rfl,g2,R.bind_ok,show BU _ _ (JD _ L)=_ from ih']
   rfl
 unfold Dc Ci;exact key _ λk hk=>by have:=Bb.mp hk;omega
theorem dQ{PT:D}{n:Ae}{AL:Ac D}(m:D7 p p=Aa)(hN:p*p+p+1=N)(rN:CA 0 N=.ok RL)(cp:BU (cG U [si p,sh PT,Ab (.dic [],Aa),Af,Af,Af,Af,Af,Af] 8 CT) (cF U [si p,sh PT,Ab (.dic [],Aa),Af,Af,Af,Af,Af,Af] 8 OD) RL=.ok AL)(ln:biD .len [PT]=.ok (.int n))(rg:CA 0 n=.ok xs)(lp:Bz (AR U 4 Kz) xs [si p,sh PT,Ab (.dic [],Aa),sh (.lst AL),Af,Af,Af,Af,Af]=.next [si p,sh PT,Ab (.dic kv,Aa),sh (.lst AL),s4,s5,s6,s7,Af]):LW.run U [.int p,PT]=.ok (.dic kv):=by
 simp[LW,Df.run,BD,m,hN,rN,cp,ln,rg,lp]
def Vw(U:Gam):Prop:=∀(p:Ae)(pts:Ac R3),P4 p->(∀ x∈pts,NF p x)->pts.length<=15->U.F 235 [.int p,As pts]=.ok (.dic (IL p pts))
theorem mS(h:Mt U)(hc:GM U)(hs:Gq U)(hp:P4 p)(np:∀ x∈pts,NF p x)(hz:pts.length<=15):LW.run U [.int p,As pts]=.ok (.dic (IL p pts)):=by
 have N1:0<=p*p+p+1/\p*p+p+1<=1000:=by rcases hp with rfl|rfl|rfl|rfl<;>decide
 obtain⟨s4,s5,s6,s7,lp⟩:=Wo hc hs hp np hz pts [] [] Af Af Af Af rfl (by simp;omega)
 have rN:CA 0 (p*p+p+1)=.ok (Ci 0 (p*p+p+1).toNat):=by
  have:=JO (lo:=0) (hi:=p*p+p+1) (by decide) (by decide) (by omega) (by omega)
  rwa [Fo]at this
 have rg:CA 0 (pts.length:Ae)=.ok (Ci 0 pts.length):=by
  have:=JO (lo:=0) (hi:=(pts.length:Ae)) (by decide) (by decide) (by omega) (by omega)
  rwa [Fo,Dq]at this
 have ph:=hp.hi;have pl:=hp.lo;have m:D7 p p=Aa:=Ix (by omega) (by omega)
 refine dQ m rfl rN (VU h hp λn hn=>⟨rfl,?_⟩) (Pc pts) rg (by exact lp)
 generalize As pts=T;simp[cF,OD];cases U.F 231 [.int p,.int (n:Ae)]<;>rfl
end
section
variable{U:Gam}{p:Ae}{pts:Ac R3}
theorem Me{α:Type}{g:D->R Ai}{f:D->R D}(φ:α->D)(c:α->Ai)(ψ:α->D):∀ L:Ac α,(∀ x∈L,g (φ x)=.ok (c x)/\(c x=Aa->f (φ x)=.ok (ψ x)))->BU g f (L.map φ)=.ok ((L.filter c).map ψ)
 |[],_=>rfl
 |x::L,h=>by
  obtain⟨h1,h2⟩:=h x AA;have ih:=Me φ c ψ L λy hy=>h y (Aw _ hy)
  show (g (φ x)).bind _=_;rw[h1,R.bind_ok,DA];cases e:c x with
  |true=>
   rw[Ax rfl,h2 e,R.bind_ok,show BU _ _ (JD _ L)=_ from ih]
   rfl
  |false=>exact ih
theorem U_2{PT:Ac R3}(nd:PT.Nodup):∀(rest seen:Ac R3)(s1 s2:Sl),PT=seen++rest->∃ Z':Rho,Bz (Ep U [1,2] KP) (Et seen.length (rest.map (Ap Aa))) [sh (As PT),s1,s2]=.next Z'
 |[],seen,s1,s2,_=>⟨_,rfl⟩
 |x::rest,seen,s1,s2,e=>by
  have s:=jY PT seen (x::rest) e;have c:=UA x seen;have hm:x∉seen:=λz=>by
   rw[e]at nd;exact(List.nodup_append.mp nd).2.2 x z x (AA ..) rfl
  rw[Ca hm]at c;obtain⟨Z',ih⟩:=U_2 nd rest (seen++[x]) (si seen.length) (sh (Ap Aa x)) (by rw[e];simp)
  refine⟨Z',?_⟩;rw[AM,Bj]at ih;rw[<-ih];show (Ep U [1,2] KP (.tup [.int seen.length,Ap Aa x]) _).turn _=_;have t:Ep U [1,2] KP (.tup [.int seen.length,Ap Aa x]) [sh (As PT),s1,s2]=.next [sh (As PT),si seen.length,sh (Ap Aa x)]:=by
   generalize As PT=T at *;generalize As seen=T0 at *;generalize Ap Aa x=X at *;simp[Ep,KP,FH,EF,s,c,slE]
  rw[t];rfl
theorem yO(pts:Ac R3)(nd:pts.Nodup):Pp.run U [As pts]=.ok .non:=by
 obtain⟨Z',e⟩:=U_2 (U:=U) nd pts [] Af Af rfl;have sq:Co (As pts)=.ok (pts.map (Ap Aa)):=rfl;have e':Bz (Ep U [1,2] KP) (Et 0 (pts.map (Ap Aa))) [sh (As pts),Af,Af]=_:=e;generalize pts.map (Ap Aa)=M at *;generalize As pts=T at *;simp[Pp,Df.run,BD,sq,e']
structure Fre (p:Ae) (l:Ac R3):Prop where
 nf:∀ x∈l,NF p x
 nd:l.Nodup
 z0:z0_ p l=Af
 ln:(l.length:Ae)<=p+1
theorem Qh(hp:P4 p)(f:Fre p pts):pts.length<=12:=by have:=hp.hi;have:=f.ln;omega
noncomputable def HN:Ss:=(.cons (.asg 6 Ad (.call 231 (.cons (.var 0) (.cons (.call 228 (.cons (.var 1) (.cons (.bin .Add (.int 20) (.var 5)) .nil))) .nil)))) (.cons (.ife (.and (.cons (.cmp .Lt (.bi .len (.cons (.var 4) .nil)) (.var 3)) (.cons (.cmp .NotIn (.var 6) (.var 4)) (.cons (.cmp .Is (.call 234 (.cons (.var 0) (.cons (.bin .Add (.var 4) (.lst (.cons (.var 6) .nil))) .nil))) .non) .nil)))) (.cons (.app 4 (.var 6)) .nil) .nil) .nil))
noncomputable def JJ(j:Ae):Df:=⟨7,Ad,(.cons (.asg 2 Ad (.bin .Mod (.call 228 (.cons (.var 1) (.cons (.int 1) .nil))) (.int 2))) (.cons (.asg 3 Ad (.bin .Mod (.call 228 (.cons (.var 1) (.cons (.int 2) .nil))) (.bin .Add (.var 0) (.int j)))) (.cons (.ife (.cmp .Eq (.var 2) (.int 0)) (.cons (.ret (.sl (.call 251 (.cons (.var 1) (.cons (.int 20) (.cons (.call 290 (.cons (.var 0) (.cons (.call 250 (.cons (.var 0) (.cons (.var 1) (.cons (.int 3) .nil)))) .nil))) .nil)))) .non (.var 3))) .nil) .nil) (.cons (.asg 4 Aa (.lst .nil)) (.cons (.fors 5 (.rng (.int 20)) HN) (.cons (.ret (.var 4)) .nil))))))⟩
section
variable{U:Gam}{p:Ae}{ns:Ac Ae}
structure HFs (U:Gam) (ns:Ac Ae):Prop where
 tb:pW U ns
 ov:wW U
 ord:pX U ns
 mix:Jm U 228 ns
 pt:Mt U
 f4:U.fr 234=Ad
 th:∀(p:Ae)(pts:Ac R3),P4 p->(∀ x∈pts,NF p x)->pts.length<=1000->U.F 234 [.int p,As pts]=.ok ((z0_ p pts).getD .non)
theorem xL{S X TH:D}{l:Ac D}{q n:Ae}{s2:Sl}{b1:Ai}(em:U.F 228 [S,.int (20+i)]=.ok (.int n))(ex:U.F 231 [.int p,.int n]=.ok X)(ln:BY (l.length+1)=Aa)(fX:flD 5 X=Aa)(fl:∀ x∈l,flD 5 x=Aa)(hn:(∀ x∈l,eqD x X=Ad)↔b1=Aa)(et:U.F 234 [.int p,.lst (l++[X])]=.ok TH){b2:Ai}(hT:BJ .Is TH .non=.ok (.bl b2)):AR U 5 HN (.int i) [si p,sh S,s2,si q,Ab (.lst l,Aa),s5,s6]=.next [si p,sh S,s2,si q,Ab (.lst (if (decide ((l.length:Ae)<q)&&(b1&&b2))=Aa then l++[X] else l),Aa),si i,sh X]:=by
 by_cases c1:(l.length:Ae)<q
 .cases b1 with
  |false=>
   simp[AR,HN,em,ex,fX,hn,c1];exact fl
  |true=>
   cases b2 with
   |false=>
    simp[AR,HN,em,ex,fX,hn,c1,ln,et,hT];exact fl
   |true=>
    simp[AR,HN,em,ex,fX,hn,c1,ln,et,hT,CC];exact fl
 .simp[AR,HN,em,ex,c1]
theorem au(d:Ao D)(h:∀ x,d=Ab x->∃ ds,x=.tup ds):BJ .Is (d.getD .non) .non=.ok (.bl d.isNone):=by
 cases d with
 |none=>rfl
 |some x=>
  obtain⟨ds,rfl⟩:=h x rfl;rfl
theorem uS(hp:P4 p)(n:Ae):NF p (ptI p (n%(p*p+p+1))):=by
 have N1:0<p*p+p+1:=by rcases hp with rfl|rfl|rfl|rfl<;>decide
 have b0:=Bf n (Xe N1);have b1:=Bc n N1;refine(K7 hp).mp (Bk.mpr ⟨(n%(p*p+p+1)).toNat,Bb.mpr (by omega),?_⟩)
 show ptI p ((n%(p*p+p+1)).toNat:Ae)=_;rw[Xh b0]
theorem Rb(h:HFs U ns)(hp:P4 p){q:Ae}(q0:q<=p+1){s2:Sl}:∀(m:Ag)(i:Ag)(l:Ac R3)(s5 s6:Sl),Fre p l->(l.length:Ae)<=max q 0->∃ l' s5' s6',Fre p l'/\(l'.length:Ae)<=max q 0/\Bz (AR U 5 HN) (Ci i m) [si p,sh (scr ns),s2,si q,Ab (.lst (l.map (Ap Aa)),Aa),s5,s6]=.next [si p,sh (scr ns),s2,si q,Ab (.lst (l'.map (Ap Aa)),Aa),s5',s6']
 |0,i,l,s5,s6,f,hl=>⟨l,s5,s6,f,hl,rfl⟩
 |m+1,i,l,s5,s6,f,hl=>by
  have ph:=hp.hi;have pl:=hp.lo;have fln:=f.ln;obtain⟨n,n0,em⟩:=h.mix (20+i) (by omega)
  have ex:=h.pt p n hp;have nx:NF p (ptI p (n%(p*p+p+1))):=uS hp n;generalize ptI p (n%(p*p+p+1))=x at *;have fl:∀ y∈l.map (Ap Aa),flD 5 y=Aa:=λy hy=>by
   obtain⟨z,_,rfl⟩:=Bk.mp hy;rfl
  have hn:(∀ y∈l.map (Ap Aa),eqD y (Ap Aa x)=Ad)↔(!decide (x∈l))=Aa:=by
   rw[Bh,Ew];constructor
   .intro z hx;have:=z _ (XC hx);rw[Mj]at this;simp at this
   .intro z y hy;obtain⟨w,hw,rfl⟩:=Bk.mp hy;rw[Mj];exact Ca λe=>z (e ▸ hw)
  have et:U.F 234 [.int p,.lst (l.map (Ap Aa)++[Ap Aa x])]=.ok ((z0_ p (l++[x])).getD .non):=by
   have q:=h.th p (l++[x]) hp (λy hy=>by
    rcases Dj.mp hy with z|z
    .exact f.nf y z
    .rw[A2.mp z];exact nx) (by simp;omega)
   unfold As at q;rw[Di]at q;exact q
  have hT:=au (z0_ p (l++[x])) λy hy=>by
   obtain⟨_,_,_,_,_,_,e⟩:=wY hy;exact⟨_,e⟩
  have st:=xL (s2:=s2) (s5:=s5) (s6:=s6) (q:=q) em ex (show Ds _ 1000000=Aa from BG (by rw[A9];omega)) rfl fl hn et hT
  rw[A9]at st;rw[Ps];by_cases c:(decide ((l.length:Ae)<q)&&(!decide (x∈l)&&(z0_ p (l++[x])).isNone))=Aa
  .rw[Ax c,show l.map (Ap Aa)++[Ap Aa x]=(l++[x]).map (Ap Aa) by rw[Di];rfl]at st
   simp only[Al,AK,Bh,Ew,Option.isNone_iff_eq_none]at c;obtain⟨c1,c2,c3⟩:=c;have f':Fre p (l++[x]):=⟨λy hy=>by
    rcases Dj.mp hy with z|z
    .exact f.nf y z
    .rw[A2.mp z];exact nx,List.nodup_append.mpr ⟨f.nd,by simp,λa ha b hb=>by rw[A2.mp hb];exact λz=>c2 (z ▸ ha)⟩,c3,by rw[AM,Bj];omega⟩
   obtain⟨l',s5',s6',g,gl,ih⟩:=Rb h hp q0 (s2:=s2) m (i+1) (l++[x]) (si i) (sh (Ap Aa x)) f' (by rw[AM,Bj];omega)
   refine⟨l',s5',s6',g,gl,?_⟩;show (AR U 5 HN (.int i) _).turn _=_;rw[st];exact ih
  .rw[Ay c]at st;obtain⟨l',s5',s6',g,gl,ih⟩:=Rb h hp q0 (s2:=s2) m (i+1) l (si i) (sh (Ap Aa x)) f hl;refine⟨l',s5',s6',g,gl,?_⟩;show (AR U 5 HN (.int i) _).turn _=_;rw[st];exact ih
theorem jF{S RR OO MM T:D}{m1 m2 j:Ae}(hj:0<p+j)(e1:U.F 228 [S,.int 1]=.ok (.int m1))(e2:U.F 228 [S,.int 2]=.ok (.int m2))(h0:m1%2=0)(et:U.F 250 [.int p,S,.int 3]=.ok RR)(eo:U.F 290 [.int p,RR]=.ok OO)(er:U.F 251 [S,.int 20,OO]=.ok MM)(sl:slD MM Af (Ab (m2%(p+j)))=.ok T):(JJ j).run U [.int p,S]=.ok T:=by
 simp[JJ,Df.run,BD,e1,e2,h0,hj,et,eo,er,sl,slE]
theorem jE{S:D}{L:Ac D}{m1 m2 j:Ae}(hj:0<p+j)(e1:U.F 228 [S,.int 1]=.ok (.int m1))(e2:U.F 228 [S,.int 2]=.ok (.int m2))(h0:m1%2≠0)(rg:CA 0 20=.ok RL)(lp:Bz (AR U 5 HN) RL [si p,sh S,si (m1%2),si (m2%(p+j)),Ab (.lst [],Aa),Af,Af]=.next [si p,sh S,si (m1%2),si (m2%(p+j)),Ab (.lst L,Aa),s5,s6]):(JJ j).run U [.int p,S]=.ok (.lst L):=by
 simp[JJ,Df.run,BD,e1,e2,h0,hj,rg,Ce,lp]
theorem aM(h:HFs U ns)(hp:P4 p)(j0:1<=j)(j1:j<=2):∃ l,Fre p l/\(l.length:Ae)<=p+j-1/\(JJ j).run U [.int p,scr ns]=.ok (As l):=by
 have ph:=hp.hi;have pl:=hp.lo;obtain⟨m1,_,e1⟩:=h.mix 1 (by decide)
 obtain⟨m2,_,e2⟩:=h.mix 2 (by decide)
 have b0:=Bf m2 (show p+j≠0 by omega)
 have b1:=Bc m2 (show 0<p+j by omega)
 by_cases h0:m1%2=0
 .obtain⟨a,b,c,G,et⟩:=h.tb p 3 hp (by decide)
  have eo:=h.ov p a b c G;have ll:((Eo p).map λx=>nrm p (ap a b c x)).length<=60:=by rw[A9];exact(fG hp).2
  have nO:∀ x∈((Eo p).map λx=>nrm p (ap a b c x)),NF p x:=λx hx=>by
   obtain⟨w,hw,rfl⟩:=Bk.mp hx;obtain⟨_,l,el⟩:=Mh hp hw;obtain⟨k,ek⟩:=La hp G.nz el CgR.rfl;exact(KW hp ek).1
  have dO:=lP hp G.nz;have zO:=lQ hp G.nz;obtain⟨M,pm,er⟩:=h.ord 20 _ (by decide) ll
  generalize ((Eo p).map λx=>nrm p (ap a b c x))=OL at *
  have sl:=NE M (i:=m2%(p+j)) (by omega)
  have mg:∀ x∈M.take (m2%(p+j)).toNat,x∈OL:=λx hx=>pm.mem_iff.mp (List.mem_of_mem_take hx)
  have dg:(M.take (m2%(p+j)).toNat).Nodup:=(pm.nodup_iff.mpr dO).sublist (XI _ _);have lt:=List.length_take_le (m2%(p+j)).toNat M;refine⟨_,⟨λx hx=>nO x (mg x hx),dg,wX dg λx hx y hy z hz=>zO x (mg x hx) y (mg y hy) z (mg z hz),by omega⟩,by omega,jF (by omega) e1 e2 h0 et eo er sl⟩
 .obtain⟨l,s5,s6,f,fl,lp⟩:=Rb h hp (q:=m2%(p+j)) (by omega) (s2:=si (m1%2)) 20 0 [] Af Af ⟨by simp,by simp,by rfl,by simp;omega⟩ (by simp;omega)
  exact⟨l,f,by omega,jE (by omega) e1 e2 h0 rfl (by exact lp)⟩
end
end
noncomputable def KG:Ss:=(.cons (.app 4 (.bin .Add (.tup (.cons (.var 6) .nil)) (.var 8))) .nil)
noncomputable def KD:Ss:=(.cons (.asg 7 Ad (.call 222 (.cons (.var 0) (.cons (.var 1) (.cons (.var 6) (.cons (.sl (.var 2) (.bin .Add (.var 5) (.int 1)) .non) .nil)))))) (.cons (.fors 8 (.e (.call 265 (.cons (.var 0) (.cons (.bin .Add (.var 1) (.lst (.cons (.var 6) .nil))) (.cons (.var 7) (.cons (.bin .Sub (.var 3) (.int 1)) .nil)))))) KG) .nil))
noncomputable def Ja:Df:=⟨9,Aa,(.cons (.ife (.cmp .Eq (.var 3) (.int 0)) (.cons (.ret (.lst (.cons (.tup .nil) .nil))) .nil) .nil) (.cons (.asg 4 Aa (.lst .nil)) (.cons (.forT [5,6] (.enm (.var 2)) KD) (.cons (.ret (.var 4)) .nil))))⟩
section
variable{U:Gam}{p:Ae}
theorem rJ{L B:D}{row:Ac D}(h1:BY (1+row.length)=Aa)(h2:BY (acc.length+1)=Aa):AR U 8 KG (.tup row) [si p,sh T,sh L,si m,Ab (.lst acc,Aa),si i,sh X,sh B,s8]=.next [si p,sh T,sh L,si m,Ab (.lst (acc++[.tup (X::row)]),Aa),si i,sh X,sh B,sh (.tup row)]:=by
 have h1':BY (row.length+1)=Aa:=by rwa [XN]at h1
 simp[AR,KG,h1,h1',h2,CC,XN]
theorem Wr{T L X B:D}{m i:Ae}:∀(rows:Ac (Ac D))(acc:Ac D)(s8:Sl),(∀ r∈rows,r.length<=100)->acc.length+rows.length<=100000->∃ s8',Bz (AR U 8 KG) (rows.map D.tup) [si p,sh T,sh L,si m,Ab (.lst acc,Aa),si i,sh X,sh B,s8]=.next [si p,sh T,sh L,si m,Ab (.lst (acc++rows.map λr=>.tup (X::r)),Aa),si i,sh X,sh B,s8']
 |[],acc,s8,_,_=>⟨s8,by simp[Bz]⟩
 |r::rows,acc,s8,h,hl=>by
  rw[AY]at hl;have st:=rJ (U:=U) (p:=p) (T:=T) (L:=L) (X:=X) (B:=B) (m:=m) (i:=i) (acc:=acc) (row:=r) (s8:=s8) (BG (by have:=h r AA;omega)) (BG (by omega))
  obtain⟨s8',ih⟩:=Wr (T:=T) (L:=L) (X:=X) (B:=B) (m:=m) (i:=i) rows (acc++[.tup (X::r)]) (sh (.tup r)) (λq hq=>h q (Aw _ hq)) (by rw[AM,Bj];omega)
  refine⟨s8',?_⟩;rw[A8,A8];show (AR U 8 KG (.tup r) _).turn _=_;rw[st];refine FY ih ?_;rw[DZ];rfl
theorem rH{L BH T2 L2:D}{rows:Ac D}(sl:slD L (Ab (i+1)) Af=.ok L2)(eb:U.F 222 [.int p,T,X,L2]=.ok BH)(ea:CD .Add T (.lst [X])=.ok T2)(er:U.F 265 [.int p,T2,BH,.int (m-1)]=.ok (.lst rows))(lp:Bz (AR U 8 KG) rows [si p,sh T,sh L,si m,Ab (.lst acc,Aa),si i,sh X,sh BH,s8]=.next Z'):Ep U [5,6] KD (.tup [.int i,X]) [si p,sh T,sh L,si m,Ab (.lst acc,Aa),s5,s6,s7,s8]=.next Z':=by
 simp[Ep,FH,EF,KD,sl,slE,eb,ea,er];exact lp
noncomputable def Kk(inn:R3->Ac R3->Ac (Ac D)):Ac R3->Ac D
 |[]=>[]
 |x::r=>(inn x r).map (λq=>D.tup (Ap Aa x::q))++Kk inn r
theorem pV(l:Ac R3)(x:R3)(h:l.length<=1000):CD .Add (As l) (.lst [Ap Aa x])=.ok (As (l++[x])):=by
 have sz:BY (l.length+1)=Aa:=BG (by omega)
 unfold As;simp[sz]
theorem QJ(h:Lc U)(hp:P4 p){pts LL:Ac R3}(np:∀ x∈pts,NF p x)(hz:pts.length<=100)(nL:∀ x∈LL,NF p x/\x∉pts){m:Ae}(inn:R3->Ac R3->Ac (Ac D))(hi:∀ x∈LL,∀ r:Ac R3,(∀ y∈r,y∈LL)->r.length<=LL.length->U.F 265 [.int p,As (pts++[x]),As (r.filter (stq p pts x)),.int (m-1)]=.ok (.lst ((inn x r).map D.tup))/\(∀ q∈inn x r,q.length<=100)/\(inn x r).length<=200):∀(rest seen:Ac R3)(acc:Ac D)(s5 s6 s7 s8:Sl),LL=seen++rest->acc.length+200*rest.length<=60000->∃ s5' s6' s7' s8',Bz (Ep U [5,6] KD) (Et seen.length (rest.map (Ap Aa))) [si p,sh (As pts),sh (As LL),si m,Ab (.lst acc,Aa),s5,s6,s7,s8]=.next [si p,sh (As pts),sh (As LL),si m,Ab (.lst (acc++Kk inn rest),Aa),s5',s6',s7',s8']
 |[],seen,acc,s5,s6,s7,s8,_,_=>⟨s5,s6,s7,s8,by simp[Bz,Et,Kk]⟩
 |x::rest,seen,acc,s5,s6,s7,s8,e,hl=>by
  rw[AY]at hl;have hx:x∈LL:=by rw[e];simp
  have hr:∀ y∈rest,y∈LL:=λy hy=>by rw[e];simp[hy]
  have sl:slD (As LL) (Ab ((seen.length:Ae)+1)) Af=.ok (As rest):=by
   have:=UU LL (i:=(seen.length:Ae)+1) (by omega) (by rw[e];simp<;>omega)
   rw[this,show ((seen.length:Ae)+1).toNat=seen.length+1 by omega,e]
   congr 2
   rw[show seen++x::rest=(seen++[x])++rest by simp]
   exact List.drop_left' (by simp)
  have eb:=h p pts x rest hp np (nL x hx).1 (nL x hx).2 λy hy=>(nL y (hr y hy)).1
  obtain⟨er,q1,q2⟩:=hi x hx rest hr (by rw[e];simp;omega)
  obtain⟨t8,l0⟩:=Wr (U:=U) (p:=p) (T:=As pts) (L:=As LL) (X:=Ap Aa x) (B:=As (rest.filter (stq p pts x))) (m:=m) (i:=(seen.length:Ae)) (inn x rest) acc s8 q1 (by omega)
  have st:=rH (s5:=s5) (s6:=s6) (s7:=s7) sl eb (pV pts x (by omega)) er l0
  obtain⟨s5',s6',s7',s8',ih⟩:=QJ h hp np hz nL inn hi rest (seen++[x]) (acc++(inn x rest).map λq=>D.tup (Ap Aa x::q)) (si seen.length) (sh (Ap Aa x)) (sh (As (rest.filter (stq p pts x)))) t8 (by rw[e];simp) (by rw[AM,A9];omega)
  refine⟨s5',s6',s7',s8',?_⟩;rw[AM,Bj]at ih;show (Ep U [5,6] KD (.tup [.int seen.length,Ap Aa x]) _).turn _=_;rw[st];refine FY ih ?_;rw[DZ];rfl
theorem Wf{L:D}{xs R:Ac D}(hm:m≠0)(sq:Co L=.ok xs)(lp:Bz (Ep U [5,6] KD) (Et 0 xs) [si p,sh T,sh L,si m,Ab (.lst [],Aa),Af,Af,Af,Af]=.next [si p,sh T,sh L,si m,Ab (.lst R,Aa),s5,s6,s7,s8]):Ja.run U [.int p,T,L,.int m]=.ok (.lst R):=by
 simp[Ja,Df.run,BD,hm,Ce,sq,lp]
def W1(U:Gam):Prop:=∀(p:Ae)(T L:D),U.F 265 [.int p,T,L,.int 0]=.ok (.lst [.tup []])
theorem uO(U:Gam)(p:Ae)(T L:D):Ja.run U [.int p,T,L,.int 0]=.ok (.lst [.tup []]):=by
 simp[Ja,Df.run,BD,Ce]
noncomputable def LA(x:R3):D:=.tup [Ap Aa x]
structure FrO (p:Ae) (pts L:Ac R3):Prop where
 np:∀ x∈pts,NF p x
 hz:pts.length<=100
 nL:∀ x∈L,NF p x/\x∉pts
 lL:L.length<=133
def WZ(U:Gam):Prop:=∀(p:Ae)(pts L:Ac R3),P4 p->FrO p pts L->U.F 265 [.int p,As pts,As L,.int 1]=.ok (.lst (L.map LA))
theorem yR(h:Lc U)(h0:W1 U)(hp:P4 p)(f:FrO p pts L):Ja.run U [.int p,As pts,As L,.int 1]=.ok (.lst (L.map LA)):=by
 obtain⟨s5,s6,s7,s8,lp⟩:=QJ h hp f.np f.hz f.nL (m:=1) (λ_ _=>[[]]) (λx hx r hr _=>⟨h0 p _ _,λq hq=>by rw[A2.mp hq];simp,by simp⟩) L [] [] Af Af Af Af rfl (by have:=f.lL;simp;omega)
 have e:∀ l:Ac R3,Kk (λ_ _=>[[]]) l=l.map LA:=by
  intro l
  induction l with
  |nil=>rfl
  |cons x l ih=>show [D.tup [Ap Aa x]]++Kk (λ_ _=>[[]]) l=_;rw[ih];rfl
 rw[e]at lp;exact Wf (by decide) rfl (by exact lp)
noncomputable def F3(p:Ae)(pts:Ac R3):Ac R3->Ac (R3×R3)
 |[]=>[]
 |x::r=>(r.filter (stq p pts x)).map (λy=>(x,y))++F3 p pts r
theorem yQ(h:Lc U)(h1:WZ U)(hp:P4 p)(f:FrO p pts L)(hz:pts.length<=50):Ja.run U [.int p,As pts,As L,.int 2]=.ok (.lst ((F3 p pts L).map twD)):=by
 have lL:=f.lL;obtain⟨s5,s6,s7,s8,lp⟩:=QJ h hp f.np f.hz f.nL (m:=2) (λx r=>(r.filter (stq p pts x)).map λy=>[Ap Aa y]) (λx hx r hr hrl=>by
  have fl:(r.filter (stq p pts x)).length<=r.length:=F6 _ _;refine⟨?_,λq hq=>?_,by rw[A9];omega⟩
  .have e:=h1 p (pts++[x]) (r.filter (stq p pts x)) hp ⟨λy hy=>by
    rcases Dj.mp hy with z|z
    .exact f.np y z
    .rw[A2.mp z];exact(f.nL x hx).1,by rw[AM,Bj];omega,λy hy=>by
    obtain⟨hy,hs⟩:=DO.mp hy;refine⟨(f.nL y (hr y hy)).1,λz=>?_⟩
    rcases Dj.mp z with z|z
    .exact(f.nL y (hr y hy)).2 z
    .unfold stq at hs;rw[A2.mp z]at hs;simp at hs,by omega⟩
   rw[C2];exact e
  .obtain⟨y,_,rfl⟩:=Bk.mp hq;simp) L [] [] Af Af Af Af rfl (by simp;omega)
 have e:∀ l:Ac R3,Kk (λx r=>(r.filter (stq p pts x)).map λy=>[Ap Aa y]) l=(F3 p pts l).map twD:=by
  intro l
  induction l with
  |nil=>rfl
  |cons x l ih=>
   show ((l.filter (stq p pts x)).map λy=>[Ap Aa y]).map (λq=>D.tup (Ap Aa x::q))++Kk _ l=_
   rw[ih,C2,show F3 p pts (x::l)=(l.filter (stq p pts x)).map (λy=>(x,y))++F3 p pts l from rfl,Di,C2]
   rfl
 rw[e]at lp;exact Wf (by decide) rfl (by exact lp)
noncomputable def LX:Df:=⟨4,Aa,(.cons (.expr (.call 260 (.cons (.var 0) (.cons (.var 1) .nil)))) (.cons (.asg 3 Aa (.call 265 (.cons (.var 0) (.cons (.var 1) (.cons (.call 223 (.cons (.var 0) (.cons (.var 1) .nil))) (.cons (.var 2) .nil)))))) (.cons (.ife (.cmp .Gt (.bi .len (.cons (.var 3) .nil)) (.glob 0)) (.cons (.rais 15 (.cons (.str (DI "there are more than three hundred further sets")) .nil)) .nil) .nil) (.cons (.ret (.var 3)) .nil))))⟩
theorem uD{L:D}{R:Ac D}(g:U.G 0=.int 300)(f5:U.fr 265=Aa)(hx:U.xn 15 [.str (DI "there are more than three hundred further sets")]=.ok ⟨15,[]⟩)(e1:U.F 260 [.int p,T]=.ok .non)(e2:U.F 223 [.int p,T]=.ok L)(e3:U.F 265 [.int p,T,L,.int m]=.ok (.lst R)):LX.run U [.int p,T,.int m]=if R.length<=300 then .ok (.lst R) else .exn ⟨15,[]⟩:=by
 by_cases h:R.length<=300
 .rw[Ax h];have h':¬ (300:Ae)<R.length:=by omega
  simp[LX,Df.run,BD,g,f5,e1,e2,e3,Ce,h']
 .rw[Ay h];have h':(300:Ae)<R.length:=by omega
  simp[LX,Df.run,BD,g,f5,e1,e2,e3,Ce,h',hx]
noncomputable def frD(p:Ae)(pts L:Ac R3)(m:Ae):Ac D:=if m=0 then [.tup []] else if m=1 then L.map LA else (F3 p pts L).map twD
noncomputable def JK:Df:=⟨7,Aa,(.cons (.asg 4 Ad .non) (.cons (.asg 5 Ad .non) (.cons (.tryx (.cons (.ife (.var 3) (.cons (.asg 4 Aa (.call 100266 (.cons (.var 0) (.cons (.var 1) (.cons (.var 2) .nil))))) .nil) (.cons (.asg 4 Aa (.call 100266 (.cons (.var 0) (.cons (.var 1) (.cons (.int 1) .nil))))) .nil)) .nil) 0 6 (.cons (.asg 5 Aa (.lst (.cons (.isi (.var 6) [.cls 15]) (.cons (.isi (.var 6) [.verr]) (.cons (.isi (.var 6) [.cls 107,.cls 118,.cls 13]) .nil))))) .nil)) (.cons (.retT (.cons (.var 4) (.cons (.var 5) .nil))) .nil))))⟩
noncomputable def Lv(R:Ac D):D:=if R.length<=300 then .tup [.lst R,.non] else .tup [.non,.lst [.bl Aa,.bl Aa,.bl Ad]]
theorem dH{R:Ac D}(f6:U.fr 100266=Aa)(hu:U.up 15=[15,0])(ht:t=Aa\/m=1)(e:U.F 100266 [.int p,T,.int m]=if R.length<=300 then .ok (.lst R) else .exn ⟨15,[]⟩):JK.run U [.int p,T,.int m,.bl t]=.ok (Lv R):=by
 have e1:t=Ad->U.F 100266 [.int p,T,.int 1]=if R.length<=300 then .ok (.lst R) else .exn ⟨15,[]⟩:=λz=>by
  rcases ht with h|h
  .rw[h]at z;cases z
  .rw[<-h];exact e
 by_cases h:R.length<=300
 .rw[Ax h]at e;unfold Lv;rw[Ax h];cases t with
  |true=>simp[JK,Df.run,BD,e,Ce,f6,M9,evP,Kj,IE,noX]
  |false=>
   have e1:=e1 rfl;rw[Ax h]at e1;simp[JK,Df.run,BD,e1,Ce,f6,M9,evP,Kj,IE,noX]
 .rw[Ay h]at e;unfold Lv;rw[Ay h];cases t with
  |true=>simp[JK,Df.run,BD,e,Ce,f6,hu,kiD,Ek,M9,evP,Kj,IE,noX]
  |false=>
   have e1:=e1 rfl;rw[Ay h]at e1;simp[JK,Df.run,BD,e1,Ce,f6,hu,kiD,Ek,M9,evP,Kj,IE,noX]
end
noncomputable def OZ:E:=(.call 231 (.cons (.var 0) (.cons (.var 4) .nil)))
noncomputable def MI:E:=(.and (.cons (.cmp .NotIn (.var 5) (.var 2)) (.cons (.cmp .NotIn (.var 5) (.var 1)) .nil)))
noncomputable def OY:E:=(.var 5)
noncomputable def L5:Df:=⟨6,Ad,(.cons (.asg 2 Ad (.call 235 (.cons (.var 0) (.cons (.var 1) .nil)))) (.cons (.asg 3 Ad (.comp OZ 4 (.rng (.bin .Add (.bin .Add (.bin .Mult (.var 0) (.var 0)) (.var 0)) (.int 1))) CT)) (.cons (.ret (.comp OY 5 (.e (.var 3)) MI)) .nil)))⟩
noncomputable def ML:E:=(.call 232 (.cons (.var 0) (.cons (.var 8) (.cons (.var 5) .nil))))
noncomputable def KM:E:=(.cmp .NotEq (.call 233 (.cons (.var 0) (.cons (.var 9) (.cons (.var 7) .nil)))) (.int 0))
noncomputable def IZ:Ss:=(.cons (.ife (.and (.cons (.bi .tlt (.cons (.var 5) (.cons (.var 7) .nil))) (.cons (.bi .all (.cons (.comp KM 9 (.e (.var 6)) CT) .nil)) .nil))) (.cons (.app 3 (.tup (.cons (.var 5) (.cons (.var 7) .nil)))) .nil) .nil) .nil)
noncomputable def GL:Ss:=(.cons (.ife (.cmp .Eq (.var 2) (.int 1)) (.cons (.app 3 (.tup (.cons (.var 5) .nil))) .nil) (.cons (.ife (.cmp .LtE (.bi .len (.cons (.var 3) .nil)) (.int 300)) (.cons (.asg 6 Ad (.comp ML 8 (.e (.var 1)) CT)) (.cons (.fors 7 (.e (.var 4)) IZ) .nil)) .nil) .nil)) .nil)
noncomputable def JF:Df:=⟨10,Ad,(.cons (.ife (.cmp .Eq (.var 2) (.int 0)) (.cons (.ret (.lst (.cons (.tup .nil) .nil))) .nil) .nil) (.cons (.asg 3 Aa (.lst .nil)) (.cons (.asg 4 Ad (.call 268 (.cons (.var 0) (.cons (.var 1) .nil)))) (.cons (.fors 5 (.e (.var 4)) GL) (.cons (.ret (.var 3)) .nil)))))⟩
noncomputable def Sv:E:=(.isi (.var 10) [.tuple])
noncomputable def KN:Ss:=(.cons (.blk [8,9] 270 (.cons (.var 1) (.cons (.var 6) (.cons (.var 3) (.cons (.var 4) .nil)))) (.cons (.ife (.cmp .NotEq (.var 6) (.var 2)) (.cons (.ret (.bl Ad)) .nil) .nil) .nil) (.cmp .Gt (.bi .len (.cons (.var 5) .nil)) (.int 300)) (.cons (.ife (.or (.cons (.cmp .IsNot (.var 8) .non) (.cons (.cmp .NotEq (.var 9) (.lst (.cons (.bl Aa) (.cons (.bl Aa) (.cons (.bl Ad) .nil))))) .nil))) (.cons (.ret (.bl Ad)) .nil) .nil) .nil) (.cons (.ife (.or (.cons (.cmp .IsNot (.var 9) .non) (.cons (.no (.isi (.var 8) [.list])) (.cons (.cmp .NotEq (.var 8) (.var 5)) .nil)))) (.cons (.ret (.bl Ad)) .nil) .nil) (.cons (.ife (.no (.bi .all (.cons (.comp Sv 10 (.e (.var 8)) CT) .nil))) (.cons (.ret (.bl Ad)) .nil) .nil) .nil)) 0 (.tup .nil)) .nil)
noncomputable def Iw:Df:=⟨11,Ad,(.cons (.asg 1 Ad (.call 229 (.cons (.var 0) .nil))) (.cons (.ife (.and (.cons (.cmp .Eq (.var 1) (.int 11)) (.cons (.cmp .Gt (.bin .Mod (.call 228 (.cons (.var 0) (.cons (.int 15) .nil))) (.int 4)) (.int 0)) .nil))) (.cons (.asg 1 Ad (.int 7)) .nil) .nil) (.cons (.asg 2 Ad (.call 267 (.cons (.var 1) (.cons (.var 0) .nil)))) (.cons (.asg 3 Ad (.bin .Mod (.call 228 (.cons (.var 0) (.cons (.int 16) .nil))) (.int 3))) (.cons (.asg 4 Ad (.or (.cons (.cmp .NotEq (.var 3) (.int 1)) (.cons (.cmp .Eq (.bin .Mod (.call 228 (.cons (.var 0) (.cons (.int 17) .nil))) (.int 2)) (.int 1)) .nil)))) (.cons (.asg 5 Ad (.call 269 (.cons (.var 1) (.cons (.var 2) (.cons (.var 3) .nil))))) (.cons (.asg 6 Ad (.bi .list (.cons (.var 2) .nil))) (.cons (.fors 7 (.rng (.int 2)) KN) (.cons (.ret (.bl Aa)) .nil)))))))))⟩
section
variable{U:Gam}{p:Ae}{pts:Ac R3}
theorem gA{DC:D}{RL L R:Ac D}(m:D7 p p=Aa)(hN:p*p+p+1=N)(e:U.F 235 [.int p,T]=.ok DC)(rN:CA 0 N=.ok RL)(cp:BU (cG U [si p,sh T,sh DC,Af,Af,Af] 4 CT) (cF U [si p,sh T,sh DC,Af,Af,Af] 4 OZ) RL=.ok L)(cq:BU (cG U [si p,sh T,sh DC,sh (.lst L),Af,Af] 5 MI) (cF U [si p,sh T,sh DC,sh (.lst L),Af,Af] 5 OY) L=.ok R):L5.run U [.int p,T]=.ok (.lst R):=by
 simp[L5,Df.run,BD,m,hN,e,rN,cp,cq,Ce]
theorem pM(hx:x∈Dc p):BJ .NotIn (Ap Aa x) (.dic (IL p pts))=.ok (.bl (fpr p pts x).isNone):=by
 have g:=dic_get p pts hx;have a:((IL p pts).any λq=>q.1==tri x)=(fpr p pts x).isSome:=by rw[Qi,g,X2]
 show R.ok (D.bl (!(IL p pts).any λq=>q.1==tri x))=_
 rw[a];cases fpr p pts x<;>rfl
def VE(U:Gam):Prop:=∀(p:Ae)(pts:Ac R3),P4 p->(∀ x∈pts,NF p x)->pts.length<=15->U.F 268 [.int p,As pts]=.ok (As (Db p pts))
theorem uJ(hd:Vw U)(h:Mt U)(hp:P4 p)(np:∀ x∈pts,NF p x)(hz:pts.length<=15):L5.run U [.int p,As pts]=.ok (As (Db p pts)):=by
 have N1:0<=p*p+p+1/\p*p+p+1<=1000:=by rcases hp with rfl|rfl|rfl|rfl<;>decide
 have ph:=hp.hi;have pl:=hp.lo;have m:D7 p p=Aa:=Ix (by omega) (by omega)
 have rN:CA 0 (p*p+p+1)=.ok (Ci 0 (p*p+p+1).toNat):=by
  have:=JO (lo:=0) (hi:=p*p+p+1) (by decide) (by decide) (by omega) (by omega)
  rwa [Fo]at this
 rw[Vc];refine gA m rfl (hd p pts hp np hz) rN (VU h hp λn hn=>⟨rfl,?_⟩) (Me (Ap Aa) (Mx p pts) (Ap Aa) (Dc p) λx hx=>⟨?_,λ_=>?_⟩)
 .generalize As pts=T;generalize D.dic (IL p pts)=DC;simp[cF,OZ];cases U.F 231 [.int p,.int (n:Ae)]<;>rfl
 .have n1:=pM (pts:=pts) hx;have n2:=eW x pts;unfold Mx;generalize (Dc p).map (Ap Aa)=AL;generalize As pts=T at *;generalize D.dic (IL p pts)=DC at *;generalize Ap Aa x=X at *;cases hf:fpr p pts x with
  |none=>
   rw[hf]at n1;have n1:BJ .NotIn X DC=.ok (.bl Aa):=n1;simp[cG,MI,n1,n2]
  |some q=>
   rw[hf]at n1;have n1:BJ .NotIn X DC=.ok (.bl Ad):=n1;simp[cG,MI,n1]
 .generalize (Dc p).map (Ap Aa)=AL;generalize As pts=T;generalize D.dic (IL p pts)=DC;generalize Ap Aa x=X;simp[cF,OY]
noncomputable def ltR(x y:R3):Ai:=D9 (tri x) (tri y)
theorem kT(x y:R3):Gw (Ap Aa x) (Ap Aa y)=.ok (.bl (ltR x y)):=by
 have e:ltD 1 (Ap Aa x) (Ap Aa y)=ltR x y:=QI (tri x) (tri y);show (if _ then R.ok (D.bl (ltD 1 (Ap Aa x) (Ap Aa y))) else .bad)=_
 rw[e];rfl
theorem dW(hp:P4 p):(Dc p).Pairwise λx y=>ltR x y=Aa/\ltR y x=Ad:=by
 rcases hp with rfl|rfl|rfl|rfl<;>decide+kernel
theorem Wn(x:R3):ltR x x=Ad:=by
 unfold ltR tri;simp[D9]
noncomputable def cnd(p:Ae)(pts:Ac R3)(x y:R3):Ai:=ltR x y&&pts.all λa=>!decide (At a x y%p=0)
theorem nN{l r:Ac R3}(hs:(l++x::r).Pairwise λx y=>ltR x y=Aa/\ltR y x=Ad):(l++x::r).filter (cnd p pts x)=r.filter (stq p pts x):=by
 obtain⟨_,h2,h3⟩:=List.pairwise_append.mp hs;obtain⟨h4,_⟩:=List.pairwise_cons.mp h2;rw[List.filter_append];have e1:l.filter (cnd p pts x)=[]:=List.filter_eq_nil_iff.mpr λy hy=>by
  have:=(h3 y hy x AA).2;simp[cnd,this]
 have e2:cnd p pts x x=Ad:=by simp[cnd,Wn]
 rw[e1,DA,e2];show r.filter (cnd p pts x)=_;refine List.filter_congr λy hy=>?_
 have h:=(h4 y hy).1;have ne:y≠x:=λz=>by rw[z,Wn]at h;cases h
 unfold cnd stq;rw[h];simp[ne,List.all_eq_not_any_not]
theorem rO{LN Y_:D}{BB:Ac D}{b c:Ai}(hl:Gw X Y_=.ok (.bl b))(sq:Co LN=.ok xs)(cp:BU (cG U [si p,sh T,si m,Ab (.lst acc,Aa),sh LF,sh X,sh LN,sh Y_,Af,Af] 9 CT) (cF U [si p,sh T,si m,Ab (.lst acc,Aa),sh LF,sh X,sh LN,sh Y_,Af,Af] 9 KM) xs=.ok BB)(al:E3 BB=.ok c)(hz:BY (acc.length+1)=Aa):AR U 7 IZ Y_ [si p,sh T,si m,Ab (.lst acc,Aa),sh LF,sh X,sh LN,s7,Af,Af]=.next [si p,sh T,si m,Ab (.lst (if (b&&c)=Aa then acc++[.tup [X,Y_]] else acc),Aa),sh LF,sh X,sh LN,sh Y_,Af,Af]:=by
 cases b with
 |false=>simp[AR,IZ,hl]
 |true=>
  cases c with
  |false=>simp[AR,IZ,hl,sq,cp,al]
  |true=>simp[AR,IZ,hl,sq,cp,al,CC,hz]
theorem wV(L:Ac R3)(f:R3->Ai):E3 (L.map λa=>D.bl (f a))=.ok (L.all f):=by
 induction L with
 |nil=>rfl
 |cons a L ih=>
  rw[A8,DS];cases h:f a with
  |false=>show E3 (D.bl Ad::_)=_;simp[E3,ih]
  |true=>show E3 (D.bl Aa::_)=_;simp[E3,ih]
noncomputable def lnD(p:Ae)(pts:Ac R3)(x:R3):D:=.lst (pts.map λa=>Ap Aa (mdR p (crs a x)))
theorem VH(hs:Gq U)(hc:GM U)(hp:P4 p)(np:∀ a∈pts,NF p a){x:R3}(nx:NF p x){T LF:D}{m:Ae}:∀(ys:Ac R3)(acc:Ac D)(s7:Sl),(∀ y∈ys,NF p y)->acc.length+ys.length<=100000->∃ s7',Bz (AR U 7 IZ) (ys.map (Ap Aa)) [si p,sh T,si m,Ab (.lst acc,Aa),sh LF,sh (Ap Aa x),sh (lnD p pts x),s7,Af,Af]=.next [si p,sh T,si m,Ab (.lst (acc++(ys.filter (cnd p pts x)).map λy=>twD (x,y)),Aa),sh LF,sh (Ap Aa x),sh (lnD p pts x),s7',Af,Af]
 |[],acc,s7,_,_=>⟨s7,by simp[Bz]⟩
 |y::ys,acc,s7,hy,hl=>by
  rw[AY]at hl;have ny:=hy y AA;have cp:BU (cG U [si p,sh T,si m,Ab (.lst acc,Aa),sh LF,sh (Ap Aa x),sh (lnD p pts x),sh (Ap Aa y),Af,Af] 9 CT) (cF U [si p,sh T,si m,Ab (.lst acc,Aa),sh LF,sh (Ap Aa x),sh (lnD p pts x),sh (Ap Aa y),Af,Af] 9 KM) (pts.map λa=>Ap Aa (mdR p (crs a x)))=.ok (pts.map λa=>D.bl (!decide (At a x y%p=0))):=by
   have:=Me (g:=cG U [si p,sh T,si m,Ab (.lst acc,Aa),sh LF,sh (Ap Aa x),sh (lnD p pts x),sh (Ap Aa y),Af,Af] 9 CT) (f:=cF U [si p,sh T,si m,Ab (.lst acc,Aa),sh LF,sh (Ap Aa x),sh (lnD p pts x),sh (Ap Aa y),Af,Af] 9 KM) (λa=>Ap Aa (mdR p (crs a x))) (λ_=>Aa) (λa=>D.bl (!decide (At a x y%p=0))) pts λa ha=>⟨rfl,λ_=>by
    have e:=VT hc hs hp (np a ha).1 nx.1 ny.1;generalize lnD p pts x=LN;generalize Ap Aa (mdR p (crs a x))=LI at *;generalize Ap Aa x=X at *;generalize Ap Aa y=Y_ at *;by_cases z:At a x y%p=0
    .simp[cF,KM,e,z]
    .simp[cF,KM,e,z]⟩
   rw[Fd.mpr λ_ _=>rfl]at this
   exact this
  have st:=rO (s7:=s7) (LF:=LF) (kT x y) rfl cp (wV pts _) (BG (by omega))
  rw[show (ltR x y&&pts.all λa=>!decide (At a x y%p=0))=cnd p pts x y from rfl]at st
  rw[DA,A8];obtain⟨s7',ih⟩:=VH hs hc hp np nx (T:=T) (LF:=LF) (m:=m) ys (if cnd p pts x y=Aa then acc++[.tup [Ap Aa x,Ap Aa y]] else acc) (sh (Ap Aa y)) (λw hw=>hy w (Aw _ hw)) (by split<;>(try rw[AM,Bj])<;>omega)
  refine⟨s7',?_⟩;show (AR U 7 IZ (Ap Aa y) _).turn _=_;rw[st];refine FY ih ?_;split
  .rw[DZ,A8];rfl
  .rfl
theorem rM(hz:BY (acc.length+1)=Aa):AR U 5 GL X [si p,sh T,si 1,Ab (.lst acc,Aa),sh LF,s5,s6,s7,Af,Af]=.next [si p,sh T,si 1,Ab (.lst (acc++[.tup [X]]),Aa),sh LF,sh X,s6,s7,Af,Af]:=by
 simp[AR,GL,CC,hz]
theorem VG{T LF:D}:∀(L:Ac R3)(acc:Ac D)(s5 s6 s7:Sl),acc.length+L.length<=100000->∃ s5',Bz (AR U 5 GL) (L.map (Ap Aa)) [si p,sh T,si 1,Ab (.lst acc,Aa),sh LF,s5,s6,s7,Af,Af]=.next [si p,sh T,si 1,Ab (.lst (acc++L.map LA),Aa),sh LF,s5',s6,s7,Af,Af]
 |[],acc,s5,s6,s7,_=>⟨s5,by simp[Bz]⟩
 |x::L,acc,s5,s6,s7,hl=>by
  rw[AY]at hl;obtain⟨s5',ih⟩:=VG (T:=T) (LF:=LF) L (acc++[.tup [Ap Aa x]]) (sh (Ap Aa x)) s6 s7 (by rw[AM,Bj];omega)
  refine⟨s5',?_⟩;rw[A8,A8];show (AR U 5 GL (Ap Aa x) _).turn _=_;rw[rM (BG (by omega))]
  refine FY ih ?_;rw[DZ];rfl
theorem rL{ys LL:Ac D}(h3:acc.length<=300)(sq:Co T=.ok xs)(cp:BU (cG U [si p,sh T,si 2,Ab (.lst acc,Aa),sh LF,sh X,s6,s7,Af,Af] 8 CT) (cF U [si p,sh T,si 2,Ab (.lst acc,Aa),sh LF,sh X,s6,s7,Af,Af] 8 ML) xs=.ok LL)(sl:Co LF=.ok ys)(lp:Bz (AR U 7 IZ) ys [si p,sh T,si 2,Ab (.lst acc,Aa),sh LF,sh X,sh (.lst LL),s7,Af,Af]=.next Z'):AR U 5 GL X [si p,sh T,si 2,Ab (.lst acc,Aa),sh LF,s5,s6,s7,Af,Af]=.next Z':=by
 have h3':(acc.length:Ae)<=300:=by omega
 simp[AR,GL,h3',sq,cp,sl];exact lp
theorem rK(h3:¬ acc.length<=300):AR U 5 GL X [si p,sh T,si 2,Ab (.lst acc,Aa),sh LF,s5,s6,s7,Af,Af]=.next [si p,sh T,si 2,Ab (.lst acc,Aa),sh LF,sh X,s6,s7,Af,Af]:=by
 have h3':¬ (acc.length:Ae)<=300:=by omega
 simp[AR,GL,h3']
noncomputable def Hx(p:Ae)(pts:Ac R3):Ac D->Ac R3->Ac D
 |acc,[]=>acc
 |acc,x::r=>if acc.length<=300 then Hx p pts (acc++(r.filter (stq p pts x)).map λy=>twD (x,y)) r else Hx p pts acc r
theorem Qm(p:Ae)(pts:Ac R3):∀(r:Ac R3)(acc:Ac D),((acc++(F3 p pts r).map twD).length<=300->Hx p pts acc r=acc++(F3 p pts r).map twD)/\(¬ (acc++(F3 p pts r).map twD).length<=300->¬ (Hx p pts acc r).length<=300)
 |[],acc=>by simp[Hx,F3]
 |x::r,acc=>by
  have e:(F3 p pts (x::r)).map twD=((r.filter (stq p pts x)).map λy=>twD (x,y))++(F3 p pts r).map twD:=by
   rw[show F3 p pts (x::r)=(r.filter (stq p pts x)).map (λy=>(x,y))++F3 p pts r from rfl,Di,C2]
   rfl
  rw[e];by_cases h:acc.length<=300
  .have:=Qm p pts r (acc++(r.filter (stq p pts x)).map λy=>twD (x,y))
   rw[DZ]at this;show ((_->(if acc.length<=300 then _ else _)=_)/\(_->¬ (if acc.length<=300 then _ else _:Ac D).length<=300))
   rw[Ax h];exact this
  .have:=(Qm p pts r acc).2 (by rw[AM];omega)
   show ((_->(if acc.length<=300 then _ else _)=_)/\(_->¬ (if acc.length<=300 then _ else _:Ac D).length<=300))
   rw[Ay h];exact⟨λz=>by rw[AM]at z;omega,λ_=>this⟩
theorem QK(hs:Gq U)(hc:GM U)(hp:P4 p)(np:∀ a∈pts,NF p a){LL:Ac R3}(nL:∀ y∈LL,NF p y)(lL:LL.length<=133)(so:LL.Pairwise λx y=>ltR x y=Aa/\ltR y x=Ad):∀(rest seen:Ac R3)(acc:Ac D)(s5 s6 s7:Sl),LL=seen++rest->acc.length<=600->∃ s5' s6' s7',Bz (AR U 5 GL) (rest.map (Ap Aa)) [si p,sh (As pts),si 2,Ab (.lst acc,Aa),sh (As LL),s5,s6,s7,Af,Af]=.next [si p,sh (As pts),si 2,Ab (.lst (Hx p pts acc rest),Aa),sh (As LL),s5',s6',s7',Af,Af]
 |[],seen,acc,s5,s6,s7,_,_=>⟨s5,s6,s7,rfl⟩
 |x::rest,seen,acc,s5,s6,s7,e,hl=>by
  have nx:NF p x:=nL x (by rw[e];simp)
  have e':LL=(seen++[x])++rest:=by rw[e];simp
  by_cases h3:acc.length<=300
  .have cp:=Me (g:=cG U [si p,sh (As pts),si 2,Ab (.lst acc,Aa),sh (As LL),sh (Ap Aa x),s6,s7,Af,Af] 8 CT) (f:=cF U [si p,sh (As pts),si 2,Ab (.lst acc,Aa),sh (As LL),sh (Ap Aa x),s6,s7,Af,Af] 8 ML) (Ap Aa) (λ_=>Aa) (λa=>Ap Aa (mdR p (crs a x))) pts λa ha=>⟨rfl,λ_=>by
    have e:=hc p Aa Aa a x hp.pos ((GB hp (np a ha).1).b3 (by decide)) ((GB hp nx.1).b3 (by decide))
    generalize As pts=T;generalize As LL=TL;generalize Ap Aa (mdR p (crs a x))=LI at *;generalize Ap Aa x=X at *;generalize Ap Aa a=A at *;simp[cF,ML,e]⟩
   rw[Fd.mpr λ_ _=>rfl]at cp
   obtain⟨t7,l0⟩:=VH hs hc hp np nx (T:=As pts) (LF:=As LL) (m:=2) LL acc s7 nL (by omega)
   have hf:LL.filter (cnd p pts x)=rest.filter (stq p pts x):=by
    have h:=nN (p:=p) (pts:=pts) (l:=seen) (x:=x) (r:=rest) (by rw[<-e];exact so)
    rw[<-e]at h;exact h
   rw[hf]at l0;have fl:(rest.filter (stq p pts x)).length<=133:=by
    have h1:(rest.filter (stq p pts x)).length<=rest.length:=F6 _ _;have h2:rest.length<=LL.length:=by rw[e];simp;omega
    omega
   obtain⟨s5',s6',s7',ih⟩:=QK hs hc hp np nL lL so rest (seen++[x]) (acc++(rest.filter (stq p pts x)).map λy=>twD (x,y)) (sh (Ap Aa x)) (sh (lnD p pts x)) t7 e' (by rw[AM,A9];omega)
   refine⟨s5',s6',s7',?_⟩;show (AR U 5 GL (Ap Aa x) _).turn _=_;rw[rL h3 rfl cp rfl l0];refine FY ih ?_;rw[show Hx p pts acc (x::rest)=Hx p pts (acc++(rest.filter (stq p pts x)).map λy=>twD (x,y)) rest from Ax h3]
  .obtain⟨s5',s6',s7',ih⟩:=QK hs hc hp np nL lL so rest (seen++[x]) acc (sh (Ap Aa x)) s6 s7 e' hl;refine⟨s5',s6',s7',?_⟩;show (AR U 5 GL (Ap Aa x) _).turn _=_;rw[rK h3];refine FY ih ?_;rw[show Hx p pts acc (x::rest)=Hx p pts acc rest from Ay h3]
theorem UX{L:D}{xs R:Ac D}(hm:m≠0)(e:U.F 268 [.int p,T]=.ok L)(sq:Co L=.ok xs)(lp:Bz (AR U 5 GL) xs [si p,sh T,si m,Ab (.lst [],Aa),sh L,Af,Af,Af,Af,Af]=.next [si p,sh T,si m,Ab (.lst R,Aa),sh L,s5,s6,s7,Af,Af]):JF.run U [.int p,T,.int m]=.ok (.lst R):=by
 simp[JF,Df.run,BD,hm,Ce,e,sq,lp]
theorem gB:JF.run U [.int p,T,.int 0]=.ok (.lst [.tup []]):=by
 simp[JF,Df.run,BD,Ce]
noncomputable def duL(p:Ae)(pts:Ac R3)(m:Ae):Ac D:=if m=0 then [.tup []] else if m=1 then (Db p pts).map LA else Hx p pts [] (Db p pts)
theorem S4(hp:P4 p):(∀ x∈Db p pts,NF p x/\x∉pts)/\(Db p pts).length<=133/\(Db p pts).Pairwise λx y=>ltR x y=Aa/\ltR y x=Ad:=by
 rw[Vc];refine⟨λx hx=>?_,Ck (F6 _ _) (P3 hp),(dW hp).sublist List.filter_sublist⟩
 obtain⟨hx,hf⟩:=DO.mp hx;unfold Mx at hf;rw[Al]at hf;exact⟨(K7 hp).mp hx,by simpa using hf.1⟩
theorem mX(ho:VE U)(hs:Gq U)(hc:GM U)(hp:P4 p)(np:∀ x∈pts,NF p x)(hz:pts.length<=15)(hm:m=0\/m=1\/m=2):JF.run U [.int p,As pts,.int m]=.ok (.lst (duL p pts m)):=by
 obtain⟨f1,f2,f3⟩:=S4 (pts:=pts) hp;rcases hm with rfl|rfl|rfl
 .exact gB
 .obtain⟨s5,lp⟩:=VG (U:=U) (p:=p) (T:=As pts) (LF:=As (Db p pts)) (Db p pts) [] Af Af Af (by simp;omega)
  exact UX (by decide) (ho p pts hp np hz) rfl (by exact lp)
 .obtain⟨s5,s6,s7,lp⟩:=QK hs hc hp np (λy hy=>(f1 y hy).1) f2 f3 (Db p pts) [] [] Af Af Af rfl (by simp)
  exact UX (by decide) (ho p pts hp np hz) rfl lp
end
section
variable{U:Gam}{p:Ae}{pts:Ac R3}{ns:Ac Ae}
noncomputable def Qo:Df:=⟨3,Ad,(.cons (.asg 2 Ad (.call 65 (.cons (.var 0) (.cons (.var 1) .nil)))) (.cons (.ife (.cmp .IsNot (.var 2) .non) (.cons (.rais 118 (.cons (.var 2) .nil)) .nil) .nil) .nil))⟩
theorem mY(e:U.F 65 [.int p,PP]=.ok .non):Qo.run U [.int p,PP]=.ok .non:=by
 simp[Qo,Df.run,BD,e]
theorem mQ(e:U.F 194 [PP]=.ok .non)(e':U.F 109 [.int p,PP]=.ok .non):MW.run U [.int p,PP]=.ok .non:=by
 simp[MW,Df.run,BD,e,e']
theorem bM(L:Ac D):E3 (L.map λ_=>D.bl Aa)=.ok Aa:=by
 induction L with
 |nil=>rfl
 |cons x L ih=>rw[A8];show (E3 (L.map λ_=>D.bl Aa)).bind _=_;rw[ih];rfl
theorem R1{S T:D}{R:Ac D}(fr:U.fr 270=Aa)(h3:R.length<=300)(e:U.F 270 [.int p,T,.int m,.bl t]=.ok (.tup [.lst R,.non]))(fT:flD 5 T=Aa)(eT:eqD T T=Aa)(fR:∀ x∈R,flD 4 x=Aa)(eR:eqDs R R=Aa)(ta:∀ x∈R,∃ ds,x=.tup ds):AR U 7 KN (.int i) [sh S,si p,sh T,si m,sh (.bl t),sh (.lst R),sh T,s7,Af,Af,Af]=.next [sh S,si p,sh T,si m,sh (.bl t),sh (.lst R),sh T,si i,Af,Af,Af]:=by
 have hz:BY (R.length+1)=Aa:=BG (by omega)
 have h3':¬ (300:Ae)<R.length:=by omega
 have cp:=Me (g:=cG U [sh S,si p,sh T,si m,sh (.bl t),sh (.lst R),sh T,si i,sh (.lst R),sh .non,Af] 10 CT) (f:=cF U [sh S,si p,sh T,si m,sh (.bl t),sh (.lst R),sh T,si i,sh (.lst R),sh .non,Af] 10 Sv) id (λ_=>Aa) (λ_=>D.bl Aa) R λx hx=>⟨rfl,λ_=>by
  obtain⟨ds,rfl⟩:=ta x hx;rfl⟩
 rw[Fd.mpr λ_ _=>rfl,List.map_id]at cp
 have al:=bM R;generalize (R.map λ_=>D.bl Aa)=BB at *
 simp[AR,KN,Nh,fr,e,Kl,Ka,HR,Mu,kiD,fT,eT,fR,eR,h3',cp,al,noX,hz];exact fR
theorem R0{S T:D}{R:Ac D}(fr:U.fr 270=Aa)(h3:¬ R.length<=300)(e:U.F 270 [.int p,T,.int m,.bl t]=.ok (.tup [.non,.lst [.bl Aa,.bl Aa,.bl Ad]]))(fT:flD 5 T=Aa)(eT:eqD T T=Aa):AR U 7 KN (.int i) [sh S,si p,sh T,si m,sh (.bl t),sh (.lst R),sh T,s7,Af,Af,Af]=.next [sh S,si p,sh T,si m,sh (.bl t),sh (.lst R),sh T,si i,Af,Af,Af]:=by
 have h3':(300:Ae)<R.length:=by omega
 simp[AR,KN,Nh,fr,e,Kl,Ka,HR,kiD,fT,eT,h3',noX]
structure H76 (U:Gam) (ns:Ac Ae):Prop where
 pr:∃ p,P4 p/\U.F 229 [scr ns]=.ok (.int p)
 mi:Jm U 228 ns
 fs:∀ p,P4 p->∃ l,Fre p l/\U.F 267 [.int p,scr ns]=.ok (As l)
 du:∀(p:Ae)(pts:Ac R3)(m:Ae),P4 p->(∀ x∈pts,NF p x)->pts.length<=15->(m=0\/m=1\/m=2)->U.F 269 [.int p,As pts,.int m]=.ok (.lst (duL p pts m))
 ak:∀(p:Ae)(pts:Ac R3)(m:Ae)(t:Ai),P4 p->Fre p pts->(m=0\/m=1\/m=2)->(t=Aa\/m=1)->U.F 270 [.int p,As pts,.int m,.bl t]=.ok (Lv (frD p pts (Db p pts) m))
 fa:U.fr 270=Aa
theorem V3{body:D->Rho->O}{Z1 Z2:Rho}(h1:body (.int 0) Z=.next Z1)(h2:body (.int 1) Z1=.next Z2):Bz body [.int 0,.int 1] Z=.next Z2:=by
 simp only[Bz,h1,h2,O.turn]
theorem WI{S T DU:D}{p0 m15 m16 m17:Ae}(e1:U.F 229 [S]=.ok (.int p0))(e15:U.F 228 [S,.int 15]=.ok (.int m15))(e16:U.F 228 [S,.int 16]=.ok (.int m16))(e17:U.F 228 [S,.int 17]=.ok (.int m17))(hp:(if p0=11/\0<m15%4 then 7 else p0)=p)(e2:U.F 267 [.int p,S]=.ok T)(e3:U.F 269 [.int p,T,.int (m16%3)]=.ok DU)(li:biD .list [T]=.ok T)(lp:Bz (AR U 7 KN) [.int 0,.int 1] [sh S,si p,sh T,si (m16%3),sh (.bl (!decide (m16%3=1)||(m17%2==1))),sh DU,sh T,Af,Af,Af,Af]=.next Z'):Iw.run U [S]=.ok (.bl Aa):=by
 have rg:CA 0 2=.ok [.int 0,.int 1]:=rfl;subst hp;by_cases h11:p0=11
 .subst h11;by_cases h4:0<m15%4
  .rw[Ax ⟨rfl,h4⟩]at e2 e3 lp;by_cases h1:m16%3=1
   .simp only[h1]at e3 lp;simp at lp;simp[Iw,Df.run,BD,e1,e15,e16,e17,h4,e2,h1,e3,li,rg,lp]
   .simp[h1]at lp;simp[Iw,Df.run,BD,e1,e15,e16,e17,h4,e2,h1,e3,li,rg,lp]
  .rw[Ay (λz=>h4 z.2)]at e2 e3 lp
   by_cases h1:m16%3=1
   .simp only[h1]at e3 lp;simp at lp;simp[Iw,Df.run,BD,e1,e15,e16,e17,h4,e2,h1,e3,li,rg,lp]
   .simp[h1]at lp;simp[Iw,Df.run,BD,e1,e15,e16,e17,h4,e2,h1,e3,li,rg,lp]
 .rw[Ay (λz=>h11 z.1)]at e2 e3 lp
  by_cases h1:m16%3=1
  .simp only[h1]at e3 lp;simp at lp;simp[Iw,Df.run,BD,e1,e15,e16,e17,h11,e2,h1,e3,li,rg,lp]
  .simp[h1]at lp;simp[Iw,Df.run,BD,e1,e15,e16,e17,h11,e2,h1,e3,li,rg,lp]
theorem UB(p:Ae)(pts L:Ac R3)(m:Ae):∀ d∈frD p pts L m,flD 4 d=Aa/\∃ ds,d=.tup ds:=λd hd=>by
 unfold frD at hd;split at hd
 .rw[A2.mp hd];exact⟨rfl,_,rfl⟩
 .split at hd
  .obtain⟨x,_,rfl⟩:=Bk.mp hd;exact⟨rfl,_,rfl⟩
  .obtain⟨x,_,rfl⟩:=Bk.mp hd;exact⟨rfl,_,rfl⟩
theorem Z_0(p:Ae)(pts:Ac R3)(m:Ae):((frD p pts (Db p pts) m).length<=300->duL p pts m=frD p pts (Db p pts) m)/\(¬ (frD p pts (Db p pts) m).length<=300->¬ (duL p pts m).length<=300):=by
 unfold duL frD;by_cases h0:m=0
 .simp[h0]
 .rw[Ay h0,Ay h0];by_cases h1:m=1
  .simp[h1]
  .rw[Ay h1,Ay h1];have:=Qm p pts (Db p pts) [];rw[List.nil_append]at this;exact this
theorem wO(l:Ac R3):flD 5 (As l)=Aa/\eqD (As l) (As l)=Aa:=by
 have h:flD 5 (As l)=Aa:=by
  show ((l.map (Ap Aa)).all (flD 4))=Aa;rw[Ec];intro x hx;obtain⟨r,_,rfl⟩:=Bk.mp hx;rfl
 exact⟨h,PU 5 _ h⟩
theorem wQ(h:H76 U ns):Iw.run U [scr ns]=.ok (.bl Aa):=by
 obtain⟨p0,hp0,e1⟩:=h.pr;obtain⟨m15,_,e15⟩:=h.mi 15 (by decide)
 obtain⟨m16,_,e16⟩:=h.mi 16 (by decide)
 obtain⟨m17,_,e17⟩:=h.mi 17 (by decide)
 have hp:P4 (if p0=11/\0<m15%4 then 7 else p0):=by
  split
  .exact .inr (.inr (.inl rfl))
  .exact hp0
 generalize hq:(if p0=11/\0<m15%4 then 7 else p0)=p at hp
 obtain⟨pts,f,e2⟩:=h.fs p hp;have l12:=Qh hp f;have hm:m16%3=0\/m16%3=1\/m16%3=2:=by omega
 have e3:=h.du p pts (m16%3) hp f.nf (by omega) hm
 have ak:=h.ak p pts (m16%3) (!decide (m16%3=1)||(m17%2==1)) hp f hm (by
  by_cases z:m16%3=1
  .exact .inr z
  .exact .inl (by simp[z]))
 obtain⟨fT,eT⟩:=wO pts;obtain⟨d1,d2⟩:=Z_0 p pts (m16%3);by_cases h3:(frD p pts (Db p pts) (m16%3)).length<=300
 .unfold Lv at ak;rw[Ax h3]at ak;rw[d1 h3]at e3;have fR:∀ x∈frD p pts (Db p pts) (m16%3),flD 4 x=Aa:=λx hx=>(UB p pts _ _ x hx).1
  have eR:eqDs (frD p pts (Db p pts) (m16%3)) (frD p pts (Db p pts) (m16%3))=Aa:=PU 5 (.lst (frD p pts (Db p pts) (m16%3))) (List.all_eq_true.mpr fR);have tR:∀ x∈frD p pts (Db p pts) (m16%3),∃ ds,x=.tup ds:=λx hx=>(UB p pts _ _ x hx).2
  exact WI e1 e15 e16 e17 hq e2 e3 rfl (V3 (R1 h.fa h3 ak fT eT fR eR tR) (R1 h.fa h3 ak fT eT fR eR tR))
 .unfold Lv at ak;rw[Ay h3]at ak;exact WI e1 e15 e16 e17 hq e2 e3 rfl (V3 (R0 h.fa (d2 h3) ak fT eT) (R0 h.fa (d2 h3) ak fT eT))
end
noncomputable def RF:Ag->Ac Ag
 |15=>[15,0]
 |0=>[0]
 |_=>[]
noncomputable def Of:Ag->Ac D->R Ex
 |15,_=>.ok ⟨15,[]⟩
 |_,_=>.bad
noncomputable def Q76:Prg:=⟨Aa,fun
 |1=>QB
 |9=>MG
 |17=>MO
 |23=>OR
 |24=>QL
 |56=>Oq
 |57=>QM
 |61=>Pl
 |65=>O1
 |194=>Pp
 |109=>Qo
 |69=>Tb
 |221=>Nb
 |222=>ON
 |223=>MV
 |260=>MW
 |265=>Ja
 |100266=>LX
 |228=>MF
 |229=>OC
 |288=>O0
 |231=>cK
 |232=>OE
 |233=>Po
 |234=>OA
 |235=>LW
 |250=>OB
 |289=>OU
 |290=>MH
 |251=>JI
 |236=>cJ
 |237=>cP
 |267=>JJ 2
 |268=>L5
 |269=>JF
 |270=>JK
 |271=>Iw
 | _=>⟨0,Ad,.nil⟩,λ_=>.int 300,RF,Of⟩
theorem bz(ns:Ac Ae):(gam Q76 12).F 271 [scr ns]=.ok (.bl Aa):=by
 have gF:∀ n i ds,(gam Q76 (n+1)).F i ds=(Q76.defs i).run (gam Q76 n) ds:=λ_ _ _=>rfl
 have d65:Q76.defs 65=O1:=rfl;have d223:Q76.defs 223=MV:=rfl;have d234:Q76.defs 234=OA:=rfl;have d235:Q76.defs 235=LW:=rfl;have d260:Q76.defs 260=MW:=rfl;have d265:Q76.defs 265=Ja:=rfl;have d266:Q76.defs 100266=LX:=rfl;have d267:Q76.defs 267=JJ 2:=rfl;have d268:Q76.defs 268=L5:=rfl;have d269:Q76.defs 269=JF:=rfl;have d270:Q76.defs 270=JK:=rfl;have d290:Q76.defs 290=MH:=rfl;have d251:Q76.defs 251=JI:=rfl;have xa:∀ n,(gam Q76 n).xn=Of:=λn=>by cases n<;>rfl
 have ua:∀ n,(gam Q76 n).up=RF:=λn=>by cases n<;>rfl
 have ga:∀ n,(gam Q76 n).G 0=.int 300:=λn=>by cases n<;>rfl
 have fa:∀ n i,(gam Q76 n).fr i=(Q76.defs i).fr:=λn i=>by cases n<;>rfl
 have rs:∀ n,Ld (gam Q76 (n+1)):=λn p m hp=>uG (gam Q76 n) p m hp
 have mi:∀ n,Jm (gam Q76 (n+1)) 228 ns:=λn k hk=>uL (gam Q76 n) ns k hk
 have tu:∀ n,Pb (gam Q76 (n+2)):=λn p m hp z=>dF (rs n) p m hp z
 have fo:∀ n,Vx (gam Q76 (n+3)):=λn p b xs l t hp e it=>mV (rs (n+1)) (tu n) hp e it
 have me:∀ n,Mf (gam Q76 (n+2)):=λn p q a b c hp ha hb hc=>mU (rs n) p q a b c hp ha hb hc
 have jo:∀ n,QP (gam Q76 (n+4)):=λn p a b hp ia ib la lb ne=>uN (λa b ha hb ne=>dG (gam Q76 (n+2)) a b ha hb ne) (fo n) p a b hp ia ib la lb ne
 have ly:∀ n,VF (gam Q76 (n+2)):=λn p x y hp ix iy=>uM (rs n) p x y hp ix iy
 have on:∀ n,QO (gam Q76 (n+3)):=λn p x y hp ix iy=>uK (ly n) p x y hp ix iy
 have an:∀ n,W2 (gam Q76 (n+4)):=λn p x ls hp ix hl=>yT (on n) x ls hp ix hl
 have st:∀ n,Lc (gam Q76 (n+5)):=λn p pts f left hp np nf ni nl=>mP (jo n) (an n) pts f left hp np nf ni nl
 have tr:∀ n p,P4 p->(gam Q76 (n+1)).F 69 [.int p]=.ok (As (Dc p)):=λn p hp=>yP (gam Q76 n) p hp
 have ft:∀ n,ZX (gam Q76 (n+6)):=λn p pts hp np nd hz=>by rw[gF,d223];exact yS (st n) (λp hp=>tr (n+4) p hp) pts hp np nd hz
 have fi:∀ n (p:Ae) (pts:Ac R3),P4 p->(∀ x∈pts,NF p x)->pts.length<=1000->(gam Q76 (n+3)).F 65 [.int p,As pts]=.ok ((z0_ p pts).getD .non):=λn p pts hp np hz=>by rw[gF,d65];exact gG (me n) hp (λx hx=>(np x hx).1) (by show pts.length<20000;omega)
 have as:∀ n (p:Ae) (pts:Ac R3),P4 p->Fre p pts->(gam Q76 (n+5)).F 260 [.int p,As pts]=.ok .non:=λn p pts hp f=>by
  have l12:=Qh hp f;have e:=fi n p pts hp f.nf (by omega)
  rw[f.z0]at e;have e9:(gam Q76 (n+4)).F 109 [.int p,As pts]=.ok .non:=mY e;rw[gF,d260];exact mQ (yO (U:=gam Q76 (n+3)) pts f.nd) e9
 have f0:∀ n,W1 (gam Q76 (n+1)):=λn p T L=>by rw[gF,d265];exact uO (gam Q76 n) p T L
 have f1:∀ n,WZ (gam Q76 (n+6)):=λn p pts L hp f=>by rw[gF,d265];exact yR (st n) (f0 (n+4)) hp f
 have f2:∀ n (p:Ae) (pts L:Ac R3),P4 p->FrO p pts L->pts.length<=50->(gam Q76 (n+7)).F 265 [.int p,As pts,As L,.int 2]=.ok (.lst ((F3 p pts L).map twD)):=λn p pts L hp f hz=>by rw[gF,d265];exact yQ (st (n+1)) (f1 n) hp f hz
 have fu:∀ n (p:Ae) (pts:Ac R3) (m:Ae),P4 p->Fre p pts->(m=0\/m=1\/m=2)->(gam Q76 (n+8)).F 100266 [.int p,As pts,.int m]=if (frD p pts (Db p pts) m).length<=300 then .ok (.lst (frD p pts (Db p pts) m)) else .exn ⟨15,[]⟩:=λn p pts m hp f hm=>by
  have l12:=Qh hp f;obtain⟨g1,g2,_⟩:=S4 (pts:=pts) hp;have fO:FrO p pts (Db p pts):=⟨f.nf,by omega,g1,g2⟩
  have e3:(gam Q76 (n+7)).F 265 [.int p,As pts,As (Db p pts),.int m]=.ok (.lst (frD p pts (Db p pts) m)):=by
   rcases hm with rfl|rfl|rfl
   .exact f0 (n+6) p _ _
   .exact f1 (n+1) p pts _ hp fO
   .exact f2 n p pts _ hp fO (by omega)
  rw[gF,d266];exact uD (ga _) (by rw[fa];rfl) (by rw[xa];rfl) (as (n+2) p pts hp f) (ft (n+1) p pts hp f.nf f.nd (by omega)) e3
 have sm:∀ n,Gq (gam Q76 (n+1)):=λn p q q' a x p0 ha hx=>gD (gam Q76 n) p q q' a x p0 ha hx
 have cs:∀ n,GM (gam Q76 (n+1)):=λn p q q' a x p0 ha hx=>gH (gam Q76 n) p q q' a x p0 ha hx
 have fm:∀ n,Vy (gam Q76 (n+1)):=λn p b xs l t hp e it=>mW (gam Q76 n) hp e it
 have le:∀ n,Uo (gam Q76 (n+2)):=λn p t q q' a b c x G hx lx=>gE (sm n) (fm n) p t q q' a b c x G hx lx
 have pt:∀ n,Mt (gam Q76 (n+1)):=λn p m hp=>uH (gam Q76 n) p m hp
 have th:∀ n (p:Ae) (pts:Ac R3),P4 p->(∀ x∈pts,NF p x)->pts.length<=1000->(gam Q76 (n+2)).F 234 [.int p,As pts]=.ok ((z0_ p pts).getD .non):=λn p pts hp np hz=>by rw[gF,d234];exact gC (cs n) (sm n) hp (λx hx=>(np x hx).1) hz
 have fs:∀ n,HFs (gam Q76 (n+4)) ns:=λn=>⟨λp at_ hp ha=>mO (mi (n+2)) p at_ hp ha,λp a b c G=>by rw[gF,d290];exact uI (le (n+1)) p a b c G,λat_ L ha hL=>by
  obtain⟨M,pm,e⟩:=mT (mi (n+2)) at_ L ha hL;exact⟨M,pm,by rw[gF,d251];exact e⟩,mi (n+3),pt (n+3),by rw[fa];rfl,λp pts hp np hz=>th (n+2) p pts hp np hz⟩
 have pa:∀ n,Vw (gam Q76 (n+2)):=λn p pts hp np hz=>by rw[gF,d235];exact mS (pt n) (cs n) (sm n) hp np hz
 have op:∀ n,VE (gam Q76 (n+3)):=λn p pts hp np hz=>by rw[gF,d268];exact uJ (pa n) (pt (n+1)) hp np hz
 refine wQ (U:=gam Q76 11) ⟨mR (mi 9),mi 10,λp hp=>?_,λp pts m hp np hz hm=>by rw[gF,d269];exact mX (op 7) (sm 9) (cs 9) hp np hz hm,λp pts m t hp f hm ht=>by rw[gF,d270];exact dH (by rw[fa];rfl) (by rw[ua];rfl) ht (fu 2 p pts m hp f hm),rfl⟩
 obtain⟨l,f,hl,e⟩:=aM (fs 6) hp (j:=2) (by decide) (by decide)
 exact⟨l,f,by rw[gF,d267];exact e⟩
end OvC
namespace OvC
open PySem PySem.Spec PyProof.Rows Ov L2
variable{l:FQ}
noncomputable def tp76(i:Ag):AN:=PySem.Challenge.pw_ovalfield_k76_further_sets.main.body.getD i (.Pass ⟨0,0,0,0⟩)
noncomputable def WU:Ac (Ak×Ag×Ag):=([("rest",1,2),("turned_over",9,2),("one_form",17,2),("crossed",23,2),("lies",24,3),("on",56,3),("join",57,3),("measure",61,4),("first_three",65,2),("ask_unlike",194,1),("ask_no_three",109,2),("triples",69,1),("on_any",221,3),("still_fitting",222,4),("fitting",223,2),("ask_set",260,2),("further_rows",265,4),("further",100266,3),("_law_mixed",228,2),("_law_prime",229,1),("_law_form",288,2),("_law_point",231,2),("_law_cross",232,3),("_law_sum",233,3),("_law_three",234,2),("_law_pairs",235,2),("_law_table",250,3),("_law_led",289,3),("_law_oval",290,2),("_law_order",251,3)]:Ac (Ak×Ag×Ag))++([("_law_free_set",267,2),("_law_open",268,2),("_law_due",269,3),("_law_asked",270,4),("law",271,1)]:Ac (Ak×Ag×Ag))
noncomputable def Sc:Ac Ak:=["ValueError", "all", "enumerate", "isinstance", "len", "list", "range", "tuple", "zip"]
noncomputable def QR:Ac (Ak×Ag):=[("TooMany",15),("OvalError",0)]
noncomputable def Q8:Ac (Ak×Ag):=[("OvalError",0),("TooMany",15),("Alike",107),("OnLine",118),("NoCount",13)]
noncomputable def WQ:Ac (Ak×Ag):=[("MOST",0)]
noncomputable abbrev C76(h:Ai)(n:Ag)(N:Ac Ak)(i d:Ag):Ai:=Hb 80 h WU Sc QR Q8 WQ (N.take n) N (tp76 i) (Q76.defs d)
theorem uV:C76 Ad 2 ["p", "n"] 9 1=Aa:=by decide+kernel
theorem uU:C76 Ad 2 ["p", "n", "turned"] 10 9=Aa:=by decide+kernel
theorem vY:C76 Ad 2 ["p", "numbers", "rests", "first", "factor", "#5", "#6"] 12 17=Aa:=by decide+kernel
theorem vX:C76 Ad 2 ["one", "other"] 13 23=Aa:=by decide+kernel
theorem vW:C76 Ad 3 ["p", "point", "line"] 14 24=Aa:=by decide+kernel
theorem vV:C76 Ad 3 ["p", "point", "line"] 16 56=Aa:=by decide+kernel
theorem vT:C76 Ad 3 ["p", "one", "other"] 17 57=Aa:=by decide+kernel
theorem vS:C76 Ad 4 ["p", "one", "other", "third"] 18 61=Aa:=by decide+kernel
theorem vR:C76 Ad 2 ["p", "points", "i", "one", "j", "k"] 19 65=Aa:=by decide+kernel
theorem vQ:C76 Ad 1 ["points", "place", "point"] 20 194=Aa:=by decide+kernel
theorem qT:C76 Ad 2 ["p", "points", "three"] 21 109=Aa:=by decide+kernel
theorem qS:C76 Ad 1 ["p", "told", "z", "y", "#4"] 22 69=Aa:=by decide+kernel
theorem qR:C76 Ad 3 ["p", "point", "lines", "line"] 25 221=Aa:=by decide+kernel
theorem qQ:C76 Ad 4 ["p", "points", "further_point", "left", "lines", "#5", "#6"] 26 222=Aa:=by decide+kernel
theorem qP:C76 Ad 2 ["p", "points", "left", "place", "point"] 27 223=Aa:=by decide+kernel
theorem qO:C76 Ad 2 ["p", "points"] 28 260=Aa:=by decide+kernel
theorem qN:C76 Ad 4 ["p", "points", "left", "many", "rows", "place", "point", "behind", "row"] 29 265=Aa:=by decide+kernel
theorem qM:C76 Ad 3 ["p", "points", "many", "rows"] 30 100266=Aa:=by decide+kernel
theorem qL:C76 Ad 2 ["_law_script", "_law_k", "_law_cell"] 32 228=Aa:=by decide+kernel
theorem qK:C76 Ad 1 ["_law_script"] 33 229=Aa:=by decide+kernel
theorem qJ:C76 Ad 2 ["_law_p", "_law_numbers", "_law_rests_here", "_law_first", "_law_back", "#5", "#6", "#7", "#8"] 34 288=Aa:=by decide+kernel
theorem qI:C76 Ad 2 ["_law_p", "_law_number"] 35 231=Aa:=by decide+kernel
theorem qH:C76 Ad 3 ["_law_p", "_law_one", "_law_other", "_law_x", "_law_y", "_law_z"] 36 232=Aa:=by decide+kernel
theorem qG:C76 Ad 3 ["_law_p", "_law_one", "_law_other"] 37 233=Aa:=by decide+kernel
theorem qF:C76 Ad 2 ["_law_p", "_law_points", "_law_i", "_law_j", "_law_line", "_law_k"] 38 234=Aa:=by decide+kernel
theorem qE:C76 Ad 2 ["_law_p", "_law_points", "_law_pairs_here", "_law_every", "_law_i", "_law_j", "_law_line", "_law_point_here", "#8"] 39 235=Aa:=by decide+kernel
theorem qD:C76 Ad 3 ["_law_p", "_law_script", "_law_at", "_law_rows", "_law_k", "_law_number", "_law_i", "_law_j", "_law_many", "#9", "#10", "#11"] 40 250=Aa:=by decide+kernel
theorem qC:C76 Ad 3 ["_law_p", "_law_rows", "_law_point_here", "#3"] 41 289=Aa:=by decide+kernel
theorem qB:C76 Ad 2 ["_law_p", "_law_rows", "_law_points", "_law_t"] 42 290=Aa:=by decide+kernel
theorem qA:C76 Ad 3 ["_law_script", "_law_at", "_law_things", "_law_told", "_law_k", "_law_spot"] 43 251=Aa:=by decide+kernel
theorem pZ:C76 Ad 2 ["_law_p", "_law_script", "_law_way", "_law_many", "_law_points", "_law_k", "_law_point_here"] 46 267=Aa:=by decide+kernel
theorem nW:C76 Ad 2 ["_law_p", "_law_points", "_law_pairs_here", "_law_every", "#4", "#5"] 47 268=Aa:=by decide+kernel
theorem nV:C76 Ad 3 ["_law_p", "_law_points", "_law_many", "_law_told", "_law_left", "_law_point_here", "_law_lines", "_law_other", "#8", "#9"] 48 269=Aa:=by decide+kernel
theorem nS:C76 Ad 4 ["_law_p", "_law_points", "_law_many", "_law_told", "_law_found", "_law_kinds", "e"] 49 270=Aa:=by decide+kernel
theorem U_7:C76 Ad 1 ["_law_script", "_law_p", "_law_points", "_law_many", "_law_told", "_law_due_here", "_law_handed", "_law_turn", "_law_found", "_law_kinds", "#10"] 50 271=Aa:=by decide+kernel
set_option maxHeartbeats 0 in
theorem all76{w:AW}{K:Fg}{h:AF}{mg:Ak->Ao Aj}{fa f0 f1 f2 f3 f4 f5 f6 f7 f8 f9 f10 f11 f12 f13 f14 f15 f16 f17 f18 f19 f20 f21 f22 f23 f24 f25 f26 f27 f28 f29 f30 f31 f32 f33 f34 x0 x1 x2 x3 x4:Ah}(X:K.In h)(G:h.Ns A4 mg)(hfa:mg "law" = Ab (.ref fa)){gu0:Cr}(a0:FnI K f0 "rest" (tp76 9))(a1:FnI K f1 "turned_over" (tp76 10))(a2:FnI K f2 "one_form" (tp76 12))(a3:FnI K f3 "crossed" (tp76 13))(a4:FnI K f4 "lies" (tp76 14))(a5:FnI K f5 "on" (tp76 16))(a6:FnI K f6 "join" (tp76 17))(a7:FnI K f7 "measure" (tp76 18))(a8:FnI K f8 "first_three" (tp76 19))(a9:FnI K f9 "ask_unlike" (tp76 20))(a10:FnI K f10 "ask_no_three" (tp76 21))(a11:FnI K f11 "triples" (tp76 22))(a12:FnI K f12 "on_any" (tp76 25))(a13:FnI K f13 "still_fitting" (tp76 26))(a14:FnI K f14 "fitting" (tp76 27))(a15:FnI K f15 "ask_set" (tp76 28))(a16:FnI K f16 "further_rows" (tp76 29)){td17:Ah}(a17:FnJ K f17 td17 "further" (tp76 30) 1)(a18:FnI K f18 "_law_mixed" (tp76 32))(a19:FnI K f19 "_law_prime" (tp76 33))(a20:FnI K f20 "_law_form" (tp76 34))(a21:FnI K f21 "_law_point" (tp76 35))(a22:FnI K f22 "_law_cross" (tp76 36))(a23:FnI K f23 "_law_sum" (tp76 37))(a24:FnI K f24 "_law_three" (tp76 38))(a25:FnI K f25 "_law_pairs" (tp76 39))(a26:FnI K f26 "_law_table" (tp76 40))(a27:FnI K f27 "_law_led" (tp76 41))(a28:FnI K f28 "_law_oval" (tp76 42))(a29:FnI K f29 "_law_order" (tp76 43))(a30:FnI K f30 "_law_free_set" (tp76 46))(a31:FnI K f31 "_law_open" (tp76 47))(a32:FnI K f32 "_law_due" (tp76 48))(a33:FnI K f33 "_law_asked" (tp76 49))(a34:FnI K f34 "law" (tp76 50))(cx0:XA K "TooMany" x0 Af)(cx1:XA K "OvalError" x1 Af)(cx2:XE K "Alike" x2)(cx3:XE K "OnLine" x3)(cx4:XE K "NoCount" x4)(sx1:SuC K x1 [(x0,Aa),(x1,Aa)])(sx0:SuC K x0 [(x0,Aa),(x1,Ad)])(sx2:SuC K x2 [(x0,Ad),(x1,Ad)])(sx3:SuC K x3 [(x0,Ad),(x1,Ad)])(sx4:SuC K x4 [(x0,Ad),(x1,Ad)])(gn0:BA K A4 "MOST" = Ab (Ab (.int 300 gu0)))(z0:BA K A4 "ValueError" = Ab Af)(z1:BA K A4 "all" = Ab Af)(z2:BA K A4 "enumerate" = Ab Af)(z3:BA K A4 "isinstance" = Ab Af)(z4:BA K A4 "len" = Ab Af)(z5:BA K A4 "list" = Ab Af)(z6:BA K A4 "range" = Ab Af)(z7:BA K A4 "tuple" = Ab Af)(z8:BA K A4 "zip" = Ab Af):
  ∃ fd:BO,(∀(s:Aq)(v:Aj),FA s fd ⟨[v],[]⟩ [("_law_script",v)])/\∀ base:AF,K.In base->base.Ns A4 mg->FnOk l.prog w K mg base (CXR l.prog w) 12 fa fd ["_law_script"] (NL K):=by
 obtain⟨_,F,e⟩:=a34;obtain⟨_,_,_,_,_,_,_,_,_,rfl,_,_⟩:=F.ex;cases hfa.symm.trans (Cn X G e);have XT76:XT Q76.up Q76.xn (clL [(15,x0),(0,x1)]) QR Q8 K mg:=by
  refine wZ (all_cons (cx0.row λ_=>by first|exact .inr rfl|exact .inl rfl) (all_cons (cx1.row λ_=>by first|exact .inr rfl|exact .inl rfl) (all_nil))) (all_cons ⟨_,rfl,Cn X G cx0.n⟩ (all_cons ⟨_,rfl,Cn X G cx1.n⟩ (all_nil))) (all_cons ⟨_,Cn X G cx1.n,cx1.kc,sx1⟩ (all_cons ⟨_,Cn X G cx0.n,cx0.kc,sx0⟩ (all_cons ⟨_,Cn X G cx2.n,cx2.kc,sx2⟩ (all_cons ⟨_,Cn X G cx3.n,cx3.kc,sx3⟩ (all_cons ⟨_,Cn X G cx4.n,cx4.kc,sx4⟩ (all_nil)))))) ?_
  intro c q ds;show Of c ds=.bad;unfold Of;split<;>first|rfl|exact absurd rfl (q ("TooMany",15) (by decide))|exact absurd rfl (q ("OvalError",0) (by decide))
 have T:Tab K mg (clL [(15,x0),(0,x1)]) WU Sc QR Q8 WQ Q76 80:=⟨XT76,all_cons (Cf X G z0) (all_cons (Cf X G z1) (all_cons (Cf X G z2) (all_cons (Cf X G z3) (all_cons (Cf X G z4) (all_cons (Cf X G z5) (all_cons (Cf X G z6) (all_cons (Cf X G z7) (all_cons (Cf X G z8) (all_nil))))))))),all_cons (wH (Cn X G gn0)) (all_nil),all_cons (FL 2 1 X G a0 rfl uV λ_ _ _ _ _ _ _ _=>rfl) (all_cons (FL 2 9 X G a1 rfl uU λ_ _ _ _ _ _ _ _=>rfl) (all_cons (FL 2 17 X G a2 rfl vY λ_ _ _ _ _ _ _ _=>rfl) (all_cons (FL 2 23 X G a3 rfl vX λ_ _ _ _ _ _ _ _=>rfl) (all_cons (HW 3 24 X G a4 rfl vW λ_ _ _ _ _ _ _ _ _=>rfl) (all_cons (HW 3 56 X G a5 rfl vV λ_ _ _ _ _ _ _ _ _=>rfl) (all_cons (HW 3 57 X G a6 rfl vT λ_ _ _ _ _ _ _ _ _=>rfl) (all_cons (N7 4 61 X G a7 rfl vS λ_ _ _ _ _ _ _ _ _ _=>rfl) (all_cons (FL 2 65 X G a8 rfl vR λ_ _ _ _ _ _ _ _=>rfl) (all_cons (N8 1 194 X G a9 rfl vQ λ_ _ _ _ _ _ _=>rfl) (all_cons (FL 2 109 X G a10 rfl qT λ_ _ _ _ _ _ _ _=>rfl) (all_cons (N8 1 69 X G a11 rfl qS λ_ _ _ _ _ _ _=>rfl) (all_cons (HW 3 221 X G a12 rfl qR λ_ _ _ _ _ _ _ _ _=>rfl) (all_cons (N7 4 222 X G a13 rfl qQ λ_ _ _ _ _ _ _ _ _ _=>rfl) (all_cons (FL 2 223 X G a14 rfl qP λ_ _ _ _ _ _ _ _=>rfl) (all_cons (FL 2 260 X G a15 rfl qO λ_ _ _ _ _ _ _ _=>rfl) (all_cons (N7 4 265 X G a16 rfl qN λ_ _ _ _ _ _ _ _ _ _=>rfl) (all_cons (yL 3 100266 X G a17 rfl qM (λ_ _ _ _ _ _ _ _ _ _ _ _ _ hT hS=>X8 rfl hT hS rfl rfl) λ_ _ _ _ _ _ _ _ _ _ _ _ hT hS=>X8 rfl hT hS rfl rfl) (all_cons (FL 2 228 X G a18 rfl qL λ_ _ _ _ _ _ _ _=>rfl) (all_cons (N8 1 229 X G a19 rfl qK λ_ _ _ _ _ _ _=>rfl) (all_cons (FL 2 288 X G a20 rfl qJ λ_ _ _ _ _ _ _ _=>rfl) (all_cons (FL 2 231 X G a21 rfl qI λ_ _ _ _ _ _ _ _=>rfl) (all_cons (HW 3 232 X G a22 rfl qH λ_ _ _ _ _ _ _ _ _=>rfl) (all_cons (HW 3 233 X G a23 rfl qG λ_ _ _ _ _ _ _ _ _=>rfl) (all_cons (FL 2 234 X G a24 rfl qF λ_ _ _ _ _ _ _ _=>rfl) (all_cons (FL 2 235 X G a25 rfl qE λ_ _ _ _ _ _ _ _=>rfl) (all_cons (HW 3 250 X G a26 rfl qD λ_ _ _ _ _ _ _ _ _=>rfl) (all_cons (HW 3 289 X G a27 rfl qC λ_ _ _ _ _ _ _ _ _=>rfl) (all_cons (FL 2 290 X G a28 rfl qB λ_ _ _ _ _ _ _ _=>rfl) (all_cons (HW 3 251 X G a29 rfl qA λ_ _ _ _ _ _ _ _ _=>rfl) (all_cons (FL 2 267 X G a30 rfl pZ λ_ _ _ _ _ _ _ _=>rfl) (all_cons (FL 2 268 X G a31 rfl nW λ_ _ _ _ _ _ _ _=>rfl) (all_cons (HW 3 269 X G a32 rfl nV λ_ _ _ _ _ _ _ _ _=>rfl) (all_cons (N7 4 270 X G a33 rfl nS λ_ _ _ _ _ _ _ _ _ _=>rfl) (all_cons (N8 1 271 X G ⟨_,F,e⟩ rfl U_7 λ_ _ _ _ _ _ _=>rfl) (all_nil)))))))))))))))))))))))))))))))))))⟩
 exact⟨_,λs v=>.of_eq rfl,λbase _ _=>law_fn (VS T (Qt T 11) (WR F) rfl U_7) bz⟩
theorem walk76{q:AO}{loose:Ac Ak}{XP:(Ak->Ao Aj)->AF->Prop}{YP:AW->AF->Prop}{d:DefRec}{K:LQ->Fg}(hn:l.most=Ab 63)(hdf:d.params.defaults=[])(hY:∀(w:AW)(h:AF),YP w h->(K w.params).In h)(F:∀(w:AW)(mg:Ak->Ao Aj)(fa:Ah)(h:AF),(K w.params).In h->h.Ns A4 mg->mg d.name=Ab (.ref fa) ->
   ∃ fd:BO,(∀(s:Aq)(u:Aj),FA s fd ⟨[u],[]⟩ [("_law_script",u)])/\∀ base:AF,(K w.params).In base->base.Ns A4 mg->FnOk l.prog w (K w.params) mg base (CXR l.prog w) 12 fa fd ["_law_script"] (NL (K w.params))):Zl q loose XP YP l.row.toRowW d [] (λf vs=>Ks f vs):=
 L2.walk_of (n:=63) (k:=12) (x := "_law_script") (CX:=λw=>CXR l.prog w) (sp:=λw=>NL (K w.params)) hn (by decide) hdf ⟨rfl,by decide,by decide,rfl⟩ hY F (λ_ H a ns hl _ hS=>⟨a,ns,rfl,hl,hS,λ_ _ z=>z⟩) λ_ _ _ _ _ z=>vK z
end OvC
open PySem PySem.W PyProof.Rows
noncomputable def OvC.view76:PySem.Program:={ PySem.Challenge.pw_ovalfield_k76_further_sets with main:={PySem.Challenge.pw_ovalfield_k76_further_sets.main with body:=[OvC.tp76 1,OvC.tp76 2,OvC.tp76 3,OvC.tp76 4,OvC.tp76 5,OvC.tp76 6,OvC.tp76 7,OvC.tp76 9,OvC.tp76 10,OvC.tp76 12,OvC.tp76 13,OvC.tp76 14,OvC.tp76 16,OvC.tp76 17,OvC.tp76 18,OvC.tp76 19,OvC.tp76 20,OvC.tp76 21,OvC.tp76 22,OvC.tp76 24,OvC.tp76 25,OvC.tp76 26,OvC.tp76 27,OvC.tp76 28,OvC.tp76 29,OvC.tp76 32,OvC.tp76 33,OvC.tp76 34,OvC.tp76 35,OvC.tp76 36,OvC.tp76 37,OvC.tp76 38,OvC.tp76 39,OvC.tp76 40,OvC.tp76 41,OvC.tp76 42,OvC.tp76 43,OvC.tp76 44,OvC.tp76 45,OvC.tp76 46,OvC.tp76 47,OvC.tp76 48,OvC.tp76 49,OvC.tp76 50]} }
set_option hygiene false
local macro_rules | `(tactic| o_head $H)=>`(tactic| refine holds_open (q:=OvC.view76) (loose:=["further"]) (Xt:=fun s=>xlAt OvC.view76 [] s&&recOk (RowW.records (OpenRow.toRowW (PySem.Challenge.rw_ovalfield_k76_further_sets.row))) s) (XP:=XL OvC.view76 []) (Yf:=Hook.obs $H) (Ya:=Hook.val $H) (YP:=Hook.says $H) (N:=5538) ?hl (Hook.of $H) (Hook.keeps $H) (fun s e=>xl_of s (Bool.and_eq_true_iff.mp e).1) XL.keeps (by rfl) (by rfl) (by rfl) (fun s e=>recFacts_of (Bool.and_eq_true_iff.mp e).2) (by rfl) (by first|assumption|decide +kernel) (by decide +kernel) ⟨rfl,rfl,rfl,rfl,rfl,by decide +kernel⟩ ?hw ?hc)
set_option maxRecDepth 100000 in
set_option maxHeartbeats 0 in
theorem PySem.Challenge.cw_ovalfield_k76_further_sets_holds : PySem.Challenge.rw_ovalfield_k76_further_sets.Holds := by
 w_on;refine holds_law (by decide+kernel) λsaid=>?_;k_head
 (case hl=>intro w;unfold openEnds fencedOpening topFrom;rw[PySem.W.Fast.te10274390034422433532,PySem.W.Fast.te14364793385576792824,PySem.W.Fast.te1435165496053646825,PySem.W.Fast.te14289696077712309145,PySem.W.Fast.te14082659384304107361,PySem.W.Fast.te4187177175401517315];kernel_rfl)
 (case hw=>w_witness2)
 k_fill
 refine OvC.walk76 (l:=PySem.Challenge.rw_ovalfield_k76_further_sets) rfl rfl (λw h Y_=>Zo Y_) ?F
 case F=>
  intro w mg fa h KX G hmg
  refine' OvC.all76 KX G hmg ?a0 ?a1 ?a2 ?a3 ?a4 ?a5 ?a6 ?a7 ?a8 ?a9 ?a10 ?a11 ?a12 ?a13 ?a14 ?a15 ?a16 ?a17 ?a18 ?a19 ?a20 ?a21 ?a22 ?a23 ?a24 ?a25 ?a26 ?a27 ?a28 ?a29 ?a30 ?a31 ?a32 ?a33 ?a34 ?cx0 ?cx1 ?cx2 ?cx3 ?cx4 ?sx1 ?sx0 ?sx2 ?sx3 ?sx4 ?gn0 ?z0 ?z1 ?z2 ?z3 ?z4 ?z5 ?z6 ?z7 ?z8
  case a0|a1|a2|a3|a4|a5|a6|a7|a8|a9|a10|a11|a12|a13|a14|a15|a16|a18|a19|a20|a21|a22|a23|a24|a25|a26|a27|a28|a29|a30|a31|a32|a33|a34=>(refine' Ov.fni ?a ?l ?c ?k;(case a=>k_is);(case l=>k_is);(case c=>k_is);(case k=>k_is))
  case a17=>(refine' Ov.fnj ?a ?l ?c ?k ?d;(case a=>k_is);(case l=>k_is);(case c=>k_is);(case k=>k_is);(case d=>k_is))
  case cx0|cx1=>(refine' Ov.xa_mk ?n (Ov.xcls_l ?e) ?d ?f ?g ?a ?b ?c ?o ?h ?v;(case n=>k_is);(case e=>k_exc);(case d=>kernel_rfl);(case f|g|a|b|c|o|h|v=>k_is))
  case cx2|cx3|cx4=>(refine' Ov.XE.mk ?a ?b ?c;(case a=>k_is);(case b|c=>k_is))
  case sx1|sx0|sx2|sx3|sx4=>(refine' Ov.all_cons ?q0 (Ov.all_cons ?q1 (Ov.all_nil));(case q0|q1=>dsimp only;k_is))
  case gn0|z0|z1|z2|z3|z4|z5|z6|z7|z8=>k_is
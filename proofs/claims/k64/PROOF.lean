import PyProof.Rows.All
import Wide.All
import OpenK.AllK
import Wide.FinOn
import PyProof.EqAt
import KE.KSortTup
import PyProof.EqKinds
import PyProof.TupleCall
import Lean
import PySem.Challenge.RW_ovalfield_k64_meets_and_six_refused
set_option Elab.async false
set_option linter.all false
set_option maxRecDepth 100000
set_option maxHeartbeats 4000000
open Option renaming some→Aa,none→Ae,bind_eq_some_iff→Az,isSome_iff_exists→Do,map_some→Ej,getD_none→Yw,isNone_iff_eq_none→Yx,map→Yy
open Bool renaming true→Ab,false→Ad,false_ne_true→Ah,and_eq_true→Aj,not_eq_true'→Bt,or_eq_true→CG,toNat_true→CH,eq_iff_iff→DH,or_false→G4,or_true→Ht,and_false→Ip,and_true→XO,false_eq_true→XQ
open _root_ renaming List→Ac,Int→Af,Nat→Ag,Bool→Ak,Option→Ap,if_pos→AA,if_neg→AH,of_decide_eq_true→AR,beq_iff_eq→AT,False→AX,decide_eq_true_eq→AZ,decide_eq_true→A8,Array→Be,or_false→BZ,dif_neg→B2,decide_eq_false→CY,String→C5,beq_self_eq_true→De,beq_eq_false_iff_ne→Dx,not_or→Dy,not_false_eq_true→DO,if_true→Eh,Decidable→Fm,Unit→F6,bne_iff_ne→Gz,and_true→GR,True→HA,if_false→HR,ne_eq→KO
open PySem renaming Str→Ai,Value→Al,Addr→Am,Expr→An,wpAny_bind→Ao,Shared→Ar,starEach→Av,wpAny→Ax,Heap→AF,Pos→AG,wpAny_pure→AI,Program→AO,Stmt→AQ,mainGlobals→A1,Around→A2,World→A4,wpAny_mono→Bf,FuncData→BL,backTo→BN,wpAny_field→BS,cLine→B4,Scope→B5,wpAny_loadPart_at→B6,binaryOp→B7,Env→B9,assignEach→Ca,excClassObj→Cd,wpAny_holding→Ch,compareOp→Cz,wpAny_truthy_bool→CA,mem_of_lookup→CB,Tok→CM,cellsFrom→CN,foldedSetIterable→CU,wpAny_newObj_type→CV,swapsWith→CW,Obj→C3,bootBuiltins→C4,CmpOp→C9,sizeLine_eq→Dl,wpAny_callSpecial?_slot→Dv,wpAny_seqItems→DA,wpAny_setField_rec→DG,swappedStores→DL,wpAny_standAt→DM,codeAny_call_builtin→DR,OwnTail→DV,NameKind→D7,rawInt→D8,attributeBase→Eg,wpAny_Call_Name_kw→Ek,wpAny_pyIter_list→Ep,IsPair→Ey,Keyword→Ez,wpAny_call_entry→EJ,ExceptHandler→EV,wpAny_newFunctionEnv_cells→EY,sliceBounds→EZ,wpAny_isSubtype_exc→E5,wpAny_execs_nil→Fk,wpAny_passesOwn→Fl,GenState→Fp,Operator→Fq,PassesOwn→Fs,codeAny_mono→Ft,wpAny_pyIter_tuple→Fu,codeAny→FE,wpAny_setField→FH,swapsWithSole→F0,wpAny_onRaise→F1,checkBuiltinCall→F4,BindsTo→Gd,codeAny_call_function→Ge,IsZip→Go,letOwnedTupleGo→Gq,wpAny_call→Gr,wpAny_updateSeq_pair→Gs,Sem→GE,recursionLimit→GH,Model→GU,noteFrame→G1,pushCells→G2,seqIndex?→G3,behindInMarks→G8,OsState→Hn,callerA→Ho,standAt→Hq,ExcBaseFacts→Hw,IsPart→Hx,Paired→Hy,wpAny_execs_cons→Hz,Drawn→HU,pushCells_keeps→HW,setFlight→HX,keywordEach→H9,isTrue→Iu,newFunctionEnv→Iw,notedBy→Ix,pyNext→Iy,bindC→IA,bindL→IB,builtinsNs→IC,isInstance→ID,numAt→IE,Comprehension→Je,Result→Jk,callSpecial?→Jn,codeAny_func→Jo,concat_meets→Jp,lastMarks→Jq,onTheHeap→Jr,preSum→Js,seqIndex_neg→Jt,UnaryOp→JK,getItem→JL,setItem→JM,seqIndex_of→JQ,wpAny_letGo→JR,wpAny_of_eq→JS,backToKw→JT,bindArgs→JU,handleBy→JV,PyData→KA,StoreFacts→KC,call→KH,call_meets→KI,sysModules→KJ,wpAny_Name→KM,wpAny_rule→KN,intKind→KP,Arguments→LZ,IntMulOk→Mc,Params→Md,intItems→Me,pyIter→Mf,call_sum_walkG→Z0,firstArgMember→Z1,noFill_tuple_add→Z2,refuseLoop_ref→Z4,slot_list_getitem→Z5,wpAny_assign_Name→Z6,wpAny_comprehension_free→Z7,wpAny_pyIter_enum→Z8,wpAny_pyIter_zip→Z9,wpAny_pyNext_list_end→aA,wpAny_pyNext_list_item→aC
open PySem.Heap renaming get?_push_of_some→As,lt_size→AE,get?_push_size→AK,size_push→B0,get?_update_other→Cy,get?_update_self→CJ,get?_none_of_le→Dp,SameBut→Ew,ExtBut→HZ,MadeExcOf→Iq,get?_push_at→Zr,get?_push_cases→Zs,get?_update_ne→Zt
open PySem.W renaming findIn→At,subIn→AM,nsIn→Bl,mg_none_of→BE,keepIn→B1,mg_of→B8,looks_findIn→Cp,fnOf→Cu,mroIn→Cv,codeIn→DW,kitOne→DX,excIn→Ef,specialIn→Eo,typeIn→EB,clsIn→EX,findCls→Fi,readsIn→Fj,OpenLaw→FW,cellsFrom_some→FX,callWith_K→GZ,codeRec_of→G0,methodObj→Hk,kitAny→Ir,WalkO→ZR,isNs_of_in→ZS,kIn_of→ZT,kitMeta→ZU,looks_subIn→ZV,nsOkIn→ZW,tail_of_in→ZX
open List renaming mem_cons→Aw,mem_cons_of_mem→Ay,mem_cons_self→AB,size_toArray→AC,getElem?_eq_some_iff→AS,not_mem_nil→A3,length_set→A6,range→Bb,length_map→Bh,length_cons→Bk,getElem?_eq_getElem→Bm,mem_range→Bq,mem_append_right→Bs,mem_singleton→BA,mem_filter→BQ,nodup_cons→BR,getD_eq_getElem?_getD→BU,lookup_cons→Cc,map_cons→Cf,append_nil→Ck,isEmpty_eq_false_iff→CI,length_append→CK,getElem?_map→CT,getElem?_set_self→C2,mem_map→Dm,nodup_nil→Dz,mem_append_left→DP,all_eq_true→DY,exists_of_findSome?_eq_some→DZ,filter_cons→D0,getElem_mem→D3,zipWith→D4,range_succ_eq_map→El,any_eq_true→EH,findSome?_eq_none_iff→EU,getElem_of_mem→E2,map_congr_left→E3,drop_eq_getElem_cons→Fd,getElem?_append_left→Fe,mem_append→Ff,toArray→Fn,getElem?_set_self'→FI,lookup→FT,all_cons→FY,length_drop→F2,length_take→F3,getElem?_set_ne→Gf,map_map→Gg,mem_of_getElem?→Gh,of_mem_zip→Gi,filterMap_cons→GA,findSome?_cons→GB,forIn_nil→GC,replicate→GD,contains_cons→GV,any_cons→G6,getElem?_set→Hj,isEmpty_iff→Hu,forIn_cons→HS,map_nil→Jh,map→Ma,all_map→X3,any_map→X4,contains_eq_mem→X6,drop_eq_nil_of_le→X7,ext_getElem?→X8,getElem?_append_right→X9,getElem?_cons_succ→Yb,getElem?_cons_zero→Yc,getElem?_replicate→Yd,getElem?_toArray→Ye,length→Yg,length_nil→Yh,length_range→Yi,length_replicate→Yj,length_singleton→Yk,mem_or_eq_of_mem_set→Yl,perm_append_comm→Ym,reverse_cons→Yn,set_set→Yo,take_of_length_le→Yp,zipIdx_cons→Yq,zipIdx_nil→Yr
open Nat renaming lt_of_lt_of_le→AJ,le_refl→AW,ne_of_lt→Bc,lt_irrefl→Bw,le_trans→Ct,ble→CZ,le_of_ble_eq_true→Dg,lt_succ_of_lt→Ds,lt_succ_self→D5,ne_of_gt→Eu,lt_of_le_of_lt→Fo,zero_le→FU,le_of_lt→Gj,pow_le_pow_right→Gk,le_succ→GS,lt_or_gt_of_ne→GW,mod_eq_of_lt→Hv,min_self→Ys,not_lt→Yt,not_lt_zero→Yu,zero_add→Yv
open PySem.Str renaming ofString→AN,empty→Jm
open Int renaming emod_eq_of_lt→AV,zero_emod→Bi,emod_lt_of_pos→Bj,emod_nonneg→Bo,emod_emod_of_dvd→Bp,mul_comm→BH,mul_emod→BJ,dvd_refl→Ci,mul_zero→C1,one_mul→Dk,mul_one→DD,zero_mul→DF,zero_add→Et,toNat_natCast→FJ,mul_assoc→G5,mul_pos→HY,le_trans→Jg,le_refl→JN,neg_neg→JO,add_emod→XS,dvd_neg→XU,emod_eq_zero_of_dvd→XV,mul_nonneg→XX,sub_emod→XY,sub_zero→XZ,zero_sub→X1
open False renaming elim→Ba
open Option.some renaming inj→Bz,injEq→Ce
open Prod renaming ext→BF
open PySem.Builtin.SmallTypes renaming nextOf→BK,ownedTupleIsFree→CQ,ownedTupleHandOut→YI
open PyProof.Rows renaming callWith_type1→BO,envOfC→Ev,AllBare→FD,boot_list→FV,boot_isinstance→Gm,IntsAre→Hm,Call_→Iz,IsTup→Ky,boot_range→Kz,boot_int→Yz,boot_tuple→YA,callWith_builtin1→YB,slicePart_none→YC,slot_tuple_getitem→YD,subscriptTail_builtinR→YE
open PySem.NameKind renaming cell→BV,free→DK
open PySem.Value renaming ref→Co,builtin→Da,none→DE,bool→KD,type→KG,int→L8,str→L9,bytes→ZM,float→ZN
open Ne renaming symm→CP
open PySem.Obj renaming data_mapFields→Dh,isFreed_of_fields→EA,mapFields→FZ,mapSeq→Hl,cls_mapFields→Zv
open Classical renaming byContradiction→Di,choose_spec→Er,choose→XR
open PySem.PyData renaming shownAll→DI,depthAll→HV,hasDictAll→Zy,showableAll→Zz
open PySem.F renaming slot_tuple_iterator_next→DJ,plainAttrs_list→Ea,excBase_ValueError→EW,attr_ValueError→FL,slot_zip_next→Gn,args_tuple_add_2→Ze,args_tuple_iterator_next_1→Zf,args_zip_next_1→Zg,entry_bexc_ga→Zh,entry_tuple_add→Zi,entry_tuple_iterator_next→Zj,entry_zip_next→Zk,slot_list_append→Zl,slot_tuple_add→Zm,typeOf_object_class→Zn,type_list_append→Zo
open PySem.Builtin.Slice renaming slicePlaces→DQ,sliceAdjust→Fh,sliceApplied→YH
open PySem.Builtin.Tuple renaming tupleExact→D6
open ForInStep renaming yield→Ei
open PySem.Calls renaming evalArgs_plain→EI,spliced_nil→FK,spliced_cons→GX,Name_function_global→YJ,callWith_builtin→YK
open Array renaming length_toList→E1,toList→Jf,getElem?_eq_getElem→XM,getElem?_toList→XN
open PySem.SeqAt renaming EqAt→Gp,RcNeAt→Jl,RcAt→KB
open PySem.Code renaming quiet_builtin→GY,isFrame→Jj,frames→YL
open Prod.mk renaming injEq→G7
open Function renaming comp_def→Hi
open Sum renaming inl→Hr,inr→Hs
open PySem.Around renaming under→Ji
open PySem.Shared renaming heap→JP
open NeZero renaming ne→LX
open PyProof.Rows.IsTup renaming new→LY
open PySem.Data renaming cell→L7,seq→Mb
open List.Perm renaming refl→X2
open List.cons renaming injEq→X5
open PySem.Builtin.Int renaming intBits→YF
open PySem.Builtin.ObjectAttr renaming storeInDict→YG
open PySem.EntryCells renaming newEntry→YM
open PySem.Expr renaming Attribute→YN,BinOp→YQ,BoolOp→YS,Call→YU,Compare→YW,Constant→YY,List→Y0,ListComp→Y2,Name→Y4,Slice→Y6,Subscript→Y8,Tuple→Za,UnaryOp→Zc
open PySem.Expr.Attribute renaming elim→YO
open PySem.Expr.BinOp renaming elim→YR
open PySem.Expr.BoolOp renaming elim→YT
open PySem.Expr.Call renaming elim→YV
open PySem.Expr.Compare renaming elim→YX
open PySem.Expr.Constant renaming elim→YZ
open PySem.Expr.List renaming elim→Y1
open PySem.Expr.ListComp renaming elim→Y3
open PySem.Expr.Name renaming elim→Y5
open PySem.Expr.Slice renaming elim→Y7
open PySem.Expr.Subscript renaming elim→Y9
open PySem.Expr.Tuple renaming elim→Zb
open PySem.Expr.UnaryOp renaming elim→Zd
open PySem.Heap.SameBut renaming refl→Zp,update→Zq
open PySem.IsRange renaming new→Zu
open PySem.Paired renaming length→Zw
open PySem.PassesOwn renaming leaving→Zx
open PySem.SeqAt.EqAt renaming of_refs→ZA,same→ZB
open PySem.Stmt renaming Assign→ZC,Expr→ZE,Raise→ZI,Return→ZK
open PySem.Stmt.Assign renaming elim→ZD
open PySem.Stmt.Expr renaming elim→ZF
open PySem.Stmt.For renaming elim→ZG
open PySem.Stmt.If renaming elim→ZH
open PySem.Stmt.Raise renaming elim→ZJ
open PySem.Stmt.Return renaming elim→ZL
open PySem.Value.ref renaming inj→ZO
open PySem.W.WData renaming int→ZP
open PySem.W.WShape renaming has→ZQ
open PySem.Walks renaming list→ZY,tuple→ZZ
abbrev Fg:=PySem.W.Frag
abbrev Pn:=Ac (PySem.Addr×PySem.Obj)
abbrev Vq:=PySem.Value->PySem.Shared->Prop
set_option genSizeOfSpec false
-- CHANGE: your row's module here,as the last of these rows
namespace L2
open PySem PySem.Spec PyProof.Rows
abbrev Key:=Sum Af Ai
noncomputable def Xl:Key->Al->Ak
 |.inl k,v=>Value.isInt k v
 |.inr x,v=>Value.isStrOf x v
noncomputable def cS(w:A4):Key->Af
 |.inl k=>hashInt k
 |.inr x=>hashStr w x
theorem IG:∀{k:Key}{v:Al},Xl k v=Ab->(∃ i t,k=Hr i/\v=L8 i t)\/(∃ x t,k=Hs x/\v=L9 x t)
 |.inl i,v,h=>by
  obtain⟨t,e⟩:=Value.isInt_shape (k:=i) (v:=v) h;exact .inl ⟨i,t,rfl,e⟩
 |.inr x,v,h=>by
  obtain⟨t,e⟩:=Value.isStrOf_shape (x:=x) (v:=v) h;exact .inr ⟨x,t,rfl,e⟩
theorem uL(a b:Af):decide ((Hr a:Key)=Hr b)=(a==b):=by
 by_cases e:a=b
 ·subst e;simp
 ·have h:¬ (Hr a:Key)=Hr b:=fun q=>e (Sum.inl.inj q)
  rw[CY h];exact(Dx.mpr e).symm
theorem uI(a b:Ai):decide ((Hs a:Key)=Hs b)=decide (a=b):=by
 by_cases e:a=b
 ·subst e;simp
 ·have h:¬ (Hs a:Key)=Hs b:=fun q=>e (Sum.inr.inj q)
  rw[CY h,CY e]
theorem uK(a:Af)(b:Ai):decide ((Hr a:Key)=Hs b)=Ad:=CY (fun q=>nomatch q)
theorem uJ(a:Ai)(b:Af):decide ((Hs a:Key)=Hr b)=Ad:=CY (fun q=>nomatch q)
noncomputable def Qn(prog:AO)(w:A4):PySem.KeyKind prog w Key where
 is:=Xl
 hash:=cS w
 inj:=fun v a b ha hb=>by
  rcases IG ha with ⟨i,t,rfl,rfl⟩|⟨x,t,rfl,rfl⟩
  ·rcases IG hb with ⟨j,u,rfl,e⟩|⟨y,u,rfl,e⟩
   ·injection e with e1 _;rw[e1]
   ·exact nomatch e
  ·rcases IG hb with ⟨j,u,rfl,e⟩|⟨y,u,rfl,e⟩
   ·exact nomatch e
   ·injection e with e1 _;rw[e1]
 byValue:=fun k v h=>by
  rcases IG h with ⟨i,t,rfl,rfl⟩|⟨x,t,rfl,rfl⟩<;>rfl
 pyHash:=fun hv h=>by
  rcases IG hv with ⟨i,t,rfl,rfl⟩|⟨x,t,rfl,rfl⟩
  ·exact wpAny_pyHash_int h
  ·exact wpAny_pyHash_str h
 eqBool:=fun hu hv h=>by
  rcases IG hu with ⟨i,t,rfl,rfl⟩|⟨x,t,rfl,rfl⟩
  ·rcases IG hv with ⟨j,u,rfl,rfl⟩|⟨y,u,rfl,rfl⟩
   ·rw[uL]at h;exact wpAny_eqBool_int h
   ·rw[uK]at h;exact SeqAt.EqAt.int_str i t y u _ _ _ _ h
  ·rcases IG hv with ⟨j,u,rfl,rfl⟩|⟨y,u,rfl,rfl⟩
   ·rw[uJ]at h;exact SeqAt.EqAt.str_int x t j u _ _ _ _ h
   ·rw[uI]at h;exact wpAny_eqBool_str h
 «strs»:=fun k x t v h=>by
  rcases IG h with ⟨i,u,rfl,e⟩|⟨y,u,rfl,e⟩
  ·exact nomatch e
  ·injection e with e1 _
   subst e1;cases v<;>rfl
end L2
namespace L2
open PySem PySem.Spec PyProof.Rows
variable{us:Ac Al}{a b it:Am}{P:AO}{h:AF}{o:C3}{g':Be Fp}{t' i k n:Ag}{d':HU}{ch fp:Ac Am}{x qual:Ai}{M:GU}{u:Al}{Q:F6->Ar->Prop}{e tg:An}{s:Ar}{pos p:AG}{pI:Pn}{es:Ac An}{body:Ac AQ}{f:Al->Al->GE Al}{g:Af->Af->Af}{op:C9}{kw:Ac (Ai×Al)}{fd:BL}{ps:Ac Ai}{scope:B5}
inductive V where
 |non|bl (b:Ak)|int (i:Af)|str (x:Ai)|byt (b:Be UInt8)|flt (b:UInt64)|ref (a:Am)|ty (n:C5)
 deriving DecidableEq
variable{xs vs:Ac V}{v:V}
def BB:V->Al->Prop
 |.non,u=>u=DE
 |.bl b,u=>u=KD b
 |.int i,u=>∃ t,u=L8 i t
 |.str x,u=>∃ t,u=L9 x t
 |.byt b,u=>∃ t,u=ZM b t
 |.flt b,u=>∃ t,u=ZN b t
 |.ref a,u=>u=Co a
 |.ty n,u=>u=KG n
noncomputable abbrev A7:Ac V->Ac Al->Prop:=Hy BB
theorem A7.length(r:A7 xs us):xs.length=us.length:=Zw r
theorem A7.get:∀{xs:Ac V}{us:Ac Al}{i:Ag}{x:V},A7 xs us->xs[i]?=Aa x->∃ u,us[i]?=Aa u/\BB x u
 |_,_,_,_,.nil,e=>by simp at e
 |_,_,0,_,.cons r _,e=>by simp at e;subst e;exact⟨_,rfl,r⟩
 |_,_,i+1,x,.cons _ t,e=>by
  obtain⟨u,h1,h2⟩:=A7.get (i:=i) (x:=x) t (by simpa using e)
  exact⟨u,by simpa using h1,h2⟩
theorem A7.set{x:V}{u:Al}(r:BB x u):∀{xs:Ac V}{us:Ac Al}(i:Ag),A7 xs us->A7 (xs.set i x) (us.set i u)
 |_,_,_,.nil=>.nil
 |_,_,0,.cons _ t=>.cons r t
 |_,_,i+1,.cons q t=>.cons q (A7.set r i t)
theorem A7.append:∀{xs ys:Ac V}{us ws:Ac Al},A7 xs us->A7 ys ws->A7 (xs++ys) (us++ws)
 |_,_,_,_,.nil,s=>s
 |_,_,_,_,.cons r t,s=>.cons r (A7.append t s)
theorem A7.take:∀{xs:Ac V}{us:Ac Al}(n:Ag),A7 xs us->A7 (xs.take n) (us.take n)
 |_,_,0,_=>.nil
 |_,_,_+1,.nil=>.nil
 |_,_,n+1,.cons r t=>.cons r (A7.take n t)
theorem A7.drop:∀{xs:Ac V}{us:Ac Al}(n:Ag),A7 xs us->A7 (xs.drop n) (us.drop n)
 |_,_,0,r=>r
 |_,_,_+1,.nil=>.nil
 |_,_,n+1,.cons _ t=>A7.drop n t
def M8:Ap V->Ap Al->Prop
 |some v,Aa u=>BB v u
 |none,Ae=>HA
 |_,_=>AX
def KV{κ:Type}:Ac (κ×V)->Ac (κ×Al)->Prop:=Hy fun(p:κ×V)(q:κ×Al)=>p.1=q.1/\BB p.2 q.2
noncomputable def kV:Key->V
 |.inl i=>.int i
 |.inr x=>.str x
inductive HO where
 /-- a list -/
 |lst (xs:Ac V)
 /-- a tuple (never changes) -/
 |tup (xs:Ac V)
 /-- a dict whose keys are ints and texts;one whose keys are tuples of ints and texts (the empty one is both) -/
 |dK (kvs:Ac (Key×V))|dT (kvs:Ac (Ac Key×V))
 /-- a set of ints: its members,its size -/
 |set (S:Af->Ak) (n:Ag)
 /-- an instance of the class at C,its dict at dx,its attributes -/
 |ins (C dx:Am) (fs:Ac (Ai×V))
 /-- the dict of the instance at x -/
 |own (x:Am)
 /-- the dict of an exception -/
 |xd (fs:Ac (Ai×V))
 /-- a bound method,f of x -/
 |met (f x:Am)
 /-- a range object lo,lo+1,.. below hi -/
 |rng (lo hi:Af)
 /-- a thing that is known to the object (the script;a dict while a loop walks it): read,never written while it is so -/
 |frz (o:C3) (u:HO)
 /-- a code object's table -/
 |tbl (ps:Be Al)
 /-- any other thing,by what is Ab of its one object (a def of one's own: SetO a S n:=HO.ext fun h=>..) -/
 |ext (φ:AF->Prop)
abbrev Hp:=Am->Ap HO
variable{H:Hp}
noncomputable def upd(H:Hp)(a:Am)(o:HO):Hp:=fun b=>if b=a then Aa o else H b
theorem ED{o:HO}:upd H a o a=Aa o:=by unfold upd;rw[AA rfl]
theorem Bu{o:HO}(h:b≠a):upd H a o b=H b:=by unfold upd;rw[AH h]
theorem Vm{o u:HO}:upd (upd H a o) a u=upd H a u:=by
 funext b;unfold upd;split<;>rfl
theorem FO{o:HO}(h:H a=Aa o)(h':H b=Ae):a≠b:=by
 intro e;subst e;rw[h]at h';cases h'
section
variable(P:AO)(w:A4)
def ObjOk(H:Hp)(h:AF)(a:Am):HO->Prop
  |.lst xs=>xs.length<=sizeLine/\∃(its:Ac Al)(n:Ag),A7 xs its/\h.get? a=Aa { cls:=.type "list", data:=.seq its.toArray n }
  |.tup xs=>xs.length<=sizeLine/\∃ its:Ac Al,A7 xs its/\Ky h a its.toArray
  |.dK kvs=>kvs.length<=sizeLine/\(a==KJ)=Ad/\∃ vs,KV kvs vs/\h.DictOf (Qn P w) a vs
  |.dT kvs=>kvs.length<=sizeLine/\(a==KJ)=Ad/\∃ xs:Ac (Ac Key×Am×Al),
      Hy (fun(p:Ac Key×V)(q:Ac Key×Am×Al)=>p.1=q.1/\H q.2.1=Aa (.tup (p.1.map kV))/\BB p.2 q.2.2) kvs xs /\
      ∃ o es ep,h.get? a=Aa o/\o.ExactDict/\o.data=.dict es ep/\es.toList=xs.map (entryOfKey (tupleKind (Qn P w)))/\(xs.map (·.1)).Nodup
  |.set S n=>h.SetOf (KP P w) a S n
  |.ins C dx fs=>H dx=Aa (.own a)/\fs.length<=1000/\dx≠a/\h.get? a=Aa (PySem.W.instObj C dx) /\
      ∃ mA,h.Ns1 dx mA/\(∀ f,M8 (fs.lookup f) (mA f))/\PySem.Within mA (fs.map (·.1))
  |.own _=>∃ o,h.get? a=Aa o
  |.xd fs=>∃ mA,h.Ns1 a mA/\∀ f,M8 (fs.lookup f) (mA f)
  |.rng lo hi=>∃ t u v,h.get? a=Aa { cls:=.type "range", data:=.fields #[.int lo t,.int hi u,.int 1 v] }
  |.frz o u=>h.get? a=Aa o/\ObjOk H h a u
  |.tbl ps=>h.get? a=Aa {cls:=.none,data:=.fields ps}
  |.met f x=>h.get? a=Aa (Hk (.ref f) (.ref x))
  |.ext φ=>φ h/\(∃ o,h.get? a=Aa o)/\∀ h1 h2:AF,φ h1->(∀ o,h1.get? a=Aa o->h2.get? a=Aa o)->φ h2
def HOk(H:Hp)(h:AF):Prop:=∀ a o,H a=Aa o->ObjOk P w H h a o
end
section
variable{P:AO}{w:A4}{H H':Hp}{h h':AF}{a:Am}{o:HO}
theorem ObjOk.lt(x:ObjOk P w H h a o):a<h.objs.size:=by
 cases o with
 |lst xs=>obtain⟨_,_,_,_,e⟩:=x;exact AE e
 |tup xs=>obtain⟨_,_,_,p⟩:=x;exact p.lt
 |dK kvs=>obtain⟨_,_,_,_,o,_,_,e,_⟩:=x;exact AE e
 |dT kvs=>obtain⟨_,_,_,_,o,_,_,e,_⟩:=x;exact AE e
 |set S n=>obtain⟨o,_,_,_,e,_⟩:=x;exact AE e
 |ins C dx fs=>obtain⟨_,_,_,e,_⟩:=x;exact AE e
 |own y=>obtain⟨_,e⟩:=x;exact AE e
 |xd fs=>obtain⟨_,⟨_,_,_,e,_⟩,_⟩:=x;exact AE e
 |rng lo hi=>obtain⟨_,_,_,e⟩:=x;exact AE e
 |frz ob u=>obtain⟨e,_⟩:=x;exact AE e
 |tbl ps=>exact AE (show h.get? a=Aa _ from x)
 |met f y=>exact AE (show h.get? a=Aa _ from x)
 |ext φ=>obtain⟨_,⟨_,e⟩,_⟩:=x;exact AE e
theorem Hy.mapP{α β:Type}{F G:α->β->Prop}:∀{l₁:Ac α}{l₂:Ac β},Hy F l₁ l₂->(∀ a b,F a b->G a b)->Hy G l₁ l₂
 |_,_,.nil,_=>.nil
 |_,_,.cons r t,f=>.cons (f _ _ r) (Hy.mapP t f)
theorem ObjOk.stay(x:ObjOk P w H h a o)(k:∀ b u,(b=a\/H b=Aa (.own a))->h.get? b=Aa u->h'.get? b=Aa u)(ho:∀ b,H b=Aa (.own a)->H' b=Aa (.own a))(ht:∀ b xs,H b=Aa (.tup xs)->H' b=Aa (.tup xs)):ObjOk P w H' h' a o:=by
 induction o with
 |lst xs=>obtain⟨z,its,n,r,e⟩:=x;exact⟨z,its,n,r,k _ _ (.inl rfl) e⟩
 |tup xs=>obtain⟨z,its,r,ob,e,c⟩:=x;exact⟨z,its,r,ob,k _ _ (.inl rfl) e,c⟩
 |dK kvs=>obtain⟨z,y,vs,r,ob,es,ep,e,c⟩:=x;exact⟨z,y,vs,r,ob,es,ep,k _ _ (.inl rfl) e,c⟩
 |dT kvs=>
  obtain⟨z,y,xs,r,ob,es,ep,e,c⟩:=x;exact⟨z,y,xs,Hy.mapP r fun p q z=>⟨z.1,ht _ _ z.2.1,z.2.2⟩,ob,es,ep,k _ _ (.inl rfl) e,c⟩
 |set S n=>obtain⟨ob,es,ep,t,e,c⟩:=x;exact⟨ob,es,ep,t,k _ _ (.inl rfl) e,c⟩
 |ins C dx fs=>
  obtain⟨d,z,ne,e,mA,⟨od,es,ep,e2,c⟩,r⟩:=x;exact⟨ho _ d,z,ne,k _ _ (.inl rfl) e,mA,⟨od,es,ep,k _ _ (.inr d) e2,c⟩,r⟩
 |own y=>obtain⟨ob,e⟩:=x;exact⟨ob,k _ _ (.inl rfl) e⟩
 |xd fs=>obtain⟨mA,⟨od,es,ep,e,c⟩,r⟩:=x;exact⟨mA,⟨od,es,ep,k _ _ (.inl rfl) e,c⟩,r⟩
 |rng lo hi=>obtain⟨t,u,v,e⟩:=x;exact⟨t,u,v,k _ _ (.inl rfl) e⟩
 |frz ob u ih=>obtain⟨e,q⟩:=x;exact⟨k _ _ (.inl rfl) e,ih q⟩
 |tbl ps=>
  have e:h.get? a=Aa {cls:=.none,data:=.fields ps}:=x;show h'.get? a=Aa {cls:=.none,data:=.fields ps};exact k a _ (.inl rfl) e
 |met f y=>
  have e:h.get? a=Aa (Hk (.ref f) (.ref y)):=x;show h'.get? a=Aa (Hk (.ref f) (.ref y));exact k a _ (.inl rfl) e
 |ext φ=>obtain⟨p,⟨o,e⟩,st⟩:=x;exact⟨st _ _ p fun o q=>k _ _ (.inl rfl) q,⟨o,k _ _ (.inl rfl) e⟩,st⟩
theorem HOk.lt(x:HOk P w H h)(e:H a=Aa o):a<h.objs.size:=(x a o e).lt
theorem HOk.fresh(x:HOk P w H h)(e:h.objs.size<=a):H a=Ae:=by
 cases q:H a with
 |none=>rfl
 |some u=>exact absurd (AJ (x.lt q) e) (Bw _)
theorem HOk.kept(x:HOk P w H h)(k:∀ b u,h.get? b=Aa u->h'.get? b=Aa u):HOk P w H h':=fun a o e=>
 (x a o e).stay (fun b u _ q=>k b u q) (fun _ q=>q) fun _ _ q=>q
theorem HOk.laid(x:HOk P w H h)(k:∀ b u,h.get? b=Aa u->h'.get? b=Aa u)(hp:h.objs.size<=a)(new:ObjOk P w (upd H a o) h' a o):HOk P w (upd H a o) h':=fun b u e=>by
 have hn:=x.fresh hp;by_cases hb:b=a
 ·subst hb;rw[ED]at e;cases e;exact new
 ·rw[Bu hb]at e;exact(x b u e).stay (fun c v _ q=>k c v q) (fun c q=>by rw[Bu (FO q hn)];exact q) fun c xs q=>by rw[Bu (FO q hn)];exact q
end
def Rd(H:Hp)(a:Am)(u:HO):Prop:=H a=Aa u\/∃ o,H a=Aa (.frz o u)
theorem Rd.ok{w:A4}{u:HO}(r:Rd H a u)(x:HOk P w H h):ObjOk P w H h a u:=by
 rcases r with r|⟨o,r⟩
 ·exact x a u r
 ·obtain⟨_,q⟩:=x a _ r;exact q
def Mut:Ap HO->Prop
 |some (.lst _)=>HA
 |some (.dK _)=>HA
 |some (.dT _)=>HA
 |some (.set _ _)=>HA
 |some (.ins _ _ _)=>HA
 |some (.ext _)=>HA
 |_=>AX
section
variable{P:AO}{w:A4}{H:Hp}{h h':AF}{x e:Am}{o':HO}
theorem HOk.write(ok:HOk P w H h)(mu:Mut (H x))(he:e=x\/H e=Aa (.own x))(k:∀ b u,b≠e->h.get? b=Aa u->h'.get? b=Aa u)(heo:∃ u,h'.get? e=Aa u)(new:ObjOk P w (upd H x o') h' x o'):HOk P w (upd H x o') h':=fun b u q=>by
 have nown:∀ c y,H c=Aa (.own y)->c≠x:=fun c y r z=>by subst z;rw[r]at mu;exact mu
 have ntup:∀ c xs,H c=Aa (.tup xs)->c≠x:=fun c xs r z=>by subst z;rw[r]at mu;exact mu
 by_cases hb:b=x
 ·subst hb;rw[ED]at q;cases q;exact new
 ·rw[Bu hb]at q;by_cases hbe:b=e
  ·have q':H b=Aa (.own x):=by
    rcases he with z|z
    ·exact absurd (hbe.trans z) hb
    ·rw[hbe];exact z
   rw[q]at q';cases q';obtain⟨v,hv⟩:=heo;exact⟨v,by rw[hbe];exact hv⟩
  ·refine(ok b u q).stay (fun c v hc r=>k c v ?_ r) (fun c r=>by rw[Bu (nown c b r)];exact r) fun c xs r=>by rw[Bu (ntup c xs r)];exact r
   rcases hc with rfl|hc
   ·exact hbe
   ·rintro rfl;rcases he with z|z
    ·exact nown c b hc z
    ·rw[hc]at z;cases z;exact hb rfl
end
structure Un (fs ex:Ac Am) (H H':Hp) (h h':AF):Prop where
 keep:∀ b o,h.get? b=Aa o->H b=Ae->b∉fs->b∉ex->h'.get? b=Aa o
 slot:∀ b o,h.get? b=Aa o->H b=Ae->b∈fs->b∉ex->∃ sl,h'.get? b=Aa {o with slots:=sl}
 free:∀ b o,h.get? b=Aa o->H b=Ae->b∉ex->H' b=Ae
 there:∀ b o,h.get? b=Aa o->b∉ex->∃ o',h'.get? b=Aa o'
 tups:∀ b xs,H b=Aa (.tup xs)->H' b=Aa (.tup xs)
 frzs:∀ b o u,H b=Aa (.frz o u)->H' b=Aa (.frz o u)
 tbls:∀ b ps,H b=Aa (.tbl ps)->∃ more,H' b=Aa (.tbl (ps++more))
section
variable{fs fs' ex ex':Ac Am}{H H1 H2:Hp}{h h1 h2 h':AF}{a x e:Am}{o:HO}
theorem Un.any(u:Un fs ex H H1 h h1){ob:C3}(q:h.get? b=Aa ob)(n:H b=Ae)(hx:b∉ex):∃ sl,h1.get? b=Aa {ob with slots:=sl}:=by
 by_cases hb:b∈fs
 ·exact u.slot b ob q n hb hx
 ·exact⟨ob.slots,u.keep b ob q n hb hx⟩
theorem Un.kept(k:∀ b u,h.get? b=Aa u->h'.get? b=Aa u):Un fs ex H H h h':=
 ⟨fun b ob q _ _ _=>k b ob q,fun b ob q _ _ _=>⟨ob.slots,k b ob q⟩,fun _ _ _ n _=>n,fun b ob q _=>⟨ob,k b ob q⟩,fun _ _ q=>q,fun _ _ _ q=>q,fun _ ps q=>⟨#[],by rw[q];simp⟩⟩
theorem Un.refl:Un fs ex H H h h:=Un.kept fun _ _ q=>q
theorem Un.laid(k:∀ b u,h.get? b=Aa u->h'.get? b=Aa u)(hp:h.objs.size<=a)(hn:H a=Ae):Un fs ex H (upd H a o) h h' where
 keep:=fun b u q _ _ _=>k b u q
 slot:=fun b u q _ _ _=>⟨u.slots,k b u q⟩
 free:=fun b u q n _=>by rw[Bu (Bc (AJ (AE q) hp))];exact n
 there:=fun b u q _=>⟨u,k b u q⟩
 tups:=fun b xs q=>by rw[Bu (FO q hn)];exact q
 frzs:=fun b u xs q=>by rw[Bu (FO q hn)];exact q
 tbls:=fun b ps q=>⟨#[],by rw[Bu (FO q hn),q];simp⟩
theorem Un.write(mu:Mut (H x))(he:e=x\/H e=Aa (.own x))(k:∀ b u,b≠e->h.get? b=Aa u->h'.get? b=Aa u)(heo:∃ u,h'.get? e=Aa u):Un fs ex H (upd H x o) h h':=by
 have hx:∀ b,H b=Ae->b≠x:=fun b n z=>by subst z;rw[n]at mu;exact mu
 have hb:∀ b,H b=Ae->b≠e:=fun b n z=>by
  subst z;rcases he with r|r
  ·exact hx b n r
  ·rw[n]at r;cases r
 have hm:∀ b u,H b=Aa u->¬ Mut (Aa u)->b≠x:=fun b u q nm z=>by subst z;rw[q]at mu;exact nm mu
 refine⟨fun b u q n _ _=>k b u (hb b n) q,fun b u q n _ _=>⟨u.slots,k b u (hb b n) q⟩,fun b u q n _=>by rw[Bu (hx b n)];exact n,fun b u q _=>?_,
  fun b xs q=>by rw[Bu (hm b _ q fun z=>z)];exact q,fun b u xs q=>by rw[Bu (hm b _ q fun z=>z)];exact q,fun b ps q=>⟨#[],by rw[Bu (hm b _ q fun z=>z),q];simp⟩⟩
 by_cases hbe:b=e
 ·subst hbe;exact heo
 ·exact⟨u,k b u hbe q⟩
end
noncomputable def trk(h:AF)(H:Hp):Ac Am:=(Bb h.objs.size).filter fun a=>(H a).isSome
noncomputable def IZ(h:AF)(H:Hp):AF:=PySem.W.hideAll h (trk h H)
theorem fH(h:AF)(H:Hp):(IZ h H).objs.size=h.objs.size:=PySem.W.hideAll_size _ _
theorem jF(e:h.get? b=Aa o)(n:H b=Ae):(IZ h H).get? b=Aa o:=
 PySem.W.hideAll_get _ e fun hm=>by
  have q:(H b).isSome=Ab:=(BQ.mp hm).2;rw[n]at q;simp at q
theorem nC(e:(IZ h H).get? b=Aa o):h.get? b=Aa o/\H b=Ae:=by
 have e':h.get? b=Aa o:=PySem.W.of_hideAll (trk h H) e;refine⟨e',?_⟩;cases q:H b with
 |none=>rfl
 |some x=>
  have hm:b∈trk h H:=BQ.mpr ⟨Bq.mpr (AE e'),by simp[q]⟩
  have z:(IZ h H).get? b=Ae:=PySem.W.hideAll_none (trk h H) hm;rw[z]at e;cases e
noncomputable def rP(g h:AF)(L:Am):Pn:=(Bb h.objs.size).filterMap fun a=>if a=L\/(g.get? a).isSome=Ab then Ae else (h.get? a).map fun o=>(a,o)
noncomputable def rest(g h:AF)(L d:Am):Pn:=(rP g h L).filter fun p=>decide (p.1≠d)
structure Mod (K:Fg) (mg:Ai->Ap Al) (base:AF):Prop where
 kin:K.In base
 glob:base.Ns A1 mg
 blt:∃ mb,base.Ns IC mb/\∀ x:Ai,x≠"__name__"->mb x=C4 x
 nolimit:base.NoLimit
structure Cx where
 prog:AO
 w:A4
 K:Fg
 mg:Ai->Ap Al
 base:AF
 A:A2
 N:Ac Ai
 s₀:Ar
 H₀:Hp
 env:B9
 outer:Ac B9
 stack:Ac B9
 ex:Ac Am
 fn:Ai->Ak
 calm:Ak
 pn:Pn
 xe:Al->Ar->Prop
variable{X:Cx}
noncomputable def frs(l:Ac B9):Ac Am:=l.filterMap (·.frame)
noncomputable abbrev Cx.fs(X:Cx):Ac Am:=frs X.outer
def Vis(sc:B5)(x:Ai):Prop:=sc.names.lookup x=Aa .local\/sc.names.lookup x=Aa .cell\/sc.names.lookup x=Aa .free
def Loc(sc:B5)(x:Ai):Prop:=sc.names.lookup x=Aa .local\/sc.names.lookup x=Aa .cell
noncomputable def bA(env:B9)(h:AF)(m:Ai->Ap Al)(x:Ai)(u:Al):Prop:=
 (env.kindOf x=Aa .local/\m x=Aa u)\/((env.kindOf x=Aa .cell\/env.kindOf x=Aa .free)/\∃ c,env.cells.lookup x=Aa c/\h.IsCell c (Aa u))
structure Cx.Ok (X:Cx):Prop where
 mod:Mod X.K X.mg X.base
 kind:X.env.scope.kind=.function
 glob:X.env.globals=A1
 blt:X.env.builtins=IC
 above:X.s₀.heap.objs.size<=X.env.locals
 inj:∀ x y c,X.env.cells.lookup x=Aa c->X.env.cells.lookup y=Aa c->x=y
 has:∀ x,(X.env.kindOf x=Aa .cell\/X.env.kindOf x=Aa .free)->∃ c,X.env.cells.lookup x=Aa c
 cab:∀ x c,X.fn x=Ab->X.env.cells.lookup x=Aa c->X.s₀.heap.objs.size<=c
 hd:X.calm=Ab->X.A.handled=Ae
 frames:X.A.frames=Aa X.stack
 stk:X.stack=X.outer\/(X.stack=X.env::X.outer/\X.env.frame=Aa X.env.locals)
 exf:∀ b∈X.ex,b≠X.env.locals/\∀ x c,X.env.cells.lookup x=Aa c->c≠b
 bs:∀ b o,X.base.get? b=Aa o->X.s₀.heap.get? b=Aa o/\X.H₀ b=Ae
 bsz:X.base.objs.size<=X.s₀.heap.objs.size
 noex:∀ b o,X.base.get? b=Aa o->b∉X.ex
 exfs:∀ b∈X.ex,b∉X.fs
 funs:X.s₀.heap.FunFrames X.base X.outer
 frf:∀ b∈X.fs,X.H₀ b=Ae
structure Inv (X:Cx) (pI:Pn) (σ:Ac (Ap V)) (H:Hp) (s:Ar):Prop where
 ok:X.Ok
 os:s.os=X.s₀.os
 bare:FD s.gens
 base:Un X.fs X.ex X.H₀ H X.s₀.heap s.heap
 loc:∃ m,s.heap.Ns X.env.locals m/\∀(i:Ag)(x:Ai)(v:V),X.N[i]?=Aa x->σ[i]?=Aa (Aa v)->Vis X.env.scope x->∃ u,BB v u/\bA X.env s.heap m x u
 cell:∀ x c,X.env.cells.lookup x=Aa c->∃ v,s.heap.IsCell c v
 free:H X.env.locals=Ae
 freeC:∀ x c,X.env.cells.lookup x=Aa c->H c=Ae
 pin:∀ p∈X.pn++pI,s.heap.get? p.1=Aa p.2/\H p.1=Ae/\p.1≠X.env.locals/\p.1∉X.fs/\∀ v,p.2.data≠.cell v
 hok:HOk X.prog X.w H s.heap
 len:σ.length=X.N.length
section
variable{X:Cx}{pI:Pn}{σ:Ac (Ap V)}{H H':Hp}{s:Ar}{h':AF}
theorem Cx.Ok.nofr(ok:X.Ok)(e:X.base.get? b=Aa o):b∉X.fs:=fun hb=>by
 have:=(ok.funs.mem hb).1;rw[e]at this;cases this
theorem Inv.bs(I:Inv X pI σ H s):∀ b o,X.base.get? b=Aa o->s.heap.get? b=Aa o/\H b=Ae:=fun b o e=>
 ⟨I.base.keep b o (I.ok.bs b o e).1 (I.ok.bs b o e).2 (I.ok.nofr e) (I.ok.noex b o e),I.base.free b o (I.ok.bs b o e).1 (I.ok.bs b o e).2 (I.ok.noex b o e)⟩
theorem Inv.bk(I:Inv X pI σ H s):∀ b o,X.base.get? b=Aa o->s.heap.get? b=Aa o:=fun b o e=>(I.bs b o e).1
theorem Inv.mod(I:Inv X pI σ H s):Mod X.K X.mg X.base:=I.ok.mod
theorem Inv.kIn(I:Inv X pI σ H s):X.K.In s.heap:=I.ok.mod.kin.keeps I.bk
theorem Inv.lt(I:Inv X pI σ H s):X.env.locals<s.heap.objs.size:=let ⟨_,hn,_⟩:=I.loc;hn.lt
theorem Inv.sz(I:Inv X pI σ H s):X.s₀.heap.objs.size<=s.heap.objs.size:=Ct I.ok.above (Gj I.lt)
theorem Inv.nofs(I:Inv X pI σ H s)(h:s.heap.objs.size<=a):a∉X.fs:=fun hb=>by
 obtain⟨_,o,ho,_⟩:=I.ok.funs.mem hb;exact absurd (AJ (AE ho) (Ct I.sz h)) (Bw _)
theorem Inv.cne(I:Inv X pI σ H s):∀ x c,X.env.cells.lookup x=Aa c->c≠X.env.locals:=fun x c e z=>by
 obtain⟨v,o,ho,hd⟩:=I.cell x c e;obtain⟨m,⟨o',es,ep,ho',hd',_⟩,_⟩:=I.loc;rw[z,ho']at ho;cases ho;rw[hd']at hd;cases hd
theorem Inv.funs(I:Inv X pI σ H s):s.heap.FunFrames X.base X.outer:=by
 have all:∀(l:Ac B9),(∀ b∈frs l,b∈X.fs)->X.s₀.heap.FunFrames X.base l->s.heap.FunFrames X.base l:=by
  intro l
  induction l with
  |nil=>intro _ _;trivial
  |cons env r ih=>
   intro hs hl;obtain⟨hk,⟨L,o,hf,hn,ho,hd⟩,hr⟩:=hl;have hL:L∈X.fs:=hs L (by unfold frs;rw[GA,hf];exact AB)
   obtain⟨sl,e⟩:=I.base.slot L o ho (I.ok.frf L hL) hL fun z=>I.ok.exfs L z hL
   exact⟨hk,⟨L,_,hf,hn,e,hd⟩,ih (fun b hb=>hs b (by unfold frs;rw[GA,hf];exact Ay _ hb)) hr⟩
 exact all X.outer (fun _ hb=>hb) I.ok.funs
theorem Inv.stack(I:Inv X pI σ H s):s.heap.FunFrames X.base X.stack:=by
 rcases I.ok.stk with e|⟨e,hf⟩
 ·rw[e];exact I.funs
 ·rw[e];obtain⟨m,hn,_⟩:=I.loc;refine .cons (by rw[I.ok.kind];decide) hf hn ?_ I.funs
  exact Dp (Ct I.ok.bsz I.ok.above)
theorem Inv.stkSub(I:Inv X pI σ H s):∀ b∈frs X.stack,b∈X.env.locals::X.fs:=fun b hb=>by
 rcases I.ok.stk with e|⟨e,hf⟩
 ·rw[e]at hb;exact Ay _ hb
 ·rw[e]at hb;unfold frs at hb;rw[GA,hf]at hb;exact hb
theorem Inv.stkFree(I:Inv X pI σ H s):∀ b∈frs X.stack,H b=Ae:=fun b hb=>by
 rcases Aw.mp (I.stkSub b hb) with e|hb
 ·rw[e];exact I.free
 ·obtain⟨_,o,ho,_⟩:=I.ok.funs.mem hb;exact I.base.free b o ho (I.ok.frf b hb) fun z=>I.ok.exfs b z hb
theorem Inv.step(I:Inv X pI σ H s)(hch:∀ b∈ch,(b∈X.ex\/X.s₀.heap.objs.size<=b)/\b≠X.env.locals/\(∀ x c,X.env.cells.lookup x=Aa c->c≠b)/\∀ p∈X.pn++pI,p.1≠b)(keep:∀ b o,b≠X.env.locals->b∉X.fs->b∉ch->s.heap.get? b=Aa o->H b=Ae->h'.get? b=Aa o)(slot:∀ b o,b≠X.env.locals->b∈X.fs->b∉ch->s.heap.get? b=Aa o->H b=Ae->∃ sl,h'.get? b=Aa {o with slots:=sl})(free:∀ b o,b∉ch->s.heap.get? b=Aa o->H b=Ae->H' b=Ae)(there:∀ b o,b∉ch->s.heap.get? b=Aa o->∃ o',h'.get? b=Aa o')(tups:∀ b xs,H b=Aa (.tup xs)->H' b=Aa (.tup xs))(frzs:∀ b o u,H b=Aa (.frz o u)->H' b=Aa (.frz o u))(tbls:∀ b ps,H b=Aa (.tbl ps)->∃ more,H' b=Aa (.tbl (ps++more)))(ns:∀ m,s.heap.Ns X.env.locals m->h'.Ns X.env.locals m)(hok:HOk X.prog X.w H' h')(hg:FD g'):Inv X pI σ H' {s with heap:=h',gens:=g',drawn:=d',toks:=t'}:=by
 have neL:∀ b o,X.s₀.heap.get? b=Aa o->b≠X.env.locals:=fun b o e=>Bc (AJ (AE e) I.ok.above)
 have neC:∀ b o,X.s₀.heap.get? b=Aa o->b∉X.ex->b∉ch:=fun b o e hx hb=>by
  rcases (hch b hb).1 with z|z
  ·exact hx z
  ·exact absurd (AJ (AE e) z) (Bw _)
 have cellK:∀ x c,X.env.cells.lookup x=Aa c->∀ v,s.heap.IsCell c v->h'.IsCell c v:=fun x c e v ⟨o,ho,hd⟩=>by
  have nch:c∉ch:=fun z=>(hch c z).2.2.1 x c e rfl
  by_cases hc:c∈X.fs
  ·obtain⟨sl,q⟩:=slot c o (I.cne x c e) hc nch ho (I.freeC x c e);exact⟨_,q,hd⟩
  ·exact⟨o,keep c o (I.cne x c e) hc nch ho (I.freeC x c e),hd⟩
 refine⟨I.ok,I.os,hg,⟨fun b o e n hb hx=>?_,fun b o e n hb hx=>?_,fun b o e n hx=>?_,fun b o e hx=>?_,fun b xs e=>tups b xs (I.base.tups b xs e),fun b o xs e=>frzs b o xs (I.base.frzs b o xs e),fun b ps e=>?_⟩,?_,fun x c e=>?_,?_,fun x c e=>?_,fun p hp=>?_,hok,I.len⟩
 ·exact keep b o (neL b o e) hb (neC b o e hx) (I.base.keep b o e n hb hx) (I.base.free b o e n hx)
 ·obtain⟨sl,e1⟩:=I.base.slot b o e n hb hx;obtain⟨sl',e2⟩:=slot b _ (neL b o e) hb (neC b o e hx) e1 (I.base.free b o e n hx);exact⟨sl',e2⟩
 ·obtain⟨o',e1⟩:=I.base.there b o e hx;exact free b o' (neC b o e hx) e1 (I.base.free b o e n hx)
 ·obtain⟨o',e1⟩:=I.base.there b o e hx;exact there b o' (neC b o e hx) e1
 ·obtain⟨m1,e1⟩:=I.base.tbls b ps e;obtain⟨m2,e2⟩:=tbls b _ e1;exact⟨m1++m2,by rw[e2,Array.append_assoc]⟩
 ·obtain⟨m,hn,hl⟩:=I.loc;refine⟨m,ns m hn,fun i x v e1 e2 e3=>?_⟩
  obtain⟨u,r,l⟩:=hl i x v e1 e2 e3;refine⟨u,r,?_⟩;rcases l with l|⟨k,c,e,z⟩
  ·exact .inl l
  ·exact .inr ⟨k,c,e,cellK x c e _ z⟩
 ·obtain⟨v,z⟩:=I.cell x c e;exact⟨v,cellK x c e v z⟩
 ·obtain⟨m,⟨o,_,_,ho,_⟩,_⟩:=I.loc;exact free _ o (fun z=>(hch _ z).2.1 rfl) ho I.free
 ·obtain⟨v,o,ho,hd⟩:=I.cell x c e;exact free c o (fun z=>(hch c z).2.2.1 x c e rfl) ho (I.freeC x c e)
 ·obtain⟨e,n,ne,nf,d⟩:=I.pin p hp;have nch:p.1∉ch:=fun z=>(hch p.1 z).2.2.2 p hp rfl
  exact⟨keep p.1 p.2 ne nf nch e n,free p.1 p.2 nch e n,ne,nf,d⟩
theorem Inv.un(I:Inv X pI σ H s)(u:Un X.fs [] H H' s.heap h')(hok:HOk X.prog X.w H' h'):Inv X pI σ H' {s with heap:=h',toks:=t'}:=by
 obtain⟨m,⟨o,es,ep,ho,r⟩,_⟩:=id I.loc;obtain⟨sl,hL⟩:=u.any ho I.free (by simp)
 exact I.step (g':=s.gens) (d':=s.drawn) (ch:=[]) (fun _ z=>nomatch z) (fun b o _ hb _ e n=>u.keep b o e n hb (by simp)) (fun b o _ hb _ e n=>u.slot b o e n hb (by simp)) (fun b o _ e n=>u.free b o e n (by simp)) (fun b o _ e=>u.there b o e (by simp)) u.tups u.frzs u.tbls (fun m' hm=>by
  obtain⟨o',es',ep',ho',r'⟩:=hm;rw[ho]at ho';cases ho';exact⟨_,es',ep',hL,r'⟩) hok I.bare
theorem Inv.call(I:Inv X pI σ H s)(u:Un (frs X.stack) ch H H' s.heap h')(hok:HOk X.prog X.w H' h')(hg:FD g')(hch:∀ b∈ch,(b∈X.ex\/X.s₀.heap.objs.size<=b)/\b≠X.env.locals/\(∀ x c,X.env.cells.lookup x=Aa c->c≠b)/\∀ p∈X.pn++pI,p.1≠b):Inv X pI σ H' {s with heap:=h',gens:=g',drawn:=d',toks:=t'}:=by
 obtain⟨m,⟨o,es,ep,ho,r⟩,_⟩:=id I.loc;obtain⟨sl,hL⟩:=u.any ho I.free fun z=>(hch _ z).2.1 rfl
 exact I.step (ch:=ch) hch (fun b o hL hb hc e n=>u.keep b o e n (fun z=>(Aw.mp (I.stkSub b z)).elim hL hb) hc) (fun b o _ _ hc e n=>u.any e n hc) (fun b o hc e n=>u.free b o e n hc) (fun b o hc e=>u.there b o e hc) u.tups u.frzs u.tbls (fun m' hm=>by
  obtain⟨o',es',ep',ho',r'⟩:=hm;rw[ho]at ho';cases ho';exact⟨_,es',ep',hL,r'⟩) hok hg
theorem Inv.turned(I:Inv X pI σ H s)(k:∀ b o,b≠it->s.heap.get? b=Aa o->h'.get? b=Aa o)(hn:H it=Ae)(hL:it≠X.env.locals)(h1:it∈X.ex\/X.s₀.heap.objs.size<=it)(h2:∀ x c,X.env.cells.lookup x=Aa c->c≠it)(h3:∀ p∈X.pn++pI,p.1≠it):Inv X pI σ H {s with heap:=h',toks:=t'}:=by
 have nit:∀ b u,H b=Aa u->b≠it:=fun b u e z=>by rw[z,hn]at e;cases e
 refine I.step (g':=s.gens) (d':=s.drawn) (ch:=[it]) (fun b hb=>?_) (fun b o _ _ hc e _=>k b o (fun z=>hc (by simp[z])) e) (fun b o _ _ hc e _=>⟨o.slots,k b o (fun z=>hc (by simp[z])) e⟩) (fun _ _ _ _ n=>n)
  (fun b o hc e=>⟨o,k b o (fun z=>hc (by simp[z])) e⟩) (fun _ _ e=>e) (fun _ _ _ e=>e) (fun b ps e=>⟨#[],by rw[e];simp⟩) (fun m hm=>?_) (fun b u e=>?_) I.bare
 ·have e:b=it:=by simpa using hb
  subst e;exact⟨h1,hL,h2,h3⟩
 ·obtain⟨o,es,ep,ho,r⟩:=hm;exact⟨o,es,ep,k _ o (CP hL) ho,r⟩
 ·refine(I.hok b u e).stay (fun c v hc q=>k c v ?_ q) (fun _ q=>q) fun _ _ q=>q
  rcases hc with z|z
  ·rw[z];exact nit b u e
  ·exact nit c _ z
theorem Inv.tok(I:Inv X pI σ H s)(t:Ag):Inv X pI σ H {s with toks:=t}:=I.un (h':=s.heap) (t':=t) Un.refl I.hok
theorem Inv.kept{t':Ag}(I:Inv X pI σ H s)(k:∀ b u,s.heap.get? b=Aa u->h'.get? b=Aa u):Inv X pI σ H {s with heap:=h',toks:=t'}:=I.un (Un.kept k) (I.hok.kept k)
theorem Inv.laid{a:Am}{o:HO}{t':Ag}(I:Inv X pI σ H s)(k:∀ b u,s.heap.get? b=Aa u->h'.get? b=Aa u)(hp:s.heap.objs.size<=a)(new:ObjOk X.prog X.w (upd H a o) h' a o):Inv X pI σ (upd H a o) {s with heap:=h',toks:=t'}:=I.un (Un.laid k hp (I.hok.fresh hp)) (I.hok.laid k hp new)
theorem Inv.write{x e:Am}{o:HO}{t':Ag}(I:Inv X pI σ H s)(mu:Mut (H x))(he:e=x\/H e=Aa (.own x))(k:∀ b u,b≠e->s.heap.get? b=Aa u->h'.get? b=Aa u)(heo:∃ u,h'.get? e=Aa u)(new:ObjOk X.prog X.w (upd H x o) h' x o):Inv X pI σ (upd H x o) {s with heap:=h',toks:=t'}:=I.un (Un.write mu he k heo) (I.hok.write mu he k heo new)
theorem Inv.pins_of{pins':Pn}(I:Inv X pI σ H s)(h:∀ p∈pins',s.heap.get? p.1=Aa p.2/\H p.1=Ae/\p.1≠X.env.locals/\p.1∉X.fs/\∀ v,p.2.data≠.cell v):Inv X pins' σ H s:=
 ⟨I.ok,I.os,I.bare,I.base,I.loc,I.cell,I.free,I.freeC,fun p hp=>(Ff.mp hp).elim (fun z=>I.pin p (DP _ z)) (h p),I.hok,I.len⟩
theorem PU{N:Ac Ai}(hN:N.Nodup){j:Ag}(a:N[i]?=Aa x)(b:N[j]?=Aa x):i=j:=by
 obtain⟨h1,e1⟩:=AS.mp a;obtain⟨h2,e2⟩:=AS.mp b;exact(List.getElem_inj hN).mp (e1.trans e2.symm)
theorem Tt{A:A2}{E:Vq}(I:Inv X pI σ H s)(hN:X.N.Nodup)(hi:X.N[i]?=Aa x)(hx:Loc X.env.scope x)(r:BB v u)(h:∀ s',Inv X pI (σ.set i (Aa v)) H s'->(∃ a,Ew a s.heap s'.heap/\(a=X.env.locals\/X.env.cells.lookup x=Aa a))->Q () s')(hf:X.fn x=Ab\/X.env.scope.names.lookup x=Aa .local:=by first|exact .inl rfl|exact .inr rfl|assumption):Ax M A (storeName X.env x u) Q E s:=by
 obtain⟨m,hn,hl⟩:=id I.loc;have hcls:(X.env.scope.kind==.class||(X.env.scope.kind==.module&&X.env.locals != X.env.globals))=Ad:=by rw[I.ok.kind];rfl
 have hiσ:i<σ.length:=by rw[I.len];exact(AS.mp hi).1
 have cne:=I.cne;have tracked:∀{a:Am}{h':AF},(∃ o,s.heap.get? a=Aa o/\H a=Ae)->Ew a s.heap h'->HOk X.prog X.w H h':=fun {a h'} ha hs b ob e=>by
  obtain⟨_,_,hfree⟩:=ha;refine(I.hok b ob e).stay (fun c w' hc q=>(hs.2 c ?_).trans q) (fun _ q=>q) fun _ _ q=>q
  rintro rfl;rcases hc with rfl|hc
  ·rw[hfree]at e;cases e
  ·rw[hfree]at hc;cases hc
 rcases hx with hk|hk
 ·refine wpAny_storeName_local hk hn (fun h' hn' hs=>?_) hcls
  obtain⟨oL,_,_,hoL,_⟩:=id hn;refine h _ ⟨I.ok,I.os,I.bare,⟨fun b o e n hb hx=>?_,fun b o e n hb hx=>?_,I.base.free,fun b o e hx=>?_,I.base.tups,I.base.frzs,I.base.tbls⟩,⟨_,hn',fun j y v' e1 e2 e3=>?_⟩,fun y c e=>?_,I.free,I.freeC,fun p hp=>?_,tracked ⟨oL,hoL,I.free⟩ hs,by simpa using I.len⟩ ⟨_,hs,.inl rfl⟩
  ·exact(hs.2 b (Bc (AJ (AE e) I.ok.above))).trans (I.base.keep b o e n hb hx)
  ·obtain⟨sl,e1⟩:=I.base.slot b o e n hb hx;exact⟨sl,(hs.2 b (Bc (AJ (AE e) I.ok.above))).trans e1⟩
  ·obtain⟨o',e1⟩:=I.base.there b o e hx;exact⟨o',(hs.2 b (Bc (AJ (AE e) I.ok.above))).trans e1⟩
  ·by_cases hj:j=i
   ·subst hj;rw[hi]at e1;cases e1;rw[C2 hiσ]at e2;cases e2;exact⟨u,r,.inl ⟨hk,by simp⟩⟩
   ·rw[Gf (CP hj)]at e2;obtain⟨u',r',q⟩:=hl j y v' e1 e2 e3;refine⟨u',r',?_⟩;rcases q with ⟨k,e⟩|⟨k,c,e,z⟩
    ·refine .inl ⟨k,?_⟩;have:y≠x:=fun e=>hj (PU hN e1 (e ▸ hi))
     simp[this,e]
    ·exact .inr ⟨k,c,e,z.sameBut hs (cne y c e)⟩
  ·obtain⟨w',z⟩:=I.cell y c e;exact⟨w',z.sameBut hs (cne y c e)⟩
  ·obtain⟨e,n,ne,nf,d⟩:=I.pin p hp;exact⟨(hs.2 p.1 ne).trans e,n,ne,nf,d⟩
 ·have hfn:X.fn x=Ab:=by
   rcases hf with z|z
   ·exact z
   ·rw[z]at hk;cases hk
  obtain⟨c,hc⟩:=I.ok.has x (.inl hk);obtain⟨w',z⟩:=I.cell x c hc;refine wpAny_storeName_cell I.ok.kind hk hc z (fun h' hc' hs=>?_)
  obtain⟨oc,hoc,hocd⟩:=id z;refine h {s with heap:=h'} ⟨I.ok,I.os,I.bare,⟨fun b o e n hb hx=>?_,fun b o e n hb hx=>?_,I.base.free,fun b o e hx=>?_,I.base.tups,I.base.frzs,I.base.tbls⟩,⟨m,hn.sameBut hs (CP (cne x c hc)),fun j y v' e1 e2 e3=>?_⟩,fun y c' e=>?_,I.free,I.freeC,fun p hp=>?_,tracked ⟨oc,hoc,I.freeC x c hc⟩ hs,by simpa using I.len⟩ ⟨c,hs,.inr hc⟩
  ·exact(hs.2 b (Bc (AJ (AE e) (I.ok.cab x c hfn hc)))).trans (I.base.keep b o e n hb hx)
  ·obtain⟨sl,e1⟩:=I.base.slot b o e n hb hx;exact⟨sl,(hs.2 b (Bc (AJ (AE e) (I.ok.cab x c hfn hc)))).trans e1⟩
  ·obtain⟨o',e1⟩:=I.base.there b o e hx;exact⟨o',(hs.2 b (Bc (AJ (AE e) (I.ok.cab x c hfn hc)))).trans e1⟩
  ·by_cases hj:j=i
   ·subst hj;rw[hi]at e1;cases e1;rw[C2 hiσ]at e2;cases e2;exact⟨u,r,.inr ⟨.inl hk,c,hc,hc'⟩⟩
   ·rw[Gf (CP hj)]at e2;obtain⟨u',r',q⟩:=hl j y v' e1 e2 e3;refine⟨u',r',?_⟩;rcases q with q|⟨k,c',e,z'⟩
    ·exact .inl q
    ·refine .inr ⟨k,c',e,z'.sameBut hs ?_⟩;rintro rfl;exact hj (PU hN e1 (I.ok.inj _ _ _ e hc ▸ hi))
  ·by_cases hcc:c'=c
   ·subst hcc;exact⟨_,hc'⟩
   ·obtain⟨w2,z2⟩:=I.cell y c' e;exact⟨w2,z2.sameBut hs hcc⟩
  ·obtain⟨e,n,ne,nf,d⟩:=I.pin p hp;refine⟨(hs.2 p.1 ?_).trans e,n,ne,nf,d⟩;intro q;rw[q,hoc]at e;have q':oc=p.2:=Bz e;exact d w' (by rw[<-q'];exact hocd)
theorem Qc{A:A2}{E:Vq}(I:Inv X pI σ H s)(hN:X.N.Nodup)(hi:X.N[i]?=Aa x)(hx:Loc X.env.scope x)(r:BB v u)(h:∀ s',Inv X pI (σ.set i (Aa v)) H s'->Q () s')(hf:X.fn x=Ab\/X.env.scope.names.lookup x=Aa .local:=by first|exact .inl rfl|exact .inr rfl|assumption):Ax M A (storeName X.env x u) Q E s:=
 Tt I hN hi hx r (fun s' I' _=>h s' I') hf
theorem Inv.call'{s':Ar}(I:Inv X pI σ H s)(ho:s'.os=s.os)(u:Un (frs X.stack) ch H H' s.heap s'.heap)(hok:HOk X.prog X.w H' s'.heap)(hg:FD s'.gens)(hch:∀ b∈ch,(b∈X.ex\/X.s₀.heap.objs.size<=b)/\b≠X.env.locals/\(∀ x c,X.env.cells.lookup x=Aa c->c≠b)/\∀ p∈X.pn++pI,p.1≠b):Inv X pI σ H' s':=by
 obtain⟨h',g',d',t',o'⟩:=s';have e:o'=s.os:=ho;subst e;exact I.call (g':=g') (t':=t') (d':=d') u hok hg hch
end
abbrev XK:=Al->Ap Am->Hp->Prop
abbrev St:=Ac (Ap V)
variable{σ:St}
abbrev VK:=V->Hp->Prop
abbrev TE:=St->Hp->VK->Prop
variable{te:TE}
abbrev TT:=St->Hp->(Ak->Hp->Prop)->Prop
abbrev TA:=St->Hp->(Ac V->Hp->Prop)->Prop
variable{ta:TA}
structure Ends where
 nx:St->Hp->Prop
 rt:VK
 bk:St->Hp->Prop:=fun _ _=>AX
 ct:St->Hp->Prop:=fun _ _=>AX
abbrev TS:=Ends->St->Hp->Prop
def EP(X:Cx)(pI:Pn)(σ:St)(Q:VK)(u:Al)(s':Ar):Prop:=∃ v H',Inv X pI σ H' s'/\BB v u/\Q v H'
def TP(X:Cx)(pI:Pn)(σ:St)(Q:Ak->Hp->Prop)(b:Ak)(s':Ar):Prop:=∃ H',Inv X pI σ H' s'/\Q b H'
def AP(X:Cx)(pI:Pn)(σ:St)(Q:Ac V->Hp->Prop)(us:Ac Al)(s':Ar):Prop:=∃ vs H',Inv X pI σ H' s'/\A7 vs us/\Q vs H'
noncomputable def SP(X:Cx)(pI:Pn)(D:Ends)(f:Flow)(s':Ar):Prop:=
  match f with
  |.next=>∃ σ' H',Inv X pI σ' H' s'/\D.nx σ' H'
  |.brk=>∃ σ' H',Inv X pI σ' H' s'/\D.bk σ' H'
  |.cont=>∃ σ' H',Inv X pI σ' H' s'/\D.ct σ' H'
  |.ret u=>∃ v σ' H',Inv X pI σ' H' s'/\BB v u/\D.rt v H'
noncomputable def PE(X:Cx)(e:An)(t:TE):Prop:=
 ∀(pI:Pn)(s:Ar)(σ:St)(H:Hp)(Q:VK),Inv X pI σ H s->t σ H Q->Ax (model X.prog X.w) X.A (eval e X.env) (EP X pI σ Q) X.xe s
noncomputable def PT(X:Cx)(e:An)(t:TT):Prop:=
 ∀(pI:Pn)(s:Ar)(σ:St)(H:Hp)(Q:Ak->Hp->Prop),Inv X pI σ H s->t σ H Q->Ax (model X.prog X.w) X.A (Iu e X.env (eval e X.env)) (TP X pI σ Q) X.xe s
noncomputable def PW(X:Cx)(e:An)(t:TT):Prop:=
 ∀(whole:GE Al)(pI:Pn)(s:Ar)(σ:St)(H:Hp)(Q:Ak->Hp->Prop),Inv X pI σ H s->t σ H Q->Ax (model X.prog X.w) X.A (Iu e X.env whole) (TP X pI σ Q) X.xe s
theorem PW.pt{t:TT}(h:PW X e t):PT X e t:=h _
noncomputable def PA(X:Cx)(es:Ac An)(t:TA):Prop:=
 ∀(pos:AG)(pI:Pn)(s:Ar)(σ:St)(H:Hp)(Q:Ac V->Hp->Prop),Inv X pI σ H s->t σ H Q->Ax (model X.prog X.w) X.A (spliced (BN pos (Av es X.env))) (AP X pI σ Q) X.xe s
noncomputable def PS(X:Cx)(st:AQ)(t:TS):Prop:=
 ∀(pI:Pn)(s:Ar)(σ:St)(H:Hp)(D:Ends),Inv X pI σ H s->t D σ H->Ax (model X.prog X.w) X.A (exec st X.env) (SP X pI D) X.xe s
noncomputable def PSs(X:Cx)(st:Ac AQ)(t:TS):Prop:=
 ∀(pI:Pn)(s:Ar)(σ:St)(H:Hp)(D:Ends),Inv X pI σ H s->t D σ H->Ax (model X.prog X.w) X.A (execs st X.env) (SP X pI D) X.xe s
theorem thn{α:Type}{t:GE α}{Q Q':α->Ar->Prop}{A:A2}{E:Vq}(h:Ax M A t Q E s)(hQ:∀ a s,Q a s->Q' a s):Ax M A t Q' E s:=Bf h hQ fun _ _ x=>x
section
variable{X:Cx}
def En(i:Ag):TE:=fun σ H Q=>∃ v,σ[i]?=Aa (Aa v)/\Q v H
def tC(v:V):TE:=fun _ H Q=>Q v H
theorem N2(hN:X.N[i]?=Aa x)(hv:Vis X.env.scope x)(hd:(x==("__debug__" : Ai))=Ad:=by decide)(hcd:(x==("__classdict__" : Ai))=Ad:=by decide):PE X (.Name x pos) (En i):=by
 intro pI s σ H Q I h;obtain⟨v,e,h⟩:=h;obtain⟨m,hn,hl⟩:=I.loc;obtain⟨u,r,l⟩:=hl i x v hN e hv;have fin:EP X pI σ Q u s:=⟨v,H,I,r,h⟩;rcases l with ⟨hk,hm⟩|⟨hk,c,hc,hcell⟩
 ·exact KM (wpAny_loadName_local I.ok.kind hk hn hm fin) hd
 ·rcases hk with hk|hk
  ·exact KM (wpAny_loadName_cell I.ok.kind hk hc hcell fin) hd
  ·exact KM (wpAny_loadName_free I.ok.kind hk hc hcell fin hcd) hd
theorem uX{i j pos}:PE X (.Constant (.int i) j pos) (tC (.int i)):=fun _ _ _ H _ I h=>wpAny_Constant_int ⟨.int i,H,I.tok _,⟨_,rfl⟩,h⟩
theorem b7{b j pos}:PE X (.Constant (.bool b) j pos) (tC (.bl b)):=fun _ _ _ H _ I h=>Constant_bool ⟨.bl b,H,I,rfl,h⟩
theorem rY{j pos}:PE X (.Constant .none j pos) (tC .non):=fun _ _ _ H _ I h=>Constant_none ⟨.non,H,I,rfl,h⟩
theorem Wd{x j pos}:PE X (.Constant (.str x) j pos) (tC (.str x)):=fun _ _ _ H _ I h=>Calls.Constant_str ⟨.str x,H,I.tok _,⟨_,rfl⟩,h⟩
def Gl(X:Cx)(x:Ai):Prop:=X.env.kindOf x=Aa .globalImplicit
theorem Jw{E:Vq}{Q:Vq}(I:Inv X pI σ H s)(hg:Gl X x)(hm:X.mg x=Aa u)(h:Q u s)(hd:(x==("__debug__" : Ai))=Ad:=by decide):Ax (model X.prog X.w) X.A (eval (.Name x pos) X.env) Q E s:=
 YJ I.ok.kind hg (Calls.loadGlobal_global (by rw[I.ok.glob];exact I.mod.glob.keeps I.bk) hm h) hd
theorem HG{E:Vq}{Q:Vq}(I:Inv X pI σ H s)(hg:Gl X x)(hm:X.mg x=Ae)(hv:C4 x=Aa u)(h:Q u s)(hn:x≠"__name__" := by decide)(hd:(x==("__debug__" : Ai))=Ad:=by decide):Ax (model X.prog X.w) X.A (eval (.Name x pos) X.env) Q E s:=by
 obtain⟨mb,h1,h2⟩:=I.mod.blt;exact YJ I.ok.kind hg (Calls.loadGlobal_builtin (by rw[I.ok.glob];exact I.mod.glob.keeps I.bk) hm (by rw[I.ok.blt];exact h1.keeps I.bk) ((h2 x hn).trans hv) h) hd
theorem Vf(hg:Gl X x)(hm:X.mg x=Aa u)(r:BB v u)(hd:(x==("__debug__" : Ai))=Ad:=by decide):PE X (.Name x pos) (tC v):=
 fun _ _ _ H _ I h=>Jw I hg hm ⟨v,H,I,r,h⟩ hd
theorem U3(hg:Gl X x)(hm:X.mg x=Ae)(hv:C4 x=Aa u)(r:BB v u)(hn:x≠"__name__" := by decide)(hd:(x==("__debug__" : Ai))=Ad:=by decide):PE X (.Name x pos) (tC v):=
 fun _ _ _ H _ I h=>HG I hg hm hv ⟨v,H,I,r,h⟩ hn hd
variable{a b:An}{ta tb:TE}{pos:AG}
variable{tA tB':TT}{rest:Ac An}
def aU(t u:TT):TT:=fun σ H Q=>t σ H fun c H1=>if c=Ab then u σ H1 Q else Q Ad H1
def tOr(t u:TT):TT:=fun σ H Q=>t σ H fun c H1=>if c=Ab then Q Ab H1 else u σ H1 Q
def aN(t:TT):TT:=fun σ H Q=>t σ H fun c H1=>Q (!c) H1
theorem nP(ha:PT X a tA):PW X (.BoolOp .And [a] pos) tA:=by
 intro wh pI s σ H Q I h;refine isTrue_and (thn (ha pI s σ H Q I h) fun c s1 e=>?_)
 cases c with
 |true=>exact isTrue_and_nil e
 |false=>exact e
theorem sV(ha:PT X a tA):PW X (.BoolOp .Or [a] pos) tA:=by
 intro wh pI s σ H Q I h;refine isTrue_or (thn (ha pI s σ H Q I h) fun c s1 e=>?_)
 cases c with
 |false=>exact isTrue_or_nil e
 |true=>exact e
theorem sW(ha:PT X a tA)(hb:PW X (.BoolOp .And (b::rest) pos) tB'):PW X (.BoolOp .And (a::b::rest) pos) (aU tA tB'):=by
 intro wh pI s σ H Q I h;refine isTrue_and (thn (ha pI s σ H _ I h) fun c s1 ⟨H1,I1,q1⟩=>?_)
 cases c with
 |true=>exact hb wh pI s1 σ H1 Q I1 q1
 |false=>exact⟨H1,I1,q1⟩
theorem aj(ha:PT X a tA)(hb:PW X (.BoolOp .Or (b::rest) pos) tB'):PW X (.BoolOp .Or (a::b::rest) pos) (tOr tA tB'):=by
 intro wh pI s σ H Q I h;refine isTrue_or (thn (ha pI s σ H _ I h) fun c s1 ⟨H1,I1,q1⟩=>?_)
 cases c with
 |true=>exact⟨H1,I1,q1⟩
 |false=>exact hb wh pI s1 σ H1 Q I1 q1
theorem sX(ha:PT X a tA):PT X (.UnaryOp .Not a pos) (aN tA):=by
 intro pI s σ H Q I h;exact isTrue_not (ha pI s σ H (fun c H1=>Q (!c) H1) I h)
def xC(ta tb:TE):TE:=fun σ H Q=>ta σ H fun x H1=>∃ c,x=.bl c/\if c=Ab then tb σ H1 Q else Q (.bl Ad) H1
def aM(ta tb:TE):TE:=fun σ H Q=>ta σ H fun x H1=>∃ c,x=.bl c/\if c=Ab then Q (.bl Ab) H1 else tb σ H1 Q
def wW(ta:TE):TE:=fun σ H Q=>ta σ H fun x H1=>∃ c,x=.bl c/\Q (.bl (!c)) H1
theorem rW{op}{t:TE}(h:PE X a t):PE X (.BoolOp op [a] pos) t:=fun pI s σ H Q I hw=>BoolOp_one (h pI s σ H Q I hw)
theorem uY(ha:PE X a ta)(hb:PE X (.BoolOp .And (b::rest) pos) tb):PE X (.BoolOp .And (a::b::rest) pos) (xC ta tb):=by
 intro pI s σ H Q I h;refine BoolOp_and (thn (ha pI s σ H _ I h) fun v s1 ⟨x,H1,I1,r1,q1⟩=>?_)
 obtain⟨c,rfl,q1⟩:=q1;cases r1;refine CA ?_;cases c with
 |true=>exact hb pI s1 σ H1 Q I1 q1
 |false=>exact⟨.bl Ad,H1,I1,rfl,q1⟩
theorem ar(ha:PE X a ta)(hb:PE X (.BoolOp .Or (b::rest) pos) tb):PE X (.BoolOp .Or (a::b::rest) pos) (aM ta tb):=by
 intro pI s σ H Q I h;refine BoolOp_or (thn (ha pI s σ H _ I h) fun v s1 ⟨x,H1,I1,r1,q1⟩=>?_)
 obtain⟨c,rfl,q1⟩:=q1;cases r1;refine CA ?_;cases c with
 |false=>exact hb pI s1 σ H1 Q I1 q1
 |true=>exact⟨.bl Ab,H1,I1,rfl,q1⟩
theorem rX(ha:PE X a ta):PE X (.UnaryOp .Not a pos) (wW ta):=by
 intro pI s σ H Q I h;refine UnaryOp_ (thn (ha pI s σ H _ I h) fun v s1 ⟨x,H1,I1,r1,q1⟩=>?_)
 obtain⟨c,rfl,q1⟩:=q1;cases r1;exact not_of (CA ⟨.bl (!c),H1,I1,rfl,q1⟩)
end
noncomputable def SqL(K:Fg)(H:Hp)(a:Am)(xs:Ac V):Prop:=
 Rd H a (.lst xs) \/
  ∃(o:C3)(its:Be Al)(n:Ag),K.lookup a=Aa o/\o.cls=.type "list"/\o.dict=Ae/\o.data=.seq its n/\its.size<=sizeLine/\A7 xs its.toList
noncomputable def SqT(K:Fg)(H:Hp)(a:Am)(xs:Ac V):Prop:=
 Rd H a (.tup xs) \/
  ∃(o:C3)(its:Be Al)(n:Ag),K.lookup a=Aa o/\o.cls=.type "tuple"/\o.data=.seq its n/\its.size<=sizeLine/\A7 xs its.toList
noncomputable def bZ:Al->Ap V
 |.none=>Aa .non
 |.bool b=>Aa (.bl b)
 |.int i _=>Aa (.int i)
 |.str x _=>Aa (.str x)
 |.bytes b _=>Aa (.byt b)
 |.float b _=>Aa (.flt b)
 |.ref a=>Aa (.ref a)
 |.type n=>Aa (.ty n)
 |_=>Ae
theorem BB.abs{x:V}(r:BB x u):bZ u=Aa x:=by
 cases x with
 |non=>cases r;rfl
 |bl _=>cases r;rfl
 |int _=>obtain⟨t,rfl⟩:=r;rfl
 |str _=>obtain⟨t,rfl⟩:=r;rfl
 |byt _=>obtain⟨t,rfl⟩:=r;rfl
 |flt _=>obtain⟨t,rfl⟩:=r;rfl
 |ref _=>cases r;rfl
 |ty _=>cases r;rfl
theorem BB.inj{x y:V}(r:BB x u)(q:BB y u):x=y:=Bz (r.abs.symm.trans q.abs)
theorem A7.inj:∀{xs ys:Ac V}{us:Ac Al},A7 xs us->A7 ys us->xs=ys
 |_,_,_,.nil,.nil=>rfl
 |_,_,_,.cons r t,.cons r' t'=>by rw[r.inj r',A7.inj t t']
section
variable{X:Cx}{pI:Pn}{σ:St}{H:Hp}{s:Ar}{a:Am}{xs ys:Ac V}
theorem SqL.of{K:Fg}(h:H a=Aa (.lst xs)):SqL K H a xs:=.inl (.inl h)
theorem SqT.of{K:Fg}(h:H a=Aa (.tup xs)):SqT K H a xs:=.inl (.inl h)
theorem Inv.list(I:Inv X pI σ H s)(h:SqL X.K H a xs):∃ its:Ac Al,A7 xs its/\PlainL s.heap a its.toArray/\xs.length<=sizeLine:=by
 rcases h with h|⟨o,its,n,hk,hc,hd,hs,hz,r⟩
 ·obtain⟨z,its,n,r,e⟩:=h.ok I.hok;exact⟨its,r,⟨_,n,e,rfl,rfl,rfl⟩,z⟩
 ·refine⟨its.toList,r,⟨o,n,I.kIn a o hk,hc,hd,by simpa using hs⟩,?_⟩
  have e:=r.length;simp only[E1]at e;omega
theorem Inv.tuple(I:Inv X pI σ H s)(h:SqT X.K H a xs):∃ its:Ac Al,A7 xs its/\Ky s.heap a its.toArray/\xs.length<=sizeLine:=by
 rcases h with h|⟨o,its,n,hk,hc,hs,hz,r⟩
 ·obtain⟨z,its,r,p⟩:=h.ok I.hok;exact⟨its,r,p,z⟩
 ·refine⟨its.toList,r,⟨o,I.kIn a o hk,hc,n,by simpa using hs⟩,?_⟩
  have e:=r.length;simp only[E1]at e;omega
theorem Inv.list_inj(I:Inv X pI σ H s)(h:SqL X.K H a xs)(h':SqL X.K H a ys):xs=ys:=by
 obtain⟨its,r,⟨o,n,e,_,_,d⟩,_⟩:=I.list h;obtain⟨its',r',⟨o',n',e',_,_,d'⟩,_⟩:=I.list h';rw[e]at e';cases e';rw[d]at d'
 injection d' with d1 _
 have:its=its':=by simpa using congrArg Jf d1
 subst this;exact r.inj r'
theorem Inv.tuple_inj(I:Inv X pI σ H s)(h:SqT X.K H a xs)(h':SqT X.K H a ys):xs=ys:=by
 obtain⟨its,r,⟨o,e,_,n,d⟩,_⟩:=I.tuple h;obtain⟨its',r',⟨o',e',_,n',d'⟩,_⟩:=I.tuple h';rw[e]at e';cases e';rw[d]at d'
 injection d' with d1 _
 have:its=its':=by simpa using congrArg Jf d1
 subst this;exact r.inj r'
end
noncomputable abbrev Cx.wish(X:Cx)(E:Vq):Cx:={X with xe:=E}
noncomputable abbrev Cx.nox(X:Cx):Cx:=X.wish fun _ _=>AX
theorem Cx.Ok.wish(ok:X.Ok)(E:Vq):(X.wish E).Ok:=
 ⟨ok.mod,ok.kind,ok.glob,ok.blt,ok.above,ok.inj,ok.has,ok.cab,ok.hd,ok.frames,ok.stk,ok.exf,ok.bs,ok.bsz,ok.noex,ok.exfs,ok.funs,ok.frf⟩
theorem Cx.Ok.unwish{E:Vq}(ok:(X.wish E).Ok):X.Ok:=
 ⟨ok.mod,ok.kind,ok.glob,ok.blt,ok.above,ok.inj,ok.has,ok.cab,ok.hd,ok.frames,ok.stk,ok.exf,ok.bs,ok.bsz,ok.noex,ok.exfs,ok.funs,ok.frf⟩
section
variable{X:Cx}{pI:Pn}{σ:St}{H:Hp}{s:Ar}{E:Vq}
theorem Inv.wish(I:Inv X pI σ H s)(E:Vq):Inv (X.wish E) pI σ H s:=⟨I.ok.wish E,I.os,I.bare,I.base,I.loc,I.cell,I.free,I.freeC,I.pin,I.hok,I.len⟩
theorem Inv.unwish(I:Inv (X.wish E) pI σ H s):Inv X pI σ H s:=⟨I.ok.unwish,I.os,I.bare,I.base,I.loc,I.cell,I.free,I.freeC,I.pin,I.hok,I.len⟩
theorem SP.unwish{D:Ends}{f:Flow}{s':Ar}(h:SP (X.wish E) pI D f s'):SP X pI D f s':=by
 cases f with
 |next=>obtain⟨σ',H',I,q⟩:=h;exact⟨σ',H',I.unwish,q⟩
 |brk=>obtain⟨σ',H',I,q⟩:=h;exact⟨σ',H',I.unwish,q⟩
 |cont=>obtain⟨σ',H',I,q⟩:=h;exact⟨σ',H',I.unwish,q⟩
 |ret u=>obtain⟨v,σ',H',I,r,q⟩:=h;exact⟨v,σ',H',I.unwish,r,q⟩
theorem PSs.nox{st:Ac AQ}{t:TS}(h:PSs X.nox st t):PSs X st t:=fun pI s σ H D I hw=>
 Bf (h pI s σ H D (I.wish _) hw) (fun _ _ q=>q.unwish) fun _ _ z=>Ba z
end
section
variable{X:Cx}{st:AQ}{rest:Ac AQ}{t u:TS}{e:An}{te:TE}{pos:AG}
def wX:TS:=fun D σ H=>D.nx σ H
def aY(t u:TS):TS:=fun D σ H=>t {D with nx:=u D} σ H
theorem nV:PSs X [] wX:=fun _ _ σ H _ I h=>Fk ⟨σ,H,I,h⟩
theorem Uv(h1:PS X st t)(h2:PSs X rest u):PSs X (st::rest) (aY t u):=by
 intro pI s σ H D I h;refine Hz (thn (h1 pI s σ H {D with nx:=u D} I h) fun f s1 q=>?_)
 cases f with
 |next=>
  obtain⟨σ',H',I',q⟩:=q;exact h2 pI s1 σ' H' D I' q
 |ret v=>exact q
 |brk=>exact q
 |cont=>exact q
theorem Mz(h1:PS X st t):PSs X [st] t:=by
 intro pI s σ H D I h;refine Hz (thn (h1 pI s σ H D I h) fun f s1 q=>?_)
 cases f with
 |next=>exact Fk q
 |ret v=>exact q
 |brk=>exact q
 |cont=>exact q
theorem Inv.quiet(I:Inv X pI σ H s):interactive X.env=Ad:=by simp[interactive,I.ok.kind]
def wZ(te:TE):TS:=fun D σ H=>te σ H fun _ H1=>D.nx σ H1
theorem J7(he:PE X e te)(hs:CW e Ae pos.line X.env=pure Ad:=by rfl):PS X (.Expr e pos) (wZ te):=by
 intro pI s σ H D I h;exact wpAny_Expr_any (thn (he pI s σ H _ I h) fun v s1 ⟨x,H1,I1,r1,q1⟩=>⟨σ,H1,I1,q1⟩) I.quiet hs
def aZ(te:TE):TS:=fun D σ H=>te σ H D.rt
theorem QS(he:PE X e te):PS X (.Return (Aa e) pos) (aZ te):=by
 intro pI s σ H D I h;exact wpAny_Return_some (thn (he pI s σ H _ I h) fun v s1 ⟨x,H1,I1,r1,q1⟩=>⟨x,σ,H1,I1,r1,q1⟩)
def aR(c:TT)(t u:TS):TS:=fun D σ H=>c σ H fun b H1=>if b=Ab then t D σ H1 else u D σ H1
theorem ak{c:An}{a b:Ac AQ}{tc:TT}(hc:PT X c tc)(ha:PSs X a t)(hb:PSs X b u):PS X (.If c a b pos) (aR tc t u):=by
 intro pI s σ H D I h;refine wpAny_If (thn (hc pI s σ H _ I h) fun d s1 ⟨H1,I1,q1⟩=>?_)
 cases d with
 |true=>exact ha pI s1 σ H1 D I1 q1
 |false=>exact hb pI s1 σ H1 D I1 q1
end
abbrev TG:=V->St->Hp->(St->Hp->Prop)->Prop
abbrev TGs:=Ac V->St->Hp->(St->Hp->Prop)->Prop
noncomputable def PG(X:Cx)(target:An)(t:TG):Prop:=
 ∀(pI:Pn)(s:Ar)(σ:St)(H:Hp)(v:V)(u:Al)(Q:St->Hp->Prop),Inv X pI σ H s->BB v u->t v σ H Q ->
  Ax (model X.prog X.w) X.A (assign target X.env u) (fun _ s'=>∃ σ' H',Inv X pI σ' H' s'/\Q σ' H') X.xe s
noncomputable def PGs(X:Cx)(ts:Ac An)(t:TGs):Prop:=
 ∀(pI:Pn)(s:Ar)(σ:St)(H:Hp)(vs:Ac V)(us:Ac Al)(Q:St->Hp->Prop),Inv X pI σ H s->A7 vs us->t vs σ H Q ->
  Ax (model X.prog X.w) X.A (assignInOrder ((Ca ts X.env).map (·.2)) us) (fun _ s'=>∃ σ' H',Inv X pI σ' H' s'/\Q σ' H') X.xe s
abbrev OQ:=V->V->V->Hp->(Hp->Prop)->Prop
noncomputable def SQ(X:Cx)(t:OQ):Prop:=
 ∀(pI:Pn)(s:Ar)(σ:St)(H:Hp)(o i v:V)(ov iv u:Al)(Q:Hp->Prop),Inv X pI σ H s->BB o ov->BB i iv->BB v u->t o i v H Q ->
  Ax (model X.prog X.w) X.A (JM ov iv u) (fun _ s'=>∃ H',Inv X pI σ H' s'/\Q H') X.xe s
section
variable{X:Cx}{pos:AG}
def E8(i:Ag):TG:=fun v σ H Q=>Q (σ.set i (Aa v)) H
theorem MA(hN:X.N.Nodup)(hi:X.N[i]?=Aa x)(hx:Loc X.env.scope x)(hf:X.fn x=Ab\/X.env.scope.names.lookup x=Aa .local:=by first|exact .inl rfl|exact .inr rfl|assumption):PG X (.Name x pos) (E8 i):=by
 intro pI s σ H v u Q I r h;exact Z6 (Qc I hN hi hx r (fun s' I'=>⟨_,H,I',h⟩) hf)
def HQ:TGs:=fun vs σ H Q=>vs=[]/\Q σ H
def HK(t:TG)(u:TGs):TGs:=fun vs σ H Q=>∃ v r,vs=v::r/\t v σ H fun σ' H'=>u r σ' H' Q
theorem Qx:PGs X [] HQ:=by
 intro pI s σ H vs us Q I r h;obtain⟨e,h⟩:=h;subst e;cases r;exact assignInOrder_nil ⟨σ,H,I,h⟩
theorem Nx{t:TG}{u:TGs}(h1:PG X e t)(h2:PGs X es u)(hs:(Ca (e::es) X.env).map (·.2)=assign e X.env::(Ca es X.env).map (·.2):=by rfl):PGs X (e::es) (HK t u):=by
 intro pI s σ H vs us Q I r h;obtain⟨v,vr,e1,h⟩:=h;subst e1;cases r with
 |cons r rr=>
  rw[hs];refine assignInOrder_cons (thn (h1 pI s σ H _ _ _ I r h) fun _ s1 ⟨σ1,H1,I1,q1⟩=>?_)
  exact h2 pI s1 σ1 H1 _ _ Q I1 rr q1
def LU(K:Fg)(n:Ag)(t:TGs):TG:=fun v σ H Q=>∃ a xs,v=.ref a/\SqT K H a xs/\xs.length=n/\t xs σ H Q
theorem NZ{t:TGs}(hc:X.calm=Ab)(h:PGs X es t)(hn:(Ca es X.env).length=n:=by rfl)(hst:(Ca es X.env).findIdx? (·.1)=Ae:=by rfl):PG X (.Tuple es k pos) (LU X.K n t):=by
 intro pI s σ H v u Q I r hw;obtain⟨a,xs,e1,hq,hl,hw⟩:=hw;subst e1;cases r;obtain⟨its,rv,ht,hz⟩:=I.tuple hq;refine assign_Tuple_tuple (I.ok.hd hc) ht (by simp[hn,<-hl,rv.length]) hst fun h' hx=>?_
 have I1:Inv X pI σ H {s with heap:=h'}:=I.kept (t':=s.toks) fun b o e=>hx b o (Bc (AE e)) e
 exact h pI _ σ H xs _ Q I1 (by simpa using rv) hw
def cY(to ti:TE)(t:OQ):TG:=fun v σ H Q=>to σ H fun o H1=>ti σ H1 fun i H2=>t o i v H2 fun H3=>Q σ H3
theorem QV{o i:An}{to ti:TE}{t:OQ}(ho:PE X o to)(hi:PE X i ti)(hs:SQ X t)(ha:∀ v,assign (.Subscript o i pos) X.env v=(do
   let ov <-holding [v] (eval o X.env)
   let iv <-holding [v,ov] (eval i X.env)
   Hq pos
   holding [v,ov,iv] (JM ov iv v)
   release [v,ov,iv] []):=by intro _;rfl):PG X (.Subscript o i pos) (cY to ti t):=by
 intro pI s σ H v u Q I r h;rw[ha];refine Ao (Ch (thn (ho pI s σ H _ I h) fun ov s1 ⟨x,H1,I1,r1,q1⟩=>?_))
 refine Ao (Ch (thn (hi pI s1 σ H1 _ I1 q1) fun iv s2 ⟨y,H2,I2,r2,q2⟩=>?_))
 refine Ao (DM (Ao (Ch (thn (hs pI s2 σ H2 x y v ov iv u _ I2 r1 r2 r q2) fun _ s3 ⟨H3,I3,q3⟩=>?_))))
 exact wpAny_release ⟨σ,H3,I3,q3⟩
def OE(te:TE)(g:TG):TS:=fun D σ H=>te σ H fun x H1=>g x σ H1 D.nx
theorem QT{g:TG}(he:PE X e te)(hg:PG X tg g)(hs:F0 [tg] e pos.line X.env=pure Ad:=by rfl)(hw:DL [tg] e X.env=pure Ae:=by rfl)(h1:(Ca [tg] X.env).map (·.2)=[assign tg X.env]:=by rfl):PS X (.Assign [tg] e pos) (OE te g):=by
 intro pI s σ H D I h;refine wpAny_Assign_stores (thn (he pI s σ H _ I h) fun v s1 ⟨x,H1,I1,r1,q1⟩=>?_) hs hw
 rw[h1];exact thn (hg pI s1 σ H1 x v _ I1 r1 q1) fun _ s2 q=>q
theorem NX{pos':AG}(hN:X.N.Nodup)(hi:X.N[i]?=Aa x)(hx:Loc X.env.scope x)(he:PE X e te)(hs:CW e (Aa (.Name x pos')) pos.line X.env=pure Ad:=by rfl)(hf:X.fn x=Ab\/X.env.scope.names.lookup x=Aa .local:=by first|exact .inl rfl|exact .inr rfl|assumption):PS X (.Assign [.Name x pos'] e pos) (OE te (E8 i)):=by
 intro pI s σ H D I h;refine wpAny_Assign_Name (thn (he pI s σ H _ I h) fun v s1 ⟨y,H1,I1,r1,q1⟩=>?_) hs
 exact Qc I1 hN hi hx r1 (fun s2 I2=>⟨_,H1,I2,q1⟩) hf
end
section
variable{X:Cx}{pos:AG}
end
structure It where
 go:Ag->Hp->Prop
 yld:Ag->Hp->V->Hp->Prop
 stop:Ag->Hp->Prop
noncomputable def GN(X:Cx)(pI:Pn)(H:Hp)(b:Am):Prop:=
 H b=Ae/\b≠X.env.locals/\b∉X.fs/\(b∈X.ex\/X.s₀.heap.objs.size<=b)/\(∀ x c,X.env.cells.lookup x=Aa c->c≠b)/\∀ p∈X.pn++pI,p.1≠b
theorem Inv.fpOk{H':Hp}(I:Inv X pI σ H s)(hb:s.heap.objs.size<=b)(hn:H' b=Ae):GN X pI H' b:=by
 refine⟨hn,Eu (AJ I.lt hb),I.nofs hb,.inr (Ct I.sz hb),fun x c e z=>?_,fun p hp z=>?_⟩
 ·obtain⟨v,q⟩:=I.cell x c e;exact absurd (AJ q.lt (by rw[z];exact hb)) (Bw _)
 ·exact absurd (AJ (AE (I.pin p hp).1) (by rw[z];exact hb)) (Bw _)
structure Turn (P:AO) (w:A4) (K:Fg) (tg:An) (J:It) (fp:Ac Am) (it:Am) (tn:Ag->AF->Prop):Prop where
 mem:it∈fp
 obj:∀ i h,tn i h->∀ b∈fp,∃ o,h.get? b=Aa o/\∀ v,o.data≠.cell v
 keep:∀ i h h',tn i h->(∀ b∈fp,∀ o,h.get? b=Aa o->h'.get? b=Aa o)->tn i h'
 item:∀(X:Cx),X.prog=P->X.w=w->X.K=K->X.calm=Ab->∀(i:Ag)(pI:Pn)(s:Ar)(σ:St)(H:Hp)(E:Vq),Inv X pI σ H s->(∀ b∈fp,GN X pI H b)->tn i s.heap->J.go i H ->
  Ax (model P w) X.A (Iy (.ref it)) (fun r s1=>∃ u,r=Aa u /\
   Ax (model P w) X.A (Gq tg (.ref it) u) (fun _ s2=>∃ x H',Inv X pI σ H' s2/\BB x u/\J.yld i H x H'/\tn (i+1) s2.heap/\∀ b∈fp,H' b=Ae) E s1) E s
 done:∀(X:Cx),X.prog=P->X.w=w->X.K=K->X.calm=Ab->∀(i:Ag)(pI:Pn)(s:Ar)(σ:St)(H:Hp)(E:Vq),Inv X pI σ H s->(∀ b∈fp,GN X pI H b)->tn i s.heap->J.stop i H ->
  Ax (model P w) X.A (Iy (.ref it)) (fun r s1=>r=Ae/\Inv X pI σ H s1) E s
 self:∀(A:A2)(i:Ag)(s:Ar)(Q:Vq)(E:Vq),tn i s.heap->Q (.ref it) s->Ax (model P w) A (Mf (.ref it)) Q E s
abbrev TI:=St->Hp->(It->Hp->Prop)->Prop
noncomputable def PIE(X:Cx)(pI:Pn)(σ:St)(tg:An)(R:It->Hp->Prop)(itv:Al)(s2:Ar):Prop:=
 ∃(it:Am)(fp:Ac Am)(tn:Ag->AF->Prop)(J:It)(H':Hp),itv=.ref it/\Inv X pI σ H' s2/\Turn X.prog X.w X.K tg J fp it tn/\tn 0 s2.heap/\(∀ b∈fp,GN X pI H' b)/\R J H'
noncomputable def PI(X:Cx)(tg iter:An)(wi:TI):Prop:=
 ∀(pI:Pn)(s:Ar)(σ:St)(H:Hp)(R:It->Hp->Prop),Inv X pI σ H s->wi σ H R ->
  Ax (model X.prog X.w) X.A (eval iter X.env) (fun v s1=>Ax (model X.prog X.w) X.A (Mf v) (PIE X pI σ tg R) X.xe s1) X.xe s
theorem RC{A:A2}{E:Vq}{n:C5}{vs:Be Al}(ho:s.heap.get? it=Aa o)(hc:o.cls=.type n)(hd:o.data=.fields vs)(hn:["enumerate", "zip", "dict_itemiterator", "dict_reverseitemiterator", "odict_iterator", "itertools.zip_longest", "itertools.pairwise"].contains n=Ad)(hQ:Q () s):Ax M A (Gq tg (.ref it) u) Q E s:=by
  unfold Gq;cases tg<;>first
    |exact AI hQ
    | (cases u<;>first
        |exact AI hQ
        | (refine Ao (wpAny_load ho ?_)
           rw[hc,hd];show Ax M A (if (["enumerate", "zip", "dict_itemiterator", "dict_reverseitemiterator", "odict_iterator", "itertools.zip_longest", "itertools.pairwise"].contains n&&vs[0]? == Aa (D8 _))=Ab then _ else _) Q E s
           rw[AH (by intro h;rw[hn,Bool.false_and]at h;cases h)]
           exact AI hQ))
noncomputable def Itl(K:Fg)(a:Am):It:=
 ⟨fun i H=>∃ xs x,SqL K H a xs/\xs[i]?=Aa x,fun i H x H'=>H'=H/\∀ xs,SqL K H a xs->xs[i]?=Aa x,fun i H=>∃ xs,SqL K H a xs/\xs.length<=i⟩
noncomputable def Itt(K:Fg)(a:Am):It:=
 ⟨fun i H=>∃ xs x,SqT K H a xs/\xs[i]?=Aa x,fun i H x H'=>H'=H/\∀ xs,SqT K H a xs->xs[i]?=Aa x,fun i H=>∃ xs,SqT K H a xs/\xs.length<=i⟩
noncomputable def Itr(lo:Af)(n:Ag):It:=⟨fun i _=>i<n,fun i H x H'=>H'=H/\x=.int (lo+i),fun i _=>n<=i⟩
theorem fA{w:A4}{K:Fg}(a it:Am):Turn P w K tg (Itl K a) [it] it (fun i h=>h.IsListIter it a i) where
  mem:=by simp
  obj:=fun i h st b hb=>by
    have e:b=it:=by simpa using hb
    subst e;obtain⟨o,e,c,d⟩:=st;exact⟨o,e,fun v z=>by rw[d]at z;cases z⟩
  keep:=fun i h h' st k=>st.at fun o e=>k it (by simp) o e
  item:=by
    intro X hP hw hK hc i pI s σ H E I hf st hg;subst hP hw hK;obtain⟨xs,x,hq,hx⟩:=hg;obtain⟨its,rv,p,hz⟩:=I.list hq;obtain⟨u,hu,ru⟩:=rv.get hx;obtain⟨f0,f1,f2,f3,f4,f5⟩:=hf it (by simp)
    refine aC st p.isList (x:=u) (by simpa using hu) fun h' st' sb=>?_
    have I1:Inv X pI σ H {s with heap:=h'}:=I.turned (t':=s.toks) (fun b o hb e=>(sb.2 b hb).trans e) f0 f1 f3 f4 f5
    obtain⟨o,e,c,d⟩:=id st';exact⟨u,rfl,RC (s:={s with heap:=h'}) e c d (by decide) ⟨x,H,I1,ru,⟨rfl,fun ys hy=>by rw[I.list_inj hy hq];exact hx⟩,st',fun b hb=>(hf b hb).1⟩⟩
  done:=by
    intro X hP hw hK hc i pI s σ H E I hf st hg;subst hP hw hK;obtain⟨xs,hq,hx⟩:=hg;obtain⟨its,rv,p,hz⟩:=I.list hq;obtain⟨f0,f1,f2,f3,f4,f5⟩:=hf it (by simp)
    have hl:=rv.length;exact aA (I.ok.hd hc) st p.isList (by simp;omega) fun h' eb=>⟨rfl,I.turned (t':=s.toks) (fun b o hb e=>eb b o hb e) f0 f1 f3 f4 f5⟩
  self:=fun _ _ _ _ _ st h=>wpAny_pyIter_listiter st h
theorem eN{w:A4}{K:Fg}(a it:Am):Turn P w K tg (Itt K a) [it] it (fun i h=>h.IsTupleIter it a i) where
  mem:=by simp
  obj:=fun i h st b hb=>by
    have e:b=it:=by simpa using hb
    subst e;obtain⟨o,e,c,d⟩:=st;exact⟨o,e,fun v z=>by rw[d]at z;cases z⟩
  keep:=fun i h h' st k=>st.at fun o e=>k it (by simp) o e
  item:=by
    intro X hP hw hK hc i pI s σ H E I hf st hg;subst hP hw hK;obtain⟨xs,x,hq,hx⟩:=hg;obtain⟨its,rv,p,hz⟩:=I.tuple hq;obtain⟨u,hu,ru⟩:=rv.get hx;obtain⟨f0,f1,f2,f3,f4,f5⟩:=hf it (by simp)
    refine wpAny_pyNext_tuple_item st (show s.heap.IsTuple a its.toArray from p) (x:=u) (by simpa using hu) fun h' st' sb=>?_
    have I1:Inv X pI σ H {s with heap:=h'}:=I.turned (t':=s.toks) (fun b o hb e=>(sb.2 b hb).trans e) f0 f1 f3 f4 f5
    obtain⟨o,e,c,d⟩:=id st';exact⟨u,rfl,RC (s:={s with heap:=h'}) e c d (by decide) ⟨x,H,I1,ru,⟨rfl,fun ys hy=>by rw[I.tuple_inj hy hq];exact hx⟩,st',fun b hb=>(hf b hb).1⟩⟩
  done:=by
    intro X hP hw hK hc i pI s σ H E I hf st hg;subst hP hw hK;obtain⟨xs,hq,hx⟩:=hg;obtain⟨its,rv,p,hz⟩:=I.tuple hq;obtain⟨f0,f1,f2,f3,f4,f5⟩:=hf it (by simp)
    have hl:=rv.length;exact wpAny_pyNext_tuple_end (I.ok.hd hc) st (show s.heap.IsTuple a its.toArray from p) (by simp;omega) fun h' eb=>⟨rfl,I.turned (t':=s.toks) (fun b o hb e=>eb b o hb e) f0 f1 f3 f4 f5⟩
  self:=fun _ _ _ _ _ st h=>wpAny_pyIter_tupleiter st h
theorem eP{w:A4}{K:Fg}(it:Am)(lo:Af)(n:Ag):Turn P w K tg (Itr lo n) [it] it (fun i h=>IsRangeIter h it (lo+(i:Ag)*1) ((n:Af)-(i:Ag)) 1) where
  mem:=by simp
  obj:=fun i h st b hb=>by
    have e:b=it:=by simpa using hb
    subst e;exact⟨_,st,fun v z=>by
      have z':Data.fields _=L7 v:=z;cases z'⟩
  keep:=fun i h h' st k=>k it (by simp) _ st
  item:=by
    intro X hP hw hK hc i pI s σ H E I hf st hg;subst hP hw hK;obtain⟨f0,f1,f2,f3,f4,f5⟩:=hf it (by simp)
    have W:=Walks.range (prog:=X.prog) (w:=X.w) (I.ok.hd hc) it lo 1 n;refine W.item i s _ _ hg st fun v h' tk hv st' kk=>?_
    obtain⟨t,rfl⟩:=hv;have I1:Inv X pI σ H {s with heap:=h',toks:=tk}:=I.turned (fun b o hb e=>kk b o (by simpa using hb) e) f0 f1 f3 f4 f5
    refine⟨_,rfl,RC (s:={s with heap:=h',toks:=tk}) (n := "range_iterator") st' rfl rfl (by decide) ⟨.int (lo+i),H,I1,⟨t,?_⟩,⟨rfl,rfl⟩,st',fun b hb=>(hf b hb).1⟩⟩
    rw[DD]
  done:=by
    intro X hP hw hK hc i pI s σ H E I hf st hg;subst hP hw hK;obtain⟨f0,f1,f2,f3,f4,f5⟩:=hf it (by simp)
    exact wpAny_pyNext_range_end (I.ok.hd hc) st (by have:n<=i:=hg;omega) fun h' eb=>⟨rfl,I.turned (t':=s.toks) (fun b o hb e=>eb b o hb e) f0 f1 f3 f4 f5⟩
  self:=fun _ _ _ _ _ st h=>wpAny_pyIter_rangeiter st h
section
variable{X:Cx}{tg:An}
theorem Uu{R:It->Hp->Prop}{E:Vq}{lo hi:Af}{t u v:CM}{tk:Ag}(I:Inv X pI σ H s)(h1:-(2 ^ 62)<=lo)(h2:lo<2 ^ 62)(h3:-(2 ^ 62)<=hi)(h4:hi<2 ^ 62)(q:R (Itr lo (hi-lo).toNat) H):Ax (model X.prog X.w) X.A (Mf (.ref s.heap.objs.size)) (PIE X pI σ tg R) E { s with heap:=s.heap.push { cls:=.type "range", data:=.fields #[.int lo t,.int hi u,.int 1 v] },toks:=tk }:=by
 refine wpAny_pyIter_range (Zu ..) (small_one h1 h2 h3 h4) ?_;have I1:Inv X pI σ H { s with heap:=s.heap.push { cls:=.type "range", data:=.fields #[.int lo t,.int hi u,.int 1 v] },toks:=tk }:=I.kept fun b o e=>As _ e
 refine⟨(s.heap.push { cls:=.type "range", data:=.fields #[.int lo t,.int hi u,.int 1 v] }).objs.size,[(s.heap.push { cls:=.type "range", data:=.fields #[.int lo t,.int hi u,.int 1 v] }).objs.size],_,_,H,rfl,
  I1.kept (t':=tk) fun b o e=>As _ e,eP _ lo (hi-lo).toNat,?_,fun b hb=>?_,q⟩
 ·have e1:lo+((0:Ag):Af)*1=lo:=by simp
  have e2:(((hi-lo).toNat:Ag):Af)-((0:Ag):Af)=Builtin.Range.rangeSize lo hi 1:=by rw[rangeSize_one];split<;>omega
  show IsRangeIter _ _ (lo+((0:Ag):Af)*1) ((((hi-lo).toNat:Ag):Af)-((0:Ag):Af)) 1;rw[e1,e2];exact AK _ rfl
 ·have e:b=(s.heap.push { cls:=.type "range", data:=.fields #[.int lo t,.int hi u,.int 1 v] }).objs.size:=by simpa using hb
  subst e;exact I1.fpOk (AW _) (I1.hok.fresh (AW _))
def zK(ta:TA):TI:=fun σ H R=>ta σ H fun vs H1=>∃ j:Af,vs=[.int j]/\-(2 ^ 62)<=j/\j<2 ^ 62/\R (Itr 0 j.toNat) H1
def zJ(ta:TA):TI:=fun σ H R=>ta σ H fun vs H1=>∃ i j:Af,vs=[.int i,.int j]/\(-(2 ^ 62)<=i/\i<2 ^ 62/\-(2 ^ 62)<=j/\j<2 ^ 62)/\R (Itr i (j-i).toNat) H1
theorem eZ{a:An}(hg:Gl X "range")(hm:X.mg "range" = Ae)(ha:PA X [a] ta)(hs:Av [a] X.env=[(Ad,eval a X.env)]:=by rfl):PI X tg (.Call (.Name "range" p) [a] [] pos) (zK ta):=by
 intro pI s σ H R I h;refine Iz (HG I hg hm Kz (BO (thn (ha pos pI s σ H _ I h) fun us s1 ⟨vs,H1,I1,r1,q1⟩=>?_) hs rfl))
 obtain⟨j,e,q1,q2,q⟩:=q1;subst e;cases r1 with
 |cons r rr=>
  cases rr;obtain⟨t,rfl⟩:=r;exact call_range_1 (Uu I1 (by omega) (by omega) q1 q2 (by simpa using q))
theorem eY{a b:An}(hg:Gl X "range")(hm:X.mg "range" = Ae)(ha:PA X [a,b] ta)(hs:Av [a,b] X.env=[(Ad,eval a X.env),(Ad,eval b X.env)]:=by rfl)(hs2:Av [b] X.env=[(Ad,eval b X.env)]:=by rfl):
  PI X tg (.Call (.Name "range" p) [a,b] [] pos) (zJ ta):=by
 intro pI s σ H R I h;refine Iz (HG I hg hm Kz (BO (thn (ha pos pI s σ H _ I h) fun us s1 ⟨vs,H1,I1,r1,q1⟩=>?_) (by rw[hs,hs2]) (by rw[hs2];rfl)))
 obtain⟨i,j,e,⟨q1,q2,q3,q4⟩,q⟩:=q1;subst e;cases r1 with
 |cons r rr=>
  cases rr with
  |cons r' rr=>
   cases rr;obtain⟨t,rfl⟩:=r;obtain⟨t',rfl⟩:=r';exact call_range_2 (Uu I1 q1 q2 q3 q4 q)
def aS(wi:TI)(g:TG)(tb:TS):TS:=fun D σ H=>wi σ H fun J H1=>∃ W:Ag->Ag->St->Hp->Prop,(∃ m,W 0 m σ H1)/\∀ i m σ H,W i m σ H ->
 (J.stop i H/\D.nx σ H)\/(J.go i H/\∃ N:St->Hp->Prop,(∀ σ' H',N σ' H'->∃ m',m'<m/\W (i+1) m' σ' H')/\∀ x H',J.yld i H x H'->g x σ H' fun σ2 H2=>tb {D with nx:=N,ct:=N,bk:=D.nx} σ2 H2)
noncomputable def Kk(fp:Ac Am)(h:AF):Pn:=fp.filterMap fun b=>(h.get? b).map fun o=>(b,o)
theorem Nq(hb:b∈fp)(e:h.get? b=Aa o):(b,o)∈Kk fp h:=List.mem_filterMap.mpr ⟨b,hb,by rw[e];rfl⟩
theorem TX{p:Am×C3}(hp:p∈Kk fp h):p.1∈fp/\h.get? p.1=Aa p.2:=by
 obtain⟨b,hb,e⟩:=List.mem_filterMap.mp hp;cases q:h.get? b with
 |none=>rw[q]at e;cases e
 |some o=>
  rw[q]at e;have e':(b,o)=p:=Bz e;subst e';exact⟨hb,q⟩
theorem Inv.pinned(I:Inv X pI σ H s)(hf:∀ b∈fp,GN X pI H b)(ho:∀ b∈fp,∃ o,s.heap.get? b=Aa o/\∀ v,o.data≠.cell v):Inv X (pI++Kk fp s.heap) σ H s:=
 I.pins_of fun p hp=>(Ff.mp hp).elim (fun z=>I.pin p (Bs _ z)) fun z=>by
  obtain⟨hb,e⟩:=TX z;obtain⟨f0,f1,f2,_⟩:=hf p.1 hb;obtain⟨o,e',d⟩:=ho p.1 hb;rw[e]at e';cases e';exact⟨e,f0,f1,f2,d⟩
theorem Inv.unpinned{pl:Pn}(I:Inv X (pI++pl) σ H s):Inv X pI σ H s:=I.pins_of fun p hp=>I.pin p (Bs _ (DP _ hp))
theorem sY{iter:An}{wi:TI}{g:TG}{tb:TS}(hp:Fs (model X.prog X.w) X.A X.env X.xe)(hc:X.calm=Ab)(hi:PI X tg iter wi)(hg:PG X tg g)(hb:PSs X body tb)(hs:∀ x,CU iter X.env x=pure x:=by intro _;rfl):PS X (.For tg iter body [] pos) (aS wi g tb):=by
 intro pI s σ H D I h;refine wpAny_For (thn (hi pI s σ H _ I h) fun v s1 h1=>thn h1 fun itv s2 h2=>?_) hs
 obtain⟨it,fp,tn,J,H2,e,I2,T,st2,f2,W,⟨m0,w0⟩,turn⟩:=h2;subst e
 -- what stays Ab of the iterator's objects through the loop
 have stat:∀{H':Hp},(∀ b∈fp,H' b=Ae)->∀ b∈fp,GN X pI H' b:=fun hn b hb=>⟨hn b hb,(f2 b hb).2⟩
 refine codeAny_forLoop_any (fun n s'=>∃ i σ' H',Inv X pI σ' H' s'/\tn i s'.heap/\(∀ b∈fp,H' b=Ae)/\W i n σ' H') ?_ m0 ⟨0,σ,H2,I2,st2,fun b hb=>(f2 b hb).1,w0⟩
 rintro n s3 ⟨i,σ3,H3,I3,st3,fr3,w3⟩;rcases turn i n σ3 H3 w3 with ⟨stop,qn⟩|⟨go,N,hN,step⟩
 ·refine Fl hp (thn (T.done X rfl rfl rfl hc i pI s3 σ3 H3 X.xe I3 (stat fr3) st3 stop) fun r s4 ⟨hr,I4⟩=>?_)
  subst hr;exact Fk ⟨σ3,H3,I4,qn⟩
 ·refine Fl hp (thn (T.item X rfl rfl rfl hc i pI s3 σ3 H3 X.xe I3 (stat fr3) st3 go) fun r s4 ⟨u,hr,h4⟩=>?_)
  subst hr;refine Fl hp (thn h4 fun _ s5 ⟨x,H5,I5,r5,y5,st5,fr5⟩=>?_)
  have I5':=I5.pinned (stat fr5) (T.obj _ _ st5);refine Fl hp (thn (hg _ s5 σ3 H5 x u _ I5' r5 (step x H5 y5)) fun _ s6 ⟨σ6,H6,I6,q6⟩=>?_)
  refine Fl hp (thn (hb _ s6 σ6 H6 _ I6 q6) fun f s7 q7=>?_)
  have again:∀{σ7:St}{H7:Hp},Inv X (pI++Kk fp s5.heap) σ7 H7 s7->N σ7 H7->∃ m,m<n/\∃ i σ' H',Inv X pI σ' H' s7/\tn i s7.heap/\(∀ b∈fp,H' b=Ae)/\W i m σ' H':=fun {σ7 H7} I7 n7=>by
   obtain⟨m',hm,w7⟩:=hN σ7 H7 n7;refine⟨m',hm,i+1,σ7,H7,I7.unpinned,T.keep _ _ _ st5 fun b hb o e=>(I7.pin (b,o) (Bs _ (Bs _ (Nq hb e)))).1,fun b hb=>?_,w7⟩
   obtain⟨o,e,d⟩:=T.obj _ _ st5 b hb;exact(I7.pin (b,o) (Bs _ (Bs _ (Nq hb e)))).2.1
  cases f with
  |next=>obtain⟨σ7,H7,I7,n7⟩:=q7;exact again I7 n7
  |cont=>obtain⟨σ7,H7,I7,n7⟩:=q7;exact again I7 n7
  |brk=>obtain⟨σ7,H7,I7,q7⟩:=q7;exact⟨σ7,H7,I7.unpinned,q7⟩
  |ret v=>obtain⟨x7,σ7,H7,I7,r7,q7⟩:=q7;exact⟨x7,σ7,H7,I7.unpinned,r7,q7⟩
end
abbrev R2:=V->V->Hp->VK->Prop
variable{r:R2}
noncomputable def OpR(X:Cx)(f:Al->Al->GE Al)(r:R2):Prop:=
 ∀(pI:Pn)(s:Ar)(σ:St)(H:Hp)(x y:V)(v u:Al)(Q:VK),Inv X pI σ H s->BB x v->BB y u->r x y H Q ->
  Ax (model X.prog X.w) X.A (f v u) (EP X pI σ Q) X.xe s
noncomputable def UnR(X:Cx)(f:Al->GE Al)(r:V->Hp->VK->Prop):Prop:=
 ∀(pI:Pn)(s:Ar)(σ:St)(H:Hp)(x:V)(v:Al)(Q:VK),Inv X pI σ H s->BB x v->r x H Q ->
  Ax (model X.prog X.w) X.A (f v) (EP X pI σ Q) X.xe s
noncomputable def HI(X:Cx)(f:Al)(r:Ac V->Hp->VK->Prop):Prop:=
 ∀(pI:Pn)(s:Ar)(σ:St)(H:Hp)(xs:Ac V)(us:Ac Al)(Q:VK),Inv X pI σ H s->A7 xs us->r xs H Q ->
  Ax (model X.prog X.w) X.A (call f us) (EP X pI σ Q) X.xe s
noncomputable def cB(X:Cx)(r:V->Hp->(Ak->Hp->Prop)->Prop):Prop:=
 ∀(pI:Pn)(s:Ar)(σ:St)(H:Hp)(x:V)(v:Al)(Q:Ak->Hp->Prop),Inv X pI σ H s->BB x v->r x H Q ->
  Ax (model X.prog X.w) X.A (truthy v) (TP X pI σ Q) X.xe s
def tOp(r:R2)(ta tb:TE):TE:=fun σ H Q=>ta σ H fun x H1=>tb σ H1 fun y H2=>r x y H2 Q
def tUn(r:V->Hp->VK->Prop)(ta:TE):TE:=fun σ H Q=>ta σ H fun x H1=>r x H1 Q
def rI(C:Af->Af->Prop)(g:Af->Af->V):R2:=fun x y H Q=>∃ i j,x=.int i/\y=.int j/\C i j/\Q (g i j) H
def rI0(g:Af->Af->V):R2:=fun x y H Q=>∃ i j,x=.int i/\y=.int j/\Q (g i j) H
def rU(g:Af->V):V->Hp->VK->Prop:=fun x H Q=>∃ i,x=.int i/\Q (g i) H
section
variable{X:Cx}{a b c:An}{ta tb tc:TE}{pos:AG}
theorem RZ(ha:PE X a ta)(hb:PE X b tb){R:V->V->Hp->Prop}(I:Inv X pI σ H s)(h:ta σ H fun x H1=>tb σ H1 fun y H2=>R x y H2){Q:Vq}(hf:∀ v u s2 x y H2,Inv X pI σ H2 s2->BB x v->BB y u->R x y H2->Ax (model X.prog X.w) X.A (f v u) Q X.xe s2):Ax (model X.prog X.w) X.A (eval a X.env) (fun v s₁=>Ax (model X.prog X.w) X.A (eval b X.env) (fun u s₂=>Ax (model X.prog X.w) X.A (f v u) Q X.xe s₂) X.xe s₁) X.xe s:=by
 refine thn (ha pI s σ H _ I h) fun v s1 ⟨x,H1,I1,r1,q1⟩=>?_
 refine thn (hb pI s1 σ H1 _ I1 q1) fun u s2 ⟨y,H2,I2,r2,q2⟩=>?_
 exact hf v u s2 x y H2 I2 r1 r2 q2
theorem Xa{op:Fq}(ho:OpR X (B7 op) r)(ha:PE X a ta)(hb:PE X b tb):PE X (.BinOp a op b pos) (tOp r ta tb):=by
 intro pI s σ H Q I h;exact wpAny_BinOp (RZ ha hb I h fun v u s2 x y H2 I2 rx ry q=>ho pI s2 σ H2 x y v u Q I2 rx ry q)
theorem aq{op:JK}{r:V->Hp->VK->Prop}(ho:UnR X (unaryOp op) r)(ha:PE X a ta):PE X (.UnaryOp op a pos) (tUn r ta):=by
 intro pI s σ H Q I h;exact UnaryOp_ (thn (ha pI s σ H _ I h) fun v s1 ⟨x,H1,I1,r1,q1⟩=>ho pI s1 σ H1 x v Q I1 r1 q1)
theorem opI{C:Af->Af->Prop}(rule:∀(i j:Af)(t u:CM)(s:Ar)(Q:Vq)(E:Vq),C i j->Q (.int (g i j) s.toks) {s with toks:=s.toks+1}->Ax (model X.prog X.w) X.A (f (.int i t) (.int j u)) Q E s):OpR X f (rI C fun i j=>.int (g i j)):=by
 intro pI s σ H x y v u Q I rx ry h;obtain⟨i,j,rfl,rfl,hc,q⟩:=h;obtain⟨t,rfl⟩:=rx;obtain⟨t',rfl⟩:=ry;exact rule i j t t' s _ _ hc ⟨.int (g i j),H,I.tok _,⟨_,rfl⟩,q⟩
theorem R9(rule:∀(i j:Af)(t u:CM)(s:Ar)(Q:Vq)(E:Vq),Q (.int (g i j) s.toks) {s with toks:=s.toks+1}->Ax (model X.prog X.w) X.A (f (.int i t) (.int j u)) Q E s):OpR X f (rI0 fun i j=>.int (g i j)):=by
 intro pI s σ H x y v u Q I rx ry h;obtain⟨i,j,rfl,rfl,q⟩:=h;obtain⟨t,rfl⟩:=rx;obtain⟨t',rfl⟩:=ry;exact rule i j t t' s _ _ ⟨.int (g i j),H,I.tok _,⟨_,rfl⟩,q⟩
theorem OK{g:Af->Af->Ak}(rule:∀(i j:Af)(t u:CM)(s:Ar)(Q:Vq)(E:Vq),Q (.bool (g i j)) s->Ax (model X.prog X.w) X.A (f (.int i t) (.int j u)) Q E s):OpR X f (rI0 fun i j=>.bl (g i j)):=by
 intro pI s σ H x y v u Q I rx ry h;obtain⟨i,j,rfl,rfl,q⟩:=h;obtain⟨t,rfl⟩:=rx;obtain⟨t',rfl⟩:=ry;exact rule i j t t' s _ _ ⟨.bl (g i j),H,I,rfl,q⟩
def bF(i j:Af):Prop:=0<j/\j<1073741824
def bE(i j:Af):Prop:=0<=j/\j<=1000000/\i.natAbs<2 ^ 64
def OP(i j:Af):Prop:=(-(2 ^ 64)<i/\i<2 ^ 64)\/(-(2 ^ 64)<j/\j<2 ^ 64)
theorem OP.ok{i j:Af}(h:OP i j):Mc i j:=by
 rcases h with ⟨h1,h2⟩|⟨h1,h2⟩
 ·exact .of_left (intBits_le_64 h1 h2)
 ·exact .of_right (intBits_le_64 h1 h2)
theorem vD:OpR X (B7 .Add) (rI0 fun i j=>.int (i+j)):=R9 fun _ _ _ _ _ _ _ q=>add_int q
theorem uZ:OpR X (B7 .Sub) (rI0 fun i j=>.int (i-j)):=R9 fun _ _ _ _ _ _ _ q=>sub_int q
theorem oR:OpR X (B7 .FloorDiv) (rI bF fun i j=>.int (i / j)):=opI fun i j _ _ _ _ _ hc q=>by
 have h1:(0:Af)<j:=hc.1;have h2:j<1073741824:=hc.2;exact floordiv_int (by omega) (by rw[Int.fdiv_eq_ediv_of_nonneg i (by omega)];exact q) (.inl (PyProof.noPylong_small (by omega)))
theorem vB:OpR X (B7 .Mod) (rI (fun _ j=>0<j) fun i j=>.int (i%j)):=opI fun i j _ _ _ _ _ hc q=>by
 have h1:(0:Af)<j:=hc;exact mod_int' (by omega) (by rw[Int.fmod_eq_emod_of_nonneg i (by omega)];exact q)
theorem vA:OpR X (B7 .Pow) (rI bE fun i j=>.int (i ^ j.toNat)):=opI fun _ _ _ _ _ _ _ hc q=>pow_int_small hc.1 hc.2.1 hc.2.2 q
theorem unI{f:Al->GE Al}{g:Af->Af}(rule:∀(i:Af)(t:CM)(s:Ar)(Q:Vq)(E:Vq),Q (.int (g i) s.toks) {s with toks:=s.toks+1}->Ax (model X.prog X.w) X.A (f (.int i t)) Q E s):UnR X f (rU fun i=>.int (g i)):=by
 intro pI s σ H x v Q I rx h;obtain⟨i,rfl,q⟩:=h;obtain⟨t,rfl⟩:=rx;exact rule i t s _ _ ⟨.int (g i),H,I.tok _,⟨_,rfl⟩,q⟩
theorem rD:UnR X (unaryOp .USub) (rU fun i=>.int (-i)):=unI fun _ _ _ _ _ q=>neg_int q
end
section
variable{X:Cx}{a b c:An}{ta tb tc:TE}{pos:AG}
theorem Wp{Q:VK}{k k':Ak}(I:Inv X pI σ H s)(q:Q (.bl k) H)(e:k=k'):EP X pI σ Q (.bool k') s:=by
 subst e;exact⟨.bl k,H,I,rfl,q⟩
theorem bj:OpR X (Cz .Lt) (rI0 fun i j=>.bl (decide (i<j))):=OK fun _ _ _ _ _ _ _ q=>lt_int q
theorem bo:OpR X (Cz .LtE) (rI0 fun i j=>.bl (decide (i<=j))):=OK fun _ _ _ _ _ _ _ q=>le_int q
theorem bp:OpR X (Cz .Gt) (rI0 fun i j=>.bl (decide (j<i))):=OK fun _ _ _ _ _ _ _ q=>gt_int q
theorem bq:OpR X (Cz .GtE) (rI0 fun i j=>.bl (decide (j<=i))):=OK fun _ _ _ _ _ _ _ q=>ge_int q
theorem vC:OpR X (Cz .Is) (fun x y H Q=>y=.non/\Q (.bl (decide (x=.non))) H):=by
 intro pI s σ H x y v u Q I rx ry h;obtain⟨rfl,q⟩:=h;cases ry;refine is_none_gen (Wp I q ?_);cases x<;>first
  |(cases rx;rfl)
  |(obtain⟨t,rfl⟩:=rx;rfl)
theorem oP:OpR X (Cz .IsNot) (fun x y H Q=>y=.non/\Q (.bl (!decide (x=.non))) H):=by
 intro pI s σ H x y v u Q I rx ry h;obtain⟨rfl,q⟩:=h;cases ry;refine isnot_none_gen (Wp I q ?_);cases x<;>first
  |(cases rx;rfl)
  |(obtain⟨t,rfl⟩:=rx;rfl)
theorem oG(ho:OpR X (Cz op) r)(ha:PE X a ta)(hb:PE X b tb)(hm:G8 op b=Ad):PE X (.Compare a [op] [b] pos) (tOp r ta tb):=by
 intro pI s σ H Q I h;exact wpAny_Compare1 (RZ ha hb I h fun v u s2 x y H2 I2 rx ry q=>ho pI s2 σ H2 x y v u Q I2 rx ry q) hm
def W7(t:TE):TT:=fun σ H Q=>t σ H fun x H'=>∃ k,x=.bl k/\Q k H'
theorem nU(ho:OpR X (Cz op) r)(ha:PE X a ta)(hb:PE X b tb)(hm:G8 op b=Ad):PT X (.Compare a [op] [b] pos) (W7 (tOp r ta tb)):=by
 intro pI s σ H Q I h;refine wpAny_isTrue_Compare1 (thn (ha pI s σ H _ I h) fun v s1 ⟨x,H1,I1,r1,q1⟩=>thn (hb pI s1 σ H1 _ I1 q1) fun u s2 ⟨y,H2,I2,r2,q2⟩=>
  thn (ho pI s2 σ H2 x y v u _ I2 r1 r2 q2) fun c s3 ⟨z,H3,I3,r3,k,e,q3⟩=>?_) hm
 subst e;cases r3;exact CA ⟨H3,I3,q3⟩
def WE(r r':R2)(ta tb tc:TE):TE:=fun σ H Q=>ta σ H fun x H1=>tb σ H1 fun y H2=>r x y H2 fun z H3=>∃ k,z=.bl k /\
 (if k=Ab then tc σ H3 fun w' H4=>r' y w' H4 Q else Q (.bl Ad) H3)
theorem gJ{op':C9}{r':R2}(ho:OpR X (Cz op) r)(ho':OpR X (Cz op') r')(ha:PE X a ta)(hb:PE X b tb)(hc:PE X c tc)(hm:Jq [op,op'] [b,c]=Ad:=by with_unfolding_all rfl):PE X (.Compare a [op,op'] [b,c] pos) (WE r r' ta tb tc):=by
 intro pI s σ H Q I h;refine Compare_chain (thn (ha pI s σ H _ I h) fun v s1 ⟨x,H1,I1,r1,q1⟩=>chain_link (thn (hb pI s1 σ H1 _ I1 q1) fun u s2 ⟨y,H2,I2,r2,q2⟩=>
  thn (ho pI s2 σ H2 x y v u _ I2 r1 r2 q2) fun d s3 ⟨z,H3,I3,r3,k,e,q3⟩=>?_)) hm
 subst e;cases r3;refine CA ?_;cases k with
 |false=>exact ite_ff ⟨.bl Ad,H3,I3,rfl,q3⟩
 |true=>exact ite_tt (chain_last (thn (hc pI s3 σ H3 _ I3 q3) fun w' s4 ⟨z',H4,I4,r4,q4⟩=>ho' pI s4 σ H4 y z' u w' Q I4 r2 r4 q4))
theorem gB{op':C9}{r':R2}(ho:OpR X (Cz op) r)(ho':OpR X (Cz op') r')(ha:PE X a ta)(hb:PE X b tb)(hc:PE X c tc)(hm:Jq [op,op'] [b,c]=Ad:=by with_unfolding_all rfl):PT X (.Compare a [op,op'] [b,c] pos) (W7 (WE r r' ta tb tc)):=by
 intro pI s σ H Q I h;refine isTrue_chain (thn (ha pI s σ H _ I h) fun v s1 ⟨x,H1,I1,r1,q1⟩=>test_link (thn (hb pI s1 σ H1 _ I1 q1) fun u s2 ⟨y,H2,I2,r2,q2⟩=>
  thn (ho pI s2 σ H2 x y v u _ I2 r1 r2 q2) fun d s3 ⟨z,H3,I3,r3,k,e,q3⟩=>?_)) hm
 subst e;cases r3;refine CA ?_;cases k with
 |false=>
  obtain⟨k',e',q'⟩:=q3;cases e';exact ite_ff ⟨H3,I3,q'⟩
 |true=>
  refine ite_tt (test_last (thn (hc pI s3 σ H3 _ I3 q3) fun w' s4 ⟨z',H4,I4,r4,q4⟩=>thn (ho' pI s4 σ H4 y z' u w' _ I4 r2 r4 q4) fun d' s5 ⟨z2,H5,I5,r5,k2,e2,q5⟩=>?_))
  subst e2;cases r5;exact CA ⟨H5,I5,q5⟩
noncomputable def SN(K:Fg)(x:V)(H:Hp)(k:Ak):Prop:=
  match x with
  |.non=>k=Ad
  |.bl b=>k=b
  |.int i=>k=(i != 0)
  |.str y=>y.length<=sizeLine/\k=((y.length:Af) != 0)
  |.byt y=>y.size<=sizeLine/\k=((y.size:Af) != 0)
  |.ref p=>(∃ xs,SqL K H p xs/\k=!xs.isEmpty)\/(∃ xs,SqT K H p xs/\k=!xs.isEmpty)\/∃ kvs,H p=Aa (.dK kvs)/\k=!kvs.isEmpty
  |_=>AX
theorem eB{κ:Type}{kvs:Ac (κ×V)}{vs:Ac (κ×Al)}(r:KV kvs vs):(!vs.isEmpty)=!kvs.isEmpty:=by
 cases r<;>rfl
theorem Tl{its:Ac Al}(r:A7 xs its):(!its.toArray.isEmpty)=!xs.isEmpty:=by
 cases r<;>simp
theorem Km:(sizeLine:Ag)<2 ^ 63:=by rw[Dl];decide
theorem rH:cB X (fun x H Q=>∃ k,SN X.K x H k/\Q k H):=by
 intro pI s σ H x v Q I rx h;obtain⟨k,e,q⟩:=h;have hl:=Km;have hs:sizeLine=16777216:=Dl;cases x with
 |non=>
  cases rx;have e':k=Ad:=e;subst e';exact truthy_none ⟨H,I,q⟩
 |bl b=>
  cases rx;have e':k=b:=e;subst e';exact CA ⟨H,I,q⟩
 |int i=>
  obtain⟨t,rfl⟩:=rx;have e':k=(i != 0):=e;subst e';exact PySem.P.truthy_int ⟨H,I,q⟩
 |str y=>
  obtain⟨t,rfl⟩:=rx;obtain⟨hy,e'⟩:y.length<=sizeLine/\k=((y.length:Af) != 0):=e;subst e';exact PySem.P.truthy_str (by omega) ⟨H,I.tok _,q⟩
 |byt y=>
  obtain⟨t,rfl⟩:=rx;obtain⟨hy,e'⟩:y.size<=sizeLine/\k=((y.size:Af) != 0):=e;subst e';exact PySem.W.truthy_bytes (by omega) ⟨H,I.tok _,q⟩
 |ref p=>
  cases rx;have e':(∃ xs,SqL X.K H p xs/\k=!xs.isEmpty)\/(∃ xs,SqT X.K H p xs/\k=!xs.isEmpty)\/∃ kvs,H p=Aa (.dK kvs)/\k=!kvs.isEmpty:=e;rcases e' with ⟨xs,hx,e'⟩|⟨xs,hx,e'⟩|⟨kvs,hx,e'⟩
  ·subst e';obtain⟨its,r,pl,hz⟩:=I.list hx;have hlen:=r.length;exact wpAny_truthy_list pl.isList (by simp only[AC];omega) ⟨H,I.tok _,by rw[Tl r];exact q⟩
  ·subst e';obtain⟨its,r,pl,hz⟩:=I.tuple hx;have hlen:=r.length;exact truthy_tuple pl (by simp only[AC];omega) ⟨H,I.tok _,by rw[Tl r];exact q⟩
  ·subst e';obtain⟨hz,hS,vs,r,m⟩:kvs.length<=sizeLine/\(p==KJ)=Ad/\∃ vs,KV kvs vs/\s.heap.DictOf (Qn X.prog X.w) p vs:=I.hok p _ hx;have hlen:kvs.length=vs.length:=Zw r;exact wpAny_truthy_dict hS m (by omega) ⟨H,I.tok _,by rw[eB r];exact q⟩
 |_=>exact(show AX from e).elim
theorem gA(ha:PE X a ta)(he:∀ whole,Iu a X.env whole=(do let v <-whole;Hq a.pos;holding [v] (truthy v))):PT X a (fun σ H Q=>ta σ H fun x H'=>∃ k,SN X.K x H' k/\Q k H'):=by
 intro pI s σ H Q I h;exact isTrue_plain (thn (ha pI s σ H _ I h) fun v s1 ⟨x,H1,I1,r1,q1⟩=>rH pI s1 σ H1 x v Q I1 r1 q1) (he _)
theorem dW:OpR X (B7 .Add) (fun x y H Q=>∃ i j,x=.str i/\y=.str j/\i.length+j.length<=sizeLine/\Q (.str (i++j)) H):=by
 intro pI s σ H x y v u Q I rx ry h;obtain⟨i,j,rfl,rfl,hz,q⟩:=h;obtain⟨t,rfl⟩:=rx;obtain⟨t',rfl⟩:=ry;exact add_str (fun t' tk=>⟨.str (i++j),H,I.tok _,⟨_,rfl⟩,q⟩) hz
theorem Hd{x:V}(r:A7 [x] us):∃ u,us=[u]/\BB x u:=by
 cases r with
 |cons r1 r2=>cases r2;exact⟨_,rfl,r1⟩
theorem LH{x y:V}(r:A7 [x,y] us):∃ u w',us=[u,w']/\BB x u/\BB y w':=by
 cases r with
 |cons r1 r2=>
  cases r2 with
  |cons r3 r4=>cases r4;exact⟨_,_,rfl,r1,r3⟩
theorem fG(hc:X.calm=Ab):HI X (.builtin "min") (fun xs H Q=>∃ i j,xs=[.int i,.int j]/\Q (.int (if j<i then j else i)) H):=by
 intro pI s σ H xs us Q I r h;obtain⟨i,j,rfl,q⟩:=h;obtain⟨u,w',rfl,⟨t,rfl⟩,⟨t',rfl⟩⟩:=LH r;refine min_two_ints (I.ok.hd hc) fun h' tk k=>⟨_,H,I.kept k,?_,q⟩
 by_cases hj:j<i
 ·rw[AA hj,AA hj];exact⟨_,rfl⟩
 ·rw[AH hj,AH hj];exact⟨_,rfl⟩
theorem TM:HI X (.type "int") (fun xs H Q=>(∃ i,xs=[.int i]/\Q (.int i) H)\/∃ k,xs=[.bl k]/\Q (.int (if k then 1 else 0)) H):=by
 intro pI s σ H xs us Q I r h;rcases h with ⟨i,rfl,q⟩|⟨k,rfl,q⟩
 ·obtain⟨u,rfl,t,rfl⟩:=Hd r;exact call_int_int ⟨.int i,H,I,⟨_,rfl⟩,q⟩
 ·obtain⟨u,rfl,r1⟩:=Hd r;cases r1;exact call_int_bool ⟨.int (if k then 1 else 0),H,I.tok _,⟨_,rfl⟩,q⟩
end
section
variable{prog:AO}{w:A4}{A:A2}{E:Vq}{s:Ar}{K:Fg}{x dx C f:Am}{mA:Ai->Ap Al}{name:Ai}{v:Al}
end
theorem M8.some_of{o:Ap Al}(r:M8 (Aa v) o):∃ u,o=Aa u/\BB v u:=by
 cases o with
 |none=>exact(show AX from r).elim
 |some u=>exact⟨u,rfl,r⟩
theorem fJ(r:BB v u):PySem.W.handedIn u=Ab:=by
 cases v with
 |non=>cases (show u=DE from r);rfl
 |bl b=>cases (show u=KD b from r);rfl
 |int i=>obtain⟨t,e⟩:=(show ∃ t,u=L8 i t from r);cases e;rfl
 |str x=>obtain⟨t,e⟩:=(show ∃ t,u=L9 x t from r);cases e;rfl
 |byt b=>obtain⟨t,e⟩:=(show ∃ t,u=ZM b t from r);cases e;rfl
 |flt b=>obtain⟨t,e⟩:=(show ∃ t,u=ZN b t from r);cases e;rfl
 |ref a=>cases (show u=Co a from r);rfl
 |ty n=>cases (show u=KG n from r);rfl
section
variable{P:AO}{w:A4}{H H':Hp}{h h':AF}{a C dx:Am}{fs fs':Ac (Ai×V)}
end
section
variable{X:Cx}{pI:Pn}{σ:St}{H:Hp}{s:Ar}{a C dx:Am}{fs:Ac (Ai×V)}{f:Ai}{v:V}{A:A2}{E:Vq}
theorem oX{prog:AO}{w:A4}{env:B9}{f:Ai}{Q:Vq}(hb:Eg e f env (eval e env)=eval e env)(h:Ax (model prog w) A (eval e env) (fun o s₁=>Ax (model prog w) A (getAttr o f Ab) Q E s₁) E s):Ax (model prog w) A (eval (.Attribute e f pos) env) Q E s:=
 Attribute_any_ h (by rw[arm_eval_Attribute,hb])
end
section
variable{X:Cx}{o e value:An}{f:Ai}{pos pos' tpos:AG}{ta tv:TE}
end
section
variable{X:Cx}{pI:Pn}{σ:St}{H:Hp}{s:Ar}{A:A2}{E:Vq}{Q:Vq}{c:Al}{b:Ak}
end
structure Room (k:Ag) (A:A2):Prop where
 hd:A.handled=Ae
 dp:A.depth+3*k+5<GH
 un:A.units+16*k+200<B4
 gd:A.guards=Aa []
theorem Room.mono{j:Ag}{A:A2}(r:Room k A)(h:j<=k):Room j A:=⟨r.hd,by have:=r.dp;omega,by have:=r.un;omega,r.gd⟩
theorem Room.deeper{A:A2}(r:Room (k+1) A)(env:B9):Room k (A.deeper env):=
 ⟨r.hd,by have:=r.dp;show A.depth+1+3*k+5<_;omega,by have:=r.un;show A.units+3+16*k+200<_;omega,r.gd⟩
theorem dZ{A:A2}{C:Am}:(A.under (.builtin "type.__call__" ⟨.ref C::us,kw⟩)).depth=A.depth+1:=by
 first|rfl|simp[Ji,Code.weight,Code.isCreation,Code.isGuard,Code.isCaller,YL,Jj,guardIds]
theorem dY{A:A2}{C:Am}:(A.under (.builtin "type.__call__" ⟨.ref C::us,kw⟩)).units=A.units+1:=by
 first|rfl|simp[Ji,Code.cUnits,YL,Jj]
theorem Room.depth{A:A2}(r:Room k A):A.depth<GH:=by have:=r.dp;omega
theorem Room.units{A:A2}(r:Room k A):A.units+64<B4:=by have:=r.un;omega
def aO:TA:=fun _ H Q=>Q [] H
def xA(ta:TE)(tr:TA):TA:=fun σ H Q=>ta σ H fun x H1=>tr σ H1 fun xs H2=>Q (x::xs) H2
section
variable{X:Cx}{e:An}{es:Ac An}{te:TE}{t:TA}{pos:AG}
theorem E7:PA X [] aO:=fun _ _ _ _ H Q I h=>FK ⟨[],H,I,.nil,h⟩
theorem DC(ha:PE X e te)(hr:PA X es t)(hs:Av (e::es) X.env=(Ad,eval e X.env)::Av es X.env:=by rfl):PA X (e::es) (xA te t):=by
 intro pos pI s σ H Q I h;rw[hs];show Ax _ _ (spliced ((Ad,eval e X.env)::BN pos (Av es X.env))) _ _ s;refine GX (thn (ha pI s σ H _ I h) fun u s1 ⟨x,H1,I1,r1,q1⟩=>?_)
 exact thn (hr pos pI s1 σ H1 _ I1 q1) fun us s2 ⟨xs,H2,I2,r2,q2⟩=>⟨x::xs,H2,I2,.cons r1 r2,q2⟩
def aX(t:TA):TE:=fun σ H Q=>t σ H fun xs H1=>xs.length<=sizeLine/\∀ p,H1 p=Ae->Q (.ref p) (upd H1 p (.tup xs))
def aP(t:TA):TE:=fun σ H Q=>t σ H fun xs H1=>xs.length<=sizeLine/\∀ p,H1 p=Ae->Q (.ref p) (upd H1 p (.lst xs))
theorem Wc{x1}(h:PA X es t):PE X (.Tuple es x1 pos) (aX t):=by
 intro pI s σ H Q I hq;refine wpAny_Tuple_spliced (thn (h pos pI s σ H _ I hq) fun us s1 ⟨xs,H1,I1,r,z,q⟩=>⟨by rw[<-r.length];exact z,?_⟩)
 have hf:H1 s1.heap.objs.size=Ae:=I1.hok.fresh (AW _);refine⟨.ref s1.heap.objs.size,upd H1 s1.heap.objs.size (.tup xs),I1.laid (t':=s1.toks) (fun b u e=>As _ e) (AW _) ?_,rfl,q _ hf⟩
 exact⟨z,us,r,⟨_,AK _ rfl,rfl,_,rfl⟩⟩
theorem rZ(h:PA X es t):PE X (.List es pos) (aP t):=by
 intro pI s σ H Q I hq;refine wpAny_List_spliced (thn (h pos pI s σ H _ I hq) fun us s1 ⟨xs,H1,I1,r,z,q⟩=>⟨by rw[<-r.length];exact z,?_⟩)
 have hf:H1 s1.heap.objs.size=Ae:=I1.hok.fresh (AW _);refine⟨.ref s1.heap.objs.size,upd H1 s1.heap.objs.size (.lst xs),I1.laid (t':=s1.toks) (fun b u e=>As _ e) (AW _) ?_,rfl,q _ hf⟩
 exact⟨z,us,0,r,AK _ rfl⟩
end
abbrev Sp:=Ac V->Hp->VK->XK->Prop
variable{sp:Sp}
abbrev CXT:=Ac B9->Hp->Ar->XK->Al->Ar->Prop
variable{CX:CXT}
structure Env0 (P:AO) (w:A4) (K:Fg) (mg:Ai->Ap Al) (base:AF) (A:A2) (outer:Ac B9) (s:Ar) (H:Hp):Prop where
 frames:A.frames=Aa outer
 mod:Mod K mg base
 bs:∀ b o,base.get? b=Aa o->s.heap.get? b=Aa o/\H b=Ae
 bsz:base.objs.size<=s.heap.objs.size
 funs:s.heap.FunFrames base outer
 frf:∀ b∈frs outer,H b=Ae
 hok:HOk P w H s.heap
 bare:FD s.gens
noncomputable def CE(outer:Ac B9)(P:AO)(w:A4)(H:Hp)(s:Ar)(Q:VK)(u:Al)(s':Ar):Prop:=
 ∃ v H',s'.os=s.os/\FD s'.gens/\Un (frs outer) [] H H' s.heap s'.heap/\HOk P w H' s'.heap/\BB v u/\Q v H'
noncomputable def CR(CX:CXT)(outer:Ac B9)(P:AO)(w:A4)(H:Hp)(s:Ar)(Q:VK)(E:XK)(r:Jk)(s':Ar):Prop:=
  match r with
  |.ok (.ret u)=>CE outer P w H s Q u s'
  |.ok _=>AX
  |.error e=>CX outer H s E e s'
structure FnOk (P:AO) (w:A4) (K:Fg) (mg:Ai->Ap Al) (base:AF) (CX:CXT) (k:Ag) (f:Am) (fd:BL) (ps:Ac Ai) (sp:Sp):Prop where
 len:∀ vs H Q E,sp vs H Q E->vs.length=ps.length
 run:∀(A:A2)(outer:Ac B9)(s:Ar)(H:Hp)(args:Args)(us:Ac Al)(vs:Ac V)(Q:VK)(E:XK),Room k A->Env0 P w K mg base A outer s H->Gd s fd args (ps.zip us)->A7 vs us->sp vs H Q E ->
  FE (model P w) A (.call (.ref f) args) (CR CX outer P w H s Q E) s
theorem FnOk.imp{w:A4}{K:Fg}{mg:Ai->Ap Al}{base:AF}{f:Am}{sp':Sp}(F:FnOk P w K mg base CX k f fd ps sp)(h:∀ vs H Q E,sp' vs H Q E->sp vs H Q E):FnOk P w K mg base CX k f fd ps sp':=
 ⟨fun vs H Q E q=>F.len vs H Q E (h _ _ _ _ q),fun A outer s H args us vs Q E hr he hb hv hs=>F.run A outer s H args us vs Q E hr he hb hv (h _ _ _ _ hs)⟩
theorem Env0.make{w:A4}{K:Fg}{mg:Ai->Ap Al}{base:AF}{A:A2}{outer:Ac B9}(e:Env0 P w K mg base A outer s H)(C:Am)(us:Ac Al)(kw:Ac (Ai×Al)):
    Env0 P w K mg base (A.under (.builtin "type.__call__" ⟨.ref C::us,kw⟩)) outer s H:=⟨by first|exact e.frames|(simpa [Ji,Code.envs,Jj,pushEnvs] using e.frames),e.mod,e.bs,e.bsz,e.funs,e.frf,e.hok,e.bare⟩
section
variable{X:Cx}{pI:Pn}{σ:St}{H:Hp}{s s':Ar}
theorem Inv.env0(I:Inv X pI σ H s):Env0 X.prog X.w X.K X.mg X.base X.A X.stack s H:=
 ⟨I.ok.frames,I.ok.mod,I.bs,Ct I.ok.bsz I.sz,I.stack,I.stkFree,I.hok,I.bare⟩
theorem Inv.after{Q:VK}(I:Inv X pI σ H s)(h:CE X.stack X.prog X.w H s Q u s'):EP X pI σ Q u s':=by
 obtain⟨v,H',os,bare,un,hok,r,q⟩:=h;obtain⟨hh,g,d,t,os'⟩:=s';obtain rfl:os'=s.os:=os;exact⟨v,H',I.call (h':=hh) (g':=g) (d':=d) (t':=t) (ch:=[]) un hok bare (fun b z=>absurd z (by simp)),r,q⟩
end
def xB(sp:Sp)(dvs:Ac V)(E:XK)(t:TA):TE:=fun σ H Q=>t σ H fun vs H1=>sp (vs++dvs) H1 Q E
noncomputable def FP(K:Fg)(fd:BL)(ps:Ac Ai)(ds:Ac Al):Prop:=
 ∀(s:Ar)(us:Ac Al),K.In s.heap->(us++ds).length=ps.length->Gd s fd ⟨us,[]⟩ (ps.zip (us++ds))
theorem FP.all{K:Fg}(h:∀ us:Ac Al,us.length=ps.length->JU fd ⟨us,[]⟩=pure (ps.zip us)):FP K fd ps []:=fun s us _ hl=>by
 rw[Ck]at hl ⊢;exact .of_eq (h us hl)
def Lp(CX:CXT)(X:Cx)(E:XK):Prop:=∀(pI:Pn)(σ:St)(H:Hp)(s:Ar)(e:Al)(s':Ar),Inv X pI σ H s->CX X.stack H s E e s'->X.xe e s'
section
variable{X:Cx}{CX:CXT}{k:Ag}{f C:Am}{fd:BL}{ps:Ac Ai}{sp:Sp}{dvs:Ac V}{ds:Ac Al}{E:XK}{x m:Ai}{p pos apos:AG}{e o:An}{es:Ac An}{ta:TE}{t:TA}
theorem tX{Q:VK}(F:FnOk X.prog X.w X.K X.mg X.base CX k f fd ps sp)(hr:Room k X.A)(hb:FP X.K fd ps ds)(hd:A7 dvs ds)(hx:Lp CX X E)(I:Inv X pI σ H s)(r:A7 vs us)(h:sp (vs++dvs) H Q E):Ax (model X.prog X.w) X.A (call (.ref f) us) (EP X pI σ Q) X.xe s:=by
 have r2:A7 (vs++dvs) (us++ds):=r.append hd;have hl:(us++ds).length=ps.length:=by rw[<-r2.length];exact F.len _ _ _ _ h
 refine Gr (Ft (F.run X.A X.stack s H ⟨us,[]⟩ (us++ds) (vs++dvs) Q E hr I.env0 (hb s us I.kIn hl) r2 h) fun r s' hq=>?_)
 cases r with
 |error e=>exact hx pI σ H s e s' I hq
 |ok fl=>
  cases fl with
  |ret u=>exact I.after hq
  |next=>exact Ba hq
  |brk=>exact Ba hq
  |cont=>exact Ba hq
theorem U2(F:FnOk X.prog X.w X.K X.mg X.base CX k f fd ps sp)(hr:Room k X.A)(hg:Gl X x)(hm:X.mg x=Aa (.ref f))(hk:B1 X.K (.ref f)=Ab)(hb:FP X.K fd ps ds)(hd:A7 dvs ds)(hx:Lp CX X E)(ha:PA X (e::es) t)(hdb:(x==("__debug__" : Ai))=Ad:=by decide)(he:Av (e::es) X.env=(Ad,eval e X.env)::Av es X.env:=by rfl)(hpl:(BN pos (Av es X.env)).any (·.1)=Ad:=by rfl):PE X (.Call (.Name x p) (e::es) [] pos) (xB sp dvs E t):=by
 intro pI s σ H Q I h;refine Ek (Jw I hg hm ?_ hdb);refine GZ (h₀:=X.base) I.ok.mod.kin hk (thn (ha pos pI s σ H _ I h) fun us s1 ⟨vs,H1,I1,r,q⟩=>⟨I1.kIn,?_⟩) he hpl
 exact tX F hr hb hd hx I1 r q
end
section
variable{X:Cx}{CX:CXT}{k:Ag}{f C:Am}{fd:BL}{ps ks:Ac Ai}{sp:Sp}{E:XK}{x m:Ai}{p pos apos kpos:AG}{e o:An}{es:Ac An}{kws:Ac Ez}{te ta:TE}{t tk:TA}{nm:Ap Ai}
variable{g:Ac Al->Ac Al->Ac Al}{gV:Ac V->Ac V->Ac V}
end
structure FnScope (N P:Ac Ai) (sc:B5):Prop where
 kind:sc.kind=.function
 co:sc.isCoroutine=Ad
 gen:sc.isGenerator=Ad
 nd:N.Nodup
 pre:N.take P.length=P
 par:∀ x∈P,sc.names.lookup x=Aa .local\/sc.names.lookup x=Aa .cell
 nofree:∀ y∈sc.names,y.2≠.free
theorem TQ{kindOf:Ai->Ap D7}{x:Ai}:∀{binds:Ac (Ai×Al)}{m:Ai->Ap Al},(∀ v,(x,v)∉binds)->IB kindOf binds m x=m x
 |[],_,_=>rfl
 |(n,v)::r,m,h=>by
  unfold IB;rw[TQ fun w hw=>h w (Ay _ hw)]
  split
  ·have:x≠n:=by rintro rfl;exact h v AB
   simp[this]
  ·rfl
theorem TU{kindOf:Ai->Ap D7}{x:Ai}:∀{binds:Ac (Ai×Al)}{m:Ai->Ap Al},(∀ v,(x,v)∉binds)->IA kindOf binds m x=m x
 |[],_,_=>rfl
 |(n,v)::r,m,h=>by
  unfold IA;rw[TU fun w hw=>h w (Ay _ hw)]
  split
  ·rfl
  ·have:x≠n:=by rintro rfl;exact h v AB
   simp[this]
theorem TR{kindOf:Ai->Ap D7}{x:Ai}{v:Al}:∀{P:Ac Ai}{vs:Ac Al}{i:Ag}{m:Ai->Ap Al},P.Nodup->P[i]?=Aa x->vs[i]?=Aa v->kindOf x=Aa .local->IB kindOf (P.zip vs) m x=Aa v
 |[],_,_,_,_,h,_,_=>by simp at h
 |_::_,[],_,_,_,_,h,_=>by simp at h
 |p::P,w::vs,0,m,nd,h1,h2,hk=>by
  simp at h1 h2;subst h1;subst h2;show IB kindOf ((p,w)::P.zip vs) m p=_;unfold IB;rw[TQ fun v hv=>(BR.mp nd).1 (Gi hv).1,AA hk]
  simp
 |p::P,w::vs,i+1,m,nd,h1,h2,hk=>by
  show IB kindOf ((p,w)::P.zip vs) m x=_;unfold IB;exact TR (i:=i) (BR.mp nd).2 (by simpa using h1) (by simpa using h2) hk
theorem TV{kindOf:Ai->Ap D7}{x:Ai}{v:Al}:∀{P:Ac Ai}{vs:Ac Al}{i:Ag}{m:Ai->Ap Al},P.Nodup->P[i]?=Aa x->vs[i]?=Aa v->kindOf x≠Aa .local->IA kindOf (P.zip vs) m x=Aa v
 |[],_,_,_,_,h,_,_=>by simp at h
 |_::_,[],_,_,_,_,h,_=>by simp at h
 |p::P,w::vs,0,m,nd,h1,h2,hk=>by
  simp at h1 h2;subst h1;subst h2;show IA kindOf ((p,w)::P.zip vs) m p=_;unfold IA;rw[TU fun v hv=>(BR.mp nd).1 (Gi hv).1,AH hk]
  simp
 |p::P,w::vs,i+1,m,nd,h1,h2,hk=>by
  show IA kindOf ((p,w)::P.zip vs) m x=_;unfold IA;exact TV (i:=i) (BR.mp nd).2 (by simpa using h1) (by simpa using h2) hk
noncomputable def start(N:Ac Ai)(vs:Ac V):St:=vs.map Aa++GD (N.length-vs.length) Ae
noncomputable def EG(CX:CXT)(P:AO)(w:A4)(K:Fg)(mg:Ai->Ap Al)(base:AF)(N:Ac Ai)(qual:Ai)(scope:B5)(f:Am)(cd:Al)(A:A2)(outer:Ac B9)(s:Ar)(H:Hp)(E:XK):Cx where
 prog:=P
 w:=w
 K:=K
 mg:=mg
 base:=base
 A:=A.deeper (Ev qual scope s.heap.objs.size f cd)
 N:=N
 s₀:=s
 H₀:=H
 env:=Ev qual scope s.heap.objs.size f cd
 outer:=outer
 stack:=Ev qual scope s.heap.objs.size f cd::outer
 ex:=[]
 calm:=Ab
 fn:=fun _=>Ab
 pn:=[]
 xe:=fun e s'=>Ax (model P w) (A.deeper (Ev qual scope s.heap.objs.size f cd)) (leaving (Ev qual scope s.heap.objs.size f cd) e) (fun _ s''=>CX outer H s E e s'') (fun e' s''=>CX outer H s E e' s'') s'
theorem UY{sc:B5}(h:sc.names.lookup x=Aa .cell):∃ c,(CN n sc.names []).lookup x=Aa c:=by
 have q:=FX sc.names n [] (.inl h);exact Do.mp q
theorem PM{w:A4}{K:Fg}{mg:Ai->Ap Al}{base:AF}{N ps:Ac Ai}{f:Am}{cd:Al}{A:A2}{outer:Ac B9}{s1:Ar}{E:XK}(S:FnScope N ps scope)(hd:A.handled=Ae)(e0:Env0 P w K mg base A outer s H)(hl:vs.length=ps.length)(r:A7 vs us)(x:InCallC s s.heap.objs.size (IB (Ev qual scope s.heap.objs.size f cd).kindOf (ps.zip us) fun _=>Ae) (CN (s.heap.objs.size+1) scope.names []) (IA (Ev qual scope s.heap.objs.size f cd).kindOf (ps.zip us) fun _=>Ae) s1):Inv (EG CX P w K mg base N qual scope f cd A outer s H E) [] (start N vs) H s1:=by
 have hpl:ps.length<=N.length:=by have:=congrArg Yg S.pre;rw[F3]at this;omega
 obtain⟨h1,tk,rfl,hk⟩:=x.done;have noA:∀ b:Am,b∉(EG CX P w K mg base N qual scope f cd A outer s H E).ex:=fun b z=>absurd (show b∈([]:Ac Am) from z) (by simp)
 refine⟨⟨e0.mod,S.kind,rfl,rfl,AW _,fun y z c h1 h2=>?_,fun y hy=>?_,fun y c _ h=>?_,fun _=>hd,Around.frames_deeper e0.frames,.inr ⟨rfl,rfl⟩,fun b z=>absurd z (noA b),e0.bs,e0.bsz,fun b _ _=>noA b,fun b z=>absurd z (noA b),e0.funs,e0.frf⟩,
  rfl,e0.bare,Un.kept hk,⟨_,x.toInCall.ns,fun i y v h1 h2 h3=>?_⟩,fun y c h=>⟨_,x.cell y c h⟩,e0.hok.fresh (AW _),fun y c h=>?_,fun p hp=>absurd (show p∈([]:Pn) from hp) (by simp),e0.hok.kept hk,?_⟩
 ·exact name_of_addr x.apart (CB h1) (CB h2)
 ·have hy:scope.names.lookup y=Aa .cell\/scope.names.lookup y=Aa .free:=hy;rcases hy with hy|hy
  ·exact UY hy
  ·exact absurd rfl (S.nofree _ (CB hy))
 ·exact Gj (x.above y c (CB h))
 ·have hi:i<vs.length:=by
   unfold start at h2;by_cases hi:i<vs.length
   ·exact hi
   ·rw[X9 (by simpa using hi)]at h2
    rw[Yd]at h2;split at h2<;>cases h2
  have ha:vs[i]?=Aa v:=by
   unfold start at h2;rw[Fe (by simpa using hi),CT]at h2
   cases e:vs[i]? with
   |none=>rw[e]at h2;cases h2
   |some a=>rw[e]at h2;cases h2;rfl
  obtain⟨u,hu,rv⟩:=r.get ha;have hp:ps[i]?=Aa y:=by
   rw[<-S.pre,List.getElem?_take_of_lt (by omega)];exact h1
  have ndP:ps.Nodup:=by rw[<-S.pre];exact S.nd.sublist (List.take_sublist _ _)
  refine⟨u,rv,?_⟩;rcases S.par y (Gh hp) with k|k
  ·exact .inl ⟨k,TR ndP hp hu k⟩
  ·obtain⟨c,e⟩:=UY (n:=s.heap.objs.size+1) k;refine .inr ⟨.inl k,c,e,?_⟩;have q:=x.cell y c e;rw[TV ndP hp hu (by show scope.names.lookup y≠_;rw[k];decide)]at q
   exact q
 ·exact e0.hok.fresh (Gj (x.above y c (CB h)))
 ·unfold start;show _=N.length;rw[CK,Bh,Yj];omega
theorem Xk{w:A4}{K:Fg}{mg:Ai->Ap Al}{base:AF}{f:Am}{name:Ai}{params:LZ}{dV kV doc pm cdv ct oc:Al}{an od:Ap Am}{osl:Be (Ap Al)}{N ps:Ac Ai}(lk:K.lookup f=Aa ⟨oc,od,.func (Cu name qual params body scope dV kV doc pm an cdv ct),osl⟩)(hcd:DW K cdv qual=Ab)(S:FnScope N ps scope)(len:∀ vs H Q E,sp vs H Q E->vs.length=ps.length)(hbody:∀(A:A2)(outer:Ac B9)(s:Ar)(H:Hp)(vs:Ac V)(Q:VK)(E:XK),Room k (A.deeper (Ev qual scope s.heap.objs.size f cdv))->sp vs H Q E ->
   ∃ t,PSs (EG CX P w K mg base N qual scope f cdv A outer s H E) body t/\t {nx:=fun _ H'=>Q .non H',rt:=Q} (start N vs) H):FnOk P w K mg base CX (k+1) f (Cu name qual params body scope dV kV doc pm an cdv ct) ps sp:=by
 refine⟨len,fun A outer s H args us vs Q E hr e0 hb r hsp=>?_⟩
 have hl:=len _ _ _ _ hsp;have KX:K.In s.heap:=e0.mod.kin.keeps fun b o e=>(e0.bs b o e).1
 have lim:s.heap.NoLimit:=e0.mod.nolimit.keeps fun b o e=>(e0.bs b o e).1
 have hkind:∀ y∈ps.zip us,scope.names.lookup y.1=Aa .local\/(scope.names.lookup y.1=Aa .cell/\((CN (s.heap.objs.size+1) scope.names []).lookup y.1).isSome=Ab):=fun ⟨n,v⟩ hy=>by
  rcases S.par n (Gi hy).1 with q|q
  ·exact .inl q
  ·exact .inr ⟨q,FX _ _ _ (.inl q)⟩
 refine Ge hr.depth (KX _ _ lk) rfl S.co S.gen rfl (G0 KX hcd) (hb _ _ _ _ ?_);refine EY S.kind hkind fun env he s1 x=>?_
 subst he;refine⟨lim.keeps x.toInCall.keep,Jo ?_⟩;obtain⟨t,ht,hq⟩:=hbody A outer s H vs Q E (hr.deeper _) hsp;have I:Inv (EG CX P w K mg base N qual scope f cdv A outer s H E) [] (start N vs) H s1:=PM S hr.hd e0 hl r x;refine Bf (ht [] s1 (start N vs) H _ I hq) (fun fl s' hs=>?_) fun e s' hs=>hs
 have fin:∀{σ':St}{H':Hp}{v:V}{u:Al},Inv (EG CX P w K mg base N qual scope f cdv A outer s H E) [] σ' H' s'->BB v u->Q v H'->CE outer P w H s Q u s':=
  fun {σ' H' v u} J rv q=>⟨v,H',J.os,J.bare,J.base,J.hok,rv,q⟩
 cases fl with
 |ret u=>
  obtain⟨v,σ',H',J,rv,q⟩:=hs;exact fin J rv q
 |next=>
  obtain⟨σ',H',J,q⟩:=hs;exact fin (v:=V.non) (u:=DE) J rfl q
 |brk=>
  obtain⟨_,_,_,q⟩:=hs;exact Ba q
 |cont=>
  obtain⟨_,_,_,q⟩:=hs;exact Ba q
section
variable{X:Cx}{x:Ai}{p pos:AG}{e:An}{es:Ac An}{t:TA}{id T:C5}{r:Ac V->Hp->VK->Prop}
def tCB(r:Ac V->Hp->VK->Prop)(t:TA):TE:=fun σ H Q=>t σ H fun vs H1=>r vs H1 Q
theorem Mp(hc:HI X (.builtin id) r)(hg:Gl X x)(hm:X.mg x=Ae)(hv:C4 x=Aa (.builtin id))(ha:PA X (e::es) t)(hn:x≠"__name__" := by decide)(hdb:(x==("__debug__" : Ai))=Ad:=by decide)(he:Av (e::es) X.env=(Ad,eval e X.env)::Av es X.env:=by rfl)(hpl:(BN pos (Av es X.env)).any (·.1)=Ad:=by rfl):PE X (.Call (.Name x p) (e::es) [] pos) (tCB r t):=by
 intro pI s σ H Q I h;refine Ek (HG I hg hm hv ?_ hn hdb);exact YB (thn (ha pos pI s σ H _ I h) fun us s1 ⟨vs,H1,I1,r1,q1⟩=>hc pI s1 σ H1 vs us Q I1 r1 q1) he hpl
theorem Tw(hc:HI X (.type T) r)(hg:Gl X x)(hm:X.mg x=Ae)(hv:C4 x=Aa (.type T))(ha:PA X (e::es) t)(hn:x≠"__name__" := by decide)(hdb:(x==("__debug__" : Ai))=Ad:=by decide)(he:Av (e::es) X.env=(Ad,eval e X.env)::Av es X.env:=by rfl)(hpl:(BN pos (Av es X.env)).any (·.1)=Ad:=by rfl):PE X (.Call (.Name x p) (e::es) [] pos) (tCB r t):=by
 intro pI s σ H Q I h;refine Ek (HG I hg hm hv ?_ hn hdb);exact BO (thn (ha pos pI s σ H _ I h) fun us s1 ⟨vs,H1,I1,r1,q1⟩=>hc pI s1 σ H1 vs us Q I1 r1 q1) he hpl
end
end L2
namespace HT
open PySem PyProof.Rows
variable{sl:Am}
section
open PySem.SeqAt
open PySem.AutoSeq1 (wpAny_loadPart')
open PySem.MeetsSeq PySem.MeetsSeq2 PySem.MeetsSeq3
end
section
variable{prog:AO}{w:A4}{A:A2}{E:Vq}{s:Ar}
theorem cat_tup{t b:Am}{vs ws:Ac Al}{Q:Vq}(ht:Ky s.heap t vs.toArray)(hb:Ky s.heap b ws.toArray)(hv:vs≠[])(h1:ws=[]->Q (.ref t) s)(h2:ws≠[]->Q (.ref s.heap.objs.size) { s with heap:=s.heap.push { cls:=.type "tuple", data:=.seq (vs++ws).toArray } })(hsz:vs.length+ws.length<=sizeLine):Ax (model prog w) A (B7 .Add (.ref t) (.ref b)) Q E s:=by
 obtain⟨⟨cls,dd,data,sl⟩,ho,hc,n,hd⟩:=id ht;obtain⟨⟨cls2,dd2,data2,sl2⟩,ho2,hc2,n2,hd2⟩:=id hb;simp only at hc hd hc2 hd2;subst hc hd hc2 hd2;have e:vs.toArray++ws.toArray=(vs++ws).toArray:=by simp
 by_cases hw:ws=[]
 ·exact Jp ⟨_,ho,rfl⟩ ⟨_,ho2,rfl⟩ Z2 seq_tuple_add Zm Zi (Ze _ _)
   (tuple_addW1 t b vs.toArray ws.toArray n n2 dd dd2 sl sl2 (by simpa using hv) (by simp[hw])) ⟨ho,ho2,h1 hw⟩
 ·refine Jp ⟨_,ho,rfl⟩ ⟨_,ho2,rfl⟩ Z2 seq_tuple_add Zm Zi (Ze _ _)
   (tuple_addW2 t b vs.toArray ws.toArray n n2 dd dd2 sl sl2 (by simpa using hv) (by simpa using hw) (by rw[AC,AC];exact hsz)) ⟨ho,ho2,?_⟩
  rw[e];exact h2 hw
noncomputable def sIx(n d:Ag):Ap Af->Ag
 |none=>d
 |some v=>if v<0 then (v+(n:Af)).toNat else min v.toNat n
theorem tS(n d:Ag)(hd:d<=n)(o:Ap Af):sIx n d o<=n:=by
 cases o with
 |none=>exact hd
 |some v=>
  show (if v<0 then (v+(n:Af)).toNat else min v.toNat n)<=n
  by_cases hv:v<0
  ·rw[AA hv];omega
  ·rw[AH hv];exact Nat.min_le_right _ _
theorem Vy(v:Af)(n d:Ag):(if v<0 then max (v+(n:Af)) 0 else min v (n:Af))=((sIx n d (Aa v):Ag):Af):=by
 show (if v<0 then max (v+(n:Af)) 0 else min v (n:Af))=(((if v<0 then (v+(n:Af)).toNat else min v.toNat n):Ag):Af)
 by_cases hv:v<0
 ·simp only[AA hv];omega
 ·simp only[AH hv];omega
theorem eG(lo hi:Ap Af)(n:Ag):Fh lo hi 1 (n:Af)=(((sIx n 0 lo:Ag):Af),((sIx n n hi:Ag):Af)):=by
 have h1:¬ ((1:Af)<0):=by omega
 unfold Fh;simp only[h1,HR];refine BF ?_ ?_
 ·cases lo with
  |none=>rfl
  |some v=>exact Vy v n 0
 ·cases hi with
  |none=>rfl
  |some v=>exact Vy v n n
theorem dU(i j:Ag):DQ (i:Af) (j:Af) 1=j-i:=by
 unfold DQ;have h1:(1:Af) > 0:=by omega
 simp only[h1,Eh,Int.ediv_one];split<;>omega
theorem Tj{v:Al}{o:Ap Af}{Q:Ap Af->Ar->Prop}(p:Hx v o)(h:Q o s):Ax (model prog w) A (Builtin.Slice.slicePartIndex v) Q E s:=by
 cases p with
 |none=>exact YC h
 |int i t=>exact slicePart_int h
theorem dC{vl vu:Al}{lo hi:Ap Af}{n:Ag}{Q:Af×Af×Ag->Ar->Prop}(hs:s.heap.IsSliceOf sl vl vu .none)(pl:Hx vl lo)(pu:Hx vu hi)(h:Q (((sIx n 0 lo:Ag):Af),1,sIx n n hi-sIx n 0 lo) s):Ax (model prog w) A (YH (.ref sl) (pure (n:Af))) Q E s:=by
 obtain⟨os,hos,hcs,hds⟩:=id hs;unfold YH Builtin.Slice.sliceFields;refine Ao (Ao (BS hos hds (x:=vl) rfl (Ao (BS hos hds (x:=vu) rfl (Ao (BS hos hds (x:=.none) rfl (AI ?_)))))));refine Ao (YC ?_);show Ax _ _ (if ((1:Af)==0)=Ab then _ else _) _ _ s
 rw[AH (by decide)]
 refine Ao (Tj pl (Ao (Tj pu (Ao (AI ?_)))));show Ax _ _ (match Fh lo hi 1 (n:Af) with|(lo,hi)=>pure (lo,(1:Af),DQ lo hi 1)) _ _ s
 rw[eG lo hi n];show Ax _ _ (pure (((sIx n 0 lo:Ag):Af),(1:Af),DQ ((sIx n 0 lo:Ag):Af) ((sIx n n hi:Ag):Af) 1)) _ _ s;rw[dU];exact AI h
theorem gE(xs:Be Al)(i k:Ag):((Bb k).filterMap fun(m:Ag)=>xs[((i:Af)+(m:Af)*1).toNat]?).toArray=((xs.toList.drop i).take k).toArray:=by
 have e:(fun(m:Ag)=>xs[((i:Af)+(m:Af)*1).toNat]?)=fun m=>xs[i+m]?:=by
  funext m
  have:((i:Af)+(m:Af)*1).toNat=i+m:=by omega
  rw[this]
 rw[e];have:=pick_run xs i k;rw[List.filterMap_map]at this;have e2:((fun x=>xs[x]?) ∘ fun x=>i+x)=fun m=>xs[i+m]?:=rfl
 rw[e2]at this;rw[this]
theorem getItem_tuple_cut{t:Am}{items:Be Al}{vl vu:Al}{lo hi:Ap Af}{Q:Vq}(ht:Ky s.heap t items)(hs:s.heap.IsSliceOf sl vl vu .none)(pl:Hx vl lo)(pu:Hx vu hi)(hw:¬ (sIx items.size 0 lo=0/\sIx items.size items.size hi=items.size))(h:Q (.ref s.heap.objs.size) { s with heap:=s.heap.push { cls:=.type "tuple", data:=.seq ((items.toList.drop (sIx items.size 0 lo)).take (sIx items.size items.size hi-sIx items.size 0 lo)).toArray } })(hsz:items.size<=sizeLine):Ax (model prog w) A (JL (.ref t) (.ref sl)) Q E s:=by
 have htake:sizeOk (.seq ((items.toList.drop (sIx items.size 0 lo)).take (sIx items.size items.size hi-sIx items.size 0 lo)).toArray):=by
  show ((items.toList.drop (sIx items.size 0 lo)).take (sIx items.size items.size hi-sIx items.size 0 lo)).toArray.size<=sizeLine;rw[AC,F3,F2,E1];omega
 have hj:sIx items.size items.size hi<=items.size:=tS _ _ (AW _) hi;obtain⟨os,hos,hcs,hds⟩:=id hs;have hTs:s.TypeIs (.ref sl) "slice" := ⟨os,hos,hcs⟩;unfold JL
 try with_reducible refine Ch ?_
 first|refine Ao (AI ?_)|skip
 refine Ao (wpAny_sequenceKey ht.typeIs (by decide) ?_)
 refine Ao (Dv (name:=AN "__getitem__") ht.typeIs YD
  (EJ YD ht.typeIs entry_tuple_getitem ?_ (args_tuple_getitem _ _)))
 show Ax _ _ (Builtin.Tuple.tupleItemsOf (.ref t) >>= _) _ _ s;refine Ao (tupleItemsOf_ ht ?_);refine Ao (wpAny_typeOf hTs ?_);rw[AA (by decide)]
 refine Ao (dC hs pl pu ?_);have hno:¬ ((((sIx items.size 0 lo:Ag):Af)==0&&(1:Af)==1&&(sIx items.size items.size hi-sIx items.size 0 lo)==items.size)=Ab):=by
  intro q;rw[Aj,Aj]at q;have q1:((sIx items.size 0 lo:Ag):Af)=0:=eq_of_beq q.1.1;have q2:sIx items.size items.size hi-sIx items.size 0 lo=items.size:=eq_of_beq q.2;exact hw ⟨by omega,by omega⟩
 show Ax _ _ (if (((sIx items.size 0 lo:Ag):Af)==0&&(1:Af)==1&&(sIx items.size items.size hi-sIx items.size 0 lo)==items.size)=Ab then _ else _) _ _ s
 rw[AH hno,gE]
 first
  |exact Ao (m:=D6 _) (CV (AI ⟨_,rfl,AI h⟩) htake)
  |exact Ao (m:=D6 _) (CV (Ao (AI (AI ⟨_,rfl,AI h⟩))) htake)
  |exact Ao (Ao (m:=D6 _) (CV (AI (AI ⟨_,rfl,AI h⟩)) htake))
  |exact Ao (Ao (m:=D6 _) (CV (AI ⟨_,rfl,AI h⟩) htake))
end
end HT
namespace L2
open PySem PySem.Spec PyProof.Rows
variable{xs:Ac V}{us its its':Ac Al}{n t':Ag}{i:Af}{pI:Pn}{σ:St}{H:Hp}{s:Ar}{p:Am}
abbrev TO:=St->Hp->(Ap Af->Hp->Prop)->Prop
noncomputable def PO(X:Cx)(e:Ap An)(t:TO):Prop:=
 ∀(pI:Pn)(s:Ar)(σ:St)(H:Hp)(Q:Ap Af->Hp->Prop),Inv X pI σ H s->t σ H Q ->
  Ax (model X.prog X.w) X.A (evalPart e X.env) (fun u s'=>∃ o H',Inv X pI σ H' s'/\Hx u o/\Q o H') X.xe s
def kR:TO:=fun _ H Q=>Q Ae H
def wV(t:TE):TO:=fun σ H Q=>t σ H fun x H1=>∃ i,x=.int i/\Q (Aa i) H1
section
variable{X:Cx}{e:An}{te:TE}{lo hi:Ap An}{tl th:TO}{pos p2:AG}
theorem oA:PO X Ae kR:=by
 intro pI s σ H Q I h;rw[evalPart_none];exact AI ⟨Ae,H,I,.none,h⟩
theorem nZ(h:PE X e te):PO X (Aa e) (wV te):=by
 intro pI s σ H Q I hw;rw[evalPart_some];refine thn (h pI s σ H _ I hw) fun u s1 ⟨x,H1,I1,r1,q1⟩=>?_
 obtain⟨i,rfl,q⟩:=q1;obtain⟨t,rfl⟩:=r1;exact⟨Aa i,H1,I1,.int i t,q⟩
noncomputable def SlR(X:Cx)(r:V->Ap Af->Ap Af->Hp->VK->Prop):Prop:=
 ∀(pI:Pn)(s:Ar)(σ:St)(H:Hp)(x:V)(v vl vu:Al)(lo hi:Ap Af)(sl:Am)(Q:VK),Inv X pI σ H s->BB x v->s.heap.IsSliceOf sl vl vu .none->Hx vl lo->Hx vu hi->r x lo hi H Q ->
  ∃ T id,typeLookup (.type T) "__getitem__" = pure (Aa (.builtin id))/\s.TypeIs v T/\Ax (model X.prog X.w) X.A (JL v (.ref sl)) (EP X pI σ Q) X.xe s
def tSl(r:V->Ap Af->Ap Af->Hp->VK->Prop)(te:TE)(tl th:TO):TE:=fun σ H Q=>te σ H fun x H1=>tl σ H1 fun l H2=>th σ H2 fun u H3=>r x l u H3 Q
theorem gG{r:V->Ap Af->Ap Af->Hp->VK->Prop}(hr:SlR X r)(he:PE X e te)(hl:PO X lo tl)(hu:PO X hi th):PE X (.Subscript e (.Slice lo hi Ae p2) pos) (tSl r te tl th):=by
 intro pI s σ H Q I h;refine Subscript_ (thn (he pI s σ H _ I h) fun v s1 ⟨x,H1,I1,r1,q1⟩=>?_)
 refine wpAny_Slice (thn (hl pI s1 σ H1 _ I1 q1) fun vl s2 ⟨l,H2,I2,pl,q2⟩=>thn (hu pI s2 σ H2 _ I2 q2) fun vu s3 ⟨u,H3,I3,pu,q3⟩=>?_)
 rw[evalPart_none];refine AI ?_;have I4:Inv X pI σ H3 { s3 with heap:=s3.heap.push { cls:=.type "slice", data:=.fields #[vl,vu,.none] } }:=I3.kept (t':=s3.toks) fun b ob q=>As _ q
 obtain⟨T,id,hT,ht,hg⟩:=hr pI { s3 with heap:=s3.heap.push { cls:=.type "slice", data:=.fields #[vl,vu,.none] } } σ H3 x v vl vu l u s3.heap.objs.size Q I4 r1 (Heap.IsSliceOf.new ..) pl pu q3
 show Ax (model X.prog X.w) X.A (subscriptTail e (.Slice lo hi Ae p2) v (.ref s3.heap.objs.size)) (EP X pI σ Q) X.xe { s3 with heap:=s3.heap.push { cls:=.type "slice", data:=.fields #[vl,vu,.none] } }
 exact tail_any (ops:=[.ref s3.heap.objs.size,v]) ht hT hg (by with_unfolding_all rfl)
noncomputable def JH(xs:Ac V)(lo hi:Ap Af):Ac V:=(xs.drop (HT.sIx xs.length 0 lo)).take (HT.sIx xs.length xs.length hi-HT.sIx xs.length 0 lo)
theorem Tn(xs:Ac V)(lo hi:Ap Af):(JH xs lo hi).length<=xs.length:=by
 unfold JH;rw[F3,F2];omega
def R4(K:Fg):V->Ap Af->Ap Af->Hp->VK->Prop:=fun x lo hi H Q=>∃ a xs,x=.ref a/\SqT K H a xs /\
 ¬ (HT.sIx xs.length 0 lo=0/\HT.sIx xs.length xs.length hi=xs.length)/\∀ p,H p=Ae->Q (.ref p) (upd H p (.tup (JH xs lo hi)))
theorem tF:SlR X (R4 X.K):=by
 intro pI s σ H x v vl vu lo hi sl Q I rx hs pl pu h;obtain⟨a,xs,rfl,hx,hw,q⟩:=h;cases rx;obtain⟨its,r,ht,hz⟩:=I.tuple hx;have hlen:its.toArray.size=xs.length:=by rw[AC];exact r.length.symm
 refine⟨"tuple", _,PyProof.Rows.slot_tuple_getitem.lookup,ht.typeIs,?_⟩;refine HT.getItem_tuple_cut ht hs pl pu (by rw[hlen];exact hw) ?_ (by rw[hlen];exact hz)
 rw[hlen];refine⟨.ref s.heap.objs.size,_,I.laid (t':=s.toks) (o:=.tup (JH xs lo hi)) (fun b ob q=>As _ q) (AW _) ?_,rfl,q _ (I.hok.fresh (AW _))⟩
 exact⟨Ct (Tn xs lo hi) hz,_,(r.drop (HT.sIx xs.length 0 lo)).take (HT.sIx xs.length xs.length hi-HT.sIx xs.length 0 lo),LY _ _⟩
def ac(K:Fg):R2:=fun x y H Q=>∃ a b xs ys,x=.ref a/\y=.ref b/\SqT K H a xs/\SqT K H b ys/\xs≠[]/\xs.length+ys.length<=sizeLine /\
 (ys=[]->Q (.ref a) H)/\(ys≠[]->∀ p,H p=Ae->Q (.ref p) (upd H p (.tup (xs++ys))))
theorem A7.nil_iff(r:A7 xs us):us=[]↔xs=[]:=by
 cases r with
 |nil=>simp
 |cons _ _=>simp
theorem oS:OpR X (B7 .Add) (ac X.K):=by
 intro pI s σ H x y v u Q I rx ry h;obtain⟨a,b,xs,ys,rfl,rfl,ha,hb,hx,hz,q1,q2⟩:=h;cases rx;cases ry;obtain⟨its,r1,p1,_⟩:=I.tuple ha;obtain⟨its2,r2,p2,_⟩:=I.tuple hb;refine HT.cat_tup p1 p2 (fun z=>hx (r1.nil_iff.mp z)) (fun z=>⟨.ref a,H,I,rfl,q1 (r2.nil_iff.mp z)⟩) (fun z=>?_) (by rw[<-r1.length,<-r2.length];exact hz)
 refine⟨.ref s.heap.objs.size,_,I.laid (t':=s.toks) (o:=.tup (xs++ys)) (fun b ob q=>As _ q) (AW _) ?_,rfl,q2 (fun w=>z (r2.nil_iff.mpr w)) _ (I.hok.fresh (AW _))⟩
 exact⟨by rw[CK];exact hz,_,r1.append r2,LY _ _⟩
end
noncomputable def ixN(n:Ag)(i:Af):Ap Ag:=if 0<=i then (if i<n then Aa i.toNat else Ae) else if -(n:Af)<=i then Aa (i+n).toNat else Ae
noncomputable def atI{α:Type}(xs:Ac α)(i:Af):Ap α:=(ixN xs.length i).bind fun j=>xs[j]?
theorem VS{j:Ag}(h:ixN n i=Aa j):G3 i n=Aa j/\j<n/\-(n:Af)<=i/\i<n:=by
 unfold ixN at h;by_cases h0:0<=i
 ·rw[AA h0]at h;by_cases h1:i<n
  ·rw[AA h1]at h;have e:i.toNat=j:=Bz h;exact⟨by rw[JQ h0 h1,e],by omega,by omega,h1⟩
  ·rw[AH h1]at h;cases h
 ·rw[AH h0]at h;by_cases h1:-(n:Af)<=i
  ·rw[AA h1]at h;have e:(i+n).toNat=j:=Bz h;exact⟨by rw[Jt (by omega) h1,e],by omega,h1,by omega⟩
  ·rw[AH h1]at h;cases h
theorem VW{α:Type}{xs:Ac α}{v:α}(h:atI xs i=Aa v):∃ j,G3 i xs.length=Aa j/\xs[j]?=Aa v/\j<xs.length/\-(xs.length:Af)<=i/\i<xs.length:=by
 unfold atI at h;cases e:ixN xs.length i with
 |none=>rw[e]at h;cases h
 |some j=>
  rw[e]at h;obtain⟨h1,h2,h3,h4⟩:=VS e;exact⟨j,h1,h,h2,h3,h4⟩
def QI(b:An):Prop:=∀ o i,subscripted b Ad o i=operate [o,i] (JL o i)
noncomputable def IxR(X:Cx)(r:R2):Prop:=
 ∀(value slice:An)(pI:Pn)(s:Ar)(σ:St)(H:Hp)(x y:V)(v u:Al)(Q:VK),Inv X pI σ H s->BB x v->BB y u->r x y H Q ->
  subscripted slice Ad v u=operate [v,u] (JL v u)->Ax (model X.prog X.w) X.A (subscriptTail value slice v u) (EP X pI σ Q) X.xe s
noncomputable def MtR(X:Cx)(id:C5)(r:V->Ac V->Hp->VK->Prop):Prop:=
 ∀(pI:Pn)(s:Ar)(σ:St)(H:Hp)(x:V)(xs:Ac V)(v:Al)(us:Ac Al)(Q:VK),Inv X pI σ H s->BB x v->A7 xs us->r x xs H Q ->
  Ax (model X.prog X.w) X.A (call (.builtin id) (v::us)) (EP X pI σ Q) X.xe s
section
variable{X:Cx}{a b:An}{ta tb:TE}{pos:AG}
theorem IxR.or{r r':R2}(h:IxR X r)(h':IxR X r'):IxR X (fun x y H Q=>r x y H Q\/r' x y H Q):=by
 intro value slice pI s σ H x y v u Q I rx ry q hs;rcases q with q|q
 ·exact h value slice pI s σ H x y v u Q I rx ry q hs
 ·exact h' value slice pI s σ H x y v u Q I rx ry q hs
theorem av{r:R2}(hr:IxR X r)(ha:PE X a ta)(hb:PE X b tb)(hs:QI b):PE X (.Subscript a b pos) (tOp r ta tb):=by
 intro pI s σ H Q I h;exact Subscript_ (RZ ha hb I h fun v u s2 x y H2 I2 rx ry q=>hr a b pI s2 σ H2 x y v u Q I2 rx ry q (hs _ _))
def R7(K:Fg):R2:=fun x y H Q=>∃ p xs i v,x=.ref p/\y=.int i/\SqL K H p xs/\atI xs i=Aa v/\Q v H
def R6(K:Fg):R2:=fun x y H Q=>∃ p xs i v,x=.ref p/\y=.int i/\SqT K H p xs/\atI xs i=Aa v/\Q v H
theorem mQ:IxR X (R7 X.K):=by
 intro value slice pI s σ H x y v u Q I rx ry h hs;obtain⟨p,xs,i,z,rfl,rfl,hq,he,q⟩:=h;cases rx;obtain⟨t,rfl⟩:=ry;obtain⟨its,r,pl,hz⟩:=I.list hq;obtain⟨j,h1,h2,h3,h4,h5⟩:=VW he;obtain⟨w,ew,rw'⟩:=r.get h2;have hl:=r.length;have hn:=Km;have fin:EP X pI σ Q w s:=⟨z,H,I,rw',q⟩;by_cases h0:0<=i
 ·have hj:i.toNat=j:=by
   rw[JQ h0 h5]at h1;exact Bz h1
  exact item_listR pl.isList h0 (by omega) (by rw[hj];simpa using ew) fin hs
 ·have hj:(i+(its.toArray.size:Af)).toNat=j:=by
   rw[Jt (by omega) h4]at h1
   rw[AC,<-hl];exact Bz h1
  exact YE (x:=w) pl.isList.typeIs Z5.lookup
   (wpAny_getItem_list_neg (Q:=fun r s'=>r=w/\EP X pI σ Q r s') pl.isList (by omega) (by rw[AC]<;>omega) (by omega) (by rw[hj];simpa using ew) ⟨rfl,fin⟩) hs
theorem uM:IxR X (R6 X.K):=by
 intro value slice pI s σ H x y v u Q I rx ry h hs;obtain⟨p,xs,i,z,rfl,rfl,hq,he,q⟩:=h;cases rx;obtain⟨t,rfl⟩:=ry;obtain⟨its,r,pl,hz⟩:=I.tuple hq;obtain⟨j,h1,h2,h3,h4,h5⟩:=VW he;obtain⟨w,ew,rw'⟩:=r.get h2;have hl:=r.length;have hn:=Km;have fin:EP X pI σ Q w s:=⟨z,H,I,rw',q⟩;exact YE (x:=w) pl.typeIs slot_tuple_getitem.lookup
  (getItem_tuple (j:=j) (Q:=fun r s'=>r=w/\EP X pI σ Q r s') pl (by omega) (by omega) (by rw[AC,<-hl];exact h1) (by simpa using ew) ⟨rfl,fin⟩) hs
theorem dX(its:Ac Al)(n j:Ag)(u:Al):Hl (·.setIfInBounds j u) { cls:=.type "list", data:=.seq its.toArray n }={ cls:=.type "list", data:=.seq (its.set j u).toArray n }:=by
 simp[Hl]
theorem Inv.lst(I:Inv X pI σ H s)(h:H p=Aa (.lst xs)):
  ∃(its:Ac Al)(n:Ag),A7 xs its/\s.heap.get? p=Aa { cls:=.type "list", data:=.seq its.toArray n }/\xs.length<=sizeLine:=by
 obtain⟨z,its,n,r,e⟩:=I.hok p _ h;exact⟨its,n,r,e,z⟩
theorem Inv.lstUpd{ys:Ac V}{n':Ag}{f:C3->C3}(I:Inv X pI σ H s)(h:H p=Aa (.lst xs))(ho:s.heap.get? p=Aa { cls:=.type "list", data:=.seq its.toArray n })(hf:f { cls:=.type "list", data:=.seq its.toArray n }={ cls:=.type "list", data:=.seq its'.toArray n' })(r:A7 ys its')(hz:ys.length<=sizeLine)(t:Ag):Inv X pI σ (upd H p (.lst ys)) {s with heap:=s.heap.update p f,toks:=t}:=by
 have e:(s.heap.update p f).get? p=Aa { cls:=.type "list", data:=.seq its'.toArray n' }:=by
  rw[CJ f ho (by rw[hf]<;>rfl),hf]
 refine I.write (x:=p) (e:=p) (by rw[h];trivial) (.inl rfl) (fun b u hb q=>(Cy _ _ (CP hb)).trans q) ⟨_,e⟩ ?_
 exact⟨hz,its',n',r,e⟩
def aa:V->V->V->Hp->(Hp->Prop)->Prop:=fun o i v H Q=>∃ p xs k j,o=.ref p/\i=.int k/\H p=Aa (.lst xs)/\ixN xs.length k=Aa j/\Q (upd H p (.lst (xs.set j v)))
theorem Qd:SQ X aa:=by
 intro pI s σ H o i v ov iv u Q I ro ri rv h;obtain⟨p,xs,k,j,rfl,rfl,hp,hj,q⟩:=h;cases ro;obtain⟨t,rfl⟩:=ri;obtain⟨its,n,r,ho,hz⟩:=I.lst hp;obtain⟨h1,h2,h3,h4⟩:=VS hj;have hl:=r.length;have hn:=Km;have I':Inv X pI σ (upd H p (.lst (xs.set j v))) {s with heap:=s.heap.update p (Hl (·.setIfInBounds j u))}:=
  I.lstUpd hp ho (dX its n j u) (r.set rv j) (by rw[A6];exact hz) s.toks
 by_cases h0:0<=k
 ·have hk:k.toNat=j:=by
   rw[JQ h0 h4]at h1;exact Bz h1
  exact PySem.W.ki_setAt ho h0 (by omega) (by rw[AC,<-hl];exact h4) (by rw[hk];exact⟨_,I',q⟩)
 ·have hk:(k+(its.toArray.size:Af)).toNat=j:=by
   rw[Jt (by omega) h3]at h1
   rw[AC,<-hl];exact Bz h1
  exact PySem.W.ki_setBack ho (by omega) (by rw[AC,<-hl];exact h3) (by omega) (by rw[hk];exact⟨_,I',q⟩)
theorem dG(lo hi:Ap Af)(n:Ag):(EZ lo hi Ae n).1=((HT.sIx n 0 lo:Ag):Af)/\(EZ lo hi Ae n).2.1=((HT.sIx n n hi:Ag):Af)/\(EZ lo hi Ae n).2.2=1:=by
 refine⟨?_,?_,rfl⟩
 ·cases lo with
  |none=>simp[EZ,HT.sIx]
  |some i=>
   simp only[EZ,HT.sIx,Yw,show (1:Af) > 0 by decide,Eh]
   by_cases h:i<0
   ·simp only[h,Eh]<;>omega
   ·simp only[h,HR]<;>omega
 ·cases hi with
  |none=>simp[EZ,HT.sIx]
  |some i=>
   simp only[EZ,HT.sIx,Yw,show (1:Af) > 0 by decide,Eh]
   by_cases h:i<0
   ·simp only[h,Eh]<;>omega
   ·simp only[h,HR]<;>omega
theorem dI(its:Ac Al)(lo hi:Ap Af):slicePick its.toArray lo hi Ae=((its.drop (HT.sIx its.length 0 lo)).take (HT.sIx its.length its.length hi-HT.sIx its.length 0 lo)).toArray:=by
 obtain⟨h1,h2,h3⟩:=dG lo hi its.toArray.size;unfold slicePick;rw[h1,h2,h3];simp only[sliceRange_one,pick_run,AC]<;>rfl
def R5(K:Fg):V->Ap Af->Ap Af->Hp->VK->Prop:=fun x lo hi H Q=>∃ a xs,x=.ref a/\SqL K H a xs/\∀ p,H p=Ae->Q (.ref p) (upd H p (.lst (JH xs lo hi)))
theorem lH:SlR X (R5 X.K):=by
 intro pI s σ H x v vl vu lo hi sl Q I rx hs pl pu h;obtain⟨a,xs,rfl,hx,q⟩:=h;cases rx;obtain⟨its,r,ht,hz⟩:=I.list hx;have hlen:=r.length;refine⟨"list", _,Z5.lookup,ht.isList.typeIs,?_⟩;refine wpAny_getItem_list_slice ht.isList hs pl pu .none (by simp) ?_ (by rw[AC]<;>omega)
 rw[dI,<-hlen];refine⟨.ref s.heap.objs.size,_,I.laid (t':=s.toks) (o:=.lst (JH xs lo hi)) (fun b ob q=>As _ q) (AW _) ?_,rfl,q _ (I.hok.fresh (AW _))⟩
 exact⟨Ct (Tn xs lo hi) hz,_,0,(r.drop (HT.sIx xs.length 0 lo)).take (HT.sIx xs.length xs.length hi-HT.sIx xs.length 0 lo),AK _ rfl⟩
theorem Tf:HI X (.builtin "len") (fun xs H Q=>∃ p ys,xs=[.ref p]/\(SqL X.K H p ys\/SqT X.K H p ys)/\Q (.int ys.length) H):=by
 intro pI s σ H xs us Q I r h;obtain⟨p,ys,rfl,hq,q⟩:=h;obtain⟨u,rfl,rx⟩:=Hd r;cases rx;have hn:=Km;rcases hq with hq|hq
 ·obtain⟨its,r',pl,hz⟩:=I.list hq;have hlen:=r'.length;exact Calls.call_len_list pl.isList (by simp only[AC]<;>omega) ⟨.int ys.length,H,I.tok _,⟨s.toks+1,by rw[AC,hlen]⟩,q⟩
 ·obtain⟨its,r',pl,hz⟩:=I.tuple hq;have hlen:=r'.length;exact len_tuple pl (by simp only[AC]<;>omega) ⟨.int ys.length,H,I.tok _,⟨s.toks+1,by rw[AC,hlen]⟩,q⟩
theorem dJ:HI X (.builtin "len") (fun xs H Q=>∃ z,xs=[.str z]/\z.length<=sizeLine/\Q (.int z.length) H):=by
 intro pI s σ H xs us Q I r h;obtain⟨z,rfl,hz,q⟩:=h;obtain⟨u,rfl,t,rfl⟩:=Hd r;have hn:=Km;exact len_str (by omega) ⟨.int z.length,H,I.tok _,⟨_,rfl⟩,q⟩
theorem Te:HI X (.type "list") (fun xs H Q=>∃ p ys,xs=[.ref p]/\(SqL X.K H p ys\/SqT X.K H p ys)/\∀ l,H l=Ae->Q (.ref l) (upd H l (.lst ys))):=by
 intro pI s σ H xs us Q I r h;obtain⟨p,ys,rfl,hq,q⟩:=h;obtain⟨u,rfl,rx⟩:=Hd r;cases rx;have fin:∀(its:Ac Al),A7 ys its->ys.length<=sizeLine->∀(h':AF)(c':Ag),(∀ b o',s.heap.get? b=Aa o'->h'.get? b=Aa o') ->
   h'.get? s.heap.objs.size=Aa { cls:=.type "list", dict:=Ae,data:=.seq its.toArray c',slots:=#[] }->EP X pI σ Q (.ref s.heap.objs.size) {s with heap:=h'}:=fun its r' hz h' c' kp e=>
  ⟨.ref s.heap.objs.size,_,I.laid (t':=s.toks) kp (AW _) (show ObjOk X.prog X.w _ h' _ (.lst ys) from ⟨hz,its,c',r',e⟩),rfl,q _ (I.hok.fresh (AW _))⟩
 rcases hq with hq|hq
 ·obtain⟨its,r',pl,hz⟩:=I.list hq;have hlen:=r'.length;obtain⟨o,ho,hc,n,hd⟩:=pl.isList;exact call_list_seq p (.inl rfl) ho hc hd (fun h' c' kp e=>fin its r' hz h' c' kp e) (by simp only[AC]<;>omega)
 ·obtain⟨its,r',pl,hz⟩:=I.tuple hq;have hlen:=r'.length;obtain⟨o,ho,hc,n,hd⟩:=pl;exact call_list_seq p (.inr rfl) ho hc hd (fun h' c' kp e=>fin its r' hz h' c' kp e) (by simp only[AC]<;>omega)
theorem Th:HI X (.type "tuple") (fun xs H Q=>∃ p ys,xs=[.ref p]/\((SqL X.K H p ys/\∀ l,H l=Ae->Q (.ref l) (upd H l (.tup ys)))\/(SqT X.K H p ys/\Q (.ref p) H))):=by
 intro pI s σ H xs us Q I r h;obtain⟨p,ys,rfl,h⟩:=h;obtain⟨u,rfl,rx⟩:=Hd r;cases rx;rcases h with ⟨hq,q⟩|⟨hq,q⟩
 ·obtain⟨its,r',pl,hz⟩:=I.list hq;have hlen:=r'.length;refine call_tuple_list pl.isList (fun h' kp=>?_) (by simp only[AC]<;>omega)
  have I1:Inv X pI σ H {s with heap:=h'}:=I.kept (t':=s.toks) kp
  have I2:Inv X pI σ (upd H h'.objs.size (.tup ys)) { s with heap:=h'.push { cls:=.type "tuple", data:=.seq its.toArray } }:=
   I1.laid (t':=s.toks) (fun b o e=>As _ e) (AW _) (show ObjOk X.prog X.w _ _ _ (.tup ys) from ⟨hz,its,r',LY _ _⟩)
  exact⟨.ref h'.objs.size,_,I2,rfl,q _ (I1.hok.fresh (AW _))⟩
 ·obtain⟨its,r',pl,hz⟩:=I.tuple hq;exact call_tuple_same pl ⟨.ref p,H,I,rfl,q⟩
def tyV(K:Fg)(T:C5)(x:V)(H:Hp):Prop:=match x with
  |.str _=>T = "str"
  |.int _=>T = "int"
  |.ref p=>(T = "list"/\∃ xs,SqL K H p xs)\/(T = "tuple"/\∃ o,K.lookup p=Aa o/\o.cls=.type "tuple"/\o.dict=Ae) \/
      (T = "dict"/\((∃ kvs,H p=Aa (.dK kvs))\/∃ kvs,H p=Aa (.dT kvs)))\/(T = "set"/\∃ S n,H p=Aa (.set S n))
  |_=>AX
theorem rE{T:C5}{x:V}{v:Al}(I:Inv X pI σ H s)(r:BB x v)(ty:tyV X.K T x H):s.TypeIs v T/\∀ a,v=.ref a->∃ ob,s.heap.get? a=Aa ob/\ob.dict=Ae:=by
 cases x with
 |str z=>
  obtain⟨t,rfl⟩:=r;cases (show T = "str" from ty)
  exact⟨typeIs_str s z t,fun _ e=>nomatch e⟩
 |int i=>
  obtain⟨t,rfl⟩:=r;cases (show T = "int" from ty)
  exact⟨typeIs_int s i t,fun _ e=>nomatch e⟩
 |ref p=>
  cases r;rcases ty with ⟨rfl,xs,hq⟩|⟨rfl,o,hk,hc,hd⟩|⟨rfl,hk⟩|⟨rfl,S,n,hk⟩
  ·obtain⟨its,_,pl,_⟩:=I.list hq;refine⟨pl.isList.typeIs,fun a e=>?_⟩
   cases e;obtain⟨o,n,e,c,hd,_⟩:=pl;exact⟨o,e,hd⟩
  ·refine⟨⟨o,I.kIn p o hk,hc⟩,fun a e=>?_⟩
   cases e;exact⟨o,I.kIn _ o hk,hd⟩
  ·have z:∃ o,s.heap.get? p=Aa o/\o.ExactDict:=by
    rcases hk with ⟨kvs,hk⟩|⟨kvs,hk⟩
    ·obtain⟨_,_,_,_,o,_,_,e,ex,_⟩:=I.hok p _ hk;exact⟨o,e,ex⟩
    ·obtain⟨_,_,_,_,o,_,_,e,ex,_⟩:=I.hok p _ hk;exact⟨o,e,ex⟩
   obtain⟨o,e,ex⟩:=z;refine⟨⟨o,e,ex.1⟩,fun a e2=>?_⟩
   cases e2;exact⟨o,e,ex.2.1⟩
  ·obtain⟨o,_,_,_,e,ex,_⟩:=I.hok p _ hk;refine⟨⟨o,e,ex.1⟩,fun a e2=>?_⟩
   cases e2;exact⟨o,e,ex.2.1⟩
 |_=>exact Ba ty
def tBM(K:Fg)(T:C5)(r:V->Ac V->Hp->VK->Prop)(to:TE)(t:TA):TE:=fun σ H Q=>to σ H fun x H1=>tyV K T x H1/\t σ H1 fun xs H2=>r x xs H2 Q
variable{o e:An}{es:Ac An}{to:TE}{t:TA}{name:Ai}{apos cpos:AG}{T id:C5}{r:V->Ac V->Hp->VK->Prop}
theorem Od(pa:PlainAttrs T)(slot:Slot T name id)(hty:typeOf (.builtin id)=pure (.type "method_descriptor"))(hm:MtR X id r)(ho:PE X o to)(ha:PA X (e::es) t)(hbase:Eg o name X.env (eval o X.env)=eval o X.env:=by rfl)(hfew:((BN cpos (Av (e::es) X.env)).all (fun x=>!x.1)&&(JT cpos (H9 [] X.env)).all (fun x=>x.1.isSome)
   && decide ((e::es).length+([]:Ac Ez).length+(if ([]:Ac Ez).isEmpty then 0 else 1)<30))=Ab:=by rfl)(hline:(apos.endLine==cpos.line)=Ab:=by rfl)(hs:Av (e::es) X.env=(Ad,eval e X.env)::Av es X.env:=by rfl)(hplain:(BN cpos (Av es X.env)).any (·.1)=Ad:=by rfl):PE X (.Call (.Attribute o name apos) (e::es) [] cpos) (tBM X.K T r to t):=by
 intro pI s σ H Q I h;refine wpAny_Call_method_late hbase hfew hline rfl (thn (ho pI s σ H _ I h) fun v s1 ⟨x,H1,I1,r1,ty,q1⟩=>?_)
 obtain⟨h1,h2⟩:=rE I1 r1 ty;refine⟨T,id,pa,slot,hty,h1,h2,?_⟩;have hA:=ha cpos pI s1 σ H1 _ I1 q1;rw[hs]at hA ⊢;refine YK (by show (Ad||(BN cpos (Av es X.env)).any (·.1))=Ad;rw[hplain]<;>rfl) (EI ?_)
 exact thn hA fun us s2 ⟨vs,H2,I2,r2,q2⟩=>hm pI s2 σ H2 x vs v us Q I2 r1 r2 q2
/- xs.append(e),list.index on a module's tuple .. are MtR facts of 06m -/
end
noncomputable def MtM(X:Cx)(id:C5)(r:V->Ac V->Hp->VK->Prop):Prop:=
 ∀(pI:Pn)(s:Ar)(σ:St)(H:Hp)(x:V)(xs:Ac V)(v:Al)(us:Ac Al)(Q:VK),Inv X pI σ H s->BB x v->A7 xs us->r x xs H Q ->
  Ax (model X.prog X.w) X.A (call (.builtin id) (v::us)) (EP X pI σ Q) X.xe s
theorem A7.one:∀{x:V}{us:Ac Al},A7 [x] us->∃ u,us=[u]/\BB x u
 |_,_,.cons r .nil=>⟨_,rfl,r⟩
theorem A7.zero:∀{us:Ac Al},A7 [] us->us=[]
 |_,.nil=>rfl
theorem A7.eraseIdx:∀{xs:Ac V}{us:Ac Al}(i:Ag),A7 xs us->A7 (xs.eraseIdx i) (us.eraseIdx i)
 |_,_,_,.nil=>.nil
 |_,_,0,.cons _ t=>t
 |_,_,i+1,.cons r t=>.cons r (A7.eraseIdx i t)
theorem A7.reverse(h:A7 xs us):A7 xs.reverse us.reverse:=by
 induction h with
 |nil=>exact .nil
 |cons r t ih=>rw[Yn,Yn];exact A7.append ih (.cons r .nil)
theorem T4{α:Type}:∀(l:Ac α)(i:Ag),(l.eraseIdx i).length<=l.length
 |[],_=>AW _
 |_::_,0=>GS _
 |_::r,i+1=>Nat.succ_le_succ (T4 r i)
section
variable{X:Cx}{pI:Pn}{σ:St}{H:Hp}{s:Ar}{l b:Am}{xs ys zs:Ac V}
theorem Inv.lset{f:Be Al->Be Al}(I:Inv X pI σ H s)(hH:H l=Aa (.lst xs))(e:s.heap.get? l=Aa { cls:=.type "list", data:=.seq its.toArray n })(hf:f its.toArray=its'.toArray)(hv:A7 ys its')(hz:ys.length<=sizeLine):Inv X pI σ (upd H l (.lst ys)) {s with heap:=s.heap.update l (Hl f),toks:=t'}:=by
 have q:=PySem.IsL.update e f;rw[hf]at q;refine I.write (x:=l) (e:=l) (by rw[hH];exact trivial) (.inl rfl) (fun b' u hb hu=>(Cy s.heap (Hl f) (CP hb)).trans hu) ⟨_,q⟩ ?_
 exact⟨hz,its',_,hv,q⟩
theorem Inv.lnew(I:Inv X pI σ H s)(hv:A7 ys its)(hz:ys.length<=sizeLine):
  Inv X pI σ (upd H s.heap.objs.size (.lst ys)) { s with heap:=s.heap.push { cls:=.type "list", data:=.seq its.toArray },toks:=t' }:=
 I.laid (fun _ _ q=>As _ q) (AW _) ⟨hz,its,0,hv,AK _ rfl⟩
theorem Inv.fresh(I:Inv X pI σ H s):H s.heap.objs.size=Ae:=I.hok.fresh (AW _)
theorem Inv.lstM(I:Inv X pI σ H s)(hH:H l=Aa (.lst xs)):xs.length<=sizeLine/\∃(its:Ac Al)(n:Ag),A7 xs its/\xs.length=its.length/\s.heap.get? l=Aa { cls:=.type "list", data:=.seq its.toArray n }:=by
 obtain⟨z,its,n,r,e⟩:=I.hok l _ hH;exact⟨z,its,n,r,r.length,e⟩
end
section
variable{X:Cx}
def nO:V->Ac V->Hp->VK->Prop:=fun x vs H Q=>∃ l xs y,x=.ref l/\vs=[y]/\H l=Aa (.lst xs)/\xs.length<sizeLine/\Q .non (upd H l (.lst (xs++[y])))
theorem TY:MtM X "list.append" nO:=by
 intro pI s σ H x vs v us Q I rx rv h;obtain⟨l,xs,y,rfl,rfl,hH,hz,q⟩:=h;cases rx;obtain⟨u,rfl,ru⟩:=rv.one;obtain⟨z,its,n,r,hl,e⟩:=I.lstM hH;refine KI F.slot_list_append ⟨_,e,rfl⟩ F.entry_list_append (F.args_list_append_2 _ _) (PySem.list_append l its.toArray n u (by rw[AC];omega)) ⟨e,?_⟩
 refine⟨.non,_,I.lset (its':=its++[u]) hH e (by simp) (r.append (.cons ru .nil)) ?_,rfl,q⟩
 rw[CK,Yk];omega
def sU:V->Ac V->Hp->VK->Prop:=fun x vs H Q=>∃ l xs i k y,x=.ref l/\vs=[.int i]/\H l=Aa (.lst xs)/\-(2 ^ 63)<=i/\i<2 ^ 63/\G3 i xs.length=Aa k/\xs[k]?=Aa y/\Q y (upd H l (.lst (xs.eraseIdx k)))
theorem kD:MtM X "list.pop" sU:=by
 intro pI s σ H x vs v us Q I rx rv h;obtain⟨l,xs,i,k,y,rfl,rfl,hH,h1,h2,hk,hy,q⟩:=h;cases rx;obtain⟨u,rfl,ru⟩:=rv.one;obtain⟨t,rfl⟩:=ru;obtain⟨z,its,n,r,hl,e⟩:=I.lstM hH;obtain⟨w,hw,rw'⟩:=r.get hy;refine KI F.slot_list_pop ⟨_,e,rfl⟩ F.entry_list_pop (F.args_list_pop_2 _ _)
  (MeetsSeq.list_pop_at l its.toArray n i t k w (fitsIndex_both h1 h2) (by rw[AC,<-hl];exact hk) (by rw[<-XN];exact hw) (by rw[AC];omega)) ⟨e,?_⟩
 refine⟨y,_,I.lset (its':=its.eraseIdx k) hH e ?_ (r.eraseIdx k) ?_,rw',q⟩
 ·show its.toArray.eraseIdxIfInBounds k=(its.eraseIdx k).toArray;rw[List.eraseIdxIfInBounds_toArray]
 ·have:=T4 xs k;omega
end
section
variable{prog:AO}{w:A4}{A:A2}{E:Vq}{s:Ar}
set_option maxRecDepth 100000 in
end
section
variable{X:Cx}
end
end L2
namespace Att
open PySem PySem.W PySem.Calls PyProof.Rows
variable{P:Md}{h:AF}{l:FW}{n:Ag}
theorem dF:∀(ns:Ac Af)(vs:Ac Al),WellAll P h vs (ns.map ZP)->Hm vs ns:=by
 intro ns
 induction ns with
 |nil=>
  intro vs w;rw[Jh]at w;cases w;exact .nil
 |cons n ns ih=>
  intro vs w;rw[Cf]at w;cases w with
  |cons a b=>
   cases a;exact .cons _ _ (ih _ b)
theorem eT(hn:l.most=Aa n){args:Ac WData}{vals:Ac Al}(hpre:l.row.toRowW.claim.pre args=Ab)(hwl:WellAll P h vals args):
  ∃ a vs ns,vals=[Co a]/\args=[WData.list (ns.map ZP)]/\h.get? a=Aa { cls:=.type "list", data:=.seq vs.toArray }/\Hm vs ns/\ns.length<=n:=by
 have hsh:WShape.hasAll [] args [.list .int]=Ab:=(pre_splitW hpre).1;have hc:l.pre.holds [] {args:=args}=Ab:=(pre_splitW hpre).2;obtain⟨d,r,rfl,h1,h2⟩:=hasAllW_cons hsh;obtain rfl:=hasAllW_nil h2;obtain⟨xs,rfl,h3⟩:=hasW_list h1;obtain⟨ns,rfl⟩:=items_int h3;have hlen:ns.length<=n:=by
  unfold OpenLaw.pre at hc;have h4:(WTm.not (.lt (.lit (.int (n:Af))) (.len (.arg 0)))).holds [] {args:=[.list (ns.map .int)]}=Ab:=by
   have h4:=(holds_andW hc).1;rw[hn]at h4;exact h4
  have h5:=condW_of h4 (w_not (w_lt w_lit (w_len_list (w_arg rfl))));rw[Bh]at h5;refine Nat.le_of_not_lt fun q=>?_
  have q':(n:Af)<((ns.length:Ag):Af):=by omega
  first
   |(rw[A8 q']at h5;exact absurd h5 (by decide))
   |(simp at h5;omega)
 cases hwl with
 |cons w1 w2=>
  cases w2;cases w1 with
  |list ho hall=>exact⟨_,_,ns,rfl,rfl,ho,dF ns _ hall,hlen⟩
theorem eX(l:FW)(args:Ac WData):l.row.toRowW.claim.post args (.bool Ab) args=Ab:=
 postW_of (r:=l.row.toRowW) (X:=(Ab==Ab))
  (show ZQ [] (.bool Ab) .bool=Ab by first|rfl|decide|simp[ZQ,WShape.arms,WShape.armsAll])
  (show (WTm.eq .res (.lit (.bool Ab))).value [] {args:=args,res:=Aa (.bool Ab),after:=args}=Aa (.bool (Ab==Ab)) from w_eq_bool (w_res rfl) w_lit) rfl
theorem attach_call{q:AO}{loose:Ac Ai}{XP:(Ai->Ap Al)->AF->Prop}{YP:A4->AF->Prop}{d:DefRec}(hn:l.most=Aa n)(hdf:d.params.defaults=[])(call:∀(w:A4)(s₀ s₁:Ar)(mg mb:Ai->Ap Al)(fa:Am)(o:C3)(pm cd doc:Al)(a:Am)(vs:Ac Al)(ns:Ac Af),
   Ground q loose [] XP w s₀ mg mb s₁.heap->YP w s₁.heap ->
   s₁.heap.get? fa=Aa o->o.data=.func (docDef d.name d.params d.body d.scope pm cd doc)->s₁.heap.CodeRec cd d.name->mg d.name=Aa (.ref fa) ->
   s₁.heap.get? a=Aa { cls:=.type "list", data:=.seq vs.toArray }->Hm vs ns->ns.length<=n->s₁.gens=#[] ->
   FE (model l.prog w) Ho (.call (.ref fa) ⟨[.ref a],[]⟩) (fun r s'=>r=.ok (.ret (.bool Ab))/\OldK s₁.heap s'.heap/\s'.os=s₁.os/\FD s'.gens) s₁):WalkO q loose XP YP l.row.toRowW d [] (fun f vs=>KH f vs):=by
 intro w s₀ s₁ mg mb G Y fa o pm cd doc dV kV ho hd hcd hD hmg hg args vals as hpre hlay hrd hwl hlo;obtain rfl:dV=.none:=Dflts.none hD hdf;obtain rfl:kV=.none:=Dflts.noKw hD;obtain⟨a,vs,ns,rfl,rfl,hobj,hints,hlen⟩:=eT hn hpre hwl;refine enter_call (Ft (call w s₀ s₁ mg mb fa o pm cd doc a vs ns G Y ho (fd_plain hd) hcd hmg hobj hints hlen hg) fun r s' hq=>?_)
 obtain⟨rfl,h2,h3,h4⟩:=hq;exact⟨.inl ⟨.bool Ab,.bool Ab,[],rfl,fun _=>rfl,.bool Ab,eX l _,fun _=>⟨List.Pairwise.nil,fun _ hm=>(nomatch hm)⟩⟩,h2,h3,h4⟩
section
variable{prog:AO}{w:A4}{A:A2}{E:Vq}{s:Ar}{K:Frag}
end
end Att
namespace L2
open PySem PySem.Spec PyProof.Rows
variable{k:Ag}{x:Ai}
theorem Ts:∀{vs:Ac Al}{ns:Ac Af},Hm vs ns->A7 (ns.map V.int) vs
 |_,_,.nil=>.nil
 |_,_,.cons n t h=>.cons ⟨t,rfl⟩ (Ts h)
def OS(H:Hp):Prop:=∀ b,H b=Ae\/∃ o xs,H b=Aa (.frz o (.lst xs))
theorem jA{P:AO}{w:A4}{K:Fg}{mg mb:Ai->Ap Al}{CX:CXT}{fa a:Am}{fd:BL}{sp:Sp}{s₁:Ar}{vs:Ac Al}{ns:Ac Af}(KX:K.In s₁.heap)(hns:s₁.heap.Ns A1 mg)(hb:s₁.heap.Ns IC mb)(hbb:∀ x:Ai,x≠"__name__"->mb x=C4 x)(hlim:s₁.heap.NoLimit)(hg:s₁.gens=#[])(ha:s₁.heap.get? a=Aa { cls:=.type "list", data:=.seq vs.toArray })(hi:Hm vs ns)(hl:ns.length<=sizeLine)(hr:Room k Ho)(F:∀ base:AF,K.In base->base.Ns A1 mg->FnOk P w K mg base CX k fa fd [x] sp)(hbind:∀(s:Ar)(u:Al),Gd s fd ⟨[u],[]⟩ [(x,u)])(hsp:∀ H:Hp,OS H->SqL K H a (ns.map V.int)->sp [.ref a] H (fun v _=>v=.bl Ab) fun _ _ _=>AX)(hCX:∀ H e s',CX [] H s₁ (fun _ _ _=>AX) e s'->AX):FE (model P w) Ho (.call (.ref fa) ⟨[.ref a],[]⟩) (fun r s'=>r=.ok (.ret (.bool Ab))/\OldK s₁.heap s'.heap/\s'.os=s₁.os/\FD s'.gens) s₁:=by
 have rv:=Ts hi;have lenV:=hi.length
 -- from an abstract heap in which nothing but the script may be tracked
 have core:∀ H:Hp,OS H->SqL K H a (ns.map V.int)->HOk P w H s₁.heap->(∀ b,H b≠Ae->b=a)->(H a≠Ae->K.lookup a=Ae) ->
   FE (model P w) Ho (.call (.ref fa) ⟨[.ref a],[]⟩) (fun r s'=>r=.ok (.ret (.bool Ab))/\OldK s₁.heap s'.heap/\s'.os=s₁.os/\FD s'.gens) s₁:=by
  intro H hO hS hok hA hK;have base_of:∀{b:Am}{o:C3},s₁.heap.get? b=Aa o->H b=Ae->(IZ s₁.heap H).get? b=Aa o:=fun e n=>jF e n
  have noA:∀{b:Am}{o:C3}{es:Be DictEntry}{ep:Ag},s₁.heap.get? b=Aa o->o.data=.dict es ep->H b=Ae:=fun {b o es ep} e d=>by
   cases q:H b with
   |none=>rfl
   |some u=>
    have e':b=a:=hA b (by rw[q];simp)
    subst e';rw[ha]at e;cases e;have d':Mb vs.toArray _=Data.dict es ep:=d;cases d'
  have nsK:∀{b:Am}{m:Ai->Ap Al},s₁.heap.Ns b m->(IZ s₁.heap H).Ns b m:=fun {b m} ⟨o,es,ep,e,d,r⟩=>⟨o,es,ep,base_of e (noA e d),d,r⟩
  have hKb:K.In (IZ s₁.heap H):=fun b o e=>base_of (KX b o e) (by
   cases q:H b with
   |none=>rfl
   |some u=>
    have e':b=a:=hA b (by rw[q];simp)
    subst e';rw[hK (by rw[q];simp)]at e;cases e)
  have hM:Mod K mg (IZ s₁.heap H):=⟨hKb,nsK hns,⟨mb,nsK hb,hbb⟩,let ⟨mc,h1,h2⟩:=hlim;⟨mc,nsK h1,h2⟩⟩
  have e0:Env0 P w K mg (IZ s₁.heap H) Ho [] s₁ H:=⟨rfl,hM,fun b o e=>nC e,Nat.le_of_eq (fH _ _),trivial,fun b hb=>absurd (show b∈([]:Ac Am) from hb) (by simp),hok,.of_eq hg⟩
  refine Ft ((F _ hKb (nsK hns)).run Ho [] s₁ H ⟨[.ref a],[]⟩ [.ref a] [.ref a] _ _ hr e0 (hbind s₁ (.ref a)) (.cons rfl .nil) (hsp H hO hS)) fun r s' h=>?_
  cases r with
  |error e=>exact(hCX H e s' h).elim
  |ok fl=>
   cases fl with
   |next=>exact Ba h
   |brk=>exact Ba h
   |cont=>exact Ba h
   |ret u=>
    obtain⟨v,H',os,bare,un,hok',r',q⟩:=h;have q':v=.bl Ab:=q;subst q';obtain rfl:u=KD Ab:=r';refine⟨rfl,OldK.of_keep fun b o e=>?_,os,bare⟩
    cases q:H b with
    |none=>exact un.keep b o e q (by intro z;exact absurd (show b∈([]:Ac Am) from z) (by simp)) (by simp)
    |some u=>
     rcases hO b with z|⟨ob,xs,z⟩
     ·rw[q]at z;cases z
     ·have z2:=un.frzs b ob _ z;obtain⟨e1,_⟩:=hok b _ z;obtain⟨e2,_⟩:=hok' b _ z2;rw[e]at e1;cases e1;exact e2
 cases hk:K.lookup a with
 |some o=>
  -- the script is one of the module's own objects
  have e:=KX a o hk;rw[ha]at e;cases e;refine core (fun _=>Ae) (fun _=>.inl rfl) (.inr ⟨_,vs.toArray,_,hk,rfl,rfl,rfl,by rw[AC,lenV];exact hl,by simpa using rv⟩) (fun b u z=>by have z':(Ae:Ap HO)=Aa u:=z;cases z') (fun b z=>absurd rfl z) fun z=>absurd rfl z
 |none=>
  refine core (fun b=>if b=a then Aa (.frz { cls:=.type "list", data:=.seq vs.toArray } (.lst (ns.map V.int))) else Ae) (fun b=>?_) (.inl (.inr ⟨{ cls:=.type "list", data:=.seq vs.toArray },AA rfl⟩)) (fun b u z=>?_) (fun b z=>?_) fun _=>hk
  ·by_cases hb:b=a
   ·exact .inr ⟨_,_,AA hb⟩
   ·exact .inl (AH hb)
  ·by_cases hb:b=a
   ·have z':=(AA hb).symm.trans z;cases z';subst hb;exact⟨ha,by rw[Bh];exact hl,vs,_,rv,ha⟩
   ·have z':=(AH hb).symm.trans z;cases z'
  ·by_cases hb:b=a
   ·exact hb
   ·exact absurd (AH hb) z
noncomputable abbrev KOf{K:Fg}{h:AF}(_:K.In h):Fg:=K
theorem walk_of{l:FW}{n:Ag}{q:AO}{loose:Ac Ai}{XP:(Ai->Ap Al)->AF->Prop}{YP:A4->AF->Prop}{d:DefRec}{K:Md->Fg}{CX:A4->CXT}{sp:A4->Sp}(hn:l.most=Aa n)(hn2:n<=sizeLine)(hdf:d.params.defaults=[])(hr:Room k Ho)(hY:∀(w:A4)(h:AF),YP w h->(K w.params).In h)(F:∀(w:A4)(mg:Ai->Ap Al)(fa:Am)(h:AF),(K w.params).In h->h.Ns A1 mg->mg d.name=Aa (.ref fa) ->
   ∃ fd:BL,(∀(s:Ar)(u:Al),Gd s fd ⟨[u],[]⟩ [(x,u)]) /\
    ∀ base:AF,(K w.params).In base->base.Ns A1 mg->FnOk l.prog w (K w.params) mg base (CX w) k fa fd [x] (sp w))(hsp:∀(w:A4)(H:Hp)(a:Am)(ns:Ac Af),ns.length<=n->OS H->SqL (K w.params) H a (ns.map V.int)->sp w [.ref a] H (fun v _=>v=.bl Ab) fun _ _ _=>AX)(hCX:∀(w:A4)(H:Hp)(s:Ar)(e:Al)(s':Ar),CX w [] H s (fun _ _ _=>AX) e s'->AX):ZR q loose XP YP l.row.toRowW d [] (fun f vs=>KH f vs):=by
 refine Att.attach_call hn hdf fun w s₀ s₁ mg mb fa o pm cd doc a vs ns G Y ho hd hcd hmg hobj hints hlen hg=>?_
 have KX:=hY w _ Y;obtain⟨fd,hb,hF⟩:=F w mg fa _ KX G.T.g hmg;exact jA KX G.T.g G.T.b G.T.builtins G.T.nolimit hg hobj hints (Ct hlen hn2) hr hF hb (fun H hO hS=>hsp w H a ns hlen hO hS) fun H e s'=>hCX w H s₁ e s'
end L2
/- THE LAST THEOREM (shape;LID,My.* are yours):
   My.Adr: a structure of the addresses that your layer names (classes,functions);My.Txt K t: a structure (Prop) of the equations over K;
   My.txt_mk:{K} {implicit addresses ..} (e1:nsIn K A1 "law" = Aa (Aa (.ref f))) (e2:K.lookup f=Aa ⟨oc,od,.func (fnOf "law" "law" params body scope dV kV doc pm an cdv ct),sl⟩) (e3:codeIn K cdv "law" = Ab) ..:∃ t,My.Txt K t
set_option maxRecDepth 100000 in
set_option maxHeartbeats 0 in
theorem PySem.Challenge.cw_LID_holds:PySem.Challenge.rw_LID.Holds:=by
 w_on;o_law;k_head;(case hw=>w_witness2)
 k_fill
 refine L2.walk_of (l:=PySem.Challenge.rw_LID) (n:=63) (k:=40) (x := "script") (CX:=fun w=>..) (sp:=fun _=>My.sp_law) rfl (by decide) rfl ⟨rfl,by decide,by decide⟩ (fun w h Y=>ZT Y) ?F ?S ?C
 case F=>
  intro w mg fa h KX G hmg;have T:∃ t,My.Txt (L2.KOf KX) t:=by
   dsimp only[L2.KOf]                          -- K must stand as «<heap const> w.params» for k_is
   refine' My.txt_mk ?e1 ?e2 ?e3 ..
   (case e1=>PySem.W.k_is)                    -- in the order: a name -> its address -> its object -> its parts
   (case e2=>PySem.W.k_is)
   ..
  obtain⟨t,T⟩:=T;have e0:=hmg.symm.trans (B8 KX G T.law);cases e0                                       -- fa is the law's own address
  exact⟨_,fun s u=>.of_eq rfl,fun base kb nb=>My.law_fn T kb nb⟩     -- if «.of_eq rfl» comes too early: refine' ⟨_,?b,fun base kb nb=>My.law_fn T kb nb⟩;exact fun s u=>.of_eq rfl
 case S=>exact fun w H a ns hl hO hS=>..
 case C=>exact ..
(the tactic k_is has no namespace: write k_is) -/
namespace L2
open PySem PySem.Spec PyProof.Rows
noncomputable def IM(s:AQ):LZ:=match s with
  |.FunctionDef _ a _ _ _ _ _ _ _ _=>a
  |_=>{posonlyargs:=[],args:=[],vararg:=Ae,kwonlyargs:=[],kw_defaults:=[],kwarg:=Ae,defaults:=[]}
noncomputable def Fw(s:AQ):Ac AQ:=match s with
  |.FunctionDef _ _ b _ _ _ _ _ _ _=>b
  |_=>[]
noncomputable def Cq(s:AQ):B5:=match s with
  |.FunctionDef _ _ _ _ _ _ sc _ _ _=>sc
  |_=>{kind:=.function,names:=[],isGenerator:=Ad,isCoroutine:=Ad}
noncomputable abbrev CX0:CXT:=fun _ _ _ _ _ _=>AX
noncomputable abbrev E0:XK:=fun _ _ _=>AX
structure Fun (K:Fg) (x qual:Ai) (st:AQ) (f:Am) (fd:BL):Prop where
 ex:∃(oc:Al)(od:Ap Am)(kV doc pm:Al)(an:Ap Am)(cdv ct:Al)(osl:Be (Ap Al)),
  fd=Cu x qual (IM st) (Fw st) (Cq st) .none kV doc pm an cdv ct/\K.lookup f=Aa ⟨oc,od,.func fd,osl⟩/\DW K cdv qual=Ab
 kp:B1 K (.ref f)=Ab
section
variable{P:AO}{w:A4}{K:Fg}{mg:Ai->Ap Al}{base:AF}
theorem Fun.ok{x qual:Ai}{st:AQ}{f:Am}{fd:BL}{N ps:Ac Ai}{k:Ag}{sp:Sp}(F:Fun K x qual st f fd)(S:FnScope N ps (Cq st))(len:∀ vs H Q E,sp vs H Q E->vs.length=ps.length)(hbody:∀(cdv:Al)(A:A2)(outer:Ac B9)(s:Ar)(H:Hp)(vs:Ac V)(Q:VK)(E:XK),Room k (A.deeper (Ev qual (Cq st) s.heap.objs.size f cdv))->sp vs H Q E ->
   ∃ t,PSs (EG CX0 P w K mg base N qual (Cq st) f cdv A outer s H E).nox (Fw st) t/\t {nx:=fun _ H'=>Q .non H',rt:=Q} (start N vs) H):FnOk P w K mg base CX0 (k+1) f fd ps sp:=by
 obtain⟨oc,od,kV,doc,pm,an,cdv,ct,osl,rfl,lk,hcd⟩:=F.ex;refine Xk lk hcd S len fun A outer s H vs Q E hr hsp=>?_
 obtain⟨t,h,q⟩:=hbody cdv A outer s H vs Q E hr hsp;exact⟨t,h.nox,q⟩
theorem Fun.binds{x qual:Ai}{st:AQ}{f:Am}{fd:BL}{ps:Ac Ai}(F:Fun K x qual st f fd)(h:∀(kV doc pm:Al)(an:Ap Am)(cdv ct:Al)(us:Ac Al),us.length=ps.length->JU (Cu x qual (IM st) (Fw st) (Cq st) .none kV doc pm an cdv ct) ⟨us,[]⟩=pure (ps.zip us)):FP K fd ps []:=by
 obtain⟨oc,od,kV,doc,pm,an,cdv,ct,osl,rfl,lk,hcd⟩:=F.ex;exact .all (h kV doc pm an cdv ct)
theorem Wo{x qual:Ai}{st:AQ}{f:Am}{oc:Al}{od an:Ap Am}{osl:Be (Ap Al)}{kV doc pm cdv ct:Al}(l:K.lookup f=Aa ⟨oc,od,.func (Cu x qual (IM st) (Fw st) (Cq st) .none kV doc pm an cdv ct),osl⟩)(c:DW K cdv qual=Ab)(k:B1 K (.ref f)=Ab):Fun K x qual st f (Cu x qual (IM st) (Fw st) (Cq st) .none kV doc pm an cdv ct):=⟨⟨oc,od,kV,doc,pm,an,cdv,ct,osl,rfl,l,c⟩,k⟩
end
section
variable{X:Cx}
end
def AD(H H':Hp):Prop:=∀ b o,H b=Aa o->H' b=Aa o
theorem AD.refl(H:Hp):AD H H:=fun _ _ h=>h
theorem AD.trans{H H1 H2:Hp}(a:AD H H1)(b:AD H1 H2):AD H H2:=fun c o h=>b c o (a c o h)
theorem AD.free{H H':Hp}(e:AD H H'){l:Am}(h:H' l=Ae):H l=Ae:=by
 cases q:H l with
 |none=>rfl
 |some o=>
  rw[e l o q]at h;cases h
end L2
section
namespace Ov
open PySem
variable{α β:Type}
inductive D where
 |non|bl (b:Ak)|int (i:Af)|str (x:Ai)|tup (ds:Ac D)|lst (ds:Ac D)
 |obj (c:Ag) (fs:Ac (Ai×D))|exc (c:Ag) (fs:Ac (Ai×D))|dic (kvs:Ac (Ac Af×D))
 deriving Inhabited
structure Ex where
 c:Ag
 fs:Ac (Ai×D)
 deriving Inhabited
inductive R (α:Type) where
 |ok (a:α)|exn (x:Ex)|bad
 deriving Inhabited
noncomputable def R.bind{α β:Type}(r:R α)(f:α->R β):R β:=match r with
  |.ok a=>f a
  |.exn x=>.exn x
  |.bad=>.bad
@[simp]theorem R.bind_ok(a:α)(f:α->R β):(R.ok a).bind f=f a:=rfl
@[simp]theorem R.bind_exn(x:Ex)(f:α->R β):(R.exn x:R α).bind f=.exn x:=rfl
@[simp]theorem R.bind_bad(f:α->R β):(R.bad:R α).bind f=.bad:=rfl
theorem R.bind_assoc{γ:Type}(r:R α)(f:α->R β)(g:β->R γ):(r.bind f).bind g=r.bind fun a=>(f a).bind g:=by cases r<;>rfl
noncomputable def Dq(n:Ag):Ak:=CZ n 1000000
noncomputable def DS(i j:Af):Ak:=(decide (-(18446744073709551616:Af)<i)&&decide (i<18446744073709551616))||(decide (-(18446744073709551616:Af)<j)&&decide (j<18446744073709551616))
noncomputable def EM(i j:Af):Ak:=decide (i.natAbs<2 ^ 2000)&&decide (j.natAbs<2 ^ 2000)
noncomputable def C8:Fq->D->D->R D
 |.Add,.int i,.int j=>.ok (.int (i+j))
 |.Sub,.int i,.int j=>.ok (.int (i-j))
 |.Mult,.int i,.int j=>if (DS i j||EM i j)=Ab then .ok (.int (i*j)) else .bad
 |.FloorDiv,.int i,.int j=>if 0<j/\j<1073741824 then .ok (.int (i / j)) else .bad
 |.Mod,.int i,.int j=>if 0<j then .ok (.int (i%j)) else .bad
 |.Pow,.int i,.int j=>if (0<=j/\j<=1000000)/\(-(18446744073709551616:Af)<i/\i<18446744073709551616) then .ok (.int (i ^ j.toNat)) else .bad
 |.Add,.str x,.str y=>if Dq (x.length+y.length)=Ab then .ok (.str (x++y)) else .bad
 |.Add,.lst x,.lst y=>if Dq (x.length+y.length)=Ab then .ok (.lst (x++y)) else .bad
 |.Add,.tup x,.tup y=>if (!x.isEmpty&&Dq (x.length+y.length))=Ab then .ok (.tup (x++y)) else .bad
 |_,_,_=>.bad
noncomputable def unD:JK->D->R D
 |.USub,.int i=>.ok (.int (-i))
 |_,_=>.bad
noncomputable def b2i(b:Ak):Af:=if b=Ab then 1 else 0
mutual
noncomputable def eqD:D->D->Ak
 |.non,.non=>Ab
 |.bl a,.bl b=>a==b
 |.bl a,.int j=>b2i a==j
 |.int i,.bl b=>i==b2i b
 |.int i,.int j=>i==j
 |.str x,.str y=>x==y
 |.tup xs,.tup ys=>eqDs xs ys
 |.lst xs,.lst ys=>eqDs xs ys
 |_,_=>Ad
noncomputable def eqDs:Ac D->Ac D->Ak
 |[],[]=>Ab
 |x::xs,y::ys=>eqD x y&&eqDs xs ys
 |_,_=>Ad
end
noncomputable def flD:Ag->D->Ak
 |_,.non=>Ab
 |_,.bl _=>Ab
 |_,.int _=>Ab
 |_,.str _=>Ab
 |n+1,.tup xs=>xs.all (flD n)
 |n+1,.lst xs=>xs.all (flD n)
 |_,_=>Ad
noncomputable def Im:D->Ap (Ac Af)
 |.tup ds=>keyDs ds
 |_=>Ae
where keyDs:Ac D->Ap (Ac Af)
 |[]=>Aa []
 |.int i::r=>(keyDs r).map (i :: ·)
 |_=>Ae
noncomputable def ltD:Ag->D->D->Ak
 |0,.int i,.int j=>decide (i<j)
 |n+1,.tup xs,.tup ys=>ltDs (ltD n) xs ys
 |_,_,_=>Ad
where ltDs (lt:D->D->Ak):Ac D->Ac D->Ak
 |[],[]=>Ad
 |[],_::_=>Ab
 |_::_,[]=>Ad
 |x::xs,y::ys=>if eqD x y=Ab then ltDs lt xs ys else lt x y
noncomputable def rkD:Ag->D->Ak
 |0,.int _=>Ab
 |n+1,.tup xs=>xs.all (rkD n)
 |_,_=>Ad
noncomputable def SZ(lt:D->D->Ak)(x:D):Ac D->Ac D
 |[]=>[x]
 |y::ys=>if lt y x=Ab then y::SZ lt x ys else x::y::ys
noncomputable def W1(lt:D->D->Ak):Ac D->Ac D
 |[]=>[]
 |x::xs=>SZ lt x (W1 lt xs)
noncomputable def Sb:Ac D->Ak
 |[]=>Ab
 |x::xs=>xs.all (fun y=>!eqD x y)&&Sb xs
noncomputable def SL:Ac D->Ak
 |[]=>Ab
 |[_]=>Ab
 |x::y::r=>ltD 1 x y&&SL (y::r)
noncomputable def Vx(xs:Ac D):R (Ac D):=if (xs.all (fun d=>rkD 1 d && !eqD d (.tup []))&&Sb xs&&(decide (xs.length<64)||(SL xs&&decide (xs.length<=1000))))=Ab then .ok (W1 (ltD 1) xs) else .bad
noncomputable def BX:C9->D->D->R D
  |.Eq,x,y=>if (flD 5 x&&flD 5 y)=Ab then .ok (.bl (eqD x y)) else .bad
  |.NotEq,x,y=>if (flD 5 x&&flD 5 y)=Ab then .ok (.bl (!eqD x y)) else .bad
  |.Lt,.int i,.int j=>.ok (.bl (decide (i<j)))
  |.LtE,.int i,.int j=>.ok (.bl (decide (i<=j)))
  |.Gt,.int i,.int j=>.ok (.bl (decide (j<i)))
  |.GtE,.int i,.int j=>.ok (.bl (decide (j<=i)))
  |.In,x,.lst ys=>if (flD 5 x&&ys.all (flD 5))=Ab then .ok (.bl (ys.any fun y=>eqD y x)) else .bad
  |.In,x,.dic kvs=>match Im x with
    |some k=>.ok (.bl (kvs.any fun p=>p.1==k))
    |none=>.bad
  |.In,x,.tup ys=>if (flD 5 x&&ys.all (flD 5))=Ab then .ok (.bl (ys.any fun y=>eqD y x)) else .bad
  |.NotIn,x,.lst ys=>if (flD 5 x&&ys.all (flD 5))=Ab then .ok (.bl (!ys.any fun y=>eqD y x)) else .bad
  |.NotIn,x,.tup ys=>if (flD 5 x&&ys.all (flD 5))=Ab then .ok (.bl (!ys.any fun y=>eqD y x)) else .bad
  |.Is,.non,.non=>.ok (.bl Ab)
  |.Is,.bl _,.non=>.ok (.bl Ad)
  |.Is,.int _,.non=>.ok (.bl Ad)
  |.Is,.str _,.non=>.ok (.bl Ad)
  |.Is,.tup _,.non=>.ok (.bl Ad)
  |.Is,.lst _,.non=>.ok (.bl Ad)
  |.Is,.obj _ _,.non=>.ok (.bl Ad)
  |.Is,.bl a,.bl b=>.ok (.bl (a==b))
  |.IsNot,.bl a,.bl b=>.ok (.bl (!(a==b)))
  |.IsNot,.non,.non=>.ok (.bl Ad)
  |.IsNot,.bl _,.non=>.ok (.bl Ab)
  |.IsNot,.int _,.non=>.ok (.bl Ab)
  |.IsNot,.str _,.non=>.ok (.bl Ab)
  |.IsNot,.tup _,.non=>.ok (.bl Ab)
  |.IsNot,.lst _,.non=>.ok (.bl Ab)
  |.IsNot,.obj _ _,.non=>.ok (.bl Ab)
  |_,_,_=>.bad
noncomputable def BM:D->R Ak
 |.non=>.ok Ad
 |.bl b=>.ok b
 |.int i=>.ok (i != 0)
 |.str x=>if Dq x.length=Ab then .ok (x.length != 0) else .bad
 |.tup xs=>.ok (!xs.isEmpty)
 |.lst xs=>.ok (!xs.isEmpty)
 |_=>.bad
noncomputable def plD(n:Ag)(i:Af):Ap Ag:=if 0<=i then (if i<n then Aa i.toNat else Ae) else if -(n:Af)<=i then Aa (i+n).toNat else Ae
noncomputable def Dj(xs:Ac D)(i:Af):R D:=match plD xs.length i with
  |some k=>match xs[k]? with
    |some d=>.ok d
    |none=>.bad
  |none=>.bad
noncomputable def Q4(kvs:Ac (Ac Af×D))(k:Ac Af):Ap D:=(kvs.find? fun p=>p.1==k).map (·.2)
noncomputable def Wr(kvs:Ac (Ac Af×D))(k:Ac Af)(v:D):Ac (Ac Af×D):=if (kvs.any fun p=>p.1==k)=Ab then kvs.map (fun p=>if (p.1==k)=Ab then (k,v) else p) else kvs++[(k,v)]
noncomputable def Bx:D->D->R D
  |.lst xs,.int i=>Dj xs i
  |.tup xs,.int i=>Dj xs i
  |.dic kvs,k=>match (Im k).bind (Q4 kvs) with
    |some d=>.ok d
    |none=>.bad
  |_,_=>.bad
noncomputable def DT:D->R Af
 |.int i=>.ok i
 |_=>.bad
noncomputable def Du:D->R Ak
 |.bl b=>.ok b
 |_=>.bad
noncomputable def CS:D->R (Ac D)
 |.lst xs=>.ok xs
 |.tup xs=>.ok xs
 |_=>.bad
noncomputable def Ry:D->R (Ac D)
 |.lst xs=>.ok xs
 |_=>.bad
inductive BI where
 |len|abs|max|min|int|list|tuple|all|any|sum|sorted|str|count|stp|lset|tmin|tmax|tlt|rvs
 deriving DecidableEq,Inhabited
inductive Ki where
 |int|bool|str|list|tuple|verr|cls (c:Ag)
 deriving DecidableEq,Inhabited
mutual
inductive E where
 |non|bl (b:Ak)|int (i:Af)|str (x:Ai)
 |var (i:Ag)|glob (g:Ag)
 |bin (op:Fq) (a b:E)|un (op:JK) (a:E)|no (a:E)
 |and (es:Es)|or (es:Es)
 |cmp (op:C9) (a b:E)|cmp2 (op op':C9) (a b c:E)
 |ite (c a b:E)
 |call (f:Ag) (as:Es)|bi (b:BI) (as:Es)
 |isi (a:E) (ks:Ac Ki)
 |idx (a i:E)|sl (a lo hi:E)
 |tup (es:Es)|lst (es:Es)
 |comp (elt:E) (t:Ag) (it:I) (c:E)|compT (elt:E) (ts:Ac Ag) (it:I) (c:E)|tupI (it:I)|dnew
 |fld (o:E) (f:Ai)
inductive Es where
 |nil|cons (e:E) (es:Es)
inductive I where
 |e (a:E)|rng (a:E)|rng2 (a b:E)|zip (a b:E)|zip3 (a b c:E)|enm (a:E)
end
abbrev Sl:=Ap (D×Ak)
abbrev Rho:=Ac Sl
structure Gam where
 F:Ag->Ac D->R D
 G:Ag->D
 up:Ag->Ac Ag
 /-- the defs whose answer is a new list -/
 fr:Ag->Ak
 /-- what is raised: the class,what it is made of -/
 xn:Ag->Ac D->R Ex
noncomputable def BY(lo:Af)(n:Ag):Ac D:=(Bb n).map fun(k:Ag)=>D.int (lo+(k:Af))
noncomputable def CC(lo hi:Af):R (Ac D):=if (-(4611686018427387904:Af)<=lo/\lo<4611686018427387904)/\(-(4611686018427387904:Af)<=hi/\hi<4611686018427387904)/\hi-lo<1000000 then .ok (BY lo (hi-lo).toNat) else .bad
noncomputable def kiD(up:Ag->Ac Ag):Ki->D->Ak
 |.int,.int _=>Ab
 |.int,.bl _=>Ab
 |.bool,.bl _=>Ab
 |.str,.str _=>Ab
 |.list,.lst _=>Ab
 |.tuple,.tup _=>Ab
 |.cls c,.obj k _=>(up k).contains c
 |.cls c,.exc k _=>(up k).contains c
 |.verr,.exc _ _=>Ab
 |_,_=>Ad
noncomputable def Ed:Ki->Ak
 |.cls _=>Ab
 |.verr=>Ab
 |_=>Ad
noncomputable def Eb(up:Ag->Ac Ag)(ks:Ac Ki)(x:D):R D:=match x with
  |.obj _ _=>.bad
  |.exc _ _=>if ks.all Ed=Ab then .ok (.bl (ks.any fun k=>kiD up k x)) else .bad
  |.dic _=>.bad
  |_=>if ks.any Ed=Ab then .bad else .ok (.bl (ks.any fun k=>kiD up k x))
noncomputable def FR:D->R Ak
 |.non=>.ok Ad
 |.bl b=>.ok b
 |.int i=>.ok (i != 0)
 |_=>.bad
noncomputable def LF:Ac D->R Ak
 |[]=>.ok Ab
 |x::r=>(FR x).bind fun b=>(LF r).bind fun c=>.ok (b&&c)
noncomputable def FQ:Ac D->R Ak
 |[]=>.ok Ad
 |x::r=>(FR x).bind fun b=>(FQ r).bind fun c=>.ok (b||c)
noncomputable def HN:Af->Ac D->R Af
 |a,[]=>.ok a
 |a,.int i::r=>HN (a+i) r
 |_,_=>.bad
noncomputable def DU:Ac D->Ac D->Ac D
 |x::xs,y::ys=>.tup [x,y]::DU xs ys
 |_,_=>[]
noncomputable def W3:Ac D->Ac D->Ac D->Ac D
 |x::xs,y::ys,z::zs=>.tup [x,y,z]::W3 xs ys zs
 |_,_,_=>[]
noncomputable def W2(x y z:D):R (Ac D):=(CS x).bind fun xs=>(CS y).bind fun ys=>(CS z).bind fun zs=>if 0<xs.length/\xs.length<=1000/\ys.length=xs.length/\zs.length=xs.length then .ok (W3 xs ys zs) else .bad
noncomputable def EO:Af->Ac D->Ac D
 |_,[]=>[]
 |i,x::xs=>.tup [.int i,x]::EO (i+1) xs
noncomputable def nlD:Ag->D->Ak
 |_,.non=>Ab
 |_,.bl _=>Ab
 |_,.int _=>Ab
 |_,.str _=>Ab
 |n+1,.tup xs=>xs.all (nlD n)
 |_,_=>Ad
noncomputable def FS(fr:Ak):D->Ak
 |.lst ds=>fr&&ds.all (nlD 5)
 |d=>nlD 5 d
noncomputable def Ha:Ac D->Ap (Ac Af)
 |[]=>Aa []
 |.int i::r=>(Ha r).map (i :: ·)
 |_=>Ae
noncomputable def Il(i:Af):Ac Af->Af
 |[]=>i
 |j::r=>Il (if j<i then j else i) r
noncomputable def pk2(k n:Ag):Ac Ag:=(Bb ((n-min k n+1) / 2)).map fun j=>min k n+2*j
noncomputable def Sg(k:Ag)(xs:Ac D):Ac D:=(pk2 k xs.length).filterMap fun i=>xs[i]?
noncomputable def ddS(acc:Ac Af)(x:Af):Ac Af:=if acc.any (· == x)=Ab then acc else acc++[x]
noncomputable def ddN(is:Ac Af):Ag:=(is.foldl ddS []).length
noncomputable def Oz(xs:Ac D):R D:=match Ha xs with
  |some is=>if CZ is.length 4000=Ab then .ok (.int (ddN is)) else .bad
  |none=>.bad
noncomputable def mmD(mx:Ak)(x y:D):R D:=if [x,y].all (fun d=>rkD 1 d && !eqD d (.tup []))=Ab then .ok (if (if mx=Ab then ltD 1 x y else ltD 1 y x)=Ab then y else x) else .bad
noncomputable def Sc(x y:D):R D:=if [x,y].all (fun d=>rkD 1 d && !eqD d (.tup []))=Ab then .ok (.bl (ltD 1 x y)) else .bad
noncomputable def M5(k:Ac Af):Af:=reduceHash (Builtin.Tuple.tupleHashOf (k.map hashInt))
noncomputable def Lx:Ac D->Ap (Ac (Ac Af))
 |[]=>Aa []
 |.tup xs::r=>(Ha xs).bind fun k=>(Lx r).map (k :: ·)
 |_=>Ae
noncomputable def HM:Ac Af->Ak
 |[]=>Ab
 |h::r=>!r.contains h&&HM r
noncomputable def Rt(xs:Ac D):R D:=match Lx xs with
  |some ks=>if (CZ ks.length 3&&HM (ks.map M5))=Ab then .ok (.int ks.length) else .bad
  |none=>.bad
noncomputable def biD:BI->Ac D->R D
  |.len,[.lst xs]=>.ok (.int xs.length)
  |.len,[.tup xs]=>.ok (.int xs.length)
  |.len,[.str x]=>if Dq x.length=Ab then .ok (.int x.length) else .bad
  |.abs,[.int i]=>.ok (.int (if i<0 then -i else i))
  |.max,[.int i,.int j]=>.ok (.int (if i<j then j else i))
  |.min,[.int i,.int j]=>.ok (.int (if j<i then j else i))
  |.min,[.lst xs]=>match Ha xs with
    |some (i::is)=>.ok (.int (Il i is))
    |_=>.bad
  |.int,[.int i]=>.ok (.int i)
  |.int,[.bl b]=>.ok (.int (b2i b))
  |.list,[.lst xs]=>.ok (.lst xs)
  |.list,[.tup xs]=>.ok (.lst xs)
  |.tuple,[.lst xs]=>.ok (.tup xs)
  |.tuple,[.tup xs]=>.ok (.tup xs)
  |.all,[.lst xs]=>(LF xs).bind fun b=>.ok (.bl b)
  |.any,[.lst xs]=>(FQ xs).bind fun b=>.ok (.bl b)
  |.any,[.tup xs]=>(FQ xs).bind fun b=>.ok (.bl b)
  |.sum,[.lst xs]=>(HN 0 xs).bind fun i=>.ok (.int i)
  |.sum,[.tup xs]=>(HN 0 xs).bind fun i=>.ok (.int i)
  |.sorted,[.lst xs]=>(Vx xs).bind fun ys=>.ok (.lst ys)
  |.count,[.lst xs,x]=>if (flD 5 x&&xs.all (flD 5))=Ab then .ok (.int ((xs.filter fun y=>eqD y x).length:Ag)) else .bad
  |.len,[.dic kvs]=>.ok (.int kvs.length)
  |.stp,[.lst xs,.int k]=>.ok (.lst (Sg k.toNat xs))
  |.lset,[.lst xs]=>Oz xs
  |.lset,[.tup xs]=>Rt xs
  |.tmin,[x,y]=>mmD Ad x y
  |.tmax,[x,y]=>mmD Ab x y
  |.tlt,[x,y]=>Sc x y
  |.rvs,[.lst xs]=>.ok (.lst xs.reverse)
  |_,_=>.bad
noncomputable def slE(c:E)(d:D):R (Ap Af):=match c with
  |.non=>.ok Ae
  |_=>(DT d).bind fun i=>.ok (Aa i)
noncomputable def Ik(n d:Ag):Ap Af->Ag
 |none=>d
 |some i=>if i<0 then (i+n).toNat else min i.toNat n
noncomputable def Kw(xs:Ac D)(lo hi:Ap Af):Ac D:=(xs.drop (Ik xs.length 0 lo)).take (Ik xs.length xs.length hi-Ik xs.length 0 lo)
noncomputable def slD:D->Ap Af->Ap Af->R D
 |.lst xs,l,h=>.ok (.lst (Kw xs l h))
 |.tup xs,l,h=>if (Ik xs.length 0 l==0&&Ik xs.length xs.length h==xs.length)=Ab then .bad else .ok (.tup (Kw xs l h))
 |_,_,_=>.bad
noncomputable def M2:D->Ai->R D
  |.exc _ fs,f=>match fs.lookup f with
    |some d=>.ok d
    |none=>.bad
  |_,_=>.bad
noncomputable def ET(ρ:Rho)(i:Ag):R D:=match ρ[i]? with
  |some (Aa (d,Ad))=>.ok d
  |_=>.bad
noncomputable def Dc(ρ:Rho)(i:Ag):R D:=match ρ[i]? with
  |some (Aa (d,_))=>.ok d
  |_=>.bad
noncomputable def shE(ρ:Rho):E->Ak
  | .var i=>(match ρ[i]? with
    |some (Aa (_,Ab))=>Ad
    | _=>Ab)
  |_=>Ab
noncomputable def HL(ρ:Rho):Es->Ak
 |.nil=>Ab
 |.cons e es=>shE ρ e&&HL ρ es
noncomputable def EK:Ac Ag->Ac D->Rho->Ap Rho
 |[],[],ρ=>Aa ρ
 |t::ts,d::ds,ρ=>EK ts ds (ρ.set t (Aa (d,Ad)))
 |_,_,_=>Ae
noncomputable def Gw(ts:Ac Ag)(d:D)(ρ:Rho):R Rho:=match d with
  | .tup xs=>(match EK ts xs ρ with
    |some ρ'=>.ok ρ'
    | none=>.bad)
  |_=>.bad
noncomputable def Hb(ts:Ac Ag)(d:D)(ρ:Rho):R Rho:=match d with
  | .lst xs=>(match EK ts xs ρ with
    |some ρ'=>.ok ρ'
    | none=>.bad)
  |d=>Gw ts d ρ
noncomputable def BD(g:D->R Ak)(f:D->R D):Ac D->R (Ac D)
 |[]=>.ok []
 |x::xs=>(g x).bind fun b=>if b=Ab then (f x).bind fun y=>(BD g f xs).bind fun ys=>.ok (y::ys) else BD g f xs
noncomputable def noX{α:Type}:R α->R α
 |.ok a=>.ok a
 |_=>.bad
noncomputable def top(ρ:Rho)(e:E)(r:R D):R D:=match e with
  |.var i=>Dc ρ i
  |_=>r
mutual
noncomputable def evE(Γ:Gam)(ρ:Rho):E->R D
 |.non=>.ok .non
 |.bl b=>.ok (.bl b)
 |.int i=>.ok (.int i)
 |.str x=>.ok (.str x)
 |.var i=>ET ρ i
 |.glob g=>.ok (Γ.G g)
 |.bin op a b=>(top ρ a (evE Γ ρ a)).bind fun x=>(top ρ b (evE Γ ρ b)).bind fun y=>C8 op x y
 |.un op a=>(top ρ a (evE Γ ρ a)).bind fun x=>unD op x
 |.no a=>(top ρ a (evE Γ ρ a)).bind fun x=>(Du x).bind fun b=>.ok (.bl (!b))
 |.and es=>evN Γ ρ es
 |.or es=>evO Γ ρ es
 |.cmp op a b=>(top ρ a (evE Γ ρ a)).bind fun x=>(top ρ b (evE Γ ρ b)).bind fun y=>BX op x y
 |.cmp2 op op' a b c=>(top ρ a (evE Γ ρ a)).bind fun x=>(top ρ b (evE Γ ρ b)).bind fun y=>(BX op x y).bind fun z=>(Du z).bind fun k=>if k=Ab then (top ρ c (evE Γ ρ c)).bind fun u=>BX op' y u else .ok (.bl Ad)
 |.ite c a b=>(top ρ c (evE Γ ρ c)).bind fun x=>(BM x).bind fun k=>if k=Ab then evE Γ ρ a else evE Γ ρ b
 |.call f as=>(evB Γ ρ as).bind fun xs=>(Γ.F f xs).bind fun d=>if HL ρ as=Ab then .ok d else if FS (Γ.fr f) d=Ab then .ok d else .bad
 |.bi b as=>(evB Γ ρ as).bind fun xs=>biD b xs
 |.isi a ks=>(top ρ a (evE Γ ρ a)).bind fun x=>Eb Γ.up ks x
 |.idx a i=>(top ρ a (evE Γ ρ a)).bind fun x=>(top ρ i (evE Γ ρ i)).bind fun y=>Bx x y
 |.sl a lo hi=>(top ρ a (evE Γ ρ a)).bind fun x=>(top ρ lo (evE Γ ρ lo)).bind fun l=>(slE lo l).bind fun l'=>(top ρ hi (evE Γ ρ hi)).bind fun h=>(slE hi h).bind fun h'=>slD x l' h'
 |.tup es=>(evA Γ ρ es).bind fun xs=>.ok (.tup xs)
 |.lst es=>(evA Γ ρ es).bind fun xs=>.ok (.lst xs)
 |.comp elt t it c=>(evI Γ ρ it).bind fun xs=>(noX (BD (fun x=>(top (ρ.set t (Aa (x,Ad))) c (evE Γ (ρ.set t (Aa (x,Ad))) c)).bind BM) (fun x=>evE Γ (ρ.set t (Aa (x,Ad))) elt) xs)).bind fun ys=>.ok (.lst ys)
 |.compT elt ts it c=>(evI Γ ρ it).bind fun xs=>(noX (BD (fun x=>(Gw ts x ρ).bind fun ρ'=>(top ρ' c (evE Γ ρ' c)).bind BM) (fun x=>(Gw ts x ρ).bind fun ρ'=>evE Γ ρ' elt) xs)).bind fun ys=>.ok (.lst ys)
 |.tupI it=>(evI Γ ρ it).bind fun xs=>.ok (.tup xs)
 |.dnew=>.ok (.dic [])
 |.fld o f=>(top ρ o (evE Γ ρ o)).bind fun x=>M2 x f
noncomputable def evN(Γ:Gam)(ρ:Rho):Es->R D
 |.nil=>.bad
 |.cons e .nil=>evE Γ ρ e
 |.cons e (.cons e' es)=>(evE Γ ρ e).bind fun x=>(Du x).bind fun c=>if c=Ab then evN Γ ρ (.cons e' es) else .ok (.bl Ad)
noncomputable def evO(Γ:Gam)(ρ:Rho):Es->R D
 |.nil=>.bad
 |.cons e .nil=>evE Γ ρ e
 |.cons e (.cons e' es)=>(evE Γ ρ e).bind fun x=>(Du x).bind fun c=>if c=Ab then .ok (.bl Ab) else evO Γ ρ (.cons e' es)
noncomputable def evA(Γ:Gam)(ρ:Rho):Es->R (Ac D)
 |.nil=>.ok []
 |.cons e es=>(evE Γ ρ e).bind fun x=>(evA Γ ρ es).bind fun xs=>.ok (x::xs)
noncomputable def evB(Γ:Gam)(ρ:Rho):Es->R (Ac D)
 |.nil=>.ok []
 |.cons e es=>(top ρ e (evE Γ ρ e)).bind fun x=>(evB Γ ρ es).bind fun xs=>.ok (x::xs)
noncomputable def evI(Γ:Gam)(ρ:Rho):I->R (Ac D)
 |.e a=>(evE Γ ρ a).bind CS
 |.rng a=>(top ρ a (evE Γ ρ a)).bind fun x=>(DT x).bind fun j=>CC 0 j
 |.rng2 a b=>(top ρ a (evE Γ ρ a)).bind fun x=>(top ρ b (evE Γ ρ b)).bind fun y=>(DT x).bind fun i=>(DT y).bind fun j=>CC i j
 |.zip a b=>(evE Γ ρ a).bind fun x=>(evE Γ ρ b).bind fun y=>(CS x).bind fun xs=>(CS y).bind fun ys=>.ok (DU xs ys)
 |.zip3 a b c=>(evE Γ ρ a).bind fun x=>(evE Γ ρ b).bind fun y=>(evE Γ ρ c).bind fun z=>W2 x y z
 |.enm a=>(evE Γ ρ a).bind fun x=>(CS x).bind fun xs=>.ok (EO 0 xs)
end
noncomputable def DN(Γ:Gam):E->Ak
 |.lst _=>Ab
 |.comp _ _ _ _=>Ab
 |.compT _ _ _ _=>Ab
 |.dnew=>Ab
 |.bin .Add _ _=>Ab
 |.bi .list _=>Ab
 |.bi .sorted _=>Ab
 |.sl _ _ _=>Ab
 |.call f _=>Γ.fr f
 |_=>Ad
mutual
inductive S where
 |pass
 /-- x=e;fresh: x alone holds the new list -/
 |asg (i:Ag) (fresh:Ak) (e:E)
 /-- a,b,..=e -/
 |asgT (ts:Ac Ag) (e:E)
 |expr (e:E)
 |ret (e:E)|retN
 |ife (c:E) (a b:Ss)
 |fors (t:Ag) (it:I) (body:Ss)
 |forT (ts:Ac Ag) (it:I) (body:Ss)
 |whl (c:E) (body:Ss)
 /-- raise C(e,..) -/
 |rais (c:Ag) (as:Es)
 /-- try: body except C as x: h -/
 |tryx (body:Ss) (c:Ag) (x:Ag) (h:Ss)
 /-- .. except C as x: h,except C' as x: h',else: els -/
 |try2 (body:Ss) (c:Ag) (x:Ag) (h:Ss) (c':Ag) (h' els:Ss)
 /-- x.append(e),x.extend(e),x.insert(k,e),x.reverse(),x.clear() -/
 |app (i:Ag) (e:E)|ext (i:Ag) (e:E)|ins (i:Ag) (k e:E)|rev (i:Ag)|clr (i:Ag)
 /-- d[k]=e,d.setdefault(k,e) -/
 |dput (i:Ag) (k e:E)|dsd (i:Ag) (k e:E)
 /-- x[k]=e -/
 |put (i:Ag) (k e:E)
 /-- x[k],x[l]=x[l],x[k] -/
 |swp (i k l:Ag)
 /-- x.append(y.pop(e)) -/
 |apop (j i:Ag) (e:E)
 |brk|cont
 /-- nothing: from here on x is no longer changed -/
 |rel (i:Ag)
inductive Ss where
 |nil|cons (s:S) (ss:Ss)
end
inductive O where
 |next (ρ:Rho)|ret (d:D) (fr:Ak)|brk (ρ:Rho)|cont (ρ:Rho)|exn (x:Ex) (ρ:Rho)|bad
 deriving Inhabited
noncomputable def O.of{α:Type}(ρ:Rho)(r:R α)(f:α->O):O:=match r with
  |.ok a=>f a
  |.exn x=>.exn x ρ
  |.bad=>.bad
@[simp]theorem O.of_ok(ρ:Rho)(a:α)(f:α->O):O.of ρ (.ok a) f=f a:=rfl
@[simp]theorem O.of_exn(ρ:Rho)(x:Ex)(f:α->O):O.of ρ (.exn x:R α) f=.exn x ρ:=rfl
@[simp]theorem O.of_bad(ρ:Rho)(f:α->O):O.of ρ (.bad:R α) f=.bad:=rfl
noncomputable def Fb(Γ:Gam)(ρ:Rho)(i:I):R (Ac D):=evI Γ ρ i
noncomputable def Cr(ρ:Rho)(i:Ag):R (Ac D):=match ρ[i]? with
  |some (Aa (.lst xs,Ab))=>.ok xs
  |_=>.bad
noncomputable def R8(ρ:Rho)(i:Ag):R (Ac (Ac Af×D)):=match ρ[i]? with
  |some (Aa (.dic xs,Ab))=>.ok xs
  |_=>.bad
noncomputable def XA(d:D):R (Ac Af):=match Im d with
  |some k=>.ok k
  |none=>.bad
noncomputable def Xh:Ag:=4096
noncomputable def O.seq(o:O)(f:Rho->O):O:=match o with
  |.next ρ=>f ρ
  |.ret d b=>.ret d b
  |.brk ρ=>.brk ρ
  |.cont ρ=>.cont ρ
  |.exn x ρ=>.exn x ρ
  |.bad=>.bad
noncomputable def O.turn(o:O)(f:Rho->O):O:=match o with
  |.next ρ=>f ρ
  |.cont ρ=>f ρ
  |.brk ρ=>.next ρ
  |.ret d b=>.ret d b
  |.exn x ρ=>.exn x ρ
  |.bad=>.bad
noncomputable def CD(body:D->Rho->O):Ac D->Rho->O
 |[],ρ=>.next ρ
 |x::xs,ρ=>(body x ρ).turn (CD body xs)
noncomputable def RQ(c:Rho->R Ak)(body:Rho->O):Ag->Rho->O
 |0,_=>.bad
 |n+1,ρ=>O.of ρ (c ρ) fun b=>if b=Ab then (body ρ).turn (RQ c body n) else .next ρ
noncomputable def HJ(ρ:Rho)(k:Ag):R Af:=(ET ρ k).bind DT
noncomputable def OG(ρ:Rho)(d:D)(i k l:Ag):O:=match d with
  |.tup [x,y]=>O.of ρ (Cr ρ i) fun xs=>O.of ρ (HJ ρ k) fun a=>O.of ρ (HJ ρ l) fun b=>match plD xs.length a,plD xs.length b with
    |some m,Aa n=>.next (ρ.set i (Aa (.lst ((xs.set m x).set n y),Ab)))
    |_,_=>.bad
  |_=>.bad
noncomputable def apD(ρ:Rho)(j i:Ag)(ys xs:Ac D)(n:Af):O:=match plD xs.length n with
  | some m=>(match xs[m]? with
    |some d=>if (j != i&&(Dq xs.length&&Dq (ys.length+1)))=Ab then .next ((ρ.set i (Aa (.lst (xs.eraseIdx m),Ab))).set j (Aa (.lst (ys++[d]),Ab))) else .bad
    | none=>.bad)
  |none=>.bad
noncomputable def hdO(i:Ag)(y:Ex)(ρ':Rho)(fh:Rho->O):O:=match fh (ρ'.set i (Aa (.exc y.c y.fs,Ad))) with
  |.next ρ''=>.next (ρ''.set i Ae)
  |.ret d f=>.ret d f
  |_=>.bad
mutual
noncomputable def evS(Γ:Gam)(ρ:Rho):S->O
  |.pass=>.next ρ
  | .asg i fresh e=>O.of ρ (evE Γ ρ e) fun d=>if fresh=Ab then (if DN Γ e=Ab then (match d with
      |.lst xs=>.next (ρ.set i (Aa (.lst xs,Ab)))
      |.dic xs=>.next (ρ.set i (Aa (.dic xs,Ab)))
      | _=>.bad) else .bad) else .next (ρ.set i (Aa (d,Ad)))
  |.asgT ts e=>O.of ρ (evE Γ ρ e) fun d=>O.of ρ (Hb ts d ρ) fun ρ'=>.next ρ'
  |.expr e=>O.of ρ (evE Γ ρ e) fun _=>.next ρ
  |.ret e=>O.of ρ (top ρ e (evE Γ ρ e)) fun d=>.ret d (DN Γ e||(match e with | .var i=>(match ρ[i]? with|some (Aa (_,o))=>o|_=>Ad)|_=>Ad))
  |.retN=>.ret .non Ad
  |.ife c a b=>O.of ρ ((top ρ c (evE Γ ρ c)).bind BM) fun k=>if k=Ab then evSs Γ ρ a else evSs Γ ρ b
  |.fors t it body=>O.of ρ (Fb Γ ρ it) fun xs=>CD (fun x ρ'=>evSs Γ (ρ'.set t (Aa (x,Ad))) body) xs ρ
  |.forT ts it body=>O.of ρ (Fb Γ ρ it) fun xs=>CD (fun x ρ'=>O.of ρ' (Gw ts x ρ') fun ρ''=>evSs Γ ρ'' body) xs ρ
  |.whl c body=>RQ (fun ρ'=>(top ρ' c (evE Γ ρ' c)).bind BM) (fun ρ'=>evSs Γ ρ' body) Xh ρ
  |.rais c as=>O.of ρ (noX (evA Γ ρ as)) fun xs=>O.of ρ (Γ.xn c xs) fun x=>.exn x ρ
  |.tryx body c x h=>match evSs Γ ρ body with
      | .exn y ρ'=>if (Γ.up y.c).contains c=Ab then (match evSs Γ (ρ'.set x (Aa (.exc y.c y.fs,Ad))) h with
          |.next ρ''=>.next (ρ''.set x Ae)
          |.ret d f=>.ret d f
          | _=>.bad) else .bad
      |o=>o
  |.try2 body c x h c' h' els=>match evSs Γ ρ body with
      |.exn y ρ'=>if (Γ.up y.c).contains c=Ab then hdO x y ρ' (fun r=>evSs Γ r h) else if (Γ.up y.c).contains c'=Ab then hdO x y ρ' (fun r=>evSs Γ r h') else .bad
      |.next ρ'=>evSs Γ ρ' els
      |o=>o
  |.app i e=>O.of ρ (Cr ρ i) fun xs=>O.of ρ (evE Γ ρ e) fun d=>if Dq (xs.length+1)=Ab then .next (ρ.set i (Aa (.lst (xs++[d]),Ab))) else .bad
  |.ext i e=>O.of ρ (Cr ρ i) fun xs=>O.of ρ (evE Γ ρ e) fun d=>O.of ρ (Ry d) fun ys=>if Dq (xs.length+ys.length)=Ab then .next (ρ.set i (Aa (.lst (xs++ys),Ab))) else .bad
  |.ins i k e=>O.of ρ (Cr ρ i) fun xs=>O.of ρ ((top ρ k (evE Γ ρ k)).bind DT) fun j=>O.of ρ (evE Γ ρ e) fun d=>if (Dq (xs.length+1)&&decide (0<=j)&&decide (j<=xs.length))=Ab then .next (ρ.set i (Aa (.lst (xs.take j.toNat++d::xs.drop j.toNat),Ab))) else .bad
  |.rev i=>O.of ρ (Cr ρ i) fun xs=>.next (ρ.set i (Aa (.lst xs.reverse,Ab)))
  |.clr i=>O.of ρ (Cr ρ i) fun _=>.next (ρ.set i (Aa (.lst [],Ab)))
  |.dput i k e=>O.of ρ (evE Γ ρ e) fun d=>O.of ρ (R8 ρ i) fun xs=>O.of ρ ((evE Γ ρ k).bind XA) fun j=>if Dq (xs.length+1)=Ab then .next (ρ.set i (Aa (.dic (Wr xs j d),Ab))) else .bad
  |.dsd i k e=>O.of ρ (R8 ρ i) fun xs=>O.of ρ ((evE Γ ρ k).bind XA) fun j=>O.of ρ (evE Γ ρ e) fun d=>if Dq (xs.length+1)=Ab then .next (ρ.set i (Aa (.dic (if (xs.any fun p=>p.1==j)=Ab then xs else Wr xs j d),Ab))) else .bad
  |.put i k e=>O.of ρ (evE Γ ρ e) fun d=>O.of ρ (Cr ρ i) fun xs=>O.of ρ ((top ρ k (evE Γ ρ k)).bind DT) fun j=>match plD xs.length j with
      |some n=>.next (ρ.set i (Aa (.lst (xs.set n d),Ab)))
      |none=>.bad
  |.swp i k l=>O.of ρ (evE Γ ρ (.tup (.cons (.idx (.var i) (.var l)) (.cons (.idx (.var i) (.var k)) .nil)))) fun d=>OG ρ d i k l
  |.apop j i e=>O.of ρ (Cr ρ j) fun ys=>O.of ρ (Cr ρ i) fun xs=>O.of ρ (evE Γ ρ e) fun d=>O.of ρ (DT d) fun n=>apD ρ j i ys xs n
  |.brk=>.brk ρ
  |.cont=>.cont ρ
  |.rel i=>match ρ[i]? with
      |some (Aa (d,Ab))=>.next (ρ.set i (Aa (d,Ad)))
      |_=>.next ρ
noncomputable def evSs(Γ:Gam)(ρ:Rho):Ss->O
 |.nil=>.next ρ
 |.cons s ss=>(evS Γ ρ s).seq fun ρ'=>evSs Γ ρ' ss
end
structure Df where
 n:Ag
 fr:Ak
 body:Ss
noncomputable def Bv(n:Ag)(ds:Ac D):Rho:=ds.map (fun d=>Aa (d,Ad))++GD (n-ds.length) Ae
noncomputable def isL:D->Ak
 |.lst _=>Ab
 |.dic _=>Ab
 |_=>Ad
noncomputable def O.ans(fr:Ak)(o:O):R D:=match o with
  |.ret d b=>if (fr&&(!b&&isL d))=Ab then .bad else .ok d
  |.next _=>if fr=Ab then .bad else .ok .non
  |.exn x _=>.exn x
  |_=>.bad
noncomputable def Df.run(Γ:Gam)(f:Df)(ds:Ac D):R D:=(evSs Γ (Bv f.n ds) f.body).ans f.fr
structure Prg where
 xs:Ak
 defs:Ag->Df
 G:Ag->D
 up:Ag->Ac Ag
 xn:Ag->Ac D->R Ex
noncomputable def Ec(xs:Ak)(r:R D):R D:=match xs with
  |true=>r
  |false=>noX r
noncomputable def gam(P:Prg):Ag->Gam
 |0=>⟨fun _ _=>.bad,P.G,P.up,fun i=>(P.defs i).fr,P.xn⟩
 |n+1=>⟨fun i ds=>Ec P.xs ((P.defs i).run (gam P n) ds),P.G,P.up,fun i=>(P.defs i).fr,P.xn⟩
end Ov
end
section
namespace Ov
open PySem
variable{α:Type}{lo:Af}{n:Ag}{x:D}
section
variable(Γ:Gam)(ρ:Rho)
@[simp]theorem ZzB:evE Γ ρ .non=.ok .non:=rfl
@[simp]theorem ZBE(b):evE Γ ρ (.bl b)=.ok (.bl b):=rfl
@[simp]theorem ZzF(b):evE Γ ρ (.int b)=.ok (.int b):=rfl
@[simp]theorem ZzA(b):evE Γ ρ (.str b)=.ok (.str b):=rfl
@[simp]theorem Zzy(i):evE Γ ρ (.var i)=ET ρ i:=rfl
@[simp]theorem ZvZ(i):evE Γ ρ (.glob i)=.ok (Γ.G i):=rfl
@[simp]theorem ZzI(op a b):evE Γ ρ (.bin op a b)=(top ρ a (evE Γ ρ a)).bind fun x=>(top ρ b (evE Γ ρ b)).bind fun y=>C8 op x y:=rfl
@[simp]theorem ZBA(op a):evE Γ ρ (.un op a)=(top ρ a (evE Γ ρ a)).bind fun x=>unD op x:=rfl
@[simp]theorem ZBD(a):evE Γ ρ (.no a)=(top ρ a (evE Γ ρ a)).bind fun x=>(Du x).bind fun b=>.ok (.bl (!b)):=rfl
@[simp]theorem ZzJ(es):evE Γ ρ (.and es)=evN Γ ρ es:=rfl
@[simp]theorem ZBC(es):evE Γ ρ (.or es)=evO Γ ρ es:=rfl
@[simp]theorem Zzu(e):evN Γ ρ (.cons e .nil)=evE Γ ρ e:=rfl
@[simp]theorem ZvU(e e' es):evN Γ ρ (.cons e (.cons e' es))=(evE Γ ρ e).bind fun x=>(Du x).bind fun c=>if c=Ab then evN Γ ρ (.cons e' es) else .ok (.bl Ad):=rfl
@[simp]theorem Zzt(e):evO Γ ρ (.cons e .nil)=evE Γ ρ e:=rfl
@[simp]theorem ZvT(e e' es):evO Γ ρ (.cons e (.cons e' es))=(evE Γ ρ e).bind fun x=>(Du x).bind fun c=>if c=Ab then .ok (.bl Ab) else evO Γ ρ (.cons e' es):=rfl
@[simp]theorem qN(op a b):evE Γ ρ (.cmp op a b)=(top ρ a (evE Γ ρ a)).bind fun x=>(top ρ b (evE Γ ρ b)).bind fun y=>BX op x y:=rfl
@[simp]theorem Zv2(op op' a b c):evE Γ ρ (.cmp2 op op' a b c)=(top ρ a (evE Γ ρ a)).bind fun x=>(top ρ b (evE Γ ρ b)).bind fun y=>(BX op x y).bind fun z=>(Du z).bind fun k=>if k=Ab then (top ρ c (evE Γ ρ c)).bind fun u=>BX op' y u else .ok (.bl Ad):=rfl
@[simp]theorem ZzD(c a b):evE Γ ρ (.ite c a b)=(top ρ c (evE Γ ρ c)).bind fun x=>(BM x).bind fun k=>if k=Ab then evE Γ ρ a else evE Γ ρ b:=rfl
@[simp]theorem Zv3(f as):evE Γ ρ (.call f as)=(evB Γ ρ as).bind fun xs=>(Γ.F f xs).bind fun d=>if HL ρ as=Ab then .ok d else if FS (Γ.fr f) d=Ab then .ok d else .bad:=rfl
@[simp]theorem Q3(f as):evE Γ ρ (.bi f as)=(evB Γ ρ as).bind fun xs=>biD f xs:=rfl
@[simp]theorem ZzE(a ks):evE Γ ρ (.isi a ks)=(top ρ a (evE Γ ρ a)).bind fun x=>Eb Γ.up ks x:=rfl
@[simp]theorem ZzG(a i):evE Γ ρ (.idx a i)=(top ρ a (evE Γ ρ a)).bind fun x=>(top ρ i (evE Γ ρ i)).bind fun y=>Bx x y:=rfl
@[simp]theorem ZBB(a lo hi):evE Γ ρ (.sl a lo hi)=(top ρ a (evE Γ ρ a)).bind fun x=>(top ρ lo (evE Γ ρ lo)).bind fun l=>(slE lo l).bind fun l'=>(top ρ hi (evE Γ ρ hi)).bind fun h=>(slE hi h).bind fun h'=>slD x l' h':=rfl
@[simp]theorem Zzz(es):evE Γ ρ (.tup es)=(evA Γ ρ es).bind fun xs=>.ok (.tup xs):=rfl
@[simp]theorem ZzC(es):evE Γ ρ (.lst es)=(evA Γ ρ es).bind fun xs=>.ok (.lst xs):=rfl
noncomputable def cG(Γ:Gam)(ρ:Rho)(t:Ag)(c:E):D->R Ak:=fun x=>(top (ρ.set t (Aa (x,Ad))) c (evE Γ (ρ.set t (Aa (x,Ad))) c)).bind BM
noncomputable def cF(Γ:Gam)(ρ:Rho)(t:Ag)(elt:E):D->R D:=fun x=>evE Γ (ρ.set t (Aa (x,Ad))) elt
noncomputable def mkL(r:R (Ac D)):R D:=(noX r).bind fun ys=>.ok (.lst ys)
@[simp]theorem ZBa(ys):mkL (.ok ys)=.ok (.lst ys):=rfl
@[simp]theorem Zv1(elt t it c):evE Γ ρ (.comp elt t it c)=(evI Γ ρ it).bind fun xs=>mkL (BD (cG Γ ρ t c) (cF Γ ρ t elt) xs):=rfl
noncomputable def cGT(Γ:Gam)(ρ:Rho)(ts:Ac Ag)(c:E):D->R Ak:=fun x=>(Gw ts x ρ).bind fun ρ'=>(top ρ' c (evE Γ ρ' c)).bind BM
noncomputable def cFT(Γ:Gam)(ρ:Rho)(ts:Ac Ag)(elt:E):D->R D:=fun x=>(Gw ts x ρ).bind fun ρ'=>evE Γ ρ' elt
@[simp]theorem Zuc(elt ts it c):evE Γ ρ (.compT elt ts it c)=(evI Γ ρ it).bind fun xs=>mkL (BD (cGT Γ ρ ts c) (cFT Γ ρ ts elt) xs):=rfl
@[simp]theorem jO(it):evE Γ ρ (.tupI it)=(evI Γ ρ it).bind fun xs=>.ok (.tup xs):=rfl
@[simp]theorem Zv0:evE Γ ρ .dnew=.ok (.dic []):=rfl
@[simp]theorem ZzH(o f):evE Γ ρ (.fld o f)=(top ρ o (evE Γ ρ o)).bind fun x=>M2 x f:=rfl
@[simp]theorem ZzL:evA Γ ρ .nil=.ok []:=rfl
@[simp]theorem UU(e es):evA Γ ρ (.cons e es)=(evE Γ ρ e).bind fun x=>(evA Γ ρ es).bind fun xs=>.ok (x::xs):=rfl
@[simp]theorem ZzK:evB Γ ρ .nil=.ok []:=rfl
@[simp]theorem P8(e es):evB Γ ρ (.cons e es)=(top ρ e (evE Γ ρ e)).bind fun x=>(evB Γ ρ es).bind fun xs=>.ok (x::xs):=rfl
@[simp]theorem ZCH(a):evI Γ ρ (.e a)=(evE Γ ρ a).bind CS:=rfl
@[simp]theorem Zzw(a):evI Γ ρ (.rng a)=(top ρ a (evE Γ ρ a)).bind fun x=>(DT x).bind fun j=>CC 0 j:=rfl
@[simp]theorem P7(a b):evI Γ ρ (.rng2 a b)=(top ρ a (evE Γ ρ a)).bind fun x=>(top ρ b (evE Γ ρ b)).bind fun y=>(DT x).bind fun i=>(DT y).bind fun j=>CC i j:=rfl
@[simp]theorem Zzv(a b):evI Γ ρ (.zip a b)=(evE Γ ρ a).bind fun x=>(evE Γ ρ b).bind fun y=>(CS x).bind fun xs=>(CS y).bind fun ys=>.ok (DU xs ys):=rfl
@[simp]theorem ZvY(a b c):evI Γ ρ (.zip3 a b c)=(evE Γ ρ a).bind fun x=>(evE Γ ρ b).bind fun y=>(evE Γ ρ c).bind fun z=>W2 x y z:=rfl
@[simp]theorem Zzx(a):evI Γ ρ (.enm a)=(evE Γ ρ a).bind fun x=>(CS x).bind fun xs=>.ok (EO 0 xs):=rfl
@[simp]theorem ZvV(a b):Fb Γ ρ (.zip a b)=evI Γ ρ (.zip a b):=rfl
@[simp]theorem Zub(a b c):Fb Γ ρ (.zip3 a b c)=evI Γ ρ (.zip3 a b c):=rfl
@[simp]theorem ZvX(a):Fb Γ ρ (.enm a)=evI Γ ρ (.enm a):=rfl
@[simp]theorem ZBz(a):Fb Γ ρ (.e a)=(evE Γ ρ a).bind CS:=rfl
@[simp]theorem ZvW(a):Fb Γ ρ (.rng a)=evI Γ ρ (.rng a):=rfl
@[simp]theorem Uc(a b):Fb Γ ρ (.rng2 a b)=evI Γ ρ (.rng2 a b):=rfl
variable(r:R D)
@[simp]theorem Zwu(i):top ρ (.var i) r=Dc ρ i:=rfl
@[simp]theorem Zwx:top ρ .non r=r:=rfl
@[simp]theorem ZAE(b):top ρ (.bl b) r=r:=rfl
@[simp]theorem ZwB(b):top ρ (.int b) r=r:=rfl
@[simp]theorem Zww(b):top ρ (.str b) r=r:=rfl
@[simp]theorem Zve(b):top ρ (.glob b) r=r:=rfl
@[simp]theorem ZwF(op a b):top ρ (.bin op a b) r=r:=rfl
@[simp]theorem ZAA(op a):top ρ (.un op a) r=r:=rfl
@[simp]theorem ZAD(a):top ρ (.no a) r=r:=rfl
@[simp]theorem ZwG(a):top ρ (.and a) r=r:=rfl
@[simp]theorem ZAC(a):top ρ (.or a) r=r:=rfl
@[simp]theorem ZwE(op a b):top ρ (.cmp op a b) r=r:=rfl
@[simp]theorem Zvh(op op' a b c):top ρ (.cmp2 op op' a b c) r=r:=rfl
@[simp]theorem Zwz(a b c):top ρ (.ite a b c) r=r:=rfl
@[simp]theorem Zvi(a b):top ρ (.call a b) r=r:=rfl
@[simp]theorem ZAF(a b):top ρ (.bi a b) r=r:=rfl
@[simp]theorem ZwA(a b):top ρ (.isi a b) r=r:=rfl
@[simp]theorem ZwC(a b):top ρ (.idx a b) r=r:=rfl
@[simp]theorem ZAB(a b c):top ρ (.sl a b c) r=r:=rfl
@[simp]theorem Zwv(a):top ρ (.tup a) r=r:=rfl
@[simp]theorem Zwy(a):top ρ (.lst a) r=r:=rfl
@[simp]theorem Zvg(a b c d):top ρ (.comp a b c d) r=r:=rfl
@[simp]theorem ZwD(a b):top ρ (.fld a b) r=r:=rfl
@[simp]theorem ZrR(a b c d):top ρ (.compT a b c d) r=r:=rfl
@[simp]theorem gP(a):top ρ (.tupI a) r=r:=rfl
@[simp]theorem Zvf:top ρ .dnew r=r:=rfl
end
@[simp]theorem ZrH(x:D×Ak)(ρ:Rho):Dc (Aa x::ρ) 0=.ok x.1:=rfl
@[simp]theorem ZrI(x:D)(ρ:Rho):ET (Aa (x,Ad)::ρ) 0=.ok x:=rfl
@[simp]theorem Zrd(x:Sl)(ρ:Rho)(i:Ag)[NeZero i]:Dc (x::ρ) i=Dc ρ (i-1):=by
 obtain⟨j,rfl⟩:∃ j,i=j+1:=⟨i-1,by have:=LX i;omega⟩
 rfl
@[simp]theorem Zre(x:Sl)(ρ:Rho)(i:Ag)[NeZero i]:ET (x::ρ) i=ET ρ (i-1):=by
 obtain⟨j,rfl⟩:∃ j,i=j+1:=⟨i-1,by have:=LX i;omega⟩
 rfl
noncomputable def shV(ρ:Rho)(i:Ag):Ak:=match ρ[i]? with
    |some (Aa (_,Ab))=>Ad
    |_=>Ab
@[simp]theorem Zvn(x:D)(b:Ak)(ρ:Rho):shV (Aa (x,b)::ρ) 0=!b:=by cases b<;>rfl
@[simp]theorem Zse(ρ:Rho):shV (Ae::ρ) 0=Ab:=rfl
@[simp]theorem Zsf(x:Sl)(ρ:Rho)(i:Ag)[NeZero i]:shV (x::ρ) i=shV ρ (i-1):=by
 obtain⟨j,rfl⟩:∃ j,i=j+1:=⟨i-1,by have:=LX i;omega⟩
 rfl
section
variable(ρ:Rho)
@[simp]theorem Zxa(i):shE ρ (.var i)=shV ρ i:=rfl
@[simp]theorem Zxd:shE ρ .non=Ab:=rfl
@[simp]theorem ZAV(b):shE ρ (.bl b)=Ab:=rfl
@[simp]theorem Zxh(b):shE ρ (.int b)=Ab:=rfl
@[simp]theorem Zxc(b):shE ρ (.str b)=Ab:=rfl
@[simp]theorem Zvq(b):shE ρ (.glob b)=Ab:=rfl
@[simp]theorem Zxl(op a b):shE ρ (.bin op a b)=Ab:=rfl
@[simp]theorem ZAR(op a):shE ρ (.un op a)=Ab:=rfl
@[simp]theorem ZAU(a):shE ρ (.no a)=Ab:=rfl
@[simp]theorem Zxm(a):shE ρ (.and a)=Ab:=rfl
@[simp]theorem ZAT(a):shE ρ (.or a)=Ab:=rfl
@[simp]theorem Zxk(op a b):shE ρ (.cmp op a b)=Ab:=rfl
@[simp]theorem Zvt(op op' a b c):shE ρ (.cmp2 op op' a b c)=Ab:=rfl
@[simp]theorem Zxf(a b c):shE ρ (.ite a b c)=Ab:=rfl
@[simp]theorem Zvu(a b):shE ρ (.call a b)=Ab:=rfl
@[simp]theorem ZAW(a b):shE ρ (.bi a b)=Ab:=rfl
@[simp]theorem Zxg(a b):shE ρ (.isi a b)=Ab:=rfl
@[simp]theorem Zxi(a b):shE ρ (.idx a b)=Ab:=rfl
@[simp]theorem ZAS(a b c):shE ρ (.sl a b c)=Ab:=rfl
@[simp]theorem Zxb(a):shE ρ (.tup a)=Ab:=rfl
@[simp]theorem Zxe(a):shE ρ (.lst a)=Ab:=rfl
@[simp]theorem Zvs(a b c d):shE ρ (.comp a b c d)=Ab:=rfl
@[simp]theorem Zsg(a b c d):shE ρ (.compT a b c d)=Ab:=rfl
@[simp]theorem Zvp(a):shE ρ (.tupI a)=Ab:=rfl
@[simp]theorem Zvr:shE ρ .dnew=Ab:=rfl
@[simp]theorem Zxj(a b):shE ρ (.fld a b)=Ab:=rfl
@[simp]theorem Zvo:HL ρ .nil=Ab:=rfl
@[simp]theorem eS(e es):HL ρ (.cons e es)=(shE ρ e&&HL ρ es):=rfl
end
@[simp]theorem Zrk(ρ:Rho):EK [] [] ρ=Aa ρ:=rfl
@[simp]theorem ZoS(t ts d ds)(ρ:Rho):EK (t::ts) (d::ds) ρ=EK ts ds (ρ.set t (Aa (d,Ad))):=rfl
@[simp]theorem iL(ts ds)(ρ:Rho):Hb ts (.lst ds) ρ=match EK ts ds ρ with
  |some ρ'=>.ok ρ'
  |none=>.bad:=rfl
@[simp]theorem ZuF(ts ds)(ρ:Rho):Hb ts (.tup ds) ρ=Gw ts (.tup ds) ρ:=rfl
@[simp]theorem TD(ts ds)(ρ:Rho):Gw ts (.tup ds) ρ=match EK ts ds ρ with
  |some ρ'=>.ok ρ'
  |none=>.bad:=rfl
@[simp]theorem Zwc{β:Type}(c:Prop)[Fm c](a b:R α)(f:α->R β):(if c then a else b).bind f=if c then a.bind f else b.bind f:=by split<;>rfl
@[simp]theorem ZA8(ρ:Rho)(c:Prop)[Fm c](a b:R α)(f:α->O):O.of ρ (if c then a else b) f=if c then O.of ρ a f else O.of ρ b f:=by split<;>rfl
@[simp]theorem ZyB{β:Type}(ρ:Rho)(a:R α)(g:α->R β)(f:β->O):O.of ρ (a.bind g) f=O.of ρ a fun x=>O.of ρ (g x) f:=by cases a<;>rfl
@[simp]theorem Zxo(c:Prop)[Fm c](a b:O)(f:Rho->O):O.seq (if c then a else b) f=if c then a.seq f else b.seq f:=by split<;>rfl
@[simp]theorem Zu4(c:Prop)[Fm c](a b:O)(f:Rho->O):O.turn (if c then a else b) f=if c then a.turn f else b.turn f:=by split<;>rfl
@[simp]theorem ZAb(fr:Ak)(c:Prop)[Fm c](a b:O):O.ans fr (if c then a else b)=if c then a.ans fr else b.ans fr:=by split<;>rfl
@[simp]theorem Zvv(ρ f):O.seq (.next ρ) f=f ρ:=rfl
@[simp]theorem Zxn(d b f):O.seq (.ret d b) f=.ret d b:=rfl
@[simp]theorem Zxq(ρ f):O.seq (.brk ρ) f=.brk ρ:=rfl
@[simp]theorem Zvw(ρ f):O.seq (.cont ρ) f=.cont ρ:=rfl
@[simp]theorem Zxp(x ρ f):O.seq (.exn x ρ) f=.exn x ρ:=rfl
@[simp]theorem Zxr(f):O.seq .bad f=.bad:=rfl
@[simp]theorem ZrN(ρ f):O.turn (.next ρ) f=f ρ:=rfl
@[simp]theorem Zu3(d b f):O.turn (.ret d b) f=.ret d b:=rfl
@[simp]theorem Zu6(ρ f):O.turn (.brk ρ) f=.next ρ:=rfl
@[simp]theorem ZrO(ρ f):O.turn (.cont ρ) f=f ρ:=rfl
@[simp]theorem Zu5(x ρ f):O.turn (.exn x ρ) f=.exn x ρ:=rfl
@[simp]theorem Zu7(f):O.turn .bad f=.bad:=rfl
@[simp]theorem Zwe(ρ):O.ans Ad (.next ρ)=.ok .non:=rfl
@[simp]theorem ZAa(d b):O.ans Ad (.ret d b)=.ok d:=rfl
@[simp]theorem Zwd(d b):O.ans Ab (.ret d b)=if (!b&&isL d)=Ab then .bad else .ok d:=rfl
@[simp]theorem Zy0(d):isL (.lst d)=Ab:=rfl
@[simp]theorem ZyZ(d):isL (.tup d)=Ad:=rfl
@[simp]theorem Zy1(d):isL (.int d)=Ad:=rfl
@[simp]theorem ZAc(fr x ρ):O.ans fr (.exn x ρ)=.exn x:=rfl
@[simp]theorem ZAd(fr):O.ans fr .bad=.bad:=rfl
@[simp]theorem ZBO(i j:Af):C8 .Add (.int i) (.int j)=.ok (.int (i+j)):=rfl
@[simp]theorem ZAL(i j:Af):C8 .Sub (.int i) (.int j)=.ok (.int (i-j)):=rfl
@[simp]theorem vJ(i j:Af):C8 .Mult (.int i) (.int j)=if (DS i j||EM i j)=Ab then .ok (.int (i*j)) else .bad:=rfl
@[simp]theorem qK(i j:Af):C8 .FloorDiv (.int i) (.int j)=if 0<j/\j<1073741824 then .ok (.int (i / j)) else .bad:=rfl
@[simp]theorem vP(i j:Af):C8 .Mod (.int i) (.int j)=if 0<j then .ok (.int (i%j)) else .bad:=rfl
@[simp]theorem rQ(i j:Af):C8 .Pow (.int i) (.int j)=if (0<=j/\j<=1000000)/\(-(18446744073709551616:Af)<i/\i<18446744073709551616) then .ok (.int (i ^ j.toNat)) else .bad:=rfl
@[simp]theorem vX(x y:Ai):C8 .Add (.str x) (.str y)=if Dq (x.length+y.length)=Ab then .ok (.str (x++y)) else .bad:=rfl
@[simp]theorem Rb(x y:Ac D):C8 .Add (.lst x) (.lst y)=if Dq (x.length+y.length)=Ab then .ok (.lst (x++y)) else .bad:=rfl
@[simp]theorem vW(x y:Ac D):C8 .Add (.tup x) (.tup y)=if (!x.isEmpty&&Dq (x.length+y.length))=Ab then .ok (.tup (x++y)) else .bad:=rfl
@[simp]theorem ZCi(i:Af):unD .USub (.int i)=.ok (.int (-i)):=rfl
@[simp]theorem ce(x y:D):BX .Eq x y=if (flD 5 x&&flD 5 y)=Ab then .ok (.bl (eqD x y)) else .bad:=rfl
@[simp]theorem zR(x y:D):BX .NotEq x y=if (flD 5 x&&flD 5 y)=Ab then .ok (.bl (!eqD x y)) else .bad:=rfl
@[simp]theorem ZCj(i j:Af):BX .Lt (.int i) (.int j)=.ok (.bl (decide (i<j))):=rfl
@[simp]theorem ZCm(i j:Af):BX .LtE (.int i) (.int j)=.ok (.bl (decide (i<=j))):=rfl
@[simp]theorem ZCx(i j:Af):BX .Gt (.int i) (.int j)=.ok (.bl (decide (j<i))):=rfl
@[simp]theorem ZCy(i j:Af):BX .GtE (.int i) (.int j)=.ok (.bl (decide (j<=i))):=rfl
@[simp]theorem cV(x:D)(ys:Ac D):BX .In x (.lst ys)=if (flD 5 x&&ys.all (flD 5))=Ab then .ok (.bl (ys.any fun y=>eqD y x)) else .bad:=rfl
@[simp]theorem cU(x:D)(ys:Ac D):BX .In x (.tup ys)=if (flD 5 x&&ys.all (flD 5))=Ab then .ok (.bl (ys.any fun y=>eqD y x)) else .bad:=rfl
@[simp]theorem zP(x:D)(ys:Ac D):BX .NotIn x (.lst ys)=if (flD 5 x&&ys.all (flD 5))=Ab then .ok (.bl (!ys.any fun y=>eqD y x)) else .bad:=rfl
@[simp]theorem zO(x:D)(ys:Ac D):BX .NotIn x (.tup ys)=if (flD 5 x&&ys.all (flD 5))=Ab then .ok (.bl (!ys.any fun y=>eqD y x)) else .bad:=rfl
@[simp]theorem ZBk:BX .Is .non .non=.ok (.bl Ab):=rfl
@[simp]theorem ZBm(i):BX .Is (.int i) .non=.ok (.bl Ad):=rfl
@[simp]theorem ZBj(i):BX .Is (.tup i) .non=.ok (.bl Ad):=rfl
@[simp]theorem ZBl(i):BX .Is (.lst i) .non=.ok (.bl Ad):=rfl
@[simp]theorem ZCp(a b):BX .Is (.bl a) (.bl b)=.ok (.bl (a==b)):=rfl
@[simp]theorem ZBg(a b):BX .IsNot (.bl a) (.bl b)=.ok (.bl (!(a==b))):=rfl
@[simp]theorem ZyP:BX .IsNot .non .non=.ok (.bl Ad):=rfl
@[simp]theorem ZyR(i):BX .IsNot (.int i) .non=.ok (.bl Ab):=rfl
@[simp]theorem ZyO(i):BX .IsNot (.tup i) .non=.ok (.bl Ab):=rfl
@[simp]theorem ZyQ(i):BX .IsNot (.lst i) .non=.ok (.bl Ab):=rfl
@[simp]theorem ZzR(i j:Af):eqD (.int i) (.int j)=(i==j):=rfl
@[simp]theorem ZBF(i j:Ak):eqD (.bl i) (.bl j)=(i==j):=rfl
@[simp]theorem ZzO(i j:Ai):eqD (.str i) (.str j)=(i==j):=rfl
@[simp]theorem ZzN(i j:Ac D):eqD (.tup i) (.tup j)=eqDs i j:=rfl
@[simp]theorem ZzQ(i j:Ac D):eqD (.lst i) (.lst j)=eqDs i j:=rfl
@[simp]theorem ZzP:eqD .non .non=Ab:=rfl
@[simp]theorem Zqt(i):eqD .non (.int i)=Ad:=rfl
@[simp]theorem Zqu(i):eqD (.int i) .non=Ad:=rfl
@[simp]theorem Zv4:eqDs [] []=Ab:=rfl
@[simp]theorem Pv(x y:D)(xs ys:Ac D):eqDs (x::xs) (y::ys)=(eqD x y&&eqDs xs ys):=rfl
@[simp]theorem Zzh(n)(i:Af):flD n (.int i)=Ab:=by cases n<;>rfl
@[simp]theorem ZBy(n)(i:Ak):flD n (.bl i)=Ab:=by cases n<;>rfl
@[simp]theorem Zzf(n)(i:Ai):flD n (.str i)=Ab:=by cases n<;>rfl
@[simp]theorem Zzg(n):flD n .non=Ab:=by cases n<;>rfl
@[simp]theorem ZvB(i):flD 5 (.tup i)=i.all (flD 4):=rfl
@[simp]theorem ZvG(i):flD 5 (.lst i)=i.all (flD 4):=rfl
@[simp]theorem ZvC(i):flD 4 (.tup i)=i.all (flD 3):=rfl
@[simp]theorem ZvH(i):flD 4 (.lst i)=i.all (flD 3):=rfl
@[simp]theorem ZvD(i):flD 3 (.tup i)=i.all (flD 2):=rfl
@[simp]theorem ZvI(i):flD 3 (.lst i)=i.all (flD 2):=rfl
@[simp]theorem ZvE(i):flD 2 (.tup i)=i.all (flD 1):=rfl
@[simp]theorem ZvJ(i):flD 2 (.lst i)=i.all (flD 1):=rfl
@[simp]theorem ZvF(i):flD 1 (.tup i)=i.all (flD 0):=rfl
@[simp]theorem ZvK(i):flD 1 (.lst i)=i.all (flD 0):=rfl
@[simp]theorem Zws(b):BM (.bl b)=.ok b:=rfl
@[simp]theorem Zvb(i):BM (.int i)=.ok (i != 0):=rfl
@[simp]theorem Zva(i):BM (.lst i)=.ok (!i.isEmpty):=rfl
@[simp]theorem Zu8(i):BM (.tup i)=.ok (!i.isEmpty):=rfl
@[simp]theorem Zu9:BM .non=.ok Ad:=rfl
@[simp]theorem Zwt(b):FR (.bl b)=.ok b:=rfl
@[simp]theorem Zvd(i):FR (.int i)=.ok (i != 0):=rfl
@[simp]theorem Zvc:FR .non=.ok Ad:=rfl
@[simp]theorem ZuQ:LF []=.ok Ab:=rfl
@[simp]theorem Zrx(x r):LF (x::r)=(FR x).bind fun b=>(LF r).bind fun c=>.ok (b&&c):=rfl
@[simp]theorem ZuP:FQ []=.ok Ad:=rfl
@[simp]theorem TH(x r):FQ (x::r)=(FR x).bind fun b=>(FQ r).bind fun c=>.ok (b||c):=rfl
@[simp]theorem ZzZ(b)(d):Ec b (.ok d)=.ok d:=by cases b<;>rfl
@[simp]theorem Zv7(b):Ec b .bad=.bad:=by cases b<;>rfl
@[simp]theorem Zv6(x):Ec Ab (.exn x)=.exn x:=rfl
@[simp]theorem Zru(r):Ec Ad r=noX r:=rfl
@[simp]theorem ZyC(a:α):noX (.ok a)=.ok a:=rfl
@[simp]theorem ZyE:noX (.bad:R α)=.bad:=rfl
@[simp]theorem ZyD(x):noX (.exn x:R α)=.bad:=rfl
@[simp]theorem Zz8(b):Du (.bl b)=.ok b:=rfl
@[simp]theorem Mm(b):DT (.int b)=.ok b:=rfl
@[simp]theorem ZuJ(b):Ry (.lst b)=.ok b:=rfl
@[simp]theorem ZuI(b):CS (.lst b)=.ok b:=rfl
@[simp]theorem ZuH(b):CS (.tup b)=.ok b:=rfl
@[simp]theorem zH(xs i):Bx (.lst xs) (.int i)=Dj xs i:=rfl
@[simp]theorem zG(xs i):Bx (.tup xs) (.int i)=Dj xs i:=rfl
@[simp]theorem ZCl(xs):biD .len [.lst xs]=.ok (.int xs.length):=rfl
@[simp]theorem ZCk(xs):biD .len [.tup xs]=.ok (.int xs.length):=rfl
@[simp]theorem ZCU(i):biD .abs [.int i]=.ok (.int (if i<0 then -i else i)):=rfl
@[simp]theorem ZBc(i j):biD .max [.int i,.int j]=.ok (.int (if i<j then j else i)):=rfl
@[simp]theorem ZBb(i j):biD .min [.int i,.int j]=.ok (.int (if j<i then j else i)):=rfl
@[simp]theorem ZCr(i):biD .int [.int i]=.ok (.int i):=rfl
@[simp]theorem ZCs(i):biD .int [.bl i]=.ok (.int (b2i i)):=rfl
@[simp]theorem ZBf(i):biD .list [.lst i]=.ok (.lst i):=rfl
@[simp]theorem uF(i):biD .list [.tup i]=.ok (.lst i):=rfl
@[simp]theorem Zwr(i):biD .tuple [.lst i]=.ok (.tup i):=rfl
@[simp]theorem Zwq(i):biD .tuple [.tup i]=.ok (.tup i):=rfl
@[simp]theorem ZCT(i):biD .all [.lst i]=(LF i).bind fun b=>.ok (.bl b):=rfl
@[simp]theorem ZCS(i):biD .any [.lst i]=(FQ i).bind fun b=>.ok (.bl b):=rfl
@[simp]theorem ZCR(i):biD .any [.tup i]=(FQ i).bind fun b=>.ok (.bl b):=rfl
@[simp]theorem ZB9(i):biD .sum [.lst i]=(HN 0 i).bind fun b=>.ok (.int b):=rfl
@[simp]theorem ZB8(i):biD .sum [.tup i]=(HN 0 i).bind fun b=>.ok (.int b):=rfl
@[simp]theorem Zvl(i):biD .sorted [.lst i]=(Vx i).bind fun b=>.ok (.lst b):=rfl
@[simp]theorem ZCa(xs k):biD .stp [.lst xs,.int k]=.ok (.lst (Sg k.toNat xs)):=rfl
@[simp]theorem ZCd(xs):biD .rvs [.lst xs]=.ok (.lst xs.reverse):=rfl
@[simp]theorem ZBd(xs):biD .lset [.lst xs]=Oz xs:=rfl
@[simp]theorem ZAG(x y):biD .tmin [x,y]=mmD Ad x y:=rfl
@[simp]theorem ZBW(x y):biD .tlt [x,y]=Sc x y:=rfl
@[simp]theorem ZAH(x y):biD .tmax [x,y]=mmD Ab x y:=rfl
@[simp]theorem Zz1(xs x):biD .count [.lst xs,x]=if (flD 5 x&&xs.all (flD 5))=Ab then .ok (.int ((xs.filter fun y=>eqD y x).length:Ag)) else .bad:=rfl
@[simp]theorem cJ(xs lo hi):slD (.tup xs) lo hi=if (Ik xs.length 0 lo==0&&Ik xs.length xs.length hi==xs.length)=Ab then .bad else .ok (.tup (Kw xs lo hi)):=rfl
@[simp]theorem ZC5(xs lo hi):slD (.lst xs) lo hi=.ok (.lst (Kw xs lo hi)):=rfl
@[simp]theorem Zw4(d):slE .non d=.ok Ae:=rfl
@[simp]theorem Zw5(k i):slE (.int k) (.int i)=.ok (Aa i):=rfl
@[simp]theorem Zw3(k i):slE (.var k) (.int i)=.ok (Aa i):=rfl
@[simp]theorem Zw6(op a b i):slE (.bin op a b) (.int i)=.ok (Aa i):=rfl
@[simp]theorem ZAO(op a i):slE (.un op a) (.int i)=.ok (Aa i):=rfl
@[simp]theorem ZAP(b as i):slE (.bi b as) (.int i)=.ok (Aa i):=rfl
@[simp]theorem ZyU(up ks):Eb up ks .non=if ks.any Ed=Ab then .bad else .ok (.bl (ks.any fun k=>kiD up k .non)):=rfl
@[simp]theorem ZBh(up ks b):Eb up ks (.bl b)=if ks.any Ed=Ab then .bad else .ok (.bl (ks.any fun k=>kiD up k (.bl b))):=rfl
@[simp]theorem ZyW(up ks b):Eb up ks (.int b)=if ks.any Ed=Ab then .bad else .ok (.bl (ks.any fun k=>kiD up k (.int b))):=rfl
@[simp]theorem ZyT(up ks b):Eb up ks (.str b)=if ks.any Ed=Ab then .bad else .ok (.bl (ks.any fun k=>kiD up k (.str b))):=rfl
@[simp]theorem ZyS(up ks b):Eb up ks (.tup b)=if ks.any Ed=Ab then .bad else .ok (.bl (ks.any fun k=>kiD up k (.tup b))):=rfl
@[simp]theorem ZyV(up ks b):Eb up ks (.lst b)=if ks.any Ed=Ab then .bad else .ok (.bl (ks.any fun k=>kiD up k (.lst b))):=rfl
@[simp]theorem ZyX(up ks c f):Eb up ks (.exc c f)=if ks.all Ed=Ab then .ok (.bl (ks.any fun k=>kiD up k (.exc c f))) else .bad:=rfl
@[simp]theorem Zwa(c):Ed (.cls c)=Ab:=rfl
@[simp]theorem Zuk:Ed .verr=Ab:=rfl
@[simp]theorem Zv9:Ed .int=Ad:=rfl
@[simp]theorem Zum:Ed .bool=Ad:=rfl
@[simp]theorem Zv8:Ed .str=Ad:=rfl
@[simp]theorem Zul:Ed .list=Ad:=rfl
@[simp]theorem Zrv:Ed .tuple=Ad:=rfl
@[simp]theorem Zrq(up i):kiD up .int (.int i)=Ab:=rfl
@[simp]theorem Zrp(up):kiD up .int .non=Ad:=rfl
@[simp]theorem ZpY(up i):kiD up .bool (.int i)=Ad:=rfl
@[simp]theorem Zro(up i):kiD up .int (.tup i)=Ad:=rfl
@[simp]theorem Zrs(up i):kiD up .bool (.bl i)=Ab:=rfl
@[simp]theorem ZpX(up):kiD up .bool .non=Ad:=rfl
@[simp]theorem ZpW(up i):kiD up .list (.lst i)=Ab:=rfl
@[simp]theorem ZnH(up i):kiD up .tuple (.tup i)=Ab:=rfl
@[simp]theorem ZnI(up):kiD up .tuple .non=Ad:=rfl
@[simp]theorem Zrr(up c k f):kiD up (.cls c) (.exc k f)=(up k).contains c:=rfl
@[simp]theorem ZpV(up k f):kiD up .verr (.exc k f)=Ab:=rfl
theorem jH(xs:Ac D)(k:Ag)(h:k<xs.length):Dj xs (k:Af)=.ok (xs[k]):=by
 unfold Dj plD;have h1:(0:Af)<=k:=Int.natCast_nonneg k;have h2:(k:Af)<(xs.length:Ag):=by omega
 rw[AA h1,AA h2];simp[h]
theorem NE{xs:Ac D}{i:Af}{d:D}(h0:0<=i)(h:xs[i.toNat]?=Aa d):Dj xs i=.ok d:=by
 unfold Dj plD;obtain⟨h1,_⟩:=AS.mp h;rw[AA h0,AA (by omega)]
 dsimp only;rw[h]
section
variable(Γ:Gam)(ρ:Rho)
@[simp]theorem ZvL:evSs Γ ρ .nil=.next ρ:=rfl
noncomputable def Ga(Γ:Gam)(ss:Ss)(o:O):O:=o.seq fun ρ'=>evSs Γ ρ' ss
@[simp]theorem Ml(s ss):evSs Γ ρ (.cons s ss)=Ga Γ ss (evS Γ ρ s):=rfl
@[simp]theorem Zza(ss):Ga Γ ss (.next ρ)=evSs Γ ρ ss:=rfl
@[simp]theorem ZBr(ss d b):Ga Γ ss (.ret d b)=.ret d b:=rfl
@[simp]theorem ZBu(ss):Ga Γ ss (.brk ρ)=.brk ρ:=rfl
@[simp]theorem Zzb(ss):Ga Γ ss (.cont ρ)=.cont ρ:=rfl
@[simp]theorem ZBt(ss x):Ga Γ ss (.exn x ρ)=.exn x ρ:=rfl
@[simp]theorem ZBv(ss):Ga Γ ss .bad=.bad:=rfl
@[simp]theorem ZBs(ss)(c:Prop)[Fm c](a b:O):Ga Γ ss (if c then a else b)=if c then Ga Γ ss a else Ga Γ ss b:=by split<;>rfl
@[simp]theorem uU(o:O):Ga Γ .nil o=o:=by cases o<;>rfl
noncomputable def By(Γ:Gam)(t:Ag)(body:Ss):D->Rho->O:=fun x ρ'=>evSs Γ (ρ'.set t (Aa (x,Ad))) body
noncomputable def whC(Γ:Gam)(c:E):Rho->R Ak:=fun ρ'=>(top ρ' c (evE Γ ρ' c)).bind BM
noncomputable def whB(Γ:Gam)(body:Ss):Rho->O:=fun ρ'=>evSs Γ ρ' body
noncomputable def S5(Γ:Gam)(t:Ag)(body:Ss)(ρ:Rho)(r:R (Ac D)):O:=O.of ρ r fun xs=>CD (By Γ t body) xs ρ
@[simp]theorem Qz(t body xs):S5 Γ t body ρ (.ok xs)=CD (By Γ t body) xs ρ:=rfl
@[simp]theorem ZvP:evS Γ ρ .pass=.next ρ:=rfl
@[simp]theorem Zzr(i e):evS Γ ρ (.asg i Ad e)=O.of ρ (evE Γ ρ e) fun d=>.next (ρ.set i (Aa (d,Ad))):=rfl
@[simp]theorem ZvQ(e):evS Γ ρ (.expr e)=O.of ρ (evE Γ ρ e) fun _=>.next ρ:=rfl
@[simp]theorem Zzm(e):evS Γ ρ (.ret e)=O.of ρ (top ρ e (evE Γ ρ e)) fun d=>.ret d (DN Γ e||(match e with | .var i=>(match ρ[i]? with|some (Aa (_,o))=>o|_=>Ad)|_=>Ad)):=rfl
@[simp]theorem ZvN:evS Γ ρ .retN=.ret .non Ad:=rfl
@[simp]theorem Zzn(c a b):evS Γ ρ (.ife c a b)=O.of ρ ((top ρ c (evE Γ ρ c)).bind BM) fun k=>if k=Ab then evSs Γ ρ a else evSs Γ ρ b:=rfl
@[simp]theorem P6(t it body):evS Γ ρ (.fors t it body)=S5 Γ t body ρ (Fb Γ ρ it):=rfl
noncomputable def GM(Γ:Gam)(ts:Ac Ag)(body:Ss):D->Rho->O:=fun x ρ'=>O.of ρ' (Gw ts x ρ') fun ρ''=>evSs Γ ρ'' body
noncomputable def Xi(Γ:Gam)(ts:Ac Ag)(body:Ss)(ρ:Rho)(r:R (Ac D)):O:=O.of ρ r fun xs=>CD (GM Γ ts body) xs ρ
@[simp]theorem UP(t body xs):Xi Γ t body ρ (.ok xs)=CD (GM Γ t body) xs ρ:=rfl
@[simp]theorem UT(t it body):evS Γ ρ (.forT t it body)=Xi Γ t body ρ (Fb Γ ρ it):=rfl
@[simp]theorem ZvS(ts e):evS Γ ρ (.asgT ts e)=O.of ρ (evE Γ ρ e) fun d=>O.of ρ (Hb ts d ρ) fun ρ'=>.next ρ':=rfl
theorem jM(i e):evS Γ ρ (.asg i Ab e)=O.of ρ (evE Γ ρ e) fun d=>if DN Γ e=Ab then (match d with
      |.lst xs=>.next (ρ.set i (Aa (.lst xs,Ab)))
      |.dic xs=>.next (ρ.set i (Aa (.dic xs,Ab)))
      | _=>.bad) else .bad:=rfl
noncomputable def setF(ρ:Rho)(i:Ag):D->O
 |.lst xs=>.next (ρ.set i (Aa (.lst xs,Ab)))
 |.dic xs=>.next (ρ.set i (Aa (.dic xs,Ab)))
 |_=>.bad
@[simp]theorem ZAX(i xs):setF ρ i (.lst xs)=.next (ρ.set i (Aa (.lst xs,Ab))):=rfl
@[simp]theorem ZAY(i xs):setF ρ i (.dic xs)=.next (ρ.set i (Aa (.dic xs,Ab))):=rfl
@[simp]theorem fM(i e):evS Γ ρ (.asg i Ab e)=O.of ρ (evE Γ ρ e) fun d=>if DN Γ e=Ab then setF ρ i d else .bad:=by
 rw[jM]
 congr 1
@[simp]theorem Zzs(i e):evS Γ ρ (.app i e)=O.of ρ (Cr ρ i) fun xs=>O.of ρ (evE Γ ρ e) fun d=>if Dq (xs.length+1)=Ab then .next (ρ.set i (Aa (.lst (xs++[d]),Ab))) else .bad:=rfl
@[simp]theorem Zzo(i e):evS Γ ρ (.ext i e)=O.of ρ (Cr ρ i) fun xs=>O.of ρ (evE Γ ρ e) fun d=>O.of ρ (Ry d) fun ys=>if Dq (xs.length+ys.length)=Ab then .next (ρ.set i (Aa (.lst (xs++ys),Ab))) else .bad:=rfl
@[simp]theorem Zzl(i):evS Γ ρ (.rev i)=O.of ρ (Cr ρ i) fun xs=>.next (ρ.set i (Aa (.lst xs.reverse,Ab))):=rfl
@[simp]theorem Zzp(i):evS Γ ρ (.clr i)=O.of ρ (Cr ρ i) fun _=>.next (ρ.set i (Aa (.lst [],Ab))):=rfl
theorem QB(i k e):evS Γ ρ (.put i k e)=O.of ρ (evE Γ ρ e) fun d=>O.of ρ (Cr ρ i) fun xs=>O.of ρ ((top ρ k (evE Γ ρ k)).bind DT) fun j=>match plD xs.length j with
      |some n=>.next (ρ.set i (Aa (.lst (xs.set n d),Ab)))
      |none=>.bad:=rfl
theorem qM(i k l):evS Γ ρ (.swp i k l)=O.of ρ (evE Γ ρ (.tup (.cons (.idx (.var i) (.var l)) (.cons (.idx (.var i) (.var k)) .nil)))) fun d=>OG ρ d i k l:=rfl
theorem jN(j i e):evS Γ ρ (.apop j i e)=O.of ρ (Cr ρ j) fun ys=>O.of ρ (Cr ρ i) fun xs=>O.of ρ (evE Γ ρ e) fun d=>O.of ρ (DT d) fun n=>apD ρ j i ys xs n:=rfl
theorem VE(i):evS Γ ρ (.rel i)=match ρ[i]? with
      |some (Aa (d,Ab))=>.next (ρ.set i (Aa (d,Ad)))
      |_=>.next ρ:=rfl
@[simp]theorem jL(body c x h):evS Γ ρ (.tryx body c x h)=match evSs Γ ρ body with
      | .exn y ρ'=>if (Γ.up y.c).contains c=Ab then (match evSs Γ (ρ'.set x (Aa (.exc y.c y.fs,Ad))) h with
          |.next ρ''=>.next (ρ''.set x Ae)
          |.ret d f=>.ret d f
          | _=>.bad) else .bad
      |o=>o:=rfl
@[simp]theorem ZvM(body c x h c' h' els):evS Γ ρ (.try2 body c x h c' h' els)=match evSs Γ ρ body with
      |.exn y ρ'=>if (Γ.up y.c).contains c=Ab then hdO x y ρ' (fun r=>evSs Γ r h) else if (Γ.up y.c).contains c'=Ab then hdO x y ρ' (fun r=>evSs Γ r h') else .bad
      |.next ρ'=>evSs Γ ρ' els
      |o=>o:=rfl
@[simp]theorem Zzk(c body):evS Γ ρ (.whl c body)=RQ (whC Γ c) (whB Γ body) Xh ρ:=rfl
@[simp]theorem ZvO(c as):evS Γ ρ (.rais c as)=O.of ρ (noX (evA Γ ρ as)) fun xs=>O.of ρ (Γ.xn c xs) fun x=>.exn x ρ:=rfl
@[simp]theorem Zzq:evS Γ ρ .brk=.brk ρ:=rfl
@[simp]theorem ZvR:evS Γ ρ .cont=.cont ρ:=rfl
end
end Ov
namespace Ov
open PySem
theorem UQ{body:D->Rho->O}(P:Rho->Prop):∀(xs:Ac D)(ρ:Rho),P ρ->(∀ x∈xs,∀ ρ,P ρ->∃ ρ',body x ρ=.next ρ'/\P ρ')->∃ ρ',CD body xs ρ=.next ρ'/\P ρ'
 |[],ρ,h,_=>⟨ρ,rfl,h⟩
 |x::xs,ρ,h,k=>by
  obtain⟨ρ1,e1,h1⟩:=k x AB ρ h;obtain⟨ρ2,e2,h2⟩:=UQ P xs ρ1 h1 fun y hy=>k y (Ay _ hy)
  exact⟨ρ2,by show (body x ρ).turn _=_;rw[e1];exact e2,h2⟩
theorem PV(h:x∈BY lo n):∃ k:Ag,k<n/\x=.int (lo+(k:Af)):=by
 obtain⟨k,hk,e⟩:=Dm.mp h;exact⟨k,Bq.mp hk,e.symm⟩
theorem K4(lo:Af)(n:Ag):(BY lo n).length=n:=by simp[BY]
theorem UO{i:Ag}(h:(BY lo n)[i]?=Aa x):i<n/\x=.int (lo+(i:Af)):=by
 have hl:=(AS.mp h).1;rw[K4]at hl;unfold BY at h;rw[CT,List.getElem?_range hl]at h;cases h;exact⟨hl,rfl⟩
noncomputable def Ss.take:Ag->Ss->Ss
 |0,_=>.nil
 |_,.nil=>.nil
 |n+1,.cons s ss=>.cons s (ss.take n)
noncomputable def Ss.drop:Ag->Ss->Ss
 |0,ss=>ss
 |_,.nil=>.nil
 |n+1,.cons _ ss=>ss.drop n
theorem US(Γ:Gam):∀(n:Ag)(ss:Ss)(ρ:Rho),evSs Γ ρ ss=Ga Γ (ss.drop n) (evSs Γ ρ (ss.take n))
 |0,_,_=>rfl
 |_+1,.nil,_=>rfl
 |n+1,.cons s ss,ρ=>by
  show (evS Γ ρ s).seq (fun ρ'=>evSs Γ ρ' ss)=Ga Γ (ss.drop n) ((evS Γ ρ s).seq fun ρ'=>evSs Γ ρ' (ss.take n))
  cases evS Γ ρ s with
  |next ρ'=>exact US Γ n ss ρ'
  |_=>rfl
end Ov
end
section
namespace Ov
noncomputable def xfD:Ag->D->Ak
 |0,.int i=>decide (0<=i)&&decide (i<100)
 |n+1,.tup ds=>CZ ds.length 8&&ds.all (xfD n)
 |_,_=>Ad
noncomputable def mkX(c:Ag)(f:PySem.Str):Ac D->R Ex
 |[d]=>if (xfD 1 d||xfD 2 d)=Ab then .ok ⟨c,[(f,d)]⟩ else .bad
 |_=>.bad
end Ov
end
section
namespace OvC
open PySem Ov PyProof.Rows
variable{j:Af}
noncomputable abbrev scr(ns:Ac Af):D:=.lst (ns.map .int)
noncomputable abbrev sh(d:D):Sl:=Aa (d,Ad)
noncomputable abbrev si(i:Af):Sl:=Aa (.int i,Ad)
theorem four{P:Ag->Prop}(h0:P 0)(h1:P 1)(h2:P 2)(h3:P 3):P (j%4).toNat:=by
 have:(j%4).toNat=0\/(j%4).toNat=1\/(j%4).toNat=2\/(j%4).toNat=3:=by omega
 rcases this with e|e|e|e<;>rw[e]<;>assumption
def P4(p:Af):Prop:=p=3\/p=5\/p=7\/p=11
noncomputable def pr4(j:Af):Af:=[3,5,7,11].getD (j%4).toNat 0
theorem tD(j):P4 (pr4 j):=by
 unfold pr4;exact four (P:=fun j=>P4 ([3,5,7,11].getD j 0)) (.inl rfl) (.inr (.inl rfl)) (.inr (.inr (.inl rfl))) (.inr (.inr (.inr rfl)))
theorem P4.pos{p}(h:P4 p):0<p:=by rcases h with rfl|rfl|rfl|rfl<;>decide
theorem P4.lo{p}(h:P4 p):3<=p:=by rcases h with rfl|rfl|rfl|rfl<;>decide
theorem P4.hi{p}(h:P4 p):p<=11:=by rcases h with rfl|rfl|rfl|rfl<;>decide
theorem jG(j:Af):Dj [.int 3,.int 5,.int 7,.int 11] (j%4)=.ok (.int (pr4 j)):=by
 have h:=four (P:=fun j=>[D.int 3,D.int 5,D.int 7,D.int 11][j]?=Aa (D.int ([3,5,7,11].getD j 0))) (j:=j) rfl rfl rfl rfl
 exact NE (by omega) h
theorem IK{i:Af}(h0:-18446744073709551616<i)(h1:i<18446744073709551616):DS i j=Ab:=by simp[DS];left;exact⟨h0,h1⟩
theorem Qm{i:Af}(h0:-18446744073709551616<j)(h1:j<18446744073709551616):DS i j=Ab:=by simp[DS];right;exact⟨h0,h1⟩
noncomputable def QY:Df:=⟨2,Ad,(.cons (.ret (.bin .Mod (.var 1) (.var 0))) .nil)⟩
def Kg(Γ:Gam):Prop:=∀ p n:Af,0<p->Γ.F 1 [.int p,.int n]=.ok (.int (n%p))
theorem sH(Γ:Gam)(p n:Af)(h:0<p):QY.run Γ [.int p,.int n]=.ok (.int (n%p)):=by simp[QY,Df.run,Bv,h]
end OvC
end
namespace Ov
open PySem PySem.Spec PyProof.Rows L2
variable{A B:Am->Prop}{H H' H1 H0:Hp}{a b l q:Am}{xs ys vs:Ac V}{v:V}{d:D}{Rp Rq:Hp->V->D->Prop}{r:R D}{Q:VK}{X:Cx}{e c tg iter elt:An}{ρ:Rho}{i n j k:Ag}{x:Ex}{σ:L2.St}{g:D->D->R D}{op:C9}{K:Fg}{pI:Pn}{s:Ar}{items2 its items:Be Al}{h h' h2:AF}{u:Al}{its2:Ac Al}{es ifs:Ac An}{fs fi:Rho->R (Ac D)}{Q':Ap Af->Hp->Prop}{p pos' p2 pos pos2 tpos:AG}{T:C5}{f fc:Rho->R Ak}{α:Type}{Fz:Am->HO->Prop}{D':Ends}{lo:Af}{as:D->Rho->R Rho}{up:Ag->Ac Ag}{prog P:AO}{w:A4}{scope:B5}{env:B9}{cl:Ac (Ai×Am)}{N':Ac Ai}{ts:Ac Ag}{fp:Ac Am}{tt:TT}{te:TE}{J:It}{wi:TI}{t:Ak}{ta:TA}
abbrev ClA:=Ag->Ap Am
variable{CL:ClA}
def KL(K:Fg)(a:Am)(xs:Ac V):Prop:=∃(o:C3)(its:Be Al)(n:Ag),K.lookup a=Aa o/\o.cls=.type "list"/\o.dict=Ae/\o.data=.seq its n/\its.size<=sizeLine/\A7 xs its.toList
def KT(K:Fg)(a:Am)(xs:Ac V):Prop:=∃(o:C3)(its:Be Al)(n:Ag),K.lookup a=Aa o/\o.cls=.type "tuple"/\o.data=.seq its n/\its.size<=sizeLine/\A7 xs its.toList
section
variable(K:Fg)(CL:ClA)(H:Hp)(A:Am->Prop)
mutual
def Rep:V->D->Prop
 |v,.non=>v=.non
 |v,.bl b=>v=.bl b
 |v,.int i=>v=.int i
 |v,.str x=>v=.str x
 |v,.tup ds=>∃ a xs,v=.ref a/\(¬ A a\/KT K a xs)/\SqT K H a xs/\Reps xs ds
 |v,.lst ds=>∃ a xs,v=.ref a/\(¬ A a\/KL K a xs)/\SqL K H a xs/\Reps xs ds
 |v,.obj c fs=>∃ a C dx vs,v=.ref a/\¬ A a/\CL c=Aa C/\H a=Aa (.ins C dx vs)/\Repf vs fs
 |_,.dic _=>AX
 |v,.exc c fs=>∃ a C φ,v=.ref a/\¬ A a/\CL c=Aa C/\H a=Aa (.ext φ)/\(∀ h,φ h->∃ o,h.get? a=Aa o/\o.cls=.ref C)/\(fs=[]\/∃ dx vs,¬ A dx/\H dx=Aa (.xd vs)/\Repf vs fs/\∀ h,φ h->∃ o,h.get? a=Aa o/\o.dict=Aa dx/\∃ us,o.data=.fields us)
def Reps:Ac V->Ac D->Prop
 |[],[]=>HA
 |v::vs,d::ds=>Rep v d/\Reps vs ds
 |_,_=>AX
def Repf:Ac (Ai×V)->Ac (Ai×D)->Prop
 |[],[]=>HA
 |v::vs,d::ds=>Repp v d/\Repf vs ds
 |_,_=>AX
def Repp:Ai×V->Ai×D->Prop
 |v,(n,d)=>v.1=n/\Rep v.2 d
end
def CO(v:V)(d:D):Prop:=Rep K CL H A v d\/∃ a xs ds,v=.ref a/\d=.lst ds/\H a=Aa (.lst xs)/\Reps K CL H A xs ds
end
def Kp(A:Am->Prop)(H H':Hp):Prop:=∀ b o,H b=Aa o->¬ A b->H' b=Aa o
def AOk(H:Hp)(A:Am->Prop):Prop:=∀ a,A a->∃ xs,H a=Aa (.lst xs)
theorem Kp.of(h:AD H H'):Kp A H H':=fun b o e _=>h b o e
theorem AOk.same(h:AOk H A)(s:AD H H'):AOk H' A:=fun a ha=>let ⟨xs,e⟩:=h a ha;⟨xs,s _ _ e⟩
theorem AOk.new{p:Am}(h:AOk H A)(e:H p=Ae):¬ A p:=fun ha=>by
 obtain⟨xs,q⟩:=h p ha;rw[e]at q;cases q
section
variable{K:Fg}{CL:ClA}{H H':Hp}{A B:Am->Prop}
theorem Xf{u:HO}(k:Kp A H H')(na:¬ A a)(h:Rd H a u):Rd H' a u:=by
 rcases h with h|⟨o,h⟩
 ·exact .inl (k _ _ h na)
 ·exact .inr ⟨o,k _ _ h na⟩
theorem N6(k:Kp A H H')(na:¬ A a\/KL K a xs)(h:SqL K H a xs):SqL K H' a xs:=na.elim (fun na=>h.imp (Xf k na) id) .inr
theorem N5(k:Kp A H H')(na:¬ A a\/KT K a xs)(h:SqT K H a xs):SqT K H' a xs:=na.elim (fun na=>h.imp (Xf k na) id) .inr
mutual
theorem Rep.kp(k:Kp A H H'):∀{v:V}(d:D),Rep K CL H A v d->Rep K CL H' A v d
 |_,.non,h=>h
 |_,.bl _,h=>h
 |_,.int _,h=>h
 |_,.str _,h=>h
 |_,.dic _,h=>h.elim
 |_,.tup ds,h=>by
  obtain⟨a,xs,e,na,s,r⟩:=h;exact⟨a,xs,e,na,by first|exact N5 k na s|exact N6 k na s,Reps.kp k ds r⟩
 |_,.lst ds,h=>by
  obtain⟨a,xs,e,na,s,r⟩:=h;exact⟨a,xs,e,na,by first|exact N5 k na s|exact N6 k na s,Reps.kp k ds r⟩
 |_,.obj c fs,h=>by
  obtain⟨a,C,dx,vs,e,na,c,s,r⟩:=h;exact⟨a,C,dx,vs,e,na,c,k _ _ s na,Repf.kp k fs r⟩
 |_,.exc c fs,h=>by
  obtain⟨a,C,φ,e,na,c,s,p,q⟩:=h;refine⟨a,C,φ,e,na,c,k _ _ s na,p,q.imp id ?_⟩;rintro⟨dx,vs,nx,s2,r,z⟩;exact⟨dx,vs,nx,k _ _ s2 nx,Repf.kp k fs r,z⟩
theorem Reps.kp(k:Kp A H H'):∀{vs:Ac V}(ds:Ac D),Reps K CL H A vs ds->Reps K CL H' A vs ds
 |[],[],h=>h
 |_::_,d::ds,h=>⟨Rep.kp k d h.1,Reps.kp k ds h.2⟩
 |[],_::_,h=>h.elim
 |_::_,[],h=>h.elim
theorem Repf.kp(k:Kp A H H'):∀{vs:Ac (Ai×V)}(ds:Ac (Ai×D)),Repf K CL H A vs ds->Repf K CL H' A vs ds
 |[],[],h=>h
 |_::_,d::ds,h=>⟨Repp.kp k d h.1,Repf.kp k ds h.2⟩
 |[],_::_,h=>h.elim
 |_::_,[],h=>h.elim
theorem Repp.kp(k:Kp A H H'):∀{v:Ai×V}(d:Ai×D),Repp K CL H A v d->Repp K CL H' A v d
 |_,(_,d),h=>⟨h.1,Rep.kp k d h.2⟩
end
mutual
theorem Rep.sub(k:∀ a,B a->A a):∀{v:V}(d:D),Rep K CL H A v d->Rep K CL H B v d
 |_,.non,h=>h
 |_,.bl _,h=>h
 |_,.int _,h=>h
 |_,.str _,h=>h
 |_,.dic _,h=>h.elim
 |_,.tup ds,h=>by
  obtain⟨a,xs,e,na,s,r⟩:=h;exact⟨a,xs,e,na.imp (fun na z=>na (k _ z)) id,s,Reps.sub k ds r⟩
 |_,.lst ds,h=>by
  obtain⟨a,xs,e,na,s,r⟩:=h;exact⟨a,xs,e,na.imp (fun na z=>na (k _ z)) id,s,Reps.sub k ds r⟩
 |_,.obj c fs,h=>by
  obtain⟨a,C,dx,vs,e,na,c,s,r⟩:=h;exact⟨a,C,dx,vs,e,fun z=>na (k _ z),c,s,Repf.sub k fs r⟩
 |_,.exc c fs,h=>by
  obtain⟨a,C,φ,e,na,c,s,p,q⟩:=h;refine⟨a,C,φ,e,fun z=>na (k _ z),c,s,p,q.imp id ?_⟩
  rintro⟨dx,vs,nx,s2,r,z⟩;exact⟨dx,vs,fun z=>nx (k _ z),s2,Repf.sub k fs r,z⟩
theorem Reps.sub(k:∀ a,B a->A a):∀{vs:Ac V}(ds:Ac D),Reps K CL H A vs ds->Reps K CL H B vs ds
 |[],[],h=>h
 |_::_,d::ds,h=>⟨Rep.sub k d h.1,Reps.sub k ds h.2⟩
 |[],_::_,h=>h.elim
 |_::_,[],h=>h.elim
theorem Repf.sub(k:∀ a,B a->A a):∀{vs:Ac (Ai×V)}(ds:Ac (Ai×D)),Repf K CL H A vs ds->Repf K CL H B vs ds
 |[],[],h=>h
 |_::_,d::ds,h=>⟨Repp.sub k d h.1,Repf.sub k ds h.2⟩
 |[],_::_,h=>h.elim
 |_::_,[],h=>h.elim
theorem Repp.sub(k:∀ a,B a->A a):∀{v:Ai×V}(d:Ai×D),Repp K CL H A v d->Repp K CL H B v d
 |_,(_,d),h=>⟨h.1,Rep.sub k d h.2⟩
end
mutual
theorem Rep.wide(hp:∀ a,B a->A a\/H a=Ae):∀{v:V}(d:D),Rep K CL H A v d->Rep K CL H B v d
 |_,.non,h=>h
 |_,.bl _,h=>h
 |_,.int _,h=>h
 |_,.str _,h=>h
 |_,.dic _,h=>h.elim
 |_,.tup ds,h=>by
  obtain⟨a,xs,e,na,s,r⟩:=h;refine⟨a,xs,e,?_,s,Reps.wide hp ds r⟩;rcases s with s|s
  ·refine na.imp (fun na z=>(hp _ z).elim na fun e=>?_) id
   rcases s with s|⟨o,s⟩<;>rw[e]at s<;>cases s
  ·exact .inr s
 |_,.lst ds,h=>by
  obtain⟨a,xs,e,na,s,r⟩:=h;refine⟨a,xs,e,?_,s,Reps.wide hp ds r⟩;rcases s with s|s
  ·refine na.imp (fun na z=>(hp _ z).elim na fun e=>?_) id
   rcases s with s|⟨o,s⟩<;>rw[e]at s<;>cases s
  ·exact .inr s
 |_,.obj c fs,h=>by
  obtain⟨a,C,dx,vs,e,na,c,s,r⟩:=h;exact⟨a,C,dx,vs,e,(fun z=>(hp _ z).elim na fun e=>by rw[e]at s;cases s),c,s,Repf.wide hp fs r⟩
 |_,.exc c fs,h=>by
  obtain⟨a,C,φ,e,na,c,s,p,q⟩:=h;refine⟨a,C,φ,e,(fun z=>(hp _ z).elim na fun e=>by rw[e]at s;cases s),c,s,p,q.imp id ?_⟩
  rintro⟨dx,vs,nx,s2,r,z⟩;exact⟨dx,vs,(fun z=>(hp _ z).elim nx fun e=>by rw[e]at s2;cases s2),s2,Repf.wide hp fs r,z⟩
theorem Reps.wide(hp:∀ a,B a->A a\/H a=Ae):∀{vs:Ac V}(ds:Ac D),Reps K CL H A vs ds->Reps K CL H B vs ds
 |[],[],h=>h
 |_::_,d::ds,h=>⟨Rep.wide hp d h.1,Reps.wide hp ds h.2⟩
 |[],_::_,h=>h.elim
 |_::_,[],h=>h.elim
theorem Repf.wide(hp:∀ a,B a->A a\/H a=Ae):∀{vs:Ac (Ai×V)}(ds:Ac (Ai×D)),Repf K CL H A vs ds->Repf K CL H B vs ds
 |[],[],h=>h
 |_::_,d::ds,h=>⟨Repp.wide hp d h.1,Repf.wide hp ds h.2⟩
 |[],_::_,h=>h.elim
 |_::_,[],h=>h.elim
theorem Repp.wide(hp:∀ a,B a->A a\/H a=Ae):∀{v:Ai×V}(d:Ai×D),Repp K CL H A v d->Repp K CL H B v d
 |_,(_,d),h=>⟨h.1,Rep.wide hp d h.2⟩
end
theorem Rep.same(s:AD H H')(h:Rep K CL H A v d):Rep K CL H' A v d:=Rep.kp (Kp.of s) d h
theorem Reps.same{v:Ac V}{d:Ac D}(s:AD H H')(h:Reps K CL H A v d):Reps K CL H' A v d:=Reps.kp (Kp.of s) d h
theorem CO.same{v:V}{d:D}(s:AD H H')(h:CO K CL H A v d):CO K CL H' A v d:=by
 rcases h with h|⟨a,xs,ds,e,e2,q,r⟩
 ·exact .inl (h.same s)
 ·exact .inr ⟨a,xs,ds,e,e2,s _ _ q,r.same s⟩
theorem Reps.length:∀{vs:Ac V}{ds:Ac D},Reps K CL H A vs ds->vs.length=ds.length
 |[],[],_=>rfl
 |_::_,_::_,h=>congrArg (· + 1) (Reps.length h.2)
 |[],_::_,h=>h.elim
 |_::_,[],h=>h.elim
theorem Reps.append:∀{vs ws:Ac V}{ds es:Ac D},Reps K CL H A vs ds->Reps K CL H A ws es->Reps K CL H A (vs++ws) (ds++es)
 |[],_,[],_,_,h=>h
 |_::_,_,_::_,_,h,g=>⟨h.1,Reps.append h.2 g⟩
 |[],_,_::_,_,h,_=>h.elim
 |_::_,_,[],_,h,_=>h.elim
theorem Reps.get:∀{vs:Ac V}{ds:Ac D}{i:Ag}{d:D},Reps K CL H A vs ds->ds[i]?=Aa d->∃ v,vs[i]?=Aa v/\Rep K CL H A v d
 |[],[],_,_,_,e=>by simp at e
 |v::_,_::_,0,_,h,e=>by simp at e;subst e;exact⟨v,rfl,h.1⟩
 |_::_,_::_,i+1,_,h,e=>by
  obtain⟨v,q,r⟩:=Reps.get (i:=i) h.2 (by simpa using e)
  exact⟨v,by simpa using q,r⟩
 |[],_::_,_,_,h,_=>h.elim
 |_::_,[],_,_,h,_=>h.elim
theorem Reps.take:∀{vs:Ac V}{ds:Ac D}(n:Ag),Reps K CL H A vs ds->Reps K CL H A (vs.take n) (ds.take n)
 |_,_,0,_=>trivial
 |[],[],_+1,_=>trivial
 |_::_,_::_,n+1,h=>⟨h.1,Reps.take n h.2⟩
 |[],_::_,_+1,h=>h.elim
 |_::_,[],_+1,h=>h.elim
theorem Reps.drop:∀{vs:Ac V}{ds:Ac D}(n:Ag),Reps K CL H A vs ds->Reps K CL H A (vs.drop n) (ds.drop n)
 |_,_,0,h=>h
 |[],[],_+1,_=>trivial
 |_::_,_::_,n+1,h=>Reps.drop n h.2
 |[],_::_,_+1,h=>h.elim
 |_::_,[],_+1,h=>h.elim
theorem Reps.set{x:V}{e:D}(r:Rep K CL H A x e):∀{vs:Ac V}{ds:Ac D}(n:Ag),Reps K CL H A vs ds->Reps K CL H A (vs.set n x) (ds.set n e)
 |[],[],_,_=>trivial
 |_::_,_::_,0,h=>⟨r,h.2⟩
 |_::_,_::_,n+1,h=>⟨h.1,Reps.set r n h.2⟩
 |[],_::_,_,h=>h.elim
 |_::_,[],_,h=>h.elim
end
structure Good (K:Fg) (CL:ClA) (A:Am->Prop) (ρ:Rho) (σ:L2.St) (H:Hp):Prop where
 sh:∀(i:Ag)(d:D),ρ[i]?=Aa (Aa (d,Ad))->∃ v,σ[i]?=Aa (Aa v)/\Rep K CL H A v d
 ow:∀(i:Ag)(d:D),ρ[i]?=Aa (Aa (d,Ab))->∃ a xs ds,σ[i]?=Aa (Aa (.ref a))/\d=.lst ds/\A a/\H a=Aa (.lst xs)/\Reps K CL H A xs ds
 len:ρ.length=σ.length
theorem Good.same{K:Fg}{CL:ClA}{A:Am->Prop}{ρ:Rho}{σ:L2.St}{H H':Hp}(g:Good K CL A ρ σ H)(s:AD H H'):Good K CL A ρ σ H':=
 ⟨fun i d e=>let ⟨v,q,r⟩:=g.sh i d e;⟨v,q,r.same s⟩,fun i d e=>let ⟨a,xs,ds,q,z,na,h,r⟩:=g.ow i d e;⟨a,xs,ds,q,z,na,s _ _ h,r.same s⟩,g.len⟩
abbrev XW:=Ex->Hp->Prop
variable{W:XW}
def A9(Rp:Hp->V->D->Prop)(W:XW)(H:Hp)(r:R D)(Q:VK):Prop:=match r with
  |.ok d=>∀ v H',AD H H'->Rp H' v d->Q v H'
  |.exn x=>∀ H',AD H H'->W x H'
  |.bad=>AX
def HH(Rp:Hp->Ac V->Ac D->Prop)(W:XW)(H:Hp)(r:R (Ac D))(Q:Ac V->Hp->Prop):Prop:=match r with
  |.ok d=>∀ v H',AD H H'->Rp H' v d->Q v H'
  |.exn x=>∀ H',AD H H'->W x H'
  |.bad=>AX
def Db(W:XW)(H:Hp)(r:R Ak)(Q:Ak->Hp->Prop):Prop:=match r with
  |.ok b=>∀ H',AD H H'->Q b H'
  |.exn x=>∀ H',AD H H'->W x H'
  |.bad=>AX
theorem A9.same(s:AD H H')(h:A9 Rp W H r Q):A9 Rp W H' r Q:=by
 cases r with
 |ok d=>exact fun v H2 s2 q=>h v H2 (s.trans s2) q
 |exn x=>exact fun H2 s2=>h H2 (s.trans s2)
 |bad=>exact h
theorem Db.same{r:R Ak}{Q:Ak->Hp->Prop}(s:AD H H')(h:Db W H r Q):Db W H' r Q:=by
 cases r with
 |ok d=>exact fun H2 s2=>h H2 (s.trans s2)
 |exn x=>exact fun H2 s2=>h H2 (s.trans s2)
 |bad=>exact h
theorem A9.bind{f:D->R D}{Q':VK}(h:A9 Rq W H (r.bind f) Q)(k:∀ d v H',r=.ok d->AD H H'->Rp H' v d->A9 Rq W H' (f d) Q->Q' v H'):A9 Rp W H r Q':=by
 cases r with
 |ok d=>exact fun v H2 s2 q=>k d v H2 rfl s2 q (A9.same s2 h)
 |exn x=>exact h
 |bad=>exact h
section
variable(X:Cx)(CL:ClA)(W:XW)
def SE(e:An)(f:Rho->R D):Prop:=∀ A,PE X e (fun σ H Q=>AOk H A/\∃ ρ,Good X.K CL A ρ σ H/\A9 (fun H=>Rep X.K CL H A) W H (f ρ) Q)
def ST(e:An)(f:Rho->R D):Prop:=∀ A,PE X e (fun σ H Q=>AOk H A/\∃ ρ,Good X.K CL A ρ σ H/\A9 (fun H=>CO X.K CL H A) W H (f ρ) Q)
def SB(e:An)(f:Rho->R Ak):Prop:=∀ A,PT X e (fun σ H Q=>AOk H A/\∃ ρ,Good X.K CL A ρ σ H/\Db W H (f ρ) Q)
def SA(es:Ac An)(f:Rho->R (Ac D)):Prop:=∀ A,PA X es (fun σ H Q=>AOk H A/\∃ ρ,Good X.K CL A ρ σ H/\HH (fun H=>Reps X.K CL H A) W H (f ρ) Q)
end
theorem PE.weak{t t':TE}(h:PE X e t)(k:∀ σ H Q,t' σ H Q->t σ H Q):PE X e t':=fun pI s σ H Q I q=>h pI s σ H Q I (k _ _ _ q)
theorem PT.weak{t t':TT}(h:PT X e t)(k:∀ σ H Q,t' σ H Q->t σ H Q):PT X e t':=fun pI s σ H Q I q=>h pI s σ H Q I (k _ _ _ q)
theorem PA.weak{e:Ac An}{t t':TA}(h:PA X e t)(k:∀ σ H Q,t' σ H Q->t σ H Q):PA X e t':=fun pos pI s σ H Q I q=>h pos pI s σ H Q I (k _ _ _ q)
noncomputable def OpD(X:Cx)(CL:ClA)(W:XW)(f:Al->Al->GE Al)(g:D->D->R D):Prop:=
 ∀ A,OpR X f (fun x y H Q=>AOk H A/\∃ dx dy,CO X.K CL H A x dx/\CO X.K CL H A y dy/\A9 (fun H=>Rep X.K CL H A) W H (g dx dy) Q)
section
variable{X:Cx}{CL:ClA}{W:XW}{a b c:An}{fa fb fc:Rho->R D}{pos:AG}
theorem SE.st(h:SE X CL W a fa):ST X CL W a fa:=fun A=>PE.weak (h A) fun σ H Q ⟨hA,ρ,g,p⟩=>⟨hA,ρ,g,by
 cases e:fa ρ with
 |ok d=>rw[e]at p;exact fun v H' s r=>p v H' s (.inl r)
 |exn x=>rw[e]at p;exact p
 | bad=>rw[e]at p;exact p⟩
theorem SE.congr{f g:Rho->R D}(h:SE X CL W a f)(e:∀ ρ,g ρ=f ρ):SE X CL W a g:=fun A=>PE.weak (h A) fun σ H Q ⟨hA,ρ,q,p⟩=>⟨hA,ρ,q,by rw[<-e];exact p⟩
theorem Oe(h:PE X a (tC v))(r:∀ H A,AOk H A->Rep X.K CL H A v d):SE X CL W a (fun _=>.ok d):=fun A=>PE.weak h fun σ H Q ⟨hA,ρ,g,p⟩=>p v H (AD.refl H) (r H A hA)
theorem tO{i j}:SE X CL W (.Constant (.int i) j pos) (fun _=>.ok (.int i)):=Oe uX fun _ _ _=>rfl
theorem Xe{b j}:SE X CL W (.Constant (.bool b) j pos) (fun _=>.ok (.bl b)):=Oe b7 fun _ _ _=>rfl
theorem tI{j}:SE X CL W (.Constant .none j pos) (fun _=>.ok .non):=Oe rY fun _ _ _=>rfl
theorem WN{x j}:SE X CL W (.Constant (.str x) j pos) (fun _=>.ok (.str x)):=Oe Wd fun _ _ _=>rfl
theorem mG(h:ET ρ i=.ok d):ρ[i]?=Aa (Aa (d,Ad)):=by
 unfold ET at h;split at h
 ·rename_i e;cases h;exact e
 ·cases h
theorem Vk(h:Dc ρ i=.ok d):∃ o,ρ[i]?=Aa (Aa (d,o)):=by
 unfold Dc at h;split at h
 ·rename_i e;cases h;exact⟨_,e⟩
 ·cases h
theorem gK(h:ET ρ i=.exn x):AX:=by
 unfold ET at h;split at h<;>cases h
theorem UK(h:Dc ρ i=.exn x):AX:=by
 unfold Dc at h;split at h<;>cases h
theorem WL(h:PE X a (En i)):SE X CL W a (fun ρ=>ET ρ i):=fun A=>PE.weak h fun σ H Q ⟨hA,ρ,g,p⟩=>by
 dsimp only at p;cases e:ET ρ i with
 |ok d=>
  rw[e]at p;obtain⟨v,q,r⟩:=g.sh i d (mG e);exact⟨v,q,p v H (AD.refl H) r⟩
 |exn x=>exact(gK e).elim
 |bad=>rw[e]at p;exact p.elim
theorem Kj(h:PE X a (En i)):ST X CL W a (fun ρ=>Dc ρ i):=fun A=>PE.weak h fun σ H Q ⟨hA,ρ,g,p⟩=>by
 dsimp only at p;cases e:Dc ρ i with
 |ok d=>
  rw[e]at p;obtain⟨o,e⟩:=Vk e;cases o with
  |false=>
   obtain⟨v,q,r⟩:=g.sh i d e;exact⟨v,q,p v H (AD.refl H) (.inl r)⟩
  |true=>
   obtain⟨x,xs,ds,q,rfl,ha,hh,r⟩:=g.ow i d e;exact⟨_,q,p _ H (AD.refl H) (.inr ⟨x,xs,ds,rfl,rfl,hh,r⟩)⟩
 |exn x=>exact(UK e).elim
 |bad=>rw[e]at p;exact p.elim
theorem op2(h:AOk H A/\∃ ρ,Good X.K CL A ρ σ H/\A9 Rq W H ((fa ρ).bind fun x=>(fb ρ).bind fun y=>g x y) Q):AOk H A/\∃ ρ,Good X.K CL A ρ σ H/\A9 (fun H=>CO X.K CL H A) W H (fa ρ) (fun x H1=>AOk H1 A/\∃ ρ,Good X.K CL A ρ σ H1/\A9 (fun H=>CO X.K CL H A) W H1 (fb ρ) (fun y H2=>AOk H2 A/\∃ dx dy,CO X.K CL H2 A x dx/\CO X.K CL H2 A y dy/\A9 Rq W H2 (g dx dy) Q)):=by
 obtain⟨hA,ρ,gd,p⟩:=h;refine⟨hA,ρ,gd,A9.bind p fun dx x H1 _ s1 r1 p1=>⟨hA.same s1,ρ,gd.same s1,A9.bind p1 fun dy y H2 _ s2 r2 p2=>⟨(hA.same s1).same s2,dx,dy,r1.same s2,r2,p2⟩⟩⟩
theorem QO{op:Fq}(ho:OpD X CL W (B7 op) g)(ha:ST X CL W a fa)(hb:ST X CL W b fb):SE X CL W (.BinOp a op b pos) (fun ρ=>(fa ρ).bind fun x=>(fb ρ).bind fun y=>g x y):=
 fun A=>PE.weak (Xa (ho A) (ha A) (hb A)) fun σ H Q h=>op2 h
theorem tQ(ho:OpD X CL W (Cz op) g)(ha:ST X CL W a fa)(hb:ST X CL W b fb)(hm:G8 op b=Ad):SE X CL W (.Compare a [op] [b] pos) (fun ρ=>(fa ρ).bind fun x=>(fb ρ).bind fun y=>g x y):=
 fun A=>PE.weak (oG (ho A) (ha A) (hb A) hm) fun σ H Q h=>op2 h
theorem CO.int_of{i:Af}(h:CO K CL H A v (.int i)):v=.int i:=by
 rcases h with h|⟨_,_,_,_,e,_⟩
 ·exact h
 ·cases e
theorem CO.str_of{i:Ai}(h:CO K CL H A v (.str i)):v=.str i:=by
 rcases h with h|⟨_,_,_,_,e,_⟩
 ·exact h
 ·cases e
theorem CO.bl_of{i:Ak}(h:CO K CL H A v (.bl i)):v=.bl i:=by
 rcases h with h|⟨_,_,_,_,e,_⟩
 ·exact h
 ·cases e
theorem CO.non_of(h:CO K CL H A v .non):v=.non:=by
 rcases h with h|⟨_,_,_,_,e,_⟩
 ·exact h
 ·cases e
theorem CO.lst_of{ds:Ac D}(h:CO K CL H A v (.lst ds)):∃ a xs,v=.ref a/\SqL K H a xs/\Reps K CL H A xs ds:=by
 rcases h with ⟨a,xs,e,_,s,r⟩|⟨a,xs,es,rfl,e,s,r⟩
 ·exact⟨a,xs,e,s,r⟩
 ·cases e;exact⟨a,xs,rfl,SqL.of s,r⟩
theorem CO.tup_of{ds:Ac D}(h:CO K CL H A v (.tup ds)):∃ a xs,v=.ref a/\(¬ A a\/KT K a xs)/\SqT K H a xs/\Reps K CL H A xs ds:=by
 rcases h with ⟨a,xs,e,n,s,r⟩|⟨_,_,_,_,e,_⟩
 ·exact⟨a,xs,e,n,s,r⟩
 ·cases e
theorem nF{i j:Af}(h:DS i j=Ab):OP i j:=by
 unfold DS at h;simp only[CG,Aj,AZ]at h;unfold OP;omega
theorem VU{a:Af}(h:a.natAbs<2 ^ 2000):YF a<=2 ^ 20:=by
 unfold YF;split
 ·omega
 ·rename_i hz;have h0:a.natAbs≠0:=by intro z;exact hz (by rw[Int.natAbs_eq_zero.mp z];rfl)
  have:=(Nat.log2_lt h0).mpr h;omega
theorem nE{i j:Af}(h:(DS i j||EM i j)=Ab):Mc i j:=by
 rcases Bool.or_eq_true_iff.mp h with h|h
 ·exact(nF h).ok
 ·unfold EM at h;rw[Aj,AZ,AZ]at h;exact .of_bits (VU h.1) (VU h.2)
theorem oQ:OpR X (B7 .Mult) (rI Mc fun i j=>.int (i*j)):=opI fun _ _ _ _ _ _ _ hc q=>mul_int q hc
theorem Ib(h:Dq n=Ab):n<=sizeLine:=by
 unfold Dq at h;rw[Dl];have:=Dg h;omega
theorem VO{p:Am}{ds:Ac D}(hA:AOk H A)(hp:H p=Ae)(r:Reps K CL H A xs ds):Rep K CL (upd H p (.lst xs)) A (.ref p) (.lst ds):=
 ⟨p,xs,rfl,.inl (hA.new hp),SqL.of ED,r.same fun b o e=>by rw[Bu (FO e hp)];exact e⟩
theorem Lf{p:Am}{ds:Ac D}(hA:AOk H A)(hp:H p=Ae)(r:Reps K CL H A xs ds):Rep K CL (upd H p (.tup xs)) A (.ref p) (.tup ds):=
 ⟨p,xs,rfl,.inl (hA.new hp),SqT.of ED,r.same fun b o e=>by rw[Bu (FO e hp)];exact e⟩
theorem FN{p:Am}(h:H p=Ae)(o:HO):AD H (upd H p o):=fun b u q=>by rw[Bu (FO q h)];exact q
def af(K:Fg):R2:=fun x y H Q=>∃ l b xs zs,x=.ref l/\y=.ref b/\SqL K H l xs/\SqL K H b zs/\xs.length+zs.length<=sizeLine/\∀ p,H p=Ae->Q (.ref p) (upd H p (.lst (xs++zs)))
end
section
variable{X:Cx}{CL:ClA}{W:XW}
theorem U5:OpR X (B7 .Add) (af X.K):=by
 intro pI s σ H x y v u Q I rx ry h;obtain⟨l,b,xs,zs,rfl,rfl,hH,hB,hz,q⟩:=h;cases rx;cases ry;obtain⟨its,r,⟨o,n,e,c,dd,dt⟩,z⟩:=I.list hH;obtain⟨its2,r2,⟨o2,n2,e2,c2,dd2,dt2⟩,z2⟩:=I.list hB;have hl:=r.length;have hl2:=r2.length;obtain⟨cls,dd0,data,sl⟩:=o;obtain⟨cls2,dd02,data2,sl2⟩:=o2;simp only at c dd dt c2 dd2 dt2;subst c dd dt c2 dd2 dt2;have ea:its.toArray++its2.toArray=(its++its2).toArray:=by simp
 refine Jp ⟨_,e,rfl⟩ ⟨_,e2,rfl⟩ noFill_list_add seq_list_add PySem.F.slot_list_add PySem.F.entry_list_add (PySem.F.args_list_add_2 _ _) (list_addW l b its.toArray its2.toArray n n2 Ae Ae sl sl2 (by simp;omega)) ⟨e,e2,?_⟩
 rw[ea];exact⟨.ref _,_,I.lnew (t':=s.toks) (r.append r2) (by rw[CK];omega),rfl,q _ I.fresh⟩
theorem U4:OpD X CL W (B7 .Add) (C8 .Add):=by
 intro A pI s σ H x y v u Q I rx ry ⟨hA,dx,dy,hx,hy,p⟩;cases dx with
 |int i=>
  cases dy with
  |int j=>
   have ex:=hx.int_of;have ey:=hy.int_of
   subst ex ey;exact vD pI s σ H _ _ v u Q I rx ry ⟨i,j,rfl,rfl,p _ H (AD.refl H) rfl⟩
  |_=>exact p.elim
 |str i=>
  cases dy with
  |str j=>
   have ex:=hx.str_of;have ey:=hy.str_of
   subst ex ey;simp only[vX]at p;split at p
   ·rename_i h;exact dW pI s σ H _ _ v u Q I rx ry ⟨i,j,rfl,rfl,Ib h,p _ H (AD.refl H) rfl⟩
   ·exact p.elim
  |_=>exact p.elim
 |lst ds=>
  cases dy with
  |lst es=>
   obtain⟨a,xs,rfl,s1,r1⟩:=hx.lst_of;obtain⟨b,ys,rfl,s2,r2⟩:=hy.lst_of;simp only[Rb]at p;split at p
   ·rename_i h;refine U5 pI s σ H _ _ v u Q I rx ry ⟨a,b,xs,ys,rfl,rfl,s1,s2,by rw[r1.length,r2.length];exact Ib h,fun q hq=>?_⟩
    exact p _ _ (FN hq _) (VO hA hq (r1.append r2))
   ·exact p.elim
  |_=>exact p.elim
 |tup ds=>
  cases dy with
  |tup es=>
   obtain⟨a,xs,rfl,na1,s1,r1⟩:=hx.tup_of;obtain⟨b,ys,rfl,_,s2,r2⟩:=hy.tup_of;simp only[vW]at p;split at p
   ·rename_i h;simp only[Aj]at h;refine oS pI s σ H _ _ v u Q I rx ry ⟨a,b,xs,ys,rfl,rfl,s1,s2,?_,by rw[r1.length,r2.length];exact Ib h.2,fun hy0=>?_,fun _ q hq=>?_⟩
    ·rintro rfl;cases ds with
     |nil=>cases h.1
     |cons _ _=>exact r1.elim
    ·subst hy0;cases es with
     |nil=>rw[Ck]at p;exact p _ H (AD.refl H) ⟨a,xs,rfl,na1,s1,r1⟩
     |cons _ _=>exact r2.elim
    ·exact p _ _ (FN hq _) (Lf hA hq (r1.append r2))
   ·exact p.elim
  |_=>exact p.elim
 |_=>exact p.elim
theorem NR{op:Fq}{C:Af->Af->Prop}{g:Af->Af->Af}(ho:OpR X (B7 op) (rI C fun i j=>.int (g i j)))(hg:∀ dx dy,(∃ i j,dx=.int i/\dy=.int j/\((C i j/\C8 op dx dy=.ok (.int (g i j)))\/C8 op dx dy=.bad))\/C8 op dx dy=.bad):OpD X CL W (B7 op) (C8 op):=by
 intro A pI s σ H x y v u Q I rx ry ⟨hA,dx,dy,hx,hy,p⟩;rcases hg dx dy with ⟨i,j,rfl,rfl,⟨c,e⟩|e⟩|e
 ·have ex:=hx.int_of;have ey:=hy.int_of
  subst ex ey;rw[e]at p;exact ho pI s σ H _ _ v u Q I rx ry ⟨i,j,rfl,rfl,c,p _ H (AD.refl H) rfl⟩
 ·rw[e]at p;exact p.elim
 ·rw[e]at p;exact p.elim
theorem oJ:OpD X CL W (B7 .Sub) (C8 .Sub):=by
 intro A pI s σ H x y v u Q I rx ry ⟨hA,dx,dy,hx,hy,p⟩;cases dx with
 |int i=>
  cases dy with
  |int j=>
   have ex:=hx.int_of;have ey:=hy.int_of
   subst ex ey;exact uZ pI s σ H _ _ v u Q I rx ry ⟨i,j,rfl,rfl,p _ H (AD.refl H) rfl⟩
  |_=>exact p.elim
 |_=>exact p.elim
theorem oM:OpD X CL W (B7 .Mult) (C8 .Mult):=NR oQ fun dx dy=>by
 cases dx with
 |int i=>
  cases dy with
  |int j=>
   refine .inl ⟨i,j,rfl,rfl,?_⟩;rw[vJ];split
   ·rename_i h;exact .inl ⟨nE h,rfl⟩
   ·exact .inr rfl
  |_=>exact .inr rfl
 |_=>exact .inr rfl
theorem jV:OpD X CL W (B7 .FloorDiv) (C8 .FloorDiv):=NR oR fun dx dy=>by
 cases dx with
 |int i=>
  cases dy with
  |int j=>
   refine .inl ⟨i,j,rfl,rfl,?_⟩;rw[qK];split
   ·rename_i h;exact .inl ⟨h,rfl⟩
   ·exact .inr rfl
  |_=>exact .inr rfl
 |_=>exact .inr rfl
theorem oO:OpD X CL W (B7 .Mod) (C8 .Mod):=NR vB fun dx dy=>by
 cases dx with
 |int i=>
  cases dy with
  |int j=>
   refine .inl ⟨i,j,rfl,rfl,?_⟩;rw[vP];split
   ·rename_i h;exact .inl ⟨h,rfl⟩
   ·exact .inr rfl
  |_=>exact .inr rfl
 |_=>exact .inr rfl
theorem oK:OpD X CL W (B7 .Pow) (C8 .Pow):=NR vA fun dx dy=>by
 cases dx with
 |int i=>
  cases dy with
  |int j=>
   refine .inl ⟨i,j,rfl,rfl,?_⟩;rw[rQ];split
   ·rename_i h;exact .inl ⟨⟨h.1.1,h.1.2,by omega⟩,rfl⟩
   ·exact .inr rfl
  |_=>exact .inr rfl
 |_=>exact .inr rfl
theorem Qy(op:Fq):OpD X CL W (B7 op) (C8 op):=by
 cases op with
 |Add=>exact U4
 |Sub=>exact oJ
 |Mult=>exact oM
 |FloorDiv=>exact jV
 |Mod=>exact oO
 |Pow=>exact oK
 |_=>
  intro A pI s σ H x y v u Q I rx ry ⟨hA,dx,dy,hx,hy,p⟩;cases dx<;>cases dy<;>exact p.elim
noncomputable abbrev A0:Am->Prop:=fun _=>AX
theorem CO.plain(h:CO K CL H A v d):Rep K CL H A0 v d:=by
 rcases h with h|⟨a,xs,ds,rfl,rfl,e,r⟩
 ·exact Rep.sub (fun _ z=>z.elim) d h
 ·exact⟨a,xs,rfl,.inl fun z=>z.elim,SqL.of e,Reps.sub (fun _ z=>z.elim) ds r⟩
mutual
theorem jP:∀(n:Ag)(d:D),flD n d=Ab->eqD d d=Ab
 |_,.non,_=>rfl
 |_,.bl b,_=>by simp
 |_,.int i,_=>by simp
 |_,.str x,_=>by simp
 |n+1,.tup ds,h=>by
  show eqDs ds ds=Ab;exact eqDs_refl n ds h
 |n+1,.lst ds,h=>by
  show eqDs ds ds=Ab;exact eqDs_refl n ds h
 |0,.tup ds,h=>by cases h
 |0,.lst ds,h=>by cases h
 |n,.obj _ _,h=>by cases n<;>cases h
 |n,.exc _ _,h=>by cases n<;>cases h
 |n,.dic _,h=>by cases n<;>cases h
theorem eqDs_refl:∀(n:Ag)(ds:Ac D),ds.all (flD n)=Ab->eqDs ds ds=Ab
 |_,[],_=>rfl
 |n,d::ds,h=>by
  simp only[FY,Aj]at h;simp only[Pv,Aj];exact⟨jP n d h.1,eqDs_refl n ds h.2⟩
end
theorem TJ(I:Inv X pI σ H s)(h:SqL X.K H a xs)(h':SqT X.K H a ys):AX:=by
 obtain⟨its,r,⟨o,n,e,c,_,_⟩,_⟩:=I.list h;obtain⟨its',r',⟨o',e',c',_⟩,_⟩:=I.tuple h';rw[e]at e';cases e';rw[c]at c'
 injection c' with z
 exact absurd z (by decide)
mutual
theorem NQ{pI:Pn}{σ:L2.St}{H:Hp}{s:Ar}(I:Inv X pI σ H s):∀(n:Ag)(d e:D){v:V},flD n d=Ab->flD n e=Ab->Rep X.K CL H A0 v d->Rep X.K CL H A0 v e->d=e
 |n,.tup ds,e,v,hd,he,r,q=>by
  obtain⟨a,xs,rfl,_,s1,r1⟩:=r;cases e with
  |tup es=>
   obtain⟨b,ys,e,_,s2,r2⟩:=q;cases e;have z:=I.tuple_inj s1 s2;subst z;cases n with
   |zero=>cases hd
   |succ n=>rw[reps_inj I n ds es hd he r1 r2]
  |lst es=>
   obtain⟨b,ys,e,_,s2,r2⟩:=q;cases e;exact(TJ I s2 s1).elim
  |obj=>cases n<;>cases he
  |exc=>cases n<;>cases he
  |dic=>cases n<;>cases he
  |_=>cases q
 |n,.lst ds,e,v,hd,he,r,q=>by
  obtain⟨a,xs,rfl,_,s1,r1⟩:=r;cases e with
  |lst es=>
   obtain⟨b,ys,e,_,s2,r2⟩:=q;cases e;have z:=I.list_inj s1 s2;subst z;cases n with
   |zero=>cases hd
   |succ n=>rw[reps_inj I n ds es hd he r1 r2]
  |tup es=>
   obtain⟨b,ys,e,_,s2,r2⟩:=q;cases e;exact(TJ I s1 s2).elim
  |obj=>cases n<;>cases he
  |exc=>cases n<;>cases he
  |dic=>cases n<;>cases he
  |_=>cases q
 |n,.obj _ _,e,v,hd,he,r,q=>by cases n<;>cases hd
 |n,.exc _ _,e,v,hd,he,r,q=>by cases n<;>cases hd
 |n,.dic _,e,v,hd,he,r,q=>by cases n<;>cases hd
 |n,.non,e,v,hd,he,r,q=>by
  cases r;cases e with
  |tup=>obtain⟨_,_,z,_⟩:=q;cases z
  |lst=>obtain⟨_,_,z,_⟩:=q;cases z
  |obj=>cases n<;>cases he
  |exc=>cases n<;>cases he
  |dic=>cases n<;>cases he
  |_=>cases q<;>rfl
 |n,.bl b,e,v,hd,he,r,q=>by
  cases r;cases e with
  |tup=>obtain⟨_,_,z,_⟩:=q;cases z
  |lst=>obtain⟨_,_,z,_⟩:=q;cases z
  |obj=>cases n<;>cases he
  |exc=>cases n<;>cases he
  |dic=>cases n<;>cases he
  |_=>cases q<;>rfl
 |n,.int b,e,v,hd,he,r,q=>by
  cases r;cases e with
  |tup=>obtain⟨_,_,z,_⟩:=q;cases z
  |lst=>obtain⟨_,_,z,_⟩:=q;cases z
  |obj=>cases n<;>cases he
  |exc=>cases n<;>cases he
  |dic=>cases n<;>cases he
  |_=>cases q<;>rfl
 |n,.str b,e,v,hd,he,r,q=>by
  cases r;cases e with
  |tup=>obtain⟨_,_,z,_⟩:=q;cases z
  |lst=>obtain⟨_,_,z,_⟩:=q;cases z
  |obj=>cases n<;>cases he
  |exc=>cases n<;>cases he
  |dic=>cases n<;>cases he
  |_=>cases q<;>rfl
theorem reps_inj{pI:Pn}{σ:L2.St}{H:Hp}{s:Ar}(I:Inv X pI σ H s):∀(n:Ag)(ds es:Ac D){xs:Ac V},ds.all (flD n)=Ab->es.all (flD n)=Ab->Reps X.K CL H A0 xs ds->Reps X.K CL H A0 xs es->ds=es
 |_,[],[],_,_,_,_,_=>rfl
 |n,d::ds,e::es,x::xs,hd,he,r,q=>by
  simp only[FY,Aj]at hd he;rw[NQ I n d e hd.1 he.1 r.1 q.1,reps_inj I n ds es hd.2 he.2 r.2 q.2]
 |_,[],_::_,[],_,_,_,q=>q.elim
 |_,[],_::_,_::_,_,_,r,_=>r.elim
 |_,_::_,[],[],_,_,r,_=>r.elim
 |_,_::_,[],_::_,_,_,_,q=>q.elim
 |_,_::_,_::_,[],_,_,r,_=>r.elim
end
theorem Mr:∀{ds es:Ac D},ds.length≠es.length->eqDs ds es=Ad
 |[],[],h=>absurd rfl h
 |[],_::_,_=>rfl
 |_::_,[],_=>rfl
 |d::ds,e::es,h=>by
  simp only[Pv,Mr (ds:=ds) (es:=es) (by simpa using h),Ip]
theorem dE(n:Ag)(f:Ag->Ak):(Bb (n+1)).all f=(f 0&&(Bb n).all fun j=>f (j+1)):=by
 rw[El,FY,X3];rfl
theorem Ms:∀{ds es:Ac D},ds.length=es.length->eqDs ds es=(Bb ds.length).all fun j=>eqD (ds.getD j .non) (es.getD j .non)
 |[],[],_=>rfl
 |d::ds,e::es,h=>by
  rw[Pv,Ms (ds:=ds) (es:=es) (by simpa using h),Bk,dE]
  rfl
 |[],_::_,h=>by cases h
 |_::_,[],h=>by cases h
theorem Kf{ds:Ac D}{its:Ac Al}(r:Reps K CL H A0 xs ds)(rv:A7 xs its)(h:j<its.length):∃ x,Rep K CL H A0 x (ds.getD j .non)/\BB x its[j]:=by
 have e1:=rv.length;have e2:=r.length;have hd:ds[j]?=Aa (ds.getD j .non):=by
  rw[BU,Bm (by omega)];rfl
 obtain⟨x,hx,q⟩:=r.get hd;obtain⟨u,hu,ru⟩:=rv.get hx;refine⟨x,q,?_⟩;rw[Bm h]at hu;cases hu;exact ru
theorem Kd{ds:Ac D}(h:ds.all (flD n)=Ab)(j:Ag):flD n (ds.getD j .non)=Ab:=by
 rw[BU];cases e:ds[j]? with
 |none=>cases n<;>rfl
 |some d=>exact List.all_eq_true.mp h d (Gh e)
def CF(B:A2)(s:Ar)(u t:Al)(k:Ak):Prop:=KB B s u t k/\Gp B s u t k/\Jl B s u t (!k)
section
variable{B:A2}{s:Ar}
open SeqAt
theorem yE:CF B s .none .none Ab:=⟨RcAt.none_none,EqAt.same _,RcNeAt.none_none⟩
theorem xO(a b:Ak):CF B s (.bool a) (.bool b) (a==b):=⟨RcAt.bool_bool _ _,EqAt.bool_bool _ _,RcNeAt.bool_bool _ _⟩
theorem yH(b:Ak):CF B s .none (.bool b) Ad:=⟨RcAt.none_bool _,EqAt.none_bool _,RcNeAt.none_bool _⟩
theorem yV(b:Ak):CF B s (.bool b) .none Ad:=⟨RcAt.bool_none _,EqAt.bool_none _,RcNeAt.bool_none _⟩
theorem yR(a:Af)(t:CM)(b:Af)(u:CM):CF B s (.int a t) (.int b u) (a==b):=⟨RcAt.int_int _ _ _ _,EqAt.int_int _ _ _ _,RcNeAt.int_int _ _ _ _⟩
theorem xX(a:Ai)(t:CM)(b:Ai)(u:CM):CF B s (.str a t) (.str b u) (a==b):=⟨RcAt.str_str _ _ _ _,EqAt.str_str _ _ _ _,RcNeAt.str_str _ _ _ _⟩
theorem yO(a:Af)(t:CM)(b:Ai)(u:CM):CF B s (.int a t) (.str b u) Ad:=⟨RcAt.int_str _ _ _ _,EqAt.int_str _ _ _ _,RcNeAt.int_str _ _ _ _⟩
theorem yA(a:Ai)(t:CM)(b:Af)(u:CM):CF B s (.str a t) (.int b u) Ad:=⟨RcAt.str_int _ _ _ _,EqAt.str_int _ _ _ _,RcNeAt.str_int _ _ _ _⟩
theorem yG(b:Af)(u:CM):CF B s .none (.int b u) Ad:=⟨RcAt.none_int _ _,EqAt.none_int _ _,RcNeAt.none_int _ _⟩
theorem yP(b:Af)(u:CM):CF B s (.int b u) .none Ad:=⟨RcAt.int_none _ _,EqAt.int_none _ _,RcNeAt.int_none _ _⟩
theorem yD(b:Ai)(u:CM):CF B s .none (.str b u) Ad:=⟨RcAt.none_str _ _,EqAt.none_str _ _,RcNeAt.none_str _ _⟩
theorem xY(b:Ai)(u:CM):CF B s (.str b u) .none Ad:=⟨RcAt.str_none _ _,EqAt.str_none _ _,RcNeAt.str_none _ _⟩
theorem xN(a:Ak)(b:Af)(u:CM):CF B s (.bool a) (.int b u) (b2i a==b):=⟨RcAt.bool_int _ _ _,EqAt.bool_int _ _ _,RcNeAt.bool_int _ _ _⟩
theorem yS(a:Ak)(b:Af)(u:CM):CF B s (.int b u) (.bool a) (b==b2i a):=⟨RcAt.int_bool _ _ _,EqAt.int_bool _ _ _,RcNeAt.int_bool _ _ _⟩
theorem yU(a:Ak)(b:Ai)(u:CM):CF B s (.bool a) (.str b u) Ad:=⟨RcAt.bool_str _ _ _,EqAt.bool_str _ _ _,RcNeAt.bool_str _ _ _⟩
theorem yB(a:Ak)(b:Ai)(u:CM):CF B s (.str b u) (.bool a) Ad:=⟨RcAt.str_bool _ _ _,EqAt.str_bool _ _ _,RcNeAt.str_bool _ _ _⟩
variable{l:Am}{items:Be Al}
theorem yK(h:s.heap.IsList l items)(hu:B.units<B4):CF B s (.ref l) .none Ad:=⟨RcAt.list_none h hu,EqAt.list_none h hu,RcNeAt.list_none h hu⟩
theorem yF(h:s.heap.IsList l items)(hu:B.units<B4):CF B s .none (.ref l) Ad:=⟨RcAt.none_list h hu,EqAt.none_list h hu,RcNeAt.none_list h hu⟩
theorem yM(b:Ak)(h:s.heap.IsList l items)(hu:B.units<B4):CF B s (.ref l) (.bool b) Ad:=⟨RcAt.list_bool b h hu,EqAt.list_bool b h hu,RcNeAt.list_bool b h hu⟩
theorem yW(b:Ak)(h:s.heap.IsList l items)(hu:B.units<B4):CF B s (.bool b) (.ref l) Ad:=⟨RcAt.bool_list b h hu,EqAt.bool_list b h hu,RcNeAt.bool_list b h hu⟩
theorem yL(b:Af)(u:CM)(h:s.heap.IsList l items)(hu:B.units<B4):CF B s (.ref l) (.int b u) Ad:=⟨RcAt.list_int b u h hu,EqAt.list_int b u h hu,RcNeAt.list_int b u h hu⟩
theorem yQ(b:Af)(u:CM)(h:s.heap.IsList l items)(hu:B.units<B4):CF B s (.int b u) (.ref l) Ad:=⟨RcAt.int_list b u h hu,EqAt.int_list b u h hu,RcNeAt.int_list b u h hu⟩
theorem yJ(b:Ai)(u:CM)(h:s.heap.IsList l items)(hu:B.units<B4):CF B s (.ref l) (.str b u) Ad:=⟨RcAt.list_str b u h hu,EqAt.list_str b u h hu,RcNeAt.list_str b u h hu⟩
theorem xZ(b:Ai)(u:CM)(h:s.heap.IsList l items)(hu:B.units<B4):CF B s (.str b u) (.ref l) Ad:=⟨RcAt.str_list b u h hu,EqAt.str_list b u h hu,RcNeAt.str_list b u h hu⟩
theorem yZ(h:s.heap.IsTuple l items)(hu:B.units<B4):CF B s (.ref l) .none Ad:=⟨RcAt.tuple_none h hu,EqAt.tuple_none h hu,RcNeAt.tuple_none h hu⟩
theorem yC(h:s.heap.IsTuple l items)(hu:B.units<B4):CF B s .none (.ref l) Ad:=⟨RcAt.none_tuple h hu,EqAt.none_tuple h hu,RcNeAt.none_tuple h hu⟩
theorem zD(b:Ak)(h:s.heap.IsTuple l items)(hu:B.units<B4):CF B s (.ref l) (.bool b) Ad:=⟨RcAt.tuple_bool b h hu,EqAt.tuple_bool b h hu,RcNeAt.tuple_bool b h hu⟩
theorem yT(b:Ak)(h:s.heap.IsTuple l items)(hu:B.units<B4):CF B s (.bool b) (.ref l) Ad:=⟨RcAt.bool_tuple b h hu,EqAt.bool_tuple b h hu,RcNeAt.bool_tuple b h hu⟩
theorem zC(b:Af)(u:CM)(h:s.heap.IsTuple l items)(hu:B.units<B4):CF B s (.ref l) (.int b u) Ad:=⟨RcAt.tuple_int b u h hu,EqAt.tuple_int b u h hu,RcNeAt.tuple_int b u h hu⟩
theorem yN(b:Af)(u:CM)(h:s.heap.IsTuple l items)(hu:B.units<B4):CF B s (.int b u) (.ref l) Ad:=⟨RcAt.int_tuple b u h hu,EqAt.int_tuple b u h hu,RcNeAt.int_tuple b u h hu⟩
theorem yY(b:Ai)(u:CM)(h:s.heap.IsTuple l items)(hu:B.units<B4):CF B s (.ref l) (.str b u) Ad:=⟨RcAt.tuple_str b u h hu,EqAt.tuple_str b u h hu,RcNeAt.tuple_str b u h hu⟩
theorem zE(b:Ai)(u:CM)(h:s.heap.IsTuple l items)(hu:B.units<B4):CF B s (.str b u) (.ref l) Ad:=⟨RcAt.str_tuple b u h hu,EqAt.str_tuple b u h hu,RcNeAt.str_tuple b u h hu⟩
theorem yI(h:s.heap.IsList l items)(h2:s.heap.IsTuple b items2)(hu:B.units<B4):CF B s (.ref l) (.ref b) Ad:=⟨RcAt.list_tuple h h2 hu,EqAt.list_tuple h h2 hu,RcNeAt.list_tuple h h2 hu⟩
theorem zA(h:s.heap.IsTuple l items)(h2:s.heap.IsList b items2)(hu:B.units<B4):CF B s (.ref l) (.ref b) Ad:=⟨RcAt.tuple_list h h2 hu,EqAt.tuple_list h h2 hu,RcNeAt.tuple_list h h2 hu⟩
end
end
section
variable{X:Cx}{CL:ClA}{W:XW}
theorem Jz(x:PlainL h a its):h.IsList a its:=let ⟨o,n,e,c,_,d⟩:=x;⟨o,e,c,n,d⟩
def cE(X:Cx)(CL:ClA)(H:Hp)(s:Ar)(d:D)(u:Al):Prop:=match d with
  |.non=>u=.none
  |.bl b=>u=.bool b
  |.int i=>∃ t,u=.int i t
  |.str x=>∃ t,u=.str x t
  |.tup ds=>∃ a xs its,u=.ref a/\Reps X.K CL H A0 xs ds/\A7 xs its/\s.heap.IsTuple a its.toArray
  |.lst ds=>∃ a xs its,u=.ref a/\Reps X.K CL H A0 xs ds/\A7 xs its/\s.heap.IsList a its.toArray
  |_=>AX
theorem Va(I:Inv X pI σ H s)(hd:flD n d=Ab)(r:Rep X.K CL H A0 v d)(q:BB v u):cE X CL H s d u:=by
 cases d with
 |non=>cases r;exact q
 |bl b=>cases r;exact q
 |int b=>cases r;exact q
 |str b=>cases r;exact q
 |tup ds=>
  obtain⟨a,xs,rfl,_,sq,r⟩:=r;obtain⟨its,rv,p,_⟩:=I.tuple sq;cases q;exact⟨a,xs,its,rfl,r,rv,p⟩
 |lst ds=>
  obtain⟨a,xs,rfl,_,sq,r⟩:=r;obtain⟨its,rv,p,_⟩:=I.list sq;cases q;exact⟨a,xs,its,rfl,r,rv,Jz p⟩
 |obj=>cases n<;>cases hd
 |exc=>cases n<;>cases hd
 |dic=>cases n<;>cases hd
theorem kH{B:A2}{its:Ac Al}{ds es:Ac D}(hl:s.heap.IsList l its.toArray)(hb:s.heap.IsList b its2.toArray)(e1:its.length=ds.length)(e2:its2.length=es.length)(hu:B.units<B4)(hs:l=b->eqDs ds es=Ab)(he:∀ j (h1:j<its.length) (h2:j<its2.length),Gp B.in1 s its[j] its2[j] (eqD (ds.getD j .non) (es.getD j .non))):CF B s (.ref l) (.ref b) (eqDs ds es):=by
 have rc:KB B s (.ref l) (.ref b) (eqDs ds es):=by
  by_cases hz:its.length=its2.length
  ·have q:=SeqAt.RcAt.lists (e:=fun j=>eqD (ds.getD j .non) (es.getD j .non)) hl hb (by simpa using hz) hu (fun j h1 h2=>by simpa using he j (by simpa using h1) (by simpa using h2))
   rw[Ms (by omega)]
   have e:its.toArray.size=ds.length:=by simpa using e1
   rw[e]at q;exact q
  ·rw[Mr (by omega)]
   exact SeqAt.RcAt.lists_lengths hl hb (by simpa using hz) hu
 have ne:Jl B s (.ref l) (.ref b) (!eqDs ds es):=by
  by_cases hz:its.length=its2.length
  ·have q:=SeqAt.RcNeAt.lists (e:=fun j=>eqD (ds.getD j .non) (es.getD j .non)) hl hb (by simpa using hz) hu (fun j h1 h2=>by simpa using he j (by simpa using h1) (by simpa using h2))
   rw[Ms (by omega)]
   have e:its.toArray.size=ds.length:=by simpa using e1
   rw[e]at q;exact q
  ·rw[Mr (by omega)]
   exact SeqAt.RcNeAt.lists_lengths hl hb (by simpa using hz) hu
 refine⟨rc,?_,ne⟩;by_cases hlb:l=b
 ·rw[hs hlb,hlb];exact ZB _
 ·exact ZA hlb rc
theorem kG{B:A2}{its:Ac Al}{ds es:Ac D}(hl:s.heap.IsTuple l its.toArray)(hb:s.heap.IsTuple b its2.toArray)(e1:its.length=ds.length)(e2:its2.length=es.length)(hu:B.units<B4)(hs:l=b->eqDs ds es=Ab)(he:∀ j (h1:j<its.length) (h2:j<its2.length),Gp B.in1 s its[j] its2[j] (eqD (ds.getD j .non) (es.getD j .non))):CF B s (.ref l) (.ref b) (eqDs ds es):=by
 have rc:KB B s (.ref l) (.ref b) (eqDs ds es):=by
  have q:=SeqAt.RcAt.tuples (e:=fun j=>eqD (ds.getD j .non) (es.getD j .non)) hl hb hu (fun j h1 h2=>by simpa using he j (by simpa using h1) (by simpa using h2))
  have e:its.toArray.size=ds.length:=by simpa using e1
  have e':its2.toArray.size=es.length:=by simpa using e2
  rw[e,e']at q;by_cases hz:ds.length=es.length
  ·rw[Ms hz];rw[hz,Ys,De,XO]at q;rw[hz];exact q
  ·rw[Mr hz];rw[Dx.mpr hz,Ip]at q;exact q
 have ne:Jl B s (.ref l) (.ref b) (!eqDs ds es):=by
  have q:=SeqAt.RcNeAt.tuples (e:=fun j=>eqD (ds.getD j .non) (es.getD j .non)) hl hb hu (fun j h1 h2=>by simpa using he j (by simpa using h1) (by simpa using h2))
  have e:its.toArray.size=ds.length:=by simpa using e1
  have e':its2.toArray.size=es.length:=by simpa using e2
  rw[e,e']at q;by_cases hz:ds.length=es.length
  ·rw[Ms hz];rw[hz,Ys,De,XO]at q;rw[hz];exact q
  ·rw[Mr hz];rw[Dx.mpr hz,Ip]at q;exact q
 refine⟨rc,?_,ne⟩;by_cases hlb:l=b
 ·rw[hs hlb,hlb];exact ZB _
 ·exact ZA hlb rc
theorem MN{pI:Pn}{σ:L2.St}{H:Hp}{s:Ar}(I:Inv X pI σ H s):∀(n:Ag)(d e:D)(v w':V)(u t:Al)(B:A2),flD n d=Ab->flD n e=Ab->Rep X.K CL H A0 v d->Rep X.K CL H A0 w' e->BB v u->BB w' t->B.units+n<B4->CF B s u t (eqD d e)
  |n,d,e,v,w',u,t,B,hd,he,r,q,rv,rw',hu=>by
    have hu0:B.units<B4:=by omega
    have sd:=Va I hd r rv;have se:=Va I he q rw'
    match d,e,sd,se with
    |.non,.non,s1,s2=>cases s1;cases s2;exact yE
    |.non,.bl b,s1,s2=>cases s1;cases s2;exact yH b
    |.non,.int b,s1,s2=>cases s1;obtain⟨_,rfl⟩:=s2;exact yG b _
    |.non,.str b,s1,s2=>cases s1;obtain⟨_,rfl⟩:=s2;exact yD b _
    |.non,.tup es,s1,s2=>cases s1;obtain⟨_,_,_,rfl,_,_,p⟩:=s2;exact yC p hu0
    |.non,.lst es,s1,s2=>cases s1;obtain⟨_,_,_,rfl,_,_,p⟩:=s2;exact yF p hu0
    |.bl a,.non,s1,s2=>cases s1;cases s2;exact yV a
    |.bl a,.bl b,s1,s2=>cases s1;cases s2;exact xO a b
    |.bl a,.int b,s1,s2=>cases s1;obtain⟨_,rfl⟩:=s2;exact xN a b _
    |.bl a,.str b,s1,s2=>cases s1;obtain⟨_,rfl⟩:=s2;exact yU a b _
    |.bl a,.tup es,s1,s2=>cases s1;obtain⟨_,_,_,rfl,_,_,p⟩:=s2;exact yT a p hu0
    |.bl a,.lst es,s1,s2=>cases s1;obtain⟨_,_,_,rfl,_,_,p⟩:=s2;exact yW a p hu0
    |.int a,.non,s1,s2=>obtain⟨_,rfl⟩:=s1;cases s2;exact yP a _
    |.int a,.bl b,s1,s2=>obtain⟨_,rfl⟩:=s1;cases s2;exact yS b a _
    |.int a,.int b,s1,s2=>obtain⟨_,rfl⟩:=s1;obtain⟨_,rfl⟩:=s2;exact yR a _ b _
    |.int a,.str b,s1,s2=>obtain⟨_,rfl⟩:=s1;obtain⟨_,rfl⟩:=s2;exact yO a _ b _
    |.int a,.tup es,s1,s2=>obtain⟨_,rfl⟩:=s1;obtain⟨_,_,_,rfl,_,_,p⟩:=s2;exact yN a _ p hu0
    |.int a,.lst es,s1,s2=>obtain⟨_,rfl⟩:=s1;obtain⟨_,_,_,rfl,_,_,p⟩:=s2;exact yQ a _ p hu0
    |.str a,.non,s1,s2=>obtain⟨_,rfl⟩:=s1;cases s2;exact xY a _
    |.str a,.bl b,s1,s2=>obtain⟨_,rfl⟩:=s1;cases s2;exact yB b a _
    |.str a,.int b,s1,s2=>obtain⟨_,rfl⟩:=s1;obtain⟨_,rfl⟩:=s2;exact yA a _ b _
    |.str a,.str b,s1,s2=>obtain⟨_,rfl⟩:=s1;obtain⟨_,rfl⟩:=s2;exact xX a _ b _
    |.str a,.tup es,s1,s2=>obtain⟨_,rfl⟩:=s1;obtain⟨_,_,_,rfl,_,_,p⟩:=s2;exact zE a _ p hu0
    |.str a,.lst es,s1,s2=>obtain⟨_,rfl⟩:=s1;obtain⟨_,_,_,rfl,_,_,p⟩:=s2;exact xZ a _ p hu0
    |.tup ds,.non,s1,s2=>cases s2;obtain⟨_,_,_,rfl,_,_,p⟩:=s1;exact yZ p hu0
    |.tup ds,.bl b,s1,s2=>cases s2;obtain⟨_,_,_,rfl,_,_,p⟩:=s1;exact zD b p hu0
    |.tup ds,.int b,s1,s2=>obtain⟨_,rfl⟩:=s2;obtain⟨_,_,_,rfl,_,_,p⟩:=s1;exact zC b _ p hu0
    |.tup ds,.str b,s1,s2=>obtain⟨_,rfl⟩:=s2;obtain⟨_,_,_,rfl,_,_,p⟩:=s1;exact yY b _ p hu0
    |.tup ds,.lst es,s1,s2=>obtain⟨_,_,_,rfl,_,_,p⟩:=s1;obtain⟨_,_,_,rfl,_,_,p2⟩:=s2;exact zA p p2 hu0
    |.lst ds,.non,s1,s2=>cases s2;obtain⟨_,_,_,rfl,_,_,p⟩:=s1;exact yK p hu0
    |.lst ds,.bl b,s1,s2=>cases s2;obtain⟨_,_,_,rfl,_,_,p⟩:=s1;exact yM b p hu0
    |.lst ds,.int b,s1,s2=>obtain⟨_,rfl⟩:=s2;obtain⟨_,_,_,rfl,_,_,p⟩:=s1;exact yL b _ p hu0
    |.lst ds,.str b,s1,s2=>obtain⟨_,rfl⟩:=s2;obtain⟨_,_,_,rfl,_,_,p⟩:=s1;exact yJ b _ p hu0
    |.lst ds,.tup es,s1,s2=>obtain⟨_,_,_,rfl,_,_,p⟩:=s1;obtain⟨_,_,_,rfl,_,_,p2⟩:=s2;exact yI p p2 hu0
    |.tup ds,.tup es,s1,s2=>
      match n,hd,he,hu with
      |n+1,hd,he,hu=>
        obtain⟨a,xs,its,rfl,r1,v1,p1⟩:=s1;obtain⟨b,ys,its2,rfl,r2,v2,p2⟩:=s2;have l1:=v1.length;have l2:=r1.length;have l3:=v2.length;have l4:=r2.length
        refine kG p1 p2 (by omega) (by omega) hu0 (fun hab=>?_) fun j h1 h2=>?_
        · have e1:v=.ref a:=BB.inj rv rfl;have e2:w'=.ref b:=BB.inj rw' rfl;subst e1 e2 hab;have z:=NQ I (n+1) _ _ hd he r q
          injection z with z
          rw[z];exact eqDs_refl n es he
        · obtain⟨x,rx,qx⟩:=Kf r1 v1 h1;obtain⟨y,ry,qy⟩:=Kf r2 v2 h2;exact(MN I n _ _ x y _ _ B.in1 (Kd hd j) (Kd he j) rx ry qx qy (by show B.units+1+n<B4;omega)).2.1
    |.lst ds,.lst es,s1,s2=>
      match n,hd,he,hu with
      |n+1,hd,he,hu=>
        obtain⟨a,xs,its,rfl,r1,v1,p1⟩:=s1;obtain⟨b,ys,its2,rfl,r2,v2,p2⟩:=s2;have l1:=v1.length;have l2:=r1.length;have l3:=v2.length;have l4:=r2.length
        refine kH p1 p2 (by omega) (by omega) hu0 (fun hab=>?_) fun j h1 h2=>?_
        · have e1:v=.ref a:=BB.inj rv rfl;have e2:w'=.ref b:=BB.inj rw' rfl;subst e1 e2 hab;have z:=NQ I (n+1) _ _ hd he r q
          injection z with z
          rw[z];exact eqDs_refl n es he
        · obtain⟨x,rx,qx⟩:=Kf r1 v1 h1;obtain⟨y,ry,qy⟩:=Kf r2 v2 h2;exact(MN I n _ _ x y _ _ B.in1 (Kd hd j) (Kd he j) rx ry qx qy (by show B.units+1+n<B4;omega)).2.1
    |.obj _ _,_,s1,_=>exact s1.elim
    |.exc _ _,_,s1,_=>exact s1.elim
    |.dic _,_,s1,_=>exact s1.elim
    |_,.obj _ _,_,s2=>exact s2.elim
    |_,.exc _ _,_,s2=>exact s2.elim
    |_,.dic _,_,s2=>exact s2.elim
end
section
variable{X:Cx}{CL:ClA}{W:XW}
theorem Oa(I:Inv X pI σ H s){ds:Ac D}{its:Ac Al}(B:A2)(hd:flD n d=Ab)(hs:ds.all (flD n)=Ab)(r:Reps X.K CL H A0 xs ds)(rv:A7 xs its)(q:Rep X.K CL H A0 v d)(qv:BB v u)(hu:B.units+n<B4):∃ e:Al->Ak,(∀ y,y∈its.toArray->Gp B s y u (e y))/\its.toArray.any e=ds.any fun y=>eqD y d:=by
 have l1:=rv.length;have l2:=r.length
 have key:∀ y,y∈its->∃ k:Ak,Gp B s y u k/\∀ j (h:j<its.length),its[j]=y->eqD (ds.getD j .non) d=k:=fun y hy=>by
  obtain⟨j,hj,rfl⟩:=E2 hy;obtain⟨x,rx,qx⟩:=Kf r rv hj;refine⟨eqD (ds.getD j .non) d,(MN I n _ _ x v _ _ B (Kd hs j) hd rx q qx qv hu).2.1,fun j' hj' e=>?_⟩
  obtain⟨x',rx',qx'⟩:=Kf r rv hj';rw[e]at qx';have z:=BB.inj qx qx';subst z;rw[NQ I n _ _ (Kd hs j') (Kd hs j) rx' rx]
 have key2:∀ y,∃ k:Ak,y∈its->Gp B s y u k/\∀ j (h:j<its.length),its[j]=y->eqD (ds.getD j .non) d=k:=fun y=>by
  by_cases hy:y∈its
  ·obtain⟨k,hk⟩:=key y hy;exact⟨k,fun _=>hk⟩
  ·exact⟨Ab,fun h=>absurd h hy⟩
 refine⟨fun y=>XR (key2 y),fun y hy=>(Er (key2 y) (by simpa using hy)).1,?_⟩
 rw[DH];simp only[List.any_toArray,EH];constructor
 ·rintro⟨y,hy,hk⟩;obtain⟨j,hj,rfl⟩:=E2 hy;have z:=(Er (key2 its[j]) hy).2 j hj rfl;rw[hk]at z;refine⟨ds.getD j .non,?_,z⟩;rw[BU,Bm (by omega)]
  exact D3 _
 ·rintro⟨y,hy,hk⟩;obtain⟨j,hj,rfl⟩:=E2 hy;have hj':j<its.length:=by omega
  refine⟨its[j],D3 _,?_⟩;have z:=(Er (key2 its[j]) (D3 _)).2 j hj' rfl;rw[<-z,BU,Bm hj];exact hk
theorem Ny{g:Af->Af->Ak}(ho:OpR X (Cz op) (rI0 fun i j=>.bl (g i j)))(hg:∀ dx dy,(∃ i j,dx=.int i/\dy=.int j/\BX op dx dy=.ok (.bl (g i j)))\/BX op dx dy=.bad):OpD X CL W (Cz op) (BX op):=by
 intro A pI s σ H x y v u Q I rx ry ⟨hA,dx,dy,hx,hy,p⟩;rcases hg dx dy with ⟨i,j,rfl,rfl,e⟩|e
 ·have ex:=hx.int_of;have ey:=hy.int_of
  subst ex ey;rw[e]at p;exact ho pI s σ H _ _ v u Q I rx ry ⟨i,j,rfl,rfl,p _ H (AD.refl H) rfl⟩
 ·rw[e]at p;exact p.elim
theorem Wi{x:V}(h:CO X.K CL H A x d)(hd:d≠.non):x≠.non:=by
 rintro rfl;have h:=h.plain;cases d with
 |non=>exact hd rfl
 |tup=>obtain⟨_,_,e,_⟩:=h;cases e
 |lst=>obtain⟨_,_,e,_⟩:=h;cases e
 |obj=>obtain⟨_,_,_,_,e,_⟩:=h;cases e
 |exc=>obtain⟨_,_,_,e,_⟩:=h;cases e
 |dic=>exact h.elim
 |_=>cases h
theorem Le(hu:X.A.units+64<B4)(op:C9):OpD X CL W (Cz op) (BX op):=by
 cases op with
 |Eq=>
  intro A pI s σ H x y v u Q I rx ry ⟨hA,dx,dy,hx,hy,p⟩;rw[ce]at p;split at p
  ·rename_i h;simp only[Aj]at h;exact(MN I 5 dx dy x y v u X.A h.1 h.2 hx.plain hy.plain rx ry (by omega)).1 X.prog X.w X.xe _ ⟨.bl _,H,I,rfl,p _ H (AD.refl H) rfl⟩
  ·exact p.elim
 |NotEq=>
  intro A pI s σ H x y v u Q I rx ry ⟨hA,dx,dy,hx,hy,p⟩;rw[zR]at p;split at p
  ·rename_i h;simp only[Aj]at h;exact(MN I 5 dx dy x y v u X.A h.1 h.2 hx.plain hy.plain rx ry (by omega)).2.2 X.prog X.w X.xe _ ⟨.bl _,H,I,rfl,p _ H (AD.refl H) rfl⟩
  ·exact p.elim
 |Lt=>exact Ny bj fun dx dy=>by cases dx<;>cases dy<;>first|exact .inl ⟨_,_,rfl,rfl,rfl⟩|exact .inr rfl
 |LtE=>exact Ny bo fun dx dy=>by cases dx<;>cases dy<;>first|exact .inl ⟨_,_,rfl,rfl,rfl⟩|exact .inr rfl
 |Gt=>exact Ny bp fun dx dy=>by cases dx<;>cases dy<;>first|exact .inl ⟨_,_,rfl,rfl,rfl⟩|exact .inr rfl
 |GtE=>exact Ny bq fun dx dy=>by cases dx<;>cases dy<;>first|exact .inl ⟨_,_,rfl,rfl,rfl⟩|exact .inr rfl
 |In=>
  intro A pI s σ H x y v u Q I rx ry ⟨hA,dx,dy,hx,hy,p⟩;cases dy with
  |lst es=>
   rw[cV]at p;split at p
   ·rename_i h;simp only[Aj]at h;obtain⟨a,xs,e,_,sq,r⟩:=hy.plain;subst e;cases ry;obtain⟨its,rv,pl,_⟩:=I.list sq;obtain⟨e,he,ha⟩:=Oa I (n:=5) X.A.in1 h.1 h.2 r rv hx.plain rx (by show X.A.units+1+5<B4;omega)
    refine SeqAt.in_listAt e (Jz pl) he ?_;rw[ha];exact⟨.bl _,H,I,rfl,p _ H (AD.refl H) rfl⟩
   ·exact p.elim
  |tup es=>
   rw[cU]at p;split at p
   ·rename_i h;simp only[Aj]at h;obtain⟨a,xs,e,_,sq,r⟩:=hy.plain;subst e;cases ry;obtain⟨its,rv,pl,_⟩:=I.tuple sq;obtain⟨e,he,ha⟩:=Oa I (n:=5) X.A.in1 h.1 h.2 r rv hx.plain rx (by show X.A.units+1+5<B4;omega)
    refine SeqAt.in_tupleAt e pl he ?_;rw[ha];exact⟨.bl _,H,I,rfl,p _ H (AD.refl H) rfl⟩
   ·exact p.elim
  |dic kvs=>exact hy.plain.elim
  |_=>cases dx<;>exact p.elim
 |NotIn=>
  intro A pI s σ H x y v u Q I rx ry ⟨hA,dx,dy,hx,hy,p⟩;cases dy with
  |lst es=>
   rw[zP]at p;split at p
   ·rename_i h;simp only[Aj]at h;obtain⟨a,xs,e,_,sq,r⟩:=hy.plain;subst e;cases ry;obtain⟨its,rv,pl,_⟩:=I.list sq;obtain⟨e,he,ha⟩:=Oa I (n:=5) X.A.in1 h.1 h.2 r rv hx.plain rx (by show X.A.units+1+5<B4;omega)
    refine SeqAt.notIn_listAt e (Jz pl) he ?_;rw[ha];exact⟨.bl _,H,I,rfl,p _ H (AD.refl H) rfl⟩
   ·exact p.elim
  |tup es=>
   rw[zO]at p;split at p
   ·rename_i h;simp only[Aj]at h;obtain⟨a,xs,e,_,sq,r⟩:=hy.plain;subst e;cases ry;obtain⟨its,rv,pl,_⟩:=I.tuple sq;obtain⟨e,he,ha⟩:=Oa I (n:=5) X.A.in1 h.1 h.2 r rv hx.plain rx (by show X.A.units+1+5<B4;omega)
    refine SeqAt.notIn_tupleAt e pl he ?_;rw[ha];exact⟨.bl _,H,I,rfl,p _ H (AD.refl H) rfl⟩
   ·exact p.elim
  |_=>cases dx<;>exact p.elim
 |Is=>
  intro A pI s σ H x y v u Q I rx ry ⟨hA,dx,dy,hx,hy,p⟩;cases dy with
  |non=>
   have ey:=hy.non_of;subst ey;refine vC pI s σ H _ _ v u Q I rx ry ⟨rfl,?_⟩;cases dx with
   |non=>
    have ex:=hx.non_of;subst ex;exact p _ H (AD.refl H) rfl
   |exc=>exact p.elim
   |dic=>exact p.elim
   |_=>rw[CY (Wi hx (by simp))];exact p _ H (AD.refl H) rfl
  |bl b=>
   cases dx with
   |bl a=>
    have ey:=hy.bl_of;have ex:=hx.bl_of;subst ex ey;cases rx;cases ry;refine wpAny_is_plain rfl ⟨.bl (a==b),H,I,?_,p _ H (AD.refl H) rfl⟩;cases a<;>cases b<;>rfl
   |_=>exact p.elim
  |_=>cases dx<;>exact p.elim
 |IsNot=>
  intro A pI s σ H x y v u Q I rx ry ⟨hA,dx,dy,hx,hy,p⟩;cases dy with
  |non=>
   have ey:=hy.non_of;subst ey;refine oP pI s σ H _ _ v u Q I rx ry ⟨rfl,?_⟩;cases dx with
   |non=>
    have ex:=hx.non_of;subst ex;exact p _ H (AD.refl H) rfl
   |exc=>exact p.elim
   |dic=>exact p.elim
   |_=>rw[CY (Wi hx (by simp))];exact p _ H (AD.refl H) rfl
  |bl b=>
   cases dx with
   |bl a=>
    have ey:=hy.bl_of;have ex:=hx.bl_of;subst ex ey;cases rx;cases ry;refine wpAny_isNot_plain rfl ⟨.bl (!(a==b)),H,I,?_,p _ H (AD.refl H) rfl⟩;cases a<;>cases b<;>rfl
   |_=>exact p.elim
  |_=>cases dx<;>exact p.elim
end
section
variable{X:Cx}{CL:ClA}{W:XW}{a b c:An}{fa fb fc:Rho->R D}{pos:AG}
theorem Db.bind{f:D->R Ak}{Q:Ak->Hp->Prop}{Q':VK}(h:Db W H (r.bind f) Q)(k:∀ d v H',r=.ok d->AD H H'->Rp H' v d->Db W H' (f d) Q->Q' v H'):A9 Rp W H r Q':=by
 cases r with
 |ok d=>exact fun v H2 s2 q=>k d v H2 rfl s2 q (Db.same s2 h)
 |exn x=>exact h
 |bad=>exact h
theorem Db.bindB{r:R Ak}{f:Ak->R Ak}{Q:Ak->Hp->Prop}{Q':Ak->Hp->Prop}(h:Db W H (r.bind f) Q)(k:∀ b H',r=.ok b->AD H H'->Db W H' (f b) Q->Q' b H'):Db W H r Q':=by
 cases r with
 |ok d=>exact fun H2 s2=>k d H2 rfl s2 (Db.same s2 h)
 |exn x=>exact h
 |bad=>exact h
theorem HH.bind{Rp:Hp->Ac V->Ac D->Prop}{r:R (Ac D)}{f:Ac D->R D}{Q':Ac V->Hp->Prop}(h:A9 Rq W H (r.bind f) Q)(k:∀ d v H',r=.ok d->AD H H'->Rp H' v d->A9 Rq W H' (f d) Q->Q' v H'):HH Rp W H r Q':=by
 cases r with
 |ok d=>exact fun v H2 s2 q=>k d v H2 rfl s2 q (A9.same s2 h)
 |exn x=>exact h
 |bad=>exact h
theorem tJ(ha:ST X CL W a fa):SE X CL W (.UnaryOp .USub a pos) (fun ρ=>(fa ρ).bind fun x=>unD .USub x):=fun A=>PE.weak (aq rD (ha A)) fun σ H Q ⟨hA,ρ,g,p⟩=>⟨hA,ρ,g,A9.bind p fun d v H1 _ s1 r1 p1=>by
 cases d with
 |int i=>
  have e:=r1.int_of;subst e;exact⟨i,rfl,p1 _ H1 (AD.refl H1) rfl⟩
 | _=>exact p1.elim⟩
theorem ND{f:Ak->R D}(h:A9 Rq W H ((Du d).bind f) Q):∃ c,d=.bl c/\A9 Rq W H (f c) Q:=by
 cases d with
 |bl c=>exact⟨c,rfl,h⟩
 |_=>exact h.elim
theorem WO(ha:ST X CL W a fa):SE X CL W (.UnaryOp .Not a pos) (fun ρ=>(fa ρ).bind fun x=>(Du x).bind fun b=>.ok (.bl (!b))):=fun A=>PE.weak (rX (ha A)) fun σ H Q ⟨hA,ρ,g,p⟩=>⟨hA,ρ,g,A9.bind p fun d v H1 _ s1 r1 p1=>by
 obtain⟨c,rfl,p2⟩:=ND p1;exact⟨c,r1.bl_of,p2 _ H1 (AD.refl H1) rfl⟩⟩
theorem QN{op}(ha:SE X CL W a fa):SE X CL W (.BoolOp op [a] pos) fa:=fun A=>rW (ha A)
theorem WQ{rest:Ac An}(ha:SE X CL W a fa)(hb:SE X CL W (.BoolOp .And (b::rest) pos) fb):SE X CL W (.BoolOp .And (a::b::rest) pos) (fun ρ=>(fa ρ).bind fun x=>(Du x).bind fun c=>if c=Ab then fb ρ else .ok (.bl Ad)):=
 fun A=>PE.weak (uY (ha A) (hb A)) fun σ H Q ⟨hA,ρ,g,p⟩=>⟨hA,ρ,g,A9.bind p fun d v H1 _ s1 r1 p1=>by
  obtain⟨c,rfl,p2⟩:=ND p1;refine⟨c,r1,?_⟩;cases c with
  |true=>exact⟨hA.same s1,ρ,g.same s1,p2⟩
  | false=>exact p2 _ H1 (AD.refl H1) rfl⟩
theorem yX{rest:Ac An}(ha:SE X CL W a fa)(hb:SE X CL W (.BoolOp .Or (b::rest) pos) fb):SE X CL W (.BoolOp .Or (a::b::rest) pos) (fun ρ=>(fa ρ).bind fun x=>(Du x).bind fun c=>if c=Ab then .ok (.bl Ab) else fb ρ):=
 fun A=>PE.weak (ar (ha A) (hb A)) fun σ H Q ⟨hA,ρ,g,p⟩=>⟨hA,ρ,g,A9.bind p fun d v H1 _ s1 r1 p1=>by
  obtain⟨c,rfl,p2⟩:=ND p1;refine⟨c,r1,?_⟩;cases c with
  |false=>exact⟨hA.same s1,ρ,g.same s1,p2⟩
  | true=>exact p2 _ H1 (AD.refl H1) rfl⟩
theorem gZ{op':C9}(hu:X.A.units+64<B4)(ha:ST X CL W a fa)(hb:ST X CL W b fb)(hc:ST X CL W c fc)(hm:Jq [op,op'] [b,c]=Ad):SE X CL W (.Compare a [op,op'] [b,c] pos) (fun ρ=>(fa ρ).bind fun x=>(fb ρ).bind fun y=>(BX op x y).bind fun z=>(Du z).bind fun k=>if k=Ab then (fc ρ).bind fun u=>BX op' y u else .ok (.bl Ad)):=
 fun A=>PE.weak (gJ (Le hu op A) (Le hu op' A) (ha A) (hb A) (hc A) hm) fun σ H Q ⟨hA,ρ,g,p⟩=>⟨hA,ρ,g,A9.bind p fun dx x H1 _ s1 r1 p1=>⟨hA.same s1,ρ,g.same s1,A9.bind p1 fun dy y H2 _ s2 r2 p2=>
  ⟨(hA.same s1).same s2,dx,dy,r1.same s2,r2,A9.bind p2 fun dz z H3 _ s3 r3 p3=>by
   obtain⟨k,rfl,p4⟩:=ND p3;refine⟨k,r3,?_⟩;cases k with
   |false=>exact p4 _ H3 (AD.refl H3) rfl
   | true=>exact⟨((hA.same s1).same s2).same s3,ρ,((g.same s1).same s2).same s3,A9.bind p4 fun du u H4 _ s4 r4 p5=>⟨(((hA.same s1).same s2).same s3).same s4,dy,du,(r2.same s3).same s4,r4,p5⟩⟩⟩⟩⟩
theorem qH{xs:Ac D}{i:Af}(h:Dj xs i=.ok d):∃ k,plD xs.length i=Aa k/\xs[k]?=Aa d:=by
 unfold Dj at h;split at h
 ·rename_i k e;split at h
  ·rename_i d' e';cases h;exact⟨k,e,e'⟩
  ·cases h
 ·cases h
theorem NG{xs:Ac D}{i:Af}(h:Dj xs i=.exn x):AX:=by
 unfold Dj at h;split at h
 ·split at h<;>cases h
 ·cases h
theorem VV{ds:Ac D}{i:Af}(r:Reps K CL H A xs ds)(h:Dj ds i=.ok d):∃ v,atI xs i=Aa v/\Rep K CL H A v d:=by
 obtain⟨k,e,q⟩:=qH h;obtain⟨v,hv,rv⟩:=r.get q;refine⟨v,?_,rv⟩;unfold atI;have:ixN xs.length i=Aa k:=by rw[r.length];exact e
 rw[this];exact hv
theorem tP(hs:QI b)(ha:ST X CL W a fa)(hb:ST X CL W b fb):SE X CL W (.Subscript a b pos) (fun ρ=>(fa ρ).bind fun x=>(fb ρ).bind fun y=>Bx x y):=
 fun A=>PE.weak (av (r:=fun x y H Q=>R7 X.K x y H Q\/R6 X.K x y H Q) (mQ.or uM) (ha A) (hb A) hs) fun σ H Q h=>by
  obtain⟨hA,ρ,g,h⟩:=op2 h;refine⟨hA,ρ,g,?_⟩;cases e:fa ρ with
  |bad=>rw[e]at h;exact h
  |exn x=>rw[e]at h;exact h
  |ok dx0=>
   rw[e]at h;intro x H1 s1 r1;obtain⟨hA1,ρ1,g1,h1⟩:=h x H1 s1 r1;refine⟨hA1,ρ1,g1,?_⟩;cases e1:fb ρ1 with
   |bad=>rw[e1]at h1;exact h1
   |exn x=>rw[e1]at h1;exact h1
   |ok dy0=>
    rw[e1]at h1;intro y H2 s2 r2;obtain⟨hA2,dx,dy,rx,ry,p⟩:=h1 y H2 s2 r2;cases dy with
    |int i=>
     have ey:=ry.int_of;subst ey;cases dx with
     |lst ds=>
      obtain⟨q,xs,rfl,sq,r⟩:=rx.lst_of;rw[zH]at p;cases e2:Dj ds i with
      |ok d=>
       rw[e2]at p;obtain⟨v,hv,rv⟩:=VV r e2;exact .inl ⟨q,xs,i,v,rfl,rfl,sq,hv,p v H2 (AD.refl H2) rv⟩
      |exn x=>exact(NG e2).elim
      |bad=>rw[e2]at p;exact p.elim
     |tup ds=>
      obtain⟨q,xs,rfl,_,sq,r⟩:=rx.tup_of;rw[zG]at p;cases e2:Dj ds i with
      |ok d=>
       rw[e2]at p;obtain⟨v,hv,rv⟩:=VV r e2;exact .inr ⟨q,xs,i,v,rfl,rfl,sq,hv,p v H2 (AD.refl H2) rv⟩
      |exn x=>exact(NG e2).elim
      |bad=>rw[e2]at p;exact p.elim
     |dic=>exact rx.plain.elim
     |_=>exact p.elim
    |_=>cases dx<;>first|exact p.elim|exact rx.plain.elim
theorem QR:SA X CL W [] (fun _=>.ok []):=fun A=>PA.weak E7 fun σ H Q ⟨hA,ρ,g,p⟩=>p [] H (AD.refl H) trivial
theorem Qv(ha:SE X CL W a fa)(hs:SA X CL W es fs)(hst:Av (a::es) X.env=(Ad,eval a X.env)::Av es X.env):SA X CL W (a::es) (fun ρ=>(fa ρ).bind fun x=>(fs ρ).bind fun xs=>.ok (x::xs)):=
 fun A=>PA.weak (DC (ha A) (hs A) hst) fun σ H Q ⟨hA,ρ,g,p⟩=>by
  dsimp only at p;refine⟨hA,ρ,g,?_⟩;cases e:fa ρ with
  |bad=>rw[e]at p;exact p
  |exn x=>rw[e]at p;exact p
  |ok d=>
   rw[e]at p;intro v H1 s1 r1;refine⟨hA.same s1,ρ,g.same s1,?_⟩;cases e1:fs ρ with
   |bad=>rw[R.bind_ok,e1]at p;exact p
   |exn x=>rw[R.bind_ok,e1]at p;exact fun H2 s2=>p H2 (s1.trans s2)
   |ok ds=>
    rw[R.bind_ok,e1]at p;exact fun vs H2 s2 r2=>p (v::vs) H2 (s1.trans s2) ⟨r1.same s2,r2⟩
theorem WM(hs:SA X CL W es fs)(hz:∀ ρ ds,fs ρ=.ok ds->ds.length<=100000):SE X CL W (.Tuple es k pos) (fun ρ=>(fs ρ).bind fun xs=>.ok (.tup xs)):=
 fun A=>PE.weak (Wc (hs A)) fun σ H Q ⟨hA,ρ,g,p⟩=>⟨hA,ρ,g,HH.bind p fun ds vs H1 e s1 r1 p1=>⟨by
  rw[r1.length,Dl];have:=hz ρ ds e;omega,fun q hq=>p1 _ _ (FN hq _) (Lf (hA.same s1) hq r1)⟩⟩
def Kt(W:XW)(H:Hp)(r:R (Ap Af))(Q:Ap Af->Hp->Prop):Prop:=match r with
  |.ok o=>∀ H',AD H H'->Q o H'
  |.exn x=>∀ H',AD H H'->W x H'
  |.bad=>AX
theorem Kt.bind{r:R (Ap Af)}{f:Ap Af->R D}(h:A9 Rq W H (r.bind f) Q)(k:∀ o H',r=.ok o->AD H H'->A9 Rq W H' (f o) Q->Q' o H'):Kt W H r Q':=by
 cases r with
 |ok d=>exact fun H2 s2=>k d H2 rfl s2 (A9.same s2 h)
 |exn x=>exact h
 |bad=>exact h
def SO(X:Cx)(CL:ClA)(W:XW)(e:Ap An)(f:Rho->R (Ap Af)):Prop:=∀ A,PO X e (fun σ H Q=>AOk H A/\∃ ρ,Good X.K CL A ρ σ H/\Kt W H (f ρ) Q)
theorem PO.weak{e:Ap An}{t t':TO}(h:PO X e t)(k:∀ σ H Q,t' σ H Q->t σ H Q):PO X e t':=fun pI s σ H Q I q=>h pI s σ H Q I (k _ _ _ q)
theorem lG:SO X CL W Ae (fun _=>.ok Ae):=fun A=>PO.weak oA fun σ H Q ⟨hA,ρ,g,p⟩=>p H (AD.refl H)
theorem lF(ha:ST X CL W a fa):SO X CL W (Aa a) (fun ρ=>(fa ρ).bind fun d=>(DT d).bind fun i=>.ok (Aa i)):=fun A=>PO.weak (nZ (ha A)) fun σ H Q ⟨hA,ρ,g,p⟩=>by
 dsimp only at p;refine⟨hA,ρ,g,?_⟩;cases e:fa ρ with
 |bad=>rw[e]at p;exact p
 |exn x=>rw[e]at p;exact p
 |ok d=>
  rw[e]at p;intro v H1 s1 r1;cases d with
  |int i=>exact⟨i,r1.int_of,p H1 s1⟩
  |_=>exact p.elim
theorem VH{ds:Ac D}(lo hi:Ap Af)(r:Reps K CL H A xs ds):Reps K CL H A (JH xs lo hi) (Kw ds lo hi):=by
 unfold JH Kw;have e:∀ d o,HT.sIx xs.length d o=Ik ds.length d o:=fun d o=>by rw[r.length];cases o<;>rfl
 rw[e,e,r.length];exact(r.drop _).take _
end
section
variable{X:Cx}{CL:ClA}{W:XW}{a b c:An}{fa fb fc:Rho->R D}{pos:AG}
def F9(K:Fg)(CL:ClA)(H:Hp)(A:Am->Prop):Ac V->Ac D->Prop
 |[],[]=>HA
 |v::vs,d::ds=>CO K CL H A v d/\F9 K CL H A vs ds
 |_,_=>AX
theorem F9.same{K:Fg}{H H':Hp}{A:Am->Prop}(s:AD H H'):∀{vs:Ac V}{ds:Ac D},F9 K CL H A vs ds->F9 K CL H' A vs ds
 |[],[],h=>h
 |_::_,_::_,h=>⟨h.1.same s,F9.same s h.2⟩
 |[],_::_,h=>h.elim
 |_::_,[],h=>h.elim
theorem F9.one(h:F9 K CL H A vs [d]):∃ v,vs=[v]/\CO K CL H A v d:=by
 cases vs with
 |nil=>exact h.elim
 |cons v vs=>
  cases vs with
  |nil=>exact⟨v,rfl,h.1⟩
  |cons=>exact h.2.elim
theorem F9.two{e:D}(h:F9 K CL H A vs [d,e]):∃ v w',vs=[v,w']/\CO K CL H A v d/\CO K CL H A w' e:=by
 cases vs with
 |nil=>exact h.elim
 |cons v vs=>
  cases vs with
  |nil=>exact h.2.elim
  |cons w' vs=>
   cases vs with
   |nil=>exact⟨v,w',rfl,h.1,h.2.1⟩
   |cons=>exact h.2.2.elim
def SAT(X:Cx)(CL:ClA)(W:XW)(es:Ac An)(f:Rho->R (Ac D)):Prop:=∀ A,PA X es (fun σ H Q=>AOk H A/\∃ ρ,Good X.K CL A ρ σ H/\HH (fun H=>F9 X.K CL H A) W H (f ρ) Q)
theorem Vc:SAT X CL W [] (fun _=>.ok []):=fun A=>PA.weak E7 fun σ H Q ⟨hA,ρ,g,p⟩=>p [] H (AD.refl H) trivial
theorem Uq(ha:ST X CL W a fa)(hs:SAT X CL W es fs)(hst:Av (a::es) X.env=(Ad,eval a X.env)::Av es X.env):SAT X CL W (a::es) (fun ρ=>(fa ρ).bind fun x=>(fs ρ).bind fun xs=>.ok (x::xs)):=
 fun A=>PA.weak (DC (ha A) (hs A) hst) fun σ H Q ⟨hA,ρ,g,p⟩=>by
  dsimp only at p;refine⟨hA,ρ,g,?_⟩;cases e:fa ρ with
  |bad=>rw[e]at p;exact p
  |exn x=>rw[e]at p;exact p
  |ok d=>
   rw[e]at p;intro v H1 s1 r1;refine⟨hA.same s1,ρ,g.same s1,?_⟩;cases e1:fs ρ with
   |bad=>rw[R.bind_ok,e1]at p;exact p
   |exn x=>rw[R.bind_ok,e1]at p;exact fun H2 s2=>p H2 (s1.trans s2)
   |ok ds=>
    rw[R.bind_ok,e1]at p;exact fun vs H2 s2 r2=>p (v::vs) H2 (s1.trans s2) ⟨r1.same s2,r2⟩
def JE(X:Cx)(CL:ClA)(W:XW)(f:Al)(g:Ac D->R D):Prop:=∀ A,HI X f (fun xs H Q=>AOk H A/\∃ ds,F9 X.K CL H A xs ds/\A9 (fun H=>Rep X.K CL H A) W H (g ds) Q)
theorem N8{x:Ai}{id:C5}{g:Ac D->R D}(hc:JE X CL W (.builtin id) g)(hg:Gl X x)(hm:X.mg x=Ae)(hv:C4 x=Aa (.builtin id))(ha:SAT X CL W (e::es) fs)(hn:x≠"__name__")(hdb:(x==("__debug__" : Ai))=Ad)(he:Av (e::es) X.env=(Ad,eval e X.env)::Av es X.env)(hpl:∀ pos,(BN pos (Av es X.env)).any (·.1)=Ad):SE X CL W (.Call (.Name x p) (e::es) [] pos) (fun ρ=>(fs ρ).bind g):=fun A=>PE.weak (Mp (hc A) hg hm hv (ha A) hn hdb he (hpl _)) fun σ H Q ⟨hA,ρ,gd,q⟩=>⟨hA,ρ,gd,HH.bind q fun ds vs H1 _ s1 r1 p1=>⟨hA.same s1,ds,r1,p1⟩⟩
theorem WP{x:Ai}{g:Ac D->R D}(hc:JE X CL W (.type T) g)(hg:Gl X x)(hm:X.mg x=Ae)(hv:C4 x=Aa (.type T))(ha:SAT X CL W (e::es) fs)(hn:x≠"__name__")(hdb:(x==("__debug__" : Ai))=Ad)(he:Av (e::es) X.env=(Ad,eval e X.env)::Av es X.env)(hpl:∀ pos,(BN pos (Av es X.env)).any (·.1)=Ad):SE X CL W (.Call (.Name x p) (e::es) [] pos) (fun ρ=>(fs ρ).bind g):=fun A=>PE.weak (Tw (hc A) hg hm hv (ha A) hn hdb he (hpl _)) fun σ H Q ⟨hA,ρ,gd,q⟩=>⟨hA,ρ,gd,HH.bind q fun ds vs H1 _ s1 r1 p1=>⟨hA.same s1,ds,r1,p1⟩⟩
theorem vS:JE X CL W (.builtin "len") (biD .len):=by
  intro A pI s σ H xs us Q I r ⟨hA,ds,rs,p⟩
  match ds,rs,p with
  |[.lst es],rs,p=>
    obtain⟨v,rfl,rv⟩:=rs.one;obtain⟨q,ys,rfl,sq,ry⟩:=rv.lst_of;exact Tf pI s σ H _ us Q I r ⟨q,ys,rfl,.inl sq,p _ H (AD.refl H) (by rw[ry.length];rfl)⟩
  |[.tup es],rs,p=>
    obtain⟨v,rfl,rv⟩:=rs.one;obtain⟨q,ys,rfl,_,sq,ry⟩:=rv.tup_of;exact Tf pI s σ H _ us Q I r ⟨q,ys,rfl,.inr sq,p _ H (AD.refl H) (by rw[ry.length];rfl)⟩
  |[.str x],rs,p=>
    obtain⟨v,rfl,rv⟩:=rs.one;have e:=rv.str_of;subst e;have p':A9 (fun H=>Rep X.K CL H A) W H (if Dq x.length=Ab then .ok (.int x.length) else .bad) Q:=p
    split at p'
    · rename_i h;exact dJ pI s σ H _ us Q I r ⟨x,rfl,Ib h,p' _ H (AD.refl H) rfl⟩
    · exact p'.elim
  |[],_,p=>exact p.elim
  |[.non],_,p=>exact p.elim
  |[.bl _],_,p=>exact p.elim
  |[.int _],_,p=>exact p.elim
  |[.obj _ _],_,p=>exact p.elim
  |[.exc _ _],_,p=>exact p.elim
  |[.dic _],rs,p=>first|exact p.elim|(obtain⟨v,rfl,rv⟩:=rs.one;exact rv.plain.elim)
  |x::_::_,_,p=>cases x<;>exact p.elim
theorem TZ:∀(is:Ac Af)(i:Af),Il i is∈i::is/\∀ a∈i::is,Il i is<=a
 |[],i=>⟨AB,fun a h=>by rw[List.mem_singleton]at h;rw[h];exact JN _⟩
 |j::r,i=>by
  obtain⟨h1,h2⟩:=TZ r (if j<i then j else i)
  refine⟨?_,fun a h=>?_⟩
  ·show Il (if j<i then j else i) r∈_
   rcases Aw.mp h1 with e|e
   ·rw[e];split
    ·exact Ay _ AB
    ·exact AB
   ·exact Ay _ (Ay _ e)
  ·show Il (if j<i then j else i) r<=a
   have h0:=h2 _ AB;rcases Aw.mp h with e|e
   ·subst e;refine Jg h0 ?_;split<;>omega
   ·rcases Aw.mp e with e|e
    ·subst e;refine Jg h0 ?_;split<;>omega
    ·exact h2 a (Ay _ e)
theorem Tx:∀{is:Ac Af}{its:Ac Al},A7 (is.map V.int) its->∃ xs:Be (Af×CM),its.toArray=Me xs/\xs.toList.map (·.1)=is
 |[],_,h=>by cases h;exact⟨#[],by simp[Me],rfl⟩
 |i::is,_,h=>by
  cases h with
  |cons h1 h2=>
   obtain⟨t,rfl⟩:=h1;obtain⟨xs,e1,e2⟩:=Tx h2;refine⟨((i,t)::xs.toList).toArray,?_,?_⟩
   ·apply Array.toList_inj.mp
    have e1':=congrArg Jf e1;simp[Me]at e1' ⊢;exact e1'
   ·simp[e2]
theorem fF(hc:X.calm=Ab):HI X (.builtin "min") (fun xs H Q=>∃ a i is,xs=[.ref a]/\SqL X.K H a ((i::is).map V.int)/\Q (.int (Il i is)) H):=by
 intro pI s σ H xs us Q I r h;obtain⟨a,i,is,rfl,sq,q⟩:=h;obtain⟨u,rfl,ru⟩:=Hd r;cases ru;obtain⟨its,rv,pl,hz⟩:=I.list sq;obtain⟨ys,e1,e2⟩:=Tx rv;have hsz:0<ys.size:=by
  have:=congrArg Yg e2;simp at this;omega
 have hl:=pl.isList;rw[e1]at hl;refine min_intList (I.ok.hd hc) hl hsz fun v h' tk hv hk=>?_
 obtain⟨t,rfl⟩:=intItems_at hv;obtain⟨h1,h2⟩:=argBest_lt (IE ys) (ys.size-1);have nm:∀ j,j<ys.size->IE ys j∈i::is:=fun j hj=>by
  rw[<-e2];unfold IE;rw[XM hj];simp only[Ej,Option.getD_some];exact Dm.mpr ⟨ys[j],by simp,rfl⟩
 have nx:∀ x∈i::is,∃ j,j<ys.size/\IE ys j=x:=fun x hx=>by
  rw[<-e2]at hx;obtain⟨y,hy,rfl⟩:=Dm.mp hx;obtain⟨j,hj,ej⟩:=Array.mem_iff_getElem.mp (Array.mem_toList_iff.mp hy);refine⟨j,hj,?_⟩;unfold IE;rw[XM hj,ej];rfl
 obtain⟨m1,m2⟩:=TZ is i;have em:IE ys (argBest (fun i j=>decide (IE ys i<IE ys j)) (ys.size-1))=Il i is:=by
  refine Int.le_antisymm ?_ (m2 _ (nm _ (by omega)))
  obtain⟨j,hj,ej⟩:=nx _ m1;rw[<-ej];exact h2 j (by omega)
 rw[em];exact⟨.int (Il i is),H,I.kept hk,⟨_,rfl⟩,q⟩
theorem Nt{K:Fg}{CL:ClA}{H:Hp}{A:Am->Prop}:∀{es:Ac D}{is:Ac Af}{ys:Ac V},Ha es=Aa is->Reps K CL H A ys es->ys=is.map V.int
 |[],_,[],h,_=>by cases h;rfl
 |[],_,_::_,_,r=>r.elim
 |_::_,_,[],_,r=>r.elim
 |e::es,is,y::ys,h,r=>by
  cases e with
  |int i=>
   have h':(Ha es).map (i :: ·)=Aa is:=h;cases e2:Ha es with
   |none=>rw[e2]at h';cases h'
   |some js=>
    rw[e2]at h';cases h';have ih:=Nt e2 r.2;have e1:y=.int i:=r.1;rw[ih,e1];rfl
  |_=>cases h
theorem fR(ds:Ac D)(hl:∀ es,ds≠[.lst es]):(∃ i j,ds=[.int i,.int j])\/biD .min ds=.bad:=by
  match ds with
  |[.int i,.int j]=>exact .inl ⟨i,j,rfl⟩
  |[]=>exact .inr rfl
  |[x]=>cases x<;>first|exact .inr rfl|exact absurd rfl (hl _)
  |x::y::z::r=>cases x<;>cases y<;>exact .inr rfl
  |[x,.non]=>cases x<;>exact .inr rfl
  |[x,.bl _]=>cases x<;>exact .inr rfl
  |[x,.str _]=>cases x<;>exact .inr rfl
  |[x,.tup _]=>cases x<;>exact .inr rfl
  |[x,.lst _]=>cases x<;>exact .inr rfl
  |[x,.obj _ _]=>cases x<;>exact .inr rfl
  |[x,.exc _ _]=>cases x<;>exact .inr rfl
  |[x,.dic _]=>cases x<;>exact .inr rfl
  |[.non,.int _]=>exact .inr rfl
  |[.bl _,.int _]=>exact .inr rfl
  |[.str _,.int _]=>exact .inr rfl
  |[.tup _,.int _]=>exact .inr rfl
  |[.lst _,.int _]=>exact .inr rfl
  |[.obj _ _,.int _]=>exact .inr rfl
  |[.exc _ _,.int _]=>exact .inr rfl
  |[.dic _,.int _]=>exact .inr rfl
theorem vR(hc:X.calm=Ab):JE X CL W (.builtin "min") (biD .min):=by
  intro A pI s σ H xs us Q I r ⟨hA,ds,rs,p⟩;by_cases hls:∃ es,ds=[.lst es]
  · obtain⟨es,rfl⟩:=hls;obtain⟨v,rfl,rv⟩:=rs.one;obtain⟨a,ys,rfl,sq,ry⟩:=rv.lst_of;have p':A9 (Rep X.K CL · A) W H (match Ha es with
      |some (i::is)=>R.ok (.int (Il i is))
      | _=>.bad) Q:=p
    cases e1:Ha es with
    |none=>rw[e1]at p';exact p'.elim
    |some is=>
      cases is with
      |nil=>rw[e1]at p';exact p'.elim
      |cons i is=>
        rw[e1]at p';have ey:=Nt e1 ry;subst ey;exact fF hc pI s σ H _ us Q I r ⟨a,i,is,rfl,sq,p' _ H (AD.refl H) rfl⟩
  rcases fR ds (fun es z=>hls ⟨es,z⟩) with ⟨i,j,rfl⟩|e
  · obtain⟨v,w',rfl,rv,rw'⟩:=rs.two;have e1:=rv.int_of;have e2:=rw'.int_of
    subst e1 e2;exact fG hc pI s σ H _ us Q I r ⟨i,j,rfl,p _ H (AD.refl H) rfl⟩
  · rw[e]at p;exact p.elim
theorem vT:JE X CL W (.type "int") (biD .int):=by
  intro A pI s σ H xs us Q I r ⟨hA,ds,rs,p⟩
  match ds,rs,p with
  |[.int i],rs,p=>
    obtain⟨v,rfl,rv⟩:=rs.one;have e:=rv.int_of;subst e;exact TM pI s σ H _ us Q I r (.inl ⟨i,rfl,p _ H (AD.refl H) rfl⟩)
  |[.bl i],rs,p=>
    obtain⟨v,rfl,rv⟩:=rs.one;have e:=rv.bl_of;subst e;exact TM pI s σ H _ us Q I r (.inr ⟨i,rfl,p _ H (AD.refl H) rfl⟩)
  |[],_,p=>exact p.elim
  |[.non],_,p=>exact p.elim
  |[.str _],_,p=>exact p.elim
  |[.tup _],_,p=>exact p.elim
  |[.lst _],_,p=>exact p.elim
  |[.obj _ _],_,p=>exact p.elim
  |[.exc _ _],_,p=>exact p.elim
  |[.dic _],rs,p=>first|exact p.elim|(obtain⟨v,rfl,rv⟩:=rs.one;exact rv.plain.elim)
  |x::_::_,_,p=>cases x<;>exact p.elim
theorem iU:JE X CL W (.type "tuple") (biD .tuple):=by
  intro A pI s σ H xs us Q I r ⟨hA,ds,rs,p⟩
  match ds,rs,p with
  |[.lst es],rs,p=>
    obtain⟨v,rfl,rv⟩:=rs.one;obtain⟨q,ys,rfl,sq,ry⟩:=rv.lst_of;exact Th pI s σ H _ us Q I r ⟨q,ys,rfl,.inl ⟨sq,fun l hl=>p _ _ (FN hl _) (Lf hA hl ry)⟩⟩
  |[.tup es],rs,p=>
    obtain⟨v,rfl,rv⟩:=rs.one;obtain⟨q,ys,rfl,na,sq,ry⟩:=rv.tup_of;exact Th pI s σ H _ us Q I r ⟨q,ys,rfl,.inr ⟨sq,p _ H (AD.refl H) ⟨q,ys,rfl,na,sq,ry⟩⟩⟩
  |[],_,p=>exact p.elim
  |[.non],_,p=>exact p.elim
  |[.bl _],_,p=>exact p.elim
  |[.int _],_,p=>exact p.elim
  |[.str _],_,p=>exact p.elim
  |[.obj _ _],_,p=>exact p.elim
  |[.exc _ _],_,p=>exact p.elim
  |[.dic _],rs,p=>first|exact p.elim|(obtain⟨v,rfl,rv⟩:=rs.one;exact rv.plain.elim)
  |x::_::_,_,p=>cases x<;>exact p.elim
end
section
variable{X:Cx}{CL:ClA}{W:XW}{a b c:An}{fa fb fc:Rho->R D}{pos:AG}
theorem SB.congr{g:Rho->R Ak}(h:SB X CL W a f)(e:∀ ρ,g ρ=f ρ):SB X CL W a g:=fun A=>PT.weak (h A) fun σ H Q ⟨hA,ρ,q,p⟩=>⟨hA,ρ,q,by rw[<-e];exact p⟩
theorem WS(ha:SB X CL W a f):SB X CL W (.UnaryOp .Not a pos) (fun ρ=>(f ρ).bind fun b=>.ok (!b)):=fun A=>PT.weak (sX (ha A)) fun σ H Q ⟨hA,ρ,g,p⟩=>⟨hA,ρ,g,Db.bindB p fun b H1 _ s1 p1=>p1 H1 (AD.refl H1)⟩
def SW(X:Cx)(CL:ClA)(W:XW)(e:An)(f:Rho->R Ak):Prop:=∀ A,PW X e (fun σ H Q=>AOk H A/\∃ ρ,Good X.K CL A ρ σ H/\Db W H (f ρ) Q)
theorem PW.weak{t t':TT}(h:PW X e t)(k:∀ σ H Q,t' σ H Q->t σ H Q):PW X e t':=fun wh pI s σ H Q I q=>h wh pI s σ H Q I (k _ _ _ q)
theorem SW.sb(h:SW X CL W a f):SB X CL W a f:=fun A=>PW.pt (h A)
theorem SW.congr{g:Rho->R Ak}(h:SW X CL W a f)(e:∀ ρ,g ρ=f ρ):SW X CL W a g:=fun A=>PW.weak (h A) fun σ H Q ⟨hA,ρ,q,p⟩=>⟨hA,ρ,q,by rw[<-e];exact p⟩
theorem Vr(ha:SB X CL W a f):SW X CL W (.BoolOp .And [a] pos) f:=fun A=>nP (ha A)
theorem WF(ha:SB X CL W a f):SW X CL W (.BoolOp .Or [a] pos) f:=fun A=>sV (ha A)
theorem WG{g:Rho->R Ak}{rest:Ac An}(ha:SB X CL W a f)(hb:SW X CL W (.BoolOp .And (b::rest) pos) g):SW X CL W (.BoolOp .And (a::b::rest) pos) (fun ρ=>(f ρ).bind fun c=>if c=Ab then g ρ else .ok Ad):=
 fun A=>PW.weak (sW (ha A) (hb A)) fun σ H Q ⟨hA,ρ,gd,p⟩=>⟨hA,ρ,gd,Db.bindB p fun c H1 _ s1 p1=>by
  cases c with
  |true=>exact⟨hA.same s1,ρ,gd.same s1,p1⟩
  | false=>exact p1 H1 (AD.refl H1)⟩
theorem W8{g:Rho->R Ak}{rest:Ac An}(ha:SB X CL W a f)(hb:SW X CL W (.BoolOp .Or (b::rest) pos) g):SW X CL W (.BoolOp .Or (a::b::rest) pos) (fun ρ=>(f ρ).bind fun c=>if c=Ab then .ok Ab else g ρ):=
 fun A=>PW.weak (aj (ha A) (hb A)) fun σ H Q ⟨hA,ρ,gd,p⟩=>⟨hA,ρ,gd,Db.bindB p fun c H1 _ s1 p1=>by
  cases c with
  |false=>exact⟨hA.same s1,ρ,gd.same s1,p1⟩
  | true=>exact p1 H1 (AD.refl H1)⟩
theorem tR(ho:OpD X CL W (Cz op) g)(ha:ST X CL W a fa)(hb:ST X CL W b fb)(hm:G8 op b=Ad):SB X CL W (.Compare a [op] [b] pos) (fun ρ=>(fa ρ).bind fun x=>(fb ρ).bind fun y=>(g x y).bind Du):=
 fun A=>PT.weak (nU (ho A) (ha A) (hb A) hm) fun σ H Q ⟨hA,ρ,gd,p⟩=>⟨hA,ρ,gd,Db.bind p fun dx x H1 _ s1 r1 p1=>⟨hA.same s1,ρ,gd.same s1,Db.bind p1 fun dy y H2 _ s2 r2 p2=>
  ⟨(hA.same s1).same s2,dx,dy,r1.same s2,r2,Db.bind p2 fun dz z H3 _ s3 r3 p3=>by
   cases dz with
   |bl k=>exact⟨k,r3,p3 H3 (AD.refl H3)⟩
   | _=>exact p3.elim⟩⟩⟩
theorem hR{op':C9}(hu:X.A.units+64<B4)(ha:ST X CL W a fa)(hb:ST X CL W b fb)(hc:ST X CL W c fc)(hm:Jq [op,op'] [b,c]=Ad):SB X CL W (.Compare a [op,op'] [b,c] pos) (fun ρ=>(fa ρ).bind fun x=>(fb ρ).bind fun y=>(BX op x y).bind fun z=>(Du z).bind fun k=>if k=Ab then (fc ρ).bind fun u=>(BX op' y u).bind Du else .ok Ad):=
  fun A=>PT.weak (gB (Le hu op A) (Le hu op' A) (ha A) (hb A) (hc A) hm) fun σ H Q ⟨hA,ρ,g,p⟩=>⟨hA,ρ,g,Db.bind p fun dx x H1 _ s1 r1 p1=>⟨hA.same s1,ρ,g.same s1,Db.bind p1 fun dy y H2 _ s2 r2 p2=>
    ⟨(hA.same s1).same s2,dx,dy,r1.same s2,r2,Db.bind p2 fun dz z H3 _ s3 r3 p3=>by
      cases dz with
      |bl k=>
        refine⟨k,r3,?_⟩;cases k with
        |false=>exact⟨Ad,rfl,p3 H3 (AD.refl H3)⟩
        | true=>exact⟨((hA.same s1).same s2).same s3,ρ,((g.same s1).same s2).same s3,Db.bind p3 fun du u H4 _ s4 r4 p5=>⟨(((hA.same s1).same s2).same s3).same s4,dy,du,(r2.same s3).same s4,r4,Db.bind p5 fun dv v H5 _ s5 r5 p6=>by
            cases dv with
            |bl k'=>exact⟨k',r5,p6 H5 (AD.refl H5)⟩
            | _=>exact p6.elim⟩⟩
      | _=>exact p3.elim⟩⟩⟩
theorem WR(ha:ST X CL W a fa)(he:∀ whole,Iu a X.env whole=(do let v <-whole;Hq a.pos;holding [v] (truthy v))):SB X CL W a (fun ρ=>(fa ρ).bind BM):=
 fun A=>PT.weak (gA (ha A) he) fun σ H Q ⟨hA,ρ,g,p⟩=>⟨hA,ρ,g,Db.bind p fun d v H1 _ s1 r1 p1=>by
  cases d with
  |non=>
   have e:=r1.non_of;subst e;exact⟨Ad,rfl,p1 H1 (AD.refl H1)⟩
  |bl b=>
   have e:=r1.bl_of;subst e;exact⟨b,rfl,p1 H1 (AD.refl H1)⟩
  |int i=>
   have e:=r1.int_of;subst e;exact⟨_,rfl,p1 H1 (AD.refl H1)⟩
  |str x=>
   have e:=r1.str_of;subst e;have p2:Db W H1 (if Dq x.length=Ab then .ok (x.length != 0) else .bad) Q:=p1
   split at p2
   ·rename_i h;refine⟨_,⟨Ib h,rfl⟩,?_⟩;have e:((x.length:Af) != 0)=(x.length != 0):=by
     rw[DH];simp
    rw[e];exact p2 H1 (AD.refl H1)
   ·exact p2.elim
  |tup ds=>
   obtain⟨q,xs,rfl,_,sq,r⟩:=r1.tup_of;refine⟨_,.inr (.inl ⟨xs,sq,rfl⟩),?_⟩;have e:xs.isEmpty=ds.isEmpty:=by
    have:=r.length;cases xs<;>cases ds<;>first|rfl|cases this
   rw[e];exact p1 H1 (AD.refl H1)
  |lst ds=>
   obtain⟨q,xs,rfl,sq,r⟩:=r1.lst_of;refine⟨_,.inl ⟨xs,sq,rfl⟩,?_⟩;have e:xs.isEmpty=ds.isEmpty:=by
    have:=r.length;cases xs<;>cases ds<;>first|rfl|cases this
   rw[e];exact p1 H1 (AD.refl H1)
  | _=>exact p1.elim⟩
noncomputable def cA(K:Fg)(CL:ClA)(H:Hp)(A:Am->Prop)(cls:Al)(dx:Ap Am)(x:Ex):Prop:=
 ∃ C,CL x.c=Aa C/\cls=.ref C/\(x.fs=[]\/∃ d vs,dx=Aa d/\¬ A d/\H d=Aa (.xd vs)/\Repf K CL H A vs x.fs)
def F8(K:Fg)(CL:ClA)(H:Hp)(cls:Al)(dx:Ap Am)(x:Ex):Prop:=∀ A,AOk H A->cA K CL H A cls dx x
end
def BG(B:Am->Prop)(ρ:Rho)(σ:L2.St):Am->Prop:=fun a=>B a\/∃(j:Ag)(d:D),ρ[j]?=Aa (Aa (d,Ab))/\σ[j]?=Aa (Aa (.ref a))
structure Sx (K:Fg) (CL:ClA) (Fz:Am->HO->Prop) (B:Am->Prop) (ρ:Rho) (σ:L2.St) (H:Hp):Prop where
 good:Good K CL (BG B ρ σ) ρ σ H
 aok:AOk H (BG B ρ σ)
 new:∀(j:Ag)(d:D)(a:Am),ρ[j]?=Aa (Aa (d,Ab))->σ[j]?=Aa (Aa (.ref a))->(∀ o,¬ Fz a o)/\¬ B a
 dis:∀(i j:Ag)(d e:D)(a:Am),ρ[i]?=Aa (Aa (d,Ab))->ρ[j]?=Aa (Aa (e,Ab))->σ[i]?=Aa (Aa (.ref a))->σ[j]?=Aa (Aa (.ref a))->i=j
 same:∀ b o,Fz b o->H b=Aa o
 len:ρ.length=σ.length
def BP(K:Fg)(CL:ClA)(Fz:Am->HO->Prop)(B:Am->Prop)(W:XW)(o:O)(D:Ends):Prop:=match o with
  |.next ρ=>∀ σ H,Sx K CL Fz B ρ σ H->D.nx σ H
  |.brk ρ=>∀ σ H,Sx K CL Fz B ρ σ H->D.bk σ H
  |.cont ρ=>∀ σ H,Sx K CL Fz B ρ σ H->D.ct σ H
  |.ret d fr=>∀ v H,(∀ b o,Fz b o->H b=Aa o)->Rep K CL H B v d->(fr=Ab->∀ ds,d=.lst ds->∃ a xs,v=.ref a/\(∀ o,¬ Fz a o)/\H a=Aa (.lst xs)/\Reps K CL H (fun b=>B b\/b=a) xs ds)->D.rt v H
  |.exn x _=>∀ H,(∀ b o,Fz b o->H b=Aa o)->W x H
  |.bad=>AX
section
variable{K:Fg}{CL:ClA}{Fz Fy:Am->HO->Prop}{B:Am->Prop}{ρ:Rho}{σ:L2.St}{H H':Hp}
theorem Sx.mono(k:∀ b o,Fz b o->Fy b o)(x:Sx K CL Fy B ρ σ H):Sx K CL Fz B ρ σ H:=⟨x.good,x.aok,fun j d a h1 h2=>⟨fun o z=>(x.new j d a h1 h2).1 o (k _ _ z),(x.new j d a h1 h2).2⟩,x.dis,fun b o z=>x.same b o (k _ _ z),x.len⟩
theorem Sx.grow(x:Sx K CL Fz B ρ σ H)(s:AD H H'):Sx K CL Fz B ρ σ H':=⟨x.good.same s,x.aok.same s,x.new,x.dis,fun b o z=>s _ _ (x.same b o z),x.len⟩
theorem Cb{l:Ac α}{v:α}(h:i≠j):(l.set i v)[j]?=l[j]?:=by rw[Gf h]
theorem GI{l:Ac α}{v w':α}(h:(l.set i v)[i]?=Aa w'):w'=v:=by
 rw[FI]at h;cases e:l[i]? with
 |none=>rw[e]at h;cases h
 |some x=>rw[e]at h;cases h;rfl
theorem Sx.set(x:Sx K CL Fz B ρ σ H){v:V}{d:D}(i:Ag)(r:Rep K CL H (BG B ρ σ) v d):Sx K CL Fz B (ρ.set i (Aa (d,Ad))) (σ.set i (Aa v)) H:=by
 have own:∀(j:Ag)(e:D),(ρ.set i (Aa (d,Ad)))[j]?=Aa (Aa (e,Ab))->i≠j/\ρ[j]?=Aa (Aa (e,Ab)):=fun j e h=>by
  by_cases hj:i=j
  ·subst hj;have:=GI h;cases this
  ·exact⟨hj,by rw[Cb hj]at h;exact h⟩
 have sub:∀ a,BG B (ρ.set i (Aa (d,Ad))) (σ.set i (Aa v)) a->BG B ρ σ a:=fun a h=>by
  rcases h with h|⟨j,e,h1,h2⟩
  ·exact .inl h
  ·obtain⟨hj,h1⟩:=own j e h1;rw[Cb hj]at h2;exact .inr ⟨j,e,h1,h2⟩
 refine⟨⟨fun j e h=>?_,fun j e h=>?_,by rw[A6,A6];exact x.len⟩,fun a h=>x.aok a (sub a h),fun j e a h1 h2=>?_,fun j k e f a h1 h2 h3 h4=>?_,x.same,by rw[A6,A6];exact x.len⟩
 ·by_cases hj:i=j
  ·subst hj;have e1:=GI h;cases e1;refine⟨v,?_,Rep.sub sub _ r⟩;have hl:i<σ.length:=by
    rw[<-x.len];have:=(AS.mp h).1;simpa using this
   rw[C2 hl]
  ·rw[Cb hj]at h;obtain⟨w',q,rw'⟩:=x.good.sh j e h;exact⟨w',by rw[Cb hj];exact q,Rep.sub sub _ rw'⟩
 ·obtain⟨hj,h1⟩:=own j e h;obtain⟨a,xs,ds,q,z,ha,hh,rr⟩:=x.good.ow j e h1;exact⟨a,xs,ds,by rw[Cb hj];exact q,z,.inr ⟨j,e,h,by rw[Cb hj];exact q⟩,hh,Reps.sub sub _ rr⟩
 ·obtain⟨hj,h1⟩:=own j e h1;rw[Cb hj]at h2;exact x.new j e a h1 h2
 ·obtain⟨hj,h1⟩:=own j e h1;obtain⟨hk,h2⟩:=own k f h2;rw[Cb hj]at h3;rw[Cb hk]at h4;exact x.dis j k e f a h1 h2 h3 h4
end
section
variable{X:Cx}{CL:ClA}{W:XW}{pos:AG}{e:An}{fe:Rho->R D}
def SS(X:Cx)(CL:ClA)(W:XW)(st:AQ)(f:Rho->O):Prop:=∀ Fz B,PS X st (fun D σ H=>∃ ρ,Sx X.K CL Fz B ρ σ H/\BP X.K CL Fz B W (f ρ) D)
def SSs(X:Cx)(CL:ClA)(W:XW)(st:Ac AQ)(f:Rho->O):Prop:=∀ Fz B,PSs X st (fun D σ H=>∃ ρ,Sx X.K CL Fz B ρ σ H/\BP X.K CL Fz B W (f ρ) D)
theorem PS.weak{e:AQ}{t t':TS}(h:PS X e t)(k:∀ D σ H,t' D σ H->t D σ H):PS X e t':=fun pI s σ H D I q=>h pI s σ H D I (k _ _ _ q)
theorem PSs.weak{e:Ac AQ}{t t':TS}(h:PSs X e t)(k:∀ D σ H,t' D σ H->t D σ H):PSs X e t':=fun pI s σ H D I q=>h pI s σ H D I (k _ _ _ q)
theorem BP.ex{f:D->O}(x:Sx X.K CL Fz B ρ σ H)(h:BP X.K CL Fz B W (O.of ρ r f) D')(k:∀ d v H',r=.ok d->AD H H'->Rp H' v d->Sx X.K CL Fz B ρ σ H'->BP X.K CL Fz B W (f d) D'->Q v H'):A9 Rp W H r Q:=by
 cases r with
 |ok d=>exact fun v H' s r=>k d v H' rfl s r (x.grow s) h
 |exn y=>exact fun H' s=>h H' fun b o z=>s _ _ (x.same b o z)
 |bad=>exact h
theorem BP.exB{r:R Ak}{f:Ak->O}{Q:Ak->Hp->Prop}(x:Sx X.K CL Fz B ρ σ H)(h:BP X.K CL Fz B W (O.of ρ r f) D')(k:∀ b H',r=.ok b->AD H H'->Sx X.K CL Fz B ρ σ H'->BP X.K CL Fz B W (f b) D'->Q b H'):Db W H r Q:=by
 cases r with
 |ok d=>exact fun H' s=>k d H' rfl s (x.grow s) h
 |exn y=>exact fun H' s=>h H' fun b o z=>s _ _ (x.same b o z)
 |bad=>exact h
theorem lA(he:SE X CL W e fe)(hs:CW e Ae pos.line X.env=pure Ad):SS X CL W (.Expr e pos) (fun ρ=>O.of ρ (fe ρ) fun _=>.next ρ):=fun Fz B pI s σ H D I ⟨ρ,x,p⟩=>
 J7 (he (BG B ρ σ)) hs pI s σ H D I ⟨x.aok,ρ,x.good,BP.ex x p fun d v H' _ s r x' q=>q σ H' x'⟩
theorem qU{n:Ai}(hN:X.N.Nodup)(hi:X.N[i]?=Aa n)(hx:Loc X.env.scope n)(he:SE X CL W e fe)(hs:CW e (Aa (.Name n pos')) pos.line X.env=pure Ad)(hf:X.fn n=Ab\/X.env.scope.names.lookup n=Aa .local):SS X CL W (.Assign [.Name n pos'] e pos) (fun ρ=>O.of ρ (fe ρ) fun d=>.next (ρ.set i (Aa (d,Ad)))):=fun Fz B pI s σ H D I ⟨ρ,x,p⟩=>
 NX hN hi hx (he (BG B ρ σ)) hs hf pI s σ H D I ⟨x.aok,ρ,x.good,BP.ex x p fun d v H' _ s r x' q=>q _ H' (x'.set i r)⟩
theorem Vv(he:SE X CL W e fe):SS X CL W (.Return (Aa e) pos) (fun ρ=>O.of ρ (fe ρ) fun d=>.ret d Ad):=fun Fz B pI s σ H D I ⟨ρ,x,p⟩=>
 QS (he (BG B ρ σ)) pI s σ H D I ⟨x.aok,ρ,x.good,BP.ex x p fun d v H' _ s r x' q=>q v H' x'.same (Rep.sub (fun a h=>.inl h) _ r) fun z=>nomatch z⟩
theorem WY{a b:Ac AQ}{fa fb:Rho->O}(hc:SB X CL W c fc)(ha:SSs X CL W a fa)(hb:SSs X CL W b fb):SS X CL W (.If c a b pos) (fun ρ=>O.of ρ (fc ρ) fun k=>if k=Ab then fa ρ else fb ρ):=fun Fz B pI s σ H D I ⟨ρ,x,p⟩=>
 ak (hc (BG B ρ σ)) (ha Fz B) (hb Fz B) pI s σ H D I ⟨x.aok,ρ,x.good,BP.exB x p fun k H' _ s x' q=>by
  cases k with
  |true=>exact⟨ρ,x',q⟩
  | false=>exact⟨ρ,x',q⟩⟩
theorem Qt:SSs X CL W [] (fun ρ=>.next ρ):=fun Fz B=>PSs.weak nV fun D σ H ⟨ρ,x,p⟩=>p σ H x
theorem J9{st:AQ}{rest:Ac AQ}{f g:Rho->O}(h1:SS X CL W st f)(h2:SSs X CL W rest g):SSs X CL W (st::rest) (fun ρ=>(f ρ).seq g):=fun Fz B=>PSs.weak (Uv (h1 Fz B) (h2 Fz B)) fun D σ H ⟨ρ,x,p⟩=>⟨ρ,x,by
 dsimp only at p;cases e:f ρ with
 |next ρ'=>rw[e]at p;exact fun σ' H' x'=>⟨ρ',x',p⟩
 |ret d b=>rw[e]at p;exact p
 |brk ρ'=>rw[e]at p;exact p
 |cont ρ'=>rw[e]at p;exact p
 |exn y ρ'=>rw[e]at p;exact p
 | bad=>rw[e]at p;exact p⟩
end
def IW(K:Fg)(CL:ClA)(A:Am->Prop)(ds:Ac D)(J:It)(H1:Hp):Prop:=∀ H,Kp A H1 H->∀ i:Ag,(ds.length<=i->J.stop i H)/\∀ d,ds[i]?=Aa d->J.go i H/\∀ x H',J.yld i H x H'->AD H H'/\∀ B,(∀ a,B a->A a\/H1 a=Ae)->AOk H B->Rep K CL H' B x d
def EN(K:Fg)(CL:ClA)(A:Am->Prop)(W:XW)(H:Hp)(r:R (Ac D))(Q:It->Hp->Prop):Prop:=match r with
  |.ok ds=>∀ J H',AD H H'->IW K CL A ds J H'->ds.length<=sizeLine->Q J H'
  |.exn x=>∀ H',AD H H'->W x H'
  |.bad=>AX
def SI(X:Cx)(CL:ClA)(W:XW)(tg iter:An)(f:Rho->R (Ac D)):Prop:=∀ A,PI X tg iter (fun σ H R=>AOk H A/\∃ ρ,Good X.K CL A ρ σ H/\EN X.K CL A W H (f ρ) R)
theorem PI.weak{t t':TI}(h:PI X tg e t)(k:∀ σ H Q,t' σ H Q->t σ H Q):PI X tg e t':=fun pI s σ H Q I q=>h pI s σ H Q I (k _ _ _ q)
section
variable{X:Cx}{CL:ClA}{W:XW}{pos p:AG}{tg e a b:An}{fe fa fb:Rho->R D}
theorem EN.ex{f:D->R (Ac D)}{Q:It->Hp->Prop}{Q':VK}(h:EN X.K CL A W H (r.bind f) Q)(k:∀ d v H',r=.ok d->AD H H'->Rp H' v d->EN X.K CL A W H' (f d) Q->Q' v H'):A9 Rp W H r Q':=by
  cases r with
  | ok d=>exact fun v H' s q=>k d v H' rfl s q (by
      have h':EN X.K CL A W H (f d) Q:=h;cases e:f d with
      |ok ds=>rw[e]at h';exact fun J H2 s2 y z=>h' J H2 (s.trans s2) y z
      |exn y=>rw[e]at h';exact fun H2 s2=>h' H2 (s.trans s2)
      | bad=>rw[e]at h';exact h')
  |exn y=>exact h
  |bad=>exact h
theorem Mn{x:V}(r:Rep K CL H1 A x d)(k:Kp A H1 H)(hB:∀ a,B a->A a\/H1 a=Ae):Rep K CL H B x d:=by
 have r1:Rep K CL H1 (fun a=>A a\/B a) x d:=Rep.wide (fun a ha=>ha.elim .inl (hB a)) _ r
 have r2:Rep K CL H (fun a=>A a\/B a) x d:=Rep.kp (fun b o e na=>k b o e fun z=>na (.inl z)) _ r1
 exact Rep.sub (fun a ha=>.inr ha) _ r2
theorem eJ{ds:Ac D}(na:¬ A q\/KL K q xs)(s:SqL K H q xs)(r:Reps K CL H A xs ds):IW K CL A ds (Itl K q) H:=fun H' k i=>by
 have s':=N6 k na s;refine⟨fun h=>⟨xs,s',by rw[r.length];exact h⟩,fun d hd=>?_⟩
 obtain⟨v,hv,rv⟩:=r.get hd;exact⟨⟨xs,v,s',hv⟩,fun x H2 ⟨e,y⟩=>by
  subst e;have:=y xs s';rw[hv]at this;cases this;exact⟨AD.refl _,fun B hB _=>Mn rv k hB⟩⟩
theorem iP{ds:Ac D}(na:¬ A q\/KT K q xs)(s:SqT K H q xs)(r:Reps K CL H A xs ds):IW K CL A ds (Itt K q) H:=fun H' k i=>by
 have s':=N5 k na s;refine⟨fun h=>⟨xs,s',by rw[r.length];exact h⟩,fun d hd=>?_⟩
 obtain⟨v,hv,rv⟩:=r.get hd;exact⟨⟨xs,v,s',hv⟩,fun x H2 ⟨e,y⟩=>by
  subst e;have:=y xs s';rw[hv]at this;cases this;exact⟨AD.refl _,fun B hB _=>Mn rv k hB⟩⟩
theorem UJ(lo:Af)(n:Ag):IW K CL A (BY lo n) (Itr lo n) H:=fun H' k i=>by
 refine⟨fun h=>by rw[K4]at h;exact h,fun d hd=>?_⟩
 obtain⟨h1,rfl⟩:=UO hd;exact⟨h1,fun x H2 ⟨e,y⟩=>by
  subst e y;exact⟨AD.refl _,fun _ _ _=>rfl⟩⟩
theorem rV{l:An}{tl:TE}(hl:PE X l tl):PI X tg l (fun σ H R=>tl σ H fun x H1=>(∃ a,x=.ref a/\(∃ xs,SqL X.K H1 a xs/\(xs.length<=sizeLine->R (Itl X.K a) H1)))\/∃ a,x=.ref a/\(∃ xs,SqT X.K H1 a xs/\(xs.length<=sizeLine->R (Itt X.K a) H1))):=by
 intro pI s σ H R I h;refine thn (hl pI s σ H _ I h) fun v s1 ⟨x,H1,I1,r1,q1⟩=>?_
 rcases q1 with ⟨a,e,xs,hq,q⟩|⟨a,e,xs,hq,q⟩
 ·subst e;cases r1;obtain⟨its,rv,p,hz⟩:=I1.list hq;refine Ep p.isList ?_;refine⟨s1.heap.objs.size,[s1.heap.objs.size],_,_,H1,rfl,I1.kept (t':=s1.toks) fun b o e=>As _ e,fA a _,⟨_,AK _ rfl,rfl,rfl⟩,fun b hb=>?_,q hz⟩
  have e:b=s1.heap.objs.size:=by simpa using hb
  subst e;exact I1.fpOk (AW _) (I1.hok.fresh (AW _))
 ·subst e;cases r1;obtain⟨its,rv,p,hz⟩:=I1.tuple hq;refine Fu (show s1.heap.IsTuple a its.toArray from p) ?_
  refine⟨s1.heap.objs.size,[s1.heap.objs.size],_,_,H1,rfl,I1.kept (t':=s1.toks) fun b o e=>As _ e,eN a _,⟨_,AK _ rfl,rfl,rfl⟩,fun b hb=>?_,q hz⟩
  have e:b=s1.heap.objs.size:=by simpa using hb
  subst e;exact I1.fpOk (AW _) (I1.hok.fresh (AW _))
theorem cK(he:SE X CL W e fe):SI X CL W tg e (fun ρ=>(fe ρ).bind CS):=fun A=>PI.weak (rV (he A)) fun σ H R ⟨hA,ρ,g,p⟩=>⟨hA,ρ,g,EN.ex p fun d v H1 _ s1 r1 p1=>by
 cases d with
 |lst ds=>
  obtain⟨q,xs,rfl,na,sq,r⟩:=r1;exact .inl ⟨q,rfl,xs,sq,fun hz=>p1 _ H1 (AD.refl H1) (eJ na sq r) (by rw[<-r.length];exact hz)⟩
 |tup ds=>
  obtain⟨q,xs,rfl,na,sq,r⟩:=r1;exact .inr ⟨q,rfl,xs,sq,fun hz=>p1 _ H1 (AD.refl H1) (iP na sq r) (by rw[<-r.length];exact hz)⟩
 | _=>exact p1.elim⟩
theorem PK{hi:Af}{ds:Ac D}(h:CC lo hi=.ok ds):(-(2 ^ 62)<=lo/\lo<2 ^ 62)/\(-(2 ^ 62)<=hi/\hi<2 ^ 62)/\ds=BY lo (hi-lo).toNat/\(BY lo (hi-lo).toNat).length<=sizeLine:=by
 unfold CC at h;split at h
 ·rename_i q;cases h;exact⟨by omega,by omega,rfl,by rw[K4,Dl];omega⟩
 ·cases h
theorem Pu{hi:Af}(h:CC lo hi=.exn x):AX:=by
 unfold CC at h;split at h<;>cases h
theorem tH(ha:ST X CL W a fa)(hg:Gl X "range")(hm:X.mg "range" = Ae)(hs:Av [a] X.env=[(Ad,eval a X.env)]):SI X CL W tg (.Call (.Name "range" p) [a] [] pos) (fun ρ=>(fa ρ).bind fun x=>(DT x).bind fun j=>CC 0 j):=
 fun A=>PI.weak (eZ hg hm (DC (ha A) E7 hs) hs) fun σ H R ⟨hA,ρ,g,q⟩=>⟨hA,ρ,g,EN.ex q fun d v H1 _ s1 r1 p1=>by
  cases d with
  |int j=>
   have e:=r1.int_of;subst e;have p2:EN X.K CL A W H1 (CC 0 j) R:=p1;cases e2:CC 0 j with
   |ok ds=>
    rw[e2]at p2;obtain⟨_,h2,rfl,hz⟩:=PK e2;exact⟨j,rfl,h2.1,h2.2,p2 _ H1 (AD.refl H1) (by rw[XZ];exact UJ 0 j.toNat) hz⟩
   |exn y=>exact(Pu e2).elim
   |bad=>rw[e2]at p2;exact p2.elim
  | _=>exact p1.elim⟩
theorem lI(ha:ST X CL W a fa)(hb:ST X CL W b fb)(hg:Gl X "range")(hm:X.mg "range" = Ae)(hs:Av [a,b] X.env=[(Ad,eval a X.env),(Ad,eval b X.env)])(hs2:Av [b] X.env=[(Ad,eval b X.env)]):
  SI X CL W tg (.Call (.Name "range" p) [a,b] [] pos) (fun ρ=>(fa ρ).bind fun x=>(fb ρ).bind fun y=>(DT x).bind fun i=>(DT y).bind fun j=>CC i j):=
 fun A=>PI.weak (eY hg hm (DC (ha A) (DC (hb A) E7 hs2) (by rw[hs,hs2])) hs hs2) fun σ H R ⟨hA,ρ,g,q⟩=>⟨hA,ρ,g,EN.ex q fun d v H1 _ s1 r1 p1=>⟨hA.same s1,ρ,g.same s1,EN.ex p1 fun d2 v2 H2 _ s2 r2 p2=>by
  cases d with
  |int i=>
   cases d2 with
   |int j=>
    have e:=r1.int_of;have e':=r2.int_of
    subst e e';have p3:EN X.K CL A W H2 (CC i j) R:=p2;cases e2:CC i j with
    |ok ds=>
     rw[e2]at p3;obtain⟨h1,h2,rfl,hz⟩:=PK e2;exact⟨i,j,rfl,⟨h1.1,h1.2,h2.1,h2.2⟩,p3 _ H2 (AD.refl H2) (UJ _ _) hz⟩
    |exn y=>exact(Pu e2).elim
    |bad=>rw[e2]at p3;exact p3.elim
   |_=>exact p2.elim
  | _=>exact p2.elim⟩⟩
theorem BP.exI{r:R (Ac D)}{f:Ac D->O}{Q:It->Hp->Prop}(x:Sx X.K CL Fz B ρ σ H)(h:BP X.K CL Fz B W (O.of ρ r f) D')(k:∀ ds J H',r=.ok ds->AD H H'->IW X.K CL A ds J H'->ds.length<=sizeLine->Sx X.K CL Fz B ρ σ H'->BP X.K CL Fz B W (f ds) D'->Q J H'):EN X.K CL A W H r Q:=by
 cases r with
 |ok d=>exact fun J H' s y z=>k d J H' rfl s y z (x.grow s) h
 |exn y=>exact fun H' s=>h H' fun b o z=>s _ _ (x.same b o z)
 |bad=>exact h
theorem BP.turn{Fy:Am->HO->Prop}{o:O}{g:Rho->O}{N:L2.St->Hp->Prop}(hf:∀ b q,Fz b q->Fy b q)(h:BP K CL Fz B W (o.turn g) D')(k:∀ ρ' σ' H',Sx K CL Fy B ρ' σ' H'->BP K CL Fz B W (g ρ') D'->N σ' H'):BP K CL Fy B W o {D' with nx:=N,ct:=N,bk:=D'.nx}:=by
 cases o with
 |next ρ'=>exact fun σ' H' x=>k ρ' σ' H' x h
 |cont ρ'=>exact fun σ' H' x=>k ρ' σ' H' x h
 |brk ρ'=>exact fun σ' H' x=>h σ' H' (x.mono hf)
 |ret d b=>exact fun v H' s r n=>h v H' (fun b o z=>s b o (hf b o z)) r fun z ds e=>let ⟨a,xs,h1,h2,h3⟩:=n z ds e;⟨a,xs,h1,fun o q=>h2 o (hf a o q),h3⟩
 |exn y ρ'=>exact fun H' s=>h H' (fun b o z=>s b o (hf b o z))
 |bad=>exact h
noncomputable def FB(ts:Ac Ag)(ρ:Rho):Rho:=ts.foldl (fun ρ t=>ρ.set t Ae) ρ
def GT(K:Fg)(CL:ClA)(as:D->Rho->R Rho)(g:TG):Prop:=∀ Fz B ρ σ H v d ρ' Q,Sx K CL Fz B ρ σ H->Rep K CL H (BG B ρ σ) v d->as d ρ=.ok ρ'->(∀ σ',Sx K CL Fz B ρ' σ' H->Q σ' H)->g v σ H Q
theorem qD(i:Ag):GT K CL (fun d ρ=>.ok (ρ.set i (Aa (d,Ad)))) (E8 i):=fun Fz B ρ σ H v d ρ' Q x r e k=>by
 cases e;exact k _ (x.set i r)
theorem Q2{K:Fg}{Fz:Am->HO->Prop}{B:Am->Prop}{H:Hp}:∀(ts:Ac Ag)(ds:Ac D)(vs:Ac V)(ρ ρ':Rho)(σ:L2.St)(Q:L2.St->Hp->Prop),Sx K CL Fz B ρ σ H->Reps K CL H (BG B ρ σ) vs ds->EK ts ds ρ=Aa ρ'->(∀ σ',Sx K CL Fz B ρ' σ' H->Q σ' H)->(ts.foldr (fun t u=>HK (E8 t) u) HQ) vs σ H Q
 |[],[],[],ρ,ρ',σ,Q,x,_,e,k=>by
  cases e;exact⟨rfl,k σ x⟩
 |t::ts,d::ds,v::vs,ρ,ρ',σ,Q,x,r,e,k=>by
  refine⟨v,vs,rfl,Q2 ts ds vs _ ρ' _ Q (x.set t r.1) (Reps.sub (fun a ha=>?_) ds r.2) e k⟩
  rcases ha with ha|⟨j,c,h1,h2⟩
  ·exact .inl ha
  ·by_cases hj:t=j
   ·subst hj;have:=GI h1;cases this
   ·rw[Cb hj]at h1 h2;exact .inr ⟨j,c,h1,h2⟩
 |[],_::_,_,_,_,_,_,_,_,e,_=>by cases e
 |_::_,[],_,_,_,_,_,_,_,e,_=>by cases e
 |[],[],_::_,_,_,_,_,_,r,_,_=>r.elim
 |_::_,_::_,[],_,_,_,_,_,r,_,_=>r.elim
theorem Np:∀(ts:Ac Ag)(ds:Ac D)(ρ ρ':Rho),EK ts ds ρ=Aa ρ'->ds.length=ts.length
 |[],[],_,_,_=>rfl
 |_::ts,_::ds,_,_,e=>congrArg (· + 1) (Np ts ds _ _ e)
 |[],_::_,_,_,e=>by cases e
 |_::_,[],_,_,e=>by cases e
theorem Wk(ts:Ac Ag):GT K CL (Gw ts) (LU K ts.length (ts.foldr (fun t u=>HK (E8 t) u) HQ)):=fun Fz B ρ σ H v d ρ' Q x r e k=>by
 cases d with
 |tup ds=>
  obtain⟨a,xs,rfl,na,sq,rs⟩:=r;rw[TD]at e;cases e2:EK ts ds ρ with
  |none=>rw[e2]at e;cases e
  |some ρ2=>
   rw[e2]at e;cases e;exact⟨a,xs,rfl,sq,by rw[rs.length];exact Np _ _ _ _ e2,Q2 ts ds xs ρ _ σ Q x rs e2 k⟩
 |_=>cases e
theorem WI{body:Ac AQ}{fbd:Rho->O}{g:TG}(hp:Fs (model X.prog X.w) X.A X.env X.xe)(hc:X.calm=Ab)(hGT:GT X.K CL as g)(hg:PG X tg g)(hit:SI X CL W tg iter fi)(hb:SSs X CL W body fbd)(hs:∀ x,CU iter X.env x=pure x)(hax:∀ d ρ x,as d ρ≠.exn x):SS X CL W (.For tg iter body [] pos) (fun ρ=>O.of ρ (fi ρ) fun xs=>CD (fun x ρ'=>O.of ρ' (as x ρ') fbd) xs ρ):=fun Fz B pI s σ H D I ⟨ρ,x,p⟩=>by
 refine sY hp hc (hit (BG B ρ σ)) hg (tb:=fun D σ H=>∃ Fy,(fun D σ H=>∃ ρ,Sx X.K CL Fy B ρ σ H/\BP X.K CL Fy B W (fbd ρ) D) D σ H) (fun pI s σ H D I ⟨Fy,q⟩=>hb Fy B pI s σ H D I q) hs pI s σ H D I ⟨x.aok,ρ,x.good,BP.exI x p fun ds J H1 _ s1 y _ x1 q=>?_⟩
 let Fy:Am->HO->Prop:=fun b o=>H1 b=Aa o/\¬ ∃(j:Ag)(d:Ov.D),ρ[j]?=Aa (Aa (d,Ab))/\σ[j]?=Aa (Aa (.ref b))
 have hfy:∀ b o,Fz b o->Fy b o:=fun b o z=>⟨x1.same b o z,fun ⟨j,d,h1,h2⟩=>(x1.new j d b h1 h2).1 o z⟩
 have xy:Sx X.K CL Fy B ρ σ H1:=⟨x1.good,x1.aok,fun j d a h1 h2=>⟨fun o z=>z.2 ⟨j,d,h1,h2⟩,(x1.new j d a h1 h2).2⟩,x1.dis,fun b o z=>z.1,x1.len⟩
 refine⟨fun k m σ' H'=>m=ds.length-k/\k<=ds.length/\∃ ρ',Sx X.K CL Fy B ρ' σ' H'/\BP X.K CL Fz B W (CD (fun x ρ'=>O.of ρ' (as x ρ') fbd) (ds.drop k) ρ') D,⟨ds.length,by simp,FU _,ρ,xy,q⟩,?_⟩
 rintro k m σ' H' ⟨rfl,hk,ρ',x',q'⟩;have kp:Kp (BG B ρ σ) H1 H':=fun b o e na=>x'.same b o ⟨e,fun z=>na (.inr z)⟩
 obtain⟨yst,ygo⟩:=y H' kp k;by_cases hlt:k<ds.length
 ·have hd:ds[k]?=Aa ds[k]:=Bm hlt;obtain⟨hgo,hyl⟩:=ygo _ hd;refine .inr ⟨hgo,fun σ'' H''=>∃ ρ'',Sx X.K CL Fy B ρ'' σ'' H''/\BP X.K CL Fz B W (CD (fun x ρ'=>O.of ρ' (as x ρ') fbd) (ds.drop (k+1)) ρ'') D,fun σ'' H'' z=>⟨ds.length-(k+1),by omega,rfl,hlt,z⟩,fun v H2 hv=>?_⟩
  obtain⟨e2,rv⟩:=hyl v H2 hv;rw[Fd hlt]at q';have q2:BP X.K CL Fz B W ((O.of ρ' (as ds[k] ρ') fbd).turn (CD (fun x ρ'=>O.of ρ' (as x ρ') fbd) (ds.drop (k+1)))) D:=q'
  have rv':Rep X.K CL H2 (BG B ρ' σ') v ds[k]:=rv _ (fun a ha=>by
    rcases ha with ha|⟨j,d,h1,h2⟩
    ·exact .inl (.inl ha)
    ·cases e:H1 a with
     |none=>exact .inr rfl
     |some o=>
      by_cases ho:∃(j:Ag)(d:Ov.D),ρ[j]?=Aa (Aa (d,Ab))/\σ[j]?=Aa (Aa (.ref a))
      ·exact .inl (.inr ho)
      ·exact absurd ⟨e,ho⟩ ((x'.new j d a h1 h2).1 o)) x'.aok
  cases ea:as ds[k] ρ' with
  |bad=>rw[ea]at q2;exact q2.elim
  |exn z=>exact absurd ea (hax _ _ z)
  |ok ρ2=>
   rw[ea,O.of_ok]at q2;exact hGT Fy B ρ' σ' H2 v ds[k] ρ2 _ (x'.grow e2) rv' ea fun σ3 x3=>⟨Fy,ρ2,x3,BP.turn hfy q2 fun ρ3 σ3 H3 x3 q3=>⟨ρ3,x3,q3⟩⟩
 ·have hk':ds.length<=k:=by omega
  rw[X7 hk']at q';exact .inl ⟨yst hk',q' σ' H' (x'.mono hfy)⟩
end
section
variable{X:Cx}{CL:ClA}{W:XW}{a b c:An}{fa fb fc:Rho->R D}{pos:AG}
noncomputable def tyK:Ki->Ap C5
 |.int=>Aa "int"
 |.bool=>Aa "bool"
 |.str=>Aa "str"
 |.list=>Aa "list"
 |.tuple=>Aa "tuple"
 |_=>Ae
noncomputable def QU:D->Ak
 |.obj _ _=>Ad
 |.exc _ _=>Ad
 |.dic _=>Ad
 |_=>Ab
theorem uN{k:Ki}{Q:Vq}{E:Vq}(I:Inv X pI σ H s)(r:CO X.K CL H A v d)(q:BB v u)(hT:tyK k=Aa T)(hd:QU d=Ab)(h:∀ s',Inv X pI σ H s'->Q (.bool (kiD up k d)) s'):
  Ax (model X.prog X.w) X.A (call (.builtin "isinstance") [u,.type T]) Q E s:=by
 have r':=r.plain;have it:=fun t=>h _ (I.tok t)
 cases d with
 |obj=>cases hd
 |exc=>cases hd
 |dic=>cases hd
 |non=>
  cases r';cases q;cases k<;>simp only[tyK]at hT<;>cases hT
  ·exact IsiPair.NoneType_int (it _)
  ·exact IsiPair.NoneType_bool (it _)
  ·exact IsiPair.NoneType_str (it _)
  ·exact IsiPair.NoneType_list (it _)
  ·exact IsiPair.NoneType_tuple (it _)
 |bl b=>
  cases r';cases q;cases k<;>simp only[tyK]at hT<;>cases hT
  ·exact IsiPair.bool_int (h _ I)
  ·exact IsiPair.bool_bool (h _ I)
  ·exact IsiPair.bool_str (it _)
  ·exact IsiPair.bool_list (it _)
  ·exact IsiPair.bool_tuple (it _)
 |int i=>
  cases r';obtain⟨t,rfl⟩:=q;cases k<;>simp only[tyK]at hT<;>cases hT
  ·exact IsiPair.int_int (h _ I)
  ·exact IsiPair.int_bool (it _)
  ·exact IsiPair.int_str (it _)
  ·exact IsiPair.int_list (it _)
  ·exact IsiPair.int_tuple (it _)
 |str x=>
  cases r';obtain⟨t,rfl⟩:=q;cases k<;>simp only[tyK]at hT<;>cases hT
  ·exact IsiPair.str_int (it _)
  ·exact IsiPair.str_bool (it _)
  ·exact IsiPair.str_str (h _ I)
  ·exact IsiPair.str_list (it _)
  ·exact IsiPair.str_tuple (it _)
 |tup ds=>
  obtain⟨p,xs,rfl,_,sq,rr⟩:=r';obtain⟨its,rv,pt,_⟩:=I.tuple sq;cases q;have pt':s.heap.IsTuple p its.toArray:=pt;cases k<;>simp only[tyK]at hT<;>cases hT
  ·exact IsiPair.isTuple_int pt' (fun _ _ e=>e) (it _)
  ·exact IsiPair.isTuple_bool pt' (fun _ _ e=>e) (it _)
  ·exact IsiPair.isTuple_str pt' (fun _ _ e=>e) (it _)
  ·exact IsiPair.isTuple_list pt' (fun _ _ e=>e) (it _)
  ·exact IsiPair.isTuple_tuple pt' (fun _ _ e=>e) (h _ I)
 |lst ds=>
  obtain⟨p,xs,rfl,_,sq,rr⟩:=r';obtain⟨its,rv,pl,_⟩:=I.list sq;cases q;have pt':s.heap.IsList p its.toArray:=Jz pl;cases k<;>simp only[tyK]at hT<;>cases hT
  ·exact IsiPair.isList_int pt' (fun _ _ e=>e) (it _)
  ·exact IsiPair.isList_bool pt' (fun _ _ e=>e) (it _)
  ·exact IsiPair.isList_str pt' (fun _ _ e=>e) (it _)
  ·exact IsiPair.isList_list pt' (fun _ _ e=>e) (h _ I)
  ·exact IsiPair.isList_tuple pt' (fun _ _ e=>e) (it _)
theorem fU{k:Ki}(hT:tyK k=Aa T)(p:A9 Rp W H (Eb up [k] d) Q):QU d=Ab/\A9 Rp W H (.ok (.bl (kiD up k d))) Q:=by
 cases k<;>simp only[tyK]at hT<;>cases hT<;>cases d<;>first|exact p.elim|exact⟨rfl,by simpa using p⟩
theorem tM{k:Ki}{x:Ai}(hT:tyK k=Aa T)(hg:Gl X "isinstance")(hm:X.mg "isinstance" = Ae)(hg2:Gl X x)(hm2:X.mg x=Ae)(hv:C4 x=Aa (.type T))(hn:x≠"__name__")(hdb:(x==("__debug__" : Ai))=Ad)(ha:ST X CL W a fa)(he:Av [a,.Name x p2] X.env=(Ad,eval a X.env)::Av [.Name x p2] X.env):SE X CL W (.Call (.Name "isinstance" p) [a,.Name x p2] [] pos) (fun ρ=>(fa ρ).bind fun x=>Eb up [k] x):=fun A=>
 PE.weak (Mp (r:=fun xs H Q=>∃ y d,xs=[y,.ty T]/\CO X.K CL H A y d/\QU d=Ab/\Q (.bl (kiD up k d)) H) (fun pI s σ H xs us Q I r ⟨y,d,e,ry,hd,q⟩=>by
   subst e;obtain⟨u,w',rfl,r1,r2⟩:=LH r;cases r2;exact uN I ry r1 hT hd fun s' I'=>⟨.bl _,H,I',rfl,q⟩)
  hg hm Gm (DC (ha A) (DC (U3 (v:=.ty T) hg2 hm2 hv rfl hn hdb) E7 rfl) he) (by decide) (by decide) he rfl) fun σ H Q ⟨hA,ρ,g,q⟩=>⟨hA,ρ,g,A9.bind q fun d v H1 _ s1 r1 p1=>by
   obtain⟨hd,p2⟩:=fU hT p1;exact⟨v,d,rfl,r1,hd,p2 _ H1 (AD.refl H1) rfl⟩⟩
theorem Vn{b:Ak}{A':A2}{E:Vq}{Q:Ak->Ar->Prop}(r:Rep X.K CL H A v d)(q:BB v u)(h:FR d=.ok b)(hq:Q b s):Ax (model prog w) A' (truthy u) Q E s:=by
 cases d with
 |non=>
  cases r;cases q;cases h;exact truthy_none hq
 |bl k=>
  cases r;cases q;cases h;exact CA hq
 |int i=>
  cases r;obtain⟨t,rfl⟩:=q;cases h;exact truthy_int hq
 |_=>cases h
theorem Tp:∀{ds:Ac D}{b:Ak},FQ ds=.ok b->(∀ j,j<ds.length->∃ c,FR (ds.getD j .non)=.ok c)/\b=(Bb ds.length).any fun j=>match FR (ds.getD j .non) with
  |.ok c=>c
  |_=>Ad
 |[],b,h=>by cases h;exact⟨fun j hj=>absurd hj (Yu _),rfl⟩
 |d::ds,b,h=>by
  rw[TH]at h;cases e:FR d with
  |bad=>rw[e]at h;cases h
  |exn x=>rw[e]at h;cases h
  |ok c=>
   rw[e,R.bind_ok]at h;cases e2:FQ ds with
   |bad=>rw[e2]at h;cases h
   |exn x=>rw[e2]at h;cases h
   |ok c2=>
    rw[e2,R.bind_ok]at h;cases h;obtain⟨h1,h2⟩:=Tp e2;refine⟨fun j hj=>?_,?_⟩
    ·cases j with
     |zero=>exact⟨c,e⟩
     |succ j=>exact h1 j (by simpa using hj)
    ·rw[Bk,El,G6,X4,h2];show (c||_)=((match FR d with | .ok c=>c|_=>Ad)||_)
     rw[e];rfl
theorem UM:∀(ds:Ac D)(a z:Af),HN a ds=.ok z->(∀ j,j<ds.length->∃ i,ds.getD j .non=.int i)/\z=a+Js (fun j=>match ds.getD j .non with
  |.int i=>i
  | _=>0) ds.length
 |[],a,z,h=>by cases h;exact⟨fun j hj=>absurd hj (Yu _),by simp[Js]⟩
 |.int i::ds,a,z,h=>by
  obtain⟨h1,h2⟩:=UM ds (a+i) z h;refine⟨fun j hj=>?_,?_⟩
  ·cases j with
   |zero=>exact⟨i,rfl⟩
   |succ j=>exact h1 j (by simpa using hj)
  ·have key:∀ n,Js (fun j=>match (D.int i::ds).getD j .non with | .int i=>i|_=>0) (n+1)=i+Js (fun j=>match ds.getD j .non with | .int i=>i|_=>0) n:=by
    intro n
    induction n with
    |zero=>show (0:Af)+i=i+0;omega
    |succ n ih=>
     show Js _ (n+1)+(match ds.getD n .non with | .int i=>i|_=>0)=i+(Js _ n+(match ds.getD n .non with | .int i=>i|_=>0))
     rw[ih];omega
   rw[h2,Bk,key];omega
 |.non::_,_,_,h=>by cases h
 |.bl _::_,_,_,h=>by cases h
 |.str _::_,_,_,h=>by cases h
 |.tup _::_,_,_,h=>by cases h
 |.lst _::_,_,_,h=>by cases h
 |.obj _ _::_,_,_,h=>by cases h
 |.exc _ _::_,_,_,h=>by cases h
 |.dic _::_,_,_,h=>by cases h
theorem NM{ds:Ac D}{its:Ac Al}(r:Reps X.K CL H A0 xs ds)(rv:A7 xs its){v:Al}(h:its.toArray[j]?=Aa v):j<ds.length/\∃ x,Rep X.K CL H A0 x (ds.getD j .non)/\BB x v:=by
 have h':its[j]?=Aa v:=by simpa using h
 obtain⟨hj,e⟩:=AS.mp h';obtain⟨x,rx,q⟩:=Kf r rv hj;have l1:=rv.length;have l2:=r.length
 exact⟨by omega,x,rx,by rw[<-e];exact q⟩
theorem Og{o:C3}(k:∀ b q,b∉[h.objs.size]->(h.push o).get? b=Aa q->h'.get? b=Aa q):∀ b q,h.get? b=Aa q->h'.get? b=Aa q:=fun b q e=>k b q (by
 intro z;have:=BA.mp z;rw[this]at e;exact absurd (AE e) (Bw _)) (As _ e)
theorem VY(hc:X.calm=Ab){es:Ac D}(I:Inv X pI σ H s)(sq:SqL X.K H q ys\/SqT X.K H q ys)(ry:Reps X.K CL H A0 ys es)(p:A9 (fun H=>Rep X.K CL H A) W H ((FQ es).bind fun b=>.ok (.bl b)) Q):Ax (model X.prog X.w) X.A (call (.builtin "any") [.ref q]) (EP X pI σ Q) X.xe s:=by
 cases e1:FQ es with
 |bad=>rw[e1]at p;exact p.elim
 |exn x=>
  exfalso
  clear p
  have:∀(es:Ac D) x,FQ es≠.exn x:=by
   intro es
   induction es with
   |nil=>intro x h;cases h
   |cons d ds ih=>
    intro x h;rw[TH]at h;cases e:FR d with
    |bad=>rw[e]at h;cases h
    |exn y=>cases d<;>cases e
    |ok c=>
     rw[e,R.bind_ok]at h;cases e2:FQ ds with
     |bad=>rw[e2]at h;cases h
     |exn y=>exact ih y e2
     |ok c2=>rw[e2]at h;cases h
  exact this es x e1
 |ok b=>
  rw[e1,R.bind_ok]at p;obtain⟨h1,h2⟩:=Tp e1;rcases sq with sq|sq
  ·obtain⟨its,rvv,pl,_⟩:=I.list sq;have hlt:q<s.heap.objs.size:=by obtain⟨o,n,e,_⟩:=pl;exact AE e
   have hl:its.toArray.size=es.length:=by rw[AC,<-rvv.length,ry.length]
   refine call_any_walk (Ep (Jz pl) ⟨s.heap.objs.size,_,_,_,_,_,(fun j=>match FR (es.getD j .non) with | .ok c=>c|_=>Ad),rfl,ZY (A:=X.A.in1) (I.ok.hd hc) s.heap.objs.size q (Bc hlt) its.toArray,⟨⟨_,AK _ rfl,rfl,rfl⟩,(Jz pl).push _⟩,fun j v s' Q' E' hv hQ=>?_,fun h' tk k=>?_⟩)
   ·obtain⟨hj,x,rx,qx⟩:=NM ry rvv hv;obtain⟨c,ec⟩:=h1 j hj;exact Vn rx qx ec (by dsimp only at hQ;rw[ec]at hQ;exact hQ)
   ·rw[hl,<-h2];exact⟨.bl b,H,I.kept (Og k),rfl,p _ H (AD.refl H) rfl⟩
  ·obtain⟨its,rvv,pl,_⟩:=I.tuple sq;have pl':s.heap.IsTuple q its.toArray:=pl;have hlt:q<s.heap.objs.size:=by obtain⟨o,e,_⟩:=pl';exact AE e
   have hl:its.toArray.size=es.length:=by rw[AC,<-rvv.length,ry.length]
   refine call_any_walk (Fu pl' ⟨s.heap.objs.size,_,_,_,_,_,(fun j=>match FR (es.getD j .non) with | .ok c=>c|_=>Ad),rfl,ZZ (A:=X.A.in1) (I.ok.hd hc) s.heap.objs.size q (Bc hlt) its.toArray,⟨⟨_,AK _ rfl,rfl,rfl⟩,pl'.push _⟩,fun j v s' Q' E' hv hQ=>?_,fun h' tk k=>?_⟩)
   ·obtain⟨hj,x,rx,qx⟩:=NM ry rvv hv;obtain⟨c,ec⟩:=h1 j hj;exact Vn rx qx ec (by dsimp only at hQ;rw[ec]at hQ;exact hQ)
   ·rw[hl,<-h2];exact⟨.bl b,H,I.kept (Og k),rfl,p _ H (AD.refl H) rfl⟩
theorem vU(hc:X.calm=Ab):JE X CL W (.builtin "any") (biD .any):=by
  intro A pI s σ H xs us Q I r ⟨hA,ds,rs,p⟩
  match ds,rs,p with
  |[.lst es],rs,p=>
    obtain⟨v,rfl,rv⟩:=rs.one;obtain⟨q,ys,e,_,sq,ry⟩:=rv.plain;subst e;obtain⟨u,rfl,ru⟩:=Hd r;cases ru;exact VY hc I (.inl sq) ry p
  |[.tup es],rs,p=>
    obtain⟨v,rfl,rv⟩:=rs.one;obtain⟨q,ys,e,_,sq,ry⟩:=rv.plain;subst e;obtain⟨u,rfl,ru⟩:=Hd r;cases ru;exact VY hc I (.inr sq) ry p
  |[],_,p=>exact p.elim
  |[.non],_,p=>exact p.elim
  |[.bl _],_,p=>exact p.elim
  |[.int _],_,p=>exact p.elim
  |[.str _],_,p=>exact p.elim
  |[.obj _ _],_,p=>exact p.elim
  |[.exc _ _],_,p=>exact p.elim
  |[.dic _],_,p=>exact p.elim
  |x::_::_,_,p=>cases x<;>exact p.elim
theorem Vs(hc:X.calm=Ab){es:Ac D}(I:Inv X pI σ H s)(sq:SqL X.K H q ys\/SqT X.K H q ys)(ry:Reps X.K CL H A0 ys es)(p:A9 (fun H=>Rep X.K CL H A) W H ((HN 0 es).bind fun b=>.ok (.int b)) Q):Ax (model X.prog X.w) X.A (call (.builtin "sum") [.ref q]) (EP X pI σ Q) X.xe s:=by
 cases e1:HN 0 es with
 |bad=>rw[e1]at p;exact p.elim
 |exn x=>
  exfalso
  have:∀(es:Ac D)(a:Af) x,HN a es≠.exn x:=by
   intro es
   induction es with
   |nil=>intro a x h;cases h
   |cons d ds ih=>
    intro a x h;cases d<;>first|exact ih _ _ h|cases h
  exact this es 0 x e1
 |ok z=>
  rw[e1,R.bind_ok]at p;obtain⟨h1,h2⟩:=UM es 0 z e1;rw[Et]at h2;rcases sq with sq|sq
  ·obtain⟨its,rvv,pl,_⟩:=I.list sq;have hlt:q<s.heap.objs.size:=by obtain⟨o,n,e,_⟩:=pl;exact AE e
   have hl:its.toArray.size=es.length:=by rw[AC,<-rvv.length,ry.length]
   refine Z0 (Ep (Jz pl) ⟨s.heap.objs.size,_,_,_,_,_,(fun j=>match es.getD j .non with | .int i=>i|_=>0),rfl,ZY (A:=X.A.in1) (I.ok.hd hc) s.heap.objs.size q (Bc hlt) its.toArray,⟨⟨_,AK _ rfl,rfl,rfl⟩,(Jz pl).push _⟩,fun b hb=>?_,fun j v hv=>?_,fun h' tk t' k=>?_⟩)
   ·show b<(s.heap.push _).objs.size;rw[B0];rcases Aw.mp hb with rfl|hb
    ·exact D5 _
    ·rw[BA.mp hb];exact Ds hlt
   ·obtain⟨hj,x,rx,qx⟩:=NM ry rvv hv;obtain⟨i,ei⟩:=h1 j hj;rw[ei]at rx;dsimp only;rw[ei];cases rx;exact qx
   ·rw[hl,<-h2];exact⟨.int z,H,I.kept (Og k),⟨_,rfl⟩,p _ H (AD.refl H) rfl⟩
  ·obtain⟨its,rvv,pl,_⟩:=I.tuple sq;have pl':s.heap.IsTuple q its.toArray:=pl;have hlt:q<s.heap.objs.size:=by obtain⟨o,e,_⟩:=pl';exact AE e
   have hl:its.toArray.size=es.length:=by rw[AC,<-rvv.length,ry.length]
   refine Z0 (Fu pl' ⟨s.heap.objs.size,_,_,_,_,_,(fun j=>match es.getD j .non with | .int i=>i|_=>0),rfl,ZZ (A:=X.A.in1) (I.ok.hd hc) s.heap.objs.size q (Bc hlt) its.toArray,⟨⟨_,AK _ rfl,rfl,rfl⟩,pl'.push _⟩,fun b hb=>?_,fun j v hv=>?_,fun h' tk t' k=>?_⟩)
   ·show b<(s.heap.push _).objs.size;rw[B0];rcases Aw.mp hb with rfl|hb
    ·exact D5 _
    ·rw[BA.mp hb];exact Ds hlt
   ·obtain⟨hj,x,rx,qx⟩:=NM ry rvv hv;obtain⟨i,ei⟩:=h1 j hj;rw[ei]at rx;dsimp only;rw[ei];cases rx;exact qx
   ·rw[hl,<-h2];exact⟨.int z,H,I.kept (Og k),⟨_,rfl⟩,p _ H (AD.refl H) rfl⟩
theorem wQ(hc:X.calm=Ab):JE X CL W (.builtin "sum") (biD .sum):=by
  intro A pI s σ H xs us Q I r ⟨hA,ds,rs,p⟩
  match ds,rs,p with
  |[.lst es],rs,p=>
    obtain⟨v,rfl,rv⟩:=rs.one;obtain⟨q,ys,e,_,sq,ry⟩:=rv.plain;subst e;obtain⟨u,rfl,ru⟩:=Hd r;cases ru;exact Vs hc I (.inl sq) ry p
  |[.tup es],rs,p=>
    obtain⟨v,rfl,rv⟩:=rs.one;obtain⟨q,ys,e,_,sq,ry⟩:=rv.plain;subst e;obtain⟨u,rfl,ru⟩:=Hd r;cases ru;exact Vs hc I (.inr sq) ry p
  |[],_,p=>exact p.elim
  |[.non],_,p=>exact p.elim
  |[.bl _],_,p=>exact p.elim
  |[.int _],_,p=>exact p.elim
  |[.str _],_,p=>exact p.elim
  |[.obj _ _],_,p=>exact p.elim
  |[.exc _ _],_,p=>exact p.elim
  |[.dic _],_,p=>exact p.elim
  |x::_::_,_,p=>cases x<;>exact p.elim
end
section
variable(K:Fg)(CL:ClA)
def aL(H0:Hp)(A:Am->Prop)(H:Hp)(v:V)(d:D):Prop:=∀ ds,d=.lst ds->∃ a xs,v=.ref a/\H0 a=Ae/\H a=Aa (.lst xs)/\Reps K CL H (fun b=>A b\/b=a) xs ds
def Dr(fr:Ak)(H0:Hp)(A:Am->Prop)(H:Hp)(v:V)(d:D):Prop:=Rep K CL H A v d/\(fr=Ab->aL K CL H0 A H v d)
end
section
variable{X:Cx}{CL:ClA}{W:XW}{a b c:An}{fa fb fc:Rho->R D}{pos:AG}
def SC(X:Cx)(CL:ClA)(W:XW)(fr:Ak)(e:An)(f:Rho->R D):Prop:=∀ A,PE X e (fun σ H Q=>AOk H A/\∃ ρ,Good X.K CL A ρ σ H/\A9 (Dr X.K CL fr H A) W H (f ρ) Q)
theorem SC.se{fr:Ak}(h:SC X CL W fr a fa):SE X CL W a fa:=fun A=>PE.weak (h A) fun σ H Q ⟨hA,ρ,g,p⟩=>⟨hA,ρ,g,by
 cases e:fa ρ with
 |ok d=>rw[e]at p;exact fun v H' s r=>p v H' s r.1
 |exn x=>rw[e]at p;exact p
 | bad=>rw[e]at p;exact p⟩
theorem SE.sc(h:SE X CL W a fa):SC X CL W Ad a fa:=fun A=>PE.weak (h A) fun σ H Q ⟨hA,ρ,g,p⟩=>⟨hA,ρ,g,by
 cases e:fa ρ with
 |ok d=>rw[e]at p;exact fun v H' s r=>p v H' s ⟨r,fun z=>nomatch z⟩
 |exn x=>rw[e]at p;exact p
 | bad=>rw[e]at p;exact p⟩
theorem SC.congr{fr:Ak}{f g:Rho->R D}(h:SC X CL W fr a f)(e:∀ ρ,g ρ=f ρ):SC X CL W fr a g:=fun A=>PE.weak (h A) fun σ H Q ⟨hA,ρ,q,p⟩=>⟨hA,ρ,q,by rw[<-e];exact p⟩
theorem Ka{p:Am}{ds:Ac D}(s:AD H0 H)(hA:AOk H A)(hp:H p=Ae)(r:Reps K CL H A xs ds):Dr K CL Ab H0 A (upd H p (.lst xs)) (.ref p) (.lst ds):=
 ⟨VO hA hp r,fun _ ds' e=>by
  cases e;exact⟨p,xs,rfl,s.free hp,ED,(Reps.wide (fun a ha=>ha.imp id fun e=>by rw[e];exact hp) _ r).same (FN hp _)⟩⟩
theorem Vd{fr:Ak}(r:Rep K CL H A v d)(h:∀ ds,d≠.lst ds):Dr K CL fr H0 A H v d:=⟨r,fun _ ds e=>absurd e (h ds)⟩
theorem QM(hs:SA X CL W es fs)(hz:∀ ρ ds,fs ρ=.ok ds->ds.length<=100000):SC X CL W Ab (.List es pos) (fun ρ=>(fs ρ).bind fun xs=>.ok (.lst xs)):=
 fun A=>PE.weak (rZ (hs A)) fun σ H Q ⟨hA,ρ,g,p⟩=>⟨hA,ρ,g,HH.bind p fun ds vs H1 e s1 r1 p1=>⟨by
  rw[r1.length,Dl];have:=hz ρ ds e;omega,fun q hq=>p1 _ _ (FN hq _) (Ka s1 (hA.same s1) hq r1)⟩⟩
theorem A9.bindF{fr:Ak}{f:D->R D}{Q':VK}(h:A9 (Dr K CL fr H A) W H (r.bind f) Q)(k:∀ d v H',r=.ok d->AD H H'->Rp H' v d->A9 (Dr K CL fr H A) W H' (f d) Q->Q' v H'):A9 Rp W H r Q':=by
 cases r with
 |ok d=>exact fun v H2 s2 q=>k d v H2 rfl s2 q (A9.same s2 h)
 |exn x=>exact h
 |bad=>exact h
theorem HH.bindF{Rp:Hp->Ac V->Ac D->Prop}{r:R (Ac D)}{f:Ac D->R D}{Q':Ac V->Hp->Prop}(h:A9 Rq W H (r.bind f) Q)(k:∀ d v H',r=.ok d->AD H H'->Rp H' v d->A9 Rq W H' (f d) Q->Q' v H'):HH Rp W H r Q':=by
 cases r with
 |ok d=>exact fun v H2 s2 q=>k d v H2 rfl s2 q (A9.same s2 h)
 |exn x=>exact h
 |bad=>exact h
theorem Kt.bindF{r:R (Ap Af)}{f:Ap Af->R D}(h:A9 Rq W H (r.bind f) Q)(k:∀ o H',r=.ok o->AD H H'->A9 Rq W H' (f o) Q->Q' o H'):Kt W H r Q':=by
 cases r with
 |ok d=>exact fun H2 s2=>k d H2 rfl s2 (A9.same s2 h)
 |exn x=>exact h
 |bad=>exact h
theorem wS{lo hi:Ap An}{fl fh:Rho->R (Ap Af)}(ha:ST X CL W a fa)(hl:SO X CL W lo fl)(hh:SO X CL W hi fh):SC X CL W Ab (.Subscript a (.Slice lo hi Ae p2) pos) (fun ρ=>(fa ρ).bind fun x=>(fl ρ).bind fun l=>(fh ρ).bind fun h=>slD x l h):=
 fun A=>PE.weak (gG (r:=fun x l h H Q=>R5 X.K x l h H Q\/R4 X.K x l h H Q) (fun pI s σ H x v vl vu lo hi sl Q I rx hs pl pu h=>h.elim (lH pI s σ H x v vl vu lo hi sl Q I rx hs pl pu) (tF pI s σ H x v vl vu lo hi sl Q I rx hs pl pu)) (ha A) (hl A) (hh A)) fun σ H Q ⟨hA,ρ,g,p⟩=>⟨hA,ρ,g,A9.bindF p fun dx x H1 _ s1 r1 p1=>⟨hA.same s1,ρ,g.same s1,Kt.bindF p1 fun l H2 _ s2 p2=>⟨(hA.same s1).same s2,ρ,(g.same s1).same s2,Kt.bindF p2 fun h H3 _ s3 p3=>by
  cases dx with
  |lst ds=>
   obtain⟨q,xs,rfl,sq,r⟩:=((r1.same s2).same s3).lst_of;exact .inl ⟨q,xs,rfl,sq,fun t ht=>p3 _ _ (FN ht _) (Ka ((s1.trans s2).trans s3) (((hA.same s1).same s2).same s3) ht (VH l h r))⟩
  |tup ds=>
   obtain⟨q,xs,rfl,_,sq,r⟩:=((r1.same s2).same s3).tup_of;rw[cJ]at p3;split at p3
   ·exact p3.elim
   ·rename_i hw;refine .inr ⟨q,xs,rfl,sq,?_,fun t ht=>p3 _ _ (FN ht _) (Vd (Lf (((hA.same s1).same s2).same s3) ht (VH l h r)) (by intro _ z;cases z))⟩
    rintro⟨h1,h2⟩;refine hw ?_;have e:∀ d o,HT.sIx xs.length d o=Ik ds.length d o:=fun d o=>by rw[r.length];cases o<;>rfl
    rw[e]at h1 h2;rw[r.length]at h2;simp[h1,h2]
  | _=>exact p3.elim⟩⟩⟩
noncomputable def OpN(X:Cx)(CL:ClA)(W:XW)(f:Al->Al->GE Al)(g:D->D->R D):Prop:=
 ∀ A H0,OpR X f (fun x y H Q=>AD H0 H/\AOk H A/\∃ dx dy,CO X.K CL H A x dx/\CO X.K CL H A y dy/\A9 (Dr X.K CL Ab H0 A) W H (g dx dy) Q)
theorem oH:OpN X CL W (B7 .Add) (C8 .Add):=by
 intro A H0 pI s σ H x y v u Q I rx ry ⟨s0,hA,dx,dy,hx,hy,p⟩;have key:(∀ ds,dx≠.lst ds)->EP X pI σ Q=EP X pI σ Q->Ax (model X.prog X.w) X.A (B7 .Add v u) (EP X pI σ Q) X.xe s:=fun hd _=>by
  refine U4 (W:=W) A pI s σ H x y v u Q I rx ry ⟨hA,dx,dy,hx,hy,?_⟩;cases e:C8 .Add dx dy with
  |bad=>rw[e]at p;exact p
  |exn x=>rw[e]at p;exact p
  |ok d=>
   rw[e]at p;refine fun v' H' s' r'=>p v' H' s' (Vd r' fun ds z=>?_)
   subst z;cases dx with
   |lst ds=>exact hd _ rfl
   |_=>cases dy<;>first|(cases e;done)|(simp only[C8]at e;split at e<;>cases e)
 cases dx with
 |lst ds=>
  cases dy with
  |lst es=>
   obtain⟨a,xs,rfl,s1,r1⟩:=hx.lst_of;obtain⟨b,ys,rfl,s2,r2⟩:=hy.lst_of;simp only[Rb]at p;split at p
   ·rename_i h;refine U5 pI s σ H _ _ v u Q I rx ry ⟨a,b,xs,ys,rfl,rfl,s1,s2,by rw[r1.length,r2.length];exact Ib h,fun q hq=>?_⟩
    exact p _ _ (FN hq _) (Ka s0 hA hq (r1.append r2))
   ·exact p.elim
  |_=>exact p.elim
 |_=>exact key (by intro _ z;cases z) rfl
theorem tE(ha:ST X CL W a fa)(hb:ST X CL W b fb):SC X CL W Ab (.BinOp a .Add b pos) (fun ρ=>(fa ρ).bind fun x=>(fb ρ).bind fun y=>C8 .Add x y):=
 fun A pI s σ H Q I h=>by
  obtain⟨hA,ρ,g,p⟩:=h;exact Xa (oH (W:=W) A H) (ha A) (hb A) pI s σ H Q I ⟨hA,ρ,g,A9.bindF p fun dx x H1 _ s1 r1 p1=>⟨hA.same s1,ρ,g.same s1,A9.bind (Rq:=Dr X.K CL Ab H A) p1 fun dy y H2 _ s2 r2 p2=>⟨s1.trans s2,(hA.same s1).same s2,dx,dy,r1.same s2,r2,p2⟩⟩⟩
def Xy(X:Cx)(CL:ClA)(W:XW)(f:Al)(g:Ac D->R D):Prop:=∀ A H0,HI X f (fun xs H Q=>AD H0 H/\AOk H A/\∃ ds,F9 X.K CL H A xs ds/\A9 (Dr X.K CL Ab H0 A) W H (g ds) Q)
theorem pB:Xy X CL W (.type "list") (biD .list):=by
  intro A H0 pI s σ H xs us Q I r ⟨s0,hA,ds,rs,p⟩
  match ds,rs,p with
  |[.lst es],rs,p=>
    obtain⟨v,rfl,rv⟩:=rs.one;obtain⟨q,ys,rfl,sq,ry⟩:=rv.lst_of;exact Te pI s σ H _ us Q I r ⟨q,ys,rfl,.inl sq,fun l hl=>p _ _ (FN hl _) (Ka s0 hA hl ry)⟩
  |[.tup es],rs,p=>
    obtain⟨v,rfl,rv⟩:=rs.one;obtain⟨q,ys,rfl,_,sq,ry⟩:=rv.tup_of;exact Te pI s σ H _ us Q I r ⟨q,ys,rfl,.inr sq,fun l hl=>p _ _ (FN hl _) (Ka s0 hA hl ry)⟩
  |[],_,p=>exact p.elim
  |[.non],_,p=>exact p.elim
  |[.bl _],_,p=>exact p.elim
  |[.int _],_,p=>exact p.elim
  |[.str _],_,p=>exact p.elim
  |[.obj _ _],_,p=>exact p.elim
  |[.exc _ _],_,p=>exact p.elim
  |[.dic _],_,p=>exact p.elim
  |x::_::_,_,p=>cases x<;>exact p.elim
theorem qY{x:Ai}{g:Ac D->R D}(hc:Xy X CL W (.type T) g)(hg:Gl X x)(hm:X.mg x=Ae)(hv:C4 x=Aa (.type T))(ha:SAT X CL W (e::es) fs)(hn:x≠"__name__")(hdb:(x==("__debug__" : Ai))=Ad)(he:Av (e::es) X.env=(Ad,eval e X.env)::Av es X.env)(hpl:∀ pos,(BN pos (Av es X.env)).any (·.1)=Ad):SC X CL W Ab (.Call (.Name x p) (e::es) [] pos) (fun ρ=>(fs ρ).bind g):=fun A pI s σ H Q I ⟨hA,ρ,gd,q⟩=>
 Tw (hc A H) hg hm hv (ha A) hn hdb he (hpl _) pI s σ H Q I ⟨hA,ρ,gd,HH.bindF q fun ds vs H1 _ s1 r1 p1=>⟨s1,hA.same s1,ds,r1,p1⟩⟩
mutual
theorem Rn{K:Fg}{H:Hp}{A:Am->Prop}(hA:AOk H A):∀(n:Ag)(d:D){v:V},nlD n d=Ab->Rep K CL H A0 v d->Rep K CL H A v d
 |_,.non,_,_,h=>h
 |_,.bl _,_,_,h=>h
 |_,.int _,_,_,h=>h
 |_,.str _,_,_,h=>h
 |0,.tup _,_,hn,_=>by cases hn
 |n+1,.tup ds,_,hn,h=>by
  obtain⟨a,xs,e,_,s,r⟩:=h;refine⟨a,xs,e,?_,s,nls_up hA n ds hn r⟩;rcases s with s|s
  ·refine .inl fun z=>?_
   obtain⟨ys,q⟩:=hA a z;rcases s with s|⟨o,s⟩<;>rw[q]at s<;>cases s
  ·exact .inr s
 |n,.lst _,_,hn,_=>by cases n<;>cases hn
 |n,.obj _ _,_,hn,_=>by cases n<;>cases hn
 |n,.exc _ _,_,hn,_=>by cases n<;>cases hn
 |n,.dic _,_,hn,_=>by cases n<;>cases hn
theorem nls_up{K:Fg}{H:Hp}{A:Am->Prop}(hA:AOk H A):∀(n:Ag)(ds:Ac D){vs:Ac V},ds.all (nlD n)=Ab->Reps K CL H A0 vs ds->Reps K CL H A vs ds
 |_,[],[],_,h=>h
 |n,d::ds,_::_,hn,h=>by
  simp only[FY,Aj]at hn;exact⟨Rn hA n d hn.1 h.1,nls_up hA n ds hn.2 h.2⟩
 |_,[],_::_,_,h=>h.elim
 |_,_::_,[],_,h=>h.elim
end
theorem Q5{fr:Ak}(hA0:AOk H0 A)(s:AD H0 H)(hc:FS fr d=Ab)(r:Dr K CL fr H0 A0 H v d):Dr K CL fr H0 A H v d:=by
 have hA:=hA0.same s;cases d with
 |lst ds=>
  have hc':(fr&&ds.all (nlD 5))=Ab:=hc;rw[Aj]at hc';obtain⟨a,xs,e,h0,h1,rs⟩:=r.2 hc'.1 ds rfl;have hA2:AOk H (fun b=>A b\/b=a):=fun b hb=>hb.elim (hA b) fun e=>by rw[e];exact⟨xs,h1⟩
  have rs':=nls_up hA2 5 ds hc'.2 (Reps.sub (fun _ z=>z.elim) _ rs)
  refine⟨⟨a,xs,e,.inl (hA0.new h0),SqL.of h1,Reps.sub (fun _ z=>.inl z) _ rs'⟩,fun _ ds' e'=>?_⟩
  cases e';exact⟨a,xs,e,h0,h1,rs'⟩
 |_=>exact⟨Rn hA 5 _ hc r.1,fun _ _ z=>nomatch z⟩
def spD(K:Fg)(CL:ClA)(n:Ag)(fr:Ak)(F:Ac D->R D):Sp:=fun vs H Q E=>∃(ds:Ac D)(A:Am->Prop),vs.length=n/\AOk H A/\Reps K CL H A vs ds/\(match F ds with
  |.ok d=>∀ v H',AD H H'->Dr K CL fr H A H' v d->Q v H'
  |.exn x=>∀ cls dx H',AD H H'->F8 K CL H' cls dx x->E cls dx H'
  | .bad=>AX)
def EKW(K:Fg)(CL:ClA)(A:Am->Prop)(W:XW):XK:=fun cls dx H'=>∃ x,F8 K CL H' cls dx x/\W x H'
theorem F9.plain{K:Fg}{H:Hp}{A:Am->Prop}:∀{vs:Ac V}{ds:Ac D},F9 K CL H A vs ds->Reps K CL H A0 vs ds
 |[],[],h=>trivial
 |_::_,_::_,h=>⟨h.1.plain,F9.plain h.2⟩
 |[],_::_,h=>h.elim
 |_::_,[],h=>h.elim
theorem lN{CX:CXT}{fr:Ak}{f:Am}{fd:BL}{ps:Ac Ai}{F:Ac D->R D}{x:Ai}{ft:Rho->R (Ac D)}{sh:Rho->Ak}(G:FnOk X.prog X.w X.K X.mg X.base CX k f fd ps (spD X.K CL n fr F))(hr:Room k X.A)(hg:Gl X x)(hm:X.mg x=Aa (.ref f))(hk:B1 X.K (.ref f)=Ab)(hb:FP X.K fd ps [])(hx:∀ A,Lp CX X (EKW X.K CL A W))(ha:SA X CL W (e::es) fs)(hat:SAT X CL W (e::es) ft)(hst:∀ ρ,sh ρ=Ab->ft ρ=fs ρ)(hn:∀ ρ ds,ft ρ=.ok ds->ds.length=n)(hdb:(x==("__debug__" : Ai))=Ad)(he:Av (e::es) X.env=(Ad,eval e X.env)::Av es X.env)(hpl:∀ pos,(BN pos (Av es X.env)).any (·.1)=Ad):SC X CL W fr (.Call (.Name x p) (e::es) [] pos) (fun ρ=>(ft ρ).bind fun ds=>(F ds).bind fun d=>if sh ρ=Ab then .ok d else if FS fr d=Ab then .ok d else .bad):=fun A pI s σ H Q I ⟨hA,ρ,gd,q⟩=>by
 dsimp only at q;by_cases hs:sh ρ=Ab
 ·rw[hst ρ hs]at q;refine U2 G hr hg hm hk hb .nil (hx A) (ha A) hdb he (hpl _) pI s σ H Q I ⟨hA,ρ,gd,?_⟩;cases e1:fs ρ with
  |bad=>rw[e1]at q;exact q
  |exn y=>rw[e1]at q;exact q
  |ok ds=>
   rw[e1]at q;intro vs H1 s1 r1;refine⟨ds,A,by rw[Ck,r1.length];exact hn ρ ds (by rw[hst ρ hs];exact e1),hA.same s1,by rw[Ck];exact r1,?_⟩
   have q':A9 (Dr X.K CL fr H A) W H ((F ds).bind fun d=>if sh ρ=Ab then .ok d else if FS fr d=Ab then .ok d else .bad) Q:=q
   cases e2:F ds with
   |ok d=>
    rw[e2,R.bind_ok,AA hs]at q';exact fun v H2 s2 r2=>q' v H2 (s1.trans s2) ⟨r2.1,fun z ds' e'=>let ⟨a,xs,z1,z2,z3⟩:=r2.2 z ds' e';⟨a,xs,z1,s1.free z2,z3⟩⟩
   |exn y=>rw[e2]at q';exact fun cls dx H2 s2 xr=>⟨y,xr,q' H2 (s1.trans s2)⟩
   |bad=>rw[e2]at q';exact q'.elim
 ·refine U2 G hr hg hm hk hb .nil (hx A0) (hat A) hdb he (hpl _) pI s σ H Q I ⟨hA,ρ,gd,?_⟩;cases e1:ft ρ with
  |bad=>rw[e1]at q;exact q
  |exn y=>rw[e1]at q;exact q
  |ok ds=>
   rw[e1]at q;intro vs H1 s1 r1;refine⟨ds,A0,by rw[Ck,r1.plain.length];exact hn ρ ds e1,fun _ z=>z.elim,by rw[Ck];exact r1.plain,?_⟩
   have q':A9 (Dr X.K CL fr H A) W H ((F ds).bind fun d=>if sh ρ=Ab then .ok d else if FS fr d=Ab then .ok d else .bad) Q:=q
   cases e2:F ds with
   |ok d=>
    rw[e2,R.bind_ok,AH hs]at q';split at q'
    ·rename_i hc;exact fun v H2 s2 r2=>q' v H2 (s1.trans s2) (Q5 hA (s1.trans s2) hc ⟨r2.1,fun z ds' e'=>let ⟨a,xs,z1,z2,z3⟩:=r2.2 z ds' e';⟨a,xs,z1,s1.free z2,z3⟩⟩)
    ·exact q'.elim
   |exn y=>rw[e2]at q';exact fun cls dx H2 s2 xr=>⟨y,xr,q' H2 (s1.trans s2)⟩
   |bad=>rw[e2]at q';exact q'.elim
end
theorem Pp(env:B9):∀(ns:Ac (Ai×D7))(acc:Ac (Ai×Am)),(∀ x∈ns,x.2=.free->∃ c,env.cells.lookup x.1=Aa c)->(∀ x c,acc.lookup x=Aa c->env.cells.lookup x=Aa c) ->
  ∃ cl,(forIn ns acc fun(x:Ai×D7)(cs:Ac (Ai×Am))=>(if (x.2==.free)=Ab then do let c <-cellOf env x.1;pure (Ei ((x.1,c)::cs)) else pure (Ei cs):GE (ForInStep (Ac (Ai×Am)))))=pure cl /\
   (∀ x c,cl.lookup x=Aa c->env.cells.lookup x=Aa c)/\(∀ x,((x,DK)∈ns\/∃ c,acc.lookup x=Aa c)->∃ c,cl.lookup x=Aa c)
 |[],acc,_,h2=>⟨acc,by rw[GC],h2,fun x hx=>hx.elim (fun z=>nomatch z) id⟩
 |(n,k)::r,acc,h1,h2=>by
  rw[HS];by_cases hk:k=.free
  ·subst hk;obtain⟨c,hc⟩:=h1 (n,.free) AB rfl;obtain⟨cl,e,p,q⟩:=Pp env r ((n,c)::acc) (fun x hx=>h1 x (Ay _ hx)) (fun x d hd=>by
    rw[Cc]at hd;split at hd
    ·rename_i hx;cases hd;rw[eq_of_beq hx];exact hc
    ·exact h2 x d hd)
   refine⟨cl,?_,p,fun x hx=>q x ?_⟩
   ·have e1:cellOf env n=pure c:=by unfold cellOf;dsimp only at hc;rw[hc]
    rw[AA (by rfl),e1]
    exact e
   ·rcases hx with hx|⟨d,hd⟩
    ·rcases Aw.mp hx with z|z
     ·cases z;exact .inr ⟨c,by simp[Cc]⟩
     ·exact .inl z
    ·by_cases hxn:x=n
     ·exact .inr ⟨c,by subst hxn;simp[Cc]⟩
     ·exact .inr ⟨d,by rw[Cc];rw[Dx.mpr hxn];exact hd⟩
  ·obtain⟨cl,e,p,q⟩:=Pp env r acc (fun x hx=>h1 x (Ay _ hx)) h2
   refine⟨cl,?_,p,fun x hx=>q x ?_⟩
   ·rw[AH (by simpa using hk)]
    exact e
   ·rcases hx with hx|hx
    ·rcases Aw.mp hx with z|z
     ·cases z;exact absurd rfl hk
     ·exact .inl z
    ·exact .inr hx
theorem TC(h:∀ x∈scope.names,x.2=.free->∃ c,env.cells.lookup x.1=Aa c):∃ cl,closureFor scope env=pure cl/\(∀ x c,cl.lookup x=Aa c->env.cells.lookup x=Aa c)/\∀ x,(x,DK)∈scope.names->∃ c,cl.lookup x=Aa c:=by
 obtain⟨cl,e,p,q⟩:=Pp env scope.names [] h (fun x c z=>by simp at z)
 refine⟨cl,?_,p,fun x hx=>q x (.inl hx)⟩
 unfold closureFor
 first
  |exact e
  |(simp only[bind_pure];exact e)
  |(rw[show (forIn scope.names ([]:Ac (Ai×Am)) _:GE _)=pure cl from e];rfl)
theorem Px:∀(names:Ac (Ai×D7))(h:AF)(acc:Ac (Ai×Am))(x:Ai)(c:Am),(CN h.objs.size names acc).lookup x=Aa c->acc.lookup x=Aa c\/((x,BV)∈names/\h.objs.size<=c/\(G2 h names).IsCell c Ae)
 |[],_,_,_,_,e=>.inl e
 |(n,k)::r,h,acc,x,c,e=>by
  unfold CN at e;unfold G2;by_cases hk:(k==BV)=Ab
  ·rw[AA hk]at e ⊢;have hs:h.objs.size+1=(h.push { cls:=.type "cell", data:=.cell Ae }).objs.size:=(B0 ..).symm;rw[hs]at e;rcases Px r _ _ x c e with q|⟨q1,q2,q3⟩
   ·rw[Cc]at q;cases hx:x==n with
    |true=>
     rw[hx]at q;cases q;refine .inr ⟨?_,AW _,?_⟩
     ·rw[eq_of_beq hx,eq_of_beq hk];exact AB
     ·exact⟨_,HW r _ _ _ (AK _ rfl),rfl⟩
    |false=>rw[hx]at q;exact .inl q
   ·exact .inr ⟨Ay _ q1,by omega,q3⟩
  ·rw[AH hk]at e ⊢;rcases Px r h acc x c e with q|⟨q1,q2,q3⟩
   ·exact .inl q
   ·exact .inr ⟨Ay _ q1,q2,q3⟩
theorem Py:∀(names:Ac (Ai×D7))(h:AF)(acc:Ac (Ai×Am)),(∀ x y c,acc.lookup x=Aa c->acc.lookup y=Aa c->x=y)->(∀ x c,acc.lookup x=Aa c->c<h.objs.size)->∀ x y c,(CN h.objs.size names acc).lookup x=Aa c->(CN h.objs.size names acc).lookup y=Aa c->x=y
 |[],_,_,i,_,x,y,c,e1,e2=>i x y c e1 e2
 |(n,k)::r,h,acc,i,b,x,y,c,e1,e2=>by
  unfold CN at e1 e2;by_cases hk:(k==BV)=Ab
  ·rw[AA hk]at e1 e2;have hs:h.objs.size+1=(h.push { cls:=.type "cell", data:=.cell Ae }).objs.size:=(B0 ..).symm;rw[hs]at e1 e2;have look:∀ z d,FT z ((n,h.objs.size)::acc)=Aa d->(z=n/\d=h.objs.size)\/(z≠n/\acc.lookup z=Aa d):=fun z d q=>by
    rw[Cc]at q;cases hx:z==n with
    |true=>rw[hx]at q;cases q;exact .inl ⟨eq_of_beq hx,rfl⟩
    |false=>rw[hx]at q;exact .inr ⟨fun e=>by rw[e]at hx;simp at hx,q⟩
   refine Py r _ _ (fun z z' d q q'=>?_) (fun z d q=>?_) x y c e1 e2
   ·rcases look z d q with ⟨rfl,q1⟩|⟨_,q1⟩<;>rcases look z' d q' with ⟨rfl,q2⟩|⟨_,q2⟩
    ·rfl
    ·exact absurd (b _ _ q2) (by rw[q1];exact Bw _)
    ·exact absurd (b _ _ q1) (by rw[q2];exact Bw _)
    ·exact i _ _ _ q1 q2
   ·rw[<-hs];rcases look z d q with ⟨_,q1⟩|⟨_,q1⟩
    ·rw[q1];exact D5 _
    ·exact Ds (b _ _ q1)
  ·rw[AH hk]at e1 e2;exact Py r h acc i b x y c e1 e2
theorem Pq:∀(names:Ac (Ai×D7))(n:Ag)(acc:Ac (Ai×Am))(x:Ai),(x,BV)∉names->(CN n names acc).lookup x=acc.lookup x
 |[],_,_,_,_=>rfl
 |(m,k)::r,n,acc,x,hx=>by
  unfold CN;have hr:(x,BV)∉r:=fun z=>hx (Ay _ z)
  by_cases hk:(k==BV)=Ab
  ·rw[AA hk,Pq r _ _ x hr,Cc];cases q:x==m with
   |true=>exact absurd (by rw[eq_of_beq q,eq_of_beq hk];exact AB) hx
   |false=>rfl
  ·rw[AH hk];exact Pq r n acc x hr
theorem Pz(n0:Ag):∀(names:Ac (Ai×D7))(n:Ag)(acc:Ac (Ai×Am))(x:Ai),n0<=n->((x,BV)∈names\/∃ c,acc.lookup x=Aa c/\n0<=c)->∃ c,(CN n names acc).lookup x=Aa c/\n0<=c
 |[],_,_,_,_,h=>h.elim (fun z=>nomatch z) id
 |(m,k)::r,n,acc,x,hn,h=>by
  unfold CN;by_cases hk:(k==BV)=Ab
  ·rw[AA hk];refine Pz n0 r _ _ x (by omega) ?_
   by_cases hx:(x==m)=Ab
   ·exact .inr ⟨n,by rw[Cc,hx],hn⟩
   ·rcases h with h|⟨c,h,hc⟩
    ·rcases Aw.mp h with z|z
     ·cases z;simp at hx
     ·exact .inl z
    ·exact .inr ⟨c,by rw[Cc];simp only[hx];exact h,hc⟩
  ·rw[AH hk];refine Pz n0 r _ _ x hn (h.imp (fun h=>?_) id)
   rcases Aw.mp h with z|z
   ·cases z;simp at hk
   ·exact z
theorem dD{M:GU}{A:A2}{E:Vq}{globals:Am}{qual:Ai}{Q:B9->Ar->Prop}(hQ:Q (newEnv scope s.heap.objs.size globals (CN (s.heap.objs.size+1) scope.names cl) qual Ae .none (Aa env) IC) { s with heap:=G2 (s.heap.push { cls:=.type "dict", data:=.dict #[] }) scope.names }):Ax M A (Iw scope globals cl [] qual Ae .none (Aa env)) Q E s:=by
 simp only[Iw,Option.isSome_some,Eh];refine Ao (wpAny_alloc ?_);refine Ao (wpAny_layCells _ (fun name kind cells=>by cases hkc:kind==BV<;>simp[hkc]) _ _ _ _ ?_)
 rw[show ({ s with heap:=s.heap.push { cls:=.type "dict", data:=.dict #[] } }:Ar).heap.objs.size=s.heap.objs.size+1 from B0 ..]
 rw[GC];exact Ao (AI (AI hQ))
noncomputable def cxC(X:Cx)(scope:B5)(cl:Ac (Ai×Am))(C:Am)(N':Ac Ai)(s₀:Ar)(H₀:Hp)(fp:Ac Am):Cx where
 prog:=X.prog
 w:=X.w
 K:=X.K
 mg:=X.mg
 base:=X.base
 A:=X.A
 N:=N'
 s₀:=s₀
 H₀:=H₀
 env:=compEnvC scope cl C X.env
 outer:=X.stack
 stack:=X.stack
 ex:=fp
 fn:=fun x=>scope.names.lookup x==Aa BV
 calm:=X.calm
 pn:=[]
 xe:=fun _ _=>AX
theorem Nd{env:B9}:∀{names:Ac (Ai×D7)}{x:Ai}{k:D7},(names.map fun (n,k)=>if (k==DK&&env.scope.kind==.function&&env.kindOf n==Aa .cell) then (n,BV) else (n,k)).lookup x=Aa k->names.lookup x=Aa k\/(k=.cell/\names.lookup x=Aa .free)
 |[],_,_,h=>by simp at h
 |(n,j)::r,x,k,h=>by
  have ih:=@Nd env r x k;have h':FT x ((if (j==DK&&env.scope.kind==.function&&env.kindOf n==Aa .cell)=Ab then (n,BV) else (n,j))::(r.map fun (n,k)=>if (k==DK&&env.scope.kind==.function&&env.kindOf n==Aa .cell) then (n,BV) else (n,k)))=Aa k:=h
  by_cases hc:(j==DK&&env.scope.kind==.function&&env.kindOf n==Aa .cell)=Ab
  ·rw[AA hc]at h';rw[Cc]at h' ⊢;cases hx:x==n with
   |true=>
    rw[hx]at h';cases h';simp only[Aj]at hc;exact .inr ⟨rfl,by rw[eq_of_beq hc.1.1]⟩
   |false=>rw[hx]at h';exact ih h'
  ·rw[AH hc]at h';rw[Cc]at h' ⊢;cases hx:x==n with
   |true=>rw[hx]at h';exact .inl h'
   |false=>rw[hx]at h';exact ih h'
structure BlockOk (X:Cx) (scope:B5) (N':Ac Ai) (ts:Ac Ag):Prop where
 kind:scope.kind=.function
 uniq:∀ y∈scope.names,scope.names.lookup y.1=Aa y.2
 names:∀ y∈scope.names,y.2=.local->scope.names.lookup y.1=Aa .local
 free:∀ y∈scope.names,y.2=.free->X.env.scope.names.lookup y.1=Aa .cell\/X.env.scope.names.lookup y.1=Aa .free
 len:N'.length=X.N.length
 same:∀ i x,N'[i]?=Aa x->scope.names.lookup x=Aa .free->i∉ts->X.N[i]?=Aa x
 loc:∀ i x,N'[i]?=Aa x->(scope.names.lookup x=Aa .local\/scope.names.lookup x=Aa .cell)->i∈ts
structure BCells (X:Cx) (scope:B5) (cl:Ac (Ai×Am)) (C:Am) (h:AF):Prop where
 own:∀ x c,cl.lookup x=Aa c->X.env.cells.lookup x=Aa c\/(scope.names.lookup x=Aa .cell/\C<c/\h.IsCell c Ae)
 inj:∀ x y c,cl.lookup x=Aa c->cl.lookup y=Aa c->x=y
 has:∀ x,scope.names.lookup x=Aa .cell->∃ c,cl.lookup x=Aa c/\C<c
 fr:∀ x,(x,DK)∈scope.names->∃ c,cl.lookup x=Aa c/\X.env.cells.lookup x=Aa c
section
variable{X:Cx}{pI:Pn}{σ:L2.St}{H:Hp}{s:Ar}
noncomputable def hideT(ts:Ac Ag)(σ:L2.St):L2.St:=ts.foldl (fun σ t=>σ.set t Ae) σ
theorem PN:∀(ts:Ac Ag)(σ:L2.St),(hideT ts σ).length=σ.length
 |[],_=>rfl
 |t::ts,σ=>by show (hideT ts (σ.set t Ae)).length=_;rw[PN ts,A6]
theorem T9:∀(ts:Ac Ag)(σ:L2.St){i:Ag}{v:V},(hideT ts σ)[i]?=Aa (Aa v)->σ[i]?=Aa (Aa v)/\i∉ts
 |[],_,_,_,h=>⟨h,by simp⟩
 |t::ts,σ,i,v,h=>by
  obtain⟨h1,h2⟩:=T9 ts (σ.set t Ae) (i:=i) (v:=v) h;by_cases e:t=i
  ·subst e;have:=GI h1;cases this
  ·rw[Cb e]at h1;exact⟨h1,by simp only[Aw,Dy];exact⟨fun z=>e z.symm,h2⟩⟩
theorem dO{tk:Ag}{C:Am}{m:Ai->Ap Al}(I:Inv X pI σ H s)(B:BlockOk X scope N' ts)(hf:∀ b∈fp,GN X pI H b)(hfo:∀ b∈fp,b<s.heap.objs.size)(hb:BCells X scope cl C h')(hk:∀ b o,s.heap.get? b=Aa o->h'.get? b=Aa o)(hC:s.heap.objs.size<=C)(hn:h'.Ns C m):Inv (cxC X scope cl C N' s H fp) [] (hideT ts σ) H {s with heap:=h',toks:=tk}:=by
 have stf:∀ b∈fp,b∉frs X.stack:=fun b hb z=>by
  rcases Aw.mp (I.stkSub b z) with e|e
  ·exact(hf b hb).2.1 e
  ·exact(hf b hb).2.2.1 e
 have frOf:∀ x,((relabel scope X.env).names.lookup x=Aa .cell\/(relabel scope X.env).names.lookup x=Aa .free)->scope.names.lookup x=Aa .free\/scope.names.lookup x=Aa .cell:=fun x hx=>by
  rcases hx with z|z
  ·rcases Nd z with z|⟨_,z⟩
   ·exact .inr z
   ·exact .inl z
  ·rcases Nd z with z|⟨z,_⟩
   ·exact .inl z
   ·cases z
 have gtC:∀ c:Am,C<c->s.heap.objs.size<=c:=fun c z=>Ct hC (Gj z)
 have cellK:∀ c v,s.heap.IsCell c v->h'.IsCell c v:=fun c v ⟨o,ho,hd⟩=>⟨o,hk _ _ ho,hd⟩
 refine⟨⟨I.ok.mod,B.kind,I.ok.glob,I.ok.blt,hC,hb.inj,fun x hx=>?_,fun x c h e=>?_,I.ok.hd,I.ok.frames,.inl rfl,fun b hbb=>⟨?_,fun x c e=>?_⟩,I.bs,Ct I.ok.bsz I.sz,fun b o e hbb=>?_,stf,I.stack,I.stkFree⟩,rfl,I.bare,Un.kept hk,⟨m,hn,fun i x v h1 h2 h3=>?_⟩,fun x c e=>?_,I.hok.fresh hC,fun x c e=>(hb.own x c e).elim (I.freeC x c) (fun z=>I.hok.fresh (gtC c z.2.1)),fun p hp=>absurd (show p∈([]:Pn) from hp) (by simp),I.hok.kept hk,?_⟩
 ·rcases frOf x hx with z|z
  ·obtain⟨c,q,_⟩:=hb.fr x (CB z);exact⟨c,q⟩
  ·obtain⟨c,q,_⟩:=hb.has x z;exact⟨c,q⟩
 ·obtain⟨c',q,z⟩:=hb.has x (eq_of_beq h);have e':cl.lookup x=Aa c:=e;rw[q]at e';cases e';exact gtC _ z
 ·intro z;have z':b=C:=z;have:=hfo b hbb;rw[z']at this;exact absurd (AJ this hC) (Bw _)
 ·rcases hb.own x c e with z|z
  ·exact(hf b hbb).2.2.2.2.1 x c z
  ·intro q;have:=hfo b hbb;have:=gtC c z.2.1;rw[q]at this;exact absurd ‹b<_› (Yt.mpr this)
 ·rcases (hf b hbb).2.2.2.1 with z|z
  ·exact I.ok.noex b o e z
  ·exact absurd (AJ (AE e) (Ct I.ok.bsz z)) (Bw _)
 ·obtain⟨h2,hts⟩:=T9 ts σ h2;have h3':(relabel scope X.env).names.lookup x=Aa .local\/(relabel scope X.env).names.lookup x=Aa .cell\/(relabel scope X.env).names.lookup x=Aa .free:=h3;have h1':N'[i]?=Aa x:=h1;rcases h3' with z|z
  ·rcases Nd z with z|⟨z,_⟩
   ·exact absurd (B.loc i x h1' (.inl z)) hts
   ·cases z
  ·have fr:=(frOf x z).resolve_right fun q=>hts (B.loc i x h1' (.inr q))
   have hm:=CB fr;have hX:=B.same i x h1' fr hts;obtain⟨m0,hn0,hl0⟩:=I.loc;obtain⟨u,ru,lk⟩:=hl0 i x v hX h2 (by
    rcases B.free _ hm rfl with q|q
    ·exact .inr (.inl q)
    ·exact .inr (.inr q))
   refine⟨u,ru,?_⟩;obtain⟨c,hc,hcX⟩:=hb.fr x hm;rcases lk with ⟨q,_⟩|⟨_,c',hc',hcell⟩
   ·have q':X.env.scope.names.lookup x=Aa .local:=q;rcases B.free _ hm rfl with p|p
    ·rw[show X.env.scope.names.lookup x=_ from p]at q';cases q'
    ·rw[show X.env.scope.names.lookup x=_ from p]at q';cases q'
   ·have e:=hcX;rw[hc']at e;cases e;exact .inr ⟨z,c,hc,cellK _ _ hcell⟩
 ·rcases hb.own x c e with z|z
  ·obtain⟨v,q⟩:=I.cell x c z;exact⟨v,cellK _ _ q⟩
  ·exact⟨_,z.2.2⟩
 ·show (hideT ts σ).length=N'.length;rw[PN,I.len,B.len]
theorem TN{C D:Am}{s':Ar}{σ':L2.St}{pins':Pn}{h'':AF}{ys:Ac Al}(I:Inv X pI σ H s)(hf:∀ b∈fp,GN X pI H b)(I':Inv (cxC X scope cl C N' s H fp) pins' σ' H' s')(hD:s.heap.objs.size<=D)(hDC:D≠C)(hC:s.heap.objs.size<=C)(hd:s'.heap.get? D=Aa { cls:=.type "list", data:=.seq ys.toArray n })(hDn:H' D=Ae)(rv:A7 xs ys)(hz:xs.length<=sizeLine)(hs:Ew C s'.heap h''):Inv X pI σ (upd H' D (.lst xs)) {s' with heap:=h''}:=by
  have u:Un (frs X.stack) fp H H' s.heap s'.heap:=I'.base;have lt:∀ b o,s.heap.get? b=Aa o->b≠C/\b≠D:=fun b o e=>⟨fun z=>absurd (AJ (AE e) (z ▸ hC)) (Bw _),fun z=>absurd (AJ (AE e) (z ▸ hD)) (Bw _)⟩
  have HD:H D=Ae:=I.hok.fresh hD;have hCn:H' C=Ae:=I'.free;have kb:∀ b o,b≠C->s'.heap.get? b=Aa o->h''.get? b=Aa o:=fun b o hb e=>(hs.2 b hb).trans e
  have u2:Un (frs X.stack) fp H (upd H' D (.lst xs)) s.heap h'':=⟨fun b o e q hb hx=>kb b o (lt b o e).1 (u.keep b o e q hb hx),fun b o e q hb hx=>by
      obtain⟨sl,e1⟩:=u.slot b o e q hb hx;exact⟨sl,kb b _ (lt b o e).1 e1⟩,fun b o e q hx=>by rw[Bu (lt b o e).2];exact u.free b o e q hx,fun b o e hx=>by
      obtain⟨o',e1⟩:=u.there b o e hx;exact⟨o',kb b _ (lt b o e).1 e1⟩,fun b zs q=>by rw[Bu (FO q HD)];exact u.tups b zs q,fun b o zs q=>by rw[Bu (FO q HD)];exact u.frzs b o zs q,fun b ps q=>by rw[Bu (FO q HD)];exact u.tbls b ps q⟩
  have hok:HOk X.prog X.w (upd H' D (.lst xs)) h'':=fun b o e=>by
    by_cases hb:b=D
    · subst hb;rw[ED]at e;cases e;exact⟨hz,ys,n,rv,kb _ _ hDC hd⟩
    · rw[Bu hb]at e;refine(I'.hok b o e).stay (fun c v hc q=>kb c v ?_ q) (fun c q=>by rw[Bu (FO q hDn)];exact q) fun c zs q=>by rw[Bu (FO q hDn)];exact q
      rcases hc with rfl|hc
      · exact FO e hCn
      · exact FO hc hCn
  exact I.call' (s':={s' with heap:=h''}) (ch:=fp) I'.os u2 hok I'.bare fun b hb=>⟨(hf b hb).2.2.2.1,(hf b hb).2.1,(hf b hb).2.2.2.2.1,(hf b hb).2.2.2.2.2⟩
end
def PTs(X:Cx)(ifs:Ac An)(tt:TT):Prop:=∀(pI:Pn)(s:Ar)(σ:L2.St)(H:Hp)(Q:Ak->Hp->Prop),Inv X pI σ H s->tt σ H Q ->
 Ax (model X.prog X.w) X.A (forIn ifs Ab fun c r=>if r=Ab then do let ok <-Iu c X.env (eval c X.env);pure (Ei ok) else pure (Ei r)) (TP X pI σ Q) X.xe s
theorem nR:PTs X [] (fun σ H Q=>Q Ab H):=fun pI s σ H Q I h=>wpAny_tests_nil ⟨H,I,h⟩
theorem nQ{t:TT}(h:PT X c t):PTs X [c] t:=fun pI s σ H Q I q=>wpAny_tests_one (h pI s σ H Q I q)
theorem eI{D:Am}{ys:Ac Al}{y:Al}{E:Vq}{Q:Vq}(I:Inv X ((D,{ cls:=.type "list", data:=.seq ys.toArray n })::pI) σ H s)(hD:X.s₀.heap.objs.size<=D)(hp:∀ p∈X.pn++pI,p.1≠D)(hc:∀ x c,X.env.cells.lookup x=Aa c->c≠D)(hz:ys.length<=sizeLine)(h:∀ s',Inv X ((D,{ cls:=.type "list", data:=.seq (ys++[y]).toArray (n+1) })::pI) σ H s'->(∀ b o,b≠D->s.heap.get? b=Aa o->s'.heap.get? b=Aa o)->Q .none s'):Ax (model X.prog X.w) X.A (call (.builtin "list.append") [.ref D,y]) Q E s:=by
 obtain⟨e,hn,hL,hfs,_⟩:=I.pin (D,{ cls:=.type "list", data:=.seq ys.toArray n }) (Bs _ AB);refine append_at (hsz:=by rw[AC];exact hz) e fun h' hs hd=>?_
 have hd':h'.get? D=Aa { cls:=.type "list", data:=.seq (ys++[y]).toArray (n+1) }:=by rw[hd];simp
 have kb:∀ b o,b≠D->s.heap.get? b=Aa o->h'.get? b=Aa o:=fun b o hb q=>(hs.2 b hb).trans q
 have I0:Inv X pI σ H s:=I.pins_of fun p hp=>I.pin p (Bs _ (Ay _ hp))
 have I1:Inv X pI σ H {s with heap:=h'}:=I0.turned (t':=s.toks) kb hn hL (.inr hD) hc hp
 refine h _ (I1.pins_of fun p hp=>?_) kb
 rcases Aw.mp hp with rfl|hp
 ·exact⟨hd',hn,hL,hfs,fun v z=>by
   have z':Mb _ _=L7 v:=z;cases z'⟩
 ·exact I1.pin p (Bs _ hp)
section
variable{prog:AO}{w:A4}{A:A2}{R:Jk->Ar->Prop}{s:Ar}
theorem dN{target:An}{it acc:Al}(I:Ag->Ar->Prop)(turn:∀ n s,I n s->Ax (model prog w) A (Iy it) (fun r s₁=>match r with
      |none=>R (.ok .next) s₁
      | some v=>Ax (model prog w) A (Gq target it v) (fun _ s₁'=>Ax (model prog w) A (assign target env v) (fun _ s₂=>
          Ax (model prog w) A (forIn ifs Ab fun c r=>if r=Ab then do let ok <-Iu c env (eval c env);pure (Ei ok) else pure (Ei r)) (fun ok s₃=>
            if ok=Ab then Ax (model prog w) A (eval elt env) (fun x s₄=>
              Ax (model prog w) A (call (.builtin "list.append") [acc,x]) (fun _ s₅=>∃ m,m<n/\I m s₅) (Ix (model prog w) A env fun e s'=>R (.error e) s') s₄) (Ix (model prog w) A env fun e s'=>R (.error e) s') s₃
            else ∃ m,m<n/\I m s₃) (Ix (model prog w) A env fun e s'=>R (.error e) s') s₂) (Ix (model prog w) A env fun e s'=>R (.error e) s') s₁') (Ix (model prog w) A env fun e s'=>R (.error e) s') s₁) (Ix (model prog w) A env fun e s'=>R (.error e) s') s)(n:Ag)(h:I n s):FE (model prog w) A (.compLoop (.ListComp elt [⟨target,iter,ifs,0⟩] scope pos) 0 it acc env) R s:=by
  refine codeAny_loop rfl I (fun n s hI=>?_) n h
  show Ax _ A ((compTurn (.ListComp elt [⟨target,iter,ifs,0⟩] scope pos) 0 it acc env).onRaise (fun x=>do G1 x env;theTreesLotGoes x)) _ _ s
  refine wpAny_noted ?_;rw[compTurn_list];refine Ao (DM (Ao (Bf (turn n s hI) (fun r s₁ h₁=>?_) fun _ _ h'=>h')))
  cases r with
  |none=>exact AI h₁
  |some v=>
    refine Ao (Bf h₁ (fun _ s₁' h₁'=>?_) fun _ _ h'=>h')
    refine Ao (Bf h₁' (fun _ s₂ h₂=>Ao (Bf h₂ (fun ok s₃ h₃=>?_) fun _ _ h'=>h')) fun _ _ h'=>h')
    cases ok with
    |false=>exact AI ⟨rfl,h₃⟩
    |true=>
      exact Ao (Ao (Bf h₃ (fun x s₄ h₄=>Ao (Bf h₄ (fun _ s₅ h₅=>AI (AI ⟨rfl,h₅⟩)) fun _ _ h'=>h')) fun _ _ h'=>h'))
end
def Mu(J:It)(ts:Ac Ag)(g:TG)(tt:TT)(te:TE)(σ:L2.St)(H:Hp)(Q:VK):Prop:=∃ W:Ag->Ag->Ac V->L2.St->Hp->Prop,(∃ m,W 0 m [] (hideT ts σ) H)/\∀ i m xs σ H,W i m xs σ H ->
 (J.stop i H/\∀ p,H p=Ae->Q (.ref p) (upd H p (.lst xs))) \/
 (J.go i H/\xs.length<sizeLine/\∀ x H',J.yld i H x H'->g x σ H' fun σ2 H2=>tt σ2 H2 fun b H3=>if b=Ab then te σ2 H3 fun y H4=>∃ m',m'<m/\W (i+1) m' (xs++[y]) σ2 H4 else ∃ m',m'<m/\W (i+1) m' xs σ2 H3)
theorem UX{g:TG}{it:Am}{tn:Ag->AF->Prop}{E:Vq}{RR:Al->Am->Jk->Ar->Prop}(hc:X.calm=Ab)(B:BlockOk X scope N' ts)(I:Inv X pI σ H s)(T:Turn X.prog X.w X.K tg J fp it tn)(st:tn 0 s.heap)(hf:∀ b∈fp,GN X pI H b)(hcl:∀ x c,cl.lookup x=Aa c->X.env.cells.lookup x=Aa c)(hcl2:∀ x,(x,DK)∈scope.names->∃ c,cl.lookup x=Aa c)(hg:∀ cl C s H,PG (cxC X scope cl C N' s H fp) tg g)(ht:∀ cl C s H,PTs (cxC X scope cl C N' s H fp) ifs tt)(he:∀ cl C s H,PE (cxC X scope cl C N' s H fp) elt te)(h:Mu J ts g tt te σ H Q)(hRR:∀ cl D C s' H' σ' pins' xs ys n m,Inv (cxC X scope cl C N' s H fp) pins' σ' H' s'->s'.heap.get? D=Aa { cls:=.type "list", data:=.seq (Fn ys) n }->H' D=Ae->A7 xs ys->xs.length<=sizeLine->s.heap.objs.size<=D->D≠C->s.heap.objs.size<=C->s'.heap.Ns C m->Q (.ref D) (upd H' D (.lst xs))->RR (.ref D) C (.ok .next) s'):Ax (model X.prog X.w) X.A (newList []) (fun acc s₃=>Ax (model X.prog X.w) X.A (Iw scope X.env.globals cl [] X.env.qual Ae .none (Aa X.env)) (fun cenv s₄=>FE (model X.prog X.w) X.A (.compStart (.ListComp elt [⟨tg,iter,ifs,0⟩] scope pos) 0 (.ref it) acc {cenv with scope:=relabel scope X.env}) (RR acc cenv.locals) s₄) E s₃) E s:=by
 refine CV (dD ?_);dsimp only;generalize hH2:s.heap.push { cls:=.type "list", dict:=Ae,data:=.seq ([]:Ac Al).toArray }=H2;have hns₁:(G2 (H2.push { cls:=.type "dict", data:=.dict #[] }) scope.names).Ns H2.objs.size (fun _=>Ae):=(Heap.Ns.new H2 (.type "dict")).keeps (HW _ _)
 have hkp₁:∀ b o,H2.get? b=Aa o->(G2 (H2.push { cls:=.type "dict", data:=.dict #[] }) scope.names).get? b=Aa o:=fun b o e=>HW _ _ b o (As _ e)
 have hown:=Px scope.names (H2.push { cls:=.type "dict", data:=.dict #[] }) cl;have hinj:=Py scope.names (H2.push { cls:=.type "dict", data:=.dict #[] }) cl;rw[B0]at hown hinj;generalize hcl':CN (H2.objs.size+1) scope.names cl=cl' at hown hinj;have hcf:∀ x,(x,BV)∉scope.names->cl'.lookup x=cl.lookup x:=fun x hx=>by rw[<-hcl'];exact Pq _ _ _ x hx
 have hch:∀ x,(x,BV)∈scope.names->∃ c,cl'.lookup x=Aa c/\H2.objs.size+1<=c:=fun x hx=>by rw[<-hcl'];exact Pz _ _ _ _ x (AW _) (.inl hx)
 generalize hh₁:G2 (H2.push { cls:=.type "dict", data:=.dict #[] }) scope.names=h₁ at hns₁ hkp₁ hown;have hC:H2.objs.size=s.heap.objs.size+1:=by rw[<-hH2,B0]
 have hCle:s.heap.objs.size<=H2.objs.size:=by rw[hC];exact GS _
 have hDC:s.heap.objs.size≠H2.objs.size:=by rw[hC];exact Bc (D5 _)
 have below:∀ b,b<s.heap.objs.size->b≠H2.objs.size:=fun b hb=>by rw[hC];exact Bc (Ds hb)
 have old:∀ b o,s.heap.get? b=Aa o->h₁.get? b=Aa o:=fun b o e=>hkp₁ b o (hH2 ▸ As _ e)
 have hacc:h₁.get? s.heap.objs.size=Aa { cls:=.type "list", data:=.seq ([]:Ac Al).toArray 0 }:=hkp₁ _ _ (hH2 ▸ AK _ rfl);have clt:∀ x c,cl.lookup x=Aa c->c<s.heap.objs.size:=fun x c e=>by
  obtain⟨v,q⟩:=I.cell x c (hcl x c e);exact q.lt
 have bc:BCells X scope cl' H2.objs.size h₁:=by
  refine⟨fun x c e=>?_,hinj (fun x y c e1 e2=>I.ok.inj x y c (hcl x c e1) (hcl y c e2)) (fun x c e=>Ds (AJ (clt x c e) hCle)),fun x hx=>?_,fun x hx=>?_⟩
  ·rcases hown x c e with q|⟨q1,q2,q3⟩
   ·exact .inl (hcl x c q)
   ·exact .inr ⟨B.uniq _ q1,q2,q3⟩
  ·have hm:=CB hx;obtain⟨c,e,hc⟩:=hch x hm;exact⟨c,e,hc⟩
  ·have hno:(x,BV)∉scope.names:=fun z=>by
    have e1:=B.uniq _ hx;have e2:=B.uniq _ z;rw[show scope.names.lookup x=_ from e1]at e2
    cases e2
   obtain⟨c,e⟩:=hcl2 x hx;exact⟨c,by rw[hcf x hno];exact e,hcl x c e⟩
 have hfo:∀ b∈fp,b<s.heap.objs.size:=fun b hb=>by
  obtain⟨o,e,_⟩:=T.obj 0 _ st b hb;exact AE e
 generalize hD:s.heap.objs.size=D at *;generalize hC':H2.objs.size=C at *;have I0:Inv (cxC X scope cl' C N' s H fp) [] (hideT ts σ) H {s with heap:=h₁,toks:=s.toks+([]:Ac (Ai×Al)).length}:=dO (tk:=s.toks+([]:Ac (Ai×Al)).length) I B hf (fun b hb=>by rw[hD];exact hfo b hb) bc old (by rw[hD];exact hCle) hns₁
 have nD:H D=Ae:=I.hok.fresh (by rw[hD];exact AW _)
 have noD:∀ b∈fp,b≠D:=fun b hb=>Bc (hfo b hb)
 have noC:∀ b∈fp,b≠C:=fun b hb=>below b (hfo b hb)
 have stfs:D∉frs X.stack:=fun z=>by
  obtain⟨_,o,ho,_⟩:=I.stack.mem z;exact absurd (AE ho) (by rw[hD];exact Bw _)
 have cD:∀ x c,cl'.lookup x=Aa c->c≠D:=fun x c e z=>by
  rcases bc.own x c e with q|⟨_,q,_⟩
  ·obtain⟨v,q⟩:=I.cell x c q;exact absurd q.lt (by rw[z,hD];exact Bw _)
  ·rw[z]at q;exact absurd (AJ q hCle) (Bw _)
 have I1:Inv (cxC X scope cl' C N' s H fp) [(D,{ cls:=.type "list", data:=.seq ([]:Ac Al).toArray 0 })] (hideT ts σ) H {s with heap:=h₁,toks:=s.toks+([]:Ac (Ai×Al)).length}:=I0.pins_of fun p hp=>by
  have e:=BA.mp hp;subst e;exact⟨hacc,nD,hDC,stfs,fun v z=>by
   have z':Mb _ _=L7 v:=z;cases z'⟩
 have st1:tn 0 h₁:=T.keep _ _ _ st fun b _ o e=>old b o e
 obtain⟨W,⟨m0,w0⟩,turn⟩:=h;have fpk:∀{pl:Pn}{H':Hp},(∀ p∈pl,p.1=D)->(∀ b∈fp,H' b=Ae)->∀ b∈fp,GN (cxC X scope cl' C N' s H fp) pl H' b:=fun {pl H'} hp hn b hb=>
  ⟨hn b hb,noC b hb,fun z=>by
   rcases Aw.mp (I.stkSub b z) with e|e
   ·exact(hf b hb).2.1 e
   ·exact(hf b hb).2.2.1 e,.inl hb,fun x c e=>(bc.own x c e).elim ((hf b hb).2.2.2.2.1 x c) (fun z q=>absurd (Fo hCle z.2.1) (Yt.mpr (by rw[q];exact Gj (hfo b hb)))),fun p hp'=>by
   have hp2:p∈pl:=hp';rw[hp p hp2];exact(noD b hb).symm⟩
 have loop:∀ s₃:Ar,s₃={s with heap:=h₁,toks:=s.toks+([]:Ac (Ai×Al)).length} ->
   FE (model X.prog X.w) X.A (.compLoop (.ListComp elt [⟨tg,iter,ifs,0⟩] scope pos) 0 (.ref it) (.ref D) (compEnvC scope cl' C X.env)) (RR (.ref D) C) s₃:=by
  rintro s₃ rfl;refine dN (fun k s'=>∃ i σ' H' xs ys n,Inv (cxC X scope cl' C N' s H fp) [(D,{ cls:=.type "list", data:=.seq (Fn ys) n })] σ' H' s'/\tn i s'.heap/\(∀ b∈fp,H' b=Ae)/\A7 xs ys/\xs.length<=sizeLine/\W i k xs σ' H') ?_ m0
   ⟨0,_,H,[],[],0,I1,st1,fun b hb=>(hf b hb).1,.nil,FU _,w0⟩
  rintro k s' ⟨i,σ',H',xs,ys,n,I',st',fr',rv,hz,w'⟩;have one:∀ p∈[((D,{ cls:=.type "list", data:=.seq (Fn ys) n }):Am×C3)],p.1=D:=fun p hp=>by rw[BA.mp hp]
  rcases turn i k xs σ' H' w' with ⟨stop,q⟩|⟨go,hlt,step⟩
  ·refine Bf (T.done (cxC X scope cl' C N' s H fp) rfl rfl rfl hc i _ s' σ' H' (fun _ _=>AX) I' (fpk one fr') st' stop) (fun r s1 ⟨hr,J1⟩=>?_) fun _ _ f=>f.elim
   subst hr;obtain⟨e,hn,_⟩:=J1.pin _ (Bs _ AB);obtain⟨m,hm,_⟩:=J1.loc;exact hRR cl' D C s1 H' σ' _ xs ys n m J1 e hn rv hz (AW _) hDC hCle hm (q D hn)
  ·refine Bf (T.item (cxC X scope cl' C N' s H fp) rfl rfl rfl hc i _ s' σ' H' (fun _ _=>AX) I' (fpk one fr') st' go) (fun r s1 ⟨u,hr,h4⟩=>?_) fun _ _ f=>f.elim
   subst hr;refine Bf h4 (fun _ s5 ⟨x,H5,I5,r5,y5,st5,fr5⟩=>?_) fun _ _ f=>f.elim
   have I5':=I5.pinned (fpk one fr5) (T.obj _ _ st5);refine Bf (hg cl' C s H _ s5 σ' H5 x u _ I5' r5 (step x H5 y5)) (fun _ s6 ⟨σ6,H6,I6,q6⟩=>?_) fun _ _ f=>f.elim
   refine Bf (ht cl' C s H _ s6 σ6 H6 _ I6 q6) (fun ok s7 ⟨H7,I7,q7⟩=>?_) fun _ _ f=>f.elim
   have again:∀{s8:Ar}{H8:Hp}{ys':Ac Al}{n':Ag},Inv (cxC X scope cl' C N' s H fp) ((D,{ cls:=.type "list", data:=.seq (Fn ys') n' })::Kk fp s5.heap) σ6 H8 s8->Inv (cxC X scope cl' C N' s H fp) [(D,{ cls:=.type "list", data:=.seq (Fn ys') n' })] σ6 H8 s8/\tn (i+1) s8.heap/\∀ b∈fp,H8 b=Ae:=fun {s8 H8 ys' n'} I8=>
    ⟨I8.pins_of fun p hp=>I8.pin p (Bs _ (by rw[BA.mp hp];exact AB)),T.keep _ _ _ st5 fun b hb o e=>(I8.pin (b,o) (Bs _ (Ay _ (Nq hb e)))).1,fun b hb=>by
     obtain⟨o,e,d⟩:=T.obj _ _ st5 b hb;exact(I8.pin (b,o) (Bs _ (Ay _ (Nq hb e)))).2.1⟩
   cases ok with
   |false=>
    rw[AH (by decide)]at q7
    obtain⟨m',hm,w7⟩:=q7;obtain⟨a1,a2,a3⟩:=again I7;rw[AH (by decide)]
    exact⟨m',hm,i+1,σ6,H7,xs,ys,n,a1,a2,a3,rv,hz,w7⟩
   |true=>
    rw[AA rfl]at q7;rw[AA rfl];refine Bf (he cl' C s H _ s7 σ6 H7 _ I7 q7) (fun val s8 ⟨y,H8,I8,r8,m',hm,w8⟩=>?_) fun _ _ f=>f.elim
    have hl:=rv.length;refine eI (X:=cxC X scope cl' C N' s H fp) (ys:=ys) (n:=n) (pI:=Kk fp s5.heap) I8 (by show s.heap.objs.size<=D;rw[hD];exact AW _) (fun p hp=>?_) cD (by omega) fun s9 I9 kb=>?_
    ·have hp2:p∈Kk fp s5.heap:=hp;exact noD _ (TX hp2).1
    ·obtain⟨a1,a2,a3⟩:=again I9;exact⟨m',hm,i+1,σ6,H8,xs++[y],ys++[val],n+1,a1,a2,a3,rv.append (.cons r8 .nil),by rw[CK];exact hlt,w8⟩
 exact codeAny_compStart_list (loop _ rfl) (T.self _ 0 _ _ _ st1 (loop _ rfl))
theorem oF{g:TG}(hc:X.calm=Ab)(B:BlockOk X scope N' ts)(hi:PI X tg iter wi)(hg:∀ cl C s H fp,PG (cxC X scope cl C N' s H fp) tg g)(ht:∀ cl C s H fp,PTs (cxC X scope cl C N' s H fp) ifs tt)(he:∀ cl C s H fp,PE (cxC X scope cl C N' s H fp) elt te)(hs:∀ x,CU iter X.env x=pure x):PE X (.ListComp elt [⟨tg,iter,ifs,0⟩] scope pos) (fun σ H Q=>wi σ H fun J H1=>Mu J ts g tt te σ H1 Q):=by
 intro pI s σ H Q I h;obtain⟨cl,hclos,hcl,hcl2⟩:=TC (scope:=scope) (env:=X.env) fun x hx hk=>I.ok.has x.1 ((B.free x hx hk).imp id id)
 rw[eval_ListComp];refine Z7 (use:=Ae) rfl hs hclos B.kind B.names (thn (hi pI s σ H _ I h) fun v s1 h1=>thn h1 fun itv s2 h2=>?_)
 obtain⟨it,fp,tn,J,H2,e,I2,T,st2,f2,h3⟩:=h2;subst e;refine UX (RR:=fun acc C=>compPost (model X.prog X.w) X.A X.xe Ae (EP X pI σ Q) acc C) hc B I2 T st2 f2 hcl hcl2 (fun cl C s H=>hg cl C s H fp) (fun cl C s H=>ht cl C s H fp) (fun cl C s H=>he cl C s H fp) h3 fun cl' D C s' H' σ' pins' xs ys n m I' hd hDn rv hz hD hDC hC hm q=>?_
 exact⟨m,hm,fun h'' hs''=>⟨.ref D,_,TN I2 f2 I' hD hDC hC hd hDn rv hz hs'',rfl,q⟩⟩
theorem nX{n:Ai}{g:TG}(hc:X.calm=Ab)(B:BlockOk X scope N' ts)(hi:PI X tg iter wi)(hg:∀ cl C s H fp,PG (cxC X scope cl C N' s H fp) tg g)(ht:∀ cl C s H fp,PTs (cxC X scope cl C N' s H fp) ifs tt)(he:∀ cl C s H fp,PE (cxC X scope cl C N' s H fp) elt te)(hs:∀ x,CU iter X.env x=pure x)(hN:X.N.Nodup)(hni:X.N[i]?=Aa n)(hx:X.env.scope.names.lookup n=Aa .local)(hsw:CW (.ListComp elt [⟨tg,iter,ifs,0⟩] scope pos) (Aa (.Name n pos')) pos2.line X.env=pure Ab):PS X (.Assign [.Name n pos'] (.ListComp elt [⟨tg,iter,ifs,0⟩] scope pos) pos2) (OE (fun σ H Q=>wi σ H fun J H1=>Mu J ts g tt te σ H1 Q) (E8 i)):=by
 intro pI s σ H Dn I h;obtain⟨cl,hclos,hcl,hcl2⟩:=TC (scope:=scope) (env:=X.env) fun x hx hk=>I.ok.has x.1 ((B.free x hx hk).imp id id)
 rw[exec_Assign_Name_used _ _ _ _ hsw];refine Ao (DM (Ao ?_));show Ax _ X.A (do let _ <-comprehension (.ListComp elt [⟨tg,iter,ifs,0⟩] scope pos) scope X.env _ (newList []) Ad (eval iter X.env) (Aa (assign (.Name n pos') X.env))) _ _ s
 refine Ao (Bf (Z7 (use:=Aa (assign (.Name n pos') X.env)) (Q:=fun _ s'=>SP X pI Dn .next s') rfl hs hclos B.kind B.names
  (thn (hi pI s σ H _ I h) fun v s1 h1=>thn h1 fun itv s2 h2=>?_)) (fun _ s' hq=>AI (AI hq)) fun _ _ e=>e)
 obtain⟨it,fp,tn,J,H2,e,I2,T,st2,f2,h3⟩:=h2;subst e;refine UX (RR:=fun acc C=>compPost (model X.prog X.w) X.A X.xe (Aa (assign (.Name n pos') X.env)) (fun _ s'=>SP X pI Dn .next s') acc C) hc B I2 T st2 f2 hcl hcl2 (fun cl C s H=>hg cl C s H fp) (fun cl C s H=>ht cl C s H fp) (fun cl C s H=>he cl C s H fp) h3 fun cl' D C s' H' σ' pins' xs ys n' m I' hd hDn rv hz hD hDC hC hm q=>?_
 have J0:Inv X pI σ (upd H' D (.lst xs)) s':=TN I2 f2 I' hD hDC hC hd hDn rv hz (Zp ..);refine Z6 (Tt J0 hN hni (.inl hx) (show BB (.ref D) (.ref D) from rfl) (fun s'' J1 ⟨a,sb,ha⟩=>?_) (.inr hx))
 have hC0:X.s₀.heap.objs.size<=C:=Ct I2.sz hC;have hL:C≠X.env.locals:=fun z=>absurd (AJ I2.lt (z ▸ hC)) (Bw _)
 have hcC:∀ x c,X.env.cells.lookup x=Aa c->c≠C:=fun x c e z=>by
  obtain⟨v,q'⟩:=I2.cell x c e;exact absurd (AJ q'.lt (by rw[z];exact hC)) (Bw _)
 have hp:∀ p∈X.pn++pI,p.1≠C:=fun p hp z=>absurd (AJ (AE (I2.pin p hp).1) (by rw[z];exact hC)) (Bw _)
 have hCn:upd H' D (.lst xs) C=Ae:=by rw[Bu hDC.symm];exact I'.free
 have hCa:C≠a:=by
  rcases ha with rfl|ha
  ·exact hL
  ·exact fun z=>hcC n a ha z.symm
 refine⟨m,hm.sameBut sb hCa,fun h'' hs''=>⟨_,_,J1.turned (t':=s''.toks) (fun b o hb e=>(hs''.2 b hb).trans e) hCn hL (.inr hC0) hcC hp,q⟩⟩
theorem K0:∀(ts:Ac Ag)(ρ:Rho)(j:Ag),(FB ts ρ)[j]?=if j∈ts then (ρ[j]?).map (fun _=>Ae) else ρ[j]?
 |[],ρ,j=>by simp[FB]
 |t::ts,ρ,j=>by
  show (FB ts (ρ.set t Ae))[j]?=_;rw[K0 ts];by_cases h1:j∈ts
  ·rw[AA h1,AA (Ay _ h1)];by_cases h2:t=j
   ·subst h2;rw[FI];cases ρ[t]?<;>rfl
   ·rw[Cb h2]
  ·rw[AH h1];by_cases h2:t=j
   ·subst h2;rw[AA AB,FI];cases ρ[t]?<;>rfl
   ·rw[Cb h2,AH (by simp only[Aw,Dy];exact⟨fun z=>h2 z.symm,h1⟩)]
theorem NB:∀(ts:Ac Ag)(ρ:Rho),(FB ts ρ).length=ρ.length
 |[],_=>rfl
 |t::ts,ρ=>by show (FB ts (ρ.set t Ae)).length=_;rw[NB ts,A6]
theorem Po:∀(ts:Ac Ag)(σ:L2.St){i:Ag},i∉ts->(hideT ts σ)[i]?=σ[i]?
 |[],_,_,_=>rfl
 |t::ts,σ,i,h=>by
  simp only[Aw,Dy]at h;show (hideT ts (σ.set t Ae))[i]?=_;rw[Po ts _ h.2,Cb (fun z=>h.1 z.symm)]
theorem Td:∀(ts:Ac Ag)(ds:Ac D)(ρ1 ρ2:Rho),ρ1.length=ρ2.length->(∀ j,j∉ts->ρ1[j]?=ρ2[j]?)->EK ts ds ρ1=EK ts ds ρ2
 |[],[],ρ1,ρ2,hl,h=>congrArg Aa (X8 fun j=>h j (by simp))
 |[],_::_,_,_,_,_=>rfl
 |_::_,[],_,_,_,_=>rfl
 |t::ts,d::ds,ρ1,ρ2,hl,h=>by
  refine Td ts ds _ _ (by rw[A6,A6];exact hl) fun j hj=>?_
  by_cases e:t=j
  ·subst e;rw[Hj,Hj,AA rfl,AA rfl,hl]
  ·rw[Cb e,Cb e];exact h j (by simp only[Aw,Dy];exact⟨fun z=>e z.symm,hj⟩)
theorem Tq:∀(ts us:Ac Ag)(ds:Ac D)(ρ ρ':Rho),(∀ t∈ts,t∈us)->EK ts ds ρ=Aa ρ'->FB us ρ'=FB us ρ
 |[],us,[],ρ,ρ',_,e=>by cases e;rfl
 |t::ts,us,d::ds,ρ,ρ',hs,e=>by
  rw[Tq ts us ds _ ρ' (fun u hu=>hs u (Ay _ hu)) e]
  refine X8 fun j=>?_
  rw[K0,K0];by_cases h:j∈us
  ·rw[AA h,AA h,Hj];split
   ·rename_i e2;subst e2;split
    ·rename_i h3;rw[Bm h3];rfl
    ·rename_i h3;rw[List.getElem?_eq_none (by omega)]
   ·rfl
  ·rw[AH h,AH h,Cb];rintro rfl;exact h (hs _ AB)
 |[],_,_::_,_,_,_,e=>by cases e
 |_::_,_,[],_,_,_,e=>by cases e
section
variable{K:Fg}{CL:ClA}{A:Am->Prop}{ρ ρ':Rho}{σ:L2.St}{H:Hp}
theorem Good.less(g:Good K CL A ρ σ H)(hl:ρ'.length=ρ.length)(h:∀(i:Ag)(d:D)(o:Ak),ρ'[i]?=Aa (Aa (d,o))->ρ[i]?=Aa (Aa (d,o))):Good K CL A ρ' σ H:=⟨fun i d e=>g.sh i d (h i d Ad e),fun i d e=>g.ow i d (h i d Ab e),hl.trans g.len⟩
theorem Good.put(g:Good K CL A ρ σ H)(t:Ag)(r:Rep K CL H A v d):Good K CL A (ρ.set t (Aa (d,Ad))) (σ.set t (Aa v)) H:=by
 refine⟨fun j e h=>?_,fun j e h=>?_,by rw[A6,A6];exact g.len⟩
 ·by_cases hj:t=j
  ·subst hj;have e1:=GI h;cases e1;have hl:t<σ.length:=by
    rw[<-g.len];have:=(AS.mp h).1;simpa using this
   exact⟨v,by rw[C2 hl],r⟩
  ·rw[Cb hj]at h;obtain⟨w',q,rw'⟩:=g.sh j e h;exact⟨w',by rw[Cb hj];exact q,rw'⟩
 ·have hj:t≠j:=by
   rintro rfl;have:=GI h;cases this
  rw[Cb hj]at h;obtain⟨a,xs,ds,q,z⟩:=g.ow j e h;exact⟨a,xs,ds,by rw[Cb hj];exact q,z⟩
theorem Good.hide(g:Good K CL A ρ σ H)(ts:Ac Ag):Good K CL A (FB ts ρ) σ H:=g.less (NB _ _) fun i d o e=>by
 rw[K0]at e;split at e
 ·cases q:ρ[i]? with
  |none=>rw[q]at e;cases e
  |some x=>rw[q]at e;cases e
 ·exact e
theorem Good.hideT(g:Good K CL A ρ σ H)(ts:Ac Ag):Good K CL A (FB ts ρ) (hideT ts σ) H:=by
 have key:∀ i x,(FB ts ρ)[i]?=Aa (Aa x)->ρ[i]?=Aa (Aa x)/\i∉ts:=fun i x e=>by
  rw[K0]at e;split at e
  ·cases q:ρ[i]? with
   |none=>rw[q]at e;cases e
   |some x=>rw[q]at e;cases e
  ·exact⟨e,by assumption⟩
 refine⟨fun i d e=>?_,fun i d e=>?_,by rw[NB,PN];exact g.len⟩
 ·obtain⟨e1,e2⟩:=key i _ e;obtain⟨v,q,r⟩:=g.sh i d e1;exact⟨v,by rw[Po _ _ e2];exact q,r⟩
 ·obtain⟨e1,e2⟩:=key i _ e;obtain⟨a,xs,ds,q,r⟩:=g.ow i d e1;exact⟨a,xs,ds,by rw[Po _ _ e2];exact q,r⟩
end
def GG(K:Fg)(CL:ClA)(ts:Ac Ag)(as:D->Rho->R Rho)(g:TG):Prop:=∀ A ρ σ H v d ρ' Q,Good K CL A (FB ts ρ) σ H->Rep K CL H A v d->as d ρ=.ok ρ'->(∀ σ',Good K CL A ρ' σ' H->Good K CL A (FB ts ρ) σ' H->Q σ' H)->g v σ H Q
theorem qE(i:Ag):GG K CL [i] (fun d ρ=>.ok (ρ.set i (Aa (d,Ad)))) (E8 i):=fun A ρ σ H v d ρ' Q g r e k=>by
 cases e;have g2:=g.put i r;have e1:(FB [i] ρ).set i (Aa (d,Ad))=ρ.set i (Aa (d,Ad)):=by
  show (ρ.set i Ae).set i (Aa (d,Ad))=_;rw[Yo]
 rw[e1]at g2;refine k _ g2 ?_;have:=g2.hide [i];have e2:FB [i] (ρ.set i (Aa (d,Ad)))=FB [i] ρ:=by
  show (ρ.set i _).set i Ae=ρ.set i Ae;rw[Yo]
 rw[e2]at this;exact this
theorem VC{K:Fg}{CL:ClA}{A:Am->Prop}{H:Hp}:∀(ts:Ac Ag)(ds:Ac D)(vs:Ac V)(ρ ρ':Rho)(σ:L2.St)(Q:L2.St->Hp->Prop),Good K CL A ρ σ H->Reps K CL H A vs ds->EK ts ds ρ=Aa ρ'->(∀ σ',Good K CL A ρ' σ' H->Q σ' H)->(ts.foldr (fun t u=>HK (E8 t) u) HQ) vs σ H Q
 |[],[],[],ρ,ρ',σ,Q,x,_,e,k=>by
  cases e;exact⟨rfl,k σ x⟩
 |t::ts,d::ds,v::vs,ρ,ρ',σ,Q,x,r,e,k=>⟨v,vs,rfl,VC ts ds vs _ ρ' _ Q (x.put t r.1) r.2 e k⟩
 |[],_::_,_,_,_,_,_,_,_,e,_=>by cases e
 |_::_,[],_,_,_,_,_,_,_,e,_=>by cases e
 |[],[],_::_,_,_,_,_,_,r,_,_=>r.elim
 |_::_,_::_,[],_,_,_,_,_,r,_,_=>r.elim
theorem uV(ts:Ac Ag):GG K CL ts (Gw ts) (LU K ts.length (ts.foldr (fun t u=>HK (E8 t) u) HQ)):=fun A ρ σ H v d ρ' Q g r e k=>by
 cases d with
 |tup ds=>
  obtain⟨a,xs,rfl,na,sq,rs⟩:=r;rw[TD]at e;cases e2:EK ts ds ρ with
  |none=>rw[e2]at e;cases e
  |some ρ2=>
   rw[e2]at e;cases e;have e3:EK ts ds (FB ts ρ)=Aa ρ':=by
    rw[<-e2];exact Td ts ds _ _ (NB _ _) fun j hj=>by rw[K0,AH hj]
   refine⟨a,xs,rfl,sq,by rw[rs.length];exact Np _ _ _ _ e2,VC ts ds xs _ ρ' σ Q g rs e3 fun σ' g'=>k σ' g' ?_⟩
   have:=g'.hide ts;rw[Tq ts ts ds ρ ρ' (fun _ h=>h) e2]at this
   exact this
 |_=>cases e
noncomputable abbrev W0:XW:=fun _ _=>AX
def STs(X:Cx)(CL:ClA)(ifs:Ac An)(f:Rho->R Ak):Prop:=∀ A,PTs X ifs (fun σ H Q=>AOk H A/\∃ ρ,Good X.K CL A ρ σ H/\Db W0 H (f ρ) Q)
theorem kU:STs X CL [] (fun _=>.ok Ab):=fun A pI s σ H Q I ⟨hA,ρ,g,p⟩=>nR pI s σ H Q I (p H (AD.refl H))
theorem kT(h:SB X CL W0 c f):STs X CL [c] f:=fun A pI s σ H Q I q=>nQ (h A) pI s σ H Q I q
section
variable{X:Cx}{CL:ClA}{W:XW}{tg iter elt:An}{ifs:Ac An}{scope:B5}{pos:AG}{N':Ac Ai}{ts:Ac Ag}{fi:Rho->R (Ac D)}{fc:Rho->R Ak}{fe:Rho->R D}{as:D->Rho->R Rho}{g:TG}
theorem dH{g:D->R Ak}{f:D->R D}{x:D}{xs ys:Ac D}(h:BD g f (x::xs)=.ok ys):(g x=.ok Ad/\BD g f xs=.ok ys)\/∃ y r,g x=.ok Ab/\f x=.ok y/\BD g f xs=.ok r/\ys=y::r:=by
 unfold BD at h;cases e:g x with
 |bad=>rw[e]at h;cases h
 |exn z=>rw[e]at h;cases h
 |ok b=>
  rw[e,R.bind_ok]at h;cases b with
  |false=>exact .inl ⟨rfl,h⟩
  |true=>
   rw[AA rfl]at h;cases e2:f x with
   |bad=>rw[e2]at h;cases h
   |exn z=>rw[e2]at h;cases h
   |ok y=>
    rw[e2,R.bind_ok]at h;cases e3:BD g f xs with
    |bad=>rw[e3]at h;cases h
    |exn z=>rw[e3]at h;cases h
    |ok r=>
     rw[e3,R.bind_ok]at h;cases h;exact .inr ⟨y,r,rfl,rfl,rfl,rfl⟩
theorem J6{β:Type}{r:R α}{f:α->R β}{b:β}(h:r.bind f=.ok b):∃ a,r=.ok a/\f a=.ok b:=by
 cases r with
 |ok a=>exact⟨a,rfl,h⟩
 |exn x=>cases h
 |bad=>cases h
theorem fO{ds ys:Ac D}(hGG:GG K CL ts as g)(hA:AOk H1 A)(gd:Good K CL A ρ σ H1)(yl:IW K CL A ds J H1)(hz:ds.length<=sizeLine)(hcp:BD (fun x=>(as x ρ).bind fc) (fun x=>(as x ρ).bind fe) ds=.ok ys)(q:∀ xs H2,AD H1 H2->Reps K CL H2 A xs ys->∀ p,H2 p=Ae->Q (.ref p) (upd H2 p (.lst xs))):Mu J ts g (fun σ H Q=>AOk H A/\∃ ρ,Good K CL A ρ σ H/\Db W0 H (fc ρ) Q) (fun σ H Q=>AOk H A/\∃ ρ,Good K CL A ρ σ H/\A9 (fun H=>Rep K CL H A) W0 H (fe ρ) Q) σ H1 Q:=by
 refine⟨fun i m xs σ' H'=>m=ds.length-i/\i<=ds.length/\xs.length<=i/\AD H1 H'/\Good K CL A (FB ts ρ) σ' H'/\∃ outs rest,Reps K CL H' A xs outs/\BD (fun x=>(as x ρ).bind fc) (fun x=>(as x ρ).bind fe) (ds.drop i)=.ok rest/\ys=outs++rest,
  ⟨ds.length,by simp,FU _,AW _,AD.refl _,gd.hideT ts,[],ys,trivial,hcp,rfl⟩,?_⟩
 rintro i m xs σ' H' ⟨rfl,hi,hxl,sm,g',outs,rest,rs,hc,e⟩;obtain⟨yst,ygo⟩:=yl H' (Kp.of sm) i;by_cases hlt:i<ds.length
 ·have hd:ds[i]?=Aa ds[i]:=Bm hlt;obtain⟨hgo,hyl⟩:=ygo _ hd;refine .inr ⟨hgo,by omega,fun x H2 hx=>?_⟩
  obtain⟨s2,rx⟩:=hyl x H2 hx;have rx':=rx A (fun a ha=>.inl ha) (hA.same sm)
  rw[Fd hlt]at hc;have sm2:=sm.trans s2;rcases dH hc with ⟨h1,h2⟩|⟨y,r,h1,h2,h3,h4⟩
  ·obtain⟨ρ',ea,ec⟩:=J6 h1;refine hGG A ρ σ' H2 x ds[i] ρ' _ (g'.same s2) rx' ea fun σ3 g3 g4=>⟨hA.same sm2,ρ',g3,?_⟩
   rw[ec];exact fun H3 s3=>by
    dsimp only;rw[AH (by decide)]
    exact⟨ds.length-(i+1),by omega,rfl,hlt,by omega,sm2.trans s3,g4.same s3,outs,rest,(rs.same s2).same s3,h2,e⟩
  ·obtain⟨ρ',ea,ec⟩:=J6 h1;obtain⟨ρ2,ea2,ee⟩:=J6 h2;rw[ea]at ea2;cases ea2;refine hGG A ρ σ' H2 x ds[i] ρ' _ (g'.same s2) rx' ea fun σ3 g3 g4=>⟨hA.same sm2,ρ',g3,?_⟩
   rw[ec];exact fun H3 s3=>by
    dsimp only;rw[AA rfl];refine⟨(hA.same sm2).same s3,ρ',g3.same s3,?_⟩;rw[ee];exact fun v H4 s4 r4=>⟨ds.length-(i+1),by omega,rfl,hlt,by rw[CK,Yk];omega,(sm2.trans s3).trans s4,(g4.same s3).same s4,outs++[y],r,(((rs.same s2).same s3).same s4).append ⟨r4,trivial⟩,h3,by rw[e,h4];simp⟩
 ·have hk':ds.length<=i:=by omega
  rw[X7 hk']at hc;have hr:rest=[]:=by cases hc;rfl
  subst hr;rw[Ck]at e;subst e;exact .inl ⟨yst hk',fun p hp=>q xs H' sm rs p hp⟩
theorem EN.ok_of{r:R (Ac D)}{f:Ac D->R D}{Q':It->Hp->Prop}(h:A9 Rq W H (r.bind f) Q)(k:∀ ds J H',r=.ok ds->AD H H'->IW K CL A ds J H'->ds.length<=sizeLine->A9 Rq W H' (f ds) Q->Q' J H'):EN K CL A W H r Q':=by
 cases r with
 |ok d=>exact fun J H2 s2 y z=>k d J H2 rfl s2 y z (A9.same s2 h)
 |exn x=>exact h
 |bad=>exact h
theorem vH{r:R α}{a:α}(h:noX r=.ok a):r=.ok a:=by
 cases r with
 |ok b=>exact h
 |exn x=>cases h
 |bad=>cases h
theorem TK(hGG:GG X.K CL ts as g)(hA:AOk H A)(gd:Good X.K CL A ρ σ H)(p:A9 (Dr X.K CL Ab H A) W H ((fi ρ).bind fun xs=>(noX (BD (fun x=>(as x ρ).bind fc) (fun x=>(as x ρ).bind fe) xs)).bind fun ys=>.ok (.lst ys)) Q):EN X.K CL A W H (fi ρ) (fun J H1=>Mu J ts g (fun σ H Q=>AOk H A/\∃ ρ,Good X.K CL A ρ σ H/\Db W0 H (fc ρ) Q) (fun σ H Q=>AOk H A/\∃ ρ,Good X.K CL A ρ σ H/\A9 (fun H=>Rep X.K CL H A) W0 H (fe ρ) Q) σ H1 Q):=
 EN.ok_of p fun ds J H1 e1 s1 yl hz p1=>by
  cases e2:noX (BD (fun x=>(as x ρ).bind fc) (fun x=>(as x ρ).bind fe) ds) with
  |ok ys=>
   rw[e2]at p1;exact fO hGG (hA.same s1) (gd.same s1) yl hz (vH e2) fun xs H2 s2 rs q hq=>p1 _ _ (s2.trans (FN hq _)) (Ka (s1.trans s2) ((hA.same s1).same s2) hq rs)
  |exn x=>rw[e2]at p1;cases hq:BD (fun x=>(as x ρ).bind fc) (fun x=>(as x ρ).bind fe) ds<;>rw[hq]at e2<;>cases e2
  |bad=>rw[e2]at p1;exact p1.elim
theorem lM(hc:X.calm=Ab)(B:BlockOk X scope N' ts)(hi:SI X CL W tg iter fi)(hGG:GG X.K CL ts as g)(hg:∀ cl C s H fp,PG (cxC X scope cl C N' s H fp) tg g)(ht:∀ cl C s H fp,STs (cxC X scope cl C N' s H fp) CL ifs fc)(he:∀ cl C s H fp,SE (cxC X scope cl C N' s H fp) CL W0 elt fe)(hs:∀ x,CU iter X.env x=pure x):SC X CL W Ab (.ListComp elt [⟨tg,iter,ifs,0⟩] scope pos) (fun ρ=>(fi ρ).bind fun xs=>(noX (BD (fun x=>(as x ρ).bind fc) (fun x=>(as x ρ).bind fe) xs)).bind fun ys=>.ok (.lst ys)):=fun A pI s σ H Q I ⟨hA,ρ,gd,p⟩=>
 oF hc B (hi A) hg (fun cl C s H fp=>ht cl C s H fp A) (fun cl C s H fp=>he cl C s H fp A) hs pI s σ H Q I ⟨hA,ρ,gd,TK hGG hA gd p⟩
end
section
variable{K:Fg}{CL:ClA}{Fz:Am->HO->Prop}{B:Am->Prop}{ρ:Rho}{σ:L2.St}{H H':Hp}
theorem Sx.setF(x:Sx K CL Fz B ρ σ H)(s:AD H H'){ds:Ac D}(h0:H a=Ae)(h1:H' a=Aa (.lst xs))(r:Reps K CL H' (fun b=>BG B ρ σ b\/b=a) xs ds):Sx K CL Fz B (ρ.set i (Aa (.lst ds,Ab))) (σ.set i (Aa (.ref a))) H':=by
 have nA:¬ BG B ρ σ a:=x.aok.new h0;have own:∀(j:Ag)(e:D),(ρ.set i (Aa (.lst ds,Ab)))[j]?=Aa (Aa (e,Ab))->(i=j/\e=.lst ds)\/(i≠j/\ρ[j]?=Aa (Aa (e,Ab))):=fun j e h=>by
  by_cases hj:i=j
  ·subst hj;have:=GI h;cases this;exact .inl ⟨rfl,rfl⟩
  ·exact .inr ⟨hj,by rw[Cb hj]at h;exact h⟩
 have atI:∀{j:Ag}{y:Sl},(ρ.set i (Aa (.lst ds,Ab)))[j]?=Aa y->i=j->(σ.set i (Aa (.ref a)))[j]?=Aa (Aa (.ref a)):=fun {j y} h e=>by
  subst e;have hl:i<σ.length:=by
   rw[<-x.len];have:=(AS.mp h).1;simpa using this
  rw[C2 hl]
 have sub:∀ b,BG B (ρ.set i (Aa (.lst ds,Ab))) (σ.set i (Aa (.ref a))) b->BG B ρ σ b\/b=a:=fun b h=>by
  rcases h with h|⟨j,e,h1,h2⟩
  ·exact .inl (.inl h)
  ·rcases own j e h1 with ⟨hj,_⟩|⟨hj,h1'⟩
   ·rw[atI h1 hj]at h2;cases h2;exact .inr rfl
   ·rw[Cb hj]at h2;exact .inl (.inr ⟨j,e,h1',h2⟩)
 have wide:∀{v:V}{d:D},Rep K CL H (BG B ρ σ) v d->Rep K CL H' (BG B (ρ.set i (Aa (.lst ds,Ab))) (σ.set i (Aa (.ref a)))) v d:=fun r=>(Rep.wide (fun b hb=>(sub b hb).imp id fun e=>by rw[e];exact h0) _ r).same s
 have wides:∀{v:Ac V}{d:Ac D},Reps K CL H (BG B ρ σ) v d->Reps K CL H' (BG B (ρ.set i (Aa (.lst ds,Ab))) (σ.set i (Aa (.ref a)))) v d:=fun r=>(Reps.wide (fun b hb=>(sub b hb).imp id fun e=>by rw[e];exact h0) _ r).same s
 refine⟨⟨fun j e h=>?_,fun j e h=>?_,by rw[A6,A6];exact x.len⟩,fun b h=>?_,fun j e b g1 g2=>?_,fun j k e f b g1 g2 g3 g4=>?_,fun b o z=>s _ _ (x.same b o z),by rw[A6,A6];exact x.len⟩
 ·have hj:i≠j:=by
   rintro rfl;have:=GI h;cases this
  rw[Cb hj]at h;obtain⟨w',q,rw'⟩:=x.good.sh j e h;exact⟨w',by rw[Cb hj];exact q,wide rw'⟩
 ·rcases own j e h with ⟨hj,rfl⟩|⟨hj,h'⟩
  ·have q:=atI h hj;exact⟨a,xs,ds,q,rfl,.inr ⟨j,_,h,q⟩,h1,Reps.sub sub _ r⟩
  ·obtain⟨b,ys,es,q,z,ha,hh,rr⟩:=x.good.ow j e h';have q':(σ.set i (Aa (.ref a)))[j]?=Aa (Aa (.ref b)):=by rw[Cb hj];exact q
   exact⟨b,ys,es,q',z,.inr ⟨j,e,h,q'⟩,s _ _ hh,wides rr⟩
 ·rcases sub b h with z|z
  ·obtain⟨ys,q⟩:=x.aok b z;exact⟨ys,s _ _ q⟩
  ·rw[z];exact⟨xs,h1⟩
 ·rcases own j e g1 with ⟨hj,_⟩|⟨hj,h'⟩
  ·rw[atI g1 hj]at g2;cases g2;refine⟨fun o z=>?_,fun z=>nA (.inl z)⟩
   have:=x.same a o z;rw[h0]at this;cases this
  ·rw[Cb hj]at g2;exact x.new j e b h' g2
 ·rcases own j e g1 with ⟨hj,_⟩|⟨hj,h'⟩
  ·rw[atI g1 hj]at g3;cases g3;rcases own k f g2 with ⟨hk,_⟩|⟨hk,h''⟩
   ·exact hj.symm.trans hk
   ·rw[Cb hk]at g4;exact absurd (.inr ⟨k,f,h'',g4⟩) nA
  ·rw[Cb hj]at g3;rcases own k f g2 with ⟨hk,_⟩|⟨hk,h''⟩
   ·rw[atI g2 hk]at g4;cases g4;exact absurd (.inr ⟨j,e,h',g3⟩) nA
   ·rw[Cb hk]at g4;exact x.dis j k e f b h' h'' g3 g4
theorem Sx.upd(x:Sx K CL Fz B ρ σ H){i:Ag}{d:D}{a:Am}{xs:Ac V}{ds:Ac D}(hi:ρ[i]?=Aa (Aa (d,Ab)))(ha:σ[i]?=Aa (Aa (.ref a)))(r:Reps K CL H (BG B ρ σ) xs ds):Sx K CL Fz B (ρ.set i (Aa (.lst ds,Ab))) σ (L2.upd H a (.lst xs)):=by
 have oa:BG B ρ σ a:=.inr ⟨i,d,hi,ha⟩;have hil:i<ρ.length:=(AS.mp hi).1;have get:∀(j:Ag)(e:D),(ρ.set i (Aa (.lst ds,Ab)))[j]?=Aa (Aa (e,Ab))↔(i=j/\e=.lst ds)\/(i≠j/\ρ[j]?=Aa (Aa (e,Ab))):=fun j e=>by
  by_cases hj:i=j
  ·subst hj;rw[C2 hil];simp;exact⟨fun z=>z.symm,fun z=>z.symm⟩
  ·rw[Cb hj];simp[hj]
 have same:∀ b,BG B (ρ.set i (Aa (.lst ds,Ab))) σ b↔BG B ρ σ b:=fun b=>by
  constructor
  ·rintro (h|⟨j,e,h1,h2⟩)
   ·exact .inl h
   ·rcases (get j e).mp h1 with ⟨rfl,_⟩|⟨_,h1⟩
    ·exact .inr ⟨i,d,hi,h2⟩
    ·exact .inr ⟨j,e,h1,h2⟩
  ·rintro (h|⟨j,e,h1,h2⟩)
   ·exact .inl h
   ·by_cases hj:i=j
    ·subst hj;exact .inr ⟨i,.lst ds,(get i _).mpr (.inl ⟨rfl,rfl⟩),h2⟩
    ·exact .inr ⟨j,e,(get j e).mpr (.inr ⟨hj,h1⟩),h2⟩
 have kp:Kp (BG B ρ σ) H (L2.upd H a (.lst xs)):=fun b o e na=>by
  have hne:b≠a:=by
   rintro rfl;exact na oa
  rw[Bu hne];exact e
 refine⟨⟨fun j e h=>?_,fun j e h=>?_,by rw[A6];exact x.len⟩,fun b h=>?_,fun j e b g1 g2=>?_,fun j k e f b g1 g2 g3 g4=>?_,fun b o z=>?_,by rw[A6];exact x.len⟩
 ·have hj:i≠j:=by
   rintro rfl;have:=GI h;cases this
  rw[Cb hj]at h;obtain⟨w',q,rw'⟩:=x.good.sh j e h;exact⟨w',q,Rep.sub (fun b hb=>(same b).mp hb) _ (Rep.kp kp _ rw')⟩
 ·rcases (get j e).mp h with ⟨rfl,rfl⟩|⟨hj,h'⟩
  ·exact⟨a,xs,ds,ha,rfl,(same a).mpr oa,ED,Reps.sub (fun b hb=>(same b).mp hb) _ (Reps.kp kp _ r)⟩
  ·obtain⟨b,ys,es,q,z,hb,hh,rr⟩:=x.good.ow j e h';have hne:b≠a:=fun z=>hj (x.dis i j d e a hi h' ha (z ▸ q))
   exact⟨b,ys,es,q,z,(same b).mpr hb,by rw[Bu hne];exact hh,Reps.sub (fun b hb=>(same b).mp hb) _ (Reps.kp kp _ rr)⟩
 ·obtain⟨ys,q⟩:=x.aok b ((same b).mp h);by_cases e:b=a
  ·rw[e];exact⟨xs,ED⟩
  ·exact⟨ys,by rw[Bu e];exact q⟩
 ·rcases (get j e).mp g1 with ⟨rfl,_⟩|⟨_,h'⟩
  ·exact x.new i d b hi g2
  ·exact x.new j e b h' g2
 ·rcases (get j e).mp g1 with ⟨rfl,_⟩|⟨hj,h'⟩
  ·rcases (get k f).mp g2 with ⟨rfl,_⟩|⟨hk,h''⟩
   ·rfl
   ·exact x.dis i k d f b hi h'' g3 g4
  ·rcases (get k f).mp g2 with ⟨rfl,_⟩|⟨hk,h''⟩
   ·exact x.dis j i e d b h' hi g3 g4
   ·exact x.dis j k e f b h' h'' g3 g4
 ·have hne:b≠a:=fun e=>(x.new i d a hi ha).1 o (e ▸ z)
  rw[Bu hne];exact x.same b o z
theorem Sx.rel(x:Sx K CL Fz B ρ σ H)(hi:ρ[i]?=Aa (Aa (d,Ab))):Sx K CL Fz B (ρ.set i (Aa (d,Ad))) σ H:=by
 obtain⟨a,xs,ds,q,rfl,oa,hh,rr⟩:=x.good.ow i d hi;have own:∀(j:Ag)(e:D),(ρ.set i (Aa (.lst ds,Ad)))[j]?=Aa (Aa (e,Ab))->i≠j/\ρ[j]?=Aa (Aa (e,Ab)):=fun j e h=>by
  by_cases hj:i=j
  ·subst hj;have:=GI h;cases this
  ·exact⟨hj,by rw[Cb hj]at h;exact h⟩
 have sub:∀ b,BG B (ρ.set i (Aa (.lst ds,Ad))) σ b->BG B ρ σ b:=fun b h=>by
  rcases h with h|⟨j,e,h1,h2⟩
  ·exact .inl h
  ·exact .inr ⟨j,e,(own j e h1).2,h2⟩
 have na:¬ BG B (ρ.set i (Aa (.lst ds,Ad))) σ a:=fun h=>by
  rcases h with h|⟨j,e,h1,h2⟩
  ·exact(x.new i _ a hi q).2 h
  ·obtain⟨hj,h1⟩:=own j e h1;exact hj (x.dis i j _ e a hi h1 q h2)
 refine⟨⟨fun j e h=>?_,fun j e h=>?_,by rw[A6];exact x.len⟩,fun b h=>x.aok b (sub b h),fun j e b g1 g2=>x.new j e b (own j e g1).2 g2,fun j k e f b g1 g2 g3 g4=>x.dis j k e f b (own j e g1).2 (own k f g2).2 g3 g4,x.same,by rw[A6];exact x.len⟩
 ·by_cases hj:i=j
  ·subst hj;have e1:=GI h;cases e1;exact⟨_,q,a,xs,rfl,.inl na,SqL.of hh,Reps.sub sub _ rr⟩
  ·rw[Cb hj]at h;obtain⟨w',q',rw'⟩:=x.good.sh j e h;exact⟨w',q',Rep.sub sub _ rw'⟩
 ·obtain⟨hj,h'⟩:=own j e h;obtain⟨b,ys,es,q',z,hb,hh',rr'⟩:=x.good.ow j e h';exact⟨b,ys,es,q',z,.inr ⟨j,e,h,q'⟩,hh',Reps.sub sub _ rr'⟩
end
section
variable{X:Cx}{CL:ClA}{W:XW}{pos:AG}{e:An}{fe:Rho->R D}{fr:Ak}
theorem BP.exC{f:D->O}(x:Sx X.K CL Fz B ρ σ H)(h:BP X.K CL Fz B W (O.of ρ r f) D')(k:∀ d v H',r=.ok d->AD H H'->Dr X.K CL fr H A H' v d->Sx X.K CL Fz B ρ σ H'->BP X.K CL Fz B W (f d) D'->Q v H'):A9 (Dr X.K CL fr H A) W H r Q:=by
 cases r with
 |ok d=>exact fun v H' s r=>k d v H' rfl s r (x.grow s) h
 |exn y=>exact fun H' s=>h H' fun b o z=>s _ _ (x.same b o z)
 |bad=>exact h
def SAs(X:Cx)(CL:ClA)(W:XW)(fr:Ak)(i:Ag)(st:AQ)(f:Rho->R D):Prop:=∀ A,PS X st (OE (fun σ H Q=>AOk H A/\∃ ρ,Good X.K CL A ρ σ H/\A9 (Dr X.K CL fr H A) W H (f ρ) Q) (E8 i))
theorem SC.sas{n:Ai}(hN:X.N.Nodup)(hi:X.N[i]?=Aa n)(hx:Loc X.env.scope n)(he:SC X CL W fr e fe)(hs:CW e (Aa (.Name n pos')) pos.line X.env=pure Ad)(hf:X.fn n=Ab\/X.env.scope.names.lookup n=Aa .local):SAs X CL W fr i (.Assign [.Name n pos'] e pos) fe:=
 fun A=>NX hN hi hx (he A) hs hf
theorem hV{n:Ai}{fe:Rho->R D}{g:TG}(hc:X.calm=Ab)(B:BlockOk X scope N' ts)(hi:SI X CL W tg iter fi)(hGG:GG X.K CL ts as g)(hg:∀ cl C s H fp,PG (cxC X scope cl C N' s H fp) tg g)(ht:∀ cl C s H fp,STs (cxC X scope cl C N' s H fp) CL ifs fc)(he:∀ cl C s H fp,SE (cxC X scope cl C N' s H fp) CL W0 elt fe)(hs:∀ x,CU iter X.env x=pure x)(hN:X.N.Nodup)(hni:X.N[i]?=Aa n)(hx:X.env.scope.names.lookup n=Aa .local)(hsw:CW (.ListComp elt [⟨tg,iter,ifs,0⟩] scope pos) (Aa (.Name n pos')) pos2.line X.env=pure Ab):SAs X CL W Ab i (.Assign [.Name n pos'] (.ListComp elt [⟨tg,iter,ifs,0⟩] scope pos) pos2) (fun ρ=>(fi ρ).bind fun xs=>(noX (BD (fun x=>(as x ρ).bind fc) (fun x=>(as x ρ).bind fe) xs)).bind fun ys=>.ok (.lst ys)):=fun A pI s σ H Dn I ⟨hA,ρ,gd,p⟩=>
 nX hc B (hi A) hg (fun cl C s H fp=>ht cl C s H fp A) (fun cl C s H fp=>he cl C s H fp A) hs hN hni hx hsw pI s σ H Dn I ⟨hA,ρ,gd,TK hGG hA gd p⟩
theorem WJ{st:AQ}(h:SAs X CL W fr i st fe):SS X CL W st (fun ρ=>O.of ρ (fe ρ) fun d=>.next (ρ.set i (Aa (d,Ad)))):=fun Fz B pI s σ H D I ⟨ρ,x,p⟩=>
 h (BG B ρ σ) pI s σ H D I ⟨x.aok,ρ,x.good,BP.exC x p fun d v H' _ s r x' q=>q _ H' (x'.set i r.1)⟩
theorem Vw{st:AQ}(h:SAs X CL W Ab i st fe):SS X CL W st (fun ρ=>O.of ρ (fe ρ) fun d=>setF ρ i d):=fun Fz B pI s σ H D I ⟨ρ,x,p⟩=>
 h (BG B ρ σ) pI s σ H D I ⟨x.aok,ρ,x.good,BP.exC x p fun d v H' _ s r x' q=>by
  cases d with
  |lst ds=>
   obtain⟨a,xs,rfl,h0,h1,rs⟩:=r.2 rfl ds rfl;exact q _ H' (x.setF s h0 h1 rs)
  |dic ds=>exact r.1.elim
  | _=>exact q.elim⟩
theorem kZ(he:SC X CL W Ab e fe):SS X CL W (.Return (Aa e) pos) (fun ρ=>O.of ρ (fe ρ) fun d=>.ret d Ab):=fun Fz B pI s σ H D I ⟨ρ,x,p⟩=>
 QS (he (BG B ρ σ)) pI s σ H D I ⟨x.aok,ρ,x.good,BP.exC x p fun d v H' _ s r x' q=>q v H' x'.same (Rep.sub (fun a h=>.inl h) _ r.1) fun _ ds e=>by
  obtain⟨a,xs,h0,h1,h2,h3⟩:=r.2 rfl ds e;refine⟨a,xs,h0,fun o z=>?_,h2,Reps.sub (fun b hb=>hb.imp .inl id) _ h3⟩
  have:=x.same a o z;rw[h1]at this;cases this⟩
noncomputable def RW(ρ:Rho)(i:Ag):Ak:=match ρ[i]? with
  |some (Aa (_,o))=>o
  |_=>Ad
theorem Vu(he:PE X e (En i)):SS X CL W (.Return (Aa e) pos) (fun ρ=>O.of ρ (Dc ρ i) fun d=>.ret d (RW ρ i)):=fun Fz B pI s σ H D I ⟨ρ,x,p⟩=>
 QS he pI s σ H D I (by
  dsimp only at p;cases e:Dc ρ i with
  |bad=>rw[e]at p;exact p.elim
  |exn z=>exact(UK e).elim
  |ok d=>
   rw[e]at p;obtain⟨o,e⟩:=Vk e;have eo:RW ρ i=o:=by unfold RW;rw[e]
   rw[O.of_ok,eo]at p;cases o with
   |false=>
    obtain⟨v,q,r⟩:=x.good.sh i d e;exact⟨v,q,p v H x.same (Rep.sub (fun a h=>.inl h) _ r) fun z=>nomatch z⟩
   |true=>
    obtain⟨a,xs,ds,q,rfl,ha,hh,r⟩:=x.good.ow i d e;obtain⟨n1,n2⟩:=x.new i _ a e q;refine⟨_,q,p _ H x.same ⟨a,xs,rfl,.inl n2,SqL.of hh,Reps.sub (fun a h=>.inl h) _ r⟩ fun _ ds' e'=>?_⟩
    cases e';exact⟨a,xs,rfl,n1,hh,Reps.sub (fun b hb=>hb.elim .inl fun z=>z ▸ ha) _ r⟩)
theorem Ll{ds:Ac D}(h:Cr ρ i=.ok ds):ρ[i]?=Aa (Aa (.lst ds,Ab)):=by
 unfold Cr at h;split at h
 ·rename_i e;cases h;exact e
 ·cases h
theorem K5(h:Cr ρ i=.exn x):AX:=by
 unfold Cr at h;split at h<;>cases h
variable{o:An}{i:Ag}{apos cpos:AG}
theorem WK(ho:PE X o (En i))(he:SE X CL W e fe)(hbase:Eg o "append" X.env (eval o X.env)=eval o X.env)(hfew:((BN cpos (Av [e] X.env)).all (fun x=>!x.1)&&(JT cpos (H9 [] X.env)).all (fun x=>x.1.isSome)&&decide ([e].length+([]:Ac Ez).length+(if ([]:Ac Ez).isEmpty then 0 else 1)<30))=Ab)(hline:(apos.endLine==cpos.line)=Ab)(hs:Av [e] X.env=[(Ad,eval e X.env)])(hsw:CW (.Call (.Attribute o "append" apos) [e] [] cpos) Ae pos.line X.env=pure Ad):
  SS X CL W (.Expr (.Call (.Attribute o "append" apos) [e] [] cpos) pos) (fun ρ=>O.of ρ (Cr ρ i) fun xs=>O.of ρ (fe ρ) fun d=>if Dq (xs.length+1)=Ab then .next (ρ.set i (Aa (.lst (xs++[d]),Ab))) else .bad):=fun Fz B pI s σ H D I ⟨ρ,x,p⟩=>by
 refine J7 (Od Ea Zl Zo TY ho (DC (he (BG B ρ σ)) E7 hs) hbase hfew hline hs rfl) hsw pI s σ H D I ?_;dsimp only at p;cases e1:Cr ρ i with
 |bad=>rw[e1]at p;exact p.elim
 |exn z=>exact(K5 e1).elim
 |ok ds=>
  rw[e1,O.of_ok]at p;have hi:=Ll e1;obtain⟨a,xs,ds',q,e2,ha,hh,r⟩:=x.good.ow i _ hi;cases e2;refine⟨_,q,.inl ⟨rfl,xs,SqL.of hh⟩,x.aok,ρ,x.good,BP.ex x p fun d v H' _ s rv x' q'=>?_⟩
  split at q'
  ·rename_i hz;refine⟨a,xs,v,rfl,rfl,s _ _ hh,?_,q' _ _ (x'.upd hi q ((r.same s).append ⟨rv,trivial⟩))⟩;have:=Ib hz;rw[r.length];omega
  ·exact q'.elim
theorem qV{k:An}{fk:Rho->R Ov.D}{spos:AG}(ho:PE X o (En i))(hk:ST X CL W k fk)(he:SE X CL W e fe)(ha:∀ v,assign (.Subscript o k spos) X.env v=(do
      let ov <-holding [v] (eval o X.env)
      let iv <-holding [v,ov] (eval k X.env)
      Hq spos
      holding [v,ov,iv] (JM ov iv v)
      release [v,ov,iv] []))(hs:F0 [.Subscript o k spos] e pos.line X.env=pure Ad)(hw:DL [.Subscript o k spos] e X.env=pure Ae)(h1:(Ca [.Subscript o k spos] X.env).map (·.2)=[assign (.Subscript o k spos) X.env]):
    SS X CL W (.Assign [.Subscript o k spos] e pos) (fun ρ=>O.of ρ (fe ρ) fun d=>O.of ρ (Cr ρ i) fun xs=>O.of ρ ((fk ρ).bind DT) fun j=>match plD xs.length j with
      |some n=>.next (ρ.set i (Aa (.lst (xs.set n d),Ab)))
      | none=>.bad):=fun Fz B pI s σ H D I ⟨ρ,x,p⟩=>
  QT (he (BG B ρ σ)) (QV ho (hk (BG B ρ σ)) Qd ha) hs hw h1 pI s σ H D I ⟨x.aok,ρ,x.good,BP.ex x p fun d v H' _ s rv x' q'=>by
    cases e1:Cr ρ i with
    |bad=>rw[e1]at q';exact q'.elim
    |exn z=>exact(K5 e1).elim
    |ok ds=>
      rw[e1,O.of_ok]at q';have hi:=Ll e1;obtain⟨a,xs,ds',q,e2,ha,hh,r⟩:=x'.good.ow i _ hi;cases e2;refine⟨_,q,x'.aok,ρ,x'.good,?_⟩;cases e3:fk ρ with
      |bad=>rw[e3]at q';exact q'.elim
      |exn z=>rw[e3]at q';exact fun H2 s2=>q' H2 fun b o z=>s2 _ _ (x'.same b o z)
      |ok dk=>
        rw[e3]at q';intro y H2 s2 ry;cases dk with
        |int j=>
          have ey:=ry.int_of;subst ey;rw[R.bind_ok,Mm,O.of_ok]at q';cases e4:plD ds.length j with
          |none=>rw[e4]at q';exact q'.elim
          |some n=>
            rw[e4]at q';refine⟨a,xs,j,n,rfl,rfl,s2 _ _ hh,?_,q' _ _ ((x'.grow s2).upd hi q (Reps.set (rv.same s2) n (r.same s2)))⟩;rw[r.length];exact e4
        | _=>exact q'.elim⟩
theorem lB{as:Ov.D->Rho->R Rho}{g:TG}(hGT:GT X.K CL as g)(hg:PG X tg g)(he:SE X CL W e fe)(hs:F0 [tg] e pos.line X.env=pure Ad)(hw:DL [tg] e X.env=pure Ae)(h1:(Ca [tg] X.env).map (·.2)=[assign tg X.env])(hax:∀ d ρ x,as d ρ≠.exn x):SS X CL W (.Assign [tg] e pos) (fun ρ=>O.of ρ (fe ρ) fun d=>O.of ρ (as d ρ) fun ρ'=>.next ρ'):=fun Fz B pI s σ H D I ⟨ρ,x,p⟩=>
 QT (he (BG B ρ σ)) hg hs hw h1 pI s σ H D I ⟨x.aok,ρ,x.good,BP.ex x p fun d v H' _ s rv x' q'=>by
  cases ea:as d ρ with
  |bad=>rw[ea]at q';exact q'.elim
  |exn z=>exact absurd ea (hax _ _ z)
  |ok ρ2=>
   rw[ea,O.of_ok]at q';exact hGT Fz B ρ σ H' v d ρ2 _ x' rv ea fun σ' x3=>q' σ' H' x3⟩
theorem kY{rest:Ac AQ}{f:Rho->O}(i:Ag)(h:SSs X CL W rest f):SSs X CL W rest (fun ρ=>(match ρ[i]? with
   |some (Aa (d,Ab))=>O.next (ρ.set i (Aa (d,Ad)))
   | _=>O.next ρ).seq f):=fun Fz B=>PSs.weak (h Fz B) fun D σ H ⟨ρ,x,p⟩=>by
 dsimp only at p;split at p
 ·rename_i d e;exact⟨_,x.rel e,p⟩
 ·exact⟨ρ,x,p⟩
end
section
variable{X:Cx}{CL:ClA}{W:XW}{pos:AG}{e k o:An}{fe fk:Rho->R D}{i:Ag}{apos cpos:AG}
def cP:V->Ac V->Hp->VK->Prop:=fun x vs H Q=>∃ l xs j y,x=.ref l/\vs=[.int j,y]/\H l=Aa (.lst xs)/\xs.length+1<=sizeLine/\0<=j/\j.toNat<=xs.length/\Q .non (upd H l (.lst (xs.take j.toNat++y::xs.drop j.toNat)))
theorem A7.take{its:Ac Al}(r:A7 xs its):∀ n,A7 (xs.take n) (its.take n):=by
 induction r with
 |nil=>intro n;simp;exact .nil
 |cons h _ ih=>
  intro n;cases n with
  |zero=>exact .nil
  |succ n=>exact .cons h (ih n)
theorem A7.drop{its:Ac Al}(r:A7 xs its):∀ n,A7 (xs.drop n) (its.drop n):=by
 induction r with
 |nil=>intro n;simp;exact .nil
 |cons h t ih=>
  intro n;cases n with
  |zero=>exact .cons h t
  |succ n=>exact ih n
theorem vO:MtM X "list.insert" cP:=by
 intro pI s σ H x vs v us Q I rx rv h;obtain⟨l,xs,j,y,rfl,rfl,hH,hz,j0,j1,q⟩:=h;cases rx;cases rv with
 |cons rj rv=>
  obtain⟨t,rfl⟩:=rj;obtain⟨u,rfl,ru⟩:=A7.one rv;obtain⟨z,its,n,r,hl,e⟩:=I.lstM hH;have ln:=r.length;have hn:=Km;have fit:¬ (!Builtin.List.listFitsIndex j)=Ab:=by
   unfold Builtin.List.listFitsIndex;simp;constructor<;>omega
  refine KI F.slot_list_insert ⟨_,e,rfl⟩ F.entry_list_insert (F.args_list_insert_3 _ _ _) (PySem.AutoListH.list_insert_list_int_val_1 l its.toArray n j t u fit (by rw[AC];omega)) ⟨e,?_⟩
  refine⟨.non,_,I.lset (its':=its.take j.toNat++u::its.drop j.toNat) hH e ?_ ((r.take _).append (.cons ru (r.drop _))) ?_,rfl,q⟩
  ·have hk:(if j<0 then (j+((its.toArray.size:Ag):Af)).toNat else min j.toNat its.toArray.size)=j.toNat:=by
    rw[AH (by omega),AC,Nat.min_eq_left (by omega)]
   show (its.toArray.extract 0 _).push u++its.toArray.extract _=_;rw[hk]
   apply Array.ext'
   simp;exact Yp (by rw[F2];exact AW _)
  ·simp only[CK,F3,Bk,F2];omega
theorem qW(ho:PE X o (En i))(hk:ST X CL W k fk)(he:SE X CL W e fe)(hbase:Eg o "insert" X.env (eval o X.env)=eval o X.env)(hfew:((BN cpos (Av [k,e] X.env)).all (fun x=>!x.1)&&(JT cpos (H9 [] X.env)).all (fun x=>x.1.isSome)&&decide ([k,e].length+([]:Ac Ez).length+(if ([]:Ac Ez).isEmpty then 0 else 1)<30))=Ab)(hline:(apos.endLine==cpos.line)=Ab)(hs:Av [k,e] X.env=(Ad,eval k X.env)::Av [e] X.env)(hs2:Av [e] X.env=[(Ad,eval e X.env)])(hpl:(BN cpos (Av [e] X.env)).any (·.1)=Ad)(hsw:CW (.Call (.Attribute o "insert" apos) [k,e] [] cpos) Ae pos.line X.env=pure Ad):
  SS X CL W (.Expr (.Call (.Attribute o "insert" apos) [k,e] [] cpos) pos) (fun ρ=>O.of ρ (Cr ρ i) fun xs=>O.of ρ ((fk ρ).bind DT) fun j=>O.of ρ (fe ρ) fun d=>if (Dq (xs.length+1)&&decide (0<=j)&&decide (j<=xs.length))=Ab then .next (ρ.set i (Aa (.lst (xs.take j.toNat++d::xs.drop j.toNat),Ab))) else .bad):=fun Fz B pI s σ H D I ⟨ρ,x,p⟩=>by
 refine J7 (Od Ea PySem.F.slot_list_insert PySem.F.type_list_insert vO ho (DC (hk (BG B ρ σ)) (DC (he (BG B ρ σ)) E7 hs2) hs) hbase hfew hline hs hpl) hsw pI s σ H D I ?_;dsimp only at p;cases e1:Cr ρ i with
 |bad=>rw[e1]at p;exact p.elim
 |exn z=>exact(K5 e1).elim
 |ok ds=>
  rw[e1,O.of_ok]at p;have hi:=Ll e1;obtain⟨a,xs,ds',q,e2,ha,hh,r⟩:=x.good.ow i _ hi;cases e2;refine⟨_,q,.inl ⟨rfl,xs,SqL.of hh⟩,x.aok,ρ,x.good,?_⟩;cases e3:fk ρ with
  |bad=>rw[e3]at p;exact p.elim
  |exn z=>rw[e3]at p;exact fun H2 s2=>p H2 fun b o z=>s2 _ _ (x.same b o z)
  |ok dk=>
   rw[e3,R.bind_ok]at p;intro y H1 s1 ry;cases dk with
   |int j=>
    have ey:=ry.int_of;subst ey;rw[Mm,O.of_ok]at p;have x1:=x.grow s1;refine⟨x1.aok,ρ,x1.good,BP.ex x1 p fun d v H' _ s2 rv x' q'=>?_⟩
    split at q'
    ·rename_i hz;simp only[Aj,AZ]at hz;obtain⟨⟨h1,h2⟩,h3⟩:=hz;have h1:=Ib h1;have r':=r.same (s1.trans s2);have ln:=r.length;exact⟨a,xs,j,v,rfl,rfl,s2 _ _ (s1 _ _ hh),by omega,h2,by omega,q' _ _ (x'.upd hi q ((Reps.take _ r').append ⟨rv,Reps.drop _ r'⟩))⟩
    ·exact q'.elim
   |_=>exact p.elim
end
section
variable{prog:AO}{w:A4}{A:A2}{E:Vq}{s:Ar}
theorem vF{j t:Am}{x:Al}{Q:Vq}(st:s.heap.IsTupleIter j t k)(sq:s.heap.IsTuple t its)(at_:its[k]?=Aa x)(go:∀ h2,h2.IsTupleIter j t (k+1)->Ew j s.heap h2->Q x {s with heap:=h2}):Ax (model prog w) A (BK (.ref j)) Q E s:=by
 obtain⟨oj,gj,cj,dj⟩:=id st;obtain⟨ot,gt,_,nt,dt⟩:=sq;show Ax _ _ (Jn _ _ >>= _) _ _ _;refine Ao (Dv st.typeIs DJ (EJ DJ st.typeIs Zj ?_ (Zf _)));show Ax _ _ (field (.ref j) 0 >>= _) _ _ _;refine Ao (BS gj dj (x:=.ref t) rfl ?_);show Ax _ _ (field (.ref j) 1 >>= _) _ _ _;refine Ao (BS gj dj (x:=.int k 0) rfl ?_);refine Ao (DA gt dt ?_);simp only[FJ,at_];exact Ao (FH gj dj (by simp) (AI ⟨x,rfl,AI (go _ ⟨_,CJ _ gj (EA (Dh dj _)),(Zv ..).trans cj,by rw[Dh dj];simp[D8]⟩ (Zq ..))⟩))
theorem fP{j t:Am}{Q:Vq}(calm:A.handled=Ae)(st:s.heap.IsTupleIter j t k)(sq:s.heap.IsTuple t its)(at_:its[k]?=Ae)(up:∀ h2 e,HZ j s.heap h2->(∃ o,h2.get? e=Aa o/\o.cls=.type "StopIteration")->E (.ref e) {s with heap:=h2}):Ax (model prog w) A (BK (.ref j)) Q E s:=by
 obtain⟨oj,gj,cj,dj⟩:=id st;obtain⟨ot,gt,_,nt,dt⟩:=sq;show Ax _ _ (Jn _ _ >>= _) _ _ _;refine Ao (Dv st.typeIs DJ (EJ DJ st.typeIs Zj ?_ (Zf _)));show Ax _ _ (field (.ref j) 0 >>= _) _ _ _;refine Ao (BS gj dj (x:=.ref t) rfl ?_);show Ax _ _ (field (.ref j) 1 >>= _) _ _ _;refine Ao (BS gj dj (x:=.int k 0) rfl ?_);refine Ao (DA gt dt ?_);simp only[FJ,at_];refine Ao (KN (Ao (FH gj dj (by simp) ?_)))
 refine Ao ?_;simp only[newExc,newTuple];refine Ao (CV ?_ (by size_fits))
 refine Ao (m:=Z1 _ _) (JS (a:=.none) (by first|rfl|(simp only[Z1];rfl)) (CV ?_ (by size_fits)))
 simp only[raiseNew];refine Ao (wpAny_handled ?_)
 first|rw[show A.in1.handled=Ae from calm]|rw[calm]
 exact Ao (AI (wpAny_throw (up _ _ (((Zq ..).extBut.push _).push _) ⟨_,AK _ rfl,rfl⟩)))
end
structure Dw (prog:AO) (w:A4) (A:A2) (j:Am) (fp:Ac Am) (n:Ag) (P:Ag->Al->Prop) (S:Ag->AF->Prop):Prop where
 frame:∀ i h h2,S i h->(∀ c∈fp,∀ o,h.get? c=Aa o->h2.get? c=Aa o)->S i h2
 item:∀ i (s:Ar) (Q:Vq) (E:Vq),i<n->S i s.heap->(∀ x h2 tk,P i x->S (i+1) h2->Ew j s.heap h2->Q x {s with heap:=h2,toks:=tk})->Ax (model prog w) A (BK (.ref j)) Q E s
 done:∀ i (s:Ar) (Q:Vq) (E:Vq),n<=i->S i s.heap->(∀ h2 e,HZ j s.heap h2->(∃ o,h2.get? e=Aa o/\o.cls=.type "StopIteration")->E (.ref e) {s with heap:=h2})->Ax (model prog w) A (BK (.ref j)) Q E s
def Em(t:Ak)(h:AF)(j l:Am)(i:Ag):Prop:=match t with
  |true=>h.IsTupleIter j l i
  |false=>h.IsListIter j l i
def Ee(t:Ak)(h:AF)(l:Am)(its:Be Al):Prop:=match t with
  |true=>h.IsTuple l its
  |false=>h.IsList l its
theorem Lz{A:A2}(calm:A.handled=Ae)(t:Ak)(j l:Am)(ne:l≠j)(its:Be Al):Dw prog w A j [j,l] its.size (fun i v=>its[i]?=Aa v) (fun i h=>Em t h j l i/\Ee t h l its):=by
 cases t with
 |true=>exact⟨fun _ _ _ z k=>⟨z.1.at fun o e=>k j (by simp) o e,z.2.at fun o e=>k l (by simp) o e⟩,fun i s Q E hi z q=>vF z.1 z.2 (x:=its[i]) (by simp[hi]) fun h2 z2 sb=>q _ h2 s.toks (by simp[hi]) ⟨z2,z.2.extBut sb.extBut ne⟩ sb,fun i s Q E hi z q=>fP calm z.1 z.2 (by simp[hi]) q⟩
 |false=>exact⟨fun _ _ _ z k=>⟨z.1.at fun o e=>k j (by simp) o e,z.2.at fun o e=>k l (by simp) o e⟩,fun i s Q E hi z q=>wpAny_nextOf_list_item z.1 z.2 (x:=its[i]) (by simp[hi]) fun h2 z2 sb=>q _ h2 s.toks (by simp[hi]) ⟨z2,z.2.extBut sb.extBut ne⟩ sb,fun i s Q E hi z q=>wpAny_nextOf_list_end calm z.1 z.2 (by simp[hi]) q⟩
theorem nb1{I l c:Ag}(b:l<I)(h:c∈[I,l])(j:Ag):c≠I+(j+1):=by
 have h':c=I\/c=l:=by simpa using h
 omega
theorem nb2{I l c:Ag}(b:l<I)(h:c∈[I+1,l]):c≠I/\c≠I+3/\c≠I+4:=by
 have h':c=I+1\/c=l:=by simpa using h
 omega
theorem nij{I i j:Ag}(h:i≠j):I+i≠I+j:=by omega
theorem ni0{I i:Ag}(h:i≠0):I+i≠I:=by omega
section
variable{prog:AO}{w:A4}{A:A2}{E:Vq}{s:Ar}
theorem iM{I l1 l2 n1 n2 k:Ag}{P1 P2:Ag->Al->Prop}{S1 S2:Ag->AF->Prop}{a b:Al}{Q:Vq}(b1:l1<I)(b2:l2<I)(D1:Dw prog w A I [I,l1] n1 P1 S1)(D2:Dw prog w A (I+1) [I+1,l2] n2 P2 S2)(hz:Go s.heap (I+4) (I+2) (I+3) .none)(hI:Ey s.heap (I+2) (.ref I) (.ref (I+1)))(hO:Ey s.heap (I+3) a b)(g1:S1 k s.heap)(g2:S2 k s.heap)(k1:k<n1)(k2:k<n2)(go:∀ x y h2 tk,P1 k x->P2 k y->Go h2 (I+4) (I+2) (I+3) (D8 s.heap.objs.size)->Ey h2 (I+3) x y->S1 (k+1) h2->S2 (k+1) h2->Ey h2 s.heap.objs.size x y ->
   (∀ c o,c∉[I,I+1,I+3,I+4]->s.heap.get? c=Aa o->h2.get? c=Aa o)->Q (.ref s.heap.objs.size) {s with heap:=h2,toks:=tk}):Ax (model prog w) A (Builtin.«zip.__next__» ⟨[.ref (I+4)],[]⟩) (fun fin s'=>∃ v,fin=.done (.ret v)/\Q v s') E s:=by
 refine Ao (m:=field (.ref (I+4)) 2) (BS hz rfl (x:=.bool Ad) rfl ?_);refine Ao (m:=field (.ref (I+4)) 3) (BS hz rfl (x:=.ref (I+2)) rfl (Ao (DA hI rfl ?_)));refine Ao (m:=CQ (.ref (I+4))) ?_;simp only[CQ];refine Ao (BS hz rfl (x:=.none) rfl (AI ?_));rw[AA rfl];refine Ao (KN (Ao (BS hz rfl (x:=.ref (I+3)) rfl (Ao (DG hz (by simp) fun p1 z1 e1=>Ao ?_)))))
 have z1':Go p1 (I+4) (I+2) (I+3) .ellipsis:=z1;simp only[Yq,Yr,HS,GC];refine Ao (Ao (F1 (Ao (m:=BK (.ref I)) (D1.item k _ _ _ k1 (D1.frame _ _ _ g1 fun c hc o q=>e1.extBut c o (nb1 b1 hc 3) q) fun x p2 t2 px s2 e2=>AI ?_))))
 have o2:Ey p2 (I+3) a b:=e2.extBut _ _ (ni0 (by decide)) (e1.extBut _ _ (nij (by decide)) hO)
 refine Ao (DA o2 rfl (Ao (Gs o2 fun p3 o3 e3=>Ao (JR (AI ?_)))))
 have o3':Ey p3 (I+3) x b:=o3;have g2':S2 k p3:=D2.frame _ _ _ g2 fun c hc o q=>e3.extBut c o (nb2 b2 hc).2.1 (e2.extBut c o (nb2 b2 hc).1 (e1.extBut c o (nb2 b2 hc).2.2 q))
 refine Ao (Ao (F1 (Ao (m:=BK (.ref (I+1))) (D2.item k _ _ _ k2 g2' fun y p4 t4 py s4 e4=>AI ?_))))
 have o4:Ey p4 (I+3) x b:=e4.extBut _ _ (nij (by decide)) o3'
 refine Ao (DA o4 rfl (Ao (Gs o4 fun p5 o5 e5=>Ao (JR (AI (AI ?_))))))
 have o5':Ey p5 (I+3) x y:=o5;have sz:p5.objs.size=s.heap.objs.size:=by rw[e5.1,e4.1,e3.1,e2.1,e1.1]
 have z5:Go p5 (I+4) (I+2) (I+3) .ellipsis:=e5.extBut _ _ (nij (by decide)) (e4.extBut _ _ (nij (by decide)) (e3.extBut _ _ (nij (by decide)) (e2.extBut _ _ (ni0 (by decide)) z1')))
 refine Ao (DA o5' rfl (Ao (wpAny_newTuple ?_)));refine Ao (m:=YI (.ref (I+4)) (.ref p5.objs.size)) ?_;simp only[YI];have z6:Go (p5.push { cls:=.type "tuple", data:=.seq #[x,y] }) (I+4) (I+2) (I+3) .ellipsis:=As _ z5;refine Ao (DG z6 (by simp) fun p7 z7 e7=>?_)
 have z7':Go p7 (I+4) (I+2) (I+3) (D8 p5.objs.size):=z7;refine DG z7' (by simp) fun p8 z8 e8=>AI ⟨_,rfl,?_⟩
 have z8':Go p8 (I+4) (I+2) (I+3) (D8 p5.objs.size):=z8;have lt5:I+4<p5.objs.size:=AE z5;have up:∀ c o,c≠I+4->p5.get? c=Aa o->p8.get? c=Aa o:=fun c o nc q=>e8.extBut _ _ nc (e7.extBut _ _ nc (As _ q))
 have t8:Ey p8 p5.objs.size x y:=e8.extBut _ _ (Eu lt5) (e7.extBut _ _ (Eu lt5) (AK _ rfl));have a1:S1 (k+1) p8:=D1.frame _ _ _ s2 fun c hc o q=>up c o (nb1 b1 hc 3) (e5.extBut c o (nb1 b1 hc 2) (e4.extBut c o (nb1 b1 hc 0) (e3.extBut c o (nb1 b1 hc 2) q)))
 have a2:S2 (k+1) p8:=D2.frame _ _ _ s4 fun c hc o q=>up c o (nb2 b2 hc).2.2 (e5.extBut c o (nb2 b2 hc).2.1 q)
 have kp:∀ c o,c∉[I,I+1,I+3,I+4]->s.heap.get? c=Aa o->p8.get? c=Aa o:=fun c o nc q=>by
  simp only[Aw,A3,BZ,Dy]at nc;exact up c o nc.2.2.2 (e5.extBut c o nc.2.2.1 (e4.extBut c o nc.2.1 (e3.extBut c o nc.2.2.1 (e2.extBut c o nc.1 (e1.extBut c o nc.2.2.2 q)))))
 have q:=go x y p8 t4 px py (by rw[<-sz];exact z8') (up _ _ (nij (by decide)) o5') a1 a2 (by rw[<-sz];exact t8) kp
 rw[<-sz]at q;exact q
theorem lR{I l1 l2 n1 n2 k:Ag}{P1 P2:Ag->Al->Prop}{S1 S2:Ag->AF->Prop}{a b:Al}{Q:Fin->Ar->Prop}(b1:l1<I)(b2:l2<I)(D1:Dw prog w A I [I,l1] n1 P1 S1)(D2:Dw prog w A (I+1) [I+1,l2] n2 P2 S2)(hz:Go s.heap (I+4) (I+2) (I+3) .none)(hI:Ey s.heap (I+2) (.ref I) (.ref (I+1)))(hO:Ey s.heap (I+3) a b)(g1:S1 k s.heap)(g2:S2 k s.heap)(hk:n1<=k\/(k<n1/\n2<=k))(up:∀ h2 e tk,(∀ c o,c∉[I,I+1,I+3,I+4]->s.heap.get? c=Aa o->h2.get? c=Aa o)->(∃ o,h2.get? e=Aa o/\o.cls=.type "StopIteration")->E (.ref e) {s with heap:=h2,toks:=tk}):Ax (model prog w) A (Builtin.«zip.__next__» ⟨[.ref (I+4)],[]⟩) Q E s:=by
 refine Ao (m:=field (.ref (I+4)) 2) (BS hz rfl (x:=.bool Ad) rfl ?_);refine Ao (m:=field (.ref (I+4)) 3) (BS hz rfl (x:=.ref (I+2)) rfl (Ao (DA hI rfl ?_)));refine Ao (m:=CQ (.ref (I+4))) ?_;simp only[CQ];refine Ao (BS hz rfl (x:=.none) rfl (AI ?_));rw[AA rfl];refine Ao (KN (Ao (BS hz rfl (x:=.ref (I+3)) rfl (Ao (DG hz (by simp) fun p1 z1 e1=>Ao ?_)))))
 have z1':Go p1 (I+4) (I+2) (I+3) .ellipsis:=z1;simp only[Yq,Yr,HS,GC];have g1':S1 k p1:=D1.frame _ _ _ g1 fun c hc o q=>e1.extBut c o (nb1 b1 hc 3) q
 rcases hk with k1|⟨k1,k2⟩
 ·refine Ao (Ao (F1 (Ao (m:=BK (.ref I)) (D1.done _ _ _ _ k1 g1' fun p2 e e2 he=>?_))))
  obtain⟨oe,hoe,hce⟩:=he;have z2:Go p2 (I+4) (I+2) (I+3) .ellipsis:=e2 _ _ (ni0 (by decide)) z1'
  have ne:e≠I+4:=fun x=>by subst x;rw[z2]at hoe;cases hoe;simp at hce
  refine DG z2 (by simp) fun p3 _ e3=>up p3 e s.toks (fun c o nc q=>?_) ⟨oe,e3.extBut _ _ ne hoe,hce⟩
  simp only[Aw,A3,BZ,Dy]at nc;exact e3.extBut c o nc.2.2.2 (e2 c o nc.1 (e1.extBut c o nc.2.2.2 q))
 ·refine Ao (Ao (F1 (Ao (m:=BK (.ref I)) (D1.item k _ _ _ k1 g1' fun x p2 t2 px s2 e2=>AI ?_))))
  have o2:Ey p2 (I+3) a b:=e2.extBut _ _ (ni0 (by decide)) (e1.extBut _ _ (nij (by decide)) hO)
  refine Ao (DA o2 rfl (Ao (Gs o2 fun p3 o3 e3=>Ao (JR (AI ?_)))))
  have g2':S2 k p3:=D2.frame _ _ _ g2 fun c hc o q=>e3.extBut c o (nb2 b2 hc).2.1 (e2.extBut c o (nb2 b2 hc).1 (e1.extBut c o (nb2 b2 hc).2.2 q))
  refine Ao (Ao (F1 (Ao (m:=BK (.ref (I+1))) (D2.done _ _ _ _ k2 g2' fun p4 e e4 he=>?_))))
  obtain⟨oe,hoe,hce⟩:=he;have z4:Go p4 (I+4) (I+2) (I+3) .ellipsis:=e4 _ _ (nij (by decide)) (e3.extBut _ _ (nij (by decide)) (e2.extBut _ _ (ni0 (by decide)) z1'))
  have ne:e≠I+4:=fun x=>by subst x;rw[z4]at hoe;cases hoe;simp at hce
  refine DG z4 (by simp) fun p5 _ e5=>up p5 e t2 (fun c o nc q=>?_) ⟨oe,e5.extBut _ _ ne hoe,hce⟩
  simp only[Aw,A3,BZ,Dy]at nc;exact e5.extBut c o nc.2.2.2 (e4 c o nc.2.1 (e3.extBut c o nc.2.2.1 (e2.extBut c o nc.1 (e1.extBut c o nc.2.2.2 q))))
end
def SqX(t:Ak)(K:Fg)(H:Hp)(a:Am)(xs:Ac V):Prop:=match t with
  |true=>SqT K H a xs
  |false=>SqL K H a xs
theorem IR(I:Inv X pI σ H s)(h:SqX t X.K H a xs):∃ its:Ac Al,A7 xs its/\Ee t s.heap a its.toArray/\xs.length<=sizeLine:=by
 cases t with
 |true=>
  obtain⟨its,rv,p,z⟩:=I.tuple h;exact⟨its,rv,p,z⟩
 |false=>
  obtain⟨its,rv,p,z⟩:=I.list h;exact⟨its,rv,p.isList,z⟩
theorem Pl(I:Inv X pI σ H s)(h:SqX t X.K H a xs)(h2:SqX t X.K H a ys):xs=ys:=by
 cases t with
 |true=>exact I.tuple_inj h h2
 |false=>exact I.list_inj h h2
noncomputable def Itz(K:Fg)(t1 t2:Ak)(a b:Am):It:=
  ⟨fun i H=>∃ xs ys x y,SqX t1 K H a xs/\SqX t2 K H b ys/\xs[i]?=Aa x/\ys[i]?=Aa y,
   fun i H v H'=>∃ p x y,H p=Ae/\v=.ref p/\(∀ xs,SqX t1 K H a xs->xs[i]?=Aa x)/\(∀ ys,SqX t2 K H b ys->ys[i]?=Aa y)/\H'=upd H p (.tup [x,y]),
   fun i H=>∃ xs ys,SqX t1 K H a xs/\SqX t2 K H b ys/\(xs.length<=i\/(i<xs.length/\ys.length<=i))⟩
theorem Inv.turnedL{t':Ag}(ch:Ac Am)(I:Inv X pI σ H s)(k:∀ b o,b∉ch->s.heap.get? b=Aa o->h'.get? b=Aa o)(hf:∀ b∈ch,GN X pI H b):Inv X pI σ H {s with heap:=h',toks:=t'}:=by
 have nit:∀ b u,H b=Aa u->b∉ch:=fun b u e z=>by rw[(hf b z).1]at e;cases e
 refine I.step (g':=s.gens) (d':=s.drawn) (ch:=ch) (fun b hb=>⟨(hf b hb).2.2.2.1,(hf b hb).2.1,(hf b hb).2.2.2.2.1,(hf b hb).2.2.2.2.2⟩) (fun b o _ _ hc e _=>k b o hc e) (fun b o _ _ hc e _=>⟨o.slots,k b o hc e⟩) (fun _ _ _ _ n=>n)
  (fun b o hc e=>⟨o,k b o hc e⟩) (fun _ _ e=>e) (fun _ _ _ e=>e) (fun b ps e=>⟨#[],by rw[e];simp⟩) (fun m ⟨o,es,ep,ho,r⟩=>⟨o,es,ep,k _ o (fun z=>(hf _ z).2.1 rfl) ho,r⟩) (fun b u e=>(I.hok b u e).stay (fun c v hc q=>k c v ?_ q) (fun _ q=>q) fun _ _ q=>q) I.bare
 rcases hc with z|z
 ·rw[z];exact nit b u e
 ·exact nit c _ z
def zTn(t1 t2:Ak)(I l1 l2:Ag)(i:Ag)(h:AF):Prop:=Go h (I+4) (I+2) (I+3) .none/\Ey h (I+2) (.ref I) (.ref (I+1))/\(∃ a b,Ey h (I+3) a b)/\Em t1 h I l1 i/\Em t2 h (I+1) l2 i
noncomputable def zFp(I:Ag):Ac Am:=[I,I+1,I+2,I+3,I+4]
theorem Em.obj{j:Am}(z:Em t h j l i):∃ o,h.get? j=Aa o/\∀ v,o.data≠.cell v:=by
 cases t with
 |true=>obtain⟨o,e,c,d⟩:=z;exact⟨o,e,fun v z=>by rw[d]at z;cases z⟩
 |false=>obtain⟨o,e,c,d⟩:=z;exact⟨o,e,fun v z=>by rw[d]at z;cases z⟩
theorem Em.at'{j:Am}(z:Em t h j l i)(k:∀ o,h.get? j=Aa o->h2.get? j=Aa o):Em t h2 j l i:=by
 cases t with
 |true=>exact PySem.Heap.IsTupleIter.at z k
 |false=>exact PySem.Heap.IsListIter.at z k
theorem gM(t1 t2:Ak)(I l1 l2:Ag)(b1:l1<I)(b2:l2<I):Turn P w K (.Tuple es n pos) (Itz K t1 t2 l1 l2) (zFp I) (I+4) (zTn t1 t2 I l1 l2) where
  mem:=by simp[zFp]
  obj:=fun i h ⟨z1,z2,⟨a,b,z3⟩,z4,z5⟩ c hc=>by
    simp only[zFp,Aw,A3,BZ]at hc;rcases hc with rfl|rfl|rfl|rfl|rfl
    · exact z4.obj
    · exact z5.obj
    · exact⟨_,z2,fun v z=>by cases z⟩
    · exact⟨_,z3,fun v z=>by cases z⟩
    · exact⟨_,z1,fun v z=>by cases z⟩
  keep:=fun i h h2 ⟨z1,z2,⟨a,b,z3⟩,z4,z5⟩ k=>⟨k _ (by simp[zFp]) _ z1,k _ (by simp[zFp]) _ z2,⟨a,b,k _ (by simp[zFp]) _ z3⟩,z4.at' fun o e=>k _ (by simp[zFp]) o e,z5.at' fun o e=>k _ (by simp[zFp]) o e⟩
  item:=by
    intro X hP hw hK hc i pI s σ H E Iv hf ⟨z1,z2,⟨a,b,z3⟩,z4,z5⟩ ⟨xs,ys,x,y,q1,q2,hx,hy⟩;subst hP hw hK;obtain⟨us,rx,sx,_⟩:=IR Iv q1;obtain⟨vs,ry,sy,_⟩:=IR Iv q2;obtain⟨u,hu,ru⟩:=rx.get hx;obtain⟨v,hv,rv⟩:=ry.get hy;have hT:s.TypeIs (.ref (I+4)) "zip" := ⟨_,z1,rfl⟩;have calm:X.A.in1.handled=Ae:=Iv.ok.hd hc;show Ax _ _ (Iy _) _ _ _;simp only[Iy];refine Ao (wpAny_attempt (Dv hT Gn (EJ Gn hT Zk (iM (k:=i) b1 b2 (Lz calm t1 I l1 (Bc b1) us.toArray) (Lz calm t2 (I+1) l2 (Bc (Ds b2)) vs.toArray) z1 z2 z3 ⟨z4,sx⟩ ⟨z5,sy⟩
      (by have:=(AS.mp hu).1;simpa using this) (by have:=(AS.mp hv).1;simpa using this) fun x' y' h2 tk px py c1 c2 c3 c4 c5 kp=>AI ?_) (Zg _))))
    have ex:x'=u:=by
      have px':us[i]?=Aa x':=by simpa using px
      rw[hu]at px';exact(Bz px').symm
    have ey:y'=v:=by
      have py':vs[i]?=Aa y':=by simpa using py
      rw[hv]at py';exact(Bz py').symm
    subst ex ey;refine⟨_,rfl,wpAny_letOwnedTupleGo_zip c1 fun h3 d1 sb=>?_⟩
    have lt4:I+4<s.heap.objs.size:=AE z1;have kp3:∀ c o,c∉zFp I->s.heap.get? c=Aa o->h3.get? c=Aa o:=fun c o nc q=>by
      simp only[zFp,Aw,A3,BZ,Dy]at nc;exact sb.extBut c o nc.2.2.2.2 (kp c o (by simp only[Aw,A3,BZ,Dy];exact⟨nc.1,nc.2.1,nc.2.2.2.1,nc.2.2.2.2⟩) q)
    have nT:∀ c∈zFp I,c≠s.heap.objs.size:=fun c hc z=>by
      have:c<=I+4:=by
        simp only[zFp,Aw,A3,BZ]at hc;rcases hc with z|z|z|z|z<;>rw[z]<;>simp
      exact absurd (z ▸ Fo this lt4) (Bw _)
    have I1:Inv X pI σ (upd H s.heap.objs.size (.tup [x,y])) { s with heap:=s.heap.push { cls:=.type "tuple", data:=.seq #[x',y'] },toks:=s.toks }:=
      Iv.laid (fun _ _ q=>As _ q) (AW _) ⟨(by decide:2<=sizeLine),[x',y'],.cons ru (.cons rv .nil),⟨_,AK _ rfl,rfl,_,rfl⟩⟩
    have hf':∀ b∈zFp I,GN X pI (upd H s.heap.objs.size (.tup [x,y])) b:=fun b hb=>⟨by rw[Bu (nT b hb)];exact(hf b hb).1,(hf b hb).2⟩
    have I2:Inv X pI σ (upd H s.heap.objs.size (.tup [x,y])) {s with heap:=h3,toks:=tk}:=Inv.turnedL (s:={ s with heap:=s.heap.push { cls:=.type "tuple", data:=.seq #[x',y'] },toks:=s.toks }) (zFp I) I1 (fun c o nc q=>by
      rcases Zs q with ⟨e1,e2⟩|e1
      · subst e1 e2;exact sb.extBut _ _ (Eu lt4) c5
      · exact kp3 c o nc e1) hf'
    refine⟨.ref s.heap.objs.size,_,I2,rfl,⟨s.heap.objs.size,x,y,Iv.fresh,rfl,fun zs hz=>by rw[Pl Iv hz q1];exact hx,fun zs hz=>by rw[Pl Iv hz q2];exact hy,rfl⟩,⟨d1,sb.extBut _ _ (nij (by decide)) (kp _ _ (by simp) z2),⟨_,_,sb.extBut _ _ (nij (by decide)) c2⟩,c3.1.at' fun o q=>sb.extBut _ o (CP (ni0 (by decide))) q,c4.1.at' fun o q=>sb.extBut _ o (nij (by decide)) q⟩,fun b hb=>(hf' b hb).1⟩
  done:=by
    intro X hP hw hK hc i pI s σ H E Iv hf ⟨z1,z2,⟨a,b,z3⟩,z4,z5⟩ ⟨xs,ys,q1,q2,hk⟩;subst hP hw hK;obtain⟨us,rx,sx,_⟩:=IR Iv q1;obtain⟨vs,ry,sy,_⟩:=IR Iv q2;have hT:s.TypeIs (.ref (I+4)) "zip" := ⟨_,z1,rfl⟩;have calm:X.A.in1.handled=Ae:=Iv.ok.hd hc;have e1:=rx.length;have e2:=ry.length;simp only[Iy];refine Ao (wpAny_attempt (Dv hT Gn (EJ Gn hT Zk (lR (k:=i) b1 b2 (Lz calm t1 I l1 (Bc b1) us.toArray) (Lz calm t2 (I+1) l2 (Bc (Ds b2)) vs.toArray) z1 z2 z3 ⟨z4,sx⟩ ⟨z5,sy⟩
      (by simp only[AC];omega) fun h2 e tk kp he=>?_) (Zg _))))
    obtain⟨o,ho,hcl⟩:=he;refine Ao (wpAny_isInstance (T := "StopIteration") (b:=Ab) ⟨o,ho,hcl⟩ isSubtype_stop (AI ⟨rfl,Inv.turnedL [I,I+1,I+3,I+4] Iv (fun c o nc q=>kp c o nc q) fun c hc=>hf c ?_⟩))
    simp only[Aw,A3,BZ]at hc;simp only[zFp,Aw,A3,BZ];rcases hc with rfl|rfl|rfl|rfl<;>simp
  self:=fun _ _ _ _ _ st h=>Z9 st.1 h
section
variable{prog:AO}{w:A4}{A:A2}{E:Vq}{s:Ar}
noncomputable def itO(t:Ak)(l:Am):C3:=match t with
  |true=>{ cls:=.type "tuple_iterator", data:=.fields #[.ref l,.int 0 0] }
  |false=>{ cls:=.type "list_iterator", data:=.fields #[.ref l,.int 0 0] }
theorem MY{Q:Vq}(h:Ee t s.heap l its)(q:Q (.ref s.heap.objs.size) {s with heap:=s.heap.push (itO t l)}):Ax (model prog w) A (Mf (.ref l)) Q E s:=by
 cases t with
 |true=>exact Fu h q
 |false=>exact Ep h q
theorem Ee.push(z:Ee t h l its)(o:C3):Ee t (h.push o) l its:=by
 cases t with
 |true=>exact PySem.Heap.IsTuple.at z fun _ e=>As _ e
 |false=>exact PySem.Heap.IsList.at z fun _ e=>As _ e
theorem Q8{j:Am}(e:h.get? j=Aa (itO t l)):Em t h j l 0:=by
 cases t with
 |true=>exact⟨_,e,rfl,rfl⟩
 |false=>exact⟨_,e,rfl,rfl⟩
theorem PX(t:Ak)(l:Am):(itO t l).isFreed=Ad:=by cases t<;>rfl
noncomputable abbrev zh2(t1 t2:Ak)(h:AF)(l1 l2:Am):AF:=(h.push (itO t1 l1)).push (itO t2 l2)
noncomputable abbrev zh3(t1 t2:Ak)(h:AF)(l1 l2:Am):AF:=(zh2 t1 t2 h l1 l2).push { cls:=.type "tuple", data:=.seq #[.ref h.objs.size,.ref (h.push (itO t1 l1)).objs.size] }
noncomputable abbrev zh4(t1 t2:Ak)(h:AF)(l1 l2:Am):AF:=(zh3 t1 t2 h l1 l2).push { cls:=.type "tuple", data:=.seq #[.none,.none] }
noncomputable abbrev zh5(t1 t2:Ak)(h:AF)(l1 l2:Am):AF:=(zh4 t1 t2 h l1 l2).push { cls:=.type "zip", data:=.fields #[.none,.bool Ad,.bool Ad,.ref (zh2 t1 t2 h l1 l2).objs.size,.ref (zh3 t1 t2 h l1 l2).objs.size] }
theorem lP(t1 t2:Ak)(l1 l2:Am)(xs ys:Be Al):Meets (Builtin.«zip.__new__» ⟨[.type "zip", .ref l1,.ref l2],[]⟩) (fun _ R s=>Ee t1 s.heap l1 xs/\Ee t2 s.heap l2 ys/\R (.ok (.ret (.ref (zh4 t1 t2 s.heap l1 l2).objs.size))) {s with heap:=zh5 t1 t2 s.heap l1 l2}):=
 .of_wp fun prog w A R s h=>by
  obtain⟨hp,g,d,tk,os⟩:=s;obtain⟨a1,a2,q⟩:=h;have hsub:=sub_zip;have L1:Ee t1 (JP ⟨hp,g,d,tk,os⟩) l1 xs:=a1;have L2:Ee t2 (JP ⟨hp.push (itO t1 l1),g,d,tk,os⟩) l2 ys:=a2.push _
  wp_walk using MY L1,MY L2
  exact⟨_,rfl,q⟩
theorem iN{t1 t2:Ak}{l1 l2:Am}{xs ys:Be Al}{Q:Vq}(a1:Ee t1 s.heap l1 xs)(a2:Ee t2 s.heap l2 ys)(q:∀ h2,zTn t1 t2 s.heap.objs.size l1 l2 0 h2->(∀ c o,s.heap.get? c=Aa o->h2.get? c=Aa o)->Q (.ref (s.heap.objs.size+4)) {s with heap:=h2}):Ax (model prog w) A (call (.type "zip") [.ref l1,.ref l2]) Q E s:=by
 refine callType_new F.called_zip (by decide) (F.typeCall_zip_2 _ _) (F.newCall_zip_2 _ _) (fun obj=>F.args_object_init_3 obj _ _) F.entry_zip_new (lP t1 t2 l1 l2 xs ys) ⟨a1,a2,?_⟩
 have s1:(s.heap.push (itO t1 l1)).objs.size=s.heap.objs.size+1:=B0 ..;have s2:(zh2 t1 t2 s.heap l1 l2).objs.size=s.heap.objs.size+2:=by rw[B0,s1]
 have s3:(zh3 t1 t2 s.heap l1 l2).objs.size=s.heap.objs.size+3:=by rw[B0,s2]
 have s4:(zh4 t1 t2 s.heap l1 l2).objs.size=s.heap.objs.size+4:=by rw[B0,s3]
 have u5:∀ {c o},(zh4 t1 t2 s.heap l1 l2).get? c=Aa o->(zh5 t1 t2 s.heap l1 l2).get? c=Aa o:=fun e=>As _ e
 have u4:∀ {c o},(zh3 t1 t2 s.heap l1 l2).get? c=Aa o->(zh5 t1 t2 s.heap l1 l2).get? c=Aa o:=fun e=>u5 (As _ e)
 have u3:∀ {c o},(zh2 t1 t2 s.heap l1 l2).get? c=Aa o->(zh5 t1 t2 s.heap l1 l2).get? c=Aa o:=fun e=>u4 (As _ e)
 have u2:∀ {c o},(s.heap.push (itO t1 l1)).get? c=Aa o->(zh5 t1 t2 s.heap l1 l2).get? c=Aa o:=fun e=>u3 (As _ e)
 have g5:(zh5 t1 t2 s.heap l1 l2).get? (zh4 t1 t2 s.heap l1 l2).objs.size=Aa _:=AK _ rfl;have g4:(zh5 t1 t2 s.heap l1 l2).get? (zh3 t1 t2 s.heap l1 l2).objs.size=Aa _:=u5 (AK _ rfl);have g3:(zh5 t1 t2 s.heap l1 l2).get? (zh2 t1 t2 s.heap l1 l2).objs.size=Aa _:=u4 (AK _ rfl);have g2:(zh5 t1 t2 s.heap l1 l2).get? (s.heap.push (itO t1 l1)).objs.size=Aa _:=u3 (AK _ (PX _ _));have g1:(zh5 t1 t2 s.heap l1 l2).get? s.heap.objs.size=Aa _:=u2 (AK _ (PX _ _));show _/\_;rw[s2,s3,s4]at g5;rw[s3]at g4;rw[s1,s2]at g3;rw[s1]at g2;rw[s4];exact⟨⟨_,g5,rfl⟩,q _ ⟨g5,g3,⟨_,_,g4⟩,Q8 g1,Q8 g2⟩ fun c o e=>u2 (As _ e)⟩
end
def cW(K:Fg)(ta:TA):TI:=fun σ H R=>ta σ H fun vs H1=>∃ t1 t2 a b xs ys,vs=[.ref a,.ref b]/\SqX t1 K H1 a xs/\SqX t2 K H1 b ys/\(xs.length<=sizeLine->R (Itz K t1 t2 a b) H1)
theorem Ee.lt(z:Ee t h a its):a<h.objs.size:=by
 cases t with
 |true=>obtain⟨o,e,_⟩:=z;exact AE e
 |false=>obtain⟨o,e,_⟩:=z;exact AE e
theorem rT{a b:An}(hg:Gl X "zip")(hm:X.mg "zip" = Ae)(ha:PA X [a,b] ta)(hs:Av [a,b] X.env=[(Ad,eval a X.env),(Ad,eval b X.env)])(hs2:Av [b] X.env=[(Ad,eval b X.env)]):
  PI X (.Tuple es n tpos) (.Call (.Name "zip" p) [a,b] [] pos) (cW X.K ta):=by
 intro pI s σ H R I h;refine Iz (HG I hg hm PyProof.Rows.boot_zip (BO (thn (ha pos pI s σ H _ I h) fun us s1 ⟨vs,H1,I1,r1,q1⟩=>?_) (by rw[hs,hs2]) (by rw[hs2];rfl)))
 obtain⟨t1,t2,c,d,xs,ys,e,sx,sy,q⟩:=q1;subst e;cases r1 with
 |cons r rr=>
  cases rr with
  |cons r' rr=>
   cases rr;cases r;cases r';obtain⟨us,ru,iu,zu⟩:=IR I1 sx;obtain⟨vs,rv,iv,_⟩:=IR I1 sy;refine iN iu iv fun h2 z kp=>Z9 z.1 ?_
   refine⟨s1.heap.objs.size+4,zFp s1.heap.objs.size,_,_,H1,rfl,I1.kept (t':=s1.toks) kp,gM t1 t2 s1.heap.objs.size c d iu.lt iv.lt,z,fun b hb=>?_,q zu⟩
   have hb':s1.heap.objs.size<=b:=by
    simp only[zFp,Aw,A3,BZ]at hb;rcases hb with z|z|z|z|z<;>rw[z]<;>simp
   exact I1.fpOk hb' (I1.hok.fresh hb')
theorem Rg{ds:Ac D}(r:Rep K CL H A v d)(e:CS d=.ok ds):∃ t a xs,v=.ref a/\(∀ H2,Kp A H H2->SqX t K H2 a xs)/\Reps K CL H A xs ds:=by
 cases d with
 |lst es=>
  cases e;obtain⟨q,xs,rfl,na,sq,r⟩:=r;exact⟨Ad,q,xs,rfl,fun H2 k=>N6 k na sq,r⟩
 |tup es=>
  cases e;obtain⟨q,xs,rfl,na,sq,r⟩:=r;exact⟨Ab,q,xs,rfl,fun H2 k=>N5 k na sq,r⟩
 |_=>cases e
theorem Qa:∀(xs ys:Ac D),(DU xs ys).length=min xs.length ys.length
 |[],_=>by simp[DU]
 |_::_,[]=>by simp[DU]
 |x::xs,y::ys=>by
  rw[DU,Bk,Qa xs ys];simp only[Bk];omega
theorem UI:∀(xs ys:Ac D)(i:Ag)(d:D),(DU xs ys)[i]?=Aa d->∃ x y,xs[i]?=Aa x/\ys[i]?=Aa y/\d=.tup [x,y]
 |[],_,i,d,h=>by simp[DU]at h
 |_::_,[],i,d,h=>by simp[DU]at h
 |x::xs,y::ys,0,d,h=>by
  rw[DU]at h;simp only[Yc,Ce]at h;exact⟨x,y,rfl,rfl,h.symm⟩
 |x::xs,y::ys,i+1,d,h=>by
  rw[DU]at h;simp only[Yb]at h ⊢;exact UI xs ys i d h
theorem iO{t1 t2:Ak}{ds es:Ac D}(s1:∀ H2,Kp A H1 H2->SqX t1 K H2 a xs)(s2:∀ H2,Kp A H1 H2->SqX t2 K H2 b ys)(r1:Reps K CL H1 A xs ds)(r2:Reps K CL H1 A ys es) :IW K CL A (DU ds es) (Itz K t1 t2 a b) H1:=fun H k i=>by
 refine⟨fun hi=>⟨xs,ys,s1 H k,s2 H k,?_⟩,fun d hd=>?_⟩
 ·rw[Qa]at hi;rw[r1.length,r2.length];omega
 ·obtain⟨x,y,hx,hy,rfl⟩:=UI _ _ _ _ hd;obtain⟨u,hu,ru⟩:=r1.get hx;obtain⟨v,hv,rv⟩:=r2.get hy;refine⟨⟨xs,ys,u,v,s1 H k,s2 H k,hu,hv⟩,?_⟩;rintro w' H' ⟨p,x',y',hp,rfl,c1,c2,rfl⟩;have ex:x'=u:=Bz ((c1 xs (s1 H k)).symm.trans hu);have ey:y'=v:=Bz ((c2 ys (s2 H k)).symm.trans hv);subst ex ey;have sm:=FN hp (.tup [x',y']);exact⟨sm,fun B hB aB=>Lf aB hp ⟨Mn ru k hB,Mn rv k hB,trivial⟩⟩
section
variable{X:Cx}{CL:ClA}{W:XW}{pos p:AG}{a b:An}{fa fb:Rho->R D}
theorem tG(ha:SE X CL W a fa)(hb:SE X CL W b fb)(hg:Gl X "zip")(hm:X.mg "zip" = Ae)(hs:Av [a,b] X.env=[(Ad,eval a X.env),(Ad,eval b X.env)])(hs2:Av [b] X.env=[(Ad,eval b X.env)]):
  SI X CL W (.Tuple es n tpos) (.Call (.Name "zip" p) [a,b] [] pos) (fun ρ=>(fa ρ).bind fun x=>(fb ρ).bind fun y=>(CS x).bind fun xs=>(CS y).bind fun ys=>.ok (DU xs ys)):=
 fun A=>PI.weak (rT hg hm (DC (ha A) (DC (hb A) E7 hs2) (by rw[hs,hs2])) hs hs2) fun σ H R ⟨hA,ρ,g,q⟩=>⟨hA,ρ,g,EN.ex q fun d v H1 _ s1 r1 p1=>⟨hA.same s1,ρ,g.same s1,EN.ex p1 fun d2 v2 H2 _ s2 r2 p2=>by
  cases e1:CS d with
  |bad=>rw[e1]at p2;exact p2.elim
  |exn z=>exact absurd e1 (by cases d<;>simp[CS])
  |ok ds=>
   cases e2:CS d2 with
   |bad=>rw[e1,e2]at p2;exact p2.elim
   |exn z=>exact absurd e2 (by cases d2<;>simp[CS])
   |ok es=>
    rw[e1,e2]at p2;obtain⟨t1,c1,xs,rfl,k1,rs1⟩:=Rg (r1.same s2) e1;obtain⟨t2,c2,ys,rfl,k2,rs2⟩:=Rg r2 e2;refine⟨t1,t2,c1,c2,xs,ys,rfl,k1 H2 (Kp.of (AD.refl H2)),k2 H2 (Kp.of (AD.refl H2)),fun hz=>p2 _ H2 (AD.refl H2) (iO k1 k2 rs1 rs2) ?_⟩
    rw[Qa,<-rs1.length];omega⟩⟩
end
theorem Em.live{l:Ag}(z:Em t h j l i):∃ o,h.get? j=Aa o/\∀ v,o.data≠.cell v:=by
 cases t with
 |true=>obtain⟨o,e,c,d⟩:=z;exact⟨o,e,fun v z=>by rw[d]at z;cases z⟩
 |false=>obtain⟨o,e,c,d⟩:=z;exact⟨o,e,fun v z=>by rw[d]at z;cases z⟩
theorem Em.keep{l:Ag}(z:Em t h j l i)(k:∀ o,h.get? j=Aa o->h2.get? j=Aa o):Em t h2 j l i:=by
 cases t with
 |true=>exact PySem.Heap.IsTupleIter.at z k
 |false=>exact PySem.Heap.IsListIter.at z k
theorem wB{A:A2}(calm:A.handled=Ae)(t:Ak)(j l:Am)(ne:l≠j)(its:Be Al):Draws prog w A j [j,l] its.size (fun i v=>its[i]?=Aa v) (fun i h=>Em t h j l i/\Ee t h l its):=
 have d:=Lz (prog:=prog) (w:=w) calm t j l ne its
 ⟨fun i h z=>let ⟨o,e,_⟩:=z.1.live;⟨o,e⟩,d.frame,d.item,fun s Q E h q=>d.done _ s Q E (AW _) h q⟩
theorem qO{A:A2}(calm:A.handled=Ae)(t:Ak)(j l:Am)(ne:l≠j)(its:Be Al)(i:Ag)(hi:its.size<=i):Draws prog w A j [j,l] i (fun _ _=>AX) (fun k h=>k=i/\Em t h j l i/\Ee t h l its):=
 have d:=Lz (prog:=prog) (w:=w) calm t j l ne its
 ⟨fun _ h z=>let ⟨o,e,_⟩:=z.2.1.live;⟨o,e⟩,fun k h h' z q=>⟨z.1,d.frame i h h' z.2 q⟩,fun k s Q E lt z=>absurd z.1 (Bc lt),fun s Q E h q=>d.done i s Q E hi h.2 q⟩
noncomputable def Ite(K:Fg)(t:Ak)(a:Am):It:=
 ⟨fun i H=>∃ xs x,SqX t K H a xs/\xs[i]?=Aa x,fun i H v H'=>∃ p x,H p=Ae/\v=.ref p/\(∀ xs,SqX t K H a xs->xs[i]?=Aa x)/\H'=upd H p (.tup [.int i,x]),fun i H=>∃ xs,SqX t K H a xs/\xs.length<=i⟩
def eTn(t:Ak)(I l:Ag)(i:Ag)(h:AF):Prop:=(∃ old,IsEnum h (I+1) I i old)/\Em t h I l i
theorem fB(t:Ak)(I l:Ag)(b:l<I):Turn P w K (.Tuple es n pos) (Ite K t l) [I,I+1] (I+1) (eTn t I l) where
  mem:=by simp
  obj:=fun i h ⟨⟨old,z1⟩,z2⟩ c hc=>by
    simp only[Aw,A3,BZ]at hc;rcases hc with rfl|rfl
    · exact z2.live
    · exact⟨_,z1,fun v z=>by cases z⟩
  keep:=fun i h h2 ⟨⟨old,z1⟩,z2⟩ k=>⟨⟨old,k _ (by simp) _ z1⟩,z2.keep fun o e=>k _ (by simp) o e⟩
  item:=by
    intro X hP hw hK hc i pI s σ H E Iv hf ⟨⟨old,z1⟩,z2⟩ ⟨xs,x,q1,hx⟩;subst hP hw hK;obtain⟨us,rx,px,_⟩:=IR Iv q1;obtain⟨u,hu,ru⟩:=rx.get hx;have lu:i<us.toArray.size:=by
      have:=(AS.mp hu).1;simpa using this
    refine wpAny_pyNext_enum_itemD (wB (A:=X.A.in1) (Iv.ok.hd hc) t I l (Bc b) us.toArray) z1 ⟨z2,px⟩ lu (ni0 (by decide)) (by simp only[Aw,A3,BZ,Dy];exact⟨ni0 (by decide),Eu (AJ b (Nat.le_add_right _ _))⟩) fun u' h2 tk hu' ho it2 hT sz kp=>⟨_,rfl,wpAny_letOwnedTupleGo_enum ho fun h3 d1 sb=>?_⟩
    have eu:u'=u:=by
      rw[Ye,hu]at hu';exact(Bz hu').symm
    subst eu;have lt:I+1<s.heap.objs.size:=AE z1;have kp3:∀ c o,c∉[I,I+1]->s.heap.get? c=Aa o->h3.get? c=Aa o:=fun c o nc q=>by
      simp only[Aw,A3,BZ,Dy]at nc;exact sb.extBut c o nc.2 (kp c o nc.2 nc.1 q)
    have nT:∀ c∈[I,I+1],c≠s.heap.objs.size:=fun c hc z=>by
      have:c<=I+1:=by
        simp only[Aw,A3,BZ]at hc;rcases hc with z|z<;>rw[z]<;>simp
      exact absurd (z ▸ Fo this lt) (Bw _)
    have I1:Inv X pI σ (upd H s.heap.objs.size (.tup [.int i,x])) { s with heap:=s.heap.push { cls:=.type "tuple", data:=.seq #[.int i tk,u'] },toks:=s.toks }:=
      Iv.laid (fun _ _ q=>As _ q) (AW _) ⟨(by decide:2<=sizeLine),[.int i tk,u'],.cons ⟨_,rfl⟩ (.cons ru .nil),⟨_,AK _ rfl,rfl,_,rfl⟩⟩
    have hf':∀ b∈[I,I+1],GN X pI (upd H s.heap.objs.size (.tup [.int i,x])) b:=fun b hb=>⟨by rw[Bu (nT b hb)];exact(hf b hb).1,(hf b hb).2⟩
    have I2:Inv X pI σ (upd H s.heap.objs.size (.tup [.int i,x])) {s with heap:=h3,toks:=tk+1}:=Inv.turnedL (s:={ s with heap:=s.heap.push { cls:=.type "tuple", data:=.seq #[.int i tk,u'] },toks:=s.toks }) [I,I+1] I1 (fun c o nc q=>by
      rcases Zs q with ⟨e1,e2⟩|e1
      · subst e1 e2;exact sb.extBut _ _ (Eu lt) hT
      · exact kp3 c o nc e1) hf'
    exact⟨.ref s.heap.objs.size,_,I2,rfl,⟨s.heap.objs.size,x,Iv.fresh,rfl,fun zs hz=>by rw[Pl Iv hz q1];exact hx,rfl⟩,⟨⟨u',by simpa using d1⟩,it2.1.keep fun o q=>sb.extBut _ o (CP (ni0 (by decide))) q⟩,fun b hb=>(hf' b hb).1⟩
  done:=by
    intro X hP hw hK hc i pI s σ H E Iv hf ⟨⟨old,z1⟩,z2⟩ ⟨xs,q1,hk⟩;subst hP hw hK;obtain⟨us,rx,px,_⟩:=IR Iv q1;have e1:=rx.length;have e2:us.toArray.size<=i:=by rw[AC,<-e1];exact hk
    refine wpAny_pyNext_enum_endD (qO (A:=X.A.in1) (Iv.ok.hd hc) t I l (Bc b) us.toArray i e2) z1 ⟨rfl,z2,px⟩ fun h2 eb=>⟨rfl,Inv.turnedL [I] Iv (t':=s.toks) (fun c o nc q=>eb c o (fun z=>nc (by simp[z])) q) fun c hc=>hf c ?_⟩
    have:c=I:=by simpa using hc
    subst this;simp
  self:=fun _ _ _ _ _ st h=>Z8 st.1.choose_spec h
section
variable{prog:AO}{w:A4}{A:A2}{E:Vq}{s:Ar}
theorem jQ(t:Ak)(l:Am)(xs:Be Al):Meets (Builtin.«enumerate.__new__» ⟨[.type "enumerate", .ref l],[]⟩) (fun _ R s=>Ee t s.heap l xs /\
   R (.ok (.ret (.ref (s.heap.push (itO t l)).objs.size))) { s with heap:=(s.heap.push (itO t l)).push { cls:=.type "enumerate", data:=.fields #[.none,.bool Ad,.ref s.heap.objs.size,D8 0,.none,.none] } }):=
 .of_wp fun prog w A R s h=>by
  obtain⟨hp,g,d,tk,os⟩:=s;obtain⟨hl,h⟩:=h;have hsub:=sub_enumerate;have hL:Ee t (JP ⟨hp,g,d,tk,os⟩) l xs:=hl
  wp_walk
  refine wpAny_stack_any fun st=>AI ?_
  split
  ·rename_i c _ _ _ _ _;cases (c==KG "enumerate")
   ·wp_walk using MY hL
    exact⟨_,rfl,h⟩
   ·wp_walk using MY hL
    exact⟨_,rfl,h⟩
  ·wp_walk using MY hL
   exact⟨_,rfl,h⟩
theorem fN{xs:Be Al}{Q:Vq}(hL:Ee t s.heap l xs)(h:∀ h',IsEnum h' (s.heap.objs.size+1) s.heap.objs.size 0 .none->Em t h' s.heap.objs.size l 0->(∀ b o,s.heap.get? b=Aa o->h'.get? b=Aa o)->Q (.ref (s.heap.objs.size+1)) {s with heap:=h'}):
    Ax (model prog w) A (call (.type "enumerate") [.ref l]) Q E s:=by
  refine callType_new F.called_enumerate (by decide) (F.typeCall_enumerate_1 _) (F.newCall_enumerate_1 _) (fun obj=>F.args_object_init_2 obj _) F.entry_enumerate_new (jQ t l xs) ⟨hL,?_⟩
  have hz:(s.heap.push (itO t l)).objs.size=s.heap.objs.size+1:=B0 ..;show _/\_;rw[hz];have he:IsEnum ((s.heap.push (itO t l)).push { cls:=.type "enumerate", data:=.fields #[.none,.bool Ad,.ref s.heap.objs.size,D8 0,.none,.none] }) (s.heap.objs.size+1) s.heap.objs.size 0 .none:=by
    have:=AK (s.heap.push (itO t l)) (o:={ cls:=.type "enumerate", data:=.fields #[.none,.bool Ad,.ref s.heap.objs.size,D8 0,.none,.none] }) rfl;rw[hz]at this;exact this
  exact⟨⟨_,he,rfl⟩,h _ he (Q8 (As _ (AK _ (PX _ _)))) fun b o x=>As _ (As _ x)⟩
end
def cX(K:Fg)(ta:TA):TI:=fun σ H R=>ta σ H fun vs H1=>∃ t a xs,vs=[.ref a]/\SqX t K H1 a xs/\(xs.length<=sizeLine->R (Ite K t a) H1)
theorem oB{a:An}(hg:Gl X "enumerate")(hm:X.mg "enumerate" = Ae)(ha:PA X [a] ta)(hs:Av [a] X.env=[(Ad,eval a X.env)]):
  PI X (.Tuple es n tpos) (.Call (.Name "enumerate" p) [a] [] pos) (cX X.K ta):=by
 intro pI s σ H R I h;refine Iz (HG I hg hm PyProof.Rows.boot_enumerate (BO (thn (ha pos pI s σ H _ I h) fun us s1 ⟨vs,H1,I1,r1,q1⟩=>?_) hs rfl))
 obtain⟨t,c,xs,e,sx,q⟩:=q1;subst e;cases r1 with
 |cons r rr=>
  cases rr;cases r;obtain⟨us,ru,pu,zu⟩:=IR I1 sx;refine fN pu fun h2 z1 z2 kp=>Z8 z1 ?_
  refine⟨s1.heap.objs.size+1,[s1.heap.objs.size,s1.heap.objs.size+1],_,_,H1,rfl,I1.kept (t':=s1.toks) kp,fB t s1.heap.objs.size c pu.lt,⟨⟨_,z1⟩,z2⟩,fun b hb=>?_,q zu⟩
  have hb':s1.heap.objs.size<=b:=by
   simp only[Aw,A3,BZ]at hb;rcases hb with z|z<;>rw[z]<;>simp
  exact I1.fpOk hb' (I1.hok.fresh hb')
theorem P9:∀(j:Af)(xs:Ac D),(EO j xs).length=xs.length
 |_,[]=>rfl
 |j,x::xs=>by rw[EO,Bk,P9,Bk]
theorem UV:∀(xs:Ac D)(j:Af)(i:Ag)(d:D),(EO j xs)[i]?=Aa d->∃ x,xs[i]?=Aa x/\d=.tup [.int (j+i),x]
 |[],j,i,d,h=>by simp[EO]at h
 |x::xs,j,0,d,h=>by
  rw[EO]at h;simp only[Yc,Ce]at h;exact⟨x,rfl,by rw[<-h];simp⟩
 |x::xs,j,i+1,d,h=>by
  rw[EO]at h;simp only[Yb]at h ⊢;obtain⟨y,h1,h2⟩:=UV xs (j+1) i d h;exact⟨y,h1,by rw[h2];congr 3;omega⟩
theorem dP{ds:Ac D}(sq:∀ H2,Kp A H1 H2->SqX t K H2 a xs)(r1:Reps K CL H1 A xs ds):IW K CL A (EO 0 ds) (Ite K t a) H1:=fun H k i=>by
 have s1:=sq H k;refine⟨fun hi=>⟨xs,s1,?_⟩,fun d hd=>?_⟩
 ·rw[P9]at hi;rw[r1.length];exact hi
 ·obtain⟨x,hx,rfl⟩:=UV _ _ _ _ hd;obtain⟨u,hu,ru⟩:=r1.get hx;refine⟨⟨xs,u,s1,hu⟩,?_⟩;rintro w' H' ⟨p,x',hp,rfl,c1,rfl⟩;have ex:x'=u:=Bz ((c1 xs s1).symm.trans hu);subst ex;rw[Et];exact⟨FN hp (.tup [.int i,x']),fun B hB aB=>Lf aB hp ⟨rfl,Mn ru k hB,trivial⟩⟩
section
variable{X:Cx}{CL:ClA}{W:XW}{pos p:AG}{a:An}{fa:Rho->R D}
theorem lJ(ha:SE X CL W a fa)(hg:Gl X "enumerate")(hm:X.mg "enumerate" = Ae)(hs:Av [a] X.env=[(Ad,eval a X.env)]):
  SI X CL W (.Tuple es n tpos) (.Call (.Name "enumerate" p) [a] [] pos) (fun ρ=>(fa ρ).bind fun x=>(CS x).bind fun xs=>.ok (EO 0 xs)):=
 fun A=>PI.weak (oB hg hm (DC (ha A) E7 hs) hs) fun σ H R ⟨hA,ρ,g,q⟩=>⟨hA,ρ,g,EN.ex q fun d v H1 _ s1 r1 p1=>by
  cases e1:CS d with
  |bad=>rw[e1]at p1;exact p1.elim
  |exn z=>exact absurd e1 (by cases d<;>simp[CS])
  |ok ds=>
   rw[e1]at p1;obtain⟨t,c,xs,rfl,k1,rs⟩:=Rg r1 e1;exact⟨t,c,xs,rfl,k1 H1 (Kp.of (AD.refl H1)),fun hz=>p1 _ H1 (AD.refl H1) (dP k1 rs) (by rw[P9,<-rs.length];exact hz)⟩⟩
end
noncomputable abbrev SR(h:AF)(z TI TO:Am)(f0 f1:Al):Prop:=h.get? z=Aa { cls:=.type "zip", dict:=Ae,data:=.fields #[f0,f1,.bool Ad,.ref TI,.ref TO],slots:=#[] }
noncomputable abbrev SU(h:AF)(T:Am)(a b c:Al):Prop:=h.get? T=Aa { cls:=.type "tuple", data:=.seq #[a,b,c] }
section
variable{prog:AO}{w:A4}{A:A2}{E:Vq}{s:Ar}
def Z3(t1 t2 t3:Ak)(I l1 l2 l3 i:Ag)(h:AF):Prop:=SU h (I+3) (.ref (I+0)) (.ref (I+1)) (.ref (I+2))/\Em t1 h (I+0) l1 i/\Em t2 h (I+1) l2 i/\Em t3 h (I+2) l3 i/\(∃ a b c,SU h (I+4) a b c) /\
 (SR h (I+5) (I+3) (I+4) .none (.bool Ad)\/∃(T1:Ag)(f1:Ak),SR h (I+5) (I+3) (I+4) (D8 T1) (.bool f1))
end
section
variable{prog:AO}{w:A4}{A:A2}{R:Jk->Ar->Prop}
theorem Ee.at'(z:Ee t h l its)(k:∀ o,h.get? l=Aa o->h2.get? l=Aa o):Ee t h2 l its:=by
 cases t with
 |true=>exact PySem.Heap.IsTuple.at z k
 |false=>exact PySem.Heap.IsList.at z k
theorem Z3.at'{t1 t2 t3:Ak}{I l1 l2 l3 i:Ag}{h h2:AF}(z:Z3 t1 t2 t3 I l1 l2 l3 i h)(k:∀ j,j<=5->∀ o,h.get? (I+j)=Aa o->h2.get? (I+j)=Aa o):Z3 t1 t2 t3 I l1 l2 l3 i h2:=by
 obtain⟨zI,i1,i2,i3,⟨a,b,c,hO⟩,zz⟩:=z;exact⟨k 3 (by decide) _ zI,i1.at' fun o q=>k 0 (by decide) o q,i2.at' fun o q=>k 1 (by decide) o q,i3.at' fun o q=>k 2 (by decide) o q,⟨a,b,c,k 4 (by decide) _ hO⟩,zz.imp (k 5 (by decide) _) fun ⟨T1,f1,hz⟩=>⟨T1,f1,k 5 (by decide) _ hz⟩⟩
end
section
variable{prog:AO}{w:A4}{A:A2}{E:Vq}{s:Ar}
end
theorem Z3.ty{t1 t2 t3:Ak}{I l1 l2 l3 i:Ag}(z:Z3 t1 t2 t3 I l1 l2 l3 i s.heap):s.TypeIs (.ref (I+5)) "zip" := by
 obtain⟨_,_,_,_,_,hz|⟨_,_,hz⟩⟩:=z
 ·exact⟨_,hz,rfl⟩
 ·exact⟨_,hz,rfl⟩
theorem Z3.lt{t1 t2 t3:Ak}{I l1 l2 l3 i:Ag}(z:Z3 t1 t2 t3 I l1 l2 l3 i s.heap):I+5<s.heap.objs.size:=by
 obtain⟨o,h,_⟩:=z.ty;exact AE h
section
variable{prog:AO}{w:A4}{A:A2}{E:Vq}{s:Ar}
end
section
variable{X:Cx}{CL:ClA}{W:XW}{pos p pos' p':AG}{a b c:An}{fa fb fc:Rho->R D}
end
section
variable{X:Cx}{CL:ClA}{W:XW}{pos p tpos:AG}{a b c:An}{fa fb fc:Rho->R D}{x:Ai}
end
section
variable{X:Cx}{CL:ClA}{W:XW}{a:An}{fa:Rho->R D}
end
theorem rS{i:Af}{m:Ag}(h:plD n i=Aa m):-(n:Af)<=i/\i<n/\G3 i n=Aa m:=by
 unfold plD at h;unfold G3;by_cases h0:0<=i
 ·rw[AA h0]at h;by_cases h1:i<n
  ·rw[AA h1]at h;have h2:¬ i<0:=by omega
   refine⟨by omega,h1,?_⟩
   simp only[h2,HR];rw[AA (by simp;omega)]
   exact h
  ·rw[AH h1]at h;cases h
 ·rw[AH h0]at h;by_cases h1:-(n:Af)<=i
  ·rw[AA h1]at h;have h2:i<0:=by omega
   refine⟨h1,by omega,?_⟩
   simp only[h2,Eh];rw[AA (by simp;omega)]
   exact h
  ·rw[AH h1]at h;cases h
theorem Tk{K:Fg}{CL:ClA}{H:Hp}{A:Am->Prop}:∀{xs:Ac V}{ds:Ac D}(m:Ag),Reps K CL H A xs ds->Reps K CL H A (xs.eraseIdx m) (ds.eraseIdx m)
 |[],[],_,h=>h
 |v::vs,d::ds,0,h=>h.2
 |v::vs,d::ds,m+1,h=>⟨h.1,Tk m h.2⟩
 |[],_::_,_,h=>h.elim
 |_::_,[],_,h=>h.elim
section
variable{X:Cx}{CL:ClA}{W:XW}{o o' e:An}{fe:Rho->R D}{i j:Ag}{apos cpos apos' cpos' pos:AG}
theorem lE(ho:PE X o (En j))(ho':PE X o' (En i))(he:SE X CL W e fe)(hbase:Eg o "append" X.env (eval o X.env)=eval o X.env)(hbase':Eg o' "pop" X.env (eval o' X.env)=eval o' X.env)(hline:(apos.endLine==cpos.line)=Ab)(hline':(apos'.endLine==cpos'.line)=Ab)(hs:Av [e] X.env=[(Ad,eval e X.env)]):
  SS X CL W (.Expr (.Call (.Attribute o "append" apos) [.Call (.Attribute o' "pop" apos') [e] [] cpos'] [] cpos) pos) (fun ρ=>O.of ρ (Cr ρ j) fun ys=>O.of ρ (Cr ρ i) fun xs=>O.of ρ (fe ρ) fun d=>O.of ρ (DT d) fun n=>apD ρ j i ys xs n):=fun Fz B pI s σ H D I ⟨ρ,x,p⟩=>by
 refine J7 (Od Ea Zl Zo TY ho (DC (Od Ea PySem.F.slot_list_pop PySem.F.type_list_pop kD ho' (DC (he (BG B ρ σ)) E7 hs) hbase' (by rw[hs];rfl) hline' hs rfl) E7 rfl) hbase rfl hline rfl rfl) rfl pI s σ H D I ?_
 dsimp only at p;cases e1:Cr ρ j with
 |bad=>rw[e1]at p;exact p.elim
 |exn z=>exact(K5 e1).elim
 |ok es=>
  rw[e1,O.of_ok]at p;have hj:=Ll e1;obtain⟨a,ys,es',qa,e2,ha,hh,r⟩:=x.good.ow j _ hj;cases e2;cases e3:Cr ρ i with
  |bad=>rw[e3]at p;exact p.elim
  |exn z=>exact(K5 e3).elim
  |ok ds=>
   rw[e3,O.of_ok]at p;have hi:=Ll e3;obtain⟨b,xs,ds',qb,e4,hb,hh',r'⟩:=x.good.ow i _ hi;cases e4;refine⟨_,qa,.inl ⟨rfl,ys,SqL.of hh⟩,_,qb,.inl ⟨rfl,xs,SqL.of hh'⟩,x.aok,ρ,x.good,BP.ex x p fun d v H' _ s rv x' q'=>?_⟩
   cases d with
   |int n=>
    have ev:v=.int n:=rv;subst ev;rw[Mm,O.of_ok]at q';unfold apD at q';cases e5:plD ds.length n with
    |none=>rw[e5]at q';exact q'.elim
    |some m=>
     rw[e5]at q';dsimp only at q';cases e6:ds[m]? with
     |none=>rw[e6]at q';exact q'.elim
     |some d=>
      rw[e6]at q';dsimp only at q';split at q'
      ·rename_i hz;simp only[Aj,Gz,KO]at hz;obtain⟨hne,hz1,hz2⟩:=hz;have z1:=Ib hz1;have z2:=Ib hz2;obtain⟨y,hy,ry⟩:=(r'.same s).get e6;have hlen:=r'.length;have hne':a≠b:=fun z=>hne (x'.dis j i _ _ a hj hi qa (z ▸ qb))
       have u1:=x'.upd hj qa ((r.same s).append (ws:=[y]) (es:=[d]) ⟨ry,trivial⟩);have hi1:(ρ.set j (Aa (.lst (es++[d]),Ab)))[i]?=Aa (Aa (.lst ds,Ab)):=by rw[Cb hne];exact hi
       obtain⟨n1,n2,n3⟩:-(2 ^ 63)<=n/\n<2 ^ 63/\G3 n xs.length=Aa m:=by
        have hl:(ds.length:Af)<=sizeLine:=by omega
        have hs:(sizeLine:Af)<2 ^ 63:=by decide
        obtain⟨q1,q2,q3⟩:=rS e5;rw[hlen];exact⟨by omega,by omega,q3⟩
       obtain⟨b',xs',ds',qb',e7,hb',hh7,r7⟩:=u1.good.ow i _ hi1;cases e7;have eb:b'=b:=by rw[qb]at qb';injection qb' with z;injection z with z;injection z with z;exact z.symm
       subst eb;have hx:H' b'=Aa (.lst xs):=s _ _ hh';have e8:xs'=xs:=by
        rw[Bu hne'.symm,hx]at hh7;cases hh7;rfl
       subst e8;have u2:=u1.upd hi1 qb (Tk m r7);have ec:L2.upd (L2.upd H' a (.lst (ys++[y]))) b' (.lst (xs'.eraseIdx m))=L2.upd (L2.upd H' b' (.lst (xs'.eraseIdx m))) a (.lst (ys++[y])):=by
        funext c
        unfold L2.upd;by_cases c1:c=b'
        ·subst c1;rw[AA rfl,AH hne'.symm,AA rfl]
        ·rw[AH c1];by_cases c2:c=a
         ·rw[AA c2,AA c2]
         ·rw[AH c2,AH c2,AH c1]
       rw[ec,List.set_comm _ _ hne]at u2;refine⟨b',xs',n,m,y,rfl,rfl,hx,n1,n2,n3,hy,?_⟩;refine⟨a,ys,y,rfl,rfl,by rw[Bu hne'];exact s _ _ hh,?_,q' _ _ u2⟩
       rw[r.length];omega
      ·exact q'.elim
   |_=>exact q'.elim
end
section
variable{X:Cx}{CL:ClA}{W:XW}
end
noncomputable def Ly(lo:Af)(n:Ag):Ac V:=(Bb n).map fun(k:Ag)=>V.int (lo+(k:Af))
theorem dM(lo:Af)(n:Ag):(Ly lo n).length=n:=by simp[Ly]
theorem eE(lo:Af)(n:Ag):Reps K CL H A (Ly lo n) (BY lo n):=by
 have key:∀ L:Ac Ag,Reps K CL H A (L.map fun(k:Ag)=>V.int (lo+(k:Af))) (L.map fun(k:Ag)=>D.int (lo+(k:Af))):=fun L=>by
  induction L with
  |nil=>exact trivial
  |cons x L ih=>exact⟨rfl,ih⟩
 exact key _
theorem eC{acc:Be Al}(h:ItemsOf (fun i v=>∃ t,v=.int (lo+i*1) t) acc n):A7 (Ly lo n) acc.toList:=by
 obtain⟨h1,h2⟩:=h;have key:∀(L:Ac Al)(m:Ag),(∀(j:Ag)(v:Al),L[j]?=Aa v->∃ t,v=.int (lo+((m+j:Ag):Af)) t)->A7 ((List.range' m L.length).map fun(k:Ag)=>V.int (lo+(k:Af))) L:=fun L=>by
  induction L with
  |nil=>intro m _;exact .nil
  |cons v L ih=>
   intro m h;obtain⟨t,rfl⟩:=h 0 v rfl;refine .cons ⟨t,rfl⟩ (ih (m+1) fun j w hw=>?_)
   obtain⟨u,rfl⟩:=h (j+1) w hw;exact⟨u,by rw[show m+1+j=m+(j+1) by omega]⟩
 have k:=key acc.toList 0 fun j v hv=>by
  obtain⟨t,rfl⟩:=h2 j v (by rw[<-XN];exact hv)
  exact⟨t,by rw[DD,Yv]⟩
 rw[E1,h1,<-List.range_eq_range']at k;exact k
section
variable{X:Cx}
def aQ(ta:TA):TE:=fun σ H Q=>ta σ H fun vs H1=>∃ i j:Af,vs=[.int i,.int j]/\(-(2 ^ 62)<=i/\i<2 ^ 62/\-(2 ^ 62)<=j/\j<2 ^ 62)/\(j-i).toNat<=2 ^ 24/\(j-i).toNat<=sizeLine/\∀ l,H1 l=Ae->Q (.ref l) (upd H1 l (.lst (Ly i (j-i).toNat)))
theorem uW{a b:An}{p':AG}(hc:X.calm=Ab)(hg:Gl X "list")(hm:X.mg "list" = Ae)(hg':Gl X "range")(hm':X.mg "range" = Ae)(ha:PA X [a,b] ta)(hs:Av [a,b] X.env=[(Ad,eval a X.env),(Ad,eval b X.env)])(hs2:Av [b] X.env=[(Ad,eval b X.env)]):
  PE X (.Call (.Name "list" p) [.Call (.Name "range" p') [a,b] [] pos'] [] pos) (aQ ta):=by
 intro pI s σ H Q I h;refine Iz (HG I hg hm FV (BO ?_ rfl rfl));show Ax _ _ (spliced ((Ad,eval (.Call (.Name "range" p') [a,b] [] pos') X.env)::BN pos (Av [] X.env))) _ _ s;refine GX ?_;refine Iz (HG I hg' hm' Kz (BO (thn (ha pos' pI s σ H _ I h) fun us s1 ⟨vs,H1,I1,r1,q1⟩=>?_) (by rw[hs,hs2]) (by rw[hs2];rfl)))
 obtain⟨i,j,e,⟨b1,b2,b3,b4⟩,hn,hz,q⟩:=q1;subst e;cases r1 with
 |cons r rr=>
  cases rr with
  |cons r' rr=>
   cases rr;obtain⟨t,rfl⟩:=r;obtain⟨t',rfl⟩:=r';refine call_range_2 (FK ?_);refine call_list_range (n:=(j-i).toNat) (I1.ok.hd hc) (Zu ..) (small_one b1 b2 b3 b4) (by rw[rangeSize_one];split<;>omega) hn fun h' tk acc c' kp e it=>?_
   have e':=eC it;refine⟨.ref (s1.heap.push { cls:=.type "range", data:=.fields #[.int i t,.int j t',.int 1 s1.toks] }).objs.size,_,I1.laid (t':=tk) (fun b o e=>kp b o (As _ e)) ?_ (show ObjOk X.prog X.w _ h' _ (.lst (Ly i (j-i).toNat)) from ⟨by rw[dM];exact hz,acc.toList,c',e',by rw[Array.toArray_toList];exact e⟩),rfl,q _ (I1.hok.fresh ?_)⟩
   ·rw[B0];exact GS _
   ·rw[B0];exact GS _
noncomputable def SX(x y:D):R D:=(DT x).bind fun i=>(DT y).bind fun j=>(CC i j).bind fun xs=>.ok (.lst xs)
variable{CL:ClA}{W:XW}{pos p pos' p':AG}{a b:An}{fa fb:Rho->R D}
theorem qX(ha:ST X CL W a fa)(hb:ST X CL W b fb)(hc:X.calm=Ab)(hg:Gl X "list")(hm:X.mg "list" = Ae)(hg':Gl X "range")(hm':X.mg "range" = Ae)(hs:Av [a,b] X.env=[(Ad,eval a X.env),(Ad,eval b X.env)])(hs2:Av [b] X.env=[(Ad,eval b X.env)]):
  SC X CL W Ab (.Call (.Name "list" p) [.Call (.Name "range" p') [a,b] [] pos'] [] pos) (fun ρ=>(fa ρ).bind fun x=>(fb ρ).bind fun y=>SX x y):=fun A pI s σ H Q I h=>by
 obtain⟨hA,ρ,g,pp⟩:=h;refine uW hc hg hm hg' hm' (DC (ha A) (DC (hb A) E7 hs2) (by rw[hs,hs2])) hs hs2 pI s σ H Q I ?_
 refine⟨hA,ρ,g,A9.bindF pp fun dx x H1 _ s1 r1 p1=>⟨hA.same s1,ρ,g.same s1,A9.bind (Rq:=Dr X.K CL Ab H A) p1 fun dy y H2 _ s2 r2 p2=>?_⟩⟩
 cases dx with
 |int i=>
  cases dy with
  |int j=>
   have e:=r1.int_of;have e':=r2.int_of;subst e e';have p3:A9 (Dr X.K CL Ab H A) W H2 ((CC i j).bind fun xs=>.ok (.lst xs)) Q:=p2
   cases e2:CC i j with
   |ok ds=>
    rw[e2]at p3;obtain⟨h1,h2,rfl,hz⟩:=PK e2;rw[K4]at hz;refine⟨i,j,rfl,⟨h1.1,h1.2,h2.1,h2.2⟩,by rw[Dl]at hz;omega,hz,fun l hl=>?_⟩
    exact p3 _ _ (FN hl _) (Ka (s1.trans s2) ((hA.same s1).same s2) hl (eE i _))
   |exn y=>exact(Pu e2).elim
   |bad=>rw[e2]at p3;exact p3.elim
  |_=>exact p2.elim
 |_=>exact p2.elim
end
section
variable{X:Cx}{CL:ClA}{W:XW}{e o o' k l:An}{fe:Rho->R Ov.D}{i ik il:Ag}{pos spos spos' tpos:AG}{kt:Ag}
theorem Up{k:Ag}{j:Af}(h:HJ ρ k=.ok j):ρ[k]?=Aa (Aa (.int j,Ad)):=by
 unfold HJ ET at h;split at h
 ·rename_i d hd;cases d<;>first|(cases h;exact hd)|cases h
 ·cases h
theorem T8{k:Ag}{z:Ex}(h:HJ ρ k=.exn z):AX:=by
 unfold HJ ET at h;split at h
 ·rename_i d hd;cases d<;>cases h
 ·cases h
theorem qT(hc:X.calm=Ab)(ho:PE X o (En i))(ho':PE X o' (En i))(hk:PE X k (En ik))(hl:PE X l (En il))(he:SE X CL W e fe)(ha:∀ v,assign (.Subscript o k spos) X.env v=(do
      let ov <-holding [v] (eval o X.env)
      let iv <-holding [v,ov] (eval k X.env)
      Hq spos
      holding [v,ov,iv] (JM ov iv v)
      release [v,ov,iv] []))(ha':∀ v,assign (.Subscript o' l spos') X.env v=(do
      let ov <-holding [v] (eval o' X.env)
      let iv <-holding [v,ov] (eval l X.env)
      Hq spos'
      holding [v,ov,iv] (JM ov iv v)
      release [v,ov,iv] []))(hs:F0 [.Tuple [.Subscript o k spos,.Subscript o' l spos'] kt tpos] e pos.line X.env=pure Ad)(hw:DL [.Tuple [.Subscript o k spos,.Subscript o' l spos'] kt tpos] e X.env=pure Ae):SS X CL W (.Assign [.Tuple [.Subscript o k spos,.Subscript o' l spos'] kt tpos] e pos) (fun ρ=>O.of ρ (fe ρ) fun d=>OG ρ d i ik il):=fun Fz B pI s σ H D I ⟨ρ,x,p⟩=>
  QT (he (BG B ρ σ)) (NZ hc (Nx (QV ho hk Qd ha) (Nx (QV ho' hl Qd ha') Qx))) hs hw rfl pI s σ H D I ⟨x.aok,ρ,x.good,BP.ex x p fun d v H' _ s rv x' q'=>by
    cases d with
    |tup es=>
     cases es with
     |nil=>exact q'.elim
     |cons dx es=>
      cases es with
      |nil=>exact q'.elim
      |cons dy es=>
       cases es with
       |cons _ _=>exact q'.elim
       |nil=>
        have q':BP X.K CL Fz B W (O.of ρ (Cr ρ i) fun xs=>O.of ρ (HJ ρ ik) fun a=>O.of ρ (HJ ρ il) fun b=>match plD xs.length a,plD xs.length b with
          |some m,Aa n=>.next (ρ.set i (Aa (.lst ((xs.set m dx).set n dy),Ab)))
          | _,_=>.bad) D:=q'
        obtain⟨t,vs,rfl,_,sq,r⟩:=rv;cases vs with
        |nil=>exact r.elim
        |cons vx vs=>
         cases vs with
         |nil=>exact r.2.elim
         |cons vy vs=>
          cases vs with
          |cons _ _=>exact r.2.2.elim
          |nil=>
            obtain⟨rx,ry,_⟩:=r;cases e1:Cr ρ i with
            |bad=>rw[e1]at q';exact q'.elim
            |exn z=>exact(K5 e1).elim
            |ok ds=>
              rw[e1,O.of_ok]at q';have hi:=Ll e1;obtain⟨a,xs,ds',q,e2,ha,hh,rr⟩:=x'.good.ow i _ hi;cases e2;cases e3:HJ ρ ik with
              |bad=>rw[e3]at q';exact q'.elim
              |exn z=>exact(T8 e3).elim
              |ok j=>
                rw[e3,O.of_ok]at q';obtain⟨w1,qk,rk⟩:=x'.good.sh ik _ (Up e3);subst rk;cases e4:HJ ρ il with
                |bad=>rw[e4]at q';exact q'.elim
                |exn z=>exact(T8 e4).elim
                |ok j'=>
                  rw[e4,O.of_ok]at q';obtain⟨w2,ql,rl⟩:=x'.good.sh il _ (Up e4);subst rl;cases e5:plD ds.length j with
                  |none=>rw[e5]at q';exact q'.elim
                  |some m=>
                    cases e6:plD ds.length j' with
                    |none=>rw[e5,e6]at q';exact q'.elim
                    |some n=>
                      rw[e5,e6]at q';have lx:=rr.length;refine⟨t,[vx,vy],rfl,sq,rfl,vx,[vy],rfl,_,q,_,qk,a,xs,j,m,rfl,rfl,hh,by rw[lx];exact e5,vy,[],rfl,_,q,_,ql,a,xs.set m vx,j',n,rfl,rfl,ED,by rw[A6,lx];exact e6,rfl,?_⟩
                      have uu:L2.upd (L2.upd H' a (.lst (xs.set m vx))) a (.lst ((xs.set m vx).set n vy))=L2.upd H' a (.lst ((xs.set m vx).set n vy)):=by
                        funext b
                        by_cases hb:b=a
                        · subst hb;rw[ED,ED]
                        · rw[Bu hb,Bu hb,Bu hb]
                      rw[uu];exact q' _ _ (x'.upd hi q (Reps.set ry n (Reps.set rx m rr)))
    | _=>exact q'.elim⟩
end
section
variable{prog:AO}{w:A4}{A:A2}{E:Vq}{s:Ar}
theorem Uf{it t:Am}{items:Be Al}(hne:t≠it):∀(n i:Ag)(s:Ar)(Q:Ac Al->Ar->Prop),s.heap.IsListIter it t i->s.heap.IsList t items->i+n<=items.size->(∀ h',h'.IsListIter it t (i+n)->Ew it s.heap h'->Q ((items.toList.drop i).take n) {s with heap:=h'})->Ax (model prog w) A (draw (.ref it) n) Q E s
 |0,i,s,Q,hit,_,_,hQ=>by
  show Ax _ _ (pure []) Q E s;exact AI (by simpa using hQ s.heap hit (Zp ..))
 |n+1,i,s,Q,hit,ht,hle,hQ=>by
  have hlt:i<items.size:=by omega
  show Ax _ _ (Iy (.ref it) >>= _) Q E s;refine Ao (aC hit ht (x:=items[i]) (by simp[hlt]) fun h₁ hit₁ hs₁=>?_)
  refine Ao (Ch (Uf hne n (i+1) _ _ hit₁ (ht.extBut hs₁.extBut hne) (by omega) fun h₂ hit₂ hs₂=>AI ?_))
  have hd:items.toList.drop i=items[i]::items.toList.drop (i+1):=by simp[Fd,hlt]
  have:=hQ h₂ (by rw[show i+(n+1)=i+1+n by omega];exact hit₂) (hs₁.trans hs₂)
  rw[hd,List.take_succ_cons]at this;exact this
theorem dB{t:Am}{Q:Ac Al->Ar->Prop}(hh:A.handled=Ae)(ht:s.heap.IsList t items)(hQ:∀ h',HZ s.heap.objs.size s.heap h'->Q items.toList {s with heap:=h'}):Ax (model prog w) A (unpackItems (.ref t) items.size Ae) Q E s:=by
 have hlt:t≠s.heap.objs.size:=by obtain⟨o,ho,_⟩:=ht;exact Bc (AE ho)
 have htp:(s.heap.push { cls:=.type "list_iterator", data:=.fields #[.ref t,.int 0 0] }).IsList t items:=by
  obtain⟨o,ho,r⟩:=ht;exact⟨o,As _ ho,r⟩
 unfold unpackItems;refine Ao ?_
 ·unfold notIterableAtAll;refine Ao (wpAny_specialOf ht.typeIs slot_list_iter.lookup ?_);refine AI ?_;simp only[XQ,HR];refine Ao (Ch (Ep ht ?_));refine Ao (Ch (Uf hlt items.size 0 _ _ ⟨_,AK _ rfl,rfl,rfl⟩ htp (by omega) fun h₁ hit₁ hs₁=>?_))
  have hall:List.take items.size (List.drop 0 items.toList)=items.toList:=by
   rw[List.drop_zero];exact Yp (by simp)
  rw[hall];rw[AH (by simp)]
  have ht₁:h₁.IsList t items:=htp.extBut hs₁.extBut hlt;refine Ao (Ch (aA hh hit₁ ht₁ (by simp) fun h₂ he₂=>?_))
  simp only[Option.isSome_none,XQ,HR];refine AI (hQ h₂ fun b o hb e=>he₂ b o hb (hs₁.extBut b o hb (As _ e)))
theorem dA{elts:Ac An}{x1}{t:Am}{Q:F6->Ar->Prop}(hh:A.handled=Ae)(ht:s.heap.IsList t items) (hn:(Ca elts env).length=items.size) (hstar:(Ca elts env).findIdx? (·.1)=Ae) (h:∀ h',HZ s.heap.objs.size s.heap h'->Ax (model prog w) A (assignInOrder ((Ca elts env).map (·.2)) items.toList) Q E {s with heap:=h'}):Ax (model prog w) A (assign (.Tuple elts x1 pos) env (.ref t)) Q E s:=by
 rw[assign_Tuple];refine Ao (DM ?_);unfold unpack;rw[hn,hstar];exact Ao (Ch (dB hh ht h))
end
section
variable{X:Cx}{pos:AG}{CL:ClA}
def gSq(K:Fg)(n:Ag)(t:TGs):TG:=fun v σ H Q=>LU K n t v σ H Q\/∃ a xs,v=.ref a/\SqL K H a xs/\xs.length=n/\t xs σ H Q
theorem ao{t:TGs}(hc:X.calm=Ab)(h:PGs X es t)(hn:(Ca es X.env).length=n)(hst:(Ca es X.env).findIdx? (·.1)=Ae):PG X (.Tuple es k pos) (gSq X.K n t):=by
 intro pI s σ H v u Q I r hw;rcases hw with hw|hw
 ·exact NZ hc h hn hst pI s σ H v u Q I r hw
 ·obtain⟨a,xs,e1,hq,hl,hw⟩:=hw;subst e1;cases r;obtain⟨its,rv,ht,hz⟩:=I.list hq;refine dA (I.ok.hd hc) ht.isList (by simp[hn,<-hl,rv.length]) hst fun h' hx=>?_
  have I1:Inv X pI σ H {s with heap:=h'}:=I.kept (t':=s.toks) fun b o e=>hx b o (Bc (AE e)) e
  exact h pI _ σ H xs _ Q I1 (by simpa using rv) hw
theorem zM(ts:Ac Ag):GT K CL (Hb ts) (gSq K ts.length (ts.foldr (fun t u=>HK (E8 t) u) HQ)):=fun Fz B ρ σ H v d ρ' Q x r e k=>by
 cases d with
 |lst ds=>
  obtain⟨a,xs,rfl,na,sq,rs⟩:=r;rw[iL]at e;cases e2:EK ts ds ρ with
  |none=>rw[e2]at e;cases e
  |some ρ2=>
   rw[e2]at e;cases e;exact .inr ⟨a,xs,rfl,sq,by rw[rs.length];exact Np _ _ _ _ e2,Q2 ts ds xs ρ _ σ Q x rs e2 k⟩
 |_=>exact .inl (Wk ts Fz B ρ σ H v _ ρ' Q x r e k)
end
section
variable{X:Cx}{CL:ClA}{W:XW}
end
end Ov
namespace Ov
open PySem PySem.W PyProof.Rows
variable{p:Be Ag}{m:Ag}
def Kr{α:Type}(lt:Ag->Ag->Ak)(n:Ag):KasT α->(α->Prop)->Prop
 |.ret a,Q=>Q a
 |.ask i j k,Q=>i<n/\j<n/\Kr lt n (k (lt i j)) Q
theorem Kr.mono{α:Type}{lt:Ag->Ag->Ak}{n:Ag}{Q Q':α->Prop}:∀{t:KasT α},Kr lt n t Q->(∀ a,Q a->Q' a)->Kr lt n t Q'
 |.ret _,h,k=>k _ h
 |.ask i j f,h,k=>⟨h.1,h.2.1,Kr.mono (t:=f (lt i j)) h.2.2 k⟩
theorem Kr.bind{α β:Type}{lt:Ag->Ag->Ak}{n:Ag}{f:α->KasT β}{Q:β->Prop}:∀{t:KasT α},Kr lt n t (fun a=>Kr lt n (f a) Q)->Kr lt n (t.bind f) Q
 |.ret _,h=>h
 |.ask i j k,h=>⟨h.1,h.2.1,Kr.bind (t:=k (lt i j)) h.2.2⟩
structure Sto (lt:Ag->Ag->Ak) (n:Ag):Prop where
 tr:∀ i j k,i<n->j<n->k<n->lt i j=Ab->lt j k=Ab->lt i k=Ab
 tot:∀ i j,i<n->j<n->i≠j->lt i j=Ad->lt j i=Ab
 asy:∀ i j,i<n->j<n->lt i j=Ab->lt j i=Ad
noncomputable def at0(p:Be Ag)(x:Ag):Ag:=p.getD x 0
structure Pm (n:Ag) (p:Be Ag):Prop where
 sz:p.size=n
 lt:∀ x,x<n->at0 p x<n
 inj:∀ x y,x<n->y<n->at0 p x=at0 p y->x=y
section
variable{lt:Ag->Ag->Ak}{n:Ag}
def OR(lt:Ag->Ag->Ak)(p:Be Ag)(m:Ag):Prop:=∀ x y,x<y->y<m->lt (at0 p x) (at0 p y)=Ab
def OT(lt:Ag->Ag->Ak)(p:Be Ag)(m:Ag):Prop:=∀ x y,x<y->y<m->lt (at0 p y) (at0 p x)=Ab
theorem OR.succ(S:Sto lt n)(hp:Pm n p)(h1:1<=m)(hm:m<n)(h:OR lt p m)(e:lt (at0 p (m-1)) (at0 p m)=Ab):OR lt p (m+1):=fun x y hxy hy=>by
 by_cases hym:y<m
 ·exact h x y hxy hym
 ·have:y=m:=by omega
  subst this;by_cases hx:x=y-1
  ·rw[hx];exact e
  ·exact S.tr _ _ _ (hp.lt _ (by omega)) (hp.lt _ (by omega)) (hp.lt _ hm) (h x (y-1) (by omega) (by omega)) e
theorem OT.succ(S:Sto lt n)(hp:Pm n p)(h1:1<=m)(hm:m<n)(h:OT lt p m)(e:lt (at0 p m) (at0 p (m-1))=Ab):OT lt p (m+1):=fun x y hxy hy=>by
 by_cases hym:y<m
 ·exact h x y hxy hym
 ·have:y=m:=by omega
  subst this;by_cases hx:x=y-1
  ·rw[hx];exact e
  ·exact S.tr _ _ _ (hp.lt _ hm) (hp.lt _ (by omega)) (hp.lt _ (by omega)) e (h x (y-1) (by omega) (by omega))
end
section
variable{prog:AO}{w:A4}{A:A2}{E:Vq}{κ:SortKind}{it:Be Keyed}
end
section
variable{lt:Ag->Ag->Ak}{n:Ag}
end
def QF(h:AF)(v:Al)(r:Ac Af):Prop:=∃ a its,v=.ref a/\Ky h a its/\Hm its.toList r/\r≠[]
theorem QF.kept{h h':AF}{v:Al}{r:Ac Af}(t:QF h v r)(k:∀ b o,h.get? b=Aa o->h'.get? b=Aa o):QF h' v r:=by
 obtain⟨a,its,e,⟨o,ho,q⟩,i,n⟩:=t;exact⟨a,its,e,⟨o,k _ _ ho,q⟩,i,n⟩
section
variable{prog:AO}{w:A4}{A:A2}{E:Vq}{s:Ar}
end
end Ov
namespace Ov
open PySem PySem.Spec PyProof.Rows L2
variable{w:A4}{a T' C C' OV:Am}{P:AO}{K:Fg}{CL:ClA}{H H':Hp}{A B:Am->Prop}{X:Cx}{pI:Pn}{σ σ0:L2.St}{p pos pos' p1 np cpos:AG}{h h':AF}{oe:C3}{vs:Be Al}{Q:F6->Ar->Prop}{a0 oc:Al}{m:Ai->Ap Al}{x n g name qual z x0 x1:Ai}{v:Ap Al}{M:GU}{tk:CM}{fill expr fr:Ak}{φ:AF->Prop}{Fz:Am->HO->Prop}{ρ:Rho}{W:XW}{hs body:Ac AQ}{h0:AQ}{fh:Rho->O}{dx an od:Ap Am}{y:Ex}{up:Ag->Ac Ag}{CX:CXT}{k c kk l:Ag}{fd:BL}{ps:Ac Ai}{sp:Sp}{F:Ac D->R D}{fs:Rho->R (Ac D)}{Xw:Vq}{xn:Ag->Ac D->R Ex}{d:D}{scope:B5}{osl:Be (Ap Al)}{α:Type}{as:Es}{xs ys:Ac An}{env:B9}{ts:Ac Ag}
section
variable{X:Cx}{CL:ClA}{W:XW}
theorem Uo:∀{is:Ac Af}{its:Ac Al},A7 (is.map V.int) its->Hm its is
 |[],_,h=>by cases h;exact .nil
 |i::is,_,h=>by
  cases h with
  |cons h1 h2=>
   obtain⟨t,rfl⟩:=h1;exact .cons i t (Uo h2)
end
theorem Wg(is:Ac Af):(firstMet (fun i=>is.getD i 0) is.length).length=ddN is:=by
 have e:(Bb is.length).map (fun i=>is.getD i 0)=is:=by
  apply List.ext_getElem
  ·simp
  ·intro i h1 h2;simp[BU,Bm h2]
 unfold firstMet ddN;rw[e];rfl
theorem nK{prog:AO}{A:A2}{E:Vq}{s:Ar}{S:Af->Ak}{n:Ag}{Q:Vq}(h:s.heap.SetOf (KP prog w) a S n)(hf:(n:Af)<2 ^ 63)(q:Q (.int n (s.toks+1)) {s with toks:=s.toks+1+1}):Ax (model prog w) A (call (.builtin "len") [.ref a]) Q E s:=by
 obtain⟨o,es,ep,t,ho,hex,hd,_,_,_,hfi,rfl⟩:=h;exact call_len_set ho hex hd hfi hf q
section
variable{X:Cx}
theorem jB:∀{k:Ac Af}{its:Ac Al},A7 (k.map V.int) its->ItemsAre (KP P w) k its:=by
 intro k
 induction k with
 |nil=>intro its v;cases v;exact .nil
 |cons i k ih=>
  intro its v;cases v with
  |cons v1 v2=>
   obtain⟨t,rfl⟩:=v1;exact .cons (intKind_is _ _ _ _) (ih v2)
def Kx(K:Fg)(H:Hp):Ac V->Ac (Ac Af)->Prop
 |[],[]=>HA
 |x::xs,k::ks=>(∃ b,x=.ref b/\SqT K H b (k.map V.int))/\Kx K H xs ks
 |_,_=>AX
theorem nN:∀{ds:Ac D}{ks:Ac (Ac Af)}{xs:Ac V},Lx ds=Aa ks->Reps K CL H A xs ds->Kx K H xs ks:=by
 intro ds
 induction ds with
 |nil=>
  intro ks xs e r;cases e;cases xs with
  |nil=>exact trivial
  |cons=>exact r.elim
 |cons d ds ih=>
  intro ks xs e r;cases xs with
  |nil=>exact r.elim
  |cons x xs=>
   cases d with
   |tup es=>
    have e':((Ha es).bind fun k=>(Lx ds).map (k :: ·))=Aa ks:=e
    cases e1:Ha es with
    |none=>rw[e1]at e';cases e'
    |some k=>
     cases e2:Lx ds with
     |none=>rw[e1,e2]at e';cases e'
     |some ks'=>
      rw[e1,e2]at e';cases e';obtain⟨a,ys,ev,na,sq,rs⟩:=r.1;exact⟨⟨a,ev,Nt e1 rs ▸ sq⟩,ih e2 r.2⟩
   |_=>cases e
theorem Kx.length{K:Fg}{H:Hp}:∀{xs:Ac V}{ks:Ac (Ac Af)},Kx K H xs ks->xs.length=ks.length
 |[],[],_=>rfl
 |_::_,_::_,h=>congrArg (· + 1) (Kx.length h.2)
 |[],_::_,h=>h.elim
 |_::_,[],h=>h.elim
theorem mP{s:Ar}(I:Inv X pI σ H s):∀{xs:Ac V}{ks:Ac (Ac Af)}{its:Ac Al},Kx X.K H xs ks->A7 xs its->∀(j:Ag)(v:Al),its[j]?=Aa v->∃ b,v=.ref b/\IsTupleKey (KP X.prog X.w) s.heap (ks.getD j []) b:=by
 intro xs
 induction xs with
 |nil=>intro ks its k v j u e;cases v;cases e
 |cons x xs ih=>
  intro ks its k v j u e;cases ks with
  |nil=>exact k.elim
  |cons k0 ks=>
   cases v with
   |cons v1 v2=>
    cases j with
    |zero=>
     cases e;obtain⟨⟨b,rfl,sq⟩,_⟩:=k;cases v1;obtain⟨its,vs,⟨o,ho,hc,n,hd⟩,_⟩:=I.tuple sq;exact⟨b,rfl,o,its.toArray,n,ho,hc,hd,jB vs⟩
    |succ j=>exact ih k.2 v2 j u e
theorem mH:∀{hs:Ac Af},HM hs=Ab->∀ i j,i<j->j<hs.length->hs.getD i 0≠hs.getD j 0:=by
 intro hs
 induction hs with
 |nil=>intro _ i j _ hj;cases hj
 |cons h r ih=>
  intro e i j hij hj;obtain⟨e1,e2⟩:=(Aj _ _).mp (show (!r.contains h&&HM r)=Ab from e)
  cases j with
  |zero=>omega
  |succ j=>
   have hj':j<r.length:=by simpa using hj
   cases i with
   |zero=>
    intro z;have:r.contains h=Ab:=by
     rw[List.contains_iff_mem,show h=r.getD j 0 from z,BU,Bm hj']
     exact D3 _
    rw[this]at e1;cases e1
   |succ i=>exact ih e2 i j (by omega) hj'
theorem VA(ks:Ac (Ac Af)){i:Ag}(h:i<ks.length):(ks.map M5).getD i 0=M5 (ks.getD i []):=by
 rw[BU,BU,CT,Bm h];rfl
def wY(K:Fg)(ta:TA):TE:=fun σ H Q=>ta σ H fun vs H1=>∃ a,vs=[.ref a]/\((∃ is:Ac Af,SqL K H1 a (is.map V.int)/\is.length<=4000/\Q (.int (ddN is)) H1)\/∃ xs ks,SqT K H1 a xs/\Kx K H1 xs ks/\ks.length<=3/\HM (ks.map M5)=Ab/\Q (.int ks.length) H1)
theorem oC{a:An}{ta:TA}{p':AG}(hu:X.A.units+64<B4)(hc:X.calm=Ab)(hg:Gl X "len")(hm:X.mg "len" = Ae)(hg':Gl X "set")(hm':X.mg "set" = Ae)(ha:PA X [a] ta)(hs:Av [a] X.env=[(Ad,eval a X.env)]):
    PE X (.Call (.Name "len" p) [.Call (.Name "set" p') [a] [] pos'] [] pos) (wY X.K ta):=by
  intro pI s σ H Q I h;refine Iz (HG I hg hm boot_len (YB ?_ rfl rfl));show Ax _ _ (spliced ((Ad,eval (.Call (.Name "set" p') [a] [] pos') X.env)::BN pos (Av [] X.env))) _ _ s;refine GX ?_;refine Iz (HG I hg' hm' PyProof.Rows.boot_set (BO (thn (ha pos' pI s σ H _ I h) fun us s1 ⟨vs,H1,I1,r1,q1⟩=>?_) (by rw[hs];rfl) rfl))
  obtain⟨b,e,q1⟩:=q1;subst e;cases r1 with
  |cons r rr=>
    cases rr;cases r;rcases q1 with ⟨is,sq,hn,q⟩|⟨xs,ks,sq,kv,hn,hl,q⟩
    rotate_left
    · obtain⟨its,rv,pl,hz⟩:=I1.tuple sq;have hsz:its.toArray.size=ks.length:=by rw[AC,<-rv.length,kv.length]
      refine call_set_tup (key:=fun j=>ks.getD j []) (by omega) (I1.ok.hd hc) pl (fun j v e=>mP I1 kv rv j v (by rw[<-Ye];exact e)) (by rw[hsz];exact hn) (fun i j hij hj=>?_) fun h' tk hS kp=>FK ?_
      · rw[hsz]at hj;have:=mH hl i j hij (by rw[Bh];exact hj)
        rw[VA ks (by omega),VA ks hj]at this
        exact this
      · refine lenS_t (s:={s1 with heap:=h',toks:=tk}) hS (by rw[Bh,Yi,hsz];exact hn) ?_
        rw[Bh,Yi,hsz];exact⟨.int ks.length,H1,I1.kept (t':=tk+1+1) fun b o e=>kp b o (AE e) e,⟨_,rfl⟩,q⟩
    obtain⟨its,rv,pl,hz⟩:=I1.list sq;have ia:=Uo rv;have hl:its.length=is.length:=by rw[<-rv.length,Bh]
    refine PySem.call_set_list (ns:=is) (I1.ok.hd hc) pl.isList ia (by rw[AC,hl];unfold scanBound;omega) fun h' tk hS kp=>FK ?_
    have hsz:its.toArray.size=is.length:=by rw[AC,hl]
    rw[hsz,Wg]at hS;have hle:ddN is<=is.length:=by
      rw[<-Wg];exact firstMet_length_le _ _
    refine nK (s:={s1 with heap:=h',toks:=tk}) hS (by omega) ?_
    exact⟨.int (ddN is),H1,I1.kept (t':=tk+1+1) fun b o e=>kp b o (AE e) e,⟨_,rfl⟩,q⟩
variable{CL:ClA}{W:XW}{pos p pos' p':AG}{a:An}{fa:Rho->R D}
theorem lL(ha:ST X CL W a fa)(hu:X.A.units+64<B4)(hc:X.calm=Ab)(hg:Gl X "len")(hm:X.mg "len" = Ae)(hg':Gl X "set")(hm':X.mg "set" = Ae)(hs:Av [a] X.env=[(Ad,eval a X.env)]):
  SE X CL W (.Call (.Name "len" p) [.Call (.Name "set" p') [a] [] pos'] [] pos) (fun ρ=>(fa ρ).bind fun x=>biD .lset [x]):=
 fun A=>PE.weak (oC hu hc hg hm hg' hm' (DC (ha A) E7 hs) hs) fun σ H Q ⟨hA,ρ,g,q⟩=>⟨hA,ρ,g,A9.bind q fun d v H1 _ s1 r1 p1=>by
  cases d with
  |lst ds=>
   obtain⟨b,xs,rfl,sq,r⟩:=r1.lst_of;have p2:A9 (fun H=>Rep X.K CL H A) W H1 (Oz ds) Q:=p1
   unfold Oz at p2;cases e:Ha ds with
   |none=>rw[e]at p2;exact p2.elim
   |some is=>
    rw[e]at p2;have ex:=Nt e r;subst ex;dsimp only at p2;split at p2
    ·rename_i hb;exact⟨b,rfl,.inl ⟨is,sq,Dg hb,p2 _ H1 (AD.refl H1) rfl⟩⟩
    ·exact p2.elim
  |tup ds=>
   obtain⟨b,xs,rfl,_,sq,r⟩:=r1.tup_of;have p2:A9 (fun H=>Rep X.K CL H A) W H1 (Rt ds) Q:=p1
   unfold Rt at p2;cases e:Lx ds with
   |none=>rw[e]at p2;exact p2.elim
   |some ks=>
    rw[e]at p2;dsimp only at p2;split at p2
    ·rename_i hb;obtain⟨h1,h2⟩:=(Aj _ _).mp hb;exact⟨b,rfl,.inr ⟨xs,ks,sq,nN e r,Dg h1,h2,p2 _ H1 (AD.refl H1) rfl⟩⟩
    ·exact p2.elim
  | _=>exact p1.elim⟩
end
section
end
section
variable{X:Cx}
variable{CL:ClA}{W:XW}{o e:An}{fe:Rho->R D}{i:Ag}{apos cpos pos:AG}
end
section
open PySem.AutoSeq1 (wpAny_loadPart')
end
section
variable{prog:AO}{w:A4}{A:A2}{R:Jk->Ar->Prop}{I S T:Am}{u v:Al}{c:Ag}{P:Ag->Al->Prop}{St:Ag->AF->Prop}{s:Ar}{r q:Ac Af}
end
section
variable{X:Cx}{CL:ClA}{W:XW}
end
def OO(e T:Am)(cls:Al)(dx:Ap Am)(fl:Al)(h:AF):Prop:=∃ oe vs oT ts a0,h.get? e=Aa oe/\oe.cls=cls/\oe.dict=dx/\vs[0]?=Aa a0/\oe.data=.fields vs/\vs[1]?=Aa (.ref T)/\T≠e/\h.get? T=Aa oT/\oT.data=.fields ts/\ts[3]?=Aa fl
noncomputable abbrev Fly(e T:Am)(cls:Al)(dx:Ap Am)(h:AF):Prop:=OO e T cls dx DE h
noncomputable def F7(C:Am)(dx:Ap Am)(t:Am):C3:={cls:=.ref C,dict:=dx,data:=.fields #[.ref t,.none,.none,.none,.bool Ad,.none]}
structure Shift (ex fs:Ac Am) (h h':AF):Prop where
 keep:∀ b o,h.get? b=Aa o->b∉ex->b∉fs->h'.get? b=Aa o
 slot:∀ b o,h.get? b=Aa o->b∈fs->∃ sl,h'.get? b=Aa {o with slots:=sl}
theorem Shift.trans{ex fs:Ac Am}{h1 h2:AF}(a:Shift ex fs h h1)(b:Shift ex fs h1 h2):Shift ex fs h h2:=
 ⟨fun c o q n m=>b.keep c o (a.keep c o q n m) n m,fun c o q m=>by
  obtain⟨sl,e1⟩:=a.slot c o q m;obtain⟨sl',e2⟩:=b.slot c _ e1 m;exact⟨sl',e2⟩⟩
theorem ObjOk.isThere:∀(o:HO),L2.ObjOk P w H h a o->∃ ob,h.get? a=Aa ob
 |.lst _,x=>by obtain⟨_,_,_,_,e⟩:=x;exact⟨_,e⟩
 |.tup _,x=>by obtain⟨_,_,_,p⟩:=x;obtain⟨o,e,_⟩:=p;exact⟨_,e⟩
 |.dK _,x=>by obtain⟨_,_,_,_,o,_,_,e,_⟩:=x;exact⟨_,e⟩
 |.dT _,x=>by obtain⟨_,_,_,_,o,_,_,e,_⟩:=x;exact⟨_,e⟩
 |.set _ _,x=>by obtain⟨o,_,_,_,e,_⟩:=x;exact⟨_,e⟩
 |.ins _ _ _,x=>by obtain⟨_,_,_,e,_⟩:=x;exact⟨_,e⟩
 |.own _,x=>x
 |.xd _,x=>by obtain⟨_,⟨_,_,_,e,_⟩,_⟩:=x;exact⟨_,e⟩
 |.met _ _,x=>⟨_,x⟩
 |.rng _ _,x=>by obtain⟨_,_,_,e⟩:=x;exact⟨_,e⟩
 |.frz _ _,x=>⟨_,x.1⟩
 |.tbl _,x=>⟨_,x⟩
 |.ext _,x=>x.2.1
theorem Ld(x:HOk P w H h)(e:h.get? a=Ae):H a=Ae:=by
 cases q:H a with
 |none=>rfl
 |some o=>
  obtain⟨ob,z⟩:=ObjOk.isThere o (x a o q);rw[e]at z;cases z
theorem HOk.shift{ex fs:Ac Am}(x:HOk P w H h)(sh:Shift ex fs h h')(h1:∀ b∈ex,H b=Ae)(h2:∀ b∈fs,H b=Ae):HOk P w H h':=fun a o e=>
 (x a o e).stay (fun b u hb q=>by
  have hs:∃ v,H b=Aa v:=by
   rcases hb with rfl|hb
   ·exact⟨_,e⟩
   ·exact⟨_,hb⟩
  obtain⟨v,hv⟩:=hs;exact sh.keep b u q (fun z=>by rw[h1 b z]at hv;cases hv) (fun z=>by rw[h2 b z]at hv;cases hv)) (fun _ q=>q) fun _ _ q=>q
theorem Un.shift{fs0 fs ex:Ac Am}{h0:AF}(u:Un fs0 [] H H' h0 h)(sh:Shift ex fs h h')(h1:∀ b∈ex,h0.get? b=Ae)(h2:∀ b∈fs,b∈fs0\/h0.get? b=Ae):Un fs0 [] H H' h0 h' where
 keep:=fun b o q n hb hx=>sh.keep b o (u.keep b o q n hb hx) (fun z=>by rw[h1 b z]at q;cases q) fun z=>(h2 b z).elim hb fun e=>by rw[e]at q;cases q
 slot:=fun b o q n hb hx=>by
  obtain⟨sl,e1⟩:=u.slot b o q n hb hx;by_cases hf:b∈fs
  ·obtain⟨sl',e2⟩:=sh.slot b _ e1 hf;exact⟨sl',e2⟩
  ·exact⟨sl,sh.keep b _ e1 (fun z=>by rw[h1 b z]at q;cases q) hf⟩
 free:=u.free
 there:=fun b o q hx=>by
  obtain⟨o',e1⟩:=u.there b o q hx;by_cases hf:b∈fs
  ·obtain⟨sl',e2⟩:=sh.slot b _ e1 hf;exact⟨_,e2⟩
  ·exact⟨o',sh.keep b _ e1 (fun z=>by rw[h1 b z]at q;cases q) hf⟩
 tups:=u.tups
 frzs:=u.frzs
 tbls:=u.tbls
theorem qP(f:Be Al->Be Al)(o:C3):(FZ f o).dict=o.dict:=by
 obtain⟨c,d,dt,sl⟩:=o;cases dt<;>rfl
section
variable{M:GU}{A:A2}{E:Vq}{s:Ar}{env:B9}{outer:Ac B9}{L e T:Am}{cls:Al}{dx:Ap Am}{base h:AF}
theorem Tv{hd:Al}{nx:Ak}(hfr:A.frames=Aa (env::outer))(hf:env.frame=Aa L)(ff:s.heap.FunFrames base (env::outer))(he:s.heap.get? e=Aa oe)(dt:oe.data=.fields vs)(hz:1<vs.size)(hQ:∀ h' T' oT ts,h'.get? e=Aa (FZ (·.setIfInBounds 1 (.ref T')) oe)->T'≠e->s.heap.get? T'=Ae->h'.get? T'=Aa oT->oT.data=.fields ts->ts[3]?=Aa (D8 L)->Shift [e] (frs (env::outer)) s.heap h'->Q () {s with heap:=h'}):
  Ax M A (do
   let fr <-frameOf env
   let pl <-entryPlaceOf L nx
   let en <-YM hd fr .none (D8 L) .none pl
   setField (.ref e) 1 en) Q E s:=by
 have nf:e∉frs (env::outer):=fun z=>by
  obtain⟨_,o,q,n⟩:=ff.mem z;rw[he]at q;cases q;exact n vs dt
 refine Ao (wpAny_frameOf_fun hfr ff hf fun k1 so=>Ao (wpAny_entryPlaceOf fun pl ip=>?_))
 obtain⟨sz,sm,sl⟩:=so;have e1:k1.get? e=Aa oe:=(sm e nf).trans he;unfold YM;unfold newFields;refine Ao (CV ?_ (ip.sizeOk5 _ _ _ _ _));generalize hX:({ cls:=.type "traceback", dict:=Ae,data:=.fields ([hd,.ref L,.none,D8 L,.none]++(if pl.isEmpty then GD 6 DE else pl)).toArray }:C3)=ob
 have od:ob.data=.fields ([hd,.ref L,.none,D8 L,.none]++(if pl.isEmpty then GD 6 DE else pl)).toArray:=by rw[<-hX]
 have nl:k1.objs.size≠e:=Eu (AE e1);have e2:=As ob e1;refine FH e2 dt hz ?_;have up:∀ b,b≠e->((k1.push ob).update e (FZ (·.setIfInBounds 1 (.ref k1.objs.size)))).get? b=(k1.push ob).get? b:=fun b nb=>Cy _ _ (CP nb)
 have lf:ob.isFreed=Ad:=by rw[<-hX];rfl
 refine hQ _ k1.objs.size ob _ (CJ _ e2 (EA (Dh dt _))) nl ?_ ((up _ nl).trans (AK k1 lf)) od ?_ ⟨fun b o q n1 n2=>?_,fun b o q hb=>?_⟩
 ·rw[sz];exact Dp (AW _)
 ·simp
 ·have nb:b≠e:=fun z=>n1 (by rw[z];exact AB)
  rw[up b nb];exact As ob ((sm b n2).trans q)
 ·obtain⟨sl',q'⟩:=sl b o q;have nb:b≠e:=fun z=>nf (z ▸ hb)
  exact⟨sl',(up b nb).trans (As ob q')⟩
theorem Ue{oT:C3}{ts:Be Al}{fl:Al}(hc:oe.cls=cls)(hx:oe.dict=dx)(h0:vs[0]?=Aa a0)(dt:oe.data=.fields vs)(hz:1<vs.size)(g:h'.get? e=Aa (FZ (·.setIfInBounds 1 (.ref T')) oe))(ne:T'≠e)(gT:h'.get? T'=Aa oT)(dT:oT.data=.fields ts)(f3:ts[3]?=Aa fl):OO e T' cls dx fl h':=
 ⟨_,_,oT,ts,a0,g,(Zv _ _).trans hc,(qP _ _).trans hx,by rw[Array.getElem?_setIfInBounds_ne (by decide)];exact h0,Dh dt _,by simp[hz],ne,gT,dT,f3⟩
theorem KZ{i:Ag}{v:Al}(q:vs[i]?=Aa v):i<vs.size:=(Array.getElem?_eq_some_iff.mp q).1
theorem UR(hfr:A.frames=Aa (env::outer))(hf:env.frame=Aa L)(ff:s.heap.FunFrames base (env::outer))(fl:Fly e T cls dx s.heap)(hQ:∀ h' T',OO e T' cls dx (D8 L) h'->Shift [e,T] (frs (env::outer)) s.heap h'->s.heap.get? T'=Ae->Q () {s with heap:=h'}):Ax M A (G1 (.ref e) env) Q E s:=by
 obtain⟨oe,vs,oT,ts,a0,he,hc,hx,h0,dt,h1,ne,hT,dT,h3⟩:=fl;have z3:=KZ h3;unfold G1;simp only[hf];refine Ao (BS he dt h1 ?_);rw[AA (by simp:(Co T != DE)=Ab)]
 refine Ao (BS hT dT h3 ?_);rw[AH (by simp[D8]:¬ (DE==D8 L)=Ab)]
 refine Ao (FH hT dT z3 ?_);have up:∀ b,b≠T->(s.heap.update T (FZ (·.setIfInBounds 3 DE))).get? b=s.heap.get? b:=fun b nb=>Cy _ _ (CP nb)
 have rcd:∀ b o,s.heap.get? b=Aa o->(∀ us,o.data≠.fields us)->b≠T:=fun b o q n z=>by
  rw[z,hT]at q;cases q;exact n ts dT
 refine Tv (base:=base) hfr hf (ff.of_keeps fun b o q n=>⟨o,(up b (rcd b o q n)).trans q,rfl⟩) ((up e (CP ne)).trans he) dt (KZ h1) fun h' T' oT' ts' g nT gn gT dT' f3 sh=>?_
 have T0:s.heap.get? T'=Ae:=by
  by_cases z:T'=T
  ·rw[z]at gn;rw[CJ _ hT (EA (Dh dT _))]at gn;cases gn
  ·rw[<-up T' z];exact gn
 refine hQ h' T' (Ue hc hx h0 dt (KZ h1) g nT gT dT' f3) ⟨fun b o q n1 n2=>?_,fun b o q hb=>?_⟩ T0
 ·simp only[Aw,A3,BZ,Dy]at n1;exact sh.keep b o ((up b n1.2).trans q) (by simp[n1.1]) n2
 ·obtain⟨_,o',q',n⟩:=ff.mem hb;rw[q]at q';cases q';exact sh.slot b o ((up b (rcd b o q n)).trans q) hb
theorem NI{fv:Al}(fl:OO e T cls dx fv s.heap)(hQ:∀ h',Fly e T cls dx h'->(∀ b o,b≠T->s.heap.get? b=Aa o->h'.get? b=Aa o)->Q () {s with heap:=h'}):Ax M A (HX (.ref e) Ae) Q E s:=by
 obtain⟨oe,vs,oT,ts,a0,he,hc,hx,h0,dt,h1,ne,hT,dT,h3⟩:=fl;have z3:=KZ h3;unfold HX;refine Ao (BS he dt h1 ?_);rw[AA (by simp:(Co T != DE)=Ab)]
 refine FH hT dT z3 (hQ _ ?_ fun b o nb q=>(Cy _ _ (CP nb)).trans q)
 exact⟨oe,vs,_,_,a0,(Cy _ _ ne).trans he,hc,hx,h0,dt,h1,ne,CJ _ hT (EA (Dh dT _)),Dh dT _,by simp[z3]⟩
theorem PF{h1 h2:AF}{ex:Ac Am}(ff:s.heap.FunFrames base (env::outer))(sh:Shift ex (frs (env::outer)) s.heap h1)(hT:s.heap.get? T'=Ae)(k:∀ b o,b≠T'->h1.get? b=Aa o->h2.get? b=Aa o):Shift ex (frs (env::outer)) s.heap h2:=
 ⟨fun b o q n1 n2=>k b o (fun z=>by rw[z,hT]at q;cases q) (sh.keep b o q n1 n2),fun b o q hb=>let ⟨sl,q'⟩:=sh.slot b o q hb;⟨sl,k b _ (fun z=>by rw[z,hT]at q;cases q) q'⟩⟩
theorem fK(hfr:A.frames=Aa (env::outer))(hf:env.frame=Aa L)(ff:s.heap.FunFrames base (env::outer))(fl:Fly e T cls dx s.heap)(hQ:∀ h' T',Fly e T' cls dx h'->Shift [e,T] (frs (env::outer)) s.heap h'->(T'=T\/s.heap.get? T'=Ae)->Q () {s with heap:=h'}):Ax M A (leaving env (.ref e)) Q E s:=by
 unfold leaving;exact Ao (UR hfr hf ff fl fun h1 T' f1 sh hT=>NI f1 fun h2 f2 k=>hQ h2 T' f2 (PF ff sh hT k) (.inr hT))
theorem eA(hfr:A.frames=Aa (env::outer))(hf:env.frame=Aa L)(ff:s.heap.FunFrames base (env::outer))(he:s.heap.get? e=Aa oe)(hc:oe.cls=cls)(hx:oe.dict=dx)(dt:oe.data=.fields vs)(h0:vs[0]?=Aa a0)(h1:vs[1]?=Aa .none)(hQ:∀ h' T',Fly e T' cls dx h'->Shift [e] (frs (env::outer)) s.heap h'->s.heap.get? T'=Ae->Q () {s with heap:=h'}):Ax M A (leaving env (.ref e)) Q E s:=by
 unfold leaving G1;simp only[hf];refine Ao (Ao (BS he dt h1 ?_));rw[AH (by decide)]
 exact Tv (base:=base) hfr hf ff he dt (KZ h1) fun h' T' oT ts g nT gn gT dT f3 sh=>NI (Ue hc hx h0 dt (KZ h1) g nT gT dT f3) fun h2 f2 k=>hQ h2 T' f2 (PF ff sh gn k) gn
theorem jK(hfr:A.frames=Aa (env::outer))(hf:env.frame=Aa L)(ff:s.heap.FunFrames base (env::outer))(fl:Fly e T cls dx s.heap)(hQ:∀ h' T',Fly e T' cls dx h'->Shift [e,T] (frs (env::outer)) s.heap h'->(T'=T\/s.heap.get? T'=Ae)->Q () {s with heap:=h'}):Ax M A (G1 (.ref e) env) (fun _ s2=>Ax M A (HX (.ref e) Ae) Q E s2) E s:=
 UR hfr hf ff fl fun h1 T' f1 sh hT=>NI f1 fun h2 f2 k=>hQ h2 T' f2 (PF ff sh hT k) (.inr hT)
theorem fL{l:Ac B9}{A':A2}(ff:s.heap.FunFrames base l)(fl:Fly e T cls dx s.heap)(hQ:∀ h' T',Fly e T' cls dx h'->Shift [e,T] (frs l) s.heap h'->(T'=T\/s.heap.get? T'=Ae)->Q () {s with heap:=h'}):Ax M A' (HX (.ref e) Ae) Q E s:=by
 obtain⟨oe,vs,oT,ts,a0,he,hc,hx,h0,dt,h1,ne,hT,dT,h3⟩:=id fl;refine NI fl fun h' f' k=>hQ h' T f' ⟨fun b o q n1 n2=>k b o (fun z=>n1 (by rw[z];simp)) q,fun b o q hb=>⟨o.slots,k b o (fun z=>?_) q⟩⟩ (.inl rfl)
 obtain⟨_,o',q',n⟩:=ff.mem hb;rw[z,hT]at q';cases q';exact n ts dT
end
def CXR(P:AO)(w:A4):CXT:=fun outer H s E ev s'=>∃ e T cls dx H',ev=.ref e/\s'.os=s.os/\FD s'.gens/\Un (frs outer) [] H H' s.heap s'.heap/\HOk P w H' s'.heap/\Fly e T cls dx s'.heap/\H' e=Ae/\H' T=Ae/\s.heap.get? e=Ae/\s.heap.get? T=Ae/\E cls dx H'
def Na(X:Cx)(CL:ClA)(W:XW):Prop:=∀ pI σ H s e C dx t x,Inv X pI σ H s->(X.ex=[]->X.s₀.heap.get? e=Ae)->H e=Ae->s.heap.get? e=Aa (F7 C dx t)->F8 X.K CL H (.ref C) dx x->W x H->X.xe (.ref e) s
section
variable{P:AO}{w:A4}{K:Fg}{mg:Ai->Ap Al}{base:AF}{N:Ac Ai}{qual:Ai}{scope:B5}{f:Am}{cd:Al}{A:A2}{outer:Ac B9}{s:Ar}{H:Hp}{E:XK}{CL:ClA}{W:XW}
theorem Qr{s:Ar}(I:Inv X pI σ H s):∀ b∈frs X.stack,b∈X.fs\/X.s₀.heap.get? b=Ae:=fun b hb=>by
 rcases Aw.mp (I.stkSub b hb) with z|z
 ·exact .inr (by rw[z];exact Dp I.ok.above)
 ·exact .inl z
theorem Kb{s:Ar}{b:Am}(I:Inv X pI σ H s)(hx:X.ex=[])(h:s.heap.get? b=Ae):X.s₀.heap.get? b=Ae:=by
 cases q:X.s₀.heap.get? b with
 |none=>rfl
 |some o=>
  obtain⟨o',z⟩:=I.base.there b o q (by rw[hx];simp)
  rw[h]at z;cases z
theorem bh(hE:∀ x cls dx H',W x H'->F8 K CL H' cls dx x->E cls dx H'):∀ A',Lp (CXR P w) (EG (CXR P w) P w K mg base N qual scope f cd A outer s H E) (EKW K CL A' W):=by
 intro A' pI σ H1 s1 ev s2 I h;obtain⟨e,T,cls,dx,H',rfl,os,bare,un,hok,fl,he,hT,ne,nT,x,xr,wx⟩:=h;have I':=I.call' (s':=s2) (ch:=[]) os un hok bare (fun b z=>absurd z (by simp))
 have hb0:Un (frs outer) [] H H' s.heap s2.heap:=I'.base;show Ax (model P w) (A.deeper (Ev qual scope s.heap.objs.size f cd)) (leaving (Ev qual scope s.heap.objs.size f cd) (.ref e)) _ _ s2;refine fK (L:=s.heap.objs.size) I'.ok.frames rfl I'.stack fl fun h' T' fl' sh hT'=>?_
 have e0:s.heap.get? e=Ae:=Kb I rfl ne;have T0:s.heap.get? T=Ae:=Kb I rfl nT;refine⟨e,T',cls,dx,H',rfl,I'.os,bare,Un.shift hb0 sh ?_ (Qr I'),HOk.shift hok sh ?_ I'.stkFree,fl',he,?_,e0,?_,?_⟩
 ·intro b hb;rcases Aw.mp hb with rfl|hb
  ·exact e0
  ·rw[BA.mp hb];exact T0
 ·intro b hb;rcases Aw.mp hb with rfl|hb
  ·exact he
  ·rw[BA.mp hb];exact hT
 ·rcases hT' with rfl|z
  ·exact hT
  ·exact Ld hok z
 ·rcases hT' with rfl|z
  ·exact T0
  ·exact Kb I' rfl z
 ·exact hE x cls dx H' wx xr
theorem rzR(hE:∀ x cls dx H',W x H'->F8 K CL H' cls dx x->E cls dx H'):Na (EG (CXR P w) P w K mg base N qual scope f cd A outer s H E) CL W:=by
 intro pI σ H1 s1 e C dx t x I e0 he ge xr hw;have hb0:Un (frs outer) [] H H1 s.heap s1.heap:=I.base;have e0':s.heap.get? e=Ae:=e0 rfl;show Ax (model P w) (A.deeper (Ev qual scope s.heap.objs.size f cd)) (leaving (Ev qual scope s.heap.objs.size f cd) (.ref e)) _ _ s1;refine eA (cls:=.ref C) (dx:=dx) (L:=s.heap.objs.size) I.ok.frames rfl I.stack ge rfl rfl rfl (a0:=.ref t) rfl rfl fun h' T' fl' sh hT'=>?_
 have one:∀{Z:Am->Prop},Z e->∀ b∈[e],Z b:=fun {Z} z b hb=>by rw[BA.mp hb];exact z
 exact⟨e,T',.ref C,dx,H1,rfl,I.os,I.bare,Un.shift hb0 sh (one e0') (Qr I),HOk.shift I.hok sh (one (Z:=fun b=>H1 b=Ae) he) I.stkFree,fl',he,Ld I.hok hT',e0',Kb I rfl hT',hE x _ dx H1 hw xr⟩
theorem ownR:Fs (model P w) (EG (CXR P w) P w K mg base N qual scope f cd A outer s H E).A (EG (CXR P w) P w K mg base N qual scope f cd A outer s H E).env (EG (CXR P w) P w K mg base N qual scope f cd A outer s H E).xe:=Zx
end
noncomputable def veB:Ac Al:=[.type "ValueError", .type "Exception", .type "BaseException", .type "object"]
noncomputable def D9(K:Fg)(C:Am)(v:Ap Al):Ak:=match K.lookup C with
  | some ⟨.type "type", _,.cls c,z⟩=>(match c.mro,z.toList with
    |.ref c0::tl,[_,_,_,_,Aa (.builtin nw),_]=>c0==C&&(nw == "ValueError.__new__" && (!c.hasDel&&(PySem.W.tailIn K veB tl&&(ZW K c.ns&&Bl K c.ns "__init__" == Aa v))))
    | _,_=>Ad)
  |_=>Ad
theorem Mx(q:Ef K C veB "ValueError.__new__" = Ab):D9 K C Ae=Ab:=by
 unfold Ef at q;unfold D9;split at q
 ·rename_i dd cd sl ho;split at q
  ·rename_i C' bm k0 k1 k2 k3 n k5 hm hs;simp only[Aj]at q;obtain⟨⟨⟨⟨⟨h1,h2⟩,h3⟩,h4⟩,h5⟩,h6⟩:=q;simp only[ho,hm,hs,Aj];exact⟨h1,h2,h3,h4,h5,h6⟩
  ·cases q
 ·cases q
structure XcOk (K:Fg) (C:Am):Prop where
 exc:∃ v,D9 K C v=Ab
 ga:At K (.ref C) "__getattribute__" = Aa (Aa (.builtin "BaseException.__getattribute__"))
 gt:At K (.ref C) "__getattr__" = Aa Ae
 cl:At K (.ref C) "__class__" = Aa (Aa (.builtin "object.__class__"))
 ob:Cv K C (.type "object")=Aa Ab
 be:AM K (.ref C) (.type "BaseException")=Aa Ab
 cs:(EX K C).isSome=Ab
 ve:DX K (.ref C) (.type "ValueError")=Aa Ab
def XAt(e C:Am)(h:AF):Prop:=∃ o,h.get? e=Aa o/\o.cls=.ref C
theorem vG{N:Am}{v:Al}(X:K.In h)(G:h.Ns N m)(q:Bl K N x=Aa (Aa v)):m x=Aa v:=by
 obtain⟨ob,es,ep,g,dt,_,fd⟩:=G;unfold Bl at q;split at q
 ·rename_i es' n' sl lk;have g':=X _ _ lk;rw[g]at g';cases g';cases dt;split at q
  ·rename_i hf;cases q;rw[<-fd];unfold nsFind findBy;rw[<-Array.find?_toList,hf];rfl
  ·by_cases z:(es.toList.any fun y=>y.refKey)=Ab
   ·rw[AA z]at q;cases q
   ·rw[AH z]at q;cases q
 ·cases q
theorem PZ{h0:AF}(X0:K.In h0)(q:D9 K C v=Ab):
  ∃ bm N nm qn bs hd sn sub ab col dd k0 k1 k2 k3 k5 mN,(∀ h:AF,K.In h->h.get? C=Aa (Cd nm qn C N bs bm hd sn sub ab col dd k0 k1 k2 k3 k5 "ValueError.__new__")/\h.Ns N mN/\DV h veB bm)/\mN "__init__" = v/\bm.contains (.type "BaseException")=Ab:=by
 unfold D9 at q;split at q
 ·rename_i dd cd sl ho;split at q
  ·rename_i C' bm k0 k1 k2 k3 n k5 hm hs;simp only[Aj,AT,Bt]at q;obtain⟨rfl,rfl,hdel,ht,hok,hni⟩:=q;obtain⟨nm,bs,mro,ns,qn,hd,sn,sub,ab,col,del⟩:=cd;dsimp only at hm hdel hok hni;subst hm hdel;have hsl:sl=#[k0,k1,k2,k3,Aa (.builtin "ValueError.__new__"),k5]:=by
    obtain⟨l⟩:=sl;simp only at hs;rw[hs]
   subst hsl;have kN:∃ o,K.lookup ns=Aa o:=by
    unfold ZW at hok;split at hok
    ·rename_i z;exact⟨_,z⟩
    ·cases hok
   obtain⟨oN,hoN⟩:=kN;have nsAt:∀ h:AF,K.In h->h.Ns ns (h0.nsMap ns):=fun h X=>by
    obtain⟨o,es,ep,e1,r⟩:=Heap.Ns.of_isNs (ZS X0 hok);have e2:=X0 _ _ hoN;rw[e1]at e2;cases e2;exact⟨_,es,ep,X _ _ hoN,r⟩
   refine⟨bm,ns,nm,qn,bs,hd,sn,sub,ab,col,dd,k0,k1,k2,k3,k5,h0.nsMap ns,fun h X=>⟨X _ _ ho,nsAt h X,ZX X ht⟩,?_,(ZX X0 ht).hasType (by decide)⟩
   cases v with
   |none=>exact PySem.W.nsMap_none_of_in X0 hok hni
   |some u=>exact vG X0 (.of_isNs (ZS X0 hok)) hni
  ·cases q
 ·cases q
theorem qL(X:K.In h)(q:D9 K C v=Ab):
  ∃ bm N nm qn bs hd sn sub ab col dd k0 k1 k2 k3 k5 mN,h.get? C=Aa (Cd nm qn C N bs bm hd sn sub ab col dd k0 k1 k2 k3 k5 "ValueError.__new__")/\h.Ns N mN/\mN "__init__" = v/\DV h veB bm:=by
 obtain⟨bm,N,nm,qn,bs,hd,sn,sub,ab,col,dd,k0,k1,k2,k3,k5,mN,ho,hi,_⟩:=PZ X q;obtain⟨o1,o2,o3⟩:=ho h X;exact⟨bm,N,nm,qn,bs,hd,sn,sub,ab,col,dd,k0,k1,k2,k3,k5,mN,o1,o2,hi,o3⟩
section
variable{prog:AO}{w:A4}{A:A2}{E:Vq}{h:AF}{g:Be Fp}{d:HU}{t:Ag}{os:Hn}{K:Fg}{e C:Am}
theorem Jy(p:XAt e C h):PySem.W.Looks M h (typeOf (.ref e)) (.ref C):=by
 obtain⟨o,h1,h2⟩:=p;exact h2 ▸ (PySem.W.Looks.ld h1).andThen .now
theorem iS{R:Jk->Ar->Prop}{tp:Al}(X:K.In h)(p:XAt e C h)(hm:Cv K C (.type "object")=Aa Ab)(hq:R (.ok (.ret (.ref C))) ⟨h,g,d,t,os⟩):
  FE (model prog w) A (.call (.builtin "getset_descriptor.__get__") ⟨[.builtin "object.__class__", .ref e,tp],[]⟩) R ⟨h,g,d,t,os⟩:=by
 have L0:=Jy (M:=model prog w) p;have L1:=PySem.W.looks_mroIn (M:=model prog w) X hm;refine DR PySem.W.KF.slot_gs.plain PySem.W.KF.entry_gs (PySem.W.KF.slot_gs.check _ _ _ _ _ _ _ _ PySem.W.KF.type_class (PySem.W.KF.args_gs _ _ _) ?_);unfold Builtin.«getset_descriptor.__get__» Builtin.Getset_descriptor.descrGet;rw[PySem.W.dga_obj];refine Ao (AI ?_);unfold Builtin.Getset_descriptor.descrGetter Builtin.Getset_descriptor.descrCheckInstance Builtin.Getset_descriptor.descrNameAndClass ID;simp only[PySem.W.KF.owner_class]
 repeat lk
 refine⟨GY _ (by decide +kernel),codeAny_builtin PySem.W.KF.entry_class ?_⟩
 unfold Builtin.«object.__class__» shownTypeOf
 repeat lk
 exact hq
theorem eK{Q:Fin->Ar->Prop}(X:K.In h)(x:XcOk K C)(p:XAt e C h)(hq:Q (.done (.ret (.ref C))) ⟨h,g,d,t,os⟩):
  Ax (model prog w) A (Builtin.«object.__getattribute__» ⟨[.ref e,.str "__class__" tk],[]⟩) Q E ⟨h,g,d,t,os⟩:=by
 have L0:=Jy (M:=model prog w) p;have L1:=Cp (M:=model prog w) X x.cl;have hT5:(⟨h,g,d,t,os⟩:Ar).TypeIs (.builtin "object.__class__") "getset_descriptor" := Zn;have f5:=Zn;have f6:=F.slot_gs_get.lookup;have f7:=F.slot_gs_set.lookup
 repeat (any_goals (first|assumption|with_reducible refine L0.at ?_|with_reducible refine L1.at ?_|wp_step))
 refine iS X p x.ob ?_
 repeat (any_goals (first|assumption|wp_step))
theorem Ti{nameV:Al}(X:K.In h)(x:XcOk K C)(p:XAt e C h)(hq:Q () ⟨h,g,d,t,os⟩):Ax M A (F4 "BaseException.__getattribute__" ⟨[.ref e,nameV],[]⟩) Q E ⟨h,g,d,t,os⟩:=by
 have hk:builtinKind "BaseException.__getattribute__" = Aa .slot:=by decide +kernel
 have hsplit:splitId "BaseException.__getattribute__" = Aa ("BaseException", "__getattribute__"):=by decide +kernel
 have L0:=Jy (M:=M) p;have L1:=ZV (M:=M) X x.be;have ha:=F.args_bexc_ga (.ref e) nameV;simp only[F4,hk,hsplit];refine Ao ?_
 ·unfold ID
  repeat (first|(with_reducible refine Ao (L0.at ?_))|(with_reducible refine L1.at ?_)|wp_step)
  exact hq
theorem lV{Q:Vq}(X:K.In h)(x:XcOk K C)(p:XAt e C h)(hq:Q (.ref C) ⟨h,g,d,t,os⟩):Ax (model prog w) A (getAttrBy (.ref e) (.str "__class__" tk) fill expr) Q E ⟨h,g,d,t,os⟩:=by
 have L0:=Jy (M:=model prog w) p;have L1:=Cp (M:=model prog w) X x.ga;have L2:=Cp (M:=model prog w) X x.gt;have f3:=FL.ga.bind (.ref e);have hx0:(expr&&Jr (Da "BaseException.__getattribute__"))=Ad:=by cases expr<;>rfl
 have hx2:(Da "BaseException.__getattribute__" == Da "object.__getattribute__")=Ad:=by decide +kernel
 have hx1:(Jr (Co C)&&Da "BaseException.__getattribute__" == Da "object.__getattribute__")=Ad:=by rw[hx2];rfl
 repeat (any_goals (first|assumption|with_reducible refine L0.at ?_|with_reducible refine L1.at ?_|with_reducible refine L2.at ?_|wp_step))
 refine DR FL.ga.plain Zh (Ti X x p (eK X x p ?_))
 repeat (any_goals (first|assumption|wp_step))
theorem dR{Q:Ap Al->Ar->Prop}(X:K.In h)(x:XcOk K C)(p:XAt e C h)(hq:Q (Aa (.ref C)) ⟨h,g,d,t+1,os⟩):Ax (model prog w) A (getAttr? (.ref e) "__class__") Q E ⟨h,g,d,t,os⟩:=by
 unfold getAttr? getAttrBy?
 repeat (any_goals (first|assumption|with_reducible apply lV X x p|wp_step))
end
theorem Uk{e C:Am}(x:XcOk K C):PySem.W.KitX K (.ref e) (.ref C) (XAt e C) where
 ty:=fun M h _ p=>Jy p
 it:=fun M h X _=>by
  obtain⟨cd,hc⟩:=Do.mp x.cs;unfold EX at hc;split at hc
  ·rename_i c' d' cd' sl' ho;intro A' Q' E' s' k q;unfold isType loadHead;exact Ao (wpAny_loadPart (k _ _ (X _ _ ho)) (AI q))
  ·cases hc
 ne:=fun h tp dd its n sl X htp=>by
  obtain⟨cd,hc⟩:=Do.mp x.cs;refine Bool.eq_false_iff.mpr fun q=>?_
  have e:C=tp:=ZO (AT.mp q);subst e;unfold EX at hc;split at hc
  ·rename_i c' d' cd' sl' ho;have z:=(X _ _ ho).symm.trans htp;cases z
  ·cases hc
 ca:=fun {_ _ _ _ _ s} X p k=>by
  obtain⟨h,g,d,t,os⟩:=s;exact dR X x p k
theorem iT{A:A2}{E:Vq}{g:Be Fp}{d:HU}{t:Ag}{os:Hn}{e C C':Am}{b:Ak}{Q:Ak->Ar->Prop}(X:K.In h)(p:XAt e C h)(x':XcOk K C')(hs:AM K (.ref C) (.ref C')=Aa b)(hq:Q b ⟨h,g,d,t,os⟩):Ax M A (excMatches (.ref e) (.ref C')) Q E ⟨h,g,d,t,os⟩:=by
 obtain⟨bm,N,nm,qn,bs,hd,sn,sub,ab,col,dd,k0,k1,k2,k3,k5,mN,hC',_,_,T⟩:=qL X x'.exc.choose_spec;have hcB:(Co C'::bm).contains (.type "BaseException")=Ab:=by rw[GV,T.hasType (show veB.contains (.type "BaseException")=Ab by decide),Ht]
 have L0:=Jy (M:=M) p;have L1:=ZV (M:=M) X hs;have f:=tc_notTuple;unfold excMatches
 repeat (first|(with_reducible refine Ao (L0.at ?_))|(with_reducible refine L1.at ?_)|(with_reducible refine Ao (L1.at ?_))|with_reducible refine B6 hC' ?_|(with_reducible refine E5 hC' ?_;rw[hcB])|wp_step)
 all_goals first|exact hq|(cases b<;>(wp_walk;exact hq))
def Hc(X:Cx)(pI:Pn)(e:Am):Prop:=e≠X.env.locals/\(∀ x c,X.env.cells.lookup x=Aa c->c≠e)/\(∀ p∈X.pn++pI,p.1≠e)/\X.s₀.heap.get? e=Ae
section
variable{X:Cx}{pI:Pn}{σ:L2.St}{H:Hp}{s:Ar}{e:Am}
theorem Mt(I:Inv X pI σ H s)(hx:X.ex=[])(h:s.heap.get? e=Ae):Hc X pI e:=by
 refine⟨?_,fun x c q z=>?_,fun p hp z=>?_,Kb I hx h⟩
 ·rintro rfl;obtain⟨m,⟨o,_,_,ho,_⟩,_⟩:=I.loc;rw[h]at ho;cases ho
 ·obtain⟨v,o,ho,_⟩:=I.cell x c q;rw[z,h]at ho;cases ho
 ·obtain⟨q,_⟩:=I.pin p hp;rw[z,h]at q;cases q
theorem T6{ex:Ac Am}(I:Inv X pI σ H s)(hx:X.ex=[])(sh:Shift ex (frs X.stack) s.heap h')(ha:∀ b∈ex,Hc X pI b)(hH:∀ b∈ex,H b=Ae):Inv X pI σ H {s with heap:=h'}:=by
 have kp:∀ b o,s.heap.get? b=Aa o->b∉ex->∃ sl,h'.get? b=Aa {o with slots:=sl}:=fun b o q n=>by
  by_cases hb:b∈frs X.stack
  ·exact sh.slot b o q hb
  ·exact⟨o.slots,sh.keep b o q n hb⟩
 have cellK:∀ x c,X.env.cells.lookup x=Aa c->∀ v,s.heap.IsCell c v->h'.IsCell c v:=fun x c q v ⟨o,ho,hd⟩=>by
  obtain⟨sl,z⟩:=kp c o ho fun z=>(ha c z).2.1 x c q rfl
  exact⟨_,z,hd⟩
 refine⟨I.ok,I.os,I.bare,?_,?_,fun x c q=>?_,I.free,I.freeC,fun p hp=>?_,HOk.shift I.hok sh hH I.stkFree,I.len⟩
 ·have b0:=I.base;rw[hx]at b0 ⊢;exact Un.shift b0 sh (fun b hb=>(ha b hb).2.2.2) (Qr I)
 ·obtain⟨m,⟨o,es,ep,ho,r⟩,hl⟩:=I.loc;obtain⟨sl,z⟩:=kp _ o ho fun z=>(ha _ z).1 rfl
  refine⟨m,⟨_,es,ep,z,r⟩,fun i x v e1 e2 e3=>?_⟩
  obtain⟨u,ru,l⟩:=hl i x v e1 e2 e3;refine⟨u,ru,?_⟩;rcases l with l|⟨k,c,q,z⟩
  ·exact .inl l
  ·exact .inr ⟨k,c,q,cellK x c q _ z⟩
 ·obtain⟨v,z⟩:=I.cell x c q;exact⟨v,cellK x c q v z⟩
 ·obtain⟨q,n,ne,nf,d⟩:=I.pin p hp;exact⟨sh.keep p.1 p.2 q (fun z=>(ha p.1 z).2.2.1 p hp rfl) (fun z=>(Aw.mp (I.stkSub p.1 z)).elim ne nf),n,ne,nf,d⟩
theorem fW(I:Inv X pI σ H s)(hx:X.ex=[])(ha:Hc X pI e)(hH:H e=Ae)(ho:∃ o,s.heap.get? e=Aa o)(p:φ s.heap)(hφ:∀ h1 h2:AF,φ h1->(∀ o,h1.get? e=Aa o->h2.get? e=Aa o)->φ h2):Inv X pI σ (upd H e (.ext φ)) s:=by
 have ne:∀ b o,H b=Aa o->b≠e:=fun b o q z=>by rw[z,hH]at q;cases q
 refine⟨I.ok,I.os,I.bare,⟨I.base.keep,I.base.slot,fun b o q n hb=>?_,I.base.there,fun b xs q=>?_,fun b o u q=>?_,fun b ps q=>?_⟩,I.loc,I.cell,?_,fun x c q=>?_,fun p hp=>?_,fun b o q=>?_,I.len⟩
 ·rw[Bu fun z=>by rw[z,ha.2.2.2]at q;cases q]
  exact I.base.free b o q n hb
 ·have:=I.base.tups b xs q;rw[Bu (ne _ _ this)];exact this
 ·have:=I.base.frzs b o u q;rw[Bu (ne _ _ this)];exact this
 ·obtain⟨more,this⟩:=I.base.tbls b ps q;exact⟨more,by rw[Bu (ne _ _ this)];exact this⟩
 ·rw[Bu fun z=>ha.1 z.symm];exact I.free
 ·rw[Bu (ha.2.1 x c q)];exact I.freeC x c q
 ·obtain⟨q,n,r⟩:=I.pin p hp;exact⟨q,by rw[Bu (ha.2.2.1 p hp)];exact n,r⟩
 ·by_cases hb:b=e
  ·subst hb;rw[ED]at q;cases q;exact⟨p,ho,hφ⟩
  ·rw[Bu hb]at q;exact(I.hok b o q).stay (fun c v hc z=>z) (fun c z=>by rw[Bu (ne _ _ z)];exact z) fun c zs z=>by rw[Bu (ne _ _ z)];exact z
theorem fV{i:Ag}{tk:Ag}(I:Inv X pI σ H s)(hN:X.N.Nodup)(hi:X.N[i]?=Aa n)(hn:s.heap.Ns X.env.locals m)(hn':h'.Ns X.env.locals (fun x=>if x=n then v else m x))(hs:Ew X.env.locals s.heap h'):Inv X pI (σ.set i Ae) H {s with heap:=h',toks:=tk}:=by
 obtain⟨m0,hn0,hl⟩:=I.loc;have em:m0=m:=by
  obtain⟨o,es,ep,h1,h2,_,h3⟩:=hn0;obtain⟨o',es',ep',h1',h2',_,h3'⟩:=hn;rw[h1]at h1';cases h1';rw[h2]at h2';cases h2'
  funext y
  rw[<-h3,<-h3']
 subst em;obtain⟨oL,_,_,hoL,_⟩:=id hn;have lt:∀ b o,X.s₀.heap.get? b=Aa o->b≠X.env.locals:=fun b o q=>Bc (AJ (AE q) I.ok.above)
 refine⟨I.ok,I.os,I.bare,⟨fun b o q n hb hx=>?_,fun b o q n hb hx=>?_,I.base.free,fun b o q hx=>?_,I.base.tups,I.base.frzs,I.base.tbls⟩,⟨_,hn',fun j y v' e1 e2 e3=>?_⟩,fun y c q=>?_,I.free,I.freeC,fun p hp=>?_,fun b ob q=>?_,by rw[A6];exact I.len⟩
 ·exact(hs.2 b (lt b o q)).trans (I.base.keep b o q n hb hx)
 ·obtain⟨sl,e1⟩:=I.base.slot b o q n hb hx;exact⟨sl,(hs.2 b (lt b o q)).trans e1⟩
 ·obtain⟨o',e1⟩:=I.base.there b o q hx;exact⟨o',(hs.2 b (lt b o q)).trans e1⟩
 ·by_cases hj:i=j
  ·subst hj;have:=GI e2;cases this
  ·rw[Cb hj]at e2;obtain⟨u',r',q⟩:=hl j y v' e1 e2 e3;refine⟨u',r',?_⟩;rcases q with ⟨k,e⟩|⟨k,c,e,z⟩
   ·refine .inl ⟨k,?_⟩;have:y≠n:=fun e=>hj (PU hN hi (e ▸ e1))
    simp[this,e]
   ·exact .inr ⟨k,c,e,z.sameBut hs (I.cne y c e)⟩
 ·obtain⟨w',z⟩:=I.cell y c q;exact⟨w',z.sameBut hs (I.cne y c q)⟩
 ·obtain⟨q,n,ne,nf,d⟩:=I.pin p hp;exact⟨(hs.2 p.1 ne).trans q,n,ne,nf,d⟩
 ·refine(I.hok b ob q).stay (fun c w' hc z=>(hs.2 c ?_).trans z) (fun _ q=>q) fun _ _ q=>q
  rintro rfl;have hfree:=I.free;rcases hc with z|hc
  ·rw[<-z,hfree]at q;cases q
  ·rw[hfree]at hc;cases hc
end
noncomputable def Cx.hot(X:Cx)(e:Am):Cx:={X with A:=X.A.mark (Aa (.ref e)),calm:=Ad,xe:=fun _ _=>AX}
section
variable{X:Cx}{pI:Pn}{σ:L2.St}{H:Hp}{s:Ar}{e:Am}
theorem vE(ok:X.Ok):(Cx.hot X e).Ok:=⟨ok.mod,ok.kind,ok.glob,ok.blt,ok.above,ok.inj,ok.has,ok.cab,fun z=>(nomatch z),ok.frames,ok.stk,ok.exf,ok.bs,ok.bsz,ok.noex,ok.exfs,ok.funs,ok.frf⟩
theorem Qq(I:Inv X pI σ H s)(e:Am):Inv (Cx.hot X e) pI σ H s:=⟨vE I.ok,I.os,I.bare,I.base,I.loc,I.cell,I.free,I.freeC,I.pin,I.hok,I.len⟩
theorem jE(ok:X.Ok)(I:Inv (Cx.hot X e) pI σ H s):Inv X pI σ H s:=⟨ok,I.os,I.bare,I.base,I.loc,I.cell,I.free,I.freeC,I.pin,I.hok,I.len⟩
theorem Sx.unset(x:Sx K CL Fz B ρ σ H)(i:Ag):Sx K CL Fz B (ρ.set i Ae) (σ.set i Ae) H:=by
 have get:∀(j:Ag)(y:D×Ak),(ρ.set i Ae)[j]?=Aa (Aa y)->i≠j/\ρ[j]?=Aa (Aa y):=fun j y h=>by
  by_cases hj:i=j
  ·subst hj;have:=GI h;cases this
  ·exact⟨hj,by rw[Cb hj]at h;exact h⟩
 have sub:∀ a,BG B (ρ.set i Ae) (σ.set i Ae) a->BG B ρ σ a:=fun a h=>by
  rcases h with h|⟨j,d,h1,h2⟩
  ·exact .inl h
  ·obtain⟨hj,h1⟩:=get j _ h1;rw[Cb hj]at h2;exact .inr ⟨j,d,h1,h2⟩
 refine⟨⟨fun j d h=>?_,fun j d h=>?_,by rw[A6,A6];exact x.len⟩,fun a h=>x.aok a (sub a h),fun j d a h1 h2=>?_,fun j k d f a h1 h2 h3 h4=>?_,x.same,by rw[A6,A6];exact x.len⟩
 ·obtain⟨hj,h1⟩:=get j _ h;obtain⟨v,q,r⟩:=x.good.sh j d h1;exact⟨v,by rw[Cb hj];exact q,Rep.sub sub _ r⟩
 ·obtain⟨hj,h1⟩:=get j _ h;obtain⟨a,xs,ds,q,z,ha,hh,rr⟩:=x.good.ow j d h1;exact⟨a,xs,ds,by rw[Cb hj];exact q,z,.inr ⟨j,d,h,by rw[Cb hj];exact q⟩,hh,Reps.sub sub _ rr⟩
 ·obtain⟨hj,h1⟩:=get j _ h1;rw[Cb hj]at h2;exact x.new j d a h1 h2
 ·obtain⟨hj,h1⟩:=get j _ h1;obtain⟨hk,h2⟩:=get k _ h2;rw[Cb hj]at h3;rw[Cb hk]at h4;exact x.dis j k d f a h1 h2 h3 h4
end
def IX(e C:Am)(dx:Ap Am)(h:AF):Prop:=∃ o,h.get? e=Aa o/\o.cls=.ref C/\o.dict=dx/\∃ us,o.data=.fields us
noncomputable def Ks(X:Cx)(CL:ClA)(pI:Pn)(σ:L2.St)(H:Hp)(y:Ex)(Xw:Vq):Prop:=
 ∀ s' H' e T cls dx,Inv X pI σ H' s'->AD H H'->Fly e T cls dx s'.heap->H' e=Ae->H' T=Ae->Hc X pI e->Hc X pI T->F8 X.K CL H' cls dx y->Xw (.ref e) s'
def STB(X:Cx)(CL:ClA)(body:Ac AQ)(f:Rho->O):Prop:=∀ Fz B pI s σ H D ρ (Xw:Vq),Fs (model X.prog X.w) X.A X.env Xw->Inv X pI σ H s->Sx X.K CL Fz B ρ σ H ->
  (match f ρ with
   |.exn y ρ'=>ρ'=ρ->Ks X CL pI σ H y Xw
   | o=>BP X.K CL Fz B (fun _ _=>AX) o D)->(∀ y ρ',f ρ=.exn y ρ'->ρ'=ρ)->Ax (model X.prog X.w) X.A (execs body X.env) (SP X pI D) Xw s
noncomputable def Sy(up:Ag->Ac Ag)(c i:Ag)(o:O)(fh:Rho->O):O:=match o with
  | .exn y ρ'=>if (up y.c).contains c=Ab then (match fh (ρ'.set i (Aa (.exc y.c y.fs,Ad))) with
      |.next ρ''=>.next (ρ''.set i Ae)
      |.ret d f=>.ret d f
      | _=>.bad) else .bad
  |o=>o
theorem qC{i:Ag}{hp:AG}{b:Ak}{rest:Ac EV}{s1:Ar}{ρ':Rho}{D:Ends}{e T1:Am}(hx:X.ex=[])(hN:X.N.Nodup)(hi:X.N[i]?=Aa n)(hl:X.env.scope.names.lookup n=Aa .local)(hg:Gl X g)(hm:X.mg g=Aa (.ref C'))(hdb:(g==("__debug__" : Ai))=Ad)(xc:XcOk X.K C')(hsu:AM X.K (.ref C) (.ref C')=Aa b)(hh:∀ e,SSs (Cx.hot X e) CL (fun _ _=>AX) (h0::hs) fh)(I1:Inv X pI σ H' s1)(fl1:Fly e T1 (.ref C) dx s1.heap)(ae:Hc X pI e)(aT1:Hc X pI T1)(he:H' e=Ae)(HT1:H' T1=Ae)(gx:Sx X.K CL Fz B ρ' σ H')(hcl:CL y.c=Aa C)(xr:F8 X.K CL H' (.ref C) dx y)(p2:b=Ab->BP X.K CL Fz B W (hdO i y ρ' fh) D)(p3:b=Ad->Ax (model X.prog X.w) X.A (JV (.ref e) X.env rest) (SP X pI D) X.xe s1):Ax (model X.prog X.w) X.A (JV (.ref e) X.env (.ExceptHandler (Aa (.Name g p1)) (Aa n) (h0::hs) hp::rest)) (SP X pI D) X.xe s1:=by
 obtain⟨Cx0,hcl0,ecl,hfs⟩:=xr (BG B ρ' σ) gx.aok;have xat:∀{h:AF}{T:Am},Fly e T (.ref C) dx h->XAt e C h:=fun {h T} z=>by
  obtain⟨oe,_,_,_,_,z1,z2,_⟩:=z;exact⟨oe,z1,z2⟩
 have xad:∀{h:AF}{T:Am},Fly e T (.ref C) dx h->IX e C dx h:=fun {h T} z=>by
  obtain⟨oe,vs,_,_,_,z1,z2,z3,_,z4,_⟩:=z;exact⟨oe,z1,z2,z3,vs,z4⟩
 have two:∀{T:Am}{Z:Am->Prop},Z e->Z T->∀ b∈[e,T],Z b:=fun {T Z} h1 h2 b hb=>by
  rcases Aw.mp hb with rfl|hb
  ·exact h1
  ·rw[BA.mp hb];exact h2
 refine wpAny_handleBy_cons (codeAny_handlers_test (Jw (X:=Cx.hot X e) (Qq I1 e) hg hm ?_ hdb)) (by intro q;cases q)
 refine iT (K:=X.K) I1.kIn (xat fl1) xc hsu ?_;cases b with
 |false=>exact p3 rfl
 |true=>
 have p2:=p2 rfl;refine codeAny_handlers_suite_as ?_;refine fL (base:=X.base) (l:=X.stack) I1.stack fl1 fun h3 T3 fl3 sh3 hT3=>?_
 have I3:=T6 I1 hx sh3 (two ae aT1) (two (Z:=fun b=>H' b=Ae) he HT1)
 obtain⟨oe,oeg,oec⟩:=xad fl3;have I3':=fW (φ:=IX e C dx) I3 hx ae he ⟨oe,oeg⟩ ⟨oe,oeg,oec⟩ fun h1 h2 ⟨o,q1,q2⟩ k=>⟨o,k o q1,q2⟩
 have sm3:AD H' (upd H' e (.ext (IX e C dx))):=fun b o q=>by rw[Bu fun z=>by rw[z,he]at q;cases q];exact q
 refine Qc (X:=Cx.hot X e) (i:=i) (v:=.ref e) (Qq I3' e) hN hi (.inl hl) rfl (fun s4 I4=>?_) (.inr hl)
 have x3:=gx.grow sm3;have nA:¬ BG B ρ' σ e:=fun z=>by
  obtain⟨xs,q⟩:=x3.aok e z;rw[ED]at q;cases q
 have rp:Rep X.K CL (upd H' e (.ext (IX e C dx))) (BG B ρ' σ) (.ref e) (.exc y.c y.fs):=by
  refine⟨e,C,IX e C dx,rfl,nA,hcl,ED,fun h ⟨o,z1,z2,_⟩=>⟨o,z1,z2⟩,?_⟩
  rcases hfs with z|⟨d,vs,ed,nd,hd,rf⟩
  ·exact .inl z
  ·exact .inr ⟨d,vs,nd,sm3 _ _ hd,Repf.kp (Kp.of sm3) _ rf,fun h ⟨o,z1,_,z3,z4⟩=>⟨o,z1,z3.trans ed,z4⟩⟩
 have x4:=x3.set i rp;have fin:∀{s5:Ar}{σ5:L2.St}{H5:Hp}{Q:F6->Ar->Prop},Inv (Cx.hot X e) pI σ5 H5 s5->(∀ s6,Inv X pI (σ5.set i Ae) H5 s6->Q () s6)->Ax (model X.prog X.w) X.A (do bindName X.env n .none;unbindBehindTheSuite X.env n hp) Q X.xe s5:=fun {s5 σ5 H5 Q} I5 k=>by
  have I5':=jE I1.ok I5;obtain⟨m,hn,_⟩:=id I5'.loc;refine wpAny_nameGoes_keeps hl hn (by rw[I1.ok.kind];rfl) fun h6 v6 hn6 sb6=>?_
  exact k _ (fV I5' hN hi hn hn6 sb6)
 refine Bf (hh e Fz B pI s4 _ _ {nx:=fun σ5 H5=>D.nx (σ5.set i Ae) H5,rt:=D.rt} I4 ⟨_,x4,?_⟩) (fun f s5 hf=>?_) fun _ _ z=>Ba z
 ·unfold hdO at p2;cases ef:fh (ρ'.set i (Aa (.exc y.c y.fs,Ad))) with
  |next ρ''=>rw[ef]at p2;exact fun σ5 H5 x5=>p2 _ _ (x5.unset i)
  |ret d b=>rw[ef]at p2;exact p2
  |brk _=>rw[ef]at p2;exact p2.elim
  |cont _=>rw[ef]at p2;exact p2.elim
  |exn _ _=>rw[ef]at p2;exact p2.elim
  |bad=>rw[ef]at p2;exact p2.elim
 ·cases f with
  |next=>
   obtain⟨σ5,H5,I5,q⟩:=hf;exact fin I5 fun s6 I6=>⟨_,H5,I6,q⟩
  |ret u=>
   obtain⟨v,σ5,H5,I5,r,q⟩:=hf;exact fin I5 fun s6 I6=>⟨v,_,H5,I6,r,q⟩
  |brk=>obtain⟨_,_,_,q⟩:=hf;exact Ba q
  |cont=>obtain⟨_,_,_,q⟩:=hf;exact Ba q
def SV(X:Cx)(CL:ClA)(up:Ag->Ac Ag)(g:Ai)(c:Ag):Prop:=∃ C',Gl X g/\X.mg g=Aa (.ref C')/\(g==("__debug__" : Ai))=Ad/\XcOk X.K C'/\∀ c' C,CL c'=Aa C->AM X.K (.ref C) (.ref C')=Aa ((up c').contains c)
theorem gO{Q:Flow->Ar->Prop}{hd:Ac EV}(hx:X.ex=[])(hst:X.stack=X.env::X.outer)(hfm:X.env.frame=Aa X.env.locals)(k:∀ e T1 cls dx H' s1,Inv X pI σ H' s1->AD H H'->Fly e T1 cls dx s1.heap->Hc X pI e->Hc X pI T1->H' e=Ae->H' T1=Ae->F8 X.K CL H' cls dx y->Ax (model X.prog X.w) X.A (JV (.ref e) X.env hd) Q X.xe s1):Ks X CL pI σ H y (fun ev s1=>Ax (model X.prog X.w) X.A (G1 ev X.env) (fun _ s2=>Ax (model X.prog X.w) X.A (HX ev Ae) (fun _ s3=>Ax (model X.prog X.w) X.A (JV ev X.env hd) Q X.xe s3) X.xe s2) X.xe s1):=by
 intro s' H' e T cls dx I' sm fl he hT ae aT xr;have two:∀{T:Am}{Z:Am->Prop},Z e->Z T->∀ b∈[e,T],Z b:=fun {T Z} h1 h2 b hb=>by
  rcases Aw.mp hb with rfl|hb
  ·exact h1
  ·rw[BA.mp hb];exact h2
 have hfr:X.A.frames=Aa (X.env::X.outer):=by rw[<-hst];exact I'.ok.frames
 refine jK (base:=X.base) hfr hfm (by rw[<-hst];exact I'.stack) fl fun h1 T1 fl1 sh1 hT1=>?_
 rw[<-hst]at sh1;exact k e T1 cls dx H' _ (T6 I' hx sh1 (two ae aT) (two (Z:=fun b=>H' b=Ae) he hT)) sm fl1 ae (hT1.elim (fun z=>z ▸ aT) fun z=>Mt I' hx z) he (hT1.elim (fun z=>z ▸ hT) fun z=>Ld I'.hok z) xr
theorem qS{c i:Ag}{hp:AG}{fb:Rho->O}(hx:X.ex=[])(hst:X.stack=X.env::X.outer)(hfm:X.env.frame=Aa X.env.locals)(hN:X.N.Nodup)(hi:X.N[i]?=Aa n)(hl:X.env.scope.names.lookup n=Aa .local)(h1:SV X CL up g c)(hb:STB X CL body fb)(hρ:∀ ρ y ρ',fb ρ=.exn y ρ'->ρ'=ρ)(hh:∀ e,SSs (Cx.hot X e) CL (fun _ _=>AX) (h0::hs) fh):SS X CL W (.Try body [.ExceptHandler (Aa (.Name g p1)) (Aa n) (h0::hs) hp] [] [] pos) (fun ρ=>Sy up c i (fb ρ) fh):=fun Fz B pI s σ H D I ⟨ρ,x,p⟩=>by
 refine wpAny_Try_except (Bf (hb Fz B pI s σ H D ρ _ PassesOwn.looking I x ?_ (hρ ρ)) (fun f s1 hf=>?_) fun _ _ z=>z)
 ·dsimp only at p;cases eb:fb ρ with
  |exn y ρ'=>
   rw[eb]at p;intro e0;subst e0;have p2:BP X.K CL Fz B W (if (up y.c).contains c=Ab then hdO i y ρ' fh else .bad) D:=p
   refine gO hx hst hfm fun e T1 cls dx H' s1 I1 sm fl1 ae aT1 he HT1 xr=>?_
   have gx:=x.grow sm;obtain⟨C,hcl,rfl,_⟩:=xr (BG B ρ' σ) gx.aok;obtain⟨C',hg,hm,hdb,xc,hup⟩:=h1;refine qC (W:=W) hx hN hi hl hg hm hdb xc (hup y.c C hcl) hh I1 fl1 ae aT1 he HT1 gx hcl xr (fun hc=>?_) (fun hc=>?_)
   ·rw[AA hc]at p2;exact p2
   ·rw[AH (by rw[hc];exact Ah)]at p2;exact p2.elim
  |next ρ'=>rw[eb]at p;exact p
  |ret d b=>rw[eb]at p;exact p
  |brk ρ'=>rw[eb]at p;exact p
  |cont ρ'=>rw[eb]at p;exact p
  |bad=>rw[eb]at p;exact p.elim
 ·cases f with
  |next=>exact Fk hf
  |ret u=>exact hf
  |brk=>exact hf
  |cont=>exact hf
theorem Uw{f:Am}{E:XK}{e:An}{es:Ac An}{t:TA}(F:FnOk X.prog X.w X.K X.mg X.base CX k f fd ps sp)(hr:Room k X.A)(hg:Gl X x)(hm:X.mg x=Aa (.ref f))(hk:B1 X.K (.ref f)=Ab)(hb:FP X.K fd ps [])(hx:∀ pI H s e s',Inv X pI σ0 H s->CX X.stack H s E e s'->X.xe e s')(ha:PA X (e::es) t)(hdb:(x==("__debug__" : Ai))=Ad)(he:Av (e::es) X.env=(Ad,eval e X.env)::Av es X.env)(hpl:(BN pos (Av es X.env)).any (·.1)=Ad):PE X (.Call (.Name x p) (e::es) [] pos) (fun σ H Q=>σ=σ0/\t σ H fun vs H1=>sp vs H1 Q E):=by
 intro pI s σ H Q I ⟨e0,h⟩;subst e0;refine Ek (Jw I hg hm ?_ hdb);refine GZ (h₀:=X.base) I.ok.mod.kin hk (thn (ha pos pI s σ H _ I h) fun us s1 ⟨vs,H1,I1,r,q⟩=>⟨I1.kIn,?_⟩) he hpl
 have hl:us.length=ps.length:=by rw[<-r.length];exact F.len _ _ _ _ q
 have hb':Gd s1 fd ⟨us,[]⟩ (ps.zip us):=by
  have:=hb s1 us I1.kIn (by rw[Ck];exact hl)
  rw[Ck]at this;exact this
 refine Gr (Ft (F.run X.A X.stack s1 H1 ⟨us,[]⟩ us vs Q E hr I1.env0 hb' r q) fun r s' hq=>?_)
 cases r with
 |error e=>exact hx pI H1 s1 e s' I1 hq
 |ok fl=>
  cases fl with
  |ret u=>exact I1.after hq
  |next=>exact Ba hq
  |brk=>exact Ba hq
  |cont=>exact Ba hq
def RF(K:Fg)(CL:ClA)(Rp:Hp->V->D->Prop)(E0:XK)(H:Hp)(r:R D)(Q:VK):Prop:=match r with
  |.ok d=>∀ v H',AD H H'->Rp H' v d->Q v H'
  |.exn y=>∀ cls dx H',AD H H'->F8 K CL H' cls dx y->E0 cls dx H'
  |.bad=>AX
theorem Nw{n:Ag}{f:Am}{e:An}{es:Ac An}{ft:Rho->R (Ac D)}{sh:Rho->Ak}{E0:XK}(G:FnOk X.prog X.w X.K X.mg X.base CX k f fd ps (spD X.K CL n fr F))(hr:Room k X.A)(hg:Gl X x)(hm:X.mg x=Aa (.ref f))(hk:B1 X.K (.ref f)=Ab)(hb:FP X.K fd ps [])(hx:∀ pI H s e s',Inv X pI σ0 H s->CX X.stack H s E0 e s'->X.xe e s')(ha:SA X CL (fun _ _=>AX) (e::es) fs)(hat:SAT X CL (fun _ _=>AX) (e::es) ft)(hst:∀ ρ,sh ρ=Ab->ft ρ=fs ρ)(hn:∀ ρ ds,ft ρ=.ok ds->ds.length=n)(hnx:∀ ρ y,ft ρ≠.exn y)(hdb:(x==("__debug__" : Ai))=Ad)(he:Av (e::es) X.env=(Ad,eval e X.env)::Av es X.env)(hpl:∀ pos,(BN pos (Av es X.env)).any (·.1)=Ad)(A:Am->Prop):PE X (.Call (.Name x p) (e::es) [] pos) (fun σ H Q=>σ=σ0/\AOk H A/\∃ ρ,Good X.K CL A ρ σ H/\RF X.K CL (Dr X.K CL fr H A) E0 H ((ft ρ).bind fun ds=>(F ds).bind fun d=>if sh ρ=Ab then .ok d else if FS fr d=Ab then .ok d else .bad) Q):=fun pI s σ H Q I ⟨e0,hA,ρ,gd,q⟩=>by
 by_cases hs:sh ρ=Ab
 ·rw[hst ρ hs]at q;refine Uw G hr hg hm hk hb hx (ha A) hdb he (hpl _) pI s σ H Q I ⟨e0,hA,ρ,gd,?_⟩;cases e1:fs ρ with
  |bad=>rw[e1]at q;exact q
  |exn y=>exact absurd (by rw[hst ρ hs];exact e1) (hnx ρ y)
  |ok ds=>
   rw[e1]at q;intro vs H1 s1 r1;refine⟨ds,A,by rw[r1.length];exact hn ρ ds (by rw[hst ρ hs];exact e1),hA.same s1,r1,?_⟩
   have q':RF X.K CL (Dr X.K CL fr H A) E0 H ((F ds).bind fun d=>if sh ρ=Ab then .ok d else if FS fr d=Ab then .ok d else .bad) Q:=q
   cases e2:F ds with
   |ok d=>
    rw[e2,R.bind_ok,AA hs]at q';exact fun v H2 s2 r2=>q' v H2 (s1.trans s2) ⟨r2.1,fun z ds' e'=>let ⟨a,xs,z1,z2,z3⟩:=r2.2 z ds' e';⟨a,xs,z1,s1.free z2,z3⟩⟩
   |exn y=>
    rw[e2]at q';exact fun cls dx H2 s2 xr=>q' cls dx H2 (s1.trans s2) xr
   |bad=>rw[e2]at q';exact q'.elim
 ·refine Uw G hr hg hm hk hb hx (hat A) hdb he (hpl _) pI s σ H Q I ⟨e0,hA,ρ,gd,?_⟩;cases e1:ft ρ with
  |bad=>rw[e1]at q;exact q
  |exn y=>exact absurd e1 (hnx ρ y)
  |ok ds=>
   rw[e1]at q;intro vs H1 s1 r1;refine⟨ds,A0,by rw[r1.plain.length];exact hn ρ ds e1,fun _ z=>z.elim,r1.plain,?_⟩
   have q':RF X.K CL (Dr X.K CL fr H A) E0 H ((F ds).bind fun d=>if sh ρ=Ab then .ok d else if FS fr d=Ab then .ok d else .bad) Q:=q
   cases e2:F ds with
   |ok d=>
    rw[e2,R.bind_ok,AH hs]at q';split at q'
    ·rename_i hc;exact fun v H2 s2 r2=>q' v H2 (s1.trans s2) (Q5 hA (s1.trans s2) hc ⟨r2.1,fun z ds' e'=>let ⟨a,xs,z1,z2,z3⟩:=r2.2 z ds' e';⟨a,xs,z1,s1.free z2,z3⟩⟩)
    ·exact q'.elim
   |exn y=>
    rw[e2]at q';exact fun cls dx H2 s2 xr=>q' cls dx H2 (s1.trans s2) xr
   |bad=>rw[e2]at q';exact q'.elim
noncomputable def Cx.pw(X:Cx)(pI:Pn)(Xw:Vq):Cx:={X with pn:=X.pn++pI,xe:=Xw}
section
variable{X:Cx}{pI pins':Pn}{σ:L2.St}{H:Hp}{s:Ar}{Xw:Vq}
theorem zN(ok:X.Ok):(Cx.pw X pI Xw).Ok:=⟨ok.mod,ok.kind,ok.glob,ok.blt,ok.above,ok.inj,ok.has,ok.cab,ok.hd,ok.frames,ok.stk,ok.exf,ok.bs,ok.bsz,ok.noex,ok.exfs,ok.funs,ok.frf⟩
theorem MI(I:Inv X pI σ H s)(Xw:Vq):Inv (Cx.pw X pI Xw) [] σ H s:=⟨zN I.ok,I.os,I.bare,I.base,I.loc,I.cell,I.free,I.freeC,fun p hp=>I.pin p (by
 rcases Ff.mp hp with z|z
 ·exact z
 ·exact absurd z (by simp)),I.hok,I.len⟩
theorem Lc(ok:X.Ok)(I:Inv (Cx.pw X pI Xw) pins' σ H s):Inv X pI σ H s:=⟨ok,I.os,I.bare,I.base,I.loc,I.cell,I.free,I.freeC,fun p hp=>I.pin p (DP _ hp),I.hok,I.len⟩
theorem NO(ok:X.Ok){D:Ends}{f:Flow}{s':Ar}(h:SP (Cx.pw X pI Xw) pins' D f s'):SP X pI D f s':=by
 cases f with
 |next=>obtain⟨σ',H',I,q⟩:=h;exact⟨σ',H',Lc ok I,q⟩
 |brk=>obtain⟨σ',H',I,q⟩:=h;exact⟨σ',H',Lc ok I,q⟩
 |cont=>obtain⟨σ',H',I,q⟩:=h;exact⟨σ',H',Lc ok I,q⟩
 |ret u=>obtain⟨v,σ',H',I,r,q⟩:=h;exact⟨v,σ',H',Lc ok I,r,q⟩
end
section
variable{X:Cx}{CL:ClA}{k n:Ag}{fr:Ak}{f:Am}{fd:BL}{ps:Ac Ai}{F:Ac D->R D}{x:Ai}{p pos pos2:AG}{e:An}{es:Ac An}{fs ft:Rho->R (Ac D)}{sh:Rho->Ak}
theorem Vh(hx:X.ex=[])(ok:X.Ok)(q:Ks X CL pI σ H y Xw):∀ pins' H1 s1 e s',Inv (Cx.pw X pI Xw) pins' σ H1 s1->CXR X.prog X.w (Cx.pw X pI Xw).stack H1 s1 (fun cls dx H'=>F8 X.K CL H' cls dx y/\AD H H') e s'->(Cx.pw X pI Xw).xe e s':=by
 intro pins' H1 s1 ev s' J h;obtain⟨e,T,cls,dx,H',rfl,os,bare,un,hok,fl,he,hT,ne,nT,xr,sm⟩:=h;have J':=Lc ok J;have J2:=J'.call' (s':=s') (ch:=[]) os un hok bare (fun b z=>absurd z (by simp))
 exact q s' H' e T cls dx J2 sm fl he hT (Mt J' hx ne) (Mt J' hx nT) xr
theorem Vi:∀ pins' H1 s1 e s',Inv (Cx.pw X pI Xw) pins' σ H1 s1->CXR X.prog X.w (Cx.pw X pI Xw).stack H1 s1 (fun _ _ _=>AX) e s'->(Cx.pw X pI Xw).xe e s':=by
 intro pins' H1 s1 ev s' J h;obtain⟨e,T,cls,dx,H',rfl,os,bare,un,hok,fl,he,hT,ne,nT,w⟩:=h;exact w.elim
variable(hx0:X.ex=[])(G:FnOk X.prog X.w X.K X.mg X.base (CXR X.prog X.w) k f fd ps (spD X.K CL n fr F))(hr:Room k X.A)(hg:Gl X x)(hm:X.mg x=Aa (.ref f))
    (hk:B1 X.K (.ref f)=Ab) (hb:FP X.K fd ps []) (hst:∀ ρ,sh ρ=Ab->ft ρ=fs ρ) (hn:∀ ρ ds,ft ρ=.ok ds->ds.length=n) (hnx:∀ ρ y,ft ρ≠.exn y)
    (hdb:(x==("__debug__" : Ai))=Ad) (he:Av (e::es) X.env=(Ad,eval e X.env)::Av es X.env) (hpl:∀ pos,(BN pos (Av es X.env)).any (·.1)=Ad)
    (ha:∀ pI Xw,Fs (model X.prog X.w) X.A X.env Xw->SA (Cx.pw X pI Xw) CL (fun _ _=>AX) (e::es) fs/\SAT (Cx.pw X pI Xw) CL (fun _ _=>AX) (e::es) ft)
include hx0 G hr hg hm hk hb hst hn hnx hdb he hpl ha
theorem gU(hs:CW (.Call (.Name x p) (e::es) [] pos) Ae pos2.line X.env=pure Ad):STB X CL [.Expr (.Call (.Name x p) (e::es) [] pos) pos2] (fun ρ=>O.of ρ ((ft ρ).bind fun ds=>(F ds).bind fun d=>if sh ρ=Ab then .ok d else if FS fr d=Ab then .ok d else .bad) fun _=>.next ρ):=by
 intro Fz B pI s σ H D ρ Xw own I sx q _;obtain⟨ha1,ha2⟩:=ha pI Xw own;dsimp only at q;cases er:(ft ρ).bind fun ds=>(F ds).bind fun d=>if sh ρ=Ab then .ok d else if FS fr d=Ab then .ok d else .bad with
 |bad=>rw[er]at q;exact q.elim
 |exn y=>
  rw[er]at q;have key:=Nw (X:=Cx.pw X pI Xw) (p:=p) (pos:=pos) (σ0:=σ) (fr:=fr) (F:=F) (n:=n) (sh:=sh) G hr hg hm hk hb (Vh hx0 I.ok (q rfl)) ha1 ha2 hst hn hnx hdb he hpl (BG B ρ σ);refine Bf (Mz (J7 (pos:=pos2) key hs) [] s σ H D (MI I Xw) ⟨rfl,sx.aok,ρ,sx.good,?_⟩) (fun _ _ z=>NO I.ok z) fun _ _ z=>z
  rw[er];exact fun cls dx H' sm xr=>⟨xr,sm⟩
 |ok d=>
  rw[er]at q;have key:=Nw (X:=Cx.pw X pI Xw) (p:=p) (pos:=pos) (σ0:=σ) (fr:=fr) (F:=F) (n:=n) (sh:=sh) (E0:=fun _ _ _=>AX) G hr hg hm hk hb Vi ha1 ha2 hst hn hnx hdb he hpl (BG B ρ σ)
  refine Bf (Mz (J7 (pos:=pos2) key hs) [] s σ H D (MI I Xw) ⟨rfl,sx.aok,ρ,sx.good,?_⟩) (fun _ _ z=>NO I.ok z) fun _ _ z=>z
  rw[er];exact fun v H' sm r=>q σ H' (sx.grow sm)
theorem kX{i:Ag}{m:Ai}(hN:X.N.Nodup)(hi:X.N[i]?=Aa m)(hl:Loc X.env.scope m)(hf:X.fn m=Ab\/X.env.scope.names.lookup m=Aa .local)(hs:CW (.Call (.Name x p) (e::es) [] pos) (Aa (.Name m pos')) pos2.line X.env=pure Ad):STB X CL [.Assign [.Name m pos'] (.Call (.Name x p) (e::es) [] pos) pos2] (fun ρ=>O.of ρ ((ft ρ).bind fun ds=>(F ds).bind fun d=>if sh ρ=Ab then .ok d else if FS fr d=Ab then .ok d else .bad) fun d=>.next (ρ.set i (Aa (d,Ad)))):=by
 intro Fz B pI s σ H D ρ Xw own I sx q _;obtain⟨ha1,ha2⟩:=ha pI Xw own;dsimp only at q;cases er:(ft ρ).bind fun ds=>(F ds).bind fun d=>if sh ρ=Ab then .ok d else if FS fr d=Ab then .ok d else .bad with
 |bad=>rw[er]at q;exact q.elim
 |exn y=>
  rw[er]at q;have key:=Nw (X:=Cx.pw X pI Xw) (p:=p) (pos:=pos) (σ0:=σ) (fr:=fr) (F:=F) (n:=n) (sh:=sh) G hr hg hm hk hb (Vh hx0 I.ok (q rfl)) ha1 ha2 hst hn hnx hdb he hpl (BG B ρ σ);refine Bf (Mz (NX (X:=Cx.pw X pI Xw) (i:=i) (pos:=pos2) hN hi hl key hs hf) [] s σ H D (MI I Xw) ⟨rfl,sx.aok,ρ,sx.good,?_⟩) (fun _ _ z=>NO I.ok z) fun _ _ z=>z
  rw[er];exact fun cls dx H' sm xr=>⟨xr,sm⟩
 |ok d=>
  rw[er]at q;have key:=Nw (X:=Cx.pw X pI Xw) (p:=p) (pos:=pos) (σ0:=σ) (fr:=fr) (F:=F) (n:=n) (sh:=sh) (E0:=fun _ _ _=>AX) G hr hg hm hk hb Vi ha1 ha2 hst hn hnx hdb he hpl (BG B ρ σ)
  refine Bf (Mz (NX (X:=Cx.pw X pI Xw) (i:=i) (pos:=pos2) hN hi hl key hs hf) [] s σ H D (MI I Xw) ⟨rfl,sx.aok,ρ,sx.good,?_⟩) (fun _ _ z=>NO I.ok z) fun _ _ z=>z
  rw[er];exact fun v H' sm r=>q _ H' ((sx.grow sm).set i r.1)
end
section
variable{X:Cx}{CL:ClA}{W:XW}
theorem gW{e:An}{es:Ac An}(hcalm:X.calm=Ab)(rz:Na X CL W)(hg:Gl X g)(hm:X.mg g=Aa (.ref C))(hdb:(g==("__debug__" : Ai))=Ad)(xc:D9 X.K C Ae=Ab)(hcl:CL c=Aa C)(ha:SA X CL W (e::es) fs)(hxn:∀ ds,xn c ds=.bad\/xn c ds=.ok ⟨c,[]⟩)(he:Av (e::es) X.env=(Ad,eval e X.env)::Av es X.env)(hpl:∀ pos,(BN pos (Av es X.env)).any (·.1)=Ad)(hz:∀ ρ ds,fs ρ=.ok ds->ds.length<=100000):SS X CL W (.Raise (Aa (.Call (.Name g np) (e::es) [] cpos)) Ae pos) (fun ρ=>O.of ρ (noX (fs ρ)) fun xs=>O.of ρ (xn c xs) fun x=>.exn x ρ):=fun Fz B pI s σ H D I ⟨ρ,x,p⟩=>by
 dsimp only at p;cases e1:fs ρ with
 |bad=>rw[e1]at p;exact p.elim
 |exn y=>rw[e1]at p;exact p.elim
 |ok ds=>
  rw[e1]at p;have p2:BP X.K CL Fz B W (O.of ρ (xn c ds) fun x=>.exn x ρ) D:=p
  rcases hxn ds with e2|e2
  ·rw[e2]at p2;exact p2.elim
  ·rw[e2]at p2;have p3:∀ H,(∀ b o,Fz b o->H b=Aa o)->W ⟨c,[]⟩ H:=p2;obtain⟨bm,N,nm,qn,bs,hd,sn,sub,ab,col,dd,k0,k1,k2,k3,k5,mN,hob,hni,hbase⟩:=PZ I.kIn xc;refine wpAny_Raise_call_subT (bmB:=veB) (nm:=nm) (q:=qn) (C:=C) (N:=N) (bs:=bs) (bm:=bm) (hdct:=hd) (sn:=sn) (sub:=sub) (ab:=ab) (col:=col) (dd:=dd) (k0:=k0) (k1:=k1) (k2:=k2) (k3:=k3) (k5:=k5) (mN:=mN) EW hbase (I.ok.hd hcalm) (by rw[he];show (Ad||(BN cpos (Av es X.env)).any (·.1))=Ad;rw[hpl];rfl) hni ?_
   refine Jw I hg hm ⟨rfl,?_⟩ hdb;have q1:=ha (BG B ρ σ) cpos pI s σ H (fun vs H1=>AD H H1/\vs.length=ds.length) I ⟨x.aok,ρ,x.good,by rw[e1];exact fun vs H1 s1 r1=>⟨s1,r1.length⟩⟩
   rw[he]at q1 ⊢;refine EI (Bf q1 (fun us s2 ⟨vs,H2,I2,r2,s2',hl⟩=>⟨rfl,?_⟩) fun _ _ z=>z)
   obtain⟨o1,o2,o3⟩:=hob _ I2.kIn;refine⟨?_,o1,o2,o3,fun h' ev hmade=>?_⟩
   ·rw[<-r2.length,hl,Dl];have:=hz ρ ds e1;omega
   ·obtain⟨t,ge,_⟩:=hmade.there;have I3:Inv X pI σ H2 {s2 with heap:=h'}:=I2.kept (t':=s2.toks) hmade.keeps
    exact rz pI σ H2 _ ev C Ae t ⟨c,[]⟩ I3 (fun hx=>Kb I2 hx hmade.new) (Ld I2.hok hmade.new) ge (fun A _=>⟨C,hcl,rfl,.inl rfl⟩) (p3 H2 fun b o z=>s2' _ _ (x.same b o z))
def MF(K:Fg)(CL:ClA)(up:Ag->Ac Ag)(c':Ag)(C':Am):Prop:=∀ c C,CL c=Aa C->DX K (.ref C) (.ref C')=Aa ((up c).contains c')
theorem Ul{s:Ar}{cv:Al}{b:Ak}{Q:VK}(I:Inv X pI σ H s)(ha:H a=Aa (.ext φ))(hφ:∀ h,φ h->∃ o,h.get? a=Aa o/\o.cls=.ref C)(xc:XcOk X.K C)(e:DX X.K (.ref C) cv=Aa b)(q:Q (.bl b) H):
  Ax (model X.prog X.w) X.A (call (.builtin "isinstance") [.ref a,cv]) (EP X pI σ Q) X.xe s:=by
 have p:XAt a C s.heap:=hφ _ (I.hok a _ ha).1;exact PySem.W.kia_one (Uk xc) I.kIn p e (by intro z;cases z) fun tk=>⟨.bl b,H,I.tok tk,rfl,q⟩
theorem Tr:∀(Cs:Ac Am){its:Ac Al},A7 (Cs.map V.ref) its->its=Cs.map Co
 |[],_,rv=>by cases rv;rfl
 |c::cs,_,rv=>by
  cases rv with
  |cons h1 h2=>rw[Tr cs h2];cases h1;rfl
theorem mR{s:Ar}{tp:Am}{Cs:Ac Am}{b:Ak}{Q:VK}(I:Inv X pI σ H s)(ha:H a=Aa (.ext φ))(hφ:∀ h,φ h->∃ o,h.get? a=Aa o/\o.cls=.ref C)(xc:XcOk X.K C)(ht:H tp=Aa (.tup (Cs.map V.ref)))(e:Ir X.K (.ref C) (Cs.map Co)=Aa b)(q:Q (.bl b) H):
  Ax (model X.prog X.w) X.A (call (.builtin "isinstance") [.ref a,.ref tp]) (EP X pI σ Q) X.xe s:=by
 have p:XAt a C s.heap:=hφ _ (I.hok a _ ha).1;obtain⟨_,its,rv,⟨o,ho,hc,n,hd⟩⟩:=I.hok tp _ ht;have ei:its=Cs.map Co:=Tr Cs rv;subst ei;obtain⟨cls,dd,dat,sl⟩:=o;have hc':cls=.type "tuple" := hc;have hd':dat=.seq (Fn (Cs.map Co)) n:=hd;subst hc' hd';exact PySem.W.kia_tup (Uk xc) I.kIn p ho e (by intro z;cases z) fun tk=>⟨.bl b,H,I.tok tk,rfl,q⟩
theorem VR{K:Fg}{up:Ag->Ac Ag}{c:Ag}{C:Am}(h:CL c=Aa C):∀(cs:Ac (Ag×Am)),(∀ p∈cs,MF K CL up p.1 p.2)->Ir K (.ref C) ((cs.map fun q:Ag×Am=>q.2).map Co)=Aa (cs.any fun p=>(up c).contains p.1)
  |[],_=>rfl
  |p::cs,hk=>by
    have h1:=hk p AB c C h;have h2:=VR h cs fun q hq=>hk q (Ay _ hq)
    show (match DX K (.ref C) (.ref p.2) with
      |some Ab=>Aa Ab
      |some Ad=>Ir K (.ref C) ((cs.map fun q:Ag×Am=>q.2).map Co)
      | none=>Ae)=_
    rw[h1,G6];cases (up c).contains p.1 with
    |true=>rfl
    |false=>rw[h2];rfl
theorem PY{ks:Ac Ki}{Rp:Hp->V->D->Prop}{Q:VK}(hk:ks.all Ed=Ab)(hne:ks≠[])(p:A9 Rp W H (Eb up ks d) Q):∃ c fs,d=.exc c fs/\A9 Rp W H (.ok (.bl (ks.any fun k=>kiD up k d))) Q:=by
 have ha:ks.any Ed=Ab:=by
  cases ks with
  |nil=>exact absurd rfl hne
  |cons k ks=>simp only[FY,Aj]at hk;simp[G6,hk.1]
 cases d with
 | exc c fs=>exact⟨c,fs,rfl,by
   have p':A9 Rp W H (if ks.all Ed=Ab then .ok (.bl (ks.any fun k=>kiD up k (.exc c fs))) else .bad) Q:=p
   rw[AA hk]at p';exact p'⟩
 |obj c fs=>exact Ba p
 |dic _=>exact Ba p
 |non=>simp only[Eb,ha,Eh]at p;exact Ba p
 |bl _=>simp only[Eb,ha,Eh]at p;exact Ba p
 |int _=>simp only[Eb,ha,Eh]at p;exact Ba p
 |str _=>simp only[Eb,ha,Eh]at p;exact Ba p
 |tup _=>simp only[Eb,ha,Eh]at p;exact Ba p
 |lst _=>simp only[Eb,ha,Eh]at p;exact Ba p
theorem Qw{v:V}{fs:Ac (Ai×D)}(r:CO K CL H A v (.exc c fs)):∃ a C φ,v=.ref a/\CL c=Aa C/\H a=Aa (.ext φ)/\∀ h,φ h->∃ o,h.get? a=Aa o/\o.cls=.ref C:=by
 rcases r with ⟨a,C,φ,e,_,hc,hH,hφ,_⟩|⟨a,xs,ds,_,z,_⟩
 ·exact⟨a,C,φ,e,hc,hH,hφ⟩
 ·cases z
variable{a:An}{fa:Rho->R D}{up:Ag->Ac Ag}{x:Ai}{p p2 pos:AG}
theorem tN{c':Ag}(hxc:∀ c C,CL c=Aa C->XcOk X.K C)(hg:Gl X "isinstance")(hm:X.mg "isinstance" = Ae)(hg2:Gl X x)(hm2:X.mg x=Aa (.ref C'))(hkit:MF X.K CL up c' C')(hdb:(x==("__debug__" : Ai))=Ad)(ha:ST X CL W a fa)(he:Av [a,.Name x p2] X.env=(Ad,eval a X.env)::Av [.Name x p2] X.env):SE X CL W (.Call (.Name "isinstance" p) [a,.Name x p2] [] pos) (fun ρ=>(fa ρ).bind fun x=>Eb up [.cls c'] x):=fun A=>
 PE.weak (Mp (r:=fun xs H Q=>∃ a C φ c,xs=[.ref a,.ref C']/\CL c=Aa C/\H a=Aa (.ext φ)/\(∀ h,φ h->∃ o,h.get? a=Aa o/\o.cls=.ref C)/\Q (.bl ((up c).contains c')) H) (fun pI s σ H xs us Q I r ⟨b,C,φ,c,e,hc,hH,hφ,q⟩=>by
   subst e;obtain⟨u,w',rfl,r1,r2⟩:=LH r;cases r1;cases r2;exact Ul I hH hφ (hxc c C hc) (hkit c C hc) q)
  hg hm Gm (DC (ha A) (DC (Vf (v:=.ref C') hg2 hm2 rfl hdb) E7 rfl) he) (by decide) (by decide) he rfl) fun σ H Q ⟨hA,ρ,g,q⟩=>⟨hA,ρ,g,A9.bind q fun d v H1 _ s1 r1 p1=>by
   obtain⟨c,fs,rfl,p2⟩:=PY (by rfl) (by simp) p1
   obtain⟨b,C,φ,rfl,hc,hH,hφ⟩:=Qw r1;refine⟨b,C,φ,c,rfl,hc,hH,hφ,p2 _ H1 (AD.refl H1) ?_⟩;show V.bl _=V.bl _;simp[kiD]⟩
theorem tK(hxc:∀ c C,CL c=Aa C->XcOk X.K C)(hg:Gl X "isinstance")(hm:X.mg "isinstance" = Ae)(hg2:Gl X "ValueError")(hm2:X.mg "ValueError" = Ae)(ha:ST X CL W a fa)(he:Av [a,.Name "ValueError" p2] X.env=(Ad,eval a X.env)::Av [.Name "ValueError" p2] X.env):SE X CL W (.Call (.Name "isinstance" p) [a,.Name "ValueError" p2] [] pos) (fun ρ=>(fa ρ).bind fun x=>Eb up [.verr] x):=fun A=>
 PE.weak (Mp (r:=fun xs H Q=>∃ a C φ c,xs=[.ref a,.ty "ValueError"]/\CL c=Aa C/\H a=Aa (.ext φ)/\(∀ h,φ h->∃ o,h.get? a=Aa o/\o.cls=.ref C)/\Q (.bl Ab) H) (fun pI s σ H xs us Q I r ⟨b,C,φ,c,e,hc,hH,hφ,q⟩=>by
   subst e;obtain⟨u,w',rfl,r1,r2⟩:=LH r;cases r1;cases r2;exact Ul I hH hφ (hxc c C hc) (hxc c C hc).ve q)
  hg hm Gm (DC (ha A) (DC (U3 (v:=.ty "ValueError") hg2 hm2 PyProof.Rows.Boot.«ValueError» rfl (by decide) (by decide)) E7 rfl) he) (by decide) (by decide) he rfl) fun σ H Q ⟨hA,ρ,g,q⟩=>⟨hA,ρ,g,A9.bind q fun d v H1 _ s1 r1 p1=>by
   obtain⟨c,fs,rfl,p2⟩:=PY (by rfl) (by simp) p1
   obtain⟨b,C,φ,rfl,hc,hH,hφ⟩:=Qw r1;refine⟨b,C,φ,c,rfl,hc,hH,hφ,p2 _ H1 (AD.refl H1) ?_⟩;show V.bl _=V.bl _;simp[kiD]⟩
def Se(Cs:Ac Am):TA:=fun _ H Q=>Q (Cs.map V.ref) H
theorem tL{ts:Ac An}{cs:Ac (Ag×Am)}(hxc:∀ c C,CL c=Aa C->XcOk X.K C)(hg:Gl X "isinstance")(hm:X.mg "isinstance" = Ae)(hts:PA X ts (Se (cs.map fun q:Ag×Am=>q.2)))(hne:cs≠[])(hl:cs.length<=1000)(hkit:∀ q∈cs,MF X.K CL up q.1 q.2)(ha:ST X CL W a fa)(he:Av [a,.Tuple ts kk p2] X.env=(Ad,eval a X.env)::Av [.Tuple ts kk p2] X.env):SE X CL W (.Call (.Name "isinstance" p) [a,.Tuple ts kk p2] [] pos) (fun ρ=>(fa ρ).bind fun x=>Eb up (cs.map fun q=>.cls q.1) x):=fun A=>
 PE.weak (Mp (r:=fun xs H Q=>∃ a C φ c tp,xs=[.ref a,.ref tp]/\CL c=Aa C/\H a=Aa (.ext φ)/\(∀ h,φ h->∃ o,h.get? a=Aa o/\o.cls=.ref C)/\H tp=Aa (.tup ((cs.map fun q:Ag×Am=>q.2).map V.ref))/\Q (.bl (cs.any fun q=>(up c).contains q.1)) H) (fun pI s σ H xs us Q I r ⟨b,C,φ,c,tp,e,hc,hH,hφ,ht,q⟩=>by
   subst e;obtain⟨u,w',rfl,r1,r2⟩:=LH r;cases r1;cases r2;exact mR I hH hφ (hxc c C hc) ht (VR hc cs hkit) q)
  hg hm Gm (DC (ha A) (DC (Wc hts) E7 rfl) he) (by decide) (by decide) he rfl) fun σ H Q ⟨hA,ρ,g,q⟩=>⟨hA,ρ,g,A9.bind q fun d v H1 _ s1 r1 p1=>by
   have hk:(cs.map fun q=>Ki.cls q.1).all Ed=Ab:=by simp[X3,Ed]
   obtain⟨c,fs,rfl,p2⟩:=PY hk (by simpa using hne) p1
   obtain⟨b,C,φ,rfl,hc,hH,hφ⟩:=Qw r1;refine⟨by rw[Bh,Bh,Dl];omega,fun t ht=>?_⟩
   have hbt:b≠t:=FO hH ht;refine⟨b,C,φ,c,t,rfl,hc,by rw[Bu hbt];exact hH,hφ,ED,p2 _ _ (FN ht _) ?_⟩
   show V.bl _=V.bl _;simp[kiD,X4,Hi]⟩
end
theorem Wq(q:D9 K C v=Ab):∃ dd cd sl bm,K.lookup C=Aa ⟨.type "type", dd,.cls cd,sl⟩/\cd.mro=.ref C::bm:=by
 unfold D9 at q;split at q
 ·rename_i dd cd sl ho;split at q
  ·rename_i C' bm k0 k1 k2 k3 n k5 hm hs;simp only[Aj,AT,Bt]at q;obtain⟨rfl,_⟩:=q;exact⟨dd,cd,sl,bm,ho,hm⟩
  ·cases q
 ·cases q
theorem QA(q:D9 K C v=Ab):∃ cd bm,EX K C=Aa cd/\cd.mro=.ref C::bm:=by
 obtain⟨dd,cd,sl,bm,h1,h2⟩:=Wq q;exact⟨cd,bm,by unfold EX;rw[h1],h2⟩
theorem uC(q:D9 K C v=Ab):EB K (.ref C)=Aa (.type "type"):=by
 obtain⟨dd,cd,sl,bm,h1,h2⟩:=Wq q;show (K.lookup C).map _=_;rw[h1];rfl
theorem Gu{v:Ak}{i i':Ap Al}(q:D9 K C i=Ab)(q':D9 K C' i'=Ab)(su:AM K (.ref C) (.ref C')=Aa v):DX K (.ref C) (.ref C')=Aa v:=by
 unfold DX;by_cases e:C=C'
 ·subst e;obtain⟨cd,bm,h1,h2⟩:=QA q;have su':Cv K C (.ref C)=Aa v:=su;have:v=Ab:=by
   unfold Cv at su';rw[h1,Option.bind_some,h2,AH (by simp)]at su'
   rw[<-Bz su'];simp
  rw[AA (by simp),this]
 ·rw[AH (fun z=>e (ZO (AT.mp z)))]
  obtain⟨cd,bm,h1,h2⟩:=QA q';show (if ((EX K C').isSome&&EB K (.ref C')==Aa (.type "type"))=Ab then AM K (.ref C) (.ref C') else Ae)=_
  rw[h1,uC q',AA (by simp),su]
theorem Ko(exc:D9 K C v=Ab)(ga:At K (.ref C) "__getattribute__" = Aa (Aa (.builtin "BaseException.__getattribute__")))(gt:At K (.ref C) "__getattr__" = Aa Ae)(cl:At K (.ref C) "__class__" = Aa (Aa (.builtin "object.__class__")))(ob:Cv K C (.type "object")=Aa Ab)(be:AM K (.ref C) (.type "BaseException")=Aa Ab)(sv:AM K (.ref C) (.type "ValueError")=Aa Ab):XcOk K C:=by
 obtain⟨cd,bm,h1,h2⟩:=QA exc;refine⟨⟨v,exc⟩,ga,gt,cl,ob,be,by rw[h1];rfl,?_⟩
 unfold DX;rw[AH (fun z=>by cases AT.mp z)]
 have hm:ZU "ValueError" = Ab:=by decide +kernel
 show (if ZU "ValueError" = Ab then AM K (.ref C) (.type "ValueError") else Ae)=_
 rw[AA hm,sv]
noncomputable abbrev IY:CXT:=fun _ _ _ _ _ _=>AX
structure HotOk (P:AO) (w:A4) (K:Fg) (mg:Ai->Ap Al) (base:AF) (k:Ag) (f:Am) (fd:BL) (ps:Ac Ai) (sp:Sp):Prop where
 len:∀ vs H Q E,sp vs H Q E->vs.length=ps.length
 run:∀(A:A2)(ev:Am)(outer:Ac B9)(s:Ar)(H:Hp)(args:Args)(us:Ac Al)(vs:Ac V)(Q:VK)(E:XK),Room k A->Env0 P w K mg base (A.mark (Aa (.ref ev))) outer s H->Gd s fd args (ps.zip us)->A7 vs us->sp vs H Q E ->
  FE (model P w) (A.mark (Aa (.ref ev))) (.call (.ref f) args) (CR IY outer P w H s Q E) s
theorem uQ{mg:Ai->Ap Al}{base:AF}{f:Am}{params:LZ}{dV kV doc pm cdv ct oc:Al}{N ps:Ac Ai}(lk:K.lookup f=Aa ⟨oc,od,.func (Cu name qual params body scope dV kV doc pm an cdv ct),osl⟩)(hcd:DW K cdv qual=Ab)(S:FnScope N ps scope)(len:∀ vs H Q E,sp vs H Q E->vs.length=ps.length)(hbody:∀(A:A2)(ev:Am)(outer:Ac B9)(s:Ar)(H:Hp)(vs:Ac V)(Q:VK)(E:XK),Room k (A.deeper (Ev qual scope s.heap.objs.size f cdv))->sp vs H Q E ->
   ∃ t,PSs (Cx.hot (EG IY P w K mg base N qual scope f cdv A outer s H E) ev) body t/\t {nx:=fun _ H'=>Q .non H',rt:=Q} (start N vs) H):HotOk P w K mg base (k+1) f (Cu name qual params body scope dV kV doc pm an cdv ct) ps sp:=by
 refine⟨len,fun A ev outer s H args us vs Q E hr e0 hb r hsp=>?_⟩
 have hl:=len _ _ _ _ hsp;have e1:Env0 P w K mg base A outer s H:=⟨e0.frames,e0.mod,e0.bs,e0.bsz,e0.funs,e0.frf,e0.hok,e0.bare⟩;have KX:K.In s.heap:=e0.mod.kin.keeps fun b o e=>(e0.bs b o e).1
 have lim:s.heap.NoLimit:=e0.mod.nolimit.keeps fun b o e=>(e0.bs b o e).1
 have hkind:∀ y∈ps.zip us,scope.names.lookup y.1=Aa .local\/(scope.names.lookup y.1=Aa .cell/\((CN (s.heap.objs.size+1) scope.names []).lookup y.1).isSome=Ab):=fun ⟨n,v⟩ hy=>by
  rcases S.par n (Gi hy).1 with q|q
  ·exact .inl q
  ·exact .inr ⟨q,FX _ _ _ (.inl q)⟩
 have hdp:(A.mark (Aa (.ref ev))).depth<GH:=hr.depth;refine Ge hdp (KX _ _ lk) rfl S.co S.gen rfl (G0 KX hcd) (hb _ _ _ _ ?_);refine EY S.kind hkind fun env he s1 x=>?_
 subst he;refine⟨lim.keeps x.toInCall.keep,Jo ?_⟩;obtain⟨t,ht,hq⟩:=hbody A ev outer s H vs Q E (hr.deeper _) hsp;have I:Inv (EG IY P w K mg base N qual scope f cdv A outer s H E) [] (start N vs) H s1:=PM S hr.hd e1 hl r x;refine Bf (ht [] s1 (start N vs) H _ (Qq I ev) hq) (fun fl s' hs=>?_) fun e s' hs=>hs.elim
 have fin:∀{σ':L2.St}{H':Hp}{v:V}{u:Al},Inv (Cx.hot (EG IY P w K mg base N qual scope f cdv A outer s H E) ev) [] σ' H' s'->BB v u->Q v H'->CE outer P w H s Q u s':=
  fun {σ' H' v u} J rv q=>⟨v,H',J.os,J.bare,J.base,J.hok,rv,q⟩
 cases fl with
 |ret u=>
  obtain⟨v,σ',H',J,rv,q⟩:=hs;exact fin J rv q
 |next=>
  obtain⟨σ',H',J,q⟩:=hs;exact fin (v:=V.non) (u:=DE) J rfl q
 |brk=>
  obtain⟨_,_,_,q⟩:=hs;exact Ba q
 |cont=>
  obtain⟨_,_,_,q⟩:=hs;exact Ba q
def spH(K:Fg)(CL:ClA)(n:Ag)(fr:Ak)(F:Ac D->R D):Sp:=fun vs H Q _=>∃(ds:Ac D)(A:Am->Prop),vs.length=n/\AOk H A/\Reps K CL H A vs ds/\(match F ds with
  |.ok d=>∀ v H',AD H H'->Dr K CL fr H A H' v d->Q v H'
  |.exn _=>AX
  | .bad=>AX)
section
variable{X:Cx}{CL:ClA}{ev:Am}
theorem Ux{f:Am}{E:XK}{e:An}{es:Ac An}{t:TA}(F:HotOk X.prog X.w X.K X.mg X.base k f fd ps sp)(hr:Room k X.A)(hg:Gl X x)(hm:X.mg x=Aa (.ref f))(hk:B1 X.K (.ref f)=Ab)(hb:FP X.K fd ps [])(ha:PA (Cx.hot X ev) (e::es) t)(hdb:(x==("__debug__" : Ai))=Ad)(he:Av (e::es) X.env=(Ad,eval e X.env)::Av es X.env)(hpl:(BN pos (Av es X.env)).any (·.1)=Ad):PE (Cx.hot X ev) (.Call (.Name x p) (e::es) [] pos) (fun σ H Q=>t σ H fun vs H1=>sp vs H1 Q E):=by
 intro pI s σ H Q I h;refine Ek (Jw (X:=Cx.hot X ev) I hg hm ?_ hdb);refine GZ (h₀:=X.base) I.ok.mod.kin hk (thn (ha pos pI s σ H _ I h) fun us s1 ⟨vs,H1,I1,r,q⟩=>⟨I1.kIn,?_⟩) he hpl
 have hl:us.length=ps.length:=by rw[<-r.length];exact F.len _ _ _ _ q
 have hb':Gd s1 fd ⟨us,[]⟩ (ps.zip us):=by
  have:=hb s1 us I1.kIn (by rw[Ck];exact hl)
  rw[Ck]at this;exact this
 refine Gr (Ft (F.run X.A ev X.stack s1 H1 ⟨us,[]⟩ us vs Q E hr I1.env0 hb' r q) fun r s' hq=>?_)
 cases r with
 |error e=>exact Ba hq
 |ok fl=>
  cases fl with
  |ret u=>exact I1.after hq
  |next=>exact Ba hq
  |brk=>exact Ba hq
  |cont=>exact Ba hq
theorem hJ{n:Ag}{f:Am}{e:An}{es:Ac An}{ft:Rho->R (Ac D)}{sh:Rho->Ak}(G:HotOk X.prog X.w X.K X.mg X.base k f fd ps (spH X.K CL n fr F))(hr:Room k X.A)(hg:Gl X x)(hm:X.mg x=Aa (.ref f))(hk:B1 X.K (.ref f)=Ab)(hb:FP X.K fd ps [])(ha:SA (Cx.hot X ev) CL (fun _ _=>AX) (e::es) fs)(hat:SAT (Cx.hot X ev) CL (fun _ _=>AX) (e::es) ft)(hst:∀ ρ,sh ρ=Ab->ft ρ=fs ρ)(hn:∀ ρ ds,ft ρ=.ok ds->ds.length=n)(hdb:(x==("__debug__" : Ai))=Ad)(he:Av (e::es) X.env=(Ad,eval e X.env)::Av es X.env)(hpl:∀ pos,(BN pos (Av es X.env)).any (·.1)=Ad):SC (Cx.hot X ev) CL (fun _ _=>AX) fr (.Call (.Name x p) (e::es) [] pos) (fun ρ=>(ft ρ).bind fun ds=>(F ds).bind fun d=>if sh ρ=Ab then .ok d else if FS fr d=Ab then .ok d else .bad):=fun A pI s σ H Q I ⟨hA,ρ,gd,q⟩=>by
 dsimp only at q;by_cases hs:sh ρ=Ab
 ·rw[hst ρ hs]at q;refine Ux (E:=fun _ _ _=>AX) G hr hg hm hk hb (ha A) hdb he (hpl _) pI s σ H Q I ⟨hA,ρ,gd,?_⟩
  cases e1:fs ρ with
  |bad=>rw[e1]at q;exact q
  |exn y=>rw[e1]at q;exact q
  |ok ds=>
   rw[e1]at q;intro vs H1 s1 r1;refine⟨ds,A,by rw[r1.length];exact hn ρ ds (by rw[hst ρ hs];exact e1),hA.same s1,r1,?_⟩
   have q':A9 (Dr X.K CL fr H A) (fun _ _=>AX) H ((F ds).bind fun d=>if sh ρ=Ab then .ok d else if FS fr d=Ab then .ok d else .bad) Q:=q
   cases e2:F ds with
   |ok d=>
    rw[e2,R.bind_ok,AA hs]at q';exact fun v H2 s2 r2=>q' v H2 (s1.trans s2) ⟨r2.1,fun z ds' e'=>let ⟨a,xs,z1,z2,z3⟩:=r2.2 z ds' e';⟨a,xs,z1,s1.free z2,z3⟩⟩
   |exn y=>rw[e2]at q';exact(q' H (AD.refl H)).elim
   |bad=>rw[e2]at q';exact q'.elim
 ·refine Ux (E:=fun _ _ _=>AX) G hr hg hm hk hb (hat A) hdb he (hpl _) pI s σ H Q I ⟨hA,ρ,gd,?_⟩
  cases e1:ft ρ with
  |bad=>rw[e1]at q;exact q
  |exn y=>rw[e1]at q;exact q
  |ok ds=>
   rw[e1]at q;intro vs H1 s1 r1;refine⟨ds,A0,by rw[r1.plain.length];exact hn ρ ds e1,fun _ z=>z.elim,r1.plain,?_⟩
   have q':A9 (Dr X.K CL fr H A) (fun _ _=>AX) H ((F ds).bind fun d=>if sh ρ=Ab then .ok d else if FS fr d=Ab then .ok d else .bad) Q:=q
   cases e2:F ds with
   |ok d=>
    rw[e2,R.bind_ok,AH hs]at q';split at q'
    ·rename_i hc;exact fun v H2 s2 r2=>q' v H2 (s1.trans s2) (Q5 hA (s1.trans s2) hc ⟨r2.1,fun z ds' e'=>let ⟨a,xs,z1,z2,z3⟩:=r2.2 z ds' e';⟨a,xs,z1,s1.free z2,z3⟩⟩)
    ·exact q'.elim
   |exn y=>rw[e2]at q';exact(q' H (AD.refl H)).elim
   |bad=>rw[e2]at q';exact q'.elim
theorem kW{t:An}{xs ys:Ac AQ}{fc:Rho->R Ak}{fx fy:Rho->O}(hc:∀ pI Xw,Fs (model X.prog X.w) X.A X.env Xw->SB (Cx.pw X pI Xw) CL (fun _ _=>AX) t fc)(hnx:∀ ρ y,fc ρ≠.exn y)(hx:STB X CL xs fx)(hy:STB X CL ys fy):STB X CL [.If t xs ys pos] (fun ρ=>O.of ρ (fc ρ) fun b=>if b=Ab then fx ρ else fy ρ):=by
  intro Fz B pI s σ H D ρ Xw own I sx q hρ;dsimp only at q hρ;cases ec:fc ρ with
  |bad=>rw[ec]at q;exact q.elim
  |exn y=>exact absurd ec (hnx ρ y)
  |ok b=>
    rw[ec]at q hρ;have key:=hc pI Xw own (BG B ρ σ) [] s σ H (fun b' H'=>b'=b/\AD H H') (MI I Xw) ⟨sx.aok,ρ,sx.good,by rw[ec];exact fun H' sm=>⟨rfl,sm⟩⟩
    refine Hz (thn (wpAny_If (Q:=SP X pI D) (thn key fun b' s1 ⟨H1,I1,e,sm⟩=>?_)) (fun f s1 z=>by
      cases f with
      |next=>exact Fk z
      |ret v=>exact z
      |brk=>exact z
      | cont=>exact z))
    subst e;have J:=Lc I.ok I1;have up:∀{y:Ex},Ks X CL pI σ H y Xw->Ks X CL pI σ H1 y Xw:=fun {y} w s' H' e T cls dx a1 a2=>w s' H' e T cls dx a1 (sm.trans a2)
    have lift:∀{o:O},(match o with
       |.exn y ρ'=>ρ'=ρ->Ks X CL pI σ H y Xw
       |o=>BP X.K CL Fz B (fun _ _=>AX) o D)->(match o with
       |.exn y ρ'=>ρ'=ρ->Ks X CL pI σ H1 y Xw
       | o=>BP X.K CL Fz B (fun _ _=>AX) o D):=fun {o} z=>by
      cases o with
      |exn y ρ'=>exact fun e=>up (z e)
      |next _=>exact z
      |ret _ _=>exact z
      |brk _=>exact z
      |cont _=>exact z
      |bad=>exact z
    cases b' with
    |true=>exact hx Fz B pI s1 σ H1 D ρ Xw own J (sx.grow sm) (lift q) hρ
    |false=>exact hy Fz B pI s1 σ H1 D ρ Xw own J (sx.grow sm) (lift q) hρ
end
section
variable{M:GU}{A:A2}{E:Vq}{s:Ar}{env:B9}{nm q:Ai}{C N:Am}{bs bm bmB:Ac Al}{hdct:Ak}{sn:Ac Ai}{sub:Ac Al}{ab:Ak}{col:Ap Ak}{dd:Ap Am}{k0 k1 k2 k3 k5:Ap Al}{B newId initId:C5}
theorem lO{x:GE Al}{Q:Flow->Ar->Prop}(hb:bm.contains (.type "BaseException")=Ab)(hh:A.handled=Ae)(h:Ax M A x (fun v s'=>∃ e t dx,v=.ref e/\s'.heap.get? C=Aa (Cd nm q C N bs bm hdct sn sub ab col dd k0 k1 k2 k3 k5 newId)/\s'.heap.get? e=Aa (F7 C dx t)/\E (.ref e) s') E s):Ax M A (raiseStmt env (Aa x) Ae) Q E s:=by
 have hB:(Co C::bm).contains (.type "BaseException")=Ab:=by rw[GV,hb,Ht]
 unfold raiseStmt;refine Ao (Bf h (fun v s' z=>?_) fun _ _ z=>z)
 obtain⟨e,t,dx,rfl,gC,ge,hE⟩:=z;obtain⟨hp,g,d,tk,os⟩:=s';unfold F7 at ge
 repeat (first|(with_reducible refine B6 ge ?_)|(with_reducible refine B6 gC ?_)|(with_reducible refine E5 gC ?_;rw[hB])|wp_step)
 exact wpAny_raiseNew_none hh hE
end
section
variable{prog:AO}{w:A4}{A:A2}{E:Vq}{h:AF}{g:Be Fp}{d:HU}{t:Ag}{os:Hn}
variable{nm q:Ai}{C N fI:Am}{bs bm bmB:Ac Al}{hdct:Ak}{sn:Ac Ai}{sub:Ac Al}{ab:Ak}{col:Ap Ak}{dd:Ap Am}{k0 k1 k2 k3 k5:Ap Al}{B newId initId:C5}{mN:Ai->Ap Al}{rest:Ac Al}{oI:C3}
theorem lS{Q:Fin->Ar->Prop}(F:Hw B newId initId bmB)(T:DV h bmB bm)(gC:h.get? C=Aa (Cd nm q C N bs bm hdct sn sub ab col dd k0 k1 k2 k3 k5 newId))(hn:h.Ns N mN)(hi:mN "__init__" = Aa (.ref fI))(gI:h.get? fI=Aa oI)(cI:oI.cls=.type "function")(hl:rest.length<=sizeLine)(hq:∀ h' e,Iq h h' e (.ref C) rest->Ax (model prog w) A (call (.ref fI) (.ref e::rest)) (fun r s'=>r=.none/\Q (.done (.ret (.ref e))) s') E ⟨h',g,d,t,os⟩):Ax (model prog w) A (Builtin.«type.__call__» ⟨.ref C::rest,[]⟩) Q E ⟨h,g,d,t,os⟩:=by
 repeat (first|(with_reducible refine B6 gC ?_)|(with_reducible refine wpAny_madeBy_exc gC ?_)|wp_step)
 refine codeAny_call_builtin_code (GY _ F.quiet) (wpAny_check_new_subT F T gC (codeAny_exc_new_subT F T gC ?_ hl));show Ax _ _ _ _ _ _;have kp:∀ b o,h.get? b=Aa o->((h.push { cls:=.type "tuple", data:=.seq rest.toArray }).push {cls:=.ref C,data:=.fields #[.ref h.objs.size,.none,.none,.none,.bool Ad,.none]}).get? b=Aa o:=fun b o z=>As _ (As _ z)
 have ge:((h.push { cls:=.type "tuple", data:=.seq rest.toArray }).push {cls:=.ref C,data:=.fields #[.ref h.objs.size,.none,.none,.none,.bool Ad,.none]}).get? (h.objs.size+1)=Aa {cls:=.ref C,data:=.fields #[.ref h.objs.size,.none,.none,.none,.bool Ad,.none]}:=by heap_get
 have gt:((h.push { cls:=.type "tuple", data:=.seq rest.toArray }).push {cls:=.ref C,data:=.fields #[.ref h.objs.size,.none,.none,.none,.bool Ad,.none]}).get? h.objs.size=Aa { cls:=.type "tuple", data:=.seq rest.toArray }:=As _ (Zr rfl rfl);generalize (h.push { cls:=.type "tuple", data:=.seq rest.toArray }).push {cls:=.ref C,data:=.fields #[.ref h.objs.size,.none,.none,.none,.bool Ad,.none]}=h2 at *;have gC2:=kp _ _ gC;have gI2:=kp _ _ gI;have hn2:h2.Ns N mN:=let ⟨o,es,ep,z,r⟩:=hn;⟨o,es,ep,kp _ _ z,r⟩
 have T2:=T.keeps (h':=h2) kp;have cC:(Co C::bm).contains (.ref C)=Ab:=by simp
 unfold ID
 repeat (first|(with_reducible refine B6 ge ?_)|(with_reducible refine E5 gC2 ?_;rw[cC])|wp_step)
 show Ax _ _ (typeLookup (.ref C) _) _ _ _;refine wpAny_typeLookup_tail gC2 hn2 T2 F.mroIs F.init.lookup ?_;rw[hi];refine Ch (Ao ?_);unfold bindSpecial;refine Ao (wpAny_typeOf (T := "function") ⟨_,gI2,cI⟩ ?_);rw[AA (by decide)]
 refine AI (Ao (Bf (hq h2 (h.objs.size+1) ⟨kp,Dp (GS _),h.objs.size,ge,Dp (AW _),gt⟩) (fun r s' z=>?_) fun _ _ z=>z))
 obtain⟨rfl,z⟩:=z
 wp_walk
 exact z
theorem lU{Q:Vq}(F:Hw B newId initId bmB)(T:DV h bmB bm)(gC:h.get? C=Aa (Cd nm q C N bs bm hdct sn sub ab col dd k0 k1 k2 k3 k5 newId))(hn:h.Ns N mN)(hi:mN "__init__" = Aa (.ref fI))(gI:h.get? fI=Aa oI)(cI:oI.cls=.type "function")(hl:rest.length<=sizeLine)(hq:∀ h' e,Iq h h' e (.ref C) rest->Ax (model prog w) (A.under (.builtin "type.__call__" ⟨.ref C::rest,[]⟩)) (call (.ref fI) (.ref e::rest)) (fun r s'=>r=.none/\Q (.ref e) s') E ⟨h',g,d,t,os⟩):Ax (model prog w) A (call (.ref C) rest) Q E ⟨h,g,d,t,os⟩:=by
 have l1:=tc_lookup;have l2:=tc_bind (.ref C);have ty:(⟨h,g,d,t,os⟩:Ar).TypeIs (.ref C) "type" := ⟨_,gC,rfl⟩;refine Gr (codeAny_of_tree ?_);show Ax _ _ (callAny (.ref C) _) _ _ _
 repeat (any_goals (first|assumption|(with_reducible refine B6 gC ?_)|wp_step))
 refine⟨rfl,codeAny_call_builtin_at (GY _ (by decide +kernel)) entry_typeCall (wpAny_check_type_call_sub gC (lS F T gC hn hi gI cI hl fun h' e m=>?_))⟩
 exact hq h' e m
end
section
variable{prog:AO}{w:A4}{A:A2}{E:Vq}{s:Ar}{env:B9}
variable{nm q:Ai}{C N fI:Am}{bs bm bmB:Ac Al}{hdct:Ak}{sn:Ac Ai}{sub:Ac Al}{ab:Ak}{col:Ap Ak}{dd:Ap Am}{k0 k1 k2 k3 k5:Ap Al}{B newId initId:C5}{mN:Ai->Ap Al}
theorem iQ{Q:Flow->Ar->Prop}{args:Ac An}(F:Hw B newId initId bmB)(hb:bm.contains (.type "BaseException")=Ab)(hh:A.handled=Ae)(hp:(BN cpos (Av args env)).any (·.1)=Ad)(hi:mN "__init__" = Aa (.ref fI))(h:Ax (model prog w) A (eval (.Name x np) env) (fun f s1=>f=.ref C/\Ax (model prog w) A (evalArgs (.ref C) Ab (BN cpos (Av args env)) [])
   (fun a s2=>a.kw=[]/\a.pos.length<=sizeLine/\s2.heap.get? C=Aa (Cd nm q C N bs bm hdct sn sub ab col dd k0 k1 k2 k3 k5 newId)/\s2.heap.Ns N mN/\DV s2.heap bmB bm/\(∃ oI,s2.heap.get? fI=Aa oI/\oI.cls=.type "function") /\
    ∀ h' e,Iq s2.heap h' e (.ref C) a.pos->Ax (model prog w) (A.under (.builtin "type.__call__" ⟨.ref C::a.pos,[]⟩)) (call (.ref fI) (.ref e::a.pos)) (fun r s'=>r=.none/\∃ t dx,s'.heap.get? C=Aa (Cd nm q C N bs bm hdct sn sub ab col dd k0 k1 k2 k3 k5 newId)/\s'.heap.get? e=Aa (F7 C dx t)/\E (.ref e) s') E {s2 with heap:=h'}) E s1) E s):Ax (model prog w) A (exec (.Raise (Aa (.Call (.Name x np) args [] cpos)) Ae pos) env) Q E s:=by
 rw[arm_exec_Raise]
 try simp only[evalOpt,Yy]
 refine Ao (DM (lO (nm:=nm) (q:=q) (C:=C) (N:=N) (bs:=bs) (bm:=bm) (hdct:=hdct) (sn:=sn) (sub:=sub) (ab:=ab) (col:=col) (dd:=dd) (k0:=k0) (k1:=k1) (k2:=k2) (k3:=k3) (k5:=k5) (newId:=newId) hb hh ?_));refine Ao (Bf (wpAny_Call_ofName (Bf h (fun f s1 z=>?_) fun _ _ z=>z)) (fun v s3 z=>Ao (DM (AI z))) fun _ _ z=>z)
 obtain⟨rfl,z⟩:=z;unfold callWith;refine Ao (Ch (Bf z (fun a s2 y=>Ao (DM ?_)) fun _ _ y=>y))
 obtain⟨us,kw⟩:=a;obtain⟨hk,hl,gC,hn,T,⟨oI,gI,cI⟩,k⟩:=y;obtain rfl:kw=[]:=hk;obtain⟨hp2,g,d,tk,os⟩:=s2;simp only[hp];refine Ao (wpAny_keeperOf_exc gC (Ao (lU F T gC hn hi gI cI hl fun h' e m=>Bf (k h' e m) (fun r s' y=>?_) fun _ _ y=>y)))
 obtain⟨rfl,t,dx,c1,c2,c3⟩:=y;exact⟨rfl,Ao (Ch (wpAny_point (AI ⟨e,t,dx,rfl,c1,c2,c3⟩)))⟩
end
section
variable{prog:AO}{w:A4}{A:A2}{E:Vq}{h:AF}{g:Be Fp}{d:HU}{tk0:Ag}{os:Hn}
variable{nm q:Ai}{C N e t:Am}{dx:Ap Am}{bs bm bmB:Ac Al}{hdct:Ak}{sn:Ac Ai}{sub:Ac Al}{ab:Ak}{col:Ap Ak}{dd:Ap Am}{k0 k1 k2 k3 k5:Ap Al}{B newId initId:C5}
theorem rC{Q:Vq}(F:Hw B newId initId bmB)(T:DV h bmB bm)(gC:h.get? C=Aa (Cd nm q C N bs bm hdct sn sub ab col dd k0 k1 k2 k3 k5 newId))(ge:h.get? e=Aa (F7 C dx t))(hq:∀ h' t',(∀ b o,b≠e->h.get? b=Aa o->h'.get? b=Aa o)->h'.get? e=Aa (F7 C dx t')->Q .none ⟨h',g,d,tk0,os⟩):Ax (model prog w) A (call (.builtin initId) [.ref e,.str z tk]) Q E ⟨h,g,d,tk0,os⟩:=by
 refine Gr (DR F.init.plain F.initEntry (wpAny_check_init_subT F T gC ge rfl ?_));unfold F7 at ge
 wp_walk
 refine hq _ h.objs.size (fun b o nb z=>(Cy _ _ (CP nb)).trans (As _ z)) ?_
 rw[CJ _ (As _ ge) rfl];rfl
end
noncomputable def xbd:Ag->Ag
 |0=>4
 |n+1=>8*xbd n+19
theorem mT:∀ n:Fin 100,(AN (toString ((n.val:Ag):Af))).length<=4:=by decide +kernel
theorem WH{α:Type}(f:α->Ag){m:Ag}:∀ l:Ac α,(∀ x∈l,f x<=m)->(l.map f).sum<=l.length*m
 |[],_=>by simp
 |x::l,h=>by
  have h1:=h x AB;have h2:=WH f l fun y hy=>h y (Ay _ hy)
  rw[Cf,List.sum_cons,Bk,Nat.succ_mul];omega
section
variable{X:Cx}{CL:ClA}{pI:Pn}{σ:L2.St}{H:Hp}{s:Ar}
structure Shw (h:AF) (n:Ag) (u:Al) (pd:KA):Prop where
 rd:Reads h u pd []
 sh:pd.showable=Ab
 nd:pd.hasDict=Ad
 dp:pd.depth<=n
 ln:pd.shown.length<=xbd n
inductive ShwA (h:AF) (n:Ag):Ac Al->Ac KA->Prop where
 |nil:ShwA h n [] []
 |cons {u:Al} {pd:KA} {us:Ac Al} {pds:Ac KA}:Shw h n u pd->ShwA h n us pds->ShwA h n (u::us) (pd::pds)
theorem U9{h:AF}{n:Ag}:∀{us:Ac Al}{pds:Ac KA},ShwA h n us pds->ReadsAll h us pds []/\Zz pds=Ab/\Zy pds=Ad/\HV pds<=n/\(∀ t∈DI pds,t.length<=xbd n)/\(DI pds).length=us.length
 |[],[],_=>⟨.nil,rfl,rfl,FU _,(fun _ h=>nomatch h),rfl⟩
 |u::us,pd::pds,.cons h1 h2=>by
  obtain⟨a,b,c,d,e,f⟩:=U9 h2;refine⟨.cons h1.rd a,?_,?_,?_,?_,?_⟩
  ·show (pd.showable&&Zz pds)=Ab;rw[h1.sh,b];rfl
  ·show (pd.hasDict||Zy pds)=Ad;rw[h1.nd,c];rfl
  ·show max pd.depth (HV pds)<=n;exact Nat.max_le.mpr ⟨h1.dp,d⟩
  ·intro t ht;rcases Aw.mp ht with rfl|ht
   ·exact h1.ln
   ·exact e t ht
  ·show (DI pds).length+1=us.length+1;rw[f]
theorem xK(I:Inv X pI σ H s):∀(n:Ag){d:D}{v:V}{u:Al},xfD n d=Ab->Rep X.K CL H A v d->BB v u->∃ pd,Shw s.heap n u pd:=by
 intro n
 induction n with
 |zero=>
  intro d v u hx r rv;cases d with
  |int i=>
   have e:v=.int i:=r;subst e;obtain⟨t,rfl⟩:=rv;simp only[xfD,Aj,AZ]at hx;refine⟨.int i,.int i t,?_,rfl,AW _,?_⟩
   ·show decide (i.natAbs.log2<1920)=Ab;refine A8 (Fo (Nat.log2_le_self _) (by omega))
   ·have:=mT ⟨i.toNat,by omega⟩
    rw[show ((i.toNat:Ag):Af)=i by omega]at this
    exact this
  |_=>exact absurd (show Ad=Ab from hx) Ah
 |succ n ih0=>
  intro d v u hx r rv;cases d with
  |tup ds=>
   obtain⟨a,xs,rfl,_,sq,rs⟩:=r;cases rv;obtain⟨its,vs,⟨o,ho,hc,m,hd⟩,hz⟩:=I.tuple sq;simp only[xfD,Aj,DY]at hx;have key:∀{xs:Ac V}{ds:Ac D}{its:Ac Al},(∀ d∈ds,xfD n d=Ab)->Reps X.K CL H A xs ds->A7 xs its->∃ pds,ShwA s.heap n its pds:=fun {xs}=>by
    induction xs with
    |nil=>
     intro ds its _ rs vs;cases vs;exact⟨[],.nil⟩
    |cons x xs ih=>
     intro ds its hd rs vs;cases ds with
     |nil=>exact rs.elim
     |cons d ds=>
      cases vs with
      |cons v1 v2=>
       obtain⟨pd,h1⟩:=ih0 (hd d AB) rs.1 v1;obtain⟨pds,h2⟩:=ih (fun e he=>hd e (Ay _ he)) rs.2 v2
       exact⟨pd::pds,.cons h1 h2⟩
   obtain⟨pds,hf⟩:=key hx.2 rs vs;obtain⟨p1,p2,p3,p4,p5,p6⟩:=U9 hf;have l8:its.length<=8:=by
    have h8:=Nat.ble_eq.mp hx.1;rw[<-vs.length,rs.length];exact h8
   refine⟨.tuple pds,.tuple ho hc hd (by simpa using p1),p2,p3,?_,?_⟩
   ·show HV pds+1<=n+1;omega
   ·show (tupleText (DI pds)).length<=8*xbd n+19;have h1:=tupleText_len_le (DI pds);have h2:=WH (fun t:Ai=>t.length) (DI pds) p5
    have h3:(DI pds).length*xbd n<=8*xbd n:=Nat.mul_le_mul_right _ (by omega)
    omega
  |_=>exact absurd (show Ad=Ab from hx) Ah
end
section
variable{X:Cx}{CL:ClA}
def tFs(K:Fg)(CL:ClA)(i:Ag):TE:=fun σ H Q=>∃ v d A n,σ[i]?=Aa (Aa v)/\Rep K CL H A v d/\xfD (n+1) d=Ab/\n<=1/\∀ t:Ai,Q (.str t) H
theorem oE{e:An}{i:Ag}{p2 p3:AG}(hu:X.A.units+64<B4)(hg:X.A.guards=Aa [])(hz:z.length<=1000)(he:PE X e (En i)):PE X (.JoinedStr [.FormattedValue e (-1) Ae p1,.Constant (.str z) k p2] p3) (tFs X.K CL i):=by
 intro pI s σ H Q I ⟨v,d,A,n,hv,r,hx,hn,q⟩;refine wpAny_JoinedStr ?_;show Ax (model X.prog X.w) X.A (eval (.FormattedValue e (-1) Ae p1) X.env) (fun v s1=>∃ y t,v=.str y t/\(Jm++y).length<=sizeLine/\Joins (model X.prog X.w) X.A X.xe [eval (.Constant (.str z) k p2) X.env] (Jm++y) _ s1) X.xe s
 refine wpAny_FormattedValue_plain (thn (he pI s σ H (fun x H1=>x=v/\H1=H) I ⟨v,hv,rfl,rfl⟩) fun u s1 ⟨x,H1,I1,r1,e1,e2⟩=>?_)
 subst e1 e2;have zl:sizeLine ≥ 2000:=by decide
 obtain⟨pd,sw⟩:=xK I1 (n+1) hx r r1;cases d with
 |tup ds=>
  obtain⟨a,xs,rfl,_,sq,rs⟩:=r;cases r1;have xb:xbd (n+1)<=500:=by
   have:n=0\/n=1:=by omega
   rcases this with rfl|rfl<;>decide
  have ln:=sw.ln;have dp:=sw.dp;refine formatField_of_reads sw.rd sw.sh (fun z=>by rw[sw.nd]at z;cases z) hg (by omega) (fun _ _ z=>z) (fun h' tk1 tk2 kp=>?_) (by omega)
  have l0:(Jm++pd.shown).length<=500:=by
   rw[strLen_append];have:Str.empty.length=0:=rfl;omega
  refine⟨pd.shown,tk1,rfl,by omega,?_⟩
  have I2:Inv X pI σ H1 {s1 with heap:=h',toks:=tk2}:=I1.kept kp
  show Ax (model X.prog X.w) X.A (eval (.Constant (.str z) k p2) X.env) _ X.xe {s1 with heap:=h',toks:=tk2}
  refine thn (Wd (X:=X) pI _ σ H1 (fun x H2=>x=.str z/\H2=H1) I2 ⟨rfl,rfl⟩) fun u2 s2 ⟨x2,H2,I3,r3,e3,e4⟩=>?_
  subst e3 e4;obtain⟨t3,rfl⟩:=r3;have l1:(Jm++pd.shown++z).length<=sizeLine:=by
   rw[strLen_append];omega
  exact⟨z,t3,rfl,l1,l1,⟨.str _,H2,I3.tok _,⟨_,rfl⟩,q _⟩⟩
 |_=>cases hx
end
def XEx(e C:Am)(dx:Ap Am)(t:Am):AF->Prop:=fun h=>h.get? e=Aa (F7 C dx t)
theorem QJ{e C:Am}{t:Am}:∀ h1 h2:AF,XEx e C dx t h1->(∀ o,h1.get? e=Aa o->h2.get? e=Aa o)->XEx e C dx t h2:=fun _ _ p k=>k _ p
section
variable{X:Cx}{CL:ClA}{C:Am}{nm q:Ai}{N:Am}{bs bm:Ac Al}{hdct:Ak}{sn:Ac Ai}{sub:Ac Al}{ab:Ak}{col:Ap Ak}{dd:Ap Am}{k0 k1 k2 k3 k5:Ap Al}
theorem gH{apos:AG}{es ej:An}{i j:Ag}(hob:∀ h:AF,X.K.In h->h.get? C=Aa (Cd nm q C N bs bm hdct sn sub ab col dd k0 k1 k2 k3 k5 "ValueError.__new__")/\DV h veB bm)(hg:Gl X g)(hm:X.mg g=Aa (.ref OV))(hdb:(g==("__debug__" : Ai))=Ad)(s1:Eo X.K (.ref OV) "__getattribute__" = Aa (Aa (.builtin "type.__getattribute__")))(s2:Fj X.K OV (.type "type")=Ab)(s3:Fi X.K (.ref OV) (.type "type") "__init__" = Aa (.val (.builtin "ValueError.__init__")))(hline:(apos.endLine==cpos.line)=Ab)(he:PE X es (En i))(hj:PE X ej (tFs X.K CL j))(sA:Av [es,ej] X.env=(Ad,eval es X.env)::Av [ej] X.env)(sB:Av [ej] X.env=[(Ad,eval ej X.env)]):
  PE X (.Call (.Attribute (.Name g np) "__init__" apos) [es,ej] [] cpos) (fun σ H Q=>∃ e dx t v d A n,σ[i]?=Aa (Aa (.ref e))/\H e=Aa (.ext (XEx e C dx t))/\σ[j]?=Aa (Aa v)/\Rep X.K CL H A v d/\xfD (n+1) d=Ab/\n<=1/\∀ t',Q .non (upd H e (.ext (XEx e C dx t')))):=by
 have st1:Av [es,ej] X.env=[(Ad,eval es X.env),(Ad,eval ej X.env)]:=by rw[sA,sB]
 intro pI s σ H Q I ⟨e,dx,t,v,d,A,n,h1,h2,h3,r,hx,hn,hq⟩;rw[arm_eval_Call];refine Ao (show Ax (model X.prog X.w) X.A (eval (.Name g np) X.env) _ X.xe s from Jw I hg hm ?_ hdb)
 refine Ao (DM ?_);have form:methodCallForm ([es,ej].length+([]:Ac Ez).length) (BN cpos (Av [es,ej] X.env)) (JT cpos (H9 [] X.env))=Ab:=by
  rw[st1];rfl
 have mpos:methodCallPos Ab (.Name g np) X.env apos cpos=pure cpos:=by
  unfold methodCallPos;simp[hline]
 unfold methodCall;rw[form];refine Ao (Ch (PySem.W.method_cls I.kIn s1 (PySem.W.cls_value I.kIn s2 s3 rfl ?_)));refine Ao (JS mpos ?_);have I1:=I.tok (s.toks+1);have pa:PA X [es,ej] _:=DC he (DC hj E7 sB) sA;have hA:=pa cpos pI {s with toks:=s.toks+1} σ H (fun xs H'=>H'=H/\∃ z,xs=[.ref e,.str z]) I1 ⟨_,h1,⟨v,d,A,n,h3,r,hx,hn,fun z=>⟨rfl,z,rfl⟩⟩⟩
 rw[st1]at hA ⊢;refine YK rfl (EI (thn hA fun us s2 ⟨xs,H2,I2,rv,e2,z,ex⟩=>?_))
 subst e2 ex;obtain⟨u1,u2,rfl,ru1,ru2⟩:=LH rv;cases ru1;obtain⟨tk,rfl⟩:=ru2;obtain⟨gC,T⟩:=hob _ I2.kIn;have ge:XEx e C dx t s2.heap:=(I2.hok e _ h2).1;obtain⟨hp,g2,d2,tk2,os2⟩:=s2;refine rC EW T gC ge fun h' t' kp ge'=>?_
 refine⟨.non,_,I2.write (x:=e) (e:=e) (o:=.ext (XEx e C dx t')) (t':=tk2) (by rw[h2];exact trivial) (.inl rfl) kp ⟨_,ge'⟩ ⟨ge',⟨_,ge'⟩,QJ⟩,rfl,hq t'⟩
end
theorem dL{bmB bm:Ac Al}(T:DV h bmB bm){self:Al}{what:Ai}(hb:refuseLoop self what bmB=pure ()):refuseLoop self what bm=pure ():=by
 induction T with
 |base=>exact hb
 |own _ _ _ _ ih=>rw[Z4];exact ih
section
variable{prog:AO}{w:A4}{A:A2}{E:Vq}{h:AF}{g:Be Fp}{d:HU}{tk0:Ag}{os:Hn}{K:Fg}
variable{nm q:Ai}{C N e t:Am}{bs bm bmB:Ac Al}{sn:Ac Ai}{sub:Ac Al}{ab:Ak}{col:Ap Ak}{dd:Ap Am}{k0 k1 k2 k3 k5:Ap Al}{B newId sa owner:C5}
theorem lW{Q:Fin->Ar->Prop}{v:Al}(X:K.In h)(SF:KC B bmB sa owner)(T:DV h bmB bm)(gC:h.get? C=Aa (Cd nm q C N bs bm Ab sn sub ab col dd k0 k1 k2 k3 k5 newId))(hf:At K (.ref C) name=Aa Ae)(ge:h.get? e=Aa (F7 C Ae t))(hq:∀ h' dx tk',(∀ b o,b≠e->h.get? b=Aa o->h'.get? b=Aa o)->h'.get? e=Aa (F7 C (Aa dx) t)->h.get? dx=Ae->h'.Ns1 dx (fun y=>if y=name then Aa v else Ae)->Q (.done (.ret .none)) ⟨h',g,d,tk',os⟩):Ax (model prog w) A (Builtin.«object.__setattr__» ⟨[.ref e,.str name tk,v],[]⟩) Q E ⟨h,g,d,tk0,os⟩:=by
  have pass:=dL T (SF.passes (.ref e));have L1:=Cp (M:=model prog w) X hf;obtain⟨o,ho⟩:∃ o,F7 C Ae t=o:=⟨_,rfl⟩;rw[ho]at ge;have oc:o.cls=.ref C:=by rw[<-ho];rfl
  unfold Builtin.«object.__setattr__»
  repeat (first|rw[refuse_eq]|(rw[Z4,pass])|(with_reducible refine B6 ge ?_;rw[oc])|(with_reducible refine wpAny_mroOf_exc gC ?_)|(with_reducible refine L1.at ?_)|(with_reducible refine Ao (L1.at ?_))|wp_step)
  have od:o.dict=Ae:=by rw[<-ho];rfl
  have odt:o.data=.fields #[.ref t,.none,.none,.none,.bool Ad,.none]:=by rw[<-ho];rfl
  rw[od,odt,AH (by simp[typeHasDict])]
  let D:C3:={ cls:=.type "dict", data:=.dict #[] }
  have g1:(h.push D).get? e=Aa o:=As _ ge;have ne:e≠h.objs.size:=Bc (AE ge);refine Ao (wpAny_alloc' ?_);refine Ao (wpAny_update' g1 ?_);refine AI ?_
  let U:C3->C3:=fun o=>{cls:=o.cls,dict:=Aa h.objs.size,data:=o.data,slots:=o.slots}
  have gD:((h.push D).update e U).get? h.objs.size=Aa D:=(Zt _ _ _ _ ne.symm).trans (Zr rfl rfl);have nD:((h.push D).update e U).Ns h.objs.size (fun _=>Ae):=⟨_,#[],_,gD,rfl,fun z hz=>absurd hz (by simp),fun _=>rfl⟩
  change Ax _ _ (YG h.objs.size (.str name tk) name v) _ _ _;unfold YG Builtin.ObjectAttr.newKeyGuard;refine Ao (AI (Ao (wpAny_nsSet1 (Heap.Ns1.of_empty nD) fun k hk hs=>?_)))
  obtain⟨oD,eD,pD,q1,q2,q3⟩:=hk.count (Within.cons name v Within.nil);have le:oD.data.pastItsLine=Ae:=by
    rw[q2];refine pastItsLine_dict (Ct q3 ?_);rw[Bk,Yh,Dl];omega
  refine Ao (wpAny_lookBehind q1 le ?_)
  wp_walk
  refine hq k h.objs.size _ (fun b ob nb hb=>?_) ?_ (Dp (AW _)) hk
  · rw[hs.2 b (Bc (AE hb)),Zt _ _ _ _ nb];exact As _ hb
  · rw[hs.2 e ne];have:Aa (F7 C (Aa h.objs.size) t)=Aa (U o):=by rw[<-ho];rfl
    rw[this];exact CJ _ g1 (by rw[<-ho];rfl)
end
section
variable{prog:AO}{w:A4}{A:A2}{E:Vq}{h:AF}{g:Be Fp}{d:HU}{tk0:Ag}{os:Hn}{K:Fg}
variable{nm q:Ai}{C N e t:Am}{bs bm bmB:Ac Al}{sn:Ac Ai}{sub:Ac Al}{ab:Ak}{col:Ap Ak}{dd:Ap Am}{k0 k1 k2 k3 k5:Ap Al}{B newId sa owner:C5}
theorem lX{o:C3}{a b:Al}(SF:KC B bmB sa owner)(T:DV h bmB bm)(gC:h.get? C=Aa (Cd nm q C N bs bm Ab sn sub ab col dd k0 k1 k2 k3 k5 newId))(ge:h.get? e=Aa o)(hc:o.cls=.ref C)(hq:Q () ⟨h,g,d,tk0,os⟩):Ax M A (F4 sa ⟨[.ref e,a,b],[]⟩) Q E ⟨h,g,d,tk0,os⟩:=by
 have hb:(Co C::bm).contains (.type owner)=Ab:=by rw[GV,T.hasType SF.hasOwner,Ht]
 have ha:=SF.args (.ref e) a b;simp only[F4,SF.kind,SF.split];refine Ao ?_;unfold ID
 repeat (first|(with_reducible refine B6 ge ?_;rw[hc])|(with_reducible refine E5 gC ?_;rw[hb])|wp_step)
 unfold argsOk at ha;split
 ·rename_i sig hs;rw[hs]at ha;refine JS ha ?_;exact hq
 ·exact AI hq
theorem rA{v:Al}(X:K.In h)(SF:KC B bmB sa owner)(T:DV h bmB bm)(gC:h.get? C=Aa (Cd nm q C N bs bm Ab sn sub ab col dd k0 k1 k2 k3 k5 newId))(hf:At K (.ref C) name=Aa Ae)(hs:At K (.ref C) "__setattr__" = Aa (Aa (.builtin sa)))(ge:h.get? e=Aa (F7 C Ae t))(hq:∀ h' dx tk',(∀ b o,b≠e->h.get? b=Aa o->h'.get? b=Aa o)->h'.get? e=Aa (F7 C (Aa dx) t)->h.get? dx=Ae->h'.Ns1 dx (fun y=>if y=name then Aa v else Ae)->Q () ⟨h',g,d,tk',os⟩):Ax (model prog w) A (setAttr (.ref e) name v) Q E ⟨h,g,d,tk0,os⟩:=by
 have f3:=SF.slot.bind (.ref e);have L1:=Cp (M:=model prog w) X hs;obtain⟨o,ho⟩:∃ o,F7 C Ae t=o:=⟨_,rfl⟩;have oc:o.cls=.ref C:=by rw[<-ho];rfl
 have ge':=ge;rw[ho]at ge';unfold setAttr Jn specialOf
 repeat (any_goals (first|assumption|(with_reducible refine B6 ge' ?_;rw[oc])|(with_reducible refine Ao (L1.at ?_))|(with_reducible refine L1.at ?_)|wp_step))
 refine DR SF.slot.plain SF.entry (lX SF T gC ge' oc (lW X SF T gC hf ge fun h' dx tk' k1 k2 k3 k4=>?_))
 repeat (any_goals (first|assumption|wp_step))
 exact hq h' dx tk' k1 k2 k3 k4
end
section
variable{X:Cx}{pI:Pn}{σ:L2.St}{H:Hp}{s:Ar}{e:Am}
theorem VT{o:HO}(I:Inv X pI σ H s)(ha:Hc X pI e)(hH:H e=Ae)(ho:ObjOk X.prog X.w (upd H e o) s.heap e o):Inv X pI σ (upd H e o) s:=by
 have ne:∀ b o,H b=Aa o->b≠e:=fun b o q z=>by rw[z,hH]at q;cases q
 refine⟨I.ok,I.os,I.bare,⟨I.base.keep,I.base.slot,fun b o q n hb=>?_,I.base.there,fun b xs q=>?_,fun b o u q=>?_,fun b ps q=>?_⟩,I.loc,I.cell,?_,fun x c q=>?_,fun p hp=>?_,fun b o q=>?_,I.len⟩
 ·rw[Bu fun z=>by rw[z,ha.2.2.2]at q;cases q]
  exact I.base.free b o q n hb
 ·have:=I.base.tups b xs q;rw[Bu (ne _ _ this)];exact this
 ·have:=I.base.frzs b o u q;rw[Bu (ne _ _ this)];exact this
 ·obtain⟨more,this⟩:=I.base.tbls b ps q;exact⟨more,by rw[Bu (ne _ _ this)];exact this⟩
 ·rw[Bu fun z=>ha.1 z.symm];exact I.free
 ·rw[Bu (ha.2.1 x c q)];exact I.freeC x c q
 ·obtain⟨q,n,r⟩:=I.pin p hp;exact⟨q,by rw[Bu (ha.2.2.1 p hp)];exact n,r⟩
 ·by_cases hb:b=e
  ·subst hb;rw[ED]at q;cases q;exact ho
  ·rw[Bu hb]at q;exact(I.hok b o q).stay (fun c v hc z=>z) (fun c z=>by rw[Bu (ne _ _ z)];exact z) fun c zs z=>by rw[Bu (ne _ _ z)];exact z
theorem jD(I:Inv X pI σ H s)(hH:H e=Aa (.ext φ))(h0:X.s₀.heap.get? e=Ae)(h1:X.ex=[]->HA):Inv X pI σ (fun b=>if b=e then Ae else H b) s:=by
 have get:∀ b o,(if b=e then Ae else H b)=Aa o->b≠e/\H b=Aa o:=fun b o q=>by
  by_cases z:b=e
  ·rw[AA z]at q;cases q
  ·rw[AH z]at q;exact⟨z,q⟩
 have put:∀ b o,H b=Aa o->o≠.ext φ->(if b=e then Ae else H b)=Aa o:=fun b o q n=>by
  by_cases z:b=e
  ·rw[z,hH]at q;cases q;exact absurd rfl n
  ·rw[AH z];exact q
 have non:∀ b,H b=Ae->(if b=e then Ae else H b)=Ae:=fun b q=>by
  by_cases z:b=e
  ·rw[AA z]
  ·rw[AH z];exact q
 refine⟨I.ok,I.os,I.bare,⟨fun b o q n hb hx=>?_,I.base.slot,fun b o q n hb=>?_,I.base.there,fun b xs q=>?_,fun b o u q=>?_,fun b ps q=>?_⟩,I.loc,I.cell,non _ I.free,fun x c q=>non _ (I.freeC x c q),fun p hp=>?_,fun b o q=>?_,I.len⟩
 ·exact I.base.keep b o q n hb hx
 ·exact non b (I.base.free b o q n hb)
 ·exact put b _ (I.base.tups b xs q) (by intro z;cases z)
 ·exact put b _ (I.base.frzs b o u q) (by intro z;cases z)
 ·obtain⟨more,this⟩:=I.base.tbls b ps q;exact⟨more,put b _ this (by intro z;cases z)⟩
 ·obtain⟨q,n,r⟩:=I.pin p hp;exact⟨q,non _ n,r⟩
 ·obtain⟨nb,q⟩:=get b o q;exact(I.hok b o q).stay (fun c v hc z=>z) (fun c z=>put c _ z (by intro z;cases z)) fun c zs z=>put c _ z (by intro z;cases z)
end
section
variable{X:Cx}{C:Am}{nm q:Ai}{N:Am}{bs bm:Ac Al}{sn:Ac Ai}{sub:Ac Al}{ab:Ak}{col:Ap Ak}{dd:Ap Am}{k0 k1 k2 k3 k5:Ap Al}
theorem nW{i j:Ag}{f:Ai}{eo ev:An}{p8 p10:AG}(hob:∀ h:AF,X.K.In h->h.get? C=Aa (Cd nm q C N bs bm Ab sn sub ab col dd k0 k1 k2 k3 k5 "ValueError.__new__")/\DV h veB bm)(hx:X.ex=[])(hf:At X.K (.ref C) f=Aa Ae)(hs:At X.K (.ref C) "__setattr__" = Aa (Aa (.builtin "object.__setattr__")))(he:PE X eo (En i))(hv:PE X ev (En j))(sw:CW ev (Aa (.Attribute eo f p8)) p10.line X.env=pure Ad):PS X (.Assign [.Attribute eo f p8] ev p10) (fun D σ H=>∃ e t v,σ[i]?=Aa (Aa (.ref e))/\H e=Aa (.ext (XEx e C Ae t))/\σ[j]?=Aa (Aa v)/\∀ dx,H dx=Ae->dx≠e->D.nx σ (upd (upd H e (.ext (XEx e C (Aa dx) t))) dx (.xd [(f,v)]))):=by
 intro pI s σ H D I ⟨e,t,v,h1,h2,h3,hq⟩;refine plainObj_wpAny_Assign_Attribute (thn (hv pI s σ H (fun x H1=>x=v/\H1=H) I ⟨v,h3,rfl,rfl⟩) fun u s1 ⟨x,H1,I1,r1,e1,e2⟩=>?_) sw
 subst e1 e2;refine thn (he pI s1 σ H1 (fun x H2=>x=.ref e/\H2=H1) I1 ⟨_,h1,rfl,rfl⟩) fun u2 s2 ⟨x2,H2,I2,r2,e3,e4⟩=>?_
 subst e3 e4;cases r2;obtain⟨gC,T⟩:=hob _ I2.kIn;have ge:XEx e C Ae t s2.heap:=(I2.hok e _ h2).1;obtain⟨hp,g2,d2,tk2,os2⟩:=s2;refine rA I2.kIn PySem.F.store_ValueError T gC hf hs ge fun h' dx tk' kp ge' nd ns=>?_
 have nH:H2 dx=Ae:=Ld I2.hok nd;have nde:dx≠e:=fun z=>by rw[z,h2]at nH;cases nH
 have ap:Hc X pI dx:=Mt I2 hx nd;have I3:=I2.write (x:=e) (e:=e) (o:=.ext (XEx e C (Aa dx) t)) (t':=tk') (by rw[h2];exact trivial) (.inl rfl) kp ⟨_,ge'⟩ ⟨ge',⟨_,ge'⟩,QJ⟩
 have I4:=VT (o:=.xd [(f,x)]) I3 ap (by rw[Bu nde];exact nH) ⟨_,ns,fun y=>by
  by_cases z:y=f
  ·subst z;rw[AA rfl];simp only[FT,De];exact r1
  ·rw[AH z];have:(y==f)=Ad:=by simp[z]
   simp only[FT,this]
   trivial⟩
 exact⟨σ,_,I4,hq dx nH nde⟩
end
noncomputable def Fa(K:Fg)(C:Am):Ak:=match K.lookup C with
  |some ⟨_,_,.cls c,_⟩=>c.hasDict
  |_=>Ad
noncomputable def RU(g par f z:Ai)(k:Ag)(np apos p1 p2 p3 p4 p5 cpos p6 p7 p8 p9 p10:AG):Ac AQ:=
 [.Expr (.Call (.Attribute (.Name g np) "__init__" apos) [.Name "self" p1,.JoinedStr [.FormattedValue (.Name par p2) (-1) Ae p3,.Constant (.str z) k p4] p5] [] cpos) p6,.Assign [.Attribute (.Name "self" p7) f p8] (.Name par p9) p10]
inductive XIn (K:Fg) (mg:Ai->Ap Al) (C:Am) (f:Ai):Prop
 |mk {fI OV:Am} {x qual g par z:Ai} {st:AQ} {fd:BL} {k:Ag} {np apos p1 p2 p3 p4 p5 cpos p6 p7 p8 p9 p10:AG} (xc:D9 K C (Aa (.ref fI))=Ab) (dc:Fa K C=Ab) (fn:Fun K x qual st fI fd) (ty:EB K (.ref fI)=Aa (.type "function"))
  (S:FnScope ["self", par] ["self", par] (Cq st)) (l1:(Cq st).names.lookup ("self" : Ai)=Aa .local) (l2:(Cq st).names.lookup par=Aa .local) (bd:FP K fd ["self", par] []) (body:Fw st=RU g par f z k np apos p1 p2 p3 p4 p5 cpos p6 p7 p8 p9 p10)
  (gl:(Cq st).names.lookup g=Aa .globalImplicit) (mo:mg g=Aa (.ref OV)) (dg:(g==("__debug__" : Ai))=Ad) (dp:(par==("__debug__" : Ai))=Ad) (dq:(par==("__classdict__" : Ai))=Ad)
  (s1:Eo K (.ref OV) "__getattribute__" = Aa (Aa (.builtin "type.__getattribute__"))) (s2:Fj K OV (.type "type")=Ab) (s3:Fi K (.ref OV) (.type "type") "__init__" = Aa (.val (.builtin "ValueError.__init__")))
  (hl:(apos.endLine==cpos.line)=Ab) (hz:z.length<=1000) (hf:At K (.ref C) f=Aa Ae) (hs:At K (.ref C) "__setattr__" = Aa (Aa (.builtin "object.__setattr__"))):XIn K mg C f
section
variable{P:AO}{w:A4}{K:Fg}{mg:Ai->Ap Al}{base:AF}{CL:ClA}{C fI OV:Am}{x qual g par z f:Ai}{st:AQ}{fd:BL}{k:Ag}{np apos p1 p2 p3 p4 p5 cpos p6 p7 p8 p9 p10:AG}
variable{nm q:Ai}{N:Am}{bs bm:Ac Al}{sn:Ac Ai}{sub:Ac Al}{ab:Ak}{col:Ap Ak}{dd:Ap Am}{k0 k1 k2 k3 k5:Ap Al}
theorem mU(hob:∀ h:AF,K.In h->h.get? C=Aa (Cd nm q C N bs bm Ab sn sub ab col dd k0 k1 k2 k3 k5 "ValueError.__new__")/\DV h veB bm)(fn:Fun K x qual st fI fd)(S:FnScope ["self", par] ["self", par] (Cq st))(l1:(Cq st).names.lookup ("self" : Ai)=Aa .local)(l2:(Cq st).names.lookup par=Aa .local)(bd:FP K fd ["self", par] [])(body:Fw st=RU g par f z k np apos p1 p2 p3 p4 p5 cpos p6 p7 p8 p9 p10)(gl:(Cq st).names.lookup g=Aa .globalImplicit)(mo:mg g=Aa (.ref OV))(dg:(g==("__debug__" : Ai))=Ad)(dp:(par==("__debug__" : Ai))=Ad)(dq:(par==("__classdict__" : Ai))=Ad)(s1:Eo K (.ref OV) "__getattribute__" = Aa (Aa (.builtin "type.__getattribute__")))(s2:Fj K OV (.type "type")=Ab)(s3:Fi K (.ref OV) (.type "type") "__init__" = Aa (.val (.builtin "ValueError.__init__")))(hl:(apos.endLine==cpos.line)=Ab)(hz:z.length<=1000)(hf:At K (.ref C) f=Aa Ae)(hs:At K (.ref C) "__setattr__" = Aa (Aa (.builtin "object.__setattr__"))){A:A2}{outer:Ac B9}{s:Ar}{E:XK}{e t:Am}{v:V}{u:Al}{n:Ag}(hh:A.handled=Ae)(hdp:A.depth<GH)(hun:A.units+70<B4)(hgd:A.guards=Aa [])(e0:Env0 P w K mg base A outer s H)(he:H e=Aa (.ext (XEx e C Ae t)))(rp:Rep K CL H B v d)(hx:xfD (n+1) d=Ab)(hn:n<=1)(r:BB v u):FE (model P w) A (.call (.ref fI) ⟨[.ref e,u],[]⟩) (CR IY outer P w H s (fun y H'=>y=.non/\∃ t' dx,H dx=Ae/\dx≠e/\H'=upd (upd H e (.ext (XEx e C (Aa dx) t'))) dx (.xd [(f,v)])) E) s:=by
 obtain⟨oc,od,kV,doc,pm,an,cdv,ct,osl,rfl,lk,hcd⟩:=fn.ex;have KX:K.In s.heap:=e0.mod.kin.keeps fun b o e=>(e0.bs b o e).1
 have lim:s.heap.NoLimit:=e0.mod.nolimit.keeps fun b o e=>(e0.bs b o e).1
 have hkind:∀ y∈(["self", par]:Ac Ai).zip [Co e,u],(Cq st).names.lookup y.1=Aa .local\/((Cq st).names.lookup y.1=Aa .cell/\((CN (s.heap.objs.size+1) (Cq st).names []).lookup y.1).isSome=Ab):=fun y hy=>by
  refine .inl ?_;rcases Aw.mp hy with rfl|hy
  ·exact l1
  ·rw[BA.mp hy];exact l2
 have rv:A7 [.ref e,v] [.ref e,u]:=.cons rfl (.cons r .nil);refine Ge hdp (KX _ _ lk) rfl S.co S.gen rfl (G0 KX hcd) (bd s [.ref e,u] KX rfl _ _ _ _ ?_);refine EY S.kind hkind fun env hen s1' x=>?_
 subst hen;refine⟨lim.keeps x.toInCall.keep,Jo ?_⟩;have I:Inv (EG IY P w K mg base ["self", par] qual (Cq st) fI cdv A outer s H E) [] (start ["self", par] [.ref e,v]) H s1':=PM S hh e0 rfl rv x;generalize hX:EG IY P w K mg base ["self", par] qual (Cq st) fI cdv A outer s H E=X at I;have pself:∀ p,PE X (.Name "self" p) (En 0):=fun p=>by rw[<-hX];exact N2 rfl (.inl l1)
 have ppar:∀ p,PE X (.Name par p) (En 1):=fun p=>by rw[<-hX];exact N2 rfl (.inl l2) dp dq
 have st1:=gH (X:=X) (CL:=CL) (C:=C) (g:=g) (np:=np) (apos:=apos) (cpos:=cpos) (i:=0) (j:=1) (OV:=OV) (by rw[<-hX];exact hob) (by rw[<-hX];exact gl) (by rw[<-hX];exact mo) dg (by rw[<-hX];exact s1) (by rw[<-hX];exact s2) (by rw[<-hX];exact s3) hl (pself p1)
  (oE (k:=k) (p1:=p3) (p2:=p4) (p3:=p5) (by rw[<-hX];show A.units+3+64<B4;omega) (by rw[<-hX];exact hgd) hz (ppar p2)) rfl rfl
 have st2:=nW (X:=X) (p8:=p8) (p10:=p10) (by rw[<-hX];exact hob) (by rw[<-hX];rfl) (by rw[<-hX];exact hf) (by rw[<-hX];exact hs) (pself p7) (ppar p9) rfl
 have all:=Uv (J7 (pos:=p6) st1 rfl) (Mz st2);have hk:=all [] s1' _ H {nx:=fun _ H'=>∃ t' dx,H dx=Ae/\dx≠e/\H'=upd (upd H e (.ext (XEx e C (Aa dx) t'))) dx (.xd [(f,v)]),rt:=fun _ _=>AX} I ⟨e,Ae,t,v,d,B,n,rfl,he,rfl,by rw[<-hX];exact rp,hx,hn,fun t'=>⟨e,t',v,rfl,ED,rfl,fun dx h1 h2=>⟨t',dx,by rw[Bu h2]at h1;exact h1,h2,by rw[Vm]⟩⟩⟩
 rw[body];refine Bf (by rw[<-hX]at hk;exact hk) (fun fl s' hfl=>?_) fun ev s' hev=>hev
 cases fl with
 |next=>
  obtain⟨σ',H',J,w'⟩:=hfl;exact⟨.non,H',J.os,J.bare,J.base,J.hok,rfl,rfl,w'⟩
 |ret y=>obtain⟨_,_,_,_,_,w'⟩:=hfl;exact w'.elim
 |brk=>obtain⟨_,_,_,w'⟩:=hfl;exact w'.elim
 |cont=>obtain⟨_,_,_,w'⟩:=hfl;exact w'.elim
end
theorem W6:∀(n m:Ag)(d:D),xfD n d=Ab->n+1<=m->nlD m d=Ab
 |0,m+1,.int i,_,_=>rfl
 |n+1,m+1,.tup ds,h,hm=>by
  have h':(CZ ds.length 8&&ds.all (xfD n))=Ab:=h;rw[Aj]at h';show ds.all (nlD m)=Ab;rw[DY]at h' ⊢;exact fun x hx=>W6 n m x (h'.2 x hx) (by omega)
 |0,_,.tup _,h,_=>nomatch h
 |n+1,_,.int _,h,_=>nomatch h
section
variable{X:Cx}{CL:ClA}{W:XW}
def OA(xn:Ag->Ac D->R Ex)(c:Ag)(f:Ai)(ds:Ac D):Prop:=∃ d n,ds=[d]/\xfD (n+1) d=Ab/\n<=1/\xn c ds=.ok ⟨c,[(f,d)]⟩
theorem fE{e:An}{es:Ac An}(hcalm:X.calm=Ab)(hx:X.ex=[])(hr:Room k X.A)(rz:Na X CL W)(hg:Gl X g)(hm:X.mg g=Aa (.ref C))(hdb:(g==("__debug__" : Ai))=Ad)(hcl:CL c=Aa C)(ha:SA X CL W (e::es) fs)(hxn:∀ ds,xn c ds=.bad\/(xn c ds=.ok ⟨c,[]⟩/\D9 X.K C Ae=Ab)\/∃ f,XIn X.K X.mg C f/\OA xn c f ds)(he:Av (e::es) X.env=(Ad,eval e X.env)::Av es X.env)(hpl:∀ pos,(BN pos (Av es X.env)).any (·.1)=Ad)(hz:∀ ρ ds,fs ρ=.ok ds->ds.length<=100000):SS X CL W (.Raise (Aa (.Call (.Name g np) (e::es) [] cpos)) Ae pos) (fun ρ=>O.of ρ (noX (fs ρ)) fun xs=>O.of ρ (xn c xs) fun x=>.exn x ρ):=fun Fz B pI s σ H D I ⟨ρ,x,p⟩=>by
 have hpl':(BN cpos (Av (e::es) X.env)).any (·.1)=Ad:=by rw[he];show (Ad||(BN cpos (Av es X.env)).any (·.1))=Ad;rw[hpl];rfl
 cases e1:fs ρ with
 |bad=>dsimp only at p;rw[e1]at p;exact p.elim
 |exn y=>dsimp only at p;rw[e1]at p;exact p.elim
 |ok ds=>
  rcases hxn ds with e2|⟨e2,xc⟩|⟨f,xi,d,n,rfl,xf,hn,e2⟩
  ·dsimp only at p;rw[e1]at p;have p2:BP X.K CL Fz B W (O.of ρ (xn c ds) fun x=>.exn x ρ) D:=p
   rw[e2]at p2;exact p2.elim
  ·refine gW (fs:=fs) (xn:=fun _ ds'=>match xn c ds' with | .ok ⟨_,[]⟩=>.ok ⟨c,[]⟩|_=>.bad) hcalm rz hg hm hdb xc hcl ha (fun ds'=>by
    split
    ·exact .inr rfl
    ·exact .inl rfl) he hpl hz Fz B pI s σ H D I ⟨ρ,x,?_⟩
   dsimp only at p ⊢;rw[e1]at p ⊢;have p2:BP X.K CL Fz B W (O.of ρ (xn c ds) fun x=>.exn x ρ) D:=p
   rw[e2]at p2;show BP X.K CL Fz B W (O.of ρ (match xn c ds with | .ok ⟨_,[]⟩=>(.ok ⟨c,[]⟩:R Ex)|_=>.bad) fun x=>.exn x ρ) D
   rw[e2];exact p2
  ·dsimp only at p;rw[e1]at p;have p2:BP X.K CL Fz B W (O.of ρ (xn c [d]) fun x=>.exn x ρ) D:=p
   rw[e2]at p2;have p3:∀ H,(∀ b o,Fz b o->H b=Aa o)->W ⟨c,[(f,d)]⟩ H:=p2;cases xi with
   |mk xc dc fn ty S l1 l2 bd body gl mo dg dp dq w1 w2 w3 hl hz0 hf hs=>
    rename_i fI OV x0 qual g0 par z st fd k0' np0 apos q1 q2 q3 q4 q5 cpos0 q6 q7 q8 q9 q10;obtain⟨bm,N,nm,qn,bs,hd,sn,sub,ab,col,dd,k0,k1,k2,k3,k5,mN,hob,hni,hbase⟩:=PZ I.kIn xc;have hdt:hd=Ab:=by
     unfold Fa at dc;split at dc
     ·rename_i c0 d0 cd sl lk;have g1:=I.kIn _ _ lk;rw[(hob _ I.kIn).1]at g1;unfold Cd at g1;cases g1;exact dc
     ·cases dc
    subst hdt;have hob2:∀ h:AF,X.K.In h->h.get? C=Aa (Cd nm qn C N bs bm Ab sn sub ab col dd k0 k1 k2 k3 k5 "ValueError.__new__")/\DV h veB bm:=fun h z=>⟨(hob h z).1,(hob h z).2.2⟩
    refine iQ (bmB:=veB) (nm:=nm) (q:=qn) (C:=C) (N:=N) (fI:=fI) (bs:=bs) (bm:=bm) (hdct:=Ab) (sn:=sn) (sub:=sub) (ab:=ab) (col:=col) (dd:=dd) (k0:=k0) (k1:=k1) (k2:=k2) (k3:=k3) (k5:=k5) (mN:=mN) EW hbase (I.ok.hd hcalm) hpl' hni ?_;refine Jw I hg hm ⟨rfl,?_⟩ hdb;have q1:=ha (BG B ρ σ) cpos pI s σ H (fun vs H1=>AD H H1/\Reps X.K CL H1 (BG B ρ σ) vs [d]) I ⟨x.aok,ρ,x.good,by rw[e1];exact fun vs H1 s1 r1=>⟨s1,r1⟩⟩
    rw[he]at q1 ⊢;refine EI (Bf q1 (fun us s2 ⟨vs,H2,I2,r2,sm2,rps⟩=>⟨rfl,?_⟩) fun _ _ z=>z)
    cases vs with
    |nil=>exact rps.elim
    |cons v vs=>
     cases vs with
     |cons=>exact rps.2.elim
     |nil=>
      obtain⟨u,rfl,ru⟩:=Hd r2;obtain⟨o1,o2,o3⟩:=hob _ I2.kIn;obtain⟨oc,od,kV,doc,pm,an,cdv,ct,osl,efd,lk,hcd⟩:=fn.ex;have coc:oc=.type "function" := by
       have ty':(X.K.lookup fI).map _=_:=ty;rw[lk]at ty';exact Bz ty'
      refine⟨by rw[Dl];show 1<=_;omega,o1,o2,o3,⟨_,I2.kIn _ _ lk,coc⟩,fun h' e0 made=>?_⟩
      obtain⟨t,ge,_⟩:=made.there;have I3:Inv X pI σ H2 {s2 with heap:=h'}:=I2.kept (t':=s2.toks) made.keeps
      have ap:Hc X pI e0:=Mt I2 hx made.new;have n0:H2 e0=Ae:=Ld I2.hok made.new;have I4:=VT (o:=.ext (XEx e0 C Ae t)) I3 ap n0 ⟨ge,⟨_,ge⟩,QJ⟩;have sm4:AD H2 (upd H2 e0 (.ext (XEx e0 C Ae t))):=fun b o z=>by rw[Bu fun y=>by rw[y,n0]at z;cases z];exact z
      have ru0:=hr.mono (FU k);have run:=mU (P:=X.prog) (w:=X.w) (mg:=X.mg) (base:=X.base) (CL:=CL) (E:=fun _ _ _=>AX) (B:=BG B ρ σ) (H:=upd H2 e0 (.ext (XEx e0 C Ae t))) (t:=t) hob2 fn S l1 l2 bd body gl mo dg dp dq w1 w2 w3 hl hz0 hf hs (A:=X.A.under (.builtin "type.__call__" ⟨.ref C::[u],[]⟩)) (outer:=X.stack) hr.hd (by rw[dZ];have:=ru0.dp;omega) (by rw[dY];have:=ru0.un;omega) hr.gd (I4.env0.make C [u] []) ED (Rep.same sm4 rps.1) xf hn ru
      refine Gr (Ft run fun r s' hq=>?_)
      cases r with
      |error _=>exact Ba hq
      |ok fl=>
       cases fl with
       |next=>exact Ba hq
       |brk=>exact Ba hq
       |cont=>exact Ba hq
       |ret u'=>
        obtain⟨v',H5,I5,rr,ev,t',dx,ndx,dne,eH⟩:=I4.after hq;subst ev;cases rr;have nd2:H2 dx=Ae:=by rw[Bu dne]at ndx;exact ndx
        rw[Vm]at eH;have H5e:H5 e0=Aa (.ext (XEx e0 C (Aa dx) t')):=by rw[eH,Bu (CP dne),ED]
        have ge5:XEx e0 C (Aa dx) t' s'.heap:=(I5.hok e0 _ H5e).1;have I6:=jD I5 H5e ap.2.2.2 fun _=>trivial
        have H6d:(if dx=e0 then Ae else H5 dx)=Aa (.xd [(f,v)]):=by rw[AH dne,eH,ED]
        have sm6:AD H2 (fun b=>if b=e0 then Ae else H5 b):=fun b o z=>by
         have nb:b≠e0:=fun y=>by rw[y,n0]at z;cases z
         have nb2:b≠dx:=fun y=>by rw[y,nd2]at z;cases z
         show (if b=e0 then Ae else H5 b)=Aa o
         rw[AH nb,eH,Bu nb2,Bu nb];exact z
        refine⟨rfl,t',Aa dx,(hob2 _ I6.kIn).1,ge5,rz pI σ _ s' e0 C (Aa dx) t' ⟨c,[(f,d)]⟩ I6 (fun hx=>Kb I2 hx made.new) (AA rfl) ge5 (fun A hA=>⟨C,hcl,rfl,.inr ⟨dx,[(f,v)],rfl,fun z=>?_,H6d,⟨rfl,?_⟩,trivial⟩⟩) (p3 _ fun b o z=>sm6 _ _ (sm2 _ _ (x.same b o z)))⟩
        ·obtain⟨ys,q⟩:=hA dx z;have q':(if dx=e0 then Ae else H5 dx)=Aa (.lst ys):=q
         rw[H6d]at q';cases q'
        ·exact Rn hA 5 d (W6 (n+1) 5 d xf (by omega)) (Rep.sub (fun _ z=>z.elim) _ (Rep.same sm6 rps.1))
end
section
variable{prog:AO}{w:A4}{A:A2}{E:Vq}{h:AF}{g:Be Fp}{d:HU}{t:Ag}{os:Hn}{K:Fg}{e C dx:Am}{f:Ai}{mA:Ai->Ap Al}{v:Al}
theorem QK(p:IX e C (Aa dx) h):XAt e C h:=let ⟨o,a,b,_⟩:=p;⟨o,a,b⟩
theorem dQ{Q:Fin->Ar->Prop}(X:K.In h)(hf:At K (.ref C) f=Aa Ae)(hd:Fa K C=Ab)(p:IX e C (Aa dx) h)(hn:h.Ns1 dx mA)(hv:mA f=Aa v)(hq:Q (.done (.ret v)) ⟨h,g,d,t,os⟩):Ax (model prog w) A (Builtin.«object.__getattribute__» ⟨[.ref e,.str f tk],[]⟩) Q E ⟨h,g,d,t,os⟩:=by
 have L0:=Jy (M:=model prog w) (QK p);have L1:=Cp (M:=model prog w) X hf;obtain⟨o,ge,oc,od,us,dt⟩:=p;unfold Fa at hd;split at hd
 ·rename_i c' d' cd' sl' lk;have gC:=X _ _ lk;unfold Builtin.«object.__getattribute__»
  repeat (any_goals (first|assumption|with_reducible refine L0.at ?_|with_reducible refine L1.at ?_|wp_step))
  rw[dt];unfold instanceDict
  repeat (first|(with_reducible refine B6 ge ?_;rw[oc])|with_reducible refine B6 gC ?_|wp_step)
  rw[od]
  repeat (first|(with_reducible refine wpAny_nsGet hn.ns ?_;rw[hv])|wp_step)
  exact hq
 ·cases hd
theorem qZ{Q:Vq}(X:K.In h)(x:XcOk K C)(hf:At K (.ref C) f=Aa Ae)(hd:Fa K C=Ab)(p:IX e C (Aa dx) h)(hn:h.Ns1 dx mA)(hv:mA f=Aa v)(hh:handedOut v=pure v)(hq:Q v ⟨h,g,d,t,os⟩):Ax (model prog w) A (getAttrBy (.ref e) (.str f tk) fill expr) Q E ⟨h,g,d,t,os⟩:=by
 have L0:=Jy (M:=model prog w) (QK p);have L1:=Cp (M:=model prog w) X x.ga;have L2:=Cp (M:=model prog w) X x.gt;have f3:=FL.ga.bind (.ref e);have hx0:(expr&&Jr (Da "BaseException.__getattribute__"))=Ad:=by cases expr<;>rfl
 have hx2:(Da "BaseException.__getattribute__" == Da "object.__getattribute__")=Ad:=by decide +kernel
 have hx1:(Jr (Co C)&&Da "BaseException.__getattribute__" == Da "object.__getattribute__")=Ad:=by rw[hx2];rfl
 repeat (any_goals (first|assumption|with_reducible refine L0.at ?_|with_reducible refine L1.at ?_|with_reducible refine L2.at ?_|wp_step))
 refine DR FL.ga.plain Zh (Ti X x (QK p) (dQ X hf hd p hn hv ?_))
 repeat (any_goals (first|assumption|wp_step))
 all_goals trace_state
theorem iR{b:Ak}{Q:Vq}(X:K.In h)(x:XcOk K C)(hf:At K (.ref C) f=Aa Ae)(hd:Fa K C=Ab)(p:IX e C (Aa dx) h)(hn:h.Ns1 dx mA)(hv:mA f=Aa v)(hh:handedOut v=pure v)(hq:Q v ⟨h,g,d,t+1,os⟩):Ax (model prog w) A (getAttr (.ref e) f b) Q E ⟨h,g,d,t,os⟩:=by
 unfold getAttr
 repeat (any_goals (first|assumption|with_reducible apply qZ X x hf hd p hn hv hh|wp_step))
end
section
variable{X:Cx}{CL:ClA}{W:XW}{K:Fg}{H:Hp}{A:Am->Prop}
theorem Ut{f:Ai}{d:D}:∀{vs:Ac (Ai×V)}{fs:Ac (Ai×D)},Repf K CL H A vs fs->fs.lookup f=Aa d->∃ v,vs.lookup f=Aa v/\Rep K CL H A v d
 |[],[],_,q=>nomatch q
 |(n,v)::vs,(m,d')::fs,⟨⟨e,r⟩,rs⟩,q=>by
  have e':n=m:=e;subst e';by_cases z:(f==n)=Ab
  ·simp only[FT,z]at q ⊢;cases q;exact⟨v,rfl,r⟩
  ·simp only[FT,z]at q ⊢;exact Ut rs q
theorem lK{a:An}{fa:Rho->R D}{f:Ai}(hxc:∀ c C,CL c=Aa C->XcOk X.K C)(hnf:∀ c C,CL c=Aa C->Fa X.K C=Ab/\At X.K (.ref C) f=Aa Ae)(ha:ST X CL W a fa)(hb:Eg a f X.env (eval a X.env)=eval a X.env):SE X CL W (.Attribute a f pos) (fun ρ=>(fa ρ).bind fun x=>M2 x f):=fun A=>by
 intro pI s σ H Q I ⟨hA,ρ,gd,q⟩;refine oX hb (thn (ha A pI s σ H _ I ⟨hA,ρ,gd,A9.bind q (Q':=fun v H1=>∃ d,CO X.K CL H1 A v d/\A9 (fun H2=>Rep X.K CL H2 A) W H1 (M2 d f) Q) fun d v H1 _ s1 r1 p1=>⟨d,r1,p1⟩⟩) fun u s1 ⟨v,H1,I1,rv,d,rp,p1⟩=>?_)
 cases d with
 |exc c fs=>
  have p2:A9 (fun H2=>Rep X.K CL H2 A) W H1 (match fs.lookup f with|some d=>.ok d|none=>.bad) Q:=p1
  cases el:fs.lookup f with
  |none=>rw[el]at p2;exact p2.elim
  |some d=>
   rw[el]at p2;rcases rp with ⟨e,C,φ,rfl,_,hc,hH,hφ,hfs⟩|⟨a,xs,ds,_,z,_⟩
   ·rcases hfs with z|⟨dx,vs,nd,hd,rf,hφ2⟩
    ·rw[z]at el;cases el
    ·obtain⟨y,l,ry⟩:=Ut rf el;cases rv;have ph:=(I1.hok e _ hH).1;obtain⟨o,ge,oc⟩:=hφ _ ph;obtain⟨o',ge',od,us,odt⟩:=hφ2 _ ph;rw[ge]at ge';cases ge';obtain⟨mA,hn,rel⟩:=I1.hok dx _ hd;obtain⟨u',hu,ru⟩:=M8.some_of (v:=y) (o:=mA f) (by rw[<-l];exact rel f)
     obtain⟨k1,k2⟩:=hnf c C hc;obtain⟨hp,g2,d2,tk2,os2⟩:=s1;exact iR I1.kIn (hxc c C hc) k2 k1 ⟨o,ge,oc,od,us,odt⟩ hn hu (PySem.W.handedOut_of (fJ ru)) ⟨y,H1,I1.tok _,ru,p2 y H1 (AD.refl H1) ry⟩
   ·cases z
 |_=>exact p1.elim
end
structure Tc where
 sc:B5
 N:Ac Ai
 /-- a def's name,its number,how many parameters it has -/
 fns:Ac (Ai×Ag×Ag)
 /-- built-in names that the text does not hide -/
 bl:Ac Ai
 /-- exceptions' classes by their names: those that are raised,all that are asked for -/
 rzs:Ac (Ai×Ag)
 exs:Ac (Ai×Ag)
 /-- the text's constants -/
 gls:Ac (Ai×Ag)
noncomputable def RS(T:Tc)(x:Ai):Ak:=match T.sc.names.lookup x with
  |some .local=>Ab
  |some .cell=>Ab
  |some .free=>Ab
  |_=>Ad
noncomputable def Jd(T:Tc)(x:Ai):Ak:=match T.sc.names.lookup x with
  |some .local=>Ab
  |some .cell=>Ab
  |_=>Ad
noncomputable def glB(T:Tc)(x:Ai):Ak:=T.sc.names.lookup x==Aa .globalImplicit
noncomputable def GO(x:Ai):Ak:=!(x==("__debug__" : Ai)) && !(x==("__classdict__" : Ai)) && !(x==("__name__" : Ai))
noncomputable def isV(T:Tc)(x:Ai)(i:Ag):Ak:=T.N[i]? == Aa x&&RS T x&&GO x
noncomputable def isB(T:Tc)(x:Ai):Ak:=T.bl.contains x&&glB T x&&GO x
theorem Cn{a b:Ak}(h:(a&&b)=Ab):a=Ab/\b=Ab:=(Aj a b).mp h
theorem orT{a b:Ak}(h:(a||b)=Ab):a=Ab\/b=Ab:=(CG a b).mp h
noncomputable def EL(e:An)(F:Ai->Ak):Ak:=if c:e.ctorIdx=23 then Y5 (motive_1:=fun _=>Ak) e c fun x _=>F x else Ad
theorem Fx{e:An}{F:Ai->Ak}(h:EL e F=Ab):∃ x p,e=Y4 x p/\F x=Ab:=by
 by_cases c:e.ctorIdx=23
 ·exact Y5 (motive_1:=fun e=>EL e F=Ab->∃ x p,e=Y4 x p/\F x=Ab) e c (fun x p h=>⟨x,p,rfl,h⟩) h
 ·exact absurd ((B2 c).symm.trans h) Ah
noncomputable def JF(e:An)(F:Const->Ak):Ak:=if c:e.ctorIdx=19 then YZ (motive_1:=fun _=>Ak) e c fun c _ _=>F c else Ad
theorem K7{e:An}{F:Const->Ak}(h:JF e F=Ab):∃ c u p,e=YY c u p/\F c=Ab:=by
 by_cases c:e.ctorIdx=19
 ·exact YZ (motive_1:=fun e=>JF e F=Ab->∃ c u p,e=YY c u p/\F c=Ab) e c (fun c u p h=>⟨c,u,p,rfl,h⟩) h
 ·exact absurd ((B2 c).symm.trans h) Ah
noncomputable def Ow(e:An)(F:An->Fq->An->Ak):Ak:=if c:e.ctorIdx=2 then YR (motive_1:=fun _=>Ak) e c fun x o y _=>F x o y else Ad
theorem UD{e:An}{F:An->Fq->An->Ak}(h:Ow e F=Ab):∃ x o y p,e=YQ x o y p/\F x o y=Ab:=by
 by_cases c:e.ctorIdx=2
 ·exact YR (motive_1:=fun e=>Ow e F=Ab->∃ x o y p,e=YQ x o y p/\F x o y=Ab) e c (fun x o y p h=>⟨x,o,y,p,rfl,h⟩) h
 ·exact absurd ((B2 c).symm.trans h) Ah
noncomputable def Jb(e:An)(F:JK->An->Ak):Ak:=if c:e.ctorIdx=3 then Zd (motive_1:=fun _=>Ak) e c fun o x _=>F o x else Ad
theorem MB{e:An}{F:JK->An->Ak}(h:Jb e F=Ab):∃ o x p,e=Zc o x p/\F o x=Ab:=by
 by_cases c:e.ctorIdx=3
 ·exact Zd (motive_1:=fun e=>Jb e F=Ab->∃ o x p,e=Zc o x p/\F o x=Ab) e c (fun o x p h=>⟨o,x,p,rfl,h⟩) h
 ·exact absurd ((B2 c).symm.trans h) Ah
noncomputable def Ii(e:An)(F:BoolOp->Ac An->AG->Ak):Ak:=if c:e.ctorIdx=0 then YT (motive_1:=fun _=>Ak) e c fun o xs p=>F o xs p else Ad
theorem K8{e:An}{F:BoolOp->Ac An->AG->Ak}(h:Ii e F=Ab):∃ o xs p,e=YS o xs p/\F o xs p=Ab:=by
 by_cases c:e.ctorIdx=0
 ·exact YT (motive_1:=fun e=>Ii e F=Ab->∃ o xs p,e=YS o xs p/\F o xs p=Ab) e c (fun o xs p h=>⟨o,xs,p,rfl,h⟩) h
 ·exact absurd ((B2 c).symm.trans h) Ah
noncomputable def Lu(e:An)(F:An->Ac C9->Ac An->Ak):Ak:=if c:e.ctorIdx=15 then YX (motive_1:=fun _=>Ak) e c fun x os ys _=>F x os ys else Ad
theorem Qj{e:An}{F:An->Ac C9->Ac An->Ak}(h:Lu e F=Ab):∃ x os ys p,e=YW x os ys p/\F x os ys=Ab:=by
 by_cases c:e.ctorIdx=15
 ·exact YX (motive_1:=fun e=>Lu e F=Ab->∃ x os ys p,e=YW x os ys p/\F x os ys=Ab) e c (fun x os ys p h=>⟨x,os,ys,p,rfl,h⟩) h
 ·exact absurd ((B2 c).symm.trans h) Ah
noncomputable def Ou(e:An)(F:An->Ac An->Ac Ez->AG->Ak):Ak:=if c:e.ctorIdx=16 then YV (motive_1:=fun _=>Ak) e c fun f as ks p=>F f as ks p else Ad
theorem UB{e:An}{F:An->Ac An->Ac Ez->AG->Ak}(h:Ou e F=Ab):∃ f as ks p,e=YU f as ks p/\F f as ks p=Ab:=by
 by_cases c:e.ctorIdx=16
 ·exact YV (motive_1:=fun e=>Ou e F=Ab->∃ f as ks p,e=YU f as ks p/\F f as ks p=Ab) e c (fun f as ks p h=>⟨f,as,ks,p,rfl,h⟩) h
 ·exact absurd ((B2 c).symm.trans h) Ah
noncomputable def Ox(e:An)(F:An->Ai->AG->Ak):Ak:=if c:e.ctorIdx=20 then YO (motive_1:=fun _=>Ak) e c fun o m p=>F o m p else Ad
theorem UE{e:An}{F:An->Ai->AG->Ak}(h:Ox e F=Ab):∃ o m p,e=YN o m p/\F o m p=Ab:=by
 by_cases c:e.ctorIdx=20
 ·exact YO (motive_1:=fun e=>Ox e F=Ab->∃ o m p,e=YN o m p/\F o m p=Ab) e c (fun o m p h=>⟨o,m,p,rfl,h⟩) h
 ·exact absurd ((B2 c).symm.trans h) Ah
noncomputable def MO(e:An)(F:An->An->Ak):Ak:=if c:e.ctorIdx=21 then Y9 (motive_1:=fun _=>Ak) e c fun x y _=>F x y else Ad
theorem Qg{e:An}{F:An->An->Ak}(h:MO e F=Ab):∃ x y p,e=Y8 x y p/\F x y=Ab:=by
 by_cases c:e.ctorIdx=21
 ·exact Y9 (motive_1:=fun e=>MO e F=Ab->∃ x y p,e=Y8 x y p/\F x y=Ab) e c (fun x y p h=>⟨x,y,p,rfl,h⟩) h
 ·exact absurd ((B2 c).symm.trans h) Ah
noncomputable def Rk(e:An)(F:Ap An->Ap An->Ap An->Ak):Ak:=if c:e.ctorIdx=26 then Y7 (motive_1:=fun _=>Ak) e c fun l u s _=>F l u s else Ad
theorem jW{e:An}{F:Ap An->Ap An->Ap An->Ak}(h:Rk e F=Ab):∃ l u s p,e=Y6 l u s p/\F l u s=Ab:=by
 by_cases c:e.ctorIdx=26
 ·exact Y7 (motive_1:=fun e=>Rk e F=Ab->∃ l u s p,e=Y6 l u s p/\F l u s=Ab) e c (fun l u s p h=>⟨l,u,s,p,rfl,h⟩) h
 ·exact absurd ((B2 c).symm.trans h) Ah
noncomputable def JD(e:An)(F:Ac An->Ak):Ak:=if c:e.ctorIdx=25 then Zb (motive_1:=fun _=>Ak) e c fun xs _ _=>F xs else Ad
theorem K6{e:An}{F:Ac An->Ak}(h:JD e F=Ab):∃ xs c p,e=Za xs c p/\F xs=Ab:=by
 by_cases c:e.ctorIdx=25
 ·exact Zb (motive_1:=fun e=>JD e F=Ab->∃ xs c p,e=Za xs c p/\F xs=Ab) e c (fun xs c p h=>⟨xs,c,p,rfl,h⟩) h
 ·exact absurd ((B2 c).symm.trans h) Ah
noncomputable def Oo(e:An)(F:Ac An->Ak):Ak:=if c:e.ctorIdx=24 then Y1 (motive_1:=fun _=>Ak) e c fun xs _=>F xs else Ad
theorem Qh{e:An}{F:Ac An->Ak}(h:Oo e F=Ab):∃ xs p,e=Y0 xs p/\F xs=Ab:=by
 by_cases c:e.ctorIdx=24
 ·exact Y1 (motive_1:=fun e=>Oo e F=Ab->∃ xs p,e=Y0 xs p/\F xs=Ab) e c (fun xs p h=>⟨xs,p,rfl,h⟩) h
 ·exact absurd ((B2 c).symm.trans h) Ah
noncomputable def Rl(e:An)(F:An->Ac Je->B5->Ak):Ak:=if c:e.ctorIdx=8 then Y3 (motive_1:=fun _=>Ak) e c fun x gs sc _=>F x gs sc else Ad
theorem jY{e:An}{F:An->Ac Je->B5->Ak}(h:Rl e F=Ab):∃ x gs sc p,e=Y2 x gs sc p/\F x gs sc=Ab:=by
 by_cases c:e.ctorIdx=8
 ·exact Y3 (motive_1:=fun e=>Rl e F=Ab->∃ x gs sc p,e=Y2 x gs sc p/\F x gs sc=Ab) e c (fun x gs sc p h=>⟨x,gs,sc,p,rfl,h⟩) h
 ·exact absurd ((B2 c).symm.trans h) Ah
noncomputable def Rm(e:AQ)(F:Ac An->An->Ak):Ak:=if c:e.ctorIdx=5 then ZD (motive_2:=fun _=>Ak) e c fun ts v _=>F ts v else Ad
theorem kC{e:AQ}{F:Ac An->An->Ak}(h:Rm e F=Ab):∃ ts v p,e=ZC ts v p/\F ts v=Ab:=by
 by_cases c:e.ctorIdx=5
 ·exact ZD (motive_2:=fun e=>Rm e F=Ab->∃ ts v p,e=ZC ts v p/\F ts v=Ab) e c (fun ts v p h=>⟨ts,v,p,rfl,h⟩) h
 ·exact absurd ((B2 c).symm.trans h) Ah
noncomputable def Ls(e:AQ)(F:An->Ak):Ak:=if c:e.ctorIdx=24 then ZF (motive_2:=fun _=>Ak) e c fun v _=>F v else Ad
theorem Qi{e:AQ}{F:An->Ak}(h:Ls e F=Ab):∃ v p,e=ZE v p/\F v=Ab:=by
 by_cases c:e.ctorIdx=24
 ·exact ZF (motive_2:=fun e=>Ls e F=Ab->∃ v p,e=ZE v p/\F v=Ab) e c (fun v p h=>⟨v,p,rfl,h⟩) h
 ·exact absurd ((B2 c).symm.trans h) Ah
noncomputable def Om(e:AQ)(F:Ap An->Ak):Ak:=if c:e.ctorIdx=3 then ZL (motive_2:=fun _=>Ak) e c fun o _=>F o else Ad
theorem Uz{e:AQ}{F:Ap An->Ak}(h:Om e F=Ab):∃ o p,e=ZK o p/\F o=Ab:=by
 by_cases c:e.ctorIdx=3
 ·exact ZL (motive_2:=fun e=>Om e F=Ab->∃ o p,e=ZK o p/\F o=Ab) e c (fun o p h=>⟨o,p,rfl,h⟩) h
 ·exact absurd ((B2 c).symm.trans h) Ah
noncomputable def M6(e:AQ)(F:An->Ac AQ->Ac AQ->Ak):Ak:=if c:e.ctorIdx=12 then ZH (motive_2:=fun _=>Ak) e c fun t xs ys _=>F t xs ys else Ad
theorem Qk{e:AQ}{F:An->Ac AQ->Ac AQ->Ak}(h:M6 e F=Ab):∃ t xs ys p,e=Stmt.If t xs ys p/\F t xs ys=Ab:=by
 by_cases c:e.ctorIdx=12
 ·exact ZH (motive_2:=fun e=>M6 e F=Ab->∃ t xs ys p,e=Stmt.If t xs ys p/\F t xs ys=Ab) e c (fun t xs ys p h=>⟨t,xs,ys,p,rfl,h⟩) h
 ·exact absurd ((B2 c).symm.trans h) Ah
noncomputable def Op(e:AQ)(F:An->An->Ac AQ->Ac AQ->Ak):Ak:=if c:e.ctorIdx=9 then ZG (motive_2:=fun _=>Ak) e c fun t it xs ys _=>F t it xs ys else Ad
theorem UA{e:AQ}{F:An->An->Ac AQ->Ac AQ->Ak}(h:Op e F=Ab):∃ t it xs ys p,e=Stmt.For t it xs ys p/\F t it xs ys=Ab:=by
 by_cases c:e.ctorIdx=9
 ·exact ZG (motive_2:=fun e=>Op e F=Ab->∃ t it xs ys p,e=Stmt.For t it xs ys p/\F t it xs ys=Ab) e c (fun t it xs ys p h=>⟨t,it,xs,ys,p,rfl,h⟩) h
 ·exact absurd ((B2 c).symm.trans h) Ah
noncomputable def On(e:AQ)(F:Ap An->Ap An->Ak):Ak:=if c:e.ctorIdx=16 then ZJ (motive_2:=fun _=>Ak) e c fun a b _=>F a b else Ad
theorem jX{e:AQ}{F:Ap An->Ap An->Ak}(h:On e F=Ab):∃ a b p,e=ZI a b p/\F a b=Ab:=by
 by_cases c:e.ctorIdx=16
 ·exact ZJ (motive_2:=fun e=>On e F=Ab->∃ a b p,e=ZI a b p/\F a b=Ab) e c (fun a b p h=>⟨a,b,p,rfl,h⟩) h
 ·exact absurd ((B2 c).symm.trans h) Ah
noncomputable def IP{α:Type}:Ac α->(α->Ac α->Ak)->Ak
 |[],_=>Ad
 |x::xs,F=>F x xs
theorem Jv{l:Ac α}{F:α->Ac α->Ak}(h:IP l F=Ab):∃ x xs,l=x::xs/\F x xs=Ab:=by
 cases l with
 |nil=>exact absurd (show Ad=Ab from h) Ah
 |cons x xs=>exact⟨x,xs,rfl,h⟩
theorem Ie{l:Ac α}(h:l.isEmpty=Ab):l=[]:=List.isEmpty_iff.mp h
noncomputable def EE{α:Type}(l:Ac α)(F:α->Ak):Ak:=IP l fun x r=>r.isEmpty&&F x
theorem Fv{l:Ac α}{F:α->Ak}(h:EE l F=Ab):∃ x,l=[x]/\F x=Ab:=by
 obtain⟨x,r,rfl,h⟩:=Jv h;obtain⟨h1,h2⟩:=Cn h;exact⟨x,by rw[Ie h1],h2⟩
noncomputable def He{α:Type}(l:Ac α)(F:α->α->Ak):Ak:=IP l fun x r=>EE r fun y=>F x y
theorem II{l:Ac α}{F:α->α->Ak}(h:He l F=Ab):∃ x y,l=[x,y]/\F x y=Ab:=by
 obtain⟨x,r,rfl,h⟩:=Jv h;obtain⟨y,rfl,h⟩:=Fv h;exact⟨x,y,rfl,h⟩
noncomputable def IU(e:An)(F:Ai->Ac An->Ak):Ak:=Ou e fun f as ks _=>EL f fun g=>ks.isEmpty&&F g as
theorem Ju{e:An}{F:Ai->Ac An->Ak}(h:IU e F=Ab):∃ g p as q,e=.Call (.Name g p) as [] q/\F g as=Ab:=by
 obtain⟨f,as,ks,q,rfl,h⟩:=UB h;obtain⟨g,p,rfl,h⟩:=Fx h;obtain⟨h1,h2⟩:=Cn h;exact⟨g,p,as,q,by rw[Ie h1],h2⟩
noncomputable def MG(e:An)(F:Ai->An->Ac An->Ak):Ak:=IU e fun g l=>IP l fun x xs=>F g x xs
theorem NA{e:An}{F:Ai->An->Ac An->Ak}(h:MG e F=Ab):∃ g p x xs q,e=.Call (.Name g p) (x::xs) [] q/\F g x xs=Ab:=by
 obtain⟨g,p,as,q,rfl,h⟩:=Ju h;obtain⟨x,xs,rfl,h⟩:=Jv h;exact⟨g,p,x,xs,q,rfl,h⟩
noncomputable def MT(st:AQ)(F:Ai->Ai->Ac An->Ak):Ak:=Ls st fun e=>Ou e fun f as ks cp=>Ox f fun o m ap=>EL o fun x=>ks.isEmpty&&(ap.endLine==cp.line&&F x m as)
theorem Nz{st:AQ}{F:Ai->Ai->Ac An->Ak}(h:MT st F=Ab):∃ x p m ap as cp q,st=.Expr (.Call (.Attribute (.Name x p) m ap) as [] cp) q/\ap.endLine=cp.line/\F x m as=Ab:=by
 obtain⟨e,q,rfl,h⟩:=Qi h;obtain⟨f,as,ks,cp,rfl,h⟩:=UB h;obtain⟨o,m,ap,rfl,h⟩:=UE h;obtain⟨x,p,rfl,h⟩:=Fx h;obtain⟨h1,h⟩:=Cn h;obtain⟨h2,h3⟩:=Cn h;exact⟨x,p,m,ap,as,cp,q,by rw[Ie h1],eq_of_beq h2,h3⟩
noncomputable def Oy(st:AQ)(F:An->An->Ak):Ak:=Rm st fun ts v=>EE ts fun t=>F t v
theorem PR{st:AQ}{F:An->An->Ak}(h:Oy st F=Ab):∃ t v q,st=.Assign [t] v q/\F t v=Ab:=by
 obtain⟨ts,v,q,rfl,h⟩:=kC h;obtain⟨t,rfl,h⟩:=Fv h;exact⟨t,v,q,rfl,h⟩
noncomputable def MU(st:AQ)(F:Ai->An->Ak):Ak:=Oy st fun t v=>EL t fun x=>F x v
theorem PQ{st:AQ}{F:Ai->An->Ak}(h:MU st F=Ab):∃ x p v q,st=.Assign [.Name x p] v q/\F x v=Ab:=by
 obtain⟨t,v,q,rfl,h⟩:=PR h;obtain⟨x,p,rfl,h⟩:=Fx h;exact⟨x,p,v,q,rfl,h⟩
noncomputable def RX(e:An)(F:An->An->An->Ac An->B5->Ak):Ak:=Rl e fun x gs sc=>EE gs fun g=>decide (g.is_async=0)&&F x g.target g.iter g.ifs sc
theorem VM{e:An}{F:An->An->An->Ac An->B5->Ak}(h:RX e F=Ab):∃ x t it ifs sc p,e=.ListComp x [⟨t,it,ifs,0⟩] sc p/\F x t it ifs sc=Ab:=by
 obtain⟨x,gs,sc,p,rfl,h⟩:=jY h;obtain⟨g,rfl,h⟩:=Fv h;obtain⟨t,it,ifs,a⟩:=g;obtain⟨h1,h2⟩:=Cn h;have h1:a=0:=AR h1;subst h1;exact⟨x,t,it,ifs,sc,p,rfl,h2⟩
noncomputable def LS(e:E)(F:E->Ak):Ak:=if c:e.ctorIdx=8 then E.no.elim (motive_1:=fun _=>Ak) e c F else Ad
theorem U8{e:E}{F:E->Ak}(h:LS e F=Ab):∃ a,e=E.no a/\F a=Ab:=by
 by_cases c:e.ctorIdx=8
 ·exact E.no.elim (motive_1:=fun e=>LS e F=Ab->∃ a,e=E.no a/\F a=Ab) e c (fun a h=>⟨a,rfl,h⟩) h
 ·exact absurd ((B2 c).symm.trans h) Ah
noncomputable def Lw(e:E)(F:Es->Ak):Ak:=if c:e.ctorIdx=9 then E.and.elim (motive_1:=fun _=>Ak) e c F else Ad
theorem UF{e:E}{F:Es->Ak}(h:Lw e F=Ab):∃ es,e=E.and es/\F es=Ab:=by
 by_cases c:e.ctorIdx=9
 ·exact E.and.elim (motive_1:=fun e=>Lw e F=Ab->∃ es,e=E.and es/\F es=Ab) e c (fun es h=>⟨es,rfl,h⟩) h
 ·exact absurd ((B2 c).symm.trans h) Ah
noncomputable def LR(e:E)(F:Es->Ak):Ak:=if c:e.ctorIdx=10 then E.or.elim (motive_1:=fun _=>Ak) e c F else Ad
theorem U7{e:E}{F:Es->Ak}(h:LR e F=Ab):∃ es,e=E.or es/\F es=Ab:=by
 by_cases c:e.ctorIdx=10
 ·exact E.or.elim (motive_1:=fun e=>LR e F=Ab->∃ es,e=E.or es/\F es=Ab) e c (fun es h=>⟨es,rfl,h⟩) h
 ·exact absurd ((B2 c).symm.trans h) Ah
noncomputable def Oq(e:E)(F:C9->E->E->Ak):Ak:=if c:e.ctorIdx=11 then E.cmp.elim (motive_1:=fun _=>Ak) e c F else Ad
theorem jZ{e:E}{F:C9->E->E->Ak}(h:Oq e F=Ab):∃ o a b,e=E.cmp o a b/\F o a b=Ab:=by
 by_cases c:e.ctorIdx=11
 ·exact E.cmp.elim (motive_1:=fun e=>Oq e F=Ab->∃ o a b,e=E.cmp o a b/\F o a b=Ab) e c (fun o a b h=>⟨o,a,b,rfl,h⟩) h
 ·exact absurd ((B2 c).symm.trans h) Ah
noncomputable def Os(e:E)(F:C9->C9->E->E->E->Ak):Ak:=if c:e.ctorIdx=12 then E.cmp2.elim (motive_1:=fun _=>Ak) e c F else Ad
theorem kA{e:E}{F:C9->C9->E->E->E->Ak}(h:Os e F=Ab):∃ o q a b c,e=E.cmp2 o q a b c/\F o q a b c=Ab:=by
 by_cases c:e.ctorIdx=12
 ·exact E.cmp2.elim (motive_1:=fun e=>Os e F=Ab->∃ o q a b c,e=E.cmp2 o q a b c/\F o q a b c=Ab) e c (fun o q a b c h=>⟨o,q,a,b,c,rfl,h⟩) h
 ·exact absurd ((B2 c).symm.trans h) Ah
noncomputable def Ot(e:E)(F:BI->Es->Ak):Ak:=if c:e.ctorIdx=15 then E.bi.elim (motive_1:=fun _=>Ak) e c F else Ad
theorem kB{e:E}{F:BI->Es->Ak}(h:Ot e F=Ab):∃ b as,e=E.bi b as/\F b as=Ab:=by
 by_cases c:e.ctorIdx=15
 ·exact E.bi.elim (motive_1:=fun e=>Ot e F=Ab->∃ b as,e=E.bi b as/\F b as=Ab) e c (fun b as h=>⟨b,as,rfl,h⟩) h
 ·exact absurd ((B2 c).symm.trans h) Ah
noncomputable def RY(e:E)(F:Ak->Ak):Ak:=if c:e.ctorIdx=1 then E.bl.elim (motive_1:=fun _=>Ak) e c F else Ad
theorem nB{e:E}{F:Ak->Ak}(h:RY e F=Ab):∃ b,e=E.bl b/\F b=Ab:=by
 by_cases c:e.ctorIdx=1
 ·exact E.bl.elim (motive_1:=fun e=>RY e F=Ab->∃ b,e=E.bl b/\F b=Ab) e c (fun b h=>⟨b,rfl,h⟩) h
 ·exact absurd ((B2 c).symm.trans h) Ah
noncomputable def JC(e:E)(F:Ag->Ak):Ak:=if c:e.ctorIdx=4 then E.var.elim (motive_1:=fun _=>Ak) e c F else Ad
theorem Mq{e:E}{F:Ag->Ak}(h:JC e F=Ab):∃ i,e=E.var i/\F i=Ab:=by
 by_cases c:e.ctorIdx=4
 ·exact E.var.elim (motive_1:=fun e=>JC e F=Ab->∃ i,e=E.var i/\F i=Ab) e c (fun i h=>⟨i,rfl,h⟩) h
 ·exact absurd ((B2 c).symm.trans h) Ah
noncomputable def Lv(e:E)(F:Ag->Es->Ak):Ak:=if c:e.ctorIdx=14 then E.call.elim (motive_1:=fun _=>Ak) e c F else Ad
theorem UC{e:E}{F:Ag->Es->Ak}(h:Lv e F=Ab):∃ f as,e=E.call f as/\F f as=Ab:=by
 by_cases c:e.ctorIdx=14
 ·exact E.call.elim (motive_1:=fun e=>Lv e F=Ab->∃ f as,e=E.call f as/\F f as=Ab) e c (fun f as h=>⟨f,as,rfl,h⟩) h
 ·exact absurd ((B2 c).symm.trans h) Ah
noncomputable def Oi(e:E):Ak:=decide (e.ctorIdx=0)
theorem jC{e:E}(h:Oi e=Ab):e=.non:=E.non.elim (motive_1:=fun e=>e=.non) e (AR h) rfl
noncomputable def Dt:An->Ak
 |.Starred _ _=>Ad
 |_=>Ab
noncomputable def Ql:An->Ak
 |.Slice _ _ _ _=>Ad
 |_=>Ab
noncomputable def MV:An->Ak
 |.Set _ _ _=>Ad
 |_=>Ab
noncomputable def Kl:An->Ak
 |.ListComp _ _ _ _=>Ad
 |.SetComp _ _ _ _=>Ad
 |.DictComp _ _ _ _ _=>Ad
 |_=>Ab
noncomputable def Sd(tu:Ak):An->Ak
 |.Tuple ..=>tu
 |.Name ..=>!tu
 |_=>Ad
noncomputable def zX:An->Ak
 |.Tuple _ _ _=>Ab
 |_=>Ad
noncomputable def Xs:An->Ak
 |.Tuple _ _ _=>Ad
 |_=>Ab
noncomputable def IF:An->Ak
 |.UnaryOp _ _ _=>Ad
 |.BoolOp _ _ _=>Ad
 |.IfExp _ _ _ _=>Ad
 |.Compare _ _ _ _=>Ad
 |_=>Ab
noncomputable def Rr:Ki->Ap Ai
 |.int=>Aa "int"
 |.bool=>Aa "bool"
 |.str=>Aa "str"
 |.list=>Aa "list"
 |.tuple=>Aa "tuple"
 |_=>Ae
noncomputable def Rs:BI->Ap Ai
 |.len=>Aa "len"
 |.abs=>Ae
 |.max=>Ae
 |.min=>Aa "min"
 |.int=>Aa "int"
 |.list=>Aa "list"
 |.tuple=>Aa "tuple"
 |.all=>Ae
 |.any=>Aa "any"
 |.sum=>Aa "sum"
 |.sorted=>Ae
 |.tmin=>Ae
 |.tmax=>Ae
 |_=>Ae
noncomputable def Re(o scope:B5):B5:={scope with names:=scope.names.map fun (n,k)=>if (k==.free&&o.kind==.function&&o.names.lookup n==Aa .cell) then (n,.cell) else (n,k)}
noncomputable def LJ:Ac Ag->Ac Ai->Ac Ai->Ac Ai
 |t::ts,x::xs,N=>LJ ts xs ((N.map fun y=>if y==x then N.getD t x else y).set t x)
 |_,_,N=>N
noncomputable def Ln:Ac Ai->Ak
 |[]=>Ab
 |x::xs=>!xs.contains x&&Ln xs
noncomputable def M9(T:Tc)(scope:B5)(ts:Ac Ag)(N':Ac Ai):Ak:=
  scope.kind==.function&&scope.names.all (fun y=>scope.names.lookup y.1==Aa y.2) &&
  scope.names.all (fun y=>y.2 != .free||T.sc.names.lookup y.1==Aa .cell||T.sc.names.lookup y.1==Aa .free) &&
  N'.length==T.N.length&&Ln N' &&
  (Bb N'.length).all fun i=>ts.contains i||(match N'[i]? with
    |some x=>(scope.names.lookup x != Aa .local&&scope.names.lookup x != Aa .cell)&&(scope.names.lookup x != Aa .free||T.N[i]? == Aa x)
    | none=>Ab)
noncomputable def E6:Ac An->Ap (Ac Ai)
 |[]=>Aa []
 |.Name x _::r=>(E6 r).map (x :: ·)
 |_=>Ae
noncomputable def tgN(ys:Ac An):Ac Ai:=(E6 ys).getD []
noncomputable def tgB(T:Tc):Ac Ag->Ac Ai->Ak
 |[],[]=>Ab
 |t::ts,x::xs=>T.N[t]? == Aa x&&T.sc.names.lookup x==Aa .local&&tgB T ts xs
 |_,_=>Ad
noncomputable def tgO(T:Tc)(scope:B5)(t:Ag)(x:Ai):Ak:=T.N[t]? == Aa x&&(T.sc.names.lookup x==Aa .local||(T.sc.names.lookup x==Aa .cell&&scope.names.lookup x==Aa .cell))
noncomputable def tgC(T:Tc):Ac Ag->Ac Ai->Ak
 |[],[]=>Ab
 |t::ts,x::xs=>T.N[t]? == Aa x&&Jd T x&&tgC T ts xs
 |_,_=>Ad
noncomputable def Tc.blk(T:Tc)(scope:B5)(ts:Ac Ag)(xs:Ac Ai):Tc:={T with sc:=Re T.sc scope,N:=LJ ts xs T.N}
noncomputable def inX(l:Ac (Ai×Ag))(g:Ai)(c:Ag):Ak:=l.any fun p=>p.1==g&&p.2==c
noncomputable def SM:An->Ap (An×An×AG)
  | .Compare x ops ys p=>(match ops with
    | [.Lt]=>(match ys with
      |[y]=>Aa (x,y,p)
      | _=>Ae)
    | _=>Ae)
  |_=>Ae
noncomputable def Rv(_:Es):Ap (E×E):=Ae
noncomputable def RJ(_:Tc)(_:Tc->An->E->Ak)(_:An)(_:Ac C9)(_:Ac An)(_:BI)(_:Es):Ak:=Ad
noncomputable def SJ(T:Tc)(e:An)(b:BI)(as:Es):Ak:=Ad
noncomputable def ME:An->Ap (Ai×AG)
 |.Name x p=>Aa (x,p)
 |_=>Ae
theorem NC{e:An}{t:Ai×AG}(q:ME e=Aa t):e=.Name t.1 t.2:=by
 cases e with
 |Name x p=>cases q;rfl
 |_=>cases q
noncomputable def Ra:An->Ap (An×Ac An×Ac Ez×AG)
 |.Call f as ks p=>Aa (f,as,ks,p)
 |_=>Ae
theorem TW{e:An}{t:An×Ac An×Ac Ez×AG}(q:Ra e=Aa t):e=.Call t.1 t.2.1 t.2.2.1 t.2.2.2:=by
 cases e with
 |Call f as ks p=>cases q;rfl
 |_=>cases q
noncomputable def Rw:An->Ap (An×An×AG)
 |.Subscript v s p=>Aa (v,s,p)
 |_=>Ae
theorem UZ{e:An}{t:An×An×AG}(q:Rw e=Aa t):e=.Subscript t.1 t.2.1 t.2.2:=by
 cases e with
 |Subscript v s p=>cases q;rfl
 |_=>cases q
noncomputable def Xz:An->Ap (Ac An×Ag×AG)
 |.Tuple es k p=>Aa (es,k,p)
 |_=>Ae
theorem iW{e:An}{t:Ac An×Ag×AG}(q:Xz e=Aa t):e=.Tuple t.1 t.2.1 t.2.2:=by
 cases e with
 |Tuple es k p=>cases q;rfl
 |_=>cases q
noncomputable def XB:AQ->Ap (Ac An×An×AG)
 |.Assign ts v p=>Aa (ts,v,p)
 |_=>Ae
theorem iZ{s:AQ}{t:Ac An×An×AG}(q:XB s=Aa t):s=.Assign t.1 t.2.1 t.2.2:=by
 cases s with
 |Assign ts v p=>cases q;rfl
 |_=>cases q
noncomputable def one{α:Type}:Ac α->Ap α
 |[a]=>Aa a
 |_=>Ae
theorem We{l:Ac α}{a:α}(q:one l=Aa a):l=[a]:=by
  match l,q with
  |[b],q=>cases q;rfl
noncomputable def Nc(e:An):Ap (Ai×Ai×Ac An):=(Ra e).bind fun c=>(ME c.1).bind fun g=>(one c.2.1).bind fun a=>(Ra a).bind fun d=>(ME d.1).bind fun h=>if (c.2.2.1.isEmpty&&d.2.2.1.isEmpty)=Ab then Aa (g.1,h.1,d.2.1) else Ae
theorem VL{e:An}{h:Ai}{bs:Ac An}(q:Nc e=Aa (g,h,bs)):∃ p p' pos pos',e=.Call (.Name g p) [.Call (.Name h p') bs [] pos'] [] pos:=by
 obtain⟨⟨f,as,ks,pos⟩,e1,q⟩:=Az.mp q;obtain⟨⟨g',p⟩,e2,q⟩:=Az.mp q;obtain⟨a,e3,q⟩:=Az.mp q;obtain⟨⟨f',bs',ks',pos'⟩,e4,q⟩:=Az.mp q;obtain⟨⟨h',p'⟩,e5,q⟩:=Az.mp q;by_cases hk:(ks.isEmpty&&ks'.isEmpty)=Ab
 ·rw[AA hk]at q;cases q;rw[Aj,Hu,Hu]at hk;obtain⟨rfl,rfl⟩:=hk;have x1:=TW e1;have x2:=NC e2;have x3:=We e3;have x4:=TW e4;have x5:=NC e5;dsimp only at x1 x2 x3 x4 x5;subst x1 x2 x3 x4 x5;exact⟨_,_,_,_,rfl⟩
 ·rw[AH hk]at q;cases q
noncomputable def M3(e:An):Ap (Ai×Ai×An×An):=match Nc e with
  | some (g,h,bs)=>(match bs with
    |[x,y]=>Aa (g,h,x,y)
    | _=>Ae)
  |none=>Ae
theorem nJ{e:An}{h:Ai}{x y:An}(q:M3 e=Aa (g,h,x,y)):∃ p p' pos pos',e=.Call (.Name g p) [.Call (.Name h p') [x,y] [] pos'] [] pos:=by
  unfold M3 at q;cases c:Nc e with
  |none=>rw[c]at q;cases q
  |some t=>
    obtain⟨g',h',bs⟩:=t;rw[c]at q
    match bs,q,c with
    |[a,b],q,c=>cases q;exact VL c
noncomputable def M1:Es->Ap (E×E)
 |.cons (.tupI (.rng2 a b)) .nil=>Aa (a,b)
 |_=>Ae
theorem iY{a b:E}(q:M1 as=Aa (a,b)):as=.cons (.tupI (.rng2 a b)) .nil:=by
 unfold M1 at q;split at q
 ·cases q;rfl
 ·cases q
noncomputable def M7(e:An):Ap (Ai×Ai×An):=match Nc e with
  | some (g,h,bs)=>(match bs with
    |[x]=>Aa (g,h,x)
    | _=>Ae)
  |none=>Ae
theorem nG{e:An}{h:Ai}{x:An}(q:M7 e=Aa (g,h,x)):∃ p p' pos pos',e=.Call (.Name g p) [.Call (.Name h p') [x] [] pos'] [] pos:=by
  unfold M7 at q;cases c:Nc e with
  |none=>rw[c]at q;cases q
  |some t=>
    obtain⟨g',h',bs⟩:=t;rw[c]at q
    match bs,q,c with
    |[a],q,c=>cases q;exact VL c
noncomputable def M0:Es->Ap E
  | .cons a r=>(match r with
    |.nil=>Aa a
    | _=>Ae)
  |.nil=>Ae
theorem iX{a:E}(q:M0 as=Aa a):as=.cons a .nil:=by
 unfold M0 at q;split at q
 ·split at q
  ·cases q;rfl
  ·cases q
 ·cases q
noncomputable def RN(e:An):Ap (Ai×Ai):=(Rw e).bind fun t=>(ME t.1).bind fun x=>(ME t.2.1).bind fun y=>Aa (x.1,y.1)
theorem Vt{e:An}{y:Ai}(q:RN e=Aa (x,y)):∃ p1 p2 p3,e=.Subscript (.Name x p1) (.Name y p2) p3:=by
 obtain⟨⟨v,s,p⟩,e1,q⟩:=Az.mp q;obtain⟨⟨x',p1⟩,e2,q⟩:=Az.mp q;obtain⟨⟨y',p2⟩,e3,q⟩:=Az.mp q;cases q;have x1:=UZ e1;have x2:=NC e2;have x3:=NC e3;dsimp only at x1 x2 x3;subst x1 x2 x3;exact⟨_,_,_,rfl⟩
noncomputable def MZ(e:An):Ak:=(Rw e).isSome
theorem Um{e:An}(q:MZ e=Ab):∃ o a p,e=.Subscript o a p:=by
 obtain⟨t,h⟩:=Do.mp q;exact⟨_,_,_,UZ h⟩
noncomputable def two(e:An):Ap (An×An):=(Xz e).bind fun t=>match t.1 with
  |[a,b]=>Aa (a,b)
  |_=>Ae
theorem WB{e a b:An}(q:two e=Aa (a,b)):∃ k p,e=.Tuple [a,b] k p:=by
  obtain⟨⟨es,k,p⟩,e1,q⟩:=Az.mp q;have x1:=iW e1;dsimp only at x1;subst x1
  match es,q with
  |[a',b'],q=>cases q;exact⟨_,_,rfl⟩
noncomputable def R0(_:Es):Ap E:=Ae
noncomputable def Si(_:An):Ap An:=Ae
noncomputable def OJ:An->Ap (Ai×An)
  | .Call f as ks cp=>(match f,as,ks with
    | .Attribute o m ap,[v],[]=>(match o with
      |.Name x _=>if (m==("pop" : Ai)&&ap.endLine==cp.line&&Dt v)=Ab then Aa (x,v) else Ae
      | _=>Ae)
    | _,_,_=>Ae)
  |_=>Ae
theorem nY{e v:An}(q:OJ e=Aa (x,v)):∃ p ap cp,e=.Call (.Attribute (.Name x p) "pop" ap) [v] [] cp/\ap.endLine=cp.line/\Dt v=Ab:=by
 unfold OJ at q
 repeat' split at q
 all_goals first|cases q;done|skip
 rename_i h;cases q;simp only[Aj,AT]at h;obtain⟨⟨rfl,h1⟩,h2⟩:=h;exact⟨_,_,_,rfl,h1,h2⟩
noncomputable def RM(st:AQ):Ap (Ai×Ai×Ai×Ai×An):=(XB st).bind fun t=>(one t.1).bind fun u=>(two u).bind fun ab=>(RN ab.1).bind fun xy=>(RN ab.2).bind fun xz=>(two t.2.1).bind fun cd=>if (MZ cd.1&&MZ cd.2)=Ab then Aa (xy.1,xy.2,xz.1,xz.2,t.2.1) else Ae
theorem kS{st:AQ}{y x':Ai}{v:An}(q:RM st=Aa (x,y,x',z,v)):∃ p1 p2 p3 p4 p5 p6 kt tp o a p o' a' p' q0 q1 pos,v=.Tuple [.Subscript o a p,.Subscript o' a' p'] q0 q1/\st=.Assign [.Tuple [.Subscript (.Name x p1) (.Name y p2) p3,.Subscript (.Name x' p4) (.Name z p5) p6] kt tp] (.Tuple [.Subscript o a p,.Subscript o' a' p'] q0 q1) pos:=by
 obtain⟨⟨ts,w,pos⟩,e5,q⟩:=Az.mp q;obtain⟨t,e6,q⟩:=Az.mp q;obtain⟨⟨a,b⟩,e1,q⟩:=Az.mp q;obtain⟨⟨y1,y2⟩,e2,q⟩:=Az.mp q;obtain⟨⟨z1,z2⟩,e3,q⟩:=Az.mp q;obtain⟨⟨c,d⟩,e4,q⟩:=Az.mp q;by_cases hs:(MZ c&&MZ d)=Ab
 ·rw[AA hs]at q;cases q;rw[Aj]at hs;have x5:=iZ e5;have x6:=We e6;dsimp only at x5 x6 e4;obtain⟨k1,t1,rfl⟩:=WB e1;obtain⟨u1,u2,u3,rfl⟩:=Vt e2;obtain⟨u4,u5,u6,rfl⟩:=Vt e3;obtain⟨k2,t2,rfl⟩:=WB e4;obtain⟨o,a,p,rfl⟩:=Um hs.1;obtain⟨o',a',p',rfl⟩:=Um hs.2;subst x6 x5;exact⟨_,_,_,_,_,_,_,_,_,_,_,_,_,_,_,_,_,rfl,rfl⟩
 ·rw[AH hs]at q;cases q
noncomputable def Sf:An->Ap (An×Af)
  | .Subscript v s _=>(match s with
    | .Slice lo hi st _=>(match lo with
      | some (.Constant (.int k) _ _)=>(match hi with
        | none=>(match st with
          |some (.Constant (.int j) _ _)=>if j=2 then Aa (v,k) else Ae
          | _=>Ae)
        | some _=>Ae)
      | _=>Ae)
    | _=>Ae)
  |_=>Ae
noncomputable def Rx(_:Es):Ap (E×Af):=Ae
mutual
noncomputable def Bg:Ag->Tc->An->E->Ak
  |0,_,_,_=>Ad
  |n+1,T,e,c=>match c with
    |.non=>JF e fun c=>decide (c=.none)
    |.bl b=>JF e fun c=>decide (c=.bool b)
    |.int i=>JF e fun c=>decide (c=.int i)
    |.str x=>JF e fun c=>decide (c=.str x)
    |.var i=>EL e fun x=>isV T x i
    |.glob g=>Ad
    |.bin op a b=>Ow e fun x op' y=>decide (op'=op)&&Bg n T x a&&Bg n T y b
    |.un op a=>Jb e fun o x=>decide (o=.USub)&&(decide (op=.USub)&&Bg n T x a)
    |.no a=>Jb e fun o x=>decide (o=.Not)&&Bg n T x a
    |.and es=>Ii e fun o xs _=>decide (o=.And)&&(chkEs n T xs es && !xs.isEmpty)
    |.or es=>Ii e fun o xs _=>decide (o=.Or)&&(chkEs n T xs es && !xs.isEmpty)
    |.cmp op a b=>Lu e fun x os ys=>EE os fun op'=>EE ys fun y=>decide (op'=op) && !behindInMarks op y&&Bg n T x a&&Bg n T y b
    |.cmp2 op1 op2 a b c=>Lu e fun x os ys=>He os fun o1 o2=>He ys fun y z=>decide (o1=op1)&&decide (o2=op2) && !lastMarks [op1,op2] [y,z]&&Bg n T x a&&Bg n T y b&&Bg n T z c
    |.ite c a b=>Ad
    |.call f as=>MG e fun g x xs=>(T.fns.any fun p=>p.1==g&&p.2.1==f&&p.2.2==xs.length+1)&&decide (xs.length<900)&&glB T g&&GO g&&chkEs n T (x::xs) as
    |.bi b as=>(MG e fun g x xs=>Rs b==Aa g&&isB T g&&chkEs n T (x::xs) as)||SJ T e b as||(match M1 as with|some (a,c)=>(match M3 e with|some (g,h,x,y)=>decide (b=.list)&&g==("list" : Ai)&&h==("range" : Ai)&&isB T g&&isB T h&&Dt x&&Dt y&&Bg n T x a&&Bg n T y c|none=>Ad)|none=>Ad)||(match Rx as with|some (a,k)=>(match Sf e with|some (x,j)=>decide (b=.stp)&&decide (j=k)&&decide (0<=k)&&Bg n T x a|none=>Ad)|none=>Ad)||(match M0 as with|some a=>(match M7 e with|some (g,h,x)=>decide (b=.lset)&&g==("len" : Ai)&&h==("set" : Ai)&&isB T g&&isB T h&&Dt x&&Bg n T x a|none=>Ad)|none=>Ad)||(match Rv as with|some (a,c)=>(match SM e with|some (x,y,_)=>decide (b=.tlt) && !behindInMarks .Lt y&&Bg n T x a&&Bg n T y c|none=>Ad)|none=>Ad)||(match R0 as with|some a=>(match Si e with|some x=>decide (b=.rvs)&&Bg n T x a|none=>Ad)|none=>Ad)
    |.isi a ks=>EE ks fun k=>IU e fun g l=>He l fun x t=>EL t fun t=>g==("isinstance" : Ai)&&isB T g&&Rr k==Aa t&&isB T t&&Dt x&&Bg n T x a
    |.idx a i=>MO e fun x y=>Ql y&&Bg n T x a&&Bg n T y i
    |.sl a lo hi=>MO e fun x s=>Rk s fun l h st=>st.isNone&&(Bg n T x a&&chkO n T l lo&&chkO n T h hi)
    |.tup es=>JD e fun xs=>chkEs n T xs es&&decide (xs.length<=1000)
    |.lst es=>Oo e fun xs=>chkEs n T xs es&&decide (xs.length<=1000)
    |.comp elt t it c=>RX e fun x tg iter ifs scope=>EL tg fun y=>chkI n T Ad iter it&&MV iter&&M9 T scope [t] (LJ [t] [y] T.N)&&tgO (T.blk scope [t] [y]) scope t y&&chkT n (T.blk scope [t] [y]) ifs c&&Bg n (T.blk scope [t] [y]) x elt
    |.compT elt ts it c=>RX e fun x tg iter ifs scope=>JD tg fun ys=>(E6 ys).isSome&&chkI n T Ab iter it&&MV iter&&M9 T scope ts (LJ ts (tgN ys) T.N)&&tgB (T.blk scope ts (tgN ys)) ts (tgN ys)&&chkT n (T.blk scope ts (tgN ys)) ifs c&&Bg n (T.blk scope ts (tgN ys)) x elt
    |.tupI _=>Ad
    |.dnew=>Ad
    |.fld _ _=>Ad
noncomputable def Io:Ag->Tc->An->E->Ak
 |0,_,_,_=>Ad
 |n+1,T,e,c=>(Jb e fun o x=>decide (o=.Not)&&(LS c fun a=>Io n T x a)) ||
  (Ii e fun o xs _=>(decide (o=.And)&&(Lw c fun es=>chkBs n T xs es && !xs.isEmpty))||(decide (o=.Or)&&(LR c fun es=>chkBs n T xs es && !xs.isEmpty))) ||
  (Lu e fun x os ys=>(Oq c fun op a b=>EE os fun op'=>EE ys fun y=>decide (op'=op) && !behindInMarks op y&&Bg n T x a&&Bg n T y b) ||
   (Os c fun op1 op2 a b c=>He os fun o1 o2=>He ys fun y z=>decide (o1=op1)&&decide (o2=op2) && !lastMarks [op1,op2] [y,z]&&Bg n T x a&&Bg n T y b&&Bg n T z c) ||
   (Ot c fun b as=>RJ T (Bg n) x os ys b as)) ||
  IF e&&Bg n T e c
noncomputable def chkBs:Ag->Tc->Ac An->Es->Ak
  |0,_,_,_=>Ad
  |n+1,T,xs,es=>match xs,es with
    |[],.nil=>Ab
    |x::xs,.cons e es=>Io n T x e&&chkBs n T xs es
    |_,_=>Ad
noncomputable def chkEs:Ag->Tc->Ac An->Es->Ak
  |0,_,_,_=>Ad
  |n+1,T,xs,es=>match xs,es with
    |[],.nil=>Ab
    |x::xs,.cons e es=>Dt x&&Bg n T x e&&chkEs n T xs es
    |_,_=>Ad
noncomputable def chkO:Ag->Tc->Ap An->E->Ak
  |0,_,_,_=>Ad
  |n+1,T,x,e=>match x with
    |none=>Oi e
    |some x=>!(Oi e)&&Bg n T x e
noncomputable def chkT:Ag->Tc->Ac An->E->Ak
  |0,_,_,_=>Ad
  |n+1,T,xs,e=>match xs with
    |[]=>RY e fun b=>b
    |x::r=>r.isEmpty&&Io n T x e
noncomputable def chkI:Ag->Tc->Ak->An->I->Ak
  |0,_,_,_,_=>Ad
  |n+1,T,tu,e,i=>match i with
    |.e a=>Bg n T e a
    |.rng a=>IU e fun g l=>EE l fun x=>g==("range" : Ai)&&isB T g&&Dt x&&Bg n T x a
    |.enm a=>IU e fun g l=>EE l fun x=>tu&&g==("enumerate" : Ai)&&isB T g&&Dt x&&Bg n T x a
    |.zip a b=>IU e fun g l=>He l fun x y=>tu&&g==("zip" : Ai)&&isB T g&&Dt x&&Dt y&&Bg n T x a&&Bg n T y b
    |.rng2 a b=>IU e fun g l=>He l fun x y=>g==("range" : Ai)&&isB T g&&Dt x&&Dt y&&Bg n T x a&&Bg n T y b
    |.zip3 a b c=>Ad
end
noncomputable def RI:E->E->Ak
 |.var _,.int _=>Ab
 |_,_=>Ad
noncomputable def Sh:Fq->Ak
 |.Sub=>Ab
 |_=>Ad
noncomputable def OH:E->Ak
 |.idx a b=>RI a b
 |.bin op a b=>Sh op&&RI a b
 |.var _=>Ab
 |.int _=>Ab
 |.bl _=>Ab
 |.str _=>Ab
 |.non=>Ab
 |_=>Ad
noncomputable def JB:Es->Ak
 |.nil=>Ab
 |.cons e es=>OH e&&JB es
noncomputable def JI:An->Ap (Ai×AG)
 |.Name x p=>Aa (x,p)
 |_=>Ae
theorem Lk{e:An}{t:Ai×AG}(h:JI e=Aa t):e=.Name t.1 t.2:=by
 cases e with
 |Name x p=>cases h;rfl
 |_=>exact nomatch (show Ae=Aa t from h)
noncomputable def Sr:An->Ap (An×Ac An×AG)
  | .Call f as ks p=>(match ks with
    |[]=>Aa (f,as,p)
    | _=>Ae)
  |_=>Ae
theorem mE{e:An}{t:An×Ac An×AG}(h:Sr e=Aa t):e=.Call t.1 t.2.1 [] t.2.2:=by
 cases e with
 |Call f as ks p=>
  cases ks with
  |nil=>cases h;rfl
  |cons=>exact nomatch (show Ae=Aa t from h)
 |_=>exact nomatch (show Ae=Aa t from h)
noncomputable def OB{α:Type}:Ac α->Ap (α×α)
 |[a,b]=>Aa (a,b)
 |_=>Ae
theorem Qs{l:Ac α}{t:α×α}(h:OB l=Aa t):l=[t.1,t.2]:=by
 cases l with
 |nil=>exact nomatch (show Ae=Aa t from h)
 |cons a l=>
  cases l with
  |nil=>exact nomatch (show Ae=Aa t from h)
  |cons b l=>
   cases l with
   |nil=>cases h;rfl
   |cons=>exact nomatch (show Ae=Aa t from h)
noncomputable def xHd:EV->Ap (Ai×Ai×AQ×Ac AQ)
  | .ExceptHandler ty nm b _=>(match nm,b,ty with
    |some m,h0::hs,Aa e=>(JI e).bind fun g=>Aa (g.1,m,h0,hs)
    | _,_,_=>Ae)
theorem rB{h:EV}{m:Ai}(q:xHd h=Aa (g,m,h0,hs)):∃ p r,h=.ExceptHandler (Aa (.Name g p)) (Aa m) (h0::hs) r:=by
 obtain⟨ty,nm,b,r⟩:=h;cases nm with
 |none=>cases ty<;>cases b<;>exact nomatch (show Ae=Aa (g,m,h0,hs) from q)
 |some m'=>
  cases b with
  |nil=>cases ty<;>exact nomatch (show Ae=Aa (g,m,h0,hs) from q)
  |cons h0' hs'=>
   cases ty with
   |none=>exact nomatch (show Ae=Aa (g,m,h0,hs) from q)
   |some e=>
    obtain⟨g',e1,q⟩:=Az.mp (show ((JI e).bind fun g=>Aa (g.1,m',h0',hs'))=Aa (g,m,h0,hs) from q)
    cases q;rw[Lk e1];exact⟨_,_,rfl⟩
noncomputable def RO:AQ->Ap (AQ×Ac EV×Ac AQ)
  | .Try b hs es fs _=>(match b,fs with
    |[bt],[]=>Aa (bt,hs,es)
    | _,_=>Ae)
  |_=>Ae
theorem lY{st bt:AQ}{hs:Ac EV}{es:Ac AQ}(q:RO st=Aa (bt,hs,es)):∃ p,st=.Try [bt] hs es [] p:=by
 cases st with
 |Try b h e f p=>
  cases b with
  |nil=>cases f<;>exact nomatch (show Ae=Aa (bt,hs,es) from q)
  |cons x b=>
   cases b with
   |cons=>cases f<;>exact nomatch (show Ae=Aa (bt,hs,es) from q)
   |nil=>
    cases f with
    |nil=>cases q;exact⟨_,rfl⟩
    |cons=>exact nomatch (show Ae=Aa (bt,hs,es) from q)
 |_=>exact nomatch (show Ae=Aa (bt,hs,es) from q)
noncomputable def Sa(e:An)(F:Ai->Ai->An->Ak):Ak:=IU e fun g l=>He l fun a t=>EL a fun v=>F g v t
theorem mZ{e:An}{F:Ai->Ai->An->Ak}(h:Sa e F=Ab):∃ g p v q t r,e=.Call (.Name g p) [.Name v q,t] [] r/\F g v t=Ab:=by
 obtain⟨g,p,l,r,rfl,h⟩:=Ju h;obtain⟨a,t,rfl,h⟩:=II h;obtain⟨v,q,rfl,h⟩:=Fx h;exact⟨g,p,v,q,t,r,rfl,h⟩
noncomputable def Rz(T:Tc):Ac An->Ac Ki->Ak
  |[],ks=>ks.isEmpty
  | e::r,ks=>IP ks fun k ks=>EL e fun t=>(match k with
    |.cls c=>inX T.exs t c&&glB T t&&GO t
    | _=>Ad)&&Rz T r ks
noncomputable def S4(T:Tc)(g:Ai)(f:Ag):Ak:=(T.fns.any fun p=>p.1==g&&p.2.1==f&&p.2.2==1001)&&glB T g&&GO g
noncomputable def MQ(f:An->E->Ak):Ac An->Es->Ak
 |[],.nil=>Ab
 |x::xs,.cons e es=>Dt x&&f x e&&MQ f xs es
 |_,_=>Ad
noncomputable def bv(T:Tc)(t:An)(ks:Ac Ki):Ak:=IP ks fun k r=>match k with
  |.verr=>r.isEmpty&&(EL t fun t=>t==("ValueError" : Ai)&&isB T t)
  | .cls c=>(match r with
    |[]=>EL t fun t=>inX T.exs t c&&glB T t&&GO t
    | k2::r=>JD t fun ts=>Rz T ts (.cls c::k2::r)&&decide (ts.length<=1000))
  |_=>Ad
noncomputable def E9:Ag->Tc->Ag->An->E->Ak
  |0,_,_,_,_=>Ad
  |n+1,T,x,e,c=>match c with
    |.bl b=>JF e fun k=>decide (k=.bool b)
    |.no a=>Jb e fun o y=>decide (o=.Not)&&E9 n T x y a
    | .and es=>(match es with
      |.nil=>Ad
      | .cons a r=>(match r with
        |.nil=>Ii e fun o l _=>decide (o=.And)&&(EE l fun y=>E9 n T x y a)
        | .cons a' as=>Ii e fun o l p=>decide (o=.And)&&(IP l fun y l=>IP l fun z zs=>E9 n T x y a&&E9 n T x (.BoolOp .And (z::zs) p) (.and (.cons a' as)))))
    |.isi a ks=>JC a fun i=>Sa e fun g v t=>i==x&&g==("isinstance" : Ai)&&isB T g&&isV T v x&&bv T t ks
    | .call f as=>(match as with
      |.nil=>Ad
      | .cons a r=>(match r with
        |.nil=>JC a fun i=>IU e fun g l=>EE l fun w=>EL w fun v=>S4 T g f&&isV T v i
        | .cons _ _=>Ad))
    |.str s=>JF e fun k=>decide (k=.str s)
    |.lst es=>Oo e fun xs=>MQ (E9 n T x) xs es&&decide (xs.length<=1000)
    |.tup es=>JD e fun xs=>MQ (E9 n T x) xs es&&decide (xs.length<=1000)
    |.bin op a b=>decide (op=.Add)&&(JC a fun i=>Ow e fun l o y=>decide (o=.Add)&&(EL l fun v=>isV T v i&&E9 n T x y b))
    |.fld o f=>JC o fun i=>Ox e fun w g _=>EL w fun v=>i==x&&g==f&&(f==("triple" : Ai)||f==("points" : Ai))&&isV T v x
    |_=>Ad
noncomputable def LD(n:Ag)(T:Tc)(x:Ag)(y:An)(e:E):Ak:=(Jb y fun o z=>decide (o=.Not)&&(LS e fun a=>IF z&&E9 n T x z a))||(IF y&&E9 n T x y e)
noncomputable def IT(n:Ag)(T:Tc)(x:Ag):Ac An->Es->Ak
 |[],.nil=>Ab
 |y::ys,.cons e es=>LD n T x y e&&IT n T x ys es
 |_,_=>Ad
noncomputable def XJ(n:Ag)(T:Tc)(x:Ag)(e:An)(c:E):Ak:=(Ii e fun o ys _=>(decide (o=.Or)&&(LR c fun es=>IT n T x ys es && !ys.isEmpty))||(decide (o=.And)&&(Lw c fun es=>IT n T x ys es && !ys.isEmpty)))||LD n T x e c
noncomputable def SY:E->Ak
 |.isi _ _=>Ab
 |.bl _=>Ab
 |_=>Ad
noncomputable def cT:E->Ak
 |.lst _=>Ab
 |_=>Ad
noncomputable def bu(n:Ag)(T:Tc)(x:Ag)(v:An)(e:E):Ak:=(JC e fun i=>EL v fun y=>isV T y i)||(SY e&&E9 n T x v e)
noncomputable def MP:Ag->Tc->Ag->Ac AQ->Ss->Ak
  |0,_,_,_,_=>Ad
  |n+1,T,x,sts,ss=>match ss with
    |.nil=>sts.isEmpty
    | .cons s ss=>IP sts fun st r=>(match s with
      |.asg i b e=>MU st fun y v=>T.N[i]? == Aa y&&Jd T y&&Kl v&&E9 n T x v e&&(!b||cT e)
      | .ife c a b=>(match b with
        |.nil=>M6 st fun t xs ys=>ys.isEmpty&&(XJ n T x t c&&MP n T x xs a)
        | .cons _ _=>Ad)
      | .ret e=>Om st fun o=>(match o with
        |some v=>bu n T x v e
        | none=>Ad)
      |.app i e=>MT st fun y m l=>EE l fun v=>m==("append" : Ai)&&isV T y i&&Dt v&&E9 n T x v e
      | _=>Ad)&&MP n T x r ss
noncomputable def RH:E->Ak
 |.var _=>Ab
 |.cmp _ a b=>OH a&&OH b
 |_=>Ad
noncomputable def Ob(n:Ag)(T:Tc)(st:AQ)(s:S):Ak:=match s with
  |.expr e=>Lv e fun f as=>Ls st fun v=>Bg n T v (.call f as)&&JB as
  |.asg i b e=>!b&&(Lv e fun f as=>MU st fun y v=>T.N[i]? == Aa y&&Jd T y&&Bg n T v (.call f as)&&JB as)
  |_=>Ad
noncomputable def Rj:Ss->(S->Ak)->Ak
  |.nil,_=>Ad
  | .cons a r,F=>(match r with
    |.nil=>F a
    | .cons _ _=>Ad)
theorem Uy{l:Ss}{F:S->Ak}(h:Rj l F=Ab):∃ a,l=.cons a .nil/\F a=Ab:=by
 cases l with
 |nil=>exact absurd (show Ad=Ab from h) Ah
 |cons a r=>
  cases r with
  |nil=>exact⟨a,rfl,h⟩
  |cons=>exact absurd (show Ad=Ab from h) Ah
noncomputable def Ww(f:AQ->S->Ak)(n:Ag)(T:Tc)(st:AQ):S->Ak
 |.ife c a b=>Rj a fun a=>Rj b fun b=>M6 st fun t xs ys=>EE xs fun x=>EE ys fun y=>Io n T t c&&RH c&&f x a&&f y b
 |_=>Ad
noncomputable def Of:Ag->Ag->Tc->AQ->S->Ak
 |0,n,T,st,s=>Ob n T st s
 |m+1,n,T,st,s=>Ob n T st s||Ww (Of m n T) n T st s
noncomputable def bW:E->Ak
  | .bi b as=>(match b,as with
    |.len,.nil=>Ab
    | _,_=>Ad)
  |_=>Ad
noncomputable def bV:S->Ak
 |.expr e=>bW e
 |_=>Ad
noncomputable def OM:Ss->Ak
 |.cons s _=>bV s
 |.nil=>Ad
noncomputable def hdB(T:Tc)(g:Ai)(c:Ag):Ak:=inX T.exs g c&&inX T.rzs g c&&glB T g&&GO g
mutual
noncomputable def LV:Ag->Tc->AQ->S->Ak
  |0,_,_,_=>Ad
  |n+1,T,st,s=>match s with
    |.pass=>Ad
    |.brk=>Ad
    |.cont=>Ad
    |.asg i _ e=>MU st fun x v=>T.N[i]? == Aa x&&Jd T x&&Bg n T v e
    |.asgT ts e=>Oy st fun t v=>JD t fun ys=>(E6 ys).isSome&&tgC T ts (tgN ys)&&(Xs v||CZ 4 ys.length)&&Bg n T v e
    |.expr e=>Ls st fun v=>Kl v&&Bg n T v e
    |.ret e=>Om st fun o=>match o with|some v=>Bg n T v e|none=>Ad
    |.retN=>Ad
    |.ife c a b=>M6 st fun t xs ys=>Io n T t c&&chkSs n T xs a&&chkSs n T ys b
    |.fors t it body=>Op st fun tg iter xs ys=>ys.isEmpty&&(EL tg fun x=>tgC T [t] [x]&&MV iter&&chkI n T Ad iter it&&chkSs n T xs body)
    |.forT ts it body=>Op st fun tg iter xs zs=>zs.isEmpty&&(JD tg fun ys=>(E6 ys).isSome&&tgC T ts (tgN ys)&&MV iter&&chkI n T Ab iter it&&chkSs n T xs body)
    |.whl c body=>Ad
    |.rais c as=>!(T.rzs.any fun p=>p.2==c)||(On st fun a b=>b.isNone&&(match a with|some e=>MG e fun g x xs=>inX T.rzs g c&&glB T g&&GO g&&decide (xs.length<=1000)&&chkEs n T (x::xs) as|none=>Ad))
    |.tryx bs c x h=>(match bs with | .cons b .nil=>(match RO st with|some (bt,[h1],[])=>(match xHd h1 with|some (g,m,h0,hs)=>hdB T g c&&T.N[x]? == Aa m&&T.sc.names.lookup m==Aa .local&&Of 6 n T bt b&&MP n T x (h0::hs) h|none=>Ad)|_=>Ad)|_=>Ad)
    |.try2 _ _ _ _ _ _ _=>Ad
    |.app i e=>MT st fun x m l=>EE l fun v=>m==("append" : Ai)&&isV T x i&&Dt v&&Bg n T v e
    |.ext i e=>Ad
    |.rev i=>Ad
    |.clr i=>Ad
    |.put i k e=>Oy st fun t v=>MO t fun o y=>EL o fun x=>isV T x i&&Ql y&&Bg n T y k&&Bg n T v e
    |.swp i k l=>(match RM st with|some (x,y,x',z,v)=>isV T x i&&isV T x' i&&isV T y k&&isV T z l&&Bg n T v (.tup (.cons (.idx (.var i) (.var l)) (.cons (.idx (.var i) (.var k)) .nil)))|none=>Ad)
    |.apop j i e=>MT st fun x m l=>EE l fun v=>m==("append" : Ai)&&isV T x j&&(match OJ v with|some (y,w)=>isV T y i&&Bg n T w e|none=>Ad)
    |.ins i k e=>MT st fun x m l=>He l fun y v=>m==("insert" : Ai)&&isV T x i&&Dt y&&Dt v&&Bg n T y k&&Bg n T v e
    |.dput _ _ _=>Ad
    |.dsd _ _ _=>Ad
    |.rel _=>Ad
noncomputable def chkSs:Ag->Tc->Ac AQ->Ss->Ak
  |0,_,_,_=>Ad
  | n+1,T,sts,ss=>(match ss with
    |.nil=>sts.isEmpty
    |.cons (.rel i) ss=>chkSs n T sts ss
    | .cons s ss=>(match sts with
      |st::r=>LV n T st s&&chkSs n T r ss
      | []=>Ad))||OM ss
end
noncomputable def HP(fuel:Ag)(hot:Ak)(fns:Ac (Ai×Ag×Ag))(bl:Ac Ai)(rzs exs gls:Ac (Ai×Ag))(ps N:Ac Ai)(st:AQ)(df:Df):Ak:=
  let sc:=Cq st
  sc.kind==.function && !sc.isCoroutine && !sc.isGenerator&&Ln N&&N.take ps.length==ps&&ps.all (fun x=>sc.names.lookup x==Aa .local||sc.names.lookup x==Aa .cell)&&sc.names.all (fun y=>y.2 != .free)&&N.length==df.n &&
  (match hot with
  |true=>MP fuel ⟨sc,N,fns,bl,rzs,exs,gls⟩ 0 (Fw st) df.body
  | false=>chkSs fuel ⟨sc,N,fns,bl,rzs,exs,gls⟩ (Fw st) df.body)
structure XT (up:Ag->Ac Ag) (xn:Ag->Ac D->R Ex) (CL:ClA) (rzs exs:Ac (Ai×Ag)) (K:Fg) (mg:Ai->Ap Al):Prop where
 xc:∀ c C,CL c=Aa C->XcOk K C
 rz:∀ p∈rzs,∃ C,CL p.2=Aa C/\mg p.1=Aa (.ref C)
 ex:∀ p∈exs,∃ C,mg p.1=Aa (.ref C)/\MF K CL up p.2 C/\∀ c D,CL c=Aa D->AM K (.ref D) (.ref C)=Aa ((up c).contains p.2)
 made:∀ c C ds,CL c=Aa C->xn c ds=.bad\/(xn c ds=.ok ⟨c,[]⟩/\D9 K C Ae=Ab)\/∃ f,XIn K mg C f/\OA xn c f ds
 nf:∀ c C,CL c=Aa C->∀ f:Ai,(f==("triple" : Ai)||f==("points" : Ai))=Ab->Fa K C=Ab/\At K (.ref C) f=Aa Ae
 xb:∀ c,(∀ p∈rzs,p.2≠c)->∀ ds,xn c ds=.bad
def ON(K:Fg)(mg:Ai->Ap Al)(CL:ClA)(x:Ai)(d:D):Prop:=∃ u v,mg x=Aa u/\BB v u/\∀ H A,Rep K CL H A v d
structure VX (Γ:Gam) (CL:ClA) (k:Ag) (W:XW) (T:Tc) (X:Cx):Prop where
 sc:X.env.scope=T.sc
 kd:T.sc.kind=.function
 N:X.N=T.N
 nd:T.N.Nodup
 calm:X.calm=Ab
 room:Room k X.A
 bl:∀ x,x∈T.bl->X.mg x=Ae
 fn:∀ p∈T.fns,∃ f fd ps,X.mg p.1=Aa (.ref f)/\B1 X.K (.ref f)=Ab/\FP X.K fd ps []/\ps.length=p.2.2%1000/\(p.2.2<1000->FnOk X.prog X.w X.K X.mg X.base (CXR X.prog X.w) k f fd ps (spD X.K CL (p.2.2%1000) (Γ.fr p.2.1) (Γ.F p.2.1)))/\(1000<=p.2.2->HotOk X.prog X.w X.K X.mg X.base k f fd ps (spH X.K CL (p.2.2%1000) (Γ.fr p.2.1) (Γ.F p.2.1)))
 own:Fs (model X.prog X.w) X.A X.env X.xe
 px:∀ A,Lp (CXR X.prog X.w) X (EKW X.K CL A W)
 rz:Na X CL W
 xt:XT Γ.up Γ.xn CL T.rzs T.exs X.K X.mg
 gl:∀ p∈T.gls,ON X.K X.mg CL p.1 (Γ.G p.2)
theorem QL:∀ A,Lp (CXR X.prog X.w) X (EKW X.K CL A W0):=fun A pI σ H s ev s' I h=>by
 obtain⟨e,T,cls,dx,H',_,_,_,_,_,_,_,_,_,_,x,_,w⟩:=h;exact w.elim
theorem RT:Na X CL W0:=fun _ _ _ _ _ _ _ _ _ _ _ _ _ _ z=>z.elim
def Rf{α:Type}(g f:Rho->R α):Prop:=∀ ρ,g ρ=.bad\/g ρ=f ρ
section
variable{X:Cx}{CL:ClA}{W:XW}{a:An}{f g:Rho->R D}
theorem SE.ref(h:SE X CL W a f)(r:Rf g f):SE X CL W a g:=fun A=>PE.weak (h A) fun σ H Q ⟨hA,ρ,q,p⟩=>⟨hA,ρ,q,by
 rcases r ρ with e|e
 ·rw[e]at p;exact p.elim
 ·rw[e]at p;exact p⟩
theorem SB.ref{f g:Rho->R Ak}(h:SB X CL W a f)(r:Rf g f):SB X CL W a g:=fun A=>PT.weak (h A) fun σ H Q ⟨hA,ρ,q,p⟩=>⟨hA,ρ,q,by
 rcases r ρ with e|e
 ·rw[e]at p;exact p.elim
 ·rw[e]at p;exact p⟩
theorem SW.ref{f g:Rho->R Ak}(h:SW X CL W a f)(r:Rf g f):SW X CL W a g:=fun A=>PW.weak (h A) fun σ H Q ⟨hA,ρ,q,p⟩=>⟨hA,ρ,q,by
 rcases r ρ with e|e
 ·rw[e]at p;exact p.elim
 ·rw[e]at p;exact p⟩
theorem SC.ref(h:SC X CL W fr a f)(r:Rf g f):SC X CL W fr a g:=fun A=>PE.weak (h A) fun σ H Q ⟨hA,ρ,q,p⟩=>⟨hA,ρ,q,by
 rcases r ρ with e|e
 ·rw[e]at p;exact p.elim
 ·rw[e]at p;exact p⟩
theorem SS.ref{st:AQ}{f g:Rho->O}(h:SS X CL W st f)(r:∀ ρ,g ρ=.bad\/g ρ=f ρ):SS X CL W st g:=fun Fz B=>PS.weak (h Fz B) fun D σ H ⟨ρ,x,p⟩=>⟨ρ,x,by
 rcases r ρ with e|e
 ·rw[e]at p;exact p.elim
 ·rw[e]at p;exact p⟩
end
theorem JZ:∀{l:Ac Ai},Ln l=Ab->l.Nodup
 |[],_=>Dz
 |x::xs,h=>by
  unfold Ln at h;simp only[Aj,Bt,X6,decide_eq_false_iff_not]at h;exact List.nodup_cons.mpr ⟨h.1,JZ h.2⟩
section
variable{T:Tc}{X:Cx}{Γ:Gam}{CL:ClA}{k:Ag}{W:XW}
theorem Vj(h:RS T x=Ab):Vis T.sc x:=by
 unfold RS at h;split at h
 ·exact .inl (by assumption)
 ·exact .inr (.inl (by assumption))
 ·exact .inr (.inr (by assumption))
 ·cases h
theorem Lg(h:Jd T x=Ab):Loc T.sc x:=by
 unfold Jd at h;split at h
 ·exact .inl (by assumption)
 ·exact .inr (by assumption)
 ·cases h
theorem HE(h:GO x=Ab):(x==("__debug__" : Ai))=Ad/\(x==("__classdict__" : Ai))=Ad/\x≠"__name__" := by
 unfold GO at h;simp only[Aj,Bt]at h;exact⟨h.1.1,h.1.2,fun e=>by subst e;exact absurd h.2 (by simp)⟩
theorem G9{i:Ag}(v:VX Γ CL k W T X)(h:isV T x i=Ab):PE X (.Name x pos) (En i):=by
 unfold isV at h;simp only[Aj,AT]at h;obtain⟨h2,h3,_⟩:=HE h.2;exact N2 (by rw[v.N];exact h.1.1) (by rw[v.sc];exact Vj h.1.2) h2 h3
theorem GJ(v:VX Γ CL k W T X)(h:isB T x=Ab):Gl X x/\X.mg x=Ae/\x≠"__name__"/\(x==("__debug__" : Ai))=Ad:=by
 unfold isB glB at h;simp only[Aj,AT,X6,AZ]at h;obtain⟨h2,h3,h4⟩:=HE h.2;exact⟨by show X.env.scope.names.lookup x=_;rw[v.sc];exact h.1.2,v.bl x h.1.1,h4,h2⟩
theorem Cw{x:An}(h:Dt x=Ab):Av (x::xs) env=(Ad,eval x env)::Av xs env:=by
 cases x<;>first|rfl|cases h
theorem gY{y:An}(h:Ql y=Ab):QI y:=by
 intro o i;cases y<;>first|rfl|cases h
theorem N7{e:An}(h:MV e=Ab):∀ x,CU e env x=pure x:=by
 intro x;cases e<;>first|rfl|cases h
theorem Li{e:An}{t:Ap An}(h:Kl e=Ab):CW e t l env=pure Ad:=by
 cases e<;>first|rfl|cases h
theorem Vp{e:An}(h:IF e=Ab):∀ whole,Iu e env whole=(do let v <-whole;Hq e.pos;holding [v] (truthy v)):=by
 intro whole;cases e<;>first|rfl|cases h
theorem dS(v:VX Γ CL k W T X)(scope:B5):relabel scope X.env=Re T.sc scope:=by
 unfold relabel Re;have:∀ n,X.env.kindOf n=T.sc.names.lookup n:=fun n=>by show X.env.scope.names.lookup n=_;rw[v.sc]
 simp only[this,v.sc]
theorem Q0{N':Ac Ai}(v:VX Γ CL k W T X)(h:M9 T scope ts N'=Ab):BlockOk X scope N' ts/\N'.Nodup/\scope.kind=.function:=by
 unfold M9 at h;simp only[Aj,AT,DY,CG,Gz,KO]at h;obtain⟨⟨⟨⟨⟨h1,h2⟩,h4⟩,h5⟩,h6⟩,h7⟩:=h;have at7:∀ i x,N'[i]?=Aa x->i∈ts\/((scope.names.lookup x≠Aa .local/\scope.names.lookup x≠Aa .cell)/\(scope.names.lookup x≠Aa .free\/T.N[i]?=Aa x)):=fun i x e=>by
  have hi:=(AS.mp e).1;have:=h7 i (Bq.mpr hi);rcases this with z|z
  ·exact .inl (by simpa using z)
  ·rw[e]at z;simp only[Aj,Gz,KO,CG,AT]at z;exact .inr z
 refine⟨⟨h1,h2,fun y hy hl=>by rw[h2 y hy,hl],fun y hy hf=>?_,by rw[v.N];exact h5,fun i x e hf hn=>?_,fun i x e hl=>?_⟩,JZ h6,h1⟩
 ·rw[v.sc];rcases h4 y hy with (z|z)|z
  ·exact absurd hf z
  ·exact .inl z
  ·exact .inr z
 ·rw[v.N];rcases at7 i x e with z|⟨_,z⟩
  ·exact absurd z hn
  ·exact z.resolve_left fun q=>q hf
 ·rcases at7 i x e with z|⟨z,_⟩
  ·exact z
  ·exact hl.elim (fun q=>absurd q z.1) (fun q=>absurd q z.2)
theorem VX.blk{xs:Ac Ai}{cl:Ac (Ai×Am)}{s:Ar}{fp:Ac Am}(v:VX Γ CL k W T X)(h:M9 T scope ts (LJ ts xs T.N)=Ab):VX Γ CL k W0 (T.blk scope ts xs) (cxC X scope cl C (LJ ts xs T.N) s H fp):=by
 obtain⟨_,h2,h3⟩:=Q0 v h;exact⟨dS v scope,h3,rfl,h2,v.calm,v.room,v.bl,v.fn,PassesOwn.never,QL,RT,v.xt,v.gl⟩
theorem mK{t:Ag}(v:VX Γ CL k W T X)(hfn:scope.names.lookup x=Aa .cell->X.fn x=Ab)(h:tgO T scope t x=Ab):PG X (.Name x pos) (E8 t):=by
 unfold tgO at h;simp only[Aj,CG,AT]at h;rcases h with ⟨h1,h2|h2⟩
 ·exact MA (by rw[v.N];exact v.nd) (by rw[v.N];exact h1) (by rw[v.sc];exact .inl h2) (.inr (by rw[v.sc];exact h2))
 ·exact MA (by rw[v.N];exact v.nd) (by rw[v.N];exact h1) (by rw[v.sc];exact .inr h2.1) (.inl (hfn h2.2))
theorem Pk{y:An}{r:Ac An}{zs:Ac Ai}(h:E6 (y::r)=Aa zs):∃ x p ws,y=.Name x p/\E6 r=Aa ws/\zs=x::ws:=by
 cases y with
 |Name x p=>
  have h':(E6 r).map (x :: ·)=Aa zs:=h;cases e:E6 r with
  |none=>rw[e]at h';cases h'
  |some ws=>rw[e]at h';cases h';exact⟨x,p,ws,rfl,rfl,rfl⟩
 |_=>cases h
theorem Pw(x:Ai)(p:AG)(r:Ac An)(env:B9):Ca (.Name x p::r) env=(Ad,assign (.Name x p) env)::Ca r env:=rfl
theorem Pj:∀(ys:Ac An)(zs:Ac Ai),E6 ys=Aa zs->(Ca ys env).length=ys.length/\(Ca ys env).findIdx? (·.1)=Ae/\(Ca ys env).map (·.2)=ys.map fun y=>assign y env:=by
 intro ys
 induction ys with
 |nil=>intro _ _;exact⟨rfl,rfl,rfl⟩
 |cons y r ih=>
  intro zs h;obtain⟨x,p,ws,rfl,e,rfl⟩:=Pk h;obtain⟨h1,h2,h3⟩:=ih ws e;rw[Pw];refine⟨?_,?_,?_⟩
  ·rw[Bk,Bk,h1]
  ·rw[List.findIdx?_cons,h2];simp
  ·rw[Cf,Cf,h3]
theorem kQ(v:VX Γ CL k W T X):∀(ys:Ac An)(ts:Ac Ag)(zs:Ac Ai),E6 ys=Aa zs->tgB T ts zs=Ab->PGs X ys (ts.foldr (fun t u=>HK (E8 t) u) HQ)/\ts.length=ys.length:=by
 intro ys
 induction ys with
 |nil=>
  intro ts zs e h;cases e;cases ts with
  |nil=>exact⟨Qx,rfl⟩
  |cons t ts=>cases h
 |cons y r ih=>
  intro ts zs e h;obtain⟨x,p,ws,rfl,e2,rfl⟩:=Pk e;cases ts with
  |nil=>cases h
  |cons t ts=>
   have h':(T.N[t]? == Aa x&&T.sc.names.lookup x==Aa .local&&tgB T ts ws)=Ab:=h;simp only[Aj,AT]at h';obtain⟨h1,h2⟩:=ih ts ws e2 h'.2;exact⟨Nx (MA (by rw[v.N];exact v.nd) (by rw[v.N];exact h'.1.1) (by rw[v.sc];exact .inl h'.1.2) (.inr (by rw[v.sc];exact h'.1.2))) h1 (by rw[Pw];rfl),congrArg (· + 1) h2⟩
theorem mO(v:VX Γ CL k W T X)(hn:(E6 ys).isSome=Ab)(h:tgB T ts (tgN ys)=Ab):PG X (.Tuple ys kk pos) (LU X.K ts.length (ts.foldr (fun t u=>HK (E8 t) u) HQ)):=by
 cases e:E6 ys with
 |none=>rw[e]at hn;cases hn
 |some zs=>
  have e2:tgN ys=zs:=by unfold tgN;rw[e];rfl
  rw[e2]at h;obtain⟨h1,h2⟩:=kQ v ys ts zs e h;obtain⟨h3,h4,_⟩:=Pj (env:=X.env) ys zs e;exact NZ v.calm h1 (by rw[h3,h2]) h4
end
noncomputable def Es.len:Es->Ag
 |.nil=>0
 |.cons _ es=>es.len+1
theorem J8(Γ:Gam)(ρ:Rho):∀(es:Es)(ds:Ac D),evA Γ ρ es=.ok ds->ds.length=es.len
 |.nil,ds,h=>by cases h;rfl
 |.cons e es,ds,h=>by
  obtain⟨x,h1,h2⟩:=J6 (UU Γ ρ e es ▸ h);obtain⟨xs,h3,h4⟩:=J6 h2;cases h4;exact congrArg (· + 1) (J8 Γ ρ es xs h3)
theorem Mv(Γ:Gam)(ρ:Rho):∀(es:Es)(ds:Ac D),evB Γ ρ es=.ok ds->ds.length=es.len
 |.nil,ds,h=>by cases h;rfl
 |.cons e es,ds,h=>by
  obtain⟨x,h1,h2⟩:=J6 (P8 Γ ρ e es ▸ h);obtain⟨xs,h3,h4⟩:=J6 h2;cases h4;exact congrArg (· + 1) (Mv Γ ρ es xs h3)
theorem WC(Γ:Gam)(ρ:Rho)(e:E)(h:shE ρ e=Ab):top ρ e (evE Γ ρ e)=evE Γ ρ e:=by
 cases e with
 |var i=>
  show Dc ρ i=ET ρ i;have h':shV ρ i=Ab:=h;unfold shV at h';unfold Dc ET;cases q:ρ[i]? with
  |none=>rfl
  |some x=>
   cases x with
   |none=>rfl
   |some y=>
    obtain⟨d,o⟩:=y;cases o with
    |true=>rw[q]at h';cases h'
    |false=>rfl
 |_=>rfl
theorem MK(Γ:Gam)(ρ:Rho):∀(es:Es),HL ρ es=Ab->evB Γ ρ es=evA Γ ρ es
 |.nil,_=>rfl
 |.cons e es,h=>by
  simp only[eS,Aj]at h;rw[UU,P8,WC Γ ρ e h.1,MK Γ ρ es h.2]
theorem QW(Γ:Gam)(c:E):Rf (fun ρ=>evE Γ ρ c) (fun ρ=>top ρ c (evE Γ ρ c)):=fun ρ=>by
 by_cases h:shE ρ c=Ab
 ·exact .inr (WC Γ ρ c h).symm
 ·cases c with
  |var i=>
   refine .inl ?_;show ET ρ i=.bad;have h':¬ shV ρ i=Ab:=h;unfold shV at h';unfold ET;cases q:ρ[i]? with
   |none=>rfl
   |some x=>
    cases x with
    |none=>rfl
    |some y=>
     obtain⟨d,o⟩:=y;cases o with
     |true=>rfl
     |false=>rw[q]at h';exact absurd rfl h'
  |_=>exact absurd rfl h
def Pcs(X:Cx)(CL:ClA)(W:XW)(e:An)(f:Rho->R D):Prop:=∃ tg iter elt ifs scope pos N' ts fi fc fe as g,e=.ListComp elt [⟨tg,iter,ifs,0⟩] scope pos/\BlockOk X scope N' ts/\SI X CL W tg iter fi/\GG X.K CL ts as g /\
 (∀ cl C s H fp,PG (cxC X scope cl C N' s H fp) tg g)/\(∀ cl C s H fp,STs (cxC X scope cl C N' s H fp) CL ifs fc)/\(∀ cl C s H fp,SE (cxC X scope cl C N' s H fp) CL W0 elt fe)/\(∀ x,CU iter X.env x=pure x) /\
 ∀ ρ,f ρ=(fi ρ).bind fun xs=>(noX (BD (fun x=>(as x ρ).bind fc) (fun x=>(as x ρ).bind fe) xs)).bind fun ys=>.ok (.lst ys)
theorem Pcs.sc{e:An}{f:Rho->R D}(hc:X.calm=Ab)(h:Pcs X CL W e f):SC X CL W Ab e f:=by
 obtain⟨tg,iter,elt,ifs,scope,pos,N',ts,fi,fc,fe,as,g,rfl,B,hi,hGG,hg,ht,he,hs,ef⟩:=h;exact SC.congr (lM hc B hi hGG hg ht he hs) ef
structure OkE (Γ:Gam) (CL:ClA) (W:XW) (X:Cx) (e:An) (c:E):Prop where
 se:SE X CL W e (fun ρ=>evE Γ ρ c)
 st:ST X CL W e (fun ρ=>top ρ c (evE Γ ρ c))
 nw:DN Γ c=Ab->SC X CL W Ab e (fun ρ=>evE Γ ρ c)
 cp:Kl e=Ad->Pcs X CL W e (fun ρ=>evE Γ ρ c)
section
variable{Γ:Gam}{CL:ClA}{W:XW}{X:Cx}{e:An}{c:E}
theorem EC(h:SE X CL W e (fun ρ=>evE Γ ρ c))(ht:∀ ρ r,top ρ c r=r)(hn:DN Γ c=Ad)(hc:Kl e=Ab):OkE Γ CL W X e c:=
 ⟨h,by simp only[ht];exact h.st,fun z=>absurd z (by rw[hn];decide),fun z=>absurd z (by rw[hc];decide)⟩
theorem N4(h:SC X CL W Ab e (fun ρ=>evE Γ ρ c))(ht:∀ ρ r,top ρ c r=r)(hc:Kl e=Ab):OkE Γ CL W X e c:=
 ⟨h.se,by simp only[ht];exact h.se.st,fun _=>h,fun z=>absurd z (by rw[hc];decide)⟩
theorem Xr(hc:X.calm=Ab)(h:Pcs X CL W e (fun ρ=>evE Γ ρ c))(ht:∀ ρ r,top ρ c r=r):OkE Γ CL W X e c:=
 ⟨(h.sc hc).se,by simp only[ht];exact(h.sc hc).se.st,fun _=>h.sc hc,fun _=>h⟩
end
theorem bw{k:Ki}(h:Rr k=Aa x):∃ T,tyK k=Aa T/\C4 x=Aa (.type T):=by
 cases k<;>simp only[Rr]at h<;>cases h
 ·exact⟨_,rfl,Yz⟩
 ·exact⟨_,rfl,PyProof.Rows.boot_bool⟩
 ·exact⟨_,rfl,PyProof.Rows.boot_str⟩
 ·exact⟨_,rfl,FV⟩
 ·exact⟨_,rfl,YA⟩
structure Snd (Γ:Gam) (CL:ClA) (k:Ag) (n:Ag):Prop where
 e:∀(W:XW)(T:Tc)(X:Cx)(x:An)(c:E),VX Γ CL k W T X->Bg n T x c=Ab->OkE Γ CL W X x c
 b:∀(W:XW)(T:Tc)(X:Cx)(x:An)(c:E),VX Γ CL k W T X->Io n T x c=Ab->SB X CL W x (fun ρ=>(top ρ c (evE Γ ρ c)).bind BM)
 bs:∀(W:XW)(T:Tc)(X:Cx)(xs:Ac An)(es:Es)(pos:AG),VX Γ CL k W T X->chkBs n T xs es=Ab->xs≠[]->SW X CL W (.BoolOp .And xs pos) (fun ρ=>(evN Γ ρ es).bind BM)/\SW X CL W (.BoolOp .Or xs pos) (fun ρ=>(evO Γ ρ es).bind BM)
 es:∀(W:XW)(T:Tc)(X:Cx)(xs:Ac An)(es:Es),VX Γ CL k W T X->chkEs n T xs es=Ab->SA X CL W xs (fun ρ=>evA Γ ρ es)/\SAT X CL W xs (fun ρ=>evB Γ ρ es)/\xs.length=es.len/\(∀ pos,xs≠[]->SE X CL W (.BoolOp .And xs pos) (fun ρ=>evN Γ ρ es)/\SE X CL W (.BoolOp .Or xs pos) (fun ρ=>evO Γ ρ es))/\(∀ pos,(BN pos (Av xs X.env)).any (·.1)=Ad)
 o:∀(W:XW)(T:Tc)(X:Cx)(x:Ap An)(c:E),VX Γ CL k W T X->chkO n T x c=Ab->SO X CL W x (fun ρ=>(top ρ c (evE Γ ρ c)).bind (slE c))
 t:∀(T:Tc)(X:Cx)(xs:Ac An)(c:E),VX Γ CL k W0 T X->chkT n T xs c=Ab->STs X CL xs (fun ρ=>(top ρ c (evE Γ ρ c)).bind BM)
 i:∀(W:XW)(T:Tc)(X:Cx)(tu:Ak)(tg x:An)(i:I),VX Γ CL k W T X->Sd tu tg=Ab->chkI n T tu x i=Ab->SI X CL W tg x (fun ρ=>evI Γ ρ i)
section
variable{Γ:Gam}{CL:ClA}{W:XW}{k n:Ag}{T:Tc}{X:Cx}
theorem gX:Snd Γ CL k 0:=⟨fun _ _ _ _ _ _ h=>absurd (show Ad=Ab from h) Ah,fun _ _ _ _ _ _ h=>absurd (show Ad=Ab from h) Ah,fun _ _ _ _ _ _ _ h=>absurd (show Ad=Ab from h) Ah,fun _ _ _ _ _ _ h=>absurd (show Ad=Ab from h) Ah,fun _ _ _ _ _ _ h=>absurd (show Ad=Ab from h) Ah,fun _ _ _ _ _ h=>absurd (show Ad=Ab from h) Ah,fun _ _ _ _ _ _ _ _ _ h=>absurd (show Ad=Ab from h) Ah⟩
theorem Tg{x:An}(h:Dt x=Ab)(hx:(BN pos (Av xs env)).any (·.1)=Ad):(BN pos (Av (x::xs) env)).any (·.1)=Ad:=by
 rw[Cw h];show (Ad||(BN pos (Av xs env)).any (·.1))=Ad;rw[hx];rfl
theorem rN(S:Snd Γ CL k n)(W:XW)(T:Tc)(X:Cx)(xs:Ac An)(es:Es)(v:VX Γ CL k W T X)(h:chkEs (n+1) T xs es=Ab):SA X CL W xs (fun ρ=>evA Γ ρ es)/\SAT X CL W xs (fun ρ=>evB Γ ρ es)/\xs.length=es.len/\(∀ pos,xs≠[]->SE X CL W (.BoolOp .And xs pos) (fun ρ=>evN Γ ρ es)/\SE X CL W (.BoolOp .Or xs pos) (fun ρ=>evO Γ ρ es))/\(∀ pos,(BN pos (Av xs X.env)).any (·.1)=Ad):=by
 cases xs with
 |nil=>
  cases es with
  |nil=>exact⟨QR,Vc,rfl,fun _ z=>absurd rfl z,fun _=>rfl⟩
  |cons=>exact absurd (show Ad=Ab from h) Ah
 |cons x xs=>
  cases es with
  |nil=>exact absurd (show Ad=Ab from h) Ah
  |cons e es=>
   replace h:(Dt x&&Bg n T x e&&chkEs n T xs es)=Ab:=h;simp only[Aj]at h;obtain⟨⟨h0,h1⟩,h2⟩:=h;have he:=S.e W T X x e v h1;obtain⟨a1,a2,a3,a4,a5⟩:=S.es W T X xs es v h2;refine⟨Qv he.se a1 (Cw h0),Uq he.st a2 (Cw h0),congrArg (· + 1) a3,fun pos _=>?_,fun pos=>Tg h0 (a5 pos)⟩
   cases xs with
   |nil=>
    cases es with
    |nil=>exact⟨QN he.se,QN he.se⟩
    |cons=>cases a3
   |cons y ys=>
    cases es with
    |nil=>cases a3
    |cons e' es'=>
     obtain⟨b1,b2⟩:=a4 pos (by simp)
     exact⟨WQ he.se b1,yX he.se b2⟩
theorem xF(S:Snd Γ CL k n)(W:XW)(T:Tc)(X:Cx)(x:Ap An)(c:E)(v:VX Γ CL k W T X)(h:chkO (n+1) T x c=Ab):SO X CL W x (fun ρ=>(top ρ c (evE Γ ρ c)).bind (slE c)):=by
 cases x with
 |none=>
  obtain rfl:=jC h;exact lG
 |some x=>
  replace h:(!(Oi c)&&Bg n T x c)=Ab:=h;rw[Aj]at h;have q:=lF (S.e W T X x c v h.2).st;have e:slE c=fun d=>(DT d).bind fun i=>.ok (Aa i):=by
   funext d
   cases c<;>first|rfl|exact absurd (show Ad=Ab from h.1) Ah
  rw[e];exact q
theorem xD(S:Snd Γ CL k n)(T:Tc)(X:Cx)(xs:Ac An)(c:E)(v:VX Γ CL k W0 T X)(h:chkT (n+1) T xs c=Ab):STs X CL xs (fun ρ=>(top ρ c (evE Γ ρ c)).bind BM):=by
 cases xs with
 |nil=>
  replace h:=nB h;obtain⟨b,rfl,h⟩:=h;subst h;exact kU
 |cons x xs=>
  replace h:(xs.isEmpty&&Io n T x c)=Ab:=h;rw[Aj]at h;obtain rfl:=Ie h.1;exact kT (S.b W0 T X x c v h.2)
theorem xG(S:Snd Γ CL k n)(W:XW)(T:Tc)(X:Cx)(tu:Ak)(tg x:An)(i:I)(v:VX Γ CL k W T X)(ht':Sd tu tg=Ab)(h:chkI (n+1) T tu x i=Ab):SI X CL W tg x (fun ρ=>evI Γ ρ i):=by
 have ht:tu=Ab->zX tg=Ab:=fun z=>by
  subst z;cases tg<;>first|rfl|cases ht'
 cases i with
 |e a=>
  exact cK (S.e W T X x a v h).se
 |rng a=>
  replace h:=Ju h;obtain⟨g,pp,l,qq,rfl,h⟩:=h;replace h:=Fv h;obtain⟨y,rfl,h⟩:=h;simp only[Aj,AT]at h;obtain⟨⟨⟨rfl,h1⟩,h2⟩,h3⟩:=h;obtain⟨g1,g2,_,_⟩:=GJ v h1;exact tH (S.e W T X _ a v h3).st g1 g2 (Cw h2)
 |rng2 a b=>
  replace h:=Ju h;obtain⟨g,pp,l,qq,rfl,h⟩:=h;replace h:=II h;obtain⟨y,z,rfl,h⟩:=h;simp only[Aj,AT]at h;obtain⟨⟨⟨⟨⟨rfl,h1⟩,h2⟩,h3⟩,h4⟩,h5⟩:=h;obtain⟨g1,g2,_,_⟩:=GJ v h1;exact lI (S.e W T X _ a v h4).st (S.e W T X _ b v h5).st g1 g2 (by rw[Cw h2,Cw h3];rfl) (by rw[Cw h3];rfl)
 |zip a b=>
  replace h:=Ju h;obtain⟨g,pp,l,qq,rfl,h⟩:=h;replace h:=II h;obtain⟨y,z,rfl,h⟩:=h;simp only[Aj,AT]at h;obtain⟨⟨⟨⟨⟨⟨h0,rfl⟩,h1⟩,h2⟩,h3⟩,h4⟩,h5⟩:=h;obtain⟨g1,g2,_,_⟩:=GJ v h1;have hg:=ht h0;cases tg with
  |Tuple es m tpos=>exact tG (S.e W T X _ a v h4).se (S.e W T X _ b v h5).se g1 g2 (by rw[Cw h2,Cw h3];rfl) (by rw[Cw h3];rfl)
  |_=>cases hg
 |zip3 a b c=>exact absurd (show Ad=Ab from h) Ah
 |enm a=>
  replace h:=Ju h;obtain⟨g,pp,l,qq,rfl,h⟩:=h;replace h:=Fv h;obtain⟨y,rfl,h⟩:=h;simp only[Aj,AT]at h;obtain⟨⟨⟨⟨h0,rfl⟩,h1⟩,h2⟩,h3⟩:=h;obtain⟨g1,g2,_,_⟩:=GJ v h1;have hg:=ht h0;cases tg with
  |Tuple es m tpos=>exact lJ (S.e W T X _ a v h3).se g1 g2 (Cw h2)
  |_=>cases hg
theorem Lb{c:Prop}[Fm c]{b:Ak}:(if c then R.ok (D.bl b) else .bad)=.bad\/∃ b',(if c then R.ok (D.bl b) else .bad)=.ok (.bl b'):=by
 by_cases h:c
 ·rw[AA h];exact .inr ⟨_,rfl⟩
 ·rw[AH h];exact .inl rfl
theorem jS(op:C9)(d d':D):BX op d d'=.bad\/∃ b,BX op d d'=.ok (.bl b):=by
 cases op with
 |Eq=>exact Lb
 |NotEq=>exact Lb
 |In=>
  cases d' with
  |lst ys=>exact Lb
  |tup ys=>exact Lb
  |dic kvs=>
   show (match Im d with|some k=>R.ok (D.bl (kvs.any fun p=>p.1==k))|none=>.bad)=.bad\/∃ b,(match Im d with|some k=>R.ok (D.bl (kvs.any fun p=>p.1==k))|none=>.bad)=.ok (.bl b)
   cases Im d with
   |some k=>exact .inr ⟨_,rfl⟩
   |none=>exact .inl rfl
  |_=>cases d<;>exact .inl rfl
 |NotIn=>
  cases d' with
  |lst ys=>exact Lb
  |tup ys=>exact Lb
  |_=>cases d<;>exact .inl rfl
 |Is=>
  cases d' with
  |non=>cases d<;>first|exact .inr ⟨_,rfl⟩|exact .inl rfl
  |_=>cases d<;>first|exact .inl rfl|exact .inr ⟨_,rfl⟩
 |IsNot=>
  cases d' with
  |non=>cases d<;>first|exact .inr ⟨_,rfl⟩|exact .inl rfl
  |_=>cases d<;>first|exact .inl rfl|exact .inr ⟨_,rfl⟩
 |_=>
  cases d with
  |int i=>cases d'<;>first|exact .inr ⟨_,rfl⟩|exact .inl rfl
  |_=>exact .inl rfl
theorem VJ(op:C9)(d d':D):(BX op d d').bind BM=.bad\/(BX op d d').bind BM=(BX op d d').bind Du:=by
 rcases jS op d d' with h|⟨b,h⟩
 ·rw[h];exact .inl rfl
 ·rw[h];exact .inr rfl
theorem V3(e e':E)(es:Es):Rf (fun ρ=>(evN Γ ρ (.cons e (.cons e' es))).bind BM) (fun ρ=>((top ρ e (evE Γ ρ e)).bind BM).bind fun c=>if c=Ab then (evN Γ ρ (.cons e' es)).bind BM else .ok Ad):=fun ρ=>by
 have e0:evN Γ ρ (.cons e (.cons e' es))=(evE Γ ρ e).bind fun x=>(Du x).bind fun c=>if c=Ab then evN Γ ρ (.cons e' es) else .ok (.bl Ad):=rfl
 dsimp only;rw[e0];rcases QW Γ e ρ with z|z<;>dsimp only at z
 ·rw[z];exact .inl rfl
 ·rw[<-z];cases evE Γ ρ e with
  |bad=>exact .inl rfl
  |exn x=>exact .inr rfl
  |ok d=>
   cases d with
   |bl b=>cases b<;>exact .inr rfl
   |_=>exact .inl rfl
theorem V2(e e':E)(es:Es):Rf (fun ρ=>(evO Γ ρ (.cons e (.cons e' es))).bind BM) (fun ρ=>((top ρ e (evE Γ ρ e)).bind BM).bind fun c=>if c=Ab then .ok Ab else (evO Γ ρ (.cons e' es)).bind BM):=fun ρ=>by
 have e0:evO Γ ρ (.cons e (.cons e' es))=(evE Γ ρ e).bind fun x=>(Du x).bind fun c=>if c=Ab then .ok (.bl Ab) else evO Γ ρ (.cons e' es):=rfl
 dsimp only;rw[e0];rcases QW Γ e ρ with z|z<;>dsimp only at z
 ·rw[z];exact .inl rfl
 ·rw[<-z];cases evE Γ ρ e with
  |bad=>exact .inl rfl
  |exn x=>exact .inr rfl
  |ok d=>
   cases d with
   |bl b=>cases b<;>exact .inr rfl
   |_=>exact .inl rfl
theorem Rf.tru(e:E):Rf (fun ρ=>(evE Γ ρ e).bind BM) (fun ρ=>(top ρ e (evE Γ ρ e)).bind BM):=fun ρ=>by
 rcases QW Γ e ρ with z|z<;>dsimp only at z ⊢
 ·rw[z];exact .inl rfl
 ·rw[<-z];exact .inr rfl
theorem rO(S:Snd Γ CL k n)(W:XW)(T:Tc)(X:Cx)(xs:Ac An)(es:Es)(pos:AG)(v:VX Γ CL k W T X)(h:chkBs (n+1) T xs es=Ab)(hne:xs≠[]):SW X CL W (.BoolOp .And xs pos) (fun ρ=>(evN Γ ρ es).bind BM)/\SW X CL W (.BoolOp .Or xs pos) (fun ρ=>(evO Γ ρ es).bind BM):=by
 cases xs with
 |nil=>exact absurd rfl hne
 |cons x xs=>
  cases es with
  |nil=>exact absurd (show Ad=Ab from h) Ah
  |cons e es=>
   replace h:(Io n T x e&&chkBs n T xs es)=Ab:=h;simp only[Aj]at h;obtain⟨h1,h2⟩:=h;have he:=S.b W T X x e v h1;cases xs with
   |nil=>
    cases es with
    |nil=>exact⟨SW.ref (Vr he) (Rf.tru e),SW.ref (WF he) (Rf.tru e)⟩
    |cons=>
     cases n with
     |zero=>exact absurd (show Ad=Ab from h2) Ah
     |succ n=>exact absurd (show Ad=Ab from h2) Ah
   |cons y ys=>
    cases es with
    |nil=>
     cases n with
     |zero=>exact absurd (show Ad=Ab from h2) Ah
     |succ n=>exact absurd (show Ad=Ab from h2) Ah
    |cons e' es'=>
     obtain⟨b1,b2⟩:=S.bs W T X (y::ys) (.cons e' es') pos v h2 (by simp)
     exact⟨SW.ref (WG he b1) (V3 e e' es'),SW.ref (W8 he b2) (V2 e e' es')⟩
theorem mJ(S:Snd Γ CL k n){x:An}{ops:Ac C9}{b:BI}(v:VX Γ CL k W T X)(h:RJ T (Bg n) x ops ys b as=Ab):SB X CL W (.Compare x ops ys pos) (fun ρ=>(top ρ (.bi b as) (evE Γ ρ (.bi b as))).bind BM):=by
 exact absurd (show Ad=Ab from h) Ah
theorem xI(S:Snd Γ CL k n)(W:XW)(T:Tc)(X:Cx)(x:An)(c:E)(v:VX Γ CL k W T X)(h:Io (n+1) T x c=Ab):SB X CL W x (fun ρ=>(top ρ c (evE Γ ρ c)).bind BM):=by
 have plain:∀ e,IF e=Ab->Bg n T e c=Ab->SB X CL W e (fun ρ=>(top ρ c (evE Γ ρ c)).bind BM):=fun e h1 h2=>WR (S.e W T X e c v h2).st (Vp h1)
 replace h:((Jb x fun o x=>decide (o=.Not)&&(LS c fun a=>Io n T x a))||(Ii x fun o xs _=>(decide (o=.And)&&(Lw c fun es=>chkBs n T xs es && !xs.isEmpty))||(decide (o=.Or)&&(LR c fun es=>chkBs n T xs es && !xs.isEmpty)))||(Lu x fun x os ys=>(Oq c fun op a b=>EE os fun op'=>EE ys fun y=>decide (op'=op) && !behindInMarks op y&&Bg n T x a&&Bg n T y b)||(Os c fun op1 op2 a b c=>He os fun o1 o2=>He ys fun y z=>decide (o1=op1)&&decide (o2=op2) && !lastMarks [op1,op2] [y,z]&&Bg n T x a&&Bg n T y b&&Bg n T z c)||(Ot c fun b as=>RJ T (Bg n) x os ys b as))||IF x&&Bg n T x c)=Ab:=h
 replace h:=(orT h).imp_left fun z=>(orT z).imp_left orT
 rcases h with ((h|h)|h)|h
 ·replace h:=MB h;obtain⟨o,y,p,rfl,h⟩:=h;replace h:=Cn h;obtain⟨h0,h⟩:=h;obtain rfl:=AR h0;replace h:=U8 h;obtain⟨a,rfl,h⟩:=h
  ·skip
   refine SB.ref (WS (S.b W T X _ a v h)) fun ρ=>?_
   show ((top ρ a (evE Γ ρ a)).bind fun x=>(Du x).bind fun b=>.ok (.bl (!b))).bind BM=.bad\/((top ρ a (evE Γ ρ a)).bind fun x=>(Du x).bind fun b=>.ok (.bl (!b))).bind BM=_
   cases top ρ a (evE Γ ρ a) with
   |bad=>exact .inl rfl
   |exn x=>exact .inr rfl
   |ok d=>cases d<;>first|exact .inr rfl|exact .inl rfl
 ·replace h:=K8 h;obtain⟨o,ys,p,rfl,h⟩:=h;replace h:=orT h;rcases h with h|h
  ·replace h:=Cn h;obtain⟨h0,h⟩:=h;obtain rfl:=AR h0;replace h:=UF h;obtain⟨es,rfl,h⟩:=h;simp only[Aj,Bt,CI]at h;exact(S.bs W T X _ _ _ v h.1 h.2).1.sb
  ·replace h:=Cn h;obtain⟨h0,h⟩:=h;obtain rfl:=AR h0;replace h:=U7 h;obtain⟨es,rfl,h⟩:=h;simp only[Aj,Bt,CI]at h;exact(S.bs W T X _ _ _ v h.1 h.2).2.sb
 ·replace h:=Qj h;obtain⟨w,os,ys,p,rfl,h⟩:=h;replace h:=(orT h).imp_left orT;rcases h with (h|h)|h
  ·replace h:=jZ h;obtain⟨op,a,b,rfl,h⟩:=h;replace h:=Fv h;obtain⟨op',rfl,h⟩:=h;replace h:=Fv h;obtain⟨y,rfl,h⟩:=h
   ·simp only[Aj,Bt,AZ]at h;obtain⟨⟨⟨rfl,h1⟩,h2⟩,h3⟩:=h;refine SB.ref (tR (Le v.room.units _) (S.e W T X _ a v h2).st (S.e W T X _ b v h3).st h1) fun ρ=>?_
    show ((top ρ a (evE Γ ρ a)).bind fun x=>(top ρ b (evE Γ ρ b)).bind fun y=>BX op' x y).bind BM=.bad\/((top ρ a (evE Γ ρ a)).bind fun x=>(top ρ b (evE Γ ρ b)).bind fun y=>BX op' x y).bind BM=_
    cases top ρ a (evE Γ ρ a) with
    |bad=>exact .inl rfl
    |exn x=>exact .inr rfl
    |ok d=>
     cases top ρ b (evE Γ ρ b) with
     |bad=>exact .inl rfl
     |exn x=>exact .inr rfl
     |ok d'=>
      dsimp only[R.bind];exact VJ _ d d'
  ·replace h:=kA h;obtain⟨op1,op2,a,b,c,rfl,h⟩:=h;replace h:=II h;obtain⟨o1,o2,rfl,h⟩:=h;replace h:=II h;obtain⟨y,z,rfl,h⟩:=h
   ·simp only[Aj,Bt,AZ]at h;obtain⟨⟨⟨⟨⟨rfl,rfl⟩,h1⟩,h2⟩,h3⟩,h4⟩:=h;refine SB.ref (hR v.room.units (S.e W T X _ a v h2).st (S.e W T X _ b v h3).st (S.e W T X _ c v h4).st h1) fun ρ=>?_
    show ((top ρ a (evE Γ ρ a)).bind fun x=>(top ρ b (evE Γ ρ b)).bind fun y=>(BX o1 x y).bind fun z=>(Du z).bind fun k=>if k=Ab then (top ρ c (evE Γ ρ c)).bind fun u=>BX o2 y u else .ok (.bl Ad)).bind BM=.bad\/((top ρ a (evE Γ ρ a)).bind fun x=>(top ρ b (evE Γ ρ b)).bind fun y=>(BX o1 x y).bind fun z=>(Du z).bind fun k=>if k=Ab then (top ρ c (evE Γ ρ c)).bind fun u=>BX o2 y u else .ok (.bl Ad)).bind BM=_
    cases top ρ a (evE Γ ρ a) with
    |bad=>exact .inl rfl
    |exn x=>exact .inr rfl
    |ok d=>
     cases top ρ b (evE Γ ρ b) with
     |bad=>exact .inl rfl
     |exn x=>exact .inr rfl
     |ok d'=>
      dsimp only[R.bind];cases BX o1 d d' with
      |bad=>exact .inl rfl
      |exn x=>exact .inr rfl
      |ok d3=>
       cases d3 with
       |bl k=>
        cases k with
        |false=>exact .inr rfl
        |true=>
         dsimp only[R.bind,Du];rw[AA rfl,AA rfl];cases top ρ c (evE Γ ρ c) with
         |bad=>exact .inl rfl
         |exn x=>exact .inr rfl
         |ok d4=>exact VJ _ d' d4
       |_=>exact .inl rfl
  ·replace h:=kB h;obtain⟨b,as,rfl,h⟩:=h;exact mJ S v h
 ·exact plain _ (Cn h).1 (Cn h).2
end
section
variable{Γ:Gam}{CL:ClA}{W:XW}{k n:Ag}{T:Tc}{X:Cx}
theorem bz{b:BI}{x:An}(v:VX Γ CL k W T X)(hb:Rs b=Aa g)(hg:isB T g=Ab)(hs:SAT X CL W (x::xs) (fun ρ=>evB Γ ρ as))(h0:Dt x=Ab)(hpl:∀ pos,(BN pos (Av xs X.env)).any (·.1)=Ad):OkE Γ CL W X (.Call (.Name g p) (x::xs) [] pos) (.bi b as):=by
 obtain⟨g1,g2,g3,g4⟩:=GJ v hg;cases b<;>simp only[Rs]at hb<;>cases hb
 ·exact EC (N8 vS g1 g2 PySem.boot_len hs g3 g4 (Cw h0) hpl) (fun _ _=>rfl) rfl rfl
 ·exact EC (N8 (vR v.calm) g1 g2 PyProof.Rows.boot_min hs g3 g4 (Cw h0) hpl) (fun _ _=>rfl) rfl rfl
 ·exact EC (WP vT g1 g2 Yz hs g3 g4 (Cw h0) hpl) (fun _ _=>rfl) rfl rfl
 ·exact N4 (qY pB g1 g2 FV hs g3 g4 (Cw h0) hpl) (fun _ _=>rfl) rfl
 ·exact EC (WP iU g1 g2 YA hs g3 g4 (Cw h0) hpl) (fun _ _=>rfl) rfl rfl
 ·exact EC (N8 (vU v.calm) g1 g2 PyProof.Rows.boot_any hs g3 g4 (Cw h0) hpl) (fun _ _=>rfl) rfl rfl
 ·exact EC (N8 (wQ v.calm) g1 g2 PyProof.Rows.boot_sum hs g3 g4 (Cw h0) hpl) (fun _ _=>rfl) rfl rfl
theorem MJ{l:Ac (Ai×Ag)}(h:inX l g c=Ab):(g,c)∈l:=by
 unfold inX at h;simp only[EH,Aj,AT]at h;obtain⟨p,hp,rfl,rfl⟩:=h;exact hp
theorem K2{x:An}{es:Es}(h:chkEs n T (x::xs) es=Ab):Dt x=Ab/\∃ e es',es=.cons e es'/\∃ m,n=m+1/\chkEs m T xs es'=Ab:=by
 cases n with
 |zero=>exact absurd (show Ad=Ab from h) Ah
 |succ m=>
  cases es with
  |nil=>exact absurd (show Ad=Ab from h) Ah
  |cons e es=>
   replace h:(Dt x&&Bg m T x e&&chkEs m T xs es)=Ab:=h;simp only[Aj]at h;exact⟨h.1.1,e,es,rfl,m,rfl,h.2⟩
theorem Mh:∀(m:Ag)(xs:Ac An)(es:Es),chkEs m T xs es=Ab->∀ pos,(BN pos (Av xs X.env)).any (·.1)=Ad:=by
 intro m
 induction m with
 |zero=>intro xs es h;exact absurd (show Ad=Ab from h) Ah
 |succ m ih=>
  intro xs es h pos;cases xs with
  |nil=>rfl
  |cons x xs=>
   obtain⟨h0,e,es',rfl,m',e1,h1⟩:=K2 h;cases e1;exact Tg h0 (ih xs es' h1 pos)
theorem tW(S:Snd Γ CL k n){x:An}{b:BI}(v:VX Γ CL k W T X)(h:(match R0 as with|some a=>(match Si x with|some y=>decide (b=.rvs)&&Bg n T y a|none=>Ad)|none=>Ad)=Ab):OkE Γ CL W X x (.bi b as):=by
 simp[R0]at h
theorem rJ(S:Snd Γ CL k n){x:An}{b:BI}(v:VX Γ CL k W T X)(h:(match Rv as with|some (a,c)=>(match SM x with|some (y,z,_)=>decide (b=.tlt) && !behindInMarks .Lt z&&Bg n T y a&&Bg n T z c|none=>Ad)|none=>Ad)=Ab):OkE Γ CL W X x (.bi b as):=by
 simp[Rv]at h
theorem wF{x:An}{b:BI}(v:VX Γ CL k W T X)(h:SJ T x b as=Ab):OkE Γ CL W X x (.bi b as):=by
 exact absurd h Ah
theorem rL(S:Snd Γ CL k n){x:An}{b:BI}(v:VX Γ CL k W T X)(h:(match Rx as with|some (a,k)=>(match Sf x with|some (y,j)=>decide (b=.stp)&&decide (j=k)&&decide (0<=k)&&Bg n T y a|none=>Ad)|none=>Ad)=Ab):OkE Γ CL W X x (.bi b as):=by
 simp[Rx]at h
theorem uE(S:Snd Γ CL k n){x:An}{b:BI}(v:VX Γ CL k W T X)(h:(match M1 as with|some (a,c)=>(match M3 x with|some (g,h,y,z)=>decide (b=.list)&&g==("list" : Ai)&&h==("range" : Ai)&&isB T g&&isB T h&&Dt y&&Dt z&&Bg n T y a&&Bg n T z c|none=>Ad)|none=>Ad)=Ab):OkE Γ CL W X x (.bi b as):=by
 cases q1:M1 as with
 |none=>rw[q1]at h;cases h
 |some t1=>
  obtain⟨a,c⟩:=t1;cases q2:M3 x with
  |none=>rw[q1,q2]at h;cases h
  |some t2=>
   obtain⟨g,f,y,z⟩:=t2;rw[q1,q2]at h;simp only[Aj,AT,AZ]at h;obtain⟨⟨⟨⟨⟨⟨⟨⟨rfl,rfl⟩,rfl⟩,h1⟩,h2⟩,h3⟩,h4⟩,h5⟩,h6⟩:=h;obtain⟨p,p',pos,pos',rfl⟩:=nJ q2;have e:=iY q1;subst e;obtain⟨g1,g2,_,_⟩:=GJ v h1;obtain⟨g3,g4,_,_⟩:=GJ v h2;refine N4 (SC.congr (qX (S.e W T X _ a v h5).st (S.e W T X _ c v h6).st v.calm g1 g2 g3 g4 (by rw[Cw h3,Cw h4];rfl) (by rw[Cw h4];rfl)) fun ρ=>?_) (fun _ _=>rfl) rfl
   simp only[Q3,evB,jO,P7,gP,R.bind_assoc,R.bind_ok,SX,uF]
theorem nI(S:Snd Γ CL k n){x:An}{b:BI}(v:VX Γ CL k W T X)(h:(match M0 as with|some a=>(match M7 x with|some (g,h,y)=>decide (b=.lset)&&g==("len" : Ai)&&h==("set" : Ai)&&isB T g&&isB T h&&Dt y&&Bg n T y a|none=>Ad)|none=>Ad)=Ab):OkE Γ CL W X x (.bi b as):=by
 cases q1:M0 as with
 |none=>rw[q1]at h;cases h
 |some a=>
  cases q2:M7 x with
  |none=>rw[q1,q2]at h;cases h
  |some t2=>
   obtain⟨g,f,y⟩:=t2;rw[q1,q2]at h;simp only[Aj,AT,AZ]at h;obtain⟨⟨⟨⟨⟨⟨rfl,rfl⟩,rfl⟩,h1⟩,h2⟩,h3⟩,h4⟩:=h;obtain⟨p,p',pos,pos',rfl⟩:=nG q2;have e:=iX q1;subst e;obtain⟨g1,g2,_,_⟩:=GJ v h1;obtain⟨g3,g4,_,_⟩:=GJ v h2;refine EC (SE.congr (lL (S.e W T X _ a v h4).st v.room.units v.calm g1 g2 g3 g4 (by rw[Cw h3];rfl)) fun ρ=>?_) (fun _ _=>rfl) rfl rfl
   simp only[Q3,evB,R.bind_assoc,R.bind_ok]
theorem xH(S:Snd Γ CL k n)(W:XW)(T:Tc)(X:Cx)(x:An)(c:E)(v:VX Γ CL k W T X)(h:Bg (n+1) T x c=Ab):OkE Γ CL W X x c:=by
 cases c with
 |non=>
  replace h:=K7 h;obtain⟨c,u,p,rfl,h⟩:=h;obtain rfl:=AR h;exact EC tI (fun _ _=>rfl) rfl rfl
 |bl b=>
  replace h:=K7 h;obtain⟨c,u,p,rfl,h⟩:=h;obtain rfl:=AR h;exact EC Xe (fun _ _=>rfl) rfl rfl
 |int i=>
  replace h:=K7 h;obtain⟨c,u,p,rfl,h⟩:=h;obtain rfl:=AR h;exact EC tO (fun _ _=>rfl) rfl rfl
 |str i=>
  replace h:=K7 h;obtain⟨c,u,p,rfl,h⟩:=h;obtain rfl:=AR h;exact EC WN (fun _ _=>rfl) rfl rfl
 |var i=>
  replace h:=Fx h;obtain⟨y,p,rfl,h⟩:=h;exact⟨WL (G9 v h),Kj (G9 v h),fun z=>(nomatch z),fun z=>(nomatch z)⟩
 |glob g=>exact absurd (show Ad=Ab from h) Ah
 |bin op a b=>
  replace h:=UD h;obtain⟨y,op',z,p,rfl,h⟩:=h;simp only[Aj,AZ]at h;obtain⟨⟨rfl,h1⟩,h2⟩:=h;have ha:=(S.e W T X _ a v h1).st;have hb:=(S.e W T X _ b v h2).st;refine⟨QO (Qy _) ha hb,(QO (Qy _) ha hb).st,fun z=>?_,fun z=>nomatch z⟩
  cases op'<;>first|exact tE ha hb|cases z
 |un op a=>
  replace h:=MB h;obtain⟨o,y,p,rfl,h⟩:=h;replace h:=Cn h;obtain⟨h0,h⟩:=h;obtain rfl:=AR h0;simp only[Aj,AZ]at h;obtain⟨rfl,h1⟩:=h;exact EC (tJ (S.e W T X _ a v h1).st) (fun _ _=>rfl) rfl rfl
 |no a=>
  replace h:=MB h;obtain⟨o,y,p,rfl,h⟩:=h;replace h:=Cn h;obtain⟨h0,h⟩:=h;obtain rfl:=AR h0;exact EC (WO (S.e W T X _ a v h).st) (fun _ _=>rfl) rfl rfl
 |and es=>
  replace h:=K8 h;obtain⟨o,ys,p,rfl,h⟩:=h;replace h:=Cn h;obtain⟨h0,h⟩:=h;obtain rfl:=AR h0;simp only[Aj,Bt,CI]at h;exact EC ((S.es W T X _ es v h.1).2.2.2.1 _ h.2).1 (fun _ _=>rfl) rfl rfl
 |or es=>
  replace h:=K8 h;obtain⟨o,ys,p,rfl,h⟩:=h;replace h:=Cn h;obtain⟨h0,h⟩:=h;obtain rfl:=AR h0;simp only[Aj,Bt,CI]at h;exact EC ((S.es W T X _ es v h.1).2.2.2.1 _ h.2).2 (fun _ _=>rfl) rfl rfl
 |cmp op a b=>
  replace h:=Qj h;obtain⟨y,os,ys,p,rfl,h⟩:=h;replace h:=Fv h;obtain⟨op',rfl,h⟩:=h;replace h:=Fv h;obtain⟨z,rfl,h⟩:=h;simp only[Aj,Bt,AZ]at h;obtain⟨⟨⟨rfl,h1⟩,h2⟩,h3⟩:=h;exact EC (tQ (Le v.room.units _) (S.e W T X _ a v h2).st (S.e W T X _ b v h3).st h1) (fun _ _=>rfl) rfl rfl
 |cmp2 op1 op2 a b c=>
  replace h:=Qj h;obtain⟨y,os,ys,p,rfl,h⟩:=h;replace h:=II h;obtain⟨o1,o2,rfl,h⟩:=h;replace h:=II h;obtain⟨z,w,rfl,h⟩:=h;simp only[Aj,Bt,AZ]at h;obtain⟨⟨⟨⟨⟨rfl,rfl⟩,h1⟩,h2⟩,h3⟩,h4⟩:=h;exact EC (gZ v.room.units (S.e W T X _ a v h2).st (S.e W T X _ b v h3).st (S.e W T X _ c v h4).st h1) (fun _ _=>rfl) rfl rfl
 |ite c a b=>exact absurd (show Ad=Ab from h) Ah
 |call f as=>
  replace h:=NA h;obtain⟨g,pp,y,ys,qq,rfl,h⟩:=h;simp only[Aj,EH,AT,AZ]at h;obtain⟨⟨⟨⟨⟨p,hp,⟨rfl,rfl⟩,hl⟩,h900⟩,h1⟩,h2⟩,h3⟩:=h;obtain⟨fa,fd,ps,m1,m2,m3,m4,m5,_⟩:=v.fn p hp;have hlt:p.2.2<1000:=by omega
  rw[Hv hlt]at m4 m5;have m5:=m5 hlt;obtain⟨n2,n3,n4⟩:=HE h2;obtain⟨a1,a2,a3,a4,a5⟩:=S.es W T X _ as v h3;obtain⟨s0,e,es',rfl,m,rfl,s1⟩:=K2 h3;have q:SC X CL W (Γ.fr p.2.1) (.Call (.Name p.1 pp) (y::ys) [] qq) (fun ρ=>evE Γ ρ (.call p.2.1 (.cons e es'))):=lN (sh:=fun ρ=>HL ρ (.cons e es')) m5 v.room (by unfold glB at h1;show X.env.scope.names.lookup p.1=_;rw[v.sc];exact eq_of_beq h1) m1 m2 m3 v.px a1 a2 (fun ρ z=>MK Γ ρ _ z) (fun ρ ds z=>by rw[Mv Γ ρ _ _ z,<-a3,hl];rfl) n2 (Cw s0) (Mh m ys es' s1)
  exact⟨q.se,q.se.st,fun z=>by
   have z':Γ.fr p.2.1=Ab:=z;rw[z']at q;exact q,fun z=>nomatch z⟩
 |bi b as=>
  unfold Bg at h;dsimp only at h;simp only[CG]at h;rcases h with (((((h|h)|h)|h)|h)|h)|h
  ·replace h:=NA h;obtain⟨g,pp,y,ys,qq,rfl,h⟩:=h;simp only[Aj,AT]at h;obtain⟨⟨h1,h2⟩,h3⟩:=h;obtain⟨s0,e,es',rfl,m,rfl,s1⟩:=K2 h3;exact bz v h1 h2 (S.es W T X _ _ v h3).2.1 s0 (Mh m _ es' s1)
  ·exact wF v h
  ·exact uE S v h
  ·exact rL S v h
  ·exact nI S v h
  ·exact rJ S v h
  ·exact tW S v h
 |isi a ks=>
  replace h:=Fv h;obtain⟨k',rfl,h⟩:=h;replace h:=Ju h;obtain⟨g,pp,l,qq,rfl,h⟩:=h;replace h:=II h;obtain⟨y,t,rfl,h⟩:=h;replace h:=Fx h;obtain⟨t,pt,rfl,h⟩:=h;simp only[Aj,AT]at h;obtain⟨⟨⟨⟨⟨rfl,h1⟩,h2⟩,h3⟩,h4⟩,h5⟩:=h;obtain⟨g1,g2,_,_⟩:=GJ v h1;obtain⟨b1,b2,b3,b4⟩:=GJ v h3;obtain⟨ty,t1,t2⟩:=bw h2;exact EC (tM t1 g1 g2 b1 b2 t2 b3 b4 (S.e W T X _ a v h5).st (Cw h4)) (fun _ _=>rfl) rfl rfl
 |idx a i=>
  replace h:=Qg h;obtain⟨y,z,p,rfl,h⟩:=h;simp only[Aj]at h;obtain⟨⟨h1,h2⟩,h3⟩:=h;exact EC (tP (gY h1) (S.e W T X _ a v h2).st (S.e W T X _ i v h3).st) (fun _ _=>rfl) rfl rfl
 |sl a lo hi=>
  replace h:=Qg h;obtain⟨y,s,p,rfl,h⟩:=h;replace h:=jW h;obtain⟨l,u,st,p',rfl,h⟩:=h;replace h:=Cn h;obtain⟨h0,h⟩:=h;obtain rfl:=Yx.mp h0;simp only[Aj]at h;obtain⟨⟨h1,h2⟩,h3⟩:=h;refine N4 (SC.congr (wS (S.e W T X _ a v h1).st (S.o W T X _ lo v h2) (S.o W T X _ hi v h3)) fun ρ=>?_) (fun _ _=>rfl) rfl
  show ((top ρ a (evE Γ ρ a)).bind fun x=>(top ρ lo (evE Γ ρ lo)).bind fun l=>(slE lo l).bind fun l'=>(top ρ hi (evE Γ ρ hi)).bind fun h=>(slE hi h).bind fun h'=>slD x l' h')=_
  simp only[R.bind_assoc]
 |tup es=>
  replace h:=K6 h;obtain⟨ys,cc,p,rfl,h⟩:=h;simp only[Aj,AZ]at h;have q:=S.es W T X _ es v h.1;exact EC (WM q.1 fun ρ ds z=>by rw[J8 Γ ρ _ _ z,<-q.2.2.1];omega) (fun _ _=>rfl) rfl rfl
 |lst es=>
  replace h:=Qh h;obtain⟨ys,p,rfl,h⟩:=h;simp only[Aj,AZ]at h;have q:=S.es W T X _ es v h.1;exact N4 (QM q.1 fun ρ ds z=>by rw[J8 Γ ρ _ _ z,<-q.2.2.1];omega) (fun _ _=>rfl) rfl
 |comp elt t it c=>
  replace h:=VM (e:=x) (F:=_) (by unfold Bg at h;exact h)
  obtain⟨y,tg,it',ifs,scope,p,rfl,h⟩:=h;replace h:=Fx h;obtain⟨w,pw,rfl,h⟩:=h;simp only[Aj]at h;obtain⟨⟨⟨⟨⟨h1,h2⟩,h3⟩,h4⟩,h5⟩,h6⟩:=h;refine Xr v.calm ⟨_,_,_,_,_,_,_,_,_,_,_,_,_,rfl,(Q0 v h3).1,S.i W T X Ad _ _ it v rfl h1,qE t,fun cl C s H fp=>mK (v.blk h3) (fun z=>AT.mpr z) h4,fun cl C s H fp=>S.t _ _ _ c (v.blk h3) h5,fun cl C s H fp=>(S.e W0 _ _ _ elt (v.blk h3) h6).se,N7 h2,fun ρ=>rfl⟩ (fun _ _=>rfl)
 |compT elt ts it c=>
  replace h:=VM (e:=x) (F:=_) (by unfold Bg at h;exact h)
  obtain⟨y,tg,it',ifs,scope,p,rfl,h⟩:=h;replace h:=K6 h;obtain⟨ys,cc,pw,rfl,h⟩:=h;simp only[Aj]at h;obtain⟨⟨⟨⟨⟨⟨h0,h1⟩,h2⟩,h3⟩,h4⟩,h5⟩,h6⟩:=h;refine Xr v.calm ⟨_,_,_,_,_,_,_,_,_,_,_,_,_,rfl,(Q0 v h3).1,S.i W T X Ab _ _ it v rfl h1,uV ts,fun cl C s H fp=>mO (v.blk h3) h0 h4,fun cl C s H fp=>S.t _ _ _ c (v.blk h3) h5,fun cl C s H fp=>(S.e W0 _ _ _ elt (v.blk h3) h6).se,N7 h2,fun ρ=>rfl⟩ (fun _ _=>rfl)
 |tupI it=>exact absurd (show Ad=Ab from h) Ah
 |dnew=>exact absurd (show Ad=Ab from h) Ah
 |fld o f=>exact absurd (show Ad=Ab from h) Ah
theorem snd:∀ n,Snd Γ CL k n
 |0=>gX
 |n+1=>⟨xH (snd n),xI (snd n),rO (snd n),rN (snd n),xF (snd n),xD (snd n),xG (snd n)⟩
end
section
variable{Γ:Gam}{CL:ClA}{W:XW}{k n:Ag}{T:Tc}{X:Cx}
theorem mM{t:Ag}(v:VX Γ CL k W T X)(hf:∀ x,X.fn x=Ab)(h:tgC T [t] [x]=Ab):PG X (.Name x pos) (E8 t):=by
 unfold tgC at h;simp only[Aj,AT]at h;exact MA (by rw[v.N];exact v.nd) (by rw[v.N];exact h.1.1) (by rw[v.sc];exact Lg h.1.2) (.inl (hf x))
theorem Vo(v:VX Γ CL k W T X)(hf:∀ x,X.fn x=Ab):∀(ys:Ac An)(ts:Ac Ag)(zs:Ac Ai),E6 ys=Aa zs->tgC T ts zs=Ab->PGs X ys (ts.foldr (fun t u=>HK (E8 t) u) HQ)/\ts.length=ys.length:=by
 intro ys
 induction ys with
 |nil=>
  intro ts zs e h;cases e;cases ts with
  |nil=>exact⟨Qx,rfl⟩
  |cons t ts=>cases h
 |cons y r ih=>
  intro ts zs e h;obtain⟨x,p,ws,rfl,e2,rfl⟩:=Pk e;cases ts with
  |nil=>cases h
  |cons t ts=>
   have h':(T.N[t]? == Aa x&&Jd T x&&tgC T ts ws)=Ab:=h;simp only[Aj,AT]at h';obtain⟨h1,h2⟩:=ih ts ws e2 h'.2;exact⟨Nx (MA (by rw[v.N];exact v.nd) (by rw[v.N];exact h'.1.1) (by rw[v.sc];exact Lg h'.1.2) (.inl (hf x))) h1 (by rw[Pw];rfl),congrArg (· + 1) h2⟩
theorem mL(v:VX Γ CL k W T X)(hf:∀ x,X.fn x=Ab)(hn:(E6 ys).isSome=Ab)(h:tgC T ts (tgN ys)=Ab):PG X (.Tuple ys kk pos) (LU X.K ts.length (ts.foldr (fun t u=>HK (E8 t) u) HQ)):=by
 cases e:E6 ys with
 |none=>rw[e]at hn;cases hn
 |some zs=>
  have e2:tgN ys=zs:=by unfold tgN;rw[e];rfl
  rw[e2]at h;obtain⟨h1,h2⟩:=Vo v hf ys ts zs e h;obtain⟨h3,h4,_⟩:=Pj (env:=X.env) ys zs e;exact NZ v.calm h1 (by rw[h3,h2]) h4
theorem rK(v:VX Γ CL k W T X)(hf:∀ x,X.fn x=Ab)(hn:(E6 ys).isSome=Ab)(h:tgC T ts (tgN ys)=Ab):PG X (.Tuple ys kk pos) (gSq X.K ts.length (ts.foldr (fun t u=>HK (E8 t) u) HQ)):=by
 cases e:E6 ys with
 |none=>rw[e]at hn;cases hn
 |some zs=>
  have e2:tgN ys=zs:=by unfold tgN;rw[e];rfl
  rw[e2]at h;obtain⟨h1,h2⟩:=Vo v hf ys ts zs e h;obtain⟨h3,h4,_⟩:=Pj (env:=X.env) ys zs e;exact ao v.calm h1 (by rw[h3,h2]) h4
theorem rG{e:An}(h:(Xs e||CZ 4 ys.length)=Ab):DL [.Tuple ys kk pos] e env=pure Ae:=by
 cases e with
 |Tuple vs a b=>
  have h4:=Dg (show CZ 4 ys.length=Ab from h)
  have e2:(ys.length==2)=Ad:=by rw[Dx];omega
  have e3:(ys.length==3)=Ad:=by rw[Dx];omega
  unfold DL;dsimp only;rw[e2,e3];rfl
 |_=>rfl
theorem TF(ts:Ac Ag):∀ d ρ x,Gw ts d ρ≠.exn x:=fun d ρ x h=>by
 unfold Gw at h;cases d with
 |tup xs=>
  dsimp only at h;cases e:EK ts xs ρ with
  |some r=>rw[e]at h;cases h
  |none=>rw[e]at h;cases h
 |_=>cases h
theorem iK(ts:Ac Ag):∀ d ρ x,Hb ts d ρ≠.exn x:=fun d ρ x h=>by
 unfold Hb at h;split at h
 ·split at h<;>cases h
 ·exact TF ts _ ρ x h
theorem gS{elt:An}{gs:Ac Je}:∃ b,CW (.ListComp elt gs scope pos) (Aa (.Name x pos')) l env=pure b/\(b=Ab->env.scope.names.lookup x=Aa .local):=by
 refine⟨_,rfl,fun h=>?_⟩
 simp only[Aj,AT]at h;exact h.1.1.2
theorem QQ{v0:An}{i:Ag}{e:E}(v:VX Γ CL k W T X)(hf:∀ x,X.fn x=Ab)(hi:T.N[i]?=Aa x)(hl:Jd T x=Ab)(o:OkE Γ CL W X v0 e)(hfr:fr=Ab->DN Γ e=Ab):SAs X CL W fr i (.Assign [.Name x p] v0 pos) (fun ρ=>evE Γ ρ e):=by
 have hN:X.N.Nodup:=by rw[v.N];exact v.nd
 have hi':X.N[i]?=Aa x:=by rw[v.N];exact hi
 have hx:Loc X.env.scope x:=by rw[v.sc];exact Lg hl
 have sc:SC X CL W fr v0 (fun ρ=>evE Γ ρ e):=by
  cases fr with
  |false=>exact o.se.sc
  |true=>exact o.nw (hfr rfl)
 cases hc:Kl v0 with
 |true=>exact SC.sas hN hi' hx sc (Li hc) (.inl (hf x))
 |false=>
  obtain⟨tg,iter,elt,ifs,scope,pos2,N',ts,fi,fc,fe,as,g,rfl,B,h2,hGG,hg,ht,he,hs,ef⟩:=o.cp hc;obtain⟨b,hb,hb'⟩:=gS (elt:=elt) (gs:=[⟨tg,iter,ifs,0⟩]) (scope:=scope) (pos:=pos2) (pos':=p) (x:=x) (l:=pos.line) (env:=X.env);cases b with
  |false=>exact SC.sas hN hi' hx sc hb (.inl (hf x))
  |true=>
   have q:=hV (pos2:=pos) v.calm B h2 hGG hg ht he hs hN hi' (hb' rfl) hb;have q':SAs X CL W Ab i (.Assign [.Name x p] (.ListComp elt [⟨tg,iter,ifs,0⟩] scope pos2) pos) (fun ρ=>evE Γ ρ e):=by
    have:(fun ρ=>evE Γ ρ e)=_:=funext ef
    rw[this];exact q
   cases fr with
   |true=>exact q'
   | false=>exact fun A=>PS.weak (q' A) fun D σ H ⟨hA,ρ,gd,z⟩=>⟨hA,ρ,gd,by
     dsimp only at z ⊢;cases e0:evE Γ ρ e with
     |ok d=>
      rw[e0]at z;exact fun v' H' s' r'=>z v' H' s' ⟨r'.1,fun _=>r'.2 rfl⟩
     |exn y=>rw[e0]at z;exact z
     | bad=>rw[e0]at z;exact z⟩
theorem Qu{e t:An}(h:∀ x p,t≠.Name x p):F0 [t] e l env=pure Ad:=by
 show CW e (Aa t) l env=pure Ad;cases e<;>first|rfl|(cases t<;>first|rfl|exact absurd rfl (h _ _))
theorem eQ{y x':Ai}{p2 p3 p4 p5 p6 tp p' q1:AG}{kt q0:Ag}{o a o' a':An}:DL [.Tuple [.Subscript (.Name x p1) (.Name y p2) p3,.Subscript (.Name x' p4) (.Name z p5) p6] kt tp] (.Tuple [.Subscript o a p,.Subscript o' a' p'] q0 q1) env=pure Ae:=by
 unfold DL;cases env.blockKind<;>rfl
theorem Ub(ρ:Rho)(e:E)(h:∀ i,e≠.var i):evS Γ ρ (.ret e)=O.of ρ (evE Γ ρ e) fun d=>.ret d (DN Γ e):=by
 cases e<;>first|exact absurd rfl (h _)|(simp only[evS,top,G4])
structure DefX (X:Cx):Prop where
 fn:∀ x,X.fn x=Ab
 ex:X.ex=[]
 st:X.stack=X.env::X.outer
 fm:X.env.frame=Aa X.env.locals
structure SndS (Γ:Gam) (CL:ClA) (k:Ag) (n:Ag):Prop where
 s:∀(W:XW)(T:Tc)(X:Cx)(x:AQ)(c:S),VX Γ CL k W T X->DefX X->LV n T x c=Ab->SS X CL W x (fun ρ=>evS Γ ρ c)
 ss:∀(W:XW)(T:Tc)(X:Cx)(x:Ac AQ)(c:Ss),VX Γ CL k W T X->DefX X->chkSs n T x c=Ab->SSs X CL W x (fun ρ=>evSs Γ ρ c)
theorem mY(x y:D)(e:Ex):Bx x y≠.exn e:=by
 intro z;cases x with
 |lst xs=>cases y<;>first|exact NG z|cases z
 |tup xs=>cases y<;>first|exact NG z|cases z
 |dic kvs=>
  have z':(match (Im y).bind (Q4 kvs) with|some d=>R.ok d|none=>.bad)=.exn e:=z
  cases h:(Im y).bind (Q4 kvs) with
  |none=>rw[h]at z';cases z'
  |some k=>rw[h]at z';cases z'
 |_=>cases z
theorem Vl{i:Ag}:Dc ρ i≠.exn y:=fun z'=>by
 unfold Dc at z';split at z'<;>cases z'
theorem Nv(Γ:Gam)(ρ:Rho)(e:E)(h:OH e=Ab)(y:Ex):top ρ e (evE Γ ρ e)≠.exn y:=by
 cases e with
 |var i=>
  intro z;have z':Dc ρ i=.exn y:=z;unfold Dc at z';split at z'<;>cases z'
 |idx a b=>
  cases a with
  |var i=>
   cases b with
   |int j=>
    intro z;have z':(Dc ρ i).bind (fun x=>Bx x (.int j))=.exn y:=z
    cases e1:Dc ρ i with
    |bad=>rw[e1]at z';cases z'
    |exn w=>exact Vl e1
    |ok d=>rw[e1]at z';exact mY _ _ _ z'
   |_=>exact absurd (show Ad=Ab from h) Ah
  |_=>exact absurd (show Ad=Ab from h) Ah
 |bin op a b=>
  have h:(Sh op&&RI a b)=Ab:=h;rw[Aj]at h;obtain⟨h0,h⟩:=h;cases op with
  |Sub=>
   cases a with
   |var i=>
    cases b with
    |int j=>
     intro z;have z':(Dc ρ i).bind (fun x=>C8 .Sub x (.int j))=.exn y:=z
     cases e1:Dc ρ i with
     |bad=>rw[e1]at z';cases z'
     |exn w=>exact Vl e1
     |ok d=>rw[e1]at z';cases d<;>cases z'
    |_=>exact absurd (show Ad=Ab from h) Ah
   |_=>exact absurd (show Ad=Ab from h) Ah
  |_=>exact absurd (show Ad=Ab from h0) Ah
 |int i=>intro z;cases z
 |bl i=>intro z;cases z
 |str i=>intro z;cases z
 |non=>intro z;cases z
 |_=>cases h
theorem PD(Γ:Gam)(ρ:Rho):∀(es:Es),JB es=Ab->∀ y,evB Γ ρ es≠.exn y
 |.nil,_,y=>fun z=>by cases z
 |.cons e es,h,y=>fun z=>by
  unfold JB at h;rw[Aj]at h;rw[P8]at z;cases e1:top ρ e (evE Γ ρ e) with
  |bad=>rw[e1]at z;cases z
  |exn w=>exact Nv Γ ρ e h.1 w e1
  |ok d=>
   rw[e1,R.bind_ok]at z;cases e2:evB Γ ρ es with
   |bad=>rw[e2]at z;cases z
   |exn w=>exact PD Γ ρ es h.2 w e2
   |ok ds=>rw[e2]at z;cases z
theorem VX.pw(v:VX Γ CL k W T X)(own:Fs (model X.prog X.w) X.A X.env Xw):VX Γ CL k W0 T (Cx.pw X pI Xw):=⟨v.sc,v.kd,v.N,v.nd,v.calm,v.room,v.bl,v.fn,own,QL,RT,v.xt,v.gl⟩
theorem Tu(o:O):(o.seq fun ρ'=>O.next ρ')=o:=by cases o<;>rfl
theorem STB.congr{st:Ac AQ}{f g:Rho->O}(h:STB X CL st f)(e:∀ ρ,g ρ=f ρ):STB X CL st g:=by
 have:g=f:=funext e;rw[this];exact h
theorem WD(Sn:Snd Γ CL k n)(v:VX Γ CL k W T X)(hf:DefX X){st:AQ}{s:S}(h:Ob n T st s=Ab):STB X CL [st] (fun ρ=>evSs Γ ρ (.cons s .nil))/\∀ ρ y ρ',evSs Γ ρ (.cons s .nil)=.exn y ρ'->ρ'=ρ:=by
 have seq:∀ ρ,evSs Γ ρ (.cons s .nil)=evS Γ ρ s:=fun ρ=>Tu _
 have ofn:∀{r:R D}{f:D->Rho}{ρ ρ':Rho}{y:Ex},(O.of ρ r fun d=>O.next (f d))=.exn y ρ'->ρ'=ρ:=fun {r f ρ ρ' y} z=>by
  cases r with
  |ok d=>cases z
  |exn w=>cases z;rfl
  |bad=>cases z
 have call:∀{e:An}{f:Ag}{as:Es},Bg n T e (.call f as)=Ab->JB as=Ab->∃ g pp y ys qq,e=.Call (.Name g pp) (y::ys) [] qq/\∃ p∈T.fns,g=p.1/\f=p.2.1/\p.2.2=ys.length+1/\ys.length<900/\glB T g=Ab/\GO g=Ab/\∃ m,n=m+1/\chkEs m T (y::ys) as=Ab:=fun {e f as} h _=>by
  cases n with
  |zero=>exact absurd (show Ad=Ab from h) Ah
  |succ m=>
   replace h:=NA h;obtain⟨g,pp,y,ys,qq,rfl,h⟩:=h;simp only[Aj,EH,AT,AZ]at h;obtain⟨⟨⟨⟨⟨p,hp,⟨e1,e2⟩,hl⟩,h900⟩,h1⟩,h2⟩,h3⟩:=h;exact⟨g,pp,y,ys,qq,rfl,p,hp,e1.symm,e2.symm,hl,h900,h1,h2,m,rfl,h3⟩
 cases s with
 |expr e0=>
  replace h:(Lv e0 fun f as=>Ls st fun v=>Bg n T v (.call f as)&&JB as)=Ab:=h
  replace h:=UC h;obtain⟨f,as,rfl,h⟩:=h;replace h:=Qi h;obtain⟨v0,pos,rfl,h⟩:=h;rw[Aj]at h;obtain⟨g,pp,y,ys,qq,rfl,p,hp,rfl,rfl,hl,h900,h1,h2,m,rfl,h3⟩:=call h.1 h.2;obtain⟨fa,fd,ps,m1,m2,m3,m4,m5,_⟩:=v.fn p hp;have hlt:p.2.2<1000:=by omega
  rw[Hv hlt]at m4 m5;have m5:=m5 hlt;obtain⟨n2,n3,n4⟩:=HE h2;obtain⟨s0,e,es',rfl,m',rfl,s1⟩:=K2 h3;have hlen:ys.length+1=(Es.cons e es').len:=(snd (Γ:=Γ) (CL:=CL) (k:=k) (m'+1)).es W T X _ _ v h3 |>.2.2.1;refine⟨STB.congr (gU (X:=X) (fs:=fun ρ=>evA Γ ρ (.cons e es')) (sh:=fun ρ=>HL ρ (.cons e es')) hf.ex m5 v.room (by unfold glB at h1;show X.env.scope.names.lookup p.1=_;rw[v.sc];exact eq_of_beq h1) m1 m2 m3 (fun ρ z=>MK Γ ρ _ z) (fun ρ ds z=>by rw[Mv Γ ρ _ _ z,<-hlen,hl]) (fun ρ=>PD Γ ρ _ h.2) n2 (Cw s0) (Mh m' ys es' s1) (fun pI Xw own=>by
   obtain⟨a1,a2,_⟩:=(snd (Γ:=Γ) (CL:=CL) (k:=k) (m'+1)).es W0 T (Cx.pw X pI Xw) _ _ (v.pw own) h3;exact⟨a1,a2⟩) (Li rfl)) fun ρ=>seq ρ,fun ρ y ρ' z=>?_⟩
  rw[seq]at z;exact ofn (f:=fun _=>ρ) z
 |asg i b0 e0=>
  replace h:(!b0&&(Lv e0 fun f as=>MU st fun y v=>T.N[i]? == Aa y&&Jd T y&&Bg n T v (.call f as)&&JB as))=Ab:=h
  replace h:=Cn h;obtain⟨hb,h⟩:=h;cases b0 with
  |true=>exact absurd (show Ad=Ab from hb) Ah
  |false=>
  replace h:=UC h;obtain⟨f,as,rfl,h⟩:=h;replace h:=PQ h;obtain⟨y0,p0,v0,pos,rfl,h⟩:=h;simp only[Aj,AT]at h;obtain⟨⟨⟨i1,i2⟩,hc⟩,hsim⟩:=h;obtain⟨g,pp,y,ys,qq,rfl,p,hp,rfl,rfl,hl,h900,h1,h2,m,rfl,h3⟩:=call hc hsim;obtain⟨fa,fd,ps,m1,m2,m3,m4,m5,_⟩:=v.fn p hp;have hlt:p.2.2<1000:=by omega
  rw[Hv hlt]at m4 m5;have m5:=m5 hlt;obtain⟨n2,n3,n4⟩:=HE h2;obtain⟨s0,e,es',rfl,m',rfl,s1⟩:=K2 h3;have hlen:ys.length+1=(Es.cons e es').len:=(snd (Γ:=Γ) (CL:=CL) (k:=k) (m'+1)).es W T X _ _ v h3 |>.2.2.1;refine⟨STB.congr (kX (X:=X) (fs:=fun ρ=>evA Γ ρ (.cons e es')) (sh:=fun ρ=>HL ρ (.cons e es')) (i:=i) hf.ex m5 v.room (by unfold glB at h1;show X.env.scope.names.lookup p.1=_;rw[v.sc];exact eq_of_beq h1) m1 m2 m3 (fun ρ z=>MK Γ ρ _ z) (fun ρ ds z=>by rw[Mv Γ ρ _ _ z,<-hlen,hl]) (fun ρ=>PD Γ ρ _ hsim) n2 (Cw s0) (Mh m' ys es' s1) (fun pI Xw own=>by
   obtain⟨a1,a2,_⟩:=(snd (Γ:=Γ) (CL:=CL) (k:=k) (m'+1)).es W0 T (Cx.pw X pI Xw) _ _ (v.pw own) h3;exact⟨a1,a2⟩) (by rw[v.N];exact v.nd) (by rw[v.N];exact i1) (by rw[v.sc];exact Lg i2) (.inl (hf.fn _)) (Li rfl)) fun ρ=>seq ρ,fun ρ y ρ' z=>?_⟩
  rw[seq]at z;exact ofn (f:=fun d=>ρ.set i (Aa (d,Ad))) z
 |_=>exact absurd (show Ad=Ab from h) Ah
theorem Lh{c:Prop}[Fm c]{e:Ex}:(if c then R.ok d else .bad)≠.exn e:=by
 by_cases h:c
 ·rw[AA h];intro z;cases z
 ·rw[AH h];intro z;cases z
theorem pE(op:C9)(x y:D)(e:Ex):BX op x y≠.exn e:=by
 cases op with
 |Eq=>exact Lh
 |NotEq=>exact Lh
 |In=>
  cases y with
  |lst ys=>exact Lh
  |tup ys=>exact Lh
  |dic kvs=>
   intro z;have z':(match Im x with|some k=>R.ok (D.bl (kvs.any fun p=>p.1==k))|none=>.bad)=.exn e:=z
   cases h:Im x with
   |none=>rw[h]at z';cases z'
   |some k=>rw[h]at z';cases z'
  |_=>intro z;cases z
 |NotIn=>
  cases y with
  |lst ys=>exact Lh
  |tup ys=>exact Lh
  |_=>intro z;cases z
 |_=>cases x<;>first|(intro z;cases z;done)|(cases y<;>(intro z;cases z))
theorem mI(x:D)(e:Ex):BM x≠.exn e:=by
 unfold BM;split<;>first|(intro z;cases z;done)|(split<;>intro z<;>cases z)
theorem UN(Γ:Gam)(ρ:Rho)(c:E)(h:RH c=Ab)(y:Ex):(top ρ c (evE Γ ρ c)).bind BM≠.exn y:=by
 have key:∀ e,top ρ c (evE Γ ρ c)≠.exn e:=by
  cases c with
  |var i=>exact Nv Γ ρ (.var i) rfl
  |cmp op a b=>
   unfold RH at h;rw[Aj]at h;intro e z;have z':((top ρ a (evE Γ ρ a)).bind fun x=>(top ρ b (evE Γ ρ b)).bind fun y=>BX op x y)=.exn e:=by
    have e0:evE Γ ρ (.cmp op a b)=((top ρ a (evE Γ ρ a)).bind fun x=>(top ρ b (evE Γ ρ b)).bind fun y=>BX op x y):=qN Γ ρ op a b
    rw[<-e0];exact z
   cases e1:top ρ a (evE Γ ρ a) with
   |bad=>rw[e1]at z';cases z'
   |exn w=>exact Nv Γ ρ a h.1 w e1
   |ok d=>
    rw[e1,R.bind_ok]at z';cases e2:top ρ b (evE Γ ρ b) with
    |bad=>rw[e2]at z';cases z'
    |exn w=>exact Nv Γ ρ b h.2 w e2
    |ok d2=>rw[e2,R.bind_ok]at z';exact pE _ _ _ _ z'
  |_=>cases h
 intro z;cases e1:top ρ c (evE Γ ρ c) with
 |bad=>rw[e1]at z;cases z
 |exn w=>exact key w e1
 |ok d=>rw[e1,R.bind_ok]at z;exact mI _ _ z
theorem wU(Sn:Snd Γ CL k n)(v:VX Γ CL k W T X)(hf:DefX X):∀(m:Ag){st:AQ}{s:S},Of m n T st s=Ab->STB X CL [st] (fun ρ=>evSs Γ ρ (.cons s .nil))/\∀ ρ y ρ',evSs Γ ρ (.cons s .nil)=.exn y ρ'->ρ'=ρ:=by
 intro m
 induction m with
 |zero=>intro st s h;exact WD Sn v hf h
 |succ m ih=>
  intro st s h;replace h:=orT (a:=Ob n T st s) (b:=Ww (Of m n T) n T st s) h;rcases h with h|h
  ·exact WD Sn v hf h
  ·cases s with
   |ife c a b=>
    replace h:=Uy h;obtain⟨a,rfl,h⟩:=h;replace h:=Uy h;obtain⟨b,rfl,h⟩:=h;replace h:=Qk h;obtain⟨t,xs,ys,pos,rfl,h⟩:=h;replace h:=Fv h;obtain⟨xs,rfl,h⟩:=h;replace h:=Fv h;obtain⟨ys,rfl,h⟩:=h;simp only[Aj]at h;obtain⟨⟨⟨h1,h2⟩,h3⟩,h4⟩:=h;obtain⟨a1,a2⟩:=ih h3;obtain⟨b1,b2⟩:=ih h4;have ev:∀ ρ,evSs Γ ρ (.cons (.ife c (.cons a .nil) (.cons b .nil)) .nil)=O.of ρ ((top ρ c (evE Γ ρ c)).bind BM) fun k=>if k=Ab then evSs Γ ρ (.cons a .nil) else evSs Γ ρ (.cons b .nil):=fun ρ=>Tu _
    refine⟨STB.congr (kW (fun pI Xw own=>(Sn.b W0 T (Cx.pw X pI Xw) _ _ (v.pw own) h1)) (fun ρ y=>UN Γ ρ c h2 y) a1 b1) fun ρ=>ev ρ,fun ρ y ρ' z=>?_⟩
    rw[ev]at z;cases e1:(top ρ c (evE Γ ρ c)).bind BM with
    |bad=>rw[e1]at z;cases z
    |exn w=>exact absurd e1 (UN Γ ρ c h2 w)
    |ok k=>
     rw[e1,O.of_ok]at z;cases k with
     |true=>exact a2 ρ y ρ' z
     |false=>exact b2 ρ y ρ' z
   |_=>exact absurd (show Ad=Ab from h) Ah
theorem Jx{i:Ag}{e:Am}(v:VX Γ CL k W T X)(h:isV T x i=Ab):PE (Cx.hot X e) (.Name x pos) (En i):=by
 unfold isV at h;simp only[Aj,AT]at h;obtain⟨h2,h3,_⟩:=HE h.2;exact N2 (by show X.N[i]?=_;rw[v.N];exact h.1.1) (by show Vis X.env.scope x;rw[v.sc];exact Vj h.1.2) h2 h3
theorem Q1{x:Ag}{t:An}{c:E}:∀{n:Ag},E9 n T x t c=Ab->∀ ρ r,top ρ c r=r:=fun {n} h=>by
 cases n with
 |zero=>exact absurd (show Ad=Ab from h) Ah
 |succ n=>
  cases c with
  |var i=>exact absurd (show Ad=Ab from h) Ah
  |_=>exact fun _ _=>rfl
theorem jT(v:VX Γ CL k W T X)(e:Am):∀(ts:Ac An)(ks:Ac Ki),Rz T ts ks=Ab->∃ cs:Ac (Ag×Am),ks=cs.map (fun q=>Ki.cls q.1)/\cs.length=ts.length/\PA (Cx.hot X e) ts (Se (cs.map fun q:Ag×Am=>q.2))/\∀ q∈cs,MF X.K CL Γ.up q.1 q.2:=by
 intro ts
 induction ts with
 |nil=>
  intro ks h;obtain rfl:=Ie h;exact⟨[],rfl,rfl,E7,fun q hq=>nomatch hq⟩
 |cons t ts ih=>
  intro ks h;replace h:=Jv h;obtain⟨kk,ks,rfl,h⟩:=h;replace h:=Fx h;obtain⟨t,p,rfl,h⟩:=h;replace h:=Cn h;obtain⟨h,h4⟩:=h;cases kk with
  |cls c=>
   replace h:(inX T.exs t c&&glB T t&&GO t)=Ab:=h;simp only[Aj]at h;obtain⟨⟨h1,h2⟩,h3⟩:=h;obtain⟨cs,e1,e2,e3,e4⟩:=ih ks h4;obtain⟨C,m1,m3,_⟩:=v.xt.ex _ (MJ h1);obtain⟨n2,_,_⟩:=HE h3;refine⟨(c,C)::cs,by rw[e1];rfl,by rw[Bk,Bk,e2],?_,fun q hq=>?_⟩
   ·exact DC (Vf (X:=Cx.hot X e) (v:=.ref C) (by unfold glB at h2;show X.env.scope.names.lookup t=_;rw[v.sc];exact eq_of_beq h2) m1 rfl n2) e3 rfl
   ·rcases Aw.mp hq with rfl|hq
    ·exact m3
    ·exact e4 q hq
  |_=>exact absurd (show Ad=Ab from h) Ah
theorem Ol{e:Am}{f:An->E->Ak}(ih:∀ t c,f t c=Ab->SE (Cx.hot X e) CL W0 t (fun ρ=>evE Γ ρ c)):∀(xs:Ac An)(es:Es),MQ f xs es=Ab->SA (Cx.hot X e) CL W0 xs (fun ρ=>evA Γ ρ es)/\xs.length=es.len
 |[],.nil,_=>⟨QR,rfl⟩
 |[],.cons _ _,h=>nomatch (show Ad=Ab from h)
 |_::_,.nil,h=>nomatch (show Ad=Ab from h)
 |x::xs,.cons c es,h=>by
  have h:(Dt x&&f x c&&MQ f xs es)=Ab:=h;simp only[Aj]at h;obtain⟨⟨h1,h2⟩,h3⟩:=h;obtain⟨q,l⟩:=Ol ih xs es h3;exact⟨Qv (ih x c h2) q (Cw h1),by rw[Bk,l];rfl⟩
theorem MS(v:VX Γ CL k W T X)(e:Am)(x:Ag):∀(n:Ag)(t:An)(c:E),E9 n T x t c=Ab->SE (Cx.hot X e) CL W0 t (fun ρ=>evE Γ ρ c):=by
 intro n
 induction n with
 |zero=>intro t c h;exact absurd (show Ad=Ab from h) Ah
 |succ n ih=>
  intro t c h;cases c with
  |bl b=>
   replace h:=K7 h;obtain⟨k,u,p,rfl,h⟩:=h;obtain rfl:=AR h;exact Xe
  |no a=>
   replace h:=MB h;obtain⟨o,y,p,rfl,h⟩:=h;replace h:=Cn h;obtain⟨h0,h⟩:=h;obtain rfl:=AR h0;have q:=(ih _ _ h).st;refine SE.congr (WO q) fun ρ=>?_
   show ((top ρ a (evE Γ ρ a)).bind fun x=>(Du x).bind fun b=>R.ok (D.bl (!b)))=_
   rw[Q1 h]
  |and es=>
   cases es with
   |nil=>exact absurd (show Ad=Ab from h) Ah
   |cons a as=>
    cases as with
    |nil=>
     replace h:=K8 h;obtain⟨o,l,p,rfl,h⟩:=h;replace h:=Cn h;obtain⟨h0,h⟩:=h;obtain rfl:=AR h0;replace h:=Fv h;obtain⟨y,rfl,h⟩:=h;exact SE.congr (QN (ih _ _ h)) fun ρ=>rfl
    |cons a' as=>
     replace h:=K8 h;obtain⟨o,l,p,rfl,h⟩:=h;replace h:=Cn h;obtain⟨h0,h⟩:=h;obtain rfl:=AR h0;replace h:=Jv h;obtain⟨y,l,rfl,h⟩:=h;replace h:=Jv h;obtain⟨z,zs,rfl,h⟩:=h;exact SE.congr (WQ (ih _ _ (Cn h).1) (ih _ _ (Cn h).2)) fun ρ=>rfl
  |isi a ks=>
   replace h:=Mq h;obtain⟨i,rfl,h⟩:=h;replace h:=mZ h;obtain⟨g,pp,w,pq,u,pr,rfl,h⟩:=h;simp only[Aj,AT]at h;obtain⟨⟨⟨⟨rfl,rfl⟩,h3⟩,h4⟩,h⟩:=h;obtain⟨g1,g2,_,_⟩:=GJ v h3;replace h:=Jv h;obtain⟨kk,ks,rfl,h⟩:=h;cases kk with
   |verr=>
    replace h:=Cn h;obtain⟨h0,h⟩:=h;obtain rfl:=Ie h0;replace h:=Fx h;obtain⟨t,pt,rfl,h⟩:=h;simp only[Aj,AT]at h;obtain⟨h5,h6⟩:=h;obtain⟨b1,b2,_,_⟩:=GJ v h6;rw[h5]at b1 b2 ⊢;exact tK (X:=Cx.hot X e) v.xt.xc g1 g2 b1 b2 (Kj (Jx v h4)) rfl
   |cls c=>
    cases ks with
    |nil=>
     replace h:=Fx h;obtain⟨t,pt,rfl,h⟩:=h;simp only[Aj]at h;obtain⟨⟨h5,h6⟩,h7⟩:=h;obtain⟨C,m1,m3,_⟩:=v.xt.ex _ (MJ h5);obtain⟨n2,_,_⟩:=HE h7;exact tN (X:=Cx.hot X e) v.xt.xc g1 g2 (by unfold glB at h6;show X.env.scope.names.lookup _=_;rw[v.sc];exact eq_of_beq h6) m1 m3 n2 (Kj (Jx v h4)) rfl
    |cons k2 ks=>
     replace h:=K6 h;obtain⟨ts,z1,z2,rfl,h⟩:=h;replace h:=Cn h;obtain⟨h5,h6⟩:=h;obtain⟨cs,e1,e2,e3,e4⟩:=jT v e _ _ h5;have hne:cs≠[]:=by rintro rfl;cases e1
     rw[e1];exact tL (X:=Cx.hot X e) (W:=W0) (up:=Γ.up) v.xt.xc g1 g2 e3 hne (by rw[e2];exact AR h6) e4 (Kj (Jx v h4)) rfl
   |_=>exact absurd (show Ad=Ab from h) Ah
  |call f as=>
   cases as with
   |nil=>exact absurd (show Ad=Ab from h) Ah
   |cons a as=>
    cases as with
    |cons=>exact absurd (show Ad=Ab from h) Ah
    |nil=>
    replace h:=Mq h;obtain⟨i,rfl,h⟩:=h;replace h:=Ju h;obtain⟨g,p0,l,p2,rfl,h⟩:=h;replace h:=Fv h;obtain⟨w,rfl,h⟩:=h;replace h:=Fx h;obtain⟨w0,p1,rfl,h⟩:=h;replace h:=Cn h;obtain⟨h1,h4⟩:=h;unfold S4 at h1;simp only[Aj,EH,AT]at h1;obtain⟨⟨⟨p,hp,⟨rfl,rfl⟩,hl⟩,g1⟩,g2⟩:=h1;obtain⟨fa,fd,ps,m1,m2,m3,m4,_,m5⟩:=v.fn p hp;have m5:=m5 (by omega)
    obtain⟨n2,_,_⟩:=HE g2;have hv:=Jx (e:=e) (pos:=p1) v h4;have a1:SA (Cx.hot X e) CL W0 [.Name w0 p1] (fun ρ=>evA Γ ρ (.cons (.var i) .nil)):=Qv (WL hv) QR rfl
    have a2:SAT (Cx.hot X e) CL W0 [.Name w0 p1] (fun ρ=>evB Γ ρ (.cons (.var i) .nil)):=Uq (Kj hv) Vc rfl
    exact(hJ (X:=X) (ev:=e) (sh:=fun ρ=>HL ρ (.cons (.var i) .nil)) m5 v.room (by unfold glB at g1;show X.env.scope.names.lookup p.1=_;rw[v.sc];exact eq_of_beq g1) m1 m2 m3 a1 a2 (fun ρ z=>MK Γ ρ _ z) (fun ρ ds z=>by rw[Mv Γ ρ _ _ z,hl];rfl) n2 rfl (fun _=>rfl)).se
  |str s=>
   replace h:=K7 h;obtain⟨k,u,p,rfl,h⟩:=h;obtain rfl:=AR h;exact WN
  |lst es=>
   replace h:=Qh h;obtain⟨xs,p,rfl,h⟩:=h;simp only[Aj,AZ]at h;obtain⟨q,ql⟩:=Ol (ih) _ _ h.1;exact(QM q fun ρ ds z=>by rw[J8 Γ ρ _ _ z,<-ql];omega).se
  |tup es=>
   replace h:=K6 h;obtain⟨xs,cc,p,rfl,h⟩:=h;simp only[Aj,AZ]at h;obtain⟨q,ql⟩:=Ol (ih) _ _ h.1;exact WM q fun ρ ds z=>by rw[J8 Γ ρ _ _ z,<-ql];omega
  |bin op a b=>
   replace h:=Cn h;obtain⟨h0,h⟩:=h;obtain rfl:=AR h0;replace h:=Mq h;obtain⟨i,rfl,h⟩:=h;replace h:=UD h;obtain⟨l,o,y,p,rfl,h⟩:=h;replace h:=Cn h;obtain⟨h0,h⟩:=h;obtain rfl:=AR h0;replace h:=Fx h;obtain⟨w,pw,rfl,h⟩:=h;replace h:=Cn h;obtain⟨h1,h2⟩:=h;refine SE.congr (QO (Qy .Add) (Kj (Jx v h1)) (ih _ _ h2).st) fun ρ=>?_
   show ((Dc ρ i).bind fun x=>(top ρ b (evE Γ ρ b)).bind fun y=>C8 .Add x y)=_
   rw[Q1 h2]
  |fld o f=>
   replace h:=Mq h;obtain⟨i,rfl,h⟩:=h;replace h:=UE h;obtain⟨w,g,p,rfl,h⟩:=h;replace h:=Fx h;obtain⟨w,pw,rfl,h⟩:=h;simp only[Aj,AT]at h;obtain⟨⟨⟨rfl,rfl⟩,h3⟩,h4⟩:=h;exact lK (X:=Cx.hot X e) v.xt.xc (fun c C z=>v.xt.nf c C z _ h3) (Kj (Jx v h4)) rfl
  |_=>exact absurd (show Ad=Ab from h) Ah
theorem RB(v:VX Γ CL k W T X)(e:Am)(x n:Ag)(y:An)(c:E)(h:LD n T x y c=Ab):SB (Cx.hot X e) CL W0 y (fun ρ=>(top ρ c (evE Γ ρ c)).bind BM):=by
 have one:∀{y:An}{c:E},(IF y&&E9 n T x y c)=Ab->SB (Cx.hot X e) CL W0 y (fun ρ=>(top ρ c (evE Γ ρ c)).bind BM):=fun {y c} h=>by
  rw[Aj]at h;exact SB.congr (WR ((MS v e x n y c h.2).st) (Vp h.1)) fun ρ=>by rw[Q1 h.2]
 replace h:((Jb y fun o z=>decide (o=.Not)&&(LS c fun a=>IF z&&E9 n T x z a))||(IF y&&E9 n T x y c))=Ab:=h
 replace h:=orT h;rcases h with h|h
 ·replace h:=MB h;obtain⟨o,z,p,rfl,h⟩:=h;replace h:=Cn h;obtain⟨h0,h⟩:=h;obtain rfl:=AR h0;replace h:=U8 h;obtain⟨a,rfl,h⟩:=h
  ·skip
   refine SB.ref (WS (one h)) fun ρ=>?_
   show (((top ρ a (evE Γ ρ a)).bind fun x=>(Du x).bind fun b=>R.ok (D.bl (!b))).bind BM)=.bad\/(((top ρ a (evE Γ ρ a)).bind fun x=>(Du x).bind fun b=>R.ok (D.bl (!b))).bind BM)=((top ρ a (evE Γ ρ a)).bind BM).bind fun b=>.ok (!b)
   cases top ρ a (evE Γ ρ a) with
   |ok d=>cases d<;>first|exact .inl rfl|exact .inr rfl
   |exn y=>exact .inr rfl
   |bad=>exact .inl rfl
 ·exact one h
theorem uS(v:VX Γ CL k W T X)(e:Am)(x n:Ag)(pos:AG):∀(ys:Ac An)(es:Es),IT n T x ys es=Ab->ys≠[]->SW (Cx.hot X e) CL W0 (.BoolOp .Or ys pos) (fun ρ=>(evO Γ ρ es).bind BM):=by
 intro ys
 induction ys with
 |nil=>intro es _ h;exact absurd rfl h
 |cons y ys ih=>
  intro es h _;cases es with
  |nil=>exact absurd (show Ad=Ab from h) Ah
  |cons c es=>
   replace h:(LD n T x y c&&IT n T x ys es)=Ab:=h;simp only[Aj]at h;obtain⟨h1,h3⟩:=h;have he:=RB v e x n y c h1;cases ys with
   |nil=>
    cases es with
    |nil=>exact SW.ref (WF he) (Rf.tru c)
    |cons=>exact absurd (show Ad=Ab from h3) Ah
   |cons z zs=>
    cases es with
    |nil=>exact absurd (show Ad=Ab from h3) Ah
    |cons c' es'=>exact SW.ref (W8 he (ih (.cons c' es') h3 (by simp))) (V2 c c' es')
theorem uT(v:VX Γ CL k W T X)(e:Am)(x n:Ag)(pos:AG):∀(ys:Ac An)(es:Es),IT n T x ys es=Ab->ys≠[]->SW (Cx.hot X e) CL W0 (.BoolOp .And ys pos) (fun ρ=>(evN Γ ρ es).bind BM):=by
 intro ys
 induction ys with
 |nil=>intro es _ h;exact absurd rfl h
 |cons y ys ih=>
  intro es h _;cases es with
  |nil=>exact absurd (show Ad=Ab from h) Ah
  |cons c es=>
   replace h:(LD n T x y c&&IT n T x ys es)=Ab:=h;simp only[Aj]at h;obtain⟨h1,h3⟩:=h;have he:=RB v e x n y c h1;cases ys with
   |nil=>
    cases es with
    |nil=>exact SW.ref (Vr he) (Rf.tru c)
    |cons=>exact absurd (show Ad=Ab from h3) Ah
   |cons z zs=>
    cases es with
    |nil=>exact absurd (show Ad=Ab from h3) Ah
    |cons c' es'=>exact SW.ref (WG he (ih (.cons c' es') h3 (by simp))) (V3 c c' es')
theorem zL(v:VX Γ CL k W T X)(e:Am)(x n:Ag)(t:An)(c:E)(h:XJ n T x t c=Ab):SB (Cx.hot X e) CL W0 t (fun ρ=>(top ρ c (evE Γ ρ c)).bind BM):=by
 replace h:((Ii t fun o ys _=>(decide (o=.Or)&&(LR c fun es=>IT n T x ys es && !ys.isEmpty))||(decide (o=.And)&&(Lw c fun es=>IT n T x ys es && !ys.isEmpty)))||LD n T x t c)=Ab:=h
 replace h:=orT h;rcases h with h|h
 ·replace h:=K8 h;obtain⟨o,ys,p,rfl,h⟩:=h;replace h:=orT h;rcases h with h|h
  ·replace h:=Cn h;obtain⟨h0,h⟩:=h;obtain rfl:=AR h0;replace h:=U7 h;obtain⟨es,rfl,h⟩:=h;simp only[Aj,Bt,CI]at h;exact(uS v e x n _ _ _ h.1 h.2).sb
  ·replace h:=Cn h;obtain⟨h0,h⟩:=h;obtain rfl:=AR h0;replace h:=UF h;obtain⟨es,rfl,h⟩:=h;simp only[Aj,Bt,CI]at h;exact(uT v e x n _ _ _ h.1 h.2).sb
 ·exact RB v e x n _ c h
theorem Xn(v:VX Γ CL k W T X)(hf:DefX X)(e:Am)(x:Ag):∀(n:Ag)(sts:Ac AQ)(ss:Ss),MP n T x sts ss=Ab->SSs (Cx.hot X e) CL W0 sts (fun ρ=>evSs Γ ρ ss):=by
 intro n
 induction n with
 |zero=>intro t c h;exact absurd (show Ad=Ab from h) Ah
 |succ n ih=>
  intro sts ss0 h;cases ss0 with
  |nil=>
   obtain rfl:=Ie h;exact Qt
  |cons s ss0=>
   replace h:=Jv h;obtain⟨st,r,rfl,h⟩:=h;replace h:=Cn h;obtain⟨h,h5⟩:=h;cases s with
   |asg i b e0=>
    replace h:=PQ h;obtain⟨y,py,v0,pos,rfl,h⟩:=h;simp only[Aj,AT]at h;obtain⟨⟨⟨⟨h1,h2⟩,h3⟩,h4⟩,h6⟩:=h;cases b with
    |true=>
     cases e0 with
     |lst es=>
      have sc:SC (Cx.hot X e) CL W0 Ab v0 (fun ρ=>evE Γ ρ (.lst es)):=by
       cases n with
       |zero=>exact absurd (show Ad=Ab from h4) Ah
       |succ n=>
        replace h4:=Qh h4;obtain⟨l,pl,rfl,h4⟩:=h4;obtain⟨q,ql⟩:=Ol (MS v e x n) _ _ (Cn h4).1;have hle:=AR (Cn h4).2;exact QM q fun ρ ds z=>by rw[J8 Γ ρ _ _ z,<-ql];omega
      have q:=J9 (Vw (SC.sas (X:=Cx.hot X e) (pos:=pos) (pos':=py) (by show X.N.Nodup;rw[v.N];exact v.nd) (by show X.N[i]?=_;rw[v.N];exact h1) (by show Loc X.env.scope _;rw[v.sc];exact Lg h2) sc (Li h3) (.inl (hf.fn _)))) (ih _ _ h5)
      have ef:(fun ρ=>evSs Γ ρ (.cons (.asg i Ab (.lst es)) ss0))=fun ρ=>(O.of ρ (evE Γ ρ (.lst es)) fun d=>setF ρ i d).seq fun ρ=>evSs Γ ρ ss0:=by
       funext ρ
       show (evS Γ ρ (.asg i Ab (.lst es))).seq _=_;rw[fM];rfl
      rw[ef];exact q
     |_=>exact absurd (show Ad=Ab from h6) Ah
    |false=>
    exact J9 (qU (X:=Cx.hot X e) (by show X.N.Nodup;rw[v.N];exact v.nd) (by show X.N[_]?=_;rw[v.N];exact h1) (by show Loc X.env.scope _;rw[v.sc];exact Lg h2) (MS v e x n _ _ h4) (Li h3) (.inl (hf.fn _))) (ih _ _ h5)
   |ife c a b=>
    cases b with
    |cons=>exact absurd (show Ad=Ab from h) Ah
    |nil=>
    replace h:=Qk h;obtain⟨t,xs,ys,pos,rfl,h⟩:=h;replace h:=Cn h;obtain⟨h0,h⟩:=h;obtain rfl:=Ie h0;replace h:=Cn h;obtain⟨h1,h2⟩:=h;exact J9 (WY (X:=Cx.hot X e) (zL v e x n _ _ h1) (ih _ _ h2) Qt) (ih _ _ h5)
   |ret e0=>
    replace h:=Uz h;obtain⟨o,pos,rfl,h⟩:=h;cases o with
    |none=>exact absurd (show Ad=Ab from h) Ah
    |some v0=>
    replace h:((JC e0 fun i=>EL v0 fun y=>isV T y i)||(SY e0&&E9 n T x v0 e0))=Ab:=h
    replace h:=orT h;rcases h with h|h
    ·replace h:=Mq h;obtain⟨i,rfl,h⟩:=h;replace h:=Fx h;obtain⟨y,py,rfl,h⟩:=h;exact J9 (Vu (X:=Cx.hot X e) (pos:=pos) (Jx v h)) (ih _ _ h5)
    replace h:=Cn h;obtain⟨h0,h1⟩:=h;have q:=J9 (Vv (X:=Cx.hot X e) (pos:=pos) (MS v e x n _ _ h1)) (ih _ _ h5);have ef:(fun ρ=>evSs Γ ρ (.cons (.ret e0) ss0))=fun ρ=>(O.of ρ (evE Γ ρ e0) fun d=>O.ret d Ad).seq fun ρ=>evSs Γ ρ ss0:=by
     funext ρ
     cases e0<;>first|rfl|(cases h0;done)
    rw[ef];exact q
   |app i e0=>
    replace h:=Nz h;obtain⟨y,p,m,ap,l,cp,pos,rfl,hl,h⟩:=h;replace h:=Fv h;obtain⟨v0,rfl,h⟩:=h;simp only[Aj,AT]at h;obtain⟨⟨⟨rfl,h1⟩,h2⟩,h3⟩:=h;exact J9 (WK (X:=Cx.hot X e) (Jx v h1) (MS v e x n _ _ h3) rfl (by rw[Cw h2];rfl) (by rw[hl];exact De _) (Cw h2) rfl) (ih _ _ h5)
   |_=>exact absurd (show Ad=Ab from h) Ah
theorem uR(v:VX Γ CL k W T X)(h:hdB T g c=Ab):SV X CL Γ.up g c:=by
 unfold hdB at h;simp only[Aj]at h;obtain⟨⟨⟨i1,i0⟩,i2⟩,i3⟩:=h;obtain⟨C,m1,m3,m4⟩:=v.xt.ex _ (MJ i1);obtain⟨C0,r1,r2⟩:=v.xt.rz _ (MJ i0);obtain⟨n2,_,_⟩:=HE i3;refine⟨C,by unfold glB at i2;show X.env.scope.names.lookup g=_;rw[v.sc];exact eq_of_beq i2,m1,n2,?_,fun c' D hD=>m4 c' D hD⟩
 have e0:=m1.symm.trans r2;cases e0;exact v.xt.xc _ _ r1
theorem xE(Z:SndS Γ CL k n)(W:XW)(T:Tc)(X:Cx)(st:AQ)(c:S)(v:VX Γ CL k W T X)(hf:DefX X)(h:LV (n+1) T st c=Ab):SS X CL W st (fun ρ=>evS Γ ρ c):=by
  have E:=snd (Γ:=Γ) (CL:=CL) (k:=k) n;cases c with
  |pass=>exact absurd (show Ad=Ab from h) Ah
  |brk=>exact absurd (show Ad=Ab from h) Ah
  |cont=>exact absurd (show Ad=Ab from h) Ah
  |asg i fresh e=>
    replace h:=PQ h;obtain⟨x,px,v0,pos,rfl,h⟩:=h;simp only[Aj,AT]at h;obtain⟨⟨h1,h2⟩,h3⟩:=h;have o:=E.e W T X _ e v h3;cases fresh with
    |false=>exact WJ (QQ (fr:=Ad) v hf.fn h1 h2 o (fun z=>nomatch z))
    |true=>
      cases hn:DN Γ e with
      |true=>
        refine SS.ref (Vw (QQ (fr:=Ab) v hf.fn h1 h2 o (fun _=>hn))) fun ρ=>.inr ?_
        show O.of ρ (evE Γ ρ e) (fun d=>if Ab=Ab then (if DN Γ e=Ab then (match d with
          |.lst xs=>.next (ρ.set i (Aa (.lst xs,Ab)))
          |.dic xs=>.next (ρ.set i (Aa (.dic xs,Ab)))
          | _=>.bad) else .bad) else .next (ρ.set i (Aa (d,Ad))))=_
        rw[hn];rfl
      |false=>
        refine SS.ref (WJ (QQ (fr:=Ad) v hf.fn h1 h2 o (fun z=>nomatch z))) fun ρ=>?_
        have e0:evS Γ ρ (.asg i Ab e)=O.of ρ (evE Γ ρ e) (fun d=>if Ab=Ab then (if DN Γ e=Ab then (match d with
          |.lst xs=>.next (ρ.set i (Aa (.lst xs,Ab)))
          |.dic xs=>.next (ρ.set i (Aa (.dic xs,Ab)))
          | _=>.bad) else .bad) else .next (ρ.set i (Aa (d,Ad)))):=rfl
        rw[e0,hn];cases evE Γ ρ e with
        |ok d=>exact .inl rfl
        |exn y=>exact .inr rfl
        |bad=>exact .inl rfl
  |asgT ts e=>
    replace h:=PR h;obtain⟨t,v0,pos,rfl,h⟩:=h;replace h:=K6 h;obtain⟨ys,cc,pw,rfl,h⟩:=h;simp only[Aj]at h;obtain⟨⟨⟨h1,h2⟩,h3⟩,h5⟩:=h;exact lB (zM ts) (rK v hf.fn h1 h2) (E.e W T X _ e v h5).se (Qu (fun _ _ z=>by cases z)) (rG h3) rfl (iK ts)
  |expr e=>
    replace h:=Qi h;obtain⟨v0,pos,rfl,h⟩:=h;simp only[Aj]at h;exact lA (E.e W T X _ e v h.2).se (Li h.1)
  |ret e=>
    replace h:=Uz h;obtain⟨o,pos,rfl,h⟩:=h;cases o with
    |none=>exact absurd (show Ad=Ab from h) Ah
    |some v0=>
    replace h:Bg n T v0 e=Ab:=h;have o:=E.e W T X _ e v h;cases hv:DN Γ e with
    |true=>
      refine SS.ref (kZ (o.nw hv)) fun ρ=>.inr ?_
      rw[Ub ρ e (fun i z=>by subst z;cases hv),hv]
    |false=>
      cases e with
      |var i=>
        cases n with
        |zero=>exact absurd (show Ad=Ab from h) Ah
        |succ n=>
          replace h:=Fx h;obtain⟨y,py,rfl,h⟩:=h;exact Vu (G9 v h)
      |_=>
        refine SS.ref (Vv o.se) fun ρ=>.inr ?_
        rw[Ub ρ _ (by intro i z;cases z),hv]
  |retN=>exact absurd (show Ad=Ab from h) Ah
  |ife c a b=>
    replace h:=Qk h;obtain⟨t,xs,ys,pos,rfl,h⟩:=h;simp only[Aj]at h;exact WY (E.b W T X _ c v h.1.1) (Z.ss W T X _ a v hf h.1.2) (Z.ss W T X _ b v hf h.2)
  |fors t it body=>
    replace h:=UA h;obtain⟨tg,it',xs,ys,pos,rfl,h⟩:=h;replace h:=Cn h;obtain⟨hn,h⟩:=h;obtain rfl:=Ie hn;replace h:=Fx h;obtain⟨y,py,rfl,h⟩:=h;simp only[Aj]at h;obtain⟨⟨⟨h1,h2⟩,h3⟩,h4⟩:=h;exact WI v.own v.calm (qD t) (mM v hf.fn h1) (E.i W T X Ad _ _ it v rfl h3) (Z.ss W T X _ body v hf h4) (N7 h2) (fun _ _ _ z=>nomatch z)
  |forT ts it body=>
    replace h:=UA h;obtain⟨tg,it',xs,zs,pos,rfl,h⟩:=h;replace h:=Cn h;obtain⟨hn,h⟩:=h;obtain rfl:=Ie hn;replace h:=K6 h;obtain⟨ys,cc,py,rfl,h⟩:=h;simp only[Aj]at h;obtain⟨⟨⟨⟨h0,h1⟩,h2⟩,h3⟩,h4⟩:=h;exact WI v.own v.calm (Wk ts) (mL v hf.fn h0 h1) (E.i W T X Ab _ _ it v rfl h3) (Z.ss W T X _ body v hf h4) (N7 h2) (TF ts)
  |whl c body=>exact absurd (show Ad=Ab from h) Ah
  |rais c as=>
    replace h:(!(T.rzs.any fun p=>p.2==c)||(On st fun a b=>b.isNone&&(match a with|some e=>MG e fun g x xs=>inX T.rzs g c&&glB T g&&GO g&&decide (xs.length<=1000)&&chkEs n T (x::xs) as|none=>Ad)))=Ab:=h
    cases hc:T.rzs.any (fun p=>p.2==c) with
    |false=>
      have hb:∀ ds,Γ.xn c ds=.bad:=v.xt.xb c fun p hp z=>by
        have:T.rzs.any (fun p=>p.2==c)=Ab:=List.any_eq_true.mpr ⟨p,hp,AT.mpr z⟩
        rw[hc]at this;cases this
      intro Fz B pI s σ H D I ⟨ρ,x,p⟩;have p':BP X.K CL Fz B W (O.of ρ (noX (evA Γ ρ as)) fun xs=>O.of ρ (Γ.xn c xs) fun x=>.exn x ρ) D:=p
      cases e1:evA Γ ρ as with
      |bad=>rw[e1]at p';exact p'.elim
      |exn y=>rw[e1]at p';exact p'.elim
      |ok ds=>
        rw[e1]at p';have p2:BP X.K CL Fz B W (O.of ρ (Γ.xn c ds) fun x=>.exn x ρ) D:=p'
        rw[hb ds]at p2;exact p2.elim
    |true=>
      rw[hc,Bool.not_true,Bool.false_or]at h;replace h:=jX h;obtain⟨ea,eb,pos,rfl,h⟩:=h;replace h:=Cn h;obtain⟨h0,h⟩:=h;obtain rfl:=Yx.mp h0;cases ea with
      |none=>exact absurd (show Ad=Ab from h) Ah
      |some e0=>
        replace h:=NA h;obtain⟨g,np,x,xs,cpos,rfl,h⟩:=h;simp only[Aj,AZ]at h;obtain⟨⟨⟨⟨h1,h2⟩,h3⟩,h4⟩,h5⟩:=h;obtain⟨C,m1,m2⟩:=v.xt.rz _ (MJ h1);obtain⟨n2,_,_⟩:=HE h3;obtain⟨s0,e,es',rfl,m,rfl,s1⟩:=K2 h5;have q:=E.es W T X _ _ v h5;exact fE v.calm hf.ex v.room v.rz (by unfold glB at h2;show X.env.scope.names.lookup g=_;rw[v.sc];exact eq_of_beq h2) m2 n2 m1 q.1 (fun ds=>v.xt.made c C ds m1) (Cw s0) (Mh m xs es' s1) (fun ρ ds z=>by rw[J8 Γ ρ _ _ z,<-q.2.2.1,Bk];omega)
  |app i e=>
    replace h:=Nz h;obtain⟨x,px,m,ap,l,cp,pos,rfl,h2,h⟩:=h;replace h:=Fv h;obtain⟨v0,rfl,h⟩:=h;simp only[Aj,AT]at h;obtain⟨⟨⟨rfl,h1⟩,h3⟩,h4⟩:=h;exact WK (G9 v h1) (E.e W T X _ e v h4).se rfl (by rw[Cw h3];rfl) (by rw[h2];exact De _) (Cw h3) rfl
  |ext i e=>exact absurd (show Ad=Ab from h) Ah
  |rev i=>exact absurd (show Ad=Ab from h) Ah
  |clr i=>exact absurd (show Ad=Ab from h) Ah
  |put i k e=>
    replace h:=PR h;obtain⟨t,v0,pos,rfl,h⟩:=h;replace h:=Qg h;obtain⟨o,y,sp,rfl,h⟩:=h;replace h:=Fx h;obtain⟨x,p,rfl,h⟩:=h;simp only[Aj]at h;obtain⟨⟨⟨h1,h2⟩,h4⟩,h5⟩:=h;exact qV (G9 v h1) (E.e W T X _ k v h4).st (E.e W T X _ e v h5).se (fun w=>by cases y<;>first|rfl|cases h2) (Qu (fun _ _ z=>by cases z)) rfl rfl
  |tryx body c x hd=>
    cases body with
    |nil=>exact absurd (show Ad=Ab from h) Ah
    |cons b bs=>
      cases bs with
      |cons=>exact absurd (show Ad=Ab from h) Ah
      |nil=>
        unfold LV at h;dsimp only at h;cases q:RO st with
        |none=>rw[q]at h;cases h
        |some t=>
          obtain⟨bt,hl,es⟩:=t;rw[q]at h;obtain⟨pos,rfl⟩:=lY q;cases hl with
          |nil=>exact absurd (show Ad=Ab from h) Ah
          |cons h1 hl=>
            cases hl with
            |cons=>exact absurd (show Ad=Ab from h) Ah
            |nil=>
              cases es with
              |cons=>exact absurd (show Ad=Ab from h) Ah
              |nil=>
                dsimp only at h;cases q1:xHd h1 with
                |none=>rw[q1]at h;cases h
                |some t1=>
                  obtain⟨g,m,h0,hs⟩:=t1;obtain⟨p1,hp,rfl⟩:=rB q1;rw[q1]at h;simp only[Aj,AT]at h;obtain⟨⟨⟨⟨i1,i4⟩,i5⟩,i6⟩,i7⟩:=h;obtain⟨t1,t2⟩:=wU E v hf 6 i6;refine SS.ref (qS (up:=Γ.up) (c:=c) (i:=x) hf.ex hf.st hf.fm (by rw[v.N];exact v.nd) (by rw[v.N];exact i4) (by rw[v.sc];exact i5) (uR v i1) t1 t2 (fun e=>Xn v hf e x n _ _ i7)) fun ρ=>.inr ?_
                  rw[jL];unfold Sy;cases evSs Γ ρ (.cons b .nil)<;>rfl
  |try2 body c x hd c' hd' els=>exact absurd (show Ad=Ab from h) Ah
  |swp i k l=>
    unfold LV at h;dsimp only at h;cases q:RM st with
    |none=>rw[q]at h;cases h
    |some t=>
      obtain⟨x1,y1,x2,z1,v0⟩:=t;rw[q]at h;simp only[Aj]at h;obtain⟨⟨⟨⟨h1,h2⟩,h3⟩,h4⟩,h5⟩:=h;obtain⟨p1,p2,p3,p4,p5,p6,kt,tp,o,a,p,o',a',p',q0,q1,pos,rfl,rfl⟩:=kS q;exact qT v.calm (G9 v h1) (G9 v h2) (G9 v h3) (G9 v h4) (E.e W T X _ _ v h5).se (fun _=>rfl) (fun _=>rfl) (Qu (fun _ _ z=>by cases z)) eQ
  |apop j i e=>
    replace h:=Nz h;obtain⟨x,px,m,ap,l,cp,pos,rfl,h2,h⟩:=h;replace h:=Fv h;obtain⟨w,rfl,h⟩:=h;simp only[Aj,AT]at h;obtain⟨⟨rfl,h1⟩,h3⟩:=h;cases q:OJ w with
    |none=>rw[q]at h3;cases h3
    |some t=>
      obtain⟨y,u⟩:=t;rw[q]at h3;simp only[Aj]at h3;obtain⟨h3,h4⟩:=h3;obtain⟨p',ap',cp',rfl,h5,h6⟩:=nY q;exact lE (G9 v h1) (G9 v h3) (E.e W T X _ e v h4).se rfl rfl (by rw[h2];exact De _) (by rw[h5];exact De _) (Cw h6)
  |ins i k e=>
    replace h:=Nz h;obtain⟨x,p,m,ap,l,cp,pos,rfl,hl,h⟩:=h;replace h:=II h;obtain⟨y,z,rfl,h⟩:=h;simp only[Aj,AT]at h;obtain⟨⟨⟨⟨⟨rfl,h1⟩,h2⟩,h3⟩,h4⟩,h5⟩:=h;exact qW (G9 v h1) (E.e W T X _ k v h4).st (E.e W T X _ e v h5).se rfl (by rw[Cw h2,Cw h3];rfl) (by rw[hl];exact De _) (Cw h2) (Cw h3) (by rw[Cw h3];rfl) rfl
  |dput=>exact absurd (show Ad=Ab from h) Ah
  |dsd=>exact absurd (show Ad=Ab from h) Ah
  |rel=>exact absurd (show Ad=Ab from h) Ah
theorem iV{c:Ss}(h:OM c=Ab)(ρ:Rho):evSs Γ ρ c=.bad:=by
 cases c with
 |nil=>cases h
 |cons s ss=>
  cases s with
  |expr e=>
   cases e with
   |bi b as=>
    cases as with
    |nil=>
     cases b with
     |len=>rfl
     |_=>exact absurd (show Ad=Ab from h) Ah
    |cons=>cases b<;>exact absurd (show Ad=Ab from h) Ah
   |_=>exact absurd (show Ad=Ab from h) Ah
  |_=>exact absurd (show Ad=Ab from h) Ah
theorem rM(Z:SndS Γ CL k n)(W:XW)(T:Tc)(X:Cx)(xs:Ac AQ)(c:Ss)(v:VX Γ CL k W T X)(hf:DefX X)(h:chkSs (n+1) T xs c=Ab):SSs X CL W xs (fun ρ=>evSs Γ ρ c):=by
 by_cases hb:OM c=Ab
 ·exact fun Fz B pI s σ H D I ⟨ρ,x,p⟩=>by
   dsimp only at p;rw[iV hb]at p;exact p.elim
 have hb:OM c=Ad:=by simpa using hb
 cases c with
 |nil=>
  simp only[chkSs,hb,G4,Hu]at h;subst h;exact Qt
 |cons s ss=>
  by_cases hr:∃ i,s=.rel i
  ·obtain⟨i,rfl⟩:=hr;simp only[chkSs,hb,G4]at h;exact kY i (Z.ss W T X xs ss v hf h)
  ·cases xs with
   |nil=>cases s<;>first|(simp[chkSs,hb]at h;done)|exact absurd ⟨_,rfl⟩ hr
   |cons st r=>
    have h':LV n T st s=Ab/\chkSs n T r ss=Ab:=by
     cases s<;>first|(simp only[chkSs,hb,G4,Aj]at h;exact h)|exact absurd ⟨_,rfl⟩ hr
    exact J9 (Z.s W T X st s v hf h'.1) (Z.ss W T X r ss v hf h'.2)
theorem RG:∀ n,SndS Γ CL k n
 |0=>⟨fun _ _ _ _ _ _ _ h=>absurd (show Ad=Ab from h) Ah,fun _ _ _ _ _ _ _ h=>absurd (show Ad=Ab from h) Ah⟩
 |n+1=>⟨xE (RG n),rM (RG n)⟩
end
theorem Mj{n:Ag}{ds:Ac D}{i:Ag}{o:Ak}(h:(Bv n ds)[i]?=Aa (Aa (d,o))):o=Ad/\ds[i]?=Aa d:=by
 unfold Bv at h;by_cases hi:i<ds.length
 ·rw[Fe (by simpa using hi),CT]at h
  cases e:ds[i]? with
  |none=>rw[e]at h;cases h
  |some x=>rw[e]at h;cases h;exact⟨rfl,rfl⟩
 ·rw[X9 (by simpa using Nat.le_of_not_lt hi),Yd]at h
  split at h<;>cases h
theorem fD{N:Ac Ai}{vs:Ac V}{i:Ag}{v:V}(h:vs[i]?=Aa v):(L2.start N vs)[i]?=Aa (Aa v):=by
 unfold L2.start;have hi:=(AS.mp h).1;rw[Fe (by simpa using hi),CT,h]
 rfl
theorem UL{N:Ac Ai}{n:Ag}{vs:Ac V}{ds:Ac D}(hn:N.length=n)(hA:AOk H A)(r:Reps K CL H A vs ds):Sx K CL (fun b o=>H b=Aa o) A (Bv n ds) (L2.start N vs) H:=by
 have own:∀ a,BG A (Bv n ds) (L2.start N vs) a->A a:=fun a h=>by
  rcases h with h|⟨j,d,h,_⟩
  ·exact h
  ·exact absurd (Mj h).1 (by decide)
 have hlen:(Bv n ds).length=(L2.start N vs).length:=by
  unfold Bv L2.start;simp only[CK,Bh,Yj,r.length,hn]
 refine⟨⟨fun i d h=>?_,fun i d h=>absurd (Mj h).1 (by decide),hlen⟩,fun a h=>hA a (own a h),fun j d a h _=>absurd (Mj h).1 (by decide),fun i j d e a h _ _ _=>absurd (Mj h).1 (by decide),fun b o h=>h,hlen⟩
 obtain⟨v,h1,h2⟩:=r.get (Mj h).2;exact⟨v,fD h1,Rep.sub own _ h2⟩
structure FunX (K:Fg) (x qual:Ai) (st:AQ) (f:Am) (fd:BL):Prop where
 ex:∃(oc:Al)(od:Ap Am)(dV kV doc pm:Al)(an:Ap Am)(cdv ct:Al)(osl:Be (Ap Al)),
  fd=Cu x qual (IM st) (Fw st) (Cq st) dV kV doc pm an cdv ct/\K.lookup f=Aa ⟨oc,od,.func fd,osl⟩/\DW K cdv qual=Ab
 kp:B1 K (.ref f)=Ab
theorem Xg{st:AQ}{f:Am}(F:Fun K x qual st f fd):FunX K x qual st f fd:=by
 obtain⟨oc,od,kV,doc,pm,an,cdv,ct,osl,e,lk,hcd⟩:=F.ex;exact⟨⟨oc,od,.none,kV,doc,pm,an,cdv,ct,osl,e,lk,hcd⟩,F.kp⟩
def LW(K:Fg)(mg:Ai->Ap Al)(fns:Ac (Ai×Ag×Ag))(bl:Ac Ai)(rzs exs gls:Ac (Ai×Ag))(Pg:Prg)(fuel:Ag)(p:Ai×Ag×Ag):Prop:=∃ f fd ps qual st N,mg p.1=Aa (.ref f)/\FunX K p.1 qual st f fd/\FP K fd ps []/\ps.length=p.2.2%1000/\HP fuel (CZ 1000 p.2.2) fns bl rzs exs gls ps N st (Pg.defs p.2.1)=Ab
structure Tab (K:Fg) (mg:Ai->Ap Al) (CL:ClA) (fns:Ac (Ai×Ag×Ag)) (bl:Ac Ai) (rzs exs gls:Ac (Ai×Ag)) (Pg:Prg) (fuel:Ag):Prop where
 xt:XT Pg.up Pg.xn CL rzs exs K mg
 bln:∀ x,x∈bl->mg x=Ae
 gl:∀ p∈gls,ON K mg CL p.1 (Pg.G p.2)
 fn:∀ p∈fns,LW K mg fns bl rzs exs gls Pg fuel p
theorem Wn(Pg:Prg)(n i:Ag):(gam Pg n).fr i=(Pg.defs i).fr:=by cases n<;>rfl
theorem Wm(Pg:Prg)(n:Ag):(gam Pg n).up=Pg.up:=by cases n<;>rfl
theorem Xp(Pg:Prg)(n:Ag):(gam Pg n).G=Pg.G:=by cases n<;>rfl
theorem Wl(Pg:Prg)(n:Ag):(gam Pg n).xn=Pg.xn:=by cases n<;>rfl
section
variable{P:AO}{w:A4}{K:Fg}{mg:Ai->Ap Al}{base:AF}{CL:ClA}{fns:Ac (Ai×Ag×Ag)}{bl:Ac Ai}{rzs exs gls:Ac (Ai×Ag)}{Pg:Prg}{fuel:Ag}
def Lvl(P:AO)(w:A4)(K:Fg)(mg:Ai->Ap Al)(base:AF)(CL:ClA)(Pg:Prg)(n:Ag)(p:Ai×Ag×Ag):Prop:=∃ f fd ps,mg p.1=Aa (.ref f)/\B1 K (.ref f)=Ab/\FP K fd ps []/\ps.length=p.2.2%1000/\(p.2.2<1000->FnOk P w K mg base (CXR P w) n f fd ps (spD K CL (p.2.2%1000) ((gam Pg n).fr p.2.1) ((gam Pg n).F p.2.1)))/\(1000<=p.2.2->HotOk P w K mg base n f fd ps (spH K CL (p.2.2%1000) ((gam Pg n).fr p.2.1) ((gam Pg n).F p.2.1)))
theorem Ws(t:Tab K mg CL fns bl rzs exs gls Pg fuel){n:Ag}(hlv:∀ q∈fns,Lvl P w K mg base CL Pg n q){st:AQ}{f:Am}{ps N:Ac Ai}{m id:Ag}(h2:FunX K x qual st f fd)(h4:ps.length=m)(h5:HP fuel Ad fns bl rzs exs gls ps N st (Pg.defs id)=Ab):FnOk P w K mg base (CXR P w) (n+1) f fd ps (spD K CL m ((gam Pg (n+1)).fr id) ((gam Pg (n+1)).F id)):=by
  unfold HP at h5;simp only[Aj,AT,Bt,DY,CG,Gz,KO]at h5;obtain⟨⟨⟨⟨⟨⟨⟨⟨c1,c2⟩,c3⟩,c4⟩,c5⟩,c6⟩,c7⟩,c8⟩,c9⟩:=h5;obtain⟨oc,od,dV,kV,doc,pm,an,cdv,ct,osl,rfl,lk,hcd⟩:=h2.ex;refine Xk (N:=N) lk hcd ⟨c1,c2,c3,JZ c4,c5,c6,c7⟩ (fun vs H Q E ⟨ds,A,z,_⟩=>z.trans h4.symm) fun A outer s H vs Q E hr ⟨ds,B,hl,hA,hreps,hpost⟩=>?_
  have xt:XT (gam Pg n).up (gam Pg n).xn CL rzs exs K mg:=by rw[Wm,Wl];exact t.xt
  have gl:∀ p∈gls,ON K mg CL p.1 ((gam Pg n).G p.2):=by rw[Xp];exact t.gl
  have key:∀ W:XW,(∀ x cls dx H',W x H'->F8 K CL H' cls dx x->E cls dx H')->BP K CL (fun b o=>H b=Aa o) B W (evSs (gam Pg n) (Bv (Pg.defs id).n ds) (Pg.defs id).body) {nx:=fun _ H'=>Q .non H',rt:=Q} ->
      ∃ t,PSs (EG (CXR P w) P w K mg base N qual (Cq st) f cdv A outer s H E) (Fw st) t/\t {nx:=fun _ H'=>Q .non H',rt:=Q} (start N vs) H:=fun W hW hp=>by
    have v:VX (gam Pg n) CL n W ⟨Cq st,N,fns,bl,rzs,exs,gls⟩ (EG (CXR P w) P w K mg base N qual (Cq st) f cdv A outer s H E):=⟨rfl,c1,rfl,JZ c4,rfl,hr,t.bln,hlv,ownR,bh hW,rzR hW,xt,gl⟩;exact⟨_,(RG fuel).ss W _ _ _ (Pg.defs id).body v ⟨fun _=>rfl,rfl,rfl,rfl⟩ c9 (fun b o=>H b=Aa o) B,_,UL c8 hA hreps,hp⟩
  have no:∀ x cls dx H',W0 x H'->F8 K CL H' cls dx x->E cls dx H':=fun _ _ _ _ z=>z.elim
  have e:(gam Pg (n+1)).F id ds=Ec Pg.xs ((evSs (gam Pg n) (Bv (Pg.defs id).n ds) (Pg.defs id).body).ans (Pg.defs id).fr):=rfl;rw[e,Wn]at hpost;have cutO:∀ r:R D,(∀ x,r≠.exn x)->Ec Pg.xs r=r:=fun r hr=>by
    cases Pg.xs<;>cases r<;>first|rfl|exact absurd rfl (hr _)
  cases eo:evSs (gam Pg n) (Bv (Pg.defs id).n ds) (Pg.defs id).body with
  |next ρ'=>
    refine key W0 no ?_;rw[eo]at hpost ⊢;cases ef:(Pg.defs id).fr with
    |true=>rw[ef]at hpost;rw[cutO _ (by intro x z;cases z)]at hpost;exact hpost.elim
    |false=>
      rw[ef]at hpost;rw[cutO _ (by intro x z;cases z)]at hpost
      exact fun σ' H' x'=>hpost .non H' (fun b o z=>x'.same b o z) ⟨rfl,fun z=>nomatch z⟩
  |ret d b=>
    refine key W0 no ?_;rw[eo]at hpost ⊢;intro v H' sm rp fr;have hp2:(match Ec Pg.xs (if ((Pg.defs id).fr&&(!b&&isL d))=Ab then R.bad else R.ok d) with
      |.ok d=>∀ v H',AD H H'->Dr K CL (Pg.defs id).fr H B H' v d->Q v H'
      |.exn x=>∀ cls dx H',AD H H'->F8 K CL H' cls dx x->E cls dx H'
      | .bad=>AX):=hpost
    cases ec:((Pg.defs id).fr&&(!b&&isL d)) with
    |true=>rw[ec,AA rfl,cutO _ (by intro x z;cases z)]at hp2;exact hp2.elim
    |false=>
      rw[ec,AH (by decide),cutO _ (by intro x z;cases z)]at hp2
      refine hp2 v H' sm ⟨rp,fun efr es hd=>?_⟩
      subst hd;have eb:b=Ab:=by
        cases b with
        |true=>rfl
        |false=>rw[efr]at ec;cases ec
      obtain⟨a,xs,h1,h2,h3,h4⟩:=fr eb es rfl;refine⟨a,xs,h1,?_,h3,h4⟩;cases ha:H a with
      |none=>rfl
      |some o=>exact absurd ha (h2 o)
  |brk ρ'=>rw[eo]at hpost;have hp2:(match Ec Pg.xs (R.bad:R D) with | .ok _=>_ | .exn _=>_ | .bad=>AX):=hpost;rw[cutO _ (by intro x z;cases z)]at hp2;exact hp2.elim
  |cont ρ'=>rw[eo]at hpost;have hp2:(match Ec Pg.xs (R.bad:R D) with | .ok _=>_ | .exn _=>_ | .bad=>AX):=hpost;rw[cutO _ (by intro x z;cases z)]at hp2;exact hp2.elim
  |bad=>rw[eo]at hpost;have hp2:(match Ec Pg.xs (R.bad:R D) with | .ok _=>_ | .exn _=>_ | .bad=>AX):=hpost;rw[cutO _ (by intro x z;cases z)]at hp2;exact hp2.elim
  |exn x ρ'=>
    rw[eo]at hpost;have hp2:(match Ec Pg.xs (R.exn x:R D) with
      |.ok d=>∀ v H',AD H H'->Dr K CL (Pg.defs id).fr H B H' v d->Q v H'
      |.exn x=>∀ cls dx H',AD H H'->F8 K CL H' cls dx x->E cls dx H'
      | .bad=>AX):=hpost
    cases ex:Pg.xs with
    |false=>rw[ex]at hp2;exact hp2.elim
    |true=>
      rw[ex]at hp2;have hp3:∀ cls dx H',AD H H'->F8 K CL H' cls dx x->E cls dx H':=hp2;refine key (fun y H'=>y=x/\AD H H') (fun y cls dx H' ⟨e1,sm⟩ xr=>?_) ?_
      · subst e1;exact hp3 cls dx H' sm xr
      · rw[eo];exact fun H' sm=>⟨rfl,sm⟩
theorem uP(t:Tab K mg CL fns bl rzs exs gls Pg fuel){n:Ag}(hlv:∀ q∈fns,Lvl P w K mg base CL Pg n q){st:AQ}{f:Am}{ps N:Ac Ai}{m id:Ag}(h2:FunX K x qual st f fd)(h4:ps.length=m)(h5:HP fuel Ab fns bl rzs exs gls ps N st (Pg.defs id)=Ab):HotOk P w K mg base (n+1) f fd ps (spH K CL m ((gam Pg (n+1)).fr id) ((gam Pg (n+1)).F id)):=by
  unfold HP at h5;simp only[Aj,AT,Bt,DY,CG,Gz,KO]at h5;obtain⟨⟨⟨⟨⟨⟨⟨⟨c1,c2⟩,c3⟩,c4⟩,c5⟩,c6⟩,c7⟩,c8⟩,c9⟩:=h5;obtain⟨oc,od,dV,kV,doc,pm,an,cdv,ct,osl,rfl,lk,hcd⟩:=h2.ex;refine uQ (N:=N) lk hcd ⟨c1,c2,c3,JZ c4,c5,c6,c7⟩ (fun vs H Q E ⟨ds,A,z,_⟩=>z.trans h4.symm) fun A ev outer s H vs Q E hr ⟨ds,B,hl,hA,hreps,hpost⟩=>?_
  have xt:XT (gam Pg n).up (gam Pg n).xn CL rzs exs K mg:=by rw[Wm,Wl];exact t.xt
  have gl:∀ p∈gls,ON K mg CL p.1 ((gam Pg n).G p.2):=by rw[Xp];exact t.gl
  have key:BP K CL (fun b o=>H b=Aa o) B W0 (evSs (gam Pg n) (Bv (Pg.defs id).n ds) (Pg.defs id).body) {nx:=fun _ H'=>Q .non H',rt:=Q} ->
      ∃ t,PSs (Cx.hot (EG IY P w K mg base N qual (Cq st) f cdv A outer s H E) ev) (Fw st) t/\t {nx:=fun _ H'=>Q .non H',rt:=Q} (start N vs) H:=fun hp=>by
    have v:VX (gam Pg n) CL n W0 ⟨Cq st,N,fns,bl,rzs,exs,gls⟩ (EG IY P w K mg base N qual (Cq st) f cdv A outer s H E):=⟨rfl,c1,rfl,JZ c4,rfl,hr,t.bln,hlv,Zx,QL,RT,xt,gl⟩;exact⟨_,Xn v ⟨fun _=>rfl,rfl,rfl,rfl⟩ ev 0 fuel _ (Pg.defs id).body c9 (fun b o=>H b=Aa o) B,_,UL c8 hA hreps,hp⟩
  have e:(gam Pg (n+1)).F id ds=Ec Pg.xs ((evSs (gam Pg n) (Bv (Pg.defs id).n ds) (Pg.defs id).body).ans (Pg.defs id).fr):=rfl;rw[e,Wn]at hpost;have cutO:∀ r:R D,(∀ x,r≠.exn x)->Ec Pg.xs r=r:=fun r hr=>by
    cases Pg.xs<;>cases r<;>first|rfl|exact absurd rfl (hr _)
  refine key ?_;cases eo:evSs (gam Pg n) (Bv (Pg.defs id).n ds) (Pg.defs id).body with
  |next ρ'=>
    rw[eo]at hpost;cases ef:(Pg.defs id).fr with
    |true=>rw[ef]at hpost;rw[cutO _ (by intro x z;cases z)]at hpost;exact hpost.elim
    |false=>
      rw[ef]at hpost;rw[cutO _ (by intro x z;cases z)]at hpost
      exact fun σ' H' x'=>hpost .non H' (fun b o z=>x'.same b o z) ⟨rfl,fun z=>nomatch z⟩
  |ret d b=>
    rw[eo]at hpost;intro v H' sm rp fr;have hp2:(match Ec Pg.xs (if ((Pg.defs id).fr&&(!b&&isL d))=Ab then R.bad else R.ok d) with
      |.ok d=>∀ v H',AD H H'->Dr K CL (Pg.defs id).fr H B H' v d->Q v H'
      |.exn x=>AX
      | .bad=>AX):=hpost
    cases ec:((Pg.defs id).fr&&(!b&&isL d)) with
    |true=>rw[ec,AA rfl,cutO _ (by intro x z;cases z)]at hp2;exact hp2.elim
    |false=>
      rw[ec,AH (by decide),cutO _ (by intro x z;cases z)]at hp2
      refine hp2 v H' sm ⟨rp,fun efr es hd=>?_⟩
      subst hd;have eb:b=Ab:=by
        cases b with
        |true=>rfl
        |false=>rw[efr]at ec;cases ec
      obtain⟨a,xs,h1,h2,h3,h4⟩:=fr eb es rfl;refine⟨a,xs,h1,?_,h3,h4⟩;cases ha:H a with
      |none=>rfl
      |some o=>exact absurd ha (h2 o)
  |brk ρ'=>rw[eo]at hpost;have hp2:(match Ec Pg.xs (R.bad:R D) with | .ok _=>_ | .exn _=>_ | .bad=>AX):=hpost;rw[cutO _ (by intro x z;cases z)]at hp2;exact hp2.elim
  |cont ρ'=>rw[eo]at hpost;have hp2:(match Ec Pg.xs (R.bad:R D) with | .ok _=>_ | .exn _=>_ | .bad=>AX):=hpost;rw[cutO _ (by intro x z;cases z)]at hp2;exact hp2.elim
  |bad=>rw[eo]at hpost;have hp2:(match Ec Pg.xs (R.bad:R D) with | .ok _=>_ | .exn _=>_ | .bad=>AX):=hpost;rw[cutO _ (by intro x z;cases z)]at hp2;exact hp2.elim
  |exn x ρ'=>
    rw[eo]at hpost;have hp2:(match Ec Pg.xs (R.exn x:R D) with
      |.ok d=>∀ v H',AD H H'->Dr K CL (Pg.defs id).fr H B H' v d->Q v H'
      |.exn x=>AX
      | .bad=>AX):=hpost
    exfalso
    cases ex:Pg.xs with
    |false=>rw[ex]at hp2;exact hp2
    |true=>
      rw[ex]at hp2;exact hp2
theorem QX(t:Tab K mg CL fns bl rzs exs gls Pg fuel):∀ n,∀ p∈fns,Lvl P w K mg base CL Pg n p
 |0,p,hp=>by
  obtain⟨f,fd,ps,qual,st,N,h1,h2,h3,h4,h5⟩:=t.fn p hp;exact⟨f,fd,ps,h1,h2.kp,h3,h4,fun _=>⟨fun vs H Q E ⟨ds,A,_,_,_,z⟩=>z.elim,fun A outer s H args us vs Q E _ _ _ _ ⟨ds,A,_,_,_,z⟩=>z.elim⟩,fun _=>⟨fun vs H Q E ⟨ds,A,_,_,_,z⟩=>z.elim,fun A ev outer s H args us vs Q E _ _ _ _ ⟨ds,A,_,_,_,z⟩=>z.elim⟩⟩
 |n+1,p,hp=>by
  obtain⟨f,fd,ps,qual,st,N,h1,h2,h3,h4,h5⟩:=t.fn p hp;refine⟨f,fd,ps,h1,h2.kp,h3,h4,fun hlt=>?_,fun hge=>?_⟩
  ·have eb:CZ 1000 p.2.2=Ad:=by
    cases e:CZ 1000 p.2.2 with
    |false=>rfl
    |true=>exact absurd (Dg e) (by omega)
   rw[eb]at h5;exact Ws t (fun q hq=>QX t n q hq) h2 h4 h5
  ·rw[Nat.ble_eq_true_of_le hge]at h5;exact uP t (fun q hq=>QX t n q hq) h2 h4 h5
theorem wC{s s':Ar}{e:Al}(h:CXR P w [] H s (fun _ _ _=>AX) e s'):AX:=by
 obtain⟨_,_,_,_,_,_,_,_,_,_,_,_,_,_,_,z⟩:=h;exact z
noncomputable def So:AQ->Ap (An×AG)
 |.Expr e p=>Aa (e,p)
 |_=>Ae
theorem mC{e:AQ}{t:An×AG}(h:So e=Aa t):e=.Expr t.1 t.2:=by
 cases e with
 |Expr x p=>cases h;rfl
 |_=>exact nomatch (show Ae=Aa t from h)
noncomputable def Su:AQ->Ap (An×An×AG)
  | .Assign ts v p=>(match ts with
    |[t]=>Aa (t,v,p)
    | _=>Ae)
  |_=>Ae
theorem mF{e:AQ}{t:An×An×AG}(h:Su e=Aa t):e=.Assign [t.1] t.2.1 t.2.2:=by
 cases e with
 |Assign ts v p=>
  cases ts with
  |nil=>exact nomatch (show Ae=Aa t from h)
  |cons a ts=>
   cases ts with
   |nil=>cases h;rfl
   |cons=>exact nomatch (show Ae=Aa t from h)
 |_=>exact nomatch (show Ae=Aa t from h)
noncomputable def RP:An->Ap (An×Ai×AG)
 |.Attribute e x p=>Aa (e,x,p)
 |_=>Ae
theorem Vg{e:An}{t:An×Ai×AG}(h:RP e=Aa t):e=.Attribute t.1 t.2.1 t.2.2:=by
 cases e with
 |Attribute e x p=>cases h;rfl
 |_=>exact nomatch (show Ae=Aa t from h)
noncomputable def Sj:An->Ap (Ac An×AG)
 |.JoinedStr l p=>Aa (l,p)
 |_=>Ae
theorem lZ{e:An}{t:Ac An×AG}(h:Sj e=Aa t):e=.JoinedStr t.1 t.2:=by
 cases e with
 |JoinedStr l p=>cases h;rfl
 |_=>exact nomatch (show Ae=Aa t from h)
noncomputable def Sk:An->Ap (An×Af×AG)
  | .FormattedValue e n f p=>(match f with
    |none=>Aa (e,n,p)
    | _=>Ae)
  |_=>Ae
theorem mB{e:An}{t:An×Af×AG}(h:Sk e=Aa t):e=.FormattedValue t.1 t.2.1 Ae t.2.2:=by
 cases e with
 |FormattedValue e n f p=>
  cases f with
  |none=>cases h;rfl
  |some=>exact nomatch (show Ae=Aa t from h)
 |_=>exact nomatch (show Ae=Aa t from h)
noncomputable def Sq:An->Ap (Ai×Ag×AG)
  | .Constant c k p=>(match c with
    |.str z=>Aa (z,k,p)
    | _=>Ae)
  |_=>Ae
theorem mD{e:An}{t:Ai×Ag×AG}(h:Sq e=Aa t):e=.Constant (.str t.1) t.2.1 t.2.2:=by
 cases e with
 |Constant c k p=>
  cases c with
  |str z=>cases h;rfl
  |_=>exact nomatch (show Ae=Aa t from h)
 |_=>exact nomatch (show Ae=Aa t from h)
noncomputable def S0(g par f:Ai)(b:Ac AQ):Ap F6:=(OB b).bind fun s=>(So s.1).bind fun c=>(Sr c.1).bind fun cl=>(RP cl.1).bind fun at1=>(JI at1.1).bind fun g1=>(OB cl.2.1).bind fun ab=>(JI ab.1).bind fun s1=>(Sj ab.2).bind fun j=>(OB j.1).bind fun fk=>(Sk fk.1).bind fun fm=>(JI fm.1).bind fun q1=>(Sq fk.2).bind fun z=>(Su s.2).bind fun t=>(RP t.1).bind fun at2=>(JI at2.1).bind fun s2=>(JI t.2.1).bind fun q2=>
 if (g1.1==g&&(at1.2.1==("__init__" : Ai)&&(s1.1==("self" : Ai)&&(q1.1==par&&(decide (fm.2.1=-1)&&(s2.1==("self" : Ai)&&(at2.2.1==f&&(q2.1==par&&(at1.2.2.endLine==cl.2.2.line&&CZ z.1.length 1000)))))))))=Ab then Aa () else Ae
noncomputable def S3(g par f:Ai)(b:Ac AQ):Ak:=(S0 g par f b).isSome
theorem mV{g par f:Ai}{b:Ac AQ}(h:S3 g par f b=Ab):∃ z k np apos p1 p2 p3 p4 p5 cpos p6 p7 p8 p9 p10,b=RU g par f z k np apos p1 p2 p3 p4 p5 cpos p6 p7 p8 p9 p10/\(apos.endLine==cpos.line)=Ab/\z.length<=1000:=by
 obtain⟨_,h⟩:=Do.mp (show (S0 g par f b).isSome=Ab from h)
 obtain⟨s,e1,h⟩:=Az.mp h;obtain⟨c,e2,h⟩:=Az.mp h;obtain⟨cl,e3,h⟩:=Az.mp h;obtain⟨at1,e4,h⟩:=Az.mp h;obtain⟨g1,e5,h⟩:=Az.mp h;obtain⟨ab,e6,h⟩:=Az.mp h;obtain⟨s1,e7,h⟩:=Az.mp h;obtain⟨j,e8,h⟩:=Az.mp h;obtain⟨fk,e9,h⟩:=Az.mp h;obtain⟨fm,f1,h⟩:=Az.mp h;obtain⟨q1,f2,h⟩:=Az.mp h;obtain⟨z,f3,h⟩:=Az.mp h;obtain⟨t,f4,h⟩:=Az.mp h;obtain⟨at2,f5,h⟩:=Az.mp h;obtain⟨s2,f6,h⟩:=Az.mp h;obtain⟨q2,f7,h⟩:=Az.mp h;split at h
 ·rename_i hc;simp only[Aj,AT,AZ]at hc;obtain⟨c1,c2,c3,c4,c5,c6,c7,c8,h1,h2⟩:=hc;rw[Qs e1,mC e2,mE e3,Vg e4,Lk e5,Qs e6,Lk e7,lZ e8,Qs e9,mB f1,Lk f2,mD f3,mF f4,Vg f5,Lk f6,Lk f7,c1,c2,c3,c4,c5,c6,c7,c8];exact⟨_,_,_,_,_,_,_,_,_,_,_,_,_,_,_,rfl,by rw[AT];exact h1,Dg h2⟩
 ·cases h
noncomputable def OD(g par f:Ai)(st:AQ):Ak:=
 (Cq st).kind==.function&&((Cq st).isCoroutine==Ad&&((Cq st).isGenerator==Ad&&(Ln ["self", par]&&((Cq st).names.lookup ("self" : Ai)==Aa .local&&((Cq st).names.lookup par==Aa .local&&(((Cq st).names.all fun y=>y.2 != .free) &&
  ((Cq st).names.lookup g==Aa .globalImplicit&&(g != ("__debug__" : Ai)&&(par != ("__debug__" : Ai)&&(par != ("__classdict__" : Ai)&&S3 g par f (Fw st)))))))))))
noncomputable def Oj(s:AQ):AQ:=match s with
  |.ClassDef _ _ _ (b::_) _ _ _ _ _ _ _=>b
  |s=>s
def InI(K:Fg)(f:Am)(qual:Ai)(st:AQ):Prop:=∃ fd,Fun K "__init__" qual st f fd
theorem ini_mk{st:AQ}{f:Am}{kV doc pm cdv ct:Al}(l:K.lookup f=Aa ⟨oc,od,.func (Cu "__init__" qual (IM st) (Fw st) (Cq st) .none kV doc pm an cdv ct),osl⟩)(c:DW K cdv qual=Ab)(k:B1 K (.ref f)=Ab):InI K f qual st:=⟨_,Wo l c k⟩
theorem Wx{fI:Am}{g par f qual:Ai}{st:AQ}(a:InI K fI qual st)(hk:OD g par f st=Ab)(hb:∀(u0 u1 kV doc pm:Al)(an:Ap Am)(cdv ct:Al),JU (Cu "__init__" qual (IM st) (Fw st) (Cq st) .none kV doc pm an cdv ct) ⟨[u0,u1],[]⟩=pure ((["self", par]:Ac Ai).zip [u0,u1]))(xc:D9 K C (Aa (.ref fI))=Ab)(dc:Fa K C=Ab)(ty:EB K (.ref fI)=Aa (.type "function"))(mo:mg g=Aa (.ref OV))(s1:Eo K (.ref OV) "__getattribute__" = Aa (Aa (.builtin "type.__getattribute__")))(s2:Fj K OV (.type "type")=Ab)(s3:Fi K (.ref OV) (.type "type") "__init__" = Aa (.val (.builtin "ValueError.__init__")))(hf:At K (.ref C) f=Aa Ae)(hs:At K (.ref C) "__setattr__" = Aa (Aa (.builtin "object.__setattr__"))):XIn K mg C f:=by
 obtain⟨fd,fn⟩:=a;unfold OD at hk;simp only[Aj,AT,DY,Gz,KO]at hk;obtain⟨c1,c2,c3,c4,c5,c6,c7,c8,c9,c10,c11,c12⟩:=hk;obtain⟨z,k,np,apos,p1,p2,p3,p4,p5,cpos,p6,p7,p8,p9,p10,eb,hl,hz⟩:=mV c12;exact .mk xc dc fn ty ⟨c1,c2,c3,JZ c4,rfl,fun x hx=>by
  rcases Aw.mp hx with rfl|hx
  ·exact .inl c5
  ·rw[BA.mp hx];exact .inl c6,c7⟩ c5 c6 (fn.binds fun kV doc pm an cdv ct us hu=>match us,hu with | [u0,u1],_=>hb u0 u1 kV doc pm an cdv ct) eb c8 mo (by simpa using c9) (by simpa using c10) (by simpa using c11) s1 s2 s3 hl hz hf hs
theorem MW(h:∀ ds,xn c ds=.bad\/xn c ds=.ok ⟨c,[]⟩)(e:D9 K C Ae=Ab)(ds:Ac D):xn c ds=.bad\/(xn c ds=.ok ⟨c,[]⟩/\D9 K C Ae=Ab)\/∃ f,XIn K mg C f/\OA xn c f ds:=(h ds).imp id fun z=>.inl ⟨z,e⟩
theorem Xx{f:Ai}(h:∀ ds,xn c ds=mkX c f ds)(x:XIn K mg C f)(ds:Ac D):xn c ds=.bad\/(xn c ds=.ok ⟨c,[]⟩/\D9 K C Ae=Ab)\/∃ f,XIn K mg C f/\OA xn c f ds:=by
  have e:=h ds
  match ds,e with
  |[],e=>exact .inl e
  |_::_::_,e=>exact .inl e
  |[d],e=>
    have e':xn c [d]=if (xfD 1 d||xfD 2 d)=Ab then .ok ⟨c,[(f,d)]⟩ else .bad:=e
    by_cases z:(xfD 1 d||xfD 2 d)=Ab
    · rw[AA z]at e';refine .inr (.inr ⟨f,x,d,?_⟩);rw[CG]at z;rcases z with z|z
      · exact⟨0,rfl,z,by decide,e'⟩
      · exact⟨1,rfl,z,by decide,e'⟩
    · rw[AH z]at e';exact .inl e'
theorem Kn(dc:Fa K C=Ab)(h1:At K (.ref C) "triple" = Aa Ae)(h2:At K (.ref C) "points" = Aa Ae)(f:Ai)(h:(f==("triple" : Ai)||f==("points" : Ai))=Ab):Fa K C=Ab/\At K (.ref C) f=Aa Ae:=by
 rw[CG]at h;rcases h with h|h
 ·rw[eq_of_beq h];exact⟨dc,h1⟩
 ·rw[eq_of_beq h];exact⟨dc,h2⟩
def MX(K:Fg):Sp:=fun vs H Q _=>∃(a:Am)(ns:Ac Af),vs=[.ref a]/\ns.length<=63/\SqL K H a (ns.map V.int)/\∀ v H',v=V.bl Ab->Q v H'
theorem law_fn{f:Am}(G:FnOk P w K mg base CX k f fd ps (spD K CL 1 Ad F))(h:∀ ns:Ac Af,F [.lst (ns.map .int)]=.ok (.bl Ab)):FnOk P w K mg base CX k f fd ps (MX K):=G.imp fun vs H Q E ⟨a,ns,e,hl,hS,q⟩=>by
 subst e;have rs:∀ l:Ac Af,Reps K CL H A0 (l.map V.int) (l.map D.int):=fun l=>by
  induction l with
  |nil=>trivial
  |cons x l ih=>exact⟨rfl,ih⟩
 refine⟨[.lst (ns.map .int)],A0,rfl,fun _ z=>z.elim,⟨⟨a,_,rfl,.inl (fun z=>z),hS,rs ns⟩,trivial⟩,?_⟩
 rw[h ns];exact fun v H' _ r=>q v H' r.1
theorem nM{f:Am}(G:FnOk P w K mg base CX k f fd ps (spD K CL 1 Ad F))(h:∀ ns:Ac Af,ns.length<=63->F [.lst (ns.map .int)]=.ok (.bl Ab)):FnOk P w K mg base CX k f fd ps (MX K):=G.imp fun vs H Q E ⟨a,ns,e,hl,hS,q⟩=>by
 subst e;have rs:∀ l:Ac Af,Reps K CL H A0 (l.map V.int) (l.map D.int):=fun l=>by
  induction l with
  |nil=>trivial
  |cons x l ih=>exact⟨rfl,ih⟩
 refine⟨[.lst (ns.map .int)],A0,rfl,fun _ z=>z.elim,⟨⟨a,_,rfl,.inl (fun z=>z),hS,rs ns⟩,trivial⟩,?_⟩
 rw[h ns hl];exact fun v H' _ r=>q v H' r.1
theorem Mw{Q:α->Prop}:∀ x∈([]:Ac α),Q x:=fun _ h=>nomatch h
theorem all_cons{Q:α->Prop}{a:α}{l:Ac α}(h1:Q a)(h2:∀ x∈l,Q x):∀ x∈a::l,Q x:=List.forall_mem_cons.2 ⟨h1,h2⟩
def FnI(K:Fg)(f:Am)(n:Ai)(st:AQ):Prop:=∃ fd,Fun K n n st f fd/\Bl K A1 n=Aa (Aa (.ref f))
theorem fni{st:AQ}{f:Am}{kV doc pm cdv ct:Al}(a:Bl K A1 n=Aa (Aa (.ref f)))(l:K.lookup f=Aa ⟨oc,od,.func (Cu n n (IM st) (Fw st) (Cq st) .none kV doc pm an cdv ct),osl⟩)(c:DW K cdv n=Ab)(k:B1 K (.ref f)=Ab):FnI K f n st:=⟨_,Wo l c k,a⟩
def Bd(n:Ai)(st:AQ)(ps:Ac Ai)(us:Ac Al):Prop:=∀(kV doc pm:Al)(an:Ap Am)(cdv ct:Al),JU (Cu n n (IM st) (Fw st) (Cq st) .none kV doc pm an cdv ct) ⟨us,[]⟩=pure (ps.zip us)
theorem NV{f:Am}{st:AQ}{ps N:Ac Ai}(m id:Ag)(X:K.In h)(G:h.Ns A1 mg)(A:FnI K f n st)(hl:ps.length=m%1000)(hc:HP fuel (CZ 1000 m) fns bl rzs exs gls ps N st (Pg.defs id)=Ab)(hb:∀ us:Ac Al,us.length=ps.length->Bd n st ps us):LW K mg fns bl rzs exs gls Pg fuel (n,id,m):=by
 obtain⟨fd,F,a⟩:=A;exact⟨_,_,_,_,_,_,B8 X G a,Xg F,F.binds fun kV doc pm an cdv ct us hu=>hb us hu kV doc pm an cdv ct,hl,hc⟩
theorem OI{f:Am}{st:AQ}{N:Ac Ai}(m id:Ag)(X:K.In h)(G:h.Ns A1 mg)(A:FnI K f n st)(hl:1=m%1000)(hc:HP fuel (CZ 1000 m) fns bl rzs exs gls [x0] N st (Pg.defs id)=Ab)(hb:∀ u0,Bd n st [x0] [u0]):LW K mg fns bl rzs exs gls Pg fuel (n,id,m):=
 NV (ps:=[x0]) m id X G A hl hc fun us hu=>match us,hu with | [u0],_=>hb u0
theorem EF{f:Am}{st:AQ}{N:Ac Ai}(m id:Ag)(X:K.In h)(G:h.Ns A1 mg)(A:FnI K f n st)(hl:2=m%1000)(hc:HP fuel (CZ 1000 m) fns bl rzs exs gls [x0,x1] N st (Pg.defs id)=Ab)(hb:∀ u0 u1,Bd n st [x0,x1] [u0,u1]):LW K mg fns bl rzs exs gls Pg fuel (n,id,m):=
 NV (ps:=[x0,x1]) m id X G A hl hc fun us hu=>match us,hu with | [u0,u1],_=>hb u0 u1
theorem JJ{f:Am}{st:AQ}{N:Ac Ai}{x2:Ai}(m id:Ag)(X:K.In h)(G:h.Ns A1 mg)(A:FnI K f n st)(hl:3=m%1000)(hc:HP fuel (CZ 1000 m) fns bl rzs exs gls [x0,x1,x2] N st (Pg.defs id)=Ab)(hb:∀ u0 u1 u2,Bd n st [x0,x1,x2] [u0,u1,u2]):LW K mg fns bl rzs exs gls Pg fuel (n,id,m):=
 NV (ps:=[x0,x1,x2]) m id X G A hl hc fun us hu=>match us,hu with | [u0,u1,u2],_=>hb u0 u1 u2
theorem R1{f:Am}{st:AQ}{N:Ac Ai}{x2 x3:Ai}(m id:Ag)(X:K.In h)(G:h.Ns A1 mg)(A:FnI K f n st)(hl:4=m%1000)(hc:HP fuel (CZ 1000 m) fns bl rzs exs gls [x0,x1,x2,x3] N st (Pg.defs id)=Ab)(hb:∀ u0 u1 u2 u3,Bd n st [x0,x1,x2,x3] [u0,u1,u2,u3]):LW K mg fns bl rzs exs gls Pg fuel (n,id,m):=
 NV (ps:=[x0,x1,x2,x3]) m id X G A hl hc fun us hu=>match us,hu with | [u0,u1,u2,u3],_=>hb u0 u1 u2 u3
end
end Ov
namespace OvC
open PySem Ov
variable{x p t k v:Af}{d PP:D}{xs ns:Ac Af}{m n i' mid w i j:Ag}{Γ:Gam}{L RL:Ac D}{α:Type}{s2 s3 s:Sl}{ρ:Rho}
noncomputable def PB:Df:=⟨4,Ad,(.cons (.ret (.call 1 (.cons (.var 0) (.cons (.bin .Add (.bin .Sub (.bin .Mult (.idx (.var 1) (.int 0)) (.bin .Sub (.bin .Mult (.idx (.var 2) (.int 1)) (.idx (.var 3) (.int 2))) (.bin .Mult (.idx (.var 2) (.int 2)) (.idx (.var 3) (.int 1))))) (.bin .Mult (.idx (.var 1) (.int 1)) (.bin .Sub (.bin .Mult (.idx (.var 2) (.int 0)) (.idx (.var 3) (.int 2))) (.bin .Mult (.idx (.var 2) (.int 2)) (.idx (.var 3) (.int 0)))))) (.bin .Mult (.idx (.var 1) (.int 2)) (.bin .Sub (.bin .Mult (.idx (.var 2) (.int 0)) (.idx (.var 3) (.int 1))) (.bin .Mult (.idx (.var 2) (.int 1)) (.idx (.var 3) (.int 0)))))) .nil)))) .nil)⟩
noncomputable abbrev tr(a b c:Af):D:=.tup [.int a,.int b,.int c]
noncomputable def det(a0 a1 a2 b0 b1 b2 c0 c1 c2:Af):Af:=a0*(b1*c2-b2*c1)-a1*(b0*c2-b2*c0)+a2*(b0*c1-b1*c0)
def Sm(x:Af):Prop:=0<=x/\x<11
theorem mo(h:Sm x)(y:Af):DS x y=Ab:=IK (by have:=h.1;omega) (by have:=h.2;omega)
theorem Sm.of(h:P4 p)(x:Af):Sm (x%p):=⟨Bo _ (by have:=h.pos;omega),by have:=Bj x h.pos;have:=h.hi;omega⟩
theorem Tz{body:D->Rho->O}(I:Rho->Prop)(g:Af->Ak):∀(L:Ac Af),(∀ t∈L,∀ ρ,I ρ->(g t=Ab/\body (.int t) ρ=.ret (.int t) Ad)\/(g t=Ad/\∃ ρ',body (.int t) ρ=.next ρ'/\I ρ'))->∀ ρ,I ρ->(∃ t∈L,g t=Ab/\CD body (L.map D.int) ρ=.ret (.int t) Ad)\/((∀ t∈L,g t=Ad)/\∃ ρ',CD body (L.map D.int) ρ=.next ρ'/\I ρ')
 |[],_,ρ,i=>.inr ⟨(fun _ h=>nomatch h),ρ,rfl,i⟩
 |m::L,h,ρ,i=>by
  rcases h m (AB ..) ρ i with ⟨e1,e2⟩|⟨e1,ρ',e2,i'⟩
  ·refine .inl ⟨m,AB ..,e1,?_⟩;show (body (.int m) ρ).turn _=_;rw[e2];rfl
  ·rcases Tz I g L (fun m' h'=>h m' (Ay _ h')) ρ' i' with ⟨t,ht,a,b⟩|⟨a,r,b,c⟩
   ·refine .inl ⟨t,Ay _ ht,a,?_⟩;show (body (.int m) ρ).turn _=_;rw[e2];exact b
   ·refine .inr ⟨fun t ht=>?_,r,?_,c⟩
    ·rcases Aw.mp ht with rfl|ht
     ·exact e1
     ·exact a t ht
    ·show (body (.int m) ρ).turn _=_;rw[e2];exact b
noncomputable def KS:Ss:=(.cons (.ife (.cmp .Eq (.call 1 (.cons (.var 0) (.cons (.bin .Mult (.var 1) (.var 2)) .nil))) (.int 1)) (.cons (.ret (.var 2)) .nil) .nil) .nil)
noncomputable def Ng:Df:=⟨3,Ad,(.cons (.fors 2 (.rng2 (.int 1) (.var 0)) KS) (.cons (.rais 2 (.cons (.str (AN "a number with the rest 0 is not turned over")) .nil)) .nil))⟩
noncomputable def Gx(p:Af):Ac Af:=(Bb (p-1).toNat).map fun(k:Ag)=>1+(k:Af)
theorem K9:t∈Gx p↔1<=t/\t<p:=by
 unfold Gx;rw[List.mem_map];constructor
 ·rintro⟨k,hk,rfl⟩;have:=Bq.mp hk;omega
 ·rintro⟨h1,h2⟩;exact⟨(t-1).toNat,Bq.mpr (by omega),by omega⟩
theorem Us(h:P4 p):CC 1 p=.ok ((Gx p).map D.int):=by
 rcases h with rfl|rfl|rfl|rfl<;>rfl
theorem mS:∀ p:Fin 12,(p.val=3\/p.val=5\/p.val=7\/p.val=11)->∀ r:Fin 12,r.val<p.val->r.val≠0->∃ t:Fin 12,1<=t.val/\t.val<p.val/\r.val*t.val%p.val=1:=by decide +kernel
theorem Lo{n:Af}(h:P4 p)(hn:n%p≠0):∃ t,1<=t/\t<p/\n*t%p=1:=by
 have p0:0<p/\p<12:=by rcases h with rfl|rfl|rfl|rfl<;>decide
 obtain⟨q,rfl⟩:∃ q:Ag,p=q:=⟨p.toNat,by omega⟩
 have h0:=Bo n (b:=(q:Af)) (by omega)
 have h1:=Bj n p0.1;obtain⟨r,hr⟩:∃ r:Ag,n%(q:Af)=r:=⟨(n%(q:Af)).toNat,by omega⟩
 obtain⟨t,t1,t2,t3⟩:=mS ⟨q,by omega⟩ (by rcases h with e|e|e|e<;>simp<;>omega) ⟨r,by omega⟩ (by show r<q;omega) (by show r≠0;omega)
 refine⟨(t.val:Af),by omega,by show (t.val:Af)<q;exact Int.ofNat_lt.mpr t2,?_⟩
 have e:((r*t.val%q:Ag):Af)=1:=by rw[show r*t.val%q=1 from t3];rfl
 rw[<-e,Int.natCast_emod,Int.natCast_mul,<-hr];exact(BJ n _ _).trans (by rw[BJ (n%(q:Af)) (t.val:Af) (q:Af),Bp n (Ci _)])
theorem DB{r:R D}(h:r=.ok d):Ec Ab r=.ok d:=by rw[h];rfl
def Hh(p n t:Af):Prop:=1<=t/\t<p/\n*t%p=1
theorem T7{n u:Af}(h1:Hh p n t)(h2:Hh p n u):t=u:=by
 have hp:1<p:=by have:=h1.1;have:=h1.2.1;omega
 have e:t%p=u%p:=by
  have a:t%p=t*(n*u)%p:=by rw[BJ,h2.2.2,DD,Bp _ (Ci p)]
  have b:u%p=(n*t)*u%p:=by rw[BJ (n*t) u p,h1.2.2,Dk,Bp _ (Ci p)]
  rw[a,b]
  congr 1
  rw[<-G5,BH t n]
 rw[AV (by have:=h1.1;omega) h1.2.1,AV (by have:=h2.1;omega) h2.2.1]at e
 exact e
theorem C7{c:Af}(hp:P4 p)(hc:c%p≠0)(hx:x%p≠0):c*x%p≠0:=fun z=>by
 obtain⟨t,_,_,e⟩:=Lo hp hc;refine hx ?_;have e1:x%p=(c*t)*x%p:=by rw[BJ (c*t) x p,e,Dk,Bp _ (Ci p)]
 rw[e1,show c*t*x=t*(c*x) by rw[BH c t,G5],BJ,z,C1,Bi]
noncomputable def A5(p:Af):Ac Af->Ap Af
 |[]=>Ae
 |x::xs=>if x%p=0 then A5 p xs else Aa (x%p)
theorem J3{p:Af}:∀{xs:Ac Af},A5 p xs=Ae↔∀ x∈xs,x%p=0
 |[]=>by simp[A5]
 |x::xs=>by
  unfold A5;by_cases h:x%p=0
  ·rw[AA h,J3 (xs:=xs)];simp[h]
  ·rw[AH h];simp[h]
theorem Mo{p l:Af}(hp:0<p):∀{xs:Ac Af},A5 p xs=Aa l->l%p≠0/\0<l/\l<p
 |[],h=>by cases h
 |x::xs,h=>by
  unfold A5 at h;by_cases hx:x%p=0
  ·rw[AA hx]at h;exact Mo hp h
  ·rw[AH hx]at h;cases h;have h0:=Bo x (b:=p) (by omega)
   have h1:=Bj x hp;exact⟨by rw[Bp _ (Ci p)];exact hx,by omega,h1⟩
theorem La{p c:Af}(hp:P4 p)(hc:c%p≠0){f:Af->Af}(hf:∀ x,f x%p=c*x%p):∀ xs:Ac Af,A5 p (xs.map f)=(A5 p xs).map fun l=>c*l%p
 |[]=>rfl
 |x::xs=>by
  rw[Cf];unfold A5;rw[hf x];by_cases hx:x%p=0
  ·rw[AA hx,AA (by rw[BJ,hx,C1,Bi]),La hp hc hf xs]
  ·rw[AH hx,AH (C7 hp hc hx),Ej]
   congr 1
   rw[BJ c (x%p),Bp _ (Ci p),<-BJ]
noncomputable def ds(xs:Ac Af):Ac D:=xs.map D.int
noncomputable def Dd(b:Ak)(xs:Ac Af):D:=if b=Ab then .tup (ds xs) else .lst (ds xs)
theorem Pt(b xs):CS (Dd b xs)=.ok (ds xs):=by unfold Dd;cases b<;>rfl
theorem K1{g:D->R Ak}{f:D->R D}{φ:Af->Af}:∀(xs:Ac Af),(∀ x∈xs,g (.int x)=.ok Ab/\f (.int x)=.ok (.int (φ x)))->BD g f (ds xs)=.ok (ds (xs.map φ))
 |[],_=>rfl
 |x::xs,h=>by
  obtain⟨h1,h2⟩:=h x (AB ..);show (g (.int x)).bind _=_;rw[h1,R.bind_ok,AA rfl,h2,R.bind_ok];show (BD g f (ds xs)).bind _=_;rw[K1 xs fun y hy=>h y (Ay _ hy)]
  rfl
noncomputable def Cm:E:=(.bl Ab)
noncomputable def Pf:E:=(.call 1 (.cons (.var 0) (.cons (.var 5) .nil)))
noncomputable def Pe:E:=(.call 1 (.cons (.var 0) (.cons (.bin .Mult (.var 4) (.var 6)) .nil)))
noncomputable def HC:Ss:=(.cons (.ife (.cmp .NotEq (.var 3) (.int 0)) (.cons (.asg 4 Ad (.call 9 (.cons (.var 0) (.cons (.var 3) .nil)))) (.cons (.ret (.bi .tuple (.cons (.comp Pe 6 (.e (.var 2)) Cm) .nil))) .nil)) .nil) .nil)
noncomputable def Nu:Df:=⟨7,Ad,(.cons (.asg 2 Ad (.comp Pf 5 (.e (.var 1)) Cm)) (.cons (.fors 3 (.e (.var 2)) HC) (.cons (.rais 3 (.cons (.str (AN "all the numbers have the rest 0")) .nil)) .nil)))⟩
noncomputable def fmI(p t:Af)(xs:Ac Af):Ac Af:=xs.map fun x=>t*(x%p)%p
section
variable{Γ:Gam}{p:Af}{xs:Ac Af}{b:Ak}
end
theorem To{g:D->R Ak}{f:D->R D}{q:Af->Ak}:∀(xs:Ac Af),(∀ x∈xs,g (.int x)=.ok (q x)/\f (.int x)=.ok (.int x))->BD g f (ds xs)=.ok (ds (xs.filter q))
 |[],_=>rfl
 |x::xs,h=>by
  obtain⟨h1,h2⟩:=h x (AB ..);have ih:=To xs fun y hy=>h y (Ay _ hy)
  show (g (.int x)).bind _=_;rw[h1,R.bind_ok];cases hq:q x with
  |true=>
   rw[AA rfl,h2,R.bind_ok,D0,hq,AA rfl];show (BD g f (ds xs)).bind _=_;rw[ih];rfl
  |false=>
   rw[AH (by decide),D0,hq,AH (by decide)]
   exact ih
theorem eF{p l t:Af}(it:Hh p l t):((Gx p).filter fun k=>decide (k*l%p=1)).head?=Aa t:=by
 have hm:t∈(Gx p).filter fun k=>decide (k*l%p=1):=BQ.mpr ⟨K9.mpr ⟨it.1,it.2.1⟩,by simp[BH t l,it.2.2]⟩
 cases e:(Gx p).filter fun k=>decide (k*l%p=1) with
 |nil=>rw[e]at hm;cases hm
 |cons u us=>
  have hu:u∈(Gx p).filter fun k=>decide (k*l%p=1):=by rw[e];exact AB ..
  obtain⟨h1,h2⟩:=BQ.mp hu;obtain⟨a,b⟩:=K9.mp h1;have h3:u*l%p=1:=by simpa using h2
  rw[T7 it ⟨a,b,by rw[BH];exact h3⟩]
  rfl
theorem Ua{l:Af}(h:xs.head?=Aa l):Dj (ds xs) 0=.ok (.int l):=by
 cases xs with
 |nil=>cases h
 |cons x xs=>cases h;exact NE (by omega) rfl
noncomputable abbrev own(xs:Ac Af):Sl:=Aa (.lst (ds xs),Ab)
section
variable{Γ:Gam}{ns:Ac Af}{a1 a2 a4 a6 a7 a8 a9 b0 b1 b2 b3 b4:Sl}{p:Af}
end
section
variable{Γ:Gam}{ns:Ac Af}{a1 a4 a6 a7 a8 a9 b2 b3 b4:Sl}{p m:Af}{xs:Ac Af}
end
def Cg(p x y:Af):Prop:=x%p=y%p
section
variable{p a b c d:Af}
theorem Cg.rfl:Cg p a a:=Eq.refl _
theorem Cg.of(h:a=b):Cg p a b:=by unfold Cg;rw[h]
theorem Cg.trans{a b c:Af}(h:Cg p a b)(g:Cg p b c):Cg p a c:=Eq.trans h g
theorem Cg.symm(h:Cg p a b):Cg p b a:=Eq.symm h
theorem Cg.add(h:Cg p a b)(g:Cg p c d):Cg p (a+c) (b+d):=by unfold Cg at *;rw[XS,h,g,<-XS]
theorem Cg.sub(h:Cg p a b)(g:Cg p c d):Cg p (a-c) (b-d):=by unfold Cg at *;rw[XY,h,g,<-XY]
theorem Cg.mul(h:Cg p a b)(g:Cg p c d):Cg p (a*c) (b*d):=by unfold Cg at *;rw[BJ,h,g,<-BJ]
theorem Cg.md(h:a=b%p):Cg p a b:=by unfold Cg;rw[h,Bp _ (Ci p)]
end
theorem IS{p a0 a1 a2 b0 b1 b2 c0 c1 c2 x0 x1 x2 y0 y1 y2 z0 z1 z2:Af}(h0:Cg p a0 x0)(h1:Cg p a1 x1)(h2:Cg p a2 x2)(h3:Cg p b0 y0)(h4:Cg p b1 y1)(h5:Cg p b2 y2)(h6:Cg p c0 z0)(h7:Cg p c1 z1)(h8:Cg p c2 z2):Cg p (a0*(b1*c2-b2*c1)-a1*(b0*c2-b2*c0)+a2*(b0*c1-b1*c0)) (x0*(y1*z2-y2*z1)-x1*(y0*z2-y2*z0)+x2*(y0*z1-y1*z0)):=
 ((h0.mul ((h4.mul h8).sub (h5.mul h7))).sub (h1.mul ((h3.mul h8).sub (h5.mul h6)))).add (h2.mul ((h3.mul h7).sub (h4.mul h6)))
theorem P4.m1(h:P4 p):(-1:Af)%p≠0:=by rcases h with rfl|rfl|rfl|rfl<;>decide
theorem P4.o1(h:P4 p):(1:Af)%p≠0:=by rcases h with rfl|rfl|rfl|rfl<;>decide
abbrev R3:=Af×Af×Af
variable{a y r g y':R3}{pts:Ac R3}
noncomputable def Br(a:R3):D:=.lst [.int a.1,.int a.2.1,.int a.2.2]
noncomputable def Aq(a b c:R3):Af:=det a.1 a.2.1 a.2.2 b.1 b.2.1 b.2.2 c.1 c.2.1 c.2.2
def In3(p:Af)(a:R3):Prop:=(0<=a.1/\a.1<p)/\(0<=a.2.1/\a.2.1<p)/\(0<=a.2.2/\a.2.2<p)
structure GoodR (p:Af) (a b c:R3):Prop where
 p4:P4 p
 ia:In3 p a
 ib:In3 p b
 ic:In3 p c
 nz:Aq a b c%p≠0
theorem GoodR.of{a b c a' b' c':R3}(h:GoodR p a b c)(hk:k%p≠0)(e:Cg p (Aq a' b' c') (k*Aq a b c))(hin:In3 p a'/\In3 p b'/\In3 p c'):GoodR p a' b' c':=⟨h.p4,hin.1,hin.2.1,hin.2.2,by rw[show Aq a' b' c'%p=_ from e];exact C7 h.p4 hk h.nz⟩
noncomputable def Ku(t:Af)(a:R3):R3:=(a.1*t,a.2.1*t,a.2.2*t)
noncomputable def GP(t:Af)(a b:R3):R3:=(a.1+t*b.1,a.2.1+t*b.2.1,a.2.2+t*b.2.2)
noncomputable def mdR(p:Af)(a:R3):R3:=(a.1%p,a.2.1%p,a.2.2%p)
noncomputable def scR(p t:Af)(a:R3):R3:=mdR p (Ku t a)
noncomputable def adR(p t:Af)(a b:R3):R3:=mdR p (GP t a b)
theorem Xv(h:0<p)(a:R3):In3 p (mdR p a):=⟨⟨Bo _ (by omega),Bj _ h⟩,⟨Bo _ (by omega),Bj _ h⟩,⟨Bo _ (by omega),Bj _ h⟩⟩
theorem Lr(h:0<p)(t:Af)(a:R3):In3 p (scR p t a):=Xv h _
theorem LG(h:0<p)(t:Af)(a b:R3):In3 p (adR p t a b):=Xv h _
theorem SG(p t:Af)(a b c:R3):Cg p (Aq (scR p t a) b c) (t*Aq a b c):=by
 refine Cg.trans (b:=Aq (Ku t a) b c) ?_ (Cg.of (by unfold Aq det Ku;grind))
 unfold Aq det;exact IS (Cg.md (by rfl)) (Cg.md (by rfl)) (Cg.md (by rfl)) Cg.rfl Cg.rfl Cg.rfl Cg.rfl Cg.rfl Cg.rfl
theorem cu(p t:Af)(a b c:R3):Cg p (Aq (adR p t a b) b c) (1*Aq a b c):=by
 refine Cg.trans (b:=Aq (GP t a b) b c) ?_ (Cg.of (by unfold Aq det GP;grind))
 unfold Aq det;exact IS (Cg.md (by rfl)) (Cg.md (by rfl)) (Cg.md (by rfl)) Cg.rfl Cg.rfl Cg.rfl Cg.rfl Cg.rfl Cg.rfl
theorem cq(p t:Af)(a b c:R3):Cg p (Aq (adR p t a c) b c) (1*Aq a b c):=by
 refine Cg.trans (b:=Aq (GP t a c) b c) ?_ (Cg.of (by unfold Aq det GP;grind))
 unfold Aq det;exact IS (Cg.md (by rfl)) (Cg.md (by rfl)) (Cg.md (by rfl)) Cg.rfl Cg.rfl Cg.rfl Cg.rfl Cg.rfl Cg.rfl
theorem SD(p t:Af)(a b c:R3):Cg p (Aq a (scR p t b) c) (t*Aq a b c):=by
 refine Cg.trans (b:=Aq a (Ku t b) c) ?_ (Cg.of (by unfold Aq det Ku;grind))
 unfold Aq det;exact IS Cg.rfl Cg.rfl Cg.rfl (Cg.md (by rfl)) (Cg.md (by rfl)) (Cg.md (by rfl)) Cg.rfl Cg.rfl Cg.rfl
theorem cn(p t:Af)(a b c:R3):Cg p (Aq a (adR p t b a) c) (1*Aq a b c):=by
 refine Cg.trans (b:=Aq a (GP t b a) c) ?_ (Cg.of (by unfold Aq det GP;grind))
 unfold Aq det;exact IS Cg.rfl Cg.rfl Cg.rfl (Cg.md (by rfl)) (Cg.md (by rfl)) (Cg.md (by rfl)) Cg.rfl Cg.rfl Cg.rfl
theorem cm(p t:Af)(a b c:R3):Cg p (Aq a (adR p t b c) c) (1*Aq a b c):=by
 refine Cg.trans (b:=Aq a (GP t b c) c) ?_ (Cg.of (by unfold Aq det GP;grind))
 unfold Aq det;exact IS Cg.rfl Cg.rfl Cg.rfl (Cg.md (by rfl)) (Cg.md (by rfl)) (Cg.md (by rfl)) Cg.rfl Cg.rfl Cg.rfl
theorem Sz(p t:Af)(a b c:R3):Cg p (Aq a b (scR p t c)) (t*Aq a b c):=by
 refine Cg.trans (b:=Aq a b (Ku t c)) ?_ (Cg.of (by unfold Aq det Ku;grind))
 unfold Aq det;exact IS Cg.rfl Cg.rfl Cg.rfl Cg.rfl Cg.rfl Cg.rfl (Cg.md (by rfl)) (Cg.md (by rfl)) (Cg.md (by rfl))
theorem ck(p t:Af)(a b c:R3):Cg p (Aq a b (adR p t c a)) (1*Aq a b c):=by
 refine Cg.trans (b:=Aq a b (GP t c a)) ?_ (Cg.of (by unfold Aq det GP;grind))
 unfold Aq det;exact IS Cg.rfl Cg.rfl Cg.rfl Cg.rfl Cg.rfl Cg.rfl (Cg.md (by rfl)) (Cg.md (by rfl)) (Cg.md (by rfl))
theorem ci(p t:Af)(a b c:R3):Cg p (Aq a b (adR p t c b)) (1*Aq a b c):=by
 refine Cg.trans (b:=Aq a b (GP t c b)) ?_ (Cg.of (by unfold Aq det GP;grind))
 unfold Aq det;exact IS Cg.rfl Cg.rfl Cg.rfl Cg.rfl Cg.rfl Cg.rfl (Cg.md (by rfl)) (Cg.md (by rfl)) (Cg.md (by rfl))/-! ### draws -/
theorem qF(h0:0<=k)(h1:k<ns.length):Dj (ns.map D.int) k=.ok (.int (ns.getD k.toNat 0)):=NE h0 (by
 have:k.toNat<ns.length:=by omega
 simp[this])
noncomputable abbrev ownR(a b c:R3):Sl:=Aa (.lst [Br a,Br b,Br c],Ab)
section
variable{Γ:Gam}{ns:Ac Af}{at_ many s5 s0 s1 s2:Sl}{p t m:Af}{a b c:R3}
end
section
variable{Γ:Gam}{ns:Ac Af}{many s5 s6 s7 s8 s9 s0 s1 s2:Sl}{p:Af}{a b c:R3}
end
noncomputable def Kq(a b c:R3):D:=.lst [Br a,Br b,Br c]
noncomputable def cQ(a b c:R3):Ac Af:=[a.1,a.2.1,a.2.2,b.1,b.2.1,b.2.2,c.1,c.2.1,c.2.2]
noncomputable def fmR(p t:Af)(a:R3):R3:=(t*(a.1%p)%p,t*(a.2.1%p)%p,t*(a.2.2%p)%p)
def Bd(n:Ag)(x:Af):Prop:=x.natAbs<2 ^ n
theorem Bd.mul{y:Af}(h:Bd m x)(g:Bd n y):Bd (m+n) (x*y):=by
 unfold Bd at *;rw[Int.natAbs_mul,Nat.pow_add];exact Nat.mul_lt_mul'' h g
theorem Bd.sub{y:Af}(h:Bd n x)(g:Bd n y):Bd (n+1) (x-y):=by
 unfold Bd at *;rw[Nat.pow_succ];omega
theorem GL{y:Af}(h:Bd m x)(g:Bd n y)(hm:m<=2000)(hn:n<=2000):EM x y=Ab:=by
 unfold EM Bd at *;rw[Aj,AZ,AZ];exact⟨AJ h (Gk (by decide) hm),AJ g (Gk (by decide) hn)⟩
def B3(a:R3):Prop:=Bd 300 a.1/\Bd 300 a.2.1/\Bd 300 a.2.2
noncomputable def Au(q:Ak)(a:R3):D:=Dd q [a.1,a.2.1,a.2.2]
theorem IQ(q:Ak)(a:R3):Bx (Au q a) (.int 0)=.ok (.int a.1)/\Bx (Au q a) (.int 1)=.ok (.int a.2.1)/\Bx (Au q a) (.int 2)=.ok (.int a.2.2):=by cases q<;>exact⟨rfl,rfl,rfl⟩
def Ke(Γ:Gam):Prop:=∀(p:Af)(q:Ak)(a b c:R3),0<p->B3 a->B3 b->B3 c->Γ.F 61 [.int p,Au q a,Au q b,Au q c]=.ok (.int (Aq a b c%p))
theorem kJ(h:Kg Γ)(p:Af)(q:Ak)(a b c:R3)(hp:0<p)(ha:B3 a)(hb:B3 b)(hc:B3 c):PB.run Γ [.int p,Au q a,Au q b,Au q c]=.ok (.int (Aq a b c%p)):=by
 obtain⟨a0,a1,a2⟩:=IQ q a;obtain⟨b0,b1,b2⟩:=IQ q b;obtain⟨c0,c1,c2⟩:=IQ q c;have k:∀ {x y},Bd 300 x->Bd 300 y->EM x y=Ab:=fun hx hy=>GL hx hy (by decide) (by decide)
 have k2:∀ {x y z u v},Bd 300 x->Bd 300 y->Bd 300 z->Bd 300 u->Bd 300 v->EM x (y*z-u*v)=Ab:=fun hx hy hz hu hv=>GL hx ((hy.mul hz).sub (hu.mul hv)) (by decide) (by decide)
 simp[PB,Df.run,Bv,a0,a1,a2,b0,b1,b2,c0,c1,c2,k hb.2.1 hc.2.2,k hb.2.2 hc.2.1,k hb.1 hc.2.2,k hb.2.2 hc.1,k hb.1 hc.2.1,k hb.2.1 hc.1,k2 ha.1 hb.2.1 hc.2.2 hb.2.2 hc.2.1,k2 ha.2.1 hb.1 hc.2.2 hb.2.2 hc.1,k2 ha.2.2 hb.1 hc.2.1 hb.2.1 hc.1,h p _ hp];rfl
section
variable{Γ:Gam}{ns:Ac Af}{p t:Af}{a b c r:R3}{made s6 s7:Sl}
end
theorem Nr{p:Af}:∀{xs ys:Ac Af},xs.map (fun x=>x%p)=ys.map (fun x=>x%p)->A5 p xs=A5 p ys
 |[],[],_=>rfl
 |x::xs,y::ys,h=>by
  rw[Cf,Cf,X5]at h;unfold A5;rw[h.1,Nr h.2]
 |[],_::_,h=>by simp at h
 |_::_,[],h=>by simp at h
theorem jJ{ys:Ac Af}(h:xs.map (fun x=>x%p)=ys.map (fun x=>x%p)):fmI p t xs=fmI p t ys:=by
 have e:∀ zs:Ac Af,fmI p t zs=(zs.map fun x=>x%p).map fun r=>t*r%p:=fun zs=>by simp[fmI,Gg,Hi]
 rw[e,e,h]
theorem cx(hp:0<p)(t:Af)(a:R3):In3 p (fmR p t a):=⟨⟨Bo _ (by omega),Bj _ hp⟩,⟨Bo _ (by omega),Bj _ hp⟩,⟨Bo _ (by omega),Bj _ hp⟩⟩
section
variable{Γ:Gam}{ns:Ac Af}{p m:Af}{a b c:R3}{fa fb fc:R3}{q:Ak}{s9 s0 s1 s2:Sl}
end
def PC(Γ:Gam):Prop:=∀ p n:Af,P4 p->n%p≠0->∃ t,1<=t/\t<p/\n*t%p=1/\Γ.F 9 [.int p,.int n]=.ok (.int t)
def NN(Γ:Gam):Prop:=∀(p:Af)(b:Ak)(xs:Ac Af)(l t:Af),P4 p->A5 p xs=Aa l->Hh p l t->Γ.F 17 [.int p,Dd b xs]=.ok (.tup (ds (fmI p t xs)))
theorem eV(hr:Kg Γ)(p n:Af)(hp:P4 p)(z:n%p≠0):∃ t,1<=t/\t<p/\n*t%p=1/\Ng.run Γ [.int p,.int n]=.ok (.int t):=by
 have p0:=hp.pos;have ph:=hp.hi;have body:∀ t∈Gx p,∀ ρ,(∃ s,ρ=[si p,si n,s])->(decide (n*t%p=1)=Ab/\By Γ 2 KS (.int t) ρ=.ret (.int t) Ad)\/(decide (n*t%p=1)=Ad/\∃ ρ',By Γ 2 KS (.int t) ρ=.next ρ'/\∃ s,ρ'=[si p,si n,s]):=by
  rintro t ht ρ ⟨s,rfl⟩;obtain⟨t1,t2⟩:=K9.mp ht;have m:DS n t=Ab:=Qm (by omega) (by omega)
  by_cases e:n*t%p=1
  ·exact .inl ⟨by simp[e],by simp[By,KS,hr p (n*t) p0,m,e,DN]⟩
  ·exact .inr ⟨by simp[e],_,by simp[By,KS,hr p (n*t) p0,m,e];rfl,_,rfl⟩
 have run:∀ o,CD (By Γ 2 KS) ((Gx p).map D.int) [si p,si n,Ae]=o->Ng.run Γ [.int p,.int n]=(Ga Γ (.cons (.rais 2 (.cons (.str (AN "a number with the rest 0 is not turned over")) .nil)) .nil) o).ans Ad:=by
  rintro o rfl;simp[Ng,Df.run,Bv,Us hp]
 rcases Tz (fun ρ=>∃ s,ρ=[si p,si n,s]) (fun t=>decide (n*t%p=1)) (Gx p) body [si p,si n,Ae] ⟨_,rfl⟩ with ⟨t,ht,a,b⟩|⟨a,r,b,s,rfl⟩
 ·obtain⟨t1,t2⟩:=K9.mp ht;have a':n*t%p=1:=by simpa using a
  exact⟨t,t1,t2,a',by rw[run _ b];rfl⟩
 ·obtain⟨t,t1,t2,e⟩:=Lo hp z;have:=a t (K9.mpr ⟨t1,t2⟩);simp[e]at this
section
variable{Γ:Gam}{p:Af}{xs:Ac Af}{b:Ak}
theorem UG(hr:Kg Γ)(ht:PC Γ)(hp:P4 p)(rs:Ac Af):∀(ys:Ac Af),(∀ y∈ys,0<=y/\y<p)->∀ s3,(A5 p ys=Ae->∃ s3',CD (By Γ 3 HC) (ds ys) [si p,sh (Dd b xs),sh (.lst (ds rs)),s3,Ae,Ae,Ae]=.next [si p,sh (Dd b xs),sh (.lst (ds rs)),s3',Ae,Ae,Ae])/\(∀ l t,A5 p ys=Aa l->Hh p l t->CD (By Γ 3 HC) (ds ys) [si p,sh (Dd b xs),sh (.lst (ds rs)),s3,Ae,Ae,Ae]=.ret (.tup (ds (rs.map fun r=>t*r%p))) Ad)
 |[],_,s3=>⟨fun _=>⟨s3,rfl⟩,(fun l t h=>nomatch h)⟩
 |y::ys,hy,s3=>by
  obtain⟨y0,y1⟩:=hy y (AB ..);have ym:y%p=y:=AV y0 y1;have ih:=UG hr ht hp rs ys (fun z hz=>hy z (Ay _ hz)) (si y)
  have step:∀ o,By Γ 3 HC (.int y) [si p,sh (Dd b xs),sh (.lst (ds rs)),s3,Ae,Ae,Ae]=o->CD (By Γ 3 HC) (ds (y::ys)) [si p,sh (Dd b xs),sh (.lst (ds rs)),s3,Ae,Ae,Ae]=o.turn (CD (By Γ 3 HC) (ds ys)):=by
   rintro o rfl;rfl
  unfold A5;rw[ym];by_cases hz:y=0
  ·have e:By Γ 3 HC (.int y) [si p,sh (Dd b xs),sh (.lst (ds rs)),s3,Ae,Ae,Ae]=.next [si p,sh (Dd b xs),sh (.lst (ds rs)),si y,Ae,Ae,Ae]:=by
    simp[By,HC,hz]
   rw[AA hz,step _ e];exact ih
  ·rw[AH hz];refine⟨(fun z=>nomatch z),fun l t e it=>?_⟩
   cases e;obtain⟨u,u1,u2,u3,u4⟩:=ht p y hp (by rw[ym];exact hz)
   have:t=u:=T7 it ⟨u1,u2,u3⟩;subst this;have p0:=hp.pos;have ph:=hp.hi;have cp:BD (cG Γ [si p,sh (Dd b xs),sh (.lst (ds rs)),si y,si t,Ae,Ae] 6 Cm) (cF Γ [si p,sh (Dd b xs),sh (.lst (ds rs)),si y,si t,Ae,Ae] 6 Pe) (ds rs)=.ok (ds (rs.map fun r=>t*r%p)):=by
    refine K1 rs fun r _=>⟨rfl,?_⟩
    have m:DS t r=Ab:=IK (by omega) (by omega)
    simp[cF,Pe,m,hr p (t*r) p0]
   have e:By Γ 3 HC (.int y) [si p,sh (Dd b xs),sh (.lst (ds rs)),s3,Ae,Ae,Ae]=.ret (.tup (ds (rs.map fun r=>t*r%p))) Ad:=by
    simp[By,HC,hz,u4,cp,DN]
   rw[step _ e];rfl
theorem kK(hr:Kg Γ)(ht:PC Γ)(hp:P4 p){l t:Af}(e:A5 p xs=Aa l)(it:Hh p l t):Nu.run Γ [.int p,Dd b xs]=.ok (.tup (ds (fmI p t xs))):=by
 have p0:=hp.pos;have cp:BD (cG Γ [si p,sh (Dd b xs),Ae,Ae,Ae,Ae,Ae] 5 Cm) (cF Γ [si p,sh (Dd b xs),Ae,Ae,Ae,Ae,Ae] 5 Pf) (ds xs)=.ok (ds (xs.map fun x=>x%p)):=by
  refine K1 xs fun x _=>⟨rfl,?_⟩
  simp[cF,Pf,hr p x p0]
 have run:∀ o,CD (By Γ 3 HC) (ds (xs.map fun x=>x%p)) [si p,sh (Dd b xs),sh (.lst (ds (xs.map fun x=>x%p))),Ae,Ae,Ae,Ae]=o->Nu.run Γ [.int p,Dd b xs]=(Ga Γ (.cons (.rais 3 (.cons (.str (AN "all the numbers have the rest 0")) .nil)) .nil) o).ans Ad:=by
  rintro o rfl;simp[Nu,Df.run,Bv,Pt,cp]
 have le:A5 p (xs.map fun x=>x%p)=A5 p xs:=by
  have:=La (c:=1) hp (by rcases hp with rfl|rfl|rfl|rfl<;>decide) (f:=fun x=>x%p) (fun x=>by rw[Dk,Bp _ (Ci p)]) xs
  rw[this];cases e:A5 p xs with
  |none=>rfl
  |some l=>
   obtain⟨_,l0,l1⟩:=Mo p0 e;simp[AV (Int.le_of_lt l0) l1]
 obtain⟨a,c⟩:=UG (b:=b) (xs:=xs) hr ht hp (xs.map fun x=>x%p) (xs.map fun x=>x%p) (fun y hy=>by
  obtain⟨x,_,rfl⟩:=Dm.mp hy;exact⟨Bo _ (by omega),Bj _ p0⟩) Ae
 rw[le]at a c;rw[run _ (c l t e it)];simp[fmI,Gg,Hi]
end
noncomputable def ES(a b c:R3):R3:=(a.1,b.1,c.1)
noncomputable def ER(a b c:R3):R3:=(a.2.1,b.2.1,c.2.1)
noncomputable def EQ(a b c:R3):R3:=(a.2.2,b.2.2,c.2.2)
noncomputable def AU(a x:R3):Af:=a.1*x.1+a.2.1*x.2.1+a.2.2*x.2.2
noncomputable def crs(a b:R3):R3:=(a.2.1*b.2.2-a.2.2*b.2.1,a.2.2*b.1-a.1*b.2.2,a.1*b.2.1-a.2.1*b.1)
theorem VF:∀ xs ys:Ac Af,eqDs (ds xs) (ds ys)=decide (xs=ys)
 |[],[]=>rfl
 |[],_::_=>rfl
 |_::_,[]=>rfl
 |x::xs,y::ys=>by
  show ((x==y)&&eqDs (ds xs) (ds ys))=_;rw[VF xs ys,DH];simp
theorem ML(a b:R3):eqD (Au Ab a) (Au Ab b)=decide (a=b):=by
 show eqDs (ds [a.1,a.2.1,a.2.2]) (ds [b.1,b.2.1,b.2.2])=_;rw[VF,DH];simp only[X5,GR,AZ];exact⟨fun ⟨h1,h2,h3⟩=>by obtain⟨a1,a2,a3⟩:=a;obtain⟨b1,b2,b3⟩:=b;simp at h1 h2 h3;rw[h1,h2,h3],fun h=>by rw[h];exact⟨rfl,rfl,rfl⟩⟩
def QH(Γ:Gam):Prop:=∀ a b:R3,B3 a->B3 b->a≠b->Γ.F 23 [Au Ab a,Au Ab b]=.ok (Au Ab (crs a b))
noncomputable def bk0(a b c:R3):R3:=ES (crs b c) (crs c a) (crs a b)
noncomputable def bk1(a b c:R3):R3:=ER (crs b c) (crs c a) (crs a b)
noncomputable def bk2(a b c:R3):R3:=EQ (crs b c) (crs c a) (crs a b)
theorem MR(hp:P4 p)(h0:0<=x)(h1:x<p):Bd 10 x:=by
 unfold Bd;have:=hp.hi;omega
theorem Bd.mono(h:Bd m x)(hm:m<=n):Bd n x:=AJ h (Gk (by decide) hm)
def Bn(n:Ag)(a:R3):Prop:=Bd n a.1/\Bd n a.2.1/\Bd n a.2.2
theorem Bn.b3(h:Bn n a)(hn:n<=300):B3 a:=⟨h.1.mono hn,h.2.1.mono hn,h.2.2.mono hn⟩
theorem FC(hp:P4 p)(h:In3 p a):Bn 10 a:=⟨MR hp h.1.1 h.1.2,MR hp h.2.1.1 h.2.1.2,MR hp h.2.2.1 h.2.2.2⟩
theorem br{a b:R3}(ha:Bn n a)(hb:Bn n b):Bn (n+n+1) (crs a b):=
 ⟨(ha.2.1.mul hb.2.2).sub (ha.2.2.mul hb.2.1),(ha.2.2.mul hb.1).sub (ha.1.mul hb.2.2),(ha.1.mul hb.2.1).sub (ha.2.1.mul hb.1)⟩
theorem Q9(a b c:R3):Aq (bk0 a b c) (bk1 a b c) (bk2 a b c)=Aq a b c*Aq a b c:=by
 unfold Aq det bk0 bk1 bk2 ES ER EQ crs;grind
noncomputable def BW(k:Af)(a:R3):R3:=(k*a.1,k*a.2.1,k*a.2.2)
noncomputable def fk0(p:Af)(a b c d:R3):Af:=Aq d b c%p
noncomputable def fs0(p:Af)(a b c d:R3):R3:=BW (fk0 p a b c d) a
noncomputable def HB:Ss:=(.cons (.ife (.cmp .Eq (.call 61 (.cons (.var 0) (.cons (.var 3) (.cons (.idx (.var 1) (.var 4)) (.cons (.idx (.var 1) (.var 5)) .nil))))) (.int 0)) (.cons (.ret (.tup (.cons (.var 3) (.cons (.idx (.var 1) (.var 4)) (.cons (.idx (.var 1) (.var 5)) .nil))))) .nil) .nil) .nil)
noncomputable def Ic:Ss:=(.cons (.fors 5 (.rng2 (.bin .Add (.var 4) (.int 1)) (.bi .len (.cons (.var 1) .nil))) HB) .nil)
noncomputable def Gv:Ss:=(.cons (.fors 4 (.rng2 (.bin .Add (.var 2) (.int 1)) (.bi .len (.cons (.var 1) .nil))) Ic) .nil)
noncomputable def KY:Df:=⟨6,Ad,(.cons (.forT [2,3] (.enm (.var 1)) Gv) (.cons (.ret .non) .nil))⟩
def bD(p:Af)(a b c d:R3):Prop:=Aq a b c%p≠0/\Aq a b d%p≠0/\Aq a c d%p≠0/\Aq b c d%p≠0
def CgR(p:Af)(x y:R3):Prop:=Cg p x.1 y.1/\Cg p x.2.1 y.2.1/\Cg p x.2.2 y.2.2
section
variable{p:Af}{a b c a' b' c' x y z x':R3}{k l m k':Af}
theorem CgR.rfl:CgR p a a:=⟨Cg.rfl,Cg.rfl,Cg.rfl⟩
theorem CgR.of(h:a=b):CgR p a b:=by rw[h];exact CgR.rfl
theorem CgR.trans(h:CgR p a b)(g:CgR p b c):CgR p a c:=⟨h.1.trans g.1,h.2.1.trans g.2.1,h.2.2.trans g.2.2⟩
theorem CgR.symm(h:CgR p a b):CgR p b a:=⟨h.1.symm,h.2.1.symm,h.2.2.symm⟩
theorem CgR.sc(hk:Cg p k k')(h:CgR p a b):CgR p (BW k a) (BW k' b):=⟨hk.mul h.1,hk.mul h.2.1,hk.mul h.2.2⟩
theorem JA(ha:CgR p a a')(hb:CgR p b b'):Cg p (AU a b) (AU a' b'):=((ha.1.mul hb.1).add (ha.2.1.mul hb.2.1)).add (ha.2.2.mul hb.2.2)
theorem wE(ha:CgR p a a')(hb:CgR p b b')(hc:CgR p c c'):CgR p (ES a b c) (ES a' b' c')/\CgR p (ER a b c) (ER a' b' c')/\CgR p (EQ a b c) (EQ a' b' c'):=⟨⟨ha.1,hb.1,hc.1⟩,⟨ha.2.1,hb.2.1,hc.2.1⟩,⟨ha.2.2,hb.2.2,hc.2.2⟩⟩
theorem wD(ha:CgR p a a')(hb:CgR p b b'):CgR p (crs a b) (crs a' b'):=
 ⟨(ha.2.1.mul hb.2.2).sub (ha.2.2.mul hb.2.1),(ha.2.2.mul hb.1).sub (ha.1.mul hb.2.2),(ha.1.mul hb.2.1).sub (ha.2.1.mul hb.1)⟩
theorem cy(p t:Af)(a:R3):CgR p (fmR p t a) (BW t a):=by
 have key:∀ x:Af,Cg p (t*(x%p)%p) (t*x):=fun x=>(Cg.md _root_.rfl).trans (Cg.rfl.mul (Cg.md _root_.rfl))
 exact⟨key _,key _,key _⟩
noncomputable def rm(a x y z:R3):R3:=(AU (ES x y z) a,AU (ER x y z) a,AU (EQ x y z) a)
noncomputable def ap(a b c x:R3):R3:=(AU a x,AU b x,AU c x)
theorem Rh(k l:Af)(x:R3):BW k (BW l x)=BW (k*l) x:=by
 unfold BW;simp only[G5]
theorem cb(a b c x:R3)(k:Af):ap a b c (BW k x)=BW k (ap a b c x):=by
 unfold ap BW AU;refine BF ?_ (BF ?_ ?_)<;>(simp only;grind)
end
section
variable{p:Af}{a b c f0 f1 f2 f3 g0 g1 g2 g3:R3}{d0 d1 d2 d3:Af}
end
section
variable{Γ:Gam}{ns:Ac Af}
end
section
variable{Γ:Gam}{ns:Ac Af}{many s5 s6 s7 s8 s9 s0 s1 s2:Sl}{p:Af}{a b c:R3}
end
noncomputable def Pi:E:=(.call 1 (.cons (.var 0) (.cons (.var 3) .nil)))
noncomputable def Ps:Df:=⟨4,Ad,(.cons (.asg 2 Ad (.comp Pi 3 (.e (.var 1)) Cm)) (.cons (.ife (.no (.bi .any (.cons (.var 2) .nil))) (.cons (.rais 5 (.cons (.str (AN "all six numbers have the rest 0")) .nil)) .nil) .nil) (.cons (.ret (.call 17 (.cons (.var 0) (.cons (.var 2) .nil)))) .nil)))⟩
theorem U0:∀ xs:Ac Af,FQ (ds xs)=.ok (xs.any fun x=>x != 0)
 |[]=>rfl
 |x::xs=>by
  show (FR (.int x)).bind (fun b=>(FQ (ds xs)).bind fun c=>.ok (b||c))=_
  rw[U0 xs];rfl
theorem Uj{p:Af}(hp:0<p):∀ xs:Ac Af,((xs.map fun x=>x%p).any fun x=>x != 0)=(A5 p xs).isSome
 |[]=>rfl
 |x::xs=>by
  unfold A5;rw[Cf,G6];by_cases h:x%p=0
  ·rw[AA h,h,Uj hp xs];rfl
  ·rw[AH h];simp[h]
theorem Xu(xs:Ac Af):(xs.map fun x=>x%p).map (fun x=>x%p)=xs.map fun x=>x%p:=by
 rw[Gg];refine E3 fun x _=>?_
 show x%p%p=x%p;rw[Bp _ (Ci p)]
def InL(p:Af)(xs:Ac Af):Prop:=∀ x∈xs,0<=x/\x<p
theorem InL.set(h:InL p xs)(k:Ag)(h0:0<=v)(h1:v<p):InL p (xs.set k v):=fun x hx=>by
 rcases Yl hx with z|rfl
 ·exact h x z
 ·exact⟨h0,h1⟩
section
variable{Γ:Gam}{ns:Ac Af}{p at_:Af}
end
section
variable{Γ:Gam}{ns:Ac Af}{p t:Af}
end
structure C6 where
 c0:Af
 c1:Af
 c2:Af
 c3:Af
 c4:Af
 c5:Af
variable{C:C6}
noncomputable def C6.l(C:C6):Ac Af:=[C.c0,C.c1,C.c2,C.c3,C.c4,C.c5]
noncomputable def Cj(C:C6):D:=.tup (ds C.l)
noncomputable def vI(C:C6)(x:R3):Af:=C.c0*x.1*x.1+C.c1*x.2.1*x.2.1+C.c2*x.2.2*x.2.2+(C.c3*x.1*x.2.1+C.c4*x.1*x.2.2+C.c5*x.2.1*x.2.2)
noncomputable def tw0(C:C6):R3:=(2*C.c0,C.c3,C.c4)
noncomputable def tw1(C:C6):R3:=(C.c3,2*C.c1,C.c5)
noncomputable def tw2(C:C6):R3:=(C.c4,C.c5,2*C.c2)
noncomputable def bI(C:C6)(x y:R3):Af:=AU (ap (tw0 C) (tw1 C) (tw2 C) x) y
noncomputable def scC(k:Af)(C:C6):C6:=⟨k*C.c0,k*C.c1,k*C.c2,k*C.c3,k*C.c4,k*C.c5⟩
def CgC(p:Af)(C D:C6):Prop:=Cg p C.c0 D.c0/\Cg p C.c1 D.c1/\Cg p C.c2 D.c2/\Cg p C.c3 D.c3/\Cg p C.c4 D.c4/\Cg p C.c5 D.c5
noncomputable def pb(C:C6)(a b c:R3):C6:=⟨vI C (ES a b c),vI C (ER a b c),vI C (EQ a b c),bI C (ES a b c) (ER a b c),bI C (ES a b c) (EQ a b c),bI C (ER a b c) (EQ a b c)⟩
section
variable{p:Af}{C D E:C6}{a b c a' b' c' x y x' y':R3}{k k':Af}
theorem C6.ext'(h0:C.c0=D.c0)(h1:C.c1=D.c1)(h2:C.c2=D.c2)(h3:C.c3=D.c3)(h4:C.c4=D.c4)(h5:C.c5=D.c5):C=D:=by
 cases C;cases D;simp_all
theorem CgC.rfl:CgC p C C:=⟨Cg.rfl,Cg.rfl,Cg.rfl,Cg.rfl,Cg.rfl,Cg.rfl⟩
theorem CgC.of(h:C=D):CgC p C D:=by rw[h];exact CgC.rfl
theorem CgC.symm(h:CgC p C D):CgC p D C:=⟨h.1.symm,h.2.1.symm,h.2.2.1.symm,h.2.2.2.1.symm,h.2.2.2.2.1.symm,h.2.2.2.2.2.symm⟩
theorem CgC.trans(h:CgC p C D)(g:CgC p D E):CgC p C E:=⟨h.1.trans g.1,h.2.1.trans g.2.1,h.2.2.1.trans g.2.2.1,h.2.2.2.1.trans g.2.2.2.1,h.2.2.2.2.1.trans g.2.2.2.2.1,h.2.2.2.2.2.trans g.2.2.2.2.2⟩
theorem CgC.sc(hk:Cg p k k')(h:CgC p C D):CgC p (scC k C) (scC k' D):=⟨hk.mul h.1,hk.mul h.2.1,hk.mul h.2.2.1,hk.mul h.2.2.2.1,hk.mul h.2.2.2.2.1,hk.mul h.2.2.2.2.2⟩
theorem Ih(h:CgC p C D)(hx:CgR p x x'):Cg p (vI C x) (vI D x'):=
 (((((h.1.mul hx.1).mul hx.1).add ((h.2.1.mul hx.2.1).mul hx.2.1)).add ((h.2.2.1.mul hx.2.2).mul hx.2.2))).add ((((h.2.2.2.1.mul hx.1).mul hx.2.1).add ((h.2.2.2.2.1.mul hx.1).mul hx.2.2)).add ((h.2.2.2.2.2.mul hx.2.1).mul hx.2.2))
theorem xM(h:CgC p C D):CgR p (tw0 C) (tw0 D)/\CgR p (tw1 C) (tw1 D)/\CgR p (tw2 C) (tw2 D):=
 ⟨⟨Cg.rfl.mul h.1,h.2.2.2.1,h.2.2.2.2.1⟩,⟨h.2.2.2.1,Cg.rfl.mul h.2.1,h.2.2.2.2.2⟩,⟨h.2.2.2.2.1,h.2.2.2.2.2,Cg.rfl.mul h.2.2.1⟩⟩
theorem vV(ha:CgR p a a')(hb:CgR p b b')(hc:CgR p c c')(hx:CgR p x x'):CgR p (ap a b c x) (ap a' b' c' x'):=⟨JA ha hx,JA hb hx,JA hc hx⟩
theorem Ru(h:CgC p C D)(hx:CgR p x x')(hy:CgR p y y'):Cg p (bI C x y) (bI D x' y'):=
 let ⟨t0,t1,t2⟩:=xM h
 JA (vV t0 t1 t2 hx) hy
theorem Xq(h:CgC p C D)(ha:CgR p a a')(hb:CgR p b b')(hc:CgR p c c'):CgC p (pb C a b c) (pb D a' b' c'):=
 let ⟨s0,s1,s2⟩:=wE ha hb hc
 ⟨Ih h s0,Ih h s1,Ih h s2,Ru h s0 s1,Ru h s0 s2,Ru h s1 s2⟩
theorem QP(k l:Af)(C:C6):scC k (scC l C)=scC (k*l) C:=by
 unfold scC;simp only[G5]
theorem NP(C:C6):scC 1 C=C:=by unfold scC;simp only[Dk]
theorem b8(k:Af)(C:C6)(a b c:R3):pb (scC k C) a b c=scC k (pb C a b c):=by
 unfold pb scC vI bI ap tw0 tw1 tw2 AU;refine C6.ext' ?_ ?_ ?_ ?_ ?_ ?_<;>(simp only;grind)
theorem Wy(C:C6)(x y z:R3)(k l m:Af):vI C (k*x.1+l*y.1+m*z.1,k*x.2.1+l*y.2.1+m*z.2.1,k*x.2.2+l*y.2.2+m*z.2.2)=k*k*vI C x+l*l*vI C y+m*m*vI C z+(k*l*bI C x y+k*m*bI C x z+l*m*bI C y z):=by
 unfold vI bI ap tw0 tw1 tw2 AU;simp only;grind
theorem V4(C:C6)(x y z w:R3)(k l m:Af):bI C (k*x.1+l*y.1+m*z.1,k*x.2.1+l*y.2.1+m*z.2.1,k*x.2.2+l*y.2.2+m*z.2.2) w=k*bI C x w+l*bI C y w+m*bI C z w:=by
 unfold bI ap tw0 tw1 tw2 AU;simp only;grind
theorem NL(C:C6)(x y:R3):bI C x y=bI C y x:=by
 unfold bI ap tw0 tw1 tw2 AU;simp only;grind
theorem QE(C:C6)(x:R3):bI C x x=2*vI C x:=by
 unfold vI bI ap tw0 tw1 tw2 AU;simp only;grind
theorem zT(v0 v1 v2 b0 b1 b2:Af)(u:R3):vI ⟨v0,v1,v2,b0,b1,b2⟩ u=u.1*u.1*v0+u.2.1*u.2.1*v1+u.2.2*u.2.2*v2+(u.1*u.2.1*b0+u.1*u.2.2*b1+u.2.1*u.2.2*b2):=by
 unfold vI;simp only;grind
theorem zU(v0 v1 v2 b0 b1 b2:Af)(u w:R3):bI ⟨v0,v1,v2,b0,b1,b2⟩ u w=u.1*(w.1*(2*v0)+w.2.1*b0+w.2.2*b1)+u.2.1*(w.1*b0+w.2.1*(2*v1)+w.2.2*b2)+u.2.2*(w.1*b1+w.2.1*b2+w.2.2*(2*v2)):=by
 unfold bI ap tw0 tw1 tw2 AU;simp only;grind
theorem bX(C:C6)(s0 s1 s2 u:R3):vI C (u.1*s0.1+u.2.1*s1.1+u.2.2*s2.1,u.1*s0.2.1+u.2.1*s1.2.1+u.2.2*s2.2.1,u.1*s0.2.2+u.2.1*s1.2.2+u.2.2*s2.2.2)=vI ⟨vI C s0,vI C s1,vI C s2,bI C s0 s1,bI C s0 s2,bI C s1 s2⟩ u:=by
 exact(Wy C s0 s1 s2 u.1 u.2.1 u.2.2).trans (zT _ _ _ _ _ _ u).symm
theorem bY(C:C6)(s0 s1 s2 u w:R3):bI C (u.1*s0.1+u.2.1*s1.1+u.2.2*s2.1,u.1*s0.2.1+u.2.1*s1.2.1+u.2.2*s2.2.1,u.1*s0.2.2+u.2.1*s1.2.2+u.2.2*s2.2.2) (w.1*s0.1+w.2.1*s1.1+w.2.2*s2.1,w.1*s0.2.1+w.2.1*s1.2.1+w.2.2*s2.2.1,w.1*s0.2.2+w.2.1*s1.2.2+w.2.2*s2.2.2)=bI ⟨vI C s0,vI C s1,vI C s2,bI C s0 s1,bI C s0 s2,bI C s1 s2⟩ u w:=by
 have e:∀ s:R3,bI C s (w.1*s0.1+w.2.1*s1.1+w.2.2*s2.1,w.1*s0.2.1+w.2.1*s1.2.1+w.2.2*s2.2.1,w.1*s0.2.2+w.2.1*s1.2.2+w.2.2*s2.2.2)=w.1*bI C s0 s+w.2.1*bI C s1 s+w.2.2*bI C s2 s:=fun s=>(NL C _ _).trans (V4 C s0 s1 s2 s w.1 w.2.1 w.2.2)
 refine Eq.trans ?_ (zU _ _ _ _ _ _ u w).symm;rw[V4,e,e,e,QE C s0,QE C s1,QE C s2,NL C s1 s0,NL C s2 s0,NL C s2 s1]
theorem b9(C:C6)(a b c x y z:R3):pb (pb C a b c) x y z=pb C (rm a x y z) (rm b x y z) (rm c x y z):=by
 have v:=fun u=>(bX C (ES a b c) (ER a b c) (EQ a b c) u).symm
 have w:=fun u u'=>(bY C (ES a b c) (ER a b c) (EQ a b c) u u').symm
 exact C6.ext' (v (ES x y z)) (v (ER x y z)) (v (EQ x y z)) (w (ES x y z) (ER x y z)) (w (ES x y z) (EQ x y z)) (w (ER x y z) (EQ x y z))
theorem bg(C:C6)(k:Af):pb C (k,0,0) (0,k,0) (0,0,k)=scC (k*k) C:=by
 unfold pb scC vI bI ap tw0 tw1 tw2 AU ES ER EQ;refine C6.ext' ?_ ?_ ?_ ?_ ?_ ?_<;>(simp only;grind)
theorem tY(a b c:R3):rm a (bk0 a b c) (bk1 a b c) (bk2 a b c)=(Aq a b c,0,0)/\rm b (bk0 a b c) (bk1 a b c) (bk2 a b c)=(0,Aq a b c,0)/\rm c (bk0 a b c) (bk1 a b c) (bk2 a b c)=(0,0,Aq a b c):=by
 unfold rm AU bk0 bk1 bk2 ES ER EQ crs Aq det;refine⟨?_,?_,?_⟩<;>refine BF ?_ (BF ?_ ?_)<;>(simp only;grind)
def PrC(p:Af)(C D:C6):Prop:=∃ d,d%p≠0/\CgC p C (scC d D)
theorem PrC.rfl(hp:P4 p):PrC p C C:=⟨1,hp.o1,CgC.of (NP C).symm⟩
theorem PrC.trans(hp:P4 p)(i:PrC p C D)(j:PrC p D E):PrC p C E:=by
 obtain⟨d,dz,e⟩:=i;obtain⟨d',dz',e'⟩:=j;exact⟨d*d',C7 hp dz dz',e.trans ((CgC.sc Cg.rfl e').trans (CgC.of (QP _ _ _)))⟩
theorem Wj(hp:P4 p)(dz:k%p≠0):∃ u,u%p≠0/\Cg p (u*k) 1:=by
 obtain⟨u,u1,u2,u3⟩:=Lo hp dz;refine⟨u,by rw[AV (by omega) u2];omega,?_⟩
 show u*k%p=1%p;rw[BH,u3,AV (by decide) (by have:=hp.lo;omega)]
theorem PrC.symm(hp:P4 p)(i:PrC p C D):PrC p D C:=by
 obtain⟨d,dz,e⟩:=i;obtain⟨u,uz,o⟩:=Wj hp dz;refine⟨u,uz,?_⟩;have q:=CgC.sc (k:=u) (k':=u) Cg.rfl e;rw[QP]at q;exact(q.trans ((CgC.sc o CgC.rfl).trans (CgC.of (NP D)))).symm
theorem PrC.pb(i:PrC p C D):PrC p (OvC.pb C a b c) (OvC.pb D a b c):=by
 obtain⟨d,dz,e⟩:=i;exact⟨d,dz,(Xq e CgR.rfl CgR.rfl CgR.rfl).trans (CgC.of (b8 d D a b c))⟩
def InC(p:Af)(C:C6):Prop:=∀ x∈C.l,0<=x/\x<p
theorem eR(hp:P4 p)(iC:InC p C)(iD:InC p D)(lC:A5 p C.l=Aa 1)(lD:A5 p D.l=Aa 1)(h:PrC p C D):C=D:=by
 obtain⟨d,dz,e⟩:=h;have p1:1<p:=by have:=hp.lo;omega
 have rs:C.l.map (fun x=>x%p)=(D.l.map fun x=>d*x).map (fun x=>x%p):=by
  obtain⟨h0,h1,h2,h3,h4,h5⟩:=e;simp only[C6.l,Cf,Jh];rw[show C.c0%p=d*D.c0%p from h0,show C.c1%p=d*D.c1%p from h1,show C.c2%p=d*D.c2%p from h2,show C.c3%p=d*D.c3%p from h3,show C.c4%p=d*D.c4%p from h4,show C.c5%p=d*D.c5%p from h5]
 have el:=La hp dz (f:=fun x=>d*x) (fun _=>rfl) D.l
 rw[lD,<-Nr rs,lC,Ej,Ce,DD]at el;have o:Cg p d 1:=by
  show d%p=1%p;rw[<-el,AV (by decide) p1]
 obtain⟨h0,h1,h2,h3,h4,h5⟩:=e.trans ((CgC.sc o CgC.rfl).trans (CgC.of (NP D)));have same:∀{u v:Af},u∈C.l->v∈D.l->Cg p u v->u=v:=fun hu hv huv=>by
  have:=show _%p=_%p from huv
  rwa [AV (iC _ hu).1 (iC _ hu).2,AV (iD _ hv).1 (iD _ hv).2]at this
 exact C6.ext' (same (by simp[C6.l]) (by simp[C6.l]) h0) (same (by simp[C6.l]) (by simp[C6.l]) h1) (same (by simp[C6.l]) (by simp[C6.l]) h2) (same (by simp[C6.l]) (by simp[C6.l]) h3) (same (by simp[C6.l]) (by simp[C6.l]) h4) (same (by simp[C6.l]) (by simp[C6.l]) h5)
end
noncomputable def QD:Df:=⟨5,Ad,(.cons (.asg 3 Ad (.bin .Add (.bin .Add (.bin .Mult (.bin .Mult (.idx (.var 1) (.int 0)) (.idx (.var 2) (.int 0))) (.idx (.var 2) (.int 0))) (.bin .Mult (.bin .Mult (.idx (.var 1) (.int 1)) (.idx (.var 2) (.int 1))) (.idx (.var 2) (.int 1)))) (.bin .Mult (.bin .Mult (.idx (.var 1) (.int 2)) (.idx (.var 2) (.int 2))) (.idx (.var 2) (.int 2))))) (.cons (.asg 4 Ad (.bin .Add (.bin .Add (.bin .Mult (.bin .Mult (.idx (.var 1) (.int 3)) (.idx (.var 2) (.int 0))) (.idx (.var 2) (.int 1))) (.bin .Mult (.bin .Mult (.idx (.var 1) (.int 4)) (.idx (.var 2) (.int 0))) (.idx (.var 2) (.int 2)))) (.bin .Mult (.bin .Mult (.idx (.var 1) (.int 5)) (.idx (.var 2) (.int 1))) (.idx (.var 2) (.int 2))))) (.cons (.ret (.call 1 (.cons (.var 0) (.cons (.bin .Add (.var 3) (.var 4)) .nil)))) .nil)))⟩
theorem ix6(C:C6):Bx (Cj C) (.int 0)=.ok (.int C.c0)/\Bx (Cj C) (.int 1)=.ok (.int C.c1)/\Bx (Cj C) (.int 2)=.ok (.int C.c2)/\Bx (Cj C) (.int 3)=.ok (.int C.c3)/\Bx (Cj C) (.int 4)=.ok (.int C.c4)/\Bx (Cj C) (.int 5)=.ok (.int C.c5):=⟨rfl,rfl,rfl,rfl,rfl,rfl⟩
structure BC (C:C6):Prop where
 b0:Bd 10 C.c0
 b1:Bd 10 C.c1
 b2:Bd 10 C.c2
 b3:Bd 10 C.c3
 b4:Bd 10 C.c4
 b5:Bd 10 C.c5
theorem InC.b(hp:P4 p)(h:InC p C):BC C:=by
 have k:∀ x∈C.l,Bd 10 x:=fun x hx=>MR hp (h x hx).1 (h x hx).2
 exact⟨k _ (by simp[C6.l]),k _ (by simp[C6.l]),k _ (by simp[C6.l]),k _ (by simp[C6.l]),k _ (by simp[C6.l]),k _ (by simp[C6.l])⟩
noncomputable def t0(p:Af)(C:C6):R3:=(2*C.c0%p,C.c3,C.c4)
noncomputable def t1(p:Af)(C:C6):R3:=(C.c3,2*C.c1%p,C.c5)
noncomputable def t2(p:Af)(C:C6):R3:=(C.c4,C.c5,2*C.c2%p)
def WW(Γ:Gam):Prop:=∀(p:Af)(b:Ak)(xs:Ac Af)(l t:Af),P4 p->A5 p xs=Aa l->Hh p l t->Γ.F 122 [.int p,Dd b xs]=.ok (.tup (ds (fmI p t xs)))
theorem sS(hr:Kg Γ)(hf:NN Γ){b:Ak}{l t:Af}(hp:P4 p)(e:A5 p xs=Aa l)(it:Hh p l t):Ps.run Γ [.int p,Dd b xs]=.ok (.tup (ds (fmI p t xs))):=by
 have p0:=hp.pos;have cp:BD (cG Γ [si p,sh (Dd b xs),Ae,Ae] 3 Cm) (cF Γ [si p,sh (Dd b xs),Ae,Ae] 3 Pi) (ds xs)=.ok (ds (xs.map fun x=>x%p)):=by
  refine K1 xs fun x _=>⟨rfl,?_⟩
  simp[cF,Pi,hr p x p0]
 have an:=U0 (xs.map fun x=>x%p)
 rw[Uj p0,e]at an;have le:A5 p (xs.map fun x=>x%p)=Aa l:=by rw[Nr (Xu xs)];exact e
 have f:=hf p Ad (xs.map fun x=>x%p) l t hp le it
 rw[jJ (Xu xs)]at f;have f':Γ.F 17 [.int p,.lst (ds (xs.map fun x=>x%p))]=.ok (.tup (ds (fmI p t xs))):=f
 simp[Ps,Df.run,Bv,Pt,cp,an,f']
theorem RD{E:C6}{l:Af}(hp:P4 p)(el:A5 p E.l=Aa l):∃(t:Af)(D:C6),Hh p l t/\fmI p t E.l=D.l/\InC p D/\A5 p D.l=Aa 1/\PrC p D E:=by
 have p0:=hp.pos;obtain⟨lz,_,_⟩:=Mo p0 el;obtain⟨t,t1,t2,t3⟩:=Lo hp lz;have tz:t%p≠0:=by rw[AV (by omega) t2];omega
 have ff:∀ x,(t*(x%p)%p)%p=t*x%p:=fun x=>by rw[Bp _ (Ci p),BJ t (x%p) p,Bp _ (Ci p),<-BJ]
 have lv:=La hp tz (f:=fun x=>t*(x%p)%p) ff E.l
 rw[el,Ej,BH,t3]at lv;have key:∀ x:Af,Cg p (t*(x%p)%p) (t*x):=fun x=>(Cg.md rfl).trans (Cg.rfl.mul (Cg.md rfl))
 refine⟨t,⟨t*(E.c0%p)%p,t*(E.c1%p)%p,t*(E.c2%p)%p,t*(E.c3%p)%p,t*(E.c4%p)%p,t*(E.c5%p)%p⟩,⟨t1,t2,t3⟩,rfl,fun x hx=>?_,lv,t,tz,key _,key _,key _,key _,key _,key _⟩
 obtain⟨y,_,rfl⟩:=Dm.mp (show x∈E.l.map fun x=>t*(x%p)%p from hx)
 exact⟨Bo _ (by omega),Bj _ p0⟩
section
variable{Γ:Gam}{ns:Ac Af}{p at_:Af}{φ:Af->Af}
end
noncomputable def e0R:R3:=(1,0,0)
noncomputable def e1R:R3:=(0,1,0)
noncomputable def e2R:R3:=(0,0,1)
noncomputable def e3R:R3:=(1,1,1)
theorem bQ(hp:P4 p):In3 p e0R/\In3 p e1R/\In3 p e2R/\In3 p e3R:=by
 have z:0<=(0:Af)/\(0:Af)<p:=⟨by decide,hp.pos⟩
 have o:0<=(1:Af)/\(1:Af)<p:=⟨by decide,by have:=hp.lo;omega⟩
 exact⟨⟨o,z,z⟩,⟨z,o,z⟩,⟨z,z,o⟩,⟨o,o,o⟩⟩
theorem cg(hp:P4 p):bD p e0R e1R e2R e3R:=by
 rcases hp with rfl|rfl|rfl|rfl<;>exact⟨by decide,by decide,by decide,by decide⟩
def Pr(p:Af)(x y:R3):Prop:=∃ d,d%p≠0/\CgR p x (BW d y)
section
variable{p:Af}{a b c x y z f g h:R3}{k:Af}
theorem NU(x:R3):BW 1 x=x:=by unfold BW;simp only[Dk]
theorem Pr.rfl(hp:P4 p):Pr p x x:=⟨1,hp.o1,CgR.of (NU x).symm⟩
theorem Pr.trans(hp:P4 p)(i:Pr p x y)(j:Pr p y z):Pr p x z:=by
 obtain⟨d,dz,e⟩:=i;obtain⟨d',dz',e'⟩:=j;exact⟨d*d',C7 hp dz dz',e.trans ((CgR.sc Cg.rfl e').trans (CgR.of (Rh _ _ _)))⟩
theorem Pr.symm(hp:P4 p)(i:Pr p x y):Pr p y x:=by
 obtain⟨d,dz,e⟩:=i;obtain⟨u,u1,u2,u3⟩:=Lo hp dz;have uz:u%p≠0:=by rw[AV (by omega) u2];omega
 have o:Cg p (u*d) 1:=by
  show u*d%p=1%p;rw[BH,u3,AV (by decide) (by have:=hp.lo;omega)]
 refine⟨u,uz,?_⟩;have q:=CgR.sc (k:=u) (k':=u) Cg.rfl e;rw[Rh]at q;exact(q.trans ((CgR.sc o CgR.rfl).trans (CgR.of (NU y)))).symm
theorem XC{a' b' c' x':R3}(ha:CgR p a a')(hb:CgR p b b')(hc:CgR p c c')(hx:CgR p x x'):CgR p (ap a b c x) (ap a' b' c' x'):=⟨JA ha hx,JA hb hx,JA hc hx⟩
theorem Pr.ap(i:Pr p x y):Pr p (OvC.ap a b c x) (OvC.ap a b c y):=by
 obtain⟨d,dz,e⟩:=i;exact⟨d,dz,(XC CgR.rfl CgR.rfl CgR.rfl e).trans (CgR.of (cb a b c y d))⟩
theorem XD(a b c v:R3):ap (bk0 a b c) (bk1 a b c) (bk2 a b c) (ap a b c v)=BW (Aq a b c) v:=by
 unfold ap BW AU bk0 bk1 bk2 ES ER EQ crs Aq det;refine BF ?_ (BF ?_ ?_)<;>(simp only;grind)
end
noncomputable def tri(g:R3):Ac Af:=[g.1,g.2.1,g.2.2]
theorem U6{x:R3}(hp:P4 p)(ix:In3 p x)(iy:In3 p y)(lx:A5 p (tri x)=Aa 1)(ly:A5 p (tri y)=Aa 1)(h:Pr p x y):x=y:=by
 obtain⟨d,dz,e⟩:=h;have p1:1<p:=by have:=hp.lo;omega
 have rs:(tri x).map (fun x=>x%p)=((tri y).map fun x=>d*x).map (fun x=>x%p):=by
  simp only[tri,Cf,Jh];rw[show x.1%p=d*y.1%p from e.1,show x.2.1%p=d*y.2.1%p from e.2.1,show x.2.2%p=d*y.2.2%p from e.2.2]
 have el:=La hp dz (f:=fun x=>d*x) (fun _=>rfl) (tri y)
 rw[ly,<-Nr rs,lx,Ej,Ce,DD]at el;have o:Cg p d 1:=by
  show d%p=1%p;rw[<-el,AV (by decide) p1]
 have q:=e.trans ((CgR.sc o CgR.rfl).trans (CgR.of (NU y)));have same:∀{u v:Af},(0<=u/\u<p)->(0<=v/\v<p)->Cg p u v->u=v:=fun hu hv huv=>by
  have:=show _%p=_%p from huv
  rwa [AV hu.1 hu.2,AV hv.1 hv.2]at this
 exact BF (same ix.1 iy.1 q.1) (BF (same ix.2.1 iy.2.1 q.2.1) (same ix.2.2 iy.2.2 q.2.2))
section
variable{p:Af}{a b c a' b' c' f0 f1 f2 f3 g0 g1 g2 g3 h0 h1 h2 h3:R3}
end
section
variable{Γ:Gam}{ns:Ac Af}{p:Af}
theorem qB(hp:P4 p):GoodR p e0R e1R e2R/\A5 p (cQ e0R e1R e2R)=Aa 1:=by
 obtain⟨i0,i1,i2,i3⟩:=bQ hp;refine⟨⟨hp,i0,i1,i2,(cg hp).1⟩,?_⟩;rcases hp with rfl|rfl|rfl|rfl<;>decide
end
noncomputable def L3(a b c:R3):Ac D:=[Br a,Br b,Br c]
def Ij(i j:Af):Prop:=(i=0/\j=1)\/(i=0/\j=2)\/(i=1/\j=0)\/(i=1/\j=2)\/(i=2/\j=0)\/(i=2/\j=1)
theorem zF{m:Af}{i j:Af}(hi:m%3=i)(hj:(i+1+m / 3%2)%3=j):Ij i j:=by
 have i3:i=0\/i=1\/i=2:=by omega
 have e2:m / 3%2=0\/m / 3%2=1:=by omega
 rcases i3 with z|z|z<;>rcases e2 with e|e<;>rw[z,e]at hj
 ·exact .inl ⟨z,hj.symm⟩
 ·exact .inr (.inl ⟨z,hj.symm⟩)
 ·exact .inr (.inr (.inr (.inl ⟨z,hj.symm⟩)))
 ·exact .inr (.inr (.inl ⟨z,hj.symm⟩))
 ·exact .inr (.inr (.inr (.inr (.inl ⟨z,hj.symm⟩))))
 ·exact .inr (.inr (.inr (.inr (.inr ⟨z,hj.symm⟩))))
theorem eU{a b c:R3}{i j:Af}(h:GoodR p a b c)(ht:0<t/\t<p)(ij:Ij i j):∃(i' j':Ag)(x y:R3),Dj (L3 a b c) i=.ok (Br x)/\Dj (L3 a b c) j=.ok (Br y)/\plD 3 i=Aa i'/\plD 3 j=Aa j'/\(∃ a' b' c',GoodR p a' b' c'/\((L3 a b c).set i' (Br y)).set j' (Br x)=L3 a' b' c')/\(∃ a' b' c',GoodR p a' b' c'/\(L3 a b c).set i' (Br (scR p t x))=L3 a' b' c')/\(∃ a' b' c',GoodR p a' b' c'/\(L3 a b c).set i' (Br (adR p t x y))=L3 a' b' c'):=by
 have p0:=h.p4.pos;have tz:t%p≠0:=by rw[AV (by omega) ht.2];omega
 rcases ij with ⟨rfl,rfl⟩|⟨rfl,rfl⟩|⟨rfl,rfl⟩|⟨rfl,rfl⟩|⟨rfl,rfl⟩|⟨rfl,rfl⟩
 ·exact⟨0,1,a,b,rfl,rfl,rfl,rfl,⟨b,a,c,h.of (k:=-1) h.p4.m1 (Cg.of (by unfold Aq det;grind)) ⟨h.ib,h.ia,h.ic⟩,rfl⟩,⟨_,_,_,h.of (k:=t) tz (SG p t a b c) ⟨Lr p0 _ _,h.ib,h.ic⟩,rfl⟩,⟨_,_,_,h.of (k:=1) h.p4.o1 (cu p t a b c) ⟨LG p0 _ _ _,h.ib,h.ic⟩,rfl⟩⟩
 ·exact⟨0,2,a,c,rfl,rfl,rfl,rfl,⟨c,b,a,h.of (k:=-1) h.p4.m1 (Cg.of (by unfold Aq det;grind)) ⟨h.ic,h.ib,h.ia⟩,rfl⟩,⟨_,_,_,h.of (k:=t) tz (SG p t a b c) ⟨Lr p0 _ _,h.ib,h.ic⟩,rfl⟩,⟨_,_,_,h.of (k:=1) h.p4.o1 (cq p t a b c) ⟨LG p0 _ _ _,h.ib,h.ic⟩,rfl⟩⟩
 ·exact⟨1,0,b,a,rfl,rfl,rfl,rfl,⟨b,a,c,h.of (k:=-1) h.p4.m1 (Cg.of (by unfold Aq det;grind)) ⟨h.ib,h.ia,h.ic⟩,rfl⟩,⟨_,_,_,h.of (k:=t) tz (SD p t a b c) ⟨h.ia,Lr p0 _ _,h.ic⟩,rfl⟩,⟨_,_,_,h.of (k:=1) h.p4.o1 (cn p t a b c) ⟨h.ia,LG p0 _ _ _,h.ic⟩,rfl⟩⟩
 ·exact⟨1,2,b,c,rfl,rfl,rfl,rfl,⟨a,c,b,h.of (k:=-1) h.p4.m1 (Cg.of (by unfold Aq det;grind)) ⟨h.ia,h.ic,h.ib⟩,rfl⟩,⟨_,_,_,h.of (k:=t) tz (SD p t a b c) ⟨h.ia,Lr p0 _ _,h.ic⟩,rfl⟩,⟨_,_,_,h.of (k:=1) h.p4.o1 (cm p t a b c) ⟨h.ia,LG p0 _ _ _,h.ic⟩,rfl⟩⟩
 ·exact⟨2,0,c,a,rfl,rfl,rfl,rfl,⟨c,b,a,h.of (k:=-1) h.p4.m1 (Cg.of (by unfold Aq det;grind)) ⟨h.ic,h.ib,h.ia⟩,rfl⟩,⟨_,_,_,h.of (k:=t) tz (Sz p t a b c) ⟨h.ia,h.ib,Lr p0 _ _⟩,rfl⟩,⟨_,_,_,h.of (k:=1) h.p4.o1 (ck p t a b c) ⟨h.ia,h.ib,LG p0 _ _ _⟩,rfl⟩⟩
 ·exact⟨2,1,c,b,rfl,rfl,rfl,rfl,⟨a,c,b,h.of (k:=-1) h.p4.m1 (Cg.of (by unfold Aq det;grind)) ⟨h.ia,h.ic,h.ib⟩,rfl⟩,⟨_,_,_,h.of (k:=t) tz (Sz p t a b c) ⟨h.ia,h.ib,Lr p0 _ _⟩,rfl⟩,⟨_,_,_,h.of (k:=1) h.p4.o1 (ci p t a b c) ⟨h.ia,h.ib,LG p0 _ _ _⟩,rfl⟩⟩
def Kh(Γ:Gam)(mid:Ag)(ns:Ac Af):Prop:=∀ k:Af,0<=k->∃ m,0<=m/\Γ.F mid [scr ns,.int k]=.ok (.int m)
noncomputable def O2:E:=(.bin .Mod (.bin .Mult (.var 8) (.var 9)) (.var 0))
noncomputable def O1:E:=(.bin .Mod (.bin .Add (.var 10) (.bin .Mult (.var 8) (.var 11))) (.var 0))
noncomputable def Gb(mid:Ag):Ss:=(.cons (.asg 5 Ad (.bin .FloorDiv (.call mid (.cons (.var 1) (.cons (.var 4) .nil))) (.int 3))) (.cons (.asg 6 Ad (.bin .Mod (.var 5) (.int 3))) (.cons (.asg 7 Ad (.bin .Mod (.bin .Add (.bin .Add (.var 6) (.int 1)) (.bin .Mod (.bin .FloorDiv (.var 5) (.int 3)) (.int 2))) (.int 3))) (.cons (.asg 8 Ad (.bin .Add (.int 1) (.bin .Mod (.bin .FloorDiv (.var 5) (.int 24)) (.bin .Sub (.var 0) (.int 1))))) (.cons (.ife (.cmp .Eq (.bin .Mod (.bin .FloorDiv (.var 5) (.int 6)) (.int 4)) (.int 0)) (.cons (.swp 3 6 7) .nil) (.cons (.ife (.cmp .Eq (.bin .Mod (.bin .FloorDiv (.var 5) (.int 6)) (.int 4)) (.int 1)) (.cons (.put 3 (.var 6) (.comp O2 9 (.e (.idx (.var 3) (.var 6))) Cm)) .nil) (.cons (.put 3 (.var 6) (.compT O1 [10,11] (.zip (.idx (.var 3) (.var 6)) (.idx (.var 3) (.var 7))) Cm)) .nil)) .nil)) .nil)))))
noncomputable def RK(mid:Ag):Df:=⟨12,Ad,(.cons (.asg 3 Ab (.lst (.cons (.lst (.cons (.int 1) (.cons (.int 0) (.cons (.int 0) .nil)))) (.cons (.lst (.cons (.int 0) (.cons (.int 1) (.cons (.int 0) .nil)))) (.cons (.lst (.cons (.int 0) (.cons (.int 0) (.cons (.int 1) .nil)))) .nil))))) (.cons (.fors 4 (.e (.bin .Add (.bi .list (.cons (.tupI (.rng2 (.var 2) (.bin .Add (.var 2) (.int 9)))) .nil)) (.bi .list (.cons (.tupI (.rng2 (.int 23) (.bi .min (.cons (.bi .len (.cons (.var 1) .nil)) (.cons (.int 63) .nil))))) .nil)))) (Gb mid)) (.cons (.ret (.var 3)) .nil)))⟩
section
variable{Γ:Gam}{ns:Ac Af}{mid:Ag}{p:Af}{a b c:R3}{s2 s4 s5 s6 s7 s8:Sl}
theorem tT{k cl i j t:Af}{j':Ag}{x:R3}(hi:Dj L i=.ok (Br x))(hj:Dj L j=.ok (Br y))(pi:plD L.length i=Aa i')(pj:plD L.length j=Aa j')(k0:cl / 6%4=0):evSs Γ [si p,sh (scr ns),s2,Aa (.lst L,Ab),s4,si cl,si i,si j,si t,Ae,Ae,Ae] ((Gb mid).drop 4)=.next [si p,sh (scr ns),s2,Aa (.lst ((L.set i' (Br y)).set j' (Br x)),Ab),s4,si cl,si i,si j,si t,Ae,Ae,Ae]:=by
 simp[Gb,Ss.drop,k0,qM,OG,Cr,HJ,ET,hi,hj,pi,pj]
theorem tU{cl i j:Af}{x:R3}(hi:Dj L i=.ok (Br x))(pi:plD L.length i=Aa i')(p0:0<p)(mt:∀ x,DS t x=Ab)(k0:¬ cl / 6%4=0)(k1:cl / 6%4=1):evSs Γ [si p,sh (scr ns),s2,Aa (.lst L,Ab),s4,si cl,si i,si j,si t,Ae,Ae,Ae] ((Gb mid).drop 4)=.next [si p,sh (scr ns),s2,Aa (.lst (L.set i' (Br (scR p t x))),Ab),s4,si cl,si i,si j,si t,Ae,Ae,Ae]:=by
 have cp:BD (cG Γ [si p,sh (scr ns),s2,Aa (.lst L,Ab),s4,si cl,si i,si j,si t,Ae,Ae,Ae] 9 Cm) (cF Γ [si p,sh (scr ns),s2,Aa (.lst L,Ab),s4,si cl,si i,si j,si t,Ae,Ae,Ae] 9 O2) [.int x.1,.int x.2.1,.int x.2.2]=.ok [.int (x.1*t%p),.int (x.2.1*t%p),.int (x.2.2*t%p)]:=by
  refine K1 (φ:=fun x=>x*t%p) [x.1,x.2.1,x.2.2] fun x _=>⟨rfl,?_⟩
  simp[cF,O2,mt,p0,BH]
 rw[Br]at hi;simp[Gb,Ss.drop,k1,QB,Cr,hi,pi,cp];rfl
theorem tV{cl i j:Af}{x:R3}(hi:Dj L i=.ok (Br x))(hj:Dj L j=.ok (Br y))(pi:plD L.length i=Aa i')(p0:0<p)(mt:∀ x,DS t x=Ab)(k0:¬ cl / 6%4=0)(k1:¬ cl / 6%4=1):evSs Γ [si p,sh (scr ns),s2,Aa (.lst L,Ab),s4,si cl,si i,si j,si t,Ae,Ae,Ae] ((Gb mid).drop 4)=.next [si p,sh (scr ns),s2,Aa (.lst (L.set i' (Br (adR p t x y))),Ab),s4,si cl,si i,si j,si t,Ae,Ae,Ae]:=by
 have cp:BD (cGT Γ [si p,sh (scr ns),s2,Aa (.lst L,Ab),s4,si cl,si i,si j,si t,Ae,Ae,Ae] [10,11] Cm) (cFT Γ [si p,sh (scr ns),s2,Aa (.lst L,Ab),s4,si cl,si i,si j,si t,Ae,Ae,Ae] [10,11] O1) (DU [.int x.1,.int x.2.1,.int x.2.2] [.int y.1,.int y.2.1,.int y.2.2])=.ok [.int ((x.1+t*y.1)%p),.int ((x.2.1+t*y.2.1)%p),.int ((x.2.2+t*y.2.2)%p)]:=by
  generalize x.1=x0;generalize x.2.1=x1;generalize x.2.2=x2;generalize y.1=y0;generalize y.2.1=y1;generalize y.2.2=y2;simp[BD,cGT,cFT,DU,O1,Cm,p0,mt]
 rw[Br]at hi hj;simp[Gb,Ss.drop,k0,k1,QB,Cr,hi,hj,pi,cp];rfl
theorem gN(hm:Kh Γ mid ns)(h:GoodR p a b c)(hk:0<=k):∃ a' b' c' v5 v6 v7 v8,GoodR p a' b' c'/\By Γ 4 (Gb mid) (.int k) [si p,sh (scr ns),s2,Aa (.lst (L3 a b c),Ab),s4,s5,s6,s7,s8,Ae,Ae,Ae]=.next [si p,sh (scr ns),s2,Aa (.lst (L3 a' b' c'),Ab),si k,v5,v6,v7,v8,Ae,Ae,Ae]:=by
 have p0:=h.p4.pos;have pl:=h.p4.lo;have ph:=h.p4.hi;obtain⟨m,m0,e0⟩:=hm k hk;generalize hcl:m / 3=cl;have q1:0<p-1:=by omega
 have q2:1<p:=by omega
 have t0:0<1+cl / 24%(p-1):=by have:=Bo (cl / 24) (b:=p-1) (by omega);omega
 have t1:1+cl / 24%(p-1)<p:=by have:=Bj (cl / 24) q1;omega
 generalize ht:1+cl / 24%(p-1)=t at t0 t1;generalize hi:cl%3=i;generalize hj:(i+1+cl / 3%2)%3=j;have ij:=zF hi hj;have hd:evSs Γ [si p,sh (scr ns),s2,Aa (.lst (L3 a b c),Ab),si k,s5,s6,s7,s8,Ae,Ae,Ae] ((Gb mid).take 4)=.next [si p,sh (scr ns),s2,Aa (.lst (L3 a b c),Ab),si k,si cl,si i,si j,si t,Ae,Ae,Ae]:=by
  simp[Gb,Ss.take,e0,hcl,hi,hj,q1,q2,ht]
 have mt:∀ x,DS t x=Ab:=fun x=>IK (by omega) (by omega)
 obtain⟨i',j',x,y,gi,gj,pi,pj,⟨a1,b1,c1,g1,f1⟩,⟨a2,b2,c2,g2,f2⟩,⟨a3,b3,c3,g3,f3⟩⟩:=eU h ⟨t0,t1⟩ ij;have pi':plD (L3 a b c).length i=Aa i':=pi;have pj':plD (L3 a b c).length j=Aa j':=pj;have fin:∀ {o},evSs Γ [si p,sh (scr ns),s2,Aa (.lst (L3 a b c),Ab),si k,si cl,si i,si j,si t,Ae,Ae,Ae] ((Gb mid).drop 4)=o->By Γ 4 (Gb mid) (.int k) [si p,sh (scr ns),s2,Aa (.lst (L3 a b c),Ab),s4,s5,s6,s7,s8,Ae,Ae,Ae]=o:=fun {o} h=>by
  show evSs Γ [si p,sh (scr ns),s2,Aa (.lst (L3 a b c),Ab),si k,s5,s6,s7,s8,Ae,Ae,Ae] (Gb mid)=o;rw[US Γ 4,hd];exact h
 by_cases k0:cl / 6%4=0
 ·refine⟨a1,b1,c1,si cl,si i,si j,si t,g1,fin ?_⟩;rw[tT (k:=0) gi gj pi' pj' k0,f1]
 ·by_cases k1:cl / 6%4=1
  ·refine⟨a2,b2,c2,si cl,si i,si j,si t,g2,fin ?_⟩;rw[tU gi pi' p0 mt k0 k1,f2]
  ·refine⟨a3,b3,c3,si cl,si i,si j,si t,g3,fin ?_⟩;rw[tV gi gj pi' p0 mt k0 k1,f3]
end
theorem Uh{lo:Af}{x:D}(h:x∈BY lo n):∃ j:Ag,j<n/\x=.int (lo+(j:Af)):=by
 obtain⟨j,hj⟩:=List.getElem?_of_mem h;exact⟨j,UO hj⟩
theorem PJ{lo hi:Af}(h1:-1000<=lo)(h2:lo<=1000)(h3:-1000<=hi)(h4:hi<=1000):CC lo hi=.ok (BY lo (hi-lo).toNat):=by
 unfold CC;rw[AA (by refine⟨⟨by omega,by omega⟩,⟨by omega,by omega⟩,?_⟩;omega)]
def aD(Γ:Gam)(id:Ag)(ns:Ac Af):Prop:=∀(p:Af),P4 p->∃ a b c,GoodR p a b c/\Γ.F id [.int p,scr ns,.int 1]=.ok (Kq a b c)
theorem xP(hl:ns.length<=63)(hm:Kh Γ mid ns)(p:Af)(hp:P4 p):∃ a b c,GoodR p a b c/\(RK mid).run Γ [.int p,scr ns,.int 1]=.ok (Kq a b c):=by
 have g0:GoodR p e0R e1R e2R:=(qB hp).1;have r1:CC 1 10=.ok (BY 1 9):=rfl;generalize hn:(if (63:Af)<(ns.length:Af) then (63:Af) else (ns.length:Af))=n
 have n0:0<=n/\n<=63:=by split at hn<;>omega
 have r2:CC 23 n=.ok (BY 23 (n-23).toNat):=PJ (by decide) (by decide) (by omega) (by omega)
 have ad:C8 .Add (.lst (BY 1 9)) (.lst (BY 23 (n-23).toNat))=.ok (.lst (BY 1 9++BY 23 (n-23).toNat)):=by
  rw[Rb,AA];rw[K4,K4];unfold Dq;simp;omega
 obtain⟨ρ',e,a,b,c,s4,s5,s6,s7,s8,g,rfl⟩:=UQ (body:=By Γ 4 (Gb mid)) (fun ρ=>∃ a b c s4 s5 s6 s7 s8,GoodR p a b c/\ρ=[si p,sh (scr ns),si 1,Aa (.lst (L3 a b c),Ab),s4,s5,s6,s7,s8,Ae,Ae,Ae]) (BY 1 9++BY 23 (n-23).toNat) [si p,sh (scr ns),si 1,Aa (.lst (L3 e0R e1R e2R),Ab),Ae,Ae,Ae,Ae,Ae,Ae,Ae,Ae] ⟨_,_,_,_,_,_,_,_,g0,rfl⟩ (by
  rintro x hx ρ ⟨a,b,c,s4,s5,s6,s7,s8,g,rfl⟩;have hk:∃ k:Af,0<=k/\x=.int k:=by
   rcases Ff.mp hx with z|z
   ·obtain⟨j,_,rfl⟩:=Uh z;exact⟨_,by omega,rfl⟩
   ·obtain⟨j,_,rfl⟩:=Uh z;exact⟨_,by omega,rfl⟩
  obtain⟨k,k0,rfl⟩:=hk;obtain⟨a',b',c',v5,v6,v7,v8,g',e⟩:=gN (s2:=si 1) (s4:=s4) (s5:=s5) (s6:=s6) (s7:=s7) (s8:=s8) hm g k0;exact⟨_,e,a',b',c',_,_,_,_,_,g',rfl⟩)
 refine⟨a,b,c,g,?_⟩;have ln:biD .len [scr ns]=.ok (.int ns.length):=by simp[scr]
 have mn:biD .min [.int (ns.length:Af),.int 63]=.ok (.int n):=by rw[<-hn];rfl
 have sq:CS (.lst (BY 1 9++BY 23 (n-23).toNat))=.ok (BY 1 9++BY 23 (n-23).toNat):=rfl;have e':CD (By Γ 4 (Gb mid)) (BY 1 9++BY 23 (n-23).toNat) [si p,sh (scr ns),si 1,Aa (.lst [.lst [.int 1,.int 0,.int 0],.lst [.int 0,.int 1,.int 0],.lst [.int 0,.int 0,.int 1]],Ab),Ae,Ae,Ae,Ae,Ae,Ae,Ae,Ae]=_:=e;generalize BY 1 9=A at *;generalize BY 23 (n-23).toNat=B at *;generalize scr ns=S at *;simp[RK,Df.run,Bv,DN,ln,mn,r1,r2,ad,sq,e'];rfl
theorem VI{g:D->R Ak}{f:D->R D}{q:Af->Ak}{φ:Af->Af}:∀(xs:Ac Af),(∀ x∈xs,g (.int x)=.ok (q x)/\f (.int x)=.ok (.int (φ x)))->BD g f (ds xs)=.ok (ds ((xs.filter q).map φ))
 |[],_=>rfl
 |x::xs,h=>by
  obtain⟨h1,h2⟩:=h x (AB ..);have ih:=VI xs fun y hy=>h y (Ay _ hy)
  show (g (.int x)).bind _=_;rw[h1,R.bind_ok,D0];cases hq:q x with
  |true=>
   rw[AA rfl,AA rfl,h2,R.bind_ok,show BD g f (Ma D.int xs)=_ from ih]
   rfl
  |false=>
   rw[AH (by decide),AH (by decide)]
   exact ih
theorem T5{p:Af}:∀ xs:Ac Af,((xs.filter fun x=>decide (x%p≠0)).map fun x=>x%p).head?=A5 p xs
 |[]=>rfl
 |x::xs=>by
  unfold A5;rw[D0];by_cases h:x%p=0
  ·rw[AH (by simp[h]),AA h]
   exact T5 xs
  ·rw[AA (by simp[h]),AH h]
   rfl
noncomputable def O6:E:=(.cmp .NotEq (.bin .Mod (.var 4) (.var 0)) (.int 0))
noncomputable def O9:E:=(.bin .Mod (.var 4) (.var 0))
noncomputable def O5:E:=(.cmp .Eq (.bin .Mod (.bin .Mult (.var 5) (.var 2)) (.var 0)) (.int 1))
noncomputable def O8:E:=(.var 5)
noncomputable def O7:E:=(.bin .Mod (.bin .Mult (.var 6) (.var 3)) (.var 0))
noncomputable def Ph:Df:=⟨7,Ad,(.cons (.asg 2 Ad (.idx (.comp O9 4 (.e (.var 1)) O6) (.int 0))) (.cons (.asg 3 Ad (.idx (.comp O8 5 (.rng2 (.int 1) (.var 0)) O5) (.int 0))) (.cons (.ret (.bi .tuple (.cons (.comp O7 6 (.e (.var 1)) Cm) .nil))) .nil)))⟩
def QG(Γ:Gam):Prop:=∀(p:Af)(b:Ak)(xs:Ac Af)(l t:Af),P4 p->A5 p xs=Aa l->Hh p l t->Γ.F 158 [.int p,Dd b xs]=.ok (.tup (ds (fmI p t xs)))
theorem kL(Γ:Gam){b:Ak}{l t:Af}(hp:P4 p)(e:A5 p xs=Aa l)(it:Hh p l t):Ph.run Γ [.int p,Dd b xs]=.ok (.tup (ds (fmI p t xs))):=by
 have p0:=hp.pos;have ph:=hp.hi;have c1:BD (cG Γ [si p,sh (Dd b xs),Ae,Ae,Ae,Ae,Ae] 4 O6) (cF Γ [si p,sh (Dd b xs),Ae,Ae,Ae,Ae,Ae] 4 O9) (ds xs)=.ok (ds ((xs.filter fun x=>decide (x%p≠0)).map fun x=>x%p)):=by
  refine VI xs fun x _=>⟨?_,?_⟩
  ·simp[cG,O6,p0];rw[DH];simp
  ·simp[cF,O9,p0]
 have hl:=T5 (p:=p) xs;rw[e]at hl;generalize ((xs.filter fun x=>decide (x%p≠0)).map fun x=>x%p)=ls at c1 hl
 have g0:=Ua hl;obtain⟨_,l0,l1⟩:=Mo p0 e;have c3:BD (cG Γ [si p,sh (Dd b xs),si l,Ae,Ae,Ae,Ae] 5 O5) (cF Γ [si p,sh (Dd b xs),si l,Ae,Ae,Ae,Ae] 5 O8) (ds (Gx p))=.ok (ds ((Gx p).filter fun k=>decide (k*l%p=1))):=by
  refine To (Gx p) fun x hx=>⟨?_,?_⟩
  ·obtain⟨x1,x2⟩:=K9.mp hx;have m:DS x l=Ab:=IK (by omega) (by omega)
   simp[cG,O5,m,p0];rw[DH];simp
  ·simp[cF,O8]
 have g1:=Ua (eF it);have c4:BD (cG Γ [si p,sh (Dd b xs),si l,si t,Ae,Ae,Ae] 6 Cm) (cF Γ [si p,sh (Dd b xs),si l,si t,Ae,Ae,Ae] 6 O7) (ds xs)=.ok (ds (xs.map fun x=>x*t%p)):=by
  refine K1 xs fun x _=>⟨rfl,?_⟩
  have m:DS x t=Ab:=Qm (by have:=it.1;omega) (by have:=it.2.1;omega)
  simp[cF,O7,m,p0]
 have ru:CC 1 p=.ok (ds (Gx p)):=Us hp;have fe:fmI p t xs=xs.map fun x=>x*t%p:=by
  unfold fmI;refine E3 fun x _=>?_
  rw[BH x t,BJ t (x%p) p,Bp _ (Ci p),<-BJ]
 simp[Ph,Df.run,Bv,Pt,c1,g0,ru,c3,g1,c4,fe]
noncomputable def IH:Df:=⟨3,Ad,(.cons (.asg 2 Ad (.bin .Mod (.var 1) (.bin .Add (.bin .Add (.bin .Mult (.var 0) (.var 0)) (.var 0)) (.int 1)))) (.cons (.ife (.cmp .Eq (.var 2) (.int 0)) (.cons (.ret (.tup (.cons (.int 0) (.cons (.int 0) (.cons (.int 1) .nil))))) .nil) .nil) (.cons (.ife (.cmp .LtE (.var 2) (.var 0)) (.cons (.ret (.tup (.cons (.int 0) (.cons (.int 1) (.cons (.bin .Sub (.var 2) (.int 1)) .nil))))) .nil) .nil) (.cons (.ret (.tup (.cons (.int 1) (.cons (.bin .FloorDiv (.bin .Sub (.bin .Sub (.var 2) (.var 0)) (.int 1)) (.var 0)) (.cons (.bin .Mod (.bin .Sub (.bin .Sub (.var 2) (.var 0)) (.int 1)) (.var 0)) .nil))))) .nil))))⟩
theorem uG(h:1<p):A5 p [0,0,1]=Aa 1:=by
 simp[A5,AV (by decide:(0:Af)<=1) h]
theorem zV(h:1<p)(z:Af):A5 p [0,1,z]=Aa 1:=by
 simp[A5,AV (by decide:(0:Af)<=1) h]
theorem cR(h:1<p)(y z:Af):A5 p [1,y,z]=Aa 1:=by
 simp[A5,AV (by decide:(0:Af)<=1) h]
noncomputable def OU:E:=(.bin .Mult (.idx (.var 0) (.var 5)) (.idx (.var 1) (.var 5)))
noncomputable def Ta:Ss:=(.cons (.app 2 (.bin .Add (.bin .Mult (.idx (.var 0) (.var 3)) (.idx (.var 1) (.var 4))) (.bin .Mult (.idx (.var 0) (.var 4)) (.idx (.var 1) (.var 3))))) .nil)
noncomputable def O3:Df:=⟨6,Ad,(.cons (.asg 2 Ab (.comp OU 5 (.rng (.int 3)) Cm)) (.cons (.forT [3,4] (.e (.lst (.cons (.tup (.cons (.int 0) (.cons (.int 1) .nil))) (.cons (.tup (.cons (.int 0) (.cons (.int 2) .nil))) (.cons (.tup (.cons (.int 1) (.cons (.int 2) .nil))) .nil))))) Ta) (.cons (.ret (.var 2)) .nil)))⟩
noncomputable def prd(a b:R3):C6:=⟨a.1*b.1,a.2.1*b.2.1,a.2.2*b.2.2,a.1*b.2.1+a.2.1*b.1,a.1*b.2.2+a.2.2*b.1,a.2.1*b.2.2+a.2.2*b.2.1⟩
def vZ(Γ:Gam):Prop:=∀(p:Af)(a b:R3),P4 p->In3 p a->In3 p b->Γ.F 160 [Br a,Br b]=.ok (.lst (ds (prd a b).l))
theorem sI(Γ:Gam)(p:Af)(a b:R3)(hp:P4 p)(ha:In3 p a)(hb:In3 p b):O3.run Γ [Br a,Br b]=.ok (.lst (ds (prd a b).l)):=by
 have ba:=FC hp ha;have bb:=FC hp hb;have k:∀ {u v},Bd 10 u->Bd 10 v->EM u v=Ab:=fun hu hv=>GL hu hv (by decide) (by decide)
 obtain⟨a0,a1,a2⟩:=a;obtain⟨b0,b1,b2⟩:=b;have i0:Bx (Br (a0,a1,a2)) (.int 0)=.ok (.int a0):=rfl;have i1:Bx (Br (a0,a1,a2)) (.int 1)=.ok (.int a1):=rfl;have i2:Bx (Br (a0,a1,a2)) (.int 2)=.ok (.int a2):=rfl;have j0:Bx (Br (b0,b1,b2)) (.int 0)=.ok (.int b0):=rfl;have j1:Bx (Br (b0,b1,b2)) (.int 1)=.ok (.int b1):=rfl;have j2:Bx (Br (b0,b1,b2)) (.int 2)=.ok (.int b2):=rfl;have rg:CC 0 3=.ok [.int 0,.int 1,.int 2]:=rfl;have c1:BD (cG Γ [sh (Br (a0,a1,a2)),sh (Br (b0,b1,b2)),Ae,Ae,Ae,Ae] 5 Cm) (cF Γ [sh (Br (a0,a1,a2)),sh (Br (b0,b1,b2)),Ae,Ae,Ae,Ae] 5 OU) [.int 0,.int 1,.int 2]=.ok [.int (a0*b0),.int (a1*b1),.int (a2*b2)]:=by
  simp[BD,cG,cF,Cm,OU,i0,i1,i2,j0,j1,j2,k ba.1 bb.1,k ba.2.1 bb.2.1,k ba.2.2 bb.2.2]
 simp[O3,Ta,Df.run,Bv,DN,rg,c1,CD,GM,Cr,i0,i1,i2,j0,j1,j2,k ba.1 bb.2.1,k ba.2.1 bb.1,k ba.1 bb.2.2,k ba.2.2 bb.1,k ba.2.1 bb.2.2,k ba.2.2 bb.2.1,Dq];rfl
noncomputable def cZ:E:=(.bin .Mod (.bin .Mult (.var 9) (.var 9)) (.var 0))
noncomputable def S7:E:=(.cmp .NotIn (.var 8) (.comp cZ 9 (.rng (.var 0)) Cm))
noncomputable def S9:E:=(.var 8)
noncomputable def Nf:E:=(.bin .Sub (.var 10) (.bin .Mult (.var 7) (.var 11)))
noncomputable def S8:E:=(.bin .Sub (.var 12) (.var 13))
noncomputable def KW:Df:=⟨14,Ad,(.cons (.asgT [3,4,5] (.var 1)) (.cons (.ife (.cmp .Eq (.var 2) (.int 1)) (.cons (.ret (.call 158 (.cons (.var 0) (.cons (.call 160 (.cons (.var 3) (.cons (.var 3) .nil))) .nil)))) .nil) .nil) (.cons (.ife (.cmp .Eq (.var 2) (.int 2)) (.cons (.ret (.call 158 (.cons (.var 0) (.cons (.call 160 (.cons (.var 3) (.cons (.var 4) .nil))) .nil)))) .nil) .nil) (.cons (.asg 6 Ad (.call 160 (.cons (.var 4) (.cons (.var 4) .nil)))) (.cons (.ife (.cmp .Eq (.var 2) (.int 3)) (.cons (.asg 7 Ad (.bi .min (.cons (.comp S9 8 (.rng2 (.int 2) (.var 0)) S7) .nil))) (.cons (.ret (.call 158 (.cons (.var 0) (.cons (.compT Nf [10,11] (.zip (.call 160 (.cons (.var 3) (.cons (.var 3) .nil))) (.var 6)) Cm) .nil)))) .nil)) .nil) (.cons (.ret (.call 158 (.cons (.var 0) (.cons (.compT S8 [12,13] (.zip (.call 160 (.cons (.var 3) (.cons (.var 5) .nil))) (.var 6)) Cm) .nil)))) .nil))))))⟩
noncomputable def LK(C D:C6):C6:=⟨C.c0-D.c0,C.c1-D.c1,C.c2-D.c2,C.c3-D.c3,C.c4-D.c4,C.c5-D.c5⟩
theorem Qf{p l:Af}(hp:P4 p)(el:A5 p (tri r)=Aa l):∃ u,Hh p l u/\In3 p (fmR p u r)/\A5 p (tri (fmR p u r))=Aa 1/\Pr p (fmR p u r) r/\fmI p u (tri r)=tri (fmR p u r):=by
 have p0:=hp.pos;obtain⟨lz,_,_⟩:=Mo p0 el;obtain⟨t,t1,t2,t3⟩:=Lo hp lz;have tz:t%p≠0:=by rw[AV (by omega) t2];omega
 have ff:∀ x,(t*(x%p)%p)%p=t*x%p:=fun x=>by rw[Bp _ (Ci p),BJ t (x%p) p,Bp _ (Ci p),<-BJ]
 have lv:=La hp tz (f:=fun x=>t*(x%p)%p) ff (tri r)
 rw[el,Ej,BH,t3]at lv;exact⟨t,⟨t1,t2,t3⟩,cx p0 t r,lv,⟨t,tz,cy p t r⟩,rfl⟩
theorem Qb(h:A5 p (tri g)=Ae):CgR p g (0,0,0):=by
 have hz:=J3.mp h;have k:∀ x∈tri g,Cg p x 0:=fun x hx=>by show x%p=0%p;rw[hz x hx,Bi]
 exact⟨k _ (by simp[tri]),k _ (by simp[tri]),k _ (by simp[tri])⟩
theorem Ur(h:CgR p g (0,0,0)):A5 p (tri g)=Ae:=by
 refine J3.mpr fun x hx=>?_
 have k:∀{x:Af},Cg p x 0->x%p=0:=fun {x} h=>by rw[show x%p=_ from h,Bi]
 simp only[tri,Aw,A3,BZ]at hx;rcases hx with rfl|rfl|rfl
 ·exact k h.1
 ·exact k h.2.1
 ·exact k h.2.2
theorem oY{p l:Af}{a b c f g:R3}(hp:P4 p)(z:Aq a b c%p≠0)(lf:A5 p (tri f)=Aa l)(h:CgR p g (ap a b c f)):∃ l,A5 p (tri g)=Aa l:=by
 cases el:A5 p (tri g) with
 |some l=>exact⟨l,rfl⟩
 |none=>
  have q0:CgR p (ap a b c f) (0,0,0):=h.symm.trans (Qb el);have q1:CgR p (BW (Aq a b c) f) (0,0,0):=by
   have:=XC (CgR.rfl (a:=bk0 a b c)) (CgR.rfl (a:=bk1 a b c)) (CgR.rfl (a:=bk2 a b c)) q0;rw[XD]at this;refine this.trans (CgR.of ?_);unfold ap AU;simp
  obtain⟨u,uz,o⟩:=Wj hp z;have q2:CgR p f (0,0,0):=by
   have w:=CgR.sc (k:=u) (k':=u) Cg.rfl q1;rw[Rh]at w;refine((CgR.of (NU f).symm).trans (CgR.sc o.symm CgR.rfl)).trans (w.trans (CgR.of ?_));unfold BW;simp
  rw[Ur q2]at lf;cases lf
theorem V5(a b c v:R3):ap a b c (ap (bk0 a b c) (bk1 a b c) (bk2 a b c) v)=BW (Aq a b c) v:=by
 unfold ap BW AU bk0 bk1 bk2 ES ER EQ crs Aq det;refine BF ?_ (BF ?_ ?_)<;>(simp only;grind)
noncomputable def No:Df:=⟨3,Ad,(.cons (.asg 2 Ad (.int 0)) (.cons (.ife (.cmp .Lt (.var 1) (.bi .len (.cons (.var 0) .nil))) (.cons (.asg 2 Ad (.idx (.var 0) (.var 1))) .nil) .nil) (.cons (.ret (.bin .Mod (.bin .Mult (.bin .Add (.bin .Add (.bin .Mod (.var 2) (.int 1000003)) (.bin .Mult (.int 7919) (.var 1))) (.int 11)) (.int 48271)) (.int 1000033))) .nil)))⟩
theorem sK(Γ:Gam)(ns:Ac Af)(k:Af)(h0:0<=k):∃ m,0<=m/\No.run Γ [scr ns,.int k]=.ok (.int m):=by
 have m1:DS 7919 k=Ab:=IK (by decide) (by decide)
 have m2:∀ x,DS x 48271=Ab:=fun x=>Qm (by decide) (by decide)
 by_cases h1:k<ns.length
 ·have g:=qF h0 h1;generalize ns.getD k.toNat 0=x at g;refine⟨(x%1000003+7919*k+11)*48271%1000033,Bo _ (by decide),?_⟩
  simp[No,Df.run,Bv,h1,g,m1,m2]
 ·refine⟨(0%1000003+7919*k+11)*48271%1000033,Bo _ (by decide),?_⟩
  simp[No,Df.run,Bv,h1,m1,m2]
noncomputable def RV(mid:Ag):Df:=⟨1,Ad,(.cons (.ret (.idx (.lst (.cons (.int 3) (.cons (.int 5) (.cons (.int 7) (.cons (.int 11) .nil))))) (.bin .Mod (.bin .FloorDiv (.call mid (.cons (.var 0) (.cons (.int 0) .nil))) (.int 5)) (.int 4)))) .nil)⟩
theorem iH(h:Kh Γ mid ns):∃ p,P4 p/\(RV mid).run Γ [scr ns]=.ok (.int p):=by
 obtain⟨m,m0,e⟩:=h 0 (by decide)
 refine⟨_,tD (m / 5),?_⟩;simp[RV,Df.run,Bv,e,jG]
noncomputable def Mi:Df:=⟨8,Ad,(.cons (.asgT [2,3,4] (.var 0)) (.cons (.asgT [5,6,7] (.var 1)) (.cons (.ret (.lst (.cons (.bin .Sub (.bin .Mult (.var 3) (.var 7)) (.bin .Mult (.var 4) (.var 6))) (.cons (.bin .Sub (.bin .Mult (.var 4) (.var 5)) (.bin .Mult (.var 2) (.var 7))) (.cons (.bin .Sub (.bin .Mult (.var 2) (.var 6)) (.bin .Mult (.var 3) (.var 5))) .nil))))) .nil)))⟩
noncomputable def O0:E:=(.bin .Mult (.var 7) (.var 8))
noncomputable def OX:Df:=⟨9,Ad,(.cons (.asgT [3,4,5] (.var 2)) (.cons (.asg 6 Ad (.lst (.cons (.bin .Mult (.var 3) (.var 3)) (.cons (.bin .Mult (.var 4) (.var 4)) (.cons (.bin .Mult (.var 5) (.var 5)) (.cons (.bin .Mult (.var 3) (.var 4)) (.cons (.bin .Mult (.var 3) (.var 5)) (.cons (.bin .Mult (.var 4) (.var 5)) .nil)))))))) (.cons (.ret (.bin .Mod (.bi .sum (.cons (.compT O0 [7,8] (.zip (.var 1) (.var 6)) Cm) .nil)) (.var 0))) .nil)))⟩
section
variable{Γ:Gam}{ns:Ac Af}{p:Af}{C:C6}{s3 s4 s5 s6 s7 s8:Sl}
end
section
variable{Γ:Gam}{ns:Ac Af}
end
noncomputable def QZ:Df:=⟨3,Ad,(.cons (.ret (.call 17 (.cons (.var 0) (.cons (.call 23 (.cons (.var 1) (.cons (.var 2) .nil))) .nil)))) .nil)⟩
theorem UW{a b:R3}(hp:P4 p)(h:CgR p (crs a b) (0,0,0))(la:A5 p (tri a)=Aa 1)(lb:A5 p (tri b)=Aa 1):Pr p b a:=by
 obtain⟨h0,h1,h2⟩:=h;have p1:1<p:=by have:=hp.lo;omega
 have sw:∀{x y:Af},Cg p (x-y) 0->Cg p x y:=fun {x y} h=>by
  have:=h.add (Cg.rfl (a:=y))
  rwa [Int.sub_add_cancel,Et]at this
 have e0:Cg p (a.2.1*b.2.2) (a.2.2*b.2.1):=sw h0;have e1:Cg p (a.2.2*b.1) (a.1*b.2.2):=sw h1;have e2:Cg p (a.1*b.2.1) (a.2.1*b.1):=sw h2;have one:∀{x:Af},x%p=1->Cg p x 1:=fun {x} h=>by show x%p=1%p;rw[h,AV (by decide) p1]
 have fin:∀ k,CgR p b (BW k a)->Pr p b a:=fun k hk=>by
  refine⟨k,fun z=>?_,hk⟩
  have:CgR p b (0,0,0):=by
   have kz:Cg p k 0:=by show k%p=0%p;rw[z,Bi]
   refine hk.trans ((CgR.sc kz CgR.rfl).trans (CgR.of ?_));unfold BW;simp
  rw[Ur this]at lb;cases lb
 unfold tri A5 at la;by_cases z0:a.1%p=0
 ·rw[AA z0]at la;have c0:Cg p a.1 0:=by show a.1%p=0%p;rw[z0,Bi]
  unfold A5 at la;by_cases z1:a.2.1%p=0
  ·rw[AA z1]at la;have c1:Cg p a.2.1 0:=by show a.2.1%p=0%p;rw[z1,Bi]
   unfold A5 at la;by_cases z2:a.2.2%p=0
   ·rw[AA z2]at la;cases la
   ·rw[AH z2,Ce]at la;have c2:=one la;refine fin b.2.2 ⟨?_,?_,?_⟩
    ·have:=(c2.symm.mul (Cg.rfl (a:=b.1))).trans e1;rw[Dk]at this;exact this.trans (Cg.of (BH _ _))
    ·have:=(c2.symm.mul (Cg.rfl (a:=b.2.1))).trans e0.symm;rw[Dk]at this;exact this.trans (Cg.of (BH _ _))
    ·have:=(Cg.rfl (a:=b.2.2)).mul c2;rw[DD]at this;exact this.symm
  ·rw[AH z1,Ce]at la;have c1:=one la;refine fin b.2.1 ⟨?_,?_,?_⟩
   ·have:=(c1.symm.mul (Cg.rfl (a:=b.1))).trans e2.symm;rw[Dk]at this;exact this.trans (Cg.of (BH _ _))
   ·have:=(Cg.rfl (a:=b.2.1)).mul c1;rw[DD]at this;exact this.symm
   ·have:=(c1.symm.mul (Cg.rfl (a:=b.2.2))).trans e0;rw[Dk]at this;exact this.trans (Cg.of (BH _ _))
 ·rw[AH z0,Ce]at la;have c0:=one la;refine fin b.1 ⟨?_,?_,?_⟩
  ·have:=(Cg.rfl (a:=b.1)).mul c0;rw[DD]at this;exact this.symm
  ·have:=(c0.symm.mul (Cg.rfl (a:=b.2.1))).trans e2;rw[Dk]at this;exact this.trans (Cg.of (BH _ _))
  ·have:=(c0.symm.mul (Cg.rfl (a:=b.2.2))).trans e1.symm;rw[Dk]at this;exact this.trans (Cg.of (BH _ _))
def Oc(Γ:Gam):Prop:=∀(p:Af)(a b:R3),P4 p->In3 p a->In3 p b->A5 p (tri a)=Aa 1->A5 p (tri b)=Aa 1->a≠b->∃ y,In3 p y/\A5 p (tri y)=Aa 1/\Pr p y (crs a b)/\Γ.F 57 [.int p,Au Ab a,Au Ab b]=.ok (Au Ab y)
theorem Wb(hc:QH Γ)(hf:NN Γ)(p:Af)(a b:R3)(hp:P4 p)(ia:In3 p a)(ib:In3 p b)(la:A5 p (tri a)=Aa 1)(lb:A5 p (tri b)=Aa 1)(ne:a≠b):∃ y,In3 p y/\A5 p (tri y)=Aa 1/\Pr p y (crs a b)/\QZ.run Γ [.int p,Au Ab a,Au Ab b]=.ok (Au Ab y):=by
 have e1:=hc a b ((FC hp ia).b3 (by decide)) ((FC hp ib).b3 (by decide)) ne
 cases el:A5 p (tri (crs a b)) with
 |none=>exact absurd (U6 hp ib ia lb la (UW hp (Qb el) la lb)).symm ne
 |some l=>
  obtain⟨u,iu,j,l1,pr,ef⟩:=Qf hp el;have e2:=hf p Ab _ l u hp el iu;rw[ef]at e2;have e2':Γ.F 17 [.int p,Au Ab (crs a b)]=.ok (Au Ab (fmR p u (crs a b))):=e2;refine⟨_,j,l1,pr,?_⟩;generalize Au Ab (fmR p u (crs a b))=Y at *;simp[QZ,Df.run,Bv,e1,e2']
def Wa(Γ:Gam):Prop:=∀(p:Af)(C:C6)(x:R3),P4 p->InC p C->In3 p x->Γ.F 162 [.int p,Cj C,Au Ab x]=.ok (.int (vI C x%p))
theorem sP(Γ:Gam)(p:Af)(C:C6)(x:R3)(hp:P4 p)(iC:InC p C)(ix:In3 p x):OX.run Γ [.int p,Cj C,Au Ab x]=.ok (.int (vI C x%p)):=by
 have p0:=hp.pos;have bC:=iC.b hp;have bx:=FC hp ix;have k:∀ {u v},Bd 10 u->Bd 10 v->EM u v=Ab:=fun hu hv=>GL hu hv (by decide) (by decide)
 have k2:∀ {u v w},Bd 10 u->Bd 10 v->Bd 10 w->EM u (v*w)=Ab:=fun hu hv hw=>GL hu (hv.mul hw) (by decide) (by decide)
 obtain⟨c0,c1,c2,c3,c4,c5⟩:=C;obtain⟨x0,x1,x2⟩:=x;have q00:=k bx.1 bx.1;have q11:=k bx.2.1 bx.2.1;have q22:=k bx.2.2 bx.2.2;have q01:=k bx.1 bx.2.1;have q02:=k bx.1 bx.2.2;have q12:=k bx.2.1 bx.2.2;have m0:=k2 bC.b0 bx.1 bx.1;have m1:=k2 bC.b1 bx.2.1 bx.2.1;have m2:=k2 bC.b2 bx.2.2 bx.2.2;have m3:=k2 bC.b3 bx.1 bx.2.1;have m4:=k2 bC.b4 bx.1 bx.2.2;have m5:=k2 bC.b5 bx.2.1 bx.2.2;simp only at q00 q11 q22 q01 q02 q12 m0 m1 m2 m3 m4 m5;have sC:CS (Cj ⟨c0,c1,c2,c3,c4,c5⟩)=.ok [.int c0,.int c1,.int c2,.int c3,.int c4,.int c5]:=rfl;have as:∀ ρ:Rho,Hb [3,4,5] (Au Ab (x0,x1,x2)) ρ=.ok (((ρ.set 3 (si x0)).set 4 (si x1)).set 5 (si x2)):=fun _=>rfl
 have ev:vI ⟨c0,c1,c2,c3,c4,c5⟩ (x0,x1,x2)=c0*(x0*x0)+c1*(x1*x1)+c2*(x2*x2)+c3*(x0*x1)+c4*(x0*x2)+c5*(x1*x2):=by
  unfold vI;simp only;grind
 rw[ev];generalize Cj ⟨c0,c1,c2,c3,c4,c5⟩=cC at *;generalize Au Ab (x0,x1,x2)=xx at *;generalize hz0:x0*x0=z0 at *;generalize hz1:x1*x1=z1 at *;generalize hz2:x2*x2=z2 at *;generalize hz3:x0*x1=z3 at *;generalize hz4:x0*x2=z4 at *;generalize hz5:x1*x2=z5 at *;have cp:BD (cGT Γ [si p,sh cC,sh xx,si x0,si x1,si x2,sh (.lst [.int z0,.int z1,.int z2,.int z3,.int z4,.int z5]),Ae,Ae] [7,8] Cm) (cFT Γ [si p,sh cC,sh xx,si x0,si x1,si x2,sh (.lst [.int z0,.int z1,.int z2,.int z3,.int z4,.int z5]),Ae,Ae] [7,8] O0) (DU [.int c0,.int c1,.int c2,.int c3,.int c4,.int c5] [.int z0,.int z1,.int z2,.int z3,.int z4,.int z5])=.ok [.int (c0*z0),.int (c1*z1),.int (c2*z2),.int (c3*z3),.int (c4*z4),.int (c5*z5)]:=by
  simp[BD,cGT,cFT,DU,O0,Cm,m0,m1,m2,m3,m4,m5]
 generalize hs:c0*z0+c1*z1+c2*z2+c3*z3+c4*z4+c5*z5=s;have sm:HN 0 [.int (c0*z0),.int (c1*z1),.int (c2*z2),.int (c3*z3),.int (c4*z4),.int (c5*z5)]=.ok s:=by rw[<-hs];simp[HN]
 simp[OX,Df.run,Bv,as,q00,q11,q22,q01,q02,q12,hz0,hz1,hz2,hz3,hz4,hz5,sC,cp,sm,p0]
theorem QC(a b:R3):AU (crs a b) a=0/\AU (crs a b) b=0:=by
 unfold AU crs;constructor<;>grind
theorem FA(hp:P4 p)(kz:k%p≠0):k*x%p=0↔x%p=0:=by
 constructor
 ·intro z;exact Di fun n=>C7 hp kz n z
 ·intro z;rw[BJ,z,C1,Bi]
section
variable{Γ:Gam}{ns:Ac Af}{p:Af}{C:C6}{s3 s4 s5 s6 s7 s8:Sl}
end
def NF(p:Af)(x:R3):Prop:=In3 p x/\A5 p (tri x)=Aa 1
noncomputable def ptI(p n:Af):R3:=if n=0 then (0,0,1) else if n<=p then (0,1,n-1) else (1,(n-p-1) / p,(n-p-1)%p)
noncomputable def Gy(p:Af):Ac R3:=(Bb (p*p+p+1).toNat).map fun(n:Ag)=>ptI p n
theorem Xc{n:Af}(hp:P4 p)(h0:0<=n)(h1:n<p*p+p+1):NF p (ptI p n):=by
 have p1:1<p:=by have:=hp.lo;omega
 have p0:=hp.pos;unfold ptI;by_cases z:n=0
 ·rw[AA z];exact⟨⟨⟨by decide,p0⟩,⟨by decide,p0⟩,⟨by decide,p1⟩⟩,uG p1⟩
 ·rw[AH z];by_cases z1:n<=p
  ·rw[AA z1];exact⟨⟨⟨JN 0,p0⟩,⟨(by decide:(0:Af)<=1),p1⟩,⟨by show 0<=n-1;omega,by show n-1<p;omega⟩⟩,zV p1 _⟩
  ·rw[AH z1];have d0:0<=(n-p-1) / p:=Int.ediv_nonneg (by omega) (by omega)
   have d1:(n-p-1) / p<p:=by rw[Int.ediv_lt_iff_lt_mul p0];omega
   exact⟨⟨⟨(by decide:(0:Af)<=1),p1⟩,⟨d0,d1⟩,⟨Bo _ (by omega),Bj _ p0⟩⟩,cR p1 _ _⟩
theorem zQ{x:R3}(hp:P4 p)(h:NF p x):∃ n:Af,0<=n/\n<p*p+p+1/\x=ptI p n:=by
 obtain⟨⟨i0,i1,i2⟩,l⟩:=h;have p1:1<p:=by have:=hp.lo;omega
 have p0:=hp.pos;have pp:=HY p0 p0;obtain⟨x0,x1,x2⟩:=x;simp only at i0 i1 i2;unfold tri A5 at l;simp only at l;rw[AV i0.1 i0.2]at l;by_cases z0:x0=0
 ·rw[AA z0]at l;unfold A5 at l;rw[AV i1.1 i1.2]at l;by_cases z1:x1=0
  ·rw[AA z1]at l;unfold A5 at l;rw[AV i2.1 i2.2]at l;by_cases z2:x2=0
   ·rw[AA z2]at l;cases l
   ·rw[AH z2,Ce]at l;exact⟨0,JN 0,by omega,by rw[z0,z1,l];rfl⟩
  ·rw[AH z1,Ce]at l;refine⟨x2+1,by omega,by omega,?_⟩
   unfold ptI;rw[AH (by omega),AA (by omega),z0,l,Int.add_sub_cancel]
 ·rw[AH z0,Ce]at l;have m1:p*x1<=p*(p-1):=Int.mul_le_mul_of_nonneg_left (by omega) (by omega)
  have m0:0<=p*x1:=XX (by omega) i1.1
  rw[Int.mul_sub,DD]at m1;refine⟨p+1+p*x1+x2,by omega,by omega,?_⟩
  unfold ptI;have e:p+1+p*x1+x2-p-1=x2+p*x1:=by omega
  rw[AH (by omega),AH (by omega),e,Int.add_mul_ediv_left _ _ (by omega),Int.ediv_eq_zero_of_lt i2.1 i2.2,Int.add_mul_emod_self_left,AV i2.1 i2.2,Et,l]
theorem HF{x:R3}(hp:P4 p):x∈Gy p↔NF p x:=by
 have p0:=hp.pos;have pp:=HY p0 p0;constructor
 ·intro h;obtain⟨n,hn,rfl⟩:=Dm.mp h;have:=Bq.mp hn;exact Xc hp (by omega) (by omega)
 ·intro h;obtain⟨n,n0,n1,rfl⟩:=zQ hp h;refine Dm.mpr ⟨n.toNat,Bq.mpr (by omega),?_⟩
  rw[Int.toNat_of_nonneg n0]
theorem fQ(hp:P4 p):(Gy p).Nodup:=by
 rcases hp with rfl|rfl|rfl|rfl<;>decide +kernel
theorem Qp{α:Type}[DecidableEq α]:∀{l1 l2:Ac α},l1.Nodup->(∀ x∈l1,x∈l2)->l1.length<=l2.length
 |[],_,_,_=>FU _
 |x::l1,l2,nd,h=>by
  obtain⟨n1,n2⟩:=BR.mp nd;have hx:=h x AB;have:=Qp (l1:=l1) (l2:=l2.erase x) n2 fun y hy=>by
   have hy2:=h y (Ay _ hy);have ne:y≠x:=fun e=>n1 (e ▸ hy)
   exact(List.mem_erase_of_ne ne).mpr hy2
  rw[List.length_erase_of_mem hx]at this;have l0:0<l2.length:=List.length_pos_of_mem hx;rw[Bk];omega
theorem PL{α β:Type}{f:α->β}:∀{l:Ac α},l.Nodup->(∀ x∈l,∀ y∈l,f x=f y->x=y)->(l.map f).Nodup
 |[],_,_=>Dz
 |x::l,nd,h=>by
  obtain⟨n1,n2⟩:=BR.mp nd;rw[Cf,BR];refine⟨fun m=>?_,PL n2 fun y hy z hz=>h y (Ay _ hy) z (Ay _ hz)⟩
  obtain⟨y,hy,e⟩:=Dm.mp m;have:=h y (Ay _ hy) x AB e;exact n1 (this ▸ hy)
theorem pA[DecidableEq α]{l:Ac α}(nd:l.Nodup)(F G:α->α)(hF:∀ x∈l,F x∈l)(hG:∀ y∈l,G y∈l)(GF:∀ x∈l,G (F x)=x)(FG:∀ y∈l,F (G y)=y)(Q:α->Ak):(l.filter fun x=>Q (F x)).length=(l.filter Q).length:=by
 refine Nat.le_antisymm ?_ ?_
 ·have n:((l.filter fun x=>Q (F x)).map F).Nodup:=PL (nd.filter _) fun x hx y hy e=>by
   have h1:=GF x (BQ.mp hx).1;have h2:=GF y (BQ.mp hy).1;rw[<-h1,<-h2,e]
  have:=Qp (l2:=l.filter Q) n fun z hz=>by
   obtain⟨x,hx,rfl⟩:=Dm.mp hz;obtain⟨h1,h2⟩:=BQ.mp hx;exact BQ.mpr ⟨hF x h1,h2⟩
  rwa [Bh]at this
 ·have n:((l.filter Q).map G).Nodup:=PL (nd.filter _) fun x hx y hy e=>by
   have h1:=FG x (BQ.mp hx).1;have h2:=FG y (BQ.mp hy).1;rw[<-h1,<-h2,e]
  have:=Qp (l2:=l.filter fun x=>Q (F x)) n fun z hz=>by
   obtain⟨x,hx,rfl⟩:=Dm.mp hz;obtain⟨h1,h2⟩:=BQ.mp hx;exact BQ.mpr ⟨hG x h1,by rw[FG x h1];exact h2⟩
  rwa [Bh]at this
noncomputable def nrm(p:Af)(r:R3):R3:=open Classical in if h:∃ y,NF p y/\Pr p y r then XR h else r
theorem UH{p l:Af}(hp:P4 p)(el:A5 p (tri r)=Aa l):NF p (nrm p r)/\Pr p (nrm p r) r:=by
 have h:∃ y,NF p y/\Pr p y r:=by
  obtain⟨u,iu,j,l1,pr,_⟩:=Qf hp el;exact⟨_,⟨j,l1⟩,pr⟩
 unfold nrm;rw[dif_pos h];exact Er h
theorem Kc{a b c x:R3}(hp:P4 p)(z:Aq a b c%p≠0)(hx:NF p x):NF p (nrm p (ap a b c x))/\Pr p (nrm p (ap a b c x)) (ap a b c x):=by
 obtain⟨l,el⟩:=oY hp z hx.2 CgR.rfl;exact UH hp el
theorem NT{x:R3}(hp:P4 p)(hx:NF p x)(hy:NF p y)(h:Pr p x y):x=y:=U6 hp hx.1 hy.1 hx.2 hy.2 h
theorem fT{a b c x:R3}(hp:P4 p)(z:Aq a b c%p≠0)(hx:NF p x):nrm p (ap (bk0 a b c) (bk1 a b c) (bk2 a b c) (nrm p (ap a b c x)))=x:=by
 obtain⟨h1,h2⟩:=Kc hp z hx;have zB:Aq (bk0 a b c) (bk1 a b c) (bk2 a b c)%p≠0:=by rw[Q9];exact C7 hp z z
 obtain⟨h3,h4⟩:=Kc hp zB h1;refine NT hp h3 hx (h4.trans hp ((Pr.ap h2).trans hp ?_));rw[XD];exact⟨_,z,CgR.rfl⟩
theorem fS{a b c x:R3}(hp:P4 p)(z:Aq a b c%p≠0)(hx:NF p x):nrm p (ap a b c (nrm p (ap (bk0 a b c) (bk1 a b c) (bk2 a b c) x)))=x:=by
 have zB:Aq (bk0 a b c) (bk1 a b c) (bk2 a b c)%p≠0:=by rw[Q9];exact C7 hp z z
 obtain⟨h1,h2⟩:=Kc hp zB hx;obtain⟨h3,h4⟩:=Kc hp z h1;refine NT hp h3 hx (h4.trans hp ((Pr.ap h2).trans hp ?_));rw[V5];exact⟨_,z,CgR.rfl⟩
theorem oZ{a b c:R3}(hp:P4 p)(z:Aq a b c%p≠0)(Q:R3->Ak):((Gy p).filter fun x=>Q (nrm p (ap a b c x))).length=((Gy p).filter Q).length:=by
 have zB:Aq (bk0 a b c) (bk1 a b c) (bk2 a b c)%p≠0:=by rw[Q9];exact C7 hp z z
 exact pA (fQ hp) (fun x=>nrm p (ap a b c x)) (fun x=>nrm p (ap (bk0 a b c) (bk1 a b c) (bk2 a b c) x)) (fun x hx=>(HF hp).mpr (Kc hp z ((HF hp).mp hx)).1) (fun x hx=>(HF hp).mpr (Kc hp zB ((HF hp).mp hx)).1) (fun x hx=>fT hp z ((HF hp).mp hx)) (fun x hx=>fS hp z ((HF hp).mp hx)) Q
noncomputable def Jc(p:Af):Af:=if p=7 then 3 else 2
noncomputable def q4(w:Ag)(k:Af)(y:R3):Af:=match w with
  |0=>y.1*y.2.2-y.2.1*y.2.1
  |1=>y.1*y.1
  |2=>y.1*y.2.1
  |_=>y.1*y.1-k*(y.2.1*y.2.1)
noncomputable def E4(w:Ag)(k:Af)(a b c:R3):C6:=match w with
  |0=>LK (prd a c) (prd b b)
  |1=>prd a a
  |2=>prd a b
  |_=>LK (prd a a) (scC k (prd b b))
def W4(w:Ag):Prop:=w=0\/w=1\/w=2\/w=3
theorem IN(u v x:R3):vI (prd u v) x=AU u x*AU v x:=by
 unfold vI prd AU;simp only;grind
theorem Wz(A B:C6)(x:R3):vI (LK A B) x=vI A x-vI B x:=by
 unfold vI LK;simp only;grind
theorem Lm(k:Af)(A:C6)(x:R3):vI (scC k A) x=k*vI A x:=by
 unfold vI scC;simp only;grind
theorem Sw(hw:W4 w)(k:Af)(a b c x:R3):vI (E4 w k a b c) x=q4 w k (ap a b c x):=by
 rcases hw with rfl|rfl|rfl|rfl
 ·show vI (LK _ _) x=AU a x*AU c x-AU b x*AU b x;rw[Wz,IN,IN]
 ·show vI (prd _ _) x=AU a x*AU a x;rw[IN]
 ·show vI (prd _ _) x=AU a x*AU b x;rw[IN]
 ·show vI (LK _ _) x=AU a x*AU a x-k*(AU b x*AU b x);rw[Wz,Lm,IN,IN]
theorem Xb(hw:W4 w)(k d:Af)(y:R3):q4 w k (BW d y)=d*d*q4 w k y:=by
 rcases hw with rfl|rfl|rfl|rfl<;>(unfold q4 BW;simp only;grind)
theorem ah(hw:W4 w)(h:CgR p y y'):Cg p (q4 w k y) (q4 w k y'):=by
 rcases hw with rfl|rfl|rfl|rfl
 ·exact(h.1.mul h.2.2).sub (h.2.1.mul h.2.1)
 ·exact h.1.mul h.1
 ·exact h.1.mul h.2.1
 ·exact(h.1.mul h.1).sub (Cg.rfl.mul (h.2.1.mul h.2.1))
theorem ag(hw:W4 w)(hp:P4 p)(h:Pr p y y'):(q4 w k y%p=0)↔(q4 w k y'%p=0):=by
 obtain⟨d,dz,e⟩:=h;have q:=(ah (k:=k) hw e).trans (Cg.of (Xb hw k d y'));rw[show q4 w k y%p=_ from q]
 exact FA hp (C7 hp dz dz)
theorem xL(hw:W4 w){a b c x:R3}(hp:P4 p)(z:Aq a b c%p≠0)(h:PrC p C (E4 w k a b c))(hx:NF p x):(vI C x%p=0)↔(q4 w k (nrm p (ap a b c x))%p=0):=by
 rw[ag hw hp (Kc hp z hx).2,<-Sw hw];obtain⟨d,dz,e⟩:=h;have q:=(Ih e CgR.rfl (x:=x)).trans (Cg.of (Lm d _ x));rw[show vI C x%p=_ from q]
 exact FA hp dz
noncomputable def Sv(p:Af)(w:Ag):Ag:=match w with
  |0=>(p+1).toNat
  |1=>(p+1).toNat
  |2=>(2*p+1).toNat
  |_=>1
theorem bU(hp:P4 p)(hw:W4 w):((Gy p).filter fun y=>decide (q4 w (Jc p) y%p=0)).length=Sv p w:=by
 rcases hp with rfl|rfl|rfl|rfl<;>rcases hw with rfl|rfl|rfl|rfl<;>decide +kernel
noncomputable def LQ(p:Af)(C:C6):Ac R3:=(Gy p).filter fun x=>decide (vI C x%p=0)
theorem nS(hw:W4 w){a b c:R3}(hp:P4 p)(z:Aq a b c%p≠0)(h:PrC p C (E4 w (Jc p) a b c)):(LQ p C).length=Sv p w:=by
 rw[<-bU hp hw,<-oZ hp z];unfold LQ
 congr 1
 refine List.filter_congr fun x hx=>?_
 rw[decide_eq_decide];exact xL hw hp z h ((HF hp).mp hx)
theorem nL(hw:W4 w){a b c:R3}(hp:P4 p)(z:Aq a b c%p≠0):∃ l,A5 p (E4 w k a b c).l=Aa l:=by
 cases el:A5 p (E4 w k a b c).l with
 |some l=>exact⟨l,rfl⟩
 |none=>
  have hz:=J3.mp el;have kk:∀ x∈(E4 w k a b c).l,Cg p x (0*x):=fun x hx=>by show x%p=0*x%p;rw[hz x hx,DF,Bi]
  have e0:CgC p (E4 w k a b c) (scC 0 (E4 w k a b c)):=⟨kk _ (by simp[C6.l]),kk _ (by simp[C6.l]),kk _ (by simp[C6.l]),kk _ (by simp[C6.l]),kk _ (by simp[C6.l]),kk _ (by simp[C6.l])⟩
  have zero:∀ x:R3,vI (E4 w k a b c) x%p=0:=fun x=>by
   rw[show vI (E4 w k a b c) x%p=_ from Ih e0 CgR.rfl,Lm,DF,Bi]
  obtain⟨y,hy⟩:∃ y:R3,q4 w k y=1:=by
   rcases hw with rfl|rfl|rfl|rfl
   ·exact⟨(1,0,1),rfl⟩
   ·exact⟨(1,0,0),rfl⟩
   ·exact⟨(1,1,0),rfl⟩
   ·exact⟨(1,0,0),by unfold q4;simp⟩
  have:=zero (ap (bk0 a b c) (bk1 a b c) (bk2 a b c) y);rw[Sw hw,V5,Xb hw,hy,DD]at this;exact absurd this (C7 hp z z)
noncomputable def AY(pts:Ac R3):D:=.lst (pts.map (Au Ab))
theorem TL{g:D->R Ak}{f:D->R D}{q:R3->Ak}:∀(xs:Ac R3),(∀ x∈xs,g (Au Ab x)=.ok (q x)/\f (Au Ab x)=.ok (Au Ab x))->BD g f (xs.map (Au Ab))=.ok ((xs.filter q).map (Au Ab))
 |[],_=>rfl
 |x::xs,h=>by
  obtain⟨h1,h2⟩:=h x (AB ..);have ih:=TL xs fun y hy=>h y (Ay _ hy)
  show (g (Au Ab x)).bind _=_;rw[h1,R.bind_ok,D0];cases hq:q x with
  |true=>
   rw[AA rfl,AA rfl,h2,R.bind_ok,show BD g f (Ma (Au Ab) xs)=_ from ih]
   rfl
  |false=>
   rw[AH (by decide),AH (by decide)]
   exact ih
def XE(Γ:Gam):Prop:=∀(p n:Af),P4 p->0<=n->n<p*p+p+1->Γ.F 157 [.int p,.int n]=.ok (Au Ab (ptI p n))
theorem xS(Γ:Gam)(p n:Af)(hp:P4 p)(h0:0<=n)(h1:n<p*p+p+1):IH.run Γ [.int p,.int n]=.ok (Au Ab (ptI p n)):=by
 have pp:DS p p=Ab:=IK (by have:=hp.lo;omega) (by have:=hp.hi;omega)
 have p0:=hp.pos;have ph:=hp.hi;have N0:0<p*p+p+1:=by have:=HY p0 p0;omega
 have hr:n%(p*p+p+1)=n:=AV h0 h1;have pb:p<1073741824:=by omega
 unfold ptI;by_cases z0:n=0
 ·rw[AA z0];simp[IH,Df.run,Bv,pp,N0,hr,z0];rfl
 ·rw[AH z0];by_cases z1:n<=p
  ·rw[AA z1];simp[IH,Df.run,Bv,pp,N0,hr,z0,z1];rfl
  ·rw[AH z1];simp[IH,Df.run,Bv,pp,N0,hr,z0,z1,p0,pb];rfl
noncomputable def Mg:E:=(.call 157 (.cons (.var 0) (.cons (.var 1) .nil)))
noncomputable def Ni:Df:=⟨2,Ad,(.cons (.ret (.comp Mg 1 (.rng (.bin .Add (.bin .Add (.bin .Mult (.var 0) (.var 0)) (.var 0)) (.int 1))) Cm)) .nil)⟩
def XH(Γ:Gam):Prop:=∀ p:Af,P4 p->Γ.F 164 [.int p]=.ok (AY (Gy p))
theorem zZ(h:XE Γ)(p:Af)(hp:P4 p):Ni.run Γ [.int p]=.ok (AY (Gy p)):=by
 have pp:DS p p=Ab:=IK (by have:=hp.lo;omega) (by have:=hp.hi;omega)
 have N1:0<=p*p+p+1/\p*p+p+1<=1000:=by rcases hp with rfl|rfl|rfl|rfl<;>decide
 have rg:CC 0 (p*p+p+1)=.ok (BY 0 (p*p+p+1-0).toNat):=PJ (by decide) (by decide) (by omega) (by omega)
 rw[XZ]at rg;have cp:BD (cG Γ [si p,Ae] 1 Cm) (cF Γ [si p,Ae] 1 Mg) (BY 0 (p*p+p+1).toNat)=.ok ((Gy p).map (Au Ab)):=by
  have key:∀ L:Ac Ag,(∀ k∈L,(k:Af)<p*p+p+1)->BD (cG Γ [si p,Ae] 1 Cm) (cF Γ [si p,Ae] 1 Mg) (L.map fun(k:Ag)=>D.int (0+(k:Af)))=.ok ((L.map fun(n:Ag)=>ptI p n).map (Au Ab)):=fun L=>by
   induction L with
   |nil=>intro _;rfl
   |cons k L ih=>
    intro hL;have e:=h p k hp (by omega) (hL k AB)
    have f:cF Γ [si p,Ae] 1 Mg (.int (0+(k:Af)))=.ok (Au Ab (ptI p k)):=by
     rw[Et];simp[cF,Mg,e]
    have ih':=ih fun m hm=>hL m (Ay _ hm)
    show (R.ok Ab).bind _=_;rw[R.bind_ok,AA rfl,f,R.bind_ok,show BD _ _ (Ma _ L)=_ from ih']
    rfl
  exact key _ fun k hk=>by have:=Bq.mp hk;omega
 generalize hN:p*p+p+1=N at *;generalize BY 0 N.toNat=RL at *;have e1:p*p+p+1=N:=hN;simp[Ni,Df.run,Bv,pp,e1,rg,cp];rfl
def aI(Γ:Gam):Prop:=∀(p:Af)(a b c:R3)(w:Ag),GoodR p a b c->W4 w->∃ C:C6,InC p C/\A5 p C.l=Aa 1/\PrC p C (E4 w (Jc p) a b c)/\Γ.F 163 [.int p,Kq a b c,.int w]=.ok (Cj C)
theorem od4(Γ:Gam)(RR ra rb rc:D)(s6:Sl)(hp:P4 p):evE Γ [si p,sh RR,si 3,sh ra,sh rb,sh rc,s6,Ae,Ae,Ae,Ae,Ae,Ae,Ae] (.bi .min (.cons (.comp S9 8 (.rng2 (.int 2) (.var 0)) S7) .nil))=.ok (.int (Jc p)):=by
 rcases hp with rfl|rfl|rfl|rfl<;>kernel_rfl!
theorem Wt{Γ:Gam}{s0 s1 s2 s3 s4 s5 s6 s7 s8 s9 s10 s11:Sl}:∀ xs ys:Ac Af,BD (cGT Γ [s0,s1,s2,s3,s4,s5,s6,s7,s8,s9,s10,s11,Ae,Ae] [12,13] Cm) (cFT Γ [s0,s1,s2,s3,s4,s5,s6,s7,s8,s9,s10,s11,Ae,Ae] [12,13] S8) (DU (ds xs) (ds ys))=.ok (ds (D4 (fun x y=>x-y) xs ys))
 |[],_=>rfl
 |_::_,[]=>rfl
 |x::xs,y::ys=>by
  have ih:=Wt (Γ:=Γ) (s0:=s0) (s1:=s1) (s2:=s2) (s3:=s3) (s4:=s4) (s5:=s5) (s6:=s6) (s7:=s7) (s8:=s8) (s9:=s9) (s10:=s10) (s11:=s11) xs ys;show BD _ _ (.tup [.int x,.int y]::DU (ds xs) (ds ys))=.ok (.int (x-y)::ds (D4 (fun x y=>x-y) xs ys))
  rw[BD,ih];rfl
theorem VG{Γ:Gam}{o:Af}{s0 s1 s2 s3 s4 s5 s6 s8 s9:Sl}(ob:∀ y,DS o y=Ab):∀ xs ys:Ac Af,BD (cGT Γ [s0,s1,s2,s3,s4,s5,s6,si o,s8,s9,Ae,Ae,Ae,Ae] [10,11] Cm) (cFT Γ [s0,s1,s2,s3,s4,s5,s6,si o,s8,s9,Ae,Ae,Ae,Ae] [10,11] Nf) (DU (ds xs) (ds ys))=.ok (ds (D4 (fun x y=>x-o*y) xs ys))
 |[],_=>rfl
 |_::_,[]=>rfl
 |x::xs,y::ys=>by
  have ih:=VG (Γ:=Γ) (s0:=s0) (s1:=s1) (s2:=s2) (s3:=s3) (s4:=s4) (s5:=s5) (s6:=s6) (s8:=s8) (s9:=s9) ob xs ys;have f:cFT Γ [s0,s1,s2,s3,s4,s5,s6,si o,s8,s9,Ae,Ae,Ae,Ae] [10,11] Nf (.tup [.int x,.int y])=.ok (.int (x-o*y)):=by
   simp[cFT,Nf,ob]
  show BD _ _ (.tup [.int x,.int y]::DU (ds xs) (ds ys))=.ok (.int (x-o*y)::ds (D4 (fun x y=>x-o*y) xs ys))
  rw[BD,ih,f];rfl
theorem zY(hf:QG Γ)(hd:vZ Γ)(p:Af)(a b c:R3)(w:Ag)(g:GoodR p a b c)(hw:W4 w):∃ C:C6,InC p C/\A5 p C.l=Aa 1/\PrC p C (E4 w (Jc p) a b c)/\KW.run Γ [.int p,Kq a b c,.int w]=.ok (Cj C):=by
 have hp:=g.p4;obtain⟨l,el⟩:=nL hw (k:=Jc p) hp g.nz;obtain⟨t,C,it,eD,iC,lC,pC⟩:=RD hp el;have e3:=hf p Ad _ l t hp el it;rw[eD]at e3;refine⟨C,iC,lC,pC,?_⟩
 clear pC lC iC eD it el
 have eaa:=hd p a a hp g.ia g.ia;have eab:=hd p a b hp g.ia g.ib;have eac:=hd p a c hp g.ia g.ic;have ebb:=hd p b b hp g.ib g.ib;have as:∀ ρ:Rho,Hb [3,4,5] (Kq a b c) ρ=.ok (((ρ.set 3 (sh (Br a))).set 4 (sh (Br b))).set 5 (sh (Br c))):=fun _=>rfl
 rcases hw with rfl|rfl|rfl|rfl
 ·have e3':Γ.F 158 [.int p,.lst (ds (D4 (fun x y=>x-y) (prd a c).l (prd b b).l))]=.ok (Cj C):=e3
  have e1':Γ.F 160 [Br a,Br c]=.ok (.lst (ds (prd a c).l)):=eac;have e2':Γ.F 160 [Br b,Br b]=.ok (.lst (ds (prd b b).l)):=ebb;have cp:=fun(s0 s1 s2 s3 s4 s5 s6 s7 s8 s9 s10 s11:Sl)=>Wt (Γ:=Γ) (s0:=s0) (s1:=s1) (s2:=s2) (s3:=s3) (s4:=s4) (s5:=s5) (s6:=s6) (s7:=s7) (s8:=s8) (s9:=s9) (s10:=s10) (s11:=s11) (prd a c).l (prd b b).l
  generalize ds (D4 (fun x y=>x-y) (prd a c).l (prd b b).l)=LC at *
  generalize ds (prd a c).l=LA at *;generalize ds (prd b b).l=LB at *;generalize Br a=ra at *;generalize Br b=rb at *;generalize Br c=rc at *;generalize Kq a b c=RR at *;simp[KW,Df.run,Bv,as,e1',e2',cp,e3']
 ·have e3':Γ.F 158 [.int p,.lst (ds (prd a a).l)]=.ok (Cj C):=e3;generalize D.lst (ds (prd a a).l)=A at *;simp[KW,Df.run,Bv,as,eaa,e3']
 ·have e3':Γ.F 158 [.int p,.lst (ds (prd a b).l)]=.ok (Cj C):=e3;generalize D.lst (ds (prd a b).l)=A at *;simp[KW,Df.run,Bv,as,eab,e3']
 ·have ob:∀ y,DS (Jc p) y=Ab:=fun y=>by rcases hp with rfl|rfl|rfl|rfl<;>exact IK (by decide) (by decide)
  have e3':Γ.F 158 [.int p,.lst (ds (D4 (fun x y=>x-Jc p*y) (prd a a).l (prd b b).l))]=.ok (Cj C):=e3
  have e1':Γ.F 160 [Br a,Br a]=.ok (.lst (ds (prd a a).l)):=eaa;have e2':Γ.F 160 [Br b,Br b]=.ok (.lst (ds (prd b b).l)):=ebb;have od:=fun(RR ra rb rc:D)(s6:Sl)=>od4 Γ RR ra rb rc s6 hp
  have cp:=fun(s0 s1 s2 s3 s4 s5 s6 s8 s9:Sl)=>VG (Γ:=Γ) (s0:=s0) (s1:=s1) (s2:=s2) (s3:=s3) (s4:=s4) (s5:=s5) (s6:=s6) (s8:=s8) (s9:=s9) ob (prd a a).l (prd b b).l
  generalize Jc p=o at *;generalize ds (D4 (fun x y=>x-o*y) (prd a a).l (prd b b).l)=LC at *
  generalize ds (prd a a).l=LA at *;generalize ds (prd b b).l=LB at *;generalize Br a=ra at *;generalize Br b=rb at *;generalize Br c=rc at *;generalize Kq a b c=RR at *;simp[-Q3,KW,Df.run,Bv,as,e1',e2',od,cp,e3']
noncomputable def lc2(a:Af)(A:C6)(b:Af)(B:C6):C6:=⟨a*A.c0+b*B.c0,a*A.c1+b*B.c1,a*A.c2+b*B.c2,a*A.c3+b*B.c3,a*A.c4+b*B.c4,a*A.c5+b*B.c5⟩
noncomputable def l3(a:Af)(A:C6)(b:Af)(B:C6)(c:Af)(G:C6):C6:=⟨a*A.c0+b*B.c0+c*G.c0,a*A.c1+b*B.c1+c*G.c1,a*A.c2+b*B.c2+c*G.c2,a*A.c3+b*B.c3+c*G.c3,a*A.c4+b*B.c4+c*G.c4,a*A.c5+b*B.c5+c*G.c5⟩
section
variable{p:Af}{x y z w:R3}{Q A B G L M:C6}
theorem GK(hp:P4 p)(hx:NF p x)(hy:NF p y)(ne:x≠y):¬ CgR p (crs x y) (0,0,0):=fun h=>ne (NT hp hx hy (Pr.symm hp (UW hp h hx.2 hy.2)))
theorem oW(x y z:R3):bk0 (x.1,y.1,z.1) (x.2.1,y.2.1,z.2.1) (x.2.2,y.2.2,z.2.2)=crs y z/\bk1 (x.1,y.1,z.1) (x.2.1,y.2.1,z.2.1) (x.2.2,y.2.2,z.2.2)=crs z x/\bk2 (x.1,y.1,z.1) (x.2.1,y.2.1,z.2.1) (x.2.2,y.2.2,z.2.2)=crs x y:=by
 refine⟨?_,?_,?_⟩<;>simp only[bk0,bk1,bk2,ES,ER,EQ,crs]<;>refine BF ?_ (BF ?_ ?_)<;>simp only<;>grind
theorem jR(x y z:R3):Aq (x.1,y.1,z.1) (x.2.1,y.2.1,z.2.1) (x.2.2,y.2.2,z.2.2)=Aq x y z:=by
 unfold Aq det;simp only;grind
theorem jU(b0 b1 b2:Af)(r0 r1 r2:R3):pb ⟨0,0,0,b0,b1,b2⟩ r0 r1 r2=l3 b0 (prd r0 r1) b1 (prd r0 r2) b2 (prd r1 r2):=by
 simp only[pb,l3,prd,vI,bI,AU,ap,tw0,tw1,tw2,ES,ER,EQ]
 congr 1<;>grind
theorem fC(hx:vI Q x%p=0)(hy:vI Q y%p=0)(hz:vI Q z%p=0):CgC p (scC (Aq x y z*Aq x y z) Q) (l3 (bI Q x y) (prd (crs y z) (crs z x)) (bI Q x z) (prd (crs y z) (crs x y)) (bI Q y z) (prd (crs z x) (crs x y))):=by
 obtain⟨e0,e1,e2⟩:=tY (x.1,y.1,z.1) (x.2.1,y.2.1,z.2.1) (x.2.2,y.2.2,z.2.2);have h:=b9 Q (x.1,y.1,z.1) (x.2.1,y.2.1,z.2.1) (x.2.2,y.2.2,z.2.2) (bk0 (x.1,y.1,z.1) (x.2.1,y.2.1,z.2.1) (x.2.2,y.2.2,z.2.2)) (bk1 (x.1,y.1,z.1) (x.2.1,y.2.1,z.2.1) (x.2.2,y.2.2,z.2.2)) (bk2 (x.1,y.1,z.1) (x.2.1,y.2.1,z.2.1) (x.2.2,y.2.2,z.2.2));rw[e0,e1,e2,bg,jR]at h;obtain⟨f0,f1,f2⟩:=oW x y z;rw[f0,f1,f2]at h;rw[<-h,<-jU];refine Xq ?_ ⟨Cg.rfl,Cg.rfl,Cg.rfl⟩ ⟨Cg.rfl,Cg.rfl,Cg.rfl⟩ ⟨Cg.rfl,Cg.rfl,Cg.rfl⟩;have k:∀{n:Af},n%p=0->Cg p n 0:=fun {n} h=>by show n%p=0%p;rw[h,Bi]
 exact⟨k hx,k hy,k hz,Cg.rfl,Cg.rfl,Cg.rfl⟩
theorem aV(x y z w:R3):BW (Aq x y z) w=(Aq w y z*x.1+Aq x w z*y.1+Aq x y w*z.1,Aq w y z*x.2.1+Aq x w z*y.2.1+Aq x y w*z.2.1,Aq w y z*x.2.2+Aq x w z*y.2.2+Aq x y w*z.2.2):=by
 unfold BW Aq det;refine BF ?_ (BF ?_ ?_)<;>simp only<;>grind
theorem W9(x y z w:R3):BW (Aq x y z) (crs z w)=(Aq w y z*(crs z x).1-Aq x w z*(crs y z).1,Aq w y z*(crs z x).2.1-Aq x w z*(crs y z).2.1,Aq w y z*(crs z x).2.2-Aq x w z*(crs y z).2.2):=by
 unfold BW Aq det crs;refine BF ?_ (BF ?_ ?_)<;>simp only<;>grind
theorem W5(x y z w:R3):BW (Aq x y z) (crs y w)=(Aq x y w*(crs y z).1-Aq w y z*(crs x y).1,Aq x y w*(crs y z).2.1-Aq w y z*(crs x y).2.1,Aq x y w*(crs y z).2.2-Aq w y z*(crs x y).2.2):=by
 unfold BW Aq det crs;refine BF ?_ (BF ?_ ?_)<;>simp only<;>grind
theorem xJ(x y z w:R3):BW (Aq x y z) (crs x w)=(Aq x w z*(crs x y).1-Aq x y w*(crs z x).1,Aq x w z*(crs x y).2.1-Aq x y w*(crs z x).2.1,Aq x w z*(crs x y).2.2-Aq x y w*(crs z x).2.2):=by
 unfold BW Aq det crs;refine BF ?_ (BF ?_ ?_)<;>simp only<;>grind
theorem bB(x y z w:R3):scC (Aq x y z) (prd (crs x y) (crs z w))=lc2 (Aq w y z) (prd (crs z x) (crs x y)) (-Aq x w z) (prd (crs y z) (crs x y)):=by
 have e:=W9 x y z w;unfold BW at e;simp only[G7]at e;obtain⟨e0,e1,e2⟩:=e;generalize Aq x y z=d at *;generalize Aq w y z=u0 at *;generalize Aq x w z=u1 at *;generalize crs z w=c at *;generalize crs x y=r2 at *;generalize crs y z=r0 at *;generalize crs z x=r1 at *;simp only[scC,lc2,prd]
 congr 1<;>grind
theorem cH(x y z w:R3):scC (Aq x y z) (prd (crs x z) (crs y w))=lc2 (Aq w y z) (prd (crs z x) (crs x y)) (-Aq x y w) (prd (crs y z) (crs z x)):=by
 have e:=W5 x y z w;have f:crs x z=BW (-1) (crs z x):=by
  unfold BW crs;refine BF ?_ (BF ?_ ?_)<;>simp only<;>grind
 rw[f];unfold BW at e ⊢;simp only[G7]at e;obtain⟨e0,e1,e2⟩:=e;generalize Aq x y z=d at *;generalize Aq w y z=u0 at *;generalize Aq x y w=u2 at *;generalize crs y w=c at *;generalize crs x y=r2 at *;generalize crs y z=r0 at *;generalize crs z x=r1 at *;simp only[scC,lc2,prd]
 congr 1<;>grind
theorem z0{n:Af}(h:n%p=0):Cg p n 0:=by show n%p=0%p;rw[h,Bi]
theorem z0'{n:Af}(h:Cg p n 0):n%p=0:=by
 have:n%p=0%p:=h;rw[this,Bi]
theorem cN(hx:vI Q x%p=0)(hy:vI Q y%p=0)(hz:vI Q z%p=0)(hw:vI Q w%p=0):Cg p (Aq w y z*Aq x w z*bI Q x y+Aq w y z*Aq x y w*bI Q x z+Aq x w z*Aq x y w*bI Q y z) 0:=by
 have e:=Wy Q x y z (Aq w y z) (Aq x w z) (Aq x y w);rw[<-aV]at e;have f:vI Q (BW (Aq x y z) w)=Aq x y z*Aq x y z*vI Q w:=by
  unfold vI BW;simp only;grind
 rw[f]at e;have h1:Cg p (Aq x y z*Aq x y z*vI Q w) 0:=(Cg.mul Cg.rfl (z0 hw)).trans (Cg.of (C1 _));rw[e]at h1;have k:∀{a n:Af},n%p=0->Cg p (a*a*n) 0:=fun h=>(Cg.mul Cg.rfl (z0 h)).trans (Cg.of (C1 _))
 have h2:=h1.sub (((k (a:=Aq w y z) hx).add (k (a:=Aq x w z) hy)).add (k (a:=Aq x y w) hz));refine(Cg.of ?_).trans (h2.trans (Cg.of (by rfl)))
 generalize vI Q x=q0;generalize vI Q y=q1;generalize vI Q z=q2;generalize bI Q x y=b0;generalize bI Q x z=b1;generalize bI Q y z=b2;generalize Aq w y z=u0;generalize Aq x w z=u1;generalize Aq x y w=u2;grind
def Spn(p:Af)(Q L M:C6):Prop:=∃ g a b,g%p≠0/\CgC p (scC g Q) (lc2 a L b M)
section
variable{d u0 u1 u2 b0 b1 b2 q A B G l m:Af}
theorem LP(h:Cg p (d*d*q) (b0*A+b1*B+b2*G))(r:Cg p (u0*u1*b0+u0*u2*b1+u1*u2*b2) 0)(hl:d*l=u0*G + -u1*B)(hm:d*m=u0*G + -u2*A):Cg p (u1*u2*(d*d)*q) (-(u2*b1*d)*l + -(u1*b0*d)*m):=by
 have h1:=(Cg.rfl (p:=p) (a:=u1*u2)).mul h;have h2:=(Cg.rfl (p:=p) (a:=G)).mul r;have h3:=h1.sub h2.symm;refine(Cg.of (by clear h r h1 h2 h3 hl hm;grind)).trans (h3.trans (Cg.of ?_))
 clear h r h1 h2 h3
 have e1:-(u2*b1*d)*l=-(u2*b1)*(d*l):=by grind
 have e2:-(u1*b0*d)*m=-(u1*b0)*(d*m):=by grind
 rw[e1,e2,hl,hm];grind
theorem LO(h:Cg p (d*d*q) (b0*A+b1*B+b2*G))(h1:Cg p u1 0)(hb:Cg p b1 0)(hl:d*l=u0*G + -u1*B)(hm:d*m=u0*G + -u2*A):Cg p (u0*u2*(d*d)*q) ((u0*b0+u2*b2)*d*l + -(u0*b0*d)*m):=by
 have e1:=(Cg.rfl (p:=p) (a:=u0*u2)).mul h;have e2:=(Cg.rfl (p:=p) (a:=u0*u2*B)).mul hb;have e3:=(Cg.rfl (p:=p) (a:=(u0*b0+u2*b2)*B)).mul h1;have e4:=(e1.sub e2.symm).sub e3.symm;refine(Cg.of (by clear h e1 e2 e3 e4 hl hm;grind)).trans (e4.trans (Cg.of ?_))
 clear h e1 e2 e3 e4
 have f1:(u0*b0+u2*b2)*d*l=(u0*b0+u2*b2)*(d*l):=by grind
 have f2:-(u0*b0*d)*m=-(u0*b0)*(d*m):=by grind
 rw[f1,f2,hl,hm];grind
theorem LN(h:Cg p (d*d*q) (b0*A+b1*B+b2*G))(h2:Cg p u2 0)(hb:Cg p b0 0)(hl:d*l=u0*G + -u1*B)(hm:d*m=u0*G + -u2*A):Cg p (u0*u1*(d*d)*q) (-(u0*b1*d)*l+(u0*b1+u1*b2)*d*m):=by
 have e1:=(Cg.rfl (p:=p) (a:=u0*u1)).mul h;have e2:=(Cg.rfl (p:=p) (a:=u0*u1*A)).mul hb;have e3:=(Cg.rfl (p:=p) (a:=(u0*b1+u1*b2)*A)).mul h2;have e4:=(e1.sub e2.symm).sub e3.symm;refine(Cg.of (by clear h e1 e2 e3 e4 hl hm;grind)).trans (e4.trans (Cg.of ?_))
 clear h e1 e2 e3 e4
 have f1:-(u0*b1*d)*l=-(u0*b1)*(d*l):=by grind
 have f2:(u0*b1+u1*b2)*d*m=(u0*b1+u1*b2)*(d*m):=by grind
 rw[f1,f2,hl,hm];grind
end
theorem Hg{a b c d:Af}(ha:Cg p a 0)(hb:Cg p b 0):Cg p (a*c-b*d) 0:=((ha.mul Cg.rfl).sub (hb.mul Cg.rfl)).trans (Cg.of (by rw[DF,DF];rfl))
theorem N9(hp:P4 p){d:Af}(dz:d%p≠0)(h:CgR p (BW d r) (0,0,0)):CgR p r (0,0,0):=⟨z0 ((FA hp dz).mp (z0' h.1)),z0 ((FA hp dz).mp (z0' h.2.1)),z0 ((FA hp dz).mp (z0' h.2.2))⟩
theorem WZ(hp:P4 p)(dz:Aq x y z%p≠0)(hx:vI Q x%p=0)(hy:vI Q y%p=0)(hz:vI Q z%p=0)(hw:vI Q w%p=0)(n0:¬ CgR p (crs x w) (0,0,0))(n1:¬ CgR p (crs y w) (0,0,0))(n2:¬ CgR p (crs z w) (0,0,0)):Spn p Q (prd (crs x y) (crs z w)) (prd (crs x z) (crs y w)):=by
 have t:=fC (Q:=Q) hx hy hz;have r:=cN (Q:=Q) hx hy hz hw;have eL:=bB x y z w;have eM:=cH x y z w;have m01:¬ (Cg p (Aq w y z) 0/\Cg p (Aq x w z) 0):=fun ⟨a,b⟩=>n2 (N9 hp dz (by rw[W9];exact⟨Hg a b,Hg a b,Hg a b⟩))
 have m02:¬ (Cg p (Aq w y z) 0/\Cg p (Aq x y w) 0):=fun ⟨a,b⟩=>n1 (N9 hp dz (by rw[W5];exact⟨Hg b a,Hg b a,Hg b a⟩))
 have m12:¬ (Cg p (Aq x w z) 0/\Cg p (Aq x y w) 0):=fun ⟨a,b⟩=>n0 (N9 hp dz (by rw[xJ];exact⟨Hg a b,Hg a b,Hg a b⟩))
 generalize prd (crs x y) (crs z w)=L at *;generalize prd (crs x z) (crs y w)=M at *;generalize prd (crs z x) (crs x y)=G at *;generalize prd (crs y z) (crs x y)=B at *;generalize prd (crs y z) (crs z x)=A at *;generalize bI Q x y=b0 at *;generalize bI Q x z=b1 at *;generalize bI Q y z=b2 at *;generalize Aq x y z=d at *;generalize Aq w y z=u0 at *;generalize Aq x w z=u1 at *;generalize Aq x y w=u2 at *;obtain⟨t0,t1,t2,t3,t4,t5⟩:=t;simp only[scC,l3]at t0 t1 t2 t3 t4 t5;simp only[scC,lc2,C6.mk.injEq]at eL eM;obtain⟨l0,l1,l2,l3,l4,l5⟩:=eL;obtain⟨k0,k1,k2,k3,k4,k5⟩:=eM;have dd:=C7 hp dz dz;by_cases c1:Cg p u1 0
 ·have v0:u0%p≠0:=fun h=>m01 ⟨z0 h,c1⟩
  have v2:u2%p≠0:=fun h=>m12 ⟨c1,z0 h⟩
  have hb:Cg p b1 0:=by
   have e:Cg p (u0*u2*b1) 0:=by
    have h1:=((c1.mul (Cg.rfl (a:=u0*b0))).add (c1.mul (Cg.rfl (a:=u2*b2))));exact(Cg.of (by clear r h1;grind)).trans ((r.sub h1).trans (Cg.of (by clear r h1;grind)))
   exact z0 ((FA hp (C7 hp v0 v2)).mp (z0' e))
  exact⟨u0*u2*(d*d),_,_,C7 hp (C7 hp v0 v2) dd,LO t0 c1 hb l0 k0,LO t1 c1 hb l1 k1,LO t2 c1 hb l2 k2,LO t3 c1 hb l3 k3,LO t4 c1 hb l4 k4,LO t5 c1 hb l5 k5⟩
 ·have v1:u1%p≠0:=fun h=>c1 (z0 h)
  by_cases c2:Cg p u2 0
  ·have v0:u0%p≠0:=fun h=>m02 ⟨z0 h,c2⟩
   have hb:Cg p b0 0:=by
    have e:Cg p (u0*u1*b0) 0:=by
     have h1:=((c2.mul (Cg.rfl (a:=u0*b1))).add (c2.mul (Cg.rfl (a:=u1*b2))));exact(Cg.of (by clear r h1;grind)).trans ((r.sub h1).trans (Cg.of (by clear r h1;grind)))
    exact z0 ((FA hp (C7 hp v0 v1)).mp (z0' e))
   exact⟨u0*u1*(d*d),_,_,C7 hp (C7 hp v0 v1) dd,LN t0 c2 hb l0 k0,LN t1 c2 hb l1 k1,LN t2 c2 hb l2 k2,LN t3 c2 hb l3 k3,LN t4 c2 hb l4 k4,LN t5 c2 hb l5 k5⟩
  ·have v2:u2%p≠0:=fun h=>c2 (z0 h)
   exact⟨u1*u2*(d*d),_,_,C7 hp (C7 hp v1 v2) dd,LP t0 r l0 k0,LP t1 r l1 k1,LP t2 r l2 k2,LP t3 r l3 k3,LP t4 r l4 k4,LP t5 r l5 k5⟩
theorem wR(hp:P4 p)(hd:Aq x y z%p≠0\/Aq x y w%p≠0)(hx:vI Q x%p=0)(hy:vI Q y%p=0)(hz:vI Q z%p=0)(hw:vI Q w%p=0)(ax:NF p x)(ay:NF p y)(az:NF p z)(aw:NF p w)(xz:x≠z)(yz:y≠z)(zw:z≠w)(xw:x≠w)(yw:y≠w):Spn p Q (prd (crs x y) (crs z w)) (prd (crs x z) (crs y w)):=by
 rcases hd with hd|hd
 ·exact WZ hp hd hx hy hz hw (GK hp ax aw xw) (GK hp ay aw yw) (GK hp az aw zw)
 ·have hd':Aq y x w%p≠0:=by
   have e:Aq y x w=-1*Aq x y w:=by unfold Aq det;grind
   rw[e];exact C7 hp hp.m1 hd
  have q:=WZ hp hd' hy hx hw hz (GK hp ay az yz) (GK hp ax az xz) (GK hp aw az zw.symm);have e1:prd (crs y x) (crs w z)=prd (crs x y) (crs z w):=by
   unfold prd crs;congr 1<;>grind
  have e2:prd (crs y w) (crs x z)=prd (crs x z) (crs y w):=by
   unfold prd;congr 1<;>grind
  rw[e1,e2]at q;exact q
theorem WA(a b:Af)(v:R3):vI (lc2 a L b M) v=a*vI L v+b*vI M v:=by
 unfold vI lc2;simp only;grind
theorem uH{a a' b b':Af}{L' M':C6}(ha:Cg p a a')(hL:CgC p L L')(hb:Cg p b b')(hM:CgC p M M'):CgC p (lc2 a L b M) (lc2 a' L' b' M'):=
 ⟨(ha.mul hL.1).add (hb.mul hM.1),(ha.mul hL.2.1).add (hb.mul hM.2.1),(ha.mul hL.2.2.1).add (hb.mul hM.2.2.1),(ha.mul hL.2.2.2.1).add (hb.mul hM.2.2.2.1),(ha.mul hL.2.2.2.2.1).add (hb.mul hM.2.2.2.2.1),(ha.mul hL.2.2.2.2.2).add (hb.mul hM.2.2.2.2.2)⟩
theorem Wh{l:Af}(hp:P4 p)(lQ:A5 p Q.l=Aa l)(h:CgC p Q ⟨0,0,0,0,0,0⟩):AX:=by
 have:A5 p Q.l=Ae:=J3.mpr fun n hn=>by
  simp only[C6.l,Aw,A3,BZ]at hn;obtain⟨h0,h1,h2,h3,h4,h5⟩:=h;rcases hn with rfl|rfl|rfl|rfl|rfl|rfl
  ·exact z0' h0
  ·exact z0' h1
  ·exact z0' h2
  ·exact z0' h3
  ·exact z0' h4
  ·exact z0' h5
 rw[this]at lQ;cases lQ
theorem Vb(hp:P4 p){d:Af}(dz:d%p≠0)(h:CgC p (scC d Q) ⟨0,0,0,0,0,0⟩):CgC p Q ⟨0,0,0,0,0,0⟩:=⟨z0 ((FA hp dz).mp (z0' h.1)),z0 ((FA hp dz).mp (z0' h.2.1)),z0 ((FA hp dz).mp (z0' h.2.2.1)),z0 ((FA hp dz).mp (z0' h.2.2.2.1)),z0 ((FA hp dz).mp (z0' h.2.2.2.2.1)),z0 ((FA hp dz).mp (z0' h.2.2.2.2.2))⟩
theorem tB(hp:P4 p){l k n:Af}{F:C6}(lQ:A5 p Q.l=Aa l)(kz:k%p≠0)(h:CgC p (scC k Q) (scC n F)):PrC p F Q:=by
 have nz:n%p≠0:=fun z=>by
  refine Wh hp lQ (Vb hp kz (h.trans ?_));have q:∀ c:Af,Cg p (n*c) 0:=fun c=>((z0 z).mul Cg.rfl).trans (Cg.of (DF c))
  exact⟨q _,q _,q _,q _,q _,q _⟩
 exact(PrC.symm hp ⟨n,nz,CgC.rfl⟩).trans hp (PrC.trans hp ⟨1,hp.o1,(h.symm).trans (CgC.of (NP _).symm)⟩ ⟨k,kz,CgC.rfl⟩)
theorem qI(hp:P4 p){l:Af}{v:R3}(lQ:A5 p Q.l=Aa l)(s:Spn p Q L M)(hv:vI Q v%p=0)(n:¬ (vI L v%p=0/\vI M v%p=0)):PrC p (lc2 (vI M v) L (-vI L v) M) Q:=by
 obtain⟨g,a,b,gz,e⟩:=s;have e1:Cg p (a*vI L v+b*vI M v) 0:=by
  have q:=Ih (x:=v) (x':=v) e ⟨Cg.rfl,Cg.rfl,Cg.rfl⟩;rw[Lm,WA]at q;exact q.symm.trans ((Cg.mul Cg.rfl (z0 hv)).trans (Cg.of (C1 _)))
 generalize vI L v=L4 at *;generalize vI M v=M4 at *;have key:∀(k c:Af),k%p≠0->(∀ A B:Af,Cg p (k*(a*A+b*B)) (c*(M4*A + -L4*B)))->PrC p (lc2 M4 L (-L4) M) Q:=fun k c kz h=>by
  refine tB hp (k:=k*g) (n:=c) lQ (C7 hp kz gz) ?_;have e':CgC p (scC (k*g) Q) (scC k (lc2 a L b M)):=by
   rw[<-QP];exact CgC.sc Cg.rfl e
  exact e'.trans ⟨h _ _,h _ _,h _ _,h _ _,h _ _,h _ _⟩
 by_cases c:L4%p=0
 ·have c':M4%p≠0:=fun z=>n ⟨c,z⟩
  refine key M4 a c' fun A B=>?_
  have h:=(Cg.rfl (p:=p) (a:=B)).mul e1;refine(Cg.of ?_).trans (((Cg.rfl (p:=p) (a:=a*(M4*A + -L4*B))).add h).trans (Cg.of ?_))
  ·clear e e1 h key;grind
  ·clear e e1 h key;grind
 ·refine key L4 (-b) c fun A B=>?_
  have h:=(Cg.rfl (p:=p) (a:=A)).mul e1;refine(Cg.of ?_).trans (((Cg.rfl (p:=p) (a:=-b*(M4*A + -L4*B))).add h).trans (Cg.of ?_))
  ·clear e e1 h key;grind
  ·clear e e1 h key;grind
end
noncomputable def Tb:Ss:=(.cons (.ife (.cmp .In (.var 2) (.sl (.var 0) .non (.var 1))) (.cons (.rais 107 (.cons (.var 2) .nil)) .nil) .nil) .nil)
--
noncomputable def Nl:Df:=⟨3,Ad,(.cons (.forT [1,2] (.enm (.var 0)) Tb) .nil)⟩
--
noncomputable def Nm:Ss:=(.cons (.asg 3 Ad (.bin .Add (.sl (.var 1) .non (.var 2)) (.sl (.var 1) (.bin .Add (.var 2) (.int 1)) .non))) (.cons (.ife (.and (.cons (.cmp .Eq (.call 61 (.cons (.var 0) (.cons (.idx (.var 3) (.int 0)) (.cons (.idx (.var 3) (.int 1)) (.cons (.idx (.var 3) (.int 2)) .nil))))) (.int 0)) (.cons (.cmp .Eq (.call 61 (.cons (.var 0) (.cons (.idx (.var 3) (.int 0)) (.cons (.idx (.var 3) (.int 1)) (.cons (.idx (.var 3) (.int 3)) .nil))))) (.int 0)) .nil))) (.cons (.ret (.bi .tuple (.cons (.var 3) .nil))) .nil) .nil) .nil))
--
noncomputable def Nk:Df:=⟨4,Ad,(.cons (.fors 2 (.e (.tup (.cons (.int 4) (.cons (.int 3) (.cons (.int 2) (.cons (.int 1) (.cons (.int 0) .nil))))))) Nm) (.cons (.ret .non) .nil))⟩
--
noncomputable def OZ:Df:=⟨2,Ad,(.cons (.ret (.tup (.cons (.bin .Mult (.idx (.var 0) (.int 0)) (.idx (.var 1) (.int 0))) (.cons (.bin .Mult (.idx (.var 0) (.int 1)) (.idx (.var 1) (.int 1))) (.cons (.bin .Mult (.idx (.var 0) (.int 2)) (.idx (.var 1) (.int 2))) (.cons (.bin .Add (.bin .Mult (.idx (.var 0) (.int 0)) (.idx (.var 1) (.int 1))) (.bin .Mult (.idx (.var 0) (.int 1)) (.idx (.var 1) (.int 0)))) (.cons (.bin .Add (.bin .Mult (.idx (.var 0) (.int 0)) (.idx (.var 1) (.int 2))) (.bin .Mult (.idx (.var 0) (.int 2)) (.idx (.var 1) (.int 0)))) (.cons (.bin .Add (.bin .Mult (.idx (.var 0) (.int 1)) (.idx (.var 1) (.int 2))) (.bin .Mult (.idx (.var 0) (.int 2)) (.idx (.var 1) (.int 1)))) .nil)))))))) .nil)⟩
noncomputable def OW:E:=(.bin .Sub (.bin .Mult (.var 4) (.var 6)) (.bin .Mult (.var 5) (.var 7)))
--
noncomputable def Nj:Df:=⟨8,Ad,(.cons (.asg 2 Ad (.call 196 (.cons (.call 57 (.cons (.var 0) (.cons (.idx (.var 1) (.int 0)) (.cons (.idx (.var 1) (.int 1)) .nil)))) (.cons (.call 57 (.cons (.var 0) (.cons (.idx (.var 1) (.int 2)) (.cons (.idx (.var 1) (.int 3)) .nil)))) .nil)))) (.cons (.asg 3 Ad (.call 196 (.cons (.call 57 (.cons (.var 0) (.cons (.idx (.var 1) (.int 0)) (.cons (.idx (.var 1) (.int 2)) .nil)))) (.cons (.call 57 (.cons (.var 0) (.cons (.idx (.var 1) (.int 1)) (.cons (.idx (.var 1) (.int 3)) .nil)))) .nil)))) (.cons (.asg 4 Ad (.call 126 (.cons (.var 0) (.cons (.var 3) (.cons (.idx (.var 1) (.int 4)) .nil))))) (.cons (.asg 5 Ad (.call 126 (.cons (.var 0) (.cons (.var 2) (.cons (.idx (.var 1) (.int 4)) .nil))))) (.cons (.ret (.call 122 (.cons (.var 0) (.cons (.compT OW [6,7] (.zip (.var 2) (.var 3)) Cm) .nil)))) .nil)))))⟩
--
noncomputable def Nn:Df:=⟨3,Ad,(.cons (.ife (.cmp .NotEq (.bi .len (.cons (.var 1) .nil)) (.int 5)) (.cons (.rais 13 (.cons (.str (AN "a curve is told by five points")) .nil)) .nil) .nil) (.cons (.expr (.call 194 (.cons (.var 1) .nil))) (.cons (.asg 2 Ad (.call 195 (.cons (.var 0) (.cons (.var 1) .nil)))) (.cons (.ife (.cmp .IsNot (.var 2) .non) (.cons (.rais 118 (.cons (.var 2) .nil)) .nil) .nil) (.cons (.ret (.call 197 (.cons (.var 0) (.cons (.var 1) .nil)))) .nil)))))⟩
section
variable{Γ:Gam}{p:Af}{P0 P1 P2 P3 P4:D}
noncomputable def five(P0 P1 P2 P3 P4:D):D:=.lst [P0,P1,P2,P3,P4]
theorem sT(f0:flD 5 P0=Ab)(f1:flD 5 P1=Ab)(f2:flD 5 P2=Ab)(f3:flD 5 P3=Ab)(f4:flD 5 P4=Ab)(n01:eqD P0 P1=Ad)(n02:eqD P0 P2=Ad)(n03:eqD P0 P3=Ad)(n04:eqD P0 P4=Ad)(n12:eqD P1 P2=Ad)(n13:eqD P1 P3=Ad)(n14:eqD P1 P4=Ad)(n23:eqD P2 P3=Ad)(n24:eqD P2 P4=Ad)(n34:eqD P3 P4=Ad):Nl.run Γ [five P0 P1 P2 P3 P4]=.ok .non:=by
 simp[five,Nl,Df.run,Bv,EO,CD,GM,Tb,Kw,Ik,f0,f1,f2,f3,f4,n01,n02,n03,n04,n12,n13,n14,n23,n24,n34]
theorem MD{k a b:Af}{q0 q1 q2 q3:D}{u v:Ac D}(c0:slD PP Ae (Aa k)=.ok (.lst u))(c1:slD PP (Aa (k+1)) Ae=.ok (.lst v))(ad:C8 .Add (.lst u) (.lst v)=.ok (.lst [q0,q1,q2,q3]))(e0:Γ.F 61 [.int p,q0,q1,q2]=.ok (.int a))(e1:Γ.F 61 [.int p,q0,q1,q3]=.ok (.int b))(h:¬ (a=0/\b=0)):By Γ 2 Nm (.int k) [si p,sh PP,s2,s3]=.next [si p,sh PP,si k,sh (.lst [q0,q1,q2,q3])]:=by
 have i0:Bx (.lst [q0,q1,q2,q3]) (.int 0)=.ok q0:=rfl;have i1:Bx (.lst [q0,q1,q2,q3]) (.int 1)=.ok q1:=rfl;have i2:Bx (.lst [q0,q1,q2,q3]) (.int 2)=.ok q2:=rfl;have i3:Bx (.lst [q0,q1,q2,q3]) (.int 3)=.ok q3:=rfl;generalize D.lst [q0,q1,q2,q3]=FF at *;generalize D.lst u=U at *;generalize D.lst v=V at *;by_cases ha:a=0
 ·have hb:b≠0:=fun z=>h ⟨ha,z⟩
  simp[By,Nm,c0,c1,ad,i0,i1,i2,i3,e0,e1,ha,hb]
 ·simp[By,Nm,c0,c1,ad,i0,i1,i2,i3,e0,e1,ha]
theorem cO{m012 m013 m014 m023 m024 m123 m124:Af}(e012:Γ.F 61 [.int p,P0,P1,P2]=.ok (.int m012))(e013:Γ.F 61 [.int p,P0,P1,P3]=.ok (.int m013))(e014:Γ.F 61 [.int p,P0,P1,P4]=.ok (.int m014))(e023:Γ.F 61 [.int p,P0,P2,P3]=.ok (.int m023))(e024:Γ.F 61 [.int p,P0,P2,P4]=.ok (.int m024))(e123:Γ.F 61 [.int p,P1,P2,P3]=.ok (.int m123))(e124:Γ.F 61 [.int p,P1,P2,P4]=.ok (.int m124))(h4:¬ (m012=0/\m013=0))(h3:¬ (m012=0/\m014=0))(h2:¬ (m013=0/\m014=0))(h1:¬ (m023=0/\m024=0))(h0:¬ (m123=0/\m124=0)):Nk.run Γ [.int p,five P0 P1 P2 P3 P4]=.ok .non:=by
 have t4:=fun(s2 s3:Sl)=>MD (Γ:=Γ) (p:=p) (k:=4) (PP:=five P0 P1 P2 P3 P4) (s2:=s2) (s3:=s3) rfl rfl rfl e012 e013 h4
 have t3:=fun(s2 s3:Sl)=>MD (Γ:=Γ) (p:=p) (k:=3) (PP:=five P0 P1 P2 P3 P4) (s2:=s2) (s3:=s3) rfl rfl rfl e012 e014 h3
 have t2:=fun(s2 s3:Sl)=>MD (Γ:=Γ) (p:=p) (k:=2) (PP:=five P0 P1 P2 P3 P4) (s2:=s2) (s3:=s3) rfl rfl rfl e013 e014 h2
 have t1:=fun(s2 s3:Sl)=>MD (Γ:=Γ) (p:=p) (k:=1) (PP:=five P0 P1 P2 P3 P4) (s2:=s2) (s3:=s3) rfl rfl rfl e023 e024 h1
 have t0:=fun(s2 s3:Sl)=>MD (Γ:=Γ) (p:=p) (k:=0) (PP:=five P0 P1 P2 P3 P4) (s2:=s2) (s3:=s3) rfl rfl rfl e123 e124 h0
 generalize five P0 P1 P2 P3 P4=PP at *;simp[Nk,Df.run,Bv,CD,t4,t3,t2,t1,t0]
theorem sE{R:D}(e1:Γ.F 194 [five P0 P1 P2 P3 P4]=.ok .non)(e2:Γ.F 195 [.int p,five P0 P1 P2 P3 P4]=.ok .non)(e3:Γ.F 197 [.int p,five P0 P1 P2 P3 P4]=.ok R):Nn.run Γ [.int p,five P0 P1 P2 P3 P4]=.ok R:=by
 have ln:biD .len [five P0 P1 P2 P3 P4]=.ok (.int 5):=rfl;generalize five P0 P1 P2 P3 P4=PP at *;simp[Nn,Df.run,Bv,ln,e1,e2,e3]
end
structure Five (p:Af) (C:C6) (pts:Ac R3):Prop where
 len:pts.length=5
 nd:pts.Nodup
 nf:∀ x∈pts,NF p x
 on:∀ x∈pts,vI C x%p=0
 n4:∀ n:R3,¬ CgR p n (0,0,0)->(pts.filter fun x=>decide (AU n x%p=0)).length<=3
theorem Five.perm{a b:Ac R3}(h:Five p C a)(e:b.Perm a):Five p C b:=
 ⟨e.length_eq.trans h.len,e.nodup_iff.mpr h.nd,fun x hx=>h.nf x (e.mem_iff.mp hx),fun x hx=>h.on x (e.mem_iff.mp hx),fun n hn=>by rw[(e.filter _).length_eq];exact h.n4 n hn⟩
theorem NJ{l:Ac α}(h:l.length=5):∃ a b c d e,l=[a,b,c,d,e]:=by
  match l,h with
  |[a,b,c,d,e],_=>exact⟨a,b,c,d,e,rfl⟩
theorem PH(a b c d e:R3):AY [a,b,c,d,e]=five (Au Ab a) (Au Ab b) (Au Ab c) (Au Ab d) (Au Ab e):=rfl
theorem MC(a:R3):flD 5 (Au Ab a)=Ab:=rfl
section
variable{Γ:Gam}{p:Af}{C:C6}
def U1(Γ:Gam):Prop:=∀(p:Af)(C:C6)(pts:Ac R3),Five p C pts->Γ.F 194 [AY pts]=.ok .non
theorem fZ(Γ:Gam)(p:Af)(C:C6)(pts:Ac R3)(h:Five p C pts):Nl.run Γ [AY pts]=.ok .non:=by
 obtain⟨a,b,c,d,e,rfl⟩:=NJ h.len;have nd:=h.nd;simp only[BR,Aw,A3,BZ,Dy,DO,Dz,GR]at nd;obtain⟨⟨n01,n02,n03,n04⟩,⟨n12,n13,n14⟩,⟨n23,n24⟩,n34⟩:=nd;rw[PH];have k:∀{x y:R3},¬ x=y->eqD (Au Ab x) (Au Ab y)=Ad:=fun h=>by rw[ML];exact CY h
 exact sT (MC _) (MC _) (MC _) (MC _) (MC _) (k n01) (k n02) (k n03) (k n04) (k n12) (k n13) (k n14) (k n23) (k n24) (k n34)
theorem VD{a b c d e:R3}(hp:P4 p)(h:Five p C [a,b,c,d,e]):∀ n:R3,¬ CgR p n (0,0,0)->(decide (AU n a%p=0)).toNat+(decide (AU n b%p=0)).toNat+(decide (AU n c%p=0)).toNat+(decide (AU n d%p=0)).toNat+(decide (AU n e%p=0)).toNat<=3:=fun n hn=>by
 have:=h.n4 n hn;have k:∀(q:R3->Ak)(x:R3)(l:Ac R3),((x::l).filter q).length=(q x).toNat+(l.filter q).length:=fun q x l=>by
  rw[D0];cases q x<;>simp<;>omega
 rw[k,k,k,k,k]at this;simp only[List.filter_nil,Yh]at this;omega
theorem JG(x y z:R3):AU (crs x y) z=Aq x y z:=by
 unfold AU crs Aq det;grind
def VZ(Γ:Gam):Prop:=∀(p:Af)(C:C6)(pts:Ac R3),P4 p->Five p C pts->Γ.F 195 [.int p,AY pts]=.ok .non
theorem kM(hm:Ke Γ)(p:Af)(C:C6)(pts:Ac R3)(hp:P4 p)(h:Five p C pts):Nk.run Γ [.int p,AY pts]=.ok .non:=by
 obtain⟨a,b,c,d,e,rfl⟩:=NJ h.len;have nd:=h.nd;simp only[BR,Aw,A3,BZ,Dy,DO,Dz,GR]at nd;obtain⟨⟨n01,n02,n03,n04⟩,⟨n12,n13,n14⟩,⟨n23,n24⟩,n34⟩:=nd;have na:=h.nf a (by simp)
 have nb:=h.nf b (by simp)
 have nc:=h.nf c (by simp)
 have nd:=h.nf d (by simp)
 have ne:=h.nf e (by simp)
 have B:∀{x:R3},NF p x->B3 x:=fun hx=>(FC hp hx.1).b3 (by decide)
 have m:∀{x y z:R3},NF p x->NF p y->NF p z->Γ.F 61 [.int p,Au Ab x,Au Ab y,Au Ab z]=.ok (.int (Aq x y z%p)):=fun hx hy hz=>hm p Ab _ _ _ hp.pos (B hx) (B hy) (B hz)
 have key:∀ x y:R3,NF p x->NF p y->x≠y->(decide (AU (crs x y) a%p=0)).toNat+(decide (AU (crs x y) b%p=0)).toNat+(decide (AU (crs x y) c%p=0)).toNat+(decide (AU (crs x y) d%p=0)).toNat+(decide (AU (crs x y) e%p=0)).toNat<=3:=fun x y hx hy hne=>VD hp h _ (GK hp hx hy hne)
 have z:∀ x y:R3,decide (AU (crs x y) x%p=0)=Ab/\decide (AU (crs x y) y%p=0)=Ab:=fun x y=>by
  obtain⟨h1,h2⟩:=QC x y;rw[h1,h2];exact⟨A8 (Bi p),A8 (Bi p)⟩
 have fin:∀{x y u v:R3},(decide (AU (crs x y) u%p=0)=Ab->decide (AU (crs x y) v%p=0)=Ab->AX)->¬ (Aq x y u%p=0/\Aq x y v%p=0):=fun f ⟨h1,h2⟩=>by
  rw[<-JG]at h1 h2;exact f (A8 h1) (A8 h2)
 rw[PH];refine cO (m na nb nc) (m na nb nd) (m na nb ne) (m na nc nd) (m na nc ne) (m nb nc nd) (m nb nc ne) (fin fun h1 h2=>?_) (fin fun h1 h2=>?_) (fin fun h1 h2=>?_) (fin fun h1 h2=>?_) (fin fun h1 h2=>?_)
 ·have q:=key a b na nb n01;rw[(z a b).1,(z a b).2,h1,h2]at q;simp only[CH]at q;omega
 ·have q:=key a b na nb n01;rw[(z a b).1,(z a b).2,h1,h2]at q;simp only[CH]at q;omega
 ·have q:=key a b na nb n01;rw[(z a b).1,(z a b).2,h1,h2]at q;simp only[CH]at q;omega
 ·have q:=key a c na nc n02;rw[(z a c).1,(z a c).2,h1,h2]at q;simp only[CH]at q;omega
 ·have q:=key b c nb nc n12;rw[(z b c).1,(z b c).2,h1,h2]at q;simp only[CH]at q;omega
def WU(Γ:Gam):Prop:=∀(p:Af)(a b:R3),P4 p->In3 p a->In3 p b->Γ.F 196 [Au Ab a,Au Ab b]=.ok (Cj (prd a b))
theorem sQ(Γ:Gam)(p:Af)(a b:R3)(hp:P4 p)(ia:In3 p a)(ib:In3 p b):OZ.run Γ [Au Ab a,Au Ab b]=.ok (Cj (prd a b)):=by
 have ba:=FC hp ia;have bb:=FC hp ib;have k:∀ {u v},Bd 10 u->Bd 10 v->EM u v=Ab:=fun hu hv=>GL hu hv (by decide) (by decide)
 obtain⟨x0,x1,x2⟩:=IQ Ab a;obtain⟨y0,y1,y2⟩:=IQ Ab b;simp[OZ,Df.run,Bv,x0,x1,x2,y0,y1,y2,k ba.1 bb.1,k ba.2.1 bb.2.1,k ba.2.2 bb.2.2,k ba.1 bb.2.1,k ba.2.1 bb.1,k ba.1 bb.2.2,k ba.2.2 bb.1,k ba.2.1 bb.2.2,k ba.2.2 bb.2.1];rfl
theorem NY{a b:R3}(hp:P4 p)(ia:In3 p a)(ib:In3 p b):BC (prd a b):=by
 have hh:=hp.hi;have k:∀{x y:Af},0<=x/\x<p->0<=y/\y<p->0<=x*y/\x*y<=100:=fun {x y} hx hy=>by
  refine⟨XX hx.1 hy.1,?_⟩;exact Jg (Int.mul_le_mul (show x<=10 by omega) (show y<=10 by omega) hy.1 (by decide)) (by decide)
 have b1:∀{n:Af},0<=n/\n<=100->Bd 10 n:=fun h=>by unfold Bd;omega
 have b2:∀{m n:Af},0<=m/\m<=100->0<=n/\n<=100->Bd 10 (m+n):=fun h g=>by unfold Bd;omega
 obtain⟨a0,a1,a2⟩:=ia;obtain⟨b0,b1',b2'⟩:=ib;exact⟨b1 (k a0 b0),b1 (k a1 b1'),b1 (k a2 b2'),b2 (k a0 b1') (k a1 b0),b2 (k a0 b2') (k a2 b0),b2 (k a1 b2') (k a2 b1')⟩
def Rc(Γ:Gam):Prop:=∀(p:Af)(C:C6)(x:R3),P4 p->BC C->In3 p x->Γ.F 126 [.int p,Cj C,Au Ab x]=.ok (.int (vI C x%p))
theorem sD(hr:Kg Γ)(p:Af)(C:C6)(x:R3)(hp:P4 p)(bC:BC C)(ix:In3 p x):QD.run Γ [.int p,Cj C,Au Ab x]=.ok (.int (vI C x%p)):=by
 obtain⟨i0,i1,i2,i3,i4,i5⟩:=ix6 C;obtain⟨x0,x1,x2⟩:=IQ Ab x;have bx:=FC hp ix;have k:∀ {u v},Bd 10 u->Bd 10 v->EM u v=Ab:=fun hu hv=>GL hu hv (by decide) (by decide)
 have k2:∀ {u v w},Bd 10 u->Bd 10 v->Bd 10 w->EM (u*v) w=Ab:=fun hu hv hw=>GL (hu.mul hv) hw (by decide) (by decide)
 simp[QD,Df.run,Bv,i0,i1,i2,i3,i4,i5,x0,x1,x2,k bC.b0 bx.1,k bC.b1 bx.2.1,k bC.b2 bx.2.2,k bC.b3 bx.1,k bC.b4 bx.1,k bC.b5 bx.2.1,k2 bC.b0 bx.1 bx.1,k2 bC.b1 bx.2.1 bx.2.1,k2 bC.b2 bx.2.2 bx.2.2,k2 bC.b3 bx.1 bx.2.1,k2 bC.b4 bx.1 bx.2.2,k2 bC.b5 bx.2.1 bx.2.2,hr p _ hp.pos];rfl
theorem uA{P0 P1 P2 P3 P4 A B A' B' R:D}{L M:C6}{l m:Af}(bL:BC L)(bM:BC M)(bl:Bd 10 l)(bm:Bd 10 m)(e01:Γ.F 57 [.int p,P0,P1]=.ok A)(e23:Γ.F 57 [.int p,P2,P3]=.ok B)(eL:Γ.F 196 [A,B]=.ok (Cj L))(e02:Γ.F 57 [.int p,P0,P2]=.ok A')(e13:Γ.F 57 [.int p,P1,P3]=.ok B')(eM:Γ.F 196 [A',B']=.ok (Cj M))(vM:Γ.F 126 [.int p,Cj M,P4]=.ok (.int m))(vL:Γ.F 126 [.int p,Cj L,P4]=.ok (.int l))(ec:Γ.F 122 [.int p,.lst (ds (lc2 m L (-l) M).l)]=.ok R):Nj.run Γ [.int p,five P0 P1 P2 P3 P4]=.ok R:=by
 have i0:Bx (five P0 P1 P2 P3 P4) (.int 0)=.ok P0:=rfl;have i1:Bx (five P0 P1 P2 P3 P4) (.int 1)=.ok P1:=rfl;have i2:Bx (five P0 P1 P2 P3 P4) (.int 2)=.ok P2:=rfl;have i3:Bx (five P0 P1 P2 P3 P4) (.int 3)=.ok P3:=rfl;have i4:Bx (five P0 P1 P2 P3 P4) (.int 4)=.ok P4:=rfl;have sL:CS (Cj L)=.ok (ds L.l):=rfl;have sM:CS (Cj M)=.ok (ds M.l):=rfl;have k:∀ {u v},Bd 10 u->Bd 10 v->EM u v=Ab:=fun hu hv=>GL hu hv (by decide) (by decide)
 have cp:∀(PP cL cM:D),BD (cGT Γ [si p,sh PP,sh cL,sh cM,si m,si l,Ae,Ae] [6,7] Cm) (cFT Γ [si p,sh PP,sh cL,sh cM,si m,si l,Ae,Ae] [6,7] OW) (DU (ds L.l) (ds M.l))=.ok (ds (lc2 m L (-l) M).l):=fun PP cL cM=>by
  obtain⟨l0,l1,l2,l3,l4,l5⟩:=L;obtain⟨m0,m1,m2,m3,m4,m5⟩:=M;have n:∀ a b:Af,m*a + -l*b=m*a-l*b:=fun a b=>by rw[Int.neg_mul,Int.sub_eq_add_neg]
  simp[BD,cGT,cFT,DU,ds,C6.l,lc2,OW,Cm,n,k bm bL.b0,k bm bL.b1,k bm bL.b2,k bm bL.b3,k bm bL.b4,k bm bL.b5,k bl bM.b0,k bl bM.b1,k bl bM.b2,k bl bM.b3,k bl bM.b4,k bl bM.b5]
 generalize five P0 P1 P2 P3 P4=PP at *;generalize ds (lc2 m L (-l) M).l=FF at *;generalize ds L.l=LL at *;generalize ds M.l=MM at *;generalize Cj L=cL at *;generalize Cj M=cM at *;simp[Nj,Df.run,Bv,i0,i1,i2,i3,i4,e01,e23,eL,e02,e13,eM,vM,vL,sL,sM,cp,ec]
theorem sZ{a a' b b':R3}(ha:CgR p a a')(hb:CgR p b b'):CgC p (prd a b) (prd a' b'):=
 ⟨ha.1.mul hb.1,ha.2.1.mul hb.2.1,ha.2.2.mul hb.2.2,(ha.1.mul hb.2.1).add (ha.2.1.mul hb.1),(ha.1.mul hb.2.2).add (ha.2.2.mul hb.1),(ha.2.1.mul hb.2.2).add (ha.2.2.mul hb.2.1)⟩
theorem Ve(hp:P4 p){a a' b b':R3}(ha:Pr p a a')(hb:Pr p b b'):PrC p (prd a b) (prd a' b'):=by
 obtain⟨d,dz,e⟩:=ha;obtain⟨d',dz',e'⟩:=hb;refine⟨d*d',C7 hp dz dz',(sZ e e').trans (CgC.of ?_)⟩;unfold prd scC BW
 congr 1<;>grind
theorem uB(hp:P4 p){L M L' M':C6}(hL:PrC p L' L)(hM:PrC p M' M)(v:R3):PrC p (lc2 (vI M' v%p) L' (-(vI L' v%p)) M') (lc2 (vI M v) L (-vI L v) M):=by
 obtain⟨d,dz,e⟩:=hL;obtain⟨d',dz',e'⟩:=hM;refine⟨d*d',C7 hp dz dz',?_⟩;have r:CgR p v v:=⟨Cg.rfl,Cg.rfl,Cg.rfl⟩;have q:=Ih e r;have q':=Ih e' r;rw[Lm]at q q';have neg:∀{a b:Af},Cg p a b->Cg p (-a) (-b):=fun {a b} h=>by
  have:=(Cg.rfl (p:=p) (a:=0)).sub h
  rwa [X1,X1]at this
 refine(uH ((Cg.md rfl).trans q') e (neg ((Cg.md rfl).trans q)) e').trans (CgC.of ?_);generalize vI M v=m;generalize vI L v=l;unfold lc2 scC
 congr 1<;>grind
def V0(Γ:Gam):Prop:=∀(p:Af)(C:C6)(pts:Ac R3),P4 p->InC p C->A5 p C.l=Aa 1->Five p C pts->Γ.F 197 [.int p,AY pts]=.ok (Cj C)
theorem kE(hp:P4 p){l:Af}{E:C6}(lC:A5 p C.l=Aa l)(h:PrC p E C):∃ l',A5 p E.l=Aa l':=by
 cases e:A5 p E.l with
 |some l'=>exact⟨l',rfl⟩
 |none=>
  exfalso
  obtain⟨d,dz,q⟩:=h;have z:=J3.mp e;have k:∀{n:Af},n∈E.l->Cg p n 0:=fun hn=>z0 (z _ hn)
  have q2:CgC p E ⟨0,0,0,0,0,0⟩:=⟨k (by simp[C6.l]),k (by simp[C6.l]),k (by simp[C6.l]),k (by simp[C6.l]),k (by simp[C6.l]),k (by simp[C6.l])⟩
  exact Wh hp lC (Vb hp dz (q.symm.trans q2))
noncomputable def Fc(a b c d e:R3):C6:=lc2 (vI (prd (crs a c) (crs b d)) e) (prd (crs a b) (crs c d)) (-vI (prd (crs a b) (crs c d)) e) (prd (crs a c) (crs b d))
theorem tZ{a b c d e:R3}{l:Af}(hp:P4 p)(lC:A5 p C.l=Aa l)(h:Five p C [a,b,c,d,e]):PrC p (Fc a b c d e) C:=by
 have nd:=h.nd;simp only[BR,Aw,A3,BZ,Dy,DO,Dz,GR]at nd;obtain⟨⟨n01,n02,n03,n04⟩,⟨n12,n13,n14⟩,⟨n23,n24⟩,n34⟩:=nd;have na:=h.nf a (by simp)
 have nb:=h.nf b (by simp)
 have nc:=h.nf c (by simp)
 have nd:=h.nf d (by simp)
 have ne:=h.nf e (by simp)
 have z:∀ x y:R3,AU (crs x y) x%p=0/\AU (crs x y) y%p=0:=fun x y=>by
  obtain⟨h1,h2⟩:=QC x y;rw[h1,h2];exact⟨Bi p,Bi p⟩
 -- no four of them on a line
 have key:∀ n:R3,¬ CgR p n (0,0,0)->(decide (AU n a%p=0)).toNat+(decide (AU n b%p=0)).toNat+(decide (AU n c%p=0)).toNat+(decide (AU n d%p=0)).toNat+(decide (AU n e%p=0)).toNat<=3:=VD hp h;have dd:Aq a b c%p≠0\/Aq a b d%p≠0:=by
  apply Di
  intro hn;have hn':Aq a b c%p=0/\Aq a b d%p=0:=⟨Di fun z=>hn (.inl z),Di fun z=>hn (.inr z)⟩
  have q:=key _ (GK hp na nb n01);rw[A8 (z a b).1,A8 (z a b).2,JG a b c,JG a b d,A8 hn'.1,A8 hn'.2]at q;simp only[CH]at q;omega
 have sp:=wR hp dd (h.on a (by simp)) (h.on b (by simp)) (h.on c (by simp)) (h.on d (by simp)) na nb nc nd n02 n12 n23 n03 n13
 have nn:¬ (vI (prd (crs a b) (crs c d)) e%p=0/\vI (prd (crs a c) (crs b d)) e%p=0):=fun ⟨h1,h2⟩=>by
  rw[IN]at h1 h2;have sw:∀ x y:R3,AU (crs x y) e%p=0->AU (crs x e) y%p=0:=fun x y hz=>by
   have:AU (crs x e) y=-1*AU (crs x y) e:=by unfold AU crs;grind
   rw[this,BJ,hz,C1,Bi]
  have sw':∀ x y:R3,AU (crs x y) e%p=0->AU (crs y e) x%p=0:=fun x y hz=>by
   have:AU (crs y e) x=AU (crs x y) e:=by unfold AU crs;grind
   rw[this,hz]
  have spl:∀{u v:Af},u*v%p=0->u%p=0\/v%p=0:=fun {u v} hz=>by
   by_cases hu:u%p=0
   ·exact .inl hu
   ·exact .inr ((FA hp hu).mp hz)
  rcases spl h1 with g1|g1<;>rcases spl h2 with g2|g2
  ·have q:=key _ (GK hp na ne n04);rw[A8 (z a e).1,A8 (z a e).2,A8 (sw _ _ g1),A8 (sw _ _ g2)]at q;simp only[CH]at q;omega
  ·have q:=key _ (GK hp nb ne n14);rw[A8 (z b e).1,A8 (z b e).2,A8 (sw' _ _ g1),A8 (sw _ _ g2)]at q;simp only[CH]at q;omega
  ·have q:=key _ (GK hp nc ne n24);rw[A8 (z c e).1,A8 (z c e).2,A8 (sw _ _ g1),A8 (sw' _ _ g2)]at q;simp only[CH]at q;omega
  ·have q:=key _ (GK hp nd ne n34);rw[A8 (z d e).1,A8 (z d e).2,A8 (sw' _ _ g1),A8 (sw' _ _ g2)]at q;simp only[CH]at q;omega
 exact qI hp lC sp (h.on e (by simp)) nn
theorem kO(hj:Oc Γ)(hl:WU Γ)(hv:Rc Γ)(hc:WW Γ)(p:Af)(C:C6)(pts:Ac R3)(hp:P4 p)(iC:InC p C)(lC:A5 p C.l=Aa 1)(h:Five p C pts):Nj.run Γ [.int p,AY pts]=.ok (Cj C):=by
 obtain⟨a,b,c,d,e,rfl⟩:=NJ h.len;have fp:=tZ hp lC h;have nd:=h.nd;simp only[BR,Aw,A3,BZ,Dy,DO,Dz,GR]at nd;obtain⟨⟨n01,n02,n03,n04⟩,⟨n12,n13,n14⟩,⟨n23,n24⟩,n34⟩:=nd;have na:=h.nf a (by simp)
 have nb:=h.nf b (by simp)
 have nc:=h.nf c (by simp)
 have nd:=h.nf d (by simp)
 have ne:=h.nf e (by simp)
 obtain⟨y01,i01,_,p01,e01⟩:=hj p a b hp na.1 nb.1 na.2 nb.2 n01;obtain⟨y23,i23,_,p23,e23⟩:=hj p c d hp nc.1 nd.1 nc.2 nd.2 n23;obtain⟨y02,i02,_,p02,e02⟩:=hj p a c hp na.1 nc.1 na.2 nc.2 n02;obtain⟨y13,i13,_,p13,e13⟩:=hj p b d hp nb.1 nd.1 nb.2 nd.2 n13;have pr:=(uB hp (Ve hp p01 p23) (Ve hp p02 p13) e).trans hp fp;obtain⟨l,el⟩:=kE hp lC pr;obtain⟨t,D,it,eD,iD,lD,pD⟩:=RD hp el;have ec:=hc p Ad _ l t hp el it;rw[eD]at ec;have eq:=eR hp iD iC lD lC (pD.trans hp pr);subst eq;have bd:∀ n:Af,Bd 10 (n%p):=fun n=>MR hp (Bo _ (by have:=hp.pos;omega)) (Bj _ hp.pos)
 rw[PH];exact uA (NY hp i01 i23) (NY hp i02 i13) (bd _) (bd _) e01 e23 (hl p _ _ hp i01 i23) e02 e13 (hl p _ _ hp i02 i13) (hv p _ _ hp (NY hp i02 i13) ne.1) (hv p _ _ hp (NY hp i01 i23) ne.1) ec
def V6(Γ:Gam):Prop:=∀(p:Af)(C:C6)(pts:Ac R3),P4 p->InC p C->A5 p C.l=Aa 1->Five p C pts->Γ.F 198 [.int p,AY pts]=.ok (Cj C)
theorem iF(h1:U1 Γ)(h2:VZ Γ)(h3:V0 Γ)(p:Af)(C:C6)(pts:Ac R3)(hp:P4 p)(iC:InC p C)(lC:A5 p C.l=Aa 1)(h:Five p C pts):Nn.run Γ [.int p,AY pts]=.ok (Cj C):=by
 have e1:=h1 p C pts h;have e2:=h2 p C pts hp h;have e3:=h3 p C pts hp iC lC h;obtain⟨a,b,c,d,e,rfl⟩:=NJ h.len;exact sE e1 e2 e3
end
section
variable{p:Af}{r n a b c x y z u:R3}
theorem qR(x y n:R3):crs (crs x y) n=(AU n x*y.1-AU n y*x.1,AU n x*y.2.1-AU n y*x.2.1,AU n x*y.2.2-AU n y*x.2.2):=by
 unfold crs AU;refine BF ?_ (BF ?_ ?_)<;>simp only<;>grind
theorem par(hp:P4 p)(h1:CgR p (crs r n) (0,0,0))(h2:CgR p (crs r a) (0,0,0))(rz:¬ CgR p r (0,0,0))(nz:¬ CgR p n (0,0,0))(e:AU n z%p=0):AU a z%p=0:=by
 obtain⟨f0,f1,f2⟩:=h1;obtain⟨g0,g1,g2⟩:=h2;simp only[crs]at f0 f1 f2 g0 g1 g2;have sw:∀{x y:Af},Cg p (x-y) 0->Cg p x y:=fun {x y} h=>(Cg.of (by omega)).trans ((h.add (Cg.rfl (a:=y))).trans (Cg.of (by omega)))
 have d1:=sw f0;have d2:=sw f1;have d3:=sw f2;have c1:=sw g0;have c2:=sw g1;have c3:=sw g2
 -- r i n j=r j n i
 have key:∀ ri ni ai:Af,Cg p (ri*n.1) (r.1*ni)->Cg p (ri*n.2.1) (r.2.1*ni)->Cg p (ri*n.2.2) (r.2.2*ni)->Cg p (ri*a.1) (r.1*ai)->Cg p (ri*a.2.1) (r.2.1*ai)->Cg p (ri*a.2.2) (r.2.2*ai)->ni%p≠0->AU a z%p=0:=fun ri ni ai k0 k1 k2 l0 l1 l2 hz=>by
  have rn:ri%p≠0:=fun q=>rz ⟨?_,?_,?_⟩
  ·have s1:Cg p (ni*AU r z) 0:=by
    have t:=(((k0.mul (Cg.rfl (a:=z.1))).add (k1.mul (Cg.rfl (a:=z.2.1)))).add (k2.mul (Cg.rfl (a:=z.2.2)))).symm;refine(Cg.of ?_).trans (t.trans ((Cg.of ?_).trans (((Cg.rfl (a:=ri)).mul (z0 e)).trans (Cg.of (C1 _)))))
    ·unfold AU;clear e k0 k1 k2 l0 l1 l2 t c1 c2 c3 d1 d2 d3 f0 f1 f2 g0 g1 g2 sw;grind
    ·unfold AU;clear e k0 k1 k2 l0 l1 l2 t c1 c2 c3 d1 d2 d3 f0 f1 f2 g0 g1 g2 sw;grind
   have s2:=z0 ((FA hp hz).mp (z0' s1));have s3:Cg p (ri*AU a z) 0:=by
    have t:=(((l0.mul (Cg.rfl (a:=z.1))).add (l1.mul (Cg.rfl (a:=z.2.1)))).add (l2.mul (Cg.rfl (a:=z.2.2))));refine(Cg.of ?_).trans (t.trans ((Cg.of ?_).trans (((Cg.rfl (a:=ai)).mul s2).trans (Cg.of (C1 _)))))
    ·unfold AU;clear e k0 k1 k2 l0 l1 l2 t c1 c2 c3 d1 d2 d3 f0 f1 f2 g0 g1 g2 sw s1 s2;grind
    ·unfold AU;clear e k0 k1 k2 l0 l1 l2 t c1 c2 c3 d1 d2 d3 f0 f1 f2 g0 g1 g2 sw s1 s2;grind
   exact(FA hp rn).mp (z0' s3)
  all_goals
   refine z0 ((FA hp hz).mp (z0' ?_))
  ·exact(Cg.of (BH _ _)).trans (k0.symm.trans (((z0 q).mul Cg.rfl).trans (Cg.of (DF _))))
  ·exact(Cg.of (BH _ _)).trans (k1.symm.trans (((z0 q).mul Cg.rfl).trans (Cg.of (DF _))))
  ·exact(Cg.of (BH _ _)).trans (k2.symm.trans (((z0 q).mul Cg.rfl).trans (Cg.of (DF _))))
 by_cases n0:n.1%p=0
 ·by_cases n1:n.2.1%p=0
  ·have n2:n.2.2%p≠0:=fun q=>nz ⟨z0 n0,z0 n1,z0 q⟩
   exact key r.2.2 n.2.2 a.2.2 d2 d1.symm Cg.rfl c2 c1.symm Cg.rfl n2
  ·exact key r.2.1 n.2.1 a.2.1 d3.symm Cg.rfl d1 c3.symm Cg.rfl c1 n1
 ·exact key r.1 n.1 a.1 Cg.rfl d3 d2.symm Cg.rfl c3 c2.symm n0
theorem SH(h1:AU n x%p=0)(h2:AU n y%p=0):CgR p (crs (crs x y) n) (0,0,0):=by
 rw[qR];exact⟨Hg (z0 h1) (z0 h2),Hg (z0 h1) (z0 h2),Hg (z0 h1) (z0 h2)⟩
theorem rF(hp:P4 p)(hx:NF p x)(hy:NF p y)(ne:x≠y)(nz:¬ CgR p n (0,0,0))(n1:AU n x%p=0)(n2:AU n y%p=0)(a1:AU a x%p=0)(a2:AU a y%p=0)(e:AU n z%p=0):AU a z%p=0:=
 par hp (SH n1 n2) (SH a1 a2) (GK hp hx hy ne) nz e
theorem gQ(hp:P4 p)(hx:NF p x)(hy:NF p y)(ne:x≠y)(nz:¬ CgR p n (0,0,0))(n1:AU n x%p=0)(n2:AU n y%p=0)(e:AU n u%p=0):Aq x y u%p=0:=by
 rw[<-JG];obtain⟨h1,h2⟩:=QC x y;exact rF hp hx hy ne nz n1 n2 (by rw[h1];exact Bi p) (by rw[h2];exact Bi p) e
end
theorem Ud{α β:Type}(g:α->β):∀(l:Ac α)(k:Ag),(l.map g).eraseIdx k=(l.eraseIdx k).map g
 |[],_=>rfl
 |_::_,0=>rfl
 |x::l,k+1=>congrArg (g x :: ·) (Ud g l k)
theorem TB{α:Type}:∀(l:Ac α)(i:Ag)(h:i<l.length),(l[i]::l.eraseIdx i).Perm l
 |_::_,0,_=>X2 _
 |x::l,i+1,h=>(List.Perm.swap ..).trans (List.Perm.cons x (TB l i (Nat.lt_of_succ_lt_succ h)))
noncomputable def ow(l:Ac R3):Sl:=Aa (AY l,Ab)
theorem iB(a:Af)(n:Ag):BY a (n+1)=.int a::BY (a+1) n:=by
 unfold BY;rw[El,Cf,Gg]
 congr 1
 ·simp
 ·refine E3 fun k _=>?_
  simp only[Function.comp]
  congr 1
  omega
theorem rR(ρ:Rho)(j i:Ag)(f l:Ac R3)(k:Ag)(x:R3)(hk:l[k]?=Aa x)(hj:(j != i)=Ab)(h1:Dq l.length=Ab)(h2:Dq (f.length+1)=Ab):apD ρ j i (f.map (Au Ab)) (l.map (Au Ab)) (k:Af)=.next ((ρ.set i (ow (l.eraseIdx k))).set j (ow (f++[x]))):=by
 have kl:k<l.length:=(AS.mp hk).1;unfold apD;have e:plD (l.map (Au Ab)).length (k:Af)=Aa k:=by
  unfold plD;rw[AA (by omega),Bh,AA (by omega),FJ]
 rw[e];dsimp only;rw[CT,hk];dsimp only[Yy];rw[Bh,Bh,hj,h1,h2];rw[AA (by rfl)]
 unfold ow AY;rw[Ud,List.map_append];rfl
theorem gR{q:R3->Ak}{l:Ac R3}(nd:l.Nodup)(h:3<=(l.filter q).length):∃ x y u,x∈l/\y∈l/\u∈l/\x≠y/\x≠u/\y≠u/\q x=Ab/\q y=Ab/\q u=Ab:=by
  have nf:(l.filter q).Nodup:=nd.filter (p:=q);have hm:∀ x∈l.filter q,x∈l/\q x=Ab:=fun x hx=>BQ.mp hx
  generalize l.filter q=F at *
  match F,h,nf,hm with
  |x::y::u::r,_,nf,hm=>
    simp only[BR,Aw,Dy]at nf;have a:=hm x (by simp)
    have b:=hm y (by simp)
    have c:=hm u (by simp)
    exact⟨x,y,u,a.1,b.1,c.1,nf.1.1,nf.1.2.1,nf.2.1.1,a.2,b.2,c.2⟩
theorem Qo(a b d e:R3):crs (crs a b) (crs d e)=(Aq a d e*b.1-Aq b d e*a.1,Aq a d e*b.2.1-Aq b d e*a.2.1,Aq a d e*b.2.2-Aq b d e*a.2.2):=by
 unfold crs Aq det;refine BF ?_ (BF ?_ ?_)<;>simp only<;>grind
section
variable{p:Af}{C:C6}
structure N3 (p:Af) (pts:Ac R3):Prop where
 nd:pts.Nodup
 nf:∀ x∈pts,NF p x
 n3:∀ x y u,x∈pts->y∈pts->u∈pts->x≠y->x≠u->y≠u->Aq x y u%p≠0
theorem N3.perm{a b:Ac R3}(h:N3 p a)(e:b.Perm a):N3 p b:=⟨e.nodup_iff.mpr h.nd,fun x hx=>h.nf x (e.mem_iff.mp hx),fun x y u hx hy hu=>h.n3 x y u (e.mem_iff.mp hx) (e.mem_iff.mp hy) (e.mem_iff.mp hu)⟩
theorem N3.sub{a b:Ac R3}(h:N3 p a)(e:b.Sublist a):N3 p b:=⟨e.nodup h.nd,fun x hx=>h.nf x (e.subset hx),fun x y u hx hy hu=>h.n3 x y u (e.subset hx) (e.subset hy) (e.subset hu)⟩
theorem N3.five(hp:P4 p)(h:N3 p pts)(len:pts.length=5)(on:∀ x∈pts,vI C x%p=0):Five p C pts:=by
 refine⟨len,h.nd,h.nf,on,fun n hn=>?_⟩
 apply Di
 intro hc;obtain⟨x,y,u,hx,hy,hu,n1,n2,n3,q1,q2,q3⟩:=gR (q:=fun x=>decide (AU n x%p=0)) h.nd (by omega)
 exact h.n3 x y u hx hy hu n1 n2 n3 (gQ hp (h.nf x hx) (h.nf y hy) n1 hn (AR q1) (AR q2) (AR q3))
noncomputable def Gc(a b c d e:R3):C6:=lc2 (Aq a b c*Aq b d e) (prd (crs c e) (crs a d)) (Aq a b d*Aq e b c) (prd (crs a c) (crs e d))
theorem LI(a b c d e f:R3):vI (Gc a b c d e) f=Aq a b c*Aq b d e*(Aq c e f*Aq d f a)+Aq a b d*Aq e b c*(Aq c f a*Aq e d f):=by
 unfold Gc;rw[WA,IN,IN,JG,JG,JG,JG];have h1:Aq a d f=Aq d f a:=by unfold Aq det;grind
 have h2:Aq a c f=Aq c f a:=by unfold Aq det;grind
 rw[h1,h2]
theorem aJ(a b c d e:R3):vI (Gc a b c d e) a=0/\vI (Gc a b c d e) b=0/\vI (Gc a b c d e) c=0/\vI (Gc a b c d e) d=0/\vI (Gc a b c d e) e=0:=by
 have same:∀ x y:R3,Aq x x y=0/\Aq x y x=0/\Aq y x x=0:=fun x y=>by unfold Aq det;refine⟨?_,?_,?_⟩<;>grind
 refine⟨?_,?_,?_,?_,?_⟩
 ·rw[LI,(same a d).2.2,(same a c).2.2];simp
 ·rw[LI];have h1:Aq c e b=Aq e b c:=by unfold Aq det;grind
  have h2:Aq d b a=-Aq a b d:=by unfold Aq det;grind
  have h3:Aq c b a=-Aq a b c:=by unfold Aq det;grind
  have h4:Aq e d b=-Aq b d e:=by unfold Aq det;grind
  rw[h1,h2,h3,h4];generalize Aq a b c=x;generalize Aq b d e=y;generalize Aq e b c=z;generalize Aq a b d=w;grind
 ·rw[LI,(same c e).2.1,(same c a).1];simp
 ·rw[LI,(same d a).1,(same d e).2.2];simp
 ·rw[LI,(same e c).2.2,(same e d).2.1];simp
theorem aK(hp:P4 p){a b c d e:R3}(h1:Aq a b c%p≠0)(h2:Aq b d e%p≠0)(h3:Aq a c e%p≠0)(h4:Aq a c d%p≠0):∃ l,A5 p (Gc a b c d e).l=Aa l:=by
 cases q:A5 p (Gc a b c d e).l with
 |some l=>exact⟨l,rfl⟩
 |none=>
  exfalso
  have z:=J3.mp q;have k:∀{n:Af},n∈(Gc a b c d e).l->Cg p n 0:=fun hn=>z0 (z _ hn)
  have q2:CgC p (Gc a b c d e) ⟨0,0,0,0,0,0⟩:=⟨k (by simp[C6.l]),k (by simp[C6.l]),k (by simp[C6.l]),k (by simp[C6.l]),k (by simp[C6.l]),k (by simp[C6.l])⟩
  have v:=Ih (x:=(a.1+c.1,a.2.1+c.2.1,a.2.2+c.2.2)) (x':=(a.1+c.1,a.2.1+c.2.1,a.2.2+c.2.2)) q2 ⟨Cg.rfl,Cg.rfl,Cg.rfl⟩;rw[LI]at v;have e1:Aq c e (a.1+c.1,a.2.1+c.2.1,a.2.2+c.2.2)=Aq a c e:=by unfold Aq det;simp only;grind
  have e2:Aq d (a.1+c.1,a.2.1+c.2.1,a.2.2+c.2.2) a=-Aq a c d:=by unfold Aq det;simp only;grind
  have e3:Aq c (a.1+c.1,a.2.1+c.2.1,a.2.2+c.2.2) a=0:=by unfold Aq det;simp only;grind
  rw[e1,e2,e3]at v;refine C7 hp (C7 hp h1 h2) (C7 hp h3 (C7 hp hp.m1 h4)) (z0' ((Cg.of ?_).trans (v.trans (Cg.of ?_))))
  ·rw[DF,C1,Int.add_zero,Int.neg_one_mul]
  ·unfold vI;simp
theorem qJ(hp:P4 p){a b c d e:R3}(h:N3 p [a,b,c,d,e]):∃ C,InC p C/\A5 p C.l=Aa 1/\PrC p C (Gc a b c d e)/\Five p C [a,b,c,d,e]:=by
 have nd:=h.nd;simp only[BR,Aw,A3,BZ,Dy,DO,Dz,GR]at nd;obtain⟨⟨n01,n02,n03,n04⟩,⟨n12,n13,n14⟩,⟨n23,n24⟩,n34⟩:=nd;obtain⟨l,el⟩:=aK hp (h.n3 a b c (by simp) (by simp) (by simp) n01 n02 n12) (h.n3 b d e (by simp) (by simp) (by simp) n13 n14 n34) (h.n3 a c e (by simp) (by simp) (by simp) n02 n04 n24) (h.n3 a c d (by simp) (by simp) (by simp) n02 n03 n23)
 obtain⟨t,D,it,eD,iD,lD,pD⟩:=RD hp el;refine⟨D,iD,lD,pD,h.five hp rfl fun x hx=>?_⟩
 have k:∀ x,vI (Gc a b c d e) x=0->vI D x%p=0:=fun x hz=>by
  obtain⟨d,dz,q⟩:=pD;have q:=Ih (x:=x) (x':=x) q ⟨Cg.rfl,Cg.rfl,Cg.rfl⟩;rw[Lm,hz,C1]at q;exact z0' q
 obtain⟨g0,g1,g2,g3,g4⟩:=aJ a b c d e;simp only[Aw,A3,BZ]at hx;rcases hx with rfl|rfl|rfl|rfl|rfl
 ·exact k _ g0
 ·exact k _ g1
 ·exact k _ g2
 ·exact k _ g3
 ·exact k _ g4
end
theorem NH{body:D->Rho->O}(I:Rho->Prop):∀ L:Ac D,(∀ x∈L,∀ ρ,I ρ->∃ ρ',body x ρ=.next ρ'/\I ρ')->∀ ρ,I ρ->∃ ρ',CD body L ρ=.next ρ'/\I ρ'
 |[],_,ρ,h=>⟨ρ,rfl,h⟩
 |x::L,hb,ρ,h=>by
  obtain⟨ρ1,e1,h1⟩:=hb x AB ρ h;obtain⟨ρ2,e2,h2⟩:=NH I L (fun y hy=>hb y (Ay _ hy)) ρ1 h1
  refine⟨ρ2,?_,h2⟩;show (body x ρ).turn _=_;rw[e1];exact e2
theorem VP{x:D}:∀{i:Af}{l:Ac D},x∈EO i l->∃(k:Ag)(d:D),l[k]?=Aa d/\x=.tup [.int (i+k),d]
 |_,[],h=>nomatch h
 |i,d::l,h=>by
  rcases Aw.mp h with rfl|h
  ·exact⟨0,d,rfl,by simp⟩
  ·obtain⟨k,d',h1,rfl⟩:=VP h;exact⟨k+1,d',h1,by rw[Int.add_assoc,Int.add_comm 1,Int.natCast_succ]⟩
section
variable{Γ:Gam}{p:Af}
theorem bP{x y u:D}{i j d:Af}(gy:Bx PP (.int j)=.ok y)(gu:Bx PP (.int k)=.ok u)(e:Γ.F 61 [.int p,x,y,u]=.ok (.int d))(nz:d≠0):By Γ 5 HB (.int k) [si p,sh PP,si i,sh x,si j,s]=.next [si p,sh PP,si i,sh x,si j,si k]:=by
 simp[By,HB,gy,gu,e,nz]
theorem bO{x:D}{i j N:Af}{t s':Sl}(ln:biD .len [PP]=.ok (.int N))(r:CC (j+1) N=.ok RL)(e:CD (By Γ 5 HB) RL [si p,sh PP,si i,sh x,si j,t]=.next [si p,sh PP,si i,sh x,si j,s']):By Γ 4 Ic (.int j) [si p,sh PP,si i,sh x,s,t]=.next [si p,sh PP,si i,sh x,si j,s']:=by
 simp[By,Ic,ln,r,e]
theorem bN{x:D}{i N:Af}{t s' t':Sl}(ln:biD .len [PP]=.ok (.int N))(r:CC (i+1) N=.ok RL)(e:CD (By Γ 4 Ic) RL [si p,sh PP,si i,sh x,s,t]=.next [si p,sh PP,si i,sh x,s',t']):GM Γ [2,3] Gv (.tup [.int i,x]) [si p,sh PP,s2,s3,s,t]=.next [si p,sh PP,si i,sh x,s',t']:=by
 have a:Gw [2,3] (.tup [.int i,x]) [si p,sh PP,s2,s3,s,t]=.ok [si p,sh PP,si i,sh x,s,t]:=rfl;simp[GM,a,Gv,ln,r,e]
theorem bK{as:Ac D}{t:Sl}(sq:CS PP=.ok as)(e:CD (GM Γ [2,3] Gv) (EO 0 as) [si p,sh PP,Ae,Ae,Ae,Ae]=.next [si p,sh PP,s2,s3,s,t]):KY.run Γ [.int p,PP]=.ok .non:=by
 simp[KY,Df.run,Bv,sq,e]
def aH(Γ:Gam):Prop:=∀(p:Af)(pts:Ac R3),P4 p->pts.length<=100->N3 p pts->Γ.F 65 [.int p,AY pts]=.ok .non
theorem xW(hm:Ke Γ)(p:Af)(pts:Ac R3)(hp:P4 p)(hn:pts.length<=100)(h:N3 p pts):KY.run Γ [.int p,AY pts]=.ok .non:=by
 have ln:biD .len [AY pts]=.ok (.int (pts.length:Af)):=by
  show R.ok (D.int ((pts.map (Au Ab)).length:Af))=_;rw[Bh]
 have sq:CS (AY pts)=.ok (pts.map (Au Ab)):=rfl;have ix:∀(k:Ag)(x:R3),pts[k]?=Aa x->Bx (AY pts) (.int (k:Af))=.ok (Au Ab x):=fun k x hx=>by
  show Dj (pts.map (Au Ab)) (k:Af)=_;refine NE (by omega) ?_
  rw[FJ,CT,hx];rfl
 have rg:∀ j:Ag,j<pts.length->CC ((j:Af)+1) (pts.length:Af)=.ok (BY ((j:Af)+1) ((pts.length:Af)-((j:Af)+1)).toNat):=fun j hj=>PJ (by omega) (by omega) (by omega) (by omega)
 have B:∀{x:R3},NF p x->B3 x:=fun hx=>(FC hp hx.1).b3 (by decide)
 have neq:∀{i j:Ag}{x y:R3},i<j->pts[i]?=Aa x->pts[j]?=Aa y->x≠y:=fun {i j x y} hij hx hy q=>by
  subst q;obtain⟨hi,ei⟩:=AS.mp hx;obtain⟨hj,ej⟩:=AS.mp hy;have:=(List.nodup_iff_pairwise_ne.mp h.nd);exact List.pairwise_iff_getElem.mp this i j hi hj hij (ei.trans ej.symm)
 have mem:∀{i:Ag}{x:R3},pts[i]?=Aa x->x∈pts:=fun hx=>Gh hx
 have me:∀{i j k:Ag}{x y u:R3},i<j->j<k->pts[i]?=Aa x->pts[j]?=Aa y->pts[k]?=Aa u->Γ.F 61 [.int p,Au Ab x,Au Ab y,Au Ab u]=.ok (.int (Aq x y u%p))/\Aq x y u%p≠0:=fun {i j k x y u} h1 h2 hx hy hu=>
  ⟨hm p Ab _ _ _ hp.pos (B (h.nf _ (mem hx))) (B (h.nf _ (mem hy))) (B (h.nf _ (mem hu))),h.n3 x y u (mem hx) (mem hy) (mem hu) (neq h1 hx hy) (neq (Nat.lt_trans h1 h2) hx hu) (neq h2 hy hu)⟩
 have get:∀{k:Ag},k<pts.length->∃ x,pts[k]?=Aa x:=fun {k} hk=>⟨_,Bm hk⟩
 obtain⟨ρ',e,s2,s3,s,t,rfl⟩:=NH (body:=GM Γ [2,3] Gv) (fun ρ=>∃ s2 s3 s t,ρ=[si p,sh (AY pts),s2,s3,s,t]) (EO 0 (pts.map (Au Ab))) (fun x hx ρ ⟨s2,s3,s,t,e⟩=>by
  subst e;obtain⟨i,d,hd,rfl⟩:=VP hx;rw[CT]at hd;obtain⟨a,ha,rfl⟩:=Option.map_eq_some_iff.mp hd;have il:=(AS.mp ha).1;rw[Et];obtain⟨ρ1,e1,s',t',rfl⟩:=NH (body:=By Γ 4 Ic) (fun ρ=>∃ s t,ρ=[si p,sh (AY pts),si i,sh (Au Ab a),s,t]) (BY ((i:Af)+1) ((pts.length:Af)-((i:Af)+1)).toNat) (fun y hy ρ ⟨s,t,e⟩=>by
   subst e;obtain⟨j',hj',rfl⟩:=PV hy;obtain⟨b,hb⟩:=get (k:=i+1+j') (by omega)
   have jl:i+1+j'<pts.length:=by omega
   have ej:(i:Af)+1+(j':Af)=((i+1+j':Ag):Af):=by omega
   have ij:i<i+1+j':=by omega
   rw[ej];generalize i+1+j'=j at *;obtain⟨ρ2,e2,t',rfl⟩:=NH (body:=By Γ 5 HB) (fun ρ=>∃ t,ρ=[si p,sh (AY pts),si i,sh (Au Ab a),si j,t]) (BY ((j:Af)+1) ((pts.length:Af)-((j:Af)+1)).toNat) (fun z hz ρ ⟨t,e⟩=>by
    subst e;obtain⟨k',hk',rfl⟩:=PV hz;obtain⟨c,hc⟩:=get (k:=j+1+k') (by omega)
    have ek:(j:Af)+1+(k':Af)=((j+1+k':Ag):Af):=by omega
    have jk:j<j+1+k':=by omega
    rw[ek];generalize j+1+k'=k at *;obtain⟨m1,m2⟩:=me ij jk ha hb hc;have g1:=ix j b hb;have g2:=ix k c hc;generalize AY pts=PP at *;generalize (i:Af)=iI at *;generalize (j:Af)=jI at *;generalize (k:Af)=kI at *;exact⟨_,bP g1 g2 m1 m2,_,rfl⟩) _ ⟨t,rfl⟩
   have r:=rg j jl;generalize BY ((j:Af)+1) ((pts.length:Af)-((j:Af)+1)).toNat=RL at *;generalize (pts.length:Af)=N at *;generalize AY pts=PP at *;generalize (i:Af)=iI at *;generalize (j:Af)=jI at *;exact⟨_,bO ln r e2,_,_,rfl⟩) _ ⟨s,t,rfl⟩
  have r:=rg i il;generalize BY ((i:Af)+1) ((pts.length:Af)-((i:Af)+1)).toNat=RL at *;generalize (pts.length:Af)=N at *;generalize AY pts=PP at *;generalize (i:Af)=iI at *;exact⟨_,bN ln r e1,_,_,_,_,rfl⟩) _ ⟨Ae,Ae,Ae,Ae,rfl⟩
 exact bK sq e
end
noncomputable def JW:Df:=⟨5,Ad,(.cons (.asg 3 Ad (.call 57 (.cons (.var 0) (.cons (.idx (.var 1) (.var 2)) (.cons (.idx (.var 1) (.bin .Add (.var 2) (.int 1))) .nil))))) (.cons (.asg 4 Ad (.call 57 (.cons (.var 0) (.cons (.idx (.var 1) (.bin .Add (.var 2) (.int 3))) (.cons (.idx (.var 1) (.bin .Mod (.bin .Add (.var 2) (.int 4)) (.int 6))) .nil))))) (.cons (.ret (.call 58 (.cons (.var 0) (.cons (.var 3) (.cons (.var 4) .nil))))) .nil)))⟩
noncomputable def K3:Df:=⟨2,Ad,(.cons (.ife (.cmp .NotEq (.bi .len (.cons (.var 1) .nil)) (.int 6)) (.cons (.rais 13 (.cons (.str (AN "six points are asked for")) .nil)) .nil) .nil) (.cons (.expr (.call 109 (.cons (.var 0) (.cons (.var 1) .nil)))) (.cons (.ret (.tup (.cons (.call 209 (.cons (.var 0) (.cons (.var 1) (.cons (.int 0) .nil)))) (.cons (.call 209 (.cons (.var 0) (.cons (.var 1) (.cons (.int 1) .nil)))) (.cons (.call 209 (.cons (.var 0) (.cons (.var 1) (.cons (.int 2) .nil)))) .nil))))) .nil)))⟩
noncomputable def Ia:Df:=⟨4,Ad,(.cons (.asg 2 Ad (.call 210 (.cons (.var 0) (.cons (.var 1) .nil)))) (.cons (.asg 3 Ad (.call 198 (.cons (.var 0) (.cons (.sl (.var 1) .non (.int 5)) .nil)))) (.cons (.ife (.cmp .Eq (.call 126 (.cons (.var 0) (.cons (.var 3) (.cons (.idx (.var 1) (.int 5)) .nil)))) (.int 0)) (.cons (.ret (.tup (.cons (.str (AN "one")) (.cons (.var 3) (.cons (.var 2) (.cons (.call 57 (.cons (.var 0) (.cons (.idx (.var 2) (.int 0)) (.cons (.idx (.var 2) (.int 1)) .nil)))) .nil)))))) .nil) .nil) (.cons (.ret (.tup (.cons (.str (AN "apart")) (.cons (.var 2) .nil)))) .nil))))⟩
noncomputable def V1:Df:=⟨3,Ad,(.cons (.ret (.call 17 (.cons (.var 0) (.cons (.call 23 (.cons (.var 1) (.cons (.var 2) .nil))) .nil)))) .nil)⟩
def V9(Γ:Gam):Prop:=∀(p:Af)(a b:R3),P4 p->In3 p a->In3 p b->A5 p (tri a)=Aa 1->A5 p (tri b)=Aa 1->a≠b->∃ y,In3 p y/\A5 p (tri y)=Aa 1/\Pr p y (crs a b)/\Γ.F 58 [.int p,Au Ab a,Au Ab b]=.ok (Au Ab y)
theorem sO(hc:QH Γ)(hf:NN Γ)(p:Af)(a b:R3)(hp:P4 p)(ia:In3 p a)(ib:In3 p b)(la:A5 p (tri a)=Aa 1)(lb:A5 p (tri b)=Aa 1)(ne:a≠b):∃ y,In3 p y/\A5 p (tri y)=Aa 1/\Pr p y (crs a b)/\V1.run Γ [.int p,Au Ab a,Au Ab b]=.ok (Au Ab y):=Wb hc hf p a b hp ia ib la lb ne
section
variable{Γ:Gam}{p:Af}{a b c d e f x y:R3}{C:C6}
noncomputable def mtI(p:Af)(a b d e:R3):R3:=nrm p (crs (crs a b) (crs d e))
theorem Wf{n:R3}(h:AU n r%p≠0):¬ CgR p r (0,0,0):=fun z=>h (z0' ((JA (⟨Cg.rfl,Cg.rfl,Cg.rfl⟩:CgR p n n) z).trans (Cg.of (by unfold AU;simp))))
theorem VN(h:¬ CgR p r (0,0,0)):∃ l,A5 p (tri r)=Aa l:=by
 cases q:A5 p (tri r) with
 |some l=>exact⟨l,rfl⟩
 |none=>exact absurd (Qb q) h
theorem MH(hp:P4 p)(h:¬ CgR p r (0,0,0)):NF p (nrm p r)/\Pr p (nrm p r) r:=by
 obtain⟨l,el⟩:=VN h;exact UH hp el
theorem NS(hp:P4 p)(h:¬ CgR p r (0,0,0))(hy:NF p y)(e:Pr p y r):y=nrm p r:=by
 obtain⟨h1,h2⟩:=MH hp h;exact NT hp hy h1 (e.trans hp (Pr.symm hp h2))
theorem Wu{x':R3}(hp:P4 p)(hx:Pr p x x')(hy:Pr p y y'):Pr p (crs x y) (crs x' y'):=by
 obtain⟨d,dz,e⟩:=hx;obtain⟨d',dz',e'⟩:=hy;refine⟨d*d',C7 hp dz dz',(wD e e').trans ?_⟩;have:crs (BW d x') (BW d' y')=BW (d*d') (crs x' y'):=by
  unfold crs BW;refine BF ?_ (BF ?_ ?_)<;>simp only<;>grind
 rw[this];exact⟨Cg.rfl,Cg.rfl,Cg.rfl⟩
theorem Xd{s:R3}(hp:P4 p)(h:Pr p r s)(z:¬ CgR p s (0,0,0)):¬ CgR p r (0,0,0):=fun q=>by
 obtain⟨d,dz,e⟩:=h;refine z (N9 hp dz ⟨e.1.symm.trans q.1,e.2.1.symm.trans q.2.1,e.2.2.symm.trans q.2.2⟩)
theorem IV(hp:P4 p)(h1:Aq a d e%p≠0)(h2:Aq a d b%p≠0):¬ CgR p (crs (crs a b) (crs d e)) (0,0,0):=by
 refine Wf (n:=crs a d) ?_;have:AU (crs a d) (crs (crs a b) (crs d e))=Aq a d e*Aq a d b:=by
  rw[Qo];unfold AU crs Aq det;simp only;grind
 rw[this];exact C7 hp h1 h2
def XF(Γ:Gam):Prop:=∀(p:Af)(a b d e:R3),P4 p->NF p a->NF p b->NF p d->NF p e->a≠b->d≠e->Aq a d e%p≠0->Aq a d b%p≠0->∃ l l',Γ.F 57 [.int p,Au Ab a,Au Ab b]=.ok l/\Γ.F 57 [.int p,Au Ab d,Au Ab e]=.ok l'/\Γ.F 58 [.int p,l,l']=.ok (Au Ab (mtI p a b d e))
theorem xT(hj:Oc Γ)(hm:V9 Γ):XF Γ:=fun p a b d e hp na nb nd ne n1 n2 h1 h2=>by
 obtain⟨l,il,ll,pl,el⟩:=hj p a b hp na.1 nb.1 na.2 nb.2 n1;obtain⟨l',il',ll',pl',el'⟩:=hj p d e hp nd.1 ne.1 nd.2 ne.2 n2;have z:=IV (b:=b) hp h1 h2;have pc:=Wu hp pl pl';have ll0:l≠l':=fun q=>by
  subst q;refine Xd hp pc z ?_;unfold crs;exact⟨Cg.of (by grind),Cg.of (by grind),Cg.of (by grind)⟩
 obtain⟨y,iy,ly,py,ey⟩:=hm p l l' hp il il' ll ll' ll0;refine⟨_,_,el,el',?_⟩;rw[ey,NS hp z ⟨iy,ly⟩ (py.trans hp pc)];rfl
structure Six (p:Af) (a b c d e f:R3):Prop where
 n3:N3 p [a,b,c,d,e,f]
 m0:Aq a d e%p≠0/\Aq a d b%p≠0
 m1:Aq b e f%p≠0/\Aq b e c%p≠0
 m2:Aq c f a%p≠0/\Aq c f d%p≠0
 ab:a≠b
 bc:b≠c
 cd:c≠d
 de:d≠e
 ef:e≠f
 fa:f≠a
 mj:Aq b d e%p≠0/\Aq b e f%p≠0/\Aq a b c%p≠0
theorem Six.of(h:N3 p [a,b,c,d,e,f]):Six p a b c d e f:=by
 have nd:=h.nd;simp only[BR,Aw,A3,BZ,Dy,DO,Dz,GR]at nd;obtain⟨⟨n01,n02,n03,n04,n05⟩,⟨n12,n13,n14,n15⟩,⟨n23,n24,n25⟩,⟨n34,n35⟩,n45⟩:=nd;have k:∀{x y u:R3},x∈[a,b,c,d,e,f]->y∈[a,b,c,d,e,f]->u∈[a,b,c,d,e,f]->x≠y->x≠u->y≠u->Aq x y u%p≠0:=fun hx hy hu=>h.n3 _ _ _ hx hy hu
 exact⟨h,⟨k (by simp) (by simp) (by simp) n03 n04 n34,k (by simp) (by simp) (by simp) n03 n01 (CP n13)⟩,⟨k (by simp) (by simp) (by simp) n14 n15 n45,k (by simp) (by simp) (by simp) n14 n12 (CP n24)⟩,⟨k (by simp) (by simp) (by simp) n25 (CP n02) (CP n05),k (by simp) (by simp) (by simp) n25 n23 (CP n35)⟩,n01,n12,n23,n34,n45,CP n05,k (by simp) (by simp) (by simp) n13 n14 n34,k (by simp) (by simp) (by simp) n14 n15 n45,k (by simp) (by simp) (by simp) n01 n02 n12⟩
theorem Qe{PP A B A' B' l l' R:D}(i0:Bx PP (.int k)=.ok A)(i1:Bx PP (.int (k+1))=.ok B)(i2:Bx PP (.int (k+3))=.ok A')(i3:Bx PP (.int ((k+4)%6))=.ok B')(e1:Γ.F 57 [.int p,A,B]=.ok l)(e2:Γ.F 57 [.int p,A',B']=.ok l')(e3:Γ.F 58 [.int p,l,l']=.ok R):JW.run Γ [.int p,PP,.int k]=.ok R:=by
 simp[JW,Df.run,Bv,i0,i1,i2,i3,e1,e2,e3]
theorem Q7(P0 P1 P2 P3 P4 P5:D):Bx (.lst [P0,P1,P2,P3,P4,P5]) (.int 0)=.ok P0/\Bx (.lst [P0,P1,P2,P3,P4,P5]) (.int 1)=.ok P1/\Bx (.lst [P0,P1,P2,P3,P4,P5]) (.int 2)=.ok P2/\Bx (.lst [P0,P1,P2,P3,P4,P5]) (.int 3)=.ok P3/\Bx (.lst [P0,P1,P2,P3,P4,P5]) (.int 4)=.ok P4/\Bx (.lst [P0,P1,P2,P3,P4,P5]) (.int 5)=.ok P5:=⟨rfl,rfl,rfl,rfl,rfl,rfl⟩
def V7(Γ:Gam):Prop:=∀(p:Af)(a b c d e f:R3),P4 p->Six p a b c d e f->Γ.F 209 [.int p,AY [a,b,c,d,e,f],.int 0]=.ok (Au Ab (mtI p a b d e))/\Γ.F 209 [.int p,AY [a,b,c,d,e,f],.int 1]=.ok (Au Ab (mtI p b c e f))/\Γ.F 209 [.int p,AY [a,b,c,d,e,f],.int 2]=.ok (Au Ab (mtI p c d f a))
theorem sG(hm:XF Γ)(p:Af)(a b c d e f:R3)(hp:P4 p)(h:Six p a b c d e f):JW.run Γ [.int p,AY [a,b,c,d,e,f],.int 0]=.ok (Au Ab (mtI p a b d e))/\JW.run Γ [.int p,AY [a,b,c,d,e,f],.int 1]=.ok (Au Ab (mtI p b c e f))/\JW.run Γ [.int p,AY [a,b,c,d,e,f],.int 2]=.ok (Au Ab (mtI p c d f a)):=by
 have nf:∀{x:R3},x∈[a,b,c,d,e,f]->NF p x:=fun hx=>h.n3.nf _ hx
 have na:=nf (x:=a) (by simp)
 have nb:=nf (x:=b) (by simp)
 have nc:=nf (x:=c) (by simp)
 have nd:=nf (x:=d) (by simp)
 have ne:=nf (x:=e) (by simp)
 have nf':=nf (x:=f) (by simp)
 obtain⟨i0,i1,i2,i3,i4,i5⟩:=Q7 (Au Ab a) (Au Ab b) (Au Ab c) (Au Ab d) (Au Ab e) (Au Ab f);refine⟨?_,?_,?_⟩
 ·obtain⟨l,l',e1,e2,e3⟩:=hm p a b d e hp na nb nd ne h.ab h.de h.m0.1 h.m0.2;exact Qe (k:=0) i0 i1 i3 i4 e1 e2 e3
 ·obtain⟨l,l',e1,e2,e3⟩:=hm p b c e f hp nb nc ne nf' h.bc h.ef h.m1.1 h.m1.2;exact Qe (k:=1) i1 i2 i4 i5 e1 e2 e3
 ·obtain⟨l,l',e1,e2,e3⟩:=hm p c d f a hp nc nd nf' na h.cd h.fa h.m2.1 h.m2.2;exact Qe (k:=2) i2 i3 i5 i0 e1 e2 e3
def WX(Γ:Gam):Prop:=∀(p:Af)(pts:Ac R3),P4 p->pts.length<=100->N3 p pts->Γ.F 109 [.int p,AY pts]=.ok .non
noncomputable def Hf(p:Af)(a b c d e f:R3):D:=.tup [Au Ab (mtI p a b d e),Au Ab (mtI p b c e f),Au Ab (mtI p c d f a)]
def V8(Γ:Gam):Prop:=∀(p:Af)(a b c d e f:R3),P4 p->Six p a b c d e f->Γ.F 210 [.int p,AY [a,b,c,d,e,f]]=.ok (Hf p a b c d e f)
theorem sJ(ha:WX Γ)(hs:V7 Γ)(p:Af)(a b c d e f:R3)(hp:P4 p)(h:Six p a b c d e f):K3.run Γ [.int p,AY [a,b,c,d,e,f]]=.ok (Hf p a b c d e f):=by
 have e1:=ha p _ hp (by simp) h.n3
 obtain⟨s0,s1,s2⟩:=hs p a b c d e f hp h;have ln:biD .len [AY [a,b,c,d,e,f]]=.ok (.int 6):=rfl;unfold Hf;generalize AY [a,b,c,d,e,f]=PP at *;generalize Au Ab (mtI p a b d e)=X at *;generalize Au Ab (mtI p b c e f)=Y at *;generalize Au Ab (mtI p c d f a)=Z at *;simp[K3,Df.run,Bv,ln,e1,s0,s1,s2]
theorem Q6(hp:P4 p)(h:Six p a b c d e f):(NF p (mtI p a b d e)/\Pr p (mtI p a b d e) (crs (crs a b) (crs d e)))/\(NF p (mtI p b c e f)/\Pr p (mtI p b c e f) (crs (crs b c) (crs e f)))/\(NF p (mtI p c d f a)/\Pr p (mtI p c d f a) (crs (crs c d) (crs f a))):=
 ⟨MH hp (IV hp h.m0.1 h.m0.2),MH hp (IV hp h.m1.1 h.m1.2),MH hp (IV hp h.m2.1 h.m2.2)⟩
theorem Xm(hp:P4 p)(h:Six p a b c d e f):¬ CgR p (crs (mtI p a b d e) (mtI p b c e f)) (0,0,0):=by
 obtain⟨⟨_,p0⟩,⟨_,p1⟩,_⟩:=Q6 hp h;refine Xd hp (Wu hp p0 p1) (Wf (n:=b) ?_);have:AU b (crs (crs (crs a b) (crs d e)) (crs (crs b c) (crs e f)))=Aq b d e*(Aq b e f*Aq a b c):=by
  rw[Qo a b d e,Qo b c e f];generalize Aq a d e=α;generalize Aq b d e=β;generalize Aq b e f=γ;generalize Aq c e f=δ;unfold AU crs Aq det;simp only;grind
 rw[this];exact C7 hp h.mj.1 (C7 hp h.mj.2.1 h.mj.2.2)
theorem Oh(hp:P4 p)(h:Six p a b c d e f):mtI p a b d e≠mtI p b c e f:=fun q=>by
 refine Xm hp h ?_;rw[q];unfold crs;exact⟨Cg.of (by grind),Cg.of (by grind),Cg.of (by grind)⟩
noncomputable def jnI(p:Af)(a b c d e f:R3):R3:=nrm p (crs (mtI p a b d e) (mtI p b c e f))
def vY(Γ:Gam):Prop:=∀(p:Af)(a b c d e f:R3),P4 p->Six p a b c d e f->(∀ C,InC p C->A5 p C.l=Aa 1->(∀ x∈[a,b,c,d,e,f],vI C x%p=0)->Γ.F 211 [.int p,AY [a,b,c,d,e,f]]=.ok (.tup [.str (AN "one"),Cj C,Hf p a b c d e f,Au Ab (jnI p a b c d e f)]))/\((¬ ∃ C,InC p C/\A5 p C.l=Aa 1/\∀ x∈[a,b,c,d,e,f],vI C x%p=0)->Γ.F 211 [.int p,AY [a,b,c,d,e,f]]=.ok (.tup [.str (AN "apart"),Hf p a b c d e f]))
theorem kF{M X Y J cC P5 F5:D}(e1:Γ.F 210 [.int p,PP]=.ok M)(sl:slD PP Ae (Aa 5)=.ok F5)(e2:Γ.F 198 [.int p,F5]=.ok cC)(i5:Bx PP (.int 5)=.ok P5)(e3:Γ.F 126 [.int p,cC,P5]=.ok (.int v))(i0:Bx M (.int 0)=.ok X)(i1:Bx M (.int 1)=.ok Y)(e4:v=0->Γ.F 57 [.int p,X,Y]=.ok J):Ia.run Γ [.int p,PP]=.ok (if v=0 then .tup [.str (AN "one"),cC,M,J] else .tup [.str (AN "apart"),M]):=by
 by_cases hv:v=0
 ·have e4':=e4 hv;subst hv;simp[Ia,Df.run,Bv,e1,sl,e2,i5,e3,i0,i1,e4']
 ·simp[Ia,Df.run,Bv,e1,sl,e2,i5,e3,i0,i1,hv]
theorem sF(hm:V8 Γ)(ht:V6 Γ)(hv:Rc Γ)(hj:Oc Γ)(p:Af)(a b c d e f:R3)(hp:P4 p)(h:Six p a b c d e f):(∀ C,InC p C->A5 p C.l=Aa 1->(∀ x∈[a,b,c,d,e,f],vI C x%p=0)->Ia.run Γ [.int p,AY [a,b,c,d,e,f]]=.ok (.tup [.str (AN "one"),Cj C,Hf p a b c d e f,Au Ab (jnI p a b c d e f)]))/\((¬ ∃ C,InC p C/\A5 p C.l=Aa 1/\∀ x∈[a,b,c,d,e,f],vI C x%p=0)->Ia.run Γ [.int p,AY [a,b,c,d,e,f]]=.ok (.tup [.str (AN "apart"),Hf p a b c d e f])):=by
 have e1:=hm p a b c d e f hp h;have h5:N3 p [a,b,c,d,e]:=h.n3.sub (List.sublist_append_left [a,b,c,d,e] [f]);obtain⟨⟨n0,_⟩,⟨n1,_⟩,_⟩:=Q6 hp h;obtain⟨j,ij,lj,pj,ej⟩:=hj p _ _ hp n0.1 n1.1 n0.2 n1.2 (Oh hp h);have jq:j=jnI p a b c d e f:=NS hp (Xm hp h) ⟨ij,lj⟩ pj;rw[jq]at ej;have run:∀ C,InC p C->Γ.F 198 [.int p,AY [a,b,c,d,e]]=.ok (Cj C)->Ia.run Γ [.int p,AY [a,b,c,d,e,f]]=.ok (if vI C f%p=0 then .tup [.str (AN "one"),Cj C,Hf p a b c d e f,Au Ab (jnI p a b c d e f)] else .tup [.str (AN "apart"),Hf p a b c d e f]):=fun C iC e2=>
  kF e1 rfl e2 (Q7 _ _ _ _ _ _).2.2.2.2.2 (hv p C f hp (iC.b hp) (h.n3.nf f (by simp)).1) rfl rfl (fun _=>ej)
 constructor
 ·intro C iC lC on;have F:Five p C [a,b,c,d,e]:=h5.five hp rfl fun x hx=>on x (DP [f] hx)
  rw[run C iC (ht p C _ hp iC lC F),AA (on f (by simp))]
 ·intro no;obtain⟨C,iC,lC,_,F⟩:=qJ hp h5;rw[run C iC (ht p C _ hp iC lC F),AH];intro hf;refine no ⟨C,iC,lC,fun x hx=>?_⟩
  rcases Ff.mp (show x∈[a,b,c,d,e]++[f] from hx) with hx|hx
  ·exact F.on x hx
  ·rw[BA.mp hx];exact hf
end
def aG(Γ:Gam):Prop:=∀(p:Af)(a b:R3),P4 p->In3 p a->In3 p b->Γ.F 161 [Au Ab a,Au Ab b]=.ok (Br (crs a b))
theorem xV(Γ:Gam)(p:Af)(a b:R3)(hp:P4 p)(ia:In3 p a)(ib:In3 p b):Mi.run Γ [Au Ab a,Au Ab b]=.ok (Br (crs a b)):=by
 have ba:=FC hp ia;have bb:=FC hp ib;have k:∀ {u v},Bd 10 u->Bd 10 v->EM u v=Ab:=fun hu hv=>GL hu hv (by decide) (by decide)
 obtain⟨a0,a1,a2⟩:=a;obtain⟨b0,b1,b2⟩:=b;have ea:∀(x y z:Af)(i j k:Ag)(ρ:Rho),Hb [i,j,k] (Au Ab (x,y,z)) ρ=.ok (((ρ.set i (si x)).set j (si y)).set k (si z)):=fun _ _ _ _ _ _ _=>rfl
 simp[Mi,Df.run,Bv,ea,k ba.2.1 bb.2.2,k ba.2.2 bb.2.1,k ba.2.2 bb.1,k ba.1 bb.2.2,k ba.1 bb.2.1,k ba.2.1 bb.1];rfl
noncomputable def O4:Df:=⟨7,Ad,(.cons (.asgT [4,5,6] (.call 161 (.cons (.var 1) (.cons (.var 2) .nil)))) (.cons (.ret (.bin .Mod (.bin .Add (.bin .Add (.bin .Mult (.var 4) (.idx (.var 3) (.int 0))) (.bin .Mult (.var 5) (.idx (.var 3) (.int 1)))) (.bin .Mult (.var 6) (.idx (.var 3) (.int 2)))) (.var 0))) .nil))⟩
def Lq(Γ:Gam):Prop:=∀(p:Af)(a b c:R3),P4 p->In3 p a->In3 p b->In3 p c->Γ.F 165 [.int p,Au Ab a,Au Ab b,Au Ab c]=.ok (.int (Aq a b c%p))
theorem qQ(a b c:R3):AU (crs a b) c=Aq a b c:=by
 unfold AU crs Aq det;grind
theorem xU(h:aG Γ)(p:Af)(a b c:R3)(hp:P4 p)(ia:In3 p a)(ib:In3 p b)(ic:In3 p c):O4.run Γ [.int p,Au Ab a,Au Ab b,Au Ab c]=.ok (.int (Aq a b c%p)):=by
 have e1:=h p a b hp ia ib;have bc:=FC hp ic;have bx:=br (FC hp ia) (FC hp ib);have k:∀ {u v},Bd 21 u->Bd 10 v->EM u v=Ab:=fun hu hv=>GL hu hv (by decide) (by decide)
 have k0:=k bx.1 bc.1;have k1:=k bx.2.1 bc.2.1;have k2:=k bx.2.2 bc.2.2;have p0:=hp.pos;obtain⟨x0,x1,x2⟩:=IQ Ab c;rw[<-qQ];unfold AU;generalize crs a b=w at *;obtain⟨w0,w1,w2⟩:=w;have ea:∀ ρ:Rho,Hb [4,5,6] (Br (w0,w1,w2)) ρ=.ok (((ρ.set 4 (si w0)).set 5 (si w1)).set 6 (si w2)):=fun _=>rfl
 generalize Br (w0,w1,w2)=ww at *;simp[O4,Df.run,Bv,e1,ea,x0,x1,x2,k0,k1,k2,p0]
section
variable{Γ:Gam}{p i j k d N:Af}{PP x y u:D}{RL:Ac D}{s t s' t' v:Sl}
end
section
variable{Γ:Gam}{p:Af}{pts:Ac R3}
end
section
variable{Γ:Gam}{p:Af}{a b c d e f x y:R3}{C:C6}
def WV(Γ:Gam):Prop:=∀(q:Ak)(a b:R3),Bn 100 a->Bn 100 b->Γ.F 161 [Au q a,Au q b]=.ok (Br (crs a b))
theorem sR(Γ:Gam)(q:Ak)(a b:R3)(ba:Bn 100 a)(bb:Bn 100 b):Mi.run Γ [Au q a,Au q b]=.ok (Br (crs a b)):=by
 have k:∀ {u v},Bd 100 u->Bd 100 v->EM u v=Ab:=fun hu hv=>GL hu hv (by decide) (by decide)
 obtain⟨a0,a1,a2⟩:=a;obtain⟨b0,b1,b2⟩:=b;have ea:∀(x y z:Af)(i j k:Ag)(ρ:Rho),Hb [i,j,k] (Au q (x,y,z)) ρ=.ok (((ρ.set i (si x)).set j (si y)).set k (si z)):=fun _ _ _ _ _ _ _=>by cases q<;>rfl
 simp[Mi,Df.run,Bv,ea,k ba.2.1 bb.2.2,k ba.2.2 bb.2.1,k ba.2.2 bb.1,k ba.1 bb.2.2,k ba.1 bb.2.1,k ba.2.1 bb.1];rfl
theorem Bn.mono{m n:Ag}{a:R3}(h:Bn m a)(g:m<=n):Bn n a:=⟨h.1.mono g,h.2.1.mono g,h.2.2.mono g⟩
theorem Wv(ba:Bn 10 a)(bb:Bn 10 b):Bn 100 (crs a b):=by
 have k:∀{u v w z:Af},Bd 10 u->Bd 10 v->Bd 10 w->Bd 10 z->Bd 100 (u*v-w*z):=fun h1 h2 h3 h4=>((h1.mul h2).sub (h3.mul h4)).mono (by decide)
 exact⟨k ba.2.1 bb.2.2 ba.2.2 bb.2.1,k ba.2.2 bb.1 ba.1 bb.2.2,k ba.1 bb.2.1 ba.2.1 bb.1⟩
def XG(Γ:Gam):Prop:=∀(p:Af)(r:R3),P4 p->¬ CgR p r (0,0,0)->Γ.F 158 [.int p,Br r]=.ok (Au Ab (nrm p r))
theorem fmN(hf:QG Γ):XG Γ:=fun p r hp z=>by
 obtain⟨l,el⟩:=VN z;obtain⟨t,it,io,ll,po,eo⟩:=Qf hp el;have ef:=hf p Ad _ l t hp el it;rw[eo]at ef;have q:=NS hp z ⟨io,ll⟩ po;rw[q]at ef;exact ef
section
variable{cC PP A B C' D' E F L0 L1 L2 L3 L4 L5 U V W X Y Z J Q:D}
end
theorem S6(x y z:R3):flD 4 (.tup [Au Ab x,Au Ab y,Au Ab z])=Ab/\eqD (.tup [Au Ab x,Au Ab y,Au Ab z]) (.tup [Au Ab x,Au Ab y,Au Ab z])=Ab:=by
 refine⟨rfl,?_⟩;show (eqD (Au Ab x) (Au Ab x)&&(eqD (Au Ab y) (Au Ab y)&&(eqD (Au Ab z) (Au Ab z)&&Ab)))=Ab;rw[ML,ML,ML];simp
end
section
variable{Γ:Gam}{p:Af}{C:C6}
end
theorem J5{body:D->Rho->O}(I:Rho->Prop)(f:Ag->D)(g:Ag->Ap D):∀(L:Ac Ag),(∀ m∈L,∀ ρ,I ρ->(∃ d,g m=Aa d/\body (f m) ρ=.ret d Ad)\/(g m=Ae/\∃ ρ',body (f m) ρ=.next ρ'/\I ρ'))->∀ ρ,I ρ->(∃ d,L.findSome? g=Aa d/\CD body (L.map f) ρ=.ret d Ad)\/(L.findSome? g=Ae/\∃ ρ',CD body (L.map f) ρ=.next ρ'/\I ρ')
 |[],_,ρ,i=>.inr ⟨rfl,ρ,rfl,i⟩
 |m::L,h,ρ,i=>by
  rcases h m (AB ..) ρ i with ⟨d,e1,e2⟩|⟨e1,ρ',e2,i'⟩
  ·refine .inl ⟨d,by rw[GB,e1],?_⟩
   show (body (f m) ρ).turn _=_;rw[e2];rfl
  ·rcases J5 I f g L (fun m' h'=>h m' (Ay _ h')) ρ' i' with ⟨d,a,b⟩|⟨a,r,b,c⟩
   ·refine .inl ⟨d,by rw[GB,e1];exact a,?_⟩
    show (body (f m) ρ).turn _=_;rw[e2];exact b
   ·refine .inr ⟨by rw[GB,e1];exact a,r,?_,c⟩
    show (body (f m) ρ).turn _=_;rw[e2];exact b
noncomputable def at6(pts:Ac R3)(i:Ag):R3:=pts.getD i (0,0,0)
theorem in6(hg:∀ t∈pts,In3 p t)(h:i<pts.length):In3 p (at6 pts i):=by
 have e:at6 pts i=pts[i]:=by simp[at6,h]
 rw[e];exact hg _ (D3 h)
theorem b6(hp:P4 p)(hg:∀ t∈pts,In3 p t)(h:i<pts.length):B3 (at6 pts i):=(FC hp (in6 hg h)).b3 (by decide)
noncomputable def JY:Ss:=(.cons (.ife (.cmp .Eq (.call 165 (.cons (.var 0) (.cons (.idx (.var 1) (.var 2)) (.cons (.idx (.var 1) (.var 3)) (.cons (.idx (.var 1) (.var 4)) .nil))))) (.int 0)) (.cons (.ret (.tup (.cons (.idx (.var 1) (.var 2)) (.cons (.idx (.var 1) (.var 3)) (.cons (.idx (.var 1) (.var 4)) .nil))))) .nil) .nil) .nil)
noncomputable def KR:Ss:=(.cons (.fors 4 (.rng2 (.bin .Add (.var 3) (.int 1)) (.int 6)) JY) .nil)
noncomputable def JX:Ss:=(.cons (.fors 3 (.rng2 (.bin .Add (.var 2) (.int 1)) (.int 6)) KR) .nil)
noncomputable def OY:Df:=⟨5,Ad,(.cons (.fors 2 (.rng (.int 6)) JX) (.cons (.ret .non) .nil))⟩
theorem qG(h:i<pts.length):Dj (pts.map (Au Ab)) (i:Af)=.ok (Au Ab (at6 pts i)):=by
 have h':i<(pts.map (Au Ab)).length:=by simpa using h
 rw[jH _ i h'];simp[at6,h]
theorem Ig(h:i<pts.length):Bx (AY pts) (.int (i:Af))=.ok (Au Ab (at6 pts i)):=qG h
def Kv(n:Ag):Prop:=n<20000
theorem WT(hn:Kv n)(hj:j<n):CC ((j:Af)+1) (n:Af)=.ok ((Bb (n-(j+1))).map fun m=>D.int ((j+1+m:Ag):Af)):=by
 have hn':n<20000:=hn;unfold CC;rw[AA (by omega)]
 unfold BY;have e:((n:Af)-((j:Af)+1)).toNat=n-(j+1):=by omega
 rw[e]
 congr 1
theorem XI:∀(xs:Ac D)(s:Ag),EO (s:Af) xs=(Bb xs.length).map fun m=>D.tup [.int ((s+m:Ag):Af),xs.getD m .non]
 |[],s=>rfl
 |x::xs,s=>by
  have ih:=XI xs (s+1);rw[EO,Bk,El,Cf,Gg];have e:((s:Af)+1)=((s+1:Ag):Af):=by omega
  rw[e,ih]
  congr 1
  apply E3
  intro m _;show D.tup [.int ((s+1+m:Ag):Af),xs.getD m .non]=D.tup [.int ((s+(m+1):Ag):Af),(x::xs).getD (m+1) .non];have e2:s+1+m=s+(m+1):=by omega
  rw[e2];rfl
noncomputable def h3_(p:Af)(pts:Ac R3)(i j k:Ag):Ap D:=if Aq (at6 pts i) (at6 pts j) (at6 pts k)%p=0 then Aa (.tup [Au Ab (at6 pts i),Au Ab (at6 pts j),Au Ab (at6 pts k)]) else Ae
noncomputable def h2_(p:Af)(pts:Ac R3)(i j:Ag):Ap D:=(Bb (pts.length-(j+1))).findSome? fun m=>h3_ p pts i j (j+1+m)
noncomputable def h1_(p:Af)(pts:Ac R3)(i:Ag):Ap D:=(Bb (pts.length-(i+1))).findSome? fun m=>h2_ p pts i (i+1+m)
noncomputable def h0_(p:Af)(pts:Ac R3):Ap D:=(Bb pts.length).findSome? (h1_ p pts)
theorem NK{t:Ag}{it:I}{body:Ss}{xs:Ac D}(h:Fb Γ ρ it=.ok xs):evSs Γ ρ (.cons (.fors t it body) .nil)=CD (By Γ t body) xs ρ:=by rw[Ml,uU,P6,h,Qz]
theorem Ui{j a l:Ag}(hn:Kv pts.length)(hj:j<pts.length)(h1:Dc ρ a=.ok (.int (j:Af)))(h2:Dc ρ l=.ok (AY pts)):Fb Γ ρ (.rng2 (.bin .Add (.var a) (.int 1)) (.bi .len (.cons (.var l) .nil)))=.ok ((Bb (pts.length-(j+1))).map fun m=>D.int ((j+1+m:Ag):Af)):=by
 have e1:evE Γ ρ (.bin .Add (.var a) (.int 1))=.ok (.int ((j:Af)+1)):=by
  show ((Dc ρ a).bind fun x=>R.bind (.ok (.int 1)) fun y=>C8 .Add x y)=_
  rw[h1];rfl
 have e2:evE Γ ρ (.bi .len (.cons (.var l) .nil))=.ok (.int (pts.length:Af)):=by
  show (((Dc ρ l).bind fun x=>R.bind (.ok []) fun xs=>.ok (x::xs)).bind fun xs=>biD .len xs)=_
  rw[h2];show R.ok (D.int (((pts.map (Au Ab)).length:Ag):Af))=_;rw[Bh]
 have e3:∀ x y:E,(∀ r,top ρ x r=r)->(∀ r,top ρ y r=r)->∀ i j:Af,evE Γ ρ x=.ok (.int i)->evE Γ ρ y=.ok (.int j)->Fb Γ ρ (.rng2 x y)=CC i j:=fun x y tx ty i j hx hy=>by
  rw[Uc,P7,tx,ty,hx,hy];simp only[R.bind_ok,Mm]
 rw[e3 _ _ (fun _=>rfl) (fun _=>rfl) _ _ e1 e2]
 exact WT hn hj
section
variable{Γ:Gam}{p:Af}{pts:Ac R3}
theorem bG(h:Ke Γ)(hp:P4 p)(hg:∀ t∈pts,In3 p t){k:Ag}(hi:i<pts.length)(hj:j<pts.length)(hk:k<pts.length)(ρ:Rho)(I:∃ s,ρ=[si p,sh (AY pts),si i,sh (Au Ab (at6 pts i)),si j,s]):(∃ d,h3_ p pts i j k=Aa d/\By Γ 5 HB (.int (k:Af)) ρ=.ret d Ad)\/(h3_ p pts i j k=Ae/\∃ ρ',By Γ 5 HB (.int (k:Af)) ρ=.next ρ'/\∃ s,ρ'=[si p,sh (AY pts),si i,sh (Au Ab (at6 pts i)),si j,s]):=by
 obtain⟨s,rfl⟩:=I;have e:=h p Ab _ _ _ hp.pos (b6 hp hg hi) (b6 hp hg hj) (b6 hp hg hk);by_cases z:Aq (at6 pts i) (at6 pts j) (at6 pts k)%p=0
 ·rw[z]at e;exact .inl ⟨_,AA z,by simp[By,HB,Ig hj,Ig hk,e,DN]⟩
 ·exact .inr ⟨AH z,[si p,sh (AY pts),si i,sh (Au Ab (at6 pts i)),si j,si k],by simp[By,HB,Ig hj,Ig hk,e,z],_,rfl⟩
theorem bH(h:Ke Γ)(hp:P4 p)(hg:∀ t∈pts,In3 p t)(hn:Kv pts.length)(hi:i<pts.length)(hj:j<pts.length)(ρ:Rho)(I:∃ s t,ρ=[si p,sh (AY pts),si i,sh (Au Ab (at6 pts i)),s,t]):(∃ d,h2_ p pts i j=Aa d/\By Γ 4 Ic (.int (j:Af)) ρ=.ret d Ad)\/(h2_ p pts i j=Ae/\∃ ρ',By Γ 4 Ic (.int (j:Af)) ρ=.next ρ'/\∃ s t,ρ'=[si p,sh (AY pts),si i,sh (Au Ab (at6 pts i)),s,t]):=by
 obtain⟨s,t,rfl⟩:=I;have e:By Γ 4 Ic (.int (j:Af)) [si p,sh (AY pts),si i,sh (Au Ab (at6 pts i)),s,t]=CD (By Γ 5 HB) ((Bb (pts.length-(j+1))).map fun m=>D.int ((j+1+m:Ag):Af)) [si p,sh (AY pts),si i,sh (Au Ab (at6 pts i)),si j,t]:=by
  exact NK (Ui hn hj rfl rfl)
 rw[e];rcases J5 (body:=By Γ 5 HB) (fun ρ=>∃ s,ρ=[si p,sh (AY pts),si i,sh (Au Ab (at6 pts i)),si j,s]) (fun m=>D.int ((j+1+m:Ag):Af)) (fun m=>h3_ p pts i j (j+1+m)) (Bb (pts.length-(j+1))) (fun m hm ρ I=>bG h hp hg hi hj (by have:=Bq.mp hm;omega) ρ I) [si p,sh (AY pts),si i,sh (Au Ab (at6 pts i)),si j,t] ⟨t,rfl⟩ with ⟨d,a,b⟩|⟨a,r,b,u,c⟩
 ·exact .inl ⟨d,a,b⟩
 ·exact .inr ⟨a,r,b,_,u,c⟩
theorem bJ(h:Ke Γ)(hp:P4 p)(hg:∀ t∈pts,In3 p t)(hn:Kv pts.length)(hi:i<pts.length)(ρ:Rho)(I:∃ a b s t,ρ=[si p,sh (AY pts),a,b,s,t]):(∃ d,h1_ p pts i=Aa d/\GM Γ [2,3] Gv (.tup [.int ((0+i:Ag):Af),(pts.map (Au Ab)).getD i .non]) ρ=.ret d Ad)\/(h1_ p pts i=Ae/\∃ ρ',GM Γ [2,3] Gv (.tup [.int ((0+i:Ag):Af),(pts.map (Au Ab)).getD i .non]) ρ=.next ρ'/\∃ a b s t,ρ'=[si p,sh (AY pts),a,b,s,t]):=by
 obtain⟨a,b,s,t,rfl⟩:=I;have e0:(pts.map (Au Ab)).getD i .non=Au Ab (at6 pts i):=by simp[at6,hi]
 have e:GM Γ [2,3] Gv (.tup [.int ((0+i:Ag):Af),(pts.map (Au Ab)).getD i .non]) [si p,sh (AY pts),a,b,s,t]=CD (By Γ 4 Ic) ((Bb (pts.length-(i+1))).map fun m=>D.int ((i+1+m:Ag):Af)) [si p,sh (AY pts),si i,sh (Au Ab (at6 pts i)),s,t]:=by
  have e':∀(x y:D),GM Γ [2,3] Gv (.tup [x,y]) [si p,sh (AY pts),a,b,s,t]=evSs Γ [si p,sh (AY pts),sh x,sh y,s,t] Gv:=fun _ _=>rfl
  rw[e0,Yv,e'];unfold Gv;rw[NK (Ui hn hi rfl rfl)]
 rw[e];rcases J5 (body:=By Γ 4 Ic) (fun ρ=>∃ s t,ρ=[si p,sh (AY pts),si i,sh (Au Ab (at6 pts i)),s,t]) (fun m=>D.int ((i+1+m:Ag):Af)) (fun m=>h2_ p pts i (i+1+m)) (Bb (pts.length-(i+1))) (fun m hm ρ I=>bH h hp hg hn hi (by have:=Bq.mp hm;omega) ρ I) [si p,sh (AY pts),si i,sh (Au Ab (at6 pts i)),s,t] ⟨s,t,rfl⟩ with ⟨d,a,b⟩|⟨a,r,b,u,v,c⟩
 ·exact .inl ⟨d,a,b⟩
 ·exact .inr ⟨a,r,b,_,_,u,v,c⟩
theorem fX(h:Ke Γ)(hp:P4 p)(hg:∀ t∈pts,In3 p t)(hn:Kv pts.length):KY.run Γ [.int p,AY pts]=.ok ((h0_ p pts).getD .non):=by
 have en:=XI (pts.map (Au Ab)) 0;rw[Bh]at en;have en':EO 0 (pts.map (Au Ab))=(Bb pts.length).map fun m=>D.tup [.int ((0+m:Ag):Af),(pts.map (Au Ab)).getD m .non]:=en
 have hE:Fb Γ [si p,sh (AY pts),Ae,Ae,Ae,Ae] (.enm (.var 1))=.ok ((Bb pts.length).map fun m=>D.tup [.int ((0+m:Ag):Af),(pts.map (Au Ab)).getD m .non]):=by
  show R.ok (EO 0 (pts.map (Au Ab)))=_;rw[en']
 rcases J5 (body:=GM Γ [2,3] Gv) (fun ρ=>∃ a b s t,ρ=[si p,sh (AY pts),a,b,s,t]) (fun m=>D.tup [.int ((0+m:Ag):Af),(pts.map (Au Ab)).getD m .non]) (h1_ p pts) (Bb pts.length) (fun m hm ρ I=>bJ h hp hg hn (Bq.mp hm) ρ I) [si p,sh (AY pts),Ae,Ae,Ae,Ae] ⟨_,_,_,_,rfl⟩ with ⟨d,a,b⟩|⟨a,r,b,u1,u2,u3,u4,c⟩
 ·have e:h0_ p pts=Aa d:=a;show (evSs Γ [si p,sh (AY pts),Ae,Ae,Ae,Ae] (.cons (.forT [2,3] (.enm (.var 1)) Gv) (.cons (.ret .non) .nil))).ans Ad=_;rw[Ml,UT,hE,UP,b,e];rfl
 ·have e:h0_ p pts=Ae:=a;subst c;show (evSs Γ [si p,sh (AY pts),Ae,Ae,Ae,Ae] (.cons (.forT [2,3] (.enm (.var 1)) Gv) (.cons (.ret .non) .nil))).ans Ad=_;rw[Ml,UT,hE,UP,b,e];rfl
theorem VQ{a:Ag}(hn:pts.length=6)(hj:j<pts.length)(h1:Dc ρ a=.ok (.int (j:Af))):Fb Γ ρ (.rng2 (.bin .Add (.var a) (.int 1)) (.int 6))=.ok ((Bb (pts.length-(j+1))).map fun m=>D.int ((j+1+m:Ag):Af)):=by
 have e1:evE Γ ρ (.bin .Add (.var a) (.int 1))=.ok (.int ((j:Af)+1)):=by
  show ((Dc ρ a).bind fun x=>R.bind (.ok (.int 1)) fun y=>C8 .Add x y)=_
  rw[h1];rfl
 have e3:∀ x y:E,(∀ r,top ρ x r=r)->(∀ r,top ρ y r=r)->∀ i j:Af,evE Γ ρ x=.ok (.int i)->evE Γ ρ y=.ok (.int j)->Fb Γ ρ (.rng2 x y)=CC i j:=fun x y tx ty i j hx hy=>by
  rw[Uc,P7,tx,ty,hx,hy];simp only[R.bind_ok,Mm]
 rw[e3 _ _ (fun _=>rfl) (fun _=>rfl) _ _ e1 (rfl:evE Γ ρ (.int 6)=.ok (.int 6)),hn]
 rw[hn]at hj;exact WT (n:=6) (show (6:Ag)<20000 by decide) hj
theorem lm6(h:Lq Γ)(hp:P4 p)(hg:∀ t∈pts,In3 p t){k:Ag}(hi:i<pts.length)(hj:j<pts.length)(hk:k<pts.length):Γ.F 165 [.int p,Au Ab (at6 pts i),Au Ab (at6 pts j),Au Ab (at6 pts k)]=.ok (.int (Aq (at6 pts i) (at6 pts j) (at6 pts k)%p)):=h p _ _ _ hp (in6 hg hi) (in6 hg hj) (in6 hg hk)
theorem bR(h:Lq Γ)(hp:P4 p)(hg:∀ t∈pts,In3 p t){k:Ag}(hi:i<pts.length)(hj:j<pts.length)(hk:k<pts.length)(ρ:Rho)(I:∃ s,ρ=[si p,sh (AY pts),si i,si j,s]):(∃ d,h3_ p pts i j k=Aa d/\By Γ 4 JY (.int (k:Af)) ρ=.ret d Ad)\/(h3_ p pts i j k=Ae/\∃ ρ',By Γ 4 JY (.int (k:Af)) ρ=.next ρ'/\∃ s,ρ'=[si p,sh (AY pts),si i,si j,s]):=by
 obtain⟨s,rfl⟩:=I;have e:=lm6 h hp hg hi hj hk;by_cases z:Aq (at6 pts i) (at6 pts j) (at6 pts k)%p=0
 ·rw[z]at e;exact .inl ⟨_,AA z,by simp[By,JY,Ig hi,Ig hj,Ig hk,e,DN]⟩
 ·exact .inr ⟨AH z,[si p,sh (AY pts),si i,si j,si k],by simp[By,JY,Ig hi,Ig hj,Ig hk,e,z],_,rfl⟩
theorem bS(h:Lq Γ)(hp:P4 p)(hg:∀ t∈pts,In3 p t)(hn:pts.length=6)(hi:i<pts.length)(hj:j<pts.length)(ρ:Rho)(I:∃ s t,ρ=[si p,sh (AY pts),si i,s,t]):(∃ d,h2_ p pts i j=Aa d/\By Γ 3 KR (.int (j:Af)) ρ=.ret d Ad)\/(h2_ p pts i j=Ae/\∃ ρ',By Γ 3 KR (.int (j:Af)) ρ=.next ρ'/\∃ s t,ρ'=[si p,sh (AY pts),si i,s,t]):=by
 obtain⟨s,t,rfl⟩:=I;have e:By Γ 3 KR (.int (j:Af)) [si p,sh (AY pts),si i,s,t]=CD (By Γ 4 JY) ((Bb (pts.length-(j+1))).map fun m=>D.int ((j+1+m:Ag):Af)) [si p,sh (AY pts),si i,si j,t]:=by
  exact NK (VQ hn hj rfl)
 rw[e];rcases J5 (body:=By Γ 4 JY) (fun ρ=>∃ s,ρ=[si p,sh (AY pts),si i,si j,s]) (fun m=>D.int ((j+1+m:Ag):Af)) (fun m=>h3_ p pts i j (j+1+m)) (Bb (pts.length-(j+1))) (fun m hm ρ I=>bR h hp hg hi hj (by have:=Bq.mp hm;omega) ρ I) [si p,sh (AY pts),si i,si j,t] ⟨t,rfl⟩ with ⟨d,a,b⟩|⟨a,r,b,u,c⟩
 ·exact .inl ⟨d,a,b⟩
 ·exact .inr ⟨a,r,b,_,u,c⟩
theorem bT(h:Lq Γ)(hp:P4 p)(hg:∀ t∈pts,In3 p t)(hn:pts.length=6)(hi:i<pts.length)(ρ:Rho)(I:∃ r s t,ρ=[si p,sh (AY pts),r,s,t]):(∃ d,h1_ p pts i=Aa d/\By Γ 2 JX (.int (0+(i:Af))) ρ=.ret d Ad)\/(h1_ p pts i=Ae/\∃ ρ',By Γ 2 JX (.int (0+(i:Af))) ρ=.next ρ'/\∃ r s t,ρ'=[si p,sh (AY pts),r,s,t]):=by
 obtain⟨r,s,t,rfl⟩:=I;rw[Et];have e:By Γ 2 JX (.int (i:Af)) [si p,sh (AY pts),r,s,t]=CD (By Γ 3 KR) ((Bb (pts.length-(i+1))).map fun m=>D.int ((i+1+m:Ag):Af)) [si p,sh (AY pts),si i,s,t]:=by
  exact NK (VQ hn hi rfl)
 rw[e];rcases J5 (body:=By Γ 3 KR) (fun ρ=>∃ s t,ρ=[si p,sh (AY pts),si i,s,t]) (fun m=>D.int ((i+1+m:Ag):Af)) (fun m=>h2_ p pts i (i+1+m)) (Bb (pts.length-(i+1))) (fun m hm ρ I=>bS h hp hg hn hi (by have:=Bq.mp hm;omega) ρ I) [si p,sh (AY pts),si i,s,t] ⟨s,t,rfl⟩ with ⟨d,a,b⟩|⟨a,r,b,u,v,c⟩
 ·exact .inl ⟨d,a,b⟩
 ·exact .inr ⟨a,r,b,_,u,v,c⟩
theorem iE(h:Lq Γ)(hp:P4 p)(hg:∀ t∈pts,In3 p t)(hn:pts.length=6):OY.run Γ [.int p,AY pts]=.ok ((h0_ p pts).getD .non):=by
 have r6:CC 0 6=.ok ((Bb pts.length).map fun(i:Ag)=>D.int (0+(i:Af))):=by rw[hn];rfl
 rcases J5 (body:=By Γ 2 JX) (fun ρ=>∃ r s t,ρ=[si p,sh (AY pts),r,s,t]) (fun(m:Ag)=>D.int (0+(m:Af))) (h1_ p pts) (Bb pts.length) (fun m hm ρ I=>bT h hp hg hn (Bq.mp hm) ρ I) [si p,sh (AY pts),Ae,Ae,Ae] ⟨_,_,_,rfl⟩ with ⟨d,a,b⟩|⟨a,r,b,u1,u2,u3,c⟩
 ·have e:h0_ p pts=Aa d:=a;show (evSs Γ [si p,sh (AY pts),Ae,Ae,Ae] (.cons (.fors 2 (.rng (.int 6)) JX) (.cons (.ret .non) .nil))).ans Ad=_;rw[Ml,P6,show Fb Γ [si p,sh (AY pts),Ae,Ae,Ae] (.rng (.int 6))=_ from r6,Qz,b,e]
  rfl
 ·have e:h0_ p pts=Ae:=a;subst c;show (evSs Γ [si p,sh (AY pts),Ae,Ae,Ae] (.cons (.fors 2 (.rng (.int 6)) JX) (.cons (.ret .non) .nil))).ans Ad=_;rw[Ml,P6,show Fb Γ [si p,sh (AY pts),Ae,Ae,Ae] (.rng (.int 6))=_ from r6,Qz,b,e]
  rfl
end
section
variable{Γ:Gam}{p:Af}{pts:Ac R3}
theorem VB(h:h0_ p pts=Aa d):∃ x y u,x∈pts/\y∈pts/\u∈pts/\d=.tup [Au Ab x,Au Ab y,Au Ab u]:=by
 have mem:∀{i:Ag},i<pts.length->at6 pts i∈pts:=fun {i} hi=>by
  have e:at6 pts i=pts[i]:=by simp[at6,hi]
  rw[e];exact D3 hi
 obtain⟨i,hi,h1⟩:=DZ h;obtain⟨j,hj,h2⟩:=DZ h1;obtain⟨k,hk,h3⟩:=DZ h2;have hi:=Bq.mp hi;have hj:=Bq.mp hj;have hk:=Bq.mp hk;unfold h3_ at h3;split at h3
 ·cases h3;exact⟨_,_,_,mem hi,mem (by omega),mem (by omega),rfl⟩
 ·cases h3
theorem IL(h:h0_ p pts=Ae){k:Ag}(h1:i<j)(h2:j<k)(h3:k<pts.length):Aq (at6 pts i) (at6 pts j) (at6 pts k)%p≠0:=by
 have a:=EU.mp h i (Bq.mpr (by omega))
 have b:=EU.mp a (j-(i+1)) (Bq.mpr (by omega))
 rw[show i+1+(j-(i+1))=j by omega]at b
 have c:=EU.mp b (k-(j+1)) (Bq.mpr (by omega))
 rw[show j+1+(k-(j+1))=k by omega]at c
 unfold h3_ at c;split at c
 ·cases c
 ·rename_i z;exact z
theorem Nb(x y u:R3):Aq y x u=-Aq x y u:=by
 unfold Aq det;grind
theorem OC(x y u:R3):Aq x u y=-Aq x y u:=by
 unfold Aq det;grind
theorem Ro(h:x%p≠0):(-x)%p≠0:=fun z=>h (XV (XU.mp (Int.dvd_of_emod_eq_zero z)))
theorem dxx(x u:R3):Aq x x u=0/\Aq x u x=0/\Aq u x x=0:=by
 unfold Aq det;refine⟨?_,?_,?_⟩<;>grind
theorem zS(hn:pts.length=6)(nf:∀ x∈pts,NF p x)(h:h0_ p pts=Ae):N3 p pts:=by
 have idx:∀ x∈pts,∃ i,i<pts.length/\x=at6 pts i:=fun x hx=>by
  obtain⟨i,hi,rfl⟩:=E2 hx;exact⟨i,hi,by simp[at6,hi]⟩
 have ne:∀ i j,i<j->j<pts.length->at6 pts i≠at6 pts j:=fun i j hij hj e=>by
  by_cases c1:j<5
  ·exact IL h hij (D5 j) (by omega) (by rw[e,(dxx _ _).1,Bi])
  ·by_cases c2:i+1<j
   ·exact IL h (D5 i) c2 hj (by rw[e,(dxx _ _).2.1,Bi])
   ·exact IL h (show 0<i by omega) hij hj (by rw[e,(dxx _ _).2.2,Bi])
 refine⟨?_,nf,fun x y u hx hy hu nxy nxu nyu=>?_⟩
 ·rw[List.nodup_iff_pairwise_ne,List.pairwise_iff_getElem];intro i j hi hj hij;have:=ne i j hij hj;simpa [at6,hi,hj] using this
 ·obtain⟨i,hi,rfl⟩:=idx x hx;obtain⟨j,hj,rfl⟩:=idx y hy;obtain⟨k,hk,rfl⟩:=idx u hu;have a1:i≠j:=fun e=>nxy (by rw[e])
  have a2:i≠k:=fun e=>nxu (by rw[e])
  have a3:j≠k:=fun e=>nyu (by rw[e])
  rcases GW a1 with b1|b1<;>rcases GW a2 with b2|b2<;>rcases GW a3 with b3|b3
  ·exact IL h b1 b3 hk
  ·rw[OC];exact Ro (IL h b2 b3 hj)
  ·omega
  ·rw[OC,Nb,JO];exact IL h b2 b1 hj
  ·rw[Nb];exact Ro (IL h b1 b2 hk)
  ·omega
  ·rw[Nb,OC,JO];exact IL h b3 b2 hi
  ·rw[Nb,OC,Nb,JO];exact Ro (IL h b3 b1 hi)
noncomputable def onl(d:D):Ex:=⟨118,[(AN "points", d)]⟩
theorem vQ{x u:R3}(hp:P4 p)(hx:In3 p x)(hy:In3 p y)(hu:In3 p u)(e:d=.tup [Au Ab x,Au Ab y,Au Ab u]):mkX 118 "points" [d]=.ok (onl d):=by
 have ph:=hp.hi;have one:∀{a:R3},In3 p a->xfD 1 (Au Ab a)=Ab:=fun {a} h=>by
  obtain⟨⟨x0,x1⟩,⟨y0,y1⟩,z0,z1⟩:=h;show (CZ 3 8&&([D.int a.1,.int a.2.1,.int a.2.2].all (xfD 0)))=Ab;simp[xfD];omega
 have e2:xfD 2 d=Ab:=by
  rw[e];show (CZ 3 8&&([Au Ab x,Au Ab y,Au Ab u].all (xfD 1)))=Ab;simp[one hx,one hy,one hu]
 show (if (xfD 1 d||xfD 2 d)=Ab then R.ok (onl d) else .bad)=_
 rw[e2,Ht];rfl
noncomputable def Lj:Df:=⟨3,Ad,(.cons (.asg 2 Ad (.call 65 (.cons (.var 0) (.cons (.var 1) .nil)))) (.cons (.ife (.cmp .IsNot (.var 2) .non) (.cons (.rais 118 (.cons (.var 2) .nil)) .nil) .nil) .nil))⟩
theorem kP(e:Γ.F 65 [.int p,PP]=.ok .non):Lj.run Γ [.int p,PP]=.ok .non:=by
 simp[Lj,Df.run,Bv,e]
theorem fY{ds:Ac D}(e:Γ.F 65 [.int p,PP]=.ok (.tup ds))(hx:Γ.xn 118 [.tup ds]=.ok (onl (.tup ds))):Lj.run Γ [.int p,PP]=.exn (onl (.tup ds)):=by
 simp[Lj,Df.run,Bv,e,hx]
theorem iJ{x:Ex}(ln:biD .len [PP]=.ok (.int 6))(e:Γ.F 109 [.int p,PP]=.exn x):K3.run Γ [.int p,PP]=.exn x:=by
 simp[K3,Df.run,Bv,ln,e]
theorem iG{x:Ex}(e:Γ.F 210 [.int p,PP]=.exn x):Ia.run Γ [.int p,PP]=.exn x:=by
 simp[Ia,Df.run,Bv,e]
noncomputable def KU:Df:=⟨6,Ad,(.cons (.asg 3 Ad .non) (.cons (.asg 4 Ad .non) (.cons (.tryx (.cons (.ife (.var 2) (.cons (.asg 3 Ad (.call 211 (.cons (.var 0) (.cons (.var 1) .nil)))) .nil) (.cons (.asg 3 Ad (.call 210 (.cons (.var 0) (.cons (.var 1) .nil)))) .nil)) .nil) 0 5 (.cons (.asg 4 Ad (.str (AN "odd"))) (.cons (.ife (.and (.cons (.isi (.var 5) [.cls 118]) (.cons (.isi (.var 5) [.verr]) .nil))) (.cons (.asg 4 Ad (.fld (.var 5) (AN "points"))) .nil) .nil) .nil))) (.cons (.ret (.tup (.cons (.var 3) (.cons (.var 4) .nil)))) .nil))))⟩
theorem sN(w:Ak)(e:Γ.F 210 [.int p,PP]=.exn (onl d))(e':Γ.F 211 [.int p,PP]=.exn (onl d))(hu:Γ.up 118=[118,0]):KU.run Γ [.int p,PP,.bl w]=.ok (.tup [.non,d]):=by
 unfold onl at e e';cases w<;>simp[KU,Df.run,Bv,e,e',hu,kiD,Ed,M2]
theorem NW{M T:D}(w:Ak)(e:Γ.F 210 [.int p,PP]=.ok M)(e':Γ.F 211 [.int p,PP]=.ok T):KU.run Γ [.int p,PP,.bl w]=.ok (.tup [if w=Ab then T else M,.non]):=by
 cases w<;>simp[KU,Df.run,Bv,e,e']
end
noncomputable def Mk:E:=(.call 157 (.cons (.var 0) (.cons (.bin .FloorDiv (.call 155 (.cons (.var 1) (.cons (.bin .Add (.int 12) (.var 8)) .nil))) (.int 5)) .nil)))
noncomputable def Nh:E:=(.cmp .Eq (.call 162 (.cons (.var 0) (.cons (.var 4) (.cons (.var 9) .nil)))) (.int 0))
noncomputable def Pb:E:=(.var 9)
noncomputable def KQ:Ss:=(.cons (.apop 6 5 (.bin .Mod (.bin .FloorDiv (.call 155 (.cons (.var 1) (.cons (.bin .Add (.int 18) (.var 7)) .nil))) (.int 3)) (.bi .len (.cons (.var 5) .nil)))) .nil)
noncomputable def IJ:Df:=⟨10,Ad,(.cons (.asg 2 Ad (.comp Mk 8 (.rng (.int 6)) Cm)) (.cons (.asg 3 Ad (.bin .FloorDiv (.call 155 (.cons (.var 1) (.cons (.int 10) .nil))) (.int 3))) (.cons (.ife (.and (.cons (.cmp .Gt (.var 0) (.int 3)) (.cons (.cmp .Gt (.bin .Mod (.var 3) (.int 4)) (.int 0)) .nil))) (.cons (.asg 4 Ad (.call 163 (.cons (.var 0) (.cons (.call 159 (.cons (.var 0) (.cons (.var 1) (.cons (.int 1) .nil)))) (.cons (.int 0) .nil))))) (.cons (.asg 5 Ab (.comp Pb 9 (.e (.call 164 (.cons (.var 0) .nil))) Nh)) (.cons (.asg 6 Ab (.lst .nil)) (.cons (.fors 7 (.rng (.int 6)) KQ) (.cons (.ife (.cmp .Eq (.bin .Mod (.var 3) (.int 4)) (.int 1)) (.cons (.put 6 (.bin .Mod (.bin .FloorDiv (.var 3) (.int 4)) (.int 6)) (.idx (.var 2) (.int 0))) .nil) .nil) (.cons (.rel 6) (.cons (.asg 2 Ad (.var 6)) .nil))))))) .nil) (.cons (.ret (.var 2)) .nil))))⟩
section
variable{Γ:Gam}{ns:Ac Af}{p:Af}{C:C6}
theorem t64(hm:Kh Γ 155 ns){s1 s4:Sl}{r:Rho}{f l:Ac R3}{s5:Sl}(ha:0<=18+k)(hl:0<l.length)(h1:l.length<=1000)(h2:f.length<=1000):∃ f' l',f'.length=f.length+1/\l'.length+1=l.length/\(f'++l').Perm (f++l)/\By Γ 7 KQ (.int k) (s1::sh (scr ns)::s2::s3::s4::ow l::ow f::s5::r)=.next (s1::sh (scr ns)::s2::s3::s4::ow l'::ow f'::si k::r):=by
 obtain⟨m,m0,e⟩:=hm (18+k) ha;have hL:(0:Af)<l.length:=by omega
 have q0:=Bo (m / 3) (b:=(l.length:Af)) (by omega)
 have q1:=Bj (m / 3) hL;obtain⟨i,hi⟩:∃ i:Ag,m / 3%(l.length:Af)=(i:Af):=⟨(m / 3%(l.length:Af)).toNat,by omega⟩
 have il:i<l.length:=by omega
 have sz:∀ n:Ag,n<=1001->Dq n=Ab:=fun n hn=>by
  unfold Dq;exact Nat.ble_eq.mpr (by omega)
 have pa:=fun ρ:Rho=>rR ρ 6 5 f l i l[i] (Bm il) rfl (sz _ (by omega)) (sz _ (by omega))
 refine⟨f++[l[i]],l.eraseIdx i,by simp,by rw[List.length_eraseIdx_of_lt il];omega,?_,?_⟩
 ·rw[List.append_assoc];exact List.Perm.append_left _ (TB l i il)
 ·have ln:biD .len [AY l]=.ok (.int l.length):=by
   show R.ok (D.int ((l.map (Au Ab)).length:Af))=_;rw[Bh]
  have o1:∀(a b c d e g:Sl)(r:Rho),Cr (a::b::c::d::e::ow l::ow f::g::r) 6=.ok (f.map (Au Ab)):=fun _ _ _ _ _ _ _=>rfl
  have o2:∀(a b c d e g:Sl)(r:Rho),Cr (a::b::c::d::e::ow l::ow f::g::r) 5=.ok (l.map (Au Ab)):=fun _ _ _ _ _ _ _=>rfl
  have t4:∀(a b c d e g:Sl)(r:Rho),Dc (a::b::c::d::e::ow l::ow f::g::r) 5=.ok (AY l):=fun _ _ _ _ _ _ _=>rfl
  generalize hT:ow (f++[l[i]])=F' at *;generalize hU:ow (l.eraseIdx i)=L' at *;generalize ow l=OL at *;generalize ow f=OF at *;generalize AY l=RL at *;generalize f.map (Au Ab)=FM at *;generalize l.map (Au Ab)=LM at *;generalize hn:(l.length:Af)=N at *;simp[By,KQ,jN,o1,o2,t4,ln,e,hi,hL,pa]
theorem l64(hm:Kh Γ 155 ns){s1 s2 s3 s4:Sl}{r:Rho}:∀(n:Ag)(k:Af)(f l:Ac R3)(s5:Sl),0<=k->n<=l.length->f.length+l.length<=1000->∃ f' l' s5',f'.length=f.length+n/\(f'++l').Perm (f++l)/\CD (By Γ 7 KQ) (BY k n) (s1::sh (scr ns)::s2::s3::s4::ow l::ow f::s5::r)=.next (s1::sh (scr ns)::s2::s3::s4::ow l'::ow f'::s5'::r)
 |0,k,f,l,s5,_,_,_=>⟨f,l,s5,rfl,X2 _,rfl⟩
 |n+1,k,f,l,s5,hk,hl,hz=>by
  obtain⟨f1,l1,a1,a2,a3,a4⟩:=t64 hm (k:=k) (s1:=s1) (s2:=s2) (s3:=s3) (s4:=s4) (r:=r) (f:=f) (l:=l) (s5:=s5) (by omega) (by omega) (by omega) (by omega)
  obtain⟨f2,l2,s5',b1,b2,b3⟩:=l64 hm (s1:=s1) (s2:=s2) (s3:=s3) (s4:=s4) (r:=r) n (k+1) f1 l1 (si k) (by omega) (by omega) (by omega)
  refine⟨f2,l2,s5',by omega,b2.trans a3,?_⟩
  rw[iB];show (By Γ 7 KQ (.int k) _).turn _=_;rw[a4];exact b3
def aF(Γ:Gam):Prop:=∀(p n:Af),P4 p->∃ x,NF p x/\Γ.F 157 [.int p,.int n]=.ok (Au Ab x)
theorem xR(Γ:Gam)(p n:Af)(hp:P4 p):∃ x,NF p x/\IH.run Γ [.int p,.int n]=.ok (Au Ab x):=by
 have pp:DS p p=Ab:=IK (by have:=hp.lo;omega) (by have:=hp.hi;omega)
 have p0:=hp.pos;have ph:=hp.hi;have N0:0<p*p+p+1:=by have:=HY p0 p0;omega
 have h0:=Bo n (Int.ne_of_gt N0);have h1:=Bj n N0;have pb:p<1073741824:=by omega
 refine⟨ptI p (n%(p*p+p+1)),Xc hp h0 h1,?_⟩;generalize hr:n%(p*p+p+1)=r at *;unfold ptI;by_cases z0:r=0
 ·rw[AA z0];simp[IH,Df.run,Bv,pp,N0,hr,z0];rfl
 ·rw[AH z0];by_cases z1:r<=p
  ·rw[AA z1];simp[IH,Df.run,Bv,pp,N0,hr,z0,z1];rfl
  ·rw[AH z1];simp[IH,Df.run,Bv,pp,N0,hr,z0,z1,p0,pb];rfl
theorem Ug{g:D->R Ak}{f:D->R D}:∀ L:Ac D,(∀ x∈L,g x=.ok Ab/\∃ y,NF p y/\f x=.ok (Au Ab y))->∃ ys:Ac R3,ys.length=L.length/\(∀ y∈ys,NF p y)/\BD g f L=.ok (ys.map (Au Ab))
 |[],_=>⟨[],rfl,(fun _ z=>(nomatch z)),rfl⟩
 |x::L,h=>by
  obtain⟨h1,y,ny,h2⟩:=h x AB;obtain⟨ys,a,b,c⟩:=Ug L fun z hz=>h z (Ay _ hz)
  refine⟨y::ys,by simp[a],fun z hz=>?_,?_⟩
  ·rcases Aw.mp hz with rfl|hz
   ·exact ny
   ·exact b z hz
  ·show (g x).bind _=_;rw[h1,R.bind_ok,AA rfl,h2,R.bind_ok,c];rfl
structure H64s (Γ:Gam) (ns:Ac Af):Prop where
 mi:Kh Γ 155 ns
 pt:aF Γ
 tb:aD Γ 159 ns
 cv:aI Γ
 al:XH Γ
 lv:Wa Γ
section
variable{S RR cC AL X0:D}{as lm P0 L6:Ac D}{OL OL' s7:Sl}{m:Af}{j:Ag}
theorem iA(cp0:BD (cG Γ [si p,sh S,Ae,Ae,Ae,Ae,Ae,Ae,Ae,Ae] 8 Cm) (cF Γ [si p,sh S,Ae,Ae,Ae,Ae,Ae,Ae,Ae,Ae] 8 Mk) (BY 0 6)=.ok P0)(em:Γ.F 155 [S,.int 10]=.ok (.int m))(c:¬ (3<p/\0<m / 3%4)):IJ.run Γ [.int p,S]=.ok (.lst P0):=by
 have rg:CC 0 6=.ok (BY 0 6):=by rfl
 generalize BY 0 6=RL at *;by_cases c1:3<p
 ·have c2:¬ 0<m / 3%4:=fun z=>c ⟨c1,z⟩
  simp[IJ,Df.run,Bv,rg,cp0,em,c1,c2,DN]
 ·simp[IJ,Df.run,Bv,rg,cp0,em,c1,DN]
theorem hZ(cp0:BD (cG Γ [si p,sh S,Ae,Ae,Ae,Ae,Ae,Ae,Ae,Ae] 8 Cm) (cF Γ [si p,sh S,Ae,Ae,Ae,Ae,Ae,Ae,Ae,Ae] 8 Mk) (BY 0 6)=.ok P0)(em:Γ.F 155 [S,.int 10]=.ok (.int m))(c1:3<p)(c2:0<m / 3%4)(tb:Γ.F 159 [.int p,S,.int 1]=.ok RR)(cv:Γ.F 163 [.int p,RR,.int 0]=.ok cC)(al:Γ.F 164 [.int p]=.ok AL)(sq:CS AL=.ok as)(cp:BD (cG Γ [si p,sh S,sh (.lst P0),si (m / 3),sh cC,Ae,Ae,Ae,Ae,Ae] 9 Nh) (cF Γ [si p,sh S,sh (.lst P0),si (m / 3),sh cC,Ae,Ae,Ae,Ae,Ae] 9 Pb) as=.ok lm)(eO:(Aa (.lst lm,Ab):Sl)=OL)(lp:CD (By Γ 7 KQ) (BY 0 6) [si p,sh S,sh (.lst P0),si (m / 3),sh cC,OL,Aa (.lst [],Ab),Ae,Ae,Ae]=.next [si p,sh S,sh (.lst P0),si (m / 3),sh cC,OL',Aa (.lst L6,Ab),s7,Ae,Ae])(x0:Dj P0 0=.ok X0)(pl:plD L6.length (m / 3 / 4%6)=Aa j):IJ.run Γ [.int p,S]=.ok (.lst (if m /3%4=1 then L6.set j X0 else L6)):=by
 have rg:CC 0 6=.ok (BY 0 6):=by rfl
 generalize BY 0 6=RL at *;have o6:∀(a b c d e f g h i:Sl),Cr [a,b,c,d,e,f,Aa (.lst L6,Ab),g,h,i] 6=.ok L6:=fun _ _ _ _ _ _ _ _ _=>rfl
 by_cases c3:m / 3%4=1
 ·rw[AA c3];simp[IJ,Df.run,Bv,rg,cp0,em,c1,c2,c3,tb,cv,al,sq,cp,eO,lp,x0,pl,QB,VE,o6,DN]
 ·rw[AH c3];simp[IJ,Df.run,Bv,rg,cp0,em,c1,c2,c3,tb,cv,al,sq,cp,eO,lp,VE,DN]
end
theorem cw{x:D}{l:Ac D}:Dj (x::l) 0=.ok x:=by
 have h:plD (x::l).length 0=Aa 0:=by
  unfold plD;rw[AA (by decide),AA (by rw[Bk];omega)]
  rfl
 unfold Dj;rw[h];rfl
def aE(Γ:Gam)(ns:Ac Af):Prop:=∀ p:Af,P4 p->∃ pts:Ac R3,pts.length=6/\(∀ x∈pts,NF p x)/\Γ.F 214 [.int p,scr ns]=.ok (AY pts)
theorem xQ(h:H64s Γ ns)(p:Af)(hp:P4 p):∃ pts:Ac R3,pts.length=6/\(∀ x∈pts,NF p x)/\IJ.run Γ [.int p,scr ns]=.ok (AY pts):=by
 obtain⟨P0,l0,n0,cp0⟩:=Ug (p:=p) (g:=cG Γ [si p,sh (scr ns),Ae,Ae,Ae,Ae,Ae,Ae,Ae,Ae] 8 Cm) (f:=cF Γ [si p,sh (scr ns),Ae,Ae,Ae,Ae,Ae,Ae,Ae,Ae] 8 Mk) (BY 0 6) fun x hx=>by
  obtain⟨k,_,rfl⟩:=PV hx;refine⟨rfl,?_⟩;obtain⟨m,m0,e⟩:=h.mi (12+(0+(k:Af))) (by omega)
  obtain⟨y,ny,ey⟩:=h.pt p (m / 5) hp;refine⟨y,ny,?_⟩;generalize 0+(k:Af)=K at *;generalize Au Ab y=Y at *;generalize scr ns=S at *;simp[cF,Mk,e,ey]
 have l6:P0.length=6:=l0;obtain⟨m,_,em⟩:=h.mi 10 (by decide)
 by_cases c:3<p/\0<m / 3%4
 ·obtain⟨x,y,z,g,tb⟩:=h.tb p hp;obtain⟨C,iC,lC,pC,cv⟩:=h.cv p x y z 0 g (.inl rfl);have al:=h.al p hp;have sq:CS (AY (Gy p))=.ok ((Gy p).map (Au Ab)):=rfl;have cp:BD (cG Γ [si p,sh (scr ns),sh (.lst (P0.map (Au Ab))),si (m / 3),sh (Cj C),Ae,Ae,Ae,Ae,Ae] 9 Nh) (cF Γ [si p,sh (scr ns),sh (.lst (P0.map (Au Ab))),si (m / 3),sh (Cj C),Ae,Ae,Ae,Ae,Ae] 9 Pb) ((Gy p).map (Au Ab))=.ok ((LQ p C).map (Au Ab)):=by
   refine TL (Gy p) fun u hu=>⟨?_,rfl⟩
   have e:=h.lv p C u hp iC ((HF hp).mp hu).1;generalize vI C u%p=v at *;generalize Cj C=cC at *;generalize scr ns=S at *;generalize Au Ab u=xx at *;generalize D.lst (P0.map (Au Ab))=PP at *;simp[cG,Nh,e];rw[DH];simp
  have len:6<=(LQ p C).length/\(LQ p C).length<=1000:=by
   rw[nS (.inl rfl) hp g.nz pC];have c1:=c.1;rcases hp with rfl|rfl|rfl|rfl
   ·omega
   all_goals decide
  obtain⟨f,l,s7,f6,pm,lp⟩:=l64 h.mi (s1:=si p) (s2:=sh (.lst (P0.map (Au Ab)))) (s3:=si (m / 3)) (s4:=sh (Cj C)) (r:=[Ae,Ae]) 6 0 [] (LQ p C) Ae (by decide) len.1 (by simpa using len.2)
  rw[List.nil_append]at pm;have nf:∀ u∈f,NF p u:=fun u hu=>(HF hp).mp (BQ.mp (pm.mem_iff.mp (DP l hu))).1
  obtain⟨x0,P1,rfl⟩:∃ a b,P0=a::b:=by
   cases P0 with
   |nil=>cases l6
   |cons a b=>exact⟨a,b,rfl⟩
  have f6':(f.map (Au Ab)).length=6:=by rw[Bh];exact f6.trans (by simp)
  have q0:=Bo (m / 3 / 4) (b:=6) (by decide)
  have q1:=Bj (m / 3 / 4) (b:=6) (by decide)
  have pl:plD (f.map (Au Ab)).length (m / 3 / 4%6)=Aa (m / 3 / 4%6).toNat:=by
   unfold plD;rw[AA q0,f6',AA (by exact q1)]
  have r:=hZ cp0 em c.1 c.2 tb cv al sq cp rfl lp (cw (x:=Au Ab x0) (l:=P1.map (Au Ab))) pl;by_cases c3:m / 3%4=1
  ·rw[AA c3]at r;refine⟨f.set (m / 3 / 4%6).toNat x0,by rw[A6];simpa using f6',fun u hu=>?_,?_⟩
   ·rcases Yl hu with q|q
    ·exact nf u q
    ·rw[q];exact n0 x0 AB
   ·rw[r];show R.ok (D.lst ((f.map (Au Ab)).set _ (Au Ab x0)))=R.ok (D.lst ((f.set _ x0).map (Au Ab)));rw[List.map_set]
  ·rw[AH c3]at r;exact⟨f,by simpa using f6',nf,r⟩
 ·exact⟨P0,l6,n0,iA cp0 em c⟩
end
noncomputable def Pd:E:=(.call 161 (.cons (.idx (.var 2) (.var 10)) (.cons (.idx (.var 2) (.bin .Mod (.bin .Add (.var 10) (.int 1)) (.int 6))) .nil)))
noncomputable def Pc:E:=(.call 158 (.cons (.var 1) (.cons (.call 161 (.cons (.idx (.var 8) (.var 11)) (.cons (.idx (.var 8) (.bin .Add (.var 11) (.int 3))) .nil))) .nil)))
noncomputable def J4:Df:=⟨12,Ad,(.cons (.asg 1 Ad (.call 156 (.cons (.var 0) .nil))) (.cons (.asg 2 Ad (.call 214 (.cons (.var 1) (.cons (.var 0) .nil)))) (.cons (.asg 3 Ad (.call 215 (.cons (.var 1) (.cons (.var 2) .nil)))) (.cons (.asgT [4,5] (.call 216 (.cons (.var 1) (.cons (.bi .list (.cons (.var 2) .nil)) (.cons (.bl Ad) .nil))))) (.cons (.asgT [6,7] (.call 216 (.cons (.var 1) (.cons (.bi .list (.cons (.var 2) .nil)) (.cons (.bl Ab) .nil))))) (.cons (.ife (.cmp .IsNot (.var 3) .non) (.cons (.ret (.and (.cons (.cmp .Is (.var 4) .non) (.cons (.cmp .Is (.var 6) .non) (.cons (.cmp .Eq (.var 5) (.var 3)) (.cons (.cmp .Eq (.var 7) (.var 3)) .nil)))))) .nil) .nil) (.cons (.ife (.or (.cons (.cmp .IsNot (.var 5) .non) (.cons (.cmp .IsNot (.var 7) .non) (.cons (.no (.isi (.var 4) [.tuple])) (.cons (.no (.isi (.var 6) [.tuple])) .nil))))) (.cons (.ret (.bl Ad)) .nil) .nil) (.cons (.asg 8 Ad (.comp Pd 10 (.rng (.int 6)) Cm)) (.cons (.asg 9 Ad (.bi .tuple (.cons (.comp Pc 11 (.rng (.int 3)) Cm) .nil))) (.cons (.ife (.or (.cons (.cmp .NotEq (.var 4) (.var 9)) (.cons (.cmp .NotEq (.bi .lset (.cons (.var 9) .nil)) (.int 3)) .nil))) (.cons (.ret (.bl Ad)) .nil) .nil) (.cons (.ret (.and (.cons (.cmp .In (.idx (.var 6) (.int 0)) (.tup (.cons (.str (AN "one")) (.cons (.str (AN "apart")) .nil)))) (.cons (.cmp .Eq (.idx (.var 6) (.bin .Sub (.un .USub (.int 1)) (.bi .int (.cons (.cmp .Eq (.idx (.var 6) (.int 0)) (.str (AN "one"))) .nil)))) (.var 9)) .nil)))) .nil)))))))))))⟩
section
variable{Γ:Gam}{ns:Ac Af}{p:Af}
theorem cz{S PP:D}{ds:Ac D}(e1:Γ.F 156 [S]=.ok (.int p))(e2:Γ.F 214 [.int p,S]=.ok PP)(e3:Γ.F 215 [.int p,PP]=.ok (.tup ds))(li:biD .list [PP]=.ok PP)(e4:∀ w,Γ.F 216 [.int p,PP,.bl w]=.ok (.tup [.non,.tup ds]))(fd:flD 5 (.tup ds)=Ab)(qd:eqD (.tup ds) (.tup ds)=Ab):J4.run Γ [S]=.ok (.bl Ab):=by
 generalize hd:D.tup ds=d at *;have i1:BX .IsNot d .non=.ok (.bl Ab):=by rw[<-hd];rfl
 simp[J4,Df.run,Bv,e1,e2,e3,li,e4,fd,qd,i1]
end
section
variable{Γ:Gam}{ns:Ac Af}{p:Af}{a b c d e f x y u:R3}
theorem gL{g:α->Af}:∀{l:Ac α},HM (l.map g)=Ab->∀ x∈l,∀ y∈l,g x=g y->x=y:=by
 intro l
 induction l with
 |nil=>intro _ x hx;cases hx
 |cons a r ih=>
  intro h x hx y hy e;obtain⟨h1,h2⟩:=(Aj _ _).mp (show (!(r.map g).contains (g a)&&HM (r.map g))=Ab from h)
  have na:∀ z∈r,g z≠g a:=fun z hz q=>by
   have:(r.map g).contains (g a)=Ab:=List.contains_iff_mem.mpr (q ▸ List.mem_map_of_mem hz);rw[this]at h1;cases h1
  rcases Aw.mp hx with hx'|hx'<;>rcases Aw.mp hy with hy'|hy'
  ·exact hx'.trans hy'.symm
  ·exact absurd (hx' ▸ e).symm (na y hy')
  ·exact absurd (hy' ▸ e) (na x hx')
  ·exact ih h2 x hx' y hy' e
noncomputable def hsR(x:R3):Af:=M5 [x.1,x.2.1,x.2.2]
theorem uO(hp:P4 p):HM ((Gy p).map hsR)=Ab:=by
 rcases hp with rfl|rfl|rfl|rfl<;>decide +kernel
theorem RA(hp:P4 p)(hx:NF p x)(hy:NF p y)(ne:x≠y):hsR x≠hsR y:=fun z=>ne (gL (uO hp) x ((HF hp).mpr hx) y ((HF hp).mpr hy) z)
theorem uD(hp:P4 p)(hx:NF p x)(hy:NF p y)(hu:NF p u)(n1:x≠y)(n2:x≠u)(n3:y≠u):biD .lset [.tup [Au Ab x,Au Ab y,Au Ab u]]=.ok (.int 3):=by
 have h1:=RA hp hx hy n1;have h2:=RA hp hx hu n2;have h3:=RA hp hy hu n3;have k:HM [hsR x,hsR y,hsR u]=Ab:=by
  simp[HM,h1,h2,h3]
 show (if (Ab&&HM [hsR x,hsR y,hsR u])=Ab then R.ok (D.int 3) else R.bad)=_
 rw[k];rfl
theorem cg0(h:v%p=0):Cg p v 0:=(show v%p=0%p from h.trans (Bi p).symm)
theorem vN(hp:P4 p)(h1:Aq a d e%p≠0)(h2:Aq a d b%p≠0):mtI p d e a b=mtI p a b d e:=by
 obtain⟨n,q⟩:=MH hp (IV hp h1 h2);obtain⟨k,kz,kc⟩:=q;have cs:crs (crs d e) (crs a b)=BW (-1) (crs (crs a b) (crs d e)):=by
  unfold BW crs;simp only[G7];refine⟨?_,?_,?_⟩<;>grind
 have q':Pr p (nrm p (crs (crs a b) (crs d e))) (crs (crs d e) (crs a b)):=by
  refine⟨-1*k,C7 hp hp.m1 kz,?_⟩;rw[cs];have:BW (-1*k) (BW (-1) (crs (crs a b) (crs d e)))=BW k (crs (crs a b) (crs d e)):=by
   unfold BW;simp only[G7];refine⟨?_,?_,?_⟩<;>grind
  rw[this];exact kc
 have nz:¬ CgR p (crs (crs d e) (crs a b)) (0,0,0):=by
  rw[cs];intro z;refine IV hp h1 h2 ?_;obtain⟨z0,z1,z2⟩:=z;have g:∀{v:Af},Cg p (-1*v) 0->Cg p v 0:=fun {v} hv=>by
   have:=z0' hv;exact cg0 (XV (XU.mp (by simpa using Int.dvd_of_emod_eq_zero this)))
  exact⟨g z0,g z1,g z2⟩
 exact(NS hp nz n q').symm
theorem vK(hp:P4 p)(h:N3 p [a,b,c,d,e,f]):mtI p a b d e≠mtI p b c e f/\mtI p a b d e≠mtI p c d f a/\mtI p b c e f≠mtI p c d f a:=by
 have r1:[b,c,d,e,f,a].Perm [a,b,c,d,e,f]:=Ym (l₁:=[b,c,d,e,f]) (l₂:=[a]);have r2:[c,d,e,f,a,b].Perm [a,b,c,d,e,f]:=Ym (l₁:=[c,d,e,f]) (l₂:=[a,b]);have s0:=Six.of h;have q2:=Oh hp (Six.of (h.perm r2));refine⟨Oh hp s0,fun z=>q2 ?_,Oh hp (Six.of (h.perm r1))⟩
 rw[vN hp s0.m0.1 s0.m0.2];exact z.symm
section
variable{S PP A B C' D' E F L0 L1 L2 L3 L4 L5 U V W X Y Z T cC J:D}
theorem d5(e1:Γ.F 156 [S]=.ok (.int p))(e2:Γ.F 214 [.int p,S]=.ok PP)(e3:Γ.F 215 [.int p,PP]=.ok .non)(li:biD .list [PP]=.ok PP)(e4:Γ.F 216 [.int p,PP,.bl Ad]=.ok (.tup [.tup [X,Y,Z],.non]))(e5:Γ.F 216 [.int p,PP,.bl Ab]=.ok (.tup [T,.non]))(ix:Bx PP (.int 0)=.ok A/\Bx PP (.int 1)=.ok B/\Bx PP (.int 2)=.ok C'/\Bx PP (.int 3)=.ok D'/\Bx PP (.int 4)=.ok E/\Bx PP (.int 5)=.ok F)(c0:Γ.F 161 [A,B]=.ok L0)(c1:Γ.F 161 [B,C']=.ok L1)(c2:Γ.F 161 [C',D']=.ok L2)(c3:Γ.F 161 [D',E]=.ok L3)(c4:Γ.F 161 [E,F]=.ok L4)(c5:Γ.F 161 [F,A]=.ok L5)(m0:Γ.F 161 [L0,L3]=.ok U)(m1:Γ.F 161 [L1,L4]=.ok V)(m2:Γ.F 161 [L2,L5]=.ok W)(f0:Γ.F 158 [.int p,U]=.ok X)(f1:Γ.F 158 [.int p,V]=.ok Y)(f2:Γ.F 158 [.int p,W]=.ok Z)(fl:flD 5 (.tup [X,Y,Z])=Ab)(eq:eqD (.tup [X,Y,Z]) (.tup [X,Y,Z])=Ab)(ls:biD .lset [.tup [X,Y,Z]]=.ok (.int 3))(ht:T=.tup [.str (AN "one"),cC,.tup [X,Y,Z],J]\/T=.tup [.str (AN "apart"),.tup [X,Y,Z]]):J4.run Γ [S]=.ok (.bl Ab):=by
 obtain⟨i0,i1,i2,i3,i4,i5⟩:=ix;have rg6:CC 0 6=.ok [.int 0,.int 1,.int 2,.int 3,.int 4,.int 5]:=by rfl
 have rg3:CC 0 3=.ok [.int 0,.int 1,.int 2]:=by rfl
 have cp1:∀ s0 s1 s3 s4 s5 s6 s7 s8 s9 s10 s11,BD (cG Γ [s0,s1,sh PP,s3,s4,s5,s6,s7,s8,s9,s10,s11] 10 Cm) (cF Γ [s0,s1,sh PP,s3,s4,s5,s6,s7,s8,s9,s10,s11] 10 Pd) [.int 0,.int 1,.int 2,.int 3,.int 4,.int 5]=.ok [L0,L1,L2,L3,L4,L5]:=fun _ _ _ _ _ _ _ _ _ _ _=>by
  simp[BD,cG,cF,Cm,Pd,i0,i1,i2,i3,i4,i5,c0,c1,c2,c3,c4,c5]
 have k0:Bx (.lst [L0,L1,L2,L3,L4,L5]) (.int 0)=.ok L0:=rfl;have k1:Bx (.lst [L0,L1,L2,L3,L4,L5]) (.int 1)=.ok L1:=rfl;have k2:Bx (.lst [L0,L1,L2,L3,L4,L5]) (.int 2)=.ok L2:=rfl;have k3:Bx (.lst [L0,L1,L2,L3,L4,L5]) (.int 3)=.ok L3:=rfl;have k4:Bx (.lst [L0,L1,L2,L3,L4,L5]) (.int 4)=.ok L4:=rfl;have k5:Bx (.lst [L0,L1,L2,L3,L4,L5]) (.int 5)=.ok L5:=rfl;have cp2:∀ s0 s2 s3 s4 s5 s6 s7 s9 s10 s11,BD (cG Γ [s0,si p,s2,s3,s4,s5,s6,s7,sh (.lst [L0,L1,L2,L3,L4,L5]),s9,s10,s11] 11 Cm) (cF Γ [s0,si p,s2,s3,s4,s5,s6,s7,sh (.lst [L0,L1,L2,L3,L4,L5]),s9,s10,s11] 11 Pc) [.int 0,.int 1,.int 2]=.ok [X,Y,Z]:=fun _ _ _ _ _ _ _ _ _ _=>by
  generalize D.lst [L0,L1,L2,L3,L4,L5]=LL at *;simp[BD,cG,cF,Cm,Pc,k0,k1,k2,k3,k4,k5,m0,m1,m2,f0,f1,f2]
 have it:∀ xs,Eb Γ.up [.tuple] (.tup xs)=.ok (.bl Ab):=fun _=>rfl
 rcases ht with rfl|rfl
 ·have t0:Bx (.tup [.str (AN "one"),cC,.tup [X,Y,Z],J]) (.int 0)=.ok (.str (AN "one")):=rfl;have t2:Bx (.tup [.str (AN "one"),cC,.tup [X,Y,Z],J]) (.int (-2))=.ok (.tup [X,Y,Z]):=rfl;have it1:=it [.str (AN "one"),cC,.tup [X,Y,Z],J];have it2:=it [X,Y,Z];generalize hLL:D.lst [L0,L1,L2,L3,L4,L5]=LL at *;generalize hM:D.tup [X,Y,Z]=MM at *;generalize hT:D.tup [.str (AN "one"),cC,MM,J]=TT at *;have n1:(-1-b2i Ab:Af)=-2:=rfl;simp[J4,Df.run,Bv,e1,e2,e3,li,e4,e5,rg6,cp1,rg3,hLL,cp2,hM,it1,it2,fl,eq,ls,t0,t2,n1,DN]
 ·have t0:Bx (.tup [.str (AN "apart"),.tup [X,Y,Z]]) (.int 0)=.ok (.str (AN "apart")):=rfl;have t2:Bx (.tup [.str (AN "apart"),.tup [X,Y,Z]]) (.int (-1))=.ok (.tup [X,Y,Z]):=rfl;have it1:=it [.str (AN "apart"),.tup [X,Y,Z]];have it2:=it [X,Y,Z];generalize hLL:D.lst [L0,L1,L2,L3,L4,L5]=LL at *;generalize hM:D.tup [X,Y,Z]=MM at *;generalize hT:D.tup [.str (AN "apart"),MM]=TT at *;have n0:(AN "apart" == AN "one")=Ad:=by decide
  have n1:(-1-b2i Ad:Af)=-1:=rfl;simp[J4,Df.run,Bv,e1,e2,e3,li,e4,e5,rg6,cp1,rg3,hLL,cp2,hM,it1,it2,fl,eq,ls,t0,t2,n0,n1,DN]
end
theorem wT{l:Ac α}(h:l.length=6):∃ a b c d e f,l=[a,b,c,d,e,f]:=by
  match l,h with
  |[a,b,c,d,e,f],_=>exact⟨a,b,c,d,e,f,rfl⟩
structure H64 (Γ:Gam) (ns:Ac Af):Prop where
 pr:∃ p,P4 p/\Γ.F 156 [scr ns]=.ok (.int p)
 six:aE Γ ns
 th:∀(p:Af)(pts:Ac R3),P4 p->(∀ t∈pts,In3 p t)->pts.length=6->Γ.F 215 [.int p,AY pts]=.ok ((h0_ p pts).getD .non)
 lx:∀(p:Af)(pts:Ac R3)(d:D)(w:Ak),P4 p->(∀ t∈pts,In3 p t)->pts.length=6->h0_ p pts=Aa d->Γ.F 216 [.int p,AY pts,.bl w]=.ok (.tup [.non,d])
 lo:∀(p:Af)(a b c d e f:R3),P4 p->N3 p [a,b,c,d,e,f]->Γ.F 216 [.int p,AY [a,b,c,d,e,f],.bl Ad]=.ok (.tup [Hf p a b c d e f,.non])/\∃ T cC J,(T=.tup [.str (AN "one"),cC,Hf p a b c d e f,J]\/T=.tup [.str (AN "apart"),Hf p a b c d e f])/\Γ.F 216 [.int p,AY [a,b,c,d,e,f],.bl Ab]=.ok (.tup [T,.non])
 lc:WV Γ
 fm:XG Γ
theorem wA(h:H64 Γ ns):J4.run Γ [scr ns]=.ok (.bl Ab):=by
 obtain⟨p,hp,e1⟩:=h.pr;obtain⟨pts,l6,nf,e2⟩:=h.six p hp;have i3:∀ t∈pts,In3 p t:=fun t ht=>(nf t ht).1
 have e3:=h.th p pts hp i3 l6;cases q:h0_ p pts with
 |some d=>
  obtain⟨x,y,u,_,_,_,rfl⟩:=VB q;rw[q]at e3;have lx:=fun w=>h.lx p pts _ w hp i3 l6 q
  have li:biD .list [AY pts]=.ok (AY pts):=rfl;generalize AY pts=PP at *;exact cz e1 e2 e3 li lx rfl (S6 x y u).2
 |none=>
  have n3:=zS l6 nf q;rw[q]at e3;obtain⟨a,b,c,d,e,f,rfl⟩:=wT l6;have s6:=Six.of n3;have bn:∀{x:R3},x∈[a,b,c,d,e,f]->Bn 10 x:=fun hx=>FC hp (n3.nf _ hx).1
  have ba:=bn (x:=a) (by simp)
  have bb:=bn (x:=b) (by simp)
  have bc:=bn (x:=c) (by simp)
  have bd:=bn (x:=d) (by simp)
  have be:=bn (x:=e) (by simp)
  have bf:=bn (x:=f) (by simp)
  have c1:∀{x y:R3},Bn 10 x->Bn 10 y->Γ.F 161 [Au Ab x,Au Ab y]=.ok (Br (crs x y)):=fun hx hy=>h.lc Ab _ _ (hx.mono (by decide)) (hy.mono (by decide))
  have c2:∀{x y u v:R3},Bn 10 x->Bn 10 y->Bn 10 u->Bn 10 v->Γ.F 161 [Br (crs x y),Br (crs u v)]=.ok (Br (crs (crs x y) (crs u v))):=fun hx hy hu hv=>h.lc Ad _ _ (Wv hx hy) (Wv hu hv)
  have f0:=h.fm p _ hp (IV hp s6.m0.1 s6.m0.2);have f1:=h.fm p _ hp (IV hp s6.m1.1 s6.m1.2);have f2:=h.fm p _ hp (IV hp s6.m2.1 s6.m2.2);obtain⟨⟨n0,_⟩,⟨n1,_⟩,⟨n2,_⟩⟩:=Q6 hp s6;obtain⟨d1,d2,d3⟩:=vK hp n3;obtain⟨lo,T,cC,J,hT,lT⟩:=h.lo p a b c d e f hp n3;exact d5 (cC:=cC) (J:=J) e1 e2 e3 rfl lo lT (Q7 _ _ _ _ _ _) (c1 ba bb) (c1 bb bc) (c1 bc bd) (c1 bd be) (c1 be bf) (c1 bf ba) (c2 ba bb bd be) (c2 bb bc be bf) (c2 bc bd bf ba) f0 f1 f2 rfl (S6 _ _ _).2 (uD hp n0 n1 n2 d1 d2 d3) hT
end
noncomputable def Pa:Df:=⟨2,Ad,(.cons (.ife (.cmp .Eq (.var 0) (.var 1)) (.cons (.rais 107 (.cons (.var 0) .nil)) .nil) .nil) (.cons (.ret (.tup (.cons (.bin .Sub (.bin .Mult (.idx (.var 0) (.int 1)) (.idx (.var 1) (.int 2))) (.bin .Mult (.idx (.var 0) (.int 2)) (.idx (.var 1) (.int 1)))) (.cons (.bin .Sub (.bin .Mult (.idx (.var 0) (.int 2)) (.idx (.var 1) (.int 0))) (.bin .Mult (.idx (.var 0) (.int 0)) (.idx (.var 1) (.int 2)))) (.cons (.bin .Sub (.bin .Mult (.idx (.var 0) (.int 0)) (.idx (.var 1) (.int 1))) (.bin .Mult (.idx (.var 0) (.int 1)) (.idx (.var 1) (.int 0)))) .nil))))) .nil))⟩
theorem eW(Γ:Gam)(a b:R3)(ha:B3 a)(hb:B3 b)(ne:a≠b):Pa.run Γ [Au Ab a,Au Ab b]=.ok (Au Ab (crs a b)):=by
 obtain⟨x0,x1,x2⟩:=IQ Ab a;obtain⟨y0,y1,y2⟩:=IQ Ab b;have k:∀ {u v},Bd 300 u->Bd 300 v->EM u v=Ab:=fun hu hv=>GL hu hv (by decide) (by decide)
 have f:∀ r:R3,flD 5 (Au Ab r)=Ab:=fun _=>rfl
 have e:eqD (Au Ab a) (Au Ab b)=Ad:=by rw[ML];exact CY ne
 simp[Pa,Df.run,Bv,f,e,x0,x1,x2,y0,y1,y2,k ha.2.1 hb.2.2,k ha.2.2 hb.2.1,k ha.2.2 hb.1,k ha.1 hb.2.2,k ha.1 hb.2.1,k ha.2.1 hb.1];rfl
noncomputable def aW:Ag->Ac Ag
 |0=>[0]
 |2=>[2,0]
 |3=>[3,0]
 |5=>[5,0]
 |13=>[13,0]
 |107=>[107,0]
 |118=>[118,0]
 |_=>[]
noncomputable def GQ:Ag->Ac D->R Ex
 |2,_=>.ok ⟨2,[]⟩
 |3,_=>.ok ⟨3,[]⟩
 |5,_=>.ok ⟨5,[]⟩
 |13,_=>.ok ⟨13,[]⟩
 |107,ds=>mkX 107 "triple" ds
 |118,ds=>mkX 118 "points" ds
 |_,_=>.bad
noncomputable def Q64:Prg:=⟨Ab,fun
 |1=>QY
 |9=>Ng
 |17=>Nu
 |23=>Pa
 |57=>QZ
 |58=>V1
 |61=>PB
 |65=>KY
 |194=>Nl
 |109=>Lj
 |122=>Ps
 |126=>QD
 |195=>Nk
 |196=>OZ
 |197=>Nj
 |198=>Nn
 |209=>JW
 |210=>K3
 |211=>Ia
 |155=>No
 |156=>RV 155
 |157=>IH
 |158=>Ph
 |159=>RK 155
 |160=>O3
 |161=>Mi
 |162=>OX
 |163=>KW
 |164=>Ni
 |165=>O4
 |214=>IJ
 |215=>OY
 |216=>KU
 |217=>J4
 | _=>⟨0,Ad,.nil⟩,fun _=>.non,aW,GQ⟩
theorem zW(ns:Ac Af)(hl:ns.length<=63):(gam Q64 9).F 217 [scr ns]=.ok (.bl Ab):=by
 have gF:∀ n i as,(gam Q64 (n+1)).F i as=Ec Ab ((Q64.defs i).run (gam Q64 n) as):=fun _ _ _=>rfl
 have d65:Q64.defs 65=KY:=rfl;have d109:Q64.defs 109=Lj:=rfl;have d210:Q64.defs 210=K3:=rfl;have d211:Q64.defs 211=Ia:=rfl;have d209:Q64.defs 209=JW:=rfl;have d214:Q64.defs 214=IJ:=rfl;have d215:Q64.defs 215=OY:=rfl;have d216:Q64.defs 216=KU:=rfl;have rs:∀ n,Kg (gam Q64 (n+1)):=fun n p m hp=>DB (sH _ p m hp)
 have mi:∀ n,Kh (gam Q64 (n+1)) 155 ns:=fun n k hk=>let ⟨m,m0,e⟩:=sK _ ns k hk;⟨m,m0,DB e⟩
 have tu:∀ n,PC (gam Q64 (n+2)):=fun n p m hp z=>let ⟨t,t1,t2,t3,e⟩:=eV (rs n) p m hp z;⟨t,t1,t2,t3,DB e⟩
 have fo:∀ n,NN (gam Q64 (n+3)):=fun n p b xs l t hp e it=>DB (kK (rs (n+1)) (tu n) hp e it)
 have me:∀ n,Ke (gam Q64 (n+2)):=fun n p q a b c hp ha hb hc=>DB (kJ (rs n) p q a b c hp ha hb hc)
 have cr:∀ n,QH (gam Q64 (n+1)):=fun n a b ha hb ne=>DB (eW _ a b ha hb ne)
 have jo:∀ n,Oc (gam Q64 (n+4)):=fun n p a b hp ia ib la lb ne=>let ⟨y,h1,h2,h3,e⟩:=Wb (cr (n+2)) (fo n) p a b hp ia ib la lb ne;⟨y,h1,h2,h3,DB e⟩
 have mt:∀ n,V9 (gam Q64 (n+4)):=fun n p a b hp ia ib la lb ne=>let ⟨y,h1,h2,h3,e⟩:=sO (cr (n+2)) (fo n) p a b hp ia ib la lb ne;⟨y,h1,h2,h3,DB e⟩
 have vb:∀ n,Rc (gam Q64 (n+2)):=fun n p C x hp bC ix=>DB (sD (rs n) p C x hp bC ix)
 have cf:∀ n,WW (gam Q64 (n+4)):=fun n p b xs l t hp e it=>DB (sS (rs (n+2)) (fo n) hp e it)
 have lm:∀ n,WU (gam Q64 (n+1)):=fun n p a b hp ia ib=>DB (sQ _ p a b hp ia ib)
 have fc:∀ n,V0 (gam Q64 (n+5)):=fun n p C pts hp iC lC h=>DB (kO (jo n) (lm (n+3)) (vb (n+2)) (cf n) p C pts hp iC lC h)
 have ff:∀ n,VZ (gam Q64 (n+3)):=fun n p C pts hp h=>DB (kM (me n) p C pts hp h)
 have au:∀ n,U1 (gam Q64 (n+1)):=fun n p C pts h=>DB (fZ _ p C pts h)
 have th:∀ n,V6 (gam Q64 (n+6)):=fun n p C pts hp iC lC h=>DB (iF (au (n+4)) (ff (n+2)) (fc n) p C pts hp iC lC h)
 have f3:∀ n,QG (gam Q64 (n+1)):=fun n p b xs l t hp e it=>DB (kL _ hp e it)
 have px:∀ n,XE (gam Q64 (n+1)):=fun n p k hp h0 h1=>DB (xS _ p k hp h0 h1)
 have al:∀ n,XH (gam Q64 (n+2)):=fun n p hp=>by
  have e:=zZ (px n) p hp;show Ec Ab (Ni.run (gam Q64 (n+1)) [.int p])=_;rw[e];rfl
 have few:∀{pts:Ac R3},pts.length=6->Kv pts.length:=fun h=>by unfold Kv;omega
 have fr:∀ n p pts,P4 p->(∀ t∈pts,In3 p t)->pts.length=6->(gam Q64 (n+3)).F 65 [.int p,AY pts]=.ok ((h0_ p pts).getD .non):=fun n p pts hp hg h6=>by
  rw[gF,d65,fX (me n) hp hg (few h6)];rfl
 have f6:∀ n,aH (gam Q64 (n+3)):=fun n p pts hp hn h=>by
  rw[gF,d65,xW (me n) p pts hp hn h];rfl
 have a6:∀ n,WX (gam Q64 (n+4)):=fun n p pts hp hn h=>by
  rw[gF,d109,kP (f6 n p pts hp hn h)];rfl
 have ax:∀ n p pts d,P4 p->(∀ t∈pts,In3 p t)->pts.length=6->h0_ p pts=Aa d->(gam Q64 (n+4)).F 109 [.int p,AY pts]=.exn (onl d):=fun n p pts d hp hg h6 q=>by
  obtain⟨x,y,u,hx,hy,hu,rfl⟩:=VB q;have e:=fr n p pts hp hg h6;rw[q]at e;have hx:(gam Q64 (n+3)).xn 118 [.tup [Au Ab x,Au Ab y,Au Ab u]]=.ok (onl (.tup [Au Ab x,Au Ab y,Au Ab u])):=vQ hp (hg x hx) (hg y hy) (hg u hu) rfl;rw[gF,d109,fY e hx];rfl
 have ln6:∀{pts:Ac R3},pts.length=6->biD .len [AY pts]=.ok (.int 6):=fun {pts} h=>by
  show R.ok (D.int ((pts.map (Au Ab)).length:Af))=_;rw[Bh,h];rfl
 have mx:∀ n p pts d,P4 p->(∀ t∈pts,In3 p t)->pts.length=6->h0_ p pts=Aa d->(gam Q64 (n+5)).F 210 [.int p,AY pts]=.exn (onl d):=fun n p pts d hp hg h6 q=>by
  rw[gF,d210,iJ (ln6 h6) (ax n p pts d hp hg h6 q)];rfl
 have tx:∀ n p pts d,P4 p->(∀ t∈pts,In3 p t)->pts.length=6->h0_ p pts=Aa d->(gam Q64 (n+6)).F 211 [.int p,AY pts]=.exn (onl d):=fun n p pts d hp hg h6 q=>by
  rw[gF,d211,iG (mx n p pts d hp hg h6 q)];rfl
 have sd:∀ n,V7 (gam Q64 (n+5)):=fun n p a b c d e f hp h=>by
  obtain⟨h0,h1,h2⟩:=sG (xT (jo n) (mt n)) p a b c d e f hp h;rw[gF,gF,gF,d209,h0,h1,h2];exact⟨rfl,rfl,rfl⟩
 have ms:∀ n,V8 (gam Q64 (n+6)):=fun n p a b c d e f hp h=>by
  rw[gF,d210,sJ (a6 (n+1)) (sd n) p a b c d e f hp h];rfl
 have sx:∀ n,vY (gam Q64 (n+7)):=fun n p a b c d e f hp h=>by
  obtain⟨h1,h0⟩:=sF (ms n) (th n) (vb (n+4)) (jo (n+2)) p a b c d e f hp h;refine⟨fun C iC lC on=>?_,fun no=>?_⟩
  ·rw[gF,d211,h1 C iC lC on];rfl
  ·rw[gF,d211,h0 no];rfl
 have lc:∀ n,WV (gam Q64 (n+1)):=fun n q a b ha hb=>DB (sR _ q a b ha hb)
 have l4:∀ n,Lq (gam Q64 (n+2)):=fun n p a b c hp ia ib ic=>DB (xU (fun p a b hp ia ib=>DB (xV _ p a b hp ia ib)) p a b c hp ia ib ic)
 have lv:∀ n,Wa (gam Q64 (n+1)):=fun n p C x hp iC ix=>DB (sP _ p C x hp iC ix)
 have hs:∀ n,H64s (gam Q64 (n+3)) ns:=fun n=>by
  refine⟨mi (n+2),fun p n hp=>?_,fun p hp=>?_,fun p a b c w g hw=>?_,al (n+1),lv (n+2)⟩
  ·obtain⟨x,nx,e⟩:=xR _ p n hp;exact⟨x,nx,DB e⟩
  ·obtain⟨a,b,c,g,e⟩:=xP hl (mi (n+1)) p hp;exact⟨a,b,c,g,DB e⟩
  ·obtain⟨C,h1,h2,h3,e⟩:=zY (f3 (n+1)) (fun p a b hp ha hb=>DB (sI _ p a b hp ha hb)) p a b c w g hw
   exact⟨C,h1,h2,h3,DB e⟩
 have h:H64 (gam Q64 8) ns:=by
  refine⟨?_,fun p hp=>?_,fun p pts hp hg h6=>?_,fun p pts d w hp hg h6 q=>?_,fun p a b c d e f hp n3=>?_,lc 7,fmN (f3 7)⟩
  ·obtain⟨p,hp,e⟩:=iH (mi 6);exact⟨p,hp,DB e⟩
  ·obtain⟨pts,h1,h2,e⟩:=xQ (hs 4) p hp;refine⟨pts,h1,h2,?_⟩;rw[gF,d214,e];rfl
  ·rw[gF,d215,iE (l4 5) hp hg h6];rfl
  ·rw[gF,d216,sN w (mx 2 p pts d hp hg h6 q) (tx 1 p pts d hp hg h6 q) rfl];rfl
  ·have s6:=Six.of n3;have em:=ms 1 p a b c d e f hp s6;obtain⟨h1,h0⟩:=sx 0 p a b c d e f hp s6;by_cases hC:∃ C,InC p C/\A5 p C.l=Aa 1/\∀ x∈[a,b,c,d,e,f],vI C x%p=0
   ·obtain⟨C,iC,lC,on⟩:=hC;have e':=h1 C iC lC on;refine⟨?_,_,Cj C,Au Ab (jnI p a b c d e f),.inl rfl,?_⟩
    ·rw[gF,d216,NW Ad em e'];rfl
    ·rw[gF,d216,NW Ab em e'];rfl
   ·have e':=h0 hC;refine⟨?_,_,.non,.non,.inr rfl,?_⟩
    ·rw[gF,d216,NW Ad em e'];rfl
    ·rw[gF,d216,NW Ab em e'];rfl
 exact DB (wA h)
end OvC
namespace OvC
open PySem PySem.Spec PyProof.Rows Ov L2
variable{l:FW}
noncomputable def tp64(i:Ag):AQ:=PySem.Challenge.pw_ovalfield_k64_meets_and_six_refused.main.body.getD i (.Pass ⟨0,0,0,0⟩)
noncomputable def Xj:Ac (Ai×Ag×Ag):=([("rest", 1,2),("turned_over", 9,2),("one_form", 17,2),("crossed", 23,2),("join", 57,3),("meet", 58,3),("measure", 61,4),("first_three", 65,2),("ask_unlike", 194,1),("ask_no_three", 109,2),("curve_of", 122,2),("value", 126,3),("first_four", 195,2),("lines_multiplied", 196,2),("five_curve", 197,2),("curve_through", 198,2),("side_meet", 209,3),("meets_of", 210,2),("six_told", 211,2),("_law_mixed", 155,2),("_law_prime", 156,1),("_law_point", 157,2),("_law_form", 158,2),("_law_table", 159,3),("_law_product", 160,2),("_law_cross", 161,2),("_law_value", 162,3),("_law_curve", 163,3),("_law_all", 164,1),("_law_measure", 165,4)]:Ac (Ai×Ag×Ag))++([("_law_six", 214,2),("_law_three", 215,2),("_law_line_met", 216,3),("law", 217,1)]:Ac (Ai×Ag×Ag))
noncomputable def SK:Ac Ai:=["ValueError", "any", "enumerate", "int", "isinstance", "len", "list", "min", "range", "set", "sum", "tuple", "zip"]
noncomputable def Ri:Ac (Ai×Ag):=[("NoOver", 2),("NoTriple", 3),("Alike", 107),("OnLine", 118),("NoCurve", 5),("NoCount", 13),("OvalError", 0)]
noncomputable def RE:Ac (Ai×Ag):=[("OvalError", 0),("OnLine", 118)]
noncomputable def Xo:Ac (Ai×Ag):=[]
noncomputable abbrev C64(h:Ak)(ps N:Ac Ai)(i d:Ag):Ak:=HP 80 h Xj SK Ri RE Xo ps N (tp64 i) (Q64.defs d)
theorem wP:C64 Ad ["p", "n"] ["p", "n"] 9 1=Ab:=by decide +kernel
theorem wO:C64 Ad ["p", "n"] ["p", "n", "turned"] 10 9=Ab:=by decide +kernel
theorem wN:C64 Ad ["p", "numbers"] ["p", "numbers", "rests", "first", "factor", "#5", "#6"] 12 17=Ab:=by decide +kernel
theorem wM:C64 Ad ["one", "other"] ["one", "other"] 13 23=Ab:=by decide +kernel
theorem wL:C64 Ad ["p", "one", "other"] ["p", "one", "other"] 15 57=Ab:=by decide +kernel
theorem wK:C64 Ad ["p", "one", "other"] ["p", "one", "other"] 16 58=Ab:=by decide +kernel
theorem wJ:C64 Ad ["p", "one", "other", "third"] ["p", "one", "other", "third"] 17 61=Ab:=by decide +kernel
theorem wI:C64 Ad ["p", "points"] ["p", "points", "i", "one", "j", "k"] 18 65=Ab:=by decide +kernel
theorem wH:C64 Ad ["points"] ["points", "place", "point"] 19 194=Ab:=by decide +kernel
theorem wG:C64 Ad ["p", "points"] ["p", "points", "three"] 20 109=Ab:=by decide +kernel
theorem oV:C64 Ad ["p", "numbers"] ["p", "numbers", "rests", "#3"] 22 122=Ab:=by decide +kernel
theorem oU:C64 Ad ["p", "curve", "point"] ["p", "curve", "point", "squares", "products"] 23 126=Ab:=by decide +kernel
theorem qA:C64 Ad ["p", "points"] ["p", "points", "place", "four"] 25 195=Ab:=by decide +kernel
theorem pZ:C64 Ad ["one", "other"] ["one", "other"] 26 196=Ab:=by decide +kernel
theorem pY:C64 Ad ["p", "points"] ["p", "points", "one", "other", "by_one", "by_other", "#6", "#7"] 27 197=Ab:=by decide +kernel
theorem pX:C64 Ad ["p", "points"] ["p", "points", "four"] 28 198=Ab:=by decide +kernel
theorem pW:C64 Ad ["p", "points", "place"] ["p", "points", "place", "one", "other"] 30 209=Ab:=by decide +kernel
theorem pV:C64 Ad ["p", "points"] ["p", "points"] 31 210=Ab:=by decide +kernel
theorem pU:C64 Ad ["p", "points"] ["p", "points", "meets", "curve"] 32 211=Ab:=by decide +kernel
theorem pT:C64 Ad ["_law_script", "_law_k"] ["_law_script", "_law_k", "_law_cell"] 34 155=Ab:=by decide +kernel
theorem pS:C64 Ad ["_law_script"] ["_law_script"] 35 156=Ab:=by decide +kernel
theorem pR:C64 Ad ["_law_p", "_law_number"] ["_law_p", "_law_number", "_law_n"] 36 157=Ab:=by decide +kernel
theorem pQ:C64 Ad ["_law_p", "_law_numbers"] ["_law_p", "_law_numbers", "_law_head", "_law_by", "#4", "#5", "#6"] 37 158=Ab:=by decide +kernel
theorem pP:C64 Ad ["_law_p", "_law_script", "_law_at"] ["_law_p", "_law_script", "_law_at", "_law_rows", "_law_k", "_law_cell", "_law_i", "_law_j", "_law_times", "#9", "#10", "#11"] 38 159=Ab:=by decide +kernel
theorem pO:C64 Ad ["_law_one", "_law_other"] ["_law_one", "_law_other", "_law_numbers", "_law_i", "_law_j", "#5"] 39 160=Ab:=by decide +kernel
theorem pN:C64 Ad ["_law_one", "_law_other"] ["_law_one", "_law_other", "_law_a", "_law_b", "_law_c", "_law_d", "_law_e", "_law_f"] 40 161=Ab:=by decide +kernel
theorem pM:C64 Ad ["_law_p", "_law_curve_here", "_law_point_here"] ["_law_p", "_law_curve_here", "_law_point_here", "_law_x", "_law_y", "_law_z", "_law_some", "#7", "#8"] 41 162=Ab:=by decide +kernel
theorem pL:C64 Ad ["_law_p", "_law_rows", "_law_way"] ["_law_p", "_law_rows", "_law_way", "_law_one", "_law_other", "_law_third", "_law_square", "_law_odd", "#8", "#9", "#10", "#11", "#12", "#13"] 42 163=Ab:=by decide +kernel
theorem pK:C64 Ad ["_law_p"] ["_law_p", "#1"] 43 164=Ab:=by decide +kernel
theorem pJ:C64 Ad ["_law_p", "_law_one", "_law_other", "_law_third"] ["_law_p", "_law_one", "_law_other", "_law_third", "_law_a", "_law_b", "_law_c"] 44 165=Ab:=by decide +kernel
theorem pH:C64 Ad ["_law_p", "_law_script"] ["_law_p", "_law_script", "_law_points", "_law_pick", "_law_curve_here", "_law_left", "_law_some", "_law_k", "#8", "#9"] 45 214=Ab:=by decide +kernel
theorem pG:C64 Ad ["_law_p", "_law_points"] ["_law_p", "_law_points", "_law_i", "_law_j", "_law_k"] 46 215=Ab:=by decide +kernel
theorem pF:C64 Ad ["_law_p", "_law_points", "_law_whole"] ["_law_p", "_law_points", "_law_whole", "_law_found", "_law_three_here", "error"] 47 216=Ab:=by decide +kernel
theorem Vz:C64 Ad ["_law_script"] ["_law_script", "_law_p", "_law_points", "_law_three_here", "_law_found", "_law_refused", "_law_told", "_law_refused_too", "_law_lines", "_law_due", "#10", "#11"] 48 217=Ab:=by decide +kernel
theorem mX:OD "OvalError" "triple" "triple" (Oj (tp64 6))=Ab:=by decide +kernel
theorem mW:OD "OvalError" "points" "points" (Oj (tp64 7))=Ab:=by decide +kernel
noncomputable def Ja(x0 x1 x2 x3 x4 x5 x6:Am):ClA
 |2=>Aa x0
 |3=>Aa x1
 |107=>Aa x2
 |118=>Aa x3
 |5=>Aa x4
 |13=>Aa x5
 |0=>Aa x6
 |_=>Ae
set_option maxHeartbeats 0 in
theorem all64{w:A4}{K:Fg}{h:AF}{mg:Ai->Ap Al}{fa f0 f1 f2 f3 f4 f5 f6 f7 f8 f9 f10 f11 f12 f13 f14 f15 f16 f17 f18 f19 f20 f21 f22 f23 f24 f25 f26 f27 f28 f29 f30 f31 f32 f33 x0 x1 x2 x3 x4 x5 x6 ix2 ix3:Am}(X:K.In h)(G:h.Ns A1 mg)(hfa:mg "law" = Aa (.ref fa))(a0:FnI K f0 "rest" (tp64 9))(a1:FnI K f1 "turned_over" (tp64 10))(a2:FnI K f2 "one_form" (tp64 12))(a3:FnI K f3 "crossed" (tp64 13))(a4:FnI K f4 "join" (tp64 15))(a5:FnI K f5 "meet" (tp64 16))(a6:FnI K f6 "measure" (tp64 17))(a7:FnI K f7 "first_three" (tp64 18))(a8:FnI K f8 "ask_unlike" (tp64 19))(a9:FnI K f9 "ask_no_three" (tp64 20))(a10:FnI K f10 "curve_of" (tp64 22))(a11:FnI K f11 "value" (tp64 23))(a12:FnI K f12 "first_four" (tp64 25))(a13:FnI K f13 "lines_multiplied" (tp64 26))(a14:FnI K f14 "five_curve" (tp64 27))(a15:FnI K f15 "curve_through" (tp64 28))(a16:FnI K f16 "side_meet" (tp64 30))(a17:FnI K f17 "meets_of" (tp64 31))(a18:FnI K f18 "six_told" (tp64 32))(a19:FnI K f19 "_law_mixed" (tp64 34))(a20:FnI K f20 "_law_prime" (tp64 35))(a21:FnI K f21 "_law_point" (tp64 36))(a22:FnI K f22 "_law_form" (tp64 37))(a23:FnI K f23 "_law_table" (tp64 38))(a24:FnI K f24 "_law_product" (tp64 39))(a25:FnI K f25 "_law_cross" (tp64 40))(a26:FnI K f26 "_law_value" (tp64 41))(a27:FnI K f27 "_law_curve" (tp64 42))(a28:FnI K f28 "_law_all" (tp64 43))(a29:FnI K f29 "_law_measure" (tp64 44))(a30:FnI K f30 "_law_six" (tp64 45))(a31:FnI K f31 "_law_three" (tp64 46))(a32:FnI K f32 "_law_line_met" (tp64 47))(a33:FnI K f33 "law" (tp64 48))(nx0:Bl K A1 "NoOver" = Aa (Aa (.ref x0)))(dcx0:Fa K x0=Ab)(ftx0:At K (.ref x0) "triple" = Aa Ae)(fpx0:At K (.ref x0) "points" = Aa Ae)(ex0:Ef K x0 [.type "ValueError", .type "Exception", .type "BaseException", .type "object"] "ValueError.__new__" = Ab)(gax0:At K (.ref x0) "__getattribute__" = Aa (Aa (.builtin "BaseException.__getattribute__")))(gtx0:At K (.ref x0) "__getattr__" = Aa Ae)(clx0:At K (.ref x0) "__class__" = Aa (Aa (.builtin "object.__class__")))(obx0:Cv K x0 (.type "object")=Aa Ab)(bex0:AM K (.ref x0) (.type "BaseException")=Aa Ab)(svx0:AM K (.ref x0) (.type "ValueError")=Aa Ab)(nx1:Bl K A1 "NoTriple" = Aa (Aa (.ref x1)))(dcx1:Fa K x1=Ab)(ftx1:At K (.ref x1) "triple" = Aa Ae)(fpx1:At K (.ref x1) "points" = Aa Ae)(ex1:Ef K x1 [.type "ValueError", .type "Exception", .type "BaseException", .type "object"] "ValueError.__new__" = Ab)(gax1:At K (.ref x1) "__getattribute__" = Aa (Aa (.builtin "BaseException.__getattribute__")))(gtx1:At K (.ref x1) "__getattr__" = Aa Ae)(clx1:At K (.ref x1) "__class__" = Aa (Aa (.builtin "object.__class__")))(obx1:Cv K x1 (.type "object")=Aa Ab)(bex1:AM K (.ref x1) (.type "BaseException")=Aa Ab)(svx1:AM K (.ref x1) (.type "ValueError")=Aa Ab)(nx2:Bl K A1 "Alike" = Aa (Aa (.ref x2)))(dcx2:Fa K x2=Ab)(ftx2:At K (.ref x2) "triple" = Aa Ae)(fpx2:At K (.ref x2) "points" = Aa Ae)(fix2:At K (.ref x2) "__init__" = Aa (Aa (.ref ix2)))(iix2:InI K ix2 "Alike.__init__" (Oj (tp64 6)))(tix2:EB K (.ref ix2)=Aa (.type "function"))(ex2:D9 K x2 (Aa (.ref ix2))=Ab)(snx2:At K (.ref x2) "__setattr__" = Aa (Aa (.builtin "object.__setattr__")))(gax2:At K (.ref x2) "__getattribute__" = Aa (Aa (.builtin "BaseException.__getattribute__")))(gtx2:At K (.ref x2) "__getattr__" = Aa Ae)(clx2:At K (.ref x2) "__class__" = Aa (Aa (.builtin "object.__class__")))(obx2:Cv K x2 (.type "object")=Aa Ab)(bex2:AM K (.ref x2) (.type "BaseException")=Aa Ab)(svx2:AM K (.ref x2) (.type "ValueError")=Aa Ab)(nx3:Bl K A1 "OnLine" = Aa (Aa (.ref x3)))(dcx3:Fa K x3=Ab)(ftx3:At K (.ref x3) "triple" = Aa Ae)(fpx3:At K (.ref x3) "points" = Aa Ae)(fix3:At K (.ref x3) "__init__" = Aa (Aa (.ref ix3)))(iix3:InI K ix3 "OnLine.__init__" (Oj (tp64 7)))(tix3:EB K (.ref ix3)=Aa (.type "function"))(ex3:D9 K x3 (Aa (.ref ix3))=Ab)(snx3:At K (.ref x3) "__setattr__" = Aa (Aa (.builtin "object.__setattr__")))(gax3:At K (.ref x3) "__getattribute__" = Aa (Aa (.builtin "BaseException.__getattribute__")))(gtx3:At K (.ref x3) "__getattr__" = Aa Ae)(clx3:At K (.ref x3) "__class__" = Aa (Aa (.builtin "object.__class__")))(obx3:Cv K x3 (.type "object")=Aa Ab)(bex3:AM K (.ref x3) (.type "BaseException")=Aa Ab)(svx3:AM K (.ref x3) (.type "ValueError")=Aa Ab)(nx4:Bl K A1 "NoCurve" = Aa (Aa (.ref x4)))(dcx4:Fa K x4=Ab)(ftx4:At K (.ref x4) "triple" = Aa Ae)(fpx4:At K (.ref x4) "points" = Aa Ae)(ex4:Ef K x4 [.type "ValueError", .type "Exception", .type "BaseException", .type "object"] "ValueError.__new__" = Ab)(gax4:At K (.ref x4) "__getattribute__" = Aa (Aa (.builtin "BaseException.__getattribute__")))(gtx4:At K (.ref x4) "__getattr__" = Aa Ae)(clx4:At K (.ref x4) "__class__" = Aa (Aa (.builtin "object.__class__")))(obx4:Cv K x4 (.type "object")=Aa Ab)(bex4:AM K (.ref x4) (.type "BaseException")=Aa Ab)(svx4:AM K (.ref x4) (.type "ValueError")=Aa Ab)(nx5:Bl K A1 "NoCount" = Aa (Aa (.ref x5)))(dcx5:Fa K x5=Ab)(ftx5:At K (.ref x5) "triple" = Aa Ae)(fpx5:At K (.ref x5) "points" = Aa Ae)(ex5:Ef K x5 [.type "ValueError", .type "Exception", .type "BaseException", .type "object"] "ValueError.__new__" = Ab)(gax5:At K (.ref x5) "__getattribute__" = Aa (Aa (.builtin "BaseException.__getattribute__")))(gtx5:At K (.ref x5) "__getattr__" = Aa Ae)(clx5:At K (.ref x5) "__class__" = Aa (Aa (.builtin "object.__class__")))(obx5:Cv K x5 (.type "object")=Aa Ab)(bex5:AM K (.ref x5) (.type "BaseException")=Aa Ab)(svx5:AM K (.ref x5) (.type "ValueError")=Aa Ab)(nx6:Bl K A1 "OvalError" = Aa (Aa (.ref x6)))(sax6:Eo K (.ref x6) "__getattribute__" = Aa (Aa (.builtin "type.__getattribute__")))(sbx6:Fj K x6 (.type "type")=Ab)(scx6:Fi K (.ref x6) (.type "type") "__init__" = Aa (.val (.builtin "ValueError.__init__")))(dcx6:Fa K x6=Ab)(ftx6:At K (.ref x6) "triple" = Aa Ae)(fpx6:At K (.ref x6) "points" = Aa Ae)(ex6:Ef K x6 [.type "ValueError", .type "Exception", .type "BaseException", .type "object"] "ValueError.__new__" = Ab)(gax6:At K (.ref x6) "__getattribute__" = Aa (Aa (.builtin "BaseException.__getattribute__")))(gtx6:At K (.ref x6) "__getattr__" = Aa Ae)(clx6:At K (.ref x6) "__class__" = Aa (Aa (.builtin "object.__class__")))(obx6:Cv K x6 (.type "object")=Aa Ab)(bex6:AM K (.ref x6) (.type "BaseException")=Aa Ab)(svx6:AM K (.ref x6) (.type "ValueError")=Aa Ab)(sux0x6:AM K (.ref x0) (.ref x6)=Aa Ab)(sux0x3:AM K (.ref x0) (.ref x3)=Aa Ad)(sux1x6:AM K (.ref x1) (.ref x6)=Aa Ab)(sux1x3:AM K (.ref x1) (.ref x3)=Aa Ad)(sux2x6:AM K (.ref x2) (.ref x6)=Aa Ab)(sux2x3:AM K (.ref x2) (.ref x3)=Aa Ad)(sux3x6:AM K (.ref x3) (.ref x6)=Aa Ab)(sux3x3:AM K (.ref x3) (.ref x3)=Aa Ab)(sux4x6:AM K (.ref x4) (.ref x6)=Aa Ab)(sux4x3:AM K (.ref x4) (.ref x3)=Aa Ad)(sux5x6:AM K (.ref x5) (.ref x6)=Aa Ab)(sux5x3:AM K (.ref x5) (.ref x3)=Aa Ad)(sux6x6:AM K (.ref x6) (.ref x6)=Aa Ab)(sux6x3:AM K (.ref x6) (.ref x3)=Aa Ad)(z0:Bl K A1 "ValueError" = Aa Ae)(z1:Bl K A1 "any" = Aa Ae)(z2:Bl K A1 "enumerate" = Aa Ae)(z3:Bl K A1 "int" = Aa Ae)(z4:Bl K A1 "isinstance" = Aa Ae)(z5:Bl K A1 "len" = Aa Ae)(z6:Bl K A1 "list" = Aa Ae)(z7:Bl K A1 "min" = Aa Ae)(z8:Bl K A1 "range" = Aa Ae)(z9:Bl K A1 "set" = Aa Ae)(z10:Bl K A1 "sum" = Aa Ae)(z11:Bl K A1 "tuple" = Aa Ae)(z12:Bl K A1 "zip" = Aa Ae):
    ∃ fd:BL,(∀(s:Ar)(v:Al),Gd s fd ⟨[v],[]⟩ [("_law_script", v)])/\∀ base:AF,K.In base->base.Ns A1 mg->FnOk l.prog w K mg base (CXR l.prog w) 9 fa fd ["_law_script"] (MX K):=by
  obtain⟨_,F,e⟩:=a33;obtain⟨_,_,_,_,_,_,_,_,_,rfl,_,_⟩:=F.ex;cases hfa.symm.trans (B8 X G e);have yx0:=Mx ex0;have Xx0:XcOk K x0:=Ko yx0 gax0 gtx0 clx0 obx0 bex0 svx0;have yx1:=Mx ex1;have Xx1:XcOk K x1:=Ko yx1 gax1 gtx1 clx1 obx1 bex1 svx1;have yx2:=ex2;have Xx2:XcOk K x2:=Ko yx2 gax2 gtx2 clx2 obx2 bex2 svx2;have Ix2:XIn K mg x2 "triple" := Wx iix2 mX (fun _ _ _ _ _ _ _ _=>rfl) yx2 dcx2 tix2 (B8 X G nx6) sax6 sbx6 scx6 ftx2 snx2
  have yx3:=ex3;have Xx3:XcOk K x3:=Ko yx3 gax3 gtx3 clx3 obx3 bex3 svx3;have Ix3:XIn K mg x3 "points" := Wx iix3 mW (fun _ _ _ _ _ _ _ _=>rfl) yx3 dcx3 tix3 (B8 X G nx6) sax6 sbx6 scx6 fpx3 snx3
  have yx4:=Mx ex4;have Xx4:XcOk K x4:=Ko yx4 gax4 gtx4 clx4 obx4 bex4 svx4;have yx5:=Mx ex5;have Xx5:XcOk K x5:=Ko yx5 gax5 gtx5 clx5 obx5 bex5 svx5;have yx6:=Mx ex6;have Xx6:XcOk K x6:=Ko yx6 gax6 gtx6 clx6 obx6 bex6 svx6;have XT64:XT Q64.up Q64.xn (Ja x0 x1 x2 x3 x4 x5 x6) Ri RE K mg:=by
    refine⟨?_,all_cons ⟨_,rfl,B8 X G nx0⟩ (all_cons ⟨_,rfl,B8 X G nx1⟩ (all_cons ⟨_,rfl,B8 X G nx2⟩ (all_cons ⟨_,rfl,B8 X G nx3⟩ (all_cons ⟨_,rfl,B8 X G nx4⟩ (all_cons ⟨_,rfl,B8 X G nx5⟩ (all_cons ⟨_,rfl,B8 X G nx6⟩ (Mw))))))),all_cons ⟨_,B8 X G nx6,?kx6,?sx6⟩ (all_cons ⟨_,B8 X G nx3,?kx3,?sx3⟩ (Mw)),?_,?_,?_⟩
    case refine_1=>
      intro c C q;unfold Ja at q;split at q
      · cases q;exact Xx0
      · cases q;exact Xx1
      · cases q;exact Xx2
      · cases q;exact Xx3
      · cases q;exact Xx4
      · cases q;exact Xx5
      · cases q;exact Xx6
      · cases q
    case refine_2=>
      intro c C ds q;unfold Ja at q;split at q
      · cases q;exact MW (fun ds=>by show GQ 2 ds=.bad\/GQ 2 ds=.ok ⟨2,[]⟩;first|exact .inr rfl|exact .inl rfl) yx0 ds
      · cases q;exact MW (fun ds=>by show GQ 3 ds=.bad\/GQ 3 ds=.ok ⟨3,[]⟩;first|exact .inr rfl|exact .inl rfl) yx1 ds
      · cases q;exact Xx (fun _=>rfl) Ix2 ds
      · cases q;exact Xx (fun _=>rfl) Ix3 ds
      · cases q;exact MW (fun ds=>by show GQ 5 ds=.bad\/GQ 5 ds=.ok ⟨5,[]⟩;first|exact .inr rfl|exact .inl rfl) yx4 ds
      · cases q;exact MW (fun ds=>by show GQ 13 ds=.bad\/GQ 13 ds=.ok ⟨13,[]⟩;first|exact .inr rfl|exact .inl rfl) yx5 ds
      · cases q;exact MW (fun ds=>by show GQ 0 ds=.bad\/GQ 0 ds=.ok ⟨0,[]⟩;first|exact .inr rfl|exact .inl rfl) yx6 ds
      · cases q
    case refine_3=>
      intro c C q;unfold Ja at q;split at q
      · cases q;exact Kn dcx0 ftx0 fpx0
      · cases q;exact Kn dcx1 ftx1 fpx1
      · cases q;exact Kn dcx2 ftx2 fpx2
      · cases q;exact Kn dcx3 ftx3 fpx3
      · cases q;exact Kn dcx4 ftx4 fpx4
      · cases q;exact Kn dcx5 ftx5 fpx5
      · cases q;exact Kn dcx6 ftx6 fpx6
      · cases q
    case refine_4=>
      intro c q ds;show GQ c ds=.bad;unfold GQ;split<;>first|rfl|exact absurd rfl (q ("NoOver", 2) (by decide))|exact absurd rfl (q ("NoTriple", 3) (by decide))|exact absurd rfl (q ("Alike", 107) (by decide))|exact absurd rfl (q ("OnLine", 118) (by decide))|exact absurd rfl (q ("NoCurve", 5) (by decide))|exact absurd rfl (q ("NoCount", 13) (by decide))|exact absurd rfl (q ("OvalError", 0) (by decide))
    case kx6=>
      intro c C q;unfold Ja at q;split at q
      · cases q;exact Gu yx0 yx6 sux0x6
      · cases q;exact Gu yx1 yx6 sux1x6
      · cases q;exact Gu yx2 yx6 sux2x6
      · cases q;exact Gu yx3 yx6 sux3x6
      · cases q;exact Gu yx4 yx6 sux4x6
      · cases q;exact Gu yx5 yx6 sux5x6
      · cases q;exact Gu yx6 yx6 sux6x6
      · cases q
    case sx6=>
      intro c C q;unfold Ja at q;split at q
      · cases q;exact sux0x6
      · cases q;exact sux1x6
      · cases q;exact sux2x6
      · cases q;exact sux3x6
      · cases q;exact sux4x6
      · cases q;exact sux5x6
      · cases q;exact sux6x6
      · cases q
    case kx3=>
      intro c C q;unfold Ja at q;split at q
      · cases q;exact Gu yx0 yx3 sux0x3
      · cases q;exact Gu yx1 yx3 sux1x3
      · cases q;exact Gu yx2 yx3 sux2x3
      · cases q;exact Gu yx3 yx3 sux3x3
      · cases q;exact Gu yx4 yx3 sux4x3
      · cases q;exact Gu yx5 yx3 sux5x3
      · cases q;exact Gu yx6 yx3 sux6x3
      · cases q
    case sx3=>
      intro c C q;unfold Ja at q;split at q
      · cases q;exact sux0x3
      · cases q;exact sux1x3
      · cases q;exact sux2x3
      · cases q;exact sux3x3
      · cases q;exact sux4x3
      · cases q;exact sux5x3
      · cases q;exact sux6x3
      · cases q
  have T:Tab K mg (Ja x0 x1 x2 x3 x4 x5 x6) Xj SK Ri RE Xo Q64 80:=⟨XT64,all_cons (BE X G z0) (all_cons (BE X G z1) (all_cons (BE X G z2) (all_cons (BE X G z3) (all_cons (BE X G z4) (all_cons (BE X G z5) (all_cons (BE X G z6) (all_cons (BE X G z7) (all_cons (BE X G z8) (all_cons (BE X G z9) (all_cons (BE X G z10) (all_cons (BE X G z11) (all_cons (BE X G z12) (Mw))))))))))))),Mw,all_cons (EF 2 1 X G a0 rfl wP fun _ _ _ _ _ _ _ _=>rfl) (all_cons (EF 2 9 X G a1 rfl wO fun _ _ _ _ _ _ _ _=>rfl) (all_cons (EF 2 17 X G a2 rfl wN fun _ _ _ _ _ _ _ _=>rfl) (all_cons (EF 2 23 X G a3 rfl wM fun _ _ _ _ _ _ _ _=>rfl) (all_cons (JJ 3 57 X G a4 rfl wL fun _ _ _ _ _ _ _ _ _=>rfl) (all_cons (JJ 3 58 X G a5 rfl wK fun _ _ _ _ _ _ _ _ _=>rfl) (all_cons (R1 4 61 X G a6 rfl wJ fun _ _ _ _ _ _ _ _ _ _=>rfl) (all_cons (EF 2 65 X G a7 rfl wI fun _ _ _ _ _ _ _ _=>rfl) (all_cons (OI 1 194 X G a8 rfl wH fun _ _ _ _ _ _ _=>rfl) (all_cons (EF 2 109 X G a9 rfl wG fun _ _ _ _ _ _ _ _=>rfl) (all_cons (EF 2 122 X G a10 rfl oV fun _ _ _ _ _ _ _ _=>rfl) (all_cons (JJ 3 126 X G a11 rfl oU fun _ _ _ _ _ _ _ _ _=>rfl) (all_cons (EF 2 195 X G a12 rfl qA fun _ _ _ _ _ _ _ _=>rfl) (all_cons (EF 2 196 X G a13 rfl pZ fun _ _ _ _ _ _ _ _=>rfl) (all_cons (EF 2 197 X G a14 rfl pY fun _ _ _ _ _ _ _ _=>rfl) (all_cons (EF 2 198 X G a15 rfl pX fun _ _ _ _ _ _ _ _=>rfl) (all_cons (JJ 3 209 X G a16 rfl pW fun _ _ _ _ _ _ _ _ _=>rfl) (all_cons (EF 2 210 X G a17 rfl pV fun _ _ _ _ _ _ _ _=>rfl) (all_cons (EF 2 211 X G a18 rfl pU fun _ _ _ _ _ _ _ _=>rfl) (all_cons (EF 2 155 X G a19 rfl pT fun _ _ _ _ _ _ _ _=>rfl) (all_cons (OI 1 156 X G a20 rfl pS fun _ _ _ _ _ _ _=>rfl) (all_cons (EF 2 157 X G a21 rfl pR fun _ _ _ _ _ _ _ _=>rfl) (all_cons (EF 2 158 X G a22 rfl pQ fun _ _ _ _ _ _ _ _=>rfl) (all_cons (JJ 3 159 X G a23 rfl pP fun _ _ _ _ _ _ _ _ _=>rfl) (all_cons (EF 2 160 X G a24 rfl pO fun _ _ _ _ _ _ _ _=>rfl) (all_cons (EF 2 161 X G a25 rfl pN fun _ _ _ _ _ _ _ _=>rfl) (all_cons (JJ 3 162 X G a26 rfl pM fun _ _ _ _ _ _ _ _ _=>rfl) (all_cons (JJ 3 163 X G a27 rfl pL fun _ _ _ _ _ _ _ _ _=>rfl) (all_cons (OI 1 164 X G a28 rfl pK fun _ _ _ _ _ _ _=>rfl) (all_cons (R1 4 165 X G a29 rfl pJ fun _ _ _ _ _ _ _ _ _ _=>rfl) (all_cons (EF 2 214 X G a30 rfl pH fun _ _ _ _ _ _ _ _=>rfl) (all_cons (EF 2 215 X G a31 rfl pG fun _ _ _ _ _ _ _ _=>rfl) (all_cons (JJ 3 216 X G a32 rfl pF fun _ _ _ _ _ _ _ _ _=>rfl) (all_cons (OI 1 217 X G ⟨_,F,e⟩ rfl Vz fun _ _ _ _ _ _ _=>rfl) (Mw))))))))))))))))))))))))))))))))))⟩
  exact⟨_,fun s v=>.of_eq rfl,fun base _ _=>nM (Ws T (QX T 8) (Xg F) rfl Vz) zW⟩
theorem walk64{q:AO}{loose:Ac Ai}{XP:(Ai->Ap Al)->AF->Prop}{YP:A4->AF->Prop}{d:DefRec}{K:Md->Fg}(hn:l.most=Aa 63)(hdf:d.params.defaults=[])(hY:∀(w:A4)(h:AF),YP w h->(K w.params).In h)(F:∀(w:A4)(mg:Ai->Ap Al)(fa:Am)(h:AF),(K w.params).In h->h.Ns A1 mg->mg d.name=Aa (.ref fa) ->
   ∃ fd:BL,(∀(s:Ar)(u:Al),Gd s fd ⟨[u],[]⟩ [("_law_script", u)])/\∀ base:AF,(K w.params).In base->base.Ns A1 mg->FnOk l.prog w (K w.params) mg base (CXR l.prog w) 9 fa fd ["_law_script"] (MX (K w.params))):ZR q loose XP YP l.row.toRowW d [] (fun f vs=>KH f vs):=
 L2.walk_of (n:=63) (k:=9) (x := "_law_script") (CX:=fun w=>CXR l.prog w) (sp:=fun w=>MX (K w.params)) hn (by decide) hdf ⟨rfl,by decide,by decide,rfl⟩ hY F (fun _ H a ns hl _ hS=>⟨a,ns,rfl,hl,hS,fun _ _ z=>z⟩) fun _ _ _ _ _ z=>wC z
end OvC
open PySem PySem.W PyProof.Rows
noncomputable def OvC.view64:PySem.Program:={ PySem.Challenge.pw_ovalfield_k64_meets_and_six_refused with main:={PySem.Challenge.pw_ovalfield_k64_meets_and_six_refused.main with body:=[OvC.tp64 1,OvC.tp64 2,OvC.tp64 3,OvC.tp64 4,OvC.tp64 5,OvC.tp64 6,OvC.tp64 7,OvC.tp64 9,OvC.tp64 10,OvC.tp64 12,OvC.tp64 13,OvC.tp64 15,OvC.tp64 16,OvC.tp64 17,OvC.tp64 18,OvC.tp64 19,OvC.tp64 20,OvC.tp64 22,OvC.tp64 23,OvC.tp64 25,OvC.tp64 26,OvC.tp64 27,OvC.tp64 28,OvC.tp64 30,OvC.tp64 31,OvC.tp64 32,OvC.tp64 34,OvC.tp64 35,OvC.tp64 36,OvC.tp64 37,OvC.tp64 38,OvC.tp64 39,OvC.tp64 40,OvC.tp64 41,OvC.tp64 42,OvC.tp64 43,OvC.tp64 44,OvC.tp64 45,OvC.tp64 46,OvC.tp64 47,OvC.tp64 48]} }
set_option hygiene false
local macro_rules | `(tactic| o_head $H)=>`(tactic| refine holds_open (q:=OvC.view64) (loose:=[]) (Xt:=fun s=>xlAt OvC.view64 [] s&&recOk (RowW.records (OpenRow.toRowW (PySem.Challenge.rw_ovalfield_k64_meets_and_six_refused.row))) s) (XP:=XL OvC.view64 []) (Yf:=Hook.obs $H) (Ya:=Hook.val $H) (YP:=Hook.says $H) (N:=5360) ?hl (Hook.of $H) (Hook.keeps $H) (fun s e=>xl_of s (Bool.and_eq_true_iff.mp e).1) XL.keeps (by rfl) (by rfl) (by rfl) (fun s e=>recFacts_of (Bool.and_eq_true_iff.mp e).2) (by rfl) (by first|assumption|decide +kernel) (by decide +kernel) ⟨rfl,rfl,rfl,rfl,rfl,by decide +kernel⟩ ?hw ?hc)
set_option maxRecDepth 100000 in
set_option maxHeartbeats 0 in
theorem PySem.Challenge.cw_ovalfield_k64_meets_and_six_refused_holds : PySem.Challenge.rw_ovalfield_k64_meets_and_six_refused.Holds := by
 w_on;refine holds_law (by decide +kernel) fun said=>?_;k_head
 (case hl=>intro w;unfold openEnds fencedOpening topFrom;rw[PySem.W.Fast.te10274390034422433532,PySem.W.Fast.te14364793385576792824,PySem.W.Fast.te1435165496053646825,PySem.W.Fast.te14289696077712309145,PySem.W.Fast.te14082659384304107361,PySem.W.Fast.te4187177175401517315];kernel_rfl)
 (case hw=>w_witness2)
 k_fill
 refine OvC.walk64 (l:=PySem.Challenge.rw_ovalfield_k64_meets_and_six_refused) rfl rfl (fun w h Y=>ZT Y) ?F
 case F=>
  intro w mg fa h KX G hmg
  refine' OvC.all64 KX G hmg ?a0 ?a1 ?a2 ?a3 ?a4 ?a5 ?a6 ?a7 ?a8 ?a9 ?a10 ?a11 ?a12 ?a13 ?a14 ?a15 ?a16 ?a17 ?a18 ?a19 ?a20 ?a21 ?a22 ?a23 ?a24 ?a25 ?a26 ?a27 ?a28 ?a29 ?a30 ?a31 ?a32 ?a33 ?nx0 ?dcx0 ?ftx0 ?fpx0 ?ex0 ?gax0 ?gtx0 ?clx0 ?obx0 ?bex0 ?svx0 ?nx1 ?dcx1 ?ftx1 ?fpx1 ?ex1 ?gax1 ?gtx1 ?clx1 ?obx1 ?bex1 ?svx1 ?nx2 ?dcx2 ?ftx2 ?fpx2 ?fix2 ?iix2 ?tix2 ?ex2 ?snx2 ?gax2 ?gtx2 ?clx2 ?obx2 ?bex2 ?svx2 ?nx3 ?dcx3 ?ftx3 ?fpx3 ?fix3 ?iix3 ?tix3 ?ex3 ?snx3 ?gax3 ?gtx3 ?clx3 ?obx3 ?bex3 ?svx3 ?nx4 ?dcx4 ?ftx4 ?fpx4 ?ex4 ?gax4 ?gtx4 ?clx4 ?obx4 ?bex4 ?svx4 ?nx5 ?dcx5 ?ftx5 ?fpx5 ?ex5 ?gax5 ?gtx5 ?clx5 ?obx5 ?bex5 ?svx5 ?nx6 ?sax6 ?sbx6 ?scx6 ?dcx6 ?ftx6 ?fpx6 ?ex6 ?gax6 ?gtx6 ?clx6 ?obx6 ?bex6 ?svx6 ?sux0x6 ?sux0x3 ?sux1x6 ?sux1x3 ?sux2x6 ?sux2x3 ?sux3x6 ?sux3x3 ?sux4x6 ?sux4x3 ?sux5x6 ?sux5x3 ?sux6x6 ?sux6x3 ?z0 ?z1 ?z2 ?z3 ?z4 ?z5 ?z6 ?z7 ?z8 ?z9 ?z10 ?z11 ?z12
  case a0|a1|a2|a3|a4|a5|a6|a7|a8|a9|a10|a11|a12|a13|a14|a15|a16|a17|a18|a19|a20|a21|a22|a23|a24|a25|a26|a27|a28|a29|a30|a31|a32|a33=>(refine' Ov.fni ?a ?l ?c ?k;(case a=>k_is);(case l=>k_is);(case c=>k_is);(case k=>k_is))
  (case nx0=>k_is)
  (case dcx0=>kernel_rfl)
  (case ftx0=>k_is)
  (case fpx0=>k_is)
  (case ex0=>k_exc)
  (case gax0=>k_is)
  (case gtx0=>k_is)
  (case clx0=>k_is)
  (case obx0=>k_is)
  (case bex0=>k_is)
  (case svx0=>k_is)
  (case nx1=>k_is)
  (case dcx1=>kernel_rfl)
  (case ftx1=>k_is)
  (case fpx1=>k_is)
  (case ex1=>k_exc)
  (case gax1=>k_is)
  (case gtx1=>k_is)
  (case clx1=>k_is)
  (case obx1=>k_is)
  (case bex1=>k_is)
  (case svx1=>k_is)
  (case nx2=>k_is)
  (case dcx2=>kernel_rfl)
  (case ftx2=>k_is)
  (case fpx2=>k_is)
  (case fix2=>k_is)
  (case iix2=>(refine' Ov.ini_mk ?l ?c ?k;(case l=>k_is);(case c=>k_is);(case k=>k_is)))
  (case tix2=>k_is)
  (case ex2=>kernel_rfl)
  (case snx2=>k_is)
  (case gax2=>k_is)
  (case gtx2=>k_is)
  (case clx2=>k_is)
  (case obx2=>k_is)
  (case bex2=>k_is)
  (case svx2=>k_is)
  (case nx3=>k_is)
  (case dcx3=>kernel_rfl)
  (case ftx3=>k_is)
  (case fpx3=>k_is)
  (case fix3=>k_is)
  (case iix3=>(refine' Ov.ini_mk ?l ?c ?k;(case l=>k_is);(case c=>k_is);(case k=>k_is)))
  (case tix3=>k_is)
  (case ex3=>kernel_rfl)
  (case snx3=>k_is)
  (case gax3=>k_is)
  (case gtx3=>k_is)
  (case clx3=>k_is)
  (case obx3=>k_is)
  (case bex3=>k_is)
  (case svx3=>k_is)
  (case nx4=>k_is)
  (case dcx4=>kernel_rfl)
  (case ftx4=>k_is)
  (case fpx4=>k_is)
  (case ex4=>k_exc)
  (case gax4=>k_is)
  (case gtx4=>k_is)
  (case clx4=>k_is)
  (case obx4=>k_is)
  (case bex4=>k_is)
  (case svx4=>k_is)
  (case nx5=>k_is)
  (case dcx5=>kernel_rfl)
  (case ftx5=>k_is)
  (case fpx5=>k_is)
  (case ex5=>k_exc)
  (case gax5=>k_is)
  (case gtx5=>k_is)
  (case clx5=>k_is)
  (case obx5=>k_is)
  (case bex5=>k_is)
  (case svx5=>k_is)
  (case nx6=>k_is)
  (case sax6=>k_is)
  (case sbx6=>k_is)
  (case scx6=>k_is)
  (case dcx6=>kernel_rfl)
  (case ftx6=>k_is)
  (case fpx6=>k_is)
  (case ex6=>k_exc)
  (case gax6=>k_is)
  (case gtx6=>k_is)
  (case clx6=>k_is)
  (case obx6=>k_is)
  (case bex6=>k_is)
  (case svx6=>k_is)
  (case sux0x6=>k_is)
  (case sux0x3=>k_is)
  (case sux1x6=>k_is)
  (case sux1x3=>k_is)
  (case sux2x6=>k_is)
  (case sux2x3=>k_is)
  (case sux3x6=>k_is)
  (case sux3x3=>k_is)
  (case sux4x6=>k_is)
  (case sux4x3=>k_is)
  (case sux5x6=>k_is)
  (case sux5x3=>k_is)
  (case sux6x6=>k_is)
  (case sux6x3=>k_is)
  (case z0=>k_is)
  (case z1=>k_is)
  (case z2=>k_is)
  (case z3=>k_is)
  (case z4=>k_is)
  (case z5=>k_is)
  (case z6=>k_is)
  (case z7=>k_is)
  (case z8=>k_is)
  (case z9=>k_is)
  (case z10=>k_is)
  (case z11=>k_is)
  (case z12=>k_is)
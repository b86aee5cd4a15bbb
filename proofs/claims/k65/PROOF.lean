import PyProof.Rows.All
import Wide.All
import OpenK.AllK
import Wide.FinOn
import PyProof.EqAt
import KE.KSortTup
import PyProof.EqKinds
import PyProof.TupleCall
import Lean
import PySem.Challenge.RW_ovalfield_k65_whole_six_points
set_option Elab.async false
set_option linter.all false
set_option maxRecDepth 100000
set_option maxHeartbeats 4000000
open Option renaming some→Aa,none→Af,bind_eq_some_iff→AX,map_some→DF,getD_none→SY,isSome_iff_exists→SZ
open Bool renaming true→Ab,false→Ad,and_eq_true→Al,false_ne_true→Av,not_eq_true'→Bv,toNat_true→Ce,eq_iff_iff→CI,or_eq_true→C5,and_false→GE,and_true→R8,false_eq_true→R9
open _root_ renaming List→Ac,Int→Ae,Nat→Ag,Bool→An,Option→Aq,if_pos→AB,if_neg→AM,decide_eq_true→AW,decide_eq_true_eq→A7,False→Bb,Array→Bi,or_false→Bl,beq_iff_eq→Bp,decide_eq_false→Cv,beq_eq_false_iff_ne→CQ,not_or→CS,beq_self_eq_true→C0,not_false_eq_true→De,of_decide_eq_true→Dg,String→Ds,Decidable→EH,and_true→Fo,if_true→FZ,if_false→Gm,True→GS,bne_iff_ne→G7,decide_eq_false_iff_not→jZ
open PySem renaming Str→Ah,Value→Aj,Addr→Ak,wpAny_bind→Am,Expr→Ao,Shared→Ap,starEach→Ay,wpAny→AH,wpAny_pure→AJ,Heap→AK,Program→AS,Pos→AU,World→AY,mainGlobals→A1,Around→A6,Stmt→Bz,binaryOp→BO,Env→BP,assignEach→BQ,cLine→BV,Scope→BY,wpAny_field→BZ,FuncData→B2,wpAny_mono→B4,compareOp→Ca,wpAny_truthy_bool→Cb,mem_of_lookup→Cc,foldedSetIterable→Cs,backTo→Cz,bootBuiltins→CA,cellsFrom→CF,wpAny_newObj_type→CM,wpAny_holding→CN,Tok→CO,wpAny_callSpecial?_slot→CP,wpAny_seqItems→CY,wpAny_setField_rec→C3,swappedStores→Db,wpAny_pyIter_list→Dd,NameKind→Dp,Obj→Dq,swapsWith→DG,CmpOp→DK,IsPair→DM,wpAny_call_entry→DR,sizeLine_eq→D3,sliceBounds→D4,wpAny_passesOwn→Ec,wpAny_pyIter_tuple→Eh,swapsWithSole→Ev,wpAny_onRaise→Ew,PassesOwn→EK,IsZip→ET,letOwnedTupleGo→EX,wpAny_updateSeq_pair→EY,codeAny→Fb,pushCells→Fs,rawInt→Ft,seqIndex?→Fu,wpAny_Call_Name_kw→Fv,attributeBase→FA,behindInMarks→FB,wpAny_standAt→FC,BindsTo→FS,Keyword→FT,callerA→FU,standAt→FW,IsPart→F4,Operator→F6,Paired→F7,pushCells_keeps→Gq,isTrue→GK,newFunctionEnv→GL,notedBy→GM,pyNext→GN,bindC→GO,bindL→GP,builtinsNs→GQ,numAt→GR,codeAny_mono→Hd,concat_meets→He,lastMarks→Hf,preSum→Hg,seqIndex_neg→Hh,getItem→Ho,setItem→Hq,seqIndex_of→Hu,wpAny_letGo→Hv,Model→HU,Result→HV,call→HZ,sysModules→H9,wpAny_Name→Ia,wpAny_rule→Ib,GenState→Ja,IntMulOk→Jb,Params→Jc,bindArgs→Jd,intItems→Je,pyIter→Jf,call_sum_walkG→TY,firstArgMember→TZ,noFill_tuple_add→T2,recursionLimit→T3,slot_list_getitem→T4,wpAny_assign_Name→T5,wpAny_comprehension_free→T6,wpAny_execs_nil→T7,wpAny_pyIter_enum→T8,wpAny_pyIter_zip→T9,wpAny_pyNext_list_end→Ua,wpAny_pyNext_list_item→Ub,wpAny_setField→Uc
open List renaming mem_cons→As,mem_cons_of_mem→At,mem_cons_self→Aw,size_toArray→Ax,getElem?_eq_some_iff→AE,not_mem_nil→AF,mem_singleton→AR,length_set→A9,mem_append_right→Bg,mem_filter→Bj,getElem?_eq_getElem→Bo,map_cons→Bq,length_map→BE,nodup_cons→BF,length_cons→BG,lookup_cons→BR,length_append→B1,append_nil→Cf,mem_append_left→Cn,range→Co,getElem?_map→Cr,mem_append→Cu,getElem?_set_self→Cy,mem_map→CJ,filter_cons→CT,mem_range→CU,nodup_nil→CV,perm_append_comm→C7,getD_eq_getElem?_getD→C8,isEmpty_eq_false_iff→Di,zipWith→Dm,all_eq_true→DP,map→DQ,drop_eq_getElem_cons→D9,getElem?_append_left→Ea,sublist_append_left→Ee,getElem?_set_self'→El,range_succ_eq_map→Er,getElem_mem→Ey,length_singleton→EI,getElem?_set_ne→EL,map_nil→EM,mem_of_getElem?→EN,toArray→EO,filterMap_cons→E3,getElem_of_mem→E5,map_congr_left→E6,forIn_nil→E9,all_cons→Fx,getElem?_set→FO,isEmpty_iff→F0,length_take→F1,map_map→F2,forIn_cons→Gn,of_mem_zip→Go,any_cons→Sh,any_eq_true→Si,any_map→Sj,append_assoc→Sk,contains_eq_mem→So,drop_eq_nil_of_le→Sq,ext_getElem?→Sr,filter_nil→Su,getElem?_append_right→Sv,getElem?_cons_succ→Sw,getElem?_cons_zero→Sy,getElem?_replicate→Sz,length→SD,length_drop→SF,length_replicate→SG,lookup→SH,map_append→SJ,mem_filterMap→SK,nil_append→SL,replicate→SM,reverse_cons→SN,set_set→SQ,zipIdx_cons→SR,zipIdx_nil→SU
open PySem.Heap renaming get?_push_of_some→Au,lt_size→Az,get?_push_size→AG,size_push→BJ,SameBut→Eg,ExtBut→Gu,FlyingW→To,MadeExcOf→Tp,get?_none_of_le→Ts,get?_push_cases→Tt,get?_update_other→Tu,get?_update_self→Tv
open Nat renaming lt_of_lt_of_le→AI,le_refl→AV,ne_of_lt→A3,lt_irrefl→Bh,le_trans→Cj,lt_succ_of_lt→CK,ble→DD,ne_of_gt→Ef,lt_succ_self→Ez,le_of_ble_eq_true→EJ,le_of_lt→EQ,pow_le_pow_right→ER,lt_of_le_of_lt→Fp,not_lt_zero→Gp,le_succ→Gr,zero_le→Gs,ble_eq→HP,min_self→SV,not_lt→SX
open Int renaming emod_eq_of_lt→AO,emod_lt_of_pos→A5,emod_nonneg→A8,zero_emod→Bc,emod_emod_of_dvd→Bf,mul_emod→Bk,mul_comm→Bs,dvd_refl→BW,mul_zero→B8,one_mul→Cw,mul_one→C1,zero_mul→C2,toNat_natCast→DJ,zero_add→Ed,mul_assoc→Fw,le_trans→Ha,sub_zero→Hb,le_refl→Hr,mul_pos→Hs,add_emod→Sc,ediv_nonneg→Sd,mul_nonneg→Se,sub_emod→Sf,zero_sub→Sg
open PySem.Str renaming ofString→AQ
open Prod renaming ext→Br
open Option.some renaming inj→Bt,injEq→BU
open PySem.Builtin.SmallTypes renaming nextOf→Bu,ownedTupleIsFree→Cp,ownedTupleHandOut→S9
open PySem.W renaming mg_none_of→BA,nsIn→BX,keepIn→CW,fnOf→Dr,hideAll_get→Dx,OpenLaw→Eu,hideAll→EV,hideAll_none→EW,codeIn→Fa,of_hideAll→Fq,methodObj→FP,findIn→GJ,mg_of→G8,WalkO→TN,cellsFrom_some→TQ,funFrames_hide→TR,kIn_of→TU,kitOne→TV,subIn→TW
open PySem.NameKind renaming cell→BH,free→Da
open PyProof.Rows renaming callWith_type1→BM,envOfC→D0,AllBare→Ek,boot_list→Et,IntsAre→GI,Call_→HQ,IsTup→HR,boot_range→HS,boot_tuple→S3,slicePart_none→S4,slot_tuple_getitem→S5,subscriptTail_builtinR→S6
open Classical renaming byContradiction→CG,choose_spec→DL,choose→Sa
open PySem.F renaming slot_tuple_iterator_next→C9,plainAttrs_list→Em,slot_zip_next→ES,args_tuple_add_2→Te,args_tuple_iterator_next_1→Tf,args_zip_next_1→Tg,entry_tuple_add→Th,entry_tuple_iterator_next→Ti,entry_zip_next→Tj,slot_list_append→Tk,slot_tuple_add→Tl,type_list_append→Tn
open False renaming elim→Dh
open PySem.Builtin.Slice renaming slicePlaces→Dj,sliceAdjust→Eb,sliceApplied→S8
open Ne renaming symm→Dl
open PySem.Builtin.Tuple renaming tupleExact→Do
open ForInStep renaming yield→DE
open Array renaming length_toList→D5,toList→G9,getElem?_eq_getElem→R6,getElem?_toList→R7
open PySem.SeqAt renaming EqAt→EU,RcNeAt→Hc,RcAt→HW
open List.Perm renaming cons→E7,swap→E8,refl→GH
open PySem.Obj renaming mapSeq→FQ,data_mapFields→Tx
open Sum renaming inl→FX,inr→FY
open PySem.Shared renaming heap→Ht
open PySem.Value renaming none→HX,bool→TD,int→TF,ref→TH,str→TJ,type→TK
open PySem.Walks renaming list→HY,tuple→TX
open NeZero renaming ne→IW
open PyProof.Rows.IsTup renaming new→IX
open PySem.Data renaming cell→IY,seq→IZ
open Function renaming comp_def→Sb
open List.cons renaming injEq→Sn
open Prod.mk renaming injEq→S0
open PySem.Builtin.Int renaming intBits→S7
open PySem.Calls renaming Name_function_global→Ta,spliced_cons→Tb,spliced_nil→Td
open PySem.Heap.SameBut renaming refl→Tq,update→Tr
open PySem.IsRange renaming new→Tw
open PySem.Paired renaming length→Tz
open PySem.SeqAt.EqAt renaming of_refs→TB,same→TC
open PySem.W.WData renaming int→TL
open PySem.W.WShape renaming has→TM
abbrev Fg:=PySem.W.Frag
abbrev Pn:=Ac (PySem.Addr×PySem.Obj)
abbrev Vq:=PySem.Value->PySem.Shared->Prop
set_option genSizeOfSpec false
-- CHANGE: your row's module here,as the last of these rows
namespace L2
open PySem PySem.Spec PyProof.Rows
abbrev Key:=Sum Ae Ah
noncomputable def Rb:Key->Aj->An
 |.inl k,v=>Value.isInt k v
 |.inr x,v=>Value.isStrOf x v
noncomputable def iY(w:AY):Key->Ae
 |.inl k=>hashInt k
 |.inr x=>hashStr w x
theorem GU:∀{k:Key}{v:Aj},Rb k v=Ab->(∃ i t,k=FX i/\v=TF i t)\/(∃ x t,k=FY x/\v=TJ x t)
 |.inl i,v,h=>by
  obtain⟨t,e⟩:=Value.isInt_shape (k:=i) (v:=v) h;exact .inl ⟨i,t,rfl,e⟩
 |.inr x,v,h=>by
  obtain⟨t,e⟩:=Value.isStrOf_shape (x:=x) (v:=v) h;exact .inr ⟨x,t,rfl,e⟩
theorem aK(a b:Ae):decide ((FX a:Key)=FX b)=(a==b):=by
 by_cases e:a=b
 ·subst e;simp
 ·have h:¬ (FX a:Key)=FX b:=fun q=>e (Sum.inl.inj q)
  rw[Cv h];exact(CQ.mpr e).symm
theorem aH(a b:Ah):decide ((FY a:Key)=FY b)=decide (a=b):=by
 by_cases e:a=b
 ·subst e;simp
 ·have h:¬ (FY a:Key)=FY b:=fun q=>e (Sum.inr.inj q)
  rw[Cv h,Cv e]
theorem aJ(a:Ae)(b:Ah):decide ((FX a:Key)=FY b)=Ad:=Cv (fun q=>nomatch q)
theorem aI(a:Ah)(b:Ae):decide ((FY a:Key)=FX b)=Ad:=Cv (fun q=>nomatch q)
noncomputable def Mi(prog:AS)(w:AY):PySem.KeyKind prog w Key where
 is:=Rb
 hash:=iY w
 inj:=fun v a b ha hb=>by
  rcases GU ha with ⟨i,t,rfl,rfl⟩|⟨x,t,rfl,rfl⟩
  ·rcases GU hb with ⟨j,u,rfl,e⟩|⟨y,u,rfl,e⟩
   ·injection e with e1 _;rw[e1]
   ·exact nomatch e
  ·rcases GU hb with ⟨j,u,rfl,e⟩|⟨y,u,rfl,e⟩
   ·exact nomatch e
   ·injection e with e1 _;rw[e1]
 byValue:=fun k v h=>by
  rcases GU h with ⟨i,t,rfl,rfl⟩|⟨x,t,rfl,rfl⟩<;>rfl
 pyHash:=fun hv h=>by
  rcases GU hv with ⟨i,t,rfl,rfl⟩|⟨x,t,rfl,rfl⟩
  ·exact wpAny_pyHash_int h
  ·exact wpAny_pyHash_str h
 eqBool:=fun hu hv h=>by
  rcases GU hu with ⟨i,t,rfl,rfl⟩|⟨x,t,rfl,rfl⟩
  ·rcases GU hv with ⟨j,u,rfl,rfl⟩|⟨y,u,rfl,rfl⟩
   ·rw[aK]at h;exact wpAny_eqBool_int h
   ·rw[aJ]at h;exact SeqAt.EqAt.int_str i t y u _ _ _ _ h
  ·rcases GU hv with ⟨j,u,rfl,rfl⟩|⟨y,u,rfl,rfl⟩
   ·rw[aI]at h;exact SeqAt.EqAt.str_int x t j u _ _ _ _ h
   ·rw[aH]at h;exact wpAny_eqBool_str h
 «strs»:=fun k x t v h=>by
  rcases GU h with ⟨i,u,rfl,e⟩|⟨y,u,rfl,e⟩
  ·exact nomatch e
  ·injection e with e1 _
   subst e1;cases v<;>rfl
end L2
namespace L2
open PySem PySem.Spec PyProof.Rows
variable{us:Ac Aj}{a b it:Ak}{P:AS}{h:AK}{o:Dq}{g':Bi Ja}{t' i k n:Ag}{d':Drawn}{ch fp:Ac Ak}{x qual:Ah}{M:HU}{u:Aj}{Q:Unit->Ap->Prop}{e tg:Ao}{s:Ap}{pos p:AU}{pI:Pn}{es:Ac Ao}{body:Ac Bz}{f:Aj->Aj->Sem Aj}{g:Ae->Ae->Ae}{op:DK}{fd:B2}{ps:Ac Ah}{scope:BY}
inductive V where
 |non|bl (b:An)|int (i:Ae)|str (x:Ah)|byt (b:Bi UInt8)|flt (b:UInt64)|ref (a:Ak)|ty (n:Ds)
 deriving DecidableEq
variable{xs vs:Ac V}{v:V}
def By:V->Aj->Prop
 |.non,u=>u=HX
 |.bl b,u=>u=TD b
 |.int i,u=>∃ t,u=TF i t
 |.str x,u=>∃ t,u=TJ x t
 |.byt b,u=>∃ t,u=Value.bytes b t
 |.flt b,u=>∃ t,u=Value.float b t
 |.ref a,u=>u=TH a
 |.ty n,u=>u=TK n
noncomputable abbrev AZ:Ac V->Ac Aj->Prop:=F7 By
theorem AZ.length(r:AZ xs us):xs.length=us.length:=Tz r
theorem AZ.get:∀{xs:Ac V}{us:Ac Aj}{i:Ag}{x:V},AZ xs us->xs[i]?=Aa x->∃ u,us[i]?=Aa u/\By x u
 |_,_,_,_,.nil,e=>by simp at e
 |_,_,0,_,.cons r _,e=>by simp at e;subst e;exact⟨_,rfl,r⟩
 |_,_,i+1,x,.cons _ t,e=>by
  obtain⟨u,h1,h2⟩:=AZ.get (i:=i) (x:=x) t (by simpa using e)
  exact⟨u,by simpa using h1,h2⟩
theorem AZ.set{x:V}{u:Aj}(r:By x u):∀{xs:Ac V}{us:Ac Aj}(i:Ag),AZ xs us->AZ (xs.set i x) (us.set i u)
 |_,_,_,.nil=>.nil
 |_,_,0,.cons _ t=>.cons r t
 |_,_,i+1,.cons q t=>.cons q (AZ.set r i t)
theorem AZ.append:∀{xs ys:Ac V}{us ws:Ac Aj},AZ xs us->AZ ys ws->AZ (xs++ys) (us++ws)
 |_,_,_,_,.nil,s=>s
 |_,_,_,_,.cons r t,s=>.cons r (AZ.append t s)
theorem AZ.take:∀{xs:Ac V}{us:Ac Aj}(n:Ag),AZ xs us->AZ (xs.take n) (us.take n)
 |_,_,0,_=>.nil
 |_,_,_+1,.nil=>.nil
 |_,_,n+1,.cons r t=>.cons r (AZ.take n t)
theorem AZ.drop:∀{xs:Ac V}{us:Ac Aj}(n:Ag),AZ xs us->AZ (xs.drop n) (us.drop n)
 |_,_,0,r=>r
 |_,_,_+1,.nil=>.nil
 |_,_,n+1,.cons _ t=>AZ.drop n t
def R0:Aq V->Aq Aj->Prop
 |some v,Aa u=>By v u
 |none,Af=>GS
 |_,_=>Bb
def KV{κ:Type}:Ac (κ×V)->Ac (κ×Aj)->Prop:=F7 fun(p:κ×V)(q:κ×Aj)=>p.1=q.1/\By p.2 q.2
noncomputable def kV:Key->V
 |.inl i=>.int i
 |.inr x=>.str x
inductive HO where
 /-- a list -/
 |lst (xs:Ac V)
 /-- a tuple (never changes) -/
 |tup (xs:Ac V)
 /-- a dict whose keys are ints and texts;one whose keys are tuples of ints and texts (the empty one is both) -/
 |dK (kvs:Ac (Key×V))|dT (kvs:Ac (Ac Key×V))
 /-- a set of ints: its members,its size -/
 |set (S:Ae->An) (n:Ag)
 /-- an instance of the class at C,its dict at dx,its attributes -/
 |ins (C dx:Ak) (fs:Ac (Ah×V))
 /-- the dict of the instance at x -/
 |own (x:Ak)
 /-- the dict of an exception -/
 |xd (fs:Ac (Ah×V))
 /-- a bound method,f of x -/
 |met (f x:Ak)
 /-- a range object lo,lo+1,.. below hi -/
 |rng (lo hi:Ae)
 /-- a thing that is known to the object (the script;a dict while a loop walks it): read,never written while it is so -/
 |frz (o:Dq) (u:HO)
 /-- a code object's table -/
 |tbl (ps:Bi Aj)
 /-- any other thing,by what is Ab of its one object (a def of one's own: SetO a S n:=HO.ext fun h=>..) -/
 |ext (φ:AK->Prop)
abbrev Hp:=Ak->Aq HO
variable{H:Hp}
noncomputable def upd(H:Hp)(a:Ak)(o:HO):Hp:=fun b=>if b=a then Aa o else H b
theorem F8{o:HO}:upd H a o a=Aa o:=by unfold upd;rw[AB rfl]
theorem Ch{o:HO}(h:b≠a):upd H a o b=H b:=by unfold upd;rw[AM h]
theorem EC{o:HO}(h:H a=Aa o)(h':H b=Af):a≠b:=by
 intro e;subst e;rw[h]at h';cases h'
section
variable(P:AS)(w:AY)
def ObjOk(H:Hp)(h:AK)(a:Ak):HO->Prop
  |.lst xs=>xs.length<=sizeLine/\∃(its:Ac Aj)(n:Ag),AZ xs its/\h.get? a=Aa { cls:=.type "list", data:=.seq its.toArray n }
  |.tup xs=>xs.length<=sizeLine/\∃ its:Ac Aj,AZ xs its/\HR h a its.toArray
  |.dK kvs=>kvs.length<=sizeLine/\(a==H9)=Ad/\∃ vs,KV kvs vs/\h.DictOf (Mi P w) a vs
  |.dT kvs=>kvs.length<=sizeLine/\(a==H9)=Ad/\∃ xs:Ac (Ac Key×Ak×Aj),
      F7 (fun(p:Ac Key×V)(q:Ac Key×Ak×Aj)=>p.1=q.1/\H q.2.1=Aa (.tup (p.1.map kV))/\By p.2 q.2.2) kvs xs /\
      ∃ o es ep,h.get? a=Aa o/\o.ExactDict/\o.data=.dict es ep/\es.toList=xs.map (entryOfKey (tupleKind (Mi P w)))/\(xs.map (·.1)).Nodup
  |.set S n=>h.SetOf (intKind P w) a S n
  |.ins C dx fs=>H dx=Aa (.own a)/\fs.length<=1000/\dx≠a/\h.get? a=Aa (PySem.W.instObj C dx) /\
      ∃ mA,h.Ns1 dx mA/\(∀ f,R0 (fs.lookup f) (mA f))/\PySem.Within mA (fs.map (·.1))
  |.own _=>∃ o,h.get? a=Aa o
  |.xd fs=>∃ mA,h.Ns1 a mA/\∀ f,R0 (fs.lookup f) (mA f)
  |.rng lo hi=>∃ t u v,h.get? a=Aa { cls:=.type "range", data:=.fields #[.int lo t,.int hi u,.int 1 v] }
  |.frz o u=>h.get? a=Aa o/\ObjOk H h a u
  |.tbl ps=>h.get? a=Aa {cls:=.none,data:=.fields ps}
  |.met f x=>h.get? a=Aa (FP (.ref f) (.ref x))
  |.ext φ=>φ h/\(∃ o,h.get? a=Aa o)/\∀ h1 h2:AK,φ h1->(∀ o,h1.get? a=Aa o->h2.get? a=Aa o)->φ h2
def HOk(H:Hp)(h:AK):Prop:=∀ a o,H a=Aa o->ObjOk P w H h a o
end
section
variable{P:AS}{w:AY}{H H':Hp}{h h':AK}{a:Ak}{o:HO}
theorem ObjOk.lt(x:ObjOk P w H h a o):a<h.objs.size:=by
 cases o with
 |lst xs=>obtain⟨_,_,_,_,e⟩:=x;exact Az e
 |tup xs=>obtain⟨_,_,_,p⟩:=x;exact p.lt
 |dK kvs=>obtain⟨_,_,_,_,o,_,_,e,_⟩:=x;exact Az e
 |dT kvs=>obtain⟨_,_,_,_,o,_,_,e,_⟩:=x;exact Az e
 |set S n=>obtain⟨o,_,_,_,e,_⟩:=x;exact Az e
 |ins C dx fs=>obtain⟨_,_,_,e,_⟩:=x;exact Az e
 |own y=>obtain⟨_,e⟩:=x;exact Az e
 |xd fs=>obtain⟨_,⟨_,_,_,e,_⟩,_⟩:=x;exact Az e
 |rng lo hi=>obtain⟨_,_,_,e⟩:=x;exact Az e
 |frz ob u=>obtain⟨e,_⟩:=x;exact Az e
 |tbl ps=>exact Az (show h.get? a=Aa _ from x)
 |met f y=>exact Az (show h.get? a=Aa _ from x)
 |ext φ=>obtain⟨_,⟨_,e⟩,_⟩:=x;exact Az e
theorem F7.mapP{α β:Type}{F G:α->β->Prop}:∀{l₁:Ac α}{l₂:Ac β},F7 F l₁ l₂->(∀ a b,F a b->G a b)->F7 G l₁ l₂
 |_,_,.nil,_=>.nil
 |_,_,.cons r t,f=>.cons (f _ _ r) (F7.mapP t f)
theorem ObjOk.stay(x:ObjOk P w H h a o)(k:∀ b u,(b=a\/H b=Aa (.own a))->h.get? b=Aa u->h'.get? b=Aa u)(ho:∀ b,H b=Aa (.own a)->H' b=Aa (.own a))(ht:∀ b xs,H b=Aa (.tup xs)->H' b=Aa (.tup xs)):ObjOk P w H' h' a o:=by
 induction o with
 |lst xs=>obtain⟨z,its,n,r,e⟩:=x;exact⟨z,its,n,r,k _ _ (.inl rfl) e⟩
 |tup xs=>obtain⟨z,its,r,ob,e,c⟩:=x;exact⟨z,its,r,ob,k _ _ (.inl rfl) e,c⟩
 |dK kvs=>obtain⟨z,y,vs,r,ob,es,ep,e,c⟩:=x;exact⟨z,y,vs,r,ob,es,ep,k _ _ (.inl rfl) e,c⟩
 |dT kvs=>
  obtain⟨z,y,xs,r,ob,es,ep,e,c⟩:=x;exact⟨z,y,xs,F7.mapP r fun p q z=>⟨z.1,ht _ _ z.2.1,z.2.2⟩,ob,es,ep,k _ _ (.inl rfl) e,c⟩
 |set S n=>obtain⟨ob,es,ep,t,e,c⟩:=x;exact⟨ob,es,ep,t,k _ _ (.inl rfl) e,c⟩
 |ins C dx fs=>
  obtain⟨d,z,ne,e,mA,⟨od,es,ep,e2,c⟩,r⟩:=x;exact⟨ho _ d,z,ne,k _ _ (.inl rfl) e,mA,⟨od,es,ep,k _ _ (.inr d) e2,c⟩,r⟩
 |own y=>obtain⟨ob,e⟩:=x;exact⟨ob,k _ _ (.inl rfl) e⟩
 |xd fs=>obtain⟨mA,⟨od,es,ep,e,c⟩,r⟩:=x;exact⟨mA,⟨od,es,ep,k _ _ (.inl rfl) e,c⟩,r⟩
 |rng lo hi=>obtain⟨t,u,v,e⟩:=x;exact⟨t,u,v,k _ _ (.inl rfl) e⟩
 |frz ob u ih=>obtain⟨e,q⟩:=x;exact⟨k _ _ (.inl rfl) e,ih q⟩
 |tbl ps=>
  have e:h.get? a=Aa {cls:=.none,data:=.fields ps}:=x;show h'.get? a=Aa {cls:=.none,data:=.fields ps};exact k a _ (.inl rfl) e
 |met f y=>
  have e:h.get? a=Aa (FP (.ref f) (.ref y)):=x;show h'.get? a=Aa (FP (.ref f) (.ref y));exact k a _ (.inl rfl) e
 |ext φ=>obtain⟨p,⟨o,e⟩,st⟩:=x;exact⟨st _ _ p fun o q=>k _ _ (.inl rfl) q,⟨o,k _ _ (.inl rfl) e⟩,st⟩
theorem HOk.lt(x:HOk P w H h)(e:H a=Aa o):a<h.objs.size:=(x a o e).lt
theorem HOk.fresh(x:HOk P w H h)(e:h.objs.size<=a):H a=Af:=by
 cases q:H a with
 |none=>rfl
 |some u=>exact absurd (AI (x.lt q) e) (Bh _)
theorem HOk.kept(x:HOk P w H h)(k:∀ b u,h.get? b=Aa u->h'.get? b=Aa u):HOk P w H h':=fun a o e=>
 (x a o e).stay (fun b u _ q=>k b u q) (fun _ q=>q) fun _ _ q=>q
theorem HOk.laid(x:HOk P w H h)(k:∀ b u,h.get? b=Aa u->h'.get? b=Aa u)(hp:h.objs.size<=a)(new:ObjOk P w (upd H a o) h' a o):HOk P w (upd H a o) h':=fun b u e=>by
 have hn:=x.fresh hp;by_cases hb:b=a
 ·subst hb;rw[F8]at e;cases e;exact new
 ·rw[Ch hb]at e;exact(x b u e).stay (fun c v _ q=>k c v q) (fun c q=>by rw[Ch (EC q hn)];exact q) fun c xs q=>by rw[Ch (EC q hn)];exact q
end
def Rd(H:Hp)(a:Ak)(u:HO):Prop:=H a=Aa u\/∃ o,H a=Aa (.frz o u)
theorem Rd.ok{w:AY}{u:HO}(r:Rd H a u)(x:HOk P w H h):ObjOk P w H h a u:=by
 rcases r with r|⟨o,r⟩
 ·exact x a u r
 ·obtain⟨_,q⟩:=x a _ r;exact q
def Mut:Aq HO->Prop
 |some (.lst _)=>GS
 |some (.dK _)=>GS
 |some (.dT _)=>GS
 |some (.set _ _)=>GS
 |some (.ins _ _ _)=>GS
 |some (.ext _)=>GS
 |_=>Bb
section
variable{P:AS}{w:AY}{H:Hp}{h h':AK}{x e:Ak}{o':HO}
theorem HOk.write(ok:HOk P w H h)(mu:Mut (H x))(he:e=x\/H e=Aa (.own x))(k:∀ b u,b≠e->h.get? b=Aa u->h'.get? b=Aa u)(heo:∃ u,h'.get? e=Aa u)(new:ObjOk P w (upd H x o') h' x o'):HOk P w (upd H x o') h':=fun b u q=>by
 have nown:∀ c y,H c=Aa (.own y)->c≠x:=fun c y r z=>by subst z;rw[r]at mu;exact mu
 have ntup:∀ c xs,H c=Aa (.tup xs)->c≠x:=fun c xs r z=>by subst z;rw[r]at mu;exact mu
 by_cases hb:b=x
 ·subst hb;rw[F8]at q;cases q;exact new
 ·rw[Ch hb]at q;by_cases hbe:b=e
  ·have q':H b=Aa (.own x):=by
    rcases he with z|z
    ·exact absurd (hbe.trans z) hb
    ·rw[hbe];exact z
   rw[q]at q';cases q';obtain⟨v,hv⟩:=heo;exact⟨v,by rw[hbe];exact hv⟩
  ·refine(ok b u q).stay (fun c v hc r=>k c v ?_ r) (fun c r=>by rw[Ch (nown c b r)];exact r) fun c xs r=>by rw[Ch (ntup c xs r)];exact r
   rcases hc with rfl|hc
   ·exact hbe
   ·rintro rfl;rcases he with z|z
    ·exact nown c b hc z
    ·rw[hc]at z;cases z;exact hb rfl
end
structure Un (fs ex:Ac Ak) (H H':Hp) (h h':AK):Prop where
 keep:∀ b o,h.get? b=Aa o->H b=Af->b∉fs->b∉ex->h'.get? b=Aa o
 slot:∀ b o,h.get? b=Aa o->H b=Af->b∈fs->b∉ex->∃ sl,h'.get? b=Aa {o with slots:=sl}
 free:∀ b o,h.get? b=Aa o->H b=Af->b∉ex->H' b=Af
 there:∀ b o,h.get? b=Aa o->b∉ex->∃ o',h'.get? b=Aa o'
 tups:∀ b xs,H b=Aa (.tup xs)->H' b=Aa (.tup xs)
 frzs:∀ b o u,H b=Aa (.frz o u)->H' b=Aa (.frz o u)
 tbls:∀ b ps,H b=Aa (.tbl ps)->∃ more,H' b=Aa (.tbl (ps++more))
section
variable{fs fs' ex ex':Ac Ak}{H H1 H2:Hp}{h h1 h2 h':AK}{a x e:Ak}{o:HO}
theorem Un.any(u:Un fs ex H H1 h h1){ob:Dq}(q:h.get? b=Aa ob)(n:H b=Af)(hx:b∉ex):∃ sl,h1.get? b=Aa {ob with slots:=sl}:=by
 by_cases hb:b∈fs
 ·exact u.slot b ob q n hb hx
 ·exact⟨ob.slots,u.keep b ob q n hb hx⟩
theorem Un.kept(k:∀ b u,h.get? b=Aa u->h'.get? b=Aa u):Un fs ex H H h h':=
 ⟨fun b ob q _ _ _=>k b ob q,fun b ob q _ _ _=>⟨ob.slots,k b ob q⟩,fun _ _ _ n _=>n,fun b ob q _=>⟨ob,k b ob q⟩,fun _ _ q=>q,fun _ _ _ q=>q,fun _ ps q=>⟨#[],by rw[q];simp⟩⟩
theorem Un.refl:Un fs ex H H h h:=Un.kept fun _ _ q=>q
theorem Un.laid(k:∀ b u,h.get? b=Aa u->h'.get? b=Aa u)(hp:h.objs.size<=a)(hn:H a=Af):Un fs ex H (upd H a o) h h' where
 keep:=fun b u q _ _ _=>k b u q
 slot:=fun b u q _ _ _=>⟨u.slots,k b u q⟩
 free:=fun b u q n _=>by rw[Ch (A3 (AI (Az q) hp))];exact n
 there:=fun b u q _=>⟨u,k b u q⟩
 tups:=fun b xs q=>by rw[Ch (EC q hn)];exact q
 frzs:=fun b u xs q=>by rw[Ch (EC q hn)];exact q
 tbls:=fun b ps q=>⟨#[],by rw[Ch (EC q hn),q];simp⟩
theorem Un.write(mu:Mut (H x))(he:e=x\/H e=Aa (.own x))(k:∀ b u,b≠e->h.get? b=Aa u->h'.get? b=Aa u)(heo:∃ u,h'.get? e=Aa u):Un fs ex H (upd H x o) h h':=by
 have hx:∀ b,H b=Af->b≠x:=fun b n z=>by subst z;rw[n]at mu;exact mu
 have hb:∀ b,H b=Af->b≠e:=fun b n z=>by
  subst z;rcases he with r|r
  ·exact hx b n r
  ·rw[n]at r;cases r
 have hm:∀ b u,H b=Aa u->¬ Mut (Aa u)->b≠x:=fun b u q nm z=>by subst z;rw[q]at mu;exact nm mu
 refine⟨fun b u q n _ _=>k b u (hb b n) q,fun b u q n _ _=>⟨u.slots,k b u (hb b n) q⟩,fun b u q n _=>by rw[Ch (hx b n)];exact n,fun b u q _=>?_,
  fun b xs q=>by rw[Ch (hm b _ q fun z=>z)];exact q,fun b u xs q=>by rw[Ch (hm b _ q fun z=>z)];exact q,fun b ps q=>⟨#[],by rw[Ch (hm b _ q fun z=>z),q];simp⟩⟩
 by_cases hbe:b=e
 ·subst hbe;exact heo
 ·exact⟨u,k b u hbe q⟩
end
noncomputable def trk(h:AK)(H:Hp):Ac Ak:=(Co h.objs.size).filter fun a=>(H a).isSome
noncomputable def G3(h:AK)(H:Hp):AK:=EV h (trk h H)
theorem Vh(h:AK)(H:Hp):(G3 h H).objs.size=h.objs.size:=PySem.W.hideAll_size _ _
theorem Vr(e:h.get? b=Aa o)(n:H b=Af):(G3 h H).get? b=Aa o:=
 Dx _ e fun hm=>by
  have q:(H b).isSome=Ab:=(Bj.mp hm).2;rw[n]at q;simp at q
theorem WT(e:(G3 h H).get? b=Aa o):h.get? b=Aa o/\H b=Af:=by
 have e':h.get? b=Aa o:=Fq (trk h H) e;refine⟨e',?_⟩;cases q:H b with
 |none=>rfl
 |some x=>
  have hm:b∈trk h H:=Bj.mpr ⟨CU.mpr (Az e'),by simp[q]⟩
  have z:(G3 h H).get? b=Af:=EW (trk h H) hm;rw[z]at e;cases e
noncomputable def XO(g h:AK)(L:Ak):Pn:=(Co h.objs.size).filterMap fun a=>if a=L\/(g.get? a).isSome=Ab then Af else (h.get? a).map fun o=>(a,o)
noncomputable def rest(g h:AK)(L d:Ak):Pn:=(XO g h L).filter fun p=>decide (p.1≠d)
structure Mod (K:Fg) (mg:Ah->Aq Aj) (base:AK):Prop where
 kin:K.In base
 glob:base.Ns A1 mg
 blt:∃ mb,base.Ns GQ mb/\∀ x:Ah,x≠"__name__"->mb x=CA x
 nolimit:base.NoLimit
structure Cx where
 prog:AS
 w:AY
 K:Fg
 mg:Ah->Aq Aj
 base:AK
 A:A6
 N:Ac Ah
 s₀:Ap
 H₀:Hp
 env:BP
 outer:Ac BP
 stack:Ac BP
 ex:Ac Ak
 fn:Ah->An
 calm:An
 pn:Pn
 xe:Aj->Ap->Prop
variable{X:Cx}
noncomputable def frs(l:Ac BP):Ac Ak:=l.filterMap (·.frame)
noncomputable abbrev Cx.fs(X:Cx):Ac Ak:=frs X.outer
def Vis(sc:BY)(x:Ah):Prop:=sc.names.lookup x=Aa .local\/sc.names.lookup x=Aa .cell\/sc.names.lookup x=Aa .free
def Loc(sc:BY)(x:Ah):Prop:=sc.names.lookup x=Aa .local\/sc.names.lookup x=Aa .cell
noncomputable def jU(env:BP)(h:AK)(m:Ah->Aq Aj)(x:Ah)(u:Aj):Prop:=
 (env.kindOf x=Aa .local/\m x=Aa u)\/((env.kindOf x=Aa .cell\/env.kindOf x=Aa .free)/\∃ c,env.cells.lookup x=Aa c/\h.IsCell c (Aa u))
structure Cx.Ok (X:Cx):Prop where
 mod:Mod X.K X.mg X.base
 kind:X.env.scope.kind=.function
 glob:X.env.globals=A1
 blt:X.env.builtins=GQ
 above:X.s₀.heap.objs.size<=X.env.locals
 inj:∀ x y c,X.env.cells.lookup x=Aa c->X.env.cells.lookup y=Aa c->x=y
 has:∀ x,(X.env.kindOf x=Aa .cell\/X.env.kindOf x=Aa .free)->∃ c,X.env.cells.lookup x=Aa c
 cab:∀ x c,X.fn x=Ab->X.env.cells.lookup x=Aa c->X.s₀.heap.objs.size<=c
 hd:X.calm=Ab->X.A.handled=Af
 frames:X.A.frames=Aa X.stack
 stk:X.stack=X.outer\/(X.stack=X.env::X.outer/\X.env.frame=Aa X.env.locals)
 exf:∀ b∈X.ex,b≠X.env.locals/\∀ x c,X.env.cells.lookup x=Aa c->c≠b
 bs:∀ b o,X.base.get? b=Aa o->X.s₀.heap.get? b=Aa o/\X.H₀ b=Af
 bsz:X.base.objs.size<=X.s₀.heap.objs.size
 noex:∀ b o,X.base.get? b=Aa o->b∉X.ex
 exfs:∀ b∈X.ex,b∉X.fs
 funs:X.s₀.heap.FunFrames X.base X.outer
 frf:∀ b∈X.fs,X.H₀ b=Af
structure Inv (X:Cx) (pI:Pn) (σ:Ac (Aq V)) (H:Hp) (s:Ap):Prop where
 ok:X.Ok
 os:s.os=X.s₀.os
 bare:Ek s.gens
 base:Un X.fs X.ex X.H₀ H X.s₀.heap s.heap
 loc:∃ m,s.heap.Ns X.env.locals m/\∀(i:Ag)(x:Ah)(v:V),X.N[i]?=Aa x->σ[i]?=Aa (Aa v)->Vis X.env.scope x->∃ u,By v u/\jU X.env s.heap m x u
 cell:∀ x c,X.env.cells.lookup x=Aa c->∃ v,s.heap.IsCell c v
 free:H X.env.locals=Af
 freeC:∀ x c,X.env.cells.lookup x=Aa c->H c=Af
 pin:∀ p∈X.pn++pI,s.heap.get? p.1=Aa p.2/\H p.1=Af/\p.1≠X.env.locals/\p.1∉X.fs/\∀ v,p.2.data≠.cell v
 hok:HOk X.prog X.w H s.heap
 len:σ.length=X.N.length
section
variable{X:Cx}{pI:Pn}{σ:Ac (Aq V)}{H H':Hp}{s:Ap}{h':AK}
theorem Cx.Ok.nofr(ok:X.Ok)(e:X.base.get? b=Aa o):b∉X.fs:=fun hb=>by
 have:=(ok.funs.mem hb).1;rw[e]at this;cases this
theorem Inv.bs(I:Inv X pI σ H s):∀ b o,X.base.get? b=Aa o->s.heap.get? b=Aa o/\H b=Af:=fun b o e=>
 ⟨I.base.keep b o (I.ok.bs b o e).1 (I.ok.bs b o e).2 (I.ok.nofr e) (I.ok.noex b o e),I.base.free b o (I.ok.bs b o e).1 (I.ok.bs b o e).2 (I.ok.noex b o e)⟩
theorem Inv.bk(I:Inv X pI σ H s):∀ b o,X.base.get? b=Aa o->s.heap.get? b=Aa o:=fun b o e=>(I.bs b o e).1
theorem Inv.mod(I:Inv X pI σ H s):Mod X.K X.mg X.base:=I.ok.mod
theorem Inv.kIn(I:Inv X pI σ H s):X.K.In s.heap:=I.ok.mod.kin.keeps I.bk
theorem Inv.lt(I:Inv X pI σ H s):X.env.locals<s.heap.objs.size:=let ⟨_,hn,_⟩:=I.loc;hn.lt
theorem Inv.sz(I:Inv X pI σ H s):X.s₀.heap.objs.size<=s.heap.objs.size:=Cj I.ok.above (EQ I.lt)
theorem Inv.nofs(I:Inv X pI σ H s)(h:s.heap.objs.size<=a):a∉X.fs:=fun hb=>by
 obtain⟨_,o,ho,_⟩:=I.ok.funs.mem hb;exact absurd (AI (Az ho) (Cj I.sz h)) (Bh _)
theorem Inv.cne(I:Inv X pI σ H s):∀ x c,X.env.cells.lookup x=Aa c->c≠X.env.locals:=fun x c e z=>by
 obtain⟨v,o,ho,hd⟩:=I.cell x c e;obtain⟨m,⟨o',es,ep,ho',hd',_⟩,_⟩:=I.loc;rw[z,ho']at ho;cases ho;rw[hd']at hd;cases hd
theorem Inv.funs(I:Inv X pI σ H s):s.heap.FunFrames X.base X.outer:=by
 have all:∀(l:Ac BP),(∀ b∈frs l,b∈X.fs)->X.s₀.heap.FunFrames X.base l->s.heap.FunFrames X.base l:=by
  intro l
  induction l with
  |nil=>intro _ _;trivial
  |cons env r ih=>
   intro hs hl;obtain⟨hk,⟨L,o,hf,hn,ho,hd⟩,hr⟩:=hl;have hL:L∈X.fs:=hs L (by unfold frs;rw[E3,hf];exact Aw)
   obtain⟨sl,e⟩:=I.base.slot L o ho (I.ok.frf L hL) hL fun z=>I.ok.exfs L z hL
   exact⟨hk,⟨L,_,hf,hn,e,hd⟩,ih (fun b hb=>hs b (by unfold frs;rw[E3,hf];exact At _ hb)) hr⟩
 exact all X.outer (fun _ hb=>hb) I.ok.funs
theorem Inv.stack(I:Inv X pI σ H s):s.heap.FunFrames X.base X.stack:=by
 rcases I.ok.stk with e|⟨e,hf⟩
 ·rw[e];exact I.funs
 ·rw[e];obtain⟨m,hn,_⟩:=I.loc;refine .cons (by rw[I.ok.kind];decide) hf hn ?_ I.funs
  exact Ts (Cj I.ok.bsz I.ok.above)
theorem Inv.stkSub(I:Inv X pI σ H s):∀ b∈frs X.stack,b∈X.env.locals::X.fs:=fun b hb=>by
 rcases I.ok.stk with e|⟨e,hf⟩
 ·rw[e]at hb;exact At _ hb
 ·rw[e]at hb;unfold frs at hb;rw[E3,hf]at hb;exact hb
theorem Inv.stkFree(I:Inv X pI σ H s):∀ b∈frs X.stack,H b=Af:=fun b hb=>by
 rcases As.mp (I.stkSub b hb) with e|hb
 ·rw[e];exact I.free
 ·obtain⟨_,o,ho,_⟩:=I.ok.funs.mem hb;exact I.base.free b o ho (I.ok.frf b hb) fun z=>I.ok.exfs b z hb
theorem Inv.step(I:Inv X pI σ H s)(hch:∀ b∈ch,(b∈X.ex\/X.s₀.heap.objs.size<=b)/\b≠X.env.locals/\(∀ x c,X.env.cells.lookup x=Aa c->c≠b)/\∀ p∈X.pn++pI,p.1≠b)(keep:∀ b o,b≠X.env.locals->b∉X.fs->b∉ch->s.heap.get? b=Aa o->H b=Af->h'.get? b=Aa o)(slot:∀ b o,b≠X.env.locals->b∈X.fs->b∉ch->s.heap.get? b=Aa o->H b=Af->∃ sl,h'.get? b=Aa {o with slots:=sl})(free:∀ b o,b∉ch->s.heap.get? b=Aa o->H b=Af->H' b=Af)(there:∀ b o,b∉ch->s.heap.get? b=Aa o->∃ o',h'.get? b=Aa o')(tups:∀ b xs,H b=Aa (.tup xs)->H' b=Aa (.tup xs))(frzs:∀ b o u,H b=Aa (.frz o u)->H' b=Aa (.frz o u))(tbls:∀ b ps,H b=Aa (.tbl ps)->∃ more,H' b=Aa (.tbl (ps++more)))(ns:∀ m,s.heap.Ns X.env.locals m->h'.Ns X.env.locals m)(hok:HOk X.prog X.w H' h')(hg:Ek g'):Inv X pI σ H' {s with heap:=h',gens:=g',drawn:=d',toks:=t'}:=by
 have neL:∀ b o,X.s₀.heap.get? b=Aa o->b≠X.env.locals:=fun b o e=>A3 (AI (Az e) I.ok.above)
 have neC:∀ b o,X.s₀.heap.get? b=Aa o->b∉X.ex->b∉ch:=fun b o e hx hb=>by
  rcases (hch b hb).1 with z|z
  ·exact hx z
  ·exact absurd (AI (Az e) z) (Bh _)
 have cellK:∀ x c,X.env.cells.lookup x=Aa c->∀ v,s.heap.IsCell c v->h'.IsCell c v:=fun x c e v ⟨o,ho,hd⟩=>by
  have nch:c∉ch:=fun z=>(hch c z).2.2.1 x c e rfl
  by_cases hc:c∈X.fs
  ·obtain⟨sl,q⟩:=slot c o (I.cne x c e) hc nch ho (I.freeC x c e);exact⟨_,q,hd⟩
  ·exact⟨o,keep c o (I.cne x c e) hc nch ho (I.freeC x c e),hd⟩
 refine⟨I.ok,I.os,hg,⟨fun b o e n hb hx=>?_,fun b o e n hb hx=>?_,fun b o e n hx=>?_,fun b o e hx=>?_,fun b xs e=>tups b xs (I.base.tups b xs e),fun b o xs e=>frzs b o xs (I.base.frzs b o xs e),fun b ps e=>?_⟩,?_,fun x c e=>?_,?_,fun x c e=>?_,fun p hp=>?_,hok,I.len⟩
 ·exact keep b o (neL b o e) hb (neC b o e hx) (I.base.keep b o e n hb hx) (I.base.free b o e n hx)
 ·obtain⟨sl,e1⟩:=I.base.slot b o e n hb hx;obtain⟨sl',e2⟩:=slot b _ (neL b o e) hb (neC b o e hx) e1 (I.base.free b o e n hx);exact⟨sl',e2⟩
 ·obtain⟨o',e1⟩:=I.base.there b o e hx;exact free b o' (neC b o e hx) e1 (I.base.free b o e n hx)
 ·obtain⟨o',e1⟩:=I.base.there b o e hx;exact there b o' (neC b o e hx) e1
 ·obtain⟨m1,e1⟩:=I.base.tbls b ps e;obtain⟨m2,e2⟩:=tbls b _ e1;exact⟨m1++m2,by rw[e2,Array.append_assoc]⟩
 ·obtain⟨m,hn,hl⟩:=I.loc;refine⟨m,ns m hn,fun i x v e1 e2 e3=>?_⟩
  obtain⟨u,r,l⟩:=hl i x v e1 e2 e3;refine⟨u,r,?_⟩;rcases l with l|⟨k,c,e,z⟩
  ·exact .inl l
  ·exact .inr ⟨k,c,e,cellK x c e _ z⟩
 ·obtain⟨v,z⟩:=I.cell x c e;exact⟨v,cellK x c e v z⟩
 ·obtain⟨m,⟨o,_,_,ho,_⟩,_⟩:=I.loc;exact free _ o (fun z=>(hch _ z).2.1 rfl) ho I.free
 ·obtain⟨v,o,ho,hd⟩:=I.cell x c e;exact free c o (fun z=>(hch c z).2.2.1 x c e rfl) ho (I.freeC x c e)
 ·obtain⟨e,n,ne,nf,d⟩:=I.pin p hp;have nch:p.1∉ch:=fun z=>(hch p.1 z).2.2.2 p hp rfl
  exact⟨keep p.1 p.2 ne nf nch e n,free p.1 p.2 nch e n,ne,nf,d⟩
theorem Inv.un(I:Inv X pI σ H s)(u:Un X.fs [] H H' s.heap h')(hok:HOk X.prog X.w H' h'):Inv X pI σ H' {s with heap:=h',toks:=t'}:=by
 obtain⟨m,⟨o,es,ep,ho,r⟩,_⟩:=id I.loc;obtain⟨sl,hL⟩:=u.any ho I.free (by simp)
 exact I.step (g':=s.gens) (d':=s.drawn) (ch:=[]) (fun _ z=>nomatch z) (fun b o _ hb _ e n=>u.keep b o e n hb (by simp)) (fun b o _ hb _ e n=>u.slot b o e n hb (by simp)) (fun b o _ e n=>u.free b o e n (by simp)) (fun b o _ e=>u.there b o e (by simp)) u.tups u.frzs u.tbls (fun m' hm=>by
  obtain⟨o',es',ep',ho',r'⟩:=hm;rw[ho]at ho';cases ho';exact⟨_,es',ep',hL,r'⟩) hok I.bare
theorem Inv.call(I:Inv X pI σ H s)(u:Un (frs X.stack) ch H H' s.heap h')(hok:HOk X.prog X.w H' h')(hg:Ek g')(hch:∀ b∈ch,(b∈X.ex\/X.s₀.heap.objs.size<=b)/\b≠X.env.locals/\(∀ x c,X.env.cells.lookup x=Aa c->c≠b)/\∀ p∈X.pn++pI,p.1≠b):Inv X pI σ H' {s with heap:=h',gens:=g',drawn:=d',toks:=t'}:=by
 obtain⟨m,⟨o,es,ep,ho,r⟩,_⟩:=id I.loc;obtain⟨sl,hL⟩:=u.any ho I.free fun z=>(hch _ z).2.1 rfl
 exact I.step (ch:=ch) hch (fun b o hL hb hc e n=>u.keep b o e n (fun z=>(As.mp (I.stkSub b z)).elim hL hb) hc) (fun b o _ _ hc e n=>u.any e n hc) (fun b o hc e n=>u.free b o e n hc) (fun b o hc e=>u.there b o e hc) u.tups u.frzs u.tbls (fun m' hm=>by
  obtain⟨o',es',ep',ho',r'⟩:=hm;rw[ho]at ho';cases ho';exact⟨_,es',ep',hL,r'⟩) hok hg
theorem Inv.turned(I:Inv X pI σ H s)(k:∀ b o,b≠it->s.heap.get? b=Aa o->h'.get? b=Aa o)(hn:H it=Af)(hL:it≠X.env.locals)(h1:it∈X.ex\/X.s₀.heap.objs.size<=it)(h2:∀ x c,X.env.cells.lookup x=Aa c->c≠it)(h3:∀ p∈X.pn++pI,p.1≠it):Inv X pI σ H {s with heap:=h',toks:=t'}:=by
 have nit:∀ b u,H b=Aa u->b≠it:=fun b u e z=>by rw[z,hn]at e;cases e
 refine I.step (g':=s.gens) (d':=s.drawn) (ch:=[it]) (fun b hb=>?_) (fun b o _ _ hc e _=>k b o (fun z=>hc (by simp[z])) e) (fun b o _ _ hc e _=>⟨o.slots,k b o (fun z=>hc (by simp[z])) e⟩) (fun _ _ _ _ n=>n)
  (fun b o hc e=>⟨o,k b o (fun z=>hc (by simp[z])) e⟩) (fun _ _ e=>e) (fun _ _ _ e=>e) (fun b ps e=>⟨#[],by rw[e];simp⟩) (fun m hm=>?_) (fun b u e=>?_) I.bare
 ·have e:b=it:=by simpa using hb
  subst e;exact⟨h1,hL,h2,h3⟩
 ·obtain⟨o,es,ep,ho,r⟩:=hm;exact⟨o,es,ep,k _ o (Dl hL) ho,r⟩
 ·refine(I.hok b u e).stay (fun c v hc q=>k c v ?_ q) (fun _ q=>q) fun _ _ q=>q
  rcases hc with z|z
  ·rw[z];exact nit b u e
  ·exact nit c _ z
theorem Inv.tok(I:Inv X pI σ H s)(t:Ag):Inv X pI σ H {s with toks:=t}:=I.un (h':=s.heap) (t':=t) Un.refl I.hok
theorem Inv.kept{t':Ag}(I:Inv X pI σ H s)(k:∀ b u,s.heap.get? b=Aa u->h'.get? b=Aa u):Inv X pI σ H {s with heap:=h',toks:=t'}:=I.un (Un.kept k) (I.hok.kept k)
theorem Inv.laid{a:Ak}{o:HO}{t':Ag}(I:Inv X pI σ H s)(k:∀ b u,s.heap.get? b=Aa u->h'.get? b=Aa u)(hp:s.heap.objs.size<=a)(new:ObjOk X.prog X.w (upd H a o) h' a o):Inv X pI σ (upd H a o) {s with heap:=h',toks:=t'}:=I.un (Un.laid k hp (I.hok.fresh hp)) (I.hok.laid k hp new)
theorem Inv.write{x e:Ak}{o:HO}{t':Ag}(I:Inv X pI σ H s)(mu:Mut (H x))(he:e=x\/H e=Aa (.own x))(k:∀ b u,b≠e->s.heap.get? b=Aa u->h'.get? b=Aa u)(heo:∃ u,h'.get? e=Aa u)(new:ObjOk X.prog X.w (upd H x o) h' x o):Inv X pI σ (upd H x o) {s with heap:=h',toks:=t'}:=I.un (Un.write mu he k heo) (I.hok.write mu he k heo new)
theorem Inv.pins_of{pins':Pn}(I:Inv X pI σ H s)(h:∀ p∈pins',s.heap.get? p.1=Aa p.2/\H p.1=Af/\p.1≠X.env.locals/\p.1∉X.fs/\∀ v,p.2.data≠.cell v):Inv X pins' σ H s:=
 ⟨I.ok,I.os,I.bare,I.base,I.loc,I.cell,I.free,I.freeC,fun p hp=>(Cu.mp hp).elim (fun z=>I.pin p (Cn _ z)) (h p),I.hok,I.len⟩
theorem OS{N:Ac Ah}(hN:N.Nodup){j:Ag}(a:N[i]?=Aa x)(b:N[j]?=Aa x):i=j:=by
 obtain⟨h1,e1⟩:=AE.mp a;obtain⟨h2,e2⟩:=AE.mp b;exact(List.getElem_inj hN).mp (e1.trans e2.symm)
theorem NW{A:A6}{E:Vq}(I:Inv X pI σ H s)(hN:X.N.Nodup)(hi:X.N[i]?=Aa x)(hx:Loc X.env.scope x)(r:By v u)(h:∀ s',Inv X pI (σ.set i (Aa v)) H s'->(∃ a,Eg a s.heap s'.heap/\(a=X.env.locals\/X.env.cells.lookup x=Aa a))->Q () s')(hf:X.fn x=Ab\/X.env.scope.names.lookup x=Aa .local:=by first|exact .inl rfl|exact .inr rfl|assumption):AH M A (storeName X.env x u) Q E s:=by
 obtain⟨m,hn,hl⟩:=id I.loc;have hcls:(X.env.scope.kind==.class||(X.env.scope.kind==.module&&X.env.locals != X.env.globals))=Ad:=by rw[I.ok.kind];rfl
 have hiσ:i<σ.length:=by rw[I.len];exact(AE.mp hi).1
 have cne:=I.cne;have tracked:∀{a:Ak}{h':AK},(∃ o,s.heap.get? a=Aa o/\H a=Af)->Eg a s.heap h'->HOk X.prog X.w H h':=fun {a h'} ha hs b ob e=>by
  obtain⟨_,_,hfree⟩:=ha;refine(I.hok b ob e).stay (fun c w' hc q=>(hs.2 c ?_).trans q) (fun _ q=>q) fun _ _ q=>q
  rintro rfl;rcases hc with rfl|hc
  ·rw[hfree]at e;cases e
  ·rw[hfree]at hc;cases hc
 rcases hx with hk|hk
 ·refine wpAny_storeName_local hk hn (fun h' hn' hs=>?_) hcls
  obtain⟨oL,_,_,hoL,_⟩:=id hn;refine h _ ⟨I.ok,I.os,I.bare,⟨fun b o e n hb hx=>?_,fun b o e n hb hx=>?_,I.base.free,fun b o e hx=>?_,I.base.tups,I.base.frzs,I.base.tbls⟩,⟨_,hn',fun j y v' e1 e2 e3=>?_⟩,fun y c e=>?_,I.free,I.freeC,fun p hp=>?_,tracked ⟨oL,hoL,I.free⟩ hs,by simpa using I.len⟩ ⟨_,hs,.inl rfl⟩
  ·exact(hs.2 b (A3 (AI (Az e) I.ok.above))).trans (I.base.keep b o e n hb hx)
  ·obtain⟨sl,e1⟩:=I.base.slot b o e n hb hx;exact⟨sl,(hs.2 b (A3 (AI (Az e) I.ok.above))).trans e1⟩
  ·obtain⟨o',e1⟩:=I.base.there b o e hx;exact⟨o',(hs.2 b (A3 (AI (Az e) I.ok.above))).trans e1⟩
  ·by_cases hj:j=i
   ·subst hj;rw[hi]at e1;cases e1;rw[Cy hiσ]at e2;cases e2;exact⟨u,r,.inl ⟨hk,by simp⟩⟩
   ·rw[EL (Dl hj)]at e2;obtain⟨u',r',q⟩:=hl j y v' e1 e2 e3;refine⟨u',r',?_⟩;rcases q with ⟨k,e⟩|⟨k,c,e,z⟩
    ·refine .inl ⟨k,?_⟩;have:y≠x:=fun e=>hj (OS hN e1 (e ▸ hi))
     simp[this,e]
    ·exact .inr ⟨k,c,e,z.sameBut hs (cne y c e)⟩
  ·obtain⟨w',z⟩:=I.cell y c e;exact⟨w',z.sameBut hs (cne y c e)⟩
  ·obtain⟨e,n,ne,nf,d⟩:=I.pin p hp;exact⟨(hs.2 p.1 ne).trans e,n,ne,nf,d⟩
 ·have hfn:X.fn x=Ab:=by
   rcases hf with z|z
   ·exact z
   ·rw[z]at hk;cases hk
  obtain⟨c,hc⟩:=I.ok.has x (.inl hk);obtain⟨w',z⟩:=I.cell x c hc;refine wpAny_storeName_cell I.ok.kind hk hc z (fun h' hc' hs=>?_)
  obtain⟨oc,hoc,hocd⟩:=id z;refine h {s with heap:=h'} ⟨I.ok,I.os,I.bare,⟨fun b o e n hb hx=>?_,fun b o e n hb hx=>?_,I.base.free,fun b o e hx=>?_,I.base.tups,I.base.frzs,I.base.tbls⟩,⟨m,hn.sameBut hs (Dl (cne x c hc)),fun j y v' e1 e2 e3=>?_⟩,fun y c' e=>?_,I.free,I.freeC,fun p hp=>?_,tracked ⟨oc,hoc,I.freeC x c hc⟩ hs,by simpa using I.len⟩ ⟨c,hs,.inr hc⟩
  ·exact(hs.2 b (A3 (AI (Az e) (I.ok.cab x c hfn hc)))).trans (I.base.keep b o e n hb hx)
  ·obtain⟨sl,e1⟩:=I.base.slot b o e n hb hx;exact⟨sl,(hs.2 b (A3 (AI (Az e) (I.ok.cab x c hfn hc)))).trans e1⟩
  ·obtain⟨o',e1⟩:=I.base.there b o e hx;exact⟨o',(hs.2 b (A3 (AI (Az e) (I.ok.cab x c hfn hc)))).trans e1⟩
  ·by_cases hj:j=i
   ·subst hj;rw[hi]at e1;cases e1;rw[Cy hiσ]at e2;cases e2;exact⟨u,r,.inr ⟨.inl hk,c,hc,hc'⟩⟩
   ·rw[EL (Dl hj)]at e2;obtain⟨u',r',q⟩:=hl j y v' e1 e2 e3;refine⟨u',r',?_⟩;rcases q with q|⟨k,c',e,z'⟩
    ·exact .inl q
    ·refine .inr ⟨k,c',e,z'.sameBut hs ?_⟩;rintro rfl;exact hj (OS hN e1 (I.ok.inj _ _ _ e hc ▸ hi))
  ·by_cases hcc:c'=c
   ·subst hcc;exact⟨_,hc'⟩
   ·obtain⟨w2,z2⟩:=I.cell y c' e;exact⟨w2,z2.sameBut hs hcc⟩
  ·obtain⟨e,n,ne,nf,d⟩:=I.pin p hp;refine⟨(hs.2 p.1 ?_).trans e,n,ne,nf,d⟩;intro q;rw[q,hoc]at e;have q':oc=p.2:=Bt e;exact d w' (by rw[<-q'];exact hocd)
theorem Oj{A:A6}{E:Vq}(I:Inv X pI σ H s)(hN:X.N.Nodup)(hi:X.N[i]?=Aa x)(hx:Loc X.env.scope x)(r:By v u)(h:∀ s',Inv X pI (σ.set i (Aa v)) H s'->Q () s')(hf:X.fn x=Ab\/X.env.scope.names.lookup x=Aa .local:=by first|exact .inl rfl|exact .inr rfl|assumption):AH M A (storeName X.env x u) Q E s:=
 NW I hN hi hx r (fun s' I' _=>h s' I') hf
theorem Inv.call'{s':Ap}(I:Inv X pI σ H s)(ho:s'.os=s.os)(u:Un (frs X.stack) ch H H' s.heap s'.heap)(hok:HOk X.prog X.w H' s'.heap)(hg:Ek s'.gens)(hch:∀ b∈ch,(b∈X.ex\/X.s₀.heap.objs.size<=b)/\b≠X.env.locals/\(∀ x c,X.env.cells.lookup x=Aa c->c≠b)/\∀ p∈X.pn++pI,p.1≠b):Inv X pI σ H' s':=by
 obtain⟨h',g',d',t',o'⟩:=s';have e:o'=s.os:=ho;subst e;exact I.call (g':=g') (t':=t') (d':=d') u hok hg hch
end
abbrev XK:=Aj->Aq Ak->Hp->Prop
abbrev St:=Ac (Aq V)
variable{σ:St}
abbrev VK:=V->Hp->Prop
abbrev TE:=St->Hp->VK->Prop
variable{te:TE}
abbrev TT:=St->Hp->(An->Hp->Prop)->Prop
abbrev TA:=St->Hp->(Ac V->Hp->Prop)->Prop
variable{ta:TA}
structure Ends where
 nx:St->Hp->Prop
 rt:VK
 bk:St->Hp->Prop:=fun _ _=>Bb
 ct:St->Hp->Prop:=fun _ _=>Bb
abbrev TS:=Ends->St->Hp->Prop
def EP(X:Cx)(pI:Pn)(σ:St)(Q:VK)(u:Aj)(s':Ap):Prop:=∃ v H',Inv X pI σ H' s'/\By v u/\Q v H'
def TP(X:Cx)(pI:Pn)(σ:St)(Q:An->Hp->Prop)(b:An)(s':Ap):Prop:=∃ H',Inv X pI σ H' s'/\Q b H'
def AP(X:Cx)(pI:Pn)(σ:St)(Q:Ac V->Hp->Prop)(us:Ac Aj)(s':Ap):Prop:=∃ vs H',Inv X pI σ H' s'/\AZ vs us/\Q vs H'
noncomputable def SP(X:Cx)(pI:Pn)(D:Ends)(f:Flow)(s':Ap):Prop:=
  match f with
  |.next=>∃ σ' H',Inv X pI σ' H' s'/\D.nx σ' H'
  |.brk=>∃ σ' H',Inv X pI σ' H' s'/\D.bk σ' H'
  |.cont=>∃ σ' H',Inv X pI σ' H' s'/\D.ct σ' H'
  |.ret u=>∃ v σ' H',Inv X pI σ' H' s'/\By v u/\D.rt v H'
noncomputable def PE(X:Cx)(e:Ao)(t:TE):Prop:=
 ∀(pI:Pn)(s:Ap)(σ:St)(H:Hp)(Q:VK),Inv X pI σ H s->t σ H Q->AH (model X.prog X.w) X.A (eval e X.env) (EP X pI σ Q) X.xe s
noncomputable def PT(X:Cx)(e:Ao)(t:TT):Prop:=
 ∀(pI:Pn)(s:Ap)(σ:St)(H:Hp)(Q:An->Hp->Prop),Inv X pI σ H s->t σ H Q->AH (model X.prog X.w) X.A (GK e X.env (eval e X.env)) (TP X pI σ Q) X.xe s
noncomputable def PW(X:Cx)(e:Ao)(t:TT):Prop:=
 ∀(whole:Sem Aj)(pI:Pn)(s:Ap)(σ:St)(H:Hp)(Q:An->Hp->Prop),Inv X pI σ H s->t σ H Q->AH (model X.prog X.w) X.A (GK e X.env whole) (TP X pI σ Q) X.xe s
theorem PW.pt{t:TT}(h:PW X e t):PT X e t:=h _
noncomputable def PA(X:Cx)(es:Ac Ao)(t:TA):Prop:=
 ∀(pos:AU)(pI:Pn)(s:Ap)(σ:St)(H:Hp)(Q:Ac V->Hp->Prop),Inv X pI σ H s->t σ H Q->AH (model X.prog X.w) X.A (spliced (Cz pos (Ay es X.env))) (AP X pI σ Q) X.xe s
noncomputable def PS(X:Cx)(st:Bz)(t:TS):Prop:=
 ∀(pI:Pn)(s:Ap)(σ:St)(H:Hp)(D:Ends),Inv X pI σ H s->t D σ H->AH (model X.prog X.w) X.A (exec st X.env) (SP X pI D) X.xe s
noncomputable def PSs(X:Cx)(st:Ac Bz)(t:TS):Prop:=
 ∀(pI:Pn)(s:Ap)(σ:St)(H:Hp)(D:Ends),Inv X pI σ H s->t D σ H->AH (model X.prog X.w) X.A (execs st X.env) (SP X pI D) X.xe s
theorem thn{α:Type}{t:Sem α}{Q Q':α->Ap->Prop}{A:A6}{E:Vq}(h:AH M A t Q E s)(hQ:∀ a s,Q a s->Q' a s):AH M A t Q' E s:=B4 h hQ fun _ _ x=>x
section
variable{X:Cx}
def Fj(i:Ag):TE:=fun σ H Q=>∃ v,σ[i]?=Aa (Aa v)/\Q v H
def tC(v:V):TE:=fun _ H Q=>Q v H
theorem Zf(hN:X.N[i]?=Aa x)(hv:Vis X.env.scope x)(hd:(x==("__debug__" : Ah))=Ad:=by decide)(hcd:(x==("__classdict__" : Ah))=Ad:=by decide):PE X (.Name x pos) (Fj i):=by
 intro pI s σ H Q I h;obtain⟨v,e,h⟩:=h;obtain⟨m,hn,hl⟩:=I.loc;obtain⟨u,r,l⟩:=hl i x v hN e hv;have fin:EP X pI σ Q u s:=⟨v,H,I,r,h⟩;rcases l with ⟨hk,hm⟩|⟨hk,c,hc,hcell⟩
 ·exact Ia (wpAny_loadName_local I.ok.kind hk hn hm fin) hd
 ·rcases hk with hk|hk
  ·exact Ia (wpAny_loadName_cell I.ok.kind hk hc hcell fin) hd
  ·exact Ia (wpAny_loadName_free I.ok.kind hk hc hcell fin hcd) hd
theorem YS{i j pos}:PE X (.Constant (.int i) j pos) (tC (.int i)):=fun _ _ _ H _ I h=>wpAny_Constant_int ⟨.int i,H,I.tok _,⟨_,rfl⟩,h⟩
theorem cT{b j pos}:PE X (.Constant (.bool b) j pos) (tC (.bl b)):=fun _ _ _ H _ I h=>Constant_bool ⟨.bl b,H,I,rfl,h⟩
theorem YO{j pos}:PE X (.Constant .none j pos) (tC .non):=fun _ _ _ H _ I h=>Constant_none ⟨.non,H,I,rfl,h⟩
theorem Zh{x j pos}:PE X (.Constant (.str x) j pos) (tC (.str x)):=fun _ _ _ H _ I h=>Calls.Constant_str ⟨.str x,H,I.tok _,⟨_,rfl⟩,h⟩
def Gl(X:Cx)(x:Ah):Prop:=X.env.kindOf x=Aa .globalImplicit
theorem W1{E:Vq}{Q:Vq}(I:Inv X pI σ H s)(hg:Gl X x)(hm:X.mg x=Aa u)(h:Q u s)(hd:(x==("__debug__" : Ah))=Ad:=by decide):AH (model X.prog X.w) X.A (eval (.Name x pos) X.env) Q E s:=
 Ta I.ok.kind hg (Calls.loadGlobal_global (by rw[I.ok.glob];exact I.mod.glob.keeps I.bk) hm h) hd
theorem GX{E:Vq}{Q:Vq}(I:Inv X pI σ H s)(hg:Gl X x)(hm:X.mg x=Af)(hv:CA x=Aa u)(h:Q u s)(hn:x≠"__name__" := by decide)(hd:(x==("__debug__" : Ah))=Ad:=by decide):AH (model X.prog X.w) X.A (eval (.Name x pos) X.env) Q E s:=by
 obtain⟨mb,h1,h2⟩:=I.mod.blt;exact Ta I.ok.kind hg (Calls.loadGlobal_builtin (by rw[I.ok.glob];exact I.mod.glob.keeps I.bk) hm (by rw[I.ok.blt];exact h1.keeps I.bk) ((h2 x hn).trans hv) h) hd
theorem WJ(hg:Gl X x)(hm:X.mg x=Af)(hv:CA x=Aa u)(r:By v u)(hn:x≠"__name__" := by decide)(hd:(x==("__debug__" : Ah))=Ad:=by decide):PE X (.Name x pos) (tC v):=
 fun _ _ _ H _ I h=>GX I hg hm hv ⟨v,H,I,r,h⟩ hn hd
variable{a b:Ao}{ta tb:TE}{pos:AU}
variable{tA tB':TT}{rest:Ac Ao}
def iO(t u:TT):TT:=fun σ H Q=>t σ H fun c H1=>if c=Ab then u σ H1 Q else Q Ad H1
def tOr(t u:TT):TT:=fun σ H Q=>t σ H fun c H1=>if c=Ab then Q Ab H1 else u σ H1 Q
def jG(t:TT):TT:=fun σ H Q=>t σ H fun c H1=>Q (!c) H1
theorem Xg(ha:PT X a tA):PW X (.BoolOp .And [a] pos) tA:=by
 intro wh pI s σ H Q I h;refine isTrue_and (thn (ha pI s σ H Q I h) fun c s1 e=>?_)
 cases c with
 |true=>exact isTrue_and_nil e
 |false=>exact e
theorem Y2(ha:PT X a tA):PW X (.BoolOp .Or [a] pos) tA:=by
 intro wh pI s σ H Q I h;refine isTrue_or (thn (ha pI s σ H Q I h) fun c s1 e=>?_)
 cases c with
 |false=>exact isTrue_or_nil e
 |true=>exact e
theorem Y3(ha:PT X a tA)(hb:PW X (.BoolOp .And (b::rest) pos) tB'):PW X (.BoolOp .And (a::b::rest) pos) (iO tA tB'):=by
 intro wh pI s σ H Q I h;refine isTrue_and (thn (ha pI s σ H _ I h) fun c s1 ⟨H1,I1,q1⟩=>?_)
 cases c with
 |true=>exact hb wh pI s1 σ H1 Q I1 q1
 |false=>exact⟨H1,I1,q1⟩
theorem dX(ha:PT X a tA)(hb:PW X (.BoolOp .Or (b::rest) pos) tB'):PW X (.BoolOp .Or (a::b::rest) pos) (tOr tA tB'):=by
 intro wh pI s σ H Q I h;refine isTrue_or (thn (ha pI s σ H _ I h) fun c s1 ⟨H1,I1,q1⟩=>?_)
 cases c with
 |true=>exact⟨H1,I1,q1⟩
 |false=>exact hb wh pI s1 σ H1 Q I1 q1
theorem Y4(ha:PT X a tA):PT X (.UnaryOp .Not a pos) (jG tA):=by
 intro pI s σ H Q I h;exact isTrue_not (ha pI s σ H (fun c H1=>Q (!c) H1) I h)
def cO(ta tb:TE):TE:=fun σ H Q=>ta σ H fun x H1=>∃ c,x=.bl c/\if c=Ab then tb σ H1 Q else Q (.bl Ad) H1
def jF(ta tb:TE):TE:=fun σ H Q=>ta σ H fun x H1=>∃ c,x=.bl c/\if c=Ab then Q (.bl Ab) H1 else tb σ H1 Q
def cH(ta:TE):TE:=fun σ H Q=>ta σ H fun x H1=>∃ c,x=.bl c/\Q (.bl (!c)) H1
theorem Zi{op}{t:TE}(h:PE X a t):PE X (.BoolOp op [a] pos) t:=fun pI s σ H Q I hw=>BoolOp_one (h pI s σ H Q I hw)
theorem YT(ha:PE X a ta)(hb:PE X (.BoolOp .And (b::rest) pos) tb):PE X (.BoolOp .And (a::b::rest) pos) (cO ta tb):=by
 intro pI s σ H Q I h;refine BoolOp_and (thn (ha pI s σ H _ I h) fun v s1 ⟨x,H1,I1,r1,q1⟩=>?_)
 obtain⟨c,rfl,q1⟩:=q1;cases r1;refine Cb ?_;cases c with
 |true=>exact hb pI s1 σ H1 Q I1 q1
 |false=>exact⟨.bl Ad,H1,I1,rfl,q1⟩
theorem cR(ha:PE X a ta)(hb:PE X (.BoolOp .Or (b::rest) pos) tb):PE X (.BoolOp .Or (a::b::rest) pos) (jF ta tb):=by
 intro pI s σ H Q I h;refine BoolOp_or (thn (ha pI s σ H _ I h) fun v s1 ⟨x,H1,I1,r1,q1⟩=>?_)
 obtain⟨c,rfl,q1⟩:=q1;cases r1;refine Cb ?_;cases c with
 |false=>exact hb pI s1 σ H1 Q I1 q1
 |true=>exact⟨.bl Ab,H1,I1,rfl,q1⟩
theorem YN(ha:PE X a ta):PE X (.UnaryOp .Not a pos) (cH ta):=by
 intro pI s σ H Q I h;refine UnaryOp_ (thn (ha pI s σ H _ I h) fun v s1 ⟨x,H1,I1,r1,q1⟩=>?_)
 obtain⟨c,rfl,q1⟩:=q1;cases r1;exact not_of (Cb ⟨.bl (!c),H1,I1,rfl,q1⟩)
end
noncomputable def SqL(K:Fg)(H:Hp)(a:Ak)(xs:Ac V):Prop:=
 Rd H a (.lst xs) \/
  ∃(o:Dq)(its:Bi Aj)(n:Ag),K.lookup a=Aa o/\o.cls=.type "list"/\o.dict=Af/\o.data=.seq its n/\its.size<=sizeLine/\AZ xs its.toList
noncomputable def SqT(K:Fg)(H:Hp)(a:Ak)(xs:Ac V):Prop:=
 Rd H a (.tup xs) \/
  ∃(o:Dq)(its:Bi Aj)(n:Ag),K.lookup a=Aa o/\o.cls=.type "tuple"/\o.data=.seq its n/\its.size<=sizeLine/\AZ xs its.toList
noncomputable def jP:Aj->Aq V
 |.none=>Aa .non
 |.bool b=>Aa (.bl b)
 |.int i _=>Aa (.int i)
 |.str x _=>Aa (.str x)
 |.bytes b _=>Aa (.byt b)
 |.float b _=>Aa (.flt b)
 |.ref a=>Aa (.ref a)
 |.type n=>Aa (.ty n)
 |_=>Af
theorem By.abs{x:V}(r:By x u):jP u=Aa x:=by
 cases x with
 |non=>cases r;rfl
 |bl _=>cases r;rfl
 |int _=>obtain⟨t,rfl⟩:=r;rfl
 |str _=>obtain⟨t,rfl⟩:=r;rfl
 |byt _=>obtain⟨t,rfl⟩:=r;rfl
 |flt _=>obtain⟨t,rfl⟩:=r;rfl
 |ref _=>cases r;rfl
 |ty _=>cases r;rfl
theorem By.inj{x y:V}(r:By x u)(q:By y u):x=y:=Bt (r.abs.symm.trans q.abs)
theorem AZ.inj:∀{xs ys:Ac V}{us:Ac Aj},AZ xs us->AZ ys us->xs=ys
 |_,_,_,.nil,.nil=>rfl
 |_,_,_,.cons r t,.cons r' t'=>by rw[r.inj r',AZ.inj t t']
section
variable{X:Cx}{pI:Pn}{σ:St}{H:Hp}{s:Ap}{a:Ak}{xs ys:Ac V}
theorem SqL.of{K:Fg}(h:H a=Aa (.lst xs)):SqL K H a xs:=.inl (.inl h)
theorem SqT.of{K:Fg}(h:H a=Aa (.tup xs)):SqT K H a xs:=.inl (.inl h)
theorem Inv.list(I:Inv X pI σ H s)(h:SqL X.K H a xs):∃ its:Ac Aj,AZ xs its/\PlainL s.heap a its.toArray/\xs.length<=sizeLine:=by
 rcases h with h|⟨o,its,n,hk,hc,hd,hs,hz,r⟩
 ·obtain⟨z,its,n,r,e⟩:=h.ok I.hok;exact⟨its,r,⟨_,n,e,rfl,rfl,rfl⟩,z⟩
 ·refine⟨its.toList,r,⟨o,n,I.kIn a o hk,hc,hd,by simpa using hs⟩,?_⟩
  have e:=r.length;simp only[D5]at e;omega
theorem Inv.tuple(I:Inv X pI σ H s)(h:SqT X.K H a xs):∃ its:Ac Aj,AZ xs its/\HR s.heap a its.toArray/\xs.length<=sizeLine:=by
 rcases h with h|⟨o,its,n,hk,hc,hs,hz,r⟩
 ·obtain⟨z,its,r,p⟩:=h.ok I.hok;exact⟨its,r,p,z⟩
 ·refine⟨its.toList,r,⟨o,I.kIn a o hk,hc,n,by simpa using hs⟩,?_⟩
  have e:=r.length;simp only[D5]at e;omega
theorem Inv.list_inj(I:Inv X pI σ H s)(h:SqL X.K H a xs)(h':SqL X.K H a ys):xs=ys:=by
 obtain⟨its,r,⟨o,n,e,_,_,d⟩,_⟩:=I.list h;obtain⟨its',r',⟨o',n',e',_,_,d'⟩,_⟩:=I.list h';rw[e]at e';cases e';rw[d]at d'
 injection d' with d1 _
 have:its=its':=by simpa using congrArg G9 d1
 subst this;exact r.inj r'
theorem Inv.tuple_inj(I:Inv X pI σ H s)(h:SqT X.K H a xs)(h':SqT X.K H a ys):xs=ys:=by
 obtain⟨its,r,⟨o,e,_,n,d⟩,_⟩:=I.tuple h;obtain⟨its',r',⟨o',e',_,n',d'⟩,_⟩:=I.tuple h';rw[e]at e';cases e';rw[d]at d'
 injection d' with d1 _
 have:its=its':=by simpa using congrArg G9 d1
 subst this;exact r.inj r'
end
noncomputable abbrev Cx.wish(X:Cx)(E:Vq):Cx:={X with xe:=E}
noncomputable abbrev Cx.nox(X:Cx):Cx:=X.wish fun _ _=>Bb
theorem Cx.Ok.wish(ok:X.Ok)(E:Vq):(X.wish E).Ok:=
 ⟨ok.mod,ok.kind,ok.glob,ok.blt,ok.above,ok.inj,ok.has,ok.cab,ok.hd,ok.frames,ok.stk,ok.exf,ok.bs,ok.bsz,ok.noex,ok.exfs,ok.funs,ok.frf⟩
theorem Cx.Ok.unwish{E:Vq}(ok:(X.wish E).Ok):X.Ok:=
 ⟨ok.mod,ok.kind,ok.glob,ok.blt,ok.above,ok.inj,ok.has,ok.cab,ok.hd,ok.frames,ok.stk,ok.exf,ok.bs,ok.bsz,ok.noex,ok.exfs,ok.funs,ok.frf⟩
section
variable{X:Cx}{pI:Pn}{σ:St}{H:Hp}{s:Ap}{E:Vq}
theorem Inv.wish(I:Inv X pI σ H s)(E:Vq):Inv (X.wish E) pI σ H s:=⟨I.ok.wish E,I.os,I.bare,I.base,I.loc,I.cell,I.free,I.freeC,I.pin,I.hok,I.len⟩
theorem Inv.unwish(I:Inv (X.wish E) pI σ H s):Inv X pI σ H s:=⟨I.ok.unwish,I.os,I.bare,I.base,I.loc,I.cell,I.free,I.freeC,I.pin,I.hok,I.len⟩
theorem SP.unwish{D:Ends}{f:Flow}{s':Ap}(h:SP (X.wish E) pI D f s'):SP X pI D f s':=by
 cases f with
 |next=>obtain⟨σ',H',I,q⟩:=h;exact⟨σ',H',I.unwish,q⟩
 |brk=>obtain⟨σ',H',I,q⟩:=h;exact⟨σ',H',I.unwish,q⟩
 |cont=>obtain⟨σ',H',I,q⟩:=h;exact⟨σ',H',I.unwish,q⟩
 |ret u=>obtain⟨v,σ',H',I,r,q⟩:=h;exact⟨v,σ',H',I.unwish,r,q⟩
theorem PSs.nox{st:Ac Bz}{t:TS}(h:PSs X.nox st t):PSs X st t:=fun pI s σ H D I hw=>
 B4 (h pI s σ H D (I.wish _) hw) (fun _ _ q=>q.unwish) fun _ _ z=>Dh z
end
section
variable{X:Cx}{st:Bz}{rest:Ac Bz}{t u:TS}{e:Ao}{te:TE}{pos:AU}
def cI:TS:=fun D σ H=>D.nx σ H
def jD(t u:TS):TS:=fun D σ H=>t {D with nx:=u D} σ H
theorem Xm:PSs X [] cI:=fun _ _ σ H _ I h=>T7 ⟨σ,H,I,h⟩
theorem VY(h1:PS X st t)(h2:PSs X rest u):PSs X (st::rest) (jD t u):=by
 intro pI s σ H D I h;refine wpAny_execs_cons (thn (h1 pI s σ H {D with nx:=u D} I h) fun f s1 q=>?_)
 cases f with
 |next=>
  obtain⟨σ',H',I',q⟩:=q;exact h2 pI s1 σ' H' D I' q
 |ret v=>exact q
 |brk=>exact q
 |cont=>exact q
theorem Inv.quiet(I:Inv X pI σ H s):interactive X.env=Ad:=by simp[interactive,I.ok.kind]
def cJ(te:TE):TS:=fun D σ H=>te σ H fun _ H1=>D.nx σ H1
theorem Me(he:PE X e te)(hs:DG e Af pos.line X.env=pure Ad:=by rfl):PS X (.Expr e pos) (cJ te):=by
 intro pI s σ H D I h;exact wpAny_Expr_any (thn (he pI s σ H _ I h) fun v s1 ⟨x,H1,I1,r1,q1⟩=>⟨σ,H1,I1,q1⟩) I.quiet hs
def jE(te:TE):TS:=fun D σ H=>te σ H D.rt
theorem Mx(he:PE X e te):PS X (.Return (Aa e) pos) (jE te):=by
 intro pI s σ H D I h;exact wpAny_Return_some (thn (he pI s σ H _ I h) fun v s1 ⟨x,H1,I1,r1,q1⟩=>⟨x,σ,H1,I1,r1,q1⟩)
def iM(c:TT)(t u:TS):TS:=fun D σ H=>c σ H fun b H1=>if b=Ab then t D σ H1 else u D σ H1
theorem cP{c:Ao}{a b:Ac Bz}{tc:TT}(hc:PT X c tc)(ha:PSs X a t)(hb:PSs X b u):PS X (.If c a b pos) (iM tc t u):=by
 intro pI s σ H D I h;refine wpAny_If (thn (hc pI s σ H _ I h) fun d s1 ⟨H1,I1,q1⟩=>?_)
 cases d with
 |true=>exact ha pI s1 σ H1 D I1 q1
 |false=>exact hb pI s1 σ H1 D I1 q1
end
abbrev TG:=V->St->Hp->(St->Hp->Prop)->Prop
abbrev TGs:=Ac V->St->Hp->(St->Hp->Prop)->Prop
noncomputable def PG(X:Cx)(target:Ao)(t:TG):Prop:=
 ∀(pI:Pn)(s:Ap)(σ:St)(H:Hp)(v:V)(u:Aj)(Q:St->Hp->Prop),Inv X pI σ H s->By v u->t v σ H Q ->
  AH (model X.prog X.w) X.A (assign target X.env u) (fun _ s'=>∃ σ' H',Inv X pI σ' H' s'/\Q σ' H') X.xe s
noncomputable def PGs(X:Cx)(ts:Ac Ao)(t:TGs):Prop:=
 ∀(pI:Pn)(s:Ap)(σ:St)(H:Hp)(vs:Ac V)(us:Ac Aj)(Q:St->Hp->Prop),Inv X pI σ H s->AZ vs us->t vs σ H Q ->
  AH (model X.prog X.w) X.A (assignInOrder ((BQ ts X.env).map (·.2)) us) (fun _ s'=>∃ σ' H',Inv X pI σ' H' s'/\Q σ' H') X.xe s
abbrev Nu:=V->V->V->Hp->(Hp->Prop)->Prop
noncomputable def R1(X:Cx)(t:Nu):Prop:=
 ∀(pI:Pn)(s:Ap)(σ:St)(H:Hp)(o i v:V)(ov iv u:Aj)(Q:Hp->Prop),Inv X pI σ H s->By o ov->By i iv->By v u->t o i v H Q ->
  AH (model X.prog X.w) X.A (Hq ov iv u) (fun _ s'=>∃ H',Inv X pI σ H' s'/\Q H') X.xe s
section
variable{X:Cx}{pos:AU}
def D7(i:Ag):TG:=fun v σ H Q=>Q (σ.set i (Aa v)) H
theorem JE(hN:X.N.Nodup)(hi:X.N[i]?=Aa x)(hx:Loc X.env.scope x)(hf:X.fn x=Ab\/X.env.scope.names.lookup x=Aa .local:=by first|exact .inl rfl|exact .inr rfl|assumption):PG X (.Name x pos) (D7 i):=by
 intro pI s σ H v u Q I r h;exact T5 (Oj I hN hi hx r (fun s' I'=>⟨_,H,I',h⟩) hf)
def Gk:TGs:=fun vs σ H Q=>vs=[]/\Q σ H
def Gf(t:TG)(u:TGs):TGs:=fun vs σ H Q=>∃ v r,vs=v::r/\t v σ H fun σ' H'=>u r σ' H' Q
theorem Mf:PGs X [] Gk:=by
 intro pI s σ H vs us Q I r h;obtain⟨e,h⟩:=h;subst e;cases r;exact assignInOrder_nil ⟨σ,H,I,h⟩
theorem Kn{t:TG}{u:TGs}(h1:PG X e t)(h2:PGs X es u)(hs:(BQ (e::es) X.env).map (·.2)=assign e X.env::(BQ es X.env).map (·.2):=by rfl):PGs X (e::es) (Gf t u):=by
 intro pI s σ H vs us Q I r h;obtain⟨v,vr,e1,h⟩:=h;subst e1;cases r with
 |cons r rr=>
  rw[hs];refine assignInOrder_cons (thn (h1 pI s σ H _ _ _ I r h) fun _ s1 ⟨σ1,H1,I1,q1⟩=>?_)
  exact h2 pI s1 σ1 H1 _ _ Q I1 rr q1
def IT(K:Fg)(n:Ag)(t:TGs):TG:=fun v σ H Q=>∃ a xs,v=.ref a/\SqT K H a xs/\xs.length=n/\t xs σ H Q
theorem KJ{t:TGs}(hc:X.calm=Ab)(h:PGs X es t)(hn:(BQ es X.env).length=n:=by rfl)(hst:(BQ es X.env).findIdx? (·.1)=Af:=by rfl):PG X (.Tuple es k pos) (IT X.K n t):=by
 intro pI s σ H v u Q I r hw;obtain⟨a,xs,e1,hq,hl,hw⟩:=hw;subst e1;cases r;obtain⟨its,rv,ht,hz⟩:=I.tuple hq;refine assign_Tuple_tuple (I.ok.hd hc) ht (by simp[hn,<-hl,rv.length]) hst fun h' hx=>?_
 have I1:Inv X pI σ H {s with heap:=h'}:=I.kept (t':=s.toks) fun b o e=>hx b o (A3 (Az e)) e
 exact h pI _ σ H xs _ Q I1 (by simpa using rv) hw
def iG(to ti:TE)(t:Nu):TG:=fun v σ H Q=>to σ H fun o H1=>ti σ H1 fun i H2=>t o i v H2 fun H3=>Q σ H3
theorem MB{o i:Ao}{to ti:TE}{t:Nu}(ho:PE X o to)(hi:PE X i ti)(hs:R1 X t)(ha:∀ v,assign (.Subscript o i pos) X.env v=(do
   let ov <-holding [v] (eval o X.env)
   let iv <-holding [v,ov] (eval i X.env)
   FW pos
   holding [v,ov,iv] (Hq ov iv v)
   release [v,ov,iv] []):=by intro _;rfl):PG X (.Subscript o i pos) (iG to ti t):=by
 intro pI s σ H v u Q I r h;rw[ha];refine Am (CN (thn (ho pI s σ H _ I h) fun ov s1 ⟨x,H1,I1,r1,q1⟩=>?_))
 refine Am (CN (thn (hi pI s1 σ H1 _ I1 q1) fun iv s2 ⟨y,H2,I2,r2,q2⟩=>?_))
 refine Am (FC (Am (CN (thn (hs pI s2 σ H2 x y v ov iv u _ I2 r1 r2 r q2) fun _ s3 ⟨H3,I3,q3⟩=>?_))))
 exact wpAny_release ⟨σ,H3,I3,q3⟩
def KU(te:TE)(g:TG):TS:=fun D σ H=>te σ H fun x H1=>g x σ H1 D.nx
theorem Mz{g:TG}(he:PE X e te)(hg:PG X tg g)(hs:Ev [tg] e pos.line X.env=pure Ad:=by rfl)(hw:Db [tg] e X.env=pure Af:=by rfl)(h1:(BQ [tg] X.env).map (·.2)=[assign tg X.env]:=by rfl):PS X (.Assign [tg] e pos) (KU te g):=by
 intro pI s σ H D I h;refine wpAny_Assign_stores (thn (he pI s σ H _ I h) fun v s1 ⟨x,H1,I1,r1,q1⟩=>?_) hs hw
 rw[h1];exact thn (hg pI s1 σ H1 x v _ I1 r1 q1) fun _ s2 q=>q
theorem Y5{pos':AU}(hN:X.N.Nodup)(hi:X.N[i]?=Aa x)(hx:Loc X.env.scope x)(he:PE X e te)(hs:DG e (Aa (.Name x pos')) pos.line X.env=pure Ad:=by rfl)(hf:X.fn x=Ab\/X.env.scope.names.lookup x=Aa .local:=by first|exact .inl rfl|exact .inr rfl|assumption):PS X (.Assign [.Name x pos'] e pos) (KU te (D7 i)):=by
 intro pI s σ H D I h;refine wpAny_Assign_Name (thn (he pI s σ H _ I h) fun v s1 ⟨y,H1,I1,r1,q1⟩=>?_) hs
 exact Oj I1 hN hi hx r1 (fun s2 I2=>⟨_,H1,I2,q1⟩) hf
end
section
variable{X:Cx}{pos:AU}
end
structure It where
 go:Ag->Hp->Prop
 yld:Ag->Hp->V->Hp->Prop
 stop:Ag->Hp->Prop
noncomputable def Fn(X:Cx)(pI:Pn)(H:Hp)(b:Ak):Prop:=
 H b=Af/\b≠X.env.locals/\b∉X.fs/\(b∈X.ex\/X.s₀.heap.objs.size<=b)/\(∀ x c,X.env.cells.lookup x=Aa c->c≠b)/\∀ p∈X.pn++pI,p.1≠b
theorem Inv.fpOk{H':Hp}(I:Inv X pI σ H s)(hb:s.heap.objs.size<=b)(hn:H' b=Af):Fn X pI H' b:=by
 refine⟨hn,Ef (AI I.lt hb),I.nofs hb,.inr (Cj I.sz hb),fun x c e z=>?_,fun p hp z=>?_⟩
 ·obtain⟨v,q⟩:=I.cell x c e;exact absurd (AI q.lt (by rw[z];exact hb)) (Bh _)
 ·exact absurd (AI (Az (I.pin p hp).1) (by rw[z];exact hb)) (Bh _)
structure Turn (P:AS) (w:AY) (K:Fg) (tg:Ao) (J:It) (fp:Ac Ak) (it:Ak) (tn:Ag->AK->Prop):Prop where
 mem:it∈fp
 obj:∀ i h,tn i h->∀ b∈fp,∃ o,h.get? b=Aa o/\∀ v,o.data≠.cell v
 keep:∀ i h h',tn i h->(∀ b∈fp,∀ o,h.get? b=Aa o->h'.get? b=Aa o)->tn i h'
 item:∀(X:Cx),X.prog=P->X.w=w->X.K=K->X.calm=Ab->∀(i:Ag)(pI:Pn)(s:Ap)(σ:St)(H:Hp)(E:Vq),Inv X pI σ H s->(∀ b∈fp,Fn X pI H b)->tn i s.heap->J.go i H ->
  AH (model P w) X.A (GN (.ref it)) (fun r s1=>∃ u,r=Aa u /\
   AH (model P w) X.A (EX tg (.ref it) u) (fun _ s2=>∃ x H',Inv X pI σ H' s2/\By x u/\J.yld i H x H'/\tn (i+1) s2.heap/\∀ b∈fp,H' b=Af) E s1) E s
 done:∀(X:Cx),X.prog=P->X.w=w->X.K=K->X.calm=Ab->∀(i:Ag)(pI:Pn)(s:Ap)(σ:St)(H:Hp)(E:Vq),Inv X pI σ H s->(∀ b∈fp,Fn X pI H b)->tn i s.heap->J.stop i H ->
  AH (model P w) X.A (GN (.ref it)) (fun r s1=>r=Af/\Inv X pI σ H s1) E s
 self:∀(A:A6)(i:Ag)(s:Ap)(Q:Vq)(E:Vq),tn i s.heap->Q (.ref it) s->AH (model P w) A (Jf (.ref it)) Q E s
abbrev TI:=St->Hp->(It->Hp->Prop)->Prop
noncomputable def PIE(X:Cx)(pI:Pn)(σ:St)(tg:Ao)(R:It->Hp->Prop)(itv:Aj)(s2:Ap):Prop:=
 ∃(it:Ak)(fp:Ac Ak)(tn:Ag->AK->Prop)(J:It)(H':Hp),itv=.ref it/\Inv X pI σ H' s2/\Turn X.prog X.w X.K tg J fp it tn/\tn 0 s2.heap/\(∀ b∈fp,Fn X pI H' b)/\R J H'
noncomputable def PI(X:Cx)(tg iter:Ao)(wi:TI):Prop:=
 ∀(pI:Pn)(s:Ap)(σ:St)(H:Hp)(R:It->Hp->Prop),Inv X pI σ H s->wi σ H R ->
  AH (model X.prog X.w) X.A (eval iter X.env) (fun v s1=>AH (model X.prog X.w) X.A (Jf v) (PIE X pI σ tg R) X.xe s1) X.xe s
theorem MX{A:A6}{E:Vq}{n:Ds}{vs:Bi Aj}(ho:s.heap.get? it=Aa o)(hc:o.cls=.type n)(hd:o.data=.fields vs)(hn:["enumerate", "zip", "dict_itemiterator", "dict_reverseitemiterator", "odict_iterator", "itertools.zip_longest", "itertools.pairwise"].contains n=Ad)(hQ:Q () s):AH M A (EX tg (.ref it) u) Q E s:=by
  unfold EX;cases tg<;>first
    |exact AJ hQ
    | (cases u<;>first
        |exact AJ hQ
        | (refine Am (wpAny_load ho ?_)
           rw[hc,hd];show AH M A (if (["enumerate", "zip", "dict_itemiterator", "dict_reverseitemiterator", "odict_iterator", "itertools.zip_longest", "itertools.pairwise"].contains n&&vs[0]? == Aa (Ft _))=Ab then _ else _) Q E s
           rw[AM (by intro h;rw[hn,Bool.false_and]at h;cases h)]
           exact AJ hQ))
noncomputable def Itl(K:Fg)(a:Ak):It:=
 ⟨fun i H=>∃ xs x,SqL K H a xs/\xs[i]?=Aa x,fun i H x H'=>H'=H/\∀ xs,SqL K H a xs->xs[i]?=Aa x,fun i H=>∃ xs,SqL K H a xs/\xs.length<=i⟩
noncomputable def Itt(K:Fg)(a:Ak):It:=
 ⟨fun i H=>∃ xs x,SqT K H a xs/\xs[i]?=Aa x,fun i H x H'=>H'=H/\∀ xs,SqT K H a xs->xs[i]?=Aa x,fun i H=>∃ xs,SqT K H a xs/\xs.length<=i⟩
noncomputable def Itr(lo:Ae)(n:Ag):It:=⟨fun i _=>i<n,fun i H x H'=>H'=H/\x=.int (lo+i),fun i _=>n<=i⟩
theorem UW{w:AY}{K:Fg}(a it:Ak):Turn P w K tg (Itl K a) [it] it (fun i h=>h.IsListIter it a i) where
  mem:=by simp
  obj:=fun i h st b hb=>by
    have e:b=it:=by simpa using hb
    subst e;obtain⟨o,e,c,d⟩:=st;exact⟨o,e,fun v z=>by rw[d]at z;cases z⟩
  keep:=fun i h h' st k=>st.at fun o e=>k it (by simp) o e
  item:=by
    intro X hP hw hK hc i pI s σ H E I hf st hg;subst hP hw hK;obtain⟨xs,x,hq,hx⟩:=hg;obtain⟨its,rv,p,hz⟩:=I.list hq;obtain⟨u,hu,ru⟩:=rv.get hx;obtain⟨f0,f1,f2,f3,f4,f5⟩:=hf it (by simp)
    refine Ub st p.isList (x:=u) (by simpa using hu) fun h' st' sb=>?_
    have I1:Inv X pI σ H {s with heap:=h'}:=I.turned (t':=s.toks) (fun b o hb e=>(sb.2 b hb).trans e) f0 f1 f3 f4 f5
    obtain⟨o,e,c,d⟩:=id st';exact⟨u,rfl,MX (s:={s with heap:=h'}) e c d (by decide) ⟨x,H,I1,ru,⟨rfl,fun ys hy=>by rw[I.list_inj hy hq];exact hx⟩,st',fun b hb=>(hf b hb).1⟩⟩
  done:=by
    intro X hP hw hK hc i pI s σ H E I hf st hg;subst hP hw hK;obtain⟨xs,hq,hx⟩:=hg;obtain⟨its,rv,p,hz⟩:=I.list hq;obtain⟨f0,f1,f2,f3,f4,f5⟩:=hf it (by simp)
    have hl:=rv.length;exact Ua (I.ok.hd hc) st p.isList (by simp;omega) fun h' eb=>⟨rfl,I.turned (t':=s.toks) (fun b o hb e=>eb b o hb e) f0 f1 f3 f4 f5⟩
  self:=fun _ _ _ _ _ st h=>wpAny_pyIter_listiter st h
theorem Ux{w:AY}{K:Fg}(a it:Ak):Turn P w K tg (Itt K a) [it] it (fun i h=>h.IsTupleIter it a i) where
  mem:=by simp
  obj:=fun i h st b hb=>by
    have e:b=it:=by simpa using hb
    subst e;obtain⟨o,e,c,d⟩:=st;exact⟨o,e,fun v z=>by rw[d]at z;cases z⟩
  keep:=fun i h h' st k=>st.at fun o e=>k it (by simp) o e
  item:=by
    intro X hP hw hK hc i pI s σ H E I hf st hg;subst hP hw hK;obtain⟨xs,x,hq,hx⟩:=hg;obtain⟨its,rv,p,hz⟩:=I.tuple hq;obtain⟨u,hu,ru⟩:=rv.get hx;obtain⟨f0,f1,f2,f3,f4,f5⟩:=hf it (by simp)
    refine wpAny_pyNext_tuple_item st (show s.heap.IsTuple a its.toArray from p) (x:=u) (by simpa using hu) fun h' st' sb=>?_
    have I1:Inv X pI σ H {s with heap:=h'}:=I.turned (t':=s.toks) (fun b o hb e=>(sb.2 b hb).trans e) f0 f1 f3 f4 f5
    obtain⟨o,e,c,d⟩:=id st';exact⟨u,rfl,MX (s:={s with heap:=h'}) e c d (by decide) ⟨x,H,I1,ru,⟨rfl,fun ys hy=>by rw[I.tuple_inj hy hq];exact hx⟩,st',fun b hb=>(hf b hb).1⟩⟩
  done:=by
    intro X hP hw hK hc i pI s σ H E I hf st hg;subst hP hw hK;obtain⟨xs,hq,hx⟩:=hg;obtain⟨its,rv,p,hz⟩:=I.tuple hq;obtain⟨f0,f1,f2,f3,f4,f5⟩:=hf it (by simp)
    have hl:=rv.length;exact wpAny_pyNext_tuple_end (I.ok.hd hc) st (show s.heap.IsTuple a its.toArray from p) (by simp;omega) fun h' eb=>⟨rfl,I.turned (t':=s.toks) (fun b o hb e=>eb b o hb e) f0 f1 f3 f4 f5⟩
  self:=fun _ _ _ _ _ st h=>wpAny_pyIter_tupleiter st h
theorem Uy{w:AY}{K:Fg}(it:Ak)(lo:Ae)(n:Ag):Turn P w K tg (Itr lo n) [it] it (fun i h=>IsRangeIter h it (lo+(i:Ag)*1) ((n:Ae)-(i:Ag)) 1) where
  mem:=by simp
  obj:=fun i h st b hb=>by
    have e:b=it:=by simpa using hb
    subst e;exact⟨_,st,fun v z=>by
      have z':Data.fields _=IY v:=z;cases z'⟩
  keep:=fun i h h' st k=>k it (by simp) _ st
  item:=by
    intro X hP hw hK hc i pI s σ H E I hf st hg;subst hP hw hK;obtain⟨f0,f1,f2,f3,f4,f5⟩:=hf it (by simp)
    have W:=Walks.range (prog:=X.prog) (w:=X.w) (I.ok.hd hc) it lo 1 n;refine W.item i s _ _ hg st fun v h' tk hv st' kk=>?_
    obtain⟨t,rfl⟩:=hv;have I1:Inv X pI σ H {s with heap:=h',toks:=tk}:=I.turned (fun b o hb e=>kk b o (by simpa using hb) e) f0 f1 f3 f4 f5
    refine⟨_,rfl,MX (s:={s with heap:=h',toks:=tk}) (n := "range_iterator") st' rfl rfl (by decide) ⟨.int (lo+i),H,I1,⟨t,?_⟩,⟨rfl,rfl⟩,st',fun b hb=>(hf b hb).1⟩⟩
    rw[C1]
  done:=by
    intro X hP hw hK hc i pI s σ H E I hf st hg;subst hP hw hK;obtain⟨f0,f1,f2,f3,f4,f5⟩:=hf it (by simp)
    exact wpAny_pyNext_range_end (I.ok.hd hc) st (by have:n<=i:=hg;omega) fun h' eb=>⟨rfl,I.turned (t':=s.toks) (fun b o hb e=>eb b o hb e) f0 f1 f3 f4 f5⟩
  self:=fun _ _ _ _ _ st h=>wpAny_pyIter_rangeiter st h
section
variable{X:Cx}{tg:Ao}
theorem OO{R:It->Hp->Prop}{E:Vq}{lo hi:Ae}{t u v:CO}{tk:Ag}(I:Inv X pI σ H s)(h1:-(2 ^ 62)<=lo)(h2:lo<2 ^ 62)(h3:-(2 ^ 62)<=hi)(h4:hi<2 ^ 62)(q:R (Itr lo (hi-lo).toNat) H):AH (model X.prog X.w) X.A (Jf (.ref s.heap.objs.size)) (PIE X pI σ tg R) E { s with heap:=s.heap.push { cls:=.type "range", data:=.fields #[.int lo t,.int hi u,.int 1 v] },toks:=tk }:=by
 refine wpAny_pyIter_range (Tw ..) (small_one h1 h2 h3 h4) ?_;have I1:Inv X pI σ H { s with heap:=s.heap.push { cls:=.type "range", data:=.fields #[.int lo t,.int hi u,.int 1 v] },toks:=tk }:=I.kept fun b o e=>Au _ e
 refine⟨(s.heap.push { cls:=.type "range", data:=.fields #[.int lo t,.int hi u,.int 1 v] }).objs.size,[(s.heap.push { cls:=.type "range", data:=.fields #[.int lo t,.int hi u,.int 1 v] }).objs.size],_,_,H,rfl,
  I1.kept (t':=tk) fun b o e=>Au _ e,Uy _ lo (hi-lo).toNat,?_,fun b hb=>?_,q⟩
 ·have e1:lo+((0:Ag):Ae)*1=lo:=by simp
  have e2:(((hi-lo).toNat:Ag):Ae)-((0:Ag):Ae)=Builtin.Range.rangeSize lo hi 1:=by rw[rangeSize_one];split<;>omega
  show IsRangeIter _ _ (lo+((0:Ag):Ae)*1) ((((hi-lo).toNat:Ag):Ae)-((0:Ag):Ae)) 1;rw[e1,e2];exact AG _ rfl
 ·have e:b=(s.heap.push { cls:=.type "range", data:=.fields #[.int lo t,.int hi u,.int 1 v] }).objs.size:=by simpa using hb
  subst e;exact I1.fpOk (AV _) (I1.hok.fresh (AV _))
def fK(ta:TA):TI:=fun σ H R=>ta σ H fun vs H1=>∃ j:Ae,vs=[.int j]/\-(2 ^ 62)<=j/\j<2 ^ 62/\R (Itr 0 j.toNat) H1
def fI(ta:TA):TI:=fun σ H R=>ta σ H fun vs H1=>∃ i j:Ae,vs=[.int i,.int j]/\(-(2 ^ 62)<=i/\i<2 ^ 62/\-(2 ^ 62)<=j/\j<2 ^ 62)/\R (Itr i (j-i).toNat) H1
theorem UQ{a:Ao}(hg:Gl X "range")(hm:X.mg "range" = Af)(ha:PA X [a] ta)(hs:Ay [a] X.env=[(Ad,eval a X.env)]:=by rfl):PI X tg (.Call (.Name "range" p) [a] [] pos) (fK ta):=by
 intro pI s σ H R I h;refine HQ (GX I hg hm HS (BM (thn (ha pos pI s σ H _ I h) fun us s1 ⟨vs,H1,I1,r1,q1⟩=>?_) hs rfl))
 obtain⟨j,e,q1,q2,q⟩:=q1;subst e;cases r1 with
 |cons r rr=>
  cases rr;obtain⟨t,rfl⟩:=r;exact call_range_1 (OO I1 (by omega) (by omega) q1 q2 (by simpa using q))
theorem UP{a b:Ao}(hg:Gl X "range")(hm:X.mg "range" = Af)(ha:PA X [a,b] ta)(hs:Ay [a,b] X.env=[(Ad,eval a X.env),(Ad,eval b X.env)]:=by rfl)(hs2:Ay [b] X.env=[(Ad,eval b X.env)]:=by rfl):
  PI X tg (.Call (.Name "range" p) [a,b] [] pos) (fI ta):=by
 intro pI s σ H R I h;refine HQ (GX I hg hm HS (BM (thn (ha pos pI s σ H _ I h) fun us s1 ⟨vs,H1,I1,r1,q1⟩=>?_) (by rw[hs,hs2]) (by rw[hs2];rfl)))
 obtain⟨i,j,e,⟨q1,q2,q3,q4⟩,q⟩:=q1;subst e;cases r1 with
 |cons r rr=>
  cases rr with
  |cons r' rr=>
   cases rr;obtain⟨t,rfl⟩:=r;obtain⟨t',rfl⟩:=r';exact call_range_2 (OO I1 q1 q2 q3 q4 q)
def iN(wi:TI)(g:TG)(tb:TS):TS:=fun D σ H=>wi σ H fun J H1=>∃ W:Ag->Ag->St->Hp->Prop,(∃ m,W 0 m σ H1)/\∀ i m σ H,W i m σ H ->
 (J.stop i H/\D.nx σ H)\/(J.go i H/\∃ N:St->Hp->Prop,(∀ σ' H',N σ' H'->∃ m',m'<m/\W (i+1) m' σ' H')/\∀ x H',J.yld i H x H'->g x σ H' fun σ2 H2=>tb {D with nx:=N,ct:=N,bk:=D.nx} σ2 H2)
noncomputable def HG(fp:Ac Ak)(h:AK):Pn:=fp.filterMap fun b=>(h.get? b).map fun o=>(b,o)
theorem Kj(hb:b∈fp)(e:h.get? b=Aa o):(b,o)∈HG fp h:=SK.mpr ⟨b,hb,by rw[e];rfl⟩
theorem NZ{p:Ak×Dq}(hp:p∈HG fp h):p.1∈fp/\h.get? p.1=Aa p.2:=by
 obtain⟨b,hb,e⟩:=List.mem_filterMap.mp hp;cases q:h.get? b with
 |none=>rw[q]at e;cases e
 |some o=>
  rw[q]at e;have e':(b,o)=p:=Bt e;subst e';exact⟨hb,q⟩
theorem Inv.pinned(I:Inv X pI σ H s)(hf:∀ b∈fp,Fn X pI H b)(ho:∀ b∈fp,∃ o,s.heap.get? b=Aa o/\∀ v,o.data≠.cell v):Inv X (pI++HG fp s.heap) σ H s:=
 I.pins_of fun p hp=>(Cu.mp hp).elim (fun z=>I.pin p (Bg _ z)) fun z=>by
  obtain⟨hb,e⟩:=NZ z;obtain⟨f0,f1,f2,_⟩:=hf p.1 hb;obtain⟨o,e',d⟩:=ho p.1 hb;rw[e]at e';cases e';exact⟨e,f0,f1,f2,d⟩
theorem Inv.unpinned{pl:Pn}(I:Inv X (pI++pl) σ H s):Inv X pI σ H s:=I.pins_of fun p hp=>I.pin p (Bg _ (Cn _ hp))
theorem Y6{iter:Ao}{wi:TI}{g:TG}{tb:TS}(hp:EK (model X.prog X.w) X.A X.env X.xe)(hc:X.calm=Ab)(hi:PI X tg iter wi)(hg:PG X tg g)(hb:PSs X body tb)(hs:∀ x,Cs iter X.env x=pure x:=by intro _;rfl):PS X (.For tg iter body [] pos) (iN wi g tb):=by
 intro pI s σ H D I h;refine wpAny_For (thn (hi pI s σ H _ I h) fun v s1 h1=>thn h1 fun itv s2 h2=>?_) hs
 obtain⟨it,fp,tn,J,H2,e,I2,T,st2,f2,W,⟨m0,w0⟩,turn⟩:=h2;subst e
 -- what stays Ab of the iterator's objects through the loop
 have stat:∀{H':Hp},(∀ b∈fp,H' b=Af)->∀ b∈fp,Fn X pI H' b:=fun hn b hb=>⟨hn b hb,(f2 b hb).2⟩
 refine codeAny_forLoop_any (fun n s'=>∃ i σ' H',Inv X pI σ' H' s'/\tn i s'.heap/\(∀ b∈fp,H' b=Af)/\W i n σ' H') ?_ m0 ⟨0,σ,H2,I2,st2,fun b hb=>(f2 b hb).1,w0⟩
 rintro n s3 ⟨i,σ3,H3,I3,st3,fr3,w3⟩;rcases turn i n σ3 H3 w3 with ⟨stop,qn⟩|⟨go,N,hN,step⟩
 ·refine Ec hp (thn (T.done X rfl rfl rfl hc i pI s3 σ3 H3 X.xe I3 (stat fr3) st3 stop) fun r s4 ⟨hr,I4⟩=>?_)
  subst hr;exact T7 ⟨σ3,H3,I4,qn⟩
 ·refine Ec hp (thn (T.item X rfl rfl rfl hc i pI s3 σ3 H3 X.xe I3 (stat fr3) st3 go) fun r s4 ⟨u,hr,h4⟩=>?_)
  subst hr;refine Ec hp (thn h4 fun _ s5 ⟨x,H5,I5,r5,y5,st5,fr5⟩=>?_)
  have I5':=I5.pinned (stat fr5) (T.obj _ _ st5);refine Ec hp (thn (hg _ s5 σ3 H5 x u _ I5' r5 (step x H5 y5)) fun _ s6 ⟨σ6,H6,I6,q6⟩=>?_)
  refine Ec hp (thn (hb _ s6 σ6 H6 _ I6 q6) fun f s7 q7=>?_)
  have again:∀{σ7:St}{H7:Hp},Inv X (pI++HG fp s5.heap) σ7 H7 s7->N σ7 H7->∃ m,m<n/\∃ i σ' H',Inv X pI σ' H' s7/\tn i s7.heap/\(∀ b∈fp,H' b=Af)/\W i m σ' H':=fun {σ7 H7} I7 n7=>by
   obtain⟨m',hm,w7⟩:=hN σ7 H7 n7;refine⟨m',hm,i+1,σ7,H7,I7.unpinned,T.keep _ _ _ st5 fun b hb o e=>(I7.pin (b,o) (Bg _ (Bg _ (Kj hb e)))).1,fun b hb=>?_,w7⟩
   obtain⟨o,e,d⟩:=T.obj _ _ st5 b hb;exact(I7.pin (b,o) (Bg _ (Bg _ (Kj hb e)))).2.1
  cases f with
  |next=>obtain⟨σ7,H7,I7,n7⟩:=q7;exact again I7 n7
  |cont=>obtain⟨σ7,H7,I7,n7⟩:=q7;exact again I7 n7
  |brk=>obtain⟨σ7,H7,I7,q7⟩:=q7;exact⟨σ7,H7,I7.unpinned,q7⟩
  |ret v=>obtain⟨x7,σ7,H7,I7,r7,q7⟩:=q7;exact⟨x7,σ7,H7,I7.unpinned,r7,q7⟩
end
abbrev R2:=V->V->Hp->VK->Prop
variable{r:R2}
noncomputable def OpR(X:Cx)(f:Aj->Aj->Sem Aj)(r:R2):Prop:=
 ∀(pI:Pn)(s:Ap)(σ:St)(H:Hp)(x y:V)(v u:Aj)(Q:VK),Inv X pI σ H s->By x v->By y u->r x y H Q ->
  AH (model X.prog X.w) X.A (f v u) (EP X pI σ Q) X.xe s
noncomputable def Gh(X:Cx)(f:Aj)(r:Ac V->Hp->VK->Prop):Prop:=
 ∀(pI:Pn)(s:Ap)(σ:St)(H:Hp)(xs:Ac V)(us:Ac Aj)(Q:VK),Inv X pI σ H s->AZ xs us->r xs H Q ->
  AH (model X.prog X.w) X.A (call f us) (EP X pI σ Q) X.xe s
noncomputable def jQ(X:Cx)(r:V->Hp->(An->Hp->Prop)->Prop):Prop:=
 ∀(pI:Pn)(s:Ap)(σ:St)(H:Hp)(x:V)(v:Aj)(Q:An->Hp->Prop),Inv X pI σ H s->By x v->r x H Q ->
  AH (model X.prog X.w) X.A (truthy v) (TP X pI σ Q) X.xe s
def tOp(r:R2)(ta tb:TE):TE:=fun σ H Q=>ta σ H fun x H1=>tb σ H1 fun y H2=>r x y H2 Q
def rI(C:Ae->Ae->Prop)(g:Ae->Ae->V):R2:=fun x y H Q=>∃ i j,x=.int i/\y=.int j/\C i j/\Q (g i j) H
def rI0(g:Ae->Ae->V):R2:=fun x y H Q=>∃ i j,x=.int i/\y=.int j/\Q (g i j) H
section
variable{X:Cx}{a b c:Ao}{ta tb tc:TE}{pos:AU}
theorem Nr(ha:PE X a ta)(hb:PE X b tb){R:V->V->Hp->Prop}(I:Inv X pI σ H s)(h:ta σ H fun x H1=>tb σ H1 fun y H2=>R x y H2){Q:Vq}(hf:∀ v u s2 x y H2,Inv X pI σ H2 s2->By x v->By y u->R x y H2->AH (model X.prog X.w) X.A (f v u) Q X.xe s2):AH (model X.prog X.w) X.A (eval a X.env) (fun v s₁=>AH (model X.prog X.w) X.A (eval b X.env) (fun u s₂=>AH (model X.prog X.w) X.A (f v u) Q X.xe s₂) X.xe s₁) X.xe s:=by
 refine thn (ha pI s σ H _ I h) fun v s1 ⟨x,H1,I1,r1,q1⟩=>?_
 refine thn (hb pI s1 σ H1 _ I1 q1) fun u s2 ⟨y,H2,I2,r2,q2⟩=>?_
 exact hf v u s2 x y H2 I2 r1 r2 q2
theorem QV{op:F6}(ho:OpR X (BO op) r)(ha:PE X a ta)(hb:PE X b tb):PE X (.BinOp a op b pos) (tOp r ta tb):=by
 intro pI s σ H Q I h;exact wpAny_BinOp (Nr ha hb I h fun v u s2 x y H2 I2 rx ry q=>ho pI s2 σ H2 x y v u Q I2 rx ry q)
theorem opI{C:Ae->Ae->Prop}(rule:∀(i j:Ae)(t u:CO)(s:Ap)(Q:Vq)(E:Vq),C i j->Q (.int (g i j) s.toks) {s with toks:=s.toks+1}->AH (model X.prog X.w) X.A (f (.int i t) (.int j u)) Q E s):OpR X f (rI C fun i j=>.int (g i j)):=by
 intro pI s σ H x y v u Q I rx ry h;obtain⟨i,j,rfl,rfl,hc,q⟩:=h;obtain⟨t,rfl⟩:=rx;obtain⟨t',rfl⟩:=ry;exact rule i j t t' s _ _ hc ⟨.int (g i j),H,I.tok _,⟨_,rfl⟩,q⟩
theorem RC(rule:∀(i j:Ae)(t u:CO)(s:Ap)(Q:Vq)(E:Vq),Q (.int (g i j) s.toks) {s with toks:=s.toks+1}->AH (model X.prog X.w) X.A (f (.int i t) (.int j u)) Q E s):OpR X f (rI0 fun i j=>.int (g i j)):=by
 intro pI s σ H x y v u Q I rx ry h;obtain⟨i,j,rfl,rfl,q⟩:=h;obtain⟨t,rfl⟩:=rx;obtain⟨t',rfl⟩:=ry;exact rule i j t t' s _ _ ⟨.int (g i j),H,I.tok _,⟨_,rfl⟩,q⟩
theorem KZ{g:Ae->Ae->An}(rule:∀(i j:Ae)(t u:CO)(s:Ap)(Q:Vq)(E:Vq),Q (.bool (g i j)) s->AH (model X.prog X.w) X.A (f (.int i t) (.int j u)) Q E s):OpR X f (rI0 fun i j=>.bl (g i j)):=by
 intro pI s σ H x y v u Q I rx ry h;obtain⟨i,j,rfl,rfl,q⟩:=h;obtain⟨t,rfl⟩:=rx;obtain⟨t',rfl⟩:=ry;exact rule i j t t' s _ _ ⟨.bl (g i j),H,I,rfl,q⟩
def jY(i j:Ae):Prop:=0<j/\j<1073741824
def jX(i j:Ae):Prop:=0<=j/\j<=1000000/\i.natAbs<2 ^ 64
def KS(i j:Ae):Prop:=(-(2 ^ 64)<i/\i<2 ^ 64)\/(-(2 ^ 64)<j/\j<2 ^ 64)
theorem KS.ok{i j:Ae}(h:KS i j):Jb i j:=by
 rcases h with ⟨h1,h2⟩|⟨h1,h2⟩
 ·exact .of_left (intBits_le_64 h1 h2)
 ·exact .of_right (intBits_le_64 h1 h2)
theorem Z6:OpR X (BO .Add) (rI0 fun i j=>.int (i+j)):=RC fun _ _ _ _ _ _ _ q=>add_int q
theorem YV:OpR X (BO .Sub) (rI0 fun i j=>.int (i-j)):=RC fun _ _ _ _ _ _ _ q=>sub_int q
theorem WR:OpR X (BO .FloorDiv) (rI jY fun i j=>.int (i / j)):=opI fun i j _ _ _ _ _ hc q=>by
 have h1:(0:Ae)<j:=hc.1;have h2:j<1073741824:=hc.2;exact floordiv_int (by omega) (by rw[Int.fdiv_eq_ediv_of_nonneg i (by omega)];exact q) (.inl (PyProof.noPylong_small (by omega)))
theorem Z4:OpR X (BO .Mod) (rI (fun _ j=>0<j) fun i j=>.int (i%j)):=opI fun i j _ _ _ _ _ hc q=>by
 have h1:(0:Ae)<j:=hc;exact mod_int' (by omega) (by rw[Int.fmod_eq_emod_of_nonneg i (by omega)];exact q)
theorem YW:OpR X (BO .Pow) (rI jX fun i j=>.int (i ^ j.toNat)):=opI fun _ _ _ _ _ _ _ hc q=>pow_int_small hc.1 hc.2.1 hc.2.2 q
end
section
variable{X:Cx}{a b c:Ao}{ta tb tc:TE}{pos:AU}
theorem Qr{Q:VK}{k k':An}(I:Inv X pI σ H s)(q:Q (.bl k) H)(e:k=k'):EP X pI σ Q (.bool k') s:=by
 subst e;exact⟨.bl k,H,I,rfl,q⟩
theorem fQ:OpR X (Ca .Lt) (rI0 fun i j=>.bl (decide (i<j))):=KZ fun _ _ _ _ _ _ _ q=>lt_int q
theorem fR:OpR X (Ca .LtE) (rI0 fun i j=>.bl (decide (i<=j))):=KZ fun _ _ _ _ _ _ _ q=>le_int q
theorem fS:OpR X (Ca .Gt) (rI0 fun i j=>.bl (decide (j<i))):=KZ fun _ _ _ _ _ _ _ q=>gt_int q
theorem fT:OpR X (Ca .GtE) (rI0 fun i j=>.bl (decide (j<=i))):=KZ fun _ _ _ _ _ _ _ q=>ge_int q
theorem Z5:OpR X (Ca .Is) (fun x y H Q=>y=.non/\Q (.bl (decide (x=.non))) H):=by
 intro pI s σ H x y v u Q I rx ry h;obtain⟨rfl,q⟩:=h;cases ry;refine is_none_gen (Qr I q ?_);cases x<;>first
  |(cases rx;rfl)
  |(obtain⟨t,rfl⟩:=rx;rfl)
theorem WP:OpR X (Ca .IsNot) (fun x y H Q=>y=.non/\Q (.bl (!decide (x=.non))) H):=by
 intro pI s σ H x y v u Q I rx ry h;obtain⟨rfl,q⟩:=h;cases ry;refine isnot_none_gen (Qr I q ?_);cases x<;>first
  |(cases rx;rfl)
  |(obtain⟨t,rfl⟩:=rx;rfl)
theorem WI(ho:OpR X (Ca op) r)(ha:PE X a ta)(hb:PE X b tb)(hm:FB op b=Ad):PE X (.Compare a [op] [b] pos) (tOp r ta tb):=by
 intro pI s σ H Q I h;exact wpAny_Compare1 (Nr ha hb I h fun v u s2 x y H2 I2 rx ry q=>ho pI s2 σ H2 x y v u Q I2 rx ry q) hm
def QI(t:TE):TT:=fun σ H Q=>t σ H fun x H'=>∃ k,x=.bl k/\Q k H'
theorem Xl(ho:OpR X (Ca op) r)(ha:PE X a ta)(hb:PE X b tb)(hm:FB op b=Ad):PT X (.Compare a [op] [b] pos) (QI (tOp r ta tb)):=by
 intro pI s σ H Q I h;refine wpAny_isTrue_Compare1 (thn (ha pI s σ H _ I h) fun v s1 ⟨x,H1,I1,r1,q1⟩=>thn (hb pI s1 σ H1 _ I1 q1) fun u s2 ⟨y,H2,I2,r2,q2⟩=>
  thn (ho pI s2 σ H2 x y v u _ I2 r1 r2 q2) fun c s3 ⟨z,H3,I3,r3,k,e,q3⟩=>?_) hm
 subst e;cases r3;exact Cb ⟨H3,I3,q3⟩
def Ql(r r':R2)(ta tb tc:TE):TE:=fun σ H Q=>ta σ H fun x H1=>tb σ H1 fun y H2=>r x y H2 fun z H3=>∃ k,z=.bl k /\
 (if k=Ab then tc σ H3 fun w' H4=>r' y w' H4 Q else Q (.bl Ad) H3)
theorem V1{op':DK}{r':R2}(ho:OpR X (Ca op) r)(ho':OpR X (Ca op') r')(ha:PE X a ta)(hb:PE X b tb)(hc:PE X c tc)(hm:Hf [op,op'] [b,c]=Ad:=by with_unfolding_all rfl):PE X (.Compare a [op,op'] [b,c] pos) (Ql r r' ta tb tc):=by
 intro pI s σ H Q I h;refine Compare_chain (thn (ha pI s σ H _ I h) fun v s1 ⟨x,H1,I1,r1,q1⟩=>chain_link (thn (hb pI s1 σ H1 _ I1 q1) fun u s2 ⟨y,H2,I2,r2,q2⟩=>
  thn (ho pI s2 σ H2 x y v u _ I2 r1 r2 q2) fun d s3 ⟨z,H3,I3,r3,k,e,q3⟩=>?_)) hm
 subst e;cases r3;refine Cb ?_;cases k with
 |false=>exact ite_ff ⟨.bl Ad,H3,I3,rfl,q3⟩
 |true=>exact ite_tt (chain_last (thn (hc pI s3 σ H3 _ I3 q3) fun w' s4 ⟨z',H4,I4,r4,q4⟩=>ho' pI s4 σ H4 y z' u w' Q I4 r2 r4 q4))
theorem VW{op':DK}{r':R2}(ho:OpR X (Ca op) r)(ho':OpR X (Ca op') r')(ha:PE X a ta)(hb:PE X b tb)(hc:PE X c tc)(hm:Hf [op,op'] [b,c]=Ad:=by with_unfolding_all rfl):PT X (.Compare a [op,op'] [b,c] pos) (QI (Ql r r' ta tb tc)):=by
 intro pI s σ H Q I h;refine isTrue_chain (thn (ha pI s σ H _ I h) fun v s1 ⟨x,H1,I1,r1,q1⟩=>test_link (thn (hb pI s1 σ H1 _ I1 q1) fun u s2 ⟨y,H2,I2,r2,q2⟩=>
  thn (ho pI s2 σ H2 x y v u _ I2 r1 r2 q2) fun d s3 ⟨z,H3,I3,r3,k,e,q3⟩=>?_)) hm
 subst e;cases r3;refine Cb ?_;cases k with
 |false=>
  obtain⟨k',e',q'⟩:=q3;cases e';exact ite_ff ⟨H3,I3,q'⟩
 |true=>
  refine ite_tt (test_last (thn (hc pI s3 σ H3 _ I3 q3) fun w' s4 ⟨z',H4,I4,r4,q4⟩=>thn (ho' pI s4 σ H4 y z' u w' _ I4 r2 r4 q4) fun d' s5 ⟨z2,H5,I5,r5,k2,e2,q5⟩=>?_))
  subst e2;cases r5;exact Cb ⟨H5,I5,q5⟩
noncomputable def RZ(K:Fg)(x:V)(H:Hp)(k:An):Prop:=
  match x with
  |.non=>k=Ad
  |.bl b=>k=b
  |.int i=>k=(i != 0)
  |.str y=>y.length<=sizeLine/\k=((y.length:Ae) != 0)
  |.byt y=>y.size<=sizeLine/\k=((y.size:Ae) != 0)
  |.ref p=>(∃ xs,SqL K H p xs/\k=!xs.isEmpty)\/(∃ xs,SqT K H p xs/\k=!xs.isEmpty)\/∃ kvs,H p=Aa (.dK kvs)/\k=!kvs.isEmpty
  |_=>Bb
theorem Ur{κ:Type}{kvs:Ac (κ×V)}{vs:Ac (κ×Aj)}(r:KV kvs vs):(!vs.isEmpty)=!kvs.isEmpty:=by
 cases r<;>rfl
theorem N2{its:Ac Aj}(r:AZ xs its):(!its.toArray.isEmpty)=!xs.isEmpty:=by
 cases r<;>simp
theorem IC:(sizeLine:Ag)<2 ^ 63:=by rw[D3];decide
theorem YM:jQ X (fun x H Q=>∃ k,RZ X.K x H k/\Q k H):=by
 intro pI s σ H x v Q I rx h;obtain⟨k,e,q⟩:=h;have hl:=IC;have hs:sizeLine=16777216:=D3;cases x with
 |non=>
  cases rx;have e':k=Ad:=e;subst e';exact truthy_none ⟨H,I,q⟩
 |bl b=>
  cases rx;have e':k=b:=e;subst e';exact Cb ⟨H,I,q⟩
 |int i=>
  obtain⟨t,rfl⟩:=rx;have e':k=(i != 0):=e;subst e';exact PySem.P.truthy_int ⟨H,I,q⟩
 |str y=>
  obtain⟨t,rfl⟩:=rx;obtain⟨hy,e'⟩:y.length<=sizeLine/\k=((y.length:Ae) != 0):=e;subst e';exact PySem.P.truthy_str (by omega) ⟨H,I.tok _,q⟩
 |byt y=>
  obtain⟨t,rfl⟩:=rx;obtain⟨hy,e'⟩:y.size<=sizeLine/\k=((y.size:Ae) != 0):=e;subst e';exact PySem.W.truthy_bytes (by omega) ⟨H,I.tok _,q⟩
 |ref p=>
  cases rx;have e':(∃ xs,SqL X.K H p xs/\k=!xs.isEmpty)\/(∃ xs,SqT X.K H p xs/\k=!xs.isEmpty)\/∃ kvs,H p=Aa (.dK kvs)/\k=!kvs.isEmpty:=e;rcases e' with ⟨xs,hx,e'⟩|⟨xs,hx,e'⟩|⟨kvs,hx,e'⟩
  ·subst e';obtain⟨its,r,pl,hz⟩:=I.list hx;have hlen:=r.length;exact wpAny_truthy_list pl.isList (by simp only[Ax];omega) ⟨H,I.tok _,by rw[N2 r];exact q⟩
  ·subst e';obtain⟨its,r,pl,hz⟩:=I.tuple hx;have hlen:=r.length;exact truthy_tuple pl (by simp only[Ax];omega) ⟨H,I.tok _,by rw[N2 r];exact q⟩
  ·subst e';obtain⟨hz,hS,vs,r,m⟩:kvs.length<=sizeLine/\(p==H9)=Ad/\∃ vs,KV kvs vs/\s.heap.DictOf (Mi X.prog X.w) p vs:=I.hok p _ hx;have hlen:kvs.length=vs.length:=Tz r;exact wpAny_truthy_dict hS m (by omega) ⟨H,I.tok _,by rw[Ur r];exact q⟩
 |_=>exact(show Bb from e).elim
theorem VV(ha:PE X a ta)(he:∀ whole,GK a X.env whole=(do let v <-whole;FW a.pos;holding [v] (truthy v))):PT X a (fun σ H Q=>ta σ H fun x H'=>∃ k,RZ X.K x H' k/\Q k H'):=by
 intro pI s σ H Q I h;exact isTrue_plain (thn (ha pI s σ H _ I h) fun v s1 ⟨x,H1,I1,r1,q1⟩=>YM pI s1 σ H1 x v Q I1 r1 q1) (he _)
theorem UE:OpR X (BO .Add) (fun x y H Q=>∃ i j,x=.str i/\y=.str j/\i.length+j.length<=sizeLine/\Q (.str (i++j)) H):=by
 intro pI s σ H x y v u Q I rx ry h;obtain⟨i,j,rfl,rfl,hz,q⟩:=h;obtain⟨t,rfl⟩:=rx;obtain⟨t',rfl⟩:=ry;exact add_str (fun t' tk=>⟨.str (i++j),H,I.tok _,⟨_,rfl⟩,q⟩) hz
theorem Gz{x:V}(r:AZ [x] us):∃ u,us=[u]/\By x u:=by
 cases r with
 |cons r1 r2=>cases r2;exact⟨_,rfl,r1⟩
theorem MV{x y:V}(r:AZ [x,y] us):∃ u w',us=[u,w']/\By x u/\By y w':=by
 cases r with
 |cons r1 r2=>
  cases r2 with
  |cons r3 r4=>cases r4;exact⟨_,_,rfl,r1,r3⟩
theorem Ve(hc:X.calm=Ab):Gh X (.builtin "max") (fun xs H Q=>∃ i j,xs=[.int i,.int j]/\Q (.int (if j > i then j else i)) H):=by
 intro pI s σ H xs us Q I r h;obtain⟨i,j,rfl,q⟩:=h;obtain⟨u,w',rfl,⟨t,rfl⟩,⟨t',rfl⟩⟩:=MV r;refine max_two_ints (I.ok.hd hc) fun h' tk k=>⟨_,H,I.kept k,?_,q⟩
 by_cases hj:j > i
 ·rw[AB hj,AB hj];exact⟨_,rfl⟩
 ·rw[AM hj,AM hj];exact⟨_,rfl⟩
theorem Vd(hc:X.calm=Ab):Gh X (.builtin "min") (fun xs H Q=>∃ i j,xs=[.int i,.int j]/\Q (.int (if j<i then j else i)) H):=by
 intro pI s σ H xs us Q I r h;obtain⟨i,j,rfl,q⟩:=h;obtain⟨u,w',rfl,⟨t,rfl⟩,⟨t',rfl⟩⟩:=MV r;refine min_two_ints (I.ok.hd hc) fun h' tk k=>⟨_,H,I.kept k,?_,q⟩
 by_cases hj:j<i
 ·rw[AB hj,AB hj];exact⟨_,rfl⟩
 ·rw[AM hj,AM hj];exact⟨_,rfl⟩
end
section
variable{prog:AS}{w:AY}{A:A6}{E:Vq}{s:Ap}{K:Fg}{x dx C f:Ak}{mA:Ah->Aq Aj}{name:Ah}{v:Aj}
end
section
variable{P:AS}{w:AY}{H H':Hp}{h h':AK}{a C dx:Ak}{fs fs':Ac (Ah×V)}
end
section
variable{X:Cx}{pI:Pn}{σ:St}{H:Hp}{s:Ap}{a C dx:Ak}{fs:Ac (Ah×V)}{f:Ah}{v:V}{A:A6}{E:Vq}
end
section
variable{X:Cx}{o e value:Ao}{f:Ah}{pos pos' tpos:AU}{ta tv:TE}
end
section
variable{X:Cx}{pI:Pn}{σ:St}{H:Hp}{s:Ap}{A:A6}{E:Vq}{Q:Vq}{c:Aj}{b:An}
end
structure Room (k:Ag) (A:A6):Prop where
 hd:A.handled=Af
 dp:A.depth+3*k+5<T3
 un:A.units+16*k+200<BV
theorem Room.deeper{A:A6}(r:Room (k+1) A)(env:BP):Room k (A.deeper env):=
 ⟨r.hd,by have:=r.dp;show A.depth+1+3*k+5<_;omega,by have:=r.un;show A.units+3+16*k+200<_;omega⟩
theorem Room.depth{A:A6}(r:Room k A):A.depth<T3:=by have:=r.dp;omega
theorem Room.units{A:A6}(r:Room k A):A.units+64<BV:=by have:=r.un;omega
def jH:TA:=fun _ H Q=>Q [] H
def cK(ta:TE)(tr:TA):TA:=fun σ H Q=>ta σ H fun x H1=>tr σ H1 fun xs H2=>Q (x::xs) H2
section
variable{X:Cx}{e:Ao}{es:Ac Ao}{te:TE}{t:TA}{pos:AU}
theorem Gb:PA X [] jH:=fun _ _ _ _ H Q I h=>Td ⟨[],H,I,.nil,h⟩
theorem EB(ha:PE X e te)(hr:PA X es t)(hs:Ay (e::es) X.env=(Ad,eval e X.env)::Ay es X.env:=by rfl):PA X (e::es) (cK te t):=by
 intro pos pI s σ H Q I h;rw[hs];show AH _ _ (spliced ((Ad,eval e X.env)::Cz pos (Ay es X.env))) _ _ s;refine Tb (thn (ha pI s σ H _ I h) fun u s1 ⟨x,H1,I1,r1,q1⟩=>?_)
 exact thn (hr pos pI s1 σ H1 _ I1 q1) fun us s2 ⟨xs,H2,I2,r2,q2⟩=>⟨x::xs,H2,I2,.cons r1 r2,q2⟩
def jC(t:TA):TE:=fun σ H Q=>t σ H fun xs H1=>xs.length<=sizeLine/\∀ p,H1 p=Af->Q (.ref p) (upd H1 p (.tup xs))
def iK(t:TA):TE:=fun σ H Q=>t σ H fun xs H1=>xs.length<=sizeLine/\∀ p,H1 p=Af->Q (.ref p) (upd H1 p (.lst xs))
theorem Zg{x1}(h:PA X es t):PE X (.Tuple es x1 pos) (jC t):=by
 intro pI s σ H Q I hq;refine wpAny_Tuple_spliced (thn (h pos pI s σ H _ I hq) fun us s1 ⟨xs,H1,I1,r,z,q⟩=>⟨by rw[<-r.length];exact z,?_⟩)
 have hf:H1 s1.heap.objs.size=Af:=I1.hok.fresh (AV _);refine⟨.ref s1.heap.objs.size,upd H1 s1.heap.objs.size (.tup xs),I1.laid (t':=s1.toks) (fun b u e=>Au _ e) (AV _) ?_,rfl,q _ hf⟩
 exact⟨z,us,r,⟨_,AG _ rfl,rfl,_,rfl⟩⟩
theorem YQ(h:PA X es t):PE X (.List es pos) (iK t):=by
 intro pI s σ H Q I hq;refine wpAny_List_spliced (thn (h pos pI s σ H _ I hq) fun us s1 ⟨xs,H1,I1,r,z,q⟩=>⟨by rw[<-r.length];exact z,?_⟩)
 have hf:H1 s1.heap.objs.size=Af:=I1.hok.fresh (AV _);refine⟨.ref s1.heap.objs.size,upd H1 s1.heap.objs.size (.lst xs),I1.laid (t':=s1.toks) (fun b u e=>Au _ e) (AV _) ?_,rfl,q _ hf⟩
 exact⟨z,us,0,r,AG _ rfl⟩
end
abbrev Sp:=Ac V->Hp->VK->XK->Prop
variable{sp:Sp}
abbrev CXT:=Ac BP->Hp->Ap->XK->Aj->Ap->Prop
variable{CX:CXT}
structure Env0 (P:AS) (w:AY) (K:Fg) (mg:Ah->Aq Aj) (base:AK) (A:A6) (outer:Ac BP) (s:Ap) (H:Hp):Prop where
 frames:A.frames=Aa outer
 mod:Mod K mg base
 bs:∀ b o,base.get? b=Aa o->s.heap.get? b=Aa o/\H b=Af
 bsz:base.objs.size<=s.heap.objs.size
 funs:s.heap.FunFrames base outer
 frf:∀ b∈frs outer,H b=Af
 hok:HOk P w H s.heap
 bare:Ek s.gens
noncomputable def CE(outer:Ac BP)(P:AS)(w:AY)(H:Hp)(s:Ap)(Q:VK)(u:Aj)(s':Ap):Prop:=
 ∃ v H',s'.os=s.os/\Ek s'.gens/\Un (frs outer) [] H H' s.heap s'.heap/\HOk P w H' s'.heap/\By v u/\Q v H'
noncomputable def CR(CX:CXT)(outer:Ac BP)(P:AS)(w:AY)(H:Hp)(s:Ap)(Q:VK)(E:XK)(r:HV)(s':Ap):Prop:=
  match r with
  |.ok (.ret u)=>CE outer P w H s Q u s'
  |.ok _=>Bb
  |.error e=>CX outer H s E e s'
structure FnOk (P:AS) (w:AY) (K:Fg) (mg:Ah->Aq Aj) (base:AK) (CX:CXT) (k:Ag) (f:Ak) (fd:B2) (ps:Ac Ah) (sp:Sp):Prop where
 len:∀ vs H Q E,sp vs H Q E->vs.length=ps.length
 run:∀(A:A6)(outer:Ac BP)(s:Ap)(H:Hp)(args:Args)(us:Ac Aj)(vs:Ac V)(Q:VK)(E:XK),Room k A->Env0 P w K mg base A outer s H->FS s fd args (ps.zip us)->AZ vs us->sp vs H Q E ->
  Fb (model P w) A (.call (.ref f) args) (CR CX outer P w H s Q E) s
theorem FnOk.imp{w:AY}{K:Fg}{mg:Ah->Aq Aj}{base:AK}{f:Ak}{sp':Sp}(F:FnOk P w K mg base CX k f fd ps sp)(h:∀ vs H Q E,sp' vs H Q E->sp vs H Q E):FnOk P w K mg base CX k f fd ps sp':=
 ⟨fun vs H Q E q=>F.len vs H Q E (h _ _ _ _ q),fun A outer s H args us vs Q E hr he hb hv hs=>F.run A outer s H args us vs Q E hr he hb hv (h _ _ _ _ hs)⟩
section
variable{X:Cx}{pI:Pn}{σ:St}{H:Hp}{s s':Ap}
theorem Inv.env0(I:Inv X pI σ H s):Env0 X.prog X.w X.K X.mg X.base X.A X.stack s H:=
 ⟨I.ok.frames,I.ok.mod,I.bs,Cj I.ok.bsz I.sz,I.stack,I.stkFree,I.hok,I.bare⟩
theorem Inv.after{Q:VK}(I:Inv X pI σ H s)(h:CE X.stack X.prog X.w H s Q u s'):EP X pI σ Q u s':=by
 obtain⟨v,H',os,bare,un,hok,r,q⟩:=h;obtain⟨hh,g,d,t,os'⟩:=s';obtain rfl:os'=s.os:=os;exact⟨v,H',I.call (h':=hh) (g':=g) (d':=d) (t':=t) (ch:=[]) un hok bare (fun b z=>absurd z (by simp)),r,q⟩
end
def cN(sp:Sp)(dvs:Ac V)(E:XK)(t:TA):TE:=fun σ H Q=>t σ H fun vs H1=>sp (vs++dvs) H1 Q E
noncomputable def GA(K:Fg)(fd:B2)(ps:Ac Ah)(ds:Ac Aj):Prop:=
 ∀(s:Ap)(us:Ac Aj),K.In s.heap->(us++ds).length=ps.length->FS s fd ⟨us,[]⟩ (ps.zip (us++ds))
theorem GA.all{K:Fg}(h:∀ us:Ac Aj,us.length=ps.length->Jd fd ⟨us,[]⟩=pure (ps.zip us)):GA K fd ps []:=fun s us _ hl=>by
 rw[Cf]at hl ⊢;exact .of_eq (h us hl)
def IG(CX:CXT)(X:Cx)(E:XK):Prop:=∀(pI:Pn)(σ:St)(H:Hp)(s:Ap)(e:Aj)(s':Ap),Inv X pI σ H s->CX X.stack H s E e s'->X.xe e s'
section
variable{X:Cx}{CX:CXT}{k:Ag}{f C:Ak}{fd:B2}{ps:Ac Ah}{sp:Sp}{dvs:Ac V}{ds:Ac Aj}{E:XK}{x m:Ah}{p pos apos:AU}{e o:Ao}{es:Ac Ao}{ta:TE}{t:TA}
theorem Zt{Q:VK}(F:FnOk X.prog X.w X.K X.mg X.base CX k f fd ps sp)(hr:Room k X.A)(hb:GA X.K fd ps ds)(hd:AZ dvs ds)(hx:IG CX X E)(I:Inv X pI σ H s)(r:AZ vs us)(h:sp (vs++dvs) H Q E):AH (model X.prog X.w) X.A (call (.ref f) us) (EP X pI σ Q) X.xe s:=by
 have r2:AZ (vs++dvs) (us++ds):=r.append hd;have hl:(us++ds).length=ps.length:=by rw[<-r2.length];exact F.len _ _ _ _ h
 refine wpAny_call (Hd (F.run X.A X.stack s H ⟨us,[]⟩ (us++ds) (vs++dvs) Q E hr I.env0 (hb s us I.kIn hl) r2 h) fun r s' hq=>?_)
 cases r with
 |error e=>exact hx pI σ H s e s' I hq
 |ok fl=>
  cases fl with
  |ret u=>exact I.after hq
  |next=>exact Dh hq
  |brk=>exact Dh hq
  |cont=>exact Dh hq
theorem O8(F:FnOk X.prog X.w X.K X.mg X.base CX k f fd ps sp)(hr:Room k X.A)(hg:Gl X x)(hm:X.mg x=Aa (.ref f))(hk:CW X.K (.ref f)=Ab)(hb:GA X.K fd ps ds)(hd:AZ dvs ds)(hx:IG CX X E)(ha:PA X (e::es) t)(hdb:(x==("__debug__" : Ah))=Ad:=by decide)(he:Ay (e::es) X.env=(Ad,eval e X.env)::Ay es X.env:=by rfl)(hpl:(Cz pos (Ay es X.env)).any (·.1)=Ad:=by rfl):PE X (.Call (.Name x p) (e::es) [] pos) (cN sp dvs E t):=by
 intro pI s σ H Q I h;refine Fv (W1 I hg hm ?_ hdb);refine PySem.W.callWith_K (h₀:=X.base) I.ok.mod.kin hk (thn (ha pos pI s σ H _ I h) fun us s1 ⟨vs,H1,I1,r,q⟩=>⟨I1.kIn,?_⟩) he hpl
 exact Zt F hr hb hd hx I1 r q
end
section
variable{X:Cx}{CX:CXT}{k:Ag}{f C:Ak}{fd:B2}{ps ks:Ac Ah}{sp:Sp}{E:XK}{x m:Ah}{p pos apos kpos:AU}{e o:Ao}{es:Ac Ao}{kws:Ac FT}{te ta:TE}{t tk:TA}{nm:Aq Ah}
variable{g:Ac Aj->Ac Aj->Ac Aj}{gV:Ac V->Ac V->Ac V}
end
structure FnScope (N P:Ac Ah) (sc:BY):Prop where
 kind:sc.kind=.function
 co:sc.isCoroutine=Ad
 gen:sc.isGenerator=Ad
 nd:N.Nodup
 pre:N.take P.length=P
 par:∀ x∈P,sc.names.lookup x=Aa .local\/sc.names.lookup x=Aa .cell
 nofree:∀ y∈sc.names,y.2≠.free
theorem Ow{kindOf:Ah->Aq Dp}{x:Ah}:∀{binds:Ac (Ah×Aj)}{m:Ah->Aq Aj},(∀ v,(x,v)∉binds)->GP kindOf binds m x=m x
 |[],_,_=>rfl
 |(n,v)::r,m,h=>by
  unfold GP;rw[Ow fun w hw=>h w (At _ hw)]
  split
  ·have:x≠n:=by rintro rfl;exact h v Aw
   simp[this]
  ·rfl
theorem Oy{kindOf:Ah->Aq Dp}{x:Ah}:∀{binds:Ac (Ah×Aj)}{m:Ah->Aq Aj},(∀ v,(x,v)∉binds)->GO kindOf binds m x=m x
 |[],_,_=>rfl
 |(n,v)::r,m,h=>by
  unfold GO;rw[Oy fun w hw=>h w (At _ hw)]
  split
  ·rfl
  ·have:x≠n:=by rintro rfl;exact h v Aw
   simp[this]
theorem Ox{kindOf:Ah->Aq Dp}{x:Ah}{v:Aj}:∀{P:Ac Ah}{vs:Ac Aj}{i:Ag}{m:Ah->Aq Aj},P.Nodup->P[i]?=Aa x->vs[i]?=Aa v->kindOf x=Aa .local->GP kindOf (P.zip vs) m x=Aa v
 |[],_,_,_,_,h,_,_=>by simp at h
 |_::_,[],_,_,_,_,h,_=>by simp at h
 |p::P,w::vs,0,m,nd,h1,h2,hk=>by
  simp at h1 h2;subst h1;subst h2;show GP kindOf ((p,w)::P.zip vs) m p=_;unfold GP;rw[Ow fun v hv=>(BF.mp nd).1 (Go hv).1,AB hk]
  simp
 |p::P,w::vs,i+1,m,nd,h1,h2,hk=>by
  show GP kindOf ((p,w)::P.zip vs) m x=_;unfold GP;exact Ox (i:=i) (BF.mp nd).2 (by simpa using h1) (by simpa using h2) hk
theorem Oz{kindOf:Ah->Aq Dp}{x:Ah}{v:Aj}:∀{P:Ac Ah}{vs:Ac Aj}{i:Ag}{m:Ah->Aq Aj},P.Nodup->P[i]?=Aa x->vs[i]?=Aa v->kindOf x≠Aa .local->GO kindOf (P.zip vs) m x=Aa v
 |[],_,_,_,_,h,_,_=>by simp at h
 |_::_,[],_,_,_,_,h,_=>by simp at h
 |p::P,w::vs,0,m,nd,h1,h2,hk=>by
  simp at h1 h2;subst h1;subst h2;show GO kindOf ((p,w)::P.zip vs) m p=_;unfold GO;rw[Oy fun v hv=>(BF.mp nd).1 (Go hv).1,AM hk]
  simp
 |p::P,w::vs,i+1,m,nd,h1,h2,hk=>by
  show GO kindOf ((p,w)::P.zip vs) m x=_;unfold GO;exact Oz (i:=i) (BF.mp nd).2 (by simpa using h1) (by simpa using h2) hk
noncomputable def start(N:Ac Ah)(vs:Ac V):St:=vs.map Aa++SM (N.length-vs.length) Af
noncomputable def Fh(CX:CXT)(P:AS)(w:AY)(K:Fg)(mg:Ah->Aq Aj)(base:AK)(N:Ac Ah)(qual:Ah)(scope:BY)(f:Ak)(cd:Aj)(A:A6)(outer:Ac BP)(s:Ap)(H:Hp)(E:XK):Cx where
 prog:=P
 w:=w
 K:=K
 mg:=mg
 base:=base
 A:=A.deeper (D0 qual scope s.heap.objs.size f cd)
 N:=N
 s₀:=s
 H₀:=H
 env:=D0 qual scope s.heap.objs.size f cd
 outer:=outer
 stack:=D0 qual scope s.heap.objs.size f cd::outer
 ex:=[]
 calm:=Ab
 fn:=fun _=>Ab
 pn:=[]
 xe:=fun e s'=>AH (model P w) (A.deeper (D0 qual scope s.heap.objs.size f cd)) (leaving (D0 qual scope s.heap.objs.size f cd) e) (fun _ s''=>CX outer H s E e s'') (fun e' s''=>CX outer H s E e' s'') s'
theorem OH{sc:BY}(h:sc.names.lookup x=Aa .cell):∃ c,(CF n sc.names []).lookup x=Aa c:=by
 have q:=TQ sc.names n [] (.inl h);exact SZ.mp q
theorem UK{w:AY}{K:Fg}{mg:Ah->Aq Aj}{base:AK}{N ps:Ac Ah}{f:Ak}{cd:Aj}{A:A6}{outer:Ac BP}{s1:Ap}{E:XK}(S:FnScope N ps scope)(hd:A.handled=Af)(e0:Env0 P w K mg base A outer s H)(hl:vs.length=ps.length)(r:AZ vs us)(x:InCallC s s.heap.objs.size (GP (D0 qual scope s.heap.objs.size f cd).kindOf (ps.zip us) fun _=>Af) (CF (s.heap.objs.size+1) scope.names []) (GO (D0 qual scope s.heap.objs.size f cd).kindOf (ps.zip us) fun _=>Af) s1):Inv (Fh CX P w K mg base N qual scope f cd A outer s H E) [] (start N vs) H s1:=by
 have hpl:ps.length<=N.length:=by have:=congrArg SD S.pre;rw[F1]at this;omega
 obtain⟨h1,tk,rfl,hk⟩:=x.done;have noA:∀ b:Ak,b∉(Fh CX P w K mg base N qual scope f cd A outer s H E).ex:=fun b z=>absurd (show b∈([]:Ac Ak) from z) (by simp)
 refine⟨⟨e0.mod,S.kind,rfl,rfl,AV _,fun y z c h1 h2=>?_,fun y hy=>?_,fun y c _ h=>?_,fun _=>hd,Around.frames_deeper e0.frames,.inr ⟨rfl,rfl⟩,fun b z=>absurd z (noA b),e0.bs,e0.bsz,fun b _ _=>noA b,fun b z=>absurd z (noA b),e0.funs,e0.frf⟩,
  rfl,e0.bare,Un.kept hk,⟨_,x.toInCall.ns,fun i y v h1 h2 h3=>?_⟩,fun y c h=>⟨_,x.cell y c h⟩,e0.hok.fresh (AV _),fun y c h=>?_,fun p hp=>absurd (show p∈([]:Pn) from hp) (by simp),e0.hok.kept hk,?_⟩
 ·exact name_of_addr x.apart (Cc h1) (Cc h2)
 ·have hy:scope.names.lookup y=Aa .cell\/scope.names.lookup y=Aa .free:=hy;rcases hy with hy|hy
  ·exact OH hy
  ·exact absurd rfl (S.nofree _ (Cc hy))
 ·exact EQ (x.above y c (Cc h))
 ·have hi:i<vs.length:=by
   unfold start at h2;by_cases hi:i<vs.length
   ·exact hi
   ·rw[Sv (by simpa using hi)]at h2
    rw[Sz]at h2;split at h2<;>cases h2
  have ha:vs[i]?=Aa v:=by
   unfold start at h2;rw[Ea (by simpa using hi),Cr]at h2
   cases e:vs[i]? with
   |none=>rw[e]at h2;cases h2
   |some a=>rw[e]at h2;cases h2;rfl
  obtain⟨u,hu,rv⟩:=r.get ha;have hp:ps[i]?=Aa y:=by
   rw[<-S.pre,List.getElem?_take_of_lt (by omega)];exact h1
  have ndP:ps.Nodup:=by rw[<-S.pre];exact S.nd.sublist (List.take_sublist _ _)
  refine⟨u,rv,?_⟩;rcases S.par y (EN hp) with k|k
  ·exact .inl ⟨k,Ox ndP hp hu k⟩
  ·obtain⟨c,e⟩:=OH (n:=s.heap.objs.size+1) k;refine .inr ⟨.inl k,c,e,?_⟩;have q:=x.cell y c e;rw[Oz ndP hp hu (by show scope.names.lookup y≠_;rw[k];decide)]at q
   exact q
 ·exact e0.hok.fresh (EQ (x.above y c (Cc h)))
 ·unfold start;show _=N.length;rw[B1,BE,SG];omega
theorem Q2{w:AY}{K:Fg}{mg:Ah->Aq Aj}{base:AK}{f:Ak}{name:Ah}{params:Arguments}{dV kV doc pm cdv ct oc:Aj}{an od:Aq Ak}{osl:Bi (Aq Aj)}{N ps:Ac Ah}(lk:K.lookup f=Aa ⟨oc,od,.func (Dr name qual params body scope dV kV doc pm an cdv ct),osl⟩)(hcd:Fa K cdv qual=Ab)(S:FnScope N ps scope)(len:∀ vs H Q E,sp vs H Q E->vs.length=ps.length)(hbody:∀(A:A6)(outer:Ac BP)(s:Ap)(H:Hp)(vs:Ac V)(Q:VK)(E:XK),Room k (A.deeper (D0 qual scope s.heap.objs.size f cdv))->sp vs H Q E ->
   ∃ t,PSs (Fh CX P w K mg base N qual scope f cdv A outer s H E) body t/\t {nx:=fun _ H'=>Q .non H',rt:=Q} (start N vs) H):FnOk P w K mg base CX (k+1) f (Dr name qual params body scope dV kV doc pm an cdv ct) ps sp:=by
 refine⟨len,fun A outer s H args us vs Q E hr e0 hb r hsp=>?_⟩
 have hl:=len _ _ _ _ hsp;have KX:K.In s.heap:=e0.mod.kin.keeps fun b o e=>(e0.bs b o e).1
 have lim:s.heap.NoLimit:=e0.mod.nolimit.keeps fun b o e=>(e0.bs b o e).1
 have hkind:∀ y∈ps.zip us,scope.names.lookup y.1=Aa .local\/(scope.names.lookup y.1=Aa .cell/\((CF (s.heap.objs.size+1) scope.names []).lookup y.1).isSome=Ab):=fun ⟨n,v⟩ hy=>by
  rcases S.par n (Go hy).1 with q|q
  ·exact .inl q
  ·exact .inr ⟨q,TQ _ _ _ (.inl q)⟩
 refine codeAny_call_function hr.depth (KX _ _ lk) rfl S.co S.gen rfl (PySem.W.codeRec_of KX hcd) (hb _ _ _ _ ?_);refine wpAny_newFunctionEnv_cells S.kind hkind fun env he s1 x=>?_
 subst he;refine⟨lim.keeps x.toInCall.keep,codeAny_func ?_⟩;obtain⟨t,ht,hq⟩:=hbody A outer s H vs Q E (hr.deeper _) hsp;have I:Inv (Fh CX P w K mg base N qual scope f cdv A outer s H E) [] (start N vs) H s1:=UK S hr.hd e0 hl r x;refine B4 (ht [] s1 (start N vs) H _ I hq) (fun fl s' hs=>?_) fun e s' hs=>hs
 have fin:∀{σ':St}{H':Hp}{v:V}{u:Aj},Inv (Fh CX P w K mg base N qual scope f cdv A outer s H E) [] σ' H' s'->By v u->Q v H'->CE outer P w H s Q u s':=
  fun {σ' H' v u} J rv q=>⟨v,H',J.os,J.bare,J.base,J.hok,rv,q⟩
 cases fl with
 |ret u=>
  obtain⟨v,σ',H',J,rv,q⟩:=hs;exact fin J rv q
 |next=>
  obtain⟨σ',H',J,q⟩:=hs;exact fin (v:=V.non) (u:=HX) J rfl q
 |brk=>
  obtain⟨_,_,_,q⟩:=hs;exact Dh q
 |cont=>
  obtain⟨_,_,_,q⟩:=hs;exact Dh q
section
variable{X:Cx}{x:Ah}{p pos:AU}{e:Ao}{es:Ac Ao}{t:TA}{id T:Ds}{r:Ac V->Hp->VK->Prop}
def tCB(r:Ac V->Hp->VK->Prop)(t:TA):TE:=fun σ H Q=>t σ H fun vs H1=>r vs H1 Q
theorem OP(hc:Gh X (.builtin id) r)(hg:Gl X x)(hm:X.mg x=Af)(hv:CA x=Aa (.builtin id))(ha:PA X (e::es) t)(hn:x≠"__name__" := by decide)(hdb:(x==("__debug__" : Ah))=Ad:=by decide)(he:Ay (e::es) X.env=(Ad,eval e X.env)::Ay es X.env:=by rfl)(hpl:(Cz pos (Ay es X.env)).any (·.1)=Ad:=by rfl):PE X (.Call (.Name x p) (e::es) [] pos) (tCB r t):=by
 intro pI s σ H Q I h;refine Fv (GX I hg hm hv ?_ hn hdb);exact PyProof.Rows.callWith_builtin1 (thn (ha pos pI s σ H _ I h) fun us s1 ⟨vs,H1,I1,r1,q1⟩=>hc pI s1 σ H1 vs us Q I1 r1 q1) he hpl
theorem NX(hc:Gh X (.type T) r)(hg:Gl X x)(hm:X.mg x=Af)(hv:CA x=Aa (.type T))(ha:PA X (e::es) t)(hn:x≠"__name__" := by decide)(hdb:(x==("__debug__" : Ah))=Ad:=by decide)(he:Ay (e::es) X.env=(Ad,eval e X.env)::Ay es X.env:=by rfl)(hpl:(Cz pos (Ay es X.env)).any (·.1)=Ad:=by rfl):PE X (.Call (.Name x p) (e::es) [] pos) (tCB r t):=by
 intro pI s σ H Q I h;refine Fv (GX I hg hm hv ?_ hn hdb);exact BM (thn (ha pos pI s σ H _ I h) fun us s1 ⟨vs,H1,I1,r1,q1⟩=>hc pI s1 σ H1 vs us Q I1 r1 q1) he hpl
end
end L2
namespace HT
open PySem PyProof.Rows
variable{sl:Ak}
section
open PySem.SeqAt
open PySem.AutoSeq1 (wpAny_loadPart')
open PySem.MeetsSeq PySem.MeetsSeq2 PySem.MeetsSeq3
end
section
variable{prog:AS}{w:AY}{A:A6}{E:Vq}{s:Ap}
theorem cat_tup{t b:Ak}{vs ws:Ac Aj}{Q:Vq}(ht:HR s.heap t vs.toArray)(hb:HR s.heap b ws.toArray)(hv:vs≠[])(h1:ws=[]->Q (.ref t) s)(h2:ws≠[]->Q (.ref s.heap.objs.size) { s with heap:=s.heap.push { cls:=.type "tuple", data:=.seq (vs++ws).toArray } })(hsz:vs.length+ws.length<=sizeLine):AH (model prog w) A (BO .Add (.ref t) (.ref b)) Q E s:=by
 obtain⟨⟨cls,dd,data,sl⟩,ho,hc,n,hd⟩:=id ht;obtain⟨⟨cls2,dd2,data2,sl2⟩,ho2,hc2,n2,hd2⟩:=id hb;simp only at hc hd hc2 hd2;subst hc hd hc2 hd2;have e:vs.toArray++ws.toArray=(vs++ws).toArray:=by simp
 by_cases hw:ws=[]
 ·exact He ⟨_,ho,rfl⟩ ⟨_,ho2,rfl⟩ T2 seq_tuple_add Tl Th (Te _ _)
   (tuple_addW1 t b vs.toArray ws.toArray n n2 dd dd2 sl sl2 (by simpa using hv) (by simp[hw])) ⟨ho,ho2,h1 hw⟩
 ·refine He ⟨_,ho,rfl⟩ ⟨_,ho2,rfl⟩ T2 seq_tuple_add Tl Th (Te _ _)
   (tuple_addW2 t b vs.toArray ws.toArray n n2 dd dd2 sl sl2 (by simpa using hv) (by simpa using hw) (by rw[Ax,Ax];exact hsz)) ⟨ho,ho2,?_⟩
  rw[e];exact h2 hw
noncomputable def sIx(n d:Ag):Aq Ae->Ag
 |none=>d
 |some v=>if v<0 then (v+(n:Ae)).toNat else min v.toNat n
theorem Zo(n d:Ag)(hd:d<=n)(o:Aq Ae):sIx n d o<=n:=by
 cases o with
 |none=>exact hd
 |some v=>
  show (if v<0 then (v+(n:Ae)).toNat else min v.toNat n)<=n
  by_cases hv:v<0
  ·rw[AB hv];omega
  ·rw[AM hv];exact Nat.min_le_right _ _
theorem P6(v:Ae)(n d:Ag):(if v<0 then max (v+(n:Ae)) 0 else min v (n:Ae))=((sIx n d (Aa v):Ag):Ae):=by
 show (if v<0 then max (v+(n:Ae)) 0 else min v (n:Ae))=(((if v<0 then (v+(n:Ae)).toNat else min v.toNat n):Ag):Ae)
 by_cases hv:v<0
 ·simp only[AB hv];omega
 ·simp only[AM hv];omega
theorem Uv(lo hi:Aq Ae)(n:Ag):Eb lo hi 1 (n:Ae)=(((sIx n 0 lo:Ag):Ae),((sIx n n hi:Ag):Ae)):=by
 have h1:¬ ((1:Ae)<0):=by omega
 unfold Eb;simp only[h1,Gm];refine Br ?_ ?_
 ·cases lo with
  |none=>rfl
  |some v=>exact P6 v n 0
 ·cases hi with
  |none=>rfl
  |some v=>exact P6 v n n
theorem UD(i j:Ag):Dj (i:Ae) (j:Ae) 1=j-i:=by
 unfold Dj;have h1:(1:Ae) > 0:=by omega
 simp only[h1,FZ,Int.ediv_one];split<;>omega
theorem ND{v:Aj}{o:Aq Ae}{Q:Aq Ae->Ap->Prop}(p:F4 v o)(h:Q o s):AH (model prog w) A (Builtin.Slice.slicePartIndex v) Q E s:=by
 cases p with
 |none=>exact S4 h
 |int i t=>exact slicePart_int h
theorem Ui{vl vu:Aj}{lo hi:Aq Ae}{n:Ag}{Q:Ae×Ae×Ag->Ap->Prop}(hs:s.heap.IsSliceOf sl vl vu .none)(pl:F4 vl lo)(pu:F4 vu hi)(h:Q (((sIx n 0 lo:Ag):Ae),1,sIx n n hi-sIx n 0 lo) s):AH (model prog w) A (S8 (.ref sl) (pure (n:Ae))) Q E s:=by
 obtain⟨os,hos,hcs,hds⟩:=id hs;unfold S8 Builtin.Slice.sliceFields;refine Am (Am (BZ hos hds (x:=vl) rfl (Am (BZ hos hds (x:=vu) rfl (Am (BZ hos hds (x:=.none) rfl (AJ ?_)))))));refine Am (S4 ?_);show AH _ _ (if ((1:Ae)==0)=Ab then _ else _) _ _ s
 rw[AM (by decide)]
 refine Am (ND pl (Am (ND pu (Am (AJ ?_)))));show AH _ _ (match Eb lo hi 1 (n:Ae) with|(lo,hi)=>pure (lo,(1:Ae),Dj lo hi 1)) _ _ s
 rw[Uv lo hi n];show AH _ _ (pure (((sIx n 0 lo:Ag):Ae),(1:Ae),Dj ((sIx n 0 lo:Ag):Ae) ((sIx n n hi:Ag):Ae) 1)) _ _ s;rw[UD];exact AJ h
theorem VZ(xs:Bi Aj)(i k:Ag):((Co k).filterMap fun(m:Ag)=>xs[((i:Ae)+(m:Ae)*1).toNat]?).toArray=((xs.toList.drop i).take k).toArray:=by
 have e:(fun(m:Ag)=>xs[((i:Ae)+(m:Ae)*1).toNat]?)=fun m=>xs[i+m]?:=by
  funext m
  have:((i:Ae)+(m:Ae)*1).toNat=i+m:=by omega
  rw[this]
 rw[e];have:=pick_run xs i k;rw[List.filterMap_map]at this;have e2:((fun x=>xs[x]?) ∘ fun x=>i+x)=fun m=>xs[i+m]?:=rfl
 rw[e2]at this;rw[this]
theorem getItem_tuple_cut{t:Ak}{items:Bi Aj}{vl vu:Aj}{lo hi:Aq Ae}{Q:Vq}(ht:HR s.heap t items)(hs:s.heap.IsSliceOf sl vl vu .none)(pl:F4 vl lo)(pu:F4 vu hi)(hw:¬ (sIx items.size 0 lo=0/\sIx items.size items.size hi=items.size))(h:Q (.ref s.heap.objs.size) { s with heap:=s.heap.push { cls:=.type "tuple", data:=.seq ((items.toList.drop (sIx items.size 0 lo)).take (sIx items.size items.size hi-sIx items.size 0 lo)).toArray } })(hsz:items.size<=sizeLine):AH (model prog w) A (Ho (.ref t) (.ref sl)) Q E s:=by
 have htake:sizeOk (.seq ((items.toList.drop (sIx items.size 0 lo)).take (sIx items.size items.size hi-sIx items.size 0 lo)).toArray):=by
  show ((items.toList.drop (sIx items.size 0 lo)).take (sIx items.size items.size hi-sIx items.size 0 lo)).toArray.size<=sizeLine;rw[Ax,F1,SF,D5];omega
 have hj:sIx items.size items.size hi<=items.size:=Zo _ _ (AV _) hi;obtain⟨os,hos,hcs,hds⟩:=id hs;have hTs:s.TypeIs (.ref sl) "slice" := ⟨os,hos,hcs⟩;unfold Ho
 try with_reducible refine CN ?_
 first|refine Am (AJ ?_)|skip
 refine Am (wpAny_sequenceKey ht.typeIs (by decide) ?_)
 refine Am (CP (name:=AQ "__getitem__") ht.typeIs S5
  (DR S5 ht.typeIs entry_tuple_getitem ?_ (args_tuple_getitem _ _)))
 show AH _ _ (Builtin.Tuple.tupleItemsOf (.ref t) >>= _) _ _ s;refine Am (tupleItemsOf_ ht ?_);refine Am (wpAny_typeOf hTs ?_);rw[AB (by decide)]
 refine Am (Ui hs pl pu ?_);have hno:¬ ((((sIx items.size 0 lo:Ag):Ae)==0&&(1:Ae)==1&&(sIx items.size items.size hi-sIx items.size 0 lo)==items.size)=Ab):=by
  intro q;rw[Al,Al]at q;have q1:((sIx items.size 0 lo:Ag):Ae)=0:=eq_of_beq q.1.1;have q2:sIx items.size items.size hi-sIx items.size 0 lo=items.size:=eq_of_beq q.2;exact hw ⟨by omega,by omega⟩
 show AH _ _ (if (((sIx items.size 0 lo:Ag):Ae)==0&&(1:Ae)==1&&(sIx items.size items.size hi-sIx items.size 0 lo)==items.size)=Ab then _ else _) _ _ s
 rw[AM hno,VZ]
 first
  |exact Am (m:=Do _) (CM (AJ ⟨_,rfl,AJ h⟩) htake)
  |exact Am (m:=Do _) (CM (Am (AJ (AJ ⟨_,rfl,AJ h⟩))) htake)
  |exact Am (Am (m:=Do _) (CM (AJ (AJ ⟨_,rfl,AJ h⟩)) htake))
  |exact Am (Am (m:=Do _) (CM (AJ ⟨_,rfl,AJ h⟩) htake))
end
end HT
namespace L2
open PySem PySem.Spec PyProof.Rows
variable{xs:Ac V}{us its its':Ac Aj}{n t':Ag}{i:Ae}{pI:Pn}{σ:St}{H:Hp}{s:Ap}{p:Ak}
abbrev TO:=St->Hp->(Aq Ae->Hp->Prop)->Prop
noncomputable def PO(X:Cx)(e:Aq Ao)(t:TO):Prop:=
 ∀(pI:Pn)(s:Ap)(σ:St)(H:Hp)(Q:Aq Ae->Hp->Prop),Inv X pI σ H s->t σ H Q ->
  AH (model X.prog X.w) X.A (evalPart e X.env) (fun u s'=>∃ o H',Inv X pI σ H' s'/\F4 u o/\Q o H') X.xe s
def Wn:TO:=fun _ H Q=>Q Af H
def cE(t:TE):TO:=fun σ H Q=>t σ H fun x H1=>∃ i,x=.int i/\Q (Aa i) H1
section
variable{X:Cx}{e:Ao}{te:TE}{lo hi:Aq Ao}{tl th:TO}{pos p2:AU}
theorem Xq:PO X Af Wn:=by
 intro pI s σ H Q I h;rw[evalPart_none];exact AJ ⟨Af,H,I,.none,h⟩
theorem Xp(h:PE X e te):PO X (Aa e) (cE te):=by
 intro pI s σ H Q I hw;rw[evalPart_some];refine thn (h pI s σ H _ I hw) fun u s1 ⟨x,H1,I1,r1,q1⟩=>?_
 obtain⟨i,rfl,q⟩:=q1;obtain⟨t,rfl⟩:=r1;exact⟨Aa i,H1,I1,.int i t,q⟩
noncomputable def SlR(X:Cx)(r:V->Aq Ae->Aq Ae->Hp->VK->Prop):Prop:=
 ∀(pI:Pn)(s:Ap)(σ:St)(H:Hp)(x:V)(v vl vu:Aj)(lo hi:Aq Ae)(sl:Ak)(Q:VK),Inv X pI σ H s->By x v->s.heap.IsSliceOf sl vl vu .none->F4 vl lo->F4 vu hi->r x lo hi H Q ->
  ∃ T id,typeLookup (.type T) "__getitem__" = pure (Aa (.builtin id))/\s.TypeIs v T/\AH (model X.prog X.w) X.A (Ho v (.ref sl)) (EP X pI σ Q) X.xe s
def tSl(r:V->Aq Ae->Aq Ae->Hp->VK->Prop)(te:TE)(tl th:TO):TE:=fun σ H Q=>te σ H fun x H1=>tl σ H1 fun l H2=>th σ H2 fun u H3=>r x l u H3 Q
theorem V0{r:V->Aq Ae->Aq Ae->Hp->VK->Prop}(hr:SlR X r)(he:PE X e te)(hl:PO X lo tl)(hu:PO X hi th):PE X (.Subscript e (.Slice lo hi Af p2) pos) (tSl r te tl th):=by
 intro pI s σ H Q I h;refine Subscript_ (thn (he pI s σ H _ I h) fun v s1 ⟨x,H1,I1,r1,q1⟩=>?_)
 refine wpAny_Slice (thn (hl pI s1 σ H1 _ I1 q1) fun vl s2 ⟨l,H2,I2,pl,q2⟩=>thn (hu pI s2 σ H2 _ I2 q2) fun vu s3 ⟨u,H3,I3,pu,q3⟩=>?_)
 rw[evalPart_none];refine AJ ?_;have I4:Inv X pI σ H3 { s3 with heap:=s3.heap.push { cls:=.type "slice", data:=.fields #[vl,vu,.none] } }:=I3.kept (t':=s3.toks) fun b ob q=>Au _ q
 obtain⟨T,id,hT,ht,hg⟩:=hr pI { s3 with heap:=s3.heap.push { cls:=.type "slice", data:=.fields #[vl,vu,.none] } } σ H3 x v vl vu l u s3.heap.objs.size Q I4 r1 (Heap.IsSliceOf.new ..) pl pu q3
 show AH (model X.prog X.w) X.A (subscriptTail e (.Slice lo hi Af p2) v (.ref s3.heap.objs.size)) (EP X pI σ Q) X.xe { s3 with heap:=s3.heap.push { cls:=.type "slice", data:=.fields #[vl,vu,.none] } }
 exact tail_any (ops:=[.ref s3.heap.objs.size,v]) ht hT hg (by with_unfolding_all rfl)
noncomputable def Hn(xs:Ac V)(lo hi:Aq Ae):Ac V:=(xs.drop (HT.sIx xs.length 0 lo)).take (HT.sIx xs.length xs.length hi-HT.sIx xs.length 0 lo)
theorem NG(xs:Ac V)(lo hi:Aq Ae):(Hn xs lo hi).length<=xs.length:=by
 unfold Hn;rw[F1,SF];omega
def RP(K:Fg):V->Aq Ae->Aq Ae->Hp->VK->Prop:=fun x lo hi H Q=>∃ a xs,x=.ref a/\SqT K H a xs /\
 ¬ (HT.sIx xs.length 0 lo=0/\HT.sIx xs.length xs.length hi=xs.length)/\∀ p,H p=Af->Q (.ref p) (upd H p (.tup (Hn xs lo hi)))
theorem YG:SlR X (RP X.K):=by
 intro pI s σ H x v vl vu lo hi sl Q I rx hs pl pu h;obtain⟨a,xs,rfl,hx,hw,q⟩:=h;cases rx;obtain⟨its,r,ht,hz⟩:=I.tuple hx;have hlen:its.toArray.size=xs.length:=by rw[Ax];exact r.length.symm
 refine⟨"tuple", _,PyProof.Rows.slot_tuple_getitem.lookup,ht.typeIs,?_⟩;refine HT.getItem_tuple_cut ht hs pl pu (by rw[hlen];exact hw) ?_ (by rw[hlen];exact hz)
 rw[hlen];refine⟨.ref s.heap.objs.size,_,I.laid (t':=s.toks) (o:=.tup (Hn xs lo hi)) (fun b ob q=>Au _ q) (AV _) ?_,rfl,q _ (I.hok.fresh (AV _))⟩
 exact⟨Cj (NG xs lo hi) hz,_,(r.drop (HT.sIx xs.length 0 lo)).take (HT.sIx xs.length xs.length hi-HT.sIx xs.length 0 lo),IX _ _⟩
def dR(K:Fg):R2:=fun x y H Q=>∃ a b xs ys,x=.ref a/\y=.ref b/\SqT K H a xs/\SqT K H b ys/\xs≠[]/\xs.length+ys.length<=sizeLine /\
 (ys=[]->Q (.ref a) H)/\(ys≠[]->∀ p,H p=Af->Q (.ref p) (upd H p (.tup (xs++ys))))
theorem AZ.nil_iff(r:AZ xs us):us=[]↔xs=[]:=by
 cases r with
 |nil=>simp
 |cons _ _=>simp
theorem WS:OpR X (BO .Add) (dR X.K):=by
 intro pI s σ H x y v u Q I rx ry h;obtain⟨a,b,xs,ys,rfl,rfl,ha,hb,hx,hz,q1,q2⟩:=h;cases rx;cases ry;obtain⟨its,r1,p1,_⟩:=I.tuple ha;obtain⟨its2,r2,p2,_⟩:=I.tuple hb;refine HT.cat_tup p1 p2 (fun z=>hx (r1.nil_iff.mp z)) (fun z=>⟨.ref a,H,I,rfl,q1 (r2.nil_iff.mp z)⟩) (fun z=>?_) (by rw[<-r1.length,<-r2.length];exact hz)
 refine⟨.ref s.heap.objs.size,_,I.laid (t':=s.toks) (o:=.tup (xs++ys)) (fun b ob q=>Au _ q) (AV _) ?_,rfl,q2 (fun w=>z (r2.nil_iff.mpr w)) _ (I.hok.fresh (AV _))⟩
 exact⟨by rw[B1];exact hz,_,r1.append r2,IX _ _⟩
end
noncomputable def ixN(n:Ag)(i:Ae):Aq Ag:=if 0<=i then (if i<n then Aa i.toNat else Af) else if -(n:Ae)<=i then Aa (i+n).toNat else Af
noncomputable def atI{α:Type}(xs:Ac α)(i:Ae):Aq α:=(ixN xs.length i).bind fun j=>xs[j]?
theorem O4{j:Ag}(h:ixN n i=Aa j):Fu i n=Aa j/\j<n/\-(n:Ae)<=i/\i<n:=by
 unfold ixN at h;by_cases h0:0<=i
 ·rw[AB h0]at h;by_cases h1:i<n
  ·rw[AB h1]at h;have e:i.toNat=j:=Bt h;exact⟨by rw[Hu h0 h1,e],by omega,by omega,h1⟩
  ·rw[AM h1]at h;cases h
 ·rw[AM h0]at h;by_cases h1:-(n:Ae)<=i
  ·rw[AB h1]at h;have e:(i+n).toNat=j:=Bt h;exact⟨by rw[Hh (by omega) h1,e],by omega,h1,by omega⟩
  ·rw[AM h1]at h;cases h
theorem Pv{α:Type}{xs:Ac α}{v:α}(h:atI xs i=Aa v):∃ j,Fu i xs.length=Aa j/\xs[j]?=Aa v/\j<xs.length/\-(xs.length:Ae)<=i/\i<xs.length:=by
 unfold atI at h;cases e:ixN xs.length i with
 |none=>rw[e]at h;cases h
 |some j=>
  rw[e]at h;obtain⟨h1,h2,h3,h4⟩:=O4 e;exact⟨j,h1,h,h2,h3,h4⟩
def Mb(b:Ao):Prop:=∀ o i,subscripted b Ad o i=operate [o,i] (Ho o i)
noncomputable def IxR(X:Cx)(r:R2):Prop:=
 ∀(value slice:Ao)(pI:Pn)(s:Ap)(σ:St)(H:Hp)(x y:V)(v u:Aj)(Q:VK),Inv X pI σ H s->By x v->By y u->r x y H Q ->
  subscripted slice Ad v u=operate [v,u] (Ho v u)->AH (model X.prog X.w) X.A (subscriptTail value slice v u) (EP X pI σ Q) X.xe s
noncomputable def MtR(X:Cx)(id:Ds)(r:V->Ac V->Hp->VK->Prop):Prop:=
 ∀(pI:Pn)(s:Ap)(σ:St)(H:Hp)(x:V)(xs:Ac V)(v:Aj)(us:Ac Aj)(Q:VK),Inv X pI σ H s->By x v->AZ xs us->r x xs H Q ->
  AH (model X.prog X.w) X.A (call (.builtin id) (v::us)) (EP X pI σ Q) X.xe s
section
variable{X:Cx}{a b:Ao}{ta tb:TE}{pos:AU}
theorem IxR.or{r r':R2}(h:IxR X r)(h':IxR X r'):IxR X (fun x y H Q=>r x y H Q\/r' x y H Q):=by
 intro value slice pI s σ H x y v u Q I rx ry q hs;rcases q with q|q
 ·exact h value slice pI s σ H x y v u Q I rx ry q hs
 ·exact h' value slice pI s σ H x y v u Q I rx ry q hs
theorem cS{r:R2}(hr:IxR X r)(ha:PE X a ta)(hb:PE X b tb)(hs:Mb b):PE X (.Subscript a b pos) (tOp r ta tb):=by
 intro pI s σ H Q I h;exact Subscript_ (Nr ha hb I h fun v u s2 x y H2 I2 rx ry q=>hr a b pI s2 σ H2 x y v u Q I2 rx ry q (hs _ _))
def Rz(K:Fg):R2:=fun x y H Q=>∃ p xs i v,x=.ref p/\y=.int i/\SqL K H p xs/\atI xs i=Aa v/\Q v H
def Ry(K:Fg):R2:=fun x y H Q=>∃ p xs i v,x=.ref p/\y=.int i/\SqT K H p xs/\atI xs i=Aa v/\Q v H
theorem WC:IxR X (Rz X.K):=by
 intro value slice pI s σ H x y v u Q I rx ry h hs;obtain⟨p,xs,i,z,rfl,rfl,hq,he,q⟩:=h;cases rx;obtain⟨t,rfl⟩:=ry;obtain⟨its,r,pl,hz⟩:=I.list hq;obtain⟨j,h1,h2,h3,h4,h5⟩:=Pv he;obtain⟨w,ew,rw'⟩:=r.get h2;have hl:=r.length;have hn:=IC;have fin:EP X pI σ Q w s:=⟨z,H,I,rw',q⟩;by_cases h0:0<=i
 ·have hj:i.toNat=j:=by
   rw[Hu h0 h5]at h1;exact Bt h1
  exact item_listR pl.isList h0 (by omega) (by rw[hj];simpa using ew) fin hs
 ·have hj:(i+(its.toArray.size:Ae)).toNat=j:=by
   rw[Hh (by omega) h4]at h1
   rw[Ax,<-hl];exact Bt h1
  exact S6 (x:=w) pl.isList.typeIs T4.lookup
   (wpAny_getItem_list_neg (Q:=fun r s'=>r=w/\EP X pI σ Q r s') pl.isList (by omega) (by rw[Ax]<;>omega) (by omega) (by rw[hj];simpa using ew) ⟨rfl,fin⟩) hs
theorem ZO:IxR X (Ry X.K):=by
 intro value slice pI s σ H x y v u Q I rx ry h hs;obtain⟨p,xs,i,z,rfl,rfl,hq,he,q⟩:=h;cases rx;obtain⟨t,rfl⟩:=ry;obtain⟨its,r,pl,hz⟩:=I.tuple hq;obtain⟨j,h1,h2,h3,h4,h5⟩:=Pv he;obtain⟨w,ew,rw'⟩:=r.get h2;have hl:=r.length;have hn:=IC;have fin:EP X pI σ Q w s:=⟨z,H,I,rw',q⟩;exact S6 (x:=w) pl.typeIs slot_tuple_getitem.lookup
  (getItem_tuple (j:=j) (Q:=fun r s'=>r=w/\EP X pI σ Q r s') pl (by omega) (by omega) (by rw[Ax,<-hl];exact h1) (by simpa using ew) ⟨rfl,fin⟩) hs
theorem UF(its:Ac Aj)(n j:Ag)(u:Aj):FQ (·.setIfInBounds j u) { cls:=.type "list", data:=.seq its.toArray n }={ cls:=.type "list", data:=.seq (its.set j u).toArray n }:=by
 simp[FQ]
theorem Inv.lst(I:Inv X pI σ H s)(h:H p=Aa (.lst xs)):
  ∃(its:Ac Aj)(n:Ag),AZ xs its/\s.heap.get? p=Aa { cls:=.type "list", data:=.seq its.toArray n }/\xs.length<=sizeLine:=by
 obtain⟨z,its,n,r,e⟩:=I.hok p _ h;exact⟨its,n,r,e,z⟩
theorem Inv.lstUpd{ys:Ac V}{n':Ag}{f:Dq->Dq}(I:Inv X pI σ H s)(h:H p=Aa (.lst xs))(ho:s.heap.get? p=Aa { cls:=.type "list", data:=.seq its.toArray n })(hf:f { cls:=.type "list", data:=.seq its.toArray n }={ cls:=.type "list", data:=.seq its'.toArray n' })(r:AZ ys its')(hz:ys.length<=sizeLine)(t:Ag):Inv X pI σ (upd H p (.lst ys)) {s with heap:=s.heap.update p f,toks:=t}:=by
 have e:(s.heap.update p f).get? p=Aa { cls:=.type "list", data:=.seq its'.toArray n' }:=by
  rw[Tv f ho (by rw[hf]<;>rfl),hf]
 refine I.write (x:=p) (e:=p) (by rw[h];trivial) (.inl rfl) (fun b u hb q=>(Tu _ _ (Dl hb)).trans q) ⟨_,e⟩ ?_
 exact⟨hz,its',n',r,e⟩
def dQ:V->V->V->Hp->(Hp->Prop)->Prop:=fun o i v H Q=>∃ p xs k j,o=.ref p/\i=.int k/\H p=Aa (.lst xs)/\ixN xs.length k=Aa j/\Q (upd H p (.lst (xs.set j v)))
theorem L8:R1 X dQ:=by
 intro pI s σ H o i v ov iv u Q I ro ri rv h;obtain⟨p,xs,k,j,rfl,rfl,hp,hj,q⟩:=h;cases ro;obtain⟨t,rfl⟩:=ri;obtain⟨its,n,r,ho,hz⟩:=I.lst hp;obtain⟨h1,h2,h3,h4⟩:=O4 hj;have hl:=r.length;have hn:=IC;have I':Inv X pI σ (upd H p (.lst (xs.set j v))) {s with heap:=s.heap.update p (FQ (·.setIfInBounds j u))}:=
  I.lstUpd hp ho (UF its n j u) (r.set rv j) (by rw[A9];exact hz) s.toks
 by_cases h0:0<=k
 ·have hk:k.toNat=j:=by
   rw[Hu h0 h4]at h1;exact Bt h1
  exact PySem.W.ki_setAt ho h0 (by omega) (by rw[Ax,<-hl];exact h4) (by rw[hk];exact⟨_,I',q⟩)
 ·have hk:(k+(its.toArray.size:Ae)).toNat=j:=by
   rw[Hh (by omega) h3]at h1
   rw[Ax,<-hl];exact Bt h1
  exact PySem.W.ki_setBack ho (by omega) (by rw[Ax,<-hl];exact h3) (by omega) (by rw[hk];exact⟨_,I',q⟩)
theorem Ul(lo hi:Aq Ae)(n:Ag):(D4 lo hi Af n).1=((HT.sIx n 0 lo:Ag):Ae)/\(D4 lo hi Af n).2.1=((HT.sIx n n hi:Ag):Ae)/\(D4 lo hi Af n).2.2=1:=by
 refine⟨?_,?_,rfl⟩
 ·cases lo with
  |none=>simp[D4,HT.sIx]
  |some i=>
   simp only[D4,HT.sIx,SY,show (1:Ae) > 0 by decide,FZ]
   by_cases h:i<0
   ·simp only[h,FZ]<;>omega
   ·simp only[h,Gm]<;>omega
 ·cases hi with
  |none=>simp[D4,HT.sIx]
  |some i=>
   simp only[D4,HT.sIx,SY,show (1:Ae) > 0 by decide,FZ]
   by_cases h:i<0
   ·simp only[h,FZ]<;>omega
   ·simp only[h,Gm]<;>omega
theorem Um(its:Ac Aj)(lo hi:Aq Ae):slicePick its.toArray lo hi Af=((its.drop (HT.sIx its.length 0 lo)).take (HT.sIx its.length its.length hi-HT.sIx its.length 0 lo)).toArray:=by
 obtain⟨h1,h2,h3⟩:=Ul lo hi its.toArray.size;unfold slicePick;rw[h1,h2,h3];simp only[sliceRange_one,pick_run,Ax]<;>rfl
def Rx(K:Fg):V->Aq Ae->Aq Ae->Hp->VK->Prop:=fun x lo hi H Q=>∃ a xs,x=.ref a/\SqL K H a xs/\∀ p,H p=Af->Q (.ref p) (upd H p (.lst (Hn xs lo hi)))
theorem V7:SlR X (Rx X.K):=by
 intro pI s σ H x v vl vu lo hi sl Q I rx hs pl pu h;obtain⟨a,xs,rfl,hx,q⟩:=h;cases rx;obtain⟨its,r,ht,hz⟩:=I.list hx;have hlen:=r.length;refine⟨"list", _,T4.lookup,ht.isList.typeIs,?_⟩;refine wpAny_getItem_list_slice ht.isList hs pl pu .none (by simp) ?_ (by rw[Ax]<;>omega)
 rw[Um,<-hlen];refine⟨.ref s.heap.objs.size,_,I.laid (t':=s.toks) (o:=.lst (Hn xs lo hi)) (fun b ob q=>Au _ q) (AV _) ?_,rfl,q _ (I.hok.fresh (AV _))⟩
 exact⟨Cj (NG xs lo hi) hz,_,0,(r.drop (HT.sIx xs.length 0 lo)).take (HT.sIx xs.length xs.length hi-HT.sIx xs.length 0 lo),AG _ rfl⟩
theorem NM:Gh X (.builtin "len") (fun xs H Q=>∃ p ys,xs=[.ref p]/\(SqL X.K H p ys\/SqT X.K H p ys)/\Q (.int ys.length) H):=by
 intro pI s σ H xs us Q I r h;obtain⟨p,ys,rfl,hq,q⟩:=h;obtain⟨u,rfl,rx⟩:=Gz r;cases rx;have hn:=IC;rcases hq with hq|hq
 ·obtain⟨its,r',pl,hz⟩:=I.list hq;have hlen:=r'.length;exact Calls.call_len_list pl.isList (by simp only[Ax]<;>omega) ⟨.int ys.length,H,I.tok _,⟨s.toks+1,by rw[Ax,hlen]⟩,q⟩
 ·obtain⟨its,r',pl,hz⟩:=I.tuple hq;have hlen:=r'.length;exact len_tuple pl (by simp only[Ax]<;>omega) ⟨.int ys.length,H,I.tok _,⟨s.toks+1,by rw[Ax,hlen]⟩,q⟩
theorem Uq:Gh X (.builtin "len") (fun xs H Q=>∃ z,xs=[.str z]/\z.length<=sizeLine/\Q (.int z.length) H):=by
 intro pI s σ H xs us Q I r h;obtain⟨z,rfl,hz,q⟩:=h;obtain⟨u,rfl,t,rfl⟩:=Gz r;have hn:=IC;exact len_str (by omega) ⟨.int z.length,H,I.tok _,⟨_,rfl⟩,q⟩
theorem NL:Gh X (.type "list") (fun xs H Q=>∃ p ys,xs=[.ref p]/\(SqL X.K H p ys\/SqT X.K H p ys)/\∀ l,H l=Af->Q (.ref l) (upd H l (.lst ys))):=by
 intro pI s σ H xs us Q I r h;obtain⟨p,ys,rfl,hq,q⟩:=h;obtain⟨u,rfl,rx⟩:=Gz r;cases rx;have fin:∀(its:Ac Aj),AZ ys its->ys.length<=sizeLine->∀(h':AK)(c':Ag),(∀ b o',s.heap.get? b=Aa o'->h'.get? b=Aa o') ->
   h'.get? s.heap.objs.size=Aa { cls:=.type "list", dict:=Af,data:=.seq its.toArray c',slots:=#[] }->EP X pI σ Q (.ref s.heap.objs.size) {s with heap:=h'}:=fun its r' hz h' c' kp e=>
  ⟨.ref s.heap.objs.size,_,I.laid (t':=s.toks) kp (AV _) (show ObjOk X.prog X.w _ h' _ (.lst ys) from ⟨hz,its,c',r',e⟩),rfl,q _ (I.hok.fresh (AV _))⟩
 rcases hq with hq|hq
 ·obtain⟨its,r',pl,hz⟩:=I.list hq;have hlen:=r'.length;obtain⟨o,ho,hc,n,hd⟩:=pl.isList;exact call_list_seq p (.inl rfl) ho hc hd (fun h' c' kp e=>fin its r' hz h' c' kp e) (by simp only[Ax]<;>omega)
 ·obtain⟨its,r',pl,hz⟩:=I.tuple hq;have hlen:=r'.length;obtain⟨o,ho,hc,n,hd⟩:=pl;exact call_list_seq p (.inr rfl) ho hc hd (fun h' c' kp e=>fin its r' hz h' c' kp e) (by simp only[Ax]<;>omega)
theorem NA:Gh X (.type "tuple") (fun xs H Q=>∃ p ys,xs=[.ref p]/\((SqL X.K H p ys/\∀ l,H l=Af->Q (.ref l) (upd H l (.tup ys)))\/(SqT X.K H p ys/\Q (.ref p) H))):=by
 intro pI s σ H xs us Q I r h;obtain⟨p,ys,rfl,h⟩:=h;obtain⟨u,rfl,rx⟩:=Gz r;cases rx;rcases h with ⟨hq,q⟩|⟨hq,q⟩
 ·obtain⟨its,r',pl,hz⟩:=I.list hq;have hlen:=r'.length;refine call_tuple_list pl.isList (fun h' kp=>?_) (by simp only[Ax]<;>omega)
  have I1:Inv X pI σ H {s with heap:=h'}:=I.kept (t':=s.toks) kp
  have I2:Inv X pI σ (upd H h'.objs.size (.tup ys)) { s with heap:=h'.push { cls:=.type "tuple", data:=.seq its.toArray } }:=
   I1.laid (t':=s.toks) (fun b o e=>Au _ e) (AV _) (show ObjOk X.prog X.w _ _ _ (.tup ys) from ⟨hz,its,r',IX _ _⟩)
  exact⟨.ref h'.objs.size,_,I2,rfl,q _ (I1.hok.fresh (AV _))⟩
 ·obtain⟨its,r',pl,hz⟩:=I.tuple hq;exact call_tuple_same pl ⟨.ref p,H,I,rfl,q⟩
def tyV(K:Fg)(T:Ds)(x:V)(H:Hp):Prop:=match x with
  |.str _=>T = "str"
  |.int _=>T = "int"
  |.ref p=>(T = "list"/\∃ xs,SqL K H p xs)\/(T = "tuple"/\∃ o,K.lookup p=Aa o/\o.cls=.type "tuple"/\o.dict=Af) \/
      (T = "dict"/\((∃ kvs,H p=Aa (.dK kvs))\/∃ kvs,H p=Aa (.dT kvs)))\/(T = "set"/\∃ S n,H p=Aa (.set S n))
  |_=>Bb
theorem YJ{T:Ds}{x:V}{v:Aj}(I:Inv X pI σ H s)(r:By x v)(ty:tyV X.K T x H):s.TypeIs v T/\∀ a,v=.ref a->∃ ob,s.heap.get? a=Aa ob/\ob.dict=Af:=by
 cases x with
 |str z=>
  obtain⟨t,rfl⟩:=r;cases (show T = "str" from ty)
  exact⟨typeIs_str s z t,fun _ e=>nomatch e⟩
 |int i=>
  obtain⟨t,rfl⟩:=r;cases (show T = "int" from ty)
  exact⟨typeIs_int s i t,fun _ e=>nomatch e⟩
 |ref p=>
  cases r;rcases ty with ⟨rfl,xs,hq⟩|⟨rfl,o,hk,hc,hd⟩|⟨rfl,hk⟩|⟨rfl,S,n,hk⟩
  ·obtain⟨its,_,pl,_⟩:=I.list hq;refine⟨pl.isList.typeIs,fun a e=>?_⟩
   cases e;obtain⟨o,n,e,c,hd,_⟩:=pl;exact⟨o,e,hd⟩
  ·refine⟨⟨o,I.kIn p o hk,hc⟩,fun a e=>?_⟩
   cases e;exact⟨o,I.kIn _ o hk,hd⟩
  ·have z:∃ o,s.heap.get? p=Aa o/\o.ExactDict:=by
    rcases hk with ⟨kvs,hk⟩|⟨kvs,hk⟩
    ·obtain⟨_,_,_,_,o,_,_,e,ex,_⟩:=I.hok p _ hk;exact⟨o,e,ex⟩
    ·obtain⟨_,_,_,_,o,_,_,e,ex,_⟩:=I.hok p _ hk;exact⟨o,e,ex⟩
   obtain⟨o,e,ex⟩:=z;refine⟨⟨o,e,ex.1⟩,fun a e2=>?_⟩
   cases e2;exact⟨o,e,ex.2.1⟩
  ·obtain⟨o,_,_,_,e,ex,_⟩:=I.hok p _ hk;refine⟨⟨o,e,ex.1⟩,fun a e2=>?_⟩
   cases e2;exact⟨o,e,ex.2.1⟩
 |_=>exact Dh ty
def tBM(K:Fg)(T:Ds)(r:V->Ac V->Hp->VK->Prop)(to:TE)(t:TA):TE:=fun σ H Q=>to σ H fun x H1=>tyV K T x H1/\t σ H1 fun xs H2=>r x xs H2 Q
variable{o e:Ao}{es:Ac Ao}{to:TE}{t:TA}{name:Ah}{apos cpos:AU}{T id:Ds}{r:V->Ac V->Hp->VK->Prop}
theorem MY(pa:PlainAttrs T)(slot:Slot T name id)(hty:typeOf (.builtin id)=pure (.type "method_descriptor"))(hm:MtR X id r)(ho:PE X o to)(ha:PA X (e::es) t)(hbase:FA o name X.env (eval o X.env)=eval o X.env:=by rfl)(hfew:((Cz cpos (Ay (e::es) X.env)).all (fun x=>!x.1)&&(backToKw cpos (keywordEach [] X.env)).all (fun x=>x.1.isSome)
   && decide ((e::es).length+([]:Ac FT).length+(if ([]:Ac FT).isEmpty then 0 else 1)<30))=Ab:=by rfl)(hline:(apos.endLine==cpos.line)=Ab:=by rfl)(hs:Ay (e::es) X.env=(Ad,eval e X.env)::Ay es X.env:=by rfl)(hplain:(Cz cpos (Ay es X.env)).any (·.1)=Ad:=by rfl):PE X (.Call (.Attribute o name apos) (e::es) [] cpos) (tBM X.K T r to t):=by
 intro pI s σ H Q I h;refine wpAny_Call_method_late hbase hfew hline rfl (thn (ho pI s σ H _ I h) fun v s1 ⟨x,H1,I1,r1,ty,q1⟩=>?_)
 obtain⟨h1,h2⟩:=YJ I1 r1 ty;refine⟨T,id,pa,slot,hty,h1,h2,?_⟩;have hA:=ha cpos pI s1 σ H1 _ I1 q1;rw[hs]at hA ⊢;refine Calls.callWith_builtin (by show (Ad||(Cz cpos (Ay es X.env)).any (·.1))=Ad;rw[hplain]<;>rfl) (Calls.evalArgs_plain ?_)
 exact thn hA fun us s2 ⟨vs,H2,I2,r2,q2⟩=>hm pI s2 σ H2 x vs v us Q I2 r1 r2 q2
/- xs.append(e),list.index on a module's tuple .. are MtR facts of 06m -/
end
noncomputable def MtM(X:Cx)(id:Ds)(r:V->Ac V->Hp->VK->Prop):Prop:=
 ∀(pI:Pn)(s:Ap)(σ:St)(H:Hp)(x:V)(xs:Ac V)(v:Aj)(us:Ac Aj)(Q:VK),Inv X pI σ H s->By x v->AZ xs us->r x xs H Q ->
  AH (model X.prog X.w) X.A (call (.builtin id) (v::us)) (EP X pI σ Q) X.xe s
theorem AZ.one:∀{x:V}{us:Ac Aj},AZ [x] us->∃ u,us=[u]/\By x u
 |_,_,.cons r .nil=>⟨_,rfl,r⟩
theorem AZ.zero:∀{us:Ac Aj},AZ [] us->us=[]
 |_,.nil=>rfl
theorem AZ.eraseIdx:∀{xs:Ac V}{us:Ac Aj}(i:Ag),AZ xs us->AZ (xs.eraseIdx i) (us.eraseIdx i)
 |_,_,_,.nil=>.nil
 |_,_,0,.cons _ t=>t
 |_,_,i+1,.cons r t=>.cons r (AZ.eraseIdx i t)
theorem AZ.reverse(h:AZ xs us):AZ xs.reverse us.reverse:=by
 induction h with
 |nil=>exact .nil
 |cons r t ih=>rw[SN,SN];exact AZ.append ih (.cons r .nil)
theorem NS{α:Type}:∀(l:Ac α)(i:Ag),(l.eraseIdx i).length<=l.length
 |[],_=>AV _
 |_::_,0=>Gr _
 |_::r,i+1=>Nat.succ_le_succ (NS r i)
section
variable{X:Cx}{pI:Pn}{σ:St}{H:Hp}{s:Ap}{l b:Ak}{xs ys zs:Ac V}
theorem Inv.lset{f:Bi Aj->Bi Aj}(I:Inv X pI σ H s)(hH:H l=Aa (.lst xs))(e:s.heap.get? l=Aa { cls:=.type "list", data:=.seq its.toArray n })(hf:f its.toArray=its'.toArray)(hv:AZ ys its')(hz:ys.length<=sizeLine):Inv X pI σ (upd H l (.lst ys)) {s with heap:=s.heap.update l (FQ f),toks:=t'}:=by
 have q:=PySem.IsL.update e f;rw[hf]at q;refine I.write (x:=l) (e:=l) (by rw[hH];exact trivial) (.inl rfl) (fun b' u hb hu=>(Tu s.heap (FQ f) (Dl hb)).trans hu) ⟨_,q⟩ ?_
 exact⟨hz,its',_,hv,q⟩
theorem Inv.lnew(I:Inv X pI σ H s)(hv:AZ ys its)(hz:ys.length<=sizeLine):
  Inv X pI σ (upd H s.heap.objs.size (.lst ys)) { s with heap:=s.heap.push { cls:=.type "list", data:=.seq its.toArray },toks:=t' }:=
 I.laid (fun _ _ q=>Au _ q) (AV _) ⟨hz,its,0,hv,AG _ rfl⟩
theorem Inv.fresh(I:Inv X pI σ H s):H s.heap.objs.size=Af:=I.hok.fresh (AV _)
theorem Inv.lstM(I:Inv X pI σ H s)(hH:H l=Aa (.lst xs)):xs.length<=sizeLine/\∃(its:Ac Aj)(n:Ag),AZ xs its/\xs.length=its.length/\s.heap.get? l=Aa { cls:=.type "list", data:=.seq its.toArray n }:=by
 obtain⟨z,its,n,r,e⟩:=I.hok l _ hH;exact⟨z,its,n,r,r.length,e⟩
end
section
variable{X:Cx}
def Xf:V->Ac V->Hp->VK->Prop:=fun x vs H Q=>∃ l xs y,x=.ref l/\vs=[y]/\H l=Aa (.lst xs)/\xs.length<sizeLine/\Q .non (upd H l (.lst (xs++[y])))
theorem NQ:MtM X "list.append" Xf:=by
 intro pI s σ H x vs v us Q I rx rv h;obtain⟨l,xs,y,rfl,rfl,hH,hz,q⟩:=h;cases rx;obtain⟨u,rfl,ru⟩:=rv.one;obtain⟨z,its,n,r,hl,e⟩:=I.lstM hH;refine call_meets F.slot_list_append ⟨_,e,rfl⟩ F.entry_list_append (F.args_list_append_2 _ _) (PySem.list_append l its.toArray n u (by rw[Ax];omega)) ⟨e,?_⟩
 refine⟨.non,_,I.lset (its':=its++[u]) hH e (by simp) (r.append (.cons ru .nil)) ?_,rfl,q⟩
 rw[B1,EI];omega
def Y1:V->Ac V->Hp->VK->Prop:=fun x vs H Q=>∃ l xs i k y,x=.ref l/\vs=[.int i]/\H l=Aa (.lst xs)/\-(2 ^ 63)<=i/\i<2 ^ 63/\Fu i xs.length=Aa k/\xs[k]?=Aa y/\Q y (upd H l (.lst (xs.eraseIdx k)))
theorem Vn:MtM X "list.pop" Y1:=by
 intro pI s σ H x vs v us Q I rx rv h;obtain⟨l,xs,i,k,y,rfl,rfl,hH,h1,h2,hk,hy,q⟩:=h;cases rx;obtain⟨u,rfl,ru⟩:=rv.one;obtain⟨t,rfl⟩:=ru;obtain⟨z,its,n,r,hl,e⟩:=I.lstM hH;obtain⟨w,hw,rw'⟩:=r.get hy;refine call_meets F.slot_list_pop ⟨_,e,rfl⟩ F.entry_list_pop (F.args_list_pop_2 _ _)
  (MeetsSeq.list_pop_at l its.toArray n i t k w (fitsIndex_both h1 h2) (by rw[Ax,<-hl];exact hk) (by rw[<-R7];exact hw) (by rw[Ax];omega)) ⟨e,?_⟩
 refine⟨y,_,I.lset (its':=its.eraseIdx k) hH e ?_ (r.eraseIdx k) ?_,rw',q⟩
 ·show its.toArray.eraseIdxIfInBounds k=(its.eraseIdx k).toArray;rw[List.eraseIdxIfInBounds_toArray]
 ·have:=NS xs k;omega
end
section
variable{prog:AS}{w:AY}{A:A6}{E:Vq}{s:Ap}
set_option maxRecDepth 100000 in
end
section
variable{X:Cx}
end
end L2
namespace Att
open PySem PySem.W PySem.Calls PyProof.Rows
variable{P:Jc}{h:AK}{l:Eu}{n:Ag}
theorem Ug:∀(ns:Ac Ae)(vs:Ac Aj),WellAll P h vs (ns.map TL)->GI vs ns:=by
 intro ns
 induction ns with
 |nil=>
  intro vs w;rw[EM]at w;cases w;exact .nil
 |cons n ns ih=>
  intro vs w;rw[Bq]at w;cases w with
  |cons a b=>
   cases a;exact .cons _ _ (ih _ b)
theorem U1(hn:l.most=Aa n){args:Ac WData}{vals:Ac Aj}(hpre:l.row.toRowW.claim.pre args=Ab)(hwl:WellAll P h vals args):
  ∃ a vs ns,vals=[TH a]/\args=[WData.list (ns.map TL)]/\h.get? a=Aa { cls:=.type "list", data:=.seq vs.toArray }/\GI vs ns/\ns.length<=n:=by
 have hsh:WShape.hasAll [] args [.list .int]=Ab:=(pre_splitW hpre).1;have hc:l.pre.holds [] {args:=args}=Ab:=(pre_splitW hpre).2;obtain⟨d,r,rfl,h1,h2⟩:=hasAllW_cons hsh;obtain rfl:=hasAllW_nil h2;obtain⟨xs,rfl,h3⟩:=hasW_list h1;obtain⟨ns,rfl⟩:=items_int h3;have hlen:ns.length<=n:=by
  unfold OpenLaw.pre at hc;have h4:(WTm.not (.lt (.lit (.int (n:Ae))) (.len (.arg 0)))).holds [] {args:=[.list (ns.map .int)]}=Ab:=by
   have h4:=(holds_andW hc).1;rw[hn]at h4;exact h4
  have h5:=condW_of h4 (w_not (w_lt w_lit (w_len_list (w_arg rfl))));rw[BE]at h5;refine Nat.le_of_not_lt fun q=>?_
  have q':(n:Ae)<((ns.length:Ag):Ae):=by omega
  first
   |(rw[AW q']at h5;exact absurd h5 (by decide))
   |(simp at h5;omega)
 cases hwl with
 |cons w1 w2=>
  cases w2;cases w1 with
  |list ho hall=>exact⟨_,_,ns,rfl,rfl,ho,Ug ns _ hall,hlen⟩
theorem UO(l:Eu)(args:Ac WData):l.row.toRowW.claim.post args (.bool Ab) args=Ab:=
 postW_of (r:=l.row.toRowW) (X:=(Ab==Ab))
  (show TM [] (.bool Ab) .bool=Ab by first|rfl|decide|simp[TM,WShape.arms,WShape.armsAll])
  (show (WTm.eq .res (.lit (.bool Ab))).value [] {args:=args,res:=Aa (.bool Ab),after:=args}=Aa (.bool (Ab==Ab)) from w_eq_bool (w_res rfl) w_lit) rfl
theorem attach_call{q:AS}{loose:Ac Ah}{XP:(Ah->Aq Aj)->AK->Prop}{YP:AY->AK->Prop}{d:DefRec}(hn:l.most=Aa n)(hdf:d.params.defaults=[])(call:∀(w:AY)(s₀ s₁:Ap)(mg mb:Ah->Aq Aj)(fa:Ak)(o:Dq)(pm cd doc:Aj)(a:Ak)(vs:Ac Aj)(ns:Ac Ae),
   Ground q loose [] XP w s₀ mg mb s₁.heap->YP w s₁.heap ->
   s₁.heap.get? fa=Aa o->o.data=.func (docDef d.name d.params d.body d.scope pm cd doc)->s₁.heap.CodeRec cd d.name->mg d.name=Aa (.ref fa) ->
   s₁.heap.get? a=Aa { cls:=.type "list", data:=.seq vs.toArray }->GI vs ns->ns.length<=n->s₁.gens=#[] ->
   Fb (model l.prog w) FU (.call (.ref fa) ⟨[.ref a],[]⟩) (fun r s'=>r=.ok (.ret (.bool Ab))/\OldK s₁.heap s'.heap/\s'.os=s₁.os/\Ek s'.gens) s₁):WalkO q loose XP YP l.row.toRowW d [] (fun f vs=>HZ f vs):=by
 intro w s₀ s₁ mg mb G Y fa o pm cd doc dV kV ho hd hcd hD hmg hg args vals as hpre hlay hrd hwl hlo;obtain rfl:dV=.none:=Dflts.none hD hdf;obtain rfl:kV=.none:=Dflts.noKw hD;obtain⟨a,vs,ns,rfl,rfl,hobj,hints,hlen⟩:=U1 hn hpre hwl;refine enter_call (Hd (call w s₀ s₁ mg mb fa o pm cd doc a vs ns G Y ho (fd_plain hd) hcd hmg hobj hints hlen hg) fun r s' hq=>?_)
 obtain⟨rfl,h2,h3,h4⟩:=hq;exact⟨.inl ⟨.bool Ab,.bool Ab,[],rfl,fun _=>rfl,.bool Ab,UO l _,fun _=>⟨List.Pairwise.nil,fun _ hm=>(nomatch hm)⟩⟩,h2,h3,h4⟩
section
variable{prog:AS}{w:AY}{A:A6}{E:Vq}{s:Ap}{K:Frag}
end
end Att
namespace L2
open PySem PySem.Spec PyProof.Rows
variable{k:Ag}{x:Ah}
theorem NV:∀{vs:Ac Aj}{ns:Ac Ae},GI vs ns->AZ (ns.map V.int) vs
 |_,_,.nil=>.nil
 |_,_,.cons n t h=>.cons ⟨t,rfl⟩ (NV h)
def No(H:Hp):Prop:=∀ b,H b=Af\/∃ o xs,H b=Aa (.frz o (.lst xs))
theorem Vp{P:AS}{w:AY}{K:Fg}{mg mb:Ah->Aq Aj}{CX:CXT}{fa a:Ak}{fd:B2}{sp:Sp}{s₁:Ap}{vs:Ac Aj}{ns:Ac Ae}(KX:K.In s₁.heap)(hns:s₁.heap.Ns A1 mg)(hb:s₁.heap.Ns GQ mb)(hbb:∀ x:Ah,x≠"__name__"->mb x=CA x)(hlim:s₁.heap.NoLimit)(hg:s₁.gens=#[])(ha:s₁.heap.get? a=Aa { cls:=.type "list", data:=.seq vs.toArray })(hi:GI vs ns)(hl:ns.length<=sizeLine)(hr:Room k FU)(F:∀ base:AK,K.In base->base.Ns A1 mg->FnOk P w K mg base CX k fa fd [x] sp)(hbind:∀(s:Ap)(u:Aj),FS s fd ⟨[u],[]⟩ [(x,u)])(hsp:∀ H:Hp,No H->SqL K H a (ns.map V.int)->sp [.ref a] H (fun v _=>v=.bl Ab) fun _ _ _=>Bb)(hCX:∀ H e s',CX [] H s₁ (fun _ _ _=>Bb) e s'->Bb):Fb (model P w) FU (.call (.ref fa) ⟨[.ref a],[]⟩) (fun r s'=>r=.ok (.ret (.bool Ab))/\OldK s₁.heap s'.heap/\s'.os=s₁.os/\Ek s'.gens) s₁:=by
 have rv:=NV hi;have lenV:=hi.length
 -- from an abstract heap in which nothing but the script may be tracked
 have core:∀ H:Hp,No H->SqL K H a (ns.map V.int)->HOk P w H s₁.heap->(∀ b,H b≠Af->b=a)->(H a≠Af->K.lookup a=Af) ->
   Fb (model P w) FU (.call (.ref fa) ⟨[.ref a],[]⟩) (fun r s'=>r=.ok (.ret (.bool Ab))/\OldK s₁.heap s'.heap/\s'.os=s₁.os/\Ek s'.gens) s₁:=by
  intro H hO hS hok hA hK;have base_of:∀{b:Ak}{o:Dq},s₁.heap.get? b=Aa o->H b=Af->(G3 s₁.heap H).get? b=Aa o:=fun e n=>Vr e n
  have noA:∀{b:Ak}{o:Dq}{es:Bi DictEntry}{ep:Ag},s₁.heap.get? b=Aa o->o.data=.dict es ep->H b=Af:=fun {b o es ep} e d=>by
   cases q:H b with
   |none=>rfl
   |some u=>
    have e':b=a:=hA b (by rw[q];simp)
    subst e';rw[ha]at e;cases e;have d':IZ vs.toArray _=Data.dict es ep:=d;cases d'
  have nsK:∀{b:Ak}{m:Ah->Aq Aj},s₁.heap.Ns b m->(G3 s₁.heap H).Ns b m:=fun {b m} ⟨o,es,ep,e,d,r⟩=>⟨o,es,ep,base_of e (noA e d),d,r⟩
  have hKb:K.In (G3 s₁.heap H):=fun b o e=>base_of (KX b o e) (by
   cases q:H b with
   |none=>rfl
   |some u=>
    have e':b=a:=hA b (by rw[q];simp)
    subst e';rw[hK (by rw[q];simp)]at e;cases e)
  have hM:Mod K mg (G3 s₁.heap H):=⟨hKb,nsK hns,⟨mb,nsK hb,hbb⟩,let ⟨mc,h1,h2⟩:=hlim;⟨mc,nsK h1,h2⟩⟩
  have e0:Env0 P w K mg (G3 s₁.heap H) FU [] s₁ H:=⟨rfl,hM,fun b o e=>WT e,Nat.le_of_eq (Vh _ _),trivial,fun b hb=>absurd (show b∈([]:Ac Ak) from hb) (by simp),hok,.of_eq hg⟩
  refine Hd ((F _ hKb (nsK hns)).run FU [] s₁ H ⟨[.ref a],[]⟩ [.ref a] [.ref a] _ _ hr e0 (hbind s₁ (.ref a)) (.cons rfl .nil) (hsp H hO hS)) fun r s' h=>?_
  cases r with
  |error e=>exact(hCX H e s' h).elim
  |ok fl=>
   cases fl with
   |next=>exact Dh h
   |brk=>exact Dh h
   |cont=>exact Dh h
   |ret u=>
    obtain⟨v,H',os,bare,un,hok',r',q⟩:=h;have q':v=.bl Ab:=q;subst q';obtain rfl:u=TD Ab:=r';refine⟨rfl,OldK.of_keep fun b o e=>?_,os,bare⟩
    cases q:H b with
    |none=>exact un.keep b o e q (by intro z;exact absurd (show b∈([]:Ac Ak) from z) (by simp)) (by simp)
    |some u=>
     rcases hO b with z|⟨ob,xs,z⟩
     ·rw[q]at z;cases z
     ·have z2:=un.frzs b ob _ z;obtain⟨e1,_⟩:=hok b _ z;obtain⟨e2,_⟩:=hok' b _ z2;rw[e]at e1;cases e1;exact e2
 cases hk:K.lookup a with
 |some o=>
  -- the script is one of the module's own objects
  have e:=KX a o hk;rw[ha]at e;cases e;refine core (fun _=>Af) (fun _=>.inl rfl) (.inr ⟨_,vs.toArray,_,hk,rfl,rfl,rfl,by rw[Ax,lenV];exact hl,by simpa using rv⟩) (fun b u z=>by have z':(Af:Aq HO)=Aa u:=z;cases z') (fun b z=>absurd rfl z) fun z=>absurd rfl z
 |none=>
  refine core (fun b=>if b=a then Aa (.frz { cls:=.type "list", data:=.seq vs.toArray } (.lst (ns.map V.int))) else Af) (fun b=>?_) (.inl (.inr ⟨{ cls:=.type "list", data:=.seq vs.toArray },AB rfl⟩)) (fun b u z=>?_) (fun b z=>?_) fun _=>hk
  ·by_cases hb:b=a
   ·exact .inr ⟨_,_,AB hb⟩
   ·exact .inl (AM hb)
  ·by_cases hb:b=a
   ·have z':=(AB hb).symm.trans z;cases z';subst hb;exact⟨ha,by rw[BE];exact hl,vs,_,rv,ha⟩
   ·have z':=(AM hb).symm.trans z;cases z'
  ·by_cases hb:b=a
   ·exact hb
   ·exact absurd (AM hb) z
noncomputable abbrev KOf{K:Fg}{h:AK}(_:K.In h):Fg:=K
theorem walk_of{l:Eu}{n:Ag}{q:AS}{loose:Ac Ah}{XP:(Ah->Aq Aj)->AK->Prop}{YP:AY->AK->Prop}{d:DefRec}{K:Jc->Fg}{CX:AY->CXT}{sp:AY->Sp}(hn:l.most=Aa n)(hn2:n<=sizeLine)(hdf:d.params.defaults=[])(hr:Room k FU)(hY:∀(w:AY)(h:AK),YP w h->(K w.params).In h)(F:∀(w:AY)(mg:Ah->Aq Aj)(fa:Ak)(h:AK),(K w.params).In h->h.Ns A1 mg->mg d.name=Aa (.ref fa) ->
   ∃ fd:B2,(∀(s:Ap)(u:Aj),FS s fd ⟨[u],[]⟩ [(x,u)]) /\
    ∀ base:AK,(K w.params).In base->base.Ns A1 mg->FnOk l.prog w (K w.params) mg base (CX w) k fa fd [x] (sp w))(hsp:∀(w:AY)(H:Hp)(a:Ak)(ns:Ac Ae),ns.length<=n->No H->SqL (K w.params) H a (ns.map V.int)->sp w [.ref a] H (fun v _=>v=.bl Ab) fun _ _ _=>Bb)(hCX:∀(w:AY)(H:Hp)(s:Ap)(e:Aj)(s':Ap),CX w [] H s (fun _ _ _=>Bb) e s'->Bb):TN q loose XP YP l.row.toRowW d [] (fun f vs=>HZ f vs):=by
 refine Att.attach_call hn hdf fun w s₀ s₁ mg mb fa o pm cd doc a vs ns G Y ho hd hcd hmg hobj hints hlen hg=>?_
 have KX:=hY w _ Y;obtain⟨fd,hb,hF⟩:=F w mg fa _ KX G.T.g hmg;exact Vp KX G.T.g G.T.b G.T.builtins G.T.nolimit hg hobj hints (Cj hlen hn2) hr hF hb (fun H hO hS=>hsp w H a ns hlen hO hS) fun H e s'=>hCX w H s₁ e s'
end L2
/- THE LAST THEOREM (shape;LID,My.* are yours):
   My.Adr: a structure of the addresses that your layer names (classes,functions);My.Txt K t: a structure (Prop) of the equations over K;
   My.txt_mk:{K} {implicit addresses ..} (e1:nsIn K A1 "law" = Aa (Aa (.ref f))) (e2:K.lookup f=Aa ⟨oc,od,.func (fnOf "law" "law" params body scope dV kV doc pm an cdv ct),sl⟩) (e3:codeIn K cdv "law" = Ab) ..:∃ t,My.Txt K t
set_option maxRecDepth 100000 in
set_option maxHeartbeats 0 in
theorem PySem.Challenge.cw_LID_holds:PySem.Challenge.rw_LID.Holds:=by
 w_on;o_law;k_head;(case hw=>w_witness2)
 k_fill
 refine L2.walk_of (l:=PySem.Challenge.rw_LID) (n:=63) (k:=40) (x := "script") (CX:=fun w=>..) (sp:=fun _=>My.sp_law) rfl (by decide) rfl ⟨rfl,by decide,by decide⟩ (fun w h Y=>TU Y) ?F ?S ?C
 case F=>
  intro w mg fa h KX G hmg;have T:∃ t,My.Txt (L2.KOf KX) t:=by
   dsimp only[L2.KOf]                          -- K must stand as «<heap const> w.params» for k_is
   refine' My.txt_mk ?e1 ?e2 ?e3 ..
   (case e1=>PySem.W.k_is)                    -- in the order: a name -> its address -> its object -> its parts
   (case e2=>PySem.W.k_is)
   ..
  obtain⟨t,T⟩:=T;have e0:=hmg.symm.trans (G8 KX G T.law);cases e0                                       -- fa is the law's own address
  exact⟨_,fun s u=>.of_eq rfl,fun base kb nb=>My.law_fn T kb nb⟩     -- if «.of_eq rfl» comes too early: refine' ⟨_,?b,fun base kb nb=>My.law_fn T kb nb⟩;exact fun s u=>.of_eq rfl
 case S=>exact fun w H a ns hl hO hS=>..
 case C=>exact ..
(the tactic k_is has no namespace: write k_is) -/
namespace L2
open PySem PySem.Spec PyProof.Rows
noncomputable def Ip(s:Bz):Arguments:=match s with
  |.FunctionDef _ a _ _ _ _ _ _ _ _=>a
  |_=>{posonlyargs:=[],args:=[],vararg:=Af,kwonlyargs:=[],kw_defaults:=[],kwarg:=Af,defaults:=[]}
noncomputable def Gw(s:Bz):Ac Bz:=match s with
  |.FunctionDef _ _ b _ _ _ _ _ _ _=>b
  |_=>[]
noncomputable def Fe(s:Bz):BY:=match s with
  |.FunctionDef _ _ _ _ _ _ sc _ _ _=>sc
  |_=>{kind:=.function,names:=[],isGenerator:=Ad,isCoroutine:=Ad}
noncomputable abbrev CX0:CXT:=fun _ _ _ _ _ _=>Bb
structure Fun (K:Fg) (x qual:Ah) (st:Bz) (f:Ak) (fd:B2):Prop where
 ex:∃(oc:Aj)(od:Aq Ak)(kV doc pm:Aj)(an:Aq Ak)(cdv ct:Aj)(osl:Bi (Aq Aj)),
  fd=Dr x qual (Ip st) (Gw st) (Fe st) .none kV doc pm an cdv ct/\K.lookup f=Aa ⟨oc,od,.func fd,osl⟩/\Fa K cdv qual=Ab
 kp:CW K (.ref f)=Ab
section
variable{P:AS}{w:AY}{K:Fg}{mg:Ah->Aq Aj}{base:AK}
theorem Fun.ok{x qual:Ah}{st:Bz}{f:Ak}{fd:B2}{N ps:Ac Ah}{k:Ag}{sp:Sp}(F:Fun K x qual st f fd)(S:FnScope N ps (Fe st))(len:∀ vs H Q E,sp vs H Q E->vs.length=ps.length)(hbody:∀(cdv:Aj)(A:A6)(outer:Ac BP)(s:Ap)(H:Hp)(vs:Ac V)(Q:VK)(E:XK),Room k (A.deeper (D0 qual (Fe st) s.heap.objs.size f cdv))->sp vs H Q E ->
   ∃ t,PSs (Fh CX0 P w K mg base N qual (Fe st) f cdv A outer s H E).nox (Gw st) t/\t {nx:=fun _ H'=>Q .non H',rt:=Q} (start N vs) H):FnOk P w K mg base CX0 (k+1) f fd ps sp:=by
 obtain⟨oc,od,kV,doc,pm,an,cdv,ct,osl,rfl,lk,hcd⟩:=F.ex;refine Q2 lk hcd S len fun A outer s H vs Q E hr hsp=>?_
 obtain⟨t,h,q⟩:=hbody cdv A outer s H vs Q E hr hsp;exact⟨t,h.nox,q⟩
theorem Fun.binds{x qual:Ah}{st:Bz}{f:Ak}{fd:B2}{ps:Ac Ah}(F:Fun K x qual st f fd)(h:∀(kV doc pm:Aj)(an:Aq Ak)(cdv ct:Aj)(us:Ac Aj),us.length=ps.length->Jd (Dr x qual (Ip st) (Gw st) (Fe st) .none kV doc pm an cdv ct) ⟨us,[]⟩=pure (ps.zip us)):GA K fd ps []:=by
 obtain⟨oc,od,kV,doc,pm,an,cdv,ct,osl,rfl,lk,hcd⟩:=F.ex;exact .all (h kV doc pm an cdv ct)
theorem ZW{x qual:Ah}{st:Bz}{f:Ak}{oc:Aj}{od an:Aq Ak}{osl:Bi (Aq Aj)}{kV doc pm cdv ct:Aj}(l:K.lookup f=Aa ⟨oc,od,.func (Dr x qual (Ip st) (Gw st) (Fe st) .none kV doc pm an cdv ct),osl⟩)(c:Fa K cdv qual=Ab)(k:CW K (.ref f)=Ab):Fun K x qual st f (Dr x qual (Ip st) (Gw st) (Fe st) .none kV doc pm an cdv ct):=⟨⟨oc,od,kV,doc,pm,an,cdv,ct,osl,rfl,l,c⟩,k⟩
end
section
variable{X:Cx}
end
def AC(H H':Hp):Prop:=∀ b o,H b=Aa o->H' b=Aa o
theorem AC.refl(H:Hp):AC H H:=fun _ _ h=>h
theorem AC.trans{H H1 H2:Hp}(a:AC H H1)(b:AC H1 H2):AC H H2:=fun c o h=>b c o (a c o h)
theorem AC.free{H H':Hp}(e:AC H H'){l:Ak}(h:H' l=Af):H l=Af:=by
 cases q:H l with
 |none=>rfl
 |some o=>
  rw[e l o q]at h;cases h
end L2
section
namespace Ov
open PySem
variable{α β:Type}
inductive D where
 |non|bl (b:An)|int (i:Ae)|str (x:Ah)|tup (ds:Ac D)|lst (ds:Ac D)
 |obj (c:Ag) (fs:Ac (Ah×D))|exc (c:Ag) (fs:Ac (Ah×D))|dic (kvs:Ac (Ac Ae×D))
 deriving Inhabited
structure Ex where
 c:Ag
 fs:Ac (Ah×D)
 deriving Inhabited
inductive R (α:Type) where
 |ok (a:α)|exn (x:Ex)|bad
 deriving Inhabited
noncomputable def R.bind{α β:Type}(r:R α)(f:α->R β):R β:=match r with
  |.ok a=>f a
  |.exn x=>.exn x
  |.bad=>.bad
@[simp]theorem R.bind_ok(a:α)(f:α->R β):(R.ok a).bind f=f a:=rfl
@[simp]theorem R.bind_exn(x:Ex)(f:α->R β):(R.exn x:R α).bind f=.exn x:=rfl
@[simp]theorem R.bind_bad(f:α->R β):(R.bad:R α).bind f=.bad:=rfl
theorem R.bind_assoc{γ:Type}(r:R α)(f:α->R β)(g:β->R γ):(r.bind f).bind g=r.bind fun a=>(f a).bind g:=by cases r<;>rfl
noncomputable def CB(n:Ag):An:=DD n 1000000
noncomputable def Du(i j:Ae):An:=(decide (-(18446744073709551616:Ae)<i)&&decide (i<18446744073709551616))||(decide (-(18446744073709551616:Ae)<j)&&decide (j<18446744073709551616))
noncomputable def DO(i j:Ae):An:=decide (i.natAbs<2 ^ 2000)&&decide (j.natAbs<2 ^ 2000)
noncomputable def CH:F6->D->D->R D
 |.Add,.int i,.int j=>.ok (.int (i+j))
 |.Sub,.int i,.int j=>.ok (.int (i-j))
 |.Mult,.int i,.int j=>if (Du i j||DO i j)=Ab then .ok (.int (i*j)) else .bad
 |.FloorDiv,.int i,.int j=>if 0<j/\j<1073741824 then .ok (.int (i / j)) else .bad
 |.Mod,.int i,.int j=>if 0<j then .ok (.int (i%j)) else .bad
 |.Pow,.int i,.int j=>if (0<=j/\j<=1000000)/\(-(18446744073709551616:Ae)<i/\i<18446744073709551616) then .ok (.int (i ^ j.toNat)) else .bad
 |.Add,.str x,.str y=>if CB (x.length+y.length)=Ab then .ok (.str (x++y)) else .bad
 |.Add,.lst x,.lst y=>if CB (x.length+y.length)=Ab then .ok (.lst (x++y)) else .bad
 |.Add,.tup x,.tup y=>if (!x.isEmpty&&CB (x.length+y.length))=Ab then .ok (.tup (x++y)) else .bad
 |_,_,_=>.bad
noncomputable def unD:UnaryOp->D->R D
 |.USub,.int i=>.ok (.int (-i))
 |_,_=>.bad
noncomputable def b2i(b:An):Ae:=if b=Ab then 1 else 0
mutual
noncomputable def eqD:D->D->An
 |.non,.non=>Ab
 |.bl a,.bl b=>a==b
 |.bl a,.int j=>b2i a==j
 |.int i,.bl b=>i==b2i b
 |.int i,.int j=>i==j
 |.str x,.str y=>x==y
 |.tup xs,.tup ys=>eqDs xs ys
 |.lst xs,.lst ys=>eqDs xs ys
 |_,_=>Ad
noncomputable def eqDs:Ac D->Ac D->An
 |[],[]=>Ab
 |x::xs,y::ys=>eqD x y&&eqDs xs ys
 |_,_=>Ad
end
noncomputable def flD:Ag->D->An
 |_,.non=>Ab
 |_,.bl _=>Ab
 |_,.int _=>Ab
 |_,.str _=>Ab
 |n+1,.tup xs=>xs.all (flD n)
 |n+1,.lst xs=>xs.all (flD n)
 |_,_=>Ad
noncomputable def IS:D->Aq (Ac Ae)
 |.tup ds=>keyDs ds
 |_=>Af
where keyDs:Ac D->Aq (Ac Ae)
 |[]=>Aa []
 |.int i::r=>(keyDs r).map (i :: ·)
 |_=>Af
noncomputable def ltD:Ag->D->D->An
 |0,.int i,.int j=>decide (i<j)
 |n+1,.tup xs,.tup ys=>ltDs (ltD n) xs ys
 |_,_,_=>Ad
where ltDs (lt:D->D->An):Ac D->Ac D->An
 |[],[]=>Ad
 |[],_::_=>Ab
 |_::_,[]=>Ad
 |x::xs,y::ys=>if eqD x y=Ab then ltDs lt xs ys else lt x y
noncomputable def rkD:Ag->D->An
 |0,.int _=>Ab
 |n+1,.tup xs=>xs.all (rkD n)
 |_,_=>Ad
noncomputable def RG(lt:D->D->An)(x:D):Ac D->Ac D
 |[]=>[x]
 |y::ys=>if lt y x=Ab then y::RG lt x ys else x::y::ys
noncomputable def QK(lt:D->D->An):Ac D->Ac D
 |[]=>[]
 |x::xs=>RG lt x (QK lt xs)
noncomputable def RD:Ac D->An
 |[]=>Ab
 |x::xs=>xs.all (fun y=>!eqD x y)&&RD xs
noncomputable def RX:Ac D->An
 |[]=>Ab
 |[_]=>Ab
 |x::y::r=>ltD 1 x y&&RX (y::r)
noncomputable def Po(xs:Ac D):R (Ac D):=if (xs.all (fun d=>rkD 1 d && !eqD d (.tup []))&&RD xs&&(decide (xs.length<64)||(RX xs&&decide (xs.length<=1000))))=Ab then .ok (QK (ltD 1) xs) else .bad
noncomputable def BN:DK->D->D->R D
  |.Eq,x,y=>if (flD 5 x&&flD 5 y)=Ab then .ok (.bl (eqD x y)) else .bad
  |.NotEq,x,y=>if (flD 5 x&&flD 5 y)=Ab then .ok (.bl (!eqD x y)) else .bad
  |.Lt,.int i,.int j=>.ok (.bl (decide (i<j)))
  |.LtE,.int i,.int j=>.ok (.bl (decide (i<=j)))
  |.Gt,.int i,.int j=>.ok (.bl (decide (j<i)))
  |.GtE,.int i,.int j=>.ok (.bl (decide (j<=i)))
  |.In,x,.lst ys=>if (flD 5 x&&ys.all (flD 5))=Ab then .ok (.bl (ys.any fun y=>eqD y x)) else .bad
  |.In,x,.dic kvs=>match IS x with
    |some k=>.ok (.bl (kvs.any fun p=>p.1==k))
    |none=>.bad
  |.In,x,.tup ys=>if (flD 5 x&&ys.all (flD 5))=Ab then .ok (.bl (ys.any fun y=>eqD y x)) else .bad
  |.NotIn,x,.lst ys=>if (flD 5 x&&ys.all (flD 5))=Ab then .ok (.bl (!ys.any fun y=>eqD y x)) else .bad
  |.NotIn,x,.tup ys=>if (flD 5 x&&ys.all (flD 5))=Ab then .ok (.bl (!ys.any fun y=>eqD y x)) else .bad
  |.Is,.non,.non=>.ok (.bl Ab)
  |.Is,.bl _,.non=>.ok (.bl Ad)
  |.Is,.int _,.non=>.ok (.bl Ad)
  |.Is,.str _,.non=>.ok (.bl Ad)
  |.Is,.tup _,.non=>.ok (.bl Ad)
  |.Is,.lst _,.non=>.ok (.bl Ad)
  |.Is,.obj _ _,.non=>.ok (.bl Ad)
  |.Is,.bl a,.bl b=>.ok (.bl (a==b))
  |.IsNot,.bl a,.bl b=>.ok (.bl (!(a==b)))
  |.IsNot,.non,.non=>.ok (.bl Ad)
  |.IsNot,.bl _,.non=>.ok (.bl Ab)
  |.IsNot,.int _,.non=>.ok (.bl Ab)
  |.IsNot,.str _,.non=>.ok (.bl Ab)
  |.IsNot,.tup _,.non=>.ok (.bl Ab)
  |.IsNot,.lst _,.non=>.ok (.bl Ab)
  |.IsNot,.obj _ _,.non=>.ok (.bl Ab)
  |_,_,_=>.bad
noncomputable def BS:D->R An
 |.non=>.ok Ad
 |.bl b=>.ok b
 |.int i=>.ok (i != 0)
 |.str x=>if CB x.length=Ab then .ok (x.length != 0) else .bad
 |.tup xs=>.ok (!xs.isEmpty)
 |.lst xs=>.ok (!xs.isEmpty)
 |_=>.bad
noncomputable def plD(n:Ag)(i:Ae):Aq Ag:=if 0<=i then (if i<n then Aa i.toNat else Af) else if -(n:Ae)<=i then Aa (i+n).toNat else Af
noncomputable def Dk(xs:Ac D)(i:Ae):R D:=match plD xs.length i with
  |some k=>match xs[k]? with
    |some d=>.ok d
    |none=>.bad
  |none=>.bad
noncomputable def Z1(kvs:Ac (Ac Ae×D))(k:Ac Ae):Aq D:=(kvs.find? fun p=>p.1==k).map (·.2)
noncomputable def Qu(kvs:Ac (Ac Ae×D))(k:Ac Ae)(v:D):Ac (Ac Ae×D):=if (kvs.any fun p=>p.1==k)=Ab then kvs.map (fun p=>if (p.1==k)=Ab then (k,v) else p) else kvs++[(k,v)]
noncomputable def AT:D->D->R D
  |.lst xs,.int i=>Dk xs i
  |.tup xs,.int i=>Dk xs i
  |.dic kvs,k=>match (IS k).bind (Z1 kvs) with
    |some d=>.ok d
    |none=>.bad
  |_,_=>.bad
noncomputable def Dt:D->R Ae
 |.int i=>.ok i
 |_=>.bad
noncomputable def Dc:D->R An
 |.bl b=>.ok b
 |_=>.bad
noncomputable def B9:D->R (Ac D)
 |.lst xs=>.ok xs
 |.tup xs=>.ok xs
 |_=>.bad
noncomputable def Na:D->R (Ac D)
 |.lst xs=>.ok xs
 |_=>.bad
inductive BI where
 |len|abs|max|min|int|list|tuple|all|any|sum|sorted|str|count|stp|lset|tmin|tmax|tlt|rvs
 deriving DecidableEq,Inhabited
inductive Ki where
 |int|bool|str|list|tuple|verr|cls (c:Ag)
 deriving DecidableEq,Inhabited
mutual
inductive E where
 |non|bl (b:An)|int (i:Ae)|str (x:Ah)
 |var (i:Ag)|glob (g:Ag)
 |bin (op:F6) (a b:E)|un (op:UnaryOp) (a:E)|no (a:E)
 |and (es:Es)|or (es:Es)
 |cmp (op:DK) (a b:E)|cmp2 (op op':DK) (a b c:E)
 |ite (c a b:E)
 |call (f:Ag) (as:Es)|bi (b:BI) (as:Es)
 |isi (a:E) (ks:Ac Ki)
 |idx (a i:E)|sl (a lo hi:E)
 |tup (es:Es)|lst (es:Es)
 |comp (elt:E) (t:Ag) (it:I) (c:E)|compT (elt:E) (ts:Ac Ag) (it:I) (c:E)|tupI (it:I)|dnew
 |fld (o:E) (f:Ah)
inductive Es where
 |nil|cons (e:E) (es:Es)
inductive I where
 |e (a:E)|rng (a:E)|rng2 (a b:E)|zip (a b:E)|zip3 (a b c:E)|enm (a:E)
end
abbrev Sl:=Aq (D×An)
abbrev Rho:=Ac Sl
structure Gam where
 F:Ag->Ac D->R D
 G:Ag->D
 up:Ag->Ac Ag
 /-- the defs whose answer is a new list -/
 fr:Ag->An
 /-- what is raised: the class,what it is made of -/
 xn:Ag->Ac D->R Ex
noncomputable def BK(lo:Ae)(n:Ag):Ac D:=(Co n).map fun(k:Ag)=>D.int (lo+(k:Ae))
noncomputable def B5(lo hi:Ae):R (Ac D):=if (-(4611686018427387904:Ae)<=lo/\lo<4611686018427387904)/\(-(4611686018427387904:Ae)<=hi/\hi<4611686018427387904)/\hi-lo<1000000 then .ok (BK lo (hi-lo).toNat) else .bad
noncomputable def kiD(up:Ag->Ac Ag):Ki->D->An
 |.int,.int _=>Ab
 |.int,.bl _=>Ab
 |.bool,.bl _=>Ab
 |.str,.str _=>Ab
 |.list,.lst _=>Ab
 |.tuple,.tup _=>Ab
 |.cls c,.obj k _=>(up k).contains c
 |.cls c,.exc k _=>(up k).contains c
 |.verr,.exc _ _=>Ab
 |_,_=>Ad
noncomputable def Eo:Ki->An
 |.cls _=>Ab
 |.verr=>Ab
 |_=>Ad
noncomputable def FK(up:Ag->Ac Ag)(ks:Ac Ki)(x:D):R D:=match x with
  |.obj _ _=>.bad
  |.exc _ _=>if ks.all Eo=Ab then .ok (.bl (ks.any fun k=>kiD up k x)) else .bad
  |.dic _=>.bad
  |_=>if ks.any Eo=Ab then .bad else .ok (.bl (ks.any fun k=>kiD up k x))
noncomputable def DB:D->R An
 |.non=>.ok Ad
 |.bl b=>.ok b
 |.int i=>.ok (i != 0)
 |_=>.bad
noncomputable def FI:Ac D->R An
 |[]=>.ok Ab
 |x::r=>(DB x).bind fun b=>(FI r).bind fun c=>.ok (b&&c)
noncomputable def DU:Ac D->R An
 |[]=>.ok Ad
 |x::r=>(DB x).bind fun b=>(DU r).bind fun c=>.ok (b||c)
noncomputable def Fk:Ae->Ac D->R Ae
 |a,[]=>.ok a
 |a,.int i::r=>Fk (a+i) r
 |_,_=>.bad
noncomputable def C4:Ac D->Ac D->Ac D
 |x::xs,y::ys=>.tup [x,y]::C4 xs ys
 |_,_=>[]
noncomputable def QN:Ac D->Ac D->Ac D->Ac D
 |x::xs,y::ys,z::zs=>.tup [x,y,z]::QN xs ys zs
 |_,_,_=>[]
noncomputable def QM(x y z:D):R (Ac D):=(B9 x).bind fun xs=>(B9 y).bind fun ys=>(B9 z).bind fun zs=>if 0<xs.length/\xs.length<=1000/\ys.length=xs.length/\zs.length=xs.length then .ok (QN xs ys zs) else .bad
noncomputable def EF:Ae->Ac D->Ac D
 |_,[]=>[]
 |i,x::xs=>.tup [.int i,x]::EF (i+1) xs
noncomputable def nlD:Ag->D->An
 |_,.non=>Ab
 |_,.bl _=>Ab
 |_,.int _=>Ab
 |_,.str _=>Ab
 |n+1,.tup xs=>xs.all (nlD n)
 |_,_=>Ad
noncomputable def IU(fr:An):D->An
 |.lst ds=>fr&&ds.all (nlD 5)
 |d=>nlD 5 d
noncomputable def Hk:Ac D->Aq (Ac Ae)
 |[]=>Aa []
 |.int i::r=>(Hk r).map (i :: ·)
 |_=>Af
noncomputable def GD(i:Ae):Ac Ae->Ae
 |[]=>i
 |j::r=>GD (if j<i then j else i) r
noncomputable def pk2(k n:Ag):Ac Ag:=(Co ((n-min k n+1) / 2)).map fun j=>min k n+2*j
noncomputable def RM(k:Ag)(xs:Ac D):Ac D:=(pk2 k xs.length).filterMap fun i=>xs[i]?
noncomputable def ddS(acc:Ac Ae)(x:Ae):Ac Ae:=if acc.any (· == x)=Ab then acc else acc++[x]
noncomputable def ddN(is:Ac Ae):Ag:=(is.foldl ddS []).length
noncomputable def Ra(xs:Ac D):R D:=match Hk xs with
  |some is=>if DD is.length 4000=Ab then .ok (.int (ddN is)) else .bad
  |none=>.bad
noncomputable def mmD(mx:An)(x y:D):R D:=if [x,y].all (fun d=>rkD 1 d && !eqD d (.tup []))=Ab then .ok (if (if mx=Ab then ltD 1 x y else ltD 1 y x)=Ab then y else x) else .bad
noncomputable def RH(x y:D):R D:=if [x,y].all (fun d=>rkD 1 d && !eqD d (.tup []))=Ab then .ok (.bl (ltD 1 x y)) else .bad
noncomputable def biD:BI->Ac D->R D
  |.len,[.lst xs]=>.ok (.int xs.length)
  |.len,[.tup xs]=>.ok (.int xs.length)
  |.len,[.str x]=>if CB x.length=Ab then .ok (.int x.length) else .bad
  |.abs,[.int i]=>.ok (.int (if i<0 then -i else i))
  |.max,[.int i,.int j]=>.ok (.int (if i<j then j else i))
  |.min,[.int i,.int j]=>.ok (.int (if j<i then j else i))
  |.min,[.lst xs]=>match Hk xs with
    |some (i::is)=>.ok (.int (GD i is))
    |_=>.bad
  |.int,[.int i]=>.ok (.int i)
  |.int,[.bl b]=>.ok (.int (b2i b))
  |.list,[.lst xs]=>.ok (.lst xs)
  |.list,[.tup xs]=>.ok (.lst xs)
  |.tuple,[.lst xs]=>.ok (.tup xs)
  |.tuple,[.tup xs]=>.ok (.tup xs)
  |.all,[.lst xs]=>(FI xs).bind fun b=>.ok (.bl b)
  |.any,[.lst xs]=>(DU xs).bind fun b=>.ok (.bl b)
  |.any,[.tup xs]=>(DU xs).bind fun b=>.ok (.bl b)
  |.sum,[.lst xs]=>(Fk 0 xs).bind fun i=>.ok (.int i)
  |.sum,[.tup xs]=>(Fk 0 xs).bind fun i=>.ok (.int i)
  |.sorted,[.lst xs]=>(Po xs).bind fun ys=>.ok (.lst ys)
  |.count,[.lst xs,x]=>if (flD 5 x&&xs.all (flD 5))=Ab then .ok (.int ((xs.filter fun y=>eqD y x).length:Ag)) else .bad
  |.len,[.dic kvs]=>.ok (.int kvs.length)
  |.stp,[.lst xs,.int k]=>.ok (.lst (RM k.toNat xs))
  |.lset,[.lst xs]=>Ra xs
  |.tmin,[x,y]=>mmD Ad x y
  |.tmax,[x,y]=>mmD Ab x y
  |.tlt,[x,y]=>RH x y
  |.rvs,[.lst xs]=>.ok (.lst xs.reverse)
  |_,_=>.bad
noncomputable def slE(c:E)(d:D):R (Aq Ae):=match c with
  |.non=>.ok Af
  |_=>(Dt d).bind fun i=>.ok (Aa i)
noncomputable def GC(n d:Ag):Aq Ae->Ag
 |none=>d
 |some i=>if i<0 then (i+n).toNat else min i.toNat n
noncomputable def HN(xs:Ac D)(lo hi:Aq Ae):Ac D:=(xs.drop (GC xs.length 0 lo)).take (GC xs.length xs.length hi-GC xs.length 0 lo)
noncomputable def slD:D->Aq Ae->Aq Ae->R D
 |.lst xs,l,h=>.ok (.lst (HN xs l h))
 |.tup xs,l,h=>if (GC xs.length 0 l==0&&GC xs.length xs.length h==xs.length)=Ab then .bad else .ok (.tup (HN xs l h))
 |_,_,_=>.bad
noncomputable def Rv:D->Ah->R D
  |.obj _ fs,f=>match fs.lookup f with
    |some d=>.ok d
    |none=>.bad
  |.exc _ fs,f=>match fs.lookup f with
    |some d=>.ok d
    |none=>.bad
  |_,_=>.bad
noncomputable def DZ(ρ:Rho)(i:Ag):R D:=match ρ[i]? with
  |some (Aa (d,Ad))=>.ok d
  |_=>.bad
noncomputable def Ej(ρ:Rho)(i:Ag):R D:=match ρ[i]? with
  |some (Aa (d,_))=>.ok d
  |_=>.bad
noncomputable def shE(ρ:Rho):E->An
  | .var i=>(match ρ[i]? with
    |some (Aa (_,Ab))=>Ad
    | _=>Ab)
  |_=>Ab
noncomputable def Hm(ρ:Rho):Es->An
 |.nil=>Ab
 |.cons e es=>shE ρ e&&Hm ρ es
noncomputable def DS:Ac Ag->Ac D->Rho->Aq Rho
 |[],[],ρ=>Aa ρ
 |t::ts,d::ds,ρ=>DS ts ds (ρ.set t (Aa (d,Ad)))
 |_,_,_=>Af
noncomputable def E0(ts:Ac Ag)(d:D)(ρ:Rho):R Rho:=match d with
  | .tup xs=>(match DS ts xs ρ with
    |some ρ'=>.ok ρ'
    | none=>.bad)
  |_=>.bad
noncomputable def FH(ts:Ac Ag)(d:D)(ρ:Rho):R Rho:=match d with
  | .lst xs=>(match DS ts xs ρ with
    |some ρ'=>.ok ρ'
    | none=>.bad)
  |d=>E0 ts d ρ
noncomputable def Be(g:D->R An)(f:D->R D):Ac D->R (Ac D)
 |[]=>.ok []
 |x::xs=>(g x).bind fun b=>if b=Ab then (f x).bind fun y=>(Be g f xs).bind fun ys=>.ok (y::ys) else Be g f xs
noncomputable def noX{α:Type}:R α->R α
 |.ok a=>.ok a
 |_=>.bad
noncomputable def top(ρ:Rho)(e:E)(r:R D):R D:=match e with
  |.var i=>Ej ρ i
  |_=>r
mutual
noncomputable def evE(Γ:Gam)(ρ:Rho):E->R D
 |.non=>.ok .non
 |.bl b=>.ok (.bl b)
 |.int i=>.ok (.int i)
 |.str x=>.ok (.str x)
 |.var i=>DZ ρ i
 |.glob g=>.ok (Γ.G g)
 |.bin op a b=>(top ρ a (evE Γ ρ a)).bind fun x=>(top ρ b (evE Γ ρ b)).bind fun y=>CH op x y
 |.un op a=>(top ρ a (evE Γ ρ a)).bind fun x=>unD op x
 |.no a=>(top ρ a (evE Γ ρ a)).bind fun x=>(Dc x).bind fun b=>.ok (.bl (!b))
 |.and es=>evN Γ ρ es
 |.or es=>evO Γ ρ es
 |.cmp op a b=>(top ρ a (evE Γ ρ a)).bind fun x=>(top ρ b (evE Γ ρ b)).bind fun y=>BN op x y
 |.cmp2 op op' a b c=>(top ρ a (evE Γ ρ a)).bind fun x=>(top ρ b (evE Γ ρ b)).bind fun y=>(BN op x y).bind fun z=>(Dc z).bind fun k=>if k=Ab then (top ρ c (evE Γ ρ c)).bind fun u=>BN op' y u else .ok (.bl Ad)
 |.ite c a b=>(top ρ c (evE Γ ρ c)).bind fun x=>(BS x).bind fun k=>if k=Ab then evE Γ ρ a else evE Γ ρ b
 |.call f as=>(evB Γ ρ as).bind fun xs=>(Γ.F f xs).bind fun d=>if Hm ρ as=Ab then .ok d else if IU (Γ.fr f) d=Ab then .ok d else .bad
 |.bi b as=>(evB Γ ρ as).bind fun xs=>biD b xs
 |.isi a ks=>(top ρ a (evE Γ ρ a)).bind fun x=>FK Γ.up ks x
 |.idx a i=>(top ρ a (evE Γ ρ a)).bind fun x=>(top ρ i (evE Γ ρ i)).bind fun y=>AT x y
 |.sl a lo hi=>(top ρ a (evE Γ ρ a)).bind fun x=>(top ρ lo (evE Γ ρ lo)).bind fun l=>(slE lo l).bind fun l'=>(top ρ hi (evE Γ ρ hi)).bind fun h=>(slE hi h).bind fun h'=>slD x l' h'
 |.tup es=>(evA Γ ρ es).bind fun xs=>.ok (.tup xs)
 |.lst es=>(evA Γ ρ es).bind fun xs=>.ok (.lst xs)
 |.comp elt t it c=>(evI Γ ρ it).bind fun xs=>(noX (Be (fun x=>(top (ρ.set t (Aa (x,Ad))) c (evE Γ (ρ.set t (Aa (x,Ad))) c)).bind BS) (fun x=>evE Γ (ρ.set t (Aa (x,Ad))) elt) xs)).bind fun ys=>.ok (.lst ys)
 |.compT elt ts it c=>(evI Γ ρ it).bind fun xs=>(noX (Be (fun x=>(E0 ts x ρ).bind fun ρ'=>(top ρ' c (evE Γ ρ' c)).bind BS) (fun x=>(E0 ts x ρ).bind fun ρ'=>evE Γ ρ' elt) xs)).bind fun ys=>.ok (.lst ys)
 |.tupI it=>(evI Γ ρ it).bind fun xs=>.ok (.tup xs)
 |.dnew=>.ok (.dic [])
 |.fld o f=>(top ρ o (evE Γ ρ o)).bind fun x=>Rv x f
noncomputable def evN(Γ:Gam)(ρ:Rho):Es->R D
 |.nil=>.bad
 |.cons e .nil=>evE Γ ρ e
 |.cons e (.cons e' es)=>(evE Γ ρ e).bind fun x=>(Dc x).bind fun c=>if c=Ab then evN Γ ρ (.cons e' es) else .ok (.bl Ad)
noncomputable def evO(Γ:Gam)(ρ:Rho):Es->R D
 |.nil=>.bad
 |.cons e .nil=>evE Γ ρ e
 |.cons e (.cons e' es)=>(evE Γ ρ e).bind fun x=>(Dc x).bind fun c=>if c=Ab then .ok (.bl Ab) else evO Γ ρ (.cons e' es)
noncomputable def evA(Γ:Gam)(ρ:Rho):Es->R (Ac D)
 |.nil=>.ok []
 |.cons e es=>(evE Γ ρ e).bind fun x=>(evA Γ ρ es).bind fun xs=>.ok (x::xs)
noncomputable def evB(Γ:Gam)(ρ:Rho):Es->R (Ac D)
 |.nil=>.ok []
 |.cons e es=>(top ρ e (evE Γ ρ e)).bind fun x=>(evB Γ ρ es).bind fun xs=>.ok (x::xs)
noncomputable def evI(Γ:Gam)(ρ:Rho):I->R (Ac D)
 |.e a=>(evE Γ ρ a).bind B9
 |.rng a=>(top ρ a (evE Γ ρ a)).bind fun x=>(Dt x).bind fun j=>B5 0 j
 |.rng2 a b=>(top ρ a (evE Γ ρ a)).bind fun x=>(top ρ b (evE Γ ρ b)).bind fun y=>(Dt x).bind fun i=>(Dt y).bind fun j=>B5 i j
 |.zip a b=>(evE Γ ρ a).bind fun x=>(evE Γ ρ b).bind fun y=>(B9 x).bind fun xs=>(B9 y).bind fun ys=>.ok (C4 xs ys)
 |.zip3 a b c=>(evE Γ ρ a).bind fun x=>(evE Γ ρ b).bind fun y=>(evE Γ ρ c).bind fun z=>QM x y z
 |.enm a=>(evE Γ ρ a).bind fun x=>(B9 x).bind fun xs=>.ok (EF 0 xs)
end
noncomputable def DC(Γ:Gam):E->An
 |.lst _=>Ab
 |.comp _ _ _ _=>Ab
 |.compT _ _ _ _=>Ab
 |.dnew=>Ab
 |.bin .Add _ _=>Ab
 |.bi .list _=>Ab
 |.bi .sorted _=>Ab
 |.sl _ _ _=>Ab
 |.call f _=>Γ.fr f
 |_=>Ad
mutual
inductive S where
 |pass
 /-- x=e;fresh: x alone holds the new list -/
 |asg (i:Ag) (fresh:An) (e:E)
 /-- a,b,..=e -/
 |asgT (ts:Ac Ag) (e:E)
 |expr (e:E)
 |ret (e:E)|retN
 |ife (c:E) (a b:Ss)
 |fors (t:Ag) (it:I) (body:Ss)
 |forT (ts:Ac Ag) (it:I) (body:Ss)
 |whl (c:E) (body:Ss)
 /-- raise C(e,..) -/
 |rais (c:Ag) (as:Es)
 /-- try: body except C as x: h -/
 |tryx (body:Ss) (c:Ag) (x:Ag) (h:Ss)
 /-- x.append(e),x.extend(e),x.insert(k,e),x.reverse(),x.clear() -/
 |app (i:Ag) (e:E)|ext (i:Ag) (e:E)|ins (i:Ag) (k e:E)|rev (i:Ag)|clr (i:Ag)
 /-- d[k]=e,d.setdefault(k,e) -/
 |dput (i:Ag) (k e:E)|dsd (i:Ag) (k e:E)
 /-- x[k]=e -/
 |put (i:Ag) (k e:E)
 /-- x[k],x[l]=x[l],x[k] -/
 |swp (i k l:Ag)
 /-- x.append(y.pop(e)) -/
 |apop (j i:Ag) (e:E)
 |brk|cont
 /-- nothing: from here on x is no longer changed -/
 |rel (i:Ag)
inductive Ss where
 |nil|cons (s:S) (ss:Ss)
end
inductive O where
 |next (ρ:Rho)|ret (d:D) (fr:An)|brk (ρ:Rho)|cont (ρ:Rho)|exn (x:Ex) (ρ:Rho)|bad
 deriving Inhabited
noncomputable def O.of{α:Type}(ρ:Rho)(r:R α)(f:α->O):O:=match r with
  |.ok a=>f a
  |.exn x=>.exn x ρ
  |.bad=>.bad
@[simp]theorem O.of_ok(ρ:Rho)(a:α)(f:α->O):O.of ρ (.ok a) f=f a:=rfl
@[simp]theorem O.of_exn(ρ:Rho)(x:Ex)(f:α->O):O.of ρ (.exn x:R α) f=.exn x ρ:=rfl
@[simp]theorem O.of_bad(ρ:Rho)(f:α->O):O.of ρ (.bad:R α) f=.bad:=rfl
noncomputable def GB(Γ:Gam)(ρ:Rho)(i:I):R (Ac D):=evI Γ ρ i
noncomputable def B7(ρ:Rho)(i:Ag):R (Ac D):=match ρ[i]? with
  |some (Aa (.lst xs,Ab))=>.ok xs
  |_=>.bad
noncomputable def RB(ρ:Rho)(i:Ag):R (Ac (Ac Ae×D)):=match ρ[i]? with
  |some (Aa (.dic xs,Ab))=>.ok xs
  |_=>.bad
noncomputable def Rs(d:D):R (Ac Ae):=match IS d with
  |some k=>.ok k
  |none=>.bad
noncomputable def QZ:Ag:=4096
noncomputable def O.seq(o:O)(f:Rho->O):O:=match o with
  |.next ρ=>f ρ
  |.ret d b=>.ret d b
  |.brk ρ=>.brk ρ
  |.cont ρ=>.cont ρ
  |.exn x ρ=>.exn x ρ
  |.bad=>.bad
noncomputable def O.turn(o:O)(f:Rho->O):O:=match o with
  |.next ρ=>f ρ
  |.cont ρ=>f ρ
  |.brk ρ=>.next ρ
  |.ret d b=>.ret d b
  |.exn x ρ=>.exn x ρ
  |.bad=>.bad
noncomputable def Ci(body:D->Rho->O):Ac D->Rho->O
 |[],ρ=>.next ρ
 |x::xs,ρ=>(body x ρ).turn (Ci body xs)
noncomputable def Nc(c:Rho->R An)(body:Rho->O):Ag->Rho->O
 |0,_=>.bad
 |n+1,ρ=>O.of ρ (c ρ) fun b=>if b=Ab then (body ρ).turn (Nc c body n) else .next ρ
noncomputable def Ge(ρ:Rho)(k:Ag):R Ae:=(DZ ρ k).bind Dt
noncomputable def KW(ρ:Rho)(d:D)(i k l:Ag):O:=match d with
  |.tup [x,y]=>O.of ρ (B7 ρ i) fun xs=>O.of ρ (Ge ρ k) fun a=>O.of ρ (Ge ρ l) fun b=>match plD xs.length a,plD xs.length b with
    |some m,Aa n=>.next (ρ.set i (Aa (.lst ((xs.set m x).set n y),Ab)))
    |_,_=>.bad
  |_=>.bad
noncomputable def apD(ρ:Rho)(j i:Ag)(ys xs:Ac D)(n:Ae):O:=match plD xs.length n with
  | some m=>(match xs[m]? with
    |some d=>if (j != i&&(CB xs.length&&CB (ys.length+1)))=Ab then .next ((ρ.set i (Aa (.lst (xs.eraseIdx m),Ab))).set j (Aa (.lst (ys++[d]),Ab))) else .bad
    | none=>.bad)
  |none=>.bad
mutual
noncomputable def evS(Γ:Gam)(ρ:Rho):S->O
  |.pass=>.next ρ
  | .asg i fresh e=>O.of ρ (evE Γ ρ e) fun d=>if fresh=Ab then (if DC Γ e=Ab then (match d with
      |.lst xs=>.next (ρ.set i (Aa (.lst xs,Ab)))
      |.dic xs=>.next (ρ.set i (Aa (.dic xs,Ab)))
      | _=>.bad) else .bad) else .next (ρ.set i (Aa (d,Ad)))
  |.asgT ts e=>O.of ρ (evE Γ ρ e) fun d=>O.of ρ (FH ts d ρ) fun ρ'=>.next ρ'
  |.expr e=>O.of ρ (evE Γ ρ e) fun _=>.next ρ
  |.ret e=>O.of ρ (top ρ e (evE Γ ρ e)) fun d=>.ret d (DC Γ e||(match e with | .var i=>(match ρ[i]? with|some (Aa (_,o))=>o|_=>Ad)|_=>Ad))
  |.retN=>.ret .non Ad
  |.ife c a b=>O.of ρ ((top ρ c (evE Γ ρ c)).bind BS) fun k=>if k=Ab then evSs Γ ρ a else evSs Γ ρ b
  |.fors t it body=>O.of ρ (GB Γ ρ it) fun xs=>Ci (fun x ρ'=>evSs Γ (ρ'.set t (Aa (x,Ad))) body) xs ρ
  |.forT ts it body=>O.of ρ (GB Γ ρ it) fun xs=>Ci (fun x ρ'=>O.of ρ' (E0 ts x ρ') fun ρ''=>evSs Γ ρ'' body) xs ρ
  |.whl c body=>Nc (fun ρ'=>(top ρ' c (evE Γ ρ' c)).bind BS) (fun ρ'=>evSs Γ ρ' body) QZ ρ
  |.rais c as=>O.of ρ (noX (evA Γ ρ as)) fun xs=>O.of ρ (Γ.xn c xs) fun x=>.exn x ρ
  |.tryx body c x h=>match evSs Γ ρ body with
      | .exn y ρ'=>if (Γ.up y.c).contains c=Ab then (match evSs Γ (ρ'.set x (Aa (.exc y.c y.fs,Ad))) h with
          |.next ρ''=>.next (ρ''.set x Af)
          |.ret d f=>.ret d f
          | _=>.bad) else .bad
      |o=>o
  |.app i e=>O.of ρ (B7 ρ i) fun xs=>O.of ρ (evE Γ ρ e) fun d=>if CB (xs.length+1)=Ab then .next (ρ.set i (Aa (.lst (xs++[d]),Ab))) else .bad
  |.ext i e=>O.of ρ (B7 ρ i) fun xs=>O.of ρ (evE Γ ρ e) fun d=>O.of ρ (Na d) fun ys=>if CB (xs.length+ys.length)=Ab then .next (ρ.set i (Aa (.lst (xs++ys),Ab))) else .bad
  |.ins i k e=>O.of ρ (B7 ρ i) fun xs=>O.of ρ ((top ρ k (evE Γ ρ k)).bind Dt) fun j=>O.of ρ (evE Γ ρ e) fun d=>if (CB (xs.length+1)&&decide (0<=j)&&decide (j<=xs.length))=Ab then .next (ρ.set i (Aa (.lst (xs.take j.toNat++d::xs.drop j.toNat),Ab))) else .bad
  |.rev i=>O.of ρ (B7 ρ i) fun xs=>.next (ρ.set i (Aa (.lst xs.reverse,Ab)))
  |.clr i=>O.of ρ (B7 ρ i) fun _=>.next (ρ.set i (Aa (.lst [],Ab)))
  |.dput i k e=>O.of ρ (evE Γ ρ e) fun d=>O.of ρ (RB ρ i) fun xs=>O.of ρ ((evE Γ ρ k).bind Rs) fun j=>if CB (xs.length+1)=Ab then .next (ρ.set i (Aa (.dic (Qu xs j d),Ab))) else .bad
  |.dsd i k e=>O.of ρ (RB ρ i) fun xs=>O.of ρ ((evE Γ ρ k).bind Rs) fun j=>O.of ρ (evE Γ ρ e) fun d=>if CB (xs.length+1)=Ab then .next (ρ.set i (Aa (.dic (if (xs.any fun p=>p.1==j)=Ab then xs else Qu xs j d),Ab))) else .bad
  |.put i k e=>O.of ρ (evE Γ ρ e) fun d=>O.of ρ (B7 ρ i) fun xs=>O.of ρ ((top ρ k (evE Γ ρ k)).bind Dt) fun j=>match plD xs.length j with
      |some n=>.next (ρ.set i (Aa (.lst (xs.set n d),Ab)))
      |none=>.bad
  |.swp i k l=>O.of ρ (evE Γ ρ (.tup (.cons (.idx (.var i) (.var l)) (.cons (.idx (.var i) (.var k)) .nil)))) fun d=>KW ρ d i k l
  |.apop j i e=>O.of ρ (B7 ρ j) fun ys=>O.of ρ (B7 ρ i) fun xs=>O.of ρ (evE Γ ρ e) fun d=>O.of ρ (Dt d) fun n=>apD ρ j i ys xs n
  |.brk=>.brk ρ
  |.cont=>.cont ρ
  |.rel i=>match ρ[i]? with
      |some (Aa (d,Ab))=>.next (ρ.set i (Aa (d,Ad)))
      |_=>.next ρ
noncomputable def evSs(Γ:Gam)(ρ:Rho):Ss->O
 |.nil=>.next ρ
 |.cons s ss=>(evS Γ ρ s).seq fun ρ'=>evSs Γ ρ' ss
end
structure Df where
 n:Ag
 fr:An
 body:Ss
noncomputable def Bw(n:Ag)(ds:Ac D):Rho:=ds.map (fun d=>Aa (d,Ad))++SM (n-ds.length) Af
noncomputable def isL:D->An
 |.lst _=>Ab
 |.dic _=>Ab
 |_=>Ad
noncomputable def O.ans(fr:An)(o:O):R D:=match o with
  |.ret d b=>if (fr&&(!b&&isL d))=Ab then .bad else .ok d
  |.next _=>if fr=Ab then .bad else .ok .non
  |.exn x _=>.exn x
  |_=>.bad
noncomputable def Df.run(Γ:Gam)(f:Df)(ds:Ac D):R D:=(evSs Γ (Bw f.n ds) f.body).ans f.fr
structure Prg where
 xs:An
 defs:Ag->Df
 G:Ag->D
 up:Ag->Ac Ag
 xn:Ag->Ac D->R Ex
noncomputable def En(xs:An)(r:R D):R D:=match xs with
  | true=>(match r with
    |.exn x=>if x.fs.isEmpty=Ab then .exn x else .bad
    | r=>r)
  |false=>noX r
noncomputable def gam(P:Prg):Ag->Gam
 |0=>⟨fun _ _=>.bad,P.G,P.up,fun i=>(P.defs i).fr,P.xn⟩
 |n+1=>⟨fun i ds=>En P.xs ((P.defs i).run (gam P n) ds),P.G,P.up,fun i=>(P.defs i).fr,P.xn⟩
end Ov
end
section
namespace Ov
open PySem
variable{α:Type}{lo hi:Ae}{n:Ag}{x:D}
section
variable(Γ:Gam)(ρ:Rho)
@[simp]theorem Zve:evE Γ ρ .non=.ok .non:=rfl
@[simp]theorem Zxa(b):evE Γ ρ (.bl b)=.ok (.bl b):=rfl
@[simp]theorem Zvi(b):evE Γ ρ (.int b)=.ok (.int b):=rfl
@[simp]theorem Zvd(b):evE Γ ρ (.str b)=.ok (.str b):=rfl
@[simp]theorem Zvb(i):evE Γ ρ (.var i)=DZ ρ i:=rfl
@[simp]theorem ZrQ(i):evE Γ ρ (.glob i)=.ok (Γ.G i):=rfl
@[simp]theorem Zvm(op a b):evE Γ ρ (.bin op a b)=(top ρ a (evE Γ ρ a)).bind fun x=>(top ρ b (evE Γ ρ b)).bind fun y=>CH op x y:=rfl
@[simp]theorem Zw6(op a):evE Γ ρ (.un op a)=(top ρ a (evE Γ ρ a)).bind fun x=>unD op x:=rfl
@[simp]theorem Zw9(a):evE Γ ρ (.no a)=(top ρ a (evE Γ ρ a)).bind fun x=>(Dc x).bind fun b=>.ok (.bl (!b)):=rfl
@[simp]theorem Zvn(es):evE Γ ρ (.and es)=evN Γ ρ es:=rfl
@[simp]theorem Zw8(es):evE Γ ρ (.or es)=evO Γ ρ es:=rfl
@[simp]theorem Zu7(e):evN Γ ρ (.cons e .nil)=evE Γ ρ e:=rfl
@[simp]theorem ZrL(e e' es):evN Γ ρ (.cons e (.cons e' es))=(evE Γ ρ e).bind fun x=>(Dc x).bind fun c=>if c=Ab then evN Γ ρ (.cons e' es) else .ok (.bl Ad):=rfl
@[simp]theorem Zu6(e):evO Γ ρ (.cons e .nil)=evE Γ ρ e:=rfl
@[simp]theorem ZrK(e e' es):evO Γ ρ (.cons e (.cons e' es))=(evE Γ ρ e).bind fun x=>(Dc x).bind fun c=>if c=Ab then .ok (.bl Ab) else evO Γ ρ (.cons e' es):=rfl
@[simp]theorem Zvl(op a b):evE Γ ρ (.cmp op a b)=(top ρ a (evE Γ ρ a)).bind fun x=>(top ρ b (evE Γ ρ b)).bind fun y=>BN op x y:=rfl
@[simp]theorem ZrT(op op' a b c):evE Γ ρ (.cmp2 op op' a b c)=(top ρ a (evE Γ ρ a)).bind fun x=>(top ρ b (evE Γ ρ b)).bind fun y=>(BN op x y).bind fun z=>(Dc z).bind fun k=>if k=Ab then (top ρ c (evE Γ ρ c)).bind fun u=>BN op' y u else .ok (.bl Ad):=rfl
@[simp]theorem Zvg(c a b):evE Γ ρ (.ite c a b)=(top ρ c (evE Γ ρ c)).bind fun x=>(BS x).bind fun k=>if k=Ab then evE Γ ρ a else evE Γ ρ b:=rfl
@[simp]theorem ZrU(f as):evE Γ ρ (.call f as)=(evB Γ ρ as).bind fun xs=>(Γ.F f xs).bind fun d=>if Hm ρ as=Ab then .ok d else if IU (Γ.fr f) d=Ab then .ok d else .bad:=rfl
@[simp]theorem Qs(f as):evE Γ ρ (.bi f as)=(evB Γ ρ as).bind fun xs=>biD f xs:=rfl
@[simp]theorem Zvh(a ks):evE Γ ρ (.isi a ks)=(top ρ a (evE Γ ρ a)).bind fun x=>FK Γ.up ks x:=rfl
@[simp]theorem Zvj(a i):evE Γ ρ (.idx a i)=(top ρ a (evE Γ ρ a)).bind fun x=>(top ρ i (evE Γ ρ i)).bind fun y=>AT x y:=rfl
@[simp]theorem Zw7(a lo hi):evE Γ ρ (.sl a lo hi)=(top ρ a (evE Γ ρ a)).bind fun x=>(top ρ lo (evE Γ ρ lo)).bind fun l=>(slE lo l).bind fun l'=>(top ρ hi (evE Γ ρ hi)).bind fun h=>(slE hi h).bind fun h'=>slD x l' h':=rfl
@[simp]theorem Zvc(es):evE Γ ρ (.tup es)=(evA Γ ρ es).bind fun xs=>.ok (.tup xs):=rfl
@[simp]theorem Zvf(es):evE Γ ρ (.lst es)=(evA Γ ρ es).bind fun xs=>.ok (.lst xs):=rfl
noncomputable def cG(Γ:Gam)(ρ:Rho)(t:Ag)(c:E):D->R An:=fun x=>(top (ρ.set t (Aa (x,Ad))) c (evE Γ (ρ.set t (Aa (x,Ad))) c)).bind BS
noncomputable def cF(Γ:Gam)(ρ:Rho)(t:Ag)(elt:E):D->R D:=fun x=>evE Γ (ρ.set t (Aa (x,Ad))) elt
noncomputable def mkL(r:R (Ac D)):R D:=(noX r).bind fun ys=>.ok (.lst ys)
@[simp]theorem ZwI(ys):mkL (.ok ys)=.ok (.lst ys):=rfl
@[simp]theorem ZrS(elt t it c):evE Γ ρ (.comp elt t it c)=(evI Γ ρ it).bind fun xs=>mkL (Be (cG Γ ρ t c) (cF Γ ρ t elt) xs):=rfl
noncomputable def cGT(Γ:Gam)(ρ:Rho)(ts:Ac Ag)(c:E):D->R An:=fun x=>(E0 ts x ρ).bind fun ρ'=>(top ρ' c (evE Γ ρ' c)).bind BS
noncomputable def cFT(Γ:Gam)(ρ:Rho)(ts:Ac Ag)(elt:E):D->R D:=fun x=>(E0 ts x ρ).bind fun ρ'=>evE Γ ρ' elt
@[simp]theorem ZpW(elt ts it c):evE Γ ρ (.compT elt ts it c)=(evI Γ ρ it).bind fun xs=>mkL (Be (cGT Γ ρ ts c) (cFT Γ ρ ts elt) xs):=rfl
@[simp]theorem Vx(it):evE Γ ρ (.tupI it)=(evI Γ ρ it).bind fun xs=>.ok (.tup xs):=rfl
@[simp]theorem ZrR:evE Γ ρ .dnew=.ok (.dic []):=rfl
@[simp]theorem Zvk(o f):evE Γ ρ (.fld o f)=(top ρ o (evE Γ ρ o)).bind fun x=>Rv x f:=rfl
@[simp]theorem Zvp:evA Γ ρ .nil=.ok []:=rfl
@[simp]theorem OC(e es):evA Γ ρ (.cons e es)=(evE Γ ρ e).bind fun x=>(evA Γ ρ es).bind fun xs=>.ok (x::xs):=rfl
@[simp]theorem Zvo:evB Γ ρ .nil=.ok []:=rfl
@[simp]theorem O1(e es):evB Γ ρ (.cons e es)=(top ρ e (evE Γ ρ e)).bind fun x=>(evB Γ ρ es).bind fun xs=>.ok (x::xs):=rfl
@[simp]theorem Zyc(a):evI Γ ρ (.e a)=(evE Γ ρ a).bind B9:=rfl
@[simp]theorem Zu9(a):evI Γ ρ (.rng a)=(top ρ a (evE Γ ρ a)).bind fun x=>(Dt x).bind fun j=>B5 0 j:=rfl
@[simp]theorem Vw(a b):evI Γ ρ (.rng2 a b)=(top ρ a (evE Γ ρ a)).bind fun x=>(top ρ b (evE Γ ρ b)).bind fun y=>(Dt x).bind fun i=>(Dt y).bind fun j=>B5 i j:=rfl
@[simp]theorem Zu8(a b):evI Γ ρ (.zip a b)=(evE Γ ρ a).bind fun x=>(evE Γ ρ b).bind fun y=>(B9 x).bind fun xs=>(B9 y).bind fun ys=>.ok (C4 xs ys):=rfl
@[simp]theorem ZrP(a b c):evI Γ ρ (.zip3 a b c)=(evE Γ ρ a).bind fun x=>(evE Γ ρ b).bind fun y=>(evE Γ ρ c).bind fun z=>QM x y z:=rfl
@[simp]theorem Zva(a):evI Γ ρ (.enm a)=(evE Γ ρ a).bind fun x=>(B9 x).bind fun xs=>.ok (EF 0 xs):=rfl
@[simp]theorem ZrM(a b):GB Γ ρ (.zip a b)=evI Γ ρ (.zip a b):=rfl
@[simp]theorem ZpU(a b c):GB Γ ρ (.zip3 a b c)=evI Γ ρ (.zip3 a b c):=rfl
@[simp]theorem ZrO(a):GB Γ ρ (.enm a)=evI Γ ρ (.enm a):=rfl
@[simp]theorem Zw5(a):GB Γ ρ (.e a)=(evE Γ ρ a).bind B9:=rfl
@[simp]theorem ZrN(a):GB Γ ρ (.rng a)=evI Γ ρ (.rng a):=rfl
@[simp]theorem ZpV(a b):GB Γ ρ (.rng2 a b)=evI Γ ρ (.rng2 a b):=rfl
variable(r:R D)
@[simp]theorem Zse(i):top ρ (.var i) r=Ej ρ i:=rfl
@[simp]theorem Zsh:top ρ .non r=r:=rfl
@[simp]theorem Zwd(b):top ρ (.bl b) r=r:=rfl
@[simp]theorem Zsl(b):top ρ (.int b) r=r:=rfl
@[simp]theorem Zsg(b):top ρ (.str b) r=r:=rfl
@[simp]theorem Zq5(b):top ρ (.glob b) r=r:=rfl
@[simp]theorem Zsp(op a b):top ρ (.bin op a b) r=r:=rfl
@[simp]theorem Zv9(op a):top ρ (.un op a) r=r:=rfl
@[simp]theorem Zwc(a):top ρ (.no a) r=r:=rfl
@[simp]theorem Zsq(a):top ρ (.and a) r=r:=rfl
@[simp]theorem Zwb(a):top ρ (.or a) r=r:=rfl
@[simp]theorem Zso(op a b):top ρ (.cmp op a b) r=r:=rfl
@[simp]theorem Zq8(op op' a b c):top ρ (.cmp2 op op' a b c) r=r:=rfl
@[simp]theorem Zsj(a b c):top ρ (.ite a b c) r=r:=rfl
@[simp]theorem Zq9(a b):top ρ (.call a b) r=r:=rfl
@[simp]theorem Zwe(a b):top ρ (.bi a b) r=r:=rfl
@[simp]theorem Zsk(a b):top ρ (.isi a b) r=r:=rfl
@[simp]theorem Zsm(a b):top ρ (.idx a b) r=r:=rfl
@[simp]theorem Zwa(a b c):top ρ (.sl a b c) r=r:=rfl
@[simp]theorem Zsf(a):top ρ (.tup a) r=r:=rfl
@[simp]theorem Zsi(a):top ρ (.lst a) r=r:=rfl
@[simp]theorem Zq7(a b c d):top ρ (.comp a b c d) r=r:=rfl
@[simp]theorem Zsn(a b):top ρ (.fld a b) r=r:=rfl
@[simp]theorem Znz(a b c d):top ρ (.compT a b c d) r=r:=rfl
@[simp]theorem Va(a):top ρ (.tupI a) r=r:=rfl
@[simp]theorem Zq6:top ρ .dnew r=r:=rfl
end
@[simp]theorem Znp(x:D×An)(ρ:Rho):Ej (Aa x::ρ) 0=.ok x.1:=rfl
@[simp]theorem Znq(x:D)(ρ:Rho):DZ (Aa (x,Ad)::ρ) 0=.ok x:=rfl
@[simp]theorem Zm1(x:Sl)(ρ:Rho)(i:Ag)[NeZero i]:Ej (x::ρ) i=Ej ρ (i-1):=by
 obtain⟨j,rfl⟩:∃ j,i=j+1:=⟨i-1,by have:=IW i;omega⟩
 rfl
@[simp]theorem Zm2(x:Sl)(ρ:Rho)(i:Ag)[NeZero i]:DZ (x::ρ) i=DZ ρ (i-1):=by
 obtain⟨j,rfl⟩:∃ j,i=j+1:=⟨i-1,by have:=IW i;omega⟩
 rfl
noncomputable def shV(ρ:Rho)(i:Ag):An:=match ρ[i]? with
    |some (Aa (_,Ab))=>Ad
    |_=>Ab
@[simp]theorem Zrd(x:D)(b:An)(ρ:Rho):shV (Aa (x,b)::ρ) 0=!b:=by cases b<;>rfl
@[simp]theorem ZnX(ρ:Rho):shV (Af::ρ) 0=Ab:=rfl
@[simp]theorem ZnY(x:Sl)(ρ:Rho)(i:Ag)[NeZero i]:shV (x::ρ) i=shV ρ (i-1):=by
 obtain⟨j,rfl⟩:∃ j,i=j+1:=⟨i-1,by have:=IW i;omega⟩
 rfl
section
variable(ρ:Rho)
@[simp]theorem ZsQ(i):shE ρ (.var i)=shV ρ i:=rfl
@[simp]theorem ZsT:shE ρ .non=Ab:=rfl
@[simp]theorem Zwt(b):shE ρ (.bl b)=Ab:=rfl
@[simp]theorem ZsX(b):shE ρ (.int b)=Ab:=rfl
@[simp]theorem ZsS(b):shE ρ (.str b)=Ab:=rfl
@[simp]theorem Zrg(b):shE ρ (.glob b)=Ab:=rfl
@[simp]theorem Zs1(op a b):shE ρ (.bin op a b)=Ab:=rfl
@[simp]theorem Zwp(op a):shE ρ (.un op a)=Ab:=rfl
@[simp]theorem Zws(a):shE ρ (.no a)=Ab:=rfl
@[simp]theorem Zs2(a):shE ρ (.and a)=Ab:=rfl
@[simp]theorem Zwr(a):shE ρ (.or a)=Ab:=rfl
@[simp]theorem Zs0(op a b):shE ρ (.cmp op a b)=Ab:=rfl
@[simp]theorem Zrj(op op' a b c):shE ρ (.cmp2 op op' a b c)=Ab:=rfl
@[simp]theorem ZsV(a b c):shE ρ (.ite a b c)=Ab:=rfl
@[simp]theorem Zrk(a b):shE ρ (.call a b)=Ab:=rfl
@[simp]theorem Zwu(a b):shE ρ (.bi a b)=Ab:=rfl
@[simp]theorem ZsW(a b):shE ρ (.isi a b)=Ab:=rfl
@[simp]theorem ZsY(a b):shE ρ (.idx a b)=Ab:=rfl
@[simp]theorem Zwq(a b c):shE ρ (.sl a b c)=Ab:=rfl
@[simp]theorem ZsR(a):shE ρ (.tup a)=Ab:=rfl
@[simp]theorem ZsU(a):shE ρ (.lst a)=Ab:=rfl
@[simp]theorem Zri(a b c d):shE ρ (.comp a b c d)=Ab:=rfl
@[simp]theorem ZnZ(a b c d):shE ρ (.compT a b c d)=Ab:=rfl
@[simp]theorem Zrf(a):shE ρ (.tupI a)=Ab:=rfl
@[simp]theorem Zrh:shE ρ .dnew=Ab:=rfl
@[simp]theorem ZsZ(a b):shE ρ (.fld a b)=Ab:=rfl
@[simp]theorem Zre:Hm ρ .nil=Ab:=rfl
@[simp]theorem U0(e es):Hm ρ (.cons e es)=(shE ρ e&&Hm ρ es):=rfl
end
@[simp]theorem Zm8(ρ:Rho):DS [] [] ρ=Aa ρ:=rfl
@[simp]theorem Zk6(t ts d ds)(ρ:Rho):DS (t::ts) (d::ds) ρ=DS ts ds (ρ.set t (Aa (d,Ad))):=rfl
@[simp]theorem Vg(ts ds)(ρ:Rho):FH ts (.lst ds) ρ=match DS ts ds ρ with
  |some ρ'=>.ok ρ'
  |none=>.bad:=rfl
@[simp]theorem Zqu(ts ds)(ρ:Rho):FH ts (.tup ds) ρ=E0 ts (.tup ds) ρ:=rfl
@[simp]theorem Oa(ts ds)(ρ:Rho):E0 ts (.tup ds) ρ=match DS ts ds ρ with
  |some ρ'=>.ok ρ'
  |none=>.bad:=rfl
@[simp]theorem Zr2{β:Type}(c:Prop)[EH c](a b:R α)(f:α->R β):(if c then a else b).bind f=if c then a.bind f else b.bind f:=by split<;>rfl
@[simp]theorem ZwG(ρ:Rho)(c:Prop)[EH c](a b:R α)(f:α->O):O.of ρ (if c then a else b) f=if c then O.of ρ a f else O.of ρ b f:=by split<;>rfl
@[simp]theorem Zue{β:Type}(ρ:Rho)(a:R α)(g:α->R β)(f:β->O):O.of ρ (a.bind g) f=O.of ρ a fun x=>O.of ρ (g x) f:=by cases a<;>rfl
@[simp]theorem Zs4(c:Prop)[EH c](a b:O)(f:Rho->O):O.seq (if c then a else b) f=if c then a.seq f else b.seq f:=by split<;>rfl
@[simp]theorem ZqV(c:Prop)[EH c](a b:O)(f:Rho->O):O.turn (if c then a else b) f=if c then a.turn f else b.turn f:=by split<;>rfl
@[simp]theorem ZvQ(fr:An)(c:Prop)[EH c](a b:O):O.ans fr (if c then a else b)=if c then a.ans fr else b.ans fr:=by split<;>rfl
@[simp]theorem Zrl(ρ f):O.seq (.next ρ) f=f ρ:=rfl
@[simp]theorem Zs3(d b f):O.seq (.ret d b) f=.ret d b:=rfl
@[simp]theorem Zs6(ρ f):O.seq (.brk ρ) f=.brk ρ:=rfl
@[simp]theorem Zrm(ρ f):O.seq (.cont ρ) f=.cont ρ:=rfl
@[simp]theorem Zs5(x ρ f):O.seq (.exn x ρ) f=.exn x ρ:=rfl
@[simp]theorem Zs7(f):O.seq .bad f=.bad:=rfl
@[simp]theorem Znv(ρ f):O.turn (.next ρ) f=f ρ:=rfl
@[simp]theorem ZqU(d b f):O.turn (.ret d b) f=.ret d b:=rfl
@[simp]theorem ZqX(ρ f):O.turn (.brk ρ) f=.next ρ:=rfl
@[simp]theorem Znw(ρ f):O.turn (.cont ρ) f=f ρ:=rfl
@[simp]theorem ZqW(x ρ f):O.turn (.exn x ρ) f=.exn x ρ:=rfl
@[simp]theorem ZqY(f):O.turn .bad f=.bad:=rfl
@[simp]theorem Zr4(ρ):O.ans Ad (.next ρ)=.ok .non:=rfl
@[simp]theorem ZvP(d b):O.ans Ad (.ret d b)=.ok d:=rfl
@[simp]theorem Zr3(d b):O.ans Ab (.ret d b)=if (!b&&isL d)=Ab then .bad else .ok d:=rfl
@[simp]theorem ZuE(d):isL (.lst d)=Ab:=rfl
@[simp]theorem ZuD(d):isL (.tup d)=Ad:=rfl
@[simp]theorem ZuF(d):isL (.int d)=Ad:=rfl
@[simp]theorem ZvR(fr x ρ):O.ans fr (.exn x ρ)=.exn x:=rfl
@[simp]theorem ZvS(fr):O.ans fr .bad=.bad:=rfl
@[simp]theorem Zxk(i j:Ae):CH .Add (.int i) (.int j)=.ok (.int (i+j)):=rfl
@[simp]theorem Zwk(i j:Ae):CH .Sub (.int i) (.int j)=.ok (.int (i-j)):=rfl
@[simp]theorem aA(i j:Ae):CH .Mult (.int i) (.int j)=if (Du i j||DO i j)=Ab then .ok (.int (i*j)) else .bad:=rfl
@[simp]theorem XX(i j:Ae):CH .FloorDiv (.int i) (.int j)=if 0<j/\j<1073741824 then .ok (.int (i / j)) else .bad:=rfl
@[simp]theorem aC(i j:Ae):CH .Mod (.int i) (.int j)=if 0<j then .ok (.int (i%j)) else .bad:=rfl
@[simp]theorem Y9(i j:Ae):CH .Pow (.int i) (.int j)=if (0<=j/\j<=1000000)/\(-(18446744073709551616:Ae)<i/\i<18446744073709551616) then .ok (.int (i ^ j.toNat)) else .bad:=rfl
@[simp]theorem aO(x y:Ah):CH .Add (.str x) (.str y)=if CB (x.length+y.length)=Ab then .ok (.str (x++y)) else .bad:=rfl
@[simp]theorem MN(x y:Ac D):CH .Add (.lst x) (.lst y)=if CB (x.length+y.length)=Ab then .ok (.lst (x++y)) else .bad:=rfl
@[simp]theorem aN(x y:Ac D):CH .Add (.tup x) (.tup y)=if (!x.isEmpty&&CB (x.length+y.length))=Ab then .ok (.tup (x++y)) else .bad:=rfl
@[simp]theorem ZxR(i:Ae):unD .USub (.int i)=.ok (.int (-i)):=rfl
@[simp]theorem gZ(x y:D):BN .Eq x y=if (flD 5 x&&flD 5 y)=Ab then .ok (.bl (eqD x y)) else .bad:=rfl
@[simp]theorem fX(x y:D):BN .NotEq x y=if (flD 5 x&&flD 5 y)=Ab then .ok (.bl (!eqD x y)) else .bad:=rfl
@[simp]theorem ZxS(i j:Ae):BN .Lt (.int i) (.int j)=.ok (.bl (decide (i<j))):=rfl
@[simp]theorem ZxV(i j:Ae):BN .LtE (.int i) (.int j)=.ok (.bl (decide (i<=j))):=rfl
@[simp]theorem Zx5(i j:Ae):BN .Gt (.int i) (.int j)=.ok (.bl (decide (j<i))):=rfl
@[simp]theorem Zx6(i j:Ae):BN .GtE (.int i) (.int j)=.ok (.bl (decide (j<=i))):=rfl
@[simp]theorem iB(x:D)(ys:Ac D):BN .In x (.lst ys)=if (flD 5 x&&ys.all (flD 5))=Ab then .ok (.bl (ys.any fun y=>eqD y x)) else .bad:=rfl
@[simp]theorem iA(x:D)(ys:Ac D):BN .In x (.tup ys)=if (flD 5 x&&ys.all (flD 5))=Ab then .ok (.bl (ys.any fun y=>eqD y x)) else .bad:=rfl
@[simp]theorem fV(x:D)(ys:Ac D):BN .NotIn x (.lst ys)=if (flD 5 x&&ys.all (flD 5))=Ab then .ok (.bl (!ys.any fun y=>eqD y x)) else .bad:=rfl
@[simp]theorem fU(x:D)(ys:Ac D):BN .NotIn x (.tup ys)=if (flD 5 x&&ys.all (flD 5))=Ab then .ok (.bl (!ys.any fun y=>eqD y x)) else .bad:=rfl
@[simp]theorem ZwS:BN .Is .non .non=.ok (.bl Ab):=rfl
@[simp]theorem ZwU(i):BN .Is (.int i) .non=.ok (.bl Ad):=rfl
@[simp]theorem ZwR(i):BN .Is (.tup i) .non=.ok (.bl Ad):=rfl
@[simp]theorem ZwT(i):BN .Is (.lst i) .non=.ok (.bl Ad):=rfl
@[simp]theorem ZxY(a b):BN .Is (.bl a) (.bl b)=.ok (.bl (a==b)):=rfl
@[simp]theorem ZwP(a b):BN .IsNot (.bl a) (.bl b)=.ok (.bl (!(a==b))):=rfl
@[simp]theorem Zut:BN .IsNot .non .non=.ok (.bl Ad):=rfl
@[simp]theorem Zuv(i):BN .IsNot (.int i) .non=.ok (.bl Ab):=rfl
@[simp]theorem Zus(i):BN .IsNot (.tup i) .non=.ok (.bl Ab):=rfl
@[simp]theorem Zuu(i):BN .IsNot (.lst i) .non=.ok (.bl Ab):=rfl
@[simp]theorem Zvy(i j:Ae):eqD (.int i) (.int j)=(i==j):=rfl
@[simp]theorem Zxb(i j:An):eqD (.bl i) (.bl j)=(i==j):=rfl
@[simp]theorem Zvv(i j:Ah):eqD (.str i) (.str j)=(i==j):=rfl
@[simp]theorem Zvu(i j:Ac D):eqD (.tup i) (.tup j)=eqDs i j:=rfl
@[simp]theorem Zvx(i j:Ac D):eqD (.lst i) (.lst j)=eqDs i j:=rfl
@[simp]theorem Zvw:eqD .non .non=Ab:=rfl
@[simp]theorem Zmi(i):eqD .non (.int i)=Ad:=rfl
@[simp]theorem Zmj(i):eqD (.int i) .non=Ad:=rfl
@[simp]theorem ZrV:eqDs [] []=Ab:=rfl
@[simp]theorem Lz(x y:D)(xs ys:Ac D):eqDs (x::xs) (y::ys)=(eqD x y&&eqDs xs ys):=rfl
@[simp]theorem ZuV(n)(i:Ae):flD n (.int i)=Ab:=by cases n<;>rfl
@[simp]theorem Zw4(n)(i:An):flD n (.bl i)=Ab:=by cases n<;>rfl
@[simp]theorem ZuT(n)(i:Ah):flD n (.str i)=Ab:=by cases n<;>rfl
@[simp]theorem ZuU(n):flD n .non=Ab:=by cases n<;>rfl
@[simp]theorem Zrq(i):flD 5 (.tup i)=i.all (flD 4):=rfl
@[simp]theorem Zrv(i):flD 5 (.lst i)=i.all (flD 4):=rfl
@[simp]theorem Zrr(i):flD 4 (.tup i)=i.all (flD 3):=rfl
@[simp]theorem Zrw(i):flD 4 (.lst i)=i.all (flD 3):=rfl
@[simp]theorem Zrs(i):flD 3 (.tup i)=i.all (flD 2):=rfl
@[simp]theorem Zrx(i):flD 3 (.lst i)=i.all (flD 2):=rfl
@[simp]theorem Zrt(i):flD 2 (.tup i)=i.all (flD 1):=rfl
@[simp]theorem Zry(i):flD 2 (.lst i)=i.all (flD 1):=rfl
@[simp]theorem Zru(i):flD 1 (.tup i)=i.all (flD 0):=rfl
@[simp]theorem Zrz(i):flD 1 (.lst i)=i.all (flD 0):=rfl
@[simp]theorem Zsc(b):BS (.bl b)=.ok b:=rfl
@[simp]theorem Zq2(i):BS (.int i)=.ok (i != 0):=rfl
@[simp]theorem Zq1(i):BS (.lst i)=.ok (!i.isEmpty):=rfl
@[simp]theorem ZqZ(i):BS (.tup i)=.ok (!i.isEmpty):=rfl
@[simp]theorem Zq0:BS .non=.ok Ad:=rfl
@[simp]theorem Zsd(b):DB (.bl b)=.ok b:=rfl
@[simp]theorem Zq4(i):DB (.int i)=.ok (i != 0):=rfl
@[simp]theorem Zq3:DB .non=.ok Ad:=rfl
@[simp]theorem ZqG:FI []=.ok Ab:=rfl
@[simp]theorem Od(x r):FI (x::r)=(DB x).bind fun b=>(FI r).bind fun c=>.ok (b&&c):=rfl
@[simp]theorem ZqF:DU []=.ok Ad:=rfl
@[simp]theorem Oc(x r):DU (x::r)=(DB x).bind fun b=>(DU r).bind fun c=>.ok (b||c):=rfl
@[simp]theorem ZvG(b)(d):En b (.ok d)=.ok d:=by cases b<;>rfl
@[simp]theorem ZrX(b):En b .bad=.bad:=by cases b<;>rfl
@[simp]theorem ZrW(c):En Ab (.exn ⟨c,[]⟩)=.exn ⟨c,[]⟩:=rfl
@[simp]theorem Znh(r):En Ad r=noX r:=rfl
@[simp]theorem Zuf(a:α):noX (.ok a)=.ok a:=rfl
@[simp]theorem Zuh:noX (.bad:R α)=.bad:=rfl
@[simp]theorem Zug(x):noX (.exn x:R α)=.bad:=rfl
@[simp]theorem ZvN(b):Dc (.bl b)=.ok b:=rfl
@[simp]theorem OA(b):Dt (.int b)=.ok b:=rfl
@[simp]theorem Zqy(b):Na (.lst b)=.ok b:=rfl
@[simp]theorem Zqx(b):B9 (.lst b)=.ok b:=rfl
@[simp]theorem Zqw(b):B9 (.tup b)=.ok b:=rfl
@[simp]theorem fH(xs i):AT (.lst xs) (.int i)=Dk xs i:=rfl
@[simp]theorem fG(xs i):AT (.tup xs) (.int i)=Dk xs i:=rfl
@[simp]theorem ZxU(xs):biD .len [.lst xs]=.ok (.int xs.length):=rfl
@[simp]theorem ZxT(xs):biD .len [.tup xs]=.ok (.int xs.length):=rfl
@[simp]theorem Zyj(i):biD .abs [.int i]=.ok (.int (if i<0 then -i else i)):=rfl
@[simp]theorem ZwK(i j):biD .max [.int i,.int j]=.ok (.int (if i<j then j else i)):=rfl
@[simp]theorem ZwJ(i j):biD .min [.int i,.int j]=.ok (.int (if j<i then j else i)):=rfl
@[simp]theorem ZxZ(i):biD .int [.int i]=.ok (.int i):=rfl
@[simp]theorem Zx0(i):biD .int [.bl i]=.ok (.int (b2i i)):=rfl
@[simp]theorem ZwO(i):biD .list [.lst i]=.ok (.lst i):=rfl
@[simp]theorem aE(i):biD .list [.tup i]=.ok (.lst i):=rfl
@[simp]theorem Zsb(i):biD .tuple [.lst i]=.ok (.tup i):=rfl
@[simp]theorem Zsa(i):biD .tuple [.tup i]=.ok (.tup i):=rfl
@[simp]theorem gT(i):biD .all [.lst i]=(FI i).bind fun b=>.ok (.bl b):=rfl
@[simp]theorem Zyi(i):biD .any [.lst i]=(DU i).bind fun b=>.ok (.bl b):=rfl
@[simp]theorem Zyh(i):biD .any [.tup i]=(DU i).bind fun b=>.ok (.bl b):=rfl
@[simp]theorem ZxG(i):biD .sum [.lst i]=(Fk 0 i).bind fun b=>.ok (.int b):=rfl
@[simp]theorem ZxF(i):biD .sum [.tup i]=(Fk 0 i).bind fun b=>.ok (.int b):=rfl
@[simp]theorem Zrc(i):biD .sorted [.lst i]=(Po i).bind fun b=>.ok (.lst b):=rfl
@[simp]theorem ZxH(xs k):biD .stp [.lst xs,.int k]=.ok (.lst (RM k.toNat xs)):=rfl
@[simp]theorem ZxK(xs):biD .rvs [.lst xs]=.ok (.lst xs.reverse):=rfl
@[simp]theorem ZwM(xs):biD .lset [.lst xs]=Ra xs:=rfl
@[simp]theorem Zwf(x y):biD .tmin [x,y]=mmD Ad x y:=rfl
@[simp]theorem Zxt(x y):biD .tlt [x,y]=RH x y:=rfl
@[simp]theorem Zwg(x y):biD .tmax [x,y]=mmD Ab x y:=rfl
@[simp]theorem ZvI(xs x):biD .count [.lst xs,x]=if (flD 5 x&&xs.all (flD 5))=Ab then .ok (.int ((xs.filter fun y=>eqD y x).length:Ag)) else .bad:=rfl
@[simp]theorem iP(xs lo hi):slD (.tup xs) lo hi=if (GC xs.length 0 lo==0&&GC xs.length xs.length hi==xs.length)=Ab then .bad else .ok (.tup (HN xs lo hi)):=rfl
@[simp]theorem Zyu(xs lo hi):slD (.lst xs) lo hi=.ok (.lst (HN xs lo hi)):=rfl
@[simp]theorem ZsN(d):slE .non d=.ok Af:=rfl
@[simp]theorem ZsO(k i):slE (.int k) (.int i)=.ok (Aa i):=rfl
@[simp]theorem ZsM(k i):slE (.var k) (.int i)=.ok (Aa i):=rfl
@[simp]theorem ZsP(op a b i):slE (.bin op a b) (.int i)=.ok (Aa i):=rfl
@[simp]theorem Zwn(op a i):slE (.un op a) (.int i)=.ok (Aa i):=rfl
@[simp]theorem Zwo(b as i):slE (.bi b as) (.int i)=.ok (Aa i):=rfl
@[simp]theorem Zuy(up ks):FK up ks .non=if ks.any Eo=Ab then .bad else .ok (.bl (ks.any fun k=>kiD up k .non)):=rfl
@[simp]theorem ZwQ(up ks b):FK up ks (.bl b)=if ks.any Eo=Ab then .bad else .ok (.bl (ks.any fun k=>kiD up k (.bl b))):=rfl
@[simp]theorem ZuA(up ks b):FK up ks (.int b)=if ks.any Eo=Ab then .bad else .ok (.bl (ks.any fun k=>kiD up k (.int b))):=rfl
@[simp]theorem Zux(up ks b):FK up ks (.str b)=if ks.any Eo=Ab then .bad else .ok (.bl (ks.any fun k=>kiD up k (.str b))):=rfl
@[simp]theorem Zuw(up ks b):FK up ks (.tup b)=if ks.any Eo=Ab then .bad else .ok (.bl (ks.any fun k=>kiD up k (.tup b))):=rfl
@[simp]theorem Zuz(up ks b):FK up ks (.lst b)=if ks.any Eo=Ab then .bad else .ok (.bl (ks.any fun k=>kiD up k (.lst b))):=rfl
@[simp]theorem ZuB(up ks c f):FK up ks (.exc c f)=if ks.all Eo=Ab then .ok (.bl (ks.any fun k=>kiD up k (.exc c f))) else .bad:=rfl
@[simp]theorem Zr0(c):Eo (.cls c)=Ab:=rfl
@[simp]theorem Zp6:Eo .verr=Ab:=rfl
@[simp]theorem ZrZ:Eo .int=Ad:=rfl
@[simp]theorem Zp8:Eo .bool=Ad:=rfl
@[simp]theorem ZrY:Eo .str=Ad:=rfl
@[simp]theorem Zp7:Eo .list=Ad:=rfl
@[simp]theorem Zni:Eo .tuple=Ad:=rfl
@[simp]theorem Znc(up i):kiD up .int (.int i)=Ab:=rfl
@[simp]theorem Znb(up):kiD up .int .non=Ad:=rfl
@[simp]theorem Zl2(up i):kiD up .bool (.int i)=Ad:=rfl
@[simp]theorem Zna(up i):kiD up .int (.tup i)=Ad:=rfl
@[simp]theorem Zne(up i):kiD up .bool (.bl i)=Ab:=rfl
@[simp]theorem Zl1(up):kiD up .bool .non=Ad:=rfl
@[simp]theorem Zl0(up i):kiD up .list (.lst i)=Ab:=rfl
@[simp]theorem Zkb(up i):kiD up .tuple (.tup i)=Ab:=rfl
@[simp]theorem Zkc(up):kiD up .tuple .non=Ad:=rfl
@[simp]theorem Znd(up c k f):kiD up (.cls c) (.exc k f)=(up k).contains c:=rfl
@[simp]theorem ZlZ(up k f):kiD up .verr (.exc k f)=Ab:=rfl
theorem Kq{xs:Ac D}{i:Ae}{d:D}(h0:0<=i)(h:xs[i.toNat]?=Aa d):Dk xs i=.ok d:=by
 unfold Dk plD;obtain⟨h1,_⟩:=AE.mp h;rw[AB h0,AB (by omega)]
 dsimp only;rw[h]
section
variable(Γ:Gam)(ρ:Rho)
@[simp]theorem ZrA:evSs Γ ρ .nil=.next ρ:=rfl
noncomputable def EE(Γ:Gam)(ss:Ss)(o:O):O:=o.seq fun ρ'=>evSs Γ ρ' ss
@[simp]theorem ZpS(s ss):evSs Γ ρ (.cons s ss)=EE Γ ss (evS Γ ρ s):=rfl
@[simp]theorem ZuM(ss):EE Γ ss (.next ρ)=evSs Γ ρ ss:=rfl
@[simp]theorem ZwW(ss d b):EE Γ ss (.ret d b)=.ret d b:=rfl
@[simp]theorem Zw0(ss):EE Γ ss (.brk ρ)=.brk ρ:=rfl
@[simp]theorem ZuN(ss):EE Γ ss (.cont ρ)=.cont ρ:=rfl
@[simp]theorem ZwZ(ss x):EE Γ ss (.exn x ρ)=.exn x ρ:=rfl
@[simp]theorem Zw1(ss):EE Γ ss .bad=.bad:=rfl
@[simp]theorem ZwY(ss)(c:Prop)[EH c](a b:O):EE Γ ss (if c then a else b)=if c then EE Γ ss a else EE Γ ss b:=by split<;>rfl
@[simp]theorem ZwX(o:O):EE Γ .nil o=o:=by cases o<;>rfl
noncomputable def Bm(Γ:Gam)(t:Ag)(body:Ss):D->Rho->O:=fun x ρ'=>evSs Γ (ρ'.set t (Aa (x,Ad))) body
noncomputable def whC(Γ:Gam)(c:E):Rho->R An:=fun ρ'=>(top ρ' c (evE Γ ρ' c)).bind BS
noncomputable def whB(Γ:Gam)(body:Ss):Rho->O:=fun ρ'=>evSs Γ ρ' body
noncomputable def Nm(Γ:Gam)(t:Ag)(body:Ss)(ρ:Rho)(r:R (Ac D)):O:=O.of ρ r fun xs=>Ci (Bm Γ t body) xs ρ
@[simp]theorem ZuP(t body xs):Nm Γ t body ρ (.ok xs)=Ci (Bm Γ t body) xs ρ:=rfl
@[simp]theorem ZrE:evS Γ ρ .pass=.next ρ:=rfl
@[simp]theorem Zu4(i e):evS Γ ρ (.asg i Ad e)=O.of ρ (evE Γ ρ e) fun d=>.next (ρ.set i (Aa (d,Ad))):=rfl
@[simp]theorem ZrH(e):evS Γ ρ (.expr e)=O.of ρ (evE Γ ρ e) fun _=>.next ρ:=rfl
@[simp]theorem ZuZ(e):evS Γ ρ (.ret e)=O.of ρ (top ρ e (evE Γ ρ e)) fun d=>.ret d (DC Γ e||(match e with | .var i=>(match ρ[i]? with|some (Aa (_,o))=>o|_=>Ad)|_=>Ad)):=rfl
@[simp]theorem ZrC:evS Γ ρ .retN=.ret .non Ad:=rfl
@[simp]theorem Zu0(c a b):evS Γ ρ (.ife c a b)=O.of ρ ((top ρ c (evE Γ ρ c)).bind BS) fun k=>if k=Ab then evSs Γ ρ a else evSs Γ ρ b:=rfl
@[simp]theorem ZrF(t it body):evS Γ ρ (.fors t it body)=Nm Γ t body ρ (GB Γ ρ it):=rfl
noncomputable def Hl(Γ:Gam)(ts:Ac Ag)(body:Ss):D->Rho->O:=fun x ρ'=>O.of ρ' (E0 ts x ρ') fun ρ''=>evSs Γ ρ'' body
noncomputable def Q0(Γ:Gam)(ts:Ac Ag)(body:Ss)(ρ:Rho)(r:R (Ac D)):O:=O.of ρ r fun xs=>Ci (Hl Γ ts body) xs ρ
@[simp]theorem Zrp(t body xs):Q0 Γ t body ρ (.ok xs)=Ci (Hl Γ t body) xs ρ:=rfl
@[simp]theorem ZrG(t it body):evS Γ ρ (.forT t it body)=Q0 Γ t body ρ (GB Γ ρ it):=rfl
@[simp]theorem ZrJ(ts e):evS Γ ρ (.asgT ts e)=O.of ρ (evE Γ ρ e) fun d=>O.of ρ (FH ts d ρ) fun ρ'=>.next ρ':=rfl
theorem Vu(i e):evS Γ ρ (.asg i Ab e)=O.of ρ (evE Γ ρ e) fun d=>if DC Γ e=Ab then (match d with
      |.lst xs=>.next (ρ.set i (Aa (.lst xs,Ab)))
      |.dic xs=>.next (ρ.set i (Aa (.dic xs,Ab)))
      | _=>.bad) else .bad:=rfl
noncomputable def setF(ρ:Rho)(i:Ag):D->O
 |.lst xs=>.next (ρ.set i (Aa (.lst xs,Ab)))
 |.dic xs=>.next (ρ.set i (Aa (.dic xs,Ab)))
 |_=>.bad
@[simp]theorem Zwv(i xs):setF ρ i (.lst xs)=.next (ρ.set i (Aa (.lst xs,Ab))):=rfl
@[simp]theorem Zww(i xs):setF ρ i (.dic xs)=.next (ρ.set i (Aa (.dic xs,Ab))):=rfl
@[simp]theorem ZpT(i e):evS Γ ρ (.asg i Ab e)=O.of ρ (evE Γ ρ e) fun d=>if DC Γ e=Ab then setF ρ i d else .bad:=by
 rw[Vu]
 congr 1
@[simp]theorem Zu5(i e):evS Γ ρ (.app i e)=O.of ρ (B7 ρ i) fun xs=>O.of ρ (evE Γ ρ e) fun d=>if CB (xs.length+1)=Ab then .next (ρ.set i (Aa (.lst (xs++[d]),Ab))) else .bad:=rfl
@[simp]theorem Zu1(i e):evS Γ ρ (.ext i e)=O.of ρ (B7 ρ i) fun xs=>O.of ρ (evE Γ ρ e) fun d=>O.of ρ (Na d) fun ys=>if CB (xs.length+ys.length)=Ab then .next (ρ.set i (Aa (.lst (xs++ys),Ab))) else .bad:=rfl
@[simp]theorem ZuY(i):evS Γ ρ (.rev i)=O.of ρ (B7 ρ i) fun xs=>.next (ρ.set i (Aa (.lst xs.reverse,Ab))):=rfl
@[simp]theorem Zu2(i):evS Γ ρ (.clr i)=O.of ρ (B7 ρ i) fun _=>.next (ρ.set i (Aa (.lst [],Ab))):=rfl
theorem Mm(i k e):evS Γ ρ (.put i k e)=O.of ρ (evE Γ ρ e) fun d=>O.of ρ (B7 ρ i) fun xs=>O.of ρ ((top ρ k (evE Γ ρ k)).bind Dt) fun j=>match plD xs.length j with
      |some n=>.next (ρ.set i (Aa (.lst (xs.set n d),Ab)))
      |none=>.bad:=rfl
theorem XY(i k l):evS Γ ρ (.swp i k l)=O.of ρ (evE Γ ρ (.tup (.cons (.idx (.var i) (.var l)) (.cons (.idx (.var i) (.var k)) .nil)))) fun d=>KW ρ d i k l:=rfl
theorem Vv(j i e):evS Γ ρ (.apop j i e)=O.of ρ (B7 ρ j) fun ys=>O.of ρ (B7 ρ i) fun xs=>O.of ρ (evE Γ ρ e) fun d=>O.of ρ (Dt d) fun n=>apD ρ j i ys xs n:=rfl
theorem Ml(i):evS Γ ρ (.rel i)=match ρ[i]? with
      |some (Aa (d,Ab))=>.next (ρ.set i (Aa (d,Ad)))
      |_=>.next ρ:=rfl
@[simp]theorem ZrB(body c x h):evS Γ ρ (.tryx body c x h)=match evSs Γ ρ body with
      | .exn y ρ'=>if (Γ.up y.c).contains c=Ab then (match evSs Γ (ρ'.set x (Aa (.exc y.c y.fs,Ad))) h with
          |.next ρ''=>.next (ρ''.set x Af)
          |.ret d f=>.ret d f
          | _=>.bad) else .bad
      |o=>o:=rfl
@[simp]theorem ZuX(c body):evS Γ ρ (.whl c body)=Nc (whC Γ c) (whB Γ body) QZ ρ:=rfl
@[simp]theorem ZrD(c as):evS Γ ρ (.rais c as)=O.of ρ (noX (evA Γ ρ as)) fun xs=>O.of ρ (Γ.xn c xs) fun x=>.exn x ρ:=rfl
@[simp]theorem Zu3:evS Γ ρ .brk=.brk ρ:=rfl
@[simp]theorem ZrI:evS Γ ρ .cont=.cont ρ:=rfl
end
end Ov
namespace Ov
open PySem
theorem LX{body:D->Rho->O}(P:Rho->Prop):∀(xs:Ac D)(ρ:Rho),P ρ->(∀ x∈xs,∀ ρ,P ρ->∃ ρ',body x ρ=.next ρ'/\P ρ')->∃ ρ',Ci body xs ρ=.next ρ'/\P ρ'
 |[],ρ,h,_=>⟨ρ,rfl,h⟩
 |x::xs,ρ,h,k=>by
  obtain⟨ρ1,e1,h1⟩:=k x Aw ρ h;obtain⟨ρ2,e2,h2⟩:=LX P xs ρ1 h1 fun y hy=>k y (At _ hy)
  exact⟨ρ2,by show (body x ρ).turn _=_;rw[e1];exact e2,h2⟩
theorem UL(h1:0<=lo)(h2:lo<1000000)(h3:0<=hi)(h4:hi<1000000):B5 lo hi=.ok (BK lo (hi-lo).toNat):=by
 unfold B5;rw[AB (by omega)]
theorem UM(h3:0<=hi)(h4:hi<1000000):B5 0 hi=.ok (BK 0 hi.toNat):=by
 rw[UL (by omega) (by omega) h3 h4,Hb]
theorem LU(h:x∈BK lo n):∃ k:Ag,k<n/\x=.int (lo+(k:Ae)):=by
 obtain⟨k,hk,e⟩:=CJ.mp h;exact⟨k,CU.mp hk,e.symm⟩
theorem Ic(lo:Ae)(n:Ag):(BK lo n).length=n:=by simp[BK]
theorem OY{i:Ag}(h:(BK lo n)[i]?=Aa x):i<n/\x=.int (lo+(i:Ae)):=by
 have hl:=(AE.mp h).1;rw[Ic]at hl;unfold BK at h;rw[Cr,List.getElem?_range hl]at h;cases h;exact⟨hl,rfl⟩
noncomputable def Ss.take:Ag->Ss->Ss
 |0,_=>.nil
 |_,.nil=>.nil
 |n+1,.cons s ss=>.cons s (ss.take n)
noncomputable def Ss.drop:Ag->Ss->Ss
 |0,ss=>ss
 |_,.nil=>.nil
 |n+1,.cons _ ss=>ss.drop n
theorem O0(Γ:Gam):∀(n:Ag)(ss:Ss)(ρ:Rho),evSs Γ ρ ss=EE Γ (ss.drop n) (evSs Γ ρ (ss.take n))
 |0,_,_=>rfl
 |_+1,.nil,_=>rfl
 |n+1,.cons s ss,ρ=>by
  show (evS Γ ρ s).seq (fun ρ'=>evSs Γ ρ' ss)=EE Γ (ss.drop n) ((evS Γ ρ s).seq fun ρ'=>evSs Γ ρ' (ss.take n))
  cases evS Γ ρ s with
  |next ρ'=>exact O0 Γ n ss ρ'
  |_=>rfl
end Ov
end
section
namespace OvC
open PySem Ov PyProof.Rows
variable{j:Ae}
noncomputable abbrev scr(ns:Ac Ae):D:=.lst (ns.map .int)
noncomputable abbrev sh(d:D):Sl:=Aa (d,Ad)
noncomputable abbrev si(i:Ae):Sl:=Aa (.int i,Ad)
theorem four{P:Ag->Prop}(h0:P 0)(h1:P 1)(h2:P 2)(h3:P 3):P (j%4).toNat:=by
 have:(j%4).toNat=0\/(j%4).toNat=1\/(j%4).toNat=2\/(j%4).toNat=3:=by omega
 rcases this with e|e|e|e<;>rw[e]<;>assumption
def P4(p:Ae):Prop:=p=3\/p=5\/p=7\/p=11
theorem P4.pos{p}(h:P4 p):0<p:=by rcases h with rfl|rfl|rfl|rfl<;>decide
theorem P4.lo{p}(h:P4 p):3<=p:=by rcases h with rfl|rfl|rfl|rfl<;>decide
theorem P4.hi{p}(h:P4 p):p<=11:=by rcases h with rfl|rfl|rfl|rfl<;>decide
theorem HB{i:Ae}(h0:-18446744073709551616<i)(h1:i<18446744073709551616):Du i j=Ab:=by simp[Du];left;exact⟨h0,h1⟩
theorem Kv{i:Ae}(h0:-18446744073709551616<j)(h1:j<18446744073709551616):Du i j=Ab:=by simp[Du];right;exact⟨h0,h1⟩
noncomputable def MH:Df:=⟨2,Ad,(.cons (.ret (.bin .Mod (.var 1) (.var 0))) .nil)⟩
def HE(Γ:Gam):Prop:=∀ p n:Ae,0<p->Γ.F 1 [.int p,.int n]=.ok (.int (n%p))
theorem Zz(Γ:Gam)(p n:Ae)(h:0<p):MH.run Γ [.int p,.int n]=.ok (.int (n%p)):=by simp[MH,Df.run,Bw,h]
end OvC
end
namespace Ov
open PySem PySem.Spec PyProof.Rows L2
variable{A B:Ak->Prop}{H H' H1 H0:Hp}{a b l q:Ak}{xs ys vs:Ac V}{v:V}{d:D}{Rp Rq:Hp->V->D->Prop}{r:R D}{Q:VK}{X:Cx}{e c tg iter elt:Ao}{ρ:Rho}{i n j k:Ag}{x:Ex}{σ:L2.St}{g:D->D->R D}{op:DK}{K:Fg}{pI:Pn}{s:Ap}{items2 its items:Bi Aj}{h h' h2:AK}{u:Aj}{its2:Ac Aj}{es ifs:Ac Ao}{fs fi:Rho->R (Ac D)}{Q':Aq Ae->Hp->Prop}{p p2 pos pos' pos2 tpos:AU}{T:Ds}{f fc:Rho->R An}{α:Type}{Fz:Ak->HO->Prop}{D':Ends}{lo:Ae}{as:D->Rho->R Rho}{up:Ag->Ac Ag}{prog P:AS}{w:AY}{scope:BY}{env:BP}{cl:Ac (Ah×Ak)}{N':Ac Ah}{ts:Ac Ag}{fp:Ac Ak}{tt:TT}{te:TE}{J:It}{wi:TI}{t:An}{ta:TA}
abbrev ClA:=Ag->Aq Ak
variable{CL:ClA}
def KL(K:Fg)(a:Ak)(xs:Ac V):Prop:=∃(o:Dq)(its:Bi Aj)(n:Ag),K.lookup a=Aa o/\o.cls=.type "list"/\o.dict=Af/\o.data=.seq its n/\its.size<=sizeLine/\AZ xs its.toList
def KT(K:Fg)(a:Ak)(xs:Ac V):Prop:=∃(o:Dq)(its:Bi Aj)(n:Ag),K.lookup a=Aa o/\o.cls=.type "tuple"/\o.data=.seq its n/\its.size<=sizeLine/\AZ xs its.toList
section
variable(K:Fg)(CL:ClA)(H:Hp)(A:Ak->Prop)
mutual
def Rep:V->D->Prop
 |v,.non=>v=.non
 |v,.bl b=>v=.bl b
 |v,.int i=>v=.int i
 |v,.str x=>v=.str x
 |v,.tup ds=>∃ a xs,v=.ref a/\(¬ A a\/KT K a xs)/\SqT K H a xs/\Reps xs ds
 |v,.lst ds=>∃ a xs,v=.ref a/\(¬ A a\/KL K a xs)/\SqL K H a xs/\Reps xs ds
 |v,.obj c fs=>∃ a C dx vs,v=.ref a/\¬ A a/\CL c=Aa C/\H a=Aa (.ins C dx vs)/\Repf vs fs
 |_,.dic _=>Bb
 |v,.exc c fs=>∃ a C φ,v=.ref a/\¬ A a/\CL c=Aa C/\H a=Aa (.ext φ)/\(∀ h,φ h->∃ o,h.get? a=Aa o/\o.cls=.ref C)/\(fs=[]\/∃ dx vs,¬ A dx/\H dx=Aa (.xd vs)/\Repf vs fs/\∀ h,φ h->∃ o,h.get? a=Aa o/\o.dict=Aa dx)
def Reps:Ac V->Ac D->Prop
 |[],[]=>GS
 |v::vs,d::ds=>Rep v d/\Reps vs ds
 |_,_=>Bb
def Repf:Ac (Ah×V)->Ac (Ah×D)->Prop
 |[],[]=>GS
 |v::vs,d::ds=>Repp v d/\Repf vs ds
 |_,_=>Bb
def Repp:Ah×V->Ah×D->Prop
 |v,(n,d)=>v.1=n/\Rep v.2 d
end
def Ct(v:V)(d:D):Prop:=Rep K CL H A v d\/∃ a xs ds,v=.ref a/\d=.lst ds/\H a=Aa (.lst xs)/\Reps K CL H A xs ds
end
def Kp(A:Ak->Prop)(H H':Hp):Prop:=∀ b o,H b=Aa o->¬ A b->H' b=Aa o
def AOk(H:Hp)(A:Ak->Prop):Prop:=∀ a,A a->∃ xs,H a=Aa (.lst xs)
theorem Kp.of(h:AC H H'):Kp A H H':=fun b o e _=>h b o e
theorem AOk.same(h:AOk H A)(s:AC H H'):AOk H' A:=fun a ha=>let ⟨xs,e⟩:=h a ha;⟨xs,s _ _ e⟩
theorem AOk.new{p:Ak}(h:AOk H A)(e:H p=Af):¬ A p:=fun ha=>by
 obtain⟨xs,q⟩:=h p ha;rw[e]at q;cases q
section
variable{K:Fg}{CL:ClA}{H H':Hp}{A B:Ak->Prop}
theorem QX{u:HO}(k:Kp A H H')(na:¬ A a)(h:Rd H a u):Rd H' a u:=by
 rcases h with h|⟨o,h⟩
 ·exact .inl (k _ _ h na)
 ·exact .inr ⟨o,k _ _ h na⟩
theorem KA(k:Kp A H H')(na:¬ A a\/KL K a xs)(h:SqL K H a xs):SqL K H' a xs:=na.elim (fun na=>h.imp (QX k na) id) .inr
theorem Kz(k:Kp A H H')(na:¬ A a\/KT K a xs)(h:SqT K H a xs):SqT K H' a xs:=na.elim (fun na=>h.imp (QX k na) id) .inr
mutual
theorem Rep.kp(k:Kp A H H'):∀{v:V}(d:D),Rep K CL H A v d->Rep K CL H' A v d
 |_,.non,h=>h
 |_,.bl _,h=>h
 |_,.int _,h=>h
 |_,.str _,h=>h
 |_,.dic _,h=>h.elim
 |_,.tup ds,h=>by
  obtain⟨a,xs,e,na,s,r⟩:=h;exact⟨a,xs,e,na,by first|exact Kz k na s|exact KA k na s,Reps.kp k ds r⟩
 |_,.lst ds,h=>by
  obtain⟨a,xs,e,na,s,r⟩:=h;exact⟨a,xs,e,na,by first|exact Kz k na s|exact KA k na s,Reps.kp k ds r⟩
 |_,.obj c fs,h=>by
  obtain⟨a,C,dx,vs,e,na,c,s,r⟩:=h;exact⟨a,C,dx,vs,e,na,c,k _ _ s na,Repf.kp k fs r⟩
 |_,.exc c fs,h=>by
  obtain⟨a,C,φ,e,na,c,s,p,q⟩:=h;refine⟨a,C,φ,e,na,c,k _ _ s na,p,q.imp id ?_⟩;rintro⟨dx,vs,nx,s2,r,z⟩;exact⟨dx,vs,nx,k _ _ s2 nx,Repf.kp k fs r,z⟩
theorem Reps.kp(k:Kp A H H'):∀{vs:Ac V}(ds:Ac D),Reps K CL H A vs ds->Reps K CL H' A vs ds
 |[],[],h=>h
 |_::_,d::ds,h=>⟨Rep.kp k d h.1,Reps.kp k ds h.2⟩
 |[],_::_,h=>h.elim
 |_::_,[],h=>h.elim
theorem Repf.kp(k:Kp A H H'):∀{vs:Ac (Ah×V)}(ds:Ac (Ah×D)),Repf K CL H A vs ds->Repf K CL H' A vs ds
 |[],[],h=>h
 |_::_,d::ds,h=>⟨Repp.kp k d h.1,Repf.kp k ds h.2⟩
 |[],_::_,h=>h.elim
 |_::_,[],h=>h.elim
theorem Repp.kp(k:Kp A H H'):∀{v:Ah×V}(d:Ah×D),Repp K CL H A v d->Repp K CL H' A v d
 |_,(_,d),h=>⟨h.1,Rep.kp k d h.2⟩
end
mutual
theorem Rep.sub(k:∀ a,B a->A a):∀{v:V}(d:D),Rep K CL H A v d->Rep K CL H B v d
 |_,.non,h=>h
 |_,.bl _,h=>h
 |_,.int _,h=>h
 |_,.str _,h=>h
 |_,.dic _,h=>h.elim
 |_,.tup ds,h=>by
  obtain⟨a,xs,e,na,s,r⟩:=h;exact⟨a,xs,e,na.imp (fun na z=>na (k _ z)) id,s,Reps.sub k ds r⟩
 |_,.lst ds,h=>by
  obtain⟨a,xs,e,na,s,r⟩:=h;exact⟨a,xs,e,na.imp (fun na z=>na (k _ z)) id,s,Reps.sub k ds r⟩
 |_,.obj c fs,h=>by
  obtain⟨a,C,dx,vs,e,na,c,s,r⟩:=h;exact⟨a,C,dx,vs,e,fun z=>na (k _ z),c,s,Repf.sub k fs r⟩
 |_,.exc c fs,h=>by
  obtain⟨a,C,φ,e,na,c,s,p,q⟩:=h;refine⟨a,C,φ,e,fun z=>na (k _ z),c,s,p,q.imp id ?_⟩
  rintro⟨dx,vs,nx,s2,r,z⟩;exact⟨dx,vs,fun z=>nx (k _ z),s2,Repf.sub k fs r,z⟩
theorem Reps.sub(k:∀ a,B a->A a):∀{vs:Ac V}(ds:Ac D),Reps K CL H A vs ds->Reps K CL H B vs ds
 |[],[],h=>h
 |_::_,d::ds,h=>⟨Rep.sub k d h.1,Reps.sub k ds h.2⟩
 |[],_::_,h=>h.elim
 |_::_,[],h=>h.elim
theorem Repf.sub(k:∀ a,B a->A a):∀{vs:Ac (Ah×V)}(ds:Ac (Ah×D)),Repf K CL H A vs ds->Repf K CL H B vs ds
 |[],[],h=>h
 |_::_,d::ds,h=>⟨Repp.sub k d h.1,Repf.sub k ds h.2⟩
 |[],_::_,h=>h.elim
 |_::_,[],h=>h.elim
theorem Repp.sub(k:∀ a,B a->A a):∀{v:Ah×V}(d:Ah×D),Repp K CL H A v d->Repp K CL H B v d
 |_,(_,d),h=>⟨h.1,Rep.sub k d h.2⟩
end
mutual
theorem Rep.wide(hp:∀ a,B a->A a\/H a=Af):∀{v:V}(d:D),Rep K CL H A v d->Rep K CL H B v d
 |_,.non,h=>h
 |_,.bl _,h=>h
 |_,.int _,h=>h
 |_,.str _,h=>h
 |_,.dic _,h=>h.elim
 |_,.tup ds,h=>by
  obtain⟨a,xs,e,na,s,r⟩:=h;refine⟨a,xs,e,?_,s,Reps.wide hp ds r⟩;rcases s with s|s
  ·refine na.imp (fun na z=>(hp _ z).elim na fun e=>?_) id
   rcases s with s|⟨o,s⟩<;>rw[e]at s<;>cases s
  ·exact .inr s
 |_,.lst ds,h=>by
  obtain⟨a,xs,e,na,s,r⟩:=h;refine⟨a,xs,e,?_,s,Reps.wide hp ds r⟩;rcases s with s|s
  ·refine na.imp (fun na z=>(hp _ z).elim na fun e=>?_) id
   rcases s with s|⟨o,s⟩<;>rw[e]at s<;>cases s
  ·exact .inr s
 |_,.obj c fs,h=>by
  obtain⟨a,C,dx,vs,e,na,c,s,r⟩:=h;exact⟨a,C,dx,vs,e,(fun z=>(hp _ z).elim na fun e=>by rw[e]at s;cases s),c,s,Repf.wide hp fs r⟩
 |_,.exc c fs,h=>by
  obtain⟨a,C,φ,e,na,c,s,p,q⟩:=h;refine⟨a,C,φ,e,(fun z=>(hp _ z).elim na fun e=>by rw[e]at s;cases s),c,s,p,q.imp id ?_⟩
  rintro⟨dx,vs,nx,s2,r,z⟩;exact⟨dx,vs,(fun z=>(hp _ z).elim nx fun e=>by rw[e]at s2;cases s2),s2,Repf.wide hp fs r,z⟩
theorem Reps.wide(hp:∀ a,B a->A a\/H a=Af):∀{vs:Ac V}(ds:Ac D),Reps K CL H A vs ds->Reps K CL H B vs ds
 |[],[],h=>h
 |_::_,d::ds,h=>⟨Rep.wide hp d h.1,Reps.wide hp ds h.2⟩
 |[],_::_,h=>h.elim
 |_::_,[],h=>h.elim
theorem Repf.wide(hp:∀ a,B a->A a\/H a=Af):∀{vs:Ac (Ah×V)}(ds:Ac (Ah×D)),Repf K CL H A vs ds->Repf K CL H B vs ds
 |[],[],h=>h
 |_::_,d::ds,h=>⟨Repp.wide hp d h.1,Repf.wide hp ds h.2⟩
 |[],_::_,h=>h.elim
 |_::_,[],h=>h.elim
theorem Repp.wide(hp:∀ a,B a->A a\/H a=Af):∀{v:Ah×V}(d:Ah×D),Repp K CL H A v d->Repp K CL H B v d
 |_,(_,d),h=>⟨h.1,Rep.wide hp d h.2⟩
end
theorem Rep.same(s:AC H H')(h:Rep K CL H A v d):Rep K CL H' A v d:=Rep.kp (Kp.of s) d h
theorem Reps.same{v:Ac V}{d:Ac D}(s:AC H H')(h:Reps K CL H A v d):Reps K CL H' A v d:=Reps.kp (Kp.of s) d h
theorem Ct.same{v:V}{d:D}(s:AC H H')(h:Ct K CL H A v d):Ct K CL H' A v d:=by
 rcases h with h|⟨a,xs,ds,e,e2,q,r⟩
 ·exact .inl (h.same s)
 ·exact .inr ⟨a,xs,ds,e,e2,s _ _ q,r.same s⟩
theorem Reps.length:∀{vs:Ac V}{ds:Ac D},Reps K CL H A vs ds->vs.length=ds.length
 |[],[],_=>rfl
 |_::_,_::_,h=>congrArg (· + 1) (Reps.length h.2)
 |[],_::_,h=>h.elim
 |_::_,[],h=>h.elim
theorem Reps.append:∀{vs ws:Ac V}{ds es:Ac D},Reps K CL H A vs ds->Reps K CL H A ws es->Reps K CL H A (vs++ws) (ds++es)
 |[],_,[],_,_,h=>h
 |_::_,_,_::_,_,h,g=>⟨h.1,Reps.append h.2 g⟩
 |[],_,_::_,_,h,_=>h.elim
 |_::_,_,[],_,h,_=>h.elim
theorem Reps.get:∀{vs:Ac V}{ds:Ac D}{i:Ag}{d:D},Reps K CL H A vs ds->ds[i]?=Aa d->∃ v,vs[i]?=Aa v/\Rep K CL H A v d
 |[],[],_,_,_,e=>by simp at e
 |v::_,_::_,0,_,h,e=>by simp at e;subst e;exact⟨v,rfl,h.1⟩
 |_::_,_::_,i+1,_,h,e=>by
  obtain⟨v,q,r⟩:=Reps.get (i:=i) h.2 (by simpa using e)
  exact⟨v,by simpa using q,r⟩
 |[],_::_,_,_,h,_=>h.elim
 |_::_,[],_,_,h,_=>h.elim
theorem Reps.take:∀{vs:Ac V}{ds:Ac D}(n:Ag),Reps K CL H A vs ds->Reps K CL H A (vs.take n) (ds.take n)
 |_,_,0,_=>trivial
 |[],[],_+1,_=>trivial
 |_::_,_::_,n+1,h=>⟨h.1,Reps.take n h.2⟩
 |[],_::_,_+1,h=>h.elim
 |_::_,[],_+1,h=>h.elim
theorem Reps.drop:∀{vs:Ac V}{ds:Ac D}(n:Ag),Reps K CL H A vs ds->Reps K CL H A (vs.drop n) (ds.drop n)
 |_,_,0,h=>h
 |[],[],_+1,_=>trivial
 |_::_,_::_,n+1,h=>Reps.drop n h.2
 |[],_::_,_+1,h=>h.elim
 |_::_,[],_+1,h=>h.elim
theorem Reps.set{x:V}{e:D}(r:Rep K CL H A x e):∀{vs:Ac V}{ds:Ac D}(n:Ag),Reps K CL H A vs ds->Reps K CL H A (vs.set n x) (ds.set n e)
 |[],[],_,_=>trivial
 |_::_,_::_,0,h=>⟨r,h.2⟩
 |_::_,_::_,n+1,h=>⟨h.1,Reps.set r n h.2⟩
 |[],_::_,_,h=>h.elim
 |_::_,[],_,h=>h.elim
end
structure Good (K:Fg) (CL:ClA) (A:Ak->Prop) (ρ:Rho) (σ:L2.St) (H:Hp):Prop where
 sh:∀(i:Ag)(d:D),ρ[i]?=Aa (Aa (d,Ad))->∃ v,σ[i]?=Aa (Aa v)/\Rep K CL H A v d
 ow:∀(i:Ag)(d:D),ρ[i]?=Aa (Aa (d,Ab))->∃ a xs ds,σ[i]?=Aa (Aa (.ref a))/\d=.lst ds/\A a/\H a=Aa (.lst xs)/\Reps K CL H A xs ds
 len:ρ.length=σ.length
theorem Good.same{K:Fg}{CL:ClA}{A:Ak->Prop}{ρ:Rho}{σ:L2.St}{H H':Hp}(g:Good K CL A ρ σ H)(s:AC H H'):Good K CL A ρ σ H':=
 ⟨fun i d e=>let ⟨v,q,r⟩:=g.sh i d e;⟨v,q,r.same s⟩,fun i d e=>let ⟨a,xs,ds,q,z,na,h,r⟩:=g.ow i d e;⟨a,xs,ds,q,z,na,s _ _ h,r.same s⟩,g.len⟩
abbrev XW:=Ex->Hp->Prop
variable{W:XW}
def Ba(Rp:Hp->V->D->Prop)(W:XW)(H:Hp)(r:R D)(Q:VK):Prop:=match r with
  |.ok d=>∀ v H',AC H H'->Rp H' v d->Q v H'
  |.exn x=>∀ H',AC H H'->W x H'
  |.bad=>Bb
def Gg(Rp:Hp->Ac V->Ac D->Prop)(W:XW)(H:Hp)(r:R (Ac D))(Q:Ac V->Hp->Prop):Prop:=match r with
  |.ok d=>∀ v H',AC H H'->Rp H' v d->Q v H'
  |.exn x=>∀ H',AC H H'->W x H'
  |.bad=>Bb
def CC(W:XW)(H:Hp)(r:R An)(Q:An->Hp->Prop):Prop:=match r with
  |.ok b=>∀ H',AC H H'->Q b H'
  |.exn x=>∀ H',AC H H'->W x H'
  |.bad=>Bb
theorem Ba.same(s:AC H H')(h:Ba Rp W H r Q):Ba Rp W H' r Q:=by
 cases r with
 |ok d=>exact fun v H2 s2 q=>h v H2 (s.trans s2) q
 |exn x=>exact fun H2 s2=>h H2 (s.trans s2)
 |bad=>exact h
theorem CC.same{r:R An}{Q:An->Hp->Prop}(s:AC H H')(h:CC W H r Q):CC W H' r Q:=by
 cases r with
 |ok d=>exact fun H2 s2=>h H2 (s.trans s2)
 |exn x=>exact fun H2 s2=>h H2 (s.trans s2)
 |bad=>exact h
theorem Ba.bind{f:D->R D}{Q':VK}(h:Ba Rq W H (r.bind f) Q)(k:∀ d v H',r=.ok d->AC H H'->Rp H' v d->Ba Rq W H' (f d) Q->Q' v H'):Ba Rp W H r Q':=by
 cases r with
 |ok d=>exact fun v H2 s2 q=>k d v H2 rfl s2 q (Ba.same s2 h)
 |exn x=>exact h
 |bad=>exact h
section
variable(X:Cx)(CL:ClA)(W:XW)
def SE(e:Ao)(f:Rho->R D):Prop:=∀ A,PE X e (fun σ H Q=>AOk H A/\∃ ρ,Good X.K CL A ρ σ H/\Ba (fun H=>Rep X.K CL H A) W H (f ρ) Q)
def ST(e:Ao)(f:Rho->R D):Prop:=∀ A,PE X e (fun σ H Q=>AOk H A/\∃ ρ,Good X.K CL A ρ σ H/\Ba (fun H=>Ct X.K CL H A) W H (f ρ) Q)
def SB(e:Ao)(f:Rho->R An):Prop:=∀ A,PT X e (fun σ H Q=>AOk H A/\∃ ρ,Good X.K CL A ρ σ H/\CC W H (f ρ) Q)
def SA(es:Ac Ao)(f:Rho->R (Ac D)):Prop:=∀ A,PA X es (fun σ H Q=>AOk H A/\∃ ρ,Good X.K CL A ρ σ H/\Gg (fun H=>Reps X.K CL H A) W H (f ρ) Q)
end
theorem PE.weak{t t':TE}(h:PE X e t)(k:∀ σ H Q,t' σ H Q->t σ H Q):PE X e t':=fun pI s σ H Q I q=>h pI s σ H Q I (k _ _ _ q)
theorem PT.weak{t t':TT}(h:PT X e t)(k:∀ σ H Q,t' σ H Q->t σ H Q):PT X e t':=fun pI s σ H Q I q=>h pI s σ H Q I (k _ _ _ q)
theorem PA.weak{e:Ac Ao}{t t':TA}(h:PA X e t)(k:∀ σ H Q,t' σ H Q->t σ H Q):PA X e t':=fun pos pI s σ H Q I q=>h pos pI s σ H Q I (k _ _ _ q)
noncomputable def OpD(X:Cx)(CL:ClA)(W:XW)(f:Aj->Aj->Sem Aj)(g:D->D->R D):Prop:=
 ∀ A,OpR X f (fun x y H Q=>AOk H A/\∃ dx dy,Ct X.K CL H A x dx/\Ct X.K CL H A y dy/\Ba (fun H=>Rep X.K CL H A) W H (g dx dy) Q)
section
variable{X:Cx}{CL:ClA}{W:XW}{a b c:Ao}{fa fb fc:Rho->R D}{pos:AU}
theorem SE.st(h:SE X CL W a fa):ST X CL W a fa:=fun A=>PE.weak (h A) fun σ H Q ⟨hA,ρ,g,p⟩=>⟨hA,ρ,g,by
 cases e:fa ρ with
 |ok d=>rw[e]at p;exact fun v H' s r=>p v H' s (.inl r)
 |exn x=>rw[e]at p;exact p
 | bad=>rw[e]at p;exact p⟩
theorem SE.congr{f g:Rho->R D}(h:SE X CL W a f)(e:∀ ρ,g ρ=f ρ):SE X CL W a g:=fun A=>PE.weak (h A) fun σ H Q ⟨hA,ρ,q,p⟩=>⟨hA,ρ,q,by rw[<-e];exact p⟩
theorem KQ(h:PE X a (tC v))(r:∀ H A,AOk H A->Rep X.K CL H A v d):SE X CL W a (fun _=>.ok d):=fun A=>PE.weak h fun σ H Q ⟨hA,ρ,g,p⟩=>p v H (AC.refl H) (r H A hA)
theorem Ym{i j}:SE X CL W (.Constant (.int i) j pos) (fun _=>.ok (.int i)):=KQ YS fun _ _ _=>rfl
theorem bR{b j}:SE X CL W (.Constant (.bool b) j pos) (fun _=>.ok (.bl b)):=KQ cT fun _ _ _=>rfl
theorem Yk{j}:SE X CL W (.Constant .none j pos) (fun _=>.ok .non):=KQ YO fun _ _ _=>rfl
theorem Yi{x j}:SE X CL W (.Constant (.str x) j pos) (fun _=>.ok (.str x)):=KQ Zh fun _ _ _=>rfl
theorem Wf(h:DZ ρ i=.ok d):ρ[i]?=Aa (Aa (d,Ad)):=by
 unfold DZ at h;split at h
 ·rename_i e;cases h;exact e
 ·cases h
theorem Ph(h:Ej ρ i=.ok d):∃ o,ρ[i]?=Aa (Aa (d,o)):=by
 unfold Ej at h;split at h
 ·rename_i e;cases h;exact⟨_,e⟩
 ·cases h
theorem U7(h:DZ ρ i=.exn x):Bb:=by
 unfold DZ at h;split at h<;>cases h
theorem Oh(h:Ej ρ i=.exn x):Bb:=by
 unfold Ej at h;split at h<;>cases h
theorem Yg(h:PE X a (Fj i)):SE X CL W a (fun ρ=>DZ ρ i):=fun A=>PE.weak h fun σ H Q ⟨hA,ρ,g,p⟩=>by
 dsimp only at p;cases e:DZ ρ i with
 |ok d=>
  rw[e]at p;obtain⟨v,q,r⟩:=g.sh i d (Wf e);exact⟨v,q,p v H (AC.refl H) r⟩
 |exn x=>exact(U7 e).elim
 |bad=>rw[e]at p;exact p.elim
theorem Yy(h:PE X a (Fj i)):ST X CL W a (fun ρ=>Ej ρ i):=fun A=>PE.weak h fun σ H Q ⟨hA,ρ,g,p⟩=>by
 dsimp only at p;cases e:Ej ρ i with
 |ok d=>
  rw[e]at p;obtain⟨o,e⟩:=Ph e;cases o with
  |false=>
   obtain⟨v,q,r⟩:=g.sh i d e;exact⟨v,q,p v H (AC.refl H) (.inl r)⟩
  |true=>
   obtain⟨x,xs,ds,q,rfl,ha,hh,r⟩:=g.ow i d e;exact⟨_,q,p _ H (AC.refl H) (.inr ⟨x,xs,ds,rfl,rfl,hh,r⟩)⟩
 |exn x=>exact(Oh e).elim
 |bad=>rw[e]at p;exact p.elim
theorem op2(h:AOk H A/\∃ ρ,Good X.K CL A ρ σ H/\Ba Rq W H ((fa ρ).bind fun x=>(fb ρ).bind fun y=>g x y) Q):AOk H A/\∃ ρ,Good X.K CL A ρ σ H/\Ba (fun H=>Ct X.K CL H A) W H (fa ρ) (fun x H1=>AOk H1 A/\∃ ρ,Good X.K CL A ρ σ H1/\Ba (fun H=>Ct X.K CL H A) W H1 (fb ρ) (fun y H2=>AOk H2 A/\∃ dx dy,Ct X.K CL H2 A x dx/\Ct X.K CL H2 A y dy/\Ba Rq W H2 (g dx dy) Q)):=by
 obtain⟨hA,ρ,gd,p⟩:=h;refine⟨hA,ρ,gd,Ba.bind p fun dx x H1 _ s1 r1 p1=>⟨hA.same s1,ρ,gd.same s1,Ba.bind p1 fun dy y H2 _ s2 r2 p2=>⟨(hA.same s1).same s2,dx,dy,r1.same s2,r2,p2⟩⟩⟩
theorem Qb{op:F6}(ho:OpD X CL W (BO op) g)(ha:ST X CL W a fa)(hb:ST X CL W b fb):SE X CL W (.BinOp a op b pos) (fun ρ=>(fa ρ).bind fun x=>(fb ρ).bind fun y=>g x y):=
 fun A=>PE.weak (QV (ho A) (ha A) (hb A)) fun σ H Q h=>op2 h
theorem Yo(ho:OpD X CL W (Ca op) g)(ha:ST X CL W a fa)(hb:ST X CL W b fb)(hm:FB op b=Ad):SE X CL W (.Compare a [op] [b] pos) (fun ρ=>(fa ρ).bind fun x=>(fb ρ).bind fun y=>g x y):=
 fun A=>PE.weak (WI (ho A) (ha A) (hb A) hm) fun σ H Q h=>op2 h
theorem Ct.int_of{i:Ae}(h:Ct K CL H A v (.int i)):v=.int i:=by
 rcases h with h|⟨_,_,_,_,e,_⟩
 ·exact h
 ·cases e
theorem Ct.str_of{i:Ah}(h:Ct K CL H A v (.str i)):v=.str i:=by
 rcases h with h|⟨_,_,_,_,e,_⟩
 ·exact h
 ·cases e
theorem Ct.bl_of{i:An}(h:Ct K CL H A v (.bl i)):v=.bl i:=by
 rcases h with h|⟨_,_,_,_,e,_⟩
 ·exact h
 ·cases e
theorem Ct.non_of(h:Ct K CL H A v .non):v=.non:=by
 rcases h with h|⟨_,_,_,_,e,_⟩
 ·exact h
 ·cases e
theorem Ct.lst_of{ds:Ac D}(h:Ct K CL H A v (.lst ds)):∃ a xs,v=.ref a/\SqL K H a xs/\Reps K CL H A xs ds:=by
 rcases h with ⟨a,xs,e,_,s,r⟩|⟨a,xs,es,rfl,e,s,r⟩
 ·exact⟨a,xs,e,s,r⟩
 ·cases e;exact⟨a,xs,rfl,SqL.of s,r⟩
theorem Ct.tup_of{ds:Ac D}(h:Ct K CL H A v (.tup ds)):∃ a xs,v=.ref a/\(¬ A a\/KT K a xs)/\SqT K H a xs/\Reps K CL H A xs ds:=by
 rcases h with ⟨a,xs,e,n,s,r⟩|⟨_,_,_,_,e,_⟩
 ·exact⟨a,xs,e,n,s,r⟩
 ·cases e
theorem WV{i j:Ae}(h:Du i j=Ab):KS i j:=by
 unfold Du at h;simp only[C5,Al,A7]at h;unfold KS;omega
theorem Pt{a:Ae}(h:a.natAbs<2 ^ 2000):S7 a<=2 ^ 20:=by
 unfold S7;split
 ·omega
 ·rename_i hz;have h0:a.natAbs≠0:=by intro z;exact hz (by rw[Int.natAbs_eq_zero.mp z];rfl)
  have:=(Nat.log2_lt h0).mpr h;omega
theorem WU{i j:Ae}(h:(Du i j||DO i j)=Ab):Jb i j:=by
 rcases Bool.or_eq_true_iff.mp h with h|h
 ·exact(WV h).ok
 ·unfold DO at h;rw[Al,A7,A7]at h;exact .of_bits (Pt h.1) (Pt h.2)
theorem WQ:OpR X (BO .Mult) (rI Jb fun i j=>.int (i*j)):=opI fun _ _ _ _ _ _ _ hc q=>mul_int q hc
theorem GV(h:CB n=Ab):n<=sizeLine:=by
 unfold CB at h;rw[D3];have:=EJ h;omega
theorem Pe{p:Ak}{ds:Ac D}(hA:AOk H A)(hp:H p=Af)(r:Reps K CL H A xs ds):Rep K CL (upd H p (.lst xs)) A (.ref p) (.lst ds):=
 ⟨p,xs,rfl,.inl (hA.new hp),SqL.of F8,r.same fun b o e=>by rw[Ch (EC e hp)];exact e⟩
theorem Ir{p:Ak}{ds:Ac D}(hA:AOk H A)(hp:H p=Af)(r:Reps K CL H A xs ds):Rep K CL (upd H p (.tup xs)) A (.ref p) (.tup ds):=
 ⟨p,xs,rfl,.inl (hA.new hp),SqT.of F8,r.same fun b o e=>by rw[Ch (EC e hp)];exact e⟩
theorem EA{p:Ak}(h:H p=Af)(o:HO):AC H (upd H p o):=fun b u q=>by rw[Ch (EC q h)];exact q
def dS(K:Fg):R2:=fun x y H Q=>∃ l b xs zs,x=.ref l/\y=.ref b/\SqL K H l xs/\SqL K H b zs/\xs.length+zs.length<=sizeLine/\∀ p,H p=Af->Q (.ref p) (upd H p (.lst (xs++zs)))
end
section
variable{X:Cx}{CL:ClA}{W:XW}
theorem Pb:OpR X (BO .Add) (dS X.K):=by
 intro pI s σ H x y v u Q I rx ry h;obtain⟨l,b,xs,zs,rfl,rfl,hH,hB,hz,q⟩:=h;cases rx;cases ry;obtain⟨its,r,⟨o,n,e,c,dd,dt⟩,z⟩:=I.list hH;obtain⟨its2,r2,⟨o2,n2,e2,c2,dd2,dt2⟩,z2⟩:=I.list hB;have hl:=r.length;have hl2:=r2.length;obtain⟨cls,dd0,data,sl⟩:=o;obtain⟨cls2,dd02,data2,sl2⟩:=o2;simp only at c dd dt c2 dd2 dt2;subst c dd dt c2 dd2 dt2;have ea:its.toArray++its2.toArray=(its++its2).toArray:=by simp
 refine He ⟨_,e,rfl⟩ ⟨_,e2,rfl⟩ noFill_list_add seq_list_add PySem.F.slot_list_add PySem.F.entry_list_add (PySem.F.args_list_add_2 _ _) (list_addW l b its.toArray its2.toArray n n2 Af Af sl sl2 (by simp;omega)) ⟨e,e2,?_⟩
 rw[ea];exact⟨.ref _,_,I.lnew (t':=s.toks) (r.append r2) (by rw[B1];omega),rfl,q _ I.fresh⟩
theorem Pa:OpD X CL W (BO .Add) (CH .Add):=by
 intro A pI s σ H x y v u Q I rx ry ⟨hA,dx,dy,hx,hy,p⟩;cases dx with
 |int i=>
  cases dy with
  |int j=>
   have ex:=hx.int_of;have ey:=hy.int_of
   subst ex ey;exact Z6 pI s σ H _ _ v u Q I rx ry ⟨i,j,rfl,rfl,p _ H (AC.refl H) rfl⟩
  |_=>exact p.elim
 |str i=>
  cases dy with
  |str j=>
   have ex:=hx.str_of;have ey:=hy.str_of
   subst ex ey;simp only[aO]at p;split at p
   ·rename_i h;exact UE pI s σ H _ _ v u Q I rx ry ⟨i,j,rfl,rfl,GV h,p _ H (AC.refl H) rfl⟩
   ·exact p.elim
  |_=>exact p.elim
 |lst ds=>
  cases dy with
  |lst es=>
   obtain⟨a,xs,rfl,s1,r1⟩:=hx.lst_of;obtain⟨b,ys,rfl,s2,r2⟩:=hy.lst_of;simp only[MN]at p;split at p
   ·rename_i h;refine Pb pI s σ H _ _ v u Q I rx ry ⟨a,b,xs,ys,rfl,rfl,s1,s2,by rw[r1.length,r2.length];exact GV h,fun q hq=>?_⟩
    exact p _ _ (EA hq _) (Pe hA hq (r1.append r2))
   ·exact p.elim
  |_=>exact p.elim
 |tup ds=>
  cases dy with
  |tup es=>
   obtain⟨a,xs,rfl,na1,s1,r1⟩:=hx.tup_of;obtain⟨b,ys,rfl,_,s2,r2⟩:=hy.tup_of;simp only[aN]at p;split at p
   ·rename_i h;simp only[Al]at h;refine WS pI s σ H _ _ v u Q I rx ry ⟨a,b,xs,ys,rfl,rfl,s1,s2,?_,by rw[r1.length,r2.length];exact GV h.2,fun hy0=>?_,fun _ q hq=>?_⟩
    ·rintro rfl;cases ds with
     |nil=>cases h.1
     |cons _ _=>exact r1.elim
    ·subst hy0;cases es with
     |nil=>rw[Cf]at p;exact p _ H (AC.refl H) ⟨a,xs,rfl,na1,s1,r1⟩
     |cons _ _=>exact r2.elim
    ·exact p _ _ (EA hq _) (Ir hA hq (r1.append r2))
   ·exact p.elim
  |_=>exact p.elim
 |_=>exact p.elim
theorem Ku{op:F6}{C:Ae->Ae->Prop}{g:Ae->Ae->Ae}(ho:OpR X (BO op) (rI C fun i j=>.int (g i j)))(hg:∀ dx dy,(∃ i j,dx=.int i/\dy=.int j/\((C i j/\CH op dx dy=.ok (.int (g i j)))\/CH op dx dy=.bad))\/CH op dx dy=.bad):OpD X CL W (BO op) (CH op):=by
 intro A pI s σ H x y v u Q I rx ry ⟨hA,dx,dy,hx,hy,p⟩;rcases hg dx dy with ⟨i,j,rfl,rfl,⟨c,e⟩|e⟩|e
 ·have ex:=hx.int_of;have ey:=hy.int_of
  subst ex ey;rw[e]at p;exact ho pI s σ H _ _ v u Q I rx ry ⟨i,j,rfl,rfl,c,p _ H (AC.refl H) rfl⟩
 ·rw[e]at p;exact p.elim
 ·rw[e]at p;exact p.elim
theorem WL:OpD X CL W (BO .Sub) (CH .Sub):=by
 intro A pI s σ H x y v u Q I rx ry ⟨hA,dx,dy,hx,hy,p⟩;cases dx with
 |int i=>
  cases dy with
  |int j=>
   have ex:=hx.int_of;have ey:=hy.int_of
   subst ex ey;exact YV pI s σ H _ _ v u Q I rx ry ⟨i,j,rfl,rfl,p _ H (AC.refl H) rfl⟩
  |_=>exact p.elim
 |_=>exact p.elim
theorem WN:OpD X CL W (BO .Mult) (CH .Mult):=Ku WQ fun dx dy=>by
 cases dx with
 |int i=>
  cases dy with
  |int j=>
   refine .inl ⟨i,j,rfl,rfl,?_⟩;rw[aA];split
   ·rename_i h;exact .inl ⟨WU h,rfl⟩
   ·exact .inr rfl
  |_=>exact .inr rfl
 |_=>exact .inr rfl
theorem V3:OpD X CL W (BO .FloorDiv) (CH .FloorDiv):=Ku WR fun dx dy=>by
 cases dx with
 |int i=>
  cases dy with
  |int j=>
   refine .inl ⟨i,j,rfl,rfl,?_⟩;rw[XX];split
   ·rename_i h;exact .inl ⟨h,rfl⟩
   ·exact .inr rfl
  |_=>exact .inr rfl
 |_=>exact .inr rfl
theorem WO:OpD X CL W (BO .Mod) (CH .Mod):=Ku Z4 fun dx dy=>by
 cases dx with
 |int i=>
  cases dy with
  |int j=>
   refine .inl ⟨i,j,rfl,rfl,?_⟩;rw[aC];split
   ·rename_i h;exact .inl ⟨h,rfl⟩
   ·exact .inr rfl
  |_=>exact .inr rfl
 |_=>exact .inr rfl
theorem WM:OpD X CL W (BO .Pow) (CH .Pow):=Ku YW fun dx dy=>by
 cases dx with
 |int i=>
  cases dy with
  |int j=>
   refine .inl ⟨i,j,rfl,rfl,?_⟩;rw[Y9];split
   ·rename_i h;exact .inl ⟨⟨h.1.1,h.1.2,by omega⟩,rfl⟩
   ·exact .inr rfl
  |_=>exact .inr rfl
 |_=>exact .inr rfl
theorem O9(op:F6):OpD X CL W (BO op) (CH op):=by
 cases op with
 |Add=>exact Pa
 |Sub=>exact WL
 |Mult=>exact WN
 |FloorDiv=>exact V3
 |Mod=>exact WO
 |Pow=>exact WM
 |_=>
  intro A pI s σ H x y v u Q I rx ry ⟨hA,dx,dy,hx,hy,p⟩;cases dx<;>cases dy<;>exact p.elim
noncomputable abbrev A0:Ak->Prop:=fun _=>Bb
theorem Ct.plain(h:Ct K CL H A v d):Rep K CL H A0 v d:=by
 rcases h with h|⟨a,xs,ds,rfl,rfl,e,r⟩
 ·exact Rep.sub (fun _ z=>z.elim) d h
 ·exact⟨a,xs,rfl,.inl fun z=>z.elim,SqL.of e,Reps.sub (fun _ z=>z.elim) ds r⟩
mutual
theorem Vy:∀(n:Ag)(d:D),flD n d=Ab->eqD d d=Ab
 |_,.non,_=>rfl
 |_,.bl b,_=>by simp
 |_,.int i,_=>by simp
 |_,.str x,_=>by simp
 |n+1,.tup ds,h=>by
  show eqDs ds ds=Ab;exact eqDs_refl n ds h
 |n+1,.lst ds,h=>by
  show eqDs ds ds=Ab;exact eqDs_refl n ds h
 |0,.tup ds,h=>by cases h
 |0,.lst ds,h=>by cases h
 |n,.obj _ _,h=>by cases n<;>cases h
 |n,.exc _ _,h=>by cases n<;>cases h
 |n,.dic _,h=>by cases n<;>cases h
theorem eqDs_refl:∀(n:Ag)(ds:Ac D),ds.all (flD n)=Ab->eqDs ds ds=Ab
 |_,[],_=>rfl
 |n,d::ds,h=>by
  simp only[Fx,Al]at h;simp only[Lz,Al];exact⟨Vy n d h.1,eqDs_refl n ds h.2⟩
end
theorem Oe(I:Inv X pI σ H s)(h:SqL X.K H a xs)(h':SqT X.K H a ys):Bb:=by
 obtain⟨its,r,⟨o,n,e,c,_,_⟩,_⟩:=I.list h;obtain⟨its',r',⟨o',e',c',_⟩,_⟩:=I.tuple h';rw[e]at e';cases e';rw[c]at c'
 injection c' with z
 exact absurd z (by decide)
mutual
theorem Kt{pI:Pn}{σ:L2.St}{H:Hp}{s:Ap}(I:Inv X pI σ H s):∀(n:Ag)(d e:D){v:V},flD n d=Ab->flD n e=Ab->Rep X.K CL H A0 v d->Rep X.K CL H A0 v e->d=e
 |n,.tup ds,e,v,hd,he,r,q=>by
  obtain⟨a,xs,rfl,_,s1,r1⟩:=r;cases e with
  |tup es=>
   obtain⟨b,ys,e,_,s2,r2⟩:=q;cases e;have z:=I.tuple_inj s1 s2;subst z;cases n with
   |zero=>cases hd
   |succ n=>rw[reps_inj I n ds es hd he r1 r2]
  |lst es=>
   obtain⟨b,ys,e,_,s2,r2⟩:=q;cases e;exact(Oe I s2 s1).elim
  |obj=>cases n<;>cases he
  |exc=>cases n<;>cases he
  |dic=>cases n<;>cases he
  |_=>cases q
 |n,.lst ds,e,v,hd,he,r,q=>by
  obtain⟨a,xs,rfl,_,s1,r1⟩:=r;cases e with
  |lst es=>
   obtain⟨b,ys,e,_,s2,r2⟩:=q;cases e;have z:=I.list_inj s1 s2;subst z;cases n with
   |zero=>cases hd
   |succ n=>rw[reps_inj I n ds es hd he r1 r2]
  |tup es=>
   obtain⟨b,ys,e,_,s2,r2⟩:=q;cases e;exact(Oe I s1 s2).elim
  |obj=>cases n<;>cases he
  |exc=>cases n<;>cases he
  |dic=>cases n<;>cases he
  |_=>cases q
 |n,.obj _ _,e,v,hd,he,r,q=>by cases n<;>cases hd
 |n,.exc _ _,e,v,hd,he,r,q=>by cases n<;>cases hd
 |n,.dic _,e,v,hd,he,r,q=>by cases n<;>cases hd
 |n,.non,e,v,hd,he,r,q=>by
  cases r;cases e with
  |tup=>obtain⟨_,_,z,_⟩:=q;cases z
  |lst=>obtain⟨_,_,z,_⟩:=q;cases z
  |obj=>cases n<;>cases he
  |exc=>cases n<;>cases he
  |dic=>cases n<;>cases he
  |_=>cases q<;>rfl
 |n,.bl b,e,v,hd,he,r,q=>by
  cases r;cases e with
  |tup=>obtain⟨_,_,z,_⟩:=q;cases z
  |lst=>obtain⟨_,_,z,_⟩:=q;cases z
  |obj=>cases n<;>cases he
  |exc=>cases n<;>cases he
  |dic=>cases n<;>cases he
  |_=>cases q<;>rfl
 |n,.int b,e,v,hd,he,r,q=>by
  cases r;cases e with
  |tup=>obtain⟨_,_,z,_⟩:=q;cases z
  |lst=>obtain⟨_,_,z,_⟩:=q;cases z
  |obj=>cases n<;>cases he
  |exc=>cases n<;>cases he
  |dic=>cases n<;>cases he
  |_=>cases q<;>rfl
 |n,.str b,e,v,hd,he,r,q=>by
  cases r;cases e with
  |tup=>obtain⟨_,_,z,_⟩:=q;cases z
  |lst=>obtain⟨_,_,z,_⟩:=q;cases z
  |obj=>cases n<;>cases he
  |exc=>cases n<;>cases he
  |dic=>cases n<;>cases he
  |_=>cases q<;>rfl
theorem reps_inj{pI:Pn}{σ:L2.St}{H:Hp}{s:Ap}(I:Inv X pI σ H s):∀(n:Ag)(ds es:Ac D){xs:Ac V},ds.all (flD n)=Ab->es.all (flD n)=Ab->Reps X.K CL H A0 xs ds->Reps X.K CL H A0 xs es->ds=es
 |_,[],[],_,_,_,_,_=>rfl
 |n,d::ds,e::es,x::xs,hd,he,r,q=>by
  simp only[Fx,Al]at hd he;rw[Kt I n d e hd.1 he.1 r.1 q.1,reps_inj I n ds es hd.2 he.2 r.2 q.2]
 |_,[],_::_,[],_,_,_,q=>q.elim
 |_,[],_::_,_::_,_,_,r,_=>r.elim
 |_,_::_,[],[],_,_,r,_=>r.elim
 |_,_::_,[],_::_,_,_,_,q=>q.elim
 |_,_::_,_::_,[],_,_,r,_=>r.elim
end
theorem Jw:∀{ds es:Ac D},ds.length≠es.length->eqDs ds es=Ad
 |[],[],h=>absurd rfl h
 |[],_::_,_=>rfl
 |_::_,[],_=>rfl
 |d::ds,e::es,h=>by
  simp only[Lz,Jw (ds:=ds) (es:=es) (by simpa using h),GE]
theorem NC(n:Ag)(f:Ag->An):(Co (n+1)).all f=(f 0&&(Co n).all fun j=>f (j+1)):=by
 rw[Er,Fx,List.all_map];rfl
theorem Jx:∀{ds es:Ac D},ds.length=es.length->eqDs ds es=(Co ds.length).all fun j=>eqD (ds.getD j .non) (es.getD j .non)
 |[],[],_=>rfl
 |d::ds,e::es,h=>by
  rw[Lz,Jx (ds:=ds) (es:=es) (by simpa using h),BG,NC]
  rfl
 |[],_::_,h=>by cases h
 |_::_,[],h=>by cases h
theorem HC{ds:Ac D}{its:Ac Aj}(r:Reps K CL H A0 xs ds)(rv:AZ xs its)(h:j<its.length):∃ x,Rep K CL H A0 x (ds.getD j .non)/\By x its[j]:=by
 have e1:=rv.length;have e2:=r.length;have hd:ds[j]?=Aa (ds.getD j .non):=by
  rw[C8,Bo (by omega)];rfl
 obtain⟨x,hx,q⟩:=r.get hd;obtain⟨u,hu,ru⟩:=rv.get hx;refine⟨x,q,?_⟩;rw[Bo h]at hu;cases hu;exact ru
theorem Hw{ds:Ac D}(h:ds.all (flD n)=Ab)(j:Ag):flD n (ds.getD j .non)=Ab:=by
 rw[C8];cases e:ds[j]? with
 |none=>cases n<;>rfl
 |some d=>exact List.all_eq_true.mp h d (EN e)
def Cd(B:A6)(s:Ap)(u t:Aj)(k:An):Prop:=HW B s u t k/\EU B s u t k/\Hc B s u t (!k)
section
variable{B:A6}{s:Ap}
open SeqAt
theorem eR:Cd B s .none .none Ab:=⟨RcAt.none_none,EqAt.same _,RcNeAt.none_none⟩
theorem dF(a b:An):Cd B s (.bool a) (.bool b) (a==b):=⟨RcAt.bool_bool _ _,EqAt.bool_bool _ _,RcNeAt.bool_bool _ _⟩
theorem eU(b:An):Cd B s .none (.bool b) Ad:=⟨RcAt.none_bool _,EqAt.none_bool _,RcNeAt.none_bool _⟩
theorem dC(b:An):Cd B s (.bool b) .none Ad:=⟨RcAt.bool_none _,EqAt.bool_none _,RcNeAt.bool_none _⟩
theorem cY(a:Ae)(t:CO)(b:Ae)(u:CO):Cd B s (.int a t) (.int b u) (a==b):=⟨RcAt.int_int _ _ _ _,EqAt.int_int _ _ _ _,RcNeAt.int_int _ _ _ _⟩
theorem eG(a:Ah)(t:CO)(b:Ah)(u:CO):Cd B s (.str a t) (.str b u) (a==b):=⟨RcAt.str_str _ _ _ _,EqAt.str_str _ _ _ _,RcNeAt.str_str _ _ _ _⟩
theorem fB(a:Ae)(t:CO)(b:Ah)(u:CO):Cd B s (.int a t) (.str b u) Ad:=⟨RcAt.int_str _ _ _ _,EqAt.int_str _ _ _ _,RcNeAt.int_str _ _ _ _⟩
theorem eK(a:Ah)(t:CO)(b:Ae)(u:CO):Cd B s (.str a t) (.int b u) Ad:=⟨RcAt.str_int _ _ _ _,EqAt.str_int _ _ _ _,RcNeAt.str_int _ _ _ _⟩
theorem eT(b:Ae)(u:CO):Cd B s .none (.int b u) Ad:=⟨RcAt.none_int _ _,EqAt.none_int _ _,RcNeAt.none_int _ _⟩
theorem fC(b:Ae)(u:CO):Cd B s (.int b u) .none Ad:=⟨RcAt.int_none _ _,EqAt.int_none _ _,RcNeAt.int_none _ _⟩
theorem eQ(b:Ah)(u:CO):Cd B s .none (.str b u) Ad:=⟨RcAt.none_str _ _,EqAt.none_str _ _,RcNeAt.none_str _ _⟩
theorem eH(b:Ah)(u:CO):Cd B s (.str b u) .none Ad:=⟨RcAt.str_none _ _,EqAt.str_none _ _,RcNeAt.str_none _ _⟩
theorem dE(a:An)(b:Ae)(u:CO):Cd B s (.bool a) (.int b u) (b2i a==b):=⟨RcAt.bool_int _ _ _,EqAt.bool_int _ _ _,RcNeAt.bool_int _ _ _⟩
theorem cZ(a:An)(b:Ae)(u:CO):Cd B s (.int b u) (.bool a) (b==b2i a):=⟨RcAt.int_bool _ _ _,EqAt.int_bool _ _ _,RcNeAt.int_bool _ _ _⟩
theorem dB(a:An)(b:Ah)(u:CO):Cd B s (.bool a) (.str b u) Ad:=⟨RcAt.bool_str _ _ _,EqAt.bool_str _ _ _,RcNeAt.bool_str _ _ _⟩
theorem eN(a:An)(b:Ah)(u:CO):Cd B s (.str b u) (.bool a) Ad:=⟨RcAt.str_bool _ _ _,EqAt.str_bool _ _ _,RcNeAt.str_bool _ _ _⟩
variable{l:Ak}{items:Bi Aj}
theorem eX(h:s.heap.IsList l items)(hu:B.units<BV):Cd B s (.ref l) .none Ad:=⟨RcAt.list_none h hu,EqAt.list_none h hu,RcNeAt.list_none h hu⟩
theorem eS(h:s.heap.IsList l items)(hu:B.units<BV):Cd B s .none (.ref l) Ad:=⟨RcAt.none_list h hu,EqAt.none_list h hu,RcNeAt.none_list h hu⟩
theorem eZ(b:An)(h:s.heap.IsList l items)(hu:B.units<BV):Cd B s (.ref l) (.bool b) Ad:=⟨RcAt.list_bool b h hu,EqAt.list_bool b h hu,RcNeAt.list_bool b h hu⟩
theorem dD(b:An)(h:s.heap.IsList l items)(hu:B.units<BV):Cd B s (.bool b) (.ref l) Ad:=⟨RcAt.bool_list b h hu,EqAt.bool_list b h hu,RcNeAt.bool_list b h hu⟩
theorem eY(b:Ae)(u:CO)(h:s.heap.IsList l items)(hu:B.units<BV):Cd B s (.ref l) (.int b u) Ad:=⟨RcAt.list_int b u h hu,EqAt.list_int b u h hu,RcNeAt.list_int b u h hu⟩
theorem fD(b:Ae)(u:CO)(h:s.heap.IsList l items)(hu:B.units<BV):Cd B s (.int b u) (.ref l) Ad:=⟨RcAt.int_list b u h hu,EqAt.int_list b u h hu,RcNeAt.int_list b u h hu⟩
theorem eW(b:Ah)(u:CO)(h:s.heap.IsList l items)(hu:B.units<BV):Cd B s (.ref l) (.str b u) Ad:=⟨RcAt.list_str b u h hu,EqAt.list_str b u h hu,RcNeAt.list_str b u h hu⟩
theorem eI(b:Ah)(u:CO)(h:s.heap.IsList l items)(hu:B.units<BV):Cd B s (.str b u) (.ref l) Ad:=⟨RcAt.str_list b u h hu,EqAt.str_list b u h hu,RcNeAt.str_list b u h hu⟩
theorem eA(h:s.heap.IsTuple l items)(hu:B.units<BV):Cd B s (.ref l) .none Ad:=⟨RcAt.tuple_none h hu,EqAt.tuple_none h hu,RcNeAt.tuple_none h hu⟩
theorem eP(h:s.heap.IsTuple l items)(hu:B.units<BV):Cd B s .none (.ref l) Ad:=⟨RcAt.none_tuple h hu,EqAt.none_tuple h hu,RcNeAt.none_tuple h hu⟩
theorem eE(b:An)(h:s.heap.IsTuple l items)(hu:B.units<BV):Cd B s (.ref l) (.bool b) Ad:=⟨RcAt.tuple_bool b h hu,EqAt.tuple_bool b h hu,RcNeAt.tuple_bool b h hu⟩
theorem dA(b:An)(h:s.heap.IsTuple l items)(hu:B.units<BV):Cd B s (.bool b) (.ref l) Ad:=⟨RcAt.bool_tuple b h hu,EqAt.bool_tuple b h hu,RcNeAt.bool_tuple b h hu⟩
theorem eC(b:Ae)(u:CO)(h:s.heap.IsTuple l items)(hu:B.units<BV):Cd B s (.ref l) (.int b u) Ad:=⟨RcAt.tuple_int b u h hu,EqAt.tuple_int b u h hu,RcNeAt.tuple_int b u h hu⟩
theorem fA(b:Ae)(u:CO)(h:s.heap.IsTuple l items)(hu:B.units<BV):Cd B s (.int b u) (.ref l) Ad:=⟨RcAt.int_tuple b u h hu,EqAt.int_tuple b u h hu,RcNeAt.int_tuple b u h hu⟩
theorem dZ(b:Ah)(u:CO)(h:s.heap.IsTuple l items)(hu:B.units<BV):Cd B s (.ref l) (.str b u) Ad:=⟨RcAt.tuple_str b u h hu,EqAt.tuple_str b u h hu,RcNeAt.tuple_str b u h hu⟩
theorem eF(b:Ah)(u:CO)(h:s.heap.IsTuple l items)(hu:B.units<BV):Cd B s (.str b u) (.ref l) Ad:=⟨RcAt.str_tuple b u h hu,EqAt.str_tuple b u h hu,RcNeAt.str_tuple b u h hu⟩
theorem eV(h:s.heap.IsList l items)(h2:s.heap.IsTuple b items2)(hu:B.units<BV):Cd B s (.ref l) (.ref b) Ad:=⟨RcAt.list_tuple h h2 hu,EqAt.list_tuple h h2 hu,RcNeAt.list_tuple h h2 hu⟩
theorem eB(h:s.heap.IsTuple l items)(h2:s.heap.IsList b items2)(hu:B.units<BV):Cd B s (.ref l) (.ref b) Ad:=⟨RcAt.tuple_list h h2 hu,EqAt.tuple_list h h2 hu,RcNeAt.tuple_list h h2 hu⟩
end
end
section
variable{X:Cx}{CL:ClA}{W:XW}
theorem Gx(x:PlainL h a its):h.IsList a its:=let ⟨o,n,e,c,_,d⟩:=x;⟨o,e,c,n,d⟩
def jR(X:Cx)(CL:ClA)(H:Hp)(s:Ap)(d:D)(u:Aj):Prop:=match d with
  |.non=>u=.none
  |.bl b=>u=.bool b
  |.int i=>∃ t,u=.int i t
  |.str x=>∃ t,u=.str x t
  |.tup ds=>∃ a xs its,u=.ref a/\Reps X.K CL H A0 xs ds/\AZ xs its/\s.heap.IsTuple a its.toArray
  |.lst ds=>∃ a xs its,u=.ref a/\Reps X.K CL H A0 xs ds/\AZ xs its/\s.heap.IsList a its.toArray
  |_=>Bb
theorem Pp(I:Inv X pI σ H s)(hd:flD n d=Ab)(r:Rep X.K CL H A0 v d)(q:By v u):jR X CL H s d u:=by
 cases d with
 |non=>cases r;exact q
 |bl b=>cases r;exact q
 |int b=>cases r;exact q
 |str b=>cases r;exact q
 |tup ds=>
  obtain⟨a,xs,rfl,_,sq,r⟩:=r;obtain⟨its,rv,p,_⟩:=I.tuple sq;cases q;exact⟨a,xs,its,rfl,r,rv,p⟩
 |lst ds=>
  obtain⟨a,xs,rfl,_,sq,r⟩:=r;obtain⟨its,rv,p,_⟩:=I.list sq;cases q;exact⟨a,xs,its,rfl,r,rv,Gx p⟩
 |obj=>cases n<;>cases hd
 |exc=>cases n<;>cases hd
 |dic=>cases n<;>cases hd
theorem W8{B:A6}{its:Ac Aj}{ds es:Ac D}(hl:s.heap.IsList l its.toArray)(hb:s.heap.IsList b its2.toArray)(e1:its.length=ds.length)(e2:its2.length=es.length)(hu:B.units<BV)(hs:l=b->eqDs ds es=Ab)(he:∀ j (h1:j<its.length) (h2:j<its2.length),EU B.in1 s its[j] its2[j] (eqD (ds.getD j .non) (es.getD j .non))):Cd B s (.ref l) (.ref b) (eqDs ds es):=by
 have rc:HW B s (.ref l) (.ref b) (eqDs ds es):=by
  by_cases hz:its.length=its2.length
  ·have q:=SeqAt.RcAt.lists (e:=fun j=>eqD (ds.getD j .non) (es.getD j .non)) hl hb (by simpa using hz) hu (fun j h1 h2=>by simpa using he j (by simpa using h1) (by simpa using h2))
   rw[Jx (by omega)]
   have e:its.toArray.size=ds.length:=by simpa using e1
   rw[e]at q;exact q
  ·rw[Jw (by omega)]
   exact SeqAt.RcAt.lists_lengths hl hb (by simpa using hz) hu
 have ne:Hc B s (.ref l) (.ref b) (!eqDs ds es):=by
  by_cases hz:its.length=its2.length
  ·have q:=SeqAt.RcNeAt.lists (e:=fun j=>eqD (ds.getD j .non) (es.getD j .non)) hl hb (by simpa using hz) hu (fun j h1 h2=>by simpa using he j (by simpa using h1) (by simpa using h2))
   rw[Jx (by omega)]
   have e:its.toArray.size=ds.length:=by simpa using e1
   rw[e]at q;exact q
  ·rw[Jw (by omega)]
   exact SeqAt.RcNeAt.lists_lengths hl hb (by simpa using hz) hu
 refine⟨rc,?_,ne⟩;by_cases hlb:l=b
 ·rw[hs hlb,hlb];exact TC _
 ·exact TB hlb rc
theorem W7{B:A6}{its:Ac Aj}{ds es:Ac D}(hl:s.heap.IsTuple l its.toArray)(hb:s.heap.IsTuple b its2.toArray)(e1:its.length=ds.length)(e2:its2.length=es.length)(hu:B.units<BV)(hs:l=b->eqDs ds es=Ab)(he:∀ j (h1:j<its.length) (h2:j<its2.length),EU B.in1 s its[j] its2[j] (eqD (ds.getD j .non) (es.getD j .non))):Cd B s (.ref l) (.ref b) (eqDs ds es):=by
 have rc:HW B s (.ref l) (.ref b) (eqDs ds es):=by
  have q:=SeqAt.RcAt.tuples (e:=fun j=>eqD (ds.getD j .non) (es.getD j .non)) hl hb hu (fun j h1 h2=>by simpa using he j (by simpa using h1) (by simpa using h2))
  have e:its.toArray.size=ds.length:=by simpa using e1
  have e':its2.toArray.size=es.length:=by simpa using e2
  rw[e,e']at q;by_cases hz:ds.length=es.length
  ·rw[Jx hz];rw[hz,SV,C0,R8]at q;rw[hz];exact q
  ·rw[Jw hz];rw[CQ.mpr hz,GE]at q;exact q
 have ne:Hc B s (.ref l) (.ref b) (!eqDs ds es):=by
  have q:=SeqAt.RcNeAt.tuples (e:=fun j=>eqD (ds.getD j .non) (es.getD j .non)) hl hb hu (fun j h1 h2=>by simpa using he j (by simpa using h1) (by simpa using h2))
  have e:its.toArray.size=ds.length:=by simpa using e1
  have e':its2.toArray.size=es.length:=by simpa using e2
  rw[e,e']at q;by_cases hz:ds.length=es.length
  ·rw[Jx hz];rw[hz,SV,C0,R8]at q;rw[hz];exact q
  ·rw[Jw hz];rw[CQ.mpr hz,GE]at q;exact q
 refine⟨rc,?_,ne⟩;by_cases hlb:l=b
 ·rw[hs hlb,hlb];exact TC _
 ·exact TB hlb rc
theorem JK{pI:Pn}{σ:L2.St}{H:Hp}{s:Ap}(I:Inv X pI σ H s):∀(n:Ag)(d e:D)(v w':V)(u t:Aj)(B:A6),flD n d=Ab->flD n e=Ab->Rep X.K CL H A0 v d->Rep X.K CL H A0 w' e->By v u->By w' t->B.units+n<BV->Cd B s u t (eqD d e)
  |n,d,e,v,w',u,t,B,hd,he,r,q,rv,rw',hu=>by
    have hu0:B.units<BV:=by omega
    have sd:=Pp I hd r rv;have se:=Pp I he q rw'
    match d,e,sd,se with
    |.non,.non,s1,s2=>cases s1;cases s2;exact eR
    |.non,.bl b,s1,s2=>cases s1;cases s2;exact eU b
    |.non,.int b,s1,s2=>cases s1;obtain⟨_,rfl⟩:=s2;exact eT b _
    |.non,.str b,s1,s2=>cases s1;obtain⟨_,rfl⟩:=s2;exact eQ b _
    |.non,.tup es,s1,s2=>cases s1;obtain⟨_,_,_,rfl,_,_,p⟩:=s2;exact eP p hu0
    |.non,.lst es,s1,s2=>cases s1;obtain⟨_,_,_,rfl,_,_,p⟩:=s2;exact eS p hu0
    |.bl a,.non,s1,s2=>cases s1;cases s2;exact dC a
    |.bl a,.bl b,s1,s2=>cases s1;cases s2;exact dF a b
    |.bl a,.int b,s1,s2=>cases s1;obtain⟨_,rfl⟩:=s2;exact dE a b _
    |.bl a,.str b,s1,s2=>cases s1;obtain⟨_,rfl⟩:=s2;exact dB a b _
    |.bl a,.tup es,s1,s2=>cases s1;obtain⟨_,_,_,rfl,_,_,p⟩:=s2;exact dA a p hu0
    |.bl a,.lst es,s1,s2=>cases s1;obtain⟨_,_,_,rfl,_,_,p⟩:=s2;exact dD a p hu0
    |.int a,.non,s1,s2=>obtain⟨_,rfl⟩:=s1;cases s2;exact fC a _
    |.int a,.bl b,s1,s2=>obtain⟨_,rfl⟩:=s1;cases s2;exact cZ b a _
    |.int a,.int b,s1,s2=>obtain⟨_,rfl⟩:=s1;obtain⟨_,rfl⟩:=s2;exact cY a _ b _
    |.int a,.str b,s1,s2=>obtain⟨_,rfl⟩:=s1;obtain⟨_,rfl⟩:=s2;exact fB a _ b _
    |.int a,.tup es,s1,s2=>obtain⟨_,rfl⟩:=s1;obtain⟨_,_,_,rfl,_,_,p⟩:=s2;exact fA a _ p hu0
    |.int a,.lst es,s1,s2=>obtain⟨_,rfl⟩:=s1;obtain⟨_,_,_,rfl,_,_,p⟩:=s2;exact fD a _ p hu0
    |.str a,.non,s1,s2=>obtain⟨_,rfl⟩:=s1;cases s2;exact eH a _
    |.str a,.bl b,s1,s2=>obtain⟨_,rfl⟩:=s1;cases s2;exact eN b a _
    |.str a,.int b,s1,s2=>obtain⟨_,rfl⟩:=s1;obtain⟨_,rfl⟩:=s2;exact eK a _ b _
    |.str a,.str b,s1,s2=>obtain⟨_,rfl⟩:=s1;obtain⟨_,rfl⟩:=s2;exact eG a _ b _
    |.str a,.tup es,s1,s2=>obtain⟨_,rfl⟩:=s1;obtain⟨_,_,_,rfl,_,_,p⟩:=s2;exact eF a _ p hu0
    |.str a,.lst es,s1,s2=>obtain⟨_,rfl⟩:=s1;obtain⟨_,_,_,rfl,_,_,p⟩:=s2;exact eI a _ p hu0
    |.tup ds,.non,s1,s2=>cases s2;obtain⟨_,_,_,rfl,_,_,p⟩:=s1;exact eA p hu0
    |.tup ds,.bl b,s1,s2=>cases s2;obtain⟨_,_,_,rfl,_,_,p⟩:=s1;exact eE b p hu0
    |.tup ds,.int b,s1,s2=>obtain⟨_,rfl⟩:=s2;obtain⟨_,_,_,rfl,_,_,p⟩:=s1;exact eC b _ p hu0
    |.tup ds,.str b,s1,s2=>obtain⟨_,rfl⟩:=s2;obtain⟨_,_,_,rfl,_,_,p⟩:=s1;exact dZ b _ p hu0
    |.tup ds,.lst es,s1,s2=>obtain⟨_,_,_,rfl,_,_,p⟩:=s1;obtain⟨_,_,_,rfl,_,_,p2⟩:=s2;exact eB p p2 hu0
    |.lst ds,.non,s1,s2=>cases s2;obtain⟨_,_,_,rfl,_,_,p⟩:=s1;exact eX p hu0
    |.lst ds,.bl b,s1,s2=>cases s2;obtain⟨_,_,_,rfl,_,_,p⟩:=s1;exact eZ b p hu0
    |.lst ds,.int b,s1,s2=>obtain⟨_,rfl⟩:=s2;obtain⟨_,_,_,rfl,_,_,p⟩:=s1;exact eY b _ p hu0
    |.lst ds,.str b,s1,s2=>obtain⟨_,rfl⟩:=s2;obtain⟨_,_,_,rfl,_,_,p⟩:=s1;exact eW b _ p hu0
    |.lst ds,.tup es,s1,s2=>obtain⟨_,_,_,rfl,_,_,p⟩:=s1;obtain⟨_,_,_,rfl,_,_,p2⟩:=s2;exact eV p p2 hu0
    |.tup ds,.tup es,s1,s2=>
      match n,hd,he,hu with
      |n+1,hd,he,hu=>
        obtain⟨a,xs,its,rfl,r1,v1,p1⟩:=s1;obtain⟨b,ys,its2,rfl,r2,v2,p2⟩:=s2;have l1:=v1.length;have l2:=r1.length;have l3:=v2.length;have l4:=r2.length
        refine W7 p1 p2 (by omega) (by omega) hu0 (fun hab=>?_) fun j h1 h2=>?_
        · have e1:v=.ref a:=By.inj rv rfl;have e2:w'=.ref b:=By.inj rw' rfl;subst e1 e2 hab;have z:=Kt I (n+1) _ _ hd he r q
          injection z with z
          rw[z];exact eqDs_refl n es he
        · obtain⟨x,rx,qx⟩:=HC r1 v1 h1;obtain⟨y,ry,qy⟩:=HC r2 v2 h2;exact(JK I n _ _ x y _ _ B.in1 (Hw hd j) (Hw he j) rx ry qx qy (by show B.units+1+n<BV;omega)).2.1
    |.lst ds,.lst es,s1,s2=>
      match n,hd,he,hu with
      |n+1,hd,he,hu=>
        obtain⟨a,xs,its,rfl,r1,v1,p1⟩:=s1;obtain⟨b,ys,its2,rfl,r2,v2,p2⟩:=s2;have l1:=v1.length;have l2:=r1.length;have l3:=v2.length;have l4:=r2.length
        refine W8 p1 p2 (by omega) (by omega) hu0 (fun hab=>?_) fun j h1 h2=>?_
        · have e1:v=.ref a:=By.inj rv rfl;have e2:w'=.ref b:=By.inj rw' rfl;subst e1 e2 hab;have z:=Kt I (n+1) _ _ hd he r q
          injection z with z
          rw[z];exact eqDs_refl n es he
        · obtain⟨x,rx,qx⟩:=HC r1 v1 h1;obtain⟨y,ry,qy⟩:=HC r2 v2 h2;exact(JK I n _ _ x y _ _ B.in1 (Hw hd j) (Hw he j) rx ry qx qy (by show B.units+1+n<BV;omega)).2.1
    |.obj _ _,_,s1,_=>exact s1.elim
    |.exc _ _,_,s1,_=>exact s1.elim
    |.dic _,_,s1,_=>exact s1.elim
    |_,.obj _ _,_,s2=>exact s2.elim
    |_,.exc _ _,_,s2=>exact s2.elim
    |_,.dic _,_,s2=>exact s2.elim
end
section
variable{X:Cx}{CL:ClA}{W:XW}
theorem KP(I:Inv X pI σ H s){ds:Ac D}{its:Ac Aj}(B:A6)(hd:flD n d=Ab)(hs:ds.all (flD n)=Ab)(r:Reps X.K CL H A0 xs ds)(rv:AZ xs its)(q:Rep X.K CL H A0 v d)(qv:By v u)(hu:B.units+n<BV):∃ e:Aj->An,(∀ y,y∈its.toArray->EU B s y u (e y))/\its.toArray.any e=ds.any fun y=>eqD y d:=by
 have l1:=rv.length;have l2:=r.length
 have key:∀ y,y∈its->∃ k:An,EU B s y u k/\∀ j (h:j<its.length),its[j]=y->eqD (ds.getD j .non) d=k:=fun y hy=>by
  obtain⟨j,hj,rfl⟩:=E5 hy;obtain⟨x,rx,qx⟩:=HC r rv hj;refine⟨eqD (ds.getD j .non) d,(JK I n _ _ x v _ _ B (Hw hs j) hd rx q qx qv hu).2.1,fun j' hj' e=>?_⟩
  obtain⟨x',rx',qx'⟩:=HC r rv hj';rw[e]at qx';have z:=By.inj qx qx';subst z;rw[Kt I n _ _ (Hw hs j') (Hw hs j) rx' rx]
 have key2:∀ y,∃ k:An,y∈its->EU B s y u k/\∀ j (h:j<its.length),its[j]=y->eqD (ds.getD j .non) d=k:=fun y=>by
  by_cases hy:y∈its
  ·obtain⟨k,hk⟩:=key y hy;exact⟨k,fun _=>hk⟩
  ·exact⟨Ab,fun h=>absurd h hy⟩
 refine⟨fun y=>Sa (key2 y),fun y hy=>(DL (key2 y) (by simpa using hy)).1,?_⟩
 rw[CI];simp only[List.any_toArray,Si];constructor
 ·rintro⟨y,hy,hk⟩;obtain⟨j,hj,rfl⟩:=E5 hy;have z:=(DL (key2 its[j]) hy).2 j hj rfl;rw[hk]at z;refine⟨ds.getD j .non,?_,z⟩;rw[C8,Bo (by omega)]
  exact Ey _
 ·rintro⟨y,hy,hk⟩;obtain⟨j,hj,rfl⟩:=E5 hy;have hj':j<its.length:=by omega
  refine⟨its[j],Ey _,?_⟩;have z:=(DL (key2 its[j]) (Ey _)).2 j hj' rfl;rw[<-z,C8,Bo hj];exact hk
theorem Ko{g:Ae->Ae->An}(ho:OpR X (Ca op) (rI0 fun i j=>.bl (g i j)))(hg:∀ dx dy,(∃ i j,dx=.int i/\dy=.int j/\BN op dx dy=.ok (.bl (g i j)))\/BN op dx dy=.bad):OpD X CL W (Ca op) (BN op):=by
 intro A pI s σ H x y v u Q I rx ry ⟨hA,dx,dy,hx,hy,p⟩;rcases hg dx dy with ⟨i,j,rfl,rfl,e⟩|e
 ·have ex:=hx.int_of;have ey:=hy.int_of
  subst ex ey;rw[e]at p;exact ho pI s σ H _ _ v u Q I rx ry ⟨i,j,rfl,rfl,p _ H (AC.refl H) rfl⟩
 ·rw[e]at p;exact p.elim
theorem Qn{x:V}(h:Ct X.K CL H A x d)(hd:d≠.non):x≠.non:=by
 rintro rfl;have h:=h.plain;cases d with
 |non=>exact hd rfl
 |tup=>obtain⟨_,_,e,_⟩:=h;cases e
 |lst=>obtain⟨_,_,e,_⟩:=h;cases e
 |obj=>obtain⟨_,_,_,_,e,_⟩:=h;cases e
 |exc=>obtain⟨_,_,_,e,_⟩:=h;cases e
 |dic=>exact h.elim
 |_=>cases h
theorem Iq(hu:X.A.units+64<BV)(op:DK):OpD X CL W (Ca op) (BN op):=by
 cases op with
 |Eq=>
  intro A pI s σ H x y v u Q I rx ry ⟨hA,dx,dy,hx,hy,p⟩;rw[gZ]at p;split at p
  ·rename_i h;simp only[Al]at h;exact(JK I 5 dx dy x y v u X.A h.1 h.2 hx.plain hy.plain rx ry (by omega)).1 X.prog X.w X.xe _ ⟨.bl _,H,I,rfl,p _ H (AC.refl H) rfl⟩
  ·exact p.elim
 |NotEq=>
  intro A pI s σ H x y v u Q I rx ry ⟨hA,dx,dy,hx,hy,p⟩;rw[fX]at p;split at p
  ·rename_i h;simp only[Al]at h;exact(JK I 5 dx dy x y v u X.A h.1 h.2 hx.plain hy.plain rx ry (by omega)).2.2 X.prog X.w X.xe _ ⟨.bl _,H,I,rfl,p _ H (AC.refl H) rfl⟩
  ·exact p.elim
 |Lt=>exact Ko fQ fun dx dy=>by cases dx<;>cases dy<;>first|exact .inl ⟨_,_,rfl,rfl,rfl⟩|exact .inr rfl
 |LtE=>exact Ko fR fun dx dy=>by cases dx<;>cases dy<;>first|exact .inl ⟨_,_,rfl,rfl,rfl⟩|exact .inr rfl
 |Gt=>exact Ko fS fun dx dy=>by cases dx<;>cases dy<;>first|exact .inl ⟨_,_,rfl,rfl,rfl⟩|exact .inr rfl
 |GtE=>exact Ko fT fun dx dy=>by cases dx<;>cases dy<;>first|exact .inl ⟨_,_,rfl,rfl,rfl⟩|exact .inr rfl
 |In=>
  intro A pI s σ H x y v u Q I rx ry ⟨hA,dx,dy,hx,hy,p⟩;cases dy with
  |lst es=>
   rw[iB]at p;split at p
   ·rename_i h;simp only[Al]at h;obtain⟨a,xs,e,_,sq,r⟩:=hy.plain;subst e;cases ry;obtain⟨its,rv,pl,_⟩:=I.list sq;obtain⟨e,he,ha⟩:=KP I (n:=5) X.A.in1 h.1 h.2 r rv hx.plain rx (by show X.A.units+1+5<BV;omega)
    refine SeqAt.in_listAt e (Gx pl) he ?_;rw[ha];exact⟨.bl _,H,I,rfl,p _ H (AC.refl H) rfl⟩
   ·exact p.elim
  |tup es=>
   rw[iA]at p;split at p
   ·rename_i h;simp only[Al]at h;obtain⟨a,xs,e,_,sq,r⟩:=hy.plain;subst e;cases ry;obtain⟨its,rv,pl,_⟩:=I.tuple sq;obtain⟨e,he,ha⟩:=KP I (n:=5) X.A.in1 h.1 h.2 r rv hx.plain rx (by show X.A.units+1+5<BV;omega)
    refine SeqAt.in_tupleAt e pl he ?_;rw[ha];exact⟨.bl _,H,I,rfl,p _ H (AC.refl H) rfl⟩
   ·exact p.elim
  |dic kvs=>exact hy.plain.elim
  |_=>cases dx<;>exact p.elim
 |NotIn=>
  intro A pI s σ H x y v u Q I rx ry ⟨hA,dx,dy,hx,hy,p⟩;cases dy with
  |lst es=>
   rw[fV]at p;split at p
   ·rename_i h;simp only[Al]at h;obtain⟨a,xs,e,_,sq,r⟩:=hy.plain;subst e;cases ry;obtain⟨its,rv,pl,_⟩:=I.list sq;obtain⟨e,he,ha⟩:=KP I (n:=5) X.A.in1 h.1 h.2 r rv hx.plain rx (by show X.A.units+1+5<BV;omega)
    refine SeqAt.notIn_listAt e (Gx pl) he ?_;rw[ha];exact⟨.bl _,H,I,rfl,p _ H (AC.refl H) rfl⟩
   ·exact p.elim
  |tup es=>
   rw[fU]at p;split at p
   ·rename_i h;simp only[Al]at h;obtain⟨a,xs,e,_,sq,r⟩:=hy.plain;subst e;cases ry;obtain⟨its,rv,pl,_⟩:=I.tuple sq;obtain⟨e,he,ha⟩:=KP I (n:=5) X.A.in1 h.1 h.2 r rv hx.plain rx (by show X.A.units+1+5<BV;omega)
    refine SeqAt.notIn_tupleAt e pl he ?_;rw[ha];exact⟨.bl _,H,I,rfl,p _ H (AC.refl H) rfl⟩
   ·exact p.elim
  |_=>cases dx<;>exact p.elim
 |Is=>
  intro A pI s σ H x y v u Q I rx ry ⟨hA,dx,dy,hx,hy,p⟩;cases dy with
  |non=>
   have ey:=hy.non_of;subst ey;refine Z5 pI s σ H _ _ v u Q I rx ry ⟨rfl,?_⟩;cases dx with
   |non=>
    have ex:=hx.non_of;subst ex;exact p _ H (AC.refl H) rfl
   |exc=>exact p.elim
   |dic=>exact p.elim
   |_=>rw[Cv (Qn hx (by simp))];exact p _ H (AC.refl H) rfl
  |bl b=>
   cases dx with
   |bl a=>
    have ey:=hy.bl_of;have ex:=hx.bl_of;subst ex ey;cases rx;cases ry;refine wpAny_is_plain rfl ⟨.bl (a==b),H,I,?_,p _ H (AC.refl H) rfl⟩;cases a<;>cases b<;>rfl
   |_=>exact p.elim
  |_=>cases dx<;>exact p.elim
 |IsNot=>
  intro A pI s σ H x y v u Q I rx ry ⟨hA,dx,dy,hx,hy,p⟩;cases dy with
  |non=>
   have ey:=hy.non_of;subst ey;refine WP pI s σ H _ _ v u Q I rx ry ⟨rfl,?_⟩;cases dx with
   |non=>
    have ex:=hx.non_of;subst ex;exact p _ H (AC.refl H) rfl
   |exc=>exact p.elim
   |dic=>exact p.elim
   |_=>rw[Cv (Qn hx (by simp))];exact p _ H (AC.refl H) rfl
  |bl b=>
   cases dx with
   |bl a=>
    have ey:=hy.bl_of;have ex:=hx.bl_of;subst ex ey;cases rx;cases ry;refine wpAny_isNot_plain rfl ⟨.bl (!(a==b)),H,I,?_,p _ H (AC.refl H) rfl⟩;cases a<;>cases b<;>rfl
   |_=>exact p.elim
  |_=>cases dx<;>exact p.elim
end
section
variable{X:Cx}{CL:ClA}{W:XW}{a b c:Ao}{fa fb fc:Rho->R D}{pos:AU}
theorem CC.bind{f:D->R An}{Q:An->Hp->Prop}{Q':VK}(h:CC W H (r.bind f) Q)(k:∀ d v H',r=.ok d->AC H H'->Rp H' v d->CC W H' (f d) Q->Q' v H'):Ba Rp W H r Q':=by
 cases r with
 |ok d=>exact fun v H2 s2 q=>k d v H2 rfl s2 q (CC.same s2 h)
 |exn x=>exact h
 |bad=>exact h
theorem CC.bindB{r:R An}{f:An->R An}{Q:An->Hp->Prop}{Q':An->Hp->Prop}(h:CC W H (r.bind f) Q)(k:∀ b H',r=.ok b->AC H H'->CC W H' (f b) Q->Q' b H'):CC W H r Q':=by
 cases r with
 |ok d=>exact fun H2 s2=>k d H2 rfl s2 (CC.same s2 h)
 |exn x=>exact h
 |bad=>exact h
theorem Gg.bind{Rp:Hp->Ac V->Ac D->Prop}{r:R (Ac D)}{f:Ac D->R D}{Q':Ac V->Hp->Prop}(h:Ba Rq W H (r.bind f) Q)(k:∀ d v H',r=.ok d->AC H H'->Rp H' v d->Ba Rq W H' (f d) Q->Q' v H'):Gg Rp W H r Q':=by
 cases r with
 |ok d=>exact fun v H2 s2 q=>k d v H2 rfl s2 q (Ba.same s2 h)
 |exn x=>exact h
 |bad=>exact h
theorem Kg{f:An->R D}(h:Ba Rq W H ((Dc d).bind f) Q):∃ c,d=.bl c/\Ba Rq W H (f c) Q:=by
 cases d with
 |bl c=>exact⟨c,rfl,h⟩
 |_=>exact h.elim
theorem Yj(ha:ST X CL W a fa):SE X CL W (.UnaryOp .Not a pos) (fun ρ=>(fa ρ).bind fun x=>(Dc x).bind fun b=>.ok (.bl (!b))):=fun A=>PE.weak (YN (ha A)) fun σ H Q ⟨hA,ρ,g,p⟩=>⟨hA,ρ,g,Ba.bind p fun d v H1 _ s1 r1 p1=>by
 obtain⟨c,rfl,p2⟩:=Kg p1;exact⟨c,r1.bl_of,p2 _ H1 (AC.refl H1) rfl⟩⟩
theorem Qa{op}(ha:SE X CL W a fa):SE X CL W (.BoolOp op [a] pos) fa:=fun A=>Zi (ha A)
theorem Zj{rest:Ac Ao}(ha:SE X CL W a fa)(hb:SE X CL W (.BoolOp .And (b::rest) pos) fb):SE X CL W (.BoolOp .And (a::b::rest) pos) (fun ρ=>(fa ρ).bind fun x=>(Dc x).bind fun c=>if c=Ab then fb ρ else .ok (.bl Ad)):=
 fun A=>PE.weak (YT (ha A) (hb A)) fun σ H Q ⟨hA,ρ,g,p⟩=>⟨hA,ρ,g,Ba.bind p fun d v H1 _ s1 r1 p1=>by
  obtain⟨c,rfl,p2⟩:=Kg p1;refine⟨c,r1,?_⟩;cases c with
  |true=>exact⟨hA.same s1,ρ,g.same s1,p2⟩
  | false=>exact p2 _ H1 (AC.refl H1) rfl⟩
theorem bQ{rest:Ac Ao}(ha:SE X CL W a fa)(hb:SE X CL W (.BoolOp .Or (b::rest) pos) fb):SE X CL W (.BoolOp .Or (a::b::rest) pos) (fun ρ=>(fa ρ).bind fun x=>(Dc x).bind fun c=>if c=Ab then .ok (.bl Ab) else fb ρ):=
 fun A=>PE.weak (cR (ha A) (hb A)) fun σ H Q ⟨hA,ρ,g,p⟩=>⟨hA,ρ,g,Ba.bind p fun d v H1 _ s1 r1 p1=>by
  obtain⟨c,rfl,p2⟩:=Kg p1;refine⟨c,r1,?_⟩;cases c with
  |false=>exact⟨hA.same s1,ρ,g.same s1,p2⟩
  | true=>exact p2 _ H1 (AC.refl H1) rfl⟩
theorem VN{op':DK}(hu:X.A.units+64<BV)(ha:ST X CL W a fa)(hb:ST X CL W b fb)(hc:ST X CL W c fc)(hm:Hf [op,op'] [b,c]=Ad):SE X CL W (.Compare a [op,op'] [b,c] pos) (fun ρ=>(fa ρ).bind fun x=>(fb ρ).bind fun y=>(BN op x y).bind fun z=>(Dc z).bind fun k=>if k=Ab then (fc ρ).bind fun u=>BN op' y u else .ok (.bl Ad)):=
 fun A=>PE.weak (V1 (Iq hu op A) (Iq hu op' A) (ha A) (hb A) (hc A) hm) fun σ H Q ⟨hA,ρ,g,p⟩=>⟨hA,ρ,g,Ba.bind p fun dx x H1 _ s1 r1 p1=>⟨hA.same s1,ρ,g.same s1,Ba.bind p1 fun dy y H2 _ s2 r2 p2=>
  ⟨(hA.same s1).same s2,dx,dy,r1.same s2,r2,Ba.bind p2 fun dz z H3 _ s3 r3 p3=>by
   obtain⟨k,rfl,p4⟩:=Kg p3;refine⟨k,r3,?_⟩;cases k with
   |false=>exact p4 _ H3 (AC.refl H3) rfl
   | true=>exact⟨((hA.same s1).same s2).same s3,ρ,((g.same s1).same s2).same s3,Ba.bind p4 fun du u H4 _ s4 r4 p5=>⟨(((hA.same s1).same s2).same s3).same s4,dy,du,(r2.same s3).same s4,r4,p5⟩⟩⟩⟩⟩
theorem XR{xs:Ac D}{i:Ae}(h:Dk xs i=.ok d):∃ k,plD xs.length i=Aa k/\xs[k]?=Aa d:=by
 unfold Dk at h;split at h
 ·rename_i k e;split at h
  ·rename_i d' e';cases h;exact⟨k,e,e'⟩
  ·cases h
 ·cases h
theorem OZ{xs:Ac D}{i:Ae}(h:Dk xs i=.exn x):Bb:=by
 unfold Dk at h;split at h
 ·split at h<;>cases h
 ·cases h
theorem Pu{ds:Ac D}{i:Ae}(r:Reps K CL H A xs ds)(h:Dk ds i=.ok d):∃ v,atI xs i=Aa v/\Rep K CL H A v d:=by
 obtain⟨k,e,q⟩:=XR h;obtain⟨v,hv,rv⟩:=r.get q;refine⟨v,?_,rv⟩;unfold atI;have:ixN xs.length i=Aa k:=by rw[r.length];exact e
 rw[this];exact hv
theorem Yn(hs:Mb b)(ha:ST X CL W a fa)(hb:ST X CL W b fb):SE X CL W (.Subscript a b pos) (fun ρ=>(fa ρ).bind fun x=>(fb ρ).bind fun y=>AT x y):=
 fun A=>PE.weak (cS (r:=fun x y H Q=>Rz X.K x y H Q\/Ry X.K x y H Q) (WC.or ZO) (ha A) (hb A) hs) fun σ H Q h=>by
  obtain⟨hA,ρ,g,h⟩:=op2 h;refine⟨hA,ρ,g,?_⟩;cases e:fa ρ with
  |bad=>rw[e]at h;exact h
  |exn x=>rw[e]at h;exact h
  |ok dx0=>
   rw[e]at h;intro x H1 s1 r1;obtain⟨hA1,ρ1,g1,h1⟩:=h x H1 s1 r1;refine⟨hA1,ρ1,g1,?_⟩;cases e1:fb ρ1 with
   |bad=>rw[e1]at h1;exact h1
   |exn x=>rw[e1]at h1;exact h1
   |ok dy0=>
    rw[e1]at h1;intro y H2 s2 r2;obtain⟨hA2,dx,dy,rx,ry,p⟩:=h1 y H2 s2 r2;cases dy with
    |int i=>
     have ey:=ry.int_of;subst ey;cases dx with
     |lst ds=>
      obtain⟨q,xs,rfl,sq,r⟩:=rx.lst_of;rw[fH]at p;cases e2:Dk ds i with
      |ok d=>
       rw[e2]at p;obtain⟨v,hv,rv⟩:=Pu r e2;exact .inl ⟨q,xs,i,v,rfl,rfl,sq,hv,p v H2 (AC.refl H2) rv⟩
      |exn x=>exact(OZ e2).elim
      |bad=>rw[e2]at p;exact p.elim
     |tup ds=>
      obtain⟨q,xs,rfl,_,sq,r⟩:=rx.tup_of;rw[fG]at p;cases e2:Dk ds i with
      |ok d=>
       rw[e2]at p;obtain⟨v,hv,rv⟩:=Pu r e2;exact .inr ⟨q,xs,i,v,rfl,rfl,sq,hv,p v H2 (AC.refl H2) rv⟩
      |exn x=>exact(OZ e2).elim
      |bad=>rw[e2]at p;exact p.elim
     |dic=>exact rx.plain.elim
     |_=>exact p.elim
    |_=>cases dx<;>first|exact p.elim|exact rx.plain.elim
theorem Zn:SA X CL W [] (fun _=>.ok []):=fun A=>PA.weak Gb fun σ H Q ⟨hA,ρ,g,p⟩=>p [] H (AC.refl H) trivial
theorem W5(ha:SE X CL W a fa)(hs:SA X CL W es fs)(hst:Ay (a::es) X.env=(Ad,eval a X.env)::Ay es X.env):SA X CL W (a::es) (fun ρ=>(fa ρ).bind fun x=>(fs ρ).bind fun xs=>.ok (x::xs)):=
 fun A=>PA.weak (EB (ha A) (hs A) hst) fun σ H Q ⟨hA,ρ,g,p⟩=>by
  dsimp only at p;refine⟨hA,ρ,g,?_⟩;cases e:fa ρ with
  |bad=>rw[e]at p;exact p
  |exn x=>rw[e]at p;exact p
  |ok d=>
   rw[e]at p;intro v H1 s1 r1;refine⟨hA.same s1,ρ,g.same s1,?_⟩;cases e1:fs ρ with
   |bad=>rw[R.bind_ok,e1]at p;exact p
   |exn x=>rw[R.bind_ok,e1]at p;exact fun H2 s2=>p H2 (s1.trans s2)
   |ok ds=>
    rw[R.bind_ok,e1]at p;exact fun vs H2 s2 r2=>p (v::vs) H2 (s1.trans s2) ⟨r1.same s2,r2⟩
theorem Yh(hs:SA X CL W es fs)(hz:∀ ρ ds,fs ρ=.ok ds->ds.length<=100000):SE X CL W (.Tuple es k pos) (fun ρ=>(fs ρ).bind fun xs=>.ok (.tup xs)):=
 fun A=>PE.weak (Zg (hs A)) fun σ H Q ⟨hA,ρ,g,p⟩=>⟨hA,ρ,g,Gg.bind p fun ds vs H1 e s1 r1 p1=>⟨by
  rw[r1.length,D3];have:=hz ρ ds e;omega,fun q hq=>p1 _ _ (EA hq _) (Ir (hA.same s1) hq r1)⟩⟩
def HJ(W:XW)(H:Hp)(r:R (Aq Ae))(Q:Aq Ae->Hp->Prop):Prop:=match r with
  |.ok o=>∀ H',AC H H'->Q o H'
  |.exn x=>∀ H',AC H H'->W x H'
  |.bad=>Bb
theorem HJ.bind{r:R (Aq Ae)}{f:Aq Ae->R D}(h:Ba Rq W H (r.bind f) Q)(k:∀ o H',r=.ok o->AC H H'->Ba Rq W H' (f o) Q->Q' o H'):HJ W H r Q':=by
 cases r with
 |ok d=>exact fun H2 s2=>k d H2 rfl s2 (Ba.same s2 h)
 |exn x=>exact h
 |bad=>exact h
def SO(X:Cx)(CL:ClA)(W:XW)(e:Aq Ao)(f:Rho->R (Aq Ae)):Prop:=∀ A,PO X e (fun σ H Q=>AOk H A/\∃ ρ,Good X.K CL A ρ σ H/\HJ W H (f ρ) Q)
theorem PO.weak{e:Aq Ao}{t t':TO}(h:PO X e t)(k:∀ σ H Q,t' σ H Q->t σ H Q):PO X e t':=fun pI s σ H Q I q=>h pI s σ H Q I (k _ _ _ q)
theorem V6:SO X CL W Af (fun _=>.ok Af):=fun A=>PO.weak Xq fun σ H Q ⟨hA,ρ,g,p⟩=>p H (AC.refl H)
theorem V5(ha:ST X CL W a fa):SO X CL W (Aa a) (fun ρ=>(fa ρ).bind fun d=>(Dt d).bind fun i=>.ok (Aa i)):=fun A=>PO.weak (Xp (ha A)) fun σ H Q ⟨hA,ρ,g,p⟩=>by
 dsimp only at p;refine⟨hA,ρ,g,?_⟩;cases e:fa ρ with
 |bad=>rw[e]at p;exact p
 |exn x=>rw[e]at p;exact p
 |ok d=>
  rw[e]at p;intro v H1 s1 r1;cases d with
  |int i=>exact⟨i,r1.int_of,p H1 s1⟩
  |_=>exact p.elim
theorem PV{ds:Ac D}(lo hi:Aq Ae)(r:Reps K CL H A xs ds):Reps K CL H A (Hn xs lo hi) (HN ds lo hi):=by
 unfold Hn HN;have e:∀ d o,HT.sIx xs.length d o=GC ds.length d o:=fun d o=>by rw[r.length];cases o<;>rfl
 rw[e,e,r.length];exact(r.drop _).take _
end
section
variable{X:Cx}{CL:ClA}{W:XW}{a b c:Ao}{fa fb fc:Rho->R D}{pos:AU}
def ED(K:Fg)(CL:ClA)(H:Hp)(A:Ak->Prop):Ac V->Ac D->Prop
 |[],[]=>GS
 |v::vs,d::ds=>Ct K CL H A v d/\ED K CL H A vs ds
 |_,_=>Bb
theorem ED.same{K:Fg}{H H':Hp}{A:Ak->Prop}(s:AC H H'):∀{vs:Ac V}{ds:Ac D},ED K CL H A vs ds->ED K CL H' A vs ds
 |[],[],h=>h
 |_::_,_::_,h=>⟨h.1.same s,ED.same s h.2⟩
 |[],_::_,h=>h.elim
 |_::_,[],h=>h.elim
theorem ED.one(h:ED K CL H A vs [d]):∃ v,vs=[v]/\Ct K CL H A v d:=by
 cases vs with
 |nil=>exact h.elim
 |cons v vs=>
  cases vs with
  |nil=>exact⟨v,rfl,h.1⟩
  |cons=>exact h.2.elim
theorem ED.two{e:D}(h:ED K CL H A vs [d,e]):∃ v w',vs=[v,w']/\Ct K CL H A v d/\Ct K CL H A w' e:=by
 cases vs with
 |nil=>exact h.elim
 |cons v vs=>
  cases vs with
  |nil=>exact h.2.elim
  |cons w' vs=>
   cases vs with
   |nil=>exact⟨v,w',rfl,h.1,h.2.1⟩
   |cons=>exact h.2.2.elim
def SAT(X:Cx)(CL:ClA)(W:XW)(es:Ac Ao)(f:Rho->R (Ac D)):Prop:=∀ A,PA X es (fun σ H Q=>AOk H A/\∃ ρ,Good X.K CL A ρ σ H/\Gg (fun H=>ED X.K CL H A) W H (f ρ) Q)
theorem W3:SAT X CL W [] (fun _=>.ok []):=fun A=>PA.weak Gb fun σ H Q ⟨hA,ρ,g,p⟩=>p [] H (AC.refl H) trivial
theorem VP(ha:ST X CL W a fa)(hs:SAT X CL W es fs)(hst:Ay (a::es) X.env=(Ad,eval a X.env)::Ay es X.env):SAT X CL W (a::es) (fun ρ=>(fa ρ).bind fun x=>(fs ρ).bind fun xs=>.ok (x::xs)):=
 fun A=>PA.weak (EB (ha A) (hs A) hst) fun σ H Q ⟨hA,ρ,g,p⟩=>by
  dsimp only at p;refine⟨hA,ρ,g,?_⟩;cases e:fa ρ with
  |bad=>rw[e]at p;exact p
  |exn x=>rw[e]at p;exact p
  |ok d=>
   rw[e]at p;intro v H1 s1 r1;refine⟨hA.same s1,ρ,g.same s1,?_⟩;cases e1:fs ρ with
   |bad=>rw[R.bind_ok,e1]at p;exact p
   |exn x=>rw[R.bind_ok,e1]at p;exact fun H2 s2=>p H2 (s1.trans s2)
   |ok ds=>
    rw[R.bind_ok,e1]at p;exact fun vs H2 s2 r2=>p (v::vs) H2 (s1.trans s2) ⟨r1.same s2,r2⟩
def G2(X:Cx)(CL:ClA)(W:XW)(f:Aj)(g:Ac D->R D):Prop:=∀ A,Gh X f (fun xs H Q=>AOk H A/\∃ ds,ED X.K CL H A xs ds/\Ba (fun H=>Rep X.K CL H A) W H (g ds) Q)
theorem IA{x:Ah}{id:Ds}{g:Ac D->R D}(hc:G2 X CL W (.builtin id) g)(hg:Gl X x)(hm:X.mg x=Af)(hv:CA x=Aa (.builtin id))(ha:SAT X CL W (e::es) fs)(hn:x≠"__name__")(hdb:(x==("__debug__" : Ah))=Ad)(he:Ay (e::es) X.env=(Ad,eval e X.env)::Ay es X.env)(hpl:∀ pos,(Cz pos (Ay es X.env)).any (·.1)=Ad):SE X CL W (.Call (.Name x p) (e::es) [] pos) (fun ρ=>(fs ρ).bind g):=fun A=>PE.weak (OP (hc A) hg hm hv (ha A) hn hdb he (hpl _)) fun σ H Q ⟨hA,ρ,gd,q⟩=>⟨hA,ρ,gd,Gg.bind q fun ds vs H1 _ s1 r1 p1=>⟨hA.same s1,ds,r1,p1⟩⟩
theorem Yp{x:Ah}{g:Ac D->R D}(hc:G2 X CL W (.type T) g)(hg:Gl X x)(hm:X.mg x=Af)(hv:CA x=Aa (.type T))(ha:SAT X CL W (e::es) fs)(hn:x≠"__name__")(hdb:(x==("__debug__" : Ah))=Ad)(he:Ay (e::es) X.env=(Ad,eval e X.env)::Ay es X.env)(hpl:∀ pos,(Cz pos (Ay es X.env)).any (·.1)=Ad):SE X CL W (.Call (.Name x p) (e::es) [] pos) (fun ρ=>(fs ρ).bind g):=fun A=>PE.weak (NX (hc A) hg hm hv (ha A) hn hdb he (hpl _)) fun σ H Q ⟨hA,ρ,gd,q⟩=>⟨hA,ρ,gd,Gg.bind q fun ds vs H1 _ s1 r1 p1=>⟨hA.same s1,ds,r1,p1⟩⟩
theorem bG:G2 X CL W (.builtin "len") (biD .len):=by
  intro A pI s σ H xs us Q I r ⟨hA,ds,rs,p⟩
  match ds,rs,p with
  |[.lst es],rs,p=>
    obtain⟨v,rfl,rv⟩:=rs.one;obtain⟨q,ys,rfl,sq,ry⟩:=rv.lst_of;exact NM pI s σ H _ us Q I r ⟨q,ys,rfl,.inl sq,p _ H (AC.refl H) (by rw[ry.length];rfl)⟩
  |[.tup es],rs,p=>
    obtain⟨v,rfl,rv⟩:=rs.one;obtain⟨q,ys,rfl,_,sq,ry⟩:=rv.tup_of;exact NM pI s σ H _ us Q I r ⟨q,ys,rfl,.inr sq,p _ H (AC.refl H) (by rw[ry.length];rfl)⟩
  |[.str x],rs,p=>
    obtain⟨v,rfl,rv⟩:=rs.one;have e:=rv.str_of;subst e;have p':Ba (fun H=>Rep X.K CL H A) W H (if CB x.length=Ab then .ok (.int x.length) else .bad) Q:=p
    split at p'
    · rename_i h;exact Uq pI s σ H _ us Q I r ⟨x,rfl,GV h,p' _ H (AC.refl H) rfl⟩
    · exact p'.elim
  |[],_,p=>exact p.elim
  |[.non],_,p=>exact p.elim
  |[.bl _],_,p=>exact p.elim
  |[.int _],_,p=>exact p.elim
  |[.obj _ _],_,p=>exact p.elim
  |[.exc _ _],_,p=>exact p.elim
  |[.dic _],rs,p=>first|exact p.elim|(obtain⟨v,rfl,rv⟩:=rs.one;exact rv.plain.elim)
  |x::_::_,_,p=>cases x<;>exact p.elim
theorem UH(ds:Ac D):(∃ i j,ds=[.int i,.int j])\/biD .max ds=.bad:=by
  match ds with
  |[.int i,.int j]=>exact .inl ⟨i,j,rfl⟩
  |[]=>exact .inr rfl
  |[x]=>cases x<;>exact .inr rfl
  |x::y::z::r=>cases x<;>cases y<;>exact .inr rfl
  |[x,.non]=>cases x<;>exact .inr rfl
  |[x,.bl _]=>cases x<;>exact .inr rfl
  |[x,.str _]=>cases x<;>exact .inr rfl
  |[x,.tup _]=>cases x<;>exact .inr rfl
  |[x,.lst _]=>cases x<;>exact .inr rfl
  |[x,.obj _ _]=>cases x<;>exact .inr rfl
  |[x,.exc _ _]=>cases x<;>exact .inr rfl
  |[x,.dic _]=>cases x<;>exact .inr rfl
  |[.non,.int _]=>exact .inr rfl
  |[.bl _,.int _]=>exact .inr rfl
  |[.str _,.int _]=>exact .inr rfl
  |[.tup _,.int _]=>exact .inr rfl
  |[.lst _,.int _]=>exact .inr rfl
  |[.obj _ _,.int _]=>exact .inr rfl
  |[.exc _ _,.int _]=>exact .inr rfl
  |[.dic _,.int _]=>exact .inr rfl
theorem NR:∀(is:Ac Ae)(i:Ae),GD i is∈i::is/\∀ a∈i::is,GD i is<=a
 |[],i=>⟨Aw,fun a h=>by rw[List.mem_singleton]at h;rw[h];exact Hr _⟩
 |j::r,i=>by
  obtain⟨h1,h2⟩:=NR r (if j<i then j else i)
  refine⟨?_,fun a h=>?_⟩
  ·show GD (if j<i then j else i) r∈_
   rcases As.mp h1 with e|e
   ·rw[e];split
    ·exact At _ Aw
    ·exact Aw
   ·exact At _ (At _ e)
  ·show GD (if j<i then j else i) r<=a
   have h0:=h2 _ Aw;rcases As.mp h with e|e
   ·subst e;refine Ha h0 ?_;split<;>omega
   ·rcases As.mp e with e|e
    ·subst e;refine Ha h0 ?_;split<;>omega
    ·exact h2 a (At _ e)
theorem N4:∀{is:Ac Ae}{its:Ac Aj},AZ (is.map V.int) its->∃ xs:Bi (Ae×CO),its.toArray=Je xs/\xs.toList.map (·.1)=is
 |[],_,h=>by cases h;exact⟨#[],by simp[Je],rfl⟩
 |i::is,_,h=>by
  cases h with
  |cons h1 h2=>
   obtain⟨t,rfl⟩:=h1;obtain⟨xs,e1,e2⟩:=N4 h2;refine⟨((i,t)::xs.toList).toArray,?_,?_⟩
   ·apply Array.toList_inj.mp
    have e1':=congrArg G9 e1;simp[Je]at e1' ⊢;exact e1'
   ·simp[e2]
theorem Vc(hc:X.calm=Ab):Gh X (.builtin "min") (fun xs H Q=>∃ a i is,xs=[.ref a]/\SqL X.K H a ((i::is).map V.int)/\Q (.int (GD i is)) H):=by
 intro pI s σ H xs us Q I r h;obtain⟨a,i,is,rfl,sq,q⟩:=h;obtain⟨u,rfl,ru⟩:=Gz r;cases ru;obtain⟨its,rv,pl,hz⟩:=I.list sq;obtain⟨ys,e1,e2⟩:=N4 rv;have hsz:0<ys.size:=by
  have:=congrArg SD e2;simp at this;omega
 have hl:=pl.isList;rw[e1]at hl;refine min_intList (I.ok.hd hc) hl hsz fun v h' tk hv hk=>?_
 obtain⟨t,rfl⟩:=intItems_at hv;obtain⟨h1,h2⟩:=argBest_lt (GR ys) (ys.size-1);have nm:∀ j,j<ys.size->GR ys j∈i::is:=fun j hj=>by
  rw[<-e2];unfold GR;rw[R6 hj];simp only[DF,Option.getD_some];exact CJ.mpr ⟨ys[j],by simp,rfl⟩
 have nx:∀ x∈i::is,∃ j,j<ys.size/\GR ys j=x:=fun x hx=>by
  rw[<-e2]at hx;obtain⟨y,hy,rfl⟩:=CJ.mp hx;obtain⟨j,hj,ej⟩:=Array.mem_iff_getElem.mp (Array.mem_toList_iff.mp hy);refine⟨j,hj,?_⟩;unfold GR;rw[R6 hj,ej];rfl
 obtain⟨m1,m2⟩:=NR is i;have em:GR ys (argBest (fun i j=>decide (GR ys i<GR ys j)) (ys.size-1))=GD i is:=by
  refine Int.le_antisymm ?_ (m2 _ (nm _ (by omega)))
  obtain⟨j,hj,ej⟩:=nx _ m1;rw[<-ej];exact h2 j (by omega)
 rw[em];exact⟨.int (GD i is),H,I.kept hk,⟨_,rfl⟩,q⟩
theorem N5{K:Fg}{CL:ClA}{H:Hp}{A:Ak->Prop}:∀{es:Ac D}{is:Ac Ae}{ys:Ac V},Hk es=Aa is->Reps K CL H A ys es->ys=is.map V.int
 |[],_,[],h,_=>by cases h;rfl
 |[],_,_::_,_,r=>r.elim
 |_::_,_,[],_,r=>r.elim
 |e::es,is,y::ys,h,r=>by
  cases e with
  |int i=>
   have h':(Hk es).map (i :: ·)=Aa is:=h;cases e2:Hk es with
   |none=>rw[e2]at h';cases h'
   |some js=>
    rw[e2]at h';cases h';have ih:=N5 e2 r.2;have e1:y=.int i:=r.1;rw[ih,e1];rfl
  |_=>cases h
theorem UT(ds:Ac D)(hl:∀ es,ds≠[.lst es]):(∃ i j,ds=[.int i,.int j])\/biD .min ds=.bad:=by
  match ds with
  |[.int i,.int j]=>exact .inl ⟨i,j,rfl⟩
  |[]=>exact .inr rfl
  |[x]=>cases x<;>first|exact .inr rfl|exact absurd rfl (hl _)
  |x::y::z::r=>cases x<;>cases y<;>exact .inr rfl
  |[x,.non]=>cases x<;>exact .inr rfl
  |[x,.bl _]=>cases x<;>exact .inr rfl
  |[x,.str _]=>cases x<;>exact .inr rfl
  |[x,.tup _]=>cases x<;>exact .inr rfl
  |[x,.lst _]=>cases x<;>exact .inr rfl
  |[x,.obj _ _]=>cases x<;>exact .inr rfl
  |[x,.exc _ _]=>cases x<;>exact .inr rfl
  |[x,.dic _]=>cases x<;>exact .inr rfl
  |[.non,.int _]=>exact .inr rfl
  |[.bl _,.int _]=>exact .inr rfl
  |[.str _,.int _]=>exact .inr rfl
  |[.tup _,.int _]=>exact .inr rfl
  |[.lst _,.int _]=>exact .inr rfl
  |[.obj _ _,.int _]=>exact .inr rfl
  |[.exc _ _,.int _]=>exact .inr rfl
  |[.dic _,.int _]=>exact .inr rfl
theorem bF(hc:X.calm=Ab):G2 X CL W (.builtin "max") (biD .max):=by
 intro A pI s σ H xs us Q I r ⟨hA,ds,rs,p⟩;rcases UH ds with ⟨i,j,rfl⟩|e
 ·obtain⟨v,w',rfl,rv,rw'⟩:=rs.two;have e1:=rv.int_of;have e2:=rw'.int_of
  subst e1 e2;exact Ve hc pI s σ H _ us Q I r ⟨i,j,rfl,p _ H (AC.refl H) rfl⟩
 ·rw[e]at p;exact p.elim
theorem bE(hc:X.calm=Ab):G2 X CL W (.builtin "min") (biD .min):=by
  intro A pI s σ H xs us Q I r ⟨hA,ds,rs,p⟩;by_cases hls:∃ es,ds=[.lst es]
  · obtain⟨es,rfl⟩:=hls;obtain⟨v,rfl,rv⟩:=rs.one;obtain⟨a,ys,rfl,sq,ry⟩:=rv.lst_of;have p':Ba (Rep X.K CL · A) W H (match Hk es with
      |some (i::is)=>R.ok (.int (GD i is))
      | _=>.bad) Q:=p
    cases e1:Hk es with
    |none=>rw[e1]at p';exact p'.elim
    |some is=>
      cases is with
      |nil=>rw[e1]at p';exact p'.elim
      |cons i is=>
        rw[e1]at p';have ey:=N5 e1 ry;subst ey;exact Vc hc pI s σ H _ us Q I r ⟨a,i,is,rfl,sq,p' _ H (AC.refl H) rfl⟩
  rcases UT ds (fun es z=>hls ⟨es,z⟩) with ⟨i,j,rfl⟩|e
  · obtain⟨v,w',rfl,rv,rw'⟩:=rs.two;have e1:=rv.int_of;have e2:=rw'.int_of
    subst e1 e2;exact Vd hc pI s σ H _ us Q I r ⟨i,j,rfl,p _ H (AC.refl H) rfl⟩
  · rw[e]at p;exact p.elim
theorem VC:G2 X CL W (.type "tuple") (biD .tuple):=by
  intro A pI s σ H xs us Q I r ⟨hA,ds,rs,p⟩
  match ds,rs,p with
  |[.lst es],rs,p=>
    obtain⟨v,rfl,rv⟩:=rs.one;obtain⟨q,ys,rfl,sq,ry⟩:=rv.lst_of;exact NA pI s σ H _ us Q I r ⟨q,ys,rfl,.inl ⟨sq,fun l hl=>p _ _ (EA hl _) (Ir hA hl ry)⟩⟩
  |[.tup es],rs,p=>
    obtain⟨v,rfl,rv⟩:=rs.one;obtain⟨q,ys,rfl,na,sq,ry⟩:=rv.tup_of;exact NA pI s σ H _ us Q I r ⟨q,ys,rfl,.inr ⟨sq,p _ H (AC.refl H) ⟨q,ys,rfl,na,sq,ry⟩⟩⟩
  |[],_,p=>exact p.elim
  |[.non],_,p=>exact p.elim
  |[.bl _],_,p=>exact p.elim
  |[.int _],_,p=>exact p.elim
  |[.str _],_,p=>exact p.elim
  |[.obj _ _],_,p=>exact p.elim
  |[.exc _ _],_,p=>exact p.elim
  |[.dic _],rs,p=>first|exact p.elim|(obtain⟨v,rfl,rv⟩:=rs.one;exact rv.plain.elim)
  |x::_::_,_,p=>cases x<;>exact p.elim
end
section
variable{X:Cx}{CL:ClA}{W:XW}{a b c:Ao}{fa fb fc:Rho->R D}{pos:AU}
theorem SB.congr{g:Rho->R An}(h:SB X CL W a f)(e:∀ ρ,g ρ=f ρ):SB X CL W a g:=fun A=>PT.weak (h A) fun σ H Q ⟨hA,ρ,q,p⟩=>⟨hA,ρ,q,by rw[<-e];exact p⟩
theorem Zl(ha:SB X CL W a f):SB X CL W (.UnaryOp .Not a pos) (fun ρ=>(f ρ).bind fun b=>.ok (!b)):=fun A=>PT.weak (Y4 (ha A)) fun σ H Q ⟨hA,ρ,g,p⟩=>⟨hA,ρ,g,CC.bindB p fun b H1 _ s1 p1=>p1 H1 (AC.refl H1)⟩
def SW(X:Cx)(CL:ClA)(W:XW)(e:Ao)(f:Rho->R An):Prop:=∀ A,PW X e (fun σ H Q=>AOk H A/\∃ ρ,Good X.K CL A ρ σ H/\CC W H (f ρ) Q)
theorem PW.weak{t t':TT}(h:PW X e t)(k:∀ σ H Q,t' σ H Q->t σ H Q):PW X e t':=fun wh pI s σ H Q I q=>h wh pI s σ H Q I (k _ _ _ q)
theorem SW.sb(h:SW X CL W a f):SB X CL W a f:=fun A=>PW.pt (h A)
theorem SW.congr{g:Rho->R An}(h:SW X CL W a f)(e:∀ ρ,g ρ=f ρ):SW X CL W a g:=fun A=>PW.weak (h A) fun σ H Q ⟨hA,ρ,q,p⟩=>⟨hA,ρ,q,by rw[<-e];exact p⟩
theorem Wp(ha:SB X CL W a f):SW X CL W (.BoolOp .And [a] pos) f:=fun A=>Xg (ha A)
theorem Ys(ha:SB X CL W a f):SW X CL W (.BoolOp .Or [a] pos) f:=fun A=>Y2 (ha A)
theorem Yt{g:Rho->R An}{rest:Ac Ao}(ha:SB X CL W a f)(hb:SW X CL W (.BoolOp .And (b::rest) pos) g):SW X CL W (.BoolOp .And (a::b::rest) pos) (fun ρ=>(f ρ).bind fun c=>if c=Ab then g ρ else .ok Ad):=
 fun A=>PW.weak (Y3 (ha A) (hb A)) fun σ H Q ⟨hA,ρ,gd,p⟩=>⟨hA,ρ,gd,CC.bindB p fun c H1 _ s1 p1=>by
  cases c with
  |true=>exact⟨hA.same s1,ρ,gd.same s1,p1⟩
  | false=>exact p1 H1 (AC.refl H1)⟩
theorem bS{g:Rho->R An}{rest:Ac Ao}(ha:SB X CL W a f)(hb:SW X CL W (.BoolOp .Or (b::rest) pos) g):SW X CL W (.BoolOp .Or (a::b::rest) pos) (fun ρ=>(f ρ).bind fun c=>if c=Ab then .ok Ab else g ρ):=
 fun A=>PW.weak (dX (ha A) (hb A)) fun σ H Q ⟨hA,ρ,gd,p⟩=>⟨hA,ρ,gd,CC.bindB p fun c H1 _ s1 p1=>by
  cases c with
  |false=>exact⟨hA.same s1,ρ,gd.same s1,p1⟩
  | true=>exact p1 H1 (AC.refl H1)⟩
theorem Zm(ho:OpD X CL W (Ca op) g)(ha:ST X CL W a fa)(hb:ST X CL W b fb)(hm:FB op b=Ad):SB X CL W (.Compare a [op] [b] pos) (fun ρ=>(fa ρ).bind fun x=>(fb ρ).bind fun y=>(g x y).bind Dc):=
 fun A=>PT.weak (Xl (ho A) (ha A) (hb A) hm) fun σ H Q ⟨hA,ρ,gd,p⟩=>⟨hA,ρ,gd,CC.bind p fun dx x H1 _ s1 r1 p1=>⟨hA.same s1,ρ,gd.same s1,CC.bind p1 fun dy y H2 _ s2 r2 p2=>
  ⟨(hA.same s1).same s2,dx,dy,r1.same s2,r2,CC.bind p2 fun dz z H3 _ s3 r3 p3=>by
   cases dz with
   |bl k=>exact⟨k,r3,p3 H3 (AC.refl H3)⟩
   | _=>exact p3.elim⟩⟩⟩
theorem VO{op':DK}(hu:X.A.units+64<BV)(ha:ST X CL W a fa)(hb:ST X CL W b fb)(hc:ST X CL W c fc)(hm:Hf [op,op'] [b,c]=Ad):SB X CL W (.Compare a [op,op'] [b,c] pos) (fun ρ=>(fa ρ).bind fun x=>(fb ρ).bind fun y=>(BN op x y).bind fun z=>(Dc z).bind fun k=>if k=Ab then (fc ρ).bind fun u=>(BN op' y u).bind Dc else .ok Ad):=
  fun A=>PT.weak (VW (Iq hu op A) (Iq hu op' A) (ha A) (hb A) (hc A) hm) fun σ H Q ⟨hA,ρ,g,p⟩=>⟨hA,ρ,g,CC.bind p fun dx x H1 _ s1 r1 p1=>⟨hA.same s1,ρ,g.same s1,CC.bind p1 fun dy y H2 _ s2 r2 p2=>
    ⟨(hA.same s1).same s2,dx,dy,r1.same s2,r2,CC.bind p2 fun dz z H3 _ s3 r3 p3=>by
      cases dz with
      |bl k=>
        refine⟨k,r3,?_⟩;cases k with
        |false=>exact⟨Ad,rfl,p3 H3 (AC.refl H3)⟩
        | true=>exact⟨((hA.same s1).same s2).same s3,ρ,((g.same s1).same s2).same s3,CC.bind p3 fun du u H4 _ s4 r4 p5=>⟨(((hA.same s1).same s2).same s3).same s4,dy,du,(r2.same s3).same s4,r4,CC.bind p5 fun dv v H5 _ s5 r5 p6=>by
            cases dv with
            |bl k'=>exact⟨k',r5,p6 H5 (AC.refl H5)⟩
            | _=>exact p6.elim⟩⟩
      | _=>exact p3.elim⟩⟩⟩
theorem Zk(ha:ST X CL W a fa)(he:∀ whole,GK a X.env whole=(do let v <-whole;FW a.pos;holding [v] (truthy v))):SB X CL W a (fun ρ=>(fa ρ).bind BS):=
 fun A=>PT.weak (VV (ha A) he) fun σ H Q ⟨hA,ρ,g,p⟩=>⟨hA,ρ,g,CC.bind p fun d v H1 _ s1 r1 p1=>by
  cases d with
  |non=>
   have e:=r1.non_of;subst e;exact⟨Ad,rfl,p1 H1 (AC.refl H1)⟩
  |bl b=>
   have e:=r1.bl_of;subst e;exact⟨b,rfl,p1 H1 (AC.refl H1)⟩
  |int i=>
   have e:=r1.int_of;subst e;exact⟨_,rfl,p1 H1 (AC.refl H1)⟩
  |str x=>
   have e:=r1.str_of;subst e;have p2:CC W H1 (if CB x.length=Ab then .ok (x.length != 0) else .bad) Q:=p1
   split at p2
   ·rename_i h;refine⟨_,⟨GV h,rfl⟩,?_⟩;have e:((x.length:Ae) != 0)=(x.length != 0):=by
     rw[CI];simp
    rw[e];exact p2 H1 (AC.refl H1)
   ·exact p2.elim
  |tup ds=>
   obtain⟨q,xs,rfl,_,sq,r⟩:=r1.tup_of;refine⟨_,.inr (.inl ⟨xs,sq,rfl⟩),?_⟩;have e:xs.isEmpty=ds.isEmpty:=by
    have:=r.length;cases xs<;>cases ds<;>first|rfl|cases this
   rw[e];exact p1 H1 (AC.refl H1)
  |lst ds=>
   obtain⟨q,xs,rfl,sq,r⟩:=r1.lst_of;refine⟨_,.inl ⟨xs,sq,rfl⟩,?_⟩;have e:xs.isEmpty=ds.isEmpty:=by
    have:=r.length;cases xs<;>cases ds<;>first|rfl|cases this
   rw[e];exact p1 H1 (AC.refl H1)
  | _=>exact p1.elim⟩
noncomputable def JY(K:Fg)(CL:ClA)(H:Hp)(A:Ak->Prop)(cls:Aj)(dx:Aq Ak)(x:Ex):Prop:=
 ∃ C,CL x.c=Aa C/\cls=.ref C/\(x.fs=[]\/∃ d vs,dx=Aa d/\¬ A d/\H d=Aa (.xd vs)/\Repf K CL H A vs x.fs)
end
def B6(B:Ak->Prop)(ρ:Rho)(σ:L2.St):Ak->Prop:=fun a=>B a\/∃(j:Ag)(d:D),ρ[j]?=Aa (Aa (d,Ab))/\σ[j]?=Aa (Aa (.ref a))
structure Sx (K:Fg) (CL:ClA) (Fz:Ak->HO->Prop) (B:Ak->Prop) (ρ:Rho) (σ:L2.St) (H:Hp):Prop where
 good:Good K CL (B6 B ρ σ) ρ σ H
 aok:AOk H (B6 B ρ σ)
 new:∀(j:Ag)(d:D)(a:Ak),ρ[j]?=Aa (Aa (d,Ab))->σ[j]?=Aa (Aa (.ref a))->(∀ o,¬ Fz a o)/\¬ B a
 dis:∀(i j:Ag)(d e:D)(a:Ak),ρ[i]?=Aa (Aa (d,Ab))->ρ[j]?=Aa (Aa (e,Ab))->σ[i]?=Aa (Aa (.ref a))->σ[j]?=Aa (Aa (.ref a))->i=j
 same:∀ b o,Fz b o->H b=Aa o
 len:ρ.length=σ.length
def B0(K:Fg)(CL:ClA)(Fz:Ak->HO->Prop)(B:Ak->Prop)(W:XW)(o:O)(D:Ends):Prop:=match o with
  |.next ρ=>∀ σ H,Sx K CL Fz B ρ σ H->D.nx σ H
  |.brk ρ=>∀ σ H,Sx K CL Fz B ρ σ H->D.bk σ H
  |.cont ρ=>∀ σ H,Sx K CL Fz B ρ σ H->D.ct σ H
  |.ret d fr=>∀ v H,(∀ b o,Fz b o->H b=Aa o)->Rep K CL H B v d->(fr=Ab->∀ ds,d=.lst ds->∃ a xs,v=.ref a/\(∀ o,¬ Fz a o)/\H a=Aa (.lst xs)/\Reps K CL H (fun b=>B b\/b=a) xs ds)->D.rt v H
  |.exn x _=>∀ H,(∀ b o,Fz b o->H b=Aa o)->W x H
  |.bad=>Bb
section
variable{K:Fg}{CL:ClA}{Fz Fy:Ak->HO->Prop}{B:Ak->Prop}{ρ:Rho}{σ:L2.St}{H H':Hp}
theorem Sx.mono(k:∀ b o,Fz b o->Fy b o)(x:Sx K CL Fy B ρ σ H):Sx K CL Fz B ρ σ H:=⟨x.good,x.aok,fun j d a h1 h2=>⟨fun o z=>(x.new j d a h1 h2).1 o (k _ _ z),(x.new j d a h1 h2).2⟩,x.dis,fun b o z=>x.same b o (k _ _ z),x.len⟩
theorem Sx.grow(x:Sx K CL Fz B ρ σ H)(s:AC H H'):Sx K CL Fz B ρ σ H':=⟨x.good.same s,x.aok.same s,x.new,x.dis,fun b o z=>s _ _ (x.same b o z),x.len⟩
theorem Ck{l:Ac α}{v:α}(h:i≠j):(l.set i v)[j]?=l[j]?:=by rw[EL h]
theorem Ga{l:Ac α}{v w':α}(h:(l.set i v)[i]?=Aa w'):w'=v:=by
 rw[El]at h;cases e:l[i]? with
 |none=>rw[e]at h;cases h
 |some x=>rw[e]at h;cases h;rfl
theorem Sx.set(x:Sx K CL Fz B ρ σ H){v:V}{d:D}(i:Ag)(r:Rep K CL H (B6 B ρ σ) v d):Sx K CL Fz B (ρ.set i (Aa (d,Ad))) (σ.set i (Aa v)) H:=by
 have own:∀(j:Ag)(e:D),(ρ.set i (Aa (d,Ad)))[j]?=Aa (Aa (e,Ab))->i≠j/\ρ[j]?=Aa (Aa (e,Ab)):=fun j e h=>by
  by_cases hj:i=j
  ·subst hj;have:=Ga h;cases this
  ·exact⟨hj,by rw[Ck hj]at h;exact h⟩
 have sub:∀ a,B6 B (ρ.set i (Aa (d,Ad))) (σ.set i (Aa v)) a->B6 B ρ σ a:=fun a h=>by
  rcases h with h|⟨j,e,h1,h2⟩
  ·exact .inl h
  ·obtain⟨hj,h1⟩:=own j e h1;rw[Ck hj]at h2;exact .inr ⟨j,e,h1,h2⟩
 refine⟨⟨fun j e h=>?_,fun j e h=>?_,by rw[A9,A9];exact x.len⟩,fun a h=>x.aok a (sub a h),fun j e a h1 h2=>?_,fun j k e f a h1 h2 h3 h4=>?_,x.same,by rw[A9,A9];exact x.len⟩
 ·by_cases hj:i=j
  ·subst hj;have e1:=Ga h;cases e1;refine⟨v,?_,Rep.sub sub _ r⟩;have hl:i<σ.length:=by
    rw[<-x.len];have:=(AE.mp h).1;simpa using this
   rw[Cy hl]
  ·rw[Ck hj]at h;obtain⟨w',q,rw'⟩:=x.good.sh j e h;exact⟨w',by rw[Ck hj];exact q,Rep.sub sub _ rw'⟩
 ·obtain⟨hj,h1⟩:=own j e h;obtain⟨a,xs,ds,q,z,ha,hh,rr⟩:=x.good.ow j e h1;exact⟨a,xs,ds,by rw[Ck hj];exact q,z,.inr ⟨j,e,h,by rw[Ck hj];exact q⟩,hh,Reps.sub sub _ rr⟩
 ·obtain⟨hj,h1⟩:=own j e h1;rw[Ck hj]at h2;exact x.new j e a h1 h2
 ·obtain⟨hj,h1⟩:=own j e h1;obtain⟨hk,h2⟩:=own k f h2;rw[Ck hj]at h3;rw[Ck hk]at h4;exact x.dis j k e f a h1 h2 h3 h4
end
section
variable{X:Cx}{CL:ClA}{W:XW}{pos:AU}{e:Ao}{fe:Rho->R D}
def SS(X:Cx)(CL:ClA)(W:XW)(st:Bz)(f:Rho->O):Prop:=∀ Fz B,PS X st (fun D σ H=>∃ ρ,Sx X.K CL Fz B ρ σ H/\B0 X.K CL Fz B W (f ρ) D)
def SSs(X:Cx)(CL:ClA)(W:XW)(st:Ac Bz)(f:Rho->O):Prop:=∀ Fz B,PSs X st (fun D σ H=>∃ ρ,Sx X.K CL Fz B ρ σ H/\B0 X.K CL Fz B W (f ρ) D)
theorem PS.weak{e:Bz}{t t':TS}(h:PS X e t)(k:∀ D σ H,t' D σ H->t D σ H):PS X e t':=fun pI s σ H D I q=>h pI s σ H D I (k _ _ _ q)
theorem PSs.weak{e:Ac Bz}{t t':TS}(h:PSs X e t)(k:∀ D σ H,t' D σ H->t D σ H):PSs X e t':=fun pI s σ H D I q=>h pI s σ H D I (k _ _ _ q)
theorem B0.ex{f:D->O}(x:Sx X.K CL Fz B ρ σ H)(h:B0 X.K CL Fz B W (O.of ρ r f) D')(k:∀ d v H',r=.ok d->AC H H'->Rp H' v d->Sx X.K CL Fz B ρ σ H'->B0 X.K CL Fz B W (f d) D'->Q v H'):Ba Rp W H r Q:=by
 cases r with
 |ok d=>exact fun v H' s r=>k d v H' rfl s r (x.grow s) h
 |exn y=>exact fun H' s=>h H' fun b o z=>s _ _ (x.same b o z)
 |bad=>exact h
theorem B0.exB{r:R An}{f:An->O}{Q:An->Hp->Prop}(x:Sx X.K CL Fz B ρ σ H)(h:B0 X.K CL Fz B W (O.of ρ r f) D')(k:∀ b H',r=.ok b->AC H H'->Sx X.K CL Fz B ρ σ H'->B0 X.K CL Fz B W (f b) D'->Q b H'):CC W H r Q:=by
 cases r with
 |ok d=>exact fun H' s=>k d H' rfl s (x.grow s) h
 |exn y=>exact fun H' s=>h H' fun b o z=>s _ _ (x.same b o z)
 |bad=>exact h
theorem Wx(he:SE X CL W e fe)(hs:DG e Af pos.line X.env=pure Ad):SS X CL W (.Expr e pos) (fun ρ=>O.of ρ (fe ρ) fun _=>.next ρ):=fun Fz B pI s σ H D I ⟨ρ,x,p⟩=>
 Me (he (B6 B ρ σ)) hs pI s σ H D I ⟨x.aok,ρ,x.good,B0.ex x p fun d v H' _ s r x' q=>q σ H' x'⟩
theorem Wv(he:SE X CL W e fe):SS X CL W (.Return (Aa e) pos) (fun ρ=>O.of ρ (fe ρ) fun d=>.ret d Ad):=fun Fz B pI s σ H D I ⟨ρ,x,p⟩=>
 Mx (he (B6 B ρ σ)) pI s σ H D I ⟨x.aok,ρ,x.good,B0.ex x p fun d v H' _ s r x' q=>q v H' x'.same (Rep.sub (fun a h=>.inl h) _ r) fun z=>nomatch z⟩
theorem bZ{a b:Ac Bz}{fa fb:Rho->O}(hc:SB X CL W c fc)(ha:SSs X CL W a fa)(hb:SSs X CL W b fb):SS X CL W (.If c a b pos) (fun ρ=>O.of ρ (fc ρ) fun k=>if k=Ab then fa ρ else fb ρ):=fun Fz B pI s σ H D I ⟨ρ,x,p⟩=>
 cP (hc (B6 B ρ σ)) (ha Fz B) (hb Fz B) pI s σ H D I ⟨x.aok,ρ,x.good,B0.exB x p fun k H' _ s x' q=>by
  cases k with
  |true=>exact⟨ρ,x',q⟩
  | false=>exact⟨ρ,x',q⟩⟩
theorem Wt:SSs X CL W [] (fun ρ=>.next ρ):=fun Fz B=>PSs.weak Xm fun D σ H ⟨ρ,x,p⟩=>p σ H x
theorem VJ{st:Bz}{rest:Ac Bz}{f g:Rho->O}(h1:SS X CL W st f)(h2:SSs X CL W rest g):SSs X CL W (st::rest) (fun ρ=>(f ρ).seq g):=fun Fz B=>PSs.weak (VY (h1 Fz B) (h2 Fz B)) fun D σ H ⟨ρ,x,p⟩=>⟨ρ,x,by
 dsimp only at p;cases e:f ρ with
 |next ρ'=>rw[e]at p;exact fun σ' H' x'=>⟨ρ',x',p⟩
 |ret d b=>rw[e]at p;exact p
 |brk ρ'=>rw[e]at p;exact p
 |cont ρ'=>rw[e]at p;exact p
 |exn y ρ'=>rw[e]at p;exact p
 | bad=>rw[e]at p;exact p⟩
end
def G4(K:Fg)(CL:ClA)(A:Ak->Prop)(ds:Ac D)(J:It)(H1:Hp):Prop:=∀ H,Kp A H1 H->∀ i:Ag,(ds.length<=i->J.stop i H)/\∀ d,ds[i]?=Aa d->J.go i H/\∀ x H',J.yld i H x H'->AC H H'/\∀ B,(∀ a,B a->A a\/H1 a=Af)->AOk H B->Rep K CL H' B x d
def DV(K:Fg)(CL:ClA)(A:Ak->Prop)(W:XW)(H:Hp)(r:R (Ac D))(Q:It->Hp->Prop):Prop:=match r with
  |.ok ds=>∀ J H',AC H H'->G4 K CL A ds J H'->ds.length<=sizeLine->Q J H'
  |.exn x=>∀ H',AC H H'->W x H'
  |.bad=>Bb
def SI(X:Cx)(CL:ClA)(W:XW)(tg iter:Ao)(f:Rho->R (Ac D)):Prop:=∀ A,PI X tg iter (fun σ H R=>AOk H A/\∃ ρ,Good X.K CL A ρ σ H/\DV X.K CL A W H (f ρ) R)
theorem PI.weak{t t':TI}(h:PI X tg e t)(k:∀ σ H Q,t' σ H Q->t σ H Q):PI X tg e t':=fun pI s σ H Q I q=>h pI s σ H Q I (k _ _ _ q)
section
variable{X:Cx}{CL:ClA}{W:XW}{pos p:AU}{tg e a b:Ao}{fe fa fb:Rho->R D}
theorem DV.ex{f:D->R (Ac D)}{Q:It->Hp->Prop}{Q':VK}(h:DV X.K CL A W H (r.bind f) Q)(k:∀ d v H',r=.ok d->AC H H'->Rp H' v d->DV X.K CL A W H' (f d) Q->Q' v H'):Ba Rp W H r Q':=by
  cases r with
  | ok d=>exact fun v H' s q=>k d v H' rfl s q (by
      have h':DV X.K CL A W H (f d) Q:=h;cases e:f d with
      |ok ds=>rw[e]at h';exact fun J H2 s2 y z=>h' J H2 (s.trans s2) y z
      |exn y=>rw[e]at h';exact fun H2 s2=>h' H2 (s.trans s2)
      | bad=>rw[e]at h';exact h')
  |exn y=>exact h
  |bad=>exact h
theorem Jz{x:V}(r:Rep K CL H1 A x d)(k:Kp A H1 H)(hB:∀ a,B a->A a\/H1 a=Af):Rep K CL H B x d:=by
 have r1:Rep K CL H1 (fun a=>A a\/B a) x d:=Rep.wide (fun a ha=>ha.elim .inl (hB a)) _ r
 have r2:Rep K CL H (fun a=>A a\/B a) x d:=Rep.kp (fun b o e na=>k b o e fun z=>na (.inl z)) _ r1
 exact Rep.sub (fun a ha=>.inr ha) _ r2
theorem Uw{ds:Ac D}(na:¬ A q\/KL K q xs)(s:SqL K H q xs)(r:Reps K CL H A xs ds):G4 K CL A ds (Itl K q) H:=fun H' k i=>by
 have s':=KA k na s;refine⟨fun h=>⟨xs,s',by rw[r.length];exact h⟩,fun d hd=>?_⟩
 obtain⟨v,hv,rv⟩:=r.get hd;exact⟨⟨xs,v,s',hv⟩,fun x H2 ⟨e,y⟩=>by
  subst e;have:=y xs s';rw[hv]at this;cases this;exact⟨AC.refl _,fun B hB _=>Jz rv k hB⟩⟩
theorem U6{ds:Ac D}(na:¬ A q\/KT K q xs)(s:SqT K H q xs)(r:Reps K CL H A xs ds):G4 K CL A ds (Itt K q) H:=fun H' k i=>by
 have s':=Kz k na s;refine⟨fun h=>⟨xs,s',by rw[r.length];exact h⟩,fun d hd=>?_⟩
 obtain⟨v,hv,rv⟩:=r.get hd;exact⟨⟨xs,v,s',hv⟩,fun x H2 ⟨e,y⟩=>by
  subst e;have:=y xs s';rw[hv]at this;cases this;exact⟨AC.refl _,fun B hB _=>Jz rv k hB⟩⟩
theorem Og(lo:Ae)(n:Ag):G4 K CL A (BK lo n) (Itr lo n) H:=fun H' k i=>by
 refine⟨fun h=>by rw[Ic]at h;exact h,fun d hd=>?_⟩
 obtain⟨h1,rfl⟩:=OY hd;exact⟨h1,fun x H2 ⟨e,y⟩=>by
  subst e y;exact⟨AC.refl _,fun _ _ _=>rfl⟩⟩
theorem Zd{l:Ao}{tl:TE}(hl:PE X l tl):PI X tg l (fun σ H R=>tl σ H fun x H1=>(∃ a,x=.ref a/\(∃ xs,SqL X.K H1 a xs/\(xs.length<=sizeLine->R (Itl X.K a) H1)))\/∃ a,x=.ref a/\(∃ xs,SqT X.K H1 a xs/\(xs.length<=sizeLine->R (Itt X.K a) H1))):=by
 intro pI s σ H R I h;refine thn (hl pI s σ H _ I h) fun v s1 ⟨x,H1,I1,r1,q1⟩=>?_
 rcases q1 with ⟨a,e,xs,hq,q⟩|⟨a,e,xs,hq,q⟩
 ·subst e;cases r1;obtain⟨its,rv,p,hz⟩:=I1.list hq;refine Dd p.isList ?_;refine⟨s1.heap.objs.size,[s1.heap.objs.size],_,_,H1,rfl,I1.kept (t':=s1.toks) fun b o e=>Au _ e,UW a _,⟨_,AG _ rfl,rfl,rfl⟩,fun b hb=>?_,q hz⟩
  have e:b=s1.heap.objs.size:=by simpa using hb
  subst e;exact I1.fpOk (AV _) (I1.hok.fresh (AV _))
 ·subst e;cases r1;obtain⟨its,rv,p,hz⟩:=I1.tuple hq;refine Eh (show s1.heap.IsTuple a its.toArray from p) ?_
  refine⟨s1.heap.objs.size,[s1.heap.objs.size],_,_,H1,rfl,I1.kept (t':=s1.toks) fun b o e=>Au _ e,Ux a _,⟨_,AG _ rfl,rfl,rfl⟩,fun b hb=>?_,q hz⟩
  have e:b=s1.heap.objs.size:=by simpa using hb
  subst e;exact I1.fpOk (AV _) (I1.hok.fresh (AV _))
theorem iQ(he:SE X CL W e fe):SI X CL W tg e (fun ρ=>(fe ρ).bind B9):=fun A=>PI.weak (Zd (he A)) fun σ H R ⟨hA,ρ,g,p⟩=>⟨hA,ρ,g,DV.ex p fun d v H1 _ s1 r1 p1=>by
 cases d with
 |lst ds=>
  obtain⟨q,xs,rfl,na,sq,r⟩:=r1;exact .inl ⟨q,rfl,xs,sq,fun hz=>p1 _ H1 (AC.refl H1) (Uw na sq r) (by rw[<-r.length];exact hz)⟩
 |tup ds=>
  obtain⟨q,xs,rfl,na,sq,r⟩:=r1;exact .inr ⟨q,rfl,xs,sq,fun hz=>p1 _ H1 (AC.refl H1) (U6 na sq r) (by rw[<-r.length];exact hz)⟩
 | _=>exact p1.elim⟩
theorem LP{hi:Ae}{ds:Ac D}(h:B5 lo hi=.ok ds):(-(2 ^ 62)<=lo/\lo<2 ^ 62)/\(-(2 ^ 62)<=hi/\hi<2 ^ 62)/\ds=BK lo (hi-lo).toNat/\(BK lo (hi-lo).toNat).length<=sizeLine:=by
 unfold B5 at h;split at h
 ·rename_i q;cases h;exact⟨by omega,by omega,rfl,by rw[Ic,D3];omega⟩
 ·cases h
theorem Lp{hi:Ae}(h:B5 lo hi=.exn x):Bb:=by
 unfold B5 at h;split at h<;>cases h
theorem YI(ha:ST X CL W a fa)(hg:Gl X "range")(hm:X.mg "range" = Af)(hs:Ay [a] X.env=[(Ad,eval a X.env)]):SI X CL W tg (.Call (.Name "range" p) [a] [] pos) (fun ρ=>(fa ρ).bind fun x=>(Dt x).bind fun j=>B5 0 j):=
 fun A=>PI.weak (UQ hg hm (EB (ha A) Gb hs) hs) fun σ H R ⟨hA,ρ,g,q⟩=>⟨hA,ρ,g,DV.ex q fun d v H1 _ s1 r1 p1=>by
  cases d with
  |int j=>
   have e:=r1.int_of;subst e;have p2:DV X.K CL A W H1 (B5 0 j) R:=p1;cases e2:B5 0 j with
   |ok ds=>
    rw[e2]at p2;obtain⟨_,h2,rfl,hz⟩:=LP e2;exact⟨j,rfl,h2.1,h2.2,p2 _ H1 (AC.refl H1) (by rw[Hb];exact Og 0 j.toNat) hz⟩
   |exn y=>exact(Lp e2).elim
   |bad=>rw[e2]at p2;exact p2.elim
  | _=>exact p1.elim⟩
theorem V8(ha:ST X CL W a fa)(hb:ST X CL W b fb)(hg:Gl X "range")(hm:X.mg "range" = Af)(hs:Ay [a,b] X.env=[(Ad,eval a X.env),(Ad,eval b X.env)])(hs2:Ay [b] X.env=[(Ad,eval b X.env)]):
  SI X CL W tg (.Call (.Name "range" p) [a,b] [] pos) (fun ρ=>(fa ρ).bind fun x=>(fb ρ).bind fun y=>(Dt x).bind fun i=>(Dt y).bind fun j=>B5 i j):=
 fun A=>PI.weak (UP hg hm (EB (ha A) (EB (hb A) Gb hs2) (by rw[hs,hs2])) hs hs2) fun σ H R ⟨hA,ρ,g,q⟩=>⟨hA,ρ,g,DV.ex q fun d v H1 _ s1 r1 p1=>⟨hA.same s1,ρ,g.same s1,DV.ex p1 fun d2 v2 H2 _ s2 r2 p2=>by
  cases d with
  |int i=>
   cases d2 with
   |int j=>
    have e:=r1.int_of;have e':=r2.int_of
    subst e e';have p3:DV X.K CL A W H2 (B5 i j) R:=p2;cases e2:B5 i j with
    |ok ds=>
     rw[e2]at p3;obtain⟨h1,h2,rfl,hz⟩:=LP e2;exact⟨i,j,rfl,⟨h1.1,h1.2,h2.1,h2.2⟩,p3 _ H2 (AC.refl H2) (Og _ _) hz⟩
    |exn y=>exact(Lp e2).elim
    |bad=>rw[e2]at p3;exact p3.elim
   |_=>exact p2.elim
  | _=>exact p2.elim⟩⟩
theorem B0.exI{r:R (Ac D)}{f:Ac D->O}{Q:It->Hp->Prop}(x:Sx X.K CL Fz B ρ σ H)(h:B0 X.K CL Fz B W (O.of ρ r f) D')(k:∀ ds J H',r=.ok ds->AC H H'->G4 X.K CL A ds J H'->ds.length<=sizeLine->Sx X.K CL Fz B ρ σ H'->B0 X.K CL Fz B W (f ds) D'->Q J H'):DV X.K CL A W H r Q:=by
 cases r with
 |ok d=>exact fun J H' s y z=>k d J H' rfl s y z (x.grow s) h
 |exn y=>exact fun H' s=>h H' fun b o z=>s _ _ (x.same b o z)
 |bad=>exact h
theorem B0.turn{Fy:Ak->HO->Prop}{o:O}{g:Rho->O}{N:L2.St->Hp->Prop}(hf:∀ b q,Fz b q->Fy b q)(h:B0 K CL Fz B W (o.turn g) D')(k:∀ ρ' σ' H',Sx K CL Fy B ρ' σ' H'->B0 K CL Fz B W (g ρ') D'->N σ' H'):B0 K CL Fy B W o {D' with nx:=N,ct:=N,bk:=D'.nx}:=by
 cases o with
 |next ρ'=>exact fun σ' H' x=>k ρ' σ' H' x h
 |cont ρ'=>exact fun σ' H' x=>k ρ' σ' H' x h
 |brk ρ'=>exact fun σ' H' x=>h σ' H' (x.mono hf)
 |ret d b=>exact fun v H' s r n=>h v H' (fun b o z=>s b o (hf b o z)) r fun z ds e=>let ⟨a,xs,h1,h2,h3⟩:=n z ds e;⟨a,xs,h1,fun o q=>h2 o (hf a o q),h3⟩
 |exn y ρ'=>exact fun H' s=>h H' (fun b o z=>s b o (hf b o z))
 |bad=>exact h
noncomputable def Ei(ts:Ac Ag)(ρ:Rho):Rho:=ts.foldl (fun ρ t=>ρ.set t Af) ρ
def GT(K:Fg)(CL:ClA)(as:D->Rho->R Rho)(g:TG):Prop:=∀ Fz B ρ σ H v d ρ' Q,Sx K CL Fz B ρ σ H->Rep K CL H (B6 B ρ σ) v d->as d ρ=.ok ρ'->(∀ σ',Sx K CL Fz B ρ' σ' H->Q σ' H)->g v σ H Q
theorem WF(i:Ag):GT K CL (fun d ρ=>.ok (ρ.set i (Aa (d,Ad)))) (D7 i):=fun Fz B ρ σ H v d ρ' Q x r e k=>by
 cases e;exact k _ (x.set i r)
theorem MP{K:Fg}{Fz:Ak->HO->Prop}{B:Ak->Prop}{H:Hp}:∀(ts:Ac Ag)(ds:Ac D)(vs:Ac V)(ρ ρ':Rho)(σ:L2.St)(Q:L2.St->Hp->Prop),Sx K CL Fz B ρ σ H->Reps K CL H (B6 B ρ σ) vs ds->DS ts ds ρ=Aa ρ'->(∀ σ',Sx K CL Fz B ρ' σ' H->Q σ' H)->(ts.foldr (fun t u=>Gf (D7 t) u) Gk) vs σ H Q
 |[],[],[],ρ,ρ',σ,Q,x,_,e,k=>by
  cases e;exact⟨rfl,k σ x⟩
 |t::ts,d::ds,v::vs,ρ,ρ',σ,Q,x,r,e,k=>by
  refine⟨v,vs,rfl,MP ts ds vs _ ρ' _ Q (x.set t r.1) (Reps.sub (fun a ha=>?_) ds r.2) e k⟩
  rcases ha with ha|⟨j,c,h1,h2⟩
  ·exact .inl ha
  ·by_cases hj:t=j
   ·subst hj;have:=Ga h1;cases this
   ·rw[Ck hj]at h1 h2;exact .inr ⟨j,c,h1,h2⟩
 |[],_::_,_,_,_,_,_,_,_,e,_=>by cases e
 |_::_,[],_,_,_,_,_,_,_,e,_=>by cases e
 |[],[],_::_,_,_,_,_,_,r,_,_=>r.elim
 |_::_,_::_,[],_,_,_,_,_,r,_,_=>r.elim
theorem Kh:∀(ts:Ac Ag)(ds:Ac D)(ρ ρ':Rho),DS ts ds ρ=Aa ρ'->ds.length=ts.length
 |[],[],_,_,_=>rfl
 |_::ts,_::ds,_,_,e=>congrArg (· + 1) (Kh ts ds _ _ e)
 |[],_::_,_,_,e=>by cases e
 |_::_,[],_,_,e=>by cases e
theorem Qp(ts:Ac Ag):GT K CL (E0 ts) (IT K ts.length (ts.foldr (fun t u=>Gf (D7 t) u) Gk)):=fun Fz B ρ σ H v d ρ' Q x r e k=>by
 cases d with
 |tup ds=>
  obtain⟨a,xs,rfl,na,sq,rs⟩:=r;rw[Oa]at e;cases e2:DS ts ds ρ with
  |none=>rw[e2]at e;cases e
  |some ρ2=>
   rw[e2]at e;cases e;exact⟨a,xs,rfl,sq,by rw[rs.length];exact Kh _ _ _ _ e2,MP ts ds xs ρ _ σ Q x rs e2 k⟩
 |_=>cases e
theorem P7{body:Ac Bz}{fbd:Rho->O}{g:TG}(hp:EK (model X.prog X.w) X.A X.env X.xe)(hc:X.calm=Ab)(hGT:GT X.K CL as g)(hg:PG X tg g)(hit:SI X CL W tg iter fi)(hb:SSs X CL W body fbd)(hs:∀ x,Cs iter X.env x=pure x)(hax:∀ d ρ x,as d ρ≠.exn x):SS X CL W (.For tg iter body [] pos) (fun ρ=>O.of ρ (fi ρ) fun xs=>Ci (fun x ρ'=>O.of ρ' (as x ρ') fbd) xs ρ):=fun Fz B pI s σ H D I ⟨ρ,x,p⟩=>by
 refine Y6 hp hc (hit (B6 B ρ σ)) hg (tb:=fun D σ H=>∃ Fy,(fun D σ H=>∃ ρ,Sx X.K CL Fy B ρ σ H/\B0 X.K CL Fy B W (fbd ρ) D) D σ H) (fun pI s σ H D I ⟨Fy,q⟩=>hb Fy B pI s σ H D I q) hs pI s σ H D I ⟨x.aok,ρ,x.good,B0.exI x p fun ds J H1 _ s1 y _ x1 q=>?_⟩
 let Fy:Ak->HO->Prop:=fun b o=>H1 b=Aa o/\¬ ∃(j:Ag)(d:Ov.D),ρ[j]?=Aa (Aa (d,Ab))/\σ[j]?=Aa (Aa (.ref b))
 have hfy:∀ b o,Fz b o->Fy b o:=fun b o z=>⟨x1.same b o z,fun ⟨j,d,h1,h2⟩=>(x1.new j d b h1 h2).1 o z⟩
 have xy:Sx X.K CL Fy B ρ σ H1:=⟨x1.good,x1.aok,fun j d a h1 h2=>⟨fun o z=>z.2 ⟨j,d,h1,h2⟩,(x1.new j d a h1 h2).2⟩,x1.dis,fun b o z=>z.1,x1.len⟩
 refine⟨fun k m σ' H'=>m=ds.length-k/\k<=ds.length/\∃ ρ',Sx X.K CL Fy B ρ' σ' H'/\B0 X.K CL Fz B W (Ci (fun x ρ'=>O.of ρ' (as x ρ') fbd) (ds.drop k) ρ') D,⟨ds.length,by simp,Gs _,ρ,xy,q⟩,?_⟩
 rintro k m σ' H' ⟨rfl,hk,ρ',x',q'⟩;have kp:Kp (B6 B ρ σ) H1 H':=fun b o e na=>x'.same b o ⟨e,fun z=>na (.inr z)⟩
 obtain⟨yst,ygo⟩:=y H' kp k;by_cases hlt:k<ds.length
 ·have hd:ds[k]?=Aa ds[k]:=Bo hlt;obtain⟨hgo,hyl⟩:=ygo _ hd;refine .inr ⟨hgo,fun σ'' H''=>∃ ρ'',Sx X.K CL Fy B ρ'' σ'' H''/\B0 X.K CL Fz B W (Ci (fun x ρ'=>O.of ρ' (as x ρ') fbd) (ds.drop (k+1)) ρ'') D,fun σ'' H'' z=>⟨ds.length-(k+1),by omega,rfl,hlt,z⟩,fun v H2 hv=>?_⟩
  obtain⟨e2,rv⟩:=hyl v H2 hv;rw[D9 hlt]at q';have q2:B0 X.K CL Fz B W ((O.of ρ' (as ds[k] ρ') fbd).turn (Ci (fun x ρ'=>O.of ρ' (as x ρ') fbd) (ds.drop (k+1)))) D:=q'
  have rv':Rep X.K CL H2 (B6 B ρ' σ') v ds[k]:=rv _ (fun a ha=>by
    rcases ha with ha|⟨j,d,h1,h2⟩
    ·exact .inl (.inl ha)
    ·cases e:H1 a with
     |none=>exact .inr rfl
     |some o=>
      by_cases ho:∃(j:Ag)(d:Ov.D),ρ[j]?=Aa (Aa (d,Ab))/\σ[j]?=Aa (Aa (.ref a))
      ·exact .inl (.inr ho)
      ·exact absurd ⟨e,ho⟩ ((x'.new j d a h1 h2).1 o)) x'.aok
  cases ea:as ds[k] ρ' with
  |bad=>rw[ea]at q2;exact q2.elim
  |exn z=>exact absurd ea (hax _ _ z)
  |ok ρ2=>
   rw[ea,O.of_ok]at q2;exact hGT Fy B ρ' σ' H2 v ds[k] ρ2 _ (x'.grow e2) rv' ea fun σ3 x3=>⟨Fy,ρ2,x3,B0.turn hfy q2 fun ρ3 σ3 H3 x3 q3=>⟨ρ3,x3,q3⟩⟩
 ·have hk':ds.length<=k:=by omega
  rw[Sq hk']at q';exact .inl ⟨yst hk',q' σ' H' (x'.mono hfy)⟩
end
section
variable{X:Cx}{CL:ClA}{W:XW}{a b c:Ao}{fa fb fc:Rho->R D}{pos:AU}
noncomputable def tyK:Ki->Aq Ds
 |.int=>Aa "int"
 |.bool=>Aa "bool"
 |.str=>Aa "str"
 |.list=>Aa "list"
 |.tuple=>Aa "tuple"
 |_=>Af
noncomputable def MA:D->An
 |.obj _ _=>Ad
 |.exc _ _=>Ad
 |.dic _=>Ad
 |_=>Ab
theorem ZQ{k:Ki}{Q:Vq}{E:Vq}(I:Inv X pI σ H s)(r:Ct X.K CL H A v d)(q:By v u)(hT:tyK k=Aa T)(hd:MA d=Ab)(h:∀ s',Inv X pI σ H s'->Q (.bool (kiD up k d)) s'):
  AH (model X.prog X.w) X.A (call (.builtin "isinstance") [u,.type T]) Q E s:=by
 have r':=r.plain;have it:=fun t=>h _ (I.tok t)
 cases d with
 |obj=>cases hd
 |exc=>cases hd
 |dic=>cases hd
 |non=>
  cases r';cases q;cases k<;>simp only[tyK]at hT<;>cases hT
  ·exact IsiPair.NoneType_int (it _)
  ·exact IsiPair.NoneType_bool (it _)
  ·exact IsiPair.NoneType_str (it _)
  ·exact IsiPair.NoneType_list (it _)
  ·exact IsiPair.NoneType_tuple (it _)
 |bl b=>
  cases r';cases q;cases k<;>simp only[tyK]at hT<;>cases hT
  ·exact IsiPair.bool_int (h _ I)
  ·exact IsiPair.bool_bool (h _ I)
  ·exact IsiPair.bool_str (it _)
  ·exact IsiPair.bool_list (it _)
  ·exact IsiPair.bool_tuple (it _)
 |int i=>
  cases r';obtain⟨t,rfl⟩:=q;cases k<;>simp only[tyK]at hT<;>cases hT
  ·exact IsiPair.int_int (h _ I)
  ·exact IsiPair.int_bool (it _)
  ·exact IsiPair.int_str (it _)
  ·exact IsiPair.int_list (it _)
  ·exact IsiPair.int_tuple (it _)
 |str x=>
  cases r';obtain⟨t,rfl⟩:=q;cases k<;>simp only[tyK]at hT<;>cases hT
  ·exact IsiPair.str_int (it _)
  ·exact IsiPair.str_bool (it _)
  ·exact IsiPair.str_str (h _ I)
  ·exact IsiPair.str_list (it _)
  ·exact IsiPair.str_tuple (it _)
 |tup ds=>
  obtain⟨p,xs,rfl,_,sq,rr⟩:=r';obtain⟨its,rv,pt,_⟩:=I.tuple sq;cases q;have pt':s.heap.IsTuple p its.toArray:=pt;cases k<;>simp only[tyK]at hT<;>cases hT
  ·exact IsiPair.isTuple_int pt' (fun _ _ e=>e) (it _)
  ·exact IsiPair.isTuple_bool pt' (fun _ _ e=>e) (it _)
  ·exact IsiPair.isTuple_str pt' (fun _ _ e=>e) (it _)
  ·exact IsiPair.isTuple_list pt' (fun _ _ e=>e) (it _)
  ·exact IsiPair.isTuple_tuple pt' (fun _ _ e=>e) (h _ I)
 |lst ds=>
  obtain⟨p,xs,rfl,_,sq,rr⟩:=r';obtain⟨its,rv,pl,_⟩:=I.list sq;cases q;have pt':s.heap.IsList p its.toArray:=Gx pl;cases k<;>simp only[tyK]at hT<;>cases hT
  ·exact IsiPair.isList_int pt' (fun _ _ e=>e) (it _)
  ·exact IsiPair.isList_bool pt' (fun _ _ e=>e) (it _)
  ·exact IsiPair.isList_str pt' (fun _ _ e=>e) (it _)
  ·exact IsiPair.isList_list pt' (fun _ _ e=>e) (h _ I)
  ·exact IsiPair.isList_tuple pt' (fun _ _ e=>e) (it _)
theorem UJ{k:Ki}(hT:tyK k=Aa T)(p:Ba Rp W H (FK up [k] d) Q):MA d=Ab/\Ba Rp W H (.ok (.bl (kiD up k d))) Q:=by
 cases k<;>simp only[tyK]at hT<;>cases hT<;>cases d<;>first|exact p.elim|exact⟨rfl,by simpa using p⟩
theorem Yl{k:Ki}{x:Ah}(hT:tyK k=Aa T)(hg:Gl X "isinstance")(hm:X.mg "isinstance" = Af)(hg2:Gl X x)(hm2:X.mg x=Af)(hv:CA x=Aa (.type T))(hn:x≠"__name__")(hdb:(x==("__debug__" : Ah))=Ad)(ha:ST X CL W a fa)(he:Ay [a,.Name x p2] X.env=(Ad,eval a X.env)::Ay [.Name x p2] X.env):SE X CL W (.Call (.Name "isinstance" p) [a,.Name x p2] [] pos) (fun ρ=>(fa ρ).bind fun x=>FK up [k] x):=fun A=>
 PE.weak (OP (r:=fun xs H Q=>∃ y d,xs=[y,.ty T]/\Ct X.K CL H A y d/\MA d=Ab/\Q (.bl (kiD up k d)) H) (fun pI s σ H xs us Q I r ⟨y,d,e,ry,hd,q⟩=>by
   subst e;obtain⟨u,w',rfl,r1,r2⟩:=MV r;cases r2;exact ZQ I ry r1 hT hd fun s' I'=>⟨.bl _,H,I',rfl,q⟩)
  hg hm boot_isinstance (EB (ha A) (EB (WJ (v:=.ty T) hg2 hm2 hv rfl hn hdb) Gb rfl) he) (by decide) (by decide) he rfl) fun σ H Q ⟨hA,ρ,g,q⟩=>⟨hA,ρ,g,Ba.bind q fun d v H1 _ s1 r1 p1=>by
   obtain⟨hd,p2⟩:=UJ hT p1;exact⟨v,d,rfl,r1,hd,p2 _ H1 (AC.refl H1) rfl⟩⟩
theorem Mv{b:An}{A':A6}{E:Vq}{Q:An->Ap->Prop}(r:Rep X.K CL H A v d)(q:By v u)(h:DB d=.ok b)(hq:Q b s):AH (model prog w) A' (truthy u) Q E s:=by
 cases d with
 |non=>
  cases r;cases q;cases h;exact truthy_none hq
 |bl k=>
  cases r;cases q;cases h;exact Cb hq
 |int i=>
  cases r;obtain⟨t,rfl⟩:=q;cases h;exact truthy_int hq
 |_=>cases h
theorem NJ:∀{ds:Ac D}{b:An},FI ds=.ok b->(∀ j,j<ds.length->∃ c,DB (ds.getD j .non)=.ok c)/\b=(Co ds.length).all fun j=>match DB (ds.getD j .non) with
  |.ok c=>c
  |_=>Ad
 |[],b,h=>by cases h;exact⟨fun j hj=>absurd hj (Gp _),rfl⟩
 |d::ds,b,h=>by
  rw[Od]at h;cases e:DB d with
  |bad=>rw[e]at h;cases h
  |exn x=>rw[e]at h;cases h
  |ok c=>
   rw[e,R.bind_ok]at h;cases e2:FI ds with
   |bad=>rw[e2]at h;cases h
   |exn x=>rw[e2]at h;cases h
   |ok c2=>
    rw[e2,R.bind_ok]at h;cases h;obtain⟨h1,h2⟩:=NJ e2;refine⟨fun j hj=>?_,?_⟩
    ·cases j with
     |zero=>exact⟨c,e⟩
     |succ j=>exact h1 j (by simpa using hj)
    ·rw[BG,NC,h2];show (c&&_)=((match DB d with | .ok c=>c|_=>Ad)&&_)
     rw[e];rfl
theorem NI:∀{ds:Ac D}{b:An},DU ds=.ok b->(∀ j,j<ds.length->∃ c,DB (ds.getD j .non)=.ok c)/\b=(Co ds.length).any fun j=>match DB (ds.getD j .non) with
  |.ok c=>c
  |_=>Ad
 |[],b,h=>by cases h;exact⟨fun j hj=>absurd hj (Gp _),rfl⟩
 |d::ds,b,h=>by
  rw[Oc]at h;cases e:DB d with
  |bad=>rw[e]at h;cases h
  |exn x=>rw[e]at h;cases h
  |ok c=>
   rw[e,R.bind_ok]at h;cases e2:DU ds with
   |bad=>rw[e2]at h;cases h
   |exn x=>rw[e2]at h;cases h
   |ok c2=>
    rw[e2,R.bind_ok]at h;cases h;obtain⟨h1,h2⟩:=NI e2;refine⟨fun j hj=>?_,?_⟩
    ·cases j with
     |zero=>exact⟨c,e⟩
     |succ j=>exact h1 j (by simpa using hj)
    ·rw[BG,Er,Sh,Sj,h2];show (c||_)=((match DB d with | .ok c=>c|_=>Ad)||_)
     rw[e];rfl
theorem Oi:∀(ds:Ac D)(a z:Ae),Fk a ds=.ok z->(∀ j,j<ds.length->∃ i,ds.getD j .non=.int i)/\z=a+Hg (fun j=>match ds.getD j .non with
  |.int i=>i
  | _=>0) ds.length
 |[],a,z,h=>by cases h;exact⟨fun j hj=>absurd hj (Gp _),by simp[Hg]⟩
 |.int i::ds,a,z,h=>by
  obtain⟨h1,h2⟩:=Oi ds (a+i) z h;refine⟨fun j hj=>?_,?_⟩
  ·cases j with
   |zero=>exact⟨i,rfl⟩
   |succ j=>exact h1 j (by simpa using hj)
  ·have key:∀ n,Hg (fun j=>match (D.int i::ds).getD j .non with | .int i=>i|_=>0) (n+1)=i+Hg (fun j=>match ds.getD j .non with | .int i=>i|_=>0) n:=by
    intro n
    induction n with
    |zero=>show (0:Ae)+i=i+0;omega
    |succ n ih=>
     show Hg _ (n+1)+(match ds.getD n .non with | .int i=>i|_=>0)=i+(Hg _ n+(match ds.getD n .non with | .int i=>i|_=>0))
     rw[ih];omega
   rw[h2,BG,key];omega
 |.non::_,_,_,h=>by cases h
 |.bl _::_,_,_,h=>by cases h
 |.str _::_,_,_,h=>by cases h
 |.tup _::_,_,_,h=>by cases h
 |.lst _::_,_,_,h=>by cases h
 |.obj _ _::_,_,_,h=>by cases h
 |.exc _ _::_,_,_,h=>by cases h
 |.dic _::_,_,_,h=>by cases h
theorem JD{ds:Ac D}{its:Ac Aj}(r:Reps X.K CL H A0 xs ds)(rv:AZ xs its){v:Aj}(h:its.toArray[j]?=Aa v):j<ds.length/\∃ x,Rep X.K CL H A0 x (ds.getD j .non)/\By x v:=by
 have h':its[j]?=Aa v:=by simpa using h
 obtain⟨hj,e⟩:=AE.mp h';obtain⟨x,rx,q⟩:=HC r rv hj;have l1:=rv.length;have l2:=r.length
 exact⟨by omega,x,rx,by rw[<-e];exact q⟩
theorem JO{o:Dq}(k:∀ b q,b∉[h.objs.size]->(h.push o).get? b=Aa q->h'.get? b=Aa q):∀ b q,h.get? b=Aa q->h'.get? b=Aa q:=fun b q e=>k b q (by
 intro z;have:=AR.mp z;rw[this]at e;exact absurd (Az e) (Bh _)) (Au _ e)
theorem bJ(hc:X.calm=Ab):G2 X CL W (.builtin "all") (biD .all):=by
  intro A pI s σ H xs us Q I r ⟨hA,ds,rs,p⟩
  match ds,rs,p with
  |[.lst es],rs,p=>
    obtain⟨v,rfl,rv⟩:=rs.one;obtain⟨q,ys,e,_,sq,ry⟩:=rv.plain;subst e;obtain⟨u,rfl,ru⟩:=Gz r;cases ru;rw[gT]at p;cases e1:FI es with
    |bad=>rw[e1]at p;exact p.elim
    |exn x=>
      exfalso
      have:∀(es:Ac D) x,FI es≠.exn x:=by
        intro es
        induction es with
        |nil=>intro x h;cases h
        |cons d ds ih=>
          intro x h;rw[Od]at h;cases e:DB d with
          |bad=>rw[e]at h;cases h
          |exn y=>cases d<;>cases e
          |ok c=>
            rw[e,R.bind_ok]at h;cases e2:FI ds with
            |bad=>rw[e2]at h;cases h
            |exn y=>exact ih y e2
            |ok c2=>rw[e2]at h;cases h
      exact this es x e1
    |ok b=>
      rw[e1,R.bind_ok]at p;obtain⟨h1,h2⟩:=NJ e1;obtain⟨its,rvv,pl,_⟩:=I.list sq;have hlt:q<s.heap.objs.size:=by obtain⟨o,n,e,_⟩:=pl;exact Az e
      have hl:its.toArray.size=es.length:=by rw[Ax,<-rvv.length,ry.length]
      refine call_all_walk (Dd (Gx pl) ⟨s.heap.objs.size,_,_,_,_,_,(fun j=>match DB (es.getD j .non) with | .ok c=>c|_=>Ad),rfl,HY (A:=X.A.in1) (I.ok.hd hc) s.heap.objs.size q (A3 hlt) its.toArray,⟨⟨_,AG _ rfl,rfl,rfl⟩,(Gx pl).push _⟩,fun j v s' Q' E' hv hQ=>?_,fun h' tk k=>?_⟩)
      · obtain⟨hj,x,rx,qx⟩:=JD ry rvv hv;obtain⟨c,ec⟩:=h1 j hj;exact Mv rx qx ec (by dsimp only at hQ;rw[ec]at hQ;exact hQ)
      · rw[hl,<-h2];exact⟨.bl b,H,I.kept (JO k),rfl,p _ H (AC.refl H) rfl⟩
  |[],_,p=>exact p.elim
  |[.non],_,p=>exact p.elim
  |[.bl _],_,p=>exact p.elim
  |[.int _],_,p=>exact p.elim
  |[.str _],_,p=>exact p.elim
  |[.tup _],_,p=>exact p.elim
  |[.obj _ _],_,p=>exact p.elim
  |[.exc _ _],_,p=>exact p.elim
  |[.dic _],_,p=>exact p.elim
  |x::_::_,_,p=>cases x<;>exact p.elim
theorem Pw(hc:X.calm=Ab){es:Ac D}(I:Inv X pI σ H s)(sq:SqL X.K H q ys\/SqT X.K H q ys)(ry:Reps X.K CL H A0 ys es)(p:Ba (fun H=>Rep X.K CL H A) W H ((DU es).bind fun b=>.ok (.bl b)) Q):AH (model X.prog X.w) X.A (call (.builtin "any") [.ref q]) (EP X pI σ Q) X.xe s:=by
 cases e1:DU es with
 |bad=>rw[e1]at p;exact p.elim
 |exn x=>
  exfalso
  clear p
  have:∀(es:Ac D) x,DU es≠.exn x:=by
   intro es
   induction es with
   |nil=>intro x h;cases h
   |cons d ds ih=>
    intro x h;rw[Oc]at h;cases e:DB d with
    |bad=>rw[e]at h;cases h
    |exn y=>cases d<;>cases e
    |ok c=>
     rw[e,R.bind_ok]at h;cases e2:DU ds with
     |bad=>rw[e2]at h;cases h
     |exn y=>exact ih y e2
     |ok c2=>rw[e2]at h;cases h
  exact this es x e1
 |ok b=>
  rw[e1,R.bind_ok]at p;obtain⟨h1,h2⟩:=NI e1;rcases sq with sq|sq
  ·obtain⟨its,rvv,pl,_⟩:=I.list sq;have hlt:q<s.heap.objs.size:=by obtain⟨o,n,e,_⟩:=pl;exact Az e
   have hl:its.toArray.size=es.length:=by rw[Ax,<-rvv.length,ry.length]
   refine call_any_walk (Dd (Gx pl) ⟨s.heap.objs.size,_,_,_,_,_,(fun j=>match DB (es.getD j .non) with | .ok c=>c|_=>Ad),rfl,HY (A:=X.A.in1) (I.ok.hd hc) s.heap.objs.size q (A3 hlt) its.toArray,⟨⟨_,AG _ rfl,rfl,rfl⟩,(Gx pl).push _⟩,fun j v s' Q' E' hv hQ=>?_,fun h' tk k=>?_⟩)
   ·obtain⟨hj,x,rx,qx⟩:=JD ry rvv hv;obtain⟨c,ec⟩:=h1 j hj;exact Mv rx qx ec (by dsimp only at hQ;rw[ec]at hQ;exact hQ)
   ·rw[hl,<-h2];exact⟨.bl b,H,I.kept (JO k),rfl,p _ H (AC.refl H) rfl⟩
  ·obtain⟨its,rvv,pl,_⟩:=I.tuple sq;have pl':s.heap.IsTuple q its.toArray:=pl;have hlt:q<s.heap.objs.size:=by obtain⟨o,e,_⟩:=pl';exact Az e
   have hl:its.toArray.size=es.length:=by rw[Ax,<-rvv.length,ry.length]
   refine call_any_walk (Eh pl' ⟨s.heap.objs.size,_,_,_,_,_,(fun j=>match DB (es.getD j .non) with | .ok c=>c|_=>Ad),rfl,TX (A:=X.A.in1) (I.ok.hd hc) s.heap.objs.size q (A3 hlt) its.toArray,⟨⟨_,AG _ rfl,rfl,rfl⟩,pl'.push _⟩,fun j v s' Q' E' hv hQ=>?_,fun h' tk k=>?_⟩)
   ·obtain⟨hj,x,rx,qx⟩:=JD ry rvv hv;obtain⟨c,ec⟩:=h1 j hj;exact Mv rx qx ec (by dsimp only at hQ;rw[ec]at hQ;exact hQ)
   ·rw[hl,<-h2];exact⟨.bl b,H,I.kept (JO k),rfl,p _ H (AC.refl H) rfl⟩
theorem bH(hc:X.calm=Ab):G2 X CL W (.builtin "any") (biD .any):=by
  intro A pI s σ H xs us Q I r ⟨hA,ds,rs,p⟩
  match ds,rs,p with
  |[.lst es],rs,p=>
    obtain⟨v,rfl,rv⟩:=rs.one;obtain⟨q,ys,e,_,sq,ry⟩:=rv.plain;subst e;obtain⟨u,rfl,ru⟩:=Gz r;cases ru;exact Pw hc I (.inl sq) ry p
  |[.tup es],rs,p=>
    obtain⟨v,rfl,rv⟩:=rs.one;obtain⟨q,ys,e,_,sq,ry⟩:=rv.plain;subst e;obtain⟨u,rfl,ru⟩:=Gz r;cases ru;exact Pw hc I (.inr sq) ry p
  |[],_,p=>exact p.elim
  |[.non],_,p=>exact p.elim
  |[.bl _],_,p=>exact p.elim
  |[.int _],_,p=>exact p.elim
  |[.str _],_,p=>exact p.elim
  |[.obj _ _],_,p=>exact p.elim
  |[.exc _ _],_,p=>exact p.elim
  |[.dic _],_,p=>exact p.elim
  |x::_::_,_,p=>cases x<;>exact p.elim
theorem Pk(hc:X.calm=Ab){es:Ac D}(I:Inv X pI σ H s)(sq:SqL X.K H q ys\/SqT X.K H q ys)(ry:Reps X.K CL H A0 ys es)(p:Ba (fun H=>Rep X.K CL H A) W H ((Fk 0 es).bind fun b=>.ok (.int b)) Q):AH (model X.prog X.w) X.A (call (.builtin "sum") [.ref q]) (EP X pI σ Q) X.xe s:=by
 cases e1:Fk 0 es with
 |bad=>rw[e1]at p;exact p.elim
 |exn x=>
  exfalso
  have:∀(es:Ac D)(a:Ae) x,Fk a es≠.exn x:=by
   intro es
   induction es with
   |nil=>intro a x h;cases h
   |cons d ds ih=>
    intro a x h;cases d<;>first|exact ih _ _ h|cases h
  exact this es 0 x e1
 |ok z=>
  rw[e1,R.bind_ok]at p;obtain⟨h1,h2⟩:=Oi es 0 z e1;rw[Ed]at h2;rcases sq with sq|sq
  ·obtain⟨its,rvv,pl,_⟩:=I.list sq;have hlt:q<s.heap.objs.size:=by obtain⟨o,n,e,_⟩:=pl;exact Az e
   have hl:its.toArray.size=es.length:=by rw[Ax,<-rvv.length,ry.length]
   refine TY (Dd (Gx pl) ⟨s.heap.objs.size,_,_,_,_,_,(fun j=>match es.getD j .non with | .int i=>i|_=>0),rfl,HY (A:=X.A.in1) (I.ok.hd hc) s.heap.objs.size q (A3 hlt) its.toArray,⟨⟨_,AG _ rfl,rfl,rfl⟩,(Gx pl).push _⟩,fun b hb=>?_,fun j v hv=>?_,fun h' tk t' k=>?_⟩)
   ·show b<(s.heap.push _).objs.size;rw[BJ];rcases As.mp hb with rfl|hb
    ·exact Ez _
    ·rw[AR.mp hb];exact CK hlt
   ·obtain⟨hj,x,rx,qx⟩:=JD ry rvv hv;obtain⟨i,ei⟩:=h1 j hj;rw[ei]at rx;dsimp only;rw[ei];cases rx;exact qx
   ·rw[hl,<-h2];exact⟨.int z,H,I.kept (JO k),⟨_,rfl⟩,p _ H (AC.refl H) rfl⟩
  ·obtain⟨its,rvv,pl,_⟩:=I.tuple sq;have pl':s.heap.IsTuple q its.toArray:=pl;have hlt:q<s.heap.objs.size:=by obtain⟨o,e,_⟩:=pl';exact Az e
   have hl:its.toArray.size=es.length:=by rw[Ax,<-rvv.length,ry.length]
   refine TY (Eh pl' ⟨s.heap.objs.size,_,_,_,_,_,(fun j=>match es.getD j .non with | .int i=>i|_=>0),rfl,TX (A:=X.A.in1) (I.ok.hd hc) s.heap.objs.size q (A3 hlt) its.toArray,⟨⟨_,AG _ rfl,rfl,rfl⟩,pl'.push _⟩,fun b hb=>?_,fun j v hv=>?_,fun h' tk t' k=>?_⟩)
   ·show b<(s.heap.push _).objs.size;rw[BJ];rcases As.mp hb with rfl|hb
    ·exact Ez _
    ·rw[AR.mp hb];exact CK hlt
   ·obtain⟨hj,x,rx,qx⟩:=JD ry rvv hv;obtain⟨i,ei⟩:=h1 j hj;rw[ei]at rx;dsimp only;rw[ei];cases rx;exact qx
   ·rw[hl,<-h2];exact⟨.int z,H,I.kept (JO k),⟨_,rfl⟩,p _ H (AC.refl H) rfl⟩
theorem bD(hc:X.calm=Ab):G2 X CL W (.builtin "sum") (biD .sum):=by
  intro A pI s σ H xs us Q I r ⟨hA,ds,rs,p⟩
  match ds,rs,p with
  |[.lst es],rs,p=>
    obtain⟨v,rfl,rv⟩:=rs.one;obtain⟨q,ys,e,_,sq,ry⟩:=rv.plain;subst e;obtain⟨u,rfl,ru⟩:=Gz r;cases ru;exact Pk hc I (.inl sq) ry p
  |[.tup es],rs,p=>
    obtain⟨v,rfl,rv⟩:=rs.one;obtain⟨q,ys,e,_,sq,ry⟩:=rv.plain;subst e;obtain⟨u,rfl,ru⟩:=Gz r;cases ru;exact Pk hc I (.inr sq) ry p
  |[],_,p=>exact p.elim
  |[.non],_,p=>exact p.elim
  |[.bl _],_,p=>exact p.elim
  |[.int _],_,p=>exact p.elim
  |[.str _],_,p=>exact p.elim
  |[.obj _ _],_,p=>exact p.elim
  |[.exc _ _],_,p=>exact p.elim
  |[.dic _],_,p=>exact p.elim
  |x::_::_,_,p=>cases x<;>exact p.elim
end
section
variable(K:Fg)(CL:ClA)
def gI(H0:Hp)(A:Ak->Prop)(H:Hp)(v:V)(d:D):Prop:=∀ ds,d=.lst ds->∃ a xs,v=.ref a/\H0 a=Af/\H a=Aa (.lst xs)/\Reps K CL H (fun b=>A b\/b=a) xs ds
def Dv(fr:An)(H0:Hp)(A:Ak->Prop)(H:Hp)(v:V)(d:D):Prop:=Rep K CL H A v d/\(fr=Ab->gI K CL H0 A H v d)
end
section
variable{X:Cx}{CL:ClA}{W:XW}{a b c:Ao}{fa fb fc:Rho->R D}{pos:AU}
def SC(X:Cx)(CL:ClA)(W:XW)(fr:An)(e:Ao)(f:Rho->R D):Prop:=∀ A,PE X e (fun σ H Q=>AOk H A/\∃ ρ,Good X.K CL A ρ σ H/\Ba (Dv X.K CL fr H A) W H (f ρ) Q)
theorem SC.se{fr:An}(h:SC X CL W fr a fa):SE X CL W a fa:=fun A=>PE.weak (h A) fun σ H Q ⟨hA,ρ,g,p⟩=>⟨hA,ρ,g,by
 cases e:fa ρ with
 |ok d=>rw[e]at p;exact fun v H' s r=>p v H' s r.1
 |exn x=>rw[e]at p;exact p
 | bad=>rw[e]at p;exact p⟩
theorem SE.sc(h:SE X CL W a fa):SC X CL W Ad a fa:=fun A=>PE.weak (h A) fun σ H Q ⟨hA,ρ,g,p⟩=>⟨hA,ρ,g,by
 cases e:fa ρ with
 |ok d=>rw[e]at p;exact fun v H' s r=>p v H' s ⟨r,fun z=>nomatch z⟩
 |exn x=>rw[e]at p;exact p
 | bad=>rw[e]at p;exact p⟩
theorem SC.congr{fr:An}{f g:Rho->R D}(h:SC X CL W fr a f)(e:∀ ρ,g ρ=f ρ):SC X CL W fr a g:=fun A=>PE.weak (h A) fun σ H Q ⟨hA,ρ,q,p⟩=>⟨hA,ρ,q,by rw[<-e];exact p⟩
theorem Hx{p:Ak}{ds:Ac D}(s:AC H0 H)(hA:AOk H A)(hp:H p=Af)(r:Reps K CL H A xs ds):Dv K CL Ab H0 A (upd H p (.lst xs)) (.ref p) (.lst ds):=
 ⟨Pe hA hp r,fun _ ds' e=>by
  cases e;exact⟨p,xs,rfl,s.free hp,F8,(Reps.wide (fun a ha=>ha.imp id fun e=>by rw[e];exact hp) _ r).same (EA hp _)⟩⟩
theorem O5{fr:An}(r:Rep K CL H A v d)(h:∀ ds,d≠.lst ds):Dv K CL fr H0 A H v d:=⟨r,fun _ ds e=>absurd e (h ds)⟩
theorem YC(hs:SA X CL W es fs)(hz:∀ ρ ds,fs ρ=.ok ds->ds.length<=100000):SC X CL W Ab (.List es pos) (fun ρ=>(fs ρ).bind fun xs=>.ok (.lst xs)):=
 fun A=>PE.weak (YQ (hs A)) fun σ H Q ⟨hA,ρ,g,p⟩=>⟨hA,ρ,g,Gg.bind p fun ds vs H1 e s1 r1 p1=>⟨by
  rw[r1.length,D3];have:=hz ρ ds e;omega,fun q hq=>p1 _ _ (EA hq _) (Hx s1 (hA.same s1) hq r1)⟩⟩
theorem Ba.bindF{fr:An}{f:D->R D}{Q':VK}(h:Ba (Dv K CL fr H A) W H (r.bind f) Q)(k:∀ d v H',r=.ok d->AC H H'->Rp H' v d->Ba (Dv K CL fr H A) W H' (f d) Q->Q' v H'):Ba Rp W H r Q':=by
 cases r with
 |ok d=>exact fun v H2 s2 q=>k d v H2 rfl s2 q (Ba.same s2 h)
 |exn x=>exact h
 |bad=>exact h
theorem Gg.bindF{Rp:Hp->Ac V->Ac D->Prop}{r:R (Ac D)}{f:Ac D->R D}{Q':Ac V->Hp->Prop}(h:Ba Rq W H (r.bind f) Q)(k:∀ d v H',r=.ok d->AC H H'->Rp H' v d->Ba Rq W H' (f d) Q->Q' v H'):Gg Rp W H r Q':=by
 cases r with
 |ok d=>exact fun v H2 s2 q=>k d v H2 rfl s2 q (Ba.same s2 h)
 |exn x=>exact h
 |bad=>exact h
theorem HJ.bindF{r:R (Aq Ae)}{f:Aq Ae->R D}(h:Ba Rq W H (r.bind f) Q)(k:∀ o H',r=.ok o->AC H H'->Ba Rq W H' (f o) Q->Q' o H'):HJ W H r Q':=by
 cases r with
 |ok d=>exact fun H2 s2=>k d H2 rfl s2 (Ba.same s2 h)
 |exn x=>exact h
 |bad=>exact h
theorem cB{lo hi:Aq Ao}{fl fh:Rho->R (Aq Ae)}(ha:ST X CL W a fa)(hl:SO X CL W lo fl)(hh:SO X CL W hi fh):SC X CL W Ab (.Subscript a (.Slice lo hi Af p2) pos) (fun ρ=>(fa ρ).bind fun x=>(fl ρ).bind fun l=>(fh ρ).bind fun h=>slD x l h):=
 fun A=>PE.weak (V0 (r:=fun x l h H Q=>Rx X.K x l h H Q\/RP X.K x l h H Q) (fun pI s σ H x v vl vu lo hi sl Q I rx hs pl pu h=>h.elim (V7 pI s σ H x v vl vu lo hi sl Q I rx hs pl pu) (YG pI s σ H x v vl vu lo hi sl Q I rx hs pl pu)) (ha A) (hl A) (hh A)) fun σ H Q ⟨hA,ρ,g,p⟩=>⟨hA,ρ,g,Ba.bindF p fun dx x H1 _ s1 r1 p1=>⟨hA.same s1,ρ,g.same s1,HJ.bindF p1 fun l H2 _ s2 p2=>⟨(hA.same s1).same s2,ρ,(g.same s1).same s2,HJ.bindF p2 fun h H3 _ s3 p3=>by
  cases dx with
  |lst ds=>
   obtain⟨q,xs,rfl,sq,r⟩:=((r1.same s2).same s3).lst_of;exact .inl ⟨q,xs,rfl,sq,fun t ht=>p3 _ _ (EA ht _) (Hx ((s1.trans s2).trans s3) (((hA.same s1).same s2).same s3) ht (PV l h r))⟩
  |tup ds=>
   obtain⟨q,xs,rfl,_,sq,r⟩:=((r1.same s2).same s3).tup_of;rw[iP]at p3;split at p3
   ·exact p3.elim
   ·rename_i hw;refine .inr ⟨q,xs,rfl,sq,?_,fun t ht=>p3 _ _ (EA ht _) (O5 (Ir (((hA.same s1).same s2).same s3) ht (PV l h r)) (by intro _ z;cases z))⟩
    rintro⟨h1,h2⟩;refine hw ?_;have e:∀ d o,HT.sIx xs.length d o=GC ds.length d o:=fun d o=>by rw[r.length];cases o<;>rfl
    rw[e]at h1 h2;rw[r.length]at h2;simp[h1,h2]
  | _=>exact p3.elim⟩⟩⟩
noncomputable def OpN(X:Cx)(CL:ClA)(W:XW)(f:Aj->Aj->Sem Aj)(g:D->D->R D):Prop:=
 ∀ A H0,OpR X f (fun x y H Q=>AC H0 H/\AOk H A/\∃ dx dy,Ct X.K CL H A x dx/\Ct X.K CL H A y dy/\Ba (Dv X.K CL Ab H0 A) W H (g dx dy) Q)
theorem WK:OpN X CL W (BO .Add) (CH .Add):=by
 intro A H0 pI s σ H x y v u Q I rx ry ⟨s0,hA,dx,dy,hx,hy,p⟩;have key:(∀ ds,dx≠.lst ds)->EP X pI σ Q=EP X pI σ Q->AH (model X.prog X.w) X.A (BO .Add v u) (EP X pI σ Q) X.xe s:=fun hd _=>by
  refine Pa (W:=W) A pI s σ H x y v u Q I rx ry ⟨hA,dx,dy,hx,hy,?_⟩;cases e:CH .Add dx dy with
  |bad=>rw[e]at p;exact p
  |exn x=>rw[e]at p;exact p
  |ok d=>
   rw[e]at p;refine fun v' H' s' r'=>p v' H' s' (O5 r' fun ds z=>?_)
   subst z;cases dx with
   |lst ds=>exact hd _ rfl
   |_=>cases dy<;>first|(cases e;done)|(simp only[CH]at e;split at e<;>cases e)
 cases dx with
 |lst ds=>
  cases dy with
  |lst es=>
   obtain⟨a,xs,rfl,s1,r1⟩:=hx.lst_of;obtain⟨b,ys,rfl,s2,r2⟩:=hy.lst_of;simp only[MN]at p;split at p
   ·rename_i h;refine Pb pI s σ H _ _ v u Q I rx ry ⟨a,b,xs,ys,rfl,rfl,s1,s2,by rw[r1.length,r2.length];exact GV h,fun q hq=>?_⟩
    exact p _ _ (EA hq _) (Hx s0 hA hq (r1.append r2))
   ·exact p.elim
  |_=>exact p.elim
 |_=>exact key (by intro _ z;cases z) rfl
theorem YF(ha:ST X CL W a fa)(hb:ST X CL W b fb):SC X CL W Ab (.BinOp a .Add b pos) (fun ρ=>(fa ρ).bind fun x=>(fb ρ).bind fun y=>CH .Add x y):=
 fun A pI s σ H Q I h=>by
  obtain⟨hA,ρ,g,p⟩:=h;exact QV (WK (W:=W) A H) (ha A) (hb A) pI s σ H Q I ⟨hA,ρ,g,Ba.bindF p fun dx x H1 _ s1 r1 p1=>⟨hA.same s1,ρ,g.same s1,Ba.bind (Rq:=Dv X.K CL Ab H A) p1 fun dy y H2 _ s2 r2 p2=>⟨s1.trans s2,(hA.same s1).same s2,dx,dy,r1.same s2,r2,p2⟩⟩⟩
def Rm(X:Cx)(CL:ClA)(W:XW)(f:Aj)(g:Ac D->R D):Prop:=∀ A H0,Gh X f (fun xs H Q=>AC H0 H/\AOk H A/\∃ ds,ED X.K CL H A xs ds/\Ba (Dv X.K CL Ab H0 A) W H (g ds) Q)
theorem X6:Rm X CL W (.type "list") (biD .list):=by
  intro A H0 pI s σ H xs us Q I r ⟨s0,hA,ds,rs,p⟩
  match ds,rs,p with
  |[.lst es],rs,p=>
    obtain⟨v,rfl,rv⟩:=rs.one;obtain⟨q,ys,rfl,sq,ry⟩:=rv.lst_of;exact NL pI s σ H _ us Q I r ⟨q,ys,rfl,.inl sq,fun l hl=>p _ _ (EA hl _) (Hx s0 hA hl ry)⟩
  |[.tup es],rs,p=>
    obtain⟨v,rfl,rv⟩:=rs.one;obtain⟨q,ys,rfl,_,sq,ry⟩:=rv.tup_of;exact NL pI s σ H _ us Q I r ⟨q,ys,rfl,.inr sq,fun l hl=>p _ _ (EA hl _) (Hx s0 hA hl ry)⟩
  |[],_,p=>exact p.elim
  |[.non],_,p=>exact p.elim
  |[.bl _],_,p=>exact p.elim
  |[.int _],_,p=>exact p.elim
  |[.str _],_,p=>exact p.elim
  |[.obj _ _],_,p=>exact p.elim
  |[.exc _ _],_,p=>exact p.elim
  |[.dic _],_,p=>exact p.elim
  |x::_::_,_,p=>cases x<;>exact p.elim
theorem YE{x:Ah}{g:Ac D->R D}(hc:Rm X CL W (.type T) g)(hg:Gl X x)(hm:X.mg x=Af)(hv:CA x=Aa (.type T))(ha:SAT X CL W (e::es) fs)(hn:x≠"__name__")(hdb:(x==("__debug__" : Ah))=Ad)(he:Ay (e::es) X.env=(Ad,eval e X.env)::Ay es X.env)(hpl:∀ pos,(Cz pos (Ay es X.env)).any (·.1)=Ad):SC X CL W Ab (.Call (.Name x p) (e::es) [] pos) (fun ρ=>(fs ρ).bind g):=fun A pI s σ H Q I ⟨hA,ρ,gd,q⟩=>
 NX (hc A H) hg hm hv (ha A) hn hdb he (hpl _) pI s σ H Q I ⟨hA,ρ,gd,Gg.bindF q fun ds vs H1 _ s1 r1 p1=>⟨s1,hA.same s1,ds,r1,p1⟩⟩
mutual
theorem Q7{K:Fg}{H:Hp}{A:Ak->Prop}(hA:AOk H A):∀(n:Ag)(d:D){v:V},nlD n d=Ab->Rep K CL H A0 v d->Rep K CL H A v d
 |_,.non,_,_,h=>h
 |_,.bl _,_,_,h=>h
 |_,.int _,_,_,h=>h
 |_,.str _,_,_,h=>h
 |0,.tup _,_,hn,_=>by cases hn
 |n+1,.tup ds,_,hn,h=>by
  obtain⟨a,xs,e,_,s,r⟩:=h;refine⟨a,xs,e,?_,s,nls_up hA n ds hn r⟩;rcases s with s|s
  ·refine .inl fun z=>?_
   obtain⟨ys,q⟩:=hA a z;rcases s with s|⟨o,s⟩<;>rw[q]at s<;>cases s
  ·exact .inr s
 |n,.lst _,_,hn,_=>by cases n<;>cases hn
 |n,.obj _ _,_,hn,_=>by cases n<;>cases hn
 |n,.exc _ _,_,hn,_=>by cases n<;>cases hn
 |n,.dic _,_,hn,_=>by cases n<;>cases hn
theorem nls_up{K:Fg}{H:Hp}{A:Ak->Prop}(hA:AOk H A):∀(n:Ag)(ds:Ac D){vs:Ac V},ds.all (nlD n)=Ab->Reps K CL H A0 vs ds->Reps K CL H A vs ds
 |_,[],[],_,h=>h
 |n,d::ds,_::_,hn,h=>by
  simp only[Fx,Al]at hn;exact⟨Q7 hA n d hn.1 h.1,nls_up hA n ds hn.2 h.2⟩
 |_,[],_::_,_,h=>h.elim
 |_,_::_,[],_,h=>h.elim
end
theorem ZN{fr:An}(hA0:AOk H0 A)(s:AC H0 H)(hc:IU fr d=Ab)(r:Dv K CL fr H0 A0 H v d):Dv K CL fr H0 A H v d:=by
 have hA:=hA0.same s;cases d with
 |lst ds=>
  have hc':(fr&&ds.all (nlD 5))=Ab:=hc;rw[Al]at hc';obtain⟨a,xs,e,h0,h1,rs⟩:=r.2 hc'.1 ds rfl;have hA2:AOk H (fun b=>A b\/b=a):=fun b hb=>hb.elim (hA b) fun e=>by rw[e];exact⟨xs,h1⟩
  have rs':=nls_up hA2 5 ds hc'.2 (Reps.sub (fun _ z=>z.elim) _ rs)
  refine⟨⟨a,xs,e,.inl (hA0.new h0),SqL.of h1,Reps.sub (fun _ z=>.inl z) _ rs'⟩,fun _ ds' e'=>?_⟩
  cases e';exact⟨a,xs,e,h0,h1,rs'⟩
 |_=>exact⟨Q7 hA 5 _ hc r.1,fun _ _ z=>nomatch z⟩
def spD(K:Fg)(CL:ClA)(n:Ag)(fr:An)(F:Ac D->R D):Sp:=fun vs H Q E=>∃(ds:Ac D)(A:Ak->Prop),vs.length=n/\AOk H A/\Reps K CL H A vs ds/\(match F ds with
  |.ok d=>∀ v H',AC H H'->Dv K CL fr H A H' v d->Q v H'
  |.exn x=>∀ cls dx H',AC H H'->JY K CL H' A cls dx x->E cls dx H'
  | .bad=>Bb)
def EKW(K:Fg)(CL:ClA)(A:Ak->Prop)(W:XW):XK:=fun cls dx H'=>∃ x,JY K CL H' A cls dx x/\W x H'
theorem ED.plain{K:Fg}{H:Hp}{A:Ak->Prop}:∀{vs:Ac V}{ds:Ac D},ED K CL H A vs ds->Reps K CL H A0 vs ds
 |[],[],h=>trivial
 |_::_,_::_,h=>⟨h.1.plain,ED.plain h.2⟩
 |[],_::_,h=>h.elim
 |_::_,[],h=>h.elim
theorem Wb{CX:CXT}{fr:An}{f:Ak}{fd:B2}{ps:Ac Ah}{F:Ac D->R D}{x:Ah}{ft:Rho->R (Ac D)}{sh:Rho->An}(G:FnOk X.prog X.w X.K X.mg X.base CX k f fd ps (spD X.K CL n fr F))(hr:Room k X.A)(hg:Gl X x)(hm:X.mg x=Aa (.ref f))(hk:CW X.K (.ref f)=Ab)(hb:GA X.K fd ps [])(hx:∀ A,IG CX X (EKW X.K CL A W))(ha:SA X CL W (e::es) fs)(hat:SAT X CL W (e::es) ft)(hst:∀ ρ,sh ρ=Ab->ft ρ=fs ρ)(hn:∀ ρ ds,ft ρ=.ok ds->ds.length=n)(hdb:(x==("__debug__" : Ah))=Ad)(he:Ay (e::es) X.env=(Ad,eval e X.env)::Ay es X.env)(hpl:∀ pos,(Cz pos (Ay es X.env)).any (·.1)=Ad):SC X CL W fr (.Call (.Name x p) (e::es) [] pos) (fun ρ=>(ft ρ).bind fun ds=>(F ds).bind fun d=>if sh ρ=Ab then .ok d else if IU fr d=Ab then .ok d else .bad):=fun A pI s σ H Q I ⟨hA,ρ,gd,q⟩=>by
 dsimp only at q;by_cases hs:sh ρ=Ab
 ·rw[hst ρ hs]at q;refine O8 G hr hg hm hk hb .nil (hx A) (ha A) hdb he (hpl _) pI s σ H Q I ⟨hA,ρ,gd,?_⟩;cases e1:fs ρ with
  |bad=>rw[e1]at q;exact q
  |exn y=>rw[e1]at q;exact q
  |ok ds=>
   rw[e1]at q;intro vs H1 s1 r1;refine⟨ds,A,by rw[Cf,r1.length];exact hn ρ ds (by rw[hst ρ hs];exact e1),hA.same s1,by rw[Cf];exact r1,?_⟩
   have q':Ba (Dv X.K CL fr H A) W H ((F ds).bind fun d=>if sh ρ=Ab then .ok d else if IU fr d=Ab then .ok d else .bad) Q:=q
   cases e2:F ds with
   |ok d=>
    rw[e2,R.bind_ok,AB hs]at q';exact fun v H2 s2 r2=>q' v H2 (s1.trans s2) ⟨r2.1,fun z ds' e'=>let ⟨a,xs,z1,z2,z3⟩:=r2.2 z ds' e';⟨a,xs,z1,s1.free z2,z3⟩⟩
   |exn y=>rw[e2]at q';exact fun cls dx H2 s2 xr=>⟨y,xr,q' H2 (s1.trans s2)⟩
   |bad=>rw[e2]at q';exact q'.elim
 ·refine O8 G hr hg hm hk hb .nil (hx A0) (hat A) hdb he (hpl _) pI s σ H Q I ⟨hA,ρ,gd,?_⟩;cases e1:ft ρ with
  |bad=>rw[e1]at q;exact q
  |exn y=>rw[e1]at q;exact q
  |ok ds=>
   rw[e1]at q;intro vs H1 s1 r1;refine⟨ds,A0,by rw[Cf,r1.plain.length];exact hn ρ ds e1,fun _ z=>z.elim,by rw[Cf];exact r1.plain,?_⟩
   have q':Ba (Dv X.K CL fr H A) W H ((F ds).bind fun d=>if sh ρ=Ab then .ok d else if IU fr d=Ab then .ok d else .bad) Q:=q
   cases e2:F ds with
   |ok d=>
    rw[e2,R.bind_ok,AM hs]at q';split at q'
    ·rename_i hc;exact fun v H2 s2 r2=>q' v H2 (s1.trans s2) (ZN hA (s1.trans s2) hc ⟨r2.1,fun z ds' e'=>let ⟨a,xs,z1,z2,z3⟩:=r2.2 z ds' e';⟨a,xs,z1,s1.free z2,z3⟩⟩)
    ·exact q'.elim
   |exn y=>rw[e2]at q';exact fun cls dx H2 s2 xr=>⟨y,xr,q' H2 (s1.trans s2)⟩
   |bad=>rw[e2]at q';exact q'.elim
end
theorem Li(env:BP):∀(ns:Ac (Ah×Dp))(acc:Ac (Ah×Ak)),(∀ x∈ns,x.2=.free->∃ c,env.cells.lookup x.1=Aa c)->(∀ x c,acc.lookup x=Aa c->env.cells.lookup x=Aa c) ->
  ∃ cl,(forIn ns acc fun(x:Ah×Dp)(cs:Ac (Ah×Ak))=>(if (x.2==.free)=Ab then do let c <-cellOf env x.1;pure (DE ((x.1,c)::cs)) else pure (DE cs):Sem (ForInStep (Ac (Ah×Ak)))))=pure cl /\
   (∀ x c,cl.lookup x=Aa c->env.cells.lookup x=Aa c)/\(∀ x,((x,Da)∈ns\/∃ c,acc.lookup x=Aa c)->∃ c,cl.lookup x=Aa c)
 |[],acc,_,h2=>⟨acc,by rw[E9],h2,fun x hx=>hx.elim (fun z=>nomatch z) id⟩
 |(n,k)::r,acc,h1,h2=>by
  rw[Gn];by_cases hk:k=.free
  ·subst hk;obtain⟨c,hc⟩:=h1 (n,.free) Aw rfl;obtain⟨cl,e,p,q⟩:=Li env r ((n,c)::acc) (fun x hx=>h1 x (At _ hx)) (fun x d hd=>by
    rw[BR]at hd;split at hd
    ·rename_i hx;cases hd;rw[eq_of_beq hx];exact hc
    ·exact h2 x d hd)
   refine⟨cl,?_,p,fun x hx=>q x ?_⟩
   ·have e1:cellOf env n=pure c:=by unfold cellOf;dsimp only at hc;rw[hc]
    rw[AB (by rfl),e1]
    exact e
   ·rcases hx with hx|⟨d,hd⟩
    ·rcases As.mp hx with z|z
     ·cases z;exact .inr ⟨c,by simp[BR]⟩
     ·exact .inl z
    ·by_cases hxn:x=n
     ·exact .inr ⟨c,by subst hxn;simp[BR]⟩
     ·exact .inr ⟨d,by rw[BR];rw[CQ.mpr hxn];exact hd⟩
  ·obtain⟨cl,e,p,q⟩:=Li env r acc (fun x hx=>h1 x (At _ hx)) h2
   refine⟨cl,?_,p,fun x hx=>q x ?_⟩
   ·rw[AM (by simpa using hk)]
    exact e
   ·rcases hx with hx|hx
    ·rcases As.mp hx with z|z
     ·cases z;exact absurd rfl hk
     ·exact .inl z
    ·exact .inr hx
theorem N8(h:∀ x∈scope.names,x.2=.free->∃ c,env.cells.lookup x.1=Aa c):∃ cl,closureFor scope env=pure cl/\(∀ x c,cl.lookup x=Aa c->env.cells.lookup x=Aa c)/\∀ x,(x,Da)∈scope.names->∃ c,cl.lookup x=Aa c:=by
 obtain⟨cl,e,p,q⟩:=Li env scope.names [] h (fun x c z=>by simp at z)
 refine⟨cl,?_,p,fun x hx=>q x (.inl hx)⟩
 unfold closureFor
 first
  |exact e
  |(simp only[bind_pure];exact e)
  |(rw[show (forIn scope.names ([]:Ac (Ah×Ak)) _:Sem _)=pure cl from e];rfl)
theorem LF:∀(names:Ac (Ah×Dp))(h:AK)(acc:Ac (Ah×Ak))(x:Ah)(c:Ak),(CF h.objs.size names acc).lookup x=Aa c->acc.lookup x=Aa c\/((x,BH)∈names/\h.objs.size<=c/\(Fs h names).IsCell c Af)
 |[],_,_,_,_,e=>.inl e
 |(n,k)::r,h,acc,x,c,e=>by
  unfold CF at e;unfold Fs;by_cases hk:(k==BH)=Ab
  ·rw[AB hk]at e ⊢;have hs:h.objs.size+1=(h.push { cls:=.type "cell", data:=.cell Af }).objs.size:=(BJ ..).symm;rw[hs]at e;rcases LF r _ _ x c e with q|⟨q1,q2,q3⟩
   ·rw[BR]at q;cases hx:x==n with
    |true=>
     rw[hx]at q;cases q;refine .inr ⟨?_,AV _,?_⟩
     ·rw[eq_of_beq hx,eq_of_beq hk];exact Aw
     ·exact⟨_,Gq r _ _ _ (AG _ rfl),rfl⟩
    |false=>rw[hx]at q;exact .inl q
   ·exact .inr ⟨At _ q1,by omega,q3⟩
  ·rw[AM hk]at e ⊢;rcases LF r h acc x c e with q|⟨q1,q2,q3⟩
   ·exact .inl q
   ·exact .inr ⟨At _ q1,q2,q3⟩
theorem LG:∀(names:Ac (Ah×Dp))(h:AK)(acc:Ac (Ah×Ak)),(∀ x y c,acc.lookup x=Aa c->acc.lookup y=Aa c->x=y)->(∀ x c,acc.lookup x=Aa c->c<h.objs.size)->∀ x y c,(CF h.objs.size names acc).lookup x=Aa c->(CF h.objs.size names acc).lookup y=Aa c->x=y
 |[],_,_,i,_,x,y,c,e1,e2=>i x y c e1 e2
 |(n,k)::r,h,acc,i,b,x,y,c,e1,e2=>by
  unfold CF at e1 e2;by_cases hk:(k==BH)=Ab
  ·rw[AB hk]at e1 e2;have hs:h.objs.size+1=(h.push { cls:=.type "cell", data:=.cell Af }).objs.size:=(BJ ..).symm;rw[hs]at e1 e2;have look:∀ z d,SH z ((n,h.objs.size)::acc)=Aa d->(z=n/\d=h.objs.size)\/(z≠n/\acc.lookup z=Aa d):=fun z d q=>by
    rw[BR]at q;cases hx:z==n with
    |true=>rw[hx]at q;cases q;exact .inl ⟨eq_of_beq hx,rfl⟩
    |false=>rw[hx]at q;exact .inr ⟨fun e=>by rw[e]at hx;simp at hx,q⟩
   refine LG r _ _ (fun z z' d q q'=>?_) (fun z d q=>?_) x y c e1 e2
   ·rcases look z d q with ⟨rfl,q1⟩|⟨_,q1⟩<;>rcases look z' d q' with ⟨rfl,q2⟩|⟨_,q2⟩
    ·rfl
    ·exact absurd (b _ _ q2) (by rw[q1];exact Bh _)
    ·exact absurd (b _ _ q1) (by rw[q2];exact Bh _)
    ·exact i _ _ _ q1 q2
   ·rw[<-hs];rcases look z d q with ⟨_,q1⟩|⟨_,q1⟩
    ·rw[q1];exact Ez _
    ·exact CK (b _ _ q1)
  ·rw[AM hk]at e1 e2;exact LG r h acc i b x y c e1 e2
theorem Lk:∀(names:Ac (Ah×Dp))(n:Ag)(acc:Ac (Ah×Ak))(x:Ah),(x,BH)∉names->(CF n names acc).lookup x=acc.lookup x
 |[],_,_,_,_=>rfl
 |(m,k)::r,n,acc,x,hx=>by
  unfold CF;have hr:(x,BH)∉r:=fun z=>hx (At _ z)
  by_cases hk:(k==BH)=Ab
  ·rw[AB hk,Lk r _ _ x hr,BR];cases q:x==m with
   |true=>exact absurd (by rw[eq_of_beq q,eq_of_beq hk];exact Aw) hx
   |false=>rfl
  ·rw[AM hk];exact Lk r n acc x hr
theorem LH(n0:Ag):∀(names:Ac (Ah×Dp))(n:Ag)(acc:Ac (Ah×Ak))(x:Ah),n0<=n->((x,BH)∈names\/∃ c,acc.lookup x=Aa c/\n0<=c)->∃ c,(CF n names acc).lookup x=Aa c/\n0<=c
 |[],_,_,_,_,h=>h.elim (fun z=>nomatch z) id
 |(m,k)::r,n,acc,x,hn,h=>by
  unfold CF;by_cases hk:(k==BH)=Ab
  ·rw[AB hk];refine LH n0 r _ _ x (by omega) ?_
   by_cases hx:(x==m)=Ab
   ·exact .inr ⟨n,by rw[BR,hx],hn⟩
   ·rcases h with h|⟨c,h,hc⟩
    ·rcases As.mp h with z|z
     ·cases z;simp at hx
     ·exact .inl z
    ·exact .inr ⟨c,by rw[BR];simp only[hx];exact h,hc⟩
  ·rw[AM hk];refine LH n0 r _ _ x hn (h.imp (fun h=>?_) id)
   rcases As.mp h with z|z
   ·cases z;simp at hk
   ·exact z
theorem Uf{M:HU}{A:A6}{E:Vq}{globals:Ak}{qual:Ah}{Q:BP->Ap->Prop}(hQ:Q (newEnv scope s.heap.objs.size globals (CF (s.heap.objs.size+1) scope.names cl) qual Af .none (Aa env) GQ) { s with heap:=Fs (s.heap.push { cls:=.type "dict", data:=.dict #[] }) scope.names }):AH M A (GL scope globals cl [] qual Af .none (Aa env)) Q E s:=by
 simp only[GL,Option.isSome_some,FZ];refine Am (wpAny_alloc ?_);refine Am (wpAny_layCells _ (fun name kind cells=>by cases hkc:kind==BH<;>simp[hkc]) _ _ _ _ ?_)
 rw[show ({ s with heap:=s.heap.push { cls:=.type "dict", data:=.dict #[] } }:Ap).heap.objs.size=s.heap.objs.size+1 from BJ ..]
 rw[E9];exact Am (AJ (AJ hQ))
noncomputable def cxC(X:Cx)(scope:BY)(cl:Ac (Ah×Ak))(C:Ak)(N':Ac Ah)(s₀:Ap)(H₀:Hp)(fp:Ac Ak):Cx where
 prog:=X.prog
 w:=X.w
 K:=X.K
 mg:=X.mg
 base:=X.base
 A:=X.A
 N:=N'
 s₀:=s₀
 H₀:=H₀
 env:=compEnvC scope cl C X.env
 outer:=X.stack
 stack:=X.stack
 ex:=fp
 fn:=fun x=>scope.names.lookup x==Aa BH
 calm:=X.calm
 pn:=[]
 xe:=fun _ _=>Bb
theorem J5{env:BP}:∀{names:Ac (Ah×Dp)}{x:Ah}{k:Dp},(names.map fun (n,k)=>if (k==Da&&env.scope.kind==.function&&env.kindOf n==Aa .cell) then (n,BH) else (n,k)).lookup x=Aa k->names.lookup x=Aa k\/(k=.cell/\names.lookup x=Aa .free)
 |[],_,_,h=>by simp at h
 |(n,j)::r,x,k,h=>by
  have ih:=@J5 env r x k;have h':SH x ((if (j==Da&&env.scope.kind==.function&&env.kindOf n==Aa .cell)=Ab then (n,BH) else (n,j))::(r.map fun (n,k)=>if (k==Da&&env.scope.kind==.function&&env.kindOf n==Aa .cell) then (n,BH) else (n,k)))=Aa k:=h
  by_cases hc:(j==Da&&env.scope.kind==.function&&env.kindOf n==Aa .cell)=Ab
  ·rw[AB hc]at h';rw[BR]at h' ⊢;cases hx:x==n with
   |true=>
    rw[hx]at h';cases h';simp only[Al]at hc;exact .inr ⟨rfl,by rw[eq_of_beq hc.1.1]⟩
   |false=>rw[hx]at h';exact ih h'
  ·rw[AM hc]at h';rw[BR]at h' ⊢;cases hx:x==n with
   |true=>rw[hx]at h';exact .inl h'
   |false=>rw[hx]at h';exact ih h'
structure BlockOk (X:Cx) (scope:BY) (N':Ac Ah) (ts:Ac Ag):Prop where
 kind:scope.kind=.function
 uniq:∀ y∈scope.names,scope.names.lookup y.1=Aa y.2
 names:∀ y∈scope.names,y.2=.local->scope.names.lookup y.1=Aa .local
 free:∀ y∈scope.names,y.2=.free->X.env.scope.names.lookup y.1=Aa .cell\/X.env.scope.names.lookup y.1=Aa .free
 len:N'.length=X.N.length
 same:∀ i x,N'[i]?=Aa x->scope.names.lookup x=Aa .free->i∉ts->X.N[i]?=Aa x
 loc:∀ i x,N'[i]?=Aa x->(scope.names.lookup x=Aa .local\/scope.names.lookup x=Aa .cell)->i∈ts
structure BCells (X:Cx) (scope:BY) (cl:Ac (Ah×Ak)) (C:Ak) (h:AK):Prop where
 own:∀ x c,cl.lookup x=Aa c->X.env.cells.lookup x=Aa c\/(scope.names.lookup x=Aa .cell/\C<c/\h.IsCell c Af)
 inj:∀ x y c,cl.lookup x=Aa c->cl.lookup y=Aa c->x=y
 has:∀ x,scope.names.lookup x=Aa .cell->∃ c,cl.lookup x=Aa c/\C<c
 fr:∀ x,(x,Da)∈scope.names->∃ c,cl.lookup x=Aa c/\X.env.cells.lookup x=Aa c
section
variable{X:Cx}{pI:Pn}{σ:L2.St}{H:Hp}{s:Ap}
noncomputable def hideT(ts:Ac Ag)(σ:L2.St):L2.St:=ts.foldl (fun σ t=>σ.set t Af) σ
theorem Ly:∀(ts:Ac Ag)(σ:L2.St),(hideT ts σ).length=σ.length
 |[],_=>rfl
 |t::ts,σ=>by show (hideT ts (σ.set t Af)).length=_;rw[Ly ts,A9]
theorem Om:∀(ts:Ac Ag)(σ:L2.St){i:Ag}{v:V},(hideT ts σ)[i]?=Aa (Aa v)->σ[i]?=Aa (Aa v)/\i∉ts
 |[],_,_,_,h=>⟨h,by simp⟩
 |t::ts,σ,i,v,h=>by
  obtain⟨h1,h2⟩:=Om ts (σ.set t Af) (i:=i) (v:=v) h;by_cases e:t=i
  ·subst e;have:=Ga h1;cases this
  ·rw[Ck e]at h1;exact⟨h1,by simp only[As,CS];exact⟨fun z=>e z.symm,h2⟩⟩
theorem Up{tk:Ag}{C:Ak}{m:Ah->Aq Aj}(I:Inv X pI σ H s)(B:BlockOk X scope N' ts)(hf:∀ b∈fp,Fn X pI H b)(hfo:∀ b∈fp,b<s.heap.objs.size)(hb:BCells X scope cl C h')(hk:∀ b o,s.heap.get? b=Aa o->h'.get? b=Aa o)(hC:s.heap.objs.size<=C)(hn:h'.Ns C m):Inv (cxC X scope cl C N' s H fp) [] (hideT ts σ) H {s with heap:=h',toks:=tk}:=by
 have stf:∀ b∈fp,b∉frs X.stack:=fun b hb z=>by
  rcases As.mp (I.stkSub b z) with e|e
  ·exact(hf b hb).2.1 e
  ·exact(hf b hb).2.2.1 e
 have frOf:∀ x,((relabel scope X.env).names.lookup x=Aa .cell\/(relabel scope X.env).names.lookup x=Aa .free)->scope.names.lookup x=Aa .free\/scope.names.lookup x=Aa .cell:=fun x hx=>by
  rcases hx with z|z
  ·rcases J5 z with z|⟨_,z⟩
   ·exact .inr z
   ·exact .inl z
  ·rcases J5 z with z|⟨z,_⟩
   ·exact .inl z
   ·cases z
 have gtC:∀ c:Ak,C<c->s.heap.objs.size<=c:=fun c z=>Cj hC (EQ z)
 have cellK:∀ c v,s.heap.IsCell c v->h'.IsCell c v:=fun c v ⟨o,ho,hd⟩=>⟨o,hk _ _ ho,hd⟩
 refine⟨⟨I.ok.mod,B.kind,I.ok.glob,I.ok.blt,hC,hb.inj,fun x hx=>?_,fun x c h e=>?_,I.ok.hd,I.ok.frames,.inl rfl,fun b hbb=>⟨?_,fun x c e=>?_⟩,I.bs,Cj I.ok.bsz I.sz,fun b o e hbb=>?_,stf,I.stack,I.stkFree⟩,rfl,I.bare,Un.kept hk,⟨m,hn,fun i x v h1 h2 h3=>?_⟩,fun x c e=>?_,I.hok.fresh hC,fun x c e=>(hb.own x c e).elim (I.freeC x c) (fun z=>I.hok.fresh (gtC c z.2.1)),fun p hp=>absurd (show p∈([]:Pn) from hp) (by simp),I.hok.kept hk,?_⟩
 ·rcases frOf x hx with z|z
  ·obtain⟨c,q,_⟩:=hb.fr x (Cc z);exact⟨c,q⟩
  ·obtain⟨c,q,_⟩:=hb.has x z;exact⟨c,q⟩
 ·obtain⟨c',q,z⟩:=hb.has x (eq_of_beq h);have e':cl.lookup x=Aa c:=e;rw[q]at e';cases e';exact gtC _ z
 ·intro z;have z':b=C:=z;have:=hfo b hbb;rw[z']at this;exact absurd (AI this hC) (Bh _)
 ·rcases hb.own x c e with z|z
  ·exact(hf b hbb).2.2.2.2.1 x c z
  ·intro q;have:=hfo b hbb;have:=gtC c z.2.1;rw[q]at this;exact absurd ‹b<_› (SX.mpr this)
 ·rcases (hf b hbb).2.2.2.1 with z|z
  ·exact I.ok.noex b o e z
  ·exact absurd (AI (Az e) (Cj I.ok.bsz z)) (Bh _)
 ·obtain⟨h2,hts⟩:=Om ts σ h2;have h3':(relabel scope X.env).names.lookup x=Aa .local\/(relabel scope X.env).names.lookup x=Aa .cell\/(relabel scope X.env).names.lookup x=Aa .free:=h3;have h1':N'[i]?=Aa x:=h1;rcases h3' with z|z
  ·rcases J5 z with z|⟨z,_⟩
   ·exact absurd (B.loc i x h1' (.inl z)) hts
   ·cases z
  ·have fr:=(frOf x z).resolve_right fun q=>hts (B.loc i x h1' (.inr q))
   have hm:=Cc fr;have hX:=B.same i x h1' fr hts;obtain⟨m0,hn0,hl0⟩:=I.loc;obtain⟨u,ru,lk⟩:=hl0 i x v hX h2 (by
    rcases B.free _ hm rfl with q|q
    ·exact .inr (.inl q)
    ·exact .inr (.inr q))
   refine⟨u,ru,?_⟩;obtain⟨c,hc,hcX⟩:=hb.fr x hm;rcases lk with ⟨q,_⟩|⟨_,c',hc',hcell⟩
   ·have q':X.env.scope.names.lookup x=Aa .local:=q;rcases B.free _ hm rfl with p|p
    ·rw[show X.env.scope.names.lookup x=_ from p]at q';cases q'
    ·rw[show X.env.scope.names.lookup x=_ from p]at q';cases q'
   ·have e:=hcX;rw[hc']at e;cases e;exact .inr ⟨z,c,hc,cellK _ _ hcell⟩
 ·rcases hb.own x c e with z|z
  ·obtain⟨v,q⟩:=I.cell x c z;exact⟨v,cellK _ _ q⟩
  ·exact⟨_,z.2.2⟩
 ·show (hideT ts σ).length=N'.length;rw[Ly,I.len,B.len]
theorem Ou{C D:Ak}{s':Ap}{σ':L2.St}{pins':Pn}{h'':AK}{ys:Ac Aj}(I:Inv X pI σ H s)(hf:∀ b∈fp,Fn X pI H b)(I':Inv (cxC X scope cl C N' s H fp) pins' σ' H' s')(hD:s.heap.objs.size<=D)(hDC:D≠C)(hC:s.heap.objs.size<=C)(hd:s'.heap.get? D=Aa { cls:=.type "list", data:=.seq ys.toArray n })(hDn:H' D=Af)(rv:AZ xs ys)(hz:xs.length<=sizeLine)(hs:Eg C s'.heap h''):Inv X pI σ (upd H' D (.lst xs)) {s' with heap:=h''}:=by
  have u:Un (frs X.stack) fp H H' s.heap s'.heap:=I'.base;have lt:∀ b o,s.heap.get? b=Aa o->b≠C/\b≠D:=fun b o e=>⟨fun z=>absurd (AI (Az e) (z ▸ hC)) (Bh _),fun z=>absurd (AI (Az e) (z ▸ hD)) (Bh _)⟩
  have HD:H D=Af:=I.hok.fresh hD;have hCn:H' C=Af:=I'.free;have kb:∀ b o,b≠C->s'.heap.get? b=Aa o->h''.get? b=Aa o:=fun b o hb e=>(hs.2 b hb).trans e
  have u2:Un (frs X.stack) fp H (upd H' D (.lst xs)) s.heap h'':=⟨fun b o e q hb hx=>kb b o (lt b o e).1 (u.keep b o e q hb hx),fun b o e q hb hx=>by
      obtain⟨sl,e1⟩:=u.slot b o e q hb hx;exact⟨sl,kb b _ (lt b o e).1 e1⟩,fun b o e q hx=>by rw[Ch (lt b o e).2];exact u.free b o e q hx,fun b o e hx=>by
      obtain⟨o',e1⟩:=u.there b o e hx;exact⟨o',kb b _ (lt b o e).1 e1⟩,fun b zs q=>by rw[Ch (EC q HD)];exact u.tups b zs q,fun b o zs q=>by rw[Ch (EC q HD)];exact u.frzs b o zs q,fun b ps q=>by rw[Ch (EC q HD)];exact u.tbls b ps q⟩
  have hok:HOk X.prog X.w (upd H' D (.lst xs)) h'':=fun b o e=>by
    by_cases hb:b=D
    · subst hb;rw[F8]at e;cases e;exact⟨hz,ys,n,rv,kb _ _ hDC hd⟩
    · rw[Ch hb]at e;refine(I'.hok b o e).stay (fun c v hc q=>kb c v ?_ q) (fun c q=>by rw[Ch (EC q hDn)];exact q) fun c zs q=>by rw[Ch (EC q hDn)];exact q
      rcases hc with rfl|hc
      · exact EC e hCn
      · exact EC hc hCn
  exact I.call' (s':={s' with heap:=h''}) (ch:=fp) I'.os u2 hok I'.bare fun b hb=>⟨(hf b hb).2.2.2.1,(hf b hb).2.1,(hf b hb).2.2.2.2.1,(hf b hb).2.2.2.2.2⟩
end
def PTs(X:Cx)(ifs:Ac Ao)(tt:TT):Prop:=∀(pI:Pn)(s:Ap)(σ:L2.St)(H:Hp)(Q:An->Hp->Prop),Inv X pI σ H s->tt σ H Q ->
 AH (model X.prog X.w) X.A (forIn ifs Ab fun c r=>if r=Ab then do let ok <-GK c X.env (eval c X.env);pure (DE ok) else pure (DE r)) (TP X pI σ Q) X.xe s
theorem Xj:PTs X [] (fun σ H Q=>Q Ab H):=fun pI s σ H Q I h=>wpAny_tests_nil ⟨H,I,h⟩
theorem Xh{t:TT}(h:PT X c t):PTs X [c] t:=fun pI s σ H Q I q=>wpAny_tests_one (h pI s σ H Q I q)
theorem UU{D:Ak}{ys:Ac Aj}{y:Aj}{E:Vq}{Q:Vq}(I:Inv X ((D,{ cls:=.type "list", data:=.seq ys.toArray n })::pI) σ H s)(hD:X.s₀.heap.objs.size<=D)(hp:∀ p∈X.pn++pI,p.1≠D)(hc:∀ x c,X.env.cells.lookup x=Aa c->c≠D)(hz:ys.length<=sizeLine)(h:∀ s',Inv X ((D,{ cls:=.type "list", data:=.seq (ys++[y]).toArray (n+1) })::pI) σ H s'->(∀ b o,b≠D->s.heap.get? b=Aa o->s'.heap.get? b=Aa o)->Q .none s'):AH (model X.prog X.w) X.A (call (.builtin "list.append") [.ref D,y]) Q E s:=by
 obtain⟨e,hn,hL,hfs,_⟩:=I.pin (D,{ cls:=.type "list", data:=.seq ys.toArray n }) (Bg _ Aw);refine append_at (hsz:=by rw[Ax];exact hz) e fun h' hs hd=>?_
 have hd':h'.get? D=Aa { cls:=.type "list", data:=.seq (ys++[y]).toArray (n+1) }:=by rw[hd];simp
 have kb:∀ b o,b≠D->s.heap.get? b=Aa o->h'.get? b=Aa o:=fun b o hb q=>(hs.2 b hb).trans q
 have I0:Inv X pI σ H s:=I.pins_of fun p hp=>I.pin p (Bg _ (At _ hp))
 have I1:Inv X pI σ H {s with heap:=h'}:=I0.turned (t':=s.toks) kb hn hL (.inr hD) hc hp
 refine h _ (I1.pins_of fun p hp=>?_) kb
 rcases As.mp hp with rfl|hp
 ·exact⟨hd',hn,hL,hfs,fun v z=>by
   have z':IZ _ _=IY v:=z;cases z'⟩
 ·exact I1.pin p (Bg _ hp)
section
variable{prog:AS}{w:AY}{A:A6}{R:HV->Ap->Prop}{s:Ap}
theorem Uo{target:Ao}{it acc:Aj}(I:Ag->Ap->Prop)(turn:∀ n s,I n s->AH (model prog w) A (GN it) (fun r s₁=>match r with
      |none=>R (.ok .next) s₁
      | some v=>AH (model prog w) A (EX target it v) (fun _ s₁'=>AH (model prog w) A (assign target env v) (fun _ s₂=>
          AH (model prog w) A (forIn ifs Ab fun c r=>if r=Ab then do let ok <-GK c env (eval c env);pure (DE ok) else pure (DE r)) (fun ok s₃=>
            if ok=Ab then AH (model prog w) A (eval elt env) (fun x s₄=>
              AH (model prog w) A (call (.builtin "list.append") [acc,x]) (fun _ s₅=>∃ m,m<n/\I m s₅) (GM (model prog w) A env fun e s'=>R (.error e) s') s₄) (GM (model prog w) A env fun e s'=>R (.error e) s') s₃
            else ∃ m,m<n/\I m s₃) (GM (model prog w) A env fun e s'=>R (.error e) s') s₂) (GM (model prog w) A env fun e s'=>R (.error e) s') s₁') (GM (model prog w) A env fun e s'=>R (.error e) s') s₁) (GM (model prog w) A env fun e s'=>R (.error e) s') s)(n:Ag)(h:I n s):Fb (model prog w) A (.compLoop (.ListComp elt [⟨target,iter,ifs,0⟩] scope pos) 0 it acc env) R s:=by
  refine codeAny_loop rfl I (fun n s hI=>?_) n h
  show AH _ A ((compTurn (.ListComp elt [⟨target,iter,ifs,0⟩] scope pos) 0 it acc env).onRaise (fun x=>do noteFrame x env;theTreesLotGoes x)) _ _ s
  refine wpAny_noted ?_;rw[compTurn_list];refine Am (FC (Am (B4 (turn n s hI) (fun r s₁ h₁=>?_) fun _ _ h'=>h')))
  cases r with
  |none=>exact AJ h₁
  |some v=>
    refine Am (B4 h₁ (fun _ s₁' h₁'=>?_) fun _ _ h'=>h')
    refine Am (B4 h₁' (fun _ s₂ h₂=>Am (B4 h₂ (fun ok s₃ h₃=>?_) fun _ _ h'=>h')) fun _ _ h'=>h')
    cases ok with
    |false=>exact AJ ⟨rfl,h₃⟩
    |true=>
      exact Am (Am (B4 h₃ (fun x s₄ h₄=>Am (B4 h₄ (fun _ s₅ h₅=>AJ (AJ ⟨rfl,h₅⟩)) fun _ _ h'=>h')) fun _ _ h'=>h'))
end
def Jy(J:It)(ts:Ac Ag)(g:TG)(tt:TT)(te:TE)(σ:L2.St)(H:Hp)(Q:VK):Prop:=∃ W:Ag->Ag->Ac V->L2.St->Hp->Prop,(∃ m,W 0 m [] (hideT ts σ) H)/\∀ i m xs σ H,W i m xs σ H ->
 (J.stop i H/\∀ p,H p=Af->Q (.ref p) (upd H p (.lst xs))) \/
 (J.go i H/\xs.length<sizeLine/\∀ x H',J.yld i H x H'->g x σ H' fun σ2 H2=>tt σ2 H2 fun b H3=>if b=Ab then te σ2 H3 fun y H4=>∃ m',m'<m/\W (i+1) m' (xs++[y]) σ2 H4 else ∃ m',m'<m/\W (i+1) m' xs σ2 H3)
theorem OG{g:TG}{it:Ak}{tn:Ag->AK->Prop}{E:Vq}{RR:Aj->Ak->HV->Ap->Prop}(hc:X.calm=Ab)(B:BlockOk X scope N' ts)(I:Inv X pI σ H s)(T:Turn X.prog X.w X.K tg J fp it tn)(st:tn 0 s.heap)(hf:∀ b∈fp,Fn X pI H b)(hcl:∀ x c,cl.lookup x=Aa c->X.env.cells.lookup x=Aa c)(hcl2:∀ x,(x,Da)∈scope.names->∃ c,cl.lookup x=Aa c)(hg:∀ cl C s H,PG (cxC X scope cl C N' s H fp) tg g)(ht:∀ cl C s H,PTs (cxC X scope cl C N' s H fp) ifs tt)(he:∀ cl C s H,PE (cxC X scope cl C N' s H fp) elt te)(h:Jy J ts g tt te σ H Q)(hRR:∀ cl D C s' H' σ' pins' xs ys n m,Inv (cxC X scope cl C N' s H fp) pins' σ' H' s'->s'.heap.get? D=Aa { cls:=.type "list", data:=.seq (EO ys) n }->H' D=Af->AZ xs ys->xs.length<=sizeLine->s.heap.objs.size<=D->D≠C->s.heap.objs.size<=C->s'.heap.Ns C m->Q (.ref D) (upd H' D (.lst xs))->RR (.ref D) C (.ok .next) s'):AH (model X.prog X.w) X.A (newList []) (fun acc s₃=>AH (model X.prog X.w) X.A (GL scope X.env.globals cl [] X.env.qual Af .none (Aa X.env)) (fun cenv s₄=>Fb (model X.prog X.w) X.A (.compStart (.ListComp elt [⟨tg,iter,ifs,0⟩] scope pos) 0 (.ref it) acc {cenv with scope:=relabel scope X.env}) (RR acc cenv.locals) s₄) E s₃) E s:=by
 refine CM (Uf ?_);dsimp only;generalize hH2:s.heap.push { cls:=.type "list", dict:=Af,data:=.seq ([]:Ac Aj).toArray }=H2;have hns₁:(Fs (H2.push { cls:=.type "dict", data:=.dict #[] }) scope.names).Ns H2.objs.size (fun _=>Af):=(Heap.Ns.new H2 (.type "dict")).keeps (Gq _ _)
 have hkp₁:∀ b o,H2.get? b=Aa o->(Fs (H2.push { cls:=.type "dict", data:=.dict #[] }) scope.names).get? b=Aa o:=fun b o e=>Gq _ _ b o (Au _ e)
 have hown:=LF scope.names (H2.push { cls:=.type "dict", data:=.dict #[] }) cl;have hinj:=LG scope.names (H2.push { cls:=.type "dict", data:=.dict #[] }) cl;rw[BJ]at hown hinj;generalize hcl':CF (H2.objs.size+1) scope.names cl=cl' at hown hinj;have hcf:∀ x,(x,BH)∉scope.names->cl'.lookup x=cl.lookup x:=fun x hx=>by rw[<-hcl'];exact Lk _ _ _ x hx
 have hch:∀ x,(x,BH)∈scope.names->∃ c,cl'.lookup x=Aa c/\H2.objs.size+1<=c:=fun x hx=>by rw[<-hcl'];exact LH _ _ _ _ x (AV _) (.inl hx)
 generalize hh₁:Fs (H2.push { cls:=.type "dict", data:=.dict #[] }) scope.names=h₁ at hns₁ hkp₁ hown;have hC:H2.objs.size=s.heap.objs.size+1:=by rw[<-hH2,BJ]
 have hCle:s.heap.objs.size<=H2.objs.size:=by rw[hC];exact Gr _
 have hDC:s.heap.objs.size≠H2.objs.size:=by rw[hC];exact A3 (Ez _)
 have below:∀ b,b<s.heap.objs.size->b≠H2.objs.size:=fun b hb=>by rw[hC];exact A3 (CK hb)
 have old:∀ b o,s.heap.get? b=Aa o->h₁.get? b=Aa o:=fun b o e=>hkp₁ b o (hH2 ▸ Au _ e)
 have hacc:h₁.get? s.heap.objs.size=Aa { cls:=.type "list", data:=.seq ([]:Ac Aj).toArray 0 }:=hkp₁ _ _ (hH2 ▸ AG _ rfl);have clt:∀ x c,cl.lookup x=Aa c->c<s.heap.objs.size:=fun x c e=>by
  obtain⟨v,q⟩:=I.cell x c (hcl x c e);exact q.lt
 have bc:BCells X scope cl' H2.objs.size h₁:=by
  refine⟨fun x c e=>?_,hinj (fun x y c e1 e2=>I.ok.inj x y c (hcl x c e1) (hcl y c e2)) (fun x c e=>CK (AI (clt x c e) hCle)),fun x hx=>?_,fun x hx=>?_⟩
  ·rcases hown x c e with q|⟨q1,q2,q3⟩
   ·exact .inl (hcl x c q)
   ·exact .inr ⟨B.uniq _ q1,q2,q3⟩
  ·have hm:=Cc hx;obtain⟨c,e,hc⟩:=hch x hm;exact⟨c,e,hc⟩
  ·have hno:(x,BH)∉scope.names:=fun z=>by
    have e1:=B.uniq _ hx;have e2:=B.uniq _ z;rw[show scope.names.lookup x=_ from e1]at e2
    cases e2
   obtain⟨c,e⟩:=hcl2 x hx;exact⟨c,by rw[hcf x hno];exact e,hcl x c e⟩
 have hfo:∀ b∈fp,b<s.heap.objs.size:=fun b hb=>by
  obtain⟨o,e,_⟩:=T.obj 0 _ st b hb;exact Az e
 generalize hD:s.heap.objs.size=D at *;generalize hC':H2.objs.size=C at *;have I0:Inv (cxC X scope cl' C N' s H fp) [] (hideT ts σ) H {s with heap:=h₁,toks:=s.toks+([]:Ac (Ah×Aj)).length}:=Up (tk:=s.toks+([]:Ac (Ah×Aj)).length) I B hf (fun b hb=>by rw[hD];exact hfo b hb) bc old (by rw[hD];exact hCle) hns₁
 have nD:H D=Af:=I.hok.fresh (by rw[hD];exact AV _)
 have noD:∀ b∈fp,b≠D:=fun b hb=>A3 (hfo b hb)
 have noC:∀ b∈fp,b≠C:=fun b hb=>below b (hfo b hb)
 have stfs:D∉frs X.stack:=fun z=>by
  obtain⟨_,o,ho,_⟩:=I.stack.mem z;exact absurd (Az ho) (by rw[hD];exact Bh _)
 have cD:∀ x c,cl'.lookup x=Aa c->c≠D:=fun x c e z=>by
  rcases bc.own x c e with q|⟨_,q,_⟩
  ·obtain⟨v,q⟩:=I.cell x c q;exact absurd q.lt (by rw[z,hD];exact Bh _)
  ·rw[z]at q;exact absurd (AI q hCle) (Bh _)
 have I1:Inv (cxC X scope cl' C N' s H fp) [(D,{ cls:=.type "list", data:=.seq ([]:Ac Aj).toArray 0 })] (hideT ts σ) H {s with heap:=h₁,toks:=s.toks+([]:Ac (Ah×Aj)).length}:=I0.pins_of fun p hp=>by
  have e:=AR.mp hp;subst e;exact⟨hacc,nD,hDC,stfs,fun v z=>by
   have z':IZ _ _=IY v:=z;cases z'⟩
 have st1:tn 0 h₁:=T.keep _ _ _ st fun b _ o e=>old b o e
 obtain⟨W,⟨m0,w0⟩,turn⟩:=h;have fpk:∀{pl:Pn}{H':Hp},(∀ p∈pl,p.1=D)->(∀ b∈fp,H' b=Af)->∀ b∈fp,Fn (cxC X scope cl' C N' s H fp) pl H' b:=fun {pl H'} hp hn b hb=>
  ⟨hn b hb,noC b hb,fun z=>by
   rcases As.mp (I.stkSub b z) with e|e
   ·exact(hf b hb).2.1 e
   ·exact(hf b hb).2.2.1 e,.inl hb,fun x c e=>(bc.own x c e).elim ((hf b hb).2.2.2.2.1 x c) (fun z q=>absurd (Fp hCle z.2.1) (SX.mpr (by rw[q];exact EQ (hfo b hb)))),fun p hp'=>by
   have hp2:p∈pl:=hp';rw[hp p hp2];exact(noD b hb).symm⟩
 have loop:∀ s₃:Ap,s₃={s with heap:=h₁,toks:=s.toks+([]:Ac (Ah×Aj)).length} ->
   Fb (model X.prog X.w) X.A (.compLoop (.ListComp elt [⟨tg,iter,ifs,0⟩] scope pos) 0 (.ref it) (.ref D) (compEnvC scope cl' C X.env)) (RR (.ref D) C) s₃:=by
  rintro s₃ rfl;refine Uo (fun k s'=>∃ i σ' H' xs ys n,Inv (cxC X scope cl' C N' s H fp) [(D,{ cls:=.type "list", data:=.seq (EO ys) n })] σ' H' s'/\tn i s'.heap/\(∀ b∈fp,H' b=Af)/\AZ xs ys/\xs.length<=sizeLine/\W i k xs σ' H') ?_ m0
   ⟨0,_,H,[],[],0,I1,st1,fun b hb=>(hf b hb).1,.nil,Gs _,w0⟩
  rintro k s' ⟨i,σ',H',xs,ys,n,I',st',fr',rv,hz,w'⟩;have one:∀ p∈[((D,{ cls:=.type "list", data:=.seq (EO ys) n }):Ak×Dq)],p.1=D:=fun p hp=>by rw[AR.mp hp]
  rcases turn i k xs σ' H' w' with ⟨stop,q⟩|⟨go,hlt,step⟩
  ·refine B4 (T.done (cxC X scope cl' C N' s H fp) rfl rfl rfl hc i _ s' σ' H' (fun _ _=>Bb) I' (fpk one fr') st' stop) (fun r s1 ⟨hr,J1⟩=>?_) fun _ _ f=>f.elim
   subst hr;obtain⟨e,hn,_⟩:=J1.pin _ (Bg _ Aw);obtain⟨m,hm,_⟩:=J1.loc;exact hRR cl' D C s1 H' σ' _ xs ys n m J1 e hn rv hz (AV _) hDC hCle hm (q D hn)
  ·refine B4 (T.item (cxC X scope cl' C N' s H fp) rfl rfl rfl hc i _ s' σ' H' (fun _ _=>Bb) I' (fpk one fr') st' go) (fun r s1 ⟨u,hr,h4⟩=>?_) fun _ _ f=>f.elim
   subst hr;refine B4 h4 (fun _ s5 ⟨x,H5,I5,r5,y5,st5,fr5⟩=>?_) fun _ _ f=>f.elim
   have I5':=I5.pinned (fpk one fr5) (T.obj _ _ st5);refine B4 (hg cl' C s H _ s5 σ' H5 x u _ I5' r5 (step x H5 y5)) (fun _ s6 ⟨σ6,H6,I6,q6⟩=>?_) fun _ _ f=>f.elim
   refine B4 (ht cl' C s H _ s6 σ6 H6 _ I6 q6) (fun ok s7 ⟨H7,I7,q7⟩=>?_) fun _ _ f=>f.elim
   have again:∀{s8:Ap}{H8:Hp}{ys':Ac Aj}{n':Ag},Inv (cxC X scope cl' C N' s H fp) ((D,{ cls:=.type "list", data:=.seq (EO ys') n' })::HG fp s5.heap) σ6 H8 s8->Inv (cxC X scope cl' C N' s H fp) [(D,{ cls:=.type "list", data:=.seq (EO ys') n' })] σ6 H8 s8/\tn (i+1) s8.heap/\∀ b∈fp,H8 b=Af:=fun {s8 H8 ys' n'} I8=>
    ⟨I8.pins_of fun p hp=>I8.pin p (Bg _ (by rw[AR.mp hp];exact Aw)),T.keep _ _ _ st5 fun b hb o e=>(I8.pin (b,o) (Bg _ (At _ (Kj hb e)))).1,fun b hb=>by
     obtain⟨o,e,d⟩:=T.obj _ _ st5 b hb;exact(I8.pin (b,o) (Bg _ (At _ (Kj hb e)))).2.1⟩
   cases ok with
   |false=>
    rw[AM (by decide)]at q7
    obtain⟨m',hm,w7⟩:=q7;obtain⟨a1,a2,a3⟩:=again I7;rw[AM (by decide)]
    exact⟨m',hm,i+1,σ6,H7,xs,ys,n,a1,a2,a3,rv,hz,w7⟩
   |true=>
    rw[AB rfl]at q7;rw[AB rfl];refine B4 (he cl' C s H _ s7 σ6 H7 _ I7 q7) (fun val s8 ⟨y,H8,I8,r8,m',hm,w8⟩=>?_) fun _ _ f=>f.elim
    have hl:=rv.length;refine UU (X:=cxC X scope cl' C N' s H fp) (ys:=ys) (n:=n) (pI:=HG fp s5.heap) I8 (by show s.heap.objs.size<=D;rw[hD];exact AV _) (fun p hp=>?_) cD (by omega) fun s9 I9 kb=>?_
    ·have hp2:p∈HG fp s5.heap:=hp;exact noD _ (NZ hp2).1
    ·obtain⟨a1,a2,a3⟩:=again I9;exact⟨m',hm,i+1,σ6,H8,xs++[y],ys++[val],n+1,a1,a2,a3,rv.append (.cons r8 .nil),by rw[B1];exact hlt,w8⟩
 exact codeAny_compStart_list (loop _ rfl) (T.self _ 0 _ _ _ st1 (loop _ rfl))
theorem WH{g:TG}(hc:X.calm=Ab)(B:BlockOk X scope N' ts)(hi:PI X tg iter wi)(hg:∀ cl C s H fp,PG (cxC X scope cl C N' s H fp) tg g)(ht:∀ cl C s H fp,PTs (cxC X scope cl C N' s H fp) ifs tt)(he:∀ cl C s H fp,PE (cxC X scope cl C N' s H fp) elt te)(hs:∀ x,Cs iter X.env x=pure x):PE X (.ListComp elt [⟨tg,iter,ifs,0⟩] scope pos) (fun σ H Q=>wi σ H fun J H1=>Jy J ts g tt te σ H1 Q):=by
 intro pI s σ H Q I h;obtain⟨cl,hclos,hcl,hcl2⟩:=N8 (scope:=scope) (env:=X.env) fun x hx hk=>I.ok.has x.1 ((B.free x hx hk).imp id id)
 rw[eval_ListComp];refine T6 (use:=Af) rfl hs hclos B.kind B.names (thn (hi pI s σ H _ I h) fun v s1 h1=>thn h1 fun itv s2 h2=>?_)
 obtain⟨it,fp,tn,J,H2,e,I2,T,st2,f2,h3⟩:=h2;subst e;refine OG (RR:=fun acc C=>compPost (model X.prog X.w) X.A X.xe Af (EP X pI σ Q) acc C) hc B I2 T st2 f2 hcl hcl2 (fun cl C s H=>hg cl C s H fp) (fun cl C s H=>ht cl C s H fp) (fun cl C s H=>he cl C s H fp) h3 fun cl' D C s' H' σ' pins' xs ys n m I' hd hDn rv hz hD hDC hC hm q=>?_
 exact⟨m,hm,fun h'' hs''=>⟨.ref D,_,Ou I2 f2 I' hD hDC hC hd hDn rv hz hs'',rfl,q⟩⟩
theorem Xn{n:Ah}{g:TG}(hc:X.calm=Ab)(B:BlockOk X scope N' ts)(hi:PI X tg iter wi)(hg:∀ cl C s H fp,PG (cxC X scope cl C N' s H fp) tg g)(ht:∀ cl C s H fp,PTs (cxC X scope cl C N' s H fp) ifs tt)(he:∀ cl C s H fp,PE (cxC X scope cl C N' s H fp) elt te)(hs:∀ x,Cs iter X.env x=pure x)(hN:X.N.Nodup)(hni:X.N[i]?=Aa n)(hx:X.env.scope.names.lookup n=Aa .local)(hsw:DG (.ListComp elt [⟨tg,iter,ifs,0⟩] scope pos) (Aa (.Name n pos')) pos2.line X.env=pure Ab):PS X (.Assign [.Name n pos'] (.ListComp elt [⟨tg,iter,ifs,0⟩] scope pos) pos2) (KU (fun σ H Q=>wi σ H fun J H1=>Jy J ts g tt te σ H1 Q) (D7 i)):=by
 intro pI s σ H Dn I h;obtain⟨cl,hclos,hcl,hcl2⟩:=N8 (scope:=scope) (env:=X.env) fun x hx hk=>I.ok.has x.1 ((B.free x hx hk).imp id id)
 rw[exec_Assign_Name_used _ _ _ _ hsw];refine Am (FC (Am ?_));show AH _ X.A (do let _ <-comprehension (.ListComp elt [⟨tg,iter,ifs,0⟩] scope pos) scope X.env _ (newList []) Ad (eval iter X.env) (Aa (assign (.Name n pos') X.env))) _ _ s
 refine Am (B4 (T6 (use:=Aa (assign (.Name n pos') X.env)) (Q:=fun _ s'=>SP X pI Dn .next s') rfl hs hclos B.kind B.names
  (thn (hi pI s σ H _ I h) fun v s1 h1=>thn h1 fun itv s2 h2=>?_)) (fun _ s' hq=>AJ (AJ hq)) fun _ _ e=>e)
 obtain⟨it,fp,tn,J,H2,e,I2,T,st2,f2,h3⟩:=h2;subst e;refine OG (RR:=fun acc C=>compPost (model X.prog X.w) X.A X.xe (Aa (assign (.Name n pos') X.env)) (fun _ s'=>SP X pI Dn .next s') acc C) hc B I2 T st2 f2 hcl hcl2 (fun cl C s H=>hg cl C s H fp) (fun cl C s H=>ht cl C s H fp) (fun cl C s H=>he cl C s H fp) h3 fun cl' D C s' H' σ' pins' xs ys n' m I' hd hDn rv hz hD hDC hC hm q=>?_
 have J0:Inv X pI σ (upd H' D (.lst xs)) s':=Ou I2 f2 I' hD hDC hC hd hDn rv hz (Tq ..);refine T5 (NW J0 hN hni (.inl hx) (show By (.ref D) (.ref D) from rfl) (fun s'' J1 ⟨a,sb,ha⟩=>?_) (.inr hx))
 have hC0:X.s₀.heap.objs.size<=C:=Cj I2.sz hC;have hL:C≠X.env.locals:=fun z=>absurd (AI I2.lt (z ▸ hC)) (Bh _)
 have hcC:∀ x c,X.env.cells.lookup x=Aa c->c≠C:=fun x c e z=>by
  obtain⟨v,q'⟩:=I2.cell x c e;exact absurd (AI q'.lt (by rw[z];exact hC)) (Bh _)
 have hp:∀ p∈X.pn++pI,p.1≠C:=fun p hp z=>absurd (AI (Az (I2.pin p hp).1) (by rw[z];exact hC)) (Bh _)
 have hCn:upd H' D (.lst xs) C=Af:=by rw[Ch hDC.symm];exact I'.free
 have hCa:C≠a:=by
  rcases ha with rfl|ha
  ·exact hL
  ·exact fun z=>hcC n a ha z.symm
 refine⟨m,hm.sameBut sb hCa,fun h'' hs''=>⟨_,_,J1.turned (t':=s''.toks) (fun b o hb e=>(hs''.2 b hb).trans e) hCn hL (.inr hC0) hcC hp,q⟩⟩
theorem Ii:∀(ts:Ac Ag)(ρ:Rho)(j:Ag),(Ei ts ρ)[j]?=if j∈ts then (ρ[j]?).map (fun _=>Af) else ρ[j]?
 |[],ρ,j=>by simp[Ei]
 |t::ts,ρ,j=>by
  show (Ei ts (ρ.set t Af))[j]?=_;rw[Ii ts];by_cases h1:j∈ts
  ·rw[AB h1,AB (At _ h1)];by_cases h2:t=j
   ·subst h2;rw[El];cases ρ[t]?<;>rfl
   ·rw[Ck h2]
  ·rw[AM h1];by_cases h2:t=j
   ·subst h2;rw[AB Aw,El];cases ρ[t]?<;>rfl
   ·rw[Ck h2,AM (by simp only[As,CS];exact⟨fun z=>h2 z.symm,h1⟩)]
theorem Ke:∀(ts:Ac Ag)(ρ:Rho),(Ei ts ρ).length=ρ.length
 |[],_=>rfl
 |t::ts,ρ=>by show (Ei ts (ρ.set t Af)).length=_;rw[Ke ts,A9]
theorem Lr:∀(ts:Ac Ag)(σ:L2.St){i:Ag},i∉ts->(hideT ts σ)[i]?=σ[i]?
 |[],_,_,_=>rfl
 |t::ts,σ,i,h=>by
  simp only[As,CS]at h;show (hideT ts (σ.set t Af))[i]?=_;rw[Lr ts _ h.2,Ck (fun z=>h.1 z.symm)]
theorem NK:∀(ts:Ac Ag)(ds:Ac D)(ρ1 ρ2:Rho),ρ1.length=ρ2.length->(∀ j,j∉ts->ρ1[j]?=ρ2[j]?)->DS ts ds ρ1=DS ts ds ρ2
 |[],[],ρ1,ρ2,hl,h=>congrArg Aa (Sr fun j=>h j (by simp))
 |[],_::_,_,_,_,_=>rfl
 |_::_,[],_,_,_,_=>rfl
 |t::ts,d::ds,ρ1,ρ2,hl,h=>by
  refine NK ts ds _ _ (by rw[A9,A9];exact hl) fun j hj=>?_
  by_cases e:t=j
  ·subst e;rw[FO,FO,AB rfl,AB rfl,hl]
  ·rw[Ck e,Ck e];exact h j (by simp only[As,CS];exact⟨fun z=>e z.symm,hj⟩)
theorem NO:∀(ts us:Ac Ag)(ds:Ac D)(ρ ρ':Rho),(∀ t∈ts,t∈us)->DS ts ds ρ=Aa ρ'->Ei us ρ'=Ei us ρ
 |[],us,[],ρ,ρ',_,e=>by cases e;rfl
 |t::ts,us,d::ds,ρ,ρ',hs,e=>by
  rw[NO ts us ds _ ρ' (fun u hu=>hs u (At _ hu)) e]
  refine Sr fun j=>?_
  rw[Ii,Ii];by_cases h:j∈us
  ·rw[AB h,AB h,FO];split
   ·rename_i e2;subst e2;split
    ·rename_i h3;rw[Bo h3];rfl
    ·rename_i h3;rw[List.getElem?_eq_none (by omega)]
   ·rfl
  ·rw[AM h,AM h,Ck];rintro rfl;exact h (hs _ Aw)
 |[],_,_::_,_,_,_,e=>by cases e
 |_::_,_,[],_,_,_,e=>by cases e
section
variable{K:Fg}{CL:ClA}{A:Ak->Prop}{ρ ρ':Rho}{σ:L2.St}{H:Hp}
theorem Good.less(g:Good K CL A ρ σ H)(hl:ρ'.length=ρ.length)(h:∀(i:Ag)(d:D)(o:An),ρ'[i]?=Aa (Aa (d,o))->ρ[i]?=Aa (Aa (d,o))):Good K CL A ρ' σ H:=⟨fun i d e=>g.sh i d (h i d Ad e),fun i d e=>g.ow i d (h i d Ab e),hl.trans g.len⟩
theorem Good.put(g:Good K CL A ρ σ H)(t:Ag)(r:Rep K CL H A v d):Good K CL A (ρ.set t (Aa (d,Ad))) (σ.set t (Aa v)) H:=by
 refine⟨fun j e h=>?_,fun j e h=>?_,by rw[A9,A9];exact g.len⟩
 ·by_cases hj:t=j
  ·subst hj;have e1:=Ga h;cases e1;have hl:t<σ.length:=by
    rw[<-g.len];have:=(AE.mp h).1;simpa using this
   exact⟨v,by rw[Cy hl],r⟩
  ·rw[Ck hj]at h;obtain⟨w',q,rw'⟩:=g.sh j e h;exact⟨w',by rw[Ck hj];exact q,rw'⟩
 ·have hj:t≠j:=by
   rintro rfl;have:=Ga h;cases this
  rw[Ck hj]at h;obtain⟨a,xs,ds,q,z⟩:=g.ow j e h;exact⟨a,xs,ds,by rw[Ck hj];exact q,z⟩
theorem Good.hide(g:Good K CL A ρ σ H)(ts:Ac Ag):Good K CL A (Ei ts ρ) σ H:=g.less (Ke _ _) fun i d o e=>by
 rw[Ii]at e;split at e
 ·cases q:ρ[i]? with
  |none=>rw[q]at e;cases e
  |some x=>rw[q]at e;cases e
 ·exact e
theorem Good.hideT(g:Good K CL A ρ σ H)(ts:Ac Ag):Good K CL A (Ei ts ρ) (hideT ts σ) H:=by
 have key:∀ i x,(Ei ts ρ)[i]?=Aa (Aa x)->ρ[i]?=Aa (Aa x)/\i∉ts:=fun i x e=>by
  rw[Ii]at e;split at e
  ·cases q:ρ[i]? with
   |none=>rw[q]at e;cases e
   |some x=>rw[q]at e;cases e
  ·exact⟨e,by assumption⟩
 refine⟨fun i d e=>?_,fun i d e=>?_,by rw[Ke,Ly];exact g.len⟩
 ·obtain⟨e1,e2⟩:=key i _ e;obtain⟨v,q,r⟩:=g.sh i d e1;exact⟨v,by rw[Lr _ _ e2];exact q,r⟩
 ·obtain⟨e1,e2⟩:=key i _ e;obtain⟨a,xs,ds,q,r⟩:=g.ow i d e1;exact⟨a,xs,ds,by rw[Lr _ _ e2];exact q,r⟩
end
def GG(K:Fg)(CL:ClA)(ts:Ac Ag)(as:D->Rho->R Rho)(g:TG):Prop:=∀ A ρ σ H v d ρ' Q,Good K CL A (Ei ts ρ) σ H->Rep K CL H A v d->as d ρ=.ok ρ'->(∀ σ',Good K CL A ρ' σ' H->Good K CL A (Ei ts ρ) σ' H->Q σ' H)->g v σ H Q
theorem WG(i:Ag):GG K CL [i] (fun d ρ=>.ok (ρ.set i (Aa (d,Ad)))) (D7 i):=fun A ρ σ H v d ρ' Q g r e k=>by
 cases e;have g2:=g.put i r;have e1:(Ei [i] ρ).set i (Aa (d,Ad))=ρ.set i (Aa (d,Ad)):=by
  show (ρ.set i Af).set i (Aa (d,Ad))=_;rw[SQ]
 rw[e1]at g2;refine k _ g2 ?_;have:=g2.hide [i];have e2:Ei [i] (ρ.set i (Aa (d,Ad)))=Ei [i] ρ:=by
  show (ρ.set i _).set i Af=ρ.set i Af;rw[SQ]
 rw[e2]at this;exact this
theorem PC{K:Fg}{CL:ClA}{A:Ak->Prop}{H:Hp}:∀(ts:Ac Ag)(ds:Ac D)(vs:Ac V)(ρ ρ':Rho)(σ:L2.St)(Q:L2.St->Hp->Prop),Good K CL A ρ σ H->Reps K CL H A vs ds->DS ts ds ρ=Aa ρ'->(∀ σ',Good K CL A ρ' σ' H->Q σ' H)->(ts.foldr (fun t u=>Gf (D7 t) u) Gk) vs σ H Q
 |[],[],[],ρ,ρ',σ,Q,x,_,e,k=>by
  cases e;exact⟨rfl,k σ x⟩
 |t::ts,d::ds,v::vs,ρ,ρ',σ,Q,x,r,e,k=>⟨v,vs,rfl,PC ts ds vs _ ρ' _ Q (x.put t r.1) r.2 e k⟩
 |[],_::_,_,_,_,_,_,_,_,e,_=>by cases e
 |_::_,[],_,_,_,_,_,_,_,e,_=>by cases e
 |[],[],_::_,_,_,_,_,_,r,_,_=>r.elim
 |_::_,_::_,[],_,_,_,_,_,r,_,_=>r.elim
theorem ZS(ts:Ac Ag):GG K CL ts (E0 ts) (IT K ts.length (ts.foldr (fun t u=>Gf (D7 t) u) Gk)):=fun A ρ σ H v d ρ' Q g r e k=>by
 cases d with
 |tup ds=>
  obtain⟨a,xs,rfl,na,sq,rs⟩:=r;rw[Oa]at e;cases e2:DS ts ds ρ with
  |none=>rw[e2]at e;cases e
  |some ρ2=>
   rw[e2]at e;cases e;have e3:DS ts ds (Ei ts ρ)=Aa ρ':=by
    rw[<-e2];exact NK ts ds _ _ (Ke _ _) fun j hj=>by rw[Ii,AM hj]
   refine⟨a,xs,rfl,sq,by rw[rs.length];exact Kh _ _ _ _ e2,PC ts ds xs _ ρ' σ Q g rs e3 fun σ' g'=>k σ' g' ?_⟩
   have:=g'.hide ts;rw[NO ts ts ds ρ ρ' (fun _ h=>h) e2]at this
   exact this
 |_=>cases e
noncomputable abbrev W0:XW:=fun _ _=>Bb
def STs(X:Cx)(CL:ClA)(ifs:Ac Ao)(f:Rho->R An):Prop:=∀ A,PTs X ifs (fun σ H Q=>AOk H A/\∃ ρ,Good X.K CL A ρ σ H/\CC W0 H (f ρ) Q)
theorem Wr:STs X CL [] (fun _=>.ok Ab):=fun A pI s σ H Q I ⟨hA,ρ,g,p⟩=>Xj pI s σ H Q I (p H (AC.refl H))
theorem Wq(h:SB X CL W0 c f):STs X CL [c] f:=fun A pI s σ H Q I q=>Xh (h A) pI s σ H Q I q
section
variable{X:Cx}{CL:ClA}{W:XW}{tg iter elt:Ao}{ifs:Ac Ao}{scope:BY}{pos:AU}{N':Ac Ah}{ts:Ac Ag}{fi:Rho->R (Ac D)}{fc:Rho->R An}{fe:Rho->R D}{as:D->Rho->R Rho}{g:TG}
theorem Uk{g:D->R An}{f:D->R D}{x:D}{xs ys:Ac D}(h:Be g f (x::xs)=.ok ys):(g x=.ok Ad/\Be g f xs=.ok ys)\/∃ y r,g x=.ok Ab/\f x=.ok y/\Be g f xs=.ok r/\ys=y::r:=by
 unfold Be at h;cases e:g x with
 |bad=>rw[e]at h;cases h
 |exn z=>rw[e]at h;cases h
 |ok b=>
  rw[e,R.bind_ok]at h;cases b with
  |false=>exact .inl ⟨rfl,h⟩
  |true=>
   rw[AB rfl]at h;cases e2:f x with
   |bad=>rw[e2]at h;cases h
   |exn z=>rw[e2]at h;cases h
   |ok y=>
    rw[e2,R.bind_ok]at h;cases e3:Be g f xs with
    |bad=>rw[e3]at h;cases h
    |exn z=>rw[e3]at h;cases h
    |ok r=>
     rw[e3,R.bind_ok]at h;cases h;exact .inr ⟨y,r,rfl,rfl,rfl,rfl⟩
theorem Hz{β:Type}{r:R α}{f:α->R β}{b:β}(h:r.bind f=.ok b):∃ a,r=.ok a/\f a=.ok b:=by
 cases r with
 |ok a=>exact⟨a,rfl,h⟩
 |exn x=>cases h
 |bad=>cases h
theorem Vm{ds ys:Ac D}(hGG:GG K CL ts as g)(hA:AOk H1 A)(gd:Good K CL A ρ σ H1)(yl:G4 K CL A ds J H1)(hz:ds.length<=sizeLine)(hcp:Be (fun x=>(as x ρ).bind fc) (fun x=>(as x ρ).bind fe) ds=.ok ys)(q:∀ xs H2,AC H1 H2->Reps K CL H2 A xs ys->∀ p,H2 p=Af->Q (.ref p) (upd H2 p (.lst xs))):Jy J ts g (fun σ H Q=>AOk H A/\∃ ρ,Good K CL A ρ σ H/\CC W0 H (fc ρ) Q) (fun σ H Q=>AOk H A/\∃ ρ,Good K CL A ρ σ H/\Ba (fun H=>Rep K CL H A) W0 H (fe ρ) Q) σ H1 Q:=by
 refine⟨fun i m xs σ' H'=>m=ds.length-i/\i<=ds.length/\xs.length<=i/\AC H1 H'/\Good K CL A (Ei ts ρ) σ' H'/\∃ outs rest,Reps K CL H' A xs outs/\Be (fun x=>(as x ρ).bind fc) (fun x=>(as x ρ).bind fe) (ds.drop i)=.ok rest/\ys=outs++rest,
  ⟨ds.length,by simp,Gs _,AV _,AC.refl _,gd.hideT ts,[],ys,trivial,hcp,rfl⟩,?_⟩
 rintro i m xs σ' H' ⟨rfl,hi,hxl,sm,g',outs,rest,rs,hc,e⟩;obtain⟨yst,ygo⟩:=yl H' (Kp.of sm) i;by_cases hlt:i<ds.length
 ·have hd:ds[i]?=Aa ds[i]:=Bo hlt;obtain⟨hgo,hyl⟩:=ygo _ hd;refine .inr ⟨hgo,by omega,fun x H2 hx=>?_⟩
  obtain⟨s2,rx⟩:=hyl x H2 hx;have rx':=rx A (fun a ha=>.inl ha) (hA.same sm)
  rw[D9 hlt]at hc;have sm2:=sm.trans s2;rcases Uk hc with ⟨h1,h2⟩|⟨y,r,h1,h2,h3,h4⟩
  ·obtain⟨ρ',ea,ec⟩:=Hz h1;refine hGG A ρ σ' H2 x ds[i] ρ' _ (g'.same s2) rx' ea fun σ3 g3 g4=>⟨hA.same sm2,ρ',g3,?_⟩
   rw[ec];exact fun H3 s3=>by
    dsimp only;rw[AM (by decide)]
    exact⟨ds.length-(i+1),by omega,rfl,hlt,by omega,sm2.trans s3,g4.same s3,outs,rest,(rs.same s2).same s3,h2,e⟩
  ·obtain⟨ρ',ea,ec⟩:=Hz h1;obtain⟨ρ2,ea2,ee⟩:=Hz h2;rw[ea]at ea2;cases ea2;refine hGG A ρ σ' H2 x ds[i] ρ' _ (g'.same s2) rx' ea fun σ3 g3 g4=>⟨hA.same sm2,ρ',g3,?_⟩
   rw[ec];exact fun H3 s3=>by
    dsimp only;rw[AB rfl];refine⟨(hA.same sm2).same s3,ρ',g3.same s3,?_⟩;rw[ee];exact fun v H4 s4 r4=>⟨ds.length-(i+1),by omega,rfl,hlt,by rw[B1,EI];omega,(sm2.trans s3).trans s4,(g4.same s3).same s4,outs++[y],r,(((rs.same s2).same s3).same s4).append ⟨r4,trivial⟩,h3,by rw[e,h4];simp⟩
 ·have hk':ds.length<=i:=by omega
  rw[Sq hk']at hc;have hr:rest=[]:=by cases hc;rfl
  subst hr;rw[Cf]at e;subst e;exact .inl ⟨yst hk',fun p hp=>q xs H' sm rs p hp⟩
theorem DV.ok_of{r:R (Ac D)}{f:Ac D->R D}{Q':It->Hp->Prop}(h:Ba Rq W H (r.bind f) Q)(k:∀ ds J H',r=.ok ds->AC H H'->G4 K CL A ds J H'->ds.length<=sizeLine->Ba Rq W H' (f ds) Q->Q' J H'):DV K CL A W H r Q':=by
 cases r with
 |ok d=>exact fun J H2 s2 y z=>k d J H2 rfl s2 y z (Ba.same s2 h)
 |exn x=>exact h
 |bad=>exact h
theorem Z8{r:R α}{a:α}(h:noX r=.ok a):r=.ok a:=by
 cases r with
 |ok b=>exact h
 |exn x=>cases h
 |bad=>cases h
theorem Os(hGG:GG X.K CL ts as g)(hA:AOk H A)(gd:Good X.K CL A ρ σ H)(p:Ba (Dv X.K CL Ab H A) W H ((fi ρ).bind fun xs=>(noX (Be (fun x=>(as x ρ).bind fc) (fun x=>(as x ρ).bind fe) xs)).bind fun ys=>.ok (.lst ys)) Q):DV X.K CL A W H (fi ρ) (fun J H1=>Jy J ts g (fun σ H Q=>AOk H A/\∃ ρ,Good X.K CL A ρ σ H/\CC W0 H (fc ρ) Q) (fun σ H Q=>AOk H A/\∃ ρ,Good X.K CL A ρ σ H/\Ba (fun H=>Rep X.K CL H A) W0 H (fe ρ) Q) σ H1 Q):=
 DV.ok_of p fun ds J H1 e1 s1 yl hz p1=>by
  cases e2:noX (Be (fun x=>(as x ρ).bind fc) (fun x=>(as x ρ).bind fe) ds) with
  |ok ys=>
   rw[e2]at p1;exact Vm hGG (hA.same s1) (gd.same s1) yl hz (Z8 e2) fun xs H2 s2 rs q hq=>p1 _ _ (s2.trans (EA hq _)) (Hx (s1.trans s2) ((hA.same s1).same s2) hq rs)
  |exn x=>rw[e2]at p1;cases hq:Be (fun x=>(as x ρ).bind fc) (fun x=>(as x ρ).bind fe) ds<;>rw[hq]at e2<;>cases e2
  |bad=>rw[e2]at p1;exact p1.elim
theorem Wa(hc:X.calm=Ab)(B:BlockOk X scope N' ts)(hi:SI X CL W tg iter fi)(hGG:GG X.K CL ts as g)(hg:∀ cl C s H fp,PG (cxC X scope cl C N' s H fp) tg g)(ht:∀ cl C s H fp,STs (cxC X scope cl C N' s H fp) CL ifs fc)(he:∀ cl C s H fp,SE (cxC X scope cl C N' s H fp) CL W0 elt fe)(hs:∀ x,Cs iter X.env x=pure x):SC X CL W Ab (.ListComp elt [⟨tg,iter,ifs,0⟩] scope pos) (fun ρ=>(fi ρ).bind fun xs=>(noX (Be (fun x=>(as x ρ).bind fc) (fun x=>(as x ρ).bind fe) xs)).bind fun ys=>.ok (.lst ys)):=fun A pI s σ H Q I ⟨hA,ρ,gd,p⟩=>
 WH hc B (hi A) hg (fun cl C s H fp=>ht cl C s H fp A) (fun cl C s H fp=>he cl C s H fp A) hs pI s σ H Q I ⟨hA,ρ,gd,Os hGG hA gd p⟩
end
section
variable{K:Fg}{CL:ClA}{Fz:Ak->HO->Prop}{B:Ak->Prop}{ρ:Rho}{σ:L2.St}{H H':Hp}
theorem Sx.setF(x:Sx K CL Fz B ρ σ H)(s:AC H H'){ds:Ac D}(h0:H a=Af)(h1:H' a=Aa (.lst xs))(r:Reps K CL H' (fun b=>B6 B ρ σ b\/b=a) xs ds):Sx K CL Fz B (ρ.set i (Aa (.lst ds,Ab))) (σ.set i (Aa (.ref a))) H':=by
 have nA:¬ B6 B ρ σ a:=x.aok.new h0;have own:∀(j:Ag)(e:D),(ρ.set i (Aa (.lst ds,Ab)))[j]?=Aa (Aa (e,Ab))->(i=j/\e=.lst ds)\/(i≠j/\ρ[j]?=Aa (Aa (e,Ab))):=fun j e h=>by
  by_cases hj:i=j
  ·subst hj;have:=Ga h;cases this;exact .inl ⟨rfl,rfl⟩
  ·exact .inr ⟨hj,by rw[Ck hj]at h;exact h⟩
 have atI:∀{j:Ag}{y:Sl},(ρ.set i (Aa (.lst ds,Ab)))[j]?=Aa y->i=j->(σ.set i (Aa (.ref a)))[j]?=Aa (Aa (.ref a)):=fun {j y} h e=>by
  subst e;have hl:i<σ.length:=by
   rw[<-x.len];have:=(AE.mp h).1;simpa using this
  rw[Cy hl]
 have sub:∀ b,B6 B (ρ.set i (Aa (.lst ds,Ab))) (σ.set i (Aa (.ref a))) b->B6 B ρ σ b\/b=a:=fun b h=>by
  rcases h with h|⟨j,e,h1,h2⟩
  ·exact .inl (.inl h)
  ·rcases own j e h1 with ⟨hj,_⟩|⟨hj,h1'⟩
   ·rw[atI h1 hj]at h2;cases h2;exact .inr rfl
   ·rw[Ck hj]at h2;exact .inl (.inr ⟨j,e,h1',h2⟩)
 have wide:∀{v:V}{d:D},Rep K CL H (B6 B ρ σ) v d->Rep K CL H' (B6 B (ρ.set i (Aa (.lst ds,Ab))) (σ.set i (Aa (.ref a)))) v d:=fun r=>(Rep.wide (fun b hb=>(sub b hb).imp id fun e=>by rw[e];exact h0) _ r).same s
 have wides:∀{v:Ac V}{d:Ac D},Reps K CL H (B6 B ρ σ) v d->Reps K CL H' (B6 B (ρ.set i (Aa (.lst ds,Ab))) (σ.set i (Aa (.ref a)))) v d:=fun r=>(Reps.wide (fun b hb=>(sub b hb).imp id fun e=>by rw[e];exact h0) _ r).same s
 refine⟨⟨fun j e h=>?_,fun j e h=>?_,by rw[A9,A9];exact x.len⟩,fun b h=>?_,fun j e b g1 g2=>?_,fun j k e f b g1 g2 g3 g4=>?_,fun b o z=>s _ _ (x.same b o z),by rw[A9,A9];exact x.len⟩
 ·have hj:i≠j:=by
   rintro rfl;have:=Ga h;cases this
  rw[Ck hj]at h;obtain⟨w',q,rw'⟩:=x.good.sh j e h;exact⟨w',by rw[Ck hj];exact q,wide rw'⟩
 ·rcases own j e h with ⟨hj,rfl⟩|⟨hj,h'⟩
  ·have q:=atI h hj;exact⟨a,xs,ds,q,rfl,.inr ⟨j,_,h,q⟩,h1,Reps.sub sub _ r⟩
  ·obtain⟨b,ys,es,q,z,ha,hh,rr⟩:=x.good.ow j e h';have q':(σ.set i (Aa (.ref a)))[j]?=Aa (Aa (.ref b)):=by rw[Ck hj];exact q
   exact⟨b,ys,es,q',z,.inr ⟨j,e,h,q'⟩,s _ _ hh,wides rr⟩
 ·rcases sub b h with z|z
  ·obtain⟨ys,q⟩:=x.aok b z;exact⟨ys,s _ _ q⟩
  ·rw[z];exact⟨xs,h1⟩
 ·rcases own j e g1 with ⟨hj,_⟩|⟨hj,h'⟩
  ·rw[atI g1 hj]at g2;cases g2;refine⟨fun o z=>?_,fun z=>nA (.inl z)⟩
   have:=x.same a o z;rw[h0]at this;cases this
  ·rw[Ck hj]at g2;exact x.new j e b h' g2
 ·rcases own j e g1 with ⟨hj,_⟩|⟨hj,h'⟩
  ·rw[atI g1 hj]at g3;cases g3;rcases own k f g2 with ⟨hk,_⟩|⟨hk,h''⟩
   ·exact hj.symm.trans hk
   ·rw[Ck hk]at g4;exact absurd (.inr ⟨k,f,h'',g4⟩) nA
  ·rw[Ck hj]at g3;rcases own k f g2 with ⟨hk,_⟩|⟨hk,h''⟩
   ·rw[atI g2 hk]at g4;cases g4;exact absurd (.inr ⟨j,e,h',g3⟩) nA
   ·rw[Ck hk]at g4;exact x.dis j k e f b h' h'' g3 g4
theorem Sx.upd(x:Sx K CL Fz B ρ σ H){i:Ag}{d:D}{a:Ak}{xs:Ac V}{ds:Ac D}(hi:ρ[i]?=Aa (Aa (d,Ab)))(ha:σ[i]?=Aa (Aa (.ref a)))(r:Reps K CL H (B6 B ρ σ) xs ds):Sx K CL Fz B (ρ.set i (Aa (.lst ds,Ab))) σ (L2.upd H a (.lst xs)):=by
 have oa:B6 B ρ σ a:=.inr ⟨i,d,hi,ha⟩;have hil:i<ρ.length:=(AE.mp hi).1;have get:∀(j:Ag)(e:D),(ρ.set i (Aa (.lst ds,Ab)))[j]?=Aa (Aa (e,Ab))↔(i=j/\e=.lst ds)\/(i≠j/\ρ[j]?=Aa (Aa (e,Ab))):=fun j e=>by
  by_cases hj:i=j
  ·subst hj;rw[Cy hil];simp;exact⟨fun z=>z.symm,fun z=>z.symm⟩
  ·rw[Ck hj];simp[hj]
 have same:∀ b,B6 B (ρ.set i (Aa (.lst ds,Ab))) σ b↔B6 B ρ σ b:=fun b=>by
  constructor
  ·rintro (h|⟨j,e,h1,h2⟩)
   ·exact .inl h
   ·rcases (get j e).mp h1 with ⟨rfl,_⟩|⟨_,h1⟩
    ·exact .inr ⟨i,d,hi,h2⟩
    ·exact .inr ⟨j,e,h1,h2⟩
  ·rintro (h|⟨j,e,h1,h2⟩)
   ·exact .inl h
   ·by_cases hj:i=j
    ·subst hj;exact .inr ⟨i,.lst ds,(get i _).mpr (.inl ⟨rfl,rfl⟩),h2⟩
    ·exact .inr ⟨j,e,(get j e).mpr (.inr ⟨hj,h1⟩),h2⟩
 have kp:Kp (B6 B ρ σ) H (L2.upd H a (.lst xs)):=fun b o e na=>by
  have hne:b≠a:=by
   rintro rfl;exact na oa
  rw[Ch hne];exact e
 refine⟨⟨fun j e h=>?_,fun j e h=>?_,by rw[A9];exact x.len⟩,fun b h=>?_,fun j e b g1 g2=>?_,fun j k e f b g1 g2 g3 g4=>?_,fun b o z=>?_,by rw[A9];exact x.len⟩
 ·have hj:i≠j:=by
   rintro rfl;have:=Ga h;cases this
  rw[Ck hj]at h;obtain⟨w',q,rw'⟩:=x.good.sh j e h;exact⟨w',q,Rep.sub (fun b hb=>(same b).mp hb) _ (Rep.kp kp _ rw')⟩
 ·rcases (get j e).mp h with ⟨rfl,rfl⟩|⟨hj,h'⟩
  ·exact⟨a,xs,ds,ha,rfl,(same a).mpr oa,F8,Reps.sub (fun b hb=>(same b).mp hb) _ (Reps.kp kp _ r)⟩
  ·obtain⟨b,ys,es,q,z,hb,hh,rr⟩:=x.good.ow j e h';have hne:b≠a:=fun z=>hj (x.dis i j d e a hi h' ha (z ▸ q))
   exact⟨b,ys,es,q,z,(same b).mpr hb,by rw[Ch hne];exact hh,Reps.sub (fun b hb=>(same b).mp hb) _ (Reps.kp kp _ rr)⟩
 ·obtain⟨ys,q⟩:=x.aok b ((same b).mp h);by_cases e:b=a
  ·rw[e];exact⟨xs,F8⟩
  ·exact⟨ys,by rw[Ch e];exact q⟩
 ·rcases (get j e).mp g1 with ⟨rfl,_⟩|⟨_,h'⟩
  ·exact x.new i d b hi g2
  ·exact x.new j e b h' g2
 ·rcases (get j e).mp g1 with ⟨rfl,_⟩|⟨hj,h'⟩
  ·rcases (get k f).mp g2 with ⟨rfl,_⟩|⟨hk,h''⟩
   ·rfl
   ·exact x.dis i k d f b hi h'' g3 g4
  ·rcases (get k f).mp g2 with ⟨rfl,_⟩|⟨hk,h''⟩
   ·exact x.dis j i e d b h' hi g3 g4
   ·exact x.dis j k e f b h' h'' g3 g4
 ·have hne:b≠a:=fun e=>(x.new i d a hi ha).1 o (e ▸ z)
  rw[Ch hne];exact x.same b o z
theorem Sx.rel(x:Sx K CL Fz B ρ σ H)(hi:ρ[i]?=Aa (Aa (d,Ab))):Sx K CL Fz B (ρ.set i (Aa (d,Ad))) σ H:=by
 obtain⟨a,xs,ds,q,rfl,oa,hh,rr⟩:=x.good.ow i d hi;have own:∀(j:Ag)(e:D),(ρ.set i (Aa (.lst ds,Ad)))[j]?=Aa (Aa (e,Ab))->i≠j/\ρ[j]?=Aa (Aa (e,Ab)):=fun j e h=>by
  by_cases hj:i=j
  ·subst hj;have:=Ga h;cases this
  ·exact⟨hj,by rw[Ck hj]at h;exact h⟩
 have sub:∀ b,B6 B (ρ.set i (Aa (.lst ds,Ad))) σ b->B6 B ρ σ b:=fun b h=>by
  rcases h with h|⟨j,e,h1,h2⟩
  ·exact .inl h
  ·exact .inr ⟨j,e,(own j e h1).2,h2⟩
 have na:¬ B6 B (ρ.set i (Aa (.lst ds,Ad))) σ a:=fun h=>by
  rcases h with h|⟨j,e,h1,h2⟩
  ·exact(x.new i _ a hi q).2 h
  ·obtain⟨hj,h1⟩:=own j e h1;exact hj (x.dis i j _ e a hi h1 q h2)
 refine⟨⟨fun j e h=>?_,fun j e h=>?_,by rw[A9];exact x.len⟩,fun b h=>x.aok b (sub b h),fun j e b g1 g2=>x.new j e b (own j e g1).2 g2,fun j k e f b g1 g2 g3 g4=>x.dis j k e f b (own j e g1).2 (own k f g2).2 g3 g4,x.same,by rw[A9];exact x.len⟩
 ·by_cases hj:i=j
  ·subst hj;have e1:=Ga h;cases e1;exact⟨_,q,a,xs,rfl,.inl na,SqL.of hh,Reps.sub sub _ rr⟩
  ·rw[Ck hj]at h;obtain⟨w',q',rw'⟩:=x.good.sh j e h;exact⟨w',q',Rep.sub sub _ rw'⟩
 ·obtain⟨hj,h'⟩:=own j e h;obtain⟨b,ys,es,q',z,hb,hh',rr'⟩:=x.good.ow j e h';exact⟨b,ys,es,q',z,.inr ⟨j,e,h,q'⟩,hh',Reps.sub sub _ rr'⟩
end
section
variable{X:Cx}{CL:ClA}{W:XW}{pos:AU}{e:Ao}{fe:Rho->R D}{fr:An}
theorem B0.exC{f:D->O}(x:Sx X.K CL Fz B ρ σ H)(h:B0 X.K CL Fz B W (O.of ρ r f) D')(k:∀ d v H',r=.ok d->AC H H'->Dv X.K CL fr H A H' v d->Sx X.K CL Fz B ρ σ H'->B0 X.K CL Fz B W (f d) D'->Q v H'):Ba (Dv X.K CL fr H A) W H r Q:=by
 cases r with
 |ok d=>exact fun v H' s r=>k d v H' rfl s r (x.grow s) h
 |exn y=>exact fun H' s=>h H' fun b o z=>s _ _ (x.same b o z)
 |bad=>exact h
def SAs(X:Cx)(CL:ClA)(W:XW)(fr:An)(i:Ag)(st:Bz)(f:Rho->R D):Prop:=∀ A,PS X st (KU (fun σ H Q=>AOk H A/\∃ ρ,Good X.K CL A ρ σ H/\Ba (Dv X.K CL fr H A) W H (f ρ) Q) (D7 i))
theorem SC.sas{n:Ah}(hN:X.N.Nodup)(hi:X.N[i]?=Aa n)(hx:Loc X.env.scope n)(he:SC X CL W fr e fe)(hs:DG e (Aa (.Name n pos')) pos.line X.env=pure Ad)(hf:X.fn n=Ab\/X.env.scope.names.lookup n=Aa .local):SAs X CL W fr i (.Assign [.Name n pos'] e pos) fe:=
 fun A=>Y5 hN hi hx (he A) hs hf
theorem VQ{n:Ah}{fe:Rho->R D}{g:TG}(hc:X.calm=Ab)(B:BlockOk X scope N' ts)(hi:SI X CL W tg iter fi)(hGG:GG X.K CL ts as g)(hg:∀ cl C s H fp,PG (cxC X scope cl C N' s H fp) tg g)(ht:∀ cl C s H fp,STs (cxC X scope cl C N' s H fp) CL ifs fc)(he:∀ cl C s H fp,SE (cxC X scope cl C N' s H fp) CL W0 elt fe)(hs:∀ x,Cs iter X.env x=pure x)(hN:X.N.Nodup)(hni:X.N[i]?=Aa n)(hx:X.env.scope.names.lookup n=Aa .local)(hsw:DG (.ListComp elt [⟨tg,iter,ifs,0⟩] scope pos) (Aa (.Name n pos')) pos2.line X.env=pure Ab):SAs X CL W Ab i (.Assign [.Name n pos'] (.ListComp elt [⟨tg,iter,ifs,0⟩] scope pos) pos2) (fun ρ=>(fi ρ).bind fun xs=>(noX (Be (fun x=>(as x ρ).bind fc) (fun x=>(as x ρ).bind fe) xs)).bind fun ys=>.ok (.lst ys)):=fun A pI s σ H Dn I ⟨hA,ρ,gd,p⟩=>
 Xn hc B (hi A) hg (fun cl C s H fp=>ht cl C s H fp A) (fun cl C s H fp=>he cl C s H fp A) hs hN hni hx hsw pI s σ H Dn I ⟨hA,ρ,gd,Os hGG hA gd p⟩
theorem P8{st:Bz}(h:SAs X CL W fr i st fe):SS X CL W st (fun ρ=>O.of ρ (fe ρ) fun d=>.next (ρ.set i (Aa (d,Ad)))):=fun Fz B pI s σ H D I ⟨ρ,x,p⟩=>
 h (B6 B ρ σ) pI s σ H D I ⟨x.aok,ρ,x.good,B0.exC x p fun d v H' _ s r x' q=>q _ H' (x'.set i r.1)⟩
theorem Wz{st:Bz}(h:SAs X CL W Ab i st fe):SS X CL W st (fun ρ=>O.of ρ (fe ρ) fun d=>setF ρ i d):=fun Fz B pI s σ H D I ⟨ρ,x,p⟩=>
 h (B6 B ρ σ) pI s σ H D I ⟨x.aok,ρ,x.good,B0.exC x p fun d v H' _ s r x' q=>by
  cases d with
  |lst ds=>
   obtain⟨a,xs,rfl,h0,h1,rs⟩:=r.2 rfl ds rfl;exact q _ H' (x.setF s h0 h1 rs)
  |dic ds=>exact r.1.elim
  | _=>exact q.elim⟩
theorem Ww(he:SC X CL W Ab e fe):SS X CL W (.Return (Aa e) pos) (fun ρ=>O.of ρ (fe ρ) fun d=>.ret d Ab):=fun Fz B pI s σ H D I ⟨ρ,x,p⟩=>
 Mx (he (B6 B ρ σ)) pI s σ H D I ⟨x.aok,ρ,x.good,B0.exC x p fun d v H' _ s r x' q=>q v H' x'.same (Rep.sub (fun a h=>.inl h) _ r.1) fun _ ds e=>by
  obtain⟨a,xs,h0,h1,h2,h3⟩:=r.2 rfl ds e;refine⟨a,xs,h0,fun o z=>?_,h2,Reps.sub (fun b hb=>hb.imp .inl id) _ h3⟩
  have:=x.same a o z;rw[h1]at this;cases this⟩
noncomputable def Nj(ρ:Rho)(i:Ag):An:=match ρ[i]? with
  |some (Aa (_,o))=>o
  |_=>Ad
theorem Wu(he:PE X e (Fj i)):SS X CL W (.Return (Aa e) pos) (fun ρ=>O.of ρ (Ej ρ i) fun d=>.ret d (Nj ρ i)):=fun Fz B pI s σ H D I ⟨ρ,x,p⟩=>
 Mx he pI s σ H D I (by
  dsimp only at p;cases e:Ej ρ i with
  |bad=>rw[e]at p;exact p.elim
  |exn z=>exact(Oh e).elim
  |ok d=>
   rw[e]at p;obtain⟨o,e⟩:=Ph e;have eo:Nj ρ i=o:=by unfold Nj;rw[e]
   rw[O.of_ok,eo]at p;cases o with
   |false=>
    obtain⟨v,q,r⟩:=x.good.sh i d e;exact⟨v,q,p v H x.same (Rep.sub (fun a h=>.inl h) _ r) fun z=>nomatch z⟩
   |true=>
    obtain⟨a,xs,ds,q,rfl,ha,hh,r⟩:=x.good.ow i d e;obtain⟨n1,n2⟩:=x.new i _ a e q;refine⟨_,q,p _ H x.same ⟨a,xs,rfl,.inl n2,SqL.of hh,Reps.sub (fun a h=>.inl h) _ r⟩ fun _ ds' e'=>?_⟩
    cases e';exact⟨a,xs,rfl,n1,hh,Reps.sub (fun b hb=>hb.elim .inl fun z=>z ▸ ha) _ r⟩)
theorem JF{ds:Ac D}(h:B7 ρ i=.ok ds):ρ[i]?=Aa (Aa (.lst ds,Ab)):=by
 unfold B7 at h;split at h
 ·rename_i e;cases h;exact e
 ·cases h
theorem Ju(h:B7 ρ i=.exn x):Bb:=by
 unfold B7 at h;split at h<;>cases h
variable{o:Ao}{i:Ag}{apos cpos:AU}
theorem YB(ho:PE X o (Fj i))(he:SE X CL W e fe)(hbase:FA o "append" X.env (eval o X.env)=eval o X.env)(hfew:((Cz cpos (Ay [e] X.env)).all (fun x=>!x.1)&&(backToKw cpos (keywordEach [] X.env)).all (fun x=>x.1.isSome)&&decide ([e].length+([]:Ac FT).length+(if ([]:Ac FT).isEmpty then 0 else 1)<30))=Ab)(hline:(apos.endLine==cpos.line)=Ab)(hs:Ay [e] X.env=[(Ad,eval e X.env)])(hsw:DG (.Call (.Attribute o "append" apos) [e] [] cpos) Af pos.line X.env=pure Ad):
  SS X CL W (.Expr (.Call (.Attribute o "append" apos) [e] [] cpos) pos) (fun ρ=>O.of ρ (B7 ρ i) fun xs=>O.of ρ (fe ρ) fun d=>if CB (xs.length+1)=Ab then .next (ρ.set i (Aa (.lst (xs++[d]),Ab))) else .bad):=fun Fz B pI s σ H D I ⟨ρ,x,p⟩=>by
 refine Me (MY Em Tk Tn NQ ho (EB (he (B6 B ρ σ)) Gb hs) hbase hfew hline hs rfl) hsw pI s σ H D I ?_;dsimp only at p;cases e1:B7 ρ i with
 |bad=>rw[e1]at p;exact p.elim
 |exn z=>exact(Ju e1).elim
 |ok ds=>
  rw[e1,O.of_ok]at p;have hi:=JF e1;obtain⟨a,xs,ds',q,e2,ha,hh,r⟩:=x.good.ow i _ hi;cases e2;refine⟨_,q,.inl ⟨rfl,xs,SqL.of hh⟩,x.aok,ρ,x.good,B0.ex x p fun d v H' _ s rv x' q'=>?_⟩
  split at q'
  ·rename_i hz;refine⟨a,xs,v,rfl,rfl,s _ _ hh,?_,q' _ _ (x'.upd hi q ((r.same s).append ⟨rv,trivial⟩))⟩;have:=GV hz;rw[r.length];omega
  ·exact q'.elim
theorem YA{k:Ao}{fk:Rho->R Ov.D}{spos:AU}(ho:PE X o (Fj i))(hk:ST X CL W k fk)(he:SE X CL W e fe)(ha:∀ v,assign (.Subscript o k spos) X.env v=(do
      let ov <-holding [v] (eval o X.env)
      let iv <-holding [v,ov] (eval k X.env)
      FW spos
      holding [v,ov,iv] (Hq ov iv v)
      release [v,ov,iv] []))(hs:Ev [.Subscript o k spos] e pos.line X.env=pure Ad)(hw:Db [.Subscript o k spos] e X.env=pure Af)(h1:(BQ [.Subscript o k spos] X.env).map (·.2)=[assign (.Subscript o k spos) X.env]):
    SS X CL W (.Assign [.Subscript o k spos] e pos) (fun ρ=>O.of ρ (fe ρ) fun d=>O.of ρ (B7 ρ i) fun xs=>O.of ρ ((fk ρ).bind Dt) fun j=>match plD xs.length j with
      |some n=>.next (ρ.set i (Aa (.lst (xs.set n d),Ab)))
      | none=>.bad):=fun Fz B pI s σ H D I ⟨ρ,x,p⟩=>
  Mz (he (B6 B ρ σ)) (MB ho (hk (B6 B ρ σ)) L8 ha) hs hw h1 pI s σ H D I ⟨x.aok,ρ,x.good,B0.ex x p fun d v H' _ s rv x' q'=>by
    cases e1:B7 ρ i with
    |bad=>rw[e1]at q';exact q'.elim
    |exn z=>exact(Ju e1).elim
    |ok ds=>
      rw[e1,O.of_ok]at q';have hi:=JF e1;obtain⟨a,xs,ds',q,e2,ha,hh,r⟩:=x'.good.ow i _ hi;cases e2;refine⟨_,q,x'.aok,ρ,x'.good,?_⟩;cases e3:fk ρ with
      |bad=>rw[e3]at q';exact q'.elim
      |exn z=>rw[e3]at q';exact fun H2 s2=>q' H2 fun b o z=>s2 _ _ (x'.same b o z)
      |ok dk=>
        rw[e3]at q';intro y H2 s2 ry;cases dk with
        |int j=>
          have ey:=ry.int_of;subst ey;rw[R.bind_ok,OA,O.of_ok]at q';cases e4:plD ds.length j with
          |none=>rw[e4]at q';exact q'.elim
          |some n=>
            rw[e4]at q';refine⟨a,xs,j,n,rfl,rfl,s2 _ _ hh,?_,q' _ _ ((x'.grow s2).upd hi q (Reps.set (rv.same s2) n (r.same s2)))⟩;rw[r.length];exact e4
        | _=>exact q'.elim⟩
theorem Wy{as:Ov.D->Rho->R Rho}{g:TG}(hGT:GT X.K CL as g)(hg:PG X tg g)(he:SE X CL W e fe)(hs:Ev [tg] e pos.line X.env=pure Ad)(hw:Db [tg] e X.env=pure Af)(h1:(BQ [tg] X.env).map (·.2)=[assign tg X.env])(hax:∀ d ρ x,as d ρ≠.exn x):SS X CL W (.Assign [tg] e pos) (fun ρ=>O.of ρ (fe ρ) fun d=>O.of ρ (as d ρ) fun ρ'=>.next ρ'):=fun Fz B pI s σ H D I ⟨ρ,x,p⟩=>
 Mz (he (B6 B ρ σ)) hg hs hw h1 pI s σ H D I ⟨x.aok,ρ,x.good,B0.ex x p fun d v H' _ s rv x' q'=>by
  cases ea:as d ρ with
  |bad=>rw[ea]at q';exact q'.elim
  |exn z=>exact absurd ea (hax _ _ z)
  |ok ρ2=>
   rw[ea,O.of_ok]at q';exact hGT Fz B ρ σ H' v d ρ2 _ x' rv ea fun σ' x3=>q' σ' H' x3⟩
theorem Ws{rest:Ac Bz}{f:Rho->O}(i:Ag)(h:SSs X CL W rest f):SSs X CL W rest (fun ρ=>(match ρ[i]? with
   |some (Aa (d,Ab))=>O.next (ρ.set i (Aa (d,Ad)))
   | _=>O.next ρ).seq f):=fun Fz B=>PSs.weak (h Fz B) fun D σ H ⟨ρ,x,p⟩=>by
 dsimp only at p;split at p
 ·rename_i d e;exact⟨_,x.rel e,p⟩
 ·exact⟨ρ,x,p⟩
end
section
variable{prog:AS}{w:AY}{A:A6}{E:Vq}{s:Ap}
theorem Z7{j t:Ak}{x:Aj}{Q:Vq}(st:s.heap.IsTupleIter j t k)(sq:s.heap.IsTuple t its)(at_:its[k]?=Aa x)(go:∀ h2,h2.IsTupleIter j t (k+1)->Eg j s.heap h2->Q x {s with heap:=h2}):AH (model prog w) A (Bu (.ref j)) Q E s:=by
 obtain⟨oj,gj,cj,dj⟩:=id st;obtain⟨ot,gt,_,nt,dt⟩:=sq;show AH _ _ (callSpecial? _ _ >>= _) _ _ _;refine Am (CP st.typeIs C9 (DR C9 st.typeIs Ti ?_ (Tf _)));show AH _ _ (field (.ref j) 0 >>= _) _ _ _;refine Am (BZ gj dj (x:=.ref t) rfl ?_);show AH _ _ (field (.ref j) 1 >>= _) _ _ _;refine Am (BZ gj dj (x:=.int k 0) rfl ?_);refine Am (CY gt dt ?_);simp only[DJ,at_];exact Am (Uc gj dj (by simp) (AJ ⟨x,rfl,AJ (go _ ⟨_,Tv _ gj (Obj.isFreed_of_fields (Tx dj _)),(Obj.cls_mapFields ..).trans cj,by rw[Tx dj];simp[Ft]⟩ (Tr ..))⟩))
theorem US{j t:Ak}{Q:Vq}(calm:A.handled=Af)(st:s.heap.IsTupleIter j t k)(sq:s.heap.IsTuple t its)(at_:its[k]?=Af)(up:∀ h2 e,Gu j s.heap h2->(∃ o,h2.get? e=Aa o/\o.cls=.type "StopIteration")->E (.ref e) {s with heap:=h2}):AH (model prog w) A (Bu (.ref j)) Q E s:=by
 obtain⟨oj,gj,cj,dj⟩:=id st;obtain⟨ot,gt,_,nt,dt⟩:=sq;show AH _ _ (callSpecial? _ _ >>= _) _ _ _;refine Am (CP st.typeIs C9 (DR C9 st.typeIs Ti ?_ (Tf _)));show AH _ _ (field (.ref j) 0 >>= _) _ _ _;refine Am (BZ gj dj (x:=.ref t) rfl ?_);show AH _ _ (field (.ref j) 1 >>= _) _ _ _;refine Am (BZ gj dj (x:=.int k 0) rfl ?_);refine Am (CY gt dt ?_);simp only[DJ,at_];refine Am (Ib (Am (Uc gj dj (by simp) ?_)))
 refine Am ?_;simp only[newExc,newTuple];refine Am (CM ?_ (by size_fits))
 refine Am (m:=TZ _ _) (wpAny_of_eq (a:=.none) (by first|rfl|(simp only[TZ];rfl)) (CM ?_ (by size_fits)))
 simp only[raiseNew];refine Am (wpAny_handled ?_)
 first|rw[show A.in1.handled=Af from calm]|rw[calm]
 exact Am (AJ (wpAny_throw (up _ _ (((Tr ..).extBut.push _).push _) ⟨_,AG _ rfl,rfl⟩)))
end
structure Dw (prog:AS) (w:AY) (A:A6) (j:Ak) (fp:Ac Ak) (n:Ag) (P:Ag->Aj->Prop) (S:Ag->AK->Prop):Prop where
 frame:∀ i h h2,S i h->(∀ c∈fp,∀ o,h.get? c=Aa o->h2.get? c=Aa o)->S i h2
 item:∀ i (s:Ap) (Q:Vq) (E:Vq),i<n->S i s.heap->(∀ x h2 tk,P i x->S (i+1) h2->Eg j s.heap h2->Q x {s with heap:=h2,toks:=tk})->AH (model prog w) A (Bu (.ref j)) Q E s
 done:∀ i (s:Ap) (Q:Vq) (E:Vq),n<=i->S i s.heap->(∀ h2 e,Gu j s.heap h2->(∃ o,h2.get? e=Aa o/\o.cls=.type "StopIteration")->E (.ref e) {s with heap:=h2})->AH (model prog w) A (Bu (.ref j)) Q E s
def DI(t:An)(h:AK)(j l:Ak)(i:Ag):Prop:=match t with
  |true=>h.IsTupleIter j l i
  |false=>h.IsListIter j l i
def DA(t:An)(h:AK)(l:Ak)(its:Bi Aj):Prop:=match t with
  |true=>h.IsTuple l its
  |false=>h.IsList l its
theorem II{A:A6}(calm:A.handled=Af)(t:An)(j l:Ak)(ne:l≠j)(its:Bi Aj):Dw prog w A j [j,l] its.size (fun i v=>its[i]?=Aa v) (fun i h=>DI t h j l i/\DA t h l its):=by
 cases t with
 |true=>exact⟨fun _ _ _ z k=>⟨z.1.at fun o e=>k j (by simp) o e,z.2.at fun o e=>k l (by simp) o e⟩,fun i s Q E hi z q=>Z7 z.1 z.2 (x:=its[i]) (by simp[hi]) fun h2 z2 sb=>q _ h2 s.toks (by simp[hi]) ⟨z2,z.2.extBut sb.extBut ne⟩ sb,fun i s Q E hi z q=>US calm z.1 z.2 (by simp[hi]) q⟩
 |false=>exact⟨fun _ _ _ z k=>⟨z.1.at fun o e=>k j (by simp) o e,z.2.at fun o e=>k l (by simp) o e⟩,fun i s Q E hi z q=>wpAny_nextOf_list_item z.1 z.2 (x:=its[i]) (by simp[hi]) fun h2 z2 sb=>q _ h2 s.toks (by simp[hi]) ⟨z2,z.2.extBut sb.extBut ne⟩ sb,fun i s Q E hi z q=>wpAny_nextOf_list_end calm z.1 z.2 (by simp[hi]) q⟩
theorem nb1{I l c:Ag}(b:l<I)(h:c∈[I,l])(j:Ag):c≠I+(j+1):=by
 have h':c=I\/c=l:=by simpa using h
 omega
theorem nb2{I l c:Ag}(b:l<I)(h:c∈[I+1,l]):c≠I/\c≠I+3/\c≠I+4:=by
 have h':c=I+1\/c=l:=by simpa using h
 omega
theorem nij{I i j:Ag}(h:i≠j):I+i≠I+j:=by omega
theorem ni0{I i:Ag}(h:i≠0):I+i≠I:=by omega
section
variable{prog:AS}{w:AY}{A:A6}{E:Vq}{s:Ap}
theorem U3{I l1 l2 n1 n2 k:Ag}{P1 P2:Ag->Aj->Prop}{S1 S2:Ag->AK->Prop}{a b:Aj}{Q:Vq}(b1:l1<I)(b2:l2<I)(D1:Dw prog w A I [I,l1] n1 P1 S1)(D2:Dw prog w A (I+1) [I+1,l2] n2 P2 S2)(hz:ET s.heap (I+4) (I+2) (I+3) .none)(hI:DM s.heap (I+2) (.ref I) (.ref (I+1)))(hO:DM s.heap (I+3) a b)(g1:S1 k s.heap)(g2:S2 k s.heap)(k1:k<n1)(k2:k<n2)(go:∀ x y h2 tk,P1 k x->P2 k y->ET h2 (I+4) (I+2) (I+3) (Ft s.heap.objs.size)->DM h2 (I+3) x y->S1 (k+1) h2->S2 (k+1) h2->DM h2 s.heap.objs.size x y ->
   (∀ c o,c∉[I,I+1,I+3,I+4]->s.heap.get? c=Aa o->h2.get? c=Aa o)->Q (.ref s.heap.objs.size) {s with heap:=h2,toks:=tk}):AH (model prog w) A (Builtin.«zip.__next__» ⟨[.ref (I+4)],[]⟩) (fun fin s'=>∃ v,fin=.done (.ret v)/\Q v s') E s:=by
 refine Am (m:=field (.ref (I+4)) 2) (BZ hz rfl (x:=.bool Ad) rfl ?_);refine Am (m:=field (.ref (I+4)) 3) (BZ hz rfl (x:=.ref (I+2)) rfl (Am (CY hI rfl ?_)));refine Am (m:=Cp (.ref (I+4))) ?_;simp only[Cp];refine Am (BZ hz rfl (x:=.none) rfl (AJ ?_));rw[AB rfl];refine Am (Ib (Am (BZ hz rfl (x:=.ref (I+3)) rfl (Am (C3 hz (by simp) fun p1 z1 e1=>Am ?_)))))
 have z1':ET p1 (I+4) (I+2) (I+3) .ellipsis:=z1;simp only[SR,SU,Gn,E9];refine Am (Am (Ew (Am (m:=Bu (.ref I)) (D1.item k _ _ _ k1 (D1.frame _ _ _ g1 fun c hc o q=>e1.extBut c o (nb1 b1 hc 3) q) fun x p2 t2 px s2 e2=>AJ ?_))))
 have o2:DM p2 (I+3) a b:=e2.extBut _ _ (ni0 (by decide)) (e1.extBut _ _ (nij (by decide)) hO)
 refine Am (CY o2 rfl (Am (EY o2 fun p3 o3 e3=>Am (Hv (AJ ?_)))))
 have o3':DM p3 (I+3) x b:=o3;have g2':S2 k p3:=D2.frame _ _ _ g2 fun c hc o q=>e3.extBut c o (nb2 b2 hc).2.1 (e2.extBut c o (nb2 b2 hc).1 (e1.extBut c o (nb2 b2 hc).2.2 q))
 refine Am (Am (Ew (Am (m:=Bu (.ref (I+1))) (D2.item k _ _ _ k2 g2' fun y p4 t4 py s4 e4=>AJ ?_))))
 have o4:DM p4 (I+3) x b:=e4.extBut _ _ (nij (by decide)) o3'
 refine Am (CY o4 rfl (Am (EY o4 fun p5 o5 e5=>Am (Hv (AJ (AJ ?_))))))
 have o5':DM p5 (I+3) x y:=o5;have sz:p5.objs.size=s.heap.objs.size:=by rw[e5.1,e4.1,e3.1,e2.1,e1.1]
 have z5:ET p5 (I+4) (I+2) (I+3) .ellipsis:=e5.extBut _ _ (nij (by decide)) (e4.extBut _ _ (nij (by decide)) (e3.extBut _ _ (nij (by decide)) (e2.extBut _ _ (ni0 (by decide)) z1')))
 refine Am (CY o5' rfl (Am (wpAny_newTuple ?_)));refine Am (m:=S9 (.ref (I+4)) (.ref p5.objs.size)) ?_;simp only[S9];have z6:ET (p5.push { cls:=.type "tuple", data:=.seq #[x,y] }) (I+4) (I+2) (I+3) .ellipsis:=Au _ z5;refine Am (C3 z6 (by simp) fun p7 z7 e7=>?_)
 have z7':ET p7 (I+4) (I+2) (I+3) (Ft p5.objs.size):=z7;refine C3 z7' (by simp) fun p8 z8 e8=>AJ ⟨_,rfl,?_⟩
 have z8':ET p8 (I+4) (I+2) (I+3) (Ft p5.objs.size):=z8;have lt5:I+4<p5.objs.size:=Az z5;have up:∀ c o,c≠I+4->p5.get? c=Aa o->p8.get? c=Aa o:=fun c o nc q=>e8.extBut _ _ nc (e7.extBut _ _ nc (Au _ q))
 have t8:DM p8 p5.objs.size x y:=e8.extBut _ _ (Ef lt5) (e7.extBut _ _ (Ef lt5) (AG _ rfl));have a1:S1 (k+1) p8:=D1.frame _ _ _ s2 fun c hc o q=>up c o (nb1 b1 hc 3) (e5.extBut c o (nb1 b1 hc 2) (e4.extBut c o (nb1 b1 hc 0) (e3.extBut c o (nb1 b1 hc 2) q)))
 have a2:S2 (k+1) p8:=D2.frame _ _ _ s4 fun c hc o q=>up c o (nb2 b2 hc).2.2 (e5.extBut c o (nb2 b2 hc).2.1 q)
 have kp:∀ c o,c∉[I,I+1,I+3,I+4]->s.heap.get? c=Aa o->p8.get? c=Aa o:=fun c o nc q=>by
  simp only[As,AF,Bl,CS]at nc;exact up c o nc.2.2.2 (e5.extBut c o nc.2.2.1 (e4.extBut c o nc.2.1 (e3.extBut c o nc.2.2.1 (e2.extBut c o nc.1 (e1.extBut c o nc.2.2.2 q)))))
 have q:=go x y p8 t4 px py (by rw[<-sz];exact z8') (up _ _ (nij (by decide)) o5') a1 a2 (by rw[<-sz];exact t8) kp
 rw[<-sz]at q;exact q
theorem Wc{I l1 l2 n1 n2 k:Ag}{P1 P2:Ag->Aj->Prop}{S1 S2:Ag->AK->Prop}{a b:Aj}{Q:Fin->Ap->Prop}(b1:l1<I)(b2:l2<I)(D1:Dw prog w A I [I,l1] n1 P1 S1)(D2:Dw prog w A (I+1) [I+1,l2] n2 P2 S2)(hz:ET s.heap (I+4) (I+2) (I+3) .none)(hI:DM s.heap (I+2) (.ref I) (.ref (I+1)))(hO:DM s.heap (I+3) a b)(g1:S1 k s.heap)(g2:S2 k s.heap)(hk:n1<=k\/(k<n1/\n2<=k))(up:∀ h2 e tk,(∀ c o,c∉[I,I+1,I+3,I+4]->s.heap.get? c=Aa o->h2.get? c=Aa o)->(∃ o,h2.get? e=Aa o/\o.cls=.type "StopIteration")->E (.ref e) {s with heap:=h2,toks:=tk}):AH (model prog w) A (Builtin.«zip.__next__» ⟨[.ref (I+4)],[]⟩) Q E s:=by
 refine Am (m:=field (.ref (I+4)) 2) (BZ hz rfl (x:=.bool Ad) rfl ?_);refine Am (m:=field (.ref (I+4)) 3) (BZ hz rfl (x:=.ref (I+2)) rfl (Am (CY hI rfl ?_)));refine Am (m:=Cp (.ref (I+4))) ?_;simp only[Cp];refine Am (BZ hz rfl (x:=.none) rfl (AJ ?_));rw[AB rfl];refine Am (Ib (Am (BZ hz rfl (x:=.ref (I+3)) rfl (Am (C3 hz (by simp) fun p1 z1 e1=>Am ?_)))))
 have z1':ET p1 (I+4) (I+2) (I+3) .ellipsis:=z1;simp only[SR,SU,Gn,E9];have g1':S1 k p1:=D1.frame _ _ _ g1 fun c hc o q=>e1.extBut c o (nb1 b1 hc 3) q
 rcases hk with k1|⟨k1,k2⟩
 ·refine Am (Am (Ew (Am (m:=Bu (.ref I)) (D1.done _ _ _ _ k1 g1' fun p2 e e2 he=>?_))))
  obtain⟨oe,hoe,hce⟩:=he;have z2:ET p2 (I+4) (I+2) (I+3) .ellipsis:=e2 _ _ (ni0 (by decide)) z1'
  have ne:e≠I+4:=fun x=>by subst x;rw[z2]at hoe;cases hoe;simp at hce
  refine C3 z2 (by simp) fun p3 _ e3=>up p3 e s.toks (fun c o nc q=>?_) ⟨oe,e3.extBut _ _ ne hoe,hce⟩
  simp only[As,AF,Bl,CS]at nc;exact e3.extBut c o nc.2.2.2 (e2 c o nc.1 (e1.extBut c o nc.2.2.2 q))
 ·refine Am (Am (Ew (Am (m:=Bu (.ref I)) (D1.item k _ _ _ k1 g1' fun x p2 t2 px s2 e2=>AJ ?_))))
  have o2:DM p2 (I+3) a b:=e2.extBut _ _ (ni0 (by decide)) (e1.extBut _ _ (nij (by decide)) hO)
  refine Am (CY o2 rfl (Am (EY o2 fun p3 o3 e3=>Am (Hv (AJ ?_)))))
  have g2':S2 k p3:=D2.frame _ _ _ g2 fun c hc o q=>e3.extBut c o (nb2 b2 hc).2.1 (e2.extBut c o (nb2 b2 hc).1 (e1.extBut c o (nb2 b2 hc).2.2 q))
  refine Am (Am (Ew (Am (m:=Bu (.ref (I+1))) (D2.done _ _ _ _ k2 g2' fun p4 e e4 he=>?_))))
  obtain⟨oe,hoe,hce⟩:=he;have z4:ET p4 (I+4) (I+2) (I+3) .ellipsis:=e4 _ _ (nij (by decide)) (e3.extBut _ _ (nij (by decide)) (e2.extBut _ _ (ni0 (by decide)) z1'))
  have ne:e≠I+4:=fun x=>by subst x;rw[z4]at hoe;cases hoe;simp at hce
  refine C3 z4 (by simp) fun p5 _ e5=>up p5 e t2 (fun c o nc q=>?_) ⟨oe,e5.extBut _ _ ne hoe,hce⟩
  simp only[As,AF,Bl,CS]at nc;exact e5.extBut c o nc.2.2.2 (e4 c o nc.2.1 (e3.extBut c o nc.2.2.1 (e2.extBut c o nc.1 (e1.extBut c o nc.2.2.2 q))))
end
def SqX(t:An)(K:Fg)(H:Hp)(a:Ak)(xs:Ac V):Prop:=match t with
  |true=>SqT K H a xs
  |false=>SqL K H a xs
theorem G0(I:Inv X pI σ H s)(h:SqX t X.K H a xs):∃ its:Ac Aj,AZ xs its/\DA t s.heap a its.toArray/\xs.length<=sizeLine:=by
 cases t with
 |true=>
  obtain⟨its,rv,p,z⟩:=I.tuple h;exact⟨its,rv,p,z⟩
 |false=>
  obtain⟨its,rv,p,z⟩:=I.list h;exact⟨its,rv,p.isList,z⟩
theorem Lq(I:Inv X pI σ H s)(h:SqX t X.K H a xs)(h2:SqX t X.K H a ys):xs=ys:=by
 cases t with
 |true=>exact I.tuple_inj h h2
 |false=>exact I.list_inj h h2
noncomputable def Itz(K:Fg)(t1 t2:An)(a b:Ak):It:=
  ⟨fun i H=>∃ xs ys x y,SqX t1 K H a xs/\SqX t2 K H b ys/\xs[i]?=Aa x/\ys[i]?=Aa y,
   fun i H v H'=>∃ p x y,H p=Af/\v=.ref p/\(∀ xs,SqX t1 K H a xs->xs[i]?=Aa x)/\(∀ ys,SqX t2 K H b ys->ys[i]?=Aa y)/\H'=upd H p (.tup [x,y]),
   fun i H=>∃ xs ys,SqX t1 K H a xs/\SqX t2 K H b ys/\(xs.length<=i\/(i<xs.length/\ys.length<=i))⟩
theorem Inv.turnedL{t':Ag}(ch:Ac Ak)(I:Inv X pI σ H s)(k:∀ b o,b∉ch->s.heap.get? b=Aa o->h'.get? b=Aa o)(hf:∀ b∈ch,Fn X pI H b):Inv X pI σ H {s with heap:=h',toks:=t'}:=by
 have nit:∀ b u,H b=Aa u->b∉ch:=fun b u e z=>by rw[(hf b z).1]at e;cases e
 refine I.step (g':=s.gens) (d':=s.drawn) (ch:=ch) (fun b hb=>⟨(hf b hb).2.2.2.1,(hf b hb).2.1,(hf b hb).2.2.2.2.1,(hf b hb).2.2.2.2.2⟩) (fun b o _ _ hc e _=>k b o hc e) (fun b o _ _ hc e _=>⟨o.slots,k b o hc e⟩) (fun _ _ _ _ n=>n)
  (fun b o hc e=>⟨o,k b o hc e⟩) (fun _ _ e=>e) (fun _ _ _ e=>e) (fun b ps e=>⟨#[],by rw[e];simp⟩) (fun m ⟨o,es,ep,ho,r⟩=>⟨o,es,ep,k _ o (fun z=>(hf _ z).2.1 rfl) ho,r⟩) (fun b u e=>(I.hok b u e).stay (fun c v hc q=>k c v ?_ q) (fun _ q=>q) fun _ _ q=>q) I.bare
 rcases hc with z|z
 ·rw[z];exact nit b u e
 ·exact nit c _ z
def zTn(t1 t2:An)(I l1 l2:Ag)(i:Ag)(h:AK):Prop:=ET h (I+4) (I+2) (I+3) .none/\DM h (I+2) (.ref I) (.ref (I+1))/\(∃ a b,DM h (I+3) a b)/\DI t1 h I l1 i/\DI t2 h (I+1) l2 i
noncomputable def zFp(I:Ag):Ac Ak:=[I,I+1,I+2,I+3,I+4]
theorem DI.obj{j:Ak}(z:DI t h j l i):∃ o,h.get? j=Aa o/\∀ v,o.data≠.cell v:=by
 cases t with
 |true=>obtain⟨o,e,c,d⟩:=z;exact⟨o,e,fun v z=>by rw[d]at z;cases z⟩
 |false=>obtain⟨o,e,c,d⟩:=z;exact⟨o,e,fun v z=>by rw[d]at z;cases z⟩
theorem DI.at'{j:Ak}(z:DI t h j l i)(k:∀ o,h.get? j=Aa o->h2.get? j=Aa o):DI t h2 j l i:=by
 cases t with
 |true=>exact PySem.Heap.IsTupleIter.at z k
 |false=>exact PySem.Heap.IsListIter.at z k
theorem U8(t1 t2:An)(I l1 l2:Ag)(b1:l1<I)(b2:l2<I):Turn P w K (.Tuple es n pos) (Itz K t1 t2 l1 l2) (zFp I) (I+4) (zTn t1 t2 I l1 l2) where
  mem:=by simp[zFp]
  obj:=fun i h ⟨z1,z2,⟨a,b,z3⟩,z4,z5⟩ c hc=>by
    simp only[zFp,As,AF,Bl]at hc;rcases hc with rfl|rfl|rfl|rfl|rfl
    · exact z4.obj
    · exact z5.obj
    · exact⟨_,z2,fun v z=>by cases z⟩
    · exact⟨_,z3,fun v z=>by cases z⟩
    · exact⟨_,z1,fun v z=>by cases z⟩
  keep:=fun i h h2 ⟨z1,z2,⟨a,b,z3⟩,z4,z5⟩ k=>⟨k _ (by simp[zFp]) _ z1,k _ (by simp[zFp]) _ z2,⟨a,b,k _ (by simp[zFp]) _ z3⟩,z4.at' fun o e=>k _ (by simp[zFp]) o e,z5.at' fun o e=>k _ (by simp[zFp]) o e⟩
  item:=by
    intro X hP hw hK hc i pI s σ H E Iv hf ⟨z1,z2,⟨a,b,z3⟩,z4,z5⟩ ⟨xs,ys,x,y,q1,q2,hx,hy⟩;subst hP hw hK;obtain⟨us,rx,sx,_⟩:=G0 Iv q1;obtain⟨vs,ry,sy,_⟩:=G0 Iv q2;obtain⟨u,hu,ru⟩:=rx.get hx;obtain⟨v,hv,rv⟩:=ry.get hy;have hT:s.TypeIs (.ref (I+4)) "zip" := ⟨_,z1,rfl⟩;have calm:X.A.in1.handled=Af:=Iv.ok.hd hc;show AH _ _ (GN _) _ _ _;simp only[GN];refine Am (wpAny_attempt (CP hT ES (DR ES hT Tj (U3 (k:=i) b1 b2 (II calm t1 I l1 (A3 b1) us.toArray) (II calm t2 (I+1) l2 (A3 (CK b2)) vs.toArray) z1 z2 z3 ⟨z4,sx⟩ ⟨z5,sy⟩
      (by have:=(AE.mp hu).1;simpa using this) (by have:=(AE.mp hv).1;simpa using this) fun x' y' h2 tk px py c1 c2 c3 c4 c5 kp=>AJ ?_) (Tg _))))
    have ex:x'=u:=by
      have px':us[i]?=Aa x':=by simpa using px
      rw[hu]at px';exact(Bt px').symm
    have ey:y'=v:=by
      have py':vs[i]?=Aa y':=by simpa using py
      rw[hv]at py';exact(Bt py').symm
    subst ex ey;refine⟨_,rfl,wpAny_letOwnedTupleGo_zip c1 fun h3 d1 sb=>?_⟩
    have lt4:I+4<s.heap.objs.size:=Az z1;have kp3:∀ c o,c∉zFp I->s.heap.get? c=Aa o->h3.get? c=Aa o:=fun c o nc q=>by
      simp only[zFp,As,AF,Bl,CS]at nc;exact sb.extBut c o nc.2.2.2.2 (kp c o (by simp only[As,AF,Bl,CS];exact⟨nc.1,nc.2.1,nc.2.2.2.1,nc.2.2.2.2⟩) q)
    have nT:∀ c∈zFp I,c≠s.heap.objs.size:=fun c hc z=>by
      have:c<=I+4:=by
        simp only[zFp,As,AF,Bl]at hc;rcases hc with z|z|z|z|z<;>rw[z]<;>simp
      exact absurd (z ▸ Fp this lt4) (Bh _)
    have I1:Inv X pI σ (upd H s.heap.objs.size (.tup [x,y])) { s with heap:=s.heap.push { cls:=.type "tuple", data:=.seq #[x',y'] },toks:=s.toks }:=
      Iv.laid (fun _ _ q=>Au _ q) (AV _) ⟨(by decide:2<=sizeLine),[x',y'],.cons ru (.cons rv .nil),⟨_,AG _ rfl,rfl,_,rfl⟩⟩
    have hf':∀ b∈zFp I,Fn X pI (upd H s.heap.objs.size (.tup [x,y])) b:=fun b hb=>⟨by rw[Ch (nT b hb)];exact(hf b hb).1,(hf b hb).2⟩
    have I2:Inv X pI σ (upd H s.heap.objs.size (.tup [x,y])) {s with heap:=h3,toks:=tk}:=Inv.turnedL (s:={ s with heap:=s.heap.push { cls:=.type "tuple", data:=.seq #[x',y'] },toks:=s.toks }) (zFp I) I1 (fun c o nc q=>by
      rcases Tt q with ⟨e1,e2⟩|e1
      · subst e1 e2;exact sb.extBut _ _ (Ef lt4) c5
      · exact kp3 c o nc e1) hf'
    refine⟨.ref s.heap.objs.size,_,I2,rfl,⟨s.heap.objs.size,x,y,Iv.fresh,rfl,fun zs hz=>by rw[Lq Iv hz q1];exact hx,fun zs hz=>by rw[Lq Iv hz q2];exact hy,rfl⟩,⟨d1,sb.extBut _ _ (nij (by decide)) (kp _ _ (by simp) z2),⟨_,_,sb.extBut _ _ (nij (by decide)) c2⟩,c3.1.at' fun o q=>sb.extBut _ o (Dl (ni0 (by decide))) q,c4.1.at' fun o q=>sb.extBut _ o (nij (by decide)) q⟩,fun b hb=>(hf' b hb).1⟩
  done:=by
    intro X hP hw hK hc i pI s σ H E Iv hf ⟨z1,z2,⟨a,b,z3⟩,z4,z5⟩ ⟨xs,ys,q1,q2,hk⟩;subst hP hw hK;obtain⟨us,rx,sx,_⟩:=G0 Iv q1;obtain⟨vs,ry,sy,_⟩:=G0 Iv q2;have hT:s.TypeIs (.ref (I+4)) "zip" := ⟨_,z1,rfl⟩;have calm:X.A.in1.handled=Af:=Iv.ok.hd hc;have e1:=rx.length;have e2:=ry.length;simp only[GN];refine Am (wpAny_attempt (CP hT ES (DR ES hT Tj (Wc (k:=i) b1 b2 (II calm t1 I l1 (A3 b1) us.toArray) (II calm t2 (I+1) l2 (A3 (CK b2)) vs.toArray) z1 z2 z3 ⟨z4,sx⟩ ⟨z5,sy⟩
      (by simp only[Ax];omega) fun h2 e tk kp he=>?_) (Tg _))))
    obtain⟨o,ho,hcl⟩:=he;refine Am (wpAny_isInstance (T := "StopIteration") (b:=Ab) ⟨o,ho,hcl⟩ isSubtype_stop (AJ ⟨rfl,Inv.turnedL [I,I+1,I+3,I+4] Iv (fun c o nc q=>kp c o nc q) fun c hc=>hf c ?_⟩))
    simp only[As,AF,Bl]at hc;simp only[zFp,As,AF,Bl];rcases hc with rfl|rfl|rfl|rfl<;>simp
  self:=fun _ _ _ _ _ st h=>T9 st.1 h
section
variable{prog:AS}{w:AY}{A:A6}{E:Vq}{s:Ap}
noncomputable def itO(t:An)(l:Ak):Dq:=match t with
  |true=>{ cls:=.type "tuple_iterator", data:=.fields #[.ref l,.int 0 0] }
  |false=>{ cls:=.type "list_iterator", data:=.fields #[.ref l,.int 0 0] }
theorem JP{Q:Vq}(h:DA t s.heap l its)(q:Q (.ref s.heap.objs.size) {s with heap:=s.heap.push (itO t l)}):AH (model prog w) A (Jf (.ref l)) Q E s:=by
 cases t with
 |true=>exact Eh h q
 |false=>exact Dd h q
theorem DA.push(z:DA t h l its)(o:Dq):DA t (h.push o) l its:=by
 cases t with
 |true=>exact PySem.Heap.IsTuple.at z fun _ e=>Au _ e
 |false=>exact PySem.Heap.IsList.at z fun _ e=>Au _ e
theorem Mw{j:Ak}(e:h.get? j=Aa (itO t l)):DI t h j l 0:=by
 cases t with
 |true=>exact⟨_,e,rfl,rfl⟩
 |false=>exact⟨_,e,rfl,rfl⟩
theorem LV(t:An)(l:Ak):(itO t l).isFreed=Ad:=by cases t<;>rfl
noncomputable abbrev zh2(t1 t2:An)(h:AK)(l1 l2:Ak):AK:=(h.push (itO t1 l1)).push (itO t2 l2)
noncomputable abbrev zh3(t1 t2:An)(h:AK)(l1 l2:Ak):AK:=(zh2 t1 t2 h l1 l2).push { cls:=.type "tuple", data:=.seq #[.ref h.objs.size,.ref (h.push (itO t1 l1)).objs.size] }
noncomputable abbrev zh4(t1 t2:An)(h:AK)(l1 l2:Ak):AK:=(zh3 t1 t2 h l1 l2).push { cls:=.type "tuple", data:=.seq #[.none,.none] }
noncomputable abbrev zh5(t1 t2:An)(h:AK)(l1 l2:Ak):AK:=(zh4 t1 t2 h l1 l2).push { cls:=.type "zip", data:=.fields #[.none,.bool Ad,.bool Ad,.ref (zh2 t1 t2 h l1 l2).objs.size,.ref (zh3 t1 t2 h l1 l2).objs.size] }
theorem WB(t1 t2:An)(l1 l2:Ak)(xs ys:Bi Aj):Meets (Builtin.«zip.__new__» ⟨[.type "zip", .ref l1,.ref l2],[]⟩) (fun _ R s=>DA t1 s.heap l1 xs/\DA t2 s.heap l2 ys/\R (.ok (.ret (.ref (zh4 t1 t2 s.heap l1 l2).objs.size))) {s with heap:=zh5 t1 t2 s.heap l1 l2}):=
 .of_wp fun prog w A R s h=>by
  obtain⟨hp,g,d,tk,os⟩:=s;obtain⟨a1,a2,q⟩:=h;have hsub:=sub_zip;have L1:DA t1 (Ht ⟨hp,g,d,tk,os⟩) l1 xs:=a1;have L2:DA t2 (Ht ⟨hp.push (itO t1 l1),g,d,tk,os⟩) l2 ys:=a2.push _
  wp_walk using JP L1,JP L2
  exact⟨_,rfl,q⟩
theorem U4{t1 t2:An}{l1 l2:Ak}{xs ys:Bi Aj}{Q:Vq}(a1:DA t1 s.heap l1 xs)(a2:DA t2 s.heap l2 ys)(q:∀ h2,zTn t1 t2 s.heap.objs.size l1 l2 0 h2->(∀ c o,s.heap.get? c=Aa o->h2.get? c=Aa o)->Q (.ref (s.heap.objs.size+4)) {s with heap:=h2}):AH (model prog w) A (call (.type "zip") [.ref l1,.ref l2]) Q E s:=by
 refine callType_new F.called_zip (by decide) (F.typeCall_zip_2 _ _) (F.newCall_zip_2 _ _) (fun obj=>F.args_object_init_3 obj _ _) F.entry_zip_new (WB t1 t2 l1 l2 xs ys) ⟨a1,a2,?_⟩
 have s1:(s.heap.push (itO t1 l1)).objs.size=s.heap.objs.size+1:=BJ ..;have s2:(zh2 t1 t2 s.heap l1 l2).objs.size=s.heap.objs.size+2:=by rw[BJ,s1]
 have s3:(zh3 t1 t2 s.heap l1 l2).objs.size=s.heap.objs.size+3:=by rw[BJ,s2]
 have s4:(zh4 t1 t2 s.heap l1 l2).objs.size=s.heap.objs.size+4:=by rw[BJ,s3]
 have u5:∀ {c o},(zh4 t1 t2 s.heap l1 l2).get? c=Aa o->(zh5 t1 t2 s.heap l1 l2).get? c=Aa o:=fun e=>Au _ e
 have u4:∀ {c o},(zh3 t1 t2 s.heap l1 l2).get? c=Aa o->(zh5 t1 t2 s.heap l1 l2).get? c=Aa o:=fun e=>u5 (Au _ e)
 have u3:∀ {c o},(zh2 t1 t2 s.heap l1 l2).get? c=Aa o->(zh5 t1 t2 s.heap l1 l2).get? c=Aa o:=fun e=>u4 (Au _ e)
 have u2:∀ {c o},(s.heap.push (itO t1 l1)).get? c=Aa o->(zh5 t1 t2 s.heap l1 l2).get? c=Aa o:=fun e=>u3 (Au _ e)
 have g5:(zh5 t1 t2 s.heap l1 l2).get? (zh4 t1 t2 s.heap l1 l2).objs.size=Aa _:=AG _ rfl;have g4:(zh5 t1 t2 s.heap l1 l2).get? (zh3 t1 t2 s.heap l1 l2).objs.size=Aa _:=u5 (AG _ rfl);have g3:(zh5 t1 t2 s.heap l1 l2).get? (zh2 t1 t2 s.heap l1 l2).objs.size=Aa _:=u4 (AG _ rfl);have g2:(zh5 t1 t2 s.heap l1 l2).get? (s.heap.push (itO t1 l1)).objs.size=Aa _:=u3 (AG _ (LV _ _));have g1:(zh5 t1 t2 s.heap l1 l2).get? s.heap.objs.size=Aa _:=u2 (AG _ (LV _ _));show _/\_;rw[s2,s3,s4]at g5;rw[s3]at g4;rw[s1,s2]at g3;rw[s1]at g2;rw[s4];exact⟨⟨_,g5,rfl⟩,q _ ⟨g5,g3,⟨_,_,g4⟩,Mw g1,Mw g2⟩ fun c o e=>u2 (Au _ e)⟩
end
def iE(K:Fg)(ta:TA):TI:=fun σ H R=>ta σ H fun vs H1=>∃ t1 t2 a b xs ys,vs=[.ref a,.ref b]/\SqX t1 K H1 a xs/\SqX t2 K H1 b ys/\(xs.length<=sizeLine->R (Itz K t1 t2 a b) H1)
theorem DA.lt(z:DA t h a its):a<h.objs.size:=by
 cases t with
 |true=>obtain⟨o,e,_⟩:=z;exact Az e
 |false=>obtain⟨o,e,_⟩:=z;exact Az e
theorem Zc{a b:Ao}(hg:Gl X "zip")(hm:X.mg "zip" = Af)(ha:PA X [a,b] ta)(hs:Ay [a,b] X.env=[(Ad,eval a X.env),(Ad,eval b X.env)])(hs2:Ay [b] X.env=[(Ad,eval b X.env)]):
  PI X (.Tuple es n tpos) (.Call (.Name "zip" p) [a,b] [] pos) (iE X.K ta):=by
 intro pI s σ H R I h;refine HQ (GX I hg hm PyProof.Rows.boot_zip (BM (thn (ha pos pI s σ H _ I h) fun us s1 ⟨vs,H1,I1,r1,q1⟩=>?_) (by rw[hs,hs2]) (by rw[hs2];rfl)))
 obtain⟨t1,t2,c,d,xs,ys,e,sx,sy,q⟩:=q1;subst e;cases r1 with
 |cons r rr=>
  cases rr with
  |cons r' rr=>
   cases rr;cases r;cases r';obtain⟨us,ru,iu,zu⟩:=G0 I1 sx;obtain⟨vs,rv,iv,_⟩:=G0 I1 sy;refine U4 iu iv fun h2 z kp=>T9 z.1 ?_
   refine⟨s1.heap.objs.size+4,zFp s1.heap.objs.size,_,_,H1,rfl,I1.kept (t':=s1.toks) kp,U8 t1 t2 s1.heap.objs.size c d iu.lt iv.lt,z,fun b hb=>?_,q zu⟩
   have hb':s1.heap.objs.size<=b:=by
    simp only[zFp,As,AF,Bl]at hb;rcases hb with z|z|z|z|z<;>rw[z]<;>simp
   exact I1.fpOk hb' (I1.hok.fresh hb')
theorem MT{ds:Ac D}(r:Rep K CL H A v d)(e:B9 d=.ok ds):∃ t a xs,v=.ref a/\(∀ H2,Kp A H H2->SqX t K H2 a xs)/\Reps K CL H A xs ds:=by
 cases d with
 |lst es=>
  cases e;obtain⟨q,xs,rfl,na,sq,r⟩:=r;exact⟨Ad,q,xs,rfl,fun H2 k=>KA k na sq,r⟩
 |tup es=>
  cases e;obtain⟨q,xs,rfl,na,sq,r⟩:=r;exact⟨Ab,q,xs,rfl,fun H2 k=>Kz k na sq,r⟩
 |_=>cases e
theorem L6:∀(xs ys:Ac D),(C4 xs ys).length=min xs.length ys.length
 |[],_=>by simp[C4]
 |_::_,[]=>by simp[C4]
 |x::xs,y::ys=>by
  rw[C4,BG,L6 xs ys];simp only[BG];omega
theorem Of:∀(xs ys:Ac D)(i:Ag)(d:D),(C4 xs ys)[i]?=Aa d->∃ x y,xs[i]?=Aa x/\ys[i]?=Aa y/\d=.tup [x,y]
 |[],_,i,d,h=>by simp[C4]at h
 |_::_,[],i,d,h=>by simp[C4]at h
 |x::xs,y::ys,0,d,h=>by
  rw[C4]at h;simp only[Sy,BU]at h;exact⟨x,y,rfl,rfl,h.symm⟩
 |x::xs,y::ys,i+1,d,h=>by
  rw[C4]at h;simp only[Sw]at h ⊢;exact Of xs ys i d h
theorem U5{t1 t2:An}{ds es:Ac D}(s1:∀ H2,Kp A H1 H2->SqX t1 K H2 a xs)(s2:∀ H2,Kp A H1 H2->SqX t2 K H2 b ys)(r1:Reps K CL H1 A xs ds)(r2:Reps K CL H1 A ys es) :G4 K CL A (C4 ds es) (Itz K t1 t2 a b) H1:=fun H k i=>by
 refine⟨fun hi=>⟨xs,ys,s1 H k,s2 H k,?_⟩,fun d hd=>?_⟩
 ·rw[L6]at hi;rw[r1.length,r2.length];omega
 ·obtain⟨x,y,hx,hy,rfl⟩:=Of _ _ _ _ hd;obtain⟨u,hu,ru⟩:=r1.get hx;obtain⟨v,hv,rv⟩:=r2.get hy;refine⟨⟨xs,ys,u,v,s1 H k,s2 H k,hu,hv⟩,?_⟩;rintro w' H' ⟨p,x',y',hp,rfl,c1,c2,rfl⟩;have ex:x'=u:=Bt ((c1 xs (s1 H k)).symm.trans hu);have ey:y'=v:=Bt ((c2 ys (s2 H k)).symm.trans hv);subst ex ey;have sm:=EA hp (.tup [x',y']);exact⟨sm,fun B hB aB=>Ir aB hp ⟨Jz ru k hB,Jz rv k hB,trivial⟩⟩
section
variable{X:Cx}{CL:ClA}{W:XW}{pos p:AU}{a b:Ao}{fa fb:Rho->R D}
theorem YH(ha:SE X CL W a fa)(hb:SE X CL W b fb)(hg:Gl X "zip")(hm:X.mg "zip" = Af)(hs:Ay [a,b] X.env=[(Ad,eval a X.env),(Ad,eval b X.env)])(hs2:Ay [b] X.env=[(Ad,eval b X.env)]):
  SI X CL W (.Tuple es n tpos) (.Call (.Name "zip" p) [a,b] [] pos) (fun ρ=>(fa ρ).bind fun x=>(fb ρ).bind fun y=>(B9 x).bind fun xs=>(B9 y).bind fun ys=>.ok (C4 xs ys)):=
 fun A=>PI.weak (Zc hg hm (EB (ha A) (EB (hb A) Gb hs2) (by rw[hs,hs2])) hs hs2) fun σ H R ⟨hA,ρ,g,q⟩=>⟨hA,ρ,g,DV.ex q fun d v H1 _ s1 r1 p1=>⟨hA.same s1,ρ,g.same s1,DV.ex p1 fun d2 v2 H2 _ s2 r2 p2=>by
  cases e1:B9 d with
  |bad=>rw[e1]at p2;exact p2.elim
  |exn z=>exact absurd e1 (by cases d<;>simp[B9])
  |ok ds=>
   cases e2:B9 d2 with
   |bad=>rw[e1,e2]at p2;exact p2.elim
   |exn z=>exact absurd e2 (by cases d2<;>simp[B9])
   |ok es=>
    rw[e1,e2]at p2;obtain⟨t1,c1,xs,rfl,k1,rs1⟩:=MT (r1.same s2) e1;obtain⟨t2,c2,ys,rfl,k2,rs2⟩:=MT r2 e2;refine⟨t1,t2,c1,c2,xs,ys,rfl,k1 H2 (Kp.of (AC.refl H2)),k2 H2 (Kp.of (AC.refl H2)),fun hz=>p2 _ H2 (AC.refl H2) (U5 k1 k2 rs1 rs2) ?_⟩
    rw[L6,<-rs1.length];omega⟩⟩
end
theorem DI.live{l:Ag}(z:DI t h j l i):∃ o,h.get? j=Aa o/\∀ v,o.data≠.cell v:=by
 cases t with
 |true=>obtain⟨o,e,c,d⟩:=z;exact⟨o,e,fun v z=>by rw[d]at z;cases z⟩
 |false=>obtain⟨o,e,c,d⟩:=z;exact⟨o,e,fun v z=>by rw[d]at z;cases z⟩
theorem DI.keep{l:Ag}(z:DI t h j l i)(k:∀ o,h.get? j=Aa o->h2.get? j=Aa o):DI t h2 j l i:=by
 cases t with
 |true=>exact PySem.Heap.IsTupleIter.at z k
 |false=>exact PySem.Heap.IsListIter.at z k
theorem Z0{A:A6}(calm:A.handled=Af)(t:An)(j l:Ak)(ne:l≠j)(its:Bi Aj):Draws prog w A j [j,l] its.size (fun i v=>its[i]?=Aa v) (fun i h=>DI t h j l i/\DA t h l its):=
 have d:=II (prog:=prog) (w:=w) calm t j l ne its
 ⟨fun i h z=>let ⟨o,e,_⟩:=z.1.live;⟨o,e⟩,d.frame,d.item,fun s Q E h q=>d.done _ s Q E (AV _) h q⟩
theorem XZ{A:A6}(calm:A.handled=Af)(t:An)(j l:Ak)(ne:l≠j)(its:Bi Aj)(i:Ag)(hi:its.size<=i):Draws prog w A j [j,l] i (fun _ _=>Bb) (fun k h=>k=i/\DI t h j l i/\DA t h l its):=
 have d:=II (prog:=prog) (w:=w) calm t j l ne its
 ⟨fun _ h z=>let ⟨o,e,_⟩:=z.2.1.live;⟨o,e⟩,fun k h h' z q=>⟨z.1,d.frame i h h' z.2 q⟩,fun k s Q E lt z=>absurd z.1 (A3 lt),fun s Q E h q=>d.done i s Q E hi h.2 q⟩
noncomputable def Ite(K:Fg)(t:An)(a:Ak):It:=
 ⟨fun i H=>∃ xs x,SqX t K H a xs/\xs[i]?=Aa x,fun i H v H'=>∃ p x,H p=Af/\v=.ref p/\(∀ xs,SqX t K H a xs->xs[i]?=Aa x)/\H'=upd H p (.tup [.int i,x]),fun i H=>∃ xs,SqX t K H a xs/\xs.length<=i⟩
def eTn(t:An)(I l:Ag)(i:Ag)(h:AK):Prop:=(∃ old,IsEnum h (I+1) I i old)/\DI t h I l i
theorem UX(t:An)(I l:Ag)(b:l<I):Turn P w K (.Tuple es n pos) (Ite K t l) [I,I+1] (I+1) (eTn t I l) where
  mem:=by simp
  obj:=fun i h ⟨⟨old,z1⟩,z2⟩ c hc=>by
    simp only[As,AF,Bl]at hc;rcases hc with rfl|rfl
    · exact z2.live
    · exact⟨_,z1,fun v z=>by cases z⟩
  keep:=fun i h h2 ⟨⟨old,z1⟩,z2⟩ k=>⟨⟨old,k _ (by simp) _ z1⟩,z2.keep fun o e=>k _ (by simp) o e⟩
  item:=by
    intro X hP hw hK hc i pI s σ H E Iv hf ⟨⟨old,z1⟩,z2⟩ ⟨xs,x,q1,hx⟩;subst hP hw hK;obtain⟨us,rx,px,_⟩:=G0 Iv q1;obtain⟨u,hu,ru⟩:=rx.get hx;have lu:i<us.toArray.size:=by
      have:=(AE.mp hu).1;simpa using this
    refine wpAny_pyNext_enum_itemD (Z0 (A:=X.A.in1) (Iv.ok.hd hc) t I l (A3 b) us.toArray) z1 ⟨z2,px⟩ lu (ni0 (by decide)) (by simp only[As,AF,Bl,CS];exact⟨ni0 (by decide),Ef (AI b (Nat.le_add_right _ _))⟩) fun u' h2 tk hu' ho it2 hT sz kp=>⟨_,rfl,wpAny_letOwnedTupleGo_enum ho fun h3 d1 sb=>?_⟩
    have eu:u'=u:=by
      rw[List.getElem?_toArray,hu]at hu';exact(Bt hu').symm
    subst eu;have lt:I+1<s.heap.objs.size:=Az z1;have kp3:∀ c o,c∉[I,I+1]->s.heap.get? c=Aa o->h3.get? c=Aa o:=fun c o nc q=>by
      simp only[As,AF,Bl,CS]at nc;exact sb.extBut c o nc.2 (kp c o nc.2 nc.1 q)
    have nT:∀ c∈[I,I+1],c≠s.heap.objs.size:=fun c hc z=>by
      have:c<=I+1:=by
        simp only[As,AF,Bl]at hc;rcases hc with z|z<;>rw[z]<;>simp
      exact absurd (z ▸ Fp this lt) (Bh _)
    have I1:Inv X pI σ (upd H s.heap.objs.size (.tup [.int i,x])) { s with heap:=s.heap.push { cls:=.type "tuple", data:=.seq #[.int i tk,u'] },toks:=s.toks }:=
      Iv.laid (fun _ _ q=>Au _ q) (AV _) ⟨(by decide:2<=sizeLine),[.int i tk,u'],.cons ⟨_,rfl⟩ (.cons ru .nil),⟨_,AG _ rfl,rfl,_,rfl⟩⟩
    have hf':∀ b∈[I,I+1],Fn X pI (upd H s.heap.objs.size (.tup [.int i,x])) b:=fun b hb=>⟨by rw[Ch (nT b hb)];exact(hf b hb).1,(hf b hb).2⟩
    have I2:Inv X pI σ (upd H s.heap.objs.size (.tup [.int i,x])) {s with heap:=h3,toks:=tk+1}:=Inv.turnedL (s:={ s with heap:=s.heap.push { cls:=.type "tuple", data:=.seq #[.int i tk,u'] },toks:=s.toks }) [I,I+1] I1 (fun c o nc q=>by
      rcases Tt q with ⟨e1,e2⟩|e1
      · subst e1 e2;exact sb.extBut _ _ (Ef lt) hT
      · exact kp3 c o nc e1) hf'
    exact⟨.ref s.heap.objs.size,_,I2,rfl,⟨s.heap.objs.size,x,Iv.fresh,rfl,fun zs hz=>by rw[Lq Iv hz q1];exact hx,rfl⟩,⟨⟨u',by simpa using d1⟩,it2.1.keep fun o q=>sb.extBut _ o (Dl (ni0 (by decide))) q⟩,fun b hb=>(hf' b hb).1⟩
  done:=by
    intro X hP hw hK hc i pI s σ H E Iv hf ⟨⟨old,z1⟩,z2⟩ ⟨xs,q1,hk⟩;subst hP hw hK;obtain⟨us,rx,px,_⟩:=G0 Iv q1;have e1:=rx.length;have e2:us.toArray.size<=i:=by rw[Ax,<-e1];exact hk
    refine wpAny_pyNext_enum_endD (XZ (A:=X.A.in1) (Iv.ok.hd hc) t I l (A3 b) us.toArray i e2) z1 ⟨rfl,z2,px⟩ fun h2 eb=>⟨rfl,Inv.turnedL [I] Iv (t':=s.toks) (fun c o nc q=>eb c o (fun z=>nc (by simp[z])) q) fun c hc=>hf c ?_⟩
    have:c=I:=by simpa using hc
    subst this;simp
  self:=fun _ _ _ _ _ st h=>T8 st.1.choose_spec h
section
variable{prog:AS}{w:AY}{A:A6}{E:Vq}{s:Ap}
theorem Vz(t:An)(l:Ak)(xs:Bi Aj):Meets (Builtin.«enumerate.__new__» ⟨[.type "enumerate", .ref l],[]⟩) (fun _ R s=>DA t s.heap l xs /\
   R (.ok (.ret (.ref (s.heap.push (itO t l)).objs.size))) { s with heap:=(s.heap.push (itO t l)).push { cls:=.type "enumerate", data:=.fields #[.none,.bool Ad,.ref s.heap.objs.size,Ft 0,.none,.none] } }):=
 .of_wp fun prog w A R s h=>by
  obtain⟨hp,g,d,tk,os⟩:=s;obtain⟨hl,h⟩:=h;have hsub:=sub_enumerate;have hL:DA t (Ht ⟨hp,g,d,tk,os⟩) l xs:=hl
  wp_walk
  refine wpAny_stack_any fun st=>AJ ?_
  split
  ·rename_i c _ _ _ _ _;cases (c==TK "enumerate")
   ·wp_walk using JP hL
    exact⟨_,rfl,h⟩
   ·wp_walk using JP hL
    exact⟨_,rfl,h⟩
  ·wp_walk using JP hL
   exact⟨_,rfl,h⟩
theorem Vk{xs:Bi Aj}{Q:Vq}(hL:DA t s.heap l xs)(h:∀ h',IsEnum h' (s.heap.objs.size+1) s.heap.objs.size 0 .none->DI t h' s.heap.objs.size l 0->(∀ b o,s.heap.get? b=Aa o->h'.get? b=Aa o)->Q (.ref (s.heap.objs.size+1)) {s with heap:=h'}):
    AH (model prog w) A (call (.type "enumerate") [.ref l]) Q E s:=by
  refine callType_new F.called_enumerate (by decide) (F.typeCall_enumerate_1 _) (F.newCall_enumerate_1 _) (fun obj=>F.args_object_init_2 obj _) F.entry_enumerate_new (Vz t l xs) ⟨hL,?_⟩
  have hz:(s.heap.push (itO t l)).objs.size=s.heap.objs.size+1:=BJ ..;show _/\_;rw[hz];have he:IsEnum ((s.heap.push (itO t l)).push { cls:=.type "enumerate", data:=.fields #[.none,.bool Ad,.ref s.heap.objs.size,Ft 0,.none,.none] }) (s.heap.objs.size+1) s.heap.objs.size 0 .none:=by
    have:=AG (s.heap.push (itO t l)) (o:={ cls:=.type "enumerate", data:=.fields #[.none,.bool Ad,.ref s.heap.objs.size,Ft 0,.none,.none] }) rfl;rw[hz]at this;exact this
  exact⟨⟨_,he,rfl⟩,h _ he (Mw (Au _ (AG _ (LV _ _)))) fun b o x=>Au _ (Au _ x)⟩
end
def iF(K:Fg)(ta:TA):TI:=fun σ H R=>ta σ H fun vs H1=>∃ t a xs,vs=[.ref a]/\SqX t K H1 a xs/\(xs.length<=sizeLine->R (Ite K t a) H1)
theorem Xr{a:Ao}(hg:Gl X "enumerate")(hm:X.mg "enumerate" = Af)(ha:PA X [a] ta)(hs:Ay [a] X.env=[(Ad,eval a X.env)]):
  PI X (.Tuple es n tpos) (.Call (.Name "enumerate" p) [a] [] pos) (iF X.K ta):=by
 intro pI s σ H R I h;refine HQ (GX I hg hm PyProof.Rows.boot_enumerate (BM (thn (ha pos pI s σ H _ I h) fun us s1 ⟨vs,H1,I1,r1,q1⟩=>?_) hs rfl))
 obtain⟨t,c,xs,e,sx,q⟩:=q1;subst e;cases r1 with
 |cons r rr=>
  cases rr;cases r;obtain⟨us,ru,pu,zu⟩:=G0 I1 sx;refine Vk pu fun h2 z1 z2 kp=>T8 z1 ?_
  refine⟨s1.heap.objs.size+1,[s1.heap.objs.size,s1.heap.objs.size+1],_,_,H1,rfl,I1.kept (t':=s1.toks) kp,UX t s1.heap.objs.size c pu.lt,⟨⟨_,z1⟩,z2⟩,fun b hb=>?_,q zu⟩
  have hb':s1.heap.objs.size<=b:=by
   simp only[As,AF,Bl]at hb;rcases hb with z|z<;>rw[z]<;>simp
  exact I1.fpOk hb' (I1.hok.fresh hb')
theorem LY:∀(j:Ae)(xs:Ac D),(EF j xs).length=xs.length
 |_,[]=>rfl
 |j,x::xs=>by rw[EF,BG,LY,BG]
theorem OD:∀(xs:Ac D)(j:Ae)(i:Ag)(d:D),(EF j xs)[i]?=Aa d->∃ x,xs[i]?=Aa x/\d=.tup [.int (j+i),x]
 |[],j,i,d,h=>by simp[EF]at h
 |x::xs,j,0,d,h=>by
  rw[EF]at h;simp only[Sy,BU]at h;exact⟨x,rfl,by rw[<-h];simp⟩
 |x::xs,j,i+1,d,h=>by
  rw[EF]at h;simp only[Sw]at h ⊢;obtain⟨y,h1,h2⟩:=OD xs (j+1) i d h;exact⟨y,h1,by rw[h2];congr 3;omega⟩
theorem UV{ds:Ac D}(sq:∀ H2,Kp A H1 H2->SqX t K H2 a xs)(r1:Reps K CL H1 A xs ds):G4 K CL A (EF 0 ds) (Ite K t a) H1:=fun H k i=>by
 have s1:=sq H k;refine⟨fun hi=>⟨xs,s1,?_⟩,fun d hd=>?_⟩
 ·rw[LY]at hi;rw[r1.length];exact hi
 ·obtain⟨x,hx,rfl⟩:=OD _ _ _ _ hd;obtain⟨u,hu,ru⟩:=r1.get hx;refine⟨⟨xs,u,s1,hu⟩,?_⟩;rintro w' H' ⟨p,x',hp,rfl,c1,rfl⟩;have ex:x'=u:=Bt ((c1 xs s1).symm.trans hu);subst ex;rw[Ed];exact⟨EA hp (.tup [.int i,x']),fun B hB aB=>Ir aB hp ⟨rfl,Jz ru k hB,trivial⟩⟩
section
variable{X:Cx}{CL:ClA}{W:XW}{pos p:AU}{a:Ao}{fa:Rho->R D}
theorem V9(ha:SE X CL W a fa)(hg:Gl X "enumerate")(hm:X.mg "enumerate" = Af)(hs:Ay [a] X.env=[(Ad,eval a X.env)]):
  SI X CL W (.Tuple es n tpos) (.Call (.Name "enumerate" p) [a] [] pos) (fun ρ=>(fa ρ).bind fun x=>(B9 x).bind fun xs=>.ok (EF 0 xs)):=
 fun A=>PI.weak (Xr hg hm (EB (ha A) Gb hs) hs) fun σ H R ⟨hA,ρ,g,q⟩=>⟨hA,ρ,g,DV.ex q fun d v H1 _ s1 r1 p1=>by
  cases e1:B9 d with
  |bad=>rw[e1]at p1;exact p1.elim
  |exn z=>exact absurd e1 (by cases d<;>simp[B9])
  |ok ds=>
   rw[e1]at p1;obtain⟨t,c,xs,rfl,k1,rs⟩:=MT r1 e1;exact⟨t,c,xs,rfl,k1 H1 (Kp.of (AC.refl H1)),fun hz=>p1 _ H1 (AC.refl H1) (UV k1 rs) (by rw[LY,<-rs.length];exact hz)⟩⟩
end
noncomputable abbrev R4(h:AK)(z TI TO:Ak)(f0 f1:Aj):Prop:=h.get? z=Aa { cls:=.type "zip", dict:=Af,data:=.fields #[f0,f1,.bool Ad,.ref TI,.ref TO],slots:=#[] }
noncomputable abbrev R5(h:AK)(T:Ak)(a b c:Aj):Prop:=h.get? T=Aa { cls:=.type "tuple", data:=.seq #[a,b,c] }
section
variable{prog:AS}{w:AY}{A:A6}{E:Vq}{s:Ap}
def Z3(t1 t2 t3:An)(I l1 l2 l3 i:Ag)(h:AK):Prop:=R5 h (I+3) (.ref (I+0)) (.ref (I+1)) (.ref (I+2))/\DI t1 h (I+0) l1 i/\DI t2 h (I+1) l2 i/\DI t3 h (I+2) l3 i/\(∃ a b c,R5 h (I+4) a b c) /\
 (R4 h (I+5) (I+3) (I+4) .none (.bool Ad)\/∃(T1:Ag)(f1:An),R4 h (I+5) (I+3) (I+4) (Ft T1) (.bool f1))
end
section
variable{prog:AS}{w:AY}{A:A6}{R:HV->Ap->Prop}
theorem DA.at'(z:DA t h l its)(k:∀ o,h.get? l=Aa o->h2.get? l=Aa o):DA t h2 l its:=by
 cases t with
 |true=>exact PySem.Heap.IsTuple.at z k
 |false=>exact PySem.Heap.IsList.at z k
theorem Z3.at'{t1 t2 t3:An}{I l1 l2 l3 i:Ag}{h h2:AK}(z:Z3 t1 t2 t3 I l1 l2 l3 i h)(k:∀ j,j<=5->∀ o,h.get? (I+j)=Aa o->h2.get? (I+j)=Aa o):Z3 t1 t2 t3 I l1 l2 l3 i h2:=by
 obtain⟨zI,i1,i2,i3,⟨a,b,c,hO⟩,zz⟩:=z;exact⟨k 3 (by decide) _ zI,i1.at' fun o q=>k 0 (by decide) o q,i2.at' fun o q=>k 1 (by decide) o q,i3.at' fun o q=>k 2 (by decide) o q,⟨a,b,c,k 4 (by decide) _ hO⟩,zz.imp (k 5 (by decide) _) fun ⟨T1,f1,hz⟩=>⟨T1,f1,k 5 (by decide) _ hz⟩⟩
end
section
variable{prog:AS}{w:AY}{A:A6}{E:Vq}{s:Ap}
end
theorem Z3.ty{t1 t2 t3:An}{I l1 l2 l3 i:Ag}(z:Z3 t1 t2 t3 I l1 l2 l3 i s.heap):s.TypeIs (.ref (I+5)) "zip" := by
 obtain⟨_,_,_,_,_,hz|⟨_,_,hz⟩⟩:=z
 ·exact⟨_,hz,rfl⟩
 ·exact⟨_,hz,rfl⟩
theorem Z3.lt{t1 t2 t3:An}{I l1 l2 l3 i:Ag}(z:Z3 t1 t2 t3 I l1 l2 l3 i s.heap):I+5<s.heap.objs.size:=by
 obtain⟨o,h,_⟩:=z.ty;exact Az h
section
variable{prog:AS}{w:AY}{A:A6}{E:Vq}{s:Ap}
end
section
variable{X:Cx}{CL:ClA}{W:XW}{pos p pos' p':AU}{a b c:Ao}{fa fb fc:Rho->R D}
end
section
variable{X:Cx}{CL:ClA}{W:XW}{pos p tpos:AU}{a b c:Ao}{fa fb fc:Rho->R D}{x:Ah}
end
section
variable{X:Cx}{CL:ClA}{W:XW}{a:Ao}{fa:Rho->R D}
end
theorem Zb{i:Ae}{m:Ag}(h:plD n i=Aa m):-(n:Ae)<=i/\i<n/\Fu i n=Aa m:=by
 unfold plD at h;unfold Fu;by_cases h0:0<=i
 ·rw[AB h0]at h;by_cases h1:i<n
  ·rw[AB h1]at h;have h2:¬ i<0:=by omega
   refine⟨by omega,h1,?_⟩
   simp only[h2,Gm];rw[AB (by simp;omega)]
   exact h
  ·rw[AM h1]at h;cases h
 ·rw[AM h0]at h;by_cases h1:-(n:Ae)<=i
  ·rw[AB h1]at h;have h2:i<0:=by omega
   refine⟨h1,by omega,?_⟩
   simp only[h2,FZ];rw[AB (by simp;omega)]
   exact h
  ·rw[AM h1]at h;cases h
theorem NE{K:Fg}{CL:ClA}{H:Hp}{A:Ak->Prop}:∀{xs:Ac V}{ds:Ac D}(m:Ag),Reps K CL H A xs ds->Reps K CL H A (xs.eraseIdx m) (ds.eraseIdx m)
 |[],[],_,h=>h
 |v::vs,d::ds,0,h=>h.2
 |v::vs,d::ds,m+1,h=>⟨h.1,NE m h.2⟩
 |[],_::_,_,h=>h.elim
 |_::_,[],_,h=>h.elim
section
variable{X:Cx}{CL:ClA}{W:XW}{o o' e:Ao}{fe:Rho->R D}{i j:Ag}{apos cpos apos' cpos' pos:AU}
theorem WA(ho:PE X o (Fj j))(ho':PE X o' (Fj i))(he:SE X CL W e fe)(hbase:FA o "append" X.env (eval o X.env)=eval o X.env)(hbase':FA o' "pop" X.env (eval o' X.env)=eval o' X.env)(hline:(apos.endLine==cpos.line)=Ab)(hline':(apos'.endLine==cpos'.line)=Ab)(hs:Ay [e] X.env=[(Ad,eval e X.env)]):
  SS X CL W (.Expr (.Call (.Attribute o "append" apos) [.Call (.Attribute o' "pop" apos') [e] [] cpos'] [] cpos) pos) (fun ρ=>O.of ρ (B7 ρ j) fun ys=>O.of ρ (B7 ρ i) fun xs=>O.of ρ (fe ρ) fun d=>O.of ρ (Dt d) fun n=>apD ρ j i ys xs n):=fun Fz B pI s σ H D I ⟨ρ,x,p⟩=>by
 refine Me (MY Em Tk Tn NQ ho (EB (MY Em PySem.F.slot_list_pop PySem.F.type_list_pop Vn ho' (EB (he (B6 B ρ σ)) Gb hs) hbase' (by rw[hs];rfl) hline' hs rfl) Gb rfl) hbase rfl hline rfl rfl) rfl pI s σ H D I ?_
 dsimp only at p;cases e1:B7 ρ j with
 |bad=>rw[e1]at p;exact p.elim
 |exn z=>exact(Ju e1).elim
 |ok es=>
  rw[e1,O.of_ok]at p;have hj:=JF e1;obtain⟨a,ys,es',qa,e2,ha,hh,r⟩:=x.good.ow j _ hj;cases e2;cases e3:B7 ρ i with
  |bad=>rw[e3]at p;exact p.elim
  |exn z=>exact(Ju e3).elim
  |ok ds=>
   rw[e3,O.of_ok]at p;have hi:=JF e3;obtain⟨b,xs,ds',qb,e4,hb,hh',r'⟩:=x.good.ow i _ hi;cases e4;refine⟨_,qa,.inl ⟨rfl,ys,SqL.of hh⟩,_,qb,.inl ⟨rfl,xs,SqL.of hh'⟩,x.aok,ρ,x.good,B0.ex x p fun d v H' _ s rv x' q'=>?_⟩
   cases d with
   |int n=>
    have ev:v=.int n:=rv;subst ev;rw[OA,O.of_ok]at q';unfold apD at q';cases e5:plD ds.length n with
    |none=>rw[e5]at q';exact q'.elim
    |some m=>
     rw[e5]at q';dsimp only at q';cases e6:ds[m]? with
     |none=>rw[e6]at q';exact q'.elim
     |some d=>
      rw[e6]at q';dsimp only at q';split at q'
      ·rename_i hz;simp only[Al,G7,ne_eq]at hz;obtain⟨hne,hz1,hz2⟩:=hz;have z1:=GV hz1;have z2:=GV hz2;obtain⟨y,hy,ry⟩:=(r'.same s).get e6;have hlen:=r'.length;have hne':a≠b:=fun z=>hne (x'.dis j i _ _ a hj hi qa (z ▸ qb))
       have u1:=x'.upd hj qa ((r.same s).append (ws:=[y]) (es:=[d]) ⟨ry,trivial⟩);have hi1:(ρ.set j (Aa (.lst (es++[d]),Ab)))[i]?=Aa (Aa (.lst ds,Ab)):=by rw[Ck hne];exact hi
       obtain⟨n1,n2,n3⟩:-(2 ^ 63)<=n/\n<2 ^ 63/\Fu n xs.length=Aa m:=by
        have hl:(ds.length:Ae)<=sizeLine:=by omega
        have hs:(sizeLine:Ae)<2 ^ 63:=by decide
        obtain⟨q1,q2,q3⟩:=Zb e5;rw[hlen];exact⟨by omega,by omega,q3⟩
       obtain⟨b',xs',ds',qb',e7,hb',hh7,r7⟩:=u1.good.ow i _ hi1;cases e7;have eb:b'=b:=by rw[qb]at qb';injection qb' with z;injection z with z;injection z with z;exact z.symm
       subst eb;have hx:H' b'=Aa (.lst xs):=s _ _ hh';have e8:xs'=xs:=by
        rw[Ch hne'.symm,hx]at hh7;cases hh7;rfl
       subst e8;have u2:=u1.upd hi1 qb (NE m r7);have ec:L2.upd (L2.upd H' a (.lst (ys++[y]))) b' (.lst (xs'.eraseIdx m))=L2.upd (L2.upd H' b' (.lst (xs'.eraseIdx m))) a (.lst (ys++[y])):=by
        funext c
        unfold L2.upd;by_cases c1:c=b'
        ·subst c1;rw[AB rfl,AM hne'.symm,AB rfl]
        ·rw[AM c1];by_cases c2:c=a
         ·rw[AB c2,AB c2]
         ·rw[AM c2,AM c2,AM c1]
       rw[ec,List.set_comm _ _ hne]at u2;refine⟨b',xs',n,m,y,rfl,rfl,hx,n1,n2,n3,hy,?_⟩;refine⟨a,ys,y,rfl,rfl,by rw[Ch hne'];exact s _ _ hh,?_,q' _ _ u2⟩
       rw[r.length];omega
      ·exact q'.elim
   |_=>exact q'.elim
end
section
variable{X:Cx}{CL:ClA}{W:XW}
end
noncomputable def IH(lo:Ae)(n:Ag):Ac V:=(Co n).map fun(k:Ag)=>V.int (lo+(k:Ae))
theorem Uj(lo:Ae)(n:Ag):(IH lo n).length=n:=by simp[IH]
theorem Ut(lo:Ae)(n:Ag):Reps K CL H A (IH lo n) (BK lo n):=by
 have key:∀ L:Ac Ag,Reps K CL H A (L.map fun(k:Ag)=>V.int (lo+(k:Ae))) (L.map fun(k:Ag)=>D.int (lo+(k:Ae))):=fun L=>by
  induction L with
  |nil=>exact trivial
  |cons x L ih=>exact⟨rfl,ih⟩
 exact key _
theorem Us{acc:Bi Aj}(h:ItemsOf (fun i v=>∃ t,v=.int (lo+i*1) t) acc n):AZ (IH lo n) acc.toList:=by
 obtain⟨h1,h2⟩:=h;have key:∀(L:Ac Aj)(m:Ag),(∀(j:Ag)(v:Aj),L[j]?=Aa v->∃ t,v=.int (lo+((m+j:Ag):Ae)) t)->AZ ((List.range' m L.length).map fun(k:Ag)=>V.int (lo+(k:Ae))) L:=fun L=>by
  induction L with
  |nil=>intro m _;exact .nil
  |cons v L ih=>
   intro m h;obtain⟨t,rfl⟩:=h 0 v rfl;refine .cons ⟨t,rfl⟩ (ih (m+1) fun j w hw=>?_)
   obtain⟨u,rfl⟩:=h (j+1) w hw;exact⟨u,by rw[show m+1+j=m+(j+1) by omega]⟩
 have k:=key acc.toList 0 fun j v hv=>by
  obtain⟨t,rfl⟩:=h2 j v (by rw[<-R7];exact hv)
  exact⟨t,by rw[C1,Nat.zero_add]⟩
 rw[D5,h1,<-List.range_eq_range']at k;exact k
section
variable{X:Cx}
def iL(ta:TA):TE:=fun σ H Q=>ta σ H fun vs H1=>∃ i j:Ae,vs=[.int i,.int j]/\(-(2 ^ 62)<=i/\i<2 ^ 62/\-(2 ^ 62)<=j/\j<2 ^ 62)/\(j-i).toNat<=2 ^ 24/\(j-i).toNat<=sizeLine/\∀ l,H1 l=Af->Q (.ref l) (upd H1 l (.lst (IH i (j-i).toNat)))
theorem YR{a b:Ao}{p':AU}(hc:X.calm=Ab)(hg:Gl X "list")(hm:X.mg "list" = Af)(hg':Gl X "range")(hm':X.mg "range" = Af)(ha:PA X [a,b] ta)(hs:Ay [a,b] X.env=[(Ad,eval a X.env),(Ad,eval b X.env)])(hs2:Ay [b] X.env=[(Ad,eval b X.env)]):
  PE X (.Call (.Name "list" p) [.Call (.Name "range" p') [a,b] [] pos'] [] pos) (iL ta):=by
 intro pI s σ H Q I h;refine HQ (GX I hg hm Et (BM ?_ rfl rfl));show AH _ _ (spliced ((Ad,eval (.Call (.Name "range" p') [a,b] [] pos') X.env)::Cz pos (Ay [] X.env))) _ _ s;refine Tb ?_;refine HQ (GX I hg' hm' HS (BM (thn (ha pos' pI s σ H _ I h) fun us s1 ⟨vs,H1,I1,r1,q1⟩=>?_) (by rw[hs,hs2]) (by rw[hs2];rfl)))
 obtain⟨i,j,e,⟨b1,b2,b3,b4⟩,hn,hz,q⟩:=q1;subst e;cases r1 with
 |cons r rr=>
  cases rr with
  |cons r' rr=>
   cases rr;obtain⟨t,rfl⟩:=r;obtain⟨t',rfl⟩:=r';refine call_range_2 (Td ?_);refine call_list_range (n:=(j-i).toNat) (I1.ok.hd hc) (Tw ..) (small_one b1 b2 b3 b4) (by rw[rangeSize_one];split<;>omega) hn fun h' tk acc c' kp e it=>?_
   have e':=Us it;refine⟨.ref (s1.heap.push { cls:=.type "range", data:=.fields #[.int i t,.int j t',.int 1 s1.toks] }).objs.size,_,I1.laid (t':=tk) (fun b o e=>kp b o (Au _ e)) ?_ (show ObjOk X.prog X.w _ h' _ (.lst (IH i (j-i).toNat)) from ⟨by rw[Uj];exact hz,acc.toList,c',e',by rw[Array.toArray_toList];exact e⟩),rfl,q _ (I1.hok.fresh ?_)⟩
   ·rw[BJ];exact Gr _
   ·rw[BJ];exact Gr _
noncomputable def RF(x y:D):R D:=(Dt x).bind fun i=>(Dt y).bind fun j=>(B5 i j).bind fun xs=>.ok (.lst xs)
variable{CL:ClA}{W:XW}{pos p pos' p':AU}{a b:Ao}{fa fb:Rho->R D}
theorem YD(ha:ST X CL W a fa)(hb:ST X CL W b fb)(hc:X.calm=Ab)(hg:Gl X "list")(hm:X.mg "list" = Af)(hg':Gl X "range")(hm':X.mg "range" = Af)(hs:Ay [a,b] X.env=[(Ad,eval a X.env),(Ad,eval b X.env)])(hs2:Ay [b] X.env=[(Ad,eval b X.env)]):
  SC X CL W Ab (.Call (.Name "list" p) [.Call (.Name "range" p') [a,b] [] pos'] [] pos) (fun ρ=>(fa ρ).bind fun x=>(fb ρ).bind fun y=>RF x y):=fun A pI s σ H Q I h=>by
 obtain⟨hA,ρ,g,pp⟩:=h;refine YR hc hg hm hg' hm' (EB (ha A) (EB (hb A) Gb hs2) (by rw[hs,hs2])) hs hs2 pI s σ H Q I ?_
 refine⟨hA,ρ,g,Ba.bindF pp fun dx x H1 _ s1 r1 p1=>⟨hA.same s1,ρ,g.same s1,Ba.bind (Rq:=Dv X.K CL Ab H A) p1 fun dy y H2 _ s2 r2 p2=>?_⟩⟩
 cases dx with
 |int i=>
  cases dy with
  |int j=>
   have e:=r1.int_of;have e':=r2.int_of;subst e e';have p3:Ba (Dv X.K CL Ab H A) W H2 ((B5 i j).bind fun xs=>.ok (.lst xs)) Q:=p2
   cases e2:B5 i j with
   |ok ds=>
    rw[e2]at p3;obtain⟨h1,h2,rfl,hz⟩:=LP e2;rw[Ic]at hz;refine⟨i,j,rfl,⟨h1.1,h1.2,h2.1,h2.2⟩,by rw[D3]at hz;omega,hz,fun l hl=>?_⟩
    exact p3 _ _ (EA hl _) (Hx (s1.trans s2) ((hA.same s1).same s2) hl (Ut i _))
   |exn y=>exact(Lp e2).elim
   |bad=>rw[e2]at p3;exact p3.elim
  |_=>exact p2.elim
 |_=>exact p2.elim
end
section
variable{X:Cx}{CL:ClA}{W:XW}{e o o' k l:Ao}{fe:Rho->R Ov.D}{i ik il:Ag}{pos spos spos' tpos:AU}{kt:Ag}
theorem OX{k:Ag}{j:Ae}(h:Ge ρ k=.ok j):ρ[k]?=Aa (Aa (.int j,Ad)):=by
 unfold Ge DZ at h;split at h
 ·rename_i d hd;cases d<;>first|(cases h;exact hd)|cases h
 ·cases h
theorem Ol{k:Ag}{z:Ex}(h:Ge ρ k=.exn z):Bb:=by
 unfold Ge DZ at h;split at h
 ·rename_i d hd;cases d<;>cases h
 ·cases h
theorem Yz(hc:X.calm=Ab)(ho:PE X o (Fj i))(ho':PE X o' (Fj i))(hk:PE X k (Fj ik))(hl:PE X l (Fj il))(he:SE X CL W e fe)(ha:∀ v,assign (.Subscript o k spos) X.env v=(do
      let ov <-holding [v] (eval o X.env)
      let iv <-holding [v,ov] (eval k X.env)
      FW spos
      holding [v,ov,iv] (Hq ov iv v)
      release [v,ov,iv] []))(ha':∀ v,assign (.Subscript o' l spos') X.env v=(do
      let ov <-holding [v] (eval o' X.env)
      let iv <-holding [v,ov] (eval l X.env)
      FW spos'
      holding [v,ov,iv] (Hq ov iv v)
      release [v,ov,iv] []))(hs:Ev [.Tuple [.Subscript o k spos,.Subscript o' l spos'] kt tpos] e pos.line X.env=pure Ad)(hw:Db [.Tuple [.Subscript o k spos,.Subscript o' l spos'] kt tpos] e X.env=pure Af):SS X CL W (.Assign [.Tuple [.Subscript o k spos,.Subscript o' l spos'] kt tpos] e pos) (fun ρ=>O.of ρ (fe ρ) fun d=>KW ρ d i ik il):=fun Fz B pI s σ H D I ⟨ρ,x,p⟩=>
  Mz (he (B6 B ρ σ)) (KJ hc (Kn (MB ho hk L8 ha) (Kn (MB ho' hl L8 ha') Mf))) hs hw rfl pI s σ H D I ⟨x.aok,ρ,x.good,B0.ex x p fun d v H' _ s rv x' q'=>by
    cases d with
    |tup es=>
     cases es with
     |nil=>exact q'.elim
     |cons dx es=>
      cases es with
      |nil=>exact q'.elim
      |cons dy es=>
       cases es with
       |cons _ _=>exact q'.elim
       |nil=>
        have q':B0 X.K CL Fz B W (O.of ρ (B7 ρ i) fun xs=>O.of ρ (Ge ρ ik) fun a=>O.of ρ (Ge ρ il) fun b=>match plD xs.length a,plD xs.length b with
          |some m,Aa n=>.next (ρ.set i (Aa (.lst ((xs.set m dx).set n dy),Ab)))
          | _,_=>.bad) D:=q'
        obtain⟨t,vs,rfl,_,sq,r⟩:=rv;cases vs with
        |nil=>exact r.elim
        |cons vx vs=>
         cases vs with
         |nil=>exact r.2.elim
         |cons vy vs=>
          cases vs with
          |cons _ _=>exact r.2.2.elim
          |nil=>
            obtain⟨rx,ry,_⟩:=r;cases e1:B7 ρ i with
            |bad=>rw[e1]at q';exact q'.elim
            |exn z=>exact(Ju e1).elim
            |ok ds=>
              rw[e1,O.of_ok]at q';have hi:=JF e1;obtain⟨a,xs,ds',q,e2,ha,hh,rr⟩:=x'.good.ow i _ hi;cases e2;cases e3:Ge ρ ik with
              |bad=>rw[e3]at q';exact q'.elim
              |exn z=>exact(Ol e3).elim
              |ok j=>
                rw[e3,O.of_ok]at q';obtain⟨w1,qk,rk⟩:=x'.good.sh ik _ (OX e3);subst rk;cases e4:Ge ρ il with
                |bad=>rw[e4]at q';exact q'.elim
                |exn z=>exact(Ol e4).elim
                |ok j'=>
                  rw[e4,O.of_ok]at q';obtain⟨w2,ql,rl⟩:=x'.good.sh il _ (OX e4);subst rl;cases e5:plD ds.length j with
                  |none=>rw[e5]at q';exact q'.elim
                  |some m=>
                    cases e6:plD ds.length j' with
                    |none=>rw[e5,e6]at q';exact q'.elim
                    |some n=>
                      rw[e5,e6]at q';have lx:=rr.length;refine⟨t,[vx,vy],rfl,sq,rfl,vx,[vy],rfl,_,q,_,qk,a,xs,j,m,rfl,rfl,hh,by rw[lx];exact e5,vy,[],rfl,_,q,_,ql,a,xs.set m vx,j',n,rfl,rfl,F8,by rw[A9,lx];exact e6,rfl,?_⟩
                      have uu:L2.upd (L2.upd H' a (.lst (xs.set m vx))) a (.lst ((xs.set m vx).set n vy))=L2.upd H' a (.lst ((xs.set m vx).set n vy)):=by
                        funext b
                        by_cases hb:b=a
                        · subst hb;rw[F8,F8]
                        · rw[Ch hb,Ch hb,Ch hb]
                      rw[uu];exact q' _ _ (x'.upd hi q (Reps.set ry n (Reps.set rx m rr)))
    | _=>exact q'.elim⟩
end
section
variable{prog:AS}{w:AY}{A:A6}{E:Vq}{s:Ap}
theorem Oq{it t:Ak}{items:Bi Aj}(hne:t≠it):∀(n i:Ag)(s:Ap)(Q:Ac Aj->Ap->Prop),s.heap.IsListIter it t i->s.heap.IsList t items->i+n<=items.size->(∀ h',h'.IsListIter it t (i+n)->Eg it s.heap h'->Q ((items.toList.drop i).take n) {s with heap:=h'})->AH (model prog w) A (draw (.ref it) n) Q E s
 |0,i,s,Q,hit,_,_,hQ=>by
  show AH _ _ (pure []) Q E s;exact AJ (by simpa using hQ s.heap hit (Tq ..))
 |n+1,i,s,Q,hit,ht,hle,hQ=>by
  have hlt:i<items.size:=by omega
  show AH _ _ (GN (.ref it) >>= _) Q E s;refine Am (Ub hit ht (x:=items[i]) (by simp[hlt]) fun h₁ hit₁ hs₁=>?_)
  refine Am (CN (Oq hne n (i+1) _ _ hit₁ (ht.extBut hs₁.extBut hne) (by omega) fun h₂ hit₂ hs₂=>AJ ?_))
  have hd:items.toList.drop i=items[i]::items.toList.drop (i+1):=by simp[D9,hlt]
  have:=hQ h₂ (by rw[show i+(n+1)=i+1+n by omega];exact hit₂) (hs₁.trans hs₂)
  rw[hd,List.take_succ_cons]at this;exact this
theorem Uh{t:Ak}{Q:Ac Aj->Ap->Prop}(hh:A.handled=Af)(ht:s.heap.IsList t items)(hQ:∀ h',Gu s.heap.objs.size s.heap h'->Q items.toList {s with heap:=h'}):AH (model prog w) A (unpackItems (.ref t) items.size Af) Q E s:=by
 have hlt:t≠s.heap.objs.size:=by obtain⟨o,ho,_⟩:=ht;exact A3 (Az ho)
 have htp:(s.heap.push { cls:=.type "list_iterator", data:=.fields #[.ref t,.int 0 0] }).IsList t items:=by
  obtain⟨o,ho,r⟩:=ht;exact⟨o,Au _ ho,r⟩
 unfold unpackItems;refine Am ?_
 ·unfold notIterableAtAll;refine Am (wpAny_specialOf ht.typeIs slot_list_iter.lookup ?_);refine AJ ?_;simp only[R9,Gm];refine Am (CN (Dd ht ?_));refine Am (CN (Oq hlt items.size 0 _ _ ⟨_,AG _ rfl,rfl,rfl⟩ htp (by omega) fun h₁ hit₁ hs₁=>?_))
  have hall:List.take items.size (List.drop 0 items.toList)=items.toList:=by
   rw[List.drop_zero];exact List.take_of_length_le (by simp)
  rw[hall];rw[AM (by simp)]
  have ht₁:h₁.IsList t items:=htp.extBut hs₁.extBut hlt;refine Am (CN (Ua hh hit₁ ht₁ (by simp) fun h₂ he₂=>?_))
  simp only[Option.isSome_none,R9,Gm];refine AJ (hQ h₂ fun b o hb e=>he₂ b o hb (hs₁.extBut b o hb (Au _ e)))
theorem Ue{elts:Ac Ao}{x1}{t:Ak}{Q:Unit->Ap->Prop}(hh:A.handled=Af)(ht:s.heap.IsList t items) (hn:(BQ elts env).length=items.size) (hstar:(BQ elts env).findIdx? (·.1)=Af) (h:∀ h',Gu s.heap.objs.size s.heap h'->AH (model prog w) A (assignInOrder ((BQ elts env).map (·.2)) items.toList) Q E {s with heap:=h'}):AH (model prog w) A (assign (.Tuple elts x1 pos) env (.ref t)) Q E s:=by
 rw[assign_Tuple];refine Am (FC ?_);unfold unpack;rw[hn,hstar];exact Am (CN (Uh hh ht h))
end
section
variable{X:Cx}{pos:AU}{CL:ClA}
def gSq(K:Fg)(n:Ag)(t:TGs):TG:=fun v σ H Q=>IT K n t v σ H Q\/∃ a xs,v=.ref a/\SqL K H a xs/\xs.length=n/\t xs σ H Q
theorem cQ{t:TGs}(hc:X.calm=Ab)(h:PGs X es t)(hn:(BQ es X.env).length=n)(hst:(BQ es X.env).findIdx? (·.1)=Af):PG X (.Tuple es k pos) (gSq X.K n t):=by
 intro pI s σ H v u Q I r hw;rcases hw with hw|hw
 ·exact KJ hc h hn hst pI s σ H v u Q I r hw
 ·obtain⟨a,xs,e1,hq,hl,hw⟩:=hw;subst e1;cases r;obtain⟨its,rv,ht,hz⟩:=I.list hq;refine Ue (I.ok.hd hc) ht.isList (by simp[hn,<-hl,rv.length]) hst fun h' hx=>?_
  have I1:Inv X pI σ H {s with heap:=h'}:=I.kept (t':=s.toks) fun b o e=>hx b o (A3 (Az e)) e
  exact h pI _ σ H xs _ Q I1 (by simpa using rv) hw
theorem fL(ts:Ac Ag):GT K CL (FH ts) (gSq K ts.length (ts.foldr (fun t u=>Gf (D7 t) u) Gk)):=fun Fz B ρ σ H v d ρ' Q x r e k=>by
 cases d with
 |lst ds=>
  obtain⟨a,xs,rfl,na,sq,rs⟩:=r;rw[Vg]at e;cases e2:DS ts ds ρ with
  |none=>rw[e2]at e;cases e
  |some ρ2=>
   rw[e2]at e;cases e;exact .inr ⟨a,xs,rfl,sq,by rw[rs.length];exact Kh _ _ _ _ e2,MP ts ds xs ρ _ σ Q x rs e2 k⟩
 |_=>exact .inl (Qp ts Fz B ρ σ H v _ ρ' Q x r e k)
end
section
variable{X:Cx}{CL:ClA}{W:XW}
end
end Ov
namespace Ov
open PySem PySem.W PyProof.Rows
variable{p:Bi Ag}{m:Ag}
def Kr{α:Type}(lt:Ag->Ag->An)(n:Ag):KasT α->(α->Prop)->Prop
 |.ret a,Q=>Q a
 |.ask i j k,Q=>i<n/\j<n/\Kr lt n (k (lt i j)) Q
theorem Kr.mono{α:Type}{lt:Ag->Ag->An}{n:Ag}{Q Q':α->Prop}:∀{t:KasT α},Kr lt n t Q->(∀ a,Q a->Q' a)->Kr lt n t Q'
 |.ret _,h,k=>k _ h
 |.ask i j f,h,k=>⟨h.1,h.2.1,Kr.mono (t:=f (lt i j)) h.2.2 k⟩
theorem Kr.bind{α β:Type}{lt:Ag->Ag->An}{n:Ag}{f:α->KasT β}{Q:β->Prop}:∀{t:KasT α},Kr lt n t (fun a=>Kr lt n (f a) Q)->Kr lt n (t.bind f) Q
 |.ret _,h=>h
 |.ask i j k,h=>⟨h.1,h.2.1,Kr.bind (t:=k (lt i j)) h.2.2⟩
structure Sto (lt:Ag->Ag->An) (n:Ag):Prop where
 tr:∀ i j k,i<n->j<n->k<n->lt i j=Ab->lt j k=Ab->lt i k=Ab
 tot:∀ i j,i<n->j<n->i≠j->lt i j=Ad->lt j i=Ab
 asy:∀ i j,i<n->j<n->lt i j=Ab->lt j i=Ad
noncomputable def at0(p:Bi Ag)(x:Ag):Ag:=p.getD x 0
structure Pm (n:Ag) (p:Bi Ag):Prop where
 sz:p.size=n
 lt:∀ x,x<n->at0 p x<n
 inj:∀ x y,x<n->y<n->at0 p x=at0 p y->x=y
section
variable{lt:Ag->Ag->An}{n:Ag}
def Nv(lt:Ag->Ag->An)(p:Bi Ag)(m:Ag):Prop:=∀ x y,x<y->y<m->lt (at0 p x) (at0 p y)=Ab
def Nq(lt:Ag->Ag->An)(p:Bi Ag)(m:Ag):Prop:=∀ x y,x<y->y<m->lt (at0 p y) (at0 p x)=Ab
theorem Nv.succ(S:Sto lt n)(hp:Pm n p)(h1:1<=m)(hm:m<n)(h:Nv lt p m)(e:lt (at0 p (m-1)) (at0 p m)=Ab):Nv lt p (m+1):=fun x y hxy hy=>by
 by_cases hym:y<m
 ·exact h x y hxy hym
 ·have:y=m:=by omega
  subst this;by_cases hx:x=y-1
  ·rw[hx];exact e
  ·exact S.tr _ _ _ (hp.lt _ (by omega)) (hp.lt _ (by omega)) (hp.lt _ hm) (h x (y-1) (by omega) (by omega)) e
theorem Nq.succ(S:Sto lt n)(hp:Pm n p)(h1:1<=m)(hm:m<n)(h:Nq lt p m)(e:lt (at0 p m) (at0 p (m-1))=Ab):Nq lt p (m+1):=fun x y hxy hy=>by
 by_cases hym:y<m
 ·exact h x y hxy hym
 ·have:y=m:=by omega
  subst this;by_cases hx:x=y-1
  ·rw[hx];exact e
  ·exact S.tr _ _ _ (hp.lt _ hm) (hp.lt _ (by omega)) (hp.lt _ (by omega)) e (h x (y-1) (by omega) (by omega))
end
section
variable{prog:AS}{w:AY}{A:A6}{E:Vq}{κ:SortKind}{it:Bi Keyed}
end
section
variable{lt:Ag->Ag->An}{n:Ag}
end
def Ms(h:AK)(v:Aj)(r:Ac Ae):Prop:=∃ a its,v=.ref a/\HR h a its/\GI its.toList r/\r≠[]
theorem Ms.kept{h h':AK}{v:Aj}{r:Ac Ae}(t:Ms h v r)(k:∀ b o,h.get? b=Aa o->h'.get? b=Aa o):Ms h' v r:=by
 obtain⟨a,its,e,⟨o,ho,q⟩,i,n⟩:=t;exact⟨a,its,e,⟨o,k _ _ ho,q⟩,i,n⟩
section
variable{prog:AS}{w:AY}{A:A6}{E:Vq}{s:Ap}
end
end Ov
namespace Ov
open PySem PySem.Spec PyProof.Rows L2
variable{h h':AK}{P:AS}{w:AY}{H:Hp}{a b:Ak}{l:Ac BP}{oT:Dq}{ts:Bi Aj}{Q:Unit->Ap->Prop}{X:Cx}{pI:Pn}{σ:L2.St}{s:Ap}
section
variable{X:Cx}{CL:ClA}{W:XW}
end
section
variable{X:Cx}
variable{CL:ClA}{W:XW}{pos p pos' p':AU}{a:Ao}{fa:Rho->R D}
end
section
end
section
variable{X:Cx}
variable{CL:ClA}{W:XW}{o e:Ao}{fe:Rho->R D}{i:Ag}{apos cpos pos:AU}
end
section
open PySem.AutoSeq1 (wpAny_loadPart')
end
section
variable{prog:AS}{w:AY}{A:A6}{R:HV->Ap->Prop}{I S T:Ak}{u v:Aj}{c:Ag}{P:Ag->Aj->Prop}{St:Ag->AK->Prop}{s:Ap}{r q:Ac Ae}
end
section
variable{X:Cx}{CL:ClA}{W:XW}
end
def Fly(e T:Ak)(cls:Aj)(h:AK):Prop:=∃ oe vs oT ts a0,h.get? e=Aa oe/\oe.cls=cls/\vs[0]?=Aa a0/\oe.data=.fields vs/\vs[1]?=Aa (.ref T)/\T≠e/\h.get? T=Aa oT/\oT.data=.fields ts/\ts[3]?=Aa HX
structure Shift (ex fs:Ac Ak) (h h':AK):Prop where
 keep:∀ b o,h.get? b=Aa o->b∉ex->b∉fs->h'.get? b=Aa o
 slot:∀ b o,h.get? b=Aa o->b∈fs->∃ sl,h'.get? b=Aa {o with slots:=sl}
theorem Shift.trans{ex fs:Ac Ak}{h1 h2:AK}(a:Shift ex fs h h1)(b:Shift ex fs h1 h2):Shift ex fs h h2:=
 ⟨fun c o q n m=>b.keep c o (a.keep c o q n m) n m,fun c o q m=>by
  obtain⟨sl,e1⟩:=a.slot c o q m;obtain⟨sl',e2⟩:=b.slot c _ e1 m;exact⟨sl',e2⟩⟩
theorem ObjOk.isThere:∀(o:HO),L2.ObjOk P w H h a o->∃ ob,h.get? a=Aa ob
 |.lst _,x=>by obtain⟨_,_,_,_,e⟩:=x;exact⟨_,e⟩
 |.tup _,x=>by obtain⟨_,_,_,p⟩:=x;obtain⟨o,e,_⟩:=p;exact⟨_,e⟩
 |.dK _,x=>by obtain⟨_,_,_,_,o,_,_,e,_⟩:=x;exact⟨_,e⟩
 |.dT _,x=>by obtain⟨_,_,_,_,o,_,_,e,_⟩:=x;exact⟨_,e⟩
 |.set _ _,x=>by obtain⟨o,_,_,_,e,_⟩:=x;exact⟨_,e⟩
 |.ins _ _ _,x=>by obtain⟨_,_,_,e,_⟩:=x;exact⟨_,e⟩
 |.own _,x=>x
 |.xd _,x=>by obtain⟨_,⟨_,_,_,e,_⟩,_⟩:=x;exact⟨_,e⟩
 |.met _ _,x=>⟨_,x⟩
 |.rng _ _,x=>by obtain⟨_,_,_,e⟩:=x;exact⟨_,e⟩
 |.frz _ _,x=>⟨_,x.1⟩
 |.tbl _,x=>⟨_,x⟩
 |.ext _,x=>x.2.1
theorem LW(x:HOk P w H h)(e:h.get? a=Af):H a=Af:=by
 cases q:H a with
 |none=>rfl
 |some o=>
  obtain⟨ob,z⟩:=ObjOk.isThere o (x a o q);rw[e]at z;cases z
theorem HOk.shift{ex fs:Ac Ak}(x:HOk P w H h)(sh:Shift ex fs h h')(h1:∀ b∈ex,H b=Af)(h2:∀ b∈fs,H b=Af):HOk P w H h':=fun a o e=>
 (x a o e).stay (fun b u hb q=>by
  have hs:∃ v,H b=Aa v:=by
   rcases hb with rfl|hb
   ·exact⟨_,e⟩
   ·exact⟨_,hb⟩
  obtain⟨v,hv⟩:=hs;exact sh.keep b u q (fun z=>by rw[h1 b z]at hv;cases hv) (fun z=>by rw[h2 b z]at hv;cases hv)) (fun _ q=>q) fun _ _ q=>q
theorem Un.shift{fs0 fs ex:Ac Ak}{H':Hp}{h0:AK}(u:Un fs0 [] H H' h0 h)(sh:Shift ex fs h h')(h1:∀ b∈ex,h0.get? b=Af)(h2:∀ b∈fs,b∈fs0\/h0.get? b=Af):Un fs0 [] H H' h0 h' where
 keep:=fun b o q n hb hx=>sh.keep b o (u.keep b o q n hb hx) (fun z=>by rw[h1 b z]at q;cases q) fun z=>(h2 b z).elim hb fun e=>by rw[e]at q;cases q
 slot:=fun b o q n hb hx=>by
  obtain⟨sl,e1⟩:=u.slot b o q n hb hx;by_cases hf:b∈fs
  ·obtain⟨sl',e2⟩:=sh.slot b _ e1 hf;exact⟨sl',e2⟩
  ·exact⟨sl,sh.keep b _ e1 (fun z=>by rw[h1 b z]at q;cases q) hf⟩
 free:=u.free
 there:=fun b o q hx=>by
  obtain⟨o',e1⟩:=u.there b o q hx;by_cases hf:b∈fs
  ·obtain⟨sl',e2⟩:=sh.slot b _ e1 hf;exact⟨_,e2⟩
  ·exact⟨o',sh.keep b _ e1 (fun z=>by rw[h1 b z]at q;cases q) hf⟩
 tups:=u.tups
 frzs:=u.frzs
 tbls:=u.tbls
section
variable{M:HU}{A:A6}{E:Vq}{s:Ap}{env:BP}{outer:Ac BP}{L e T:Ak}{cls:Aj}{base h:AK}
theorem PH(l:Ac BP):∀ env∈l,∀ a,env.frame=Aa a->a∈frs l:=fun env he a hf=>SK.mpr ⟨env,he,hf⟩
theorem Vt(ff:h.FunFrames base l)(fl:Fly e T cls h):∃ a0,To (EV h (e::T::frs l)) l e cls a0 h:=by
 obtain⟨oe,vs,oT,ts,a0,he,hc,h0,hd,h1,hTe,hT,hdT,h3⟩:=fl;exact⟨a0,fun b o q=>Fq _ q,EW _ Aw,TR ff fun env he a hf=>At _ (At _ (PH l env he a hf)),
  oe,vs,T,oT,ts,he,⟨hc,h0⟩,hd,h1,EW _ (At _ Aw),hTe,hT,hdT,h3⟩
theorem Pi(ff:h.FunFrames base l)(up:h.UpToSlots h'){o:Dq}(ho:h.get? b=Aa o)(hb:b∈frs l):∃ sl,h'.get? b=Aa {o with slots:=sl}:=by
 obtain⟨_,o',ho',hn⟩:=ff.mem hb;rw[ho]at ho';cases ho';exact up b o ho hn
theorem OT(ff:h.FunFrames base l)(up:h.UpToSlots h')(hT:h'.get? T=Aa oT)(hd:oT.data=.fields ts):T∉frs l:=fun hb=>by
 obtain⟨_,o',ho',hn⟩:=ff.mem hb;obtain⟨sl,e1⟩:=up T o' ho' hn;rw[hT]at e1;cases e1;exact hn ts hd
theorem Qq{B:AK}{a0:Aj}(x:To B l e cls a0 h'):∃ T',Fly e T' cls h'/\B.get? T'=Af/\∃ oT ts,h'.get? T'=Aa oT/\oT.data=.fields ts:=by
 obtain⟨_,_,_,oe,vs,T',oT,ts,he,⟨hc,h0⟩,hd,h1,hn,hTe,hT,hdT,h3⟩:=x;exact⟨T',⟨oe,vs,oT,ts,a0,he,hc,h0,hd,h1,hTe,hT,hdT,h3⟩,hn,oT,ts,hT,hdT⟩
theorem Vi(ff:h.FunFrames base l)(st:(EV h (e::T::frs l)).StaysIn h')(up:h.UpToSlots h'):Shift [e,T] (frs l) h h':=
 ⟨fun b o q n1 n2=>st b o (Dx _ q (by simp only[As,CS,AF,Bl]at n1 ⊢;exact⟨n1.1,by first|exact n1.2|exact n1.2.1,n2⟩)),fun b o q hb=>Pi ff up q hb⟩
theorem Vl{T':Ak}(ff:h.FunFrames base l)(up:h.UpToSlots h')(hn:(EV h (e::T::frs l)).get? T'=Af)(hT:h'.get? T'=Aa oT)(hd:oT.data=.fields ts)(hne:T'≠e):T'=T\/h.get? T'=Af:=by
 cases q:h.get? T' with
 |none=>exact .inr rfl
 |some o=>
  refine .inl ?_;by_cases hm:T'∈e::T::frs l
  ·rcases As.mp hm with z|hm
   ·exact absurd z hne
   ·rcases As.mp hm with z|hm
    ·exact z
    ·exact absurd hm (OT ff up hT hd)
  ·have:=Dx _ q hm;rw[hn]at this;cases this
theorem Fly.ne(x:Fly e T cls h):T≠e:=by obtain⟨_,_,_,_,_,_,_,_,_,_,z,_⟩:=x;exact z
theorem Vj(hfr:A.frames=Aa (env::outer))(hf:env.frame=Aa L)(ff:s.heap.FunFrames base (env::outer))(fl:Fly e T cls s.heap)(hQ:∀ h' T',Fly e T' cls h'->Shift [e,T] (frs (env::outer)) s.heap h'->(T'=T\/s.heap.get? T'=Af)->Q () {s with heap:=h'}):AH M A (leaving env (.ref e)) Q E s:=by
 obtain⟨a0,fw⟩:=Vt ff fl;refine wpAny_leaves_onW hfr hf fw fun h' fw' up=>?_
 obtain⟨T',fl',hn,oT,ts,hT,hd⟩:=Qq fw';exact hQ h' T' fl' (Vi ff fw'.1 up) (Vl ff up hn hT hd fl'.ne)
theorem UG{args:Ac Aj}(hfr:A.frames=Aa (env::outer))(hf:env.frame=Aa L)(ff:h.FunFrames base (env::outer))(hx:Tp h s.heap e cls args)(hQ:∀ h' T',Fly e T' cls h'->Shift [] (frs (env::outer)) h h'->h.get? T'=Af->Q () {s with heap:=h'}):AH M A (leaving env (.ref e)) Q E s:=by
 have fh:=TR (as:=frs (env::outer)) ff (PH _);refine wpAny_leaves_madeW hfr hf (fun b o q=>Fq _ q) fh hx fun h' t fw _ _ up=>?_
 have up':h.UpToSlots h':=(Heap.UpToSlots.of_keeps hx.keeps).trans up;obtain⟨T',fl',hn,oT,ts,hT,hd⟩:=Qq fw;refine hQ h' T' fl' ⟨fun b o q _ n2=>fw.1 b o (Dx _ q n2),fun b o q hb=>Pi ff up' q hb⟩ ?_
 cases q:h.get? T' with
 |none=>rfl
 |some o=>
  have:=Dx _ q (OT ff up' hT hd);rw[hn]at this;cases this
end
def CXR(P:AS)(w:AY):CXT:=fun outer H s E ev s'=>∃ e T cls H',ev=.ref e/\s'.os=s.os/\Ek s'.gens/\Un (frs outer) [] H H' s.heap s'.heap/\HOk P w H' s'.heap/\Fly e T cls s'.heap/\H' e=Af/\H' T=Af/\s.heap.get? e=Af/\s.heap.get? T=Af/\E cls Af H'
def Nn(X:Cx)(CL:ClA)(W:XW):Prop:=∀ pI σ H s h' e C vs x,Inv X pI σ H s->Tp s.heap h' e (.ref C) vs->CL x.c=Aa C->x.fs=[]->W x H->X.xe (.ref e) {s with heap:=h'}
section
variable{P:AS}{w:AY}{K:Fg}{mg:Ah->Aq Aj}{base:AK}{N:Ac Ah}{qual:Ah}{scope:BY}{f:Ak}{cd:Aj}{A:A6}{outer:Ac BP}{s:Ap}{H:Hp}{E:XK}{CL:ClA}{W:XW}
theorem PD(I:Inv X pI σ H s):∀ b∈frs X.stack,b∈X.fs\/X.s₀.heap.get? b=Af:=fun b hb=>by
 rcases As.mp (I.stkSub b hb) with z|z
 ·exact .inr (by rw[z];exact Ts I.ok.above)
 ·exact .inl z
theorem Jv(I:Inv X pI σ H s)(hx:X.ex=[])(h:s.heap.get? b=Af):X.s₀.heap.get? b=Af:=by
 cases q:X.s₀.heap.get? b with
 |none=>rfl
 |some o=>
  obtain⟨o',z⟩:=I.base.there b o q (by rw[hx];simp)
  rw[h]at z;cases z
theorem cX(hE:∀ x cls H',W x H'->(∃ C,CL x.c=Aa C/\cls=.ref C)->E cls Af H'):∀ A',IG (CXR P w) (Fh (CXR P w) P w K mg base N qual scope f cd A outer s H E) (EKW K CL A' W):=by
 intro A' pI σ H1 s1 ev s2 I h;obtain⟨e,T,cls,H',rfl,os,bare,un,hok,fl,he,hT,ne,nT,x,xr,wx⟩:=h;have I':=I.call' (s':=s2) (ch:=[]) os un hok bare (fun b z=>absurd z (by simp))
 have hb0:Un (frs outer) [] H H' s.heap s2.heap:=I'.base;show AH (model P w) (A.deeper (D0 qual scope s.heap.objs.size f cd)) (leaving (D0 qual scope s.heap.objs.size f cd) (.ref e)) _ _ s2;refine Vj (L:=s.heap.objs.size) I'.ok.frames rfl I'.stack fl fun h' T' fl' sh hT'=>?_
 have e0:s.heap.get? e=Af:=Jv I rfl ne;have T0:s.heap.get? T=Af:=Jv I rfl nT;refine⟨e,T',cls,H',rfl,I'.os,bare,Un.shift hb0 sh ?_ (PD I'),HOk.shift hok sh ?_ I'.stkFree,fl',he,?_,e0,?_,?_⟩
 ·intro b hb;rcases As.mp hb with rfl|hb
  ·exact e0
  ·rw[AR.mp hb];exact T0
 ·intro b hb;rcases As.mp hb with rfl|hb
  ·exact he
  ·rw[AR.mp hb];exact hT
 ·rcases hT' with rfl|z
  ·exact hT
  ·exact LW hok z
 ·rcases hT' with rfl|z
  ·exact T0
  ·exact Jv I' rfl z
 ·obtain⟨C,c1,c2,_⟩:=xr;exact hE x cls H' wx ⟨C,c1,c2⟩
theorem rzR(hE:∀ x cls H',W x H'->(∃ C,CL x.c=Aa C/\cls=.ref C)->E cls Af H'):Nn (Fh (CXR P w) P w K mg base N qual scope f cd A outer s H E) CL W:=by
  intro pI σ H1 s1 h2 e C vs x I hm hc hf hw;have hb0:Un (frs outer) [] H H1 s.heap s1.heap:=I.base;show AH (model P w) (A.deeper (D0 qual scope s.heap.objs.size f cd)) (leaving (D0 qual scope s.heap.objs.size f cd) (.ref e)) _ _ {s1 with heap:=h2}
  refine UG (s:={s1 with heap:=h2}) (h:=s1.heap) (L:=s.heap.objs.size) I.ok.frames rfl I.stack hm fun h' T' fl' sh hT'=>?_
  refine⟨e,T',.ref C,H1,rfl,I.os,I.bare,Un.shift hb0 sh (fun b hb=>nomatch hb) (PD I),HOk.shift I.hok sh (fun b hb=>nomatch hb) I.stkFree,fl',LW I.hok hm.new,LW I.hok hT',Jv I rfl hm.new,Jv I rfl hT',hE x _ H1 hw ⟨C,hc,rfl⟩⟩
theorem ownR:EK (model P w) (Fh (CXR P w) P w K mg base N qual scope f cd A outer s H E).A (Fh (CXR P w) P w K mg base N qual scope f cd A outer s H E).env (Fh (CXR P w) P w K mg base N qual scope f cd A outer s H E).xe:=PassesOwn.leaving
end
noncomputable def veB:Ac Aj:=[.type "ValueError", .type "Exception", .type "BaseException", .type "object"]
structure XcOk (K:Fg) (C:Ak):Prop where
 exc:PySem.W.excIn K C veB "ValueError.__new__" = Ab
 ga:GJ K (.ref C) "__getattribute__" = Aa (Aa (.builtin "BaseException.__getattribute__"))
 gt:GJ K (.ref C) "__getattr__" = Aa Af
 cl:GJ K (.ref C) "__class__" = Aa (Aa (.builtin "object.__class__"))
 ob:PySem.W.mroIn K C (.type "object")=Aa Ab
 be:TW K (.ref C) (.type "BaseException")=Aa Ab
 cs:(PySem.W.clsIn K C).isSome=Ab
 ve:TV K (.ref C) (.type "ValueError")=Aa Ab
section
variable{prog:AS}{w:AY}{A:A6}{E:Vq}{h:AK}{g:Bi Ja}{d:Drawn}{t:Ag}{os:OsState}{K:Fg}{e C:Ak}
end
def Rn(X:Cx)(pI:Pn)(e:Ak):Prop:=e≠X.env.locals/\(∀ x c,X.env.cells.lookup x=Aa c->c≠e)/\(∀ p∈X.pn++pI,p.1≠e)/\X.s₀.heap.get? e=Af
section
variable{X:Cx}{pI:Pn}{σ:L2.St}{H:Hp}{s:Ap}{e:Ak}
end
noncomputable def Cx.hot(X:Cx)(e:Ak):Cx:={X with A:=X.A.mark (Aa (.ref e)),calm:=Ad,xe:=fun _ _=>Bb}
section
variable{X:Cx}{pI:Pn}{σ:L2.St}{H:Hp}{s:Ap}{e:Ak}
end
noncomputable def gU(X:Cx)(CL:ClA)(pI:Pn)(σ:L2.St)(H:Hp)(y:Ex)(Xw:Vq):Prop:=
 ∀ s' H' e T C,Inv X pI σ H' s'->AC H H'->Fly e T (.ref C) s'.heap->H' e=Af->H' T=Af->Rn X pI e->Rn X pI T->CL y.c=Aa C->y.fs=[]->Xw (.ref e) s'
def STB(X:Cx)(CL:ClA)(body:Ac Bz)(f:Rho->O):Prop:=∀ Fz B pI s σ H D ρ (Xw:Vq),EK (model X.prog X.w) X.A X.env Xw->Inv X pI σ H s->Sx X.K CL Fz B ρ σ H ->
  (match f ρ with
   |.exn y ρ'=>ρ'=ρ->gU X CL pI σ H y Xw
   | o=>B0 X.K CL Fz B (fun _ _=>Bb) o D)->(∀ y ρ',f ρ=.exn y ρ'->ρ'=ρ)->AH (model X.prog X.w) X.A (execs body X.env) (SP X pI D) Xw s
noncomputable def Cx.pw(X:Cx)(pI:Pn)(Xw:Vq):Cx:={X with pn:=X.pn++pI,xe:=Xw}
section
variable{X:Cx}{pI pins':Pn}{σ:L2.St}{H:Hp}{s:Ap}{Xw:Vq}
end
section
variable{X:Cx}{CL:ClA}{k n:Ag}{fr:An}{f:Ak}{fd:B2}{ps:Ac Ah}{F:Ac D->R D}{x:Ah}{p pos pos2:AU}{e:Ao}{es:Ac Ao}{fs ft:Rho->R (Ac D)}{sh:Rho->An}
variable(hx0:X.ex=[])(G:FnOk X.prog X.w X.K X.mg X.base (CXR X.prog X.w) k f fd ps (spD X.K CL n fr F))(hr:Room k X.A)(hg:Gl X x)(hm:X.mg x=Aa (.ref f))
    (hk:CW X.K (.ref f)=Ab) (hb:GA X.K fd ps []) (hst:∀ ρ,sh ρ=Ab->ft ρ=fs ρ) (hn:∀ ρ ds,ft ρ=.ok ds->ds.length=n) (hnx:∀ ρ y,ft ρ≠.exn y)
    (hdb:(x==("__debug__" : Ah))=Ad) (he:Ay (e::es) X.env=(Ad,eval e X.env)::Ay es X.env) (hpl:∀ pos,(Cz pos (Ay es X.env)).any (·.1)=Ad)
    (ha:∀ pI Xw,EK (model X.prog X.w) X.A X.env Xw->SA (Cx.pw X pI Xw) CL (fun _ _=>Bb) (e::es) fs/\SAT (Cx.pw X pI Xw) CL (fun _ _=>Bb) (e::es) ft)
include hx0 G hr hg hm hk hb hst hn hnx hdb he hpl ha
end
section
variable{X:Cx}{CL:ClA}{W:XW}
def aR(K:Fg)(CL:ClA)(up:Ag->Ac Ag)(c':Ag)(C':Ak):Prop:=∀ c C,CL c=Aa C->TV K (.ref C) (.ref C')=Aa ((up c).contains c')
variable{a:Ao}{fa:Rho->R D}{up:Ag->Ac Ag}{x:Ah}{p p2 pos:AU}
end
end Ov
section
namespace Ov
open PySem PySem.Spec PyProof.Rows L2
end Ov
end
namespace Ov
open PySem PySem.Spec PyProof.Rows L2
variable{α:Type}{g x n x0 x1:Ah}{y:Ao}{as:Es}{X:Cx}{CL:ClA}{fr:An}{pos p:AU}{xs ys:Ac Ao}{env:BP}{l kk k:Ag}{scope:BY}{ts:Ac Ag}{H:Hp}{vs:Ac V}{f:Ak}{fd:B2}{CX:CXT}{ps:Ac Ah}{F:Ac D->R D}{h:AK}
noncomputable abbrev jS:CXT:=fun _ _ _ _ _ _=>Bb
structure HotOk (P:AS) (w:AY) (K:Fg) (mg:Ah->Aq Aj) (base:AK) (k:Ag) (f:Ak) (fd:B2) (ps:Ac Ah) (sp:Sp):Prop where
 len:∀ vs H Q E,sp vs H Q E->vs.length=ps.length
 run:∀(A:A6)(ev:Ak)(outer:Ac BP)(s:Ap)(H:Hp)(args:Args)(us:Ac Aj)(vs:Ac V)(Q:VK)(E:XK),Room k A->Env0 P w K mg base (A.mark (Aa (.ref ev))) outer s H->FS s fd args (ps.zip us)->AZ vs us->sp vs H Q E ->
  Fb (model P w) (A.mark (Aa (.ref ev))) (.call (.ref f) args) (CR jS outer P w H s Q E) s
def spH(K:Fg)(CL:ClA)(n:Ag)(fr:An)(F:Ac D->R D):Sp:=fun vs H Q _=>∃(ds:Ac D)(A:Ak->Prop),vs.length=n/\AOk H A/\Reps K CL H A vs ds/\(match F ds with
  |.ok d=>∀ v H',AC H H'->Dv K CL fr H A H' v d->Q v H'
  |.exn _=>Bb
  | .bad=>Bb)
section
variable{X:Cx}{CL:ClA}{ev:Ak}
end
structure Tc where
 sc:BY
 N:Ac Ah
 /-- a def's name,its number,how many parameters it has -/
 fns:Ac (Ah×Ag×Ag)
 /-- built-in names that the text does not hide -/
 bl:Ac Ah
 /-- exceptions' classes by their names: those that are raised,all that are asked for -/
 rzs:Ac (Ah×Ag)
 exs:Ac (Ah×Ag)
 /-- the text's constants -/
 gls:Ac (Ah×Ag)
noncomputable def Nd(T:Tc)(x:Ah):An:=match T.sc.names.lookup x with
  |some .local=>Ab
  |some .cell=>Ab
  |some .free=>Ab
  |_=>Ad
noncomputable def IR(T:Tc)(x:Ah):An:=match T.sc.names.lookup x with
  |some .local=>Ab
  |some .cell=>Ab
  |_=>Ad
noncomputable def glB(T:Tc)(x:Ah):An:=T.sc.names.lookup x==Aa .globalImplicit
noncomputable def JW(x:Ah):An:=!(x==("__debug__" : Ah)) && !(x==("__classdict__" : Ah)) && !(x==("__name__" : Ah))
noncomputable def isV(T:Tc)(x:Ah)(i:Ag):An:=T.N[i]? == Aa x&&Nd T x&&JW x
noncomputable def isB(T:Tc)(x:Ah):An:=T.bl.contains x&&glB T x&&JW x
noncomputable def DH:Ao->An
 |.Starred _ _=>Ad
 |_=>Ab
noncomputable def Mg:Ao->An
 |.Slice _ _ _ _=>Ad
 |_=>Ab
noncomputable def JR:Ao->An
 |.Set _ _ _=>Ad
 |_=>Ab
noncomputable def IB:Ao->An
 |.ListComp _ _ _ _=>Ad
 |.SetComp _ _ _ _=>Ad
 |.DictComp _ _ _ _ _=>Ad
 |_=>Ab
noncomputable def RJ(tu:An):Ao->An
 |.Tuple ..=>tu
 |.Name ..=>!tu
 |_=>Ad
noncomputable def fE:Ao->An
 |.Tuple _ _ _=>Ab
 |_=>Ad
noncomputable def Q6:Ao->An
 |.Tuple _ _ _=>Ad
 |_=>Ab
noncomputable def LQ:Ao->An
 |.UnaryOp _ _ _=>Ad
 |.BoolOp _ _ _=>Ad
 |.IfExp _ _ _ _=>Ad
 |.Compare _ _ _ _=>Ad
 |_=>Ab
noncomputable def MZ:Ki->Aq Ah
 |.int=>Aa "int"
 |.bool=>Aa "bool"
 |.str=>Aa "str"
 |.list=>Aa "list"
 |.tuple=>Aa "tuple"
 |_=>Af
noncomputable def M0:BI->Aq Ah
 |.len=>Aa "len"
 |.abs=>Af
 |.max=>Aa "max"
 |.min=>Aa "min"
 |.int=>Af
 |.list=>Aa "list"
 |.tuple=>Aa "tuple"
 |.all=>Aa "all"
 |.any=>Aa "any"
 |.sum=>Aa "sum"
 |.sorted=>Af
 |.tmin=>Af
 |.tmax=>Af
 |_=>Af
noncomputable def M2(o scope:BY):BY:={scope with names:=scope.names.map fun (n,k)=>if (k==.free&&o.kind==.function&&o.names.lookup n==Aa .cell) then (n,.cell) else (n,k)}
noncomputable def IL:Ac Ag->Ac Ah->Ac Ah->Ac Ah
 |t::ts,x::xs,N=>IL ts xs ((N.map fun y=>if y==x then N.getD t x else y).set t x)
 |_,_,N=>N
noncomputable def JG:Ac Ah->An
 |[]=>Ab
 |x::xs=>!xs.contains x&&JG xs
noncomputable def JZ(T:Tc)(scope:BY)(ts:Ac Ag)(N':Ac Ah):An:=
  scope.kind==.function&&scope.names.all (fun y=>scope.names.lookup y.1==Aa y.2) &&
  scope.names.all (fun y=>y.2 != .free||T.sc.names.lookup y.1==Aa .cell||T.sc.names.lookup y.1==Aa .free) &&
  N'.length==T.N.length&&JG N' &&
  (Co N'.length).all fun i=>ts.contains i||(match N'[i]? with
    |some x=>(scope.names.lookup x != Aa .local&&scope.names.lookup x != Aa .cell)&&(scope.names.lookup x != Aa .free||T.N[i]? == Aa x)
    | none=>Ab)
noncomputable def D6:Ac Ao->Aq (Ac Ah)
 |[]=>Aa []
 |.Name x _::r=>(D6 r).map (x :: ·)
 |_=>Af
noncomputable def tgN(ys:Ac Ao):Ac Ah:=(D6 ys).getD []
noncomputable def tgB(T:Tc):Ac Ag->Ac Ah->An
 |[],[]=>Ab
 |t::ts,x::xs=>T.N[t]? == Aa x&&T.sc.names.lookup x==Aa .local&&tgB T ts xs
 |_,_=>Ad
noncomputable def tgO(T:Tc)(scope:BY)(t:Ag)(x:Ah):An:=T.N[t]? == Aa x&&(T.sc.names.lookup x==Aa .local||(T.sc.names.lookup x==Aa .cell&&scope.names.lookup x==Aa .cell))
noncomputable def tgC(T:Tc):Ac Ag->Ac Ah->An
 |[],[]=>Ab
 |t::ts,x::xs=>T.N[t]? == Aa x&&IR T x&&tgC T ts xs
 |_,_=>Ad
noncomputable def Tc.blk(T:Tc)(scope:BY)(ts:Ac Ag)(xs:Ac Ah):Tc:={T with sc:=M2 T.sc scope,N:=IL ts xs T.N}
noncomputable def RY:Ao->Aq (Ao×Ao×AU)
  | .Compare x ops ys p=>(match ops with
    | [.Lt]=>(match ys with
      |[y]=>Aa (x,y,p)
      | _=>Af)
    | _=>Af)
  |_=>Af
noncomputable def M6(_:Es):Aq (E×E):=Af
noncomputable def RI(_:Tc)(_:Tc->Ao->E->An)(_:Ao)(_:Ac DK)(_:Ac Ao)(_:BI)(_:Es):An:=Ad
noncomputable def RV(T:Tc)(e:Ao)(b:BI)(as:Es):An:=Ad
noncomputable def JL:Ao->Aq (Ah×AU)
 |.Name x p=>Aa (x,p)
 |_=>Af
theorem Kf{e:Ao}{t:Ah×AU}(q:JL e=Aa t):e=.Name t.1 t.2:=by
 cases e with
 |Name x p=>cases q;rfl
 |_=>cases q
noncomputable def ML:Ao->Aq (Ao×Ac Ao×Ac FT×AU)
 |.Call f as ks p=>Aa (f,as,ks,p)
 |_=>Af
theorem OB{e:Ao}{t:Ao×Ac Ao×Ac FT×AU}(q:ML e=Aa t):e=.Call t.1 t.2.1 t.2.2.1 t.2.2.2:=by
 cases e with
 |Call f as ks p=>cases q;rfl
 |_=>cases q
noncomputable def M7:Ao->Aq (Ao×Ao×AU)
 |.Subscript v s p=>Aa (v,s,p)
 |_=>Af
theorem OI{e:Ao}{t:Ao×Ao×AU}(q:M7 e=Aa t):e=.Subscript t.1 t.2.1 t.2.2:=by
 cases e with
 |Subscript v s p=>cases q;rfl
 |_=>cases q
noncomputable def Rr:Ao->Aq (Ac Ao×Ag×AU)
 |.Tuple es k p=>Aa (es,k,p)
 |_=>Af
theorem VD{e:Ao}{t:Ac Ao×Ag×AU}(q:Rr e=Aa t):e=.Tuple t.1 t.2.1 t.2.2:=by
 cases e with
 |Tuple es k p=>cases q;rfl
 |_=>cases q
noncomputable def Rc:Bz->Aq (Ac Ao×Ao×AU)
 |.Assign ts v p=>Aa (ts,v,p)
 |_=>Af
theorem VF{s:Bz}{t:Ac Ao×Ao×AU}(q:Rc s=Aa t):s=.Assign t.1 t.2.1 t.2.2:=by
 cases s with
 |Assign ts v p=>cases q;rfl
 |_=>cases q
noncomputable def one{α:Type}:Ac α->Aq α
 |[a]=>Aa a
 |_=>Af
theorem Qe{l:Ac α}{a:α}(q:one l=Aa a):l=[a]:=by
  match l,q with
  |[b],q=>cases q;rfl
noncomputable def KR(e:Ao):Aq (Ah×Ah×Ac Ao):=(ML e).bind fun c=>(JL c.1).bind fun g=>(one c.2.1).bind fun a=>(ML a).bind fun d=>(JL d.1).bind fun h=>if (c.2.2.1.isEmpty&&d.2.2.1.isEmpty)=Ab then Aa (g.1,h.1,d.2.1) else Af
theorem X7{e:Ao}{h:Ah}{bs:Ac Ao}(q:KR e=Aa (g,h,bs)):∃ p p' pos pos',e=.Call (.Name g p) [.Call (.Name h p') bs [] pos'] [] pos:=by
 obtain⟨⟨f,as,ks,pos⟩,e1,q⟩:=AX.mp q;obtain⟨⟨g',p⟩,e2,q⟩:=AX.mp q;obtain⟨a,e3,q⟩:=AX.mp q;obtain⟨⟨f',bs',ks',pos'⟩,e4,q⟩:=AX.mp q;obtain⟨⟨h',p'⟩,e5,q⟩:=AX.mp q;by_cases hk:(ks.isEmpty&&ks'.isEmpty)=Ab
 ·rw[AB hk]at q;cases q;rw[Al,F0,F0]at hk;obtain⟨rfl,rfl⟩:=hk;have x1:=OB e1;have x2:=Kf e2;have x3:=Qe e3;have x4:=OB e4;have x5:=Kf e5;dsimp only at x1 x2 x3 x4 x5;subst x1 x2 x3 x4 x5;exact⟨_,_,_,_,rfl⟩
 ·rw[AM hk]at q;cases q
noncomputable def JX(e:Ao):Aq (Ah×Ah×Ao×Ao):=match KR e with
  | some (g,h,bs)=>(match bs with
    |[x,y]=>Aa (g,h,x,y)
    | _=>Af)
  |none=>Af
theorem WX{e:Ao}{h:Ah}{x:Ao}(q:JX e=Aa (g,h,x,y)):∃ p p' pos pos',e=.Call (.Name g p) [.Call (.Name h p') [x,y] [] pos'] [] pos:=by
  unfold JX at q;cases c:KR e with
  |none=>rw[c]at q;cases q
  |some t=>
    obtain⟨g',h',bs⟩:=t;rw[c]at q
    match bs,q,c with
    |[a,b],q,c=>cases q;exact X7 c
noncomputable def JS:Es->Aq (E×E)
 |.cons (.tupI (.rng2 a b)) .nil=>Aa (a,b)
 |_=>Af
theorem VE{a b:E}(q:JS as=Aa (a,b)):as=.cons (.tupI (.rng2 a b)) .nil:=by
 unfold JS at q;split at q
 ·cases q;rfl
 ·cases q
noncomputable def RE(e:Ao):Aq (Ah×Ah×Ao):=match KR e with
  | some (g,h,bs)=>(match bs with
    |[x]=>Aa (g,h,x)
    | _=>Af)
  |none=>Af
noncomputable def M9(_:Es):Aq E:=Af
noncomputable def Nf(e:Ao):Aq (Ah×Ah):=(M7 e).bind fun t=>(JL t.1).bind fun x=>(JL t.2.1).bind fun y=>Aa (x.1,y.1)
theorem Pl{e:Ao}{y:Ah}(q:Nf e=Aa (x,y)):∃ p1 p2 p3,e=.Subscript (.Name x p1) (.Name y p2) p3:=by
 obtain⟨⟨v,s,p⟩,e1,q⟩:=AX.mp q;obtain⟨⟨x',p1⟩,e2,q⟩:=AX.mp q;obtain⟨⟨y',p2⟩,e3,q⟩:=AX.mp q;cases q;have x1:=OI e1;have x2:=Kf e2;have x3:=Kf e3;dsimp only at x1 x2 x3;subst x1 x2 x3;exact⟨_,_,_,rfl⟩
noncomputable def JQ(e:Ao):An:=(M7 e).isSome
theorem OW{e:Ao}(q:JQ e=Ab):∃ o a p,e=.Subscript o a p:=by
 obtain⟨t,h⟩:=SZ.mp q;exact⟨_,_,_,OI h⟩
noncomputable def two(e:Ao):Aq (Ao×Ao):=(Rr e).bind fun t=>match t.1 with
  |[a,b]=>Aa (a,b)
  |_=>Af
theorem Qj{e a b:Ao}(q:two e=Aa (a,b)):∃ k p,e=.Tuple [a,b] k p:=by
  obtain⟨⟨es,k,p⟩,e1,q⟩:=AX.mp q;have x1:=VD e1;dsimp only at x1;subst x1
  match es,q with
  |[a',b'],q=>cases q;exact⟨_,_,rfl⟩
noncomputable def Nt(_:Es):Aq E:=Af
noncomputable def RO(_:Ao):Aq Ao:=Af
noncomputable def KY:Ao->Aq (Ah×Ao)
  | .Call f as ks cp=>(match f,as,ks with
    | .Attribute o m ap,[v],[]=>(match o with
      |.Name x _=>if (m==("pop" : Ah)&&ap.endLine==cp.line&&DH v)=Ab then Aa (x,v) else Af
      | _=>Af)
    | _,_,_=>Af)
  |_=>Af
theorem Xo{e v:Ao}(q:KY e=Aa (x,v)):∃ p ap cp,e=.Call (.Attribute (.Name x p) "pop" ap) [v] [] cp/\ap.endLine=cp.line/\DH v=Ab:=by
 unfold KY at q
 repeat' split at q
 all_goals first|cases q;done|skip
 rename_i h;cases q;simp only[Al,Bp]at h;obtain⟨⟨rfl,h1⟩,h2⟩:=h;exact⟨_,_,_,rfl,h1,h2⟩
noncomputable def Ni(st:Bz):Aq (Ah×Ah×Ah×Ah×Ao):=(Rc st).bind fun t=>(one t.1).bind fun u=>(two u).bind fun ab=>(Nf ab.1).bind fun xy=>(Nf ab.2).bind fun xz=>(two t.2.1).bind fun cd=>if (JQ cd.1&&JQ cd.2)=Ab then Aa (xy.1,xy.2,xz.1,xz.2,t.2.1) else Af
theorem Wo{st:Bz}{y x' z:Ah}{v:Ao}(q:Ni st=Aa (x,y,x',z,v)):∃ p1 p2 p3 p4 p5 p6 kt tp o a p o' a' p' q0 q1 pos,v=.Tuple [.Subscript o a p,.Subscript o' a' p'] q0 q1/\st=.Assign [.Tuple [.Subscript (.Name x p1) (.Name y p2) p3,.Subscript (.Name x' p4) (.Name z p5) p6] kt tp] (.Tuple [.Subscript o a p,.Subscript o' a' p'] q0 q1) pos:=by
 obtain⟨⟨ts,w,pos⟩,e5,q⟩:=AX.mp q;obtain⟨t,e6,q⟩:=AX.mp q;obtain⟨⟨a,b⟩,e1,q⟩:=AX.mp q;obtain⟨⟨y1,y2⟩,e2,q⟩:=AX.mp q;obtain⟨⟨z1,z2⟩,e3,q⟩:=AX.mp q;obtain⟨⟨c,d⟩,e4,q⟩:=AX.mp q;by_cases hs:(JQ c&&JQ d)=Ab
 ·rw[AB hs]at q;cases q;rw[Al]at hs;have x5:=VF e5;have x6:=Qe e6;dsimp only at x5 x6 e4;obtain⟨k1,t1,rfl⟩:=Qj e1;obtain⟨u1,u2,u3,rfl⟩:=Pl e2;obtain⟨u4,u5,u6,rfl⟩:=Pl e3;obtain⟨k2,t2,rfl⟩:=Qj e4;obtain⟨o,a,p,rfl⟩:=OW hs.1;obtain⟨o',a',p',rfl⟩:=OW hs.2;subst x6 x5;exact⟨_,_,_,_,_,_,_,_,_,_,_,_,_,_,_,_,_,rfl,rfl⟩
 ·rw[AM hs]at q;cases q
noncomputable def RK:Ao->Aq (Ao×Ae)
  | .Subscript v s _=>(match s with
    | .Slice lo hi st _=>(match lo with
      | some (.Constant (.int k) _ _)=>(match hi with
        | none=>(match st with
          |some (.Constant (.int j) _ _)=>if j=2 then Aa (v,k) else Af
          | _=>Af)
        | some _=>Af)
      | _=>Af)
    | _=>Af)
  |_=>Af
noncomputable def M8(_:Es):Aq (E×Ae):=Af
mutual
noncomputable def A2:Ag->Tc->Ao->E->An
  |0,_,_,_=>Ad
  |n+1,T,e,c=>match c with
    |.non=>(match e with | .Constant .none _ _=>Ab|_=>Ad)
    |.bl b=>(match e with | .Constant (.bool b') _ _=>b' == b|_=>Ad)
    |.int i=>(match e with | .Constant (.int j) _ _=>decide (j=i)|_=>Ad)
    |.str x=>(match e with | .Constant (.str y) _ _=>decide (y=x)|_=>Ad)
    |.var i=>(match e with | .Name x _=>isV T x i|_=>Ad)
    |.glob g=>Ad
    |.bin op a b=>(match e with | .BinOp x op' y _=>decide (op'=op)&&A2 n T x a&&A2 n T y b|_=>Ad)
    |.un op a=>Ad
    |.no a=>(match e with | .UnaryOp .Not x _=>A2 n T x a|_=>Ad)
    |.and es=>(match e with | .BoolOp .And xs _=>chkEs n T xs es && !xs.isEmpty|_=>Ad)
    |.or es=>(match e with | .BoolOp .Or xs _=>chkEs n T xs es && !xs.isEmpty|_=>Ad)
    |.cmp op a b=>(match e with | .Compare x [op'] [y] _=>decide (op'=op) && !behindInMarks op y&&A2 n T x a&&A2 n T y b|_=>Ad)
    |.cmp2 op1 op2 a b c=>(match e with | .Compare x [o1,o2] [y,z] _=>decide (o1=op1)&&decide (o2=op2) && !lastMarks [op1,op2] [y,z]&&A2 n T x a&&A2 n T y b&&A2 n T z c|_=>Ad)
    |.ite c a b=>Ad
    |.call f as=>(match e with | .Call (.Name g _) (x::xs) [] _=>(T.fns.any fun p=>p.1==g&&p.2.1==f&&p.2.2==xs.length+1)&&decide (xs.length<900)&&glB T g&&JW g&&chkEs n T (x::xs) as|_=>Ad)
    |.bi b as=>(match e with | .Call (.Name g _) (x::xs) [] _=>M0 b==Aa g&&isB T g&&chkEs n T (x::xs) as|_=>Ad)||RV T e b as||(match JS as with|some (a,c)=>(match JX e with|some (g,h,x,y)=>decide (b=.list)&&g==("list" : Ah)&&h==("range" : Ah)&&isB T g&&isB T h&&DH x&&DH y&&A2 n T x a&&A2 n T y c|none=>Ad)|none=>Ad)||(match M8 as with|some (a,k)=>(match RK e with|some (x,j)=>decide (b=.stp)&&decide (j=k)&&decide (0<=k)&&A2 n T x a|none=>Ad)|none=>Ad)||(match M9 as with|some a=>(match RE e with|some (g,h,x)=>decide (b=.lset)&&g==("len" : Ah)&&h==("set" : Ah)&&isB T g&&isB T h&&DH x&&A2 n T x a|none=>Ad)|none=>Ad)||(match M6 as with|some (a,c)=>(match RY e with|some (x,y,_)=>decide (b=.tlt) && !behindInMarks .Lt y&&A2 n T x a&&A2 n T y c|none=>Ad)|none=>Ad)||(match Nt as with|some a=>(match RO e with|some x=>decide (b=.rvs)&&A2 n T x a|none=>Ad)|none=>Ad)
    |.isi a ks=>(match ks with | [k]=>(match e with | .Call (.Name g _) [x,.Name t _] [] _=>g==("isinstance" : Ah)&&isB T g&&MZ k==Aa t&&isB T t&&DH x&&A2 n T x a|_=>Ad)|_=>Ad)
    |.idx a i=>(match e with | .Subscript x y _=>Mg y&&A2 n T x a&&A2 n T y i|_=>Ad)
    |.sl a lo hi=>(match e with | .Subscript x (.Slice l h Af _) _=>A2 n T x a&&chkO n T l lo&&chkO n T h hi|_=>Ad)
    |.tup es=>(match e with | .Tuple xs _ _=>chkEs n T xs es&&decide (xs.length<=1000)|_=>Ad)
    |.lst es=>(match e with | .List xs _=>chkEs n T xs es&&decide (xs.length<=1000)|_=>Ad)
    |.comp elt t it c=>(match e with | .ListComp x [⟨.Name y _,iter,ifs,0⟩] scope _=>chkI n T Ad iter it&&JR iter&&JZ T scope [t] (IL [t] [y] T.N)&&tgO (T.blk scope [t] [y]) scope t y&&chkT n (T.blk scope [t] [y]) ifs c&&A2 n (T.blk scope [t] [y]) x elt|_=>Ad)
    |.compT elt ts it c=>(match e with | .ListComp x [⟨.Tuple ys _ _,iter,ifs,0⟩] scope _=>(D6 ys).isSome&&chkI n T Ab iter it&&JR iter&&JZ T scope ts (IL ts (tgN ys) T.N)&&tgB (T.blk scope ts (tgN ys)) ts (tgN ys)&&chkT n (T.blk scope ts (tgN ys)) ifs c&&A2 n (T.blk scope ts (tgN ys)) x elt|_=>Ad)
    |.tupI _=>Ad
    |.dnew=>Ad
    |.fld _ _=>Ad
noncomputable def HM:Ag->Tc->Ao->E->An
  |0,_,_,_=>Ad
  |n+1,T,e,c=>match e with
    |.UnaryOp .Not x _=>(match c with | .no a=>HM n T x a|_=>Ad)
    |.BoolOp .And xs _=>(match c with | .and es=>chkBs n T xs es && !xs.isEmpty|_=>Ad)
    |.BoolOp .Or xs _=>(match c with | .or es=>chkBs n T xs es && !xs.isEmpty|_=>Ad)
    | .Compare x ops ys _=>(match c with
      |.cmp op a b=>(match ops,ys with | [op'],[y]=>decide (op'=op) && !behindInMarks op y&&A2 n T x a&&A2 n T y b|_,_=>Ad)
      |.cmp2 op1 op2 a b c=>(match ops,ys with | [o1,o2],[y,z]=>decide (o1=op1)&&decide (o2=op2) && !lastMarks [op1,op2] [y,z]&&A2 n T x a&&A2 n T y b&&A2 n T z c|_,_=>Ad)
      |.bi b as=>RI T (A2 n) x ops ys b as
      | _=>Ad)
    |e=>LQ e&&A2 n T e c
noncomputable def chkBs:Ag->Tc->Ac Ao->Es->An
  |0,_,_,_=>Ad
  |n+1,T,xs,es=>match xs,es with
    |[],.nil=>Ab
    |x::xs,.cons e es=>HM n T x e&&chkBs n T xs es
    |_,_=>Ad
noncomputable def chkEs:Ag->Tc->Ac Ao->Es->An
  |0,_,_,_=>Ad
  |n+1,T,xs,es=>match xs,es with
    |[],.nil=>Ab
    |x::xs,.cons e es=>DH x&&A2 n T x e&&chkEs n T xs es
    |_,_=>Ad
noncomputable def chkO:Ag->Tc->Aq Ao->E->An
  |0,_,_,_=>Ad
  |n+1,T,x,e=>match x with
    |none=>(match e with | .non=>Ab|_=>Ad)
    |some x=>(match e with | .non=>Ad|e=>A2 n T x e)
noncomputable def chkT:Ag->Tc->Ac Ao->E->An
  |0,_,_,_=>Ad
  |n+1,T,xs,e=>match xs with
    |[]=>(match e with | .bl Ab=>Ab|_=>Ad)
    |[x]=>HM n T x e
    |_=>Ad
noncomputable def chkI:Ag->Tc->An->Ao->I->An
  |0,_,_,_,_=>Ad
  |n+1,T,tu,e,i=>match i with
    |.e a=>A2 n T e a
    |.rng a=>(match e with | .Call (.Name g _) [x] [] _=>g==("range" : Ah)&&isB T g&&DH x&&A2 n T x a|_=>Ad)
    |.enm a=>(match e with | .Call (.Name g _) [x] [] _=>tu&&g==("enumerate" : Ah)&&isB T g&&DH x&&A2 n T x a|_=>Ad)
    |.zip a b=>(match e with | .Call (.Name g _) [x,y] [] _=>tu&&g==("zip" : Ah)&&isB T g&&DH x&&DH y&&A2 n T x a&&A2 n T y b|_=>Ad)
    |.rng2 a b=>(match e with | .Call (.Name g _) [x,y] [] _=>g==("range" : Ah)&&isB T g&&DH x&&DH y&&A2 n T x a&&A2 n T y b|_=>Ad)
    |.zip3 a b c=>Ad
end
noncomputable def Ro(_:Ag)(_:Tc)(_:Ag)(_:Ac Bz)(_:Ss):An:=Ad
mutual
noncomputable def Ep:Ag->Tc->Bz->S->An
  |0,_,_,_=>Ad
  |n+1,T,st,s=>match s with
    |.pass=>Ad
    |.brk=>Ad
    |.cont=>Ad
    |.asg i _ e=>(match st with | .Assign [.Name x _] v _=>T.N[i]? == Aa x&&IR T x&&A2 n T v e|_=>Ad)
    |.asgT ts e=>(match st with | .Assign [.Tuple ys _ _] v _=>(D6 ys).isSome&&tgC T ts (tgN ys)&&(Q6 v||DD 4 ys.length)&&A2 n T v e|_=>Ad)
    |.expr e=>(match st with | .Expr v _=>IB v&&A2 n T v e|_=>Ad)
    |.ret e=>(match st with | .Return (Aa v) _=>A2 n T v e|_=>Ad)
    |.retN=>Ad
    |.ife c a b=>(match st with | .If t xs ys _=>HM n T t c&&chkSs n T xs a&&chkSs n T ys b|_=>Ad)
    |.fors t it body=>(match st with | .For (.Name x _) iter xs [] _=>tgC T [t] [x]&&JR iter&&chkI n T Ad iter it&&chkSs n T xs body|_=>Ad)
    |.forT ts it body=>(match st with | .For (.Tuple ys _ _) iter xs [] _=>(D6 ys).isSome&&tgC T ts (tgN ys)&&JR iter&&chkI n T Ab iter it&&chkSs n T xs body|_=>Ad)
    |.whl c body=>Ad
    |.rais c as=>!(T.rzs.any fun p=>p.2==c)
    |.tryx _ _ _ _=>Ad
    |.app i e=>(match st with | .Expr (.Call (.Attribute (.Name x _) m ap) [v] [] cp) _=>m==("append" : Ah)&&isV T x i&&ap.endLine==cp.line&&DH v&&A2 n T v e|_=>Ad)
    |.ext i e=>Ad
    |.rev i=>Ad
    |.clr i=>Ad
    |.put i k e=>(match st with | .Assign [.Subscript (.Name x _) y _] v _=>isV T x i&&Mg y&&A2 n T y k&&A2 n T v e|_=>Ad)
    |.swp i k l=>(match Ni st with|some (x,y,x',z,v)=>isV T x i&&isV T x' i&&isV T y k&&isV T z l&&A2 n T v (.tup (.cons (.idx (.var i) (.var l)) (.cons (.idx (.var i) (.var k)) .nil)))|none=>Ad)
    |.apop j i e=>(match st with | .Expr (.Call (.Attribute (.Name x _) m ap) [v] [] cp) _=>m==("append" : Ah)&&isV T x j&&ap.endLine==cp.line&&(match KY v with|some (y,w)=>isV T y i&&A2 n T w e|none=>Ad)|_=>Ad)
    |.ins _ _ _=>Ad
    |.dput _ _ _=>Ad
    |.dsd _ _ _=>Ad
    |.rel _=>Ad
noncomputable def chkSs:Ag->Tc->Ac Bz->Ss->An
  |0,_,_,_=>Ad
  |n+1,T,sts,ss=>match ss with
    |.nil=>sts.isEmpty
    |.cons (.rel i) ss=>chkSs n T sts ss
    | .cons s ss=>(match sts with
      |st::r=>Ep n T st s&&chkSs n T r ss
      | []=>Ad)
end
noncomputable def Gj(fuel:Ag)(hot:An)(fns:Ac (Ah×Ag×Ag))(bl:Ac Ah)(rzs exs gls:Ac (Ah×Ag))(ps N:Ac Ah)(st:Bz)(df:Df):An:=
  let sc:=Fe st
  sc.kind==.function && !sc.isCoroutine && !sc.isGenerator&&JG N&&N.take ps.length==ps&&ps.all (fun x=>sc.names.lookup x==Aa .local||sc.names.lookup x==Aa .cell)&&sc.names.all (fun y=>y.2 != .free)&&N.length==df.n &&
  (match hot with
  |true=>Ro fuel ⟨sc,N,fns,bl,rzs,exs,gls⟩ 0 (Gw st) df.body
  | false=>chkSs fuel ⟨sc,N,fns,bl,rzs,exs,gls⟩ (Gw st) df.body)
structure XT (up:Ag->Ac Ag) (xn:Ag->Ac D->R Ex) (CL:ClA) (rzs exs:Ac (Ah×Ag)) (K:Fg) (mg:Ah->Aq Aj):Prop where
 xc:∀ c C,CL c=Aa C->XcOk K C
 rz:∀ p∈rzs,∃ C,CL p.2=Aa C/\mg p.1=Aa (.ref C)
 ex:∀ p∈exs,∃ C,mg p.1=Aa (.ref C)/\aR K CL up p.2 C/\∀ c D,CL c=Aa D->TW K (.ref D) (.ref C)=Aa ((up c).contains p.2)
 made:∀ c ds,xn c ds=.bad\/xn c ds=.ok ⟨c,[]⟩
 xb:∀ c,(∀ p∈rzs,p.2≠c)->∀ ds,xn c ds=.bad
def Np(K:Fg)(mg:Ah->Aq Aj)(CL:ClA)(x:Ah)(d:D):Prop:=∃ u v,mg x=Aa u/\By v u/\∀ H A,Rep K CL H A v d
structure VX (Γ:Gam) (CL:ClA) (k:Ag) (W:XW) (T:Tc) (X:Cx):Prop where
 sc:X.env.scope=T.sc
 kd:T.sc.kind=.function
 N:X.N=T.N
 nd:T.N.Nodup
 calm:X.calm=Ab
 room:Room k X.A
 bl:∀ x,x∈T.bl->X.mg x=Af
 fn:∀ p∈T.fns,∃ f fd ps,X.mg p.1=Aa (.ref f)/\CW X.K (.ref f)=Ab/\GA X.K fd ps []/\ps.length=p.2.2%1000/\(p.2.2<1000->FnOk X.prog X.w X.K X.mg X.base (CXR X.prog X.w) k f fd ps (spD X.K CL (p.2.2%1000) (Γ.fr p.2.1) (Γ.F p.2.1)))/\(1000<=p.2.2->HotOk X.prog X.w X.K X.mg X.base k f fd ps (spH X.K CL (p.2.2%1000) (Γ.fr p.2.1) (Γ.F p.2.1)))
 own:EK (model X.prog X.w) X.A X.env X.xe
 px:∀ A,IG (CXR X.prog X.w) X (EKW X.K CL A W)
 rz:Nn X CL W
 xt:XT Γ.up Γ.xn CL T.rzs T.exs X.K X.mg
 gl:∀ p∈T.gls,Np X.K X.mg CL p.1 (Γ.G p.2)
theorem Qd:∀ A,IG (CXR X.prog X.w) X (EKW X.K CL A W0):=fun A pI σ H s ev s' I h=>by
 obtain⟨e,T,cls,H',_,_,_,_,_,_,_,_,_,_,x,_,w⟩:=h;exact w.elim
theorem RN:Nn X CL W0:=fun _ _ _ _ _ _ _ _ _ _ _ _ _ z=>z.elim
def Rf{α:Type}(g f:Rho->R α):Prop:=∀ ρ,g ρ=.bad\/g ρ=f ρ
section
variable{X:Cx}{CL:ClA}{W:XW}{a:Ao}{f g:Rho->R D}
theorem SE.ref(h:SE X CL W a f)(r:Rf g f):SE X CL W a g:=fun A=>PE.weak (h A) fun σ H Q ⟨hA,ρ,q,p⟩=>⟨hA,ρ,q,by
 rcases r ρ with e|e
 ·rw[e]at p;exact p.elim
 ·rw[e]at p;exact p⟩
theorem SB.ref{f g:Rho->R An}(h:SB X CL W a f)(r:Rf g f):SB X CL W a g:=fun A=>PT.weak (h A) fun σ H Q ⟨hA,ρ,q,p⟩=>⟨hA,ρ,q,by
 rcases r ρ with e|e
 ·rw[e]at p;exact p.elim
 ·rw[e]at p;exact p⟩
theorem SW.ref{f g:Rho->R An}(h:SW X CL W a f)(r:Rf g f):SW X CL W a g:=fun A=>PW.weak (h A) fun σ H Q ⟨hA,ρ,q,p⟩=>⟨hA,ρ,q,by
 rcases r ρ with e|e
 ·rw[e]at p;exact p.elim
 ·rw[e]at p;exact p⟩
theorem SC.ref(h:SC X CL W fr a f)(r:Rf g f):SC X CL W fr a g:=fun A=>PE.weak (h A) fun σ H Q ⟨hA,ρ,q,p⟩=>⟨hA,ρ,q,by
 rcases r ρ with e|e
 ·rw[e]at p;exact p.elim
 ·rw[e]at p;exact p⟩
theorem SS.ref{st:Bz}{f g:Rho->O}(h:SS X CL W st f)(r:∀ ρ,g ρ=.bad\/g ρ=f ρ):SS X CL W st g:=fun Fz B=>PS.weak (h Fz B) fun D σ H ⟨ρ,x,p⟩=>⟨ρ,x,by
 rcases r ρ with e|e
 ·rw[e]at p;exact p.elim
 ·rw[e]at p;exact p⟩
end
theorem Kd:∀{l:Ac Ah},JG l=Ab->l.Nodup
 |[],_=>CV
 |x::xs,h=>by
  unfold JG at h;simp only[Al,Bv,So,jZ]at h;exact List.nodup_cons.mpr ⟨h.1,Kd h.2⟩
section
variable{T:Tc}{X:Cx}{Γ:Gam}{CL:ClA}{k:Ag}{W:XW}
theorem We(h:Nd T x=Ab):Vis T.sc x:=by
 unfold Nd at h;split at h
 ·exact .inl (by assumption)
 ·exact .inr (.inl (by assumption))
 ·exact .inr (.inr (by assumption))
 ·cases h
theorem Mj(h:IR T x=Ab):Loc T.sc x:=by
 unfold IR at h;split at h
 ·exact .inl (by assumption)
 ·exact .inr (by assumption)
 ·cases h
theorem Mh(h:JW x=Ab):(x==("__debug__" : Ah))=Ad/\(x==("__classdict__" : Ah))=Ad/\x≠"__name__" := by
 unfold JW at h;simp only[Al,Bv]at h;exact⟨h.1.1,h.1.2,fun e=>by subst e;exact absurd h.2 (by simp)⟩
theorem Gd{i:Ag}(v:VX Γ CL k W T X)(h:isV T x i=Ab):PE X (.Name x pos) (Fj i):=by
 unfold isV at h;simp only[Al,Bp]at h;obtain⟨h2,h3,_⟩:=Mh h.2;exact Zf (by rw[v.N];exact h.1.1) (by rw[v.sc];exact We h.1.2) h2 h3
theorem GZ(v:VX Γ CL k W T X)(h:isB T x=Ab):Gl X x/\X.mg x=Af/\x≠"__name__"/\(x==("__debug__" : Ah))=Ad:=by
 unfold isB glB at h;simp only[Al,Bp,So,A7]at h;obtain⟨h2,h3,h4⟩:=Mh h.2;exact⟨by show X.env.scope.names.lookup x=_;rw[v.sc];exact h.1.2,v.bl x h.1.1,h4,h2⟩
theorem CZ{x:Ao}(h:DH x=Ab):Ay (x::xs) env=(Ad,eval x env)::Ay xs env:=by
 cases x<;>first|rfl|cases h
theorem VM(h:Mg y=Ab):Mb y:=by
 intro o i;cases y<;>first|rfl|cases h
theorem KB{e:Ao}(h:JR e=Ab):∀ x,Cs e env x=pure x:=by
 intro x;cases e<;>first|rfl|cases h
theorem PX{e:Ao}{t:Aq Ao}(h:IB e=Ab):DG e t l env=pure Ad:=by
 cases e<;>first|rfl|cases h
theorem Wm{e:Ao}(h:LQ e=Ab):∀ whole,GK e env whole=(do let v <-whole;FW e.pos;holding [v] (truthy v)):=by
 intro whole;cases e<;>first|rfl|cases h
theorem UC(v:VX Γ CL k W T X)(scope:BY):relabel scope X.env=M2 T.sc scope:=by
 unfold relabel M2;have:∀ n,X.env.kindOf n=T.sc.names.lookup n:=fun n=>by show X.env.scope.names.lookup n=_;rw[v.sc]
 simp only[this,v.sc]
theorem MJ{N':Ac Ah}(v:VX Γ CL k W T X)(h:JZ T scope ts N'=Ab):BlockOk X scope N' ts/\N'.Nodup/\scope.kind=.function:=by
 unfold JZ at h;simp only[Al,Bp,DP,C5,G7,ne_eq]at h;obtain⟨⟨⟨⟨⟨h1,h2⟩,h4⟩,h5⟩,h6⟩,h7⟩:=h;have at7:∀ i x,N'[i]?=Aa x->i∈ts\/((scope.names.lookup x≠Aa .local/\scope.names.lookup x≠Aa .cell)/\(scope.names.lookup x≠Aa .free\/T.N[i]?=Aa x)):=fun i x e=>by
  have hi:=(AE.mp e).1;have:=h7 i (CU.mpr hi);rcases this with z|z
  ·exact .inl (by simpa using z)
  ·rw[e]at z;simp only[Al,G7,ne_eq,C5,Bp]at z;exact .inr z
 refine⟨⟨h1,h2,fun y hy hl=>by rw[h2 y hy,hl],fun y hy hf=>?_,by rw[v.N];exact h5,fun i x e hf hn=>?_,fun i x e hl=>?_⟩,Kd h6,h1⟩
 ·rw[v.sc];rcases h4 y hy with (z|z)|z
  ·exact absurd hf z
  ·exact .inl z
  ·exact .inr z
 ·rw[v.N];rcases at7 i x e with z|⟨_,z⟩
  ·exact absurd z hn
  ·exact z.resolve_left fun q=>q hf
 ·rcases at7 i x e with z|⟨z,_⟩
  ·exact z
  ·exact hl.elim (fun q=>absurd q z.1) (fun q=>absurd q z.2)
theorem VX.blk{xs:Ac Ah}{cl:Ac (Ah×Ak)}{C:Ak}{s:Ap}{fp:Ac Ak}(v:VX Γ CL k W T X)(h:JZ T scope ts (IL ts xs T.N)=Ab):VX Γ CL k W0 (T.blk scope ts xs) (cxC X scope cl C (IL ts xs T.N) s H fp):=by
 obtain⟨_,h2,h3⟩:=MJ v h;exact⟨UC v scope,h3,rfl,h2,v.calm,v.room,v.bl,v.fn,PassesOwn.never,Qd,RN,v.xt,v.gl⟩
theorem Wh{t:Ag}(v:VX Γ CL k W T X)(hfn:scope.names.lookup x=Aa .cell->X.fn x=Ab)(h:tgO T scope t x=Ab):PG X (.Name x pos) (D7 t):=by
 unfold tgO at h;simp only[Al,C5,Bp]at h;rcases h with ⟨h1,h2|h2⟩
 ·exact JE (by rw[v.N];exact v.nd) (by rw[v.N];exact h1) (by rw[v.sc];exact .inl h2) (.inr (by rw[v.sc];exact h2))
 ·exact JE (by rw[v.N];exact v.nd) (by rw[v.N];exact h1) (by rw[v.sc];exact .inr h2.1) (.inl (hfn h2.2))
theorem Lu{r:Ac Ao}{zs:Ac Ah}(h:D6 (y::r)=Aa zs):∃ x p ws,y=.Name x p/\D6 r=Aa ws/\zs=x::ws:=by
 cases y with
 |Name x p=>
  have h':(D6 r).map (x :: ·)=Aa zs:=h;cases e:D6 r with
  |none=>rw[e]at h';cases h'
  |some ws=>rw[e]at h';cases h';exact⟨x,p,ws,rfl,rfl,rfl⟩
 |_=>cases h
theorem LD(x:Ah)(p:AU)(r:Ac Ao)(env:BP):BQ (.Name x p::r) env=(Ad,assign (.Name x p) env)::BQ r env:=rfl
theorem Ls:∀(ys:Ac Ao)(zs:Ac Ah),D6 ys=Aa zs->(BQ ys env).length=ys.length/\(BQ ys env).findIdx? (·.1)=Af/\(BQ ys env).map (·.2)=ys.map fun y=>assign y env:=by
 intro ys
 induction ys with
 |nil=>intro _ _;exact⟨rfl,rfl,rfl⟩
 |cons y r ih=>
  intro zs h;obtain⟨x,p,ws,rfl,e,rfl⟩:=Lu h;obtain⟨h1,h2,h3⟩:=ih ws e;rw[LD];refine⟨?_,?_,?_⟩
  ·rw[BG,BG,h1]
  ·rw[List.findIdx?_cons,h2];simp
  ·rw[Bq,Bq,h3]
theorem Wl(v:VX Γ CL k W T X):∀(ys:Ac Ao)(ts:Ac Ag)(zs:Ac Ah),D6 ys=Aa zs->tgB T ts zs=Ab->PGs X ys (ts.foldr (fun t u=>Gf (D7 t) u) Gk)/\ts.length=ys.length:=by
 intro ys
 induction ys with
 |nil=>
  intro ts zs e h;cases e;cases ts with
  |nil=>exact⟨Mf,rfl⟩
  |cons t ts=>cases h
 |cons y r ih=>
  intro ts zs e h;obtain⟨x,p,ws,rfl,e2,rfl⟩:=Lu e;cases ts with
  |nil=>cases h
  |cons t ts=>
   have h':(T.N[t]? == Aa x&&T.sc.names.lookup x==Aa .local&&tgB T ts ws)=Ab:=h;simp only[Al,Bp]at h';obtain⟨h1,h2⟩:=ih ts ws e2 h'.2;exact⟨Kn (JE (by rw[v.N];exact v.nd) (by rw[v.N];exact h'.1.1) (by rw[v.sc];exact .inl h'.1.2) (.inr (by rw[v.sc];exact h'.1.2))) h1 (by rw[LD];rfl),congrArg (· + 1) h2⟩
theorem Wk(v:VX Γ CL k W T X)(hn:(D6 ys).isSome=Ab)(h:tgB T ts (tgN ys)=Ab):PG X (.Tuple ys kk pos) (IT X.K ts.length (ts.foldr (fun t u=>Gf (D7 t) u) Gk)):=by
 cases e:D6 ys with
 |none=>rw[e]at hn;cases hn
 |some zs=>
  have e2:tgN ys=zs:=by unfold tgN;rw[e];rfl
  rw[e2]at h;obtain⟨h1,h2⟩:=Wl v ys ts zs e h;obtain⟨h3,h4,_⟩:=Ls (env:=X.env) ys zs e;exact KJ v.calm h1 (by rw[h3,h2]) h4
end
noncomputable def Es.len:Es->Ag
 |.nil=>0
 |.cons _ es=>es.len+1
theorem Mn(Γ:Gam)(ρ:Rho):∀(es:Es)(ds:Ac D),evA Γ ρ es=.ok ds->ds.length=es.len
 |.nil,ds,h=>by cases h;rfl
 |.cons e es,ds,h=>by
  obtain⟨x,h1,h2⟩:=Hz (OC Γ ρ e es ▸ h);obtain⟨xs,h3,h4⟩:=Hz h2;cases h4;exact congrArg (· + 1) (Mn Γ ρ es xs h3)
theorem PQ(Γ:Gam)(ρ:Rho):∀(es:Es)(ds:Ac D),evB Γ ρ es=.ok ds->ds.length=es.len
 |.nil,ds,h=>by cases h;rfl
 |.cons e es,ds,h=>by
  obtain⟨x,h1,h2⟩:=Hz (O1 Γ ρ e es ▸ h);obtain⟨xs,h3,h4⟩:=Hz h2;cases h4;exact congrArg (· + 1) (PQ Γ ρ es xs h3)
theorem Qk(Γ:Gam)(ρ:Rho)(e:E)(h:shE ρ e=Ab):top ρ e (evE Γ ρ e)=evE Γ ρ e:=by
 cases e with
 |var i=>
  show Ej ρ i=DZ ρ i;have h':shV ρ i=Ab:=h;unfold shV at h';unfold Ej DZ;cases q:ρ[i]? with
  |none=>rfl
  |some x=>
   cases x with
   |none=>rfl
   |some y=>
    obtain⟨d,o⟩:=y;cases o with
    |true=>rw[q]at h';cases h'
    |false=>rfl
 |_=>rfl
theorem Qt(Γ:Gam)(ρ:Rho):∀(es:Es),Hm ρ es=Ab->evB Γ ρ es=evA Γ ρ es
 |.nil,_=>rfl
 |.cons e es,h=>by
  simp only[U0,Al]at h;rw[OC,O1,Qk Γ ρ e h.1,Qt Γ ρ es h.2]
theorem MD(Γ:Gam)(c:E):Rf (fun ρ=>evE Γ ρ c) (fun ρ=>top ρ c (evE Γ ρ c)):=fun ρ=>by
 by_cases h:shE ρ c=Ab
 ·exact .inr (Qk Γ ρ c h).symm
 ·cases c with
  |var i=>
   refine .inl ?_;show DZ ρ i=.bad;have h':¬ shV ρ i=Ab:=h;unfold shV at h';unfold DZ;cases q:ρ[i]? with
   |none=>rfl
   |some x=>
    cases x with
    |none=>rfl
    |some y=>
     obtain⟨d,o⟩:=y;cases o with
     |true=>rfl
     |false=>rw[q]at h';exact absurd rfl h'
  |_=>exact absurd rfl h
def Pcs(X:Cx)(CL:ClA)(W:XW)(e:Ao)(f:Rho->R D):Prop:=∃ tg iter elt ifs scope pos N' ts fi fc fe as g,e=.ListComp elt [⟨tg,iter,ifs,0⟩] scope pos/\BlockOk X scope N' ts/\SI X CL W tg iter fi/\GG X.K CL ts as g /\
 (∀ cl C s H fp,PG (cxC X scope cl C N' s H fp) tg g)/\(∀ cl C s H fp,STs (cxC X scope cl C N' s H fp) CL ifs fc)/\(∀ cl C s H fp,SE (cxC X scope cl C N' s H fp) CL W0 elt fe)/\(∀ x,Cs iter X.env x=pure x) /\
 ∀ ρ,f ρ=(fi ρ).bind fun xs=>(noX (Be (fun x=>(as x ρ).bind fc) (fun x=>(as x ρ).bind fe) xs)).bind fun ys=>.ok (.lst ys)
theorem Pcs.sc{W:XW}{e:Ao}{f:Rho->R D}(hc:X.calm=Ab)(h:Pcs X CL W e f):SC X CL W Ab e f:=by
 obtain⟨tg,iter,elt,ifs,scope,pos,N',ts,fi,fc,fe,as,g,rfl,B,hi,hGG,hg,ht,he,hs,ef⟩:=h;exact SC.congr (Wa hc B hi hGG hg ht he hs) ef
structure OkE (Γ:Gam) (CL:ClA) (W:XW) (X:Cx) (e:Ao) (c:E):Prop where
 se:SE X CL W e (fun ρ=>evE Γ ρ c)
 st:ST X CL W e (fun ρ=>top ρ c (evE Γ ρ c))
 nw:DC Γ c=Ab->SC X CL W Ab e (fun ρ=>evE Γ ρ c)
 cp:IB e=Ad->Pcs X CL W e (fun ρ=>evE Γ ρ c)
section
variable{Γ:Gam}{CL:ClA}{W:XW}{X:Cx}{e:Ao}{c:E}
theorem DT(h:SE X CL W e (fun ρ=>evE Γ ρ c))(ht:∀ ρ r,top ρ c r=r)(hn:DC Γ c=Ad)(hc:IB e=Ab):OkE Γ CL W X e c:=
 ⟨h,by simp only[ht];exact h.st,fun z=>absurd z (by rw[hn];decide),fun z=>absurd z (by rw[hc];decide)⟩
theorem KM(h:SC X CL W Ab e (fun ρ=>evE Γ ρ c))(ht:∀ ρ r,top ρ c r=r)(hc:IB e=Ab):OkE Γ CL W X e c:=
 ⟨h.se,by simp only[ht];exact h.se.st,fun _=>h,fun z=>absurd z (by rw[hc];decide)⟩
theorem Q5(hc:X.calm=Ab)(h:Pcs X CL W e (fun ρ=>evE Γ ρ c))(ht:∀ ρ r,top ρ c r=r):OkE Γ CL W X e c:=
 ⟨(h.sc hc).se,by simp only[ht];exact(h.sc hc).se.st,fun _=>h.sc hc,fun _=>h⟩
end
theorem gQ{k:Ki}(h:MZ k=Aa x):∃ T,tyK k=Aa T/\CA x=Aa (.type T):=by
 cases k<;>simp only[MZ]at h<;>cases h
 ·exact⟨_,rfl,PyProof.Rows.boot_int⟩
 ·exact⟨_,rfl,PyProof.Rows.boot_bool⟩
 ·exact⟨_,rfl,PyProof.Rows.boot_str⟩
 ·exact⟨_,rfl,Et⟩
 ·exact⟨_,rfl,S3⟩
structure Snd (Γ:Gam) (CL:ClA) (k:Ag) (n:Ag):Prop where
 e:∀(W:XW)(T:Tc)(X:Cx)(x:Ao)(c:E),VX Γ CL k W T X->A2 n T x c=Ab->OkE Γ CL W X x c
 b:∀(W:XW)(T:Tc)(X:Cx)(x:Ao)(c:E),VX Γ CL k W T X->HM n T x c=Ab->SB X CL W x (fun ρ=>(top ρ c (evE Γ ρ c)).bind BS)
 bs:∀(W:XW)(T:Tc)(X:Cx)(xs:Ac Ao)(es:Es)(pos:AU),VX Γ CL k W T X->chkBs n T xs es=Ab->xs≠[]->SW X CL W (.BoolOp .And xs pos) (fun ρ=>(evN Γ ρ es).bind BS)/\SW X CL W (.BoolOp .Or xs pos) (fun ρ=>(evO Γ ρ es).bind BS)
 es:∀(W:XW)(T:Tc)(X:Cx)(xs:Ac Ao)(es:Es),VX Γ CL k W T X->chkEs n T xs es=Ab->SA X CL W xs (fun ρ=>evA Γ ρ es)/\SAT X CL W xs (fun ρ=>evB Γ ρ es)/\xs.length=es.len/\(∀ pos,xs≠[]->SE X CL W (.BoolOp .And xs pos) (fun ρ=>evN Γ ρ es)/\SE X CL W (.BoolOp .Or xs pos) (fun ρ=>evO Γ ρ es))/\(∀ pos,(Cz pos (Ay xs X.env)).any (·.1)=Ad)
 o:∀(W:XW)(T:Tc)(X:Cx)(x:Aq Ao)(c:E),VX Γ CL k W T X->chkO n T x c=Ab->SO X CL W x (fun ρ=>(top ρ c (evE Γ ρ c)).bind (slE c))
 t:∀(T:Tc)(X:Cx)(xs:Ac Ao)(c:E),VX Γ CL k W0 T X->chkT n T xs c=Ab->STs X CL xs (fun ρ=>(top ρ c (evE Γ ρ c)).bind BS)
 i:∀(W:XW)(T:Tc)(X:Cx)(tu:An)(tg x:Ao)(i:I),VX Γ CL k W T X->RJ tu tg=Ab->chkI n T tu x i=Ab->SI X CL W tg x (fun ρ=>evI Γ ρ i)
section
variable{Γ:Gam}{CL:ClA}{W:XW}{k n:Ag}{T:Tc}{X:Cx}
theorem VL:Snd Γ CL k 0:=⟨fun _ _ _ _ _ _ h=>absurd (show Ad=Ab from h) Av,fun _ _ _ _ _ _ h=>absurd (show Ad=Ab from h) Av,fun _ _ _ _ _ _ _ h=>absurd (show Ad=Ab from h) Av,fun _ _ _ _ _ _ h=>absurd (show Ad=Ab from h) Av,fun _ _ _ _ _ _ h=>absurd (show Ad=Ab from h) Av,fun _ _ _ _ _ h=>absurd (show Ad=Ab from h) Av,fun _ _ _ _ _ _ _ _ _ h=>absurd (show Ad=Ab from h) Av⟩
theorem NN{x:Ao}(h:DH x=Ab)(hx:(Cz pos (Ay xs env)).any (·.1)=Ad):(Cz pos (Ay (x::xs) env)).any (·.1)=Ad:=by
 rw[CZ h];show (Ad||(Cz pos (Ay xs env)).any (·.1))=Ad;rw[hx];rfl
theorem Yw(S:Snd Γ CL k n)(W:XW)(T:Tc)(X:Cx)(xs:Ac Ao)(es:Es)(v:VX Γ CL k W T X)(h:chkEs (n+1) T xs es=Ab):SA X CL W xs (fun ρ=>evA Γ ρ es)/\SAT X CL W xs (fun ρ=>evB Γ ρ es)/\xs.length=es.len/\(∀ pos,xs≠[]->SE X CL W (.BoolOp .And xs pos) (fun ρ=>evN Γ ρ es)/\SE X CL W (.BoolOp .Or xs pos) (fun ρ=>evO Γ ρ es))/\(∀ pos,(Cz pos (Ay xs X.env)).any (·.1)=Ad):=by
 cases xs with
 |nil=>
  cases es with
  |nil=>exact⟨Zn,W3,rfl,fun _ z=>absurd rfl z,fun _=>rfl⟩
  |cons=>simp[chkEs]at h
 |cons x xs=>
  cases es with
  |nil=>simp[chkEs]at h
  |cons e es=>
   simp only[chkEs,Al]at h;obtain⟨⟨h0,h1⟩,h2⟩:=h;have he:=S.e W T X x e v h1;obtain⟨a1,a2,a3,a4,a5⟩:=S.es W T X xs es v h2;refine⟨W5 he.se a1 (CZ h0),VP he.st a2 (CZ h0),congrArg (· + 1) a3,fun pos _=>?_,fun pos=>NN h0 (a5 pos)⟩
   cases xs with
   |nil=>
    cases es with
    |nil=>exact⟨Qa he.se,Qa he.se⟩
    |cons=>cases a3
   |cons y ys=>
    cases es with
    |nil=>cases a3
    |cons e' es'=>
     obtain⟨b1,b2⟩:=a4 pos (by simp)
     exact⟨Zj he.se b1,bQ he.se b2⟩
theorem bV(S:Snd Γ CL k n)(W:XW)(T:Tc)(X:Cx)(x:Aq Ao)(c:E)(v:VX Γ CL k W T X)(h:chkO (n+1) T x c=Ab):SO X CL W x (fun ρ=>(top ρ c (evE Γ ρ c)).bind (slE c)):=by
 cases x with
 |none=>
  simp only[chkO]at h;split at h
  ·exact V6
  ·cases h
 |some x=>
  simp only[chkO]at h;split at h
  ·cases h
  ·rename_i hne;have q:=V5 (S.e W T X x c v h).st;have e:slE c=fun d=>(Dt d).bind fun i=>.ok (Aa i):=by
    funext d
    cases c<;>first|rfl|exact absurd rfl hne
   rw[e];exact q
theorem bT(S:Snd Γ CL k n)(T:Tc)(X:Cx)(xs:Ac Ao)(c:E)(v:VX Γ CL k W0 T X)(h:chkT (n+1) T xs c=Ab):STs X CL xs (fun ρ=>(top ρ c (evE Γ ρ c)).bind BS):=by
 cases xs with
 |nil=>
  simp only[chkT]at h;split at h
  ·exact Wr
  ·cases h
 |cons x xs=>
  cases xs with
  |nil=>
   simp only[chkT]at h;exact Wq (S.b W0 T X x c v h)
  |cons y ys=>simp[chkT]at h
theorem bW(S:Snd Γ CL k n)(W:XW)(T:Tc)(X:Cx)(tu:An)(tg x:Ao)(i:I)(v:VX Γ CL k W T X)(ht':RJ tu tg=Ab)(h:chkI (n+1) T tu x i=Ab):SI X CL W tg x (fun ρ=>evI Γ ρ i):=by
 have ht:tu=Ab->fE tg=Ab:=fun z=>by
  subst z;cases tg<;>first|rfl|cases ht'
 cases i with
 |e a=>
  simp only[chkI]at h;exact iQ (S.e W T X x a v h).se
 |rng a=>
  simp only[chkI]at h;split at h
  ·simp only[Al,Bp]at h;obtain⟨⟨⟨rfl,h1⟩,h2⟩,h3⟩:=h;obtain⟨g1,g2,_,_⟩:=GZ v h1;exact YI (S.e W T X _ a v h3).st g1 g2 (CZ h2)
  ·cases h
 |rng2 a b=>
  simp only[chkI]at h;split at h
  ·simp only[Al,Bp]at h;obtain⟨⟨⟨⟨⟨rfl,h1⟩,h2⟩,h3⟩,h4⟩,h5⟩:=h;obtain⟨g1,g2,_,_⟩:=GZ v h1;exact V8 (S.e W T X _ a v h4).st (S.e W T X _ b v h5).st g1 g2 (by rw[CZ h2,CZ h3];rfl) (by rw[CZ h3];rfl)
  ·cases h
 |zip a b=>
  simp only[chkI]at h;split at h
  ·simp only[Al,Bp]at h;obtain⟨⟨⟨⟨⟨⟨h0,rfl⟩,h1⟩,h2⟩,h3⟩,h4⟩,h5⟩:=h;obtain⟨g1,g2,_,_⟩:=GZ v h1;have hg:=ht h0;cases tg with
   |Tuple es m tpos=>exact YH (S.e W T X _ a v h4).se (S.e W T X _ b v h5).se g1 g2 (by rw[CZ h2,CZ h3];rfl) (by rw[CZ h3];rfl)
   |_=>cases hg
  ·cases h
 |zip3 a b c=>simp[chkI]at h
 |enm a=>
  simp only[chkI]at h;split at h
  ·simp only[Al,Bp]at h;obtain⟨⟨⟨⟨h0,rfl⟩,h1⟩,h2⟩,h3⟩:=h;obtain⟨g1,g2,_,_⟩:=GZ v h1;have hg:=ht h0;cases tg with
   |Tuple es m tpos=>exact V9 (S.e W T X _ a v h3).se g1 g2 (CZ h2)
   |_=>cases hg
  ·cases h
theorem Iz{c:Prop}[EH c]{b:An}:(if c then R.ok (D.bl b) else .bad)=.bad\/∃ b',(if c then R.ok (D.bl b) else .bad)=.ok (.bl b'):=by
 by_cases h:c
 ·rw[AB h];exact .inr ⟨_,rfl⟩
 ·rw[AM h];exact .inl rfl
theorem VB(op:DK)(d d':D):BN op d d'=.bad\/∃ b,BN op d d'=.ok (.bl b):=by
 cases op with
 |Eq=>exact Iz
 |NotEq=>exact Iz
 |In=>
  cases d' with
  |lst ys=>exact Iz
  |tup ys=>exact Iz
  |dic kvs=>
   show (match IS d with|some k=>R.ok (D.bl (kvs.any fun p=>p.1==k))|none=>.bad)=.bad\/∃ b,(match IS d with|some k=>R.ok (D.bl (kvs.any fun p=>p.1==k))|none=>.bad)=.ok (.bl b)
   cases IS d with
   |some k=>exact .inr ⟨_,rfl⟩
   |none=>exact .inl rfl
  |_=>cases d<;>exact .inl rfl
 |NotIn=>
  cases d' with
  |lst ys=>exact Iz
  |tup ys=>exact Iz
  |_=>cases d<;>exact .inl rfl
 |Is=>
  cases d' with
  |non=>cases d<;>first|exact .inr ⟨_,rfl⟩|exact .inl rfl
  |_=>cases d<;>first|exact .inl rfl|exact .inr ⟨_,rfl⟩
 |IsNot=>
  cases d' with
  |non=>cases d<;>first|exact .inr ⟨_,rfl⟩|exact .inl rfl
  |_=>cases d<;>first|exact .inl rfl|exact .inr ⟨_,rfl⟩
 |_=>
  cases d with
  |int i=>cases d'<;>first|exact .inr ⟨_,rfl⟩|exact .inl rfl
  |_=>exact .inl rfl
theorem PZ(op:DK)(d d':D):(BN op d d').bind BS=.bad\/(BN op d d').bind BS=(BN op d d').bind Dc:=by
 rcases VB op d d' with h|⟨b,h⟩
 ·rw[h];exact .inl rfl
 ·rw[h];exact .inr rfl
theorem bN(e e':E)(es:Es):Rf (fun ρ=>(evN Γ ρ (.cons e (.cons e' es))).bind BS) (fun ρ=>((top ρ e (evE Γ ρ e)).bind BS).bind fun c=>if c=Ab then (evN Γ ρ (.cons e' es)).bind BS else .ok Ad):=fun ρ=>by
 have e0:evN Γ ρ (.cons e (.cons e' es))=(evE Γ ρ e).bind fun x=>(Dc x).bind fun c=>if c=Ab then evN Γ ρ (.cons e' es) else .ok (.bl Ad):=rfl
 dsimp only;rw[e0];rcases MD Γ e ρ with z|z<;>dsimp only at z
 ·rw[z];exact .inl rfl
 ·rw[<-z];cases evE Γ ρ e with
  |bad=>exact .inl rfl
  |exn x=>exact .inr rfl
  |ok d=>
   cases d with
   |bl b=>cases b<;>exact .inr rfl
   |_=>exact .inl rfl
theorem bK(e e':E)(es:Es):Rf (fun ρ=>(evO Γ ρ (.cons e (.cons e' es))).bind BS) (fun ρ=>((top ρ e (evE Γ ρ e)).bind BS).bind fun c=>if c=Ab then .ok Ab else (evO Γ ρ (.cons e' es)).bind BS):=fun ρ=>by
 have e0:evO Γ ρ (.cons e (.cons e' es))=(evE Γ ρ e).bind fun x=>(Dc x).bind fun c=>if c=Ab then .ok (.bl Ab) else evO Γ ρ (.cons e' es):=rfl
 dsimp only;rw[e0];rcases MD Γ e ρ with z|z<;>dsimp only at z
 ·rw[z];exact .inl rfl
 ·rw[<-z];cases evE Γ ρ e with
  |bad=>exact .inl rfl
  |exn x=>exact .inr rfl
  |ok d=>
   cases d with
   |bl b=>cases b<;>exact .inr rfl
   |_=>exact .inl rfl
theorem Rf.tru(e:E):Rf (fun ρ=>(evE Γ ρ e).bind BS) (fun ρ=>(top ρ e (evE Γ ρ e)).bind BS):=fun ρ=>by
 rcases MD Γ e ρ with z|z<;>dsimp only at z ⊢
 ·rw[z];exact .inl rfl
 ·rw[<-z];exact .inr rfl
theorem Yx(S:Snd Γ CL k n)(W:XW)(T:Tc)(X:Cx)(xs:Ac Ao)(es:Es)(pos:AU)(v:VX Γ CL k W T X)(h:chkBs (n+1) T xs es=Ab)(hne:xs≠[]):SW X CL W (.BoolOp .And xs pos) (fun ρ=>(evN Γ ρ es).bind BS)/\SW X CL W (.BoolOp .Or xs pos) (fun ρ=>(evO Γ ρ es).bind BS):=by
 cases xs with
 |nil=>exact absurd rfl hne
 |cons x xs=>
  cases es with
  |nil=>simp[chkBs]at h
  |cons e es=>
   simp only[chkBs,Al]at h;obtain⟨h1,h2⟩:=h;have he:=S.b W T X x e v h1;cases xs with
   |nil=>
    cases es with
    |nil=>exact⟨SW.ref (Wp he) (Rf.tru e),SW.ref (Ys he) (Rf.tru e)⟩
    |cons=>
     cases n with
     |zero=>simp[chkBs]at h2
     |succ n=>simp[chkBs]at h2
   |cons y ys=>
    cases es with
    |nil=>
     cases n with
     |zero=>simp[chkBs]at h2
     |succ n=>simp[chkBs]at h2
    |cons e' es'=>
     obtain⟨b1,b2⟩:=S.bs W T X (y::ys) (.cons e' es') pos v h2 (by simp)
     exact⟨SW.ref (Yt he b1) (bN e e' es'),SW.ref (bS he b2) (bK e e' es')⟩
theorem Wg(S:Snd Γ CL k n){x:Ao}{ops:Ac DK}{b:BI}(v:VX Γ CL k W T X)(h:RI T (A2 n) x ops ys b as=Ab):SB X CL W (.Compare x ops ys pos) (fun ρ=>(top ρ (.bi b as) (evE Γ ρ (.bi b as))).bind BS):=by
 exact absurd (show Ad=Ab from h) Av
theorem bY(S:Snd Γ CL k n)(W:XW)(T:Tc)(X:Cx)(x:Ao)(c:E)(v:VX Γ CL k W T X)(h:HM (n+1) T x c=Ab):SB X CL W x (fun ρ=>(top ρ c (evE Γ ρ c)).bind BS):=by
 have plain:∀ e,LQ e=Ab->A2 n T e c=Ab->SB X CL W e (fun ρ=>(top ρ c (evE Γ ρ c)).bind BS):=fun e h1 h2=>Zk (S.e W T X e c v h2).st (Wm h1)
 simp only[HM]at h;split at h
 ·split at h
  ·rename_i a;refine SB.ref (Zl (S.b W T X _ a v h)) fun ρ=>?_
   show ((top ρ a (evE Γ ρ a)).bind fun x=>(Dc x).bind fun b=>.ok (.bl (!b))).bind BS=.bad\/((top ρ a (evE Γ ρ a)).bind fun x=>(Dc x).bind fun b=>.ok (.bl (!b))).bind BS=_
   cases top ρ a (evE Γ ρ a) with
   |bad=>exact .inl rfl
   |exn x=>exact .inr rfl
   |ok d=>cases d<;>first|exact .inr rfl|exact .inl rfl
  ·cases h
 ·split at h
  ·simp only[Al,Bv,Di]at h;exact(S.bs W T X _ _ _ v h.1 h.2).1.sb
  ·cases h
 ·split at h
  ·simp only[Al,Bv,Di]at h;exact(S.bs W T X _ _ _ v h.1 h.2).2.sb
  ·cases h
 ·split at h
  ·split at h
   ·rename_i op a b _ _ op' y;simp only[Al,Bv,A7]at h;obtain⟨⟨⟨rfl,h1⟩,h2⟩,h3⟩:=h;refine SB.ref (Zm (Iq v.room.units _) (S.e W T X _ a v h2).st (S.e W T X _ b v h3).st h1) fun ρ=>?_
    show ((top ρ a (evE Γ ρ a)).bind fun x=>(top ρ b (evE Γ ρ b)).bind fun y=>BN op' x y).bind BS=.bad\/((top ρ a (evE Γ ρ a)).bind fun x=>(top ρ b (evE Γ ρ b)).bind fun y=>BN op' x y).bind BS=_
    cases top ρ a (evE Γ ρ a) with
    |bad=>exact .inl rfl
    |exn x=>exact .inr rfl
    |ok d=>
     cases top ρ b (evE Γ ρ b) with
     |bad=>exact .inl rfl
     |exn x=>exact .inr rfl
     |ok d'=>
      dsimp only[R.bind];exact PZ _ d d'
   ·cases h
  ·split at h
   ·rename_i op1 op2 a b c _ _ o1 o2 y z;simp only[Al,Bv,A7]at h;obtain⟨⟨⟨⟨⟨rfl,rfl⟩,h1⟩,h2⟩,h3⟩,h4⟩:=h;refine SB.ref (VO v.room.units (S.e W T X _ a v h2).st (S.e W T X _ b v h3).st (S.e W T X _ c v h4).st h1) fun ρ=>?_
    show ((top ρ a (evE Γ ρ a)).bind fun x=>(top ρ b (evE Γ ρ b)).bind fun y=>(BN o1 x y).bind fun z=>(Dc z).bind fun k=>if k=Ab then (top ρ c (evE Γ ρ c)).bind fun u=>BN o2 y u else .ok (.bl Ad)).bind BS=.bad\/((top ρ a (evE Γ ρ a)).bind fun x=>(top ρ b (evE Γ ρ b)).bind fun y=>(BN o1 x y).bind fun z=>(Dc z).bind fun k=>if k=Ab then (top ρ c (evE Γ ρ c)).bind fun u=>BN o2 y u else .ok (.bl Ad)).bind BS=_
    cases top ρ a (evE Γ ρ a) with
    |bad=>exact .inl rfl
    |exn x=>exact .inr rfl
    |ok d=>
     cases top ρ b (evE Γ ρ b) with
     |bad=>exact .inl rfl
     |exn x=>exact .inr rfl
     |ok d'=>
      dsimp only[R.bind];cases BN o1 d d' with
      |bad=>exact .inl rfl
      |exn x=>exact .inr rfl
      |ok d3=>
       cases d3 with
       |bl k=>
        cases k with
        |false=>exact .inr rfl
        |true=>
         dsimp only[R.bind,Dc];rw[AB rfl,AB rfl];cases top ρ c (evE Γ ρ c) with
         |bad=>exact .inl rfl
         |exn x=>exact .inr rfl
         |ok d4=>exact PZ _ d' d4
       |_=>exact .inl rfl
   ·cases h
  ·exact Wg S v h
  ·cases h
 ·simp only[Al]at h;exact plain _ h.1 h.2
end
section
variable{Γ:Gam}{CL:ClA}{W:XW}{k n:Ag}{T:Tc}{X:Cx}
theorem gR{b:BI}{x:Ao}(v:VX Γ CL k W T X)(hb:M0 b=Aa g)(hg:isB T g=Ab)(hs:SAT X CL W (x::xs) (fun ρ=>evB Γ ρ as))(h0:DH x=Ab)(hpl:∀ pos,(Cz pos (Ay xs X.env)).any (·.1)=Ad):OkE Γ CL W X (.Call (.Name g p) (x::xs) [] pos) (.bi b as):=by
 obtain⟨g1,g2,g3,g4⟩:=GZ v hg;cases b<;>simp only[M0]at hb<;>cases hb
 ·exact DT (IA bG g1 g2 PySem.boot_len hs g3 g4 (CZ h0) hpl) (fun _ _=>rfl) rfl rfl
 ·exact DT (IA (bF v.calm) g1 g2 PyProof.Rows.boot_max hs g3 g4 (CZ h0) hpl) (fun _ _=>rfl) rfl rfl
 ·exact DT (IA (bE v.calm) g1 g2 PyProof.Rows.boot_min hs g3 g4 (CZ h0) hpl) (fun _ _=>rfl) rfl rfl
 ·exact KM (YE X6 g1 g2 Et hs g3 g4 (CZ h0) hpl) (fun _ _=>rfl) rfl
 ·exact DT (Yp VC g1 g2 S3 hs g3 g4 (CZ h0) hpl) (fun _ _=>rfl) rfl rfl
 ·exact DT (IA (bJ v.calm) g1 g2 PyProof.Rows.boot_all hs g3 g4 (CZ h0) hpl) (fun _ _=>rfl) rfl rfl
 ·exact DT (IA (bH v.calm) g1 g2 PyProof.Rows.boot_any hs g3 g4 (CZ h0) hpl) (fun _ _=>rfl) rfl rfl
 ·exact DT (IA (bD v.calm) g1 g2 PyProof.Rows.boot_sum hs g3 g4 (CZ h0) hpl) (fun _ _=>rfl) rfl rfl
theorem Lj{x:Ao}{es:Es}(h:chkEs n T (x::xs) es=Ab):DH x=Ab/\∃ e es',es=.cons e es'/\∃ m,n=m+1/\chkEs m T xs es'=Ab:=by
 cases n with
 |zero=>simp[chkEs]at h
 |succ m=>
  cases es with
  |nil=>simp[chkEs]at h
  |cons e es=>
   simp only[chkEs,Al]at h;exact⟨h.1.1,e,es,rfl,m,rfl,h.2⟩
theorem N9:∀(m:Ag)(xs:Ac Ao)(es:Es),chkEs m T xs es=Ab->∀ pos,(Cz pos (Ay xs X.env)).any (·.1)=Ad:=by
 intro m
 induction m with
 |zero=>intro xs es h;simp[chkEs]at h
 |succ m ih=>
  intro xs es h pos;cases xs with
  |nil=>rfl
  |cons x xs=>
   obtain⟨h0,e,es',rfl,m',e1,h1⟩:=Lj h;cases e1;exact NN h0 (ih xs es' h1 pos)
theorem Zs(S:Snd Γ CL k n){x:Ao}{b:BI}(v:VX Γ CL k W T X)(h:(match Nt as with|some a=>(match RO x with|some y=>decide (b=.rvs)&&A2 n T y a|none=>Ad)|none=>Ad)=Ab):OkE Γ CL W X x (.bi b as):=by
 simp[Nt]at h
theorem Yq(S:Snd Γ CL k n){x:Ao}{b:BI}(v:VX Γ CL k W T X)(h:(match M6 as with|some (a,c)=>(match RY x with|some (y,z,_)=>decide (b=.tlt) && !behindInMarks .Lt z&&A2 n T y a&&A2 n T z c|none=>Ad)|none=>Ad)=Ab):OkE Γ CL W X x (.bi b as):=by
 simp[M6]at h
theorem ZM{x:Ao}{b:BI}(v:VX Γ CL k W T X)(h:RV T x b as=Ab):OkE Γ CL W X x (.bi b as):=by
 exact absurd h Av
theorem Yu(S:Snd Γ CL k n){x:Ao}{b:BI}(v:VX Γ CL k W T X)(h:(match M8 as with|some (a,k)=>(match RK x with|some (y,j)=>decide (b=.stp)&&decide (j=k)&&decide (0<=k)&&A2 n T y a|none=>Ad)|none=>Ad)=Ab):OkE Γ CL W X x (.bi b as):=by
 simp[M8]at h
theorem aD(S:Snd Γ CL k n){x:Ao}{b:BI}(v:VX Γ CL k W T X)(h:(match JS as with|some (a,c)=>(match JX x with|some (g,h,y,z)=>decide (b=.list)&&g==("list" : Ah)&&h==("range" : Ah)&&isB T g&&isB T h&&DH y&&DH z&&A2 n T y a&&A2 n T z c|none=>Ad)|none=>Ad)=Ab):OkE Γ CL W X x (.bi b as):=by
 cases q1:JS as with
 |none=>rw[q1]at h;cases h
 |some t1=>
  obtain⟨a,c⟩:=t1;cases q2:JX x with
  |none=>rw[q1,q2]at h;cases h
  |some t2=>
   obtain⟨g,f,y,z⟩:=t2;rw[q1,q2]at h;simp only[Al,Bp,A7]at h;obtain⟨⟨⟨⟨⟨⟨⟨⟨rfl,rfl⟩,rfl⟩,h1⟩,h2⟩,h3⟩,h4⟩,h5⟩,h6⟩:=h;obtain⟨p,p',pos,pos',rfl⟩:=WX q2;have e:=VE q1;subst e;obtain⟨g1,g2,_,_⟩:=GZ v h1;obtain⟨g3,g4,_,_⟩:=GZ v h2;refine KM (SC.congr (YD (S.e W T X _ a v h5).st (S.e W T X _ c v h6).st v.calm g1 g2 g3 g4 (by rw[CZ h3,CZ h4];rfl) (by rw[CZ h4];rfl)) fun ρ=>?_) (fun _ _=>rfl) rfl
   simp only[Qs,evB,Vx,Vw,Va,R.bind_assoc,R.bind_ok,RF,aE]
theorem WW(S:Snd Γ CL k n){x:Ao}{b:BI}(v:VX Γ CL k W T X)(h:(match M9 as with|some a=>(match RE x with|some (g,h,y)=>decide (b=.lset)&&g==("len" : Ah)&&h==("set" : Ah)&&isB T g&&isB T h&&DH y&&A2 n T y a|none=>Ad)|none=>Ad)=Ab):OkE Γ CL W X x (.bi b as):=by
 simp[M9]at h
theorem bX(S:Snd Γ CL k n)(W:XW)(T:Tc)(X:Cx)(x:Ao)(c:E)(v:VX Γ CL k W T X)(h:A2 (n+1) T x c=Ab):OkE Γ CL W X x c:=by
 cases c with
 |non=>
  unfold A2 at h;dsimp only at h;split at h
  ·exact DT Yk (fun _ _=>rfl) rfl rfl
  ·cases h
 |bl b=>
  unfold A2 at h;dsimp only at h;split at h
  ·have e:=eq_of_beq h;subst e;exact DT bR (fun _ _=>rfl) rfl rfl
  ·cases h
 |int i=>
  unfold A2 at h;dsimp only at h;split at h
  ·have e:=Dg h;subst e;exact DT Ym (fun _ _=>rfl) rfl rfl
  ·cases h
 |str i=>
  unfold A2 at h;dsimp only at h;split at h
  ·have e:=Dg h;subst e;exact DT Yi (fun _ _=>rfl) rfl rfl
  ·cases h
 |var i=>
  unfold A2 at h;dsimp only at h;split at h
  ·exact⟨Yg (Gd v h),Yy (Gd v h),fun z=>(nomatch z),fun z=>(nomatch z)⟩
  ·cases h
 |glob g=>exact absurd (show Ad=Ab from h) Av
 |bin op a b=>
  unfold A2 at h;dsimp only at h;split at h
  ·simp only[Al,A7]at h;obtain⟨⟨rfl,h1⟩,h2⟩:=h;have ha:=(S.e W T X _ a v h1).st;have hb:=(S.e W T X _ b v h2).st;refine⟨Qb (O9 _) ha hb,(Qb (O9 _) ha hb).st,fun z=>?_,fun z=>nomatch z⟩
   rename_i op' _ _;cases op'<;>first|exact YF ha hb|cases z
  ·cases h
 |un op a=>exact absurd (show Ad=Ab from h) Av
 |no a=>
  unfold A2 at h;dsimp only at h;split at h
  ·exact DT (Yj (S.e W T X _ a v h).st) (fun _ _=>rfl) rfl rfl
  ·cases h
 |and es=>
  unfold A2 at h;dsimp only at h;split at h
  ·simp only[Al,Bv,Di]at h;exact DT ((S.es W T X _ es v h.1).2.2.2.1 _ h.2).1 (fun _ _=>rfl) rfl rfl
  ·cases h
 |or es=>
  unfold A2 at h;dsimp only at h;split at h
  ·simp only[Al,Bv,Di]at h;exact DT ((S.es W T X _ es v h.1).2.2.2.1 _ h.2).2 (fun _ _=>rfl) rfl rfl
  ·cases h
 |cmp op a b=>
  unfold A2 at h;dsimp only at h;split at h
  ·simp only[Al,Bv,A7]at h;obtain⟨⟨⟨rfl,h1⟩,h2⟩,h3⟩:=h;exact DT (Yo (Iq v.room.units _) (S.e W T X _ a v h2).st (S.e W T X _ b v h3).st h1) (fun _ _=>rfl) rfl rfl
  ·cases h
 |cmp2 op1 op2 a b c=>
  unfold A2 at h;dsimp only at h;split at h
  ·simp only[Al,Bv,A7]at h;obtain⟨⟨⟨⟨⟨rfl,rfl⟩,h1⟩,h2⟩,h3⟩,h4⟩:=h;exact DT (VN v.room.units (S.e W T X _ a v h2).st (S.e W T X _ b v h3).st (S.e W T X _ c v h4).st h1) (fun _ _=>rfl) rfl rfl
  ·cases h
 |ite c a b=>exact absurd (show Ad=Ab from h) Av
 |call f as=>
  unfold A2 at h;dsimp only at h;split at h
  ·rename_i g pp y ys qq;simp only[Al,Si,Bp,A7]at h;obtain⟨⟨⟨⟨⟨p,hp,⟨rfl,rfl⟩,hl⟩,h900⟩,h1⟩,h2⟩,h3⟩:=h;obtain⟨fa,fd,ps,m1,m2,m3,m4,m5,_⟩:=v.fn p hp;have hlt:p.2.2<1000:=by omega
   rw[Nat.mod_eq_of_lt hlt]at m4 m5;have m5:=m5 hlt;obtain⟨n2,n3,n4⟩:=Mh h2;obtain⟨a1,a2,a3,a4,a5⟩:=S.es W T X _ as v h3;obtain⟨s0,e,es',rfl,m,rfl,s1⟩:=Lj h3;have q:SC X CL W (Γ.fr p.2.1) (.Call (.Name p.1 pp) (y::ys) [] qq) (fun ρ=>evE Γ ρ (.call p.2.1 (.cons e es'))):=Wb (sh:=fun ρ=>Hm ρ (.cons e es')) m5 v.room (by unfold glB at h1;show X.env.scope.names.lookup p.1=_;rw[v.sc];exact eq_of_beq h1) m1 m2 m3 v.px a1 a2 (fun ρ z=>Qt Γ ρ _ z) (fun ρ ds z=>by rw[PQ Γ ρ _ _ z,<-a3,hl];rfl) n2 (CZ s0) (N9 m ys es' s1)
   exact⟨q.se,q.se.st,fun z=>by
    have z':Γ.fr p.2.1=Ab:=z;rw[z']at q;exact q,fun z=>nomatch z⟩
  ·cases h
 |bi b as=>
  unfold A2 at h;dsimp only at h;simp only[C5]at h;rcases h with (((((h|h)|h)|h)|h)|h)|h
  ·split at h
   ·simp only[Al,Bp]at h;obtain⟨⟨h1,h2⟩,h3⟩:=h;obtain⟨s0,e,es',rfl,m,rfl,s1⟩:=Lj h3;exact gR v h1 h2 (S.es W T X _ _ v h3).2.1 s0 (N9 m _ es' s1)
   ·cases h
  ·exact ZM v h
  ·exact aD S v h
  ·exact Yu S v h
  ·exact WW S v h
  ·exact Yq S v h
  ·exact Zs S v h
 |isi a ks=>
  cases ks with
  |nil=>exact absurd (show Ad=Ab from h) Av
  |cons k' ks=>
   cases ks with
   |cons=>exact absurd (show Ad=Ab from h) Av
   |nil=>
    unfold A2 at h;dsimp only at h;split at h
    ·simp only[Al,Bp]at h;obtain⟨⟨⟨⟨⟨rfl,h1⟩,h2⟩,h3⟩,h4⟩,h5⟩:=h;obtain⟨g1,g2,_,_⟩:=GZ v h1;obtain⟨b1,b2,b3,b4⟩:=GZ v h3;obtain⟨ty,t1,t2⟩:=gQ h2;exact DT (Yl t1 g1 g2 b1 b2 t2 b3 b4 (S.e W T X _ a v h5).st (CZ h4)) (fun _ _=>rfl) rfl rfl
    ·cases h
 |idx a i=>
  unfold A2 at h;dsimp only at h;split at h
  ·simp only[Al]at h;obtain⟨⟨h1,h2⟩,h3⟩:=h;exact DT (Yn (VM h1) (S.e W T X _ a v h2).st (S.e W T X _ i v h3).st) (fun _ _=>rfl) rfl rfl
  ·cases h
 |sl a lo hi=>
  unfold A2 at h;dsimp only at h;split at h
  ·simp only[Al]at h;obtain⟨⟨h1,h2⟩,h3⟩:=h;refine KM (SC.congr (cB (S.e W T X _ a v h1).st (S.o W T X _ lo v h2) (S.o W T X _ hi v h3)) fun ρ=>?_) (fun _ _=>rfl) rfl
   show ((top ρ a (evE Γ ρ a)).bind fun x=>(top ρ lo (evE Γ ρ lo)).bind fun l=>(slE lo l).bind fun l'=>(top ρ hi (evE Γ ρ hi)).bind fun h=>(slE hi h).bind fun h'=>slD x l' h')=_
   simp only[R.bind_assoc]
  ·cases h
 |tup es=>
  unfold A2 at h;dsimp only at h;split at h
  ·simp only[Al,A7]at h;have q:=S.es W T X _ es v h.1;exact DT (Yh q.1 fun ρ ds z=>by rw[Mn Γ ρ _ _ z,<-q.2.2.1];omega) (fun _ _=>rfl) rfl rfl
  ·cases h
 |lst es=>
  unfold A2 at h;dsimp only at h;split at h
  ·simp only[Al,A7]at h;have q:=S.es W T X _ es v h.1;exact KM (YC q.1 fun ρ ds z=>by rw[Mn Γ ρ _ _ z,<-q.2.2.1];omega) (fun _ _=>rfl) rfl
  ·cases h
 |comp elt t it c=>
  unfold A2 at h;dsimp only at h;split at h
  ·simp only[Al]at h;obtain⟨⟨⟨⟨⟨h1,h2⟩,h3⟩,h4⟩,h5⟩,h6⟩:=h;refine Q5 v.calm ⟨_,_,_,_,_,_,_,_,_,_,_,_,_,rfl,(MJ v h3).1,S.i W T X Ad _ _ it v rfl h1,WG t,fun cl C s H fp=>Wh (v.blk h3) (fun z=>Bp.mpr z) h4,fun cl C s H fp=>S.t _ _ _ c (v.blk h3) h5,fun cl C s H fp=>(S.e W0 _ _ _ elt (v.blk h3) h6).se,KB h2,fun ρ=>rfl⟩ (fun _ _=>rfl)
  ·cases h
 |compT elt ts it c=>
  unfold A2 at h;dsimp only at h;split at h
  ·simp only[Al]at h;obtain⟨⟨⟨⟨⟨⟨h0,h1⟩,h2⟩,h3⟩,h4⟩,h5⟩,h6⟩:=h;refine Q5 v.calm ⟨_,_,_,_,_,_,_,_,_,_,_,_,_,rfl,(MJ v h3).1,S.i W T X Ab _ _ it v rfl h1,ZS ts,fun cl C s H fp=>Wk (v.blk h3) h0 h4,fun cl C s H fp=>S.t _ _ _ c (v.blk h3) h5,fun cl C s H fp=>(S.e W0 _ _ _ elt (v.blk h3) h6).se,KB h2,fun ρ=>rfl⟩ (fun _ _=>rfl)
  ·cases h
 |tupI it=>exact absurd (show Ad=Ab from h) Av
 |dnew=>exact absurd (show Ad=Ab from h) Av
 |fld o f=>exact absurd (show Ad=Ab from h) Av
theorem snd:∀ n,Snd Γ CL k n
 |0=>VL
 |n+1=>⟨bX (snd n),bY (snd n),Yx (snd n),Yw (snd n),bV (snd n),bT (snd n),bW (snd n)⟩
end
section
variable{Γ:Gam}{CL:ClA}{W:XW}{k n:Ag}{T:Tc}{X:Cx}
theorem Wj{t:Ag}(v:VX Γ CL k W T X)(hf:∀ x,X.fn x=Ab)(h:tgC T [t] [x]=Ab):PG X (.Name x pos) (D7 t):=by
 unfold tgC at h;simp only[Al,Bp]at h;exact JE (by rw[v.N];exact v.nd) (by rw[v.N];exact h.1.1) (by rw[v.sc];exact Mj h.1.2) (.inl (hf x))
theorem Pj(v:VX Γ CL k W T X)(hf:∀ x,X.fn x=Ab):∀(ys:Ac Ao)(ts:Ac Ag)(zs:Ac Ah),D6 ys=Aa zs->tgC T ts zs=Ab->PGs X ys (ts.foldr (fun t u=>Gf (D7 t) u) Gk)/\ts.length=ys.length:=by
 intro ys
 induction ys with
 |nil=>
  intro ts zs e h;cases e;cases ts with
  |nil=>exact⟨Mf,rfl⟩
  |cons t ts=>cases h
 |cons y r ih=>
  intro ts zs e h;obtain⟨x,p,ws,rfl,e2,rfl⟩:=Lu e;cases ts with
  |nil=>cases h
  |cons t ts=>
   have h':(T.N[t]? == Aa x&&IR T x&&tgC T ts ws)=Ab:=h;simp only[Al,Bp]at h';obtain⟨h1,h2⟩:=ih ts ws e2 h'.2;exact⟨Kn (JE (by rw[v.N];exact v.nd) (by rw[v.N];exact h'.1.1) (by rw[v.sc];exact Mj h'.1.2) (.inl (hf x))) h1 (by rw[LD];rfl),congrArg (· + 1) h2⟩
theorem Wi(v:VX Γ CL k W T X)(hf:∀ x,X.fn x=Ab)(hn:(D6 ys).isSome=Ab)(h:tgC T ts (tgN ys)=Ab):PG X (.Tuple ys kk pos) (IT X.K ts.length (ts.foldr (fun t u=>Gf (D7 t) u) Gk)):=by
 cases e:D6 ys with
 |none=>rw[e]at hn;cases hn
 |some zs=>
  have e2:tgN ys=zs:=by unfold tgN;rw[e];rfl
  rw[e2]at h;obtain⟨h1,h2⟩:=Pj v hf ys ts zs e h;obtain⟨h3,h4,_⟩:=Ls (env:=X.env) ys zs e;exact KJ v.calm h1 (by rw[h3,h2]) h4
theorem Yr(v:VX Γ CL k W T X)(hf:∀ x,X.fn x=Ab)(hn:(D6 ys).isSome=Ab)(h:tgC T ts (tgN ys)=Ab):PG X (.Tuple ys kk pos) (gSq X.K ts.length (ts.foldr (fun t u=>Gf (D7 t) u) Gk)):=by
 cases e:D6 ys with
 |none=>rw[e]at hn;cases hn
 |some zs=>
  have e2:tgN ys=zs:=by unfold tgN;rw[e];rfl
  rw[e2]at h;obtain⟨h1,h2⟩:=Pj v hf ys ts zs e h;obtain⟨h3,h4,_⟩:=Ls (env:=X.env) ys zs e;exact cQ v.calm h1 (by rw[h3,h2]) h4
theorem YL{e:Ao}(h:(Q6 e||DD 4 ys.length)=Ab):Db [.Tuple ys kk pos] e env=pure Af:=by
 cases e with
 |Tuple vs a b=>
  have h4:=EJ (show DD 4 ys.length=Ab from h)
  have e2:(ys.length==2)=Ad:=by rw[CQ];omega
  have e3:(ys.length==3)=Ad:=by rw[CQ];omega
  unfold Db;dsimp only;rw[e2,e3];rfl
 |_=>rfl
theorem Ob(ts:Ac Ag):∀ d ρ x,E0 ts d ρ≠.exn x:=fun d ρ x h=>by
 unfold E0 at h;cases d with
 |tup xs=>
  dsimp only at h;cases e:DS ts xs ρ with
  |some r=>rw[e]at h;cases h
  |none=>rw[e]at h;cases h
 |_=>cases h
theorem Vf(ts:Ac Ag):∀ d ρ x,FH ts d ρ≠.exn x:=fun d ρ x h=>by
 unfold FH at h;split at h
 ·split at h<;>cases h
 ·exact Ob ts _ ρ x h
theorem VI{elt:Ao}{gs:Ac Comprehension}{pos':AU}:∃ b,DG (.ListComp elt gs scope pos) (Aa (.Name x pos')) l env=pure b/\(b=Ab->env.scope.names.lookup x=Aa .local):=by
 refine⟨_,rfl,fun h=>?_⟩
 simp only[Al,Bp]at h;exact h.1.1.2
theorem MG{v0:Ao}{i:Ag}{e:E}(v:VX Γ CL k W T X)(hf:∀ x,X.fn x=Ab)(hi:T.N[i]?=Aa x)(hl:IR T x=Ab)(o:OkE Γ CL W X v0 e)(hfr:fr=Ab->DC Γ e=Ab):SAs X CL W fr i (.Assign [.Name x p] v0 pos) (fun ρ=>evE Γ ρ e):=by
 have hN:X.N.Nodup:=by rw[v.N];exact v.nd
 have hi':X.N[i]?=Aa x:=by rw[v.N];exact hi
 have hx:Loc X.env.scope x:=by rw[v.sc];exact Mj hl
 have sc:SC X CL W fr v0 (fun ρ=>evE Γ ρ e):=by
  cases fr with
  |false=>exact o.se.sc
  |true=>exact o.nw (hfr rfl)
 cases hc:IB v0 with
 |true=>exact SC.sas hN hi' hx sc (PX hc) (.inl (hf x))
 |false=>
  obtain⟨tg,iter,elt,ifs,scope,pos2,N',ts,fi,fc,fe,as,g,rfl,B,h2,hGG,hg,ht,he,hs,ef⟩:=o.cp hc;obtain⟨b,hb,hb'⟩:=VI (elt:=elt) (gs:=[⟨tg,iter,ifs,0⟩]) (scope:=scope) (pos:=pos2) (pos':=p) (x:=x) (l:=pos.line) (env:=X.env);cases b with
  |false=>exact SC.sas hN hi' hx sc hb (.inl (hf x))
  |true=>
   have q:=VQ (pos2:=pos) v.calm B h2 hGG hg ht he hs hN hi' (hb' rfl) hb;have q':SAs X CL W Ab i (.Assign [.Name x p] (.ListComp elt [⟨tg,iter,ifs,0⟩] scope pos2) pos) (fun ρ=>evE Γ ρ e):=by
    have:(fun ρ=>evE Γ ρ e)=_:=funext ef
    rw[this];exact q
   cases fr with
   |true=>exact q'
   | false=>exact fun A=>PS.weak (q' A) fun D σ H ⟨hA,ρ,gd,z⟩=>⟨hA,ρ,gd,by
     dsimp only at z ⊢;cases e0:evE Γ ρ e with
     |ok d=>
      rw[e0]at z;exact fun v' H' s' r'=>z v' H' s' ⟨r'.1,fun _=>r'.2 rfl⟩
     |exn y=>rw[e0]at z;exact z
     | bad=>rw[e0]at z;exact z⟩
theorem Mc{e t:Ao}(h:∀ x p,t≠.Name x p):Ev [t] e l env=pure Ad:=by
 show DG e (Aa t) l env=pure Ad;cases e<;>first|rfl|(cases t<;>first|rfl|exact absurd rfl (h _ _))
theorem Uz{y x' z:Ah}{p1 p2 p3 p4 p5 p6 tp p' q1:AU}{kt q0:Ag}{o a o' a':Ao}:Db [.Tuple [.Subscript (.Name x p1) (.Name y p2) p3,.Subscript (.Name x' p4) (.Name z p5) p6] kt tp] (.Tuple [.Subscript o a p,.Subscript o' a' p'] q0 q1) env=pure Af:=by
 unfold Db;cases env.blockKind<;>rfl
theorem Oo(ρ:Rho)(e:E)(h:∀ i,e≠.var i):evS Γ ρ (.ret e)=O.of ρ (evE Γ ρ e) fun d=>.ret d (DC Γ e):=by
 cases e<;>first|exact absurd rfl (h _)|(simp only[evS,top,Bool.or_false])
structure DefX (X:Cx):Prop where
 fn:∀ x,X.fn x=Ab
 ex:X.ex=[]
 st:X.stack=X.env::X.outer
 fm:X.env.frame=Aa X.env.locals
structure SndS (Γ:Gam) (CL:ClA) (k:Ag) (n:Ag):Prop where
 s:∀(W:XW)(T:Tc)(X:Cx)(x:Bz)(c:S),VX Γ CL k W T X->DefX X->Ep n T x c=Ab->SS X CL W x (fun ρ=>evS Γ ρ c)
 ss:∀(W:XW)(T:Tc)(X:Cx)(x:Ac Bz)(c:Ss),VX Γ CL k W T X->DefX X->chkSs n T x c=Ab->SSs X CL W x (fun ρ=>evSs Γ ρ c)
theorem VX.pw(v:VX Γ CL k W T X){pI:Pn}{Xw:Vq}(own:EK (model X.prog X.w) X.A X.env Xw):VX Γ CL k W0 T (Cx.pw X pI Xw):=⟨v.sc,v.kd,v.N,v.nd,v.calm,v.room,v.bl,v.fn,own,Qd,RN,v.xt,v.gl⟩
theorem STB.congr{st:Ac Bz}{f g:Rho->O}(h:STB X CL st f)(e:∀ ρ,g ρ=f ρ):STB X CL st g:=by
 have:g=f:=funext e;rw[this];exact h
theorem bU(Z:SndS Γ CL k n)(W:XW)(T:Tc)(X:Cx)(st:Bz)(c:S)(v:VX Γ CL k W T X)(hf:DefX X)(h:Ep (n+1) T st c=Ab):SS X CL W st (fun ρ=>evS Γ ρ c):=by
  have E:=snd (Γ:=Γ) (CL:=CL) (k:=k) n;cases c with
  |pass=>exact absurd (show Ad=Ab from h) Av
  |brk=>exact absurd (show Ad=Ab from h) Av
  |cont=>exact absurd (show Ad=Ab from h) Av
  |asg i fresh e=>
    unfold Ep at h;dsimp only at h;split at h
    · simp only[Al,Bp]at h;obtain⟨⟨h1,h2⟩,h3⟩:=h;have o:=E.e W T X _ e v h3;cases fresh with
      |false=>exact P8 (MG (fr:=Ad) v hf.fn h1 h2 o (fun z=>nomatch z))
      |true=>
        cases hn:DC Γ e with
        |true=>
          refine SS.ref (Wz (MG (fr:=Ab) v hf.fn h1 h2 o (fun _=>hn))) fun ρ=>.inr ?_
          show O.of ρ (evE Γ ρ e) (fun d=>if Ab=Ab then (if DC Γ e=Ab then (match d with
            |.lst xs=>.next (ρ.set i (Aa (.lst xs,Ab)))
            |.dic xs=>.next (ρ.set i (Aa (.dic xs,Ab)))
            | _=>.bad) else .bad) else .next (ρ.set i (Aa (d,Ad))))=_
          rw[hn];rfl
        |false=>
          refine SS.ref (P8 (MG (fr:=Ad) v hf.fn h1 h2 o (fun z=>nomatch z))) fun ρ=>?_
          have e0:evS Γ ρ (.asg i Ab e)=O.of ρ (evE Γ ρ e) (fun d=>if Ab=Ab then (if DC Γ e=Ab then (match d with
            |.lst xs=>.next (ρ.set i (Aa (.lst xs,Ab)))
            |.dic xs=>.next (ρ.set i (Aa (.dic xs,Ab)))
            | _=>.bad) else .bad) else .next (ρ.set i (Aa (d,Ad)))):=rfl
          rw[e0,hn];cases evE Γ ρ e with
          |ok d=>exact .inl rfl
          |exn y=>exact .inr rfl
          |bad=>exact .inl rfl
    · cases h
  |asgT ts e=>
    unfold Ep at h;dsimp only at h;split at h
    · simp only[Al]at h;obtain⟨⟨⟨h1,h2⟩,h3⟩,h5⟩:=h;exact Wy (fL ts) (Yr v hf.fn h1 h2) (E.e W T X _ e v h5).se (Mc (fun _ _ z=>by cases z)) (YL h3) rfl (Vf ts)
    · cases h
  |expr e=>
    unfold Ep at h;dsimp only at h;split at h
    · simp only[Al]at h;exact Wx (E.e W T X _ e v h.2).se (PX h.1)
    · cases h
  |ret e=>
    unfold Ep at h;dsimp only at h;split at h
    · have o:=E.e W T X _ e v h;cases hv:DC Γ e with
      |true=>
        refine SS.ref (Ww (o.nw hv)) fun ρ=>.inr ?_
        rw[Oo ρ e (fun i z=>by subst z;cases hv),hv]
      |false=>
        cases e with
        |var i=>
          cases n with
          |zero=>exact absurd (show Ad=Ab from h) Av
          |succ n=>
            unfold A2 at h;dsimp only at h;split at h
            · exact Wu (Gd v h)
            · cases h
        |_=>
          refine SS.ref (Wv o.se) fun ρ=>.inr ?_
          rw[Oo ρ _ (by intro i z;cases z),hv]
    · cases h
  |retN=>exact absurd (show Ad=Ab from h) Av
  |ife c a b=>
    unfold Ep at h;dsimp only at h;split at h
    · simp only[Al]at h;exact bZ (E.b W T X _ c v h.1.1) (Z.ss W T X _ a v hf h.1.2) (Z.ss W T X _ b v hf h.2)
    · cases h
  |fors t it body=>
    unfold Ep at h;dsimp only at h;split at h
    · simp only[Al]at h;obtain⟨⟨⟨h1,h2⟩,h3⟩,h4⟩:=h;exact P7 v.own v.calm (WF t) (Wj v hf.fn h1) (E.i W T X Ad _ _ it v rfl h3) (Z.ss W T X _ body v hf h4) (KB h2) (fun _ _ _ z=>nomatch z)
    · cases h
  |forT ts it body=>
    unfold Ep at h;dsimp only at h;split at h
    · simp only[Al]at h;obtain⟨⟨⟨⟨h0,h1⟩,h2⟩,h3⟩,h4⟩:=h;exact P7 v.own v.calm (Qp ts) (Wi v hf.fn h0 h1) (E.i W T X Ab _ _ it v rfl h3) (Z.ss W T X _ body v hf h4) (KB h2) (Ob ts)
    · cases h
  |whl c body=>exact absurd (show Ad=Ab from h) Av
  |rais c as=>
    unfold Ep at h;dsimp only at h;cases hc:T.rzs.any (fun p=>p.2==c) with
    |false=>
      have hb:∀ ds,Γ.xn c ds=.bad:=v.xt.xb c fun p hp z=>by
        have:T.rzs.any (fun p=>p.2==c)=Ab:=List.any_eq_true.mpr ⟨p,hp,Bp.mpr z⟩
        rw[hc]at this;cases this
      intro Fz B pI s σ H D I ⟨ρ,x,p⟩;have p':B0 X.K CL Fz B W (O.of ρ (noX (evA Γ ρ as)) fun xs=>O.of ρ (Γ.xn c xs) fun x=>.exn x ρ) D:=p
      cases e1:evA Γ ρ as with
      |bad=>rw[e1]at p';exact p'.elim
      |exn y=>rw[e1]at p';exact p'.elim
      |ok ds=>
        rw[e1]at p';have p2:B0 X.K CL Fz B W (O.of ρ (Γ.xn c ds) fun x=>.exn x ρ) D:=p'
        rw[hb ds]at p2;exact p2.elim
    |true=>rw[hc]at h;cases h
  |app i e=>
    unfold Ep at h;dsimp only at h;split at h
    · simp only[Al,Bp]at h;obtain⟨⟨⟨⟨rfl,h1⟩,h2⟩,h3⟩,h4⟩:=h;exact YB (Gd v h1) (E.e W T X _ e v h4).se rfl (by rw[CZ h3];rfl) (by rw[h2];exact C0 _) (CZ h3) rfl
    · cases h
  |ext i e=>exact absurd (show Ad=Ab from h) Av
  |rev i=>exact absurd (show Ad=Ab from h) Av
  |clr i=>exact absurd (show Ad=Ab from h) Av
  |put i k e=>
    unfold Ep at h;dsimp only at h;split at h
    · simp only[Al]at h;obtain⟨⟨⟨h1,h2⟩,h4⟩,h5⟩:=h;rename_i x p y sp v0 pos;exact YA (Gd v h1) (E.e W T X _ k v h4).st (E.e W T X _ e v h5).se (fun w=>by cases y<;>first|rfl|cases h2) (Mc (fun _ _ z=>by cases z)) rfl rfl
    · cases h
  |tryx body c x hh=>exact absurd (show Ad=Ab from h) Av
  |swp i k l=>
    unfold Ep at h;dsimp only at h;cases q:Ni st with
    |none=>rw[q]at h;cases h
    |some t=>
      obtain⟨x1,y1,x2,z1,v0⟩:=t;rw[q]at h;simp only[Al]at h;obtain⟨⟨⟨⟨h1,h2⟩,h3⟩,h4⟩,h5⟩:=h;obtain⟨p1,p2,p3,p4,p5,p6,kt,tp,o,a,p,o',a',p',q0,q1,pos,rfl,rfl⟩:=Wo q;exact Yz v.calm (Gd v h1) (Gd v h2) (Gd v h3) (Gd v h4) (E.e W T X _ _ v h5).se (fun _=>rfl) (fun _=>rfl) (Mc (fun _ _ z=>by cases z)) Uz
  |apop j i e=>
    unfold Ep at h;dsimp only at h;split at h
    · rename_i x p m ap w cp pos;simp only[Al,Bp]at h;obtain⟨⟨⟨rfl,h1⟩,h2⟩,h3⟩:=h;cases q:KY w with
      |none=>rw[q]at h3;cases h3
      |some t=>
        obtain⟨y,u⟩:=t;rw[q]at h3;simp only[Al]at h3;obtain⟨h3,h4⟩:=h3;obtain⟨p',ap',cp',rfl,h5,h6⟩:=Xo q;exact WA (Gd v h1) (Gd v h3) (E.e W T X _ e v h4).se rfl rfl (by rw[h2];exact C0 _) (by rw[h5];exact C0 _) (CZ h6)
    · cases h
  |ins=>exact absurd (show Ad=Ab from h) Av
  |dput=>exact absurd (show Ad=Ab from h) Av
  |dsd=>exact absurd (show Ad=Ab from h) Av
  |rel=>exact absurd (show Ad=Ab from h) Av
theorem Yv(Z:SndS Γ CL k n)(W:XW)(T:Tc)(X:Cx)(xs:Ac Bz)(c:Ss)(v:VX Γ CL k W T X)(hf:DefX X)(h:chkSs (n+1) T xs c=Ab):SSs X CL W xs (fun ρ=>evSs Γ ρ c):=by
 cases c with
 |nil=>
  simp only[chkSs,F0]at h;subst h;exact Wt
 |cons s ss=>
  by_cases hr:∃ i,s=.rel i
  ·obtain⟨i,rfl⟩:=hr;simp only[chkSs]at h;exact Ws i (Z.ss W T X xs ss v hf h)
  ·cases xs with
   |nil=>cases s<;>first|(simp[chkSs]at h;done)|exact absurd ⟨_,rfl⟩ hr
   |cons st r=>
    have h':Ep n T st s=Ab/\chkSs n T r ss=Ab:=by
     cases s<;>first|(simp only[chkSs,Al]at h;exact h)|exact absurd ⟨_,rfl⟩ hr
    exact VJ (Z.s W T X st s v hf h'.1) (Z.ss W T X r ss v hf h'.2)
theorem Ng:∀ n,SndS Γ CL k n
 |0=>⟨fun _ _ _ _ _ _ _ h=>absurd (show Ad=Ab from h) Av,fun _ _ _ _ _ _ _ h=>absurd (show Ad=Ab from h) Av⟩
 |n+1=>⟨bU (Ng n),Yv (Ng n)⟩
end
theorem Jr{n:Ag}{ds:Ac D}{i:Ag}{d:D}{o:An}(h:(Bw n ds)[i]?=Aa (Aa (d,o))):o=Ad/\ds[i]?=Aa d:=by
 unfold Bw at h;by_cases hi:i<ds.length
 ·rw[Ea (by simpa using hi),Cr]at h
  cases e:ds[i]? with
  |none=>rw[e]at h;cases h
  |some x=>rw[e]at h;cases h;exact⟨rfl,rfl⟩
 ·rw[Sv (by simpa using Nat.le_of_not_lt hi),Sz]at h
  split at h<;>cases h
theorem UZ{N:Ac Ah}{i:Ag}{v:V}(h:vs[i]?=Aa v):(L2.start N vs)[i]?=Aa (Aa v):=by
 unfold L2.start;have hi:=(AE.mp h).1;rw[Ea (by simpa using hi),Cr,h]
 rfl
theorem VH{K:Fg}{A:Ak->Prop}{N:Ac Ah}{n:Ag}{ds:Ac D}(hn:N.length=n)(hA:AOk H A)(r:Reps K CL H A vs ds):Sx K CL (fun b o=>H b=Aa o) A (Bw n ds) (L2.start N vs) H:=by
 have own:∀ a,B6 A (Bw n ds) (L2.start N vs) a->A a:=fun a h=>by
  rcases h with h|⟨j,d,h,_⟩
  ·exact h
  ·exact absurd (Jr h).1 (by decide)
 have hlen:(Bw n ds).length=(L2.start N vs).length:=by
  unfold Bw L2.start;simp only[B1,BE,SG,r.length,hn]
 refine⟨⟨fun i d h=>?_,fun i d h=>absurd (Jr h).1 (by decide),hlen⟩,fun a h=>hA a (own a h),fun j d a h _=>absurd (Jr h).1 (by decide),fun i j d e a h _ _ _=>absurd (Jr h).1 (by decide),fun b o h=>h,hlen⟩
 obtain⟨v,h1,h2⟩:=r.get (Jr h).2;exact⟨v,UZ h1,Rep.sub own _ h2⟩
def IV(K:Fg)(mg:Ah->Aq Aj)(fns:Ac (Ah×Ag×Ag))(bl:Ac Ah)(rzs exs gls:Ac (Ah×Ag))(Pg:Prg)(fuel:Ag)(p:Ah×Ag×Ag):Prop:=∃ f fd ps qual st N,mg p.1=Aa (.ref f)/\Fun K p.1 qual st f fd/\GA K fd ps []/\ps.length=p.2.2%1000/\Gj fuel (DD 1000 p.2.2) fns bl rzs exs gls ps N st (Pg.defs p.2.1)=Ab
structure Tab (K:Fg) (mg:Ah->Aq Aj) (CL:ClA) (fns:Ac (Ah×Ag×Ag)) (bl:Ac Ah) (rzs exs gls:Ac (Ah×Ag)) (Pg:Prg) (fuel:Ag):Prop where
 xt:XT Pg.up Pg.xn CL rzs exs K mg
 bln:∀ x,x∈bl->mg x=Af
 gl:∀ p∈gls,Np K mg CL p.1 (Pg.G p.2)
 fn:∀ p∈fns,IV K mg fns bl rzs exs gls Pg fuel p
theorem ZV(Pg:Prg)(n i:Ag):(gam Pg n).fr i=(Pg.defs i).fr:=by cases n<;>rfl
theorem ZU(Pg:Prg)(n:Ag):(gam Pg n).up=Pg.up:=by cases n<;>rfl
theorem fM(Pg:Prg)(n:Ag):(gam Pg n).G=Pg.G:=by cases n<;>rfl
theorem ZT(Pg:Prg)(n:Ag):(gam Pg n).xn=Pg.xn:=by cases n<;>rfl
section
variable{P:AS}{w:AY}{K:Fg}{mg:Ah->Aq Aj}{base:AK}{CL:ClA}{fns:Ac (Ah×Ag×Ag)}{bl:Ac Ah}{rzs exs gls:Ac (Ah×Ag)}{Pg:Prg}{fuel:Ag}
def Lvl(P:AS)(w:AY)(K:Fg)(mg:Ah->Aq Aj)(base:AK)(CL:ClA)(Pg:Prg)(n:Ag)(p:Ah×Ag×Ag):Prop:=∃ f fd ps,mg p.1=Aa (.ref f)/\CW K (.ref f)=Ab/\GA K fd ps []/\ps.length=p.2.2%1000/\(p.2.2<1000->FnOk P w K mg base (CXR P w) n f fd ps (spD K CL (p.2.2%1000) ((gam Pg n).fr p.2.1) ((gam Pg n).F p.2.1)))/\(1000<=p.2.2->HotOk P w K mg base n f fd ps (spH K CL (p.2.2%1000) ((gam Pg n).fr p.2.1) ((gam Pg n).F p.2.1)))
theorem Qv(t:Tab K mg CL fns bl rzs exs gls Pg fuel){n:Ag}(hlv:∀ q∈fns,Lvl P w K mg base CL Pg n q){qual:Ah}{st:Bz}{ps N:Ac Ah}{m id:Ag}(h2:Fun K x qual st f fd)(h4:ps.length=m)(h5:Gj fuel Ad fns bl rzs exs gls ps N st (Pg.defs id)=Ab):FnOk P w K mg base (CXR P w) (n+1) f fd ps (spD K CL m ((gam Pg (n+1)).fr id) ((gam Pg (n+1)).F id)):=by
  unfold Gj at h5;simp only[Al,Bp,Bv,DP,C5,G7,ne_eq]at h5;obtain⟨⟨⟨⟨⟨⟨⟨⟨c1,c2⟩,c3⟩,c4⟩,c5⟩,c6⟩,c7⟩,c8⟩,c9⟩:=h5;obtain⟨oc,od,kV,doc,pm,an,cdv,ct,osl,rfl,lk,hcd⟩:=h2.ex;refine Q2 (N:=N) lk hcd ⟨c1,c2,c3,Kd c4,c5,c6,c7⟩ (fun vs H Q E ⟨ds,A,z,_⟩=>z.trans h4.symm) fun A outer s H vs Q E hr ⟨ds,B,hl,hA,hreps,hpost⟩=>?_
  have xt:XT (gam Pg n).up (gam Pg n).xn CL rzs exs K mg:=by rw[ZU,ZT];exact t.xt
  have gl:∀ p∈gls,Np K mg CL p.1 ((gam Pg n).G p.2):=by rw[fM];exact t.gl
  have key:∀ W:XW,(∀ x cls H',W x H'->(∃ C,CL x.c=Aa C/\cls=.ref C)->E cls Af H')->B0 K CL (fun b o=>H b=Aa o) B W (evSs (gam Pg n) (Bw (Pg.defs id).n ds) (Pg.defs id).body) {nx:=fun _ H'=>Q .non H',rt:=Q} ->
      ∃ t,PSs (Fh (CXR P w) P w K mg base N qual (Fe st) f cdv A outer s H E) (Gw st) t/\t {nx:=fun _ H'=>Q .non H',rt:=Q} (start N vs) H:=fun W hW hp=>by
    have v:VX (gam Pg n) CL n W ⟨Fe st,N,fns,bl,rzs,exs,gls⟩ (Fh (CXR P w) P w K mg base N qual (Fe st) f cdv A outer s H E):=⟨rfl,c1,rfl,Kd c4,rfl,hr,t.bln,hlv,ownR,cX hW,rzR hW,xt,gl⟩;exact⟨_,(Ng fuel).ss W _ _ _ (Pg.defs id).body v ⟨fun _=>rfl,rfl,rfl,rfl⟩ c9 (fun b o=>H b=Aa o) B,_,VH c8 hA hreps,hp⟩
  have no:∀ x cls H',W0 x H'->(∃ C,CL x.c=Aa C/\cls=.ref C)->E cls Af H':=fun _ _ _ z=>z.elim
  have e:(gam Pg (n+1)).F id ds=En Pg.xs ((evSs (gam Pg n) (Bw (Pg.defs id).n ds) (Pg.defs id).body).ans (Pg.defs id).fr):=rfl;rw[e,ZV]at hpost;have cutO:∀ r:R D,(∀ x,r≠.exn x)->En Pg.xs r=r:=fun r hr=>by
    cases Pg.xs<;>cases r<;>first|rfl|exact absurd rfl (hr _)
  cases eo:evSs (gam Pg n) (Bw (Pg.defs id).n ds) (Pg.defs id).body with
  |next ρ'=>
    refine key W0 no ?_;rw[eo]at hpost ⊢;cases ef:(Pg.defs id).fr with
    |true=>rw[ef]at hpost;rw[cutO _ (by intro x z;cases z)]at hpost;exact hpost.elim
    |false=>
      rw[ef]at hpost;rw[cutO _ (by intro x z;cases z)]at hpost
      exact fun σ' H' x'=>hpost .non H' (fun b o z=>x'.same b o z) ⟨rfl,fun z=>nomatch z⟩
  |ret d b=>
    refine key W0 no ?_;rw[eo]at hpost ⊢;intro v H' sm rp fr;have hp2:(match En Pg.xs (if ((Pg.defs id).fr&&(!b&&isL d))=Ab then R.bad else R.ok d) with
      |.ok d=>∀ v H',AC H H'->Dv K CL (Pg.defs id).fr H B H' v d->Q v H'
      |.exn x=>∀ cls dx H',AC H H'->JY K CL H' B cls dx x->E cls dx H'
      | .bad=>Bb):=hpost
    cases ec:((Pg.defs id).fr&&(!b&&isL d)) with
    |true=>rw[ec,AB rfl,cutO _ (by intro x z;cases z)]at hp2;exact hp2.elim
    |false=>
      rw[ec,AM (by decide),cutO _ (by intro x z;cases z)]at hp2
      refine hp2 v H' sm ⟨rp,fun efr es hd=>?_⟩
      subst hd;have eb:b=Ab:=by
        cases b with
        |true=>rfl
        |false=>rw[efr]at ec;cases ec
      obtain⟨a,xs,h1,h2,h3,h4⟩:=fr eb es rfl;refine⟨a,xs,h1,?_,h3,h4⟩;cases ha:H a with
      |none=>rfl
      |some o=>exact absurd ha (h2 o)
  |brk ρ'=>rw[eo]at hpost;have hp2:(match En Pg.xs (R.bad:R D) with | .ok _=>_ | .exn _=>_ | .bad=>Bb):=hpost;rw[cutO _ (by intro x z;cases z)]at hp2;exact hp2.elim
  |cont ρ'=>rw[eo]at hpost;have hp2:(match En Pg.xs (R.bad:R D) with | .ok _=>_ | .exn _=>_ | .bad=>Bb):=hpost;rw[cutO _ (by intro x z;cases z)]at hp2;exact hp2.elim
  |bad=>rw[eo]at hpost;have hp2:(match En Pg.xs (R.bad:R D) with | .ok _=>_ | .exn _=>_ | .bad=>Bb):=hpost;rw[cutO _ (by intro x z;cases z)]at hp2;exact hp2.elim
  |exn x ρ'=>
    rw[eo]at hpost;have hp2:(match En Pg.xs (R.exn x:R D) with
      |.ok d=>∀ v H',AC H H'->Dv K CL (Pg.defs id).fr H B H' v d->Q v H'
      |.exn x=>∀ cls dx H',AC H H'->JY K CL H' B cls dx x->E cls dx H'
      | .bad=>Bb):=hpost
    cases ex:Pg.xs with
    |false=>rw[ex]at hp2;exact hp2.elim
    |true=>
      rw[ex]at hp2;have hp3:(match (if x.fs.isEmpty=Ab then (R.exn x:R D) else .bad) with
        |.ok d=>∀ v H',AC H H'->Dv K CL (Pg.defs id).fr H B H' v d->Q v H'
        |.exn x=>∀ cls dx H',AC H H'->JY K CL H' B cls dx x->E cls dx H'
        | .bad=>Bb):=hp2
      by_cases hfs:x.fs.isEmpty=Ab
      · rw[AB hfs]at hp3;refine key (fun y H'=>y=x/\AC H H') (fun y cls H' ⟨e1,sm⟩ ⟨C,d1,d2⟩=>?_) ?_
        · subst e1;exact hp3 cls Af H' sm ⟨C,d1,d2,.inl (List.isEmpty_iff.mp hfs)⟩
        · rw[eo];exact fun H' sm=>⟨rfl,sm⟩
      · rw[AM hfs]at hp3;exact hp3.elim
theorem ZR(t:Tab K mg CL fns bl rzs exs gls Pg fuel){n:Ag}(hlv:∀ q∈fns,Lvl P w K mg base CL Pg n q){qual:Ah}{st:Bz}{ps N:Ac Ah}{m id:Ag}(h2:Fun K x qual st f fd)(h4:ps.length=m)(h5:Gj fuel Ab fns bl rzs exs gls ps N st (Pg.defs id)=Ab):HotOk P w K mg base (n+1) f fd ps (spH K CL m ((gam Pg (n+1)).fr id) ((gam Pg (n+1)).F id)):=by
 exfalso
 unfold Gj at h5;simp[Ro]at h5
theorem ME(t:Tab K mg CL fns bl rzs exs gls Pg fuel):∀ n,∀ p∈fns,Lvl P w K mg base CL Pg n p
 |0,p,hp=>by
  obtain⟨f,fd,ps,qual,st,N,h1,h2,h3,h4,h5⟩:=t.fn p hp;exact⟨f,fd,ps,h1,h2.kp,h3,h4,fun _=>⟨fun vs H Q E ⟨ds,A,_,_,_,z⟩=>z.elim,fun A outer s H args us vs Q E _ _ _ _ ⟨ds,A,_,_,_,z⟩=>z.elim⟩,fun _=>⟨fun vs H Q E ⟨ds,A,_,_,_,z⟩=>z.elim,fun A ev outer s H args us vs Q E _ _ _ _ ⟨ds,A,_,_,_,z⟩=>z.elim⟩⟩
 |n+1,p,hp=>by
  obtain⟨f,fd,ps,qual,st,N,h1,h2,h3,h4,h5⟩:=t.fn p hp;refine⟨f,fd,ps,h1,h2.kp,h3,h4,fun hlt=>?_,fun hge=>?_⟩
  ·have eb:DD 1000 p.2.2=Ad:=by
    cases e:DD 1000 p.2.2 with
    |false=>rfl
    |true=>exact absurd (EJ e) (by omega)
   rw[eb]at h5;exact Qv t (fun q hq=>ME t n q hq) h2 h4 h5
  ·rw[Nat.ble_eq_true_of_le hge]at h5;exact ZR t (fun q hq=>ME t n q hq) h2 h4 h5
theorem ZI{s s':Ap}{e:Aj}(h:CXR P w [] H s (fun _ _ _=>Bb) e s'):Bb:=by
 obtain⟨_,_,_,_,_,_,_,_,_,_,_,_,_,_,z⟩:=h;exact z
theorem Wd{up:Ag->Ac Ag}{xn:Ag->Ac D->R Ex}(h:∀ c ds,xn c ds=.bad):XT up xn (fun _=>Af) [] [] K mg:=⟨fun _ _ z=>(nomatch z),fun _ z=>(nomatch z),fun _ z=>(nomatch z),fun c ds=>.inl (h c ds),fun c _ ds=>h c ds⟩
def JN(K:Fg):Sp:=fun vs H Q _=>∃(a:Ak)(ns:Ac Ae),vs=[.ref a]/\ns.length<=63/\SqL K H a (ns.map V.int)/\∀ v H',v=V.bl Ab->Q v H'
theorem law_fn(G:FnOk P w K mg base CX k f fd ps (spD K CL 1 Ad F))(h:∀ ns:Ac Ae,F [.lst (ns.map .int)]=.ok (.bl Ab)):FnOk P w K mg base CX k f fd ps (JN K):=G.imp fun vs H Q E ⟨a,ns,e,hl,hS,q⟩=>by
 subst e;have rs:∀ l:Ac Ae,Reps K CL H A0 (l.map V.int) (l.map D.int):=fun l=>by
  induction l with
  |nil=>trivial
  |cons x l ih=>exact⟨rfl,ih⟩
 refine⟨[.lst (ns.map .int)],A0,rfl,fun _ z=>z.elim,⟨⟨a,_,rfl,.inl (fun z=>z),hS,rs ns⟩,trivial⟩,?_⟩
 rw[h ns];exact fun v H' _ r=>q v H' r.1
theorem W2(G:FnOk P w K mg base CX k f fd ps (spD K CL 1 Ad F))(h:∀ ns:Ac Ae,ns.length<=63->F [.lst (ns.map .int)]=.ok (.bl Ab)):FnOk P w K mg base CX k f fd ps (JN K):=G.imp fun vs H Q E ⟨a,ns,e,hl,hS,q⟩=>by
 subst e;have rs:∀ l:Ac Ae,Reps K CL H A0 (l.map V.int) (l.map D.int):=fun l=>by
  induction l with
  |nil=>trivial
  |cons x l ih=>exact⟨rfl,ih⟩
 refine⟨[.lst (ns.map .int)],A0,rfl,fun _ z=>z.elim,⟨⟨a,_,rfl,.inl (fun z=>z),hS,rs ns⟩,trivial⟩,?_⟩
 rw[h ns hl];exact fun v H' _ r=>q v H' r.1
theorem Mr{Q:α->Prop}:∀ x∈([]:Ac α),Q x:=fun _ h=>nomatch h
theorem all_cons{Q:α->Prop}{a:α}{l:Ac α}(h1:Q a)(h2:∀ x∈l,Q x):∀ x∈a::l,Q x:=List.forall_mem_cons.2 ⟨h1,h2⟩
def FnI(K:Fg)(f:Ak)(n:Ah)(st:Bz):Prop:=∃ fd,Fun K n n st f fd/\BX K A1 n=Aa (Aa (.ref f))
theorem fni{st:Bz}{oc:Aj}{od an:Aq Ak}{osl:Bi (Aq Aj)}{kV doc pm cdv ct:Aj}(a:BX K A1 n=Aa (Aa (.ref f)))(l:K.lookup f=Aa ⟨oc,od,.func (Dr n n (Ip st) (Gw st) (Fe st) .none kV doc pm an cdv ct),osl⟩)(c:Fa K cdv n=Ab)(k:CW K (.ref f)=Ab):FnI K f n st:=⟨_,ZW l c k,a⟩
def Bd(n:Ah)(st:Bz)(ps:Ac Ah)(us:Ac Aj):Prop:=∀(kV doc pm:Aj)(an:Aq Ak)(cdv ct:Aj),Jd (Dr n n (Ip st) (Gw st) (Fe st) .none kV doc pm an cdv ct) ⟨us,[]⟩=pure (ps.zip us)
theorem KH{st:Bz}{ps N:Ac Ah}(m id:Ag)(X:K.In h)(G:h.Ns A1 mg)(A:FnI K f n st)(hl:ps.length=m%1000)(hc:Gj fuel (DD 1000 m) fns bl rzs exs gls ps N st (Pg.defs id)=Ab)(hb:∀ us:Ac Aj,us.length=ps.length->Bd n st ps us):IV K mg fns bl rzs exs gls Pg fuel (n,id,m):=by
 obtain⟨fd,F,a⟩:=A;exact⟨_,_,_,_,_,_,G8 X G a,F,F.binds fun kV doc pm an cdv ct us hu=>hb us hu kV doc pm an cdv ct,hl,hc⟩
theorem Nl{st:Bz}{N:Ac Ah}(m id:Ag)(X:K.In h)(G:h.Ns A1 mg)(A:FnI K f n st)(hl:1=m%1000)(hc:Gj fuel (DD 1000 m) fns bl rzs exs gls [x0] N st (Pg.defs id)=Ab)(hb:∀ u0,Bd n st [x0] [u0]):IV K mg fns bl rzs exs gls Pg fuel (n,id,m):=
 KH (ps:=[x0]) m id X G A hl hc fun us hu=>match us,hu with | [u0],_=>hb u0
theorem D8{st:Bz}{N:Ac Ah}(m id:Ag)(X:K.In h)(G:h.Ns A1 mg)(A:FnI K f n st)(hl:2=m%1000)(hc:Gj fuel (DD 1000 m) fns bl rzs exs gls [x0,x1] N st (Pg.defs id)=Ab)(hb:∀ u0 u1,Bd n st [x0,x1] [u0,u1]):IV K mg fns bl rzs exs gls Pg fuel (n,id,m):=
 KH (ps:=[x0,x1]) m id X G A hl hc fun us hu=>match us,hu with | [u0,u1],_=>hb u0 u1
theorem G5{st:Bz}{N:Ac Ah}{x2:Ah}(m id:Ag)(X:K.In h)(G:h.Ns A1 mg)(A:FnI K f n st)(hl:3=m%1000)(hc:Gj fuel (DD 1000 m) fns bl rzs exs gls [x0,x1,x2] N st (Pg.defs id)=Ab)(hb:∀ u0 u1 u2,Bd n st [x0,x1,x2] [u0,u1,u2]):IV K mg fns bl rzs exs gls Pg fuel (n,id,m):=
 KH (ps:=[x0,x1,x2]) m id X G A hl hc fun us hu=>match us,hu with | [u0,u1,u2],_=>hb u0 u1 u2
theorem Nk{st:Bz}{N:Ac Ah}{x2 x3:Ah}(m id:Ag)(X:K.In h)(G:h.Ns A1 mg)(A:FnI K f n st)(hl:4=m%1000)(hc:Gj fuel (DD 1000 m) fns bl rzs exs gls [x0,x1,x2,x3] N st (Pg.defs id)=Ab)(hb:∀ u0 u1 u2 u3,Bd n st [x0,x1,x2,x3] [u0,u1,u2,u3]):IV K mg fns bl rzs exs gls Pg fuel (n,id,m):=
 KH (ps:=[x0,x1,x2,x3]) m id X G A hl hc fun us hu=>match us,hu with | [u0,u1,u2,u3],_=>hb u0 u1 u2 u3
end
end Ov
namespace OvC
open PySem Ov
variable{p t k v i j lo d:Ae}{xs ns:Ac Ae}{m n i' w:Ag}{Γ:Gam}{L RL as:Ac D}{α:Type}{PP:D}{s2 s3 s s1 s5 s8:Sl}
noncomputable def LI:Df:=⟨4,Ad,(.cons (.ret (.call 1 (.cons (.var 0) (.cons (.bin .Add (.bin .Sub (.bin .Mult (.idx (.var 1) (.int 0)) (.bin .Sub (.bin .Mult (.idx (.var 2) (.int 1)) (.idx (.var 3) (.int 2))) (.bin .Mult (.idx (.var 2) (.int 2)) (.idx (.var 3) (.int 1))))) (.bin .Mult (.idx (.var 1) (.int 1)) (.bin .Sub (.bin .Mult (.idx (.var 2) (.int 0)) (.idx (.var 3) (.int 2))) (.bin .Mult (.idx (.var 2) (.int 2)) (.idx (.var 3) (.int 0)))))) (.bin .Mult (.idx (.var 1) (.int 2)) (.bin .Sub (.bin .Mult (.idx (.var 2) (.int 0)) (.idx (.var 3) (.int 1))) (.bin .Mult (.idx (.var 2) (.int 1)) (.idx (.var 3) (.int 0)))))) .nil)))) .nil)⟩
noncomputable abbrev tr(a b c:Ae):D:=.tup [.int a,.int b,.int c]
noncomputable def det(a0 a1 a2 b0 b1 b2 c0 c1 c2:Ae):Ae:=a0*(b1*c2-b2*c1)-a1*(b0*c2-b2*c0)+a2*(b0*c1-b1*c0)
def Sm(x:Ae):Prop:=0<=x/\x<11
theorem Sm.of(h:P4 p)(x:Ae):Sm (x%p):=⟨A8 _ (by have:=h.pos;omega),by have:=A5 x h.pos;have:=h.hi;omega⟩
theorem N6{body:D->Rho->O}(I:Rho->Prop)(g:Ae->An):∀(L:Ac Ae),(∀ t∈L,∀ ρ,I ρ->(g t=Ab/\body (.int t) ρ=.ret (.int t) Ad)\/(g t=Ad/\∃ ρ',body (.int t) ρ=.next ρ'/\I ρ'))->∀ ρ,I ρ->(∃ t∈L,g t=Ab/\Ci body (L.map D.int) ρ=.ret (.int t) Ad)\/((∀ t∈L,g t=Ad)/\∃ ρ',Ci body (L.map D.int) ρ=.next ρ'/\I ρ')
 |[],_,ρ,i=>.inr ⟨(fun _ h=>nomatch h),ρ,rfl,i⟩
 |m::L,h,ρ,i=>by
  rcases h m (Aw ..) ρ i with ⟨e1,e2⟩|⟨e1,ρ',e2,i'⟩
  ·refine .inl ⟨m,Aw ..,e1,?_⟩;show (body (.int m) ρ).turn _=_;rw[e2];rfl
  ·rcases N6 I g L (fun m' h'=>h m' (At _ h')) ρ' i' with ⟨t,ht,a,b⟩|⟨a,r,b,c⟩
   ·refine .inl ⟨t,At _ ht,a,?_⟩;show (body (.int m) ρ).turn _=_;rw[e2];exact b
   ·refine .inr ⟨fun t ht=>?_,r,?_,c⟩
    ·rcases As.mp ht with rfl|ht
     ·exact e1
     ·exact a t ht
    ·show (body (.int m) ρ).turn _=_;rw[e2];exact b
noncomputable def Ih:Ss:=(.cons (.ife (.cmp .Eq (.call 1 (.cons (.var 0) (.cons (.bin .Mult (.var 1) (.var 2)) .nil))) (.int 1)) (.cons (.ret (.var 2)) .nil) .nil) .nil)
noncomputable def Kc:Df:=⟨3,Ad,(.cons (.fors 2 (.rng2 (.int 1) (.var 0)) Ih) (.cons (.rais 2 (.cons (.str (AQ "a number with the rest 0 is not turned over")) .nil)) .nil))⟩
noncomputable def E1(p:Ae):Ac Ae:=(Co (p-1).toNat).map fun(k:Ag)=>1+(k:Ae)
theorem Ix:t∈E1 p↔1<=t/\t<p:=by
 unfold E1;rw[List.mem_map];constructor
 ·rintro⟨k,hk,rfl⟩;have:=CU.mp hk;omega
 ·rintro⟨h1,h2⟩;exact⟨(t-1).toNat,CU.mpr (by omega),by omega⟩
theorem ON(h:P4 p):B5 1 p=.ok ((E1 p).map D.int):=by
 rcases h with rfl|rfl|rfl|rfl<;>rfl
theorem WD:∀ p:Fin 12,(p.val=3\/p.val=5\/p.val=7\/p.val=11)->∀ r:Fin 12,r.val<p.val->r.val≠0->∃ t:Fin 12,1<=t.val/\t.val<p.val/\r.val*t.val%p.val=1:=by decide +kernel
theorem ID{n:Ae}(h:P4 p)(hn:n%p≠0):∃ t,1<=t/\t<p/\n*t%p=1:=by
 have p0:0<p/\p<12:=by rcases h with rfl|rfl|rfl|rfl<;>decide
 obtain⟨q,rfl⟩:∃ q:Ag,p=q:=⟨p.toNat,by omega⟩
 have h0:=A8 n (b:=(q:Ae)) (by omega)
 have h1:=A5 n p0.1;obtain⟨r,hr⟩:∃ r:Ag,n%(q:Ae)=r:=⟨(n%(q:Ae)).toNat,by omega⟩
 obtain⟨t,t1,t2,t3⟩:=WD ⟨q,by omega⟩ (by rcases h with e|e|e|e<;>simp<;>omega) ⟨r,by omega⟩ (by show r<q;omega) (by show r≠0;omega)
 refine⟨(t.val:Ae),by omega,by show (t.val:Ae)<q;exact Int.ofNat_lt.mpr t2,?_⟩
 have e:((r*t.val%q:Ag):Ae)=1:=by rw[show r*t.val%q=1 from t3];rfl
 rw[<-e,Int.natCast_emod,Int.natCast_mul,<-hr];exact(Bk n _ _).trans (by rw[Bk (n%(q:Ae)) (t.val:Ae) (q:Ae),Bf n (BW _)])
theorem Cm{r:R D}{d:D}(h:r=.ok d):En Ab r=.ok d:=by rw[h];rfl
def FN(p n t:Ae):Prop:=1<=t/\t<p/\n*t%p=1
theorem NU{n u:Ae}(h1:FN p n t)(h2:FN p n u):t=u:=by
 have hp:1<p:=by have:=h1.1;have:=h1.2.1;omega
 have e:t%p=u%p:=by
  have a:t%p=t*(n*u)%p:=by rw[Bk,h2.2.2,C1,Bf _ (BW p)]
  have b:u%p=(n*t)*u%p:=by rw[Bk (n*t) u p,h1.2.2,Cw,Bf _ (BW p)]
  rw[a,b]
  congr 1
  rw[<-Fw,Bs t n]
 rw[AO (by have:=h1.1;omega) h1.2.1,AO (by have:=h2.1;omega) h2.2.1]at e
 exact e
theorem Cq{c x:Ae}(hp:P4 p)(hc:c%p≠0)(hx:x%p≠0):c*x%p≠0:=fun z=>by
 obtain⟨t,_,_,e⟩:=ID hp hc;refine hx ?_;have e1:x%p=(c*t)*x%p:=by rw[Bk (c*t) x p,e,Cw,Bf _ (BW p)]
 rw[e1,show c*t*x=t*(c*x) by rw[Bs c t,Fw],Bk,z,B8,Bc]
noncomputable def AN(p:Ae):Ac Ae->Aq Ae
 |[]=>Af
 |x::xs=>if x%p=0 then AN p xs else Aa (x%p)
theorem HA{p:Ae}:∀{xs:Ac Ae},AN p xs=Af↔∀ x∈xs,x%p=0
 |[]=>by simp[AN]
 |x::xs=>by
  unfold AN;by_cases h:x%p=0
  ·rw[AB h,HA (xs:=xs)];simp[h]
  ·rw[AM h];simp[h]
theorem JA{p l:Ae}(hp:0<p):∀{xs:Ac Ae},AN p xs=Aa l->l%p≠0/\0<l/\l<p
 |[],h=>by cases h
 |x::xs,h=>by
  unfold AN at h;by_cases hx:x%p=0
  ·rw[AB hx]at h;exact JA hp h
  ·rw[AM hx]at h;cases h;have h0:=A8 x (b:=p) (by omega)
   have h1:=A5 x hp;exact⟨by rw[Bf _ (BW p)];exact hx,by omega,h1⟩
theorem Iy{p c:Ae}(hp:P4 p)(hc:c%p≠0){f:Ae->Ae}(hf:∀ x,f x%p=c*x%p):∀ xs:Ac Ae,AN p (xs.map f)=(AN p xs).map fun l=>c*l%p
 |[]=>rfl
 |x::xs=>by
  rw[Bq];unfold AN;rw[hf x];by_cases hx:x%p=0
  ·rw[AB hx,AB (by rw[Bk,hx,B8,Bc]),Iy hp hc hf xs]
  ·rw[AM hx,AM (Cq hp hc hx),DF]
   congr 1
   rw[Bk c (x%p),Bf _ (BW p),<-Bk]
noncomputable def ds(xs:Ac Ae):Ac D:=xs.map D.int
noncomputable def CD(b:An)(xs:Ac Ae):D:=if b=Ab then .tup (ds xs) else .lst (ds xs)
theorem Ln(b xs):B9 (CD b xs)=.ok (ds xs):=by unfold CD;cases b<;>rfl
theorem Ik{g:D->R An}{f:D->R D}{φ:Ae->Ae}:∀(xs:Ac Ae),(∀ x∈xs,g (.int x)=.ok Ab/\f (.int x)=.ok (.int (φ x)))->Be g f (ds xs)=.ok (ds (xs.map φ))
 |[],_=>rfl
 |x::xs,h=>by
  obtain⟨h1,h2⟩:=h x (Aw ..);show (g (.int x)).bind _=_;rw[h1,R.bind_ok,AB rfl,h2,R.bind_ok];show (Be g f (ds xs)).bind _=_;rw[Ik xs fun y hy=>h y (At _ hy)]
  rfl
noncomputable def BD:E:=(.bl Ab)
noncomputable def K6:E:=(.call 1 (.cons (.var 0) (.cons (.var 5) .nil)))
noncomputable def K5:E:=(.call 1 (.cons (.var 0) (.cons (.bin .Mult (.var 4) (.var 6)) .nil)))
noncomputable def F9:Ss:=(.cons (.ife (.cmp .NotEq (.var 3) (.int 0)) (.cons (.asg 4 Ad (.call 9 (.cons (.var 0) (.cons (.var 3) .nil)))) (.cons (.ret (.bi .tuple (.cons (.comp K5 6 (.e (.var 2)) BD) .nil))) .nil)) .nil) .nil)
noncomputable def Kl:Df:=⟨7,Ad,(.cons (.asg 2 Ad (.comp K6 5 (.e (.var 1)) BD)) (.cons (.fors 3 (.e (.var 2)) F9) (.cons (.rais 3 (.cons (.str (AQ "all the numbers have the rest 0")) .nil)) .nil)))⟩
noncomputable def fmI(p t:Ae)(xs:Ac Ae):Ac Ae:=xs.map fun x=>t*(x%p)%p
section
variable{Γ:Gam}{p:Ae}{xs:Ac Ae}{b:An}
end
theorem NH{g:D->R An}{f:D->R D}{q:Ae->An}:∀(xs:Ac Ae),(∀ x∈xs,g (.int x)=.ok (q x)/\f (.int x)=.ok (.int x))->Be g f (ds xs)=.ok (ds (xs.filter q))
 |[],_=>rfl
 |x::xs,h=>by
  obtain⟨h1,h2⟩:=h x (Aw ..);have ih:=NH xs fun y hy=>h y (At _ hy)
  show (g (.int x)).bind _=_;rw[h1,R.bind_ok];cases hq:q x with
  |true=>
   rw[AB rfl,h2,R.bind_ok,CT,hq,AB rfl];show (Be g f (ds xs)).bind _=_;rw[ih];rfl
  |false=>
   rw[AM (by decide),CT,hq,AM (by decide)]
   exact ih
theorem Uu{p l t:Ae}(it:FN p l t):((E1 p).filter fun k=>decide (k*l%p=1)).head?=Aa t:=by
 have hm:t∈(E1 p).filter fun k=>decide (k*l%p=1):=Bj.mpr ⟨Ix.mpr ⟨it.1,it.2.1⟩,by simp[Bs t l,it.2.2]⟩
 cases e:(E1 p).filter fun k=>decide (k*l%p=1) with
 |nil=>rw[e]at hm;cases hm
 |cons u us=>
  have hu:u∈(E1 p).filter fun k=>decide (k*l%p=1):=by rw[e];exact Aw ..
  obtain⟨h1,h2⟩:=Bj.mp hu;obtain⟨a,b⟩:=Ix.mp h1;have h3:u*l%p=1:=by simpa using h2
  rw[NU it ⟨a,b,by rw[Bs];exact h3⟩]
  rfl
theorem On{l:Ae}(h:xs.head?=Aa l):Dk (ds xs) 0=.ok (.int l):=by
 cases xs with
 |nil=>cases h
 |cons x xs=>cases h;exact Kq (by omega) rfl
noncomputable abbrev own(xs:Ac Ae):Sl:=Aa (.lst (ds xs),Ab)
section
variable{Γ:Gam}{ns:Ac Ae}{a1 a2 a4 a6 a7 a8 a9 b0 b1 b2 b3 b4:Sl}{p:Ae}
end
section
variable{Γ:Gam}{ns:Ac Ae}{a1 a4 a6 a7 a8 a9 b2 b3 b4:Sl}{p m:Ae}{xs:Ac Ae}
end
def Cg(p x y:Ae):Prop:=x%p=y%p
section
variable{p a b c d:Ae}
theorem Cg.rfl:Cg p a a:=Eq.refl _
theorem Cg.of(h:a=b):Cg p a b:=by unfold Cg;rw[h]
theorem Cg.trans{a b c:Ae}(h:Cg p a b)(g:Cg p b c):Cg p a c:=Eq.trans h g
theorem Cg.symm(h:Cg p a b):Cg p b a:=Eq.symm h
theorem Cg.add(h:Cg p a b)(g:Cg p c d):Cg p (a+c) (b+d):=by unfold Cg at *;rw[Sc,h,g,<-Sc]
theorem Cg.sub(h:Cg p a b)(g:Cg p c d):Cg p (a-c) (b-d):=by unfold Cg at *;rw[Sf,h,g,<-Sf]
theorem Cg.mul(h:Cg p a b)(g:Cg p c d):Cg p (a*c) (b*d):=by unfold Cg at *;rw[Bk,h,g,<-Bk]
theorem Cg.md(h:a=b%p):Cg p a b:=by unfold Cg;rw[h,Bf _ (BW p)]
end
theorem Gy{p a0 a1 a2 b0 b1 b2 c0 c1 c2 x0 x1 x2 y0 y1 y2 z0 z1 z2:Ae}(h0:Cg p a0 x0)(h1:Cg p a1 x1)(h2:Cg p a2 x2)(h3:Cg p b0 y0)(h4:Cg p b1 y1)(h5:Cg p b2 y2)(h6:Cg p c0 z0)(h7:Cg p c1 z1)(h8:Cg p c2 z2):Cg p (a0*(b1*c2-b2*c1)-a1*(b0*c2-b2*c0)+a2*(b0*c1-b1*c0)) (x0*(y1*z2-y2*z1)-x1*(y0*z2-y2*z0)+x2*(y0*z1-y1*z0)):=
 ((h0.mul ((h4.mul h8).sub (h5.mul h7))).sub (h1.mul ((h3.mul h8).sub (h5.mul h6)))).add (h2.mul ((h3.mul h7).sub (h4.mul h6)))
theorem P4.m1(h:P4 p):(-1:Ae)%p≠0:=by rcases h with rfl|rfl|rfl|rfl<;>decide
theorem P4.o1(h:P4 p):(1:Ae)%p≠0:=by rcases h with rfl|rfl|rfl|rfl<;>decide
abbrev R3:=Ae×Ae×Ae
variable{a x' x y r g y':R3}{pts:Ac R3}
noncomputable def AD(a:R3):D:=.lst [.int a.1,.int a.2.1,.int a.2.2]
noncomputable def Ai(a b c:R3):Ae:=det a.1 a.2.1 a.2.2 b.1 b.2.1 b.2.2 c.1 c.2.1 c.2.2
def In3(p:Ae)(a:R3):Prop:=(0<=a.1/\a.1<p)/\(0<=a.2.1/\a.2.1<p)/\(0<=a.2.2/\a.2.2<p)
structure GoodR (p:Ae) (a b c:R3):Prop where
 p4:P4 p
 ia:In3 p a
 ib:In3 p b
 ic:In3 p c
 nz:Ai a b c%p≠0
theorem GoodR.of{a b c a' b' c':R3}(h:GoodR p a b c)(hk:k%p≠0)(e:Cg p (Ai a' b' c') (k*Ai a b c))(hin:In3 p a'/\In3 p b'/\In3 p c'):GoodR p a' b' c':=⟨h.p4,hin.1,hin.2.1,hin.2.2,by rw[show Ai a' b' c'%p=_ from e];exact Cq h.p4 hk h.nz⟩
noncomputable def HL(t:Ae)(a:R3):R3:=(a.1*t,a.2.1*t,a.2.2*t)
noncomputable def Fi(t:Ae)(a b:R3):R3:=(a.1+t*b.1,a.2.1+t*b.2.1,a.2.2+t*b.2.2)
noncomputable def mdR(p:Ae)(a:R3):R3:=(a.1%p,a.2.1%p,a.2.2%p)
noncomputable def scR(p t:Ae)(a:R3):R3:=mdR p (HL t a)
noncomputable def adR(p t:Ae)(a b:R3):R3:=mdR p (Fi t a b)
theorem Q9(h:0<p)(a:R3):In3 p (mdR p a):=⟨⟨A8 _ (by omega),A5 _ h⟩,⟨A8 _ (by omega),A5 _ h⟩,⟨A8 _ (by omega),A5 _ h⟩⟩
theorem IK(h:0<p)(t:Ae)(a:R3):In3 p (scR p t a):=Q9 h _
theorem IJ(h:0<p)(t:Ae)(a b:R3):In3 p (adR p t a b):=Q9 h _
theorem RT(p t:Ae)(a b c:R3):Cg p (Ai (scR p t a) b c) (t*Ai a b c):=by
 refine Cg.trans (b:=Ai (HL t a) b c) ?_ (Cg.of (by unfold Ai det HL;grind))
 unfold Ai det;exact Gy (Cg.md (by rfl)) (Cg.md (by rfl)) (Cg.md (by rfl)) Cg.rfl Cg.rfl Cg.rfl Cg.rfl Cg.rfl Cg.rfl
theorem gO(p t:Ae)(a b c:R3):Cg p (Ai (adR p t a b) b c) (1*Ai a b c):=by
 refine Cg.trans (b:=Ai (Fi t a b) b c) ?_ (Cg.of (by unfold Ai det Fi;grind))
 unfold Ai det;exact Gy (Cg.md (by rfl)) (Cg.md (by rfl)) (Cg.md (by rfl)) Cg.rfl Cg.rfl Cg.rfl Cg.rfl Cg.rfl Cg.rfl
theorem gN(p t:Ae)(a b c:R3):Cg p (Ai (adR p t a c) b c) (1*Ai a b c):=by
 refine Cg.trans (b:=Ai (Fi t a c) b c) ?_ (Cg.of (by unfold Ai det Fi;grind))
 unfold Ai det;exact Gy (Cg.md (by rfl)) (Cg.md (by rfl)) (Cg.md (by rfl)) Cg.rfl Cg.rfl Cg.rfl Cg.rfl Cg.rfl Cg.rfl
theorem RS(p t:Ae)(a b c:R3):Cg p (Ai a (scR p t b) c) (t*Ai a b c):=by
 refine Cg.trans (b:=Ai a (HL t b) c) ?_ (Cg.of (by unfold Ai det HL;grind))
 unfold Ai det;exact Gy Cg.rfl Cg.rfl Cg.rfl (Cg.md (by rfl)) (Cg.md (by rfl)) (Cg.md (by rfl)) Cg.rfl Cg.rfl Cg.rfl
theorem gM(p t:Ae)(a b c:R3):Cg p (Ai a (adR p t b a) c) (1*Ai a b c):=by
 refine Cg.trans (b:=Ai a (Fi t b a) c) ?_ (Cg.of (by unfold Ai det Fi;grind))
 unfold Ai det;exact Gy Cg.rfl Cg.rfl Cg.rfl (Cg.md (by rfl)) (Cg.md (by rfl)) (Cg.md (by rfl)) Cg.rfl Cg.rfl Cg.rfl
theorem gL(p t:Ae)(a b c:R3):Cg p (Ai a (adR p t b c) c) (1*Ai a b c):=by
 refine Cg.trans (b:=Ai a (Fi t b c) c) ?_ (Cg.of (by unfold Ai det Fi;grind))
 unfold Ai det;exact Gy Cg.rfl Cg.rfl Cg.rfl (Cg.md (by rfl)) (Cg.md (by rfl)) (Cg.md (by rfl)) Cg.rfl Cg.rfl Cg.rfl
theorem RQ(p t:Ae)(a b c:R3):Cg p (Ai a b (scR p t c)) (t*Ai a b c):=by
 refine Cg.trans (b:=Ai a b (HL t c)) ?_ (Cg.of (by unfold Ai det HL;grind))
 unfold Ai det;exact Gy Cg.rfl Cg.rfl Cg.rfl Cg.rfl Cg.rfl Cg.rfl (Cg.md (by rfl)) (Cg.md (by rfl)) (Cg.md (by rfl))
theorem gK(p t:Ae)(a b c:R3):Cg p (Ai a b (adR p t c a)) (1*Ai a b c):=by
 refine Cg.trans (b:=Ai a b (Fi t c a)) ?_ (Cg.of (by unfold Ai det Fi;grind))
 unfold Ai det;exact Gy Cg.rfl Cg.rfl Cg.rfl Cg.rfl Cg.rfl Cg.rfl (Cg.md (by rfl)) (Cg.md (by rfl)) (Cg.md (by rfl))
theorem gJ(p t:Ae)(a b c:R3):Cg p (Ai a b (adR p t c b)) (1*Ai a b c):=by
 refine Cg.trans (b:=Ai a b (Fi t c b)) ?_ (Cg.of (by unfold Ai det Fi;grind))
 unfold Ai det;exact Gy Cg.rfl Cg.rfl Cg.rfl Cg.rfl Cg.rfl Cg.rfl (Cg.md (by rfl)) (Cg.md (by rfl)) (Cg.md (by rfl))/-! ### draws -/
theorem XQ(h0:0<=k)(h1:k<ns.length):Dk (ns.map D.int) k=.ok (.int (ns.getD k.toNat 0)):=Kq h0 (by
 have:k.toNat<ns.length:=by omega
 simp[this])
noncomputable abbrev ownR(a b c:R3):Sl:=Aa (.lst [AD a,AD b,AD c],Ab)
section
variable{Γ:Gam}{ns:Ac Ae}{at_ many s5 s0 s1 s2:Sl}{p t m:Ae}{a b c:R3}
end
section
variable{Γ:Gam}{ns:Ac Ae}{many s5 s6 s7 s8 s9 s0 s1 s2:Sl}{p:Ae}{a b c:R3}
end
noncomputable def HH(a b c:R3):D:=.lst [AD a,AD b,AD c]
noncomputable def iW(a b c:R3):Ac Ae:=[a.1,a.2.1,a.2.2,b.1,b.2.1,b.2.2,c.1,c.2.1,c.2.2]
noncomputable def fmR(p t:Ae)(a:R3):R3:=(t*(a.1%p)%p,t*(a.2.1%p)%p,t*(a.2.2%p)%p)
def Bd(n:Ag)(x:Ae):Prop:=x.natAbs<2 ^ n
theorem Bd.mul{x y:Ae}(h:Bd m x)(g:Bd n y):Bd (m+n) (x*y):=by
 unfold Bd at *;rw[Int.natAbs_mul,Nat.pow_add];exact Nat.mul_lt_mul'' h g
theorem Bd.sub{x y:Ae}(h:Bd n x)(g:Bd n y):Bd (n+1) (x-y):=by
 unfold Bd at *;rw[Nat.pow_succ];omega
theorem EZ{x y:Ae}(h:Bd m x)(g:Bd n y)(hm:m<=2000)(hn:n<=2000):DO x y=Ab:=by
 unfold DO Bd at *;rw[Al,A7,A7];exact⟨AI h (ER (by decide) hm),AI g (ER (by decide) hn)⟩
def B3(a:R3):Prop:=Bd 300 a.1/\Bd 300 a.2.1/\Bd 300 a.2.2
noncomputable def Ar(q:An)(a:R3):D:=CD q [a.1,a.2.1,a.2.2]
theorem GY(q:An)(a:R3):AT (Ar q a) (.int 0)=.ok (.int a.1)/\AT (Ar q a) (.int 1)=.ok (.int a.2.1)/\AT (Ar q a) (.int 2)=.ok (.int a.2.2):=by cases q<;>exact⟨rfl,rfl,rfl⟩
def Mt(Γ:Gam):Prop:=∀(p:Ae)(q:An)(a b c:R3),0<p->B3 a->B3 b->B3 c->Γ.F 61 [.int p,Ar q a,Ar q b,Ar q c]=.ok (.int (Ai a b c%p))
theorem Xa(h:HE Γ)(p:Ae)(q:An)(a b c:R3)(hp:0<p)(ha:B3 a)(hb:B3 b)(hc:B3 c):LI.run Γ [.int p,Ar q a,Ar q b,Ar q c]=.ok (.int (Ai a b c%p)):=by
 obtain⟨a0,a1,a2⟩:=GY q a;obtain⟨b0,b1,b2⟩:=GY q b;obtain⟨c0,c1,c2⟩:=GY q c;have k:∀ {x y},Bd 300 x->Bd 300 y->DO x y=Ab:=fun hx hy=>EZ hx hy (by decide) (by decide)
 have k2:∀ {x y z u v},Bd 300 x->Bd 300 y->Bd 300 z->Bd 300 u->Bd 300 v->DO x (y*z-u*v)=Ab:=fun hx hy hz hu hv=>EZ hx ((hy.mul hz).sub (hu.mul hv)) (by decide) (by decide)
 simp[LI,Df.run,Bw,a0,a1,a2,b0,b1,b2,c0,c1,c2,k hb.2.1 hc.2.2,k hb.2.2 hc.2.1,k hb.1 hc.2.2,k hb.2.2 hc.1,k hb.1 hc.2.1,k hb.2.1 hc.1,k2 ha.1 hb.2.1 hc.2.2 hb.2.2 hc.2.1,k2 ha.2.1 hb.1 hc.2.2 hb.2.2 hc.1,k2 ha.2.2 hb.1 hc.2.1 hb.2.1 hc.1,h p _ hp];rfl
section
variable{Γ:Gam}{ns:Ac Ae}{p t:Ae}{a b c r:R3}{made s6 s7:Sl}
end
theorem Kk{p:Ae}:∀{xs ys:Ac Ae},xs.map (fun x=>x%p)=ys.map (fun x=>x%p)->AN p xs=AN p ys
 |[],[],_=>rfl
 |x::xs,y::ys,h=>by
  rw[Bq,Bq,Sn]at h;unfold AN;rw[h.1,Kk h.2]
 |[],_::_,h=>by simp at h
 |_::_,[],h=>by simp at h
theorem Vs{ys:Ac Ae}(h:xs.map (fun x=>x%p)=ys.map (fun x=>x%p)):fmI p t xs=fmI p t ys:=by
 have e:∀ zs:Ac Ae,fmI p t zs=(zs.map fun x=>x%p).map fun r=>t*r%p:=fun zs=>by simp[fmI,F2,Sb]
 rw[e,e,h]
theorem fN(hp:0<p)(t:Ae)(a:R3):In3 p (fmR p t a):=⟨⟨A8 _ (by omega),A5 _ hp⟩,⟨A8 _ (by omega),A5 _ hp⟩,⟨A8 _ (by omega),A5 _ hp⟩⟩
section
variable{Γ:Gam}{ns:Ac Ae}{p m:Ae}{a b c:R3}{fa fb fc:R3}{q:An}{s9 s0 s1 s2:Sl}
end
def LK(Γ:Gam):Prop:=∀ p n:Ae,P4 p->n%p≠0->∃ t,1<=t/\t<p/\n*t%p=1/\Γ.F 9 [.int p,.int n]=.ok (.int t)
def Kx(Γ:Gam):Prop:=∀(p:Ae)(b:An)(xs:Ac Ae)(l t:Ae),P4 p->AN p xs=Aa l->FN p l t->Γ.F 17 [.int p,CD b xs]=.ok (.tup (ds (fmI p t xs)))
theorem UN(hr:HE Γ)(p n:Ae)(hp:P4 p)(z:n%p≠0):∃ t,1<=t/\t<p/\n*t%p=1/\Kc.run Γ [.int p,.int n]=.ok (.int t):=by
 have p0:=hp.pos;have ph:=hp.hi;have body:∀ t∈E1 p,∀ ρ,(∃ s,ρ=[si p,si n,s])->(decide (n*t%p=1)=Ab/\Bm Γ 2 Ih (.int t) ρ=.ret (.int t) Ad)\/(decide (n*t%p=1)=Ad/\∃ ρ',Bm Γ 2 Ih (.int t) ρ=.next ρ'/\∃ s,ρ'=[si p,si n,s]):=by
  rintro t ht ρ ⟨s,rfl⟩;obtain⟨t1,t2⟩:=Ix.mp ht;have m:Du n t=Ab:=Kv (by omega) (by omega)
  by_cases e:n*t%p=1
  ·exact .inl ⟨by simp[e],by simp[Bm,Ih,hr p (n*t) p0,m,e,DC]⟩
  ·exact .inr ⟨by simp[e],_,by simp[Bm,Ih,hr p (n*t) p0,m,e];rfl,_,rfl⟩
 have run:∀ o,Ci (Bm Γ 2 Ih) ((E1 p).map D.int) [si p,si n,Af]=o->Kc.run Γ [.int p,.int n]=(EE Γ (.cons (.rais 2 (.cons (.str (AQ "a number with the rest 0 is not turned over")) .nil)) .nil) o).ans Ad:=by
  rintro o rfl;simp[Kc,Df.run,Bw,ON hp]
 rcases N6 (fun ρ=>∃ s,ρ=[si p,si n,s]) (fun t=>decide (n*t%p=1)) (E1 p) body [si p,si n,Af] ⟨_,rfl⟩ with ⟨t,ht,a,b⟩|⟨a,r,b,s,rfl⟩
 ·obtain⟨t1,t2⟩:=Ix.mp ht;have a':n*t%p=1:=by simpa using a
  exact⟨t,t1,t2,a',by rw[run _ b];rfl⟩
 ·obtain⟨t,t1,t2,e⟩:=ID hp z;have:=a t (Ix.mpr ⟨t1,t2⟩);simp[e]at this
section
variable{Γ:Gam}{p:Ae}{xs:Ac Ae}{b:An}
theorem OQ(hr:HE Γ)(ht:LK Γ)(hp:P4 p)(rs:Ac Ae):∀(ys:Ac Ae),(∀ y∈ys,0<=y/\y<p)->∀ s3,(AN p ys=Af->∃ s3',Ci (Bm Γ 3 F9) (ds ys) [si p,sh (CD b xs),sh (.lst (ds rs)),s3,Af,Af,Af]=.next [si p,sh (CD b xs),sh (.lst (ds rs)),s3',Af,Af,Af])/\(∀ l t,AN p ys=Aa l->FN p l t->Ci (Bm Γ 3 F9) (ds ys) [si p,sh (CD b xs),sh (.lst (ds rs)),s3,Af,Af,Af]=.ret (.tup (ds (rs.map fun r=>t*r%p))) Ad)
 |[],_,s3=>⟨fun _=>⟨s3,rfl⟩,(fun l t h=>nomatch h)⟩
 |y::ys,hy,s3=>by
  obtain⟨y0,y1⟩:=hy y (Aw ..);have ym:y%p=y:=AO y0 y1;have ih:=OQ hr ht hp rs ys (fun z hz=>hy z (At _ hz)) (si y)
  have step:∀ o,Bm Γ 3 F9 (.int y) [si p,sh (CD b xs),sh (.lst (ds rs)),s3,Af,Af,Af]=o->Ci (Bm Γ 3 F9) (ds (y::ys)) [si p,sh (CD b xs),sh (.lst (ds rs)),s3,Af,Af,Af]=o.turn (Ci (Bm Γ 3 F9) (ds ys)):=by
   rintro o rfl;rfl
  unfold AN;rw[ym];by_cases hz:y=0
  ·have e:Bm Γ 3 F9 (.int y) [si p,sh (CD b xs),sh (.lst (ds rs)),s3,Af,Af,Af]=.next [si p,sh (CD b xs),sh (.lst (ds rs)),si y,Af,Af,Af]:=by
    simp[Bm,F9,hz]
   rw[AB hz,step _ e];exact ih
  ·rw[AM hz];refine⟨(fun z=>nomatch z),fun l t e it=>?_⟩
   cases e;obtain⟨u,u1,u2,u3,u4⟩:=ht p y hp (by rw[ym];exact hz)
   have:t=u:=NU it ⟨u1,u2,u3⟩;subst this;have p0:=hp.pos;have ph:=hp.hi;have cp:Be (cG Γ [si p,sh (CD b xs),sh (.lst (ds rs)),si y,si t,Af,Af] 6 BD) (cF Γ [si p,sh (CD b xs),sh (.lst (ds rs)),si y,si t,Af,Af] 6 K5) (ds rs)=.ok (ds (rs.map fun r=>t*r%p)):=by
    refine Ik rs fun r _=>⟨rfl,?_⟩
    have m:Du t r=Ab:=HB (by omega) (by omega)
    simp[cF,K5,m,hr p (t*r) p0]
   have e:Bm Γ 3 F9 (.int y) [si p,sh (CD b xs),sh (.lst (ds rs)),s3,Af,Af,Af]=.ret (.tup (ds (rs.map fun r=>t*r%p))) Ad:=by
    simp[Bm,F9,hz,u4,cp,DC]
   rw[step _ e];rfl
theorem Xb(hr:HE Γ)(ht:LK Γ)(hp:P4 p){l t:Ae}(e:AN p xs=Aa l)(it:FN p l t):Kl.run Γ [.int p,CD b xs]=.ok (.tup (ds (fmI p t xs))):=by
 have p0:=hp.pos;have cp:Be (cG Γ [si p,sh (CD b xs),Af,Af,Af,Af,Af] 5 BD) (cF Γ [si p,sh (CD b xs),Af,Af,Af,Af,Af] 5 K6) (ds xs)=.ok (ds (xs.map fun x=>x%p)):=by
  refine Ik xs fun x _=>⟨rfl,?_⟩
  simp[cF,K6,hr p x p0]
 have run:∀ o,Ci (Bm Γ 3 F9) (ds (xs.map fun x=>x%p)) [si p,sh (CD b xs),sh (.lst (ds (xs.map fun x=>x%p))),Af,Af,Af,Af]=o->Kl.run Γ [.int p,CD b xs]=(EE Γ (.cons (.rais 3 (.cons (.str (AQ "all the numbers have the rest 0")) .nil)) .nil) o).ans Ad:=by
  rintro o rfl;simp[Kl,Df.run,Bw,Ln,cp]
 have le:AN p (xs.map fun x=>x%p)=AN p xs:=by
  have:=Iy (c:=1) hp (by rcases hp with rfl|rfl|rfl|rfl<;>decide) (f:=fun x=>x%p) (fun x=>by rw[Cw,Bf _ (BW p)]) xs
  rw[this];cases e:AN p xs with
  |none=>rfl
  |some l=>
   obtain⟨_,l0,l1⟩:=JA p0 e;simp[AO (Int.le_of_lt l0) l1]
 obtain⟨a,c⟩:=OQ (b:=b) (xs:=xs) hr ht hp (xs.map fun x=>x%p) (xs.map fun x=>x%p) (fun y hy=>by
  obtain⟨x,_,rfl⟩:=CJ.mp hy;exact⟨A8 _ (by omega),A5 _ p0⟩) Af
 rw[le]at a c;rw[run _ (c l t e it)];simp[fmI,F2,Sb]
end
noncomputable def DY(a b c:R3):R3:=(a.1,b.1,c.1)
noncomputable def DX(a b c:R3):R3:=(a.2.1,b.2.1,c.2.1)
noncomputable def DW(a b c:R3):R3:=(a.2.2,b.2.2,c.2.2)
noncomputable def AA(a x:R3):Ae:=a.1*x.1+a.2.1*x.2.1+a.2.2*x.2.2
noncomputable def crs(a b:R3):R3:=(a.2.1*b.2.2-a.2.2*b.2.1,a.2.2*b.1-a.1*b.2.2,a.1*b.2.1-a.2.1*b.1)
theorem PR:∀ xs ys:Ac Ae,eqDs (ds xs) (ds ys)=decide (xs=ys)
 |[],[]=>rfl
 |[],_::_=>rfl
 |_::_,[]=>rfl
 |x::xs,y::ys=>by
  show ((x==y)&&eqDs (ds xs) (ds ys))=_;rw[PR xs ys,CI];simp
theorem IE(a b:R3):eqD (Ar Ab a) (Ar Ab b)=decide (a=b):=by
 show eqDs (ds [a.1,a.2.1,a.2.2]) (ds [b.1,b.2.1,b.2.2])=_;rw[PR,CI];simp only[Sn,Fo,A7];exact⟨fun ⟨h1,h2,h3⟩=>by obtain⟨a1,a2,a3⟩:=a;obtain⟨b1,b2,b3⟩:=b;simp at h1 h2 h3;rw[h1,h2,h3],fun h=>by rw[h];exact⟨rfl,rfl,rfl⟩⟩
noncomputable def LJ:Df:=⟨2,Ad,(.cons (.ife (.cmp .Eq (.var 0) (.var 1)) (.cons (.rais 7 (.cons (.var 0) .nil)) .nil) .nil) (.cons (.ret (.tup (.cons (.bin .Sub (.bin .Mult (.idx (.var 0) (.int 1)) (.idx (.var 1) (.int 2))) (.bin .Mult (.idx (.var 0) (.int 2)) (.idx (.var 1) (.int 1)))) (.cons (.bin .Sub (.bin .Mult (.idx (.var 0) (.int 2)) (.idx (.var 1) (.int 0))) (.bin .Mult (.idx (.var 0) (.int 0)) (.idx (.var 1) (.int 2)))) (.cons (.bin .Sub (.bin .Mult (.idx (.var 0) (.int 0)) (.idx (.var 1) (.int 1))) (.bin .Mult (.idx (.var 0) (.int 1)) (.idx (.var 1) (.int 0)))) .nil))))) .nil))⟩
def PB(Γ:Gam):Prop:=∀ a b:R3,B3 a->B3 b->a≠b->Γ.F 23 [Ar Ab a,Ar Ab b]=.ok (Ar Ab (crs a b))
theorem O6(Γ:Gam)(a b:R3)(ha:B3 a)(hb:B3 b)(ne:a≠b):LJ.run Γ [Ar Ab a,Ar Ab b]=.ok (Ar Ab (crs a b)):=by
 obtain⟨x0,x1,x2⟩:=GY Ab a;obtain⟨y0,y1,y2⟩:=GY Ab b;have k:∀ {u v},Bd 300 u->Bd 300 v->DO u v=Ab:=fun hu hv=>EZ hu hv (by decide) (by decide)
 have f:∀ r:R3,flD 5 (Ar Ab r)=Ab:=fun _=>rfl
 have e:eqD (Ar Ab a) (Ar Ab b)=Ad:=by rw[IE];exact Cv ne
 simp[LJ,Df.run,Bw,f,e,x0,x1,x2,y0,y1,y2,k ha.2.1 hb.2.2,k ha.2.2 hb.2.1,k ha.2.2 hb.1,k ha.1 hb.2.2,k ha.1 hb.2.1,k ha.2.1 hb.1];rfl
noncomputable def bk0(a b c:R3):R3:=DY (crs b c) (crs c a) (crs a b)
noncomputable def bk1(a b c:R3):R3:=DX (crs b c) (crs c a) (crs a b)
noncomputable def bk2(a b c:R3):R3:=DW (crs b c) (crs c a) (crs a b)
theorem JU{x:Ae}(hp:P4 p)(h0:0<=x)(h1:x<p):Bd 10 x:=by
 unfold Bd;have:=hp.hi;omega
theorem Bd.mono{x:Ae}(h:Bd m x)(hm:m<=n):Bd n x:=AI h (ER (by decide) hm)
def Bn(n:Ag)(a:R3):Prop:=Bd n a.1/\Bd n a.2.1/\Bd n a.2.2
theorem Bn.b3(h:Bn n a)(hn:n<=300):B3 a:=⟨h.1.mono hn,h.2.1.mono hn,h.2.2.mono hn⟩
theorem Dy(hp:P4 p)(h:In3 p a):Bn 10 a:=⟨JU hp h.1.1 h.1.2,JU hp h.2.1.1 h.2.1.2,JU hp h.2.2.1 h.2.2.2⟩
theorem gP{a b:R3}(ha:Bn n a)(hb:Bn n b):Bn (n+n+1) (crs a b):=
 ⟨(ha.2.1.mul hb.2.2).sub (ha.2.2.mul hb.2.1),(ha.2.2.mul hb.1).sub (ha.1.mul hb.2.2),(ha.1.mul hb.2.1).sub (ha.2.1.mul hb.1)⟩
theorem MK(a b c:R3):Ai (bk0 a b c) (bk1 a b c) (bk2 a b c)=Ai a b c*Ai a b c:=by
 unfold Ai det bk0 bk1 bk2 DY DX DW crs;grind
noncomputable def BB(k:Ae)(a:R3):R3:=(k*a.1,k*a.2.1,k*a.2.2)
noncomputable def fk0(p:Ae)(a b c d:R3):Ae:=Ai d b c%p
noncomputable def fs0(p:Ae)(a b c d:R3):R3:=BB (fk0 p a b c d) a
noncomputable def Jl:Ss:=(.cons (.ife (.cmp .Eq (.call 61 (.cons (.var 0) (.cons (.var 3) (.cons (.idx (.var 1) (.var 4)) (.cons (.idx (.var 1) (.var 5)) .nil))))) (.int 0)) (.cons (.ret (.tup (.cons (.var 3) (.cons (.idx (.var 1) (.var 4)) (.cons (.idx (.var 1) (.var 5)) .nil))))) .nil) .nil) .nil)
noncomputable def Jk:Ss:=(.cons (.fors 5 (.rng2 (.bin .Add (.var 4) (.int 1)) (.bi .len (.cons (.var 1) .nil))) Jl) .nil)
noncomputable def Jj:Ss:=(.cons (.fors 4 (.rng2 (.bin .Add (.var 2) (.int 1)) (.bi .len (.cons (.var 1) .nil))) Jk) .nil)
noncomputable def Ji:Df:=⟨6,Ad,(.cons (.forT [2,3] (.enm (.var 1)) Jj) (.cons (.ret .non) .nil))⟩
noncomputable def Kb:Df:=⟨3,Ad,(.cons (.asg 2 Ad (.call 65 (.cons (.var 0) (.cons (.var 1) .nil)))) (.cons (.ife (.cmp .IsNot (.var 2) .non) (.cons (.rais 18 (.cons (.var 2) .nil)) .nil) .nil) .nil))⟩
def jW(p:Ae)(a b c d:R3):Prop:=Ai a b c%p≠0/\Ai a b d%p≠0/\Ai a c d%p≠0/\Ai b c d%p≠0
def CgR(p:Ae)(x y:R3):Prop:=Cg p x.1 y.1/\Cg p x.2.1 y.2.1/\Cg p x.2.2 y.2.2
section
variable{p:Ae}{a b c a' b' c' x y z x':R3}{k l m k':Ae}
theorem CgR.rfl:CgR p a a:=⟨Cg.rfl,Cg.rfl,Cg.rfl⟩
theorem CgR.of(h:a=b):CgR p a b:=by rw[h];exact CgR.rfl
theorem CgR.trans(h:CgR p a b)(g:CgR p b c):CgR p a c:=⟨h.1.trans g.1,h.2.1.trans g.2.1,h.2.2.trans g.2.2⟩
theorem CgR.symm(h:CgR p a b):CgR p b a:=⟨h.1.symm,h.2.1.symm,h.2.2.symm⟩
theorem CgR.sc(hk:Cg p k k')(h:CgR p a b):CgR p (BB k a) (BB k' b):=⟨hk.mul h.1,hk.mul h.2.1,hk.mul h.2.2⟩
theorem X1(ha:CgR p a a')(hb:CgR p b b')(hc:CgR p c c'):Cg p (Ai a b c) (Ai a' b' c'):=by
 unfold Ai det;exact Gy ha.1 ha.2.1 ha.2.2 hb.1 hb.2.1 hb.2.2 hc.1 hc.2.1 hc.2.2
theorem G1(ha:CgR p a a')(hb:CgR p b b'):Cg p (AA a b) (AA a' b'):=((ha.1.mul hb.1).add (ha.2.1.mul hb.2.1)).add (ha.2.2.mul hb.2.2)
theorem ZL(ha:CgR p a a')(hb:CgR p b b')(hc:CgR p c c'):CgR p (DY a b c) (DY a' b' c')/\CgR p (DX a b c) (DX a' b' c')/\CgR p (DW a b c) (DW a' b' c'):=⟨⟨ha.1,hb.1,hc.1⟩,⟨ha.2.1,hb.2.1,hc.2.1⟩,⟨ha.2.2,hb.2.2,hc.2.2⟩⟩
theorem ZJ(ha:CgR p a a')(hb:CgR p b b'):CgR p (crs a b) (crs a' b'):=
 ⟨(ha.2.1.mul hb.2.2).sub (ha.2.2.mul hb.2.1),(ha.2.2.mul hb.1).sub (ha.1.mul hb.2.2),(ha.1.mul hb.2.1).sub (ha.2.1.mul hb.1)⟩
theorem fO(p t:Ae)(a:R3):CgR p (fmR p t a) (BB t a):=by
 have key:∀ x:Ae,Cg p (t*(x%p)%p) (t*x):=fun x=>(Cg.md _root_.rfl).trans (Cg.rfl.mul (Cg.md _root_.rfl))
 exact⟨key _,key _,key _⟩
noncomputable def rm(a x y z:R3):R3:=(AA (DY x y z) a,AA (DX x y z) a,AA (DW x y z) a)
noncomputable def ap(a b c x:R3):R3:=(AA a x,AA b x,AA c x)
theorem ZH(a b c x y z:R3):Ai (ap a b c x) (ap a b c y) (ap a b c z)=Ai a b c*Ai x y z:=by
 unfold Ai det ap AA;grind
theorem Z2(k l m:Ae)(x y z:R3):Ai (BB k x) (BB l y) (BB m z)=k*l*m*Ai x y z:=by
 unfold Ai det BB;grind
theorem MU(k l:Ae)(x:R3):BB k (BB l x)=BB (k*l) x:=by
 unfold BB;simp only[Fw]
theorem gS(a b c x:R3)(k:Ae):ap a b c (BB k x)=BB k (ap a b c x):=by
 unfold ap BB AA;refine Br ?_ (Br ?_ ?_)<;>(simp only;grind)
end
section
variable{p:Ae}{a b c f0 f1 f2 f3 g0 g1 g2 g3:R3}{d0 d1 d2 d3:Ae}
theorem WY(hx:CgR p g0 (BB d0 (ap a b c f0)))(hy:CgR p g1 (BB d1 (ap a b c f1)))(hz:CgR p g2 (BB d2 (ap a b c f2))):Cg p (Ai g0 g1 g2) (d0*d1*d2*(Ai a b c*Ai f0 f1 f2)):=
 (X1 hx hy hz).trans (Cg.of (by rw[Z2,ZH]))
end
section
variable{Γ:Gam}{ns:Ac Ae}
end
section
variable{Γ:Gam}{ns:Ac Ae}{many s5 s6 s7 s8 s9 s0 s1 s2:Sl}{p:Ae}{a b c:R3}
end
noncomputable def K3:E:=(.call 1 (.cons (.var 0) (.cons (.var 3) .nil)))
noncomputable def Lm:Df:=⟨4,Ad,(.cons (.asg 2 Ad (.comp K3 3 (.e (.var 1)) BD)) (.cons (.ife (.no (.bi .any (.cons (.var 2) .nil))) (.cons (.rais 5 (.cons (.str (AQ "all six numbers have the rest 0")) .nil)) .nil) .nil) (.cons (.ret (.call 17 (.cons (.var 0) (.cons (.var 2) .nil)))) .nil)))⟩
theorem OJ:∀ xs:Ac Ae,DU (ds xs)=.ok (xs.any fun x=>x != 0)
 |[]=>rfl
 |x::xs=>by
  show (DB (.int x)).bind (fun b=>(DU (ds xs)).bind fun c=>.ok (b||c))=_
  rw[OJ xs];rfl
theorem OV{p:Ae}(hp:0<p):∀ xs:Ac Ae,((xs.map fun x=>x%p).any fun x=>x != 0)=(AN p xs).isSome
 |[]=>rfl
 |x::xs=>by
  unfold AN;rw[Bq,Sh];by_cases h:x%p=0
  ·rw[AB h,h,OV hp xs];rfl
  ·rw[AM h];simp[h]
theorem Q8(xs:Ac Ae):(xs.map fun x=>x%p).map (fun x=>x%p)=xs.map fun x=>x%p:=by
 rw[F2];refine E6 fun x _=>?_
 show x%p%p=x%p;rw[Bf _ (BW p)]
def InL(p:Ae)(xs:Ac Ae):Prop:=∀ x∈xs,0<=x/\x<p
theorem InL.set(h:InL p xs)(k:Ag)(h0:0<=v)(h1:v<p):InL p (xs.set k v):=fun x hx=>by
 rcases List.mem_or_eq_of_mem_set hx with z|rfl
 ·exact h x z
 ·exact⟨h0,h1⟩
section
variable{Γ:Gam}{ns:Ac Ae}{p at_:Ae}
end
section
variable{Γ:Gam}{ns:Ac Ae}{p t:Ae}
end
structure C6 where
 c0:Ae
 c1:Ae
 c2:Ae
 c3:Ae
 c4:Ae
 c5:Ae
variable{C:C6}
noncomputable def C6.l(C:C6):Ac Ae:=[C.c0,C.c1,C.c2,C.c3,C.c4,C.c5]
noncomputable def Bx(C:C6):D:=.tup (ds C.l)
noncomputable def vI(C:C6)(x:R3):Ae:=C.c0*x.1*x.1+C.c1*x.2.1*x.2.1+C.c2*x.2.2*x.2.2+(C.c3*x.1*x.2.1+C.c4*x.1*x.2.2+C.c5*x.2.1*x.2.2)
noncomputable def tw0(C:C6):R3:=(2*C.c0,C.c3,C.c4)
noncomputable def tw1(C:C6):R3:=(C.c3,2*C.c1,C.c5)
noncomputable def tw2(C:C6):R3:=(C.c4,C.c5,2*C.c2)
noncomputable def bI(C:C6)(x y:R3):Ae:=AA (ap (tw0 C) (tw1 C) (tw2 C) x) y
noncomputable def scC(k:Ae)(C:C6):C6:=⟨k*C.c0,k*C.c1,k*C.c2,k*C.c3,k*C.c4,k*C.c5⟩
def CgC(p:Ae)(C D:C6):Prop:=Cg p C.c0 D.c0/\Cg p C.c1 D.c1/\Cg p C.c2 D.c2/\Cg p C.c3 D.c3/\Cg p C.c4 D.c4/\Cg p C.c5 D.c5
noncomputable def pb(C:C6)(a b c:R3):C6:=⟨vI C (DY a b c),vI C (DX a b c),vI C (DW a b c),bI C (DY a b c) (DX a b c),bI C (DY a b c) (DW a b c),bI C (DX a b c) (DW a b c)⟩
section
variable{p:Ae}{C D E:C6}{a b c a' b' c' x y x' y':R3}{k k':Ae}
theorem C6.ext'(h0:C.c0=D.c0)(h1:C.c1=D.c1)(h2:C.c2=D.c2)(h3:C.c3=D.c3)(h4:C.c4=D.c4)(h5:C.c5=D.c5):C=D:=by
 cases C;cases D;simp_all
theorem CgC.rfl:CgC p C C:=⟨Cg.rfl,Cg.rfl,Cg.rfl,Cg.rfl,Cg.rfl,Cg.rfl⟩
theorem CgC.of(h:C=D):CgC p C D:=by rw[h];exact CgC.rfl
theorem CgC.symm(h:CgC p C D):CgC p D C:=⟨h.1.symm,h.2.1.symm,h.2.2.1.symm,h.2.2.2.1.symm,h.2.2.2.2.1.symm,h.2.2.2.2.2.symm⟩
theorem CgC.trans(h:CgC p C D)(g:CgC p D E):CgC p C E:=⟨h.1.trans g.1,h.2.1.trans g.2.1,h.2.2.1.trans g.2.2.1,h.2.2.2.1.trans g.2.2.2.1,h.2.2.2.2.1.trans g.2.2.2.2.1,h.2.2.2.2.2.trans g.2.2.2.2.2⟩
theorem CgC.sc(hk:Cg p k k')(h:CgC p C D):CgC p (scC k C) (scC k' D):=⟨hk.mul h.1,hk.mul h.2.1,hk.mul h.2.2.1,hk.mul h.2.2.2.1,hk.mul h.2.2.2.2.1,hk.mul h.2.2.2.2.2⟩
theorem Gi(h:CgC p C D)(hx:CgR p x x'):Cg p (vI C x) (vI D x'):=
 (((((h.1.mul hx.1).mul hx.1).add ((h.2.1.mul hx.2.1).mul hx.2.1)).add ((h.2.2.1.mul hx.2.2).mul hx.2.2))).add ((((h.2.2.2.1.mul hx.1).mul hx.2.1).add ((h.2.2.2.2.1.mul hx.1).mul hx.2.2)).add ((h.2.2.2.2.2.mul hx.2.1).mul hx.2.2))
theorem bP(h:CgC p C D):CgR p (tw0 C) (tw0 D)/\CgR p (tw1 C) (tw1 D)/\CgR p (tw2 C) (tw2 D):=
 ⟨⟨Cg.rfl.mul h.1,h.2.2.2.1,h.2.2.2.2.1⟩,⟨h.2.2.2.1,Cg.rfl.mul h.2.1,h.2.2.2.2.2⟩,⟨h.2.2.2.2.1,h.2.2.2.2.2,Cg.rfl.mul h.2.2.1⟩⟩
theorem aL(ha:CgR p a a')(hb:CgR p b b')(hc:CgR p c c')(hx:CgR p x x'):CgR p (ap a b c x) (ap a' b' c' x'):=⟨G1 ha hx,G1 hb hx,G1 hc hx⟩
theorem M5(h:CgC p C D)(hx:CgR p x x')(hy:CgR p y y'):Cg p (bI C x y) (bI D x' y'):=
 let ⟨t0,t1,t2⟩:=bP h
 G1 (aL t0 t1 t2 hx) hy
theorem QR(h:CgC p C D)(ha:CgR p a a')(hb:CgR p b b')(hc:CgR p c c'):CgC p (pb C a b c) (pb D a' b' c'):=
 let ⟨s0,s1,s2⟩:=ZL ha hb hc
 ⟨Gi h s0,Gi h s1,Gi h s2,M5 h s0 s1,M5 h s0 s2,M5 h s1 s2⟩
theorem MF(k l:Ae)(C:C6):scC k (scC l C)=scC (k*l) C:=by
 unfold scC;simp only[Fw]
theorem Ky(C:C6):scC 1 C=C:=by unfold scC;simp only[Cw]
theorem cU(k:Ae)(C:C6)(a b c:R3):pb (scC k C) a b c=scC k (pb C a b c):=by
 unfold pb scC vI bI ap tw0 tw1 tw2 AA;refine C6.ext' ?_ ?_ ?_ ?_ ?_ ?_<;>(simp only;grind)
theorem Qg(C:C6)(x y z:R3)(k l m:Ae):vI C (k*x.1+l*y.1+m*z.1,k*x.2.1+l*y.2.1+m*z.2.1,k*x.2.2+l*y.2.2+m*z.2.2)=k*k*vI C x+l*l*vI C y+m*m*vI C z+(k*l*bI C x y+k*m*bI C x z+l*m*bI C y z):=by
 unfold vI bI ap tw0 tw1 tw2 AA;simp only;grind
theorem Qy(C:C6)(x y z w:R3)(k l m:Ae):bI C (k*x.1+l*y.1+m*z.1,k*x.2.1+l*y.2.1+m*z.2.1,k*x.2.2+l*y.2.2+m*z.2.2) w=k*bI C x w+l*bI C y w+m*bI C z w:=by
 unfold bI ap tw0 tw1 tw2 AA;simp only;grind
theorem Kw(C:C6)(x y:R3):bI C x y=bI C y x:=by
 unfold bI ap tw0 tw1 tw2 AA;simp only;grind
theorem Mq(C:C6)(x:R3):bI C x x=2*vI C x:=by
 unfold vI bI ap tw0 tw1 tw2 AA;simp only;grind
theorem fY(v0 v1 v2 b0 b1 b2:Ae)(u:R3):vI ⟨v0,v1,v2,b0,b1,b2⟩ u=u.1*u.1*v0+u.2.1*u.2.1*v1+u.2.2*u.2.2*v2+(u.1*u.2.1*b0+u.1*u.2.2*b1+u.2.1*u.2.2*b2):=by
 unfold vI;simp only;grind
theorem fZ(v0 v1 v2 b0 b1 b2:Ae)(u w:R3):bI ⟨v0,v1,v2,b0,b1,b2⟩ u w=u.1*(w.1*(2*v0)+w.2.1*b0+w.2.2*b1)+u.2.1*(w.1*b0+w.2.1*(2*v1)+w.2.2*b2)+u.2.2*(w.1*b1+w.2.1*b2+w.2.2*(2*v2)):=by
 unfold bI ap tw0 tw1 tw2 AA;simp only;grind
theorem jN(C:C6)(s0 s1 s2 u:R3):vI C (u.1*s0.1+u.2.1*s1.1+u.2.2*s2.1,u.1*s0.2.1+u.2.1*s1.2.1+u.2.2*s2.2.1,u.1*s0.2.2+u.2.1*s1.2.2+u.2.2*s2.2.2)=vI ⟨vI C s0,vI C s1,vI C s2,bI C s0 s1,bI C s0 s2,bI C s1 s2⟩ u:=by
 exact(Qg C s0 s1 s2 u.1 u.2.1 u.2.2).trans (fY _ _ _ _ _ _ u).symm
theorem jO(C:C6)(s0 s1 s2 u w:R3):bI C (u.1*s0.1+u.2.1*s1.1+u.2.2*s2.1,u.1*s0.2.1+u.2.1*s1.2.1+u.2.2*s2.2.1,u.1*s0.2.2+u.2.1*s1.2.2+u.2.2*s2.2.2) (w.1*s0.1+w.2.1*s1.1+w.2.2*s2.1,w.1*s0.2.1+w.2.1*s1.2.1+w.2.2*s2.2.1,w.1*s0.2.2+w.2.1*s1.2.2+w.2.2*s2.2.2)=bI ⟨vI C s0,vI C s1,vI C s2,bI C s0 s1,bI C s0 s2,bI C s1 s2⟩ u w:=by
 have e:∀ s:R3,bI C s (w.1*s0.1+w.2.1*s1.1+w.2.2*s2.1,w.1*s0.2.1+w.2.1*s1.2.1+w.2.2*s2.2.1,w.1*s0.2.2+w.2.1*s1.2.2+w.2.2*s2.2.2)=w.1*bI C s0 s+w.2.1*bI C s1 s+w.2.2*bI C s2 s:=fun s=>(Kw C _ _).trans (Qy C s0 s1 s2 s w.1 w.2.1 w.2.2)
 refine Eq.trans ?_ (fZ _ _ _ _ _ _ u w).symm;rw[Qy,e,e,e,Mq C s0,Mq C s1,Mq C s2,Kw C s1 s0,Kw C s2 s0,Kw C s2 s1]
theorem cV(C:C6)(a b c x y z:R3):pb (pb C a b c) x y z=pb C (rm a x y z) (rm b x y z) (rm c x y z):=by
 have v:=fun u=>(jN C (DY a b c) (DX a b c) (DW a b c) u).symm
 have w:=fun u u'=>(jO C (DY a b c) (DX a b c) (DW a b c) u u').symm
 exact C6.ext' (v (DY x y z)) (v (DX x y z)) (v (DW x y z)) (w (DY x y z) (DX x y z)) (w (DY x y z) (DW x y z)) (w (DX x y z) (DW x y z))
theorem cW(C:C6)(k:Ae):pb C (k,0,0) (0,k,0) (0,0,k)=scC (k*k) C:=by
 unfold pb scC vI bI ap tw0 tw1 tw2 AA DY DX DW;refine C6.ext' ?_ ?_ ?_ ?_ ?_ ?_<;>(simp only;grind)
theorem Zu(a b c:R3):rm a (bk0 a b c) (bk1 a b c) (bk2 a b c)=(Ai a b c,0,0)/\rm b (bk0 a b c) (bk1 a b c) (bk2 a b c)=(0,Ai a b c,0)/\rm c (bk0 a b c) (bk1 a b c) (bk2 a b c)=(0,0,Ai a b c):=by
 unfold rm AA bk0 bk1 bk2 DY DX DW crs Ai det;refine⟨?_,?_,?_⟩<;>refine Br ?_ (Br ?_ ?_)<;>(simp only;grind)
def PrC(p:Ae)(C D:C6):Prop:=∃ d,d%p≠0/\CgC p C (scC d D)
theorem PrC.rfl(hp:P4 p):PrC p C C:=⟨1,hp.o1,CgC.of (Ky C).symm⟩
theorem PrC.trans(hp:P4 p)(i:PrC p C D)(j:PrC p D E):PrC p C E:=by
 obtain⟨d,dz,e⟩:=i;obtain⟨d',dz',e'⟩:=j;exact⟨d*d',Cq hp dz dz',e.trans ((CgC.sc Cg.rfl e').trans (CgC.of (MF _ _ _)))⟩
theorem Qo(hp:P4 p)(dz:k%p≠0):∃ u,u%p≠0/\Cg p (u*k) 1:=by
 obtain⟨u,u1,u2,u3⟩:=ID hp dz;refine⟨u,by rw[AO (by omega) u2];omega,?_⟩
 show u*k%p=1%p;rw[Bs,u3,AO (by decide) (by have:=hp.lo;omega)]
theorem PrC.symm(hp:P4 p)(i:PrC p C D):PrC p D C:=by
 obtain⟨d,dz,e⟩:=i;obtain⟨u,uz,o⟩:=Qo hp dz;refine⟨u,uz,?_⟩;have q:=CgC.sc (k:=u) (k':=u) Cg.rfl e;rw[MF]at q;exact(q.trans ((CgC.sc o CgC.rfl).trans (CgC.of (Ky D)))).symm
theorem PrC.pb(i:PrC p C D):PrC p (OvC.pb C a b c) (OvC.pb D a b c):=by
 obtain⟨d,dz,e⟩:=i;exact⟨d,dz,(QR e CgR.rfl CgR.rfl CgR.rfl).trans (CgC.of (cU d D a b c))⟩
def InC(p:Ae)(C:C6):Prop:=∀ x∈C.l,0<=x/\x<p
theorem NY(hp:P4 p)(iC:InC p C)(iD:InC p D)(lC:AN p C.l=Aa 1)(lD:AN p D.l=Aa 1)(h:PrC p C D):C=D:=by
 obtain⟨d,dz,e⟩:=h;have p1:1<p:=by have:=hp.lo;omega
 have rs:C.l.map (fun x=>x%p)=(D.l.map fun x=>d*x).map (fun x=>x%p):=by
  obtain⟨h0,h1,h2,h3,h4,h5⟩:=e;simp only[C6.l,Bq,EM];rw[show C.c0%p=d*D.c0%p from h0,show C.c1%p=d*D.c1%p from h1,show C.c2%p=d*D.c2%p from h2,show C.c3%p=d*D.c3%p from h3,show C.c4%p=d*D.c4%p from h4,show C.c5%p=d*D.c5%p from h5]
 have el:=Iy hp dz (f:=fun x=>d*x) (fun _=>rfl) D.l
 rw[lD,<-Kk rs,lC,DF,BU,C1]at el;have o:Cg p d 1:=by
  show d%p=1%p;rw[<-el,AO (by decide) p1]
 obtain⟨h0,h1,h2,h3,h4,h5⟩:=e.trans ((CgC.sc o CgC.rfl).trans (CgC.of (Ky D)));have same:∀{u v:Ae},u∈C.l->v∈D.l->Cg p u v->u=v:=fun hu hv huv=>by
  have:=show _%p=_%p from huv
  rwa [AO (iC _ hu).1 (iC _ hu).2,AO (iD _ hv).1 (iD _ hv).2]at this
 exact C6.ext' (same (by simp[C6.l]) (by simp[C6.l]) h0) (same (by simp[C6.l]) (by simp[C6.l]) h1) (same (by simp[C6.l]) (by simp[C6.l]) h2) (same (by simp[C6.l]) (by simp[C6.l]) h3) (same (by simp[C6.l]) (by simp[C6.l]) h4) (same (by simp[C6.l]) (by simp[C6.l]) h5)
end
noncomputable def Mp:Df:=⟨5,Ad,(.cons (.asg 3 Ad (.bin .Add (.bin .Add (.bin .Mult (.bin .Mult (.idx (.var 1) (.int 0)) (.idx (.var 2) (.int 0))) (.idx (.var 2) (.int 0))) (.bin .Mult (.bin .Mult (.idx (.var 1) (.int 1)) (.idx (.var 2) (.int 1))) (.idx (.var 2) (.int 1)))) (.bin .Mult (.bin .Mult (.idx (.var 1) (.int 2)) (.idx (.var 2) (.int 2))) (.idx (.var 2) (.int 2))))) (.cons (.asg 4 Ad (.bin .Add (.bin .Add (.bin .Mult (.bin .Mult (.idx (.var 1) (.int 3)) (.idx (.var 2) (.int 0))) (.idx (.var 2) (.int 1))) (.bin .Mult (.bin .Mult (.idx (.var 1) (.int 4)) (.idx (.var 2) (.int 0))) (.idx (.var 2) (.int 2)))) (.bin .Mult (.bin .Mult (.idx (.var 1) (.int 5)) (.idx (.var 2) (.int 1))) (.idx (.var 2) (.int 2))))) (.cons (.ret (.call 1 (.cons (.var 0) (.cons (.bin .Add (.var 3) (.var 4)) .nil)))) .nil)))⟩
theorem ix6(C:C6):AT (Bx C) (.int 0)=.ok (.int C.c0)/\AT (Bx C) (.int 1)=.ok (.int C.c1)/\AT (Bx C) (.int 2)=.ok (.int C.c2)/\AT (Bx C) (.int 3)=.ok (.int C.c3)/\AT (Bx C) (.int 4)=.ok (.int C.c4)/\AT (Bx C) (.int 5)=.ok (.int C.c5):=⟨rfl,rfl,rfl,rfl,rfl,rfl⟩
structure BC (C:C6):Prop where
 b0:Bd 10 C.c0
 b1:Bd 10 C.c1
 b2:Bd 10 C.c2
 b3:Bd 10 C.c3
 b4:Bd 10 C.c4
 b5:Bd 10 C.c5
theorem InC.b(hp:P4 p)(h:InC p C):BC C:=by
 have k:∀ x∈C.l,Bd 10 x:=fun x hx=>JU hp (h x hx).1 (h x hx).2
 exact⟨k _ (by simp[C6.l]),k _ (by simp[C6.l]),k _ (by simp[C6.l]),k _ (by simp[C6.l]),k _ (by simp[C6.l]),k _ (by simp[C6.l])⟩
noncomputable def t0(p:Ae)(C:C6):R3:=(2*C.c0%p,C.c3,C.c4)
noncomputable def t1(p:Ae)(C:C6):R3:=(C.c3,2*C.c1%p,C.c5)
noncomputable def t2(p:Ae)(C:C6):R3:=(C.c4,C.c5,2*C.c2%p)
def QG(Γ:Gam):Prop:=∀(p:Ae)(b:An)(xs:Ac Ae)(l t:Ae),P4 p->AN p xs=Aa l->FN p l t->Γ.F 122 [.int p,CD b xs]=.ok (.tup (ds (fmI p t xs)))
theorem YY(hr:HE Γ)(hf:Kx Γ){b:An}{l t:Ae}(hp:P4 p)(e:AN p xs=Aa l)(it:FN p l t):Lm.run Γ [.int p,CD b xs]=.ok (.tup (ds (fmI p t xs))):=by
 have p0:=hp.pos;have cp:Be (cG Γ [si p,sh (CD b xs),Af,Af] 3 BD) (cF Γ [si p,sh (CD b xs),Af,Af] 3 K3) (ds xs)=.ok (ds (xs.map fun x=>x%p)):=by
  refine Ik xs fun x _=>⟨rfl,?_⟩
  simp[cF,K3,hr p x p0]
 have an:=OJ (xs.map fun x=>x%p)
 rw[OV p0,e]at an;have le:AN p (xs.map fun x=>x%p)=Aa l:=by rw[Kk (Q8 xs)];exact e
 have f:=hf p Ad (xs.map fun x=>x%p) l t hp le it
 rw[Vs (Q8 xs)]at f;have f':Γ.F 17 [.int p,.lst (ds (xs.map fun x=>x%p))]=.ok (.tup (ds (fmI p t xs))):=f
 simp[Lm,Df.run,Bw,Ln,cp,an,f']
theorem Nb{E:C6}{l:Ae}(hp:P4 p)(el:AN p E.l=Aa l):∃(t:Ae)(D:C6),FN p l t/\fmI p t E.l=D.l/\InC p D/\AN p D.l=Aa 1/\PrC p D E:=by
 have p0:=hp.pos;obtain⟨lz,_,_⟩:=JA p0 el;obtain⟨t,t1,t2,t3⟩:=ID hp lz;have tz:t%p≠0:=by rw[AO (by omega) t2];omega
 have ff:∀ x,(t*(x%p)%p)%p=t*x%p:=fun x=>by rw[Bf _ (BW p),Bk t (x%p) p,Bf _ (BW p),<-Bk]
 have lv:=Iy hp tz (f:=fun x=>t*(x%p)%p) ff E.l
 rw[el,DF,Bs,t3]at lv;have key:∀ x:Ae,Cg p (t*(x%p)%p) (t*x):=fun x=>(Cg.md rfl).trans (Cg.rfl.mul (Cg.md rfl))
 refine⟨t,⟨t*(E.c0%p)%p,t*(E.c1%p)%p,t*(E.c2%p)%p,t*(E.c3%p)%p,t*(E.c4%p)%p,t*(E.c5%p)%p⟩,⟨t1,t2,t3⟩,rfl,fun x hx=>?_,lv,t,tz,key _,key _,key _,key _,key _,key _⟩
 obtain⟨y,_,rfl⟩:=CJ.mp (show x∈E.l.map fun x=>t*(x%p)%p from hx)
 exact⟨A8 _ (by omega),A5 _ p0⟩
section
variable{Γ:Gam}{ns:Ac Ae}{p at_:Ae}{φ:Ae->Ae}
end
noncomputable def e0R:R3:=(1,0,0)
noncomputable def e1R:R3:=(0,1,0)
noncomputable def e2R:R3:=(0,0,1)
noncomputable def e3R:R3:=(1,1,1)
theorem jL(hp:P4 p):In3 p e0R/\In3 p e1R/\In3 p e2R/\In3 p e3R:=by
 have z:0<=(0:Ae)/\(0:Ae)<p:=⟨by decide,hp.pos⟩
 have o:0<=(1:Ae)/\(1:Ae)<p:=⟨by decide,by have:=hp.lo;omega⟩
 exact⟨⟨o,z,z⟩,⟨z,o,z⟩,⟨z,z,o⟩,⟨o,o,o⟩⟩
theorem hZ(hp:P4 p):jW p e0R e1R e2R e3R:=by
 rcases hp with rfl|rfl|rfl|rfl<;>exact⟨by decide,by decide,by decide,by decide⟩
def Pr(p:Ae)(x y:R3):Prop:=∃ d,d%p≠0/\CgR p x (BB d y)
section
variable{p:Ae}{a b c x y z f g h:R3}{k:Ae}
theorem KG(x:R3):BB 1 x=x:=by unfold BB;simp only[Cw]
theorem Pr.rfl(hp:P4 p):Pr p x x:=⟨1,hp.o1,CgR.of (KG x).symm⟩
theorem Pr.trans(hp:P4 p)(i:Pr p x y)(j:Pr p y z):Pr p x z:=by
 obtain⟨d,dz,e⟩:=i;obtain⟨d',dz',e'⟩:=j;exact⟨d*d',Cq hp dz dz',e.trans ((CgR.sc Cg.rfl e').trans (CgR.of (MU _ _ _)))⟩
theorem Pr.symm(hp:P4 p)(i:Pr p x y):Pr p y x:=by
 obtain⟨d,dz,e⟩:=i;obtain⟨u,u1,u2,u3⟩:=ID hp dz;have uz:u%p≠0:=by rw[AO (by omega) u2];omega
 have o:Cg p (u*d) 1:=by
  show u*d%p=1%p;rw[Bs,u3,AO (by decide) (by have:=hp.lo;omega)]
 refine⟨u,uz,?_⟩;have q:=CgR.sc (k:=u) (k':=u) Cg.rfl e;rw[MU]at q;exact(q.trans ((CgR.sc o CgR.rfl).trans (CgR.of (KG y)))).symm
theorem Re{a' b' c':R3}(ha:CgR p a a')(hb:CgR p b b')(hc:CgR p c c')(hx:CgR p x x'):CgR p (ap a b c x) (ap a' b' c' x'):=⟨G1 ha hx,G1 hb hx,G1 hc hx⟩
theorem Pr.ap(i:Pr p x y):Pr p (OvC.ap a b c x) (OvC.ap a b c y):=by
 obtain⟨d,dz,e⟩:=i;exact⟨d,dz,(Re CgR.rfl CgR.rfl CgR.rfl e).trans (CgR.of (gS a b c y d))⟩
theorem Rg(a b c v:R3):ap (bk0 a b c) (bk1 a b c) (bk2 a b c) (ap a b c v)=BB (Ai a b c) v:=by
 unfold ap BB AA bk0 bk1 bk2 DY DX DW crs Ai det;refine Br ?_ (Br ?_ ?_)<;>(simp only;grind)
end
noncomputable def tri(g:R3):Ac Ae:=[g.1,g.2.1,g.2.2]
theorem Pc(hp:P4 p)(ix:In3 p x)(iy:In3 p y)(lx:AN p (tri x)=Aa 1)(ly:AN p (tri y)=Aa 1)(h:Pr p x y):x=y:=by
 obtain⟨d,dz,e⟩:=h;have p1:1<p:=by have:=hp.lo;omega
 have rs:(tri x).map (fun x=>x%p)=((tri y).map fun x=>d*x).map (fun x=>x%p):=by
  simp only[tri,Bq,EM];rw[show x.1%p=d*y.1%p from e.1,show x.2.1%p=d*y.2.1%p from e.2.1,show x.2.2%p=d*y.2.2%p from e.2.2]
 have el:=Iy hp dz (f:=fun x=>d*x) (fun _=>rfl) (tri y)
 rw[ly,<-Kk rs,lx,DF,BU,C1]at el;have o:Cg p d 1:=by
  show d%p=1%p;rw[<-el,AO (by decide) p1]
 have q:=e.trans ((CgR.sc o CgR.rfl).trans (CgR.of (KG y)));have same:∀{u v:Ae},(0<=u/\u<p)->(0<=v/\v<p)->Cg p u v->u=v:=fun hu hv huv=>by
  have:=show _%p=_%p from huv
  rwa [AO hu.1 hu.2,AO hv.1 hv.2]at this
 exact Br (same ix.1 iy.1 q.1) (Br (same ix.2.1 iy.2.1 q.2.1) (same ix.2.2 iy.2.2 q.2.2))
section
variable{p:Ae}{a b c a' b' c' f0 f1 f2 f3 g0 g1 g2 g3 h0 h1 h2 h3:R3}
end
section
variable{Γ:Gam}{ns:Ac Ae}{p:Ae}
theorem WE(hp:P4 p):GoodR p e0R e1R e2R/\AN p (iW e0R e1R e2R)=Aa 1:=by
 obtain⟨i0,i1,i2,i3⟩:=jL hp;refine⟨⟨hp,i0,i1,i2,(hZ hp).1⟩,?_⟩;rcases hp with rfl|rfl|rfl|rfl<;>decide
end
noncomputable def L3(a b c:R3):Ac D:=[AD a,AD b,AD c]
def Ij(i j:Ae):Prop:=(i=0/\j=1)\/(i=0/\j=2)\/(i=1/\j=0)\/(i=1/\j=2)\/(i=2/\j=0)\/(i=2/\j=1)
theorem fF{m:Ae}(hi:m%3=i)(hj:(i+1+m / 3%2)%3=j):Ij i j:=by
 have i3:i=0\/i=1\/i=2:=by omega
 have e2:m / 3%2=0\/m / 3%2=1:=by omega
 rcases i3 with z|z|z<;>rcases e2 with e|e<;>rw[z,e]at hj
 ·exact .inl ⟨z,hj.symm⟩
 ·exact .inr (.inl ⟨z,hj.symm⟩)
 ·exact .inr (.inr (.inr (.inl ⟨z,hj.symm⟩)))
 ·exact .inr (.inr (.inl ⟨z,hj.symm⟩))
 ·exact .inr (.inr (.inr (.inr (.inl ⟨z,hj.symm⟩))))
 ·exact .inr (.inr (.inr (.inr (.inr ⟨z,hj.symm⟩))))
theorem U2{a b c:R3}(h:GoodR p a b c)(ht:0<t/\t<p)(ij:Ij i j):∃(i' j':Ag)(x y:R3),Dk (L3 a b c) i=.ok (AD x)/\Dk (L3 a b c) j=.ok (AD y)/\plD 3 i=Aa i'/\plD 3 j=Aa j'/\(∃ a' b' c',GoodR p a' b' c'/\((L3 a b c).set i' (AD y)).set j' (AD x)=L3 a' b' c')/\(∃ a' b' c',GoodR p a' b' c'/\(L3 a b c).set i' (AD (scR p t x))=L3 a' b' c')/\(∃ a' b' c',GoodR p a' b' c'/\(L3 a b c).set i' (AD (adR p t x y))=L3 a' b' c'):=by
 have p0:=h.p4.pos;have tz:t%p≠0:=by rw[AO (by omega) ht.2];omega
 rcases ij with ⟨rfl,rfl⟩|⟨rfl,rfl⟩|⟨rfl,rfl⟩|⟨rfl,rfl⟩|⟨rfl,rfl⟩|⟨rfl,rfl⟩
 ·exact⟨0,1,a,b,rfl,rfl,rfl,rfl,⟨b,a,c,h.of (k:=-1) h.p4.m1 (Cg.of (by unfold Ai det;grind)) ⟨h.ib,h.ia,h.ic⟩,rfl⟩,⟨_,_,_,h.of (k:=t) tz (RT p t a b c) ⟨IK p0 _ _,h.ib,h.ic⟩,rfl⟩,⟨_,_,_,h.of (k:=1) h.p4.o1 (gO p t a b c) ⟨IJ p0 _ _ _,h.ib,h.ic⟩,rfl⟩⟩
 ·exact⟨0,2,a,c,rfl,rfl,rfl,rfl,⟨c,b,a,h.of (k:=-1) h.p4.m1 (Cg.of (by unfold Ai det;grind)) ⟨h.ic,h.ib,h.ia⟩,rfl⟩,⟨_,_,_,h.of (k:=t) tz (RT p t a b c) ⟨IK p0 _ _,h.ib,h.ic⟩,rfl⟩,⟨_,_,_,h.of (k:=1) h.p4.o1 (gN p t a b c) ⟨IJ p0 _ _ _,h.ib,h.ic⟩,rfl⟩⟩
 ·exact⟨1,0,b,a,rfl,rfl,rfl,rfl,⟨b,a,c,h.of (k:=-1) h.p4.m1 (Cg.of (by unfold Ai det;grind)) ⟨h.ib,h.ia,h.ic⟩,rfl⟩,⟨_,_,_,h.of (k:=t) tz (RS p t a b c) ⟨h.ia,IK p0 _ _,h.ic⟩,rfl⟩,⟨_,_,_,h.of (k:=1) h.p4.o1 (gM p t a b c) ⟨h.ia,IJ p0 _ _ _,h.ic⟩,rfl⟩⟩
 ·exact⟨1,2,b,c,rfl,rfl,rfl,rfl,⟨a,c,b,h.of (k:=-1) h.p4.m1 (Cg.of (by unfold Ai det;grind)) ⟨h.ia,h.ic,h.ib⟩,rfl⟩,⟨_,_,_,h.of (k:=t) tz (RS p t a b c) ⟨h.ia,IK p0 _ _,h.ic⟩,rfl⟩,⟨_,_,_,h.of (k:=1) h.p4.o1 (gL p t a b c) ⟨h.ia,IJ p0 _ _ _,h.ic⟩,rfl⟩⟩
 ·exact⟨2,0,c,a,rfl,rfl,rfl,rfl,⟨c,b,a,h.of (k:=-1) h.p4.m1 (Cg.of (by unfold Ai det;grind)) ⟨h.ic,h.ib,h.ia⟩,rfl⟩,⟨_,_,_,h.of (k:=t) tz (RQ p t a b c) ⟨h.ia,h.ib,IK p0 _ _⟩,rfl⟩,⟨_,_,_,h.of (k:=1) h.p4.o1 (gK p t a b c) ⟨h.ia,h.ib,IJ p0 _ _ _⟩,rfl⟩⟩
 ·exact⟨2,1,c,b,rfl,rfl,rfl,rfl,⟨a,c,b,h.of (k:=-1) h.p4.m1 (Cg.of (by unfold Ai det;grind)) ⟨h.ia,h.ic,h.ib⟩,rfl⟩,⟨_,_,_,h.of (k:=t) tz (RQ p t a b c) ⟨h.ia,h.ib,IK p0 _ _⟩,rfl⟩,⟨_,_,_,h.of (k:=1) h.p4.o1 (gJ p t a b c) ⟨h.ia,h.ib,IJ p0 _ _ _⟩,rfl⟩⟩
def IF(Γ:Gam)(mid:Ag)(ns:Ac Ae):Prop:=∀ k:Ae,0<=k->∃ m,0<=m/\Γ.F mid [scr ns,.int k]=.ok (.int m)
noncomputable def K9:E:=(.bin .Mod (.bin .Mult (.var 8) (.var 9)) (.var 0))
noncomputable def K8:E:=(.bin .Mod (.bin .Add (.var 10) (.bin .Mult (.var 8) (.var 11))) (.var 0))
noncomputable def EG(mid:Ag):Ss:=(.cons (.asg 5 Ad (.bin .FloorDiv (.call mid (.cons (.var 1) (.cons (.var 4) .nil))) (.int 3))) (.cons (.asg 6 Ad (.bin .Mod (.var 5) (.int 3))) (.cons (.asg 7 Ad (.bin .Mod (.bin .Add (.bin .Add (.var 6) (.int 1)) (.bin .Mod (.bin .FloorDiv (.var 5) (.int 3)) (.int 2))) (.int 3))) (.cons (.asg 8 Ad (.bin .Add (.int 1) (.bin .Mod (.bin .FloorDiv (.var 5) (.int 24)) (.bin .Sub (.var 0) (.int 1))))) (.cons (.ife (.cmp .Eq (.bin .Mod (.bin .FloorDiv (.var 5) (.int 6)) (.int 4)) (.int 0)) (.cons (.swp 3 6 7) .nil) (.cons (.ife (.cmp .Eq (.bin .Mod (.bin .FloorDiv (.var 5) (.int 6)) (.int 4)) (.int 1)) (.cons (.put 3 (.var 6) (.comp K9 9 (.e (.idx (.var 3) (.var 6))) BD)) .nil) (.cons (.put 3 (.var 6) (.compT K8 [10,11] (.zip (.idx (.var 3) (.var 6)) (.idx (.var 3) (.var 7))) BD)) .nil)) .nil)) .nil)))))
noncomputable def Nh(mid:Ag):Df:=⟨12,Ad,(.cons (.asg 3 Ab (.lst (.cons (.lst (.cons (.int 1) (.cons (.int 0) (.cons (.int 0) .nil)))) (.cons (.lst (.cons (.int 0) (.cons (.int 1) (.cons (.int 0) .nil)))) (.cons (.lst (.cons (.int 0) (.cons (.int 0) (.cons (.int 1) .nil)))) .nil))))) (.cons (.fors 4 (.e (.bin .Add (.bi .list (.cons (.tupI (.rng2 (.var 2) (.bin .Add (.var 2) (.int 9)))) .nil)) (.bi .list (.cons (.tupI (.rng2 (.int 23) (.bi .min (.cons (.bi .len (.cons (.var 1) .nil)) (.cons (.int 63) .nil))))) .nil)))) (EG mid)) (.cons (.ret (.var 3)) .nil)))⟩
section
variable{Γ:Gam}{ns:Ac Ae}{mid:Ag}{p:Ae}{a b c:R3}{s2 s4 s5 s6 s7 s8:Sl}
theorem Zp{k cl i j t:Ae}{j':Ag}(hi:Dk L i=.ok (AD x))(hj:Dk L j=.ok (AD y))(pi:plD L.length i=Aa i')(pj:plD L.length j=Aa j')(k0:cl / 6%4=0):evSs Γ [si p,sh (scr ns),s2,Aa (.lst L,Ab),s4,si cl,si i,si j,si t,Af,Af,Af] ((EG mid).drop 4)=.next [si p,sh (scr ns),s2,Aa (.lst ((L.set i' (AD y)).set j' (AD x)),Ab),s4,si cl,si i,si j,si t,Af,Af,Af]:=by
 simp[EG,Ss.drop,k0,XY,KW,B7,Ge,DZ,hi,hj,pi,pj]
theorem Zq{cl:Ae}(hi:Dk L i=.ok (AD x))(pi:plD L.length i=Aa i')(p0:0<p)(mt:∀ x,Du t x=Ab)(k0:¬ cl / 6%4=0)(k1:cl / 6%4=1):evSs Γ [si p,sh (scr ns),s2,Aa (.lst L,Ab),s4,si cl,si i,si j,si t,Af,Af,Af] ((EG mid).drop 4)=.next [si p,sh (scr ns),s2,Aa (.lst (L.set i' (AD (scR p t x))),Ab),s4,si cl,si i,si j,si t,Af,Af,Af]:=by
 have cp:Be (cG Γ [si p,sh (scr ns),s2,Aa (.lst L,Ab),s4,si cl,si i,si j,si t,Af,Af,Af] 9 BD) (cF Γ [si p,sh (scr ns),s2,Aa (.lst L,Ab),s4,si cl,si i,si j,si t,Af,Af,Af] 9 K9) [.int x.1,.int x.2.1,.int x.2.2]=.ok [.int (x.1*t%p),.int (x.2.1*t%p),.int (x.2.2*t%p)]:=by
  refine Ik (φ:=fun x=>x*t%p) [x.1,x.2.1,x.2.2] fun x _=>⟨rfl,?_⟩
  simp[cF,K9,mt,p0,Bs]
 rw[AD]at hi;simp[EG,Ss.drop,k1,Mm,B7,hi,pi,cp];rfl
theorem Zr{cl:Ae}(hi:Dk L i=.ok (AD x))(hj:Dk L j=.ok (AD y))(pi:plD L.length i=Aa i')(p0:0<p)(mt:∀ x,Du t x=Ab)(k0:¬ cl / 6%4=0)(k1:¬ cl / 6%4=1):evSs Γ [si p,sh (scr ns),s2,Aa (.lst L,Ab),s4,si cl,si i,si j,si t,Af,Af,Af] ((EG mid).drop 4)=.next [si p,sh (scr ns),s2,Aa (.lst (L.set i' (AD (adR p t x y))),Ab),s4,si cl,si i,si j,si t,Af,Af,Af]:=by
 have cp:Be (cGT Γ [si p,sh (scr ns),s2,Aa (.lst L,Ab),s4,si cl,si i,si j,si t,Af,Af,Af] [10,11] BD) (cFT Γ [si p,sh (scr ns),s2,Aa (.lst L,Ab),s4,si cl,si i,si j,si t,Af,Af,Af] [10,11] K8) (C4 [.int x.1,.int x.2.1,.int x.2.2] [.int y.1,.int y.2.1,.int y.2.2])=.ok [.int ((x.1+t*y.1)%p),.int ((x.2.1+t*y.2.1)%p),.int ((x.2.2+t*y.2.2)%p)]:=by
  generalize x.1=x0;generalize x.2.1=x1;generalize x.2.2=x2;generalize y.1=y0;generalize y.2.1=y1;generalize y.2.2=y2;simp[Be,cGT,cFT,C4,K8,BD,p0,mt]
 rw[AD]at hi hj;simp[EG,Ss.drop,k0,k1,Mm,B7,hi,hj,pi,cp];rfl
theorem U9(hm:IF Γ mid ns)(h:GoodR p a b c)(hk:0<=k):∃ a' b' c' v5 v6 v7 v8,GoodR p a' b' c'/\Bm Γ 4 (EG mid) (.int k) [si p,sh (scr ns),s2,Aa (.lst (L3 a b c),Ab),s4,s5,s6,s7,s8,Af,Af,Af]=.next [si p,sh (scr ns),s2,Aa (.lst (L3 a' b' c'),Ab),si k,v5,v6,v7,v8,Af,Af,Af]:=by
 have p0:=h.p4.pos;have pl:=h.p4.lo;have ph:=h.p4.hi;obtain⟨m,m0,e0⟩:=hm k hk;generalize hcl:m / 3=cl;have q1:0<p-1:=by omega
 have q2:1<p:=by omega
 have t0:0<1+cl / 24%(p-1):=by have:=A8 (cl / 24) (b:=p-1) (by omega);omega
 have t1:1+cl / 24%(p-1)<p:=by have:=A5 (cl / 24) q1;omega
 generalize ht:1+cl / 24%(p-1)=t at t0 t1;generalize hi:cl%3=i;generalize hj:(i+1+cl / 3%2)%3=j;have ij:=fF hi hj;have hd:evSs Γ [si p,sh (scr ns),s2,Aa (.lst (L3 a b c),Ab),si k,s5,s6,s7,s8,Af,Af,Af] ((EG mid).take 4)=.next [si p,sh (scr ns),s2,Aa (.lst (L3 a b c),Ab),si k,si cl,si i,si j,si t,Af,Af,Af]:=by
  simp[EG,Ss.take,e0,hcl,hi,hj,q1,q2,ht]
 have mt:∀ x,Du t x=Ab:=fun x=>HB (by omega) (by omega)
 obtain⟨i',j',x,y,gi,gj,pi,pj,⟨a1,b1,c1,g1,f1⟩,⟨a2,b2,c2,g2,f2⟩,⟨a3,b3,c3,g3,f3⟩⟩:=U2 h ⟨t0,t1⟩ ij;have pi':plD (L3 a b c).length i=Aa i':=pi;have pj':plD (L3 a b c).length j=Aa j':=pj;have fin:∀ {o},evSs Γ [si p,sh (scr ns),s2,Aa (.lst (L3 a b c),Ab),si k,si cl,si i,si j,si t,Af,Af,Af] ((EG mid).drop 4)=o->Bm Γ 4 (EG mid) (.int k) [si p,sh (scr ns),s2,Aa (.lst (L3 a b c),Ab),s4,s5,s6,s7,s8,Af,Af,Af]=o:=fun {o} h=>by
  show evSs Γ [si p,sh (scr ns),s2,Aa (.lst (L3 a b c),Ab),si k,s5,s6,s7,s8,Af,Af,Af] (EG mid)=o;rw[O0 Γ 4,hd];exact h
 by_cases k0:cl / 6%4=0
 ·refine⟨a1,b1,c1,si cl,si i,si j,si t,g1,fin ?_⟩;rw[Zp (k:=0) gi gj pi' pj' k0,f1]
 ·by_cases k1:cl / 6%4=1
  ·refine⟨a2,b2,c2,si cl,si i,si j,si t,g2,fin ?_⟩;rw[Zq gi pi' p0 mt k0 k1,f2]
  ·refine⟨a3,b3,c3,si cl,si i,si j,si t,g3,fin ?_⟩;rw[Zr gi gj pi' p0 mt k0 k1,f3]
end
theorem OU{x:D}(h:x∈BK lo n):∃ j:Ag,j<n/\x=.int (lo+(j:Ae)):=by
 obtain⟨j,hj⟩:=List.getElem?_of_mem h;exact⟨j,OY hj⟩
theorem LO{hi:Ae}(h1:-1000<=lo)(h2:lo<=1000)(h3:-1000<=hi)(h4:hi<=1000):B5 lo hi=.ok (BK lo (hi-lo).toNat):=by
 unfold B5;rw[AB (by refine⟨⟨by omega,by omega⟩,⟨by omega,by omega⟩,?_⟩;omega)]
def gW(Γ:Gam)(id:Ag)(ns:Ac Ae):Prop:=∀(p:Ae),P4 p->∃ a b c,GoodR p a b c/\Γ.F id [.int p,scr ns,.int 1]=.ok (HH a b c)
theorem dG{mid:Ag}(hl:ns.length<=63)(hm:IF Γ mid ns)(p:Ae)(hp:P4 p):∃ a b c,GoodR p a b c/\(Nh mid).run Γ [.int p,scr ns,.int 1]=.ok (HH a b c):=by
 have g0:GoodR p e0R e1R e2R:=(WE hp).1;have r1:B5 1 10=.ok (BK 1 9):=rfl;generalize hn:(if (63:Ae)<(ns.length:Ae) then (63:Ae) else (ns.length:Ae))=n
 have n0:0<=n/\n<=63:=by split at hn<;>omega
 have r2:B5 23 n=.ok (BK 23 (n-23).toNat):=LO (by decide) (by decide) (by omega) (by omega)
 have ad:CH .Add (.lst (BK 1 9)) (.lst (BK 23 (n-23).toNat))=.ok (.lst (BK 1 9++BK 23 (n-23).toNat)):=by
  rw[MN,AB];rw[Ic,Ic];unfold CB;simp;omega
 obtain⟨ρ',e,a,b,c,s4,s5,s6,s7,s8,g,rfl⟩:=LX (body:=Bm Γ 4 (EG mid)) (fun ρ=>∃ a b c s4 s5 s6 s7 s8,GoodR p a b c/\ρ=[si p,sh (scr ns),si 1,Aa (.lst (L3 a b c),Ab),s4,s5,s6,s7,s8,Af,Af,Af]) (BK 1 9++BK 23 (n-23).toNat) [si p,sh (scr ns),si 1,Aa (.lst (L3 e0R e1R e2R),Ab),Af,Af,Af,Af,Af,Af,Af,Af] ⟨_,_,_,_,_,_,_,_,g0,rfl⟩ (by
  rintro x hx ρ ⟨a,b,c,s4,s5,s6,s7,s8,g,rfl⟩;have hk:∃ k:Ae,0<=k/\x=.int k:=by
   rcases Cu.mp hx with z|z
   ·obtain⟨j,_,rfl⟩:=OU z;exact⟨_,by omega,rfl⟩
   ·obtain⟨j,_,rfl⟩:=OU z;exact⟨_,by omega,rfl⟩
  obtain⟨k,k0,rfl⟩:=hk;obtain⟨a',b',c',v5,v6,v7,v8,g',e⟩:=U9 (s2:=si 1) (s4:=s4) (s5:=s5) (s6:=s6) (s7:=s7) (s8:=s8) hm g k0;exact⟨_,e,a',b',c',_,_,_,_,_,g',rfl⟩)
 refine⟨a,b,c,g,?_⟩;have ln:biD .len [scr ns]=.ok (.int ns.length):=by simp[scr]
 have mn:biD .min [.int (ns.length:Ae),.int 63]=.ok (.int n):=by rw[<-hn];rfl
 have sq:B9 (.lst (BK 1 9++BK 23 (n-23).toNat))=.ok (BK 1 9++BK 23 (n-23).toNat):=rfl;have e':Ci (Bm Γ 4 (EG mid)) (BK 1 9++BK 23 (n-23).toNat) [si p,sh (scr ns),si 1,Aa (.lst [.lst [.int 1,.int 0,.int 0],.lst [.int 0,.int 1,.int 0],.lst [.int 0,.int 0,.int 1]],Ab),Af,Af,Af,Af,Af,Af,Af,Af]=_:=e;generalize BK 1 9=A at *;generalize BK 23 (n-23).toNat=B at *;generalize scr ns=S at *;simp[Nh,Df.run,Bw,DC,ln,mn,r1,r2,ad,sq,e'];rfl
theorem PY{g:D->R An}{f:D->R D}{q:Ae->An}{φ:Ae->Ae}:∀(xs:Ac Ae),(∀ x∈xs,g (.int x)=.ok (q x)/\f (.int x)=.ok (.int (φ x)))->Be g f (ds xs)=.ok (ds ((xs.filter q).map φ))
 |[],_=>rfl
 |x::xs,h=>by
  obtain⟨h1,h2⟩:=h x (Aw ..);have ih:=PY xs fun y hy=>h y (At _ hy)
  show (g (.int x)).bind _=_;rw[h1,R.bind_ok,CT];cases hq:q x with
  |true=>
   rw[AB rfl,AB rfl,h2,R.bind_ok,show Be g f (DQ D.int xs)=_ from ih]
   rfl
  |false=>
   rw[AM (by decide),AM (by decide)]
   exact ih
theorem NT{p:Ae}:∀ xs:Ac Ae,((xs.filter fun x=>decide (x%p≠0)).map fun x=>x%p).head?=AN p xs
 |[]=>rfl
 |x::xs=>by
  unfold AN;rw[CT];by_cases h:x%p=0
  ·rw[AM (by simp[h]),AB h]
   exact NT xs
  ·rw[AB (by simp[h]),AM h]
   rfl
noncomputable def Ld:E:=(.cmp .NotEq (.bin .Mod (.var 4) (.var 0)) (.int 0))
noncomputable def Lg:E:=(.bin .Mod (.var 4) (.var 0))
noncomputable def Lc:E:=(.cmp .Eq (.bin .Mod (.bin .Mult (.var 5) (.var 2)) (.var 0)) (.int 1))
noncomputable def Lf:E:=(.var 5)
noncomputable def Le:E:=(.bin .Mod (.bin .Mult (.var 6) (.var 3)) (.var 0))
noncomputable def K2:Df:=⟨7,Ad,(.cons (.asg 2 Ad (.idx (.comp Lg 4 (.e (.var 1)) Ld) (.int 0))) (.cons (.asg 3 Ad (.idx (.comp Lf 5 (.rng2 (.int 1) (.var 0)) Lc) (.int 0))) (.cons (.ret (.bi .tuple (.cons (.comp Le 6 (.e (.var 1)) BD) .nil))) .nil)))⟩
def Mu(Γ:Gam):Prop:=∀(p:Ae)(b:An)(xs:Ac Ae)(l t:Ae),P4 p->AN p xs=Aa l->FN p l t->Γ.F 158 [.int p,CD b xs]=.ok (.tup (ds (fmI p t xs)))
theorem Xc(Γ:Gam){b:An}{l t:Ae}(hp:P4 p)(e:AN p xs=Aa l)(it:FN p l t):K2.run Γ [.int p,CD b xs]=.ok (.tup (ds (fmI p t xs))):=by
 have p0:=hp.pos;have ph:=hp.hi;have c1:Be (cG Γ [si p,sh (CD b xs),Af,Af,Af,Af,Af] 4 Ld) (cF Γ [si p,sh (CD b xs),Af,Af,Af,Af,Af] 4 Lg) (ds xs)=.ok (ds ((xs.filter fun x=>decide (x%p≠0)).map fun x=>x%p)):=by
  refine PY xs fun x _=>⟨?_,?_⟩
  ·simp[cG,Ld,p0];rw[CI];simp
  ·simp[cF,Lg,p0]
 have hl:=NT (p:=p) xs;rw[e]at hl;generalize ((xs.filter fun x=>decide (x%p≠0)).map fun x=>x%p)=ls at c1 hl
 have g0:=On hl;obtain⟨_,l0,l1⟩:=JA p0 e;have c3:Be (cG Γ [si p,sh (CD b xs),si l,Af,Af,Af,Af] 5 Lc) (cF Γ [si p,sh (CD b xs),si l,Af,Af,Af,Af] 5 Lf) (ds (E1 p))=.ok (ds ((E1 p).filter fun k=>decide (k*l%p=1))):=by
  refine NH (E1 p) fun x hx=>⟨?_,?_⟩
  ·obtain⟨x1,x2⟩:=Ix.mp hx;have m:Du x l=Ab:=HB (by omega) (by omega)
   simp[cG,Lc,m,p0];rw[CI];simp
  ·simp[cF,Lf]
 have g1:=On (Uu it);have c4:Be (cG Γ [si p,sh (CD b xs),si l,si t,Af,Af,Af] 6 BD) (cF Γ [si p,sh (CD b xs),si l,si t,Af,Af,Af] 6 Le) (ds xs)=.ok (ds (xs.map fun x=>x*t%p)):=by
  refine Ik xs fun x _=>⟨rfl,?_⟩
  have m:Du x t=Ab:=Kv (by have:=it.1;omega) (by have:=it.2.1;omega)
  simp[cF,Le,m,p0]
 have ru:B5 1 p=.ok (ds (E1 p)):=ON hp;have fe:fmI p t xs=xs.map fun x=>x*t%p:=by
  unfold fmI;refine E6 fun x _=>?_
  rw[Bs x t,Bk t (x%p) p,Bf _ (BW p),<-Bk]
 simp[K2,Df.run,Bw,Ln,c1,g0,ru,c3,g1,c4,fe]
noncomputable def Js:Df:=⟨3,Ad,(.cons (.asg 2 Ad (.bin .Mod (.var 1) (.bin .Add (.bin .Add (.bin .Mult (.var 0) (.var 0)) (.var 0)) (.int 1)))) (.cons (.ife (.cmp .Eq (.var 2) (.int 0)) (.cons (.ret (.tup (.cons (.int 0) (.cons (.int 0) (.cons (.int 1) .nil))))) .nil) .nil) (.cons (.ife (.cmp .LtE (.var 2) (.var 0)) (.cons (.ret (.tup (.cons (.int 0) (.cons (.int 1) (.cons (.bin .Sub (.var 2) (.int 1)) .nil))))) .nil) .nil) (.cons (.ret (.tup (.cons (.int 1) (.cons (.bin .FloorDiv (.bin .Sub (.bin .Sub (.var 2) (.var 0)) (.int 1)) (.var 0)) (.cons (.bin .Mod (.bin .Sub (.bin .Sub (.var 2) (.var 0)) (.int 1)) (.var 0)) .nil))))) .nil))))⟩
theorem aF(h:1<p):AN p [0,0,1]=Aa 1:=by
 simp[AN,AO (by decide:(0:Ae)<=1) h]
theorem gC(h:1<p)(z:Ae):AN p [0,1,z]=Aa 1:=by
 simp[AN,AO (by decide:(0:Ae)<=1) h]
theorem iX(h:1<p)(y z:Ae):AN p [1,y,z]=Aa 1:=by
 simp[AN,AO (by decide:(0:Ae)<=1) h]
noncomputable def K1:E:=(.bin .Mult (.idx (.var 0) (.var 5)) (.idx (.var 1) (.var 5)))
noncomputable def Nz:Ss:=(.cons (.app 2 (.bin .Add (.bin .Mult (.idx (.var 0) (.var 3)) (.idx (.var 1) (.var 4))) (.bin .Mult (.idx (.var 0) (.var 4)) (.idx (.var 1) (.var 3))))) .nil)
noncomputable def La:Df:=⟨6,Ad,(.cons (.asg 2 Ab (.comp K1 5 (.rng (.int 3)) BD)) (.cons (.forT [3,4] (.e (.lst (.cons (.tup (.cons (.int 0) (.cons (.int 1) .nil))) (.cons (.tup (.cons (.int 0) (.cons (.int 2) .nil))) (.cons (.tup (.cons (.int 1) (.cons (.int 2) .nil))) .nil))))) Nz) (.cons (.ret (.var 2)) .nil)))⟩
noncomputable def prd(a b:R3):C6:=⟨a.1*b.1,a.2.1*b.2.1,a.2.2*b.2.2,a.1*b.2.1+a.2.1*b.1,a.1*b.2.2+a.2.2*b.1,a.2.1*b.2.2+a.2.2*b.2.1⟩
def aP(Γ:Gam):Prop:=∀(p:Ae)(a b:R3),P4 p->In3 p a->In3 p b->Γ.F 160 [AD a,AD b]=.ok (.lst (ds (prd a b).l))
theorem ZA(Γ:Gam)(p:Ae)(a b:R3)(hp:P4 p)(ha:In3 p a)(hb:In3 p b):La.run Γ [AD a,AD b]=.ok (.lst (ds (prd a b).l)):=by
 have ba:=Dy hp ha;have bb:=Dy hp hb;have k:∀ {u v},Bd 10 u->Bd 10 v->DO u v=Ab:=fun hu hv=>EZ hu hv (by decide) (by decide)
 obtain⟨a0,a1,a2⟩:=a;obtain⟨b0,b1,b2⟩:=b;have i0:AT (AD (a0,a1,a2)) (.int 0)=.ok (.int a0):=rfl;have i1:AT (AD (a0,a1,a2)) (.int 1)=.ok (.int a1):=rfl;have i2:AT (AD (a0,a1,a2)) (.int 2)=.ok (.int a2):=rfl;have j0:AT (AD (b0,b1,b2)) (.int 0)=.ok (.int b0):=rfl;have j1:AT (AD (b0,b1,b2)) (.int 1)=.ok (.int b1):=rfl;have j2:AT (AD (b0,b1,b2)) (.int 2)=.ok (.int b2):=rfl;have rg:B5 0 3=.ok [.int 0,.int 1,.int 2]:=rfl;have c1:Be (cG Γ [sh (AD (a0,a1,a2)),sh (AD (b0,b1,b2)),Af,Af,Af,Af] 5 BD) (cF Γ [sh (AD (a0,a1,a2)),sh (AD (b0,b1,b2)),Af,Af,Af,Af] 5 K1) [.int 0,.int 1,.int 2]=.ok [.int (a0*b0),.int (a1*b1),.int (a2*b2)]:=by
  simp[Be,cG,cF,BD,K1,i0,i1,i2,j0,j1,j2,k ba.1 bb.1,k ba.2.1 bb.2.1,k ba.2.2 bb.2.2]
 simp[La,Nz,Df.run,Bw,DC,rg,c1,Ci,Hl,B7,i0,i1,i2,j0,j1,j2,k ba.1 bb.2.1,k ba.2.1 bb.1,k ba.1 bb.2.2,k ba.2.2 bb.1,k ba.2.1 bb.2.2,k ba.2.2 bb.2.1,CB];rfl
noncomputable def Ud:E:=(.bin .Mod (.bin .Mult (.var 9) (.var 9)) (.var 0))
noncomputable def Nw:E:=(.cmp .NotIn (.var 8) (.comp Ud 9 (.rng (.var 0)) BD))
noncomputable def Ny:E:=(.var 8)
noncomputable def J4:E:=(.bin .Sub (.var 10) (.bin .Mult (.var 7) (.var 11)))
noncomputable def Nx:E:=(.bin .Sub (.var 12) (.var 13))
noncomputable def Ie:Df:=⟨14,Ad,(.cons (.asgT [3,4,5] (.var 1)) (.cons (.ife (.cmp .Eq (.var 2) (.int 1)) (.cons (.ret (.call 158 (.cons (.var 0) (.cons (.call 160 (.cons (.var 3) (.cons (.var 3) .nil))) .nil)))) .nil) .nil) (.cons (.ife (.cmp .Eq (.var 2) (.int 2)) (.cons (.ret (.call 158 (.cons (.var 0) (.cons (.call 160 (.cons (.var 3) (.cons (.var 4) .nil))) .nil)))) .nil) .nil) (.cons (.asg 6 Ad (.call 160 (.cons (.var 4) (.cons (.var 4) .nil)))) (.cons (.ife (.cmp .Eq (.var 2) (.int 3)) (.cons (.asg 7 Ad (.bi .min (.cons (.comp Ny 8 (.rng2 (.int 2) (.var 0)) Nw) .nil))) (.cons (.ret (.call 158 (.cons (.var 0) (.cons (.compT J4 [10,11] (.zip (.call 160 (.cons (.var 3) (.cons (.var 3) .nil))) (.var 6)) BD) .nil)))) .nil)) .nil) (.cons (.ret (.call 158 (.cons (.var 0) (.cons (.compT Nx [12,13] (.zip (.call 160 (.cons (.var 3) (.cons (.var 5) .nil))) (.var 6)) BD) .nil)))) .nil))))))⟩
noncomputable def IM(C D:C6):C6:=⟨C.c0-D.c0,C.c1-D.c1,C.c2-D.c2,C.c3-D.c3,C.c4-D.c4,C.c5-D.c5⟩
theorem Ma{p l:Ae}(hp:P4 p)(el:AN p (tri r)=Aa l):∃ u,FN p l u/\In3 p (fmR p u r)/\AN p (tri (fmR p u r))=Aa 1/\Pr p (fmR p u r) r/\fmI p u (tri r)=tri (fmR p u r):=by
 have p0:=hp.pos;obtain⟨lz,_,_⟩:=JA p0 el;obtain⟨t,t1,t2,t3⟩:=ID hp lz;have tz:t%p≠0:=by rw[AO (by omega) t2];omega
 have ff:∀ x,(t*(x%p)%p)%p=t*x%p:=fun x=>by rw[Bf _ (BW p),Bk t (x%p) p,Bf _ (BW p),<-Bk]
 have lv:=Iy hp tz (f:=fun x=>t*(x%p)%p) ff (tri r)
 rw[el,DF,Bs,t3]at lv;exact⟨t,⟨t1,t2,t3⟩,fN p0 t r,lv,⟨t,tz,fO p t r⟩,rfl⟩
theorem L7(h:AN p (tri g)=Af):CgR p g (0,0,0):=by
 have hz:=HA.mp h;have k:∀ x∈tri g,Cg p x 0:=fun x hx=>by show x%p=0%p;rw[hz x hx,Bc]
 exact⟨k _ (by simp[tri]),k _ (by simp[tri]),k _ (by simp[tri])⟩
theorem OM(h:CgR p g (0,0,0)):AN p (tri g)=Af:=by
 refine HA.mpr fun x hx=>?_
 have k:∀{x:Ae},Cg p x 0->x%p=0:=fun {x} h=>by rw[show x%p=_ from h,Bc]
 simp only[tri,As,AF,Bl]at hx;rcases hx with rfl|rfl|rfl
 ·exact k h.1
 ·exact k h.2.1
 ·exact k h.2.2
theorem XN{p l:Ae}{a b c f g:R3}(hp:P4 p)(z:Ai a b c%p≠0)(lf:AN p (tri f)=Aa l)(h:CgR p g (ap a b c f)):∃ l,AN p (tri g)=Aa l:=by
 cases el:AN p (tri g) with
 |some l=>exact⟨l,rfl⟩
 |none=>
  have q0:CgR p (ap a b c f) (0,0,0):=h.symm.trans (L7 el);have q1:CgR p (BB (Ai a b c) f) (0,0,0):=by
   have:=Re (CgR.rfl (a:=bk0 a b c)) (CgR.rfl (a:=bk1 a b c)) (CgR.rfl (a:=bk2 a b c)) q0;rw[Rg]at this;refine this.trans (CgR.of ?_);unfold ap AA;simp
  obtain⟨u,uz,o⟩:=Qo hp z;have q2:CgR p f (0,0,0):=by
   have w:=CgR.sc (k:=u) (k':=u) Cg.rfl q1;rw[MU]at w;refine((CgR.of (KG f).symm).trans (CgR.sc o.symm CgR.rfl)).trans (w.trans (CgR.of ?_));unfold BB;simp
  rw[OM q2]at lf;cases lf
theorem Qz(a b c v:R3):ap a b c (ap (bk0 a b c) (bk1 a b c) (bk2 a b c) v)=BB (Ai a b c) v:=by
 unfold ap BB AA bk0 bk1 bk2 DY DX DW crs Ai det;refine Br ?_ (Br ?_ ?_)<;>(simp only;grind)
noncomputable def Jt:Df:=⟨8,Ad,(.cons (.asgT [2,3,4] (.var 0)) (.cons (.asgT [5,6,7] (.var 1)) (.cons (.ret (.lst (.cons (.bin .Sub (.bin .Mult (.var 3) (.var 7)) (.bin .Mult (.var 4) (.var 6))) (.cons (.bin .Sub (.bin .Mult (.var 4) (.var 5)) (.bin .Mult (.var 2) (.var 7))) (.cons (.bin .Sub (.bin .Mult (.var 2) (.var 6)) (.bin .Mult (.var 3) (.var 5))) .nil))))) .nil)))⟩
noncomputable def K7:E:=(.bin .Mult (.var 7) (.var 8))
noncomputable def K4:Df:=⟨9,Ad,(.cons (.asgT [3,4,5] (.var 2)) (.cons (.asg 6 Ad (.lst (.cons (.bin .Mult (.var 3) (.var 3)) (.cons (.bin .Mult (.var 4) (.var 4)) (.cons (.bin .Mult (.var 5) (.var 5)) (.cons (.bin .Mult (.var 3) (.var 4)) (.cons (.bin .Mult (.var 3) (.var 5)) (.cons (.bin .Mult (.var 4) (.var 5)) .nil)))))))) (.cons (.ret (.bin .Mod (.bi .sum (.cons (.compT K7 [7,8] (.zip (.var 1) (.var 6)) BD) .nil)) (.var 0))) .nil)))⟩
section
variable{Γ:Gam}{ns:Ac Ae}{p:Ae}{C:C6}{s3 s4 s5 s6 s7 s8:Sl}
end
noncomputable def Jq:Ss:=(.cons (.asg 2 Ad (.bin .FloorDiv (.var 2) (.int 1000033))) .nil)
noncomputable def Jp:Df:=⟨4,Ad,(.cons (.asg 2 Ad (.int 0)) (.cons (.ife (.cmp .Gt (.bi .len (.cons (.var 0) .nil)) (.int 0)) (.cons (.asg 2 Ad (.idx (.var 0) (.bin .Mod (.var 1) (.bi .len (.cons (.var 0) .nil))))) .nil) .nil) (.cons (.ife (.cmp .Eq (.bin .Mod (.bi .len (.cons (.var 0) .nil)) (.int 2)) (.int 0)) (.cons (.fors 3 (.rng (.bi .min (.cons (.int 60) (.cons (.bin .FloorDiv (.var 1) (.bi .max (.cons (.int 1) (.cons (.bi .len (.cons (.var 0) .nil)) .nil)))) .nil)))) Jq) (.cons (.ret (.bin .Mod (.var 2) (.int 1000033))) .nil)) .nil) (.cons (.ret (.bin .Mod (.bin .Mult (.bin .Mod (.bin .Mult (.bin .Add (.bin .Add (.bin .Mod (.var 2) (.int 1000003)) (.bin .Mult (.int 7919) (.var 1))) (.int 11)) (.int 48271)) (.int 1000033)) (.int 69621)) (.int 1000033))) .nil))))⟩
section
variable{Γ:Gam}{ns:Ac Ae}
theorem V4(k x:Ae)(n:Ag):∃ y s3,Ci (Bm Γ 3 Jq) (BK 0 n) [sh (scr ns),si k,si x,Af]=.next [sh (scr ns),si k,si y,s3]:=by
 obtain⟨ρ',e,y,s3,rfl⟩:=LX (body:=Bm Γ 3 Jq) (fun ρ=>∃ y s3,ρ=[sh (scr ns),si k,si y,s3]) (BK 0 n) [sh (scr ns),si k,si x,Af] ⟨x,Af,rfl⟩ (by
  rintro z hz ρ ⟨y,s3,rfl⟩;obtain⟨j,_,rfl⟩:=LU hz;exact⟨[sh (scr ns),si k,si (y / 1000033),si (0+(j:Ae))],by simp[Bm,Jq],_,_,rfl⟩)
 exact⟨y,s3,e⟩
theorem ZC(Γ:Gam)(ns:Ac Ae)(hl:ns.length<=63)(k:Ae)(k0:0<=k):∃ m,0<=m/\Jp.run Γ [scr ns,.int k]=.ok (.int m):=by
 have m1:Du 7919 k=Ab:=HB (by decide) (by decide)
 have m2:∀ x,Du x 48271=Ab:=fun x=>Kv (by decide) (by decide)
 have m3:∀ x,Du x 69621=Ab:=fun x=>Kv (by decide) (by decide)
 generalize hn:(ns.length:Ae)=n;have n0:0<=n:=by omega
 have n1:n<=63:=by omega
 have len:biD .len [scr ns]=.ok (.int n):=by rw[<-hn];show R.ok (D.int ((ns.map D.int).length:Ag))=_;rw[BE]
 have fin:∀ x hi:Ae,0<=hi->hi<=60->∃ y s3,Nm Γ 3 Jq [sh (scr ns),si k,si x,Af] (B5 0 hi)=.next [sh (scr ns),si k,si y,s3]:=fun x hi h0 h1=>by
  rw[UM h0 (by omega)]
  exact V4 (Γ:=Γ) (ns:=ns) k x hi.toNat
 have mx:0<(if 1<n then n else 1)/\(if 1<n then n else 1)<1073741824:=by split<;>omega
 generalize hM:(if 1<n then n else 1)=M at mx
 have hi:∀ q:Ae,0<=q->0<=(if q<60 then q else 60)/\(if q<60 then q else 60)<=60:=fun q h=>by split<;>omega
 have q0:0<=k / M:=Sd k0 (by omega)
 obtain⟨u1,u2⟩:=hi _ q0;by_cases hp:0<n
 ·have r0:0<=k%n:=A8 _ (by omega)
  have r1:k%n<ns.length:=by rw[hn];exact A5 _ hp
  have g:=XQ r0 r1;generalize ns.getD (k%n).toNat 0=x at g;by_cases h2:n%2=0
  ·obtain⟨y,s3,e⟩:=fin x _ u1 u2;refine⟨y%1000033,A8 _ (by decide),?_⟩
   have gx:AT (scr ns) (.int (k%n))=.ok (.int x):=g;simp[Jp,Df.run,Bw,len,hp,gx,h2,hM,mx.1,mx.2,e]
  ·refine⟨((x%1000003+7919*k+11)*48271%1000033)*69621%1000033,A8 _ (by decide),?_⟩
   have gx:AT (scr ns) (.int (k%n))=.ok (.int x):=g;simp[Jp,Df.run,Bw,len,hp,gx,h2,m1,m2,m3]
 ·have z:n=0:=by omega
  subst z;obtain⟨y,s3,e⟩:=fin 0 _ u1 u2;refine⟨y%1000033,A8 _ (by decide),?_⟩
  have hM':M=1:=by rw[<-hM];rfl
  subst hM';simp at e;simp[Jp,Df.run,Bw,len,e]
end
noncomputable def MI:Df:=⟨3,Ad,(.cons (.ret (.call 17 (.cons (.var 0) (.cons (.call 23 (.cons (.var 1) (.cons (.var 2) .nil))) .nil)))) .nil)⟩
theorem OE{a b:R3}(hp:P4 p)(h:CgR p (crs a b) (0,0,0))(la:AN p (tri a)=Aa 1)(lb:AN p (tri b)=Aa 1):Pr p b a:=by
 obtain⟨h0,h1,h2⟩:=h;have p1:1<p:=by have:=hp.lo;omega
 have sw:∀{x y:Ae},Cg p (x-y) 0->Cg p x y:=fun {x y} h=>by
  have:=h.add (Cg.rfl (a:=y))
  rwa [Int.sub_add_cancel,Ed]at this
 have e0:Cg p (a.2.1*b.2.2) (a.2.2*b.2.1):=sw h0;have e1:Cg p (a.2.2*b.1) (a.1*b.2.2):=sw h1;have e2:Cg p (a.1*b.2.1) (a.2.1*b.1):=sw h2;have one:∀{x:Ae},x%p=1->Cg p x 1:=fun {x} h=>by show x%p=1%p;rw[h,AO (by decide) p1]
 have fin:∀ k,CgR p b (BB k a)->Pr p b a:=fun k hk=>by
  refine⟨k,fun z=>?_,hk⟩
  have:CgR p b (0,0,0):=by
   have kz:Cg p k 0:=by show k%p=0%p;rw[z,Bc]
   refine hk.trans ((CgR.sc kz CgR.rfl).trans (CgR.of ?_));unfold BB;simp
  rw[OM this]at lb;cases lb
 unfold tri AN at la;by_cases z0:a.1%p=0
 ·rw[AB z0]at la;have c0:Cg p a.1 0:=by show a.1%p=0%p;rw[z0,Bc]
  unfold AN at la;by_cases z1:a.2.1%p=0
  ·rw[AB z1]at la;have c1:Cg p a.2.1 0:=by show a.2.1%p=0%p;rw[z1,Bc]
   unfold AN at la;by_cases z2:a.2.2%p=0
   ·rw[AB z2]at la;cases la
   ·rw[AM z2,BU]at la;have c2:=one la;refine fin b.2.2 ⟨?_,?_,?_⟩
    ·have:=(c2.symm.mul (Cg.rfl (a:=b.1))).trans e1;rw[Cw]at this;exact this.trans (Cg.of (Bs _ _))
    ·have:=(c2.symm.mul (Cg.rfl (a:=b.2.1))).trans e0.symm;rw[Cw]at this;exact this.trans (Cg.of (Bs _ _))
    ·have:=(Cg.rfl (a:=b.2.2)).mul c2;rw[C1]at this;exact this.symm
  ·rw[AM z1,BU]at la;have c1:=one la;refine fin b.2.1 ⟨?_,?_,?_⟩
   ·have:=(c1.symm.mul (Cg.rfl (a:=b.1))).trans e2.symm;rw[Cw]at this;exact this.trans (Cg.of (Bs _ _))
   ·have:=(Cg.rfl (a:=b.2.1)).mul c1;rw[C1]at this;exact this.symm
   ·have:=(c1.symm.mul (Cg.rfl (a:=b.2.2))).trans e0;rw[Cw]at this;exact this.trans (Cg.of (Bs _ _))
 ·rw[AM z0,BU]at la;have c0:=one la;refine fin b.1 ⟨?_,?_,?_⟩
  ·have:=(Cg.rfl (a:=b.1)).mul c0;rw[C1]at this;exact this.symm
  ·have:=(c0.symm.mul (Cg.rfl (a:=b.2.1))).trans e2;rw[Cw]at this;exact this.trans (Cg.of (Bs _ _))
  ·have:=(c0.symm.mul (Cg.rfl (a:=b.2.2))).trans e1.symm;rw[Cw]at this;exact this.trans (Cg.of (Bs _ _))
def KD(Γ:Gam):Prop:=∀(p:Ae)(a b:R3),P4 p->In3 p a->In3 p b->AN p (tri a)=Aa 1->AN p (tri b)=Aa 1->a≠b->∃ y,In3 p y/\AN p (tri y)=Aa 1/\Pr p y (crs a b)/\Γ.F 57 [.int p,Ar Ab a,Ar Ab b]=.ok (Ar Ab y)
theorem Qc(hc:PB Γ)(hf:Kx Γ)(p:Ae)(a b:R3)(hp:P4 p)(ia:In3 p a)(ib:In3 p b)(la:AN p (tri a)=Aa 1)(lb:AN p (tri b)=Aa 1)(ne:a≠b):∃ y,In3 p y/\AN p (tri y)=Aa 1/\Pr p y (crs a b)/\MI.run Γ [.int p,Ar Ab a,Ar Ab b]=.ok (Ar Ab y):=by
 have e1:=hc a b ((Dy hp ia).b3 (by decide)) ((Dy hp ib).b3 (by decide)) ne
 cases el:AN p (tri (crs a b)) with
 |none=>exact absurd (Pc hp ib ia lb la (OE hp (L7 el) la lb)).symm ne
 |some l=>
  obtain⟨u,iu,j,l1,pr,ef⟩:=Ma hp el;have e2:=hf p Ab _ l u hp el iu;rw[ef]at e2;have e2':Γ.F 17 [.int p,Ar Ab (crs a b)]=.ok (Ar Ab (fmR p u (crs a b))):=e2;refine⟨_,j,l1,pr,?_⟩;generalize Ar Ab (fmR p u (crs a b))=Y at *;simp[MI,Df.run,Bw,e1,e2']
noncomputable def Lo:E:=(.bin .Mult (.var 3) (.var 4))
noncomputable def LZ:Df:=⟨5,Ad,(.cons (.ret (.cmp .Eq (.bin .Mod (.bi .sum (.cons (.compT Lo [3,4] (.zip (.var 2) (.var 1)) BD) .nil)) (.var 0)) (.int 0))) .nil)⟩
def JM(Γ:Gam):Prop:=∀(p:Ae)(C:C6)(x:R3),P4 p->InC p C->In3 p x->Γ.F 162 [.int p,Bx C,Ar Ab x]=.ok (.int (vI C x%p))
theorem ZE(Γ:Gam)(p:Ae)(C:C6)(x:R3)(hp:P4 p)(iC:InC p C)(ix:In3 p x):K4.run Γ [.int p,Bx C,Ar Ab x]=.ok (.int (vI C x%p)):=by
 have p0:=hp.pos;have bC:=iC.b hp;have bx:=Dy hp ix;have k:∀ {u v},Bd 10 u->Bd 10 v->DO u v=Ab:=fun hu hv=>EZ hu hv (by decide) (by decide)
 have k2:∀ {u v w},Bd 10 u->Bd 10 v->Bd 10 w->DO u (v*w)=Ab:=fun hu hv hw=>EZ hu (hv.mul hw) (by decide) (by decide)
 obtain⟨c0,c1,c2,c3,c4,c5⟩:=C;obtain⟨x0,x1,x2⟩:=x;have q00:=k bx.1 bx.1;have q11:=k bx.2.1 bx.2.1;have q22:=k bx.2.2 bx.2.2;have q01:=k bx.1 bx.2.1;have q02:=k bx.1 bx.2.2;have q12:=k bx.2.1 bx.2.2;have m0:=k2 bC.b0 bx.1 bx.1;have m1:=k2 bC.b1 bx.2.1 bx.2.1;have m2:=k2 bC.b2 bx.2.2 bx.2.2;have m3:=k2 bC.b3 bx.1 bx.2.1;have m4:=k2 bC.b4 bx.1 bx.2.2;have m5:=k2 bC.b5 bx.2.1 bx.2.2;simp only at q00 q11 q22 q01 q02 q12 m0 m1 m2 m3 m4 m5;have sC:B9 (Bx ⟨c0,c1,c2,c3,c4,c5⟩)=.ok [.int c0,.int c1,.int c2,.int c3,.int c4,.int c5]:=rfl;have as:∀ ρ:Rho,FH [3,4,5] (Ar Ab (x0,x1,x2)) ρ=.ok (((ρ.set 3 (si x0)).set 4 (si x1)).set 5 (si x2)):=fun _=>rfl
 have ev:vI ⟨c0,c1,c2,c3,c4,c5⟩ (x0,x1,x2)=c0*(x0*x0)+c1*(x1*x1)+c2*(x2*x2)+c3*(x0*x1)+c4*(x0*x2)+c5*(x1*x2):=by
  unfold vI;simp only;grind
 rw[ev];generalize Bx ⟨c0,c1,c2,c3,c4,c5⟩=cC at *;generalize Ar Ab (x0,x1,x2)=xx at *;generalize hz0:x0*x0=z0 at *;generalize hz1:x1*x1=z1 at *;generalize hz2:x2*x2=z2 at *;generalize hz3:x0*x1=z3 at *;generalize hz4:x0*x2=z4 at *;generalize hz5:x1*x2=z5 at *;have cp:Be (cGT Γ [si p,sh cC,sh xx,si x0,si x1,si x2,sh (.lst [.int z0,.int z1,.int z2,.int z3,.int z4,.int z5]),Af,Af] [7,8] BD) (cFT Γ [si p,sh cC,sh xx,si x0,si x1,si x2,sh (.lst [.int z0,.int z1,.int z2,.int z3,.int z4,.int z5]),Af,Af] [7,8] K7) (C4 [.int c0,.int c1,.int c2,.int c3,.int c4,.int c5] [.int z0,.int z1,.int z2,.int z3,.int z4,.int z5])=.ok [.int (c0*z0),.int (c1*z1),.int (c2*z2),.int (c3*z3),.int (c4*z4),.int (c5*z5)]:=by
  simp[Be,cGT,cFT,C4,K7,BD,m0,m1,m2,m3,m4,m5]
 generalize hs:c0*z0+c1*z1+c2*z2+c3*z3+c4*z4+c5*z5=s;have sm:Fk 0 [.int (c0*z0),.int (c1*z1),.int (c2*z2),.int (c3*z3),.int (c4*z4),.int (c5*z5)]=.ok s:=by rw[<-hs];simp[Fk]
 simp[K4,Df.run,Bw,as,q00,q11,q22,q01,q02,q12,hz0,hz1,hz2,hz3,hz4,hz5,sC,cp,sm,p0]
theorem Mo(a b:R3):AA (crs a b) a=0/\AA (crs a b) b=0:=by
 unfold AA crs;constructor<;>grind
theorem DN{x:Ae}(hp:P4 p)(kz:k%p≠0):k*x%p=0↔x%p=0:=by
 constructor
 ·intro z;exact CG fun n=>Cq hp kz n z
 ·intro z;rw[Bk,z,B8,Bc]
theorem Q4(hp:P4 p)(hx:Pr p x x')(hy:Pr p y y'):(AA x y%p=0)↔(AA x' y'%p=0):=by
 obtain⟨d,dz,e⟩:=hx;obtain⟨d',dz',e'⟩:=hy;have q:Cg p (AA x y) (d*d'*AA x' y'):=(G1 e e').trans (Cg.of (by unfold AA BB;simp only;grind))
 rw[show AA x y%p=_ from q]
 exact DN hp (Cq hp dz dz')
section
variable{Γ:Gam}{ns:Ac Ae}{p:Ae}{C:C6}{s3 s4 s5 s6 s7 s8:Sl}
end
def NF(p:Ae)(x:R3):Prop:=In3 p x/\AN p (tri x)=Aa 1
noncomputable def ptI(p n:Ae):R3:=if n=0 then (0,0,1) else if n<=p then (0,1,n-1) else (1,(n-p-1) / p,(n-p-1)%p)
noncomputable def Dz(p:Ae):Ac R3:=(Co (p*p+p+1).toNat).map fun(n:Ag)=>ptI p n
theorem dY{n:Ae}(hp:P4 p)(h0:0<=n)(h1:n<p*p+p+1):NF p (ptI p n):=by
 have p1:1<p:=by have:=hp.lo;omega
 have p0:=hp.pos;unfold ptI;by_cases z:n=0
 ·rw[AB z];exact⟨⟨⟨by decide,p0⟩,⟨by decide,p0⟩,⟨by decide,p1⟩⟩,aF p1⟩
 ·rw[AM z];by_cases z1:n<=p
  ·rw[AB z1];exact⟨⟨⟨Hr 0,p0⟩,⟨(by decide:(0:Ae)<=1),p1⟩,⟨by show 0<=n-1;omega,by show n-1<p;omega⟩⟩,gC p1 _⟩
  ·rw[AM z1];have d0:0<=(n-p-1) / p:=Sd (by omega) (by omega)
   have d1:(n-p-1) / p<p:=by rw[Int.ediv_lt_iff_lt_mul p0];omega
   exact⟨⟨⟨(by decide:(0:Ae)<=1),p1⟩,⟨d0,d1⟩,⟨A8 _ (by omega),A5 _ p0⟩⟩,iX p1 _ _⟩
theorem fW(hp:P4 p)(h:NF p x):∃ n:Ae,0<=n/\n<p*p+p+1/\x=ptI p n:=by
 obtain⟨⟨i0,i1,i2⟩,l⟩:=h;have p1:1<p:=by have:=hp.lo;omega
 have p0:=hp.pos;have pp:=Hs p0 p0;obtain⟨x0,x1,x2⟩:=x;simp only at i0 i1 i2;unfold tri AN at l;simp only at l;rw[AO i0.1 i0.2]at l;by_cases z0:x0=0
 ·rw[AB z0]at l;unfold AN at l;rw[AO i1.1 i1.2]at l;by_cases z1:x1=0
  ·rw[AB z1]at l;unfold AN at l;rw[AO i2.1 i2.2]at l;by_cases z2:x2=0
   ·rw[AB z2]at l;cases l
   ·rw[AM z2,BU]at l;exact⟨0,Hr 0,by omega,by rw[z0,z1,l];rfl⟩
  ·rw[AM z1,BU]at l;refine⟨x2+1,by omega,by omega,?_⟩
   unfold ptI;rw[AM (by omega),AB (by omega),z0,l,Int.add_sub_cancel]
 ·rw[AM z0,BU]at l;have m1:p*x1<=p*(p-1):=Int.mul_le_mul_of_nonneg_left (by omega) (by omega)
  have m0:0<=p*x1:=Se (by omega) i1.1
  rw[Int.mul_sub,C1]at m1;refine⟨p+1+p*x1+x2,by omega,by omega,?_⟩
  unfold ptI;have e:p+1+p*x1+x2-p-1=x2+p*x1:=by omega
  rw[AM (by omega),AM (by omega),e,Int.add_mul_ediv_left _ _ (by omega),Int.ediv_eq_zero_of_lt i2.1 i2.2,Int.add_mul_emod_self_left,AO i2.1 i2.2,Ed,l]
theorem Fd(hp:P4 p):x∈Dz p↔NF p x:=by
 have p0:=hp.pos;have pp:=Hs p0 p0;constructor
 ·intro h;obtain⟨n,hn,rfl⟩:=CJ.mp h;have:=CU.mp hn;exact dY hp (by omega) (by omega)
 ·intro h;obtain⟨n,n0,n1,rfl⟩:=fW hp h;refine CJ.mpr ⟨n.toNat,CU.mpr (by omega),?_⟩
  rw[Int.toNat_of_nonneg n0]
theorem NP(hp:P4 p):(Dz p).Nodup:=by
 rcases hp with rfl|rfl|rfl|rfl<;>decide +kernel
theorem Mk{α:Type}[DecidableEq α]:∀{l1 l2:Ac α},l1.Nodup->(∀ x∈l1,x∈l2)->l1.length<=l2.length
 |[],_,_,_=>Gs _
 |x::l1,l2,nd,h=>by
  obtain⟨n1,n2⟩:=BF.mp nd;have hx:=h x Aw;have:=Mk (l1:=l1) (l2:=l2.erase x) n2 fun y hy=>by
   have hy2:=h y (At _ hy);have ne:y≠x:=fun e=>n1 (e ▸ hy)
   exact(List.mem_erase_of_ne ne).mpr hy2
  rw[List.length_erase_of_mem hx]at this;have l0:0<l2.length:=List.length_pos_of_mem hx;rw[BG];omega
theorem LR{α β:Type}{f:α->β}:∀{l:Ac α},l.Nodup->(∀ x∈l,∀ y∈l,f x=f y->x=y)->(l.map f).Nodup
 |[],_,_=>CV
 |x::l,nd,h=>by
  obtain⟨n1,n2⟩:=BF.mp nd;rw[Bq,BF];refine⟨fun m=>?_,LR n2 fun y hy z hz=>h y (At _ hy) z (At _ hz)⟩
  obtain⟨y,hy,e⟩:=CJ.mp m;have:=h y (At _ hy) x Aw e;exact n1 (this ▸ hy)
theorem X5[DecidableEq α]{l:Ac α}(nd:l.Nodup)(F G:α->α)(hF:∀ x∈l,F x∈l)(hG:∀ y∈l,G y∈l)(GF:∀ x∈l,G (F x)=x)(FG:∀ y∈l,F (G y)=y)(Q:α->An):(l.filter fun x=>Q (F x)).length=(l.filter Q).length:=by
 refine Nat.le_antisymm ?_ ?_
 ·have n:((l.filter fun x=>Q (F x)).map F).Nodup:=LR (nd.filter _) fun x hx y hy e=>by
   have h1:=GF x (Bj.mp hx).1;have h2:=GF y (Bj.mp hy).1;rw[<-h1,<-h2,e]
  have:=Mk (l2:=l.filter Q) n fun z hz=>by
   obtain⟨x,hx,rfl⟩:=CJ.mp hz;obtain⟨h1,h2⟩:=Bj.mp hx;exact Bj.mpr ⟨hF x h1,h2⟩
  rwa [BE]at this
 ·have n:((l.filter Q).map G).Nodup:=LR (nd.filter _) fun x hx y hy e=>by
   have h1:=FG x (Bj.mp hx).1;have h2:=FG y (Bj.mp hy).1;rw[<-h1,<-h2,e]
  have:=Mk (l2:=l.filter fun x=>Q (F x)) n fun z hz=>by
   obtain⟨x,hx,rfl⟩:=CJ.mp hz;obtain⟨h1,h2⟩:=Bj.mp hx;exact Bj.mpr ⟨hG x h1,by rw[FG x h1];exact h2⟩
  rwa [BE]at this
noncomputable def nrm(p:Ae)(r:R3):R3:=open Classical in if h:∃ y,NF p y/\Pr p y r then Sa h else r
theorem OR{p l:Ae}(hp:P4 p)(el:AN p (tri r)=Aa l):NF p (nrm p r)/\Pr p (nrm p r) r:=by
 have h:∃ y,NF p y/\Pr p y r:=by
  obtain⟨u,iu,j,l1,pr,_⟩:=Ma hp el;exact⟨_,⟨j,l1⟩,pr⟩
 unfold nrm;rw[dif_pos h];exact DL h
theorem Hj{a b c x:R3}(hp:P4 p)(z:Ai a b c%p≠0)(hx:NF p x):NF p (nrm p (ap a b c x))/\Pr p (nrm p (ap a b c x)) (ap a b c x):=by
 obtain⟨l,el⟩:=XN hp z hx.2 CgR.rfl;exact OR hp el
theorem KN(hp:P4 p)(hx:NF p x)(hy:NF p y)(h:Pr p x y):x=y:=Pc hp hx.1 hy.1 hx.2 hy.2 h
theorem LS{a b c x:R3}(hp:P4 p)(z:Ai a b c%p≠0)(hx:NF p x):nrm p (ap (bk0 a b c) (bk1 a b c) (bk2 a b c) (nrm p (ap a b c x)))=x:=by
 obtain⟨h1,h2⟩:=Hj hp z hx;have zB:Ai (bk0 a b c) (bk1 a b c) (bk2 a b c)%p≠0:=by rw[MK];exact Cq hp z z
 obtain⟨h3,h4⟩:=Hj hp zB h1;refine KN hp h3 hx (h4.trans hp ((Pr.ap h2).trans hp ?_));rw[Rg];exact⟨_,z,CgR.rfl⟩
theorem UI{a b c x:R3}(hp:P4 p)(z:Ai a b c%p≠0)(hx:NF p x):nrm p (ap a b c (nrm p (ap (bk0 a b c) (bk1 a b c) (bk2 a b c) x)))=x:=by
 have zB:Ai (bk0 a b c) (bk1 a b c) (bk2 a b c)%p≠0:=by rw[MK];exact Cq hp z z
 obtain⟨h1,h2⟩:=Hj hp zB hx;obtain⟨h3,h4⟩:=Hj hp z h1;refine KN hp h3 hx (h4.trans hp ((Pr.ap h2).trans hp ?_));rw[Qz];exact⟨_,z,CgR.rfl⟩
theorem X4{a b c:R3}(hp:P4 p)(z:Ai a b c%p≠0)(Q:R3->An):((Dz p).filter fun x=>Q (nrm p (ap a b c x))).length=((Dz p).filter Q).length:=by
 have zB:Ai (bk0 a b c) (bk1 a b c) (bk2 a b c)%p≠0:=by rw[MK];exact Cq hp z z
 exact X5 (NP hp) (fun x=>nrm p (ap a b c x)) (fun x=>nrm p (ap (bk0 a b c) (bk1 a b c) (bk2 a b c) x)) (fun x hx=>(Fd hp).mpr (Hj hp z ((Fd hp).mp hx)).1) (fun x hx=>(Fd hp).mpr (Hj hp zB ((Fd hp).mp hx)).1) (fun x hx=>LS hp z ((Fd hp).mp hx)) (fun x hx=>UI hp z ((Fd hp).mp hx)) Q
noncomputable def Fl(p:Ae):Ae:=if p=7 then 3 else 2
noncomputable def q4(w:Ag)(k:Ae)(y:R3):Ae:=match w with
  |0=>y.1*y.2.2-y.2.1*y.2.1
  |1=>y.1*y.1
  |2=>y.1*y.2.1
  |_=>y.1*y.1-k*(y.2.1*y.2.1)
noncomputable def E4(w:Ag)(k:Ae)(a b c:R3):C6:=match w with
  |0=>IM (prd a c) (prd b b)
  |1=>prd a a
  |2=>prd a b
  |_=>IM (prd a a) (scC k (prd b b))
def W4(w:Ag):Prop:=w=0\/w=1\/w=2\/w=3
theorem GW(u v x:R3):vI (prd u v) x=AA u x*AA v x:=by
 unfold vI prd AA;simp only;grind
theorem Qh(A B:C6)(x:R3):vI (IM A B) x=vI A x-vI B x:=by
 unfold vI IM;simp only;grind
theorem HF(k:Ae)(A:C6)(x:R3):vI (scC k A) x=k*vI A x:=by
 unfold vI scC;simp only;grind
theorem Ru(hw:W4 w)(k:Ae)(a b c x:R3):vI (E4 w k a b c) x=q4 w k (ap a b c x):=by
 rcases hw with rfl|rfl|rfl|rfl
 ·show vI (IM _ _) x=AA a x*AA c x-AA b x*AA b x;rw[Qh,GW,GW]
 ·show vI (prd _ _) x=AA a x*AA a x;rw[GW]
 ·show vI (prd _ _) x=AA a x*AA b x;rw[GW]
 ·show vI (IM _ _) x=AA a x*AA a x-k*(AA b x*AA b x);rw[Qh,HF,GW,GW]
theorem QS(hw:W4 w)(k d:Ae)(y:R3):q4 w k (BB d y)=d*d*q4 w k y:=by
 rcases hw with rfl|rfl|rfl|rfl<;>(unfold q4 BB;simp only;grind)
theorem dW(hw:W4 w)(h:CgR p y y'):Cg p (q4 w k y) (q4 w k y'):=by
 rcases hw with rfl|rfl|rfl|rfl
 ·exact(h.1.mul h.2.2).sub (h.2.1.mul h.2.1)
 ·exact h.1.mul h.1
 ·exact h.1.mul h.2.1
 ·exact(h.1.mul h.1).sub (Cg.rfl.mul (h.2.1.mul h.2.1))
theorem dU(hw:W4 w)(hp:P4 p)(h:Pr p y y'):(q4 w k y%p=0)↔(q4 w k y'%p=0):=by
 obtain⟨d,dz,e⟩:=h;have q:=(dW (k:=k) hw e).trans (Cg.of (QS hw k d y'));rw[show q4 w k y%p=_ from q]
 exact DN hp (Cq hp dz dz)
theorem QP(hw:W4 w){a b c x:R3}(hp:P4 p)(z:Ai a b c%p≠0)(h:PrC p C (E4 w k a b c))(hx:NF p x):(vI C x%p=0)↔(q4 w k (nrm p (ap a b c x))%p=0):=by
 rw[dU hw hp (Hj hp z hx).2,<-Ru hw];obtain⟨d,dz,e⟩:=h;have q:=(Gi e CgR.rfl (x:=x)).trans (Cg.of (HF d _ x));rw[show vI C x%p=_ from q]
 exact DN hp dz
noncomputable def Rt(p:Ae)(w:Ag):Ag:=match w with
  |0=>(p+1).toNat
  |1=>(p+1).toNat
  |2=>(2*p+1).toNat
  |_=>1
theorem jM(hp:P4 p)(hw:W4 w):((Dz p).filter fun y=>decide (q4 w (Fl p) y%p=0)).length=Rt p w:=by
 rcases hp with rfl|rfl|rfl|rfl<;>rcases hw with rfl|rfl|rfl|rfl<;>decide +kernel
noncomputable def E2(p:Ae)(C:C6):Ac R3:=(Dz p).filter fun x=>decide (vI C x%p=0)
theorem Xk(hw:W4 w){a b c:R3}(hp:P4 p)(z:Ai a b c%p≠0)(h:PrC p C (E4 w (Fl p) a b c)):(E2 p C).length=Rt p w:=by
 rw[<-jM hp hw,<-X4 hp z];unfold E2
 congr 1
 refine List.filter_congr fun x hx=>?_
 rw[decide_eq_decide];exact QP hw hp z h ((Fd hp).mp hx)
noncomputable def no3(p:Ae)(l:Ac R3):An:=l.all fun x=>l.all fun y=>l.all fun u=>decide (x=y)||decide (x=u)||decide (y=u)||decide (Ai x y u%p≠0)
theorem ZK(hp:P4 p):no3 p ((Dz p).filter fun y=>decide (q4 0 (Fl p) y%p=0))=Ab:=by
 rcases hp with rfl|rfl|rfl|rfl<;>decide +kernel
theorem Xi{a b c:R3}(hp:P4 p)(z:Ai a b c%p≠0)(h:PrC p C (E4 0 (Fl p) a b c)){u:R3}(hx:x∈E2 p C)(hy:y∈E2 p C)(hu:u∈E2 p C)(n1:x≠y)(n2:x≠u)(n3:y≠u):Ai x y u%p≠0:=by
 have hw:W4 0:=.inl rfl;have led:∀{x:R3},x∈E2 p C->NF p x/\nrm p (ap a b c x)∈((Dz p).filter fun y=>decide (q4 0 (Fl p) y%p=0))/\Pr p (nrm p (ap a b c x)) (ap a b c x):=fun {x} hx=>by
  obtain⟨h1,h2⟩:=Bj.mp hx;have nx:=(Fd hp).mp h1;obtain⟨s1,s2⟩:=Hj hp z nx;refine⟨nx,Bj.mpr ⟨(Fd hp).mpr s1,?_⟩,s2⟩;rw[A7]at h2 ⊢;exact(QP hw hp z h nx).mp h2
 obtain⟨nx,mx,px⟩:=led hx;obtain⟨ny,my,py⟩:=led hy;obtain⟨nu,mu,pu⟩:=led hu;have inj:∀{x y:R3},NF p x->NF p y->x≠y->nrm p (ap a b c x)≠nrm p (ap a b c y):=fun {x y} hx hy ne e=>ne (by rw[<-LS hp z hx,<-LS hp z hy,e])
 have all:=ZK hp;unfold no3 at all;rw[DP]at all;have a1:=all _ mx;rw[DP]at a1;have a2:=a1 _ my;rw[DP]at a2;have a3:=a2 _ mu;simp only[C5,A7]at a3;rcases a3 with ((e|e)|e)|e
 ·exact absurd e (inj nx ny n1)
 ·exact absurd e (inj nx nu n2)
 ·exact absurd e (inj ny nu n3)
 ·intro z0;obtain⟨d1,_,g1⟩:=px;obtain⟨d2,_,g2⟩:=py;obtain⟨d3,_,g3⟩:=pu;have q:=WY g1 g2 g3;refine e ?_;rw[show Ai _ _ _%p=_ from q,Bk,Bk (Ai a b c),z0,B8,Bc,B8,Bc]
theorem WZ(hw:W4 w){a b c:R3}(hp:P4 p)(z:Ai a b c%p≠0):∃ l,AN p (E4 w k a b c).l=Aa l:=by
 cases el:AN p (E4 w k a b c).l with
 |some l=>exact⟨l,rfl⟩
 |none=>
  have hz:=HA.mp el;have kk:∀ x∈(E4 w k a b c).l,Cg p x (0*x):=fun x hx=>by show x%p=0*x%p;rw[hz x hx,C2,Bc]
  have e0:CgC p (E4 w k a b c) (scC 0 (E4 w k a b c)):=⟨kk _ (by simp[C6.l]),kk _ (by simp[C6.l]),kk _ (by simp[C6.l]),kk _ (by simp[C6.l]),kk _ (by simp[C6.l]),kk _ (by simp[C6.l])⟩
  have zero:∀ x:R3,vI (E4 w k a b c) x%p=0:=fun x=>by
   rw[show vI (E4 w k a b c) x%p=_ from Gi e0 CgR.rfl,HF,C2,Bc]
  obtain⟨y,hy⟩:∃ y:R3,q4 w k y=1:=by
   rcases hw with rfl|rfl|rfl|rfl
   ·exact⟨(1,0,1),rfl⟩
   ·exact⟨(1,0,0),rfl⟩
   ·exact⟨(1,1,0),rfl⟩
   ·exact⟨(1,0,0),by unfold q4;simp⟩
  have:=zero (ap (bk0 a b c) (bk1 a b c) (bk2 a b c) y);rw[Ru hw,Qz,QS hw,hy,C1]at this;exact absurd this (Cq hp z z)
noncomputable def A4(pts:Ac R3):D:=.lst (pts.map (Ar Ab))
theorem Ot{g:D->R An}{f:D->R D}{q:R3->An}:∀(xs:Ac R3),(∀ x∈xs,g (Ar Ab x)=.ok (q x)/\f (Ar Ab x)=.ok (Ar Ab x))->Be g f (xs.map (Ar Ab))=.ok ((xs.filter q).map (Ar Ab))
 |[],_=>rfl
 |x::xs,h=>by
  obtain⟨h1,h2⟩:=h x (Aw ..);have ih:=Ot xs fun y hy=>h y (At _ hy)
  show (g (Ar Ab x)).bind _=_;rw[h1,R.bind_ok,CT];cases hq:q x with
  |true=>
   rw[AB rfl,AB rfl,h2,R.bind_ok,show Be g f (DQ (Ar Ab) xs)=_ from ih]
   rfl
  |false=>
   rw[AM (by decide),AM (by decide)]
   exact ih
def Rh(Γ:Gam):Prop:=∀(p n:Ae),P4 p->0<=n->n<p*p+p+1->Γ.F 157 [.int p,.int n]=.ok (Ar Ab (ptI p n))
theorem dH(Γ:Gam)(p n:Ae)(hp:P4 p)(h0:0<=n)(h1:n<p*p+p+1):Js.run Γ [.int p,.int n]=.ok (Ar Ab (ptI p n)):=by
 have pp:Du p p=Ab:=HB (by have:=hp.lo;omega) (by have:=hp.hi;omega)
 have p0:=hp.pos;have ph:=hp.hi;have N0:0<p*p+p+1:=by have:=Hs p0 p0;omega
 have hr:n%(p*p+p+1)=n:=AO h0 h1;have pb:p<1073741824:=by omega
 unfold ptI;by_cases z0:n=0
 ·rw[AB z0];simp[Js,Df.run,Bw,pp,N0,hr,z0];rfl
 ·rw[AM z0];by_cases z1:n<=p
  ·rw[AB z1];simp[Js,Df.run,Bw,pp,N0,hr,z0,z1];rfl
  ·rw[AM z1];simp[Js,Df.run,Bw,pp,N0,hr,z0,z1,p0,pb];rfl
noncomputable def Jm:E:=(.call 157 (.cons (.var 0) (.cons (.var 1) .nil)))
noncomputable def J7:Df:=⟨2,Ad,(.cons (.ret (.comp Jm 1 (.rng (.bin .Add (.bin .Add (.bin .Mult (.var 0) (.var 0)) (.var 0)) (.int 1))) BD)) .nil)⟩
def M3(Γ:Gam):Prop:=∀ p:Ae,P4 p->Γ.F 164 [.int p]=.ok (A4 (Dz p))
theorem dP(h:Rh Γ)(p:Ae)(hp:P4 p):J7.run Γ [.int p]=.ok (A4 (Dz p)):=by
 have pp:Du p p=Ab:=HB (by have:=hp.lo;omega) (by have:=hp.hi;omega)
 have N1:0<=p*p+p+1/\p*p+p+1<=1000:=by rcases hp with rfl|rfl|rfl|rfl<;>decide
 have rg:B5 0 (p*p+p+1)=.ok (BK 0 (p*p+p+1-0).toNat):=LO (by decide) (by decide) (by omega) (by omega)
 rw[Hb]at rg;have cp:Be (cG Γ [si p,Af] 1 BD) (cF Γ [si p,Af] 1 Jm) (BK 0 (p*p+p+1).toNat)=.ok ((Dz p).map (Ar Ab)):=by
  have key:∀ L:Ac Ag,(∀ k∈L,(k:Ae)<p*p+p+1)->Be (cG Γ [si p,Af] 1 BD) (cF Γ [si p,Af] 1 Jm) (L.map fun(k:Ag)=>D.int (0+(k:Ae)))=.ok ((L.map fun(n:Ag)=>ptI p n).map (Ar Ab)):=fun L=>by
   induction L with
   |nil=>intro _;rfl
   |cons k L ih=>
    intro hL;have e:=h p k hp (by omega) (hL k Aw)
    have f:cF Γ [si p,Af] 1 Jm (.int (0+(k:Ae)))=.ok (Ar Ab (ptI p k)):=by
     rw[Ed];simp[cF,Jm,e]
    have ih':=ih fun m hm=>hL m (At _ hm)
    show (R.ok Ab).bind _=_;rw[R.bind_ok,AB rfl,f,R.bind_ok,show Be _ _ (DQ _ L)=_ from ih']
    rfl
  exact key _ fun k hk=>by have:=CU.mp hk;omega
 generalize hN:p*p+p+1=N at *;generalize BK 0 N.toNat=RL at *;have e1:p*p+p+1=N:=hN;simp[J7,Df.run,Bw,pp,e1,rg,cp];rfl
def gY(Γ:Gam):Prop:=∀(p:Ae)(a b c:R3)(w:Ag),GoodR p a b c->W4 w->∃ C:C6,InC p C/\AN p C.l=Aa 1/\PrC p C (E4 w (Fl p) a b c)/\Γ.F 163 [.int p,HH a b c,.int w]=.ok (Bx C)
theorem od4(Γ:Gam)(RR ra rb rc:D)(s6:Sl)(hp:P4 p):evE Γ [si p,sh RR,si 3,sh ra,sh rb,sh rc,s6,Af,Af,Af,Af,Af,Af,Af] (.bi .min (.cons (.comp Ny 8 (.rng2 (.int 2) (.var 0)) Nw) .nil))=.ok (.int (Fl p)):=by
 rcases hp with rfl|rfl|rfl|rfl<;>kernel_rfl!
theorem Qw{Γ:Gam}{s0 s1 s2 s3 s4 s5 s6 s7 s8 s9 s10 s11:Sl}:∀ xs ys:Ac Ae,Be (cGT Γ [s0,s1,s2,s3,s4,s5,s6,s7,s8,s9,s10,s11,Af,Af] [12,13] BD) (cFT Γ [s0,s1,s2,s3,s4,s5,s6,s7,s8,s9,s10,s11,Af,Af] [12,13] Nx) (C4 (ds xs) (ds ys))=.ok (ds (Dm (fun x y=>x-y) xs ys))
 |[],_=>rfl
 |_::_,[]=>rfl
 |x::xs,y::ys=>by
  have ih:=Qw (Γ:=Γ) (s0:=s0) (s1:=s1) (s2:=s2) (s3:=s3) (s4:=s4) (s5:=s5) (s6:=s6) (s7:=s7) (s8:=s8) (s9:=s9) (s10:=s10) (s11:=s11) xs ys;show Be _ _ (.tup [.int x,.int y]::C4 (ds xs) (ds ys))=.ok (.int (x-y)::ds (Dm (fun x y=>x-y) xs ys))
  rw[Be,ih];rfl
theorem PU{Γ:Gam}{o:Ae}{s0 s1 s2 s3 s4 s5 s6 s8 s9:Sl}(ob:∀ y,Du o y=Ab):∀ xs ys:Ac Ae,Be (cGT Γ [s0,s1,s2,s3,s4,s5,s6,si o,s8,s9,Af,Af,Af,Af] [10,11] BD) (cFT Γ [s0,s1,s2,s3,s4,s5,s6,si o,s8,s9,Af,Af,Af,Af] [10,11] J4) (C4 (ds xs) (ds ys))=.ok (ds (Dm (fun x y=>x-o*y) xs ys))
 |[],_=>rfl
 |_::_,[]=>rfl
 |x::xs,y::ys=>by
  have ih:=PU (Γ:=Γ) (s0:=s0) (s1:=s1) (s2:=s2) (s3:=s3) (s4:=s4) (s5:=s5) (s6:=s6) (s8:=s8) (s9:=s9) ob xs ys;have f:cFT Γ [s0,s1,s2,s3,s4,s5,s6,si o,s8,s9,Af,Af,Af,Af] [10,11] J4 (.tup [.int x,.int y])=.ok (.int (x-o*y)):=by
   simp[cFT,J4,ob]
  show Be _ _ (.tup [.int x,.int y]::C4 (ds xs) (ds ys))=.ok (.int (x-o*y)::ds (Dm (fun x y=>x-o*y) xs ys))
  rw[Be,ih,f];rfl
theorem dO(hf:Mu Γ)(hd:aP Γ)(p:Ae)(a b c:R3)(w:Ag)(g:GoodR p a b c)(hw:W4 w):∃ C:C6,InC p C/\AN p C.l=Aa 1/\PrC p C (E4 w (Fl p) a b c)/\Ie.run Γ [.int p,HH a b c,.int w]=.ok (Bx C):=by
 have hp:=g.p4;obtain⟨l,el⟩:=WZ hw (k:=Fl p) hp g.nz;obtain⟨t,C,it,eD,iC,lC,pC⟩:=Nb hp el;have e3:=hf p Ad _ l t hp el it;rw[eD]at e3;refine⟨C,iC,lC,pC,?_⟩
 clear pC lC iC eD it el
 have eaa:=hd p a a hp g.ia g.ia;have eab:=hd p a b hp g.ia g.ib;have eac:=hd p a c hp g.ia g.ic;have ebb:=hd p b b hp g.ib g.ib;have as:∀ ρ:Rho,FH [3,4,5] (HH a b c) ρ=.ok (((ρ.set 3 (sh (AD a))).set 4 (sh (AD b))).set 5 (sh (AD c))):=fun _=>rfl
 rcases hw with rfl|rfl|rfl|rfl
 ·have e3':Γ.F 158 [.int p,.lst (ds (Dm (fun x y=>x-y) (prd a c).l (prd b b).l))]=.ok (Bx C):=e3
  have e1':Γ.F 160 [AD a,AD c]=.ok (.lst (ds (prd a c).l)):=eac;have e2':Γ.F 160 [AD b,AD b]=.ok (.lst (ds (prd b b).l)):=ebb;have cp:=fun(s0 s1 s2 s3 s4 s5 s6 s7 s8 s9 s10 s11:Sl)=>Qw (Γ:=Γ) (s0:=s0) (s1:=s1) (s2:=s2) (s3:=s3) (s4:=s4) (s5:=s5) (s6:=s6) (s7:=s7) (s8:=s8) (s9:=s9) (s10:=s10) (s11:=s11) (prd a c).l (prd b b).l
  generalize ds (Dm (fun x y=>x-y) (prd a c).l (prd b b).l)=LC at *
  generalize ds (prd a c).l=LA at *;generalize ds (prd b b).l=LB at *;generalize AD a=ra at *;generalize AD b=rb at *;generalize AD c=rc at *;generalize HH a b c=RR at *;simp[Ie,Df.run,Bw,as,e1',e2',cp,e3']
 ·have e3':Γ.F 158 [.int p,.lst (ds (prd a a).l)]=.ok (Bx C):=e3;generalize D.lst (ds (prd a a).l)=A at *;simp[Ie,Df.run,Bw,as,eaa,e3']
 ·have e3':Γ.F 158 [.int p,.lst (ds (prd a b).l)]=.ok (Bx C):=e3;generalize D.lst (ds (prd a b).l)=A at *;simp[Ie,Df.run,Bw,as,eab,e3']
 ·have ob:∀ y,Du (Fl p) y=Ab:=fun y=>by rcases hp with rfl|rfl|rfl|rfl<;>exact HB (by decide) (by decide)
  have e3':Γ.F 158 [.int p,.lst (ds (Dm (fun x y=>x-Fl p*y) (prd a a).l (prd b b).l))]=.ok (Bx C):=e3
  have e1':Γ.F 160 [AD a,AD a]=.ok (.lst (ds (prd a a).l)):=eaa;have e2':Γ.F 160 [AD b,AD b]=.ok (.lst (ds (prd b b).l)):=ebb;have od:=fun(RR ra rb rc:D)(s6:Sl)=>od4 Γ RR ra rb rc s6 hp
  have cp:=fun(s0 s1 s2 s3 s4 s5 s6 s8 s9:Sl)=>PU (Γ:=Γ) (s0:=s0) (s1:=s1) (s2:=s2) (s3:=s3) (s4:=s4) (s5:=s5) (s6:=s6) (s8:=s8) (s9:=s9) ob (prd a a).l (prd b b).l
  generalize Fl p=o at *;generalize ds (Dm (fun x y=>x-o*y) (prd a a).l (prd b b).l)=LC at *
  generalize ds (prd a a).l=LA at *;generalize ds (prd b b).l=LB at *;generalize AD a=ra at *;generalize AD b=rb at *;generalize AD c=rc at *;generalize HH a b c=RR at *;simp[-Qs,Ie,Df.run,Bw,as,e1',e2',od,cp,e3']
noncomputable def lc2(a:Ae)(A:C6)(b:Ae)(B:C6):C6:=⟨a*A.c0+b*B.c0,a*A.c1+b*B.c1,a*A.c2+b*B.c2,a*A.c3+b*B.c3,a*A.c4+b*B.c4,a*A.c5+b*B.c5⟩
noncomputable def l3(a:Ae)(A:C6)(b:Ae)(B:C6)(c:Ae)(G:C6):C6:=⟨a*A.c0+b*B.c0+c*G.c0,a*A.c1+b*B.c1+c*G.c1,a*A.c2+b*B.c2+c*G.c2,a*A.c3+b*B.c3+c*G.c3,a*A.c4+b*B.c4+c*G.c4,a*A.c5+b*B.c5+c*G.c5⟩
section
variable{p:Ae}{x y z w:R3}{Q A B G L M:C6}
theorem Ff(hp:P4 p)(hx:NF p x)(hy:NF p y)(ne:x≠y):¬ CgR p (crs x y) (0,0,0):=fun h=>ne (KN hp hx hy (Pr.symm hp (OE hp h hx.2 hy.2)))
theorem XM(x y z:R3):bk0 (x.1,y.1,z.1) (x.2.1,y.2.1,z.2.1) (x.2.2,y.2.2,z.2.2)=crs y z/\bk1 (x.1,y.1,z.1) (x.2.1,y.2.1,z.2.1) (x.2.2,y.2.2,z.2.2)=crs z x/\bk2 (x.1,y.1,z.1) (x.2.1,y.2.1,z.2.1) (x.2.2,y.2.2,z.2.2)=crs x y:=by
 refine⟨?_,?_,?_⟩<;>simp only[bk0,bk1,bk2,DY,DX,DW,crs]<;>refine Br ?_ (Br ?_ ?_)<;>simp only<;>grind
theorem VA(x y z:R3):Ai (x.1,y.1,z.1) (x.2.1,y.2.1,z.2.1) (x.2.2,y.2.2,z.2.2)=Ai x y z:=by
 unfold Ai det;simp only;grind
theorem V2(b0 b1 b2:Ae)(r0 r1 r2:R3):pb ⟨0,0,0,b0,b1,b2⟩ r0 r1 r2=l3 b0 (prd r0 r1) b1 (prd r0 r2) b2 (prd r1 r2):=by
 simp only[pb,l3,prd,vI,bI,AA,ap,tw0,tw1,tw2,DY,DX,DW]
 congr 1<;>grind
theorem UY(hx:vI Q x%p=0)(hy:vI Q y%p=0)(hz:vI Q z%p=0):CgC p (scC (Ai x y z*Ai x y z) Q) (l3 (bI Q x y) (prd (crs y z) (crs z x)) (bI Q x z) (prd (crs y z) (crs x y)) (bI Q y z) (prd (crs z x) (crs x y))):=by
 obtain⟨e0,e1,e2⟩:=Zu (x.1,y.1,z.1) (x.2.1,y.2.1,z.2.1) (x.2.2,y.2.2,z.2.2);have h:=cV Q (x.1,y.1,z.1) (x.2.1,y.2.1,z.2.1) (x.2.2,y.2.2,z.2.2) (bk0 (x.1,y.1,z.1) (x.2.1,y.2.1,z.2.1) (x.2.2,y.2.2,z.2.2)) (bk1 (x.1,y.1,z.1) (x.2.1,y.2.1,z.2.1) (x.2.2,y.2.2,z.2.2)) (bk2 (x.1,y.1,z.1) (x.2.1,y.2.1,z.2.1) (x.2.2,y.2.2,z.2.2));rw[e0,e1,e2,cW,VA]at h;obtain⟨f0,f1,f2⟩:=XM x y z;rw[f0,f1,f2]at h;rw[<-h,<-V2];refine QR ?_ ⟨Cg.rfl,Cg.rfl,Cg.rfl⟩ ⟨Cg.rfl,Cg.rfl,Cg.rfl⟩ ⟨Cg.rfl,Cg.rfl,Cg.rfl⟩;have k:∀{n:Ae},n%p=0->Cg p n 0:=fun {n} h=>by show n%p=0%p;rw[h,Bc]
 exact⟨k hx,k hy,k hz,Cg.rfl,Cg.rfl,Cg.rfl⟩
theorem jA(x y z w:R3):BB (Ai x y z) w=(Ai w y z*x.1+Ai x w z*y.1+Ai x y w*z.1,Ai w y z*x.2.1+Ai x w z*y.2.1+Ai x y w*z.2.1,Ai w y z*x.2.2+Ai x w z*y.2.2+Ai x y w*z.2.2):=by
 unfold BB Ai det;refine Br ?_ (Br ?_ ?_)<;>simp only<;>grind
theorem QL(x y z w:R3):BB (Ai x y z) (crs z w)=(Ai w y z*(crs z x).1-Ai x w z*(crs y z).1,Ai w y z*(crs z x).2.1-Ai x w z*(crs y z).2.1,Ai w y z*(crs z x).2.2-Ai x w z*(crs y z).2.2):=by
 unfold BB Ai det crs;refine Br ?_ (Br ?_ ?_)<;>simp only<;>grind
theorem QO(x y z w:R3):BB (Ai x y z) (crs y w)=(Ai x y w*(crs y z).1-Ai w y z*(crs x y).1,Ai x y w*(crs y z).2.1-Ai w y z*(crs x y).2.1,Ai x y w*(crs y z).2.2-Ai w y z*(crs x y).2.2):=by
 unfold BB Ai det crs;refine Br ?_ (Br ?_ ?_)<;>simp only<;>grind
theorem bO(x y z w:R3):BB (Ai x y z) (crs x w)=(Ai x w z*(crs x y).1-Ai x y w*(crs z x).1,Ai x w z*(crs x y).2.1-Ai x y w*(crs z x).2.1,Ai x w z*(crs x y).2.2-Ai x y w*(crs z x).2.2):=by
 unfold BB Ai det crs;refine Br ?_ (Br ?_ ?_)<;>simp only<;>grind
theorem jV(x y z w:R3):scC (Ai x y z) (prd (crs x y) (crs z w))=lc2 (Ai w y z) (prd (crs z x) (crs x y)) (-Ai x w z) (prd (crs y z) (crs x y)):=by
 have e:=QL x y z w;unfold BB at e;simp only[S0]at e;obtain⟨e0,e1,e2⟩:=e;generalize Ai x y z=d at *;generalize Ai w y z=u0 at *;generalize Ai x w z=u1 at *;generalize crs z w=c at *;generalize crs x y=r2 at *;generalize crs y z=r0 at *;generalize crs z x=r1 at *;simp only[scC,lc2,prd]
 congr 1<;>grind
theorem jT(x y z w:R3):scC (Ai x y z) (prd (crs x z) (crs y w))=lc2 (Ai w y z) (prd (crs z x) (crs x y)) (-Ai x y w) (prd (crs y z) (crs z x)):=by
 have e:=QO x y z w;have f:crs x z=BB (-1) (crs z x):=by
  unfold BB crs;refine Br ?_ (Br ?_ ?_)<;>simp only<;>grind
 rw[f];unfold BB at e ⊢;simp only[S0]at e;obtain⟨e0,e1,e2⟩:=e;generalize Ai x y z=d at *;generalize Ai w y z=u0 at *;generalize Ai x y w=u2 at *;generalize crs y w=c at *;generalize crs x y=r2 at *;generalize crs y z=r0 at *;generalize crs z x=r1 at *;simp only[scC,lc2,prd]
 congr 1<;>grind
theorem z0{n:Ae}(h:n%p=0):Cg p n 0:=by show n%p=0%p;rw[h,Bc]
theorem z0'{n:Ae}(h:Cg p n 0):n%p=0:=by
 have:n%p=0%p:=h;rw[this,Bc]
theorem iS(hx:vI Q x%p=0)(hy:vI Q y%p=0)(hz:vI Q z%p=0)(hw:vI Q w%p=0):Cg p (Ai w y z*Ai x w z*bI Q x y+Ai w y z*Ai x y w*bI Q x z+Ai x w z*Ai x y w*bI Q y z) 0:=by
 have e:=Qg Q x y z (Ai w y z) (Ai x w z) (Ai x y w);rw[<-jA]at e;have f:vI Q (BB (Ai x y z) w)=Ai x y z*Ai x y z*vI Q w:=by
  unfold vI BB;simp only;grind
 rw[f]at e;have h1:Cg p (Ai x y z*Ai x y z*vI Q w) 0:=(Cg.mul Cg.rfl (z0 hw)).trans (Cg.of (B8 _));rw[e]at h1;have k:∀{a n:Ae},n%p=0->Cg p (a*a*n) 0:=fun h=>(Cg.mul Cg.rfl (z0 h)).trans (Cg.of (B8 _))
 have h2:=h1.sub (((k (a:=Ai w y z) hx).add (k (a:=Ai x w z) hy)).add (k (a:=Ai x y w) hz));refine(Cg.of ?_).trans (h2.trans (Cg.of (by rfl)))
 generalize vI Q x=q0;generalize vI Q y=q1;generalize vI Q z=q2;generalize bI Q x y=b0;generalize bI Q x z=b1;generalize bI Q y z=b2;generalize Ai w y z=u0;generalize Ai x w z=u1;generalize Ai x y w=u2;grind
def Spn(p:Ae)(Q L M:C6):Prop:=∃ g a b,g%p≠0/\CgC p (scC g Q) (lc2 a L b M)
section
variable{d u0 u1 u2 b0 b1 b2 q A B G l m:Ae}
theorem IQ(h:Cg p (d*d*q) (b0*A+b1*B+b2*G))(r:Cg p (u0*u1*b0+u0*u2*b1+u1*u2*b2) 0)(hl:d*l=u0*G + -u1*B)(hm:d*m=u0*G + -u2*A):Cg p (u1*u2*(d*d)*q) (-(u2*b1*d)*l + -(u1*b0*d)*m):=by
 have h1:=(Cg.rfl (p:=p) (a:=u1*u2)).mul h;have h2:=(Cg.rfl (p:=p) (a:=G)).mul r;have h3:=h1.sub h2.symm;refine(Cg.of (by clear h r h1 h2 h3 hl hm;grind)).trans (h3.trans (Cg.of ?_))
 clear h r h1 h2 h3
 have e1:-(u2*b1*d)*l=-(u2*b1)*(d*l):=by grind
 have e2:-(u1*b0*d)*m=-(u1*b0)*(d*m):=by grind
 rw[e1,e2,hl,hm];grind
theorem IP(h:Cg p (d*d*q) (b0*A+b1*B+b2*G))(h1:Cg p u1 0)(hb:Cg p b1 0)(hl:d*l=u0*G + -u1*B)(hm:d*m=u0*G + -u2*A):Cg p (u0*u2*(d*d)*q) ((u0*b0+u2*b2)*d*l + -(u0*b0*d)*m):=by
 have e1:=(Cg.rfl (p:=p) (a:=u0*u2)).mul h;have e2:=(Cg.rfl (p:=p) (a:=u0*u2*B)).mul hb;have e3:=(Cg.rfl (p:=p) (a:=(u0*b0+u2*b2)*B)).mul h1;have e4:=(e1.sub e2.symm).sub e3.symm;refine(Cg.of (by clear h e1 e2 e3 e4 hl hm;grind)).trans (e4.trans (Cg.of ?_))
 clear h e1 e2 e3 e4
 have f1:(u0*b0+u2*b2)*d*l=(u0*b0+u2*b2)*(d*l):=by grind
 have f2:-(u0*b0*d)*m=-(u0*b0)*(d*m):=by grind
 rw[f1,f2,hl,hm];grind
theorem IN(h:Cg p (d*d*q) (b0*A+b1*B+b2*G))(h2:Cg p u2 0)(hb:Cg p b0 0)(hl:d*l=u0*G + -u1*B)(hm:d*m=u0*G + -u2*A):Cg p (u0*u1*(d*d)*q) (-(u0*b1*d)*l+(u0*b1+u1*b2)*d*m):=by
 have e1:=(Cg.rfl (p:=p) (a:=u0*u1)).mul h;have e2:=(Cg.rfl (p:=p) (a:=u0*u1*A)).mul hb;have e3:=(Cg.rfl (p:=p) (a:=(u0*b1+u1*b2)*A)).mul h2;have e4:=(e1.sub e2.symm).sub e3.symm;refine(Cg.of (by clear h e1 e2 e3 e4 hl hm;grind)).trans (e4.trans (Cg.of ?_))
 clear h e1 e2 e3 e4
 have f1:-(u0*b1*d)*l=-(u0*b1)*(d*l):=by grind
 have f2:(u0*b1+u1*b2)*d*m=(u0*b1+u1*b2)*(d*m):=by grind
 rw[f1,f2,hl,hm];grind
end
theorem FJ{a b c d:Ae}(ha:Cg p a 0)(hb:Cg p b 0):Cg p (a*c-b*d) 0:=((ha.mul Cg.rfl).sub (hb.mul Cg.rfl)).trans (Cg.of (by rw[C2,C2];rfl))
theorem KF(hp:P4 p)(dz:d%p≠0)(h:CgR p (BB d r) (0,0,0)):CgR p r (0,0,0):=⟨z0 ((DN hp dz).mp (z0' h.1)),z0 ((DN hp dz).mp (z0' h.2.1)),z0 ((DN hp dz).mp (z0' h.2.2))⟩
theorem QJ(hp:P4 p)(dz:Ai x y z%p≠0)(hx:vI Q x%p=0)(hy:vI Q y%p=0)(hz:vI Q z%p=0)(hw:vI Q w%p=0)(n0:¬ CgR p (crs x w) (0,0,0))(n1:¬ CgR p (crs y w) (0,0,0))(n2:¬ CgR p (crs z w) (0,0,0)):Spn p Q (prd (crs x y) (crs z w)) (prd (crs x z) (crs y w)):=by
 have t:=UY (Q:=Q) hx hy hz;have r:=iS (Q:=Q) hx hy hz hw;have eL:=jV x y z w;have eM:=jT x y z w;have m01:¬ (Cg p (Ai w y z) 0/\Cg p (Ai x w z) 0):=fun ⟨a,b⟩=>n2 (KF hp dz (by rw[QL];exact⟨FJ a b,FJ a b,FJ a b⟩))
 have m02:¬ (Cg p (Ai w y z) 0/\Cg p (Ai x y w) 0):=fun ⟨a,b⟩=>n1 (KF hp dz (by rw[QO];exact⟨FJ b a,FJ b a,FJ b a⟩))
 have m12:¬ (Cg p (Ai x w z) 0/\Cg p (Ai x y w) 0):=fun ⟨a,b⟩=>n0 (KF hp dz (by rw[bO];exact⟨FJ a b,FJ a b,FJ a b⟩))
 generalize prd (crs x y) (crs z w)=L at *;generalize prd (crs x z) (crs y w)=M at *;generalize prd (crs z x) (crs x y)=G at *;generalize prd (crs y z) (crs x y)=B at *;generalize prd (crs y z) (crs z x)=A at *;generalize bI Q x y=b0 at *;generalize bI Q x z=b1 at *;generalize bI Q y z=b2 at *;generalize Ai x y z=d at *;generalize Ai w y z=u0 at *;generalize Ai x w z=u1 at *;generalize Ai x y w=u2 at *;obtain⟨t0,t1,t2,t3,t4,t5⟩:=t;simp only[scC,l3]at t0 t1 t2 t3 t4 t5;simp only[scC,lc2,C6.mk.injEq]at eL eM;obtain⟨l0,l1,l2,l3,l4,l5⟩:=eL;obtain⟨k0,k1,k2,k3,k4,k5⟩:=eM;have dd:=Cq hp dz dz;by_cases c1:Cg p u1 0
 ·have v0:u0%p≠0:=fun h=>m01 ⟨z0 h,c1⟩
  have v2:u2%p≠0:=fun h=>m12 ⟨c1,z0 h⟩
  have hb:Cg p b1 0:=by
   have e:Cg p (u0*u2*b1) 0:=by
    have h1:=((c1.mul (Cg.rfl (a:=u0*b0))).add (c1.mul (Cg.rfl (a:=u2*b2))));exact(Cg.of (by clear r h1;grind)).trans ((r.sub h1).trans (Cg.of (by clear r h1;grind)))
   exact z0 ((DN hp (Cq hp v0 v2)).mp (z0' e))
  exact⟨u0*u2*(d*d),_,_,Cq hp (Cq hp v0 v2) dd,IP t0 c1 hb l0 k0,IP t1 c1 hb l1 k1,IP t2 c1 hb l2 k2,IP t3 c1 hb l3 k3,IP t4 c1 hb l4 k4,IP t5 c1 hb l5 k5⟩
 ·have v1:u1%p≠0:=fun h=>c1 (z0 h)
  by_cases c2:Cg p u2 0
  ·have v0:u0%p≠0:=fun h=>m02 ⟨z0 h,c2⟩
   have hb:Cg p b0 0:=by
    have e:Cg p (u0*u1*b0) 0:=by
     have h1:=((c2.mul (Cg.rfl (a:=u0*b1))).add (c2.mul (Cg.rfl (a:=u1*b2))));exact(Cg.of (by clear r h1;grind)).trans ((r.sub h1).trans (Cg.of (by clear r h1;grind)))
    exact z0 ((DN hp (Cq hp v0 v1)).mp (z0' e))
   exact⟨u0*u1*(d*d),_,_,Cq hp (Cq hp v0 v1) dd,IN t0 c2 hb l0 k0,IN t1 c2 hb l1 k1,IN t2 c2 hb l2 k2,IN t3 c2 hb l3 k3,IN t4 c2 hb l4 k4,IN t5 c2 hb l5 k5⟩
  ·have v2:u2%p≠0:=fun h=>c2 (z0 h)
   exact⟨u1*u2*(d*d),_,_,Cq hp (Cq hp v1 v2) dd,IQ t0 r l0 k0,IQ t1 r l1 k1,IQ t2 r l2 k2,IQ t3 r l3 k3,IQ t4 r l4 k4,IQ t5 r l5 k5⟩
theorem cA(hp:P4 p)(hd:Ai x y z%p≠0\/Ai x y w%p≠0)(hx:vI Q x%p=0)(hy:vI Q y%p=0)(hz:vI Q z%p=0)(hw:vI Q w%p=0)(ax:NF p x)(ay:NF p y)(az:NF p z)(aw:NF p w)(xz:x≠z)(yz:y≠z)(zw:z≠w)(xw:x≠w)(yw:y≠w):Spn p Q (prd (crs x y) (crs z w)) (prd (crs x z) (crs y w)):=by
 rcases hd with hd|hd
 ·exact QJ hp hd hx hy hz hw (Ff hp ax aw xw) (Ff hp ay aw yw) (Ff hp az aw zw)
 ·have hd':Ai y x w%p≠0:=by
   have e:Ai y x w=-1*Ai x y w:=by unfold Ai det;grind
   rw[e];exact Cq hp hp.m1 hd
  have q:=QJ hp hd' hy hx hw hz (Ff hp ay az yz) (Ff hp ax az xz) (Ff hp aw az zw.symm);have e1:prd (crs y x) (crs w z)=prd (crs x y) (crs z w):=by
   unfold prd crs;congr 1<;>grind
  have e2:prd (crs y w) (crs x z)=prd (crs x z) (crs y w):=by
   unfold prd;congr 1<;>grind
  rw[e1,e2]at q;exact q
theorem Qi(a b:Ae)(v:R3):vI (lc2 a L b M) v=a*vI L v+b*vI M v:=by
 unfold vI lc2;simp only;grind
theorem aG{a a' b b':Ae}{L' M':C6}(ha:Cg p a a')(hL:CgC p L L')(hb:Cg p b b')(hM:CgC p M M'):CgC p (lc2 a L b M) (lc2 a' L' b' M'):=
 ⟨(ha.mul hL.1).add (hb.mul hM.1),(ha.mul hL.2.1).add (hb.mul hM.2.1),(ha.mul hL.2.2.1).add (hb.mul hM.2.2.1),(ha.mul hL.2.2.2.1).add (hb.mul hM.2.2.2.1),(ha.mul hL.2.2.2.2.1).add (hb.mul hM.2.2.2.2.1),(ha.mul hL.2.2.2.2.2).add (hb.mul hM.2.2.2.2.2)⟩
theorem Qm{l:Ae}(hp:P4 p)(lQ:AN p Q.l=Aa l)(h:CgC p Q ⟨0,0,0,0,0,0⟩):Bb:=by
 have:AN p Q.l=Af:=HA.mpr fun n hn=>by
  simp only[C6.l,As,AF,Bl]at hn;obtain⟨h0,h1,h2,h3,h4,h5⟩:=h;rcases hn with rfl|rfl|rfl|rfl|rfl|rfl
  ·exact z0' h0
  ·exact z0' h1
  ·exact z0' h2
  ·exact z0' h3
  ·exact z0' h4
  ·exact z0' h5
 rw[this]at lQ;cases lQ
theorem Pq(hp:P4 p)(dz:d%p≠0)(h:CgC p (scC d Q) ⟨0,0,0,0,0,0⟩):CgC p Q ⟨0,0,0,0,0,0⟩:=⟨z0 ((DN hp dz).mp (z0' h.1)),z0 ((DN hp dz).mp (z0' h.2.1)),z0 ((DN hp dz).mp (z0' h.2.2.1)),z0 ((DN hp dz).mp (z0' h.2.2.2.1)),z0 ((DN hp dz).mp (z0' h.2.2.2.2.1)),z0 ((DN hp dz).mp (z0' h.2.2.2.2.2))⟩
theorem Y8(hp:P4 p){l k n:Ae}{F:C6}(lQ:AN p Q.l=Aa l)(kz:k%p≠0)(h:CgC p (scC k Q) (scC n F)):PrC p F Q:=by
 have nz:n%p≠0:=fun z=>by
  refine Qm hp lQ (Pq hp kz (h.trans ?_));have q:∀ c:Ae,Cg p (n*c) 0:=fun c=>((z0 z).mul Cg.rfl).trans (Cg.of (C2 c))
  exact⟨q _,q _,q _,q _,q _,q _⟩
 exact(PrC.symm hp ⟨n,nz,CgC.rfl⟩).trans hp (PrC.trans hp ⟨1,hp.o1,(h.symm).trans (CgC.of (Ky _).symm)⟩ ⟨k,kz,CgC.rfl⟩)
theorem XV(hp:P4 p){l:Ae}{v:R3}(lQ:AN p Q.l=Aa l)(s:Spn p Q L M)(hv:vI Q v%p=0)(n:¬ (vI L v%p=0/\vI M v%p=0)):PrC p (lc2 (vI M v) L (-vI L v) M) Q:=by
 obtain⟨g,a,b,gz,e⟩:=s;have e1:Cg p (a*vI L v+b*vI M v) 0:=by
  have q:=Gi (x:=v) (x':=v) e ⟨Cg.rfl,Cg.rfl,Cg.rfl⟩;rw[HF,Qi]at q;exact q.symm.trans ((Cg.mul Cg.rfl (z0 hv)).trans (Cg.of (B8 _)))
 generalize vI L v=L4 at *;generalize vI M v=M4 at *;have key:∀(k c:Ae),k%p≠0->(∀ A B:Ae,Cg p (k*(a*A+b*B)) (c*(M4*A + -L4*B)))->PrC p (lc2 M4 L (-L4) M) Q:=fun k c kz h=>by
  refine Y8 hp (k:=k*g) (n:=c) lQ (Cq hp kz gz) ?_;have e':CgC p (scC (k*g) Q) (scC k (lc2 a L b M)):=by
   rw[<-MF];exact CgC.sc Cg.rfl e
  exact e'.trans ⟨h _ _,h _ _,h _ _,h _ _,h _ _,h _ _⟩
 by_cases c:L4%p=0
 ·have c':M4%p≠0:=fun z=>n ⟨c,z⟩
  refine key M4 a c' fun A B=>?_
  have h:=(Cg.rfl (p:=p) (a:=B)).mul e1;refine(Cg.of ?_).trans (((Cg.rfl (p:=p) (a:=a*(M4*A + -L4*B))).add h).trans (Cg.of ?_))
  ·clear e e1 h key;grind
  ·clear e e1 h key;grind
 ·refine key L4 (-b) c fun A B=>?_
  have h:=(Cg.rfl (p:=p) (a:=A)).mul e1;refine(Cg.of ?_).trans (((Cg.rfl (p:=p) (a:=-b*(M4*A + -L4*B))).add h).trans (Cg.of ?_))
  ·clear e e1 h key;grind
  ·clear e e1 h key;grind
end
noncomputable def NB:Ss:=(.cons (.ife (.cmp .In (.var 2) (.sl (.var 0) .non (.var 1))) (.cons (.rais 107 (.cons (.var 2) .nil)) .nil) .nil) .nil)
--
noncomputable def Ka:Df:=⟨3,Ad,(.cons (.forT [1,2] (.enm (.var 0)) NB) .nil)⟩
--
noncomputable def J2:Ss:=(.cons (.asg 3 Ad (.bin .Add (.sl (.var 1) .non (.var 2)) (.sl (.var 1) (.bin .Add (.var 2) (.int 1)) .non))) (.cons (.ife (.and (.cons (.cmp .Eq (.call 61 (.cons (.var 0) (.cons (.idx (.var 3) (.int 0)) (.cons (.idx (.var 3) (.int 1)) (.cons (.idx (.var 3) (.int 2)) .nil))))) (.int 0)) (.cons (.cmp .Eq (.call 61 (.cons (.var 0) (.cons (.idx (.var 3) (.int 0)) (.cons (.idx (.var 3) (.int 1)) (.cons (.idx (.var 3) (.int 3)) .nil))))) (.int 0)) .nil))) (.cons (.ret (.bi .tuple (.cons (.var 3) .nil))) .nil) .nil) .nil))
--
noncomputable def J9:Df:=⟨4,Ad,(.cons (.fors 2 (.e (.tup (.cons (.int 4) (.cons (.int 3) (.cons (.int 2) (.cons (.int 1) (.cons (.int 0) .nil))))))) J2) (.cons (.ret .non) .nil))⟩
--
noncomputable def K0:Df:=⟨2,Ad,(.cons (.ret (.tup (.cons (.bin .Mult (.idx (.var 0) (.int 0)) (.idx (.var 1) (.int 0))) (.cons (.bin .Mult (.idx (.var 0) (.int 1)) (.idx (.var 1) (.int 1))) (.cons (.bin .Mult (.idx (.var 0) (.int 2)) (.idx (.var 1) (.int 2))) (.cons (.bin .Add (.bin .Mult (.idx (.var 0) (.int 0)) (.idx (.var 1) (.int 1))) (.bin .Mult (.idx (.var 0) (.int 1)) (.idx (.var 1) (.int 0)))) (.cons (.bin .Add (.bin .Mult (.idx (.var 0) (.int 0)) (.idx (.var 1) (.int 2))) (.bin .Mult (.idx (.var 0) (.int 2)) (.idx (.var 1) (.int 0)))) (.cons (.bin .Add (.bin .Mult (.idx (.var 0) (.int 1)) (.idx (.var 1) (.int 2))) (.bin .Mult (.idx (.var 0) (.int 2)) (.idx (.var 1) (.int 1)))) .nil)))))))) .nil)⟩
noncomputable def Lh:E:=(.bin .Sub (.bin .Mult (.var 4) (.var 6)) (.bin .Mult (.var 5) (.var 7)))
--
noncomputable def J8:Df:=⟨8,Ad,(.cons (.asg 2 Ad (.call 196 (.cons (.call 57 (.cons (.var 0) (.cons (.idx (.var 1) (.int 0)) (.cons (.idx (.var 1) (.int 1)) .nil)))) (.cons (.call 57 (.cons (.var 0) (.cons (.idx (.var 1) (.int 2)) (.cons (.idx (.var 1) (.int 3)) .nil)))) .nil)))) (.cons (.asg 3 Ad (.call 196 (.cons (.call 57 (.cons (.var 0) (.cons (.idx (.var 1) (.int 0)) (.cons (.idx (.var 1) (.int 2)) .nil)))) (.cons (.call 57 (.cons (.var 0) (.cons (.idx (.var 1) (.int 1)) (.cons (.idx (.var 1) (.int 3)) .nil)))) .nil)))) (.cons (.asg 4 Ad (.call 126 (.cons (.var 0) (.cons (.var 3) (.cons (.idx (.var 1) (.int 4)) .nil))))) (.cons (.asg 5 Ad (.call 126 (.cons (.var 0) (.cons (.var 2) (.cons (.idx (.var 1) (.int 4)) .nil))))) (.cons (.ret (.call 122 (.cons (.var 0) (.cons (.compT Lh [6,7] (.zip (.var 2) (.var 3)) BD) .nil)))) .nil)))))⟩
--
noncomputable def J3:Df:=⟨3,Ad,(.cons (.ife (.cmp .NotEq (.bi .len (.cons (.var 1) .nil)) (.int 5)) (.cons (.rais 13 (.cons (.str (AQ "a curve is told by five points")) .nil)) .nil) .nil) (.cons (.expr (.call 194 (.cons (.var 1) .nil))) (.cons (.asg 2 Ad (.call 195 (.cons (.var 0) (.cons (.var 1) .nil)))) (.cons (.ife (.cmp .IsNot (.var 2) .non) (.cons (.rais 118 (.cons (.var 2) .nil)) .nil) .nil) (.cons (.ret (.call 197 (.cons (.var 0) (.cons (.var 1) .nil)))) .nil)))))⟩
section
variable{Γ:Gam}{p:Ae}{P0 P1 P2 P3 P4:D}
noncomputable def five(P0 P1 P2 P3 P4:D):D:=.lst [P0,P1,P2,P3,P4]
theorem YZ(f0:flD 5 P0=Ab)(f1:flD 5 P1=Ab)(f2:flD 5 P2=Ab)(f3:flD 5 P3=Ab)(f4:flD 5 P4=Ab)(n01:eqD P0 P1=Ad)(n02:eqD P0 P2=Ad)(n03:eqD P0 P3=Ad)(n04:eqD P0 P4=Ad)(n12:eqD P1 P2=Ad)(n13:eqD P1 P3=Ad)(n14:eqD P1 P4=Ad)(n23:eqD P2 P3=Ad)(n24:eqD P2 P4=Ad)(n34:eqD P3 P4=Ad):Ka.run Γ [five P0 P1 P2 P3 P4]=.ok .non:=by
 simp[five,Ka,Df.run,Bw,EF,Ci,Hl,NB,HN,GC,f0,f1,f2,f3,f4,n01,n02,n03,n04,n12,n13,n14,n23,n24,n34]
theorem JC{k a b:Ae}{q0 q1 q2 q3:D}{u v:Ac D}(c0:slD PP Af (Aa k)=.ok (.lst u))(c1:slD PP (Aa (k+1)) Af=.ok (.lst v))(ad:CH .Add (.lst u) (.lst v)=.ok (.lst [q0,q1,q2,q3]))(e0:Γ.F 61 [.int p,q0,q1,q2]=.ok (.int a))(e1:Γ.F 61 [.int p,q0,q1,q3]=.ok (.int b))(h:¬ (a=0/\b=0)):Bm Γ 2 J2 (.int k) [si p,sh PP,s2,s3]=.next [si p,sh PP,si k,sh (.lst [q0,q1,q2,q3])]:=by
 have i0:AT (.lst [q0,q1,q2,q3]) (.int 0)=.ok q0:=rfl;have i1:AT (.lst [q0,q1,q2,q3]) (.int 1)=.ok q1:=rfl;have i2:AT (.lst [q0,q1,q2,q3]) (.int 2)=.ok q2:=rfl;have i3:AT (.lst [q0,q1,q2,q3]) (.int 3)=.ok q3:=rfl;generalize D.lst [q0,q1,q2,q3]=FF at *;generalize D.lst u=U at *;generalize D.lst v=V at *;by_cases ha:a=0
 ·have hb:b≠0:=fun z=>h ⟨ha,z⟩
  simp[Bm,J2,c0,c1,ad,i0,i1,i2,i3,e0,e1,ha,hb]
 ·simp[Bm,J2,c0,c1,ad,i0,i1,i2,i3,e0,e1,ha]
theorem iT{m012 m013 m014 m023 m024 m123 m124:Ae}(e012:Γ.F 61 [.int p,P0,P1,P2]=.ok (.int m012))(e013:Γ.F 61 [.int p,P0,P1,P3]=.ok (.int m013))(e014:Γ.F 61 [.int p,P0,P1,P4]=.ok (.int m014))(e023:Γ.F 61 [.int p,P0,P2,P3]=.ok (.int m023))(e024:Γ.F 61 [.int p,P0,P2,P4]=.ok (.int m024))(e123:Γ.F 61 [.int p,P1,P2,P3]=.ok (.int m123))(e124:Γ.F 61 [.int p,P1,P2,P4]=.ok (.int m124))(h4:¬ (m012=0/\m013=0))(h3:¬ (m012=0/\m014=0))(h2:¬ (m013=0/\m014=0))(h1:¬ (m023=0/\m024=0))(h0:¬ (m123=0/\m124=0)):J9.run Γ [.int p,five P0 P1 P2 P3 P4]=.ok .non:=by
 have t4:=fun(s2 s3:Sl)=>JC (Γ:=Γ) (p:=p) (k:=4) (PP:=five P0 P1 P2 P3 P4) (s2:=s2) (s3:=s3) rfl rfl rfl e012 e013 h4
 have t3:=fun(s2 s3:Sl)=>JC (Γ:=Γ) (p:=p) (k:=3) (PP:=five P0 P1 P2 P3 P4) (s2:=s2) (s3:=s3) rfl rfl rfl e012 e014 h3
 have t2:=fun(s2 s3:Sl)=>JC (Γ:=Γ) (p:=p) (k:=2) (PP:=five P0 P1 P2 P3 P4) (s2:=s2) (s3:=s3) rfl rfl rfl e013 e014 h2
 have t1:=fun(s2 s3:Sl)=>JC (Γ:=Γ) (p:=p) (k:=1) (PP:=five P0 P1 P2 P3 P4) (s2:=s2) (s3:=s3) rfl rfl rfl e023 e024 h1
 have t0:=fun(s2 s3:Sl)=>JC (Γ:=Γ) (p:=p) (k:=0) (PP:=five P0 P1 P2 P3 P4) (s2:=s2) (s3:=s3) rfl rfl rfl e123 e124 h0
 generalize five P0 P1 P2 P3 P4=PP at *;simp[J9,Df.run,Bw,Ci,t4,t3,t2,t1,t0]
theorem Zw{R:D}(e1:Γ.F 194 [five P0 P1 P2 P3 P4]=.ok .non)(e2:Γ.F 195 [.int p,five P0 P1 P2 P3 P4]=.ok .non)(e3:Γ.F 197 [.int p,five P0 P1 P2 P3 P4]=.ok R):J3.run Γ [.int p,five P0 P1 P2 P3 P4]=.ok R:=by
 have ln:biD .len [five P0 P1 P2 P3 P4]=.ok (.int 5):=rfl;generalize five P0 P1 P2 P3 P4=PP at *;simp[J3,Df.run,Bw,ln,e1,e2,e3]
end
structure Five (p:Ae) (C:C6) (pts:Ac R3):Prop where
 len:pts.length=5
 nd:pts.Nodup
 nf:∀ x∈pts,NF p x
 on:∀ x∈pts,vI C x%p=0
 n4:∀ n:R3,¬ CgR p n (0,0,0)->(pts.filter fun x=>decide (AA n x%p=0)).length<=3
theorem Five.perm{a b:Ac R3}(h:Five p C a)(e:b.Perm a):Five p C b:=
 ⟨e.length_eq.trans h.len,e.nodup_iff.mpr h.nd,fun x hx=>h.nf x (e.mem_iff.mp hx),fun x hx=>h.on x (e.mem_iff.mp hx),fun n hn=>by rw[(e.filter _).length_eq];exact h.n4 n hn⟩
theorem JB{l:Ac α}(h:l.length=5):∃ a b c d e,l=[a,b,c,d,e]:=by
  match l,h with
  |[a,b,c,d,e],_=>exact⟨a,b,c,d,e,rfl⟩
theorem LN(a b c d e:R3):A4 [a,b,c,d,e]=five (Ar Ab a) (Ar Ab b) (Ar Ab c) (Ar Ab d) (Ar Ab e):=rfl
theorem Iw(a:R3):flD 5 (Ar Ab a)=Ab:=rfl
section
variable{Γ:Gam}{p:Ae}{C:C6}
def OK(Γ:Gam):Prop:=∀(p:Ae)(C:C6)(pts:Ac R3),Five p C pts->Γ.F 194 [A4 pts]=.ok .non
theorem VU(Γ:Gam)(p:Ae)(C:C6)(pts:Ac R3)(h:Five p C pts):Ka.run Γ [A4 pts]=.ok .non:=by
 obtain⟨a,b,c,d,e,rfl⟩:=JB h.len;have nd:=h.nd;simp only[BF,As,AF,Bl,CS,De,CV,Fo]at nd;obtain⟨⟨n01,n02,n03,n04⟩,⟨n12,n13,n14⟩,⟨n23,n24⟩,n34⟩:=nd;rw[LN];have k:∀{x y:R3},¬ x=y->eqD (Ar Ab x) (Ar Ab y)=Ad:=fun h=>by rw[IE];exact Cv h
 exact YZ (Iw _) (Iw _) (Iw _) (Iw _) (Iw _) (k n01) (k n02) (k n03) (k n04) (k n12) (k n13) (k n14) (k n23) (k n24) (k n34)
theorem PK{a b c d e:R3}(hp:P4 p)(h:Five p C [a,b,c,d,e]):∀ n:R3,¬ CgR p n (0,0,0)->(decide (AA n a%p=0)).toNat+(decide (AA n b%p=0)).toNat+(decide (AA n c%p=0)).toNat+(decide (AA n d%p=0)).toNat+(decide (AA n e%p=0)).toNat<=3:=fun n hn=>by
 have:=h.n4 n hn;have k:∀(q:R3->An)(x:R3)(l:Ac R3),((x::l).filter q).length=(q x).toNat+(l.filter q).length:=fun q x l=>by
  rw[CT];cases q x<;>simp<;>omega
 rw[k,k,k,k,k]at this;simp only[Su,List.length_nil]at this;omega
theorem FL(x y z:R3):AA (crs x y) z=Ai x y z:=by
 unfold AA crs Ai det;grind
def Py(Γ:Gam):Prop:=∀(p:Ae)(C:C6)(pts:Ac R3),P4 p->Five p C pts->Γ.F 195 [.int p,A4 pts]=.ok .non
theorem Xd(hm:Mt Γ)(p:Ae)(C:C6)(pts:Ac R3)(hp:P4 p)(h:Five p C pts):J9.run Γ [.int p,A4 pts]=.ok .non:=by
 obtain⟨a,b,c,d,e,rfl⟩:=JB h.len;have nd:=h.nd;simp only[BF,As,AF,Bl,CS,De,CV,Fo]at nd;obtain⟨⟨n01,n02,n03,n04⟩,⟨n12,n13,n14⟩,⟨n23,n24⟩,n34⟩:=nd;have na:=h.nf a (by simp)
 have nb:=h.nf b (by simp)
 have nc:=h.nf c (by simp)
 have nd:=h.nf d (by simp)
 have ne:=h.nf e (by simp)
 have B:∀{x:R3},NF p x->B3 x:=fun hx=>(Dy hp hx.1).b3 (by decide)
 have m:∀{x y z:R3},NF p x->NF p y->NF p z->Γ.F 61 [.int p,Ar Ab x,Ar Ab y,Ar Ab z]=.ok (.int (Ai x y z%p)):=fun hx hy hz=>hm p Ab _ _ _ hp.pos (B hx) (B hy) (B hz)
 have key:∀ x y:R3,NF p x->NF p y->x≠y->(decide (AA (crs x y) a%p=0)).toNat+(decide (AA (crs x y) b%p=0)).toNat+(decide (AA (crs x y) c%p=0)).toNat+(decide (AA (crs x y) d%p=0)).toNat+(decide (AA (crs x y) e%p=0)).toNat<=3:=fun x y hx hy hne=>PK hp h _ (Ff hp hx hy hne)
 have z:∀ x y:R3,decide (AA (crs x y) x%p=0)=Ab/\decide (AA (crs x y) y%p=0)=Ab:=fun x y=>by
  obtain⟨h1,h2⟩:=Mo x y;rw[h1,h2];exact⟨AW (Bc p),AW (Bc p)⟩
 have fin:∀{x y u v:R3},(decide (AA (crs x y) u%p=0)=Ab->decide (AA (crs x y) v%p=0)=Ab->Bb)->¬ (Ai x y u%p=0/\Ai x y v%p=0):=fun f ⟨h1,h2⟩=>by
  rw[<-FL]at h1 h2;exact f (AW h1) (AW h2)
 rw[LN];refine iT (m na nb nc) (m na nb nd) (m na nb ne) (m na nc nd) (m na nc ne) (m nb nc nd) (m nb nc ne) (fin fun h1 h2=>?_) (fin fun h1 h2=>?_) (fin fun h1 h2=>?_) (fin fun h1 h2=>?_) (fin fun h1 h2=>?_)
 ·have q:=key a b na nb n01;rw[(z a b).1,(z a b).2,h1,h2]at q;simp only[Ce]at q;omega
 ·have q:=key a b na nb n01;rw[(z a b).1,(z a b).2,h1,h2]at q;simp only[Ce]at q;omega
 ·have q:=key a b na nb n01;rw[(z a b).1,(z a b).2,h1,h2]at q;simp only[Ce]at q;omega
 ·have q:=key a c na nc n02;rw[(z a c).1,(z a c).2,h1,h2]at q;simp only[Ce]at q;omega
 ·have q:=key b c nb nc n12;rw[(z b c).1,(z b c).2,h1,h2]at q;simp only[Ce]at q;omega
def QF(Γ:Gam):Prop:=∀(p:Ae)(a b:R3),P4 p->In3 p a->In3 p b->Γ.F 196 [Ar Ab a,Ar Ab b]=.ok (Bx (prd a b))
theorem ZF(Γ:Gam)(p:Ae)(a b:R3)(hp:P4 p)(ia:In3 p a)(ib:In3 p b):K0.run Γ [Ar Ab a,Ar Ab b]=.ok (Bx (prd a b)):=by
 have ba:=Dy hp ia;have bb:=Dy hp ib;have k:∀ {u v},Bd 10 u->Bd 10 v->DO u v=Ab:=fun hu hv=>EZ hu hv (by decide) (by decide)
 obtain⟨x0,x1,x2⟩:=GY Ab a;obtain⟨y0,y1,y2⟩:=GY Ab b;simp[K0,Df.run,Bw,x0,x1,x2,y0,y1,y2,k ba.1 bb.1,k ba.2.1 bb.2.1,k ba.2.2 bb.2.2,k ba.1 bb.2.1,k ba.2.1 bb.1,k ba.1 bb.2.2,k ba.2.2 bb.1,k ba.2.1 bb.2.2,k ba.2.2 bb.2.1];rfl
theorem KI{a b:R3}(hp:P4 p)(ia:In3 p a)(ib:In3 p b):BC (prd a b):=by
 have hh:=hp.hi;have k:∀{x y:Ae},0<=x/\x<p->0<=y/\y<p->0<=x*y/\x*y<=100:=fun {x y} hx hy=>by
  refine⟨Se hx.1 hy.1,?_⟩;exact Ha (Int.mul_le_mul (show x<=10 by omega) (show y<=10 by omega) hy.1 (by decide)) (by decide)
 have b1:∀{n:Ae},0<=n/\n<=100->Bd 10 n:=fun h=>by unfold Bd;omega
 have b2:∀{m n:Ae},0<=m/\m<=100->0<=n/\n<=100->Bd 10 (m+n):=fun h g=>by unfold Bd;omega
 obtain⟨a0,a1,a2⟩:=ia;obtain⟨b0,b1',b2'⟩:=ib;exact⟨b1 (k a0 b0),b1 (k a1 b1'),b1 (k a2 b2'),b2 (k a0 b1') (k a1 b0),b2 (k a0 b2') (k a2 b0),b2 (k a1 b2') (k a2 b1')⟩
def MO(Γ:Gam):Prop:=∀(p:Ae)(C:C6)(x:R3),P4 p->BC C->In3 p x->Γ.F 126 [.int p,Bx C,Ar Ab x]=.ok (.int (vI C x%p))
theorem Zv(hr:HE Γ)(p:Ae)(C:C6)(x:R3)(hp:P4 p)(bC:BC C)(ix:In3 p x):Mp.run Γ [.int p,Bx C,Ar Ab x]=.ok (.int (vI C x%p)):=by
 obtain⟨i0,i1,i2,i3,i4,i5⟩:=ix6 C;obtain⟨x0,x1,x2⟩:=GY Ab x;have bx:=Dy hp ix;have k:∀ {u v},Bd 10 u->Bd 10 v->DO u v=Ab:=fun hu hv=>EZ hu hv (by decide) (by decide)
 have k2:∀ {u v w},Bd 10 u->Bd 10 v->Bd 10 w->DO (u*v) w=Ab:=fun hu hv hw=>EZ (hu.mul hv) hw (by decide) (by decide)
 simp[Mp,Df.run,Bw,i0,i1,i2,i3,i4,i5,x0,x1,x2,k bC.b0 bx.1,k bC.b1 bx.2.1,k bC.b2 bx.2.2,k bC.b3 bx.1,k bC.b4 bx.1,k bC.b5 bx.2.1,k2 bC.b0 bx.1 bx.1,k2 bC.b1 bx.2.1 bx.2.1,k2 bC.b2 bx.2.2 bx.2.2,k2 bC.b3 bx.1 bx.2.1,k2 bC.b4 bx.1 bx.2.2,k2 bC.b5 bx.2.1 bx.2.2,hr p _ hp.pos];rfl
theorem ZX{P0 P1 P2 P3 P4 A B A' B' R:D}{L M:C6}{l m:Ae}(bL:BC L)(bM:BC M)(bl:Bd 10 l)(bm:Bd 10 m)(e01:Γ.F 57 [.int p,P0,P1]=.ok A)(e23:Γ.F 57 [.int p,P2,P3]=.ok B)(eL:Γ.F 196 [A,B]=.ok (Bx L))(e02:Γ.F 57 [.int p,P0,P2]=.ok A')(e13:Γ.F 57 [.int p,P1,P3]=.ok B')(eM:Γ.F 196 [A',B']=.ok (Bx M))(vM:Γ.F 126 [.int p,Bx M,P4]=.ok (.int m))(vL:Γ.F 126 [.int p,Bx L,P4]=.ok (.int l))(ec:Γ.F 122 [.int p,.lst (ds (lc2 m L (-l) M).l)]=.ok R):J8.run Γ [.int p,five P0 P1 P2 P3 P4]=.ok R:=by
 have i0:AT (five P0 P1 P2 P3 P4) (.int 0)=.ok P0:=rfl;have i1:AT (five P0 P1 P2 P3 P4) (.int 1)=.ok P1:=rfl;have i2:AT (five P0 P1 P2 P3 P4) (.int 2)=.ok P2:=rfl;have i3:AT (five P0 P1 P2 P3 P4) (.int 3)=.ok P3:=rfl;have i4:AT (five P0 P1 P2 P3 P4) (.int 4)=.ok P4:=rfl;have sL:B9 (Bx L)=.ok (ds L.l):=rfl;have sM:B9 (Bx M)=.ok (ds M.l):=rfl;have k:∀ {u v},Bd 10 u->Bd 10 v->DO u v=Ab:=fun hu hv=>EZ hu hv (by decide) (by decide)
 have cp:∀(PP cL cM:D),Be (cGT Γ [si p,sh PP,sh cL,sh cM,si m,si l,Af,Af] [6,7] BD) (cFT Γ [si p,sh PP,sh cL,sh cM,si m,si l,Af,Af] [6,7] Lh) (C4 (ds L.l) (ds M.l))=.ok (ds (lc2 m L (-l) M).l):=fun PP cL cM=>by
  obtain⟨l0,l1,l2,l3,l4,l5⟩:=L;obtain⟨m0,m1,m2,m3,m4,m5⟩:=M;have n:∀ a b:Ae,m*a + -l*b=m*a-l*b:=fun a b=>by rw[Int.neg_mul,Int.sub_eq_add_neg]
  simp[Be,cGT,cFT,C4,ds,C6.l,lc2,Lh,BD,n,k bm bL.b0,k bm bL.b1,k bm bL.b2,k bm bL.b3,k bm bL.b4,k bm bL.b5,k bl bM.b0,k bl bM.b1,k bl bM.b2,k bl bM.b3,k bl bM.b4,k bl bM.b5]
 generalize five P0 P1 P2 P3 P4=PP at *;generalize ds (lc2 m L (-l) M).l=FF at *;generalize ds L.l=LL at *;generalize ds M.l=MM at *;generalize Bx L=cL at *;generalize Bx M=cM at *;simp[J8,Df.run,Bw,i0,i1,i2,i3,i4,e01,e23,eL,e02,e13,eM,vM,vL,sL,sM,cp,ec]
theorem Y7{a a' b b':R3}(ha:CgR p a a')(hb:CgR p b b'):CgC p (prd a b) (prd a' b'):=
 ⟨ha.1.mul hb.1,ha.2.1.mul hb.2.1,ha.2.2.mul hb.2.2,(ha.1.mul hb.2.1).add (ha.2.1.mul hb.1),(ha.1.mul hb.2.2).add (ha.2.2.mul hb.1),(ha.2.1.mul hb.2.2).add (ha.2.2.mul hb.2.1)⟩
theorem O7(hp:P4 p){a a' b b':R3}(ha:Pr p a a')(hb:Pr p b b'):PrC p (prd a b) (prd a' b'):=by
 obtain⟨d,dz,e⟩:=ha;obtain⟨d',dz',e'⟩:=hb;refine⟨d*d',Cq hp dz dz',(Y7 e e').trans (CgC.of ?_)⟩;unfold prd scC BB
 congr 1<;>grind
theorem ZY(hp:P4 p){L M L' M':C6}(hL:PrC p L' L)(hM:PrC p M' M)(v:R3):PrC p (lc2 (vI M' v%p) L' (-(vI L' v%p)) M') (lc2 (vI M v) L (-vI L v) M):=by
 obtain⟨d,dz,e⟩:=hL;obtain⟨d',dz',e'⟩:=hM;refine⟨d*d',Cq hp dz dz',?_⟩;have r:CgR p v v:=⟨Cg.rfl,Cg.rfl,Cg.rfl⟩;have q:=Gi e r;have q':=Gi e' r;rw[HF]at q q';have neg:∀{a b:Ae},Cg p a b->Cg p (-a) (-b):=fun {a b} h=>by
  have:=(Cg.rfl (p:=p) (a:=0)).sub h
  rwa [Sg,Sg]at this
 refine(aG ((Cg.md rfl).trans q') e (neg ((Cg.md rfl).trans q)) e').trans (CgC.of ?_);generalize vI M v=m;generalize vI L v=l;unfold lc2 scC
 congr 1<;>grind
def Pz(Γ:Gam):Prop:=∀(p:Ae)(C:C6)(pts:Ac R3),P4 p->InC p C->AN p C.l=Aa 1->Five p C pts->Γ.F 197 [.int p,A4 pts]=.ok (Bx C)
theorem Vo(hp:P4 p){l:Ae}{E:C6}(lC:AN p C.l=Aa l)(h:PrC p E C):∃ l',AN p E.l=Aa l':=by
 cases e:AN p E.l with
 |some l'=>exact⟨l',rfl⟩
 |none=>
  exfalso
  obtain⟨d,dz,q⟩:=h;have z:=HA.mp e;have k:∀{n:Ae},n∈E.l->Cg p n 0:=fun hn=>z0 (z _ hn)
  have q2:CgC p E ⟨0,0,0,0,0,0⟩:=⟨k (by simp[C6.l]),k (by simp[C6.l]),k (by simp[C6.l]),k (by simp[C6.l]),k (by simp[C6.l]),k (by simp[C6.l])⟩
  exact Qm hp lC (Pq hp dz (q.symm.trans q2))
noncomputable def Fc(a b c d e:R3):C6:=lc2 (vI (prd (crs a c) (crs b d)) e) (prd (crs a b) (crs c d)) (-vI (prd (crs a b) (crs c d)) e) (prd (crs a c) (crs b d))
theorem MQ{a b c d e:R3}{l:Ae}(hp:P4 p)(lC:AN p C.l=Aa l)(h:Five p C [a,b,c,d,e]):PrC p (Fc a b c d e) C:=by
 have nd:=h.nd;simp only[BF,As,AF,Bl,CS,De,CV,Fo]at nd;obtain⟨⟨n01,n02,n03,n04⟩,⟨n12,n13,n14⟩,⟨n23,n24⟩,n34⟩:=nd;have na:=h.nf a (by simp)
 have nb:=h.nf b (by simp)
 have nc:=h.nf c (by simp)
 have nd:=h.nf d (by simp)
 have ne:=h.nf e (by simp)
 have z:∀ x y:R3,AA (crs x y) x%p=0/\AA (crs x y) y%p=0:=fun x y=>by
  obtain⟨h1,h2⟩:=Mo x y;rw[h1,h2];exact⟨Bc p,Bc p⟩
 -- no four of them on a line
 have key:∀ n:R3,¬ CgR p n (0,0,0)->(decide (AA n a%p=0)).toNat+(decide (AA n b%p=0)).toNat+(decide (AA n c%p=0)).toNat+(decide (AA n d%p=0)).toNat+(decide (AA n e%p=0)).toNat<=3:=PK hp h;have dd:Ai a b c%p≠0\/Ai a b d%p≠0:=by
  apply CG
  intro hn;have hn':Ai a b c%p=0/\Ai a b d%p=0:=⟨CG fun z=>hn (.inl z),CG fun z=>hn (.inr z)⟩
  have q:=key _ (Ff hp na nb n01);rw[AW (z a b).1,AW (z a b).2,FL a b c,FL a b d,AW hn'.1,AW hn'.2]at q;simp only[Ce]at q;omega
 have sp:=cA hp dd (h.on a (by simp)) (h.on b (by simp)) (h.on c (by simp)) (h.on d (by simp)) na nb nc nd n02 n12 n23 n03 n13
 have nn:¬ (vI (prd (crs a b) (crs c d)) e%p=0/\vI (prd (crs a c) (crs b d)) e%p=0):=fun ⟨h1,h2⟩=>by
  rw[GW]at h1 h2;have sw:∀ x y:R3,AA (crs x y) e%p=0->AA (crs x e) y%p=0:=fun x y hz=>by
   have:AA (crs x e) y=-1*AA (crs x y) e:=by unfold AA crs;grind
   rw[this,Bk,hz,B8,Bc]
  have sw':∀ x y:R3,AA (crs x y) e%p=0->AA (crs y e) x%p=0:=fun x y hz=>by
   have:AA (crs y e) x=AA (crs x y) e:=by unfold AA crs;grind
   rw[this,hz]
  have spl:∀{u v:Ae},u*v%p=0->u%p=0\/v%p=0:=fun {u v} hz=>by
   by_cases hu:u%p=0
   ·exact .inl hu
   ·exact .inr ((DN hp hu).mp hz)
  rcases spl h1 with g1|g1<;>rcases spl h2 with g2|g2
  ·have q:=key _ (Ff hp na ne n04);rw[AW (z a e).1,AW (z a e).2,AW (sw _ _ g1),AW (sw _ _ g2)]at q;simp only[Ce]at q;omega
  ·have q:=key _ (Ff hp nb ne n14);rw[AW (z b e).1,AW (z b e).2,AW (sw' _ _ g1),AW (sw _ _ g2)]at q;simp only[Ce]at q;omega
  ·have q:=key _ (Ff hp nc ne n24);rw[AW (z c e).1,AW (z c e).2,AW (sw _ _ g1),AW (sw' _ _ g2)]at q;simp only[Ce]at q;omega
  ·have q:=key _ (Ff hp nd ne n34);rw[AW (z d e).1,AW (z d e).2,AW (sw' _ _ g1),AW (sw' _ _ g2)]at q;simp only[Ce]at q;omega
 exact XV hp lC sp (h.on e (by simp)) nn
theorem Xe(hj:KD Γ)(hl:QF Γ)(hv:MO Γ)(hc:QG Γ)(p:Ae)(C:C6)(pts:Ac R3)(hp:P4 p)(iC:InC p C)(lC:AN p C.l=Aa 1)(h:Five p C pts):J8.run Γ [.int p,A4 pts]=.ok (Bx C):=by
 obtain⟨a,b,c,d,e,rfl⟩:=JB h.len;have fp:=MQ hp lC h;have nd:=h.nd;simp only[BF,As,AF,Bl,CS,De,CV,Fo]at nd;obtain⟨⟨n01,n02,n03,n04⟩,⟨n12,n13,n14⟩,⟨n23,n24⟩,n34⟩:=nd;have na:=h.nf a (by simp)
 have nb:=h.nf b (by simp)
 have nc:=h.nf c (by simp)
 have nd:=h.nf d (by simp)
 have ne:=h.nf e (by simp)
 obtain⟨y01,i01,_,p01,e01⟩:=hj p a b hp na.1 nb.1 na.2 nb.2 n01;obtain⟨y23,i23,_,p23,e23⟩:=hj p c d hp nc.1 nd.1 nc.2 nd.2 n23;obtain⟨y02,i02,_,p02,e02⟩:=hj p a c hp na.1 nc.1 na.2 nc.2 n02;obtain⟨y13,i13,_,p13,e13⟩:=hj p b d hp nb.1 nd.1 nb.2 nd.2 n13;have pr:=(ZY hp (O7 hp p01 p23) (O7 hp p02 p13) e).trans hp fp;obtain⟨l,el⟩:=Vo hp lC pr;obtain⟨t,D,it,eD,iD,lD,pD⟩:=Nb hp el;have ec:=hc p Ad _ l t hp el it;rw[eD]at ec;have eq:=NY hp iD iC lD lC (pD.trans hp pr);subst eq;have bd:∀ n:Ae,Bd 10 (n%p):=fun n=>JU hp (A8 _ (by have:=hp.pos;omega)) (A5 _ hp.pos)
 rw[LN];exact ZX (KI hp i01 i23) (KI hp i02 i13) (bd _) (bd _) e01 e23 (hl p _ _ hp i01 i23) e02 e13 (hl p _ _ hp i02 i13) (hv p _ _ hp (KI hp i02 i13) ne.1) (hv p _ _ hp (KI hp i01 i23) ne.1) ec
def QA(Γ:Gam):Prop:=∀(p:Ae)(C:C6)(pts:Ac R3),P4 p->InC p C->AN p C.l=Aa 1->Five p C pts->Γ.F 198 [.int p,A4 pts]=.ok (Bx C)
theorem VT(h1:OK Γ)(h2:Py Γ)(h3:Pz Γ)(p:Ae)(C:C6)(pts:Ac R3)(hp:P4 p)(iC:InC p C)(lC:AN p C.l=Aa 1)(h:Five p C pts):J3.run Γ [.int p,A4 pts]=.ok (Bx C):=by
 have e1:=h1 p C pts h;have e2:=h2 p C pts hp h;have e3:=h3 p C pts hp iC lC h;obtain⟨a,b,c,d,e,rfl⟩:=JB h.len;exact Zw e1 e2 e3
end
section
variable{p:Ae}{r n a b c x y z u:R3}
theorem X3(x y n:R3):crs (crs x y) n=(AA n x*y.1-AA n y*x.1,AA n x*y.2.1-AA n y*x.2.1,AA n x*y.2.2-AA n y*x.2.2):=by
 unfold crs AA;refine Br ?_ (Br ?_ ?_)<;>simp only<;>grind
theorem par(hp:P4 p)(h1:CgR p (crs r n) (0,0,0))(h2:CgR p (crs r a) (0,0,0))(rz:¬ CgR p r (0,0,0))(nz:¬ CgR p n (0,0,0))(e:AA n z%p=0):AA a z%p=0:=by
 obtain⟨f0,f1,f2⟩:=h1;obtain⟨g0,g1,g2⟩:=h2;simp only[crs]at f0 f1 f2 g0 g1 g2;have sw:∀{x y:Ae},Cg p (x-y) 0->Cg p x y:=fun {x y} h=>(Cg.of (by omega)).trans ((h.add (Cg.rfl (a:=y))).trans (Cg.of (by omega)))
 have d1:=sw f0;have d2:=sw f1;have d3:=sw f2;have c1:=sw g0;have c2:=sw g1;have c3:=sw g2
 -- r i n j=r j n i
 have key:∀ ri ni ai:Ae,Cg p (ri*n.1) (r.1*ni)->Cg p (ri*n.2.1) (r.2.1*ni)->Cg p (ri*n.2.2) (r.2.2*ni)->Cg p (ri*a.1) (r.1*ai)->Cg p (ri*a.2.1) (r.2.1*ai)->Cg p (ri*a.2.2) (r.2.2*ai)->ni%p≠0->AA a z%p=0:=fun ri ni ai k0 k1 k2 l0 l1 l2 hz=>by
  have rn:ri%p≠0:=fun q=>rz ⟨?_,?_,?_⟩
  ·have s1:Cg p (ni*AA r z) 0:=by
    have t:=(((k0.mul (Cg.rfl (a:=z.1))).add (k1.mul (Cg.rfl (a:=z.2.1)))).add (k2.mul (Cg.rfl (a:=z.2.2)))).symm;refine(Cg.of ?_).trans (t.trans ((Cg.of ?_).trans (((Cg.rfl (a:=ri)).mul (z0 e)).trans (Cg.of (B8 _)))))
    ·unfold AA;clear e k0 k1 k2 l0 l1 l2 t c1 c2 c3 d1 d2 d3 f0 f1 f2 g0 g1 g2 sw;grind
    ·unfold AA;clear e k0 k1 k2 l0 l1 l2 t c1 c2 c3 d1 d2 d3 f0 f1 f2 g0 g1 g2 sw;grind
   have s2:=z0 ((DN hp hz).mp (z0' s1));have s3:Cg p (ri*AA a z) 0:=by
    have t:=(((l0.mul (Cg.rfl (a:=z.1))).add (l1.mul (Cg.rfl (a:=z.2.1)))).add (l2.mul (Cg.rfl (a:=z.2.2))));refine(Cg.of ?_).trans (t.trans ((Cg.of ?_).trans (((Cg.rfl (a:=ai)).mul s2).trans (Cg.of (B8 _)))))
    ·unfold AA;clear e k0 k1 k2 l0 l1 l2 t c1 c2 c3 d1 d2 d3 f0 f1 f2 g0 g1 g2 sw s1 s2;grind
    ·unfold AA;clear e k0 k1 k2 l0 l1 l2 t c1 c2 c3 d1 d2 d3 f0 f1 f2 g0 g1 g2 sw s1 s2;grind
   exact(DN hp rn).mp (z0' s3)
  all_goals
   refine z0 ((DN hp hz).mp (z0' ?_))
  ·exact(Cg.of (Bs _ _)).trans (k0.symm.trans (((z0 q).mul Cg.rfl).trans (Cg.of (C2 _))))
  ·exact(Cg.of (Bs _ _)).trans (k1.symm.trans (((z0 q).mul Cg.rfl).trans (Cg.of (C2 _))))
  ·exact(Cg.of (Bs _ _)).trans (k2.symm.trans (((z0 q).mul Cg.rfl).trans (Cg.of (C2 _))))
 by_cases n0:n.1%p=0
 ·by_cases n1:n.2.1%p=0
  ·have n2:n.2.2%p≠0:=fun q=>nz ⟨z0 n0,z0 n1,z0 q⟩
   exact key r.2.2 n.2.2 a.2.2 d2 d1.symm Cg.rfl c2 c1.symm Cg.rfl n2
  ·exact key r.2.1 n.2.1 a.2.1 d3.symm Cg.rfl d1 c3.symm Cg.rfl c1 n1
 ·exact key r.1 n.1 a.1 Cg.rfl d3 d2.symm Cg.rfl c3 c2.symm n0
theorem RU(h1:AA n x%p=0)(h2:AA n y%p=0):CgR p (crs (crs x y) n) (0,0,0):=by
 rw[X3];exact⟨FJ (z0 h1) (z0 h2),FJ (z0 h1) (z0 h2),FJ (z0 h1) (z0 h2)⟩
theorem YK(hp:P4 p)(hx:NF p x)(hy:NF p y)(ne:x≠y)(nz:¬ CgR p n (0,0,0))(n1:AA n x%p=0)(n2:AA n y%p=0)(a1:AA a x%p=0)(a2:AA a y%p=0)(e:AA n z%p=0):AA a z%p=0:=
 par hp (RU n1 n2) (RU a1 a2) (Ff hp hx hy ne) nz e
theorem Vb(hp:P4 p)(hx:NF p x)(hy:NF p y)(ne:x≠y)(nz:¬ CgR p n (0,0,0))(n1:AA n x%p=0)(n2:AA n y%p=0)(e:AA n u%p=0):Ai x y u%p=0:=by
 rw[<-FL];obtain⟨h1,h2⟩:=Mo x y;exact YK hp hx hy ne nz n1 n2 (by rw[h1];exact Bc p) (by rw[h2];exact Bc p) e
end
theorem Op{α β:Type}(g:α->β):∀(l:Ac α)(k:Ag),(l.map g).eraseIdx k=(l.eraseIdx k).map g
 |[],_=>rfl
 |_::_,0=>rfl
 |x::l,k+1=>congrArg (g x :: ·) (Op g l k)
theorem N7{α:Type}:∀(l:Ac α)(i:Ag)(h:i<l.length),(l[i]::l.eraseIdx i).Perm l
 |_::_,0,_=>GH _
 |x::l,i+1,h=>(E8 ..).trans (E7 x (N7 l i (Nat.lt_of_succ_lt_succ h)))
noncomputable def ow(l:Ac R3):Sl:=Aa (A4 l,Ab)
theorem VS(a:Ae)(n:Ag):BK a (n+1)=.int a::BK (a+1) n:=by
 unfold BK;rw[Er,Bq,F2]
 congr 1
 ·simp
 ·refine E6 fun k _=>?_
  simp only[Function.comp]
  congr 1
  omega
theorem Za(ρ:Rho)(j i:Ag)(f l:Ac R3)(k:Ag)(x:R3)(hk:l[k]?=Aa x)(hj:(j != i)=Ab)(h1:CB l.length=Ab)(h2:CB (f.length+1)=Ab):apD ρ j i (f.map (Ar Ab)) (l.map (Ar Ab)) (k:Ae)=.next ((ρ.set i (ow (l.eraseIdx k))).set j (ow (f++[x]))):=by
 have kl:k<l.length:=(AE.mp hk).1;unfold apD;have e:plD (l.map (Ar Ab)).length (k:Ae)=Aa k:=by
  unfold plD;rw[AB (by omega),BE,AB (by omega),DJ]
 rw[e];dsimp only;rw[Cr,hk];dsimp only[Option.map];rw[BE,BE,hj,h1,h2];rw[AB (by rfl)]
 unfold ow A4;rw[Op,SJ];rfl
theorem VG{q:R3->An}{l:Ac R3}(nd:l.Nodup)(h:3<=(l.filter q).length):∃ x y u,x∈l/\y∈l/\u∈l/\x≠y/\x≠u/\y≠u/\q x=Ab/\q y=Ab/\q u=Ab:=by
  have nf:(l.filter q).Nodup:=nd.filter (p:=q);have hm:∀ x∈l.filter q,x∈l/\q x=Ab:=fun x hx=>Bj.mp hx
  generalize l.filter q=F at *
  match F,h,nf,hm with
  |x::y::u::r,_,nf,hm=>
    simp only[BF,As,CS]at nf;have a:=hm x (by simp)
    have b:=hm y (by simp)
    have c:=hm u (by simp)
    exact⟨x,y,u,a.1,b.1,c.1,nf.1.1,nf.1.2.1,nf.2.1.1,a.2,b.2,c.2⟩
theorem gD(α β γ δ ε ζ:Ae)(a b c d:R3):Ai (α*b.1-β*a.1,α*b.2.1-β*a.2.1,α*b.2.2-β*a.2.2) (γ*c.1-δ*b.1,γ*c.2.1-δ*b.2.1,γ*c.2.2-δ*b.2.2) (ε*d.1-ζ*c.1,ε*d.2.1-ζ*c.2.1,ε*d.2.2-ζ*c.2.2)=α*γ*ε*Ai b c d-β*γ*ε*Ai a c d+β*δ*ε*Ai a b d-β*δ*ζ*Ai a b c:=by
 unfold Ai det;simp only;grind
theorem iV(a b c d e:R3):Ai a d e*Ai b c d-Ai b d e*Ai a c d=-(Ai d e c*Ai a b d):=by
 unfold Ai det;grind
theorem iU(b c d e f:R3):Ai b d e*Ai c e f-Ai b e f*Ai d e c=-(Ai e b c*Ai e d f):=by
 unfold Ai det;grind
theorem Iu(a b d e:R3):crs (crs a b) (crs d e)=(Ai a d e*b.1-Ai b d e*a.1,Ai a d e*b.2.1-Ai b d e*a.2.1,Ai a d e*b.2.2-Ai b d e*a.2.2):=by
 unfold crs Ai det;refine Br ?_ (Br ?_ ?_)<;>simp only<;>grind
theorem YU(a b c d e f:R3):Ai (crs (crs a b) (crs d e)) (crs (crs b c) (crs e f)) (crs (crs c d) (crs f a))=-(Ai a b c*Ai b d e*(Ai c e f*Ai d f a)+Ai a b d*Ai e b c*(Ai c f a*Ai e d f)):=by
 rw[Iu,Iu,Iu,gD];have h1:=iV a b c d e;have h2:=iU b c d e f;generalize Ai a d e=α at *;generalize Ai b d e=β at *;generalize Ai b e f=γ at *;generalize Ai c e f=δ at *;generalize Ai c f a=ε at *;generalize Ai d f a=ζ at *;generalize Ai b c d=u at *;generalize Ai a c d=v at *;generalize Ai a b d=w at *;generalize Ai a b c=x at *;generalize Ai d e c=y at *;generalize Ai e b c=s at *;generalize Ai e d f=t at *;grind
section
variable{p:Ae}{C:C6}
theorem QQ{C':C6}(hp:P4 p)(iC:InC p C)(lC:AN p C.l=Aa 1)(iC':InC p C')(lC':AN p C'.l=Aa 1)(h:Five p C pts)(h':Five p C' pts):C=C':=by
 obtain⟨a,b,c,d,e,rfl⟩:=JB h.len;exact NY hp iC iC' lC lC' ((PrC.symm hp (MQ hp lC h)).trans hp (MQ hp lC' h'))
structure N3 (p:Ae) (pts:Ac R3):Prop where
 nd:pts.Nodup
 nf:∀ x∈pts,NF p x
 n3:∀ x y u,x∈pts->y∈pts->u∈pts->x≠y->x≠u->y≠u->Ai x y u%p≠0
theorem N3.perm{a b:Ac R3}(h:N3 p a)(e:b.Perm a):N3 p b:=⟨e.nodup_iff.mpr h.nd,fun x hx=>h.nf x (e.mem_iff.mp hx),fun x y u hx hy hu=>h.n3 x y u (e.mem_iff.mp hx) (e.mem_iff.mp hy) (e.mem_iff.mp hu)⟩
theorem N3.sub{a b:Ac R3}(h:N3 p a)(e:b.Sublist a):N3 p b:=⟨e.nodup h.nd,fun x hx=>h.nf x (e.subset hx),fun x y u hx hy hu=>h.n3 x y u (e.subset hx) (e.subset hy) (e.subset hu)⟩
theorem N3.five(hp:P4 p)(h:N3 p pts)(len:pts.length=5)(on:∀ x∈pts,vI C x%p=0):Five p C pts:=by
 refine⟨len,h.nd,h.nf,on,fun n hn=>?_⟩
 apply CG
 intro hc;obtain⟨x,y,u,hx,hy,hu,n1,n2,n3,q1,q2,q3⟩:=VG (q:=fun x=>decide (AA n x%p=0)) h.nd (by omega)
 exact h.n3 x y u hx hy hu n1 n2 n3 (Vb hp (h.nf x hx) (h.nf y hy) n1 hn (Dg q1) (Dg q2) (Dg q3))
noncomputable def Gc(a b c d e:R3):C6:=lc2 (Ai a b c*Ai b d e) (prd (crs c e) (crs a d)) (Ai a b d*Ai e b c) (prd (crs a c) (crs e d))
theorem HK(a b c d e f:R3):vI (Gc a b c d e) f=Ai a b c*Ai b d e*(Ai c e f*Ai d f a)+Ai a b d*Ai e b c*(Ai c f a*Ai e d f):=by
 unfold Gc;rw[Qi,GW,GW,FL,FL,FL,FL];have h1:Ai a d f=Ai d f a:=by unfold Ai det;grind
 have h2:Ai a c f=Ai c f a:=by unfold Ai det;grind
 rw[h1,h2]
theorem gG(a b c d e:R3):vI (Gc a b c d e) a=0/\vI (Gc a b c d e) b=0/\vI (Gc a b c d e) c=0/\vI (Gc a b c d e) d=0/\vI (Gc a b c d e) e=0:=by
 have same:∀ x y:R3,Ai x x y=0/\Ai x y x=0/\Ai y x x=0:=fun x y=>by unfold Ai det;refine⟨?_,?_,?_⟩<;>grind
 refine⟨?_,?_,?_,?_,?_⟩
 ·rw[HK,(same a d).2.2,(same a c).2.2];simp
 ·rw[HK];have h1:Ai c e b=Ai e b c:=by unfold Ai det;grind
  have h2:Ai d b a=-Ai a b d:=by unfold Ai det;grind
  have h3:Ai c b a=-Ai a b c:=by unfold Ai det;grind
  have h4:Ai e d b=-Ai b d e:=by unfold Ai det;grind
  rw[h1,h2,h3,h4];generalize Ai a b c=x;generalize Ai b d e=y;generalize Ai e b c=z;generalize Ai a b d=w;grind
 ·rw[HK,(same c e).2.1,(same c a).1];simp
 ·rw[HK,(same d a).1,(same d e).2.2];simp
 ·rw[HK,(same e c).2.2,(same e d).2.1];simp
theorem gH(hp:P4 p){a b c d e:R3}(h1:Ai a b c%p≠0)(h2:Ai b d e%p≠0)(h3:Ai a c e%p≠0)(h4:Ai a c d%p≠0):∃ l,AN p (Gc a b c d e).l=Aa l:=by
 cases q:AN p (Gc a b c d e).l with
 |some l=>exact⟨l,rfl⟩
 |none=>
  exfalso
  have z:=HA.mp q;have k:∀{n:Ae},n∈(Gc a b c d e).l->Cg p n 0:=fun hn=>z0 (z _ hn)
  have q2:CgC p (Gc a b c d e) ⟨0,0,0,0,0,0⟩:=⟨k (by simp[C6.l]),k (by simp[C6.l]),k (by simp[C6.l]),k (by simp[C6.l]),k (by simp[C6.l]),k (by simp[C6.l])⟩
  have v:=Gi (x:=(a.1+c.1,a.2.1+c.2.1,a.2.2+c.2.2)) (x':=(a.1+c.1,a.2.1+c.2.1,a.2.2+c.2.2)) q2 ⟨Cg.rfl,Cg.rfl,Cg.rfl⟩;rw[HK]at v;have e1:Ai c e (a.1+c.1,a.2.1+c.2.1,a.2.2+c.2.2)=Ai a c e:=by unfold Ai det;simp only;grind
  have e2:Ai d (a.1+c.1,a.2.1+c.2.1,a.2.2+c.2.2) a=-Ai a c d:=by unfold Ai det;simp only;grind
  have e3:Ai c (a.1+c.1,a.2.1+c.2.1,a.2.2+c.2.2) a=0:=by unfold Ai det;simp only;grind
  rw[e1,e2,e3]at v;refine Cq hp (Cq hp h1 h2) (Cq hp h3 (Cq hp hp.m1 h4)) (z0' ((Cg.of ?_).trans (v.trans (Cg.of ?_))))
  ·rw[C2,B8,Int.add_zero,Int.neg_one_mul]
  ·unfold vI;simp
theorem PN(hp:P4 p){a b c d e:R3}(h:N3 p [a,b,c,d,e]):∃ C,InC p C/\AN p C.l=Aa 1/\PrC p C (Gc a b c d e)/\Five p C [a,b,c,d,e]:=by
 have nd:=h.nd;simp only[BF,As,AF,Bl,CS,De,CV,Fo]at nd;obtain⟨⟨n01,n02,n03,n04⟩,⟨n12,n13,n14⟩,⟨n23,n24⟩,n34⟩:=nd;obtain⟨l,el⟩:=gH hp (h.n3 a b c (by simp) (by simp) (by simp) n01 n02 n12) (h.n3 b d e (by simp) (by simp) (by simp) n13 n14 n34) (h.n3 a c e (by simp) (by simp) (by simp) n02 n04 n24) (h.n3 a c d (by simp) (by simp) (by simp) n02 n03 n23)
 obtain⟨t,D,it,eD,iD,lD,pD⟩:=Nb hp el;refine⟨D,iD,lD,pD,h.five hp rfl fun x hx=>?_⟩
 have k:∀ x,vI (Gc a b c d e) x=0->vI D x%p=0:=fun x hz=>by
  obtain⟨d,dz,q⟩:=pD;have q:=Gi (x:=x) (x':=x) q ⟨Cg.rfl,Cg.rfl,Cg.rfl⟩;rw[HF,hz,B8]at q;exact z0' q
 obtain⟨g0,g1,g2,g3,g4⟩:=gG a b c d e;simp only[As,AF,Bl]at hx;rcases hx with rfl|rfl|rfl|rfl|rfl
 ·exact k _ g0
 ·exact k _ g1
 ·exact k _ g2
 ·exact k _ g3
 ·exact k _ g4
theorem pas(hp:P4 p){a b c d e f:R3}(h:N3 p [a,b,c,d,e,f]):Ai (crs (crs a b) (crs d e)) (crs (crs b c) (crs e f)) (crs (crs c d) (crs f a))%p=0↔∃ C,InC p C/\AN p C.l=Aa 1/\∀ x∈[a,b,c,d,e,f],vI C x%p=0:=by
 have h5:N3 p [a,b,c,d,e]:=h.sub (Ee [a,b,c,d,e] [f]);obtain⟨C,iC,lC,pC,F⟩:=PN hp h5;have k:vI C f%p=0↔vI (Gc a b c d e) f%p=0:=by
  obtain⟨d,dz,q⟩:=pC;have q:=Gi (x:=f) (x':=f) q ⟨Cg.rfl,Cg.rfl,Cg.rfl⟩;rw[HF]at q;rw[show vI C f%p=_ from q]
  exact DN hp dz
 rw[YU,<-HK];have ng:-vI (Gc a b c d e) f%p=0↔vI (Gc a b c d e) f%p=0:=by
  rw[show -vI (Gc a b c d e) f=-1*vI (Gc a b c d e) f by omega]
  exact DN hp hp.m1
 rw[ng,<-k];constructor
 ·intro hf;refine⟨C,iC,lC,fun x hx=>?_⟩
  rcases Cu.mp (show x∈[a,b,c,d,e]++[f] from hx) with hx|hx
  ·exact F.on x hx
  ·rw[AR.mp hx];exact hf
 ·rintro⟨C',iC',lC',on⟩;have F':Five p C' [a,b,c,d,e]:=h5.five hp rfl fun x hx=>on x (Cn [f] hx)
  rw[QQ hp iC lC iC' lC' F F'];exact on f (by simp)
end
theorem Ks{body:D->Rho->O}(I:Rho->Prop):∀ L:Ac D,(∀ x∈L,∀ ρ,I ρ->∃ ρ',body x ρ=.next ρ'/\I ρ')->∀ ρ,I ρ->∃ ρ',Ci body L ρ=.next ρ'/\I ρ'
 |[],_,ρ,h=>⟨ρ,rfl,h⟩
 |x::L,hb,ρ,h=>by
  obtain⟨ρ1,e1,h1⟩:=hb x Aw ρ h;obtain⟨ρ2,e2,h2⟩:=Ks I L (fun y hy=>hb y (At _ hy)) ρ1 h1
  refine⟨ρ2,?_,h2⟩;show (body x ρ).turn _=_;rw[e1];exact e2
theorem Pf{x:D}:∀{i:Ae}{l:Ac D},x∈EF i l->∃(k:Ag)(d:D),l[k]?=Aa d/\x=.tup [.int (i+k),d]
 |_,[],h=>nomatch h
 |i,d::l,h=>by
  rcases As.mp h with rfl|h
  ·exact⟨0,d,rfl,by simp⟩
  ·obtain⟨k,d',h1,rfl⟩:=Pf h;exact⟨k+1,d',h1,by rw[Int.add_assoc,Int.add_comm 1,Int.natCast_succ]⟩
section
variable{Γ:Gam}{p:Ae}
theorem jK{x y u:D}(gy:AT PP (.int j)=.ok y)(gu:AT PP (.int k)=.ok u)(e:Γ.F 61 [.int p,x,y,u]=.ok (.int d))(nz:d≠0):Bm Γ 5 Jl (.int k) [si p,sh PP,si i,sh x,si j,s]=.next [si p,sh PP,si i,sh x,si j,si k]:=by
 simp[Bm,Jl,gy,gu,e,nz]
theorem jJ{x:D}{N:Ae}{t s':Sl}(ln:biD .len [PP]=.ok (.int N))(r:B5 (j+1) N=.ok RL)(e:Ci (Bm Γ 5 Jl) RL [si p,sh PP,si i,sh x,si j,t]=.next [si p,sh PP,si i,sh x,si j,s']):Bm Γ 4 Jk (.int j) [si p,sh PP,si i,sh x,s,t]=.next [si p,sh PP,si i,sh x,si j,s']:=by
 simp[Bm,Jk,ln,r,e]
theorem iJ{x:D}{N:Ae}{t s' t':Sl}(ln:biD .len [PP]=.ok (.int N))(r:B5 (i+1) N=.ok RL)(e:Ci (Bm Γ 4 Jk) RL [si p,sh PP,si i,sh x,s,t]=.next [si p,sh PP,si i,sh x,s',t']):Hl Γ [2,3] Jj (.tup [.int i,x]) [si p,sh PP,s2,s3,s,t]=.next [si p,sh PP,si i,sh x,s',t']:=by
 have a:E0 [2,3] (.tup [.int i,x]) [si p,sh PP,s2,s3,s,t]=.ok [si p,sh PP,si i,sh x,s,t]:=rfl;simp[Hl,a,Jj,ln,r,e]
theorem iH{t:Sl}(sq:B9 PP=.ok as)(e:Ci (Hl Γ [2,3] Jj) (EF 0 as) [si p,sh PP,Af,Af,Af,Af]=.next [si p,sh PP,s2,s3,s,t]):Ji.run Γ [.int p,PP]=.ok .non:=by
 simp[Ji,Df.run,Bw,sq,e]
def Rk(Γ:Gam):Prop:=∀(p:Ae)(pts:Ac R3),P4 p->pts.length<=100->N3 p pts->Γ.F 65 [.int p,A4 pts]=.ok .non
theorem dN(hm:Mt Γ)(p:Ae)(pts:Ac R3)(hp:P4 p)(hn:pts.length<=100)(h:N3 p pts):Ji.run Γ [.int p,A4 pts]=.ok .non:=by
 have ln:biD .len [A4 pts]=.ok (.int (pts.length:Ae)):=by
  show R.ok (D.int ((pts.map (Ar Ab)).length:Ae))=_;rw[BE]
 have sq:B9 (A4 pts)=.ok (pts.map (Ar Ab)):=rfl;have ix:∀(k:Ag)(x:R3),pts[k]?=Aa x->AT (A4 pts) (.int (k:Ae))=.ok (Ar Ab x):=fun k x hx=>by
  show Dk (pts.map (Ar Ab)) (k:Ae)=_;refine Kq (by omega) ?_
  rw[DJ,Cr,hx];rfl
 have rg:∀ j:Ag,j<pts.length->B5 ((j:Ae)+1) (pts.length:Ae)=.ok (BK ((j:Ae)+1) ((pts.length:Ae)-((j:Ae)+1)).toNat):=fun j hj=>LO (by omega) (by omega) (by omega) (by omega)
 have B:∀{x:R3},NF p x->B3 x:=fun hx=>(Dy hp hx.1).b3 (by decide)
 have neq:∀{i j:Ag}{x y:R3},i<j->pts[i]?=Aa x->pts[j]?=Aa y->x≠y:=fun {i j x y} hij hx hy q=>by
  subst q;obtain⟨hi,ei⟩:=AE.mp hx;obtain⟨hj,ej⟩:=AE.mp hy;have:=(List.nodup_iff_pairwise_ne.mp h.nd);exact List.pairwise_iff_getElem.mp this i j hi hj hij (ei.trans ej.symm)
 have mem:∀{i:Ag}{x:R3},pts[i]?=Aa x->x∈pts:=fun hx=>EN hx
 have me:∀{i j k:Ag}{x y u:R3},i<j->j<k->pts[i]?=Aa x->pts[j]?=Aa y->pts[k]?=Aa u->Γ.F 61 [.int p,Ar Ab x,Ar Ab y,Ar Ab u]=.ok (.int (Ai x y u%p))/\Ai x y u%p≠0:=fun {i j k x y u} h1 h2 hx hy hu=>
  ⟨hm p Ab _ _ _ hp.pos (B (h.nf _ (mem hx))) (B (h.nf _ (mem hy))) (B (h.nf _ (mem hu))),h.n3 x y u (mem hx) (mem hy) (mem hu) (neq h1 hx hy) (neq (Nat.lt_trans h1 h2) hx hu) (neq h2 hy hu)⟩
 have get:∀{k:Ag},k<pts.length->∃ x,pts[k]?=Aa x:=fun {k} hk=>⟨_,Bo hk⟩
 obtain⟨ρ',e,s2,s3,s,t,rfl⟩:=Ks (body:=Hl Γ [2,3] Jj) (fun ρ=>∃ s2 s3 s t,ρ=[si p,sh (A4 pts),s2,s3,s,t]) (EF 0 (pts.map (Ar Ab))) (fun x hx ρ ⟨s2,s3,s,t,e⟩=>by
  subst e;obtain⟨i,d,hd,rfl⟩:=Pf hx;rw[Cr]at hd;obtain⟨a,ha,rfl⟩:=Option.map_eq_some_iff.mp hd;have il:=(AE.mp ha).1;rw[Ed];obtain⟨ρ1,e1,s',t',rfl⟩:=Ks (body:=Bm Γ 4 Jk) (fun ρ=>∃ s t,ρ=[si p,sh (A4 pts),si i,sh (Ar Ab a),s,t]) (BK ((i:Ae)+1) ((pts.length:Ae)-((i:Ae)+1)).toNat) (fun y hy ρ ⟨s,t,e⟩=>by
   subst e;obtain⟨j',hj',rfl⟩:=LU hy;obtain⟨b,hb⟩:=get (k:=i+1+j') (by omega)
   have jl:i+1+j'<pts.length:=by omega
   have ej:(i:Ae)+1+(j':Ae)=((i+1+j':Ag):Ae):=by omega
   have ij:i<i+1+j':=by omega
   rw[ej];generalize i+1+j'=j at *;obtain⟨ρ2,e2,t',rfl⟩:=Ks (body:=Bm Γ 5 Jl) (fun ρ=>∃ t,ρ=[si p,sh (A4 pts),si i,sh (Ar Ab a),si j,t]) (BK ((j:Ae)+1) ((pts.length:Ae)-((j:Ae)+1)).toNat) (fun z hz ρ ⟨t,e⟩=>by
    subst e;obtain⟨k',hk',rfl⟩:=LU hz;obtain⟨c,hc⟩:=get (k:=j+1+k') (by omega)
    have ek:(j:Ae)+1+(k':Ae)=((j+1+k':Ag):Ae):=by omega
    have jk:j<j+1+k':=by omega
    rw[ek];generalize j+1+k'=k at *;obtain⟨m1,m2⟩:=me ij jk ha hb hc;have g1:=ix j b hb;have g2:=ix k c hc;generalize A4 pts=PP at *;generalize (i:Ae)=iI at *;generalize (j:Ae)=jI at *;generalize (k:Ae)=kI at *;exact⟨_,jK g1 g2 m1 m2,_,rfl⟩) _ ⟨t,rfl⟩
   have r:=rg j jl;generalize BK ((j:Ae)+1) ((pts.length:Ae)-((j:Ae)+1)).toNat=RL at *;generalize (pts.length:Ae)=N at *;generalize A4 pts=PP at *;generalize (i:Ae)=iI at *;generalize (j:Ae)=jI at *;exact⟨_,jJ ln r e2,_,_,rfl⟩) _ ⟨s,t,rfl⟩
  have r:=rg i il;generalize BK ((i:Ae)+1) ((pts.length:Ae)-((i:Ae)+1)).toNat=RL at *;generalize (pts.length:Ae)=N at *;generalize A4 pts=PP at *;generalize (i:Ae)=iI at *;exact⟨_,iJ ln r e1,_,_,_,_,rfl⟩) _ ⟨Af,Af,Af,Af,rfl⟩
 exact iH sq e
end
noncomputable def Im:Df:=⟨5,Ad,(.cons (.asg 3 Ad (.call 57 (.cons (.var 0) (.cons (.idx (.var 1) (.var 2)) (.cons (.idx (.var 1) (.bin .Add (.var 2) (.int 1))) .nil))))) (.cons (.asg 4 Ad (.call 57 (.cons (.var 0) (.cons (.idx (.var 1) (.bin .Add (.var 2) (.int 3))) (.cons (.idx (.var 1) (.bin .Mod (.bin .Add (.var 2) (.int 4)) (.int 6))) .nil))))) (.cons (.ret (.call 58 (.cons (.var 0) (.cons (.var 3) (.cons (.var 4) .nil))))) .nil)))⟩
noncomputable def Ll:Df:=⟨2,Ad,(.cons (.ife (.cmp .NotEq (.bi .len (.cons (.var 1) .nil)) (.int 6)) (.cons (.rais 13 (.cons (.str (AQ "six points are asked for")) .nil)) .nil) .nil) (.cons (.expr (.call 109 (.cons (.var 0) (.cons (.var 1) .nil)))) (.cons (.ret (.tup (.cons (.call 209 (.cons (.var 0) (.cons (.var 1) (.cons (.int 0) .nil)))) (.cons (.call 209 (.cons (.var 0) (.cons (.var 1) (.cons (.int 1) .nil)))) (.cons (.call 209 (.cons (.var 0) (.cons (.var 1) (.cons (.int 2) .nil)))) .nil))))) .nil)))⟩
noncomputable def Hy:Df:=⟨4,Ad,(.cons (.asg 2 Ad (.call 210 (.cons (.var 0) (.cons (.var 1) .nil)))) (.cons (.asg 3 Ad (.call 198 (.cons (.var 0) (.cons (.sl (.var 1) .non (.int 5)) .nil)))) (.cons (.ife (.cmp .Eq (.call 126 (.cons (.var 0) (.cons (.var 3) (.cons (.idx (.var 1) (.int 5)) .nil)))) (.int 0)) (.cons (.ret (.tup (.cons (.str (AQ "one")) (.cons (.var 3) (.cons (.var 2) (.cons (.call 57 (.cons (.var 0) (.cons (.idx (.var 2) (.int 0)) (.cons (.idx (.var 2) (.int 1)) .nil)))) .nil)))))) .nil) .nil) (.cons (.ret (.tup (.cons (.str (AQ "apart")) (.cons (.var 2) .nil)))) .nil))))⟩
noncomputable def Qx:Df:=⟨3,Ad,(.cons (.ret (.call 17 (.cons (.var 0) (.cons (.call 23 (.cons (.var 1) (.cons (.var 2) .nil))) .nil)))) .nil)⟩
def QE(Γ:Gam):Prop:=∀(p:Ae)(a b:R3),P4 p->In3 p a->In3 p b->AN p (tri a)=Aa 1->AN p (tri b)=Aa 1->a≠b->∃ y,In3 p y/\AN p (tri y)=Aa 1/\Pr p y (crs a b)/\Γ.F 58 [.int p,Ar Ab a,Ar Ab b]=.ok (Ar Ab y)
theorem ZD(hc:PB Γ)(hf:Kx Γ)(p:Ae)(a b:R3)(hp:P4 p)(ia:In3 p a)(ib:In3 p b)(la:AN p (tri a)=Aa 1)(lb:AN p (tri b)=Aa 1)(ne:a≠b):∃ y,In3 p y/\AN p (tri y)=Aa 1/\Pr p y (crs a b)/\Qx.run Γ [.int p,Ar Ab a,Ar Ab b]=.ok (Ar Ab y):=Qc hc hf p a b hp ia ib la lb ne
section
variable{Γ:Gam}{p:Ae}{a b c d e f x y:R3}{C:C6}
noncomputable def mtI(p:Ae)(a b d e:R3):R3:=nrm p (crs (crs a b) (crs d e))
theorem Qf{n:R3}(h:AA n r%p≠0):¬ CgR p r (0,0,0):=fun z=>h (z0' ((G1 (⟨Cg.rfl,Cg.rfl,Cg.rfl⟩:CgR p n n) z).trans (Cg.of (by unfold AA;simp))))
theorem Pd(h:¬ CgR p r (0,0,0)):∃ l,AN p (tri r)=Aa l:=by
 cases q:AN p (tri r) with
 |some l=>exact⟨l,rfl⟩
 |none=>exact absurd (L7 q) h
theorem JJ(hp:P4 p)(h:¬ CgR p r (0,0,0)):NF p (nrm p r)/\Pr p (nrm p r) r:=by
 obtain⟨l,el⟩:=Pd h;exact OR hp el
theorem MC(hp:P4 p)(h:¬ CgR p r (0,0,0))(hy:NF p y)(e:Pr p y r):y=nrm p r:=by
 obtain⟨h1,h2⟩:=JJ hp h;exact KN hp hy h1 (e.trans hp (Pr.symm hp h2))
theorem MS(hp:P4 p)(hx:Pr p x x')(hy:Pr p y y'):Pr p (crs x y) (crs x' y'):=by
 obtain⟨d,dz,e⟩:=hx;obtain⟨d',dz',e'⟩:=hy;refine⟨d*d',Cq hp dz dz',(ZJ e e').trans ?_⟩;have:crs (BB d x') (BB d' y')=BB (d*d') (crs x' y'):=by
  unfold crs BB;refine Br ?_ (Br ?_ ?_)<;>simp only<;>grind
 rw[this];exact⟨Cg.rfl,Cg.rfl,Cg.rfl⟩
theorem QT{s:R3}(hp:P4 p)(h:Pr p r s)(z:¬ CgR p s (0,0,0)):¬ CgR p r (0,0,0):=fun q=>by
 obtain⟨d,dz,e⟩:=h;refine z (KF hp dz ⟨e.1.symm.trans q.1,e.2.1.symm.trans q.2.1,e.2.2.symm.trans q.2.2⟩)
theorem HI(hp:P4 p)(h1:Ai a d e%p≠0)(h2:Ai a d b%p≠0):¬ CgR p (crs (crs a b) (crs d e)) (0,0,0):=by
 refine Qf (n:=crs a d) ?_;have:AA (crs a d) (crs (crs a b) (crs d e))=Ai a d e*Ai a d b:=by
  rw[Iu];unfold AA crs Ai det;simp only;grind
 rw[this];exact Cq hp h1 h2
def Ri(Γ:Gam):Prop:=∀(p:Ae)(a b d e:R3),P4 p->NF p a->NF p b->NF p d->NF p e->a≠b->d≠e->Ai a d e%p≠0->Ai a d b%p≠0->∃ l l',Γ.F 57 [.int p,Ar Ab a,Ar Ab b]=.ok l/\Γ.F 57 [.int p,Ar Ab d,Ar Ab e]=.ok l'/\Γ.F 58 [.int p,l,l']=.ok (Ar Ab (mtI p a b d e))
theorem dJ(hj:KD Γ)(hm:QE Γ):Ri Γ:=fun p a b d e hp na nb nd ne n1 n2 h1 h2=>by
 obtain⟨l,il,ll,pl,el⟩:=hj p a b hp na.1 nb.1 na.2 nb.2 n1;obtain⟨l',il',ll',pl',el'⟩:=hj p d e hp nd.1 ne.1 nd.2 ne.2 n2;have z:=HI (b:=b) hp h1 h2;have pc:=MS hp pl pl';have ll0:l≠l':=fun q=>by
  subst q;refine QT hp pc z ?_;unfold crs;exact⟨Cg.of (by grind),Cg.of (by grind),Cg.of (by grind)⟩
 obtain⟨y,iy,ly,py,ey⟩:=hm p l l' hp il il' ll ll' ll0;refine⟨_,_,el,el',?_⟩;rw[ey,MC hp z ⟨iy,ly⟩ (py.trans hp pc)];rfl
structure Six (p:Ae) (a b c d e f:R3):Prop where
 n3:N3 p [a,b,c,d,e,f]
 m0:Ai a d e%p≠0/\Ai a d b%p≠0
 m1:Ai b e f%p≠0/\Ai b e c%p≠0
 m2:Ai c f a%p≠0/\Ai c f d%p≠0
 ab:a≠b
 bc:b≠c
 cd:c≠d
 de:d≠e
 ef:e≠f
 fa:f≠a
 mj:Ai b d e%p≠0/\Ai b e f%p≠0/\Ai a b c%p≠0
theorem Six.of(h:N3 p [a,b,c,d,e,f]):Six p a b c d e f:=by
 have nd:=h.nd;simp only[BF,As,AF,Bl,CS,De,CV,Fo]at nd;obtain⟨⟨n01,n02,n03,n04,n05⟩,⟨n12,n13,n14,n15⟩,⟨n23,n24,n25⟩,⟨n34,n35⟩,n45⟩:=nd;have k:∀{x y u:R3},x∈[a,b,c,d,e,f]->y∈[a,b,c,d,e,f]->u∈[a,b,c,d,e,f]->x≠y->x≠u->y≠u->Ai x y u%p≠0:=fun hx hy hu=>h.n3 _ _ _ hx hy hu
 exact⟨h,⟨k (by simp) (by simp) (by simp) n03 n04 n34,k (by simp) (by simp) (by simp) n03 n01 (Dl n13)⟩,⟨k (by simp) (by simp) (by simp) n14 n15 n45,k (by simp) (by simp) (by simp) n14 n12 (Dl n24)⟩,⟨k (by simp) (by simp) (by simp) n25 (Dl n02) (Dl n05),k (by simp) (by simp) (by simp) n25 n23 (Dl n35)⟩,n01,n12,n23,n34,n45,Dl n05,k (by simp) (by simp) (by simp) n13 n14 n34,k (by simp) (by simp) (by simp) n14 n15 n45,k (by simp) (by simp) (by simp) n01 n02 n12⟩
theorem L9{PP A B A' B' l l' R:D}(i0:AT PP (.int k)=.ok A)(i1:AT PP (.int (k+1))=.ok B)(i2:AT PP (.int (k+3))=.ok A')(i3:AT PP (.int ((k+4)%6))=.ok B')(e1:Γ.F 57 [.int p,A,B]=.ok l)(e2:Γ.F 57 [.int p,A',B']=.ok l')(e3:Γ.F 58 [.int p,l,l']=.ok R):Im.run Γ [.int p,PP,.int k]=.ok R:=by
 simp[Im,Df.run,Bw,i0,i1,i2,i3,e1,e2,e3]
theorem JH(P0 P1 P2 P3 P4 P5:D):AT (.lst [P0,P1,P2,P3,P4,P5]) (.int 0)=.ok P0/\AT (.lst [P0,P1,P2,P3,P4,P5]) (.int 1)=.ok P1/\AT (.lst [P0,P1,P2,P3,P4,P5]) (.int 2)=.ok P2/\AT (.lst [P0,P1,P2,P3,P4,P5]) (.int 3)=.ok P3/\AT (.lst [P0,P1,P2,P3,P4,P5]) (.int 4)=.ok P4/\AT (.lst [P0,P1,P2,P3,P4,P5]) (.int 5)=.ok P5:=⟨rfl,rfl,rfl,rfl,rfl,rfl⟩
def QC(Γ:Gam):Prop:=∀(p:Ae)(a b c d e f:R3),P4 p->Six p a b c d e f->Γ.F 209 [.int p,A4 [a,b,c,d,e,f],.int 0]=.ok (Ar Ab (mtI p a b d e))/\Γ.F 209 [.int p,A4 [a,b,c,d,e,f],.int 1]=.ok (Ar Ab (mtI p b c e f))/\Γ.F 209 [.int p,A4 [a,b,c,d,e,f],.int 2]=.ok (Ar Ab (mtI p c d f a))
theorem Zy(hm:Ri Γ)(p:Ae)(a b c d e f:R3)(hp:P4 p)(h:Six p a b c d e f):Im.run Γ [.int p,A4 [a,b,c,d,e,f],.int 0]=.ok (Ar Ab (mtI p a b d e))/\Im.run Γ [.int p,A4 [a,b,c,d,e,f],.int 1]=.ok (Ar Ab (mtI p b c e f))/\Im.run Γ [.int p,A4 [a,b,c,d,e,f],.int 2]=.ok (Ar Ab (mtI p c d f a)):=by
 have nf:∀{x:R3},x∈[a,b,c,d,e,f]->NF p x:=fun hx=>h.n3.nf _ hx
 have na:=nf (x:=a) (by simp)
 have nb:=nf (x:=b) (by simp)
 have nc:=nf (x:=c) (by simp)
 have nd:=nf (x:=d) (by simp)
 have ne:=nf (x:=e) (by simp)
 have nf':=nf (x:=f) (by simp)
 obtain⟨i0,i1,i2,i3,i4,i5⟩:=JH (Ar Ab a) (Ar Ab b) (Ar Ab c) (Ar Ab d) (Ar Ab e) (Ar Ab f);refine⟨?_,?_,?_⟩
 ·obtain⟨l,l',e1,e2,e3⟩:=hm p a b d e hp na nb nd ne h.ab h.de h.m0.1 h.m0.2;exact L9 (k:=0) i0 i1 i3 i4 e1 e2 e3
 ·obtain⟨l,l',e1,e2,e3⟩:=hm p b c e f hp nb nc ne nf' h.bc h.ef h.m1.1 h.m1.2;exact L9 (k:=1) i1 i2 i4 i5 e1 e2 e3
 ·obtain⟨l,l',e1,e2,e3⟩:=hm p c d f a hp nc nd nf' na h.cd h.fa h.m2.1 h.m2.2;exact L9 (k:=2) i2 i3 i5 i0 e1 e2 e3
def QH(Γ:Gam):Prop:=∀(p:Ae)(pts:Ac R3),P4 p->pts.length<=100->N3 p pts->Γ.F 109 [.int p,A4 pts]=.ok .non
theorem Y0(hf:Rk Γ)(p:Ae)(pts:Ac R3)(hp:P4 p)(hn:pts.length<=100)(h:N3 p pts):Kb.run Γ [.int p,A4 pts]=.ok .non:=by
 have e:=hf p pts hp hn h;generalize A4 pts=PP at *;simp[Kb,Df.run,Bw,e]
noncomputable def G6(p:Ae)(a b c d e f:R3):D:=.tup [Ar Ab (mtI p a b d e),Ar Ab (mtI p b c e f),Ar Ab (mtI p c d f a)]
def QD(Γ:Gam):Prop:=∀(p:Ae)(a b c d e f:R3),P4 p->Six p a b c d e f->Γ.F 210 [.int p,A4 [a,b,c,d,e,f]]=.ok (G6 p a b c d e f)
theorem ZB(ha:QH Γ)(hs:QC Γ)(p:Ae)(a b c d e f:R3)(hp:P4 p)(h:Six p a b c d e f):Ll.run Γ [.int p,A4 [a,b,c,d,e,f]]=.ok (G6 p a b c d e f):=by
 have e1:=ha p _ hp (by simp) h.n3
 obtain⟨s0,s1,s2⟩:=hs p a b c d e f hp h;have ln:biD .len [A4 [a,b,c,d,e,f]]=.ok (.int 6):=rfl;unfold G6;generalize A4 [a,b,c,d,e,f]=PP at *;generalize Ar Ab (mtI p a b d e)=X at *;generalize Ar Ab (mtI p b c e f)=Y at *;generalize Ar Ab (mtI p c d f a)=Z at *;simp[Ll,Df.run,Bw,ln,e1,s0,s1,s2]
theorem KO(hp:P4 p)(h:Six p a b c d e f):(NF p (mtI p a b d e)/\Pr p (mtI p a b d e) (crs (crs a b) (crs d e)))/\(NF p (mtI p b c e f)/\Pr p (mtI p b c e f) (crs (crs b c) (crs e f)))/\(NF p (mtI p c d f a)/\Pr p (mtI p c d f a) (crs (crs c d) (crs f a))):=
 ⟨JJ hp (HI hp h.m0.1 h.m0.2),JJ hp (HI hp h.m1.1 h.m1.2),JJ hp (HI hp h.m2.1 h.m2.2)⟩
theorem MW(hp:P4 p)(h:Six p a b c d e f):¬ CgR p (crs (mtI p a b d e) (mtI p b c e f)) (0,0,0):=by
 obtain⟨⟨_,p0⟩,⟨_,p1⟩,_⟩:=KO hp h;refine QT hp (MS hp p0 p1) (Qf (n:=b) ?_);have:AA b (crs (crs (crs a b) (crs d e)) (crs (crs b c) (crs e f)))=Ai b d e*(Ai b e f*Ai a b c):=by
  rw[Iu a b d e,Iu b c e f];generalize Ai a d e=α;generalize Ai b d e=β;generalize Ai b e f=γ;generalize Ai c e f=δ;unfold AA crs Ai det;simp only;grind
 rw[this];exact Cq hp h.mj.1 (Cq hp h.mj.2.1 h.mj.2.2)
theorem gF(hp:P4 p)(h:Six p a b c d e f):mtI p a b d e≠mtI p b c e f:=fun q=>by
 refine MW hp h ?_;rw[q];unfold crs;exact⟨Cg.of (by grind),Cg.of (by grind),Cg.of (by grind)⟩
theorem X0{u u':R3}(hp:P4 p)(hx:Pr p x x')(hy:Pr p y y')(hu:Pr p u u'):Ai x y u%p=0↔Ai x' y' u'%p=0:=by
 rw[<-FL,<-FL];exact Q4 hp (MS hp hx hy) hu
theorem RA(hp:P4 p)(h:Six p a b c d e f):Ai (mtI p a b d e) (mtI p b c e f) (mtI p c d f a)%p=0↔∃ C,InC p C/\AN p C.l=Aa 1/\∀ x∈[a,b,c,d,e,f],vI C x%p=0:=by
 obtain⟨⟨_,p0⟩,⟨_,p1⟩,⟨_,p2⟩⟩:=KO hp h;rw[X0 hp p0 p1 p2];exact pas hp h.n3
noncomputable def jnI(p:Ae)(a b c d e f:R3):R3:=nrm p (crs (mtI p a b d e) (mtI p b c e f))
def QB(Γ:Gam):Prop:=∀(p:Ae)(a b c d e f:R3),P4 p->Six p a b c d e f->(∀ C,InC p C->AN p C.l=Aa 1->(∀ x∈[a,b,c,d,e,f],vI C x%p=0)->Γ.F 211 [.int p,A4 [a,b,c,d,e,f]]=.ok (.tup [.str (AQ "one"),Bx C,G6 p a b c d e f,Ar Ab (jnI p a b c d e f)]))/\((¬ ∃ C,InC p C/\AN p C.l=Aa 1/\∀ x∈[a,b,c,d,e,f],vI C x%p=0)->Γ.F 211 [.int p,A4 [a,b,c,d,e,f]]=.ok (.tup [.str (AQ "apart"),G6 p a b c d e f]))
theorem W6{M X Y J cC P5 F5:D}(e1:Γ.F 210 [.int p,PP]=.ok M)(sl:slD PP Af (Aa 5)=.ok F5)(e2:Γ.F 198 [.int p,F5]=.ok cC)(i5:AT PP (.int 5)=.ok P5)(e3:Γ.F 126 [.int p,cC,P5]=.ok (.int v))(i0:AT M (.int 0)=.ok X)(i1:AT M (.int 1)=.ok Y)(e4:v=0->Γ.F 57 [.int p,X,Y]=.ok J):Hy.run Γ [.int p,PP]=.ok (if v=0 then .tup [.str (AQ "one"),cC,M,J] else .tup [.str (AQ "apart"),M]):=by
 by_cases hv:v=0
 ·have e4':=e4 hv;subst hv;simp[Hy,Df.run,Bw,e1,sl,e2,i5,e3,i0,i1,e4']
 ·simp[Hy,Df.run,Bw,e1,sl,e2,i5,e3,i0,i1,hv]
theorem Zx(hm:QD Γ)(ht:QA Γ)(hv:MO Γ)(hj:KD Γ)(p:Ae)(a b c d e f:R3)(hp:P4 p)(h:Six p a b c d e f):(∀ C,InC p C->AN p C.l=Aa 1->(∀ x∈[a,b,c,d,e,f],vI C x%p=0)->Hy.run Γ [.int p,A4 [a,b,c,d,e,f]]=.ok (.tup [.str (AQ "one"),Bx C,G6 p a b c d e f,Ar Ab (jnI p a b c d e f)]))/\((¬ ∃ C,InC p C/\AN p C.l=Aa 1/\∀ x∈[a,b,c,d,e,f],vI C x%p=0)->Hy.run Γ [.int p,A4 [a,b,c,d,e,f]]=.ok (.tup [.str (AQ "apart"),G6 p a b c d e f])):=by
 have e1:=hm p a b c d e f hp h;have h5:N3 p [a,b,c,d,e]:=h.n3.sub (Ee [a,b,c,d,e] [f]);obtain⟨⟨n0,_⟩,⟨n1,_⟩,_⟩:=KO hp h;obtain⟨j,ij,lj,pj,ej⟩:=hj p _ _ hp n0.1 n1.1 n0.2 n1.2 (gF hp h);have jq:j=jnI p a b c d e f:=MC hp (MW hp h) ⟨ij,lj⟩ pj;rw[jq]at ej;have run:∀ C,InC p C->Γ.F 198 [.int p,A4 [a,b,c,d,e]]=.ok (Bx C)->Hy.run Γ [.int p,A4 [a,b,c,d,e,f]]=.ok (if vI C f%p=0 then .tup [.str (AQ "one"),Bx C,G6 p a b c d e f,Ar Ab (jnI p a b c d e f)] else .tup [.str (AQ "apart"),G6 p a b c d e f]):=fun C iC e2=>
  W6 e1 rfl e2 (JH _ _ _ _ _ _).2.2.2.2.2 (hv p C f hp (iC.b hp) (h.n3.nf f (by simp)).1) rfl rfl (fun _=>ej)
 constructor
 ·intro C iC lC on;have F:Five p C [a,b,c,d,e]:=h5.five hp rfl fun x hx=>on x (Cn [f] hx)
  rw[run C iC (ht p C _ hp iC lC F),AB (on f (by simp))]
 ·intro no;obtain⟨C,iC,lC,_,F⟩:=PN hp h5;rw[run C iC (ht p C _ hp iC lC F),AM];intro hf;refine no ⟨C,iC,lC,fun x hx=>?_⟩
  rcases Cu.mp (show x∈[a,b,c,d,e]++[f] from hx) with hx|hx
  ·exact F.on x hx
  ·rw[AR.mp hx];exact hf
end
def gX(Γ:Gam):Prop:=∀(p:Ae)(a b:R3),P4 p->In3 p a->In3 p b->Γ.F 161 [Ar Ab a,Ar Ab b]=.ok (AD (crs a b))
theorem dM(Γ:Gam)(p:Ae)(a b:R3)(hp:P4 p)(ia:In3 p a)(ib:In3 p b):Jt.run Γ [Ar Ab a,Ar Ab b]=.ok (AD (crs a b)):=by
 have ba:=Dy hp ia;have bb:=Dy hp ib;have k:∀ {u v},Bd 10 u->Bd 10 v->DO u v=Ab:=fun hu hv=>EZ hu hv (by decide) (by decide)
 obtain⟨a0,a1,a2⟩:=a;obtain⟨b0,b1,b2⟩:=b;have ea:∀(x y z:Ae)(i j k:Ag)(ρ:Rho),FH [i,j,k] (Ar Ab (x,y,z)) ρ=.ok (((ρ.set i (si x)).set j (si y)).set k (si z)):=fun _ _ _ _ _ _ _=>rfl
 simp[Jt,Df.run,Bw,ea,k ba.2.1 bb.2.2,k ba.2.2 bb.2.1,k ba.2.2 bb.1,k ba.1 bb.2.2,k ba.1 bb.2.1,k ba.2.1 bb.1];rfl
noncomputable def Lb:Df:=⟨7,Ad,(.cons (.asgT [4,5,6] (.call 161 (.cons (.var 1) (.cons (.var 2) .nil)))) (.cons (.ret (.bin .Mod (.bin .Add (.bin .Add (.bin .Mult (.var 4) (.idx (.var 3) (.int 0))) (.bin .Mult (.var 5) (.idx (.var 3) (.int 1)))) (.bin .Mult (.var 6) (.idx (.var 3) (.int 2)))) (.var 0))) .nil))⟩
def Rj(Γ:Gam):Prop:=∀(p:Ae)(a b c:R3),P4 p->In3 p a->In3 p b->In3 p c->Γ.F 165 [.int p,Ar Ab a,Ar Ab b,Ar Ab c]=.ok (.int (Ai a b c%p))
theorem X2(a b c:R3):AA (crs a b) c=Ai a b c:=by
 unfold AA crs Ai det;grind
theorem dL(h:gX Γ)(p:Ae)(a b c:R3)(hp:P4 p)(ia:In3 p a)(ib:In3 p b)(ic:In3 p c):Lb.run Γ [.int p,Ar Ab a,Ar Ab b,Ar Ab c]=.ok (.int (Ai a b c%p)):=by
 have e1:=h p a b hp ia ib;have bc:=Dy hp ic;have bx:=gP (Dy hp ia) (Dy hp ib);have k:∀ {u v},Bd 21 u->Bd 10 v->DO u v=Ab:=fun hu hv=>EZ hu hv (by decide) (by decide)
 have k0:=k bx.1 bc.1;have k1:=k bx.2.1 bc.2.1;have k2:=k bx.2.2 bc.2.2;have p0:=hp.pos;obtain⟨x0,x1,x2⟩:=GY Ab c;rw[<-X2];unfold AA;generalize crs a b=w at *;obtain⟨w0,w1,w2⟩:=w;have ea:∀ ρ:Rho,FH [4,5,6] (AD (w0,w1,w2)) ρ=.ok (((ρ.set 4 (si w0)).set 5 (si w1)).set 6 (si w2)):=fun _=>rfl
 generalize AD (w0,w1,w2)=ww at *;simp[Lb,Df.run,Bw,e1,ea,x0,x1,x2,k0,k1,k2,p0]
theorem ZP{i:Ag}(h:pts[i]?=Aa x):AT (A4 pts) (.int (i:Ae))=.ok (Ar Ab x):=by
 show Dk (pts.map (Ar Ab)) (i:Ae)=_;refine Kq (by omega) ?_
 have hi:i<pts.length:=(AE.mp h).1;rw[DJ,Cr,h];rfl
section
variable{Γ:Gam}{p i j k d N:Ae}{PP x y u:D}{RL:Ac D}{s t s' t' v:Sl}
end
section
variable{Γ:Gam}{p:Ae}{pts:Ac R3}
end
noncomputable def Jg:Ss:=(.cons (.app 3 (.call 161 (.cons (.idx (.var 2) (.var 5)) (.cons (.idx (.var 2) (.var 4)) .nil)))) .nil)
noncomputable def Gv:Ss:=(.cons (.fors 5 (.rng (.var 4)) Jg) .nil)
noncomputable def Jh:E:=(.call 173 (.cons (.var 0) (.cons (.var 7) (.cons (.var 8) .nil))))
noncomputable def Hi:Ss:=(.cons (.rel 3) (.cons (.ife (.and (.cons (.cmp .NotEq (.call 162 (.cons (.var 0) (.cons (.var 1) (.cons (.var 7) .nil)))) (.int 0)) (.cons (.no (.bi .any (.cons (.comp Jh 8 (.e (.var 3)) BD) .nil))) .nil))) (.cons (.app 6 (.var 7)) .nil) .nil) .nil))
noncomputable def Km:Df:=⟨9,Ad,(.cons (.asg 3 Ab (.lst .nil)) (.cons (.fors 4 (.rng (.int 5)) Gv) (.cons (.asg 6 Ab (.lst .nil)) (.cons (.fors 7 (.e (.call 164 (.cons (.var 0) .nil))) Hi) (.cons (.ret (.var 6)) .nil)))))⟩
noncomputable def Jo:E:=(.call 161 (.cons (.idx (.var 2) (.var 7)) (.cons (.idx (.var 2) (.bin .Mod (.bin .Add (.var 7) (.int 1)) (.int 6))) .nil)))
noncomputable def Jn:E:=(.call 158 (.cons (.var 0) (.cons (.call 161 (.cons (.idx (.var 5) (.var 8)) (.cons (.idx (.var 5) (.bin .Add (.var 8) (.int 3))) .nil))) .nil)))
noncomputable def Io:Df:=⟨9,Ad,(.cons (.asg 4 Ad (.call 211 (.cons (.var 0) (.cons (.bi .list (.cons (.var 2) .nil)) .nil)))) (.cons (.asg 5 Ad (.comp Jo 7 (.rng (.int 6)) BD)) (.cons (.asg 6 Ad (.bi .tuple (.cons (.comp Jn 8 (.rng (.int 3)) BD) .nil))) (.cons (.ife (.no (.var 3)) (.cons (.ret (.and (.cons (.cmp .Eq (.var 4) (.tup (.cons (.str (AQ "apart")) (.cons (.var 6) .nil)))) (.cons (.cmp .NotEq (.call 165 (.cons (.var 0) (.cons (.idx (.var 6) (.int 0)) (.cons (.idx (.var 6) (.int 1)) (.cons (.idx (.var 6) (.int 2)) .nil))))) (.int 0)) .nil)))) .nil) .nil) (.cons (.ife (.or (.cons (.no (.isi (.var 4) [.tuple])) (.cons (.cmp .NotEq (.bi .len (.cons (.var 4) .nil)) (.int 4)) (.cons (.cmp .NotEq (.sl (.var 4) .non (.int 3)) (.tup (.cons (.str (AQ "one")) (.cons (.var 1) (.cons (.var 6) .nil))))) .nil)))) (.cons (.ret (.bl Ad)) .nil) .nil) (.cons (.ret (.and (.cons (.cmp .Eq (.idx (.var 4) (.int 3)) (.call 158 (.cons (.var 0) (.cons (.call 161 (.cons (.idx (.var 6) (.int 0)) (.cons (.idx (.var 6) (.int 1)) .nil))) .nil)))) (.cons (.call 173 (.cons (.var 0) (.cons (.idx (.var 6) (.int 2)) (.cons (.idx (.var 4) (.int 3)) .nil)))) .nil)))) .nil))))))⟩
section
variable{Γ:Gam}{p:Ae}{a b c d e f x y:R3}{C:C6}
def KC(Γ:Gam):Prop:=∀(q:An)(a b:R3),Bn 100 a->Bn 100 b->Γ.F 161 [Ar q a,Ar q b]=.ok (AD (crs a b))
theorem ZG(Γ:Gam)(q:An)(a b:R3)(ba:Bn 100 a)(bb:Bn 100 b):Jt.run Γ [Ar q a,Ar q b]=.ok (AD (crs a b)):=by
 have k:∀ {u v},Bd 100 u->Bd 100 v->DO u v=Ab:=fun hu hv=>EZ hu hv (by decide) (by decide)
 obtain⟨a0,a1,a2⟩:=a;obtain⟨b0,b1,b2⟩:=b;have ea:∀(x y z:Ae)(i j k:Ag)(ρ:Rho),FH [i,j,k] (Ar q (x,y,z)) ρ=.ok (((ρ.set i (si x)).set j (si y)).set k (si z)):=fun _ _ _ _ _ _ _=>by cases q<;>rfl
 simp[Jt,Df.run,Bw,ea,k ba.2.1 bb.2.2,k ba.2.2 bb.2.1,k ba.2.2 bb.1,k ba.1 bb.2.2,k ba.1 bb.2.1,k ba.2.1 bb.1];rfl
theorem Bn.mono{m n:Ag}{a:R3}(h:Bn m a)(g:m<=n):Bn n a:=⟨h.1.mono g,h.2.1.mono g,h.2.2.mono g⟩
theorem FE(ba:Bn 10 a)(bb:Bn 10 b):Bn 100 (crs a b):=by
 have k:∀{u v w z:Ae},Bd 10 u->Bd 10 v->Bd 10 w->Bd 10 z->Bd 100 (u*v-w*z):=fun h1 h2 h3 h4=>((h1.mul h2).sub (h3.mul h4)).mono (by decide)
 exact⟨k ba.2.1 bb.2.2 ba.2.2 bb.2.1,k ba.2.2 bb.1 ba.1 bb.2.2,k ba.1 bb.2.1 ba.2.1 bb.1⟩
def JT(Γ:Gam):Prop:=∀(p:Ae)(q:An)(x y:R3),P4 p->In3 p x->Bn 100 y->Γ.F 173 [.int p,Ar Ab x,Ar q y]=.ok (.bl (decide (AA y x%p=0)))
theorem dI(Γ:Gam)(p:Ae)(q:An)(x y:R3)(hp:P4 p)(ix:In3 p x)(by_:Bn 100 y):LZ.run Γ [.int p,Ar Ab x,Ar q y]=.ok (.bl (decide (AA y x%p=0))):=by
 have p0:=hp.pos;have bx:=Dy hp ix;have k:∀ {u v},Bd 100 u->Bd 10 v->DO u v=Ab:=fun hu hv=>EZ hu hv (by decide) (by decide)
 have k0:=k by_.1 bx.1;have k1:=k by_.2.1 bx.2.1;have k2:=k by_.2.2 bx.2.2;have sx:B9 (Ar Ab x)=.ok [.int x.1,.int x.2.1,.int x.2.2]:=rfl;have sy:B9 (Ar q y)=.ok [.int y.1,.int y.2.1,.int y.2.2]:=by cases q<;>rfl
 unfold AA;generalize x.1=x0 at *;generalize x.2.1=x1 at *;generalize x.2.2=x2 at *;generalize y.1=y0 at *;generalize y.2.1=y1 at *;generalize y.2.2=y2 at *;generalize Ar Ab x=xx at *;generalize Ar q y=yy at *;have cp:Be (cGT Γ [si p,sh xx,sh yy,Af,Af] [3,4] BD) (cFT Γ [si p,sh xx,sh yy,Af,Af] [3,4] Lo) (C4 [.int y0,.int y1,.int y2] [.int x0,.int x1,.int x2])=.ok [.int (y0*x0),.int (y1*x1),.int (y2*x2)]:=by
  simp[Be,cGT,cFT,C4,Lo,BD,k0,k1,k2]
 generalize hs:y0*x0+y1*x1+y2*x2=s;have sm:Fk 0 [.int (y0*x0),.int (y1*x1),.int (y2*x2)]=.ok s:=by rw[<-hs];simp[Fk]
 simp[LZ,Df.run,Bw,sx,sy,cp,sm,p0];rw[CI];simp
def Rl(Γ:Gam):Prop:=∀(p:Ae)(r:R3),P4 p->¬ CgR p r (0,0,0)->Γ.F 158 [.int p,AD r]=.ok (Ar Ab (nrm p r))
theorem fmN(hf:Mu Γ):Rl Γ:=fun p r hp z=>by
 obtain⟨l,el⟩:=Pd z;obtain⟨t,it,io,ll,po,eo⟩:=Ma hp el;have ef:=hf p Ad _ l t hp el it;rw[eo]at ef;have q:=MC hp z ⟨io,ll⟩ po;rw[q]at ef;exact ef
section
variable{cC PP A B C' D' E F L0 L1 L2 L3 L4 L5 U V W X Y Z J Q:D}
theorem UB(e1:Γ.F 211 [.int p,PP]=.ok (.tup [.str (AQ "apart"),.tup [X,Y,Z]]))(li:biD .list [PP]=.ok PP)(ix:AT PP (.int 0)=.ok A/\AT PP (.int 1)=.ok B/\AT PP (.int 2)=.ok C'/\AT PP (.int 3)=.ok D'/\AT PP (.int 4)=.ok E/\AT PP (.int 5)=.ok F)(c0:Γ.F 161 [A,B]=.ok L0)(c1:Γ.F 161 [B,C']=.ok L1)(c2:Γ.F 161 [C',D']=.ok L2)(c3:Γ.F 161 [D',E]=.ok L3)(c4:Γ.F 161 [E,F]=.ok L4)(c5:Γ.F 161 [F,A]=.ok L5)(m0:Γ.F 161 [L0,L3]=.ok U)(m1:Γ.F 161 [L1,L4]=.ok V)(m2:Γ.F 161 [L2,L5]=.ok W)(f0:Γ.F 158 [.int p,U]=.ok X)(f1:Γ.F 158 [.int p,V]=.ok Y)(f2:Γ.F 158 [.int p,W]=.ok Z)(fl:flD 5 (.tup [.str (AQ "apart"),.tup [X,Y,Z]])=Ab)(eq:eqD (.tup [.str (AQ "apart"),.tup [X,Y,Z]]) (.tup [.str (AQ "apart"),.tup [X,Y,Z]])=Ab)(me:Γ.F 165 [.int p,X,Y,Z]=.ok (.int v))(nz:v≠0):Io.run Γ [.int p,cC,PP,.bl Ad]=.ok (.bl Ab):=by
 obtain⟨i0,i1,i2,i3,i4,i5⟩:=ix;have rg6:B5 0 6=.ok [.int 0,.int 1,.int 2,.int 3,.int 4,.int 5]:=by rfl
 have rg3:B5 0 3=.ok [.int 0,.int 1,.int 2]:=by rfl
 have cp1:∀ s0 s1 s3 s4 s5 s6 s7 s8,Be (cG Γ [s0,s1,sh PP,s3,s4,s5,s6,s7,s8] 7 BD) (cF Γ [s0,s1,sh PP,s3,s4,s5,s6,s7,s8] 7 Jo) [.int 0,.int 1,.int 2,.int 3,.int 4,.int 5]=.ok [L0,L1,L2,L3,L4,L5]:=fun _ _ _ _ _ _ _ _=>by
  simp[Be,cG,cF,BD,Jo,i0,i1,i2,i3,i4,i5,c0,c1,c2,c3,c4,c5]
 have k0:AT (.lst [L0,L1,L2,L3,L4,L5]) (.int 0)=.ok L0:=rfl;have k1:AT (.lst [L0,L1,L2,L3,L4,L5]) (.int 1)=.ok L1:=rfl;have k2:AT (.lst [L0,L1,L2,L3,L4,L5]) (.int 2)=.ok L2:=rfl;have k3:AT (.lst [L0,L1,L2,L3,L4,L5]) (.int 3)=.ok L3:=rfl;have k4:AT (.lst [L0,L1,L2,L3,L4,L5]) (.int 4)=.ok L4:=rfl;have k5:AT (.lst [L0,L1,L2,L3,L4,L5]) (.int 5)=.ok L5:=rfl;have cp2:∀ s1 s2 s3 s4 s6 s7 s8,Be (cG Γ [si p,s1,s2,s3,s4,sh (.lst [L0,L1,L2,L3,L4,L5]),s6,s7,s8] 8 BD) (cF Γ [si p,s1,s2,s3,s4,sh (.lst [L0,L1,L2,L3,L4,L5]),s6,s7,s8] 8 Jn) [.int 0,.int 1,.int 2]=.ok [X,Y,Z]:=fun _ _ _ _ _ _ _=>by
  generalize D.lst [L0,L1,L2,L3,L4,L5]=LL at *;simp[Be,cG,cF,BD,Jn,k0,k1,k2,k3,k4,k5,m0,m1,m2,f0,f1,f2]
 have d0:AT (.tup [X,Y,Z]) (.int 0)=.ok X:=rfl;have d1:AT (.tup [X,Y,Z]) (.int 1)=.ok Y:=rfl;have d2:AT (.tup [X,Y,Z]) (.int 2)=.ok Z:=rfl;generalize hLL:D.lst [L0,L1,L2,L3,L4,L5]=LL at *;generalize hM:D.tup [X,Y,Z]=MM at *;generalize hFD:D.tup [.str (AQ "apart"),MM]=FD at *;simp[Io,Df.run,Bw,e1,li,rg6,cp1,rg3,hLL,cp2,hM,hFD,fl,eq,d0,d1,d2,me,nz]
theorem UA(e1:Γ.F 211 [.int p,PP]=.ok (.tup [.str (AQ "one"),cC,.tup [X,Y,Z],J]))(li:biD .list [PP]=.ok PP)(ix:AT PP (.int 0)=.ok A/\AT PP (.int 1)=.ok B/\AT PP (.int 2)=.ok C'/\AT PP (.int 3)=.ok D'/\AT PP (.int 4)=.ok E/\AT PP (.int 5)=.ok F)(c0:Γ.F 161 [A,B]=.ok L0)(c1:Γ.F 161 [B,C']=.ok L1)(c2:Γ.F 161 [C',D']=.ok L2)(c3:Γ.F 161 [D',E]=.ok L3)(c4:Γ.F 161 [E,F]=.ok L4)(c5:Γ.F 161 [F,A]=.ok L5)(m0:Γ.F 161 [L0,L3]=.ok U)(m1:Γ.F 161 [L1,L4]=.ok V)(m2:Γ.F 161 [L2,L5]=.ok W)(f0:Γ.F 158 [.int p,U]=.ok X)(f1:Γ.F 158 [.int p,V]=.ok Y)(f2:Γ.F 158 [.int p,W]=.ok Z)(fl:flD 5 (.tup [.str (AQ "one"),cC,.tup [X,Y,Z]])=Ab)(eq:eqD (.tup [.str (AQ "one"),cC,.tup [X,Y,Z]]) (.tup [.str (AQ "one"),cC,.tup [X,Y,Z]])=Ab)(cr:Γ.F 161 [X,Y]=.ok Q)(fo:Γ.F 158 [.int p,Q]=.ok J)(fJ:flD 5 J=Ab)(eJ:eqD J J=Ab)(on:Γ.F 173 [.int p,Z,J]=.ok (.bl Ab)):Io.run Γ [.int p,cC,PP,.bl Ab]=.ok (.bl Ab):=by
 obtain⟨i0,i1,i2,i3,i4,i5⟩:=ix;have rg6:B5 0 6=.ok [.int 0,.int 1,.int 2,.int 3,.int 4,.int 5]:=by rfl
 have rg3:B5 0 3=.ok [.int 0,.int 1,.int 2]:=by rfl
 have cp1:∀ s0 s1 s3 s4 s5 s6 s7 s8,Be (cG Γ [s0,s1,sh PP,s3,s4,s5,s6,s7,s8] 7 BD) (cF Γ [s0,s1,sh PP,s3,s4,s5,s6,s7,s8] 7 Jo) [.int 0,.int 1,.int 2,.int 3,.int 4,.int 5]=.ok [L0,L1,L2,L3,L4,L5]:=fun _ _ _ _ _ _ _ _=>by
  simp[Be,cG,cF,BD,Jo,i0,i1,i2,i3,i4,i5,c0,c1,c2,c3,c4,c5]
 have k0:AT (.lst [L0,L1,L2,L3,L4,L5]) (.int 0)=.ok L0:=rfl;have k1:AT (.lst [L0,L1,L2,L3,L4,L5]) (.int 1)=.ok L1:=rfl;have k2:AT (.lst [L0,L1,L2,L3,L4,L5]) (.int 2)=.ok L2:=rfl;have k3:AT (.lst [L0,L1,L2,L3,L4,L5]) (.int 3)=.ok L3:=rfl;have k4:AT (.lst [L0,L1,L2,L3,L4,L5]) (.int 4)=.ok L4:=rfl;have k5:AT (.lst [L0,L1,L2,L3,L4,L5]) (.int 5)=.ok L5:=rfl;have cp2:∀ s1 s2 s3 s4 s6 s7 s8,Be (cG Γ [si p,s1,s2,s3,s4,sh (.lst [L0,L1,L2,L3,L4,L5]),s6,s7,s8] 8 BD) (cF Γ [si p,s1,s2,s3,s4,sh (.lst [L0,L1,L2,L3,L4,L5]),s6,s7,s8] 8 Jn) [.int 0,.int 1,.int 2]=.ok [X,Y,Z]:=fun _ _ _ _ _ _ _=>by
  generalize D.lst [L0,L1,L2,L3,L4,L5]=LL at *;simp[Be,cG,cF,BD,Jn,k0,k1,k2,k3,k4,k5,m0,m1,m2,f0,f1,f2]
 have d0:AT (.tup [X,Y,Z]) (.int 0)=.ok X:=rfl;have d1:AT (.tup [X,Y,Z]) (.int 1)=.ok Y:=rfl;have d2:AT (.tup [X,Y,Z]) (.int 2)=.ok Z:=rfl;generalize hLL:D.lst [L0,L1,L2,L3,L4,L5]=LL at *;generalize hM:D.tup [X,Y,Z]=MM at *;have it:FK Γ.up [.tuple] (.tup [.str (AQ "one"),cC,MM,J])=.ok (.bl Ab):=rfl;have ln:biD .len [.tup [.str (AQ "one"),cC,MM,J]]=.ok (.int 4):=rfl;have sl:slD (.tup [.str (AQ "one"),cC,MM,J]) Af (Aa 3)=.ok (.tup [.str (AQ "one"),cC,MM]):=rfl;have i3':AT (.tup [.str (AQ "one"),cC,MM,J]) (.int 3)=.ok J:=rfl;generalize hF3:D.tup [.str (AQ "one"),cC,MM]=F3 at *;generalize D.tup [.str (AQ "one"),cC,MM,J]=FD at *;simp[Io,Df.run,Bw,e1,li,rg6,cp1,rg3,hLL,cp2,hM,hF3,it,ln,sl,i3',fl,eq,d0,d1,d2,cr,fo,fJ,eJ,on]
end
def Px(Γ:Gam):Prop:=∀(p:Ae)(C:C6)(a b c d e f:R3)(on:An),P4 p->InC p C->AN p C.l=Aa 1->Six p a b c d e f->(on=Ab->∀ x∈[a,b,c,d,e,f],vI C x%p=0)->(on=Ad->¬ ∃ C,InC p C/\AN p C.l=Aa 1/\∀ x∈[a,b,c,d,e,f],vI C x%p=0)->Γ.F 219 [.int p,Bx C,A4 [a,b,c,d,e,f],.bl on]=.ok (.bl Ab)
theorem Rw(x y z:R3):flD 4 (.tup [Ar Ab x,Ar Ab y,Ar Ab z])=Ab/\eqD (.tup [Ar Ab x,Ar Ab y,Ar Ab z]) (.tup [Ar Ab x,Ar Ab y,Ar Ab z])=Ab:=by
 refine⟨rfl,?_⟩;show (eqD (Ar Ab x) (Ar Ab x)&&(eqD (Ar Ab y) (Ar Ab y)&&(eqD (Ar Ab z) (Ar Ab z)&&Ab)))=Ab;rw[IE,IE,IE];simp
theorem hR(s:Ah)(M:D)(h:eqD M M=Ab):eqD (.tup [.str s,M]) (.tup [.str s,M])=Ab:=by
 show (eqD (.str s) (.str s)&&(eqD M M&&Ab))=Ab;rw[h,show eqD (.str s) (.str s)=Ab from C0 s]
 rfl
theorem hJ(s:Ah)(K M:D)(g:eqD K K=Ab)(h:eqD M M=Ab):eqD (.tup [.str s,K,M]) (.tup [.str s,K,M])=Ab:=by
 show (eqD (.str s) (.str s)&&(eqD K K&&(eqD M M&&Ab)))=Ab;rw[g,h,show eqD (.str s) (.str s)=Ab from C0 s]
 rfl
theorem hV(C:C6):eqD (Bx C) (Bx C)=Ab:=by
 show (_==_&&(_==_&&(_==_&&(_==_&&(_==_&&(_==_&&Ab))))))=Ab;simp
theorem W9(hs:QB Γ)(hc:KC Γ)(hf:Rl Γ)(hm:Rj Γ)(ho:JT Γ)(p:Ae)(C:C6)(a b c d e f:R3)(on:An)(hp:P4 p)(iC:InC p C)(lC:AN p C.l=Aa 1)(h:Six p a b c d e f)(h1:on=Ab->∀ x∈[a,b,c,d,e,f],vI C x%p=0)(h0:on=Ad->¬ ∃ C,InC p C/\AN p C.l=Aa 1/\∀ x∈[a,b,c,d,e,f],vI C x%p=0):Io.run Γ [.int p,Bx C,A4 [a,b,c,d,e,f],.bl on]=.ok (.bl Ab):=by
 have bn:∀{x:R3},x∈[a,b,c,d,e,f]->Bn 10 x:=fun hx=>Dy hp (h.n3.nf _ hx).1
 have ba:=bn (x:=a) (by simp)
 have bb:=bn (x:=b) (by simp)
 have bc:=bn (x:=c) (by simp)
 have bd:=bn (x:=d) (by simp)
 have be:=bn (x:=e) (by simp)
 have bf:=bn (x:=f) (by simp)
 have c1:∀{x y:R3},Bn 10 x->Bn 10 y->Γ.F 161 [Ar Ab x,Ar Ab y]=.ok (AD (crs x y)):=fun hx hy=>hc Ab _ _ (hx.mono (by decide)) (hy.mono (by decide))
 have c2:∀{x y u v:R3},Bn 10 x->Bn 10 y->Bn 10 u->Bn 10 v->Γ.F 161 [AD (crs x y),AD (crs u v)]=.ok (AD (crs (crs x y) (crs u v))):=fun hx hy hu hv=>hc Ad _ _ (FE hx hy) (FE hu hv)
 have f0:=hf p _ hp (HI hp h.m0.1 h.m0.2);have f1:=hf p _ hp (HI hp h.m1.1 h.m1.2);have f2:=hf p _ hp (HI hp h.m2.1 h.m2.2);obtain⟨⟨n0,_⟩,⟨n1,_⟩,⟨n2,_⟩⟩:=KO hp h;obtain⟨s1,s0⟩:=hs p a b c d e f hp h;cases on with
 |false=>
  have q:=s0 (h0 rfl);have nz:Ai (mtI p a b d e) (mtI p b c e f) (mtI p c d f a)%p≠0:=fun z=>h0 rfl ((RA hp h).mp z)
  refine UB q rfl (JH _ _ _ _ _ _) (c1 ba bb) (c1 bb bc) (c1 bc bd) (c1 bd be) (c1 be bf) (c1 bf ba) (c2 ba bb bd be) (c2 bb bc be bf) (c2 bc bd bf ba) f0 f1 f2 rfl ?_ (hm p _ _ _ hp n0.1 n1.1 n2.1) nz;exact hR _ _ (Rw _ _ _).2
 |true=>
  have q:=s1 C iC lC (h1 rfl);have z:Ai (mtI p a b d e) (mtI p b c e f) (mtI p c d f a)%p=0:=(RA hp h).mpr ⟨C,iC,lC,h1 rfl⟩;have jz:=MW hp h;obtain⟨nj,pj⟩:=JJ hp jz;have on:AA (jnI p a b c d e f) (mtI p c d f a)%p=0:=by
   rw[<-FL]at z;exact(Q4 hp pj ⟨1,hp.o1,by unfold BB;simp only[Cw];exact⟨Cg.rfl,Cg.rfl,Cg.rfl⟩⟩).mpr z
  have eo:=ho p Ab (mtI p c d f a) (jnI p a b c d e f) hp n2.1 ((Dy hp nj.1).mono (by decide))
  rw[AW on]at eo;refine UA q rfl (JH _ _ _ _ _ _) (c1 ba bb) (c1 bb bc) (c1 bc bd) (c1 bd be) (c1 be bf) (c1 bf ba) (c2 ba bb bd be) (c2 bb bc be bf) (c2 bc bd bf ba) f0 f1 f2 rfl ?_ (c1 (Dy hp n0.1) (Dy hp n1.1)) (hf p _ hp jz) (Iw _) ?_ eo
  ·exact hJ _ _ _ (hV C) (Rw _ _ _).2
  ·rw[IE];simp
end
section
variable{Γ:Gam}{p:Ae}{C:C6}
theorem QU{FV B:D}{k:Ae}{s0 s1 s6 s7 s8:Sl}(gB:AT FV (.int k)=.ok B):∀(items:Ac (Ae×D))(L:Ac D)(s5:Sl),L.length+items.length<=1000->(∀ q∈items,∃ A,AT FV (.int q.1)=.ok A/\Γ.F 161 [A,B]=.ok q.2)->∃ s5',Ci (Bm Γ 5 Jg) (items.map fun q=>.int q.1) [s0,s1,sh FV,Aa (.lst L,Ab),si k,s5,s6,s7,s8]=.next [s0,s1,sh FV,Aa (.lst (L++items.map (·.2)),Ab),si k,s5',s6,s7,s8]
 |[],L,s5,_,_=>⟨s5,by rw[EM,EM,Cf];rfl⟩
 |q::items,L,s5,hz,h=>by
  obtain⟨A,gA,e⟩:=h q Aw;rw[BG]at hz;have sz:CB (L.length+1)=Ab:=by
   unfold CB;exact HP.mpr (by omega)
  have st:Bm Γ 5 Jg (.int q.1) [s0,s1,sh FV,Aa (.lst L,Ab),si k,s5,s6,s7,s8]=.next [s0,s1,sh FV,Aa (.lst (L++[q.2]),Ab),si k,si q.1,s6,s7,s8]:=by
   generalize q.1=j at *;generalize q.2=X at *;have o3:∀(a b c d g h i j:Sl),B7 [a,b,c,Aa (.lst L,Ab),d,g,h,i,j] 3=.ok L:=fun _ _ _ _ _ _ _ _=>rfl
   simp[Bm,Jg,gA,gB,e,sz,o3]
  obtain⟨s5',e2⟩:=QU (s0:=s0) (s1:=s1) (s6:=s6) (s7:=s7) (s8:=s8) gB items (L++[q.2]) (si q.1) (by rw[B1,EI];omega) (fun r hr=>h r (At _ hr))
  refine⟨s5',?_⟩;rw[Bq];show (Bm Γ 5 Jg (.int q.1) _).turn _=_;rw[st,Bq,show L++q.2::DQ (fun x=>x.2) items=L++[q.2]++DQ (fun x=>x.2) items by simp]
  exact e2
theorem JI{FV B:D}{s0 s4 s6 s7:Sl}{items:Ac (Ae×D)}(gB:AT FV (.int k)=.ok B)(r:B5 0 k=.ok (items.map fun q=>.int q.1))(hz:L.length+items.length<=1000)(h:∀ q∈items,∃ A,AT FV (.int q.1)=.ok A/\Γ.F 161 [A,B]=.ok q.2):∃ s5',Bm Γ 4 Gv (.int k) [s0,s1,sh FV,Aa (.lst L,Ab),s4,s5,s6,s7,s8]=.next [s0,s1,sh FV,Aa (.lst (L++items.map (·.2)),Ab),si k,s5',s6,s7,s8]:=by
 obtain⟨s5',e⟩:=QU (Γ:=Γ) (s0:=s0) (s1:=s1) (s6:=s6) (s7:=s7) (s8:=s8) gB items L s5 hz h;refine⟨s5',?_⟩;generalize (items.map fun q=>D.int q.1)=RL at *
 generalize L++items.map (·.2)=L' at *;simp[Bm,Gv,r];exact e
noncomputable def Fm(a b c d e:R3):Ac R3:=[crs a b,crs a c,crs b c,crs a d,crs b d,crs c d,crs a e,crs b e,crs c e,crs d e]
theorem UR{a b c d e:R3}(hc:KC Γ)(ba:Bn 100 a)(bb:Bn 100 b)(bc:Bn 100 c)(bd:Bn 100 d)(be:Bn 100 e){s0 s4 s6 s7:Sl}:∃ s4' s5',Ci (Bm Γ 4 Gv) [.int 0,.int 1,.int 2,.int 3,.int 4] [s0,s1,sh (A4 [a,b,c,d,e]),Aa (.lst [],Ab),s4,s5,s6,s7,s8]=.next [s0,s1,sh (A4 [a,b,c,d,e]),Aa (.lst ((Fm a b c d e).map AD),Ab),s4',s5',s6,s7,s8]:=by
 have i0:AT (A4 [a,b,c,d,e]) (.int 0)=.ok (Ar Ab a):=rfl;have i1:AT (A4 [a,b,c,d,e]) (.int 1)=.ok (Ar Ab b):=rfl;have i2:AT (A4 [a,b,c,d,e]) (.int 2)=.ok (Ar Ab c):=rfl;have i3:AT (A4 [a,b,c,d,e]) (.int 3)=.ok (Ar Ab d):=rfl;have i4:AT (A4 [a,b,c,d,e]) (.int 4)=.ok (Ar Ab e):=rfl;obtain⟨t0,e0⟩:=JI (Γ:=Γ) (s0:=s0) (s1:=s1) (s4:=s4) (s5:=s5) (s6:=s6) (s7:=s7) (s8:=s8) (items:=[]) (L:=[]) i0 rfl (by decide) (fun q hq=>nomatch hq)
 obtain⟨t1,e1⟩:=JI (Γ:=Γ) (s0:=s0) (s1:=s1) (s4:=si 0) (s5:=t0) (s6:=s6) (s7:=s7) (s8:=s8) (items:=[(0,AD (crs a b))]) (L:=[]) i1 rfl (by simp) (fun q hq=>by
  simp only[As,AF,Bl]at hq;subst hq;exact⟨_,i0,hc Ab _ _ ba bb⟩)
 obtain⟨t2,e2⟩:=JI (Γ:=Γ) (s0:=s0) (s1:=s1) (s4:=si 1) (s5:=t1) (s6:=s6) (s7:=s7) (s8:=s8) (items:=[(0,AD (crs a c)),(1,AD (crs b c))]) (L:=[AD (crs a b)]) i2 rfl (by simp) (fun q hq=>by
  simp only[As,AF,Bl]at hq;rcases hq with rfl|rfl
  ·exact⟨_,i0,hc Ab _ _ ba bc⟩
  ·exact⟨_,i1,hc Ab _ _ bb bc⟩)
 obtain⟨t3,e3⟩:=JI (Γ:=Γ) (s0:=s0) (s1:=s1) (s4:=si 2) (s5:=t2) (s6:=s6) (s7:=s7) (s8:=s8) (items:=[(0,AD (crs a d)),(1,AD (crs b d)),(2,AD (crs c d))]) (L:=[AD (crs a b),AD (crs a c),AD (crs b c)]) i3 rfl (by simp) (fun q hq=>by
  simp only[As,AF,Bl]at hq;rcases hq with rfl|rfl|rfl
  ·exact⟨_,i0,hc Ab _ _ ba bd⟩
  ·exact⟨_,i1,hc Ab _ _ bb bd⟩
  ·exact⟨_,i2,hc Ab _ _ bc bd⟩)
 obtain⟨t4,e4⟩:=JI (Γ:=Γ) (s0:=s0) (s1:=s1) (s4:=si 3) (s5:=t3) (s6:=s6) (s7:=s7) (s8:=s8) (items:=[(0,AD (crs a e)),(1,AD (crs b e)),(2,AD (crs c e)),(3,AD (crs d e))]) (L:=[AD (crs a b),AD (crs a c),AD (crs b c),AD (crs a d),AD (crs b d),AD (crs c d)]) i4 rfl (by simp) (fun q hq=>by
  simp only[As,AF,Bl]at hq;rcases hq with rfl|rfl|rfl|rfl
  ·exact⟨_,i0,hc Ab _ _ ba be⟩
  ·exact⟨_,i1,hc Ab _ _ bb be⟩
  ·exact⟨_,i2,hc Ab _ _ bc be⟩
  ·exact⟨_,i3,hc Ab _ _ bd be⟩)
 refine⟨si 4,t4,?_⟩;show (Bm Γ 4 Gv (.int 0) _).turn _=_;rw[e0];show (Bm Γ 4 Gv (.int 1) _).turn _=_;rw[show ([]++DQ (fun x:Ae×D=>x.2) []:Ac D)=[] from rfl,e1]
 show (Bm Γ 4 Gv (.int 2) _).turn _=_;rw[show ([]++DQ (fun x:Ae×D=>x.2) [(0,AD (crs a b))]:Ac D)=[AD (crs a b)] from rfl,e2]
 show (Bm Γ 4 Gv (.int 3) _).turn _=_;rw[show ([AD (crs a b)]++DQ (fun x:Ae×D=>x.2) [(0,AD (crs a c)),(1,AD (crs b c))]:Ac D)=[AD (crs a b),AD (crs a c),AD (crs b c)] from rfl,e3]
 show (Bm Γ 4 Gv (.int 4) _).turn _=_;rw[show ([AD (crs a b),AD (crs a c),AD (crs b c)]++DQ (fun x:Ae×D=>x.2) [(0,AD (crs a d)),(1,AD (crs b d)),(2,AD (crs c d))]:Ac D)=[AD (crs a b),AD (crs a c),AD (crs b c),AD (crs a d),AD (crs b d),AD (crs c d)] from rfl,e4]
 rfl
noncomputable def frQ(p:Ae)(C:C6)(lns:Ac R3)(x:R3):An:=!decide (vI C x%p=0) && !(lns.any fun n=>decide (AA n x%p=0))
theorem aM(l:Ac An):DU (l.map D.bl)=.ok (l.any id):=by
 induction l with
 |nil=>rfl
 |cons b l ih=>
  rw[Bq];show (R.ok b).bind (fun b=>(DU (l.map D.bl)).bind fun c=>.ok (b||c))=_
  rw[ih];rfl
theorem XU{FV:Sl}{lns:Ac R3}{F:Ac R3}{o:An}{s4 s7:Sl}(hv:JM Γ)(ho:JT Γ)(hp:P4 p)(iC:InC p C)(nx:NF p x)(bl:∀ n∈lns,Bn 100 n)(hF:F.length<=1000):Bm Γ 7 Hi (Ar Ab x) [si p,sh (Bx C),FV,Aa (.lst (lns.map AD),o),s4,s5,ow F,s7,s8]=.next [si p,sh (Bx C),FV,Aa (.lst (lns.map AD),Ad),s4,s5,ow (F++if frQ p C lns x=Ab then [x] else []),sh (Ar Ab x),s8]:=by
 have ev:=hv p C x hp iC nx.1;have fq:frQ p C lns x=(!decide (vI C x%p=0) && !(lns.any fun n=>decide (AA n x%p=0))):=rfl
 have cp:∀(c d f g h:Sl)(b:An),Be (cG Γ [si p,c,FV,Aa (.lst (lns.map AD),Ad),d,f,g,sh (Ar Ab x),h] 8 BD) (cF Γ [si p,c,FV,Aa (.lst (lns.map AD),Ad),d,f,g,sh (Ar Ab x),h] 8 Jh) (lns.map AD)=.ok ((lns.map fun n=>decide (AA n x%p=0)).map D.bl):=fun c d f g h b=>by
  have key:∀ l:Ac R3,(∀ n∈l,Bn 100 n)->∀ PL:Sl,Be (cG Γ [si p,c,FV,PL,d,f,g,sh (Ar Ab x),h] 8 BD) (cF Γ [si p,c,FV,PL,d,f,g,sh (Ar Ab x),h] 8 Jh) (l.map AD)=.ok ((l.map fun n=>decide (AA n x%p=0)).map D.bl):=fun l=>by
   induction l with
   |nil=>intro _ _;rfl
   |cons n l ih=>
    intro hl PL;have eo:Γ.F 173 [.int p,Ar Ab x,AD n]=.ok (.bl (decide (AA n x%p=0))):=ho p Ad x n hp nx.1 (hl n Aw);have ih':=ih (fun m hm=>hl m (At _ hm)) PL
    rw[Bq,Bq,Bq];show (R.ok Ab).bind _=_;rw[R.bind_ok,AB rfl];have f1:cF Γ [si p,c,FV,PL,d,f,g,sh (Ar Ab x),h] 8 Jh (AD n)=.ok (.bl (decide (AA n x%p=0))):=by
     generalize decide (AA n x%p=0)=t at *;generalize AD n=nn at *;generalize Ar Ab x=xx at *;simp[cF,Jh,eo]
    rw[f1,R.bind_ok,show Be _ _ (DQ AD l)=_ from ih']
    rfl
  exact key lns bl _
 have an:biD .any [.lst ((lns.map fun n=>decide (AA n x%p=0)).map D.bl)]=.ok (.bl (lns.any fun n=>decide (AA n x%p=0))):=by
  show (DU _).bind _=_;rw[aM,Sj];rfl
 have sz:CB ((F.map (Ar Ab)).length+1)=Ab:=by
  unfold CB;exact HP.mpr (by rw[BE];omega)
 have o6:∀(a b c d g h i j:Sl),B7 [a,b,c,d,g,h,ow F,i,j] 6=.ok (F.map (Ar Ab)):=fun _ _ _ _ _ _ _ _=>rfl
 have ad:(Aa (.lst (F.map (Ar Ab)++[Ar Ab x]),Ab):Sl)=ow (F++[x]):=by
  unfold ow A4;rw[SJ];rfl
 rw[fq];generalize (lns.any fun n=>decide (AA n x%p=0))=ab at *
 have sq:B9 (.lst (lns.map AD))=.ok (lns.map AD):=rfl;generalize (lns.map fun n=>decide (AA n x%p=0)).map D.bl=BL at *
 generalize hPL:D.lst (lns.map AD)=PL at *;generalize lns.map AD=PM at *;generalize hv':vI C x%p=v at *;generalize Bx C=cC at *;generalize Ar Ab x=xx at *;generalize F.map (Ar Ab)=FM at *;have go:∀(b:An),Bm Γ 7 Hi xx [si p,sh cC,FV,Aa (PL,b),s4,s5,ow F,s7,s8]=(if (!decide (v=0) && !ab)=Ab then .next [si p,sh cC,FV,Aa (PL,Ad),s4,s5,Aa (.lst (FM++[xx]),Ab),sh xx,s8] else .next [si p,sh cC,FV,Aa (PL,Ad),s4,s5,ow F,sh xx,s8]):=fun b=>by
  have cp':=fun c d f g h=>cp c d f g h Ab
  by_cases hz:v=0
  ·cases b<;>simp[Bm,Hi,Ml,ev,sq,cp',an,hz]
  ·cases ab<;>cases b<;>simp[Bm,Hi,Ml,ev,sq,cp',an,hz,o6,sz]
 rw[go o];by_cases hc:(!decide (v=0) && !ab)=Ab
 ·rw[AB hc,AB hc,ad]
 ·rw[AM hc,AM hc,Cf]
theorem PJ{FV:Sl}{lns:Ac R3}{s4 s5 s8:Sl}(hv:JM Γ)(ho:JT Γ)(hp:P4 p)(iC:InC p C)(bl:∀ n∈lns,Bn 100 n):∀(xs:Ac R3)(F:Ac R3)(o:An)(s7:Sl),(∀ x∈xs,NF p x)->F.length+xs.length<=1000->∃ o' s7',Ci (Bm Γ 7 Hi) (xs.map (Ar Ab)) [si p,sh (Bx C),FV,Aa (.lst (lns.map AD),o),s4,s5,ow F,s7,s8]=.next [si p,sh (Bx C),FV,Aa (.lst (lns.map AD),o'),s4,s5,ow (F++xs.filter (frQ p C lns)),s7',s8]
 |[],F,o,s7,_,_=>⟨o,s7,by rw[Su,Cf];rfl⟩
 |x::xs,F,o,s7,h,hz=>by
  rw[BG]at hz;have st:=XU (s4:=s4) (s5:=s5) (s7:=s7) (s8:=s8) (FV:=FV) (o:=o) (F:=F) hv ho hp iC (h x Aw) bl (by omega)
  have lF:(F++if frQ p C lns x=Ab then [x] else []).length<=F.length+1:=by
   rw[B1];split<;>simp
  obtain⟨o',s7',e⟩:=PJ (s4:=s4) (s5:=s5) (s8:=s8) (FV:=FV) hv ho hp iC bl xs (F++if frQ p C lns x=Ab then [x] else []) Ad (sh (Ar Ab x)) (fun y hy=>h y (At _ hy)) (by omega)
  refine⟨o',s7',?_⟩;rw[Bq];show (Bm Γ 7 Hi (Ar Ab x) _).turn _=_;rw[st];have eq:F++(x::xs).filter (frQ p C lns)=(F++if frQ p C lns x=Ab then [x] else [])++xs.filter (frQ p C lns):=by
   rw[CT,Sk];split<;>simp
  rw[eq];exact e
def aQ(Γ:Gam):Prop:=∀(p:Ae)(C:C6)(a b c d e:R3),P4 p->InC p C->In3 p a->In3 p b->In3 p c->In3 p d->In3 p e->Γ.F 218 [.int p,Bx C,A4 [a,b,c,d,e]]=.ok (A4 ((Dz p).filter (frQ p C (Fm a b c d e))))
theorem VR{cC FV AL R:D}{PL:Ac D}{u v w:Sl}{o':An}{OF:Sl}(h1:Ci (Bm Γ 4 Gv) [.int 0,.int 1,.int 2,.int 3,.int 4] [si p,sh cC,sh FV,Aa (.lst [],Ab),Af,Af,Af,Af,Af]=.next [si p,sh cC,sh FV,Aa (.lst PL,Ab),u,v,Af,Af,Af])(al:Γ.F 164 [.int p]=.ok AL)(sq:B9 AL=.ok as)(h2:Ci (Bm Γ 7 Hi) as [si p,sh cC,sh FV,Aa (.lst PL,Ab),u,v,Aa (.lst [],Ab),Af,Af]=.next [si p,sh cC,sh FV,Aa (.lst PL,o'),u,v,OF,w,Af])(rt:∀(a b c d e f g h:Sl),Ej [a,b,c,d,e,f,OF,g,h] 6=.ok R):Km.run Γ [.int p,cC,FV]=.ok R:=by
 have rg:B5 0 5=.ok [.int 0,.int 1,.int 2,.int 3,.int 4]:=by rfl
 simp[Km,Df.run,Bw,rg,h1,al,sq,h2,rt,DC]
theorem YX(ha:M3 Γ)(hv:JM Γ)(ho:JT Γ)(hc:KC Γ)(p:Ae)(C:C6)(a b c d e:R3)(hp:P4 p)(iC:InC p C)(ia:In3 p a)(ib:In3 p b)(ic:In3 p c)(id:In3 p d)(ie:In3 p e):Km.run Γ [.int p,Bx C,A4 [a,b,c,d,e]]=.ok (A4 ((Dz p).filter (frQ p C (Fm a b c d e)))):=by
 have k:∀{x:R3},In3 p x->Bn 10 x:=fun h=>Dy hp h
 have k':∀{x:R3},In3 p x->Bn 100 x:=fun h=>(Dy hp h).mono (by decide)
 obtain⟨u,v,h1⟩:=UR (Γ:=Γ) (s0:=si p) (s1:=sh (Bx C)) (s4:=Af) (s5:=Af) (s6:=Af) (s7:=Af) (s8:=Af) hc (k' ia) (k' ib) (k' ic) (k' id) (k' ie);have bl:∀ n∈Fm a b c d e,Bn 100 n:=fun n hn=>by
  simp only[Fm,As,AF,Bl]at hn;rcases hn with rfl|rfl|rfl|rfl|rfl|rfl|rfl|rfl|rfl|rfl
  ·exact FE (k ia) (k ib)
  ·exact FE (k ia) (k ic)
  ·exact FE (k ib) (k ic)
  ·exact FE (k ia) (k id)
  ·exact FE (k ib) (k id)
  ·exact FE (k ic) (k id)
  ·exact FE (k ia) (k ie)
  ·exact FE (k ib) (k ie)
  ·exact FE (k ic) (k ie)
  ·exact FE (k id) (k ie)
 have len:(Dz p).length<=1000:=by rcases hp with rfl|rfl|rfl|rfl<;>decide
 obtain⟨o',w,h2⟩:=PJ (Γ:=Γ) (s4:=u) (s5:=v) (s8:=Af) (FV:=sh (A4 [a,b,c,d,e])) hv ho hp iC bl (Dz p) [] Ab Af (fun x hx=>(Fd hp).mp hx) (by simpa using len)
 rw[SL]at h2;exact VR h1 (ha p hp) rfl h2 (fun _ _ _ _ _ _ _ _=>rfl)
end
noncomputable def J6:E:=(.cmp .Eq (.call 162 (.cons (.var 1) (.cons (.var 2) (.cons (.var 11) .nil)))) (.int 0))
noncomputable def Lx:E:=(.var 11)
noncomputable def Ig:Ss:=(.cons (.apop 4 3 (.bin .Mod (.bin .FloorDiv (.call 38 (.cons (.var 0) (.cons (.bin .Add (.int 11) (.var 5)) .nil))) (.int 3)) (.bi .len (.cons (.var 3) .nil)))) .nil)
noncomputable def Lw:E:=(.idx (.var 4) (.var 12))
noncomputable def Lv:E:=(.call 219 (.cons (.var 1) (.cons (.var 2) (.cons (.var 13) (.cons (.var 7) .nil)))))
noncomputable def JV:Ss:=(.cons (.asg 9 Ad (.bin .Add (.int 1) (.bin .Mod (.bin .FloorDiv (.var 6) (.int 64)) (.int 5)))) (.cons (.rel 4) (.cons (.asg 10 Ad (.lst (.cons (.var 4) (.cons (.bin .Add (.sl (.var 4) (.var 9) .non) (.sl (.var 4) .non (.var 9))) (.cons (.comp Lw 12 (.e (.lst (.cons (.int 2) (.cons (.int 0) (.cons (.int 5) (.cons (.int 1) (.cons (.int 4) (.cons (.int 3) .nil)))))))) BD) .nil))))) (.cons (.ret (.bi .all (.cons (.comp Lv 13 (.e (.var 10)) BD) .nil))) .nil))))
noncomputable def Il:Df:=⟨14,Ad,(.cons (.asg 1 Ad (.idx (.lst (.cons (.int 5) (.cons (.int 7) (.cons (.int 11) .nil)))) (.bin .Mod (.bin .FloorDiv (.call 38 (.cons (.var 0) (.cons (.int 0) .nil))) (.int 5)) (.int 3)))) (.cons (.asg 2 Ad (.call 163 (.cons (.var 1) (.cons (.call 176 (.cons (.var 1) (.cons (.var 0) (.cons (.int 1) .nil)))) (.cons (.int 0) .nil))))) (.cons (.asg 3 Ab (.comp Lx 11 (.e (.call 164 (.cons (.var 1) .nil))) J6)) (.cons (.asg 4 Ab (.lst .nil)) (.cons (.fors 5 (.rng (.int 6)) Ig) (.cons (.asg 6 Ad (.bin .FloorDiv (.call 38 (.cons (.var 0) (.cons (.int 10) .nil))) (.int 3))) (.cons (.asg 7 Ad (.bl Ab)) (.cons (.ife (.cmp .Eq (.bin .Mod (.var 6) (.int 2)) (.int 1)) (.cons (.asg 8 Ad (.call 218 (.cons (.var 1) (.cons (.var 2) (.cons (.sl (.var 4) .non (.int 5)) .nil))))) (.cons (.ife (.cmp .Gt (.bi .len (.cons (.var 8) .nil)) (.int 0)) (.cons (.asg 7 Ad (.bl Ad)) (.cons (.put 4 (.int 5) (.idx (.var 8) (.bin .Mod (.bin .FloorDiv (.var 6) (.int 2)) (.bi .len (.cons (.var 8) .nil))))) .nil)) .nil) .nil)) .nil) JV))))))))⟩
section
variable{Γ:Gam}{ns:Ac Ae}{p:Ae}{C:C6}
theorem t65(hm:IF Γ 38 ns){r:Rho}{f l:Ac R3}(ha:0<=11+k)(hl:0<l.length)(h1:l.length<=1000)(h2:f.length<=1000):∃ f' l',f'.length=f.length+1/\l'.length+1=l.length/\(f'++l').Perm (f++l)/\Bm Γ 5 Ig (.int k) (sh (scr ns)::s1::s2::ow l::ow f::s5::r)=.next (sh (scr ns)::s1::s2::ow l'::ow f'::si k::r):=by
 obtain⟨m,m0,e⟩:=hm (11+k) ha;have hL:(0:Ae)<l.length:=by omega
 have q0:=A8 (m / 3) (b:=(l.length:Ae)) (by omega)
 have q1:=A5 (m / 3) hL;obtain⟨i,hi⟩:∃ i:Ag,m / 3%(l.length:Ae)=(i:Ae):=⟨(m / 3%(l.length:Ae)).toNat,by omega⟩
 have il:i<l.length:=by omega
 have sz:∀ n:Ag,n<=1001->CB n=Ab:=fun n hn=>by
  unfold CB;exact HP.mpr (by omega)
 have pa:=fun ρ:Rho=>Za ρ 4 3 f l i l[i] (Bo il) rfl (sz _ (by omega)) (sz _ (by omega))
 refine⟨f++[l[i]],l.eraseIdx i,by simp,by rw[List.length_eraseIdx_of_lt il];omega,?_,?_⟩
 ·rw[Sk];exact List.Perm.append_left _ (N7 l i il)
 ·have ln:biD .len [A4 l]=.ok (.int l.length):=by
   show R.ok (D.int ((l.map (Ar Ab)).length:Ae))=_;rw[BE]
  have o1:∀(a b c g:Sl)(r:Rho),B7 (a::b::c::ow l::ow f::g::r) 4=.ok (f.map (Ar Ab)):=fun _ _ _ _ _=>rfl
  have o2:∀(a b c g:Sl)(r:Rho),B7 (a::b::c::ow l::ow f::g::r) 3=.ok (l.map (Ar Ab)):=fun _ _ _ _ _=>rfl
  have t4:∀(a b c g:Sl)(r:Rho),Ej (a::b::c::ow l::ow f::g::r) 3=.ok (A4 l):=fun _ _ _ _ _=>rfl
  generalize hT:ow (f++[l[i]])=F' at *;generalize hU:ow (l.eraseIdx i)=L' at *;generalize ow l=OL at *;generalize ow f=OF at *;generalize A4 l=RL at *;generalize f.map (Ar Ab)=FM at *;generalize l.map (Ar Ab)=LM at *;generalize hn:(l.length:Ae)=N at *;simp[Bm,Ig,Vv,o1,o2,t4,ln,e,hi,hL,pa]
theorem l65(hm:IF Γ 38 ns){s1 s2:Sl}{r:Rho}:∀(n:Ag)(k:Ae)(f l:Ac R3)(s5:Sl),0<=k->n<=l.length->f.length+l.length<=1000->∃ f' l' s5',f'.length=f.length+n/\(f'++l').Perm (f++l)/\Ci (Bm Γ 5 Ig) (BK k n) (sh (scr ns)::s1::s2::ow l::ow f::s5::r)=.next (sh (scr ns)::s1::s2::ow l'::ow f'::s5'::r)
 |0,k,f,l,s5,_,_,_=>⟨f,l,s5,rfl,GH _,rfl⟩
 |n+1,k,f,l,s5,hk,hl,hz=>by
  obtain⟨f1,l1,a1,a2,a3,a4⟩:=t65 hm (k:=k) (s1:=s1) (s2:=s2) (r:=r) (f:=f) (l:=l) (s5:=s5) (by omega) (by omega) (by omega) (by omega)
  obtain⟨f2,l2,s5',b1,b2,b3⟩:=l65 hm (s1:=s1) (s2:=s2) (r:=r) n (k+1) f1 l1 (si k) (by omega) (by omega) (by omega)
  refine⟨f2,l2,s5',by omega,b2.trans a3,?_⟩
  rw[VS];show (Bm Γ 5 Ig (.int k) _).turn _=_;rw[a4];exact b3
theorem P9{l:Ac α}(h:l.length=6):∃ a b c d e f,l=[a,b,c,d,e,f]:=by
  match l,h with
  |[a,b,c,d,e,f],_=>exact⟨a,b,c,d,e,f,rfl⟩
theorem Z9{a b c:R3}{f l:Ac R3}(hp:P4 p)(z:Ai a b c%p≠0)(h:PrC p C (E4 0 (Fl p) a b c))(e:(f++l).Perm (E2 p C)):N3 p f/\∀ x∈f,vI C x%p=0:=by
 have nd:(E2 p C).Nodup:=(NP hp).filter _;have f1:f.Nodup:=(List.nodup_append.mp (e.nodup_iff.mpr nd)).1;have f2:∀ x∈f,x∈E2 p C:=fun x hx=>e.mem_iff.mp (Cn _ hx)
 have m:∀ x∈f,NF p x/\vI C x%p=0:=fun x hx=>by
  have:=f2 x hx;unfold E2 at this;rw[Bj]at this;exact⟨(Fd hp).mp this.1,Dg this.2⟩
 exact⟨⟨f1,fun x hx=>(m x hx).1,fun x y u hx hy hu n1 n2 n3=>Xi hp z h (f2 x hx) (f2 y hy) (f2 u hu) n1 n2 n3⟩,fun x hx=>(m x hx).2⟩
theorem MR(x y u:R3):Ai x u y=-1*Ai x y u/\Ai u x y=Ai x y u/\Ai y x u=-1*Ai x y u:=by
 unfold Ai det;refine⟨?_,?_,?_⟩<;>grind
theorem N3.snoc{l:Ac R3}(hp:P4 p)(h:N3 p l)(ng:NF p g)(gl:g∉l)(hd:∀ x∈l,∀ y∈l,x≠y->Ai x y g%p≠0):N3 p (l++[g]):=by
 have neg:∀{n:Ae},n%p≠0->-1*n%p≠0:=fun hn=>Cq hp hp.m1 hn
 refine⟨List.nodup_append.mpr ⟨h.nd,by simp,fun x hx y hy q=>?_⟩,fun x hx=>?_,fun x y u hx hy hu n1 n2 n3=>?_⟩
 ·rw[AR.mp hy]at q;exact gl (q ▸ hx)
 ·rcases Cu.mp hx with hx|hx
  ·exact h.nf x hx
  ·rw[AR.mp hx];exact ng
 ·rcases Cu.mp hx with hx|hx<;>rcases Cu.mp hy with hy|hy<;>rcases Cu.mp hu with hu|hu
  ·exact h.n3 x y u hx hy hu n1 n2 n3
  ·rw[AR.mp hu];exact hd x hx y hy n1
  ·rw[AR.mp hy,(MR x u g).1];exact neg (hd x hx u hu n2)
  ·exact absurd ((AR.mp hy).trans (AR.mp hu).symm) n3
  ·rw[AR.mp hx,(MR y u g).2.1];exact hd y hy u hu n3
  ·exact absurd ((AR.mp hx).trans (AR.mp hu).symm) n2
  ·exact absurd ((AR.mp hx).trans (AR.mp hy).symm) n1
  ·exact absurd ((AR.mp hx).trans (AR.mp hy).symm) n1
theorem XS{a b c d e g:R3}(hp:P4 p)(iC:InC p C)(lC:AN p C.l=Aa 1)(h:N3 p [a,b,c,d,e])(on:∀ x∈[a,b,c,d,e],vI C x%p=0)(hg:g∈(Dz p).filter (frQ p C (Fm a b c d e))):N3 p [a,b,c,d,e,g]/\¬ ∃ C,InC p C/\AN p C.l=Aa 1/\∀ x∈[a,b,c,d,e,g],vI C x%p=0:=by
 rw[Bj]at hg;obtain⟨g1,g2⟩:=hg;have ng:=(Fd hp).mp g1;unfold frQ at g2;rw[Al,Bv,Bv,jZ,List.any_eq_false]at g2;obtain⟨gv,gl⟩:=g2;have k:∀ n∈Fm a b c d e,AA n g%p≠0:=fun n hn q=>gl n hn (AW q)
 have k1:∀{x y:R3},crs x y∈Fm a b c d e->Ai x y g%p≠0:=fun hn=>by rw[<-FL];exact k _ hn
 have k2:∀{x y:R3},crs x y∈Fm a b c d e->Ai y x g%p≠0:=fun {x y} hn=>by rw[(MR x y g).2.2];exact Cq hp hp.m1 (k1 hn)
 constructor
 ·refine N3.snoc (l:=[a,b,c,d,e]) hp h ng (fun q=>gv (on g q)) fun x hx y hy ne=>?_
  simp only[As,AF,Bl]at hx hy;rcases hx with rfl|rfl|rfl|rfl|rfl<;>rcases hy with rfl|rfl|rfl|rfl|rfl<;>first|exact absurd rfl ne|(refine k1 ?_;simp only[Fm,As,true_or,or_true];done)|(refine k2 ?_;simp only[Fm,As,true_or,or_true];done)
 ·rintro⟨C',iC',lC',on'⟩;have F:Five p C [a,b,c,d,e]:=h.five hp rfl on;have F':Five p C' [a,b,c,d,e]:=h.five hp rfl fun x hx=>on' x (Cn [g] hx)
  have q:=QQ hp iC lC iC' lC' F F';subst q;exact gv (on' g (by simp))
theorem Ze(a b c d e f:R3):[c,a,f,b,e,d].Perm [a,b,c,d,e,f]:=
 (E8 a c _).trans (E7 a (((E8 b f _).cons c).trans ((E8 b c _).trans (E7 b (E7 c (List.reverse_perm [d,e,f]))))))
theorem iR(a b c d e f:R3)(h1:1<=t)(h2:t<=5):∃(u v:D)(o:Ac R3),o.length=6/\o.Perm [a,b,c,d,e,f]/\slD (A4 [a,b,c,d,e,f]) (Aa t) Af=.ok u/\slD (A4 [a,b,c,d,e,f]) Af (Aa t)=.ok v/\CH .Add u v=.ok (A4 o):=by
 have:t=1\/t=2\/t=3\/t=4\/t=5:=by omega
 rcases this with rfl|rfl|rfl|rfl|rfl
 ·exact⟨_,_,[b,c,d,e,f,a],rfl,C7 (l₁:=[b,c,d,e,f]) (l₂:=[a]),rfl,rfl,rfl⟩
 ·exact⟨_,_,[c,d,e,f,a,b],rfl,C7 (l₁:=[c,d,e,f]) (l₂:=[a,b]),rfl,rfl,rfl⟩
 ·exact⟨_,_,[d,e,f,a,b,c],rfl,C7 (l₁:=[d,e,f]) (l₂:=[a,b,c]),rfl,rfl,rfl⟩
 ·exact⟨_,_,[e,f,a,b,c,d],rfl,C7 (l₁:=[e,f]) (l₂:=[a,b,c,d]),rfl,rfl,rfl⟩
 ·exact⟨_,_,[f,a,b,c,d,e],rfl,C7 (l₁:=[f]) (l₂:=[a,b,c,d,e]),rfl,rfl,rfl⟩
theorem Md(hr:Px Γ)(hp:P4 p)(iC:InC p C)(lC:AN p C.l=Aa 1){o:Ac R3}{on:An}(h:N3 p pts)(len:pts.length=6)(h1:on=Ab->∀ x∈pts,vI C x%p=0)(h0:on=Ad->¬ ∃ C,InC p C/\AN p C.l=Aa 1/\∀ x∈pts,vI C x%p=0)(e:o.Perm pts):Γ.F 219 [.int p,Bx C,A4 o,.bl on]=.ok (.bl Ab):=by
 obtain⟨a,b,c,d,e',f,rfl⟩:=P9 (e.length_eq.trans len);refine hr p C a b c d e' f on hp iC lC (Six.of (h.perm e)) (fun z x hx=>h1 z x (e.mem_iff.mp hx)) fun z ⟨C',i,l,q⟩=>h0 z ⟨C',i,l,fun x hx=>q x (e.mem_iff.mpr hx)⟩
section
variable{A B C' D' E F O2 cC S U V:D}{t pk:Ae}{on:An}{s3 s5 s8:Sl}
theorem fP(et:1+pk / 64%5=t)(sl1:slD (.lst [A,B,C',D',E,F]) (Aa t) Af=.ok U)(sl2:slD (.lst [A,B,C',D',E,F]) Af (Aa t)=.ok V)(ad:CH .Add U V=.ok O2)(r1:Γ.F 219 [.int p,cC,.lst [A,B,C',D',E,F],.bl on]=.ok (.bl Ab))(r2:Γ.F 219 [.int p,cC,O2,.bl on]=.ok (.bl Ab))(r3:Γ.F 219 [.int p,cC,.lst [C',A,F,B,E,D'],.bl on]=.ok (.bl Ab)):evSs Γ [sh S,si p,sh cC,s3,Aa (.lst [A,B,C',D',E,F],Ab),s5,si pk,sh (.bl on),s8,Af,Af,Af,Af,Af] JV=.ret (.bl Ab) Ad:=by
 obtain⟨i0,i1,i2,i3,i4,i5⟩:=JH A B C' D' E F;have cp3:∀(a b c d e f g h i j k l:Sl)(PP:D),AT PP (.int 0)=.ok A->AT PP (.int 1)=.ok B->AT PP (.int 2)=.ok C'->AT PP (.int 3)=.ok D'->AT PP (.int 4)=.ok E->AT PP (.int 5)=.ok F->Be (cG Γ [a,b,c,d,Aa (PP,Ad),e,f,g,h,i,j,k,Af,l] 12 BD) (cF Γ [a,b,c,d,Aa (PP,Ad),e,f,g,h,i,j,k,Af,l] 12 Lw) [.int 2,.int 0,.int 5,.int 1,.int 4,.int 3]=.ok [C',A,F,B,E,D']:=fun _ _ _ _ _ _ _ _ _ _ _ _ PP j0 j1 j2 j3 j4 j5=>by
  simp[Be,cG,cF,BD,Lw,j0,j1,j2,j3,j4,j5]
 have cp4:∀(a c d e f h i j k l:Sl)(PP O3:D),Γ.F 219 [.int p,cC,PP,.bl on]=.ok (.bl Ab)->Γ.F 219 [.int p,cC,O3,.bl on]=.ok (.bl Ab)->Be (cG Γ [a,si p,sh cC,c,d,e,f,sh (.bl on),h,i,j,k,l,Af] 13 BD) (cF Γ [a,si p,sh cC,c,d,e,f,sh (.bl on),h,i,j,k,l,Af] 13 Lv) [PP,O2,O3]=.ok [.bl Ab,.bl Ab,.bl Ab]:=fun _ _ _ _ _ _ _ _ _ _ PP O3 q1 q3=>by
  simp[Be,cG,cF,BD,Lv,q1,r2,q3]
 have cp3':=fun a b c d e f g h i j k l=>cp3 a b c d e f g h i j k l _ i0 i1 i2 i3 i4 i5
 have cp4':=fun a c d e f h i j k l=>cp4 a c d e f h i j k l _ _ r1 r3
 generalize hO3:D.lst [C',A,F,B,E,D']=O3 at *;generalize hPP:D.lst [A,B,C',D',E,F]=PP at *;simp[JV,Ml,et,sl1,sl2,ad,cp3',hO3,cp4',FI,DC]
end
section
variable{A B C' D' E F F5 FR G RR cC S AL:D}{as lm:Ac D}{m0 m pk N:Ae}{OL OL' s5:Sl}
theorem M1{R:D}{on:An}{PF:Sl}(e0:Γ.F 38 [S,.int 0]=.ok (.int m0))(ip:AT (.lst [.int 5,.int 7,.int 11]) (.int (m0 / 5%3))=.ok (.int p))(tb:Γ.F 176 [.int p,S,.int 1]=.ok RR)(cv:Γ.F 163 [.int p,RR,.int 0]=.ok cC)(al:Γ.F 164 [.int p]=.ok AL)(sq:B9 AL=.ok as)(cp:Be (cG Γ [sh S,si p,sh cC,Af,Af,Af,Af,Af,Af,Af,Af,Af,Af,Af] 11 J6) (cF Γ [sh S,si p,sh cC,Af,Af,Af,Af,Af,Af,Af,Af,Af,Af,Af] 11 Lx) as=.ok lm)(eO:(Aa (.lst lm,Ab):Sl)=OL)(lp:Ci (Bm Γ 5 Ig) (BK 0 6) [sh S,si p,sh cC,OL,Aa (.lst [],Ab),Af,Af,Af,Af,Af,Af,Af,Af,Af]=.next [sh S,si p,sh cC,OL',Aa (.lst [A,B,C',D',E,F],Ab),s5,Af,Af,Af,Af,Af,Af,Af,Af])(em:Γ.F 38 [S,.int 10]=.ok (.int m))(ek:m / 3=pk)(go:(pk%2≠1/\on=Ab/\PF=Aa (.lst [A,B,C',D',E,F],Ab)/\s8=Af)\/(pk%2=1/\slD (.lst [A,B,C',D',E,F]) Af (Aa 5)=.ok F5/\Γ.F 218 [.int p,cC,F5]=.ok FR/\biD .len [FR]=.ok (.int N)/\s8=sh FR/\((N<=0/\on=Ab/\PF=Aa (.lst [A,B,C',D',E,F],Ab))\/(0<N/\AT FR (.int (pk / 2%N))=.ok G/\on=Ad/\PF=Aa (.lst [A,B,C',D',E,G],Ab)))))(fin:evSs Γ [sh S,si p,sh cC,OL',PF,s5,si pk,sh (.bl on),s8,Af,Af,Af,Af,Af] JV=.ret R Ad):Il.run Γ [S]=.ok R:=by
 have rg:B5 0 6=.ok (BK 0 6):=by rfl
 generalize BK 0 6=RL at *;rcases go with ⟨g1,rfl,rfl,rfl⟩|⟨g1,g2,g3,g4,rfl,⟨g5,rfl,rfl⟩|⟨g5,g6,rfl,rfl⟩⟩
 ·simp[Il,Df.run,Bw,e0,ip,tb,cv,al,sq,cp,eO,rg,lp,em,ek,g1,DC,fin]
 ·have g5':¬ 0<N:=by omega
  simp[Il,Df.run,Bw,e0,ip,tb,cv,al,sq,cp,eO,rg,lp,em,ek,g1,g2,g3,g4,g5',DC,fin]
 ·have o4:∀(a b c d e f g h i j k l n:Sl),B7 [a,b,c,d,Aa (.lst [A,B,C',D',E,F],Ab),e,f,g,h,i,j,k,l,n] 4=.ok [A,B,C',D',E,F]:=fun _ _ _ _ _ _ _ _ _ _ _ _ _=>rfl
  have pl:plD 6 5=Aa 5:=rfl;simp[Il,Df.run,Bw,e0,ip,tb,cv,al,sq,cp,eO,rg,lp,em,ek,g1,g2,g3,g4,g5,g6,Mm,o4,pl,DC,fin]
end
structure H65 (Γ:Gam) (ns:Ac Ae):Prop where
 mi:IF Γ 38 ns
 tb:gW Γ 176 ns
 cv:gY Γ
 al:M3 Γ
 lv:JM Γ
 fr:aQ Γ
 ri:Px Γ
theorem ZZ(h:H65 Γ ns):Il.run Γ [scr ns]=.ok (.bl Ab):=by
 obtain⟨m0,_,e0⟩:=h.mi 0 (by decide)
 obtain⟨p,hp,p3,ip⟩:∃ p,P4 p/\(p=5\/p=7\/p=11)/\AT (.lst [.int 5,.int 7,.int 11]) (.int (m0 / 5%3))=.ok (.int p):=by
  have:m0 / 5%3=0\/m0 / 5%3=1\/m0 / 5%3=2:=by omega
  rcases this with q|q|q
  ·rw[q];exact⟨5,.inr (.inl rfl),.inl rfl,rfl⟩
  ·rw[q];exact⟨7,.inr (.inr (.inl rfl)),.inr (.inl rfl),rfl⟩
  ·rw[q];exact⟨11,.inr (.inr (.inr rfl)),.inr (.inr rfl),rfl⟩
 obtain⟨x,y,z,g,tb⟩:=h.tb p hp;obtain⟨C,iC,lC,pC,cv⟩:=h.cv p x y z 0 g (.inl rfl);have al:=h.al p hp;have sq:B9 (A4 (Dz p))=.ok ((Dz p).map (Ar Ab)):=rfl;have cp:Be (cG Γ [sh (scr ns),si p,sh (Bx C),Af,Af,Af,Af,Af,Af,Af,Af,Af,Af,Af] 11 J6) (cF Γ [sh (scr ns),si p,sh (Bx C),Af,Af,Af,Af,Af,Af,Af,Af,Af,Af,Af] 11 Lx) ((Dz p).map (Ar Ab))=.ok ((E2 p C).map (Ar Ab)):=by
  refine Ot (Dz p) fun u hu=>⟨?_,rfl⟩
  have e:=h.lv p C u hp iC ((Fd hp).mp hu).1;generalize vI C u%p=v at *;generalize Bx C=cC at *;generalize scr ns=S at *;generalize Ar Ab u=xx at *;simp[cG,J6,e];rw[CI];simp
 have len:6<=(E2 p C).length/\(E2 p C).length<=1000:=by
  rw[Xk (.inl rfl) hp g.nz pC];rcases p3 with rfl|rfl|rfl<;>decide
 obtain⟨f,l,s5,f6,pm,lp⟩:=l65 h.mi (s1:=si p) (s2:=sh (Bx C)) (r:=[Af,Af,Af,Af,Af,Af,Af,Af]) 6 0 [] (E2 p C) Af (by decide) len.1 (by simpa using len.2)
 rw[SL]at pm;obtain⟨n3,on⟩:=Z9 hp g.nz pC pm;obtain⟨a,b,c,d,e,f,rfl⟩:=P9 f6;have on5:∀ u∈[a,b,c,d,e],vI C u%p=0:=fun u hu=>on u (Cn [f] hu)
 have n5:N3 p [a,b,c,d,e]:=n3.sub (Ee [a,b,c,d,e] [f]);obtain⟨m,_,em⟩:=h.mi 10 (by decide)
 have nf5:∀{u:R3},u∈[a,b,c,d,e]->In3 p u:=fun hu=>(n5.nf _ hu).1
 have efr:=h.fr p C a b c d e hp iC (nf5 (by simp)) (nf5 (by simp)) (nf5 (by simp)) (nf5 (by simp)) (nf5 (by simp))
 -- what stands at the end
 have fin:∀(g':R3)(on':An)(s8:Sl),N3 p [a,b,c,d,e,g']->(on'=Ab->∀ x∈[a,b,c,d,e,g'],vI C x%p=0)->(on'=Ad->¬ ∃ C,InC p C/\AN p C.l=Aa 1/\∀ x∈[a,b,c,d,e,g'],vI C x%p=0)->evSs Γ [sh (scr ns),si p,sh (Bx C),ow l,Aa (.lst [Ar Ab a,Ar Ab b,Ar Ab c,Ar Ab d,Ar Ab e,Ar Ab g'],Ab),s5,si (m / 3),sh (.bl on'),s8,Af,Af,Af,Af,Af] JV=.ret (.bl Ab) Ad:=fun g' on' s8 n h1 h0=>by
  obtain⟨u,v,o,ol,op,q1,q2,q3⟩:=iR a b c d e g' (t:=1+m / 3 / 64%5) (by omega) (by omega)
  exact fP rfl q1 q2 q3 (Md h.ri hp iC lC n rfl h1 h0 (GH _)) (Md h.ri hp iC lC n rfl h1 h0 op) (Md h.ri hp iC lC n rfl h1 h0 (Ze a b c d e g'))
 generalize hFr:(Dz p).filter (frQ p C (Fm a b c d e))=fr at *;have ln:biD .len [A4 fr]=.ok (.int (fr.length:Ae)):=by
  show R.ok (D.int ((fr.map (Ar Ab)).length:Ae))=_;rw[BE]
 by_cases hk:m / 3%2=1
 ·by_cases hN:0<fr.length
  ·have hL:(0:Ae)<fr.length:=by omega
   have q0:=A8 (m / 3 / 2) (b:=(fr.length:Ae)) (by omega)
   have q1:=A5 (m / 3 / 2) hL;obtain⟨i,hi⟩:∃ i:Ag,m / 3 / 2%(fr.length:Ae)=(i:Ae):=⟨(m / 3 / 2%(fr.length:Ae)).toNat,by omega⟩
   have il:i<fr.length:=by omega
   have gi:AT (A4 fr) (.int (m / 3 / 2%(fr.length:Ae)))=.ok (Ar Ab fr[i]):=by
    rw[hi];exact ZP (Bo il)
   obtain⟨n6,no⟩:=XS (g:=fr[i]) hp iC lC n5 on5 (by rw[hFr];exact Ey il)
   exact M1 (R:=.bl Ab) (on:=Ad) e0 ip tb cv al sq cp rfl lp em rfl (.inr ⟨hk,rfl,efr,ln,rfl,.inr ⟨hL,gi,rfl,rfl⟩⟩) (fin fr[i] Ad _ n6 (fun q=>nomatch q) (fun _=>no))
  ·exact M1 (G:=.non) (R:=.bl Ab) (on:=Ab) e0 ip tb cv al sq cp rfl lp em rfl (.inr ⟨hk,rfl,efr,ln,rfl,.inl ⟨by omega,rfl,rfl⟩⟩) (fin f Ab _ n3 (fun _=>on) (fun q=>nomatch q))
 ·exact M1 (F5:=.non) (FR:=.non) (N:=0) (G:=.non) (R:=.bl Ab) (on:=Ab) e0 ip tb cv al sq cp rfl lp em rfl (.inl ⟨hk,rfl,rfl,rfl⟩) (fin f Ab _ n3 (fun _=>on) (fun q=>nomatch q))
end
noncomputable def jB:Ag->Ac Ag:=fun _=>[]
noncomputable def iZ:Ag->Ac D->R Ex:=fun _ _=>.bad
noncomputable def Q65:Prg:=⟨Ab,fun
 |1=>MH
 |9=>Kc
 |17=>Kl
 |23=>LJ
 |57=>MI
 |58=>Qx
 |61=>LI
 |65=>Ji
 |194=>Ka
 |109=>Kb
 |122=>Lm
 |126=>Mp
 |195=>J9
 |196=>K0
 |197=>J8
 |198=>J3
 |209=>Im
 |210=>Ll
 |211=>Hy
 |38=>Jp
 |157=>Js
 |158=>K2
 |176=>Nh 38
 |160=>La
 |161=>Jt
 |162=>K4
 |163=>Ie
 |164=>J7
 |165=>Lb
 |173=>LZ
 |218=>Km
 |219=>Io
 |220=>Il
 | _=>⟨0,Ad,.nil⟩,fun _=>.non,jB,iZ⟩
theorem gE(ns:Ac Ae)(hl:ns.length<=63):(gam Q65 9).F 220 [scr ns]=.ok (.bl Ab):=by
 have rs:∀ n,HE (gam Q65 (n+1)):=fun n p m hp=>Cm (Zz _ p m hp)
 have mi:∀ n,IF (gam Q65 (n+1)) 38 ns:=fun n k hk=>let ⟨m,m0,e⟩:=ZC _ ns hl k hk;⟨m,m0,Cm e⟩
 have tu:∀ n,LK (gam Q65 (n+2)):=fun n p m hp z=>let ⟨t,t1,t2,t3,e⟩:=UN (rs n) p m hp z;⟨t,t1,t2,t3,Cm e⟩
 have fo:∀ n,Kx (gam Q65 (n+3)):=fun n p b xs l t hp e it=>Cm (Xb (rs (n+1)) (tu n) hp e it)
 have me:∀ n,Mt (gam Q65 (n+2)):=fun n p q a b c hp ha hb hc=>Cm (Xa (rs n) p q a b c hp ha hb hc)
 have jo:∀ n,KD (gam Q65 (n+4)):=fun n p a b hp ia ib la lb ne=>let ⟨y,h1,h2,h3,e⟩:=Qc (fun a b ha hb ne=>Cm (O6 _ a b ha hb ne)) (fo n) p a b hp ia ib la lb ne;⟨y,h1,h2,h3,Cm e⟩
 have mt:∀ n,QE (gam Q65 (n+4)):=fun n p a b hp ia ib la lb ne=>let ⟨y,h1,h2,h3,e⟩:=ZD (fun a b ha hb ne=>Cm (O6 _ a b ha hb ne)) (fo n) p a b hp ia ib la lb ne;⟨y,h1,h2,h3,Cm e⟩
 have vb:∀ n,MO (gam Q65 (n+2)):=fun n p C x hp bC ix=>Cm (Zv (rs n) p C x hp bC ix)
 have cf:∀ n,QG (gam Q65 (n+4)):=fun n p b xs l t hp e it=>Cm (YY (rs (n+2)) (fo n) hp e it)
 have lm:∀ n,QF (gam Q65 (n+1)):=fun n p a b hp ia ib=>Cm (ZF _ p a b hp ia ib)
 have fc:∀ n,Pz (gam Q65 (n+5)):=fun n p C pts hp iC lC h=>Cm (Xe (jo n) (lm (n+3)) (vb (n+2)) (cf n) p C pts hp iC lC h)
 have ff:∀ n,Py (gam Q65 (n+3)):=fun n p C pts hp h=>Cm (Xd (me n) p C pts hp h)
 have au:∀ n,OK (gam Q65 (n+1)):=fun n p C pts h=>Cm (VU _ p C pts h)
 have th:∀ n,QA (gam Q65 (n+6)):=fun n p C pts hp iC lC h=>Cm (VT (au (n+4)) (ff (n+2)) (fc n) p C pts hp iC lC h)
 have f3:∀ n,Mu (gam Q65 (n+1)):=fun n p b xs l t hp e it=>Cm (Xc _ hp e it)
 have px:∀ n,Rh (gam Q65 (n+1)):=fun n p k hp h0 h1=>Cm (dH _ p k hp h0 h1)
 have al:∀ n,M3 (gam Q65 (n+2)):=fun n p hp=>by
  have e:=dP (px n) p hp;show En Ab (J7.run (gam Q65 (n+1)) [.int p])=_;rw[e];rfl
 have f6:∀ n,Rk (gam Q65 (n+3)):=fun n p pts hp hn h=>by
  have e:=dN (me n) p pts hp hn h;generalize A4 pts=PP at e ⊢;show En Ab (Ji.run (gam Q65 (n+2)) [.int p,PP])=.ok .non;rw[e];rfl
 have a6:∀ n,QH (gam Q65 (n+4)):=fun n p pts hp hn h=>by
  have e:=Y0 (f6 n) p pts hp hn h;generalize A4 pts=PP at e ⊢;show En Ab (Kb.run (gam Q65 (n+3)) [.int p,PP])=.ok .non;rw[e];rfl
 have sd:∀ n,QC (gam Q65 (n+5)):=fun n p a b c d e f hp h=>by
  obtain⟨h0,h1,h2⟩:=Zy (dJ (jo n) (mt n)) p a b c d e f hp h;generalize A4 [a,b,c,d,e,f]=PP at h0 h1 h2 ⊢;exact⟨Cm h0,Cm h1,Cm h2⟩
 have ms:∀ n,QD (gam Q65 (n+6)):=fun n p a b c d e f hp h=>by
  have q:=ZB (a6 (n+1)) (sd n) p a b c d e f hp h;generalize A4 [a,b,c,d,e,f]=PP at q ⊢;exact Cm q
 have sx:∀ n,QB (gam Q65 (n+7)):=fun n p a b c d e f hp h=>by
  obtain⟨h1,h0⟩:=Zx (ms n) (th n) (vb (n+4)) (jo (n+2)) p a b c d e f hp h;generalize A4 [a,b,c,d,e,f]=PP at h1 h0 ⊢;exact⟨fun C iC lC on=>Cm (h1 C iC lC on),fun no=>Cm (h0 no)⟩
 have lc:∀ n,KC (gam Q65 (n+1)):=fun n q a b ha hb=>Cm (ZG _ q a b ha hb)
 have ob:∀ n,JT (gam Q65 (n+1)):=fun n p q x y hp ix hy=>Cm (dI _ p q x y hp ix hy)
 have l4:∀ n,Rj (gam Q65 (n+2)):=fun n p a b c hp ia ib ic=>Cm (dL (fun p a b hp ia ib=>Cm (dM _ p a b hp ia ib)) p a b c hp ia ib ic)
 have lv:∀ n,JM (gam Q65 (n+1)):=fun n p C x hp iC ix=>Cm (ZE _ p C x hp iC ix)
 have h:H65 (gam Q65 8) ns:=by
  refine⟨mi 7,fun p hp=>?_,fun p a b c w g hw=>?_,al 6,lv 7,fun p C a b c d e hp iC ia ib ic id ie=>?_,fun p C a b c d e f on hp iC lC h h1 h0=>?_⟩
  ·obtain⟨a,b,c,g,e⟩:=dG hl (mi 6) p hp;exact⟨a,b,c,g,Cm e⟩
  ·obtain⟨C,h1,h2,h3,e⟩:=dO (f3 6) (fun p a b hp ha hb=>Cm (ZA _ p a b hp ha hb)) p a b c w g hw
   exact⟨C,h1,h2,h3,Cm e⟩
  ·have q:=YX (al 5) (lv 6) (ob 6) (lc 6) p C a b c d e hp iC ia ib ic id ie;generalize A4 ((Dz p).filter (frQ p C (Fm a b c d e)))=FR at q ⊢;generalize A4 [a,b,c,d,e]=PP at q ⊢;exact Cm q
  ·have q:=W9 (sx 0) (lc 6) (fmN (f3 6)) (l4 5) (ob 6) p C a b c d e f on hp iC lC h h1 h0;generalize A4 [a,b,c,d,e,f]=PP at q ⊢;exact Cm q
 exact Cm (ZZ h)
end OvC
namespace OvC
open PySem PySem.Spec PyProof.Rows Ov L2
variable{l:Eu}
noncomputable def tp65(i:Ag):Bz:=PySem.Challenge.pw_ovalfield_k65_whole_six_points.main.body.getD i (.Pass ⟨0,0,0,0⟩)
noncomputable def Q1:Ac (Ah×Ag×Ag):=([("rest", 1,2),("turned_over", 9,2),("one_form", 17,2),("crossed", 23,2),("join", 57,3),("meet", 58,3),("measure", 61,4),("first_three", 65,2),("ask_unlike", 194,1),("ask_no_three", 109,2),("curve_of", 122,2),("value", 126,3),("first_four", 195,2),("lines_multiplied", 196,2),("five_curve", 197,2),("curve_through", 198,2),("side_meet", 209,3),("meets_of", 210,2),("six_told", 211,2),("_law_mixed", 38,2),("_law_point", 157,2),("_law_form", 158,2),("_law_table", 176,3),("_law_product", 160,2),("_law_cross", 161,2),("_law_value", 162,3),("_law_curve", 163,3),("_law_all", 164,1),("_law_measure", 165,4),("_law_on", 173,3)]:Ac (Ah×Ag×Ag))++([("_law_free", 218,3),("_law_right", 219,4),("law", 220,1)]:Ac (Ah×Ag×Ag))
noncomputable def RW:Ac Ah:=["all", "any", "enumerate", "isinstance", "len", "list", "max", "min", "range", "sum", "tuple", "zip"]
noncomputable def QW:Ac (Ah×Ag):=[]
noncomputable def Q3:Ac (Ah×Ag):=[]
noncomputable def QY:Ac (Ah×Ag):=[]
noncomputable abbrev C65(h:An)(ps N:Ac Ah)(i d:Ag):An:=Gj 80 h Q1 RW QW Q3 QY ps N (tp65 i) (Q65.defs d)
theorem bB:C65 Ad ["p", "n"] ["p", "n"] 9 1=Ab:=by decide +kernel
theorem bA:C65 Ad ["p", "n"] ["p", "n", "turned"] 10 9=Ab:=by decide +kernel
theorem aZ:C65 Ad ["p", "numbers"] ["p", "numbers", "rests", "first", "factor", "#5", "#6"] 12 17=Ab:=by decide +kernel
theorem aY:C65 Ad ["one", "other"] ["one", "other"] 13 23=Ab:=by decide +kernel
theorem aX:C65 Ad ["p", "one", "other"] ["p", "one", "other"] 15 57=Ab:=by decide +kernel
theorem aW:C65 Ad ["p", "one", "other"] ["p", "one", "other"] 16 58=Ab:=by decide +kernel
theorem aV:C65 Ad ["p", "one", "other", "third"] ["p", "one", "other", "third"] 17 61=Ab:=by decide +kernel
theorem aU:C65 Ad ["p", "points"] ["p", "points", "i", "one", "j", "k"] 18 65=Ab:=by decide +kernel
theorem aT:C65 Ad ["points"] ["points", "place", "point"] 19 194=Ab:=by decide +kernel
theorem aS:C65 Ad ["p", "points"] ["p", "points", "three"] 20 109=Ab:=by decide +kernel
theorem XJ:C65 Ad ["p", "numbers"] ["p", "numbers", "rests", "#3"] 22 122=Ab:=by decide +kernel
theorem XI:C65 Ad ["p", "curve", "point"] ["p", "curve", "point", "squares", "products"] 23 126=Ab:=by decide +kernel
theorem XH:C65 Ad ["p", "points"] ["p", "points", "place", "four"] 25 195=Ab:=by decide +kernel
theorem XG:C65 Ad ["one", "other"] ["one", "other"] 26 196=Ab:=by decide +kernel
theorem XF:C65 Ad ["p", "points"] ["p", "points", "one", "other", "by_one", "by_other", "#6", "#7"] 27 197=Ab:=by decide +kernel
theorem XE:C65 Ad ["p", "points"] ["p", "points", "four"] 28 198=Ab:=by decide +kernel
theorem XD:C65 Ad ["p", "points", "place"] ["p", "points", "place", "one", "other"] 30 209=Ab:=by decide +kernel
theorem XC:C65 Ad ["p", "points"] ["p", "points"] 31 210=Ab:=by decide +kernel
theorem XB:C65 Ad ["p", "points"] ["p", "points", "meets", "curve"] 32 211=Ab:=by decide +kernel
theorem XA:C65 Ad ["_law_script", "_law_k"] ["_law_script", "_law_k", "_law_cell", "_law_step"] 34 38=Ab:=by decide +kernel
theorem Xz:C65 Ad ["_law_p", "_law_number"] ["_law_p", "_law_number", "_law_n"] 35 157=Ab:=by decide +kernel
theorem Xy:C65 Ad ["_law_p", "_law_numbers"] ["_law_p", "_law_numbers", "_law_head", "_law_by", "#4", "#5", "#6"] 36 158=Ab:=by decide +kernel
theorem Xx:C65 Ad ["_law_p", "_law_script", "_law_at"] ["_law_p", "_law_script", "_law_at", "_law_rows", "_law_k", "_law_cell", "_law_i", "_law_j", "_law_times", "#9", "#10", "#11"] 37 176=Ab:=by decide +kernel
theorem Xv:C65 Ad ["_law_one", "_law_other"] ["_law_one", "_law_other", "_law_numbers", "_law_i", "_law_j", "#5"] 38 160=Ab:=by decide +kernel
theorem Xu:C65 Ad ["_law_one", "_law_other"] ["_law_one", "_law_other", "_law_a", "_law_b", "_law_c", "_law_d", "_law_e", "_law_f"] 39 161=Ab:=by decide +kernel
theorem Xs:C65 Ad ["_law_p", "_law_curve_here", "_law_point_here"] ["_law_p", "_law_curve_here", "_law_point_here", "_law_x", "_law_y", "_law_z", "_law_some", "#7", "#8"] 40 162=Ab:=by decide +kernel
theorem Ye:C65 Ad ["_law_p", "_law_rows", "_law_way"] ["_law_p", "_law_rows", "_law_way", "_law_one", "_law_other", "_law_third", "_law_square", "_law_odd", "#8", "#9", "#10", "#11", "#12", "#13"] 41 163=Ab:=by decide +kernel
theorem Yd:C65 Ad ["_law_p"] ["_law_p", "#1"] 42 164=Ab:=by decide +kernel
theorem Yc:C65 Ad ["_law_p", "_law_one", "_law_other", "_law_third"] ["_law_p", "_law_one", "_law_other", "_law_third", "_law_a", "_law_b", "_law_c"] 43 165=Ab:=by decide +kernel
theorem Yb:C65 Ad ["_law_p", "_law_point_here", "_law_line"] ["_law_p", "_law_point_here", "_law_line", "#3", "#4"] 44 173=Ab:=by decide +kernel
theorem X9:C65 Ad ["_law_p", "_law_curve_here", "_law_five"] ["_law_p", "_law_curve_here", "_law_five", "_law_pairs", "_law_k", "_law_j", "_law_free_here", "_law_point_here", "#8"] 45 218=Ab:=by decide +kernel
theorem X8:C65 Ad ["_law_p", "_law_curve_here", "_law_points", "_law_one"] ["_law_p", "_law_curve_here", "_law_points", "_law_one", "_law_found", "_law_lines", "_law_due", "#7", "#8"] 46 219=Ab:=by decide +kernel
theorem Ps:C65 Ad ["_law_script"] ["_law_script", "_law_p", "_law_curve_here", "_law_left", "_law_points", "_law_k", "_law_pick", "_law_one", "_law_free_here", "_law_turn", "_law_orders", "#11", "#12", "#13"] 47 220=Ab:=by decide +kernel
set_option maxHeartbeats 0 in
theorem all65{w:AY}{K:Fg}{h:AK}{mg:Ah->Aq Aj}{fa f0 f1 f2 f3 f4 f5 f6 f7 f8 f9 f10 f11 f12 f13 f14 f15 f16 f17 f18 f19 f20 f21 f22 f23 f24 f25 f26 f27 f28 f29 f30 f31 f32:Ak}(X:K.In h)(G:h.Ns A1 mg)(hfa:mg "law" = Aa (.ref fa))(a0:FnI K f0 "rest" (tp65 9))(a1:FnI K f1 "turned_over" (tp65 10))(a2:FnI K f2 "one_form" (tp65 12))(a3:FnI K f3 "crossed" (tp65 13))(a4:FnI K f4 "join" (tp65 15))(a5:FnI K f5 "meet" (tp65 16))(a6:FnI K f6 "measure" (tp65 17))(a7:FnI K f7 "first_three" (tp65 18))(a8:FnI K f8 "ask_unlike" (tp65 19))(a9:FnI K f9 "ask_no_three" (tp65 20))(a10:FnI K f10 "curve_of" (tp65 22))(a11:FnI K f11 "value" (tp65 23))(a12:FnI K f12 "first_four" (tp65 25))(a13:FnI K f13 "lines_multiplied" (tp65 26))(a14:FnI K f14 "five_curve" (tp65 27))(a15:FnI K f15 "curve_through" (tp65 28))(a16:FnI K f16 "side_meet" (tp65 30))(a17:FnI K f17 "meets_of" (tp65 31))(a18:FnI K f18 "six_told" (tp65 32))(a19:FnI K f19 "_law_mixed" (tp65 34))(a20:FnI K f20 "_law_point" (tp65 35))(a21:FnI K f21 "_law_form" (tp65 36))(a22:FnI K f22 "_law_table" (tp65 37))(a23:FnI K f23 "_law_product" (tp65 38))(a24:FnI K f24 "_law_cross" (tp65 39))(a25:FnI K f25 "_law_value" (tp65 40))(a26:FnI K f26 "_law_curve" (tp65 41))(a27:FnI K f27 "_law_all" (tp65 42))(a28:FnI K f28 "_law_measure" (tp65 43))(a29:FnI K f29 "_law_on" (tp65 44))(a30:FnI K f30 "_law_free" (tp65 45))(a31:FnI K f31 "_law_right" (tp65 46))(a32:FnI K f32 "law" (tp65 47))(z0:BX K A1 "all" = Aa Af)(z1:BX K A1 "any" = Aa Af)(z2:BX K A1 "enumerate" = Aa Af)(z3:BX K A1 "isinstance" = Aa Af)(z4:BX K A1 "len" = Aa Af)(z5:BX K A1 "list" = Aa Af)(z6:BX K A1 "max" = Aa Af)(z7:BX K A1 "min" = Aa Af)(z8:BX K A1 "range" = Aa Af)(z9:BX K A1 "sum" = Aa Af)(z10:BX K A1 "tuple" = Aa Af)(z11:BX K A1 "zip" = Aa Af):
    ∃ fd:B2,(∀(s:Ap)(v:Aj),FS s fd ⟨[v],[]⟩ [("_law_script", v)])/\∀ base:AK,K.In base->base.Ns A1 mg->FnOk l.prog w K mg base (CXR l.prog w) 9 fa fd ["_law_script"] (JN K):=by
  obtain⟨_,F,e⟩:=a32;obtain⟨_,_,_,_,_,_,_,_,_,rfl,_,_⟩:=F.ex;cases hfa.symm.trans (G8 X G e);have T:Tab K mg (fun _=>Af) Q1 RW QW Q3 QY Q65 80:=⟨Wd fun _ _=>rfl,all_cons (BA X G z0) (all_cons (BA X G z1) (all_cons (BA X G z2) (all_cons (BA X G z3) (all_cons (BA X G z4) (all_cons (BA X G z5) (all_cons (BA X G z6) (all_cons (BA X G z7) (all_cons (BA X G z8) (all_cons (BA X G z9) (all_cons (BA X G z10) (all_cons (BA X G z11) (Mr)))))))))))),Mr,all_cons (D8 2 1 X G a0 rfl bB fun _ _ _ _ _ _ _ _=>rfl) (all_cons (D8 2 9 X G a1 rfl bA fun _ _ _ _ _ _ _ _=>rfl) (all_cons (D8 2 17 X G a2 rfl aZ fun _ _ _ _ _ _ _ _=>rfl) (all_cons (D8 2 23 X G a3 rfl aY fun _ _ _ _ _ _ _ _=>rfl) (all_cons (G5 3 57 X G a4 rfl aX fun _ _ _ _ _ _ _ _ _=>rfl) (all_cons (G5 3 58 X G a5 rfl aW fun _ _ _ _ _ _ _ _ _=>rfl) (all_cons (Nk 4 61 X G a6 rfl aV fun _ _ _ _ _ _ _ _ _ _=>rfl) (all_cons (D8 2 65 X G a7 rfl aU fun _ _ _ _ _ _ _ _=>rfl) (all_cons (Nl 1 194 X G a8 rfl aT fun _ _ _ _ _ _ _=>rfl) (all_cons (D8 2 109 X G a9 rfl aS fun _ _ _ _ _ _ _ _=>rfl) (all_cons (D8 2 122 X G a10 rfl XJ fun _ _ _ _ _ _ _ _=>rfl) (all_cons (G5 3 126 X G a11 rfl XI fun _ _ _ _ _ _ _ _ _=>rfl) (all_cons (D8 2 195 X G a12 rfl XH fun _ _ _ _ _ _ _ _=>rfl) (all_cons (D8 2 196 X G a13 rfl XG fun _ _ _ _ _ _ _ _=>rfl) (all_cons (D8 2 197 X G a14 rfl XF fun _ _ _ _ _ _ _ _=>rfl) (all_cons (D8 2 198 X G a15 rfl XE fun _ _ _ _ _ _ _ _=>rfl) (all_cons (G5 3 209 X G a16 rfl XD fun _ _ _ _ _ _ _ _ _=>rfl) (all_cons (D8 2 210 X G a17 rfl XC fun _ _ _ _ _ _ _ _=>rfl) (all_cons (D8 2 211 X G a18 rfl XB fun _ _ _ _ _ _ _ _=>rfl) (all_cons (D8 2 38 X G a19 rfl XA fun _ _ _ _ _ _ _ _=>rfl) (all_cons (D8 2 157 X G a20 rfl Xz fun _ _ _ _ _ _ _ _=>rfl) (all_cons (D8 2 158 X G a21 rfl Xy fun _ _ _ _ _ _ _ _=>rfl) (all_cons (G5 3 176 X G a22 rfl Xx fun _ _ _ _ _ _ _ _ _=>rfl) (all_cons (D8 2 160 X G a23 rfl Xv fun _ _ _ _ _ _ _ _=>rfl) (all_cons (D8 2 161 X G a24 rfl Xu fun _ _ _ _ _ _ _ _=>rfl) (all_cons (G5 3 162 X G a25 rfl Xs fun _ _ _ _ _ _ _ _ _=>rfl) (all_cons (G5 3 163 X G a26 rfl Ye fun _ _ _ _ _ _ _ _ _=>rfl) (all_cons (Nl 1 164 X G a27 rfl Yd fun _ _ _ _ _ _ _=>rfl) (all_cons (Nk 4 165 X G a28 rfl Yc fun _ _ _ _ _ _ _ _ _ _=>rfl) (all_cons (G5 3 173 X G a29 rfl Yb fun _ _ _ _ _ _ _ _ _=>rfl) (all_cons (G5 3 218 X G a30 rfl X9 fun _ _ _ _ _ _ _ _ _=>rfl) (all_cons (Nk 4 219 X G a31 rfl X8 fun _ _ _ _ _ _ _ _ _ _=>rfl) (all_cons (Nl 1 220 X G ⟨_,F,e⟩ rfl Ps fun _ _ _ _ _ _ _=>rfl) (Mr)))))))))))))))))))))))))))))))))⟩
  exact⟨_,fun s v=>.of_eq rfl,fun base _ _=>W2 (Qv T (ME T 8) F rfl Ps) gE⟩
theorem walk65{q:AS}{loose:Ac Ah}{XP:(Ah->Aq Aj)->AK->Prop}{YP:AY->AK->Prop}{d:DefRec}{K:Jc->Fg}(hn:l.most=Aa 63)(hdf:d.params.defaults=[])(hY:∀(w:AY)(h:AK),YP w h->(K w.params).In h)(F:∀(w:AY)(mg:Ah->Aq Aj)(fa:Ak)(h:AK),(K w.params).In h->h.Ns A1 mg->mg d.name=Aa (.ref fa) ->
   ∃ fd:B2,(∀(s:Ap)(u:Aj),FS s fd ⟨[u],[]⟩ [("_law_script", u)])/\∀ base:AK,(K w.params).In base->base.Ns A1 mg->FnOk l.prog w (K w.params) mg base (CXR l.prog w) 9 fa fd ["_law_script"] (JN (K w.params))):TN q loose XP YP l.row.toRowW d [] (fun f vs=>HZ f vs):=
 L2.walk_of (n:=63) (k:=9) (x := "_law_script") (CX:=fun w=>CXR l.prog w) (sp:=fun w=>JN (K w.params)) hn (by decide) hdf ⟨rfl,by decide,by decide⟩ hY F (fun _ H a ns hl _ hS=>⟨a,ns,rfl,hl,hS,fun _ _ z=>z⟩) fun _ _ _ _ _ z=>ZI z
end OvC
open PySem PySem.W PyProof.Rows
noncomputable def OvC.view65:PySem.Program:={ PySem.Challenge.pw_ovalfield_k65_whole_six_points with main:={PySem.Challenge.pw_ovalfield_k65_whole_six_points.main with body:=[OvC.tp65 1,OvC.tp65 2,OvC.tp65 3,OvC.tp65 4,OvC.tp65 5,OvC.tp65 6,OvC.tp65 7,OvC.tp65 9,OvC.tp65 10,OvC.tp65 12,OvC.tp65 13,OvC.tp65 15,OvC.tp65 16,OvC.tp65 17,OvC.tp65 18,OvC.tp65 19,OvC.tp65 20,OvC.tp65 22,OvC.tp65 23,OvC.tp65 25,OvC.tp65 26,OvC.tp65 27,OvC.tp65 28,OvC.tp65 30,OvC.tp65 31,OvC.tp65 32,OvC.tp65 34,OvC.tp65 35,OvC.tp65 36,OvC.tp65 37,OvC.tp65 38,OvC.tp65 39,OvC.tp65 40,OvC.tp65 41,OvC.tp65 42,OvC.tp65 43,OvC.tp65 44,OvC.tp65 45,OvC.tp65 46,OvC.tp65 47]} }
set_option hygiene false
local macro_rules | `(tactic| o_head $H)=>`(tactic| refine holds_open (q:=OvC.view65) (loose:=[]) (Xt:=fun s=>xlAt OvC.view65 [] s&&recOk (RowW.records (OpenRow.toRowW (PySem.Challenge.rw_ovalfield_k65_whole_six_points.row))) s) (XP:=XL OvC.view65 []) (Yf:=Hook.obs $H) (Ya:=Hook.val $H) (YP:=Hook.says $H) (N:=5274) ?hl (Hook.of $H) (Hook.keeps $H) (fun s e=>xl_of s (Bool.and_eq_true_iff.mp e).1) XL.keeps (by rfl) (by rfl) (by rfl) (fun s e=>recFacts_of (Bool.and_eq_true_iff.mp e).2) (by rfl) (by first|assumption|decide +kernel) (by decide +kernel) ⟨rfl,rfl,rfl,rfl,rfl,by decide +kernel⟩ ?hw ?hc)
set_option maxRecDepth 100000 in
set_option maxHeartbeats 0 in
theorem PySem.Challenge.cw_ovalfield_k65_whole_six_points_holds : PySem.Challenge.rw_ovalfield_k65_whole_six_points.Holds := by
 w_on;refine holds_law (by decide +kernel) fun said=>?_;k_head
 (case hl=>intro w;unfold openEnds fencedOpening topFrom;rw[PySem.W.Fast.te10274390034422433532,PySem.W.Fast.te14364793385576792824,PySem.W.Fast.te1435165496053646825,PySem.W.Fast.te14289696077712309145,PySem.W.Fast.te14082659384304107361,PySem.W.Fast.te4187177175401517315];kernel_rfl)
 (case hw=>w_witness2)
 k_fill
 refine OvC.walk65 (l:=PySem.Challenge.rw_ovalfield_k65_whole_six_points) rfl rfl (fun w h Y=>TU Y) ?F
 case F=>
  intro w mg fa h KX G hmg
  refine' OvC.all65 KX G hmg ?a0 ?a1 ?a2 ?a3 ?a4 ?a5 ?a6 ?a7 ?a8 ?a9 ?a10 ?a11 ?a12 ?a13 ?a14 ?a15 ?a16 ?a17 ?a18 ?a19 ?a20 ?a21 ?a22 ?a23 ?a24 ?a25 ?a26 ?a27 ?a28 ?a29 ?a30 ?a31 ?a32 ?z0 ?z1 ?z2 ?z3 ?z4 ?z5 ?z6 ?z7 ?z8 ?z9 ?z10 ?z11
  case a0|a1|a2|a3|a4|a5|a6|a7|a8|a9|a10|a11|a12|a13|a14|a15|a16|a17|a18|a19|a20|a21|a22|a23|a24|a25|a26|a27|a28|a29|a30|a31|a32=>(refine' Ov.fni ?a ?l ?c ?k;(case a=>k_is);(case l=>k_is);(case c=>k_is);(case k=>k_is))
  (case z0=>k_is)
  (case z1=>k_is)
  (case z2=>k_is)
  (case z3=>k_is)
  (case z4=>k_is)
  (case z5=>k_is)
  (case z6=>k_is)
  (case z7=>k_is)
  (case z8=>k_is)
  (case z9=>k_is)
  (case z10=>k_is)
  (case z11=>k_is)
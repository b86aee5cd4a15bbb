import PyProof.Rows.All
import Wide.All
import OpenK.AllK
import Wide.FinOn
import PyProof.EqAt
import KE.KSortTup
import PyProof.EqKinds
import PyProof.TupleCall
import Lean
import PySem.Challenge.RW_ovalfield_k62_whole_any_five_points
set_option Elab.async false
set_option linter.all false
set_option maxRecDepth 100000
set_option maxHeartbeats 4000000
open Option renaming some→Aa,none→Ae,bind_eq_some_iff→AJ,isSome_iff_exists→DR,map_some→ET,map→Ff,bind_some→UJ,getD_none→UK
open Bool renaming true→Ab,false→Ac,and_eq_true→Ak,false_ne_true→At,not_eq_true'→Bo,or_eq_true→Cd,eq_iff_iff→CS,or_true→GS,and_false→HB,and_true→T5,false_eq_true→T6,or_false→T7
open _root_ renaming List→Ad,Int→Af,Nat→Ag,Option→An,Bool→Ao,if_pos→Aw,if_neg→AA,decide_eq_true_eq→AG,False→AU,beq_iff_eq→AW,Array→Bk,decide_eq_false→BK,or_false→Cm,Decidable→De,beq_eq_false_iff_ne→Dm,String→Dv,not_or→Dz,of_decide_eq_true→Ec,if_true→Ep,decide_eq_true→Fk,Unit→FM,bne_iff_ne→GN,beq_self_eq_true→Hi,True→Hu,if_false→Ij,ne_eq→Ky,decide_eq_decide→nE,decide_eq_false_iff_not→nF
open PySem renaming Str→Ah,Value→Ai,Addr→Aj,wpAny_bind→Am,Expr→Ap,Shared→As,wpAny→Ay,starEach→Az,World→AC,Heap→AD,wpAny_pure→AK,mainGlobals→AM,Pos→AN,Program→AS,Around→AZ,Stmt→A9,wpAny_mono→Be,wpAny_field→BO,FuncData→BP,wpAny_loadPart_at→BY,cLine→BZ,binaryOp→B0,assignEach→B2,Env→B5,excClassObj→B6,backTo→B8,Scope→B9,wpAny_holding→Ca,compareOp→Ct,wpAny_truthy_bool→Cu,mem_of_lookup→Cv,cellsFrom→CF,Tok→CN,foldedSetIterable→CO,wpAny_newObj_type→CP,Obj→CW,bootBuiltins→CY,swapsWith→Dh,wpAny_callSpecial?_slot→Dl,wpAny_seqItems→Dp,sizeLine_eq→Ds,wpAny_setField_rec→Du,wpAny_standAt→DE,wpAny_pyIter_list→DG,codeAny_call_builtin→DI,OwnTail→DN,NameKind→DT,rawInt→DU,CmpOp→D4,wpAny_Call_Name_kw→D5,IsPair→Ej,wpAny_call_entry→Et,ExceptHandler→ED,wpAny_newFunctionEnv_cells→EG,sliceBounds→EJ,wpAny_isSubtype_exc→EK,wpAny_execs_nil→EX,wpAny_passesOwn→EY,GenState→E3,PassesOwn→E4,codeAny_mono→E5,wpAny_pyIter_tuple→E6,codeAny→Fi,wpAny_setField→Fj,swappedStores→FH,wpAny_onRaise→FI,checkBuiltinCall→FL,BindsTo→FT,codeAny_call_function→FU,IsZip→F3,letOwnedTupleGo→F5,wpAny_call→F6,wpAny_updateSeq_pair→F7,recursionLimit→Gg,Model→Gp,noteFrame→Gv,pushCells→Gw,behindInMarks→Gx,swapsWithSole→Gy,OsState→GO,callerA→GP,ExcBaseFacts→GX,IsPart→GY,Operator→GZ,Paired→G0,wpAny_execs_cons→G1,Drawn→Hn,pushCells_keeps→Hq,setFlight→Hr,isTrue→HI,newFunctionEnv→HJ,notedBy→HK,pyNext→HL,bindC→HM,bindL→HN,builtinsNs→HP,isInstance→HQ,numAt→HR,Result→Ir,callSpecial?→Ix,codeAny_func→Iy,concat_meets→Iz,lastMarks→IA,onTheHeap→IB,preSum→IC,seqIndex_neg→ID,getItem→IS,standAt→IT,seqIndex_of→IW,wpAny_letGo→IX,wpAny_of_eq→IY,bindArgs→IZ,handleBy→Ja,PyData→JA,StoreFacts→JC,call→JG,sysModules→JH,wpAny_Name→JI,wpAny_rule→JJ,Arguments→Ku,IntMulOk→KA,Params→KB,intItems→KC,pyIter→KD,call_sum_walkG→Vw,firstArgMember→Vx,noFill_tuple_add→Vy,refuseLoop_ref→Vz,slot_list_getitem→VA,wpAny_Try_except→VB,wpAny_assign_Name→VC,wpAny_comprehension_free→VD,wpAny_pyIter_enum→VE,wpAny_pyIter_zip→VF,wpAny_pyNext_list_end→VG,wpAny_pyNext_list_item→VH
open PySem.W renaming subIn→Al,findIn→Av,nsIn→AX,mg_of→Ba,mroIn→Bh,mg_none_of→Bv,typeIn→Bw,keepIn→B1,looks_findIn→Cj,fnOf→CD,fencedOpening→CJ,kitOne→C8,clsIn→Dg,openEnds→D7,specialIn→Eb,codeIn→El,excIn→EF,topFrom→EI,findCls→EV,readsIn→EW,OpenLaw→Fx,cellsFrom_some→FA,callWith_K→Gs,codeRec_of→Gu,methodObj→GL,kitAny→HG,WalkO→Vn,isNs_of_in→Vo,kIn_of→Vp,kitMeta→Vr,looks_subIn→Vs,nsOkIn→Vt,tail_of_in→Vu
open PySem.Heap renaming get?_push_of_some→Au,lt_size→AH,get?_push_size→AO,size_push→Cc,get?_update_other→Cq,get?_update_self→CB,get?_none_of_le→Dc,SameBut→Ei,ExtBut→Ht,MadeExcOf→HF,get?_push_at→U8,get?_push_cases→U9,get?_update_ne→Va
open List renaming mem_cons_of_mem→Ax,mem_cons→AB,mem_cons_self→AI,size_toArray→AQ,length_set→A2,getElem?_eq_some_iff→A7,not_mem_nil→Bi,mem_append_right→Bq,length_cons→Br,range→Bz,mem_range→BB,mem_singleton→BF,mem_filter→BV,lookup_cons→B4,getElem?_eq_getElem→Cb,append_nil→Ce,length_map→Cf,isEmpty_eq_false_iff→Cz,mem_map→CC,map_cons→CI,nodup_cons→CT,getElem?_set_self→CV,findSome?_eq_none_iff→CZ,all_eq_true→Do,length_append→Dt,getD_eq_getElem?_getD→DB,exists_of_findSome?_eq_some→DP,getElem_mem→DQ,any_eq_true→Er,drop_eq_getElem_cons→ER,getElem?_append_left→ES,toArray→E1,getElem?_set_self'→Fl,getElem?_map→Fm,lookup→Fv,all_cons→FC,any_cons→FD,filter_cons→FJ,getElem?_set_ne→FV,mem_append_left→FW,of_mem_zip→FX,filterMap_cons→Gb,findSome?_cons→Gc,getElem_of_mem→Gd,forIn_nil→Ge,replicate→Gf,contains_cons→Gq,filter_congr→GJ,getElem?_set→GK,length_take→GV,forIn_cons→Hj,mem_append→Hk,nil_append→Hl,nodup_nil→HC,map_map→Io,all_map→Uf,any_map→Ug,contains_eq_mem→Ui,drop_eq_nil_of_le→Uj,ext_getElem?→Uk,getElem?_append_right→Ul,getElem?_cons_succ→Um,getElem?_cons_zero→Uo,getElem?_replicate→Up,isEmpty_iff→Uq,length→Ur,length_drop→Us,length_pos_of_mem→Ut,length_replicate→Uu,map_congr_left→Uv,map_nil→Uw,map_set→Ux,mem_of_getElem?→Uy,mem_or_eq_of_mem_set→Uz,range_succ_eq_map→UA,reverse_cons→UB,set_set→UC,take_append_drop→UD,zipIdx_cons→UE,zipIdx_nil→UF
open Nat renaming lt_of_lt_of_le→AR,le_refl→AY,ne_of_lt→Bb,lt_irrefl→Bu,le_trans→Co,ble→C5,lt_succ_of_lt→Dd,le_of_ble_eq_true→Ef,ne_of_gt→Eg,lt_of_le_of_lt→E2,zero_le→Fw,lt_succ_self→FK,le_of_lt→FY,pow_le_pow_right→FZ,mod_eq_of_lt→GW,not_lt_zero→Hm,le_succ→UG,min_self→UH,not_lt→UI
open PySem.Str renaming ofString→AV,empty→Iw
open Int renaming emod_eq_of_lt→A1,emod_nonneg→Bl,emod_lt_of_pos→Bm,emod_emod_of_dvd→Bt,zero_emod→BE,mul_emod→BH,mul_comm→BW,dvd_refl→Cn,one_mul→Db,zero_add→DO,mul_zero→Ee,mul_one→EH,zero_mul→EZ,mul_assoc→FB,toNat_natCast→GI,sub_zero→GU,mul_pos→Hs,le_trans→Im,le_refl→IU,add_emod→Ua,ediv_nonneg→Ub,mul_nonneg→Uc,sub_emod→Ud,zero_sub→Ue
open PySem.W.Fast renaming te10274390034422433532→A3,te14082659384304107361→A4,te14289696077712309145→A5,te14364793385576792824→A6,te1435165496053646825→A8
open False renaming elim→Bc
open Option.some renaming inj→Bs,injEq→Cr
open PySem.Builtin.SmallTypes renaming nextOf→BJ,ownedTupleIsFree→CM,ownedTupleHandOut→UT
open PySem.NameKind renaming cell→BQ,free→DD
open PySem.Value renaming ref→Ci,builtin→C3,none→Dr,bool→JD,type→JE,int→Kw,str→Kx,bytes→Vj,float→Vk
open Ne renaming symm→CK
open PyProof.Rows renaming callWith_type1→CU,envOfC→Eh,AllBare→Fh,boot_isinstance→F0,IntsAre→HE,IsTup→Jz,boot_list→UL,boot_tuple→UM,slicePart_none→UN,slot_tuple_getitem→UO,subscriptTail_builtinR→UP
open PySem.Obj renaming data_mapFields→C7,isFreed_of_fields→Ek,mapFields→FE,mapSeq→GM,cls_mapFields→Vb
open PySem.PyData renaming shownAll→DA,depthAll→Ho,hasDictAll→Vf,showableAll→Vg
open PySem.F renaming slot_tuple_iterator_next→DC,excBase_ValueError→EE,attr_ValueError→Fn,slot_zip_next→F2,args_tuple_add_2→UX,args_tuple_iterator_next_1→UY,args_zip_next_1→UZ,entry_bexc_ga→U0,entry_tuple_add→U1,entry_tuple_iterator_next→U2,entry_zip_next→U3,slot_tuple_add→U4,typeOf_object_class→U5
open PySem.Builtin.Slice renaming slicePlaces→DH,sliceAdjust→EU,sliceApplied→US
open PySem.Builtin.Tuple renaming tupleExact→DS
open ForInStep renaming yield→D3
open Prod renaming ext→D6
open Classical renaming choose_spec→Ed,byContradiction→T8,choose→T9
open PySem.Calls renaming evalArgs_plain→F1,Name_function_global→UU
open PySem.SeqAt renaming EqAt→F4,RcNeAt→Iu,RcAt→JB
open Array renaming length_toList→Ga,toList→Il,getElem?_eq_getElem→T4
open PySem.Code renaming quiet_builtin→Gr,isFrame→Iq,frames→UV
open Function renaming comp_def→GH
open Sum renaming inl→GQ,inr→GR
open PySem.Value.ref renaming inj→Ik
open PySem.Around renaming under→Ip
open PySem.Shared renaming heap→IV
open PySem.Walks renaming list→JF,tuple→Vv
open NeZero renaming ne→Ks
open PyProof.Rows.IsTup renaming new→Kt
open PySem.Data renaming cell→Kv,seq→Kz
open List.cons renaming injEq→Uh
open PySem.Builtin.Int renaming intBits→UQ
open PySem.Builtin.ObjectAttr renaming storeInDict→UR
open PySem.EntryCells renaming newEntry→UW
open PySem.Heap.SameBut renaming refl→U6,update→U7
open PySem.Paired renaming length→Vc
open PySem.PassesOwn renaming leaving→Vd,looking→Ve
open PySem.SeqAt.EqAt renaming of_refs→Vh,same→Vi
open PySem.W.WData renaming int→Vl
open PySem.W.WShape renaming has→Vm
abbrev Fg:=PySem.W.Frag
abbrev Pn:=Ad (PySem.Addr×PySem.Obj)
abbrev Vq:=PySem.Value->PySem.Shared->Prop
set_option genSizeOfSpec false
-- CHANGE: your row's module here,as the last of these rows
namespace L2
open PySem PySem.Spec PyProof.Rows
abbrev Key:=Sum Af Ah
noncomputable def Sv:Key->Ai->Ao
 |.inl k,v=>Value.isInt k v
 |.inr x,v=>Value.isStrOf x v
noncomputable def mK(w:AC):Key->Af
 |.inl k=>hashInt k
 |.inr x=>hashStr w x
theorem HS:∀{k:Key}{v:Ai},Sv k v=Ab->(∃ i t,k=GQ i/\v=Kw i t)\/(∃ x t,k=GR x/\v=Kx x t)
 |.inl i,v,h=>by
  obtain⟨t,e⟩:=Value.isInt_shape (k:=i) (v:=v) h;exact .inl ⟨i,t,rfl,e⟩
 |.inr x,v,h=>by
  obtain⟨t,e⟩:=Value.isStrOf_shape (x:=x) (v:=v) h;exact .inr ⟨x,t,rfl,e⟩
theorem bY(a b:Af):decide ((GQ a:Key)=GQ b)=(a==b):=by
 by_cases e:a=b
 ·subst e;simp
 ·have h:¬ (GQ a:Key)=GQ b:=fun q=>e (Sum.inl.inj q)
  rw[BK h];exact(Dm.mpr e).symm
theorem bV(a b:Ah):decide ((GR a:Key)=GR b)=decide (a=b):=by
 by_cases e:a=b
 ·subst e;simp
 ·have h:¬ (GR a:Key)=GR b:=fun q=>e (Sum.inr.inj q)
  rw[BK h,BK e]
theorem bX(a:Af)(b:Ah):decide ((GQ a:Key)=GR b)=Ac:=BK (fun q=>nomatch q)
theorem bW(a:Ah)(b:Af):decide ((GR a:Key)=GQ b)=Ac:=BK (fun q=>nomatch q)
noncomputable def NB(prog:AS)(w:AC):PySem.KeyKind prog w Key where
 is:=Sv
 hash:=mK w
 inj:=fun v a b ha hb=>by
  rcases HS ha with ⟨i,t,rfl,rfl⟩|⟨x,t,rfl,rfl⟩
  ·rcases HS hb with ⟨j,u,rfl,e⟩|⟨y,u,rfl,e⟩
   ·injection e with e1 _;rw[e1]
   ·exact nomatch e
  ·rcases HS hb with ⟨j,u,rfl,e⟩|⟨y,u,rfl,e⟩
   ·exact nomatch e
   ·injection e with e1 _;rw[e1]
 byValue:=fun k v h=>by
  rcases HS h with ⟨i,t,rfl,rfl⟩|⟨x,t,rfl,rfl⟩<;>rfl
 pyHash:=fun hv h=>by
  rcases HS hv with ⟨i,t,rfl,rfl⟩|⟨x,t,rfl,rfl⟩
  ·exact wpAny_pyHash_int h
  ·exact wpAny_pyHash_str h
 eqBool:=fun hu hv h=>by
  rcases HS hu with ⟨i,t,rfl,rfl⟩|⟨x,t,rfl,rfl⟩
  ·rcases HS hv with ⟨j,u,rfl,rfl⟩|⟨y,u,rfl,rfl⟩
   ·rw[bY]at h;exact wpAny_eqBool_int h
   ·rw[bX]at h;exact SeqAt.EqAt.int_str i t y u _ _ _ _ h
  ·rcases HS hv with ⟨j,u,rfl,rfl⟩|⟨y,u,rfl,rfl⟩
   ·rw[bW]at h;exact SeqAt.EqAt.str_int x t j u _ _ _ _ h
   ·rw[bV]at h;exact wpAny_eqBool_str h
 «strs»:=fun k x t v h=>by
  rcases HS h with ⟨i,u,rfl,e⟩|⟨y,u,rfl,e⟩
  ·exact nomatch e
  ·injection e with e1 _
   subst e1;cases v<;>rfl
end L2
namespace L2
open PySem PySem.Spec PyProof.Rows
variable{us:Ad Ai}{a b it:Aj}{P:AS}{h:AD}{o:CW}{g':Bk E3}{t' i k n:Ag}{d':Hn}{ch fp:Ad Aj}{x qual:Ah}{M:Gp}{u:Ai}{Q:FM->As->Prop}{e tg:Ap}{s:As}{pos p:AN}{pI:Pn}{es:Ad Ap}{body:Ad A9}{f:Ai->Ai->Sem Ai}{g:Af->Af->Af}{op:D4}{kw:Ad (Ah×Ai)}{fd:BP}{ps:Ad Ah}{scope:B9}
inductive V where
 |non|bl (b:Ao)|int (i:Af)|str (x:Ah)|byt (b:Bk UInt8)|flt (b:UInt64)|ref (a:Aj)|ty (n:Dv)
 deriving DecidableEq
variable{xs vs:Ad V}{v:V}
def BD:V->Ai->Prop
 |.non,u=>u=Dr
 |.bl b,u=>u=JD b
 |.int i,u=>∃ t,u=Kw i t
 |.str x,u=>∃ t,u=Kx x t
 |.byt b,u=>∃ t,u=Vj b t
 |.flt b,u=>∃ t,u=Vk b t
 |.ref a,u=>u=Ci a
 |.ty n,u=>u=JE n
noncomputable abbrev Bf:Ad V->Ad Ai->Prop:=G0 BD
theorem Bf.length(r:Bf xs us):xs.length=us.length:=Vc r
theorem Bf.get:∀{xs:Ad V}{us:Ad Ai}{i:Ag}{x:V},Bf xs us->xs[i]?=Aa x->∃ u,us[i]?=Aa u/\BD x u
 |_,_,_,_,.nil,e=>by simp at e
 |_,_,0,_,.cons r _,e=>by simp at e;subst e;exact⟨_,rfl,r⟩
 |_,_,i+1,x,.cons _ t,e=>by
  obtain⟨u,h1,h2⟩:=Bf.get (i:=i) (x:=x) t (by simpa using e)
  exact⟨u,by simpa using h1,h2⟩
theorem Bf.set{x:V}{u:Ai}(r:BD x u):∀{xs:Ad V}{us:Ad Ai}(i:Ag),Bf xs us->Bf (xs.set i x) (us.set i u)
 |_,_,_,.nil=>.nil
 |_,_,0,.cons _ t=>.cons r t
 |_,_,i+1,.cons q t=>.cons q (Bf.set r i t)
theorem Bf.append:∀{xs ys:Ad V}{us ws:Ad Ai},Bf xs us->Bf ys ws->Bf (xs++ys) (us++ws)
 |_,_,_,_,.nil,s=>s
 |_,_,_,_,.cons r t,s=>.cons r (Bf.append t s)
theorem Bf.take:∀{xs:Ad V}{us:Ad Ai}(n:Ag),Bf xs us->Bf (xs.take n) (us.take n)
 |_,_,0,_=>.nil
 |_,_,_+1,.nil=>.nil
 |_,_,n+1,.cons r t=>.cons r (Bf.take n t)
theorem Bf.drop:∀{xs:Ad V}{us:Ad Ai}(n:Ag),Bf xs us->Bf (xs.drop n) (us.drop n)
 |_,_,0,r=>r
 |_,_,_+1,.nil=>.nil
 |_,_,n+1,.cons _ t=>Bf.drop n t
def Lr:An V->An Ai->Prop
 |some v,Aa u=>BD v u
 |none,Ae=>Hu
 |_,_=>AU
def KV{κ:Type}:Ad (κ×V)->Ad (κ×Ai)->Prop:=G0 fun(p:κ×V)(q:κ×Ai)=>p.1=q.1/\BD p.2 q.2
noncomputable def kV:Key->V
 |.inl i=>.int i
 |.inr x=>.str x
inductive HO where
 /-- a list -/
 |lst (xs:Ad V)
 /-- a tuple (never changes) -/
 |tup (xs:Ad V)
 /-- a dict whose keys are ints and texts;one whose keys are tuples of ints and texts (the empty one is both) -/
 |dK (kvs:Ad (Key×V))|dT (kvs:Ad (Ad Key×V))
 /-- a set of ints: its members,its size -/
 |set (S:Af->Ao) (n:Ag)
 /-- an instance of the class at C,its dict at dx,its attributes -/
 |ins (C dx:Aj) (fs:Ad (Ah×V))
 /-- the dict of the instance at x -/
 |own (x:Aj)
 /-- the dict of an exception -/
 |xd (fs:Ad (Ah×V))
 /-- a bound method,f of x -/
 |met (f x:Aj)
 /-- a range object lo,lo+1,.. below hi -/
 |rng (lo hi:Af)
 /-- a thing that is known to the object (the script;a dict while a loop walks it): read,never written while it is so -/
 |frz (o:CW) (u:HO)
 /-- a code object's table -/
 |tbl (ps:Bk Ai)
 /-- any other thing,by what is Ab of its one object (a def of one's own: SetO a S n:=HO.ext fun h=>..) -/
 |ext (φ:AD->Prop)
abbrev Hp:=Aj->An HO
variable{H:Hp}
noncomputable def upd(H:Hp)(a:Aj)(o:HO):Hp:=fun b=>if b=a then Aa o else H b
theorem E8{o:HO}:upd H a o a=Aa o:=by unfold upd;rw[Aw rfl]
theorem By{o:HO}(h:b≠a):upd H a o b=H b:=by unfold upd;rw[AA h]
theorem QW{o u:HO}:upd (upd H a o) a u=upd H a u:=by
 funext b;unfold upd;split<;>rfl
theorem Fp{o:HO}(h:H a=Aa o)(h':H b=Ae):a≠b:=by
 intro e;subst e;rw[h]at h';cases h'
section
variable(P:AS)(w:AC)
def ObjOk(H:Hp)(h:AD)(a:Aj):HO->Prop
  |.lst xs=>xs.length<=sizeLine/\∃(its:Ad Ai)(n:Ag),Bf xs its/\h.get? a=Aa { cls:=.type "list", data:=.seq its.toArray n }
  |.tup xs=>xs.length<=sizeLine/\∃ its:Ad Ai,Bf xs its/\Jz h a its.toArray
  |.dK kvs=>kvs.length<=sizeLine/\(a==JH)=Ac/\∃ vs,KV kvs vs/\h.DictOf (NB P w) a vs
  |.dT kvs=>kvs.length<=sizeLine/\(a==JH)=Ac/\∃ xs:Ad (Ad Key×Aj×Ai),
      G0 (fun(p:Ad Key×V)(q:Ad Key×Aj×Ai)=>p.1=q.1/\H q.2.1=Aa (.tup (p.1.map kV))/\BD p.2 q.2.2) kvs xs /\
      ∃ o es ep,h.get? a=Aa o/\o.ExactDict/\o.data=.dict es ep/\es.toList=xs.map (entryOfKey (tupleKind (NB P w)))/\(xs.map (·.1)).Nodup
  |.set S n=>h.SetOf (intKind P w) a S n
  |.ins C dx fs=>H dx=Aa (.own a)/\fs.length<=1000/\dx≠a/\h.get? a=Aa (PySem.W.instObj C dx) /\
      ∃ mA,h.Ns1 dx mA/\(∀ f,Lr (fs.lookup f) (mA f))/\PySem.Within mA (fs.map (·.1))
  |.own _=>∃ o,h.get? a=Aa o
  |.xd fs=>∃ mA,h.Ns1 a mA/\∀ f,Lr (fs.lookup f) (mA f)
  |.rng lo hi=>∃ t u v,h.get? a=Aa { cls:=.type "range", data:=.fields #[.int lo t,.int hi u,.int 1 v] }
  |.frz o u=>h.get? a=Aa o/\ObjOk H h a u
  |.tbl ps=>h.get? a=Aa {cls:=.none,data:=.fields ps}
  |.met f x=>h.get? a=Aa (GL (.ref f) (.ref x))
  |.ext φ=>φ h/\(∃ o,h.get? a=Aa o)/\∀ h1 h2:AD,φ h1->(∀ o,h1.get? a=Aa o->h2.get? a=Aa o)->φ h2
def HOk(H:Hp)(h:AD):Prop:=∀ a o,H a=Aa o->ObjOk P w H h a o
end
section
variable{P:AS}{w:AC}{H H':Hp}{h h':AD}{a:Aj}{o:HO}
theorem ObjOk.lt(x:ObjOk P w H h a o):a<h.objs.size:=by
 cases o with
 |lst xs=>obtain⟨_,_,_,_,e⟩:=x;exact AH e
 |tup xs=>obtain⟨_,_,_,p⟩:=x;exact p.lt
 |dK kvs=>obtain⟨_,_,_,_,o,_,_,e,_⟩:=x;exact AH e
 |dT kvs=>obtain⟨_,_,_,_,o,_,_,e,_⟩:=x;exact AH e
 |set S n=>obtain⟨o,_,_,_,e,_⟩:=x;exact AH e
 |ins C dx fs=>obtain⟨_,_,_,e,_⟩:=x;exact AH e
 |own y=>obtain⟨_,e⟩:=x;exact AH e
 |xd fs=>obtain⟨_,⟨_,_,_,e,_⟩,_⟩:=x;exact AH e
 |rng lo hi=>obtain⟨_,_,_,e⟩:=x;exact AH e
 |frz ob u=>obtain⟨e,_⟩:=x;exact AH e
 |tbl ps=>exact AH (show h.get? a=Aa _ from x)
 |met f y=>exact AH (show h.get? a=Aa _ from x)
 |ext φ=>obtain⟨_,⟨_,e⟩,_⟩:=x;exact AH e
theorem G0.mapP{α β:Type}{F G:α->β->Prop}:∀{l₁:Ad α}{l₂:Ad β},G0 F l₁ l₂->(∀ a b,F a b->G a b)->G0 G l₁ l₂
 |_,_,.nil,_=>.nil
 |_,_,.cons r t,f=>.cons (f _ _ r) (G0.mapP t f)
theorem ObjOk.stay(x:ObjOk P w H h a o)(k:∀ b u,(b=a\/H b=Aa (.own a))->h.get? b=Aa u->h'.get? b=Aa u)(ho:∀ b,H b=Aa (.own a)->H' b=Aa (.own a))(ht:∀ b xs,H b=Aa (.tup xs)->H' b=Aa (.tup xs)):ObjOk P w H' h' a o:=by
 induction o with
 |lst xs=>obtain⟨z,its,n,r,e⟩:=x;exact⟨z,its,n,r,k _ _ (.inl rfl) e⟩
 |tup xs=>obtain⟨z,its,r,ob,e,c⟩:=x;exact⟨z,its,r,ob,k _ _ (.inl rfl) e,c⟩
 |dK kvs=>obtain⟨z,y,vs,r,ob,es,ep,e,c⟩:=x;exact⟨z,y,vs,r,ob,es,ep,k _ _ (.inl rfl) e,c⟩
 |dT kvs=>
  obtain⟨z,y,xs,r,ob,es,ep,e,c⟩:=x;exact⟨z,y,xs,G0.mapP r fun p q z=>⟨z.1,ht _ _ z.2.1,z.2.2⟩,ob,es,ep,k _ _ (.inl rfl) e,c⟩
 |set S n=>obtain⟨ob,es,ep,t,e,c⟩:=x;exact⟨ob,es,ep,t,k _ _ (.inl rfl) e,c⟩
 |ins C dx fs=>
  obtain⟨d,z,ne,e,mA,⟨od,es,ep,e2,c⟩,r⟩:=x;exact⟨ho _ d,z,ne,k _ _ (.inl rfl) e,mA,⟨od,es,ep,k _ _ (.inr d) e2,c⟩,r⟩
 |own y=>obtain⟨ob,e⟩:=x;exact⟨ob,k _ _ (.inl rfl) e⟩
 |xd fs=>obtain⟨mA,⟨od,es,ep,e,c⟩,r⟩:=x;exact⟨mA,⟨od,es,ep,k _ _ (.inl rfl) e,c⟩,r⟩
 |rng lo hi=>obtain⟨t,u,v,e⟩:=x;exact⟨t,u,v,k _ _ (.inl rfl) e⟩
 |frz ob u ih=>obtain⟨e,q⟩:=x;exact⟨k _ _ (.inl rfl) e,ih q⟩
 |tbl ps=>
  have e:h.get? a=Aa {cls:=.none,data:=.fields ps}:=x;show h'.get? a=Aa {cls:=.none,data:=.fields ps};exact k a _ (.inl rfl) e
 |met f y=>
  have e:h.get? a=Aa (GL (.ref f) (.ref y)):=x;show h'.get? a=Aa (GL (.ref f) (.ref y));exact k a _ (.inl rfl) e
 |ext φ=>obtain⟨p,⟨o,e⟩,st⟩:=x;exact⟨st _ _ p fun o q=>k _ _ (.inl rfl) q,⟨o,k _ _ (.inl rfl) e⟩,st⟩
theorem HOk.lt(x:HOk P w H h)(e:H a=Aa o):a<h.objs.size:=(x a o e).lt
theorem HOk.fresh(x:HOk P w H h)(e:h.objs.size<=a):H a=Ae:=by
 cases q:H a with
 |none=>rfl
 |some u=>exact absurd (AR (x.lt q) e) (Bu _)
theorem HOk.kept(x:HOk P w H h)(k:∀ b u,h.get? b=Aa u->h'.get? b=Aa u):HOk P w H h':=fun a o e=>
 (x a o e).stay (fun b u _ q=>k b u q) (fun _ q=>q) fun _ _ q=>q
theorem HOk.laid(x:HOk P w H h)(k:∀ b u,h.get? b=Aa u->h'.get? b=Aa u)(hp:h.objs.size<=a)(new:ObjOk P w (upd H a o) h' a o):HOk P w (upd H a o) h':=fun b u e=>by
 have hn:=x.fresh hp;by_cases hb:b=a
 ·subst hb;rw[E8]at e;cases e;exact new
 ·rw[By hb]at e;exact(x b u e).stay (fun c v _ q=>k c v q) (fun c q=>by rw[By (Fp q hn)];exact q) fun c xs q=>by rw[By (Fp q hn)];exact q
end
def Rd(H:Hp)(a:Aj)(u:HO):Prop:=H a=Aa u\/∃ o,H a=Aa (.frz o u)
theorem Rd.ok{w:AC}{u:HO}(r:Rd H a u)(x:HOk P w H h):ObjOk P w H h a u:=by
 rcases r with r|⟨o,r⟩
 ·exact x a u r
 ·obtain⟨_,q⟩:=x a _ r;exact q
def Mut:An HO->Prop
 |some (.lst _)=>Hu
 |some (.dK _)=>Hu
 |some (.dT _)=>Hu
 |some (.set _ _)=>Hu
 |some (.ins _ _ _)=>Hu
 |some (.ext _)=>Hu
 |_=>AU
section
variable{P:AS}{w:AC}{H:Hp}{h h':AD}{x e:Aj}{o':HO}
theorem HOk.write(ok:HOk P w H h)(mu:Mut (H x))(he:e=x\/H e=Aa (.own x))(k:∀ b u,b≠e->h.get? b=Aa u->h'.get? b=Aa u)(heo:∃ u,h'.get? e=Aa u)(new:ObjOk P w (upd H x o') h' x o'):HOk P w (upd H x o') h':=fun b u q=>by
 have nown:∀ c y,H c=Aa (.own y)->c≠x:=fun c y r z=>by subst z;rw[r]at mu;exact mu
 have ntup:∀ c xs,H c=Aa (.tup xs)->c≠x:=fun c xs r z=>by subst z;rw[r]at mu;exact mu
 by_cases hb:b=x
 ·subst hb;rw[E8]at q;cases q;exact new
 ·rw[By hb]at q;by_cases hbe:b=e
  ·have q':H b=Aa (.own x):=by
    rcases he with z|z
    ·exact absurd (hbe.trans z) hb
    ·rw[hbe];exact z
   rw[q]at q';cases q';obtain⟨v,hv⟩:=heo;exact⟨v,by rw[hbe];exact hv⟩
  ·refine(ok b u q).stay (fun c v hc r=>k c v ?_ r) (fun c r=>by rw[By (nown c b r)];exact r) fun c xs r=>by rw[By (ntup c xs r)];exact r
   rcases hc with rfl|hc
   ·exact hbe
   ·rintro rfl;rcases he with z|z
    ·exact nown c b hc z
    ·rw[hc]at z;cases z;exact hb rfl
end
structure Un (fs ex:Ad Aj) (H H':Hp) (h h':AD):Prop where
 keep:∀ b o,h.get? b=Aa o->H b=Ae->b∉fs->b∉ex->h'.get? b=Aa o
 slot:∀ b o,h.get? b=Aa o->H b=Ae->b∈fs->b∉ex->∃ sl,h'.get? b=Aa {o with slots:=sl}
 free:∀ b o,h.get? b=Aa o->H b=Ae->b∉ex->H' b=Ae
 there:∀ b o,h.get? b=Aa o->b∉ex->∃ o',h'.get? b=Aa o'
 tups:∀ b xs,H b=Aa (.tup xs)->H' b=Aa (.tup xs)
 frzs:∀ b o u,H b=Aa (.frz o u)->H' b=Aa (.frz o u)
 tbls:∀ b ps,H b=Aa (.tbl ps)->∃ more,H' b=Aa (.tbl (ps++more))
section
variable{fs fs' ex ex':Ad Aj}{H H1 H2:Hp}{h h1 h2 h':AD}{a x e:Aj}{o:HO}
theorem Un.any(u:Un fs ex H H1 h h1){ob:CW}(q:h.get? b=Aa ob)(n:H b=Ae)(hx:b∉ex):∃ sl,h1.get? b=Aa {ob with slots:=sl}:=by
 by_cases hb:b∈fs
 ·exact u.slot b ob q n hb hx
 ·exact⟨ob.slots,u.keep b ob q n hb hx⟩
theorem Un.kept(k:∀ b u,h.get? b=Aa u->h'.get? b=Aa u):Un fs ex H H h h':=
 ⟨fun b ob q _ _ _=>k b ob q,fun b ob q _ _ _=>⟨ob.slots,k b ob q⟩,fun _ _ _ n _=>n,fun b ob q _=>⟨ob,k b ob q⟩,fun _ _ q=>q,fun _ _ _ q=>q,fun _ ps q=>⟨#[],by rw[q];simp⟩⟩
theorem Un.refl:Un fs ex H H h h:=Un.kept fun _ _ q=>q
theorem Un.laid(k:∀ b u,h.get? b=Aa u->h'.get? b=Aa u)(hp:h.objs.size<=a)(hn:H a=Ae):Un fs ex H (upd H a o) h h' where
 keep:=fun b u q _ _ _=>k b u q
 slot:=fun b u q _ _ _=>⟨u.slots,k b u q⟩
 free:=fun b u q n _=>by rw[By (Bb (AR (AH q) hp))];exact n
 there:=fun b u q _=>⟨u,k b u q⟩
 tups:=fun b xs q=>by rw[By (Fp q hn)];exact q
 frzs:=fun b u xs q=>by rw[By (Fp q hn)];exact q
 tbls:=fun b ps q=>⟨#[],by rw[By (Fp q hn),q];simp⟩
theorem Un.write(mu:Mut (H x))(he:e=x\/H e=Aa (.own x))(k:∀ b u,b≠e->h.get? b=Aa u->h'.get? b=Aa u)(heo:∃ u,h'.get? e=Aa u):Un fs ex H (upd H x o) h h':=by
 have hx:∀ b,H b=Ae->b≠x:=fun b n z=>by subst z;rw[n]at mu;exact mu
 have hb:∀ b,H b=Ae->b≠e:=fun b n z=>by
  subst z;rcases he with r|r
  ·exact hx b n r
  ·rw[n]at r;cases r
 have hm:∀ b u,H b=Aa u->¬ Mut (Aa u)->b≠x:=fun b u q nm z=>by subst z;rw[q]at mu;exact nm mu
 refine⟨fun b u q n _ _=>k b u (hb b n) q,fun b u q n _ _=>⟨u.slots,k b u (hb b n) q⟩,fun b u q n _=>by rw[By (hx b n)];exact n,fun b u q _=>?_,
  fun b xs q=>by rw[By (hm b _ q fun z=>z)];exact q,fun b u xs q=>by rw[By (hm b _ q fun z=>z)];exact q,fun b ps q=>⟨#[],by rw[By (hm b _ q fun z=>z),q];simp⟩⟩
 by_cases hbe:b=e
 ·subst hbe;exact heo
 ·exact⟨u,k b u hbe q⟩
end
noncomputable def trk(h:AD)(H:Hp):Ad Aj:=(Bz h.objs.size).filter fun a=>(H a).isSome
noncomputable def H9(h:AD)(H:Hp):AD:=PySem.W.hideAll h (trk h H)
theorem WN(h:AD)(H:Hp):(H9 h H).objs.size=h.objs.size:=PySem.W.hideAll_size _ _
theorem Xi(e:h.get? b=Aa o)(n:H b=Ae):(H9 h H).get? b=Aa o:=
 PySem.W.hideAll_get _ e fun hm=>by
  have q:(H b).isSome=Ab:=(BV.mp hm).2;rw[n]at q;simp at q
theorem YQ(e:(H9 h H).get? b=Aa o):h.get? b=Aa o/\H b=Ae:=by
 have e':h.get? b=Aa o:=PySem.W.of_hideAll (trk h H) e;refine⟨e',?_⟩;cases q:H b with
 |none=>rfl
 |some x=>
  have hm:b∈trk h H:=BV.mpr ⟨BB.mpr (AH e'),by simp[q]⟩
  have z:(H9 h H).get? b=Ae:=PySem.W.hideAll_none (trk h H) hm;rw[z]at e;cases e
noncomputable def ZH(g h:AD)(L:Aj):Pn:=(Bz h.objs.size).filterMap fun a=>if a=L\/(g.get? a).isSome=Ab then Ae else (h.get? a).map fun o=>(a,o)
noncomputable def rest(g h:AD)(L d:Aj):Pn:=(ZH g h L).filter fun p=>decide (p.1≠d)
structure Mod (K:Fg) (mg:Ah->An Ai) (base:AD):Prop where
 kin:K.In base
 glob:base.Ns AM mg
 blt:∃ mb,base.Ns HP mb/\∀ x:Ah,x≠"__name__"->mb x=CY x
 nolimit:base.NoLimit
structure Cx where
 prog:AS
 w:AC
 K:Fg
 mg:Ah->An Ai
 base:AD
 A:AZ
 N:Ad Ah
 s₀:As
 H₀:Hp
 env:B5
 outer:Ad B5
 stack:Ad B5
 ex:Ad Aj
 fn:Ah->Ao
 calm:Ao
 pn:Pn
 xe:Ai->As->Prop
variable{X:Cx}
noncomputable def frs(l:Ad B5):Ad Aj:=l.filterMap (·.frame)
noncomputable abbrev Cx.fs(X:Cx):Ad Aj:=frs X.outer
def Vis(sc:B9)(x:Ah):Prop:=sc.names.lookup x=Aa .local\/sc.names.lookup x=Aa .cell\/sc.names.lookup x=Aa .free
def Loc(sc:B9)(x:Ah):Prop:=sc.names.lookup x=Aa .local\/sc.names.lookup x=Aa .cell
noncomputable def nC(env:B5)(h:AD)(m:Ah->An Ai)(x:Ah)(u:Ai):Prop:=
 (env.kindOf x=Aa .local/\m x=Aa u)\/((env.kindOf x=Aa .cell\/env.kindOf x=Aa .free)/\∃ c,env.cells.lookup x=Aa c/\h.IsCell c (Aa u))
structure Cx.Ok (X:Cx):Prop where
 mod:Mod X.K X.mg X.base
 kind:X.env.scope.kind=.function
 glob:X.env.globals=AM
 blt:X.env.builtins=HP
 above:X.s₀.heap.objs.size<=X.env.locals
 inj:∀ x y c,X.env.cells.lookup x=Aa c->X.env.cells.lookup y=Aa c->x=y
 has:∀ x,(X.env.kindOf x=Aa .cell\/X.env.kindOf x=Aa .free)->∃ c,X.env.cells.lookup x=Aa c
 cab:∀ x c,X.fn x=Ab->X.env.cells.lookup x=Aa c->X.s₀.heap.objs.size<=c
 hd:X.calm=Ab->X.A.handled=Ae
 frames:X.A.frames=Aa X.stack
 stk:X.stack=X.outer\/(X.stack=X.env::X.outer/\X.env.frame=Aa X.env.locals)
 exf:∀ b∈X.ex,b≠X.env.locals/\∀ x c,X.env.cells.lookup x=Aa c->c≠b
 bs:∀ b o,X.base.get? b=Aa o->X.s₀.heap.get? b=Aa o/\X.H₀ b=Ae
 bsz:X.base.objs.size<=X.s₀.heap.objs.size
 noex:∀ b o,X.base.get? b=Aa o->b∉X.ex
 exfs:∀ b∈X.ex,b∉X.fs
 funs:X.s₀.heap.FunFrames X.base X.outer
 frf:∀ b∈X.fs,X.H₀ b=Ae
structure Inv (X:Cx) (pI:Pn) (σ:Ad (An V)) (H:Hp) (s:As):Prop where
 ok:X.Ok
 os:s.os=X.s₀.os
 bare:Fh s.gens
 base:Un X.fs X.ex X.H₀ H X.s₀.heap s.heap
 loc:∃ m,s.heap.Ns X.env.locals m/\∀(i:Ag)(x:Ah)(v:V),X.N[i]?=Aa x->σ[i]?=Aa (Aa v)->Vis X.env.scope x->∃ u,BD v u/\nC X.env s.heap m x u
 cell:∀ x c,X.env.cells.lookup x=Aa c->∃ v,s.heap.IsCell c v
 free:H X.env.locals=Ae
 freeC:∀ x c,X.env.cells.lookup x=Aa c->H c=Ae
 pin:∀ p∈X.pn++pI,s.heap.get? p.1=Aa p.2/\H p.1=Ae/\p.1≠X.env.locals/\p.1∉X.fs/\∀ v,p.2.data≠.cell v
 hok:HOk X.prog X.w H s.heap
 len:σ.length=X.N.length
section
variable{X:Cx}{pI:Pn}{σ:Ad (An V)}{H H':Hp}{s:As}{h':AD}
theorem Cx.Ok.nofr(ok:X.Ok)(e:X.base.get? b=Aa o):b∉X.fs:=fun hb=>by
 have:=(ok.funs.mem hb).1;rw[e]at this;cases this
theorem Inv.bs(I:Inv X pI σ H s):∀ b o,X.base.get? b=Aa o->s.heap.get? b=Aa o/\H b=Ae:=fun b o e=>
 ⟨I.base.keep b o (I.ok.bs b o e).1 (I.ok.bs b o e).2 (I.ok.nofr e) (I.ok.noex b o e),I.base.free b o (I.ok.bs b o e).1 (I.ok.bs b o e).2 (I.ok.noex b o e)⟩
theorem Inv.bk(I:Inv X pI σ H s):∀ b o,X.base.get? b=Aa o->s.heap.get? b=Aa o:=fun b o e=>(I.bs b o e).1
theorem Inv.mod(I:Inv X pI σ H s):Mod X.K X.mg X.base:=I.ok.mod
theorem Inv.kIn(I:Inv X pI σ H s):X.K.In s.heap:=I.ok.mod.kin.keeps I.bk
theorem Inv.lt(I:Inv X pI σ H s):X.env.locals<s.heap.objs.size:=let ⟨_,hn,_⟩:=I.loc;hn.lt
theorem Inv.sz(I:Inv X pI σ H s):X.s₀.heap.objs.size<=s.heap.objs.size:=Co I.ok.above (FY I.lt)
theorem Inv.nofs(I:Inv X pI σ H s)(h:s.heap.objs.size<=a):a∉X.fs:=fun hb=>by
 obtain⟨_,o,ho,_⟩:=I.ok.funs.mem hb;exact absurd (AR (AH ho) (Co I.sz h)) (Bu _)
theorem Inv.cne(I:Inv X pI σ H s):∀ x c,X.env.cells.lookup x=Aa c->c≠X.env.locals:=fun x c e z=>by
 obtain⟨v,o,ho,hd⟩:=I.cell x c e;obtain⟨m,⟨o',es,ep,ho',hd',_⟩,_⟩:=I.loc;rw[z,ho']at ho;cases ho;rw[hd']at hd;cases hd
theorem Inv.funs(I:Inv X pI σ H s):s.heap.FunFrames X.base X.outer:=by
 have all:∀(l:Ad B5),(∀ b∈frs l,b∈X.fs)->X.s₀.heap.FunFrames X.base l->s.heap.FunFrames X.base l:=by
  intro l
  induction l with
  |nil=>intro _ _;trivial
  |cons env r ih=>
   intro hs hl;obtain⟨hk,⟨L,o,hf,hn,ho,hd⟩,hr⟩:=hl;have hL:L∈X.fs:=hs L (by unfold frs;rw[Gb,hf];exact AI)
   obtain⟨sl,e⟩:=I.base.slot L o ho (I.ok.frf L hL) hL fun z=>I.ok.exfs L z hL
   exact⟨hk,⟨L,_,hf,hn,e,hd⟩,ih (fun b hb=>hs b (by unfold frs;rw[Gb,hf];exact Ax _ hb)) hr⟩
 exact all X.outer (fun _ hb=>hb) I.ok.funs
theorem Inv.stack(I:Inv X pI σ H s):s.heap.FunFrames X.base X.stack:=by
 rcases I.ok.stk with e|⟨e,hf⟩
 ·rw[e];exact I.funs
 ·rw[e];obtain⟨m,hn,_⟩:=I.loc;refine .cons (by rw[I.ok.kind];decide) hf hn ?_ I.funs
  exact Dc (Co I.ok.bsz I.ok.above)
theorem Inv.stkSub(I:Inv X pI σ H s):∀ b∈frs X.stack,b∈X.env.locals::X.fs:=fun b hb=>by
 rcases I.ok.stk with e|⟨e,hf⟩
 ·rw[e]at hb;exact Ax _ hb
 ·rw[e]at hb;unfold frs at hb;rw[Gb,hf]at hb;exact hb
theorem Inv.stkFree(I:Inv X pI σ H s):∀ b∈frs X.stack,H b=Ae:=fun b hb=>by
 rcases AB.mp (I.stkSub b hb) with e|hb
 ·rw[e];exact I.free
 ·obtain⟨_,o,ho,_⟩:=I.ok.funs.mem hb;exact I.base.free b o ho (I.ok.frf b hb) fun z=>I.ok.exfs b z hb
theorem Inv.step(I:Inv X pI σ H s)(hch:∀ b∈ch,(b∈X.ex\/X.s₀.heap.objs.size<=b)/\b≠X.env.locals/\(∀ x c,X.env.cells.lookup x=Aa c->c≠b)/\∀ p∈X.pn++pI,p.1≠b)(keep:∀ b o,b≠X.env.locals->b∉X.fs->b∉ch->s.heap.get? b=Aa o->H b=Ae->h'.get? b=Aa o)(slot:∀ b o,b≠X.env.locals->b∈X.fs->b∉ch->s.heap.get? b=Aa o->H b=Ae->∃ sl,h'.get? b=Aa {o with slots:=sl})(free:∀ b o,b∉ch->s.heap.get? b=Aa o->H b=Ae->H' b=Ae)(there:∀ b o,b∉ch->s.heap.get? b=Aa o->∃ o',h'.get? b=Aa o')(tups:∀ b xs,H b=Aa (.tup xs)->H' b=Aa (.tup xs))(frzs:∀ b o u,H b=Aa (.frz o u)->H' b=Aa (.frz o u))(tbls:∀ b ps,H b=Aa (.tbl ps)->∃ more,H' b=Aa (.tbl (ps++more)))(ns:∀ m,s.heap.Ns X.env.locals m->h'.Ns X.env.locals m)(hok:HOk X.prog X.w H' h')(hg:Fh g'):Inv X pI σ H' {s with heap:=h',gens:=g',drawn:=d',toks:=t'}:=by
 have neL:∀ b o,X.s₀.heap.get? b=Aa o->b≠X.env.locals:=fun b o e=>Bb (AR (AH e) I.ok.above)
 have neC:∀ b o,X.s₀.heap.get? b=Aa o->b∉X.ex->b∉ch:=fun b o e hx hb=>by
  rcases (hch b hb).1 with z|z
  ·exact hx z
  ·exact absurd (AR (AH e) z) (Bu _)
 have cellK:∀ x c,X.env.cells.lookup x=Aa c->∀ v,s.heap.IsCell c v->h'.IsCell c v:=fun x c e v ⟨o,ho,hd⟩=>by
  have nch:c∉ch:=fun z=>(hch c z).2.2.1 x c e rfl
  by_cases hc:c∈X.fs
  ·obtain⟨sl,q⟩:=slot c o (I.cne x c e) hc nch ho (I.freeC x c e);exact⟨_,q,hd⟩
  ·exact⟨o,keep c o (I.cne x c e) hc nch ho (I.freeC x c e),hd⟩
 refine⟨I.ok,I.os,hg,⟨fun b o e n hb hx=>?_,fun b o e n hb hx=>?_,fun b o e n hx=>?_,fun b o e hx=>?_,fun b xs e=>tups b xs (I.base.tups b xs e),fun b o xs e=>frzs b o xs (I.base.frzs b o xs e),fun b ps e=>?_⟩,?_,fun x c e=>?_,?_,fun x c e=>?_,fun p hp=>?_,hok,I.len⟩
 ·exact keep b o (neL b o e) hb (neC b o e hx) (I.base.keep b o e n hb hx) (I.base.free b o e n hx)
 ·obtain⟨sl,e1⟩:=I.base.slot b o e n hb hx;obtain⟨sl',e2⟩:=slot b _ (neL b o e) hb (neC b o e hx) e1 (I.base.free b o e n hx);exact⟨sl',e2⟩
 ·obtain⟨o',e1⟩:=I.base.there b o e hx;exact free b o' (neC b o e hx) e1 (I.base.free b o e n hx)
 ·obtain⟨o',e1⟩:=I.base.there b o e hx;exact there b o' (neC b o e hx) e1
 ·obtain⟨m1,e1⟩:=I.base.tbls b ps e;obtain⟨m2,e2⟩:=tbls b _ e1;exact⟨m1++m2,by rw[e2,Array.append_assoc]⟩
 ·obtain⟨m,hn,hl⟩:=I.loc;refine⟨m,ns m hn,fun i x v e1 e2 e3=>?_⟩
  obtain⟨u,r,l⟩:=hl i x v e1 e2 e3;refine⟨u,r,?_⟩;rcases l with l|⟨k,c,e,z⟩
  ·exact .inl l
  ·exact .inr ⟨k,c,e,cellK x c e _ z⟩
 ·obtain⟨v,z⟩:=I.cell x c e;exact⟨v,cellK x c e v z⟩
 ·obtain⟨m,⟨o,_,_,ho,_⟩,_⟩:=I.loc;exact free _ o (fun z=>(hch _ z).2.1 rfl) ho I.free
 ·obtain⟨v,o,ho,hd⟩:=I.cell x c e;exact free c o (fun z=>(hch c z).2.2.1 x c e rfl) ho (I.freeC x c e)
 ·obtain⟨e,n,ne,nf,d⟩:=I.pin p hp;have nch:p.1∉ch:=fun z=>(hch p.1 z).2.2.2 p hp rfl
  exact⟨keep p.1 p.2 ne nf nch e n,free p.1 p.2 nch e n,ne,nf,d⟩
theorem Inv.un(I:Inv X pI σ H s)(u:Un X.fs [] H H' s.heap h')(hok:HOk X.prog X.w H' h'):Inv X pI σ H' {s with heap:=h',toks:=t'}:=by
 obtain⟨m,⟨o,es,ep,ho,r⟩,_⟩:=id I.loc;obtain⟨sl,hL⟩:=u.any ho I.free (by simp)
 exact I.step (g':=s.gens) (d':=s.drawn) (ch:=[]) (fun _ z=>nomatch z) (fun b o _ hb _ e n=>u.keep b o e n hb (by simp)) (fun b o _ hb _ e n=>u.slot b o e n hb (by simp)) (fun b o _ e n=>u.free b o e n (by simp)) (fun b o _ e=>u.there b o e (by simp)) u.tups u.frzs u.tbls (fun m' hm=>by
  obtain⟨o',es',ep',ho',r'⟩:=hm;rw[ho]at ho';cases ho';exact⟨_,es',ep',hL,r'⟩) hok I.bare
theorem Inv.call(I:Inv X pI σ H s)(u:Un (frs X.stack) ch H H' s.heap h')(hok:HOk X.prog X.w H' h')(hg:Fh g')(hch:∀ b∈ch,(b∈X.ex\/X.s₀.heap.objs.size<=b)/\b≠X.env.locals/\(∀ x c,X.env.cells.lookup x=Aa c->c≠b)/\∀ p∈X.pn++pI,p.1≠b):Inv X pI σ H' {s with heap:=h',gens:=g',drawn:=d',toks:=t'}:=by
 obtain⟨m,⟨o,es,ep,ho,r⟩,_⟩:=id I.loc;obtain⟨sl,hL⟩:=u.any ho I.free fun z=>(hch _ z).2.1 rfl
 exact I.step (ch:=ch) hch (fun b o hL hb hc e n=>u.keep b o e n (fun z=>(AB.mp (I.stkSub b z)).elim hL hb) hc) (fun b o _ _ hc e n=>u.any e n hc) (fun b o hc e n=>u.free b o e n hc) (fun b o hc e=>u.there b o e hc) u.tups u.frzs u.tbls (fun m' hm=>by
  obtain⟨o',es',ep',ho',r'⟩:=hm;rw[ho]at ho';cases ho';exact⟨_,es',ep',hL,r'⟩) hok hg
theorem Inv.turned(I:Inv X pI σ H s)(k:∀ b o,b≠it->s.heap.get? b=Aa o->h'.get? b=Aa o)(hn:H it=Ae)(hL:it≠X.env.locals)(h1:it∈X.ex\/X.s₀.heap.objs.size<=it)(h2:∀ x c,X.env.cells.lookup x=Aa c->c≠it)(h3:∀ p∈X.pn++pI,p.1≠it):Inv X pI σ H {s with heap:=h',toks:=t'}:=by
 have nit:∀ b u,H b=Aa u->b≠it:=fun b u e z=>by rw[z,hn]at e;cases e
 refine I.step (g':=s.gens) (d':=s.drawn) (ch:=[it]) (fun b hb=>?_) (fun b o _ _ hc e _=>k b o (fun z=>hc (by simp[z])) e) (fun b o _ _ hc e _=>⟨o.slots,k b o (fun z=>hc (by simp[z])) e⟩) (fun _ _ _ _ n=>n)
  (fun b o hc e=>⟨o,k b o (fun z=>hc (by simp[z])) e⟩) (fun _ _ e=>e) (fun _ _ _ e=>e) (fun b ps e=>⟨#[],by rw[e];simp⟩) (fun m hm=>?_) (fun b u e=>?_) I.bare
 ·have e:b=it:=by simpa using hb
  subst e;exact⟨h1,hL,h2,h3⟩
 ·obtain⟨o,es,ep,ho,r⟩:=hm;exact⟨o,es,ep,k _ o (CK hL) ho,r⟩
 ·refine(I.hok b u e).stay (fun c v hc q=>k c v ?_ q) (fun _ q=>q) fun _ _ q=>q
  rcases hc with z|z
  ·rw[z];exact nit b u e
  ·exact nit c _ z
theorem Inv.tok(I:Inv X pI σ H s)(t:Ag):Inv X pI σ H {s with toks:=t}:=I.un (h':=s.heap) (t':=t) Un.refl I.hok
theorem Inv.kept{t':Ag}(I:Inv X pI σ H s)(k:∀ b u,s.heap.get? b=Aa u->h'.get? b=Aa u):Inv X pI σ H {s with heap:=h',toks:=t'}:=I.un (Un.kept k) (I.hok.kept k)
theorem Inv.laid{a:Aj}{o:HO}{t':Ag}(I:Inv X pI σ H s)(k:∀ b u,s.heap.get? b=Aa u->h'.get? b=Aa u)(hp:s.heap.objs.size<=a)(new:ObjOk X.prog X.w (upd H a o) h' a o):Inv X pI σ (upd H a o) {s with heap:=h',toks:=t'}:=I.un (Un.laid k hp (I.hok.fresh hp)) (I.hok.laid k hp new)
theorem Inv.write{x e:Aj}{o:HO}{t':Ag}(I:Inv X pI σ H s)(mu:Mut (H x))(he:e=x\/H e=Aa (.own x))(k:∀ b u,b≠e->s.heap.get? b=Aa u->h'.get? b=Aa u)(heo:∃ u,h'.get? e=Aa u)(new:ObjOk X.prog X.w (upd H x o) h' x o):Inv X pI σ (upd H x o) {s with heap:=h',toks:=t'}:=I.un (Un.write mu he k heo) (I.hok.write mu he k heo new)
theorem Inv.pins_of{pins':Pn}(I:Inv X pI σ H s)(h:∀ p∈pins',s.heap.get? p.1=Aa p.2/\H p.1=Ae/\p.1≠X.env.locals/\p.1∉X.fs/\∀ v,p.2.data≠.cell v):Inv X pins' σ H s:=
 ⟨I.ok,I.os,I.bare,I.base,I.loc,I.cell,I.free,I.freeC,fun p hp=>(Hk.mp hp).elim (fun z=>I.pin p (FW _ z)) (h p),I.hok,I.len⟩
theorem Nd{N:Ad Ah}(hN:N.Nodup){j:Ag}(a:N[i]?=Aa x)(b:N[j]?=Aa x):i=j:=by
 obtain⟨h1,e1⟩:=A7.mp a;obtain⟨h2,e2⟩:=A7.mp b;exact(List.getElem_inj hN).mp (e1.trans e2.symm)
theorem O9{A:AZ}{E:Vq}(I:Inv X pI σ H s)(hN:X.N.Nodup)(hi:X.N[i]?=Aa x)(hx:Loc X.env.scope x)(r:BD v u)(h:∀ s',Inv X pI (σ.set i (Aa v)) H s'->(∃ a,Ei a s.heap s'.heap/\(a=X.env.locals\/X.env.cells.lookup x=Aa a))->Q () s')(hf:X.fn x=Ab\/X.env.scope.names.lookup x=Aa .local:=by first|exact .inl rfl|exact .inr rfl|assumption):Ay M A (storeName X.env x u) Q E s:=by
 obtain⟨m,hn,hl⟩:=id I.loc;have hcls:(X.env.scope.kind==.class||(X.env.scope.kind==.module&&X.env.locals != X.env.globals))=Ac:=by rw[I.ok.kind];rfl
 have hiσ:i<σ.length:=by rw[I.len];exact(A7.mp hi).1
 have cne:=I.cne;have tracked:∀{a:Aj}{h':AD},(∃ o,s.heap.get? a=Aa o/\H a=Ae)->Ei a s.heap h'->HOk X.prog X.w H h':=fun {a h'} ha hs b ob e=>by
  obtain⟨_,_,hfree⟩:=ha;refine(I.hok b ob e).stay (fun c w' hc q=>(hs.2 c ?_).trans q) (fun _ q=>q) fun _ _ q=>q
  rintro rfl;rcases hc with rfl|hc
  ·rw[hfree]at e;cases e
  ·rw[hfree]at hc;cases hc
 rcases hx with hk|hk
 ·refine wpAny_storeName_local hk hn (fun h' hn' hs=>?_) hcls
  obtain⟨oL,_,_,hoL,_⟩:=id hn;refine h _ ⟨I.ok,I.os,I.bare,⟨fun b o e n hb hx=>?_,fun b o e n hb hx=>?_,I.base.free,fun b o e hx=>?_,I.base.tups,I.base.frzs,I.base.tbls⟩,⟨_,hn',fun j y v' e1 e2 e3=>?_⟩,fun y c e=>?_,I.free,I.freeC,fun p hp=>?_,tracked ⟨oL,hoL,I.free⟩ hs,by simpa using I.len⟩ ⟨_,hs,.inl rfl⟩
  ·exact(hs.2 b (Bb (AR (AH e) I.ok.above))).trans (I.base.keep b o e n hb hx)
  ·obtain⟨sl,e1⟩:=I.base.slot b o e n hb hx;exact⟨sl,(hs.2 b (Bb (AR (AH e) I.ok.above))).trans e1⟩
  ·obtain⟨o',e1⟩:=I.base.there b o e hx;exact⟨o',(hs.2 b (Bb (AR (AH e) I.ok.above))).trans e1⟩
  ·by_cases hj:j=i
   ·subst hj;rw[hi]at e1;cases e1;rw[CV hiσ]at e2;cases e2;exact⟨u,r,.inl ⟨hk,by simp⟩⟩
   ·rw[FV (CK hj)]at e2;obtain⟨u',r',q⟩:=hl j y v' e1 e2 e3;refine⟨u',r',?_⟩;rcases q with ⟨k,e⟩|⟨k,c,e,z⟩
    ·refine .inl ⟨k,?_⟩;have:y≠x:=fun e=>hj (Nd hN e1 (e ▸ hi))
     simp[this,e]
    ·exact .inr ⟨k,c,e,z.sameBut hs (cne y c e)⟩
  ·obtain⟨w',z⟩:=I.cell y c e;exact⟨w',z.sameBut hs (cne y c e)⟩
  ·obtain⟨e,n,ne,nf,d⟩:=I.pin p hp;exact⟨(hs.2 p.1 ne).trans e,n,ne,nf,d⟩
 ·have hfn:X.fn x=Ab:=by
   rcases hf with z|z
   ·exact z
   ·rw[z]at hk;cases hk
  obtain⟨c,hc⟩:=I.ok.has x (.inl hk);obtain⟨w',z⟩:=I.cell x c hc;refine wpAny_storeName_cell I.ok.kind hk hc z (fun h' hc' hs=>?_)
  obtain⟨oc,hoc,hocd⟩:=id z;refine h {s with heap:=h'} ⟨I.ok,I.os,I.bare,⟨fun b o e n hb hx=>?_,fun b o e n hb hx=>?_,I.base.free,fun b o e hx=>?_,I.base.tups,I.base.frzs,I.base.tbls⟩,⟨m,hn.sameBut hs (CK (cne x c hc)),fun j y v' e1 e2 e3=>?_⟩,fun y c' e=>?_,I.free,I.freeC,fun p hp=>?_,tracked ⟨oc,hoc,I.freeC x c hc⟩ hs,by simpa using I.len⟩ ⟨c,hs,.inr hc⟩
  ·exact(hs.2 b (Bb (AR (AH e) (I.ok.cab x c hfn hc)))).trans (I.base.keep b o e n hb hx)
  ·obtain⟨sl,e1⟩:=I.base.slot b o e n hb hx;exact⟨sl,(hs.2 b (Bb (AR (AH e) (I.ok.cab x c hfn hc)))).trans e1⟩
  ·obtain⟨o',e1⟩:=I.base.there b o e hx;exact⟨o',(hs.2 b (Bb (AR (AH e) (I.ok.cab x c hfn hc)))).trans e1⟩
  ·by_cases hj:j=i
   ·subst hj;rw[hi]at e1;cases e1;rw[CV hiσ]at e2;cases e2;exact⟨u,r,.inr ⟨.inl hk,c,hc,hc'⟩⟩
   ·rw[FV (CK hj)]at e2;obtain⟨u',r',q⟩:=hl j y v' e1 e2 e3;refine⟨u',r',?_⟩;rcases q with q|⟨k,c',e,z'⟩
    ·exact .inl q
    ·refine .inr ⟨k,c',e,z'.sameBut hs ?_⟩;rintro rfl;exact hj (Nd hN e1 (I.ok.inj _ _ _ e hc ▸ hi))
  ·by_cases hcc:c'=c
   ·subst hcc;exact⟨_,hc'⟩
   ·obtain⟨w2,z2⟩:=I.cell y c' e;exact⟨w2,z2.sameBut hs hcc⟩
  ·obtain⟨e,n,ne,nf,d⟩:=I.pin p hp;refine⟨(hs.2 p.1 ?_).trans e,n,ne,nf,d⟩;intro q;rw[q,hoc]at e;have q':oc=p.2:=Bs e;exact d w' (by rw[<-q'];exact hocd)
theorem Np{A:AZ}{E:Vq}(I:Inv X pI σ H s)(hN:X.N.Nodup)(hi:X.N[i]?=Aa x)(hx:Loc X.env.scope x)(r:BD v u)(h:∀ s',Inv X pI (σ.set i (Aa v)) H s'->Q () s')(hf:X.fn x=Ab\/X.env.scope.names.lookup x=Aa .local:=by first|exact .inl rfl|exact .inr rfl|assumption):Ay M A (storeName X.env x u) Q E s:=
 O9 I hN hi hx r (fun s' I' _=>h s' I') hf
theorem Inv.call'{s':As}(I:Inv X pI σ H s)(ho:s'.os=s.os)(u:Un (frs X.stack) ch H H' s.heap s'.heap)(hok:HOk X.prog X.w H' s'.heap)(hg:Fh s'.gens)(hch:∀ b∈ch,(b∈X.ex\/X.s₀.heap.objs.size<=b)/\b≠X.env.locals/\(∀ x c,X.env.cells.lookup x=Aa c->c≠b)/\∀ p∈X.pn++pI,p.1≠b):Inv X pI σ H' s':=by
 obtain⟨h',g',d',t',o'⟩:=s';have e:o'=s.os:=ho;subst e;exact I.call (g':=g') (t':=t') (d':=d') u hok hg hch
end
abbrev XK:=Ai->An Aj->Hp->Prop
abbrev St:=Ad (An V)
variable{σ:St}
abbrev VK:=V->Hp->Prop
abbrev TE:=St->Hp->VK->Prop
variable{te:TE}
abbrev TT:=St->Hp->(Ao->Hp->Prop)->Prop
abbrev TA:=St->Hp->(Ad V->Hp->Prop)->Prop
variable{ta:TA}
structure Ends where
 nx:St->Hp->Prop
 rt:VK
 bk:St->Hp->Prop:=fun _ _=>AU
 ct:St->Hp->Prop:=fun _ _=>AU
abbrev TS:=Ends->St->Hp->Prop
def EP(X:Cx)(pI:Pn)(σ:St)(Q:VK)(u:Ai)(s':As):Prop:=∃ v H',Inv X pI σ H' s'/\BD v u/\Q v H'
def TP(X:Cx)(pI:Pn)(σ:St)(Q:Ao->Hp->Prop)(b:Ao)(s':As):Prop:=∃ H',Inv X pI σ H' s'/\Q b H'
def AP(X:Cx)(pI:Pn)(σ:St)(Q:Ad V->Hp->Prop)(us:Ad Ai)(s':As):Prop:=∃ vs H',Inv X pI σ H' s'/\Bf vs us/\Q vs H'
noncomputable def SP(X:Cx)(pI:Pn)(D:Ends)(f:Flow)(s':As):Prop:=
  match f with
  |.next=>∃ σ' H',Inv X pI σ' H' s'/\D.nx σ' H'
  |.brk=>∃ σ' H',Inv X pI σ' H' s'/\D.bk σ' H'
  |.cont=>∃ σ' H',Inv X pI σ' H' s'/\D.ct σ' H'
  |.ret u=>∃ v σ' H',Inv X pI σ' H' s'/\BD v u/\D.rt v H'
noncomputable def PE(X:Cx)(e:Ap)(t:TE):Prop:=
 ∀(pI:Pn)(s:As)(σ:St)(H:Hp)(Q:VK),Inv X pI σ H s->t σ H Q->Ay (model X.prog X.w) X.A (eval e X.env) (EP X pI σ Q) X.xe s
noncomputable def PT(X:Cx)(e:Ap)(t:TT):Prop:=
 ∀(pI:Pn)(s:As)(σ:St)(H:Hp)(Q:Ao->Hp->Prop),Inv X pI σ H s->t σ H Q->Ay (model X.prog X.w) X.A (HI e X.env (eval e X.env)) (TP X pI σ Q) X.xe s
noncomputable def PW(X:Cx)(e:Ap)(t:TT):Prop:=
 ∀(whole:Sem Ai)(pI:Pn)(s:As)(σ:St)(H:Hp)(Q:Ao->Hp->Prop),Inv X pI σ H s->t σ H Q->Ay (model X.prog X.w) X.A (HI e X.env whole) (TP X pI σ Q) X.xe s
theorem PW.pt{t:TT}(h:PW X e t):PT X e t:=h _
noncomputable def PA(X:Cx)(es:Ad Ap)(t:TA):Prop:=
 ∀(pos:AN)(pI:Pn)(s:As)(σ:St)(H:Hp)(Q:Ad V->Hp->Prop),Inv X pI σ H s->t σ H Q->Ay (model X.prog X.w) X.A (spliced (B8 pos (Az es X.env))) (AP X pI σ Q) X.xe s
noncomputable def PS(X:Cx)(st:A9)(t:TS):Prop:=
 ∀(pI:Pn)(s:As)(σ:St)(H:Hp)(D:Ends),Inv X pI σ H s->t D σ H->Ay (model X.prog X.w) X.A (exec st X.env) (SP X pI D) X.xe s
noncomputable def PSs(X:Cx)(st:Ad A9)(t:TS):Prop:=
 ∀(pI:Pn)(s:As)(σ:St)(H:Hp)(D:Ends),Inv X pI σ H s->t D σ H->Ay (model X.prog X.w) X.A (execs st X.env) (SP X pI D) X.xe s
theorem thn{α:Type}{t:Sem α}{Q Q':α->As->Prop}{A:AZ}{E:Vq}(h:Ay M A t Q E s)(hQ:∀ a s,Q a s->Q' a s):Ay M A t Q' E s:=Be h hQ fun _ _ x=>x
section
variable{X:Cx}
def Gm(i:Ag):TE:=fun σ H Q=>∃ v,σ[i]?=Aa (Aa v)/\Q v H
def tC(v:V):TE:=fun _ H Q=>Q v H
theorem Mi(hN:X.N[i]?=Aa x)(hv:Vis X.env.scope x)(hd:(x==("__debug__" : Ah))=Ac:=by decide)(hcd:(x==("__classdict__" : Ah))=Ac:=by decide):PE X (.Name x pos) (Gm i):=by
 intro pI s σ H Q I h;obtain⟨v,e,h⟩:=h;obtain⟨m,hn,hl⟩:=I.loc;obtain⟨u,r,l⟩:=hl i x v hN e hv;have fin:EP X pI σ Q u s:=⟨v,H,I,r,h⟩;rcases l with ⟨hk,hm⟩|⟨hk,c,hc,hcell⟩
 ·exact JI (wpAny_loadName_local I.ok.kind hk hn hm fin) hd
 ·rcases hk with hk|hk
  ·exact JI (wpAny_loadName_cell I.ok.kind hk hc hcell fin) hd
  ·exact JI (wpAny_loadName_free I.ok.kind hk hc hcell fin hcd) hd
theorem eE{i j pos}:PE X (.Constant (.int i) j pos) (tC (.int i)):=fun _ _ _ H _ I h=>wpAny_Constant_int ⟨.int i,H,I.tok _,⟨_,rfl⟩,h⟩
theorem kE{b j pos}:PE X (.Constant (.bool b) j pos) (tC (.bl b)):=fun _ _ _ H _ I h=>Constant_bool ⟨.bl b,H,I,rfl,h⟩
theorem eB{j pos}:PE X (.Constant .none j pos) (tC .non):=fun _ _ _ H _ I h=>Constant_none ⟨.non,H,I,rfl,h⟩
theorem RF{x j pos}:PE X (.Constant (.str x) j pos) (tC (.str x)):=fun _ _ _ H _ I h=>Calls.Constant_str ⟨.str x,H,I.tok _,⟨_,rfl⟩,h⟩
def Gl(X:Cx)(x:Ah):Prop:=X.env.kindOf x=Aa .globalImplicit
theorem IG{E:Vq}{Q:Vq}(I:Inv X pI σ H s)(hg:Gl X x)(hm:X.mg x=Aa u)(h:Q u s)(hd:(x==("__debug__" : Ah))=Ac:=by decide):Ay (model X.prog X.w) X.A (eval (.Name x pos) X.env) Q E s:=
 UU I.ok.kind hg (Calls.loadGlobal_global (by rw[I.ok.glob];exact I.mod.glob.keeps I.bk) hm h) hd
theorem Jq{E:Vq}{Q:Vq}(I:Inv X pI σ H s)(hg:Gl X x)(hm:X.mg x=Ae)(hv:CY x=Aa u)(h:Q u s)(hn:x≠"__name__" := by decide)(hd:(x==("__debug__" : Ah))=Ac:=by decide):Ay (model X.prog X.w) X.A (eval (.Name x pos) X.env) Q E s:=by
 obtain⟨mb,h1,h2⟩:=I.mod.blt;exact UU I.ok.kind hg (Calls.loadGlobal_builtin (by rw[I.ok.glob];exact I.mod.glob.keeps I.bk) hm (by rw[I.ok.blt];exact h1.keeps I.bk) ((h2 x hn).trans hv) h) hd
theorem Qz(hg:Gl X x)(hm:X.mg x=Aa u)(r:BD v u)(hd:(x==("__debug__" : Ah))=Ac:=by decide):PE X (.Name x pos) (tC v):=
 fun _ _ _ H _ I h=>IG I hg hm ⟨v,H,I,r,h⟩ hd
theorem QB(hg:Gl X x)(hm:X.mg x=Ae)(hv:CY x=Aa u)(r:BD v u)(hn:x≠"__name__" := by decide)(hd:(x==("__debug__" : Ah))=Ac:=by decide):PE X (.Name x pos) (tC v):=
 fun _ _ _ H _ I h=>Jq I hg hm hv ⟨v,H,I,r,h⟩ hn hd
variable{a b:Ap}{ta tb:TE}{pos:AN}
variable{tA tB':TT}{rest:Ad Ap}
def mD(t u:TT):TT:=fun σ H Q=>t σ H fun c H1=>if c=Ab then u σ H1 Q else Q Ac H1
def tOr(t u:TT):TT:=fun σ H Q=>t σ H fun c H1=>if c=Ab then Q Ab H1 else u σ H1 Q
def lX(t:TT):TT:=fun σ H Q=>t σ H fun c H1=>Q (!c) H1
theorem Zb(ha:PT X a tA):PW X (.BoolOp .And [a] pos) tA:=by
 intro wh pI s σ H Q I h;refine isTrue_and (thn (ha pI s σ H Q I h) fun c s1 e=>?_)
 cases c with
 |true=>exact isTrue_and_nil e
 |false=>exact e
theorem dN(ha:PT X a tA):PW X (.BoolOp .Or [a] pos) tA:=by
 intro wh pI s σ H Q I h;refine isTrue_or (thn (ha pI s σ H Q I h) fun c s1 e=>?_)
 cases c with
 |false=>exact isTrue_or_nil e
 |true=>exact e
theorem dO(ha:PT X a tA)(hb:PW X (.BoolOp .And (b::rest) pos) tB'):PW X (.BoolOp .And (a::b::rest) pos) (mD tA tB'):=by
 intro wh pI s σ H Q I h;refine isTrue_and (thn (ha pI s σ H _ I h) fun c s1 ⟨H1,I1,q1⟩=>?_)
 cases c with
 |true=>exact hb wh pI s1 σ H1 Q I1 q1
 |false=>exact⟨H1,I1,q1⟩
theorem jY(ha:PT X a tA)(hb:PW X (.BoolOp .Or (b::rest) pos) tB'):PW X (.BoolOp .Or (a::b::rest) pos) (tOr tA tB'):=by
 intro wh pI s σ H Q I h;refine isTrue_or (thn (ha pI s σ H _ I h) fun c s1 ⟨H1,I1,q1⟩=>?_)
 cases c with
 |true=>exact⟨H1,I1,q1⟩
 |false=>exact hb wh pI s1 σ H1 Q I1 q1
theorem dP(ha:PT X a tA):PT X (.UnaryOp .Not a pos) (lX tA):=by
 intro pI s σ H Q I h;exact isTrue_not (ha pI s σ H (fun c H1=>Q (!c) H1) I h)
def fX(ta tb:TE):TE:=fun σ H Q=>ta σ H fun x H1=>∃ c,x=.bl c/\if c=Ab then tb σ H1 Q else Q (.bl Ac) H1
def lW(ta tb:TE):TE:=fun σ H Q=>ta σ H fun x H1=>∃ c,x=.bl c/\if c=Ab then Q (.bl Ab) H1 else tb σ H1 Q
def gK(ta:TE):TE:=fun σ H Q=>ta σ H fun x H1=>∃ c,x=.bl c/\Q (.bl (!c)) H1
theorem dZ{op}{t:TE}(h:PE X a t):PE X (.BoolOp op [a] pos) t:=fun pI s σ H Q I hw=>BoolOp_one (h pI s σ H Q I hw)
theorem cE(ha:PE X a ta)(hb:PE X (.BoolOp .And (b::rest) pos) tb):PE X (.BoolOp .And (a::b::rest) pos) (fX ta tb):=by
 intro pI s σ H Q I h;refine BoolOp_and (thn (ha pI s σ H _ I h) fun v s1 ⟨x,H1,I1,r1,q1⟩=>?_)
 obtain⟨c,rfl,q1⟩:=q1;cases r1;refine Cu ?_;cases c with
 |true=>exact hb pI s1 σ H1 Q I1 q1
 |false=>exact⟨.bl Ac,H1,I1,rfl,q1⟩
theorem kC(ha:PE X a ta)(hb:PE X (.BoolOp .Or (b::rest) pos) tb):PE X (.BoolOp .Or (a::b::rest) pos) (lW ta tb):=by
 intro pI s σ H Q I h;refine BoolOp_or (thn (ha pI s σ H _ I h) fun v s1 ⟨x,H1,I1,r1,q1⟩=>?_)
 obtain⟨c,rfl,q1⟩:=q1;cases r1;refine Cu ?_;cases c with
 |false=>exact hb pI s1 σ H1 Q I1 q1
 |true=>exact⟨.bl Ab,H1,I1,rfl,q1⟩
theorem eA(ha:PE X a ta):PE X (.UnaryOp .Not a pos) (gK ta):=by
 intro pI s σ H Q I h;refine UnaryOp_ (thn (ha pI s σ H _ I h) fun v s1 ⟨x,H1,I1,r1,q1⟩=>?_)
 obtain⟨c,rfl,q1⟩:=q1;cases r1;exact not_of (Cu ⟨.bl (!c),H1,I1,rfl,q1⟩)
end
noncomputable def SqL(K:Fg)(H:Hp)(a:Aj)(xs:Ad V):Prop:=
 Rd H a (.lst xs) \/
  ∃(o:CW)(its:Bk Ai)(n:Ag),K.lookup a=Aa o/\o.cls=.type "list"/\o.dict=Ae/\o.data=.seq its n/\its.size<=sizeLine/\Bf xs its.toList
noncomputable def SqT(K:Fg)(H:Hp)(a:Aj)(xs:Ad V):Prop:=
 Rd H a (.tup xs) \/
  ∃(o:CW)(its:Bk Ai)(n:Ag),K.lookup a=Aa o/\o.cls=.type "tuple"/\o.data=.seq its n/\its.size<=sizeLine/\Bf xs its.toList
noncomputable def mX:Ai->An V
 |.none=>Aa .non
 |.bool b=>Aa (.bl b)
 |.int i _=>Aa (.int i)
 |.str x _=>Aa (.str x)
 |.bytes b _=>Aa (.byt b)
 |.float b _=>Aa (.flt b)
 |.ref a=>Aa (.ref a)
 |.type n=>Aa (.ty n)
 |_=>Ae
theorem BD.abs{x:V}(r:BD x u):mX u=Aa x:=by
 cases x with
 |non=>cases r;rfl
 |bl _=>cases r;rfl
 |int _=>obtain⟨t,rfl⟩:=r;rfl
 |str _=>obtain⟨t,rfl⟩:=r;rfl
 |byt _=>obtain⟨t,rfl⟩:=r;rfl
 |flt _=>obtain⟨t,rfl⟩:=r;rfl
 |ref _=>cases r;rfl
 |ty _=>cases r;rfl
theorem BD.inj{x y:V}(r:BD x u)(q:BD y u):x=y:=Bs (r.abs.symm.trans q.abs)
theorem Bf.inj:∀{xs ys:Ad V}{us:Ad Ai},Bf xs us->Bf ys us->xs=ys
 |_,_,_,.nil,.nil=>rfl
 |_,_,_,.cons r t,.cons r' t'=>by rw[r.inj r',Bf.inj t t']
section
variable{X:Cx}{pI:Pn}{σ:St}{H:Hp}{s:As}{a:Aj}{xs ys:Ad V}
theorem SqL.of{K:Fg}(h:H a=Aa (.lst xs)):SqL K H a xs:=.inl (.inl h)
theorem SqT.of{K:Fg}(h:H a=Aa (.tup xs)):SqT K H a xs:=.inl (.inl h)
theorem Inv.list(I:Inv X pI σ H s)(h:SqL X.K H a xs):∃ its:Ad Ai,Bf xs its/\PlainL s.heap a its.toArray/\xs.length<=sizeLine:=by
 rcases h with h|⟨o,its,n,hk,hc,hd,hs,hz,r⟩
 ·obtain⟨z,its,n,r,e⟩:=h.ok I.hok;exact⟨its,r,⟨_,n,e,rfl,rfl,rfl⟩,z⟩
 ·refine⟨its.toList,r,⟨o,n,I.kIn a o hk,hc,hd,by simpa using hs⟩,?_⟩
  have e:=r.length;simp only[Ga]at e;omega
theorem Inv.tuple(I:Inv X pI σ H s)(h:SqT X.K H a xs):∃ its:Ad Ai,Bf xs its/\Jz s.heap a its.toArray/\xs.length<=sizeLine:=by
 rcases h with h|⟨o,its,n,hk,hc,hs,hz,r⟩
 ·obtain⟨z,its,r,p⟩:=h.ok I.hok;exact⟨its,r,p,z⟩
 ·refine⟨its.toList,r,⟨o,I.kIn a o hk,hc,n,by simpa using hs⟩,?_⟩
  have e:=r.length;simp only[Ga]at e;omega
theorem Inv.list_inj(I:Inv X pI σ H s)(h:SqL X.K H a xs)(h':SqL X.K H a ys):xs=ys:=by
 obtain⟨its,r,⟨o,n,e,_,_,d⟩,_⟩:=I.list h;obtain⟨its',r',⟨o',n',e',_,_,d'⟩,_⟩:=I.list h';rw[e]at e';cases e';rw[d]at d'
 injection d' with d1 _
 have:its=its':=by simpa using congrArg Il d1
 subst this;exact r.inj r'
theorem Inv.tuple_inj(I:Inv X pI σ H s)(h:SqT X.K H a xs)(h':SqT X.K H a ys):xs=ys:=by
 obtain⟨its,r,⟨o,e,_,n,d⟩,_⟩:=I.tuple h;obtain⟨its',r',⟨o',e',_,n',d'⟩,_⟩:=I.tuple h';rw[e]at e';cases e';rw[d]at d'
 injection d' with d1 _
 have:its=its':=by simpa using congrArg Il d1
 subst this;exact r.inj r'
end
noncomputable abbrev Cx.wish(X:Cx)(E:Vq):Cx:={X with xe:=E}
noncomputable abbrev Cx.nox(X:Cx):Cx:=X.wish fun _ _=>AU
theorem Cx.Ok.wish(ok:X.Ok)(E:Vq):(X.wish E).Ok:=
 ⟨ok.mod,ok.kind,ok.glob,ok.blt,ok.above,ok.inj,ok.has,ok.cab,ok.hd,ok.frames,ok.stk,ok.exf,ok.bs,ok.bsz,ok.noex,ok.exfs,ok.funs,ok.frf⟩
theorem Cx.Ok.unwish{E:Vq}(ok:(X.wish E).Ok):X.Ok:=
 ⟨ok.mod,ok.kind,ok.glob,ok.blt,ok.above,ok.inj,ok.has,ok.cab,ok.hd,ok.frames,ok.stk,ok.exf,ok.bs,ok.bsz,ok.noex,ok.exfs,ok.funs,ok.frf⟩
section
variable{X:Cx}{pI:Pn}{σ:St}{H:Hp}{s:As}{E:Vq}
theorem Inv.wish(I:Inv X pI σ H s)(E:Vq):Inv (X.wish E) pI σ H s:=⟨I.ok.wish E,I.os,I.bare,I.base,I.loc,I.cell,I.free,I.freeC,I.pin,I.hok,I.len⟩
theorem Inv.unwish(I:Inv (X.wish E) pI σ H s):Inv X pI σ H s:=⟨I.ok.unwish,I.os,I.bare,I.base,I.loc,I.cell,I.free,I.freeC,I.pin,I.hok,I.len⟩
theorem SP.unwish{D:Ends}{f:Flow}{s':As}(h:SP (X.wish E) pI D f s'):SP X pI D f s':=by
 cases f with
 |next=>obtain⟨σ',H',I,q⟩:=h;exact⟨σ',H',I.unwish,q⟩
 |brk=>obtain⟨σ',H',I,q⟩:=h;exact⟨σ',H',I.unwish,q⟩
 |cont=>obtain⟨σ',H',I,q⟩:=h;exact⟨σ',H',I.unwish,q⟩
 |ret u=>obtain⟨v,σ',H',I,r,q⟩:=h;exact⟨v,σ',H',I.unwish,r,q⟩
theorem PSs.nox{st:Ad A9}{t:TS}(h:PSs X.nox st t):PSs X st t:=fun pI s σ H D I hw=>
 Be (h pI s σ H D (I.wish _) hw) (fun _ _ q=>q.unwish) fun _ _ z=>Bc z
end
section
variable{X:Cx}{st:A9}{rest:Ad A9}{t u:TS}{e:Ap}{te:TE}{pos:AN}
def gL:TS:=fun D σ H=>D.nx σ H
def lU(t u:TS):TS:=fun D σ H=>t {D with nx:=u D} σ H
theorem Zf:PSs X [] gL:=fun _ _ σ H _ I h=>EX ⟨σ,H,I,h⟩
theorem Qq(h1:PS X st t)(h2:PSs X rest u):PSs X (st::rest) (lU t u):=by
 intro pI s σ H D I h;refine G1 (thn (h1 pI s σ H {D with nx:=u D} I h) fun f s1 q=>?_)
 cases f with
 |next=>
  obtain⟨σ',H',I',q⟩:=q;exact h2 pI s1 σ' H' D I' q
 |ret v=>exact q
 |brk=>exact q
 |cont=>exact q
theorem K6(h1:PS X st t):PSs X [st] t:=by
 intro pI s σ H D I h;refine G1 (thn (h1 pI s σ H D I h) fun f s1 q=>?_)
 cases f with
 |next=>exact EX q
 |ret v=>exact q
 |brk=>exact q
 |cont=>exact q
theorem Inv.quiet(I:Inv X pI σ H s):interactive X.env=Ac:=by simp[interactive,I.ok.kind]
def gM(te:TE):TS:=fun D σ H=>te σ H fun _ H1=>D.nx σ H1
theorem LS(he:PE X e te)(hs:Dh e Ae pos.line X.env=pure Ac:=by rfl):PS X (.Expr e pos) (gM te):=by
 intro pI s σ H D I h;exact wpAny_Expr_any (thn (he pI s σ H _ I h) fun v s1 ⟨x,H1,I1,r1,q1⟩=>⟨σ,H1,I1,q1⟩) I.quiet hs
def lV(te:TE):TS:=fun D σ H=>te σ H D.rt
theorem NP(he:PE X e te):PS X (.Return (Aa e) pos) (lV te):=by
 intro pI s σ H D I h;exact wpAny_Return_some (thn (he pI s σ H _ I h) fun v s1 ⟨x,H1,I1,r1,q1⟩=>⟨x,σ,H1,I1,r1,q1⟩)
def mB(c:TT)(t u:TS):TS:=fun D σ H=>c σ H fun b H1=>if b=Ab then t D σ H1 else u D σ H1
theorem jZ{c:Ap}{a b:Ad A9}{tc:TT}(hc:PT X c tc)(ha:PSs X a t)(hb:PSs X b u):PS X (.If c a b pos) (mB tc t u):=by
 intro pI s σ H D I h;refine wpAny_If (thn (hc pI s σ H _ I h) fun d s1 ⟨H1,I1,q1⟩=>?_)
 cases d with
 |true=>exact ha pI s1 σ H1 D I1 q1
 |false=>exact hb pI s1 σ H1 D I1 q1
end
abbrev TG:=V->St->Hp->(St->Hp->Prop)->Prop
abbrev TGs:=Ad V->St->Hp->(St->Hp->Prop)->Prop
noncomputable def PG(X:Cx)(target:Ap)(t:TG):Prop:=
 ∀(pI:Pn)(s:As)(σ:St)(H:Hp)(v:V)(u:Ai)(Q:St->Hp->Prop),Inv X pI σ H s->BD v u->t v σ H Q ->
  Ay (model X.prog X.w) X.A (assign target X.env u) (fun _ s'=>∃ σ' H',Inv X pI σ' H' s'/\Q σ' H') X.xe s
noncomputable def PGs(X:Cx)(ts:Ad Ap)(t:TGs):Prop:=
 ∀(pI:Pn)(s:As)(σ:St)(H:Hp)(vs:Ad V)(us:Ad Ai)(Q:St->Hp->Prop),Inv X pI σ H s->Bf vs us->t vs σ H Q ->
  Ay (model X.prog X.w) X.A (assignInOrder ((B2 ts X.env).map (·.2)) us) (fun _ s'=>∃ σ' H',Inv X pI σ' H' s'/\Q σ' H') X.xe s
abbrev OO:=V->V->V->Hp->(Hp->Prop)->Prop
noncomputable def TF(X:Cx)(t:OO):Prop:=
 ∀(pI:Pn)(s:As)(σ:St)(H:Hp)(o i v:V)(ov iv u:Ai)(Q:Hp->Prop),Inv X pI σ H s->BD o ov->BD i iv->BD v u->t o i v H Q ->
  Ay (model X.prog X.w) X.A (setItem ov iv u) (fun _ s'=>∃ H',Inv X pI σ H' s'/\Q H') X.xe s
section
variable{X:Cx}{pos:AN}
def EN(i:Ag):TG:=fun v σ H Q=>Q (σ.set i (Aa v)) H
theorem K7(hN:X.N.Nodup)(hi:X.N[i]?=Aa x)(hx:Loc X.env.scope x)(hf:X.fn x=Ab\/X.env.scope.names.lookup x=Aa .local:=by first|exact .inl rfl|exact .inr rfl|assumption):PG X (.Name x pos) (EN i):=by
 intro pI s σ H v u Q I r h;exact VC (Np I hN hi hx r (fun s' I'=>⟨_,H,I',h⟩) hf)
def He:TGs:=fun vs σ H Q=>vs=[]/\Q σ H
def G7(t:TG)(u:TGs):TGs:=fun vs σ H Q=>∃ v r,vs=v::r/\t v σ H fun σ' H'=>u r σ' H' Q
theorem Qy:PGs X [] He:=by
 intro pI s σ H vs us Q I r h;obtain⟨e,h⟩:=h;subst e;cases r;exact assignInOrder_nil ⟨σ,H,I,h⟩
theorem Qr{t:TG}{u:TGs}(h1:PG X e t)(h2:PGs X es u)(hs:(B2 (e::es) X.env).map (·.2)=assign e X.env::(B2 es X.env).map (·.2):=by rfl):PGs X (e::es) (G7 t u):=by
 intro pI s σ H vs us Q I r h;obtain⟨v,vr,e1,h⟩:=h;subst e1;cases r with
 |cons r rr=>
  rw[hs];refine assignInOrder_cons (thn (h1 pI s σ H _ _ _ I r h) fun _ s1 ⟨σ1,H1,I1,q1⟩=>?_)
  exact h2 pI s1 σ1 H1 _ _ Q I1 rr q1
def Kl(K:Fg)(n:Ag)(t:TGs):TG:=fun v σ H Q=>∃ a xs,v=.ref a/\SqT K H a xs/\xs.length=n/\t xs σ H Q
theorem NL{t:TGs}(hc:X.calm=Ab)(h:PGs X es t)(hn:(B2 es X.env).length=n:=by rfl)(hst:(B2 es X.env).findIdx? (·.1)=Ae:=by rfl):PG X (.Tuple es k pos) (Kl X.K n t):=by
 intro pI s σ H v u Q I r hw;obtain⟨a,xs,e1,hq,hl,hw⟩:=hw;subst e1;cases r;obtain⟨its,rv,ht,hz⟩:=I.tuple hq;refine assign_Tuple_tuple (I.ok.hd hc) ht (by simp[hn,<-hl,rv.length]) hst fun h' hx=>?_
 have I1:Inv X pI σ H {s with heap:=h'}:=I.kept (t':=s.toks) fun b o e=>hx b o (Bb (AH e)) e
 exact h pI _ σ H xs _ Q I1 (by simpa using rv) hw
def mR(to ti:TE)(t:OO):TG:=fun v σ H Q=>to σ H fun o H1=>ti σ H1 fun i H2=>t o i v H2 fun H3=>Q σ H3
theorem dY{o i:Ap}{to ti:TE}{t:OO}(ho:PE X o to)(hi:PE X i ti)(hs:TF X t)(ha:∀ v,assign (.Subscript o i pos) X.env v=(do
   let ov <-holding [v] (eval o X.env)
   let iv <-holding [v,ov] (eval i X.env)
   IT pos
   holding [v,ov,iv] (setItem ov iv v)
   release [v,ov,iv] []):=by intro _;rfl):PG X (.Subscript o i pos) (mR to ti t):=by
 intro pI s σ H v u Q I r h;rw[ha];refine Am (Ca (thn (ho pI s σ H _ I h) fun ov s1 ⟨x,H1,I1,r1,q1⟩=>?_))
 refine Am (Ca (thn (hi pI s1 σ H1 _ I1 q1) fun iv s2 ⟨y,H2,I2,r2,q2⟩=>?_))
 refine Am (DE (Am (Ca (thn (hs pI s2 σ H2 x y v ov iv u _ I2 r1 r2 r q2) fun _ s3 ⟨H3,I3,q3⟩=>?_))))
 exact wpAny_release ⟨σ,H3,I3,q3⟩
def Mp(te:TE)(g:TG):TS:=fun D σ H=>te σ H fun x H1=>g x σ H1 D.nx
theorem RD{g:TG}(he:PE X e te)(hg:PG X tg g)(hs:Gy [tg] e pos.line X.env=pure Ac:=by rfl)(hw:FH [tg] e X.env=pure Ae:=by rfl)(h1:(B2 [tg] X.env).map (·.2)=[assign tg X.env]:=by rfl):PS X (.Assign [tg] e pos) (Mp te g):=by
 intro pI s σ H D I h;refine wpAny_Assign_stores (thn (he pI s σ H _ I h) fun v s1 ⟨x,H1,I1,r1,q1⟩=>?_) hs hw
 rw[h1];exact thn (hg pI s1 σ H1 x v _ I1 r1 q1) fun _ s2 q=>q
theorem Mg{pos':AN}(hN:X.N.Nodup)(hi:X.N[i]?=Aa x)(hx:Loc X.env.scope x)(he:PE X e te)(hs:Dh e (Aa (.Name x pos')) pos.line X.env=pure Ac:=by rfl)(hf:X.fn x=Ab\/X.env.scope.names.lookup x=Aa .local:=by first|exact .inl rfl|exact .inr rfl|assumption):PS X (.Assign [.Name x pos'] e pos) (Mp te (EN i)):=by
 intro pI s σ H D I h;refine wpAny_Assign_Name (thn (he pI s σ H _ I h) fun v s1 ⟨y,H1,I1,r1,q1⟩=>?_) hs
 exact Np I1 hN hi hx r1 (fun s2 I2=>⟨_,H1,I2,q1⟩) hf
end
section
variable{X:Cx}{pos:AN}
end
structure It where
 go:Ag->Hp->Prop
 yld:Ag->Hp->V->Hp->Prop
 stop:Ag->Hp->Prop
noncomputable def Go(X:Cx)(pI:Pn)(H:Hp)(b:Aj):Prop:=
 H b=Ae/\b≠X.env.locals/\b∉X.fs/\(b∈X.ex\/X.s₀.heap.objs.size<=b)/\(∀ x c,X.env.cells.lookup x=Aa c->c≠b)/\∀ p∈X.pn++pI,p.1≠b
theorem Inv.fpOk{H':Hp}(I:Inv X pI σ H s)(hb:s.heap.objs.size<=b)(hn:H' b=Ae):Go X pI H' b:=by
 refine⟨hn,Eg (AR I.lt hb),I.nofs hb,.inr (Co I.sz hb),fun x c e z=>?_,fun p hp z=>?_⟩
 ·obtain⟨v,q⟩:=I.cell x c e;exact absurd (AR q.lt (by rw[z];exact hb)) (Bu _)
 ·exact absurd (AR (AH (I.pin p hp).1) (by rw[z];exact hb)) (Bu _)
structure Turn (P:AS) (w:AC) (K:Fg) (tg:Ap) (J:It) (fp:Ad Aj) (it:Aj) (tn:Ag->AD->Prop):Prop where
 mem:it∈fp
 obj:∀ i h,tn i h->∀ b∈fp,∃ o,h.get? b=Aa o/\∀ v,o.data≠.cell v
 keep:∀ i h h',tn i h->(∀ b∈fp,∀ o,h.get? b=Aa o->h'.get? b=Aa o)->tn i h'
 item:∀(X:Cx),X.prog=P->X.w=w->X.K=K->X.calm=Ab->∀(i:Ag)(pI:Pn)(s:As)(σ:St)(H:Hp)(E:Vq),Inv X pI σ H s->(∀ b∈fp,Go X pI H b)->tn i s.heap->J.go i H ->
  Ay (model P w) X.A (HL (.ref it)) (fun r s1=>∃ u,r=Aa u /\
   Ay (model P w) X.A (F5 tg (.ref it) u) (fun _ s2=>∃ x H',Inv X pI σ H' s2/\BD x u/\J.yld i H x H'/\tn (i+1) s2.heap/\∀ b∈fp,H' b=Ae) E s1) E s
 done:∀(X:Cx),X.prog=P->X.w=w->X.K=K->X.calm=Ab->∀(i:Ag)(pI:Pn)(s:As)(σ:St)(H:Hp)(E:Vq),Inv X pI σ H s->(∀ b∈fp,Go X pI H b)->tn i s.heap->J.stop i H ->
  Ay (model P w) X.A (HL (.ref it)) (fun r s1=>r=Ae/\Inv X pI σ H s1) E s
 self:∀(A:AZ)(i:Ag)(s:As)(Q:Vq)(E:Vq),tn i s.heap->Q (.ref it) s->Ay (model P w) A (KD (.ref it)) Q E s
abbrev TI:=St->Hp->(It->Hp->Prop)->Prop
noncomputable def PIE(X:Cx)(pI:Pn)(σ:St)(tg:Ap)(R:It->Hp->Prop)(itv:Ai)(s2:As):Prop:=
 ∃(it:Aj)(fp:Ad Aj)(tn:Ag->AD->Prop)(J:It)(H':Hp),itv=.ref it/\Inv X pI σ H' s2/\Turn X.prog X.w X.K tg J fp it tn/\tn 0 s2.heap/\(∀ b∈fp,Go X pI H' b)/\R J H'
noncomputable def PI(X:Cx)(tg iter:Ap)(wi:TI):Prop:=
 ∀(pI:Pn)(s:As)(σ:St)(H:Hp)(R:It->Hp->Prop),Inv X pI σ H s->wi σ H R ->
  Ay (model X.prog X.w) X.A (eval iter X.env) (fun v s1=>Ay (model X.prog X.w) X.A (KD v) (PIE X pI σ tg R) X.xe s1) X.xe s
theorem Oh{A:AZ}{E:Vq}{n:Dv}{vs:Bk Ai}(ho:s.heap.get? it=Aa o)(hc:o.cls=.type n)(hd:o.data=.fields vs)(hn:["enumerate", "zip", "dict_itemiterator", "dict_reverseitemiterator", "odict_iterator", "itertools.zip_longest", "itertools.pairwise"].contains n=Ac)(hQ:Q () s):Ay M A (F5 tg (.ref it) u) Q E s:=by
  unfold F5;cases tg<;>first
    |exact AK hQ
    | (cases u<;>first
        |exact AK hQ
        | (refine Am (wpAny_load ho ?_)
           rw[hc,hd];show Ay M A (if (["enumerate", "zip", "dict_itemiterator", "dict_reverseitemiterator", "odict_iterator", "itertools.zip_longest", "itertools.pairwise"].contains n&&vs[0]? == Aa (DU _))=Ab then _ else _) Q E s
           rw[AA (by intro h;rw[hn,Bool.false_and]at h;cases h)]
           exact AK hQ))
noncomputable def Itl(K:Fg)(a:Aj):It:=
 ⟨fun i H=>∃ xs x,SqL K H a xs/\xs[i]?=Aa x,fun i H x H'=>H'=H/\∀ xs,SqL K H a xs->xs[i]?=Aa x,fun i H=>∃ xs,SqL K H a xs/\xs.length<=i⟩
noncomputable def Itt(K:Fg)(a:Aj):It:=
 ⟨fun i H=>∃ xs x,SqT K H a xs/\xs[i]?=Aa x,fun i H x H'=>H'=H/\∀ xs,SqT K H a xs->xs[i]?=Aa x,fun i H=>∃ xs,SqT K H a xs/\xs.length<=i⟩
noncomputable def Itr(lo:Af)(n:Ag):It:=⟨fun i _=>i<n,fun i H x H'=>H'=H/\x=.int (lo+i),fun i _=>n<=i⟩
theorem Wo{w:AC}{K:Fg}(a it:Aj):Turn P w K tg (Itl K a) [it] it (fun i h=>h.IsListIter it a i) where
  mem:=by simp
  obj:=fun i h st b hb=>by
    have e:b=it:=by simpa using hb
    subst e;obtain⟨o,e,c,d⟩:=st;exact⟨o,e,fun v z=>by rw[d]at z;cases z⟩
  keep:=fun i h h' st k=>st.at fun o e=>k it (by simp) o e
  item:=by
    intro X hP hw hK hc i pI s σ H E I hf st hg;subst hP hw hK;obtain⟨xs,x,hq,hx⟩:=hg;obtain⟨its,rv,p,hz⟩:=I.list hq;obtain⟨u,hu,ru⟩:=rv.get hx;obtain⟨f0,f1,f2,f3,f4,f5⟩:=hf it (by simp)
    refine VH st p.isList (x:=u) (by simpa using hu) fun h' st' sb=>?_
    have I1:Inv X pI σ H {s with heap:=h'}:=I.turned (t':=s.toks) (fun b o hb e=>(sb.2 b hb).trans e) f0 f1 f3 f4 f5
    obtain⟨o,e,c,d⟩:=id st';exact⟨u,rfl,Oh (s:={s with heap:=h'}) e c d (by decide) ⟨x,H,I1,ru,⟨rfl,fun ys hy=>by rw[I.list_inj hy hq];exact hx⟩,st',fun b hb=>(hf b hb).1⟩⟩
  done:=by
    intro X hP hw hK hc i pI s σ H E I hf st hg;subst hP hw hK;obtain⟨xs,hq,hx⟩:=hg;obtain⟨its,rv,p,hz⟩:=I.list hq;obtain⟨f0,f1,f2,f3,f4,f5⟩:=hf it (by simp)
    have hl:=rv.length;exact VG (I.ok.hd hc) st p.isList (by simp;omega) fun h' eb=>⟨rfl,I.turned (t':=s.toks) (fun b o hb e=>eb b o hb e) f0 f1 f3 f4 f5⟩
  self:=fun _ _ _ _ _ st h=>wpAny_pyIter_listiter st h
theorem V5{w:AC}{K:Fg}(a it:Aj):Turn P w K tg (Itt K a) [it] it (fun i h=>h.IsTupleIter it a i) where
  mem:=by simp
  obj:=fun i h st b hb=>by
    have e:b=it:=by simpa using hb
    subst e;obtain⟨o,e,c,d⟩:=st;exact⟨o,e,fun v z=>by rw[d]at z;cases z⟩
  keep:=fun i h h' st k=>st.at fun o e=>k it (by simp) o e
  item:=by
    intro X hP hw hK hc i pI s σ H E I hf st hg;subst hP hw hK;obtain⟨xs,x,hq,hx⟩:=hg;obtain⟨its,rv,p,hz⟩:=I.tuple hq;obtain⟨u,hu,ru⟩:=rv.get hx;obtain⟨f0,f1,f2,f3,f4,f5⟩:=hf it (by simp)
    refine wpAny_pyNext_tuple_item st (show s.heap.IsTuple a its.toArray from p) (x:=u) (by simpa using hu) fun h' st' sb=>?_
    have I1:Inv X pI σ H {s with heap:=h'}:=I.turned (t':=s.toks) (fun b o hb e=>(sb.2 b hb).trans e) f0 f1 f3 f4 f5
    obtain⟨o,e,c,d⟩:=id st';exact⟨u,rfl,Oh (s:={s with heap:=h'}) e c d (by decide) ⟨x,H,I1,ru,⟨rfl,fun ys hy=>by rw[I.tuple_inj hy hq];exact hx⟩,st',fun b hb=>(hf b hb).1⟩⟩
  done:=by
    intro X hP hw hK hc i pI s σ H E I hf st hg;subst hP hw hK;obtain⟨xs,hq,hx⟩:=hg;obtain⟨its,rv,p,hz⟩:=I.tuple hq;obtain⟨f0,f1,f2,f3,f4,f5⟩:=hf it (by simp)
    have hl:=rv.length;exact wpAny_pyNext_tuple_end (I.ok.hd hc) st (show s.heap.IsTuple a its.toArray from p) (by simp;omega) fun h' eb=>⟨rfl,I.turned (t':=s.toks) (fun b o hb e=>eb b o hb e) f0 f1 f3 f4 f5⟩
  self:=fun _ _ _ _ _ st h=>wpAny_pyIter_tupleiter st h
theorem V6{w:AC}{K:Fg}(it:Aj)(lo:Af)(n:Ag):Turn P w K tg (Itr lo n) [it] it (fun i h=>IsRangeIter h it (lo+(i:Ag)*1) ((n:Af)-(i:Ag)) 1) where
  mem:=by simp
  obj:=fun i h st b hb=>by
    have e:b=it:=by simpa using hb
    subst e;exact⟨_,st,fun v z=>by
      have z':Data.fields _=Kv v:=z;cases z'⟩
  keep:=fun i h h' st k=>k it (by simp) _ st
  item:=by
    intro X hP hw hK hc i pI s σ H E I hf st hg;subst hP hw hK;obtain⟨f0,f1,f2,f3,f4,f5⟩:=hf it (by simp)
    have W:=Walks.range (prog:=X.prog) (w:=X.w) (I.ok.hd hc) it lo 1 n;refine W.item i s _ _ hg st fun v h' tk hv st' kk=>?_
    obtain⟨t,rfl⟩:=hv;have I1:Inv X pI σ H {s with heap:=h',toks:=tk}:=I.turned (fun b o hb e=>kk b o (by simpa using hb) e) f0 f1 f3 f4 f5
    refine⟨_,rfl,Oh (s:={s with heap:=h',toks:=tk}) (n := "range_iterator") st' rfl rfl (by decide) ⟨.int (lo+i),H,I1,⟨t,?_⟩,⟨rfl,rfl⟩,st',fun b hb=>(hf b hb).1⟩⟩
    rw[EH]
  done:=by
    intro X hP hw hK hc i pI s σ H E I hf st hg;subst hP hw hK;obtain⟨f0,f1,f2,f3,f4,f5⟩:=hf it (by simp)
    exact wpAny_pyNext_range_end (I.ok.hd hc) st (by have:n<=i:=hg;omega) fun h' eb=>⟨rfl,I.turned (t':=s.toks) (fun b o hb e=>eb b o hb e) f0 f1 f3 f4 f5⟩
  self:=fun _ _ _ _ _ st h=>wpAny_pyIter_rangeiter st h
section
variable{X:Cx}{tg:Ap}
theorem Qp{R:It->Hp->Prop}{E:Vq}{lo hi:Af}{t u v:CN}{tk:Ag}(I:Inv X pI σ H s)(h1:-(2 ^ 62)<=lo)(h2:lo<2 ^ 62)(h3:-(2 ^ 62)<=hi)(h4:hi<2 ^ 62)(q:R (Itr lo (hi-lo).toNat) H):Ay (model X.prog X.w) X.A (KD (.ref s.heap.objs.size)) (PIE X pI σ tg R) E { s with heap:=s.heap.push { cls:=.type "range", data:=.fields #[.int lo t,.int hi u,.int 1 v] },toks:=tk }:=by
 refine wpAny_pyIter_range (IsRange.new ..) (small_one h1 h2 h3 h4) ?_;have I1:Inv X pI σ H { s with heap:=s.heap.push { cls:=.type "range", data:=.fields #[.int lo t,.int hi u,.int 1 v] },toks:=tk }:=I.kept fun b o e=>Au _ e
 refine⟨(s.heap.push { cls:=.type "range", data:=.fields #[.int lo t,.int hi u,.int 1 v] }).objs.size,[(s.heap.push { cls:=.type "range", data:=.fields #[.int lo t,.int hi u,.int 1 v] }).objs.size],_,_,H,rfl,
  I1.kept (t':=tk) fun b o e=>Au _ e,V6 _ lo (hi-lo).toNat,?_,fun b hb=>?_,q⟩
 ·have e1:lo+((0:Ag):Af)*1=lo:=by simp
  have e2:(((hi-lo).toNat:Ag):Af)-((0:Ag):Af)=Builtin.Range.rangeSize lo hi 1:=by rw[rangeSize_one];split<;>omega
  show IsRangeIter _ _ (lo+((0:Ag):Af)*1) ((((hi-lo).toNat:Ag):Af)-((0:Ag):Af)) 1;rw[e1,e2];exact AO _ rfl
 ·have e:b=(s.heap.push { cls:=.type "range", data:=.fields #[.int lo t,.int hi u,.int 1 v] }).objs.size:=by simpa using hb
  subst e;exact I1.fpOk (AY _) (I1.hok.fresh (AY _))
def jC(ta:TA):TI:=fun σ H R=>ta σ H fun vs H1=>∃ j:Af,vs=[.int j]/\-(2 ^ 62)<=j/\j<2 ^ 62/\R (Itr 0 j.toNat) H1
def jB(ta:TA):TI:=fun σ H R=>ta σ H fun vs H1=>∃ i j:Af,vs=[.int i,.int j]/\(-(2 ^ 62)<=i/\i<2 ^ 62/\-(2 ^ 62)<=j/\j<2 ^ 62)/\R (Itr i (j-i).toNat) H1
theorem Wk{a:Ap}(hg:Gl X "range")(hm:X.mg "range" = Ae)(ha:PA X [a] ta)(hs:Az [a] X.env=[(Ac,eval a X.env)]:=by rfl):PI X tg (.Call (.Name "range" p) [a] [] pos) (jC ta):=by
 intro pI s σ H R I h;refine Call_ (Jq I hg hm boot_range (CU (thn (ha pos pI s σ H _ I h) fun us s1 ⟨vs,H1,I1,r1,q1⟩=>?_) hs rfl))
 obtain⟨j,e,q1,q2,q⟩:=q1;subst e;cases r1 with
 |cons r rr=>
  cases rr;obtain⟨t,rfl⟩:=r;exact call_range_1 (Qp I1 (by omega) (by omega) q1 q2 (by simpa using q))
theorem Wj{a b:Ap}(hg:Gl X "range")(hm:X.mg "range" = Ae)(ha:PA X [a,b] ta)(hs:Az [a,b] X.env=[(Ac,eval a X.env),(Ac,eval b X.env)]:=by rfl)(hs2:Az [b] X.env=[(Ac,eval b X.env)]:=by rfl):
  PI X tg (.Call (.Name "range" p) [a,b] [] pos) (jB ta):=by
 intro pI s σ H R I h;refine Call_ (Jq I hg hm boot_range (CU (thn (ha pos pI s σ H _ I h) fun us s1 ⟨vs,H1,I1,r1,q1⟩=>?_) (by rw[hs,hs2]) (by rw[hs2];rfl)))
 obtain⟨i,j,e,⟨q1,q2,q3,q4⟩,q⟩:=q1;subst e;cases r1 with
 |cons r rr=>
  cases rr with
  |cons r' rr=>
   cases rr;obtain⟨t,rfl⟩:=r;obtain⟨t',rfl⟩:=r';exact call_range_2 (Qp I1 q1 q2 q3 q4 q)
def mC(wi:TI)(g:TG)(tb:TS):TS:=fun D σ H=>wi σ H fun J H1=>∃ W:Ag->Ag->St->Hp->Prop,(∃ m,W 0 m σ H1)/\∀ i m σ H,W i m σ H ->
 (J.stop i H/\D.nx σ H)\/(J.go i H/\∃ N:St->Hp->Prop,(∀ σ' H',N σ' H'->∃ m',m'<m/\W (i+1) m' σ' H')/\∀ x H',J.yld i H x H'->g x σ H' fun σ2 H2=>tb {D with nx:=N,ct:=N,bk:=D.nx} σ2 H2)
noncomputable def Jo(fp:Ad Aj)(h:AD):Pn:=fp.filterMap fun b=>(h.get? b).map fun o=>(b,o)
theorem LH(hb:b∈fp)(e:h.get? b=Aa o):(b,o)∈Jo fp h:=List.mem_filterMap.mpr ⟨b,hb,by rw[e];rfl⟩
theorem Pe{p:Aj×CW}(hp:p∈Jo fp h):p.1∈fp/\h.get? p.1=Aa p.2:=by
 obtain⟨b,hb,e⟩:=List.mem_filterMap.mp hp;cases q:h.get? b with
 |none=>rw[q]at e;cases e
 |some o=>
  rw[q]at e;have e':(b,o)=p:=Bs e;subst e';exact⟨hb,q⟩
theorem Inv.pinned(I:Inv X pI σ H s)(hf:∀ b∈fp,Go X pI H b)(ho:∀ b∈fp,∃ o,s.heap.get? b=Aa o/\∀ v,o.data≠.cell v):Inv X (pI++Jo fp s.heap) σ H s:=
 I.pins_of fun p hp=>(Hk.mp hp).elim (fun z=>I.pin p (Bq _ z)) fun z=>by
  obtain⟨hb,e⟩:=Pe z;obtain⟨f0,f1,f2,_⟩:=hf p.1 hb;obtain⟨o,e',d⟩:=ho p.1 hb;rw[e]at e';cases e';exact⟨e,f0,f1,f2,d⟩
theorem Inv.unpinned{pl:Pn}(I:Inv X (pI++pl) σ H s):Inv X pI σ H s:=I.pins_of fun p hp=>I.pin p (Bq _ (FW _ hp))
theorem dQ{iter:Ap}{wi:TI}{g:TG}{tb:TS}(hp:E4 (model X.prog X.w) X.A X.env X.xe)(hc:X.calm=Ab)(hi:PI X tg iter wi)(hg:PG X tg g)(hb:PSs X body tb)(hs:∀ x,CO iter X.env x=pure x:=by intro _;rfl):PS X (.For tg iter body [] pos) (mC wi g tb):=by
 intro pI s σ H D I h;refine wpAny_For (thn (hi pI s σ H _ I h) fun v s1 h1=>thn h1 fun itv s2 h2=>?_) hs
 obtain⟨it,fp,tn,J,H2,e,I2,T,st2,f2,W,⟨m0,w0⟩,turn⟩:=h2;subst e
 -- what stays Ab of the iterator's objects through the loop
 have stat:∀{H':Hp},(∀ b∈fp,H' b=Ae)->∀ b∈fp,Go X pI H' b:=fun hn b hb=>⟨hn b hb,(f2 b hb).2⟩
 refine codeAny_forLoop_any (fun n s'=>∃ i σ' H',Inv X pI σ' H' s'/\tn i s'.heap/\(∀ b∈fp,H' b=Ae)/\W i n σ' H') ?_ m0 ⟨0,σ,H2,I2,st2,fun b hb=>(f2 b hb).1,w0⟩
 rintro n s3 ⟨i,σ3,H3,I3,st3,fr3,w3⟩;rcases turn i n σ3 H3 w3 with ⟨stop,qn⟩|⟨go,N,hN,step⟩
 ·refine EY hp (thn (T.done X rfl rfl rfl hc i pI s3 σ3 H3 X.xe I3 (stat fr3) st3 stop) fun r s4 ⟨hr,I4⟩=>?_)
  subst hr;exact EX ⟨σ3,H3,I4,qn⟩
 ·refine EY hp (thn (T.item X rfl rfl rfl hc i pI s3 σ3 H3 X.xe I3 (stat fr3) st3 go) fun r s4 ⟨u,hr,h4⟩=>?_)
  subst hr;refine EY hp (thn h4 fun _ s5 ⟨x,H5,I5,r5,y5,st5,fr5⟩=>?_)
  have I5':=I5.pinned (stat fr5) (T.obj _ _ st5);refine EY hp (thn (hg _ s5 σ3 H5 x u _ I5' r5 (step x H5 y5)) fun _ s6 ⟨σ6,H6,I6,q6⟩=>?_)
  refine EY hp (thn (hb _ s6 σ6 H6 _ I6 q6) fun f s7 q7=>?_)
  have again:∀{σ7:St}{H7:Hp},Inv X (pI++Jo fp s5.heap) σ7 H7 s7->N σ7 H7->∃ m,m<n/\∃ i σ' H',Inv X pI σ' H' s7/\tn i s7.heap/\(∀ b∈fp,H' b=Ae)/\W i m σ' H':=fun {σ7 H7} I7 n7=>by
   obtain⟨m',hm,w7⟩:=hN σ7 H7 n7;refine⟨m',hm,i+1,σ7,H7,I7.unpinned,T.keep _ _ _ st5 fun b hb o e=>(I7.pin (b,o) (Bq _ (Bq _ (LH hb e)))).1,fun b hb=>?_,w7⟩
   obtain⟨o,e,d⟩:=T.obj _ _ st5 b hb;exact(I7.pin (b,o) (Bq _ (Bq _ (LH hb e)))).2.1
  cases f with
  |next=>obtain⟨σ7,H7,I7,n7⟩:=q7;exact again I7 n7
  |cont=>obtain⟨σ7,H7,I7,n7⟩:=q7;exact again I7 n7
  |brk=>obtain⟨σ7,H7,I7,q7⟩:=q7;exact⟨σ7,H7,I7.unpinned,q7⟩
  |ret v=>obtain⟨x7,σ7,H7,I7,r7,q7⟩:=q7;exact⟨x7,σ7,H7,I7.unpinned,r7,q7⟩
end
abbrev R2:=V->V->Hp->VK->Prop
variable{r:R2}
noncomputable def OpR(X:Cx)(f:Ai->Ai->Sem Ai)(r:R2):Prop:=
 ∀(pI:Pn)(s:As)(σ:St)(H:Hp)(x y:V)(v u:Ai)(Q:VK),Inv X pI σ H s->BD x v->BD y u->r x y H Q ->
  Ay (model X.prog X.w) X.A (f v u) (EP X pI σ Q) X.xe s
noncomputable def Ha(X:Cx)(f:Ai)(r:Ad V->Hp->VK->Prop):Prop:=
 ∀(pI:Pn)(s:As)(σ:St)(H:Hp)(xs:Ad V)(us:Ad Ai)(Q:VK),Inv X pI σ H s->Bf xs us->r xs H Q ->
  Ay (model X.prog X.w) X.A (call f us) (EP X pI σ Q) X.xe s
noncomputable def mZ(X:Cx)(r:V->Hp->(Ao->Hp->Prop)->Prop):Prop:=
 ∀(pI:Pn)(s:As)(σ:St)(H:Hp)(x:V)(v:Ai)(Q:Ao->Hp->Prop),Inv X pI σ H s->BD x v->r x H Q ->
  Ay (model X.prog X.w) X.A (truthy v) (TP X pI σ Q) X.xe s
def tOp(r:R2)(ta tb:TE):TE:=fun σ H Q=>ta σ H fun x H1=>tb σ H1 fun y H2=>r x y H2 Q
def rI(C:Af->Af->Prop)(g:Af->Af->V):R2:=fun x y H Q=>∃ i j,x=.int i/\y=.int j/\C i j/\Q (g i j) H
def rI0(g:Af->Af->V):R2:=fun x y H Q=>∃ i j,x=.int i/\y=.int j/\Q (g i j) H
section
variable{X:Cx}{a b c:Ap}{ta tb tc:TE}{pos:AN}
theorem OJ(ha:PE X a ta)(hb:PE X b tb){R:V->V->Hp->Prop}(I:Inv X pI σ H s)(h:ta σ H fun x H1=>tb σ H1 fun y H2=>R x y H2){Q:Vq}(hf:∀ v u s2 x y H2,Inv X pI σ H2 s2->BD x v->BD y u->R x y H2->Ay (model X.prog X.w) X.A (f v u) Q X.xe s2):Ay (model X.prog X.w) X.A (eval a X.env) (fun v s₁=>Ay (model X.prog X.w) X.A (eval b X.env) (fun u s₂=>Ay (model X.prog X.w) X.A (f v u) Q X.xe s₂) X.xe s₁) X.xe s:=by
 refine thn (ha pI s σ H _ I h) fun v s1 ⟨x,H1,I1,r1,q1⟩=>?_
 refine thn (hb pI s1 σ H1 _ I1 q1) fun u s2 ⟨y,H2,I2,r2,q2⟩=>?_
 exact hf v u s2 x y H2 I2 r1 r2 q2
theorem SM{op:GZ}(ho:OpR X (B0 op) r)(ha:PE X a ta)(hb:PE X b tb):PE X (.BinOp a op b pos) (tOp r ta tb):=by
 intro pI s σ H Q I h;exact wpAny_BinOp (OJ ha hb I h fun v u s2 x y H2 I2 rx ry q=>ho pI s2 σ H2 x y v u Q I2 rx ry q)
theorem opI{C:Af->Af->Prop}(rule:∀(i j:Af)(t u:CN)(s:As)(Q:Vq)(E:Vq),C i j->Q (.int (g i j) s.toks) {s with toks:=s.toks+1}->Ay (model X.prog X.w) X.A (f (.int i t) (.int j u)) Q E s):OpR X f (rI C fun i j=>.int (g i j)):=by
 intro pI s σ H x y v u Q I rx ry h;obtain⟨i,j,rfl,rfl,hc,q⟩:=h;obtain⟨t,rfl⟩:=rx;obtain⟨t',rfl⟩:=ry;exact rule i j t t' s _ _ hc ⟨.int (g i j),H,I.tok _,⟨_,rfl⟩,q⟩
theorem Tp(rule:∀(i j:Af)(t u:CN)(s:As)(Q:Vq)(E:Vq),Q (.int (g i j) s.toks) {s with toks:=s.toks+1}->Ay (model X.prog X.w) X.A (f (.int i t) (.int j u)) Q E s):OpR X f (rI0 fun i j=>.int (g i j)):=by
 intro pI s σ H x y v u Q I rx ry h;obtain⟨i,j,rfl,rfl,q⟩:=h;obtain⟨t,rfl⟩:=rx;obtain⟨t',rfl⟩:=ry;exact rule i j t t' s _ _ ⟨.int (g i j),H,I.tok _,⟨_,rfl⟩,q⟩
theorem Ms{g:Af->Af->Ao}(rule:∀(i j:Af)(t u:CN)(s:As)(Q:Vq)(E:Vq),Q (.bool (g i j)) s->Ay (model X.prog X.w) X.A (f (.int i t) (.int j u)) Q E s):OpR X f (rI0 fun i j=>.bl (g i j)):=by
 intro pI s σ H x y v u Q I rx ry h;obtain⟨i,j,rfl,rfl,q⟩:=h;obtain⟨t,rfl⟩:=rx;obtain⟨t',rfl⟩:=ry;exact rule i j t t' s _ _ ⟨.bl (g i j),H,I,rfl,q⟩
def mJ(i j:Af):Prop:=0<j/\j<1073741824
def mI(i j:Af):Prop:=0<=j/\j<=1000000/\i.natAbs<2 ^ 64
def Mz(i j:Af):Prop:=(-(2 ^ 64)<i/\i<2 ^ 64)\/(-(2 ^ 64)<j/\j<2 ^ 64)
theorem Mz.ok{i j:Af}(h:Mz i j):KA i j:=by
 rcases h with ⟨h1,h2⟩|⟨h1,h2⟩
 ·exact .of_left (intBits_le_64 h1 h2)
 ·exact .of_right (intBits_le_64 h1 h2)
theorem cO:OpR X (B0 .Add) (rI0 fun i j=>.int (i+j)):=Tp fun _ _ _ _ _ _ _ q=>add_int q
theorem cH:OpR X (B0 .Sub) (rI0 fun i j=>.int (i-j)):=Tp fun _ _ _ _ _ _ _ q=>sub_int q
theorem Zw:OpR X (B0 .FloorDiv) (rI mJ fun i j=>.int (i / j)):=opI fun i j _ _ _ _ _ hc q=>by
 have h1:(0:Af)<j:=hc.1;have h2:j<1073741824:=hc.2;exact floordiv_int (by omega) (by rw[Int.fdiv_eq_ediv_of_nonneg i (by omega)];exact q) (.inl (PyProof.noPylong_small (by omega)))
theorem cK:OpR X (B0 .Mod) (rI (fun _ j=>0<j) fun i j=>.int (i%j)):=opI fun i j _ _ _ _ _ hc q=>by
 have h1:(0:Af)<j:=hc;exact mod_int' (by omega) (by rw[Int.fmod_eq_emod_of_nonneg i (by omega)];exact q)
theorem cJ:OpR X (B0 .Pow) (rI mI fun i j=>.int (i ^ j.toNat)):=opI fun _ _ _ _ _ _ _ hc q=>pow_int_small hc.1 hc.2.1 hc.2.2 q
end
section
variable{X:Cx}{a b c:Ap}{ta tb tc:TE}{pos:AN}
theorem RQ{Q:VK}{k k':Ao}(I:Inv X pI σ H s)(q:Q (.bl k) H)(e:k=k'):EP X pI σ Q (.bool k') s:=by
 subst e;exact⟨.bl k,H,I,rfl,q⟩
theorem kI:OpR X (Ct .Lt) (rI0 fun i j=>.bl (decide (i<j))):=Ms fun _ _ _ _ _ _ _ q=>lt_int q
theorem kJ:OpR X (Ct .LtE) (rI0 fun i j=>.bl (decide (i<=j))):=Ms fun _ _ _ _ _ _ _ q=>le_int q
theorem kK:OpR X (Ct .Gt) (rI0 fun i j=>.bl (decide (j<i))):=Ms fun _ _ _ _ _ _ _ q=>gt_int q
theorem kL:OpR X (Ct .GtE) (rI0 fun i j=>.bl (decide (j<=i))):=Ms fun _ _ _ _ _ _ _ q=>ge_int q
theorem cN:OpR X (Ct .Is) (fun x y H Q=>y=.non/\Q (.bl (decide (x=.non))) H):=by
 intro pI s σ H x y v u Q I rx ry h;obtain⟨rfl,q⟩:=h;cases ry;refine is_none_gen (RQ I q ?_);cases x<;>first
  |(cases rx;rfl)
  |(obtain⟨t,rfl⟩:=rx;rfl)
theorem Zu:OpR X (Ct .IsNot) (fun x y H Q=>y=.non/\Q (.bl (!decide (x=.non))) H):=by
 intro pI s σ H x y v u Q I rx ry h;obtain⟨rfl,q⟩:=h;cases ry;refine isnot_none_gen (RQ I q ?_);cases x<;>first
  |(cases rx;rfl)
  |(obtain⟨t,rfl⟩:=rx;rfl)
theorem Zn(ho:OpR X (Ct op) r)(ha:PE X a ta)(hb:PE X b tb)(hm:Gx op b=Ac):PE X (.Compare a [op] [b] pos) (tOp r ta tb):=by
 intro pI s σ H Q I h;exact wpAny_Compare1 (OJ ha hb I h fun v u s2 x y H2 I2 rx ry q=>ho pI s2 σ H2 x y v u Q I2 rx ry q) hm
def Sh(t:TE):TT:=fun σ H Q=>t σ H fun x H'=>∃ k,x=.bl k/\Q k H'
theorem Ze(ho:OpR X (Ct op) r)(ha:PE X a ta)(hb:PE X b tb)(hm:Gx op b=Ac):PT X (.Compare a [op] [b] pos) (Sh (tOp r ta tb)):=by
 intro pI s σ H Q I h;refine wpAny_isTrue_Compare1 (thn (ha pI s σ H _ I h) fun v s1 ⟨x,H1,I1,r1,q1⟩=>thn (hb pI s1 σ H1 _ I1 q1) fun u s2 ⟨y,H2,I2,r2,q2⟩=>
  thn (ho pI s2 σ H2 x y v u _ I2 r1 r2 q2) fun c s3 ⟨z,H3,I3,r3,k,e,q3⟩=>?_) hm
 subst e;cases r3;exact Cu ⟨H3,I3,q3⟩
def R0(r r':R2)(ta tb tc:TE):TE:=fun σ H Q=>ta σ H fun x H1=>tb σ H1 fun y H2=>r x y H2 fun z H3=>∃ k,z=.bl k /\
 (if k=Ab then tc σ H3 fun w' H4=>r' y w' H4 Q else Q (.bl Ac) H3)
theorem W9{op':D4}{r':R2}(ho:OpR X (Ct op) r)(ho':OpR X (Ct op') r')(ha:PE X a ta)(hb:PE X b tb)(hc:PE X c tc)(hm:IA [op,op'] [b,c]=Ac:=by with_unfolding_all rfl):PE X (.Compare a [op,op'] [b,c] pos) (R0 r r' ta tb tc):=by
 intro pI s σ H Q I h;refine Compare_chain (thn (ha pI s σ H _ I h) fun v s1 ⟨x,H1,I1,r1,q1⟩=>chain_link (thn (hb pI s1 σ H1 _ I1 q1) fun u s2 ⟨y,H2,I2,r2,q2⟩=>
  thn (ho pI s2 σ H2 x y v u _ I2 r1 r2 q2) fun d s3 ⟨z,H3,I3,r3,k,e,q3⟩=>?_)) hm
 subst e;cases r3;refine Cu ?_;cases k with
 |false=>exact ite_ff ⟨.bl Ac,H3,I3,rfl,q3⟩
 |true=>exact ite_tt (chain_last (thn (hc pI s3 σ H3 _ I3 q3) fun w' s4 ⟨z',H4,I4,r4,q4⟩=>ho' pI s4 σ H4 y z' u w' Q I4 r2 r4 q4))
theorem W5{op':D4}{r':R2}(ho:OpR X (Ct op) r)(ho':OpR X (Ct op') r')(ha:PE X a ta)(hb:PE X b tb)(hc:PE X c tc)(hm:IA [op,op'] [b,c]=Ac:=by with_unfolding_all rfl):PT X (.Compare a [op,op'] [b,c] pos) (Sh (R0 r r' ta tb tc)):=by
 intro pI s σ H Q I h;refine isTrue_chain (thn (ha pI s σ H _ I h) fun v s1 ⟨x,H1,I1,r1,q1⟩=>test_link (thn (hb pI s1 σ H1 _ I1 q1) fun u s2 ⟨y,H2,I2,r2,q2⟩=>
  thn (ho pI s2 σ H2 x y v u _ I2 r1 r2 q2) fun d s3 ⟨z,H3,I3,r3,k,e,q3⟩=>?_)) hm
 subst e;cases r3;refine Cu ?_;cases k with
 |false=>
  obtain⟨k',e',q'⟩:=q3;cases e';exact ite_ff ⟨H3,I3,q'⟩
 |true=>
  refine ite_tt (test_last (thn (hc pI s3 σ H3 _ I3 q3) fun w' s4 ⟨z',H4,I4,r4,q4⟩=>thn (ho' pI s4 σ H4 y z' u w' _ I4 r2 r4 q4) fun d' s5 ⟨z2,H5,I5,r5,k2,e2,q5⟩=>?_))
  subst e2;cases r5;exact Cu ⟨H5,I5,q5⟩
noncomputable def TD(K:Fg)(x:V)(H:Hp)(k:Ao):Prop:=
  match x with
  |.non=>k=Ac
  |.bl b=>k=b
  |.int i=>k=(i != 0)
  |.str y=>y.length<=sizeLine/\k=((y.length:Af) != 0)
  |.byt y=>y.size<=sizeLine/\k=((y.size:Af) != 0)
  |.ref p=>(∃ xs,SqL K H p xs/\k=!xs.isEmpty)\/(∃ xs,SqT K H p xs/\k=!xs.isEmpty)\/∃ kvs,H p=Aa (.dK kvs)/\k=!kvs.isEmpty
  |_=>AU
theorem V0{κ:Type}{kvs:Ad (κ×V)}{vs:Ad (κ×Ai)}(r:KV kvs vs):(!vs.isEmpty)=!kvs.isEmpty:=by
 cases r<;>rfl
theorem Pl{its:Ad Ai}(r:Bf xs its):(!its.toArray.isEmpty)=!xs.isEmpty:=by
 cases r<;>simp
theorem Kb:(sizeLine:Ag)<2 ^ 63:=by rw[Ds];decide
theorem bR:mZ X (fun x H Q=>∃ k,TD X.K x H k/\Q k H):=by
 intro pI s σ H x v Q I rx h;obtain⟨k,e,q⟩:=h;have hl:=Kb;have hs:sizeLine=16777216:=Ds;cases x with
 |non=>
  cases rx;have e':k=Ac:=e;subst e';exact truthy_none ⟨H,I,q⟩
 |bl b=>
  cases rx;have e':k=b:=e;subst e';exact Cu ⟨H,I,q⟩
 |int i=>
  obtain⟨t,rfl⟩:=rx;have e':k=(i != 0):=e;subst e';exact PySem.P.truthy_int ⟨H,I,q⟩
 |str y=>
  obtain⟨t,rfl⟩:=rx;obtain⟨hy,e'⟩:y.length<=sizeLine/\k=((y.length:Af) != 0):=e;subst e';exact PySem.P.truthy_str (by omega) ⟨H,I.tok _,q⟩
 |byt y=>
  obtain⟨t,rfl⟩:=rx;obtain⟨hy,e'⟩:y.size<=sizeLine/\k=((y.size:Af) != 0):=e;subst e';exact PySem.W.truthy_bytes (by omega) ⟨H,I.tok _,q⟩
 |ref p=>
  cases rx;have e':(∃ xs,SqL X.K H p xs/\k=!xs.isEmpty)\/(∃ xs,SqT X.K H p xs/\k=!xs.isEmpty)\/∃ kvs,H p=Aa (.dK kvs)/\k=!kvs.isEmpty:=e;rcases e' with ⟨xs,hx,e'⟩|⟨xs,hx,e'⟩|⟨kvs,hx,e'⟩
  ·subst e';obtain⟨its,r,pl,hz⟩:=I.list hx;have hlen:=r.length;exact wpAny_truthy_list pl.isList (by simp only[AQ];omega) ⟨H,I.tok _,by rw[Pl r];exact q⟩
  ·subst e';obtain⟨its,r,pl,hz⟩:=I.tuple hx;have hlen:=r.length;exact truthy_tuple pl (by simp only[AQ];omega) ⟨H,I.tok _,by rw[Pl r];exact q⟩
  ·subst e';obtain⟨hz,hS,vs,r,m⟩:kvs.length<=sizeLine/\(p==JH)=Ac/\∃ vs,KV kvs vs/\s.heap.DictOf (NB X.prog X.w) p vs:=I.hok p _ hx;have hlen:kvs.length=vs.length:=Vc r;exact wpAny_truthy_dict hS m (by omega) ⟨H,I.tok _,by rw[V0 r];exact q⟩
 |_=>exact(show AU from e).elim
theorem W4(ha:PE X a ta)(he:∀ whole,HI a X.env whole=(do let v <-whole;IT a.pos;holding [v] (truthy v))):PT X a (fun σ H Q=>ta σ H fun x H'=>∃ k,TD X.K x H' k/\Q k H'):=by
 intro pI s σ H Q I h;exact isTrue_plain (thn (ha pI s σ H _ I h) fun v s1 ⟨x,H1,I1,r1,q1⟩=>bR pI s1 σ H1 x v Q I1 r1 q1) (he _)
theorem V9:OpR X (B0 .Add) (fun x y H Q=>∃ i j,x=.str i/\y=.str j/\i.length+j.length<=sizeLine/\Q (.str (i++j)) H):=by
 intro pI s σ H x y v u Q I rx ry h;obtain⟨i,j,rfl,rfl,hz,q⟩:=h;obtain⟨t,rfl⟩:=rx;obtain⟨t',rfl⟩:=ry;exact add_str (fun t' tk=>⟨.str (i++j),H,I.tok _,⟨_,rfl⟩,q⟩) hz
theorem Hb{x:V}(r:Bf [x] us):∃ u,us=[u]/\BD x u:=by
 cases r with
 |cons r1 r2=>cases r2;exact⟨_,rfl,r1⟩
theorem Js{x y:V}(r:Bf [x,y] us):∃ u w',us=[u,w']/\BD x u/\BD y w':=by
 cases r with
 |cons r1 r2=>
  cases r2 with
  |cons r3 r4=>cases r4;exact⟨_,_,rfl,r1,r3⟩
theorem WB(hc:X.calm=Ab):Ha X (.builtin "max") (fun xs H Q=>∃ i j,xs=[.int i,.int j]/\Q (.int (if j > i then j else i)) H):=by
 intro pI s σ H xs us Q I r h;obtain⟨i,j,rfl,q⟩:=h;obtain⟨u,w',rfl,⟨t,rfl⟩,⟨t',rfl⟩⟩:=Js r;refine max_two_ints (I.ok.hd hc) fun h' tk k=>⟨_,H,I.kept k,?_,q⟩
 by_cases hj:j > i
 ·rw[Aw hj,Aw hj];exact⟨_,rfl⟩
 ·rw[AA hj,AA hj];exact⟨_,rfl⟩
theorem WA(hc:X.calm=Ab):Ha X (.builtin "min") (fun xs H Q=>∃ i j,xs=[.int i,.int j]/\Q (.int (if j<i then j else i)) H):=by
 intro pI s σ H xs us Q I r h;obtain⟨i,j,rfl,q⟩:=h;obtain⟨u,w',rfl,⟨t,rfl⟩,⟨t',rfl⟩⟩:=Js r;refine min_two_ints (I.ok.hd hc) fun h' tk k=>⟨_,H,I.kept k,?_,q⟩
 by_cases hj:j<i
 ·rw[Aw hj,Aw hj];exact⟨_,rfl⟩
 ·rw[AA hj,AA hj];exact⟨_,rfl⟩
end
section
variable{prog:AS}{w:AC}{A:AZ}{E:Vq}{s:As}{K:Fg}{x dx C f:Aj}{mA:Ah->An Ai}{name:Ah}{v:Ai}
end
theorem Lr.some_of{o:An Ai}(r:Lr (Aa v) o):∃ u,o=Aa u/\BD v u:=by
 cases o with
 |none=>exact(show AU from r).elim
 |some u=>exact⟨u,rfl,r⟩
theorem Wu(r:BD v u):PySem.W.handedIn u=Ab:=by
 cases v with
 |non=>cases (show u=Dr from r);rfl
 |bl b=>cases (show u=JD b from r);rfl
 |int i=>obtain⟨t,e⟩:=(show ∃ t,u=Kw i t from r);cases e;rfl
 |str x=>obtain⟨t,e⟩:=(show ∃ t,u=Kx x t from r);cases e;rfl
 |byt b=>obtain⟨t,e⟩:=(show ∃ t,u=Vj b t from r);cases e;rfl
 |flt b=>obtain⟨t,e⟩:=(show ∃ t,u=Vk b t from r);cases e;rfl
 |ref a=>cases (show u=Ci a from r);rfl
 |ty n=>cases (show u=JE n from r);rfl
section
variable{P:AS}{w:AC}{H H':Hp}{h h':AD}{a C dx:Aj}{fs fs':Ad (Ah×V)}
end
section
variable{X:Cx}{pI:Pn}{σ:St}{H:Hp}{s:As}{a C dx:Aj}{fs:Ad (Ah×V)}{f:Ah}{v:V}{A:AZ}{E:Vq}
theorem ZF{prog:AS}{w:AC}{env:B5}{f:Ah}{Q:Vq}(hb:attributeBase e f env (eval e env)=eval e env)(h:Ay (model prog w) A (eval e env) (fun o s₁=>Ay (model prog w) A (getAttr o f Ab) Q E s₁) E s):Ay (model prog w) A (eval (.Attribute e f pos) env) Q E s:=
 Attribute_any_ h (by rw[arm_eval_Attribute,hb])
end
section
variable{X:Cx}{o e value:Ap}{f:Ah}{pos pos' tpos:AN}{ta tv:TE}
end
section
variable{X:Cx}{pI:Pn}{σ:St}{H:Hp}{s:As}{A:AZ}{E:Vq}{Q:Vq}{c:Ai}{b:Ao}
end
structure Room (k:Ag) (A:AZ):Prop where
 hd:A.handled=Ae
 dp:A.depth+3*k+5<Gg
 un:A.units+16*k+200<BZ
 gd:A.guards=Aa []
theorem Room.mono{j:Ag}{A:AZ}(r:Room k A)(h:j<=k):Room j A:=⟨r.hd,by have:=r.dp;omega,by have:=r.un;omega,r.gd⟩
theorem Room.deeper{A:AZ}(r:Room (k+1) A)(env:B5):Room k (A.deeper env):=
 ⟨r.hd,by have:=r.dp;show A.depth+1+3*k+5<_;omega,by have:=r.un;show A.units+3+16*k+200<_;omega,r.gd⟩
theorem VY{A:AZ}{C:Aj}:(A.under (.builtin "type.__call__" ⟨.ref C::us,kw⟩)).depth=A.depth+1:=by
 first|rfl|simp[Ip,Code.weight,Code.isCreation,Code.isGuard,Code.isCaller,UV,Iq,guardIds]
theorem VW{A:AZ}{C:Aj}:(A.under (.builtin "type.__call__" ⟨.ref C::us,kw⟩)).units=A.units+1:=by
 first|rfl|simp[Ip,Code.cUnits,UV,Iq]
theorem Room.depth{A:AZ}(r:Room k A):A.depth<Gg:=by have:=r.dp;omega
theorem Room.units{A:AZ}(r:Room k A):A.units+64<BZ:=by have:=r.un;omega
def lY:TA:=fun _ H Q=>Q [] H
def fV(ta:TE)(tr:TA):TA:=fun σ H Q=>ta σ H fun x H1=>tr σ H1 fun xs H2=>Q (x::xs) H2
section
variable{X:Cx}{e:Ap}{es:Ad Ap}{te:TE}{t:TA}{pos:AN}
theorem Gz:PA X [] lY:=fun _ _ _ _ H Q I h=>Calls.spliced_nil ⟨[],H,I,.nil,h⟩
theorem Eu(ha:PE X e te)(hr:PA X es t)(hs:Az (e::es) X.env=(Ac,eval e X.env)::Az es X.env:=by rfl):PA X (e::es) (fV te t):=by
 intro pos pI s σ H Q I h;rw[hs];show Ay _ _ (spliced ((Ac,eval e X.env)::B8 pos (Az es X.env))) _ _ s;refine Calls.spliced_cons (thn (ha pI s σ H _ I h) fun u s1 ⟨x,H1,I1,r1,q1⟩=>?_)
 exact thn (hr pos pI s1 σ H1 _ I1 q1) fun us s2 ⟨xs,H2,I2,r2,q2⟩=>⟨x::xs,H2,I2,.cons r1 r2,q2⟩
def lT(t:TA):TE:=fun σ H Q=>t σ H fun xs H1=>xs.length<=sizeLine/\∀ p,H1 p=Ae->Q (.ref p) (upd H1 p (.tup xs))
def lZ(t:TA):TE:=fun σ H Q=>t σ H fun xs H1=>xs.length<=sizeLine/\∀ p,H1 p=Ae->Q (.ref p) (upd H1 p (.lst xs))
theorem RE{x1}(h:PA X es t):PE X (.Tuple es x1 pos) (lT t):=by
 intro pI s σ H Q I hq;refine wpAny_Tuple_spliced (thn (h pos pI s σ H _ I hq) fun us s1 ⟨xs,H1,I1,r,z,q⟩=>⟨by rw[<-r.length];exact z,?_⟩)
 have hf:H1 s1.heap.objs.size=Ae:=I1.hok.fresh (AY _);refine⟨.ref s1.heap.objs.size,upd H1 s1.heap.objs.size (.tup xs),I1.laid (t':=s1.toks) (fun b u e=>Au _ e) (AY _) ?_,rfl,q _ hf⟩
 exact⟨z,us,r,⟨_,AO _ rfl,rfl,_,rfl⟩⟩
theorem eC(h:PA X es t):PE X (.List es pos) (lZ t):=by
 intro pI s σ H Q I hq;refine wpAny_List_spliced (thn (h pos pI s σ H _ I hq) fun us s1 ⟨xs,H1,I1,r,z,q⟩=>⟨by rw[<-r.length];exact z,?_⟩)
 have hf:H1 s1.heap.objs.size=Ae:=I1.hok.fresh (AY _);refine⟨.ref s1.heap.objs.size,upd H1 s1.heap.objs.size (.lst xs),I1.laid (t':=s1.toks) (fun b u e=>Au _ e) (AY _) ?_,rfl,q _ hf⟩
 exact⟨z,us,0,r,AO _ rfl⟩
end
abbrev Sp:=Ad V->Hp->VK->XK->Prop
variable{sp:Sp}
abbrev CXT:=Ad B5->Hp->As->XK->Ai->As->Prop
variable{CX:CXT}
structure Env0 (P:AS) (w:AC) (K:Fg) (mg:Ah->An Ai) (base:AD) (A:AZ) (outer:Ad B5) (s:As) (H:Hp):Prop where
 frames:A.frames=Aa outer
 mod:Mod K mg base
 bs:∀ b o,base.get? b=Aa o->s.heap.get? b=Aa o/\H b=Ae
 bsz:base.objs.size<=s.heap.objs.size
 funs:s.heap.FunFrames base outer
 frf:∀ b∈frs outer,H b=Ae
 hok:HOk P w H s.heap
 bare:Fh s.gens
noncomputable def CE(outer:Ad B5)(P:AS)(w:AC)(H:Hp)(s:As)(Q:VK)(u:Ai)(s':As):Prop:=
 ∃ v H',s'.os=s.os/\Fh s'.gens/\Un (frs outer) [] H H' s.heap s'.heap/\HOk P w H' s'.heap/\BD v u/\Q v H'
noncomputable def CR(CX:CXT)(outer:Ad B5)(P:AS)(w:AC)(H:Hp)(s:As)(Q:VK)(E:XK)(r:Ir)(s':As):Prop:=
  match r with
  |.ok (.ret u)=>CE outer P w H s Q u s'
  |.ok _=>AU
  |.error e=>CX outer H s E e s'
structure FnOk (P:AS) (w:AC) (K:Fg) (mg:Ah->An Ai) (base:AD) (CX:CXT) (k:Ag) (f:Aj) (fd:BP) (ps:Ad Ah) (sp:Sp):Prop where
 len:∀ vs H Q E,sp vs H Q E->vs.length=ps.length
 run:∀(A:AZ)(outer:Ad B5)(s:As)(H:Hp)(args:Args)(us:Ad Ai)(vs:Ad V)(Q:VK)(E:XK),Room k A->Env0 P w K mg base A outer s H->FT s fd args (ps.zip us)->Bf vs us->sp vs H Q E ->
  Fi (model P w) A (.call (.ref f) args) (CR CX outer P w H s Q E) s
theorem FnOk.imp{w:AC}{K:Fg}{mg:Ah->An Ai}{base:AD}{f:Aj}{sp':Sp}(F:FnOk P w K mg base CX k f fd ps sp)(h:∀ vs H Q E,sp' vs H Q E->sp vs H Q E):FnOk P w K mg base CX k f fd ps sp':=
 ⟨fun vs H Q E q=>F.len vs H Q E (h _ _ _ _ q),fun A outer s H args us vs Q E hr he hb hv hs=>F.run A outer s H args us vs Q E hr he hb hv (h _ _ _ _ hs)⟩
theorem Env0.make{w:AC}{K:Fg}{mg:Ah->An Ai}{base:AD}{A:AZ}{outer:Ad B5}(e:Env0 P w K mg base A outer s H)(C:Aj)(us:Ad Ai)(kw:Ad (Ah×Ai)):
    Env0 P w K mg base (A.under (.builtin "type.__call__" ⟨.ref C::us,kw⟩)) outer s H:=⟨by first|exact e.frames|(simpa [Ip,Code.envs,Iq,pushEnvs] using e.frames),e.mod,e.bs,e.bsz,e.funs,e.frf,e.hok,e.bare⟩
section
variable{X:Cx}{pI:Pn}{σ:St}{H:Hp}{s s':As}
theorem Inv.env0(I:Inv X pI σ H s):Env0 X.prog X.w X.K X.mg X.base X.A X.stack s H:=
 ⟨I.ok.frames,I.ok.mod,I.bs,Co I.ok.bsz I.sz,I.stack,I.stkFree,I.hok,I.bare⟩
theorem Inv.after{Q:VK}(I:Inv X pI σ H s)(h:CE X.stack X.prog X.w H s Q u s'):EP X pI σ Q u s':=by
 obtain⟨v,H',os,bare,un,hok,r,q⟩:=h;obtain⟨hh,g,d,t,os'⟩:=s';obtain rfl:os'=s.os:=os;exact⟨v,H',I.call (h':=hh) (g':=g) (d':=d) (t':=t) (ch:=[]) un hok bare (fun b z=>absurd z (by simp)),r,q⟩
end
def fW(sp:Sp)(dvs:Ad V)(E:XK)(t:TA):TE:=fun σ H Q=>t σ H fun vs H1=>sp (vs++dvs) H1 Q E
noncomputable def Fq(K:Fg)(fd:BP)(ps:Ad Ah)(ds:Ad Ai):Prop:=
 ∀(s:As)(us:Ad Ai),K.In s.heap->(us++ds).length=ps.length->FT s fd ⟨us,[]⟩ (ps.zip (us++ds))
theorem Fq.all{K:Fg}(h:∀ us:Ad Ai,us.length=ps.length->IZ fd ⟨us,[]⟩=pure (ps.zip us)):Fq K fd ps []:=fun s us _ hl=>by
 rw[Ce]at hl ⊢;exact .of_eq (h us hl)
def Ke(CX:CXT)(X:Cx)(E:XK):Prop:=∀(pI:Pn)(σ:St)(H:Hp)(s:As)(e:Ai)(s':As),Inv X pI σ H s->CX X.stack H s E e s'->X.xe e s'
section
variable{X:Cx}{CX:CXT}{k:Ag}{f C:Aj}{fd:BP}{ps:Ad Ah}{sp:Sp}{dvs:Ad V}{ds:Ad Ai}{E:XK}{x m:Ah}{p pos apos:AN}{e o:Ap}{es:Ad Ap}{ta:TE}{t:TA}
theorem aG{Q:VK}(F:FnOk X.prog X.w X.K X.mg X.base CX k f fd ps sp)(hr:Room k X.A)(hb:Fq X.K fd ps ds)(hd:Bf dvs ds)(hx:Ke CX X E)(I:Inv X pI σ H s)(r:Bf vs us)(h:sp (vs++dvs) H Q E):Ay (model X.prog X.w) X.A (call (.ref f) us) (EP X pI σ Q) X.xe s:=by
 have r2:Bf (vs++dvs) (us++ds):=r.append hd;have hl:(us++ds).length=ps.length:=by rw[<-r2.length];exact F.len _ _ _ _ h
 refine F6 (E5 (F.run X.A X.stack s H ⟨us,[]⟩ (us++ds) (vs++dvs) Q E hr I.env0 (hb s us I.kIn hl) r2 h) fun r s' hq=>?_)
 cases r with
 |error e=>exact hx pI σ H s e s' I hq
 |ok fl=>
  cases fl with
  |ret u=>exact I.after hq
  |next=>exact Bc hq
  |brk=>exact Bc hq
  |cont=>exact Bc hq
theorem QA(F:FnOk X.prog X.w X.K X.mg X.base CX k f fd ps sp)(hr:Room k X.A)(hg:Gl X x)(hm:X.mg x=Aa (.ref f))(hk:B1 X.K (.ref f)=Ab)(hb:Fq X.K fd ps ds)(hd:Bf dvs ds)(hx:Ke CX X E)(ha:PA X (e::es) t)(hdb:(x==("__debug__" : Ah))=Ac:=by decide)(he:Az (e::es) X.env=(Ac,eval e X.env)::Az es X.env:=by rfl)(hpl:(B8 pos (Az es X.env)).any (·.1)=Ac:=by rfl):PE X (.Call (.Name x p) (e::es) [] pos) (fW sp dvs E t):=by
 intro pI s σ H Q I h;refine D5 (IG I hg hm ?_ hdb);refine Gs (h₀:=X.base) I.ok.mod.kin hk (thn (ha pos pI s σ H _ I h) fun us s1 ⟨vs,H1,I1,r,q⟩=>⟨I1.kIn,?_⟩) he hpl
 exact aG F hr hb hd hx I1 r q
end
section
variable{X:Cx}{CX:CXT}{k:Ag}{f C:Aj}{fd:BP}{ps ks:Ad Ah}{sp:Sp}{E:XK}{x m:Ah}{p pos apos kpos:AN}{e o:Ap}{es:Ad Ap}{kws:Ad Keyword}{te ta:TE}{t tk:TA}{nm:An Ah}
variable{g:Ad Ai->Ad Ai->Ad Ai}{gV:Ad V->Ad V->Ad V}
end
structure FnScope (N P:Ad Ah) (sc:B9):Prop where
 kind:sc.kind=.function
 co:sc.isCoroutine=Ac
 gen:sc.isGenerator=Ac
 nd:N.Nodup
 pre:N.take P.length=P
 par:∀ x∈P,sc.names.lookup x=Aa .local\/sc.names.lookup x=Aa .cell
 nofree:∀ y∈sc.names,y.2≠.free
theorem PU{kindOf:Ah->An DT}{x:Ah}:∀{binds:Ad (Ah×Ai)}{m:Ah->An Ai},(∀ v,(x,v)∉binds)->HN kindOf binds m x=m x
 |[],_,_=>rfl
 |(n,v)::r,m,h=>by
  unfold HN;rw[PU fun w hw=>h w (Ax _ hw)]
  split
  ·have:x≠n:=by rintro rfl;exact h v AI
   simp[this]
  ·rfl
theorem PX{kindOf:Ah->An DT}{x:Ah}:∀{binds:Ad (Ah×Ai)}{m:Ah->An Ai},(∀ v,(x,v)∉binds)->HM kindOf binds m x=m x
 |[],_,_=>rfl
 |(n,v)::r,m,h=>by
  unfold HM;rw[PX fun w hw=>h w (Ax _ hw)]
  split
  ·rfl
  ·have:x≠n:=by rintro rfl;exact h v AI
   simp[this]
theorem PV{kindOf:Ah->An DT}{x:Ah}{v:Ai}:∀{P:Ad Ah}{vs:Ad Ai}{i:Ag}{m:Ah->An Ai},P.Nodup->P[i]?=Aa x->vs[i]?=Aa v->kindOf x=Aa .local->HN kindOf (P.zip vs) m x=Aa v
 |[],_,_,_,_,h,_,_=>by simp at h
 |_::_,[],_,_,_,_,h,_=>by simp at h
 |p::P,w::vs,0,m,nd,h1,h2,hk=>by
  simp at h1 h2;subst h1;subst h2;show HN kindOf ((p,w)::P.zip vs) m p=_;unfold HN;rw[PU fun v hv=>(CT.mp nd).1 (FX hv).1,Aw hk]
  simp
 |p::P,w::vs,i+1,m,nd,h1,h2,hk=>by
  show HN kindOf ((p,w)::P.zip vs) m x=_;unfold HN;exact PV (i:=i) (CT.mp nd).2 (by simpa using h1) (by simpa using h2) hk
theorem PY{kindOf:Ah->An DT}{x:Ah}{v:Ai}:∀{P:Ad Ah}{vs:Ad Ai}{i:Ag}{m:Ah->An Ai},P.Nodup->P[i]?=Aa x->vs[i]?=Aa v->kindOf x≠Aa .local->HM kindOf (P.zip vs) m x=Aa v
 |[],_,_,_,_,h,_,_=>by simp at h
 |_::_,[],_,_,_,_,h,_=>by simp at h
 |p::P,w::vs,0,m,nd,h1,h2,hk=>by
  simp at h1 h2;subst h1;subst h2;show HM kindOf ((p,w)::P.zip vs) m p=_;unfold HM;rw[PX fun v hv=>(CT.mp nd).1 (FX hv).1,AA hk]
  simp
 |p::P,w::vs,i+1,m,nd,h1,h2,hk=>by
  show HM kindOf ((p,w)::P.zip vs) m x=_;unfold HM;exact PY (i:=i) (CT.mp nd).2 (by simpa using h1) (by simpa using h2) hk
noncomputable def start(N:Ad Ah)(vs:Ad V):St:=vs.map Aa++Gf (N.length-vs.length) Ae
noncomputable def Eo(CX:CXT)(P:AS)(w:AC)(K:Fg)(mg:Ah->An Ai)(base:AD)(N:Ad Ah)(qual:Ah)(scope:B9)(f:Aj)(cd:Ai)(A:AZ)(outer:Ad B5)(s:As)(H:Hp)(E:XK):Cx where
 prog:=P
 w:=w
 K:=K
 mg:=mg
 base:=base
 A:=A.deeper (Eh qual scope s.heap.objs.size f cd)
 N:=N
 s₀:=s
 H₀:=H
 env:=Eh qual scope s.heap.objs.size f cd
 outer:=outer
 stack:=Eh qual scope s.heap.objs.size f cd::outer
 ex:=[]
 calm:=Ab
 fn:=fun _=>Ab
 pn:=[]
 xe:=fun e s'=>Ay (model P w) (A.deeper (Eh qual scope s.heap.objs.size f cd)) (leaving (Eh qual scope s.heap.objs.size f cd) e) (fun _ s''=>CX outer H s E e s'') (fun e' s''=>CX outer H s E e' s'') s'
theorem Qf{sc:B9}(h:sc.names.lookup x=Aa .cell):∃ c,(CF n sc.names []).lookup x=Aa c:=by
 have q:=FA sc.names n [] (.inl h);exact DR.mp q
theorem Nb{w:AC}{K:Fg}{mg:Ah->An Ai}{base:AD}{N ps:Ad Ah}{f:Aj}{cd:Ai}{A:AZ}{outer:Ad B5}{s1:As}{E:XK}(S:FnScope N ps scope)(hd:A.handled=Ae)(e0:Env0 P w K mg base A outer s H)(hl:vs.length=ps.length)(r:Bf vs us)(x:InCallC s s.heap.objs.size (HN (Eh qual scope s.heap.objs.size f cd).kindOf (ps.zip us) fun _=>Ae) (CF (s.heap.objs.size+1) scope.names []) (HM (Eh qual scope s.heap.objs.size f cd).kindOf (ps.zip us) fun _=>Ae) s1):Inv (Eo CX P w K mg base N qual scope f cd A outer s H E) [] (start N vs) H s1:=by
 have hpl:ps.length<=N.length:=by have:=congrArg Ur S.pre;rw[GV]at this;omega
 obtain⟨h1,tk,rfl,hk⟩:=x.done;have noA:∀ b:Aj,b∉(Eo CX P w K mg base N qual scope f cd A outer s H E).ex:=fun b z=>absurd (show b∈([]:Ad Aj) from z) (by simp)
 refine⟨⟨e0.mod,S.kind,rfl,rfl,AY _,fun y z c h1 h2=>?_,fun y hy=>?_,fun y c _ h=>?_,fun _=>hd,Around.frames_deeper e0.frames,.inr ⟨rfl,rfl⟩,fun b z=>absurd z (noA b),e0.bs,e0.bsz,fun b _ _=>noA b,fun b z=>absurd z (noA b),e0.funs,e0.frf⟩,
  rfl,e0.bare,Un.kept hk,⟨_,x.toInCall.ns,fun i y v h1 h2 h3=>?_⟩,fun y c h=>⟨_,x.cell y c h⟩,e0.hok.fresh (AY _),fun y c h=>?_,fun p hp=>absurd (show p∈([]:Pn) from hp) (by simp),e0.hok.kept hk,?_⟩
 ·exact name_of_addr x.apart (Cv h1) (Cv h2)
 ·have hy:scope.names.lookup y=Aa .cell\/scope.names.lookup y=Aa .free:=hy;rcases hy with hy|hy
  ·exact Qf hy
  ·exact absurd rfl (S.nofree _ (Cv hy))
 ·exact FY (x.above y c (Cv h))
 ·have hi:i<vs.length:=by
   unfold start at h2;by_cases hi:i<vs.length
   ·exact hi
   ·rw[Ul (by simpa using hi)]at h2
    rw[Up]at h2;split at h2<;>cases h2
  have ha:vs[i]?=Aa v:=by
   unfold start at h2;rw[ES (by simpa using hi),Fm]at h2
   cases e:vs[i]? with
   |none=>rw[e]at h2;cases h2
   |some a=>rw[e]at h2;cases h2;rfl
  obtain⟨u,hu,rv⟩:=r.get ha;have hp:ps[i]?=Aa y:=by
   rw[<-S.pre,List.getElem?_take_of_lt (by omega)];exact h1
  have ndP:ps.Nodup:=by rw[<-S.pre];exact S.nd.sublist (List.take_sublist _ _)
  refine⟨u,rv,?_⟩;rcases S.par y (Uy hp) with k|k
  ·exact .inl ⟨k,PV ndP hp hu k⟩
  ·obtain⟨c,e⟩:=Qf (n:=s.heap.objs.size+1) k;refine .inr ⟨.inl k,c,e,?_⟩;have q:=x.cell y c e;rw[PY ndP hp hu (by show scope.names.lookup y≠_;rw[k];decide)]at q
   exact q
 ·exact e0.hok.fresh (FY (x.above y c (Cv h)))
 ·unfold start;show _=N.length;rw[Dt,Cf,Uu];omega
theorem S4{w:AC}{K:Fg}{mg:Ah->An Ai}{base:AD}{f:Aj}{name:Ah}{params:Ku}{dV kV doc pm cdv ct oc:Ai}{an od:An Aj}{osl:Bk (An Ai)}{N ps:Ad Ah}(lk:K.lookup f=Aa ⟨oc,od,.func (CD name qual params body scope dV kV doc pm an cdv ct),osl⟩)(hcd:El K cdv qual=Ab)(S:FnScope N ps scope)(len:∀ vs H Q E,sp vs H Q E->vs.length=ps.length)(hbody:∀(A:AZ)(outer:Ad B5)(s:As)(H:Hp)(vs:Ad V)(Q:VK)(E:XK),Room k (A.deeper (Eh qual scope s.heap.objs.size f cdv))->sp vs H Q E ->
   ∃ t,PSs (Eo CX P w K mg base N qual scope f cdv A outer s H E) body t/\t {nx:=fun _ H'=>Q .non H',rt:=Q} (start N vs) H):FnOk P w K mg base CX (k+1) f (CD name qual params body scope dV kV doc pm an cdv ct) ps sp:=by
 refine⟨len,fun A outer s H args us vs Q E hr e0 hb r hsp=>?_⟩
 have hl:=len _ _ _ _ hsp;have KX:K.In s.heap:=e0.mod.kin.keeps fun b o e=>(e0.bs b o e).1
 have lim:s.heap.NoLimit:=e0.mod.nolimit.keeps fun b o e=>(e0.bs b o e).1
 have hkind:∀ y∈ps.zip us,scope.names.lookup y.1=Aa .local\/(scope.names.lookup y.1=Aa .cell/\((CF (s.heap.objs.size+1) scope.names []).lookup y.1).isSome=Ab):=fun ⟨n,v⟩ hy=>by
  rcases S.par n (FX hy).1 with q|q
  ·exact .inl q
  ·exact .inr ⟨q,FA _ _ _ (.inl q)⟩
 refine FU hr.depth (KX _ _ lk) rfl S.co S.gen rfl (Gu KX hcd) (hb _ _ _ _ ?_);refine EG S.kind hkind fun env he s1 x=>?_
 subst he;refine⟨lim.keeps x.toInCall.keep,Iy ?_⟩;obtain⟨t,ht,hq⟩:=hbody A outer s H vs Q E (hr.deeper _) hsp;have I:Inv (Eo CX P w K mg base N qual scope f cdv A outer s H E) [] (start N vs) H s1:=Nb S hr.hd e0 hl r x;refine Be (ht [] s1 (start N vs) H _ I hq) (fun fl s' hs=>?_) fun e s' hs=>hs
 have fin:∀{σ':St}{H':Hp}{v:V}{u:Ai},Inv (Eo CX P w K mg base N qual scope f cdv A outer s H E) [] σ' H' s'->BD v u->Q v H'->CE outer P w H s Q u s':=
  fun {σ' H' v u} J rv q=>⟨v,H',J.os,J.bare,J.base,J.hok,rv,q⟩
 cases fl with
 |ret u=>
  obtain⟨v,σ',H',J,rv,q⟩:=hs;exact fin J rv q
 |next=>
  obtain⟨σ',H',J,q⟩:=hs;exact fin (v:=V.non) (u:=Dr) J rfl q
 |brk=>
  obtain⟨_,_,_,q⟩:=hs;exact Bc q
 |cont=>
  obtain⟨_,_,_,q⟩:=hs;exact Bc q
section
variable{X:Cx}{x:Ah}{p pos:AN}{e:Ap}{es:Ad Ap}{t:TA}{id T:Dv}{r:Ad V->Hp->VK->Prop}
def tCB(r:Ad V->Hp->VK->Prop)(t:TA):TE:=fun σ H Q=>t σ H fun vs H1=>r vs H1 Q
theorem KY(hc:Ha X (.builtin id) r)(hg:Gl X x)(hm:X.mg x=Ae)(hv:CY x=Aa (.builtin id))(ha:PA X (e::es) t)(hn:x≠"__name__" := by decide)(hdb:(x==("__debug__" : Ah))=Ac:=by decide)(he:Az (e::es) X.env=(Ac,eval e X.env)::Az es X.env:=by rfl)(hpl:(B8 pos (Az es X.env)).any (·.1)=Ac:=by rfl):PE X (.Call (.Name x p) (e::es) [] pos) (tCB r t):=by
 intro pI s σ H Q I h;refine D5 (Jq I hg hm hv ?_ hn hdb);exact PyProof.Rows.callWith_builtin1 (thn (ha pos pI s σ H _ I h) fun us s1 ⟨vs,H1,I1,r1,q1⟩=>hc pI s1 σ H1 vs us Q I1 r1 q1) he hpl
theorem Pd(hc:Ha X (.type T) r)(hg:Gl X x)(hm:X.mg x=Ae)(hv:CY x=Aa (.type T))(ha:PA X (e::es) t)(hn:x≠"__name__" := by decide)(hdb:(x==("__debug__" : Ah))=Ac:=by decide)(he:Az (e::es) X.env=(Ac,eval e X.env)::Az es X.env:=by rfl)(hpl:(B8 pos (Az es X.env)).any (·.1)=Ac:=by rfl):PE X (.Call (.Name x p) (e::es) [] pos) (tCB r t):=by
 intro pI s σ H Q I h;refine D5 (Jq I hg hm hv ?_ hn hdb);exact CU (thn (ha pos pI s σ H _ I h) fun us s1 ⟨vs,H1,I1,r1,q1⟩=>hc pI s1 σ H1 vs us Q I1 r1 q1) he hpl
end
end L2
namespace HT
open PySem PyProof.Rows
variable{sl:Aj}
section
open PySem.SeqAt
open PySem.AutoSeq1 (wpAny_loadPart')
open PySem.MeetsSeq PySem.MeetsSeq2 PySem.MeetsSeq3
end
section
variable{prog:AS}{w:AC}{A:AZ}{E:Vq}{s:As}
theorem cat_tup{t b:Aj}{vs ws:Ad Ai}{Q:Vq}(ht:Jz s.heap t vs.toArray)(hb:Jz s.heap b ws.toArray)(hv:vs≠[])(h1:ws=[]->Q (.ref t) s)(h2:ws≠[]->Q (.ref s.heap.objs.size) { s with heap:=s.heap.push { cls:=.type "tuple", data:=.seq (vs++ws).toArray } })(hsz:vs.length+ws.length<=sizeLine):Ay (model prog w) A (B0 .Add (.ref t) (.ref b)) Q E s:=by
 obtain⟨⟨cls,dd,data,sl⟩,ho,hc,n,hd⟩:=id ht;obtain⟨⟨cls2,dd2,data2,sl2⟩,ho2,hc2,n2,hd2⟩:=id hb;simp only at hc hd hc2 hd2;subst hc hd hc2 hd2;have e:vs.toArray++ws.toArray=(vs++ws).toArray:=by simp
 by_cases hw:ws=[]
 ·exact Iz ⟨_,ho,rfl⟩ ⟨_,ho2,rfl⟩ Vy seq_tuple_add U4 U1 (UX _ _)
   (tuple_addW1 t b vs.toArray ws.toArray n n2 dd dd2 sl sl2 (by simpa using hv) (by simp[hw])) ⟨ho,ho2,h1 hw⟩
 ·refine Iz ⟨_,ho,rfl⟩ ⟨_,ho2,rfl⟩ Vy seq_tuple_add U4 U1 (UX _ _)
   (tuple_addW2 t b vs.toArray ws.toArray n n2 dd dd2 sl sl2 (by simpa using hv) (by simpa using hw) (by rw[AQ,AQ];exact hsz)) ⟨ho,ho2,?_⟩
  rw[e];exact h2 hw
noncomputable def sIx(n d:Ag):An Af->Ag
 |none=>d
 |some v=>if v<0 then (v+(n:Af)).toNat else min v.toNat n
theorem aE(n d:Ag)(hd:d<=n)(o:An Af):sIx n d o<=n:=by
 cases o with
 |none=>exact hd
 |some v=>
  show (if v<0 then (v+(n:Af)).toNat else min v.toNat n)<=n
  by_cases hv:v<0
  ·rw[Aw hv];omega
  ·rw[AA hv];exact Nat.min_le_right _ _
theorem Rh(v:Af)(n d:Ag):(if v<0 then max (v+(n:Af)) 0 else min v (n:Af))=((sIx n d (Aa v):Ag):Af):=by
 show (if v<0 then max (v+(n:Af)) 0 else min v (n:Af))=(((if v<0 then (v+(n:Af)).toNat else min v.toNat n):Ag):Af)
 by_cases hv:v<0
 ·simp only[Aw hv];omega
 ·simp only[AA hv];omega
theorem V1(lo hi:An Af)(n:Ag):EU lo hi 1 (n:Af)=(((sIx n 0 lo:Ag):Af),((sIx n n hi:Ag):Af)):=by
 have h1:¬ ((1:Af)<0):=by omega
 unfold EU;simp only[h1,Ij];refine D6 ?_ ?_
 ·cases lo with
  |none=>rfl
  |some v=>exact Rh v n 0
 ·cases hi with
  |none=>rfl
  |some v=>exact Rh v n n
theorem V8(i j:Ag):DH (i:Af) (j:Af) 1=j-i:=by
 unfold DH;have h1:(1:Af) > 0:=by omega
 simp only[h1,Ep,Int.ediv_one];split<;>omega
theorem Pj{v:Ai}{o:An Af}{Q:An Af->As->Prop}(p:GY v o)(h:Q o s):Ay (model prog w) A (Builtin.Slice.slicePartIndex v) Q E s:=by
 cases p with
 |none=>exact UN h
 |int i t=>exact slicePart_int h
theorem VJ{vl vu:Ai}{lo hi:An Af}{n:Ag}{Q:Af×Af×Ag->As->Prop}(hs:s.heap.IsSliceOf sl vl vu .none)(pl:GY vl lo)(pu:GY vu hi)(h:Q (((sIx n 0 lo:Ag):Af),1,sIx n n hi-sIx n 0 lo) s):Ay (model prog w) A (US (.ref sl) (pure (n:Af))) Q E s:=by
 obtain⟨os,hos,hcs,hds⟩:=id hs;unfold US Builtin.Slice.sliceFields;refine Am (Am (BO hos hds (x:=vl) rfl (Am (BO hos hds (x:=vu) rfl (Am (BO hos hds (x:=.none) rfl (AK ?_)))))));refine Am (UN ?_);show Ay _ _ (if ((1:Af)==0)=Ab then _ else _) _ _ s
 rw[AA (by decide)]
 refine Am (Pj pl (Am (Pj pu (Am (AK ?_)))));show Ay _ _ (match EU lo hi 1 (n:Af) with|(lo,hi)=>pure (lo,(1:Af),DH lo hi 1)) _ _ s
 rw[V1 lo hi n];show Ay _ _ (pure (((sIx n 0 lo:Ag):Af),(1:Af),DH ((sIx n 0 lo:Ag):Af) ((sIx n n hi:Ag):Af) 1)) _ _ s;rw[V8];exact AK h
theorem W6(xs:Bk Ai)(i k:Ag):((Bz k).filterMap fun(m:Ag)=>xs[((i:Af)+(m:Af)*1).toNat]?).toArray=((xs.toList.drop i).take k).toArray:=by
 have e:(fun(m:Ag)=>xs[((i:Af)+(m:Af)*1).toNat]?)=fun m=>xs[i+m]?:=by
  funext m
  have:((i:Af)+(m:Af)*1).toNat=i+m:=by omega
  rw[this]
 rw[e];have:=pick_run xs i k;rw[List.filterMap_map]at this;have e2:((fun x=>xs[x]?) ∘ fun x=>i+x)=fun m=>xs[i+m]?:=rfl
 rw[e2]at this;rw[this]
theorem getItem_tuple_cut{t:Aj}{items:Bk Ai}{vl vu:Ai}{lo hi:An Af}{Q:Vq}(ht:Jz s.heap t items)(hs:s.heap.IsSliceOf sl vl vu .none)(pl:GY vl lo)(pu:GY vu hi)(hw:¬ (sIx items.size 0 lo=0/\sIx items.size items.size hi=items.size))(h:Q (.ref s.heap.objs.size) { s with heap:=s.heap.push { cls:=.type "tuple", data:=.seq ((items.toList.drop (sIx items.size 0 lo)).take (sIx items.size items.size hi-sIx items.size 0 lo)).toArray } })(hsz:items.size<=sizeLine):Ay (model prog w) A (IS (.ref t) (.ref sl)) Q E s:=by
 have htake:sizeOk (.seq ((items.toList.drop (sIx items.size 0 lo)).take (sIx items.size items.size hi-sIx items.size 0 lo)).toArray):=by
  show ((items.toList.drop (sIx items.size 0 lo)).take (sIx items.size items.size hi-sIx items.size 0 lo)).toArray.size<=sizeLine;rw[AQ,GV,Us,Ga];omega
 have hj:sIx items.size items.size hi<=items.size:=aE _ _ (AY _) hi;obtain⟨os,hos,hcs,hds⟩:=id hs;have hTs:s.TypeIs (.ref sl) "slice" := ⟨os,hos,hcs⟩;unfold IS
 try with_reducible refine Ca ?_
 first|refine Am (AK ?_)|skip
 refine Am (wpAny_sequenceKey ht.typeIs (by decide) ?_)
 refine Am (Dl (name:=AV "__getitem__") ht.typeIs UO
  (Et UO ht.typeIs entry_tuple_getitem ?_ (args_tuple_getitem _ _)))
 show Ay _ _ (Builtin.Tuple.tupleItemsOf (.ref t) >>= _) _ _ s;refine Am (tupleItemsOf_ ht ?_);refine Am (wpAny_typeOf hTs ?_);rw[Aw (by decide)]
 refine Am (VJ hs pl pu ?_);have hno:¬ ((((sIx items.size 0 lo:Ag):Af)==0&&(1:Af)==1&&(sIx items.size items.size hi-sIx items.size 0 lo)==items.size)=Ab):=by
  intro q;rw[Ak,Ak]at q;have q1:((sIx items.size 0 lo:Ag):Af)=0:=eq_of_beq q.1.1;have q2:sIx items.size items.size hi-sIx items.size 0 lo=items.size:=eq_of_beq q.2;exact hw ⟨by omega,by omega⟩
 show Ay _ _ (if (((sIx items.size 0 lo:Ag):Af)==0&&(1:Af)==1&&(sIx items.size items.size hi-sIx items.size 0 lo)==items.size)=Ab then _ else _) _ _ s
 rw[AA hno,W6]
 first
  |exact Am (m:=DS _) (CP (AK ⟨_,rfl,AK h⟩) htake)
  |exact Am (m:=DS _) (CP (Am (AK (AK ⟨_,rfl,AK h⟩))) htake)
  |exact Am (Am (m:=DS _) (CP (AK (AK ⟨_,rfl,AK h⟩)) htake))
  |exact Am (Am (m:=DS _) (CP (AK ⟨_,rfl,AK h⟩) htake))
end
end HT
namespace L2
open PySem PySem.Spec PyProof.Rows
variable{xs:Ad V}{us its its':Ad Ai}{n t':Ag}{i:Af}{pI:Pn}{σ:St}{H:Hp}{s:As}{p:Aj}
abbrev TO:=St->Hp->(An Af->Hp->Prop)->Prop
noncomputable def PO(X:Cx)(e:An Ap)(t:TO):Prop:=
 ∀(pI:Pn)(s:As)(σ:St)(H:Hp)(Q:An Af->Hp->Prop),Inv X pI σ H s->t σ H Q ->
  Ay (model X.prog X.w) X.A (evalPart e X.env) (fun u s'=>∃ o H',Inv X pI σ H' s'/\GY u o/\Q o H') X.xe s
def XX:TO:=fun _ H Q=>Q Ae H
def gJ(t:TE):TO:=fun σ H Q=>t σ H fun x H1=>∃ i,x=.int i/\Q (Aa i) H1
section
variable{X:Cx}{e:Ap}{te:TE}{lo hi:An Ap}{tl th:TO}{pos p2:AN}
theorem Zj:PO X Ae XX:=by
 intro pI s σ H Q I h;rw[evalPart_none];exact AK ⟨Ae,H,I,.none,h⟩
theorem Zi(h:PE X e te):PO X (Aa e) (gJ te):=by
 intro pI s σ H Q I hw;rw[evalPart_some];refine thn (h pI s σ H _ I hw) fun u s1 ⟨x,H1,I1,r1,q1⟩=>?_
 obtain⟨i,rfl,q⟩:=q1;obtain⟨t,rfl⟩:=r1;exact⟨Aa i,H1,I1,.int i t,q⟩
noncomputable def SlR(X:Cx)(r:V->An Af->An Af->Hp->VK->Prop):Prop:=
 ∀(pI:Pn)(s:As)(σ:St)(H:Hp)(x:V)(v vl vu:Ai)(lo hi:An Af)(sl:Aj)(Q:VK),Inv X pI σ H s->BD x v->s.heap.IsSliceOf sl vl vu .none->GY vl lo->GY vu hi->r x lo hi H Q ->
  ∃ T id,typeLookup (.type T) "__getitem__" = pure (Aa (.builtin id))/\s.TypeIs v T/\Ay (model X.prog X.w) X.A (IS v (.ref sl)) (EP X pI σ Q) X.xe s
def tSl(r:V->An Af->An Af->Hp->VK->Prop)(te:TE)(tl th:TO):TE:=fun σ H Q=>te σ H fun x H1=>tl σ H1 fun l H2=>th σ H2 fun u H3=>r x l u H3 Q
theorem W7{r:V->An Af->An Af->Hp->VK->Prop}(hr:SlR X r)(he:PE X e te)(hl:PO X lo tl)(hu:PO X hi th):PE X (.Subscript e (.Slice lo hi Ae p2) pos) (tSl r te tl th):=by
 intro pI s σ H Q I h;refine Subscript_ (thn (he pI s σ H _ I h) fun v s1 ⟨x,H1,I1,r1,q1⟩=>?_)
 refine wpAny_Slice (thn (hl pI s1 σ H1 _ I1 q1) fun vl s2 ⟨l,H2,I2,pl,q2⟩=>thn (hu pI s2 σ H2 _ I2 q2) fun vu s3 ⟨u,H3,I3,pu,q3⟩=>?_)
 rw[evalPart_none];refine AK ?_;have I4:Inv X pI σ H3 { s3 with heap:=s3.heap.push { cls:=.type "slice", data:=.fields #[vl,vu,.none] } }:=I3.kept (t':=s3.toks) fun b ob q=>Au _ q
 obtain⟨T,id,hT,ht,hg⟩:=hr pI { s3 with heap:=s3.heap.push { cls:=.type "slice", data:=.fields #[vl,vu,.none] } } σ H3 x v vl vu l u s3.heap.objs.size Q I4 r1 (Heap.IsSliceOf.new ..) pl pu q3
 show Ay (model X.prog X.w) X.A (subscriptTail e (.Slice lo hi Ae p2) v (.ref s3.heap.objs.size)) (EP X pI σ Q) X.xe { s3 with heap:=s3.heap.push { cls:=.type "slice", data:=.fields #[vl,vu,.none] } }
 exact tail_any (ops:=[.ref s3.heap.objs.size,v]) ht hT hg (by with_unfolding_all rfl)
noncomputable def IN(xs:Ad V)(lo hi:An Af):Ad V:=(xs.drop (HT.sIx xs.length 0 lo)).take (HT.sIx xs.length xs.length hi-HT.sIx xs.length 0 lo)
theorem O0(xs:Ad V)(lo hi:An Af):(IN xs lo hi).length<=xs.length:=by
 unfold IN;rw[GV,Us];omega
def Tj(K:Fg):V->An Af->An Af->Hp->VK->Prop:=fun x lo hi H Q=>∃ a xs,x=.ref a/\SqT K H a xs /\
 ¬ (HT.sIx xs.length 0 lo=0/\HT.sIx xs.length xs.length hi=xs.length)/\∀ p,H p=Ae->Q (.ref p) (upd H p (.tup (IN xs lo hi)))
theorem aR:SlR X (Tj X.K):=by
 intro pI s σ H x v vl vu lo hi sl Q I rx hs pl pu h;obtain⟨a,xs,rfl,hx,hw,q⟩:=h;cases rx;obtain⟨its,r,ht,hz⟩:=I.tuple hx;have hlen:its.toArray.size=xs.length:=by rw[AQ];exact r.length.symm
 refine⟨"tuple", _,PyProof.Rows.slot_tuple_getitem.lookup,ht.typeIs,?_⟩;refine HT.getItem_tuple_cut ht hs pl pu (by rw[hlen];exact hw) ?_ (by rw[hlen];exact hz)
 rw[hlen];refine⟨.ref s.heap.objs.size,_,I.laid (t':=s.toks) (o:=.tup (IN xs lo hi)) (fun b ob q=>Au _ q) (AY _) ?_,rfl,q _ (I.hok.fresh (AY _))⟩
 exact⟨Co (O0 xs lo hi) hz,_,(r.drop (HT.sIx xs.length 0 lo)).take (HT.sIx xs.length xs.length hi-HT.sIx xs.length 0 lo),Kt _ _⟩
def jW(K:Fg):R2:=fun x y H Q=>∃ a b xs ys,x=.ref a/\y=.ref b/\SqT K H a xs/\SqT K H b ys/\xs≠[]/\xs.length+ys.length<=sizeLine /\
 (ys=[]->Q (.ref a) H)/\(ys≠[]->∀ p,H p=Ae->Q (.ref p) (upd H p (.tup (xs++ys))))
theorem Bf.nil_iff(r:Bf xs us):us=[]↔xs=[]:=by
 cases r with
 |nil=>simp
 |cons _ _=>simp
theorem YO:OpR X (B0 .Add) (jW X.K):=by
 intro pI s σ H x y v u Q I rx ry h;obtain⟨a,b,xs,ys,rfl,rfl,ha,hb,hx,hz,q1,q2⟩:=h;cases rx;cases ry;obtain⟨its,r1,p1,_⟩:=I.tuple ha;obtain⟨its2,r2,p2,_⟩:=I.tuple hb;refine HT.cat_tup p1 p2 (fun z=>hx (r1.nil_iff.mp z)) (fun z=>⟨.ref a,H,I,rfl,q1 (r2.nil_iff.mp z)⟩) (fun z=>?_) (by rw[<-r1.length,<-r2.length];exact hz)
 refine⟨.ref s.heap.objs.size,_,I.laid (t':=s.toks) (o:=.tup (xs++ys)) (fun b ob q=>Au _ q) (AY _) ?_,rfl,q2 (fun w=>z (r2.nil_iff.mpr w)) _ (I.hok.fresh (AY _))⟩
 exact⟨by rw[Dt];exact hz,_,r1.append r2,Kt _ _⟩
end
noncomputable def ixN(n:Ag)(i:Af):An Ag:=if 0<=i then (if i<n then Aa i.toNat else Ae) else if -(n:Af)<=i then Aa (i+n).toNat else Ae
noncomputable def atI{α:Type}(xs:Ad α)(i:Af):An α:=(ixN xs.length i).bind fun j=>xs[j]?
theorem Rl{j:Ag}(h:ixN n i=Aa j):seqIndex? i n=Aa j/\j<n/\-(n:Af)<=i/\i<n:=by
 unfold ixN at h;by_cases h0:0<=i
 ·rw[Aw h0]at h;by_cases h1:i<n
  ·rw[Aw h1]at h;have e:i.toNat=j:=Bs h;exact⟨by rw[IW h0 h1,e],by omega,by omega,h1⟩
  ·rw[AA h1]at h;cases h
 ·rw[AA h0]at h;by_cases h1:-(n:Af)<=i
  ·rw[Aw h1]at h;have e:(i+n).toNat=j:=Bs h;exact⟨by rw[ID (by omega) h1,e],by omega,h1,by omega⟩
  ·rw[AA h1]at h;cases h
theorem Q4{α:Type}{xs:Ad α}{v:α}(h:atI xs i=Aa v):∃ j,seqIndex? i xs.length=Aa j/\xs[j]?=Aa v/\j<xs.length/\-(xs.length:Af)<=i/\i<xs.length:=by
 unfold atI at h;cases e:ixN xs.length i with
 |none=>rw[e]at h;cases h
 |some j=>
  rw[e]at h;obtain⟨h1,h2,h3,h4⟩:=Rl e;exact⟨j,h1,h,h2,h3,h4⟩
def Nu(b:Ap):Prop:=∀ o i,subscripted b Ac o i=operate [o,i] (IS o i)
noncomputable def IxR(X:Cx)(r:R2):Prop:=
 ∀(value slice:Ap)(pI:Pn)(s:As)(σ:St)(H:Hp)(x y:V)(v u:Ai)(Q:VK),Inv X pI σ H s->BD x v->BD y u->r x y H Q ->
  subscripted slice Ac v u=operate [v,u] (IS v u)->Ay (model X.prog X.w) X.A (subscriptTail value slice v u) (EP X pI σ Q) X.xe s
noncomputable def MtR(X:Cx)(id:Dv)(r:V->Ad V->Hp->VK->Prop):Prop:=
 ∀(pI:Pn)(s:As)(σ:St)(H:Hp)(x:V)(xs:Ad V)(v:Ai)(us:Ad Ai)(Q:VK),Inv X pI σ H s->BD x v->Bf xs us->r x xs H Q ->
  Ay (model X.prog X.w) X.A (call (.builtin id) (v::us)) (EP X pI σ Q) X.xe s
section
variable{X:Cx}{a b:Ap}{ta tb:TE}{pos:AN}
theorem IxR.or{r r':R2}(h:IxR X r)(h':IxR X r'):IxR X (fun x y H Q=>r x y H Q\/r' x y H Q):=by
 intro value slice pI s σ H x y v u Q I rx ry q hs;rcases q with q|q
 ·exact h value slice pI s σ H x y v u Q I rx ry q hs
 ·exact h' value slice pI s σ H x y v u Q I rx ry q hs
theorem kD{r:R2}(hr:IxR X r)(ha:PE X a ta)(hb:PE X b tb)(hs:Nu b):PE X (.Subscript a b pos) (tOp r ta tb):=by
 intro pI s σ H Q I h;exact Subscript_ (OJ ha hb I h fun v u s2 x y H2 I2 rx ry q=>hr a b pI s2 σ H2 x y v u Q I2 rx ry q (hs _ _))
def Tn(K:Fg):R2:=fun x y H Q=>∃ p xs i v,x=.ref p/\y=.int i/\SqL K H p xs/\atI xs i=Aa v/\Q v H
def Tl(K:Fg):R2:=fun x y H Q=>∃ p xs i v,x=.ref p/\y=.int i/\SqT K H p xs/\atI xs i=Aa v/\Q v H
theorem YZ:IxR X (Tn X.K):=by
 intro value slice pI s σ H x y v u Q I rx ry h hs;obtain⟨p,xs,i,z,rfl,rfl,hq,he,q⟩:=h;cases rx;obtain⟨t,rfl⟩:=ry;obtain⟨its,r,pl,hz⟩:=I.list hq;obtain⟨j,h1,h2,h3,h4,h5⟩:=Q4 he;obtain⟨w,ew,rw'⟩:=r.get h2;have hl:=r.length;have hn:=Kb;have fin:EP X pI σ Q w s:=⟨z,H,I,rw',q⟩;by_cases h0:0<=i
 ·have hj:i.toNat=j:=by
   rw[IW h0 h5]at h1;exact Bs h1
  exact item_listR pl.isList h0 (by omega) (by rw[hj];simpa using ew) fin hs
 ·have hj:(i+(its.toArray.size:Af)).toNat=j:=by
   rw[ID (by omega) h4]at h1
   rw[AQ,<-hl];exact Bs h1
  exact UP (x:=w) pl.isList.typeIs VA.lookup
   (wpAny_getItem_list_neg (Q:=fun r s'=>r=w/\EP X pI σ Q r s') pl.isList (by omega) (by rw[AQ]<;>omega) (by omega) (by rw[hj];simpa using ew) ⟨rfl,fin⟩) hs
theorem bZ:IxR X (Tl X.K):=by
 intro value slice pI s σ H x y v u Q I rx ry h hs;obtain⟨p,xs,i,z,rfl,rfl,hq,he,q⟩:=h;cases rx;obtain⟨t,rfl⟩:=ry;obtain⟨its,r,pl,hz⟩:=I.tuple hq;obtain⟨j,h1,h2,h3,h4,h5⟩:=Q4 he;obtain⟨w,ew,rw'⟩:=r.get h2;have hl:=r.length;have hn:=Kb;have fin:EP X pI σ Q w s:=⟨z,H,I,rw',q⟩;exact UP (x:=w) pl.typeIs slot_tuple_getitem.lookup
  (getItem_tuple (j:=j) (Q:=fun r s'=>r=w/\EP X pI σ Q r s') pl (by omega) (by omega) (by rw[AQ,<-hl];exact h1) (by simpa using ew) ⟨rfl,fin⟩) hs
theorem VV(its:Ad Ai)(n j:Ag)(u:Ai):GM (·.setIfInBounds j u) { cls:=.type "list", data:=.seq its.toArray n }={ cls:=.type "list", data:=.seq (its.set j u).toArray n }:=by
 simp[GM]
theorem Inv.lst(I:Inv X pI σ H s)(h:H p=Aa (.lst xs)):
  ∃(its:Ad Ai)(n:Ag),Bf xs its/\s.heap.get? p=Aa { cls:=.type "list", data:=.seq its.toArray n }/\xs.length<=sizeLine:=by
 obtain⟨z,its,n,r,e⟩:=I.hok p _ h;exact⟨its,n,r,e,z⟩
theorem Inv.lstUpd{ys:Ad V}{n':Ag}{f:CW->CW}(I:Inv X pI σ H s)(h:H p=Aa (.lst xs))(ho:s.heap.get? p=Aa { cls:=.type "list", data:=.seq its.toArray n })(hf:f { cls:=.type "list", data:=.seq its.toArray n }={ cls:=.type "list", data:=.seq its'.toArray n' })(r:Bf ys its')(hz:ys.length<=sizeLine)(t:Ag):Inv X pI σ (upd H p (.lst ys)) {s with heap:=s.heap.update p f,toks:=t}:=by
 have e:(s.heap.update p f).get? p=Aa { cls:=.type "list", data:=.seq its'.toArray n' }:=by
  rw[CB f ho (by rw[hf]<;>rfl),hf]
 refine I.write (x:=p) (e:=p) (by rw[h];trivial) (.inl rfl) (fun b u hb q=>(Cq _ _ (CK hb)).trans q) ⟨_,e⟩ ?_
 exact⟨hz,its',n',r,e⟩
def jV:V->V->V->Hp->(Hp->Prop)->Prop:=fun o i v H Q=>∃ p xs k j,o=.ref p/\i=.int k/\H p=Aa (.lst xs)/\ixN xs.length k=Aa j/\Q (upd H p (.lst (xs.set j v)))
theorem XE:TF X jV:=by
 intro pI s σ H o i v ov iv u Q I ro ri rv h;obtain⟨p,xs,k,j,rfl,rfl,hp,hj,q⟩:=h;cases ro;obtain⟨t,rfl⟩:=ri;obtain⟨its,n,r,ho,hz⟩:=I.lst hp;obtain⟨h1,h2,h3,h4⟩:=Rl hj;have hl:=r.length;have hn:=Kb;have I':Inv X pI σ (upd H p (.lst (xs.set j v))) {s with heap:=s.heap.update p (GM (·.setIfInBounds j u))}:=
  I.lstUpd hp ho (VV its n j u) (r.set rv j) (by rw[A2];exact hz) s.toks
 by_cases h0:0<=k
 ·have hk:k.toNat=j:=by
   rw[IW h0 h4]at h1;exact Bs h1
  exact PySem.W.ki_setAt ho h0 (by omega) (by rw[AQ,<-hl];exact h4) (by rw[hk];exact⟨_,I',q⟩)
 ·have hk:(k+(its.toArray.size:Af)).toNat=j:=by
   rw[ID (by omega) h3]at h1
   rw[AQ,<-hl];exact Bs h1
  exact PySem.W.ki_setBack ho (by omega) (by rw[AQ,<-hl];exact h3) (by omega) (by rw[hk];exact⟨_,I',q⟩)
theorem VO(lo hi:An Af)(n:Ag):(EJ lo hi Ae n).1=((HT.sIx n 0 lo:Ag):Af)/\(EJ lo hi Ae n).2.1=((HT.sIx n n hi:Ag):Af)/\(EJ lo hi Ae n).2.2=1:=by
 refine⟨?_,?_,rfl⟩
 ·cases lo with
  |none=>simp[EJ,HT.sIx]
  |some i=>
   simp only[EJ,HT.sIx,UK,show (1:Af) > 0 by decide,Ep]
   by_cases h:i<0
   ·simp only[h,Ep]<;>omega
   ·simp only[h,Ij]<;>omega
 ·cases hi with
  |none=>simp[EJ,HT.sIx]
  |some i=>
   simp only[EJ,HT.sIx,UK,show (1:Af) > 0 by decide,Ep]
   by_cases h:i<0
   ·simp only[h,Ep]<;>omega
   ·simp only[h,Ij]<;>omega
theorem VP(its:Ad Ai)(lo hi:An Af):slicePick its.toArray lo hi Ae=((its.drop (HT.sIx its.length 0 lo)).take (HT.sIx its.length its.length hi-HT.sIx its.length 0 lo)).toArray:=by
 obtain⟨h1,h2,h3⟩:=VO lo hi its.toArray.size;unfold slicePick;rw[h1,h2,h3];simp only[sliceRange_one,pick_run,AQ]<;>rfl
def Tk(K:Fg):V->An Af->An Af->Hp->VK->Prop:=fun x lo hi H Q=>∃ a xs,x=.ref a/\SqL K H a xs/\∀ p,H p=Ae->Q (.ref p) (upd H p (.lst (IN xs lo hi)))
theorem Yd:SlR X (Tk X.K):=by
 intro pI s σ H x v vl vu lo hi sl Q I rx hs pl pu h;obtain⟨a,xs,rfl,hx,q⟩:=h;cases rx;obtain⟨its,r,ht,hz⟩:=I.list hx;have hlen:=r.length;refine⟨"list", _,VA.lookup,ht.isList.typeIs,?_⟩;refine wpAny_getItem_list_slice ht.isList hs pl pu .none (by simp) ?_ (by rw[AQ]<;>omega)
 rw[VP,<-hlen];refine⟨.ref s.heap.objs.size,_,I.laid (t':=s.toks) (o:=.lst (IN xs lo hi)) (fun b ob q=>Au _ q) (AY _) ?_,rfl,q _ (I.hok.fresh (AY _))⟩
 exact⟨Co (O0 xs lo hi) hz,_,0,(r.drop (HT.sIx xs.length 0 lo)).take (HT.sIx xs.length xs.length hi-HT.sIx xs.length 0 lo),AO _ rfl⟩
theorem OU:Ha X (.builtin "len") (fun xs H Q=>∃ p ys,xs=[.ref p]/\(SqL X.K H p ys\/SqT X.K H p ys)/\Q (.int ys.length) H):=by
 intro pI s σ H xs us Q I r h;obtain⟨p,ys,rfl,hq,q⟩:=h;obtain⟨u,rfl,rx⟩:=Hb r;cases rx;have hn:=Kb;rcases hq with hq|hq
 ·obtain⟨its,r',pl,hz⟩:=I.list hq;have hlen:=r'.length;exact Calls.call_len_list pl.isList (by simp only[AQ]<;>omega) ⟨.int ys.length,H,I.tok _,⟨s.toks+1,by rw[AQ,hlen]⟩,q⟩
 ·obtain⟨its,r',pl,hz⟩:=I.tuple hq;have hlen:=r'.length;exact len_tuple pl (by simp only[AQ]<;>omega) ⟨.int ys.length,H,I.tok _,⟨s.toks+1,by rw[AQ,hlen]⟩,q⟩
theorem VU:Ha X (.builtin "len") (fun xs H Q=>∃ z,xs=[.str z]/\z.length<=sizeLine/\Q (.int z.length) H):=by
 intro pI s σ H xs us Q I r h;obtain⟨z,rfl,hz,q⟩:=h;obtain⟨u,rfl,t,rfl⟩:=Hb r;have hn:=Kb;exact len_str (by omega) ⟨.int z.length,H,I.tok _,⟨_,rfl⟩,q⟩
theorem OT:Ha X (.type "list") (fun xs H Q=>∃ p ys,xs=[.ref p]/\(SqL X.K H p ys\/SqT X.K H p ys)/\∀ l,H l=Ae->Q (.ref l) (upd H l (.lst ys))):=by
 intro pI s σ H xs us Q I r h;obtain⟨p,ys,rfl,hq,q⟩:=h;obtain⟨u,rfl,rx⟩:=Hb r;cases rx;have fin:∀(its:Ad Ai),Bf ys its->ys.length<=sizeLine->∀(h':AD)(c':Ag),(∀ b o',s.heap.get? b=Aa o'->h'.get? b=Aa o') ->
   h'.get? s.heap.objs.size=Aa { cls:=.type "list", dict:=Ae,data:=.seq its.toArray c',slots:=#[] }->EP X pI σ Q (.ref s.heap.objs.size) {s with heap:=h'}:=fun its r' hz h' c' kp e=>
  ⟨.ref s.heap.objs.size,_,I.laid (t':=s.toks) kp (AY _) (show ObjOk X.prog X.w _ h' _ (.lst ys) from ⟨hz,its,c',r',e⟩),rfl,q _ (I.hok.fresh (AY _))⟩
 rcases hq with hq|hq
 ·obtain⟨its,r',pl,hz⟩:=I.list hq;have hlen:=r'.length;obtain⟨o,ho,hc,n,hd⟩:=pl.isList;exact call_list_seq p (.inl rfl) ho hc hd (fun h' c' kp e=>fin its r' hz h' c' kp e) (by simp only[AQ]<;>omega)
 ·obtain⟨its,r',pl,hz⟩:=I.tuple hq;have hlen:=r'.length;obtain⟨o,ho,hc,n,hd⟩:=pl;exact call_list_seq p (.inr rfl) ho hc hd (fun h' c' kp e=>fin its r' hz h' c' kp e) (by simp only[AQ]<;>omega)
theorem OX:Ha X (.type "tuple") (fun xs H Q=>∃ p ys,xs=[.ref p]/\((SqL X.K H p ys/\∀ l,H l=Ae->Q (.ref l) (upd H l (.tup ys)))\/(SqT X.K H p ys/\Q (.ref p) H))):=by
 intro pI s σ H xs us Q I r h;obtain⟨p,ys,rfl,h⟩:=h;obtain⟨u,rfl,rx⟩:=Hb r;cases rx;rcases h with ⟨hq,q⟩|⟨hq,q⟩
 ·obtain⟨its,r',pl,hz⟩:=I.list hq;have hlen:=r'.length;refine call_tuple_list pl.isList (fun h' kp=>?_) (by simp only[AQ]<;>omega)
  have I1:Inv X pI σ H {s with heap:=h'}:=I.kept (t':=s.toks) kp
  have I2:Inv X pI σ (upd H h'.objs.size (.tup ys)) { s with heap:=h'.push { cls:=.type "tuple", data:=.seq its.toArray } }:=
   I1.laid (t':=s.toks) (fun b o e=>Au _ e) (AY _) (show ObjOk X.prog X.w _ _ _ (.tup ys) from ⟨hz,its,r',Kt _ _⟩)
  exact⟨.ref h'.objs.size,_,I2,rfl,q _ (I1.hok.fresh (AY _))⟩
 ·obtain⟨its,r',pl,hz⟩:=I.tuple hq;exact call_tuple_same pl ⟨.ref p,H,I,rfl,q⟩
variable{o e:Ap}{es:Ad Ap}{to:TE}{t:TA}{name:Ah}{apos cpos:AN}{T id:Dv}{r:V->Ad V->Hp->VK->Prop}
/- xs.append(e),list.index on a module's tuple .. are MtR facts of 06m -/
end
theorem Bf.one:∀{x:V}{us:Ad Ai},Bf [x] us->∃ u,us=[u]/\BD x u
 |_,_,.cons r .nil=>⟨_,rfl,r⟩
theorem Bf.zero:∀{us:Ad Ai},Bf [] us->us=[]
 |_,.nil=>rfl
theorem Bf.eraseIdx:∀{xs:Ad V}{us:Ad Ai}(i:Ag),Bf xs us->Bf (xs.eraseIdx i) (us.eraseIdx i)
 |_,_,_,.nil=>.nil
 |_,_,0,.cons _ t=>t
 |_,_,i+1,.cons r t=>.cons r (Bf.eraseIdx i t)
theorem Bf.reverse(h:Bf xs us):Bf xs.reverse us.reverse:=by
 induction h with
 |nil=>exact .nil
 |cons r t ih=>rw[UB,UB];exact Bf.append ih (.cons r .nil)
section
variable{X:Cx}{pI:Pn}{σ:St}{H:Hp}{s:As}{l b:Aj}{xs ys zs:Ad V}
theorem Inv.lset{f:Bk Ai->Bk Ai}(I:Inv X pI σ H s)(hH:H l=Aa (.lst xs))(e:s.heap.get? l=Aa { cls:=.type "list", data:=.seq its.toArray n })(hf:f its.toArray=its'.toArray)(hv:Bf ys its')(hz:ys.length<=sizeLine):Inv X pI σ (upd H l (.lst ys)) {s with heap:=s.heap.update l (GM f),toks:=t'}:=by
 have q:=PySem.IsL.update e f;rw[hf]at q;refine I.write (x:=l) (e:=l) (by rw[hH];exact trivial) (.inl rfl) (fun b' u hb hu=>(Cq s.heap (GM f) (CK hb)).trans hu) ⟨_,q⟩ ?_
 exact⟨hz,its',_,hv,q⟩
theorem Inv.lnew(I:Inv X pI σ H s)(hv:Bf ys its)(hz:ys.length<=sizeLine):
  Inv X pI σ (upd H s.heap.objs.size (.lst ys)) { s with heap:=s.heap.push { cls:=.type "list", data:=.seq its.toArray },toks:=t' }:=
 I.laid (fun _ _ q=>Au _ q) (AY _) ⟨hz,its,0,hv,AO _ rfl⟩
theorem Inv.fresh(I:Inv X pI σ H s):H s.heap.objs.size=Ae:=I.hok.fresh (AY _)
end
section
variable{X:Cx}
end
section
variable{prog:AS}{w:AC}{A:AZ}{E:Vq}{s:As}
set_option maxRecDepth 100000 in
end
section
variable{X:Cx}
end
end L2
namespace Att
open PySem PySem.W PySem.Calls PyProof.Rows
variable{P:KB}{h:AD}{l:Fx}{n:Ag}
theorem VN:∀(ns:Ad Af)(vs:Ad Ai),WellAll P h vs (ns.map Vl)->HE vs ns:=by
 intro ns
 induction ns with
 |nil=>
  intro vs w;rw[Uw]at w;cases w;exact .nil
 |cons n ns ih=>
  intro vs w;rw[CI]at w;cases w with
  |cons a b=>
   cases a;exact .cons _ _ (ih _ b)
theorem Wc(hn:l.most=Aa n){args:Ad WData}{vals:Ad Ai}(hpre:l.row.toRowW.claim.pre args=Ab)(hwl:WellAll P h vals args):
  ∃ a vs ns,vals=[Ci a]/\args=[WData.list (ns.map Vl)]/\h.get? a=Aa { cls:=.type "list", data:=.seq vs.toArray }/\HE vs ns/\ns.length<=n:=by
 have hsh:WShape.hasAll [] args [.list .int]=Ab:=(pre_splitW hpre).1;have hc:l.pre.holds [] {args:=args}=Ab:=(pre_splitW hpre).2;obtain⟨d,r,rfl,h1,h2⟩:=hasAllW_cons hsh;obtain rfl:=hasAllW_nil h2;obtain⟨xs,rfl,h3⟩:=hasW_list h1;obtain⟨ns,rfl⟩:=items_int h3;have hlen:ns.length<=n:=by
  unfold OpenLaw.pre at hc;have h4:(WTm.not (.lt (.lit (.int (n:Af))) (.len (.arg 0)))).holds [] {args:=[.list (ns.map .int)]}=Ab:=by
   have h4:=(holds_andW hc).1;rw[hn]at h4;exact h4
  have h5:=condW_of h4 (w_not (w_lt w_lit (w_len_list (w_arg rfl))));rw[Cf]at h5;refine Nat.le_of_not_lt fun q=>?_
  have q':(n:Af)<((ns.length:Ag):Af):=by omega
  first
   |(rw[Fk q']at h5;exact absurd h5 (by decide))
   |(simp at h5;omega)
 cases hwl with
 |cons w1 w2=>
  cases w2;cases w1 with
  |list ho hall=>exact⟨_,_,ns,rfl,rfl,ho,VN ns _ hall,hlen⟩
theorem Wi(l:Fx)(args:Ad WData):l.row.toRowW.claim.post args (.bool Ab) args=Ab:=
 postW_of (r:=l.row.toRowW) (X:=(Ab==Ab))
  (show Vm [] (.bool Ab) .bool=Ab by first|rfl|decide|simp[Vm,WShape.arms,WShape.armsAll])
  (show (WTm.eq .res (.lit (.bool Ab))).value [] {args:=args,res:=Aa (.bool Ab),after:=args}=Aa (.bool (Ab==Ab)) from w_eq_bool (w_res rfl) w_lit) rfl
theorem attach_call{q:AS}{loose:Ad Ah}{XP:(Ah->An Ai)->AD->Prop}{YP:AC->AD->Prop}{d:DefRec}(hn:l.most=Aa n)(hdf:d.params.defaults=[])(call:∀(w:AC)(s₀ s₁:As)(mg mb:Ah->An Ai)(fa:Aj)(o:CW)(pm cd doc:Ai)(a:Aj)(vs:Ad Ai)(ns:Ad Af),
   Ground q loose [] XP w s₀ mg mb s₁.heap->YP w s₁.heap ->
   s₁.heap.get? fa=Aa o->o.data=.func (docDef d.name d.params d.body d.scope pm cd doc)->s₁.heap.CodeRec cd d.name->mg d.name=Aa (.ref fa) ->
   s₁.heap.get? a=Aa { cls:=.type "list", data:=.seq vs.toArray }->HE vs ns->ns.length<=n->s₁.gens=#[] ->
   Fi (model l.prog w) GP (.call (.ref fa) ⟨[.ref a],[]⟩) (fun r s'=>r=.ok (.ret (.bool Ab))/\OldK s₁.heap s'.heap/\s'.os=s₁.os/\Fh s'.gens) s₁):WalkO q loose XP YP l.row.toRowW d [] (fun f vs=>JG f vs):=by
 intro w s₀ s₁ mg mb G Y fa o pm cd doc dV kV ho hd hcd hD hmg hg args vals as hpre hlay hrd hwl hlo;obtain rfl:dV=.none:=Dflts.none hD hdf;obtain rfl:kV=.none:=Dflts.noKw hD;obtain⟨a,vs,ns,rfl,rfl,hobj,hints,hlen⟩:=Wc hn hpre hwl;refine enter_call (E5 (call w s₀ s₁ mg mb fa o pm cd doc a vs ns G Y ho (fd_plain hd) hcd hmg hobj hints hlen hg) fun r s' hq=>?_)
 obtain⟨rfl,h2,h3,h4⟩:=hq;exact⟨.inl ⟨.bool Ab,.bool Ab,[],rfl,fun _=>rfl,.bool Ab,Wi l _,fun _=>⟨List.Pairwise.nil,fun _ hm=>(nomatch hm)⟩⟩,h2,h3,h4⟩
section
variable{prog:AS}{w:AC}{A:AZ}{E:Vq}{s:As}{K:Frag}
end
end Att
namespace L2
open PySem PySem.Spec PyProof.Rows
variable{k:Ag}{x:Ah}
theorem O8:∀{vs:Ad Ai}{ns:Ad Af},HE vs ns->Bf (ns.map V.int) vs
 |_,_,.nil=>.nil
 |_,_,.cons n t h=>.cons ⟨t,rfl⟩ (O8 h)
def OQ(H:Hp):Prop:=∀ b,H b=Ae\/∃ o xs,H b=Aa (.frz o (.lst xs))
theorem Xf{P:AS}{w:AC}{K:Fg}{mg mb:Ah->An Ai}{CX:CXT}{fa a:Aj}{fd:BP}{sp:Sp}{s₁:As}{vs:Ad Ai}{ns:Ad Af}(KX:K.In s₁.heap)(hns:s₁.heap.Ns AM mg)(hb:s₁.heap.Ns HP mb)(hbb:∀ x:Ah,x≠"__name__"->mb x=CY x)(hlim:s₁.heap.NoLimit)(hg:s₁.gens=#[])(ha:s₁.heap.get? a=Aa { cls:=.type "list", data:=.seq vs.toArray })(hi:HE vs ns)(hl:ns.length<=sizeLine)(hr:Room k GP)(F:∀ base:AD,K.In base->base.Ns AM mg->FnOk P w K mg base CX k fa fd [x] sp)(hbind:∀(s:As)(u:Ai),FT s fd ⟨[u],[]⟩ [(x,u)])(hsp:∀ H:Hp,OQ H->SqL K H a (ns.map V.int)->sp [.ref a] H (fun v _=>v=.bl Ab) fun _ _ _=>AU)(hCX:∀ H e s',CX [] H s₁ (fun _ _ _=>AU) e s'->AU):Fi (model P w) GP (.call (.ref fa) ⟨[.ref a],[]⟩) (fun r s'=>r=.ok (.ret (.bool Ab))/\OldK s₁.heap s'.heap/\s'.os=s₁.os/\Fh s'.gens) s₁:=by
 have rv:=O8 hi;have lenV:=hi.length
 -- from an abstract heap in which nothing but the script may be tracked
 have core:∀ H:Hp,OQ H->SqL K H a (ns.map V.int)->HOk P w H s₁.heap->(∀ b,H b≠Ae->b=a)->(H a≠Ae->K.lookup a=Ae) ->
   Fi (model P w) GP (.call (.ref fa) ⟨[.ref a],[]⟩) (fun r s'=>r=.ok (.ret (.bool Ab))/\OldK s₁.heap s'.heap/\s'.os=s₁.os/\Fh s'.gens) s₁:=by
  intro H hO hS hok hA hK;have base_of:∀{b:Aj}{o:CW},s₁.heap.get? b=Aa o->H b=Ae->(H9 s₁.heap H).get? b=Aa o:=fun e n=>Xi e n
  have noA:∀{b:Aj}{o:CW}{es:Bk DictEntry}{ep:Ag},s₁.heap.get? b=Aa o->o.data=.dict es ep->H b=Ae:=fun {b o es ep} e d=>by
   cases q:H b with
   |none=>rfl
   |some u=>
    have e':b=a:=hA b (by rw[q];simp)
    subst e';rw[ha]at e;cases e;have d':Kz vs.toArray _=Data.dict es ep:=d;cases d'
  have nsK:∀{b:Aj}{m:Ah->An Ai},s₁.heap.Ns b m->(H9 s₁.heap H).Ns b m:=fun {b m} ⟨o,es,ep,e,d,r⟩=>⟨o,es,ep,base_of e (noA e d),d,r⟩
  have hKb:K.In (H9 s₁.heap H):=fun b o e=>base_of (KX b o e) (by
   cases q:H b with
   |none=>rfl
   |some u=>
    have e':b=a:=hA b (by rw[q];simp)
    subst e';rw[hK (by rw[q];simp)]at e;cases e)
  have hM:Mod K mg (H9 s₁.heap H):=⟨hKb,nsK hns,⟨mb,nsK hb,hbb⟩,let ⟨mc,h1,h2⟩:=hlim;⟨mc,nsK h1,h2⟩⟩
  have e0:Env0 P w K mg (H9 s₁.heap H) GP [] s₁ H:=⟨rfl,hM,fun b o e=>YQ e,Nat.le_of_eq (WN _ _),trivial,fun b hb=>absurd (show b∈([]:Ad Aj) from hb) (by simp),hok,.of_eq hg⟩
  refine E5 ((F _ hKb (nsK hns)).run GP [] s₁ H ⟨[.ref a],[]⟩ [.ref a] [.ref a] _ _ hr e0 (hbind s₁ (.ref a)) (.cons rfl .nil) (hsp H hO hS)) fun r s' h=>?_
  cases r with
  |error e=>exact(hCX H e s' h).elim
  |ok fl=>
   cases fl with
   |next=>exact Bc h
   |brk=>exact Bc h
   |cont=>exact Bc h
   |ret u=>
    obtain⟨v,H',os,bare,un,hok',r',q⟩:=h;have q':v=.bl Ab:=q;subst q';obtain rfl:u=JD Ab:=r';refine⟨rfl,OldK.of_keep fun b o e=>?_,os,bare⟩
    cases q:H b with
    |none=>exact un.keep b o e q (by intro z;exact absurd (show b∈([]:Ad Aj) from z) (by simp)) (by simp)
    |some u=>
     rcases hO b with z|⟨ob,xs,z⟩
     ·rw[q]at z;cases z
     ·have z2:=un.frzs b ob _ z;obtain⟨e1,_⟩:=hok b _ z;obtain⟨e2,_⟩:=hok' b _ z2;rw[e]at e1;cases e1;exact e2
 cases hk:K.lookup a with
 |some o=>
  -- the script is one of the module's own objects
  have e:=KX a o hk;rw[ha]at e;cases e;refine core (fun _=>Ae) (fun _=>.inl rfl) (.inr ⟨_,vs.toArray,_,hk,rfl,rfl,rfl,by rw[AQ,lenV];exact hl,by simpa using rv⟩) (fun b u z=>by have z':(Ae:An HO)=Aa u:=z;cases z') (fun b z=>absurd rfl z) fun z=>absurd rfl z
 |none=>
  refine core (fun b=>if b=a then Aa (.frz { cls:=.type "list", data:=.seq vs.toArray } (.lst (ns.map V.int))) else Ae) (fun b=>?_) (.inl (.inr ⟨{ cls:=.type "list", data:=.seq vs.toArray },Aw rfl⟩)) (fun b u z=>?_) (fun b z=>?_) fun _=>hk
  ·by_cases hb:b=a
   ·exact .inr ⟨_,_,Aw hb⟩
   ·exact .inl (AA hb)
  ·by_cases hb:b=a
   ·have z':=(Aw hb).symm.trans z;cases z';subst hb;exact⟨ha,by rw[Cf];exact hl,vs,_,rv,ha⟩
   ·have z':=(AA hb).symm.trans z;cases z'
  ·by_cases hb:b=a
   ·exact hb
   ·exact absurd (AA hb) z
noncomputable abbrev KOf{K:Fg}{h:AD}(_:K.In h):Fg:=K
theorem walk_of{l:Fx}{n:Ag}{q:AS}{loose:Ad Ah}{XP:(Ah->An Ai)->AD->Prop}{YP:AC->AD->Prop}{d:DefRec}{K:KB->Fg}{CX:AC->CXT}{sp:AC->Sp}(hn:l.most=Aa n)(hn2:n<=sizeLine)(hdf:d.params.defaults=[])(hr:Room k GP)(hY:∀(w:AC)(h:AD),YP w h->(K w.params).In h)(F:∀(w:AC)(mg:Ah->An Ai)(fa:Aj)(h:AD),(K w.params).In h->h.Ns AM mg->mg d.name=Aa (.ref fa) ->
   ∃ fd:BP,(∀(s:As)(u:Ai),FT s fd ⟨[u],[]⟩ [(x,u)]) /\
    ∀ base:AD,(K w.params).In base->base.Ns AM mg->FnOk l.prog w (K w.params) mg base (CX w) k fa fd [x] (sp w))(hsp:∀(w:AC)(H:Hp)(a:Aj)(ns:Ad Af),ns.length<=n->OQ H->SqL (K w.params) H a (ns.map V.int)->sp w [.ref a] H (fun v _=>v=.bl Ab) fun _ _ _=>AU)(hCX:∀(w:AC)(H:Hp)(s:As)(e:Ai)(s':As),CX w [] H s (fun _ _ _=>AU) e s'->AU):Vn q loose XP YP l.row.toRowW d [] (fun f vs=>JG f vs):=by
 refine Att.attach_call hn hdf fun w s₀ s₁ mg mb fa o pm cd doc a vs ns G Y ho hd hcd hmg hobj hints hlen hg=>?_
 have KX:=hY w _ Y;obtain⟨fd,hb,hF⟩:=F w mg fa _ KX G.T.g hmg;exact Xf KX G.T.g G.T.b G.T.builtins G.T.nolimit hg hobj hints (Co hlen hn2) hr hF hb (fun H hO hS=>hsp w H a ns hlen hO hS) fun H e s'=>hCX w H s₁ e s'
end L2
/- THE LAST THEOREM (shape;LID,My.* are yours):
   My.Adr: a structure of the addresses that your layer names (classes,functions);My.Txt K t: a structure (Prop) of the equations over K;
   My.txt_mk:{K} {implicit addresses ..} (e1:nsIn K AM "law" = Aa (Aa (.ref f))) (e2:K.lookup f=Aa ⟨oc,od,.func (fnOf "law" "law" params body scope dV kV doc pm an cdv ct),sl⟩) (e3:codeIn K cdv "law" = Ab) ..:∃ t,My.Txt K t
set_option maxRecDepth 100000 in
set_option maxHeartbeats 0 in
theorem PySem.Challenge.cw_LID_holds:PySem.Challenge.rw_LID.Holds:=by
 w_on;o_law;k_head;(case hw=>w_witness2)
 k_fill
 refine L2.walk_of (l:=PySem.Challenge.rw_LID) (n:=63) (k:=40) (x := "script") (CX:=fun w=>..) (sp:=fun _=>My.sp_law) rfl (by decide) rfl ⟨rfl,by decide,by decide⟩ (fun w h Y=>Vp Y) ?F ?S ?C
 case F=>
  intro w mg fa h KX G hmg;have T:∃ t,My.Txt (L2.KOf KX) t:=by
   dsimp only[L2.KOf]                          -- K must stand as «<heap const> w.params» for k_is
   refine' My.txt_mk ?e1 ?e2 ?e3 ..
   (case e1=>PySem.W.k_is)                    -- in the order: a name -> its address -> its object -> its parts
   (case e2=>PySem.W.k_is)
   ..
  obtain⟨t,T⟩:=T;have e0:=hmg.symm.trans (Ba KX G T.law);cases e0                                       -- fa is the law's own address
  exact⟨_,fun s u=>.of_eq rfl,fun base kb nb=>My.law_fn T kb nb⟩     -- if «.of_eq rfl» comes too early: refine' ⟨_,?b,fun base kb nb=>My.law_fn T kb nb⟩;exact fun s u=>.of_eq rfl
 case S=>exact fun w H a ns hl hO hS=>..
 case C=>exact ..
(the tactic k_is has no namespace: write k_is) -/
namespace L2
open PySem PySem.Spec PyProof.Rows
noncomputable def IH(s:A9):Ku:=match s with
  |.FunctionDef _ a _ _ _ _ _ _ _ _=>a
  |_=>{posonlyargs:=[],args:=[],vararg:=Ae,kwonlyargs:=[],kw_defaults:=[],kwarg:=Ae,defaults:=[]}
noncomputable def Fo(s:A9):Ad A9:=match s with
  |.FunctionDef _ _ b _ _ _ _ _ _ _=>b
  |_=>[]
noncomputable def Cp(s:A9):B9:=match s with
  |.FunctionDef _ _ _ _ _ _ sc _ _ _=>sc
  |_=>{kind:=.function,names:=[],isGenerator:=Ac,isCoroutine:=Ac}
noncomputable abbrev CX0:CXT:=fun _ _ _ _ _ _=>AU
noncomputable abbrev E0:XK:=fun _ _ _=>AU
structure Fun (K:Fg) (x qual:Ah) (st:A9) (f:Aj) (fd:BP):Prop where
 ex:∃(oc:Ai)(od:An Aj)(kV doc pm:Ai)(an:An Aj)(cdv ct:Ai)(osl:Bk (An Ai)),
  fd=CD x qual (IH st) (Fo st) (Cp st) .none kV doc pm an cdv ct/\K.lookup f=Aa ⟨oc,od,.func fd,osl⟩/\El K cdv qual=Ab
 kp:B1 K (.ref f)=Ab
section
variable{P:AS}{w:AC}{K:Fg}{mg:Ah->An Ai}{base:AD}
theorem Fun.ok{x qual:Ah}{st:A9}{f:Aj}{fd:BP}{N ps:Ad Ah}{k:Ag}{sp:Sp}(F:Fun K x qual st f fd)(S:FnScope N ps (Cp st))(len:∀ vs H Q E,sp vs H Q E->vs.length=ps.length)(hbody:∀(cdv:Ai)(A:AZ)(outer:Ad B5)(s:As)(H:Hp)(vs:Ad V)(Q:VK)(E:XK),Room k (A.deeper (Eh qual (Cp st) s.heap.objs.size f cdv))->sp vs H Q E ->
   ∃ t,PSs (Eo CX0 P w K mg base N qual (Cp st) f cdv A outer s H E).nox (Fo st) t/\t {nx:=fun _ H'=>Q .non H',rt:=Q} (start N vs) H):FnOk P w K mg base CX0 (k+1) f fd ps sp:=by
 obtain⟨oc,od,kV,doc,pm,an,cdv,ct,osl,rfl,lk,hcd⟩:=F.ex;refine S4 lk hcd S len fun A outer s H vs Q E hr hsp=>?_
 obtain⟨t,h,q⟩:=hbody cdv A outer s H vs Q E hr hsp;exact⟨t,h.nox,q⟩
theorem Fun.binds{x qual:Ah}{st:A9}{f:Aj}{fd:BP}{ps:Ad Ah}(F:Fun K x qual st f fd)(h:∀(kV doc pm:Ai)(an:An Aj)(cdv ct:Ai)(us:Ad Ai),us.length=ps.length->IZ (CD x qual (IH st) (Fo st) (Cp st) .none kV doc pm an cdv ct) ⟨us,[]⟩=pure (ps.zip us)):Fq K fd ps []:=by
 obtain⟨oc,od,kV,doc,pm,an,cdv,ct,osl,rfl,lk,hcd⟩:=F.ex;exact .all (h kV doc pm an cdv ct)
theorem RP{x qual:Ah}{st:A9}{f:Aj}{oc:Ai}{od an:An Aj}{osl:Bk (An Ai)}{kV doc pm cdv ct:Ai}(l:K.lookup f=Aa ⟨oc,od,.func (CD x qual (IH st) (Fo st) (Cp st) .none kV doc pm an cdv ct),osl⟩)(c:El K cdv qual=Ab)(k:B1 K (.ref f)=Ab):Fun K x qual st f (CD x qual (IH st) (Fo st) (Cp st) .none kV doc pm an cdv ct):=⟨⟨oc,od,kV,doc,pm,an,cdv,ct,osl,rfl,l,c⟩,k⟩
end
section
variable{X:Cx}
end
def AE(H H':Hp):Prop:=∀ b o,H b=Aa o->H' b=Aa o
theorem AE.refl(H:Hp):AE H H:=fun _ _ h=>h
theorem AE.trans{H H1 H2:Hp}(a:AE H H1)(b:AE H1 H2):AE H H2:=fun c o h=>b c o (a c o h)
theorem AE.free{H H':Hp}(e:AE H H'){l:Aj}(h:H' l=Ae):H l=Ae:=by
 cases q:H l with
 |none=>rfl
 |some o=>
  rw[e l o q]at h;cases h
end L2
section
namespace Ov
open PySem
variable{α β:Type}
inductive D where
 |non|bl (b:Ao)|int (i:Af)|str (x:Ah)|tup (ds:Ad D)|lst (ds:Ad D)
 |obj (c:Ag) (fs:Ad (Ah×D))|exc (c:Ag) (fs:Ad (Ah×D))|dic (kvs:Ad (Ad Af×D))
 deriving Inhabited
structure Ex where
 c:Ag
 fs:Ad (Ah×D)
 deriving Inhabited
inductive R (α:Type) where
 |ok (a:α)|exn (x:Ex)|bad
 deriving Inhabited
noncomputable def R.bind{α β:Type}(r:R α)(f:α->R β):R β:=match r with
  |.ok a=>f a
  |.exn x=>.exn x
  |.bad=>.bad
@[simp]theorem R.bind_ok(a:α)(f:α->R β):(R.ok a).bind f=f a:=rfl
@[simp]theorem R.bind_exn(x:Ex)(f:α->R β):(R.exn x:R α).bind f=.exn x:=rfl
@[simp]theorem R.bind_bad(f:α->R β):(R.bad:R α).bind f=.bad:=rfl
theorem R.bind_assoc{γ:Type}(r:R α)(f:α->R β)(g:β->R γ):(r.bind f).bind g=r.bind fun a=>(f a).bind g:=by cases r<;>rfl
noncomputable def D8(n:Ag):Ao:=C5 n 1000000
noncomputable def Ez(i j:Af):Ao:=(decide (-(18446744073709551616:Af)<i)&&decide (i<18446744073709551616))||(decide (-(18446744073709551616:Af)<j)&&decide (j<18446744073709551616))
noncomputable def EO(i j:Af):Ao:=decide (i.natAbs<2 ^ 2000)&&decide (j.natAbs<2 ^ 2000)
noncomputable def Dj:GZ->D->D->R D
 |.Add,.int i,.int j=>.ok (.int (i+j))
 |.Sub,.int i,.int j=>.ok (.int (i-j))
 |.Mult,.int i,.int j=>if (Ez i j||EO i j)=Ab then .ok (.int (i*j)) else .bad
 |.FloorDiv,.int i,.int j=>if 0<j/\j<1073741824 then .ok (.int (i / j)) else .bad
 |.Mod,.int i,.int j=>if 0<j then .ok (.int (i%j)) else .bad
 |.Pow,.int i,.int j=>if (0<=j/\j<=1000000)/\(-(18446744073709551616:Af)<i/\i<18446744073709551616) then .ok (.int (i ^ j.toNat)) else .bad
 |.Add,.str x,.str y=>if D8 (x.length+y.length)=Ab then .ok (.str (x++y)) else .bad
 |.Add,.lst x,.lst y=>if D8 (x.length+y.length)=Ab then .ok (.lst (x++y)) else .bad
 |.Add,.tup x,.tup y=>if (!x.isEmpty&&D8 (x.length+y.length))=Ab then .ok (.tup (x++y)) else .bad
 |_,_,_=>.bad
noncomputable def unD:UnaryOp->D->R D
 |.USub,.int i=>.ok (.int (-i))
 |_,_=>.bad
noncomputable def b2i(b:Ao):Af:=if b=Ab then 1 else 0
mutual
noncomputable def eqD:D->D->Ao
 |.non,.non=>Ab
 |.bl a,.bl b=>a==b
 |.bl a,.int j=>b2i a==j
 |.int i,.bl b=>i==b2i b
 |.int i,.int j=>i==j
 |.str x,.str y=>x==y
 |.tup xs,.tup ys=>eqDs xs ys
 |.lst xs,.lst ys=>eqDs xs ys
 |_,_=>Ac
noncomputable def eqDs:Ad D->Ad D->Ao
 |[],[]=>Ab
 |x::xs,y::ys=>eqD x y&&eqDs xs ys
 |_,_=>Ac
end
noncomputable def flD:Ag->D->Ao
 |_,.non=>Ab
 |_,.bl _=>Ab
 |_,.int _=>Ab
 |_,.str _=>Ab
 |n+1,.tup xs=>xs.all (flD n)
 |n+1,.lst xs=>xs.all (flD n)
 |_,_=>Ac
noncomputable def IR:D->An (Ad Af)
 |.tup ds=>keyDs ds
 |_=>Ae
where keyDs:Ad D->An (Ad Af)
 |[]=>Aa []
 |.int i::r=>(keyDs r).map (i :: ·)
 |_=>Ae
noncomputable def ltD:Ag->D->D->Ao
 |0,.int i,.int j=>decide (i<j)
 |n+1,.tup xs,.tup ys=>ltDs (ltD n) xs ys
 |_,_,_=>Ac
where ltDs (lt:D->D->Ao):Ad D->Ad D->Ao
 |[],[]=>Ac
 |[],_::_=>Ab
 |_::_,[]=>Ac
 |x::xs,y::ys=>if eqD x y=Ab then ltDs lt xs ys else lt x y
noncomputable def rkD:Ag->D->Ao
 |0,.int _=>Ab
 |n+1,.tup xs=>xs.all (rkD n)
 |_,_=>Ac
noncomputable def TK(lt:D->D->Ao)(x:D):Ad D->Ad D
 |[]=>[x]
 |y::ys=>if lt y x=Ab then y::TK lt x ys else x::y::ys
noncomputable def Sk(lt:D->D->Ao):Ad D->Ad D
 |[]=>[]
 |x::xs=>TK lt x (Sk lt xs)
noncomputable def Tq:Ad D->Ao
 |[]=>Ab
 |x::xs=>xs.all (fun y=>!eqD x y)&&Tq xs
noncomputable def TY:Ad D->Ao
 |[]=>Ab
 |[_]=>Ab
 |x::y::r=>ltD 1 x y&&TY (y::r)
noncomputable def QG(xs:Ad D):R (Ad D):=if (xs.all (fun d=>rkD 1 d && !eqD d (.tup []))&&Tq xs&&(decide (xs.length<64)||(TY xs&&decide (xs.length<=1000))))=Ab then .ok (Sk (ltD 1) xs) else .bad
noncomputable def BU:D4->D->D->R D
  |.Eq,x,y=>if (flD 5 x&&flD 5 y)=Ab then .ok (.bl (eqD x y)) else .bad
  |.NotEq,x,y=>if (flD 5 x&&flD 5 y)=Ab then .ok (.bl (!eqD x y)) else .bad
  |.Lt,.int i,.int j=>.ok (.bl (decide (i<j)))
  |.LtE,.int i,.int j=>.ok (.bl (decide (i<=j)))
  |.Gt,.int i,.int j=>.ok (.bl (decide (j<i)))
  |.GtE,.int i,.int j=>.ok (.bl (decide (j<=i)))
  |.In,x,.lst ys=>if (flD 5 x&&ys.all (flD 5))=Ab then .ok (.bl (ys.any fun y=>eqD y x)) else .bad
  |.In,x,.dic kvs=>match IR x with
    |some k=>.ok (.bl (kvs.any fun p=>p.1==k))
    |none=>.bad
  |.In,x,.tup ys=>if (flD 5 x&&ys.all (flD 5))=Ab then .ok (.bl (ys.any fun y=>eqD y x)) else .bad
  |.NotIn,x,.lst ys=>if (flD 5 x&&ys.all (flD 5))=Ab then .ok (.bl (!ys.any fun y=>eqD y x)) else .bad
  |.NotIn,x,.tup ys=>if (flD 5 x&&ys.all (flD 5))=Ab then .ok (.bl (!ys.any fun y=>eqD y x)) else .bad
  |.Is,.non,.non=>.ok (.bl Ab)
  |.Is,.bl _,.non=>.ok (.bl Ac)
  |.Is,.int _,.non=>.ok (.bl Ac)
  |.Is,.str _,.non=>.ok (.bl Ac)
  |.Is,.tup _,.non=>.ok (.bl Ac)
  |.Is,.lst _,.non=>.ok (.bl Ac)
  |.Is,.obj _ _,.non=>.ok (.bl Ac)
  |.Is,.bl a,.bl b=>.ok (.bl (a==b))
  |.IsNot,.bl a,.bl b=>.ok (.bl (!(a==b)))
  |.IsNot,.non,.non=>.ok (.bl Ac)
  |.IsNot,.bl _,.non=>.ok (.bl Ab)
  |.IsNot,.int _,.non=>.ok (.bl Ab)
  |.IsNot,.str _,.non=>.ok (.bl Ab)
  |.IsNot,.tup _,.non=>.ok (.bl Ab)
  |.IsNot,.lst _,.non=>.ok (.bl Ab)
  |.IsNot,.obj _ _,.non=>.ok (.bl Ab)
  |_,_,_=>.bad
noncomputable def BL:D->R Ao
 |.non=>.ok Ac
 |.bl b=>.ok b
 |.int i=>.ok (i != 0)
 |.str x=>if D8 x.length=Ab then .ok (x.length != 0) else .bad
 |.tup xs=>.ok (!xs.isEmpty)
 |.lst xs=>.ok (!xs.isEmpty)
 |_=>.bad
noncomputable def plD(n:Ag)(i:Af):An Ag:=if 0<=i then (if i<n then Aa i.toNat else Ae) else if -(n:Af)<=i then Aa (i+n).toNat else Ae
noncomputable def Da(xs:Ad D)(i:Af):R D:=match plD xs.length i with
  |some k=>match xs[k]? with
    |some d=>.ok d
    |none=>.bad
  |none=>.bad
noncomputable def fQ(kvs:Ad (Ad Af×D))(k:Ad Af):An D:=(kvs.find? fun p=>p.1==k).map (·.2)
noncomputable def RV(kvs:Ad (Ad Af×D))(k:Ad Af)(v:D):Ad (Ad Af×D):=if (kvs.any fun p=>p.1==k)=Ab then kvs.map (fun p=>if (p.1==k)=Ab then (k,v) else p) else kvs++[(k,v)]
noncomputable def CG:D->D->R D
  |.lst xs,.int i=>Da xs i
  |.tup xs,.int i=>Da xs i
  |.dic kvs,k=>match (IR k).bind (fQ kvs) with
    |some d=>.ok d
    |none=>.bad
  |_,_=>.bad
noncomputable def EA:D->R Af
 |.int i=>.ok i
 |_=>.bad
noncomputable def Dk:D->R Ao
 |.bl b=>.ok b
 |_=>.bad
noncomputable def Ck:D->R (Ad D)
 |.lst xs=>.ok xs
 |.tup xs=>.ok xs
 |_=>.bad
noncomputable def Ou:D->R (Ad D)
 |.lst xs=>.ok xs
 |_=>.bad
inductive BI where
 |len|abs|max|min|int|list|tuple|all|any|sum|sorted|str|count|stp|lset|tmin|tmax|tlt|rvs
 deriving DecidableEq,Inhabited
inductive Ki where
 |int|bool|str|list|tuple|verr|cls (c:Ag)
 deriving DecidableEq,Inhabited
mutual
inductive E where
 |non|bl (b:Ao)|int (i:Af)|str (x:Ah)
 |var (i:Ag)|glob (g:Ag)
 |bin (op:GZ) (a b:E)|un (op:UnaryOp) (a:E)|no (a:E)
 |and (es:Es)|or (es:Es)
 |cmp (op:D4) (a b:E)|cmp2 (op op':D4) (a b c:E)
 |ite (c a b:E)
 |call (f:Ag) (as:Es)|bi (b:BI) (as:Es)
 |isi (a:E) (ks:Ad Ki)
 |idx (a i:E)|sl (a lo hi:E)
 |tup (es:Es)|lst (es:Es)
 |comp (elt:E) (t:Ag) (it:I) (c:E)|compT (elt:E) (ts:Ad Ag) (it:I) (c:E)|tupI (it:I)|dnew
 |fld (o:E) (f:Ah)
inductive Es where
 |nil|cons (e:E) (es:Es)
inductive I where
 |e (a:E)|rng (a:E)|rng2 (a b:E)|zip (a b:E)|zip3 (a b c:E)|enm (a:E)
end
abbrev Sl:=An (D×Ao)
abbrev Rho:=Ad Sl
structure Gam where
 F:Ag->Ad D->R D
 G:Ag->D
 up:Ag->Ad Ag
 /-- the defs whose answer is a new list -/
 fr:Ag->Ao
 /-- what is raised: the class,what it is made of -/
 xn:Ag->Ad D->R Ex
noncomputable def DL(lo:Af)(n:Ag):Ad D:=(Bz n).map fun(k:Ag)=>D.int (lo+(k:Af))
noncomputable def C9(lo hi:Af):R (Ad D):=if (-(4611686018427387904:Af)<=lo/\lo<4611686018427387904)/\(-(4611686018427387904:Af)<=hi/\hi<4611686018427387904)/\hi-lo<1000000 then .ok (DL lo (hi-lo).toNat) else .bad
noncomputable def kiD(up:Ag->Ad Ag):Ki->D->Ao
 |.int,.int _=>Ab
 |.int,.bl _=>Ab
 |.bool,.bl _=>Ab
 |.str,.str _=>Ab
 |.list,.lst _=>Ab
 |.tuple,.tup _=>Ab
 |.cls c,.obj k _=>(up k).contains c
 |.cls c,.exc k _=>(up k).contains c
 |.verr,.exc _ _=>Ab
 |_,_=>Ac
noncomputable def Dy:Ki->Ao
 |.cls _=>Ab
 |.verr=>Ab
 |_=>Ac
noncomputable def DX(up:Ag->Ad Ag)(ks:Ad Ki)(x:D):R D:=match x with
  |.obj _ _=>.bad
  |.exc _ _=>if ks.all Dy=Ab then .ok (.bl (ks.any fun k=>kiD up k x)) else .bad
  |.dic _=>.bad
  |_=>if ks.any Dy=Ab then .bad else .ok (.bl (ks.any fun k=>kiD up k x))
noncomputable def DZ:D->R Ao
 |.non=>.ok Ac
 |.bl b=>.ok b
 |.int i=>.ok (i != 0)
 |_=>.bad
noncomputable def GC:Ad D->R Ao
 |[]=>.ok Ab
 |x::r=>(DZ x).bind fun b=>(GC r).bind fun c=>.ok (b&&c)
noncomputable def Fa:Ad D->R Ao
 |[]=>.ok Ac
 |x::r=>(DZ x).bind fun b=>(Fa r).bind fun c=>.ok (b||c)
noncomputable def Gn:Af->Ad D->R Af
 |a,[]=>.ok a
 |a,.int i::r=>Gn (a+i) r
 |_,_=>.bad
noncomputable def Em:Ad D->Ad D->Ad D
 |x::xs,y::ys=>.tup [x,y]::Em xs ys
 |_,_=>[]
noncomputable def So:Ad D->Ad D->Ad D->Ad D
 |x::xs,y::ys,z::zs=>.tup [x,y,z]::So xs ys zs
 |_,_,_=>[]
noncomputable def Sf(x y z:D):R (Ad D):=(Ck x).bind fun xs=>(Ck y).bind fun ys=>(Ck z).bind fun zs=>if 0<xs.length/\xs.length<=1000/\ys.length=xs.length/\zs.length=xs.length then .ok (So xs ys zs) else .bad
noncomputable def DM:Af->Ad D->Ad D
 |_,[]=>[]
 |i,x::xs=>.tup [.int i,x]::DM (i+1) xs
noncomputable def nlD:Ag->D->Ao
 |_,.non=>Ab
 |_,.bl _=>Ab
 |_,.int _=>Ab
 |_,.str _=>Ab
 |n+1,.tup xs=>xs.all (nlD n)
 |_,_=>Ac
noncomputable def Ft(fr:Ao):D->Ao
 |.lst ds=>fr&&ds.all (nlD 5)
 |d=>nlD 5 d
noncomputable def IL:Ad D->An (Ad Af)
 |[]=>Aa []
 |.int i::r=>(IL r).map (i :: ·)
 |_=>Ae
noncomputable def Hz(i:Af):Ad Af->Af
 |[]=>i
 |j::r=>Hz (if j<i then j else i) r
noncomputable def pk2(k n:Ag):Ad Ag:=(Bz ((n-min k n+1) / 2)).map fun j=>min k n+2*j
noncomputable def Tf(k:Ag)(xs:Ad D):Ad D:=(pk2 k xs.length).filterMap fun i=>xs[i]?
noncomputable def ddS(acc:Ad Af)(x:Af):Ad Af:=if acc.any (· == x)=Ab then acc else acc++[x]
noncomputable def ddN(is:Ad Af):Ag:=(is.foldl ddS []).length
noncomputable def SH(xs:Ad D):R D:=match IL xs with
  |some is=>if C5 is.length 4000=Ab then .ok (.int (ddN is)) else .bad
  |none=>.bad
noncomputable def mmD(mx:Ao)(x y:D):R D:=if [x,y].all (fun d=>rkD 1 d && !eqD d (.tup []))=Ab then .ok (if (if mx=Ab then ltD 1 x y else ltD 1 y x)=Ab then y else x) else .bad
noncomputable def Tx(x y:D):R D:=if [x,y].all (fun d=>rkD 1 d && !eqD d (.tup []))=Ab then .ok (.bl (ltD 1 x y)) else .bad
noncomputable def biD:BI->Ad D->R D
  |.len,[.lst xs]=>.ok (.int xs.length)
  |.len,[.tup xs]=>.ok (.int xs.length)
  |.len,[.str x]=>if D8 x.length=Ab then .ok (.int x.length) else .bad
  |.abs,[.int i]=>.ok (.int (if i<0 then -i else i))
  |.max,[.int i,.int j]=>.ok (.int (if i<j then j else i))
  |.min,[.int i,.int j]=>.ok (.int (if j<i then j else i))
  |.min,[.lst xs]=>match IL xs with
    |some (i::is)=>.ok (.int (Hz i is))
    |_=>.bad
  |.int,[.int i]=>.ok (.int i)
  |.int,[.bl b]=>.ok (.int (b2i b))
  |.list,[.lst xs]=>.ok (.lst xs)
  |.list,[.tup xs]=>.ok (.lst xs)
  |.tuple,[.lst xs]=>.ok (.tup xs)
  |.tuple,[.tup xs]=>.ok (.tup xs)
  |.all,[.lst xs]=>(GC xs).bind fun b=>.ok (.bl b)
  |.any,[.lst xs]=>(Fa xs).bind fun b=>.ok (.bl b)
  |.any,[.tup xs]=>(Fa xs).bind fun b=>.ok (.bl b)
  |.sum,[.lst xs]=>(Gn 0 xs).bind fun i=>.ok (.int i)
  |.sum,[.tup xs]=>(Gn 0 xs).bind fun i=>.ok (.int i)
  |.sorted,[.lst xs]=>(QG xs).bind fun ys=>.ok (.lst ys)
  |.count,[.lst xs,x]=>if (flD 5 x&&xs.all (flD 5))=Ab then .ok (.int ((xs.filter fun y=>eqD y x).length:Ag)) else .bad
  |.len,[.dic kvs]=>.ok (.int kvs.length)
  |.stp,[.lst xs,.int k]=>.ok (.lst (Tf k.toNat xs))
  |.lset,[.lst xs]=>SH xs
  |.tmin,[x,y]=>mmD Ac x y
  |.tmax,[x,y]=>mmD Ab x y
  |.tlt,[x,y]=>Tx x y
  |.rvs,[.lst xs]=>.ok (.lst xs.reverse)
  |_,_=>.bad
noncomputable def slE(c:E)(d:D):R (An Af):=match c with
  |.non=>.ok Ae
  |_=>(EA d).bind fun i=>.ok (Aa i)
noncomputable def F9(n d:Ag):An Af->Ag
 |none=>d
 |some i=>if i<0 then (i+n).toNat else min i.toNat n
noncomputable def Hf(xs:Ad D)(lo hi:An Af):Ad D:=(xs.drop (F9 xs.length 0 lo)).take (F9 xs.length xs.length hi-F9 xs.length 0 lo)
noncomputable def slD:D->An Af->An Af->R D
 |.lst xs,l,h=>.ok (.lst (Hf xs l h))
 |.tup xs,l,h=>if (F9 xs.length 0 l==0&&F9 xs.length xs.length h==xs.length)=Ab then .bad else .ok (.tup (Hf xs l h))
 |_,_,_=>.bad
noncomputable def Km:D->Ah->R D
  |.exc _ fs,f=>match fs.lookup f with
    |some d=>.ok d
    |none=>.bad
  |_,_=>.bad
noncomputable def Fs(ρ:Rho)(i:Ag):R D:=match ρ[i]? with
  |some (Aa (d,Ac))=>.ok d
  |_=>.bad
noncomputable def En(ρ:Rho)(i:Ag):R D:=match ρ[i]? with
  |some (Aa (d,_))=>.ok d
  |_=>.bad
noncomputable def shE(ρ:Rho):E->Ao
  | .var i=>(match ρ[i]? with
    |some (Aa (_,Ab))=>Ac
    | _=>Ab)
  |_=>Ab
noncomputable def Hc(ρ:Rho):Es->Ao
 |.nil=>Ab
 |.cons e es=>shE ρ e&&Hc ρ es
noncomputable def Ev:Ad Ag->Ad D->Rho->An Rho
 |[],[],ρ=>Aa ρ
 |t::ts,d::ds,ρ=>Ev ts ds (ρ.set t (Aa (d,Ac)))
 |_,_,_=>Ae
noncomputable def Gj(ts:Ad Ag)(d:D)(ρ:Rho):R Rho:=match d with
  | .tup xs=>(match Ev ts xs ρ with
    |some ρ'=>.ok ρ'
    | none=>.bad)
  |_=>.bad
noncomputable def Hx(ts:Ad Ag)(d:D)(ρ:Rho):R Rho:=match d with
  | .lst xs=>(match Ev ts xs ρ with
    |some ρ'=>.ok ρ'
    | none=>.bad)
  |d=>Gj ts d ρ
noncomputable def BG(g:D->R Ao)(f:D->R D):Ad D->R (Ad D)
 |[]=>.ok []
 |x::xs=>(g x).bind fun b=>if b=Ab then (f x).bind fun y=>(BG g f xs).bind fun ys=>.ok (y::ys) else BG g f xs
noncomputable def noX{α:Type}:R α->R α
 |.ok a=>.ok a
 |_=>.bad
noncomputable def top(ρ:Rho)(e:E)(r:R D):R D:=match e with
  |.var i=>En ρ i
  |_=>r
mutual
noncomputable def evE(Γ:Gam)(ρ:Rho):E->R D
 |.non=>.ok .non
 |.bl b=>.ok (.bl b)
 |.int i=>.ok (.int i)
 |.str x=>.ok (.str x)
 |.var i=>Fs ρ i
 |.glob g=>.ok (Γ.G g)
 |.bin op a b=>(top ρ a (evE Γ ρ a)).bind fun x=>(top ρ b (evE Γ ρ b)).bind fun y=>Dj op x y
 |.un op a=>(top ρ a (evE Γ ρ a)).bind fun x=>unD op x
 |.no a=>(top ρ a (evE Γ ρ a)).bind fun x=>(Dk x).bind fun b=>.ok (.bl (!b))
 |.and es=>evN Γ ρ es
 |.or es=>evO Γ ρ es
 |.cmp op a b=>(top ρ a (evE Γ ρ a)).bind fun x=>(top ρ b (evE Γ ρ b)).bind fun y=>BU op x y
 |.cmp2 op op' a b c=>(top ρ a (evE Γ ρ a)).bind fun x=>(top ρ b (evE Γ ρ b)).bind fun y=>(BU op x y).bind fun z=>(Dk z).bind fun k=>if k=Ab then (top ρ c (evE Γ ρ c)).bind fun u=>BU op' y u else .ok (.bl Ac)
 |.ite c a b=>(top ρ c (evE Γ ρ c)).bind fun x=>(BL x).bind fun k=>if k=Ab then evE Γ ρ a else evE Γ ρ b
 |.call f as=>(evB Γ ρ as).bind fun xs=>(Γ.F f xs).bind fun d=>if Hc ρ as=Ab then .ok d else if Ft (Γ.fr f) d=Ab then .ok d else .bad
 |.bi b as=>(evB Γ ρ as).bind fun xs=>biD b xs
 |.isi a ks=>(top ρ a (evE Γ ρ a)).bind fun x=>DX Γ.up ks x
 |.idx a i=>(top ρ a (evE Γ ρ a)).bind fun x=>(top ρ i (evE Γ ρ i)).bind fun y=>CG x y
 |.sl a lo hi=>(top ρ a (evE Γ ρ a)).bind fun x=>(top ρ lo (evE Γ ρ lo)).bind fun l=>(slE lo l).bind fun l'=>(top ρ hi (evE Γ ρ hi)).bind fun h=>(slE hi h).bind fun h'=>slD x l' h'
 |.tup es=>(evA Γ ρ es).bind fun xs=>.ok (.tup xs)
 |.lst es=>(evA Γ ρ es).bind fun xs=>.ok (.lst xs)
 |.comp elt t it c=>(evI Γ ρ it).bind fun xs=>(noX (BG (fun x=>(top (ρ.set t (Aa (x,Ac))) c (evE Γ (ρ.set t (Aa (x,Ac))) c)).bind BL) (fun x=>evE Γ (ρ.set t (Aa (x,Ac))) elt) xs)).bind fun ys=>.ok (.lst ys)
 |.compT elt ts it c=>(evI Γ ρ it).bind fun xs=>(noX (BG (fun x=>(Gj ts x ρ).bind fun ρ'=>(top ρ' c (evE Γ ρ' c)).bind BL) (fun x=>(Gj ts x ρ).bind fun ρ'=>evE Γ ρ' elt) xs)).bind fun ys=>.ok (.lst ys)
 |.tupI it=>(evI Γ ρ it).bind fun xs=>.ok (.tup xs)
 |.dnew=>.ok (.dic [])
 |.fld o f=>(top ρ o (evE Γ ρ o)).bind fun x=>Km x f
noncomputable def evN(Γ:Gam)(ρ:Rho):Es->R D
 |.nil=>.bad
 |.cons e .nil=>evE Γ ρ e
 |.cons e (.cons e' es)=>(evE Γ ρ e).bind fun x=>(Dk x).bind fun c=>if c=Ab then evN Γ ρ (.cons e' es) else .ok (.bl Ac)
noncomputable def evO(Γ:Gam)(ρ:Rho):Es->R D
 |.nil=>.bad
 |.cons e .nil=>evE Γ ρ e
 |.cons e (.cons e' es)=>(evE Γ ρ e).bind fun x=>(Dk x).bind fun c=>if c=Ab then .ok (.bl Ab) else evO Γ ρ (.cons e' es)
noncomputable def evA(Γ:Gam)(ρ:Rho):Es->R (Ad D)
 |.nil=>.ok []
 |.cons e es=>(evE Γ ρ e).bind fun x=>(evA Γ ρ es).bind fun xs=>.ok (x::xs)
noncomputable def evB(Γ:Gam)(ρ:Rho):Es->R (Ad D)
 |.nil=>.ok []
 |.cons e es=>(top ρ e (evE Γ ρ e)).bind fun x=>(evB Γ ρ es).bind fun xs=>.ok (x::xs)
noncomputable def evI(Γ:Gam)(ρ:Rho):I->R (Ad D)
 |.e a=>(evE Γ ρ a).bind Ck
 |.rng a=>(top ρ a (evE Γ ρ a)).bind fun x=>(EA x).bind fun j=>C9 0 j
 |.rng2 a b=>(top ρ a (evE Γ ρ a)).bind fun x=>(top ρ b (evE Γ ρ b)).bind fun y=>(EA x).bind fun i=>(EA y).bind fun j=>C9 i j
 |.zip a b=>(evE Γ ρ a).bind fun x=>(evE Γ ρ b).bind fun y=>(Ck x).bind fun xs=>(Ck y).bind fun ys=>.ok (Em xs ys)
 |.zip3 a b c=>(evE Γ ρ a).bind fun x=>(evE Γ ρ b).bind fun y=>(evE Γ ρ c).bind fun z=>Sf x y z
 |.enm a=>(evE Γ ρ a).bind fun x=>(Ck x).bind fun xs=>.ok (DM 0 xs)
end
noncomputable def D0(Γ:Gam):E->Ao
 |.lst _=>Ab
 |.comp _ _ _ _=>Ab
 |.compT _ _ _ _=>Ab
 |.dnew=>Ab
 |.bin .Add _ _=>Ab
 |.bi .list _=>Ab
 |.bi .sorted _=>Ab
 |.sl _ _ _=>Ab
 |.call f _=>Γ.fr f
 |_=>Ac
mutual
inductive S where
 |pass
 /-- x=e;fresh: x alone holds the new list -/
 |asg (i:Ag) (fresh:Ao) (e:E)
 /-- a,b,..=e -/
 |asgT (ts:Ad Ag) (e:E)
 |expr (e:E)
 |ret (e:E)|retN
 |ife (c:E) (a b:Ss)
 |fors (t:Ag) (it:I) (body:Ss)
 |forT (ts:Ad Ag) (it:I) (body:Ss)
 |whl (c:E) (body:Ss)
 /-- raise C(e,..) -/
 |rais (c:Ag) (as:Es)
 /-- try: body except C as x: h -/
 |tryx (body:Ss) (c:Ag) (x:Ag) (h:Ss)
 /-- .. except C as x: h,except C' as x: h',else: els -/
 |try2 (body:Ss) (c:Ag) (x:Ag) (h:Ss) (c':Ag) (h' els:Ss)
 /-- x.append(e),x.extend(e),x.insert(k,e),x.reverse(),x.clear() -/
 |app (i:Ag) (e:E)|ext (i:Ag) (e:E)|ins (i:Ag) (k e:E)|rev (i:Ag)|clr (i:Ag)
 /-- d[k]=e,d.setdefault(k,e) -/
 |dput (i:Ag) (k e:E)|dsd (i:Ag) (k e:E)
 /-- x[k]=e -/
 |put (i:Ag) (k e:E)
 /-- x[k],x[l]=x[l],x[k] -/
 |swp (i k l:Ag)
 /-- x.append(y.pop(e)) -/
 |apop (j i:Ag) (e:E)
 |brk|cont
 /-- nothing: from here on x is no longer changed -/
 |rel (i:Ag)
inductive Ss where
 |nil|cons (s:S) (ss:Ss)
end
inductive O where
 |next (ρ:Rho)|ret (d:D) (fr:Ao)|brk (ρ:Rho)|cont (ρ:Rho)|exn (x:Ex) (ρ:Rho)|bad
 deriving Inhabited
noncomputable def O.of{α:Type}(ρ:Rho)(r:R α)(f:α->O):O:=match r with
  |.ok a=>f a
  |.exn x=>.exn x ρ
  |.bad=>.bad
@[simp]theorem O.of_ok(ρ:Rho)(a:α)(f:α->O):O.of ρ (.ok a) f=f a:=rfl
@[simp]theorem O.of_exn(ρ:Rho)(x:Ex)(f:α->O):O.of ρ (.exn x:R α) f=.exn x ρ:=rfl
@[simp]theorem O.of_bad(ρ:Rho)(f:α->O):O.of ρ (.bad:R α) f=.bad:=rfl
noncomputable def FR(Γ:Gam)(ρ:Rho)(i:I):R (Ad D):=evI Γ ρ i
noncomputable def DW(ρ:Rho)(i:Ag):R (Ad D):=match ρ[i]? with
  |some (Aa (.lst xs,Ab))=>.ok xs
  |_=>.bad
noncomputable def To(ρ:Rho)(i:Ag):R (Ad (Ad Af×D)):=match ρ[i]? with
  |some (Aa (.dic xs,Ab))=>.ok xs
  |_=>.bad
noncomputable def SN(d:D):R (Ad Af):=match IR d with
  |some k=>.ok k
  |none=>.bad
noncomputable def SZ:Ag:=4096
noncomputable def O.seq(o:O)(f:Rho->O):O:=match o with
  |.next ρ=>f ρ
  |.ret d b=>.ret d b
  |.brk ρ=>.brk ρ
  |.cont ρ=>.cont ρ
  |.exn x ρ=>.exn x ρ
  |.bad=>.bad
noncomputable def O.turn(o:O)(f:Rho->O):O:=match o with
  |.next ρ=>f ρ
  |.cont ρ=>f ρ
  |.brk ρ=>.next ρ
  |.ret d b=>.ret d b
  |.exn x ρ=>.exn x ρ
  |.bad=>.bad
noncomputable def Ch(body:D->Rho->O):Ad D->Rho->O
 |[],ρ=>.next ρ
 |x::xs,ρ=>(body x ρ).turn (Ch body xs)
noncomputable def OB(c:Rho->R Ao)(body:Rho->O):Ag->Rho->O
 |0,_=>.bad
 |n+1,ρ=>O.of ρ (c ρ) fun b=>if b=Ab then (body ρ).turn (OB c body n) else .next ρ
noncomputable def Sw(ρ:Rho)(k:Ag):R Af:=(Fs ρ k).bind EA
noncomputable def mE(ρ:Rho)(d:D)(i k l:Ag):O:=match d with
  |.tup [x,y]=>O.of ρ (DW ρ i) fun xs=>O.of ρ (Sw ρ k) fun a=>O.of ρ (Sw ρ l) fun b=>match plD xs.length a,plD xs.length b with
    |some m,Aa n=>.next (ρ.set i (Aa (.lst ((xs.set m x).set n y),Ab)))
    |_,_=>.bad
  |_=>.bad
noncomputable def apD(ρ:Rho)(j i:Ag)(ys xs:Ad D)(n:Af):O:=match plD xs.length n with
  | some m=>(match xs[m]? with
    |some d=>if (j != i&&(D8 xs.length&&D8 (ys.length+1)))=Ab then .next ((ρ.set i (Aa (.lst (xs.eraseIdx m),Ab))).set j (Aa (.lst (ys++[d]),Ab))) else .bad
    | none=>.bad)
  |none=>.bad
noncomputable def hdO(i:Ag)(y:Ex)(ρ':Rho)(fh:Rho->O):O:=match fh (ρ'.set i (Aa (.exc y.c y.fs,Ac))) with
  |.next ρ''=>.next (ρ''.set i Ae)
  |.ret d f=>.ret d f
  |_=>.bad
mutual
noncomputable def evS(Γ:Gam)(ρ:Rho):S->O
  |.pass=>.next ρ
  | .asg i fresh e=>O.of ρ (evE Γ ρ e) fun d=>if fresh=Ab then (if D0 Γ e=Ab then (match d with
      |.lst xs=>.next (ρ.set i (Aa (.lst xs,Ab)))
      |.dic xs=>.next (ρ.set i (Aa (.dic xs,Ab)))
      | _=>.bad) else .bad) else .next (ρ.set i (Aa (d,Ac)))
  |.asgT ts e=>O.of ρ (evE Γ ρ e) fun d=>O.of ρ (Hx ts d ρ) fun ρ'=>.next ρ'
  |.expr e=>O.of ρ (evE Γ ρ e) fun _=>.next ρ
  |.ret e=>O.of ρ (top ρ e (evE Γ ρ e)) fun d=>.ret d (D0 Γ e||(match e with | .var i=>(match ρ[i]? with|some (Aa (_,o))=>o|_=>Ac)|_=>Ac))
  |.retN=>.ret .non Ac
  |.ife c a b=>O.of ρ ((top ρ c (evE Γ ρ c)).bind BL) fun k=>if k=Ab then evSs Γ ρ a else evSs Γ ρ b
  |.fors t it body=>O.of ρ (FR Γ ρ it) fun xs=>Ch (fun x ρ'=>evSs Γ (ρ'.set t (Aa (x,Ac))) body) xs ρ
  |.forT ts it body=>O.of ρ (FR Γ ρ it) fun xs=>Ch (fun x ρ'=>O.of ρ' (Gj ts x ρ') fun ρ''=>evSs Γ ρ'' body) xs ρ
  |.whl c body=>OB (fun ρ'=>(top ρ' c (evE Γ ρ' c)).bind BL) (fun ρ'=>evSs Γ ρ' body) SZ ρ
  |.rais c as=>O.of ρ (noX (evA Γ ρ as)) fun xs=>O.of ρ (Γ.xn c xs) fun x=>.exn x ρ
  |.tryx body c x h=>match evSs Γ ρ body with
      | .exn y ρ'=>if (Γ.up y.c).contains c=Ab then (match evSs Γ (ρ'.set x (Aa (.exc y.c y.fs,Ac))) h with
          |.next ρ''=>.next (ρ''.set x Ae)
          |.ret d f=>.ret d f
          | _=>.bad) else .bad
      |o=>o
  |.try2 body c x h c' h' els=>match evSs Γ ρ body with
      |.exn y ρ'=>if (Γ.up y.c).contains c=Ab then hdO x y ρ' (fun r=>evSs Γ r h) else if (Γ.up y.c).contains c'=Ab then hdO x y ρ' (fun r=>evSs Γ r h') else .bad
      |.next ρ'=>evSs Γ ρ' els
      |o=>o
  |.app i e=>O.of ρ (DW ρ i) fun xs=>O.of ρ (evE Γ ρ e) fun d=>if D8 (xs.length+1)=Ab then .next (ρ.set i (Aa (.lst (xs++[d]),Ab))) else .bad
  |.ext i e=>O.of ρ (DW ρ i) fun xs=>O.of ρ (evE Γ ρ e) fun d=>O.of ρ (Ou d) fun ys=>if D8 (xs.length+ys.length)=Ab then .next (ρ.set i (Aa (.lst (xs++ys),Ab))) else .bad
  |.ins i k e=>O.of ρ (DW ρ i) fun xs=>O.of ρ ((top ρ k (evE Γ ρ k)).bind EA) fun j=>O.of ρ (evE Γ ρ e) fun d=>if (D8 (xs.length+1)&&decide (0<=j)&&decide (j<=xs.length))=Ab then .next (ρ.set i (Aa (.lst (xs.take j.toNat++d::xs.drop j.toNat),Ab))) else .bad
  |.rev i=>O.of ρ (DW ρ i) fun xs=>.next (ρ.set i (Aa (.lst xs.reverse,Ab)))
  |.clr i=>O.of ρ (DW ρ i) fun _=>.next (ρ.set i (Aa (.lst [],Ab)))
  |.dput i k e=>O.of ρ (evE Γ ρ e) fun d=>O.of ρ (To ρ i) fun xs=>O.of ρ ((evE Γ ρ k).bind SN) fun j=>if D8 (xs.length+1)=Ab then .next (ρ.set i (Aa (.dic (RV xs j d),Ab))) else .bad
  |.dsd i k e=>O.of ρ (To ρ i) fun xs=>O.of ρ ((evE Γ ρ k).bind SN) fun j=>O.of ρ (evE Γ ρ e) fun d=>if D8 (xs.length+1)=Ab then .next (ρ.set i (Aa (.dic (if (xs.any fun p=>p.1==j)=Ab then xs else RV xs j d),Ab))) else .bad
  |.put i k e=>O.of ρ (evE Γ ρ e) fun d=>O.of ρ (DW ρ i) fun xs=>O.of ρ ((top ρ k (evE Γ ρ k)).bind EA) fun j=>match plD xs.length j with
      |some n=>.next (ρ.set i (Aa (.lst (xs.set n d),Ab)))
      |none=>.bad
  |.swp i k l=>O.of ρ (evE Γ ρ (.tup (.cons (.idx (.var i) (.var l)) (.cons (.idx (.var i) (.var k)) .nil)))) fun d=>mE ρ d i k l
  |.apop j i e=>O.of ρ (DW ρ j) fun ys=>O.of ρ (DW ρ i) fun xs=>O.of ρ (evE Γ ρ e) fun d=>O.of ρ (EA d) fun n=>apD ρ j i ys xs n
  |.brk=>.brk ρ
  |.cont=>.cont ρ
  |.rel i=>match ρ[i]? with
      |some (Aa (d,Ab))=>.next (ρ.set i (Aa (d,Ac)))
      |_=>.next ρ
noncomputable def evSs(Γ:Gam)(ρ:Rho):Ss->O
 |.nil=>.next ρ
 |.cons s ss=>(evS Γ ρ s).seq fun ρ'=>evSs Γ ρ' ss
end
structure Df where
 n:Ag
 fr:Ao
 body:Ss
noncomputable def BA(n:Ag)(ds:Ad D):Rho:=ds.map (fun d=>Aa (d,Ac))++Gf (n-ds.length) Ae
noncomputable def isL:D->Ao
 |.lst _=>Ab
 |.dic _=>Ab
 |_=>Ac
noncomputable def O.ans(fr:Ao)(o:O):R D:=match o with
  |.ret d b=>if (fr&&(!b&&isL d))=Ab then .bad else .ok d
  |.next _=>if fr=Ab then .bad else .ok .non
  |.exn x _=>.exn x
  |_=>.bad
noncomputable def Df.run(Γ:Gam)(f:Df)(ds:Ad D):R D:=(evSs Γ (BA f.n ds) f.body).ans f.fr
structure Prg where
 xs:Ao
 defs:Ag->Df
 G:Ag->D
 up:Ag->Ad Ag
 xn:Ag->Ad D->R Ex
noncomputable def D9(xs:Ao)(r:R D):R D:=match xs with
  |true=>r
  |false=>noX r
noncomputable def gam(P:Prg):Ag->Gam
 |0=>⟨fun _ _=>.bad,P.G,P.up,fun i=>(P.defs i).fr,P.xn⟩
 |n+1=>⟨fun i ds=>D9 P.xs ((P.defs i).run (gam P n) ds),P.G,P.up,fun i=>(P.defs i).fr,P.xn⟩
end Ov
end
section
namespace Ov
open PySem
variable{α:Type}{lo hi:Af}{n:Ag}{x:D}
section
variable(Γ:Gam)(ρ:Rho)
@[simp]theorem Zvy:evE Γ ρ .non=.ok .non:=rfl
@[simp]theorem Zxq(b):evE Γ ρ (.bl b)=.ok (.bl b):=rfl
@[simp]theorem ZvC(b):evE Γ ρ (.int b)=.ok (.int b):=rfl
@[simp]theorem Zvx(b):evE Γ ρ (.str b)=.ok (.str b):=rfl
@[simp]theorem Zvv(i):evE Γ ρ (.var i)=Fs ρ i:=rfl
@[simp]theorem Zsh(i):evE Γ ρ (.glob i)=.ok (Γ.G i):=rfl
@[simp]theorem ZvF(op a b):evE Γ ρ (.bin op a b)=(top ρ a (evE Γ ρ a)).bind fun x=>(top ρ b (evE Γ ρ b)).bind fun y=>Dj op x y:=rfl
@[simp]theorem Zxm(op a):evE Γ ρ (.un op a)=(top ρ a (evE Γ ρ a)).bind fun x=>unD op x:=rfl
@[simp]theorem Zxp(a):evE Γ ρ (.no a)=(top ρ a (evE Γ ρ a)).bind fun x=>(Dk x).bind fun b=>.ok (.bl (!b)):=rfl
@[simp]theorem ZvG(es):evE Γ ρ (.and es)=evN Γ ρ es:=rfl
@[simp]theorem Zxo(es):evE Γ ρ (.or es)=evO Γ ρ es:=rfl
@[simp]theorem Zvs(e):evN Γ ρ (.cons e .nil)=evE Γ ρ e:=rfl
@[simp]theorem Zsb(e e' es):evN Γ ρ (.cons e (.cons e' es))=(evE Γ ρ e).bind fun x=>(Dk x).bind fun c=>if c=Ab then evN Γ ρ (.cons e' es) else .ok (.bl Ac):=rfl
@[simp]theorem Zvr(e):evO Γ ρ (.cons e .nil)=evE Γ ρ e:=rfl
@[simp]theorem Zsa(e e' es):evO Γ ρ (.cons e (.cons e' es))=(evE Γ ρ e).bind fun x=>(Dk x).bind fun c=>if c=Ab then .ok (.bl Ab) else evO Γ ρ (.cons e' es):=rfl
@[simp]theorem ZM(op a b):evE Γ ρ (.cmp op a b)=(top ρ a (evE Γ ρ a)).bind fun x=>(top ρ b (evE Γ ρ b)).bind fun y=>BU op x y:=rfl
@[simp]theorem Zsk(op op' a b c):evE Γ ρ (.cmp2 op op' a b c)=(top ρ a (evE Γ ρ a)).bind fun x=>(top ρ b (evE Γ ρ b)).bind fun y=>(BU op x y).bind fun z=>(Dk z).bind fun k=>if k=Ab then (top ρ c (evE Γ ρ c)).bind fun u=>BU op' y u else .ok (.bl Ac):=rfl
@[simp]theorem ZvA(c a b):evE Γ ρ (.ite c a b)=(top ρ c (evE Γ ρ c)).bind fun x=>(BL x).bind fun k=>if k=Ab then evE Γ ρ a else evE Γ ρ b:=rfl
@[simp]theorem Zsl(f as):evE Γ ρ (.call f as)=(evB Γ ρ as).bind fun xs=>(Γ.F f xs).bind fun d=>if Hc ρ as=Ab then .ok d else if Ft (Γ.fr f) d=Ab then .ok d else .bad:=rfl
@[simp]theorem Zxr(f as):evE Γ ρ (.bi f as)=(evB Γ ρ as).bind fun xs=>biD f xs:=rfl
@[simp]theorem ZvB(a ks):evE Γ ρ (.isi a ks)=(top ρ a (evE Γ ρ a)).bind fun x=>DX Γ.up ks x:=rfl
@[simp]theorem ZvD(a i):evE Γ ρ (.idx a i)=(top ρ a (evE Γ ρ a)).bind fun x=>(top ρ i (evE Γ ρ i)).bind fun y=>CG x y:=rfl
@[simp]theorem Zxn(a lo hi):evE Γ ρ (.sl a lo hi)=(top ρ a (evE Γ ρ a)).bind fun x=>(top ρ lo (evE Γ ρ lo)).bind fun l=>(slE lo l).bind fun l'=>(top ρ hi (evE Γ ρ hi)).bind fun h=>(slE hi h).bind fun h'=>slD x l' h':=rfl
@[simp]theorem Zvw(es):evE Γ ρ (.tup es)=(evA Γ ρ es).bind fun xs=>.ok (.tup xs):=rfl
@[simp]theorem Zvz(es):evE Γ ρ (.lst es)=(evA Γ ρ es).bind fun xs=>.ok (.lst xs):=rfl
noncomputable def cG(Γ:Gam)(ρ:Rho)(t:Ag)(c:E):D->R Ao:=fun x=>(top (ρ.set t (Aa (x,Ac))) c (evE Γ (ρ.set t (Aa (x,Ac))) c)).bind BL
noncomputable def cF(Γ:Gam)(ρ:Rho)(t:Ag)(elt:E):D->R D:=fun x=>evE Γ (ρ.set t (Aa (x,Ac))) elt
noncomputable def mkL(r:R (Ad D)):R D:=(noX r).bind fun ys=>.ok (.lst ys)
@[simp]theorem ZwX(ys):mkL (.ok ys)=.ok (.lst ys):=rfl
@[simp]theorem Zsj(elt t it c):evE Γ ρ (.comp elt t it c)=(evI Γ ρ it).bind fun xs=>mkL (BG (cG Γ ρ t c) (cF Γ ρ t elt) xs):=rfl
noncomputable def cGT(Γ:Gam)(ρ:Rho)(ts:Ad Ag)(c:E):D->R Ao:=fun x=>(Gj ts x ρ).bind fun ρ'=>(top ρ' c (evE Γ ρ' c)).bind BL
noncomputable def cFT(Γ:Gam)(ρ:Rho)(ts:Ad Ag)(elt:E):D->R D:=fun x=>(Gj ts x ρ).bind fun ρ'=>evE Γ ρ' elt
@[simp]theorem Zqs(elt ts it c):evE Γ ρ (.compT elt ts it c)=(evI Γ ρ it).bind fun xs=>mkL (BG (cGT Γ ρ ts c) (cFT Γ ρ ts elt) xs):=rfl
@[simp]theorem Zsg(it):evE Γ ρ (.tupI it)=(evI Γ ρ it).bind fun xs=>.ok (.tup xs):=rfl
@[simp]theorem Zsi:evE Γ ρ .dnew=.ok (.dic []):=rfl
@[simp]theorem ZvE(o f):evE Γ ρ (.fld o f)=(top ρ o (evE Γ ρ o)).bind fun x=>Km x f:=rfl
@[simp]theorem ZvI:evA Γ ρ .nil=.ok []:=rfl
@[simp]theorem Qb(e es):evA Γ ρ (.cons e es)=(evE Γ ρ e).bind fun x=>(evA Γ ρ es).bind fun xs=>.ok (x::xs):=rfl
@[simp]theorem ZvH:evB Γ ρ .nil=.ok []:=rfl
@[simp]theorem Nk(e es):evB Γ ρ (.cons e es)=(top ρ e (evE Γ ρ e)).bind fun x=>(evB Γ ρ es).bind fun xs=>.ok (x::xs):=rfl
@[simp]theorem Zym(a):evI Γ ρ (.e a)=(evE Γ ρ a).bind Ck:=rfl
@[simp]theorem ZL(a):evI Γ ρ (.rng a)=(top ρ a (evE Γ ρ a)).bind fun x=>(EA x).bind fun j=>C9 0 j:=rfl
@[simp]theorem Zsf(a b):evI Γ ρ (.rng2 a b)=(top ρ a (evE Γ ρ a)).bind fun x=>(top ρ b (evE Γ ρ b)).bind fun y=>(EA x).bind fun i=>(EA y).bind fun j=>C9 i j:=rfl
@[simp]theorem Zvt(a b):evI Γ ρ (.zip a b)=(evE Γ ρ a).bind fun x=>(evE Γ ρ b).bind fun y=>(Ck x).bind fun xs=>(Ck y).bind fun ys=>.ok (Em xs ys):=rfl
@[simp]theorem Zse(a b c):evI Γ ρ (.zip3 a b c)=(evE Γ ρ a).bind fun x=>(evE Γ ρ b).bind fun y=>(evE Γ ρ c).bind fun z=>Sf x y z:=rfl
@[simp]theorem Zvu(a):evI Γ ρ (.enm a)=(evE Γ ρ a).bind fun x=>(Ck x).bind fun xs=>.ok (DM 0 xs):=rfl
@[simp]theorem Zsc(a b):FR Γ ρ (.zip a b)=evI Γ ρ (.zip a b):=rfl
@[simp]theorem Zqq(a b c):FR Γ ρ (.zip3 a b c)=evI Γ ρ (.zip3 a b c):=rfl
@[simp]theorem Zsd(a):FR Γ ρ (.enm a)=evI Γ ρ (.enm a):=rfl
@[simp]theorem Zxl(a):FR Γ ρ (.e a)=(evE Γ ρ a).bind Ck:=rfl
@[simp]theorem WV(a):FR Γ ρ (.rng a)=evI Γ ρ (.rng a):=rfl
@[simp]theorem Zqr(a b):FR Γ ρ (.rng2 a b)=evI Γ ρ (.rng2 a b):=rfl
variable(r:R D)
@[simp]theorem ZsI(i):top ρ (.var i) r=En ρ i:=rfl
@[simp]theorem ZsL:top ρ .non r=r:=rfl
@[simp]theorem Zwr(b):top ρ (.bl b) r=r:=rfl
@[simp]theorem ZsP(b):top ρ (.int b) r=r:=rfl
@[simp]theorem ZsK(b):top ρ (.str b) r=r:=rfl
@[simp]theorem Zrw(b):top ρ (.glob b) r=r:=rfl
@[simp]theorem ZsT(op a b):top ρ (.bin op a b) r=r:=rfl
@[simp]theorem Zwn(op a):top ρ (.un op a) r=r:=rfl
@[simp]theorem Zwq(a):top ρ (.no a) r=r:=rfl
@[simp]theorem ZsU(a):top ρ (.and a) r=r:=rfl
@[simp]theorem Zwp(a):top ρ (.or a) r=r:=rfl
@[simp]theorem ZsS(op a b):top ρ (.cmp op a b) r=r:=rfl
@[simp]theorem Zrz(op op' a b c):top ρ (.cmp2 op op' a b c) r=r:=rfl
@[simp]theorem ZsN(a b c):top ρ (.ite a b c) r=r:=rfl
@[simp]theorem ZrA(a b):top ρ (.call a b) r=r:=rfl
@[simp]theorem Zws(a b):top ρ (.bi a b) r=r:=rfl
@[simp]theorem ZsO(a b):top ρ (.isi a b) r=r:=rfl
@[simp]theorem ZsQ(a b):top ρ (.idx a b) r=r:=rfl
@[simp]theorem Zwo(a b c):top ρ (.sl a b c) r=r:=rfl
@[simp]theorem ZsJ(a):top ρ (.tup a) r=r:=rfl
@[simp]theorem ZsM(a):top ρ (.lst a) r=r:=rfl
@[simp]theorem Zry(a b c d):top ρ (.comp a b c d) r=r:=rfl
@[simp]theorem ZsR(a b):top ρ (.fld a b) r=r:=rfl
@[simp]theorem Zov(a b c d):top ρ (.compT a b c d) r=r:=rfl
@[simp]theorem Zrv(a):top ρ (.tupI a) r=r:=rfl
@[simp]theorem Zrx:top ρ .dnew r=r:=rfl
end
@[simp]theorem Zoj(x:D×Ao)(ρ:Rho):En (Aa x::ρ) 0=.ok x.1:=rfl
@[simp]theorem Zok(x:D)(ρ:Rho):Fs (Aa (x,Ac)::ρ) 0=.ok x:=rfl
@[simp]theorem ZnU(x:Sl)(ρ:Rho)(i:Ag)[NeZero i]:En (x::ρ) i=En ρ (i-1):=by
 obtain⟨j,rfl⟩:∃ j,i=j+1:=⟨i-1,by have:=Ks i;omega⟩
 rfl
@[simp]theorem ZnV(x:Sl)(ρ:Rho)(i:Ag)[NeZero i]:Fs (x::ρ) i=Fs ρ (i-1):=by
 obtain⟨j,rfl⟩:∃ j,i=j+1:=⟨i-1,by have:=Ks i;omega⟩
 rfl
noncomputable def shV(ρ:Rho)(i:Ag):Ao:=match ρ[i]? with
    |some (Aa (_,Ab))=>Ac
    |_=>Ab
@[simp]theorem ZrE(x:D)(b:Ao)(ρ:Rho):shV (Aa (x,b)::ρ) 0=!b:=by cases b<;>rfl
@[simp]theorem ZoR(ρ:Rho):shV (Ae::ρ) 0=Ab:=rfl
@[simp]theorem ZoS(x:Sl)(ρ:Rho)(i:Ag)[NeZero i]:shV (x::ρ) i=shV ρ (i-1):=by
 obtain⟨j,rfl⟩:∃ j,i=j+1:=⟨i-1,by have:=Ks i;omega⟩
 rfl
section
variable(ρ:Rho)
@[simp]theorem Ztg(i):shE ρ (.var i)=shV ρ i:=rfl
@[simp]theorem Ztj:shE ρ .non=Ab:=rfl
@[simp]theorem ZwI(b):shE ρ (.bl b)=Ab:=rfl
@[simp]theorem Ztn(b):shE ρ (.int b)=Ab:=rfl
@[simp]theorem Zti(b):shE ρ (.str b)=Ab:=rfl
@[simp]theorem ZrH(b):shE ρ (.glob b)=Ab:=rfl
@[simp]theorem Ztr(op a b):shE ρ (.bin op a b)=Ab:=rfl
@[simp]theorem ZwE(op a):shE ρ (.un op a)=Ab:=rfl
@[simp]theorem ZwH(a):shE ρ (.no a)=Ab:=rfl
@[simp]theorem Zts(a):shE ρ (.and a)=Ab:=rfl
@[simp]theorem ZwG(a):shE ρ (.or a)=Ab:=rfl
@[simp]theorem Ztq(op a b):shE ρ (.cmp op a b)=Ab:=rfl
@[simp]theorem ZrK(op op' a b c):shE ρ (.cmp2 op op' a b c)=Ab:=rfl
@[simp]theorem Ztl(a b c):shE ρ (.ite a b c)=Ab:=rfl
@[simp]theorem ZrL(a b):shE ρ (.call a b)=Ab:=rfl
@[simp]theorem ZwJ(a b):shE ρ (.bi a b)=Ab:=rfl
@[simp]theorem Ztm(a b):shE ρ (.isi a b)=Ab:=rfl
@[simp]theorem Zto(a b):shE ρ (.idx a b)=Ab:=rfl
@[simp]theorem ZwF(a b c):shE ρ (.sl a b c)=Ab:=rfl
@[simp]theorem Zth(a):shE ρ (.tup a)=Ab:=rfl
@[simp]theorem Ztk(a):shE ρ (.lst a)=Ab:=rfl
@[simp]theorem ZrJ(a b c d):shE ρ (.comp a b c d)=Ab:=rfl
@[simp]theorem ZoT(a b c d):shE ρ (.compT a b c d)=Ab:=rfl
@[simp]theorem ZrG(a):shE ρ (.tupI a)=Ab:=rfl
@[simp]theorem ZrI:shE ρ .dnew=Ab:=rfl
@[simp]theorem Ztp(a b):shE ρ (.fld a b)=Ab:=rfl
@[simp]theorem ZrF:Hc ρ .nil=Ab:=rfl
@[simp]theorem Wb(e es):Hc ρ (.cons e es)=(shE ρ e&&Hc ρ es):=rfl
end
@[simp]theorem ZnY(ρ:Rho):Ev [] [] ρ=Aa ρ:=rfl
@[simp]theorem ZlS(t ts d ds)(ρ:Rho):Ev (t::ts) (d::ds) ρ=Ev ts ds (ρ.set t (Aa (d,Ac))):=rfl
@[simp]theorem Ws(ts ds)(ρ:Rho):Hx ts (.lst ds) ρ=match Ev ts ds ρ with
  |some ρ'=>.ok ρ'
  |none=>.bad:=rfl
@[simp]theorem ZqW(ts ds)(ρ:Rho):Hx ts (.tup ds) ρ=Gj ts (.tup ds) ρ:=rfl
@[simp]theorem Pt(ts ds)(ρ:Rho):Gj ts (.tup ds) ρ=match Ev ts ds ρ with
  |some ρ'=>.ok ρ'
  |none=>.bad:=rfl
@[simp]theorem Zss{β:Type}(c:Prop)[De c](a b:R α)(f:α->R β):(if c then a else b).bind f=if c then a.bind f else b.bind f:=by split<;>rfl
@[simp]theorem ZwV(ρ:Rho)(c:Prop)[De c](a b:R α)(f:α->O):O.of ρ (if c then a else b) f=if c then O.of ρ a f else O.of ρ b f:=by split<;>rfl
@[simp]theorem ZuB{β:Type}(ρ:Rho)(a:R α)(g:α->R β)(f:β->O):O.of ρ (a.bind g) f=O.of ρ a fun x=>O.of ρ (g x) f:=by cases a<;>rfl
@[simp]theorem Ztu(c:Prop)[De c](a b:O)(f:Rho->O):O.seq (if c then a else b) f=if c then a.seq f else b.seq f:=by split<;>rfl
@[simp]theorem Zrl(c:Prop)[De c](a b:O)(f:Rho->O):O.turn (if c then a else b) f=if c then a.turn f else b.turn f:=by split<;>rfl
@[simp]theorem Zv7(fr:Ao)(c:Prop)[De c](a b:O):O.ans fr (if c then a else b)=if c then a.ans fr else b.ans fr:=by split<;>rfl
@[simp]theorem ZrM(ρ f):O.seq (.next ρ) f=f ρ:=rfl
@[simp]theorem Ztt(d b f):O.seq (.ret d b) f=.ret d b:=rfl
@[simp]theorem Ztw(ρ f):O.seq (.brk ρ) f=.brk ρ:=rfl
@[simp]theorem ZrN(ρ f):O.seq (.cont ρ) f=.cont ρ:=rfl
@[simp]theorem Ztv(x ρ f):O.seq (.exn x ρ) f=.exn x ρ:=rfl
@[simp]theorem Ztx(f):O.seq .bad f=.bad:=rfl
@[simp]theorem Zoq(ρ f):O.turn (.next ρ) f=f ρ:=rfl
@[simp]theorem Zrk(d b f):O.turn (.ret d b) f=.ret d b:=rfl
@[simp]theorem Zrn(ρ f):O.turn (.brk ρ) f=.next ρ:=rfl
@[simp]theorem Zor(ρ f):O.turn (.cont ρ) f=f ρ:=rfl
@[simp]theorem Zrm(x ρ f):O.turn (.exn x ρ) f=.exn x ρ:=rfl
@[simp]theorem Zro(f):O.turn .bad f=.bad:=rfl
@[simp]theorem Zsu(ρ):O.ans Ac (.next ρ)=.ok .non:=rfl
@[simp]theorem Zv6(d b):O.ans Ac (.ret d b)=.ok d:=rfl
@[simp]theorem Zst(d b):O.ans Ab (.ret d b)=if (!b&&isL d)=Ab then .bad else .ok d:=rfl
@[simp]theorem ZuZ(d):isL (.lst d)=Ab:=rfl
@[simp]theorem ZuY(d):isL (.tup d)=Ac:=rfl
@[simp]theorem Zu0(d):isL (.int d)=Ac:=rfl
@[simp]theorem Zv8(fr x ρ):O.ans fr (.exn x ρ)=.exn x:=rfl
@[simp]theorem Zv9(fr):O.ans fr .bad=.bad:=rfl
@[simp]theorem Zxz(i j:Af):Dj .Add (.int i) (.int j)=.ok (.int (i+j)):=rfl
@[simp]theorem Zwz(i j:Af):Dj .Sub (.int i) (.int j)=.ok (.int (i-j)):=rfl
@[simp]theorem cT(i j:Af):Dj .Mult (.int i) (.int j)=if (Ez i j||EO i j)=Ab then .ok (.int (i*j)) else .bad:=rfl
@[simp]theorem YN(i j:Af):Dj .FloorDiv (.int i) (.int j)=if 0<j/\j<1073741824 then .ok (.int (i / j)) else .bad:=rfl
@[simp]theorem cU(i j:Af):Dj .Mod (.int i) (.int j)=if 0<j then .ok (.int (i%j)) else .bad:=rfl
@[simp]theorem dU(i j:Af):Dj .Pow (.int i) (.int j)=if (0<=j/\j<=1000000)/\(-(18446744073709551616:Af)<i/\i<18446744073709551616) then .ok (.int (i ^ j.toNat)) else .bad:=rfl
@[simp]theorem eJ(x y:Ah):Dj .Add (.str x) (.str y)=if D8 (x.length+y.length)=Ab then .ok (.str (x++y)) else .bad:=rfl
@[simp]theorem Rw(x y:Ad D):Dj .Add (.lst x) (.lst y)=if D8 (x.length+y.length)=Ab then .ok (.lst (x++y)) else .bad:=rfl
@[simp]theorem eI(x y:Ad D):Dj .Add (.tup x) (.tup y)=if (!x.isEmpty&&D8 (x.length+y.length))=Ab then .ok (.tup (x++y)) else .bad:=rfl
@[simp]theorem Zx4(i:Af):unD .USub (.int i)=.ok (.int (-i)):=rfl
@[simp]theorem kQ(x y:D):BU .Eq x y=if (flD 5 x&&flD 5 y)=Ab then .ok (.bl (eqD x y)) else .bad:=rfl
@[simp]theorem jJ(x y:D):BU .NotEq x y=if (flD 5 x&&flD 5 y)=Ab then .ok (.bl (!eqD x y)) else .bad:=rfl
@[simp]theorem Zx5(i j:Af):BU .Lt (.int i) (.int j)=.ok (.bl (decide (i<j))):=rfl
@[simp]theorem Zx8(i j:Af):BU .LtE (.int i) (.int j)=.ok (.bl (decide (i<=j))):=rfl
@[simp]theorem Zyj(i j:Af):BU .Gt (.int i) (.int j)=.ok (.bl (decide (j<i))):=rfl
@[simp]theorem Zyk(i j:Af):BU .GtE (.int i) (.int j)=.ok (.bl (decide (j<=i))):=rfl
@[simp]theorem mO(x:D)(ys:Ad D):BU .In x (.lst ys)=if (flD 5 x&&ys.all (flD 5))=Ab then .ok (.bl (ys.any fun y=>eqD y x)) else .bad:=rfl
@[simp]theorem mM(x:D)(ys:Ad D):BU .In x (.tup ys)=if (flD 5 x&&ys.all (flD 5))=Ab then .ok (.bl (ys.any fun y=>eqD y x)) else .bad:=rfl
@[simp]theorem jH(x:D)(ys:Ad D):BU .NotIn x (.lst ys)=if (flD 5 x&&ys.all (flD 5))=Ab then .ok (.bl (!ys.any fun y=>eqD y x)) else .bad:=rfl
@[simp]theorem jG(x:D)(ys:Ad D):BU .NotIn x (.tup ys)=if (flD 5 x&&ys.all (flD 5))=Ab then .ok (.bl (!ys.any fun y=>eqD y x)) else .bad:=rfl
@[simp]theorem Zw8:BU .Is .non .non=.ok (.bl Ab):=rfl
@[simp]theorem Zxa(i):BU .Is (.int i) .non=.ok (.bl Ac):=rfl
@[simp]theorem Zw7(i):BU .Is (.tup i) .non=.ok (.bl Ac):=rfl
@[simp]theorem Zw9(i):BU .Is (.lst i) .non=.ok (.bl Ac):=rfl
@[simp]theorem Zyc(a b):BU .Is (.bl a) (.bl b)=.ok (.bl (a==b)):=rfl
@[simp]theorem Zw5(a b):BU .IsNot (.bl a) (.bl b)=.ok (.bl (!(a==b))):=rfl
@[simp]theorem ZuO:BU .IsNot .non .non=.ok (.bl Ac):=rfl
@[simp]theorem ZuQ(i):BU .IsNot (.int i) .non=.ok (.bl Ab):=rfl
@[simp]theorem ZuN(i):BU .IsNot (.tup i) .non=.ok (.bl Ab):=rfl
@[simp]theorem ZuP(i):BU .IsNot (.lst i) .non=.ok (.bl Ab):=rfl
@[simp]theorem ZvO(i j:Af):eqD (.int i) (.int j)=(i==j):=rfl
@[simp]theorem Zxs(i j:Ao):eqD (.bl i) (.bl j)=(i==j):=rfl
@[simp]theorem ZvL(i j:Ah):eqD (.str i) (.str j)=(i==j):=rfl
@[simp]theorem ZvK(i j:Ad D):eqD (.tup i) (.tup j)=eqDs i j:=rfl
@[simp]theorem ZvN(i j:Ad D):eqD (.lst i) (.lst j)=eqDs i j:=rfl
@[simp]theorem ZvM:eqD .non .non=Ab:=rfl
@[simp]theorem Zne(i):eqD .non (.int i)=Ac:=rfl
@[simp]theorem Znf(i):eqD (.int i) .non=Ac:=rfl
@[simp]theorem Zsm:eqDs [] []=Ab:=rfl
@[simp]theorem M0(x y:D)(xs ys:Ad D):eqDs (x::xs) (y::ys)=(eqD x y&&eqDs xs ys):=rfl
@[simp]theorem Zvg(n)(i:Af):flD n (.int i)=Ab:=by cases n<;>rfl
@[simp]theorem Zxk(n)(i:Ao):flD n (.bl i)=Ab:=by cases n<;>rfl
@[simp]theorem Zve(n)(i:Ah):flD n (.str i)=Ab:=by cases n<;>rfl
@[simp]theorem Zvf(n):flD n .non=Ab:=by cases n<;>rfl
@[simp]theorem ZrS(i):flD 5 (.tup i)=i.all (flD 4):=rfl
@[simp]theorem ZrX(i):flD 5 (.lst i)=i.all (flD 4):=rfl
@[simp]theorem ZrT(i):flD 4 (.tup i)=i.all (flD 3):=rfl
@[simp]theorem ZrY(i):flD 4 (.lst i)=i.all (flD 3):=rfl
@[simp]theorem ZrU(i):flD 3 (.tup i)=i.all (flD 2):=rfl
@[simp]theorem ZrZ(i):flD 3 (.lst i)=i.all (flD 2):=rfl
@[simp]theorem ZrV(i):flD 2 (.tup i)=i.all (flD 1):=rfl
@[simp]theorem Zr0(i):flD 2 (.lst i)=i.all (flD 1):=rfl
@[simp]theorem ZrW(i):flD 1 (.tup i)=i.all (flD 0):=rfl
@[simp]theorem Zr1(i):flD 1 (.lst i)=i.all (flD 0):=rfl
@[simp]theorem ZsG(b):BL (.bl b)=.ok b:=rfl
@[simp]theorem Zrs(i):BL (.int i)=.ok (i != 0):=rfl
@[simp]theorem Zrr(i):BL (.lst i)=.ok (!i.isEmpty):=rfl
@[simp]theorem Zrp(i):BL (.tup i)=.ok (!i.isEmpty):=rfl
@[simp]theorem Zrq:BL .non=.ok Ac:=rfl
@[simp]theorem ZsH(b):DZ (.bl b)=.ok b:=rfl
@[simp]theorem Zru(i):DZ (.int i)=.ok (i != 0):=rfl
@[simp]theorem Zrt:DZ .non=.ok Ac:=rfl
@[simp]theorem Zq6:GC []=.ok Ab:=rfl
@[simp]theorem Px(x r):GC (x::r)=(DZ x).bind fun b=>(GC r).bind fun c=>.ok (b&&c):=rfl
@[simp]theorem Zq5:Fa []=.ok Ac:=rfl
@[simp]theorem Pw(x r):Fa (x::r)=(DZ x).bind fun b=>(Fa r).bind fun c=>.ok (b||c):=rfl
@[simp]theorem ZvT(b)(d):D9 b (.ok d)=.ok d:=by cases b<;>rfl
@[simp]theorem Zso(b):D9 b .bad=.bad:=by cases b<;>rfl
@[simp]theorem Zsn(x):D9 Ab (.exn x)=.exn x:=rfl
@[simp]theorem Zn6(r):D9 Ac r=noX r:=rfl
@[simp]theorem ZuC(a:α):noX (.ok a)=.ok a:=rfl
@[simp]theorem ZuE:noX (.bad:R α)=.bad:=rfl
@[simp]theorem ZuD(x):noX (.exn x:R α)=.bad:=rfl
@[simp]theorem Zv4(b):Dk (.bl b)=.ok b:=rfl
@[simp]theorem PZ(b):EA (.int b)=.ok b:=rfl
@[simp]theorem ZqZ(b):Ou (.lst b)=.ok b:=rfl
@[simp]theorem ZqY(b):Ck (.lst b)=.ok b:=rfl
@[simp]theorem ZqX(b):Ck (.tup b)=.ok b:=rfl
@[simp]theorem jA(xs i):CG (.lst xs) (.int i)=Da xs i:=rfl
@[simp]theorem iZ(xs i):CG (.tup xs) (.int i)=Da xs i:=rfl
@[simp]theorem Zx7(xs):biD .len [.lst xs]=.ok (.int xs.length):=rfl
@[simp]theorem Zx6(xs):biD .len [.tup xs]=.ok (.int xs.length):=rfl
@[simp]theorem Zyu(i):biD .abs [.int i]=.ok (.int (if i<0 then -i else i)):=rfl
@[simp]theorem ZwZ(i j):biD .max [.int i,.int j]=.ok (.int (if i<j then j else i)):=rfl
@[simp]theorem ZwY(i j):biD .min [.int i,.int j]=.ok (.int (if j<i then j else i)):=rfl
@[simp]theorem Zyd(i):biD .int [.int i]=.ok (.int i):=rfl
@[simp]theorem Zye(i):biD .int [.bl i]=.ok (.int (b2i i)):=rfl
@[simp]theorem Zw4(i):biD .list [.lst i]=.ok (.lst i):=rfl
@[simp]theorem Zw3(i):biD .list [.tup i]=.ok (.lst i):=rfl
@[simp]theorem ZsF(i):biD .tuple [.lst i]=.ok (.tup i):=rfl
@[simp]theorem ZsE(i):biD .tuple [.tup i]=.ok (.tup i):=rfl
@[simp]theorem lH(i):biD .all [.lst i]=(GC i).bind fun b=>.ok (.bl b):=rfl
@[simp]theorem Zys(i):biD .any [.lst i]=(Fa i).bind fun b=>.ok (.bl b):=rfl
@[simp]theorem Zyr(i):biD .any [.tup i]=(Fa i).bind fun b=>.ok (.bl b):=rfl
@[simp]theorem ZxU(i):biD .sum [.lst i]=(Gn 0 i).bind fun b=>.ok (.int b):=rfl
@[simp]theorem ZxT(i):biD .sum [.tup i]=(Gn 0 i).bind fun b=>.ok (.int b):=rfl
@[simp]theorem ZrC(i):biD .sorted [.lst i]=(QG i).bind fun b=>.ok (.lst b):=rfl
@[simp]theorem ZxV(xs k):biD .stp [.lst xs,.int k]=.ok (.lst (Tf k.toNat xs)):=rfl
@[simp]theorem ZxZ(xs):biD .rvs [.lst xs]=.ok (.lst xs.reverse):=rfl
@[simp]theorem Zw1(xs):biD .lset [.lst xs]=SH xs:=rfl
@[simp]theorem Zwt(x y):biD .tmin [x,y]=mmD Ac x y:=rfl
@[simp]theorem ZxF(x y):biD .tlt [x,y]=Tx x y:=rfl
@[simp]theorem Zwu(x y):biD .tmax [x,y]=mmD Ab x y:=rfl
@[simp]theorem ZvV(xs x):biD .count [.lst xs,x]=if (flD 5 x&&xs.all (flD 5))=Ab then .ok (.int ((xs.filter fun y=>eqD y x).length:Ag)) else .bad:=rfl
@[simp]theorem mF(xs lo hi):slD (.tup xs) lo hi=if (F9 xs.length 0 lo==0&&F9 xs.length xs.length hi==xs.length)=Ab then .bad else .ok (.tup (Hf xs lo hi)):=rfl
@[simp]theorem ZyC(xs lo hi):slD (.lst xs) lo hi=.ok (.lst (Hf xs lo hi)):=rfl
@[simp]theorem Ztc(d):slE .non d=.ok Ae:=rfl
@[simp]theorem Ztd(k i):slE (.int k) (.int i)=.ok (Aa i):=rfl
@[simp]theorem Ztb(k i):slE (.var k) (.int i)=.ok (Aa i):=rfl
@[simp]theorem Zte(op a b i):slE (.bin op a b) (.int i)=.ok (Aa i):=rfl
@[simp]theorem ZwC(op a i):slE (.un op a) (.int i)=.ok (Aa i):=rfl
@[simp]theorem ZwD(b as i):slE (.bi b as) (.int i)=.ok (Aa i):=rfl
@[simp]theorem ZuT(up ks):DX up ks .non=if ks.any Dy=Ab then .bad else .ok (.bl (ks.any fun k=>kiD up k .non)):=rfl
@[simp]theorem Zw6(up ks b):DX up ks (.bl b)=if ks.any Dy=Ab then .bad else .ok (.bl (ks.any fun k=>kiD up k (.bl b))):=rfl
@[simp]theorem ZuV(up ks b):DX up ks (.int b)=if ks.any Dy=Ab then .bad else .ok (.bl (ks.any fun k=>kiD up k (.int b))):=rfl
@[simp]theorem ZuS(up ks b):DX up ks (.str b)=if ks.any Dy=Ab then .bad else .ok (.bl (ks.any fun k=>kiD up k (.str b))):=rfl
@[simp]theorem ZuR(up ks b):DX up ks (.tup b)=if ks.any Dy=Ab then .bad else .ok (.bl (ks.any fun k=>kiD up k (.tup b))):=rfl
@[simp]theorem ZuU(up ks b):DX up ks (.lst b)=if ks.any Dy=Ab then .bad else .ok (.bl (ks.any fun k=>kiD up k (.lst b))):=rfl
@[simp]theorem ZuW(up ks c f):DX up ks (.exc c f)=if ks.all Dy=Ab then .ok (.bl (ks.any fun k=>kiD up k (.exc c f))) else .bad:=rfl
@[simp]theorem Zsr(c):Dy (.cls c)=Ab:=rfl
@[simp]theorem ZqC:Dy .verr=Ab:=rfl
@[simp]theorem Zsq:Dy .int=Ac:=rfl
@[simp]theorem ZqE:Dy .bool=Ac:=rfl
@[simp]theorem Zsp:Dy .str=Ac:=rfl
@[simp]theorem ZqD:Dy .list=Ac:=rfl
@[simp]theorem Zn7:Dy .tuple=Ac:=rfl
@[simp]theorem Zn1(up i):kiD up .int (.int i)=Ab:=rfl
@[simp]theorem Zn0(up):kiD up .int .non=Ac:=rfl
@[simp]theorem ZmQ(up i):kiD up .bool (.int i)=Ac:=rfl
@[simp]theorem ZnZ(up i):kiD up .int (.tup i)=Ac:=rfl
@[simp]theorem Zn3(up i):kiD up .bool (.bl i)=Ab:=rfl
@[simp]theorem ZmP(up):kiD up .bool .non=Ac:=rfl
@[simp]theorem ZmO(up i):kiD up .list (.lst i)=Ab:=rfl
@[simp]theorem ZkK(up i):kiD up .tuple (.tup i)=Ab:=rfl
@[simp]theorem ZkL(up):kiD up .tuple .non=Ac:=rfl
@[simp]theorem Zn2(up c k f):kiD up (.cls c) (.exc k f)=(up k).contains c:=rfl
@[simp]theorem ZmN(up k f):kiD up .verr (.exc k f)=Ab:=rfl
theorem WP(xs:Ad D)(k:Ag)(h:k<xs.length):Da xs (k:Af)=.ok (xs[k]):=by
 unfold Da plD;have h1:(0:Af)<=k:=Int.natCast_nonneg k;have h2:(k:Af)<(xs.length:Ag):=by omega
 rw[Aw h1,Aw h2];simp[h]
theorem P7{xs:Ad D}{i:Af}{d:D}(h0:0<=i)(h:xs[i.toNat]?=Aa d):Da xs i=.ok d:=by
 unfold Da plD;obtain⟨h1,_⟩:=A7.mp h;rw[Aw h0,Aw (by omega)]
 dsimp only;rw[h]
section
variable(Γ:Gam)(ρ:Rho)
@[simp]theorem Zr2:evSs Γ ρ .nil=.next ρ:=rfl
noncomputable def Gk(Γ:Gam)(ss:Ss)(o:O):O:=o.seq fun ρ'=>evSs Γ ρ' ss
@[simp]theorem MZ(s ss):evSs Γ ρ (.cons s ss)=Gk Γ ss (evS Γ ρ s):=rfl
@[simp]theorem Zu8(ss):Gk Γ ss (.next ρ)=evSs Γ ρ ss:=rfl
@[simp]theorem Zxf(ss d b):Gk Γ ss (.ret d b)=.ret d b:=rfl
@[simp]theorem Zxi(ss):Gk Γ ss (.brk ρ)=.brk ρ:=rfl
@[simp]theorem Zu9(ss):Gk Γ ss (.cont ρ)=.cont ρ:=rfl
@[simp]theorem Zxh(ss x):Gk Γ ss (.exn x ρ)=.exn x ρ:=rfl
@[simp]theorem Zxj(ss):Gk Γ ss .bad=.bad:=rfl
@[simp]theorem Zxg(ss)(c:Prop)[De c](a b:O):Gk Γ ss (if c then a else b)=if c then Gk Γ ss a else Gk Γ ss b:=by split<;>rfl
@[simp]theorem fH(o:O):Gk Γ .nil o=o:=by cases o<;>rfl
noncomputable def BM(Γ:Gam)(t:Ag)(body:Ss):D->Rho->O:=fun x ρ'=>evSs Γ (ρ'.set t (Aa (x,Ac))) body
noncomputable def whC(Γ:Gam)(c:E):Rho->R Ao:=fun ρ'=>(top ρ' c (evE Γ ρ' c)).bind BL
noncomputable def whB(Γ:Gam)(body:Ss):Rho->O:=fun ρ'=>evSs Γ ρ' body
noncomputable def ON(Γ:Gam)(t:Ag)(body:Ss)(ρ:Rho)(r:R (Ad D)):O:=O.of ρ r fun xs=>Ch (BM Γ t body) xs ρ
@[simp]theorem NH(t body xs):ON Γ t body ρ (.ok xs)=Ch (BM Γ t body) xs ρ:=rfl
@[simp]theorem Zr5:evS Γ ρ .pass=.next ρ:=rfl
@[simp]theorem Zvp(i e):evS Γ ρ (.asg i Ac e)=O.of ρ (evE Γ ρ e) fun d=>.next (ρ.set i (Aa (d,Ac))):=rfl
@[simp]theorem Zr7(e):evS Γ ρ (.expr e)=O.of ρ (evE Γ ρ e) fun _=>.next ρ:=rfl
@[simp]theorem Zvk(e):evS Γ ρ (.ret e)=O.of ρ (top ρ e (evE Γ ρ e)) fun d=>.ret d (D0 Γ e||(match e with | .var i=>(match ρ[i]? with|some (Aa (_,o))=>o|_=>Ac)|_=>Ac)):=rfl
@[simp]theorem Zr3:evS Γ ρ .retN=.ret .non Ac:=rfl
@[simp]theorem Zvl(c a b):evS Γ ρ (.ife c a b)=O.of ρ ((top ρ c (evE Γ ρ c)).bind BL) fun k=>if k=Ab then evSs Γ ρ a else evSs Γ ρ b:=rfl
@[simp]theorem Nj(t it body):evS Γ ρ (.fors t it body)=ON Γ t body ρ (FR Γ ρ it):=rfl
noncomputable def Jv(Γ:Gam)(ts:Ad Ag)(body:Ss):D->Rho->O:=fun x ρ'=>O.of ρ' (Gj ts x ρ') fun ρ''=>evSs Γ ρ'' body
noncomputable def S0(Γ:Gam)(ts:Ad Ag)(body:Ss)(ρ:Rho)(r:R (Ad D)):O:=O.of ρ r fun xs=>Ch (Jv Γ ts body) xs ρ
@[simp]theorem ZrR(t body xs):S0 Γ t body ρ (.ok xs)=Ch (Jv Γ t body) xs ρ:=rfl
@[simp]theorem Zr6(t it body):evS Γ ρ (.forT t it body)=S0 Γ t body ρ (FR Γ ρ it):=rfl
@[simp]theorem Zr9(ts e):evS Γ ρ (.asgT ts e)=O.of ρ (evE Γ ρ e) fun d=>O.of ρ (Hx ts d ρ) fun ρ'=>.next ρ':=rfl
theorem WU(i e):evS Γ ρ (.asg i Ab e)=O.of ρ (evE Γ ρ e) fun d=>if D0 Γ e=Ab then (match d with
      |.lst xs=>.next (ρ.set i (Aa (.lst xs,Ab)))
      |.dic xs=>.next (ρ.set i (Aa (.dic xs,Ab)))
      | _=>.bad) else .bad:=rfl
noncomputable def setF(ρ:Rho)(i:Ag):D->O
 |.lst xs=>.next (ρ.set i (Aa (.lst xs,Ab)))
 |.dic xs=>.next (ρ.set i (Aa (.dic xs,Ab)))
 |_=>.bad
@[simp]theorem ZwK(i xs):setF ρ i (.lst xs)=.next (ρ.set i (Aa (.lst xs,Ab))):=rfl
@[simp]theorem ZwL(i xs):setF ρ i (.dic xs)=.next (ρ.set i (Aa (.dic xs,Ab))):=rfl
@[simp]theorem Zqp(i e):evS Γ ρ (.asg i Ab e)=O.of ρ (evE Γ ρ e) fun d=>if D0 Γ e=Ab then setF ρ i d else .bad:=by
 rw[WU]
 congr 1
@[simp]theorem Zvq(i e):evS Γ ρ (.app i e)=O.of ρ (DW ρ i) fun xs=>O.of ρ (evE Γ ρ e) fun d=>if D8 (xs.length+1)=Ab then .next (ρ.set i (Aa (.lst (xs++[d]),Ab))) else .bad:=rfl
@[simp]theorem Zvm(i e):evS Γ ρ (.ext i e)=O.of ρ (DW ρ i) fun xs=>O.of ρ (evE Γ ρ e) fun d=>O.of ρ (Ou d) fun ys=>if D8 (xs.length+ys.length)=Ab then .next (ρ.set i (Aa (.lst (xs++ys),Ab))) else .bad:=rfl
@[simp]theorem Zvj(i):evS Γ ρ (.rev i)=O.of ρ (DW ρ i) fun xs=>.next (ρ.set i (Aa (.lst xs.reverse,Ab))):=rfl
@[simp]theorem Zvn(i):evS Γ ρ (.clr i)=O.of ρ (DW ρ i) fun _=>.next (ρ.set i (Aa (.lst [],Ab))):=rfl
theorem NI(i k e):evS Γ ρ (.put i k e)=O.of ρ (evE Γ ρ e) fun d=>O.of ρ (DW ρ i) fun xs=>O.of ρ ((top ρ k (evE Γ ρ k)).bind EA) fun j=>match plD xs.length j with
      |some n=>.next (ρ.set i (Aa (.lst (xs.set n d),Ab)))
      |none=>.bad:=rfl
@[simp]theorem WS(body c x h):evS Γ ρ (.tryx body c x h)=match evSs Γ ρ body with
      | .exn y ρ'=>if (Γ.up y.c).contains c=Ab then (match evSs Γ (ρ'.set x (Aa (.exc y.c y.fs,Ac))) h with
          |.next ρ''=>.next (ρ''.set x Ae)
          |.ret d f=>.ret d f
          | _=>.bad) else .bad
      |o=>o:=rfl
@[simp]theorem WT(body c x h c' h' els):evS Γ ρ (.try2 body c x h c' h' els)=match evSs Γ ρ body with
      |.exn y ρ'=>if (Γ.up y.c).contains c=Ab then hdO x y ρ' (fun r=>evSs Γ r h) else if (Γ.up y.c).contains c'=Ab then hdO x y ρ' (fun r=>evSs Γ r h') else .bad
      |.next ρ'=>evSs Γ ρ' els
      |o=>o:=rfl
@[simp]theorem Zvi(c body):evS Γ ρ (.whl c body)=OB (whC Γ c) (whB Γ body) SZ ρ:=rfl
@[simp]theorem Zr4(c as):evS Γ ρ (.rais c as)=O.of ρ (noX (evA Γ ρ as)) fun xs=>O.of ρ (Γ.xn c xs) fun x=>.exn x ρ:=rfl
@[simp]theorem Zvo:evS Γ ρ .brk=.brk ρ:=rfl
@[simp]theorem Zr8:evS Γ ρ .cont=.cont ρ:=rfl
end
end Ov
namespace Ov
open PySem
theorem P9{body:D->Rho->O}(P:Rho->Prop):∀(xs:Ad D)(ρ:Rho),P ρ->(∀ x∈xs,∀ ρ,P ρ->∃ ρ',body x ρ=.next ρ'/\P ρ')->∃ ρ',Ch body xs ρ=.next ρ'/\P ρ'
 |[],ρ,h,_=>⟨ρ,rfl,h⟩
 |x::xs,ρ,h,k=>by
  obtain⟨ρ1,e1,h1⟩:=k x AI ρ h;obtain⟨ρ2,e2,h2⟩:=P9 P xs ρ1 h1 fun y hy=>k y (Ax _ hy)
  exact⟨ρ2,by show (body x ρ).turn _=_;rw[e1];exact e2,h2⟩
theorem We(h1:0<=lo)(h2:lo<1000000)(h3:0<=hi)(h4:hi<1000000):C9 lo hi=.ok (DL lo (hi-lo).toNat):=by
 unfold C9;rw[Aw (by omega)]
theorem Wf(h3:0<=hi)(h4:hi<1000000):C9 0 hi=.ok (DL 0 hi.toNat):=by
 rw[We (by omega) (by omega) h3 h4,GU]
theorem Qv(h:x∈DL lo n):∃ k:Ag,k<n/\x=.int (lo+(k:Af)):=by
 obtain⟨k,hk,e⟩:=CC.mp h;exact⟨k,BB.mp hk,e.symm⟩
theorem MW(lo:Af)(n:Ag):(DL lo n).length=n:=by simp[DL]
theorem Xj{i:Ag}(h:(DL lo n)[i]?=Aa x):i<n/\x=.int (lo+(i:Af)):=by
 have hl:=(A7.mp h).1;rw[MW]at hl;unfold DL at h;rw[Fm,List.getElem?_range hl]at h;cases h;exact⟨hl,rfl⟩
noncomputable def Ss.take:Ag->Ss->Ss
 |0,_=>.nil
 |_,.nil=>.nil
 |n+1,.cons s ss=>.cons s (ss.take n)
noncomputable def Ss.drop:Ag->Ss->Ss
 |0,ss=>ss
 |_,.nil=>.nil
 |n+1,.cons _ ss=>ss.drop n
end Ov
end
section
namespace Ov
noncomputable def xfD:Ag->D->Ao
 |0,.int i=>decide (0<=i)&&decide (i<100)
 |n+1,.tup ds=>C5 ds.length 8&&ds.all (xfD n)
 |_,_=>Ac
noncomputable def mkX(c:Ag)(f:PySem.Str):Ad D->R Ex
 |[d]=>if (xfD 1 d||xfD 2 d)=Ab then .ok ⟨c,[(f,d)]⟩ else .bad
 |_=>.bad
end Ov
end
section
namespace OvC
open PySem Ov PyProof.Rows
variable{j:Af}
noncomputable abbrev scr(ns:Ad Af):D:=.lst (ns.map .int)
noncomputable abbrev sh(d:D):Sl:=Aa (d,Ac)
noncomputable abbrev si(i:Af):Sl:=Aa (.int i,Ac)
theorem four{P:Ag->Prop}(h0:P 0)(h1:P 1)(h2:P 2)(h3:P 3):P (j%4).toNat:=by
 have:(j%4).toNat=0\/(j%4).toNat=1\/(j%4).toNat=2\/(j%4).toNat=3:=by omega
 rcases this with e|e|e|e<;>rw[e]<;>assumption
def P4(p:Af):Prop:=p=3\/p=5\/p=7\/p=11
noncomputable def pr4(j:Af):Af:=[3,5,7,11].getD (j%4).toNat 0
theorem dS(j):P4 (pr4 j):=by
 unfold pr4;exact four (P:=fun j=>P4 ([3,5,7,11].getD j 0)) (.inl rfl) (.inr (.inl rfl)) (.inr (.inr (.inl rfl))) (.inr (.inr (.inr rfl)))
theorem P4.pos{p}(h:P4 p):0<p:=by rcases h with rfl|rfl|rfl|rfl<;>decide
theorem P4.lo{p}(h:P4 p):3<=p:=by rcases h with rfl|rfl|rfl|rfl<;>decide
theorem P4.hi{p}(h:P4 p):p<=11:=by rcases h with rfl|rfl|rfl|rfl<;>decide
theorem WO(j:Af):Da [.int 3,.int 5,.int 7,.int 11] (j%4)=.ok (.int (pr4 j)):=by
 have h:=four (P:=fun j=>[D.int 3,D.int 5,D.int 7,D.int 11][j]?=Aa (D.int ([3,5,7,11].getD j 0))) (j:=j) rfl rfl rfl rfl
 exact P7 (by omega) h
theorem Jl{i:Af}(h0:-18446744073709551616<i)(h1:i<18446744073709551616):Ez i j=Ab:=by simp[Ez];left;exact⟨h0,h1⟩
theorem NA{i:Af}(h0:-18446744073709551616<j)(h1:j<18446744073709551616):Ez i j=Ab:=by simp[Ez];right;exact⟨h0,h1⟩
noncomputable def N4:Df:=⟨2,Ac,(.cons (.ret (.bin .Mod (.var 1) (.var 0))) .nil)⟩
def II(Γ:Gam):Prop:=∀ p n:Af,0<p->Γ.F 1 [.int p,.int n]=.ok (.int (n%p))
theorem dF(Γ:Gam)(p n:Af)(h:0<p):N4.run Γ [.int p,.int n]=.ok (.int (n%p)):=by simp[N4,Df.run,BA,h]
end OvC
end
namespace Ov
open PySem PySem.Spec PyProof.Rows L2
variable{A B:Aj->Prop}{H H' H1 H0:Hp}{a b l q:Aj}{xs ys vs:Ad V}{v:V}{d:D}{Rp Rq:Hp->V->D->Prop}{r:R D}{Q:VK}{X:Cx}{e c tg iter elt:Ap}{ρ:Rho}{i n j k:Ag}{x:Ex}{σ:L2.St}{g:D->D->R D}{op:D4}{K:Fg}{pI:Pn}{s:As}{items2 its items:Bk Ai}{h h' h2:AD}{u:Ai}{its2:Ad Ai}{es ifs:Ad Ap}{fs fi:Rho->R (Ad D)}{Q':An Af->Hp->Prop}{p pos' p2 pos pos2 tpos:AN}{T:Dv}{f fc:Rho->R Ao}{α:Type}{Fz:Aj->HO->Prop}{D':Ends}{as:D->Rho->R Rho}{up:Ag->Ad Ag}{prog P:AS}{w:AC}{scope:B9}{env:B5}{cl:Ad (Ah×Aj)}{N':Ad Ah}{ts:Ad Ag}{fp:Ad Aj}{tt:TT}{te:TE}{J:It}{wi:TI}{t:Ao}{ta:TA}
abbrev ClA:=Ag->An Aj
variable{CL:ClA}
def KL(K:Fg)(a:Aj)(xs:Ad V):Prop:=∃(o:CW)(its:Bk Ai)(n:Ag),K.lookup a=Aa o/\o.cls=.type "list"/\o.dict=Ae/\o.data=.seq its n/\its.size<=sizeLine/\Bf xs its.toList
def KT(K:Fg)(a:Aj)(xs:Ad V):Prop:=∃(o:CW)(its:Bk Ai)(n:Ag),K.lookup a=Aa o/\o.cls=.type "tuple"/\o.data=.seq its n/\its.size<=sizeLine/\Bf xs its.toList
section
variable(K:Fg)(CL:ClA)(H:Hp)(A:Aj->Prop)
mutual
def Rep:V->D->Prop
 |v,.non=>v=.non
 |v,.bl b=>v=.bl b
 |v,.int i=>v=.int i
 |v,.str x=>v=.str x
 |v,.tup ds=>∃ a xs,v=.ref a/\(¬ A a\/KT K a xs)/\SqT K H a xs/\Reps xs ds
 |v,.lst ds=>∃ a xs,v=.ref a/\(¬ A a\/KL K a xs)/\SqL K H a xs/\Reps xs ds
 |v,.obj c fs=>∃ a C dx vs,v=.ref a/\¬ A a/\CL c=Aa C/\H a=Aa (.ins C dx vs)/\Repf vs fs
 |_,.dic _=>AU
 |v,.exc c fs=>∃ a C φ,v=.ref a/\¬ A a/\CL c=Aa C/\H a=Aa (.ext φ)/\(∀ h,φ h->∃ o,h.get? a=Aa o/\o.cls=.ref C)/\(fs=[]\/∃ dx vs,¬ A dx/\H dx=Aa (.xd vs)/\Repf vs fs/\∀ h,φ h->∃ o,h.get? a=Aa o/\o.dict=Aa dx/\∃ us,o.data=.fields us)
def Reps:Ad V->Ad D->Prop
 |[],[]=>Hu
 |v::vs,d::ds=>Rep v d/\Reps vs ds
 |_,_=>AU
def Repf:Ad (Ah×V)->Ad (Ah×D)->Prop
 |[],[]=>Hu
 |v::vs,d::ds=>Repp v d/\Repf vs ds
 |_,_=>AU
def Repp:Ah×V->Ah×D->Prop
 |v,(n,d)=>v.1=n/\Rep v.2 d
end
def CH(v:V)(d:D):Prop:=Rep K CL H A v d\/∃ a xs ds,v=.ref a/\d=.lst ds/\H a=Aa (.lst xs)/\Reps K CL H A xs ds
end
def Kp(A:Aj->Prop)(H H':Hp):Prop:=∀ b o,H b=Aa o->¬ A b->H' b=Aa o
def AOk(H:Hp)(A:Aj->Prop):Prop:=∀ a,A a->∃ xs,H a=Aa (.lst xs)
theorem Kp.of(h:AE H H'):Kp A H H':=fun b o e _=>h b o e
theorem AOk.same(h:AOk H A)(s:AE H H'):AOk H' A:=fun a ha=>let ⟨xs,e⟩:=h a ha;⟨xs,s _ _ e⟩
theorem AOk.new{p:Aj}(h:AOk H A)(e:H p=Ae):¬ A p:=fun ha=>by
 obtain⟨xs,q⟩:=h p ha;rw[e]at q;cases q
section
variable{K:Fg}{CL:ClA}{H H':Hp}{A B:Aj->Prop}
theorem SK{u:HO}(k:Kp A H H')(na:¬ A a)(h:Rd H a u):Rd H' a u:=by
 rcases h with h|⟨o,h⟩
 ·exact .inl (k _ _ h na)
 ·exact .inr ⟨o,k _ _ h na⟩
theorem Mc(k:Kp A H H')(na:¬ A a\/KL K a xs)(h:SqL K H a xs):SqL K H' a xs:=na.elim (fun na=>h.imp (SK k na) id) .inr
theorem Mb(k:Kp A H H')(na:¬ A a\/KT K a xs)(h:SqT K H a xs):SqT K H' a xs:=na.elim (fun na=>h.imp (SK k na) id) .inr
mutual
theorem Rep.kp(k:Kp A H H'):∀{v:V}(d:D),Rep K CL H A v d->Rep K CL H' A v d
 |_,.non,h=>h
 |_,.bl _,h=>h
 |_,.int _,h=>h
 |_,.str _,h=>h
 |_,.dic _,h=>h.elim
 |_,.tup ds,h=>by
  obtain⟨a,xs,e,na,s,r⟩:=h;exact⟨a,xs,e,na,by first|exact Mb k na s|exact Mc k na s,Reps.kp k ds r⟩
 |_,.lst ds,h=>by
  obtain⟨a,xs,e,na,s,r⟩:=h;exact⟨a,xs,e,na,by first|exact Mb k na s|exact Mc k na s,Reps.kp k ds r⟩
 |_,.obj c fs,h=>by
  obtain⟨a,C,dx,vs,e,na,c,s,r⟩:=h;exact⟨a,C,dx,vs,e,na,c,k _ _ s na,Repf.kp k fs r⟩
 |_,.exc c fs,h=>by
  obtain⟨a,C,φ,e,na,c,s,p,q⟩:=h;refine⟨a,C,φ,e,na,c,k _ _ s na,p,q.imp id ?_⟩;rintro⟨dx,vs,nx,s2,r,z⟩;exact⟨dx,vs,nx,k _ _ s2 nx,Repf.kp k fs r,z⟩
theorem Reps.kp(k:Kp A H H'):∀{vs:Ad V}(ds:Ad D),Reps K CL H A vs ds->Reps K CL H' A vs ds
 |[],[],h=>h
 |_::_,d::ds,h=>⟨Rep.kp k d h.1,Reps.kp k ds h.2⟩
 |[],_::_,h=>h.elim
 |_::_,[],h=>h.elim
theorem Repf.kp(k:Kp A H H'):∀{vs:Ad (Ah×V)}(ds:Ad (Ah×D)),Repf K CL H A vs ds->Repf K CL H' A vs ds
 |[],[],h=>h
 |_::_,d::ds,h=>⟨Repp.kp k d h.1,Repf.kp k ds h.2⟩
 |[],_::_,h=>h.elim
 |_::_,[],h=>h.elim
theorem Repp.kp(k:Kp A H H'):∀{v:Ah×V}(d:Ah×D),Repp K CL H A v d->Repp K CL H' A v d
 |_,(_,d),h=>⟨h.1,Rep.kp k d h.2⟩
end
mutual
theorem Rep.sub(k:∀ a,B a->A a):∀{v:V}(d:D),Rep K CL H A v d->Rep K CL H B v d
 |_,.non,h=>h
 |_,.bl _,h=>h
 |_,.int _,h=>h
 |_,.str _,h=>h
 |_,.dic _,h=>h.elim
 |_,.tup ds,h=>by
  obtain⟨a,xs,e,na,s,r⟩:=h;exact⟨a,xs,e,na.imp (fun na z=>na (k _ z)) id,s,Reps.sub k ds r⟩
 |_,.lst ds,h=>by
  obtain⟨a,xs,e,na,s,r⟩:=h;exact⟨a,xs,e,na.imp (fun na z=>na (k _ z)) id,s,Reps.sub k ds r⟩
 |_,.obj c fs,h=>by
  obtain⟨a,C,dx,vs,e,na,c,s,r⟩:=h;exact⟨a,C,dx,vs,e,fun z=>na (k _ z),c,s,Repf.sub k fs r⟩
 |_,.exc c fs,h=>by
  obtain⟨a,C,φ,e,na,c,s,p,q⟩:=h;refine⟨a,C,φ,e,fun z=>na (k _ z),c,s,p,q.imp id ?_⟩
  rintro⟨dx,vs,nx,s2,r,z⟩;exact⟨dx,vs,fun z=>nx (k _ z),s2,Repf.sub k fs r,z⟩
theorem Reps.sub(k:∀ a,B a->A a):∀{vs:Ad V}(ds:Ad D),Reps K CL H A vs ds->Reps K CL H B vs ds
 |[],[],h=>h
 |_::_,d::ds,h=>⟨Rep.sub k d h.1,Reps.sub k ds h.2⟩
 |[],_::_,h=>h.elim
 |_::_,[],h=>h.elim
theorem Repf.sub(k:∀ a,B a->A a):∀{vs:Ad (Ah×V)}(ds:Ad (Ah×D)),Repf K CL H A vs ds->Repf K CL H B vs ds
 |[],[],h=>h
 |_::_,d::ds,h=>⟨Repp.sub k d h.1,Repf.sub k ds h.2⟩
 |[],_::_,h=>h.elim
 |_::_,[],h=>h.elim
theorem Repp.sub(k:∀ a,B a->A a):∀{v:Ah×V}(d:Ah×D),Repp K CL H A v d->Repp K CL H B v d
 |_,(_,d),h=>⟨h.1,Rep.sub k d h.2⟩
end
mutual
theorem Rep.wide(hp:∀ a,B a->A a\/H a=Ae):∀{v:V}(d:D),Rep K CL H A v d->Rep K CL H B v d
 |_,.non,h=>h
 |_,.bl _,h=>h
 |_,.int _,h=>h
 |_,.str _,h=>h
 |_,.dic _,h=>h.elim
 |_,.tup ds,h=>by
  obtain⟨a,xs,e,na,s,r⟩:=h;refine⟨a,xs,e,?_,s,Reps.wide hp ds r⟩;rcases s with s|s
  ·refine na.imp (fun na z=>(hp _ z).elim na fun e=>?_) id
   rcases s with s|⟨o,s⟩<;>rw[e]at s<;>cases s
  ·exact .inr s
 |_,.lst ds,h=>by
  obtain⟨a,xs,e,na,s,r⟩:=h;refine⟨a,xs,e,?_,s,Reps.wide hp ds r⟩;rcases s with s|s
  ·refine na.imp (fun na z=>(hp _ z).elim na fun e=>?_) id
   rcases s with s|⟨o,s⟩<;>rw[e]at s<;>cases s
  ·exact .inr s
 |_,.obj c fs,h=>by
  obtain⟨a,C,dx,vs,e,na,c,s,r⟩:=h;exact⟨a,C,dx,vs,e,(fun z=>(hp _ z).elim na fun e=>by rw[e]at s;cases s),c,s,Repf.wide hp fs r⟩
 |_,.exc c fs,h=>by
  obtain⟨a,C,φ,e,na,c,s,p,q⟩:=h;refine⟨a,C,φ,e,(fun z=>(hp _ z).elim na fun e=>by rw[e]at s;cases s),c,s,p,q.imp id ?_⟩
  rintro⟨dx,vs,nx,s2,r,z⟩;exact⟨dx,vs,(fun z=>(hp _ z).elim nx fun e=>by rw[e]at s2;cases s2),s2,Repf.wide hp fs r,z⟩
theorem Reps.wide(hp:∀ a,B a->A a\/H a=Ae):∀{vs:Ad V}(ds:Ad D),Reps K CL H A vs ds->Reps K CL H B vs ds
 |[],[],h=>h
 |_::_,d::ds,h=>⟨Rep.wide hp d h.1,Reps.wide hp ds h.2⟩
 |[],_::_,h=>h.elim
 |_::_,[],h=>h.elim
theorem Repf.wide(hp:∀ a,B a->A a\/H a=Ae):∀{vs:Ad (Ah×V)}(ds:Ad (Ah×D)),Repf K CL H A vs ds->Repf K CL H B vs ds
 |[],[],h=>h
 |_::_,d::ds,h=>⟨Repp.wide hp d h.1,Repf.wide hp ds h.2⟩
 |[],_::_,h=>h.elim
 |_::_,[],h=>h.elim
theorem Repp.wide(hp:∀ a,B a->A a\/H a=Ae):∀{v:Ah×V}(d:Ah×D),Repp K CL H A v d->Repp K CL H B v d
 |_,(_,d),h=>⟨h.1,Rep.wide hp d h.2⟩
end
theorem Rep.same(s:AE H H')(h:Rep K CL H A v d):Rep K CL H' A v d:=Rep.kp (Kp.of s) d h
theorem Reps.same{v:Ad V}{d:Ad D}(s:AE H H')(h:Reps K CL H A v d):Reps K CL H' A v d:=Reps.kp (Kp.of s) d h
theorem CH.same{v:V}{d:D}(s:AE H H')(h:CH K CL H A v d):CH K CL H' A v d:=by
 rcases h with h|⟨a,xs,ds,e,e2,q,r⟩
 ·exact .inl (h.same s)
 ·exact .inr ⟨a,xs,ds,e,e2,s _ _ q,r.same s⟩
theorem Reps.length:∀{vs:Ad V}{ds:Ad D},Reps K CL H A vs ds->vs.length=ds.length
 |[],[],_=>rfl
 |_::_,_::_,h=>congrArg (· + 1) (Reps.length h.2)
 |[],_::_,h=>h.elim
 |_::_,[],h=>h.elim
theorem Reps.append:∀{vs ws:Ad V}{ds es:Ad D},Reps K CL H A vs ds->Reps K CL H A ws es->Reps K CL H A (vs++ws) (ds++es)
 |[],_,[],_,_,h=>h
 |_::_,_,_::_,_,h,g=>⟨h.1,Reps.append h.2 g⟩
 |[],_,_::_,_,h,_=>h.elim
 |_::_,_,[],_,h,_=>h.elim
theorem Reps.get:∀{vs:Ad V}{ds:Ad D}{i:Ag}{d:D},Reps K CL H A vs ds->ds[i]?=Aa d->∃ v,vs[i]?=Aa v/\Rep K CL H A v d
 |[],[],_,_,_,e=>by simp at e
 |v::_,_::_,0,_,h,e=>by simp at e;subst e;exact⟨v,rfl,h.1⟩
 |_::_,_::_,i+1,_,h,e=>by
  obtain⟨v,q,r⟩:=Reps.get (i:=i) h.2 (by simpa using e)
  exact⟨v,by simpa using q,r⟩
 |[],_::_,_,_,h,_=>h.elim
 |_::_,[],_,_,h,_=>h.elim
theorem Reps.take:∀{vs:Ad V}{ds:Ad D}(n:Ag),Reps K CL H A vs ds->Reps K CL H A (vs.take n) (ds.take n)
 |_,_,0,_=>trivial
 |[],[],_+1,_=>trivial
 |_::_,_::_,n+1,h=>⟨h.1,Reps.take n h.2⟩
 |[],_::_,_+1,h=>h.elim
 |_::_,[],_+1,h=>h.elim
theorem Reps.drop:∀{vs:Ad V}{ds:Ad D}(n:Ag),Reps K CL H A vs ds->Reps K CL H A (vs.drop n) (ds.drop n)
 |_,_,0,h=>h
 |[],[],_+1,_=>trivial
 |_::_,_::_,n+1,h=>Reps.drop n h.2
 |[],_::_,_+1,h=>h.elim
 |_::_,[],_+1,h=>h.elim
theorem Reps.set{x:V}{e:D}(r:Rep K CL H A x e):∀{vs:Ad V}{ds:Ad D}(n:Ag),Reps K CL H A vs ds->Reps K CL H A (vs.set n x) (ds.set n e)
 |[],[],_,_=>trivial
 |_::_,_::_,0,h=>⟨r,h.2⟩
 |_::_,_::_,n+1,h=>⟨h.1,Reps.set r n h.2⟩
 |[],_::_,_,h=>h.elim
 |_::_,[],_,h=>h.elim
end
structure Good (K:Fg) (CL:ClA) (A:Aj->Prop) (ρ:Rho) (σ:L2.St) (H:Hp):Prop where
 sh:∀(i:Ag)(d:D),ρ[i]?=Aa (Aa (d,Ac))->∃ v,σ[i]?=Aa (Aa v)/\Rep K CL H A v d
 ow:∀(i:Ag)(d:D),ρ[i]?=Aa (Aa (d,Ab))->∃ a xs ds,σ[i]?=Aa (Aa (.ref a))/\d=.lst ds/\A a/\H a=Aa (.lst xs)/\Reps K CL H A xs ds
 len:ρ.length=σ.length
theorem Good.same{K:Fg}{CL:ClA}{A:Aj->Prop}{ρ:Rho}{σ:L2.St}{H H':Hp}(g:Good K CL A ρ σ H)(s:AE H H'):Good K CL A ρ σ H':=
 ⟨fun i d e=>let ⟨v,q,r⟩:=g.sh i d e;⟨v,q,r.same s⟩,fun i d e=>let ⟨a,xs,ds,q,z,na,h,r⟩:=g.ow i d e;⟨a,xs,ds,q,z,na,s _ _ h,r.same s⟩,g.len⟩
abbrev XW:=Ex->Hp->Prop
variable{W:XW}
def Bg(Rp:Hp->V->D->Prop)(W:XW)(H:Hp)(r:R D)(Q:VK):Prop:=match r with
  |.ok d=>∀ v H',AE H H'->Rp H' v d->Q v H'
  |.exn x=>∀ H',AE H H'->W x H'
  |.bad=>AU
def G9(Rp:Hp->Ad V->Ad D->Prop)(W:XW)(H:Hp)(r:R (Ad D))(Q:Ad V->Hp->Prop):Prop:=match r with
  |.ok d=>∀ v H',AE H H'->Rp H' v d->Q v H'
  |.exn x=>∀ H',AE H H'->W x H'
  |.bad=>AU
def C4(W:XW)(H:Hp)(r:R Ao)(Q:Ao->Hp->Prop):Prop:=match r with
  |.ok b=>∀ H',AE H H'->Q b H'
  |.exn x=>∀ H',AE H H'->W x H'
  |.bad=>AU
theorem Bg.same(s:AE H H')(h:Bg Rp W H r Q):Bg Rp W H' r Q:=by
 cases r with
 |ok d=>exact fun v H2 s2 q=>h v H2 (s.trans s2) q
 |exn x=>exact fun H2 s2=>h H2 (s.trans s2)
 |bad=>exact h
theorem C4.same{r:R Ao}{Q:Ao->Hp->Prop}(s:AE H H')(h:C4 W H r Q):C4 W H' r Q:=by
 cases r with
 |ok d=>exact fun H2 s2=>h H2 (s.trans s2)
 |exn x=>exact fun H2 s2=>h H2 (s.trans s2)
 |bad=>exact h
theorem Bg.bind{f:D->R D}{Q':VK}(h:Bg Rq W H (r.bind f) Q)(k:∀ d v H',r=.ok d->AE H H'->Rp H' v d->Bg Rq W H' (f d) Q->Q' v H'):Bg Rp W H r Q':=by
 cases r with
 |ok d=>exact fun v H2 s2 q=>k d v H2 rfl s2 q (Bg.same s2 h)
 |exn x=>exact h
 |bad=>exact h
section
variable(X:Cx)(CL:ClA)(W:XW)
def SE(e:Ap)(f:Rho->R D):Prop:=∀ A,PE X e (fun σ H Q=>AOk H A/\∃ ρ,Good X.K CL A ρ σ H/\Bg (fun H=>Rep X.K CL H A) W H (f ρ) Q)
def ST(e:Ap)(f:Rho->R D):Prop:=∀ A,PE X e (fun σ H Q=>AOk H A/\∃ ρ,Good X.K CL A ρ σ H/\Bg (fun H=>CH X.K CL H A) W H (f ρ) Q)
def SB(e:Ap)(f:Rho->R Ao):Prop:=∀ A,PT X e (fun σ H Q=>AOk H A/\∃ ρ,Good X.K CL A ρ σ H/\C4 W H (f ρ) Q)
def SA(es:Ad Ap)(f:Rho->R (Ad D)):Prop:=∀ A,PA X es (fun σ H Q=>AOk H A/\∃ ρ,Good X.K CL A ρ σ H/\G9 (fun H=>Reps X.K CL H A) W H (f ρ) Q)
end
theorem PE.weak{t t':TE}(h:PE X e t)(k:∀ σ H Q,t' σ H Q->t σ H Q):PE X e t':=fun pI s σ H Q I q=>h pI s σ H Q I (k _ _ _ q)
theorem PT.weak{t t':TT}(h:PT X e t)(k:∀ σ H Q,t' σ H Q->t σ H Q):PT X e t':=fun pI s σ H Q I q=>h pI s σ H Q I (k _ _ _ q)
theorem PA.weak{e:Ad Ap}{t t':TA}(h:PA X e t)(k:∀ σ H Q,t' σ H Q->t σ H Q):PA X e t':=fun pos pI s σ H Q I q=>h pos pI s σ H Q I (k _ _ _ q)
noncomputable def OpD(X:Cx)(CL:ClA)(W:XW)(f:Ai->Ai->Sem Ai)(g:D->D->R D):Prop:=
 ∀ A,OpR X f (fun x y H Q=>AOk H A/\∃ dx dy,CH X.K CL H A x dx/\CH X.K CL H A y dy/\Bg (fun H=>Rep X.K CL H A) W H (g dx dy) Q)
section
variable{X:Cx}{CL:ClA}{W:XW}{a b c:Ap}{fa fb fc:Rho->R D}{pos:AN}
theorem SE.st(h:SE X CL W a fa):ST X CL W a fa:=fun A=>PE.weak (h A) fun σ H Q ⟨hA,ρ,g,p⟩=>⟨hA,ρ,g,by
 cases e:fa ρ with
 |ok d=>rw[e]at p;exact fun v H' s r=>p v H' s (.inl r)
 |exn x=>rw[e]at p;exact p
 | bad=>rw[e]at p;exact p⟩
theorem SE.congr{f g:Rho->R D}(h:SE X CL W a f)(e:∀ ρ,g ρ=f ρ):SE X CL W a g:=fun A=>PE.weak (h A) fun σ H Q ⟨hA,ρ,q,p⟩=>⟨hA,ρ,q,by rw[<-e];exact p⟩
theorem Mm(h:PE X a (tC v))(r:∀ H A,AOk H A->Rep X.K CL H A v d):SE X CL W a (fun _=>.ok d):=fun A=>PE.weak h fun σ H Q ⟨hA,ρ,g,p⟩=>p v H (AE.refl H) (r H A hA)
theorem Z8{i j}:SE X CL W (.Constant (.int i) j pos) (fun _=>.ok (.int i)):=Mm eE fun _ _ _=>rfl
theorem Sg{b j}:SE X CL W (.Constant (.bool b) j pos) (fun _=>.ok (.bl b)):=Mm kE fun _ _ _=>rfl
theorem aW{j}:SE X CL W (.Constant .none j pos) (fun _=>.ok .non):=Mm eB fun _ _ _=>rfl
theorem R9{x j}:SE X CL W (.Constant (.str x) j pos) (fun _=>.ok (.str x)):=Mm RF fun _ _ _=>rfl
theorem Yz(h:Fs ρ i=.ok d):ρ[i]?=Aa (Aa (d,Ac)):=by
 unfold Fs at h;split at h
 ·rename_i e;cases h;exact e
 ·cases h
theorem QV(h:En ρ i=.ok d):∃ o,ρ[i]?=Aa (Aa (d,o)):=by
 unfold En at h;split at h
 ·rename_i e;cases h;exact⟨_,e⟩
 ·cases h
theorem Xv(h:Fs ρ i=.exn x):AU:=by
 unfold Fs at h;split at h<;>cases h
theorem PD(h:En ρ i=.exn x):AU:=by
 unfold En at h;split at h<;>cases h
theorem R8(h:PE X a (Gm i)):SE X CL W a (fun ρ=>Fs ρ i):=fun A=>PE.weak h fun σ H Q ⟨hA,ρ,g,p⟩=>by
 dsimp only at p;cases e:Fs ρ i with
 |ok d=>
  rw[e]at p;obtain⟨v,q,r⟩:=g.sh i d (Yz e);exact⟨v,q,p v H (AE.refl H) r⟩
 |exn x=>exact(Xv e).elim
 |bad=>rw[e]at p;exact p.elim
theorem J8(h:PE X a (Gm i)):ST X CL W a (fun ρ=>En ρ i):=fun A=>PE.weak h fun σ H Q ⟨hA,ρ,g,p⟩=>by
 dsimp only at p;cases e:En ρ i with
 |ok d=>
  rw[e]at p;obtain⟨o,e⟩:=QV e;cases o with
  |false=>
   obtain⟨v,q,r⟩:=g.sh i d e;exact⟨v,q,p v H (AE.refl H) (.inl r)⟩
  |true=>
   obtain⟨x,xs,ds,q,rfl,ha,hh,r⟩:=g.ow i d e;exact⟨_,q,p _ H (AE.refl H) (.inr ⟨x,xs,ds,rfl,rfl,hh,r⟩)⟩
 |exn x=>exact(PD e).elim
 |bad=>rw[e]at p;exact p.elim
theorem op2(h:AOk H A/\∃ ρ,Good X.K CL A ρ σ H/\Bg Rq W H ((fa ρ).bind fun x=>(fb ρ).bind fun y=>g x y) Q):AOk H A/\∃ ρ,Good X.K CL A ρ σ H/\Bg (fun H=>CH X.K CL H A) W H (fa ρ) (fun x H1=>AOk H1 A/\∃ ρ,Good X.K CL A ρ σ H1/\Bg (fun H=>CH X.K CL H A) W H1 (fb ρ) (fun y H2=>AOk H2 A/\∃ dx dy,CH X.K CL H2 A x dx/\CH X.K CL H2 A y dy/\Bg Rq W H2 (g dx dy) Q)):=by
 obtain⟨hA,ρ,gd,p⟩:=h;refine⟨hA,ρ,gd,Bg.bind p fun dx x H1 _ s1 r1 p1=>⟨hA.same s1,ρ,gd.same s1,Bg.bind p1 fun dy y H2 _ s2 r2 p2=>⟨(hA.same s1).same s2,dx,dy,r1.same s2,r2,p2⟩⟩⟩
theorem Sb{op:GZ}(ho:OpD X CL W (B0 op) g)(ha:ST X CL W a fa)(hb:ST X CL W b fb):SE X CL W (.BinOp a op b pos) (fun ρ=>(fa ρ).bind fun x=>(fb ρ).bind fun y=>g x y):=
 fun A=>PE.weak (SM (ho A) (ha A) (hb A)) fun σ H Q h=>op2 h
theorem aA(ho:OpD X CL W (Ct op) g)(ha:ST X CL W a fa)(hb:ST X CL W b fb)(hm:Gx op b=Ac):SE X CL W (.Compare a [op] [b] pos) (fun ρ=>(fa ρ).bind fun x=>(fb ρ).bind fun y=>g x y):=
 fun A=>PE.weak (Zn (ho A) (ha A) (hb A) hm) fun σ H Q h=>op2 h
theorem CH.int_of{i:Af}(h:CH K CL H A v (.int i)):v=.int i:=by
 rcases h with h|⟨_,_,_,_,e,_⟩
 ·exact h
 ·cases e
theorem CH.str_of{i:Ah}(h:CH K CL H A v (.str i)):v=.str i:=by
 rcases h with h|⟨_,_,_,_,e,_⟩
 ·exact h
 ·cases e
theorem CH.bl_of{i:Ao}(h:CH K CL H A v (.bl i)):v=.bl i:=by
 rcases h with h|⟨_,_,_,_,e,_⟩
 ·exact h
 ·cases e
theorem CH.non_of(h:CH K CL H A v .non):v=.non:=by
 rcases h with h|⟨_,_,_,_,e,_⟩
 ·exact h
 ·cases e
theorem CH.lst_of{ds:Ad D}(h:CH K CL H A v (.lst ds)):∃ a xs,v=.ref a/\SqL K H a xs/\Reps K CL H A xs ds:=by
 rcases h with ⟨a,xs,e,_,s,r⟩|⟨a,xs,es,rfl,e,s,r⟩
 ·exact⟨a,xs,e,s,r⟩
 ·cases e;exact⟨a,xs,rfl,SqL.of s,r⟩
theorem CH.tup_of{ds:Ad D}(h:CH K CL H A v (.tup ds)):∃ a xs,v=.ref a/\(¬ A a\/KT K a xs)/\SqT K H a xs/\Reps K CL H A xs ds:=by
 rcases h with ⟨a,xs,e,n,s,r⟩|⟨_,_,_,_,e,_⟩
 ·exact⟨a,xs,e,n,s,r⟩
 ·cases e
theorem YT{i j:Af}(h:Ez i j=Ab):Mz i j:=by
 unfold Ez at h;simp only[Cd,Ak,AG]at h;unfold Mz;omega
theorem Q2{a:Af}(h:a.natAbs<2 ^ 2000):UQ a<=2 ^ 20:=by
 unfold UQ;split
 ·omega
 ·rename_i hz;have h0:a.natAbs≠0:=by intro z;exact hz (by rw[Int.natAbs_eq_zero.mp z];rfl)
  have:=(Nat.log2_lt h0).mpr h;omega
theorem YS{i j:Af}(h:(Ez i j||EO i j)=Ab):KA i j:=by
 rcases Bool.or_eq_true_iff.mp h with h|h
 ·exact(YT h).ok
 ·unfold EO at h;rw[Ak,AG,AG]at h;exact .of_bits (Q2 h.1) (Q2 h.2)
theorem Zv:OpR X (B0 .Mult) (rI KA fun i j=>.int (i*j)):=opI fun _ _ _ _ _ _ _ hc q=>mul_int q hc
theorem JS(h:D8 n=Ab):n<=sizeLine:=by
 unfold D8 at h;rw[Ds];have:=Ef h;omega
theorem Rj{p:Aj}{ds:Ad D}(hA:AOk H A)(hp:H p=Ae)(r:Reps K CL H A xs ds):Rep K CL (upd H p (.lst xs)) A (.ref p) (.lst ds):=
 ⟨p,xs,rfl,.inl (hA.new hp),SqL.of E8,r.same fun b o e=>by rw[By (Fp e hp)];exact e⟩
theorem JX{p:Aj}{ds:Ad D}(hA:AOk H A)(hp:H p=Ae)(r:Reps K CL H A xs ds):Rep K CL (upd H p (.tup xs)) A (.ref p) (.tup ds):=
 ⟨p,xs,rfl,.inl (hA.new hp),SqT.of E8,r.same fun b o e=>by rw[By (Fp e hp)];exact e⟩
theorem FN{p:Aj}(h:H p=Ae)(o:HO):AE H (upd H p o):=fun b u q=>by rw[By (Fp q h)];exact q
def jX(K:Fg):R2:=fun x y H Q=>∃ l b xs zs,x=.ref l/\y=.ref b/\SqL K H l xs/\SqL K H b zs/\xs.length+zs.length<=sizeLine/\∀ p,H p=Ae->Q (.ref p) (upd H p (.lst (xs++zs)))
end
section
variable{X:Cx}{CL:ClA}{W:XW}
theorem QE:OpR X (B0 .Add) (jX X.K):=by
 intro pI s σ H x y v u Q I rx ry h;obtain⟨l,b,xs,zs,rfl,rfl,hH,hB,hz,q⟩:=h;cases rx;cases ry;obtain⟨its,r,⟨o,n,e,c,dd,dt⟩,z⟩:=I.list hH;obtain⟨its2,r2,⟨o2,n2,e2,c2,dd2,dt2⟩,z2⟩:=I.list hB;have hl:=r.length;have hl2:=r2.length;obtain⟨cls,dd0,data,sl⟩:=o;obtain⟨cls2,dd02,data2,sl2⟩:=o2;simp only at c dd dt c2 dd2 dt2;subst c dd dt c2 dd2 dt2;have ea:its.toArray++its2.toArray=(its++its2).toArray:=by simp
 refine Iz ⟨_,e,rfl⟩ ⟨_,e2,rfl⟩ noFill_list_add seq_list_add PySem.F.slot_list_add PySem.F.entry_list_add (PySem.F.args_list_add_2 _ _) (list_addW l b its.toArray its2.toArray n n2 Ae Ae sl sl2 (by simp;omega)) ⟨e,e2,?_⟩
 rw[ea];exact⟨.ref _,_,I.lnew (t':=s.toks) (r.append r2) (by rw[Dt];omega),rfl,q _ I.fresh⟩
theorem QD:OpD X CL W (B0 .Add) (Dj .Add):=by
 intro A pI s σ H x y v u Q I rx ry ⟨hA,dx,dy,hx,hy,p⟩;cases dx with
 |int i=>
  cases dy with
  |int j=>
   have ex:=hx.int_of;have ey:=hy.int_of
   subst ex ey;exact cO pI s σ H _ _ v u Q I rx ry ⟨i,j,rfl,rfl,p _ H (AE.refl H) rfl⟩
  |_=>exact p.elim
 |str i=>
  cases dy with
  |str j=>
   have ex:=hx.str_of;have ey:=hy.str_of
   subst ex ey;simp only[eJ]at p;split at p
   ·rename_i h;exact V9 pI s σ H _ _ v u Q I rx ry ⟨i,j,rfl,rfl,JS h,p _ H (AE.refl H) rfl⟩
   ·exact p.elim
  |_=>exact p.elim
 |lst ds=>
  cases dy with
  |lst es=>
   obtain⟨a,xs,rfl,s1,r1⟩:=hx.lst_of;obtain⟨b,ys,rfl,s2,r2⟩:=hy.lst_of;simp only[Rw]at p;split at p
   ·rename_i h;refine QE pI s σ H _ _ v u Q I rx ry ⟨a,b,xs,ys,rfl,rfl,s1,s2,by rw[r1.length,r2.length];exact JS h,fun q hq=>?_⟩
    exact p _ _ (FN hq _) (Rj hA hq (r1.append r2))
   ·exact p.elim
  |_=>exact p.elim
 |tup ds=>
  cases dy with
  |tup es=>
   obtain⟨a,xs,rfl,na1,s1,r1⟩:=hx.tup_of;obtain⟨b,ys,rfl,_,s2,r2⟩:=hy.tup_of;simp only[eI]at p;split at p
   ·rename_i h;simp only[Ak]at h;refine YO pI s σ H _ _ v u Q I rx ry ⟨a,b,xs,ys,rfl,rfl,s1,s2,?_,by rw[r1.length,r2.length];exact JS h.2,fun hy0=>?_,fun _ q hq=>?_⟩
    ·rintro rfl;cases ds with
     |nil=>cases h.1
     |cons _ _=>exact r1.elim
    ·subst hy0;cases es with
     |nil=>rw[Ce]at p;exact p _ H (AE.refl H) ⟨a,xs,rfl,na1,s1,r1⟩
     |cons _ _=>exact r2.elim
    ·exact p _ _ (FN hq _) (JX hA hq (r1.append r2))
   ·exact p.elim
  |_=>exact p.elim
 |_=>exact p.elim
theorem LU{op:GZ}{C:Af->Af->Prop}{g:Af->Af->Af}(ho:OpR X (B0 op) (rI C fun i j=>.int (g i j)))(hg:∀ dx dy,(∃ i j,dx=.int i/\dy=.int j/\((C i j/\Dj op dx dy=.ok (.int (g i j)))\/Dj op dx dy=.bad))\/Dj op dx dy=.bad):OpD X CL W (B0 op) (Dj op):=by
 intro A pI s σ H x y v u Q I rx ry ⟨hA,dx,dy,hx,hy,p⟩;rcases hg dx dy with ⟨i,j,rfl,rfl,⟨c,e⟩|e⟩|e
 ·have ex:=hx.int_of;have ey:=hy.int_of
  subst ex ey;rw[e]at p;exact ho pI s σ H _ _ v u Q I rx ry ⟨i,j,rfl,rfl,c,p _ H (AE.refl H) rfl⟩
 ·rw[e]at p;exact p.elim
 ·rw[e]at p;exact p.elim
theorem Zq:OpD X CL W (B0 .Sub) (Dj .Sub):=by
 intro A pI s σ H x y v u Q I rx ry ⟨hA,dx,dy,hx,hy,p⟩;cases dx with
 |int i=>
  cases dy with
  |int j=>
   have ex:=hx.int_of;have ey:=hy.int_of
   subst ex ey;exact cH pI s σ H _ _ v u Q I rx ry ⟨i,j,rfl,rfl,p _ H (AE.refl H) rfl⟩
  |_=>exact p.elim
 |_=>exact p.elim
theorem Zs:OpD X CL W (B0 .Mult) (Dj .Mult):=LU Zv fun dx dy=>by
 cases dx with
 |int i=>
  cases dy with
  |int j=>
   refine .inl ⟨i,j,rfl,rfl,?_⟩;rw[cT];split
   ·rename_i h;exact .inl ⟨YS h,rfl⟩
   ·exact .inr rfl
  |_=>exact .inr rfl
 |_=>exact .inr rfl
theorem Xb:OpD X CL W (B0 .FloorDiv) (Dj .FloorDiv):=LU Zw fun dx dy=>by
 cases dx with
 |int i=>
  cases dy with
  |int j=>
   refine .inl ⟨i,j,rfl,rfl,?_⟩;rw[YN];split
   ·rename_i h;exact .inl ⟨h,rfl⟩
   ·exact .inr rfl
  |_=>exact .inr rfl
 |_=>exact .inr rfl
theorem Zt:OpD X CL W (B0 .Mod) (Dj .Mod):=LU cK fun dx dy=>by
 cases dx with
 |int i=>
  cases dy with
  |int j=>
   refine .inl ⟨i,j,rfl,rfl,?_⟩;rw[cU];split
   ·rename_i h;exact .inl ⟨h,rfl⟩
   ·exact .inr rfl
  |_=>exact .inr rfl
 |_=>exact .inr rfl
theorem Zr:OpD X CL W (B0 .Pow) (Dj .Pow):=LU cJ fun dx dy=>by
 cases dx with
 |int i=>
  cases dy with
  |int j=>
   refine .inl ⟨i,j,rfl,rfl,?_⟩;rw[dU];split
   ·rename_i h;exact .inl ⟨⟨h.1.1,h.1.2,by omega⟩,rfl⟩
   ·exact .inr rfl
  |_=>exact .inr rfl
 |_=>exact .inr rfl
theorem QC(op:GZ):OpD X CL W (B0 op) (Dj op):=by
 cases op with
 |Add=>exact QD
 |Sub=>exact Zq
 |Mult=>exact Zs
 |FloorDiv=>exact Xb
 |Mod=>exact Zt
 |Pow=>exact Zr
 |_=>
  intro A pI s σ H x y v u Q I rx ry ⟨hA,dx,dy,hx,hy,p⟩;cases dx<;>cases dy<;>exact p.elim
noncomputable abbrev A0:Aj->Prop:=fun _=>AU
theorem CH.plain(h:CH K CL H A v d):Rep K CL H A0 v d:=by
 rcases h with h|⟨a,xs,ds,rfl,rfl,e,r⟩
 ·exact Rep.sub (fun _ z=>z.elim) d h
 ·exact⟨a,xs,rfl,.inl fun z=>z.elim,SqL.of e,Reps.sub (fun _ z=>z.elim) ds r⟩
mutual
theorem WW:∀(n:Ag)(d:D),flD n d=Ab->eqD d d=Ab
 |_,.non,_=>rfl
 |_,.bl b,_=>by simp
 |_,.int i,_=>by simp
 |_,.str x,_=>by simp
 |n+1,.tup ds,h=>by
  show eqDs ds ds=Ab;exact eqDs_refl n ds h
 |n+1,.lst ds,h=>by
  show eqDs ds ds=Ab;exact eqDs_refl n ds h
 |0,.tup ds,h=>by cases h
 |0,.lst ds,h=>by cases h
 |n,.obj _ _,h=>by cases n<;>cases h
 |n,.exc _ _,h=>by cases n<;>cases h
 |n,.dic _,h=>by cases n<;>cases h
theorem eqDs_refl:∀(n:Ag)(ds:Ad D),ds.all (flD n)=Ab->eqDs ds ds=Ab
 |_,[],_=>rfl
 |n,d::ds,h=>by
  simp only[FC,Ak]at h;simp only[M0,Ak];exact⟨WW n d h.1,eqDs_refl n ds h.2⟩
end
theorem Py(I:Inv X pI σ H s)(h:SqL X.K H a xs)(h':SqT X.K H a ys):AU:=by
 obtain⟨its,r,⟨o,n,e,c,_,_⟩,_⟩:=I.list h;obtain⟨its',r',⟨o',e',c',_⟩,_⟩:=I.tuple h';rw[e]at e';cases e';rw[c]at c'
 injection c' with z
 exact absurd z (by decide)
mutual
theorem LR{pI:Pn}{σ:L2.St}{H:Hp}{s:As}(I:Inv X pI σ H s):∀(n:Ag)(d e:D){v:V},flD n d=Ab->flD n e=Ab->Rep X.K CL H A0 v d->Rep X.K CL H A0 v e->d=e
 |n,.tup ds,e,v,hd,he,r,q=>by
  obtain⟨a,xs,rfl,_,s1,r1⟩:=r;cases e with
  |tup es=>
   obtain⟨b,ys,e,_,s2,r2⟩:=q;cases e;have z:=I.tuple_inj s1 s2;subst z;cases n with
   |zero=>cases hd
   |succ n=>rw[reps_inj I n ds es hd he r1 r2]
  |lst es=>
   obtain⟨b,ys,e,_,s2,r2⟩:=q;cases e;exact(Py I s2 s1).elim
  |obj=>cases n<;>cases he
  |exc=>cases n<;>cases he
  |dic=>cases n<;>cases he
  |_=>cases q
 |n,.lst ds,e,v,hd,he,r,q=>by
  obtain⟨a,xs,rfl,_,s1,r1⟩:=r;cases e with
  |lst es=>
   obtain⟨b,ys,e,_,s2,r2⟩:=q;cases e;have z:=I.list_inj s1 s2;subst z;cases n with
   |zero=>cases hd
   |succ n=>rw[reps_inj I n ds es hd he r1 r2]
  |tup es=>
   obtain⟨b,ys,e,_,s2,r2⟩:=q;cases e;exact(Py I s1 s2).elim
  |obj=>cases n<;>cases he
  |exc=>cases n<;>cases he
  |dic=>cases n<;>cases he
  |_=>cases q
 |n,.obj _ _,e,v,hd,he,r,q=>by cases n<;>cases hd
 |n,.exc _ _,e,v,hd,he,r,q=>by cases n<;>cases hd
 |n,.dic _,e,v,hd,he,r,q=>by cases n<;>cases hd
 |n,.non,e,v,hd,he,r,q=>by
  cases r;cases e with
  |tup=>obtain⟨_,_,z,_⟩:=q;cases z
  |lst=>obtain⟨_,_,z,_⟩:=q;cases z
  |obj=>cases n<;>cases he
  |exc=>cases n<;>cases he
  |dic=>cases n<;>cases he
  |_=>cases q<;>rfl
 |n,.bl b,e,v,hd,he,r,q=>by
  cases r;cases e with
  |tup=>obtain⟨_,_,z,_⟩:=q;cases z
  |lst=>obtain⟨_,_,z,_⟩:=q;cases z
  |obj=>cases n<;>cases he
  |exc=>cases n<;>cases he
  |dic=>cases n<;>cases he
  |_=>cases q<;>rfl
 |n,.int b,e,v,hd,he,r,q=>by
  cases r;cases e with
  |tup=>obtain⟨_,_,z,_⟩:=q;cases z
  |lst=>obtain⟨_,_,z,_⟩:=q;cases z
  |obj=>cases n<;>cases he
  |exc=>cases n<;>cases he
  |dic=>cases n<;>cases he
  |_=>cases q<;>rfl
 |n,.str b,e,v,hd,he,r,q=>by
  cases r;cases e with
  |tup=>obtain⟨_,_,z,_⟩:=q;cases z
  |lst=>obtain⟨_,_,z,_⟩:=q;cases z
  |obj=>cases n<;>cases he
  |exc=>cases n<;>cases he
  |dic=>cases n<;>cases he
  |_=>cases q<;>rfl
theorem reps_inj{pI:Pn}{σ:L2.St}{H:Hp}{s:As}(I:Inv X pI σ H s):∀(n:Ag)(ds es:Ad D){xs:Ad V},ds.all (flD n)=Ab->es.all (flD n)=Ab->Reps X.K CL H A0 xs ds->Reps X.K CL H A0 xs es->ds=es
 |_,[],[],_,_,_,_,_=>rfl
 |n,d::ds,e::es,x::xs,hd,he,r,q=>by
  simp only[FC,Ak]at hd he;rw[LR I n d e hd.1 he.1 r.1 q.1,reps_inj I n ds es hd.2 he.2 r.2 q.2]
 |_,[],_::_,[],_,_,_,q=>q.elim
 |_,[],_::_,_::_,_,_,r,_=>r.elim
 |_,_::_,[],[],_,_,r,_=>r.elim
 |_,_::_,[],_::_,_,_,_,q=>q.elim
 |_,_::_,_::_,[],_,_,r,_=>r.elim
end
theorem KR:∀{ds es:Ad D},ds.length≠es.length->eqDs ds es=Ac
 |[],[],h=>absurd rfl h
 |[],_::_,_=>rfl
 |_::_,[],_=>rfl
 |d::ds,e::es,h=>by
  simp only[M0,KR (ds:=ds) (es:=es) (by simpa using h),HB]
theorem OY(n:Ag)(f:Ag->Ao):(Bz (n+1)).all f=(f 0&&(Bz n).all fun j=>f (j+1)):=by
 rw[UA,FC,Uf];rfl
theorem KS:∀{ds es:Ad D},ds.length=es.length->eqDs ds es=(Bz ds.length).all fun j=>eqD (ds.getD j .non) (es.getD j .non)
 |[],[],_=>rfl
 |d::ds,e::es,h=>by
  rw[M0,KS (ds:=ds) (es:=es) (by simpa using h),Br,OY]
  rfl
 |[],_::_,h=>by cases h
 |_::_,[],h=>by cases h
theorem Jn{ds:Ad D}{its:Ad Ai}(r:Reps K CL H A0 xs ds)(rv:Bf xs its)(h:j<its.length):∃ x,Rep K CL H A0 x (ds.getD j .non)/\BD x its[j]:=by
 have e1:=rv.length;have e2:=r.length;have hd:ds[j]?=Aa (ds.getD j .non):=by
  rw[DB,Cb (by omega)];rfl
 obtain⟨x,hx,q⟩:=r.get hd;obtain⟨u,hu,ru⟩:=rv.get hx;refine⟨x,q,?_⟩;rw[Cb h]at hu;cases hu;exact ru
theorem Jg{ds:Ad D}(h:ds.all (flD n)=Ab)(j:Ag):flD n (ds.getD j .non)=Ab:=by
 rw[DB];cases e:ds[j]? with
 |none=>cases n<;>rfl
 |some d=>exact List.all_eq_true.mp h d (Uy e)
def Cy(B:AZ)(s:As)(u t:Ai)(k:Ao):Prop:=JB B s u t k/\F4 B s u t k/\Iu B s u t (!k)
section
variable{B:AZ}{s:As}
open SeqAt
theorem iK:Cy B s .none .none Ab:=⟨RcAt.none_none,EqAt.same _,RcNeAt.none_none⟩
theorem gX(a b:Ao):Cy B s (.bool a) (.bool b) (a==b):=⟨RcAt.bool_bool _ _,EqAt.bool_bool _ _,RcNeAt.bool_bool _ _⟩
theorem iN(b:Ao):Cy B s .none (.bool b) Ac:=⟨RcAt.none_bool _,EqAt.none_bool _,RcNeAt.none_bool _⟩
theorem gS(b:Ao):Cy B s (.bool b) .none Ac:=⟨RcAt.bool_none _,EqAt.bool_none _,RcNeAt.bool_none _⟩
theorem gO(a:Af)(t:CN)(b:Af)(u:CN):Cy B s (.int a t) (.int b u) (a==b):=⟨RcAt.int_int _ _ _ _,EqAt.int_int _ _ _ _,RcNeAt.int_int _ _ _ _⟩
theorem iB(a:Ah)(t:CN)(b:Ah)(u:CN):Cy B s (.str a t) (.str b u) (a==b):=⟨RcAt.str_str _ _ _ _,EqAt.str_str _ _ _ _,RcNeAt.str_str _ _ _ _⟩
theorem iU(a:Af)(t:CN)(b:Ah)(u:CN):Cy B s (.int a t) (.str b u) Ac:=⟨RcAt.int_str _ _ _ _,EqAt.int_str _ _ _ _,RcNeAt.int_str _ _ _ _⟩
theorem iG(a:Ah)(t:CN)(b:Af)(u:CN):Cy B s (.str a t) (.int b u) Ac:=⟨RcAt.str_int _ _ _ _,EqAt.str_int _ _ _ _,RcNeAt.str_int _ _ _ _⟩
theorem iM(b:Af)(u:CN):Cy B s .none (.int b u) Ac:=⟨RcAt.none_int _ _,EqAt.none_int _ _,RcNeAt.none_int _ _⟩
theorem iV(b:Af)(u:CN):Cy B s (.int b u) .none Ac:=⟨RcAt.int_none _ _,EqAt.int_none _ _,RcNeAt.int_none _ _⟩
theorem iJ(b:Ah)(u:CN):Cy B s .none (.str b u) Ac:=⟨RcAt.none_str _ _,EqAt.none_str _ _,RcNeAt.none_str _ _⟩
theorem iE(b:Ah)(u:CN):Cy B s (.str b u) .none Ac:=⟨RcAt.str_none _ _,EqAt.str_none _ _,RcNeAt.str_none _ _⟩
theorem gW(a:Ao)(b:Af)(u:CN):Cy B s (.bool a) (.int b u) (b2i a==b):=⟨RcAt.bool_int _ _ _,EqAt.bool_int _ _ _,RcNeAt.bool_int _ _ _⟩
theorem gP(a:Ao)(b:Af)(u:CN):Cy B s (.int b u) (.bool a) (b==b2i a):=⟨RcAt.int_bool _ _ _,EqAt.int_bool _ _ _,RcNeAt.int_bool _ _ _⟩
theorem gR(a:Ao)(b:Ah)(u:CN):Cy B s (.bool a) (.str b u) Ac:=⟨RcAt.bool_str _ _ _,EqAt.bool_str _ _ _,RcNeAt.bool_str _ _ _⟩
theorem iH(a:Ao)(b:Ah)(u:CN):Cy B s (.str b u) (.bool a) Ac:=⟨RcAt.str_bool _ _ _,EqAt.str_bool _ _ _,RcNeAt.str_bool _ _ _⟩
variable{l:Aj}{items:Bk Ai}
theorem iQ(h:s.heap.IsList l items)(hu:B.units<BZ):Cy B s (.ref l) .none Ac:=⟨RcAt.list_none h hu,EqAt.list_none h hu,RcNeAt.list_none h hu⟩
theorem iL(h:s.heap.IsList l items)(hu:B.units<BZ):Cy B s .none (.ref l) Ac:=⟨RcAt.none_list h hu,EqAt.none_list h hu,RcNeAt.none_list h hu⟩
theorem iS(b:Ao)(h:s.heap.IsList l items)(hu:B.units<BZ):Cy B s (.ref l) (.bool b) Ac:=⟨RcAt.list_bool b h hu,EqAt.list_bool b h hu,RcNeAt.list_bool b h hu⟩
theorem gU(b:Ao)(h:s.heap.IsList l items)(hu:B.units<BZ):Cy B s (.bool b) (.ref l) Ac:=⟨RcAt.bool_list b h hu,EqAt.bool_list b h hu,RcNeAt.bool_list b h hu⟩
theorem iR(b:Af)(u:CN)(h:s.heap.IsList l items)(hu:B.units<BZ):Cy B s (.ref l) (.int b u) Ac:=⟨RcAt.list_int b u h hu,EqAt.list_int b u h hu,RcNeAt.list_int b u h hu⟩
theorem iW(b:Af)(u:CN)(h:s.heap.IsList l items)(hu:B.units<BZ):Cy B s (.int b u) (.ref l) Ac:=⟨RcAt.int_list b u h hu,EqAt.int_list b u h hu,RcNeAt.int_list b u h hu⟩
theorem iP(b:Ah)(u:CN)(h:s.heap.IsList l items)(hu:B.units<BZ):Cy B s (.ref l) (.str b u) Ac:=⟨RcAt.list_str b u h hu,EqAt.list_str b u h hu,RcNeAt.list_str b u h hu⟩
theorem iF(b:Ah)(u:CN)(h:s.heap.IsList l items)(hu:B.units<BZ):Cy B s (.str b u) (.ref l) Ac:=⟨RcAt.str_list b u h hu,EqAt.str_list b u h hu,RcNeAt.str_list b u h hu⟩
theorem hR(h:s.heap.IsTuple l items)(hu:B.units<BZ):Cy B s (.ref l) .none Ac:=⟨RcAt.tuple_none h hu,EqAt.tuple_none h hu,RcNeAt.tuple_none h hu⟩
theorem iI(h:s.heap.IsTuple l items)(hu:B.units<BZ):Cy B s .none (.ref l) Ac:=⟨RcAt.none_tuple h hu,EqAt.none_tuple h hu,RcNeAt.none_tuple h hu⟩
theorem hZ(b:Ao)(h:s.heap.IsTuple l items)(hu:B.units<BZ):Cy B s (.ref l) (.bool b) Ac:=⟨RcAt.tuple_bool b h hu,EqAt.tuple_bool b h hu,RcNeAt.tuple_bool b h hu⟩
theorem gQ(b:Ao)(h:s.heap.IsTuple l items)(hu:B.units<BZ):Cy B s (.bool b) (.ref l) Ac:=⟨RcAt.bool_tuple b h hu,EqAt.bool_tuple b h hu,RcNeAt.bool_tuple b h hu⟩
theorem hV(b:Af)(u:CN)(h:s.heap.IsTuple l items)(hu:B.units<BZ):Cy B s (.ref l) (.int b u) Ac:=⟨RcAt.tuple_int b u h hu,EqAt.tuple_int b u h hu,RcNeAt.tuple_int b u h hu⟩
theorem iT(b:Af)(u:CN)(h:s.heap.IsTuple l items)(hu:B.units<BZ):Cy B s (.int b u) (.ref l) Ac:=⟨RcAt.int_tuple b u h hu,EqAt.int_tuple b u h hu,RcNeAt.int_tuple b u h hu⟩
theorem hJ(b:Ah)(u:CN)(h:s.heap.IsTuple l items)(hu:B.units<BZ):Cy B s (.ref l) (.str b u) Ac:=⟨RcAt.tuple_str b u h hu,EqAt.tuple_str b u h hu,RcNeAt.tuple_str b u h hu⟩
theorem iA(b:Ah)(u:CN)(h:s.heap.IsTuple l items)(hu:B.units<BZ):Cy B s (.str b u) (.ref l) Ac:=⟨RcAt.str_tuple b u h hu,EqAt.str_tuple b u h hu,RcNeAt.str_tuple b u h hu⟩
theorem iO(h:s.heap.IsList l items)(h2:s.heap.IsTuple b items2)(hu:B.units<BZ):Cy B s (.ref l) (.ref b) Ac:=⟨RcAt.list_tuple h h2 hu,EqAt.list_tuple h h2 hu,RcNeAt.list_tuple h h2 hu⟩
theorem hU(h:s.heap.IsTuple l items)(h2:s.heap.IsList b items2)(hu:B.units<BZ):Cy B s (.ref l) (.ref b) Ac:=⟨RcAt.tuple_list h h2 hu,EqAt.tuple_list h h2 hu,RcNeAt.tuple_list h h2 hu⟩
end
end
section
variable{X:Cx}{CL:ClA}{W:XW}
theorem Hw(x:PlainL h a its):h.IsList a its:=let ⟨o,n,e,c,_,d⟩:=x;⟨o,e,c,n,d⟩
def nB(X:Cx)(CL:ClA)(H:Hp)(s:As)(d:D)(u:Ai):Prop:=match d with
  |.non=>u=.none
  |.bl b=>u=.bool b
  |.int i=>∃ t,u=.int i t
  |.str x=>∃ t,u=.str x t
  |.tup ds=>∃ a xs its,u=.ref a/\Reps X.K CL H A0 xs ds/\Bf xs its/\s.heap.IsTuple a its.toArray
  |.lst ds=>∃ a xs its,u=.ref a/\Reps X.K CL H A0 xs ds/\Bf xs its/\s.heap.IsList a its.toArray
  |_=>AU
theorem QK(I:Inv X pI σ H s)(hd:flD n d=Ab)(r:Rep X.K CL H A0 v d)(q:BD v u):nB X CL H s d u:=by
 cases d with
 |non=>cases r;exact q
 |bl b=>cases r;exact q
 |int b=>cases r;exact q
 |str b=>cases r;exact q
 |tup ds=>
  obtain⟨a,xs,rfl,_,sq,r⟩:=r;obtain⟨its,rv,p,_⟩:=I.tuple sq;cases q;exact⟨a,xs,its,rfl,r,rv,p⟩
 |lst ds=>
  obtain⟨a,xs,rfl,_,sq,r⟩:=r;obtain⟨its,rv,p,_⟩:=I.list sq;cases q;exact⟨a,xs,its,rfl,r,rv,Hw p⟩
 |obj=>cases n<;>cases hd
 |exc=>cases n<;>cases hd
 |dic=>cases n<;>cases hd
theorem XO{B:AZ}{its:Ad Ai}{ds es:Ad D}(hl:s.heap.IsList l its.toArray)(hb:s.heap.IsList b its2.toArray)(e1:its.length=ds.length)(e2:its2.length=es.length)(hu:B.units<BZ)(hs:l=b->eqDs ds es=Ab)(he:∀ j (h1:j<its.length) (h2:j<its2.length),F4 B.in1 s its[j] its2[j] (eqD (ds.getD j .non) (es.getD j .non))):Cy B s (.ref l) (.ref b) (eqDs ds es):=by
 have rc:JB B s (.ref l) (.ref b) (eqDs ds es):=by
  by_cases hz:its.length=its2.length
  ·have q:=SeqAt.RcAt.lists (e:=fun j=>eqD (ds.getD j .non) (es.getD j .non)) hl hb (by simpa using hz) hu (fun j h1 h2=>by simpa using he j (by simpa using h1) (by simpa using h2))
   rw[KS (by omega)]
   have e:its.toArray.size=ds.length:=by simpa using e1
   rw[e]at q;exact q
  ·rw[KR (by omega)]
   exact SeqAt.RcAt.lists_lengths hl hb (by simpa using hz) hu
 have ne:Iu B s (.ref l) (.ref b) (!eqDs ds es):=by
  by_cases hz:its.length=its2.length
  ·have q:=SeqAt.RcNeAt.lists (e:=fun j=>eqD (ds.getD j .non) (es.getD j .non)) hl hb (by simpa using hz) hu (fun j h1 h2=>by simpa using he j (by simpa using h1) (by simpa using h2))
   rw[KS (by omega)]
   have e:its.toArray.size=ds.length:=by simpa using e1
   rw[e]at q;exact q
  ·rw[KR (by omega)]
   exact SeqAt.RcNeAt.lists_lengths hl hb (by simpa using hz) hu
 refine⟨rc,?_,ne⟩;by_cases hlb:l=b
 ·rw[hs hlb,hlb];exact Vi _
 ·exact Vh hlb rc
theorem XN{B:AZ}{its:Ad Ai}{ds es:Ad D}(hl:s.heap.IsTuple l its.toArray)(hb:s.heap.IsTuple b its2.toArray)(e1:its.length=ds.length)(e2:its2.length=es.length)(hu:B.units<BZ)(hs:l=b->eqDs ds es=Ab)(he:∀ j (h1:j<its.length) (h2:j<its2.length),F4 B.in1 s its[j] its2[j] (eqD (ds.getD j .non) (es.getD j .non))):Cy B s (.ref l) (.ref b) (eqDs ds es):=by
 have rc:JB B s (.ref l) (.ref b) (eqDs ds es):=by
  have q:=SeqAt.RcAt.tuples (e:=fun j=>eqD (ds.getD j .non) (es.getD j .non)) hl hb hu (fun j h1 h2=>by simpa using he j (by simpa using h1) (by simpa using h2))
  have e:its.toArray.size=ds.length:=by simpa using e1
  have e':its2.toArray.size=es.length:=by simpa using e2
  rw[e,e']at q;by_cases hz:ds.length=es.length
  ·rw[KS hz];rw[hz,UH,Hi,T5]at q;rw[hz];exact q
  ·rw[KR hz];rw[Dm.mpr hz,HB]at q;exact q
 have ne:Iu B s (.ref l) (.ref b) (!eqDs ds es):=by
  have q:=SeqAt.RcNeAt.tuples (e:=fun j=>eqD (ds.getD j .non) (es.getD j .non)) hl hb hu (fun j h1 h2=>by simpa using he j (by simpa using h1) (by simpa using h2))
  have e:its.toArray.size=ds.length:=by simpa using e1
  have e':its2.toArray.size=es.length:=by simpa using e2
  rw[e,e']at q;by_cases hz:ds.length=es.length
  ·rw[KS hz];rw[hz,UH,Hi,T5]at q;rw[hz];exact q
  ·rw[KR hz];rw[Dm.mpr hz,HB]at q;exact q
 refine⟨rc,?_,ne⟩;by_cases hlb:l=b
 ·rw[hs hlb,hlb];exact Vi _
 ·exact Vh hlb rc
theorem Lf{pI:Pn}{σ:L2.St}{H:Hp}{s:As}(I:Inv X pI σ H s):∀(n:Ag)(d e:D)(v w':V)(u t:Ai)(B:AZ),flD n d=Ab->flD n e=Ab->Rep X.K CL H A0 v d->Rep X.K CL H A0 w' e->BD v u->BD w' t->B.units+n<BZ->Cy B s u t (eqD d e)
  |n,d,e,v,w',u,t,B,hd,he,r,q,rv,rw',hu=>by
    have hu0:B.units<BZ:=by omega
    have sd:=QK I hd r rv;have se:=QK I he q rw'
    match d,e,sd,se with
    |.non,.non,s1,s2=>cases s1;cases s2;exact iK
    |.non,.bl b,s1,s2=>cases s1;cases s2;exact iN b
    |.non,.int b,s1,s2=>cases s1;obtain⟨_,rfl⟩:=s2;exact iM b _
    |.non,.str b,s1,s2=>cases s1;obtain⟨_,rfl⟩:=s2;exact iJ b _
    |.non,.tup es,s1,s2=>cases s1;obtain⟨_,_,_,rfl,_,_,p⟩:=s2;exact iI p hu0
    |.non,.lst es,s1,s2=>cases s1;obtain⟨_,_,_,rfl,_,_,p⟩:=s2;exact iL p hu0
    |.bl a,.non,s1,s2=>cases s1;cases s2;exact gS a
    |.bl a,.bl b,s1,s2=>cases s1;cases s2;exact gX a b
    |.bl a,.int b,s1,s2=>cases s1;obtain⟨_,rfl⟩:=s2;exact gW a b _
    |.bl a,.str b,s1,s2=>cases s1;obtain⟨_,rfl⟩:=s2;exact gR a b _
    |.bl a,.tup es,s1,s2=>cases s1;obtain⟨_,_,_,rfl,_,_,p⟩:=s2;exact gQ a p hu0
    |.bl a,.lst es,s1,s2=>cases s1;obtain⟨_,_,_,rfl,_,_,p⟩:=s2;exact gU a p hu0
    |.int a,.non,s1,s2=>obtain⟨_,rfl⟩:=s1;cases s2;exact iV a _
    |.int a,.bl b,s1,s2=>obtain⟨_,rfl⟩:=s1;cases s2;exact gP b a _
    |.int a,.int b,s1,s2=>obtain⟨_,rfl⟩:=s1;obtain⟨_,rfl⟩:=s2;exact gO a _ b _
    |.int a,.str b,s1,s2=>obtain⟨_,rfl⟩:=s1;obtain⟨_,rfl⟩:=s2;exact iU a _ b _
    |.int a,.tup es,s1,s2=>obtain⟨_,rfl⟩:=s1;obtain⟨_,_,_,rfl,_,_,p⟩:=s2;exact iT a _ p hu0
    |.int a,.lst es,s1,s2=>obtain⟨_,rfl⟩:=s1;obtain⟨_,_,_,rfl,_,_,p⟩:=s2;exact iW a _ p hu0
    |.str a,.non,s1,s2=>obtain⟨_,rfl⟩:=s1;cases s2;exact iE a _
    |.str a,.bl b,s1,s2=>obtain⟨_,rfl⟩:=s1;cases s2;exact iH b a _
    |.str a,.int b,s1,s2=>obtain⟨_,rfl⟩:=s1;obtain⟨_,rfl⟩:=s2;exact iG a _ b _
    |.str a,.str b,s1,s2=>obtain⟨_,rfl⟩:=s1;obtain⟨_,rfl⟩:=s2;exact iB a _ b _
    |.str a,.tup es,s1,s2=>obtain⟨_,rfl⟩:=s1;obtain⟨_,_,_,rfl,_,_,p⟩:=s2;exact iA a _ p hu0
    |.str a,.lst es,s1,s2=>obtain⟨_,rfl⟩:=s1;obtain⟨_,_,_,rfl,_,_,p⟩:=s2;exact iF a _ p hu0
    |.tup ds,.non,s1,s2=>cases s2;obtain⟨_,_,_,rfl,_,_,p⟩:=s1;exact hR p hu0
    |.tup ds,.bl b,s1,s2=>cases s2;obtain⟨_,_,_,rfl,_,_,p⟩:=s1;exact hZ b p hu0
    |.tup ds,.int b,s1,s2=>obtain⟨_,rfl⟩:=s2;obtain⟨_,_,_,rfl,_,_,p⟩:=s1;exact hV b _ p hu0
    |.tup ds,.str b,s1,s2=>obtain⟨_,rfl⟩:=s2;obtain⟨_,_,_,rfl,_,_,p⟩:=s1;exact hJ b _ p hu0
    |.tup ds,.lst es,s1,s2=>obtain⟨_,_,_,rfl,_,_,p⟩:=s1;obtain⟨_,_,_,rfl,_,_,p2⟩:=s2;exact hU p p2 hu0
    |.lst ds,.non,s1,s2=>cases s2;obtain⟨_,_,_,rfl,_,_,p⟩:=s1;exact iQ p hu0
    |.lst ds,.bl b,s1,s2=>cases s2;obtain⟨_,_,_,rfl,_,_,p⟩:=s1;exact iS b p hu0
    |.lst ds,.int b,s1,s2=>obtain⟨_,rfl⟩:=s2;obtain⟨_,_,_,rfl,_,_,p⟩:=s1;exact iR b _ p hu0
    |.lst ds,.str b,s1,s2=>obtain⟨_,rfl⟩:=s2;obtain⟨_,_,_,rfl,_,_,p⟩:=s1;exact iP b _ p hu0
    |.lst ds,.tup es,s1,s2=>obtain⟨_,_,_,rfl,_,_,p⟩:=s1;obtain⟨_,_,_,rfl,_,_,p2⟩:=s2;exact iO p p2 hu0
    |.tup ds,.tup es,s1,s2=>
      match n,hd,he,hu with
      |n+1,hd,he,hu=>
        obtain⟨a,xs,its,rfl,r1,v1,p1⟩:=s1;obtain⟨b,ys,its2,rfl,r2,v2,p2⟩:=s2;have l1:=v1.length;have l2:=r1.length;have l3:=v2.length;have l4:=r2.length
        refine XN p1 p2 (by omega) (by omega) hu0 (fun hab=>?_) fun j h1 h2=>?_
        · have e1:v=.ref a:=BD.inj rv rfl;have e2:w'=.ref b:=BD.inj rw' rfl;subst e1 e2 hab;have z:=LR I (n+1) _ _ hd he r q
          injection z with z
          rw[z];exact eqDs_refl n es he
        · obtain⟨x,rx,qx⟩:=Jn r1 v1 h1;obtain⟨y,ry,qy⟩:=Jn r2 v2 h2;exact(Lf I n _ _ x y _ _ B.in1 (Jg hd j) (Jg he j) rx ry qx qy (by show B.units+1+n<BZ;omega)).2.1
    |.lst ds,.lst es,s1,s2=>
      match n,hd,he,hu with
      |n+1,hd,he,hu=>
        obtain⟨a,xs,its,rfl,r1,v1,p1⟩:=s1;obtain⟨b,ys,its2,rfl,r2,v2,p2⟩:=s2;have l1:=v1.length;have l2:=r1.length;have l3:=v2.length;have l4:=r2.length
        refine XO p1 p2 (by omega) (by omega) hu0 (fun hab=>?_) fun j h1 h2=>?_
        · have e1:v=.ref a:=BD.inj rv rfl;have e2:w'=.ref b:=BD.inj rw' rfl;subst e1 e2 hab;have z:=LR I (n+1) _ _ hd he r q
          injection z with z
          rw[z];exact eqDs_refl n es he
        · obtain⟨x,rx,qx⟩:=Jn r1 v1 h1;obtain⟨y,ry,qy⟩:=Jn r2 v2 h2;exact(Lf I n _ _ x y _ _ B.in1 (Jg hd j) (Jg he j) rx ry qx qy (by show B.units+1+n<BZ;omega)).2.1
    |.obj _ _,_,s1,_=>exact s1.elim
    |.exc _ _,_,s1,_=>exact s1.elim
    |.dic _,_,s1,_=>exact s1.elim
    |_,.obj _ _,_,s2=>exact s2.elim
    |_,.exc _ _,_,s2=>exact s2.elim
    |_,.dic _,_,s2=>exact s2.elim
end
section
variable{X:Cx}{CL:ClA}{W:XW}
theorem L9(I:Inv X pI σ H s){ds:Ad D}{its:Ad Ai}(B:AZ)(hd:flD n d=Ab)(hs:ds.all (flD n)=Ab)(r:Reps X.K CL H A0 xs ds)(rv:Bf xs its)(q:Rep X.K CL H A0 v d)(qv:BD v u)(hu:B.units+n<BZ):∃ e:Ai->Ao,(∀ y,y∈its.toArray->F4 B s y u (e y))/\its.toArray.any e=ds.any fun y=>eqD y d:=by
 have l1:=rv.length;have l2:=r.length
 have key:∀ y,y∈its->∃ k:Ao,F4 B s y u k/\∀ j (h:j<its.length),its[j]=y->eqD (ds.getD j .non) d=k:=fun y hy=>by
  obtain⟨j,hj,rfl⟩:=Gd hy;obtain⟨x,rx,qx⟩:=Jn r rv hj;refine⟨eqD (ds.getD j .non) d,(Lf I n _ _ x v _ _ B (Jg hs j) hd rx q qx qv hu).2.1,fun j' hj' e=>?_⟩
  obtain⟨x',rx',qx'⟩:=Jn r rv hj';rw[e]at qx';have z:=BD.inj qx qx';subst z;rw[LR I n _ _ (Jg hs j') (Jg hs j) rx' rx]
 have key2:∀ y,∃ k:Ao,y∈its->F4 B s y u k/\∀ j (h:j<its.length),its[j]=y->eqD (ds.getD j .non) d=k:=fun y=>by
  by_cases hy:y∈its
  ·obtain⟨k,hk⟩:=key y hy;exact⟨k,fun _=>hk⟩
  ·exact⟨Ab,fun h=>absurd h hy⟩
 refine⟨fun y=>T9 (key2 y),fun y hy=>(Ed (key2 y) (by simpa using hy)).1,?_⟩
 rw[CS];simp only[List.any_toArray,Er];constructor
 ·rintro⟨y,hy,hk⟩;obtain⟨j,hj,rfl⟩:=Gd hy;have z:=(Ed (key2 its[j]) hy).2 j hj rfl;rw[hk]at z;refine⟨ds.getD j .non,?_,z⟩;rw[DB,Cb (by omega)]
  exact DQ _
 ·rintro⟨y,hy,hk⟩;obtain⟨j,hj,rfl⟩:=Gd hy;have hj':j<its.length:=by omega
  refine⟨its[j],DQ _,?_⟩;have z:=(Ed (key2 its[j]) (DQ _)).2 j hj' rfl;rw[<-z,DB,Cb hj];exact hk
theorem LQ{g:Af->Af->Ao}(ho:OpR X (Ct op) (rI0 fun i j=>.bl (g i j)))(hg:∀ dx dy,(∃ i j,dx=.int i/\dy=.int j/\BU op dx dy=.ok (.bl (g i j)))\/BU op dx dy=.bad):OpD X CL W (Ct op) (BU op):=by
 intro A pI s σ H x y v u Q I rx ry ⟨hA,dx,dy,hx,hy,p⟩;rcases hg dx dy with ⟨i,j,rfl,rfl,e⟩|e
 ·have ex:=hx.int_of;have ey:=hy.int_of
  subst ex ey;rw[e]at p;exact ho pI s σ H _ _ v u Q I rx ry ⟨i,j,rfl,rfl,p _ H (AE.refl H) rfl⟩
 ·rw[e]at p;exact p.elim
theorem RH{x:V}(h:CH X.K CL H A x d)(hd:d≠.non):x≠.non:=by
 rintro rfl;have h:=h.plain;cases d with
 |non=>exact hd rfl
 |tup=>obtain⟨_,_,e,_⟩:=h;cases e
 |lst=>obtain⟨_,_,e,_⟩:=h;cases e
 |obj=>obtain⟨_,_,_,_,e,_⟩:=h;cases e
 |exc=>obtain⟨_,_,_,e,_⟩:=h;cases e
 |dic=>exact h.elim
 |_=>cases h
theorem JW(hu:X.A.units+64<BZ)(op:D4):OpD X CL W (Ct op) (BU op):=by
 cases op with
 |Eq=>
  intro A pI s σ H x y v u Q I rx ry ⟨hA,dx,dy,hx,hy,p⟩;rw[kQ]at p;split at p
  ·rename_i h;simp only[Ak]at h;exact(Lf I 5 dx dy x y v u X.A h.1 h.2 hx.plain hy.plain rx ry (by omega)).1 X.prog X.w X.xe _ ⟨.bl _,H,I,rfl,p _ H (AE.refl H) rfl⟩
  ·exact p.elim
 |NotEq=>
  intro A pI s σ H x y v u Q I rx ry ⟨hA,dx,dy,hx,hy,p⟩;rw[jJ]at p;split at p
  ·rename_i h;simp only[Ak]at h;exact(Lf I 5 dx dy x y v u X.A h.1 h.2 hx.plain hy.plain rx ry (by omega)).2.2 X.prog X.w X.xe _ ⟨.bl _,H,I,rfl,p _ H (AE.refl H) rfl⟩
  ·exact p.elim
 |Lt=>exact LQ kI fun dx dy=>by cases dx<;>cases dy<;>first|exact .inl ⟨_,_,rfl,rfl,rfl⟩|exact .inr rfl
 |LtE=>exact LQ kJ fun dx dy=>by cases dx<;>cases dy<;>first|exact .inl ⟨_,_,rfl,rfl,rfl⟩|exact .inr rfl
 |Gt=>exact LQ kK fun dx dy=>by cases dx<;>cases dy<;>first|exact .inl ⟨_,_,rfl,rfl,rfl⟩|exact .inr rfl
 |GtE=>exact LQ kL fun dx dy=>by cases dx<;>cases dy<;>first|exact .inl ⟨_,_,rfl,rfl,rfl⟩|exact .inr rfl
 |In=>
  intro A pI s σ H x y v u Q I rx ry ⟨hA,dx,dy,hx,hy,p⟩;cases dy with
  |lst es=>
   rw[mO]at p;split at p
   ·rename_i h;simp only[Ak]at h;obtain⟨a,xs,e,_,sq,r⟩:=hy.plain;subst e;cases ry;obtain⟨its,rv,pl,_⟩:=I.list sq;obtain⟨e,he,ha⟩:=L9 I (n:=5) X.A.in1 h.1 h.2 r rv hx.plain rx (by show X.A.units+1+5<BZ;omega)
    refine SeqAt.in_listAt e (Hw pl) he ?_;rw[ha];exact⟨.bl _,H,I,rfl,p _ H (AE.refl H) rfl⟩
   ·exact p.elim
  |tup es=>
   rw[mM]at p;split at p
   ·rename_i h;simp only[Ak]at h;obtain⟨a,xs,e,_,sq,r⟩:=hy.plain;subst e;cases ry;obtain⟨its,rv,pl,_⟩:=I.tuple sq;obtain⟨e,he,ha⟩:=L9 I (n:=5) X.A.in1 h.1 h.2 r rv hx.plain rx (by show X.A.units+1+5<BZ;omega)
    refine SeqAt.in_tupleAt e pl he ?_;rw[ha];exact⟨.bl _,H,I,rfl,p _ H (AE.refl H) rfl⟩
   ·exact p.elim
  |dic kvs=>exact hy.plain.elim
  |_=>cases dx<;>exact p.elim
 |NotIn=>
  intro A pI s σ H x y v u Q I rx ry ⟨hA,dx,dy,hx,hy,p⟩;cases dy with
  |lst es=>
   rw[jH]at p;split at p
   ·rename_i h;simp only[Ak]at h;obtain⟨a,xs,e,_,sq,r⟩:=hy.plain;subst e;cases ry;obtain⟨its,rv,pl,_⟩:=I.list sq;obtain⟨e,he,ha⟩:=L9 I (n:=5) X.A.in1 h.1 h.2 r rv hx.plain rx (by show X.A.units+1+5<BZ;omega)
    refine SeqAt.notIn_listAt e (Hw pl) he ?_;rw[ha];exact⟨.bl _,H,I,rfl,p _ H (AE.refl H) rfl⟩
   ·exact p.elim
  |tup es=>
   rw[jG]at p;split at p
   ·rename_i h;simp only[Ak]at h;obtain⟨a,xs,e,_,sq,r⟩:=hy.plain;subst e;cases ry;obtain⟨its,rv,pl,_⟩:=I.tuple sq;obtain⟨e,he,ha⟩:=L9 I (n:=5) X.A.in1 h.1 h.2 r rv hx.plain rx (by show X.A.units+1+5<BZ;omega)
    refine SeqAt.notIn_tupleAt e pl he ?_;rw[ha];exact⟨.bl _,H,I,rfl,p _ H (AE.refl H) rfl⟩
   ·exact p.elim
  |_=>cases dx<;>exact p.elim
 |Is=>
  intro A pI s σ H x y v u Q I rx ry ⟨hA,dx,dy,hx,hy,p⟩;cases dy with
  |non=>
   have ey:=hy.non_of;subst ey;refine cN pI s σ H _ _ v u Q I rx ry ⟨rfl,?_⟩;cases dx with
   |non=>
    have ex:=hx.non_of;subst ex;exact p _ H (AE.refl H) rfl
   |exc=>exact p.elim
   |dic=>exact p.elim
   |_=>rw[BK (RH hx (by simp))];exact p _ H (AE.refl H) rfl
  |bl b=>
   cases dx with
   |bl a=>
    have ey:=hy.bl_of;have ex:=hx.bl_of;subst ex ey;cases rx;cases ry;refine wpAny_is_plain rfl ⟨.bl (a==b),H,I,?_,p _ H (AE.refl H) rfl⟩;cases a<;>cases b<;>rfl
   |_=>exact p.elim
  |_=>cases dx<;>exact p.elim
 |IsNot=>
  intro A pI s σ H x y v u Q I rx ry ⟨hA,dx,dy,hx,hy,p⟩;cases dy with
  |non=>
   have ey:=hy.non_of;subst ey;refine Zu pI s σ H _ _ v u Q I rx ry ⟨rfl,?_⟩;cases dx with
   |non=>
    have ex:=hx.non_of;subst ex;exact p _ H (AE.refl H) rfl
   |exc=>exact p.elim
   |dic=>exact p.elim
   |_=>rw[BK (RH hx (by simp))];exact p _ H (AE.refl H) rfl
  |bl b=>
   cases dx with
   |bl a=>
    have ey:=hy.bl_of;have ex:=hx.bl_of;subst ex ey;cases rx;cases ry;refine wpAny_isNot_plain rfl ⟨.bl (!(a==b)),H,I,?_,p _ H (AE.refl H) rfl⟩;cases a<;>cases b<;>rfl
   |_=>exact p.elim
  |_=>cases dx<;>exact p.elim
end
section
variable{X:Cx}{CL:ClA}{W:XW}{a b c:Ap}{fa fb fc:Rho->R D}{pos:AN}
theorem C4.bind{f:D->R Ao}{Q:Ao->Hp->Prop}{Q':VK}(h:C4 W H (r.bind f) Q)(k:∀ d v H',r=.ok d->AE H H'->Rp H' v d->C4 W H' (f d) Q->Q' v H'):Bg Rp W H r Q':=by
 cases r with
 |ok d=>exact fun v H2 s2 q=>k d v H2 rfl s2 q (C4.same s2 h)
 |exn x=>exact h
 |bad=>exact h
theorem C4.bindB{r:R Ao}{f:Ao->R Ao}{Q:Ao->Hp->Prop}{Q':Ao->Hp->Prop}(h:C4 W H (r.bind f) Q)(k:∀ b H',r=.ok b->AE H H'->C4 W H' (f b) Q->Q' b H'):C4 W H r Q':=by
 cases r with
 |ok d=>exact fun H2 s2=>k d H2 rfl s2 (C4.same s2 h)
 |exn x=>exact h
 |bad=>exact h
theorem G9.bind{Rp:Hp->Ad V->Ad D->Prop}{r:R (Ad D)}{f:Ad D->R D}{Q':Ad V->Hp->Prop}(h:Bg Rq W H (r.bind f) Q)(k:∀ d v H',r=.ok d->AE H H'->Rp H' v d->Bg Rq W H' (f d) Q->Q' v H'):G9 Rp W H r Q':=by
 cases r with
 |ok d=>exact fun v H2 s2 q=>k d v H2 rfl s2 q (Bg.same s2 h)
 |exn x=>exact h
 |bad=>exact h
theorem LF{f:Ao->R D}(h:Bg Rq W H ((Dk d).bind f) Q):∃ c,d=.bl c/\Bg Rq W H (f c) Q:=by
 cases d with
 |bl c=>exact⟨c,rfl,h⟩
 |_=>exact h.elim
theorem Sa(ha:ST X CL W a fa):SE X CL W (.UnaryOp .Not a pos) (fun ρ=>(fa ρ).bind fun x=>(Dk x).bind fun b=>.ok (.bl (!b))):=fun A=>PE.weak (eA (ha A)) fun σ H Q ⟨hA,ρ,g,p⟩=>⟨hA,ρ,g,Bg.bind p fun d v H1 _ s1 r1 p1=>by
 obtain⟨c,rfl,p2⟩:=LF p1;exact⟨c,r1.bl_of,p2 _ H1 (AE.refl H1) rfl⟩⟩
theorem NN{op}(ha:SE X CL W a fa):SE X CL W (.BoolOp op [a] pos) fa:=fun A=>dZ (ha A)
theorem Ry{rest:Ad Ap}(ha:SE X CL W a fa)(hb:SE X CL W (.BoolOp .And (b::rest) pos) fb):SE X CL W (.BoolOp .And (a::b::rest) pos) (fun ρ=>(fa ρ).bind fun x=>(Dk x).bind fun c=>if c=Ab then fb ρ else .ok (.bl Ac)):=
 fun A=>PE.weak (cE (ha A) (hb A)) fun σ H Q ⟨hA,ρ,g,p⟩=>⟨hA,ρ,g,Bg.bind p fun d v H1 _ s1 r1 p1=>by
  obtain⟨c,rfl,p2⟩:=LF p1;refine⟨c,r1,?_⟩;cases c with
  |true=>exact⟨hA.same s1,ρ,g.same s1,p2⟩
  | false=>exact p2 _ H1 (AE.refl H1) rfl⟩
theorem iY{rest:Ad Ap}(ha:SE X CL W a fa)(hb:SE X CL W (.BoolOp .Or (b::rest) pos) fb):SE X CL W (.BoolOp .Or (a::b::rest) pos) (fun ρ=>(fa ρ).bind fun x=>(Dk x).bind fun c=>if c=Ab then .ok (.bl Ab) else fb ρ):=
 fun A=>PE.weak (kC (ha A) (hb A)) fun σ H Q ⟨hA,ρ,g,p⟩=>⟨hA,ρ,g,Bg.bind p fun d v H1 _ s1 r1 p1=>by
  obtain⟨c,rfl,p2⟩:=LF p1;refine⟨c,r1,?_⟩;cases c with
  |false=>exact⟨hA.same s1,ρ,g.same s1,p2⟩
  | true=>exact p2 _ H1 (AE.refl H1) rfl⟩
theorem XF{op':D4}(hu:X.A.units+64<BZ)(ha:ST X CL W a fa)(hb:ST X CL W b fb)(hc:ST X CL W c fc)(hm:IA [op,op'] [b,c]=Ac):SE X CL W (.Compare a [op,op'] [b,c] pos) (fun ρ=>(fa ρ).bind fun x=>(fb ρ).bind fun y=>(BU op x y).bind fun z=>(Dk z).bind fun k=>if k=Ab then (fc ρ).bind fun u=>BU op' y u else .ok (.bl Ac)):=
 fun A=>PE.weak (W9 (JW hu op A) (JW hu op' A) (ha A) (hb A) (hc A) hm) fun σ H Q ⟨hA,ρ,g,p⟩=>⟨hA,ρ,g,Bg.bind p fun dx x H1 _ s1 r1 p1=>⟨hA.same s1,ρ,g.same s1,Bg.bind p1 fun dy y H2 _ s2 r2 p2=>
  ⟨(hA.same s1).same s2,dx,dy,r1.same s2,r2,Bg.bind p2 fun dz z H3 _ s3 r3 p3=>by
   obtain⟨k,rfl,p4⟩:=LF p3;refine⟨k,r3,?_⟩;cases k with
   |false=>exact p4 _ H3 (AE.refl H3) rfl
   | true=>exact⟨((hA.same s1).same s2).same s3,ρ,((g.same s1).same s2).same s3,Bg.bind p4 fun du u H4 _ s4 r4 p5=>⟨(((hA.same s1).same s2).same s3).same s4,dy,du,(r2.same s3).same s4,r4,p5⟩⟩⟩⟩⟩
theorem YK{xs:Ad D}{i:Af}(h:Da xs i=.ok d):∃ k,plD xs.length i=Aa k/\xs[k]?=Aa d:=by
 unfold Da at h;split at h
 ·rename_i k e;split at h
  ·rename_i d' e';cases h;exact⟨k,e,e'⟩
  ·cases h
 ·cases h
theorem P8{xs:Ad D}{i:Af}(h:Da xs i=.exn x):AU:=by
 unfold Da at h;split at h
 ·split at h<;>cases h
 ·cases h
theorem Q3{ds:Ad D}{i:Af}(r:Reps K CL H A xs ds)(h:Da ds i=.ok d):∃ v,atI xs i=Aa v/\Rep K CL H A v d:=by
 obtain⟨k,e,q⟩:=YK h;obtain⟨v,hv,rv⟩:=r.get q;refine⟨v,?_,rv⟩;unfold atI;have:ixN xs.length i=Aa k:=by rw[r.length];exact e
 rw[this];exact hv
theorem Z9(hs:Nu b)(ha:ST X CL W a fa)(hb:ST X CL W b fb):SE X CL W (.Subscript a b pos) (fun ρ=>(fa ρ).bind fun x=>(fb ρ).bind fun y=>CG x y):=
 fun A=>PE.weak (kD (r:=fun x y H Q=>Tn X.K x y H Q\/Tl X.K x y H Q) (YZ.or bZ) (ha A) (hb A) hs) fun σ H Q h=>by
  obtain⟨hA,ρ,g,h⟩:=op2 h;refine⟨hA,ρ,g,?_⟩;cases e:fa ρ with
  |bad=>rw[e]at h;exact h
  |exn x=>rw[e]at h;exact h
  |ok dx0=>
   rw[e]at h;intro x H1 s1 r1;obtain⟨hA1,ρ1,g1,h1⟩:=h x H1 s1 r1;refine⟨hA1,ρ1,g1,?_⟩;cases e1:fb ρ1 with
   |bad=>rw[e1]at h1;exact h1
   |exn x=>rw[e1]at h1;exact h1
   |ok dy0=>
    rw[e1]at h1;intro y H2 s2 r2;obtain⟨hA2,dx,dy,rx,ry,p⟩:=h1 y H2 s2 r2;cases dy with
    |int i=>
     have ey:=ry.int_of;subst ey;cases dx with
     |lst ds=>
      obtain⟨q,xs,rfl,sq,r⟩:=rx.lst_of;rw[jA]at p;cases e2:Da ds i with
      |ok d=>
       rw[e2]at p;obtain⟨v,hv,rv⟩:=Q3 r e2;exact .inl ⟨q,xs,i,v,rfl,rfl,sq,hv,p v H2 (AE.refl H2) rv⟩
      |exn x=>exact(P8 e2).elim
      |bad=>rw[e2]at p;exact p.elim
     |tup ds=>
      obtain⟨q,xs,rfl,_,sq,r⟩:=rx.tup_of;rw[iZ]at p;cases e2:Da ds i with
      |ok d=>
       rw[e2]at p;obtain⟨v,hv,rv⟩:=Q3 r e2;exact .inr ⟨q,xs,i,v,rfl,rfl,sq,hv,p v H2 (AE.refl H2) rv⟩
      |exn x=>exact(P8 e2).elim
      |bad=>rw[e2]at p;exact p.elim
     |dic=>exact rx.plain.elim
     |_=>exact p.elim
    |_=>cases dx<;>first|exact p.elim|exact rx.plain.elim
theorem RC:SA X CL W [] (fun _=>.ok []):=fun A=>PA.weak Gz fun σ H Q ⟨hA,ρ,g,p⟩=>p [] H (AE.refl H) trivial
theorem QN(ha:SE X CL W a fa)(hs:SA X CL W es fs)(hst:Az (a::es) X.env=(Ac,eval a X.env)::Az es X.env):SA X CL W (a::es) (fun ρ=>(fa ρ).bind fun x=>(fs ρ).bind fun xs=>.ok (x::xs)):=
 fun A=>PA.weak (Eu (ha A) (hs A) hst) fun σ H Q ⟨hA,ρ,g,p⟩=>by
  dsimp only at p;refine⟨hA,ρ,g,?_⟩;cases e:fa ρ with
  |bad=>rw[e]at p;exact p
  |exn x=>rw[e]at p;exact p
  |ok d=>
   rw[e]at p;intro v H1 s1 r1;refine⟨hA.same s1,ρ,g.same s1,?_⟩;cases e1:fs ρ with
   |bad=>rw[R.bind_ok,e1]at p;exact p
   |exn x=>rw[R.bind_ok,e1]at p;exact fun H2 s2=>p H2 (s1.trans s2)
   |ok ds=>
    rw[R.bind_ok,e1]at p;exact fun vs H2 s2 r2=>p (v::vs) H2 (s1.trans s2) ⟨r1.same s2,r2⟩
theorem aV(hs:SA X CL W es fs)(hz:∀ ρ ds,fs ρ=.ok ds->ds.length<=100000):SE X CL W (.Tuple es k pos) (fun ρ=>(fs ρ).bind fun xs=>.ok (.tup xs)):=
 fun A=>PE.weak (RE (hs A)) fun σ H Q ⟨hA,ρ,g,p⟩=>⟨hA,ρ,g,G9.bind p fun ds vs H1 e s1 r1 p1=>⟨by
  rw[r1.length,Ds];have:=hz ρ ds e;omega,fun q hq=>p1 _ _ (FN hq _) (JX (hA.same s1) hq r1)⟩⟩
def Jr(W:XW)(H:Hp)(r:R (An Af))(Q:An Af->Hp->Prop):Prop:=match r with
  |.ok o=>∀ H',AE H H'->Q o H'
  |.exn x=>∀ H',AE H H'->W x H'
  |.bad=>AU
theorem Jr.bind{r:R (An Af)}{f:An Af->R D}(h:Bg Rq W H (r.bind f) Q)(k:∀ o H',r=.ok o->AE H H'->Bg Rq W H' (f o) Q->Q' o H'):Jr W H r Q':=by
 cases r with
 |ok d=>exact fun H2 s2=>k d H2 rfl s2 (Bg.same s2 h)
 |exn x=>exact h
 |bad=>exact h
def SO(X:Cx)(CL:ClA)(W:XW)(e:An Ap)(f:Rho->R (An Af)):Prop:=∀ A,PO X e (fun σ H Q=>AOk H A/\∃ ρ,Good X.K CL A ρ σ H/\Jr W H (f ρ) Q)
theorem PO.weak{e:An Ap}{t t':TO}(h:PO X e t)(k:∀ σ H Q,t' σ H Q->t σ H Q):PO X e t':=fun pI s σ H Q I q=>h pI s σ H Q I (k _ _ _ q)
theorem Yc:SO X CL W Ae (fun _=>.ok Ae):=fun A=>PO.weak Zj fun σ H Q ⟨hA,ρ,g,p⟩=>p H (AE.refl H)
theorem Yb(ha:ST X CL W a fa):SO X CL W (Aa a) (fun ρ=>(fa ρ).bind fun d=>(EA d).bind fun i=>.ok (Aa i)):=fun A=>PO.weak (Zi (ha A)) fun σ H Q ⟨hA,ρ,g,p⟩=>by
 dsimp only at p;refine⟨hA,ρ,g,?_⟩;cases e:fa ρ with
 |bad=>rw[e]at p;exact p
 |exn x=>rw[e]at p;exact p
 |ok d=>
  rw[e]at p;intro v H1 s1 r1;cases d with
  |int i=>exact⟨i,r1.int_of,p H1 s1⟩
  |_=>exact p.elim
theorem Rc{ds:Ad D}(lo hi:An Af)(r:Reps K CL H A xs ds):Reps K CL H A (IN xs lo hi) (Hf ds lo hi):=by
 unfold IN Hf;have e:∀ d o,HT.sIx xs.length d o=F9 ds.length d o:=fun d o=>by rw[r.length];cases o<;>rfl
 rw[e,e,r.length];exact(r.drop _).take _
end
section
variable{X:Cx}{CL:ClA}{W:XW}{a b c:Ap}{fa fb fc:Rho->R D}{pos:AN}
def FQ(K:Fg)(CL:ClA)(H:Hp)(A:Aj->Prop):Ad V->Ad D->Prop
 |[],[]=>Hu
 |v::vs,d::ds=>CH K CL H A v d/\FQ K CL H A vs ds
 |_,_=>AU
theorem FQ.same{K:Fg}{H H':Hp}{A:Aj->Prop}(s:AE H H'):∀{vs:Ad V}{ds:Ad D},FQ K CL H A vs ds->FQ K CL H' A vs ds
 |[],[],h=>h
 |_::_,_::_,h=>⟨h.1.same s,FQ.same s h.2⟩
 |[],_::_,h=>h.elim
 |_::_,[],h=>h.elim
theorem FQ.one(h:FQ K CL H A vs [d]):∃ v,vs=[v]/\CH K CL H A v d:=by
 cases vs with
 |nil=>exact h.elim
 |cons v vs=>
  cases vs with
  |nil=>exact⟨v,rfl,h.1⟩
  |cons=>exact h.2.elim
theorem FQ.two{e:D}(h:FQ K CL H A vs [d,e]):∃ v w',vs=[v,w']/\CH K CL H A v d/\CH K CL H A w' e:=by
 cases vs with
 |nil=>exact h.elim
 |cons v vs=>
  cases vs with
  |nil=>exact h.2.elim
  |cons w' vs=>
   cases vs with
   |nil=>exact⟨v,w',rfl,h.1,h.2.1⟩
   |cons=>exact h.2.2.elim
def SAT(X:Cx)(CL:ClA)(W:XW)(es:Ad Ap)(f:Rho->R (Ad D)):Prop:=∀ A,PA X es (fun σ H Q=>AOk H A/\∃ ρ,Good X.K CL A ρ σ H/\G9 (fun H=>FQ X.K CL H A) W H (f ρ) Q)
theorem QM:SAT X CL W [] (fun _=>.ok []):=fun A=>PA.weak Gz fun σ H Q ⟨hA,ρ,g,p⟩=>p [] H (AE.refl H) trivial
theorem Ql(ha:ST X CL W a fa)(hs:SAT X CL W es fs)(hst:Az (a::es) X.env=(Ac,eval a X.env)::Az es X.env):SAT X CL W (a::es) (fun ρ=>(fa ρ).bind fun x=>(fs ρ).bind fun xs=>.ok (x::xs)):=
 fun A=>PA.weak (Eu (ha A) (hs A) hst) fun σ H Q ⟨hA,ρ,g,p⟩=>by
  dsimp only at p;refine⟨hA,ρ,g,?_⟩;cases e:fa ρ with
  |bad=>rw[e]at p;exact p
  |exn x=>rw[e]at p;exact p
  |ok d=>
   rw[e]at p;intro v H1 s1 r1;refine⟨hA.same s1,ρ,g.same s1,?_⟩;cases e1:fs ρ with
   |bad=>rw[R.bind_ok,e1]at p;exact p
   |exn x=>rw[R.bind_ok,e1]at p;exact fun H2 s2=>p H2 (s1.trans s2)
   |ok ds=>
    rw[R.bind_ok,e1]at p;exact fun vs H2 s2 r2=>p (v::vs) H2 (s1.trans s2) ⟨r1.same s2,r2⟩
def HY(X:Cx)(CL:ClA)(W:XW)(f:Ai)(g:Ad D->R D):Prop:=∀ A,Ha X f (fun xs H Q=>AOk H A/\∃ ds,FQ X.K CL H A xs ds/\Bg (fun H=>Rep X.K CL H A) W H (g ds) Q)
theorem J9{x:Ah}{id:Dv}{g:Ad D->R D}(hc:HY X CL W (.builtin id) g)(hg:Gl X x)(hm:X.mg x=Ae)(hv:CY x=Aa (.builtin id))(ha:SAT X CL W (e::es) fs)(hn:x≠"__name__")(hdb:(x==("__debug__" : Ah))=Ac)(he:Az (e::es) X.env=(Ac,eval e X.env)::Az es X.env)(hpl:∀ pos,(B8 pos (Az es X.env)).any (·.1)=Ac):SE X CL W (.Call (.Name x p) (e::es) [] pos) (fun ρ=>(fs ρ).bind g):=fun A=>PE.weak (KY (hc A) hg hm hv (ha A) hn hdb he (hpl _)) fun σ H Q ⟨hA,ρ,gd,q⟩=>⟨hA,ρ,gd,G9.bind q fun ds vs H1 _ s1 r1 p1=>⟨hA.same s1,ds,r1,p1⟩⟩
theorem aC{x:Ah}{g:Ad D->R D}(hc:HY X CL W (.type T) g)(hg:Gl X x)(hm:X.mg x=Ae)(hv:CY x=Aa (.type T))(ha:SAT X CL W (e::es) fs)(hn:x≠"__name__")(hdb:(x==("__debug__" : Ah))=Ac)(he:Az (e::es) X.env=(Ac,eval e X.env)::Az es X.env)(hpl:∀ pos,(B8 pos (Az es X.env)).any (·.1)=Ac):SE X CL W (.Call (.Name x p) (e::es) [] pos) (fun ρ=>(fs ρ).bind g):=fun A=>PE.weak (Pd (hc A) hg hm hv (ha A) hn hdb he (hpl _)) fun σ H Q ⟨hA,ρ,gd,q⟩=>⟨hA,ρ,gd,G9.bind q fun ds vs H1 _ s1 r1 p1=>⟨hA.same s1,ds,r1,p1⟩⟩
theorem fB:HY X CL W (.builtin "len") (biD .len):=by
  intro A pI s σ H xs us Q I r ⟨hA,ds,rs,p⟩
  match ds,rs,p with
  |[.lst es],rs,p=>
    obtain⟨v,rfl,rv⟩:=rs.one;obtain⟨q,ys,rfl,sq,ry⟩:=rv.lst_of;exact OU pI s σ H _ us Q I r ⟨q,ys,rfl,.inl sq,p _ H (AE.refl H) (by rw[ry.length];rfl)⟩
  |[.tup es],rs,p=>
    obtain⟨v,rfl,rv⟩:=rs.one;obtain⟨q,ys,rfl,_,sq,ry⟩:=rv.tup_of;exact OU pI s σ H _ us Q I r ⟨q,ys,rfl,.inr sq,p _ H (AE.refl H) (by rw[ry.length];rfl)⟩
  |[.str x],rs,p=>
    obtain⟨v,rfl,rv⟩:=rs.one;have e:=rv.str_of;subst e;have p':Bg (fun H=>Rep X.K CL H A) W H (if D8 x.length=Ab then .ok (.int x.length) else .bad) Q:=p
    split at p'
    · rename_i h;exact VU pI s σ H _ us Q I r ⟨x,rfl,JS h,p' _ H (AE.refl H) rfl⟩
    · exact p'.elim
  |[],_,p=>exact p.elim
  |[.non],_,p=>exact p.elim
  |[.bl _],_,p=>exact p.elim
  |[.int _],_,p=>exact p.elim
  |[.obj _ _],_,p=>exact p.elim
  |[.exc _ _],_,p=>exact p.elim
  |[.dic _],rs,p=>first|exact p.elim|(obtain⟨v,rfl,rv⟩:=rs.one;exact rv.plain.elim)
  |x::_::_,_,p=>cases x<;>exact p.elim
theorem WF(ds:Ad D):(∃ i j,ds=[.int i,.int j])\/biD .max ds=.bad:=by
  match ds with
  |[.int i,.int j]=>exact .inl ⟨i,j,rfl⟩
  |[]=>exact .inr rfl
  |[x]=>cases x<;>exact .inr rfl
  |x::y::z::r=>cases x<;>cases y<;>exact .inr rfl
  |[x,.non]=>cases x<;>exact .inr rfl
  |[x,.bl _]=>cases x<;>exact .inr rfl
  |[x,.str _]=>cases x<;>exact .inr rfl
  |[x,.tup _]=>cases x<;>exact .inr rfl
  |[x,.lst _]=>cases x<;>exact .inr rfl
  |[x,.obj _ _]=>cases x<;>exact .inr rfl
  |[x,.exc _ _]=>cases x<;>exact .inr rfl
  |[x,.dic _]=>cases x<;>exact .inr rfl
  |[.non,.int _]=>exact .inr rfl
  |[.bl _,.int _]=>exact .inr rfl
  |[.str _,.int _]=>exact .inr rfl
  |[.tup _,.int _]=>exact .inr rfl
  |[.lst _,.int _]=>exact .inr rfl
  |[.obj _ _,.int _]=>exact .inr rfl
  |[.exc _ _,.int _]=>exact .inr rfl
  |[.dic _,.int _]=>exact .inr rfl
theorem Pf:∀(is:Ad Af)(i:Af),Hz i is∈i::is/\∀ a∈i::is,Hz i is<=a
 |[],i=>⟨AI,fun a h=>by rw[List.mem_singleton]at h;rw[h];exact IU _⟩
 |j::r,i=>by
  obtain⟨h1,h2⟩:=Pf r (if j<i then j else i)
  refine⟨?_,fun a h=>?_⟩
  ·show Hz (if j<i then j else i) r∈_
   rcases AB.mp h1 with e|e
   ·rw[e];split
    ·exact Ax _ AI
    ·exact AI
   ·exact Ax _ (Ax _ e)
  ·show Hz (if j<i then j else i) r<=a
   have h0:=h2 _ AI;rcases AB.mp h with e|e
   ·subst e;refine Im h0 ?_;split<;>omega
   ·rcases AB.mp e with e|e
    ·subst e;refine Im h0 ?_;split<;>omega
    ·exact h2 a (Ax _ e)
theorem Po:∀{is:Ad Af}{its:Ad Ai},Bf (is.map V.int) its->∃ xs:Bk (Af×CN),its.toArray=KC xs/\xs.toList.map (·.1)=is
 |[],_,h=>by cases h;exact⟨#[],by simp[KC],rfl⟩
 |i::is,_,h=>by
  cases h with
  |cons h1 h2=>
   obtain⟨t,rfl⟩:=h1;obtain⟨xs,e1,e2⟩:=Po h2;refine⟨((i,t)::xs.toList).toArray,?_,?_⟩
   ·apply Array.toList_inj.mp
    have e1':=congrArg Il e1;simp[KC]at e1' ⊢;exact e1'
   ·simp[e2]
theorem Wz(hc:X.calm=Ab):Ha X (.builtin "min") (fun xs H Q=>∃ a i is,xs=[.ref a]/\SqL X.K H a ((i::is).map V.int)/\Q (.int (Hz i is)) H):=by
 intro pI s σ H xs us Q I r h;obtain⟨a,i,is,rfl,sq,q⟩:=h;obtain⟨u,rfl,ru⟩:=Hb r;cases ru;obtain⟨its,rv,pl,hz⟩:=I.list sq;obtain⟨ys,e1,e2⟩:=Po rv;have hsz:0<ys.size:=by
  have:=congrArg Ur e2;simp at this;omega
 have hl:=pl.isList;rw[e1]at hl;refine min_intList (I.ok.hd hc) hl hsz fun v h' tk hv hk=>?_
 obtain⟨t,rfl⟩:=intItems_at hv;obtain⟨h1,h2⟩:=argBest_lt (HR ys) (ys.size-1);have nm:∀ j,j<ys.size->HR ys j∈i::is:=fun j hj=>by
  rw[<-e2];unfold HR;rw[T4 hj];simp only[ET,Option.getD_some];exact CC.mpr ⟨ys[j],by simp,rfl⟩
 have nx:∀ x∈i::is,∃ j,j<ys.size/\HR ys j=x:=fun x hx=>by
  rw[<-e2]at hx;obtain⟨y,hy,rfl⟩:=CC.mp hx;obtain⟨j,hj,ej⟩:=Array.mem_iff_getElem.mp (Array.mem_toList_iff.mp hy);refine⟨j,hj,?_⟩;unfold HR;rw[T4 hj,ej];rfl
 obtain⟨m1,m2⟩:=Pf is i;have em:HR ys (argBest (fun i j=>decide (HR ys i<HR ys j)) (ys.size-1))=Hz i is:=by
  refine Int.le_antisymm ?_ (m2 _ (nm _ (by omega)))
  obtain⟨j,hj,ej⟩:=nx _ m1;rw[<-ej];exact h2 j (by omega)
 rw[em];exact⟨.int (Hz i is),H,I.kept hk,⟨_,rfl⟩,q⟩
theorem Pp{K:Fg}{CL:ClA}{H:Hp}{A:Aj->Prop}:∀{es:Ad D}{is:Ad Af}{ys:Ad V},IL es=Aa is->Reps K CL H A ys es->ys=is.map V.int
 |[],_,[],h,_=>by cases h;rfl
 |[],_,_::_,_,r=>r.elim
 |_::_,_,[],_,r=>r.elim
 |e::es,is,y::ys,h,r=>by
  cases e with
  |int i=>
   have h':(IL es).map (i :: ·)=Aa is:=h;cases e2:IL es with
   |none=>rw[e2]at h';cases h'
   |some js=>
    rw[e2]at h';cases h';have ih:=Pp e2 r.2;have e1:y=.int i:=r.1;rw[ih,e1];rfl
  |_=>cases h
theorem WE(ds:Ad D)(hl:∀ es,ds≠[.lst es]):(∃ i j,ds=[.int i,.int j])\/biD .min ds=.bad:=by
  match ds with
  |[.int i,.int j]=>exact .inl ⟨i,j,rfl⟩
  |[]=>exact .inr rfl
  |[x]=>cases x<;>first|exact .inr rfl|exact absurd rfl (hl _)
  |x::y::z::r=>cases x<;>cases y<;>exact .inr rfl
  |[x,.non]=>cases x<;>exact .inr rfl
  |[x,.bl _]=>cases x<;>exact .inr rfl
  |[x,.str _]=>cases x<;>exact .inr rfl
  |[x,.tup _]=>cases x<;>exact .inr rfl
  |[x,.lst _]=>cases x<;>exact .inr rfl
  |[x,.obj _ _]=>cases x<;>exact .inr rfl
  |[x,.exc _ _]=>cases x<;>exact .inr rfl
  |[x,.dic _]=>cases x<;>exact .inr rfl
  |[.non,.int _]=>exact .inr rfl
  |[.bl _,.int _]=>exact .inr rfl
  |[.str _,.int _]=>exact .inr rfl
  |[.tup _,.int _]=>exact .inr rfl
  |[.lst _,.int _]=>exact .inr rfl
  |[.obj _ _,.int _]=>exact .inr rfl
  |[.exc _ _,.int _]=>exact .inr rfl
  |[.dic _,.int _]=>exact .inr rfl
theorem fA(hc:X.calm=Ab):HY X CL W (.builtin "max") (biD .max):=by
 intro A pI s σ H xs us Q I r ⟨hA,ds,rs,p⟩;rcases WF ds with ⟨i,j,rfl⟩|e
 ·obtain⟨v,w',rfl,rv,rw'⟩:=rs.two;have e1:=rv.int_of;have e2:=rw'.int_of
  subst e1 e2;exact WB hc pI s σ H _ us Q I r ⟨i,j,rfl,p _ H (AE.refl H) rfl⟩
 ·rw[e]at p;exact p.elim
theorem eZ(hc:X.calm=Ab):HY X CL W (.builtin "min") (biD .min):=by
  intro A pI s σ H xs us Q I r ⟨hA,ds,rs,p⟩;by_cases hls:∃ es,ds=[.lst es]
  · obtain⟨es,rfl⟩:=hls;obtain⟨v,rfl,rv⟩:=rs.one;obtain⟨a,ys,rfl,sq,ry⟩:=rv.lst_of;have p':Bg (Rep X.K CL · A) W H (match IL es with
      |some (i::is)=>R.ok (.int (Hz i is))
      | _=>.bad) Q:=p
    cases e1:IL es with
    |none=>rw[e1]at p';exact p'.elim
    |some is=>
      cases is with
      |nil=>rw[e1]at p';exact p'.elim
      |cons i is=>
        rw[e1]at p';have ey:=Pp e1 ry;subst ey;exact Wz hc pI s σ H _ us Q I r ⟨a,i,is,rfl,sq,p' _ H (AE.refl H) rfl⟩
  rcases WE ds (fun es z=>hls ⟨es,z⟩) with ⟨i,j,rfl⟩|e
  · obtain⟨v,w',rfl,rv,rw'⟩:=rs.two;have e1:=rv.int_of;have e2:=rw'.int_of
    subst e1 e2;exact WA hc pI s σ H _ us Q I r ⟨i,j,rfl,p _ H (AE.refl H) rfl⟩
  · rw[e]at p;exact p.elim
theorem XI:HY X CL W (.type "tuple") (biD .tuple):=by
  intro A pI s σ H xs us Q I r ⟨hA,ds,rs,p⟩
  match ds,rs,p with
  |[.lst es],rs,p=>
    obtain⟨v,rfl,rv⟩:=rs.one;obtain⟨q,ys,rfl,sq,ry⟩:=rv.lst_of;exact OX pI s σ H _ us Q I r ⟨q,ys,rfl,.inl ⟨sq,fun l hl=>p _ _ (FN hl _) (JX hA hl ry)⟩⟩
  |[.tup es],rs,p=>
    obtain⟨v,rfl,rv⟩:=rs.one;obtain⟨q,ys,rfl,na,sq,ry⟩:=rv.tup_of;exact OX pI s σ H _ us Q I r ⟨q,ys,rfl,.inr ⟨sq,p _ H (AE.refl H) ⟨q,ys,rfl,na,sq,ry⟩⟩⟩
  |[],_,p=>exact p.elim
  |[.non],_,p=>exact p.elim
  |[.bl _],_,p=>exact p.elim
  |[.int _],_,p=>exact p.elim
  |[.str _],_,p=>exact p.elim
  |[.obj _ _],_,p=>exact p.elim
  |[.exc _ _],_,p=>exact p.elim
  |[.dic _],rs,p=>first|exact p.elim|(obtain⟨v,rfl,rv⟩:=rs.one;exact rv.plain.elim)
  |x::_::_,_,p=>cases x<;>exact p.elim
end
section
variable{X:Cx}{CL:ClA}{W:XW}{a b c:Ap}{fa fb fc:Rho->R D}{pos:AN}
theorem SB.congr{g:Rho->R Ao}(h:SB X CL W a f)(e:∀ ρ,g ρ=f ρ):SB X CL W a g:=fun A=>PT.weak (h A) fun σ H Q ⟨hA,ρ,q,p⟩=>⟨hA,ρ,q,by rw[<-e];exact p⟩
theorem RB(ha:SB X CL W a f):SB X CL W (.UnaryOp .Not a pos) (fun ρ=>(f ρ).bind fun b=>.ok (!b)):=fun A=>PT.weak (dP (ha A)) fun σ H Q ⟨hA,ρ,g,p⟩=>⟨hA,ρ,g,C4.bindB p fun b H1 _ s1 p1=>p1 H1 (AE.refl H1)⟩
def SW(X:Cx)(CL:ClA)(W:XW)(e:Ap)(f:Rho->R Ao):Prop:=∀ A,PW X e (fun σ H Q=>AOk H A/\∃ ρ,Good X.K CL A ρ σ H/\C4 W H (f ρ) Q)
theorem PW.weak{t t':TT}(h:PW X e t)(k:∀ σ H Q,t' σ H Q->t σ H Q):PW X e t':=fun wh pI s σ H Q I q=>h wh pI s σ H Q I (k _ _ _ q)
theorem SW.sb(h:SW X CL W a f):SB X CL W a f:=fun A=>PW.pt (h A)
theorem SW.congr{g:Rho->R Ao}(h:SW X CL W a f)(e:∀ ρ,g ρ=f ρ):SW X CL W a g:=fun A=>PW.weak (h A) fun σ H Q ⟨hA,ρ,q,p⟩=>⟨hA,ρ,q,by rw[<-e];exact p⟩
theorem QZ(ha:SB X CL W a f):SW X CL W (.BoolOp .And [a] pos) f:=fun A=>Zb (ha A)
theorem R1(ha:SB X CL W a f):SW X CL W (.BoolOp .Or [a] pos) f:=fun A=>dN (ha A)
theorem R4{g:Rho->R Ao}{rest:Ad Ap}(ha:SB X CL W a f)(hb:SW X CL W (.BoolOp .And (b::rest) pos) g):SW X CL W (.BoolOp .And (a::b::rest) pos) (fun ρ=>(f ρ).bind fun c=>if c=Ab then g ρ else .ok Ac):=
 fun A=>PW.weak (dO (ha A) (hb A)) fun σ H Q ⟨hA,ρ,gd,p⟩=>⟨hA,ρ,gd,C4.bindB p fun c H1 _ s1 p1=>by
  cases c with
  |true=>exact⟨hA.same s1,ρ,gd.same s1,p1⟩
  | false=>exact p1 H1 (AE.refl H1)⟩
theorem Si{g:Rho->R Ao}{rest:Ad Ap}(ha:SB X CL W a f)(hb:SW X CL W (.BoolOp .Or (b::rest) pos) g):SW X CL W (.BoolOp .Or (a::b::rest) pos) (fun ρ=>(f ρ).bind fun c=>if c=Ab then .ok Ab else g ρ):=
 fun A=>PW.weak (jY (ha A) (hb A)) fun σ H Q ⟨hA,ρ,gd,p⟩=>⟨hA,ρ,gd,C4.bindB p fun c H1 _ s1 p1=>by
  cases c with
  |false=>exact⟨hA.same s1,ρ,gd.same s1,p1⟩
  | true=>exact p1 H1 (AE.refl H1)⟩
theorem aD(ho:OpD X CL W (Ct op) g)(ha:ST X CL W a fa)(hb:ST X CL W b fb)(hm:Gx op b=Ac):SB X CL W (.Compare a [op] [b] pos) (fun ρ=>(fa ρ).bind fun x=>(fb ρ).bind fun y=>(g x y).bind Dk):=
 fun A=>PT.weak (Ze (ho A) (ha A) (hb A) hm) fun σ H Q ⟨hA,ρ,gd,p⟩=>⟨hA,ρ,gd,C4.bind p fun dx x H1 _ s1 r1 p1=>⟨hA.same s1,ρ,gd.same s1,C4.bind p1 fun dy y H2 _ s2 r2 p2=>
  ⟨(hA.same s1).same s2,dx,dy,r1.same s2,r2,C4.bind p2 fun dz z H3 _ s3 r3 p3=>by
   cases dz with
   |bl k=>exact⟨k,r3,p3 H3 (AE.refl H3)⟩
   | _=>exact p3.elim⟩⟩⟩
theorem WZ{op':D4}(hu:X.A.units+64<BZ)(ha:ST X CL W a fa)(hb:ST X CL W b fb)(hc:ST X CL W c fc)(hm:IA [op,op'] [b,c]=Ac):SB X CL W (.Compare a [op,op'] [b,c] pos) (fun ρ=>(fa ρ).bind fun x=>(fb ρ).bind fun y=>(BU op x y).bind fun z=>(Dk z).bind fun k=>if k=Ab then (fc ρ).bind fun u=>(BU op' y u).bind Dk else .ok Ac):=
  fun A=>PT.weak (W5 (JW hu op A) (JW hu op' A) (ha A) (hb A) (hc A) hm) fun σ H Q ⟨hA,ρ,g,p⟩=>⟨hA,ρ,g,C4.bind p fun dx x H1 _ s1 r1 p1=>⟨hA.same s1,ρ,g.same s1,C4.bind p1 fun dy y H2 _ s2 r2 p2=>
    ⟨(hA.same s1).same s2,dx,dy,r1.same s2,r2,C4.bind p2 fun dz z H3 _ s3 r3 p3=>by
      cases dz with
      |bl k=>
        refine⟨k,r3,?_⟩;cases k with
        |false=>exact⟨Ac,rfl,p3 H3 (AE.refl H3)⟩
        | true=>exact⟨((hA.same s1).same s2).same s3,ρ,((g.same s1).same s2).same s3,C4.bind p3 fun du u H4 _ s4 r4 p5=>⟨(((hA.same s1).same s2).same s3).same s4,dy,du,(r2.same s3).same s4,r4,C4.bind p5 fun dv v H5 _ s5 r5 p6=>by
            cases dv with
            |bl k'=>exact⟨k',r5,p6 H5 (AE.refl H5)⟩
            | _=>exact p6.elim⟩⟩
      | _=>exact p3.elim⟩⟩⟩
theorem RA(ha:ST X CL W a fa)(he:∀ whole,HI a X.env whole=(do let v <-whole;IT a.pos;holding [v] (truthy v))):SB X CL W a (fun ρ=>(fa ρ).bind BL):=
 fun A=>PT.weak (W4 (ha A) he) fun σ H Q ⟨hA,ρ,g,p⟩=>⟨hA,ρ,g,C4.bind p fun d v H1 _ s1 r1 p1=>by
  cases d with
  |non=>
   have e:=r1.non_of;subst e;exact⟨Ac,rfl,p1 H1 (AE.refl H1)⟩
  |bl b=>
   have e:=r1.bl_of;subst e;exact⟨b,rfl,p1 H1 (AE.refl H1)⟩
  |int i=>
   have e:=r1.int_of;subst e;exact⟨_,rfl,p1 H1 (AE.refl H1)⟩
  |str x=>
   have e:=r1.str_of;subst e;have p2:C4 W H1 (if D8 x.length=Ab then .ok (x.length != 0) else .bad) Q:=p1
   split at p2
   ·rename_i h;refine⟨_,⟨JS h,rfl⟩,?_⟩;have e:((x.length:Af) != 0)=(x.length != 0):=by
     rw[CS];simp
    rw[e];exact p2 H1 (AE.refl H1)
   ·exact p2.elim
  |tup ds=>
   obtain⟨q,xs,rfl,_,sq,r⟩:=r1.tup_of;refine⟨_,.inr (.inl ⟨xs,sq,rfl⟩),?_⟩;have e:xs.isEmpty=ds.isEmpty:=by
    have:=r.length;cases xs<;>cases ds<;>first|rfl|cases this
   rw[e];exact p1 H1 (AE.refl H1)
  |lst ds=>
   obtain⟨q,xs,rfl,sq,r⟩:=r1.lst_of;refine⟨_,.inl ⟨xs,sq,rfl⟩,?_⟩;have e:xs.isEmpty=ds.isEmpty:=by
    have:=r.length;cases xs<;>cases ds<;>first|rfl|cases this
   rw[e];exact p1 H1 (AE.refl H1)
  | _=>exact p1.elim⟩
noncomputable def mY(K:Fg)(CL:ClA)(H:Hp)(A:Aj->Prop)(cls:Ai)(dx:An Aj)(x:Ex):Prop:=
 ∃ C,CL x.c=Aa C/\cls=.ref C/\(x.fs=[]\/∃ d vs,dx=Aa d/\¬ A d/\H d=Aa (.xd vs)/\Repf K CL H A vs x.fs)
def FP(K:Fg)(CL:ClA)(H:Hp)(cls:Ai)(dx:An Aj)(x:Ex):Prop:=∀ A,AOk H A->mY K CL H A cls dx x
end
def BN(B:Aj->Prop)(ρ:Rho)(σ:L2.St):Aj->Prop:=fun a=>B a\/∃(j:Ag)(d:D),ρ[j]?=Aa (Aa (d,Ab))/\σ[j]?=Aa (Aa (.ref a))
structure Sx (K:Fg) (CL:ClA) (Fz:Aj->HO->Prop) (B:Aj->Prop) (ρ:Rho) (σ:L2.St) (H:Hp):Prop where
 good:Good K CL (BN B ρ σ) ρ σ H
 aok:AOk H (BN B ρ σ)
 new:∀(j:Ag)(d:D)(a:Aj),ρ[j]?=Aa (Aa (d,Ab))->σ[j]?=Aa (Aa (.ref a))->(∀ o,¬ Fz a o)/\¬ B a
 dis:∀(i j:Ag)(d e:D)(a:Aj),ρ[i]?=Aa (Aa (d,Ab))->ρ[j]?=Aa (Aa (e,Ab))->σ[i]?=Aa (Aa (.ref a))->σ[j]?=Aa (Aa (.ref a))->i=j
 same:∀ b o,Fz b o->H b=Aa o
 len:ρ.length=σ.length
def BS(K:Fg)(CL:ClA)(Fz:Aj->HO->Prop)(B:Aj->Prop)(W:XW)(o:O)(D:Ends):Prop:=match o with
  |.next ρ=>∀ σ H,Sx K CL Fz B ρ σ H->D.nx σ H
  |.brk ρ=>∀ σ H,Sx K CL Fz B ρ σ H->D.bk σ H
  |.cont ρ=>∀ σ H,Sx K CL Fz B ρ σ H->D.ct σ H
  |.ret d fr=>∀ v H,(∀ b o,Fz b o->H b=Aa o)->Rep K CL H B v d->(fr=Ab->∀ ds,d=.lst ds->∃ a xs,v=.ref a/\(∀ o,¬ Fz a o)/\H a=Aa (.lst xs)/\Reps K CL H (fun b=>B b\/b=a) xs ds)->D.rt v H
  |.exn x _=>∀ H,(∀ b o,Fz b o->H b=Aa o)->W x H
  |.bad=>AU
section
variable{K:Fg}{CL:ClA}{Fz Fy:Aj->HO->Prop}{B:Aj->Prop}{ρ:Rho}{σ:L2.St}{H H':Hp}
theorem Sx.mono(k:∀ b o,Fz b o->Fy b o)(x:Sx K CL Fy B ρ σ H):Sx K CL Fz B ρ σ H:=⟨x.good,x.aok,fun j d a h1 h2=>⟨fun o z=>(x.new j d a h1 h2).1 o (k _ _ z),(x.new j d a h1 h2).2⟩,x.dis,fun b o z=>x.same b o (k _ _ z),x.len⟩
theorem Sx.grow(x:Sx K CL Fz B ρ σ H)(s:AE H H'):Sx K CL Fz B ρ σ H':=⟨x.good.same s,x.aok.same s,x.new,x.dis,fun b o z=>s _ _ (x.same b o z),x.len⟩
theorem B7{l:Ad α}{v:α}(h:i≠j):(l.set i v)[j]?=l[j]?:=by rw[FV h]
theorem Gh{l:Ad α}{v w':α}(h:(l.set i v)[i]?=Aa w'):w'=v:=by
 rw[Fl]at h;cases e:l[i]? with
 |none=>rw[e]at h;cases h
 |some x=>rw[e]at h;cases h;rfl
theorem Sx.set(x:Sx K CL Fz B ρ σ H){v:V}{d:D}(i:Ag)(r:Rep K CL H (BN B ρ σ) v d):Sx K CL Fz B (ρ.set i (Aa (d,Ac))) (σ.set i (Aa v)) H:=by
 have own:∀(j:Ag)(e:D),(ρ.set i (Aa (d,Ac)))[j]?=Aa (Aa (e,Ab))->i≠j/\ρ[j]?=Aa (Aa (e,Ab)):=fun j e h=>by
  by_cases hj:i=j
  ·subst hj;have:=Gh h;cases this
  ·exact⟨hj,by rw[B7 hj]at h;exact h⟩
 have sub:∀ a,BN B (ρ.set i (Aa (d,Ac))) (σ.set i (Aa v)) a->BN B ρ σ a:=fun a h=>by
  rcases h with h|⟨j,e,h1,h2⟩
  ·exact .inl h
  ·obtain⟨hj,h1⟩:=own j e h1;rw[B7 hj]at h2;exact .inr ⟨j,e,h1,h2⟩
 refine⟨⟨fun j e h=>?_,fun j e h=>?_,by rw[A2,A2];exact x.len⟩,fun a h=>x.aok a (sub a h),fun j e a h1 h2=>?_,fun j k e f a h1 h2 h3 h4=>?_,x.same,by rw[A2,A2];exact x.len⟩
 ·by_cases hj:i=j
  ·subst hj;have e1:=Gh h;cases e1;refine⟨v,?_,Rep.sub sub _ r⟩;have hl:i<σ.length:=by
    rw[<-x.len];have:=(A7.mp h).1;simpa using this
   rw[CV hl]
  ·rw[B7 hj]at h;obtain⟨w',q,rw'⟩:=x.good.sh j e h;exact⟨w',by rw[B7 hj];exact q,Rep.sub sub _ rw'⟩
 ·obtain⟨hj,h1⟩:=own j e h;obtain⟨a,xs,ds,q,z,ha,hh,rr⟩:=x.good.ow j e h1;exact⟨a,xs,ds,by rw[B7 hj];exact q,z,.inr ⟨j,e,h,by rw[B7 hj];exact q⟩,hh,Reps.sub sub _ rr⟩
 ·obtain⟨hj,h1⟩:=own j e h1;rw[B7 hj]at h2;exact x.new j e a h1 h2
 ·obtain⟨hj,h1⟩:=own j e h1;obtain⟨hk,h2⟩:=own k f h2;rw[B7 hj]at h3;rw[B7 hk]at h4;exact x.dis j k e f a h1 h2 h3 h4
end
section
variable{X:Cx}{CL:ClA}{W:XW}{pos:AN}{e:Ap}{fe:Rho->R D}
def SS(X:Cx)(CL:ClA)(W:XW)(st:A9)(f:Rho->O):Prop:=∀ Fz B,PS X st (fun D σ H=>∃ ρ,Sx X.K CL Fz B ρ σ H/\BS X.K CL Fz B W (f ρ) D)
def SSs(X:Cx)(CL:ClA)(W:XW)(st:Ad A9)(f:Rho->O):Prop:=∀ Fz B,PSs X st (fun D σ H=>∃ ρ,Sx X.K CL Fz B ρ σ H/\BS X.K CL Fz B W (f ρ) D)
theorem PS.weak{e:A9}{t t':TS}(h:PS X e t)(k:∀ D σ H,t' D σ H->t D σ H):PS X e t':=fun pI s σ H D I q=>h pI s σ H D I (k _ _ _ q)
theorem PSs.weak{e:Ad A9}{t t':TS}(h:PSs X e t)(k:∀ D σ H,t' D σ H->t D σ H):PSs X e t':=fun pI s σ H D I q=>h pI s σ H D I (k _ _ _ q)
theorem BS.ex{f:D->O}(x:Sx X.K CL Fz B ρ σ H)(h:BS X.K CL Fz B W (O.of ρ r f) D')(k:∀ d v H',r=.ok d->AE H H'->Rp H' v d->Sx X.K CL Fz B ρ σ H'->BS X.K CL Fz B W (f d) D'->Q v H'):Bg Rp W H r Q:=by
 cases r with
 |ok d=>exact fun v H' s r=>k d v H' rfl s r (x.grow s) h
 |exn y=>exact fun H' s=>h H' fun b o z=>s _ _ (x.same b o z)
 |bad=>exact h
theorem BS.exB{r:R Ao}{f:Ao->O}{Q:Ao->Hp->Prop}(x:Sx X.K CL Fz B ρ σ H)(h:BS X.K CL Fz B W (O.of ρ r f) D')(k:∀ b H',r=.ok b->AE H H'->Sx X.K CL Fz B ρ σ H'->BS X.K CL Fz B W (f b) D'->Q b H'):C4 W H r Q:=by
 cases r with
 |ok d=>exact fun H' s=>k d H' rfl s (x.grow s) h
 |exn y=>exact fun H' s=>h H' fun b o z=>s _ _ (x.same b o z)
 |bad=>exact h
theorem X7(he:SE X CL W e fe)(hs:Dh e Ae pos.line X.env=pure Ac):SS X CL W (.Expr e pos) (fun ρ=>O.of ρ (fe ρ) fun _=>.next ρ):=fun Fz B pI s σ H D I ⟨ρ,x,p⟩=>
 LS (he (BN B ρ σ)) hs pI s σ H D I ⟨x.aok,ρ,x.good,BS.ex x p fun d v H' _ s r x' q=>q σ H' x'⟩
theorem aM{n:Ah}(hN:X.N.Nodup)(hi:X.N[i]?=Aa n)(hx:Loc X.env.scope n)(he:SE X CL W e fe)(hs:Dh e (Aa (.Name n pos')) pos.line X.env=pure Ac)(hf:X.fn n=Ab\/X.env.scope.names.lookup n=Aa .local):SS X CL W (.Assign [.Name n pos'] e pos) (fun ρ=>O.of ρ (fe ρ) fun d=>.next (ρ.set i (Aa (d,Ac)))):=fun Fz B pI s σ H D I ⟨ρ,x,p⟩=>
 Mg hN hi hx (he (BN B ρ σ)) hs hf pI s σ H D I ⟨x.aok,ρ,x.good,BS.ex x p fun d v H' _ s r x' q=>q _ H' (x'.set i r)⟩
theorem Q1(he:SE X CL W e fe):SS X CL W (.Return (Aa e) pos) (fun ρ=>O.of ρ (fe ρ) fun d=>.ret d Ac):=fun Fz B pI s σ H D I ⟨ρ,x,p⟩=>
 NP (he (BN B ρ σ)) pI s σ H D I ⟨x.aok,ρ,x.good,BS.ex x p fun d v H' _ s r x' q=>q v H' x'.same (Rep.sub (fun a h=>.inl h) _ r) fun z=>nomatch z⟩
theorem Sj{a b:Ad A9}{fa fb:Rho->O}(hc:SB X CL W c fc)(ha:SSs X CL W a fa)(hb:SSs X CL W b fb):SS X CL W (.If c a b pos) (fun ρ=>O.of ρ (fc ρ) fun k=>if k=Ab then fa ρ else fb ρ):=fun Fz B pI s σ H D I ⟨ρ,x,p⟩=>
 jZ (hc (BN B ρ σ)) (ha Fz B) (hb Fz B) pI s σ H D I ⟨x.aok,ρ,x.good,BS.exB x p fun k H' _ s x' q=>by
  cases k with
  |true=>exact⟨ρ,x',q⟩
  | false=>exact⟨ρ,x',q⟩⟩
theorem Nx:SSs X CL W [] (fun ρ=>.next ρ):=fun Fz B=>PSs.weak Zf fun D σ H ⟨ρ,x,p⟩=>p σ H x
theorem LM{st:A9}{rest:Ad A9}{f g:Rho->O}(h1:SS X CL W st f)(h2:SSs X CL W rest g):SSs X CL W (st::rest) (fun ρ=>(f ρ).seq g):=fun Fz B=>PSs.weak (Qq (h1 Fz B) (h2 Fz B)) fun D σ H ⟨ρ,x,p⟩=>⟨ρ,x,by
 dsimp only at p;cases e:f ρ with
 |next ρ'=>rw[e]at p;exact fun σ' H' x'=>⟨ρ',x',p⟩
 |ret d b=>rw[e]at p;exact p
 |brk ρ'=>rw[e]at p;exact p
 |cont ρ'=>rw[e]at p;exact p
 |exn y ρ'=>rw[e]at p;exact p
 | bad=>rw[e]at p;exact p⟩
end
def Ie(K:Fg)(CL:ClA)(A:Aj->Prop)(ds:Ad D)(J:It)(H1:Hp):Prop:=∀ H,Kp A H1 H->∀ i:Ag,(ds.length<=i->J.stop i H)/\∀ d,ds[i]?=Aa d->J.go i H/\∀ x H',J.yld i H x H'->AE H H'/\∀ B,(∀ a,B a->A a\/H1 a=Ae)->AOk H B->Rep K CL H' B x d
def EB(K:Fg)(CL:ClA)(A:Aj->Prop)(W:XW)(H:Hp)(r:R (Ad D))(Q:It->Hp->Prop):Prop:=match r with
  |.ok ds=>∀ J H',AE H H'->Ie K CL A ds J H'->ds.length<=sizeLine->Q J H'
  |.exn x=>∀ H',AE H H'->W x H'
  |.bad=>AU
def SI(X:Cx)(CL:ClA)(W:XW)(tg iter:Ap)(f:Rho->R (Ad D)):Prop:=∀ A,PI X tg iter (fun σ H R=>AOk H A/\∃ ρ,Good X.K CL A ρ σ H/\EB X.K CL A W H (f ρ) R)
theorem PI.weak{t t':TI}(h:PI X tg e t)(k:∀ σ H Q,t' σ H Q->t σ H Q):PI X tg e t':=fun pI s σ H Q I q=>h pI s σ H Q I (k _ _ _ q)
section
variable{X:Cx}{CL:ClA}{W:XW}{pos p:AN}{tg e a b:Ap}{fe fa fb:Rho->R D}
theorem EB.ex{f:D->R (Ad D)}{Q:It->Hp->Prop}{Q':VK}(h:EB X.K CL A W H (r.bind f) Q)(k:∀ d v H',r=.ok d->AE H H'->Rp H' v d->EB X.K CL A W H' (f d) Q->Q' v H'):Bg Rp W H r Q':=by
  cases r with
  | ok d=>exact fun v H' s q=>k d v H' rfl s q (by
      have h':EB X.K CL A W H (f d) Q:=h;cases e:f d with
      |ok ds=>rw[e]at h';exact fun J H2 s2 y z=>h' J H2 (s.trans s2) y z
      |exn y=>rw[e]at h';exact fun H2 s2=>h' H2 (s.trans s2)
      | bad=>rw[e]at h';exact h')
  |exn y=>exact h
  |bad=>exact h
theorem KN{x:V}(r:Rep K CL H1 A x d)(k:Kp A H1 H)(hB:∀ a,B a->A a\/H1 a=Ae):Rep K CL H B x d:=by
 have r1:Rep K CL H1 (fun a=>A a\/B a) x d:=Rep.wide (fun a ha=>ha.elim .inl (hB a)) _ r
 have r2:Rep K CL H (fun a=>A a\/B a) x d:=Rep.kp (fun b o e na=>k b o e fun z=>na (.inl z)) _ r1
 exact Rep.sub (fun a ha=>.inr ha) _ r2
theorem V3{ds:Ad D}(na:¬ A q\/KL K q xs)(s:SqL K H q xs)(r:Reps K CL H A xs ds):Ie K CL A ds (Itl K q) H:=fun H' k i=>by
 have s':=Mc k na s;refine⟨fun h=>⟨xs,s',by rw[r.length];exact h⟩,fun d hd=>?_⟩
 obtain⟨v,hv,rv⟩:=r.get hd;exact⟨⟨xs,v,s',hv⟩,fun x H2 ⟨e,y⟩=>by
  subst e;have:=y xs s';rw[hv]at this;cases this;exact⟨AE.refl _,fun B hB _=>KN rv k hB⟩⟩
theorem Xn{ds:Ad D}(na:¬ A q\/KT K q xs)(s:SqT K H q xs)(r:Reps K CL H A xs ds):Ie K CL A ds (Itt K q) H:=fun H' k i=>by
 have s':=Mb k na s;refine⟨fun h=>⟨xs,s',by rw[r.length];exact h⟩,fun d hd=>?_⟩
 obtain⟨v,hv,rv⟩:=r.get hd;exact⟨⟨xs,v,s',hv⟩,fun x H2 ⟨e,y⟩=>by
  subst e;have:=y xs s';rw[hv]at this;cases this;exact⟨AE.refl _,fun B hB _=>KN rv k hB⟩⟩
theorem PC(lo:Af)(n:Ag):Ie K CL A (DL lo n) (Itr lo n) H:=fun H' k i=>by
 refine⟨fun h=>by rw[MW]at h;exact h,fun d hd=>?_⟩
 obtain⟨h1,rfl⟩:=Xj hd;exact⟨h1,fun x H2 ⟨e,y⟩=>by
  subst e y;exact⟨AE.refl _,fun _ _ _=>rfl⟩⟩
theorem dX{l:Ap}{tl:TE}(hl:PE X l tl):PI X tg l (fun σ H R=>tl σ H fun x H1=>(∃ a,x=.ref a/\(∃ xs,SqL X.K H1 a xs/\(xs.length<=sizeLine->R (Itl X.K a) H1)))\/∃ a,x=.ref a/\(∃ xs,SqT X.K H1 a xs/\(xs.length<=sizeLine->R (Itt X.K a) H1))):=by
 intro pI s σ H R I h;refine thn (hl pI s σ H _ I h) fun v s1 ⟨x,H1,I1,r1,q1⟩=>?_
 rcases q1 with ⟨a,e,xs,hq,q⟩|⟨a,e,xs,hq,q⟩
 ·subst e;cases r1;obtain⟨its,rv,p,hz⟩:=I1.list hq;refine DG p.isList ?_;refine⟨s1.heap.objs.size,[s1.heap.objs.size],_,_,H1,rfl,I1.kept (t':=s1.toks) fun b o e=>Au _ e,Wo a _,⟨_,AO _ rfl,rfl,rfl⟩,fun b hb=>?_,q hz⟩
  have e:b=s1.heap.objs.size:=by simpa using hb
  subst e;exact I1.fpOk (AY _) (I1.hok.fresh (AY _))
 ·subst e;cases r1;obtain⟨its,rv,p,hz⟩:=I1.tuple hq;refine E6 (show s1.heap.IsTuple a its.toArray from p) ?_
  refine⟨s1.heap.objs.size,[s1.heap.objs.size],_,_,H1,rfl,I1.kept (t':=s1.toks) fun b o e=>Au _ e,V5 a _,⟨_,AO _ rfl,rfl,rfl⟩,fun b hb=>?_,q hz⟩
  have e:b=s1.heap.objs.size:=by simpa using hb
  subst e;exact I1.fpOk (AY _) (I1.hok.fresh (AY _))
theorem mG(he:SE X CL W e fe):SI X CL W tg e (fun ρ=>(fe ρ).bind Ck):=fun A=>PI.weak (dX (he A)) fun σ H R ⟨hA,ρ,g,p⟩=>⟨hA,ρ,g,EB.ex p fun d v H1 _ s1 r1 p1=>by
 cases d with
 |lst ds=>
  obtain⟨q,xs,rfl,na,sq,r⟩:=r1;exact .inl ⟨q,rfl,xs,sq,fun hz=>p1 _ H1 (AE.refl H1) (V3 na sq r) (by rw[<-r.length];exact hz)⟩
 |tup ds=>
  obtain⟨q,xs,rfl,na,sq,r⟩:=r1;exact .inr ⟨q,rfl,xs,sq,fun hz=>p1 _ H1 (AE.refl H1) (Xn na sq r) (by rw[<-r.length];exact hz)⟩
 | _=>exact p1.elim⟩
theorem Pb{lo hi:Af}{ds:Ad D}(h:C9 lo hi=.ok ds):(-(2 ^ 62)<=lo/\lo<2 ^ 62)/\(-(2 ^ 62)<=hi/\hi<2 ^ 62)/\ds=DL lo (hi-lo).toNat/\(DL lo (hi-lo).toNat).length<=sizeLine:=by
 unfold C9 at h;split at h
 ·rename_i q;cases h;exact⟨by omega,by omega,rfl,by rw[MW,Ds];omega⟩
 ·cases h
theorem Pk{lo hi:Af}(h:C9 lo hi=.exn x):AU:=by
 unfold C9 at h;split at h<;>cases h
theorem aU(ha:ST X CL W a fa)(hg:Gl X "range")(hm:X.mg "range" = Ae)(hs:Az [a] X.env=[(Ac,eval a X.env)]):SI X CL W tg (.Call (.Name "range" p) [a] [] pos) (fun ρ=>(fa ρ).bind fun x=>(EA x).bind fun j=>C9 0 j):=
 fun A=>PI.weak (Wk hg hm (Eu (ha A) Gz hs) hs) fun σ H R ⟨hA,ρ,g,q⟩=>⟨hA,ρ,g,EB.ex q fun d v H1 _ s1 r1 p1=>by
  cases d with
  |int j=>
   have e:=r1.int_of;subst e;have p2:EB X.K CL A W H1 (C9 0 j) R:=p1;cases e2:C9 0 j with
   |ok ds=>
    rw[e2]at p2;obtain⟨_,h2,rfl,hz⟩:=Pb e2;exact⟨j,rfl,h2.1,h2.2,p2 _ H1 (AE.refl H1) (by rw[GU];exact PC 0 j.toNat) hz⟩
   |exn y=>exact(Pk e2).elim
   |bad=>rw[e2]at p2;exact p2.elim
  | _=>exact p1.elim⟩
theorem Ye(ha:ST X CL W a fa)(hb:ST X CL W b fb)(hg:Gl X "range")(hm:X.mg "range" = Ae)(hs:Az [a,b] X.env=[(Ac,eval a X.env),(Ac,eval b X.env)])(hs2:Az [b] X.env=[(Ac,eval b X.env)]):
  SI X CL W tg (.Call (.Name "range" p) [a,b] [] pos) (fun ρ=>(fa ρ).bind fun x=>(fb ρ).bind fun y=>(EA x).bind fun i=>(EA y).bind fun j=>C9 i j):=
 fun A=>PI.weak (Wj hg hm (Eu (ha A) (Eu (hb A) Gz hs2) (by rw[hs,hs2])) hs hs2) fun σ H R ⟨hA,ρ,g,q⟩=>⟨hA,ρ,g,EB.ex q fun d v H1 _ s1 r1 p1=>⟨hA.same s1,ρ,g.same s1,EB.ex p1 fun d2 v2 H2 _ s2 r2 p2=>by
  cases d with
  |int i=>
   cases d2 with
   |int j=>
    have e:=r1.int_of;have e':=r2.int_of
    subst e e';have p3:EB X.K CL A W H2 (C9 i j) R:=p2;cases e2:C9 i j with
    |ok ds=>
     rw[e2]at p3;obtain⟨h1,h2,rfl,hz⟩:=Pb e2;exact⟨i,j,rfl,⟨h1.1,h1.2,h2.1,h2.2⟩,p3 _ H2 (AE.refl H2) (PC _ _) hz⟩
    |exn y=>exact(Pk e2).elim
    |bad=>rw[e2]at p3;exact p3.elim
   |_=>exact p2.elim
  | _=>exact p2.elim⟩⟩
theorem BS.exI{r:R (Ad D)}{f:Ad D->O}{Q:It->Hp->Prop}(x:Sx X.K CL Fz B ρ σ H)(h:BS X.K CL Fz B W (O.of ρ r f) D')(k:∀ ds J H',r=.ok ds->AE H H'->Ie X.K CL A ds J H'->ds.length<=sizeLine->Sx X.K CL Fz B ρ σ H'->BS X.K CL Fz B W (f ds) D'->Q J H'):EB X.K CL A W H r Q:=by
 cases r with
 |ok d=>exact fun J H' s y z=>k d J H' rfl s y z (x.grow s) h
 |exn y=>exact fun H' s=>h H' fun b o z=>s _ _ (x.same b o z)
 |bad=>exact h
theorem BS.turn{Fy:Aj->HO->Prop}{o:O}{g:Rho->O}{N:L2.St->Hp->Prop}(hf:∀ b q,Fz b q->Fy b q)(h:BS K CL Fz B W (o.turn g) D')(k:∀ ρ' σ' H',Sx K CL Fy B ρ' σ' H'->BS K CL Fz B W (g ρ') D'->N σ' H'):BS K CL Fy B W o {D' with nx:=N,ct:=N,bk:=D'.nx}:=by
 cases o with
 |next ρ'=>exact fun σ' H' x=>k ρ' σ' H' x h
 |cont ρ'=>exact fun σ' H' x=>k ρ' σ' H' x h
 |brk ρ'=>exact fun σ' H' x=>h σ' H' (x.mono hf)
 |ret d b=>exact fun v H' s r n=>h v H' (fun b o z=>s b o (hf b o z)) r fun z ds e=>let ⟨a,xs,h1,h2,h3⟩:=n z ds e;⟨a,xs,h1,fun o q=>h2 o (hf a o q),h3⟩
 |exn y ρ'=>exact fun H' s=>h H' (fun b o z=>s b o (hf b o z))
 |bad=>exact h
noncomputable def E9(ts:Ad Ag)(ρ:Rho):Rho:=ts.foldl (fun ρ t=>ρ.set t Ae) ρ
def GT(K:Fg)(CL:ClA)(as:D->Rho->R Rho)(g:TG):Prop:=∀ Fz B ρ σ H v d ρ' Q,Sx K CL Fz B ρ σ H->Rep K CL H (BN B ρ σ) v d->as d ρ=.ok ρ'->(∀ σ',Sx K CL Fz B ρ' σ' H->Q σ' H)->g v σ H Q
theorem YH(i:Ag):GT K CL (fun d ρ=>.ok (ρ.set i (Aa (d,Ac)))) (EN i):=fun Fz B ρ σ H v d ρ' Q x r e k=>by
 cases e;exact k _ (x.set i r)
theorem NZ{K:Fg}{Fz:Aj->HO->Prop}{B:Aj->Prop}{H:Hp}:∀(ts:Ad Ag)(ds:Ad D)(vs:Ad V)(ρ ρ':Rho)(σ:L2.St)(Q:L2.St->Hp->Prop),Sx K CL Fz B ρ σ H->Reps K CL H (BN B ρ σ) vs ds->Ev ts ds ρ=Aa ρ'->(∀ σ',Sx K CL Fz B ρ' σ' H->Q σ' H)->(ts.foldr (fun t u=>G7 (EN t) u) He) vs σ H Q
 |[],[],[],ρ,ρ',σ,Q,x,_,e,k=>by
  cases e;exact⟨rfl,k σ x⟩
 |t::ts,d::ds,v::vs,ρ,ρ',σ,Q,x,r,e,k=>by
  refine⟨v,vs,rfl,NZ ts ds vs _ ρ' _ Q (x.set t r.1) (Reps.sub (fun a ha=>?_) ds r.2) e k⟩
  rcases ha with ha|⟨j,c,h1,h2⟩
  ·exact .inl ha
  ·by_cases hj:t=j
   ·subst hj;have:=Gh h1;cases this
   ·rw[B7 hj]at h1 h2;exact .inr ⟨j,c,h1,h2⟩
 |[],_::_,_,_,_,_,_,_,_,e,_=>by cases e
 |_::_,[],_,_,_,_,_,_,_,e,_=>by cases e
 |[],[],_::_,_,_,_,_,_,r,_,_=>r.elim
 |_::_,_::_,[],_,_,_,_,_,r,_,_=>r.elim
theorem LG:∀(ts:Ad Ag)(ds:Ad D)(ρ ρ':Rho),Ev ts ds ρ=Aa ρ'->ds.length=ts.length
 |[],[],_,_,_=>rfl
 |_::ts,_::ds,_,_,e=>congrArg (· + 1) (LG ts ds _ _ e)
 |[],_::_,_,_,e=>by cases e
 |_::_,[],_,_,e=>by cases e
theorem RK(ts:Ad Ag):GT K CL (Gj ts) (Kl K ts.length (ts.foldr (fun t u=>G7 (EN t) u) He)):=fun Fz B ρ σ H v d ρ' Q x r e k=>by
 cases d with
 |tup ds=>
  obtain⟨a,xs,rfl,na,sq,rs⟩:=r;rw[Pt]at e;cases e2:Ev ts ds ρ with
  |none=>rw[e2]at e;cases e
  |some ρ2=>
   rw[e2]at e;cases e;exact⟨a,xs,rfl,sq,by rw[rs.length];exact LG _ _ _ _ e2,NZ ts ds xs ρ _ σ Q x rs e2 k⟩
 |_=>cases e
theorem R6{body:Ad A9}{fbd:Rho->O}{g:TG}(hp:E4 (model X.prog X.w) X.A X.env X.xe)(hc:X.calm=Ab)(hGT:GT X.K CL as g)(hg:PG X tg g)(hit:SI X CL W tg iter fi)(hb:SSs X CL W body fbd)(hs:∀ x,CO iter X.env x=pure x)(hax:∀ d ρ x,as d ρ≠.exn x):SS X CL W (.For tg iter body [] pos) (fun ρ=>O.of ρ (fi ρ) fun xs=>Ch (fun x ρ'=>O.of ρ' (as x ρ') fbd) xs ρ):=fun Fz B pI s σ H D I ⟨ρ,x,p⟩=>by
 refine dQ hp hc (hit (BN B ρ σ)) hg (tb:=fun D σ H=>∃ Fy,(fun D σ H=>∃ ρ,Sx X.K CL Fy B ρ σ H/\BS X.K CL Fy B W (fbd ρ) D) D σ H) (fun pI s σ H D I ⟨Fy,q⟩=>hb Fy B pI s σ H D I q) hs pI s σ H D I ⟨x.aok,ρ,x.good,BS.exI x p fun ds J H1 _ s1 y _ x1 q=>?_⟩
 let Fy:Aj->HO->Prop:=fun b o=>H1 b=Aa o/\¬ ∃(j:Ag)(d:Ov.D),ρ[j]?=Aa (Aa (d,Ab))/\σ[j]?=Aa (Aa (.ref b))
 have hfy:∀ b o,Fz b o->Fy b o:=fun b o z=>⟨x1.same b o z,fun ⟨j,d,h1,h2⟩=>(x1.new j d b h1 h2).1 o z⟩
 have xy:Sx X.K CL Fy B ρ σ H1:=⟨x1.good,x1.aok,fun j d a h1 h2=>⟨fun o z=>z.2 ⟨j,d,h1,h2⟩,(x1.new j d a h1 h2).2⟩,x1.dis,fun b o z=>z.1,x1.len⟩
 refine⟨fun k m σ' H'=>m=ds.length-k/\k<=ds.length/\∃ ρ',Sx X.K CL Fy B ρ' σ' H'/\BS X.K CL Fz B W (Ch (fun x ρ'=>O.of ρ' (as x ρ') fbd) (ds.drop k) ρ') D,⟨ds.length,by simp,Fw _,ρ,xy,q⟩,?_⟩
 rintro k m σ' H' ⟨rfl,hk,ρ',x',q'⟩;have kp:Kp (BN B ρ σ) H1 H':=fun b o e na=>x'.same b o ⟨e,fun z=>na (.inr z)⟩
 obtain⟨yst,ygo⟩:=y H' kp k;by_cases hlt:k<ds.length
 ·have hd:ds[k]?=Aa ds[k]:=Cb hlt;obtain⟨hgo,hyl⟩:=ygo _ hd;refine .inr ⟨hgo,fun σ'' H''=>∃ ρ'',Sx X.K CL Fy B ρ'' σ'' H''/\BS X.K CL Fz B W (Ch (fun x ρ'=>O.of ρ' (as x ρ') fbd) (ds.drop (k+1)) ρ'') D,fun σ'' H'' z=>⟨ds.length-(k+1),by omega,rfl,hlt,z⟩,fun v H2 hv=>?_⟩
  obtain⟨e2,rv⟩:=hyl v H2 hv;rw[ER hlt]at q';have q2:BS X.K CL Fz B W ((O.of ρ' (as ds[k] ρ') fbd).turn (Ch (fun x ρ'=>O.of ρ' (as x ρ') fbd) (ds.drop (k+1)))) D:=q'
  have rv':Rep X.K CL H2 (BN B ρ' σ') v ds[k]:=rv _ (fun a ha=>by
    rcases ha with ha|⟨j,d,h1,h2⟩
    ·exact .inl (.inl ha)
    ·cases e:H1 a with
     |none=>exact .inr rfl
     |some o=>
      by_cases ho:∃(j:Ag)(d:Ov.D),ρ[j]?=Aa (Aa (d,Ab))/\σ[j]?=Aa (Aa (.ref a))
      ·exact .inl (.inr ho)
      ·exact absurd ⟨e,ho⟩ ((x'.new j d a h1 h2).1 o)) x'.aok
  cases ea:as ds[k] ρ' with
  |bad=>rw[ea]at q2;exact q2.elim
  |exn z=>exact absurd ea (hax _ _ z)
  |ok ρ2=>
   rw[ea,O.of_ok]at q2;exact hGT Fy B ρ' σ' H2 v ds[k] ρ2 _ (x'.grow e2) rv' ea fun σ3 x3=>⟨Fy,ρ2,x3,BS.turn hfy q2 fun ρ3 σ3 H3 x3 q3=>⟨ρ3,x3,q3⟩⟩
 ·have hk':ds.length<=k:=by omega
  rw[Uj hk']at q';exact .inl ⟨yst hk',q' σ' H' (x'.mono hfy)⟩
end
section
variable{X:Cx}{CL:ClA}{W:XW}{a b c:Ap}{fa fb fc:Rho->R D}{pos:AN}
noncomputable def tyK:Ki->An Dv
 |.int=>Aa "int"
 |.bool=>Aa "bool"
 |.str=>Aa "str"
 |.list=>Aa "list"
 |.tuple=>Aa "tuple"
 |_=>Ae
noncomputable def NQ:D->Ao
 |.obj _ _=>Ac
 |.exc _ _=>Ac
 |.dic _=>Ac
 |_=>Ab
theorem cA{k:Ki}{Q:Vq}{E:Vq}(I:Inv X pI σ H s)(r:CH X.K CL H A v d)(q:BD v u)(hT:tyK k=Aa T)(hd:NQ d=Ab)(h:∀ s',Inv X pI σ H s'->Q (.bool (kiD up k d)) s'):
  Ay (model X.prog X.w) X.A (call (.builtin "isinstance") [u,.type T]) Q E s:=by
 have r':=r.plain;have it:=fun t=>h _ (I.tok t)
 cases d with
 |obj=>cases hd
 |exc=>cases hd
 |dic=>cases hd
 |non=>
  cases r';cases q;cases k<;>simp only[tyK]at hT<;>cases hT
  ·exact IsiPair.NoneType_int (it _)
  ·exact IsiPair.NoneType_bool (it _)
  ·exact IsiPair.NoneType_str (it _)
  ·exact IsiPair.NoneType_list (it _)
  ·exact IsiPair.NoneType_tuple (it _)
 |bl b=>
  cases r';cases q;cases k<;>simp only[tyK]at hT<;>cases hT
  ·exact IsiPair.bool_int (h _ I)
  ·exact IsiPair.bool_bool (h _ I)
  ·exact IsiPair.bool_str (it _)
  ·exact IsiPair.bool_list (it _)
  ·exact IsiPair.bool_tuple (it _)
 |int i=>
  cases r';obtain⟨t,rfl⟩:=q;cases k<;>simp only[tyK]at hT<;>cases hT
  ·exact IsiPair.int_int (h _ I)
  ·exact IsiPair.int_bool (it _)
  ·exact IsiPair.int_str (it _)
  ·exact IsiPair.int_list (it _)
  ·exact IsiPair.int_tuple (it _)
 |str x=>
  cases r';obtain⟨t,rfl⟩:=q;cases k<;>simp only[tyK]at hT<;>cases hT
  ·exact IsiPair.str_int (it _)
  ·exact IsiPair.str_bool (it _)
  ·exact IsiPair.str_str (h _ I)
  ·exact IsiPair.str_list (it _)
  ·exact IsiPair.str_tuple (it _)
 |tup ds=>
  obtain⟨p,xs,rfl,_,sq,rr⟩:=r';obtain⟨its,rv,pt,_⟩:=I.tuple sq;cases q;have pt':s.heap.IsTuple p its.toArray:=pt;cases k<;>simp only[tyK]at hT<;>cases hT
  ·exact IsiPair.isTuple_int pt' (fun _ _ e=>e) (it _)
  ·exact IsiPair.isTuple_bool pt' (fun _ _ e=>e) (it _)
  ·exact IsiPair.isTuple_str pt' (fun _ _ e=>e) (it _)
  ·exact IsiPair.isTuple_list pt' (fun _ _ e=>e) (it _)
  ·exact IsiPair.isTuple_tuple pt' (fun _ _ e=>e) (h _ I)
 |lst ds=>
  obtain⟨p,xs,rfl,_,sq,rr⟩:=r';obtain⟨its,rv,pl,_⟩:=I.list sq;cases q;have pt':s.heap.IsList p its.toArray:=Hw pl;cases k<;>simp only[tyK]at hT<;>cases hT
  ·exact IsiPair.isList_int pt' (fun _ _ e=>e) (it _)
  ·exact IsiPair.isList_bool pt' (fun _ _ e=>e) (it _)
  ·exact IsiPair.isList_str pt' (fun _ _ e=>e) (it _)
  ·exact IsiPair.isList_list pt' (fun _ _ e=>e) (h _ I)
  ·exact IsiPair.isList_tuple pt' (fun _ _ e=>e) (it _)
theorem WJ{k:Ki}(hT:tyK k=Aa T)(p:Bg Rp W H (DX up [k] d) Q):NQ d=Ab/\Bg Rp W H (.ok (.bl (kiD up k d))) Q:=by
 cases k<;>simp only[tyK]at hT<;>cases hT<;>cases d<;>first|exact p.elim|exact⟨rfl,by simpa using p⟩
theorem aZ{k:Ki}{x:Ah}(hT:tyK k=Aa T)(hg:Gl X "isinstance")(hm:X.mg "isinstance" = Ae)(hg2:Gl X x)(hm2:X.mg x=Ae)(hv:CY x=Aa (.type T))(hn:x≠"__name__")(hdb:(x==("__debug__" : Ah))=Ac)(ha:ST X CL W a fa)(he:Az [a,.Name x p2] X.env=(Ac,eval a X.env)::Az [.Name x p2] X.env):SE X CL W (.Call (.Name "isinstance" p) [a,.Name x p2] [] pos) (fun ρ=>(fa ρ).bind fun x=>DX up [k] x):=fun A=>
 PE.weak (KY (r:=fun xs H Q=>∃ y d,xs=[y,.ty T]/\CH X.K CL H A y d/\NQ d=Ab/\Q (.bl (kiD up k d)) H) (fun pI s σ H xs us Q I r ⟨y,d,e,ry,hd,q⟩=>by
   subst e;obtain⟨u,w',rfl,r1,r2⟩:=Js r;cases r2;exact cA I ry r1 hT hd fun s' I'=>⟨.bl _,H,I',rfl,q⟩)
  hg hm F0 (Eu (ha A) (Eu (QB (v:=.ty T) hg2 hm2 hv rfl hn hdb) Gz rfl) he) (by decide) (by decide) he rfl) fun σ H Q ⟨hA,ρ,g,q⟩=>⟨hA,ρ,g,Bg.bind q fun d v H1 _ s1 r1 p1=>by
   obtain⟨hd,p2⟩:=WJ hT p1;exact⟨v,d,rfl,r1,hd,p2 _ H1 (AE.refl H1) rfl⟩⟩
theorem Nw{b:Ao}{A':AZ}{E:Vq}{Q:Ao->As->Prop}(r:Rep X.K CL H A v d)(q:BD v u)(h:DZ d=.ok b)(hq:Q b s):Ay (model prog w) A' (truthy u) Q E s:=by
 cases d with
 |non=>
  cases r;cases q;cases h;exact truthy_none hq
 |bl k=>
  cases r;cases q;cases h;exact Cu hq
 |int i=>
  cases r;obtain⟨t,rfl⟩:=q;cases h;exact truthy_int hq
 |_=>cases h
theorem O5:∀{ds:Ad D}{b:Ao},GC ds=.ok b->(∀ j,j<ds.length->∃ c,DZ (ds.getD j .non)=.ok c)/\b=(Bz ds.length).all fun j=>match DZ (ds.getD j .non) with
  |.ok c=>c
  |_=>Ac
 |[],b,h=>by cases h;exact⟨fun j hj=>absurd hj (Hm _),rfl⟩
 |d::ds,b,h=>by
  rw[Px]at h;cases e:DZ d with
  |bad=>rw[e]at h;cases h
  |exn x=>rw[e]at h;cases h
  |ok c=>
   rw[e,R.bind_ok]at h;cases e2:GC ds with
   |bad=>rw[e2]at h;cases h
   |exn x=>rw[e2]at h;cases h
   |ok c2=>
    rw[e2,R.bind_ok]at h;cases h;obtain⟨h1,h2⟩:=O5 e2;refine⟨fun j hj=>?_,?_⟩
    ·cases j with
     |zero=>exact⟨c,e⟩
     |succ j=>exact h1 j (by simpa using hj)
    ·rw[Br,OY,h2];show (c&&_)=((match DZ d with | .ok c=>c|_=>Ac)&&_)
     rw[e];rfl
theorem O4:∀{ds:Ad D}{b:Ao},Fa ds=.ok b->(∀ j,j<ds.length->∃ c,DZ (ds.getD j .non)=.ok c)/\b=(Bz ds.length).any fun j=>match DZ (ds.getD j .non) with
  |.ok c=>c
  |_=>Ac
 |[],b,h=>by cases h;exact⟨fun j hj=>absurd hj (Hm _),rfl⟩
 |d::ds,b,h=>by
  rw[Pw]at h;cases e:DZ d with
  |bad=>rw[e]at h;cases h
  |exn x=>rw[e]at h;cases h
  |ok c=>
   rw[e,R.bind_ok]at h;cases e2:Fa ds with
   |bad=>rw[e2]at h;cases h
   |exn x=>rw[e2]at h;cases h
   |ok c2=>
    rw[e2,R.bind_ok]at h;cases h;obtain⟨h1,h2⟩:=O4 e2;refine⟨fun j hj=>?_,?_⟩
    ·cases j with
     |zero=>exact⟨c,e⟩
     |succ j=>exact h1 j (by simpa using hj)
    ·rw[Br,UA,FD,Ug,h2];show (c||_)=((match DZ d with | .ok c=>c|_=>Ac)||_)
     rw[e];rfl
theorem Qj:∀(ds:Ad D)(a z:Af),Gn a ds=.ok z->(∀ j,j<ds.length->∃ i,ds.getD j .non=.int i)/\z=a+IC (fun j=>match ds.getD j .non with
  |.int i=>i
  | _=>0) ds.length
 |[],a,z,h=>by cases h;exact⟨fun j hj=>absurd hj (Hm _),by simp[IC]⟩
 |.int i::ds,a,z,h=>by
  obtain⟨h1,h2⟩:=Qj ds (a+i) z h;refine⟨fun j hj=>?_,?_⟩
  ·cases j with
   |zero=>exact⟨i,rfl⟩
   |succ j=>exact h1 j (by simpa using hj)
  ·have key:∀ n,IC (fun j=>match (D.int i::ds).getD j .non with | .int i=>i|_=>0) (n+1)=i+IC (fun j=>match ds.getD j .non with | .int i=>i|_=>0) n:=by
    intro n
    induction n with
    |zero=>show (0:Af)+i=i+0;omega
    |succ n ih=>
     show IC _ (n+1)+(match ds.getD n .non with | .int i=>i|_=>0)=i+(IC _ n+(match ds.getD n .non with | .int i=>i|_=>0))
     rw[ih];omega
   rw[h2,Br,key];omega
 |.non::_,_,_,h=>by cases h
 |.bl _::_,_,_,h=>by cases h
 |.str _::_,_,_,h=>by cases h
 |.tup _::_,_,_,h=>by cases h
 |.lst _::_,_,_,h=>by cases h
 |.obj _ _::_,_,_,h=>by cases h
 |.exc _ _::_,_,_,h=>by cases h
 |.dic _::_,_,_,h=>by cases h
theorem K3{ds:Ad D}{its:Ad Ai}(r:Reps X.K CL H A0 xs ds)(rv:Bf xs its){v:Ai}(h:its.toArray[j]?=Aa v):j<ds.length/\∃ x,Rep X.K CL H A0 x (ds.getD j .non)/\BD x v:=by
 have h':its[j]?=Aa v:=by simpa using h
 obtain⟨hj,e⟩:=A7.mp h';obtain⟨x,rx,q⟩:=Jn r rv hj;have l1:=rv.length;have l2:=r.length
 exact⟨by omega,x,rx,by rw[<-e];exact q⟩
theorem Lj{o:CW}(k:∀ b q,b∉[h.objs.size]->(h.push o).get? b=Aa q->h'.get? b=Aa q):∀ b q,h.get? b=Aa q->h'.get? b=Aa q:=fun b q e=>k b q (by
 intro z;have:=BF.mp z;rw[this]at e;exact absurd (AH e) (Bu _)) (Au _ e)
theorem fD(hc:X.calm=Ab):HY X CL W (.builtin "all") (biD .all):=by
  intro A pI s σ H xs us Q I r ⟨hA,ds,rs,p⟩
  match ds,rs,p with
  |[.lst es],rs,p=>
    obtain⟨v,rfl,rv⟩:=rs.one;obtain⟨q,ys,e,_,sq,ry⟩:=rv.plain;subst e;obtain⟨u,rfl,ru⟩:=Hb r;cases ru;rw[lH]at p;cases e1:GC es with
    |bad=>rw[e1]at p;exact p.elim
    |exn x=>
      exfalso
      have:∀(es:Ad D) x,GC es≠.exn x:=by
        intro es
        induction es with
        |nil=>intro x h;cases h
        |cons d ds ih=>
          intro x h;rw[Px]at h;cases e:DZ d with
          |bad=>rw[e]at h;cases h
          |exn y=>cases d<;>cases e
          |ok c=>
            rw[e,R.bind_ok]at h;cases e2:GC ds with
            |bad=>rw[e2]at h;cases h
            |exn y=>exact ih y e2
            |ok c2=>rw[e2]at h;cases h
      exact this es x e1
    |ok b=>
      rw[e1,R.bind_ok]at p;obtain⟨h1,h2⟩:=O5 e1;obtain⟨its,rvv,pl,_⟩:=I.list sq;have hlt:q<s.heap.objs.size:=by obtain⟨o,n,e,_⟩:=pl;exact AH e
      have hl:its.toArray.size=es.length:=by rw[AQ,<-rvv.length,ry.length]
      refine call_all_walk (DG (Hw pl) ⟨s.heap.objs.size,_,_,_,_,_,(fun j=>match DZ (es.getD j .non) with | .ok c=>c|_=>Ac),rfl,JF (A:=X.A.in1) (I.ok.hd hc) s.heap.objs.size q (Bb hlt) its.toArray,⟨⟨_,AO _ rfl,rfl,rfl⟩,(Hw pl).push _⟩,fun j v s' Q' E' hv hQ=>?_,fun h' tk k=>?_⟩)
      · obtain⟨hj,x,rx,qx⟩:=K3 ry rvv hv;obtain⟨c,ec⟩:=h1 j hj;exact Nw rx qx ec (by dsimp only at hQ;rw[ec]at hQ;exact hQ)
      · rw[hl,<-h2];exact⟨.bl b,H,I.kept (Lj k),rfl,p _ H (AE.refl H) rfl⟩
  |[],_,p=>exact p.elim
  |[.non],_,p=>exact p.elim
  |[.bl _],_,p=>exact p.elim
  |[.int _],_,p=>exact p.elim
  |[.str _],_,p=>exact p.elim
  |[.tup _],_,p=>exact p.elim
  |[.obj _ _],_,p=>exact p.elim
  |[.exc _ _],_,p=>exact p.elim
  |[.dic _],_,p=>exact p.elim
  |x::_::_,_,p=>cases x<;>exact p.elim
theorem Q5(hc:X.calm=Ab){es:Ad D}(I:Inv X pI σ H s)(sq:SqL X.K H q ys\/SqT X.K H q ys)(ry:Reps X.K CL H A0 ys es)(p:Bg (fun H=>Rep X.K CL H A) W H ((Fa es).bind fun b=>.ok (.bl b)) Q):Ay (model X.prog X.w) X.A (call (.builtin "any") [.ref q]) (EP X pI σ Q) X.xe s:=by
 cases e1:Fa es with
 |bad=>rw[e1]at p;exact p.elim
 |exn x=>
  exfalso
  clear p
  have:∀(es:Ad D) x,Fa es≠.exn x:=by
   intro es
   induction es with
   |nil=>intro x h;cases h
   |cons d ds ih=>
    intro x h;rw[Pw]at h;cases e:DZ d with
    |bad=>rw[e]at h;cases h
    |exn y=>cases d<;>cases e
    |ok c=>
     rw[e,R.bind_ok]at h;cases e2:Fa ds with
     |bad=>rw[e2]at h;cases h
     |exn y=>exact ih y e2
     |ok c2=>rw[e2]at h;cases h
  exact this es x e1
 |ok b=>
  rw[e1,R.bind_ok]at p;obtain⟨h1,h2⟩:=O4 e1;rcases sq with sq|sq
  ·obtain⟨its,rvv,pl,_⟩:=I.list sq;have hlt:q<s.heap.objs.size:=by obtain⟨o,n,e,_⟩:=pl;exact AH e
   have hl:its.toArray.size=es.length:=by rw[AQ,<-rvv.length,ry.length]
   refine call_any_walk (DG (Hw pl) ⟨s.heap.objs.size,_,_,_,_,_,(fun j=>match DZ (es.getD j .non) with | .ok c=>c|_=>Ac),rfl,JF (A:=X.A.in1) (I.ok.hd hc) s.heap.objs.size q (Bb hlt) its.toArray,⟨⟨_,AO _ rfl,rfl,rfl⟩,(Hw pl).push _⟩,fun j v s' Q' E' hv hQ=>?_,fun h' tk k=>?_⟩)
   ·obtain⟨hj,x,rx,qx⟩:=K3 ry rvv hv;obtain⟨c,ec⟩:=h1 j hj;exact Nw rx qx ec (by dsimp only at hQ;rw[ec]at hQ;exact hQ)
   ·rw[hl,<-h2];exact⟨.bl b,H,I.kept (Lj k),rfl,p _ H (AE.refl H) rfl⟩
  ·obtain⟨its,rvv,pl,_⟩:=I.tuple sq;have pl':s.heap.IsTuple q its.toArray:=pl;have hlt:q<s.heap.objs.size:=by obtain⟨o,e,_⟩:=pl';exact AH e
   have hl:its.toArray.size=es.length:=by rw[AQ,<-rvv.length,ry.length]
   refine call_any_walk (E6 pl' ⟨s.heap.objs.size,_,_,_,_,_,(fun j=>match DZ (es.getD j .non) with | .ok c=>c|_=>Ac),rfl,Vv (A:=X.A.in1) (I.ok.hd hc) s.heap.objs.size q (Bb hlt) its.toArray,⟨⟨_,AO _ rfl,rfl,rfl⟩,pl'.push _⟩,fun j v s' Q' E' hv hQ=>?_,fun h' tk k=>?_⟩)
   ·obtain⟨hj,x,rx,qx⟩:=K3 ry rvv hv;obtain⟨c,ec⟩:=h1 j hj;exact Nw rx qx ec (by dsimp only at hQ;rw[ec]at hQ;exact hQ)
   ·rw[hl,<-h2];exact⟨.bl b,H,I.kept (Lj k),rfl,p _ H (AE.refl H) rfl⟩
theorem fC(hc:X.calm=Ab):HY X CL W (.builtin "any") (biD .any):=by
  intro A pI s σ H xs us Q I r ⟨hA,ds,rs,p⟩
  match ds,rs,p with
  |[.lst es],rs,p=>
    obtain⟨v,rfl,rv⟩:=rs.one;obtain⟨q,ys,e,_,sq,ry⟩:=rv.plain;subst e;obtain⟨u,rfl,ru⟩:=Hb r;cases ru;exact Q5 hc I (.inl sq) ry p
  |[.tup es],rs,p=>
    obtain⟨v,rfl,rv⟩:=rs.one;obtain⟨q,ys,e,_,sq,ry⟩:=rv.plain;subst e;obtain⟨u,rfl,ru⟩:=Hb r;cases ru;exact Q5 hc I (.inr sq) ry p
  |[],_,p=>exact p.elim
  |[.non],_,p=>exact p.elim
  |[.bl _],_,p=>exact p.elim
  |[.int _],_,p=>exact p.elim
  |[.str _],_,p=>exact p.elim
  |[.obj _ _],_,p=>exact p.elim
  |[.exc _ _],_,p=>exact p.elim
  |[.dic _],_,p=>exact p.elim
  |x::_::_,_,p=>cases x<;>exact p.elim
theorem Q0(hc:X.calm=Ab){es:Ad D}(I:Inv X pI σ H s)(sq:SqL X.K H q ys\/SqT X.K H q ys)(ry:Reps X.K CL H A0 ys es)(p:Bg (fun H=>Rep X.K CL H A) W H ((Gn 0 es).bind fun b=>.ok (.int b)) Q):Ay (model X.prog X.w) X.A (call (.builtin "sum") [.ref q]) (EP X pI σ Q) X.xe s:=by
 cases e1:Gn 0 es with
 |bad=>rw[e1]at p;exact p.elim
 |exn x=>
  exfalso
  have:∀(es:Ad D)(a:Af) x,Gn a es≠.exn x:=by
   intro es
   induction es with
   |nil=>intro a x h;cases h
   |cons d ds ih=>
    intro a x h;cases d<;>first|exact ih _ _ h|cases h
  exact this es 0 x e1
 |ok z=>
  rw[e1,R.bind_ok]at p;obtain⟨h1,h2⟩:=Qj es 0 z e1;rw[DO]at h2;rcases sq with sq|sq
  ·obtain⟨its,rvv,pl,_⟩:=I.list sq;have hlt:q<s.heap.objs.size:=by obtain⟨o,n,e,_⟩:=pl;exact AH e
   have hl:its.toArray.size=es.length:=by rw[AQ,<-rvv.length,ry.length]
   refine Vw (DG (Hw pl) ⟨s.heap.objs.size,_,_,_,_,_,(fun j=>match es.getD j .non with | .int i=>i|_=>0),rfl,JF (A:=X.A.in1) (I.ok.hd hc) s.heap.objs.size q (Bb hlt) its.toArray,⟨⟨_,AO _ rfl,rfl,rfl⟩,(Hw pl).push _⟩,fun b hb=>?_,fun j v hv=>?_,fun h' tk t' k=>?_⟩)
   ·show b<(s.heap.push _).objs.size;rw[Cc];rcases AB.mp hb with rfl|hb
    ·exact FK _
    ·rw[BF.mp hb];exact Dd hlt
   ·obtain⟨hj,x,rx,qx⟩:=K3 ry rvv hv;obtain⟨i,ei⟩:=h1 j hj;rw[ei]at rx;dsimp only;rw[ei];cases rx;exact qx
   ·rw[hl,<-h2];exact⟨.int z,H,I.kept (Lj k),⟨_,rfl⟩,p _ H (AE.refl H) rfl⟩
  ·obtain⟨its,rvv,pl,_⟩:=I.tuple sq;have pl':s.heap.IsTuple q its.toArray:=pl;have hlt:q<s.heap.objs.size:=by obtain⟨o,e,_⟩:=pl';exact AH e
   have hl:its.toArray.size=es.length:=by rw[AQ,<-rvv.length,ry.length]
   refine Vw (E6 pl' ⟨s.heap.objs.size,_,_,_,_,_,(fun j=>match es.getD j .non with | .int i=>i|_=>0),rfl,Vv (A:=X.A.in1) (I.ok.hd hc) s.heap.objs.size q (Bb hlt) its.toArray,⟨⟨_,AO _ rfl,rfl,rfl⟩,pl'.push _⟩,fun b hb=>?_,fun j v hv=>?_,fun h' tk t' k=>?_⟩)
   ·show b<(s.heap.push _).objs.size;rw[Cc];rcases AB.mp hb with rfl|hb
    ·exact FK _
    ·rw[BF.mp hb];exact Dd hlt
   ·obtain⟨hj,x,rx,qx⟩:=K3 ry rvv hv;obtain⟨i,ei⟩:=h1 j hj;rw[ei]at rx;dsimp only;rw[ei];cases rx;exact qx
   ·rw[hl,<-h2];exact⟨.int z,H,I.kept (Lj k),⟨_,rfl⟩,p _ H (AE.refl H) rfl⟩
theorem eY(hc:X.calm=Ab):HY X CL W (.builtin "sum") (biD .sum):=by
  intro A pI s σ H xs us Q I r ⟨hA,ds,rs,p⟩
  match ds,rs,p with
  |[.lst es],rs,p=>
    obtain⟨v,rfl,rv⟩:=rs.one;obtain⟨q,ys,e,_,sq,ry⟩:=rv.plain;subst e;obtain⟨u,rfl,ru⟩:=Hb r;cases ru;exact Q0 hc I (.inl sq) ry p
  |[.tup es],rs,p=>
    obtain⟨v,rfl,rv⟩:=rs.one;obtain⟨q,ys,e,_,sq,ry⟩:=rv.plain;subst e;obtain⟨u,rfl,ru⟩:=Hb r;cases ru;exact Q0 hc I (.inr sq) ry p
  |[],_,p=>exact p.elim
  |[.non],_,p=>exact p.elim
  |[.bl _],_,p=>exact p.elim
  |[.int _],_,p=>exact p.elim
  |[.str _],_,p=>exact p.elim
  |[.obj _ _],_,p=>exact p.elim
  |[.exc _ _],_,p=>exact p.elim
  |[.dic _],_,p=>exact p.elim
  |x::_::_,_,p=>cases x<;>exact p.elim
end
section
variable(K:Fg)(CL:ClA)
def lI(H0:Hp)(A:Aj->Prop)(H:Hp)(v:V)(d:D):Prop:=∀ ds,d=.lst ds->∃ a xs,v=.ref a/\H0 a=Ae/\H a=Aa (.lst xs)/\Reps K CL H (fun b=>A b\/b=a) xs ds
def Dq(fr:Ao)(H0:Hp)(A:Aj->Prop)(H:Hp)(v:V)(d:D):Prop:=Rep K CL H A v d/\(fr=Ab->lI K CL H0 A H v d)
end
section
variable{X:Cx}{CL:ClA}{W:XW}{a b c:Ap}{fa fb fc:Rho->R D}{pos:AN}
def SC(X:Cx)(CL:ClA)(W:XW)(fr:Ao)(e:Ap)(f:Rho->R D):Prop:=∀ A,PE X e (fun σ H Q=>AOk H A/\∃ ρ,Good X.K CL A ρ σ H/\Bg (Dq X.K CL fr H A) W H (f ρ) Q)
theorem SC.se{fr:Ao}(h:SC X CL W fr a fa):SE X CL W a fa:=fun A=>PE.weak (h A) fun σ H Q ⟨hA,ρ,g,p⟩=>⟨hA,ρ,g,by
 cases e:fa ρ with
 |ok d=>rw[e]at p;exact fun v H' s r=>p v H' s r.1
 |exn x=>rw[e]at p;exact p
 | bad=>rw[e]at p;exact p⟩
theorem SE.sc(h:SE X CL W a fa):SC X CL W Ac a fa:=fun A=>PE.weak (h A) fun σ H Q ⟨hA,ρ,g,p⟩=>⟨hA,ρ,g,by
 cases e:fa ρ with
 |ok d=>rw[e]at p;exact fun v H' s r=>p v H' s ⟨r,fun z=>nomatch z⟩
 |exn x=>rw[e]at p;exact p
 | bad=>rw[e]at p;exact p⟩
theorem SC.congr{fr:Ao}{f g:Rho->R D}(h:SC X CL W fr a f)(e:∀ ρ,g ρ=f ρ):SC X CL W fr a g:=fun A=>PE.weak (h A) fun σ H Q ⟨hA,ρ,q,p⟩=>⟨hA,ρ,q,by rw[<-e];exact p⟩
theorem JZ{p:Aj}{ds:Ad D}(s:AE H0 H)(hA:AOk H A)(hp:H p=Ae)(r:Reps K CL H A xs ds):Dq K CL Ab H0 A (upd H p (.lst xs)) (.ref p) (.lst ds):=
 ⟨Rj hA hp r,fun _ ds' e=>by
  cases e;exact⟨p,xs,rfl,s.free hp,E8,(Reps.wide (fun a ha=>ha.imp id fun e=>by rw[e];exact hp) _ r).same (FN hp _)⟩⟩
theorem QO{fr:Ao}(r:Rep K CL H A v d)(h:∀ ds,d≠.lst ds):Dq K CL fr H0 A H v d:=⟨r,fun _ ds e=>absurd e (h ds)⟩
theorem aO(hs:SA X CL W es fs)(hz:∀ ρ ds,fs ρ=.ok ds->ds.length<=100000):SC X CL W Ab (.List es pos) (fun ρ=>(fs ρ).bind fun xs=>.ok (.lst xs)):=
 fun A=>PE.weak (eC (hs A)) fun σ H Q ⟨hA,ρ,g,p⟩=>⟨hA,ρ,g,G9.bind p fun ds vs H1 e s1 r1 p1=>⟨by
  rw[r1.length,Ds];have:=hz ρ ds e;omega,fun q hq=>p1 _ _ (FN hq _) (JZ s1 (hA.same s1) hq r1)⟩⟩
theorem Bg.bindF{fr:Ao}{f:D->R D}{Q':VK}(h:Bg (Dq K CL fr H A) W H (r.bind f) Q)(k:∀ d v H',r=.ok d->AE H H'->Rp H' v d->Bg (Dq K CL fr H A) W H' (f d) Q->Q' v H'):Bg Rp W H r Q':=by
 cases r with
 |ok d=>exact fun v H2 s2 q=>k d v H2 rfl s2 q (Bg.same s2 h)
 |exn x=>exact h
 |bad=>exact h
theorem G9.bindF{Rp:Hp->Ad V->Ad D->Prop}{r:R (Ad D)}{f:Ad D->R D}{Q':Ad V->Hp->Prop}(h:Bg Rq W H (r.bind f) Q)(k:∀ d v H',r=.ok d->AE H H'->Rp H' v d->Bg Rq W H' (f d) Q->Q' v H'):G9 Rp W H r Q':=by
 cases r with
 |ok d=>exact fun v H2 s2 q=>k d v H2 rfl s2 q (Bg.same s2 h)
 |exn x=>exact h
 |bad=>exact h
theorem Jr.bindF{r:R (An Af)}{f:An Af->R D}(h:Bg Rq W H (r.bind f) Q)(k:∀ o H',r=.ok o->AE H H'->Bg Rq W H' (f o) Q->Q' o H'):Jr W H r Q':=by
 cases r with
 |ok d=>exact fun H2 s2=>k d H2 rfl s2 (Bg.same s2 h)
 |exn x=>exact h
 |bad=>exact h
theorem iX{lo hi:An Ap}{fl fh:Rho->R (An Af)}(ha:ST X CL W a fa)(hl:SO X CL W lo fl)(hh:SO X CL W hi fh):SC X CL W Ab (.Subscript a (.Slice lo hi Ae p2) pos) (fun ρ=>(fa ρ).bind fun x=>(fl ρ).bind fun l=>(fh ρ).bind fun h=>slD x l h):=
 fun A=>PE.weak (W7 (r:=fun x l h H Q=>Tk X.K x l h H Q\/Tj X.K x l h H Q) (fun pI s σ H x v vl vu lo hi sl Q I rx hs pl pu h=>h.elim (Yd pI s σ H x v vl vu lo hi sl Q I rx hs pl pu) (aR pI s σ H x v vl vu lo hi sl Q I rx hs pl pu)) (ha A) (hl A) (hh A)) fun σ H Q ⟨hA,ρ,g,p⟩=>⟨hA,ρ,g,Bg.bindF p fun dx x H1 _ s1 r1 p1=>⟨hA.same s1,ρ,g.same s1,Jr.bindF p1 fun l H2 _ s2 p2=>⟨(hA.same s1).same s2,ρ,(g.same s1).same s2,Jr.bindF p2 fun h H3 _ s3 p3=>by
  cases dx with
  |lst ds=>
   obtain⟨q,xs,rfl,sq,r⟩:=((r1.same s2).same s3).lst_of;exact .inl ⟨q,xs,rfl,sq,fun t ht=>p3 _ _ (FN ht _) (JZ ((s1.trans s2).trans s3) (((hA.same s1).same s2).same s3) ht (Rc l h r))⟩
  |tup ds=>
   obtain⟨q,xs,rfl,_,sq,r⟩:=((r1.same s2).same s3).tup_of;rw[mF]at p3;split at p3
   ·exact p3.elim
   ·rename_i hw;refine .inr ⟨q,xs,rfl,sq,?_,fun t ht=>p3 _ _ (FN ht _) (QO (JX (((hA.same s1).same s2).same s3) ht (Rc l h r)) (by intro _ z;cases z))⟩
    rintro⟨h1,h2⟩;refine hw ?_;have e:∀ d o,HT.sIx xs.length d o=F9 ds.length d o:=fun d o=>by rw[r.length];cases o<;>rfl
    rw[e]at h1 h2;rw[r.length]at h2;simp[h1,h2]
  | _=>exact p3.elim⟩⟩⟩
noncomputable def OpN(X:Cx)(CL:ClA)(W:XW)(f:Ai->Ai->Sem Ai)(g:D->D->R D):Prop:=
 ∀ A H0,OpR X f (fun x y H Q=>AE H0 H/\AOk H A/\∃ dx dy,CH X.K CL H A x dx/\CH X.K CL H A y dy/\Bg (Dq X.K CL Ab H0 A) W H (g dx dy) Q)
theorem Zp:OpN X CL W (B0 .Add) (Dj .Add):=by
 intro A H0 pI s σ H x y v u Q I rx ry ⟨s0,hA,dx,dy,hx,hy,p⟩;have key:(∀ ds,dx≠.lst ds)->EP X pI σ Q=EP X pI σ Q->Ay (model X.prog X.w) X.A (B0 .Add v u) (EP X pI σ Q) X.xe s:=fun hd _=>by
  refine QD (W:=W) A pI s σ H x y v u Q I rx ry ⟨hA,dx,dy,hx,hy,?_⟩;cases e:Dj .Add dx dy with
  |bad=>rw[e]at p;exact p
  |exn x=>rw[e]at p;exact p
  |ok d=>
   rw[e]at p;refine fun v' H' s' r'=>p v' H' s' (QO r' fun ds z=>?_)
   subst z;cases dx with
   |lst ds=>exact hd _ rfl
   |_=>cases dy<;>first|(cases e;done)|(simp only[Dj]at e;split at e<;>cases e)
 cases dx with
 |lst ds=>
  cases dy with
  |lst es=>
   obtain⟨a,xs,rfl,s1,r1⟩:=hx.lst_of;obtain⟨b,ys,rfl,s2,r2⟩:=hy.lst_of;simp only[Rw]at p;split at p
   ·rename_i h;refine QE pI s σ H _ _ v u Q I rx ry ⟨a,b,xs,ys,rfl,rfl,s1,s2,by rw[r1.length,r2.length];exact JS h,fun q hq=>?_⟩
    exact p _ _ (FN hq _) (JZ s0 hA hq (r1.append r2))
   ·exact p.elim
  |_=>exact p.elim
 |_=>exact key (by intro _ z;cases z) rfl
theorem aQ(ha:ST X CL W a fa)(hb:ST X CL W b fb):SC X CL W Ab (.BinOp a .Add b pos) (fun ρ=>(fa ρ).bind fun x=>(fb ρ).bind fun y=>Dj .Add x y):=
 fun A pI s σ H Q I h=>by
  obtain⟨hA,ρ,g,p⟩:=h;exact SM (Zp (W:=W) A H) (ha A) (hb A) pI s σ H Q I ⟨hA,ρ,g,Bg.bindF p fun dx x H1 _ s1 r1 p1=>⟨hA.same s1,ρ,g.same s1,Bg.bind (Rq:=Dq X.K CL Ab H A) p1 fun dy y H2 _ s2 r2 p2=>⟨s1.trans s2,(hA.same s1).same s2,dx,dy,r1.same s2,r2,p2⟩⟩⟩
def Ta(X:Cx)(CL:ClA)(W:XW)(f:Ai)(g:Ad D->R D):Prop:=∀ A H0,Ha X f (fun xs H Q=>AE H0 H/\AOk H A/\∃ ds,FQ X.K CL H A xs ds/\Bg (Dq X.K CL Ab H0 A) W H (g ds) Q)
theorem ZV:Ta X CL W (.type "list") (biD .list):=by
  intro A H0 pI s σ H xs us Q I r ⟨s0,hA,ds,rs,p⟩
  match ds,rs,p with
  |[.lst es],rs,p=>
    obtain⟨v,rfl,rv⟩:=rs.one;obtain⟨q,ys,rfl,sq,ry⟩:=rv.lst_of;exact OT pI s σ H _ us Q I r ⟨q,ys,rfl,.inl sq,fun l hl=>p _ _ (FN hl _) (JZ s0 hA hl ry)⟩
  |[.tup es],rs,p=>
    obtain⟨v,rfl,rv⟩:=rs.one;obtain⟨q,ys,rfl,_,sq,ry⟩:=rv.tup_of;exact OT pI s σ H _ us Q I r ⟨q,ys,rfl,.inr sq,fun l hl=>p _ _ (FN hl _) (JZ s0 hA hl ry)⟩
  |[],_,p=>exact p.elim
  |[.non],_,p=>exact p.elim
  |[.bl _],_,p=>exact p.elim
  |[.int _],_,p=>exact p.elim
  |[.str _],_,p=>exact p.elim
  |[.obj _ _],_,p=>exact p.elim
  |[.exc _ _],_,p=>exact p.elim
  |[.dic _],_,p=>exact p.elim
  |x::_::_,_,p=>cases x<;>exact p.elim
theorem aP{x:Ah}{g:Ad D->R D}(hc:Ta X CL W (.type T) g)(hg:Gl X x)(hm:X.mg x=Ae)(hv:CY x=Aa (.type T))(ha:SAT X CL W (e::es) fs)(hn:x≠"__name__")(hdb:(x==("__debug__" : Ah))=Ac)(he:Az (e::es) X.env=(Ac,eval e X.env)::Az es X.env)(hpl:∀ pos,(B8 pos (Az es X.env)).any (·.1)=Ac):SC X CL W Ab (.Call (.Name x p) (e::es) [] pos) (fun ρ=>(fs ρ).bind g):=fun A pI s σ H Q I ⟨hA,ρ,gd,q⟩=>
 Pd (hc A H) hg hm hv (ha A) hn hdb he (hpl _) pI s σ H Q I ⟨hA,ρ,gd,G9.bindF q fun ds vs H1 _ s1 r1 p1=>⟨s1,hA.same s1,ds,r1,p1⟩⟩
mutual
theorem Oj{K:Fg}{H:Hp}{A:Aj->Prop}(hA:AOk H A):∀(n:Ag)(d:D){v:V},nlD n d=Ab->Rep K CL H A0 v d->Rep K CL H A v d
 |_,.non,_,_,h=>h
 |_,.bl _,_,_,h=>h
 |_,.int _,_,_,h=>h
 |_,.str _,_,_,h=>h
 |0,.tup _,_,hn,_=>by cases hn
 |n+1,.tup ds,_,hn,h=>by
  obtain⟨a,xs,e,_,s,r⟩:=h;refine⟨a,xs,e,?_,s,nls_up hA n ds hn r⟩;rcases s with s|s
  ·refine .inl fun z=>?_
   obtain⟨ys,q⟩:=hA a z;rcases s with s|⟨o,s⟩<;>rw[q]at s<;>cases s
  ·exact .inr s
 |n,.lst _,_,hn,_=>by cases n<;>cases hn
 |n,.obj _ _,_,hn,_=>by cases n<;>cases hn
 |n,.exc _ _,_,hn,_=>by cases n<;>cases hn
 |n,.dic _,_,hn,_=>by cases n<;>cases hn
theorem nls_up{K:Fg}{H:Hp}{A:Aj->Prop}(hA:AOk H A):∀(n:Ag)(ds:Ad D){vs:Ad V},ds.all (nlD n)=Ab->Reps K CL H A0 vs ds->Reps K CL H A vs ds
 |_,[],[],_,h=>h
 |n,d::ds,_::_,hn,h=>by
  simp only[FC,Ak]at hn;exact⟨Oj hA n d hn.1 h.1,nls_up hA n ds hn.2 h.2⟩
 |_,[],_::_,_,h=>h.elim
 |_,_::_,[],_,h=>h.elim
end
theorem N2{fr:Ao}(hA0:AOk H0 A)(s:AE H0 H)(hc:Ft fr d=Ab)(r:Dq K CL fr H0 A0 H v d):Dq K CL fr H0 A H v d:=by
 have hA:=hA0.same s;cases d with
 |lst ds=>
  have hc':(fr&&ds.all (nlD 5))=Ab:=hc;rw[Ak]at hc';obtain⟨a,xs,e,h0,h1,rs⟩:=r.2 hc'.1 ds rfl;have hA2:AOk H (fun b=>A b\/b=a):=fun b hb=>hb.elim (hA b) fun e=>by rw[e];exact⟨xs,h1⟩
  have rs':=nls_up hA2 5 ds hc'.2 (Reps.sub (fun _ z=>z.elim) _ rs)
  refine⟨⟨a,xs,e,.inl (hA0.new h0),SqL.of h1,Reps.sub (fun _ z=>.inl z) _ rs'⟩,fun _ ds' e'=>?_⟩
  cases e';exact⟨a,xs,e,h0,h1,rs'⟩
 |_=>exact⟨Oj hA 5 _ hc r.1,fun _ _ z=>nomatch z⟩
def spD(K:Fg)(CL:ClA)(n:Ag)(fr:Ao)(F:Ad D->R D):Sp:=fun vs H Q E=>∃(ds:Ad D)(A:Aj->Prop),vs.length=n/\AOk H A/\Reps K CL H A vs ds/\(match F ds with
  |.ok d=>∀ v H',AE H H'->Dq K CL fr H A H' v d->Q v H'
  |.exn x=>∀ cls dx H',AE H H'->FP K CL H' cls dx x->E cls dx H'
  | .bad=>AU)
def EKW(K:Fg)(CL:ClA)(A:Aj->Prop)(W:XW):XK:=fun cls dx H'=>∃ x,FP K CL H' cls dx x/\W x H'
theorem FQ.plain{K:Fg}{H:Hp}{A:Aj->Prop}:∀{vs:Ad V}{ds:Ad D},FQ K CL H A vs ds->Reps K CL H A0 vs ds
 |[],[],h=>trivial
 |_::_,_::_,h=>⟨h.1.plain,FQ.plain h.2⟩
 |[],_::_,h=>h.elim
 |_::_,[],h=>h.elim
theorem Yk{CX:CXT}{fr:Ao}{f:Aj}{fd:BP}{ps:Ad Ah}{F:Ad D->R D}{x:Ah}{ft:Rho->R (Ad D)}{sh:Rho->Ao}(G:FnOk X.prog X.w X.K X.mg X.base CX k f fd ps (spD X.K CL n fr F))(hr:Room k X.A)(hg:Gl X x)(hm:X.mg x=Aa (.ref f))(hk:B1 X.K (.ref f)=Ab)(hb:Fq X.K fd ps [])(hx:∀ A,Ke CX X (EKW X.K CL A W))(ha:SA X CL W (e::es) fs)(hat:SAT X CL W (e::es) ft)(hst:∀ ρ,sh ρ=Ab->ft ρ=fs ρ)(hn:∀ ρ ds,ft ρ=.ok ds->ds.length=n)(hdb:(x==("__debug__" : Ah))=Ac)(he:Az (e::es) X.env=(Ac,eval e X.env)::Az es X.env)(hpl:∀ pos,(B8 pos (Az es X.env)).any (·.1)=Ac):SC X CL W fr (.Call (.Name x p) (e::es) [] pos) (fun ρ=>(ft ρ).bind fun ds=>(F ds).bind fun d=>if sh ρ=Ab then .ok d else if Ft fr d=Ab then .ok d else .bad):=fun A pI s σ H Q I ⟨hA,ρ,gd,q⟩=>by
 dsimp only at q;by_cases hs:sh ρ=Ab
 ·rw[hst ρ hs]at q;refine QA G hr hg hm hk hb .nil (hx A) (ha A) hdb he (hpl _) pI s σ H Q I ⟨hA,ρ,gd,?_⟩;cases e1:fs ρ with
  |bad=>rw[e1]at q;exact q
  |exn y=>rw[e1]at q;exact q
  |ok ds=>
   rw[e1]at q;intro vs H1 s1 r1;refine⟨ds,A,by rw[Ce,r1.length];exact hn ρ ds (by rw[hst ρ hs];exact e1),hA.same s1,by rw[Ce];exact r1,?_⟩
   have q':Bg (Dq X.K CL fr H A) W H ((F ds).bind fun d=>if sh ρ=Ab then .ok d else if Ft fr d=Ab then .ok d else .bad) Q:=q
   cases e2:F ds with
   |ok d=>
    rw[e2,R.bind_ok,Aw hs]at q';exact fun v H2 s2 r2=>q' v H2 (s1.trans s2) ⟨r2.1,fun z ds' e'=>let ⟨a,xs,z1,z2,z3⟩:=r2.2 z ds' e';⟨a,xs,z1,s1.free z2,z3⟩⟩
   |exn y=>rw[e2]at q';exact fun cls dx H2 s2 xr=>⟨y,xr,q' H2 (s1.trans s2)⟩
   |bad=>rw[e2]at q';exact q'.elim
 ·refine QA G hr hg hm hk hb .nil (hx A0) (hat A) hdb he (hpl _) pI s σ H Q I ⟨hA,ρ,gd,?_⟩;cases e1:ft ρ with
  |bad=>rw[e1]at q;exact q
  |exn y=>rw[e1]at q;exact q
  |ok ds=>
   rw[e1]at q;intro vs H1 s1 r1;refine⟨ds,A0,by rw[Ce,r1.plain.length];exact hn ρ ds e1,fun _ z=>z.elim,by rw[Ce];exact r1.plain,?_⟩
   have q':Bg (Dq X.K CL fr H A) W H ((F ds).bind fun d=>if sh ρ=Ab then .ok d else if Ft fr d=Ab then .ok d else .bad) Q:=q
   cases e2:F ds with
   |ok d=>
    rw[e2,R.bind_ok,AA hs]at q';split at q'
    ·rename_i hc;exact fun v H2 s2 r2=>q' v H2 (s1.trans s2) (N2 hA (s1.trans s2) hc ⟨r2.1,fun z ds' e'=>let ⟨a,xs,z1,z2,z3⟩:=r2.2 z ds' e';⟨a,xs,z1,s1.free z2,z3⟩⟩)
    ·exact q'.elim
   |exn y=>rw[e2]at q';exact fun cls dx H2 s2 xr=>⟨y,xr,q' H2 (s1.trans s2)⟩
   |bad=>rw[e2]at q';exact q'.elim
end
theorem MS(env:B5):∀(ns:Ad (Ah×DT))(acc:Ad (Ah×Aj)),(∀ x∈ns,x.2=.free->∃ c,env.cells.lookup x.1=Aa c)->(∀ x c,acc.lookup x=Aa c->env.cells.lookup x=Aa c) ->
  ∃ cl,(forIn ns acc fun(x:Ah×DT)(cs:Ad (Ah×Aj))=>(if (x.2==.free)=Ab then do let c <-cellOf env x.1;pure (D3 ((x.1,c)::cs)) else pure (D3 cs):Sem (ForInStep (Ad (Ah×Aj)))))=pure cl /\
   (∀ x c,cl.lookup x=Aa c->env.cells.lookup x=Aa c)/\(∀ x,((x,DD)∈ns\/∃ c,acc.lookup x=Aa c)->∃ c,cl.lookup x=Aa c)
 |[],acc,_,h2=>⟨acc,by rw[Ge],h2,fun x hx=>hx.elim (fun z=>nomatch z) id⟩
 |(n,k)::r,acc,h1,h2=>by
  rw[Hj];by_cases hk:k=.free
  ·subst hk;obtain⟨c,hc⟩:=h1 (n,.free) AI rfl;obtain⟨cl,e,p,q⟩:=MS env r ((n,c)::acc) (fun x hx=>h1 x (Ax _ hx)) (fun x d hd=>by
    rw[B4]at hd;split at hd
    ·rename_i hx;cases hd;rw[eq_of_beq hx];exact hc
    ·exact h2 x d hd)
   refine⟨cl,?_,p,fun x hx=>q x ?_⟩
   ·have e1:cellOf env n=pure c:=by unfold cellOf;dsimp only at hc;rw[hc]
    rw[Aw (by rfl),e1]
    exact e
   ·rcases hx with hx|⟨d,hd⟩
    ·rcases AB.mp hx with z|z
     ·cases z;exact .inr ⟨c,by simp[B4]⟩
     ·exact .inl z
    ·by_cases hxn:x=n
     ·exact .inr ⟨c,by subst hxn;simp[B4]⟩
     ·exact .inr ⟨d,by rw[B4];rw[Dm.mpr hxn];exact hd⟩
  ·obtain⟨cl,e,p,q⟩:=MS env r acc (fun x hx=>h1 x (Ax _ hx)) h2
   refine⟨cl,?_,p,fun x hx=>q x ?_⟩
   ·rw[AA (by simpa using hk)]
    exact e
   ·rcases hx with hx|hx
    ·rcases AB.mp hx with z|z
     ·cases z;exact absurd rfl hk
     ·exact .inl z
    ·exact .inr hx
theorem Ps(h:∀ x∈scope.names,x.2=.free->∃ c,env.cells.lookup x.1=Aa c):∃ cl,closureFor scope env=pure cl/\(∀ x c,cl.lookup x=Aa c->env.cells.lookup x=Aa c)/\∀ x,(x,DD)∈scope.names->∃ c,cl.lookup x=Aa c:=by
 obtain⟨cl,e,p,q⟩:=MS env scope.names [] h (fun x c z=>by simp at z)
 refine⟨cl,?_,p,fun x hx=>q x (.inl hx)⟩
 unfold closureFor
 first
  |exact e
  |(simp only[bind_pure];exact e)
  |(rw[show (forIn scope.names ([]:Ad (Ah×Aj)) _:Sem _)=pure cl from e];rfl)
theorem M2:∀(names:Ad (Ah×DT))(h:AD)(acc:Ad (Ah×Aj))(x:Ah)(c:Aj),(CF h.objs.size names acc).lookup x=Aa c->acc.lookup x=Aa c\/((x,BQ)∈names/\h.objs.size<=c/\(Gw h names).IsCell c Ae)
 |[],_,_,_,_,e=>.inl e
 |(n,k)::r,h,acc,x,c,e=>by
  unfold CF at e;unfold Gw;by_cases hk:(k==BQ)=Ab
  ·rw[Aw hk]at e ⊢;have hs:h.objs.size+1=(h.push { cls:=.type "cell", data:=.cell Ae }).objs.size:=(Cc ..).symm;rw[hs]at e;rcases M2 r _ _ x c e with q|⟨q1,q2,q3⟩
   ·rw[B4]at q;cases hx:x==n with
    |true=>
     rw[hx]at q;cases q;refine .inr ⟨?_,AY _,?_⟩
     ·rw[eq_of_beq hx,eq_of_beq hk];exact AI
     ·exact⟨_,Hq r _ _ _ (AO _ rfl),rfl⟩
    |false=>rw[hx]at q;exact .inl q
   ·exact .inr ⟨Ax _ q1,by omega,q3⟩
  ·rw[AA hk]at e ⊢;rcases M2 r h acc x c e with q|⟨q1,q2,q3⟩
   ·exact .inl q
   ·exact .inr ⟨Ax _ q1,q2,q3⟩
theorem M3:∀(names:Ad (Ah×DT))(h:AD)(acc:Ad (Ah×Aj)),(∀ x y c,acc.lookup x=Aa c->acc.lookup y=Aa c->x=y)->(∀ x c,acc.lookup x=Aa c->c<h.objs.size)->∀ x y c,(CF h.objs.size names acc).lookup x=Aa c->(CF h.objs.size names acc).lookup y=Aa c->x=y
 |[],_,_,i,_,x,y,c,e1,e2=>i x y c e1 e2
 |(n,k)::r,h,acc,i,b,x,y,c,e1,e2=>by
  unfold CF at e1 e2;by_cases hk:(k==BQ)=Ab
  ·rw[Aw hk]at e1 e2;have hs:h.objs.size+1=(h.push { cls:=.type "cell", data:=.cell Ae }).objs.size:=(Cc ..).symm;rw[hs]at e1 e2;have look:∀ z d,Fv z ((n,h.objs.size)::acc)=Aa d->(z=n/\d=h.objs.size)\/(z≠n/\acc.lookup z=Aa d):=fun z d q=>by
    rw[B4]at q;cases hx:z==n with
    |true=>rw[hx]at q;cases q;exact .inl ⟨eq_of_beq hx,rfl⟩
    |false=>rw[hx]at q;exact .inr ⟨fun e=>by rw[e]at hx;simp at hx,q⟩
   refine M3 r _ _ (fun z z' d q q'=>?_) (fun z d q=>?_) x y c e1 e2
   ·rcases look z d q with ⟨rfl,q1⟩|⟨_,q1⟩<;>rcases look z' d q' with ⟨rfl,q2⟩|⟨_,q2⟩
    ·rfl
    ·exact absurd (b _ _ q2) (by rw[q1];exact Bu _)
    ·exact absurd (b _ _ q1) (by rw[q2];exact Bu _)
    ·exact i _ _ _ q1 q2
   ·rw[<-hs];rcases look z d q with ⟨_,q1⟩|⟨_,q1⟩
    ·rw[q1];exact FK _
    ·exact Dd (b _ _ q1)
  ·rw[AA hk]at e1 e2;exact M3 r h acc i b x y c e1 e2
theorem MT:∀(names:Ad (Ah×DT))(n:Ag)(acc:Ad (Ah×Aj))(x:Ah),(x,BQ)∉names->(CF n names acc).lookup x=acc.lookup x
 |[],_,_,_,_=>rfl
 |(m,k)::r,n,acc,x,hx=>by
  unfold CF;have hr:(x,BQ)∉r:=fun z=>hx (Ax _ z)
  by_cases hk:(k==BQ)=Ab
  ·rw[Aw hk,MT r _ _ x hr,B4];cases q:x==m with
   |true=>exact absurd (by rw[eq_of_beq q,eq_of_beq hk];exact AI) hx
   |false=>rfl
  ·rw[AA hk];exact MT r n acc x hr
theorem M4(n0:Ag):∀(names:Ad (Ah×DT))(n:Ag)(acc:Ad (Ah×Aj))(x:Ah),n0<=n->((x,BQ)∈names\/∃ c,acc.lookup x=Aa c/\n0<=c)->∃ c,(CF n names acc).lookup x=Aa c/\n0<=c
 |[],_,_,_,_,h=>h.elim (fun z=>nomatch z) id
 |(m,k)::r,n,acc,x,hn,h=>by
  unfold CF;by_cases hk:(k==BQ)=Ab
  ·rw[Aw hk];refine M4 n0 r _ _ x (by omega) ?_
   by_cases hx:(x==m)=Ab
   ·exact .inr ⟨n,by rw[B4,hx],hn⟩
   ·rcases h with h|⟨c,h,hc⟩
    ·rcases AB.mp h with z|z
     ·cases z;simp at hx
     ·exact .inl z
    ·exact .inr ⟨c,by rw[B4];simp only[hx];exact h,hc⟩
  ·rw[AA hk];refine M4 n0 r _ _ x hn (h.imp (fun h=>?_) id)
   rcases AB.mp h with z|z
   ·cases z;simp at hk
   ·exact z
theorem VM{M:Gp}{A:AZ}{E:Vq}{globals:Aj}{qual:Ah}{Q:B5->As->Prop}(hQ:Q (newEnv scope s.heap.objs.size globals (CF (s.heap.objs.size+1) scope.names cl) qual Ae .none (Aa env) HP) { s with heap:=Gw (s.heap.push { cls:=.type "dict", data:=.dict #[] }) scope.names }):Ay M A (HJ scope globals cl [] qual Ae .none (Aa env)) Q E s:=by
 simp only[HJ,Option.isSome_some,Ep];refine Am (wpAny_alloc ?_);refine Am (wpAny_layCells _ (fun name kind cells=>by cases hkc:kind==BQ<;>simp[hkc]) _ _ _ _ ?_)
 rw[show ({ s with heap:=s.heap.push { cls:=.type "dict", data:=.dict #[] } }:As).heap.objs.size=s.heap.objs.size+1 from Cc ..]
 rw[Ge];exact Am (AK (AK hQ))
noncomputable def cxC(X:Cx)(scope:B9)(cl:Ad (Ah×Aj))(C:Aj)(N':Ad Ah)(s₀:As)(H₀:Hp)(fp:Ad Aj):Cx where
 prog:=X.prog
 w:=X.w
 K:=X.K
 mg:=X.mg
 base:=X.base
 A:=X.A
 N:=N'
 s₀:=s₀
 H₀:=H₀
 env:=compEnvC scope cl C X.env
 outer:=X.stack
 stack:=X.stack
 ex:=fp
 fn:=fun x=>scope.names.lookup x==Aa BQ
 calm:=X.calm
 pn:=[]
 xe:=fun _ _=>AU
theorem Ls{env:B5}:∀{names:Ad (Ah×DT)}{x:Ah}{k:DT},(names.map fun (n,k)=>if (k==DD&&env.scope.kind==.function&&env.kindOf n==Aa .cell) then (n,BQ) else (n,k)).lookup x=Aa k->names.lookup x=Aa k\/(k=.cell/\names.lookup x=Aa .free)
 |[],_,_,h=>by simp at h
 |(n,j)::r,x,k,h=>by
  have ih:=@Ls env r x k;have h':Fv x ((if (j==DD&&env.scope.kind==.function&&env.kindOf n==Aa .cell)=Ab then (n,BQ) else (n,j))::(r.map fun (n,k)=>if (k==DD&&env.scope.kind==.function&&env.kindOf n==Aa .cell) then (n,BQ) else (n,k)))=Aa k:=h
  by_cases hc:(j==DD&&env.scope.kind==.function&&env.kindOf n==Aa .cell)=Ab
  ·rw[Aw hc]at h';rw[B4]at h' ⊢;cases hx:x==n with
   |true=>
    rw[hx]at h';cases h';simp only[Ak]at hc;exact .inr ⟨rfl,by rw[eq_of_beq hc.1.1]⟩
   |false=>rw[hx]at h';exact ih h'
  ·rw[AA hc]at h';rw[B4]at h' ⊢;cases hx:x==n with
   |true=>rw[hx]at h';exact .inl h'
   |false=>rw[hx]at h';exact ih h'
structure BlockOk (X:Cx) (scope:B9) (N':Ad Ah) (ts:Ad Ag):Prop where
 kind:scope.kind=.function
 uniq:∀ y∈scope.names,scope.names.lookup y.1=Aa y.2
 names:∀ y∈scope.names,y.2=.local->scope.names.lookup y.1=Aa .local
 free:∀ y∈scope.names,y.2=.free->X.env.scope.names.lookup y.1=Aa .cell\/X.env.scope.names.lookup y.1=Aa .free
 len:N'.length=X.N.length
 same:∀ i x,N'[i]?=Aa x->scope.names.lookup x=Aa .free->i∉ts->X.N[i]?=Aa x
 loc:∀ i x,N'[i]?=Aa x->(scope.names.lookup x=Aa .local\/scope.names.lookup x=Aa .cell)->i∈ts
structure BCells (X:Cx) (scope:B9) (cl:Ad (Ah×Aj)) (C:Aj) (h:AD):Prop where
 own:∀ x c,cl.lookup x=Aa c->X.env.cells.lookup x=Aa c\/(scope.names.lookup x=Aa .cell/\C<c/\h.IsCell c Ae)
 inj:∀ x y c,cl.lookup x=Aa c->cl.lookup y=Aa c->x=y
 has:∀ x,scope.names.lookup x=Aa .cell->∃ c,cl.lookup x=Aa c/\C<c
 fr:∀ x,(x,DD)∈scope.names->∃ c,cl.lookup x=Aa c/\X.env.cells.lookup x=Aa c
section
variable{X:Cx}{pI:Pn}{σ:L2.St}{H:Hp}{s:As}
noncomputable def hideT(ts:Ad Ag)(σ:L2.St):L2.St:=ts.foldl (fun σ t=>σ.set t Ae) σ
theorem Nc:∀(ts:Ad Ag)(σ:L2.St),(hideT ts σ).length=σ.length
 |[],_=>rfl
 |t::ts,σ=>by show (hideT ts (σ.set t Ae)).length=_;rw[Nc ts,A2]
theorem PH:∀(ts:Ad Ag)(σ:L2.St){i:Ag}{v:V},(hideT ts σ)[i]?=Aa (Aa v)->σ[i]?=Aa (Aa v)/\i∉ts
 |[],_,_,_,h=>⟨h,by simp⟩
 |t::ts,σ,i,v,h=>by
  obtain⟨h1,h2⟩:=PH ts (σ.set t Ae) (i:=i) (v:=v) h;by_cases e:t=i
  ·subst e;have:=Gh h1;cases this
  ·rw[B7 e]at h1;exact⟨h1,by simp only[AB,Dz];exact⟨fun z=>e z.symm,h2⟩⟩
theorem VT{tk:Ag}{C:Aj}{m:Ah->An Ai}(I:Inv X pI σ H s)(B:BlockOk X scope N' ts)(hf:∀ b∈fp,Go X pI H b)(hfo:∀ b∈fp,b<s.heap.objs.size)(hb:BCells X scope cl C h')(hk:∀ b o,s.heap.get? b=Aa o->h'.get? b=Aa o)(hC:s.heap.objs.size<=C)(hn:h'.Ns C m):Inv (cxC X scope cl C N' s H fp) [] (hideT ts σ) H {s with heap:=h',toks:=tk}:=by
 have stf:∀ b∈fp,b∉frs X.stack:=fun b hb z=>by
  rcases AB.mp (I.stkSub b z) with e|e
  ·exact(hf b hb).2.1 e
  ·exact(hf b hb).2.2.1 e
 have frOf:∀ x,((relabel scope X.env).names.lookup x=Aa .cell\/(relabel scope X.env).names.lookup x=Aa .free)->scope.names.lookup x=Aa .free\/scope.names.lookup x=Aa .cell:=fun x hx=>by
  rcases hx with z|z
  ·rcases Ls z with z|⟨_,z⟩
   ·exact .inr z
   ·exact .inl z
  ·rcases Ls z with z|⟨z,_⟩
   ·exact .inl z
   ·cases z
 have gtC:∀ c:Aj,C<c->s.heap.objs.size<=c:=fun c z=>Co hC (FY z)
 have cellK:∀ c v,s.heap.IsCell c v->h'.IsCell c v:=fun c v ⟨o,ho,hd⟩=>⟨o,hk _ _ ho,hd⟩
 refine⟨⟨I.ok.mod,B.kind,I.ok.glob,I.ok.blt,hC,hb.inj,fun x hx=>?_,fun x c h e=>?_,I.ok.hd,I.ok.frames,.inl rfl,fun b hbb=>⟨?_,fun x c e=>?_⟩,I.bs,Co I.ok.bsz I.sz,fun b o e hbb=>?_,stf,I.stack,I.stkFree⟩,rfl,I.bare,Un.kept hk,⟨m,hn,fun i x v h1 h2 h3=>?_⟩,fun x c e=>?_,I.hok.fresh hC,fun x c e=>(hb.own x c e).elim (I.freeC x c) (fun z=>I.hok.fresh (gtC c z.2.1)),fun p hp=>absurd (show p∈([]:Pn) from hp) (by simp),I.hok.kept hk,?_⟩
 ·rcases frOf x hx with z|z
  ·obtain⟨c,q,_⟩:=hb.fr x (Cv z);exact⟨c,q⟩
  ·obtain⟨c,q,_⟩:=hb.has x z;exact⟨c,q⟩
 ·obtain⟨c',q,z⟩:=hb.has x (eq_of_beq h);have e':cl.lookup x=Aa c:=e;rw[q]at e';cases e';exact gtC _ z
 ·intro z;have z':b=C:=z;have:=hfo b hbb;rw[z']at this;exact absurd (AR this hC) (Bu _)
 ·rcases hb.own x c e with z|z
  ·exact(hf b hbb).2.2.2.2.1 x c z
  ·intro q;have:=hfo b hbb;have:=gtC c z.2.1;rw[q]at this;exact absurd ‹b<_› (UI.mpr this)
 ·rcases (hf b hbb).2.2.2.1 with z|z
  ·exact I.ok.noex b o e z
  ·exact absurd (AR (AH e) (Co I.ok.bsz z)) (Bu _)
 ·obtain⟨h2,hts⟩:=PH ts σ h2;have h3':(relabel scope X.env).names.lookup x=Aa .local\/(relabel scope X.env).names.lookup x=Aa .cell\/(relabel scope X.env).names.lookup x=Aa .free:=h3;have h1':N'[i]?=Aa x:=h1;rcases h3' with z|z
  ·rcases Ls z with z|⟨z,_⟩
   ·exact absurd (B.loc i x h1' (.inl z)) hts
   ·cases z
  ·have fr:=(frOf x z).resolve_right fun q=>hts (B.loc i x h1' (.inr q))
   have hm:=Cv fr;have hX:=B.same i x h1' fr hts;obtain⟨m0,hn0,hl0⟩:=I.loc;obtain⟨u,ru,lk⟩:=hl0 i x v hX h2 (by
    rcases B.free _ hm rfl with q|q
    ·exact .inr (.inl q)
    ·exact .inr (.inr q))
   refine⟨u,ru,?_⟩;obtain⟨c,hc,hcX⟩:=hb.fr x hm;rcases lk with ⟨q,_⟩|⟨_,c',hc',hcell⟩
   ·have q':X.env.scope.names.lookup x=Aa .local:=q;rcases B.free _ hm rfl with p|p
    ·rw[show X.env.scope.names.lookup x=_ from p]at q';cases q'
    ·rw[show X.env.scope.names.lookup x=_ from p]at q';cases q'
   ·have e:=hcX;rw[hc']at e;cases e;exact .inr ⟨z,c,hc,cellK _ _ hcell⟩
 ·rcases hb.own x c e with z|z
  ·obtain⟨v,q⟩:=I.cell x c z;exact⟨v,cellK _ _ q⟩
  ·exact⟨_,z.2.2⟩
 ·show (hideT ts σ).length=N'.length;rw[Nc,I.len,B.len]
theorem PR{C D:Aj}{s':As}{σ':L2.St}{pins':Pn}{h'':AD}{ys:Ad Ai}(I:Inv X pI σ H s)(hf:∀ b∈fp,Go X pI H b)(I':Inv (cxC X scope cl C N' s H fp) pins' σ' H' s')(hD:s.heap.objs.size<=D)(hDC:D≠C)(hC:s.heap.objs.size<=C)(hd:s'.heap.get? D=Aa { cls:=.type "list", data:=.seq ys.toArray n })(hDn:H' D=Ae)(rv:Bf xs ys)(hz:xs.length<=sizeLine)(hs:Ei C s'.heap h''):Inv X pI σ (upd H' D (.lst xs)) {s' with heap:=h''}:=by
  have u:Un (frs X.stack) fp H H' s.heap s'.heap:=I'.base;have lt:∀ b o,s.heap.get? b=Aa o->b≠C/\b≠D:=fun b o e=>⟨fun z=>absurd (AR (AH e) (z ▸ hC)) (Bu _),fun z=>absurd (AR (AH e) (z ▸ hD)) (Bu _)⟩
  have HD:H D=Ae:=I.hok.fresh hD;have hCn:H' C=Ae:=I'.free;have kb:∀ b o,b≠C->s'.heap.get? b=Aa o->h''.get? b=Aa o:=fun b o hb e=>(hs.2 b hb).trans e
  have u2:Un (frs X.stack) fp H (upd H' D (.lst xs)) s.heap h'':=⟨fun b o e q hb hx=>kb b o (lt b o e).1 (u.keep b o e q hb hx),fun b o e q hb hx=>by
      obtain⟨sl,e1⟩:=u.slot b o e q hb hx;exact⟨sl,kb b _ (lt b o e).1 e1⟩,fun b o e q hx=>by rw[By (lt b o e).2];exact u.free b o e q hx,fun b o e hx=>by
      obtain⟨o',e1⟩:=u.there b o e hx;exact⟨o',kb b _ (lt b o e).1 e1⟩,fun b zs q=>by rw[By (Fp q HD)];exact u.tups b zs q,fun b o zs q=>by rw[By (Fp q HD)];exact u.frzs b o zs q,fun b ps q=>by rw[By (Fp q HD)];exact u.tbls b ps q⟩
  have hok:HOk X.prog X.w (upd H' D (.lst xs)) h'':=fun b o e=>by
    by_cases hb:b=D
    · subst hb;rw[E8]at e;cases e;exact⟨hz,ys,n,rv,kb _ _ hDC hd⟩
    · rw[By hb]at e;refine(I'.hok b o e).stay (fun c v hc q=>kb c v ?_ q) (fun c q=>by rw[By (Fp q hDn)];exact q) fun c zs q=>by rw[By (Fp q hDn)];exact q
      rcases hc with rfl|hc
      · exact Fp e hCn
      · exact Fp hc hCn
  exact I.call' (s':={s' with heap:=h''}) (ch:=fp) I'.os u2 hok I'.bare fun b hb=>⟨(hf b hb).2.2.2.1,(hf b hb).2.1,(hf b hb).2.2.2.2.1,(hf b hb).2.2.2.2.2⟩
end
def PTs(X:Cx)(ifs:Ad Ap)(tt:TT):Prop:=∀(pI:Pn)(s:As)(σ:L2.St)(H:Hp)(Q:Ao->Hp->Prop),Inv X pI σ H s->tt σ H Q ->
 Ay (model X.prog X.w) X.A (forIn ifs Ab fun c r=>if r=Ab then do let ok <-HI c X.env (eval c X.env);pure (D3 ok) else pure (D3 r)) (TP X pI σ Q) X.xe s
theorem Zd:PTs X [] (fun σ H Q=>Q Ab H):=fun pI s σ H Q I h=>wpAny_tests_nil ⟨H,I,h⟩
theorem Zc{t:TT}(h:PT X c t):PTs X [c] t:=fun pI s σ H Q I q=>wpAny_tests_one (h pI s σ H Q I q)
theorem V2{D:Aj}{ys:Ad Ai}{y:Ai}{E:Vq}{Q:Vq}(I:Inv X ((D,{ cls:=.type "list", data:=.seq ys.toArray n })::pI) σ H s)(hD:X.s₀.heap.objs.size<=D)(hp:∀ p∈X.pn++pI,p.1≠D)(hc:∀ x c,X.env.cells.lookup x=Aa c->c≠D)(hz:ys.length<=sizeLine)(h:∀ s',Inv X ((D,{ cls:=.type "list", data:=.seq (ys++[y]).toArray (n+1) })::pI) σ H s'->(∀ b o,b≠D->s.heap.get? b=Aa o->s'.heap.get? b=Aa o)->Q .none s'):Ay (model X.prog X.w) X.A (call (.builtin "list.append") [.ref D,y]) Q E s:=by
 obtain⟨e,hn,hL,hfs,_⟩:=I.pin (D,{ cls:=.type "list", data:=.seq ys.toArray n }) (Bq _ AI);refine append_at (hsz:=by rw[AQ];exact hz) e fun h' hs hd=>?_
 have hd':h'.get? D=Aa { cls:=.type "list", data:=.seq (ys++[y]).toArray (n+1) }:=by rw[hd];simp
 have kb:∀ b o,b≠D->s.heap.get? b=Aa o->h'.get? b=Aa o:=fun b o hb q=>(hs.2 b hb).trans q
 have I0:Inv X pI σ H s:=I.pins_of fun p hp=>I.pin p (Bq _ (Ax _ hp))
 have I1:Inv X pI σ H {s with heap:=h'}:=I0.turned (t':=s.toks) kb hn hL (.inr hD) hc hp
 refine h _ (I1.pins_of fun p hp=>?_) kb
 rcases AB.mp hp with rfl|hp
 ·exact⟨hd',hn,hL,hfs,fun v z=>by
   have z':Kz _ _=Kv v:=z;cases z'⟩
 ·exact I1.pin p (Bq _ hp)
section
variable{prog:AS}{w:AC}{A:AZ}{R:Ir->As->Prop}{s:As}
theorem VS{target:Ap}{it acc:Ai}(I:Ag->As->Prop)(turn:∀ n s,I n s->Ay (model prog w) A (HL it) (fun r s₁=>match r with
      |none=>R (.ok .next) s₁
      | some v=>Ay (model prog w) A (F5 target it v) (fun _ s₁'=>Ay (model prog w) A (assign target env v) (fun _ s₂=>
          Ay (model prog w) A (forIn ifs Ab fun c r=>if r=Ab then do let ok <-HI c env (eval c env);pure (D3 ok) else pure (D3 r)) (fun ok s₃=>
            if ok=Ab then Ay (model prog w) A (eval elt env) (fun x s₄=>
              Ay (model prog w) A (call (.builtin "list.append") [acc,x]) (fun _ s₅=>∃ m,m<n/\I m s₅) (HK (model prog w) A env fun e s'=>R (.error e) s') s₄) (HK (model prog w) A env fun e s'=>R (.error e) s') s₃
            else ∃ m,m<n/\I m s₃) (HK (model prog w) A env fun e s'=>R (.error e) s') s₂) (HK (model prog w) A env fun e s'=>R (.error e) s') s₁') (HK (model prog w) A env fun e s'=>R (.error e) s') s₁) (HK (model prog w) A env fun e s'=>R (.error e) s') s)(n:Ag)(h:I n s):Fi (model prog w) A (.compLoop (.ListComp elt [⟨target,iter,ifs,0⟩] scope pos) 0 it acc env) R s:=by
  refine codeAny_loop rfl I (fun n s hI=>?_) n h
  show Ay _ A ((compTurn (.ListComp elt [⟨target,iter,ifs,0⟩] scope pos) 0 it acc env).onRaise (fun x=>do Gv x env;theTreesLotGoes x)) _ _ s
  refine wpAny_noted ?_;rw[compTurn_list];refine Am (DE (Am (Be (turn n s hI) (fun r s₁ h₁=>?_) fun _ _ h'=>h')))
  cases r with
  |none=>exact AK h₁
  |some v=>
    refine Am (Be h₁ (fun _ s₁' h₁'=>?_) fun _ _ h'=>h')
    refine Am (Be h₁' (fun _ s₂ h₂=>Am (Be h₂ (fun ok s₃ h₃=>?_) fun _ _ h'=>h')) fun _ _ h'=>h')
    cases ok with
    |false=>exact AK ⟨rfl,h₃⟩
    |true=>
      exact Am (Am (Be h₃ (fun x s₄ h₄=>Am (Be h₄ (fun _ s₅ h₅=>AK (AK ⟨rfl,h₅⟩)) fun _ _ h'=>h')) fun _ _ h'=>h'))
end
def KW(J:It)(ts:Ad Ag)(g:TG)(tt:TT)(te:TE)(σ:L2.St)(H:Hp)(Q:VK):Prop:=∃ W:Ag->Ag->Ad V->L2.St->Hp->Prop,(∃ m,W 0 m [] (hideT ts σ) H)/\∀ i m xs σ H,W i m xs σ H ->
 (J.stop i H/\∀ p,H p=Ae->Q (.ref p) (upd H p (.lst xs))) \/
 (J.go i H/\xs.length<sizeLine/\∀ x H',J.yld i H x H'->g x σ H' fun σ2 H2=>tt σ2 H2 fun b H3=>if b=Ab then te σ2 H3 fun y H4=>∃ m',m'<m/\W (i+1) m' (xs++[y]) σ2 H4 else ∃ m',m'<m/\W (i+1) m' xs σ2 H3)
theorem Qe{g:TG}{it:Aj}{tn:Ag->AD->Prop}{E:Vq}{RR:Ai->Aj->Ir->As->Prop}(hc:X.calm=Ab)(B:BlockOk X scope N' ts)(I:Inv X pI σ H s)(T:Turn X.prog X.w X.K tg J fp it tn)(st:tn 0 s.heap)(hf:∀ b∈fp,Go X pI H b)(hcl:∀ x c,cl.lookup x=Aa c->X.env.cells.lookup x=Aa c)(hcl2:∀ x,(x,DD)∈scope.names->∃ c,cl.lookup x=Aa c)(hg:∀ cl C s H,PG (cxC X scope cl C N' s H fp) tg g)(ht:∀ cl C s H,PTs (cxC X scope cl C N' s H fp) ifs tt)(he:∀ cl C s H,PE (cxC X scope cl C N' s H fp) elt te)(h:KW J ts g tt te σ H Q)(hRR:∀ cl D C s' H' σ' pins' xs ys n m,Inv (cxC X scope cl C N' s H fp) pins' σ' H' s'->s'.heap.get? D=Aa { cls:=.type "list", data:=.seq (E1 ys) n }->H' D=Ae->Bf xs ys->xs.length<=sizeLine->s.heap.objs.size<=D->D≠C->s.heap.objs.size<=C->s'.heap.Ns C m->Q (.ref D) (upd H' D (.lst xs))->RR (.ref D) C (.ok .next) s'):Ay (model X.prog X.w) X.A (newList []) (fun acc s₃=>Ay (model X.prog X.w) X.A (HJ scope X.env.globals cl [] X.env.qual Ae .none (Aa X.env)) (fun cenv s₄=>Fi (model X.prog X.w) X.A (.compStart (.ListComp elt [⟨tg,iter,ifs,0⟩] scope pos) 0 (.ref it) acc {cenv with scope:=relabel scope X.env}) (RR acc cenv.locals) s₄) E s₃) E s:=by
 refine CP (VM ?_);dsimp only;generalize hH2:s.heap.push { cls:=.type "list", dict:=Ae,data:=.seq ([]:Ad Ai).toArray }=H2;have hns₁:(Gw (H2.push { cls:=.type "dict", data:=.dict #[] }) scope.names).Ns H2.objs.size (fun _=>Ae):=(Heap.Ns.new H2 (.type "dict")).keeps (Hq _ _)
 have hkp₁:∀ b o,H2.get? b=Aa o->(Gw (H2.push { cls:=.type "dict", data:=.dict #[] }) scope.names).get? b=Aa o:=fun b o e=>Hq _ _ b o (Au _ e)
 have hown:=M2 scope.names (H2.push { cls:=.type "dict", data:=.dict #[] }) cl;have hinj:=M3 scope.names (H2.push { cls:=.type "dict", data:=.dict #[] }) cl;rw[Cc]at hown hinj;generalize hcl':CF (H2.objs.size+1) scope.names cl=cl' at hown hinj;have hcf:∀ x,(x,BQ)∉scope.names->cl'.lookup x=cl.lookup x:=fun x hx=>by rw[<-hcl'];exact MT _ _ _ x hx
 have hch:∀ x,(x,BQ)∈scope.names->∃ c,cl'.lookup x=Aa c/\H2.objs.size+1<=c:=fun x hx=>by rw[<-hcl'];exact M4 _ _ _ _ x (AY _) (.inl hx)
 generalize hh₁:Gw (H2.push { cls:=.type "dict", data:=.dict #[] }) scope.names=h₁ at hns₁ hkp₁ hown;have hC:H2.objs.size=s.heap.objs.size+1:=by rw[<-hH2,Cc]
 have hCle:s.heap.objs.size<=H2.objs.size:=by rw[hC];exact UG _
 have hDC:s.heap.objs.size≠H2.objs.size:=by rw[hC];exact Bb (FK _)
 have below:∀ b,b<s.heap.objs.size->b≠H2.objs.size:=fun b hb=>by rw[hC];exact Bb (Dd hb)
 have old:∀ b o,s.heap.get? b=Aa o->h₁.get? b=Aa o:=fun b o e=>hkp₁ b o (hH2 ▸ Au _ e)
 have hacc:h₁.get? s.heap.objs.size=Aa { cls:=.type "list", data:=.seq ([]:Ad Ai).toArray 0 }:=hkp₁ _ _ (hH2 ▸ AO _ rfl);have clt:∀ x c,cl.lookup x=Aa c->c<s.heap.objs.size:=fun x c e=>by
  obtain⟨v,q⟩:=I.cell x c (hcl x c e);exact q.lt
 have bc:BCells X scope cl' H2.objs.size h₁:=by
  refine⟨fun x c e=>?_,hinj (fun x y c e1 e2=>I.ok.inj x y c (hcl x c e1) (hcl y c e2)) (fun x c e=>Dd (AR (clt x c e) hCle)),fun x hx=>?_,fun x hx=>?_⟩
  ·rcases hown x c e with q|⟨q1,q2,q3⟩
   ·exact .inl (hcl x c q)
   ·exact .inr ⟨B.uniq _ q1,q2,q3⟩
  ·have hm:=Cv hx;obtain⟨c,e,hc⟩:=hch x hm;exact⟨c,e,hc⟩
  ·have hno:(x,BQ)∉scope.names:=fun z=>by
    have e1:=B.uniq _ hx;have e2:=B.uniq _ z;rw[show scope.names.lookup x=_ from e1]at e2
    cases e2
   obtain⟨c,e⟩:=hcl2 x hx;exact⟨c,by rw[hcf x hno];exact e,hcl x c e⟩
 have hfo:∀ b∈fp,b<s.heap.objs.size:=fun b hb=>by
  obtain⟨o,e,_⟩:=T.obj 0 _ st b hb;exact AH e
 generalize hD:s.heap.objs.size=D at *;generalize hC':H2.objs.size=C at *;have I0:Inv (cxC X scope cl' C N' s H fp) [] (hideT ts σ) H {s with heap:=h₁,toks:=s.toks+([]:Ad (Ah×Ai)).length}:=VT (tk:=s.toks+([]:Ad (Ah×Ai)).length) I B hf (fun b hb=>by rw[hD];exact hfo b hb) bc old (by rw[hD];exact hCle) hns₁
 have nD:H D=Ae:=I.hok.fresh (by rw[hD];exact AY _)
 have noD:∀ b∈fp,b≠D:=fun b hb=>Bb (hfo b hb)
 have noC:∀ b∈fp,b≠C:=fun b hb=>below b (hfo b hb)
 have stfs:D∉frs X.stack:=fun z=>by
  obtain⟨_,o,ho,_⟩:=I.stack.mem z;exact absurd (AH ho) (by rw[hD];exact Bu _)
 have cD:∀ x c,cl'.lookup x=Aa c->c≠D:=fun x c e z=>by
  rcases bc.own x c e with q|⟨_,q,_⟩
  ·obtain⟨v,q⟩:=I.cell x c q;exact absurd q.lt (by rw[z,hD];exact Bu _)
  ·rw[z]at q;exact absurd (AR q hCle) (Bu _)
 have I1:Inv (cxC X scope cl' C N' s H fp) [(D,{ cls:=.type "list", data:=.seq ([]:Ad Ai).toArray 0 })] (hideT ts σ) H {s with heap:=h₁,toks:=s.toks+([]:Ad (Ah×Ai)).length}:=I0.pins_of fun p hp=>by
  have e:=BF.mp hp;subst e;exact⟨hacc,nD,hDC,stfs,fun v z=>by
   have z':Kz _ _=Kv v:=z;cases z'⟩
 have st1:tn 0 h₁:=T.keep _ _ _ st fun b _ o e=>old b o e
 obtain⟨W,⟨m0,w0⟩,turn⟩:=h;have fpk:∀{pl:Pn}{H':Hp},(∀ p∈pl,p.1=D)->(∀ b∈fp,H' b=Ae)->∀ b∈fp,Go (cxC X scope cl' C N' s H fp) pl H' b:=fun {pl H'} hp hn b hb=>
  ⟨hn b hb,noC b hb,fun z=>by
   rcases AB.mp (I.stkSub b z) with e|e
   ·exact(hf b hb).2.1 e
   ·exact(hf b hb).2.2.1 e,.inl hb,fun x c e=>(bc.own x c e).elim ((hf b hb).2.2.2.2.1 x c) (fun z q=>absurd (E2 hCle z.2.1) (UI.mpr (by rw[q];exact FY (hfo b hb)))),fun p hp'=>by
   have hp2:p∈pl:=hp';rw[hp p hp2];exact(noD b hb).symm⟩
 have loop:∀ s₃:As,s₃={s with heap:=h₁,toks:=s.toks+([]:Ad (Ah×Ai)).length} ->
   Fi (model X.prog X.w) X.A (.compLoop (.ListComp elt [⟨tg,iter,ifs,0⟩] scope pos) 0 (.ref it) (.ref D) (compEnvC scope cl' C X.env)) (RR (.ref D) C) s₃:=by
  rintro s₃ rfl;refine VS (fun k s'=>∃ i σ' H' xs ys n,Inv (cxC X scope cl' C N' s H fp) [(D,{ cls:=.type "list", data:=.seq (E1 ys) n })] σ' H' s'/\tn i s'.heap/\(∀ b∈fp,H' b=Ae)/\Bf xs ys/\xs.length<=sizeLine/\W i k xs σ' H') ?_ m0
   ⟨0,_,H,[],[],0,I1,st1,fun b hb=>(hf b hb).1,.nil,Fw _,w0⟩
  rintro k s' ⟨i,σ',H',xs,ys,n,I',st',fr',rv,hz,w'⟩;have one:∀ p∈[((D,{ cls:=.type "list", data:=.seq (E1 ys) n }):Aj×CW)],p.1=D:=fun p hp=>by rw[BF.mp hp]
  rcases turn i k xs σ' H' w' with ⟨stop,q⟩|⟨go,hlt,step⟩
  ·refine Be (T.done (cxC X scope cl' C N' s H fp) rfl rfl rfl hc i _ s' σ' H' (fun _ _=>AU) I' (fpk one fr') st' stop) (fun r s1 ⟨hr,J1⟩=>?_) fun _ _ f=>f.elim
   subst hr;obtain⟨e,hn,_⟩:=J1.pin _ (Bq _ AI);obtain⟨m,hm,_⟩:=J1.loc;exact hRR cl' D C s1 H' σ' _ xs ys n m J1 e hn rv hz (AY _) hDC hCle hm (q D hn)
  ·refine Be (T.item (cxC X scope cl' C N' s H fp) rfl rfl rfl hc i _ s' σ' H' (fun _ _=>AU) I' (fpk one fr') st' go) (fun r s1 ⟨u,hr,h4⟩=>?_) fun _ _ f=>f.elim
   subst hr;refine Be h4 (fun _ s5 ⟨x,H5,I5,r5,y5,st5,fr5⟩=>?_) fun _ _ f=>f.elim
   have I5':=I5.pinned (fpk one fr5) (T.obj _ _ st5);refine Be (hg cl' C s H _ s5 σ' H5 x u _ I5' r5 (step x H5 y5)) (fun _ s6 ⟨σ6,H6,I6,q6⟩=>?_) fun _ _ f=>f.elim
   refine Be (ht cl' C s H _ s6 σ6 H6 _ I6 q6) (fun ok s7 ⟨H7,I7,q7⟩=>?_) fun _ _ f=>f.elim
   have again:∀{s8:As}{H8:Hp}{ys':Ad Ai}{n':Ag},Inv (cxC X scope cl' C N' s H fp) ((D,{ cls:=.type "list", data:=.seq (E1 ys') n' })::Jo fp s5.heap) σ6 H8 s8->Inv (cxC X scope cl' C N' s H fp) [(D,{ cls:=.type "list", data:=.seq (E1 ys') n' })] σ6 H8 s8/\tn (i+1) s8.heap/\∀ b∈fp,H8 b=Ae:=fun {s8 H8 ys' n'} I8=>
    ⟨I8.pins_of fun p hp=>I8.pin p (Bq _ (by rw[BF.mp hp];exact AI)),T.keep _ _ _ st5 fun b hb o e=>(I8.pin (b,o) (Bq _ (Ax _ (LH hb e)))).1,fun b hb=>by
     obtain⟨o,e,d⟩:=T.obj _ _ st5 b hb;exact(I8.pin (b,o) (Bq _ (Ax _ (LH hb e)))).2.1⟩
   cases ok with
   |false=>
    rw[AA (by decide)]at q7
    obtain⟨m',hm,w7⟩:=q7;obtain⟨a1,a2,a3⟩:=again I7;rw[AA (by decide)]
    exact⟨m',hm,i+1,σ6,H7,xs,ys,n,a1,a2,a3,rv,hz,w7⟩
   |true=>
    rw[Aw rfl]at q7;rw[Aw rfl];refine Be (he cl' C s H _ s7 σ6 H7 _ I7 q7) (fun val s8 ⟨y,H8,I8,r8,m',hm,w8⟩=>?_) fun _ _ f=>f.elim
    have hl:=rv.length;refine V2 (X:=cxC X scope cl' C N' s H fp) (ys:=ys) (n:=n) (pI:=Jo fp s5.heap) I8 (by show s.heap.objs.size<=D;rw[hD];exact AY _) (fun p hp=>?_) cD (by omega) fun s9 I9 kb=>?_
    ·have hp2:p∈Jo fp s5.heap:=hp;exact noD _ (Pe hp2).1
    ·obtain⟨a1,a2,a3⟩:=again I9;exact⟨m',hm,i+1,σ6,H8,xs++[y],ys++[val],n+1,a1,a2,a3,rv.append (.cons r8 .nil),by rw[Dt];exact hlt,w8⟩
 exact codeAny_compStart_list (loop _ rfl) (T.self _ 0 _ _ _ st1 (loop _ rfl))
theorem Zm{g:TG}(hc:X.calm=Ab)(B:BlockOk X scope N' ts)(hi:PI X tg iter wi)(hg:∀ cl C s H fp,PG (cxC X scope cl C N' s H fp) tg g)(ht:∀ cl C s H fp,PTs (cxC X scope cl C N' s H fp) ifs tt)(he:∀ cl C s H fp,PE (cxC X scope cl C N' s H fp) elt te)(hs:∀ x,CO iter X.env x=pure x):PE X (.ListComp elt [⟨tg,iter,ifs,0⟩] scope pos) (fun σ H Q=>wi σ H fun J H1=>KW J ts g tt te σ H1 Q):=by
 intro pI s σ H Q I h;obtain⟨cl,hclos,hcl,hcl2⟩:=Ps (scope:=scope) (env:=X.env) fun x hx hk=>I.ok.has x.1 ((B.free x hx hk).imp id id)
 rw[eval_ListComp];refine VD (use:=Ae) rfl hs hclos B.kind B.names (thn (hi pI s σ H _ I h) fun v s1 h1=>thn h1 fun itv s2 h2=>?_)
 obtain⟨it,fp,tn,J,H2,e,I2,T,st2,f2,h3⟩:=h2;subst e;refine Qe (RR:=fun acc C=>compPost (model X.prog X.w) X.A X.xe Ae (EP X pI σ Q) acc C) hc B I2 T st2 f2 hcl hcl2 (fun cl C s H=>hg cl C s H fp) (fun cl C s H=>ht cl C s H fp) (fun cl C s H=>he cl C s H fp) h3 fun cl' D C s' H' σ' pins' xs ys n m I' hd hDn rv hz hD hDC hC hm q=>?_
 exact⟨m,hm,fun h'' hs''=>⟨.ref D,_,PR I2 f2 I' hD hDC hC hd hDn rv hz hs'',rfl,q⟩⟩
theorem Zh{n:Ah}{g:TG}(hc:X.calm=Ab)(B:BlockOk X scope N' ts)(hi:PI X tg iter wi)(hg:∀ cl C s H fp,PG (cxC X scope cl C N' s H fp) tg g)(ht:∀ cl C s H fp,PTs (cxC X scope cl C N' s H fp) ifs tt)(he:∀ cl C s H fp,PE (cxC X scope cl C N' s H fp) elt te)(hs:∀ x,CO iter X.env x=pure x)(hN:X.N.Nodup)(hni:X.N[i]?=Aa n)(hx:X.env.scope.names.lookup n=Aa .local)(hsw:Dh (.ListComp elt [⟨tg,iter,ifs,0⟩] scope pos) (Aa (.Name n pos')) pos2.line X.env=pure Ab):PS X (.Assign [.Name n pos'] (.ListComp elt [⟨tg,iter,ifs,0⟩] scope pos) pos2) (Mp (fun σ H Q=>wi σ H fun J H1=>KW J ts g tt te σ H1 Q) (EN i)):=by
 intro pI s σ H Dn I h;obtain⟨cl,hclos,hcl,hcl2⟩:=Ps (scope:=scope) (env:=X.env) fun x hx hk=>I.ok.has x.1 ((B.free x hx hk).imp id id)
 rw[exec_Assign_Name_used _ _ _ _ hsw];refine Am (DE (Am ?_));show Ay _ X.A (do let _ <-comprehension (.ListComp elt [⟨tg,iter,ifs,0⟩] scope pos) scope X.env _ (newList []) Ac (eval iter X.env) (Aa (assign (.Name n pos') X.env))) _ _ s
 refine Am (Be (VD (use:=Aa (assign (.Name n pos') X.env)) (Q:=fun _ s'=>SP X pI Dn .next s') rfl hs hclos B.kind B.names
  (thn (hi pI s σ H _ I h) fun v s1 h1=>thn h1 fun itv s2 h2=>?_)) (fun _ s' hq=>AK (AK hq)) fun _ _ e=>e)
 obtain⟨it,fp,tn,J,H2,e,I2,T,st2,f2,h3⟩:=h2;subst e;refine Qe (RR:=fun acc C=>compPost (model X.prog X.w) X.A X.xe (Aa (assign (.Name n pos') X.env)) (fun _ s'=>SP X pI Dn .next s') acc C) hc B I2 T st2 f2 hcl hcl2 (fun cl C s H=>hg cl C s H fp) (fun cl C s H=>ht cl C s H fp) (fun cl C s H=>he cl C s H fp) h3 fun cl' D C s' H' σ' pins' xs ys n' m I' hd hDn rv hz hD hDC hC hm q=>?_
 have J0:Inv X pI σ (upd H' D (.lst xs)) s':=PR I2 f2 I' hD hDC hC hd hDn rv hz (U6 ..);refine VC (O9 J0 hN hni (.inl hx) (show BD (.ref D) (.ref D) from rfl) (fun s'' J1 ⟨a,sb,ha⟩=>?_) (.inr hx))
 have hC0:X.s₀.heap.objs.size<=C:=Co I2.sz hC;have hL:C≠X.env.locals:=fun z=>absurd (AR I2.lt (z ▸ hC)) (Bu _)
 have hcC:∀ x c,X.env.cells.lookup x=Aa c->c≠C:=fun x c e z=>by
  obtain⟨v,q'⟩:=I2.cell x c e;exact absurd (AR q'.lt (by rw[z];exact hC)) (Bu _)
 have hp:∀ p∈X.pn++pI,p.1≠C:=fun p hp z=>absurd (AR (AH (I2.pin p hp).1) (by rw[z];exact hC)) (Bu _)
 have hCn:upd H' D (.lst xs) C=Ae:=by rw[By hDC.symm];exact I'.free
 have hCa:C≠a:=by
  rcases ha with rfl|ha
  ·exact hL
  ·exact fun z=>hcC n a ha z.symm
 refine⟨m,hm.sameBut sb hCa,fun h'' hs''=>⟨_,_,J1.turned (t':=s''.toks) (fun b o hb e=>(hs''.2 b hb).trans e) hCn hL (.inr hC0) hcC hp,q⟩⟩
theorem JV:∀(ts:Ad Ag)(ρ:Rho)(j:Ag),(E9 ts ρ)[j]?=if j∈ts then (ρ[j]?).map (fun _=>Ae) else ρ[j]?
 |[],ρ,j=>by simp[E9]
 |t::ts,ρ,j=>by
  show (E9 ts (ρ.set t Ae))[j]?=_;rw[JV ts];by_cases h1:j∈ts
  ·rw[Aw h1,Aw (Ax _ h1)];by_cases h2:t=j
   ·subst h2;rw[Fl];cases ρ[t]?<;>rfl
   ·rw[B7 h2]
  ·rw[AA h1];by_cases h2:t=j
   ·subst h2;rw[Aw AI,Fl];cases ρ[t]?<;>rfl
   ·rw[B7 h2,AA (by simp only[AB,Dz];exact⟨fun z=>h2 z.symm,h1⟩)]
theorem LC:∀(ts:Ad Ag)(ρ:Rho),(E9 ts ρ).length=ρ.length
 |[],_=>rfl
 |t::ts,ρ=>by show (E9 ts (ρ.set t Ae)).length=_;rw[LC ts,A2]
theorem MR:∀(ts:Ad Ag)(σ:L2.St){i:Ag},i∉ts->(hideT ts σ)[i]?=σ[i]?
 |[],_,_,_=>rfl
 |t::ts,σ,i,h=>by
  simp only[AB,Dz]at h;show (hideT ts (σ.set t Ae))[i]?=_;rw[MR ts _ h.2,B7 (fun z=>h.1 z.symm)]
theorem OS:∀(ts:Ad Ag)(ds:Ad D)(ρ1 ρ2:Rho),ρ1.length=ρ2.length->(∀ j,j∉ts->ρ1[j]?=ρ2[j]?)->Ev ts ds ρ1=Ev ts ds ρ2
 |[],[],ρ1,ρ2,hl,h=>congrArg Aa (Uk fun j=>h j (by simp))
 |[],_::_,_,_,_,_=>rfl
 |_::_,[],_,_,_,_=>rfl
 |t::ts,d::ds,ρ1,ρ2,hl,h=>by
  refine OS ts ds _ _ (by rw[A2,A2];exact hl) fun j hj=>?_
  by_cases e:t=j
  ·subst e;rw[GK,GK,Aw rfl,Aw rfl,hl]
  ·rw[B7 e,B7 e];exact h j (by simp only[AB,Dz];exact⟨fun z=>e z.symm,hj⟩)
theorem O6:∀(ts us:Ad Ag)(ds:Ad D)(ρ ρ':Rho),(∀ t∈ts,t∈us)->Ev ts ds ρ=Aa ρ'->E9 us ρ'=E9 us ρ
 |[],us,[],ρ,ρ',_,e=>by cases e;rfl
 |t::ts,us,d::ds,ρ,ρ',hs,e=>by
  rw[O6 ts us ds _ ρ' (fun u hu=>hs u (Ax _ hu)) e]
  refine Uk fun j=>?_
  rw[JV,JV];by_cases h:j∈us
  ·rw[Aw h,Aw h,GK];split
   ·rename_i e2;subst e2;split
    ·rename_i h3;rw[Cb h3];rfl
    ·rename_i h3;rw[List.getElem?_eq_none (by omega)]
   ·rfl
  ·rw[AA h,AA h,B7];rintro rfl;exact h (hs _ AI)
 |[],_,_::_,_,_,_,e=>by cases e
 |_::_,_,[],_,_,_,e=>by cases e
section
variable{K:Fg}{CL:ClA}{A:Aj->Prop}{ρ ρ':Rho}{σ:L2.St}{H:Hp}
theorem Good.less(g:Good K CL A ρ σ H)(hl:ρ'.length=ρ.length)(h:∀(i:Ag)(d:D)(o:Ao),ρ'[i]?=Aa (Aa (d,o))->ρ[i]?=Aa (Aa (d,o))):Good K CL A ρ' σ H:=⟨fun i d e=>g.sh i d (h i d Ac e),fun i d e=>g.ow i d (h i d Ab e),hl.trans g.len⟩
theorem Good.put(g:Good K CL A ρ σ H)(t:Ag)(r:Rep K CL H A v d):Good K CL A (ρ.set t (Aa (d,Ac))) (σ.set t (Aa v)) H:=by
 refine⟨fun j e h=>?_,fun j e h=>?_,by rw[A2,A2];exact g.len⟩
 ·by_cases hj:t=j
  ·subst hj;have e1:=Gh h;cases e1;have hl:t<σ.length:=by
    rw[<-g.len];have:=(A7.mp h).1;simpa using this
   exact⟨v,by rw[CV hl],r⟩
  ·rw[B7 hj]at h;obtain⟨w',q,rw'⟩:=g.sh j e h;exact⟨w',by rw[B7 hj];exact q,rw'⟩
 ·have hj:t≠j:=by
   rintro rfl;have:=Gh h;cases this
  rw[B7 hj]at h;obtain⟨a,xs,ds,q,z⟩:=g.ow j e h;exact⟨a,xs,ds,by rw[B7 hj];exact q,z⟩
theorem Good.hide(g:Good K CL A ρ σ H)(ts:Ad Ag):Good K CL A (E9 ts ρ) σ H:=g.less (LC _ _) fun i d o e=>by
 rw[JV]at e;split at e
 ·cases q:ρ[i]? with
  |none=>rw[q]at e;cases e
  |some x=>rw[q]at e;cases e
 ·exact e
theorem Good.hideT(g:Good K CL A ρ σ H)(ts:Ad Ag):Good K CL A (E9 ts ρ) (hideT ts σ) H:=by
 have key:∀ i x,(E9 ts ρ)[i]?=Aa (Aa x)->ρ[i]?=Aa (Aa x)/\i∉ts:=fun i x e=>by
  rw[JV]at e;split at e
  ·cases q:ρ[i]? with
   |none=>rw[q]at e;cases e
   |some x=>rw[q]at e;cases e
  ·exact⟨e,by assumption⟩
 refine⟨fun i d e=>?_,fun i d e=>?_,by rw[LC,Nc];exact g.len⟩
 ·obtain⟨e1,e2⟩:=key i _ e;obtain⟨v,q,r⟩:=g.sh i d e1;exact⟨v,by rw[MR _ _ e2];exact q,r⟩
 ·obtain⟨e1,e2⟩:=key i _ e;obtain⟨a,xs,ds,q,r⟩:=g.ow i d e1;exact⟨a,xs,ds,by rw[MR _ _ e2];exact q,r⟩
end
def GG(K:Fg)(CL:ClA)(ts:Ad Ag)(as:D->Rho->R Rho)(g:TG):Prop:=∀ A ρ σ H v d ρ' Q,Good K CL A (E9 ts ρ) σ H->Rep K CL H A v d->as d ρ=.ok ρ'->(∀ σ',Good K CL A ρ' σ' H->Good K CL A (E9 ts ρ) σ' H->Q σ' H)->g v σ H Q
theorem YI(i:Ag):GG K CL [i] (fun d ρ=>.ok (ρ.set i (Aa (d,Ac)))) (EN i):=fun A ρ σ H v d ρ' Q g r e k=>by
 cases e;have g2:=g.put i r;have e1:(E9 [i] ρ).set i (Aa (d,Ac))=ρ.set i (Aa (d,Ac)):=by
  show (ρ.set i Ae).set i (Aa (d,Ac))=_;rw[UC]
 rw[e1]at g2;refine k _ g2 ?_;have:=g2.hide [i];have e2:E9 [i] (ρ.set i (Aa (d,Ac)))=E9 [i] ρ:=by
  show (ρ.set i _).set i Ae=ρ.set i Ae;rw[UC]
 rw[e2]at this;exact this
theorem Q6{K:Fg}{CL:ClA}{A:Aj->Prop}{H:Hp}:∀(ts:Ad Ag)(ds:Ad D)(vs:Ad V)(ρ ρ':Rho)(σ:L2.St)(Q:L2.St->Hp->Prop),Good K CL A ρ σ H->Reps K CL H A vs ds->Ev ts ds ρ=Aa ρ'->(∀ σ',Good K CL A ρ' σ' H->Q σ' H)->(ts.foldr (fun t u=>G7 (EN t) u) He) vs σ H Q
 |[],[],[],ρ,ρ',σ,Q,x,_,e,k=>by
  cases e;exact⟨rfl,k σ x⟩
 |t::ts,d::ds,v::vs,ρ,ρ',σ,Q,x,r,e,k=>⟨v,vs,rfl,Q6 ts ds vs _ ρ' _ Q (x.put t r.1) r.2 e k⟩
 |[],_::_,_,_,_,_,_,_,_,e,_=>by cases e
 |_::_,[],_,_,_,_,_,_,_,e,_=>by cases e
 |[],[],_::_,_,_,_,_,_,r,_,_=>r.elim
 |_::_,_::_,[],_,_,_,_,_,r,_,_=>r.elim
theorem fJ(ts:Ad Ag):GG K CL ts (Gj ts) (Kl K ts.length (ts.foldr (fun t u=>G7 (EN t) u) He)):=fun A ρ σ H v d ρ' Q g r e k=>by
 cases d with
 |tup ds=>
  obtain⟨a,xs,rfl,na,sq,rs⟩:=r;rw[Pt]at e;cases e2:Ev ts ds ρ with
  |none=>rw[e2]at e;cases e
  |some ρ2=>
   rw[e2]at e;cases e;have e3:Ev ts ds (E9 ts ρ)=Aa ρ':=by
    rw[<-e2];exact OS ts ds _ _ (LC _ _) fun j hj=>by rw[JV,AA hj]
   refine⟨a,xs,rfl,sq,by rw[rs.length];exact LG _ _ _ _ e2,Q6 ts ds xs _ ρ' σ Q g rs e3 fun σ' g'=>k σ' g' ?_⟩
   have:=g'.hide ts;rw[O6 ts ts ds ρ ρ' (fun _ h=>h) e2]at this
   exact this
 |_=>cases e
noncomputable abbrev W0:XW:=fun _ _=>AU
def STs(X:Cx)(CL:ClA)(ifs:Ad Ap)(f:Rho->R Ao):Prop:=∀ A,PTs X ifs (fun σ H Q=>AOk H A/\∃ ρ,Good X.K CL A ρ σ H/\C4 W0 H (f ρ) Q)
theorem XZ:STs X CL [] (fun _=>.ok Ab):=fun A pI s σ H Q I ⟨hA,ρ,g,p⟩=>Zd pI s σ H Q I (p H (AE.refl H))
theorem XY(h:SB X CL W0 c f):STs X CL [c] f:=fun A pI s σ H Q I q=>Zc (h A) pI s σ H Q I q
section
variable{X:Cx}{CL:ClA}{W:XW}{tg iter elt:Ap}{ifs:Ad Ap}{scope:B9}{pos:AN}{N':Ad Ah}{ts:Ad Ag}{fi:Rho->R (Ad D)}{fc:Rho->R Ao}{fe:Rho->R D}{as:D->Rho->R Rho}{g:TG}
theorem VQ{g:D->R Ao}{f:D->R D}{x:D}{xs ys:Ad D}(h:BG g f (x::xs)=.ok ys):(g x=.ok Ac/\BG g f xs=.ok ys)\/∃ y r,g x=.ok Ab/\f x=.ok y/\BG g f xs=.ok r/\ys=y::r:=by
 unfold BG at h;cases e:g x with
 |bad=>rw[e]at h;cases h
 |exn z=>rw[e]at h;cases h
 |ok b=>
  rw[e,R.bind_ok]at h;cases b with
  |false=>exact .inl ⟨rfl,h⟩
  |true=>
   rw[Aw rfl]at h;cases e2:f x with
   |bad=>rw[e2]at h;cases h
   |exn z=>rw[e2]at h;cases h
   |ok y=>
    rw[e2,R.bind_ok]at h;cases e3:BG g f xs with
    |bad=>rw[e3]at h;cases h
    |exn z=>rw[e3]at h;cases h
    |ok r=>
     rw[e3,R.bind_ok]at h;cases h;exact .inr ⟨y,r,rfl,rfl,rfl,rfl⟩
theorem Jb{β:Type}{r:R α}{f:α->R β}{b:β}(h:r.bind f=.ok b):∃ a,r=.ok a/\f a=.ok b:=by
 cases r with
 |ok a=>exact⟨a,rfl,h⟩
 |exn x=>cases h
 |bad=>cases h
theorem Wy{ds ys:Ad D}(hGG:GG K CL ts as g)(hA:AOk H1 A)(gd:Good K CL A ρ σ H1)(yl:Ie K CL A ds J H1)(hz:ds.length<=sizeLine)(hcp:BG (fun x=>(as x ρ).bind fc) (fun x=>(as x ρ).bind fe) ds=.ok ys)(q:∀ xs H2,AE H1 H2->Reps K CL H2 A xs ys->∀ p,H2 p=Ae->Q (.ref p) (upd H2 p (.lst xs))):KW J ts g (fun σ H Q=>AOk H A/\∃ ρ,Good K CL A ρ σ H/\C4 W0 H (fc ρ) Q) (fun σ H Q=>AOk H A/\∃ ρ,Good K CL A ρ σ H/\Bg (fun H=>Rep K CL H A) W0 H (fe ρ) Q) σ H1 Q:=by
 refine⟨fun i m xs σ' H'=>m=ds.length-i/\i<=ds.length/\xs.length<=i/\AE H1 H'/\Good K CL A (E9 ts ρ) σ' H'/\∃ outs rest,Reps K CL H' A xs outs/\BG (fun x=>(as x ρ).bind fc) (fun x=>(as x ρ).bind fe) (ds.drop i)=.ok rest/\ys=outs++rest,
  ⟨ds.length,by simp,Fw _,AY _,AE.refl _,gd.hideT ts,[],ys,trivial,hcp,rfl⟩,?_⟩
 rintro i m xs σ' H' ⟨rfl,hi,hxl,sm,g',outs,rest,rs,hc,e⟩;obtain⟨yst,ygo⟩:=yl H' (Kp.of sm) i;by_cases hlt:i<ds.length
 ·have hd:ds[i]?=Aa ds[i]:=Cb hlt;obtain⟨hgo,hyl⟩:=ygo _ hd;refine .inr ⟨hgo,by omega,fun x H2 hx=>?_⟩
  obtain⟨s2,rx⟩:=hyl x H2 hx;have rx':=rx A (fun a ha=>.inl ha) (hA.same sm)
  rw[ER hlt]at hc;have sm2:=sm.trans s2;rcases VQ hc with ⟨h1,h2⟩|⟨y,r,h1,h2,h3,h4⟩
  ·obtain⟨ρ',ea,ec⟩:=Jb h1;refine hGG A ρ σ' H2 x ds[i] ρ' _ (g'.same s2) rx' ea fun σ3 g3 g4=>⟨hA.same sm2,ρ',g3,?_⟩
   rw[ec];exact fun H3 s3=>by
    dsimp only;rw[AA (by decide)]
    exact⟨ds.length-(i+1),by omega,rfl,hlt,by omega,sm2.trans s3,g4.same s3,outs,rest,(rs.same s2).same s3,h2,e⟩
  ·obtain⟨ρ',ea,ec⟩:=Jb h1;obtain⟨ρ2,ea2,ee⟩:=Jb h2;rw[ea]at ea2;cases ea2;refine hGG A ρ σ' H2 x ds[i] ρ' _ (g'.same s2) rx' ea fun σ3 g3 g4=>⟨hA.same sm2,ρ',g3,?_⟩
   rw[ec];exact fun H3 s3=>by
    dsimp only;rw[Aw rfl];refine⟨(hA.same sm2).same s3,ρ',g3.same s3,?_⟩;rw[ee];exact fun v H4 s4 r4=>⟨ds.length-(i+1),by omega,rfl,hlt,by rw[Dt,List.length_singleton];omega,(sm2.trans s3).trans s4,(g4.same s3).same s4,outs++[y],r,(((rs.same s2).same s3).same s4).append ⟨r4,trivial⟩,h3,by rw[e,h4];simp⟩
 ·have hk':ds.length<=i:=by omega
  rw[Uj hk']at hc;have hr:rest=[]:=by cases hc;rfl
  subst hr;rw[Ce]at e;subst e;exact .inl ⟨yst hk',fun p hp=>q xs H' sm rs p hp⟩
theorem EB.ok_of{r:R (Ad D)}{f:Ad D->R D}{Q':It->Hp->Prop}(h:Bg Rq W H (r.bind f) Q)(k:∀ ds J H',r=.ok ds->AE H H'->Ie K CL A ds J H'->ds.length<=sizeLine->Bg Rq W H' (f ds) Q->Q' J H'):EB K CL A W H r Q':=by
 cases r with
 |ok d=>exact fun J H2 s2 y z=>k d J H2 rfl s2 y z (Bg.same s2 h)
 |exn x=>exact h
 |bad=>exact h
theorem cS{r:R α}{a:α}(h:noX r=.ok a):r=.ok a:=by
 cases r with
 |ok b=>exact h
 |exn x=>cases h
 |bad=>cases h
theorem PN(hGG:GG X.K CL ts as g)(hA:AOk H A)(gd:Good X.K CL A ρ σ H)(p:Bg (Dq X.K CL Ab H A) W H ((fi ρ).bind fun xs=>(noX (BG (fun x=>(as x ρ).bind fc) (fun x=>(as x ρ).bind fe) xs)).bind fun ys=>.ok (.lst ys)) Q):EB X.K CL A W H (fi ρ) (fun J H1=>KW J ts g (fun σ H Q=>AOk H A/\∃ ρ,Good X.K CL A ρ σ H/\C4 W0 H (fc ρ) Q) (fun σ H Q=>AOk H A/\∃ ρ,Good X.K CL A ρ σ H/\Bg (fun H=>Rep X.K CL H A) W0 H (fe ρ) Q) σ H1 Q):=
 EB.ok_of p fun ds J H1 e1 s1 yl hz p1=>by
  cases e2:noX (BG (fun x=>(as x ρ).bind fc) (fun x=>(as x ρ).bind fe) ds) with
  |ok ys=>
   rw[e2]at p1;exact Wy hGG (hA.same s1) (gd.same s1) yl hz (cS e2) fun xs H2 s2 rs q hq=>p1 _ _ (s2.trans (FN hq _)) (JZ (s1.trans s2) ((hA.same s1).same s2) hq rs)
  |exn x=>rw[e2]at p1;cases hq:BG (fun x=>(as x ρ).bind fc) (fun x=>(as x ρ).bind fe) ds<;>rw[hq]at e2<;>cases e2
  |bad=>rw[e2]at p1;exact p1.elim
theorem Yj(hc:X.calm=Ab)(B:BlockOk X scope N' ts)(hi:SI X CL W tg iter fi)(hGG:GG X.K CL ts as g)(hg:∀ cl C s H fp,PG (cxC X scope cl C N' s H fp) tg g)(ht:∀ cl C s H fp,STs (cxC X scope cl C N' s H fp) CL ifs fc)(he:∀ cl C s H fp,SE (cxC X scope cl C N' s H fp) CL W0 elt fe)(hs:∀ x,CO iter X.env x=pure x):SC X CL W Ab (.ListComp elt [⟨tg,iter,ifs,0⟩] scope pos) (fun ρ=>(fi ρ).bind fun xs=>(noX (BG (fun x=>(as x ρ).bind fc) (fun x=>(as x ρ).bind fe) xs)).bind fun ys=>.ok (.lst ys)):=fun A pI s σ H Q I ⟨hA,ρ,gd,p⟩=>
 Zm hc B (hi A) hg (fun cl C s H fp=>ht cl C s H fp A) (fun cl C s H fp=>he cl C s H fp A) hs pI s σ H Q I ⟨hA,ρ,gd,PN hGG hA gd p⟩
end
section
variable{K:Fg}{CL:ClA}{Fz:Aj->HO->Prop}{B:Aj->Prop}{ρ:Rho}{σ:L2.St}{H H':Hp}
theorem Sx.setF(x:Sx K CL Fz B ρ σ H)(s:AE H H'){ds:Ad D}(h0:H a=Ae)(h1:H' a=Aa (.lst xs))(r:Reps K CL H' (fun b=>BN B ρ σ b\/b=a) xs ds):Sx K CL Fz B (ρ.set i (Aa (.lst ds,Ab))) (σ.set i (Aa (.ref a))) H':=by
 have nA:¬ BN B ρ σ a:=x.aok.new h0;have own:∀(j:Ag)(e:D),(ρ.set i (Aa (.lst ds,Ab)))[j]?=Aa (Aa (e,Ab))->(i=j/\e=.lst ds)\/(i≠j/\ρ[j]?=Aa (Aa (e,Ab))):=fun j e h=>by
  by_cases hj:i=j
  ·subst hj;have:=Gh h;cases this;exact .inl ⟨rfl,rfl⟩
  ·exact .inr ⟨hj,by rw[B7 hj]at h;exact h⟩
 have atI:∀{j:Ag}{y:Sl},(ρ.set i (Aa (.lst ds,Ab)))[j]?=Aa y->i=j->(σ.set i (Aa (.ref a)))[j]?=Aa (Aa (.ref a)):=fun {j y} h e=>by
  subst e;have hl:i<σ.length:=by
   rw[<-x.len];have:=(A7.mp h).1;simpa using this
  rw[CV hl]
 have sub:∀ b,BN B (ρ.set i (Aa (.lst ds,Ab))) (σ.set i (Aa (.ref a))) b->BN B ρ σ b\/b=a:=fun b h=>by
  rcases h with h|⟨j,e,h1,h2⟩
  ·exact .inl (.inl h)
  ·rcases own j e h1 with ⟨hj,_⟩|⟨hj,h1'⟩
   ·rw[atI h1 hj]at h2;cases h2;exact .inr rfl
   ·rw[B7 hj]at h2;exact .inl (.inr ⟨j,e,h1',h2⟩)
 have wide:∀{v:V}{d:D},Rep K CL H (BN B ρ σ) v d->Rep K CL H' (BN B (ρ.set i (Aa (.lst ds,Ab))) (σ.set i (Aa (.ref a)))) v d:=fun r=>(Rep.wide (fun b hb=>(sub b hb).imp id fun e=>by rw[e];exact h0) _ r).same s
 have wides:∀{v:Ad V}{d:Ad D},Reps K CL H (BN B ρ σ) v d->Reps K CL H' (BN B (ρ.set i (Aa (.lst ds,Ab))) (σ.set i (Aa (.ref a)))) v d:=fun r=>(Reps.wide (fun b hb=>(sub b hb).imp id fun e=>by rw[e];exact h0) _ r).same s
 refine⟨⟨fun j e h=>?_,fun j e h=>?_,by rw[A2,A2];exact x.len⟩,fun b h=>?_,fun j e b g1 g2=>?_,fun j k e f b g1 g2 g3 g4=>?_,fun b o z=>s _ _ (x.same b o z),by rw[A2,A2];exact x.len⟩
 ·have hj:i≠j:=by
   rintro rfl;have:=Gh h;cases this
  rw[B7 hj]at h;obtain⟨w',q,rw'⟩:=x.good.sh j e h;exact⟨w',by rw[B7 hj];exact q,wide rw'⟩
 ·rcases own j e h with ⟨hj,rfl⟩|⟨hj,h'⟩
  ·have q:=atI h hj;exact⟨a,xs,ds,q,rfl,.inr ⟨j,_,h,q⟩,h1,Reps.sub sub _ r⟩
  ·obtain⟨b,ys,es,q,z,ha,hh,rr⟩:=x.good.ow j e h';have q':(σ.set i (Aa (.ref a)))[j]?=Aa (Aa (.ref b)):=by rw[B7 hj];exact q
   exact⟨b,ys,es,q',z,.inr ⟨j,e,h,q'⟩,s _ _ hh,wides rr⟩
 ·rcases sub b h with z|z
  ·obtain⟨ys,q⟩:=x.aok b z;exact⟨ys,s _ _ q⟩
  ·rw[z];exact⟨xs,h1⟩
 ·rcases own j e g1 with ⟨hj,_⟩|⟨hj,h'⟩
  ·rw[atI g1 hj]at g2;cases g2;refine⟨fun o z=>?_,fun z=>nA (.inl z)⟩
   have:=x.same a o z;rw[h0]at this;cases this
  ·rw[B7 hj]at g2;exact x.new j e b h' g2
 ·rcases own j e g1 with ⟨hj,_⟩|⟨hj,h'⟩
  ·rw[atI g1 hj]at g3;cases g3;rcases own k f g2 with ⟨hk,_⟩|⟨hk,h''⟩
   ·exact hj.symm.trans hk
   ·rw[B7 hk]at g4;exact absurd (.inr ⟨k,f,h'',g4⟩) nA
  ·rw[B7 hj]at g3;rcases own k f g2 with ⟨hk,_⟩|⟨hk,h''⟩
   ·rw[atI g2 hk]at g4;cases g4;exact absurd (.inr ⟨j,e,h',g3⟩) nA
   ·rw[B7 hk]at g4;exact x.dis j k e f b h' h'' g3 g4
theorem Sx.upd(x:Sx K CL Fz B ρ σ H){i:Ag}{d:D}{a:Aj}{xs:Ad V}{ds:Ad D}(hi:ρ[i]?=Aa (Aa (d,Ab)))(ha:σ[i]?=Aa (Aa (.ref a)))(r:Reps K CL H (BN B ρ σ) xs ds):Sx K CL Fz B (ρ.set i (Aa (.lst ds,Ab))) σ (L2.upd H a (.lst xs)):=by
 have oa:BN B ρ σ a:=.inr ⟨i,d,hi,ha⟩;have hil:i<ρ.length:=(A7.mp hi).1;have get:∀(j:Ag)(e:D),(ρ.set i (Aa (.lst ds,Ab)))[j]?=Aa (Aa (e,Ab))↔(i=j/\e=.lst ds)\/(i≠j/\ρ[j]?=Aa (Aa (e,Ab))):=fun j e=>by
  by_cases hj:i=j
  ·subst hj;rw[CV hil];simp;exact⟨fun z=>z.symm,fun z=>z.symm⟩
  ·rw[B7 hj];simp[hj]
 have same:∀ b,BN B (ρ.set i (Aa (.lst ds,Ab))) σ b↔BN B ρ σ b:=fun b=>by
  constructor
  ·rintro (h|⟨j,e,h1,h2⟩)
   ·exact .inl h
   ·rcases (get j e).mp h1 with ⟨rfl,_⟩|⟨_,h1⟩
    ·exact .inr ⟨i,d,hi,h2⟩
    ·exact .inr ⟨j,e,h1,h2⟩
  ·rintro (h|⟨j,e,h1,h2⟩)
   ·exact .inl h
   ·by_cases hj:i=j
    ·subst hj;exact .inr ⟨i,.lst ds,(get i _).mpr (.inl ⟨rfl,rfl⟩),h2⟩
    ·exact .inr ⟨j,e,(get j e).mpr (.inr ⟨hj,h1⟩),h2⟩
 have kp:Kp (BN B ρ σ) H (L2.upd H a (.lst xs)):=fun b o e na=>by
  have hne:b≠a:=by
   rintro rfl;exact na oa
  rw[By hne];exact e
 refine⟨⟨fun j e h=>?_,fun j e h=>?_,by rw[A2];exact x.len⟩,fun b h=>?_,fun j e b g1 g2=>?_,fun j k e f b g1 g2 g3 g4=>?_,fun b o z=>?_,by rw[A2];exact x.len⟩
 ·have hj:i≠j:=by
   rintro rfl;have:=Gh h;cases this
  rw[B7 hj]at h;obtain⟨w',q,rw'⟩:=x.good.sh j e h;exact⟨w',q,Rep.sub (fun b hb=>(same b).mp hb) _ (Rep.kp kp _ rw')⟩
 ·rcases (get j e).mp h with ⟨rfl,rfl⟩|⟨hj,h'⟩
  ·exact⟨a,xs,ds,ha,rfl,(same a).mpr oa,E8,Reps.sub (fun b hb=>(same b).mp hb) _ (Reps.kp kp _ r)⟩
  ·obtain⟨b,ys,es,q,z,hb,hh,rr⟩:=x.good.ow j e h';have hne:b≠a:=fun z=>hj (x.dis i j d e a hi h' ha (z ▸ q))
   exact⟨b,ys,es,q,z,(same b).mpr hb,by rw[By hne];exact hh,Reps.sub (fun b hb=>(same b).mp hb) _ (Reps.kp kp _ rr)⟩
 ·obtain⟨ys,q⟩:=x.aok b ((same b).mp h);by_cases e:b=a
  ·rw[e];exact⟨xs,E8⟩
  ·exact⟨ys,by rw[By e];exact q⟩
 ·rcases (get j e).mp g1 with ⟨rfl,_⟩|⟨_,h'⟩
  ·exact x.new i d b hi g2
  ·exact x.new j e b h' g2
 ·rcases (get j e).mp g1 with ⟨rfl,_⟩|⟨hj,h'⟩
  ·rcases (get k f).mp g2 with ⟨rfl,_⟩|⟨hk,h''⟩
   ·rfl
   ·exact x.dis i k d f b hi h'' g3 g4
  ·rcases (get k f).mp g2 with ⟨rfl,_⟩|⟨hk,h''⟩
   ·exact x.dis j i e d b h' hi g3 g4
   ·exact x.dis j k e f b h' h'' g3 g4
 ·have hne:b≠a:=fun e=>(x.new i d a hi ha).1 o (e ▸ z)
  rw[By hne];exact x.same b o z
theorem Sx.rel(x:Sx K CL Fz B ρ σ H)(hi:ρ[i]?=Aa (Aa (d,Ab))):Sx K CL Fz B (ρ.set i (Aa (d,Ac))) σ H:=by
 obtain⟨a,xs,ds,q,rfl,oa,hh,rr⟩:=x.good.ow i d hi;have own:∀(j:Ag)(e:D),(ρ.set i (Aa (.lst ds,Ac)))[j]?=Aa (Aa (e,Ab))->i≠j/\ρ[j]?=Aa (Aa (e,Ab)):=fun j e h=>by
  by_cases hj:i=j
  ·subst hj;have:=Gh h;cases this
  ·exact⟨hj,by rw[B7 hj]at h;exact h⟩
 have sub:∀ b,BN B (ρ.set i (Aa (.lst ds,Ac))) σ b->BN B ρ σ b:=fun b h=>by
  rcases h with h|⟨j,e,h1,h2⟩
  ·exact .inl h
  ·exact .inr ⟨j,e,(own j e h1).2,h2⟩
 have na:¬ BN B (ρ.set i (Aa (.lst ds,Ac))) σ a:=fun h=>by
  rcases h with h|⟨j,e,h1,h2⟩
  ·exact(x.new i _ a hi q).2 h
  ·obtain⟨hj,h1⟩:=own j e h1;exact hj (x.dis i j _ e a hi h1 q h2)
 refine⟨⟨fun j e h=>?_,fun j e h=>?_,by rw[A2];exact x.len⟩,fun b h=>x.aok b (sub b h),fun j e b g1 g2=>x.new j e b (own j e g1).2 g2,fun j k e f b g1 g2 g3 g4=>x.dis j k e f b (own j e g1).2 (own k f g2).2 g3 g4,x.same,by rw[A2];exact x.len⟩
 ·by_cases hj:i=j
  ·subst hj;have e1:=Gh h;cases e1;exact⟨_,q,a,xs,rfl,.inl na,SqL.of hh,Reps.sub sub _ rr⟩
  ·rw[B7 hj]at h;obtain⟨w',q',rw'⟩:=x.good.sh j e h;exact⟨w',q',Rep.sub sub _ rw'⟩
 ·obtain⟨hj,h'⟩:=own j e h;obtain⟨b,ys,es,q',z,hb,hh',rr'⟩:=x.good.ow j e h';exact⟨b,ys,es,q',z,.inr ⟨j,e,h,q'⟩,hh',Reps.sub sub _ rr'⟩
end
section
variable{X:Cx}{CL:ClA}{W:XW}{pos:AN}{e:Ap}{fe:Rho->R D}{fr:Ao}
theorem BS.exC{f:D->O}(x:Sx X.K CL Fz B ρ σ H)(h:BS X.K CL Fz B W (O.of ρ r f) D')(k:∀ d v H',r=.ok d->AE H H'->Dq X.K CL fr H A H' v d->Sx X.K CL Fz B ρ σ H'->BS X.K CL Fz B W (f d) D'->Q v H'):Bg (Dq X.K CL fr H A) W H r Q:=by
 cases r with
 |ok d=>exact fun v H' s r=>k d v H' rfl s r (x.grow s) h
 |exn y=>exact fun H' s=>h H' fun b o z=>s _ _ (x.same b o z)
 |bad=>exact h
def SAs(X:Cx)(CL:ClA)(W:XW)(fr:Ao)(i:Ag)(st:A9)(f:Rho->R D):Prop:=∀ A,PS X st (Mp (fun σ H Q=>AOk H A/\∃ ρ,Good X.K CL A ρ σ H/\Bg (Dq X.K CL fr H A) W H (f ρ) Q) (EN i))
theorem SC.sas{n:Ah}(hN:X.N.Nodup)(hi:X.N[i]?=Aa n)(hx:Loc X.env.scope n)(he:SC X CL W fr e fe)(hs:Dh e (Aa (.Name n pos')) pos.line X.env=pure Ac)(hf:X.fn n=Ab\/X.env.scope.names.lookup n=Aa .local):SAs X CL W fr i (.Assign [.Name n pos'] e pos) fe:=
 fun A=>Mg hN hi hx (he A) hs hf
theorem W1{n:Ah}{fe:Rho->R D}{g:TG}(hc:X.calm=Ab)(B:BlockOk X scope N' ts)(hi:SI X CL W tg iter fi)(hGG:GG X.K CL ts as g)(hg:∀ cl C s H fp,PG (cxC X scope cl C N' s H fp) tg g)(ht:∀ cl C s H fp,STs (cxC X scope cl C N' s H fp) CL ifs fc)(he:∀ cl C s H fp,SE (cxC X scope cl C N' s H fp) CL W0 elt fe)(hs:∀ x,CO iter X.env x=pure x)(hN:X.N.Nodup)(hni:X.N[i]?=Aa n)(hx:X.env.scope.names.lookup n=Aa .local)(hsw:Dh (.ListComp elt [⟨tg,iter,ifs,0⟩] scope pos) (Aa (.Name n pos')) pos2.line X.env=pure Ab):SAs X CL W Ab i (.Assign [.Name n pos'] (.ListComp elt [⟨tg,iter,ifs,0⟩] scope pos) pos2) (fun ρ=>(fi ρ).bind fun xs=>(noX (BG (fun x=>(as x ρ).bind fc) (fun x=>(as x ρ).bind fe) xs)).bind fun ys=>.ok (.lst ys)):=fun A pI s σ H Dn I ⟨hA,ρ,gd,p⟩=>
 Zh hc B (hi A) hg (fun cl C s H fp=>ht cl C s H fp A) (fun cl C s H fp=>he cl C s H fp A) hs hN hni hx hsw pI s σ H Dn I ⟨hA,ρ,gd,PN hGG hA gd p⟩
theorem R7{st:A9}(h:SAs X CL W fr i st fe):SS X CL W st (fun ρ=>O.of ρ (fe ρ) fun d=>.next (ρ.set i (Aa (d,Ac)))):=fun Fz B pI s σ H D I ⟨ρ,x,p⟩=>
 h (BN B ρ σ) pI s σ H D I ⟨x.aok,ρ,x.good,BS.exC x p fun d v H' _ s r x' q=>q _ H' (x'.set i r.1)⟩
theorem X9{st:A9}(h:SAs X CL W Ab i st fe):SS X CL W st (fun ρ=>O.of ρ (fe ρ) fun d=>setF ρ i d):=fun Fz B pI s σ H D I ⟨ρ,x,p⟩=>
 h (BN B ρ σ) pI s σ H D I ⟨x.aok,ρ,x.good,BS.exC x p fun d v H' _ s r x' q=>by
  cases d with
  |lst ds=>
   obtain⟨a,xs,rfl,h0,h1,rs⟩:=r.2 rfl ds rfl;exact q _ H' (x.setF s h0 h1 rs)
  |dic ds=>exact r.1.elim
  | _=>exact q.elim⟩
theorem X6(he:SC X CL W Ab e fe):SS X CL W (.Return (Aa e) pos) (fun ρ=>O.of ρ (fe ρ) fun d=>.ret d Ab):=fun Fz B pI s σ H D I ⟨ρ,x,p⟩=>
 NP (he (BN B ρ σ)) pI s σ H D I ⟨x.aok,ρ,x.good,BS.exC x p fun d v H' _ s r x' q=>q v H' x'.same (Rep.sub (fun a h=>.inl h) _ r.1) fun _ ds e=>by
  obtain⟨a,xs,h0,h1,h2,h3⟩:=r.2 rfl ds e;refine⟨a,xs,h0,fun o z=>?_,h2,Reps.sub (fun b hb=>hb.imp .inl id) _ h3⟩
  have:=x.same a o z;rw[h1]at this;cases this⟩
noncomputable def OI(ρ:Rho)(i:Ag):Ao:=match ρ[i]? with
  |some (Aa (_,o))=>o
  |_=>Ac
theorem X5(he:PE X e (Gm i)):SS X CL W (.Return (Aa e) pos) (fun ρ=>O.of ρ (En ρ i) fun d=>.ret d (OI ρ i)):=fun Fz B pI s σ H D I ⟨ρ,x,p⟩=>
 NP he pI s σ H D I (by
  dsimp only at p;cases e:En ρ i with
  |bad=>rw[e]at p;exact p.elim
  |exn z=>exact(PD e).elim
  |ok d=>
   rw[e]at p;obtain⟨o,e⟩:=QV e;have eo:OI ρ i=o:=by unfold OI;rw[e]
   rw[O.of_ok,eo]at p;cases o with
   |false=>
    obtain⟨v,q,r⟩:=x.good.sh i d e;exact⟨v,q,p v H x.same (Rep.sub (fun a h=>.inl h) _ r) fun z=>nomatch z⟩
   |true=>
    obtain⟨a,xs,ds,q,rfl,ha,hh,r⟩:=x.good.ow i d e;obtain⟨n1,n2⟩:=x.new i _ a e q;refine⟨_,q,p _ H x.same ⟨a,xs,rfl,.inl n2,SqL.of hh,Reps.sub (fun a h=>.inl h) _ r⟩ fun _ ds' e'=>?_⟩
    cases e';exact⟨a,xs,rfl,n1,hh,Reps.sub (fun b hb=>hb.elim .inl fun z=>z ▸ ha) _ r⟩)
theorem Zo{ds:Ad D}(h:DW ρ i=.ok ds):ρ[i]?=Aa (Aa (.lst ds,Ab)):=by
 unfold DW at h;split at h
 ·rename_i e;cases h;exact e
 ·cases h
theorem Xa(h:DW ρ i=.exn x):AU:=by
 unfold DW at h;split at h<;>cases h
variable{o:Ap}{i:Ag}{apos cpos:AN}
theorem aN{k:Ap}{fk:Rho->R Ov.D}{spos:AN}(ho:PE X o (Gm i))(hk:ST X CL W k fk)(he:SE X CL W e fe)(ha:∀ v,assign (.Subscript o k spos) X.env v=(do
      let ov <-holding [v] (eval o X.env)
      let iv <-holding [v,ov] (eval k X.env)
      IT spos
      holding [v,ov,iv] (setItem ov iv v)
      release [v,ov,iv] []))(hs:Gy [.Subscript o k spos] e pos.line X.env=pure Ac)(hw:FH [.Subscript o k spos] e X.env=pure Ae)(h1:(B2 [.Subscript o k spos] X.env).map (·.2)=[assign (.Subscript o k spos) X.env]):
    SS X CL W (.Assign [.Subscript o k spos] e pos) (fun ρ=>O.of ρ (fe ρ) fun d=>O.of ρ (DW ρ i) fun xs=>O.of ρ ((fk ρ).bind EA) fun j=>match plD xs.length j with
      |some n=>.next (ρ.set i (Aa (.lst (xs.set n d),Ab)))
      | none=>.bad):=fun Fz B pI s σ H D I ⟨ρ,x,p⟩=>
  RD (he (BN B ρ σ)) (dY ho (hk (BN B ρ σ)) XE ha) hs hw h1 pI s σ H D I ⟨x.aok,ρ,x.good,BS.ex x p fun d v H' _ s rv x' q'=>by
    cases e1:DW ρ i with
    |bad=>rw[e1]at q';exact q'.elim
    |exn z=>exact(Xa e1).elim
    |ok ds=>
      rw[e1,O.of_ok]at q';have hi:=Zo e1;obtain⟨a,xs,ds',q,e2,ha,hh,r⟩:=x'.good.ow i _ hi;cases e2;refine⟨_,q,x'.aok,ρ,x'.good,?_⟩;cases e3:fk ρ with
      |bad=>rw[e3]at q';exact q'.elim
      |exn z=>rw[e3]at q';exact fun H2 s2=>q' H2 fun b o z=>s2 _ _ (x'.same b o z)
      |ok dk=>
        rw[e3]at q';intro y H2 s2 ry;cases dk with
        |int j=>
          have ey:=ry.int_of;subst ey;rw[R.bind_ok,PZ,O.of_ok]at q';cases e4:plD ds.length j with
          |none=>rw[e4]at q';exact q'.elim
          |some n=>
            rw[e4]at q';refine⟨a,xs,j,n,rfl,rfl,s2 _ _ hh,?_,q' _ _ ((x'.grow s2).upd hi q (Reps.set (rv.same s2) n (r.same s2)))⟩;rw[r.length];exact e4
        | _=>exact q'.elim⟩
theorem X8{as:Ov.D->Rho->R Rho}{g:TG}(hGT:GT X.K CL as g)(hg:PG X tg g)(he:SE X CL W e fe)(hs:Gy [tg] e pos.line X.env=pure Ac)(hw:FH [tg] e X.env=pure Ae)(h1:(B2 [tg] X.env).map (·.2)=[assign tg X.env])(hax:∀ d ρ x,as d ρ≠.exn x):SS X CL W (.Assign [tg] e pos) (fun ρ=>O.of ρ (fe ρ) fun d=>O.of ρ (as d ρ) fun ρ'=>.next ρ'):=fun Fz B pI s σ H D I ⟨ρ,x,p⟩=>
 RD (he (BN B ρ σ)) hg hs hw h1 pI s σ H D I ⟨x.aok,ρ,x.good,BS.ex x p fun d v H' _ s rv x' q'=>by
  cases ea:as d ρ with
  |bad=>rw[ea]at q';exact q'.elim
  |exn z=>exact absurd ea (hax _ _ z)
  |ok ρ2=>
   rw[ea,O.of_ok]at q';exact hGT Fz B ρ σ H' v d ρ2 _ x' rv ea fun σ' x3=>q' σ' H' x3⟩
theorem X3{rest:Ad A9}{f:Rho->O}(i:Ag)(h:SSs X CL W rest f):SSs X CL W rest (fun ρ=>(match ρ[i]? with
   |some (Aa (d,Ab))=>O.next (ρ.set i (Aa (d,Ac)))
   | _=>O.next ρ).seq f):=fun Fz B=>PSs.weak (h Fz B) fun D σ H ⟨ρ,x,p⟩=>by
 dsimp only at p;split at p
 ·rename_i d e;exact⟨_,x.rel e,p⟩
 ·exact⟨ρ,x,p⟩
end
section
variable{prog:AS}{w:AC}{A:AZ}{E:Vq}{s:As}
theorem cQ{j t:Aj}{x:Ai}{Q:Vq}(st:s.heap.IsTupleIter j t k)(sq:s.heap.IsTuple t its)(at_:its[k]?=Aa x)(go:∀ h2,h2.IsTupleIter j t (k+1)->Ei j s.heap h2->Q x {s with heap:=h2}):Ay (model prog w) A (BJ (.ref j)) Q E s:=by
 obtain⟨oj,gj,cj,dj⟩:=id st;obtain⟨ot,gt,_,nt,dt⟩:=sq;show Ay _ _ (Ix _ _ >>= _) _ _ _;refine Am (Dl st.typeIs DC (Et DC st.typeIs U2 ?_ (UY _)));show Ay _ _ (field (.ref j) 0 >>= _) _ _ _;refine Am (BO gj dj (x:=.ref t) rfl ?_);show Ay _ _ (field (.ref j) 1 >>= _) _ _ _;refine Am (BO gj dj (x:=.int k 0) rfl ?_);refine Am (Dp gt dt ?_);simp only[GI,at_];exact Am (Fj gj dj (by simp) (AK ⟨x,rfl,AK (go _ ⟨_,CB _ gj (Ek (C7 dj _)),(Vb ..).trans cj,by rw[C7 dj];simp[DU]⟩ (U7 ..))⟩))
theorem WC{j t:Aj}{Q:Vq}(calm:A.handled=Ae)(st:s.heap.IsTupleIter j t k)(sq:s.heap.IsTuple t its)(at_:its[k]?=Ae)(up:∀ h2 e,Ht j s.heap h2->(∃ o,h2.get? e=Aa o/\o.cls=.type "StopIteration")->E (.ref e) {s with heap:=h2}):Ay (model prog w) A (BJ (.ref j)) Q E s:=by
 obtain⟨oj,gj,cj,dj⟩:=id st;obtain⟨ot,gt,_,nt,dt⟩:=sq;show Ay _ _ (Ix _ _ >>= _) _ _ _;refine Am (Dl st.typeIs DC (Et DC st.typeIs U2 ?_ (UY _)));show Ay _ _ (field (.ref j) 0 >>= _) _ _ _;refine Am (BO gj dj (x:=.ref t) rfl ?_);show Ay _ _ (field (.ref j) 1 >>= _) _ _ _;refine Am (BO gj dj (x:=.int k 0) rfl ?_);refine Am (Dp gt dt ?_);simp only[GI,at_];refine Am (JJ (Am (Fj gj dj (by simp) ?_)))
 refine Am ?_;simp only[newExc,newTuple];refine Am (CP ?_ (by size_fits))
 refine Am (m:=Vx _ _) (IY (a:=.none) (by first|rfl|(simp only[Vx];rfl)) (CP ?_ (by size_fits)))
 simp only[raiseNew];refine Am (wpAny_handled ?_)
 first|rw[show A.in1.handled=Ae from calm]|rw[calm]
 exact Am (AK (wpAny_throw (up _ _ (((U7 ..).extBut.push _).push _) ⟨_,AO _ rfl,rfl⟩)))
end
structure Dw (prog:AS) (w:AC) (A:AZ) (j:Aj) (fp:Ad Aj) (n:Ag) (P:Ag->Ai->Prop) (S:Ag->AD->Prop):Prop where
 frame:∀ i h h2,S i h->(∀ c∈fp,∀ o,h.get? c=Aa o->h2.get? c=Aa o)->S i h2
 item:∀ i (s:As) (Q:Vq) (E:Vq),i<n->S i s.heap->(∀ x h2 tk,P i x->S (i+1) h2->Ei j s.heap h2->Q x {s with heap:=h2,toks:=tk})->Ay (model prog w) A (BJ (.ref j)) Q E s
 done:∀ i (s:As) (Q:Vq) (E:Vq),n<=i->S i s.heap->(∀ h2 e,Ht j s.heap h2->(∃ o,h2.get? e=Aa o/\o.cls=.type "StopIteration")->E (.ref e) {s with heap:=h2})->Ay (model prog w) A (BJ (.ref j)) Q E s
def Ea(t:Ao)(h:AD)(j l:Aj)(i:Ag):Prop:=match t with
  |true=>h.IsTupleIter j l i
  |false=>h.IsListIter j l i
def DY(t:Ao)(h:AD)(l:Aj)(its:Bk Ai):Prop:=match t with
  |true=>h.IsTuple l its
  |false=>h.IsList l its
theorem Kf{A:AZ}(calm:A.handled=Ae)(t:Ao)(j l:Aj)(ne:l≠j)(its:Bk Ai):Dw prog w A j [j,l] its.size (fun i v=>its[i]?=Aa v) (fun i h=>Ea t h j l i/\DY t h l its):=by
 cases t with
 |true=>exact⟨fun _ _ _ z k=>⟨z.1.at fun o e=>k j (by simp) o e,z.2.at fun o e=>k l (by simp) o e⟩,fun i s Q E hi z q=>cQ z.1 z.2 (x:=its[i]) (by simp[hi]) fun h2 z2 sb=>q _ h2 s.toks (by simp[hi]) ⟨z2,z.2.extBut sb.extBut ne⟩ sb,fun i s Q E hi z q=>WC calm z.1 z.2 (by simp[hi]) q⟩
 |false=>exact⟨fun _ _ _ z k=>⟨z.1.at fun o e=>k j (by simp) o e,z.2.at fun o e=>k l (by simp) o e⟩,fun i s Q E hi z q=>wpAny_nextOf_list_item z.1 z.2 (x:=its[i]) (by simp[hi]) fun h2 z2 sb=>q _ h2 s.toks (by simp[hi]) ⟨z2,z.2.extBut sb.extBut ne⟩ sb,fun i s Q E hi z q=>wpAny_nextOf_list_end calm z.1 z.2 (by simp[hi]) q⟩
theorem nb1{I l c:Ag}(b:l<I)(h:c∈[I,l])(j:Ag):c≠I+(j+1):=by
 have h':c=I\/c=l:=by simpa using h
 omega
theorem nb2{I l c:Ag}(b:l<I)(h:c∈[I+1,l]):c≠I/\c≠I+3/\c≠I+4:=by
 have h':c=I+1\/c=l:=by simpa using h
 omega
theorem nij{I i j:Ag}(h:i≠j):I+i≠I+j:=by omega
theorem ni0{I i:Ag}(h:i≠0):I+i≠I:=by omega
section
variable{prog:AS}{w:AC}{A:AZ}{E:Vq}{s:As}
theorem Xk{I l1 l2 n1 n2 k:Ag}{P1 P2:Ag->Ai->Prop}{S1 S2:Ag->AD->Prop}{a b:Ai}{Q:Vq}(b1:l1<I)(b2:l2<I)(D1:Dw prog w A I [I,l1] n1 P1 S1)(D2:Dw prog w A (I+1) [I+1,l2] n2 P2 S2)(hz:F3 s.heap (I+4) (I+2) (I+3) .none)(hI:Ej s.heap (I+2) (.ref I) (.ref (I+1)))(hO:Ej s.heap (I+3) a b)(g1:S1 k s.heap)(g2:S2 k s.heap)(k1:k<n1)(k2:k<n2)(go:∀ x y h2 tk,P1 k x->P2 k y->F3 h2 (I+4) (I+2) (I+3) (DU s.heap.objs.size)->Ej h2 (I+3) x y->S1 (k+1) h2->S2 (k+1) h2->Ej h2 s.heap.objs.size x y ->
   (∀ c o,c∉[I,I+1,I+3,I+4]->s.heap.get? c=Aa o->h2.get? c=Aa o)->Q (.ref s.heap.objs.size) {s with heap:=h2,toks:=tk}):Ay (model prog w) A (Builtin.«zip.__next__» ⟨[.ref (I+4)],[]⟩) (fun fin s'=>∃ v,fin=.done (.ret v)/\Q v s') E s:=by
 refine Am (m:=field (.ref (I+4)) 2) (BO hz rfl (x:=.bool Ac) rfl ?_);refine Am (m:=field (.ref (I+4)) 3) (BO hz rfl (x:=.ref (I+2)) rfl (Am (Dp hI rfl ?_)));refine Am (m:=CM (.ref (I+4))) ?_;simp only[CM];refine Am (BO hz rfl (x:=.none) rfl (AK ?_));rw[Aw rfl];refine Am (JJ (Am (BO hz rfl (x:=.ref (I+3)) rfl (Am (Du hz (by simp) fun p1 z1 e1=>Am ?_)))))
 have z1':F3 p1 (I+4) (I+2) (I+3) .ellipsis:=z1;simp only[UE,UF,Hj,Ge];refine Am (Am (FI (Am (m:=BJ (.ref I)) (D1.item k _ _ _ k1 (D1.frame _ _ _ g1 fun c hc o q=>e1.extBut c o (nb1 b1 hc 3) q) fun x p2 t2 px s2 e2=>AK ?_))))
 have o2:Ej p2 (I+3) a b:=e2.extBut _ _ (ni0 (by decide)) (e1.extBut _ _ (nij (by decide)) hO)
 refine Am (Dp o2 rfl (Am (F7 o2 fun p3 o3 e3=>Am (IX (AK ?_)))))
 have o3':Ej p3 (I+3) x b:=o3;have g2':S2 k p3:=D2.frame _ _ _ g2 fun c hc o q=>e3.extBut c o (nb2 b2 hc).2.1 (e2.extBut c o (nb2 b2 hc).1 (e1.extBut c o (nb2 b2 hc).2.2 q))
 refine Am (Am (FI (Am (m:=BJ (.ref (I+1))) (D2.item k _ _ _ k2 g2' fun y p4 t4 py s4 e4=>AK ?_))))
 have o4:Ej p4 (I+3) x b:=e4.extBut _ _ (nij (by decide)) o3'
 refine Am (Dp o4 rfl (Am (F7 o4 fun p5 o5 e5=>Am (IX (AK (AK ?_))))))
 have o5':Ej p5 (I+3) x y:=o5;have sz:p5.objs.size=s.heap.objs.size:=by rw[e5.1,e4.1,e3.1,e2.1,e1.1]
 have z5:F3 p5 (I+4) (I+2) (I+3) .ellipsis:=e5.extBut _ _ (nij (by decide)) (e4.extBut _ _ (nij (by decide)) (e3.extBut _ _ (nij (by decide)) (e2.extBut _ _ (ni0 (by decide)) z1')))
 refine Am (Dp o5' rfl (Am (wpAny_newTuple ?_)));refine Am (m:=UT (.ref (I+4)) (.ref p5.objs.size)) ?_;simp only[UT];have z6:F3 (p5.push { cls:=.type "tuple", data:=.seq #[x,y] }) (I+4) (I+2) (I+3) .ellipsis:=Au _ z5;refine Am (Du z6 (by simp) fun p7 z7 e7=>?_)
 have z7':F3 p7 (I+4) (I+2) (I+3) (DU p5.objs.size):=z7;refine Du z7' (by simp) fun p8 z8 e8=>AK ⟨_,rfl,?_⟩
 have z8':F3 p8 (I+4) (I+2) (I+3) (DU p5.objs.size):=z8;have lt5:I+4<p5.objs.size:=AH z5;have up:∀ c o,c≠I+4->p5.get? c=Aa o->p8.get? c=Aa o:=fun c o nc q=>e8.extBut _ _ nc (e7.extBut _ _ nc (Au _ q))
 have t8:Ej p8 p5.objs.size x y:=e8.extBut _ _ (Eg lt5) (e7.extBut _ _ (Eg lt5) (AO _ rfl));have a1:S1 (k+1) p8:=D1.frame _ _ _ s2 fun c hc o q=>up c o (nb1 b1 hc 3) (e5.extBut c o (nb1 b1 hc 2) (e4.extBut c o (nb1 b1 hc 0) (e3.extBut c o (nb1 b1 hc 2) q)))
 have a2:S2 (k+1) p8:=D2.frame _ _ _ s4 fun c hc o q=>up c o (nb2 b2 hc).2.2 (e5.extBut c o (nb2 b2 hc).2.1 q)
 have kp:∀ c o,c∉[I,I+1,I+3,I+4]->s.heap.get? c=Aa o->p8.get? c=Aa o:=fun c o nc q=>by
  simp only[AB,Bi,Cm,Dz]at nc;exact up c o nc.2.2.2 (e5.extBut c o nc.2.2.1 (e4.extBut c o nc.2.1 (e3.extBut c o nc.2.2.1 (e2.extBut c o nc.1 (e1.extBut c o nc.2.2.2 q)))))
 have q:=go x y p8 t4 px py (by rw[<-sz];exact z8') (up _ _ (nij (by decide)) o5') a1 a2 (by rw[<-sz];exact t8) kp
 rw[<-sz]at q;exact q
theorem Yn{I l1 l2 n1 n2 k:Ag}{P1 P2:Ag->Ai->Prop}{S1 S2:Ag->AD->Prop}{a b:Ai}{Q:Fin->As->Prop}(b1:l1<I)(b2:l2<I)(D1:Dw prog w A I [I,l1] n1 P1 S1)(D2:Dw prog w A (I+1) [I+1,l2] n2 P2 S2)(hz:F3 s.heap (I+4) (I+2) (I+3) .none)(hI:Ej s.heap (I+2) (.ref I) (.ref (I+1)))(hO:Ej s.heap (I+3) a b)(g1:S1 k s.heap)(g2:S2 k s.heap)(hk:n1<=k\/(k<n1/\n2<=k))(up:∀ h2 e tk,(∀ c o,c∉[I,I+1,I+3,I+4]->s.heap.get? c=Aa o->h2.get? c=Aa o)->(∃ o,h2.get? e=Aa o/\o.cls=.type "StopIteration")->E (.ref e) {s with heap:=h2,toks:=tk}):Ay (model prog w) A (Builtin.«zip.__next__» ⟨[.ref (I+4)],[]⟩) Q E s:=by
 refine Am (m:=field (.ref (I+4)) 2) (BO hz rfl (x:=.bool Ac) rfl ?_);refine Am (m:=field (.ref (I+4)) 3) (BO hz rfl (x:=.ref (I+2)) rfl (Am (Dp hI rfl ?_)));refine Am (m:=CM (.ref (I+4))) ?_;simp only[CM];refine Am (BO hz rfl (x:=.none) rfl (AK ?_));rw[Aw rfl];refine Am (JJ (Am (BO hz rfl (x:=.ref (I+3)) rfl (Am (Du hz (by simp) fun p1 z1 e1=>Am ?_)))))
 have z1':F3 p1 (I+4) (I+2) (I+3) .ellipsis:=z1;simp only[UE,UF,Hj,Ge];have g1':S1 k p1:=D1.frame _ _ _ g1 fun c hc o q=>e1.extBut c o (nb1 b1 hc 3) q
 rcases hk with k1|⟨k1,k2⟩
 ·refine Am (Am (FI (Am (m:=BJ (.ref I)) (D1.done _ _ _ _ k1 g1' fun p2 e e2 he=>?_))))
  obtain⟨oe,hoe,hce⟩:=he;have z2:F3 p2 (I+4) (I+2) (I+3) .ellipsis:=e2 _ _ (ni0 (by decide)) z1'
  have ne:e≠I+4:=fun x=>by subst x;rw[z2]at hoe;cases hoe;simp at hce
  refine Du z2 (by simp) fun p3 _ e3=>up p3 e s.toks (fun c o nc q=>?_) ⟨oe,e3.extBut _ _ ne hoe,hce⟩
  simp only[AB,Bi,Cm,Dz]at nc;exact e3.extBut c o nc.2.2.2 (e2 c o nc.1 (e1.extBut c o nc.2.2.2 q))
 ·refine Am (Am (FI (Am (m:=BJ (.ref I)) (D1.item k _ _ _ k1 g1' fun x p2 t2 px s2 e2=>AK ?_))))
  have o2:Ej p2 (I+3) a b:=e2.extBut _ _ (ni0 (by decide)) (e1.extBut _ _ (nij (by decide)) hO)
  refine Am (Dp o2 rfl (Am (F7 o2 fun p3 o3 e3=>Am (IX (AK ?_)))))
  have g2':S2 k p3:=D2.frame _ _ _ g2 fun c hc o q=>e3.extBut c o (nb2 b2 hc).2.1 (e2.extBut c o (nb2 b2 hc).1 (e1.extBut c o (nb2 b2 hc).2.2 q))
  refine Am (Am (FI (Am (m:=BJ (.ref (I+1))) (D2.done _ _ _ _ k2 g2' fun p4 e e4 he=>?_))))
  obtain⟨oe,hoe,hce⟩:=he;have z4:F3 p4 (I+4) (I+2) (I+3) .ellipsis:=e4 _ _ (nij (by decide)) (e3.extBut _ _ (nij (by decide)) (e2.extBut _ _ (ni0 (by decide)) z1'))
  have ne:e≠I+4:=fun x=>by subst x;rw[z4]at hoe;cases hoe;simp at hce
  refine Du z4 (by simp) fun p5 _ e5=>up p5 e t2 (fun c o nc q=>?_) ⟨oe,e5.extBut _ _ ne hoe,hce⟩
  simp only[AB,Bi,Cm,Dz]at nc;exact e5.extBut c o nc.2.2.2 (e4 c o nc.2.1 (e3.extBut c o nc.2.2.1 (e2.extBut c o nc.1 (e1.extBut c o nc.2.2.2 q))))
end
def SqX(t:Ao)(K:Fg)(H:Hp)(a:Aj)(xs:Ad V):Prop:=match t with
  |true=>SqT K H a xs
  |false=>SqL K H a xs
theorem HX(I:Inv X pI σ H s)(h:SqX t X.K H a xs):∃ its:Ad Ai,Bf xs its/\DY t s.heap a its.toArray/\xs.length<=sizeLine:=by
 cases t with
 |true=>
  obtain⟨its,rv,p,z⟩:=I.tuple h;exact⟨its,rv,p,z⟩
 |false=>
  obtain⟨its,rv,p,z⟩:=I.list h;exact⟨its,rv,p.isList,z⟩
theorem MQ(I:Inv X pI σ H s)(h:SqX t X.K H a xs)(h2:SqX t X.K H a ys):xs=ys:=by
 cases t with
 |true=>exact I.tuple_inj h h2
 |false=>exact I.list_inj h h2
noncomputable def Itz(K:Fg)(t1 t2:Ao)(a b:Aj):It:=
  ⟨fun i H=>∃ xs ys x y,SqX t1 K H a xs/\SqX t2 K H b ys/\xs[i]?=Aa x/\ys[i]?=Aa y,
   fun i H v H'=>∃ p x y,H p=Ae/\v=.ref p/\(∀ xs,SqX t1 K H a xs->xs[i]?=Aa x)/\(∀ ys,SqX t2 K H b ys->ys[i]?=Aa y)/\H'=upd H p (.tup [x,y]),
   fun i H=>∃ xs ys,SqX t1 K H a xs/\SqX t2 K H b ys/\(xs.length<=i\/(i<xs.length/\ys.length<=i))⟩
theorem Inv.turnedL{t':Ag}(ch:Ad Aj)(I:Inv X pI σ H s)(k:∀ b o,b∉ch->s.heap.get? b=Aa o->h'.get? b=Aa o)(hf:∀ b∈ch,Go X pI H b):Inv X pI σ H {s with heap:=h',toks:=t'}:=by
 have nit:∀ b u,H b=Aa u->b∉ch:=fun b u e z=>by rw[(hf b z).1]at e;cases e
 refine I.step (g':=s.gens) (d':=s.drawn) (ch:=ch) (fun b hb=>⟨(hf b hb).2.2.2.1,(hf b hb).2.1,(hf b hb).2.2.2.2.1,(hf b hb).2.2.2.2.2⟩) (fun b o _ _ hc e _=>k b o hc e) (fun b o _ _ hc e _=>⟨o.slots,k b o hc e⟩) (fun _ _ _ _ n=>n)
  (fun b o hc e=>⟨o,k b o hc e⟩) (fun _ _ e=>e) (fun _ _ _ e=>e) (fun b ps e=>⟨#[],by rw[e];simp⟩) (fun m ⟨o,es,ep,ho,r⟩=>⟨o,es,ep,k _ o (fun z=>(hf _ z).2.1 rfl) ho,r⟩) (fun b u e=>(I.hok b u e).stay (fun c v hc q=>k c v ?_ q) (fun _ q=>q) fun _ _ q=>q) I.bare
 rcases hc with z|z
 ·rw[z];exact nit b u e
 ·exact nit c _ z
def zTn(t1 t2:Ao)(I l1 l2:Ag)(i:Ag)(h:AD):Prop:=F3 h (I+4) (I+2) (I+3) .none/\Ej h (I+2) (.ref I) (.ref (I+1))/\(∃ a b,Ej h (I+3) a b)/\Ea t1 h I l1 i/\Ea t2 h (I+1) l2 i
noncomputable def zFp(I:Ag):Ad Aj:=[I,I+1,I+2,I+3,I+4]
theorem Ea.obj{j:Aj}(z:Ea t h j l i):∃ o,h.get? j=Aa o/\∀ v,o.data≠.cell v:=by
 cases t with
 |true=>obtain⟨o,e,c,d⟩:=z;exact⟨o,e,fun v z=>by rw[d]at z;cases z⟩
 |false=>obtain⟨o,e,c,d⟩:=z;exact⟨o,e,fun v z=>by rw[d]at z;cases z⟩
theorem Ea.at'{j:Aj}(z:Ea t h j l i)(k:∀ o,h.get? j=Aa o->h2.get? j=Aa o):Ea t h2 j l i:=by
 cases t with
 |true=>exact PySem.Heap.IsTupleIter.at z k
 |false=>exact PySem.Heap.IsListIter.at z k
theorem Xx(t1 t2:Ao)(I l1 l2:Ag)(b1:l1<I)(b2:l2<I):Turn P w K (.Tuple es n pos) (Itz K t1 t2 l1 l2) (zFp I) (I+4) (zTn t1 t2 I l1 l2) where
  mem:=by simp[zFp]
  obj:=fun i h ⟨z1,z2,⟨a,b,z3⟩,z4,z5⟩ c hc=>by
    simp only[zFp,AB,Bi,Cm]at hc;rcases hc with rfl|rfl|rfl|rfl|rfl
    · exact z4.obj
    · exact z5.obj
    · exact⟨_,z2,fun v z=>by cases z⟩
    · exact⟨_,z3,fun v z=>by cases z⟩
    · exact⟨_,z1,fun v z=>by cases z⟩
  keep:=fun i h h2 ⟨z1,z2,⟨a,b,z3⟩,z4,z5⟩ k=>⟨k _ (by simp[zFp]) _ z1,k _ (by simp[zFp]) _ z2,⟨a,b,k _ (by simp[zFp]) _ z3⟩,z4.at' fun o e=>k _ (by simp[zFp]) o e,z5.at' fun o e=>k _ (by simp[zFp]) o e⟩
  item:=by
    intro X hP hw hK hc i pI s σ H E Iv hf ⟨z1,z2,⟨a,b,z3⟩,z4,z5⟩ ⟨xs,ys,x,y,q1,q2,hx,hy⟩;subst hP hw hK;obtain⟨us,rx,sx,_⟩:=HX Iv q1;obtain⟨vs,ry,sy,_⟩:=HX Iv q2;obtain⟨u,hu,ru⟩:=rx.get hx;obtain⟨v,hv,rv⟩:=ry.get hy;have hT:s.TypeIs (.ref (I+4)) "zip" := ⟨_,z1,rfl⟩;have calm:X.A.in1.handled=Ae:=Iv.ok.hd hc;show Ay _ _ (HL _) _ _ _;simp only[HL];refine Am (wpAny_attempt (Dl hT F2 (Et F2 hT U3 (Xk (k:=i) b1 b2 (Kf calm t1 I l1 (Bb b1) us.toArray) (Kf calm t2 (I+1) l2 (Bb (Dd b2)) vs.toArray) z1 z2 z3 ⟨z4,sx⟩ ⟨z5,sy⟩
      (by have:=(A7.mp hu).1;simpa using this) (by have:=(A7.mp hv).1;simpa using this) fun x' y' h2 tk px py c1 c2 c3 c4 c5 kp=>AK ?_) (UZ _))))
    have ex:x'=u:=by
      have px':us[i]?=Aa x':=by simpa using px
      rw[hu]at px';exact(Bs px').symm
    have ey:y'=v:=by
      have py':vs[i]?=Aa y':=by simpa using py
      rw[hv]at py';exact(Bs py').symm
    subst ex ey;refine⟨_,rfl,wpAny_letOwnedTupleGo_zip c1 fun h3 d1 sb=>?_⟩
    have lt4:I+4<s.heap.objs.size:=AH z1;have kp3:∀ c o,c∉zFp I->s.heap.get? c=Aa o->h3.get? c=Aa o:=fun c o nc q=>by
      simp only[zFp,AB,Bi,Cm,Dz]at nc;exact sb.extBut c o nc.2.2.2.2 (kp c o (by simp only[AB,Bi,Cm,Dz];exact⟨nc.1,nc.2.1,nc.2.2.2.1,nc.2.2.2.2⟩) q)
    have nT:∀ c∈zFp I,c≠s.heap.objs.size:=fun c hc z=>by
      have:c<=I+4:=by
        simp only[zFp,AB,Bi,Cm]at hc;rcases hc with z|z|z|z|z<;>rw[z]<;>simp
      exact absurd (z ▸ E2 this lt4) (Bu _)
    have I1:Inv X pI σ (upd H s.heap.objs.size (.tup [x,y])) { s with heap:=s.heap.push { cls:=.type "tuple", data:=.seq #[x',y'] },toks:=s.toks }:=
      Iv.laid (fun _ _ q=>Au _ q) (AY _) ⟨(by decide:2<=sizeLine),[x',y'],.cons ru (.cons rv .nil),⟨_,AO _ rfl,rfl,_,rfl⟩⟩
    have hf':∀ b∈zFp I,Go X pI (upd H s.heap.objs.size (.tup [x,y])) b:=fun b hb=>⟨by rw[By (nT b hb)];exact(hf b hb).1,(hf b hb).2⟩
    have I2:Inv X pI σ (upd H s.heap.objs.size (.tup [x,y])) {s with heap:=h3,toks:=tk}:=Inv.turnedL (s:={ s with heap:=s.heap.push { cls:=.type "tuple", data:=.seq #[x',y'] },toks:=s.toks }) (zFp I) I1 (fun c o nc q=>by
      rcases U9 q with ⟨e1,e2⟩|e1
      · subst e1 e2;exact sb.extBut _ _ (Eg lt4) c5
      · exact kp3 c o nc e1) hf'
    refine⟨.ref s.heap.objs.size,_,I2,rfl,⟨s.heap.objs.size,x,y,Iv.fresh,rfl,fun zs hz=>by rw[MQ Iv hz q1];exact hx,fun zs hz=>by rw[MQ Iv hz q2];exact hy,rfl⟩,⟨d1,sb.extBut _ _ (nij (by decide)) (kp _ _ (by simp) z2),⟨_,_,sb.extBut _ _ (nij (by decide)) c2⟩,c3.1.at' fun o q=>sb.extBut _ o (CK (ni0 (by decide))) q,c4.1.at' fun o q=>sb.extBut _ o (nij (by decide)) q⟩,fun b hb=>(hf' b hb).1⟩
  done:=by
    intro X hP hw hK hc i pI s σ H E Iv hf ⟨z1,z2,⟨a,b,z3⟩,z4,z5⟩ ⟨xs,ys,q1,q2,hk⟩;subst hP hw hK;obtain⟨us,rx,sx,_⟩:=HX Iv q1;obtain⟨vs,ry,sy,_⟩:=HX Iv q2;have hT:s.TypeIs (.ref (I+4)) "zip" := ⟨_,z1,rfl⟩;have calm:X.A.in1.handled=Ae:=Iv.ok.hd hc;have e1:=rx.length;have e2:=ry.length;simp only[HL];refine Am (wpAny_attempt (Dl hT F2 (Et F2 hT U3 (Yn (k:=i) b1 b2 (Kf calm t1 I l1 (Bb b1) us.toArray) (Kf calm t2 (I+1) l2 (Bb (Dd b2)) vs.toArray) z1 z2 z3 ⟨z4,sx⟩ ⟨z5,sy⟩
      (by simp only[AQ];omega) fun h2 e tk kp he=>?_) (UZ _))))
    obtain⟨o,ho,hcl⟩:=he;refine Am (wpAny_isInstance (T := "StopIteration") (b:=Ab) ⟨o,ho,hcl⟩ isSubtype_stop (AK ⟨rfl,Inv.turnedL [I,I+1,I+3,I+4] Iv (fun c o nc q=>kp c o nc q) fun c hc=>hf c ?_⟩))
    simp only[AB,Bi,Cm]at hc;simp only[zFp,AB,Bi,Cm];rcases hc with rfl|rfl|rfl|rfl<;>simp
  self:=fun _ _ _ _ _ st h=>VF st.1 h
section
variable{prog:AS}{w:AC}{A:AZ}{E:Vq}{s:As}
noncomputable def itO(t:Ao)(l:Aj):CW:=match t with
  |true=>{ cls:=.type "tuple_iterator", data:=.fields #[.ref l,.int 0 0] }
  |false=>{ cls:=.type "list_iterator", data:=.fields #[.ref l,.int 0 0] }
theorem Lk{Q:Vq}(h:DY t s.heap l its)(q:Q (.ref s.heap.objs.size) {s with heap:=s.heap.push (itO t l)}):Ay (model prog w) A (KD (.ref l)) Q E s:=by
 cases t with
 |true=>exact E6 h q
 |false=>exact DG h q
theorem DY.push(z:DY t h l its)(o:CW):DY t (h.push o) l its:=by
 cases t with
 |true=>exact PySem.Heap.IsTuple.at z fun _ e=>Au _ e
 |false=>exact PySem.Heap.IsList.at z fun _ e=>Au _ e
theorem N8{j:Aj}(e:h.get? j=Aa (itO t l)):Ea t h j l 0:=by
 cases t with
 |true=>exact⟨_,e,rfl,rfl⟩
 |false=>exact⟨_,e,rfl,rfl⟩
theorem Ng(t:Ao)(l:Aj):(itO t l).isFreed=Ac:=by cases t<;>rfl
noncomputable abbrev zh2(t1 t2:Ao)(h:AD)(l1 l2:Aj):AD:=(h.push (itO t1 l1)).push (itO t2 l2)
noncomputable abbrev zh3(t1 t2:Ao)(h:AD)(l1 l2:Aj):AD:=(zh2 t1 t2 h l1 l2).push { cls:=.type "tuple", data:=.seq #[.ref h.objs.size,.ref (h.push (itO t1 l1)).objs.size] }
noncomputable abbrev zh4(t1 t2:Ao)(h:AD)(l1 l2:Aj):AD:=(zh3 t1 t2 h l1 l2).push { cls:=.type "tuple", data:=.seq #[.none,.none] }
noncomputable abbrev zh5(t1 t2:Ao)(h:AD)(l1 l2:Aj):AD:=(zh4 t1 t2 h l1 l2).push { cls:=.type "zip", data:=.fields #[.none,.bool Ac,.bool Ac,.ref (zh2 t1 t2 h l1 l2).objs.size,.ref (zh3 t1 t2 h l1 l2).objs.size] }
theorem Ym(t1 t2:Ao)(l1 l2:Aj)(xs ys:Bk Ai):Meets (Builtin.«zip.__new__» ⟨[.type "zip", .ref l1,.ref l2],[]⟩) (fun _ R s=>DY t1 s.heap l1 xs/\DY t2 s.heap l2 ys/\R (.ok (.ret (.ref (zh4 t1 t2 s.heap l1 l2).objs.size))) {s with heap:=zh5 t1 t2 s.heap l1 l2}):=
 .of_wp fun prog w A R s h=>by
  obtain⟨hp,g,d,tk,os⟩:=s;obtain⟨a1,a2,q⟩:=h;have hsub:=sub_zip;have L1:DY t1 (IV ⟨hp,g,d,tk,os⟩) l1 xs:=a1;have L2:DY t2 (IV ⟨hp.push (itO t1 l1),g,d,tk,os⟩) l2 ys:=a2.push _
  wp_walk using Lk L1,Lk L2
  exact⟨_,rfl,q⟩
theorem Xl{t1 t2:Ao}{l1 l2:Aj}{xs ys:Bk Ai}{Q:Vq}(a1:DY t1 s.heap l1 xs)(a2:DY t2 s.heap l2 ys)(q:∀ h2,zTn t1 t2 s.heap.objs.size l1 l2 0 h2->(∀ c o,s.heap.get? c=Aa o->h2.get? c=Aa o)->Q (.ref (s.heap.objs.size+4)) {s with heap:=h2}):Ay (model prog w) A (call (.type "zip") [.ref l1,.ref l2]) Q E s:=by
 refine callType_new F.called_zip (by decide) (F.typeCall_zip_2 _ _) (F.newCall_zip_2 _ _) (fun obj=>F.args_object_init_3 obj _ _) F.entry_zip_new (Ym t1 t2 l1 l2 xs ys) ⟨a1,a2,?_⟩
 have s1:(s.heap.push (itO t1 l1)).objs.size=s.heap.objs.size+1:=Cc ..;have s2:(zh2 t1 t2 s.heap l1 l2).objs.size=s.heap.objs.size+2:=by rw[Cc,s1]
 have s3:(zh3 t1 t2 s.heap l1 l2).objs.size=s.heap.objs.size+3:=by rw[Cc,s2]
 have s4:(zh4 t1 t2 s.heap l1 l2).objs.size=s.heap.objs.size+4:=by rw[Cc,s3]
 have u5:∀ {c o},(zh4 t1 t2 s.heap l1 l2).get? c=Aa o->(zh5 t1 t2 s.heap l1 l2).get? c=Aa o:=fun e=>Au _ e
 have u4:∀ {c o},(zh3 t1 t2 s.heap l1 l2).get? c=Aa o->(zh5 t1 t2 s.heap l1 l2).get? c=Aa o:=fun e=>u5 (Au _ e)
 have u3:∀ {c o},(zh2 t1 t2 s.heap l1 l2).get? c=Aa o->(zh5 t1 t2 s.heap l1 l2).get? c=Aa o:=fun e=>u4 (Au _ e)
 have u2:∀ {c o},(s.heap.push (itO t1 l1)).get? c=Aa o->(zh5 t1 t2 s.heap l1 l2).get? c=Aa o:=fun e=>u3 (Au _ e)
 have g5:(zh5 t1 t2 s.heap l1 l2).get? (zh4 t1 t2 s.heap l1 l2).objs.size=Aa _:=AO _ rfl;have g4:(zh5 t1 t2 s.heap l1 l2).get? (zh3 t1 t2 s.heap l1 l2).objs.size=Aa _:=u5 (AO _ rfl);have g3:(zh5 t1 t2 s.heap l1 l2).get? (zh2 t1 t2 s.heap l1 l2).objs.size=Aa _:=u4 (AO _ rfl);have g2:(zh5 t1 t2 s.heap l1 l2).get? (s.heap.push (itO t1 l1)).objs.size=Aa _:=u3 (AO _ (Ng _ _));have g1:(zh5 t1 t2 s.heap l1 l2).get? s.heap.objs.size=Aa _:=u2 (AO _ (Ng _ _));show _/\_;rw[s2,s3,s4]at g5;rw[s3]at g4;rw[s1,s2]at g3;rw[s1]at g2;rw[s4];exact⟨⟨_,g5,rfl⟩,q _ ⟨g5,g3,⟨_,_,g4⟩,N8 g1,N8 g2⟩ fun c o e=>u2 (Au _ e)⟩
end
def mP(K:Fg)(ta:TA):TI:=fun σ H R=>ta σ H fun vs H1=>∃ t1 t2 a b xs ys,vs=[.ref a,.ref b]/\SqX t1 K H1 a xs/\SqX t2 K H1 b ys/\(xs.length<=sizeLine->R (Itz K t1 t2 a b) H1)
theorem DY.lt(z:DY t h a its):a<h.objs.size:=by
 cases t with
 |true=>obtain⟨o,e,_⟩:=z;exact AH e
 |false=>obtain⟨o,e,_⟩:=z;exact AH e
theorem dW{a b:Ap}(hg:Gl X "zip")(hm:X.mg "zip" = Ae)(ha:PA X [a,b] ta)(hs:Az [a,b] X.env=[(Ac,eval a X.env),(Ac,eval b X.env)])(hs2:Az [b] X.env=[(Ac,eval b X.env)]):
  PI X (.Tuple es n tpos) (.Call (.Name "zip" p) [a,b] [] pos) (mP X.K ta):=by
 intro pI s σ H R I h;refine Call_ (Jq I hg hm PyProof.Rows.boot_zip (CU (thn (ha pos pI s σ H _ I h) fun us s1 ⟨vs,H1,I1,r1,q1⟩=>?_) (by rw[hs,hs2]) (by rw[hs2];rfl)))
 obtain⟨t1,t2,c,d,xs,ys,e,sx,sy,q⟩:=q1;subst e;cases r1 with
 |cons r rr=>
  cases rr with
  |cons r' rr=>
   cases rr;cases r;cases r';obtain⟨us,ru,iu,zu⟩:=HX I1 sx;obtain⟨vs,rv,iv,_⟩:=HX I1 sy;refine Xl iu iv fun h2 z kp=>VF z.1 ?_
   refine⟨s1.heap.objs.size+4,zFp s1.heap.objs.size,_,_,H1,rfl,I1.kept (t':=s1.toks) kp,Xx t1 t2 s1.heap.objs.size c d iu.lt iv.lt,z,fun b hb=>?_,q zu⟩
   have hb':s1.heap.objs.size<=b:=by
    simp only[zFp,AB,Bi,Cm]at hb;rcases hb with z|z|z|z|z<;>rw[z]<;>simp
   exact I1.fpOk hb' (I1.hok.fresh hb')
theorem Oc{ds:Ad D}(r:Rep K CL H A v d)(e:Ck d=.ok ds):∃ t a xs,v=.ref a/\(∀ H2,Kp A H H2->SqX t K H2 a xs)/\Reps K CL H A xs ds:=by
 cases d with
 |lst es=>
  cases e;obtain⟨q,xs,rfl,na,sq,r⟩:=r;exact⟨Ac,q,xs,rfl,fun H2 k=>Mc k na sq,r⟩
 |tup es=>
  cases e;obtain⟨q,xs,rfl,na,sq,r⟩:=r;exact⟨Ab,q,xs,rfl,fun H2 k=>Mb k na sq,r⟩
 |_=>cases e
theorem No:∀(xs ys:Ad D),(Em xs ys).length=min xs.length ys.length
 |[],_=>by simp[Em]
 |_::_,[]=>by simp[Em]
 |x::xs,y::ys=>by
  rw[Em,Br,No xs ys];simp only[Br];omega
theorem Pz:∀(xs ys:Ad D)(i:Ag)(d:D),(Em xs ys)[i]?=Aa d->∃ x y,xs[i]?=Aa x/\ys[i]?=Aa y/\d=.tup [x,y]
 |[],_,i,d,h=>by simp[Em]at h
 |_::_,[],i,d,h=>by simp[Em]at h
 |x::xs,y::ys,0,d,h=>by
  rw[Em]at h;simp only[Uo,Cr]at h;exact⟨x,y,rfl,rfl,h.symm⟩
 |x::xs,y::ys,i+1,d,h=>by
  rw[Em]at h;simp only[Um]at h ⊢;exact Pz xs ys i d h
theorem Xm{t1 t2:Ao}{ds es:Ad D}(s1:∀ H2,Kp A H1 H2->SqX t1 K H2 a xs)(s2:∀ H2,Kp A H1 H2->SqX t2 K H2 b ys)(r1:Reps K CL H1 A xs ds)(r2:Reps K CL H1 A ys es) :Ie K CL A (Em ds es) (Itz K t1 t2 a b) H1:=fun H k i=>by
 refine⟨fun hi=>⟨xs,ys,s1 H k,s2 H k,?_⟩,fun d hd=>?_⟩
 ·rw[No]at hi;rw[r1.length,r2.length];omega
 ·obtain⟨x,y,hx,hy,rfl⟩:=Pz _ _ _ _ hd;obtain⟨u,hu,ru⟩:=r1.get hx;obtain⟨v,hv,rv⟩:=r2.get hy;refine⟨⟨xs,ys,u,v,s1 H k,s2 H k,hu,hv⟩,?_⟩;rintro w' H' ⟨p,x',y',hp,rfl,c1,c2,rfl⟩;have ex:x'=u:=Bs ((c1 xs (s1 H k)).symm.trans hu);have ey:y'=v:=Bs ((c2 ys (s2 H k)).symm.trans hv);subst ex ey;have sm:=FN hp (.tup [x',y']);exact⟨sm,fun B hB aB=>JX aB hp ⟨KN ru k hB,KN rv k hB,trivial⟩⟩
section
variable{X:Cx}{CL:ClA}{W:XW}{pos p:AN}{a b:Ap}{fa fb:Rho->R D}
theorem aS(ha:SE X CL W a fa)(hb:SE X CL W b fb)(hg:Gl X "zip")(hm:X.mg "zip" = Ae)(hs:Az [a,b] X.env=[(Ac,eval a X.env),(Ac,eval b X.env)])(hs2:Az [b] X.env=[(Ac,eval b X.env)]):
  SI X CL W (.Tuple es n tpos) (.Call (.Name "zip" p) [a,b] [] pos) (fun ρ=>(fa ρ).bind fun x=>(fb ρ).bind fun y=>(Ck x).bind fun xs=>(Ck y).bind fun ys=>.ok (Em xs ys)):=
 fun A=>PI.weak (dW hg hm (Eu (ha A) (Eu (hb A) Gz hs2) (by rw[hs,hs2])) hs hs2) fun σ H R ⟨hA,ρ,g,q⟩=>⟨hA,ρ,g,EB.ex q fun d v H1 _ s1 r1 p1=>⟨hA.same s1,ρ,g.same s1,EB.ex p1 fun d2 v2 H2 _ s2 r2 p2=>by
  cases e1:Ck d with
  |bad=>rw[e1]at p2;exact p2.elim
  |exn z=>exact absurd e1 (by cases d<;>simp[Ck])
  |ok ds=>
   cases e2:Ck d2 with
   |bad=>rw[e1,e2]at p2;exact p2.elim
   |exn z=>exact absurd e2 (by cases d2<;>simp[Ck])
   |ok es=>
    rw[e1,e2]at p2;obtain⟨t1,c1,xs,rfl,k1,rs1⟩:=Oc (r1.same s2) e1;obtain⟨t2,c2,ys,rfl,k2,rs2⟩:=Oc r2 e2;refine⟨t1,t2,c1,c2,xs,ys,rfl,k1 H2 (Kp.of (AE.refl H2)),k2 H2 (Kp.of (AE.refl H2)),fun hz=>p2 _ H2 (AE.refl H2) (Xm k1 k2 rs1 rs2) ?_⟩
    rw[No,<-rs1.length];omega⟩⟩
end
theorem Ea.live{l:Ag}(z:Ea t h j l i):∃ o,h.get? j=Aa o/\∀ v,o.data≠.cell v:=by
 cases t with
 |true=>obtain⟨o,e,c,d⟩:=z;exact⟨o,e,fun v z=>by rw[d]at z;cases z⟩
 |false=>obtain⟨o,e,c,d⟩:=z;exact⟨o,e,fun v z=>by rw[d]at z;cases z⟩
theorem Ea.keep{l:Ag}(z:Ea t h j l i)(k:∀ o,h.get? j=Aa o->h2.get? j=Aa o):Ea t h2 j l i:=by
 cases t with
 |true=>exact PySem.Heap.IsTupleIter.at z k
 |false=>exact PySem.Heap.IsListIter.at z k
theorem fP{A:AZ}(calm:A.handled=Ae)(t:Ao)(j l:Aj)(ne:l≠j)(its:Bk Ai):Draws prog w A j [j,l] its.size (fun i v=>its[i]?=Aa v) (fun i h=>Ea t h j l i/\DY t h l its):=
 have d:=Kf (prog:=prog) (w:=w) calm t j l ne its
 ⟨fun i h z=>let ⟨o,e,_⟩:=z.1.live;⟨o,e⟩,d.frame,d.item,fun s Q E h q=>d.done _ s Q E (AY _) h q⟩
theorem ZN{A:AZ}(calm:A.handled=Ae)(t:Ao)(j l:Aj)(ne:l≠j)(its:Bk Ai)(i:Ag)(hi:its.size<=i):Draws prog w A j [j,l] i (fun _ _=>AU) (fun k h=>k=i/\Ea t h j l i/\DY t h l its):=
 have d:=Kf (prog:=prog) (w:=w) calm t j l ne its
 ⟨fun _ h z=>let ⟨o,e,_⟩:=z.2.1.live;⟨o,e⟩,fun k h h' z q=>⟨z.1,d.frame i h h' z.2 q⟩,fun k s Q E lt z=>absurd z.1 (Bb lt),fun s Q E h q=>d.done i s Q E hi h.2 q⟩
noncomputable def Ite(K:Fg)(t:Ao)(a:Aj):It:=
 ⟨fun i H=>∃ xs x,SqX t K H a xs/\xs[i]?=Aa x,fun i H v H'=>∃ p x,H p=Ae/\v=.ref p/\(∀ xs,SqX t K H a xs->xs[i]?=Aa x)/\H'=upd H p (.tup [.int i,x]),fun i H=>∃ xs,SqX t K H a xs/\xs.length<=i⟩
def eTn(t:Ao)(I l:Ag)(i:Ag)(h:AD):Prop:=(∃ old,IsEnum h (I+1) I i old)/\Ea t h I l i
theorem Wp(t:Ao)(I l:Ag)(b:l<I):Turn P w K (.Tuple es n pos) (Ite K t l) [I,I+1] (I+1) (eTn t I l) where
  mem:=by simp
  obj:=fun i h ⟨⟨old,z1⟩,z2⟩ c hc=>by
    simp only[AB,Bi,Cm]at hc;rcases hc with rfl|rfl
    · exact z2.live
    · exact⟨_,z1,fun v z=>by cases z⟩
  keep:=fun i h h2 ⟨⟨old,z1⟩,z2⟩ k=>⟨⟨old,k _ (by simp) _ z1⟩,z2.keep fun o e=>k _ (by simp) o e⟩
  item:=by
    intro X hP hw hK hc i pI s σ H E Iv hf ⟨⟨old,z1⟩,z2⟩ ⟨xs,x,q1,hx⟩;subst hP hw hK;obtain⟨us,rx,px,_⟩:=HX Iv q1;obtain⟨u,hu,ru⟩:=rx.get hx;have lu:i<us.toArray.size:=by
      have:=(A7.mp hu).1;simpa using this
    refine wpAny_pyNext_enum_itemD (fP (A:=X.A.in1) (Iv.ok.hd hc) t I l (Bb b) us.toArray) z1 ⟨z2,px⟩ lu (ni0 (by decide)) (by simp only[AB,Bi,Cm,Dz];exact⟨ni0 (by decide),Eg (AR b (Nat.le_add_right _ _))⟩) fun u' h2 tk hu' ho it2 hT sz kp=>⟨_,rfl,wpAny_letOwnedTupleGo_enum ho fun h3 d1 sb=>?_⟩
    have eu:u'=u:=by
      rw[List.getElem?_toArray,hu]at hu';exact(Bs hu').symm
    subst eu;have lt:I+1<s.heap.objs.size:=AH z1;have kp3:∀ c o,c∉[I,I+1]->s.heap.get? c=Aa o->h3.get? c=Aa o:=fun c o nc q=>by
      simp only[AB,Bi,Cm,Dz]at nc;exact sb.extBut c o nc.2 (kp c o nc.2 nc.1 q)
    have nT:∀ c∈[I,I+1],c≠s.heap.objs.size:=fun c hc z=>by
      have:c<=I+1:=by
        simp only[AB,Bi,Cm]at hc;rcases hc with z|z<;>rw[z]<;>simp
      exact absurd (z ▸ E2 this lt) (Bu _)
    have I1:Inv X pI σ (upd H s.heap.objs.size (.tup [.int i,x])) { s with heap:=s.heap.push { cls:=.type "tuple", data:=.seq #[.int i tk,u'] },toks:=s.toks }:=
      Iv.laid (fun _ _ q=>Au _ q) (AY _) ⟨(by decide:2<=sizeLine),[.int i tk,u'],.cons ⟨_,rfl⟩ (.cons ru .nil),⟨_,AO _ rfl,rfl,_,rfl⟩⟩
    have hf':∀ b∈[I,I+1],Go X pI (upd H s.heap.objs.size (.tup [.int i,x])) b:=fun b hb=>⟨by rw[By (nT b hb)];exact(hf b hb).1,(hf b hb).2⟩
    have I2:Inv X pI σ (upd H s.heap.objs.size (.tup [.int i,x])) {s with heap:=h3,toks:=tk+1}:=Inv.turnedL (s:={ s with heap:=s.heap.push { cls:=.type "tuple", data:=.seq #[.int i tk,u'] },toks:=s.toks }) [I,I+1] I1 (fun c o nc q=>by
      rcases U9 q with ⟨e1,e2⟩|e1
      · subst e1 e2;exact sb.extBut _ _ (Eg lt) hT
      · exact kp3 c o nc e1) hf'
    exact⟨.ref s.heap.objs.size,_,I2,rfl,⟨s.heap.objs.size,x,Iv.fresh,rfl,fun zs hz=>by rw[MQ Iv hz q1];exact hx,rfl⟩,⟨⟨u',by simpa using d1⟩,it2.1.keep fun o q=>sb.extBut _ o (CK (ni0 (by decide))) q⟩,fun b hb=>(hf' b hb).1⟩
  done:=by
    intro X hP hw hK hc i pI s σ H E Iv hf ⟨⟨old,z1⟩,z2⟩ ⟨xs,q1,hk⟩;subst hP hw hK;obtain⟨us,rx,px,_⟩:=HX Iv q1;have e1:=rx.length;have e2:us.toArray.size<=i:=by rw[AQ,<-e1];exact hk
    refine wpAny_pyNext_enum_endD (ZN (A:=X.A.in1) (Iv.ok.hd hc) t I l (Bb b) us.toArray i e2) z1 ⟨rfl,z2,px⟩ fun h2 eb=>⟨rfl,Inv.turnedL [I] Iv (t':=s.toks) (fun c o nc q=>eb c o (fun z=>nc (by simp[z])) q) fun c hc=>hf c ?_⟩
    have:c=I:=by simpa using hc
    subst this;simp
  self:=fun _ _ _ _ _ st h=>VE st.1.choose_spec h
section
variable{prog:AS}{w:AC}{A:AZ}{E:Vq}{s:As}
theorem WX(t:Ao)(l:Aj)(xs:Bk Ai):Meets (Builtin.«enumerate.__new__» ⟨[.type "enumerate", .ref l],[]⟩) (fun _ R s=>DY t s.heap l xs /\
   R (.ok (.ret (.ref (s.heap.push (itO t l)).objs.size))) { s with heap:=(s.heap.push (itO t l)).push { cls:=.type "enumerate", data:=.fields #[.none,.bool Ac,.ref s.heap.objs.size,DU 0,.none,.none] } }):=
 .of_wp fun prog w A R s h=>by
  obtain⟨hp,g,d,tk,os⟩:=s;obtain⟨hl,h⟩:=h;have hsub:=sub_enumerate;have hL:DY t (IV ⟨hp,g,d,tk,os⟩) l xs:=hl
  wp_walk
  refine wpAny_stack_any fun st=>AK ?_
  split
  ·rename_i c _ _ _ _ _;cases (c==JE "enumerate")
   ·wp_walk using Lk hL
    exact⟨_,rfl,h⟩
   ·wp_walk using Lk hL
    exact⟨_,rfl,h⟩
  ·wp_walk using Lk hL
   exact⟨_,rfl,h⟩
theorem Wx{xs:Bk Ai}{Q:Vq}(hL:DY t s.heap l xs)(h:∀ h',IsEnum h' (s.heap.objs.size+1) s.heap.objs.size 0 .none->Ea t h' s.heap.objs.size l 0->(∀ b o,s.heap.get? b=Aa o->h'.get? b=Aa o)->Q (.ref (s.heap.objs.size+1)) {s with heap:=h'}):
    Ay (model prog w) A (call (.type "enumerate") [.ref l]) Q E s:=by
  refine callType_new F.called_enumerate (by decide) (F.typeCall_enumerate_1 _) (F.newCall_enumerate_1 _) (fun obj=>F.args_object_init_2 obj _) F.entry_enumerate_new (WX t l xs) ⟨hL,?_⟩
  have hz:(s.heap.push (itO t l)).objs.size=s.heap.objs.size+1:=Cc ..;show _/\_;rw[hz];have he:IsEnum ((s.heap.push (itO t l)).push { cls:=.type "enumerate", data:=.fields #[.none,.bool Ac,.ref s.heap.objs.size,DU 0,.none,.none] }) (s.heap.objs.size+1) s.heap.objs.size 0 .none:=by
    have:=AO (s.heap.push (itO t l)) (o:={ cls:=.type "enumerate", data:=.fields #[.none,.bool Ac,.ref s.heap.objs.size,DU 0,.none,.none] }) rfl;rw[hz]at this;exact this
  exact⟨⟨_,he,rfl⟩,h _ he (N8 (Au _ (AO _ (Ng _ _)))) fun b o x=>Au _ (Au _ x)⟩
end
def mQ(K:Fg)(ta:TA):TI:=fun σ H R=>ta σ H fun vs H1=>∃ t a xs,vs=[.ref a]/\SqX t K H1 a xs/\(xs.length<=sizeLine->R (Ite K t a) H1)
theorem Zk{a:Ap}(hg:Gl X "enumerate")(hm:X.mg "enumerate" = Ae)(ha:PA X [a] ta)(hs:Az [a] X.env=[(Ac,eval a X.env)]):
  PI X (.Tuple es n tpos) (.Call (.Name "enumerate" p) [a] [] pos) (mQ X.K ta):=by
 intro pI s σ H R I h;refine Call_ (Jq I hg hm PyProof.Rows.boot_enumerate (CU (thn (ha pos pI s σ H _ I h) fun us s1 ⟨vs,H1,I1,r1,q1⟩=>?_) hs rfl))
 obtain⟨t,c,xs,e,sx,q⟩:=q1;subst e;cases r1 with
 |cons r rr=>
  cases rr;cases r;obtain⟨us,ru,pu,zu⟩:=HX I1 sx;refine Wx pu fun h2 z1 z2 kp=>VE z1 ?_
  refine⟨s1.heap.objs.size+1,[s1.heap.objs.size,s1.heap.objs.size+1],_,_,H1,rfl,I1.kept (t':=s1.toks) kp,Wp t s1.heap.objs.size c pu.lt,⟨⟨_,z1⟩,z2⟩,fun b hb=>?_,q zu⟩
  have hb':s1.heap.objs.size<=b:=by
   simp only[AB,Bi,Cm]at hb;rcases hb with z|z<;>rw[z]<;>simp
  exact I1.fpOk hb' (I1.hok.fresh hb')
theorem Nl:∀(j:Af)(xs:Ad D),(DM j xs).length=xs.length
 |_,[]=>rfl
 |j,x::xs=>by rw[DM,Br,Nl,Br]
theorem Qc:∀(xs:Ad D)(j:Af)(i:Ag)(d:D),(DM j xs)[i]?=Aa d->∃ x,xs[i]?=Aa x/\d=.tup [.int (j+i),x]
 |[],j,i,d,h=>by simp[DM]at h
 |x::xs,j,0,d,h=>by
  rw[DM]at h;simp only[Uo,Cr]at h;exact⟨x,rfl,by rw[<-h];simp⟩
 |x::xs,j,i+1,d,h=>by
  rw[DM]at h;simp only[Um]at h ⊢;obtain⟨y,h1,h2⟩:=Qc xs (j+1) i d h;exact⟨y,h1,by rw[h2];congr 3;omega⟩
theorem Wl{ds:Ad D}(sq:∀ H2,Kp A H1 H2->SqX t K H2 a xs)(r1:Reps K CL H1 A xs ds):Ie K CL A (DM 0 ds) (Ite K t a) H1:=fun H k i=>by
 have s1:=sq H k;refine⟨fun hi=>⟨xs,s1,?_⟩,fun d hd=>?_⟩
 ·rw[Nl]at hi;rw[r1.length];exact hi
 ·obtain⟨x,hx,rfl⟩:=Qc _ _ _ _ hd;obtain⟨u,hu,ru⟩:=r1.get hx;refine⟨⟨xs,u,s1,hu⟩,?_⟩;rintro w' H' ⟨p,x',hp,rfl,c1,rfl⟩;have ex:x'=u:=Bs ((c1 xs s1).symm.trans hu);subst ex;rw[DO];exact⟨FN hp (.tup [.int i,x']),fun B hB aB=>JX aB hp ⟨rfl,KN ru k hB,trivial⟩⟩
section
variable{X:Cx}{CL:ClA}{W:XW}{pos p:AN}{a:Ap}{fa:Rho->R D}
theorem Yg(ha:SE X CL W a fa)(hg:Gl X "enumerate")(hm:X.mg "enumerate" = Ae)(hs:Az [a] X.env=[(Ac,eval a X.env)]):
  SI X CL W (.Tuple es n tpos) (.Call (.Name "enumerate" p) [a] [] pos) (fun ρ=>(fa ρ).bind fun x=>(Ck x).bind fun xs=>.ok (DM 0 xs)):=
 fun A=>PI.weak (Zk hg hm (Eu (ha A) Gz hs) hs) fun σ H R ⟨hA,ρ,g,q⟩=>⟨hA,ρ,g,EB.ex q fun d v H1 _ s1 r1 p1=>by
  cases e1:Ck d with
  |bad=>rw[e1]at p1;exact p1.elim
  |exn z=>exact absurd e1 (by cases d<;>simp[Ck])
  |ok ds=>
   rw[e1]at p1;obtain⟨t,c,xs,rfl,k1,rs⟩:=Oc r1 e1;exact⟨t,c,xs,rfl,k1 H1 (Kp.of (AE.refl H1)),fun hz=>p1 _ H1 (AE.refl H1) (Wl k1 rs) (by rw[Nl,<-rs.length];exact hz)⟩⟩
end
noncomputable abbrev TH(h:AD)(z TI TO:Aj)(f0 f1:Ai):Prop:=h.get? z=Aa { cls:=.type "zip", dict:=Ae,data:=.fields #[f0,f1,.bool Ac,.ref TI,.ref TO],slots:=#[] }
noncomputable abbrev TJ(h:AD)(T:Aj)(a b c:Ai):Prop:=h.get? T=Aa { cls:=.type "tuple", data:=.seq #[a,b,c] }
section
variable{prog:AS}{w:AC}{A:AZ}{E:Vq}{s:As}
def Z3(t1 t2 t3:Ao)(I l1 l2 l3 i:Ag)(h:AD):Prop:=TJ h (I+3) (.ref (I+0)) (.ref (I+1)) (.ref (I+2))/\Ea t1 h (I+0) l1 i/\Ea t2 h (I+1) l2 i/\Ea t3 h (I+2) l3 i/\(∃ a b c,TJ h (I+4) a b c) /\
 (TH h (I+5) (I+3) (I+4) .none (.bool Ac)\/∃(T1:Ag)(f1:Ao),TH h (I+5) (I+3) (I+4) (DU T1) (.bool f1))
end
section
variable{prog:AS}{w:AC}{A:AZ}{R:Ir->As->Prop}
theorem DY.at'(z:DY t h l its)(k:∀ o,h.get? l=Aa o->h2.get? l=Aa o):DY t h2 l its:=by
 cases t with
 |true=>exact PySem.Heap.IsTuple.at z k
 |false=>exact PySem.Heap.IsList.at z k
theorem Z3.at'{t1 t2 t3:Ao}{I l1 l2 l3 i:Ag}{h h2:AD}(z:Z3 t1 t2 t3 I l1 l2 l3 i h)(k:∀ j,j<=5->∀ o,h.get? (I+j)=Aa o->h2.get? (I+j)=Aa o):Z3 t1 t2 t3 I l1 l2 l3 i h2:=by
 obtain⟨zI,i1,i2,i3,⟨a,b,c,hO⟩,zz⟩:=z;exact⟨k 3 (by decide) _ zI,i1.at' fun o q=>k 0 (by decide) o q,i2.at' fun o q=>k 1 (by decide) o q,i3.at' fun o q=>k 2 (by decide) o q,⟨a,b,c,k 4 (by decide) _ hO⟩,zz.imp (k 5 (by decide) _) fun ⟨T1,f1,hz⟩=>⟨T1,f1,k 5 (by decide) _ hz⟩⟩
end
section
variable{prog:AS}{w:AC}{A:AZ}{E:Vq}{s:As}
end
theorem Z3.ty{t1 t2 t3:Ao}{I l1 l2 l3 i:Ag}(z:Z3 t1 t2 t3 I l1 l2 l3 i s.heap):s.TypeIs (.ref (I+5)) "zip" := by
 obtain⟨_,_,_,_,_,hz|⟨_,_,hz⟩⟩:=z
 ·exact⟨_,hz,rfl⟩
 ·exact⟨_,hz,rfl⟩
theorem Z3.lt{t1 t2 t3:Ao}{I l1 l2 l3 i:Ag}(z:Z3 t1 t2 t3 I l1 l2 l3 i s.heap):I+5<s.heap.objs.size:=by
 obtain⟨o,h,_⟩:=z.ty;exact AH h
section
variable{prog:AS}{w:AC}{A:AZ}{E:Vq}{s:As}
end
section
variable{X:Cx}{CL:ClA}{W:XW}{pos p pos' p':AN}{a b c:Ap}{fa fb fc:Rho->R D}
end
section
variable{X:Cx}{CL:ClA}{W:XW}{pos p tpos:AN}{a b c:Ap}{fa fb fc:Rho->R D}{x:Ah}
end
section
variable{X:Cx}{CL:ClA}{W:XW}{a:Ap}{fa:Rho->R D}
end
section
variable{X:Cx}{CL:ClA}{W:XW}{o o' e:Ap}{fe:Rho->R D}{i j:Ag}{apos cpos apos' cpos' pos:AN}
end
section
variable{X:Cx}{CL:ClA}{W:XW}
end
section
variable{X:Cx}
variable{CL:ClA}{W:XW}{pos p pos' p':AN}{a b:Ap}{fa fb:Rho->R D}
end
section
variable{X:Cx}{CL:ClA}{W:XW}{e o o' k l:Ap}{fe:Rho->R Ov.D}{i ik il:Ag}{pos spos spos' tpos:AN}{kt:Ag}
end
section
variable{prog:AS}{w:AC}{A:AZ}{E:Vq}{s:As}
theorem PL{it t:Aj}{items:Bk Ai}(hne:t≠it):∀(n i:Ag)(s:As)(Q:Ad Ai->As->Prop),s.heap.IsListIter it t i->s.heap.IsList t items->i+n<=items.size->(∀ h',h'.IsListIter it t (i+n)->Ei it s.heap h'->Q ((items.toList.drop i).take n) {s with heap:=h'})->Ay (model prog w) A (draw (.ref it) n) Q E s
 |0,i,s,Q,hit,_,_,hQ=>by
  show Ay _ _ (pure []) Q E s;exact AK (by simpa using hQ s.heap hit (U6 ..))
 |n+1,i,s,Q,hit,ht,hle,hQ=>by
  have hlt:i<items.size:=by omega
  show Ay _ _ (HL (.ref it) >>= _) Q E s;refine Am (VH hit ht (x:=items[i]) (by simp[hlt]) fun h₁ hit₁ hs₁=>?_)
  refine Am (Ca (PL hne n (i+1) _ _ hit₁ (ht.extBut hs₁.extBut hne) (by omega) fun h₂ hit₂ hs₂=>AK ?_))
  have hd:items.toList.drop i=items[i]::items.toList.drop (i+1):=by simp[ER,hlt]
  have:=hQ h₂ (by rw[show i+(n+1)=i+1+n by omega];exact hit₂) (hs₁.trans hs₂)
  rw[hd,List.take_succ_cons]at this;exact this
theorem VI{t:Aj}{Q:Ad Ai->As->Prop}(hh:A.handled=Ae)(ht:s.heap.IsList t items)(hQ:∀ h',Ht s.heap.objs.size s.heap h'->Q items.toList {s with heap:=h'}):Ay (model prog w) A (unpackItems (.ref t) items.size Ae) Q E s:=by
 have hlt:t≠s.heap.objs.size:=by obtain⟨o,ho,_⟩:=ht;exact Bb (AH ho)
 have htp:(s.heap.push { cls:=.type "list_iterator", data:=.fields #[.ref t,.int 0 0] }).IsList t items:=by
  obtain⟨o,ho,r⟩:=ht;exact⟨o,Au _ ho,r⟩
 unfold unpackItems;refine Am ?_
 ·unfold notIterableAtAll;refine Am (wpAny_specialOf ht.typeIs slot_list_iter.lookup ?_);refine AK ?_;simp only[T6,Ij];refine Am (Ca (DG ht ?_));refine Am (Ca (PL hlt items.size 0 _ _ ⟨_,AO _ rfl,rfl,rfl⟩ htp (by omega) fun h₁ hit₁ hs₁=>?_))
  have hall:List.take items.size (List.drop 0 items.toList)=items.toList:=by
   rw[List.drop_zero];exact List.take_of_length_le (by simp)
  rw[hall];rw[AA (by simp)]
  have ht₁:h₁.IsList t items:=htp.extBut hs₁.extBut hlt;refine Am (Ca (VG hh hit₁ ht₁ (by simp) fun h₂ he₂=>?_))
  simp only[Option.isSome_none,T6,Ij];refine AK (hQ h₂ fun b o hb e=>he₂ b o hb (hs₁.extBut b o hb (Au _ e)))
theorem VL{elts:Ad Ap}{x1}{t:Aj}{Q:FM->As->Prop}(hh:A.handled=Ae)(ht:s.heap.IsList t items) (hn:(B2 elts env).length=items.size) (hstar:(B2 elts env).findIdx? (·.1)=Ae) (h:∀ h',Ht s.heap.objs.size s.heap h'->Ay (model prog w) A (assignInOrder ((B2 elts env).map (·.2)) items.toList) Q E {s with heap:=h'}):Ay (model prog w) A (assign (.Tuple elts x1 pos) env (.ref t)) Q E s:=by
 rw[assign_Tuple];refine Am (DE ?_);unfold unpack;rw[hn,hstar];exact Am (Ca (VI hh ht h))
end
section
variable{X:Cx}{pos:AN}{CL:ClA}
def gSq(K:Fg)(n:Ag)(t:TGs):TG:=fun v σ H Q=>Kl K n t v σ H Q\/∃ a xs,v=.ref a/\SqL K H a xs/\xs.length=n/\t xs σ H Q
theorem kB{t:TGs}(hc:X.calm=Ab)(h:PGs X es t)(hn:(B2 es X.env).length=n)(hst:(B2 es X.env).findIdx? (·.1)=Ae):PG X (.Tuple es k pos) (gSq X.K n t):=by
 intro pI s σ H v u Q I r hw;rcases hw with hw|hw
 ·exact NL hc h hn hst pI s σ H v u Q I r hw
 ·obtain⟨a,xs,e1,hq,hl,hw⟩:=hw;subst e1;cases r;obtain⟨its,rv,ht,hz⟩:=I.list hq;refine VL (I.ok.hd hc) ht.isList (by simp[hn,<-hl,rv.length]) hst fun h' hx=>?_
  have I1:Inv X pI σ H {s with heap:=h'}:=I.kept (t':=s.toks) fun b o e=>hx b o (Bb (AH e)) e
  exact h pI _ σ H xs _ Q I1 (by simpa using rv) hw
theorem jE(ts:Ad Ag):GT K CL (Hx ts) (gSq K ts.length (ts.foldr (fun t u=>G7 (EN t) u) He)):=fun Fz B ρ σ H v d ρ' Q x r e k=>by
 cases d with
 |lst ds=>
  obtain⟨a,xs,rfl,na,sq,rs⟩:=r;rw[Ws]at e;cases e2:Ev ts ds ρ with
  |none=>rw[e2]at e;cases e
  |some ρ2=>
   rw[e2]at e;cases e;exact .inr ⟨a,xs,rfl,sq,by rw[rs.length];exact LG _ _ _ _ e2,NZ ts ds xs ρ _ σ Q x rs e2 k⟩
 |_=>exact .inl (RK ts Fz B ρ σ H v _ ρ' Q x r e k)
end
section
variable{X:Cx}{CL:ClA}{W:XW}
end
end Ov
namespace Ov
open PySem PySem.W PyProof.Rows
variable{p:Bk Ag}{m:Ag}
def Kr{α:Type}(lt:Ag->Ag->Ao)(n:Ag):KasT α->(α->Prop)->Prop
 |.ret a,Q=>Q a
 |.ask i j k,Q=>i<n/\j<n/\Kr lt n (k (lt i j)) Q
theorem Kr.mono{α:Type}{lt:Ag->Ag->Ao}{n:Ag}{Q Q':α->Prop}:∀{t:KasT α},Kr lt n t Q->(∀ a,Q a->Q' a)->Kr lt n t Q'
 |.ret _,h,k=>k _ h
 |.ask i j f,h,k=>⟨h.1,h.2.1,Kr.mono (t:=f (lt i j)) h.2.2 k⟩
theorem Kr.bind{α β:Type}{lt:Ag->Ag->Ao}{n:Ag}{f:α->KasT β}{Q:β->Prop}:∀{t:KasT α},Kr lt n t (fun a=>Kr lt n (f a) Q)->Kr lt n (t.bind f) Q
 |.ret _,h=>h
 |.ask i j k,h=>⟨h.1,h.2.1,Kr.bind (t:=k (lt i j)) h.2.2⟩
structure Sto (lt:Ag->Ag->Ao) (n:Ag):Prop where
 tr:∀ i j k,i<n->j<n->k<n->lt i j=Ab->lt j k=Ab->lt i k=Ab
 tot:∀ i j,i<n->j<n->i≠j->lt i j=Ac->lt j i=Ab
 asy:∀ i j,i<n->j<n->lt i j=Ab->lt j i=Ac
noncomputable def at0(p:Bk Ag)(x:Ag):Ag:=p.getD x 0
structure Pm (n:Ag) (p:Bk Ag):Prop where
 sz:p.size=n
 lt:∀ x,x<n->at0 p x<n
 inj:∀ x y,x<n->y<n->at0 p x=at0 p y->x=y
section
variable{lt:Ag->Ag->Ao}{n:Ag}
def OP(lt:Ag->Ag->Ao)(p:Bk Ag)(m:Ag):Prop:=∀ x y,x<y->y<m->lt (at0 p x) (at0 p y)=Ab
def OR(lt:Ag->Ag->Ao)(p:Bk Ag)(m:Ag):Prop:=∀ x y,x<y->y<m->lt (at0 p y) (at0 p x)=Ab
theorem OP.succ(S:Sto lt n)(hp:Pm n p)(h1:1<=m)(hm:m<n)(h:OP lt p m)(e:lt (at0 p (m-1)) (at0 p m)=Ab):OP lt p (m+1):=fun x y hxy hy=>by
 by_cases hym:y<m
 ·exact h x y hxy hym
 ·have:y=m:=by omega
  subst this;by_cases hx:x=y-1
  ·rw[hx];exact e
  ·exact S.tr _ _ _ (hp.lt _ (by omega)) (hp.lt _ (by omega)) (hp.lt _ hm) (h x (y-1) (by omega) (by omega)) e
theorem OR.succ(S:Sto lt n)(hp:Pm n p)(h1:1<=m)(hm:m<n)(h:OR lt p m)(e:lt (at0 p m) (at0 p (m-1))=Ab):OR lt p (m+1):=fun x y hxy hy=>by
 by_cases hym:y<m
 ·exact h x y hxy hym
 ·have:y=m:=by omega
  subst this;by_cases hx:x=y-1
  ·rw[hx];exact e
  ·exact S.tr _ _ _ (hp.lt _ hm) (hp.lt _ (by omega)) (hp.lt _ (by omega)) e (h x (y-1) (by omega) (by omega))
end
section
variable{prog:AS}{w:AC}{A:AZ}{E:Vq}{κ:SortKind}{it:Bk Keyed}
end
section
variable{lt:Ag->Ag->Ao}{n:Ag}
end
def Nq(h:AD)(v:Ai)(r:Ad Af):Prop:=∃ a its,v=.ref a/\Jz h a its/\HE its.toList r/\r≠[]
theorem Nq.kept{h h':AD}{v:Ai}{r:Ad Af}(t:Nq h v r)(k:∀ b o,h.get? b=Aa o->h'.get? b=Aa o):Nq h' v r:=by
 obtain⟨a,its,e,⟨o,ho,q⟩,i,n⟩:=t;exact⟨a,its,e,⟨o,k _ _ ho,q⟩,i,n⟩
section
variable{prog:AS}{w:AC}{A:AZ}{E:Vq}{s:As}
end
end Ov
namespace Ov
open PySem PySem.Spec PyProof.Rows L2
variable{h h':AD}{P:AS}{w:AC}{H H':Hp}{a T' C C' OV:Aj}{oe:CW}{vs:Bk Ai}{Q:FM->As->Prop}{a0 oc:Ai}{X:Cx}{pI:Pn}{σ σ0:L2.St}{K:Fg}{m:Ah->An Ai}{x n g name qual z x0 x1:Ah}{v:An Ai}{M:Gp}{tk:CN}{fill expr fr:Ao}{φ:AD->Prop}{CL:ClA}{Fz:Aj->HO->Prop}{B A:Aj->Prop}{W:XW}{hs body:Ad A9}{h0:A9}{p1 hp pos p pos' np cpos:AN}{fh:Rho->O}{dx an od:An Aj}{y:Ex}{up:Ag->Ad Ag}{CX:CXT}{k c kk l:Ag}{fd:BP}{ps:Ad Ah}{sp:Sp}{F:Ad D->R D}{fs:Rho->R (Ad D)}{Xw:Vq}{xn:Ag->Ad D->R Ex}{d:D}{scope:B9}{osl:Bk (An Ai)}{α:Type}{xs ys:Ad Ap}{env:B5}{ts:Ad Ag}{as:Es}
section
variable{X:Cx}{CL:ClA}{W:XW}
end
section
variable{X:Cx}
variable{CL:ClA}{W:XW}{pos p pos' p':AN}{a:Ap}{fa:Rho->R D}
end
section
end
section
variable{X:Cx}
variable{CL:ClA}{W:XW}{o e:Ap}{fe:Rho->R D}{i:Ag}{apos cpos pos:AN}
end
section
open PySem.AutoSeq1 (wpAny_loadPart')
end
section
variable{prog:AS}{w:AC}{A:AZ}{R:Ir->As->Prop}{I S T:Aj}{u v:Ai}{c:Ag}{P:Ag->Ai->Prop}{St:Ag->AD->Prop}{s:As}{r q:Ad Af}
end
section
variable{X:Cx}{CL:ClA}{W:XW}
end
def Mx(e T:Aj)(cls:Ai)(dx:An Aj)(fl:Ai)(h:AD):Prop:=∃ oe vs oT ts a0,h.get? e=Aa oe/\oe.cls=cls/\oe.dict=dx/\vs[0]?=Aa a0/\oe.data=.fields vs/\vs[1]?=Aa (.ref T)/\T≠e/\h.get? T=Aa oT/\oT.data=.fields ts/\ts[3]?=Aa fl
noncomputable abbrev Fly(e T:Aj)(cls:Ai)(dx:An Aj)(h:AD):Prop:=Mx e T cls dx Dr h
noncomputable def FO(C:Aj)(dx:An Aj)(t:Aj):CW:={cls:=.ref C,dict:=dx,data:=.fields #[.ref t,.none,.none,.none,.bool Ac,.none]}
structure Shift (ex fs:Ad Aj) (h h':AD):Prop where
 keep:∀ b o,h.get? b=Aa o->b∉ex->b∉fs->h'.get? b=Aa o
 slot:∀ b o,h.get? b=Aa o->b∈fs->∃ sl,h'.get? b=Aa {o with slots:=sl}
theorem Shift.trans{ex fs:Ad Aj}{h1 h2:AD}(a:Shift ex fs h h1)(b:Shift ex fs h1 h2):Shift ex fs h h2:=
 ⟨fun c o q n m=>b.keep c o (a.keep c o q n m) n m,fun c o q m=>by
  obtain⟨sl,e1⟩:=a.slot c o q m;obtain⟨sl',e2⟩:=b.slot c _ e1 m;exact⟨sl',e2⟩⟩
theorem ObjOk.isThere:∀(o:HO),L2.ObjOk P w H h a o->∃ ob,h.get? a=Aa ob
 |.lst _,x=>by obtain⟨_,_,_,_,e⟩:=x;exact⟨_,e⟩
 |.tup _,x=>by obtain⟨_,_,_,p⟩:=x;obtain⟨o,e,_⟩:=p;exact⟨_,e⟩
 |.dK _,x=>by obtain⟨_,_,_,_,o,_,_,e,_⟩:=x;exact⟨_,e⟩
 |.dT _,x=>by obtain⟨_,_,_,_,o,_,_,e,_⟩:=x;exact⟨_,e⟩
 |.set _ _,x=>by obtain⟨o,_,_,_,e,_⟩:=x;exact⟨_,e⟩
 |.ins _ _ _,x=>by obtain⟨_,_,_,e,_⟩:=x;exact⟨_,e⟩
 |.own _,x=>x
 |.xd _,x=>by obtain⟨_,⟨_,_,_,e,_⟩,_⟩:=x;exact⟨_,e⟩
 |.met _ _,x=>⟨_,x⟩
 |.rng _ _,x=>by obtain⟨_,_,_,e⟩:=x;exact⟨_,e⟩
 |.frz _ _,x=>⟨_,x.1⟩
 |.tbl _,x=>⟨_,x⟩
 |.ext _,x=>x.2.1
theorem J5(x:HOk P w H h)(e:h.get? a=Ae):H a=Ae:=by
 cases q:H a with
 |none=>rfl
 |some o=>
  obtain⟨ob,z⟩:=ObjOk.isThere o (x a o q);rw[e]at z;cases z
theorem HOk.shift{ex fs:Ad Aj}(x:HOk P w H h)(sh:Shift ex fs h h')(h1:∀ b∈ex,H b=Ae)(h2:∀ b∈fs,H b=Ae):HOk P w H h':=fun a o e=>
 (x a o e).stay (fun b u hb q=>by
  have hs:∃ v,H b=Aa v:=by
   rcases hb with rfl|hb
   ·exact⟨_,e⟩
   ·exact⟨_,hb⟩
  obtain⟨v,hv⟩:=hs;exact sh.keep b u q (fun z=>by rw[h1 b z]at hv;cases hv) (fun z=>by rw[h2 b z]at hv;cases hv)) (fun _ q=>q) fun _ _ q=>q
theorem Un.shift{fs0 fs ex:Ad Aj}{h0:AD}(u:Un fs0 [] H H' h0 h)(sh:Shift ex fs h h')(h1:∀ b∈ex,h0.get? b=Ae)(h2:∀ b∈fs,b∈fs0\/h0.get? b=Ae):Un fs0 [] H H' h0 h' where
 keep:=fun b o q n hb hx=>sh.keep b o (u.keep b o q n hb hx) (fun z=>by rw[h1 b z]at q;cases q) fun z=>(h2 b z).elim hb fun e=>by rw[e]at q;cases q
 slot:=fun b o q n hb hx=>by
  obtain⟨sl,e1⟩:=u.slot b o q n hb hx;by_cases hf:b∈fs
  ·obtain⟨sl',e2⟩:=sh.slot b _ e1 hf;exact⟨sl',e2⟩
  ·exact⟨sl,sh.keep b _ e1 (fun z=>by rw[h1 b z]at q;cases q) hf⟩
 free:=u.free
 there:=fun b o q hx=>by
  obtain⟨o',e1⟩:=u.there b o q hx;by_cases hf:b∈fs
  ·obtain⟨sl',e2⟩:=sh.slot b _ e1 hf;exact⟨_,e2⟩
  ·exact⟨o',sh.keep b _ e1 (fun z=>by rw[h1 b z]at q;cases q) hf⟩
 tups:=u.tups
 frzs:=u.frzs
 tbls:=u.tbls
theorem ZR(f:Bk Ai->Bk Ai)(o:CW):(FE f o).dict=o.dict:=by
 obtain⟨c,d,dt,sl⟩:=o;cases dt<;>rfl
section
variable{M:Gp}{A:AZ}{E:Vq}{s:As}{env:B5}{outer:Ad B5}{L e T:Aj}{cls:Ai}{dx:An Aj}{base h:AD}
theorem Pc{hd:Ai}{nx:Ao}(hfr:A.frames=Aa (env::outer))(hf:env.frame=Aa L)(ff:s.heap.FunFrames base (env::outer))(he:s.heap.get? e=Aa oe)(dt:oe.data=.fields vs)(hz:1<vs.size)(hQ:∀ h' T' oT ts,h'.get? e=Aa (FE (·.setIfInBounds 1 (.ref T')) oe)->T'≠e->s.heap.get? T'=Ae->h'.get? T'=Aa oT->oT.data=.fields ts->ts[3]?=Aa (DU L)->Shift [e] (frs (env::outer)) s.heap h'->Q () {s with heap:=h'}):
  Ay M A (do
   let fr <-frameOf env
   let pl <-entryPlaceOf L nx
   let en <-UW hd fr .none (DU L) .none pl
   setField (.ref e) 1 en) Q E s:=by
 have nf:e∉frs (env::outer):=fun z=>by
  obtain⟨_,o,q,n⟩:=ff.mem z;rw[he]at q;cases q;exact n vs dt
 refine Am (wpAny_frameOf_fun hfr ff hf fun k1 so=>Am (wpAny_entryPlaceOf fun pl ip=>?_))
 obtain⟨sz,sm,sl⟩:=so;have e1:k1.get? e=Aa oe:=(sm e nf).trans he;unfold UW;unfold newFields;refine Am (CP ?_ (ip.sizeOk5 _ _ _ _ _));generalize hX:({ cls:=.type "traceback", dict:=Ae,data:=.fields ([hd,.ref L,.none,DU L,.none]++(if pl.isEmpty then Gf 6 Dr else pl)).toArray }:CW)=ob
 have od:ob.data=.fields ([hd,.ref L,.none,DU L,.none]++(if pl.isEmpty then Gf 6 Dr else pl)).toArray:=by rw[<-hX]
 have nl:k1.objs.size≠e:=Eg (AH e1);have e2:=Au ob e1;refine Fj e2 dt hz ?_;have up:∀ b,b≠e->((k1.push ob).update e (FE (·.setIfInBounds 1 (.ref k1.objs.size)))).get? b=(k1.push ob).get? b:=fun b nb=>Cq _ _ (CK nb)
 have lf:ob.isFreed=Ac:=by rw[<-hX];rfl
 refine hQ _ k1.objs.size ob _ (CB _ e2 (Ek (C7 dt _))) nl ?_ ((up _ nl).trans (AO k1 lf)) od ?_ ⟨fun b o q n1 n2=>?_,fun b o q hb=>?_⟩
 ·rw[sz];exact Dc (AY _)
 ·simp
 ·have nb:b≠e:=fun z=>n1 (by rw[z];exact AI)
  rw[up b nb];exact Au ob ((sm b n2).trans q)
 ·obtain⟨sl',q'⟩:=sl b o q;have nb:b≠e:=fun z=>nf (z ▸ hb)
  exact⟨sl',(up b nb).trans (Au ob q')⟩
theorem PK{oT:CW}{ts:Bk Ai}{fl:Ai}(hc:oe.cls=cls)(hx:oe.dict=dx)(h0:vs[0]?=Aa a0)(dt:oe.data=.fields vs)(hz:1<vs.size)(g:h'.get? e=Aa (FE (·.setIfInBounds 1 (.ref T')) oe))(ne:T'≠e)(gT:h'.get? T'=Aa oT)(dT:oT.data=.fields ts)(f3:ts[3]?=Aa fl):Mx e T' cls dx fl h':=
 ⟨_,_,oT,ts,a0,g,(Vb _ _).trans hc,(ZR _ _).trans hx,by rw[Array.getElem?_setIfInBounds_ne (by decide)];exact h0,C7 dt _,by simp[hz],ne,gT,dT,f3⟩
theorem JU{i:Ag}{v:Ai}(q:vs[i]?=Aa v):i<vs.size:=(Array.getElem?_eq_some_iff.mp q).1
theorem Qa(hfr:A.frames=Aa (env::outer))(hf:env.frame=Aa L)(ff:s.heap.FunFrames base (env::outer))(fl:Fly e T cls dx s.heap)(hQ:∀ h' T',Mx e T' cls dx (DU L) h'->Shift [e,T] (frs (env::outer)) s.heap h'->s.heap.get? T'=Ae->Q () {s with heap:=h'}):Ay M A (Gv (.ref e) env) Q E s:=by
 obtain⟨oe,vs,oT,ts,a0,he,hc,hx,h0,dt,h1,ne,hT,dT,h3⟩:=fl;have z3:=JU h3;unfold Gv;simp only[hf];refine Am (BO he dt h1 ?_);rw[Aw (by simp:(Ci T != Dr)=Ab)]
 refine Am (BO hT dT h3 ?_);rw[AA (by simp[DU]:¬ (Dr==DU L)=Ab)]
 refine Am (Fj hT dT z3 ?_);have up:∀ b,b≠T->(s.heap.update T (FE (·.setIfInBounds 3 Dr))).get? b=s.heap.get? b:=fun b nb=>Cq _ _ (CK nb)
 have rcd:∀ b o,s.heap.get? b=Aa o->(∀ us,o.data≠.fields us)->b≠T:=fun b o q n z=>by
  rw[z,hT]at q;cases q;exact n ts dT
 refine Pc (base:=base) hfr hf (ff.of_keeps fun b o q n=>⟨o,(up b (rcd b o q n)).trans q,rfl⟩) ((up e (CK ne)).trans he) dt (JU h1) fun h' T' oT' ts' g nT gn gT dT' f3 sh=>?_
 have T0:s.heap.get? T'=Ae:=by
  by_cases z:T'=T
  ·rw[z]at gn;rw[CB _ hT (Ek (C7 dT _))]at gn;cases gn
  ·rw[<-up T' z];exact gn
 refine hQ h' T' (PK hc hx h0 dt (JU h1) g nT gT dT' f3) ⟨fun b o q n1 n2=>?_,fun b o q hb=>?_⟩ T0
 ·simp only[AB,Bi,Cm,Dz]at n1;exact sh.keep b o ((up b n1.2).trans q) (by simp[n1.1]) n2
 ·obtain⟨_,o',q',n⟩:=ff.mem hb;rw[q]at q';cases q';exact sh.slot b o ((up b (rcd b o q n)).trans q) hb
theorem LV{fv:Ai}(fl:Mx e T cls dx fv s.heap)(hQ:∀ h',Fly e T cls dx h'->(∀ b o,b≠T->s.heap.get? b=Aa o->h'.get? b=Aa o)->Q () {s with heap:=h'}):Ay M A (Hr (.ref e) Ae) Q E s:=by
 obtain⟨oe,vs,oT,ts,a0,he,hc,hx,h0,dt,h1,ne,hT,dT,h3⟩:=fl;have z3:=JU h3;unfold Hr;refine Am (BO he dt h1 ?_);rw[Aw (by simp:(Ci T != Dr)=Ab)]
 refine Fj hT dT z3 (hQ _ ?_ fun b o nb q=>(Cq _ _ (CK nb)).trans q)
 exact⟨oe,vs,_,_,a0,(Cq _ _ ne).trans he,hc,hx,h0,dt,h1,ne,CB _ hT (Ek (C7 dT _)),C7 dT _,by simp[z3]⟩
theorem M9{h1 h2:AD}{ex:Ad Aj}(ff:s.heap.FunFrames base (env::outer))(sh:Shift ex (frs (env::outer)) s.heap h1)(hT:s.heap.get? T'=Ae)(k:∀ b o,b≠T'->h1.get? b=Aa o->h2.get? b=Aa o):Shift ex (frs (env::outer)) s.heap h2:=
 ⟨fun b o q n1 n2=>k b o (fun z=>by rw[z,hT]at q;cases q) (sh.keep b o q n1 n2),fun b o q hb=>let ⟨sl,q'⟩:=sh.slot b o q hb;⟨sl,k b _ (fun z=>by rw[z,hT]at q;cases q) q'⟩⟩
theorem Wv(hfr:A.frames=Aa (env::outer))(hf:env.frame=Aa L)(ff:s.heap.FunFrames base (env::outer))(fl:Fly e T cls dx s.heap)(hQ:∀ h' T',Fly e T' cls dx h'->Shift [e,T] (frs (env::outer)) s.heap h'->(T'=T\/s.heap.get? T'=Ae)->Q () {s with heap:=h'}):Ay M A (leaving env (.ref e)) Q E s:=by
 unfold leaving;exact Am (Qa hfr hf ff fl fun h1 T' f1 sh hT=>LV f1 fun h2 f2 k=>hQ h2 T' f2 (M9 ff sh hT k) (.inr hT))
theorem VZ(hfr:A.frames=Aa (env::outer))(hf:env.frame=Aa L)(ff:s.heap.FunFrames base (env::outer))(he:s.heap.get? e=Aa oe)(hc:oe.cls=cls)(hx:oe.dict=dx)(dt:oe.data=.fields vs)(h0:vs[0]?=Aa a0)(h1:vs[1]?=Aa .none)(hQ:∀ h' T',Fly e T' cls dx h'->Shift [e] (frs (env::outer)) s.heap h'->s.heap.get? T'=Ae->Q () {s with heap:=h'}):Ay M A (leaving env (.ref e)) Q E s:=by
 unfold leaving Gv;simp only[hf];refine Am (Am (BO he dt h1 ?_));rw[AA (by decide)]
 exact Pc (base:=base) hfr hf ff he dt (JU h1) fun h' T' oT ts g nT gn gT dT f3 sh=>LV (PK hc hx h0 dt (JU h1) g nT gT dT f3) fun h2 f2 k=>hQ h2 T' f2 (M9 ff sh gn k) gn
theorem WR(hfr:A.frames=Aa (env::outer))(hf:env.frame=Aa L)(ff:s.heap.FunFrames base (env::outer))(fl:Fly e T cls dx s.heap)(hQ:∀ h' T',Fly e T' cls dx h'->Shift [e,T] (frs (env::outer)) s.heap h'->(T'=T\/s.heap.get? T'=Ae)->Q () {s with heap:=h'}):Ay M A (Gv (.ref e) env) (fun _ s2=>Ay M A (Hr (.ref e) Ae) Q E s2) E s:=
 Qa hfr hf ff fl fun h1 T' f1 sh hT=>LV f1 fun h2 f2 k=>hQ h2 T' f2 (M9 ff sh hT k) (.inr hT)
theorem Ww{l:Ad B5}{A':AZ}(ff:s.heap.FunFrames base l)(fl:Fly e T cls dx s.heap)(hQ:∀ h' T',Fly e T' cls dx h'->Shift [e,T] (frs l) s.heap h'->(T'=T\/s.heap.get? T'=Ae)->Q () {s with heap:=h'}):Ay M A' (Hr (.ref e) Ae) Q E s:=by
 obtain⟨oe,vs,oT,ts,a0,he,hc,hx,h0,dt,h1,ne,hT,dT,h3⟩:=id fl;refine LV fl fun h' f' k=>hQ h' T f' ⟨fun b o q n1 n2=>k b o (fun z=>n1 (by rw[z];simp)) q,fun b o q hb=>⟨o.slots,k b o (fun z=>?_) q⟩⟩ (.inl rfl)
 obtain⟨_,o',q',n⟩:=ff.mem hb;rw[z,hT]at q';cases q';exact n ts dT
end
def CXR(P:AS)(w:AC):CXT:=fun outer H s E ev s'=>∃ e T cls dx H',ev=.ref e/\s'.os=s.os/\Fh s'.gens/\Un (frs outer) [] H H' s.heap s'.heap/\HOk P w H' s'.heap/\Fly e T cls dx s'.heap/\H' e=Ae/\H' T=Ae/\s.heap.get? e=Ae/\s.heap.get? T=Ae/\E cls dx H'
def Lq(X:Cx)(CL:ClA)(W:XW):Prop:=∀ pI σ H s e C dx t x,Inv X pI σ H s->(X.ex=[]->X.s₀.heap.get? e=Ae)->H e=Ae->s.heap.get? e=Aa (FO C dx t)->FP X.K CL H (.ref C) dx x->W x H->X.xe (.ref e) s
section
variable{P:AS}{w:AC}{K:Fg}{mg:Ah->An Ai}{base:AD}{N:Ad Ah}{qual:Ah}{scope:B9}{f:Aj}{cd:Ai}{A:AZ}{outer:Ad B5}{s:As}{H:Hp}{E:XK}{CL:ClA}{W:XW}
theorem NG{s:As}(I:Inv X pI σ H s):∀ b∈frs X.stack,b∈X.fs\/X.s₀.heap.get? b=Ae:=fun b hb=>by
 rcases AB.mp (I.stkSub b hb) with z|z
 ·exact .inr (by rw[z];exact Dc I.ok.above)
 ·exact .inl z
theorem Je{s:As}{b:Aj}(I:Inv X pI σ H s)(hx:X.ex=[])(h:s.heap.get? b=Ae):X.s₀.heap.get? b=Ae:=by
 cases q:X.s₀.heap.get? b with
 |none=>rfl
 |some o=>
  obtain⟨o',z⟩:=I.base.there b o q (by rw[hx];simp)
  rw[h]at z;cases z
theorem kH(hE:∀ x cls dx H',W x H'->FP K CL H' cls dx x->E cls dx H'):∀ A',Ke (CXR P w) (Eo (CXR P w) P w K mg base N qual scope f cd A outer s H E) (EKW K CL A' W):=by
 intro A' pI σ H1 s1 ev s2 I h;obtain⟨e,T,cls,dx,H',rfl,os,bare,un,hok,fl,he,hT,ne,nT,x,xr,wx⟩:=h;have I':=I.call' (s':=s2) (ch:=[]) os un hok bare (fun b z=>absurd z (by simp))
 have hb0:Un (frs outer) [] H H' s.heap s2.heap:=I'.base;show Ay (model P w) (A.deeper (Eh qual scope s.heap.objs.size f cd)) (leaving (Eh qual scope s.heap.objs.size f cd) (.ref e)) _ _ s2;refine Wv (L:=s.heap.objs.size) I'.ok.frames rfl I'.stack fl fun h' T' fl' sh hT'=>?_
 have e0:s.heap.get? e=Ae:=Je I rfl ne;have T0:s.heap.get? T=Ae:=Je I rfl nT;refine⟨e,T',cls,dx,H',rfl,I'.os,bare,Un.shift hb0 sh ?_ (NG I'),HOk.shift hok sh ?_ I'.stkFree,fl',he,?_,e0,?_,?_⟩
 ·intro b hb;rcases AB.mp hb with rfl|hb
  ·exact e0
  ·rw[BF.mp hb];exact T0
 ·intro b hb;rcases AB.mp hb with rfl|hb
  ·exact he
  ·rw[BF.mp hb];exact hT
 ·rcases hT' with rfl|z
  ·exact hT
  ·exact J5 hok z
 ·rcases hT' with rfl|z
  ·exact T0
  ·exact Je I' rfl z
 ·exact hE x cls dx H' wx xr
theorem rzR(hE:∀ x cls dx H',W x H'->FP K CL H' cls dx x->E cls dx H'):Lq (Eo (CXR P w) P w K mg base N qual scope f cd A outer s H E) CL W:=by
 intro pI σ H1 s1 e C dx t x I e0 he ge xr hw;have hb0:Un (frs outer) [] H H1 s.heap s1.heap:=I.base;have e0':s.heap.get? e=Ae:=e0 rfl;show Ay (model P w) (A.deeper (Eh qual scope s.heap.objs.size f cd)) (leaving (Eh qual scope s.heap.objs.size f cd) (.ref e)) _ _ s1;refine VZ (cls:=.ref C) (dx:=dx) (L:=s.heap.objs.size) I.ok.frames rfl I.stack ge rfl rfl rfl (a0:=.ref t) rfl rfl fun h' T' fl' sh hT'=>?_
 have one:∀{Z:Aj->Prop},Z e->∀ b∈[e],Z b:=fun {Z} z b hb=>by rw[BF.mp hb];exact z
 exact⟨e,T',.ref C,dx,H1,rfl,I.os,I.bare,Un.shift hb0 sh (one e0') (NG I),HOk.shift I.hok sh (one (Z:=fun b=>H1 b=Ae) he) I.stkFree,fl',he,J5 I.hok hT',e0',Je I rfl hT',hE x _ dx H1 hw xr⟩
theorem ownR:E4 (model P w) (Eo (CXR P w) P w K mg base N qual scope f cd A outer s H E).A (Eo (CXR P w) P w K mg base N qual scope f cd A outer s H E).env (Eo (CXR P w) P w K mg base N qual scope f cd A outer s H E).xe:=Vd
end
noncomputable def veB:Ad Ai:=[.type "ValueError", .type "Exception", .type "BaseException", .type "object"]
noncomputable def DK(K:Fg)(C:Aj)(v:An Ai):Ao:=match K.lookup C with
  | some ⟨.type "type", _,.cls c,z⟩=>(match c.mro,z.toList with
    |.ref c0::tl,[_,_,_,_,Aa (.builtin nw),_]=>c0==C&&(nw == "ValueError.__new__" && (!c.hasDel&&(PySem.W.tailIn K veB tl&&(Vt K c.ns&&AX K c.ns "__init__" == Aa v))))
    | _,_=>Ac)
  |_=>Ac
theorem LZ(q:EF K C veB "ValueError.__new__" = Ab):DK K C Ae=Ab:=by
 unfold EF at q;unfold DK;split at q
 ·rename_i dd cd sl ho;split at q
  ·rename_i C' bm k0 k1 k2 k3 n k5 hm hs;simp only[Ak]at q;obtain⟨⟨⟨⟨⟨h1,h2⟩,h3⟩,h4⟩,h5⟩,h6⟩:=q;simp only[ho,hm,hs,Ak];exact⟨h1,h2,h3,h4,h5,h6⟩
  ·cases q
 ·cases q
structure XcOk (K:Fg) (C:Aj):Prop where
 exc:∃ v,DK K C v=Ab
 ga:Av K (.ref C) "__getattribute__" = Aa (Aa (.builtin "BaseException.__getattribute__"))
 gt:Av K (.ref C) "__getattr__" = Aa Ae
 cl:Av K (.ref C) "__class__" = Aa (Aa (.builtin "object.__class__"))
 ob:Bh K C (.type "object")=Aa Ab
 be:Al K (.ref C) (.type "BaseException")=Aa Ab
 cs:(Dg K C).isSome=Ab
 ve:C8 K (.ref C) (.type "ValueError")=Aa Ab
def XAt(e C:Aj)(h:AD):Prop:=∃ o,h.get? e=Aa o/\o.cls=.ref C
theorem cR{N:Aj}{v:Ai}(X:K.In h)(G:h.Ns N m)(q:AX K N x=Aa (Aa v)):m x=Aa v:=by
 obtain⟨ob,es,ep,g,dt,_,fd⟩:=G;unfold AX at q;split at q
 ·rename_i es' n' sl lk;have g':=X _ _ lk;rw[g]at g';cases g';cases dt;split at q
  ·rename_i hf;cases q;rw[<-fd];unfold nsFind findBy;rw[<-Array.find?_toList,hf];rfl
  ·by_cases z:(es.toList.any fun y=>y.refKey)=Ab
   ·rw[Aw z]at q;cases q
   ·rw[AA z]at q;cases q
 ·cases q
theorem Ni{h0:AD}(X0:K.In h0)(q:DK K C v=Ab):
  ∃ bm N nm qn bs hd sn sub ab col dd k0 k1 k2 k3 k5 mN,(∀ h:AD,K.In h->h.get? C=Aa (B6 nm qn C N bs bm hd sn sub ab col dd k0 k1 k2 k3 k5 "ValueError.__new__")/\h.Ns N mN/\DN h veB bm)/\mN "__init__" = v/\bm.contains (.type "BaseException")=Ab:=by
 unfold DK at q;split at q
 ·rename_i dd cd sl ho;split at q
  ·rename_i C' bm k0 k1 k2 k3 n k5 hm hs;simp only[Ak,AW,Bo]at q;obtain⟨rfl,rfl,hdel,ht,hok,hni⟩:=q;obtain⟨nm,bs,mro,ns,qn,hd,sn,sub,ab,col,del⟩:=cd;dsimp only at hm hdel hok hni;subst hm hdel;have hsl:sl=#[k0,k1,k2,k3,Aa (.builtin "ValueError.__new__"),k5]:=by
    obtain⟨l⟩:=sl;simp only at hs;rw[hs]
   subst hsl;have kN:∃ o,K.lookup ns=Aa o:=by
    unfold Vt at hok;split at hok
    ·rename_i z;exact⟨_,z⟩
    ·cases hok
   obtain⟨oN,hoN⟩:=kN;have nsAt:∀ h:AD,K.In h->h.Ns ns (h0.nsMap ns):=fun h X=>by
    obtain⟨o,es,ep,e1,r⟩:=Heap.Ns.of_isNs (Vo X0 hok);have e2:=X0 _ _ hoN;rw[e1]at e2;cases e2;exact⟨_,es,ep,X _ _ hoN,r⟩
   refine⟨bm,ns,nm,qn,bs,hd,sn,sub,ab,col,dd,k0,k1,k2,k3,k5,h0.nsMap ns,fun h X=>⟨X _ _ ho,nsAt h X,Vu X ht⟩,?_,(Vu X0 ht).hasType (by decide)⟩
   cases v with
   |none=>exact PySem.W.nsMap_none_of_in X0 hok hni
   |some u=>exact cR X0 (.of_isNs (Vo X0 hok)) hni
  ·cases q
 ·cases q
theorem ZJ(X:K.In h)(q:DK K C v=Ab):
  ∃ bm N nm qn bs hd sn sub ab col dd k0 k1 k2 k3 k5 mN,h.get? C=Aa (B6 nm qn C N bs bm hd sn sub ab col dd k0 k1 k2 k3 k5 "ValueError.__new__")/\h.Ns N mN/\mN "__init__" = v/\DN h veB bm:=by
 obtain⟨bm,N,nm,qn,bs,hd,sn,sub,ab,col,dd,k0,k1,k2,k3,k5,mN,ho,hi,_⟩:=Ni X q;obtain⟨o1,o2,o3⟩:=ho h X;exact⟨bm,N,nm,qn,bs,hd,sn,sub,ab,col,dd,k0,k1,k2,k3,k5,mN,o1,o2,hi,o3⟩
section
variable{prog:AS}{w:AC}{A:AZ}{E:Vq}{h:AD}{g:Bk E3}{d:Hn}{t:Ag}{os:GO}{K:Fg}{e C:Aj}
theorem IJ(p:XAt e C h):PySem.W.Looks M h (typeOf (.ref e)) (.ref C):=by
 obtain⟨o,h1,h2⟩:=p;exact h2 ▸ (PySem.W.Looks.ld h1).andThen .now
theorem Xq{R:Ir->As->Prop}{tp:Ai}(X:K.In h)(p:XAt e C h)(hm:Bh K C (.type "object")=Aa Ab)(hq:R (.ok (.ret (.ref C))) ⟨h,g,d,t,os⟩):
  Fi (model prog w) A (.call (.builtin "getset_descriptor.__get__") ⟨[.builtin "object.__class__", .ref e,tp],[]⟩) R ⟨h,g,d,t,os⟩:=by
 have L0:=IJ (M:=model prog w) p;have L1:=PySem.W.looks_mroIn (M:=model prog w) X hm;refine DI PySem.W.KF.slot_gs.plain PySem.W.KF.entry_gs (PySem.W.KF.slot_gs.check _ _ _ _ _ _ _ _ PySem.W.KF.type_class (PySem.W.KF.args_gs _ _ _) ?_);unfold Builtin.«getset_descriptor.__get__» Builtin.Getset_descriptor.descrGet;rw[PySem.W.dga_obj];refine Am (AK ?_);unfold Builtin.Getset_descriptor.descrGetter Builtin.Getset_descriptor.descrCheckInstance Builtin.Getset_descriptor.descrNameAndClass HQ;simp only[PySem.W.KF.owner_class]
 repeat lk
 refine⟨Gr _ (by decide +kernel),codeAny_builtin PySem.W.KF.entry_class ?_⟩
 unfold Builtin.«object.__class__» shownTypeOf
 repeat lk
 exact hq
theorem V4{Q:Fin->As->Prop}(X:K.In h)(x:XcOk K C)(p:XAt e C h)(hq:Q (.done (.ret (.ref C))) ⟨h,g,d,t,os⟩):
  Ay (model prog w) A (Builtin.«object.__getattribute__» ⟨[.ref e,.str "__class__" tk],[]⟩) Q E ⟨h,g,d,t,os⟩:=by
 have L0:=IJ (M:=model prog w) p;have L1:=Cj (M:=model prog w) X x.cl;have hT5:(⟨h,g,d,t,os⟩:As).TypeIs (.builtin "object.__class__") "getset_descriptor" := U5;have f5:=U5;have f6:=F.slot_gs_get.lookup;have f7:=F.slot_gs_set.lookup
 repeat (any_goals (first|assumption|with_reducible refine L0.at ?_|with_reducible refine L1.at ?_|wp_step))
 refine Xq X p x.ob ?_
 repeat (any_goals (first|assumption|wp_step))
theorem OZ{nameV:Ai}(X:K.In h)(x:XcOk K C)(p:XAt e C h)(hq:Q () ⟨h,g,d,t,os⟩):Ay M A (FL "BaseException.__getattribute__" ⟨[.ref e,nameV],[]⟩) Q E ⟨h,g,d,t,os⟩:=by
 have hk:builtinKind "BaseException.__getattribute__" = Aa .slot:=by decide +kernel
 have hsplit:splitId "BaseException.__getattribute__" = Aa ("BaseException", "__getattribute__"):=by decide +kernel
 have L0:=IJ (M:=M) p;have L1:=Vs (M:=M) X x.be;have ha:=F.args_bexc_ga (.ref e) nameV;simp only[FL,hk,hsplit];refine Am ?_
 ·unfold HQ
  repeat (first|(with_reducible refine Am (L0.at ?_))|(with_reducible refine L1.at ?_)|wp_step)
  exact hq
theorem Yq{Q:Vq}(X:K.In h)(x:XcOk K C)(p:XAt e C h)(hq:Q (.ref C) ⟨h,g,d,t,os⟩):Ay (model prog w) A (getAttrBy (.ref e) (.str "__class__" tk) fill expr) Q E ⟨h,g,d,t,os⟩:=by
 have L0:=IJ (M:=model prog w) p;have L1:=Cj (M:=model prog w) X x.ga;have L2:=Cj (M:=model prog w) X x.gt;have f3:=Fn.ga.bind (.ref e);have hx0:(expr&&IB (C3 "BaseException.__getattribute__"))=Ac:=by cases expr<;>rfl
 have hx2:(C3 "BaseException.__getattribute__" == C3 "object.__getattribute__")=Ac:=by decide +kernel
 have hx1:(IB (Ci C)&&C3 "BaseException.__getattribute__" == C3 "object.__getattribute__")=Ac:=by rw[hx2];rfl
 repeat (any_goals (first|assumption|with_reducible refine L0.at ?_|with_reducible refine L1.at ?_|with_reducible refine L2.at ?_|wp_step))
 refine DI Fn.ga.plain U0 (OZ X x p (V4 X x p ?_))
 repeat (any_goals (first|assumption|wp_step))
theorem Wn{Q:An Ai->As->Prop}(X:K.In h)(x:XcOk K C)(p:XAt e C h)(hq:Q (Aa (.ref C)) ⟨h,g,d,t+1,os⟩):Ay (model prog w) A (getAttr? (.ref e) "__class__") Q E ⟨h,g,d,t,os⟩:=by
 unfold getAttr? getAttrBy?
 repeat (any_goals (first|assumption|with_reducible apply Yq X x p|wp_step))
end
theorem Qx{e C:Aj}(x:XcOk K C):PySem.W.KitX K (.ref e) (.ref C) (XAt e C) where
 ty:=fun M h _ p=>IJ p
 it:=fun M h X _=>by
  obtain⟨cd,hc⟩:=DR.mp x.cs;unfold Dg at hc;split at hc
  ·rename_i c' d' cd' sl' ho;intro A' Q' E' s' k q;unfold isType loadHead;exact Am (wpAny_loadPart (k _ _ (X _ _ ho)) (AK q))
  ·cases hc
 ne:=fun h tp dd its n sl X htp=>by
  obtain⟨cd,hc⟩:=DR.mp x.cs;refine Bool.eq_false_iff.mpr fun q=>?_
  have e:C=tp:=Ik (AW.mp q);subst e;unfold Dg at hc;split at hc
  ·rename_i c' d' cd' sl' ho;have z:=(X _ _ ho).symm.trans htp;cases z
  ·cases hc
 ca:=fun {_ _ _ _ _ s} X p k=>by
  obtain⟨h,g,d,t,os⟩:=s;exact Wn X x p k
theorem Xr{A:AZ}{E:Vq}{g:Bk E3}{d:Hn}{t:Ag}{os:GO}{e C C':Aj}{b:Ao}{Q:Ao->As->Prop}(X:K.In h)(p:XAt e C h)(x':XcOk K C')(hs:Al K (.ref C) (.ref C')=Aa b)(hq:Q b ⟨h,g,d,t,os⟩):Ay M A (excMatches (.ref e) (.ref C')) Q E ⟨h,g,d,t,os⟩:=by
 obtain⟨bm,N,nm,qn,bs,hd,sn,sub,ab,col,dd,k0,k1,k2,k3,k5,mN,hC',_,_,T⟩:=ZJ X x'.exc.choose_spec;have hcB:(Ci C'::bm).contains (.type "BaseException")=Ab:=by rw[Gq,T.hasType (show veB.contains (.type "BaseException")=Ab by decide),GS]
 have L0:=IJ (M:=M) p;have L1:=Vs (M:=M) X hs;have f:=tc_notTuple;unfold excMatches
 repeat (first|(with_reducible refine Am (L0.at ?_))|(with_reducible refine L1.at ?_)|(with_reducible refine Am (L1.at ?_))|with_reducible refine BY hC' ?_|(with_reducible refine EK hC' ?_;rw[hcB])|wp_step)
 all_goals first|exact hq|(cases b<;>(wp_walk;exact hq))
def GD(X:Cx)(pI:Pn)(e:Aj):Prop:=e≠X.env.locals/\(∀ x c,X.env.cells.lookup x=Aa c->c≠e)/\(∀ p∈X.pn++pI,p.1≠e)/\X.s₀.heap.get? e=Ae
section
variable{X:Cx}{pI:Pn}{σ:L2.St}{H:Hp}{s:As}{e:Aj}
theorem KU(I:Inv X pI σ H s)(hx:X.ex=[])(h:s.heap.get? e=Ae):GD X pI e:=by
 refine⟨?_,fun x c q z=>?_,fun p hp z=>?_,Je I hx h⟩
 ·rintro rfl;obtain⟨m,⟨o,_,_,ho,_⟩,_⟩:=I.loc;rw[h]at ho;cases ho
 ·obtain⟨v,o,ho,_⟩:=I.cell x c q;rw[z,h]at ho;cases ho
 ·obtain⟨q,_⟩:=I.pin p hp;rw[z,h]at q;cases q
theorem Ph{ex:Ad Aj}(I:Inv X pI σ H s)(hx:X.ex=[])(sh:Shift ex (frs X.stack) s.heap h')(ha:∀ b∈ex,GD X pI b)(hH:∀ b∈ex,H b=Ae):Inv X pI σ H {s with heap:=h'}:=by
 have kp:∀ b o,s.heap.get? b=Aa o->b∉ex->∃ sl,h'.get? b=Aa {o with slots:=sl}:=fun b o q n=>by
  by_cases hb:b∈frs X.stack
  ·exact sh.slot b o q hb
  ·exact⟨o.slots,sh.keep b o q n hb⟩
 have cellK:∀ x c,X.env.cells.lookup x=Aa c->∀ v,s.heap.IsCell c v->h'.IsCell c v:=fun x c q v ⟨o,ho,hd⟩=>by
  obtain⟨sl,z⟩:=kp c o ho fun z=>(ha c z).2.1 x c q rfl
  exact⟨_,z,hd⟩
 refine⟨I.ok,I.os,I.bare,?_,?_,fun x c q=>?_,I.free,I.freeC,fun p hp=>?_,HOk.shift I.hok sh hH I.stkFree,I.len⟩
 ·have b0:=I.base;rw[hx]at b0 ⊢;exact Un.shift b0 sh (fun b hb=>(ha b hb).2.2.2) (NG I)
 ·obtain⟨m,⟨o,es,ep,ho,r⟩,hl⟩:=I.loc;obtain⟨sl,z⟩:=kp _ o ho fun z=>(ha _ z).1 rfl
  refine⟨m,⟨_,es,ep,z,r⟩,fun i x v e1 e2 e3=>?_⟩
  obtain⟨u,ru,l⟩:=hl i x v e1 e2 e3;refine⟨u,ru,?_⟩;rcases l with l|⟨k,c,q,z⟩
  ·exact .inl l
  ·exact .inr ⟨k,c,q,cellK x c q _ z⟩
 ·obtain⟨v,z⟩:=I.cell x c q;exact⟨v,cellK x c q v z⟩
 ·obtain⟨q,n,ne,nf,d⟩:=I.pin p hp;exact⟨sh.keep p.1 p.2 q (fun z=>(ha p.1 z).2.2.1 p hp rfl) (fun z=>(AB.mp (I.stkSub p.1 z)).elim ne nf),n,ne,nf,d⟩
theorem WL(I:Inv X pI σ H s)(hx:X.ex=[])(ha:GD X pI e)(hH:H e=Ae)(ho:∃ o,s.heap.get? e=Aa o)(p:φ s.heap)(hφ:∀ h1 h2:AD,φ h1->(∀ o,h1.get? e=Aa o->h2.get? e=Aa o)->φ h2):Inv X pI σ (upd H e (.ext φ)) s:=by
 have ne:∀ b o,H b=Aa o->b≠e:=fun b o q z=>by rw[z,hH]at q;cases q
 refine⟨I.ok,I.os,I.bare,⟨I.base.keep,I.base.slot,fun b o q n hb=>?_,I.base.there,fun b xs q=>?_,fun b o u q=>?_,fun b ps q=>?_⟩,I.loc,I.cell,?_,fun x c q=>?_,fun p hp=>?_,fun b o q=>?_,I.len⟩
 ·rw[By fun z=>by rw[z,ha.2.2.2]at q;cases q]
  exact I.base.free b o q n hb
 ·have:=I.base.tups b xs q;rw[By (ne _ _ this)];exact this
 ·have:=I.base.frzs b o u q;rw[By (ne _ _ this)];exact this
 ·obtain⟨more,this⟩:=I.base.tbls b ps q;exact⟨more,by rw[By (ne _ _ this)];exact this⟩
 ·rw[By fun z=>ha.1 z.symm];exact I.free
 ·rw[By (ha.2.1 x c q)];exact I.freeC x c q
 ·obtain⟨q,n,r⟩:=I.pin p hp;exact⟨q,by rw[By (ha.2.2.1 p hp)];exact n,r⟩
 ·by_cases hb:b=e
  ·subst hb;rw[E8]at q;cases q;exact⟨p,ho,hφ⟩
  ·rw[By hb]at q;exact(I.hok b o q).stay (fun c v hc z=>z) (fun c z=>by rw[By (ne _ _ z)];exact z) fun c zs z=>by rw[By (ne _ _ z)];exact z
theorem WK{i:Ag}{tk:Ag}(I:Inv X pI σ H s)(hN:X.N.Nodup)(hi:X.N[i]?=Aa n)(hn:s.heap.Ns X.env.locals m)(hn':h'.Ns X.env.locals (fun x=>if x=n then v else m x))(hs:Ei X.env.locals s.heap h'):Inv X pI (σ.set i Ae) H {s with heap:=h',toks:=tk}:=by
 obtain⟨m0,hn0,hl⟩:=I.loc;have em:m0=m:=by
  obtain⟨o,es,ep,h1,h2,_,h3⟩:=hn0;obtain⟨o',es',ep',h1',h2',_,h3'⟩:=hn;rw[h1]at h1';cases h1';rw[h2]at h2';cases h2'
  funext y
  rw[<-h3,<-h3']
 subst em;obtain⟨oL,_,_,hoL,_⟩:=id hn;have lt:∀ b o,X.s₀.heap.get? b=Aa o->b≠X.env.locals:=fun b o q=>Bb (AR (AH q) I.ok.above)
 refine⟨I.ok,I.os,I.bare,⟨fun b o q n hb hx=>?_,fun b o q n hb hx=>?_,I.base.free,fun b o q hx=>?_,I.base.tups,I.base.frzs,I.base.tbls⟩,⟨_,hn',fun j y v' e1 e2 e3=>?_⟩,fun y c q=>?_,I.free,I.freeC,fun p hp=>?_,fun b ob q=>?_,by rw[A2];exact I.len⟩
 ·exact(hs.2 b (lt b o q)).trans (I.base.keep b o q n hb hx)
 ·obtain⟨sl,e1⟩:=I.base.slot b o q n hb hx;exact⟨sl,(hs.2 b (lt b o q)).trans e1⟩
 ·obtain⟨o',e1⟩:=I.base.there b o q hx;exact⟨o',(hs.2 b (lt b o q)).trans e1⟩
 ·by_cases hj:i=j
  ·subst hj;have:=Gh e2;cases this
  ·rw[B7 hj]at e2;obtain⟨u',r',q⟩:=hl j y v' e1 e2 e3;refine⟨u',r',?_⟩;rcases q with ⟨k,e⟩|⟨k,c,e,z⟩
   ·refine .inl ⟨k,?_⟩;have:y≠n:=fun e=>hj (Nd hN hi (e ▸ e1))
    simp[this,e]
   ·exact .inr ⟨k,c,e,z.sameBut hs (I.cne y c e)⟩
 ·obtain⟨w',z⟩:=I.cell y c q;exact⟨w',z.sameBut hs (I.cne y c q)⟩
 ·obtain⟨q,n,ne,nf,d⟩:=I.pin p hp;exact⟨(hs.2 p.1 ne).trans q,n,ne,nf,d⟩
 ·refine(I.hok b ob q).stay (fun c w' hc z=>(hs.2 c ?_).trans z) (fun _ q=>q) fun _ _ q=>q
  rintro rfl;have hfree:=I.free;rcases hc with z|hc
  ·rw[<-z,hfree]at q;cases q
  ·rw[hfree]at hc;cases hc
end
noncomputable def Cx.hot(X:Cx)(e:Aj):Cx:={X with A:=X.A.mark (Aa (.ref e)),calm:=Ac,xe:=fun _ _=>AU}
section
variable{X:Cx}{pI:Pn}{σ:L2.St}{H:Hp}{s:As}{e:Aj}
theorem cP(ok:X.Ok):(Cx.hot X e).Ok:=⟨ok.mod,ok.kind,ok.glob,ok.blt,ok.above,ok.inj,ok.has,ok.cab,fun z=>(nomatch z),ok.frames,ok.stk,ok.exf,ok.bs,ok.bsz,ok.noex,ok.exfs,ok.funs,ok.frf⟩
theorem ND(I:Inv X pI σ H s)(e:Aj):Inv (Cx.hot X e) pI σ H s:=⟨cP I.ok,I.os,I.bare,I.base,I.loc,I.cell,I.free,I.freeC,I.pin,I.hok,I.len⟩
theorem Xh(ok:X.Ok)(I:Inv (Cx.hot X e) pI σ H s):Inv X pI σ H s:=⟨ok,I.os,I.bare,I.base,I.loc,I.cell,I.free,I.freeC,I.pin,I.hok,I.len⟩
theorem Sx.unset{ρ:Rho}(x:Sx K CL Fz B ρ σ H)(i:Ag):Sx K CL Fz B (ρ.set i Ae) (σ.set i Ae) H:=by
 have get:∀(j:Ag)(y:D×Ao),(ρ.set i Ae)[j]?=Aa (Aa y)->i≠j/\ρ[j]?=Aa (Aa y):=fun j y h=>by
  by_cases hj:i=j
  ·subst hj;have:=Gh h;cases this
  ·exact⟨hj,by rw[B7 hj]at h;exact h⟩
 have sub:∀ a,BN B (ρ.set i Ae) (σ.set i Ae) a->BN B ρ σ a:=fun a h=>by
  rcases h with h|⟨j,d,h1,h2⟩
  ·exact .inl h
  ·obtain⟨hj,h1⟩:=get j _ h1;rw[B7 hj]at h2;exact .inr ⟨j,d,h1,h2⟩
 refine⟨⟨fun j d h=>?_,fun j d h=>?_,by rw[A2,A2];exact x.len⟩,fun a h=>x.aok a (sub a h),fun j d a h1 h2=>?_,fun j k d f a h1 h2 h3 h4=>?_,x.same,by rw[A2,A2];exact x.len⟩
 ·obtain⟨hj,h1⟩:=get j _ h;obtain⟨v,q,r⟩:=x.good.sh j d h1;exact⟨v,by rw[B7 hj];exact q,Rep.sub sub _ r⟩
 ·obtain⟨hj,h1⟩:=get j _ h;obtain⟨a,xs,ds,q,z,ha,hh,rr⟩:=x.good.ow j d h1;exact⟨a,xs,ds,by rw[B7 hj];exact q,z,.inr ⟨j,d,h,by rw[B7 hj];exact q⟩,hh,Reps.sub sub _ rr⟩
 ·obtain⟨hj,h1⟩:=get j _ h1;rw[B7 hj]at h2;exact x.new j d a h1 h2
 ·obtain⟨hj,h1⟩:=get j _ h1;obtain⟨hk,h2⟩:=get k _ h2;rw[B7 hj]at h3;rw[B7 hk]at h4;exact x.dis j k d f a h1 h2 h3 h4
end
def Ig(e C:Aj)(dx:An Aj)(h:AD):Prop:=∃ o,h.get? e=Aa o/\o.cls=.ref C/\o.dict=dx/\∃ us,o.data=.fields us
noncomputable def Jx(X:Cx)(CL:ClA)(pI:Pn)(σ:L2.St)(H:Hp)(y:Ex)(Xw:Vq):Prop:=
 ∀ s' H' e T cls dx,Inv X pI σ H' s'->AE H H'->Fly e T cls dx s'.heap->H' e=Ae->H' T=Ae->GD X pI e->GD X pI T->FP X.K CL H' cls dx y->Xw (.ref e) s'
def STB(X:Cx)(CL:ClA)(body:Ad A9)(f:Rho->O):Prop:=∀ Fz B pI s σ H D ρ (Xw:Vq),E4 (model X.prog X.w) X.A X.env Xw->Inv X pI σ H s->Sx X.K CL Fz B ρ σ H ->
  (match f ρ with
   |.exn y ρ'=>ρ'=ρ->Jx X CL pI σ H y Xw
   | o=>BS X.K CL Fz B (fun _ _=>AU) o D)->(∀ y ρ',f ρ=.exn y ρ'->ρ'=ρ)->Ay (model X.prog X.w) X.A (execs body X.env) (SP X pI D) Xw s
noncomputable def Tw(up:Ag->Ad Ag)(c i:Ag)(o:O)(fh:Rho->O):O:=match o with
  | .exn y ρ'=>if (up y.c).contains c=Ab then (match fh (ρ'.set i (Aa (.exc y.c y.fs,Ac))) with
      |.next ρ''=>.next (ρ''.set i Ae)
      |.ret d f=>.ret d f
      | _=>.bad) else .bad
  |o=>o
theorem NE{i:Ag}{b:Ao}{rest:Ad ED}{s1:As}{ρ':Rho}{D:Ends}{e T1:Aj}(hx:X.ex=[])(hN:X.N.Nodup)(hi:X.N[i]?=Aa n)(hl:X.env.scope.names.lookup n=Aa .local)(hg:Gl X g)(hm:X.mg g=Aa (.ref C'))(hdb:(g==("__debug__" : Ah))=Ac)(xc:XcOk X.K C')(hsu:Al X.K (.ref C) (.ref C')=Aa b)(hh:∀ e,SSs (Cx.hot X e) CL (fun _ _=>AU) (h0::hs) fh)(I1:Inv X pI σ H' s1)(fl1:Fly e T1 (.ref C) dx s1.heap)(ae:GD X pI e)(aT1:GD X pI T1)(he:H' e=Ae)(HT1:H' T1=Ae)(gx:Sx X.K CL Fz B ρ' σ H')(hcl:CL y.c=Aa C)(xr:FP X.K CL H' (.ref C) dx y)(p2:b=Ab->BS X.K CL Fz B W (hdO i y ρ' fh) D)(p3:b=Ac->Ay (model X.prog X.w) X.A (Ja (.ref e) X.env rest) (SP X pI D) X.xe s1):Ay (model X.prog X.w) X.A (Ja (.ref e) X.env (.ExceptHandler (Aa (.Name g p1)) (Aa n) (h0::hs) hp::rest)) (SP X pI D) X.xe s1:=by
 obtain⟨Cx0,hcl0,ecl,hfs⟩:=xr (BN B ρ' σ) gx.aok;have xat:∀{h:AD}{T:Aj},Fly e T (.ref C) dx h->XAt e C h:=fun {h T} z=>by
  obtain⟨oe,_,_,_,_,z1,z2,_⟩:=z;exact⟨oe,z1,z2⟩
 have xad:∀{h:AD}{T:Aj},Fly e T (.ref C) dx h->Ig e C dx h:=fun {h T} z=>by
  obtain⟨oe,vs,_,_,_,z1,z2,z3,_,z4,_⟩:=z;exact⟨oe,z1,z2,z3,vs,z4⟩
 have two:∀{T:Aj}{Z:Aj->Prop},Z e->Z T->∀ b∈[e,T],Z b:=fun {T Z} h1 h2 b hb=>by
  rcases AB.mp hb with rfl|hb
  ·exact h1
  ·rw[BF.mp hb];exact h2
 refine wpAny_handleBy_cons (codeAny_handlers_test (IG (X:=Cx.hot X e) (ND I1 e) hg hm ?_ hdb)) (by intro q;cases q)
 refine Xr (K:=X.K) I1.kIn (xat fl1) xc hsu ?_;cases b with
 |false=>exact p3 rfl
 |true=>
 have p2:=p2 rfl;refine codeAny_handlers_suite_as ?_;refine Ww (base:=X.base) (l:=X.stack) I1.stack fl1 fun h3 T3 fl3 sh3 hT3=>?_
 have I3:=Ph I1 hx sh3 (two ae aT1) (two (Z:=fun b=>H' b=Ae) he HT1)
 obtain⟨oe,oeg,oec⟩:=xad fl3;have I3':=WL (φ:=Ig e C dx) I3 hx ae he ⟨oe,oeg⟩ ⟨oe,oeg,oec⟩ fun h1 h2 ⟨o,q1,q2⟩ k=>⟨o,k o q1,q2⟩
 have sm3:AE H' (upd H' e (.ext (Ig e C dx))):=fun b o q=>by rw[By fun z=>by rw[z,he]at q;cases q];exact q
 refine Np (X:=Cx.hot X e) (i:=i) (v:=.ref e) (ND I3' e) hN hi (.inl hl) rfl (fun s4 I4=>?_) (.inr hl)
 have x3:=gx.grow sm3;have nA:¬ BN B ρ' σ e:=fun z=>by
  obtain⟨xs,q⟩:=x3.aok e z;rw[E8]at q;cases q
 have rp:Rep X.K CL (upd H' e (.ext (Ig e C dx))) (BN B ρ' σ) (.ref e) (.exc y.c y.fs):=by
  refine⟨e,C,Ig e C dx,rfl,nA,hcl,E8,fun h ⟨o,z1,z2,_⟩=>⟨o,z1,z2⟩,?_⟩
  rcases hfs with z|⟨d,vs,ed,nd,hd,rf⟩
  ·exact .inl z
  ·exact .inr ⟨d,vs,nd,sm3 _ _ hd,Repf.kp (Kp.of sm3) _ rf,fun h ⟨o,z1,_,z3,z4⟩=>⟨o,z1,z3.trans ed,z4⟩⟩
 have x4:=x3.set i rp;have fin:∀{s5:As}{σ5:L2.St}{H5:Hp}{Q:FM->As->Prop},Inv (Cx.hot X e) pI σ5 H5 s5->(∀ s6,Inv X pI (σ5.set i Ae) H5 s6->Q () s6)->Ay (model X.prog X.w) X.A (do bindName X.env n .none;unbindBehindTheSuite X.env n hp) Q X.xe s5:=fun {s5 σ5 H5 Q} I5 k=>by
  have I5':=Xh I1.ok I5;obtain⟨m,hn,_⟩:=id I5'.loc;refine wpAny_nameGoes_keeps hl hn (by rw[I1.ok.kind];rfl) fun h6 v6 hn6 sb6=>?_
  exact k _ (WK I5' hN hi hn hn6 sb6)
 refine Be (hh e Fz B pI s4 _ _ {nx:=fun σ5 H5=>D.nx (σ5.set i Ae) H5,rt:=D.rt} I4 ⟨_,x4,?_⟩) (fun f s5 hf=>?_) fun _ _ z=>Bc z
 ·unfold hdO at p2;cases ef:fh (ρ'.set i (Aa (.exc y.c y.fs,Ac))) with
  |next ρ''=>rw[ef]at p2;exact fun σ5 H5 x5=>p2 _ _ (x5.unset i)
  |ret d b=>rw[ef]at p2;exact p2
  |brk _=>rw[ef]at p2;exact p2.elim
  |cont _=>rw[ef]at p2;exact p2.elim
  |exn _ _=>rw[ef]at p2;exact p2.elim
  |bad=>rw[ef]at p2;exact p2.elim
 ·cases f with
  |next=>
   obtain⟨σ5,H5,I5,q⟩:=hf;exact fin I5 fun s6 I6=>⟨_,H5,I6,q⟩
  |ret u=>
   obtain⟨v,σ5,H5,I5,r,q⟩:=hf;exact fin I5 fun s6 I6=>⟨v,_,H5,I6,r,q⟩
  |brk=>obtain⟨_,_,_,q⟩:=hf;exact Bc q
  |cont=>obtain⟨_,_,_,q⟩:=hf;exact Bc q
def Mv(X:Cx)(CL:ClA)(up:Ag->Ad Ag)(g:Ah)(c:Ag):Prop:=∃ C',Gl X g/\X.mg g=Aa (.ref C')/\(g==("__debug__" : Ah))=Ac/\XcOk X.K C'/\∀ c' C,CL c'=Aa C->Al X.K (.ref C) (.ref C')=Aa ((up c').contains c)
theorem PF{Q:Flow->As->Prop}{hd:Ad ED}(hx:X.ex=[])(hst:X.stack=X.env::X.outer)(hfm:X.env.frame=Aa X.env.locals)(k:∀ e T1 cls dx H' s1,Inv X pI σ H' s1->AE H H'->Fly e T1 cls dx s1.heap->GD X pI e->GD X pI T1->H' e=Ae->H' T1=Ae->FP X.K CL H' cls dx y->Ay (model X.prog X.w) X.A (Ja (.ref e) X.env hd) Q X.xe s1):Jx X CL pI σ H y (fun ev s1=>Ay (model X.prog X.w) X.A (Gv ev X.env) (fun _ s2=>Ay (model X.prog X.w) X.A (Hr ev Ae) (fun _ s3=>Ay (model X.prog X.w) X.A (Ja ev X.env hd) Q X.xe s3) X.xe s2) X.xe s1):=by
 intro s' H' e T cls dx I' sm fl he hT ae aT xr;have two:∀{T:Aj}{Z:Aj->Prop},Z e->Z T->∀ b∈[e,T],Z b:=fun {T Z} h1 h2 b hb=>by
  rcases AB.mp hb with rfl|hb
  ·exact h1
  ·rw[BF.mp hb];exact h2
 have hfr:X.A.frames=Aa (X.env::X.outer):=by rw[<-hst];exact I'.ok.frames
 refine WR (base:=X.base) hfr hfm (by rw[<-hst];exact I'.stack) fl fun h1 T1 fl1 sh1 hT1=>?_
 rw[<-hst]at sh1;exact k e T1 cls dx H' _ (Ph I' hx sh1 (two ae aT) (two (Z:=fun b=>H' b=Ae) he hT)) sm fl1 ae (hT1.elim (fun z=>z ▸ aT) fun z=>KU I' hx z) he (hT1.elim (fun z=>z ▸ hT) fun z=>J5 I'.hok z) xr
theorem aL{c i:Ag}{fb:Rho->O}(hx:X.ex=[])(hst:X.stack=X.env::X.outer)(hfm:X.env.frame=Aa X.env.locals)(hN:X.N.Nodup)(hi:X.N[i]?=Aa n)(hl:X.env.scope.names.lookup n=Aa .local)(h1:Mv X CL up g c)(hb:STB X CL body fb)(hρ:∀ ρ y ρ',fb ρ=.exn y ρ'->ρ'=ρ)(hh:∀ e,SSs (Cx.hot X e) CL (fun _ _=>AU) (h0::hs) fh):SS X CL W (.Try body [.ExceptHandler (Aa (.Name g p1)) (Aa n) (h0::hs) hp] [] [] pos) (fun ρ=>Tw up c i (fb ρ) fh):=fun Fz B pI s σ H D I ⟨ρ,x,p⟩=>by
 refine VB (Be (hb Fz B pI s σ H D ρ _ Ve I x ?_ (hρ ρ)) (fun f s1 hf=>?_) fun _ _ z=>z)
 ·dsimp only at p;cases eb:fb ρ with
  |exn y ρ'=>
   rw[eb]at p;intro e0;subst e0;have p2:BS X.K CL Fz B W (if (up y.c).contains c=Ab then hdO i y ρ' fh else .bad) D:=p
   refine PF hx hst hfm fun e T1 cls dx H' s1 I1 sm fl1 ae aT1 he HT1 xr=>?_
   have gx:=x.grow sm;obtain⟨C,hcl,rfl,_⟩:=xr (BN B ρ' σ) gx.aok;obtain⟨C',hg,hm,hdb,xc,hup⟩:=h1;refine NE (W:=W) hx hN hi hl hg hm hdb xc (hup y.c C hcl) hh I1 fl1 ae aT1 he HT1 gx hcl xr (fun hc=>?_) (fun hc=>?_)
   ·rw[Aw hc]at p2;exact p2
   ·rw[AA (by rw[hc];exact At)]at p2;exact p2.elim
  |next ρ'=>rw[eb]at p;exact p
  |ret d b=>rw[eb]at p;exact p
  |brk ρ'=>rw[eb]at p;exact p
  |cont ρ'=>rw[eb]at p;exact p
  |bad=>rw[eb]at p;exact p.elim
 ·cases f with
  |next=>exact EX hf
  |ret u=>exact hf
  |brk=>exact hf
  |cont=>exact hf
noncomputable def Sr(up:Ag->Ad Ag)(c c' i:Ag)(o:O)(fh fh' fe:Rho->O):O:=match o with
  |.exn y ρ'=>if (up y.c).contains c=Ab then hdO i y ρ' fh else if (up y.c).contains c'=Ab then hdO i y ρ' fh' else .bad
  |.next ρ'=>fe ρ'
  |o=>o
theorem X4{c c' i:Ag}{g':Ah}{hs' els:Ad A9}{h0':A9}{p1' hp':AN}{fb fh' fe:Rho->O}(hx:X.ex=[])(hst:X.stack=X.env::X.outer)(hfm:X.env.frame=Aa X.env.locals)(hN:X.N.Nodup)(hi:X.N[i]?=Aa n)(hl:X.env.scope.names.lookup n=Aa .local)(h1:Mv X CL up g c)(h2:Mv X CL up g' c')(hb:STB X CL body fb)(hρ:∀ ρ y ρ',fb ρ=.exn y ρ'->ρ'=ρ)(hh:∀ e,SSs (Cx.hot X e) CL (fun _ _=>AU) (h0::hs) fh)(hh':∀ e,SSs (Cx.hot X e) CL (fun _ _=>AU) (h0'::hs') fh')(he:SSs X CL W els fe):SS X CL W (.Try body [.ExceptHandler (Aa (.Name g p1)) (Aa n) (h0::hs) hp,.ExceptHandler (Aa (.Name g' p1')) (Aa n) (h0'::hs') hp'] els [] pos) (fun ρ=>Sr up c c' i (fb ρ) fh fh' fe):=fun Fz B pI s σ H D I ⟨ρ,x,p⟩=>by
 refine VB (Be (hb Fz B pI s σ H {D with nx:=fun σ1 H1=>∃ ρ1,Sx X.K CL Fz B ρ1 σ1 H1/\BS X.K CL Fz B W (fe ρ1) D} ρ _ Ve I x ?_ (hρ ρ)) (fun f s1 hf=>?_) fun _ _ z=>z)
 ·dsimp only at p;cases eb:fb ρ with
  |exn y ρ'=>
   rw[eb]at p;intro e0;subst e0;have p2:BS X.K CL Fz B W (if (up y.c).contains c=Ab then hdO i y ρ' fh else if (up y.c).contains c'=Ab then hdO i y ρ' fh' else .bad) D:=p
   refine PF hx hst hfm fun e T1 cls dx H' s1 I1 sm fl1 ae aT1 he HT1 xr=>?_
   have gx:=x.grow sm;obtain⟨C,hcl,rfl,_⟩:=xr (BN B ρ' σ) gx.aok;obtain⟨C1,hg,hm,hdb,xc,hup⟩:=h1;obtain⟨C2,hg2,hm2,hdb2,xc2,hup2⟩:=h2;refine NE (W:=W) hx hN hi hl hg hm hdb xc (hup y.c C hcl) hh I1 fl1 ae aT1 he HT1 gx hcl xr (fun hc=>?_) (fun hc=>?_)
   ·rw[Aw hc]at p2;exact p2
   ·rw[AA (by rw[hc];exact At)]at p2
    refine NE (W:=W) hx hN hi hl hg2 hm2 hdb2 xc2 (hup2 y.c C hcl) hh' I1 fl1 ae aT1 he HT1 gx hcl xr (fun hc=>?_) (fun hc=>?_)
    ·rw[Aw hc]at p2;exact p2
    ·rw[AA (by rw[hc];exact At)]at p2;exact p2.elim
  |next ρ'=>rw[eb]at p;exact fun σ1 H1 x1=>⟨ρ',x1,p⟩
  |ret d b=>rw[eb]at p;exact p
  |brk ρ'=>rw[eb]at p;exact p
  |cont ρ'=>rw[eb]at p;exact p
  |bad=>rw[eb]at p;exact p.elim
 ·cases f with
  |next=>
   obtain⟨σ1,H1,I1,ρ1,x1,q⟩:=hf;exact he Fz B pI s1 σ1 H1 D I1 ⟨ρ1,x1,q⟩
  |ret u=>exact hf
  |brk=>exact hf
  |cont=>exact hf
theorem Qs{f:Aj}{E:XK}{e:Ap}{es:Ad Ap}{t:TA}(F:FnOk X.prog X.w X.K X.mg X.base CX k f fd ps sp)(hr:Room k X.A)(hg:Gl X x)(hm:X.mg x=Aa (.ref f))(hk:B1 X.K (.ref f)=Ab)(hb:Fq X.K fd ps [])(hx:∀ pI H s e s',Inv X pI σ0 H s->CX X.stack H s E e s'->X.xe e s')(ha:PA X (e::es) t)(hdb:(x==("__debug__" : Ah))=Ac)(he:Az (e::es) X.env=(Ac,eval e X.env)::Az es X.env)(hpl:(B8 pos (Az es X.env)).any (·.1)=Ac):PE X (.Call (.Name x p) (e::es) [] pos) (fun σ H Q=>σ=σ0/\t σ H fun vs H1=>sp vs H1 Q E):=by
 intro pI s σ H Q I ⟨e0,h⟩;subst e0;refine D5 (IG I hg hm ?_ hdb);refine Gs (h₀:=X.base) I.ok.mod.kin hk (thn (ha pos pI s σ H _ I h) fun us s1 ⟨vs,H1,I1,r,q⟩=>⟨I1.kIn,?_⟩) he hpl
 have hl:us.length=ps.length:=by rw[<-r.length];exact F.len _ _ _ _ q
 have hb':FT s1 fd ⟨us,[]⟩ (ps.zip us):=by
  have:=hb s1 us I1.kIn (by rw[Ce];exact hl)
  rw[Ce]at this;exact this
 refine F6 (E5 (F.run X.A X.stack s1 H1 ⟨us,[]⟩ us vs Q E hr I1.env0 hb' r q) fun r s' hq=>?_)
 cases r with
 |error e=>exact hx pI H1 s1 e s' I1 hq
 |ok fl=>
  cases fl with
  |ret u=>exact I1.after hq
  |next=>exact Bc hq
  |brk=>exact Bc hq
  |cont=>exact Bc hq
def Ox(K:Fg)(CL:ClA)(Rp:Hp->V->D->Prop)(E0:XK)(H:Hp)(r:R D)(Q:VK):Prop:=match r with
  |.ok d=>∀ v H',AE H H'->Rp H' v d->Q v H'
  |.exn y=>∀ cls dx H',AE H H'->FP K CL H' cls dx y->E0 cls dx H'
  |.bad=>AU
theorem LP{n:Ag}{f:Aj}{e:Ap}{es:Ad Ap}{ft:Rho->R (Ad D)}{sh:Rho->Ao}{E0:XK}(G:FnOk X.prog X.w X.K X.mg X.base CX k f fd ps (spD X.K CL n fr F))(hr:Room k X.A)(hg:Gl X x)(hm:X.mg x=Aa (.ref f))(hk:B1 X.K (.ref f)=Ab)(hb:Fq X.K fd ps [])(hx:∀ pI H s e s',Inv X pI σ0 H s->CX X.stack H s E0 e s'->X.xe e s')(ha:SA X CL (fun _ _=>AU) (e::es) fs)(hat:SAT X CL (fun _ _=>AU) (e::es) ft)(hst:∀ ρ,sh ρ=Ab->ft ρ=fs ρ)(hn:∀ ρ ds,ft ρ=.ok ds->ds.length=n)(hnx:∀ ρ y,ft ρ≠.exn y)(hdb:(x==("__debug__" : Ah))=Ac)(he:Az (e::es) X.env=(Ac,eval e X.env)::Az es X.env)(hpl:∀ pos,(B8 pos (Az es X.env)).any (·.1)=Ac)(A:Aj->Prop):PE X (.Call (.Name x p) (e::es) [] pos) (fun σ H Q=>σ=σ0/\AOk H A/\∃ ρ,Good X.K CL A ρ σ H/\Ox X.K CL (Dq X.K CL fr H A) E0 H ((ft ρ).bind fun ds=>(F ds).bind fun d=>if sh ρ=Ab then .ok d else if Ft fr d=Ab then .ok d else .bad) Q):=fun pI s σ H Q I ⟨e0,hA,ρ,gd,q⟩=>by
 by_cases hs:sh ρ=Ab
 ·rw[hst ρ hs]at q;refine Qs G hr hg hm hk hb hx (ha A) hdb he (hpl _) pI s σ H Q I ⟨e0,hA,ρ,gd,?_⟩;cases e1:fs ρ with
  |bad=>rw[e1]at q;exact q
  |exn y=>exact absurd (by rw[hst ρ hs];exact e1) (hnx ρ y)
  |ok ds=>
   rw[e1]at q;intro vs H1 s1 r1;refine⟨ds,A,by rw[r1.length];exact hn ρ ds (by rw[hst ρ hs];exact e1),hA.same s1,r1,?_⟩
   have q':Ox X.K CL (Dq X.K CL fr H A) E0 H ((F ds).bind fun d=>if sh ρ=Ab then .ok d else if Ft fr d=Ab then .ok d else .bad) Q:=q
   cases e2:F ds with
   |ok d=>
    rw[e2,R.bind_ok,Aw hs]at q';exact fun v H2 s2 r2=>q' v H2 (s1.trans s2) ⟨r2.1,fun z ds' e'=>let ⟨a,xs,z1,z2,z3⟩:=r2.2 z ds' e';⟨a,xs,z1,s1.free z2,z3⟩⟩
   |exn y=>
    rw[e2]at q';exact fun cls dx H2 s2 xr=>q' cls dx H2 (s1.trans s2) xr
   |bad=>rw[e2]at q';exact q'.elim
 ·refine Qs G hr hg hm hk hb hx (hat A) hdb he (hpl _) pI s σ H Q I ⟨e0,hA,ρ,gd,?_⟩;cases e1:ft ρ with
  |bad=>rw[e1]at q;exact q
  |exn y=>exact absurd e1 (hnx ρ y)
  |ok ds=>
   rw[e1]at q;intro vs H1 s1 r1;refine⟨ds,A0,by rw[r1.plain.length];exact hn ρ ds e1,fun _ z=>z.elim,r1.plain,?_⟩
   have q':Ox X.K CL (Dq X.K CL fr H A) E0 H ((F ds).bind fun d=>if sh ρ=Ab then .ok d else if Ft fr d=Ab then .ok d else .bad) Q:=q
   cases e2:F ds with
   |ok d=>
    rw[e2,R.bind_ok,AA hs]at q';split at q'
    ·rename_i hc;exact fun v H2 s2 r2=>q' v H2 (s1.trans s2) (N2 hA (s1.trans s2) hc ⟨r2.1,fun z ds' e'=>let ⟨a,xs,z1,z2,z3⟩:=r2.2 z ds' e';⟨a,xs,z1,s1.free z2,z3⟩⟩)
    ·exact q'.elim
   |exn y=>
    rw[e2]at q';exact fun cls dx H2 s2 xr=>q' cls dx H2 (s1.trans s2) xr
   |bad=>rw[e2]at q';exact q'.elim
noncomputable def Cx.pw(X:Cx)(pI:Pn)(Xw:Vq):Cx:={X with pn:=X.pn++pI,xe:=Xw}
section
variable{X:Cx}{pI pins':Pn}{σ:L2.St}{H:Hp}{s:As}{Xw:Vq}
theorem jF(ok:X.Ok):(Cx.pw X pI Xw).Ok:=⟨ok.mod,ok.kind,ok.glob,ok.blt,ok.above,ok.inj,ok.has,ok.cab,ok.hd,ok.frames,ok.stk,ok.exf,ok.bs,ok.bsz,ok.noex,ok.exfs,ok.funs,ok.frf⟩
theorem Lb(I:Inv X pI σ H s)(Xw:Vq):Inv (Cx.pw X pI Xw) [] σ H s:=⟨jF I.ok,I.os,I.bare,I.base,I.loc,I.cell,I.free,I.freeC,fun p hp=>I.pin p (by
 rcases Hk.mp hp with z|z
 ·exact z
 ·exact absurd z (by simp)),I.hok,I.len⟩
theorem J4(ok:X.Ok)(I:Inv (Cx.pw X pI Xw) pins' σ H s):Inv X pI σ H s:=⟨ok,I.os,I.bare,I.base,I.loc,I.cell,I.free,I.freeC,fun p hp=>I.pin p (FW _ hp),I.hok,I.len⟩
theorem L7(ok:X.Ok){D:Ends}{f:Flow}{s':As}(h:SP (Cx.pw X pI Xw) pins' D f s'):SP X pI D f s':=by
 cases f with
 |next=>obtain⟨σ',H',I,q⟩:=h;exact⟨σ',H',J4 ok I,q⟩
 |brk=>obtain⟨σ',H',I,q⟩:=h;exact⟨σ',H',J4 ok I,q⟩
 |cont=>obtain⟨σ',H',I,q⟩:=h;exact⟨σ',H',J4 ok I,q⟩
 |ret u=>obtain⟨v,σ',H',I,r,q⟩:=h;exact⟨v,σ',H',J4 ok I,r,q⟩
end
section
variable{X:Cx}{CL:ClA}{k n:Ag}{fr:Ao}{f:Aj}{fd:BP}{ps:Ad Ah}{F:Ad D->R D}{x:Ah}{p pos pos2:AN}{e:Ap}{es:Ad Ap}{fs ft:Rho->R (Ad D)}{sh:Rho->Ao}
theorem QS(hx:X.ex=[])(ok:X.Ok)(q:Jx X CL pI σ H y Xw):∀ pins' H1 s1 e s',Inv (Cx.pw X pI Xw) pins' σ H1 s1->CXR X.prog X.w (Cx.pw X pI Xw).stack H1 s1 (fun cls dx H'=>FP X.K CL H' cls dx y/\AE H H') e s'->(Cx.pw X pI Xw).xe e s':=by
 intro pins' H1 s1 ev s' J h;obtain⟨e,T,cls,dx,H',rfl,os,bare,un,hok,fl,he,hT,ne,nT,xr,sm⟩:=h;have J':=J4 ok J;have J2:=J'.call' (s':=s') (ch:=[]) os un hok bare (fun b z=>absurd z (by simp))
 exact q s' H' e T cls dx J2 sm fl he hT (KU J' hx ne) (KU J' hx nT) xr
theorem QT:∀ pins' H1 s1 e s',Inv (Cx.pw X pI Xw) pins' σ H1 s1->CXR X.prog X.w (Cx.pw X pI Xw).stack H1 s1 (fun _ _ _=>AU) e s'->(Cx.pw X pI Xw).xe e s':=by
 intro pins' H1 s1 ev s' J h;obtain⟨e,T,cls,dx,H',rfl,os,bare,un,hok,fl,he,hT,ne,nT,w⟩:=h;exact w.elim
variable(hx0:X.ex=[])(G:FnOk X.prog X.w X.K X.mg X.base (CXR X.prog X.w) k f fd ps (spD X.K CL n fr F))(hr:Room k X.A)(hg:Gl X x)(hm:X.mg x=Aa (.ref f))
    (hk:B1 X.K (.ref f)=Ab) (hb:Fq X.K fd ps []) (hst:∀ ρ,sh ρ=Ab->ft ρ=fs ρ) (hn:∀ ρ ds,ft ρ=.ok ds->ds.length=n) (hnx:∀ ρ y,ft ρ≠.exn y)
    (hdb:(x==("__debug__" : Ah))=Ac) (he:Az (e::es) X.env=(Ac,eval e X.env)::Az es X.env) (hpl:∀ pos,(B8 pos (Az es X.env)).any (·.1)=Ac)
    (ha:∀ pI Xw,E4 (model X.prog X.w) X.A X.env Xw->SA (Cx.pw X pI Xw) CL (fun _ _=>AU) (e::es) fs/\SAT (Cx.pw X pI Xw) CL (fun _ _=>AU) (e::es) ft)
include hx0 G hr hg hm hk hb hst hn hnx hdb he hpl ha
theorem XA(hs:Dh (.Call (.Name x p) (e::es) [] pos) Ae pos2.line X.env=pure Ac):STB X CL [.Expr (.Call (.Name x p) (e::es) [] pos) pos2] (fun ρ=>O.of ρ ((ft ρ).bind fun ds=>(F ds).bind fun d=>if sh ρ=Ab then .ok d else if Ft fr d=Ab then .ok d else .bad) fun _=>.next ρ):=by
 intro Fz B pI s σ H D ρ Xw own I sx q _;obtain⟨ha1,ha2⟩:=ha pI Xw own;dsimp only at q;cases er:(ft ρ).bind fun ds=>(F ds).bind fun d=>if sh ρ=Ab then .ok d else if Ft fr d=Ab then .ok d else .bad with
 |bad=>rw[er]at q;exact q.elim
 |exn y=>
  rw[er]at q;have key:=LP (X:=Cx.pw X pI Xw) (p:=p) (pos:=pos) (σ0:=σ) (fr:=fr) (F:=F) (n:=n) (sh:=sh) G hr hg hm hk hb (QS hx0 I.ok (q rfl)) ha1 ha2 hst hn hnx hdb he hpl (BN B ρ σ);refine Be (K6 (LS (pos:=pos2) key hs) [] s σ H D (Lb I Xw) ⟨rfl,sx.aok,ρ,sx.good,?_⟩) (fun _ _ z=>L7 I.ok z) fun _ _ z=>z
  rw[er];exact fun cls dx H' sm xr=>⟨xr,sm⟩
 |ok d=>
  rw[er]at q;have key:=LP (X:=Cx.pw X pI Xw) (p:=p) (pos:=pos) (σ0:=σ) (fr:=fr) (F:=F) (n:=n) (sh:=sh) (E0:=fun _ _ _=>AU) G hr hg hm hk hb QT ha1 ha2 hst hn hnx hdb he hpl (BN B ρ σ)
  refine Be (K6 (LS (pos:=pos2) key hs) [] s σ H D (Lb I Xw) ⟨rfl,sx.aok,ρ,sx.good,?_⟩) (fun _ _ z=>L7 I.ok z) fun _ _ z=>z
  rw[er];exact fun v H' sm r=>q σ H' (sx.grow sm)
theorem X2{i:Ag}{m:Ah}(hN:X.N.Nodup)(hi:X.N[i]?=Aa m)(hl:Loc X.env.scope m)(hf:X.fn m=Ab\/X.env.scope.names.lookup m=Aa .local)(hs:Dh (.Call (.Name x p) (e::es) [] pos) (Aa (.Name m pos')) pos2.line X.env=pure Ac):STB X CL [.Assign [.Name m pos'] (.Call (.Name x p) (e::es) [] pos) pos2] (fun ρ=>O.of ρ ((ft ρ).bind fun ds=>(F ds).bind fun d=>if sh ρ=Ab then .ok d else if Ft fr d=Ab then .ok d else .bad) fun d=>.next (ρ.set i (Aa (d,Ac)))):=by
 intro Fz B pI s σ H D ρ Xw own I sx q _;obtain⟨ha1,ha2⟩:=ha pI Xw own;dsimp only at q;cases er:(ft ρ).bind fun ds=>(F ds).bind fun d=>if sh ρ=Ab then .ok d else if Ft fr d=Ab then .ok d else .bad with
 |bad=>rw[er]at q;exact q.elim
 |exn y=>
  rw[er]at q;have key:=LP (X:=Cx.pw X pI Xw) (p:=p) (pos:=pos) (σ0:=σ) (fr:=fr) (F:=F) (n:=n) (sh:=sh) G hr hg hm hk hb (QS hx0 I.ok (q rfl)) ha1 ha2 hst hn hnx hdb he hpl (BN B ρ σ);refine Be (K6 (Mg (X:=Cx.pw X pI Xw) (i:=i) (pos:=pos2) hN hi hl key hs hf) [] s σ H D (Lb I Xw) ⟨rfl,sx.aok,ρ,sx.good,?_⟩) (fun _ _ z=>L7 I.ok z) fun _ _ z=>z
  rw[er];exact fun cls dx H' sm xr=>⟨xr,sm⟩
 |ok d=>
  rw[er]at q;have key:=LP (X:=Cx.pw X pI Xw) (p:=p) (pos:=pos) (σ0:=σ) (fr:=fr) (F:=F) (n:=n) (sh:=sh) (E0:=fun _ _ _=>AU) G hr hg hm hk hb QT ha1 ha2 hst hn hnx hdb he hpl (BN B ρ σ)
  refine Be (K6 (Mg (X:=Cx.pw X pI Xw) (i:=i) (pos:=pos2) hN hi hl key hs hf) [] s σ H D (Lb I Xw) ⟨rfl,sx.aok,ρ,sx.good,?_⟩) (fun _ _ z=>L7 I.ok z) fun _ _ z=>z
  rw[er];exact fun v H' sm r=>q _ H' ((sx.grow sm).set i r.1)
end
section
variable{X:Cx}{CL:ClA}{W:XW}
theorem XB{e:Ap}{es:Ad Ap}(hcalm:X.calm=Ab)(rz:Lq X CL W)(hg:Gl X g)(hm:X.mg g=Aa (.ref C))(hdb:(g==("__debug__" : Ah))=Ac)(xc:DK X.K C Ae=Ab)(hcl:CL c=Aa C)(ha:SA X CL W (e::es) fs)(hxn:∀ ds,xn c ds=.bad\/xn c ds=.ok ⟨c,[]⟩)(he:Az (e::es) X.env=(Ac,eval e X.env)::Az es X.env)(hpl:∀ pos,(B8 pos (Az es X.env)).any (·.1)=Ac)(hz:∀ ρ ds,fs ρ=.ok ds->ds.length<=100000):SS X CL W (.Raise (Aa (.Call (.Name g np) (e::es) [] cpos)) Ae pos) (fun ρ=>O.of ρ (noX (fs ρ)) fun xs=>O.of ρ (xn c xs) fun x=>.exn x ρ):=fun Fz B pI s σ H D I ⟨ρ,x,p⟩=>by
 dsimp only at p;cases e1:fs ρ with
 |bad=>rw[e1]at p;exact p.elim
 |exn y=>rw[e1]at p;exact p.elim
 |ok ds=>
  rw[e1]at p;have p2:BS X.K CL Fz B W (O.of ρ (xn c ds) fun x=>.exn x ρ) D:=p
  rcases hxn ds with e2|e2
  ·rw[e2]at p2;exact p2.elim
  ·rw[e2]at p2;have p3:∀ H,(∀ b o,Fz b o->H b=Aa o)->W ⟨c,[]⟩ H:=p2;obtain⟨bm,N,nm,qn,bs,hd,sn,sub,ab,col,dd,k0,k1,k2,k3,k5,mN,hob,hni,hbase⟩:=Ni I.kIn xc;refine wpAny_Raise_call_subT (bmB:=veB) (nm:=nm) (q:=qn) (C:=C) (N:=N) (bs:=bs) (bm:=bm) (hdct:=hd) (sn:=sn) (sub:=sub) (ab:=ab) (col:=col) (dd:=dd) (k0:=k0) (k1:=k1) (k2:=k2) (k3:=k3) (k5:=k5) (mN:=mN) EE hbase (I.ok.hd hcalm) (by rw[he];show (Ac||(B8 cpos (Az es X.env)).any (·.1))=Ac;rw[hpl];rfl) hni ?_
   refine IG I hg hm ⟨rfl,?_⟩ hdb;have q1:=ha (BN B ρ σ) cpos pI s σ H (fun vs H1=>AE H H1/\vs.length=ds.length) I ⟨x.aok,ρ,x.good,by rw[e1];exact fun vs H1 s1 r1=>⟨s1,r1.length⟩⟩
   rw[he]at q1 ⊢;refine F1 (Be q1 (fun us s2 ⟨vs,H2,I2,r2,s2',hl⟩=>⟨rfl,?_⟩) fun _ _ z=>z)
   obtain⟨o1,o2,o3⟩:=hob _ I2.kIn;refine⟨?_,o1,o2,o3,fun h' ev hmade=>?_⟩
   ·rw[<-r2.length,hl,Ds];have:=hz ρ ds e1;omega
   ·obtain⟨t,ge,_⟩:=hmade.there;have I3:Inv X pI σ H2 {s2 with heap:=h'}:=I2.kept (t':=s2.toks) hmade.keeps
    exact rz pI σ H2 _ ev C Ae t ⟨c,[]⟩ I3 (fun hx=>Je I2 hx hmade.new) (J5 I2.hok hmade.new) ge (fun A _=>⟨C,hcl,rfl,.inl rfl⟩) (p3 H2 fun b o z=>s2' _ _ (x.same b o z))
def Lg(K:Fg)(CL:ClA)(up:Ag->Ad Ag)(c':Ag)(C':Aj):Prop:=∀ c C,CL c=Aa C->C8 K (.ref C) (.ref C')=Aa ((up c).contains c')
theorem P6{s:As}{cv:Ai}{b:Ao}{Q:VK}(I:Inv X pI σ H s)(ha:H a=Aa (.ext φ))(hφ:∀ h,φ h->∃ o,h.get? a=Aa o/\o.cls=.ref C)(xc:XcOk X.K C)(e:C8 X.K (.ref C) cv=Aa b)(q:Q (.bl b) H):
  Ay (model X.prog X.w) X.A (call (.builtin "isinstance") [.ref a,cv]) (EP X pI σ Q) X.xe s:=by
 have p:XAt a C s.heap:=hφ _ (I.hok a _ ha).1;exact PySem.W.kia_one (Qx xc) I.kIn p e (by intro z;cases z) fun tk=>⟨.bl b,H,I.tok tk,rfl,q⟩
theorem Pi:∀(Cs:Ad Aj){its:Ad Ai},Bf (Cs.map V.ref) its->its=Cs.map Ci
 |[],_,rv=>by cases rv;rfl
 |c::cs,_,rv=>by
  cases rv with
  |cons h1 h2=>rw[Pi cs h2];cases h1;rfl
theorem Y0{s:As}{tp:Aj}{Cs:Ad Aj}{b:Ao}{Q:VK}(I:Inv X pI σ H s)(ha:H a=Aa (.ext φ))(hφ:∀ h,φ h->∃ o,h.get? a=Aa o/\o.cls=.ref C)(xc:XcOk X.K C)(ht:H tp=Aa (.tup (Cs.map V.ref)))(e:HG X.K (.ref C) (Cs.map Ci)=Aa b)(q:Q (.bl b) H):
  Ay (model X.prog X.w) X.A (call (.builtin "isinstance") [.ref a,.ref tp]) (EP X pI σ Q) X.xe s:=by
 have p:XAt a C s.heap:=hφ _ (I.hok a _ ha).1;obtain⟨_,its,rv,⟨o,ho,hc,n,hd⟩⟩:=I.hok tp _ ht;have ei:its=Cs.map Ci:=Pi Cs rv;subst ei;obtain⟨cls,dd,dat,sl⟩:=o;have hc':cls=.type "tuple" := hc;have hd':dat=.seq (E1 (Cs.map Ci)) n:=hd;subst hc' hd';exact PySem.W.kia_tup (Qx xc) I.kIn p ho e (by intro z;cases z) fun tk=>⟨.bl b,H,I.tok tk,rfl,q⟩
theorem Rk{K:Fg}{up:Ag->Ad Ag}{c:Ag}{C:Aj}(h:CL c=Aa C):∀(cs:Ad (Ag×Aj)),(∀ p∈cs,Lg K CL up p.1 p.2)->HG K (.ref C) ((cs.map fun q:Ag×Aj=>q.2).map Ci)=Aa (cs.any fun p=>(up c).contains p.1)
  |[],_=>rfl
  |p::cs,hk=>by
    have h1:=hk p AI c C h;have h2:=Rk h cs fun q hq=>hk q (Ax _ hq)
    show (match C8 K (.ref C) (.ref p.2) with
      |some Ab=>Aa Ab
      |some Ac=>HG K (.ref C) ((cs.map fun q:Ag×Aj=>q.2).map Ci)
      | none=>Ae)=_
    rw[h1,FD];cases (up c).contains p.1 with
    |true=>rfl
    |false=>rw[h2];rfl
theorem Nh{ks:Ad Ki}{Rp:Hp->V->D->Prop}{Q:VK}(hk:ks.all Dy=Ab)(hne:ks≠[])(p:Bg Rp W H (DX up ks d) Q):∃ c fs,d=.exc c fs/\Bg Rp W H (.ok (.bl (ks.any fun k=>kiD up k d))) Q:=by
 have ha:ks.any Dy=Ab:=by
  cases ks with
  |nil=>exact absurd rfl hne
  |cons k ks=>simp only[FC,Ak]at hk;simp[FD,hk.1]
 cases d with
 | exc c fs=>exact⟨c,fs,rfl,by
   have p':Bg Rp W H (if ks.all Dy=Ab then .ok (.bl (ks.any fun k=>kiD up k (.exc c fs))) else .bad) Q:=p
   rw[Aw hk]at p';exact p'⟩
 |obj c fs=>exact Bc p
 |dic _=>exact Bc p
 |non=>simp only[DX,ha,Ep]at p;exact Bc p
 |bl _=>simp only[DX,ha,Ep]at p;exact Bc p
 |int _=>simp only[DX,ha,Ep]at p;exact Bc p
 |str _=>simp only[DX,ha,Ep]at p;exact Bc p
 |tup _=>simp only[DX,ha,Ep]at p;exact Bc p
 |lst _=>simp only[DX,ha,Ep]at p;exact Bc p
theorem Ny{v:V}{fs:Ad (Ah×D)}(r:CH K CL H A v (.exc c fs)):∃ a C φ,v=.ref a/\CL c=Aa C/\H a=Aa (.ext φ)/\∀ h,φ h->∃ o,h.get? a=Aa o/\o.cls=.ref C:=by
 rcases r with ⟨a,C,φ,e,_,hc,hH,hφ,_⟩|⟨a,xs,ds,_,z,_⟩
 ·exact⟨a,C,φ,e,hc,hH,hφ⟩
 ·cases z
variable{a:Ap}{fa:Rho->R D}{up:Ag->Ad Ag}{x:Ah}{p p2 pos:AN}
theorem bA{c':Ag}(hxc:∀ c C,CL c=Aa C->XcOk X.K C)(hg:Gl X "isinstance")(hm:X.mg "isinstance" = Ae)(hg2:Gl X x)(hm2:X.mg x=Aa (.ref C'))(hkit:Lg X.K CL up c' C')(hdb:(x==("__debug__" : Ah))=Ac)(ha:ST X CL W a fa)(he:Az [a,.Name x p2] X.env=(Ac,eval a X.env)::Az [.Name x p2] X.env):SE X CL W (.Call (.Name "isinstance" p) [a,.Name x p2] [] pos) (fun ρ=>(fa ρ).bind fun x=>DX up [.cls c'] x):=fun A=>
 PE.weak (KY (r:=fun xs H Q=>∃ a C φ c,xs=[.ref a,.ref C']/\CL c=Aa C/\H a=Aa (.ext φ)/\(∀ h,φ h->∃ o,h.get? a=Aa o/\o.cls=.ref C)/\Q (.bl ((up c).contains c')) H) (fun pI s σ H xs us Q I r ⟨b,C,φ,c,e,hc,hH,hφ,q⟩=>by
   subst e;obtain⟨u,w',rfl,r1,r2⟩:=Js r;cases r1;cases r2;exact P6 I hH hφ (hxc c C hc) (hkit c C hc) q)
  hg hm F0 (Eu (ha A) (Eu (Qz (v:=.ref C') hg2 hm2 rfl hdb) Gz rfl) he) (by decide) (by decide) he rfl) fun σ H Q ⟨hA,ρ,g,q⟩=>⟨hA,ρ,g,Bg.bind q fun d v H1 _ s1 r1 p1=>by
   obtain⟨c,fs,rfl,p2⟩:=Nh (by rfl) (by simp) p1
   obtain⟨b,C,φ,rfl,hc,hH,hφ⟩:=Ny r1;refine⟨b,C,φ,c,rfl,hc,hH,hφ,p2 _ H1 (AE.refl H1) ?_⟩;show V.bl _=V.bl _;simp[kiD]⟩
theorem aX(hxc:∀ c C,CL c=Aa C->XcOk X.K C)(hg:Gl X "isinstance")(hm:X.mg "isinstance" = Ae)(hg2:Gl X "ValueError")(hm2:X.mg "ValueError" = Ae)(ha:ST X CL W a fa)(he:Az [a,.Name "ValueError" p2] X.env=(Ac,eval a X.env)::Az [.Name "ValueError" p2] X.env):SE X CL W (.Call (.Name "isinstance" p) [a,.Name "ValueError" p2] [] pos) (fun ρ=>(fa ρ).bind fun x=>DX up [.verr] x):=fun A=>
 PE.weak (KY (r:=fun xs H Q=>∃ a C φ c,xs=[.ref a,.ty "ValueError"]/\CL c=Aa C/\H a=Aa (.ext φ)/\(∀ h,φ h->∃ o,h.get? a=Aa o/\o.cls=.ref C)/\Q (.bl Ab) H) (fun pI s σ H xs us Q I r ⟨b,C,φ,c,e,hc,hH,hφ,q⟩=>by
   subst e;obtain⟨u,w',rfl,r1,r2⟩:=Js r;cases r1;cases r2;exact P6 I hH hφ (hxc c C hc) (hxc c C hc).ve q)
  hg hm F0 (Eu (ha A) (Eu (QB (v:=.ty "ValueError") hg2 hm2 PyProof.Rows.Boot.«ValueError» rfl (by decide) (by decide)) Gz rfl) he) (by decide) (by decide) he rfl) fun σ H Q ⟨hA,ρ,g,q⟩=>⟨hA,ρ,g,Bg.bind q fun d v H1 _ s1 r1 p1=>by
   obtain⟨c,fs,rfl,p2⟩:=Nh (by rfl) (by simp) p1
   obtain⟨b,C,φ,rfl,hc,hH,hφ⟩:=Ny r1;refine⟨b,C,φ,c,rfl,hc,hH,hφ,p2 _ H1 (AE.refl H1) ?_⟩;show V.bl _=V.bl _;simp[kiD]⟩
def TC(Cs:Ad Aj):TA:=fun _ H Q=>Q (Cs.map V.ref) H
theorem aY{ts:Ad Ap}{cs:Ad (Ag×Aj)}(hxc:∀ c C,CL c=Aa C->XcOk X.K C)(hg:Gl X "isinstance")(hm:X.mg "isinstance" = Ae)(hts:PA X ts (TC (cs.map fun q:Ag×Aj=>q.2)))(hne:cs≠[])(hl:cs.length<=1000)(hkit:∀ q∈cs,Lg X.K CL up q.1 q.2)(ha:ST X CL W a fa)(he:Az [a,.Tuple ts kk p2] X.env=(Ac,eval a X.env)::Az [.Tuple ts kk p2] X.env):SE X CL W (.Call (.Name "isinstance" p) [a,.Tuple ts kk p2] [] pos) (fun ρ=>(fa ρ).bind fun x=>DX up (cs.map fun q=>.cls q.1) x):=fun A=>
 PE.weak (KY (r:=fun xs H Q=>∃ a C φ c tp,xs=[.ref a,.ref tp]/\CL c=Aa C/\H a=Aa (.ext φ)/\(∀ h,φ h->∃ o,h.get? a=Aa o/\o.cls=.ref C)/\H tp=Aa (.tup ((cs.map fun q:Ag×Aj=>q.2).map V.ref))/\Q (.bl (cs.any fun q=>(up c).contains q.1)) H) (fun pI s σ H xs us Q I r ⟨b,C,φ,c,tp,e,hc,hH,hφ,ht,q⟩=>by
   subst e;obtain⟨u,w',rfl,r1,r2⟩:=Js r;cases r1;cases r2;exact Y0 I hH hφ (hxc c C hc) ht (Rk hc cs hkit) q)
  hg hm F0 (Eu (ha A) (Eu (RE hts) Gz rfl) he) (by decide) (by decide) he rfl) fun σ H Q ⟨hA,ρ,g,q⟩=>⟨hA,ρ,g,Bg.bind q fun d v H1 _ s1 r1 p1=>by
   have hk:(cs.map fun q=>Ki.cls q.1).all Dy=Ab:=by simp[Uf,Dy]
   obtain⟨c,fs,rfl,p2⟩:=Nh hk (by simpa using hne) p1
   obtain⟨b,C,φ,rfl,hc,hH,hφ⟩:=Ny r1;refine⟨by rw[Cf,Cf,Ds];omega,fun t ht=>?_⟩
   have hbt:b≠t:=Fp hH ht;refine⟨b,C,φ,c,t,rfl,hc,by rw[By hbt];exact hH,hφ,E8,p2 _ _ (FN ht _) ?_⟩
   show V.bl _=V.bl _;simp[kiD,Ug,GH]⟩
end
theorem RT(q:DK K C v=Ab):∃ dd cd sl bm,K.lookup C=Aa ⟨.type "type", dd,.cls cd,sl⟩/\cd.mro=.ref C::bm:=by
 unfold DK at q;split at q
 ·rename_i dd cd sl ho;split at q
  ·rename_i C' bm k0 k1 k2 k3 n k5 hm hs;simp only[Ak,AW,Bo]at q;obtain⟨rfl,_⟩:=q;exact⟨dd,cd,sl,bm,ho,hm⟩
  ·cases q
 ·cases q
theorem LW(q:DK K C v=Ab):∃ cd bm,Dg K C=Aa cd/\cd.mro=.ref C::bm:=by
 obtain⟨dd,cd,sl,bm,h1,h2⟩:=RT q;exact⟨cd,bm,by unfold Dg;rw[h1],h2⟩
theorem fM(q:DK K C v=Ab):Bw K (.ref C)=Aa (.type "type"):=by
 obtain⟨dd,cd,sl,bm,h1,h2⟩:=RT q;show (K.lookup C).map _=_;rw[h1];rfl
theorem CA{v:Ao}{i i':An Ai}(q:DK K C i=Ab)(q':DK K C' i'=Ab)(su:Al K (.ref C) (.ref C')=Aa v):C8 K (.ref C) (.ref C')=Aa v:=by
 unfold C8;by_cases e:C=C'
 ·subst e;obtain⟨cd,bm,h1,h2⟩:=LW q;have su':Bh K C (.ref C)=Aa v:=su;have:v=Ab:=by
   unfold Bh at su';rw[h1,UJ,h2,AA (by simp)]at su'
   rw[<-Bs su'];simp
  rw[Aw (by simp),this]
 ·rw[AA (fun z=>e (Ik (AW.mp z)))]
  obtain⟨cd,bm,h1,h2⟩:=LW q';show (if ((Dg K C').isSome&&Bw K (.ref C')==Aa (.type "type"))=Ab then Al K (.ref C) (.ref C') else Ae)=_
  rw[h1,fM q',Aw (by simp),su]
theorem Kh(exc:DK K C v=Ab)(ga:Av K (.ref C) "__getattribute__" = Aa (Aa (.builtin "BaseException.__getattribute__")))(gt:Av K (.ref C) "__getattr__" = Aa Ae)(cl:Av K (.ref C) "__class__" = Aa (Aa (.builtin "object.__class__")))(ob:Bh K C (.type "object")=Aa Ab)(be:Al K (.ref C) (.type "BaseException")=Aa Ab)(sv:Al K (.ref C) (.type "ValueError")=Aa Ab):XcOk K C:=by
 obtain⟨cd,bm,h1,h2⟩:=LW exc;refine⟨⟨v,exc⟩,ga,gt,cl,ob,be,by rw[h1];rfl,?_⟩
 unfold C8;rw[AA (fun z=>by cases AW.mp z)]
 have hm:Vr "ValueError" = Ab:=by decide +kernel
 show (if Vr "ValueError" = Ab then Al K (.ref C) (.type "ValueError") else Ae)=_
 rw[Aw hm,sv]
noncomputable abbrev Ih:CXT:=fun _ _ _ _ _ _=>AU
structure HotOk (P:AS) (w:AC) (K:Fg) (mg:Ah->An Ai) (base:AD) (k:Ag) (f:Aj) (fd:BP) (ps:Ad Ah) (sp:Sp):Prop where
 len:∀ vs H Q E,sp vs H Q E->vs.length=ps.length
 run:∀(A:AZ)(ev:Aj)(outer:Ad B5)(s:As)(H:Hp)(args:Args)(us:Ad Ai)(vs:Ad V)(Q:VK)(E:XK),Room k A->Env0 P w K mg base (A.mark (Aa (.ref ev))) outer s H->FT s fd args (ps.zip us)->Bf vs us->sp vs H Q E ->
  Fi (model P w) (A.mark (Aa (.ref ev))) (.call (.ref f) args) (CR Ih outer P w H s Q E) s
theorem fE{mg:Ah->An Ai}{base:AD}{f:Aj}{params:Ku}{dV kV doc pm cdv ct oc:Ai}{N ps:Ad Ah}(lk:K.lookup f=Aa ⟨oc,od,.func (CD name qual params body scope dV kV doc pm an cdv ct),osl⟩)(hcd:El K cdv qual=Ab)(S:FnScope N ps scope)(len:∀ vs H Q E,sp vs H Q E->vs.length=ps.length)(hbody:∀(A:AZ)(ev:Aj)(outer:Ad B5)(s:As)(H:Hp)(vs:Ad V)(Q:VK)(E:XK),Room k (A.deeper (Eh qual scope s.heap.objs.size f cdv))->sp vs H Q E ->
   ∃ t,PSs (Cx.hot (Eo Ih P w K mg base N qual scope f cdv A outer s H E) ev) body t/\t {nx:=fun _ H'=>Q .non H',rt:=Q} (start N vs) H):HotOk P w K mg base (k+1) f (CD name qual params body scope dV kV doc pm an cdv ct) ps sp:=by
 refine⟨len,fun A ev outer s H args us vs Q E hr e0 hb r hsp=>?_⟩
 have hl:=len _ _ _ _ hsp;have e1:Env0 P w K mg base A outer s H:=⟨e0.frames,e0.mod,e0.bs,e0.bsz,e0.funs,e0.frf,e0.hok,e0.bare⟩;have KX:K.In s.heap:=e0.mod.kin.keeps fun b o e=>(e0.bs b o e).1
 have lim:s.heap.NoLimit:=e0.mod.nolimit.keeps fun b o e=>(e0.bs b o e).1
 have hkind:∀ y∈ps.zip us,scope.names.lookup y.1=Aa .local\/(scope.names.lookup y.1=Aa .cell/\((CF (s.heap.objs.size+1) scope.names []).lookup y.1).isSome=Ab):=fun ⟨n,v⟩ hy=>by
  rcases S.par n (FX hy).1 with q|q
  ·exact .inl q
  ·exact .inr ⟨q,FA _ _ _ (.inl q)⟩
 have hdp:(A.mark (Aa (.ref ev))).depth<Gg:=hr.depth;refine FU hdp (KX _ _ lk) rfl S.co S.gen rfl (Gu KX hcd) (hb _ _ _ _ ?_);refine EG S.kind hkind fun env he s1 x=>?_
 subst he;refine⟨lim.keeps x.toInCall.keep,Iy ?_⟩;obtain⟨t,ht,hq⟩:=hbody A ev outer s H vs Q E (hr.deeper _) hsp;have I:Inv (Eo Ih P w K mg base N qual scope f cdv A outer s H E) [] (start N vs) H s1:=Nb S hr.hd e1 hl r x;refine Be (ht [] s1 (start N vs) H _ (ND I ev) hq) (fun fl s' hs=>?_) fun e s' hs=>hs.elim
 have fin:∀{σ':L2.St}{H':Hp}{v:V}{u:Ai},Inv (Cx.hot (Eo Ih P w K mg base N qual scope f cdv A outer s H E) ev) [] σ' H' s'->BD v u->Q v H'->CE outer P w H s Q u s':=
  fun {σ' H' v u} J rv q=>⟨v,H',J.os,J.bare,J.base,J.hok,rv,q⟩
 cases fl with
 |ret u=>
  obtain⟨v,σ',H',J,rv,q⟩:=hs;exact fin J rv q
 |next=>
  obtain⟨σ',H',J,q⟩:=hs;exact fin (v:=V.non) (u:=Dr) J rfl q
 |brk=>
  obtain⟨_,_,_,q⟩:=hs;exact Bc q
 |cont=>
  obtain⟨_,_,_,q⟩:=hs;exact Bc q
theorem Bx{v:Ao}{i:An Ai}(q:DK K C i=Ab)(mr:Bh K C' (.type "object")=Aa Ab)(ty:Bw K (.ref C')=Aa (.type "type"))(su:Al K (.ref C) (.ref C')=Aa v):C8 K (.ref C) (.ref C')=Aa v:=by
 unfold C8;by_cases e:C=C'
 ·subst e;obtain⟨cd,bm,h1,h2⟩:=LW q;have su':Bh K C (.ref C)=Aa v:=su;have:v=Ab:=by
   unfold Bh at su';rw[h1,UJ,h2,AA (by simp)]at su'
   rw[<-Bs su'];simp
  rw[Aw (by simp),this]
 ·rw[AA (fun z=>e (Ik (AW.mp z)))]
  show (if ((Dg K C').isSome&&Bw K (.ref C')==Aa (.type "type"))=Ab then Al K (.ref C) (.ref C') else Ae)=_
  have cs:(Dg K C').isSome=Ab:=by
   unfold Bh at mr;cases e1:Dg K C' with
   |none=>rw[e1]at mr;cases mr
   |some cd=>rfl
  rw[cs,ty,Aw (by simp),su]
def spH(K:Fg)(CL:ClA)(n:Ag)(fr:Ao)(F:Ad D->R D):Sp:=fun vs H Q _=>∃(ds:Ad D)(A:Aj->Prop),vs.length=n/\AOk H A/\Reps K CL H A vs ds/\(match F ds with
  |.ok d=>∀ v H',AE H H'->Dq K CL fr H A H' v d->Q v H'
  |.exn _=>AU
  | .bad=>AU)
section
variable{X:Cx}{CL:ClA}{ev:Aj}
theorem Qt{f:Aj}{E:XK}{e:Ap}{es:Ad Ap}{t:TA}(F:HotOk X.prog X.w X.K X.mg X.base k f fd ps sp)(hr:Room k X.A)(hg:Gl X x)(hm:X.mg x=Aa (.ref f))(hk:B1 X.K (.ref f)=Ab)(hb:Fq X.K fd ps [])(ha:PA (Cx.hot X ev) (e::es) t)(hdb:(x==("__debug__" : Ah))=Ac)(he:Az (e::es) X.env=(Ac,eval e X.env)::Az es X.env)(hpl:(B8 pos (Az es X.env)).any (·.1)=Ac):PE (Cx.hot X ev) (.Call (.Name x p) (e::es) [] pos) (fun σ H Q=>t σ H fun vs H1=>sp vs H1 Q E):=by
 intro pI s σ H Q I h;refine D5 (IG (X:=Cx.hot X ev) I hg hm ?_ hdb);refine Gs (h₀:=X.base) I.ok.mod.kin hk (thn (ha pos pI s σ H _ I h) fun us s1 ⟨vs,H1,I1,r,q⟩=>⟨I1.kIn,?_⟩) he hpl
 have hl:us.length=ps.length:=by rw[<-r.length];exact F.len _ _ _ _ q
 have hb':FT s1 fd ⟨us,[]⟩ (ps.zip us):=by
  have:=hb s1 us I1.kIn (by rw[Ce];exact hl)
  rw[Ce]at this;exact this
 refine F6 (E5 (F.run X.A ev X.stack s1 H1 ⟨us,[]⟩ us vs Q E hr I1.env0 hb' r q) fun r s' hq=>?_)
 cases r with
 |error e=>exact Bc hq
 |ok fl=>
  cases fl with
  |ret u=>exact I1.after hq
  |next=>exact Bc hq
  |brk=>exact Bc hq
  |cont=>exact Bc hq
theorem WY{n:Ag}{f:Aj}{e:Ap}{es:Ad Ap}{ft:Rho->R (Ad D)}{sh:Rho->Ao}(G:HotOk X.prog X.w X.K X.mg X.base k f fd ps (spH X.K CL n fr F))(hr:Room k X.A)(hg:Gl X x)(hm:X.mg x=Aa (.ref f))(hk:B1 X.K (.ref f)=Ab)(hb:Fq X.K fd ps [])(ha:SA (Cx.hot X ev) CL (fun _ _=>AU) (e::es) fs)(hat:SAT (Cx.hot X ev) CL (fun _ _=>AU) (e::es) ft)(hst:∀ ρ,sh ρ=Ab->ft ρ=fs ρ)(hn:∀ ρ ds,ft ρ=.ok ds->ds.length=n)(hdb:(x==("__debug__" : Ah))=Ac)(he:Az (e::es) X.env=(Ac,eval e X.env)::Az es X.env)(hpl:∀ pos,(B8 pos (Az es X.env)).any (·.1)=Ac):SC (Cx.hot X ev) CL (fun _ _=>AU) fr (.Call (.Name x p) (e::es) [] pos) (fun ρ=>(ft ρ).bind fun ds=>(F ds).bind fun d=>if sh ρ=Ab then .ok d else if Ft fr d=Ab then .ok d else .bad):=fun A pI s σ H Q I ⟨hA,ρ,gd,q⟩=>by
 dsimp only at q;by_cases hs:sh ρ=Ab
 ·rw[hst ρ hs]at q;refine Qt (E:=fun _ _ _=>AU) G hr hg hm hk hb (ha A) hdb he (hpl _) pI s σ H Q I ⟨hA,ρ,gd,?_⟩
  cases e1:fs ρ with
  |bad=>rw[e1]at q;exact q
  |exn y=>rw[e1]at q;exact q
  |ok ds=>
   rw[e1]at q;intro vs H1 s1 r1;refine⟨ds,A,by rw[r1.length];exact hn ρ ds (by rw[hst ρ hs];exact e1),hA.same s1,r1,?_⟩
   have q':Bg (Dq X.K CL fr H A) (fun _ _=>AU) H ((F ds).bind fun d=>if sh ρ=Ab then .ok d else if Ft fr d=Ab then .ok d else .bad) Q:=q
   cases e2:F ds with
   |ok d=>
    rw[e2,R.bind_ok,Aw hs]at q';exact fun v H2 s2 r2=>q' v H2 (s1.trans s2) ⟨r2.1,fun z ds' e'=>let ⟨a,xs,z1,z2,z3⟩:=r2.2 z ds' e';⟨a,xs,z1,s1.free z2,z3⟩⟩
   |exn y=>rw[e2]at q';exact(q' H (AE.refl H)).elim
   |bad=>rw[e2]at q';exact q'.elim
 ·refine Qt (E:=fun _ _ _=>AU) G hr hg hm hk hb (hat A) hdb he (hpl _) pI s σ H Q I ⟨hA,ρ,gd,?_⟩
  cases e1:ft ρ with
  |bad=>rw[e1]at q;exact q
  |exn y=>rw[e1]at q;exact q
  |ok ds=>
   rw[e1]at q;intro vs H1 s1 r1;refine⟨ds,A0,by rw[r1.plain.length];exact hn ρ ds e1,fun _ z=>z.elim,r1.plain,?_⟩
   have q':Bg (Dq X.K CL fr H A) (fun _ _=>AU) H ((F ds).bind fun d=>if sh ρ=Ab then .ok d else if Ft fr d=Ab then .ok d else .bad) Q:=q
   cases e2:F ds with
   |ok d=>
    rw[e2,R.bind_ok,AA hs]at q';split at q'
    ·rename_i hc;exact fun v H2 s2 r2=>q' v H2 (s1.trans s2) (N2 hA (s1.trans s2) hc ⟨r2.1,fun z ds' e'=>let ⟨a,xs,z1,z2,z3⟩:=r2.2 z ds' e';⟨a,xs,z1,s1.free z2,z3⟩⟩)
    ·exact q'.elim
   |exn y=>rw[e2]at q';exact(q' H (AE.refl H)).elim
   |bad=>rw[e2]at q';exact q'.elim
theorem X1{t:Ap}{xs ys:Ad A9}{fc:Rho->R Ao}{fx fy:Rho->O}(hc:∀ pI Xw,E4 (model X.prog X.w) X.A X.env Xw->SB (Cx.pw X pI Xw) CL (fun _ _=>AU) t fc)(hnx:∀ ρ y,fc ρ≠.exn y)(hx:STB X CL xs fx)(hy:STB X CL ys fy):STB X CL [.If t xs ys pos] (fun ρ=>O.of ρ (fc ρ) fun b=>if b=Ab then fx ρ else fy ρ):=by
  intro Fz B pI s σ H D ρ Xw own I sx q hρ;dsimp only at q hρ;cases ec:fc ρ with
  |bad=>rw[ec]at q;exact q.elim
  |exn y=>exact absurd ec (hnx ρ y)
  |ok b=>
    rw[ec]at q hρ;have key:=hc pI Xw own (BN B ρ σ) [] s σ H (fun b' H'=>b'=b/\AE H H') (Lb I Xw) ⟨sx.aok,ρ,sx.good,by rw[ec];exact fun H' sm=>⟨rfl,sm⟩⟩
    refine G1 (thn (wpAny_If (Q:=SP X pI D) (thn key fun b' s1 ⟨H1,I1,e,sm⟩=>?_)) (fun f s1 z=>by
      cases f with
      |next=>exact EX z
      |ret v=>exact z
      |brk=>exact z
      | cont=>exact z))
    subst e;have J:=J4 I.ok I1;have up:∀{y:Ex},Jx X CL pI σ H y Xw->Jx X CL pI σ H1 y Xw:=fun {y} w s' H' e T cls dx a1 a2=>w s' H' e T cls dx a1 (sm.trans a2)
    have lift:∀{o:O},(match o with
       |.exn y ρ'=>ρ'=ρ->Jx X CL pI σ H y Xw
       |o=>BS X.K CL Fz B (fun _ _=>AU) o D)->(match o with
       |.exn y ρ'=>ρ'=ρ->Jx X CL pI σ H1 y Xw
       | o=>BS X.K CL Fz B (fun _ _=>AU) o D):=fun {o} z=>by
      cases o with
      |exn y ρ'=>exact fun e=>up (z e)
      |next _=>exact z
      |ret _ _=>exact z
      |brk _=>exact z
      |cont _=>exact z
      |bad=>exact z
    cases b' with
    |true=>exact hx Fz B pI s1 σ H1 D ρ Xw own J (sx.grow sm) (lift q) hρ
    |false=>exact hy Fz B pI s1 σ H1 D ρ Xw own J (sx.grow sm) (lift q) hρ
end
section
variable{M:Gp}{A:AZ}{E:Vq}{s:As}{env:B5}{nm q:Ah}{C N:Aj}{bs bm bmB:Ad Ai}{hdct:Ao}{sn:Ad Ah}{sub:Ad Ai}{ab:Ao}{col:An Ao}{dd:An Aj}{k0 k1 k2 k3 k5:An Ai}{B newId initId:Dv}
theorem Yl{x:Sem Ai}{Q:Flow->As->Prop}(hb:bm.contains (.type "BaseException")=Ab)(hh:A.handled=Ae)(h:Ay M A x (fun v s'=>∃ e t dx,v=.ref e/\s'.heap.get? C=Aa (B6 nm q C N bs bm hdct sn sub ab col dd k0 k1 k2 k3 k5 newId)/\s'.heap.get? e=Aa (FO C dx t)/\E (.ref e) s') E s):Ay M A (raiseStmt env (Aa x) Ae) Q E s:=by
 have hB:(Ci C::bm).contains (.type "BaseException")=Ab:=by rw[Gq,hb,GS]
 unfold raiseStmt;refine Am (Be h (fun v s' z=>?_) fun _ _ z=>z)
 obtain⟨e,t,dx,rfl,gC,ge,hE⟩:=z;obtain⟨hp,g,d,tk,os⟩:=s';unfold FO at ge
 repeat (first|(with_reducible refine BY ge ?_)|(with_reducible refine BY gC ?_)|(with_reducible refine EK gC ?_;rw[hB])|wp_step)
 exact wpAny_raiseNew_none hh hE
end
section
variable{prog:AS}{w:AC}{A:AZ}{E:Vq}{h:AD}{g:Bk E3}{d:Hn}{t:Ag}{os:GO}
variable{nm q:Ah}{C N fI:Aj}{bs bm bmB:Ad Ai}{hdct:Ao}{sn:Ad Ah}{sub:Ad Ai}{ab:Ao}{col:An Ao}{dd:An Aj}{k0 k1 k2 k3 k5:An Ai}{B newId initId:Dv}{mN:Ah->An Ai}{rest:Ad Ai}{oI:CW}
theorem Yo{Q:Fin->As->Prop}(F:GX B newId initId bmB)(T:DN h bmB bm)(gC:h.get? C=Aa (B6 nm q C N bs bm hdct sn sub ab col dd k0 k1 k2 k3 k5 newId))(hn:h.Ns N mN)(hi:mN "__init__" = Aa (.ref fI))(gI:h.get? fI=Aa oI)(cI:oI.cls=.type "function")(hl:rest.length<=sizeLine)(hq:∀ h' e,HF h h' e (.ref C) rest->Ay (model prog w) A (call (.ref fI) (.ref e::rest)) (fun r s'=>r=.none/\Q (.done (.ret (.ref e))) s') E ⟨h',g,d,t,os⟩):Ay (model prog w) A (Builtin.«type.__call__» ⟨.ref C::rest,[]⟩) Q E ⟨h,g,d,t,os⟩:=by
 repeat (first|(with_reducible refine BY gC ?_)|(with_reducible refine wpAny_madeBy_exc gC ?_)|wp_step)
 refine codeAny_call_builtin_code (Gr _ F.quiet) (wpAny_check_new_subT F T gC (codeAny_exc_new_subT F T gC ?_ hl));show Ay _ _ _ _ _ _;have kp:∀ b o,h.get? b=Aa o->((h.push { cls:=.type "tuple", data:=.seq rest.toArray }).push {cls:=.ref C,data:=.fields #[.ref h.objs.size,.none,.none,.none,.bool Ac,.none]}).get? b=Aa o:=fun b o z=>Au _ (Au _ z)
 have ge:((h.push { cls:=.type "tuple", data:=.seq rest.toArray }).push {cls:=.ref C,data:=.fields #[.ref h.objs.size,.none,.none,.none,.bool Ac,.none]}).get? (h.objs.size+1)=Aa {cls:=.ref C,data:=.fields #[.ref h.objs.size,.none,.none,.none,.bool Ac,.none]}:=by heap_get
 have gt:((h.push { cls:=.type "tuple", data:=.seq rest.toArray }).push {cls:=.ref C,data:=.fields #[.ref h.objs.size,.none,.none,.none,.bool Ac,.none]}).get? h.objs.size=Aa { cls:=.type "tuple", data:=.seq rest.toArray }:=Au _ (U8 rfl rfl);generalize (h.push { cls:=.type "tuple", data:=.seq rest.toArray }).push {cls:=.ref C,data:=.fields #[.ref h.objs.size,.none,.none,.none,.bool Ac,.none]}=h2 at *;have gC2:=kp _ _ gC;have gI2:=kp _ _ gI;have hn2:h2.Ns N mN:=let ⟨o,es,ep,z,r⟩:=hn;⟨o,es,ep,kp _ _ z,r⟩
 have T2:=T.keeps (h':=h2) kp;have cC:(Ci C::bm).contains (.ref C)=Ab:=by simp
 unfold HQ
 repeat (first|(with_reducible refine BY ge ?_)|(with_reducible refine EK gC2 ?_;rw[cC])|wp_step)
 show Ay _ _ (typeLookup (.ref C) _) _ _ _;refine wpAny_typeLookup_tail gC2 hn2 T2 F.mroIs F.init.lookup ?_;rw[hi];refine Ca (Am ?_);unfold bindSpecial;refine Am (wpAny_typeOf (T := "function") ⟨_,gI2,cI⟩ ?_);rw[Aw (by decide)]
 refine AK (Am (Be (hq h2 (h.objs.size+1) ⟨kp,Dc (UG _),h.objs.size,ge,Dc (AY _),gt⟩) (fun r s' z=>?_) fun _ _ z=>z))
 obtain⟨rfl,z⟩:=z
 wp_walk
 exact z
theorem Yp{Q:Vq}(F:GX B newId initId bmB)(T:DN h bmB bm)(gC:h.get? C=Aa (B6 nm q C N bs bm hdct sn sub ab col dd k0 k1 k2 k3 k5 newId))(hn:h.Ns N mN)(hi:mN "__init__" = Aa (.ref fI))(gI:h.get? fI=Aa oI)(cI:oI.cls=.type "function")(hl:rest.length<=sizeLine)(hq:∀ h' e,HF h h' e (.ref C) rest->Ay (model prog w) (A.under (.builtin "type.__call__" ⟨.ref C::rest,[]⟩)) (call (.ref fI) (.ref e::rest)) (fun r s'=>r=.none/\Q (.ref e) s') E ⟨h',g,d,t,os⟩):Ay (model prog w) A (call (.ref C) rest) Q E ⟨h,g,d,t,os⟩:=by
 have l1:=tc_lookup;have l2:=tc_bind (.ref C);have ty:(⟨h,g,d,t,os⟩:As).TypeIs (.ref C) "type" := ⟨_,gC,rfl⟩;refine F6 (codeAny_of_tree ?_);show Ay _ _ (callAny (.ref C) _) _ _ _
 repeat (any_goals (first|assumption|(with_reducible refine BY gC ?_)|wp_step))
 refine⟨rfl,codeAny_call_builtin_at (Gr _ (by decide +kernel)) entry_typeCall (wpAny_check_type_call_sub gC (Yo F T gC hn hi gI cI hl fun h' e m=>?_))⟩
 exact hq h' e m
end
section
variable{prog:AS}{w:AC}{A:AZ}{E:Vq}{s:As}{env:B5}
variable{nm q:Ah}{C N fI:Aj}{bs bm bmB:Ad Ai}{hdct:Ao}{sn:Ad Ah}{sub:Ad Ai}{ab:Ao}{col:An Ao}{dd:An Aj}{k0 k1 k2 k3 k5:An Ai}{B newId initId:Dv}{mN:Ah->An Ai}
theorem Xo{Q:Flow->As->Prop}{args:Ad Ap}(F:GX B newId initId bmB)(hb:bm.contains (.type "BaseException")=Ab)(hh:A.handled=Ae)(hp:(B8 cpos (Az args env)).any (·.1)=Ac)(hi:mN "__init__" = Aa (.ref fI))(h:Ay (model prog w) A (eval (.Name x np) env) (fun f s1=>f=.ref C/\Ay (model prog w) A (evalArgs (.ref C) Ab (B8 cpos (Az args env)) [])
   (fun a s2=>a.kw=[]/\a.pos.length<=sizeLine/\s2.heap.get? C=Aa (B6 nm q C N bs bm hdct sn sub ab col dd k0 k1 k2 k3 k5 newId)/\s2.heap.Ns N mN/\DN s2.heap bmB bm/\(∃ oI,s2.heap.get? fI=Aa oI/\oI.cls=.type "function") /\
    ∀ h' e,HF s2.heap h' e (.ref C) a.pos->Ay (model prog w) (A.under (.builtin "type.__call__" ⟨.ref C::a.pos,[]⟩)) (call (.ref fI) (.ref e::a.pos)) (fun r s'=>r=.none/\∃ t dx,s'.heap.get? C=Aa (B6 nm q C N bs bm hdct sn sub ab col dd k0 k1 k2 k3 k5 newId)/\s'.heap.get? e=Aa (FO C dx t)/\E (.ref e) s') E {s2 with heap:=h'}) E s1) E s):Ay (model prog w) A (exec (.Raise (Aa (.Call (.Name x np) args [] cpos)) Ae pos) env) Q E s:=by
 rw[arm_exec_Raise]
 try simp only[evalOpt,Ff]
 refine Am (DE (Yl (nm:=nm) (q:=q) (C:=C) (N:=N) (bs:=bs) (bm:=bm) (hdct:=hdct) (sn:=sn) (sub:=sub) (ab:=ab) (col:=col) (dd:=dd) (k0:=k0) (k1:=k1) (k2:=k2) (k3:=k3) (k5:=k5) (newId:=newId) hb hh ?_));refine Am (Be (wpAny_Call_ofName (Be h (fun f s1 z=>?_) fun _ _ z=>z)) (fun v s3 z=>Am (DE (AK z))) fun _ _ z=>z)
 obtain⟨rfl,z⟩:=z;unfold callWith;refine Am (Ca (Be z (fun a s2 y=>Am (DE ?_)) fun _ _ y=>y))
 obtain⟨us,kw⟩:=a;obtain⟨hk,hl,gC,hn,T,⟨oI,gI,cI⟩,k⟩:=y;obtain rfl:kw=[]:=hk;obtain⟨hp2,g,d,tk,os⟩:=s2;simp only[hp];refine Am (wpAny_keeperOf_exc gC (Am (Yp F T gC hn hi gI cI hl fun h' e m=>Be (k h' e m) (fun r s' y=>?_) fun _ _ y=>y)))
 obtain⟨rfl,t,dx,c1,c2,c3⟩:=y;exact⟨rfl,Am (Ca (wpAny_point (AK ⟨e,t,dx,rfl,c1,c2,c3⟩)))⟩
end
section
variable{prog:AS}{w:AC}{A:AZ}{E:Vq}{h:AD}{g:Bk E3}{d:Hn}{tk0:Ag}{os:GO}
variable{nm q:Ah}{C N e t:Aj}{dx:An Aj}{bs bm bmB:Ad Ai}{hdct:Ao}{sn:Ad Ah}{sub:Ad Ai}{ab:Ao}{col:An Ao}{dd:An Aj}{k0 k1 k2 k3 k5:An Ai}{B newId initId:Dv}
theorem bK{Q:Vq}(F:GX B newId initId bmB)(T:DN h bmB bm)(gC:h.get? C=Aa (B6 nm q C N bs bm hdct sn sub ab col dd k0 k1 k2 k3 k5 newId))(ge:h.get? e=Aa (FO C dx t))(hq:∀ h' t',(∀ b o,b≠e->h.get? b=Aa o->h'.get? b=Aa o)->h'.get? e=Aa (FO C dx t')->Q .none ⟨h',g,d,tk0,os⟩):Ay (model prog w) A (call (.builtin initId) [.ref e,.str z tk]) Q E ⟨h,g,d,tk0,os⟩:=by
 refine F6 (DI F.init.plain F.initEntry (wpAny_check_init_subT F T gC ge rfl ?_));unfold FO at ge
 wp_walk
 refine hq _ h.objs.size (fun b o nb z=>(Cq _ _ (CK nb)).trans (Au _ z)) ?_
 rw[CB _ (Au _ ge) rfl];rfl
end
noncomputable def xbd:Ag->Ag
 |0=>4
 |n+1=>8*xbd n+19
theorem Y2:∀ n:Fin 100,(AV (toString ((n.val:Ag):Af))).length<=4:=by decide +kernel
theorem R5{α:Type}(f:α->Ag){m:Ag}:∀ l:Ad α,(∀ x∈l,f x<=m)->(l.map f).sum<=l.length*m
 |[],_=>by simp
 |x::l,h=>by
  have h1:=h x AI;have h2:=R5 f l fun y hy=>h y (Ax _ hy)
  rw[CI,List.sum_cons,Br,Nat.succ_mul];omega
section
variable{X:Cx}{CL:ClA}{pI:Pn}{σ:L2.St}{H:Hp}{s:As}
structure Shw (h:AD) (n:Ag) (u:Ai) (pd:JA):Prop where
 rd:Reads h u pd []
 sh:pd.showable=Ab
 nd:pd.hasDict=Ac
 dp:pd.depth<=n
 ln:pd.shown.length<=xbd n
inductive ShwA (h:AD) (n:Ag):Ad Ai->Ad JA->Prop where
 |nil:ShwA h n [] []
 |cons {u:Ai} {pd:JA} {us:Ad Ai} {pds:Ad JA}:Shw h n u pd->ShwA h n us pds->ShwA h n (u::us) (pd::pds)
theorem QI{h:AD}{n:Ag}:∀{us:Ad Ai}{pds:Ad JA},ShwA h n us pds->ReadsAll h us pds []/\Vg pds=Ab/\Vf pds=Ac/\Ho pds<=n/\(∀ t∈DA pds,t.length<=xbd n)/\(DA pds).length=us.length
 |[],[],_=>⟨.nil,rfl,rfl,Fw _,(fun _ h=>nomatch h),rfl⟩
 |u::us,pd::pds,.cons h1 h2=>by
  obtain⟨a,b,c,d,e,f⟩:=QI h2;refine⟨.cons h1.rd a,?_,?_,?_,?_,?_⟩
  ·show (pd.showable&&Vg pds)=Ab;rw[h1.sh,b];rfl
  ·show (pd.hasDict||Vf pds)=Ac;rw[h1.nd,c];rfl
  ·show max pd.depth (Ho pds)<=n;exact Nat.max_le.mpr ⟨h1.dp,d⟩
  ·intro t ht;rcases AB.mp ht with rfl|ht
   ·exact h1.ln
   ·exact e t ht
  ·show (DA pds).length+1=us.length+1;rw[f]
theorem gN(I:Inv X pI σ H s):∀(n:Ag){d:D}{v:V}{u:Ai},xfD n d=Ab->Rep X.K CL H A v d->BD v u->∃ pd,Shw s.heap n u pd:=by
 intro n
 induction n with
 |zero=>
  intro d v u hx r rv;cases d with
  |int i=>
   have e:v=.int i:=r;subst e;obtain⟨t,rfl⟩:=rv;simp only[xfD,Ak,AG]at hx;refine⟨.int i,.int i t,?_,rfl,AY _,?_⟩
   ·show decide (i.natAbs.log2<1920)=Ab;refine Fk (E2 (Nat.log2_le_self _) (by omega))
   ·have:=Y2 ⟨i.toNat,by omega⟩
    rw[show ((i.toNat:Ag):Af)=i by omega]at this
    exact this
  |_=>exact absurd (show Ac=Ab from hx) At
 |succ n ih0=>
  intro d v u hx r rv;cases d with
  |tup ds=>
   obtain⟨a,xs,rfl,_,sq,rs⟩:=r;cases rv;obtain⟨its,vs,⟨o,ho,hc,m,hd⟩,hz⟩:=I.tuple sq;simp only[xfD,Ak,Do]at hx;have key:∀{xs:Ad V}{ds:Ad D}{its:Ad Ai},(∀ d∈ds,xfD n d=Ab)->Reps X.K CL H A xs ds->Bf xs its->∃ pds,ShwA s.heap n its pds:=fun {xs}=>by
    induction xs with
    |nil=>
     intro ds its _ rs vs;cases vs;exact⟨[],.nil⟩
    |cons x xs ih=>
     intro ds its hd rs vs;cases ds with
     |nil=>exact rs.elim
     |cons d ds=>
      cases vs with
      |cons v1 v2=>
       obtain⟨pd,h1⟩:=ih0 (hd d AI) rs.1 v1;obtain⟨pds,h2⟩:=ih (fun e he=>hd e (Ax _ he)) rs.2 v2
       exact⟨pd::pds,.cons h1 h2⟩
   obtain⟨pds,hf⟩:=key hx.2 rs vs;obtain⟨p1,p2,p3,p4,p5,p6⟩:=QI hf;have l8:its.length<=8:=by
    have h8:=Nat.ble_eq.mp hx.1;rw[<-vs.length,rs.length];exact h8
   refine⟨.tuple pds,.tuple ho hc hd (by simpa using p1),p2,p3,?_,?_⟩
   ·show Ho pds+1<=n+1;omega
   ·show (tupleText (DA pds)).length<=8*xbd n+19;have h1:=tupleText_len_le (DA pds);have h2:=R5 (fun t:Ah=>t.length) (DA pds) p5
    have h3:(DA pds).length*xbd n<=8*xbd n:=Nat.mul_le_mul_right _ (by omega)
    omega
  |_=>exact absurd (show Ac=Ab from hx) At
end
section
variable{X:Cx}{CL:ClA}
def tFs(K:Fg)(CL:ClA)(i:Ag):TE:=fun σ H Q=>∃ v d A n,σ[i]?=Aa (Aa v)/\Rep K CL H A v d/\xfD (n+1) d=Ab/\n<=1/\∀ t:Ah,Q (.str t) H
theorem Zl{e:Ap}{i:Ag}{p2 p3:AN}(hu:X.A.units+64<BZ)(hg:X.A.guards=Aa [])(hz:z.length<=1000)(he:PE X e (Gm i)):PE X (.JoinedStr [.FormattedValue e (-1) Ae p1,.Constant (.str z) k p2] p3) (tFs X.K CL i):=by
 intro pI s σ H Q I ⟨v,d,A,n,hv,r,hx,hn,q⟩;refine wpAny_JoinedStr ?_;show Ay (model X.prog X.w) X.A (eval (.FormattedValue e (-1) Ae p1) X.env) (fun v s1=>∃ y t,v=.str y t/\(Iw++y).length<=sizeLine/\Joins (model X.prog X.w) X.A X.xe [eval (.Constant (.str z) k p2) X.env] (Iw++y) _ s1) X.xe s
 refine wpAny_FormattedValue_plain (thn (he pI s σ H (fun x H1=>x=v/\H1=H) I ⟨v,hv,rfl,rfl⟩) fun u s1 ⟨x,H1,I1,r1,e1,e2⟩=>?_)
 subst e1 e2;have zl:sizeLine ≥ 2000:=by decide
 obtain⟨pd,sw⟩:=gN I1 (n+1) hx r r1;cases d with
 |tup ds=>
  obtain⟨a,xs,rfl,_,sq,rs⟩:=r;cases r1;have xb:xbd (n+1)<=500:=by
   have:n=0\/n=1:=by omega
   rcases this with rfl|rfl<;>decide
  have ln:=sw.ln;have dp:=sw.dp;refine formatField_of_reads sw.rd sw.sh (fun z=>by rw[sw.nd]at z;cases z) hg (by omega) (fun _ _ z=>z) (fun h' tk1 tk2 kp=>?_) (by omega)
  have l0:(Iw++pd.shown).length<=500:=by
   rw[strLen_append];have:Str.empty.length=0:=rfl;omega
  refine⟨pd.shown,tk1,rfl,by omega,?_⟩
  have I2:Inv X pI σ H1 {s1 with heap:=h',toks:=tk2}:=I1.kept kp
  show Ay (model X.prog X.w) X.A (eval (.Constant (.str z) k p2) X.env) _ X.xe {s1 with heap:=h',toks:=tk2}
  refine thn (RF (X:=X) pI _ σ H1 (fun x H2=>x=.str z/\H2=H1) I2 ⟨rfl,rfl⟩) fun u2 s2 ⟨x2,H2,I3,r3,e3,e4⟩=>?_
  subst e3 e4;obtain⟨t3,rfl⟩:=r3;have l1:(Iw++pd.shown++z).length<=sizeLine:=by
   rw[strLen_append];omega
  exact⟨z,t3,rfl,l1,l1,⟨.str _,H2,I3.tok _,⟨_,rfl⟩,q _⟩⟩
 |_=>cases hx
end
def XEx(e C:Aj)(dx:An Aj)(t:Aj):AD->Prop:=fun h=>h.get? e=Aa (FO C dx t)
theorem NR{e C:Aj}{t:Aj}:∀ h1 h2:AD,XEx e C dx t h1->(∀ o,h1.get? e=Aa o->h2.get? e=Aa o)->XEx e C dx t h2:=fun _ _ p k=>k _ p
section
variable{X:Cx}{CL:ClA}{C:Aj}{nm q:Ah}{N:Aj}{bs bm:Ad Ai}{hdct:Ao}{sn:Ad Ah}{sub:Ad Ai}{ab:Ao}{col:An Ao}{dd:An Aj}{k0 k1 k2 k3 k5:An Ai}
theorem W8{apos:AN}{es ej:Ap}{i j:Ag}(hob:∀ h:AD,X.K.In h->h.get? C=Aa (B6 nm q C N bs bm hdct sn sub ab col dd k0 k1 k2 k3 k5 "ValueError.__new__")/\DN h veB bm)(hg:Gl X g)(hm:X.mg g=Aa (.ref OV))(hdb:(g==("__debug__" : Ah))=Ac)(s1:Eb X.K (.ref OV) "__getattribute__" = Aa (Aa (.builtin "type.__getattribute__")))(s2:EW X.K OV (.type "type")=Ab)(s3:EV X.K (.ref OV) (.type "type") "__init__" = Aa (.val (.builtin "ValueError.__init__")))(hline:(apos.endLine==cpos.line)=Ab)(he:PE X es (Gm i))(hj:PE X ej (tFs X.K CL j))(sA:Az [es,ej] X.env=(Ac,eval es X.env)::Az [ej] X.env)(sB:Az [ej] X.env=[(Ac,eval ej X.env)]):
  PE X (.Call (.Attribute (.Name g np) "__init__" apos) [es,ej] [] cpos) (fun σ H Q=>∃ e dx t v d A n,σ[i]?=Aa (Aa (.ref e))/\H e=Aa (.ext (XEx e C dx t))/\σ[j]?=Aa (Aa v)/\Rep X.K CL H A v d/\xfD (n+1) d=Ab/\n<=1/\∀ t',Q .non (upd H e (.ext (XEx e C dx t')))):=by
 have st1:Az [es,ej] X.env=[(Ac,eval es X.env),(Ac,eval ej X.env)]:=by rw[sA,sB]
 intro pI s σ H Q I ⟨e,dx,t,v,d,A,n,h1,h2,h3,r,hx,hn,hq⟩;rw[arm_eval_Call];refine Am (show Ay (model X.prog X.w) X.A (eval (.Name g np) X.env) _ X.xe s from IG I hg hm ?_ hdb)
 refine Am (DE ?_);have form:methodCallForm ([es,ej].length+([]:Ad Keyword).length) (B8 cpos (Az [es,ej] X.env)) (backToKw cpos (keywordEach [] X.env))=Ab:=by
  rw[st1];rfl
 have mpos:methodCallPos Ab (.Name g np) X.env apos cpos=pure cpos:=by
  unfold methodCallPos;simp[hline]
 unfold methodCall;rw[form];refine Am (Ca (PySem.W.method_cls I.kIn s1 (PySem.W.cls_value I.kIn s2 s3 rfl ?_)));refine Am (IY mpos ?_);have I1:=I.tok (s.toks+1);have pa:PA X [es,ej] _:=Eu he (Eu hj Gz sB) sA;have hA:=pa cpos pI {s with toks:=s.toks+1} σ H (fun xs H'=>H'=H/\∃ z,xs=[.ref e,.str z]) I1 ⟨_,h1,⟨v,d,A,n,h3,r,hx,hn,fun z=>⟨rfl,z,rfl⟩⟩⟩
 rw[st1]at hA ⊢;refine Calls.callWith_builtin rfl (F1 (thn hA fun us s2 ⟨xs,H2,I2,rv,e2,z,ex⟩=>?_))
 subst e2 ex;obtain⟨u1,u2,rfl,ru1,ru2⟩:=Js rv;cases ru1;obtain⟨tk,rfl⟩:=ru2;obtain⟨gC,T⟩:=hob _ I2.kIn;have ge:XEx e C dx t s2.heap:=(I2.hok e _ h2).1;obtain⟨hp,g2,d2,tk2,os2⟩:=s2;refine bK EE T gC ge fun h' t' kp ge'=>?_
 refine⟨.non,_,I2.write (x:=e) (e:=e) (o:=.ext (XEx e C dx t')) (t':=tk2) (by rw[h2];exact trivial) (.inl rfl) kp ⟨_,ge'⟩ ⟨ge',⟨_,ge'⟩,NR⟩,rfl,hq t'⟩
end
theorem VR{bmB bm:Ad Ai}(T:DN h bmB bm){self:Ai}{what:Ah}(hb:refuseLoop self what bmB=pure ()):refuseLoop self what bm=pure ():=by
 induction T with
 |base=>exact hb
 |own _ _ _ _ ih=>rw[Vz];exact ih
section
variable{prog:AS}{w:AC}{A:AZ}{E:Vq}{h:AD}{g:Bk E3}{d:Hn}{tk0:Ag}{os:GO}{K:Fg}
variable{nm q:Ah}{C N e t:Aj}{bs bm bmB:Ad Ai}{sn:Ad Ah}{sub:Ad Ai}{ab:Ao}{col:An Ao}{dd:An Aj}{k0 k1 k2 k3 k5:An Ai}{B newId sa owner:Dv}
theorem Yr{Q:Fin->As->Prop}{v:Ai}(X:K.In h)(SF:JC B bmB sa owner)(T:DN h bmB bm)(gC:h.get? C=Aa (B6 nm q C N bs bm Ab sn sub ab col dd k0 k1 k2 k3 k5 newId))(hf:Av K (.ref C) name=Aa Ae)(ge:h.get? e=Aa (FO C Ae t))(hq:∀ h' dx tk',(∀ b o,b≠e->h.get? b=Aa o->h'.get? b=Aa o)->h'.get? e=Aa (FO C (Aa dx) t)->h.get? dx=Ae->h'.Ns1 dx (fun y=>if y=name then Aa v else Ae)->Q (.done (.ret .none)) ⟨h',g,d,tk',os⟩):Ay (model prog w) A (Builtin.«object.__setattr__» ⟨[.ref e,.str name tk,v],[]⟩) Q E ⟨h,g,d,tk0,os⟩:=by
  have pass:=VR T (SF.passes (.ref e));have L1:=Cj (M:=model prog w) X hf;obtain⟨o,ho⟩:∃ o,FO C Ae t=o:=⟨_,rfl⟩;rw[ho]at ge;have oc:o.cls=.ref C:=by rw[<-ho];rfl
  unfold Builtin.«object.__setattr__»
  repeat (first|rw[refuse_eq]|(rw[Vz,pass])|(with_reducible refine BY ge ?_;rw[oc])|(with_reducible refine wpAny_mroOf_exc gC ?_)|(with_reducible refine L1.at ?_)|(with_reducible refine Am (L1.at ?_))|wp_step)
  have od:o.dict=Ae:=by rw[<-ho];rfl
  have odt:o.data=.fields #[.ref t,.none,.none,.none,.bool Ac,.none]:=by rw[<-ho];rfl
  rw[od,odt,AA (by simp[typeHasDict])]
  let D:CW:={ cls:=.type "dict", data:=.dict #[] }
  have g1:(h.push D).get? e=Aa o:=Au _ ge;have ne:e≠h.objs.size:=Bb (AH ge);refine Am (wpAny_alloc' ?_);refine Am (wpAny_update' g1 ?_);refine AK ?_
  let U:CW->CW:=fun o=>{cls:=o.cls,dict:=Aa h.objs.size,data:=o.data,slots:=o.slots}
  have gD:((h.push D).update e U).get? h.objs.size=Aa D:=(Va _ _ _ _ ne.symm).trans (U8 rfl rfl);have nD:((h.push D).update e U).Ns h.objs.size (fun _=>Ae):=⟨_,#[],_,gD,rfl,fun z hz=>absurd hz (by simp),fun _=>rfl⟩
  change Ay _ _ (UR h.objs.size (.str name tk) name v) _ _ _;unfold UR Builtin.ObjectAttr.newKeyGuard;refine Am (AK (Am (wpAny_nsSet1 (Heap.Ns1.of_empty nD) fun k hk hs=>?_)))
  obtain⟨oD,eD,pD,q1,q2,q3⟩:=hk.count (Within.cons name v Within.nil);have le:oD.data.pastItsLine=Ae:=by
    rw[q2];refine pastItsLine_dict (Co q3 ?_);rw[Br,List.length_nil,Ds];omega
  refine Am (wpAny_lookBehind q1 le ?_)
  wp_walk
  refine hq k h.objs.size _ (fun b ob nb hb=>?_) ?_ (Dc (AY _)) hk
  · rw[hs.2 b (Bb (AH hb)),Va _ _ _ _ nb];exact Au _ hb
  · rw[hs.2 e ne];have:Aa (FO C (Aa h.objs.size) t)=Aa (U o):=by rw[<-ho];rfl
    rw[this];exact CB _ g1 (by rw[<-ho];rfl)
end
section
variable{prog:AS}{w:AC}{A:AZ}{E:Vq}{h:AD}{g:Bk E3}{d:Hn}{tk0:Ag}{os:GO}{K:Fg}
variable{nm q:Ah}{C N e t:Aj}{bs bm bmB:Ad Ai}{sn:Ad Ah}{sub:Ad Ai}{ab:Ao}{col:An Ao}{dd:An Aj}{k0 k1 k2 k3 k5:An Ai}{B newId sa owner:Dv}
theorem Ys{o:CW}{a b:Ai}(SF:JC B bmB sa owner)(T:DN h bmB bm)(gC:h.get? C=Aa (B6 nm q C N bs bm Ab sn sub ab col dd k0 k1 k2 k3 k5 newId))(ge:h.get? e=Aa o)(hc:o.cls=.ref C)(hq:Q () ⟨h,g,d,tk0,os⟩):Ay M A (FL sa ⟨[.ref e,a,b],[]⟩) Q E ⟨h,g,d,tk0,os⟩:=by
 have hb:(Ci C::bm).contains (.type owner)=Ab:=by rw[Gq,T.hasType SF.hasOwner,GS]
 have ha:=SF.args (.ref e) a b;simp only[FL,SF.kind,SF.split];refine Am ?_;unfold HQ
 repeat (first|(with_reducible refine BY ge ?_;rw[hc])|(with_reducible refine EK gC ?_;rw[hb])|wp_step)
 unfold argsOk at ha;split
 ·rename_i sig hs;rw[hs]at ha;refine IY ha ?_;exact hq
 ·exact AK hq
theorem bD{v:Ai}(X:K.In h)(SF:JC B bmB sa owner)(T:DN h bmB bm)(gC:h.get? C=Aa (B6 nm q C N bs bm Ab sn sub ab col dd k0 k1 k2 k3 k5 newId))(hf:Av K (.ref C) name=Aa Ae)(hs:Av K (.ref C) "__setattr__" = Aa (Aa (.builtin sa)))(ge:h.get? e=Aa (FO C Ae t))(hq:∀ h' dx tk',(∀ b o,b≠e->h.get? b=Aa o->h'.get? b=Aa o)->h'.get? e=Aa (FO C (Aa dx) t)->h.get? dx=Ae->h'.Ns1 dx (fun y=>if y=name then Aa v else Ae)->Q () ⟨h',g,d,tk',os⟩):Ay (model prog w) A (setAttr (.ref e) name v) Q E ⟨h,g,d,tk0,os⟩:=by
 have f3:=SF.slot.bind (.ref e);have L1:=Cj (M:=model prog w) X hs;obtain⟨o,ho⟩:∃ o,FO C Ae t=o:=⟨_,rfl⟩;have oc:o.cls=.ref C:=by rw[<-ho];rfl
 have ge':=ge;rw[ho]at ge';unfold setAttr Ix specialOf
 repeat (any_goals (first|assumption|(with_reducible refine BY ge' ?_;rw[oc])|(with_reducible refine Am (L1.at ?_))|(with_reducible refine L1.at ?_)|wp_step))
 refine DI SF.slot.plain SF.entry (Ys SF T gC ge' oc (Yr X SF T gC hf ge fun h' dx tk' k1 k2 k3 k4=>?_))
 repeat (any_goals (first|assumption|wp_step))
 exact hq h' dx tk' k1 k2 k3 k4
end
section
variable{X:Cx}{pI:Pn}{σ:L2.St}{H:Hp}{s:As}{e:Aj}
theorem Rm{o:HO}(I:Inv X pI σ H s)(ha:GD X pI e)(hH:H e=Ae)(ho:ObjOk X.prog X.w (upd H e o) s.heap e o):Inv X pI σ (upd H e o) s:=by
 have ne:∀ b o,H b=Aa o->b≠e:=fun b o q z=>by rw[z,hH]at q;cases q
 refine⟨I.ok,I.os,I.bare,⟨I.base.keep,I.base.slot,fun b o q n hb=>?_,I.base.there,fun b xs q=>?_,fun b o u q=>?_,fun b ps q=>?_⟩,I.loc,I.cell,?_,fun x c q=>?_,fun p hp=>?_,fun b o q=>?_,I.len⟩
 ·rw[By fun z=>by rw[z,ha.2.2.2]at q;cases q]
  exact I.base.free b o q n hb
 ·have:=I.base.tups b xs q;rw[By (ne _ _ this)];exact this
 ·have:=I.base.frzs b o u q;rw[By (ne _ _ this)];exact this
 ·obtain⟨more,this⟩:=I.base.tbls b ps q;exact⟨more,by rw[By (ne _ _ this)];exact this⟩
 ·rw[By fun z=>ha.1 z.symm];exact I.free
 ·rw[By (ha.2.1 x c q)];exact I.freeC x c q
 ·obtain⟨q,n,r⟩:=I.pin p hp;exact⟨q,by rw[By (ha.2.2.1 p hp)];exact n,r⟩
 ·by_cases hb:b=e
  ·subst hb;rw[E8]at q;cases q;exact ho
  ·rw[By hb]at q;exact(I.hok b o q).stay (fun c v hc z=>z) (fun c z=>by rw[By (ne _ _ z)];exact z) fun c zs z=>by rw[By (ne _ _ z)];exact z
theorem Xg(I:Inv X pI σ H s)(hH:H e=Aa (.ext φ))(h0:X.s₀.heap.get? e=Ae)(h1:X.ex=[]->Hu):Inv X pI σ (fun b=>if b=e then Ae else H b) s:=by
 have get:∀ b o,(if b=e then Ae else H b)=Aa o->b≠e/\H b=Aa o:=fun b o q=>by
  by_cases z:b=e
  ·rw[Aw z]at q;cases q
  ·rw[AA z]at q;exact⟨z,q⟩
 have put:∀ b o,H b=Aa o->o≠.ext φ->(if b=e then Ae else H b)=Aa o:=fun b o q n=>by
  by_cases z:b=e
  ·rw[z,hH]at q;cases q;exact absurd rfl n
  ·rw[AA z];exact q
 have non:∀ b,H b=Ae->(if b=e then Ae else H b)=Ae:=fun b q=>by
  by_cases z:b=e
  ·rw[Aw z]
  ·rw[AA z];exact q
 refine⟨I.ok,I.os,I.bare,⟨fun b o q n hb hx=>?_,I.base.slot,fun b o q n hb=>?_,I.base.there,fun b xs q=>?_,fun b o u q=>?_,fun b ps q=>?_⟩,I.loc,I.cell,non _ I.free,fun x c q=>non _ (I.freeC x c q),fun p hp=>?_,fun b o q=>?_,I.len⟩
 ·exact I.base.keep b o q n hb hx
 ·exact non b (I.base.free b o q n hb)
 ·exact put b _ (I.base.tups b xs q) (by intro z;cases z)
 ·exact put b _ (I.base.frzs b o u q) (by intro z;cases z)
 ·obtain⟨more,this⟩:=I.base.tbls b ps q;exact⟨more,put b _ this (by intro z;cases z)⟩
 ·obtain⟨q,n,r⟩:=I.pin p hp;exact⟨q,non _ n,r⟩
 ·obtain⟨nb,q⟩:=get b o q;exact(I.hok b o q).stay (fun c v hc z=>z) (fun c z=>put c _ z (by intro z;cases z)) fun c zs z=>put c _ z (by intro z;cases z)
end
section
variable{X:Cx}{C:Aj}{nm q:Ah}{N:Aj}{bs bm:Ad Ai}{sn:Ad Ah}{sub:Ad Ai}{ab:Ao}{col:An Ao}{dd:An Aj}{k0 k1 k2 k3 k5:An Ai}
theorem Zg{i j:Ag}{f:Ah}{eo ev:Ap}{p8 p10:AN}(hob:∀ h:AD,X.K.In h->h.get? C=Aa (B6 nm q C N bs bm Ab sn sub ab col dd k0 k1 k2 k3 k5 "ValueError.__new__")/\DN h veB bm)(hx:X.ex=[])(hf:Av X.K (.ref C) f=Aa Ae)(hs:Av X.K (.ref C) "__setattr__" = Aa (Aa (.builtin "object.__setattr__")))(he:PE X eo (Gm i))(hv:PE X ev (Gm j))(sw:Dh ev (Aa (.Attribute eo f p8)) p10.line X.env=pure Ac):PS X (.Assign [.Attribute eo f p8] ev p10) (fun D σ H=>∃ e t v,σ[i]?=Aa (Aa (.ref e))/\H e=Aa (.ext (XEx e C Ae t))/\σ[j]?=Aa (Aa v)/\∀ dx,H dx=Ae->dx≠e->D.nx σ (upd (upd H e (.ext (XEx e C (Aa dx) t))) dx (.xd [(f,v)]))):=by
 intro pI s σ H D I ⟨e,t,v,h1,h2,h3,hq⟩;refine plainObj_wpAny_Assign_Attribute (thn (hv pI s σ H (fun x H1=>x=v/\H1=H) I ⟨v,h3,rfl,rfl⟩) fun u s1 ⟨x,H1,I1,r1,e1,e2⟩=>?_) sw
 subst e1 e2;refine thn (he pI s1 σ H1 (fun x H2=>x=.ref e/\H2=H1) I1 ⟨_,h1,rfl,rfl⟩) fun u2 s2 ⟨x2,H2,I2,r2,e3,e4⟩=>?_
 subst e3 e4;cases r2;obtain⟨gC,T⟩:=hob _ I2.kIn;have ge:XEx e C Ae t s2.heap:=(I2.hok e _ h2).1;obtain⟨hp,g2,d2,tk2,os2⟩:=s2;refine bD I2.kIn PySem.F.store_ValueError T gC hf hs ge fun h' dx tk' kp ge' nd ns=>?_
 have nH:H2 dx=Ae:=J5 I2.hok nd;have nde:dx≠e:=fun z=>by rw[z,h2]at nH;cases nH
 have ap:GD X pI dx:=KU I2 hx nd;have I3:=I2.write (x:=e) (e:=e) (o:=.ext (XEx e C (Aa dx) t)) (t':=tk') (by rw[h2];exact trivial) (.inl rfl) kp ⟨_,ge'⟩ ⟨ge',⟨_,ge'⟩,NR⟩
 have I4:=Rm (o:=.xd [(f,x)]) I3 ap (by rw[By nde];exact nH) ⟨_,ns,fun y=>by
  by_cases z:y=f
  ·subst z;rw[Aw rfl];simp only[Fv,Hi];exact r1
  ·rw[AA z];have:(y==f)=Ac:=by simp[z]
   simp only[Fv,this]
   trivial⟩
 exact⟨σ,_,I4,hq dx nH nde⟩
end
noncomputable def Fb(K:Fg)(C:Aj):Ao:=match K.lookup C with
  |some ⟨_,_,.cls c,_⟩=>c.hasDict
  |_=>Ac
noncomputable def OF(g par f z:Ah)(k:Ag)(np apos p1 p2 p3 p4 p5 cpos p6 p7 p8 p9 p10:AN):Ad A9:=
 [.Expr (.Call (.Attribute (.Name g np) "__init__" apos) [.Name "self" p1,.JoinedStr [.FormattedValue (.Name par p2) (-1) Ae p3,.Constant (.str z) k p4] p5] [] cpos) p6,.Assign [.Attribute (.Name "self" p7) f p8] (.Name par p9) p10]
inductive XIn (K:Fg) (mg:Ah->An Ai) (C:Aj) (f:Ah):Prop
 |mk {fI OV:Aj} {x qual g par z:Ah} {st:A9} {fd:BP} {k:Ag} {np apos p1 p2 p3 p4 p5 cpos p6 p7 p8 p9 p10:AN} (xc:DK K C (Aa (.ref fI))=Ab) (dc:Fb K C=Ab) (fn:Fun K x qual st fI fd) (ty:Bw K (.ref fI)=Aa (.type "function"))
  (S:FnScope ["self", par] ["self", par] (Cp st)) (l1:(Cp st).names.lookup ("self" : Ah)=Aa .local) (l2:(Cp st).names.lookup par=Aa .local) (bd:Fq K fd ["self", par] []) (body:Fo st=OF g par f z k np apos p1 p2 p3 p4 p5 cpos p6 p7 p8 p9 p10)
  (gl:(Cp st).names.lookup g=Aa .globalImplicit) (mo:mg g=Aa (.ref OV)) (dg:(g==("__debug__" : Ah))=Ac) (dp:(par==("__debug__" : Ah))=Ac) (dq:(par==("__classdict__" : Ah))=Ac)
  (s1:Eb K (.ref OV) "__getattribute__" = Aa (Aa (.builtin "type.__getattribute__"))) (s2:EW K OV (.type "type")=Ab) (s3:EV K (.ref OV) (.type "type") "__init__" = Aa (.val (.builtin "ValueError.__init__")))
  (hl:(apos.endLine==cpos.line)=Ab) (hz:z.length<=1000) (hf:Av K (.ref C) f=Aa Ae) (hs:Av K (.ref C) "__setattr__" = Aa (Aa (.builtin "object.__setattr__"))):XIn K mg C f
section
variable{P:AS}{w:AC}{K:Fg}{mg:Ah->An Ai}{base:AD}{CL:ClA}{C fI OV:Aj}{x qual g par z f:Ah}{st:A9}{fd:BP}{k:Ag}{np apos p1 p2 p3 p4 p5 cpos p6 p7 p8 p9 p10:AN}
variable{nm q:Ah}{N:Aj}{bs bm:Ad Ai}{sn:Ad Ah}{sub:Ad Ai}{ab:Ao}{col:An Ao}{dd:An Aj}{k0 k1 k2 k3 k5:An Ai}
theorem Y3(hob:∀ h:AD,K.In h->h.get? C=Aa (B6 nm q C N bs bm Ab sn sub ab col dd k0 k1 k2 k3 k5 "ValueError.__new__")/\DN h veB bm)(fn:Fun K x qual st fI fd)(S:FnScope ["self", par] ["self", par] (Cp st))(l1:(Cp st).names.lookup ("self" : Ah)=Aa .local)(l2:(Cp st).names.lookup par=Aa .local)(bd:Fq K fd ["self", par] [])(body:Fo st=OF g par f z k np apos p1 p2 p3 p4 p5 cpos p6 p7 p8 p9 p10)(gl:(Cp st).names.lookup g=Aa .globalImplicit)(mo:mg g=Aa (.ref OV))(dg:(g==("__debug__" : Ah))=Ac)(dp:(par==("__debug__" : Ah))=Ac)(dq:(par==("__classdict__" : Ah))=Ac)(s1:Eb K (.ref OV) "__getattribute__" = Aa (Aa (.builtin "type.__getattribute__")))(s2:EW K OV (.type "type")=Ab)(s3:EV K (.ref OV) (.type "type") "__init__" = Aa (.val (.builtin "ValueError.__init__")))(hl:(apos.endLine==cpos.line)=Ab)(hz:z.length<=1000)(hf:Av K (.ref C) f=Aa Ae)(hs:Av K (.ref C) "__setattr__" = Aa (Aa (.builtin "object.__setattr__"))){A:AZ}{outer:Ad B5}{s:As}{E:XK}{e t:Aj}{v:V}{u:Ai}{n:Ag}(hh:A.handled=Ae)(hdp:A.depth<Gg)(hun:A.units+70<BZ)(hgd:A.guards=Aa [])(e0:Env0 P w K mg base A outer s H)(he:H e=Aa (.ext (XEx e C Ae t)))(rp:Rep K CL H B v d)(hx:xfD (n+1) d=Ab)(hn:n<=1)(r:BD v u):Fi (model P w) A (.call (.ref fI) ⟨[.ref e,u],[]⟩) (CR Ih outer P w H s (fun y H'=>y=.non/\∃ t' dx,H dx=Ae/\dx≠e/\H'=upd (upd H e (.ext (XEx e C (Aa dx) t'))) dx (.xd [(f,v)])) E) s:=by
 obtain⟨oc,od,kV,doc,pm,an,cdv,ct,osl,rfl,lk,hcd⟩:=fn.ex;have KX:K.In s.heap:=e0.mod.kin.keeps fun b o e=>(e0.bs b o e).1
 have lim:s.heap.NoLimit:=e0.mod.nolimit.keeps fun b o e=>(e0.bs b o e).1
 have hkind:∀ y∈(["self", par]:Ad Ah).zip [Ci e,u],(Cp st).names.lookup y.1=Aa .local\/((Cp st).names.lookup y.1=Aa .cell/\((CF (s.heap.objs.size+1) (Cp st).names []).lookup y.1).isSome=Ab):=fun y hy=>by
  refine .inl ?_;rcases AB.mp hy with rfl|hy
  ·exact l1
  ·rw[BF.mp hy];exact l2
 have rv:Bf [.ref e,v] [.ref e,u]:=.cons rfl (.cons r .nil);refine FU hdp (KX _ _ lk) rfl S.co S.gen rfl (Gu KX hcd) (bd s [.ref e,u] KX rfl _ _ _ _ ?_);refine EG S.kind hkind fun env hen s1' x=>?_
 subst hen;refine⟨lim.keeps x.toInCall.keep,Iy ?_⟩;have I:Inv (Eo Ih P w K mg base ["self", par] qual (Cp st) fI cdv A outer s H E) [] (start ["self", par] [.ref e,v]) H s1':=Nb S hh e0 rfl rv x;generalize hX:Eo Ih P w K mg base ["self", par] qual (Cp st) fI cdv A outer s H E=X at I;have pself:∀ p,PE X (.Name "self" p) (Gm 0):=fun p=>by rw[<-hX];exact Mi rfl (.inl l1)
 have ppar:∀ p,PE X (.Name par p) (Gm 1):=fun p=>by rw[<-hX];exact Mi rfl (.inl l2) dp dq
 have st1:=W8 (X:=X) (CL:=CL) (C:=C) (g:=g) (np:=np) (apos:=apos) (cpos:=cpos) (i:=0) (j:=1) (OV:=OV) (by rw[<-hX];exact hob) (by rw[<-hX];exact gl) (by rw[<-hX];exact mo) dg (by rw[<-hX];exact s1) (by rw[<-hX];exact s2) (by rw[<-hX];exact s3) hl (pself p1)
  (Zl (k:=k) (p1:=p3) (p2:=p4) (p3:=p5) (by rw[<-hX];show A.units+3+64<BZ;omega) (by rw[<-hX];exact hgd) hz (ppar p2)) rfl rfl
 have st2:=Zg (X:=X) (p8:=p8) (p10:=p10) (by rw[<-hX];exact hob) (by rw[<-hX];rfl) (by rw[<-hX];exact hf) (by rw[<-hX];exact hs) (pself p7) (ppar p9) rfl
 have all:=Qq (LS (pos:=p6) st1 rfl) (K6 st2);have hk:=all [] s1' _ H {nx:=fun _ H'=>∃ t' dx,H dx=Ae/\dx≠e/\H'=upd (upd H e (.ext (XEx e C (Aa dx) t'))) dx (.xd [(f,v)]),rt:=fun _ _=>AU} I ⟨e,Ae,t,v,d,B,n,rfl,he,rfl,by rw[<-hX];exact rp,hx,hn,fun t'=>⟨e,t',v,rfl,E8,rfl,fun dx h1 h2=>⟨t',dx,by rw[By h2]at h1;exact h1,h2,by rw[QW]⟩⟩⟩
 rw[body];refine Be (by rw[<-hX]at hk;exact hk) (fun fl s' hfl=>?_) fun ev s' hev=>hev
 cases fl with
 |next=>
  obtain⟨σ',H',J,w'⟩:=hfl;exact⟨.non,H',J.os,J.bare,J.base,J.hok,rfl,rfl,w'⟩
 |ret y=>obtain⟨_,_,_,_,_,w'⟩:=hfl;exact w'.elim
 |brk=>obtain⟨_,_,_,w'⟩:=hfl;exact w'.elim
 |cont=>obtain⟨_,_,_,w'⟩:=hfl;exact w'.elim
end
theorem Sq:∀(n m:Ag)(d:D),xfD n d=Ab->n+1<=m->nlD m d=Ab
 |0,m+1,.int i,_,_=>rfl
 |n+1,m+1,.tup ds,h,hm=>by
  have h':(C5 ds.length 8&&ds.all (xfD n))=Ab:=h;rw[Ak]at h';show ds.all (nlD m)=Ab;rw[Do]at h' ⊢;exact fun x hx=>Sq n m x (h'.2 x hx) (by omega)
 |0,_,.tup _,h,_=>nomatch h
 |n+1,_,.int _,h,_=>nomatch h
section
variable{X:Cx}{CL:ClA}{W:XW}
def Mo(xn:Ag->Ad D->R Ex)(c:Ag)(f:Ah)(ds:Ad D):Prop:=∃ d n,ds=[d]/\xfD (n+1) d=Ab/\n<=1/\xn c ds=.ok ⟨c,[(f,d)]⟩
theorem Wa{e:Ap}{es:Ad Ap}(hcalm:X.calm=Ab)(hx:X.ex=[])(hr:Room k X.A)(rz:Lq X CL W)(hg:Gl X g)(hm:X.mg g=Aa (.ref C))(hdb:(g==("__debug__" : Ah))=Ac)(hcl:CL c=Aa C)(ha:SA X CL W (e::es) fs)(hxn:∀ ds,xn c ds=.bad\/(xn c ds=.ok ⟨c,[]⟩/\DK X.K C Ae=Ab)\/∃ f,XIn X.K X.mg C f/\Mo xn c f ds)(he:Az (e::es) X.env=(Ac,eval e X.env)::Az es X.env)(hpl:∀ pos,(B8 pos (Az es X.env)).any (·.1)=Ac)(hz:∀ ρ ds,fs ρ=.ok ds->ds.length<=100000):SS X CL W (.Raise (Aa (.Call (.Name g np) (e::es) [] cpos)) Ae pos) (fun ρ=>O.of ρ (noX (fs ρ)) fun xs=>O.of ρ (xn c xs) fun x=>.exn x ρ):=fun Fz B pI s σ H D I ⟨ρ,x,p⟩=>by
 have hpl':(B8 cpos (Az (e::es) X.env)).any (·.1)=Ac:=by rw[he];show (Ac||(B8 cpos (Az es X.env)).any (·.1))=Ac;rw[hpl];rfl
 cases e1:fs ρ with
 |bad=>dsimp only at p;rw[e1]at p;exact p.elim
 |exn y=>dsimp only at p;rw[e1]at p;exact p.elim
 |ok ds=>
  rcases hxn ds with e2|⟨e2,xc⟩|⟨f,xi,d,n,rfl,xf,hn,e2⟩
  ·dsimp only at p;rw[e1]at p;have p2:BS X.K CL Fz B W (O.of ρ (xn c ds) fun x=>.exn x ρ) D:=p
   rw[e2]at p2;exact p2.elim
  ·refine XB (fs:=fs) (xn:=fun _ ds'=>match xn c ds' with | .ok ⟨_,[]⟩=>.ok ⟨c,[]⟩|_=>.bad) hcalm rz hg hm hdb xc hcl ha (fun ds'=>by
    split
    ·exact .inr rfl
    ·exact .inl rfl) he hpl hz Fz B pI s σ H D I ⟨ρ,x,?_⟩
   dsimp only at p ⊢;rw[e1]at p ⊢;have p2:BS X.K CL Fz B W (O.of ρ (xn c ds) fun x=>.exn x ρ) D:=p
   rw[e2]at p2;show BS X.K CL Fz B W (O.of ρ (match xn c ds with | .ok ⟨_,[]⟩=>(.ok ⟨c,[]⟩:R Ex)|_=>.bad) fun x=>.exn x ρ) D
   rw[e2];exact p2
  ·dsimp only at p;rw[e1]at p;have p2:BS X.K CL Fz B W (O.of ρ (xn c [d]) fun x=>.exn x ρ) D:=p
   rw[e2]at p2;have p3:∀ H,(∀ b o,Fz b o->H b=Aa o)->W ⟨c,[(f,d)]⟩ H:=p2;cases xi with
   |mk xc dc fn ty S l1 l2 bd body gl mo dg dp dq w1 w2 w3 hl hz0 hf hs=>
    rename_i fI OV x0 qual g0 par z st fd k0' np0 apos q1 q2 q3 q4 q5 cpos0 q6 q7 q8 q9 q10;obtain⟨bm,N,nm,qn,bs,hd,sn,sub,ab,col,dd,k0,k1,k2,k3,k5,mN,hob,hni,hbase⟩:=Ni I.kIn xc;have hdt:hd=Ab:=by
     unfold Fb at dc;split at dc
     ·rename_i c0 d0 cd sl lk;have g1:=I.kIn _ _ lk;rw[(hob _ I.kIn).1]at g1;unfold B6 at g1;cases g1;exact dc
     ·cases dc
    subst hdt;have hob2:∀ h:AD,X.K.In h->h.get? C=Aa (B6 nm qn C N bs bm Ab sn sub ab col dd k0 k1 k2 k3 k5 "ValueError.__new__")/\DN h veB bm:=fun h z=>⟨(hob h z).1,(hob h z).2.2⟩
    refine Xo (bmB:=veB) (nm:=nm) (q:=qn) (C:=C) (N:=N) (fI:=fI) (bs:=bs) (bm:=bm) (hdct:=Ab) (sn:=sn) (sub:=sub) (ab:=ab) (col:=col) (dd:=dd) (k0:=k0) (k1:=k1) (k2:=k2) (k3:=k3) (k5:=k5) (mN:=mN) EE hbase (I.ok.hd hcalm) hpl' hni ?_;refine IG I hg hm ⟨rfl,?_⟩ hdb;have q1:=ha (BN B ρ σ) cpos pI s σ H (fun vs H1=>AE H H1/\Reps X.K CL H1 (BN B ρ σ) vs [d]) I ⟨x.aok,ρ,x.good,by rw[e1];exact fun vs H1 s1 r1=>⟨s1,r1⟩⟩
    rw[he]at q1 ⊢;refine F1 (Be q1 (fun us s2 ⟨vs,H2,I2,r2,sm2,rps⟩=>⟨rfl,?_⟩) fun _ _ z=>z)
    cases vs with
    |nil=>exact rps.elim
    |cons v vs=>
     cases vs with
     |cons=>exact rps.2.elim
     |nil=>
      obtain⟨u,rfl,ru⟩:=Hb r2;obtain⟨o1,o2,o3⟩:=hob _ I2.kIn;obtain⟨oc,od,kV,doc,pm,an,cdv,ct,osl,efd,lk,hcd⟩:=fn.ex;have coc:oc=.type "function" := by
       have ty':(X.K.lookup fI).map _=_:=ty;rw[lk]at ty';exact Bs ty'
      refine⟨by rw[Ds];show 1<=_;omega,o1,o2,o3,⟨_,I2.kIn _ _ lk,coc⟩,fun h' e0 made=>?_⟩
      obtain⟨t,ge,_⟩:=made.there;have I3:Inv X pI σ H2 {s2 with heap:=h'}:=I2.kept (t':=s2.toks) made.keeps
      have ap:GD X pI e0:=KU I2 hx made.new;have n0:H2 e0=Ae:=J5 I2.hok made.new;have I4:=Rm (o:=.ext (XEx e0 C Ae t)) I3 ap n0 ⟨ge,⟨_,ge⟩,NR⟩;have sm4:AE H2 (upd H2 e0 (.ext (XEx e0 C Ae t))):=fun b o z=>by rw[By fun y=>by rw[y,n0]at z;cases z];exact z
      have ru0:=hr.mono (Fw k);have run:=Y3 (P:=X.prog) (w:=X.w) (mg:=X.mg) (base:=X.base) (CL:=CL) (E:=fun _ _ _=>AU) (B:=BN B ρ σ) (H:=upd H2 e0 (.ext (XEx e0 C Ae t))) (t:=t) hob2 fn S l1 l2 bd body gl mo dg dp dq w1 w2 w3 hl hz0 hf hs (A:=X.A.under (.builtin "type.__call__" ⟨.ref C::[u],[]⟩)) (outer:=X.stack) hr.hd (by rw[VY];have:=ru0.dp;omega) (by rw[VW];have:=ru0.un;omega) hr.gd (I4.env0.make C [u] []) E8 (Rep.same sm4 rps.1) xf hn ru
      refine F6 (E5 run fun r s' hq=>?_)
      cases r with
      |error _=>exact Bc hq
      |ok fl=>
       cases fl with
       |next=>exact Bc hq
       |brk=>exact Bc hq
       |cont=>exact Bc hq
       |ret u'=>
        obtain⟨v',H5,I5,rr,ev,t',dx,ndx,dne,eH⟩:=I4.after hq;subst ev;cases rr;have nd2:H2 dx=Ae:=by rw[By dne]at ndx;exact ndx
        rw[QW]at eH;have H5e:H5 e0=Aa (.ext (XEx e0 C (Aa dx) t')):=by rw[eH,By (CK dne),E8]
        have ge5:XEx e0 C (Aa dx) t' s'.heap:=(I5.hok e0 _ H5e).1;have I6:=Xg I5 H5e ap.2.2.2 fun _=>trivial
        have H6d:(if dx=e0 then Ae else H5 dx)=Aa (.xd [(f,v)]):=by rw[AA dne,eH,E8]
        have sm6:AE H2 (fun b=>if b=e0 then Ae else H5 b):=fun b o z=>by
         have nb:b≠e0:=fun y=>by rw[y,n0]at z;cases z
         have nb2:b≠dx:=fun y=>by rw[y,nd2]at z;cases z
         show (if b=e0 then Ae else H5 b)=Aa o
         rw[AA nb,eH,By nb2,By nb];exact z
        refine⟨rfl,t',Aa dx,(hob2 _ I6.kIn).1,ge5,rz pI σ _ s' e0 C (Aa dx) t' ⟨c,[(f,d)]⟩ I6 (fun hx=>Je I2 hx made.new) (Aw rfl) ge5 (fun A hA=>⟨C,hcl,rfl,.inr ⟨dx,[(f,v)],rfl,fun z=>?_,H6d,⟨rfl,?_⟩,trivial⟩⟩) (p3 _ fun b o z=>sm6 _ _ (sm2 _ _ (x.same b o z)))⟩
        ·obtain⟨ys,q⟩:=hA dx z;have q':(if dx=e0 then Ae else H5 dx)=Aa (.lst ys):=q
         rw[H6d]at q';cases q'
        ·exact Oj hA 5 d (Sq (n+1) 5 d xf (by omega)) (Rep.sub (fun _ z=>z.elim) _ (Rep.same sm6 rps.1))
end
section
variable{prog:AS}{w:AC}{A:AZ}{E:Vq}{h:AD}{g:Bk E3}{d:Hn}{t:Ag}{os:GO}{K:Fg}{e C dx:Aj}{f:Ah}{mA:Ah->An Ai}{v:Ai}
theorem NS(p:Ig e C (Aa dx) h):XAt e C h:=let ⟨o,a,b,_⟩:=p;⟨o,a,b⟩
theorem Wm{Q:Fin->As->Prop}(X:K.In h)(hf:Av K (.ref C) f=Aa Ae)(hd:Fb K C=Ab)(p:Ig e C (Aa dx) h)(hn:h.Ns1 dx mA)(hv:mA f=Aa v)(hq:Q (.done (.ret v)) ⟨h,g,d,t,os⟩):Ay (model prog w) A (Builtin.«object.__getattribute__» ⟨[.ref e,.str f tk],[]⟩) Q E ⟨h,g,d,t,os⟩:=by
 have L0:=IJ (M:=model prog w) (NS p);have L1:=Cj (M:=model prog w) X hf;obtain⟨o,ge,oc,od,us,dt⟩:=p;unfold Fb at hd;split at hd
 ·rename_i c' d' cd' sl' lk;have gC:=X _ _ lk;unfold Builtin.«object.__getattribute__»
  repeat (any_goals (first|assumption|with_reducible refine L0.at ?_|with_reducible refine L1.at ?_|wp_step))
  rw[dt];unfold instanceDict
  repeat (first|(with_reducible refine BY ge ?_;rw[oc])|with_reducible refine BY gC ?_|wp_step)
  rw[od]
  repeat (first|(with_reducible refine wpAny_nsGet hn.ns ?_;rw[hv])|wp_step)
  exact hq
 ·cases hd
theorem bB{Q:Vq}(X:K.In h)(x:XcOk K C)(hf:Av K (.ref C) f=Aa Ae)(hd:Fb K C=Ab)(p:Ig e C (Aa dx) h)(hn:h.Ns1 dx mA)(hv:mA f=Aa v)(hh:handedOut v=pure v)(hq:Q v ⟨h,g,d,t,os⟩):Ay (model prog w) A (getAttrBy (.ref e) (.str f tk) fill expr) Q E ⟨h,g,d,t,os⟩:=by
 have L0:=IJ (M:=model prog w) (NS p);have L1:=Cj (M:=model prog w) X x.ga;have L2:=Cj (M:=model prog w) X x.gt;have f3:=Fn.ga.bind (.ref e);have hx0:(expr&&IB (C3 "BaseException.__getattribute__"))=Ac:=by cases expr<;>rfl
 have hx2:(C3 "BaseException.__getattribute__" == C3 "object.__getattribute__")=Ac:=by decide +kernel
 have hx1:(IB (Ci C)&&C3 "BaseException.__getattribute__" == C3 "object.__getattribute__")=Ac:=by rw[hx2];rfl
 repeat (any_goals (first|assumption|with_reducible refine L0.at ?_|with_reducible refine L1.at ?_|with_reducible refine L2.at ?_|wp_step))
 refine DI Fn.ga.plain U0 (OZ X x (NS p) (Wm X hf hd p hn hv ?_))
 repeat (any_goals (first|assumption|wp_step))
 all_goals trace_state
theorem Xp{b:Ao}{Q:Vq}(X:K.In h)(x:XcOk K C)(hf:Av K (.ref C) f=Aa Ae)(hd:Fb K C=Ab)(p:Ig e C (Aa dx) h)(hn:h.Ns1 dx mA)(hv:mA f=Aa v)(hh:handedOut v=pure v)(hq:Q v ⟨h,g,d,t+1,os⟩):Ay (model prog w) A (getAttr (.ref e) f b) Q E ⟨h,g,d,t,os⟩:=by
 unfold getAttr
 repeat (any_goals (first|assumption|with_reducible apply bB X x hf hd p hn hv hh|wp_step))
end
section
variable{X:Cx}{CL:ClA}{W:XW}{K:Fg}{H:Hp}{A:Aj->Prop}
theorem Qo{f:Ah}{d:D}:∀{vs:Ad (Ah×V)}{fs:Ad (Ah×D)},Repf K CL H A vs fs->fs.lookup f=Aa d->∃ v,vs.lookup f=Aa v/\Rep K CL H A v d
 |[],[],_,q=>nomatch q
 |(n,v)::vs,(m,d')::fs,⟨⟨e,r⟩,rs⟩,q=>by
  have e':n=m:=e;subst e';by_cases z:(f==n)=Ab
  ·simp only[Fv,z]at q ⊢;cases q;exact⟨v,rfl,r⟩
  ·simp only[Fv,z]at q ⊢;exact Qo rs q
theorem Yh{a:Ap}{fa:Rho->R D}{f:Ah}(hxc:∀ c C,CL c=Aa C->XcOk X.K C)(hnf:∀ c C,CL c=Aa C->Fb X.K C=Ab/\Av X.K (.ref C) f=Aa Ae)(ha:ST X CL W a fa)(hb:attributeBase a f X.env (eval a X.env)=eval a X.env):SE X CL W (.Attribute a f pos) (fun ρ=>(fa ρ).bind fun x=>Km x f):=fun A=>by
 intro pI s σ H Q I ⟨hA,ρ,gd,q⟩;refine ZF hb (thn (ha A pI s σ H _ I ⟨hA,ρ,gd,Bg.bind q (Q':=fun v H1=>∃ d,CH X.K CL H1 A v d/\Bg (fun H2=>Rep X.K CL H2 A) W H1 (Km d f) Q) fun d v H1 _ s1 r1 p1=>⟨d,r1,p1⟩⟩) fun u s1 ⟨v,H1,I1,rv,d,rp,p1⟩=>?_)
 cases d with
 |exc c fs=>
  have p2:Bg (fun H2=>Rep X.K CL H2 A) W H1 (match fs.lookup f with|some d=>.ok d|none=>.bad) Q:=p1
  cases el:fs.lookup f with
  |none=>rw[el]at p2;exact p2.elim
  |some d=>
   rw[el]at p2;rcases rp with ⟨e,C,φ,rfl,_,hc,hH,hφ,hfs⟩|⟨a,xs,ds,_,z,_⟩
   ·rcases hfs with z|⟨dx,vs,nd,hd,rf,hφ2⟩
    ·rw[z]at el;cases el
    ·obtain⟨y,l,ry⟩:=Qo rf el;cases rv;have ph:=(I1.hok e _ hH).1;obtain⟨o,ge,oc⟩:=hφ _ ph;obtain⟨o',ge',od,us,odt⟩:=hφ2 _ ph;rw[ge]at ge';cases ge';obtain⟨mA,hn,rel⟩:=I1.hok dx _ hd;obtain⟨u',hu,ru⟩:=Lr.some_of (v:=y) (o:=mA f) (by rw[<-l];exact rel f)
     obtain⟨k1,k2⟩:=hnf c C hc;obtain⟨hp,g2,d2,tk2,os2⟩:=s1;exact Xp I1.kIn (hxc c C hc) k2 k1 ⟨o,ge,oc,od,us,odt⟩ hn hu (PySem.W.handedOut_of (Wu ru)) ⟨y,H1,I1.tok _,ru,p2 y H1 (AE.refl H1) ry⟩
   ·cases z
 |_=>exact p1.elim
end
structure Tc where
 sc:B9
 N:Ad Ah
 /-- a def's name,its number,how many parameters it has -/
 fns:Ad (Ah×Ag×Ag)
 /-- built-in names that the text does not hide -/
 bl:Ad Ah
 /-- exceptions' classes by their names: those that are raised,all that are asked for -/
 rzs:Ad (Ah×Ag)
 exs:Ad (Ah×Ag)
 /-- the text's constants -/
 gls:Ad (Ah×Ag)
noncomputable def OC(T:Tc)(x:Ah):Ao:=match T.sc.names.lookup x with
  |some .local=>Ab
  |some .cell=>Ab
  |some .free=>Ab
  |_=>Ac
noncomputable def IQ(T:Tc)(x:Ah):Ao:=match T.sc.names.lookup x with
  |some .local=>Ab
  |some .cell=>Ab
  |_=>Ac
noncomputable def glB(T:Tc)(x:Ah):Ao:=T.sc.names.lookup x==Aa .globalImplicit
noncomputable def Hh(x:Ah):Ao:=!(x==("__debug__" : Ah)) && !(x==("__classdict__" : Ah)) && !(x==("__name__" : Ah))
noncomputable def isV(T:Tc)(x:Ah)(i:Ag):Ao:=T.N[i]? == Aa x&&OC T x&&Hh x
noncomputable def isB(T:Tc)(x:Ah):Ao:=T.bl.contains x&&glB T x&&Hh x
noncomputable def EL:Ap->Ao
 |.Starred _ _=>Ac
 |_=>Ab
noncomputable def Nz:Ap->Ao
 |.Slice _ _ _ _=>Ac
 |_=>Ab
noncomputable def Lh:Ap->Ao
 |.Set _ _ _=>Ac
 |_=>Ab
noncomputable def Jp:Ap->Ao
 |.ListComp _ _ _ _=>Ac
 |.SetComp _ _ _ _=>Ac
 |.DictComp _ _ _ _ _=>Ac
 |_=>Ab
noncomputable def TB(tu:Ao):Ap->Ao
 |.Tuple ..=>tu
 |.Name ..=>!tu
 |_=>Ac
noncomputable def jN:Ap->Ao
 |.Tuple _ _ _=>Ab
 |_=>Ac
noncomputable def Sz:Ap->Ao
 |.Tuple _ _ _=>Ac
 |_=>Ab
noncomputable def JT:Ap->Ao
 |.UnaryOp _ _ _=>Ac
 |.BoolOp _ _ _=>Ac
 |.IfExp _ _ _ _=>Ac
 |.Compare _ _ _ _=>Ac
 |_=>Ab
noncomputable def Ol:Ki->An Ah
 |.int=>Aa "int"
 |.bool=>Aa "bool"
 |.str=>Aa "str"
 |.list=>Aa "list"
 |.tuple=>Aa "tuple"
 |_=>Ae
noncomputable def Om:BI->An Ah
 |.len=>Aa "len"
 |.abs=>Ae
 |.max=>Aa "max"
 |.min=>Aa "min"
 |.int=>Ae
 |.list=>Aa "list"
 |.tuple=>Aa "tuple"
 |.all=>Aa "all"
 |.any=>Aa "any"
 |.sum=>Aa "sum"
 |.sorted=>Ae
 |.tmin=>Ae
 |.tmax=>Ae
 |_=>Ae
noncomputable def Ob(o scope:B9):B9:={scope with names:=scope.names.map fun (n,k)=>if (k==.free&&o.kind==.function&&o.names.lookup n==Aa .cell) then (n,.cell) else (n,k)}
noncomputable def Kq:Ad Ag->Ad Ah->Ad Ah->Ad Ah
 |t::ts,x::xs,N=>Kq ts xs ((N.map fun y=>if y==x then N.getD t x else y).set t x)
 |_,_,N=>N
noncomputable def Ka:Ad Ah->Ao
 |[]=>Ab
 |x::xs=>!xs.contains x&&Ka xs
noncomputable def Lp(T:Tc)(scope:B9)(ts:Ad Ag)(N':Ad Ah):Ao:=
  scope.kind==.function&&scope.names.all (fun y=>scope.names.lookup y.1==Aa y.2) &&
  scope.names.all (fun y=>y.2 != .free||T.sc.names.lookup y.1==Aa .cell||T.sc.names.lookup y.1==Aa .free) &&
  N'.length==T.N.length&&Ka N' &&
  (Bz N'.length).all fun i=>ts.contains i||(match N'[i]? with
    |some x=>(scope.names.lookup x != Aa .local&&scope.names.lookup x != Aa .cell)&&(scope.names.lookup x != Aa .free||T.N[i]? == Aa x)
    | none=>Ab)
noncomputable def EM:Ad Ap->An (Ad Ah)
 |[]=>Aa []
 |.Name x _::r=>(EM r).map (x :: ·)
 |_=>Ae
noncomputable def tgN(ys:Ad Ap):Ad Ah:=(EM ys).getD []
noncomputable def tgB(T:Tc):Ad Ag->Ad Ah->Ao
 |[],[]=>Ab
 |t::ts,x::xs=>T.N[t]? == Aa x&&T.sc.names.lookup x==Aa .local&&tgB T ts xs
 |_,_=>Ac
noncomputable def tgO(T:Tc)(scope:B9)(t:Ag)(x:Ah):Ao:=T.N[t]? == Aa x&&(T.sc.names.lookup x==Aa .local||(T.sc.names.lookup x==Aa .cell&&scope.names.lookup x==Aa .cell))
noncomputable def tgC(T:Tc):Ad Ag->Ad Ah->Ao
 |[],[]=>Ab
 |t::ts,x::xs=>T.N[t]? == Aa x&&IQ T x&&tgC T ts xs
 |_,_=>Ac
noncomputable def Tc.blk(T:Tc)(scope:B9)(ts:Ad Ag)(xs:Ad Ah):Tc:={T with sc:=Ob T.sc scope,N:=Kq ts xs T.N}
noncomputable def inX(l:Ad (Ah×Ag))(g:Ah)(c:Ag):Ao:=l.any fun p=>p.1==g&&p.2==c
noncomputable def TZ:Ap->An (Ap×Ap×AN)
  | .Compare x ops ys p=>(match ops with
    | [.Lt]=>(match ys with
      |[y]=>Aa (x,y,p)
      | _=>Ae)
    | _=>Ae)
  |_=>Ae
noncomputable def Oq(_:Es):An (E×E):=Ae
noncomputable def Tz(_:Tc)(_:Tc->Ap->E->Ao)(_:Ap)(_:Ad D4)(_:Ad Ap)(_:BI)(_:Es):Ao:=Ac
noncomputable def TU(T:Tc)(e:Ap)(b:BI)(as:Es):Ao:=Ac
noncomputable def Ru:Ap->An (Ah×AN)
 |.Name x p=>Aa (x,p)
 |_=>Ae
noncomputable def Rv:Ap->An (Ap×Ad Ap×Ad Keyword×AN)
 |.Call f as ks p=>Aa (f,as,ks,p)
 |_=>Ae
noncomputable def kO:Ap->An (Ad Ap×Ag×AN)
 |.Tuple es k p=>Aa (es,k,p)
 |_=>Ae
noncomputable def one{α:Type}:Ad α->An α
 |[a]=>Aa a
 |_=>Ae
noncomputable def TV(e:Ap):An (Ah×Ah×Ad Ap):=(Rv e).bind fun c=>(Ru c.1).bind fun g=>(one c.2.1).bind fun a=>(Rv a).bind fun d=>(Ru d.1).bind fun h=>if (c.2.2.1.isEmpty&&d.2.2.1.isEmpty)=Ab then Aa (g.1,h.1,d.2.1) else Ae
noncomputable def Td(e:Ap):An (Ah×Ah×Ap×Ap):=match TV e with
  | some (g,h,bs)=>(match bs with
    |[x,y]=>Aa (g,h,x,y)
    | _=>Ae)
  |none=>Ae
noncomputable def Ow(_:Es):An (E×E):=Ae
noncomputable def Tb(e:Ap):An (Ah×Ah×Ap):=match TV e with
  | some (g,h,bs)=>(match bs with
    |[x]=>Aa (g,h,x)
    | _=>Ae)
  |none=>Ae
noncomputable def Ot(_:Es):An E:=Ae
noncomputable def two(e:Ap):An (Ap×Ap):=(kO e).bind fun t=>match t.1 with
  |[a,b]=>Aa (a,b)
  |_=>Ae
noncomputable def OK(_:Es):An E:=Ae
noncomputable def Tg(_:Ap):An Ap:=Ae
noncomputable def Te:Ap->An (Ap×Af)
  | .Subscript v s _=>(match s with
    | .Slice lo hi st _=>(match lo with
      | some (.Constant (.int k) _ _)=>(match hi with
        | none=>(match st with
          |some (.Constant (.int j) _ _)=>if j=2 then Aa (v,k) else Ae
          | _=>Ae)
        | some _=>Ae)
      | _=>Ae)
    | _=>Ae)
  |_=>Ae
noncomputable def Os(_:Es):An (E×Af):=Ae
mutual
noncomputable def Bj:Ag->Tc->Ap->E->Ao
  |0,_,_,_=>Ac
  |n+1,T,e,c=>match c with
    |.non=>(match e with | .Constant .none _ _=>Ab|_=>Ac)
    |.bl b=>(match e with | .Constant (.bool b') _ _=>b' == b|_=>Ac)
    |.int i=>(match e with | .Constant (.int j) _ _=>decide (j=i)|_=>Ac)
    |.str x=>(match e with | .Constant (.str y) _ _=>decide (y=x)|_=>Ac)
    |.var i=>(match e with | .Name x _=>isV T x i|_=>Ac)
    |.glob g=>Ac
    |.bin op a b=>(match e with | .BinOp x op' y _=>decide (op'=op)&&Bj n T x a&&Bj n T y b|_=>Ac)
    |.un op a=>Ac
    |.no a=>(match e with | .UnaryOp .Not x _=>Bj n T x a|_=>Ac)
    |.and es=>(match e with | .BoolOp .And xs _=>chkEs n T xs es && !xs.isEmpty|_=>Ac)
    |.or es=>(match e with | .BoolOp .Or xs _=>chkEs n T xs es && !xs.isEmpty|_=>Ac)
    |.cmp op a b=>(match e with | .Compare x [op'] [y] _=>decide (op'=op) && !behindInMarks op y&&Bj n T x a&&Bj n T y b|_=>Ac)
    |.cmp2 op1 op2 a b c=>(match e with | .Compare x [o1,o2] [y,z] _=>decide (o1=op1)&&decide (o2=op2) && !lastMarks [op1,op2] [y,z]&&Bj n T x a&&Bj n T y b&&Bj n T z c|_=>Ac)
    |.ite c a b=>Ac
    |.call f as=>(match e with | .Call (.Name g _) (x::xs) [] _=>(T.fns.any fun p=>p.1==g&&p.2.1==f&&p.2.2==xs.length+1)&&decide (xs.length<900)&&glB T g&&Hh g&&chkEs n T (x::xs) as|_=>Ac)
    |.bi b as=>(match e with | .Call (.Name g _) (x::xs) [] _=>Om b==Aa g&&isB T g&&chkEs n T (x::xs) as|_=>Ac)||TU T e b as||(match Ow as with|some (a,c)=>(match Td e with|some (g,h,x,y)=>decide (b=.list)&&g==("list" : Ah)&&h==("range" : Ah)&&isB T g&&isB T h&&EL x&&EL y&&Bj n T x a&&Bj n T y c|none=>Ac)|none=>Ac)||(match Os as with|some (a,k)=>(match Te e with|some (x,j)=>decide (b=.stp)&&decide (j=k)&&decide (0<=k)&&Bj n T x a|none=>Ac)|none=>Ac)||(match Ot as with|some a=>(match Tb e with|some (g,h,x)=>decide (b=.lset)&&g==("len" : Ah)&&h==("set" : Ah)&&isB T g&&isB T h&&EL x&&Bj n T x a|none=>Ac)|none=>Ac)||(match Oq as with|some (a,c)=>(match TZ e with|some (x,y,_)=>decide (b=.tlt) && !behindInMarks .Lt y&&Bj n T x a&&Bj n T y c|none=>Ac)|none=>Ac)||(match OK as with|some a=>(match Tg e with|some x=>decide (b=.rvs)&&Bj n T x a|none=>Ac)|none=>Ac)
    |.isi a ks=>(match ks with | [k]=>(match e with | .Call (.Name g _) [x,.Name t _] [] _=>g==("isinstance" : Ah)&&isB T g&&Ol k==Aa t&&isB T t&&EL x&&Bj n T x a|_=>Ac)|_=>Ac)
    |.idx a i=>(match e with | .Subscript x y _=>Nz y&&Bj n T x a&&Bj n T y i|_=>Ac)
    |.sl a lo hi=>(match e with | .Subscript x (.Slice l h Ae _) _=>Bj n T x a&&chkO n T l lo&&chkO n T h hi|_=>Ac)
    |.tup es=>(match e with | .Tuple xs _ _=>chkEs n T xs es&&decide (xs.length<=1000)|_=>Ac)
    |.lst es=>(match e with | .List xs _=>chkEs n T xs es&&decide (xs.length<=1000)|_=>Ac)
    |.comp elt t it c=>(match e with | .ListComp x [⟨.Name y _,iter,ifs,0⟩] scope _=>chkI n T Ac iter it&&Lh iter&&Lp T scope [t] (Kq [t] [y] T.N)&&tgO (T.blk scope [t] [y]) scope t y&&chkT n (T.blk scope [t] [y]) ifs c&&Bj n (T.blk scope [t] [y]) x elt|_=>Ac)
    |.compT elt ts it c=>(match e with | .ListComp x [⟨.Tuple ys _ _,iter,ifs,0⟩] scope _=>(EM ys).isSome&&chkI n T Ab iter it&&Lh iter&&Lp T scope ts (Kq ts (tgN ys) T.N)&&tgB (T.blk scope ts (tgN ys)) ts (tgN ys)&&chkT n (T.blk scope ts (tgN ys)) ifs c&&Bj n (T.blk scope ts (tgN ys)) x elt|_=>Ac)
    |.tupI _=>Ac
    |.dnew=>Ac
    |.fld _ _=>Ac
noncomputable def IP:Ag->Tc->Ap->E->Ao
  |0,_,_,_=>Ac
  |n+1,T,e,c=>match e with
    |.UnaryOp .Not x _=>(match c with | .no a=>IP n T x a|_=>Ac)
    |.BoolOp .And xs _=>(match c with | .and es=>chkBs n T xs es && !xs.isEmpty|_=>Ac)
    |.BoolOp .Or xs _=>(match c with | .or es=>chkBs n T xs es && !xs.isEmpty|_=>Ac)
    | .Compare x ops ys _=>(match c with
      |.cmp op a b=>(match ops,ys with | [op'],[y]=>decide (op'=op) && !behindInMarks op y&&Bj n T x a&&Bj n T y b|_,_=>Ac)
      |.cmp2 op1 op2 a b c=>(match ops,ys with | [o1,o2],[y,z]=>decide (o1=op1)&&decide (o2=op2) && !lastMarks [op1,op2] [y,z]&&Bj n T x a&&Bj n T y b&&Bj n T z c|_,_=>Ac)
      |.bi b as=>Tz T (Bj n) x ops ys b as
      | _=>Ac)
    |e=>JT e&&Bj n T e c
noncomputable def chkBs:Ag->Tc->Ad Ap->Es->Ao
  |0,_,_,_=>Ac
  |n+1,T,xs,es=>match xs,es with
    |[],.nil=>Ab
    |x::xs,.cons e es=>IP n T x e&&chkBs n T xs es
    |_,_=>Ac
noncomputable def chkEs:Ag->Tc->Ad Ap->Es->Ao
  |0,_,_,_=>Ac
  |n+1,T,xs,es=>match xs,es with
    |[],.nil=>Ab
    |x::xs,.cons e es=>EL x&&Bj n T x e&&chkEs n T xs es
    |_,_=>Ac
noncomputable def chkO:Ag->Tc->An Ap->E->Ao
  |0,_,_,_=>Ac
  |n+1,T,x,e=>match x with
    |none=>(match e with | .non=>Ab|_=>Ac)
    |some x=>(match e with | .non=>Ac|e=>Bj n T x e)
noncomputable def chkT:Ag->Tc->Ad Ap->E->Ao
  |0,_,_,_=>Ac
  |n+1,T,xs,e=>match xs with
    |[]=>(match e with | .bl Ab=>Ab|_=>Ac)
    |[x]=>IP n T x e
    |_=>Ac
noncomputable def chkI:Ag->Tc->Ao->Ap->I->Ao
  |0,_,_,_,_=>Ac
  |n+1,T,tu,e,i=>match i with
    |.e a=>Bj n T e a
    |.rng a=>(match e with | .Call (.Name g _) [x] [] _=>g==("range" : Ah)&&isB T g&&EL x&&Bj n T x a|_=>Ac)
    |.enm a=>(match e with | .Call (.Name g _) [x] [] _=>tu&&g==("enumerate" : Ah)&&isB T g&&EL x&&Bj n T x a|_=>Ac)
    |.zip a b=>(match e with | .Call (.Name g _) [x,y] [] _=>tu&&g==("zip" : Ah)&&isB T g&&EL x&&EL y&&Bj n T x a&&Bj n T y b|_=>Ac)
    |.rng2 a b=>(match e with | .Call (.Name g _) [x,y] [] _=>g==("range" : Ah)&&isB T g&&EL x&&EL y&&Bj n T x a&&Bj n T y b|_=>Ac)
    |.zip3 a b c=>Ac
end
noncomputable def Mq:E->Ao
 |.var _=>Ab
 |.int _=>Ab
 |.bl _=>Ab
 |.str _=>Ab
 |.non=>Ab
 |_=>Ac
noncomputable def Kj:Es->Ao
 |.nil=>Ab
 |.cons e es=>Mq e&&Kj es
noncomputable def Fd:Ap->An (Ah×AN)
 |.Name x p=>Aa (x,p)
 |_=>Ae
theorem GB{e:Ap}{t:Ah×AN}(h:Fd e=Aa t):e=.Name t.1 t.2:=by
 cases e with
 |Name x p=>cases h;rfl
 |_=>exact nomatch (show Ae=Aa t from h)
noncomputable def Mu:Ap->An (Ap×Ad Ap×AN)
  | .Call f as ks p=>(match ks with
    |[]=>Aa (f,as,p)
    | _=>Ae)
  |_=>Ae
theorem Nv{e:Ap}{t:Ap×Ad Ap×AN}(h:Mu e=Aa t):e=.Call t.1 t.2.1 [] t.2.2:=by
 cases e with
 |Call f as ks p=>
  cases ks with
  |nil=>cases h;rfl
  |cons=>exact nomatch (show Ae=Aa t from h)
 |_=>exact nomatch (show Ae=Aa t from h)
noncomputable def Jy{α:Type}:Ad α->An (α×α)
 |[a,b]=>Aa (a,b)
 |_=>Ae
theorem K5{l:Ad α}{t:α×α}(h:Jy l=Aa t):l=[t.1,t.2]:=by
 cases l with
 |nil=>exact nomatch (show Ae=Aa t from h)
 |cons a l=>
  cases l with
  |nil=>exact nomatch (show Ae=Aa t from h)
  |cons b l=>
   cases l with
   |nil=>cases h;rfl
   |cons=>exact nomatch (show Ae=Aa t from h)
noncomputable def xC2(e:Ap):An (Ah×Ah×Ap):=(Mu e).bind fun c=>(Fd c.1).bind fun g=>(Jy c.2.1).bind fun ab=>(Fd ab.1).bind fun v=>Aa (g.1,v.1,ab.2)
theorem bE{e t:Ap}{v:Ah}(h:xC2 e=Aa (g,v,t)):∃ p q r,e=.Call (.Name g p) [.Name v q,t] [] r:=by
 obtain⟨c,e1,h⟩:=AJ.mp h;obtain⟨g',e2,h⟩:=AJ.mp h;obtain⟨ab,e3,h⟩:=AJ.mp h;obtain⟨v',e4,h⟩:=AJ.mp h;cases h;rw[Nv e1,GB e2,K5 e3,GB e4];exact⟨_,_,_,rfl⟩
noncomputable def Oz:Ap->An (Ad Ap)
 |.Tuple ts _ _=>Aa ts
 |_=>Ae
theorem Yt{e:Ap}{ts:Ad Ap}(h:Oz e=Aa ts):∃ c p,e=.Tuple ts c p:=by
 cases e with
 |Tuple l c p=>cases h;exact⟨_,_,rfl⟩
 |_=>exact nomatch (show Ae=Aa ts from h)
noncomputable def xC1(e:Ap):An (Ah×Ah):=(Mu e).bind fun c=>(Fd c.1).bind fun g=>(match c.2.1 with
  |[a]=>(Fd a).bind fun v=>Aa (g.1,v.1)
  | _=>Ae)
theorem bF{e:Ap}{v:Ah}(h:xC1 e=Aa (g,v)):∃ p q r,e=.Call (.Name g p) [.Name v q] [] r:=by
 obtain⟨c,e1,h⟩:=AJ.mp h;obtain⟨g',e2,h⟩:=AJ.mp h;obtain⟨f,as,p⟩:=c;cases as with
 |nil=>exact nomatch (show Ae=Aa (g,v) from h)
 |cons a as=>
  cases as with
  |cons=>exact nomatch (show Ae=Aa (g,v) from h)
  |nil=>
   obtain⟨v',e4,h⟩:=AJ.mp (show ((Fd a).bind fun v=>Aa (g'.1,v.1))=Aa (g,v) from h)
   cases h;rw[Nv e1,GB e2,GB e4];exact⟨_,_,_,rfl⟩
noncomputable def xHd:ED->An (Ah×Ah×A9×Ad A9)
  | .ExceptHandler ty nm b _=>(match nm,b,ty with
    |some m,h0::hs,Aa e=>(Fd e).bind fun g=>Aa (g.1,m,h0,hs)
    | _,_,_=>Ae)
theorem NT{h:ED}{m:Ah}(q:xHd h=Aa (g,m,h0,hs)):∃ p r,h=.ExceptHandler (Aa (.Name g p)) (Aa m) (h0::hs) r:=by
 obtain⟨ty,nm,b,r⟩:=h;cases nm with
 |none=>cases ty<;>cases b<;>exact nomatch (show Ae=Aa (g,m,h0,hs) from q)
 |some m'=>
  cases b with
  |nil=>cases ty<;>exact nomatch (show Ae=Aa (g,m,h0,hs) from q)
  |cons h0' hs'=>
   cases ty with
   |none=>exact nomatch (show Ae=Aa (g,m,h0,hs) from q)
   |some e=>
    obtain⟨g',e1,q⟩:=AJ.mp (show ((Fd e).bind fun g=>Aa (g.1,m',h0',hs'))=Aa (g,m,h0,hs) from q)
    cases q;rw[GB e1];exact⟨_,_,rfl⟩
noncomputable def Ln:A9->An (A9×Ad ED×Ad A9)
  | .Try b hs es fs _=>(match b,fs with
    |[bt],[]=>Aa (bt,hs,es)
    | _,_=>Ae)
  |_=>Ae
theorem QQ{st bt:A9}{hs:Ad ED}{es:Ad A9}(q:Ln st=Aa (bt,hs,es)):∃ p,st=.Try [bt] hs es [] p:=by
 cases st with
 |Try b h e f p=>
  cases b with
  |nil=>cases f<;>exact nomatch (show Ae=Aa (bt,hs,es) from q)
  |cons x b=>
   cases b with
   |cons=>cases f<;>exact nomatch (show Ae=Aa (bt,hs,es) from q)
   |nil=>
    cases f with
    |nil=>cases q;exact⟨_,rfl⟩
    |cons=>exact nomatch (show Ae=Aa (bt,hs,es) from q)
 |_=>exact nomatch (show Ae=Aa (bt,hs,es) from q)
noncomputable def IM(T:Tc):Ad Ap->Ad Ki->Ao
 |[],[]=>Ab
 |.Name t _::r,.cls c::ks=>inX T.exs t c&&glB T t&&Hh t&&IM T r ks
 |_,_=>Ac
noncomputable def TN(T:Tc)(g:Ah)(f:Ag):Ao:=(T.fns.any fun p=>p.1==g&&p.2.1==f&&p.2.2==1001)&&glB T g&&Hh g
noncomputable def Dx:Ag->Tc->Ag->Ap->E->Ao
  |0,_,_,_,_=>Ac
  |n+1,T,x,e,c=>match c with
    |.bl b=>(match e with | .Constant (.bool b') _ _=>b' == b|_=>Ac)
    |.no a=>(match e with | .UnaryOp .Not y _=>Dx n T x y a|_=>Ac)
    |.and (.cons a .nil)=>(match e with | .BoolOp .And [y] _=>Dx n T x y a|_=>Ac)
    |.and (.cons a (.cons a' as))=>(match e with | .BoolOp .And (y::z::zs) p=>Dx n T x y a&&Dx n T x (.BoolOp .And (z::zs) p) (.and (.cons a' as))|_=>Ac)
    | .isi (.var i) [.verr]=>(match xC2 e with
      | some (g,v,t)=>i==x&&g==("isinstance" : Ah)&&isB T g&&isV T v x&&(match Fd t with
        |some (t,_)=>t==("ValueError" : Ah)&&isB T t
        | none=>Ac)
      | none=>Ac)
    | .isi (.var i) [.cls c]=>(match xC2 e with
      | some (g,v,t)=>i==x&&g==("isinstance" : Ah)&&isB T g&&isV T v x&&(match Fd t with
        |some (t,_)=>inX T.exs t c&&glB T t&&Hh t
        | none=>Ac)
      | none=>Ac)
    | .isi (.var i) (.cls c::k::ks)=>(match xC2 e with
      | some (g,v,t)=>i==x&&g==("isinstance" : Ah)&&isB T g&&isV T v x&&(match Oz t with
        |some ts=>IM T ts (.cls c::k::ks)&&decide (ts.length<=1000)
        | none=>Ac)
      | none=>Ac)
    | .call f (.cons (.var i) .nil)=>(match xC1 e with
      |some (g,v)=>TN T g f&&isV T v i
      | none=>Ac)
    |.str s=>(match e with | .Constant (.str s') _ _=>s' == s|_=>Ac)
    | .fld (.var i) f=>(match e with
      |.Attribute (.Name v _) g _=>i==x&&g==f&&(f==("triple" : Ah)||f==("points" : Ah))&&isV T v x
      | _=>Ac)
    |_=>Ac
noncomputable def Mn(n:Ag)(T:Tc)(x:Ag)(y:Ap)(e:E):Ao:=match y with
  |.UnaryOp .Not z _=>(match e with | .no a=>JT z&&Dx n T x z a|_=>Ac)
  |y=>JT y&&Dx n T x y e
noncomputable def Gi(n:Ag)(T:Tc)(x:Ag):Ad Ap->Es->Ao
 |[],.nil=>Ab
 |y::ys,.cons e es=>Mn n T x y e&&Gi n T x ys es
 |_,_=>Ac
noncomputable def Oo(n:Ag)(T:Tc)(x:Ag)(e:Ap)(c:E):Ao:=match e with
  |.BoolOp .Or ys _=>(match c with | .or es=>Gi n T x ys es && !ys.isEmpty|_=>Ac)
  |.BoolOp .And ys _=>(match c with | .and es=>Gi n T x ys es && !ys.isEmpty|_=>Ac)
  |e=>Mn n T x e c
noncomputable def mL:E->Ao
 |.isi _ _=>Ab
 |.bl _=>Ab
 |_=>Ac
noncomputable def G8:Ag->Tc->Ag->Ad A9->Ss->Ao
  |0,_,_,_,_=>Ac
  |n+1,T,x,sts,ss=>match ss with
    |.nil=>sts.isEmpty
    | .cons (.asg i Ac e) ss=>(match sts with
      |.Assign [.Name y _] v _::r=>T.N[i]? == Aa y&&IQ T y&&Jp v&&Dx n T x v e&&G8 n T x r ss
      | _=>Ac)
    | .cons (.ife c a .nil) ss=>(match sts with
      |.If t xs [] _::r=>Oo n T x t c&&G8 n T x xs a&&G8 n T x r ss
      | _=>Ac)
    | .cons (.ret e) ss=>(match sts with
      |.Return (Aa v) _::r=>mL e&&Dx n T x v e&&G8 n T x r ss
      | _=>Ac)
    |_=>Ac
noncomputable def OD:E->Ao
 |.var _=>Ab
 |.cmp _ a b=>Mq a&&Mq b
 |_=>Ac
noncomputable def Ma(n:Ag)(T:Tc)(st:A9)(s:S):Ao:=match s with
  |.expr (.call f as)=>(match st with | .Expr v _=>Bj n T v (.call f as)&&Kj as|_=>Ac)
  |.asg i Ac (.call f as)=>(match st with | .Assign [.Name y _] v _=>T.N[i]? == Aa y&&IQ T y&&Bj n T v (.call f as)&&Kj as|_=>Ac)
  |_=>Ac
noncomputable def Jw:Ag->Ag->Tc->A9->S->Ao
  |0,n,T,st,s=>Ma n T st s
  | m+1,n,T,st,s=>Ma n T st s||(match s with
    | .ife c (.cons a .nil) (.cons b .nil)=>(match st with
      |.If t [xs] [ys] _=>IP n T t c&&OD c&&Jw m n T xs a&&Jw m n T ys b
      | _=>Ac)
    | _=>Ac)
noncomputable def hdB(T:Tc)(g:Ah)(c:Ag):Ao:=inX T.exs g c&&inX T.rzs g c&&glB T g&&Hh g
mutual
noncomputable def FS:Ag->Tc->A9->S->Ao
  |0,_,_,_=>Ac
  |n+1,T,st,s=>match s with
    |.pass=>Ac
    |.brk=>Ac
    |.cont=>Ac
    |.asg i _ e=>(match st with | .Assign [.Name x _] v _=>T.N[i]? == Aa x&&IQ T x&&Bj n T v e|_=>Ac)
    |.asgT ts e=>(match st with | .Assign [.Tuple ys _ _] v _=>(EM ys).isSome&&tgC T ts (tgN ys)&&(Sz v||C5 4 ys.length)&&Bj n T v e|_=>Ac)
    |.expr e=>(match st with | .Expr v _=>Jp v&&Bj n T v e|_=>Ac)
    |.ret e=>(match st with | .Return (Aa v) _=>Bj n T v e|_=>Ac)
    |.retN=>Ac
    |.ife c a b=>(match st with | .If t xs ys _=>IP n T t c&&chkSs n T xs a&&chkSs n T ys b|_=>Ac)
    |.fors t it body=>(match st with | .For (.Name x _) iter xs [] _=>tgC T [t] [x]&&Lh iter&&chkI n T Ac iter it&&chkSs n T xs body|_=>Ac)
    |.forT ts it body=>(match st with | .For (.Tuple ys _ _) iter xs [] _=>(EM ys).isSome&&tgC T ts (tgN ys)&&Lh iter&&chkI n T Ab iter it&&chkSs n T xs body|_=>Ac)
    |.whl c body=>Ac
    |.rais c as=>!(T.rzs.any fun p=>p.2==c)||(match st with | .Raise (Aa (.Call (.Name g _) (x::xs) [] _)) Ae _=>inX T.rzs g c&&glB T g&&Hh g&&decide (xs.length<=1000)&&chkEs n T (x::xs) as|_=>Ac)
    |.tryx bs c x h=>(match bs with | .cons b .nil=>(match Ln st with|some (bt,[h1],[])=>(match xHd h1 with|some (g,m,h0,hs)=>hdB T g c&&T.N[x]? == Aa m&&T.sc.names.lookup m==Aa .local&&Jw 6 n T bt b&&G8 n T x (h0::hs) h|none=>Ac)|_=>Ac)|_=>Ac)
    |.try2 bs c x h c' h' els=>(match bs with | .cons b .nil=>(match Ln st with|some (bt,hl,es)=>(match Jy hl with|some (h1,h2)=>(match xHd h1,xHd h2 with|some (g,m,h0,hs),Aa (g',m',h0',hs')=>m' == m&&hdB T g c&&hdB T g' c'&&T.N[x]? == Aa m&&T.sc.names.lookup m==Aa .local&&Jw 6 n T bt b&&G8 n T x (h0::hs) h&&G8 n T x (h0'::hs') h'&&chkSs n T es els|_,_=>Ac)|none=>Ac)|none=>Ac)|_=>Ac)
    |.app i e=>Ac
    |.ext i e=>Ac
    |.rev i=>Ac
    |.clr i=>Ac
    |.put i k e=>(match st with | .Assign [.Subscript (.Name x _) y _] v _=>isV T x i&&Nz y&&Bj n T y k&&Bj n T v e|_=>Ac)
    |.swp _ _ _=>Ac
    |.apop _ _ _=>Ac
    |.ins _ _ _=>Ac
    |.dput _ _ _=>Ac
    |.dsd _ _ _=>Ac
    |.rel _=>Ac
noncomputable def chkSs:Ag->Tc->Ad A9->Ss->Ao
  |0,_,_,_=>Ac
  |n+1,T,sts,ss=>match ss with
    |.nil=>sts.isEmpty
    |.cons (.rel i) ss=>chkSs n T sts ss
    | .cons s ss=>(match sts with
      |st::r=>FS n T st s&&chkSs n T r ss
      | []=>Ac)
end
noncomputable def Hg(fuel:Ag)(hot:Ao)(fns:Ad (Ah×Ag×Ag))(bl:Ad Ah)(rzs exs gls:Ad (Ah×Ag))(ps N:Ad Ah)(st:A9)(df:Df):Ao:=
  let sc:=Cp st
  sc.kind==.function && !sc.isCoroutine && !sc.isGenerator&&Ka N&&N.take ps.length==ps&&ps.all (fun x=>sc.names.lookup x==Aa .local||sc.names.lookup x==Aa .cell)&&sc.names.all (fun y=>y.2 != .free)&&N.length==df.n &&
  (match hot with
  |true=>G8 fuel ⟨sc,N,fns,bl,rzs,exs,gls⟩ 0 (Fo st) df.body
  | false=>chkSs fuel ⟨sc,N,fns,bl,rzs,exs,gls⟩ (Fo st) df.body)
structure XT (up:Ag->Ad Ag) (xn:Ag->Ad D->R Ex) (CL:ClA) (rzs exs:Ad (Ah×Ag)) (K:Fg) (mg:Ah->An Ai):Prop where
 xc:∀ c C,CL c=Aa C->XcOk K C
 rz:∀ p∈rzs,∃ C,CL p.2=Aa C/\mg p.1=Aa (.ref C)
 ex:∀ p∈exs,∃ C,mg p.1=Aa (.ref C)/\Lg K CL up p.2 C/\∀ c D,CL c=Aa D->Al K (.ref D) (.ref C)=Aa ((up c).contains p.2)
 made:∀ c C ds,CL c=Aa C->xn c ds=.bad\/(xn c ds=.ok ⟨c,[]⟩/\DK K C Ae=Ab)\/∃ f,XIn K mg C f/\Mo xn c f ds
 nf:∀ c C,CL c=Aa C->∀ f:Ah,(f==("triple" : Ah)||f==("points" : Ah))=Ab->Fb K C=Ab/\Av K (.ref C) f=Aa Ae
 xb:∀ c,(∀ p∈rzs,p.2≠c)->∀ ds,xn c ds=.bad
def Mw(K:Fg)(mg:Ah->An Ai)(CL:ClA)(x:Ah)(d:D):Prop:=∃ u v,mg x=Aa u/\BD v u/\∀ H A,Rep K CL H A v d
structure VX (Γ:Gam) (CL:ClA) (k:Ag) (W:XW) (T:Tc) (X:Cx):Prop where
 sc:X.env.scope=T.sc
 kd:T.sc.kind=.function
 N:X.N=T.N
 nd:T.N.Nodup
 calm:X.calm=Ab
 room:Room k X.A
 bl:∀ x,x∈T.bl->X.mg x=Ae
 fn:∀ p∈T.fns,∃ f fd ps,X.mg p.1=Aa (.ref f)/\B1 X.K (.ref f)=Ab/\Fq X.K fd ps []/\ps.length=p.2.2%1000/\(p.2.2<1000->FnOk X.prog X.w X.K X.mg X.base (CXR X.prog X.w) k f fd ps (spD X.K CL (p.2.2%1000) (Γ.fr p.2.1) (Γ.F p.2.1)))/\(1000<=p.2.2->HotOk X.prog X.w X.K X.mg X.base k f fd ps (spH X.K CL (p.2.2%1000) (Γ.fr p.2.1) (Γ.F p.2.1)))
 own:E4 (model X.prog X.w) X.A X.env X.xe
 px:∀ A,Ke (CXR X.prog X.w) X (EKW X.K CL A W)
 rz:Lq X CL W
 xt:XT Γ.up Γ.xn CL T.rzs T.exs X.K X.mg
 gl:∀ p∈T.gls,Mw X.K X.mg CL p.1 (Γ.G p.2)
theorem NM:∀ A,Ke (CXR X.prog X.w) X (EKW X.K CL A W0):=fun A pI σ H s ev s' I h=>by
 obtain⟨e,T,cls,dx,H',_,_,_,_,_,_,_,_,_,_,x,_,w⟩:=h;exact w.elim
theorem OE:Lq X CL W0:=fun _ _ _ _ _ _ _ _ _ _ _ _ _ _ z=>z.elim
def Rf{α:Type}(g f:Rho->R α):Prop:=∀ ρ,g ρ=.bad\/g ρ=f ρ
section
variable{X:Cx}{CL:ClA}{W:XW}{a:Ap}{f g:Rho->R D}
theorem SE.ref(h:SE X CL W a f)(r:Rf g f):SE X CL W a g:=fun A=>PE.weak (h A) fun σ H Q ⟨hA,ρ,q,p⟩=>⟨hA,ρ,q,by
 rcases r ρ with e|e
 ·rw[e]at p;exact p.elim
 ·rw[e]at p;exact p⟩
theorem SB.ref{f g:Rho->R Ao}(h:SB X CL W a f)(r:Rf g f):SB X CL W a g:=fun A=>PT.weak (h A) fun σ H Q ⟨hA,ρ,q,p⟩=>⟨hA,ρ,q,by
 rcases r ρ with e|e
 ·rw[e]at p;exact p.elim
 ·rw[e]at p;exact p⟩
theorem SW.ref{f g:Rho->R Ao}(h:SW X CL W a f)(r:Rf g f):SW X CL W a g:=fun A=>PW.weak (h A) fun σ H Q ⟨hA,ρ,q,p⟩=>⟨hA,ρ,q,by
 rcases r ρ with e|e
 ·rw[e]at p;exact p.elim
 ·rw[e]at p;exact p⟩
theorem SC.ref(h:SC X CL W fr a f)(r:Rf g f):SC X CL W fr a g:=fun A=>PE.weak (h A) fun σ H Q ⟨hA,ρ,q,p⟩=>⟨hA,ρ,q,by
 rcases r ρ with e|e
 ·rw[e]at p;exact p.elim
 ·rw[e]at p;exact p⟩
theorem SS.ref{st:A9}{f g:Rho->O}(h:SS X CL W st f)(r:∀ ρ,g ρ=.bad\/g ρ=f ρ):SS X CL W st g:=fun Fz B=>PS.weak (h Fz B) fun D σ H ⟨ρ,x,p⟩=>⟨ρ,x,by
 rcases r ρ with e|e
 ·rw[e]at p;exact p.elim
 ·rw[e]at p;exact p⟩
end
theorem Jh:∀{l:Ad Ah},Ka l=Ab->l.Nodup
 |[],_=>HC
 |x::xs,h=>by
  unfold Ka at h;simp only[Ak,Bo,Ui,nF]at h;exact List.nodup_cons.mpr ⟨h.1,Jh h.2⟩
section
variable{T:Tc}{X:Cx}{Γ:Gam}{CL:ClA}{k:Ag}{W:XW}
theorem QU(h:OC T x=Ab):Vis T.sc x:=by
 unfold OC at h;split at h
 ·exact .inl (by assumption)
 ·exact .inr (.inl (by assumption))
 ·exact .inr (.inr (by assumption))
 ·cases h
theorem K8(h:IQ T x=Ab):Loc T.sc x:=by
 unfold IQ at h;split at h
 ·exact .inl (by assumption)
 ·exact .inr (by assumption)
 ·cases h
theorem G5(h:Hh x=Ab):(x==("__debug__" : Ah))=Ac/\(x==("__classdict__" : Ah))=Ac/\x≠"__name__" := by
 unfold Hh at h;simp only[Ak,Bo]at h;exact⟨h.1.1,h.1.2,fun e=>by subst e;exact absurd h.2 (by simp)⟩
theorem L8{i:Ag}(v:VX Γ CL k W T X)(h:isV T x i=Ab):PE X (.Name x pos) (Gm i):=by
 unfold isV at h;simp only[Ak,AW]at h;obtain⟨h2,h3,_⟩:=G5 h.2;exact Mi (by rw[v.N];exact h.1.1) (by rw[v.sc];exact QU h.1.2) h2 h3
theorem G4(v:VX Γ CL k W T X)(h:isB T x=Ab):Gl X x/\X.mg x=Ae/\x≠"__name__"/\(x==("__debug__" : Ah))=Ac:=by
 unfold isB glB at h;simp only[Ak,AW,Ui,AG]at h;obtain⟨h2,h3,h4⟩:=G5 h.2;exact⟨by show X.env.scope.names.lookup x=_;rw[v.sc];exact h.1.2,v.bl x h.1.1,h4,h2⟩
theorem DJ{x:Ap}(h:EL x=Ab):Az (x::xs) env=(Ac,eval x env)::Az xs env:=by
 cases x<;>first|rfl|cases h
theorem XD{y:Ap}(h:Nz y=Ab):Nu y:=by
 intro o i;cases y<;>first|rfl|cases h
theorem Md{e:Ap}(h:Lh e=Ab):∀ x,CO e env x=pure x:=by
 intro x;cases e<;>first|rfl|cases h
theorem K2{e:Ap}{t:An Ap}(h:Jp e=Ab):Dh e t l env=pure Ac:=by
 cases e<;>first|rfl|cases h
theorem QY{e:Ap}(h:JT e=Ab):∀ whole,HI e env whole=(do let v <-whole;IT e.pos;holding [v] (truthy v)):=by
 intro whole;cases e<;>first|rfl|cases h
theorem V7(v:VX Γ CL k W T X)(scope:B9):relabel scope X.env=Ob T.sc scope:=by
 unfold relabel Ob;have:∀ n,X.env.kindOf n=T.sc.names.lookup n:=fun n=>by show X.env.scope.names.lookup n=_;rw[v.sc]
 simp only[this,v.sc]
theorem NX{N':Ad Ah}(v:VX Γ CL k W T X)(h:Lp T scope ts N'=Ab):BlockOk X scope N' ts/\N'.Nodup/\scope.kind=.function:=by
 unfold Lp at h;simp only[Ak,AW,Do,Cd,GN,Ky]at h;obtain⟨⟨⟨⟨⟨h1,h2⟩,h4⟩,h5⟩,h6⟩,h7⟩:=h;have at7:∀ i x,N'[i]?=Aa x->i∈ts\/((scope.names.lookup x≠Aa .local/\scope.names.lookup x≠Aa .cell)/\(scope.names.lookup x≠Aa .free\/T.N[i]?=Aa x)):=fun i x e=>by
  have hi:=(A7.mp e).1;have:=h7 i (BB.mpr hi);rcases this with z|z
  ·exact .inl (by simpa using z)
  ·rw[e]at z;simp only[Ak,GN,Ky,Cd,AW]at z;exact .inr z
 refine⟨⟨h1,h2,fun y hy hl=>by rw[h2 y hy,hl],fun y hy hf=>?_,by rw[v.N];exact h5,fun i x e hf hn=>?_,fun i x e hl=>?_⟩,Jh h6,h1⟩
 ·rw[v.sc];rcases h4 y hy with (z|z)|z
  ·exact absurd hf z
  ·exact .inl z
  ·exact .inr z
 ·rw[v.N];rcases at7 i x e with z|⟨_,z⟩
  ·exact absurd z hn
  ·exact z.resolve_left fun q=>q hf
 ·rcases at7 i x e with z|⟨z,_⟩
  ·exact z
  ·exact hl.elim (fun q=>absurd q z.1) (fun q=>absurd q z.2)
theorem VX.blk{xs:Ad Ah}{cl:Ad (Ah×Aj)}{s:As}{fp:Ad Aj}(v:VX Γ CL k W T X)(h:Lp T scope ts (Kq ts xs T.N)=Ab):VX Γ CL k W0 (T.blk scope ts xs) (cxC X scope cl C (Kq ts xs T.N) s H fp):=by
 obtain⟨_,h2,h3⟩:=NX v h;exact⟨V7 v scope,h3,rfl,h2,v.calm,v.room,v.bl,v.fn,PassesOwn.never,NM,OE,v.xt,v.gl⟩
theorem YC{t:Ag}(v:VX Γ CL k W T X)(hfn:scope.names.lookup x=Aa .cell->X.fn x=Ab)(h:tgO T scope t x=Ab):PG X (.Name x pos) (EN t):=by
 unfold tgO at h;simp only[Ak,Cd,AW]at h;rcases h with ⟨h1,h2|h2⟩
 ·exact K7 (by rw[v.N];exact v.nd) (by rw[v.N];exact h1) (by rw[v.sc];exact .inl h2) (.inr (by rw[v.sc];exact h2))
 ·exact K7 (by rw[v.N];exact v.nd) (by rw[v.N];exact h1) (by rw[v.sc];exact .inr h2.1) (.inl (hfn h2.2))
theorem MK{y:Ap}{r:Ad Ap}{zs:Ad Ah}(h:EM (y::r)=Aa zs):∃ x p ws,y=.Name x p/\EM r=Aa ws/\zs=x::ws:=by
 cases y with
 |Name x p=>
  have h':(EM r).map (x :: ·)=Aa zs:=h;cases e:EM r with
  |none=>rw[e]at h';cases h'
  |some ws=>rw[e]at h';cases h';exact⟨x,p,ws,rfl,rfl,rfl⟩
 |_=>cases h
theorem M1(x:Ah)(p:AN)(r:Ad Ap)(env:B5):B2 (.Name x p::r) env=(Ac,assign (.Name x p) env)::B2 r env:=rfl
theorem MJ:∀(ys:Ad Ap)(zs:Ad Ah),EM ys=Aa zs->(B2 ys env).length=ys.length/\(B2 ys env).findIdx? (·.1)=Ae/\(B2 ys env).map (·.2)=ys.map fun y=>assign y env:=by
 intro ys
 induction ys with
 |nil=>intro _ _;exact⟨rfl,rfl,rfl⟩
 |cons y r ih=>
  intro zs h;obtain⟨x,p,ws,rfl,e,rfl⟩:=MK h;obtain⟨h1,h2,h3⟩:=ih ws e;rw[M1];refine⟨?_,?_,?_⟩
  ·rw[Br,Br,h1]
  ·rw[List.findIdx?_cons,h2];simp
  ·rw[CI,CI,h3]
theorem YG(v:VX Γ CL k W T X):∀(ys:Ad Ap)(ts:Ad Ag)(zs:Ad Ah),EM ys=Aa zs->tgB T ts zs=Ab->PGs X ys (ts.foldr (fun t u=>G7 (EN t) u) He)/\ts.length=ys.length:=by
 intro ys
 induction ys with
 |nil=>
  intro ts zs e h;cases e;cases ts with
  |nil=>exact⟨Qy,rfl⟩
  |cons t ts=>cases h
 |cons y r ih=>
  intro ts zs e h;obtain⟨x,p,ws,rfl,e2,rfl⟩:=MK e;cases ts with
  |nil=>cases h
  |cons t ts=>
   have h':(T.N[t]? == Aa x&&T.sc.names.lookup x==Aa .local&&tgB T ts ws)=Ab:=h;simp only[Ak,AW]at h';obtain⟨h1,h2⟩:=ih ts ws e2 h'.2;exact⟨Qr (K7 (by rw[v.N];exact v.nd) (by rw[v.N];exact h'.1.1) (by rw[v.sc];exact .inl h'.1.2) (.inr (by rw[v.sc];exact h'.1.2))) h1 (by rw[M1];rfl),congrArg (· + 1) h2⟩
theorem YF(v:VX Γ CL k W T X)(hn:(EM ys).isSome=Ab)(h:tgB T ts (tgN ys)=Ab):PG X (.Tuple ys kk pos) (Kl X.K ts.length (ts.foldr (fun t u=>G7 (EN t) u) He)):=by
 cases e:EM ys with
 |none=>rw[e]at hn;cases hn
 |some zs=>
  have e2:tgN ys=zs:=by unfold tgN;rw[e];rfl
  rw[e2]at h;obtain⟨h1,h2⟩:=YG v ys ts zs e h;obtain⟨h3,h4,_⟩:=MJ (env:=X.env) ys zs e;exact NL v.calm h1 (by rw[h3,h2]) h4
end
noncomputable def Es.len:Es->Ag
 |.nil=>0
 |.cons _ es=>es.len+1
theorem LX(Γ:Gam)(ρ:Rho):∀(es:Es)(ds:Ad D),evA Γ ρ es=.ok ds->ds.length=es.len
 |.nil,ds,h=>by cases h;rfl
 |.cons e es,ds,h=>by
  obtain⟨x,h1,h2⟩:=Jb (Qb Γ ρ e es ▸ h);obtain⟨xs,h3,h4⟩:=Jb h2;cases h4;exact congrArg (· + 1) (LX Γ ρ es xs h3)
theorem K1(Γ:Gam)(ρ:Rho):∀(es:Es)(ds:Ad D),evB Γ ρ es=.ok ds->ds.length=es.len
 |.nil,ds,h=>by cases h;rfl
 |.cons e es,ds,h=>by
  obtain⟨x,h1,h2⟩:=Jb (Nk Γ ρ e es ▸ h);obtain⟨xs,h3,h4⟩:=Jb h2;cases h4;exact congrArg (· + 1) (K1 Γ ρ es xs h3)
theorem RY(Γ:Gam)(ρ:Rho)(e:E)(h:shE ρ e=Ab):top ρ e (evE Γ ρ e)=evE Γ ρ e:=by
 cases e with
 |var i=>
  show En ρ i=Fs ρ i;have h':shV ρ i=Ab:=h;unfold shV at h';unfold En Fs;cases q:ρ[i]? with
  |none=>rfl
  |some x=>
   cases x with
   |none=>rfl
   |some y=>
    obtain⟨d,o⟩:=y;cases o with
    |true=>rw[q]at h';cases h'
    |false=>rfl
 |_=>rfl
theorem Le(Γ:Gam)(ρ:Rho):∀(es:Es),Hc ρ es=Ab->evB Γ ρ es=evA Γ ρ es
 |.nil,_=>rfl
 |.cons e es,h=>by
  simp only[Wb,Ak]at h;rw[Qb,Nk,RY Γ ρ e h.1,Le Γ ρ es h.2]
theorem NU(Γ:Gam)(c:E):Rf (fun ρ=>evE Γ ρ c) (fun ρ=>top ρ c (evE Γ ρ c)):=fun ρ=>by
 by_cases h:shE ρ c=Ab
 ·exact .inr (RY Γ ρ c h).symm
 ·cases c with
  |var i=>
   refine .inl ?_;show Fs ρ i=.bad;have h':¬ shV ρ i=Ab:=h;unfold shV at h';unfold Fs;cases q:ρ[i]? with
   |none=>rfl
   |some x=>
    cases x with
    |none=>rfl
    |some y=>
     obtain⟨d,o⟩:=y;cases o with
     |true=>rfl
     |false=>rw[q]at h';exact absurd rfl h'
  |_=>exact absurd rfl h
def Pcs(X:Cx)(CL:ClA)(W:XW)(e:Ap)(f:Rho->R D):Prop:=∃ tg iter elt ifs scope pos N' ts fi fc fe as g,e=.ListComp elt [⟨tg,iter,ifs,0⟩] scope pos/\BlockOk X scope N' ts/\SI X CL W tg iter fi/\GG X.K CL ts as g /\
 (∀ cl C s H fp,PG (cxC X scope cl C N' s H fp) tg g)/\(∀ cl C s H fp,STs (cxC X scope cl C N' s H fp) CL ifs fc)/\(∀ cl C s H fp,SE (cxC X scope cl C N' s H fp) CL W0 elt fe)/\(∀ x,CO iter X.env x=pure x) /\
 ∀ ρ,f ρ=(fi ρ).bind fun xs=>(noX (BG (fun x=>(as x ρ).bind fc) (fun x=>(as x ρ).bind fe) xs)).bind fun ys=>.ok (.lst ys)
theorem Pcs.sc{e:Ap}{f:Rho->R D}(hc:X.calm=Ab)(h:Pcs X CL W e f):SC X CL W Ab e f:=by
 obtain⟨tg,iter,elt,ifs,scope,pos,N',ts,fi,fc,fe,as,g,rfl,B,hi,hGG,hg,ht,he,hs,ef⟩:=h;exact SC.congr (Yj hc B hi hGG hg ht he hs) ef
structure OkE (Γ:Gam) (CL:ClA) (W:XW) (X:Cx) (e:Ap) (c:E):Prop where
 se:SE X CL W e (fun ρ=>evE Γ ρ c)
 st:ST X CL W e (fun ρ=>top ρ c (evE Γ ρ c))
 nw:D0 Γ c=Ab->SC X CL W Ab e (fun ρ=>evE Γ ρ c)
 cp:Jp e=Ac->Pcs X CL W e (fun ρ=>evE Γ ρ c)
section
variable{Γ:Gam}{CL:ClA}{W:XW}{X:Cx}{e:Ap}{c:E}
theorem Ew(h:SE X CL W e (fun ρ=>evE Γ ρ c))(ht:∀ ρ r,top ρ c r=r)(hn:D0 Γ c=Ac)(hc:Jp e=Ab):OkE Γ CL W X e c:=
 ⟨h,by simp only[ht];exact h.st,fun z=>absurd z (by rw[hn];decide),fun z=>absurd z (by rw[hc];decide)⟩
theorem N6(h:SC X CL W Ab e (fun ρ=>evE Γ ρ c))(ht:∀ ρ r,top ρ c r=r)(hc:Jp e=Ab):OkE Γ CL W X e c:=
 ⟨h.se,by simp only[ht];exact h.se.st,fun _=>h,fun z=>absurd z (by rw[hc];decide)⟩
theorem Sy(hc:X.calm=Ab)(h:Pcs X CL W e (fun ρ=>evE Γ ρ c))(ht:∀ ρ r,top ρ c r=r):OkE Γ CL W X e c:=
 ⟨(h.sc hc).se,by simp only[ht];exact(h.sc hc).se.st,fun _=>h.sc hc,fun _=>h⟩
end
theorem kZ{k:Ki}(h:Ol k=Aa x):∃ T,tyK k=Aa T/\CY x=Aa (.type T):=by
 cases k<;>simp only[Ol]at h<;>cases h
 ·exact⟨_,rfl,PyProof.Rows.boot_int⟩
 ·exact⟨_,rfl,PyProof.Rows.boot_bool⟩
 ·exact⟨_,rfl,PyProof.Rows.boot_str⟩
 ·exact⟨_,rfl,UL⟩
 ·exact⟨_,rfl,UM⟩
structure Snd (Γ:Gam) (CL:ClA) (k:Ag) (n:Ag):Prop where
 e:∀(W:XW)(T:Tc)(X:Cx)(x:Ap)(c:E),VX Γ CL k W T X->Bj n T x c=Ab->OkE Γ CL W X x c
 b:∀(W:XW)(T:Tc)(X:Cx)(x:Ap)(c:E),VX Γ CL k W T X->IP n T x c=Ab->SB X CL W x (fun ρ=>(top ρ c (evE Γ ρ c)).bind BL)
 bs:∀(W:XW)(T:Tc)(X:Cx)(xs:Ad Ap)(es:Es)(pos:AN),VX Γ CL k W T X->chkBs n T xs es=Ab->xs≠[]->SW X CL W (.BoolOp .And xs pos) (fun ρ=>(evN Γ ρ es).bind BL)/\SW X CL W (.BoolOp .Or xs pos) (fun ρ=>(evO Γ ρ es).bind BL)
 es:∀(W:XW)(T:Tc)(X:Cx)(xs:Ad Ap)(es:Es),VX Γ CL k W T X->chkEs n T xs es=Ab->SA X CL W xs (fun ρ=>evA Γ ρ es)/\SAT X CL W xs (fun ρ=>evB Γ ρ es)/\xs.length=es.len/\(∀ pos,xs≠[]->SE X CL W (.BoolOp .And xs pos) (fun ρ=>evN Γ ρ es)/\SE X CL W (.BoolOp .Or xs pos) (fun ρ=>evO Γ ρ es))/\(∀ pos,(B8 pos (Az xs X.env)).any (·.1)=Ac)
 o:∀(W:XW)(T:Tc)(X:Cx)(x:An Ap)(c:E),VX Γ CL k W T X->chkO n T x c=Ab->SO X CL W x (fun ρ=>(top ρ c (evE Γ ρ c)).bind (slE c))
 t:∀(T:Tc)(X:Cx)(xs:Ad Ap)(c:E),VX Γ CL k W0 T X->chkT n T xs c=Ab->STs X CL xs (fun ρ=>(top ρ c (evE Γ ρ c)).bind BL)
 i:∀(W:XW)(T:Tc)(X:Cx)(tu:Ao)(tg x:Ap)(i:I),VX Γ CL k W T X->TB tu tg=Ab->chkI n T tu x i=Ab->SI X CL W tg x (fun ρ=>evI Γ ρ i)
section
variable{Γ:Gam}{CL:ClA}{W:XW}{k n:Ag}{T:Tc}{X:Cx}
theorem XC:Snd Γ CL k 0:=⟨fun _ _ _ _ _ _ h=>absurd (show Ac=Ab from h) At,fun _ _ _ _ _ _ h=>absurd (show Ac=Ab from h) At,fun _ _ _ _ _ _ _ h=>absurd (show Ac=Ab from h) At,fun _ _ _ _ _ _ h=>absurd (show Ac=Ab from h) At,fun _ _ _ _ _ _ h=>absurd (show Ac=Ab from h) At,fun _ _ _ _ _ h=>absurd (show Ac=Ab from h) At,fun _ _ _ _ _ _ _ _ _ h=>absurd (show Ac=Ab from h) At⟩
theorem OW{x:Ap}(h:EL x=Ab)(hx:(B8 pos (Az xs env)).any (·.1)=Ac):(B8 pos (Az (x::xs) env)).any (·.1)=Ac:=by
 rw[DJ h];show (Ac||(B8 pos (Az xs env)).any (·.1))=Ac;rw[hx];rfl
theorem aJ(S:Snd Γ CL k n)(W:XW)(T:Tc)(X:Cx)(xs:Ad Ap)(es:Es)(v:VX Γ CL k W T X)(h:chkEs (n+1) T xs es=Ab):SA X CL W xs (fun ρ=>evA Γ ρ es)/\SAT X CL W xs (fun ρ=>evB Γ ρ es)/\xs.length=es.len/\(∀ pos,xs≠[]->SE X CL W (.BoolOp .And xs pos) (fun ρ=>evN Γ ρ es)/\SE X CL W (.BoolOp .Or xs pos) (fun ρ=>evO Γ ρ es))/\(∀ pos,(B8 pos (Az xs X.env)).any (·.1)=Ac):=by
 cases xs with
 |nil=>
  cases es with
  |nil=>exact⟨RC,QM,rfl,fun _ z=>absurd rfl z,fun _=>rfl⟩
  |cons=>simp[chkEs]at h
 |cons x xs=>
  cases es with
  |nil=>simp[chkEs]at h
  |cons e es=>
   simp only[chkEs,Ak]at h;obtain⟨⟨h0,h1⟩,h2⟩:=h;have he:=S.e W T X x e v h1;obtain⟨a1,a2,a3,a4,a5⟩:=S.es W T X xs es v h2;refine⟨QN he.se a1 (DJ h0),Ql he.st a2 (DJ h0),congrArg (· + 1) a3,fun pos _=>?_,fun pos=>OW h0 (a5 pos)⟩
   cases xs with
   |nil=>
    cases es with
    |nil=>exact⟨NN he.se,NN he.se⟩
    |cons=>cases a3
   |cons y ys=>
    cases es with
    |nil=>cases a3
    |cons e' es'=>
     obtain⟨b1,b2⟩:=a4 pos (by simp)
     exact⟨Ry he.se b1,iY he.se b2⟩
theorem gA(S:Snd Γ CL k n)(W:XW)(T:Tc)(X:Cx)(x:An Ap)(c:E)(v:VX Γ CL k W T X)(h:chkO (n+1) T x c=Ab):SO X CL W x (fun ρ=>(top ρ c (evE Γ ρ c)).bind (slE c)):=by
 cases x with
 |none=>
  simp only[chkO]at h;split at h
  ·exact Yc
  ·cases h
 |some x=>
  simp only[chkO]at h;split at h
  ·cases h
  ·rename_i hne;have q:=Yb (S.e W T X x c v h).st;have e:slE c=fun d=>(EA d).bind fun i=>.ok (Aa i):=by
    funext d
    cases c<;>first|rfl|exact absurd rfl hne
   rw[e];exact q
theorem fY(S:Snd Γ CL k n)(T:Tc)(X:Cx)(xs:Ad Ap)(c:E)(v:VX Γ CL k W0 T X)(h:chkT (n+1) T xs c=Ab):STs X CL xs (fun ρ=>(top ρ c (evE Γ ρ c)).bind BL):=by
 cases xs with
 |nil=>
  simp only[chkT]at h;split at h
  ·exact XZ
  ·cases h
 |cons x xs=>
  cases xs with
  |nil=>
   simp only[chkT]at h;exact XY (S.b W0 T X x c v h)
  |cons y ys=>simp[chkT]at h
theorem gB(S:Snd Γ CL k n)(W:XW)(T:Tc)(X:Cx)(tu:Ao)(tg x:Ap)(i:I)(v:VX Γ CL k W T X)(ht':TB tu tg=Ab)(h:chkI (n+1) T tu x i=Ab):SI X CL W tg x (fun ρ=>evI Γ ρ i):=by
 have ht:tu=Ab->jN tg=Ab:=fun z=>by
  subst z;cases tg<;>first|rfl|cases ht'
 cases i with
 |e a=>
  simp only[chkI]at h;exact mG (S.e W T X x a v h).se
 |rng a=>
  simp only[chkI]at h;split at h
  ·simp only[Ak,AW]at h;obtain⟨⟨⟨rfl,h1⟩,h2⟩,h3⟩:=h;obtain⟨g1,g2,_,_⟩:=G4 v h1;exact aU (S.e W T X _ a v h3).st g1 g2 (DJ h2)
  ·cases h
 |rng2 a b=>
  simp only[chkI]at h;split at h
  ·simp only[Ak,AW]at h;obtain⟨⟨⟨⟨⟨rfl,h1⟩,h2⟩,h3⟩,h4⟩,h5⟩:=h;obtain⟨g1,g2,_,_⟩:=G4 v h1;exact Ye (S.e W T X _ a v h4).st (S.e W T X _ b v h5).st g1 g2 (by rw[DJ h2,DJ h3];rfl) (by rw[DJ h3];rfl)
  ·cases h
 |zip a b=>
  simp only[chkI]at h;split at h
  ·simp only[Ak,AW]at h;obtain⟨⟨⟨⟨⟨⟨h0,rfl⟩,h1⟩,h2⟩,h3⟩,h4⟩,h5⟩:=h;obtain⟨g1,g2,_,_⟩:=G4 v h1;have hg:=ht h0;cases tg with
   |Tuple es m tpos=>exact aS (S.e W T X _ a v h4).se (S.e W T X _ b v h5).se g1 g2 (by rw[DJ h2,DJ h3];rfl) (by rw[DJ h3];rfl)
   |_=>cases hg
  ·cases h
 |zip3 a b c=>simp[chkI]at h
 |enm a=>
  simp only[chkI]at h;split at h
  ·simp only[Ak,AW]at h;obtain⟨⟨⟨⟨h0,rfl⟩,h1⟩,h2⟩,h3⟩:=h;obtain⟨g1,g2,_,_⟩:=G4 v h1;have hg:=ht h0;cases tg with
   |Tuple es m tpos=>exact Yg (S.e W T X _ a v h3).se g1 g2 (DJ h2)
   |_=>cases hg
  ·cases h
theorem J3{c:Prop}[De c]{b:Ao}:(if c then R.ok (D.bl b) else .bad)=.bad\/∃ b',(if c then R.ok (D.bl b) else .bad)=.ok (.bl b'):=by
 by_cases h:c
 ·rw[Aw h];exact .inr ⟨_,rfl⟩
 ·rw[AA h];exact .inl rfl
theorem XG(op:D4)(d d':D):BU op d d'=.bad\/∃ b,BU op d d'=.ok (.bl b):=by
 cases op with
 |Eq=>exact J3
 |NotEq=>exact J3
 |In=>
  cases d' with
  |lst ys=>exact J3
  |tup ys=>exact J3
  |dic kvs=>
   show (match IR d with|some k=>R.ok (D.bl (kvs.any fun p=>p.1==k))|none=>.bad)=.bad\/∃ b,(match IR d with|some k=>R.ok (D.bl (kvs.any fun p=>p.1==k))|none=>.bad)=.ok (.bl b)
   cases IR d with
   |some k=>exact .inr ⟨_,rfl⟩
   |none=>exact .inl rfl
  |_=>cases d<;>exact .inl rfl
 |NotIn=>
  cases d' with
  |lst ys=>exact J3
  |tup ys=>exact J3
  |_=>cases d<;>exact .inl rfl
 |Is=>
  cases d' with
  |non=>cases d<;>first|exact .inr ⟨_,rfl⟩|exact .inl rfl
  |_=>cases d<;>first|exact .inl rfl|exact .inr ⟨_,rfl⟩
 |IsNot=>
  cases d' with
  |non=>cases d<;>first|exact .inr ⟨_,rfl⟩|exact .inl rfl
  |_=>cases d<;>first|exact .inl rfl|exact .inr ⟨_,rfl⟩
 |_=>
  cases d with
  |int i=>cases d'<;>first|exact .inr ⟨_,rfl⟩|exact .inl rfl
  |_=>exact .inl rfl
theorem Rg(op:D4)(d d':D):(BU op d d').bind BL=.bad\/(BU op d d').bind BL=(BU op d d').bind Dk:=by
 rcases XG op d d' with h|⟨b,h⟩
 ·rw[h];exact .inl rfl
 ·rw[h];exact .inr rfl
theorem Rt(e e':E)(es:Es):Rf (fun ρ=>(evN Γ ρ (.cons e (.cons e' es))).bind BL) (fun ρ=>((top ρ e (evE Γ ρ e)).bind BL).bind fun c=>if c=Ab then (evN Γ ρ (.cons e' es)).bind BL else .ok Ac):=fun ρ=>by
 have e0:evN Γ ρ (.cons e (.cons e' es))=(evE Γ ρ e).bind fun x=>(Dk x).bind fun c=>if c=Ab then evN Γ ρ (.cons e' es) else .ok (.bl Ac):=rfl
 dsimp only;rw[e0];rcases NU Γ e ρ with z|z<;>dsimp only at z
 ·rw[z];exact .inl rfl
 ·rw[<-z];cases evE Γ ρ e with
  |bad=>exact .inl rfl
  |exn x=>exact .inr rfl
  |ok d=>
   cases d with
   |bl b=>cases b<;>exact .inr rfl
   |_=>exact .inl rfl
theorem Rs(e e':E)(es:Es):Rf (fun ρ=>(evO Γ ρ (.cons e (.cons e' es))).bind BL) (fun ρ=>((top ρ e (evE Γ ρ e)).bind BL).bind fun c=>if c=Ab then .ok Ab else (evO Γ ρ (.cons e' es)).bind BL):=fun ρ=>by
 have e0:evO Γ ρ (.cons e (.cons e' es))=(evE Γ ρ e).bind fun x=>(Dk x).bind fun c=>if c=Ab then .ok (.bl Ab) else evO Γ ρ (.cons e' es):=rfl
 dsimp only;rw[e0];rcases NU Γ e ρ with z|z<;>dsimp only at z
 ·rw[z];exact .inl rfl
 ·rw[<-z];cases evE Γ ρ e with
  |bad=>exact .inl rfl
  |exn x=>exact .inr rfl
  |ok d=>
   cases d with
   |bl b=>cases b<;>exact .inr rfl
   |_=>exact .inl rfl
theorem Rf.tru(e:E):Rf (fun ρ=>(evE Γ ρ e).bind BL) (fun ρ=>(top ρ e (evE Γ ρ e)).bind BL):=fun ρ=>by
 rcases NU Γ e ρ with z|z<;>dsimp only at z ⊢
 ·rw[z];exact .inl rfl
 ·rw[<-z];exact .inr rfl
theorem aK(S:Snd Γ CL k n)(W:XW)(T:Tc)(X:Cx)(xs:Ad Ap)(es:Es)(pos:AN)(v:VX Γ CL k W T X)(h:chkBs (n+1) T xs es=Ab)(hne:xs≠[]):SW X CL W (.BoolOp .And xs pos) (fun ρ=>(evN Γ ρ es).bind BL)/\SW X CL W (.BoolOp .Or xs pos) (fun ρ=>(evO Γ ρ es).bind BL):=by
 cases xs with
 |nil=>exact absurd rfl hne
 |cons x xs=>
  cases es with
  |nil=>simp[chkBs]at h
  |cons e es=>
   simp only[chkBs,Ak]at h;obtain⟨h1,h2⟩:=h;have he:=S.b W T X x e v h1;cases xs with
   |nil=>
    cases es with
    |nil=>exact⟨SW.ref (QZ he) (Rf.tru e),SW.ref (R1 he) (Rf.tru e)⟩
    |cons=>
     cases n with
     |zero=>simp[chkBs]at h2
     |succ n=>simp[chkBs]at h2
   |cons y ys=>
    cases es with
    |nil=>
     cases n with
     |zero=>simp[chkBs]at h2
     |succ n=>simp[chkBs]at h2
    |cons e' es'=>
     obtain⟨b1,b2⟩:=S.bs W T X (y::ys) (.cons e' es') pos v h2 (by simp)
     exact⟨SW.ref (R4 he b1) (Rt e e' es'),SW.ref (Si he b2) (Rs e e' es')⟩
theorem YB(S:Snd Γ CL k n){x:Ap}{ops:Ad D4}{b:BI}(v:VX Γ CL k W T X)(h:Tz T (Bj n) x ops ys b as=Ab):SB X CL W (.Compare x ops ys pos) (fun ρ=>(top ρ (.bi b as) (evE Γ ρ (.bi b as))).bind BL):=by
 exact absurd (show Ac=Ab from h) At
theorem gG(S:Snd Γ CL k n)(W:XW)(T:Tc)(X:Cx)(x:Ap)(c:E)(v:VX Γ CL k W T X)(h:IP (n+1) T x c=Ab):SB X CL W x (fun ρ=>(top ρ c (evE Γ ρ c)).bind BL):=by
 have plain:∀ e,JT e=Ab->Bj n T e c=Ab->SB X CL W e (fun ρ=>(top ρ c (evE Γ ρ c)).bind BL):=fun e h1 h2=>RA (S.e W T X e c v h2).st (QY h1)
 simp only[IP]at h;split at h
 ·split at h
  ·rename_i a;refine SB.ref (RB (S.b W T X _ a v h)) fun ρ=>?_
   show ((top ρ a (evE Γ ρ a)).bind fun x=>(Dk x).bind fun b=>.ok (.bl (!b))).bind BL=.bad\/((top ρ a (evE Γ ρ a)).bind fun x=>(Dk x).bind fun b=>.ok (.bl (!b))).bind BL=_
   cases top ρ a (evE Γ ρ a) with
   |bad=>exact .inl rfl
   |exn x=>exact .inr rfl
   |ok d=>cases d<;>first|exact .inr rfl|exact .inl rfl
  ·cases h
 ·split at h
  ·simp only[Ak,Bo,Cz]at h;exact(S.bs W T X _ _ _ v h.1 h.2).1.sb
  ·cases h
 ·split at h
  ·simp only[Ak,Bo,Cz]at h;exact(S.bs W T X _ _ _ v h.1 h.2).2.sb
  ·cases h
 ·split at h
  ·split at h
   ·rename_i op a b _ _ op' y;simp only[Ak,Bo,AG]at h;obtain⟨⟨⟨rfl,h1⟩,h2⟩,h3⟩:=h;refine SB.ref (aD (JW v.room.units _) (S.e W T X _ a v h2).st (S.e W T X _ b v h3).st h1) fun ρ=>?_
    show ((top ρ a (evE Γ ρ a)).bind fun x=>(top ρ b (evE Γ ρ b)).bind fun y=>BU op' x y).bind BL=.bad\/((top ρ a (evE Γ ρ a)).bind fun x=>(top ρ b (evE Γ ρ b)).bind fun y=>BU op' x y).bind BL=_
    cases top ρ a (evE Γ ρ a) with
    |bad=>exact .inl rfl
    |exn x=>exact .inr rfl
    |ok d=>
     cases top ρ b (evE Γ ρ b) with
     |bad=>exact .inl rfl
     |exn x=>exact .inr rfl
     |ok d'=>
      dsimp only[R.bind];exact Rg _ d d'
   ·cases h
  ·split at h
   ·rename_i op1 op2 a b c _ _ o1 o2 y z;simp only[Ak,Bo,AG]at h;obtain⟨⟨⟨⟨⟨rfl,rfl⟩,h1⟩,h2⟩,h3⟩,h4⟩:=h;refine SB.ref (WZ v.room.units (S.e W T X _ a v h2).st (S.e W T X _ b v h3).st (S.e W T X _ c v h4).st h1) fun ρ=>?_
    show ((top ρ a (evE Γ ρ a)).bind fun x=>(top ρ b (evE Γ ρ b)).bind fun y=>(BU o1 x y).bind fun z=>(Dk z).bind fun k=>if k=Ab then (top ρ c (evE Γ ρ c)).bind fun u=>BU o2 y u else .ok (.bl Ac)).bind BL=.bad\/((top ρ a (evE Γ ρ a)).bind fun x=>(top ρ b (evE Γ ρ b)).bind fun y=>(BU o1 x y).bind fun z=>(Dk z).bind fun k=>if k=Ab then (top ρ c (evE Γ ρ c)).bind fun u=>BU o2 y u else .ok (.bl Ac)).bind BL=_
    cases top ρ a (evE Γ ρ a) with
    |bad=>exact .inl rfl
    |exn x=>exact .inr rfl
    |ok d=>
     cases top ρ b (evE Γ ρ b) with
     |bad=>exact .inl rfl
     |exn x=>exact .inr rfl
     |ok d'=>
      dsimp only[R.bind];cases BU o1 d d' with
      |bad=>exact .inl rfl
      |exn x=>exact .inr rfl
      |ok d3=>
       cases d3 with
       |bl k=>
        cases k with
        |false=>exact .inr rfl
        |true=>
         dsimp only[R.bind,Dk];rw[Aw rfl,Aw rfl];cases top ρ c (evE Γ ρ c) with
         |bad=>exact .inl rfl
         |exn x=>exact .inr rfl
         |ok d4=>exact Rg _ d' d4
       |_=>exact .inl rfl
   ·cases h
  ·exact YB S v h
  ·cases h
 ·simp only[Ak]at h;exact plain _ h.1 h.2
end
section
variable{Γ:Gam}{CL:ClA}{W:XW}{k n:Ag}{T:Tc}{X:Cx}
theorem kM{b:BI}{x:Ap}(v:VX Γ CL k W T X)(hb:Om b=Aa g)(hg:isB T g=Ab)(hs:SAT X CL W (x::xs) (fun ρ=>evB Γ ρ as))(h0:EL x=Ab)(hpl:∀ pos,(B8 pos (Az xs X.env)).any (·.1)=Ac):OkE Γ CL W X (.Call (.Name g p) (x::xs) [] pos) (.bi b as):=by
 obtain⟨g1,g2,g3,g4⟩:=G4 v hg;cases b<;>simp only[Om]at hb<;>cases hb
 ·exact Ew (J9 fB g1 g2 PySem.boot_len hs g3 g4 (DJ h0) hpl) (fun _ _=>rfl) rfl rfl
 ·exact Ew (J9 (fA v.calm) g1 g2 PyProof.Rows.boot_max hs g3 g4 (DJ h0) hpl) (fun _ _=>rfl) rfl rfl
 ·exact Ew (J9 (eZ v.calm) g1 g2 PyProof.Rows.boot_min hs g3 g4 (DJ h0) hpl) (fun _ _=>rfl) rfl rfl
 ·exact N6 (aP ZV g1 g2 UL hs g3 g4 (DJ h0) hpl) (fun _ _=>rfl) rfl
 ·exact Ew (aC XI g1 g2 UM hs g3 g4 (DJ h0) hpl) (fun _ _=>rfl) rfl rfl
 ·exact Ew (J9 (fD v.calm) g1 g2 PyProof.Rows.boot_all hs g3 g4 (DJ h0) hpl) (fun _ _=>rfl) rfl rfl
 ·exact Ew (J9 (fC v.calm) g1 g2 PyProof.Rows.boot_any hs g3 g4 (DJ h0) hpl) (fun _ _=>rfl) rfl rfl
 ·exact Ew (J9 (eY v.calm) g1 g2 PyProof.Rows.boot_sum hs g3 g4 (DJ h0) hpl) (fun _ _=>rfl) rfl rfl
theorem Lc{l:Ad (Ah×Ag)}(h:inX l g c=Ab):(g,c)∈l:=by
 unfold inX at h;simp only[Er,Ak,AW]at h;obtain⟨p,hp,rfl,rfl⟩:=h;exact hp
theorem JR{x:Ap}{es:Es}(h:chkEs n T (x::xs) es=Ab):EL x=Ab/\∃ e es',es=.cons e es'/\∃ m,n=m+1/\chkEs m T xs es'=Ab:=by
 cases n with
 |zero=>simp[chkEs]at h
 |succ m=>
  cases es with
  |nil=>simp[chkEs]at h
  |cons e es=>
   simp only[chkEs,Ak]at h;exact⟨h.1.1,e,es,rfl,m,rfl,h.2⟩
theorem KO:∀(m:Ag)(xs:Ad Ap)(es:Es),chkEs m T xs es=Ab->∀ pos,(B8 pos (Az xs X.env)).any (·.1)=Ac:=by
 intro m
 induction m with
 |zero=>intro xs es h;simp[chkEs]at h
 |succ m ih=>
  intro xs es h pos;cases xs with
  |nil=>rfl
  |cons x xs=>
   obtain⟨h0,e,es',rfl,m',e1,h1⟩:=JR h;cases e1;exact OW h0 (ih xs es' h1 pos)
theorem aF(S:Snd Γ CL k n){x:Ap}{b:BI}(v:VX Γ CL k W T X)(h:(match OK as with|some a=>(match Tg x with|some y=>decide (b=.rvs)&&Bj n T y a|none=>Ac)|none=>Ac)=Ab):OkE Γ CL W X x (.bi b as):=by
 simp[OK]at h
theorem bS(S:Snd Γ CL k n){x:Ap}{b:BI}(v:VX Γ CL k W T X)(h:(match Oq as with|some (a,c)=>(match TZ x with|some (y,z,_)=>decide (b=.tlt) && !behindInMarks .Lt z&&Bj n T y a&&Bj n T z c|none=>Ac)|none=>Ac)=Ab):OkE Γ CL W X x (.bi b as):=by
 simp[Oq]at h
theorem eN{x:Ap}{b:BI}(v:VX Γ CL k W T X)(h:TU T x b as=Ab):OkE Γ CL W X x (.bi b as):=by
 exact absurd h At
theorem aH(S:Snd Γ CL k n){x:Ap}{b:BI}(v:VX Γ CL k W T X)(h:(match Os as with|some (a,k)=>(match Te x with|some (y,j)=>decide (b=.stp)&&decide (j=k)&&decide (0<=k)&&Bj n T y a|none=>Ac)|none=>Ac)=Ab):OkE Γ CL W X x (.bi b as):=by
 simp[Os]at h
theorem cX(S:Snd Γ CL k n){x:Ap}{b:BI}(v:VX Γ CL k W T X)(h:(match Ow as with|some (a,c)=>(match Td x with|some (g,h,y,z)=>decide (b=.list)&&g==("list" : Ah)&&h==("range" : Ah)&&isB T g&&isB T h&&EL y&&EL z&&Bj n T y a&&Bj n T z c|none=>Ac)|none=>Ac)=Ab):OkE Γ CL W X x (.bi b as):=by
 simp[Ow]at h
theorem YX(S:Snd Γ CL k n){x:Ap}{b:BI}(v:VX Γ CL k W T X)(h:(match Ot as with|some a=>(match Tb x with|some (g,h,y)=>decide (b=.lset)&&g==("len" : Ah)&&h==("set" : Ah)&&isB T g&&isB T h&&EL y&&Bj n T y a|none=>Ac)|none=>Ac)=Ab):OkE Γ CL W X x (.bi b as):=by
 simp[Ot]at h
theorem gE(S:Snd Γ CL k n)(W:XW)(T:Tc)(X:Cx)(x:Ap)(c:E)(v:VX Γ CL k W T X)(h:Bj (n+1) T x c=Ab):OkE Γ CL W X x c:=by
 cases c with
 |non=>
  unfold Bj at h;dsimp only at h;split at h
  ·exact Ew aW (fun _ _=>rfl) rfl rfl
  ·cases h
 |bl b=>
  unfold Bj at h;dsimp only at h;split at h
  ·have e:=eq_of_beq h;subst e;exact Ew Sg (fun _ _=>rfl) rfl rfl
  ·cases h
 |int i=>
  unfold Bj at h;dsimp only at h;split at h
  ·have e:=Ec h;subst e;exact Ew Z8 (fun _ _=>rfl) rfl rfl
  ·cases h
 |str i=>
  unfold Bj at h;dsimp only at h;split at h
  ·have e:=Ec h;subst e;exact Ew R9 (fun _ _=>rfl) rfl rfl
  ·cases h
 |var i=>
  unfold Bj at h;dsimp only at h;split at h
  ·exact⟨R8 (L8 v h),J8 (L8 v h),fun z=>(nomatch z),fun z=>(nomatch z)⟩
  ·cases h
 |glob g=>exact absurd (show Ac=Ab from h) At
 |bin op a b=>
  unfold Bj at h;dsimp only at h;split at h
  ·simp only[Ak,AG]at h;obtain⟨⟨rfl,h1⟩,h2⟩:=h;have ha:=(S.e W T X _ a v h1).st;have hb:=(S.e W T X _ b v h2).st;refine⟨Sb (QC _) ha hb,(Sb (QC _) ha hb).st,fun z=>?_,fun z=>nomatch z⟩
   rename_i op' _ _;cases op'<;>first|exact aQ ha hb|cases z
  ·cases h
 |un op a=>exact absurd (show Ac=Ab from h) At
 |no a=>
  unfold Bj at h;dsimp only at h;split at h
  ·exact Ew (Sa (S.e W T X _ a v h).st) (fun _ _=>rfl) rfl rfl
  ·cases h
 |and es=>
  unfold Bj at h;dsimp only at h;split at h
  ·simp only[Ak,Bo,Cz]at h;exact Ew ((S.es W T X _ es v h.1).2.2.2.1 _ h.2).1 (fun _ _=>rfl) rfl rfl
  ·cases h
 |or es=>
  unfold Bj at h;dsimp only at h;split at h
  ·simp only[Ak,Bo,Cz]at h;exact Ew ((S.es W T X _ es v h.1).2.2.2.1 _ h.2).2 (fun _ _=>rfl) rfl rfl
  ·cases h
 |cmp op a b=>
  unfold Bj at h;dsimp only at h;split at h
  ·simp only[Ak,Bo,AG]at h;obtain⟨⟨⟨rfl,h1⟩,h2⟩,h3⟩:=h;exact Ew (aA (JW v.room.units _) (S.e W T X _ a v h2).st (S.e W T X _ b v h3).st h1) (fun _ _=>rfl) rfl rfl
  ·cases h
 |cmp2 op1 op2 a b c=>
  unfold Bj at h;dsimp only at h;split at h
  ·simp only[Ak,Bo,AG]at h;obtain⟨⟨⟨⟨⟨rfl,rfl⟩,h1⟩,h2⟩,h3⟩,h4⟩:=h;exact Ew (XF v.room.units (S.e W T X _ a v h2).st (S.e W T X _ b v h3).st (S.e W T X _ c v h4).st h1) (fun _ _=>rfl) rfl rfl
  ·cases h
 |ite c a b=>exact absurd (show Ac=Ab from h) At
 |call f as=>
  unfold Bj at h;dsimp only at h;split at h
  ·rename_i g pp y ys qq;simp only[Ak,Er,AW,AG]at h;obtain⟨⟨⟨⟨⟨p,hp,⟨rfl,rfl⟩,hl⟩,h900⟩,h1⟩,h2⟩,h3⟩:=h;obtain⟨fa,fd,ps,m1,m2,m3,m4,m5,_⟩:=v.fn p hp;have hlt:p.2.2<1000:=by omega
   rw[GW hlt]at m4 m5;have m5:=m5 hlt;obtain⟨n2,n3,n4⟩:=G5 h2;obtain⟨a1,a2,a3,a4,a5⟩:=S.es W T X _ as v h3;obtain⟨s0,e,es',rfl,m,rfl,s1⟩:=JR h3;have q:SC X CL W (Γ.fr p.2.1) (.Call (.Name p.1 pp) (y::ys) [] qq) (fun ρ=>evE Γ ρ (.call p.2.1 (.cons e es'))):=Yk (sh:=fun ρ=>Hc ρ (.cons e es')) m5 v.room (by unfold glB at h1;show X.env.scope.names.lookup p.1=_;rw[v.sc];exact eq_of_beq h1) m1 m2 m3 v.px a1 a2 (fun ρ z=>Le Γ ρ _ z) (fun ρ ds z=>by rw[K1 Γ ρ _ _ z,<-a3,hl];rfl) n2 (DJ s0) (KO m ys es' s1)
   exact⟨q.se,q.se.st,fun z=>by
    have z':Γ.fr p.2.1=Ab:=z;rw[z']at q;exact q,fun z=>nomatch z⟩
  ·cases h
 |bi b as=>
  unfold Bj at h;dsimp only at h;simp only[Cd]at h;rcases h with (((((h|h)|h)|h)|h)|h)|h
  ·split at h
   ·simp only[Ak,AW]at h;obtain⟨⟨h1,h2⟩,h3⟩:=h;obtain⟨s0,e,es',rfl,m,rfl,s1⟩:=JR h3;exact kM v h1 h2 (S.es W T X _ _ v h3).2.1 s0 (KO m _ es' s1)
   ·cases h
  ·exact eN v h
  ·exact cX S v h
  ·exact aH S v h
  ·exact YX S v h
  ·exact bS S v h
  ·exact aF S v h
 |isi a ks=>
  cases ks with
  |nil=>exact absurd (show Ac=Ab from h) At
  |cons k' ks=>
   cases ks with
   |cons=>exact absurd (show Ac=Ab from h) At
   |nil=>
    unfold Bj at h;dsimp only at h;split at h
    ·simp only[Ak,AW]at h;obtain⟨⟨⟨⟨⟨rfl,h1⟩,h2⟩,h3⟩,h4⟩,h5⟩:=h;obtain⟨g1,g2,_,_⟩:=G4 v h1;obtain⟨b1,b2,b3,b4⟩:=G4 v h3;obtain⟨ty,t1,t2⟩:=kZ h2;exact Ew (aZ t1 g1 g2 b1 b2 t2 b3 b4 (S.e W T X _ a v h5).st (DJ h4)) (fun _ _=>rfl) rfl rfl
    ·cases h
 |idx a i=>
  unfold Bj at h;dsimp only at h;split at h
  ·simp only[Ak]at h;obtain⟨⟨h1,h2⟩,h3⟩:=h;exact Ew (Z9 (XD h1) (S.e W T X _ a v h2).st (S.e W T X _ i v h3).st) (fun _ _=>rfl) rfl rfl
  ·cases h
 |sl a lo hi=>
  unfold Bj at h;dsimp only at h;split at h
  ·simp only[Ak]at h;obtain⟨⟨h1,h2⟩,h3⟩:=h;refine N6 (SC.congr (iX (S.e W T X _ a v h1).st (S.o W T X _ lo v h2) (S.o W T X _ hi v h3)) fun ρ=>?_) (fun _ _=>rfl) rfl
   show ((top ρ a (evE Γ ρ a)).bind fun x=>(top ρ lo (evE Γ ρ lo)).bind fun l=>(slE lo l).bind fun l'=>(top ρ hi (evE Γ ρ hi)).bind fun h=>(slE hi h).bind fun h'=>slD x l' h')=_
   simp only[R.bind_assoc]
  ·cases h
 |tup es=>
  unfold Bj at h;dsimp only at h;split at h
  ·simp only[Ak,AG]at h;have q:=S.es W T X _ es v h.1;exact Ew (aV q.1 fun ρ ds z=>by rw[LX Γ ρ _ _ z,<-q.2.2.1];omega) (fun _ _=>rfl) rfl rfl
  ·cases h
 |lst es=>
  unfold Bj at h;dsimp only at h;split at h
  ·simp only[Ak,AG]at h;have q:=S.es W T X _ es v h.1;exact N6 (aO q.1 fun ρ ds z=>by rw[LX Γ ρ _ _ z,<-q.2.2.1];omega) (fun _ _=>rfl) rfl
  ·cases h
 |comp elt t it c=>
  unfold Bj at h;dsimp only at h;split at h
  ·simp only[Ak]at h;obtain⟨⟨⟨⟨⟨h1,h2⟩,h3⟩,h4⟩,h5⟩,h6⟩:=h;refine Sy v.calm ⟨_,_,_,_,_,_,_,_,_,_,_,_,_,rfl,(NX v h3).1,S.i W T X Ac _ _ it v rfl h1,YI t,fun cl C s H fp=>YC (v.blk h3) (fun z=>AW.mpr z) h4,fun cl C s H fp=>S.t _ _ _ c (v.blk h3) h5,fun cl C s H fp=>(S.e W0 _ _ _ elt (v.blk h3) h6).se,Md h2,fun ρ=>rfl⟩ (fun _ _=>rfl)
  ·cases h
 |compT elt ts it c=>
  unfold Bj at h;dsimp only at h;split at h
  ·simp only[Ak]at h;obtain⟨⟨⟨⟨⟨⟨h0,h1⟩,h2⟩,h3⟩,h4⟩,h5⟩,h6⟩:=h;refine Sy v.calm ⟨_,_,_,_,_,_,_,_,_,_,_,_,_,rfl,(NX v h3).1,S.i W T X Ab _ _ it v rfl h1,fJ ts,fun cl C s H fp=>YF (v.blk h3) h0 h4,fun cl C s H fp=>S.t _ _ _ c (v.blk h3) h5,fun cl C s H fp=>(S.e W0 _ _ _ elt (v.blk h3) h6).se,Md h2,fun ρ=>rfl⟩ (fun _ _=>rfl)
  ·cases h
 |tupI it=>exact absurd (show Ac=Ab from h) At
 |dnew=>exact absurd (show Ac=Ab from h) At
 |fld o f=>exact absurd (show Ac=Ab from h) At
theorem snd:∀ n,Snd Γ CL k n
 |0=>XC
 |n+1=>⟨gE (snd n),gG (snd n),aK (snd n),aJ (snd n),gA (snd n),fY (snd n),gB (snd n)⟩
end
section
variable{Γ:Gam}{CL:ClA}{W:XW}{k n:Ag}{T:Tc}{X:Cx}
theorem YE{t:Ag}(v:VX Γ CL k W T X)(hf:∀ x,X.fn x=Ab)(h:tgC T [t] [x]=Ab):PG X (.Name x pos) (EN t):=by
 unfold tgC at h;simp only[Ak,AW]at h;exact K7 (by rw[v.N];exact v.nd) (by rw[v.N];exact h.1.1) (by rw[v.sc];exact K8 h.1.2) (.inl (hf x))
theorem QX(v:VX Γ CL k W T X)(hf:∀ x,X.fn x=Ab):∀(ys:Ad Ap)(ts:Ad Ag)(zs:Ad Ah),EM ys=Aa zs->tgC T ts zs=Ab->PGs X ys (ts.foldr (fun t u=>G7 (EN t) u) He)/\ts.length=ys.length:=by
 intro ys
 induction ys with
 |nil=>
  intro ts zs e h;cases e;cases ts with
  |nil=>exact⟨Qy,rfl⟩
  |cons t ts=>cases h
 |cons y r ih=>
  intro ts zs e h;obtain⟨x,p,ws,rfl,e2,rfl⟩:=MK e;cases ts with
  |nil=>cases h
  |cons t ts=>
   have h':(T.N[t]? == Aa x&&IQ T x&&tgC T ts ws)=Ab:=h;simp only[Ak,AW]at h';obtain⟨h1,h2⟩:=ih ts ws e2 h'.2;exact⟨Qr (K7 (by rw[v.N];exact v.nd) (by rw[v.N];exact h'.1.1) (by rw[v.sc];exact K8 h'.1.2) (.inl (hf x))) h1 (by rw[M1];rfl),congrArg (· + 1) h2⟩
theorem YD(v:VX Γ CL k W T X)(hf:∀ x,X.fn x=Ab)(hn:(EM ys).isSome=Ab)(h:tgC T ts (tgN ys)=Ab):PG X (.Tuple ys kk pos) (Kl X.K ts.length (ts.foldr (fun t u=>G7 (EN t) u) He)):=by
 cases e:EM ys with
 |none=>rw[e]at hn;cases hn
 |some zs=>
  have e2:tgN ys=zs:=by unfold tgN;rw[e];rfl
  rw[e2]at h;obtain⟨h1,h2⟩:=QX v hf ys ts zs e h;obtain⟨h3,h4,_⟩:=MJ (env:=X.env) ys zs e;exact NL v.calm h1 (by rw[h3,h2]) h4
theorem bT(v:VX Γ CL k W T X)(hf:∀ x,X.fn x=Ab)(hn:(EM ys).isSome=Ab)(h:tgC T ts (tgN ys)=Ab):PG X (.Tuple ys kk pos) (gSq X.K ts.length (ts.foldr (fun t u=>G7 (EN t) u) He)):=by
 cases e:EM ys with
 |none=>rw[e]at hn;cases hn
 |some zs=>
  have e2:tgN ys=zs:=by unfold tgN;rw[e];rfl
  rw[e2]at h;obtain⟨h1,h2⟩:=QX v hf ys ts zs e h;obtain⟨h3,h4,_⟩:=MJ (env:=X.env) ys zs e;exact kB v.calm h1 (by rw[h3,h2]) h4
theorem bQ{e:Ap}(h:(Sz e||C5 4 ys.length)=Ab):FH [.Tuple ys kk pos] e env=pure Ae:=by
 cases e with
 |Tuple vs a b=>
  have h4:=Ef (show C5 4 ys.length=Ab from h)
  have e2:(ys.length==2)=Ac:=by rw[Dm];omega
  have e3:(ys.length==3)=Ac:=by rw[Dm];omega
  unfold FH;dsimp only;rw[e2,e3];rfl
 |_=>rfl
theorem Pu(ts:Ad Ag):∀ d ρ x,Gj ts d ρ≠.exn x:=fun d ρ x h=>by
 unfold Gj at h;cases d with
 |tup xs=>
  dsimp only at h;cases e:Ev ts xs ρ with
  |some r=>rw[e]at h;cases h
  |none=>rw[e]at h;cases h
 |_=>cases h
theorem Wr(ts:Ad Ag):∀ d ρ x,Hx ts d ρ≠.exn x:=fun d ρ x h=>by
 unfold Hx at h;split at h
 ·split at h<;>cases h
 ·exact Pu ts _ ρ x h
theorem Xz{elt:Ap}{gs:Ad Comprehension}:∃ b,Dh (.ListComp elt gs scope pos) (Aa (.Name x pos')) l env=pure b/\(b=Ab->env.scope.names.lookup x=Aa .local):=by
 refine⟨_,rfl,fun h=>?_⟩
 simp only[Ak,AW]at h;exact h.1.1.2
theorem NO{v0:Ap}{i:Ag}{e:E}(v:VX Γ CL k W T X)(hf:∀ x,X.fn x=Ab)(hi:T.N[i]?=Aa x)(hl:IQ T x=Ab)(o:OkE Γ CL W X v0 e)(hfr:fr=Ab->D0 Γ e=Ab):SAs X CL W fr i (.Assign [.Name x p] v0 pos) (fun ρ=>evE Γ ρ e):=by
 have hN:X.N.Nodup:=by rw[v.N];exact v.nd
 have hi':X.N[i]?=Aa x:=by rw[v.N];exact hi
 have hx:Loc X.env.scope x:=by rw[v.sc];exact K8 hl
 have sc:SC X CL W fr v0 (fun ρ=>evE Γ ρ e):=by
  cases fr with
  |false=>exact o.se.sc
  |true=>exact o.nw (hfr rfl)
 cases hc:Jp v0 with
 |true=>exact SC.sas hN hi' hx sc (K2 hc) (.inl (hf x))
 |false=>
  obtain⟨tg,iter,elt,ifs,scope,pos2,N',ts,fi,fc,fe,as,g,rfl,B,h2,hGG,hg,ht,he,hs,ef⟩:=o.cp hc;obtain⟨b,hb,hb'⟩:=Xz (elt:=elt) (gs:=[⟨tg,iter,ifs,0⟩]) (scope:=scope) (pos:=pos2) (pos':=p) (x:=x) (l:=pos.line) (env:=X.env);cases b with
  |false=>exact SC.sas hN hi' hx sc hb (.inl (hf x))
  |true=>
   have q:=W1 (pos2:=pos) v.calm B h2 hGG hg ht he hs hN hi' (hb' rfl) hb;have q':SAs X CL W Ab i (.Assign [.Name x p] (.ListComp elt [⟨tg,iter,ifs,0⟩] scope pos2) pos) (fun ρ=>evE Γ ρ e):=by
    have:(fun ρ=>evE Γ ρ e)=_:=funext ef
    rw[this];exact q
   cases fr with
   |true=>exact q'
   | false=>exact fun A=>PS.weak (q' A) fun D σ H ⟨hA,ρ,gd,z⟩=>⟨hA,ρ,gd,by
     dsimp only at z ⊢;cases e0:evE Γ ρ e with
     |ok d=>
      rw[e0]at z;exact fun v' H' s' r'=>z v' H' s' ⟨r'.1,fun _=>r'.2 rfl⟩
     |exn y=>rw[e0]at z;exact z
     | bad=>rw[e0]at z;exact z⟩
theorem QH{e t:Ap}(h:∀ x p,t≠.Name x p):Gy [t] e l env=pure Ac:=by
 show Dh e (Aa t) l env=pure Ac;cases e<;>first|rfl|(cases t<;>first|rfl|exact absurd rfl (h _ _))
theorem PJ(ρ:Rho)(e:E)(h:∀ i,e≠.var i):evS Γ ρ (.ret e)=O.of ρ (evE Γ ρ e) fun d=>.ret d (D0 Γ e):=by
 cases e<;>first|exact absurd rfl (h _)|(simp only[evS,top,T7])
structure DefX (X:Cx):Prop where
 fn:∀ x,X.fn x=Ab
 ex:X.ex=[]
 st:X.stack=X.env::X.outer
 fm:X.env.frame=Aa X.env.locals
structure SndS (Γ:Gam) (CL:ClA) (k:Ag) (n:Ag):Prop where
 s:∀(W:XW)(T:Tc)(X:Cx)(x:A9)(c:S),VX Γ CL k W T X->DefX X->FS n T x c=Ab->SS X CL W x (fun ρ=>evS Γ ρ c)
 ss:∀(W:XW)(T:Tc)(X:Cx)(x:Ad A9)(c:Ss),VX Γ CL k W T X->DefX X->chkSs n T x c=Ab->SSs X CL W x (fun ρ=>evSs Γ ρ c)
theorem LO(Γ:Gam)(ρ:Rho)(e:E)(h:Mq e=Ab)(y:Ex):top ρ e (evE Γ ρ e)≠.exn y:=by
 cases e with
 |var i=>
  intro z;have z':En ρ i=.exn y:=z;unfold En at z';split at z'<;>cases z'
 |int i=>intro z;cases z
 |bl i=>intro z;cases z
 |str i=>intro z;cases z
 |non=>intro z;cases z
 |_=>cases h
theorem M8(Γ:Gam)(ρ:Rho):∀(es:Es),Kj es=Ab->∀ y,evB Γ ρ es≠.exn y
 |.nil,_,y=>fun z=>by cases z
 |.cons e es,h,y=>fun z=>by
  unfold Kj at h;rw[Ak]at h;rw[Nk]at z;cases e1:top ρ e (evE Γ ρ e) with
  |bad=>rw[e1]at z;cases z
  |exn w=>exact LO Γ ρ e h.1 w e1
  |ok d=>
   rw[e1,R.bind_ok]at z;cases e2:evB Γ ρ es with
   |bad=>rw[e2]at z;cases z
   |exn w=>exact M8 Γ ρ es h.2 w e2
   |ok ds=>rw[e2]at z;cases z
theorem VX.pw(v:VX Γ CL k W T X)(own:E4 (model X.prog X.w) X.A X.env Xw):VX Γ CL k W0 T (Cx.pw X pI Xw):=⟨v.sc,v.kd,v.N,v.nd,v.calm,v.room,v.bl,v.fn,own,NM,OE,v.xt,v.gl⟩
theorem Pa(o:O):(o.seq fun ρ'=>O.next ρ')=o:=by cases o<;>rfl
theorem STB.congr{st:Ad A9}{f g:Rho->O}(h:STB X CL st f)(e:∀ ρ,g ρ=f ρ):STB X CL st g:=by
 have:g=f:=funext e;rw[this];exact h
theorem RZ(Sn:Snd Γ CL k n)(v:VX Γ CL k W T X)(hf:DefX X){st:A9}{s:S}(h:Ma n T st s=Ab):STB X CL [st] (fun ρ=>evSs Γ ρ (.cons s .nil))/\∀ ρ y ρ',evSs Γ ρ (.cons s .nil)=.exn y ρ'->ρ'=ρ:=by
 have seq:∀ ρ,evSs Γ ρ (.cons s .nil)=evS Γ ρ s:=fun ρ=>Pa _
 have ofn:∀{r:R D}{f:D->Rho}{ρ ρ':Rho}{y:Ex},(O.of ρ r fun d=>O.next (f d))=.exn y ρ'->ρ'=ρ:=fun {r f ρ ρ' y} z=>by
  cases r with
  |ok d=>cases z
  |exn w=>cases z;rfl
  |bad=>cases z
 have call:∀{e:Ap}{f:Ag}{as:Es},Bj n T e (.call f as)=Ab->Kj as=Ab->∃ g pp y ys qq,e=.Call (.Name g pp) (y::ys) [] qq/\∃ p∈T.fns,g=p.1/\f=p.2.1/\p.2.2=ys.length+1/\ys.length<900/\glB T g=Ab/\Hh g=Ab/\∃ m,n=m+1/\chkEs m T (y::ys) as=Ab:=fun {e f as} h _=>by
  cases n with
  |zero=>exact absurd (show Ac=Ab from h) At
  |succ m=>
   unfold Bj at h;dsimp only at h;split at h
   ·rename_i g pp y ys qq;simp only[Ak,Er,AW,AG]at h;obtain⟨⟨⟨⟨⟨p,hp,⟨e1,e2⟩,hl⟩,h900⟩,h1⟩,h2⟩,h3⟩:=h;exact⟨g,pp,y,ys,qq,rfl,p,hp,e1.symm,e2.symm,hl,h900,h1,h2,m,rfl,h3⟩
   ·cases h
 unfold Ma at h;split at h
 ·split at h
  ·rename_i f as v0 pos;rw[Ak]at h;obtain⟨g,pp,y,ys,qq,rfl,p,hp,rfl,rfl,hl,h900,h1,h2,m,rfl,h3⟩:=call h.1 h.2;obtain⟨fa,fd,ps,m1,m2,m3,m4,m5,_⟩:=v.fn p hp;have hlt:p.2.2<1000:=by omega
   rw[GW hlt]at m4 m5;have m5:=m5 hlt;obtain⟨n2,n3,n4⟩:=G5 h2;obtain⟨s0,e,es',rfl,m',rfl,s1⟩:=JR h3;have hlen:ys.length+1=(Es.cons e es').len:=(snd (Γ:=Γ) (CL:=CL) (k:=k) (m'+1)).es W T X _ _ v h3 |>.2.2.1;refine⟨STB.congr (XA (X:=X) (fs:=fun ρ=>evA Γ ρ (.cons e es')) (sh:=fun ρ=>Hc ρ (.cons e es')) hf.ex m5 v.room (by unfold glB at h1;show X.env.scope.names.lookup p.1=_;rw[v.sc];exact eq_of_beq h1) m1 m2 m3 (fun ρ z=>Le Γ ρ _ z) (fun ρ ds z=>by rw[K1 Γ ρ _ _ z,<-hlen,hl]) (fun ρ=>M8 Γ ρ _ h.2) n2 (DJ s0) (KO m' ys es' s1) (fun pI Xw own=>by
    obtain⟨a1,a2,_⟩:=(snd (Γ:=Γ) (CL:=CL) (k:=k) (m'+1)).es W0 T (Cx.pw X pI Xw) _ _ (v.pw own) h3;exact⟨a1,a2⟩) (K2 rfl)) fun ρ=>seq ρ,fun ρ y ρ' z=>?_⟩
   rw[seq]at z;exact ofn (f:=fun _=>ρ) z
  ·cases h
 ·split at h
  ·skip
   rename_i i f as st0 y0 p0 v0 pos;simp only[Ak,AW]at h;obtain⟨⟨⟨i1,i2⟩,hc⟩,hsim⟩:=h;obtain⟨g,pp,y,ys,qq,rfl,p,hp,rfl,rfl,hl,h900,h1,h2,m,rfl,h3⟩:=call hc hsim;obtain⟨fa,fd,ps,m1,m2,m3,m4,m5,_⟩:=v.fn p hp;have hlt:p.2.2<1000:=by omega
   rw[GW hlt]at m4 m5;have m5:=m5 hlt;obtain⟨n2,n3,n4⟩:=G5 h2;obtain⟨s0,e,es',rfl,m',rfl,s1⟩:=JR h3;have hlen:ys.length+1=(Es.cons e es').len:=(snd (Γ:=Γ) (CL:=CL) (k:=k) (m'+1)).es W T X _ _ v h3 |>.2.2.1;refine⟨STB.congr (X2 (X:=X) (fs:=fun ρ=>evA Γ ρ (.cons e es')) (sh:=fun ρ=>Hc ρ (.cons e es')) (i:=i) hf.ex m5 v.room (by unfold glB at h1;show X.env.scope.names.lookup p.1=_;rw[v.sc];exact eq_of_beq h1) m1 m2 m3 (fun ρ z=>Le Γ ρ _ z) (fun ρ ds z=>by rw[K1 Γ ρ _ _ z,<-hlen,hl]) (fun ρ=>M8 Γ ρ _ hsim) n2 (DJ s0) (KO m' ys es' s1) (fun pI Xw own=>by
    obtain⟨a1,a2,_⟩:=(snd (Γ:=Γ) (CL:=CL) (k:=k) (m'+1)).es W0 T (Cx.pw X pI Xw) _ _ (v.pw own) h3;exact⟨a1,a2⟩) (by rw[v.N];exact v.nd) (by rw[v.N];exact i1) (by rw[v.sc];exact K8 i2) (.inl (hf.fn _)) (K2 rfl)) fun ρ=>seq ρ,fun ρ y ρ' z=>?_⟩
   rw[seq]at z;exact ofn (f:=fun d=>ρ.set i (Aa (d,Ac))) z
  ·cases h
 ·cases h
theorem JY{c:Prop}[De c]{e:Ex}:(if c then R.ok d else .bad)≠.exn e:=by
 by_cases h:c
 ·rw[Aw h];intro z;cases z
 ·rw[AA h];intro z;cases z
theorem ZW(op:D4)(x y:D)(e:Ex):BU op x y≠.exn e:=by
 cases op with
 |Eq=>exact JY
 |NotEq=>exact JY
 |In=>
  cases y with
  |lst ys=>exact JY
  |tup ys=>exact JY
  |dic kvs=>
   intro z;have z':(match IR x with|some k=>R.ok (D.bl (kvs.any fun p=>p.1==k))|none=>.bad)=.exn e:=z
   cases h:IR x with
   |none=>rw[h]at z';cases z'
   |some k=>rw[h]at z';cases z'
  |_=>intro z;cases z
 |NotIn=>
  cases y with
  |lst ys=>exact JY
  |tup ys=>exact JY
  |_=>intro z;cases z
 |_=>cases x<;>first|(intro z;cases z;done)|(cases y<;>(intro z;cases z))
theorem YA(x:D)(e:Ex):BL x≠.exn e:=by
 unfold BL;split<;>first|(intro z;cases z;done)|(split<;>intro z<;>cases z)
theorem Qk(Γ:Gam)(ρ:Rho)(c:E)(h:OD c=Ab)(y:Ex):(top ρ c (evE Γ ρ c)).bind BL≠.exn y:=by
 have key:∀ e,top ρ c (evE Γ ρ c)≠.exn e:=by
  cases c with
  |var i=>exact LO Γ ρ (.var i) rfl
  |cmp op a b=>
   unfold OD at h;rw[Ak]at h;intro e z;have z':((top ρ a (evE Γ ρ a)).bind fun x=>(top ρ b (evE Γ ρ b)).bind fun y=>BU op x y)=.exn e:=by
    have e0:evE Γ ρ (.cmp op a b)=((top ρ a (evE Γ ρ a)).bind fun x=>(top ρ b (evE Γ ρ b)).bind fun y=>BU op x y):=ZM Γ ρ op a b
    rw[<-e0];exact z
   cases e1:top ρ a (evE Γ ρ a) with
   |bad=>rw[e1]at z';cases z'
   |exn w=>exact LO Γ ρ a h.1 w e1
   |ok d=>
    rw[e1,R.bind_ok]at z';cases e2:top ρ b (evE Γ ρ b) with
    |bad=>rw[e2]at z';cases z'
    |exn w=>exact LO Γ ρ b h.2 w e2
    |ok d2=>rw[e2,R.bind_ok]at z';exact ZW _ _ _ _ z'
  |_=>cases h
 intro z;cases e1:top ρ c (evE Γ ρ c) with
 |bad=>rw[e1]at z;cases z
 |exn w=>exact key w e1
 |ok d=>rw[e1,R.bind_ok]at z;exact YA _ _ z
theorem Su(Sn:Snd Γ CL k n)(v:VX Γ CL k W T X)(hf:DefX X):∀(m:Ag){st:A9}{s:S},Jw m n T st s=Ab->STB X CL [st] (fun ρ=>evSs Γ ρ (.cons s .nil))/\∀ ρ y ρ',evSs Γ ρ (.cons s .nil)=.exn y ρ'->ρ'=ρ:=by
 intro m
 induction m with
 |zero=>intro st s h;unfold Jw at h;exact RZ Sn v hf h
 |succ m ih=>
  intro st s h;unfold Jw at h;rw[Cd]at h;rcases h with h|h
  ·exact RZ Sn v hf h
  ·split at h
   ·split at h
    ·rename_i c a b st0 t xs ys pos;simp only[Ak]at h;obtain⟨⟨⟨h1,h2⟩,h3⟩,h4⟩:=h;obtain⟨a1,a2⟩:=ih h3;obtain⟨b1,b2⟩:=ih h4;have ev:∀ ρ,evSs Γ ρ (.cons (.ife c (.cons a .nil) (.cons b .nil)) .nil)=O.of ρ ((top ρ c (evE Γ ρ c)).bind BL) fun k=>if k=Ab then evSs Γ ρ (.cons a .nil) else evSs Γ ρ (.cons b .nil):=fun ρ=>Pa _
     refine⟨STB.congr (X1 (fun pI Xw own=>(Sn.b W0 T (Cx.pw X pI Xw) _ _ (v.pw own) h1)) (fun ρ y=>Qk Γ ρ c h2 y) a1 b1) fun ρ=>ev ρ,fun ρ y ρ' z=>?_⟩
     rw[ev]at z;cases e1:(top ρ c (evE Γ ρ c)).bind BL with
     |bad=>rw[e1]at z;cases z
     |exn w=>exact absurd e1 (Qk Γ ρ c h2 w)
     |ok k=>
      rw[e1,O.of_ok]at z;cases k with
      |true=>exact a2 ρ y ρ' z
      |false=>exact b2 ρ y ρ' z
    ·cases h
   ·cases h
theorem K9{i:Ag}{e:Aj}(v:VX Γ CL k W T X)(h:isV T x i=Ab):PE (Cx.hot X e) (.Name x pos) (Gm i):=by
 unfold isV at h;simp only[Ak,AW]at h;obtain⟨h2,h3,_⟩:=G5 h.2;exact Mi (by show X.N[i]?=_;rw[v.N];exact h.1.1) (by show Vis X.env.scope x;rw[v.sc];exact QU h.1.2) h2 h3
theorem RJ{x:Ag}{t:Ap}{c:E}:∀{n:Ag},Dx n T x t c=Ab->∀ ρ r,top ρ c r=r:=fun {n} h=>by
 cases n with
 |zero=>simp[Dx]at h
 |succ n=>
  cases c with
  |var i=>simp[Dx]at h
  |_=>exact fun _ _=>rfl
theorem XH(v:VX Γ CL k W T X)(e:Aj):∀(ts:Ad Ap)(ks:Ad Ki),IM T ts ks=Ab->∃ cs:Ad (Ag×Aj),ks=cs.map (fun q=>Ki.cls q.1)/\cs.length=ts.length/\PA (Cx.hot X e) ts (TC (cs.map fun q:Ag×Aj=>q.2))/\∀ q∈cs,Lg X.K CL Γ.up q.1 q.2:=by
 intro ts
 induction ts with
 |nil=>
  intro ks h;cases ks with
  |nil=>exact⟨[],rfl,rfl,Gz,fun q hq=>nomatch hq⟩
  |cons k ks=>simp[IM]at h
 |cons t ts ih=>
  intro ks h;cases t with
  |Name t p=>
   cases ks with
   |nil=>simp[IM]at h
   |cons kk ks=>
    cases kk with
    |cls c=>
     simp only[IM,Ak]at h;obtain⟨⟨⟨h1,h2⟩,h3⟩,h4⟩:=h;obtain⟨cs,e1,e2,e3,e4⟩:=ih ks h4;obtain⟨C,m1,m3,_⟩:=v.xt.ex _ (Lc h1);obtain⟨n2,_,_⟩:=G5 h3;refine⟨(c,C)::cs,by rw[e1];rfl,by rw[Br,Br,e2],?_,fun q hq=>?_⟩
     ·exact Eu (Qz (X:=Cx.hot X e) (v:=.ref C) (by unfold glB at h2;show X.env.scope.names.lookup t=_;rw[v.sc];exact eq_of_beq h2) m1 rfl n2) e3 rfl
     ·rcases AB.mp hq with rfl|hq
      ·exact m3
      ·exact e4 q hq
    |_=>simp[IM]at h
  |_=>simp[IM]at h
theorem On(v:VX Γ CL k W T X)(e:Aj)(x:Ag):∀(n:Ag)(t:Ap)(c:E),Dx n T x t c=Ab->SE (Cx.hot X e) CL W0 t (fun ρ=>evE Γ ρ c):=by
 intro n
 induction n with
 |zero=>intro t c h;simp[Dx]at h
 |succ n ih=>
  intro t c h;cases c with
  |bl b=>
   unfold Dx at h;dsimp only at h;split at h
   ·have e0:=eq_of_beq h;subst e0;exact Sg
   ·cases h
  |no a=>
   unfold Dx at h;dsimp only at h;split at h
   ·have q:=(ih _ _ h).st;refine SE.congr (Sa q) fun ρ=>?_
    show ((top ρ a (evE Γ ρ a)).bind fun x=>(Dk x).bind fun b=>R.ok (D.bl (!b)))=_
    rw[RJ h]
   ·cases h
  |and es=>
   cases es with
   |nil=>exact absurd (show Ac=Ab from h) At
   |cons a as=>
    cases as with
    |nil=>
     unfold Dx at h;dsimp only at h;split at h
     ·exact SE.congr (NN (ih _ _ h)) fun ρ=>rfl
     ·cases h
    |cons a' as=>
     unfold Dx at h;dsimp only at h;split at h
     ·rw[Ak]at h;exact SE.congr (Ry (ih _ _ h.1) (ih _ _ h.2)) fun ρ=>rfl
     ·cases h
  |isi a ks=>
   cases a with
   |var i=>
    cases ks with
    |nil=>exact absurd (show Ac=Ab from h) At
    |cons kk ks=>
     cases q:xC2 t with
     |none=>
      cases ks with
      |nil=>cases kk<;>first|exact absurd (show Ac=Ab from h) At|(unfold Dx at h;dsimp only at h;rw[q]at h;cases h)
      |cons k2 ks=>cases kk<;>first|exact absurd (show Ac=Ab from h) At|(unfold Dx at h;dsimp only at h;rw[q]at h;cases h)
     |some t0=>
      obtain⟨g,w,u⟩:=t0;obtain⟨pp,pq,pr,rfl⟩:=bE q;cases ks with
      |nil=>
       cases kk with
       |verr=>
        unfold Dx at h;dsimp only at h;rw[q]at h;dsimp only at h;cases q2:Fd u with
        |none=>rw[q2]at h;simp at h
        |some t1=>
         have eu:=GB q2;subst eu;rw[q2]at h;simp only[Ak,AW]at h;obtain⟨⟨⟨⟨rfl,rfl⟩,h3⟩,h4⟩,h5,h6⟩:=h;obtain⟨g1,g2,_,_⟩:=G4 v h3;obtain⟨b1,b2,_,_⟩:=G4 v h6;rw[h5]at b1 b2 ⊢;exact aX (X:=Cx.hot X e) v.xt.xc g1 g2 b1 b2 (J8 (K9 v h4)) rfl
       |cls c=>
        unfold Dx at h;dsimp only at h;rw[q]at h;dsimp only at h;cases q2:Fd u with
        |none=>rw[q2]at h;simp at h
        |some t1=>
         have eu:=GB q2;subst eu;rw[q2]at h;simp only[Ak,AW]at h;obtain⟨⟨⟨⟨rfl,rfl⟩,h3⟩,h4⟩,⟨h5,h6⟩,h7⟩:=h;obtain⟨g1,g2,_,_⟩:=G4 v h3;obtain⟨C,m1,m3,_⟩:=v.xt.ex _ (Lc h5);obtain⟨n2,_,_⟩:=G5 h7;exact bA (X:=Cx.hot X e) v.xt.xc g1 g2 (by unfold glB at h6;show X.env.scope.names.lookup _=_;rw[v.sc];exact eq_of_beq h6) m1 m3 n2 (J8 (K9 v h4)) rfl
       |_=>exact absurd (show Ac=Ab from h) At
      |cons k2 ks=>
       cases kk with
       |cls c=>
        unfold Dx at h;dsimp only at h;rw[q]at h;dsimp only at h;cases q2:Oz u with
        |none=>rw[q2]at h;simp at h
        |some ts=>
         obtain⟨z1,z2,rfl⟩:=Yt q2;rw[q2]at h;simp only[Ak,AW,AG]at h;obtain⟨⟨⟨⟨rfl,rfl⟩,h3⟩,h4⟩,h5,h6⟩:=h;obtain⟨g1,g2,_,_⟩:=G4 v h3;obtain⟨cs,e1,e2,e3,e4⟩:=XH v e _ _ h5;have hne:cs≠[]:=by rintro rfl;cases e1
         rw[e1];exact aY (X:=Cx.hot X e) (W:=W0) (up:=Γ.up) v.xt.xc g1 g2 e3 hne (by rw[e2];exact h6) e4 (J8 (K9 v h4)) rfl
       |_=>exact absurd (show Ac=Ab from h) At
   |_=>exact absurd (show Ac=Ab from h) At
  |call f as=>
   cases as with
   |nil=>exact absurd (show Ac=Ab from h) At
   |cons a as=>
    cases a with
    |var i=>
     cases as with
     |cons=>exact absurd (show Ac=Ab from h) At
     |nil=>
      unfold Dx at h;dsimp only at h;cases q:xC1 t with
      |none=>rw[q]at h;cases h
      |some t0=>
       obtain⟨g,w0⟩:=t0;obtain⟨p0,p1,p2,rfl⟩:=bF q;rw[q]at h;rw[Ak]at h;obtain⟨h1,h4⟩:=h;unfold TN at h1;simp only[Ak,Er,AW]at h1;obtain⟨⟨⟨p,hp,⟨rfl,rfl⟩,hl⟩,g1⟩,g2⟩:=h1;obtain⟨fa,fd,ps,m1,m2,m3,m4,_,m5⟩:=v.fn p hp;have m5:=m5 (by omega)
       obtain⟨n2,_,_⟩:=G5 g2;have hv:=K9 (e:=e) (pos:=p1) v h4;have a1:SA (Cx.hot X e) CL W0 [.Name w0 p1] (fun ρ=>evA Γ ρ (.cons (.var i) .nil)):=QN (R8 hv) RC rfl
       have a2:SAT (Cx.hot X e) CL W0 [.Name w0 p1] (fun ρ=>evB Γ ρ (.cons (.var i) .nil)):=Ql (J8 hv) QM rfl
       exact(WY (X:=X) (ev:=e) (sh:=fun ρ=>Hc ρ (.cons (.var i) .nil)) m5 v.room (by unfold glB at g1;show X.env.scope.names.lookup p.1=_;rw[v.sc];exact eq_of_beq g1) m1 m2 m3 a1 a2 (fun ρ z=>Le Γ ρ _ z) (fun ρ ds z=>by rw[K1 Γ ρ _ _ z,hl];rfl) n2 rfl (fun _=>rfl)).se
    |_=>exact absurd (show Ac=Ab from h) At
  |str s=>
   unfold Dx at h;dsimp only at h;split at h
   ·have e0:=eq_of_beq h;subst e0;exact R9
   ·cases h
  |fld o f=>
   cases o with
   |var i=>
    unfold Dx at h;dsimp only at h;split at h
    ·simp only[Ak,AW]at h;obtain⟨⟨⟨rfl,rfl⟩,h3⟩,h4⟩:=h;exact Yh (X:=Cx.hot X e) v.xt.xc (fun c C z=>v.xt.nf c C z _ h3) (J8 (K9 v h4)) rfl
    ·cases h
   |_=>exact absurd (show Ac=Ab from h) At
  |_=>exact absurd (show Ac=Ab from h) At
theorem Og(v:VX Γ CL k W T X)(e:Aj)(x n:Ag)(y:Ap)(c:E)(h:Mn n T x y c=Ab):SB (Cx.hot X e) CL W0 y (fun ρ=>(top ρ c (evE Γ ρ c)).bind BL):=by
 have one:∀{y:Ap}{c:E},(JT y&&Dx n T x y c)=Ab->SB (Cx.hot X e) CL W0 y (fun ρ=>(top ρ c (evE Γ ρ c)).bind BL):=fun {y c} h=>by
  rw[Ak]at h;exact SB.congr (RA ((On v e x n y c h.2).st) (QY h.1)) fun ρ=>by rw[RJ h.2]
 unfold Mn at h;split at h
 ·split at h
  ·rename_i a;refine SB.ref (RB (one h)) fun ρ=>?_
   show (((top ρ a (evE Γ ρ a)).bind fun x=>(Dk x).bind fun b=>R.ok (D.bl (!b))).bind BL)=.bad\/(((top ρ a (evE Γ ρ a)).bind fun x=>(Dk x).bind fun b=>R.ok (D.bl (!b))).bind BL)=((top ρ a (evE Γ ρ a)).bind BL).bind fun b=>.ok (!b)
   cases top ρ a (evE Γ ρ a) with
   |ok d=>cases d<;>first|exact .inl rfl|exact .inr rfl
   |exn y=>exact .inr rfl
   |bad=>exact .inl rfl
  ·cases h
 ·exact one h
theorem fF(v:VX Γ CL k W T X)(e:Aj)(x n:Ag)(pos:AN):∀(ys:Ad Ap)(es:Es),Gi n T x ys es=Ab->ys≠[]->SW (Cx.hot X e) CL W0 (.BoolOp .Or ys pos) (fun ρ=>(evO Γ ρ es).bind BL):=by
 intro ys
 induction ys with
 |nil=>intro es _ h;exact absurd rfl h
 |cons y ys ih=>
  intro es h _;cases es with
  |nil=>simp[Gi]at h
  |cons c es=>
   simp only[Gi,Ak]at h;obtain⟨h1,h3⟩:=h;have he:=Og v e x n y c h1;cases ys with
   |nil=>
    cases es with
    |nil=>exact SW.ref (R1 he) (Rf.tru c)
    |cons=>simp[Gi]at h3
   |cons z zs=>
    cases es with
    |nil=>simp[Gi]at h3
    |cons c' es'=>exact SW.ref (Si he (ih (.cons c' es') h3 (by simp))) (Rs c c' es')
theorem fG(v:VX Γ CL k W T X)(e:Aj)(x n:Ag)(pos:AN):∀(ys:Ad Ap)(es:Es),Gi n T x ys es=Ab->ys≠[]->SW (Cx.hot X e) CL W0 (.BoolOp .And ys pos) (fun ρ=>(evN Γ ρ es).bind BL):=by
 intro ys
 induction ys with
 |nil=>intro es _ h;exact absurd rfl h
 |cons y ys ih=>
  intro es h _;cases es with
  |nil=>simp[Gi]at h
  |cons c es=>
   simp only[Gi,Ak]at h;obtain⟨h1,h3⟩:=h;have he:=Og v e x n y c h1;cases ys with
   |nil=>
    cases es with
    |nil=>exact SW.ref (QZ he) (Rf.tru c)
    |cons=>simp[Gi]at h3
   |cons z zs=>
    cases es with
    |nil=>simp[Gi]at h3
    |cons c' es'=>exact SW.ref (R4 he (ih (.cons c' es') h3 (by simp))) (Rt c c' es')
theorem jD(v:VX Γ CL k W T X)(e:Aj)(x n:Ag)(t:Ap)(c:E)(h:Oo n T x t c=Ab):SB (Cx.hot X e) CL W0 t (fun ρ=>(top ρ c (evE Γ ρ c)).bind BL):=by
 unfold Oo at h;split at h
 ·split at h
  ·simp only[Ak,Bo,Cz]at h;exact(fF v e x n _ _ _ h.1 h.2).sb
  ·cases h
 ·split at h
  ·simp only[Ak,Bo,Cz]at h;exact(fG v e x n _ _ _ h.1 h.2).sb
  ·cases h
 ·exact Og v e x n _ c h
theorem Ml(v:VX Γ CL k W T X)(hf:DefX X)(e:Aj)(x:Ag):∀(n:Ag)(sts:Ad A9)(ss:Ss),G8 n T x sts ss=Ab->SSs (Cx.hot X e) CL W0 sts (fun ρ=>evSs Γ ρ ss):=by
 intro n
 induction n with
 |zero=>intro t c h;simp[G8]at h
 |succ n ih=>
  intro sts ss h;unfold G8 at h;split at h
  ·rw[Uq]at h;subst h;exact Nx
  ·split at h
   ·simp only[Ak,AW]at h;obtain⟨⟨⟨⟨h1,h2⟩,h3⟩,h4⟩,h5⟩:=h;exact LM (aM (X:=Cx.hot X e) (by show X.N.Nodup;rw[v.N];exact v.nd) (by show X.N[_]?=_;rw[v.N];exact h1) (by show Loc X.env.scope _;rw[v.sc];exact K8 h2) (On v e x n _ _ h4) (K2 h3) (.inl (hf.fn _))) (ih _ _ h5)
   ·cases h
  ·split at h
   ·simp only[Ak]at h;obtain⟨⟨h1,h2⟩,h3⟩:=h;exact LM (Sj (X:=Cx.hot X e) (jD v e x n _ _ h1) (ih _ _ h2) Nx) (ih _ _ h3)
   ·cases h
  ·split at h
   ·rename_i e0 ss0 st0 v0 pos r;simp only[Ak]at h;obtain⟨⟨h0,h1⟩,h2⟩:=h;have q:=LM (Q1 (X:=Cx.hot X e) (pos:=pos) (On v e x n _ _ h1)) (ih _ _ h2);have ef:(fun ρ=>evSs Γ ρ (.cons (.ret e0) ss0))=fun ρ=>(O.of ρ (evE Γ ρ e0) fun d=>O.ret d Ac).seq fun ρ=>evSs Γ ρ ss0:=by
     funext ρ
     cases e0<;>first|rfl|(cases h0;done)
    rw[ef];exact q
   ·cases h
  ·cases h
theorem N9(v:VX Γ CL k W T X)(h:hdB T g c=Ab):Mv X CL Γ.up g c:=by
 unfold hdB at h;simp only[Ak]at h;obtain⟨⟨⟨i1,i0⟩,i2⟩,i3⟩:=h;obtain⟨C,m1,m3,m4⟩:=v.xt.ex _ (Lc i1);obtain⟨C0,r1,r2⟩:=v.xt.rz _ (Lc i0);obtain⟨n2,_,_⟩:=G5 i3;refine⟨C,by unfold glB at i2;show X.env.scope.names.lookup g=_;rw[v.sc];exact eq_of_beq i2,m1,n2,?_,fun c' D hD=>m4 c' D hD⟩
 have e0:=m1.symm.trans r2;cases e0;exact v.xt.xc _ _ r1
theorem fZ(Z:SndS Γ CL k n)(W:XW)(T:Tc)(X:Cx)(st:A9)(c:S)(v:VX Γ CL k W T X)(hf:DefX X)(h:FS (n+1) T st c=Ab):SS X CL W st (fun ρ=>evS Γ ρ c):=by
  have E:=snd (Γ:=Γ) (CL:=CL) (k:=k) n;cases c with
  |pass=>exact absurd (show Ac=Ab from h) At
  |brk=>exact absurd (show Ac=Ab from h) At
  |cont=>exact absurd (show Ac=Ab from h) At
  |asg i fresh e=>
    unfold FS at h;dsimp only at h;split at h
    · simp only[Ak,AW]at h;obtain⟨⟨h1,h2⟩,h3⟩:=h;have o:=E.e W T X _ e v h3;cases fresh with
      |false=>exact R7 (NO (fr:=Ac) v hf.fn h1 h2 o (fun z=>nomatch z))
      |true=>
        cases hn:D0 Γ e with
        |true=>
          refine SS.ref (X9 (NO (fr:=Ab) v hf.fn h1 h2 o (fun _=>hn))) fun ρ=>.inr ?_
          show O.of ρ (evE Γ ρ e) (fun d=>if Ab=Ab then (if D0 Γ e=Ab then (match d with
            |.lst xs=>.next (ρ.set i (Aa (.lst xs,Ab)))
            |.dic xs=>.next (ρ.set i (Aa (.dic xs,Ab)))
            | _=>.bad) else .bad) else .next (ρ.set i (Aa (d,Ac))))=_
          rw[hn];rfl
        |false=>
          refine SS.ref (R7 (NO (fr:=Ac) v hf.fn h1 h2 o (fun z=>nomatch z))) fun ρ=>?_
          have e0:evS Γ ρ (.asg i Ab e)=O.of ρ (evE Γ ρ e) (fun d=>if Ab=Ab then (if D0 Γ e=Ab then (match d with
            |.lst xs=>.next (ρ.set i (Aa (.lst xs,Ab)))
            |.dic xs=>.next (ρ.set i (Aa (.dic xs,Ab)))
            | _=>.bad) else .bad) else .next (ρ.set i (Aa (d,Ac)))):=rfl
          rw[e0,hn];cases evE Γ ρ e with
          |ok d=>exact .inl rfl
          |exn y=>exact .inr rfl
          |bad=>exact .inl rfl
    · cases h
  |asgT ts e=>
    unfold FS at h;dsimp only at h;split at h
    · simp only[Ak]at h;obtain⟨⟨⟨h1,h2⟩,h3⟩,h5⟩:=h;exact X8 (jE ts) (bT v hf.fn h1 h2) (E.e W T X _ e v h5).se (QH (fun _ _ z=>by cases z)) (bQ h3) rfl (Wr ts)
    · cases h
  |expr e=>
    unfold FS at h;dsimp only at h;split at h
    · simp only[Ak]at h;exact X7 (E.e W T X _ e v h.2).se (K2 h.1)
    · cases h
  |ret e=>
    unfold FS at h;dsimp only at h;split at h
    · have o:=E.e W T X _ e v h;cases hv:D0 Γ e with
      |true=>
        refine SS.ref (X6 (o.nw hv)) fun ρ=>.inr ?_
        rw[PJ ρ e (fun i z=>by subst z;cases hv),hv]
      |false=>
        cases e with
        |var i=>
          cases n with
          |zero=>exact absurd (show Ac=Ab from h) At
          |succ n=>
            unfold Bj at h;dsimp only at h;split at h
            · exact X5 (L8 v h)
            · cases h
        |_=>
          refine SS.ref (Q1 o.se) fun ρ=>.inr ?_
          rw[PJ ρ _ (by intro i z;cases z),hv]
    · cases h
  |retN=>exact absurd (show Ac=Ab from h) At
  |ife c a b=>
    unfold FS at h;dsimp only at h;split at h
    · simp only[Ak]at h;exact Sj (E.b W T X _ c v h.1.1) (Z.ss W T X _ a v hf h.1.2) (Z.ss W T X _ b v hf h.2)
    · cases h
  |fors t it body=>
    unfold FS at h;dsimp only at h;split at h
    · simp only[Ak]at h;obtain⟨⟨⟨h1,h2⟩,h3⟩,h4⟩:=h;exact R6 v.own v.calm (YH t) (YE v hf.fn h1) (E.i W T X Ac _ _ it v rfl h3) (Z.ss W T X _ body v hf h4) (Md h2) (fun _ _ _ z=>nomatch z)
    · cases h
  |forT ts it body=>
    unfold FS at h;dsimp only at h;split at h
    · simp only[Ak]at h;obtain⟨⟨⟨⟨h0,h1⟩,h2⟩,h3⟩,h4⟩:=h;exact R6 v.own v.calm (RK ts) (YD v hf.fn h0 h1) (E.i W T X Ab _ _ it v rfl h3) (Z.ss W T X _ body v hf h4) (Md h2) (Pu ts)
    · cases h
  |whl c body=>exact absurd (show Ac=Ab from h) At
  |rais c as=>
    unfold FS at h;dsimp only at h;cases hc:T.rzs.any (fun p=>p.2==c) with
    |false=>
      have hb:∀ ds,Γ.xn c ds=.bad:=v.xt.xb c fun p hp z=>by
        have:T.rzs.any (fun p=>p.2==c)=Ab:=List.any_eq_true.mpr ⟨p,hp,AW.mpr z⟩
        rw[hc]at this;cases this
      intro Fz B pI s σ H D I ⟨ρ,x,p⟩;have p':BS X.K CL Fz B W (O.of ρ (noX (evA Γ ρ as)) fun xs=>O.of ρ (Γ.xn c xs) fun x=>.exn x ρ) D:=p
      cases e1:evA Γ ρ as with
      |bad=>rw[e1]at p';exact p'.elim
      |exn y=>rw[e1]at p';exact p'.elim
      |ok ds=>
        rw[e1]at p';have p2:BS X.K CL Fz B W (O.of ρ (Γ.xn c ds) fun x=>.exn x ρ) D:=p'
        rw[hb ds]at p2;exact p2.elim
    |true=>
      rw[hc,Bool.not_true,Bool.false_or]at h;split at h
      · rename_i g np x xs cpos pos;simp only[Ak,AG]at h;obtain⟨⟨⟨⟨h1,h2⟩,h3⟩,h4⟩,h5⟩:=h;obtain⟨C,m1,m2⟩:=v.xt.rz _ (Lc h1);obtain⟨n2,_,_⟩:=G5 h3;obtain⟨s0,e,es',rfl,m,rfl,s1⟩:=JR h5;have q:=E.es W T X _ _ v h5;exact Wa v.calm hf.ex v.room v.rz (by unfold glB at h2;show X.env.scope.names.lookup g=_;rw[v.sc];exact eq_of_beq h2) m2 n2 m1 q.1 (fun ds=>v.xt.made c C ds m1) (DJ s0) (KO m xs es' s1) (fun ρ ds z=>by rw[LX Γ ρ _ _ z,<-q.2.2.1,Br];omega)
      · cases h
  |app i e=>exact absurd (show Ac=Ab from h) At
  |ext i e=>exact absurd (show Ac=Ab from h) At
  |rev i=>exact absurd (show Ac=Ab from h) At
  |clr i=>exact absurd (show Ac=Ab from h) At
  |put i k e=>
    unfold FS at h;dsimp only at h;split at h
    · simp only[Ak]at h;obtain⟨⟨⟨h1,h2⟩,h4⟩,h5⟩:=h;rename_i x p y sp v0 pos;exact aN (L8 v h1) (E.e W T X _ k v h4).st (E.e W T X _ e v h5).se (fun w=>by cases y<;>first|rfl|cases h2) (QH (fun _ _ z=>by cases z)) rfl rfl
    · cases h
  |tryx body c x hd=>
    cases body with
    |nil=>exact absurd (show Ac=Ab from h) At
    |cons b bs=>
      cases bs with
      |cons=>exact absurd (show Ac=Ab from h) At
      |nil=>
        unfold FS at h;dsimp only at h;cases q:Ln st with
        |none=>rw[q]at h;cases h
        |some t=>
          obtain⟨bt,hl,es⟩:=t;rw[q]at h;obtain⟨pos,rfl⟩:=QQ q;cases hl with
          |nil=>exact absurd (show Ac=Ab from h) At
          |cons h1 hl=>
            cases hl with
            |cons=>exact absurd (show Ac=Ab from h) At
            |nil=>
              cases es with
              |cons=>exact absurd (show Ac=Ab from h) At
              |nil=>
                dsimp only at h;cases q1:xHd h1 with
                |none=>rw[q1]at h;cases h
                |some t1=>
                  obtain⟨g,m,h0,hs⟩:=t1;obtain⟨p1,hp,rfl⟩:=NT q1;rw[q1]at h;simp only[Ak,AW]at h;obtain⟨⟨⟨⟨i1,i4⟩,i5⟩,i6⟩,i7⟩:=h;obtain⟨t1,t2⟩:=Su E v hf 6 i6;refine SS.ref (aL (up:=Γ.up) (c:=c) (i:=x) hf.ex hf.st hf.fm (by rw[v.N];exact v.nd) (by rw[v.N];exact i4) (by rw[v.sc];exact i5) (N9 v i1) t1 t2 (fun e=>Ml v hf e x n _ _ i7)) fun ρ=>.inr ?_
                  rw[WS];unfold Tw;cases evSs Γ ρ (.cons b .nil)<;>rfl
  |try2 body c x hd c' hd' els=>
    cases body with
    |nil=>exact absurd (show Ac=Ab from h) At
    |cons b bs=>
      cases bs with
      |cons=>exact absurd (show Ac=Ab from h) At
      |nil=>
        unfold FS at h;dsimp only at h;cases q:Ln st with
        |none=>rw[q]at h;cases h
        |some t=>
          obtain⟨bt,hl,es⟩:=t;rw[q]at h;obtain⟨pos,rfl⟩:=QQ q;dsimp only at h;cases q0:Jy hl with
          |none=>rw[q0]at h;cases h
          |some t0=>
            obtain⟨h1,h2⟩:=t0;have e0:=K5 q0;subst e0;rw[q0]at h;dsimp only at h;cases q1:xHd h1 with
            |none=>rw[q1]at h;cases h
            |some t1=>
              cases q2:xHd h2 with
              |none=>rw[q1,q2]at h;cases h
              |some t2=>
                obtain⟨g,m,h0,hs⟩:=t1;obtain⟨g',m',h0',hs'⟩:=t2;obtain⟨p1,hp,rfl⟩:=NT q1;obtain⟨p1',hp',rfl⟩:=NT q2;rw[q1,q2]at h;simp only[Ak,AW]at h;obtain⟨⟨⟨⟨⟨⟨⟨⟨rfl,i1⟩,i2⟩,i4⟩,i5⟩,i6⟩,i7⟩,i8⟩,i9⟩:=h;obtain⟨t1,t2⟩:=Su E v hf 6 i6;refine SS.ref (X4 (up:=Γ.up) (c:=c) (c':=c') (i:=x) hf.ex hf.st hf.fm (by rw[v.N];exact v.nd) (by rw[v.N];exact i4) (by rw[v.sc];exact i5) (N9 v i1) (N9 v i2) t1 t2 (fun e=>Ml v hf e x n _ _ i7) (fun e=>Ml v hf e x n _ _ i8) (Z.ss W T X _ _ v hf i9)) fun ρ=>.inr ?_
                rw[WT];unfold Sr;cases evSs Γ ρ (.cons b .nil)<;>rfl
  |swp i k l=>exact absurd (show Ac=Ab from h) At
  |apop j i e=>exact absurd (show Ac=Ab from h) At
  |ins=>exact absurd (show Ac=Ab from h) At
  |dput=>exact absurd (show Ac=Ab from h) At
  |dsd=>exact absurd (show Ac=Ab from h) At
  |rel=>exact absurd (show Ac=Ab from h) At
theorem aI(Z:SndS Γ CL k n)(W:XW)(T:Tc)(X:Cx)(xs:Ad A9)(c:Ss)(v:VX Γ CL k W T X)(hf:DefX X)(h:chkSs (n+1) T xs c=Ab):SSs X CL W xs (fun ρ=>evSs Γ ρ c):=by
 cases c with
 |nil=>
  simp only[chkSs,Uq]at h;subst h;exact Nx
 |cons s ss=>
  by_cases hr:∃ i,s=.rel i
  ·obtain⟨i,rfl⟩:=hr;simp only[chkSs]at h;exact X3 i (Z.ss W T X xs ss v hf h)
  ·cases xs with
   |nil=>cases s<;>first|(simp[chkSs]at h;done)|exact absurd ⟨_,rfl⟩ hr
   |cons st r=>
    have h':FS n T st s=Ab/\chkSs n T r ss=Ab:=by
     cases s<;>first|(simp only[chkSs,Ak]at h;exact h)|exact absurd ⟨_,rfl⟩ hr
    exact LM (Z.s W T X st s v hf h'.1) (Z.ss W T X r ss v hf h'.2)
theorem Oy:∀ n,SndS Γ CL k n
 |0=>⟨fun _ _ _ _ _ _ _ h=>absurd (show Ac=Ab from h) At,fun _ _ _ _ _ _ _ h=>absurd (show Ac=Ab from h) At⟩
 |n+1=>⟨fZ (Oy n),aI (Oy n)⟩
end
theorem KQ{n:Ag}{ds:Ad D}{i:Ag}{o:Ao}(h:(BA n ds)[i]?=Aa (Aa (d,o))):o=Ac/\ds[i]?=Aa d:=by
 unfold BA at h;by_cases hi:i<ds.length
 ·rw[ES (by simpa using hi),Fm]at h
  cases e:ds[i]? with
  |none=>rw[e]at h;cases h
  |some x=>rw[e]at h;cases h;exact⟨rfl,rfl⟩
 ·rw[Ul (by simpa using Nat.le_of_not_lt hi),Up]at h
  split at h<;>cases h
theorem Wq{N:Ad Ah}{vs:Ad V}{i:Ag}{v:V}(h:vs[i]?=Aa v):(L2.start N vs)[i]?=Aa (Aa v):=by
 unfold L2.start;have hi:=(A7.mp h).1;rw[ES (by simpa using hi),Fm,h]
 rfl
theorem Qi{N:Ad Ah}{n:Ag}{vs:Ad V}{ds:Ad D}(hn:N.length=n)(hA:AOk H A)(r:Reps K CL H A vs ds):Sx K CL (fun b o=>H b=Aa o) A (BA n ds) (L2.start N vs) H:=by
 have own:∀ a,BN A (BA n ds) (L2.start N vs) a->A a:=fun a h=>by
  rcases h with h|⟨j,d,h,_⟩
  ·exact h
  ·exact absurd (KQ h).1 (by decide)
 have hlen:(BA n ds).length=(L2.start N vs).length:=by
  unfold BA L2.start;simp only[Dt,Cf,Uu,r.length,hn]
 refine⟨⟨fun i d h=>?_,fun i d h=>absurd (KQ h).1 (by decide),hlen⟩,fun a h=>hA a (own a h),fun j d a h _=>absurd (KQ h).1 (by decide),fun i j d e a h _ _ _=>absurd (KQ h).1 (by decide),fun b o h=>h,hlen⟩
 obtain⟨v,h1,h2⟩:=r.get (KQ h).2;exact⟨v,Wq h1,Rep.sub own _ h2⟩
def Kn(K:Fg)(mg:Ah->An Ai)(fns:Ad (Ah×Ag×Ag))(bl:Ad Ah)(rzs exs gls:Ad (Ah×Ag))(Pg:Prg)(fuel:Ag)(p:Ah×Ag×Ag):Prop:=∃ f fd ps qual st N,mg p.1=Aa (.ref f)/\Fun K p.1 qual st f fd/\Fq K fd ps []/\ps.length=p.2.2%1000/\Hg fuel (C5 1000 p.2.2) fns bl rzs exs gls ps N st (Pg.defs p.2.1)=Ab
structure Tab (K:Fg) (mg:Ah->An Ai) (CL:ClA) (fns:Ad (Ah×Ag×Ag)) (bl:Ad Ah) (rzs exs gls:Ad (Ah×Ag)) (Pg:Prg) (fuel:Ag):Prop where
 xt:XT Pg.up Pg.xn CL rzs exs K mg
 bln:∀ x,x∈bl->mg x=Ae
 gl:∀ p∈gls,Mw K mg CL p.1 (Pg.G p.2)
 fn:∀ p∈fns,Kn K mg fns bl rzs exs gls Pg fuel p
theorem RO(Pg:Prg)(n i:Ag):(gam Pg n).fr i=(Pg.defs i).fr:=by cases n<;>rfl
theorem RN(Pg:Prg)(n:Ag):(gam Pg n).up=Pg.up:=by cases n<;>rfl
theorem SY(Pg:Prg)(n:Ag):(gam Pg n).G=Pg.G:=by cases n<;>rfl
theorem RM(Pg:Prg)(n:Ag):(gam Pg n).xn=Pg.xn:=by cases n<;>rfl
section
variable{P:AS}{w:AC}{K:Fg}{mg:Ah->An Ai}{base:AD}{CL:ClA}{fns:Ad (Ah×Ag×Ag)}{bl:Ad Ah}{rzs exs gls:Ad (Ah×Ag)}{Pg:Prg}{fuel:Ag}
def Lvl(P:AS)(w:AC)(K:Fg)(mg:Ah->An Ai)(base:AD)(CL:ClA)(Pg:Prg)(n:Ag)(p:Ah×Ag×Ag):Prop:=∃ f fd ps,mg p.1=Aa (.ref f)/\B1 K (.ref f)=Ab/\Fq K fd ps []/\ps.length=p.2.2%1000/\(p.2.2<1000->FnOk P w K mg base (CXR P w) n f fd ps (spD K CL (p.2.2%1000) ((gam Pg n).fr p.2.1) ((gam Pg n).F p.2.1)))/\(1000<=p.2.2->HotOk P w K mg base n f fd ps (spH K CL (p.2.2%1000) ((gam Pg n).fr p.2.1) ((gam Pg n).F p.2.1)))
theorem Ro(t:Tab K mg CL fns bl rzs exs gls Pg fuel){n:Ag}(hlv:∀ q∈fns,Lvl P w K mg base CL Pg n q){st:A9}{f:Aj}{ps N:Ad Ah}{m id:Ag}(h2:Fun K x qual st f fd)(h4:ps.length=m)(h5:Hg fuel Ac fns bl rzs exs gls ps N st (Pg.defs id)=Ab):FnOk P w K mg base (CXR P w) (n+1) f fd ps (spD K CL m ((gam Pg (n+1)).fr id) ((gam Pg (n+1)).F id)):=by
  unfold Hg at h5;simp only[Ak,AW,Bo,Do,Cd,GN,Ky]at h5;obtain⟨⟨⟨⟨⟨⟨⟨⟨c1,c2⟩,c3⟩,c4⟩,c5⟩,c6⟩,c7⟩,c8⟩,c9⟩:=h5;obtain⟨oc,od,kV,doc,pm,an,cdv,ct,osl,rfl,lk,hcd⟩:=h2.ex;refine S4 (N:=N) lk hcd ⟨c1,c2,c3,Jh c4,c5,c6,c7⟩ (fun vs H Q E ⟨ds,A,z,_⟩=>z.trans h4.symm) fun A outer s H vs Q E hr ⟨ds,B,hl,hA,hreps,hpost⟩=>?_
  have xt:XT (gam Pg n).up (gam Pg n).xn CL rzs exs K mg:=by rw[RN,RM];exact t.xt
  have gl:∀ p∈gls,Mw K mg CL p.1 ((gam Pg n).G p.2):=by rw[SY];exact t.gl
  have key:∀ W:XW,(∀ x cls dx H',W x H'->FP K CL H' cls dx x->E cls dx H')->BS K CL (fun b o=>H b=Aa o) B W (evSs (gam Pg n) (BA (Pg.defs id).n ds) (Pg.defs id).body) {nx:=fun _ H'=>Q .non H',rt:=Q} ->
      ∃ t,PSs (Eo (CXR P w) P w K mg base N qual (Cp st) f cdv A outer s H E) (Fo st) t/\t {nx:=fun _ H'=>Q .non H',rt:=Q} (start N vs) H:=fun W hW hp=>by
    have v:VX (gam Pg n) CL n W ⟨Cp st,N,fns,bl,rzs,exs,gls⟩ (Eo (CXR P w) P w K mg base N qual (Cp st) f cdv A outer s H E):=⟨rfl,c1,rfl,Jh c4,rfl,hr,t.bln,hlv,ownR,kH hW,rzR hW,xt,gl⟩;exact⟨_,(Oy fuel).ss W _ _ _ (Pg.defs id).body v ⟨fun _=>rfl,rfl,rfl,rfl⟩ c9 (fun b o=>H b=Aa o) B,_,Qi c8 hA hreps,hp⟩
  have no:∀ x cls dx H',W0 x H'->FP K CL H' cls dx x->E cls dx H':=fun _ _ _ _ z=>z.elim
  have e:(gam Pg (n+1)).F id ds=D9 Pg.xs ((evSs (gam Pg n) (BA (Pg.defs id).n ds) (Pg.defs id).body).ans (Pg.defs id).fr):=rfl;rw[e,RO]at hpost;have cutO:∀ r:R D,(∀ x,r≠.exn x)->D9 Pg.xs r=r:=fun r hr=>by
    cases Pg.xs<;>cases r<;>first|rfl|exact absurd rfl (hr _)
  cases eo:evSs (gam Pg n) (BA (Pg.defs id).n ds) (Pg.defs id).body with
  |next ρ'=>
    refine key W0 no ?_;rw[eo]at hpost ⊢;cases ef:(Pg.defs id).fr with
    |true=>rw[ef]at hpost;rw[cutO _ (by intro x z;cases z)]at hpost;exact hpost.elim
    |false=>
      rw[ef]at hpost;rw[cutO _ (by intro x z;cases z)]at hpost
      exact fun σ' H' x'=>hpost .non H' (fun b o z=>x'.same b o z) ⟨rfl,fun z=>nomatch z⟩
  |ret d b=>
    refine key W0 no ?_;rw[eo]at hpost ⊢;intro v H' sm rp fr;have hp2:(match D9 Pg.xs (if ((Pg.defs id).fr&&(!b&&isL d))=Ab then R.bad else R.ok d) with
      |.ok d=>∀ v H',AE H H'->Dq K CL (Pg.defs id).fr H B H' v d->Q v H'
      |.exn x=>∀ cls dx H',AE H H'->FP K CL H' cls dx x->E cls dx H'
      | .bad=>AU):=hpost
    cases ec:((Pg.defs id).fr&&(!b&&isL d)) with
    |true=>rw[ec,Aw rfl,cutO _ (by intro x z;cases z)]at hp2;exact hp2.elim
    |false=>
      rw[ec,AA (by decide),cutO _ (by intro x z;cases z)]at hp2
      refine hp2 v H' sm ⟨rp,fun efr es hd=>?_⟩
      subst hd;have eb:b=Ab:=by
        cases b with
        |true=>rfl
        |false=>rw[efr]at ec;cases ec
      obtain⟨a,xs,h1,h2,h3,h4⟩:=fr eb es rfl;refine⟨a,xs,h1,?_,h3,h4⟩;cases ha:H a with
      |none=>rfl
      |some o=>exact absurd ha (h2 o)
  |brk ρ'=>rw[eo]at hpost;have hp2:(match D9 Pg.xs (R.bad:R D) with | .ok _=>_ | .exn _=>_ | .bad=>AU):=hpost;rw[cutO _ (by intro x z;cases z)]at hp2;exact hp2.elim
  |cont ρ'=>rw[eo]at hpost;have hp2:(match D9 Pg.xs (R.bad:R D) with | .ok _=>_ | .exn _=>_ | .bad=>AU):=hpost;rw[cutO _ (by intro x z;cases z)]at hp2;exact hp2.elim
  |bad=>rw[eo]at hpost;have hp2:(match D9 Pg.xs (R.bad:R D) with | .ok _=>_ | .exn _=>_ | .bad=>AU):=hpost;rw[cutO _ (by intro x z;cases z)]at hp2;exact hp2.elim
  |exn x ρ'=>
    rw[eo]at hpost;have hp2:(match D9 Pg.xs (R.exn x:R D) with
      |.ok d=>∀ v H',AE H H'->Dq K CL (Pg.defs id).fr H B H' v d->Q v H'
      |.exn x=>∀ cls dx H',AE H H'->FP K CL H' cls dx x->E cls dx H'
      | .bad=>AU):=hpost
    cases ex:Pg.xs with
    |false=>rw[ex]at hp2;exact hp2.elim
    |true=>
      rw[ex]at hp2;have hp3:∀ cls dx H',AE H H'->FP K CL H' cls dx x->E cls dx H':=hp2;refine key (fun y H'=>y=x/\AE H H') (fun y cls dx H' ⟨e1,sm⟩ xr=>?_) ?_
      · subst e1;exact hp3 cls dx H' sm xr
      · rw[eo];exact fun H' sm=>⟨rfl,sm⟩
theorem cB(t:Tab K mg CL fns bl rzs exs gls Pg fuel){n:Ag}(hlv:∀ q∈fns,Lvl P w K mg base CL Pg n q){st:A9}{f:Aj}{ps N:Ad Ah}{m id:Ag}(h2:Fun K x qual st f fd)(h4:ps.length=m)(h5:Hg fuel Ab fns bl rzs exs gls ps N st (Pg.defs id)=Ab):HotOk P w K mg base (n+1) f fd ps (spH K CL m ((gam Pg (n+1)).fr id) ((gam Pg (n+1)).F id)):=by
  unfold Hg at h5;simp only[Ak,AW,Bo,Do,Cd,GN,Ky]at h5;obtain⟨⟨⟨⟨⟨⟨⟨⟨c1,c2⟩,c3⟩,c4⟩,c5⟩,c6⟩,c7⟩,c8⟩,c9⟩:=h5;obtain⟨oc,od,kV,doc,pm,an,cdv,ct,osl,rfl,lk,hcd⟩:=h2.ex;refine fE (N:=N) lk hcd ⟨c1,c2,c3,Jh c4,c5,c6,c7⟩ (fun vs H Q E ⟨ds,A,z,_⟩=>z.trans h4.symm) fun A ev outer s H vs Q E hr ⟨ds,B,hl,hA,hreps,hpost⟩=>?_
  have xt:XT (gam Pg n).up (gam Pg n).xn CL rzs exs K mg:=by rw[RN,RM];exact t.xt
  have gl:∀ p∈gls,Mw K mg CL p.1 ((gam Pg n).G p.2):=by rw[SY];exact t.gl
  have key:BS K CL (fun b o=>H b=Aa o) B W0 (evSs (gam Pg n) (BA (Pg.defs id).n ds) (Pg.defs id).body) {nx:=fun _ H'=>Q .non H',rt:=Q} ->
      ∃ t,PSs (Cx.hot (Eo Ih P w K mg base N qual (Cp st) f cdv A outer s H E) ev) (Fo st) t/\t {nx:=fun _ H'=>Q .non H',rt:=Q} (start N vs) H:=fun hp=>by
    have v:VX (gam Pg n) CL n W0 ⟨Cp st,N,fns,bl,rzs,exs,gls⟩ (Eo Ih P w K mg base N qual (Cp st) f cdv A outer s H E):=⟨rfl,c1,rfl,Jh c4,rfl,hr,t.bln,hlv,Vd,NM,OE,xt,gl⟩;exact⟨_,Ml v ⟨fun _=>rfl,rfl,rfl,rfl⟩ ev 0 fuel _ (Pg.defs id).body c9 (fun b o=>H b=Aa o) B,_,Qi c8 hA hreps,hp⟩
  have e:(gam Pg (n+1)).F id ds=D9 Pg.xs ((evSs (gam Pg n) (BA (Pg.defs id).n ds) (Pg.defs id).body).ans (Pg.defs id).fr):=rfl;rw[e,RO]at hpost;have cutO:∀ r:R D,(∀ x,r≠.exn x)->D9 Pg.xs r=r:=fun r hr=>by
    cases Pg.xs<;>cases r<;>first|rfl|exact absurd rfl (hr _)
  refine key ?_;cases eo:evSs (gam Pg n) (BA (Pg.defs id).n ds) (Pg.defs id).body with
  |next ρ'=>
    rw[eo]at hpost;cases ef:(Pg.defs id).fr with
    |true=>rw[ef]at hpost;rw[cutO _ (by intro x z;cases z)]at hpost;exact hpost.elim
    |false=>
      rw[ef]at hpost;rw[cutO _ (by intro x z;cases z)]at hpost
      exact fun σ' H' x'=>hpost .non H' (fun b o z=>x'.same b o z) ⟨rfl,fun z=>nomatch z⟩
  |ret d b=>
    rw[eo]at hpost;intro v H' sm rp fr;have hp2:(match D9 Pg.xs (if ((Pg.defs id).fr&&(!b&&isL d))=Ab then R.bad else R.ok d) with
      |.ok d=>∀ v H',AE H H'->Dq K CL (Pg.defs id).fr H B H' v d->Q v H'
      |.exn x=>AU
      | .bad=>AU):=hpost
    cases ec:((Pg.defs id).fr&&(!b&&isL d)) with
    |true=>rw[ec,Aw rfl,cutO _ (by intro x z;cases z)]at hp2;exact hp2.elim
    |false=>
      rw[ec,AA (by decide),cutO _ (by intro x z;cases z)]at hp2
      refine hp2 v H' sm ⟨rp,fun efr es hd=>?_⟩
      subst hd;have eb:b=Ab:=by
        cases b with
        |true=>rfl
        |false=>rw[efr]at ec;cases ec
      obtain⟨a,xs,h1,h2,h3,h4⟩:=fr eb es rfl;refine⟨a,xs,h1,?_,h3,h4⟩;cases ha:H a with
      |none=>rfl
      |some o=>exact absurd ha (h2 o)
  |brk ρ'=>rw[eo]at hpost;have hp2:(match D9 Pg.xs (R.bad:R D) with | .ok _=>_ | .exn _=>_ | .bad=>AU):=hpost;rw[cutO _ (by intro x z;cases z)]at hp2;exact hp2.elim
  |cont ρ'=>rw[eo]at hpost;have hp2:(match D9 Pg.xs (R.bad:R D) with | .ok _=>_ | .exn _=>_ | .bad=>AU):=hpost;rw[cutO _ (by intro x z;cases z)]at hp2;exact hp2.elim
  |bad=>rw[eo]at hpost;have hp2:(match D9 Pg.xs (R.bad:R D) with | .ok _=>_ | .exn _=>_ | .bad=>AU):=hpost;rw[cutO _ (by intro x z;cases z)]at hp2;exact hp2.elim
  |exn x ρ'=>
    rw[eo]at hpost;have hp2:(match D9 Pg.xs (R.exn x:R D) with
      |.ok d=>∀ v H',AE H H'->Dq K CL (Pg.defs id).fr H B H' v d->Q v H'
      |.exn x=>AU
      | .bad=>AU):=hpost
    exfalso
    cases ex:Pg.xs with
    |false=>rw[ex]at hp2;exact hp2
    |true=>
      rw[ex]at hp2;exact hp2
theorem NV(t:Tab K mg CL fns bl rzs exs gls Pg fuel):∀ n,∀ p∈fns,Lvl P w K mg base CL Pg n p
 |0,p,hp=>by
  obtain⟨f,fd,ps,qual,st,N,h1,h2,h3,h4,h5⟩:=t.fn p hp;exact⟨f,fd,ps,h1,h2.kp,h3,h4,fun _=>⟨fun vs H Q E ⟨ds,A,_,_,_,z⟩=>z.elim,fun A outer s H args us vs Q E _ _ _ _ ⟨ds,A,_,_,_,z⟩=>z.elim⟩,fun _=>⟨fun vs H Q E ⟨ds,A,_,_,_,z⟩=>z.elim,fun A ev outer s H args us vs Q E _ _ _ _ ⟨ds,A,_,_,_,z⟩=>z.elim⟩⟩
 |n+1,p,hp=>by
  obtain⟨f,fd,ps,qual,st,N,h1,h2,h3,h4,h5⟩:=t.fn p hp;refine⟨f,fd,ps,h1,h2.kp,h3,h4,fun hlt=>?_,fun hge=>?_⟩
  ·have eb:C5 1000 p.2.2=Ac:=by
    cases e:C5 1000 p.2.2 with
    |false=>rfl
    |true=>exact absurd (Ef e) (by omega)
   rw[eb]at h5;exact Ro t (fun q hq=>NV t n q hq) h2 h4 h5
  ·rw[Nat.ble_eq_true_of_le hge]at h5;exact cB t (fun q hq=>NV t n q hq) h2 h4 h5
theorem fT{s s':As}{e:Ai}(h:CXR P w [] H s (fun _ _ _=>AU) e s'):AU:=by
 obtain⟨_,_,_,_,_,_,_,_,_,_,_,_,_,_,_,z⟩:=h;exact z
noncomputable def Tt:A9->An (Ap×AN)
 |.Expr e p=>Aa (e,p)
 |_=>Ae
theorem Yw{e:A9}{t:Ap×AN}(h:Tt e=Aa t):e=.Expr t.1 t.2:=by
 cases e with
 |Expr x p=>cases h;rfl
 |_=>exact nomatch (show Ae=Aa t from h)
noncomputable def Tv:A9->An (Ap×Ap×AN)
  | .Assign ts v p=>(match ts with
    |[t]=>Aa (t,v,p)
    | _=>Ae)
  |_=>Ae
theorem Yy{e:A9}{t:Ap×Ap×AN}(h:Tv e=Aa t):e=.Assign [t.1] t.2.1 t.2.2:=by
 cases e with
 |Assign ts v p=>
  cases ts with
  |nil=>exact nomatch (show Ae=Aa t from h)
  |cons a ts=>
   cases ts with
   |nil=>cases h;rfl
   |cons=>exact nomatch (show Ae=Aa t from h)
 |_=>exact nomatch (show Ae=Aa t from h)
noncomputable def OA:Ap->An (Ap×Ah×AN)
 |.Attribute e x p=>Aa (e,x,p)
 |_=>Ae
theorem QR{e:Ap}{t:Ap×Ah×AN}(h:OA e=Aa t):e=.Attribute t.1 t.2.1 t.2.2:=by
 cases e with
 |Attribute e x p=>cases h;rfl
 |_=>exact nomatch (show Ae=Aa t from h)
noncomputable def Tr:Ap->An (Ad Ap×AN)
 |.JoinedStr l p=>Aa (l,p)
 |_=>Ae
theorem Yu{e:Ap}{t:Ad Ap×AN}(h:Tr e=Aa t):e=.JoinedStr t.1 t.2:=by
 cases e with
 |JoinedStr l p=>cases h;rfl
 |_=>exact nomatch (show Ae=Aa t from h)
noncomputable def Ts:Ap->An (Ap×Af×AN)
  | .FormattedValue e n f p=>(match f with
    |none=>Aa (e,n,p)
    | _=>Ae)
  |_=>Ae
theorem Yv{e:Ap}{t:Ap×Af×AN}(h:Ts e=Aa t):e=.FormattedValue t.1 t.2.1 Ae t.2.2:=by
 cases e with
 |FormattedValue e n f p=>
  cases f with
  |none=>cases h;rfl
  |some=>exact nomatch (show Ae=Aa t from h)
 |_=>exact nomatch (show Ae=Aa t from h)
noncomputable def Tu:Ap->An (Ah×Ag×AN)
  | .Constant c k p=>(match c with
    |.str z=>Aa (z,k,p)
    | _=>Ae)
  |_=>Ae
theorem Yx{e:Ap}{t:Ah×Ag×AN}(h:Tu e=Aa t):e=.Constant (.str t.1) t.2.1 t.2.2:=by
 cases e with
 |Constant c k p=>
  cases c with
  |str z=>cases h;rfl
  |_=>exact nomatch (show Ae=Aa t from h)
 |_=>exact nomatch (show Ae=Aa t from h)
noncomputable def TL(g par f:Ah)(b:Ad A9):An FM:=(Jy b).bind fun s=>(Tt s.1).bind fun c=>(Mu c.1).bind fun cl=>(OA cl.1).bind fun at1=>(Fd at1.1).bind fun g1=>(Jy cl.2.1).bind fun ab=>(Fd ab.1).bind fun s1=>(Tr ab.2).bind fun j=>(Jy j.1).bind fun fk=>(Ts fk.1).bind fun fm=>(Fd fm.1).bind fun q1=>(Tu fk.2).bind fun z=>(Tv s.2).bind fun t=>(OA t.1).bind fun at2=>(Fd at2.1).bind fun s2=>(Fd t.2.1).bind fun q2=>
 if (g1.1==g&&(at1.2.1==("__init__" : Ah)&&(s1.1==("self" : Ah)&&(q1.1==par&&(decide (fm.2.1=-1)&&(s2.1==("self" : Ah)&&(at2.2.1==f&&(q2.1==par&&(at1.2.2.endLine==cl.2.2.line&&C5 z.1.length 1000)))))))))=Ab then Aa () else Ae
noncomputable def TM(g par f:Ah)(b:Ad A9):Ao:=(TL g par f b).isSome
theorem Y4{g par f:Ah}{b:Ad A9}(h:TM g par f b=Ab):∃ z k np apos p1 p2 p3 p4 p5 cpos p6 p7 p8 p9 p10,b=OF g par f z k np apos p1 p2 p3 p4 p5 cpos p6 p7 p8 p9 p10/\(apos.endLine==cpos.line)=Ab/\z.length<=1000:=by
 obtain⟨_,h⟩:=DR.mp (show (TL g par f b).isSome=Ab from h)
 obtain⟨s,e1,h⟩:=AJ.mp h;obtain⟨c,e2,h⟩:=AJ.mp h;obtain⟨cl,e3,h⟩:=AJ.mp h;obtain⟨at1,e4,h⟩:=AJ.mp h;obtain⟨g1,e5,h⟩:=AJ.mp h;obtain⟨ab,e6,h⟩:=AJ.mp h;obtain⟨s1,e7,h⟩:=AJ.mp h;obtain⟨j,e8,h⟩:=AJ.mp h;obtain⟨fk,e9,h⟩:=AJ.mp h;obtain⟨fm,f1,h⟩:=AJ.mp h;obtain⟨q1,f2,h⟩:=AJ.mp h;obtain⟨z,f3,h⟩:=AJ.mp h;obtain⟨t,f4,h⟩:=AJ.mp h;obtain⟨at2,f5,h⟩:=AJ.mp h;obtain⟨s2,f6,h⟩:=AJ.mp h;obtain⟨q2,f7,h⟩:=AJ.mp h;split at h
 ·rename_i hc;simp only[Ak,AW,AG]at hc;obtain⟨c1,c2,c3,c4,c5,c6,c7,c8,h1,h2⟩:=hc;rw[K5 e1,Yw e2,Nv e3,QR e4,GB e5,K5 e6,GB e7,Yu e8,K5 e9,Yv f1,GB f2,Yx f3,Yy f4,QR f5,GB f6,GB f7,c1,c2,c3,c4,c5,c6,c7,c8];exact⟨_,_,_,_,_,_,_,_,_,_,_,_,_,_,_,rfl,by rw[AW];exact h1,Ef h2⟩
 ·cases h
noncomputable def Mt(g par f:Ah)(st:A9):Ao:=
 (Cp st).kind==.function&&((Cp st).isCoroutine==Ac&&((Cp st).isGenerator==Ac&&(Ka ["self", par]&&((Cp st).names.lookup ("self" : Ah)==Aa .local&&((Cp st).names.lookup par==Aa .local&&(((Cp st).names.all fun y=>y.2 != .free) &&
  ((Cp st).names.lookup g==Aa .globalImplicit&&(g != ("__debug__" : Ah)&&(par != ("__debug__" : Ah)&&(par != ("__classdict__" : Ah)&&TM g par f (Fo st)))))))))))
noncomputable def Mk(s:A9):A9:=match s with
  |.ClassDef _ _ _ (b::_) _ _ _ _ _ _ _=>b
  |s=>s
def InI(K:Fg)(f:Aj)(qual:Ah)(st:A9):Prop:=∃ fd,Fun K "__init__" qual st f fd
theorem ini_mk{st:A9}{f:Aj}{kV doc pm cdv ct:Ai}(l:K.lookup f=Aa ⟨oc,od,.func (CD "__init__" qual (IH st) (Fo st) (Cp st) .none kV doc pm an cdv ct),osl⟩)(c:El K cdv qual=Ab)(k:B1 K (.ref f)=Ab):InI K f qual st:=⟨_,RP l c k⟩
theorem RW{fI:Aj}{g par f qual:Ah}{st:A9}(a:InI K fI qual st)(hk:Mt g par f st=Ab)(hb:∀(u0 u1 kV doc pm:Ai)(an:An Aj)(cdv ct:Ai),IZ (CD "__init__" qual (IH st) (Fo st) (Cp st) .none kV doc pm an cdv ct) ⟨[u0,u1],[]⟩=pure ((["self", par]:Ad Ah).zip [u0,u1]))(xc:DK K C (Aa (.ref fI))=Ab)(dc:Fb K C=Ab)(ty:Bw K (.ref fI)=Aa (.type "function"))(mo:mg g=Aa (.ref OV))(s1:Eb K (.ref OV) "__getattribute__" = Aa (Aa (.builtin "type.__getattribute__")))(s2:EW K OV (.type "type")=Ab)(s3:EV K (.ref OV) (.type "type") "__init__" = Aa (.val (.builtin "ValueError.__init__")))(hf:Av K (.ref C) f=Aa Ae)(hs:Av K (.ref C) "__setattr__" = Aa (Aa (.builtin "object.__setattr__"))):XIn K mg C f:=by
 obtain⟨fd,fn⟩:=a;unfold Mt at hk;simp only[Ak,AW,Do,GN,Ky]at hk;obtain⟨c1,c2,c3,c4,c5,c6,c7,c8,c9,c10,c11,c12⟩:=hk;obtain⟨z,k,np,apos,p1,p2,p3,p4,p5,cpos,p6,p7,p8,p9,p10,eb,hl,hz⟩:=Y4 c12;exact .mk xc dc fn ty ⟨c1,c2,c3,Jh c4,rfl,fun x hx=>by
  rcases AB.mp hx with rfl|hx
  ·exact .inl c5
  ·rw[BF.mp hx];exact .inl c6,c7⟩ c5 c6 (fn.binds fun kV doc pm an cdv ct us hu=>match us,hu with | [u0,u1],_=>hb u0 u1 kV doc pm an cdv ct) eb c8 mo (by simpa using c9) (by simpa using c10) (by simpa using c11) s1 s2 s3 hl hz hf hs
theorem Mj(h:∀ ds,xn c ds=.bad\/xn c ds=.ok ⟨c,[]⟩)(e:DK K C Ae=Ab)(ds:Ad D):xn c ds=.bad\/(xn c ds=.ok ⟨c,[]⟩/\DK K C Ae=Ab)\/∃ f,XIn K mg C f/\Mo xn c f ds:=(h ds).imp id fun z=>.inl ⟨z,e⟩
theorem SG{f:Ah}(h:∀ ds,xn c ds=mkX c f ds)(x:XIn K mg C f)(ds:Ad D):xn c ds=.bad\/(xn c ds=.ok ⟨c,[]⟩/\DK K C Ae=Ab)\/∃ f,XIn K mg C f/\Mo xn c f ds:=by
  have e:=h ds
  match ds,e with
  |[],e=>exact .inl e
  |_::_::_,e=>exact .inl e
  |[d],e=>
    have e':xn c [d]=if (xfD 1 d||xfD 2 d)=Ab then .ok ⟨c,[(f,d)]⟩ else .bad:=e
    by_cases z:(xfD 1 d||xfD 2 d)=Ab
    · rw[Aw z]at e';refine .inr (.inr ⟨f,x,d,?_⟩);rw[Cd]at z;rcases z with z|z
      · exact⟨0,rfl,z,by decide,e'⟩
      · exact⟨1,rfl,z,by decide,e'⟩
    · rw[AA z]at e';exact .inl e'
theorem Kk(dc:Fb K C=Ab)(h1:Av K (.ref C) "triple" = Aa Ae)(h2:Av K (.ref C) "points" = Aa Ae)(f:Ah)(h:(f==("triple" : Ah)||f==("points" : Ah))=Ab):Fb K C=Ab/\Av K (.ref C) f=Aa Ae:=by
 rw[Cd]at h;rcases h with h|h
 ·rw[eq_of_beq h];exact⟨dc,h1⟩
 ·rw[eq_of_beq h];exact⟨dc,h2⟩
def Li(K:Fg):Sp:=fun vs H Q _=>∃(a:Aj)(ns:Ad Af),vs=[.ref a]/\ns.length<=63/\SqL K H a (ns.map V.int)/\∀ v H',v=V.bl Ab->Q v H'
theorem law_fn{f:Aj}(G:FnOk P w K mg base CX k f fd ps (spD K CL 1 Ac F))(h:∀ ns:Ad Af,F [.lst (ns.map .int)]=.ok (.bl Ab)):FnOk P w K mg base CX k f fd ps (Li K):=G.imp fun vs H Q E ⟨a,ns,e,hl,hS,q⟩=>by
 subst e;have rs:∀ l:Ad Af,Reps K CL H A0 (l.map V.int) (l.map D.int):=fun l=>by
  induction l with
  |nil=>trivial
  |cons x l ih=>exact⟨rfl,ih⟩
 refine⟨[.lst (ns.map .int)],A0,rfl,fun _ z=>z.elim,⟨⟨a,_,rfl,.inl (fun z=>z),hS,rs ns⟩,trivial⟩,?_⟩
 rw[h ns];exact fun v H' _ r=>q v H' r.1
theorem YY{f:Aj}(G:FnOk P w K mg base CX k f fd ps (spD K CL 1 Ac F))(h:∀ ns:Ad Af,ns.length<=63->F [.lst (ns.map .int)]=.ok (.bl Ab)):FnOk P w K mg base CX k f fd ps (Li K):=G.imp fun vs H Q E ⟨a,ns,e,hl,hS,q⟩=>by
 subst e;have rs:∀ l:Ad Af,Reps K CL H A0 (l.map V.int) (l.map D.int):=fun l=>by
  induction l with
  |nil=>trivial
  |cons x l ih=>exact⟨rfl,ih⟩
 refine⟨[.lst (ns.map .int)],A0,rfl,fun _ z=>z.elim,⟨⟨a,_,rfl,.inl (fun z=>z),hS,rs ns⟩,trivial⟩,?_⟩
 rw[h ns hl];exact fun v H' _ r=>q v H' r.1
theorem K4{Q:α->Prop}:∀ x∈([]:Ad α),Q x:=fun _ h=>nomatch h
theorem all_cons{Q:α->Prop}{a:α}{l:Ad α}(h1:Q a)(h2:∀ x∈l,Q x):∀ x∈a::l,Q x:=List.forall_mem_cons.2 ⟨h1,h2⟩
def FnI(K:Fg)(f:Aj)(n:Ah)(st:A9):Prop:=∃ fd,Fun K n n st f fd/\AX K AM n=Aa (Aa (.ref f))
theorem fni{st:A9}{f:Aj}{kV doc pm cdv ct:Ai}(a:AX K AM n=Aa (Aa (.ref f)))(l:K.lookup f=Aa ⟨oc,od,.func (CD n n (IH st) (Fo st) (Cp st) .none kV doc pm an cdv ct),osl⟩)(c:El K cdv n=Ab)(k:B1 K (.ref f)=Ab):FnI K f n st:=⟨_,RP l c k,a⟩
def Bd(n:Ah)(st:A9)(ps:Ad Ah)(us:Ad Ai):Prop:=∀(kV doc pm:Ai)(an:An Aj)(cdv ct:Ai),IZ (CD n n (IH st) (Fo st) (Cp st) .none kV doc pm an cdv ct) ⟨us,[]⟩=pure (ps.zip us)
theorem Mf{f:Aj}{st:A9}{ps N:Ad Ah}(m id:Ag)(X:K.In h)(G:h.Ns AM mg)(A:FnI K f n st)(hl:ps.length=m%1000)(hc:Hg fuel (C5 1000 m) fns bl rzs exs gls ps N st (Pg.defs id)=Ab)(hb:∀ us:Ad Ai,us.length=ps.length->Bd n st ps us):Kn K mg fns bl rzs exs gls Pg fuel (n,id,m):=by
 obtain⟨fd,F,a⟩:=A;exact⟨_,_,_,_,_,_,Ba X G a,F,F.binds fun kV doc pm an cdv ct us hu=>hb us hu kV doc pm an cdv ct,hl,hc⟩
theorem Lm{f:Aj}{st:A9}{N:Ad Ah}(m id:Ag)(X:K.In h)(G:h.Ns AM mg)(A:FnI K f n st)(hl:1=m%1000)(hc:Hg fuel (C5 1000 m) fns bl rzs exs gls [x0] N st (Pg.defs id)=Ab)(hb:∀ u0,Bd n st [x0] [u0]):Kn K mg fns bl rzs exs gls Pg fuel (n,id,m):=
 Mf (ps:=[x0]) m id X G A hl hc fun us hu=>match us,hu with | [u0],_=>hb u0
theorem EQ{f:Aj}{st:A9}{N:Ad Ah}(m id:Ag)(X:K.In h)(G:h.Ns AM mg)(A:FnI K f n st)(hl:2=m%1000)(hc:Hg fuel (C5 1000 m) fns bl rzs exs gls [x0,x1] N st (Pg.defs id)=Ab)(hb:∀ u0 u1,Bd n st [x0,x1] [u0,u1]):Kn K mg fns bl rzs exs gls Pg fuel (n,id,m):=
 Mf (ps:=[x0,x1]) m id X G A hl hc fun us hu=>match us,hu with | [u0,u1],_=>hb u0 u1
theorem Mr{f:Aj}{st:A9}{N:Ad Ah}{x2:Ah}(m id:Ag)(X:K.In h)(G:h.Ns AM mg)(A:FnI K f n st)(hl:3=m%1000)(hc:Hg fuel (C5 1000 m) fns bl rzs exs gls [x0,x1,x2] N st (Pg.defs id)=Ab)(hb:∀ u0 u1 u2,Bd n st [x0,x1,x2] [u0,u1,u2]):Kn K mg fns bl rzs exs gls Pg fuel (n,id,m):=
 Mf (ps:=[x0,x1,x2]) m id X G A hl hc fun us hu=>match us,hu with | [u0,u1,u2],_=>hb u0 u1 u2
theorem Th{f:Aj}{st:A9}{N:Ad Ah}{x2 x3:Ah}(m id:Ag)(X:K.In h)(G:h.Ns AM mg)(A:FnI K f n st)(hl:4=m%1000)(hc:Hg fuel (C5 1000 m) fns bl rzs exs gls [x0,x1,x2,x3] N st (Pg.defs id)=Ab)(hb:∀ u0 u1 u2 u3,Bd n st [x0,x1,x2,x3] [u0,u1,u2,u3]):Kn K mg fns bl rzs exs gls Pg fuel (n,id,m):=
 Mf (ps:=[x0,x1,x2,x3]) m id X G A hl hc fun us hu=>match us,hu with | [u0,u1,u2,u3],_=>hb u0 u1 u2 u3
end
end Ov
namespace OvC
open PySem Ov
variable{p u k v:Af}{d PP q0 q1 q2 q3:D}{ns xs:Ad Af}{m n i j:Ag}{Γ:Gam}{α:Type}{s2 s3 s7:Sl}{ρ:Rho}{P0:Ad D}
noncomputable def M5:Df:=⟨4,Ac,(.cons (.ret (.call 1 (.cons (.var 0) (.cons (.bin .Add (.bin .Sub (.bin .Mult (.idx (.var 1) (.int 0)) (.bin .Sub (.bin .Mult (.idx (.var 2) (.int 1)) (.idx (.var 3) (.int 2))) (.bin .Mult (.idx (.var 2) (.int 2)) (.idx (.var 3) (.int 1))))) (.bin .Mult (.idx (.var 1) (.int 1)) (.bin .Sub (.bin .Mult (.idx (.var 2) (.int 0)) (.idx (.var 3) (.int 2))) (.bin .Mult (.idx (.var 2) (.int 2)) (.idx (.var 3) (.int 0)))))) (.bin .Mult (.idx (.var 1) (.int 2)) (.bin .Sub (.bin .Mult (.idx (.var 2) (.int 0)) (.idx (.var 3) (.int 1))) (.bin .Mult (.idx (.var 2) (.int 1)) (.idx (.var 3) (.int 0)))))) .nil)))) .nil)⟩
noncomputable abbrev tr(a b c:Af):D:=.tup [.int a,.int b,.int c]
noncomputable def det(a0 a1 a2 b0 b1 b2 c0 c1 c2:Af):Af:=a0*(b1*c2-b2*c1)-a1*(b0*c2-b2*c0)+a2*(b0*c1-b1*c0)
def Sm(x:Af):Prop:=0<=x/\x<11
theorem mo{x:Af}(h:Sm x)(y:Af):Ez x y=Ab:=Jl (by have:=h.1;omega) (by have:=h.2;omega)
theorem Sm.of(h:P4 p)(x:Af):Sm (x%p):=⟨Bl _ (by have:=h.pos;omega),by have:=Bm x h.pos;have:=h.hi;omega⟩
theorem Pq{body:D->Rho->O}(I:Rho->Prop)(g:Af->Ao):∀(L:Ad Af),(∀ t∈L,∀ ρ,I ρ->(g t=Ab/\body (.int t) ρ=.ret (.int t) Ac)\/(g t=Ac/\∃ ρ',body (.int t) ρ=.next ρ'/\I ρ'))->∀ ρ,I ρ->(∃ t∈L,g t=Ab/\Ch body (L.map D.int) ρ=.ret (.int t) Ac)\/((∀ t∈L,g t=Ac)/\∃ ρ',Ch body (L.map D.int) ρ=.next ρ'/\I ρ')
 |[],_,ρ,i=>.inr ⟨(fun _ h=>nomatch h),ρ,rfl,i⟩
 |m::L,h,ρ,i=>by
  rcases h m (AI ..) ρ i with ⟨e1,e2⟩|⟨e1,ρ',e2,i'⟩
  ·refine .inl ⟨m,AI ..,e1,?_⟩;show (body (.int m) ρ).turn _=_;rw[e2];rfl
  ·rcases Pq I g L (fun m' h'=>h m' (Ax _ h')) ρ' i' with ⟨t,ht,a,b⟩|⟨a,r,b,c⟩
   ·refine .inl ⟨t,Ax _ ht,a,?_⟩;show (body (.int m) ρ).turn _=_;rw[e2];exact b
   ·refine .inr ⟨fun t ht=>?_,r,?_,c⟩
    ·rcases AB.mp ht with rfl|ht
     ·exact e1
     ·exact a t ht
    ·show (body (.int m) ρ).turn _=_;rw[e2];exact b
noncomputable def JO:Ss:=(.cons (.ife (.cmp .Eq (.call 1 (.cons (.var 0) (.cons (.bin .Mult (.var 1) (.var 2)) .nil))) (.int 1)) (.cons (.ret (.var 2)) .nil) .nil) .nil)
noncomputable def Lx:Df:=⟨3,Ac,(.cons (.fors 2 (.rng2 (.int 1) (.var 0)) JO) (.cons (.rais 2 (.cons (.str (AV "a number with the rest 0 is not turned over")) .nil)) .nil))⟩
noncomputable def Ko(p:Af):Ad Af:=(Bz (p-1).toNat).map fun(k:Ag)=>1+(k:Af)
theorem Nf{t:Af}:t∈Ko p↔1<=t/\t<p:=by
 unfold Ko;rw[List.mem_map];constructor
 ·rintro⟨k,hk,rfl⟩;have:=BB.mp hk;omega
 ·rintro⟨h1,h2⟩;exact⟨(t-1).toNat,BB.mpr (by omega),by omega⟩
theorem W2(h:P4 p):C9 1 p=.ok ((Ko p).map D.int):=by
 rcases h with rfl|rfl|rfl|rfl<;>rfl
theorem Y1:∀ p:Fin 12,(p.val=3\/p.val=5\/p.val=7\/p.val=11)->∀ r:Fin 12,r.val<p.val->r.val≠0->∃ t:Fin 12,1<=t.val/\t.val<p.val/\r.val*t.val%p.val=1:=by decide +kernel
theorem Kc{n:Af}(h:P4 p)(hn:n%p≠0):∃ t,1<=t/\t<p/\n*t%p=1:=by
 have p0:0<p/\p<12:=by rcases h with rfl|rfl|rfl|rfl<;>decide
 obtain⟨q,rfl⟩:∃ q:Ag,p=q:=⟨p.toNat,by omega⟩
 have h0:=Bl n (b:=(q:Af)) (by omega)
 have h1:=Bm n p0.1;obtain⟨r,hr⟩:∃ r:Ag,n%(q:Af)=r:=⟨(n%(q:Af)).toNat,by omega⟩
 obtain⟨t,t1,t2,t3⟩:=Y1 ⟨q,by omega⟩ (by rcases h with e|e|e|e<;>simp<;>omega) ⟨r,by omega⟩ (by show r<q;omega) (by show r≠0;omega)
 refine⟨(t.val:Af),by omega,by show (t.val:Af)<q;exact Int.ofNat_lt.mpr t2,?_⟩
 have e:((r*t.val%q:Ag):Af)=1:=by rw[show r*t.val%q=1 from t3];rfl
 rw[<-e,Int.natCast_emod,Int.natCast_mul,<-hr];exact(BH n _ _).trans (by rw[BH (n%(q:Af)) (t.val:Af) (q:Af),Bt n (Cn _)])
theorem Ey{r:R D}(h:r=.ok d):D9 Ab r=.ok d:=by rw[h];rfl
def Ii(p n t:Af):Prop:=1<=t/\t<p/\n*t%p=1
theorem WM{n t:Af}(h1:Ii p n t)(h2:Ii p n u):t=u:=by
 have hp:1<p:=by have:=h1.1;have:=h1.2.1;omega
 have e:t%p=u%p:=by
  have a:t%p=t*(n*u)%p:=by rw[BH,h2.2.2,EH,Bt _ (Cn p)]
  have b:u%p=(n*t)*u%p:=by rw[BH (n*t) u p,h1.2.2,Db,Bt _ (Cn p)]
  rw[a,b]
  congr 1
  rw[<-FB,BW t n]
 rw[A1 (by have:=h1.1;omega) h1.2.1,A1 (by have:=h2.1;omega) h2.2.1]at e
 exact e
theorem F8{c x:Af}(hp:P4 p)(hc:c%p≠0)(hx:x%p≠0):c*x%p≠0:=fun z=>by
 obtain⟨t,_,_,e⟩:=Kc hp hc;refine hx ?_;have e1:x%p=(c*t)*x%p:=by rw[BH (c*t) x p,e,Db,Bt _ (Cn p)]
 rw[e1,show c*t*x=t*(c*x) by rw[BW c t,FB],BH,z,Ee,BE]
noncomputable def lead(p:Af):Ad Af->An Af
 |[]=>Ae
 |x::xs=>if x%p=0 then lead p xs else Aa (x%p)
theorem Ji{p:Af}:∀{xs:Ad Af},lead p xs=Ae↔∀ x∈xs,x%p=0
 |[]=>by simp[lead]
 |x::xs=>by
  unfold lead;by_cases h:x%p=0
  ·rw[Aw h,Ji (xs:=xs)];simp[h]
  ·rw[AA h];simp[h]
theorem LK{p l:Af}(hp:0<p):∀{xs:Ad Af},lead p xs=Aa l->l%p≠0/\0<l/\l<p
 |[],h=>by cases h
 |x::xs,h=>by
  unfold lead at h;by_cases hx:x%p=0
  ·rw[Aw hx]at h;exact LK hp h
  ·rw[AA hx]at h;cases h;have h0:=Bl x (b:=p) (by omega)
   have h1:=Bm x hp;exact⟨by rw[Bt _ (Cn p)];exact hx,by omega,h1⟩
theorem KZ{p c:Af}(hp:P4 p)(hc:c%p≠0){f:Af->Af}(hf:∀ x,f x%p=c*x%p):∀ xs:Ad Af,lead p (xs.map f)=(lead p xs).map fun l=>c*l%p
 |[]=>rfl
 |x::xs=>by
  rw[CI];unfold lead;rw[hf x];by_cases hx:x%p=0
  ·rw[Aw hx,Aw (by rw[BH,hx,Ee,BE]),KZ hp hc hf xs]
  ·rw[AA hx,AA (F8 hp hc hx),ET]
   congr 1
   rw[BH c (x%p),Bt _ (Cn p),<-BH]
noncomputable def ds(xs:Ad Af):Ad D:=xs.map D.int
noncomputable def DV(b:Ao)(xs:Ad Af):D:=if b=Ab then .tup (ds xs) else .lst (ds xs)
theorem Pv(b xs):Ck (DV b xs)=.ok (ds xs):=by unfold DV;cases b<;>rfl
theorem LD{g:D->R Ao}{f:D->R D}{φ:Af->Af}:∀(xs:Ad Af),(∀ x∈xs,g (.int x)=.ok Ab/\f (.int x)=.ok (.int (φ x)))->BG g f (ds xs)=.ok (ds (xs.map φ))
 |[],_=>rfl
 |x::xs,h=>by
  obtain⟨h1,h2⟩:=h x (AI ..);show (g (.int x)).bind _=_;rw[h1,R.bind_ok,Aw rfl,h2,R.bind_ok];show (BG g f (ds xs)).bind _=_;rw[LD xs fun y hy=>h y (Ax _ hy)]
  rfl
noncomputable def DF:E:=(.bl Ab)
noncomputable def MH:E:=(.call 1 (.cons (.var 0) (.cons (.var 5) .nil)))
noncomputable def MG:E:=(.call 1 (.cons (.var 0) (.cons (.bin .Mult (.var 4) (.var 6)) .nil)))
noncomputable def G3:Ss:=(.cons (.ife (.cmp .NotEq (.var 3) (.int 0)) (.cons (.asg 4 Ac (.call 9 (.cons (.var 0) (.cons (.var 3) .nil)))) (.cons (.ret (.bi .tuple (.cons (.comp MG 6 (.e (.var 2)) DF) .nil))) .nil)) .nil) .nil)
noncomputable def LJ:Df:=⟨7,Ac,(.cons (.asg 2 Ac (.comp MH 5 (.e (.var 1)) DF)) (.cons (.fors 3 (.e (.var 2)) G3) (.cons (.rais 3 (.cons (.str (AV "all the numbers have the rest 0")) .nil)) .nil)))⟩
noncomputable def fmI(p t:Af)(xs:Ad Af):Ad Af:=xs.map fun x=>t*(x%p)%p
section
variable{Γ:Gam}{p:Af}{xs:Ad Af}{b:Ao}
end
theorem O3{g:D->R Ao}{f:D->R D}{q:Af->Ao}:∀(xs:Ad Af),(∀ x∈xs,g (.int x)=.ok (q x)/\f (.int x)=.ok (.int x))->BG g f (ds xs)=.ok (ds (xs.filter q))
 |[],_=>rfl
 |x::xs,h=>by
  obtain⟨h1,h2⟩:=h x (AI ..);have ih:=O3 xs fun y hy=>h y (Ax _ hy)
  show (g (.int x)).bind _=_;rw[h1,R.bind_ok];cases hq:q x with
  |true=>
   rw[Aw rfl,h2,R.bind_ok,FJ,hq,Aw rfl];show (BG g f (ds xs)).bind _=_;rw[ih];rfl
  |false=>
   rw[AA (by decide),FJ,hq,AA (by decide)]
   exact ih
theorem O7{p:Af}(hp:0<p):∀(xs:Ad Af),((xs.map fun x=>x%p).filter fun r=>decide (0<r)).head?=lead p xs
 |[]=>rfl
 |x::xs=>by
  have h0:=Bl x (b:=p) (by omega)
  unfold lead;rw[CI,FJ];by_cases h:x%p=0
  ·rw[Aw h,AA (by simp[h]),O7 hp xs]
  ·rw[AA h,Aw (by simp;omega)]
   rfl
noncomputable abbrev own(xs:Ad Af):Sl:=Aa (.lst (ds xs),Ab)
section
variable{Γ:Gam}{ns:Ad Af}{a1 a2 a4 a6 a7 a8 a9 b0 b1 b2 b3 b4:Sl}{p:Af}
end
section
variable{Γ:Gam}{ns:Ad Af}{a1 a4 a6 a7 a8 a9 b2 b3 b4:Sl}{p m:Af}{xs:Ad Af}
end
def Cg(p x y:Af):Prop:=x%p=y%p
section
variable{p a b c d:Af}
theorem Cg.rfl:Cg p a a:=Eq.refl _
theorem Cg.of(h:a=b):Cg p a b:=by unfold Cg;rw[h]
theorem Cg.trans{a b c:Af}(h:Cg p a b)(g:Cg p b c):Cg p a c:=Eq.trans h g
theorem Cg.symm(h:Cg p a b):Cg p b a:=Eq.symm h
theorem Cg.add(h:Cg p a b)(g:Cg p c d):Cg p (a+c) (b+d):=by unfold Cg at *;rw[Ua,h,g,<-Ua]
theorem Cg.sub(h:Cg p a b)(g:Cg p c d):Cg p (a-c) (b-d):=by unfold Cg at *;rw[Ud,h,g,<-Ud]
theorem Cg.mul(h:Cg p a b)(g:Cg p c d):Cg p (a*c) (b*d):=by unfold Cg at *;rw[BH,h,g,<-BH]
theorem Cg.md(h:a=b%p):Cg p a b:=by unfold Cg;rw[h,Bt _ (Cn p)]
end
theorem fS{p a0 a1 a2 b0 b1 b2 c0 c1 c2 x0 x1 x2 y0 y1 y2 z0 z1 z2:Af}(h0:Cg p a0 x0)(h1:Cg p a1 x1)(h2:Cg p a2 x2)(h3:Cg p b0 y0)(h4:Cg p b1 y1)(h5:Cg p b2 y2)(h6:Cg p c0 z0)(h7:Cg p c1 z1)(h8:Cg p c2 z2):Cg p (a0*(b1*c2-b2*c1)-a1*(b0*c2-b2*c0)+a2*(b0*c1-b1*c0)) (x0*(y1*z2-y2*z1)-x1*(y0*z2-y2*z0)+x2*(y0*z1-y1*z0)):=
 ((h0.mul ((h4.mul h8).sub (h5.mul h7))).sub (h1.mul ((h3.mul h8).sub (h5.mul h6)))).add (h2.mul ((h3.mul h7).sub (h4.mul h6)))
theorem P4.m1(h:P4 p):(-1:Af)%p≠0:=by rcases h with rfl|rfl|rfl|rfl<;>decide
theorem P4.o1(h:P4 p):(1:Af)%p≠0:=by rcases h with rfl|rfl|rfl|rfl<;>decide
abbrev R3:=Af×Af×Af
variable{a x y r g:R3}{pts:Ad R3}{t:R3×R3×R3×R3}
noncomputable def Hy(a:R3):D:=.lst [.int a.1,.int a.2.1,.int a.2.2]
noncomputable def Ar(a b c:R3):Af:=det a.1 a.2.1 a.2.2 b.1 b.2.1 b.2.2 c.1 c.2.1 c.2.2
def In3(p:Af)(a:R3):Prop:=(0<=a.1/\a.1<p)/\(0<=a.2.1/\a.2.1<p)/\(0<=a.2.2/\a.2.2<p)
structure GoodR (p:Af) (a b c:R3):Prop where
 p4:P4 p
 ia:In3 p a
 ib:In3 p b
 ic:In3 p c
 nz:Ar a b c%p≠0
theorem GoodR.of{a b c a' b' c':R3}(h:GoodR p a b c)(hk:k%p≠0)(e:Cg p (Ar a' b' c') (k*Ar a b c))(hin:In3 p a'/\In3 p b'/\In3 p c'):GoodR p a' b' c':=⟨h.p4,hin.1,hin.2.1,hin.2.2,by rw[show Ar a' b' c'%p=_ from e];exact F8 h.p4 hk h.nz⟩
theorem YJ(h0:0<=k)(h1:k<ns.length):Da (ns.map D.int) k=.ok (.int (ns.getD k.toNat 0)):=P7 h0 (by
 have:k.toNat<ns.length:=by omega
 simp[this])
noncomputable abbrev ownR(a b c:R3):Sl:=Aa (.lst [Hy a,Hy b,Hy c],Ab)
section
variable{Γ:Gam}{ns:Ad Af}{at_ many s5 s0 s1 s2:Sl}{p t m:Af}{a b c:R3}
end
section
variable{Γ:Gam}{ns:Ad Af}{many s5 s6 s7 s8 s9 s0 s1 s2:Sl}{p:Af}{a b c:R3}
end
noncomputable def trR(a:R3):D:=.tup [.int a.1,.int a.2.1,.int a.2.2]
noncomputable def Lo(a b c:R3):D:=.tup [trR a,trR b,trR c]
noncomputable def fmR(p t:Af)(a:R3):R3:=(t*(a.1%p)%p,t*(a.2.1%p)%p,t*(a.2.2%p)%p)
def Bd(n:Ag)(x:Af):Prop:=x.natAbs<2 ^ n
theorem Bd.mul{x y:Af}(h:Bd m x)(g:Bd n y):Bd (m+n) (x*y):=by
 unfold Bd at *;rw[Int.natAbs_mul,Nat.pow_add];exact Nat.mul_lt_mul'' h g
theorem Bd.sub{x y:Af}(h:Bd n x)(g:Bd n y):Bd (n+1) (x-y):=by
 unfold Bd at *;rw[Nat.pow_succ];omega
theorem GA{x y:Af}(h:Bd m x)(g:Bd n y)(hm:m<=2000)(hn:n<=2000):EO x y=Ab:=by
 unfold EO Bd at *;rw[Ak,AG,AG];exact⟨AR h (FZ (by decide) hm),AR g (FZ (by decide) hn)⟩
def B3(a:R3):Prop:=Bd 300 a.1/\Bd 300 a.2.1/\Bd 300 a.2.2
noncomputable def Aq(q:Ao)(a:R3):D:=DV q [a.1,a.2.1,a.2.2]
theorem HW(q:Ao)(a:R3):CG (Aq q a) (.int 0)=.ok (.int a.1)/\CG (Aq q a) (.int 1)=.ok (.int a.2.1)/\CG (Aq q a) (.int 2)=.ok (.int a.2.2):=by cases q<;>exact⟨rfl,rfl,rfl⟩
def Nr(Γ:Gam):Prop:=∀(p:Af)(q:Ao)(a b c:R3),0<p->B3 a->B3 b->B3 c->Γ.F 61 [.int p,Aq q a,Aq q b,Aq q c]=.ok (.int (Ar a b c%p))
theorem XU(h:II Γ)(p:Af)(q:Ao)(a b c:R3)(hp:0<p)(ha:B3 a)(hb:B3 b)(hc:B3 c):M5.run Γ [.int p,Aq q a,Aq q b,Aq q c]=.ok (.int (Ar a b c%p)):=by
 obtain⟨a0,a1,a2⟩:=HW q a;obtain⟨b0,b1,b2⟩:=HW q b;obtain⟨c0,c1,c2⟩:=HW q c;have k:∀ {x y},Bd 300 x->Bd 300 y->EO x y=Ab:=fun hx hy=>GA hx hy (by decide) (by decide)
 have k2:∀ {x y z u v},Bd 300 x->Bd 300 y->Bd 300 z->Bd 300 u->Bd 300 v->EO x (y*z-u*v)=Ab:=fun hx hy hz hu hv=>GA hx ((hy.mul hz).sub (hu.mul hv)) (by decide) (by decide)
 simp[M5,Df.run,BA,a0,a1,a2,b0,b1,b2,c0,c1,c2,k hb.2.1 hc.2.2,k hb.2.2 hc.2.1,k hb.1 hc.2.2,k hb.2.2 hc.1,k hb.1 hc.2.1,k hb.2.1 hc.1,k2 ha.1 hb.2.1 hc.2.2 hb.2.2 hc.2.1,k2 ha.2.1 hb.1 hc.2.2 hb.2.2 hc.1,k2 ha.2.2 hb.1 hc.2.1 hb.2.1 hc.1,h p _ hp];rfl
section
variable{Γ:Gam}{ns:Ad Af}{p t:Af}{a b c r:R3}{made s6 s7:Sl}
end
theorem MP{p:Af}:∀{xs ys:Ad Af},xs.map (fun x=>x%p)=ys.map (fun x=>x%p)->lead p xs=lead p ys
 |[],[],_=>rfl
 |x::xs,y::ys,h=>by
  rw[CI,CI,Uh]at h;unfold lead;rw[h.1,MP h.2]
 |[],_::_,h=>by simp at h
 |_::_,[],h=>by simp at h
theorem WQ{t:Af}{ys:Ad Af}(h:xs.map (fun x=>x%p)=ys.map (fun x=>x%p)):fmI p t xs=fmI p t ys:=by
 have e:∀ zs:Ad Af,fmI p t zs=(zs.map fun x=>x%p).map fun r=>t*r%p:=fun zs=>by simp[fmI,Io,GH]
 rw[e,e,h]
theorem lB(hp:0<p)(t:Af)(a:R3):In3 p (fmR p t a):=⟨⟨Bl _ (by omega),Bm _ hp⟩,⟨Bl _ (by omega),Bm _ hp⟩,⟨Bl _ (by omega),Bm _ hp⟩⟩
section
variable{Γ:Gam}{ns:Ad Af}{p m:Af}{a b c:R3}{fa fb fc:R3}{q:Ao}{s9 s0 s1 s2:Sl}
end
def M7(Γ:Gam):Prop:=∀ p n:Af,P4 p->n%p≠0->∃ t,1<=t/\t<p/\n*t%p=1/\Γ.F 9 [.int p,.int n]=.ok (.int t)
def Nt(Γ:Gam):Prop:=∀(p:Af)(b:Ao)(xs:Ad Af)(l t:Af),P4 p->lead p xs=Aa l->Ii p l t->Γ.F 17 [.int p,DV b xs]=.ok (.tup (ds (fmI p t xs)))
theorem Wh(hr:II Γ)(p n:Af)(hp:P4 p)(z:n%p≠0):∃ t,1<=t/\t<p/\n*t%p=1/\Lx.run Γ [.int p,.int n]=.ok (.int t):=by
 have p0:=hp.pos;have ph:=hp.hi;have body:∀ t∈Ko p,∀ ρ,(∃ s,ρ=[si p,si n,s])->(decide (n*t%p=1)=Ab/\BM Γ 2 JO (.int t) ρ=.ret (.int t) Ac)\/(decide (n*t%p=1)=Ac/\∃ ρ',BM Γ 2 JO (.int t) ρ=.next ρ'/\∃ s,ρ'=[si p,si n,s]):=by
  rintro t ht ρ ⟨s,rfl⟩;obtain⟨t1,t2⟩:=Nf.mp ht;have m:Ez n t=Ab:=NA (by omega) (by omega)
  by_cases e:n*t%p=1
  ·exact .inl ⟨by simp[e],by simp[BM,JO,hr p (n*t) p0,m,e,D0]⟩
  ·exact .inr ⟨by simp[e],_,by simp[BM,JO,hr p (n*t) p0,m,e];rfl,_,rfl⟩
 have run:∀ o,Ch (BM Γ 2 JO) ((Ko p).map D.int) [si p,si n,Ae]=o->Lx.run Γ [.int p,.int n]=(Gk Γ (.cons (.rais 2 (.cons (.str (AV "a number with the rest 0 is not turned over")) .nil)) .nil) o).ans Ac:=by
  rintro o rfl;simp[Lx,Df.run,BA,W2 hp]
 rcases Pq (fun ρ=>∃ s,ρ=[si p,si n,s]) (fun t=>decide (n*t%p=1)) (Ko p) body [si p,si n,Ae] ⟨_,rfl⟩ with ⟨t,ht,a,b⟩|⟨a,r,b,s,rfl⟩
 ·obtain⟨t1,t2⟩:=Nf.mp ht;have a':n*t%p=1:=by simpa using a
  exact⟨t,t1,t2,a',by rw[run _ b];rfl⟩
 ·obtain⟨t,t1,t2,e⟩:=Kc hp z;have:=a t (Nf.mpr ⟨t1,t2⟩);simp[e]at this
section
variable{Γ:Gam}{p:Af}{xs:Ad Af}{b:Ao}
theorem Qu(hr:II Γ)(ht:M7 Γ)(hp:P4 p)(rs:Ad Af):∀(ys:Ad Af),(∀ y∈ys,0<=y/\y<p)->∀ s3,(lead p ys=Ae->∃ s3',Ch (BM Γ 3 G3) (ds ys) [si p,sh (DV b xs),sh (.lst (ds rs)),s3,Ae,Ae,Ae]=.next [si p,sh (DV b xs),sh (.lst (ds rs)),s3',Ae,Ae,Ae])/\(∀ l t,lead p ys=Aa l->Ii p l t->Ch (BM Γ 3 G3) (ds ys) [si p,sh (DV b xs),sh (.lst (ds rs)),s3,Ae,Ae,Ae]=.ret (.tup (ds (rs.map fun r=>t*r%p))) Ac)
 |[],_,s3=>⟨fun _=>⟨s3,rfl⟩,(fun l t h=>nomatch h)⟩
 |y::ys,hy,s3=>by
  obtain⟨y0,y1⟩:=hy y (AI ..);have ym:y%p=y:=A1 y0 y1;have ih:=Qu hr ht hp rs ys (fun z hz=>hy z (Ax _ hz)) (si y)
  have step:∀ o,BM Γ 3 G3 (.int y) [si p,sh (DV b xs),sh (.lst (ds rs)),s3,Ae,Ae,Ae]=o->Ch (BM Γ 3 G3) (ds (y::ys)) [si p,sh (DV b xs),sh (.lst (ds rs)),s3,Ae,Ae,Ae]=o.turn (Ch (BM Γ 3 G3) (ds ys)):=by
   rintro o rfl;rfl
  unfold lead;rw[ym];by_cases hz:y=0
  ·have e:BM Γ 3 G3 (.int y) [si p,sh (DV b xs),sh (.lst (ds rs)),s3,Ae,Ae,Ae]=.next [si p,sh (DV b xs),sh (.lst (ds rs)),si y,Ae,Ae,Ae]:=by
    simp[BM,G3,hz]
   rw[Aw hz,step _ e];exact ih
  ·rw[AA hz];refine⟨(fun z=>nomatch z),fun l t e it=>?_⟩
   cases e;obtain⟨u,u1,u2,u3,u4⟩:=ht p y hp (by rw[ym];exact hz)
   have:t=u:=WM it ⟨u1,u2,u3⟩;subst this;have p0:=hp.pos;have ph:=hp.hi;have cp:BG (cG Γ [si p,sh (DV b xs),sh (.lst (ds rs)),si y,si t,Ae,Ae] 6 DF) (cF Γ [si p,sh (DV b xs),sh (.lst (ds rs)),si y,si t,Ae,Ae] 6 MG) (ds rs)=.ok (ds (rs.map fun r=>t*r%p)):=by
    refine LD rs fun r _=>⟨rfl,?_⟩
    have m:Ez t r=Ab:=Jl (by omega) (by omega)
    simp[cF,MG,m,hr p (t*r) p0]
   have e:BM Γ 3 G3 (.int y) [si p,sh (DV b xs),sh (.lst (ds rs)),s3,Ae,Ae,Ae]=.ret (.tup (ds (rs.map fun r=>t*r%p))) Ac:=by
    simp[BM,G3,hz,u4,cp,D0]
   rw[step _ e];rfl
theorem Y7(hr:II Γ)(ht:M7 Γ)(hp:P4 p){l t:Af}(e:lead p xs=Aa l)(it:Ii p l t):LJ.run Γ [.int p,DV b xs]=.ok (.tup (ds (fmI p t xs))):=by
 have p0:=hp.pos;have cp:BG (cG Γ [si p,sh (DV b xs),Ae,Ae,Ae,Ae,Ae] 5 DF) (cF Γ [si p,sh (DV b xs),Ae,Ae,Ae,Ae,Ae] 5 MH) (ds xs)=.ok (ds (xs.map fun x=>x%p)):=by
  refine LD xs fun x _=>⟨rfl,?_⟩
  simp[cF,MH,hr p x p0]
 have run:∀ o,Ch (BM Γ 3 G3) (ds (xs.map fun x=>x%p)) [si p,sh (DV b xs),sh (.lst (ds (xs.map fun x=>x%p))),Ae,Ae,Ae,Ae]=o->LJ.run Γ [.int p,DV b xs]=(Gk Γ (.cons (.rais 3 (.cons (.str (AV "all the numbers have the rest 0")) .nil)) .nil) o).ans Ac:=by
  rintro o rfl;simp[LJ,Df.run,BA,Pv,cp]
 have le:lead p (xs.map fun x=>x%p)=lead p xs:=by
  have:=KZ (c:=1) hp (by rcases hp with rfl|rfl|rfl|rfl<;>decide) (f:=fun x=>x%p) (fun x=>by rw[Db,Bt _ (Cn p)]) xs
  rw[this];cases e:lead p xs with
  |none=>rfl
  |some l=>
   obtain⟨_,l0,l1⟩:=LK p0 e;simp[A1 (Int.le_of_lt l0) l1]
 obtain⟨a,c⟩:=Qu (b:=b) (xs:=xs) hr ht hp (xs.map fun x=>x%p) (xs.map fun x=>x%p) (fun y hy=>by
  obtain⟨x,_,rfl⟩:=CC.mp hy;exact⟨Bl _ (by omega),Bm _ p0⟩) Ae
 rw[le]at a c;rw[run _ (c l t e it)];simp[fmI,Io,GH]
end
noncomputable def Ic(a b c:R3):R3:=(a.1,b.1,c.1)
noncomputable def Ib(a b c:R3):R3:=(a.2.1,b.2.1,c.2.1)
noncomputable def Ia(a b c:R3):R3:=(a.2.2,b.2.2,c.2.2)
noncomputable def Bp(a x:R3):Af:=a.1*x.1+a.2.1*x.2.1+a.2.2*x.2.2
noncomputable def crs(a b:R3):R3:=(a.2.1*b.2.2-a.2.2*b.2.1,a.2.2*b.1-a.1*b.2.2,a.1*b.2.1-a.2.1*b.1)
theorem Q9:∀ xs ys:Ad Af,eqDs (ds xs) (ds ys)=decide (xs=ys)
 |[],[]=>rfl
 |[],_::_=>rfl
 |_::_,[]=>rfl
 |x::xs,y::ys=>by
  show ((x==y)&&eqDs (ds xs) (ds ys))=_;rw[Q9 xs ys,CS];simp
theorem Kd(a b:R3):eqD (Aq Ab a) (Aq Ab b)=decide (a=b):=by
 show eqDs (ds [a.1,a.2.1,a.2.2]) (ds [b.1,b.2.1,b.2.2])=_;rw[Q9,CS];simp only[Uh,and_true,AG];exact⟨fun ⟨h1,h2,h3⟩=>by obtain⟨a1,a2,a3⟩:=a;obtain⟨b1,b2,b3⟩:=b;simp at h1 h2 h3;rw[h1,h2,h3],fun h=>by rw[h];exact⟨rfl,rfl,rfl⟩⟩
noncomputable def M6:Df:=⟨2,Ac,(.cons (.ife (.cmp .Eq (.var 0) (.var 1)) (.cons (.rais 7 (.cons (.var 0) .nil)) .nil) .nil) (.cons (.ret (.tup (.cons (.bin .Sub (.bin .Mult (.idx (.var 0) (.int 1)) (.idx (.var 1) (.int 2))) (.bin .Mult (.idx (.var 0) (.int 2)) (.idx (.var 1) (.int 1)))) (.cons (.bin .Sub (.bin .Mult (.idx (.var 0) (.int 2)) (.idx (.var 1) (.int 0))) (.bin .Mult (.idx (.var 0) (.int 0)) (.idx (.var 1) (.int 2)))) (.cons (.bin .Sub (.bin .Mult (.idx (.var 0) (.int 0)) (.idx (.var 1) (.int 1))) (.bin .Mult (.idx (.var 0) (.int 1)) (.idx (.var 1) (.int 0)))) .nil))))) .nil))⟩
def ZI(Γ:Gam):Prop:=∀ a b:R3,B3 a->B3 b->a≠b->Γ.F 23 [Aq Ab a,Aq Ab b]=.ok (Aq Ab (crs a b))
theorem Y9(Γ:Gam)(a b:R3)(ha:B3 a)(hb:B3 b)(ne:a≠b):M6.run Γ [Aq Ab a,Aq Ab b]=.ok (Aq Ab (crs a b)):=by
 obtain⟨x0,x1,x2⟩:=HW Ab a;obtain⟨y0,y1,y2⟩:=HW Ab b;have k:∀ {u v},Bd 300 u->Bd 300 v->EO u v=Ab:=fun hu hv=>GA hu hv (by decide) (by decide)
 have f:∀ r:R3,flD 5 (Aq Ab r)=Ab:=fun _=>rfl
 have e:eqD (Aq Ab a) (Aq Ab b)=Ac:=by rw[Kd];exact BK ne
 simp[M6,Df.run,BA,f,e,x0,x1,x2,y0,y1,y2,k ha.2.1 hb.2.2,k ha.2.2 hb.2.1,k ha.2.2 hb.1,k ha.1 hb.2.2,k ha.1 hb.2.1,k ha.2.1 hb.1];rfl
noncomputable def bk0(a b c:R3):R3:=Ic (crs b c) (crs c a) (crs a b)
noncomputable def bk1(a b c:R3):R3:=Ib (crs b c) (crs c a) (crs a b)
noncomputable def bk2(a b c:R3):R3:=Ia (crs b c) (crs c a) (crs a b)
theorem Ll{x:Af}(hp:P4 p)(h0:0<=x)(h1:x<p):Bd 10 x:=by
 unfold Bd;have:=hp.hi;omega
theorem Bd.mono{x:Af}(h:Bd m x)(hm:m<=n):Bd n x:=AR h (FZ (by decide) hm)
def Bn(n:Ag)(a:R3):Prop:=Bd n a.1/\Bd n a.2.1/\Bd n a.2.2
theorem Bn.b3(h:Bn n a)(hn:n<=300):B3 a:=⟨h.1.mono hn,h.2.1.mono hn,h.2.2.mono hn⟩
theorem Fe(hp:P4 p)(h:In3 p a):Bn 10 a:=⟨Ll hp h.1.1 h.1.2,Ll hp h.2.1.1 h.2.1.2,Ll hp h.2.2.1 h.2.2.2⟩
theorem kU{a b:R3}(ha:Bn n a)(hb:Bn n b):Bn (n+n+1) (crs a b):=
 ⟨(ha.2.1.mul hb.2.2).sub (ha.2.2.mul hb.2.1),(ha.2.2.mul hb.1).sub (ha.1.mul hb.2.2),(ha.1.mul hb.2.1).sub (ha.2.1.mul hb.1)⟩
theorem NY(a b c:R3):Ar (bk0 a b c) (bk1 a b c) (bk2 a b c)=Ar a b c*Ar a b c:=by
 unfold Ar det bk0 bk1 bk2 Ic Ib Ia crs;grind
noncomputable def Di(k:Af)(a:R3):R3:=(k*a.1,k*a.2.1,k*a.2.2)
noncomputable def fk0(p:Af)(a b c d:R3):Af:=Ar d b c%p
noncomputable def fs0(p:Af)(a b c d:R3):R3:=Di (fk0 p a b c d) a
def CgR(p:Af)(x y:R3):Prop:=Cg p x.1 y.1/\Cg p x.2.1 y.2.1/\Cg p x.2.2 y.2.2
section
variable{p:Af}{a b c a' b' c' x y z x':R3}{k l m k':Af}
theorem CgR.rfl:CgR p a a:=⟨Cg.rfl,Cg.rfl,Cg.rfl⟩
theorem CgR.of(h:a=b):CgR p a b:=by rw[h];exact CgR.rfl
theorem CgR.trans(h:CgR p a b)(g:CgR p b c):CgR p a c:=⟨h.1.trans g.1,h.2.1.trans g.2.1,h.2.2.trans g.2.2⟩
theorem CgR.symm(h:CgR p a b):CgR p b a:=⟨h.1.symm,h.2.1.symm,h.2.2.symm⟩
theorem CgR.sc(hk:Cg p k k')(h:CgR p a b):CgR p (Di k a) (Di k' b):=⟨hk.mul h.1,hk.mul h.2.1,hk.mul h.2.2⟩
theorem NJ(ha:CgR p a a')(hb:CgR p b b')(hc:CgR p c c'):Cg p (Ar a b c) (Ar a' b' c'):=by
 unfold Ar det;exact fS ha.1 ha.2.1 ha.2.2 hb.1 hb.2.1 hb.2.2 hc.1 hc.2.1 hc.2.2
theorem Jm(ha:CgR p a a')(hb:CgR p b b'):Cg p (Bp a b) (Bp a' b'):=((ha.1.mul hb.1).add (ha.2.1.mul hb.2.1)).add (ha.2.2.mul hb.2.2)
theorem eK(ha:CgR p a a')(hb:CgR p b b')(hc:CgR p c c'):CgR p (Ic a b c) (Ic a' b' c')/\CgR p (Ib a b c) (Ib a' b' c')/\CgR p (Ia a b c) (Ia a' b' c'):=⟨⟨ha.1,hb.1,hc.1⟩,⟨ha.2.1,hb.2.1,hc.2.1⟩,⟨ha.2.2,hb.2.2,hc.2.2⟩⟩
theorem lE(p t:Af)(a:R3):CgR p (fmR p t a) (Di t a):=by
 have key:∀ x:Af,Cg p (t*(x%p)%p) (t*x):=fun x=>(Cg.md _root_.rfl).trans (Cg.rfl.mul (Cg.md _root_.rfl))
 exact⟨key _,key _,key _⟩
noncomputable def ap(a b c x:R3):R3:=(Bp a x,Bp b x,Bp c x)
theorem fR(k l m:Af)(x y z:R3):Ar (Di k x) (Di l y) (Di m z)=k*l*m*Ar x y z:=by
 unfold Ar det Di;grind
theorem Od(k l:Af)(x:R3):Di k (Di l x)=Di (k*l) x:=by
 unfold Di;simp only[FB]
theorem kP(a b c x:R3)(k:Af):ap a b c (Di k x)=Di k (ap a b c x):=by
 unfold ap Di Bp;refine D6 ?_ (D6 ?_ ?_)<;>(simp only;grind)
end
theorem kY{x y:Af}(h:Cg p x y)(hy:y%p≠0):x%p≠0:=fun z=>hy ((show x%p=y%p from h).symm.trans z)
theorem nz3{x y z:Af}(hp:P4 p)(hx:x%p≠0)(hy:y%p≠0)(hz:z%p≠0):x*y*z%p≠0:=F8 hp (F8 hp hx hy) hz
section
variable{p:Af}{a b c f0 f1 f2 f3 g0 g1 g2 g3:R3}{d0 d1 d2 d3:Af}
end
section
variable{Γ:Gam}{ns:Ad Af}
end
section
variable{Γ:Gam}{ns:Ad Af}{many s5 s6 s7 s8 s9 s0 s1 s2:Sl}{p:Af}{a b c:R3}
end
noncomputable def MI:E:=(.call 1 (.cons (.var 0) (.cons (.var 3) .nil)))
noncomputable def MV:Df:=⟨4,Ac,(.cons (.asg 2 Ac (.comp MI 3 (.e (.var 1)) DF)) (.cons (.ife (.no (.bi .any (.cons (.var 2) .nil))) (.cons (.rais 5 (.cons (.str (AV "all six numbers have the rest 0")) .nil)) .nil) .nil) (.cons (.ret (.call 17 (.cons (.var 0) (.cons (.var 2) .nil)))) .nil)))⟩
theorem Qg:∀ xs:Ad Af,Fa (ds xs)=.ok (xs.any fun x=>x != 0)
 |[]=>rfl
 |x::xs=>by
  show (DZ (.int x)).bind (fun b=>(Fa (ds xs)).bind fun c=>.ok (b||c))=_
  rw[Qg xs];rfl
theorem Qw{p:Af}(hp:0<p):∀ xs:Ad Af,((xs.map fun x=>x%p).any fun x=>x != 0)=(lead p xs).isSome
 |[]=>rfl
 |x::xs=>by
  unfold lead;rw[CI,FD];by_cases h:x%p=0
  ·rw[Aw h,h,Qw hp xs];rfl
  ·rw[AA h];simp[h]
theorem SD(xs:Ad Af):(xs.map fun x=>x%p).map (fun x=>x%p)=xs.map fun x=>x%p:=by
 rw[Io];refine Uv fun x _=>?_
 show x%p%p=x%p;rw[Bt _ (Cn p)]
def InL(p:Af)(xs:Ad Af):Prop:=∀ x∈xs,0<=x/\x<p
theorem InL.set(h:InL p xs)(k:Ag)(h0:0<=v)(h1:v<p):InL p (xs.set k v):=fun x hx=>by
 rcases Uz hx with z|rfl
 ·exact h x z
 ·exact⟨h0,h1⟩
section
variable{Γ:Gam}{ns:Ad Af}{p at_:Af}
end
section
variable{Γ:Gam}{ns:Ad Af}{p t:Af}
end
structure C6 where
 c0:Af
 c1:Af
 c2:Af
 c3:Af
 c4:Af
 c5:Af
variable{C:C6}
noncomputable def C6.l(C:C6):Ad Af:=[C.c0,C.c1,C.c2,C.c3,C.c4,C.c5]
noncomputable def BX(C:C6):D:=.tup (ds C.l)
noncomputable def vI(C:C6)(x:R3):Af:=C.c0*x.1*x.1+C.c1*x.2.1*x.2.1+C.c2*x.2.2*x.2.2+(C.c3*x.1*x.2.1+C.c4*x.1*x.2.2+C.c5*x.2.1*x.2.2)
noncomputable def tw0(C:C6):R3:=(2*C.c0,C.c3,C.c4)
noncomputable def tw1(C:C6):R3:=(C.c3,2*C.c1,C.c5)
noncomputable def tw2(C:C6):R3:=(C.c4,C.c5,2*C.c2)
noncomputable def bI(C:C6)(x y:R3):Af:=Bp (ap (tw0 C) (tw1 C) (tw2 C) x) y
noncomputable def scC(k:Af)(C:C6):C6:=⟨k*C.c0,k*C.c1,k*C.c2,k*C.c3,k*C.c4,k*C.c5⟩
def CgC(p:Af)(C D:C6):Prop:=Cg p C.c0 D.c0/\Cg p C.c1 D.c1/\Cg p C.c2 D.c2/\Cg p C.c3 D.c3/\Cg p C.c4 D.c4/\Cg p C.c5 D.c5
noncomputable def pb(C:C6)(a b c:R3):C6:=⟨vI C (Ic a b c),vI C (Ib a b c),vI C (Ia a b c),bI C (Ic a b c) (Ib a b c),bI C (Ic a b c) (Ia a b c),bI C (Ib a b c) (Ia a b c)⟩
section
variable{p:Af}{C D E:C6}{a b c a' b' c' x y x' y':R3}{k k':Af}
theorem C6.ext'(h0:C.c0=D.c0)(h1:C.c1=D.c1)(h2:C.c2=D.c2)(h3:C.c3=D.c3)(h4:C.c4=D.c4)(h5:C.c5=D.c5):C=D:=by
 cases C;cases D;simp_all
theorem CgC.rfl:CgC p C C:=⟨Cg.rfl,Cg.rfl,Cg.rfl,Cg.rfl,Cg.rfl,Cg.rfl⟩
theorem CgC.of(h:C=D):CgC p C D:=by rw[h];exact CgC.rfl
theorem CgC.symm(h:CgC p C D):CgC p D C:=⟨h.1.symm,h.2.1.symm,h.2.2.1.symm,h.2.2.2.1.symm,h.2.2.2.2.1.symm,h.2.2.2.2.2.symm⟩
theorem CgC.trans(h:CgC p C D)(g:CgC p D E):CgC p C E:=⟨h.1.trans g.1,h.2.1.trans g.2.1,h.2.2.1.trans g.2.2.1,h.2.2.2.1.trans g.2.2.2.1,h.2.2.2.2.1.trans g.2.2.2.2.1,h.2.2.2.2.2.trans g.2.2.2.2.2⟩
theorem CgC.sc(hk:Cg p k k')(h:CgC p C D):CgC p (scC k C) (scC k' D):=⟨hk.mul h.1,hk.mul h.2.1,hk.mul h.2.2.1,hk.mul h.2.2.2.1,hk.mul h.2.2.2.2.1,hk.mul h.2.2.2.2.2⟩
theorem Jt(h:CgC p C D)(hx:CgR p x x'):Cg p (vI C x) (vI D x'):=
 (((((h.1.mul hx.1).mul hx.1).add ((h.2.1.mul hx.2.1).mul hx.2.1)).add ((h.2.2.1.mul hx.2.2).mul hx.2.2))).add ((((h.2.2.2.1.mul hx.1).mul hx.2.1).add ((h.2.2.2.2.1.mul hx.1).mul hx.2.2)).add ((h.2.2.2.2.2.mul hx.2.1).mul hx.2.2))
theorem Of(h:CgC p C D):CgR p (tw0 C) (tw0 D)/\CgR p (tw1 C) (tw1 D)/\CgR p (tw2 C) (tw2 D):=
 ⟨⟨Cg.rfl.mul h.1,h.2.2.2.1,h.2.2.2.2.1⟩,⟨h.2.2.2.1,Cg.rfl.mul h.2.1,h.2.2.2.2.2⟩,⟨h.2.2.2.2.1,h.2.2.2.2.2,Cg.rfl.mul h.2.2.1⟩⟩
theorem eF(ha:CgR p a a')(hb:CgR p b b')(hc:CgR p c c')(hx:CgR p x x'):CgR p (ap a b c x) (ap a' b' c' x'):=⟨Jm ha hx,Jm hb hx,Jm hc hx⟩
theorem Op(h:CgC p C D)(hx:CgR p x x')(hy:CgR p y y'):Cg p (bI C x y) (bI D x' y'):=
 let ⟨t0,t1,t2⟩:=Of h
 Jm (eF t0 t1 t2 hx) hy
theorem kG(h:CgC p C D)(ha:CgR p a a')(hb:CgR p b b')(hc:CgR p c c'):CgC p (pb C a b c) (pb D a' b' c'):=
 let ⟨s0,s1,s2⟩:=eK ha hb hc
 ⟨Jt h s0,Jt h s1,Jt h s2,Op h s0 s1,Op h s0 s2,Op h s1 s2⟩
theorem Rz(k l:Af)(C:C6):scC k (scC l C)=scC (k*l) C:=by
 unfold scC;simp only[FB]
theorem QL(C:C6):scC 1 C=C:=by unfold scC;simp only[Db]
theorem kF(k:Af)(C:C6)(a b c:R3):pb (scC k C) a b c=scC k (pb C a b c):=by
 unfold pb scC vI bI ap tw0 tw1 tw2 Bp;refine C6.ext' ?_ ?_ ?_ ?_ ?_ ?_<;>(simp only;grind)
theorem Rb(k:Af)(C:C6):Ar (tw0 (scC k C)) (tw1 (scC k C)) (tw2 (scC k C))=k*k*k*Ar (tw0 C) (tw1 C) (tw2 C):=by
 rw[<-fR];unfold tw0 tw1 tw2 scC Di;simp only[<-FB,BW 2 k]
def PrC(p:Af)(C D:C6):Prop:=∃ d,d%p≠0/\CgC p C (scC d D)
theorem PrC.rfl(hp:P4 p):PrC p C C:=⟨1,hp.o1,CgC.of (QL C).symm⟩
theorem PrC.trans(hp:P4 p)(i:PrC p C D)(j:PrC p D E):PrC p C E:=by
 obtain⟨d,dz,e⟩:=i;obtain⟨d',dz',e'⟩:=j;exact⟨d*d',F8 hp dz dz',e.trans ((CgC.sc Cg.rfl e').trans (CgC.of (Rz _ _ _)))⟩
theorem RI(hp:P4 p)(dz:k%p≠0):∃ u,u%p≠0/\Cg p (u*k) 1:=by
 obtain⟨u,u1,u2,u3⟩:=Kc hp dz;refine⟨u,by rw[A1 (by omega) u2];omega,?_⟩
 show u*k%p=1%p;rw[BW,u3,A1 (by decide) (by have:=hp.lo;omega)]
theorem PrC.symm(hp:P4 p)(i:PrC p C D):PrC p D C:=by
 obtain⟨d,dz,e⟩:=i;obtain⟨u,uz,o⟩:=RI hp dz;refine⟨u,uz,?_⟩;have q:=CgC.sc (k:=u) (k':=u) Cg.rfl e;rw[Rz]at q;exact(q.trans ((CgC.sc o CgC.rfl).trans (CgC.of (QL D)))).symm
theorem PrC.pb(i:PrC p C D):PrC p (OvC.pb C a b c) (OvC.pb D a b c):=by
 obtain⟨d,dz,e⟩:=i;exact⟨d,dz,(kG e CgR.rfl CgR.rfl CgR.rfl).trans (CgC.of (kF d D a b c))⟩
def InC(p:Af)(C:C6):Prop:=∀ x∈C.l,0<=x/\x<p
end
noncomputable def NK:Df:=⟨5,Ac,(.cons (.asg 3 Ac (.bin .Add (.bin .Add (.bin .Mult (.bin .Mult (.idx (.var 1) (.int 0)) (.idx (.var 2) (.int 0))) (.idx (.var 2) (.int 0))) (.bin .Mult (.bin .Mult (.idx (.var 1) (.int 1)) (.idx (.var 2) (.int 1))) (.idx (.var 2) (.int 1)))) (.bin .Mult (.bin .Mult (.idx (.var 1) (.int 2)) (.idx (.var 2) (.int 2))) (.idx (.var 2) (.int 2))))) (.cons (.asg 4 Ac (.bin .Add (.bin .Add (.bin .Mult (.bin .Mult (.idx (.var 1) (.int 3)) (.idx (.var 2) (.int 0))) (.idx (.var 2) (.int 1))) (.bin .Mult (.bin .Mult (.idx (.var 1) (.int 4)) (.idx (.var 2) (.int 0))) (.idx (.var 2) (.int 2)))) (.bin .Mult (.bin .Mult (.idx (.var 1) (.int 5)) (.idx (.var 2) (.int 1))) (.idx (.var 2) (.int 2))))) (.cons (.ret (.call 1 (.cons (.var 0) (.cons (.bin .Add (.var 3) (.var 4)) .nil)))) .nil)))⟩
noncomputable def MF:Df:=⟨2,Ac,(.cons (.ret (.tup (.cons (.tup (.cons (.call 1 (.cons (.var 0) (.cons (.bin .Mult (.int 2) (.idx (.var 1) (.int 0))) .nil))) (.cons (.idx (.var 1) (.int 3)) (.cons (.idx (.var 1) (.int 4)) .nil)))) (.cons (.tup (.cons (.idx (.var 1) (.int 3)) (.cons (.call 1 (.cons (.var 0) (.cons (.bin .Mult (.int 2) (.idx (.var 1) (.int 1))) .nil))) (.cons (.idx (.var 1) (.int 5)) .nil)))) (.cons (.tup (.cons (.idx (.var 1) (.int 4)) (.cons (.idx (.var 1) (.int 5)) (.cons (.call 1 (.cons (.var 0) (.cons (.bin .Mult (.int 2) (.idx (.var 1) (.int 2))) .nil))) .nil)))) .nil))))) .nil)⟩
noncomputable def MU:Df:=⟨3,Ac,(.cons (.asg 2 Ac (.call 131 (.cons (.var 0) (.cons (.var 1) .nil)))) (.cons (.ret (.cmp .NotEq (.call 61 (.cons (.var 0) (.cons (.idx (.var 2) (.int 0)) (.cons (.idx (.var 2) (.int 1)) (.cons (.idx (.var 2) (.int 2)) .nil))))) (.int 0))) .nil))⟩
theorem ix6(C:C6):CG (BX C) (.int 0)=.ok (.int C.c0)/\CG (BX C) (.int 1)=.ok (.int C.c1)/\CG (BX C) (.int 2)=.ok (.int C.c2)/\CG (BX C) (.int 3)=.ok (.int C.c3)/\CG (BX C) (.int 4)=.ok (.int C.c4)/\CG (BX C) (.int 5)=.ok (.int C.c5):=⟨rfl,rfl,rfl,rfl,rfl,rfl⟩
structure BC (C:C6):Prop where
 b0:Bd 10 C.c0
 b1:Bd 10 C.c1
 b2:Bd 10 C.c2
 b3:Bd 10 C.c3
 b4:Bd 10 C.c4
 b5:Bd 10 C.c5
theorem InC.b(hp:P4 p)(h:InC p C):BC C:=by
 have k:∀ x∈C.l,Bd 10 x:=fun x hx=>Ll hp (h x hx).1 (h x hx).2
 exact⟨k _ (by simp[C6.l]),k _ (by simp[C6.l]),k _ (by simp[C6.l]),k _ (by simp[C6.l]),k _ (by simp[C6.l]),k _ (by simp[C6.l])⟩
noncomputable def t0(p:Af)(C:C6):R3:=(2*C.c0%p,C.c3,C.c4)
noncomputable def t1(p:Af)(C:C6):R3:=(C.c3,2*C.c1%p,C.c5)
noncomputable def t2(p:Af)(C:C6):R3:=(C.c4,C.c5,2*C.c2%p)
theorem lR(hp:P4 p)(h:InC p C):In3 p (t0 p C)/\In3 p (t1 p C)/\In3 p (t2 p C):=by
 have p0:=hp.pos;have k:∀ x∈C.l,0<=x/\x<p:=h;have m:∀ x:Af,0<=x%p/\x%p<p:=fun x=>⟨Bl _ (by omega),Bm _ p0⟩
 exact⟨⟨m _,k _ (by simp[C6.l,t0]),k _ (by simp[C6.l,t0])⟩,⟨k _ (by simp[C6.l,t1]),m _,k _ (by simp[C6.l,t1])⟩,⟨k _ (by simp[C6.l,t2]),k _ (by simp[C6.l,t2]),m _⟩⟩
theorem lS(p:Af)(C:C6):CgR p (t0 p C) (tw0 C)/\CgR p (t1 p C) (tw1 C)/\CgR p (t2 p C) (tw2 C):=⟨⟨Cg.md rfl,Cg.rfl,Cg.rfl⟩,⟨Cg.rfl,Cg.md rfl,Cg.rfl⟩,⟨Cg.rfl,Cg.rfl,Cg.md rfl⟩⟩
def Rn(Γ:Gam):Prop:=∀(p:Af)(C:C6),P4 p->Γ.F 131 [.int p,BX C]=.ok (Lo (t0 p C) (t1 p C) (t2 p C))
theorem XR(hr:II Γ)(p:Af)(C:C6)(hp:P4 p):MF.run Γ [.int p,BX C]=.ok (Lo (t0 p C) (t1 p C) (t2 p C)):=by
 obtain⟨i0,i1,i2,i3,i4,i5⟩:=ix6 C;have m22:∀ y,Ez 2 y=Ab:=fun y=>Jl (by decide) (by decide)
 simp[MF,Df.run,BA,i0,i1,i2,i3,i4,i5,m22,hr p _ hp.pos];rfl
def Se(Γ:Gam):Prop:=∀(p:Af)(b:Ao)(xs:Ad Af)(l t:Af),P4 p->lead p xs=Aa l->Ii p l t->Γ.F 122 [.int p,DV b xs]=.ok (.tup (ds (fmI p t xs)))
theorem dL(hr:II Γ)(hf:Nt Γ){b:Ao}{l t:Af}(hp:P4 p)(e:lead p xs=Aa l)(it:Ii p l t):MV.run Γ [.int p,DV b xs]=.ok (.tup (ds (fmI p t xs))):=by
 have p0:=hp.pos;have cp:BG (cG Γ [si p,sh (DV b xs),Ae,Ae] 3 DF) (cF Γ [si p,sh (DV b xs),Ae,Ae] 3 MI) (ds xs)=.ok (ds (xs.map fun x=>x%p)):=by
  refine LD xs fun x _=>⟨rfl,?_⟩
  simp[cF,MI,hr p x p0]
 have an:=Qg (xs.map fun x=>x%p)
 rw[Qw p0,e]at an;have le:lead p (xs.map fun x=>x%p)=Aa l:=by rw[MP (SD xs)];exact e
 have f:=hf p Ac (xs.map fun x=>x%p) l t hp le it
 rw[WQ (SD xs)]at f;have f':Γ.F 17 [.int p,.lst (ds (xs.map fun x=>x%p))]=.ok (.tup (ds (fmI p t xs))):=f
 simp[MV,Df.run,BA,Pv,cp,an,f']
theorem lA{E:C6}{l:Af}(hp:P4 p)(el:lead p E.l=Aa l):∃(t:Af)(D:C6),Ii p l t/\fmI p t E.l=D.l/\InC p D/\lead p D.l=Aa 1/\PrC p D E:=by
 have p0:=hp.pos;obtain⟨lz,_,_⟩:=LK p0 el;obtain⟨t,t1,t2,t3⟩:=Kc hp lz;have tz:t%p≠0:=by rw[A1 (by omega) t2];omega
 have ff:∀ x,(t*(x%p)%p)%p=t*x%p:=fun x=>by rw[Bt _ (Cn p),BH t (x%p) p,Bt _ (Cn p),<-BH]
 have lv:=KZ hp tz (f:=fun x=>t*(x%p)%p) ff E.l
 rw[el,ET,BW,t3]at lv;have key:∀ x:Af,Cg p (t*(x%p)%p) (t*x):=fun x=>(Cg.md rfl).trans (Cg.rfl.mul (Cg.md rfl))
 refine⟨t,⟨t*(E.c0%p)%p,t*(E.c1%p)%p,t*(E.c2%p)%p,t*(E.c3%p)%p,t*(E.c4%p)%p,t*(E.c5%p)%p⟩,⟨t1,t2,t3⟩,rfl,fun x hx=>?_,lv,t,tz,key _,key _,key _,key _,key _,key _⟩
 obtain⟨y,_,rfl⟩:=CC.mp (show x∈E.l.map fun x=>t*(x%p)%p from hx)
 exact⟨Bl _ (by omega),Bm _ p0⟩
section
variable{Γ:Gam}{ns:Ad Af}{p at_:Af}{φ:Af->Af}
end
def Pr(p:Af)(x y:R3):Prop:=∃ d,d%p≠0/\CgR p x (Di d y)
section
variable{p:Af}{a b c x y z f g h:R3}{k:Af}
theorem Me(x:R3):Di 1 x=x:=by unfold Di;simp only[Db]
theorem Pr.rfl(hp:P4 p):Pr p x x:=⟨1,hp.o1,CgR.of (Me x).symm⟩
theorem Pr.trans(hp:P4 p)(i:Pr p x y)(j:Pr p y z):Pr p x z:=by
 obtain⟨d,dz,e⟩:=i;obtain⟨d',dz',e'⟩:=j;exact⟨d*d',F8 hp dz dz',e.trans ((CgR.sc Cg.rfl e').trans (CgR.of (Od _ _ _)))⟩
theorem Pr.symm(hp:P4 p)(i:Pr p x y):Pr p y x:=by
 obtain⟨d,dz,e⟩:=i;obtain⟨u,u1,u2,u3⟩:=Kc hp dz;have uz:u%p≠0:=by rw[A1 (by omega) u2];omega
 have o:Cg p (u*d) 1:=by
  show u*d%p=1%p;rw[BW,u3,A1 (by decide) (by have:=hp.lo;omega)]
 refine⟨u,uz,?_⟩;have q:=CgR.sc (k:=u) (k':=u) Cg.rfl e;rw[Od]at q;exact(q.trans ((CgR.sc o CgR.rfl).trans (CgR.of (Me y)))).symm
theorem SQ{a' b' c' x':R3}(ha:CgR p a a')(hb:CgR p b b')(hc:CgR p c c')(hx:CgR p x x'):CgR p (ap a b c x) (ap a' b' c' x'):=⟨Jm ha hx,Jm hb hx,Jm hc hx⟩
theorem Pr.ap(i:Pr p x y):Pr p (OvC.ap a b c x) (OvC.ap a b c y):=by
 obtain⟨d,dz,e⟩:=i;exact⟨d,dz,(SQ CgR.rfl CgR.rfl CgR.rfl e).trans (CgR.of (kP a b c y d))⟩
theorem SR(a b c v:R3):ap (bk0 a b c) (bk1 a b c) (bk2 a b c) (ap a b c v)=Di (Ar a b c) v:=by
 unfold ap Di Bp bk0 bk1 bk2 Ic Ib Ia crs Ar det;refine D6 ?_ (D6 ?_ ?_)<;>(simp only;grind)
end
noncomputable def tri(g:R3):Ad Af:=[g.1,g.2.1,g.2.2]
theorem QF(hp:P4 p)(ix:In3 p x)(iy:In3 p y)(lx:lead p (tri x)=Aa 1)(ly:lead p (tri y)=Aa 1)(h:Pr p x y):x=y:=by
 obtain⟨d,dz,e⟩:=h;have p1:1<p:=by have:=hp.lo;omega
 have rs:(tri x).map (fun x=>x%p)=((tri y).map fun x=>d*x).map (fun x=>x%p):=by
  simp only[tri,CI,Uw];rw[show x.1%p=d*y.1%p from e.1,show x.2.1%p=d*y.2.1%p from e.2.1,show x.2.2%p=d*y.2.2%p from e.2.2]
 have el:=KZ hp dz (f:=fun x=>d*x) (fun _=>rfl) (tri y)
 rw[ly,<-MP rs,lx,ET,Cr,EH]at el;have o:Cg p d 1:=by
  show d%p=1%p;rw[<-el,A1 (by decide) p1]
 have q:=e.trans ((CgR.sc o CgR.rfl).trans (CgR.of (Me y)));have same:∀{u v:Af},(0<=u/\u<p)->(0<=v/\v<p)->Cg p u v->u=v:=fun hu hv huv=>by
  have:=show _%p=_%p from huv
  rwa [A1 hu.1 hu.2,A1 hv.1 hv.2]at this
 exact D6 (same ix.1 iy.1 q.1) (D6 (same ix.2.1 iy.2.1 q.2.1) (same ix.2.2 iy.2.2 q.2.2))
section
variable{p:Af}{a b c a' b' c' f0 f1 f2 f3 g0 g1 g2 g3 h0 h1 h2 h3:R3}
end
section
variable{Γ:Gam}{ns:Ad Af}{p:Af}
end
noncomputable def L3(a b c:R3):Ad D:=[Hy a,Hy b,Hy c]
def Oa(Γ:Gam)(mid:Ag)(ns:Ad Af):Prop:=∀ k:Af,0<=k->∃ m,0<=m/\Γ.F mid [scr ns,.int k]=.ok (.int m)
section
variable{Γ:Gam}{ns:Ad Af}{mid:Ag}{p:Af}{a b c:R3}{s2 s4 s5 s6 s7 s8:Sl}
end
theorem Wd{lo hi:Af}(h1:-1000<=lo)(h2:lo<=1000)(h3:-1000<=hi)(h4:hi<=1000):C9 lo hi=.ok (DL lo (hi-lo).toNat):=by
 unfold C9;rw[Aw (by refine⟨⟨by omega,by omega⟩,⟨by omega,by omega⟩,?_⟩;omega)]
noncomputable def HU:Df:=⟨3,Ac,(.cons (.asg 2 Ac (.bin .Mod (.var 1) (.bin .Add (.bin .Add (.bin .Mult (.var 0) (.var 0)) (.var 0)) (.int 1)))) (.cons (.ife (.cmp .Eq (.var 2) (.int 0)) (.cons (.ret (.tup (.cons (.int 0) (.cons (.int 0) (.cons (.int 1) .nil))))) .nil) .nil) (.cons (.ife (.cmp .LtE (.var 2) (.var 0)) (.cons (.ret (.tup (.cons (.int 0) (.cons (.int 1) (.cons (.bin .Sub (.var 2) (.int 1)) .nil))))) .nil) .nil) (.cons (.ret (.tup (.cons (.int 1) (.cons (.bin .FloorDiv (.bin .Sub (.bin .Sub (.var 2) (.var 0)) (.int 1)) (.var 0)) (.cons (.bin .Mod (.bin .Sub (.bin .Sub (.var 2) (.var 0)) (.int 1)) (.var 0)) .nil))))) .nil))))⟩
theorem dD(h:1<p):lead p [0,0,1]=Aa 1:=by
 simp[lead,A1 (by decide:(0:Af)<=1) h]
theorem jL(h:1<p)(z:Af):lead p [0,1,z]=Aa 1:=by
 simp[lead,A1 (by decide:(0:Af)<=1) h]
theorem lO(h:1<p)(y z:Af):lead p [1,y,z]=Aa 1:=by
 simp[lead,A1 (by decide:(0:Af)<=1) h]
noncomputable def prd(a b:R3):C6:=⟨a.1*b.1,a.2.1*b.2.1,a.2.2*b.2.2,a.1*b.2.1+a.2.1*b.1,a.1*b.2.2+a.2.2*b.1,a.2.1*b.2.2+a.2.2*b.2.1⟩
theorem Xs{C E:C6}(hp:P4 p)(h:PrC p C E)(z:Ar (tw0 E) (tw1 E) (tw2 E)%p≠0):Ar (tw0 C) (tw1 C) (tw2 C)%p≠0:=by
 obtain⟨d,dz,cg⟩:=h;obtain⟨x0,x1,x2⟩:=Of cg;exact kY ((NJ x0 x1 x2).trans (Cg.of (Rb d E))) (F8 hp (nz3 hp dz dz dz) z)
theorem Qn{p l:Af}(hp:P4 p)(el:lead p (tri r)=Aa l):∃ u,Ii p l u/\In3 p (fmR p u r)/\lead p (tri (fmR p u r))=Aa 1/\Pr p (fmR p u r) r/\fmI p u (tri r)=tri (fmR p u r):=by
 have p0:=hp.pos;obtain⟨lz,_,_⟩:=LK p0 el;obtain⟨t,t1,t2,t3⟩:=Kc hp lz;have tz:t%p≠0:=by rw[A1 (by omega) t2];omega
 have ff:∀ x,(t*(x%p)%p)%p=t*x%p:=fun x=>by rw[Bt _ (Cn p),BH t (x%p) p,Bt _ (Cn p),<-BH]
 have lv:=KZ hp tz (f:=fun x=>t*(x%p)%p) ff (tri r)
 rw[el,ET,BW,t3]at lv;exact⟨t,⟨t1,t2,t3⟩,lB p0 t r,lv,⟨t,tz,lE p t r⟩,rfl⟩
theorem PB(h:lead p (tri g)=Ae):CgR p g (0,0,0):=by
 have hz:=Ji.mp h;have k:∀ x∈tri g,Cg p x 0:=fun x hx=>by show x%p=0%p;rw[hz x hx,BE]
 exact⟨k _ (by simp[tri]),k _ (by simp[tri]),k _ (by simp[tri])⟩
theorem Qm(h:CgR p g (0,0,0)):lead p (tri g)=Ae:=by
 refine Ji.mpr fun x hx=>?_
 have k:∀{x:Af},Cg p x 0->x%p=0:=fun {x} h=>by rw[show x%p=_ from h,BE]
 simp only[tri,AB,Bi,Cm]at hx;rcases hx with rfl|rfl|rfl
 ·exact k h.1
 ·exact k h.2.1
 ·exact k h.2.2
theorem ZG{p l:Af}{a b c f g:R3}(hp:P4 p)(z:Ar a b c%p≠0)(lf:lead p (tri f)=Aa l)(h:CgR p g (ap a b c f)):∃ l,lead p (tri g)=Aa l:=by
 cases el:lead p (tri g) with
 |some l=>exact⟨l,rfl⟩
 |none=>
  have q0:CgR p (ap a b c f) (0,0,0):=h.symm.trans (PB el);have q1:CgR p (Di (Ar a b c) f) (0,0,0):=by
   have:=SQ (CgR.rfl (a:=bk0 a b c)) (CgR.rfl (a:=bk1 a b c)) (CgR.rfl (a:=bk2 a b c)) q0;rw[SR]at this;refine this.trans (CgR.of ?_);unfold ap Bp;simp
  obtain⟨u,uz,o⟩:=RI hp z;have q2:CgR p f (0,0,0):=by
   have w:=CgR.sc (k:=u) (k':=u) Cg.rfl q1;rw[Od]at w;refine((CgR.of (Me f).symm).trans (CgR.sc o.symm CgR.rfl)).trans (w.trans (CgR.of ?_));unfold Di;simp
  rw[Qm q2]at lf;cases lf
theorem eG(a b c v:R3):ap a b c (ap (bk0 a b c) (bk1 a b c) (bk2 a b c) v)=Di (Ar a b c) v:=by
 unfold ap Di Bp bk0 bk1 bk2 Ic Ib Ia crs Ar det;refine D6 ?_ (D6 ?_ ?_)<;>(simp only;grind)
noncomputable def OH(mid:Ag):Df:=⟨1,Ac,(.cons (.ret (.idx (.lst (.cons (.int 3) (.cons (.int 5) (.cons (.int 7) (.cons (.int 11) .nil))))) (.bin .Mod (.bin .FloorDiv (.call mid (.cons (.var 0) (.cons (.int 0) .nil))) (.int 5)) (.int 4)))) .nil)⟩
theorem W3{mid:Ag}(h:Oa Γ mid ns):∃ p,P4 p/\(OH mid).run Γ [scr ns]=.ok (.int p):=by
 obtain⟨m,m0,e⟩:=h 0 (by decide)
 refine⟨_,dS (m / 5),?_⟩;simp[OH,Df.run,BA,e,WO]
noncomputable def MY:Df:=⟨8,Ac,(.cons (.asgT [2,3,4] (.var 0)) (.cons (.asgT [5,6,7] (.var 1)) (.cons (.ret (.lst (.cons (.bin .Sub (.bin .Mult (.var 3) (.var 7)) (.bin .Mult (.var 4) (.var 6))) (.cons (.bin .Sub (.bin .Mult (.var 4) (.var 5)) (.bin .Mult (.var 2) (.var 7))) (.cons (.bin .Sub (.bin .Mult (.var 2) (.var 6)) (.bin .Mult (.var 3) (.var 5))) .nil))))) .nil)))⟩
noncomputable def MA:E:=(.bin .Mult (.var 7) (.var 8))
noncomputable def MO:Df:=⟨9,Ac,(.cons (.asgT [3,4,5] (.var 2)) (.cons (.asg 6 Ac (.lst (.cons (.bin .Mult (.var 3) (.var 3)) (.cons (.bin .Mult (.var 4) (.var 4)) (.cons (.bin .Mult (.var 5) (.var 5)) (.cons (.bin .Mult (.var 3) (.var 4)) (.cons (.bin .Mult (.var 3) (.var 5)) (.cons (.bin .Mult (.var 4) (.var 5)) .nil)))))))) (.cons (.ret (.bin .Mod (.bi .sum (.cons (.compT MA [7,8] (.zip (.var 1) (.var 6)) DF) .nil)) (.var 0))) .nil)))⟩
section
variable{Γ:Gam}{ns:Ad Af}{p:Af}{C:C6}{s3 s4 s5 s6 s7 s8:Sl}
end
noncomputable def KJ:Ss:=(.cons (.asg 2 Ac (.bin .FloorDiv (.var 2) (.int 1000033))) .nil)
noncomputable def KI:Df:=⟨4,Ac,(.cons (.asg 2 Ac (.int 0)) (.cons (.ife (.cmp .Gt (.bi .len (.cons (.var 0) .nil)) (.int 0)) (.cons (.asg 2 Ac (.idx (.var 0) (.bin .Mod (.var 1) (.bi .len (.cons (.var 0) .nil))))) .nil) .nil) (.cons (.ife (.cmp .Eq (.bin .Mod (.bi .len (.cons (.var 0) .nil)) (.int 2)) (.int 0)) (.cons (.fors 3 (.rng (.bi .min (.cons (.int 60) (.cons (.bin .FloorDiv (.var 1) (.bi .max (.cons (.int 1) (.cons (.bi .len (.cons (.var 0) .nil)) .nil)))) .nil)))) KJ) (.cons (.ret (.bin .Mod (.var 2) (.int 1000033))) .nil)) .nil) (.cons (.ret (.bin .Mod (.bin .Mult (.bin .Mod (.bin .Mult (.bin .Add (.bin .Add (.bin .Mod (.var 2) (.int 1000003)) (.bin .Mult (.int 7919) (.var 1))) (.int 11)) (.int 48271)) (.int 1000033)) (.int 69621)) (.int 1000033))) .nil))))⟩
section
variable{Γ:Gam}{ns:Ad Af}
theorem Xd(k x:Af)(n:Ag):∃ y s3,Ch (BM Γ 3 KJ) (DL 0 n) [sh (scr ns),si k,si x,Ae]=.next [sh (scr ns),si k,si y,s3]:=by
 obtain⟨ρ',e,y,s3,rfl⟩:=P9 (body:=BM Γ 3 KJ) (fun ρ=>∃ y s3,ρ=[sh (scr ns),si k,si y,s3]) (DL 0 n) [sh (scr ns),si k,si x,Ae] ⟨x,Ae,rfl⟩ (by
  rintro z hz ρ ⟨y,s3,rfl⟩;obtain⟨j,_,rfl⟩:=Qv hz;exact⟨[sh (scr ns),si k,si (y / 1000033),si (0+(j:Af))],by simp[BM,KJ],_,_,rfl⟩)
 exact⟨y,s3,e⟩
theorem dG(Γ:Gam)(ns:Ad Af)(hl:ns.length<=63)(k:Af)(k0:0<=k):∃ m,0<=m/\KI.run Γ [scr ns,.int k]=.ok (.int m):=by
 have m1:Ez 7919 k=Ab:=Jl (by decide) (by decide)
 have m2:∀ x,Ez x 48271=Ab:=fun x=>NA (by decide) (by decide)
 have m3:∀ x,Ez x 69621=Ab:=fun x=>NA (by decide) (by decide)
 generalize hn:(ns.length:Af)=n;have n0:0<=n:=by omega
 have n1:n<=63:=by omega
 have len:biD .len [scr ns]=.ok (.int n):=by rw[<-hn];show R.ok (D.int ((ns.map D.int).length:Ag))=_;rw[Cf]
 have fin:∀ x hi:Af,0<=hi->hi<=60->∃ y s3,ON Γ 3 KJ [sh (scr ns),si k,si x,Ae] (C9 0 hi)=.next [sh (scr ns),si k,si y,s3]:=fun x hi h0 h1=>by
  rw[Wf h0 (by omega)]
  exact Xd (Γ:=Γ) (ns:=ns) k x hi.toNat
 have mx:0<(if 1<n then n else 1)/\(if 1<n then n else 1)<1073741824:=by split<;>omega
 generalize hM:(if 1<n then n else 1)=M at mx
 have hi:∀ q:Af,0<=q->0<=(if q<60 then q else 60)/\(if q<60 then q else 60)<=60:=fun q h=>by split<;>omega
 have q0:0<=k / M:=Ub k0 (by omega)
 obtain⟨u1,u2⟩:=hi _ q0;by_cases hp:0<n
 ·have r0:0<=k%n:=Bl _ (by omega)
  have r1:k%n<ns.length:=by rw[hn];exact Bm _ hp
  have g:=YJ r0 r1;generalize ns.getD (k%n).toNat 0=x at g;by_cases h2:n%2=0
  ·obtain⟨y,s3,e⟩:=fin x _ u1 u2;refine⟨y%1000033,Bl _ (by decide),?_⟩
   have gx:CG (scr ns) (.int (k%n))=.ok (.int x):=g;simp[KI,Df.run,BA,len,hp,gx,h2,hM,mx.1,mx.2,e]
  ·refine⟨((x%1000003+7919*k+11)*48271%1000033)*69621%1000033,Bl _ (by decide),?_⟩
   have gx:CG (scr ns) (.int (k%n))=.ok (.int x):=g;simp[KI,Df.run,BA,len,hp,gx,h2,m1,m2,m3]
 ·have z:n=0:=by omega
  subst z;obtain⟨y,s3,e⟩:=fin 0 _ u1 u2;refine⟨y%1000033,Bl _ (by decide),?_⟩
  have hM':M=1:=by rw[<-hM];rfl
  subst hM';simp at e;simp[KI,Df.run,BA,len,e]
end
noncomputable def N5:Df:=⟨3,Ac,(.cons (.ret (.call 17 (.cons (.var 0) (.cons (.call 23 (.cons (.var 1) (.cons (.var 2) .nil))) .nil)))) .nil)⟩
theorem Qd{a b:R3}(hp:P4 p)(h:CgR p (crs a b) (0,0,0))(la:lead p (tri a)=Aa 1)(lb:lead p (tri b)=Aa 1):Pr p b a:=by
 obtain⟨h0,h1,h2⟩:=h;have p1:1<p:=by have:=hp.lo;omega
 have sw:∀{x y:Af},Cg p (x-y) 0->Cg p x y:=fun {x y} h=>by
  have:=h.add (Cg.rfl (a:=y))
  rwa [Int.sub_add_cancel,DO]at this
 have e0:Cg p (a.2.1*b.2.2) (a.2.2*b.2.1):=sw h0;have e1:Cg p (a.2.2*b.1) (a.1*b.2.2):=sw h1;have e2:Cg p (a.1*b.2.1) (a.2.1*b.1):=sw h2;have one:∀{x:Af},x%p=1->Cg p x 1:=fun {x} h=>by show x%p=1%p;rw[h,A1 (by decide) p1]
 have fin:∀ k,CgR p b (Di k a)->Pr p b a:=fun k hk=>by
  refine⟨k,fun z=>?_,hk⟩
  have:CgR p b (0,0,0):=by
   have kz:Cg p k 0:=by show k%p=0%p;rw[z,BE]
   refine hk.trans ((CgR.sc kz CgR.rfl).trans (CgR.of ?_));unfold Di;simp
  rw[Qm this]at lb;cases lb
 unfold tri lead at la;by_cases z0:a.1%p=0
 ·rw[Aw z0]at la;have c0:Cg p a.1 0:=by show a.1%p=0%p;rw[z0,BE]
  unfold lead at la;by_cases z1:a.2.1%p=0
  ·rw[Aw z1]at la;have c1:Cg p a.2.1 0:=by show a.2.1%p=0%p;rw[z1,BE]
   unfold lead at la;by_cases z2:a.2.2%p=0
   ·rw[Aw z2]at la;cases la
   ·rw[AA z2,Cr]at la;have c2:=one la;refine fin b.2.2 ⟨?_,?_,?_⟩
    ·have:=(c2.symm.mul (Cg.rfl (a:=b.1))).trans e1;rw[Db]at this;exact this.trans (Cg.of (BW _ _))
    ·have:=(c2.symm.mul (Cg.rfl (a:=b.2.1))).trans e0.symm;rw[Db]at this;exact this.trans (Cg.of (BW _ _))
    ·have:=(Cg.rfl (a:=b.2.2)).mul c2;rw[EH]at this;exact this.symm
  ·rw[AA z1,Cr]at la;have c1:=one la;refine fin b.2.1 ⟨?_,?_,?_⟩
   ·have:=(c1.symm.mul (Cg.rfl (a:=b.1))).trans e2.symm;rw[Db]at this;exact this.trans (Cg.of (BW _ _))
   ·have:=(Cg.rfl (a:=b.2.1)).mul c1;rw[EH]at this;exact this.symm
   ·have:=(c1.symm.mul (Cg.rfl (a:=b.2.2))).trans e0;rw[Db]at this;exact this.trans (Cg.of (BW _ _))
 ·rw[AA z0,Cr]at la;have c0:=one la;refine fin b.1 ⟨?_,?_,?_⟩
  ·have:=(Cg.rfl (a:=b.1)).mul c0;rw[EH]at this;exact this.symm
  ·have:=(c0.symm.mul (Cg.rfl (a:=b.2.1))).trans e2;rw[Db]at this;exact this.trans (Cg.of (BW _ _))
  ·have:=(c0.symm.mul (Cg.rfl (a:=b.2.2))).trans e1.symm;rw[Db]at this;exact this.trans (Cg.of (BW _ _))
def Sd(Γ:Gam):Prop:=∀(p:Af)(a b:R3),P4 p->In3 p a->In3 p b->lead p (tri a)=Aa 1->lead p (tri b)=Aa 1->a≠b->∃ y,In3 p y/\lead p (tri y)=Aa 1/\Pr p y (crs a b)/\Γ.F 57 [.int p,Aq Ab a,Aq Ab b]=.ok (Aq Ab y)
theorem dJ(hc:ZI Γ)(hf:Nt Γ)(p:Af)(a b:R3)(hp:P4 p)(ia:In3 p a)(ib:In3 p b)(la:lead p (tri a)=Aa 1)(lb:lead p (tri b)=Aa 1)(ne:a≠b):∃ y,In3 p y/\lead p (tri y)=Aa 1/\Pr p y (crs a b)/\N5.run Γ [.int p,Aq Ab a,Aq Ab b]=.ok (Aq Ab y):=by
 have e1:=hc a b ((Fe hp ia).b3 (by decide)) ((Fe hp ib).b3 (by decide)) ne
 cases el:lead p (tri (crs a b)) with
 |none=>exact absurd (QF hp ib ia lb la (Qd hp (PB el) la lb)).symm ne
 |some l=>
  obtain⟨u,iu,j,l1,pr,ef⟩:=Qn hp el;have e2:=hf p Ab _ l u hp el iu;rw[ef]at e2;have e2':Γ.F 17 [.int p,Aq Ab (crs a b)]=.ok (Aq Ab (fmR p u (crs a b))):=e2;refine⟨_,j,l1,pr,?_⟩;generalize Aq Ab (fmR p u (crs a b))=Y at *;simp[N5,Df.run,BA,e1,e2']
noncomputable def MX:E:=(.bin .Mult (.var 3) (.var 4))
noncomputable def Nn:Df:=⟨5,Ac,(.cons (.ret (.cmp .Eq (.bin .Mod (.bi .sum (.cons (.compT MX [3,4] (.zip (.var 2) (.var 1)) DF) .nil)) (.var 0)) (.int 0))) .nil)⟩
def fU(Γ:Gam):Prop:=∀(p:Af)(C:C6)(x:R3),P4 p->InC p C->In3 p x->Γ.F 162 [.int p,BX C,Aq Ab x]=.ok (.int (vI C x%p))
theorem dH(Γ:Gam)(p:Af)(C:C6)(x:R3)(hp:P4 p)(iC:InC p C)(ix:In3 p x):MO.run Γ [.int p,BX C,Aq Ab x]=.ok (.int (vI C x%p)):=by
 have p0:=hp.pos;have bC:=iC.b hp;have bx:=Fe hp ix;have k:∀ {u v},Bd 10 u->Bd 10 v->EO u v=Ab:=fun hu hv=>GA hu hv (by decide) (by decide)
 have k2:∀ {u v w},Bd 10 u->Bd 10 v->Bd 10 w->EO u (v*w)=Ab:=fun hu hv hw=>GA hu (hv.mul hw) (by decide) (by decide)
 obtain⟨c0,c1,c2,c3,c4,c5⟩:=C;obtain⟨x0,x1,x2⟩:=x;have q00:=k bx.1 bx.1;have q11:=k bx.2.1 bx.2.1;have q22:=k bx.2.2 bx.2.2;have q01:=k bx.1 bx.2.1;have q02:=k bx.1 bx.2.2;have q12:=k bx.2.1 bx.2.2;have m0:=k2 bC.b0 bx.1 bx.1;have m1:=k2 bC.b1 bx.2.1 bx.2.1;have m2:=k2 bC.b2 bx.2.2 bx.2.2;have m3:=k2 bC.b3 bx.1 bx.2.1;have m4:=k2 bC.b4 bx.1 bx.2.2;have m5:=k2 bC.b5 bx.2.1 bx.2.2;simp only at q00 q11 q22 q01 q02 q12 m0 m1 m2 m3 m4 m5;have sC:Ck (BX ⟨c0,c1,c2,c3,c4,c5⟩)=.ok [.int c0,.int c1,.int c2,.int c3,.int c4,.int c5]:=rfl;have as:∀ ρ:Rho,Hx [3,4,5] (Aq Ab (x0,x1,x2)) ρ=.ok (((ρ.set 3 (si x0)).set 4 (si x1)).set 5 (si x2)):=fun _=>rfl
 have ev:vI ⟨c0,c1,c2,c3,c4,c5⟩ (x0,x1,x2)=c0*(x0*x0)+c1*(x1*x1)+c2*(x2*x2)+c3*(x0*x1)+c4*(x0*x2)+c5*(x1*x2):=by
  unfold vI;simp only;grind
 rw[ev];generalize BX ⟨c0,c1,c2,c3,c4,c5⟩=cC at *;generalize Aq Ab (x0,x1,x2)=xx at *;generalize hz0:x0*x0=z0 at *;generalize hz1:x1*x1=z1 at *;generalize hz2:x2*x2=z2 at *;generalize hz3:x0*x1=z3 at *;generalize hz4:x0*x2=z4 at *;generalize hz5:x1*x2=z5 at *;have cp:BG (cGT Γ [si p,sh cC,sh xx,si x0,si x1,si x2,sh (.lst [.int z0,.int z1,.int z2,.int z3,.int z4,.int z5]),Ae,Ae] [7,8] DF) (cFT Γ [si p,sh cC,sh xx,si x0,si x1,si x2,sh (.lst [.int z0,.int z1,.int z2,.int z3,.int z4,.int z5]),Ae,Ae] [7,8] MA) (Em [.int c0,.int c1,.int c2,.int c3,.int c4,.int c5] [.int z0,.int z1,.int z2,.int z3,.int z4,.int z5])=.ok [.int (c0*z0),.int (c1*z1),.int (c2*z2),.int (c3*z3),.int (c4*z4),.int (c5*z5)]:=by
  simp[BG,cGT,cFT,Em,MA,DF,m0,m1,m2,m3,m4,m5]
 generalize hs:c0*z0+c1*z1+c2*z2+c3*z3+c4*z4+c5*z5=s;have sm:Gn 0 [.int (c0*z0),.int (c1*z1),.int (c2*z2),.int (c3*z3),.int (c4*z4),.int (c5*z5)]=.ok s:=by rw[<-hs];simp[Gn]
 simp[MO,Df.run,BA,as,q00,q11,q22,q01,q02,q12,hz0,hz1,hz2,hz3,hz4,hz5,sC,cp,sm,p0]
theorem ZP(a b:R3):Bp (crs a b) a=0/\Bp (crs a b) b=0:=by
 unfold Bp crs;constructor<;>grind
theorem E7{x:Af}(hp:P4 p)(kz:k%p≠0):k*x%p=0↔x%p=0:=by
 constructor
 ·intro z;exact T8 fun n=>F8 hp kz n z
 ·intro z;rw[BH,z,Ee,BE]
section
variable{Γ:Gam}{ns:Ad Af}{p:Af}{C:C6}{s3 s4 s5 s6 s7 s8:Sl}
end
def NF(p:Af)(x:R3):Prop:=In3 p x/\lead p (tri x)=Aa 1
noncomputable def ptI(p n:Af):R3:=if n=0 then (0,0,1) else if n<=p then (0,1,n-1) else (1,(n-p-1) / p,(n-p-1)%p)
noncomputable def Fu(p:Af):Ad R3:=(Bz (p*p+p+1).toNat).map fun(n:Ag)=>ptI p n
theorem SL{n:Af}(hp:P4 p)(h0:0<=n)(h1:n<p*p+p+1):NF p (ptI p n):=by
 have p1:1<p:=by have:=hp.lo;omega
 have p0:=hp.pos;unfold ptI;by_cases z:n=0
 ·rw[Aw z];exact⟨⟨⟨by decide,p0⟩,⟨by decide,p0⟩,⟨by decide,p1⟩⟩,dD p1⟩
 ·rw[AA z];by_cases z1:n<=p
  ·rw[Aw z1];exact⟨⟨⟨IU 0,p0⟩,⟨(by decide:(0:Af)<=1),p1⟩,⟨by show 0<=n-1;omega,by show n-1<p;omega⟩⟩,jL p1 _⟩
  ·rw[AA z1];have d0:0<=(n-p-1) / p:=Ub (by omega) (by omega)
   have d1:(n-p-1) / p<p:=by rw[Int.ediv_lt_iff_lt_mul p0];omega
   exact⟨⟨⟨(by decide:(0:Af)<=1),p1⟩,⟨d0,d1⟩,⟨Bl _ (by omega),Bm _ p0⟩⟩,lO p1 _ _⟩
theorem jI(hp:P4 p)(h:NF p x):∃ n:Af,0<=n/\n<p*p+p+1/\x=ptI p n:=by
 obtain⟨⟨i0,i1,i2⟩,l⟩:=h;have p1:1<p:=by have:=hp.lo;omega
 have p0:=hp.pos;have pp:=Hs p0 p0;obtain⟨x0,x1,x2⟩:=x;simp only at i0 i1 i2;unfold tri lead at l;simp only at l;rw[A1 i0.1 i0.2]at l;by_cases z0:x0=0
 ·rw[Aw z0]at l;unfold lead at l;rw[A1 i1.1 i1.2]at l;by_cases z1:x1=0
  ·rw[Aw z1]at l;unfold lead at l;rw[A1 i2.1 i2.2]at l;by_cases z2:x2=0
   ·rw[Aw z2]at l;cases l
   ·rw[AA z2,Cr]at l;exact⟨0,IU 0,by omega,by rw[z0,z1,l];rfl⟩
  ·rw[AA z1,Cr]at l;refine⟨x2+1,by omega,by omega,?_⟩
   unfold ptI;rw[AA (by omega),Aw (by omega),z0,l,Int.add_sub_cancel]
 ·rw[AA z0,Cr]at l;have m1:p*x1<=p*(p-1):=Int.mul_le_mul_of_nonneg_left (by omega) (by omega)
  have m0:0<=p*x1:=Uc (by omega) i1.1
  rw[Int.mul_sub,EH]at m1;refine⟨p+1+p*x1+x2,by omega,by omega,?_⟩
  unfold ptI;have e:p+1+p*x1+x2-p-1=x2+p*x1:=by omega
  rw[AA (by omega),AA (by omega),e,Int.add_mul_ediv_left _ _ (by omega),Int.ediv_eq_zero_of_lt i2.1 i2.2,Int.add_mul_emod_self_left,A1 i2.1 i2.2,DO,l]
theorem G6(hp:P4 p):x∈Fu p↔NF p x:=by
 have p0:=hp.pos;have pp:=Hs p0 p0;constructor
 ·intro h;obtain⟨n,hn,rfl⟩:=CC.mp h;have:=BB.mp hn;exact SL hp (by omega) (by omega)
 ·intro h;obtain⟨n,n0,n1,rfl⟩:=jI hp h;refine CC.mpr ⟨n.toNat,BB.mpr (by omega),?_⟩
  rw[Int.toNat_of_nonneg n0]
theorem WD(hp:P4 p):(Fu p).Nodup:=by
 rcases hp with rfl|rfl|rfl|rfl<;>decide +kernel
theorem NC{α:Type}[DecidableEq α]:∀{l1 l2:Ad α},l1.Nodup->(∀ x∈l1,x∈l2)->l1.length<=l2.length
 |[],_,_,_=>Fw _
 |x::l1,l2,nd,h=>by
  obtain⟨n1,n2⟩:=CT.mp nd;have hx:=h x AI;have:=NC (l1:=l1) (l2:=l2.erase x) n2 fun y hy=>by
   have hy2:=h y (Ax _ hy);have ne:y≠x:=fun e=>n1 (e ▸ hy)
   exact(List.mem_erase_of_ne ne).mpr hy2
  rw[List.length_erase_of_mem hx]at this;have l0:0<l2.length:=Ut hx;rw[Br];omega
theorem Na{α β:Type}{f:α->β}:∀{l:Ad α},l.Nodup->(∀ x∈l,∀ y∈l,f x=f y->x=y)->(l.map f).Nodup
 |[],_,_=>HC
 |x::l,nd,h=>by
  obtain⟨n1,n2⟩:=CT.mp nd;rw[CI,CT];refine⟨fun m=>?_,Na n2 fun y hy z hz=>h y (Ax _ hy) z (Ax _ hz)⟩
  obtain⟨y,hy,e⟩:=CC.mp m;have:=h y (Ax _ hy) x AI e;exact n1 (this ▸ hy)
theorem ZU[DecidableEq α]{l:Ad α}(nd:l.Nodup)(F G:α->α)(hF:∀ x∈l,F x∈l)(hG:∀ y∈l,G y∈l)(GF:∀ x∈l,G (F x)=x)(FG:∀ y∈l,F (G y)=y)(Q:α->Ao):(l.filter fun x=>Q (F x)).length=(l.filter Q).length:=by
 refine Nat.le_antisymm ?_ ?_
 ·have n:((l.filter fun x=>Q (F x)).map F).Nodup:=Na (nd.filter _) fun x hx y hy e=>by
   have h1:=GF x (BV.mp hx).1;have h2:=GF y (BV.mp hy).1;rw[<-h1,<-h2,e]
  have:=NC (l2:=l.filter Q) n fun z hz=>by
   obtain⟨x,hx,rfl⟩:=CC.mp hz;obtain⟨h1,h2⟩:=BV.mp hx;exact BV.mpr ⟨hF x h1,h2⟩
  rwa [Cf]at this
 ·have n:((l.filter Q).map G).Nodup:=Na (nd.filter _) fun x hx y hy e=>by
   have h1:=FG x (BV.mp hx).1;have h2:=FG y (BV.mp hy).1;rw[<-h1,<-h2,e]
  have:=NC (l2:=l.filter fun x=>Q (F x)) n fun z hz=>by
   obtain⟨x,hx,rfl⟩:=CC.mp hz;obtain⟨h1,h2⟩:=BV.mp hx;exact BV.mpr ⟨hG x h1,by rw[FG x h1];exact h2⟩
  rwa [Cf]at this
noncomputable def nrm(p:Af)(r:R3):R3:=open Classical in if h:∃ y,NF p y/\Pr p y r then T9 h else r
theorem Xc{p l:Af}(hp:P4 p)(el:lead p (tri r)=Aa l):NF p (nrm p r)/\Pr p (nrm p r) r:=by
 have h:∃ y,NF p y/\Pr p y r:=by
  obtain⟨u,iu,j,l1,pr,_⟩:=Qn hp el;exact⟨_,⟨j,l1⟩,pr⟩
 unfold nrm;rw[dif_pos h];exact Ed h
theorem Jf{a b c x:R3}(hp:P4 p)(z:Ar a b c%p≠0)(hx:NF p x):NF p (nrm p (ap a b c x))/\Pr p (nrm p (ap a b c x)) (ap a b c x):=by
 obtain⟨l,el⟩:=ZG hp z hx.2 CgR.rfl;exact Xc hp el
theorem N7(hp:P4 p)(hx:NF p x)(hy:NF p y)(h:Pr p x y):x=y:=QF hp hx.1 hy.1 hx.2 hy.2 h
theorem WH{a b c x:R3}(hp:P4 p)(z:Ar a b c%p≠0)(hx:NF p x):nrm p (ap (bk0 a b c) (bk1 a b c) (bk2 a b c) (nrm p (ap a b c x)))=x:=by
 obtain⟨h1,h2⟩:=Jf hp z hx;have zB:Ar (bk0 a b c) (bk1 a b c) (bk2 a b c)%p≠0:=by rw[NY];exact F8 hp z z
 obtain⟨h3,h4⟩:=Jf hp zB h1;refine N7 hp h3 hx (h4.trans hp ((Pr.ap h2).trans hp ?_));rw[SR];exact⟨_,z,CgR.rfl⟩
theorem WG{a b c x:R3}(hp:P4 p)(z:Ar a b c%p≠0)(hx:NF p x):nrm p (ap a b c (nrm p (ap (bk0 a b c) (bk1 a b c) (bk2 a b c) x)))=x:=by
 have zB:Ar (bk0 a b c) (bk1 a b c) (bk2 a b c)%p≠0:=by rw[NY];exact F8 hp z z
 obtain⟨h1,h2⟩:=Jf hp zB hx;obtain⟨h3,h4⟩:=Jf hp z h1;refine N7 hp h3 hx (h4.trans hp ((Pr.ap h2).trans hp ?_));rw[eG];exact⟨_,z,CgR.rfl⟩
theorem Re{a b c:R3}(hp:P4 p)(z:Ar a b c%p≠0)(Q:R3->Ao):((Fu p).filter fun x=>Q (nrm p (ap a b c x))).length=((Fu p).filter Q).length:=by
 have zB:Ar (bk0 a b c) (bk1 a b c) (bk2 a b c)%p≠0:=by rw[NY];exact F8 hp z z
 exact ZU (WD hp) (fun x=>nrm p (ap a b c x)) (fun x=>nrm p (ap (bk0 a b c) (bk1 a b c) (bk2 a b c) x)) (fun x hx=>(G6 hp).mpr (Jf hp z ((G6 hp).mp hx)).1) (fun x hx=>(G6 hp).mpr (Jf hp zB ((G6 hp).mp hx)).1) (fun x hx=>WH hp z ((G6 hp).mp hx)) (fun x hx=>WG hp z ((G6 hp).mp hx)) Q
noncomputable def q4(w:Ag)(k:Af)(y:R3):Af:=match w with
  |0=>y.1*y.2.2-y.2.1*y.2.1
  |1=>y.1*y.1
  |2=>y.1*y.2.1
  |_=>y.1*y.1-k*(y.2.1*y.2.1)
theorem J7(u v x:R3):vI (prd u v) x=Bp u x*Bp v x:=by
 unfold vI prd Bp;simp only;grind
theorem RX(k:Af)(A:C6)(x:R3):vI (scC k A) x=k*vI A x:=by
 unfold vI scC;simp only;grind
noncomputable def BR(pts:Ad R3):D:=.lst (pts.map (Aq Ab))
theorem PQ{g:D->R Ao}{f:D->R D}{q:R3->Ao}:∀(xs:Ad R3),(∀ x∈xs,g (Aq Ab x)=.ok (q x)/\f (Aq Ab x)=.ok (Aq Ab x))->BG g f (xs.map (Aq Ab))=.ok ((xs.filter q).map (Aq Ab))
 |[],_=>rfl
 |x::xs,h=>by
  obtain⟨h1,h2⟩:=h x (AI ..);have ih:=PQ xs fun y hy=>h y (Ax _ hy)
  show (g (Aq Ab x)).bind _=_;rw[h1,R.bind_ok,FJ];cases hq:q x with
  |true=>
   rw[Aw rfl,Aw rfl,h2,R.bind_ok,show BG g f (List.map (Aq Ab) xs)=_ from ih]
   rfl
  |false=>
   rw[AA (by decide),AA (by decide)]
   exact ih
def S5(Γ:Gam):Prop:=∀(p n:Af),P4 p->0<=n->n<p*p+p+1->Γ.F 157 [.int p,.int n]=.ok (Aq Ab (ptI p n))
theorem gZ(Γ:Gam)(p n:Af)(hp:P4 p)(h0:0<=n)(h1:n<p*p+p+1):HU.run Γ [.int p,.int n]=.ok (Aq Ab (ptI p n)):=by
 have pp:Ez p p=Ab:=Jl (by have:=hp.lo;omega) (by have:=hp.hi;omega)
 have p0:=hp.pos;have ph:=hp.hi;have N0:0<p*p+p+1:=by have:=Hs p0 p0;omega
 have hr:n%(p*p+p+1)=n:=A1 h0 h1;have pb:p<1073741824:=by omega
 unfold ptI;by_cases z0:n=0
 ·rw[Aw z0];simp[HU,Df.run,BA,pp,N0,hr,z0];rfl
 ·rw[AA z0];by_cases z1:n<=p
  ·rw[Aw z1];simp[HU,Df.run,BA,pp,N0,hr,z0,z1];rfl
  ·rw[AA z1];simp[HU,Df.run,BA,pp,N0,hr,z0,z1,p0,pb];rfl
noncomputable def KH:E:=(.call 157 (.cons (.var 0) (.cons (.var 1) .nil)))
noncomputable def Ly:Df:=⟨2,Ac,(.cons (.ret (.comp KH 1 (.rng (.bin .Add (.bin .Add (.bin .Mult (.var 0) (.var 0)) (.var 0)) (.int 1))) DF)) .nil)⟩
def S8(Γ:Gam):Prop:=∀ p:Af,P4 p->Γ.F 164 [.int p]=.ok (BR (Fu p))
theorem jU(h:S5 Γ)(p:Af)(hp:P4 p):Ly.run Γ [.int p]=.ok (BR (Fu p)):=by
 have pp:Ez p p=Ab:=Jl (by have:=hp.lo;omega) (by have:=hp.hi;omega)
 have N1:0<=p*p+p+1/\p*p+p+1<=1000:=by rcases hp with rfl|rfl|rfl|rfl<;>decide
 have rg:C9 0 (p*p+p+1)=.ok (DL 0 (p*p+p+1-0).toNat):=Wd (by decide) (by decide) (by omega) (by omega)
 rw[GU]at rg;have cp:BG (cG Γ [si p,Ae] 1 DF) (cF Γ [si p,Ae] 1 KH) (DL 0 (p*p+p+1).toNat)=.ok ((Fu p).map (Aq Ab)):=by
  have key:∀ L:Ad Ag,(∀ k∈L,(k:Af)<p*p+p+1)->BG (cG Γ [si p,Ae] 1 DF) (cF Γ [si p,Ae] 1 KH) (L.map fun(k:Ag)=>D.int (0+(k:Af)))=.ok ((L.map fun(n:Ag)=>ptI p n).map (Aq Ab)):=fun L=>by
   induction L with
   |nil=>intro _;rfl
   |cons k L ih=>
    intro hL;have e:=h p k hp (by omega) (hL k AI)
    have f:cF Γ [si p,Ae] 1 KH (.int (0+(k:Af)))=.ok (Aq Ab (ptI p k)):=by
     rw[DO];simp[cF,KH,e]
    have ih':=ih fun m hm=>hL m (Ax _ hm)
    show (R.ok Ab).bind _=_;rw[R.bind_ok,Aw rfl,f,R.bind_ok,show BG _ _ (List.map _ L)=_ from ih']
    rfl
  exact key _ fun k hk=>by have:=BB.mp hk;omega
 generalize hN:p*p+p+1=N at *;generalize DL 0 N.toNat=RL at *;have e1:p*p+p+1=N:=hN;simp[Ly,Df.run,BA,pp,e1,rg,cp];rfl
noncomputable def lc2(a:Af)(A:C6)(b:Af)(B:C6):C6:=⟨a*A.c0+b*B.c0,a*A.c1+b*B.c1,a*A.c2+b*B.c2,a*A.c3+b*B.c3,a*A.c4+b*B.c4,a*A.c5+b*B.c5⟩
noncomputable def l3(a:Af)(A:C6)(b:Af)(B:C6)(c:Af)(G:C6):C6:=⟨a*A.c0+b*B.c0+c*G.c0,a*A.c1+b*B.c1+c*G.c1,a*A.c2+b*B.c2+c*G.c2,a*A.c3+b*B.c3+c*G.c3,a*A.c4+b*B.c4+c*G.c4,a*A.c5+b*B.c5+c*G.c5⟩
section
variable{p:Af}{x y z w:R3}{Q A B G L M:C6}
theorem Rr(hp:P4 p)(hx:NF p x)(hy:NF p y)(ne:x≠y):¬ CgR p (crs x y) (0,0,0):=fun h=>ne (N7 hp hx hy (Pr.symm hp (Qd hp h hx.2 hy.2)))
theorem z0{n:Af}(h:n%p=0):Cg p n 0:=by show n%p=0%p;rw[h,BE]
theorem z0'{n:Af}(h:Cg p n 0):n%p=0:=by
 have:n%p=0%p:=h;rw[this,BE]
section
variable{d u0 u1 u2 b0 b1 b2 q A B G l m:Af}
end
theorem OG{a b c d:Af}(ha:Cg p a 0)(hb:Cg p b 0):Cg p (a*c-b*d) 0:=((ha.mul Cg.rfl).sub (hb.mul Cg.rfl)).trans (Cg.of (by rw[EZ,EZ];rfl))
theorem bN(a b:Af)(v:R3):vI (lc2 a L b M) v=a*vI L v+b*vI M v:=by
 unfold vI lc2;simp only;grind
theorem bU{a a' b b':Af}{L' M':C6}(ha:Cg p a a')(hL:CgC p L L')(hb:Cg p b b')(hM:CgC p M M'):CgC p (lc2 a L b M) (lc2 a' L' b' M'):=
 ⟨(ha.mul hL.1).add (hb.mul hM.1),(ha.mul hL.2.1).add (hb.mul hM.2.1),(ha.mul hL.2.2.1).add (hb.mul hM.2.2.1),(ha.mul hL.2.2.2.1).add (hb.mul hM.2.2.2.1),(ha.mul hL.2.2.2.2.1).add (hb.mul hM.2.2.2.2.1),(ha.mul hL.2.2.2.2.2).add (hb.mul hM.2.2.2.2.2)⟩
theorem dB{l:Af}(hp:P4 p)(lQ:lead p Q.l=Aa l)(h:CgC p Q ⟨0,0,0,0,0,0⟩):AU:=by
 have:lead p Q.l=Ae:=Ji.mpr fun n hn=>by
  simp only[C6.l,AB,Bi,Cm]at hn;obtain⟨h0,h1,h2,h3,h4,h5⟩:=h;rcases hn with rfl|rfl|rfl|rfl|rfl|rfl
  ·exact z0' h0
  ·exact z0' h1
  ·exact z0' h2
  ·exact z0' h3
  ·exact z0' h4
  ·exact z0' h5
 rw[this]at lQ;cases lQ
theorem Yi(hp:P4 p){d:Af}(dz:d%p≠0)(h:CgC p (scC d Q) ⟨0,0,0,0,0,0⟩):CgC p Q ⟨0,0,0,0,0,0⟩:=⟨z0 ((E7 hp dz).mp (z0' h.1)),z0 ((E7 hp dz).mp (z0' h.2.1)),z0 ((E7 hp dz).mp (z0' h.2.2.1)),z0 ((E7 hp dz).mp (z0' h.2.2.2.1)),z0 ((E7 hp dz).mp (z0' h.2.2.2.2.1)),z0 ((E7 hp dz).mp (z0' h.2.2.2.2.2))⟩
end
noncomputable def JP:Ss:=(.cons (.ife (.cmp .In (.var 2) (.sl (.var 0) .non (.var 1))) (.cons (.rais 107 (.cons (.var 2) .nil)) .nil) .nil) .nil)
--
noncomputable def Hv:Df:=⟨3,Ac,(.cons (.forT [1,2] (.enm (.var 0)) JP) .nil)⟩
--
noncomputable def Jd:Ss:=(.cons (.asg 3 Ac (.bin .Add (.sl (.var 1) .non (.var 2)) (.sl (.var 1) (.bin .Add (.var 2) (.int 1)) .non))) (.cons (.ife (.and (.cons (.cmp .Eq (.call 61 (.cons (.var 0) (.cons (.idx (.var 3) (.int 0)) (.cons (.idx (.var 3) (.int 1)) (.cons (.idx (.var 3) (.int 2)) .nil))))) (.int 0)) (.cons (.cmp .Eq (.call 61 (.cons (.var 0) (.cons (.idx (.var 3) (.int 0)) (.cons (.idx (.var 3) (.int 1)) (.cons (.idx (.var 3) (.int 3)) .nil))))) (.int 0)) .nil))) (.cons (.ret (.bi .tuple (.cons (.var 3) .nil))) .nil) .nil) .nil))
--
noncomputable def JM:Df:=⟨4,Ac,(.cons (.fors 2 (.e (.tup (.cons (.int 4) (.cons (.int 3) (.cons (.int 2) (.cons (.int 1) (.cons (.int 0) .nil))))))) Jd) (.cons (.ret .non) .nil))⟩
--
noncomputable def MB:Df:=⟨2,Ac,(.cons (.ret (.tup (.cons (.bin .Mult (.idx (.var 0) (.int 0)) (.idx (.var 1) (.int 0))) (.cons (.bin .Mult (.idx (.var 0) (.int 1)) (.idx (.var 1) (.int 1))) (.cons (.bin .Mult (.idx (.var 0) (.int 2)) (.idx (.var 1) (.int 2))) (.cons (.bin .Add (.bin .Mult (.idx (.var 0) (.int 0)) (.idx (.var 1) (.int 1))) (.bin .Mult (.idx (.var 0) (.int 1)) (.idx (.var 1) (.int 0)))) (.cons (.bin .Add (.bin .Mult (.idx (.var 0) (.int 0)) (.idx (.var 1) (.int 2))) (.bin .Mult (.idx (.var 0) (.int 2)) (.idx (.var 1) (.int 0)))) (.cons (.bin .Add (.bin .Mult (.idx (.var 0) (.int 1)) (.idx (.var 1) (.int 2))) (.bin .Mult (.idx (.var 0) (.int 2)) (.idx (.var 1) (.int 1)))) .nil)))))))) .nil)⟩
noncomputable def MN:E:=(.bin .Sub (.bin .Mult (.var 4) (.var 6)) (.bin .Mult (.var 5) (.var 7)))
--
noncomputable def KG:Df:=⟨8,Ac,(.cons (.asg 2 Ac (.call 196 (.cons (.call 57 (.cons (.var 0) (.cons (.idx (.var 1) (.int 0)) (.cons (.idx (.var 1) (.int 1)) .nil)))) (.cons (.call 57 (.cons (.var 0) (.cons (.idx (.var 1) (.int 2)) (.cons (.idx (.var 1) (.int 3)) .nil)))) .nil)))) (.cons (.asg 3 Ac (.call 196 (.cons (.call 57 (.cons (.var 0) (.cons (.idx (.var 1) (.int 0)) (.cons (.idx (.var 1) (.int 2)) .nil)))) (.cons (.call 57 (.cons (.var 0) (.cons (.idx (.var 1) (.int 1)) (.cons (.idx (.var 1) (.int 3)) .nil)))) .nil)))) (.cons (.asg 4 Ac (.call 126 (.cons (.var 0) (.cons (.var 3) (.cons (.idx (.var 1) (.int 4)) .nil))))) (.cons (.asg 5 Ac (.call 126 (.cons (.var 0) (.cons (.var 2) (.cons (.idx (.var 1) (.int 4)) .nil))))) (.cons (.ret (.call 122 (.cons (.var 0) (.cons (.compT MN [6,7] (.zip (.var 2) (.var 3)) DF) .nil)))) .nil)))))⟩
--
noncomputable def IF:Df:=⟨3,Ac,(.cons (.ife (.cmp .NotEq (.bi .len (.cons (.var 1) .nil)) (.int 5)) (.cons (.rais 13 (.cons (.str (AV "a curve is told by five points")) .nil)) .nil) .nil) (.cons (.expr (.call 194 (.cons (.var 1) .nil))) (.cons (.asg 2 Ac (.call 195 (.cons (.var 0) (.cons (.var 1) .nil)))) (.cons (.ife (.cmp .IsNot (.var 2) .non) (.cons (.rais 118 (.cons (.var 2) .nil)) .nil) .nil) (.cons (.ret (.call 197 (.cons (.var 0) (.cons (.var 1) .nil)))) .nil)))))⟩
section
variable{Γ:Gam}{p:Af}{P0 P1 P2 P3 P4:D}
noncomputable def five(P0 P1 P2 P3 P4:D):D:=.lst [P0,P1,P2,P3,P4]
theorem dM(f0:flD 5 P0=Ab)(f1:flD 5 P1=Ab)(f2:flD 5 P2=Ab)(f3:flD 5 P3=Ab)(f4:flD 5 P4=Ab)(n01:eqD P0 P1=Ac)(n02:eqD P0 P2=Ac)(n03:eqD P0 P3=Ac)(n04:eqD P0 P4=Ac)(n12:eqD P1 P2=Ac)(n13:eqD P1 P3=Ac)(n14:eqD P1 P4=Ac)(n23:eqD P2 P3=Ac)(n24:eqD P2 P4=Ac)(n34:eqD P3 P4=Ac):Hv.run Γ [five P0 P1 P2 P3 P4]=.ok .non:=by
 simp[five,Hv,Df.run,BA,DM,Ch,Jv,JP,Hf,F9,f0,f1,f2,f3,f4,n01,n02,n03,n04,n12,n13,n14,n23,n24,n34]
theorem K0{k a b:Af}{u v:Ad D}(c0:slD PP Ae (Aa k)=.ok (.lst u))(c1:slD PP (Aa (k+1)) Ae=.ok (.lst v))(ad:Dj .Add (.lst u) (.lst v)=.ok (.lst [q0,q1,q2,q3]))(e0:Γ.F 61 [.int p,q0,q1,q2]=.ok (.int a))(e1:Γ.F 61 [.int p,q0,q1,q3]=.ok (.int b))(h:¬ (a=0/\b=0)):BM Γ 2 Jd (.int k) [si p,sh PP,s2,s3]=.next [si p,sh PP,si k,sh (.lst [q0,q1,q2,q3])]:=by
 have i0:CG (.lst [q0,q1,q2,q3]) (.int 0)=.ok q0:=rfl;have i1:CG (.lst [q0,q1,q2,q3]) (.int 1)=.ok q1:=rfl;have i2:CG (.lst [q0,q1,q2,q3]) (.int 2)=.ok q2:=rfl;have i3:CG (.lst [q0,q1,q2,q3]) (.int 3)=.ok q3:=rfl;generalize D.lst [q0,q1,q2,q3]=FF at *;generalize D.lst u=U at *;generalize D.lst v=V at *;by_cases ha:a=0
 ·have hb:b≠0:=fun z=>h ⟨ha,z⟩
  simp[BM,Jd,c0,c1,ad,i0,i1,i2,i3,e0,e1,ha,hb]
 ·simp[BM,Jd,c0,c1,ad,i0,i1,i2,i3,e0,e1,ha]
end
structure Five (p:Af) (C:C6) (pts:Ad R3):Prop where
 len:pts.length=5
 nd:pts.Nodup
 nf:∀ x∈pts,NF p x
 on:∀ x∈pts,vI C x%p=0
 n4:∀ n:R3,¬ CgR p n (0,0,0)->(pts.filter fun x=>decide (Bp n x%p=0)).length<=3
theorem YL{l:Ad α}(h:l.length=5):∃ a b c d e,l=[a,b,c,d,e]:=by
  match l,h with
  |[a,b,c,d,e],_=>exact⟨a,b,c,d,e,rfl⟩
theorem KM(a b c d e:R3):BR [a,b,c,d,e]=five (Aq Ab a) (Aq Ab b) (Aq Ab c) (Aq Ab d) (Aq Ab e):=rfl
section
variable{Γ:Gam}{p:Af}{C:C6}
theorem EC(x y z:R3):Bp (crs x y) z=Ar x y z:=by
 unfold Bp crs Ar det;grind
def Sc(Γ:Gam):Prop:=∀(p:Af)(a b:R3),P4 p->In3 p a->In3 p b->Γ.F 196 [Aq Ab a,Aq Ab b]=.ok (BX (prd a b))
theorem dI(Γ:Gam)(p:Af)(a b:R3)(hp:P4 p)(ia:In3 p a)(ib:In3 p b):MB.run Γ [Aq Ab a,Aq Ab b]=.ok (BX (prd a b)):=by
 have ba:=Fe hp ia;have bb:=Fe hp ib;have k:∀ {u v},Bd 10 u->Bd 10 v->EO u v=Ab:=fun hu hv=>GA hu hv (by decide) (by decide)
 obtain⟨x0,x1,x2⟩:=HW Ab a;obtain⟨y0,y1,y2⟩:=HW Ab b;simp[MB,Df.run,BA,x0,x1,x2,y0,y1,y2,k ba.1 bb.1,k ba.2.1 bb.2.1,k ba.2.2 bb.2.2,k ba.1 bb.2.1,k ba.2.1 bb.1,k ba.1 bb.2.2,k ba.2.2 bb.1,k ba.2.1 bb.2.2,k ba.2.2 bb.2.1];rfl
theorem Mh{a b:R3}(hp:P4 p)(ia:In3 p a)(ib:In3 p b):BC (prd a b):=by
 have hh:=hp.hi;have k:∀{x y:Af},0<=x/\x<p->0<=y/\y<p->0<=x*y/\x*y<=100:=fun {x y} hx hy=>by
  refine⟨Uc hx.1 hy.1,?_⟩;exact Im (Int.mul_le_mul (show x<=10 by omega) (show y<=10 by omega) hy.1 (by decide)) (by decide)
 have b1:∀{n:Af},0<=n/\n<=100->Bd 10 n:=fun h=>by unfold Bd;omega
 have b2:∀{m n:Af},0<=m/\m<=100->0<=n/\n<=100->Bd 10 (m+n):=fun h g=>by unfold Bd;omega
 obtain⟨a0,a1,a2⟩:=ia;obtain⟨b0,b1',b2'⟩:=ib;exact⟨b1 (k a0 b0),b1 (k a1 b1'),b1 (k a2 b2'),b2 (k a0 b1') (k a1 b0),b2 (k a0 b2') (k a2 b0),b2 (k a1 b2') (k a2 b1')⟩
def Rx(Γ:Gam):Prop:=∀(p:Af)(C:C6)(x:R3),P4 p->BC C->In3 p x->Γ.F 126 [.int p,BX C,Aq Ab x]=.ok (.int (vI C x%p))
theorem dE(hr:II Γ)(p:Af)(C:C6)(x:R3)(hp:P4 p)(bC:BC C)(ix:In3 p x):NK.run Γ [.int p,BX C,Aq Ab x]=.ok (.int (vI C x%p)):=by
 obtain⟨i0,i1,i2,i3,i4,i5⟩:=ix6 C;obtain⟨x0,x1,x2⟩:=HW Ab x;have bx:=Fe hp ix;have k:∀ {u v},Bd 10 u->Bd 10 v->EO u v=Ab:=fun hu hv=>GA hu hv (by decide) (by decide)
 have k2:∀ {u v w},Bd 10 u->Bd 10 v->Bd 10 w->EO (u*v) w=Ab:=fun hu hv hw=>GA (hu.mul hv) hw (by decide) (by decide)
 simp[NK,Df.run,BA,i0,i1,i2,i3,i4,i5,x0,x1,x2,k bC.b0 bx.1,k bC.b1 bx.2.1,k bC.b2 bx.2.2,k bC.b3 bx.1,k bC.b4 bx.1,k bC.b5 bx.2.1,k2 bC.b0 bx.1 bx.1,k2 bC.b1 bx.2.1 bx.2.1,k2 bC.b2 bx.2.2 bx.2.2,k2 bC.b3 bx.1 bx.2.1,k2 bC.b4 bx.1 bx.2.2,k2 bC.b5 bx.2.1 bx.2.2,hr p _ hp.pos];rfl
theorem fK{P0 P1 P2 P3 P4 A B A' B' R:D}{L M:C6}{l m:Af}(bL:BC L)(bM:BC M)(bl:Bd 10 l)(bm:Bd 10 m)(e01:Γ.F 57 [.int p,P0,P1]=.ok A)(e23:Γ.F 57 [.int p,P2,P3]=.ok B)(eL:Γ.F 196 [A,B]=.ok (BX L))(e02:Γ.F 57 [.int p,P0,P2]=.ok A')(e13:Γ.F 57 [.int p,P1,P3]=.ok B')(eM:Γ.F 196 [A',B']=.ok (BX M))(vM:Γ.F 126 [.int p,BX M,P4]=.ok (.int m))(vL:Γ.F 126 [.int p,BX L,P4]=.ok (.int l))(ec:Γ.F 122 [.int p,.lst (ds (lc2 m L (-l) M).l)]=.ok R):KG.run Γ [.int p,five P0 P1 P2 P3 P4]=.ok R:=by
 have i0:CG (five P0 P1 P2 P3 P4) (.int 0)=.ok P0:=rfl;have i1:CG (five P0 P1 P2 P3 P4) (.int 1)=.ok P1:=rfl;have i2:CG (five P0 P1 P2 P3 P4) (.int 2)=.ok P2:=rfl;have i3:CG (five P0 P1 P2 P3 P4) (.int 3)=.ok P3:=rfl;have i4:CG (five P0 P1 P2 P3 P4) (.int 4)=.ok P4:=rfl;have sL:Ck (BX L)=.ok (ds L.l):=rfl;have sM:Ck (BX M)=.ok (ds M.l):=rfl;have k:∀ {u v},Bd 10 u->Bd 10 v->EO u v=Ab:=fun hu hv=>GA hu hv (by decide) (by decide)
 have cp:∀(PP cL cM:D),BG (cGT Γ [si p,sh PP,sh cL,sh cM,si m,si l,Ae,Ae] [6,7] DF) (cFT Γ [si p,sh PP,sh cL,sh cM,si m,si l,Ae,Ae] [6,7] MN) (Em (ds L.l) (ds M.l))=.ok (ds (lc2 m L (-l) M).l):=fun PP cL cM=>by
  obtain⟨l0,l1,l2,l3,l4,l5⟩:=L;obtain⟨m0,m1,m2,m3,m4,m5⟩:=M;have n:∀ a b:Af,m*a + -l*b=m*a-l*b:=fun a b=>by rw[Int.neg_mul,Int.sub_eq_add_neg]
  simp[BG,cGT,cFT,Em,ds,C6.l,lc2,MN,DF,n,k bm bL.b0,k bm bL.b1,k bm bL.b2,k bm bL.b3,k bm bL.b4,k bm bL.b5,k bl bM.b0,k bl bM.b1,k bl bM.b2,k bl bM.b3,k bl bM.b4,k bl bM.b5]
 generalize five P0 P1 P2 P3 P4=PP at *;generalize ds (lc2 m L (-l) M).l=FF at *;generalize ds L.l=LL at *;generalize ds M.l=MM at *;generalize BX L=cL at *;generalize BX M=cM at *;simp[KG,Df.run,BA,i0,i1,i2,i3,i4,e01,e23,eL,e02,e13,eM,vM,vL,sL,sM,cp,ec]
theorem dR{a a' b b':R3}(ha:CgR p a a')(hb:CgR p b b'):CgC p (prd a b) (prd a' b'):=
 ⟨ha.1.mul hb.1,ha.2.1.mul hb.2.1,ha.2.2.mul hb.2.2,(ha.1.mul hb.2.1).add (ha.2.1.mul hb.1),(ha.1.mul hb.2.2).add (ha.2.2.mul hb.1),(ha.2.1.mul hb.2.2).add (ha.2.2.mul hb.2.1)⟩
theorem QP(hp:P4 p){a a' b b':R3}(ha:Pr p a a')(hb:Pr p b b'):PrC p (prd a b) (prd a' b'):=by
 obtain⟨d,dz,e⟩:=ha;obtain⟨d',dz',e'⟩:=hb;refine⟨d*d',F8 hp dz dz',(dR e e').trans (CgC.of ?_)⟩;unfold prd scC Di
 congr 1<;>grind
theorem fL(hp:P4 p){L M L' M':C6}(hL:PrC p L' L)(hM:PrC p M' M)(v:R3):PrC p (lc2 (vI M' v%p) L' (-(vI L' v%p)) M') (lc2 (vI M v) L (-vI L v) M):=by
 obtain⟨d,dz,e⟩:=hL;obtain⟨d',dz',e'⟩:=hM;refine⟨d*d',F8 hp dz dz',?_⟩;have r:CgR p v v:=⟨Cg.rfl,Cg.rfl,Cg.rfl⟩;have q:=Jt e r;have q':=Jt e' r;rw[RX]at q q';have neg:∀{a b:Af},Cg p a b->Cg p (-a) (-b):=fun {a b} h=>by
  have:=(Cg.rfl (p:=p) (a:=0)).sub h
  rwa [Ue,Ue]at this
 refine(bU ((Cg.md rfl).trans q') e (neg ((Cg.md rfl).trans q)) e').trans (CgC.of ?_);generalize vI M v=m;generalize vI L v=l;unfold lc2 scC
 congr 1<;>grind
theorem Xe(hp:P4 p){l:Af}{E:C6}(lC:lead p C.l=Aa l)(h:PrC p E C):∃ l',lead p E.l=Aa l':=by
 cases e:lead p E.l with
 |some l'=>exact⟨l',rfl⟩
 |none=>
  exfalso
  obtain⟨d,dz,q⟩:=h;have z:=Ji.mp e;have k:∀{n:Af},n∈E.l->Cg p n 0:=fun hn=>z0 (z _ hn)
  have q2:CgC p E ⟨0,0,0,0,0,0⟩:=⟨k (by simp[C6.l]),k (by simp[C6.l]),k (by simp[C6.l]),k (by simp[C6.l]),k (by simp[C6.l]),k (by simp[C6.l])⟩
  exact dB hp lC (Yi hp dz (q.symm.trans q2))
noncomputable def Fc(a b c d e:R3):C6:=lc2 (vI (prd (crs a c) (crs b d)) e) (prd (crs a b) (crs c d)) (-vI (prd (crs a b) (crs c d)) e) (prd (crs a c) (crs b d))
end
section
variable{p:Af}{r n a b c x y z u:R3}
theorem ZT(x y n:R3):crs (crs x y) n=(Bp n x*y.1-Bp n y*x.1,Bp n x*y.2.1-Bp n y*x.2.1,Bp n x*y.2.2-Bp n y*x.2.2):=by
 unfold crs Bp;refine D6 ?_ (D6 ?_ ?_)<;>simp only<;>grind
theorem par(hp:P4 p)(h1:CgR p (crs r n) (0,0,0))(h2:CgR p (crs r a) (0,0,0))(rz:¬ CgR p r (0,0,0))(nz:¬ CgR p n (0,0,0))(e:Bp n z%p=0):Bp a z%p=0:=by
 obtain⟨f0,f1,f2⟩:=h1;obtain⟨g0,g1,g2⟩:=h2;simp only[crs]at f0 f1 f2 g0 g1 g2;have sw:∀{x y:Af},Cg p (x-y) 0->Cg p x y:=fun {x y} h=>(Cg.of (by omega)).trans ((h.add (Cg.rfl (a:=y))).trans (Cg.of (by omega)))
 have d1:=sw f0;have d2:=sw f1;have d3:=sw f2;have c1:=sw g0;have c2:=sw g1;have c3:=sw g2
 -- r i n j=r j n i
 have key:∀ ri ni ai:Af,Cg p (ri*n.1) (r.1*ni)->Cg p (ri*n.2.1) (r.2.1*ni)->Cg p (ri*n.2.2) (r.2.2*ni)->Cg p (ri*a.1) (r.1*ai)->Cg p (ri*a.2.1) (r.2.1*ai)->Cg p (ri*a.2.2) (r.2.2*ai)->ni%p≠0->Bp a z%p=0:=fun ri ni ai k0 k1 k2 l0 l1 l2 hz=>by
  have rn:ri%p≠0:=fun q=>rz ⟨?_,?_,?_⟩
  ·have s1:Cg p (ni*Bp r z) 0:=by
    have t:=(((k0.mul (Cg.rfl (a:=z.1))).add (k1.mul (Cg.rfl (a:=z.2.1)))).add (k2.mul (Cg.rfl (a:=z.2.2)))).symm;refine(Cg.of ?_).trans (t.trans ((Cg.of ?_).trans (((Cg.rfl (a:=ri)).mul (z0 e)).trans (Cg.of (Ee _)))))
    ·unfold Bp;clear e k0 k1 k2 l0 l1 l2 t c1 c2 c3 d1 d2 d3 f0 f1 f2 g0 g1 g2 sw;grind
    ·unfold Bp;clear e k0 k1 k2 l0 l1 l2 t c1 c2 c3 d1 d2 d3 f0 f1 f2 g0 g1 g2 sw;grind
   have s2:=z0 ((E7 hp hz).mp (z0' s1));have s3:Cg p (ri*Bp a z) 0:=by
    have t:=(((l0.mul (Cg.rfl (a:=z.1))).add (l1.mul (Cg.rfl (a:=z.2.1)))).add (l2.mul (Cg.rfl (a:=z.2.2))));refine(Cg.of ?_).trans (t.trans ((Cg.of ?_).trans (((Cg.rfl (a:=ai)).mul s2).trans (Cg.of (Ee _)))))
    ·unfold Bp;clear e k0 k1 k2 l0 l1 l2 t c1 c2 c3 d1 d2 d3 f0 f1 f2 g0 g1 g2 sw s1 s2;grind
    ·unfold Bp;clear e k0 k1 k2 l0 l1 l2 t c1 c2 c3 d1 d2 d3 f0 f1 f2 g0 g1 g2 sw s1 s2;grind
   exact(E7 hp rn).mp (z0' s3)
  all_goals
   refine z0 ((E7 hp hz).mp (z0' ?_))
  ·exact(Cg.of (BW _ _)).trans (k0.symm.trans (((z0 q).mul Cg.rfl).trans (Cg.of (EZ _))))
  ·exact(Cg.of (BW _ _)).trans (k1.symm.trans (((z0 q).mul Cg.rfl).trans (Cg.of (EZ _))))
  ·exact(Cg.of (BW _ _)).trans (k2.symm.trans (((z0 q).mul Cg.rfl).trans (Cg.of (EZ _))))
 by_cases n0:n.1%p=0
 ·by_cases n1:n.2.1%p=0
  ·have n2:n.2.2%p≠0:=fun q=>nz ⟨z0 n0,z0 n1,z0 q⟩
   exact key r.2.2 n.2.2 a.2.2 d2 d1.symm Cg.rfl c2 c1.symm Cg.rfl n2
  ·exact key r.2.1 n.2.1 a.2.1 d3.symm Cg.rfl d1 c3.symm Cg.rfl c1 n1
 ·exact key r.1 n.1 a.1 Cg.rfl d3 d2.symm Cg.rfl c3 c2.symm n0
theorem TQ(h1:Bp n x%p=0)(h2:Bp n y%p=0):CgR p (crs (crs x y) n) (0,0,0):=by
 rw[ZT];exact⟨OG (z0 h1) (z0 h2),OG (z0 h1) (z0 h2),OG (z0 h1) (z0 h2)⟩
theorem bO(hp:P4 p)(hx:NF p x)(hy:NF p y)(ne:x≠y)(nz:¬ CgR p n (0,0,0))(n1:Bp n x%p=0)(n2:Bp n y%p=0)(a1:Bp a x%p=0)(a2:Bp a y%p=0)(e:Bp n z%p=0):Bp a z%p=0:=
 par hp (TQ n1 n2) (TQ a1 a2) (Rr hp hx hy ne) nz e
theorem Qh(hp:P4 p)(hx:NF p x)(hy:NF p y)(ne:x≠y)(nz:¬ CgR p n (0,0,0))(n1:Bp n x%p=0)(n2:Bp n y%p=0)(e:Bp n u%p=0):Ar x y u%p=0:=by
 rw[<-EC];obtain⟨h1,h2⟩:=ZP x y;exact bO hp hx hy ne nz n1 n2 (by rw[h1];exact BE p) (by rw[h2];exact BE p) e
end
noncomputable def ow(l:Ad R3):Sl:=Aa (BR l,Ab)
theorem Xy{q:R3->Ao}{l:Ad R3}(nd:l.Nodup)(h:3<=(l.filter q).length):∃ x y u,x∈l/\y∈l/\u∈l/\x≠y/\x≠u/\y≠u/\q x=Ab/\q y=Ab/\q u=Ab:=by
  have nf:(l.filter q).Nodup:=nd.filter (p:=q);have hm:∀ x∈l.filter q,x∈l/\q x=Ab:=fun x hx=>BV.mp hx
  generalize l.filter q=F at *
  match F,h,nf,hm with
  |x::y::u::r,_,nf,hm=>
    simp only[CT,AB,Dz]at nf;have a:=hm x (by simp)
    have b:=hm y (by simp)
    have c:=hm u (by simp)
    exact⟨x,y,u,a.1,b.1,c.1,nf.1.1,nf.1.2.1,nf.2.1.1,a.2,b.2,c.2⟩
section
variable{Γ:Gam}{ns:Ad Af}
noncomputable def lnA(p:Af)(a b:R3):Ad R3:=(Fu p).filter fun x=>decide (Bp a x%p=0) && !decide (Bp b x%p=0)
noncomputable def qa(p:Af)(y:R3):Ao:=decide (y.1%p=0) && !decide (y.2.1%p=0)
noncomputable def qb(p:Af)(y:R3):Ao:=decide (y.2.1%p=0) && !decide (y.1%p=0)
theorem kX(hp:P4 p):((Fu p).filter (qa p)).length=p.toNat/\((Fu p).filter (qb p)).length=p.toNat:=by
 rcases hp with rfl|rfl|rfl|rfl<;>decide +kernel
theorem cZ{a b c:R3}(hp:P4 p)(z:Ar a b c%p≠0):(lnA p a b).length=p.toNat/\(lnA p b a).length=p.toNat:=by
 have k:∀ x∈Fu p,(decide (Bp a x%p=0)=decide ((nrm p (ap a b c x)).1%p=0))/\(decide (Bp b x%p=0)=decide ((nrm p (ap a b c x)).2.1%p=0)):=fun x hx=>by
  obtain⟨_,d,dz,e⟩:=Jf hp z ((G6 hp).mp hx);have h1:(nrm p (ap a b c x)).1%p=d*Bp a x%p:=e.1;have h2:(nrm p (ap a b c x)).2.1%p=d*Bp b x%p:=e.2.1;rw[h1,h2];exact⟨nE.mpr (E7 hp dz).symm,nE.mpr (E7 hp dz).symm⟩
 obtain⟨h1,h2⟩:=kX hp;constructor
 ·rw[<-h1,<-Re hp z (qa p)];unfold lnA;rw[GJ fun x hx=>by rw[(k x hx).1,(k x hx).2]]
  rfl
 ·rw[<-h2,<-Re hp z (qb p)];unfold lnA;rw[GJ fun x hx=>by rw[(k x hx).1,(k x hx).2]]
  rfl
theorem cY{a b x:R3}(hp:P4 p)(h:x∈lnA p a b):NF p x/\Bp a x%p=0/\Bp b x%p≠0:=by
 unfold lnA at h;rw[List.mem_filter]at h;obtain⟨h1,h2⟩:=h;simp only[Ak,AG,Bo,nF]at h2;exact⟨(G6 hp).mp h1,h2.1,h2.2⟩
theorem bJ{C E:C6}(hp:P4 p)(h:PrC p C E)(x:R3):vI C x%p=0↔vI E x%p=0:=by
 obtain⟨d,dz,e⟩:=h;have q:=Jt (x:=x) (x':=x) e ⟨Cg.rfl,Cg.rfl,Cg.rfl⟩;rw[RX]at q;rw[show vI C x%p=_ from q]
 exact E7 hp dz
def S6(Γ:Gam):Prop:=∀(p:Af)(q:Ao)(x y:R3),P4 p->In3 p x->In3 p y->Γ.F 173 [.int p,Aq Ab x,Aq q y]=.ok (.bl (decide (Bp y x%p=0)))
theorem jO(Γ:Gam)(p:Af)(q:Ao)(x y:R3)(hp:P4 p)(ix:In3 p x)(iy:In3 p y):Nn.run Γ [.int p,Aq Ab x,Aq q y]=.ok (.bl (decide (Bp y x%p=0))):=by
 have p0:=hp.pos;have bx:=Fe hp ix;have by_:=Fe hp iy;have k:∀ {u v},Bd 10 u->Bd 10 v->EO u v=Ab:=fun hu hv=>GA hu hv (by decide) (by decide)
 have k0:=k by_.1 bx.1;have k1:=k by_.2.1 bx.2.1;have k2:=k by_.2.2 bx.2.2;have sx:Ck (Aq Ab x)=.ok [.int x.1,.int x.2.1,.int x.2.2]:=rfl;have sy:Ck (Aq q y)=.ok [.int y.1,.int y.2.1,.int y.2.2]:=by cases q<;>rfl
 unfold Bp;generalize x.1=x0 at *;generalize x.2.1=x1 at *;generalize x.2.2=x2 at *;generalize y.1=y0 at *;generalize y.2.1=y1 at *;generalize y.2.2=y2 at *;generalize Aq Ab x=xx at *;generalize Aq q y=yy at *;have cp:BG (cGT Γ [si p,sh xx,sh yy,Ae,Ae] [3,4] DF) (cFT Γ [si p,sh xx,sh yy,Ae,Ae] [3,4] MX) (Em [.int y0,.int y1,.int y2] [.int x0,.int x1,.int x2])=.ok [.int (y0*x0),.int (y1*x1),.int (y2*x2)]:=by
  simp[BG,cGT,cFT,Em,MX,DF,k0,k1,k2]
 generalize hs:y0*x0+y1*x1+y2*x2=s;have sm:Gn 0 [.int (y0*x0),.int (y1*x1),.int (y2*x2)]=.ok s:=by rw[<-hs];simp[Gn]
 simp[Nn,Df.run,BA,sx,sy,cp,sm,p0];rw[CS];simp
section
variable{p m wy:Af}{S RR cC AL o cc ra rb R:D}{as fa fb x y:Ad D}
end
end
section
variable{p:Af}{C:C6}
structure N3 (p:Af) (pts:Ad R3):Prop where
 nd:pts.Nodup
 nf:∀ x∈pts,NF p x
 n3:∀ x y u,x∈pts->y∈pts->u∈pts->x≠y->x≠u->y≠u->Ar x y u%p≠0
theorem N3.five(hp:P4 p)(h:N3 p pts)(len:pts.length=5)(on:∀ x∈pts,vI C x%p=0):Five p C pts:=by
 refine⟨len,h.nd,h.nf,on,fun n hn=>?_⟩
 apply T8
 intro hc;obtain⟨x,y,u,hx,hy,hu,n1,n2,n3,q1,q2,q3⟩:=Xy (q:=fun x=>decide (Bp n x%p=0)) h.nd (by omega)
 exact h.n3 x y u hx hy hu n1 n2 n3 (Qh hp (h.nf x hx) (h.nf y hy) n1 hn (Ec q1) (Ec q2) (Ec q3))
end
section
variable{Γ:Gam}{p:Af}
end
section
variable{Γ:Gam}{p:Af}{a b c d e f x y:R3}{C:C6}
structure Six (p:Af) (a b c d e f:R3):Prop where
 n3:N3 p [a,b,c,d,e,f]
 m0:Ar a d e%p≠0/\Ar a d b%p≠0
 m1:Ar b e f%p≠0/\Ar b e c%p≠0
 m2:Ar c f a%p≠0/\Ar c f d%p≠0
 ab:a≠b
 bc:b≠c
 cd:c≠d
 de:d≠e
 ef:e≠f
 fa:f≠a
 mj:Ar b d e%p≠0/\Ar b e f%p≠0/\Ar a b c%p≠0
theorem Six.of(h:N3 p [a,b,c,d,e,f]):Six p a b c d e f:=by
 have nd:=h.nd;simp only[CT,AB,Bi,Cm,Dz,not_false_eq_true,HC,and_true]at nd;obtain⟨⟨n01,n02,n03,n04,n05⟩,⟨n12,n13,n14,n15⟩,⟨n23,n24,n25⟩,⟨n34,n35⟩,n45⟩:=nd;have k:∀{x y u:R3},x∈[a,b,c,d,e,f]->y∈[a,b,c,d,e,f]->u∈[a,b,c,d,e,f]->x≠y->x≠u->y≠u->Ar x y u%p≠0:=fun hx hy hu=>h.n3 _ _ _ hx hy hu
 exact⟨h,⟨k (by simp) (by simp) (by simp) n03 n04 n34,k (by simp) (by simp) (by simp) n03 n01 (CK n13)⟩,⟨k (by simp) (by simp) (by simp) n14 n15 n45,k (by simp) (by simp) (by simp) n14 n12 (CK n24)⟩,⟨k (by simp) (by simp) (by simp) n25 (CK n02) (CK n05),k (by simp) (by simp) (by simp) n25 n23 (CK n35)⟩,n01,n12,n23,n34,n45,CK n05,k (by simp) (by simp) (by simp) n13 n14 n34,k (by simp) (by simp) (by simp) n14 n15 n45,k (by simp) (by simp) (by simp) n01 n02 n12⟩
end
def S7(Γ:Gam):Prop:=∀(p:Af)(a b:R3),P4 p->In3 p a->In3 p b->Γ.F 161 [Aq Ab a,Aq Ab b]=.ok (Hy (crs a b))
theorem jQ(Γ:Gam)(p:Af)(a b:R3)(hp:P4 p)(ia:In3 p a)(ib:In3 p b):MY.run Γ [Aq Ab a,Aq Ab b]=.ok (Hy (crs a b)):=by
 have ba:=Fe hp ia;have bb:=Fe hp ib;have k:∀ {u v},Bd 10 u->Bd 10 v->EO u v=Ab:=fun hu hv=>GA hu hv (by decide) (by decide)
 obtain⟨a0,a1,a2⟩:=a;obtain⟨b0,b1,b2⟩:=b;have ea:∀(x y z:Af)(i j k:Ag)(ρ:Rho),Hx [i,j,k] (Aq Ab (x,y,z)) ρ=.ok (((ρ.set i (si x)).set j (si y)).set k (si z)):=fun _ _ _ _ _ _ _=>rfl
 simp[MY,Df.run,BA,ea,k ba.2.1 bb.2.2,k ba.2.2 bb.2.1,k ba.2.2 bb.1,k ba.1 bb.2.2,k ba.1 bb.2.1,k ba.2.1 bb.1];rfl
noncomputable def ML:Df:=⟨7,Ac,(.cons (.asgT [4,5,6] (.call 161 (.cons (.var 1) (.cons (.var 2) .nil)))) (.cons (.ret (.bin .Mod (.bin .Add (.bin .Add (.bin .Mult (.var 4) (.idx (.var 3) (.int 0))) (.bin .Mult (.var 5) (.idx (.var 3) (.int 1)))) (.bin .Mult (.var 6) (.idx (.var 3) (.int 2)))) (.var 0))) .nil))⟩
def Kg(Γ:Gam):Prop:=∀(p:Af)(a b c:R3),P4 p->In3 p a->In3 p b->In3 p c->Γ.F 165 [.int p,Aq Ab a,Aq Ab b,Aq Ab c]=.ok (.int (Ar a b c%p))
theorem ZS(a b c:R3):Bp (crs a b) c=Ar a b c:=by
 unfold Bp crs Ar det;grind
theorem jP(h:S7 Γ)(p:Af)(a b c:R3)(hp:P4 p)(ia:In3 p a)(ib:In3 p b)(ic:In3 p c):ML.run Γ [.int p,Aq Ab a,Aq Ab b,Aq Ab c]=.ok (.int (Ar a b c%p)):=by
 have e1:=h p a b hp ia ib;have bc:=Fe hp ic;have bx:=kU (Fe hp ia) (Fe hp ib);have k:∀ {u v},Bd 21 u->Bd 10 v->EO u v=Ab:=fun hu hv=>GA hu hv (by decide) (by decide)
 have k0:=k bx.1 bc.1;have k1:=k bx.2.1 bc.2.1;have k2:=k bx.2.2 bc.2.2;have p0:=hp.pos;obtain⟨x0,x1,x2⟩:=HW Ab c;rw[<-ZS];unfold Bp;generalize crs a b=w at *;obtain⟨w0,w1,w2⟩:=w;have ea:∀ ρ:Rho,Hx [4,5,6] (Hy (w0,w1,w2)) ρ=.ok (((ρ.set 4 (si w0)).set 5 (si w1)).set 6 (si w2)):=fun _=>rfl
 generalize Hy (w0,w1,w2)=ww at *;simp[ML,Df.run,BA,e1,ea,x0,x1,x2,k0,k1,k2,p0]
section
variable{Γ:Gam}{p i j k d N:Af}{PP x y u:D}{RL:Ad D}{s t s' t' v:Sl}
end
section
variable{Γ:Gam}{p:Af}{pts:Ad R3}
end
section
variable{Γ:Gam}{p:Af}{a b c d e f x y:R3}{C:C6}
theorem Bn.mono{m n:Ag}{a:R3}(h:Bn m a)(g:m<=n):Bn n a:=⟨h.1.mono g,h.2.1.mono g,h.2.2.mono g⟩
section
variable{cC PP A B C' D' E F L0 L1 L2 L3 L4 L5 U V W X Y Z J Q:D}
end
end
section
variable{Γ:Gam}{p:Af}{C:C6}
end
theorem LI{body:D->Rho->O}(I:Rho->Prop)(f:Ag->D)(g:Ag->An D):∀(L:Ad Ag),(∀ m∈L,∀ ρ,I ρ->(∃ d,g m=Aa d/\body (f m) ρ=.ret d Ac)\/(g m=Ae/\∃ ρ',body (f m) ρ=.next ρ'/\I ρ'))->∀ ρ,I ρ->(∃ d,L.findSome? g=Aa d/\Ch body (L.map f) ρ=.ret d Ac)\/(L.findSome? g=Ae/\∃ ρ',Ch body (L.map f) ρ=.next ρ'/\I ρ')
 |[],_,ρ,i=>.inr ⟨rfl,ρ,rfl,i⟩
 |m::L,h,ρ,i=>by
  rcases h m (AI ..) ρ i with ⟨d,e1,e2⟩|⟨e1,ρ',e2,i'⟩
  ·refine .inl ⟨d,by rw[Gc,e1],?_⟩
   show (body (f m) ρ).turn _=_;rw[e2];rfl
  ·rcases LI I f g L (fun m' h'=>h m' (Ax _ h')) ρ' i' with ⟨d,a,b⟩|⟨a,r,b,c⟩
   ·refine .inl ⟨d,by rw[Gc,e1];exact a,?_⟩
    show (body (f m) ρ).turn _=_;rw[e2];exact b
   ·refine .inr ⟨by rw[Gc,e1];exact a,r,?_,c⟩
    show (body (f m) ρ).turn _=_;rw[e2];exact b
noncomputable def at6(pts:Ad R3)(i:Ag):R3:=pts.getD i (0,0,0)
theorem in6(hg:∀ t∈pts,In3 p t)(h:i<pts.length):In3 p (at6 pts i):=by
 have e:at6 pts i=pts[i]:=by simp[at6,h]
 rw[e];exact hg _ (DQ h)
theorem Q7(h:i<pts.length):Da (pts.map (Aq Ab)) (i:Af)=.ok (Aq Ab (at6 pts i)):=by
 have h':i<(pts.map (Aq Ab)).length:=by simpa using h
 rw[WP _ i h'];simp[at6,h]
theorem Ju(h:i<pts.length):CG (BR pts) (.int (i:Af))=.ok (Aq Ab (at6 pts i)):=Q7 h
theorem Q8{t:Ag}{it:I}{body:Ss}{xs:Ad D}(h:FR Γ ρ it=.ok xs):evSs Γ ρ (.cons (.fors t it body) .nil)=Ch (BM Γ t body) xs ρ:=by rw[MZ,fH,Nj,h,NH]
section
variable{Γ:Gam}{p:Af}{pts:Ad R3}
end
section
variable{Γ:Gam}{p:Af}{pts:Ad R3}
theorem mS(x y u:R3):Ar y x u=-Ar x y u:=by
 unfold Ar det;grind
theorem OM(x y u:R3):Ar x u y=-Ar x y u:=by
 unfold Ar det;grind
theorem dxx(x u:R3):Ar x x u=0/\Ar x u x=0/\Ar u x x=0:=by
 unfold Ar det;refine⟨?_,?_,?_⟩<;>grind
noncomputable def onl(d:D):Ex:=⟨118,[(AV "points", d)]⟩
end
noncomputable def dtw(C:C6):Af:=Ar (tw0 C) (tw1 C) (tw2 C)
theorem fN(u v:Af)(l m r s:R3):dtw (lc2 u (prd l m) v (prd r s))=u*v*(u*(-2*Ar l m r*Ar l m s)+v*(-2*Ar r s l*Ar r s m)):=by
 obtain⟨l0,l1,l2⟩:=l;obtain⟨m0,m1,m2⟩:=m;obtain⟨r0,r1,r2⟩:=r;obtain⟨s0,s1,s2⟩:=s;simp only[dtw,Ar,det,tw0,tw1,tw2,lc2,prd];grind
theorem dc1(a b c d:R3):Ar (crs a b) (crs c d) (crs a c)=-(Ar a b c*Ar a c d):=by
 simp only[Ar,det,crs];grind
theorem dc2(a b c d:R3):Ar (crs a b) (crs c d) (crs b d)=-(Ar a b d*Ar b c d):=by
 simp only[Ar,det,crs];grind
theorem dc3(a b c d:R3):Ar (crs a c) (crs b d) (crs a b)=Ar a b c*Ar a b d:=by
 simp only[Ar,det,crs];grind
theorem dc4(a b c d:R3):Ar (crs a c) (crs b d) (crs c d)=Ar a c d*Ar b c d:=by
 simp only[Ar,det,crs];grind
theorem kA(a b c d e:R3):Ar a c e*Ar b d e-Ar a b e*Ar c d e=Ar a d e*Ar b c e:=by
 simp only[Ar,det];grind
theorem fO(a b c d e:R3):dtw (Fc a b c d e)=2*(Ar a b c*Ar a b d*Ar a c d*Ar b c d*(Ar a b e*Ar a c e*Ar a d e*(Ar b c e*Ar b d e*Ar c d e))):=by
 unfold Fc;rw[fN,dc1,dc2,dc3,dc4,J7,J7,EC,EC,EC,EC];have h:=kA a b c d e;generalize Ar a b c=A at *;generalize Ar a b d=B at *;generalize Ar a c d=C at *;generalize Ar b c d=D at *;generalize Ar a b e=E at *;generalize Ar a c e=F at *;generalize Ar a d e=G at *;generalize Ar b c e=H at *;generalize Ar b d e=I at *;generalize Ar c d e=J at *;have e1:A*B*C*D*(E*F*G*(H*I*J))=A*B*C*D*(E*F*(I*J))*(G*H):=by grind
 rw[e1,<-h];grind
structure P5 (p:Af) (a b c d e:R3):Prop where
 na:NF p a
 nb:NF p b
 nc:NF p c
 nd:NF p d
 ne:NF p e
 ab:a≠b
 ac:a≠c
 ad:a≠d
 ae:a≠e
 bc:b≠c
 bd:b≠d
 be:b≠e
 cd:c≠d
 ce:c≠e
 de:d≠e
 h4:¬ (Ar a b c%p=0/\Ar a b d%p=0)
 h3:¬ (Ar a b c%p=0/\Ar a b e%p=0)
 h2:¬ (Ar a b d%p=0/\Ar a b e%p=0)
 h1:¬ (Ar a c d%p=0/\Ar a c e%p=0)
 h0:¬ (Ar b c d%p=0/\Ar b c e%p=0)
section
variable{p:Af}{a b c d e:R3}
theorem zn{x:Af}(h:x%p=0):(-x)%p=0:=Int.emod_eq_zero_of_dvd (Int.dvd_neg.mpr (Int.dvd_of_emod_eq_zero h))
theorem on3(hp:P4 p){s t:R3}(hx:NF p x)(hy:NF p y)(xy:x≠y)(hr:NF p r)(hs:NF p s)(rs:r≠s)(er:Ar x y r%p=0)(es:Ar x y s%p=0)(et:Ar x y t%p=0):Ar r s t%p=0:=
 Qh hp hr hs rs (Rr hp hx hy xy) (by rw[EC];exact er) (by rw[EC];exact es) (by rw[EC];exact et)
theorem zz1(x y:R3):Ar x y x%p=0:=by rw[(dxx x y).2.1,BE]
theorem zz2(x y:R3):Ar x y y%p=0:=by rw[(dxx y x).2.2,BE]
theorem HZ{z:R3}(h:Ar x y z%p=0):Ar x z y%p=0:=by rw[OM];exact zn h
theorem mH{z:R3}(h:Ar x y z%p=0):Ar y x z%p=0:=by rw[mS];exact zn h
theorem GE{z:R3}(h:Ar x y z%p=0):Ar y z x%p=0:=HZ (mH h)
theorem P5.t13(h:P5 p a b c d e)(hp:P4 p)(x:Ar a b c%p=0)(y:Ar a c d%p=0):AU:=h.h4 ⟨x,on3 hp h.na h.nc h.ac h.na h.nb h.ab (zz1 _ _) (HZ x) y⟩
theorem P5.t14(h:P5 p a b c d e)(hp:P4 p)(x:Ar a b c%p=0)(y:Ar b c d%p=0):AU:=h.h4 ⟨x,on3 hp h.nb h.nc h.bc h.na h.nb h.ab (GE x) (zz1 _ _) y⟩
theorem P5.t23(h:P5 p a b c d e)(hp:P4 p)(x:Ar a b d%p=0)(y:Ar a c d%p=0):AU:=h.h4 ⟨on3 hp h.na h.nd h.ad h.na h.nb h.ab (zz1 _ _) (HZ x) (HZ y),x⟩
theorem P5.t24(h:P5 p a b c d e)(hp:P4 p)(x:Ar a b d%p=0)(y:Ar b c d%p=0):AU:=h.h4 ⟨on3 hp h.nb h.nd h.bd h.na h.nb h.ab (GE x) (zz1 _ _) (HZ y),x⟩
theorem P5.t34(h:P5 p a b c d e)(hp:P4 p)(x:Ar a c d%p=0)(y:Ar b c d%p=0):AU:=h.h4 ⟨on3 hp h.nc h.nd h.cd h.na h.nb h.ab (GE x) (GE y) (zz1 _ _),on3 hp h.nc h.nd h.cd h.na h.nb h.ab (GE x) (GE y) (zz2 _ _)⟩
theorem spl(hp:P4 p)(hz:u*v%p=0):u%p=0\/v%p=0:=by
 by_cases hu:u%p=0
 ·exact .inl hu
 ·exact .inr ((E7 hp hu).mp hz)
theorem P5.not2(h:P5 p a b c d e)(hp:P4 p)(x:Ar a b e*Ar c d e%p=0)(y:Ar a c e*Ar b d e%p=0):AU:=by
 rcases spl hp x with x|x<;>rcases spl hp y with y|y
 ·exact h.h3 ⟨on3 hp h.na h.ne h.ae h.na h.nb h.ab (zz1 _ _) (HZ x) (HZ y),x⟩
 ·exact h.h2 ⟨on3 hp h.nb h.ne h.be h.na h.nb h.ab (GE x) (zz1 _ _) (HZ y),x⟩
 ·exact h.h1 ⟨on3 hp h.nc h.ne h.ce h.na h.nc h.ac (GE y) (zz1 _ _) (HZ x),y⟩
 ·exact h.h0 ⟨on3 hp h.nd h.ne h.de h.nb h.nc h.bc (GE y) (GE x) (zz1 _ _),on3 hp h.nd h.ne h.de h.nb h.nc h.bc (GE y) (GE x) (zz2 _ _)⟩
noncomputable def pls(x y:R3):R3:=(x.1+y.1,x.2.1+y.2.1,x.2.2+y.2.2)
theorem ZQ(n x y:R3):Bp n (pls x y)=Bp n x+Bp n y:=by
 unfold Bp pls;grind
theorem S9(a b c d e x:R3):vI (Fc a b c d e) x=Ar a c e*Ar b d e*(Ar a b x*Ar c d x)-Ar a b e*Ar c d e*(Ar a c x*Ar b d x):=by
 unfold Fc;rw[bN,J7,J7,J7,J7,EC,EC,EC,EC,EC,EC,EC,EC];grind
theorem LY(x y u v:R3):Ar x y (pls u v)=Ar x y u+Ar x y v:=by
 rw[<-EC,<-EC,<-EC,ZQ]
theorem lJ(a b c d e:R3):vI (Fc a b c d e) a=0/\vI (Fc a b c d e) b=0/\vI (Fc a b c d e) c=0/\vI (Fc a b c d e) d=0/\vI (Fc a b c d e) e=0:=by
 refine⟨?_,?_,?_,?_,?_⟩<;>rw[S9]
 ·rw[(dxx a b).2.1,(dxx a c).2.1];grind
 ·rw[(dxx b a).2.2,(dxx b d).2.1];grind
 ·rw[(dxx c d).2.1,(dxx c a).2.2];grind
 ·rw[(dxx d c).2.2,(dxx d b).2.2];grind
 ·grind
theorem P5.lead(h:P5 p a b c d e)(hp:P4 p):∃ l,lead p (Fc a b c d e).l=Aa l:=by
 cases el:OvC.lead p (Fc a b c d e).l with
 |some l=>exact⟨l,rfl⟩
 |none=>
  exfalso
  have z:=Ji.mp el;have k:∀{n:Af},n∈(Fc a b c d e).l->Cg p n 0:=fun hn=>z0 (z _ hn)
  have q2:CgC p (Fc a b c d e) ⟨0,0,0,0,0,0⟩:=⟨k (by simp[C6.l]),k (by simp[C6.l]),k (by simp[C6.l]),k (by simp[C6.l]),k (by simp[C6.l]),k (by simp[C6.l])⟩
  have v0:∀ x,vI (Fc a b c d e) x%p=0:=fun x=>by
   have:=Jt q2 (CgR.rfl (a:=x));rw[show vI (Fc a b c d e) x%p=vI ⟨0,0,0,0,0,0⟩ x%p from this]
   simp[vI]
  have w1:=v0 (pls a b);have w2:=v0 (pls c d);have w3:=v0 (pls a c);have w4:=v0 (pls b d);rw[S9,LY,LY,LY,LY]at w1 w2 w3 w4;rw[(dxx a b).2.1,(dxx b a).2.2,(dxx a c).2.1,(dxx b d).2.1,OM a b c,show Ar b d a=Ar a b d by unfold Ar det;grind]at w1
  rw[(dxx c d).2.1,(dxx d c).2.2,(dxx c a).2.2,(dxx d b).2.2,OM b c d]at w2;rw[(dxx a c).2.1,(dxx c a).2.2,(dxx a b).2.1,(dxx c d).2.1,show Ar c d a=Ar a c d by unfold Ar det;grind]at w3
  rw[(dxx b d).2.1,(dxx d b).2.2,(dxx b a).2.2,(dxx d c).2.2,show Ar c d b=Ar b c d by unfold Ar det;grind]at w4
  by_cases lz:Ar a b e*Ar c d e%p=0
  ·by_cases mz:Ar a c e*Ar b d e%p=0
   ·exact h.not2 hp lz mz
   ·have u3:Ar a b c*Ar a c d%p=0:=(E7 hp mz).mp (by rw[<-w3];congr 1;grind)
    have u4:Ar a b d*Ar b c d%p=0:=(E7 hp mz).mp (by rw[<-w4];congr 1;grind)
    rcases spl hp u3 with x|x<;>rcases spl hp u4 with y|y
    ·exact h.h4 ⟨x,y⟩
    ·exact h.t14 hp x y
    ·exact h.t23 hp y x
    ·exact h.t34 hp x y
  ·have u1:Ar a b c*Ar a b d%p=0:=(E7 hp lz).mp (by rw[<-w1];congr 1;grind)
   have u2:Ar a c d*Ar b c d%p=0:=(E7 hp lz).mp (by rw[<-w2];congr 1;grind)
   rcases spl hp u1 with x|x<;>rcases spl hp u2 with y|y
   ·exact h.t13 hp x y
   ·exact h.t14 hp x y
   ·exact h.t23 hp x y
   ·exact h.t24 hp x y
end
section
variable{Γ:Gam}{ns:Ad Af}{p:Af}{C:C6}
def SU(Γ:Gam):Prop:=∀(p n:Af),P4 p->∃ x,NF p x/\Γ.F 157 [.int p,.int n]=.ok (Aq Ab x)
theorem gY(Γ:Gam)(p n:Af)(hp:P4 p):∃ x,NF p x/\HU.run Γ [.int p,.int n]=.ok (Aq Ab x):=by
 have pp:Ez p p=Ab:=Jl (by have:=hp.lo;omega) (by have:=hp.hi;omega)
 have p0:=hp.pos;have ph:=hp.hi;have N0:0<p*p+p+1:=by have:=Hs p0 p0;omega
 have h0:=Bl n (Int.ne_of_gt N0);have h1:=Bm n N0;have pb:p<1073741824:=by omega
 refine⟨ptI p (n%(p*p+p+1)),SL hp h0 h1,?_⟩;generalize hr:n%(p*p+p+1)=r at *;unfold ptI;by_cases z0:r=0
 ·rw[Aw z0];simp[HU,Df.run,BA,pp,N0,hr,z0];rfl
 ·rw[AA z0];by_cases z1:r<=p
  ·rw[Aw z1];simp[HU,Df.run,BA,pp,N0,hr,z0,z1];rfl
  ·rw[AA z1];simp[HU,Df.run,BA,pp,N0,hr,z0,z1,p0,pb];rfl
theorem PM{g:D->R Ao}{f:D->R D}:∀ L:Ad D,(∀ x∈L,g x=.ok Ab/\∃ y,NF p y/\f x=.ok (Aq Ab y))->∃ ys:Ad R3,ys.length=L.length/\(∀ y∈ys,NF p y)/\BG g f L=.ok (ys.map (Aq Ab))
 |[],_=>⟨[],rfl,(fun _ z=>(nomatch z)),rfl⟩
 |x::L,h=>by
  obtain⟨h1,y,ny,h2⟩:=h x AI;obtain⟨ys,a,b,c⟩:=PM L fun z hz=>h z (Ax _ hz)
  refine⟨y::ys,by simp[a],fun z hz=>?_,?_⟩
  ·rcases AB.mp hz with rfl|hz
   ·exact ny
   ·exact b z hz
  ·show (g x).bind _=_;rw[h1,R.bind_ok,Aw rfl,h2,R.bind_ok,c];rfl
section
variable{S RR cC AL X0:D}{as lm P0 L6:Ad D}{OL OL' s7:Sl}{m:Af}{j:Ag}
end
theorem SX{x:D}{l:Ad D}:Da (x::l) 0=.ok x:=by
 have h:plD (x::l).length 0=Aa 0:=by
  unfold plD;rw[Aw (by decide),Aw (by rw[Br];omega)]
  rfl
 unfold Da;rw[h];rfl
end
section
variable{Γ:Gam}{p:Af}{a b c d e:R3}
theorem jS(hj:Sd Γ)(hl:Sc Γ)(hv:Rx Γ)(hc:Se Γ)(hp:P4 p)(h:P5 p a b c d e):∃ C,InC p C/\lead p C.l=Aa 1/\PrC p C (Fc a b c d e)/\KG.run Γ [.int p,BR [a,b,c,d,e]]=.ok (BX C):=by
 obtain⟨l0,lF⟩:=h.lead hp;obtain⟨y01,i01,_,p01,e01⟩:=hj p a b hp h.na.1 h.nb.1 h.na.2 h.nb.2 h.ab;obtain⟨y23,i23,_,p23,e23⟩:=hj p c d hp h.nc.1 h.nd.1 h.nc.2 h.nd.2 h.cd;obtain⟨y02,i02,_,p02,e02⟩:=hj p a c hp h.na.1 h.nc.1 h.na.2 h.nc.2 h.ac;obtain⟨y13,i13,_,p13,e13⟩:=hj p b d hp h.nb.1 h.nd.1 h.nb.2 h.nd.2 h.bd;have pr:PrC p _ (Fc a b c d e):=fL hp (QP hp p01 p23) (QP hp p02 p13) e;obtain⟨l,el⟩:=Xe hp lF pr;obtain⟨t,D,it,eD,iD,lD,pD⟩:=lA hp el;have ec:=hc p Ac _ l t hp el it;rw[eD]at ec;have bd:∀ n:Af,Bd 10 (n%p):=fun n=>Ll hp (Bl _ (by have:=hp.pos;omega)) (Bm _ hp.pos)
 refine⟨D,iD,lD,pD.trans hp pr,?_⟩;rw[KM];exact fK (Mh hp i01 i23) (Mh hp i02 i13) (bd _) (bd _) e01 e23 (hl p _ _ hp i01 i23) e02 e13 (hl p _ _ hp i02 i13) (hv p _ _ hp (Mh hp i02 i13) h.ne.1) (hv p _ _ hp (Mh hp i01 i23) h.ne.1) ec
def ten(p:Af)(a b c d e:R3):Prop:=Ar a b c%p≠0/\Ar a b d%p≠0/\Ar a b e%p≠0/\Ar a c d%p≠0/\Ar a c e%p≠0/\Ar a d e%p≠0/\Ar b c d%p≠0/\Ar b c e%p≠0/\Ar b d e%p≠0/\Ar c d e%p≠0
theorem bG(hp:P4 p)(h:PrC p C (Fc a b c d e)):Ar (tw0 C) (tw1 C) (tw2 C)%p≠0↔ten p a b c d e:=by
 have e1:dtw C%p≠0↔dtw (Fc a b c d e)%p≠0:=⟨fun z=>by
  obtain⟨k,kz,q⟩:=h;obtain⟨t0,t1,t2⟩:=Of q;intro w;refine z ?_;have:=NJ t0 t1 t2;rw[show dtw C%p=_ from this,Rb,BH,show Ar (tw0 (Fc a b c d e)) (tw1 (Fc a b c d e)) (tw2 (Fc a b c d e))%p=0 from w,Ee,BE],fun z=>Xs hp h z⟩
 have m:∀{u v:Af},u*v%p≠0↔u%p≠0/\v%p≠0:=fun {u v}=>⟨fun z=>⟨fun w=>z (by rw[BH,w,EZ,BE]),fun w=>z (by rw[BH,w,Ee,BE])⟩,fun ⟨x,y⟩=>F8 hp x y⟩
 have t2:(2:Af)%p≠0:=by rcases hp with rfl|rfl|rfl|rfl<;>decide
 show dtw C%p≠0↔_;rw[e1,fO,m,m,m,m,m,m,m,m,m,m];unfold ten;constructor
 ·rintro⟨_,⟨⟨⟨h1,h2⟩,h3⟩,h4⟩,⟨⟨h5,h6⟩,h7⟩,⟨h8,h9⟩,h0⟩;exact⟨h1,h2,h5,h3,h6,h7,h4,h8,h9,h0⟩
 ·rintro⟨h1,h2,h5,h3,h6,h7,h4,h8,h9,h0⟩;exact⟨t2,⟨⟨⟨h1,h2⟩,h3⟩,h4⟩,⟨⟨h5,h6⟩,h7⟩,⟨h8,h9⟩,h0⟩
def z3(p:Af)(x y z:R3):Prop:=Ar x y z%p=0
noncomputable def ff5(p:Af)(a b c d e:R3):An (R3×R3×R3×R3):=
 if Ar a b c%p=0/\Ar a b d%p=0 then Aa (a,b,c,d)
 else if Ar a b c%p=0/\Ar a b e%p=0 then Aa (a,b,c,e)
 else if Ar a b d%p=0/\Ar a b e%p=0 then Aa (a,b,d,e)
 else if Ar a c d%p=0/\Ar a c e%p=0 then Aa (a,c,d,e)
 else if Ar b c d%p=0/\Ar b c e%p=0 then Aa (b,c,d,e)
 else Ae
noncomputable def CQ(t:R3×R3×R3×R3):D:=.tup [Aq Ab t.1,Aq Ab t.2.1,Aq Ab t.2.2.1,Aq Ab t.2.2.2]
noncomputable def ffD(p:Af)(a b c d e:R3):D:=match ff5 p a b c d e with
  |some t=>CQ t
  |none=>.non
theorem Ld{x y:Ad D}(c0:slD PP Ae (Aa k)=.ok (.lst x))(c1:slD PP (Aa (k+1)) Ae=.ok (.lst y))(ad:Dj .Add (.lst x) (.lst y)=.ok (.lst [q0,q1,q2,q3]))(e0:Γ.F 61 [.int p,q0,q1,q2]=.ok (.int u))(e1:Γ.F 61 [.int p,q0,q1,q3]=.ok (.int v))(h:u=0/\v=0):BM Γ 2 Jd (.int k) [si p,sh PP,s2,s3]=.ret (.tup [q0,q1,q2,q3]) Ac:=by
 obtain⟨rfl,rfl⟩:=h;have i0:CG (.lst [q0,q1,q2,q3]) (.int 0)=.ok q0:=rfl;have i1:CG (.lst [q0,q1,q2,q3]) (.int 1)=.ok q1:=rfl;have i2:CG (.lst [q0,q1,q2,q3]) (.int 2)=.ok q2:=rfl;have i3:CG (.lst [q0,q1,q2,q3]) (.int 3)=.ok q3:=rfl;have tp:biD .tuple [.lst [q0,q1,q2,q3]]=.ok (.tup [q0,q1,q2,q3]):=rfl;generalize D.lst [q0,q1,q2,q3]=FF at *;generalize D.tup [q0,q1,q2,q3]=TT at *;generalize D.lst x=U at *;generalize D.lst y=V at *;simp[BM,Jd,c0,c1,ad,i0,i1,i2,i3,e0,e1,tp,D0]
theorem SJ{body:D->Rho->O}{x0 x1 x2 x3 x4:D}{c0 c1 c2 c3 c4:Prop}[De c0][De c1][De c2][De c3][De c4]{r0 r1 r2 r3 r4:D}{I:Rho->Prop}(hI:I ρ) (h0:∀ ρ,I ρ->(c0->body x0 ρ=.ret r0 Ac)/\(¬ c0->∃ ρ',I ρ'/\body x0 ρ=.next ρ')) (h1:∀ ρ,I ρ->(c1->body x1 ρ=.ret r1 Ac)/\(¬ c1->∃ ρ',I ρ'/\body x1 ρ=.next ρ')) (h2:∀ ρ,I ρ->(c2->body x2 ρ=.ret r2 Ac)/\(¬ c2->∃ ρ',I ρ'/\body x2 ρ=.next ρ')) (h3:∀ ρ,I ρ->(c3->body x3 ρ=.ret r3 Ac)/\(¬ c3->∃ ρ',I ρ'/\body x3 ρ=.next ρ')) (h4:∀ ρ,I ρ->(c4->body x4 ρ=.ret r4 Ac)/\(¬ c4->∃ ρ',I ρ'/\body x4 ρ=.next ρ')):(∃ t,(if c0 then Aa r0 else if c1 then Aa r1 else if c2 then Aa r2 else if c3 then Aa r3 else if c4 then Aa r4 else Ae)=Aa t/\Ch body [x0,x1,x2,x3,x4] ρ=.ret t Ac)\/((if c0 then Aa r0 else if c1 then Aa r1 else if c2 then Aa r2 else if c3 then Aa r3 else if c4 then Aa r4 else Ae)=Ae/\∃ ρ',I ρ'/\Ch body [x0,x1,x2,x3,x4] ρ=.next ρ'):=by
 have st:∀(x:D)(xs:Ad D)(ρ ρ':Rho),body x ρ=.next ρ'->Ch body (x::xs) ρ=Ch body xs ρ':=fun x xs ρ ρ' h=>by
  show (body x ρ).turn (Ch body xs)=_;rw[h];rfl
 have sr:∀(x:D)(xs:Ad D)(ρ:Rho)(t:D),body x ρ=.ret t Ac->Ch body (x::xs) ρ=.ret t Ac:=fun x xs ρ t h=>by
  show (body x ρ).turn (Ch body xs)=_;rw[h];rfl
 by_cases k0:c0
 ·rw[Aw k0];exact .inl ⟨r0,rfl,sr _ _ _ _ ((h0 ρ hI).1 k0)⟩
 rw[AA k0];obtain⟨ρ1,I1,e1⟩:=(h0 ρ hI).2 k0;rw[st _ _ _ _ e1];by_cases k1:c1
 ·rw[Aw k1];exact .inl ⟨r1,rfl,sr _ _ _ _ ((h1 ρ1 I1).1 k1)⟩
 rw[AA k1];obtain⟨ρ2,I2,e2⟩:=(h1 ρ1 I1).2 k1;rw[st _ _ _ _ e2];by_cases k2:c2
 ·rw[Aw k2];exact .inl ⟨r2,rfl,sr _ _ _ _ ((h2 ρ2 I2).1 k2)⟩
 rw[AA k2];obtain⟨ρ3,I3,e3⟩:=(h2 ρ2 I2).2 k2;rw[st _ _ _ _ e3];by_cases k3:c3
 ·rw[Aw k3];exact .inl ⟨r3,rfl,sr _ _ _ _ ((h3 ρ3 I3).1 k3)⟩
 rw[AA k3];obtain⟨ρ4,I4,e4⟩:=(h3 ρ3 I3).2 k3;rw[st _ _ _ _ e4];by_cases k4:c4
 ·rw[Aw k4];exact .inl ⟨r4,rfl,sr _ _ _ _ ((h4 ρ4 I4).1 k4)⟩
 rw[AA k4];obtain⟨ρ5,I5,e5⟩:=(h4 ρ4 I4).2 k4;rw[st _ _ _ _ e5];exact .inr ⟨rfl,ρ5,I5,rfl⟩
theorem RS(p:Af)(a b c d e:R3):ffD p a b c d e=(if Ar a b c%p=0/\Ar a b d%p=0 then Aa (CQ (a,b,c,d)) else if Ar a b c%p=0/\Ar a b e%p=0 then Aa (CQ (a,b,c,e)) else if Ar a b d%p=0/\Ar a b e%p=0 then Aa (CQ (a,b,d,e)) else if Ar a c d%p=0/\Ar a c e%p=0 then Aa (CQ (a,c,d,e)) else if Ar b c d%p=0/\Ar b c e%p=0 then Aa (CQ (b,c,d,e)) else Ae).getD .non:=by
 unfold ffD ff5;by_cases k0:Ar a b c%p=0/\Ar a b d%p=0
 ·rw[Aw k0,Aw k0];rfl
 rw[AA k0,AA k0];by_cases k1:Ar a b c%p=0/\Ar a b e%p=0
 ·rw[Aw k1,Aw k1];rfl
 rw[AA k1,AA k1];by_cases k2:Ar a b d%p=0/\Ar a b e%p=0
 ·rw[Aw k2,Aw k2];rfl
 rw[AA k2,AA k2];by_cases k3:Ar a c d%p=0/\Ar a c e%p=0
 ·rw[Aw k3,Aw k3];rfl
 rw[AA k3,AA k3];by_cases k4:Ar b c d%p=0/\Ar b c e%p=0
 ·rw[Aw k4,Aw k4];rfl
 rw[AA k4,AA k4];rfl
theorem jR(hm:Nr Γ)(hp:P4 p)(ia:In3 p a)(ib:In3 p b)(ic:In3 p c)(id:In3 p d)(ie:In3 p e):JM.run Γ [.int p,BR [a,b,c,d,e]]=.ok (ffD p a b c d e):=by
 have B:∀{x:R3},In3 p x->B3 x:=fun h=>(Fe hp h).b3 (by decide)
 have M:∀{x y z:R3},In3 p x->In3 p y->In3 p z->Γ.F 61 [.int p,Aq Ab x,Aq Ab y,Aq Ab z]=.ok (.int (Ar x y z%p)):=fun hx hy hz=>hm p Ab _ _ _ hp.pos (B hx) (B hy) (B hz)
 rw[KM];have key:=SJ (body:=BM Γ 2 Jd) (x0:=.int 4) (x1:=.int 3) (x2:=.int 2) (x3:=.int 1) (x4:=.int 0) (ρ:=[si p,sh (five (Aq Ab a) (Aq Ab b) (Aq Ab c) (Aq Ab d) (Aq Ab e)),Ae,Ae]) (I:=fun ρ=>∃ s t,ρ=[si p,sh (five (Aq Ab a) (Aq Ab b) (Aq Ab c) (Aq Ab d) (Aq Ab e)),s,t]) ⟨_,_,rfl⟩
  (fun ρ ⟨s,t,e⟩=>by subst e;exact⟨fun h=>Ld rfl rfl rfl (M ia ib ic) (M ia ib id) h,fun h=>⟨_,⟨_,_,rfl⟩,K0 rfl rfl rfl (M ia ib ic) (M ia ib id) h⟩⟩)
  (fun ρ ⟨s,t,e⟩=>by subst e;exact⟨fun h=>Ld rfl rfl rfl (M ia ib ic) (M ia ib ie) h,fun h=>⟨_,⟨_,_,rfl⟩,K0 rfl rfl rfl (M ia ib ic) (M ia ib ie) h⟩⟩)
  (fun ρ ⟨s,t,e⟩=>by subst e;exact⟨fun h=>Ld rfl rfl rfl (M ia ib id) (M ia ib ie) h,fun h=>⟨_,⟨_,_,rfl⟩,K0 rfl rfl rfl (M ia ib id) (M ia ib ie) h⟩⟩)
  (fun ρ ⟨s,t,e⟩=>by subst e;exact⟨fun h=>Ld rfl rfl rfl (M ia ic id) (M ia ic ie) h,fun h=>⟨_,⟨_,_,rfl⟩,K0 rfl rfl rfl (M ia ic id) (M ia ic ie) h⟩⟩)
  (fun ρ ⟨s,t,e⟩=>by subst e;exact⟨fun h=>Ld rfl rfl rfl (M ib ic id) (M ib ic ie) h,fun h=>⟨_,⟨_,_,rfl⟩,K0 rfl rfl rfl (M ib ic id) (M ib ic ie) h⟩⟩)
 rw[RS];show (evSs Γ [si p,sh (five (Aq Ab a) (Aq Ab b) (Aq Ab c) (Aq Ab d) (Aq Ab e)),Ae,Ae] JM.body).ans Ac=_;generalize five (Aq Ab a) (Aq Ab b) (Aq Ab c) (Aq Ab d) (Aq Ab e)=PP at *;rcases key with ⟨t,e1,e2⟩|⟨e1,ρ',_,e2⟩
 ·rw[show (if Ar a b c%p=0/\Ar a b d%p=0 then Aa (CQ (a,b,c,d)) else if Ar a b c%p=0/\Ar a b e%p=0 then Aa (CQ (a,b,c,e)) else if Ar a b d%p=0/\Ar a b e%p=0 then Aa (CQ (a,b,d,e)) else if Ar a c d%p=0/\Ar a c e%p=0 then Aa (CQ (a,c,d,e)) else if Ar b c d%p=0/\Ar b c e%p=0 then Aa (CQ (b,c,d,e)) else Ae)=Aa t from e1]
  simp[JM,e2]
 ·rw[show (if Ar a b c%p=0/\Ar a b d%p=0 then Aa (CQ (a,b,c,d)) else if Ar a b c%p=0/\Ar a b e%p=0 then Aa (CQ (a,b,c,e)) else if Ar a b d%p=0/\Ar a b e%p=0 then Aa (CQ (a,b,d,e)) else if Ar a c d%p=0/\Ar a c e%p=0 then Aa (CQ (a,c,d,e)) else if Ar b c d%p=0/\Ar b c e%p=0 then Aa (CQ (b,c,d,e)) else Ae)=Ae from e1]
  simp[JM,e2]
end
section
variable{Γ:Gam}{p:Af}{a b c d e:R3}{A B C D' E':D}
noncomputable def HA(a b c d e:R3):An R3:=if a=b then Aa b else if a=c\/b=c then Aa c else if a=d\/b=d\/c=d then Aa d else if a=e\/b=e\/c=e\/d=e then Aa e else Ae
noncomputable def alk(x:R3):Ex:=⟨107,[(AV "triple", Aq Ab x)]⟩
theorem fr5(x:R3):flD 5 (Aq Ab x)=Ab:=rfl
theorem jT(hx:∀ y:R3,y=x->Γ.xn 107 [Aq Ab y]=.ok (alk y))(h:HA a b c d e=Aa x):Hv.run Γ [BR [a,b,c,d,e]]=.exn (alk x):=by
 rw[KM];unfold HA at h;have fa:=fr5 a;have fb:=fr5 b;have fc:=fr5 c;have fd:=fr5 d;have fe:=fr5 e;have q:=Kd;by_cases k1:a=b
 ·rw[Aw k1]at h;have hb:=Option.some.inj h;have xs:=hx b hb;rw[←hb];have e1:eqD (Aq Ab a) (Aq Ab b)=Ab:=by rw[q,Fk k1]
  generalize Aq Ab a=A at *;generalize Aq Ab b=B at *;generalize Aq Ab c=C at *;generalize Aq Ab d=D' at *;generalize Aq Ab e=E' at *;simp[five,Hv,Df.run,BA,DM,Ch,Jv,JP,Hf,F9,fa,fb,fc,fd,fe,e1,xs]
 rw[AA k1]at h;have e1:eqD (Aq Ab a) (Aq Ab b)=Ac:=by rw[q,BK k1]
 by_cases k2:a=c\/b=c
 ·rw[Aw k2]at h;have hb:=Option.some.inj h;have xs:=hx c hb;rw[←hb];have e2:(eqD (Aq Ab a) (Aq Ab c)=Ab\/eqD (Aq Ab b) (Aq Ab c)=Ab):=by rw[q,q,AG,AG];exact k2
  generalize Aq Ab a=A at *;generalize Aq Ab b=B at *;generalize Aq Ab c=C at *;generalize Aq Ab d=D' at *;generalize Aq Ab e=E' at *;simp[five,Hv,Df.run,BA,DM,Ch,Jv,JP,Hf,F9,fa,fb,fc,fd,fe,e1,e2,xs]
 rw[AA k2]at h;rw[Dz]at k2;have e2:eqD (Aq Ab a) (Aq Ab c)=Ac:=by rw[q,BK k2.1]
 have e3:eqD (Aq Ab b) (Aq Ab c)=Ac:=by rw[q,BK k2.2]
 by_cases k3:a=d\/b=d\/c=d
 ·rw[Aw k3]at h;have hb:=Option.some.inj h;have xs:=hx d hb;rw[←hb];have e4:(eqD (Aq Ab a) (Aq Ab d)=Ab\/eqD (Aq Ab b) (Aq Ab d)=Ab\/eqD (Aq Ab c) (Aq Ab d)=Ab):=by rw[q,q,q,AG,AG,AG];exact k3
  generalize Aq Ab a=A at *;generalize Aq Ab b=B at *;generalize Aq Ab c=C at *;generalize Aq Ab d=D' at *;generalize Aq Ab e=E' at *;simp[five,Hv,Df.run,BA,DM,Ch,Jv,JP,Hf,F9,fa,fb,fc,fd,fe,e1,e2,e3,e4,xs]
 rw[AA k3]at h;rw[Dz,Dz]at k3;have e4:eqD (Aq Ab a) (Aq Ab d)=Ac:=by rw[q,BK k3.1]
 have e5:eqD (Aq Ab b) (Aq Ab d)=Ac:=by rw[q,BK k3.2.1]
 have e6:eqD (Aq Ab c) (Aq Ab d)=Ac:=by rw[q,BK k3.2.2]
 by_cases k4:a=e\/b=e\/c=e\/d=e
 ·rw[Aw k4]at h;have hb:=Option.some.inj h;have xs:=hx e hb;rw[←hb];have e7:(eqD (Aq Ab a) (Aq Ab e)=Ab\/eqD (Aq Ab b) (Aq Ab e)=Ab\/eqD (Aq Ab c) (Aq Ab e)=Ab\/eqD (Aq Ab d) (Aq Ab e)=Ab):=by rw[q,q,q,q,AG,AG,AG,AG];exact k4
  generalize Aq Ab a=A at *;generalize Aq Ab b=B at *;generalize Aq Ab c=C at *;generalize Aq Ab d=D' at *;generalize Aq Ab e=E' at *;simp[five,Hv,Df.run,BA,DM,Ch,Jv,JP,Hf,F9,fa,fb,fc,fd,fe,e1,e2,e3,e4,e5,e6,e7,xs]
 rw[AA k4]at h;cases h
theorem Nm(h:HA a b c d e=Ae):a≠b/\a≠c/\a≠d/\a≠e/\b≠c/\b≠d/\b≠e/\c≠d/\c≠e/\d≠e:=by
 unfold HA at h;by_cases k1:a=b
 ·rw[Aw k1]at h;cases h
 rw[AA k1]at h;by_cases k2:a=c\/b=c
 ·rw[Aw k2]at h;cases h
 rw[AA k2]at h;by_cases k3:a=d\/b=d\/c=d
 ·rw[Aw k3]at h;cases h
 rw[AA k3]at h;by_cases k4:a=e\/b=e\/c=e\/d=e
 ·rw[Aw k4]at h;cases h
 simp only[Dz]at k2 k3 k4;exact⟨k1,k2.1,k3.1,k4.1,k2.2,k3.2.1,k4.2.1,k3.2.2,k4.2.2.1,k4.2.2.2⟩
theorem XS(h:HA a b c d e=Ae):Hv.run Γ [BR [a,b,c,d,e]]=.ok .non:=by
 obtain⟨h1,h2,h3,h4,h5,h6,h7,h8,h9,h0⟩:=Nm h;have f:∀{x y:R3},x≠y->eqD (Aq Ab x) (Aq Ab y)=Ac:=fun n=>by rw[Kd,BK n]
 rw[KM];exact dM (fr5 a) (fr5 b) (fr5 c) (fr5 d) (fr5 e) (f h1) (f h2) (f h3) (f h4) (f h5) (f h6) (f h7) (f h8) (f h9) (f h0)
theorem mT{x:Ex}(ln:biD .len [PP]=.ok (.int 5))(e1:Γ.F 194 [PP]=.exn x):IF.run Γ [.int p,PP]=.exn x:=by
 simp[IF,Df.run,BA,ln,e1]
theorem mV{ds:Ad D}{x:Ex}(ln:biD .len [PP]=.ok (.int 5))(e1:Γ.F 194 [PP]=.ok .non)(e2:Γ.F 195 [.int p,PP]=.ok (.tup ds))(hx:Γ.xn 118 [.tup ds]=.ok x):IF.run Γ [.int p,PP]=.exn x:=by
 simp[IF,Df.run,BA,ln,e1,e2,hx]
theorem mU{PP R:D}(ln:biD .len [PP]=.ok (.int 5))(e1:Γ.F 194 [PP]=.ok .non)(e2:Γ.F 195 [.int p,PP]=.ok .non)(e3:Γ.F 197 [.int p,PP]=.ok R):IF.run Γ [.int p,PP]=.ok R:=by
 simp[IF,Df.run,BA,ln,e1,e2,e3]
noncomputable def Lu:E:=(.cmp .NotEq (.var 5) (.var 2))
noncomputable def Lv:E:=(.var 6)
noncomputable def HV:Ss:=(.cons (.asg 3 Ac (.compT Lv [5,6] (.enm (.var 1)) Lu)) (.cons (.asg 4 Ac (.lst (.cons (.idx (.var 3) (.int 0)) (.cons (.idx (.var 3) (.int 1)) (.cons (.idx (.var 3) (.int 2)) .nil))))) (.cons (.ife (.and (.cons (.cmp .Eq (.call 165 (.cons (.var 0) (.cons (.idx (.var 4) (.int 0)) (.cons (.idx (.var 4) (.int 1)) (.cons (.idx (.var 4) (.int 2)) .nil))))) (.int 0)) (.cons (.cmp .Eq (.call 165 (.cons (.var 0) (.cons (.idx (.var 3) (.int 0)) (.cons (.idx (.var 3) (.int 1)) (.cons (.idx (.var 3) (.int 3)) .nil))))) (.int 0)) .nil))) (.cons (.ret (.bi .tuple (.cons (.var 3) .nil))) .nil) .nil) .nil)))
noncomputable def J6:Df:=⟨7,Ac,(.cons (.fors 2 (.e (.lst (.cons (.int 4) (.cons (.int 3) (.cons (.int 2) (.cons (.int 1) (.cons (.int 0) .nil))))))) HV) (.cons (.ret .non) .nil))⟩
noncomputable def Lw:Df:=⟨1,Ac,(.cons (.ife (.isi (.var 0) [.cls 1,.cls 2,.cls 3,.cls 4,.cls 5,.cls 14,.cls 15]) (.cons (.ret (.bl Ab)) .nil) .nil) (.cons (.ret (.isi (.var 0) [.cls 16,.cls 12,.cls 17,.cls 106,.cls 108])) .nil))⟩
noncomputable def IK:Df:=⟨5,Ac,(.cons (.asg 2 Ac (.str (AV "told"))) (.cons (.asg 3 Ac .non) (.cons (.try2 (.cons (.asg 3 Ac (.call 198 (.cons (.var 0) (.cons (.var 1) .nil)))) .nil) 107 4 (.cons (.asg 2 Ac (.str (AV "alike"))) (.cons (.asg 3 Ac (.fld (.var 4) (AV "triple"))) (.cons (.ife (.or (.cons (.no (.isi (.var 4) [.cls 0])) (.cons (.isi (.var 4) [.cls 118,.cls 13]) (.cons (.call 204 (.cons (.var 4) .nil)) .nil)))) (.cons (.asg 2 Ac (.str (AV "odd"))) .nil) .nil) .nil))) 118 (.cons (.asg 2 Ac (.str (AV "line"))) (.cons (.asg 3 Ac (.fld (.var 4) (AV "points"))) (.cons (.ife (.or (.cons (.no (.isi (.var 4) [.verr])) (.cons (.isi (.var 4) [.cls 107,.cls 13]) (.cons (.call 204 (.cons (.var 4) .nil)) .nil)))) (.cons (.asg 2 Ac (.str (AV "odd"))) .nil) .nil) .nil))) .nil) (.cons (.ret (.tup (.cons (.var 2) (.cons (.var 3) .nil)))) .nil))))⟩
noncomputable def Jk:Ss:=(.cons (.ife (.cmp .Eq (.call 165 (.cons (.var 0) (.cons (.idx (.var 1) (.var 4)) (.cons (.idx (.var 1) (.var 3)) (.cons (.idx (.var 1) (.var 2)) .nil))))) (.int 0)) (.cons (.ret (.bl Ac)) .nil) .nil) .nil)
noncomputable def JQ:Ss:=(.cons (.fors 4 (.rng (.var 3)) Jk) .nil)
noncomputable def Jj:Ss:=(.cons (.fors 3 (.rng (.var 2)) JQ) .nil)
noncomputable def NW:Df:=⟨5,Ac,(.cons (.fors 2 (.rng (.int 5)) Jj) (.cons (.ret (.bl Ab)) .nil))⟩
theorem jK(s0 s3 s4:Sl)(k:Af)(hk:0<=k/\k<=4):BG (cGT Γ [s0,sh (five A B C D' E'),si k,s3,s4,Ae,Ae] [5,6] Lu) (cFT Γ [s0,sh (five A B C D' E'),si k,s3,s4,Ae,Ae] [5,6] Lv) (DM 0 [A,B,C,D',E'])=.ok ((if k=0 then [] else [A])++(if k=1 then [] else [B])++(if k=2 then [] else [C])++(if k=3 then [] else [D'])++(if k=4 then [] else [E'])):=by
 rcases (show k=0\/k=1\/k=2\/k=3\/k=4 by omega) with rfl|rfl|rfl|rfl|rfl<;>simp[BG,cGT,cFT,DM,Lu,Lv]
theorem dA{L:Ad D}{s4:Sl}(sq:Ck PP=.ok L)(cp:BG (cGT Γ [si p,sh PP,si k,s3,s4,Ae,Ae] [5,6] Lu) (cFT Γ [si p,sh PP,si k,s3,s4,Ae,Ae] [5,6] Lv) (DM 0 L)=.ok [q0,q1,q2,q3])(e0:Γ.F 165 [.int p,q0,q1,q2]=.ok (.int u))(e1:Γ.F 165 [.int p,q0,q1,q3]=.ok (.int v)):(u=0/\v=0->BM Γ 2 HV (.int k) [si p,sh PP,s2,s3,s4,Ae,Ae]=.ret (.tup [q0,q1,q2,q3]) Ac)/\(¬ (u=0/\v=0)->∃ t3 t4,BM Γ 2 HV (.int k) [si p,sh PP,s2,s3,s4,Ae,Ae]=.next [si p,sh PP,si k,t3,t4,Ae,Ae]):=by
 have i0:Da [q0,q1,q2,q3] 0=.ok q0:=rfl;have i1:Da [q0,q1,q2,q3] 1=.ok q1:=rfl;have i2:Da [q0,q1,q2,q3] 2=.ok q2:=rfl;have i3:Da [q0,q1,q2,q3] 3=.ok q3:=rfl;have j0:Da [q0,q1,q2] 0=.ok q0:=rfl;have j1:Da [q0,q1,q2] 1=.ok q1:=rfl;have j2:Da [q0,q1,q2] 2=.ok q2:=rfl;refine⟨fun ⟨hu,hv⟩=>?_,fun h=>?_⟩
 ·subst hu hv;simp[BM,HV,sq,cp,i0,i1,i2,i3,j0,j1,j2,e0,e1,D0]
 ·by_cases hu:u=0
  ·have hv:v≠0:=fun z=>h ⟨hu,z⟩
   exact⟨_,_,by simp[BM,HV,sq,cp,i0,i1,i2,i3,j0,j1,j2,e0,e1,hu,hv];exact⟨rfl,rfl⟩⟩
  ·exact⟨_,_,by simp[BM,HV,sq,cp,i0,i1,i2,i3,j0,j1,j2,e0,e1,hu];exact⟨rfl,rfl⟩⟩
theorem XV(hm:Kg Γ)(hp:P4 p)(ia:In3 p a)(ib:In3 p b)(ic:In3 p c)(id:In3 p d)(ie:In3 p e):J6.run Γ [.int p,BR [a,b,c,d,e]]=.ok (ffD p a b c d e):=by
 have M:∀{x y z:R3},In3 p x->In3 p y->In3 p z->Γ.F 165 [.int p,Aq Ab x,Aq Ab y,Aq Ab z]=.ok (.int (Ar x y z%p)):=fun hx hy hz=>hm p _ _ _ hp hx hy hz
 rw[KM];have sq:Ck (five (Aq Ab a) (Aq Ab b) (Aq Ab c) (Aq Ab d) (Aq Ab e))=.ok [Aq Ab a,Aq Ab b,Aq Ab c,Aq Ab d,Aq Ab e]:=rfl;have cp:=fun(s3 s4:Sl)(k:Af)(hk:0<=k/\k<=4)=>jK (Γ:=Γ) (A:=Aq Ab a) (B:=Aq Ab b) (C:=Aq Ab c) (D':=Aq Ab d) (E':=Aq Ab e) (si p) s3 s4 k hk
 have go:∀{k u v:Af}{q0 q1 q2 q3:D}{s2 s3 s4:Sl},0<=k/\k<=4->((if k=0 then [] else [Aq Ab a])++(if k=1 then [] else [Aq Ab b])++(if k=2 then [] else [Aq Ab c])++(if k=3 then [] else [Aq Ab d])++(if k=4 then [] else [Aq Ab e]))=[q0,q1,q2,q3]->Γ.F 165 [.int p,q0,q1,q2]=.ok (.int u)->Γ.F 165 [.int p,q0,q1,q3]=.ok (.int v) ->
   ∀ ρ,(∃ s t w,ρ=[si p,sh (five (Aq Ab a) (Aq Ab b) (Aq Ab c) (Aq Ab d) (Aq Ab e)),s,t,w,Ae,Ae])->(u=0/\v=0->BM Γ 2 HV (.int k) ρ=.ret (.tup [q0,q1,q2,q3]) Ac)/\(¬ (u=0/\v=0)->∃ ρ',(∃ s t w,ρ'=[si p,sh (five (Aq Ab a) (Aq Ab b) (Aq Ab c) (Aq Ab d) (Aq Ab e)),s,t,w,Ae,Ae])/\BM Γ 2 HV (.int k) ρ=.next ρ'):=fun {k u v q0 q1 q2 q3 s2 s3 s4} hk hq e0 e1 ρ ⟨s,t,w,er⟩=>by
  subst er;have c1:=cp t w k hk;rw[hq]at c1;obtain⟨h1,h2⟩:=dA (s2:=s) sq c1 e0 e1;exact⟨h1,fun h=>let ⟨t3,t4,z⟩:=h2 h;⟨_,⟨_,_,_,rfl⟩,z⟩⟩
 have key:=SJ (body:=BM Γ 2 HV) (x0:=.int 4) (x1:=.int 3) (x2:=.int 2) (x3:=.int 1) (x4:=.int 0) (ρ:=[si p,sh (five (Aq Ab a) (Aq Ab b) (Aq Ab c) (Aq Ab d) (Aq Ab e)),Ae,Ae,Ae,Ae,Ae]) (I:=fun ρ=>∃ s t w,ρ=[si p,sh (five (Aq Ab a) (Aq Ab b) (Aq Ab c) (Aq Ab d) (Aq Ab e)),s,t,w,Ae,Ae]) ⟨_,_,_,rfl⟩
  (go (s2:=Ae) (s3:=Ae) (s4:=Ae) (by decide) rfl (M ia ib ic) (M ia ib id)) (go (s2:=Ae) (s3:=Ae) (s4:=Ae) (by decide) rfl (M ia ib ic) (M ia ib ie)) (go (s2:=Ae) (s3:=Ae) (s4:=Ae) (by decide) rfl (M ia ib id) (M ia ib ie)) (go (s2:=Ae) (s3:=Ae) (s4:=Ae) (by decide) rfl (M ia ic id) (M ia ic ie)) (go (s2:=Ae) (s3:=Ae) (s4:=Ae) (by decide) rfl (M ib ic id) (M ib ic ie))
 rw[RS];show (evSs Γ [si p,sh (five (Aq Ab a) (Aq Ab b) (Aq Ab c) (Aq Ab d) (Aq Ab e)),Ae,Ae,Ae,Ae,Ae] J6.body).ans Ac=_;generalize five (Aq Ab a) (Aq Ab b) (Aq Ab c) (Aq Ab d) (Aq Ab e)=PP at *;rcases key with ⟨t,e1,e2⟩|⟨e1,ρ',_,e2⟩
 ·rw[show (if Ar a b c%p=0/\Ar a b d%p=0 then Aa (CQ (a,b,c,d)) else if Ar a b c%p=0/\Ar a b e%p=0 then Aa (CQ (a,b,c,e)) else if Ar a b d%p=0/\Ar a b e%p=0 then Aa (CQ (a,b,d,e)) else if Ar a c d%p=0/\Ar a c e%p=0 then Aa (CQ (a,c,d,e)) else if Ar b c d%p=0/\Ar b c e%p=0 then Aa (CQ (b,c,d,e)) else Ae)=Aa t from e1]
  simp[J6,e2]
 ·rw[show (if Ar a b c%p=0/\Ar a b d%p=0 then Aa (CQ (a,b,c,d)) else if Ar a b c%p=0/\Ar a b e%p=0 then Aa (CQ (a,b,c,e)) else if Ar a b d%p=0/\Ar a b e%p=0 then Aa (CQ (a,b,d,e)) else if Ar a c d%p=0/\Ar a c e%p=0 then Aa (CQ (a,c,d,e)) else if Ar b c d%p=0/\Ar b c e%p=0 then Aa (CQ (b,c,d,e)) else Ae)=Ae from e1]
  simp[J6,e2]
theorem Za{k:Ag}{fs:Ad (Ah×D)}(hu:Γ.up k=[k,0])(h:k=107\/k=118):Lw.run Γ [.exc k fs]=.ok (.bl Ac):=by
 rcases h with rfl|rfl<;>simp[Lw,Df.run,BA,hu,kiD,Dy]
theorem YU{PP R:D}(e:Γ.F 198 [.int p,PP]=.ok R):IK.run Γ [.int p,PP]=.ok (.tup [.str (AV "told"),R]):=by
 simp[IK,Df.run,BA,e]
theorem YW{PP d:D}(e:Γ.F 198 [.int p,PP]=.exn ⟨107,[(AV "triple", d)]⟩)(hu:Γ.up 107=[107,0])(ha:Γ.F 204 [.exc 107 [(AV "triple", d)]]=.ok (.bl Ac)):IK.run Γ [.int p,PP]=.ok (.tup [.str (AV "alike"),d]):=by
 simp[IK,Df.run,BA,e,hu,hdO,kiD,Dy,Km,ha]
theorem YV{PP d:D}(e:Γ.F 198 [.int p,PP]=.exn ⟨118,[(AV "points", d)]⟩)(hu:Γ.up 118=[118,0])(ha:Γ.F 204 [.exc 118 [(AV "points", d)]]=.ok (.bl Ac)):IK.run Γ [.int p,PP]=.ok (.tup [.str (AV "line"),d]):=by
 simp[IK,Df.run,BA,e,hu,hdO,kiD,Dy,Km,ha]
end
section
variable{Γ:Gam}{p:Af}{pts:Ad R3}{ns:Ad Af}
noncomputable def w3(p:Af)(pts:Ad R3)(i j k:Ag):An D:=if Ar (at6 pts i) (at6 pts j) (at6 pts k)%p=0 then Aa (.bl Ac) else Ae
noncomputable def w2(p:Af)(pts:Ad R3)(j k:Ag):An D:=(Bz j).findSome? fun i=>w3 p pts i j k
noncomputable def w1(p:Af)(pts:Ad R3)(k:Ag):An D:=(Bz k).findSome? fun j=>w2 p pts j k
noncomputable def w0(p:Af)(pts:Ad R3):An D:=(Bz 5).findSome? (w1 p pts)
theorem Ti(hn:n<100):C9 0 (n:Af)=.ok ((Bz n).map fun(i:Ag)=>D.int (0+(i:Af))):=by
 unfold C9;rw[Aw ⟨⟨by omega,by omega⟩,⟨by omega,by omega⟩,by omega⟩,GU,GI]
 rfl
theorem ZK{j:Af}(h:En ρ i=.ok (.int j)):FR Γ ρ (.rng (.var i))=C9 0 j:=by
 rw[WV,ZL,show top ρ (.var i) (evE Γ ρ (.var i))=En ρ i from rfl,h]
 simp only[R.bind_ok,PZ]
theorem RU(hn:n<100)(h:En ρ i=.ok (.int (n:Af))):FR Γ ρ (.rng (.var i))=.ok ((Bz n).map fun(i:Ag)=>D.int (0+(i:Af))):=(ZK h).trans (Ti hn)
theorem lN(h:Kg Γ)(hp:P4 p)(hg:∀ t∈pts,In3 p t){k:Ag}(hi:i<pts.length)(hj:j<pts.length)(hk:k<pts.length)(ρ:Rho)(I:∃ s,ρ=[si p,sh (BR pts),si k,si j,s]):(∃ d,w3 p pts i j k=Aa d/\BM Γ 4 Jk (.int (0+(i:Af))) ρ=.ret d Ac)\/(w3 p pts i j k=Ae/\∃ ρ',BM Γ 4 Jk (.int (0+(i:Af))) ρ=.next ρ'/\∃ s,ρ'=[si p,sh (BR pts),si k,si j,s]):=by
 obtain⟨s,rfl⟩:=I;rw[DO];have e:=h p _ _ _ hp (in6 hg hi) (in6 hg hj) (in6 hg hk);by_cases z:Ar (at6 pts i) (at6 pts j) (at6 pts k)%p=0
 ·rw[z]at e;exact .inl ⟨_,Aw z,by simp[BM,Jk,Ju hi,Ju hj,Ju hk,e,D0]⟩
 ·exact .inr ⟨AA z,[si p,sh (BR pts),si k,si j,si i],by simp[BM,Jk,Ju hi,Ju hj,Ju hk,e,z],_,rfl⟩
theorem lM(h:Kg Γ)(hp:P4 p)(hg:∀ t∈pts,In3 p t)(hn:pts.length=5){k:Ag}(hj:j<pts.length)(hk:k<pts.length)(ρ:Rho)(I:∃ s t,ρ=[si p,sh (BR pts),si k,s,t]):(∃ d,w2 p pts j k=Aa d/\BM Γ 3 JQ (.int (0+(j:Af))) ρ=.ret d Ac)\/(w2 p pts j k=Ae/\∃ ρ',BM Γ 3 JQ (.int (0+(j:Af))) ρ=.next ρ'/\∃ s t,ρ'=[si p,sh (BR pts),si k,s,t]):=by
 obtain⟨s,t,rfl⟩:=I;rw[DO];have e:BM Γ 3 JQ (.int (j:Af)) [si p,sh (BR pts),si k,s,t]=Ch (BM Γ 4 Jk) ((Bz j).map fun(i:Ag)=>D.int (0+(i:Af))) [si p,sh (BR pts),si k,si j,t]:=Q8 (RU (by omega) rfl)
 rw[e];rcases LI (body:=BM Γ 4 Jk) (fun ρ=>∃ s,ρ=[si p,sh (BR pts),si k,si j,s]) (fun(i:Ag)=>D.int (0+(i:Af))) (fun i=>w3 p pts i j k) (Bz j) (fun m hm ρ I=>lN h hp hg (by have:=BB.mp hm;omega) hj hk ρ I) [si p,sh (BR pts),si k,si j,t] ⟨t,rfl⟩ with ⟨d,a,b⟩|⟨a,r,b,u,c⟩
 ·exact .inl ⟨d,a,b⟩
 ·exact .inr ⟨a,r,b,_,u,c⟩
theorem lL(h:Kg Γ)(hp:P4 p)(hg:∀ t∈pts,In3 p t)(hn:pts.length=5){k:Ag}(hk:k<pts.length)(ρ:Rho)(I:∃ r s t,ρ=[si p,sh (BR pts),r,s,t]):(∃ d,w1 p pts k=Aa d/\BM Γ 2 Jj (.int (0+(k:Af))) ρ=.ret d Ac)\/(w1 p pts k=Ae/\∃ ρ',BM Γ 2 Jj (.int (0+(k:Af))) ρ=.next ρ'/\∃ r s t,ρ'=[si p,sh (BR pts),r,s,t]):=by
 obtain⟨r,s,t,rfl⟩:=I;rw[DO];have e:BM Γ 2 Jj (.int (k:Af)) [si p,sh (BR pts),r,s,t]=Ch (BM Γ 3 JQ) ((Bz k).map fun(i:Ag)=>D.int (0+(i:Af))) [si p,sh (BR pts),si k,s,t]:=Q8 (RU (by omega) rfl)
 rw[e];rcases LI (body:=BM Γ 3 JQ) (fun ρ=>∃ s t,ρ=[si p,sh (BR pts),si k,s,t]) (fun(i:Ag)=>D.int (0+(i:Af))) (fun j=>w2 p pts j k) (Bz k) (fun m hm ρ I=>lM h hp hg hn (by have:=BB.mp hm;omega) hk ρ I) [si p,sh (BR pts),si k,s,t] ⟨s,t,rfl⟩ with ⟨d,a,b⟩|⟨a,r,b,u,v,c⟩
 ·exact .inl ⟨d,a,b⟩
 ·exact .inr ⟨a,r,b,_,u,v,c⟩
theorem Xu(h:w0 p pts=Aa d):d=.bl Ac:=by
 obtain⟨k,_,h1⟩:=DP h;obtain⟨j,_,h2⟩:=DP h1;obtain⟨i,_,h3⟩:=DP h2;unfold w3 at h3;split at h3
 ·cases h3;rfl
 ·cases h3
theorem bH(a b c d e:R3):w0 p [a,b,c,d,e]=Ae↔ten p a b c d e:=by
 have a0:at6 [a,b,c,d,e] 0=a:=rfl;have a1:at6 [a,b,c,d,e] 1=b:=rfl;have a2:at6 [a,b,c,d,e] 2=c:=rfl;have a3:at6 [a,b,c,d,e] 3=d:=rfl;have a4:at6 [a,b,c,d,e] 4=e:=rfl;have w:∀ i j k,w3 p [a,b,c,d,e] i j k=Ae↔Ar (at6 [a,b,c,d,e] i) (at6 [a,b,c,d,e] j) (at6 [a,b,c,d,e] k)%p≠0:=fun i j k=>by
  unfold w3;split
  ·rename_i h;simp[h]
  ·rename_i h;simp[h]
 unfold ten w0;rw[CZ];constructor
 ·intro h;have g:∀ i j k,i<j->j<k->k<5->Ar (at6 [a,b,c,d,e] i) (at6 [a,b,c,d,e] j) (at6 [a,b,c,d,e] k)%p≠0:=fun i j k h1 h2 h3=>(w i j k).mp (CZ.mp (CZ.mp (h k (BB.mpr h3)) j (BB.mpr h2)) i (BB.mpr h1))
  have g012:=g 0 1 2 (by decide) (by decide) (by decide)
  have g013:=g 0 1 3 (by decide) (by decide) (by decide)
  have g014:=g 0 1 4 (by decide) (by decide) (by decide)
  have g023:=g 0 2 3 (by decide) (by decide) (by decide)
  have g024:=g 0 2 4 (by decide) (by decide) (by decide)
  have g034:=g 0 3 4 (by decide) (by decide) (by decide)
  have g123:=g 1 2 3 (by decide) (by decide) (by decide)
  have g124:=g 1 2 4 (by decide) (by decide) (by decide)
  have g134:=g 1 3 4 (by decide) (by decide) (by decide)
  have g234:=g 2 3 4 (by decide) (by decide) (by decide)
  exact⟨g012,g013,g014,g023,g024,g034,g123,g124,g134,g234⟩
 ·rintro⟨h1,h2,h3,h4,h5,h6,h7,h8,h9,h0⟩ k hk;have hk:=BB.mp hk;unfold w1;rw[CZ];intro j hj;have hj:=BB.mp hj;unfold w2;rw[CZ];intro i hi;have hi:=BB.mp hi;rw[w];rcases (show (i=0/\j=1/\k=2)\/(i=0/\j=1/\k=3)\/(i=0/\j=1/\k=4)\/(i=0/\j=2/\k=3)\/(i=0/\j=2/\k=4)\/(i=0/\j=3/\k=4)\/(i=1/\j=2/\k=3)\/(i=1/\j=2/\k=4)\/(i=1/\j=3/\k=4)\/(i=2/\j=3/\k=4) by omega) with ⟨rfl,rfl,rfl⟩|⟨rfl,rfl,rfl⟩|⟨rfl,rfl,rfl⟩|⟨rfl,rfl,rfl⟩|⟨rfl,rfl,rfl⟩|⟨rfl,rfl,rfl⟩|⟨rfl,rfl,rfl⟩|⟨rfl,rfl,rfl⟩|⟨rfl,rfl,rfl⟩|⟨rfl,rfl,rfl⟩
  ·exact h1
  ·exact h2
  ·exact h3
  ·exact h4
  ·exact h5
  ·exact h6
  ·exact h7
  ·exact h8
  ·exact h9
  ·exact h0
theorem lK(h:Kg Γ)(hp:P4 p)(hg:∀ t∈pts,In3 p t)(hn:pts.length=5):NW.run Γ [.int p,BR pts]=.ok (.bl (w0 p pts).isNone):=by
 have r5:C9 0 5=.ok ((Bz 5).map fun(i:Ag)=>D.int (0+(i:Af))):=rfl
 rcases LI (body:=BM Γ 2 Jj) (fun ρ=>∃ r s t,ρ=[si p,sh (BR pts),r,s,t]) (fun(m:Ag)=>D.int (0+(m:Af))) (w1 p pts) (Bz 5) (fun m hm ρ I=>lL h hp hg hn (by rw[hn];exact BB.mp hm) ρ I) [si p,sh (BR pts),Ae,Ae,Ae] ⟨_,_,_,rfl⟩ with ⟨d,a,b⟩|⟨a,r,b,u1,u2,u3,c⟩
 ·have e:w0 p pts=Aa d:=a;have e':=Xu e;subst e';show (evSs Γ [si p,sh (BR pts),Ae,Ae,Ae] (.cons (.fors 2 (.rng (.int 5)) Jj) (.cons (.ret (.bl Ab)) .nil))).ans Ac=_;rw[MZ,Nj,show FR Γ [si p,sh (BR pts),Ae,Ae,Ae] (.rng (.int 5))=_ from r5,NH,b,e]
  rfl
 ·have e:w0 p pts=Ae:=a;show (evSs Γ [si p,sh (BR pts),Ae,Ae,Ae] (.cons (.fors 2 (.rng (.int 5)) Jj) (.cons (.ret (.bl Ab)) .nil))).ans Ac=_;rw[MZ,Nj,show FR Γ [si p,sh (BR pts),Ae,Ae,Ae] (.rng (.int 5))=_ from r5,NH,b,e]
  rfl
noncomputable def LA:E:=(.bl Ab)
noncomputable def KP:E:=(.call 157 (.cons (.var 0) (.cons (.bin .FloorDiv (.call 38 (.cons (.var 1) (.cons (.bin .Add (.int 1) (.var 8)) .nil))) (.int 5)) .nil)))
noncomputable def Lz:E:=(.call 173 (.cons (.var 0) (.cons (.var 9) (.cons (.var 4) .nil))))
noncomputable def LB:E:=(.var 9)
noncomputable def JN:Ss:=(.cons (.put 2 (.bin .Mod (.bin .Add (.var 7) (.bin .FloorDiv (.var 3) (.int 8))) (.int 5)) (.idx (.var 5) (.bin .Mod (.bin .Add (.var 6) (.var 7)) (.bi .len (.cons (.var 5) .nil))))) .nil)
noncomputable def G2:Df:=⟨10,Ac,(.cons (.asg 2 Ab (.comp KP 8 (.rng (.int 5)) LA)) (.cons (.asg 3 Ac (.bin .FloorDiv (.call 38 (.cons (.var 1) (.cons (.int 6) .nil))) (.int 3))) (.cons (.ife (.cmp .Eq (.bin .Mod (.var 3) (.int 4)) (.int 1)) (.cons (.asg 4 Ac (.call 157 (.cons (.var 0) (.cons (.bin .FloorDiv (.call 38 (.cons (.var 1) (.cons (.int 7) .nil))) (.int 5)) .nil)))) (.cons (.asg 5 Ac (.comp LB 9 (.e (.call 164 (.cons (.var 0) .nil))) Lz)) (.cons (.asg 6 Ac (.bin .FloorDiv (.call 38 (.cons (.var 1) (.cons (.int 8) .nil))) (.int 3))) (.cons (.fors 7 (.rng (.bin .Add (.int 3) (.bin .Mod (.bin .FloorDiv (.var 3) (.int 4)) (.int 2)))) JN) .nil)))) .nil) (.cons (.ife (.cmp .Eq (.bin .Mod (.bin .FloorDiv (.var 3) (.int 64)) (.int 8)) (.int 1)) (.cons (.put 2 (.bin .Mod (.bin .FloorDiv (.var 3) (.int 512)) (.int 5)) (.idx (.var 2) (.bin .Mod (.bin .FloorDiv (.var 3) (.int 2560)) (.int 5)))) .nil) .nil) (.cons (.ret (.var 2)) .nil)))))⟩
theorem QJ{l:Ad R3}(n:Ag)(x:R3):(l.map (Aq Ab)).set n (Aq Ab x)=(l.set n x).map (Aq Ab):=by
 rw[Ux]
theorem pl5{l:Ad R3}{j:Af}(hl:l.length=5):plD (l.map (Aq Ab)).length (j%5)=Aa (j%5).toNat:=by
 have h0:0<=j%5:=Bl _ (by decide)
 have h1:j%5<5:=Bm _ (by decide)
 rw[Cf,hl];unfold plD;rw[Aw h0,Aw (show j%5<((5:Ag):Af) from h1)]
theorem RG{l:Ad R3}(h:∀ t∈l,NF p t)(hx:NF p x):∀ t∈l.set n x,NF p t:=fun t ht=>by
 rcases Uz ht with h1|h1
 ·exact h t h1
 ·rw[h1];exact hx
theorem ZO{S LN:D}{row l:Ad R3}{pk st:Af}(hl:l.length=5)(nl:∀ t∈l,NF p t)(nr:∀ t∈row,NF p t)(h0:0<row.length):∃ l',l'.length=5/\(∀ t∈l',NF p t)/\BM Γ 7 JN (.int k) [si p,sh S,ow l,si pk,sh LN,sh (BR row),si st,s7,Ae,Ae]=.next [si p,sh S,ow l',si pk,sh LN,sh (BR row),si st,si k,Ae,Ae]:=by
 have q0:0<=(st+k)%(row.length:Af):=Bl _ (by omega)
 have q1:(st+k)%(row.length:Af)<row.length:=Bm _ (by omega)
 have hq:((st+k)%(row.length:Af)).toNat<row.length:=by omega
 have ix:=Ju (pts:=row) hq;rw[show ((((st+k)%(row.length:Af)).toNat:Ag):Af)=(st+k)%(row.length:Af) by omega]at ix
 have nx:NF p (at6 row ((st+k)%(row.length:Af)).toNat):=by
  have e:at6 row ((st+k)%(row.length:Af)).toNat=row[((st+k)%(row.length:Af)).toNat]:=by simp[at6,hq]
  rw[e];exact nr _ (DQ hq)
 generalize at6 row ((st+k)%(row.length:Af)).toNat=x at *;refine⟨l.set ((k+pk / 8)%5).toNat x,by rw[A2];exact hl,RG nl nx,?_⟩
 have ln:biD .len [BR row]=.ok (.int (row.length:Af)):=by
  show R.ok (D.int (((row.map (Aq Ab)).length:Ag):Af))=_;rw[Cf]
 have pl:=pl5 (j:=k+pk / 8) hl;have sm:=QJ (l:=l) ((k+pk / 8)%5).toNat x;have o2:∀(b c d e f g h i j:Sl),DW [b,c,ow l,d,e,f,g,h,i,j] 2=.ok (l.map (Aq Ab)):=fun _ _ _ _ _ _ _ _ _=>rfl
 have po:(0:Af)<row.length:=by omega
 have ow':∀ l:Ad R3,ow l=Aa (.lst (l.map (Aq Ab)),Ab):=fun _=>rfl
 have oR:(Aa (.lst ((l.set ((k+pk / 8)%5).toNat x).map (Aq Ab)),Ab):Sl)=ow (l.set ((k+pk / 8)%5).toNat x):=rfl;generalize ow (l.set ((k+pk / 8)%5).toNat x)=O2 at *;generalize ow l=O1 at *;generalize BR row=RR at *;generalize Aq Ab x=X at *;generalize l.map (Aq Ab)=LL at *;generalize (row.length:Af)=n at *;simp[BM,JN,NI,ln,po,ix,o2,pl,sm];rw[<-Ux];exact oR
theorem Ra{S LN:D}{row:Ad R3}{pk st:Af}(nr:∀ t∈row,NF p t)(h0:0<row.length):∀(L:Ad D)(l:Ad R3)(s7:Sl),(∀ x∈L,∃ k:Af,x=.int k)->l.length=5->(∀ t∈l,NF p t)->∃ l' s7',l'.length=5/\(∀ t∈l',NF p t)/\Ch (BM Γ 7 JN) L [si p,sh S,ow l,si pk,sh LN,sh (BR row),si st,s7,Ae,Ae]=.next [si p,sh S,ow l',si pk,sh LN,sh (BR row),si st,s7',Ae,Ae]
 |[],l,s7,_,hl,nl=>⟨l,s7,hl,nl,rfl⟩
 |x::L,l,s7,hL,hl,nl=>by
  obtain⟨k,rfl⟩:=hL x AI;obtain⟨l1,a1,a2,a3⟩:=ZO (Γ:=Γ) (S:=S) (LN:=LN) (pk:=pk) (st:=st) (k:=k) (s7:=s7) hl nl nr h0;obtain⟨l2,s2,b1,b2,b3⟩:=Ra nr h0 L l1 (si k) (fun y hy=>hL y (Ax _ hy)) a1 a2
  refine⟨l2,s2,b1,b2,?_⟩;show (BM Γ 7 JN (.int k) _).turn _=_;rw[a3];exact b3
theorem XM{S X:D}{m:Af}(cp0:BG (cG Γ [si p,sh S,Ae,Ae,Ae,Ae,Ae,Ae,Ae,Ae] 8 LA) (cF Γ [si p,sh S,Ae,Ae,Ae,Ae,Ae,Ae,Ae,Ae] 8 KP) (DL 0 5)=.ok P0)(em:Γ.F 38 [S,.int 6]=.ok (.int m))(c:¬ m / 3%4=1)(x0:Da P0 (m / 3 / 2560%5)=.ok X)(pl:plD P0.length (m / 3 / 512%5)=Aa j):G2.run Γ [.int p,S]=.ok (.lst (if m /3 /64%8=1 then P0.set j X else P0)):=by
 have rg:C9 0 5=.ok (DL 0 5):=by rfl
 generalize DL 0 5=RL at *;have o2:∀(a b d e f g h i k:Sl),DW [a,b,Aa (.lst P0,Ab),d,e,f,g,h,i,k] 2=.ok P0:=fun _ _ _ _ _ _ _ _ _=>rfl
 by_cases c3:m / 3 / 64%8=1
 ·rw[Aw c3];simp[G2,Df.run,BA,rg,cp0,em,c,c3,x0,pl,NI,o2,D0]
 ·rw[AA c3];simp[G2,Df.run,BA,rg,cp0,em,c,c3,D0]
theorem XJ{S X LN AL:D}{as row P1 L2:Ad D}{m m7 m8:Af}(cp0:BG (cG Γ [si p,sh S,Ae,Ae,Ae,Ae,Ae,Ae,Ae,Ae] 8 LA) (cF Γ [si p,sh S,Ae,Ae,Ae,Ae,Ae,Ae,Ae,Ae] 8 KP) (DL 0 5)=.ok P0)(em:Γ.F 38 [S,.int 6]=.ok (.int m))(c:m / 3%4=1)(e7:Γ.F 38 [S,.int 7]=.ok (.int m7))(el:Γ.F 157 [.int p,.int (m7 / 5)]=.ok LN)(al:Γ.F 164 [.int p]=.ok AL)(sq:Ck AL=.ok as)(cp:BG (cG Γ [si p,sh S,Aa (.lst P0,Ab),si (m / 3),sh LN,Ae,Ae,Ae,Ae,Ae] 9 Lz) (cF Γ [si p,sh S,Aa (.lst P0,Ab),si (m / 3),sh LN,Ae,Ae,Ae,Ae,Ae] 9 LB) as=.ok row)(e8:Γ.F 38 [S,.int 8]=.ok (.int m8))(rg2:C9 0 (3+m / 3 / 4%2)=.ok L2)(lp:Ch (BM Γ 7 JN) L2 [si p,sh S,Aa (.lst P0,Ab),si (m / 3),sh LN,sh (.lst row),si (m8 / 3),Ae,Ae,Ae]=.next [si p,sh S,Aa (.lst P1,Ab),si (m / 3),sh LN,sh (.lst row),si (m8 / 3),s7,Ae,Ae])(x0:Da P1 (m / 3 / 2560%5)=.ok X)(pl:plD P1.length (m / 3 / 512%5)=Aa j):G2.run Γ [.int p,S]=.ok (.lst (if m /3 /64%8=1 then P1.set j X else P1)):=by
 have rg:C9 0 5=.ok (DL 0 5):=by rfl
 generalize DL 0 5=RL at *;have o2:∀(a b d e f g h i k:Sl),DW [a,b,Aa (.lst P1,Ab),d,e,f,g,h,i,k] 2=.ok P1:=fun _ _ _ _ _ _ _ _ _=>rfl
 by_cases c3:m / 3 / 64%8=1
 ·rw[Aw c3];simp[G2,Df.run,BA,rg,cp0,em,c,c3,e7,el,al,sq,cp,e8,rg2,lp,x0,pl,NI,o2,D0]
 ·rw[AA c3];simp[G2,Df.run,BA,rg,cp0,em,c,c3,e7,el,al,sq,cp,e8,rg2,lp,D0]
theorem at5{l:Ad R3}{j:Af}(hl:l.length=5):Da (l.map (Aq Ab)) (j%5)=.ok (Aq Ab (at6 l (j%5).toNat))/\at6 l (j%5).toNat∈l:=by
 have h0:0<=j%5:=Bl _ (by decide)
 have h1:j%5<5:=Bm _ (by decide)
 have hq:(j%5).toNat<l.length:=by omega
 have e:=Q7 (pts:=l) hq;rw[show (((j%5).toNat:Ag):Af)=j%5 by omega]at e
 refine⟨e,?_⟩;have e:at6 l (j%5).toNat=l[(j%5).toNat]:=by simp[at6,hq]
 rw[e];exact DQ hq
theorem YR(hp:P4 p)(h:NF p a):∃ b c,Ar a b c%p≠0:=by
 by_cases h0:a.1%p=0
 ·by_cases h1:a.2.1%p=0
  ·refine⟨(1,0,0),(0,1,0),?_⟩;rw[show Ar a (1,0,0) (0,1,0)=a.2.2 by unfold Ar det;grind]
   intro h2;have:lead p (tri a)=Ae:=Ji.mpr fun x hx=>by
    simp only[tri,AB,Bi,Cm]at hx;rcases hx with rfl|rfl|rfl
    ·exact h0
    ·exact h1
    ·exact h2
   have h3:=h.2;rw[this]at h3;cases h3
  ·exact⟨(0,0,1),(1,0,0),by rw[show Ar a (0,0,1) (1,0,0)=a.2.1 by unfold Ar det;grind];exact h1⟩
 ·exact⟨(0,1,0),(0,0,1),by rw[show Ar a (0,1,0) (0,0,1)=a.1 by unfold Ar det;grind];exact h0⟩
theorem XQ(hp:P4 p)(h:NF p y):0<((Fu p).filter fun x=>decide (Bp y x%p=0)).length:=by
 obtain⟨b,c,z⟩:=YR hp h;have hl:=(cZ hp z).1;have p0:=hp.pos;have:0<(lnA p y b).length:=by rw[hl];omega
 obtain⟨x,hx⟩:=List.exists_mem_of_length_pos this;obtain⟨h1,h2,_⟩:=cY hp hx;exact Ut (BV.mpr ⟨(G6 hp).mpr h1,Fk h2⟩)
theorem Y8(mi:Oa Γ 38 ns)(pt:SU Γ)(al:S8 Γ)(on:S6 Γ)(p:Af)(hp:P4 p):∃ pts:Ad R3,pts.length=5/\(∀ x∈pts,NF p x)/\G2.run Γ [.int p,scr ns]=.ok (BR pts):=by
 obtain⟨P0,l0,n0,cp0⟩:=PM (p:=p) (g:=cG Γ [si p,sh (scr ns),Ae,Ae,Ae,Ae,Ae,Ae,Ae,Ae] 8 LA) (f:=cF Γ [si p,sh (scr ns),Ae,Ae,Ae,Ae,Ae,Ae,Ae,Ae] 8 KP) (DL 0 5) fun x hx=>by
  obtain⟨k,_,rfl⟩:=Qv hx;refine⟨rfl,?_⟩;obtain⟨m,m0,e⟩:=mi (1+(0+(k:Af))) (by omega)
  obtain⟨y,ny,ey⟩:=pt p (m / 5) hp;refine⟨y,ny,?_⟩;generalize 0+(k:Af)=K at *;generalize Aq Ab y=Y at *;generalize scr ns=S at *;simp[cF,KP,e,ey]
 have l5:P0.length=5:=l0;obtain⟨m,m0,em⟩:=mi 6 (by decide)
 have fin:∀(l:Ad R3),l.length=5->(∀ t∈l,NF p t)->G2.run Γ [.int p,scr ns]=.ok (.lst (if m / 3 / 64%8=1 then (l.map (Aq Ab)).set (m / 3 / 512%5).toNat (Aq Ab (at6 l (m / 3 / 2560%5).toNat)) else l.map (Aq Ab)))->∃ pts:Ad R3,pts.length=5/\(∀ x∈pts,NF p x)/\G2.run Γ [.int p,scr ns]=.ok (BR pts):=fun l hl nl e=>by
  by_cases c3:m / 3 / 64%8=1
  ·rw[Aw c3,QJ]at e;exact⟨_,by rw[A2];exact hl,RG nl (nl _ (at5 hl).2),e⟩
  ·rw[AA c3]at e;exact⟨l,hl,nl,e⟩
 by_cases c:m / 3%4=1
 ·obtain⟨m7,_,e7⟩:=mi 7 (by decide)
  obtain⟨m8,_,e8⟩:=mi 8 (by decide)
  obtain⟨y,ny,ey⟩:=pt p (m7 / 5) hp;have cp:BG (cG Γ [si p,sh (scr ns),Aa (.lst (P0.map (Aq Ab)),Ab),si (m / 3),sh (Aq Ab y),Ae,Ae,Ae,Ae,Ae] 9 Lz) (cF Γ [si p,sh (scr ns),Aa (.lst (P0.map (Aq Ab)),Ab),si (m / 3),sh (Aq Ab y),Ae,Ae,Ae,Ae,Ae] 9 LB) ((Fu p).map (Aq Ab))=.ok (((Fu p).filter fun x=>decide (Bp y x%p=0)).map (Aq Ab)):=PQ _ fun x hx=>by
   have e:=on p Ab x y hp ((G6 hp).mp hx).1 ny.1;generalize Aq Ab x=X at *;generalize Aq Ab y=Y at *;generalize scr ns=S at *;generalize P0.map (Aq Ab)=PP at *;exact⟨by simp[cG,Lz,e],by simp[cF,LB]⟩
  have nr:∀ t∈(Fu p).filter (fun x=>decide (Bp y x%p=0)),NF p t:=fun t ht=>(G6 hp).mp (BV.mp ht).1
  have rp:=XQ hp ny;generalize (Fu p).filter (fun x=>decide (Bp y x%p=0))=row at *
  have r2:∃ L2,C9 0 (3+m / 3 / 4%2)=.ok L2/\∀ x∈L2,∃ k:Af,x=.int k:=by
   have h0:0<=m / 3 / 4%2:=Bl _ (by decide)
   have h1:m / 3 / 4%2<2:=Bm _ (by decide)
   have e:(3+m / 3 / 4%2:Af)=((3+m / 3 / 4%2).toNat:Af):=by omega
   rw[e];refine⟨_,Ti (by omega),fun x hx=>?_⟩
   obtain⟨i,_,rfl⟩:=CC.mp hx;exact⟨_,rfl⟩
  obtain⟨L2,rg2,hL2⟩:=r2;obtain⟨l1,s7,a1,a2,lp⟩:=Ra (Γ:=Γ) (p:=p) (S:=scr ns) (LN:=Aq Ab y) (pk:=m / 3) (st:=m8 / 3) nr rp L2 P0 Ae hL2 l5 n0;exact fin l1 a1 a2 (XJ cp0 em c e7 ey (al p hp) rfl cp e8 rg2 lp (at5 a1).1 (pl5 a1))
 ·exact fin P0 l5 n0 (XM cp0 em c (at5 l5).1 (pl5 l5))
end
section
variable{p:Af}{C D O W Z:C6}{a b c x y z:R3}
end
def Wt(Γ:Gam):Prop:=∀(p:Af)(C:C6),P4 p->InC p C->Γ.F 136 [.int p,BX C]=.ok (.bl (decide (Ar (tw0 C) (tw1 C) (tw2 C)%p≠0)))
theorem gH(p:Af)(C:C6):Ar (t0 p C) (t1 p C) (t2 p C)%p=Ar (tw0 C) (tw1 C) (tw2 C)%p:=let ⟨h0,h1,h2⟩:=lS p C;NJ h0 h1 h2
theorem Wg(ht:Rn Γ)(hm:Nr Γ)(p:Af)(C:C6)(hp:P4 p)(iC:InC p C):MU.run Γ [.int p,BX C]=.ok (.bl (decide (Ar (tw0 C) (tw1 C) (tw2 C)%p≠0))):=by
 obtain⟨h0,h1,h2⟩:=lR hp iC;have e1:=ht p C hp;have e2:=hm p Ab (t0 p C) (t1 p C) (t2 p C) hp.pos ((Fe hp h0).b3 (by decide)) ((Fe hp h1).b3 (by decide)) ((Fe hp h2).b3 (by decide))
 rw[gH]at e2;have k0:CG (Lo (t0 p C) (t1 p C) (t2 p C)) (.int 0)=.ok (Aq Ab (t0 p C)):=rfl;have k1:CG (Lo (t0 p C) (t1 p C) (t2 p C)) (.int 1)=.ok (Aq Ab (t1 p C)):=rfl;have k2:CG (Lo (t0 p C) (t1 p C) (t2 p C)) (.int 2)=.ok (Aq Ab (t2 p C)):=rfl;generalize Ar (tw0 C) (tw1 C) (tw2 C)%p=d at *;simp[MU,Df.run,BA,e1,e2,k0,k1,k2];rw[CS];simp
section
variable{Γ:Gam}{ns:Ad Af}{p:Af}{C:C6}{s4 s5 s6 s7 s8 s9 s10 s8' s9' s10':Sl}
end
noncomputable def Jc:E:=(.cmp .In (.var 9) (.sl (.var 2) .non (.var 8)))
noncomputable def JL:E:=(.var 9)
noncomputable def MC:E:=(.cmp .NotEq (.var 10) (.int 0))
noncomputable def ME:E:=(.var 10)
noncomputable def JK:E:=(.and (.cons (.isi (.var 11) [.int]) (.cons (.cmp2 .LtE .Lt (.int 0) (.var 11) (.var 1)) .nil)))
noncomputable def MD:E:=(.cmp .NotEq (.call 162 (.cons (.var 1) (.cons (.var 5) (.cons (.var 12) .nil)))) (.int 0))
noncomputable def IE:Df:=⟨13,Ac,(.cons (.asg 1 Ac (.call 169 (.cons (.var 0) .nil))) (.cons (.asg 2 Ac (.call 205 (.cons (.var 1) (.cons (.var 0) .nil)))) (.cons (.asg 3 Ac (.compT JL [8,9] (.enm (.var 2)) Jc)) (.cons (.asgT [4,5] (.call 206 (.cons (.var 1) (.cons (.bi .list (.cons (.var 2) .nil)) .nil)))) (.cons (.ife (.cmp .Gt (.bi .len (.cons (.var 3) .nil)) (.int 0)) (.cons (.ret (.and (.cons (.cmp .Eq (.var 4) (.str (AV "alike"))) (.cons (.cmp .Eq (.var 5) (.idx (.var 3) (.int 0))) .nil)))) .nil) .nil) (.cons (.asg 6 Ac (.call 203 (.cons (.var 1) (.cons (.var 2) .nil)))) (.cons (.ife (.cmp .IsNot (.var 6) .non) (.cons (.ret (.and (.cons (.cmp .Eq (.var 4) (.str (AV "line"))) (.cons (.isi (.var 5) [.tuple]) (.cons (.cmp .Eq (.var 5) (.var 6)) .nil))))) .nil) .nil) (.cons (.ife (.or (.cons (.cmp .NotEq (.var 4) (.str (AV "told"))) (.cons (.no (.isi (.var 5) [.tuple])) (.cons (.cmp .NotEq (.bi .len (.cons (.var 5) .nil)) (.int 6)) .nil)))) (.cons (.ret (.bl Ac)) .nil) .nil) (.cons (.asg 7 Ac (.comp ME 10 (.e (.var 5)) MC)) (.cons (.ife (.or (.cons (.no (.bi .all (.cons (.comp JK 11 (.e (.var 5)) DF) .nil))) (.cons (.cmp .Eq (.bi .len (.cons (.var 7) .nil)) (.int 0)) (.cons (.cmp .NotEq (.idx (.var 7) (.int 0)) (.int 1)) .nil)))) (.cons (.ret (.bl Ac)) .nil) .nil) (.cons (.ife (.bi .any (.cons (.comp MD 12 (.e (.var 2)) DF) .nil)) (.cons (.ret (.bl Ac)) .nil) .nil) (.cons (.ret (.cmp .Eq (.call 136 (.cons (.var 1) (.cons (.var 5) .nil))) (.call 207 (.cons (.var 1) (.cons (.var 2) .nil))))) .nil))))))))))))⟩
section
variable{Γ:Gam}{p:Af}{a b c d e:R3}{S PP T0 TT:D}{TW L:Ad D}{n:Af}
theorem kW{g:D->R Ao}{f:D->R D}{x0 x1 x2 x3 x4 y1 y2 y3 y4:D}{b1 b2 b3 b4:Ao}(g0:g x0=.ok Ac)(g1:g x1=.ok b1)(g2:g x2=.ok b2)(g3:g x3=.ok b3)(g4:g x4=.ok b4)(f1:f x1=.ok y1)(f2:f x2=.ok y2)(f3:f x3=.ok y3)(f4:f x4=.ok y4):BG g f [x0,x1,x2,x3,x4]=.ok ((if b1=Ab then [y1] else [])++((if b2=Ab then [y2] else [])++((if b3=Ab then [y3] else [])++(if b4=Ab then [y4] else [])))):=by
 cases b1<;>cases b2<;>cases b3<;>cases b4<;>simp[BG,g0,g1,g2,g3,g4,f1,f2,f3,f4]
theorem bP(p:Af)(a b c d e:R3)(S:D):∃ TW,BG (cGT Γ [sh S,si p,sh (BR [a,b,c,d,e]),Ae,Ae,Ae,Ae,Ae,Ae,Ae,Ae,Ae,Ae] [8,9] Jc) (cFT Γ [sh S,si p,sh (BR [a,b,c,d,e]),Ae,Ae,Ae,Ae,Ae,Ae,Ae,Ae,Ae,Ae] [8,9] JL) (DM 0 [Aq Ab a,Aq Ab b,Aq Ab c,Aq Ab d,Aq Ab e])=.ok TW/\(∀ x,HA a b c d e=Aa x->∃ TR,TW=Aq Ab x::TR)/\(HA a b c d e=Ae->TW=[]):=by
 have en:DM 0 [Aq Ab a,Aq Ab b,Aq Ab c,Aq Ab d,Aq Ab e]=[.tup [.int 0,Aq Ab a],.tup [.int 1,Aq Ab b],.tup [.int 2,Aq Ab c],.tup [.int 3,Aq Ab d],.tup [.int 4,Aq Ab e]]:=rfl;have q:=Kd;have fa:=fr5 a;have fb:=fr5 b;have fc:=fr5 c;have fd:=fr5 d;have fe:=fr5 e;have ff:∀(k:Af)(X:D),cFT Γ [sh S,si p,sh (BR [a,b,c,d,e]),Ae,Ae,Ae,Ae,Ae,Ae,Ae,Ae,Ae,Ae] [8,9] JL (.tup [.int k,X])=.ok X:=fun _ _=>rfl
 have gg:∀(k:Af)(X:D)(l:Ad D),slD (BR [a,b,c,d,e]) Ae (Aa k)=.ok (.lst l)->flD 5 X=Ab->l.all (flD 5)=Ab->cGT Γ [sh S,si p,sh (BR [a,b,c,d,e]),Ae,Ae,Ae,Ae,Ae,Ae,Ae,Ae,Ae,Ae] [8,9] Jc (.tup [.int k,X])=.ok (l.any fun y=>eqD y X):=fun k X l h1 h2 h3=>by
  generalize BR [a,b,c,d,e]=PP at *;simp[cGT,Jc,h1,h2,h3]
 have al:∀ l:Ad R3,(l.map (Aq Ab)).all (flD 5)=Ab:=fun l=>by
  rw[Do];intro x hx;obtain⟨y,_,rfl⟩:=CC.mp hx;rfl
 rw[en];refine⟨_,kW (gg 0 _ [] rfl fa rfl) (gg 1 _ [Aq Ab a] rfl fb (al [a])) (gg 2 _ [Aq Ab a,Aq Ab b] rfl fc (al [a,b])) (gg 3 _ [Aq Ab a,Aq Ab b,Aq Ab c] rfl fd (al [a,b,c])) (gg 4 _ [Aq Ab a,Aq Ab b,Aq Ab c,Aq Ab d] rfl fe (al [a,b,c,d])) (ff _ _) (ff _ _) (ff _ _) (ff _ _),fun x hx=>?_,fun hx=>?_⟩
 ·unfold HA at hx;simp only[FD,List.any_nil,T7,Cd,q,AG];by_cases k1:a=b
  ·rw[Aw k1]at hx;cases hx;rw[Aw k1];exact⟨_,rfl⟩
  rw[AA k1]at hx;rw[AA k1,Hl];by_cases k2:a=c\/b=c
  ·rw[Aw k2]at hx;cases hx;rw[Aw k2];exact⟨_,rfl⟩
  rw[AA k2]at hx;rw[AA k2,Hl];by_cases k3:a=d\/b=d\/c=d
  ·rw[Aw k3]at hx;cases hx;rw[Aw k3];exact⟨_,rfl⟩
  rw[AA k3]at hx;rw[AA k3,Hl];by_cases k4:a=e\/b=e\/c=e\/d=e
  ·rw[Aw k4]at hx;cases hx;rw[Aw k4];exact⟨_,rfl⟩
  rw[AA k4]at hx;cases hx
 ·obtain⟨h1,h2,h3,h4,h5,h6,h7,h8,h9,h0⟩:=Nm hx;simp[q,h1,h2,h3,h4,h5,h6,h7,h8,h9,h0]
theorem kT(e1:Γ.F 169 [S]=.ok (.int p))(e2:Γ.F 205 [.int p,S]=.ok PP)(sq:Ck PP=.ok L)(cp:BG (cGT Γ [sh S,si p,sh PP,Ae,Ae,Ae,Ae,Ae,Ae,Ae,Ae,Ae,Ae] [8,9] Jc) (cFT Γ [sh S,si p,sh PP,Ae,Ae,Ae,Ae,Ae,Ae,Ae,Ae,Ae,Ae] [8,9] JL) (DM 0 L)=.ok TW)(hT:D.lst TW=TT)(li:biD .list [PP]=.ok PP)(em:Γ.F 206 [.int p,PP]=.ok (.tup [.str (AV "alike"),T0]))(ln:biD .len [TT]=.ok (.int n))(n0:0<n)(i0:CG TT (.int 0)=.ok T0)(f:flD 5 T0=Ab)(q:eqD T0 T0=Ab):IE.run Γ [S]=.ok (.bl Ab):=by
 simp[IE,Df.run,BA,e1,e2,sq,cp,hT,li,em,ln,n0,i0,f,q]
theorem kS{ds:Ad D}(e1:Γ.F 169 [S]=.ok (.int p))(e2:Γ.F 205 [.int p,S]=.ok PP)(sq:Ck PP=.ok L)(cp:BG (cGT Γ [sh S,si p,sh PP,Ae,Ae,Ae,Ae,Ae,Ae,Ae,Ae,Ae,Ae] [8,9] Jc) (cFT Γ [sh S,si p,sh PP,Ae,Ae,Ae,Ae,Ae,Ae,Ae,Ae,Ae,Ae] [8,9] JL) (DM 0 L)=.ok [])(li:biD .list [PP]=.ok PP)(em:Γ.F 206 [.int p,PP]=.ok (.tup [.str (AV "line"),.tup ds]))(e4:Γ.F 203 [.int p,PP]=.ok (.tup ds))(f:flD 5 (.tup ds)=Ab)(q:eqD (.tup ds) (.tup ds)=Ab):IE.run Γ [S]=.ok (.bl Ab):=by
 simp[IE,Df.run,BA,e1,e2,sq,cp,li,em,e4,f,q,kiD,Dy]
theorem kR{H:Ad Af}{w:Ao}(e1:Γ.F 169 [S]=.ok (.int p))(e2:Γ.F 205 [.int p,S]=.ok PP)(sq:Ck PP=.ok L)(cp:BG (cGT Γ [sh S,si p,sh PP,Ae,Ae,Ae,Ae,Ae,Ae,Ae,Ae,Ae,Ae] [8,9] Jc) (cFT Γ [sh S,si p,sh PP,Ae,Ae,Ae,Ae,Ae,Ae,Ae,Ae,Ae,Ae] [8,9] JL) (DM 0 L)=.ok [])(li:biD .list [PP]=.ok PP)(em:Γ.F 206 [.int p,PP]=.ok (.tup [.str (AV "told"),BX C]))(e4:Γ.F 203 [.int p,PP]=.ok .non)(kt:DX Γ.up [.tuple] (BX C)=.ok (.bl Ab))(l6:biD .len [BX C]=.ok (.int 6))(sC:Ck (BX C)=.ok (ds C.l))(ch:∀ s:Sl,BG (cG Γ [sh S,si p,sh PP,s,sh (.str (AV "told")),sh (BX C),sh .non,Ae,Ae,Ae,Ae,Ae,Ae] 10 MC) (cF Γ [sh S,si p,sh PP,s,sh (.str (AV "told")),sh (BX C),sh .non,Ae,Ae,Ae,Ae,Ae,Ae] 10 ME) (ds C.l)=.ok (ds (1::H)))(ca:∀ s s':Sl,BG (cG Γ [sh S,si p,sh PP,s,sh (.str (AV "told")),sh (BX C),sh .non,s',Ae,Ae,Ae,Ae,Ae] 11 DF) (cF Γ [sh S,si p,sh PP,s,sh (.str (AV "told")),sh (BX C),sh .non,s',Ae,Ae,Ae,Ae,Ae] 11 JK) (ds C.l)=.ok [.bl Ab,.bl Ab,.bl Ab,.bl Ab,.bl Ab,.bl Ab])(cv:∀ s s':Sl,BG (cG Γ [sh S,si p,sh PP,s,sh (.str (AV "told")),sh (BX C),sh .non,s',Ae,Ae,Ae,Ae,Ae] 12 DF) (cF Γ [sh S,si p,sh PP,s,sh (.str (AV "told")),sh (BX C),sh .non,s',Ae,Ae,Ae,Ae,Ae] 12 MD) L=.ok [.bl Ac,.bl Ac,.bl Ac,.bl Ac,.bl Ac])(e5:Γ.F 136 [.int p,BX C]=.ok (.bl w))(e6:Γ.F 207 [.int p,PP]=.ok (.bl w)):IE.run Γ [S]=.ok (.bl Ab):=by
 have i0:CG (.lst (ds (1::H))) (.int 0)=.ok (.int 1):=SX;have ln:biD .len [.lst (ds (1::H))]=.ok (.int ((H.length:Af)+1)):=by
  show R.ok (D.int (((ds (1::H)).length:Ag):Af))=_;simp[ds]
 have h1:¬ ((H.length:Af)+1=0):=by omega
 generalize ds (1::H)=HH at *;generalize (H.length:Af)+1=n at *;generalize hHT:D.lst HH=HT at *;have ta:GC [.bl Ab,.bl Ab,.bl Ab,.bl Ab,.bl Ab,.bl Ab]=.ok Ab:=rfl;have ty:Fa [.bl Ac,.bl Ac,.bl Ac,.bl Ac,.bl Ac]=.ok Ac:=rfl;generalize BX C=cC at *;generalize ds C.l=dC at *;generalize [D.bl Ab,.bl Ab,.bl Ab,.bl Ab,.bl Ab,.bl Ab]=AT at *;generalize [D.bl Ac,.bl Ac,.bl Ac,.bl Ac,.bl Ac]=AF at *;simp[IE,Df.run,BA,e1,e2,sq,cp,li,em,e4,kt,l6,sC,ch,ca,cv,ta,ty,hHT,ln,i0,h1,e5,e6]
end
noncomputable def lP:Ag->Ad Ag
 |2=>[2,0]
 |3=>[3,0]
 |107=>[107,0]
 |5=>[5,0]
 |13=>[13,0]
 |118=>[118,0]
 |_=>[]
noncomputable def Hd:Ag->Ad D->R Ex
 |2,_=>.ok ⟨2,[]⟩
 |3,_=>.ok ⟨3,[]⟩
 |107,ds=>mkX 107 "triple" ds
 |5,_=>.ok ⟨5,[]⟩
 |13,_=>.ok ⟨13,[]⟩
 |118,ds=>mkX 118 "points" ds
 |_,_=>.bad
noncomputable def Q62:Prg:=⟨Ab,fun
 |1=>N4
 |9=>Lx
 |17=>LJ
 |23=>M6
 |57=>N5
 |61=>M5
 |194=>Hv
 |122=>MV
 |126=>NK
 |131=>MF
 |136=>MU
 |195=>JM
 |196=>MB
 |197=>KG
 |198=>IF
 |38=>KI
 |169=>OH 38
 |157=>HU
 |161=>MY
 |162=>MO
 |164=>Ly
 |165=>ML
 |173=>Nn
 |203=>J6
 |204=>Lw
 |205=>G2
 |206=>IK
 |207=>NW
 |208=>IE
 | _=>⟨0,Ac,.nil⟩,fun _=>.non,lP,Hd⟩
theorem WI(hp:P4 p)(iC:InC p C):lead p C.l=(C.l.filter fun v=>decide (v≠0)).head?:=by
 have h:=O7 hp.pos C.l;have e:C.l.map (fun x=>x%p)=C.l:=by
  conv=>rhs;rw[<-List.map_id C.l]
  exact Uv fun x hx=>A1 (iC x hx).1 (iC x hx).2
 rw[<-h,e]
 congr 1
 refine GJ fun x hx=>?_
 have:=(iC x hx).1;rw[CS,AG,AG];omega
theorem mW{S PP W:D}{s s':Sl}(iC:InC p C):BG (cG Γ [sh S,si p,sh PP,s,sh W,sh (BX C),sh .non,s',Ae,Ae,Ae,Ae,Ae] 11 DF) (cF Γ [sh S,si p,sh PP,s,sh W,sh (BX C),sh .non,s',Ae,Ae,Ae,Ae,Ae] 11 JK) (ds C.l)=.ok [.bl Ab,.bl Ab,.bl Ab,.bl Ab,.bl Ab,.bl Ab]:=by
 have key:∀ x:Af,0<=x/\x<p->cF Γ [sh S,si p,sh PP,s,sh W,sh (BX C),sh .non,s',Ae,Ae,Ae,Ae,Ae] 11 JK (.int x)=.ok (.bl Ab):=fun x ⟨h0,h1⟩=>by
  generalize BX C=cC at *;simp[cF,JK,h0,h1,kiD,Dy]
 have gg:∀ x,cG Γ [sh S,si p,sh PP,s,sh W,sh (BX C),sh .non,s',Ae,Ae,Ae,Ae,Ae] 11 DF x=.ok Ab:=fun _=>rfl
 have m:∀{x:Af},x∈C.l->cF Γ [sh S,si p,sh PP,s,sh W,sh (BX C),sh .non,s',Ae,Ae,Ae,Ae,Ae] 11 JK (.int x)=.ok (.bl Ab):=fun {x} hx=>key x (iC x hx)
 have m0:=m (x:=C.c0) (by simp[C6.l])
 have m1:=m (x:=C.c1) (by simp[C6.l])
 have m2:=m (x:=C.c2) (by simp[C6.l])
 have m3:=m (x:=C.c3) (by simp[C6.l])
 have m4:=m (x:=C.c4) (by simp[C6.l])
 have m5:=m (x:=C.c5) (by simp[C6.l])
 have el:ds C.l=[.int C.c0,.int C.c1,.int C.c2,.int C.c3,.int C.c4,.int C.c5]:=rfl;rw[el];simp[BG,gg,m0,m1,m2,m3,m4,m5]
theorem La(hp:P4 p)(h:In3 p x):xfD 1 (Aq Ab x)=Ab:=by
 have ph:=hp.hi;obtain⟨⟨x0,x1⟩,⟨y0,y1⟩,z0,z1⟩:=h;show (C5 3 8&&([D.int x.1,.int x.2.1,.int x.2.2].all (xfD 0)))=Ab;simp[xfD];omega
theorem cW(hp:P4 p)(h:In3 p x):mkX 107 "triple" [Aq Ab x]=.ok (alk x):=by
 show (if (xfD 1 (Aq Ab x)||xfD 2 (Aq Ab x))=Ab then R.ok (alk x) else .bad)=_
 rw[La hp h,Bool.true_or];rfl
theorem cV(hp:P4 p)(h0:In3 p t.1)(h1:In3 p t.2.1)(h2:In3 p t.2.2.1)(h3:In3 p t.2.2.2):mkX 118 "points" [CQ t]=.ok (onl (CQ t)):=by
 have e2:xfD 2 (CQ t)=Ab:=by
  show (C5 4 8&&([Aq Ab t.1,Aq Ab t.2.1,Aq Ab t.2.2.1,Aq Ab t.2.2.2].all (xfD 1)))=Ab;simp[La hp h0,La hp h1,La hp h2,La hp h3]
 show (if (xfD 1 (CQ t)||xfD 2 (CQ t))=Ab then R.ok (onl (CQ t)) else .bad)=_
 rw[e2,GS];rfl
theorem lG{a b c d e:R3}{P:R3->Prop}(ha:P a)(hb:P b)(hc:P c)(hd:P d)(he:P e)(h:ff5 p a b c d e=Aa t):P t.1/\P t.2.1/\P t.2.2.1/\P t.2.2.2:=by
 unfold ff5 at h
 repeat' split at h
 all_goals cases h
 ·exact⟨ha,hb,hc,hd⟩
 ·exact⟨ha,hb,hc,he⟩
 ·exact⟨ha,hb,hd,he⟩
 ·exact⟨ha,hc,hd,he⟩
 ·exact⟨hb,hc,hd,he⟩
theorem YM{a b c d e:R3}(h:ff5 p a b c d e=Ae):¬ (Ar a b c%p=0/\Ar a b d%p=0)/\¬ (Ar a b c%p=0/\Ar a b e%p=0)/\¬ (Ar a b d%p=0/\Ar a b e%p=0)/\¬ (Ar a c d%p=0/\Ar a c e%p=0)/\¬ (Ar b c d%p=0/\Ar b c e%p=0):=by
 unfold ff5 at h
 repeat' split at h
 all_goals first|(cases h;done)|skip
 exact⟨by assumption,by assumption,by assumption,by assumption,by assumption⟩
theorem jM(ns:Ad Af)(hl:ns.length<=63):(gam Q62 8).F 208 [scr ns]=.ok (.bl Ab):=by
 have gF:∀(n i:Ag)(ds:Ad D),(gam Q62 (n+1)).F i ds=((Q62.defs i).run (gam Q62 n) ds):=fun _ _ _=>rfl
 have rs:∀ n,II (gam Q62 (n+1)):=fun n p m hp=>Ey (dF _ p m hp)
 have mi:∀ n,Oa (gam Q62 (n+1)) 38 ns:=fun n k hk=>let ⟨m,m0,e⟩:=dG _ ns hl k hk;⟨m,m0,Ey e⟩
 have tu:∀ n,M7 (gam Q62 (n+2)):=fun n p m hp z=>let ⟨t,t1,t2,t3,e⟩:=Wh (rs n) p m hp z;⟨t,t1,t2,t3,Ey e⟩
 have fo:∀ n,Nt (gam Q62 (n+3)):=fun n p b xs l t hp e it=>Ey (Y7 (rs (n+1)) (tu n) hp e it)
 have me:∀ n,Nr (gam Q62 (n+2)):=fun n p q a b c hp ha hb hc=>Ey (XU (rs n) p q a b c hp ha hb hc)
 have jo:∀ n,Sd (gam Q62 (n+4)):=fun n p a b hp ia ib la lb ne=>let ⟨y,h1,h2,h3,e⟩:=dJ (fun a b ha hb ne=>Ey (Y9 _ a b ha hb ne)) (fo n) p a b hp ia ib la lb ne;⟨y,h1,h2,h3,Ey e⟩
 have vb:∀ n,Rx (gam Q62 (n+2)):=fun n p C x hp bC ix=>Ey (dE (rs n) p C x hp bC ix)
 have cf:∀ n,Se (gam Q62 (n+4)):=fun n p b xs l t hp e it=>Ey (dL (rs (n+2)) (fo n) hp e it)
 have lm:∀ n,Sc (gam Q62 (n+1)):=fun n p a b hp ia ib=>Ey (dI _ p a b hp ia ib)
 have lc:∀ n,S7 (gam Q62 (n+1)):=fun n p a b hp ia ib=>Ey (jQ _ p a b hp ia ib)
 have l4:∀ n,Kg (gam Q62 (n+2)):=fun n p a b c hp ia ib ic=>Ey (jP (lc n) p a b c hp ia ib ic)
 have px:∀ n,S5 (gam Q62 (n+1)):=fun n p k hp h0 h1=>Ey (gZ _ p k hp h0 h1)
 have py:∀ n,SU (gam Q62 (n+1)):=fun n p k hp=>let ⟨x,nx,e⟩:=gY _ p k hp;⟨x,nx,Ey e⟩
 have al:∀ n,S8 (gam Q62 (n+2)):=fun n p hp=>by
  have e:=jU (px n) p hp;show D9 Ab (Ly.run (gam Q62 (n+1)) [.int p])=_;rw[e];rfl
 have on:∀ n,S6 (gam Q62 (n+1)):=fun n p q x y hp ix iy=>Ey (jO _ p q x y hp ix iy)
 have tw:∀ n,Rn (gam Q62 (n+2)):=fun n p C hp=>Ey (XR (rs n) p C hp)
 have wh:∀ n,Wt (gam Q62 (n+3)):=fun n p C hp iC=>Ey (Wg (tw n) (me n) p C hp iC)
 have lv:∀ n,fU (gam Q62 (n+1)):=fun n p C x hp iC ix=>Ey (dH _ p C x hp iC ix)
 have d198:Q62.defs 198=IF:=rfl;have d194:Q62.defs 194=Hv:=rfl;have d195:Q62.defs 195=JM:=rfl;have d197:Q62.defs 197=KG:=rfl;have d203:Q62.defs 203=J6:=rfl;have d204:Q62.defs 204=Lw:=rfl;have d205:Q62.defs 205=G2:=rfl;have d206:Q62.defs 206=IK:=rfl;have d207:Q62.defs 207=NW:=rfl;have d208:Q62.defs 208=IE:=rfl;obtain⟨p,hp,e1⟩:∃ p,P4 p/\(gam Q62 7).F 169 [scr ns]=.ok (.int p):=let ⟨p,hp,e⟩:=W3 (mi 5);⟨p,hp,Ey e⟩
 obtain⟨pts,l5,nf,e2⟩:=Y8 (mi 5) (py 5) (al 4) (on 5) p hp;rw[<-d205,<-gF]at e2;obtain⟨a,b,c,d,e,rfl⟩:=YL l5;have na:=nf a (by simp)
 have nb:=nf b (by simp)
 have nc:=nf c (by simp)
 have nd:=nf d (by simp)
 have ne:=nf e (by simp)
 have ln:biD .len [BR [a,b,c,d,e]]=.ok (.int 5):=rfl;have li:biD .list [BR [a,b,c,d,e]]=.ok (BR [a,b,c,d,e]):=rfl;have sq:Ck (BR [a,b,c,d,e])=.ok [Aq Ab a,Aq Ab b,Aq Ab c,Aq Ab d,Aq Ab e]:=rfl;obtain⟨TW,cp,h1,h2⟩:=bP (Γ:=gam Q62 7) p a b c d e (scr ns);have an:∀(k:Ag)(fs:Ad (Ah×D)),Q62.up k=[k,0]->k=107\/k=118->(gam Q62 6).F 204 [.exc k fs]=.ok (.bl Ac):=fun k fs hu h=>by
  rw[gF,d204];exact Za hu h
 rw[gF,d208];cases hd:HA a b c d e with
 |some x=>
  obtain⟨TR,rfl⟩:=h1 x hd;have ix:In3 p x:=by
   unfold HA at hd
   repeat' split at hd
   all_goals cases hd
   ·exact nb.1
   ·exact nc.1
   ·exact nd.1
   ·exact ne.1
  have f1:=jT (Γ:=gam Q62 4) (fun y hy=>by subst hy;exact cW hp ix) hd
  rw[<-d194,<-gF]at f1;have f2:=mT (p:=p) ln f1;rw[<-d198,<-gF]at f2;have f3:=YW f2 rfl (an 107 _ rfl (.inl rfl));rw[<-d206,<-gF]at f3;have lt:biD .len [.lst (Aq Ab x::TR)]=.ok (.int ((TR.length:Af)+1)):=rfl;exact kT e1 e2 sq cp rfl li f3 lt (by omega) SX (fr5 x) (by rw[Kd,Fk rfl])
 |none=>
  have hT:=h2 hd;subst hT;have f1:=XS (Γ:=gam Q62 4) hd;rw[<-d194,<-gF]at f1;have f4:=jR (Γ:=gam Q62 4) (me 2) hp na.1 nb.1 nc.1 nd.1 ne.1;rw[<-d195,<-gF]at f4;have f5:=XV (Γ:=gam Q62 6) (l4 4) hp na.1 nb.1 nc.1 nd.1 ne.1;rw[<-d203,<-gF]at f5;cases hf:ff5 p a b c d e with
  |some t=>
   have eD:ffD p a b c d e=CQ t:=by unfold ffD;rw[hf]
   obtain⟨i0,i1,i2,i3⟩:=lG (P:=In3 p) na.1 nb.1 nc.1 nd.1 ne.1 hf;rw[eD]at f4 f5;have f2:=mV (p:=p) ln f1 f4 (cV hp i0 i1 i2 i3);rw[<-d198,<-gF]at f2;have f3:=YV f2 rfl (an 118 _ rfl (.inr rfl));rw[<-d206,<-gF]at f3;refine kS e1 e2 sq cp li f3 f5 rfl ?_;simp[eqD,eqDs,Kd]
  |none=>
   have eD:ffD p a b c d e=.non:=by unfold ffD;rw[hf]
   obtain⟨k1,k2,k3,k4,k5⟩:=YM hf;obtain⟨g1,g2,g3,g4,g5,g6,g7,g8,g9,g0⟩:=Nm hd;have P:P5 p a b c d e:=⟨na,nb,nc,nd,ne,g1,g2,g3,g4,g5,g6,g7,g8,g9,g0,k1,k2,k3,k4,k5⟩;rw[eD]at f4 f5;obtain⟨C,iC,lC,pC,f6⟩:=jS (jo 0) (lm 3) (vb 2) (cf 0) hp P;rw[<-d197,<-gF]at f6;have f2:=mU (p:=p) ln f1 f4 f6;rw[<-d198,<-gF]at f2;have f3:=YU f2;rw[<-d206,<-gF]at f3;have f7:=wh 4 p C hp iC;have f8:=lK (Γ:=gam Q62 6) (l4 4) hp (pts:=[a,b,c,d,e]) (fun t ht=>(nf t ht).1) rfl
   rw[<-d207,<-gF]at f8;have ew:(w0 p [a,b,c,d,e]).isNone=decide (Ar (tw0 C) (tw1 C) (tw2 C)%p≠0):=by
    rw[CS,AG,bG hp pC,<-bH,Option.isNone_iff_eq_none]
   rw[ew]at f8;have hd':∃ H,C.l.filter (fun v=>decide (v≠0))=1::H:=by
    have q:=WI hp iC;rw[lC]at q;cases hF:C.l.filter (fun v=>decide (v≠0)) with
    |nil=>rw[hF]at q;cases q
    |cons y H=>rw[hF]at q;cases q;exact⟨H,rfl⟩
   obtain⟨H,hH⟩:=hd';have vz:∀{x:R3},NF p x->vI (Fc a b c d e) x=0->(gam Q62 7).F 162 [.int p,BX C,Aq Ab x]=.ok (.int 0):=fun {x} nx hx=>by
    have:=lv 6 p C x hp iC nx.1;rw[(bJ hp pC x).mpr (by rw[hx,BE])]at this
    exact this
   obtain⟨o1,o2,o3,o4,o5⟩:=lJ a b c d e;have v1:=vz na o1;have v2:=vz nb o2;have v3:=vz nc o3;have v4:=vz nd o4;have v5:=vz ne o5;refine kR (H:=H) e1 e2 sq cp li f3 f5 rfl rfl rfl (fun s=>?_) (fun s s'=>?_) (fun s s'=>?_) f7 f8
   ·rw[<-hH];exact O3 C.l fun x _=>⟨by simp[cG,MC];rw[CS,AW,AG],by simp[cF,ME]⟩
   ·exact mW iC
   ·generalize BX C=cC at *;simp[BG,cG,cF,DF,MD,v1,v2,v3,v4,v5]
end OvC
namespace OvC
set_option genInjectivity false in
structure Eleven (P:Prop) where
 (α1 α2 α3 α4 α5 α6 α7 α8 α9 α10 α11:Type)
 (l1 r1:AC->α1)
 (l2 r2:AC->α2)
 (l3 r3:AC->α3)
 (l4 r4:AC->α4)
 (l5 r5:AC->α5)
 (l6 r6:AC->α6)
 (l7 r7:AC->α7)
 (l8 r8:AC->α8)
 (l9 r9:AC->α9)
 (l10 r10:AC->α10)
 (l11 r11:AC->α11)
 go:(∀ w,l1 w=r1 w)->(∀ w,l2 w=r2 w)->(∀ w,l3 w=r3 w)->(∀ w,l4 w=r4 w)->(∀ w,l5 w=r5 w)->(∀ w,l6 w=r6 w)->(∀ w,l7 w=r7 w)->(∀ w,l8 w=r8 w)->(∀ w,l9 w=r9 w)->(∀ w,l10 w=r10 w)->(∀ w,l11 w=r11 w)->P
theorem map_pair{σ α β:Type}{A:σ->α}{B:σ->β}{r:An σ}{a:α}{b:β}(h1:Ff A r=Aa a)(h2:Ff B r=Aa b):Ff (fun s=>(A s,B s)) r=Aa (a,b):=by
 cases r with
 |none=>cases h1
 |some s=>cases h1;cases h2;rfl
theorem map_take{σ α:Type}{B:σ->Ad α}{r:An σ}{v:Ad α}(n:Ag)(h1:Ff (fun s=>(B s).take n) r=Aa (v.take n))(h2:Ff (fun s=>(B s).drop n) r=Aa (v.drop n)):Ff B r=Aa v:=by
 cases r with
 |none=>cases h1
 |some s=>
  have e1:(B s).take n=v.take n:=by injection h1
  have e2:(B s).drop n=v.drop n:=by injection h2
  show Aa (B s)=Aa v;rw[<-UD n (B s),<-UD n v,e1,e2]
end OvC
namespace OvC
open PySem PySem.Spec PyProof.Rows Ov L2
variable{l:Fx}
noncomputable def tp62(i:Ag):A9:=PySem.Challenge.pw_ovalfield_k62_whole_any_five_points.main.body.getD i (.Pass ⟨0,0,0,0⟩)
noncomputable def S3:Ad (Ah×Ag×Ag):=([("rest", 1,2),("turned_over", 9,2),("one_form", 17,2),("crossed", 23,2),("join", 57,3),("measure", 61,4),("ask_unlike", 194,1),("curve_of", 122,2),("value", 126,3),("twice_table", 131,2),("is_whole", 136,2),("first_four", 195,2),("lines_multiplied", 196,2),("five_curve", 197,2),("curve_through", 198,2),("_law_mixed", 38,2),("_law_prime", 169,1),("_law_point", 157,2),("_law_cross", 161,2),("_law_value", 162,3),("_law_all", 164,1),("_law_measure", 165,4),("_law_on", 173,3),("_law_four", 203,2),("_law_another", 204,1001),("_law_drawn", 205,2),("_law_met", 206,2),("_law_no_three", 207,2),("law", 208,1)]:Ad (Ah×Ag×Ag))
noncomputable def TX:Ad Ah:=["ValueError", "all", "any", "enumerate", "int", "isinstance", "len", "list", "max", "min", "range", "sum", "tuple", "zip"]
noncomputable def Oe:Ad (Ah×Ag):=[("NoOver", 2),("NoTriple", 3),("Alike", 107),("NoCurve", 5),("NoCount", 13),("OnLine", 118)]
noncomputable def Oi:Ad (Ah×Ag):=[("NoPrime", 1),("NoOver", 2),("NoTriple", 3),("NoTable", 4),("NoCurve", 5),("NotWhole", 14),("TooMany", 15),("NoPicture", 16),("NoRow", 12),("NothingDone", 17),("BadRow", 106),("NotOn", 108),("Alike", 107),("OnLine", 118),("NoCount", 13),("OvalError", 0)]
noncomputable def SV:Ad (Ah×Ag):=[]
noncomputable abbrev C62(h:Ao)(ps N:Ad Ah)(i d:Ag):Ao:=Hg 80 h S3 TX Oe Oi SV ps N (tp62 i) (Q62.defs d)
theorem eX:C62 Ac ["p", "n"] ["p", "n"] 18 1=Ab:=by decide +kernel
theorem eW:C62 Ac ["p", "n"] ["p", "n", "turned"] 19 9=Ab:=by decide +kernel
theorem eV:C62 Ac ["p", "numbers"] ["p", "numbers", "rests", "first", "factor", "#5", "#6"] 21 17=Ab:=by decide +kernel
theorem eU:C62 Ac ["one", "other"] ["one", "other"] 22 23=Ab:=by decide +kernel
theorem eT:C62 Ac ["p", "one", "other"] ["p", "one", "other"] 24 57=Ab:=by decide +kernel
theorem eS:C62 Ac ["p", "one", "other", "third"] ["p", "one", "other", "third"] 25 61=Ab:=by decide +kernel
theorem eR:C62 Ac ["points"] ["points", "place", "point"] 26 194=Ab:=by decide +kernel
theorem eQ:C62 Ac ["p", "numbers"] ["p", "numbers", "rests", "#3"] 28 122=Ab:=by decide +kernel
theorem eP:C62 Ac ["p", "curve", "point"] ["p", "curve", "point", "squares", "products"] 29 126=Ab:=by decide +kernel
theorem eO:C62 Ac ["p", "curve"] ["p", "curve"] 30 131=Ab:=by decide +kernel
theorem ZE:C62 Ac ["p", "curve"] ["p", "curve", "rows"] 31 136=Ab:=by decide +kernel
theorem ZD:C62 Ac ["p", "points"] ["p", "points", "place", "four"] 33 195=Ab:=by decide +kernel
theorem ZC:C62 Ac ["one", "other"] ["one", "other"] 34 196=Ab:=by decide +kernel
theorem ZB:C62 Ac ["p", "points"] ["p", "points", "one", "other", "by_one", "by_other", "#6", "#7"] 35 197=Ab:=by decide +kernel
theorem ZA:C62 Ac ["p", "points"] ["p", "points", "four"] 36 198=Ab:=by decide +kernel
theorem Zz:C62 Ac ["_law_script", "_law_k"] ["_law_script", "_law_k", "_law_cell", "_law_step"] 38 38=Ab:=by decide +kernel
theorem Zy:C62 Ac ["_law_script"] ["_law_script"] 39 169=Ab:=by decide +kernel
theorem Zx:C62 Ac ["_law_p", "_law_number"] ["_law_p", "_law_number", "_law_n"] 40 157=Ab:=by decide +kernel
theorem Z7:C62 Ac ["_law_one", "_law_other"] ["_law_one", "_law_other", "_law_a", "_law_b", "_law_c", "_law_d", "_law_e", "_law_f"] 41 161=Ab:=by decide +kernel
theorem Z6:C62 Ac ["_law_p", "_law_curve", "_law_point_here"] ["_law_p", "_law_curve", "_law_point_here", "_law_x", "_law_y", "_law_z", "_law_some", "#7", "#8"] 42 162=Ab:=by decide +kernel
theorem Z5:C62 Ac ["_law_p"] ["_law_p", "#1"] 43 164=Ab:=by decide +kernel
theorem Z4:C62 Ac ["_law_p", "_law_one", "_law_other", "_law_third"] ["_law_p", "_law_one", "_law_other", "_law_third", "_law_a", "_law_b", "_law_c"] 44 165=Ab:=by decide +kernel
theorem Z2:C62 Ac ["_law_p", "_law_point_here", "_law_line"] ["_law_p", "_law_point_here", "_law_line", "#3", "#4"] 45 173=Ab:=by decide +kernel
theorem Z1:C62 Ac ["_law_p", "_law_points"] ["_law_p", "_law_points", "_law_left", "_law_four_here", "_law_one", "#5", "#6"] 46 203=Ab:=by decide +kernel
theorem Z0:C62 Ab ["_law_error"] ["_law_error"] 47 204=Ab:=by decide +kernel
theorem ZZ:C62 Ac ["_law_p", "_law_script"] ["_law_p", "_law_script", "_law_points", "_law_pick", "_law_line", "_law_row", "_law_start", "_law_k", "#8", "#9"] 48 205=Ab:=by decide +kernel
theorem ZY:C62 Ac ["_law_p", "_law_points"] ["_law_p", "_law_points", "_law_word", "_law_found", "_law_error"] 49 206=Ab:=by decide +kernel
theorem ZX:C62 Ac ["_law_p", "_law_points"] ["_law_p", "_law_points", "_law_k", "_law_j", "_law_i"] 50 207=Ab:=by decide +kernel
theorem Ri:C62 Ac ["_law_script"] ["_law_script", "_law_p", "_law_points", "_law_twice", "_law_word", "_law_found", "_law_four_here", "_law_heads", "#8", "#9", "#10", "#11", "#12"] 51 208=Ab:=by decide +kernel
theorem Y6:Mt "OvalError" "triple" "triple" (Mk (tp62 14))=Ab:=by decide +kernel
theorem Y5:Mt "OvalError" "points" "points" (Mk (tp62 16))=Ab:=by decide +kernel
noncomputable def Cw(x0 x1 x2 x3 x4 x5:Aj):ClA
 |2=>Aa x0
 |3=>Aa x1
 |107=>Aa x2
 |5=>Aa x3
 |13=>Aa x4
 |118=>Aa x5
 |_=>Ae
set_option maxHeartbeats 0 in
theorem all62{w:AC}{K:Fg}{h:AD}{mg:Ah->An Ai}{fa f0 f1 f2 f3 f4 f5 f6 f7 f8 f9 f10 f11 f12 f13 f14 f15 f16 f17 f18 f19 f20 f21 f22 f23 f24 f25 f26 f27 f28 x0 x1 x2 x3 x4 x5 x6 x7 x8 x9 x10 x11 x12 x13 x14 x15 ix2 ix5:Aj}(X:K.In h)(G:h.Ns AM mg)(hfa:mg "law" = Aa (.ref fa))(a0:FnI K f0 "rest" (tp62 18))(a1:FnI K f1 "turned_over" (tp62 19))(a2:FnI K f2 "one_form" (tp62 21))(a3:FnI K f3 "crossed" (tp62 22))(a4:FnI K f4 "join" (tp62 24))(a5:FnI K f5 "measure" (tp62 25))(a6:FnI K f6 "ask_unlike" (tp62 26))(a7:FnI K f7 "curve_of" (tp62 28))(a8:FnI K f8 "value" (tp62 29))(a9:FnI K f9 "twice_table" (tp62 30))(a10:FnI K f10 "is_whole" (tp62 31))(a11:FnI K f11 "first_four" (tp62 33))(a12:FnI K f12 "lines_multiplied" (tp62 34))(a13:FnI K f13 "five_curve" (tp62 35))(a14:FnI K f14 "curve_through" (tp62 36))(a15:FnI K f15 "_law_mixed" (tp62 38))(a16:FnI K f16 "_law_prime" (tp62 39))(a17:FnI K f17 "_law_point" (tp62 40))(a18:FnI K f18 "_law_cross" (tp62 41))(a19:FnI K f19 "_law_value" (tp62 42))(a20:FnI K f20 "_law_all" (tp62 43))(a21:FnI K f21 "_law_measure" (tp62 44))(a22:FnI K f22 "_law_on" (tp62 45))(a23:FnI K f23 "_law_four" (tp62 46))(a24:FnI K f24 "_law_another" (tp62 47))(a25:FnI K f25 "_law_drawn" (tp62 48))(a26:FnI K f26 "_law_met" (tp62 49))(a27:FnI K f27 "_law_no_three" (tp62 50))(a28:FnI K f28 "law" (tp62 51))(nx0:AX K AM "NoOver" = Aa (Aa (.ref x0)))(dcx0:Fb K x0=Ab)(ftx0:Av K (.ref x0) "triple" = Aa Ae)(fpx0:Av K (.ref x0) "points" = Aa Ae)(ex0:EF K x0 [.type "ValueError", .type "Exception", .type "BaseException", .type "object"] "ValueError.__new__" = Ab)(gax0:Av K (.ref x0) "__getattribute__" = Aa (Aa (.builtin "BaseException.__getattribute__")))(gtx0:Av K (.ref x0) "__getattr__" = Aa Ae)(clx0:Av K (.ref x0) "__class__" = Aa (Aa (.builtin "object.__class__")))(obx0:Bh K x0 (.type "object")=Aa Ab)(bex0:Al K (.ref x0) (.type "BaseException")=Aa Ab)(svx0:Al K (.ref x0) (.type "ValueError")=Aa Ab)(nx1:AX K AM "NoTriple" = Aa (Aa (.ref x1)))(dcx1:Fb K x1=Ab)(ftx1:Av K (.ref x1) "triple" = Aa Ae)(fpx1:Av K (.ref x1) "points" = Aa Ae)(ex1:EF K x1 [.type "ValueError", .type "Exception", .type "BaseException", .type "object"] "ValueError.__new__" = Ab)(gax1:Av K (.ref x1) "__getattribute__" = Aa (Aa (.builtin "BaseException.__getattribute__")))(gtx1:Av K (.ref x1) "__getattr__" = Aa Ae)(clx1:Av K (.ref x1) "__class__" = Aa (Aa (.builtin "object.__class__")))(obx1:Bh K x1 (.type "object")=Aa Ab)(bex1:Al K (.ref x1) (.type "BaseException")=Aa Ab)(svx1:Al K (.ref x1) (.type "ValueError")=Aa Ab)(nx2:AX K AM "Alike" = Aa (Aa (.ref x2)))(dcx2:Fb K x2=Ab)(ftx2:Av K (.ref x2) "triple" = Aa Ae)(fpx2:Av K (.ref x2) "points" = Aa Ae)(fix2:Av K (.ref x2) "__init__" = Aa (Aa (.ref ix2)))(iix2:InI K ix2 "Alike.__init__" (Mk (tp62 14)))(tix2:Bw K (.ref ix2)=Aa (.type "function"))(ex2:DK K x2 (Aa (.ref ix2))=Ab)(snx2:Av K (.ref x2) "__setattr__" = Aa (Aa (.builtin "object.__setattr__")))(gax2:Av K (.ref x2) "__getattribute__" = Aa (Aa (.builtin "BaseException.__getattribute__")))(gtx2:Av K (.ref x2) "__getattr__" = Aa Ae)(clx2:Av K (.ref x2) "__class__" = Aa (Aa (.builtin "object.__class__")))(obx2:Bh K x2 (.type "object")=Aa Ab)(bex2:Al K (.ref x2) (.type "BaseException")=Aa Ab)(svx2:Al K (.ref x2) (.type "ValueError")=Aa Ab)(nx3:AX K AM "NoCurve" = Aa (Aa (.ref x3)))(dcx3:Fb K x3=Ab)(ftx3:Av K (.ref x3) "triple" = Aa Ae)(fpx3:Av K (.ref x3) "points" = Aa Ae)(ex3:EF K x3 [.type "ValueError", .type "Exception", .type "BaseException", .type "object"] "ValueError.__new__" = Ab)(gax3:Av K (.ref x3) "__getattribute__" = Aa (Aa (.builtin "BaseException.__getattribute__")))(gtx3:Av K (.ref x3) "__getattr__" = Aa Ae)(clx3:Av K (.ref x3) "__class__" = Aa (Aa (.builtin "object.__class__")))(obx3:Bh K x3 (.type "object")=Aa Ab)(bex3:Al K (.ref x3) (.type "BaseException")=Aa Ab)(svx3:Al K (.ref x3) (.type "ValueError")=Aa Ab)(nx4:AX K AM "NoCount" = Aa (Aa (.ref x4)))(dcx4:Fb K x4=Ab)(ftx4:Av K (.ref x4) "triple" = Aa Ae)(fpx4:Av K (.ref x4) "points" = Aa Ae)(ex4:EF K x4 [.type "ValueError", .type "Exception", .type "BaseException", .type "object"] "ValueError.__new__" = Ab)(gax4:Av K (.ref x4) "__getattribute__" = Aa (Aa (.builtin "BaseException.__getattribute__")))(gtx4:Av K (.ref x4) "__getattr__" = Aa Ae)(clx4:Av K (.ref x4) "__class__" = Aa (Aa (.builtin "object.__class__")))(obx4:Bh K x4 (.type "object")=Aa Ab)(bex4:Al K (.ref x4) (.type "BaseException")=Aa Ab)(svx4:Al K (.ref x4) (.type "ValueError")=Aa Ab)(nx5:AX K AM "OnLine" = Aa (Aa (.ref x5)))(dcx5:Fb K x5=Ab)(ftx5:Av K (.ref x5) "triple" = Aa Ae)(fpx5:Av K (.ref x5) "points" = Aa Ae)(fix5:Av K (.ref x5) "__init__" = Aa (Aa (.ref ix5)))(iix5:InI K ix5 "OnLine.__init__" (Mk (tp62 16)))(tix5:Bw K (.ref ix5)=Aa (.type "function"))(ex5:DK K x5 (Aa (.ref ix5))=Ab)(snx5:Av K (.ref x5) "__setattr__" = Aa (Aa (.builtin "object.__setattr__")))(gax5:Av K (.ref x5) "__getattribute__" = Aa (Aa (.builtin "BaseException.__getattribute__")))(gtx5:Av K (.ref x5) "__getattr__" = Aa Ae)(clx5:Av K (.ref x5) "__class__" = Aa (Aa (.builtin "object.__class__")))(obx5:Bh K x5 (.type "object")=Aa Ab)(bex5:Al K (.ref x5) (.type "BaseException")=Aa Ab)(svx5:Al K (.ref x5) (.type "ValueError")=Aa Ab)(nx6:AX K AM "NoPrime" = Aa (Aa (.ref x6)))(csx6:Bh K x6 (.type "object")=Aa Ab)(tyx6:Bw K (.ref x6)=Aa (.type "type"))(nx7:AX K AM "NoTable" = Aa (Aa (.ref x7)))(csx7:Bh K x7 (.type "object")=Aa Ab)(tyx7:Bw K (.ref x7)=Aa (.type "type"))(nx8:AX K AM "NotWhole" = Aa (Aa (.ref x8)))(csx8:Bh K x8 (.type "object")=Aa Ab)(tyx8:Bw K (.ref x8)=Aa (.type "type"))(nx9:AX K AM "TooMany" = Aa (Aa (.ref x9)))(csx9:Bh K x9 (.type "object")=Aa Ab)(tyx9:Bw K (.ref x9)=Aa (.type "type"))(nx10:AX K AM "NoPicture" = Aa (Aa (.ref x10)))(csx10:Bh K x10 (.type "object")=Aa Ab)(tyx10:Bw K (.ref x10)=Aa (.type "type"))(nx11:AX K AM "NoRow" = Aa (Aa (.ref x11)))(csx11:Bh K x11 (.type "object")=Aa Ab)(tyx11:Bw K (.ref x11)=Aa (.type "type"))(nx12:AX K AM "NothingDone" = Aa (Aa (.ref x12)))(csx12:Bh K x12 (.type "object")=Aa Ab)(tyx12:Bw K (.ref x12)=Aa (.type "type"))(nx13:AX K AM "BadRow" = Aa (Aa (.ref x13)))(csx13:Bh K x13 (.type "object")=Aa Ab)(tyx13:Bw K (.ref x13)=Aa (.type "type"))(nx14:AX K AM "NotOn" = Aa (Aa (.ref x14)))(csx14:Bh K x14 (.type "object")=Aa Ab)(tyx14:Bw K (.ref x14)=Aa (.type "type"))(nx15:AX K AM "OvalError" = Aa (Aa (.ref x15)))(sax15:Eb K (.ref x15) "__getattribute__" = Aa (Aa (.builtin "type.__getattribute__")))(sbx15:EW K x15 (.type "type")=Ab)(scx15:EV K (.ref x15) (.type "type") "__init__" = Aa (.val (.builtin "ValueError.__init__")))(csx15:Bh K x15 (.type "object")=Aa Ab)(tyx15:Bw K (.ref x15)=Aa (.type "type"))(sux0x6:Al K (.ref x0) (.ref x6)=Aa Ac)(sux0x0:Al K (.ref x0) (.ref x0)=Aa Ab)(sux0x1:Al K (.ref x0) (.ref x1)=Aa Ac)(sux0x7:Al K (.ref x0) (.ref x7)=Aa Ac)(sux0x3:Al K (.ref x0) (.ref x3)=Aa Ac)(sux0x8:Al K (.ref x0) (.ref x8)=Aa Ac)(sux0x9:Al K (.ref x0) (.ref x9)=Aa Ac)(sux0x10:Al K (.ref x0) (.ref x10)=Aa Ac)(sux0x11:Al K (.ref x0) (.ref x11)=Aa Ac)(sux0x12:Al K (.ref x0) (.ref x12)=Aa Ac)(sux0x13:Al K (.ref x0) (.ref x13)=Aa Ac)(sux0x14:Al K (.ref x0) (.ref x14)=Aa Ac)(sux0x2:Al K (.ref x0) (.ref x2)=Aa Ac)(sux0x5:Al K (.ref x0) (.ref x5)=Aa Ac)(sux0x4:Al K (.ref x0) (.ref x4)=Aa Ac)(sux0x15:Al K (.ref x0) (.ref x15)=Aa Ab)(sux1x6:Al K (.ref x1) (.ref x6)=Aa Ac)(sux1x0:Al K (.ref x1) (.ref x0)=Aa Ac)(sux1x1:Al K (.ref x1) (.ref x1)=Aa Ab)(sux1x7:Al K (.ref x1) (.ref x7)=Aa Ac)(sux1x3:Al K (.ref x1) (.ref x3)=Aa Ac)(sux1x8:Al K (.ref x1) (.ref x8)=Aa Ac)(sux1x9:Al K (.ref x1) (.ref x9)=Aa Ac)(sux1x10:Al K (.ref x1) (.ref x10)=Aa Ac)(sux1x11:Al K (.ref x1) (.ref x11)=Aa Ac)(sux1x12:Al K (.ref x1) (.ref x12)=Aa Ac)(sux1x13:Al K (.ref x1) (.ref x13)=Aa Ac)(sux1x14:Al K (.ref x1) (.ref x14)=Aa Ac)(sux1x2:Al K (.ref x1) (.ref x2)=Aa Ac)(sux1x5:Al K (.ref x1) (.ref x5)=Aa Ac)(sux1x4:Al K (.ref x1) (.ref x4)=Aa Ac)(sux1x15:Al K (.ref x1) (.ref x15)=Aa Ab)(sux2x6:Al K (.ref x2) (.ref x6)=Aa Ac)(sux2x0:Al K (.ref x2) (.ref x0)=Aa Ac)(sux2x1:Al K (.ref x2) (.ref x1)=Aa Ac)(sux2x7:Al K (.ref x2) (.ref x7)=Aa Ac)(sux2x3:Al K (.ref x2) (.ref x3)=Aa Ac)(sux2x8:Al K (.ref x2) (.ref x8)=Aa Ac)(sux2x9:Al K (.ref x2) (.ref x9)=Aa Ac)(sux2x10:Al K (.ref x2) (.ref x10)=Aa Ac)(sux2x11:Al K (.ref x2) (.ref x11)=Aa Ac)(sux2x12:Al K (.ref x2) (.ref x12)=Aa Ac)(sux2x13:Al K (.ref x2) (.ref x13)=Aa Ac)(sux2x14:Al K (.ref x2) (.ref x14)=Aa Ac)(sux2x2:Al K (.ref x2) (.ref x2)=Aa Ab)(sux2x5:Al K (.ref x2) (.ref x5)=Aa Ac)(sux2x4:Al K (.ref x2) (.ref x4)=Aa Ac)(sux2x15:Al K (.ref x2) (.ref x15)=Aa Ab)(sux3x6:Al K (.ref x3) (.ref x6)=Aa Ac)(sux3x0:Al K (.ref x3) (.ref x0)=Aa Ac)(sux3x1:Al K (.ref x3) (.ref x1)=Aa Ac)(sux3x7:Al K (.ref x3) (.ref x7)=Aa Ac)(sux3x3:Al K (.ref x3) (.ref x3)=Aa Ab)(sux3x8:Al K (.ref x3) (.ref x8)=Aa Ac)(sux3x9:Al K (.ref x3) (.ref x9)=Aa Ac)(sux3x10:Al K (.ref x3) (.ref x10)=Aa Ac)(sux3x11:Al K (.ref x3) (.ref x11)=Aa Ac)(sux3x12:Al K (.ref x3) (.ref x12)=Aa Ac)(sux3x13:Al K (.ref x3) (.ref x13)=Aa Ac)(sux3x14:Al K (.ref x3) (.ref x14)=Aa Ac)(sux3x2:Al K (.ref x3) (.ref x2)=Aa Ac)(sux3x5:Al K (.ref x3) (.ref x5)=Aa Ac)(sux3x4:Al K (.ref x3) (.ref x4)=Aa Ac)(sux3x15:Al K (.ref x3) (.ref x15)=Aa Ab)(sux4x6:Al K (.ref x4) (.ref x6)=Aa Ac)(sux4x0:Al K (.ref x4) (.ref x0)=Aa Ac)(sux4x1:Al K (.ref x4) (.ref x1)=Aa Ac)(sux4x7:Al K (.ref x4) (.ref x7)=Aa Ac)(sux4x3:Al K (.ref x4) (.ref x3)=Aa Ac)(sux4x8:Al K (.ref x4) (.ref x8)=Aa Ac)(sux4x9:Al K (.ref x4) (.ref x9)=Aa Ac)(sux4x10:Al K (.ref x4) (.ref x10)=Aa Ac)(sux4x11:Al K (.ref x4) (.ref x11)=Aa Ac)(sux4x12:Al K (.ref x4) (.ref x12)=Aa Ac)(sux4x13:Al K (.ref x4) (.ref x13)=Aa Ac)(sux4x14:Al K (.ref x4) (.ref x14)=Aa Ac)(sux4x2:Al K (.ref x4) (.ref x2)=Aa Ac)(sux4x5:Al K (.ref x4) (.ref x5)=Aa Ac)(sux4x4:Al K (.ref x4) (.ref x4)=Aa Ab)(sux4x15:Al K (.ref x4) (.ref x15)=Aa Ab)(sux5x6:Al K (.ref x5) (.ref x6)=Aa Ac)(sux5x0:Al K (.ref x5) (.ref x0)=Aa Ac)(sux5x1:Al K (.ref x5) (.ref x1)=Aa Ac)(sux5x7:Al K (.ref x5) (.ref x7)=Aa Ac)(sux5x3:Al K (.ref x5) (.ref x3)=Aa Ac)(sux5x8:Al K (.ref x5) (.ref x8)=Aa Ac)(sux5x9:Al K (.ref x5) (.ref x9)=Aa Ac)(sux5x10:Al K (.ref x5) (.ref x10)=Aa Ac)(sux5x11:Al K (.ref x5) (.ref x11)=Aa Ac)(sux5x12:Al K (.ref x5) (.ref x12)=Aa Ac)(sux5x13:Al K (.ref x5) (.ref x13)=Aa Ac)(sux5x14:Al K (.ref x5) (.ref x14)=Aa Ac)(sux5x2:Al K (.ref x5) (.ref x2)=Aa Ac)(sux5x5:Al K (.ref x5) (.ref x5)=Aa Ab)(sux5x4:Al K (.ref x5) (.ref x4)=Aa Ac)(sux5x15:Al K (.ref x5) (.ref x15)=Aa Ab)(z0:AX K AM "ValueError" = Aa Ae)(z1:AX K AM "all" = Aa Ae)(z2:AX K AM "any" = Aa Ae)(z3:AX K AM "enumerate" = Aa Ae)(z4:AX K AM "int" = Aa Ae)(z5:AX K AM "isinstance" = Aa Ae)(z6:AX K AM "len" = Aa Ae)(z7:AX K AM "list" = Aa Ae)(z8:AX K AM "max" = Aa Ae)(z9:AX K AM "min" = Aa Ae)(z10:AX K AM "range" = Aa Ae)(z11:AX K AM "sum" = Aa Ae)(z12:AX K AM "tuple" = Aa Ae)(z13:AX K AM "zip" = Aa Ae):
    ∃ fd:BP,(∀(s:As)(v:Ai),FT s fd ⟨[v],[]⟩ [("_law_script", v)])/\∀ base:AD,K.In base->base.Ns AM mg->FnOk l.prog w K mg base (CXR l.prog w) 8 fa fd ["_law_script"] (Li K):=by
  obtain⟨_,F,e⟩:=a28;obtain⟨_,_,_,_,_,_,_,_,_,rfl,_,_⟩:=F.ex;cases hfa.symm.trans (Ba X G e);have yx0:=LZ ex0;have Xx0:XcOk K x0:=Kh yx0 gax0 gtx0 clx0 obx0 bex0 svx0;have yx1:=LZ ex1;have Xx1:XcOk K x1:=Kh yx1 gax1 gtx1 clx1 obx1 bex1 svx1;have yx2:=ex2;have Xx2:XcOk K x2:=Kh yx2 gax2 gtx2 clx2 obx2 bex2 svx2;have Ix2:XIn K mg x2 "triple" := RW iix2 Y6 (fun _ _ _ _ _ _ _ _=>rfl) yx2 dcx2 tix2 (Ba X G nx15) sax15 sbx15 scx15 ftx2 snx2
  have yx3:=LZ ex3;have Xx3:XcOk K x3:=Kh yx3 gax3 gtx3 clx3 obx3 bex3 svx3;have yx4:=LZ ex4;have Xx4:XcOk K x4:=Kh yx4 gax4 gtx4 clx4 obx4 bex4 svx4;have yx5:=ex5;have Xx5:XcOk K x5:=Kh yx5 gax5 gtx5 clx5 obx5 bex5 svx5;have Ix5:XIn K mg x5 "points" := RW iix5 Y5 (fun _ _ _ _ _ _ _ _=>rfl) yx5 dcx5 tix5 (Ba X G nx15) sax15 sbx15 scx15 fpx5 snx5
  have XT62:XT Q62.up Q62.xn (Cw x0 x1 x2 x3 x4 x5) Oe Oi K mg:=by
    refine⟨?_,all_cons ⟨_,rfl,Ba X G nx0⟩ (all_cons ⟨_,rfl,Ba X G nx1⟩ (all_cons ⟨_,rfl,Ba X G nx2⟩ (all_cons ⟨_,rfl,Ba X G nx3⟩ (all_cons ⟨_,rfl,Ba X G nx4⟩ (all_cons ⟨_,rfl,Ba X G nx5⟩ (K4)))))),all_cons ⟨_,Ba X G nx6,?kx6,?sx6⟩ (all_cons ⟨_,Ba X G nx0,?kx0,?sx0⟩ (all_cons ⟨_,Ba X G nx1,?kx1,?sx1⟩ (all_cons ⟨_,Ba X G nx7,?kx7,?sx7⟩ (all_cons ⟨_,Ba X G nx3,?kx3,?sx3⟩ (all_cons ⟨_,Ba X G nx8,?kx8,?sx8⟩ (all_cons ⟨_,Ba X G nx9,?kx9,?sx9⟩ (all_cons ⟨_,Ba X G nx10,?kx10,?sx10⟩ (all_cons ⟨_,Ba X G nx11,?kx11,?sx11⟩ (all_cons ⟨_,Ba X G nx12,?kx12,?sx12⟩ (all_cons ⟨_,Ba X G nx13,?kx13,?sx13⟩ (all_cons ⟨_,Ba X G nx14,?kx14,?sx14⟩ (all_cons ⟨_,Ba X G nx2,?kx2,?sx2⟩ (all_cons ⟨_,Ba X G nx5,?kx5,?sx5⟩ (all_cons ⟨_,Ba X G nx4,?kx4,?sx4⟩ (all_cons ⟨_,Ba X G nx15,?kx15,?sx15⟩ (K4)))))))))))))))),?_,?_,?_⟩
    case refine_1=>
      intro c C q;unfold Cw at q;split at q
      · cases q;exact Xx0
      · cases q;exact Xx1
      · cases q;exact Xx2
      · cases q;exact Xx3
      · cases q;exact Xx4
      · cases q;exact Xx5
      · cases q
    case refine_2=>
      intro c C ds q;unfold Cw at q;split at q
      · cases q;exact Mj (fun ds=>by show Hd 2 ds=.bad\/Hd 2 ds=.ok ⟨2,[]⟩;first|exact .inr rfl|exact .inl rfl) yx0 ds
      · cases q;exact Mj (fun ds=>by show Hd 3 ds=.bad\/Hd 3 ds=.ok ⟨3,[]⟩;first|exact .inr rfl|exact .inl rfl) yx1 ds
      · cases q;exact SG (fun _=>rfl) Ix2 ds
      · cases q;exact Mj (fun ds=>by show Hd 5 ds=.bad\/Hd 5 ds=.ok ⟨5,[]⟩;first|exact .inr rfl|exact .inl rfl) yx3 ds
      · cases q;exact Mj (fun ds=>by show Hd 13 ds=.bad\/Hd 13 ds=.ok ⟨13,[]⟩;first|exact .inr rfl|exact .inl rfl) yx4 ds
      · cases q;exact SG (fun _=>rfl) Ix5 ds
      · cases q
    case refine_3=>
      intro c C q;unfold Cw at q;split at q
      · cases q;exact Kk dcx0 ftx0 fpx0
      · cases q;exact Kk dcx1 ftx1 fpx1
      · cases q;exact Kk dcx2 ftx2 fpx2
      · cases q;exact Kk dcx3 ftx3 fpx3
      · cases q;exact Kk dcx4 ftx4 fpx4
      · cases q;exact Kk dcx5 ftx5 fpx5
      · cases q
    case refine_4=>
      intro c q ds;show Hd c ds=.bad;unfold Hd;split<;>first|rfl|exact absurd rfl (q ("NoOver", 2) (by decide))|exact absurd rfl (q ("NoTriple", 3) (by decide))|exact absurd rfl (q ("Alike", 107) (by decide))|exact absurd rfl (q ("NoCurve", 5) (by decide))|exact absurd rfl (q ("NoCount", 13) (by decide))|exact absurd rfl (q ("OnLine", 118) (by decide))
    case kx6=>
      intro c C q;unfold Cw at q;split at q
      · cases q;exact Bx yx0 csx6 tyx6 sux0x6
      · cases q;exact Bx yx1 csx6 tyx6 sux1x6
      · cases q;exact Bx yx2 csx6 tyx6 sux2x6
      · cases q;exact Bx yx3 csx6 tyx6 sux3x6
      · cases q;exact Bx yx4 csx6 tyx6 sux4x6
      · cases q;exact Bx yx5 csx6 tyx6 sux5x6
      · cases q
    case sx6=>
      intro c C q;unfold Cw at q;split at q
      · cases q;exact sux0x6
      · cases q;exact sux1x6
      · cases q;exact sux2x6
      · cases q;exact sux3x6
      · cases q;exact sux4x6
      · cases q;exact sux5x6
      · cases q
    case kx0=>
      intro c C q;unfold Cw at q;split at q
      · cases q;exact CA yx0 yx0 sux0x0
      · cases q;exact CA yx1 yx0 sux1x0
      · cases q;exact CA yx2 yx0 sux2x0
      · cases q;exact CA yx3 yx0 sux3x0
      · cases q;exact CA yx4 yx0 sux4x0
      · cases q;exact CA yx5 yx0 sux5x0
      · cases q
    case sx0=>
      intro c C q;unfold Cw at q;split at q
      · cases q;exact sux0x0
      · cases q;exact sux1x0
      · cases q;exact sux2x0
      · cases q;exact sux3x0
      · cases q;exact sux4x0
      · cases q;exact sux5x0
      · cases q
    case kx1=>
      intro c C q;unfold Cw at q;split at q
      · cases q;exact CA yx0 yx1 sux0x1
      · cases q;exact CA yx1 yx1 sux1x1
      · cases q;exact CA yx2 yx1 sux2x1
      · cases q;exact CA yx3 yx1 sux3x1
      · cases q;exact CA yx4 yx1 sux4x1
      · cases q;exact CA yx5 yx1 sux5x1
      · cases q
    case sx1=>
      intro c C q;unfold Cw at q;split at q
      · cases q;exact sux0x1
      · cases q;exact sux1x1
      · cases q;exact sux2x1
      · cases q;exact sux3x1
      · cases q;exact sux4x1
      · cases q;exact sux5x1
      · cases q
    case kx7=>
      intro c C q;unfold Cw at q;split at q
      · cases q;exact Bx yx0 csx7 tyx7 sux0x7
      · cases q;exact Bx yx1 csx7 tyx7 sux1x7
      · cases q;exact Bx yx2 csx7 tyx7 sux2x7
      · cases q;exact Bx yx3 csx7 tyx7 sux3x7
      · cases q;exact Bx yx4 csx7 tyx7 sux4x7
      · cases q;exact Bx yx5 csx7 tyx7 sux5x7
      · cases q
    case sx7=>
      intro c C q;unfold Cw at q;split at q
      · cases q;exact sux0x7
      · cases q;exact sux1x7
      · cases q;exact sux2x7
      · cases q;exact sux3x7
      · cases q;exact sux4x7
      · cases q;exact sux5x7
      · cases q
    case kx3=>
      intro c C q;unfold Cw at q;split at q
      · cases q;exact CA yx0 yx3 sux0x3
      · cases q;exact CA yx1 yx3 sux1x3
      · cases q;exact CA yx2 yx3 sux2x3
      · cases q;exact CA yx3 yx3 sux3x3
      · cases q;exact CA yx4 yx3 sux4x3
      · cases q;exact CA yx5 yx3 sux5x3
      · cases q
    case sx3=>
      intro c C q;unfold Cw at q;split at q
      · cases q;exact sux0x3
      · cases q;exact sux1x3
      · cases q;exact sux2x3
      · cases q;exact sux3x3
      · cases q;exact sux4x3
      · cases q;exact sux5x3
      · cases q
    case kx8=>
      intro c C q;unfold Cw at q;split at q
      · cases q;exact Bx yx0 csx8 tyx8 sux0x8
      · cases q;exact Bx yx1 csx8 tyx8 sux1x8
      · cases q;exact Bx yx2 csx8 tyx8 sux2x8
      · cases q;exact Bx yx3 csx8 tyx8 sux3x8
      · cases q;exact Bx yx4 csx8 tyx8 sux4x8
      · cases q;exact Bx yx5 csx8 tyx8 sux5x8
      · cases q
    case sx8=>
      intro c C q;unfold Cw at q;split at q
      · cases q;exact sux0x8
      · cases q;exact sux1x8
      · cases q;exact sux2x8
      · cases q;exact sux3x8
      · cases q;exact sux4x8
      · cases q;exact sux5x8
      · cases q
    case kx9=>
      intro c C q;unfold Cw at q;split at q
      · cases q;exact Bx yx0 csx9 tyx9 sux0x9
      · cases q;exact Bx yx1 csx9 tyx9 sux1x9
      · cases q;exact Bx yx2 csx9 tyx9 sux2x9
      · cases q;exact Bx yx3 csx9 tyx9 sux3x9
      · cases q;exact Bx yx4 csx9 tyx9 sux4x9
      · cases q;exact Bx yx5 csx9 tyx9 sux5x9
      · cases q
    case sx9=>
      intro c C q;unfold Cw at q;split at q
      · cases q;exact sux0x9
      · cases q;exact sux1x9
      · cases q;exact sux2x9
      · cases q;exact sux3x9
      · cases q;exact sux4x9
      · cases q;exact sux5x9
      · cases q
    case kx10=>
      intro c C q;unfold Cw at q;split at q
      · cases q;exact Bx yx0 csx10 tyx10 sux0x10
      · cases q;exact Bx yx1 csx10 tyx10 sux1x10
      · cases q;exact Bx yx2 csx10 tyx10 sux2x10
      · cases q;exact Bx yx3 csx10 tyx10 sux3x10
      · cases q;exact Bx yx4 csx10 tyx10 sux4x10
      · cases q;exact Bx yx5 csx10 tyx10 sux5x10
      · cases q
    case sx10=>
      intro c C q;unfold Cw at q;split at q
      · cases q;exact sux0x10
      · cases q;exact sux1x10
      · cases q;exact sux2x10
      · cases q;exact sux3x10
      · cases q;exact sux4x10
      · cases q;exact sux5x10
      · cases q
    case kx11=>
      intro c C q;unfold Cw at q;split at q
      · cases q;exact Bx yx0 csx11 tyx11 sux0x11
      · cases q;exact Bx yx1 csx11 tyx11 sux1x11
      · cases q;exact Bx yx2 csx11 tyx11 sux2x11
      · cases q;exact Bx yx3 csx11 tyx11 sux3x11
      · cases q;exact Bx yx4 csx11 tyx11 sux4x11
      · cases q;exact Bx yx5 csx11 tyx11 sux5x11
      · cases q
    case sx11=>
      intro c C q;unfold Cw at q;split at q
      · cases q;exact sux0x11
      · cases q;exact sux1x11
      · cases q;exact sux2x11
      · cases q;exact sux3x11
      · cases q;exact sux4x11
      · cases q;exact sux5x11
      · cases q
    case kx12=>
      intro c C q;unfold Cw at q;split at q
      · cases q;exact Bx yx0 csx12 tyx12 sux0x12
      · cases q;exact Bx yx1 csx12 tyx12 sux1x12
      · cases q;exact Bx yx2 csx12 tyx12 sux2x12
      · cases q;exact Bx yx3 csx12 tyx12 sux3x12
      · cases q;exact Bx yx4 csx12 tyx12 sux4x12
      · cases q;exact Bx yx5 csx12 tyx12 sux5x12
      · cases q
    case sx12=>
      intro c C q;unfold Cw at q;split at q
      · cases q;exact sux0x12
      · cases q;exact sux1x12
      · cases q;exact sux2x12
      · cases q;exact sux3x12
      · cases q;exact sux4x12
      · cases q;exact sux5x12
      · cases q
    case kx13=>
      intro c C q;unfold Cw at q;split at q
      · cases q;exact Bx yx0 csx13 tyx13 sux0x13
      · cases q;exact Bx yx1 csx13 tyx13 sux1x13
      · cases q;exact Bx yx2 csx13 tyx13 sux2x13
      · cases q;exact Bx yx3 csx13 tyx13 sux3x13
      · cases q;exact Bx yx4 csx13 tyx13 sux4x13
      · cases q;exact Bx yx5 csx13 tyx13 sux5x13
      · cases q
    case sx13=>
      intro c C q;unfold Cw at q;split at q
      · cases q;exact sux0x13
      · cases q;exact sux1x13
      · cases q;exact sux2x13
      · cases q;exact sux3x13
      · cases q;exact sux4x13
      · cases q;exact sux5x13
      · cases q
    case kx14=>
      intro c C q;unfold Cw at q;split at q
      · cases q;exact Bx yx0 csx14 tyx14 sux0x14
      · cases q;exact Bx yx1 csx14 tyx14 sux1x14
      · cases q;exact Bx yx2 csx14 tyx14 sux2x14
      · cases q;exact Bx yx3 csx14 tyx14 sux3x14
      · cases q;exact Bx yx4 csx14 tyx14 sux4x14
      · cases q;exact Bx yx5 csx14 tyx14 sux5x14
      · cases q
    case sx14=>
      intro c C q;unfold Cw at q;split at q
      · cases q;exact sux0x14
      · cases q;exact sux1x14
      · cases q;exact sux2x14
      · cases q;exact sux3x14
      · cases q;exact sux4x14
      · cases q;exact sux5x14
      · cases q
    case kx2=>
      intro c C q;unfold Cw at q;split at q
      · cases q;exact CA yx0 yx2 sux0x2
      · cases q;exact CA yx1 yx2 sux1x2
      · cases q;exact CA yx2 yx2 sux2x2
      · cases q;exact CA yx3 yx2 sux3x2
      · cases q;exact CA yx4 yx2 sux4x2
      · cases q;exact CA yx5 yx2 sux5x2
      · cases q
    case sx2=>
      intro c C q;unfold Cw at q;split at q
      · cases q;exact sux0x2
      · cases q;exact sux1x2
      · cases q;exact sux2x2
      · cases q;exact sux3x2
      · cases q;exact sux4x2
      · cases q;exact sux5x2
      · cases q
    case kx5=>
      intro c C q;unfold Cw at q;split at q
      · cases q;exact CA yx0 yx5 sux0x5
      · cases q;exact CA yx1 yx5 sux1x5
      · cases q;exact CA yx2 yx5 sux2x5
      · cases q;exact CA yx3 yx5 sux3x5
      · cases q;exact CA yx4 yx5 sux4x5
      · cases q;exact CA yx5 yx5 sux5x5
      · cases q
    case sx5=>
      intro c C q;unfold Cw at q;split at q
      · cases q;exact sux0x5
      · cases q;exact sux1x5
      · cases q;exact sux2x5
      · cases q;exact sux3x5
      · cases q;exact sux4x5
      · cases q;exact sux5x5
      · cases q
    case kx4=>
      intro c C q;unfold Cw at q;split at q
      · cases q;exact CA yx0 yx4 sux0x4
      · cases q;exact CA yx1 yx4 sux1x4
      · cases q;exact CA yx2 yx4 sux2x4
      · cases q;exact CA yx3 yx4 sux3x4
      · cases q;exact CA yx4 yx4 sux4x4
      · cases q;exact CA yx5 yx4 sux5x4
      · cases q
    case sx4=>
      intro c C q;unfold Cw at q;split at q
      · cases q;exact sux0x4
      · cases q;exact sux1x4
      · cases q;exact sux2x4
      · cases q;exact sux3x4
      · cases q;exact sux4x4
      · cases q;exact sux5x4
      · cases q
    case kx15=>
      intro c C q;unfold Cw at q;split at q
      · cases q;exact Bx yx0 csx15 tyx15 sux0x15
      · cases q;exact Bx yx1 csx15 tyx15 sux1x15
      · cases q;exact Bx yx2 csx15 tyx15 sux2x15
      · cases q;exact Bx yx3 csx15 tyx15 sux3x15
      · cases q;exact Bx yx4 csx15 tyx15 sux4x15
      · cases q;exact Bx yx5 csx15 tyx15 sux5x15
      · cases q
    case sx15=>
      intro c C q;unfold Cw at q;split at q
      · cases q;exact sux0x15
      · cases q;exact sux1x15
      · cases q;exact sux2x15
      · cases q;exact sux3x15
      · cases q;exact sux4x15
      · cases q;exact sux5x15
      · cases q
  have T:Tab K mg (Cw x0 x1 x2 x3 x4 x5) S3 TX Oe Oi SV Q62 80:=⟨XT62,all_cons (Bv X G z0) (all_cons (Bv X G z1) (all_cons (Bv X G z2) (all_cons (Bv X G z3) (all_cons (Bv X G z4) (all_cons (Bv X G z5) (all_cons (Bv X G z6) (all_cons (Bv X G z7) (all_cons (Bv X G z8) (all_cons (Bv X G z9) (all_cons (Bv X G z10) (all_cons (Bv X G z11) (all_cons (Bv X G z12) (all_cons (Bv X G z13) (K4)))))))))))))),K4,all_cons (EQ 2 1 X G a0 rfl eX fun _ _ _ _ _ _ _ _=>rfl) (all_cons (EQ 2 9 X G a1 rfl eW fun _ _ _ _ _ _ _ _=>rfl) (all_cons (EQ 2 17 X G a2 rfl eV fun _ _ _ _ _ _ _ _=>rfl) (all_cons (EQ 2 23 X G a3 rfl eU fun _ _ _ _ _ _ _ _=>rfl) (all_cons (Mr 3 57 X G a4 rfl eT fun _ _ _ _ _ _ _ _ _=>rfl) (all_cons (Th 4 61 X G a5 rfl eS fun _ _ _ _ _ _ _ _ _ _=>rfl) (all_cons (Lm 1 194 X G a6 rfl eR fun _ _ _ _ _ _ _=>rfl) (all_cons (EQ 2 122 X G a7 rfl eQ fun _ _ _ _ _ _ _ _=>rfl) (all_cons (Mr 3 126 X G a8 rfl eP fun _ _ _ _ _ _ _ _ _=>rfl) (all_cons (EQ 2 131 X G a9 rfl eO fun _ _ _ _ _ _ _ _=>rfl) (all_cons (EQ 2 136 X G a10 rfl ZE fun _ _ _ _ _ _ _ _=>rfl) (all_cons (EQ 2 195 X G a11 rfl ZD fun _ _ _ _ _ _ _ _=>rfl) (all_cons (EQ 2 196 X G a12 rfl ZC fun _ _ _ _ _ _ _ _=>rfl) (all_cons (EQ 2 197 X G a13 rfl ZB fun _ _ _ _ _ _ _ _=>rfl) (all_cons (EQ 2 198 X G a14 rfl ZA fun _ _ _ _ _ _ _ _=>rfl) (all_cons (EQ 2 38 X G a15 rfl Zz fun _ _ _ _ _ _ _ _=>rfl) (all_cons (Lm 1 169 X G a16 rfl Zy fun _ _ _ _ _ _ _=>rfl) (all_cons (EQ 2 157 X G a17 rfl Zx fun _ _ _ _ _ _ _ _=>rfl) (all_cons (EQ 2 161 X G a18 rfl Z7 fun _ _ _ _ _ _ _ _=>rfl) (all_cons (Mr 3 162 X G a19 rfl Z6 fun _ _ _ _ _ _ _ _ _=>rfl) (all_cons (Lm 1 164 X G a20 rfl Z5 fun _ _ _ _ _ _ _=>rfl) (all_cons (Th 4 165 X G a21 rfl Z4 fun _ _ _ _ _ _ _ _ _ _=>rfl) (all_cons (Mr 3 173 X G a22 rfl Z2 fun _ _ _ _ _ _ _ _ _=>rfl) (all_cons (EQ 2 203 X G a23 rfl Z1 fun _ _ _ _ _ _ _ _=>rfl) (all_cons (Lm 1001 204 X G a24 rfl Z0 fun _ _ _ _ _ _ _=>rfl) (all_cons (EQ 2 205 X G a25 rfl ZZ fun _ _ _ _ _ _ _ _=>rfl) (all_cons (EQ 2 206 X G a26 rfl ZY fun _ _ _ _ _ _ _ _=>rfl) (all_cons (EQ 2 207 X G a27 rfl ZX fun _ _ _ _ _ _ _ _=>rfl) (all_cons (Lm 1 208 X G ⟨_,F,e⟩ rfl Ri fun _ _ _ _ _ _ _=>rfl) (K4)))))))))))))))))))))))))))))⟩
  exact⟨_,fun s v=>.of_eq rfl,fun base _ _=>YY (Ro T (NV T 7) F rfl Ri) jM⟩
theorem walk62{q:AS}{loose:Ad Ah}{XP:(Ah->An Ai)->AD->Prop}{YP:AC->AD->Prop}{d:DefRec}{K:KB->Fg}(hn:l.most=Aa 63)(hdf:d.params.defaults=[])(hY:∀(w:AC)(h:AD),YP w h->(K w.params).In h)(F:∀(w:AC)(mg:Ah->An Ai)(fa:Aj)(h:AD),(K w.params).In h->h.Ns AM mg->mg d.name=Aa (.ref fa) ->
   ∃ fd:BP,(∀(s:As)(u:Ai),FT s fd ⟨[u],[]⟩ [("_law_script", u)])/\∀ base:AD,(K w.params).In base->base.Ns AM mg->FnOk l.prog w (K w.params) mg base (CXR l.prog w) 8 fa fd ["_law_script"] (Li (K w.params))):Vn q loose XP YP l.row.toRowW d [] (fun f vs=>JG f vs):=
 L2.walk_of (n:=63) (k:=8) (x := "_law_script") (CX:=fun w=>CXR l.prog w) (sp:=fun w=>Li (K w.params)) hn (by decide) hdf ⟨rfl,by decide,by decide,rfl⟩ hY F (fun _ H a ns hl _ hS=>⟨a,ns,rfl,hl,hS,fun _ _ z=>z⟩) fun _ _ _ _ _ z=>fT z
end OvC
open PySem PySem.W PyProof.Rows
noncomputable def OvC.view62:PySem.Program:={ PySem.Challenge.pw_ovalfield_k62_whole_any_five_points with main:={PySem.Challenge.pw_ovalfield_k62_whole_any_five_points.main with body:=[OvC.tp62 1,OvC.tp62 2,OvC.tp62 3,OvC.tp62 4,OvC.tp62 5,OvC.tp62 6,OvC.tp62 7,OvC.tp62 8,OvC.tp62 9,OvC.tp62 10,OvC.tp62 11,OvC.tp62 12,OvC.tp62 13,OvC.tp62 14,OvC.tp62 15,OvC.tp62 16,OvC.tp62 18,OvC.tp62 19,OvC.tp62 21,OvC.tp62 22,OvC.tp62 24,OvC.tp62 25,OvC.tp62 26,OvC.tp62 28,OvC.tp62 29,OvC.tp62 30,OvC.tp62 31,OvC.tp62 33,OvC.tp62 34,OvC.tp62 35,OvC.tp62 36,OvC.tp62 38,OvC.tp62 39,OvC.tp62 40,OvC.tp62 41,OvC.tp62 42,OvC.tp62 43,OvC.tp62 44,OvC.tp62 45,OvC.tp62 46,OvC.tp62 47,OvC.tp62 48,OvC.tp62 49,OvC.tp62 50,OvC.tp62 51]} }
set_option hygiene false
local macro_rules | `(tactic| o_head $H)=>`(tactic| refine holds_open (q:=OvC.view62) (loose:=[]) (Xt:=fun s=>xlAt OvC.view62 [] s&&recOk (RowW.records (OpenRow.toRowW (PySem.Challenge.rw_ovalfield_k62_whole_any_five_points.row))) s) (XP:=XL OvC.view62 []) (Yf:=Hook.obs $H) (Ya:=Hook.val $H) (YP:=Hook.says $H) (N:=8998) ?hl (Hook.of $H) (Hook.keeps $H) (fun s e=>xl_of s (Bool.and_eq_true_iff.mp e).1) XL.keeps (by rfl) (by rfl) (by rfl) (fun s e=>recFacts_of (Bool.and_eq_true_iff.mp e).2) (by rfl) (by first|assumption|decide +kernel) (by decide +kernel) ⟨rfl,rfl,rfl,rfl,rfl,by decide +kernel⟩ ?hw ?hc)
set_option maxRecDepth 100000 in
set_option maxHeartbeats 0 in
noncomputable def OvC.hold62:OvC.Eleven PySem.Challenge.rw_ovalfield_k62_whole_any_five_points.Holds:=by
 refine' ⟨_,_,_,_,_,_,_,_,_,_,_,_,_,_,_,_,_,_,_,_,_,_,_,_,_,_,_,_,_,_,_,_,_,fun g1 g2 g3 g4 g5 g6 g7 g8 g9 g10 g11=>_⟩
 rotate_right
 w_on;refine holds_law (by decide +kernel) fun said=>?_;k_head
 (case hl=>intro w;refine OvC.map_pair ?p1 (OvC.map_take 100 ?p2 ?p3);(case p1=>rw[PySem.W.Fast.te4187177175401517315];unfold PySem.W.Fast.tw4187177175401517315 openGood;refine OvC.map_pair ?q1 (OvC.map_pair ?q2 (OvC.map_pair ?q3 (OvC.map_pair ?q4 (OvC.map_pair ?q5 (OvC.map_pair ?q6 (OvC.map_pair ?q7 (OvC.map_pair ?q8 ?q9)))))));(case q1=>unfold D7 CJ EI;rw[A3,A6,A8,A5,A4];exact g1 w);(case q2=>unfold D7 CJ EI;rw[A3,A6,A8,A5,A4];exact g2 w);(case q3=>unfold D7 CJ EI;rw[A3,A6,A8,A5,A4];exact g3 w);(case q4=>unfold D7 CJ EI;rw[A3,A6,A8,A5,A4];exact g4 w);(case q5=>unfold D7 CJ EI;rw[A3,A6,A8,A5,A4];exact g5 w);(case q6=>unfold D7 CJ EI;rw[A3,A6,A8,A5,A4];exact g6 w);(case q7=>unfold D7 CJ EI;rw[A3,A6,A8,A5,A4];exact g7 w);(case q8=>unfold D7 CJ EI;rw[A3,A6,A8,A5,A4];exact g8 w);(case q9=>unfold D7 CJ EI;rw[A3,A6,A8,A5,A4];exact g9 w);skip);(case p2=>unfold D7 CJ EI;rw[A3,A6,A8,A5,A4];exact g10 w);(case p3=>unfold D7 CJ EI;rw[A3,A6,A8,A5,A4];exact g11 w))
 (case hw=>w_witness2)
 k_fill
 refine OvC.walk62 (l:=PySem.Challenge.rw_ovalfield_k62_whole_any_five_points) rfl rfl (fun w h Y=>Vp Y) ?F
 case F=>
  intro w mg fa h KX G hmg
  refine' OvC.all62 KX G hmg ?a0 ?a1 ?a2 ?a3 ?a4 ?a5 ?a6 ?a7 ?a8 ?a9 ?a10 ?a11 ?a12 ?a13 ?a14 ?a15 ?a16 ?a17 ?a18 ?a19 ?a20 ?a21 ?a22 ?a23 ?a24 ?a25 ?a26 ?a27 ?a28 ?nx0 ?dcx0 ?ftx0 ?fpx0 ?ex0 ?gax0 ?gtx0 ?clx0 ?obx0 ?bex0 ?svx0 ?nx1 ?dcx1 ?ftx1 ?fpx1 ?ex1 ?gax1 ?gtx1 ?clx1 ?obx1 ?bex1 ?svx1 ?nx2 ?dcx2 ?ftx2 ?fpx2 ?fix2 ?iix2 ?tix2 ?ex2 ?snx2 ?gax2 ?gtx2 ?clx2 ?obx2 ?bex2 ?svx2 ?nx3 ?dcx3 ?ftx3 ?fpx3 ?ex3 ?gax3 ?gtx3 ?clx3 ?obx3 ?bex3 ?svx3 ?nx4 ?dcx4 ?ftx4 ?fpx4 ?ex4 ?gax4 ?gtx4 ?clx4 ?obx4 ?bex4 ?svx4 ?nx5 ?dcx5 ?ftx5 ?fpx5 ?fix5 ?iix5 ?tix5 ?ex5 ?snx5 ?gax5 ?gtx5 ?clx5 ?obx5 ?bex5 ?svx5 ?nx6 ?csx6 ?tyx6 ?nx7 ?csx7 ?tyx7 ?nx8 ?csx8 ?tyx8 ?nx9 ?csx9 ?tyx9 ?nx10 ?csx10 ?tyx10 ?nx11 ?csx11 ?tyx11 ?nx12 ?csx12 ?tyx12 ?nx13 ?csx13 ?tyx13 ?nx14 ?csx14 ?tyx14 ?nx15 ?sax15 ?sbx15 ?scx15 ?csx15 ?tyx15 ?sux0x6 ?sux0x0 ?sux0x1 ?sux0x7 ?sux0x3 ?sux0x8 ?sux0x9 ?sux0x10 ?sux0x11 ?sux0x12 ?sux0x13 ?sux0x14 ?sux0x2 ?sux0x5 ?sux0x4 ?sux0x15 ?sux1x6 ?sux1x0 ?sux1x1 ?sux1x7 ?sux1x3 ?sux1x8 ?sux1x9 ?sux1x10 ?sux1x11 ?sux1x12 ?sux1x13 ?sux1x14 ?sux1x2 ?sux1x5 ?sux1x4 ?sux1x15 ?sux2x6 ?sux2x0 ?sux2x1 ?sux2x7 ?sux2x3 ?sux2x8 ?sux2x9 ?sux2x10 ?sux2x11 ?sux2x12 ?sux2x13 ?sux2x14 ?sux2x2 ?sux2x5 ?sux2x4 ?sux2x15 ?sux3x6 ?sux3x0 ?sux3x1 ?sux3x7 ?sux3x3 ?sux3x8 ?sux3x9 ?sux3x10 ?sux3x11 ?sux3x12 ?sux3x13 ?sux3x14 ?sux3x2 ?sux3x5 ?sux3x4 ?sux3x15 ?sux4x6 ?sux4x0 ?sux4x1 ?sux4x7 ?sux4x3 ?sux4x8 ?sux4x9 ?sux4x10 ?sux4x11 ?sux4x12 ?sux4x13 ?sux4x14 ?sux4x2 ?sux4x5 ?sux4x4 ?sux4x15 ?sux5x6 ?sux5x0 ?sux5x1 ?sux5x7 ?sux5x3 ?sux5x8 ?sux5x9 ?sux5x10 ?sux5x11 ?sux5x12 ?sux5x13 ?sux5x14 ?sux5x2 ?sux5x5 ?sux5x4 ?sux5x15 ?z0 ?z1 ?z2 ?z3 ?z4 ?z5 ?z6 ?z7 ?z8 ?z9 ?z10 ?z11 ?z12 ?z13
  case a0|a1|a2|a3|a4|a5|a6|a7|a8|a9|a10|a11|a12|a13|a14|a15|a16|a17|a18|a19|a20|a21|a22|a23|a24|a25|a26|a27|a28=>(refine' Ov.fni ?a ?l ?c ?k;(case a=>k_is);(case l=>k_is);(case c=>k_is);(case k=>k_is))
  (case nx0=>k_is)
  (case dcx0=>kernel_rfl)
  (case ftx0=>k_is)
  (case fpx0=>k_is)
  (case ex0=>k_exc)
  (case gax0=>k_is)
  (case gtx0=>k_is)
  (case clx0=>k_is)
  (case obx0=>k_is)
  (case bex0=>k_is)
  (case svx0=>k_is)
  (case nx1=>k_is)
  (case dcx1=>kernel_rfl)
  (case ftx1=>k_is)
  (case fpx1=>k_is)
  (case ex1=>k_exc)
  (case gax1=>k_is)
  (case gtx1=>k_is)
  (case clx1=>k_is)
  (case obx1=>k_is)
  (case bex1=>k_is)
  (case svx1=>k_is)
  (case nx2=>k_is)
  (case dcx2=>kernel_rfl)
  (case ftx2=>k_is)
  (case fpx2=>k_is)
  (case fix2=>k_is)
  (case iix2=>(refine' Ov.ini_mk ?l ?c ?k;(case l=>k_is);(case c=>k_is);(case k=>k_is)))
  (case tix2=>k_is)
  (case ex2=>kernel_rfl)
  (case snx2=>k_is)
  (case gax2=>k_is)
  (case gtx2=>k_is)
  (case clx2=>k_is)
  (case obx2=>k_is)
  (case bex2=>k_is)
  (case svx2=>k_is)
  (case nx3=>k_is)
  (case dcx3=>kernel_rfl)
  (case ftx3=>k_is)
  (case fpx3=>k_is)
  (case ex3=>k_exc)
  (case gax3=>k_is)
  (case gtx3=>k_is)
  (case clx3=>k_is)
  (case obx3=>k_is)
  (case bex3=>k_is)
  (case svx3=>k_is)
  (case nx4=>k_is)
  (case dcx4=>kernel_rfl)
  (case ftx4=>k_is)
  (case fpx4=>k_is)
  (case ex4=>k_exc)
  (case gax4=>k_is)
  (case gtx4=>k_is)
  (case clx4=>k_is)
  (case obx4=>k_is)
  (case bex4=>k_is)
  (case svx4=>k_is)
  (case nx5=>k_is)
  (case dcx5=>kernel_rfl)
  (case ftx5=>k_is)
  (case fpx5=>k_is)
  (case fix5=>k_is)
  (case iix5=>(refine' Ov.ini_mk ?l ?c ?k;(case l=>k_is);(case c=>k_is);(case k=>k_is)))
  (case tix5=>k_is)
  (case ex5=>kernel_rfl)
  (case snx5=>k_is)
  (case gax5=>k_is)
  (case gtx5=>k_is)
  (case clx5=>k_is)
  (case obx5=>k_is)
  (case bex5=>k_is)
  (case svx5=>k_is)
  (case nx6=>k_is)
  (case csx6=>k_is)
  (case tyx6=>k_is)
  (case nx7=>k_is)
  (case csx7=>k_is)
  (case tyx7=>k_is)
  (case nx8=>k_is)
  (case csx8=>k_is)
  (case tyx8=>k_is)
  (case nx9=>k_is)
  (case csx9=>k_is)
  (case tyx9=>k_is)
  (case nx10=>k_is)
  (case csx10=>k_is)
  (case tyx10=>k_is)
  (case nx11=>k_is)
  (case csx11=>k_is)
  (case tyx11=>k_is)
  (case nx12=>k_is)
  (case csx12=>k_is)
  (case tyx12=>k_is)
  (case nx13=>k_is)
  (case csx13=>k_is)
  (case tyx13=>k_is)
  (case nx14=>k_is)
  (case csx14=>k_is)
  (case tyx14=>k_is)
  (case nx15=>k_is)
  (case sax15=>k_is)
  (case sbx15=>k_is)
  (case scx15=>k_is)
  (case csx15=>k_is)
  (case tyx15=>k_is)
  (case sux0x6=>k_is)
  (case sux0x0=>k_is)
  (case sux0x1=>k_is)
  (case sux0x7=>k_is)
  (case sux0x3=>k_is)
  (case sux0x8=>k_is)
  (case sux0x9=>k_is)
  (case sux0x10=>k_is)
  (case sux0x11=>k_is)
  (case sux0x12=>k_is)
  (case sux0x13=>k_is)
  (case sux0x14=>k_is)
  (case sux0x2=>k_is)
  (case sux0x5=>k_is)
  (case sux0x4=>k_is)
  (case sux0x15=>k_is)
  (case sux1x6=>k_is)
  (case sux1x0=>k_is)
  (case sux1x1=>k_is)
  (case sux1x7=>k_is)
  (case sux1x3=>k_is)
  (case sux1x8=>k_is)
  (case sux1x9=>k_is)
  (case sux1x10=>k_is)
  (case sux1x11=>k_is)
  (case sux1x12=>k_is)
  (case sux1x13=>k_is)
  (case sux1x14=>k_is)
  (case sux1x2=>k_is)
  (case sux1x5=>k_is)
  (case sux1x4=>k_is)
  (case sux1x15=>k_is)
  (case sux2x6=>k_is)
  (case sux2x0=>k_is)
  (case sux2x1=>k_is)
  (case sux2x7=>k_is)
  (case sux2x3=>k_is)
  (case sux2x8=>k_is)
  (case sux2x9=>k_is)
  (case sux2x10=>k_is)
  (case sux2x11=>k_is)
  (case sux2x12=>k_is)
  (case sux2x13=>k_is)
  (case sux2x14=>k_is)
  (case sux2x2=>k_is)
  (case sux2x5=>k_is)
  (case sux2x4=>k_is)
  (case sux2x15=>k_is)
  (case sux3x6=>k_is)
  (case sux3x0=>k_is)
  (case sux3x1=>k_is)
  (case sux3x7=>k_is)
  (case sux3x3=>k_is)
  (case sux3x8=>k_is)
  (case sux3x9=>k_is)
  (case sux3x10=>k_is)
  (case sux3x11=>k_is)
  (case sux3x12=>k_is)
  (case sux3x13=>k_is)
  (case sux3x14=>k_is)
  (case sux3x2=>k_is)
  (case sux3x5=>k_is)
  (case sux3x4=>k_is)
  (case sux3x15=>k_is)
  (case sux4x6=>k_is)
  (case sux4x0=>k_is)
  (case sux4x1=>k_is)
  (case sux4x7=>k_is)
  (case sux4x3=>k_is)
  (case sux4x8=>k_is)
  (case sux4x9=>k_is)
  (case sux4x10=>k_is)
  (case sux4x11=>k_is)
  (case sux4x12=>k_is)
  (case sux4x13=>k_is)
  (case sux4x14=>k_is)
  (case sux4x2=>k_is)
  (case sux4x5=>k_is)
  (case sux4x4=>k_is)
  (case sux4x15=>k_is)
  (case sux5x6=>k_is)
  (case sux5x0=>k_is)
  (case sux5x1=>k_is)
  (case sux5x7=>k_is)
  (case sux5x3=>k_is)
  (case sux5x8=>k_is)
  (case sux5x9=>k_is)
  (case sux5x10=>k_is)
  (case sux5x11=>k_is)
  (case sux5x12=>k_is)
  (case sux5x13=>k_is)
  (case sux5x14=>k_is)
  (case sux5x2=>k_is)
  (case sux5x5=>k_is)
  (case sux5x4=>k_is)
  (case sux5x15=>k_is)
  (case z0=>k_is)
  (case z1=>k_is)
  (case z2=>k_is)
  (case z3=>k_is)
  (case z4=>k_is)
  (case z5=>k_is)
  (case z6=>k_is)
  (case z7=>k_is)
  (case z8=>k_is)
  (case z9=>k_is)
  (case z10=>k_is)
  (case z11=>k_is)
  (case z12=>k_is)
  (case z13=>k_is)
theorem OvC.reck62_1(w:AC):OvC.hold62.l1 w=OvC.hold62.r1 w:=by kernel_rfl
theorem OvC.reck62_2(w:AC):OvC.hold62.l2 w=OvC.hold62.r2 w:=by kernel_rfl
theorem OvC.reck62_3(w:AC):OvC.hold62.l3 w=OvC.hold62.r3 w:=by kernel_rfl
theorem OvC.reck62_4(w:AC):OvC.hold62.l4 w=OvC.hold62.r4 w:=by kernel_rfl
theorem OvC.reck62_5(w:AC):OvC.hold62.l5 w=OvC.hold62.r5 w:=by kernel_rfl
theorem OvC.reck62_6(w:AC):OvC.hold62.l6 w=OvC.hold62.r6 w:=by kernel_rfl
theorem OvC.reck62_7(w:AC):OvC.hold62.l7 w=OvC.hold62.r7 w:=by kernel_rfl
theorem OvC.reck62_8(w:AC):OvC.hold62.l8 w=OvC.hold62.r8 w:=by kernel_rfl
theorem OvC.reck62_9(w:AC):OvC.hold62.l9 w=OvC.hold62.r9 w:=by kernel_rfl
theorem OvC.reck62_10(w:AC):OvC.hold62.l10 w=OvC.hold62.r10 w:=by kernel_rfl
theorem OvC.reck62_11(w:AC):OvC.hold62.l11 w=OvC.hold62.r11 w:=by kernel_rfl
theorem PySem.Challenge.cw_ovalfield_k62_whole_any_five_points_holds : PySem.Challenge.rw_ovalfield_k62_whole_any_five_points.Holds := by
 exact OvC.hold62.go OvC.reck62_1 OvC.reck62_2 OvC.reck62_3 OvC.reck62_4 OvC.reck62_5 OvC.reck62_6 OvC.reck62_7 OvC.reck62_8 OvC.reck62_9 OvC.reck62_10 OvC.reck62_11
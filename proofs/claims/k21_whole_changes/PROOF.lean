import PyProof.Rows.All
import Wide.All
import OpenK.AllK
import Wide.FinOn
import PyProof.EqAt
import PyProof.EqKinds
import PyProof.TupleCall
import Open.Tree
import Wide.Once
import KE.KLam
import KE.KNestM
import KE.KSortTup
import PyProof.Rows.SetFrom
import PySem.Syntax
import PySem.Builtin.Str.Common
import PyProof.SliceList
import PyProof.NeData
import PyProof.ZipIter
import KE.KRevIter
import KE.KItemsList
import PyProof.ListRange
import PyProof.CompFree
import PyProof.PlainList
import Lean
import PySem.Challenge.RW_backtape_k21_whole_changes
set_option autoImplicit false
set_option Elab.async false
set_option linter.all false
set_option maxRecDepth 100000
set_option maxHeartbeats 8000000
set_option genSizeOf false
noncomputable section
open PySem.W renaming Frag->O0,nsIn->P1,tabIn->P9,findIn->Qa,emptyDict->Ql,keepIn->Qp,fnOf->QI,instObj->QO,mg_of->Q7,tabObj->Rk,kia_one->Ro,callWith_K->Rp,methodCall_KW->RI,plainGet->RP,envX->Sh,kitOne->Sk,hasDictIn->Sn,codeHdIn->SA,kla_obj->SH,lookIn->SQ,codeIn->SR,plainGet_of->SZ,callWith_K0->S6,plainOver->TF,methodObj->TH,isFn->TN,takerIn->T5,makesIn->T6,absHeap->Ux,SharedT->Uy,recOk->Uz,cellsFrom_some->UI,xlAt->UP,codeHd_of_K->U9,openSeen->Vu,ksm_same->Vv,handedIn->Vw
open PySem renaming Expr->O1,Value->O3,Shared->O4,Program->Pi,mainGlobals->Po,Scope->Pu,model->Pw,wpAny_newObj_type->PJ,World->PK,starEach->PL,sliceBounds->PN,compareOp->P7,Stmt->Qf,wpAny_holding->Qh,Around->Qi,wpAny_truthy_bool->Qv,mem_of_lookup->QE,binaryOp->QH,FuncData->QN,wpAny_Call_Name_kw->QU,wpAny_setState_of->QZ,wpAny_callSpecial?_slot->Q4,rawInt->Q6,Arguments->Q8,builtinsNs->Q9,backTo->Rg,wpAny_passesOwn->Rl,NameKind->Rm,wpAny_setField->Ru,wpAny_call_entry->Rv,sysModules->RE,wpAny_loadPart'->RN,keywordEach->RX,fits_of_scanBound->RY,call_meets->RZ,Expr->R6,Operator->Sa,wpAny_typeOf->Sd,scanBound->Se,wpAny_isInstance->Sj,swapsWith->Ss,pickOrder->Su,codeAmong->Sv,bootBuiltins->SD,wpAny_call->SM,attributeBase->SY,wpAny_updateSeq->Tq,wpAny_ite_split->Tt,wpAny_execs_nil->Tu,letOwnedTupleGo->Tv,importedModules->Tw,sliceRange->TJ,backToKw->TL,assignEach->TM,wpAny_setEntries_of->T3,sizeLine_eq->T4,Keyword->T8,storeSet->Uc,pyNext->Ud,getMethod->Ug,behindInMarks->Uh,DictEntry->Um,wpAny_rule->Uu,spliced->Uv,getItem->Uw,Stmt->UH,IsPart->UL,wpAny_eqBool_int->UN,noFill_tuple_add->UO,bindArgs->UW,assign->U5,Result->U7,Within->U8,Fin->Va,wpAny_binaryOp_repeat_ref->Vl,setAddHashedIn->Vm,evalArgs_none->Vn,wpAny_getItem_list_slice->Vt,wpAny_standAt->VB,wpAny_Call_method0_late->VC,seq_tuple_add->VE,newList->VF,evalPart_none->VG,compEnvC->VH,callerA->VI,call->VM,Builtin->VU
open PySem.Heap renaming get?_push_of_some->O2,lt_size->O7,get?_push_size->Pc,get?_update_self->PY,SameBut->Qg,get?_update_other->Qo,size_push->QC,ExtBut->Ur
open Bool renaming and_eq_true->O5,false_ne_true->PX,or_eq_true->Rf,not_eq_true'->RM,or_false->TQ,not_true->TR,not_false->UM,false_eq_true->VV
open List renaming size_toArray->O6,getElem?_eq_getElem->O9,length_map->Pa,mem_cons_of_mem->Pb,getElem?_append_left->Pd,map_cons->Pe,mem_cons_self->Pf,mem_of_getElem?->Ph,getElem?_eq_none->Pj,length_cons->Pk,range->Pr,replicate->Pv,getElem?_map->Px,length_append->PB,filterMap_cons->PF,getElem?_append_right->PM,getD_eq_getElem?_getD->PP,mem_append_right->PR,getElem?_set_ne->PV,append_nil->P4,length_nil->P8,lookup_cons->Qj,getElem?_set_self->Qn,append_assoc->Qt,all_eq_true->Qx,getElem?_of_mem->Qz,map_map->QB,length_range->QD,replicate_succ->QG,singleton_append->QM,map_congr_left->QY,not_mem_nil->Q0,map_nil->Rc,mem_cons->Rh,flatten_cons->Rj,lookup->Rn,getElem?_take_of_lt->Rq,sum_cons->Rx,nil_append->Ry,map_append->Rz,getElem?_replicate->RB,find?_cons->RC,range_succ_eq_map->RJ,length_replicate->RT,mem_append_left->R0,any_cons->Sb,getElem?_range->Si,nodup_nil->Sq,length->SE,head_eq_of_cons_eq->SG,getElem_mem->SI,reverse_singleton->SK,find?_cons_of_neg->SL,set_append_right->SS,of_mem_zip->SV,length_singleton->SW,drop_zero->Tg,length_take->Ua,eq_nil_of_length_eq_zero->Ub,dropLast_concat_getLast->Uk,nodup_cons->Up,mem_append->Uq,length_eraseIdx_of_lt->UE,getElem?_eq_none_iff->UJ,drop_eq_getElem_cons->UK,length_filterMap_le->US,length_erase_of_mem->UT,foldl->UU,all_cons->UX,take_of_length_le->Vb,pairwise_lt_range->Vc,length_pos_of_mem->Vd,filterMap_eq_map'->Ve,set_set->Vi,length_filter_le->Vj,mem_erase_of_ne->Vp,length_dropLast->Vq,range'->Vy,mem_map_of_mem->Vz,drop_succ_cons->VA,zip_cons_cons->VQ,mem_singleton->VR,map_filterMap->VS,filterMap_map->VT
open Nat renaming le_refl->O8,lt_or_ge->Pq,lt_of_lt_of_le->Py,ne_of_lt->PD,le_trans->PZ,zero_le->P0,le_of_lt->Qk,lt_irrefl->QA,le_succ->QS,ne_of_gt->QX,lt_succ_self->Q2,mul_comm->Rt,not_lt_zero->S7,div_add_mod->S9,mod_lt->Td,div_le_div_right->Tf,mul_div_cancel->TV,lt_of_le_of_lt->TX,lt_succ_of_lt->T7,lt_trans->T9,zero_add->Vo
open Option.some renaming inj->Pn,injEq->Sg
open PySem.Str renaming ofString->Pp,ofString_eq_toList->Vh
open PySem.Value renaming ref->Pz,none->RG,int->RO,type->Sw,isStrOf->Tz,isInt->Ui,str->U6,isInt_shape->VJ,bool->VL
open Array renaming getElem?_eq_getElem->PU,getElem?_eq_none->Qm,length_toList->Qs,getElem?_toList->SO,eq_empty_of_size_eq_zero->TZ,getElem?_append_left->Ut,getElem?_extract->UY,toList->Vf,getElem?_push->Vs
open False renaming elim->P5
open PySem.Heap.SameBut renaming update->P6,refl->SX
open Prod renaming fst->Qc,snd->VN
open Ne renaming symm->Qd
open PySem.NameKind renaming free->Qe,cell->Te
open PySem.Builtin.List renaming listTooLong->Qq,listExtendWith->RL,listLengthHint->To,listSameRef->TY
open PySem.Obj renaming mapFields->Qu,mapSeq->QF
open PyProof.Rows renaming callWith_type1->Qw,slot_tuple_getitem->QK,firstMet->QV,callWith_builtin1->Rr,IntsAre->Sz,seqObj->Tc,listUpdate_at->Ue,AllBare->UG,seqEpoch_at->U1,get?_update_seq->U3,envOfC->U4,subscriptTail->VD
open Option renaming bind_some->QJ,getD_some->VO,getD_none->VP
open PySem.F renaming plain_extend_loop->QL,args_tuple_add_2->So,plainAttrs_list->Sx,entry_tuple_add->Sy,slot_tuple_add->SB,entry_extend_loop->Uj,slot_dict_items->UA,plain_list_iadd->UB,plainAttrs_dict->UC,slot_set_iter->UQ,slot_dict_get->UR
open PySem.Around renaming under_plainId->QT,under->U0,frames_deeper->Vg
open Int renaming toNat_natCast->QW,natCast_add->UF
open PySem.Calls renaming spliced_cons->Q3,spliced_nil->RK,callWith_builtin->SJ,Name_function_global->Us
open PySem.Builtin.Slice renaming slicePlaces->Q5,sliceAdjust->RV,sliceApplied->Tn
open PySem.Builtin.Tuple renaming tupleExact->Re,tupleTooMany->Ti,tupleItemsOf->Tj
open List.cons renaming injEq->RU
open PySem.pickOrder renaming go->R8
open True renaming intro->Sf
open ForInStep renaming yield->SC
open List.Pairwise renaming map->SN
open PySem.PassesOwn renaming never->TU
open PySem.Heap.IsSliceOf renaming new->Ul
open Classical renaming axiomOfChoice->Uo
open Prod.mk renaming injEq->UD
open Char renaming toNat->UV
open Array.Perm renaming toList->UZ
open PySem.Code renaming isFrame->Vk
open PySem.AutoSeq1 renaming idx_int->Vr
open PyProof.Rows.IntsAre renaming length->Vx
section
namespace L2
open PySem PySem.Spec PyProof.Rows
def cH (s:UH):Q8:=match s with
 | .FunctionDef _ a _ _ _ _ _ _ _ _=>a
 | _=>{ posonlyargs:=[],args:=[],vararg:=none,kwonlyargs:=[],kw_defaults:=[],kwarg:=none,defaults:=[] }
def aK (s:UH):List UH:=match s with
 | .FunctionDef _ _ b _ _ _ _ _ _ _=>b
 | _=>[]
def ak (s:UH):Pu:=match s with
 | .FunctionDef _ _ _ _ _ _ sc _ _ _=>sc
 | _=>{ kind:=.function,names:=[],isGenerator:=false,isCoroutine:=false }
end L2
end
section
namespace BR
open PySem PySem.W PyProof.Rows
noncomputable def pF:List Obj->BT->Nat->Option (BT×Nat)
 | [],T,n=>some (T,n)
 | o :: r,T,n=>match ((T.ins n o).get n).isSome with
  | true=>pF r (T.ins n o) (n+1)
  | false=>none
theorem mS (life:Life):∀ {l:List Obj}{T T':BT}{n n':Nat},pF l T n=some (T',n')->(Ux T' n' life).objs.toList=(Ux T n life).objs.toList++l
 | [],T,T',n,n',h=>by cases h;simp
 | o :: r,T,T',n,n',h=>by
  unfold pF at h
  cases g:((T.ins n o).get n).isSome with
  | false=>rw[g] at h;cases h
  | true =>
   rw[g] at h
   rw[mS life h,absHeap_ins g]
   show ((Ux T n life).objs.push o).toList++r=_
   simp
noncomputable def toT (s:O4):Option Uy:=match pF s.heap.objs.toList .nil 0 with
 | some (T,n)=>some ⟨T,n,s.heap.life,s.gens,s.drawn,s.toks,s.os⟩
 | none=>none
theorem Bb {s:O4}{t:Uy} (h:toT s=some t):t.abs=s:=by
 unfold toT at h
 cases e:pF s.heap.objs.toList .nil 0 with
 | none=>rw[e] at h;cases h
 | some r =>
  obtain ⟨T,n⟩:=r
  rw[e] at h
  cases h
  have:=mS s.heap.life e
  obtain ⟨⟨objs,life⟩,g,d,k,o⟩:=s
  show Shared.mk (Ux T n life) g d k o=Shared.mk ⟨objs,life⟩ g d k o
  have e2:(Ux T n life).objs.toList=objs.toList:=by
   rw[this];simp[Ux,BT.list]
  have e3:(Ux T n life).objs=objs:=Array.toList_inj.mp e2
  have e4:Ux T n life=⟨objs,life⟩:=by
   show Heap.mk _ _=Heap.mk _ _
   exact congrArg (Heap.mk · life) e3
  rw[e4]
noncomputable def kB (tb:String->Option VU) (p:Pi) (w:PK) (n₀:Nat) (ann:Option O3):Nat->Uy->Thread->Option Uy
 | 0,_,_=>none
 | n+1,s,t=>match through t with
  | true=>some s
  | false=>match stepOk n₀ ann t with
   | false=>none
   | true=>match stepT (denote tb) p w s t with
    | some (s',t')=>kB tb p w n₀ ann n s' t'
    | none=>none
section
variable {tb:String->Option VU}{p:Pi}{w:PK}{n₀:Nat}{ann:Option O3}
theorem mT:∀ {n:Nat}{s s':Uy}{t:Thread},kB tb p w n₀ ann n s t=some s'->topRun tb p w n₀ ann n s.abs t=some s'.abs
 | 0,_,_,_,h=>by cases h
 | n+1,s,s',t,h=>by
  unfold kB at h
  unfold topRun
  cases he:through t with
  | true=>rw[he] at h;cases h;rfl
  | false =>
   rw[he] at h
   cases hk:stepOk n₀ ann t with
   | false=>rw[hk] at h;cases h
   | true =>
    rw[hk] at h
    cases hs:stepT (denote tb) p w s t with
    | none=>rw[hs] at h;cases h
    | some r=>obtain ⟨s₂,t₂⟩:=r;rw[hs] at h;dsimp only;rw[stepT_spec hs];exact mT h
end
noncomputable def kK (tb:String->Option VU) (p:Pi) (w:PK) (N:Nat) (s₀:O4):Option Uy :=
 match s₀.heap.isNs Po&&s₀.gens.size==0 with
 | true=>(toT s₀).bind fun t₀=>(kB tb p w s₀.heap.objs.size (s₀.heap.nsMap Po "__annotations__") N t₀ (topStub p)).bind fun t₁ =>
  match staticsOk (Tw p.main.body) s₀.heap t₁.abs.heap&&namesBound p t₁.abs.heap&&gensDone t₁.abs&&laidKept s₀.heap t₁.abs.heap with
   | true=>some t₁
   | false=>none
 | false=>none
theorem rf {tb:String->Option VU}{p:Pi}{w:PK}{N:Nat}{s₀:O4}{t:Uy} (h:kK tb p w N s₀=some t):topFrom tb p w N s₀=some t.abs:=by
 unfold kK at h
 unfold topFrom
 cases e:(s₀.heap.isNs Po&&s₀.gens.size==0) with
 | false=>rw[e] at h;cases h
 | true =>
  rw[e] at h
  obtain ⟨t₀,h0,h⟩:=Option.bind_eq_some_iff.mp h
  obtain ⟨t₁,h1,h⟩:=Option.bind_eq_some_iff.mp h
  have h2:=mT h1
  rw[Bb h0] at h2
  dsimp only
  rw[h2]
  show (match _ with | true=>some t₁.abs | false=>none)=_
  cases e2:(staticsOk (Tw p.main.body) s₀.heap t₁.abs.heap&&namesBound p t₁.abs.heap&&gensDone t₁.abs&&laidKept s₀.heap t₁.abs.heap) with
  | false=>rw[e2] at h;cases h
  | true=>rw[e2] at h;cases h;rfl
noncomputable def mU (tb:String->Option VU) (p:Pi) (w:PK) (N:Nat):Option Uy:=(fencedOpening tb p w N).bind (kK tb p w N)
theorem Bc {tb:String->Option VU}{p:Pi}{w:PK}{N:Nat}{α:Type}{f:O4->α}{x:α} (h:(mU tb p w N).map (fun t=>f t.abs)=some x):(openEnds tb p w N).map f=some x:=by
 obtain ⟨t,ht,e⟩:=Option.map_eq_some_iff.mp h
 obtain ⟨s₀,h0,h1⟩:=Option.bind_eq_some_iff.mp ht
 unfold openEnds
 rw[h0]
 show (topFrom tb p w N s₀).map f=some x
 rw[rf h1]
 exact congrArg some e
end BR
end
section
namespace BG
open PySem PySem.Spec PySem.Calls PyProof.Rows L2
structure FS where
 name:Str
 qual:Str
 params:Q8
 body:FuncBody
 scope:Pu
 globals:Addr
 closure:List (Str×Addr)
 defaults:O3
 builtins:Addr
 code:Bool
noncomputable def Bd (K:O0) (f:Addr):Option FS:=match K.lookup f with
 | some ⟨_,_,.func fd,_⟩=>some ⟨fd.name,fd.qualname,fd.params,fd.body,fd.scope,fd.globals,fd.closure,fd.defaults,fd.builtins,SR K fd.code fd.qualname⟩
 | _=>none
noncomputable def sY (x qual:Str) (st:UH):FS:=⟨x,qual,cH st,.stmts (aK st),ak st,Po,[],.none,Q9,true⟩
noncomputable def strOf:O3->Option Str
 | .str x _=>some x
 | _=>none
noncomputable def intOf:O3->Option Int
 | .int i _=>some i
 | _=>none
noncomputable def refOf:Option (Option O3)->Option Addr
 | some (some (.ref a))=>some a
 | _=>none
inductive Qy where
 | fn (x:Str) (f:Addr) (st:UH) | int (x:Str) (n:Int) | tup (x:Str) (f:Addr) (xs:List Str) | dct (x:Str) (f:Addr) (kvs:List (Str×Int)) | no (x:Str) | cls (c:Str) (C:Addr) | me (C:Addr) (m x qual:Str) (f:Addr) (st:UH) | mk (C:Addr)
 | tab (x:Str) (c P:Addr) | bm (b:Addr) | fv (x:Str) (f:Addr)
inductive Ov where
 | fn (a:Option Addr) (o:Option FS) | int (n:Option Int) | seq (a:Option Addr) (c:Option (O3×Option Addr×Nat)) (xs:Option (List (Option Str))) | dct (a:Option Addr) (c:Option (O3×Option Addr×Nat)) (xs:Option (List (Int×Option Str×Option Int))) | b (x:Bool)
noncomputable def shp (o:Obj):O3×Option Addr×Nat:=(o.cls,o.dict,o.slots.size)
noncomputable def Ek (o:Obj):Option (List (Option Str)):=match o.data with
 | .seq its _=>some (its.toList.map strOf)
 | _=>none
noncomputable def El (o:Obj):Option (List (Int×Option Str×Option Int)):=match o.data with
 | .dict es _=>some (es.toList.map fun e=>(e.hash,strOf e.key,intOf e.val))
 | _=>none
noncomputable def attrs:List Str:=["program","asked","gap","most","kept","farthest","front","now","origins","branches","tape","named"]
noncomputable def II (K:O0) (c:Str) (C:Addr):Bool:=decide (P1 K Po c=some (some (.ref C)))&&RP K C Str.empty&&Sn K C&&TF K C&&decide (Qa K (.ref C) "__setattr__"=some (some (.builtin "object.__setattr__"))) &&
 attrs.all fun f=>decide (Qa K (.ref C) f=some none)
noncomputable def meB (K:O0) (C:Addr) (m:Str) (f:Addr):Bool:=decide (Qa K (.ref C) m=some (some (.ref f)))&&TN K (.ref f)
noncomputable def mkB (K:O0) (C:Addr):Bool:=T6 K C&&Qp K (.ref C)
noncomputable def bmB (K:O0) (b:Addr):Bool:=decide (P1 K Po "__builtins__"=some (some (.ref b)))&&decide (b≠Q9)&&(match K.lookup b with
 | some ⟨.type "module",some d,.plain,_⟩=>d==Q9
 | _=>false)
noncomputable def bY (K:O0):Qy->Ov
 | .fn x f _=>.fn (refOf (P1 K Po x)) (Bd K f)
 | .int x _=>.int (match P1 K Po x with | some (some v)=>intOf v | _=>none)
 | .tup x f _=>.seq (refOf (P1 K Po x)) ((K.lookup f).map shp) ((K.lookup f).bind Ek)
 | .dct x f _=>.dct (refOf (P1 K Po x)) ((K.lookup f).map shp) ((K.lookup f).bind El)
 | .no x=>.b (decide (P1 K Po x=some none))
 | .cls c C=>.b (II K c C)
 | .me C m _ _ f _=>.fn (if meB K C m f then some f else none) (Bd K f)
 | .mk C=>.b (mkB K C)
 | .tab x c P=>.b (decide (P9 K x=some (c,P))&&SA K c P)
 | .bm b=>.b (bmB K b)
 | .fv x f=>.b (decide (P1 K Po x=some (some (.ref f)))&&Qp K (.ref f))
noncomputable def bZ (w:PK):Qy->Ov
 | .fn x f st=>.fn (some f) (some (sY x x st))
 | .int _ n=>.int (some n)
 | .tup _ f xs=>.seq (some f) (some (.type "tuple",none,0)) (some (xs.map some))
 | .dct _ f kvs=>.dct (some f) (some (.type "dict",none,0)) (some (kvs.map fun q=>(PyData.keyHash w.params q.1,some q.1,some q.2)))
 | .no _=>.b true
 | .cls _ _=>.b true
 | .me _ _ x qual f st=>.fn (some f) (some (sY x qual st))
 | .mk _=>.b true
 | .tab _ _ _=>.b true
 | .bm _=>.b true
 | .fv _ _=>.b true
noncomputable def KOf (as:List Addr) (h:Heap):O0:=as.map fun a=>(a,(h.get? a).getD default)
noncomputable def sees (as:List Addr) (qs:List Qy) (ts:List Addr):PySem.W.Hook where
 α:=Bool×List Ov×List (Option Obj)
 obs:=fun s=>(as.all fun a=>(s.heap.get? a).isSome,qs.map (bY (KOf as s.heap)),ts.map s.heap.get?)
 val:=fun w=>(true,qs.map (bZ w),ts.map fun _=>some (Rk #[]))
 says:=fun w h=>∃ K:O0,K.map (·.1)=as/\(∀ p∈K,h.get? p.1=some p.2)/\(∀ q∈qs,bY K q=bZ w q)/\∀ P∈ts,h.get? P=some (Rk #[])
 of:=fun w s e=>by
  have e1:=congrArg Qc e
  have e2:=congrArg (fun p=>p.2.1) e
  have e3:=congrArg (fun p=>p.2.2) e
  refine ⟨KOf as s.heap,by simp[KOf,Function.comp_def],fun p hp=>?_,fun q hq=>List.map_inj_left.mp e2 q hq,fun P hP=>List.map_inj_left.mp e3 P hP⟩
  obtain ⟨a,ha,rfl⟩:=List.mem_map.mp hp
  have h1:=List.all_eq_true.mp e1 a ha
  obtain ⟨o,ho⟩:=Option.isSome_iff_exists.mp h1
  show s.heap.get? a=some ((s.heap.get? a).getD default)
  rw[ho];rfl
 keeps:=fun w h h' ⟨K,m,n,k,t⟩ hk=>⟨K,m,fun p hp=>hk _ _ (n p hp),k,fun P hP=>hk _ _ (t P hP)⟩
end BG
end
section
namespace BL
open PySem PySem.Spec PyProof.Rows L2 BG
noncomputable abbrev pg:Pi:=PySem.Challenge.pw_backtape_k21_whole_changes
noncomputable def qg:Pi:=PySem.W.view pg [0,2,3,4,6,7,8,9,10,11,12,13,15,16,17,18,19,20,21,22,23,24,25,26,27,28,29,30,31,32,33,34,35,37,38,39,40,41,42,44,45,47,48,49,50,51,52,53,54,55]
noncomputable abbrev loo:List Str:=["INNER_COUNTS"]
noncomputable def top (i:Nat):UH:=pg.main.body.getD i (.Pass ⟨0,0,0,0⟩)
noncomputable def IJ:UH->List UH
 | .ClassDef _ _ _ b _ _ _ _ _ _ _=>b
 | _=>[]
noncomputable def bA (i j:Nat):UH:=(IJ (top i)).getD j (.Pass ⟨0,0,0,0⟩)
noncomputable def MC:UH->Pos
 | .FunctionDef _ _ _ _ _ _ _ _ _ p=>p
 | _=>⟨0,0,0,0⟩
noncomputable abbrev adr:List Addr:=[3,4,59,60,66,67,73,74,80,81,87,88,94,95,101,102,108,109,115,116,122,123,129,130,136,137,143,144,150,151,157,158,164,165,171,172,178,179,185,186,192,193,199,200,204,205,211,212,218,219,225,226,239,240,246,247,253,254,307,308,314,315,321,322,328,329,335,336,342,343,349,350,363,364,370,371,377,378,380,381,391,392,398,399,405,406,412,413,417,418,422,423,429,430,441,442]
noncomputable def qys:List Qy:=[.fn "is_whole" 67 (top 10),
 .fn "is_name" 74 (top 11),
 .fn "is_cell" 81 (top 12),
 .fn "inner_sums" 88 (top 13),
 .fn "begun" 95 (top 22),
 .fn "check_thing" 102 (top 23),
 .fn "worth_in" 109 (top 24),
 .fn "laid_out" 116 (top 25),
 .fn "of_two" 123 (top 26),
 .fn "worth_of" 130 (top 27),
 .fn "reckoned" 137 (top 28),
 .fn "cell_by" 144 (top 29),
 .fn "is_over" 151 (top 30),
 .fn "place_behind" 158 (top 31),
 .fn "with_worth" 165 (top 32),
 .fn "with_name" 172 (top 33),
 .fn "brought" 179 (top 34),
 .fn "stepped" 186 (top 35),
 .fn "worth_at" 193 (top 37),
 .fn "worths_of" 200 (top 38),
 .fn "changes" 205 (top 39),
 .fn "last_change" 212 (top 40),
 .fn "next_change" 219 (top 41),
 .fn "spread" 226 (top 42),
 .fn "_law_cell" 392 (top 47),
 .fn "_law_drawn" 399 (top 48),
 .fn "_law_sum" 406 (top 49),
 .fn "_law_row" 413 (top 50),
 .fn "_law_program" 418 (top 51),
 .fn "_law_asked" 423 (top 52),
 .fn "_law_thing" 430 (top 53),
 .fn "law" 442 (top 55),
 .int "CELL_COUNT" 4,
 .int "WORTH_COUNT" 10007,
 .int "ROW" 0,
 .int "NAMES" 1,
 .int "CELLS" 2,
 .int "CALLS" 3,
 .int "ASKED" 4,
 .int "SAID" 5,
 .int "MOST_CALLS" 6,
 .int "MOST_MARKS" 8,
 .tup "LETTERS" 59 ["a","b","c","d","e","f"],
 .dct "INNER_COUNTS" 60 [("num",0),("name",0),("cell",1),("add",2),("sub",2),("mul",2),("less",2)],
 .no "len",
 .no "abs",
 .no "int",
 .no "list",
 .no "tuple",
 .no "isinstance",
 .no "str",
 .no "bool",
 .no "range",
 .no "reversed",
 .no "enumerate",
 .no "zip",
 .no "min",
 .no "max",
 .no "sorted",
 .no "sum",
 .no "all",
 .no "any",
 .no "set",
 .tab "worths_of" 199 195,
 .tab "last_change" 211 207,
 .tab "next_change" 218 214,
 .no "moments_so",
 .no "last_so",
 .no "next_so",
 .no "visits",
 .no "last_visit",
 .no "when_said",
 .no "next_within",
 .no "last_within",
 .no "first_other",
 .no "writer_of",
 .no "judged",
 .no "remade",
 .bm 4,
 .cls "Tape" 381,
 .mk 381,
 .me 381 "__init__" "__init__" "Tape.__init__" 240 (bA 45 0),
 .me 381 "at" "at" "Tape.at" 247 (bA 45 1),
 .me 381 "end" "end" "Tape.end" 254 (bA 45 2),
 .me 381 "behind" "behind" "Tape.behind" 308 (bA 45 10),
 .me 381 "is_last" "is_last" "Tape.is_last" 315 (bA 45 11),
 .me 381 "keep" "keep" "Tape.keep" 322 (bA 45 12),
 .me 381 "reach" "reach" "Tape.reach" 329 (bA 45 13),
 .me 381 "has" "has" "Tape.has" 336 (bA 45 14),
 .me 381 "check" "check" "Tape.check" 343 (bA 45 15),
 .me 381 "readings" "readings" "Tape.readings" 350 (bA 45 16),
 .me 381 "first_from" "first_from" "Tape.first_from" 364 (bA 45 18),
 .me 381 "last_to" "last_to" "Tape.last_to" 371 (bA 45 19),
 .me 381 "last_between" "last_between" "Tape.last_between" 378 (bA 45 20)]
noncomputable abbrev tl:List (Str×Addr×Addr):=[("worths_of",199,195),("last_change",211,207),("next_change",218,214)]
noncomputable abbrev tas:List Addr:=[195,207,214]
noncomputable def Lf (w:PK):Prop:=(BR.mU treeTable pg w 5730).map (fun t=>(Vu qg loo (Tw pg.main.body) (fun s=>UP qg [] s&&Uz [] s) true t.abs,(sees adr qys tas).obs t.abs))=some (PySem.W.openGood qg loo,(sees adr qys tas).val w)
theorem lf0 (w:PK):Lf (w.withFollow "special-get-raises" false):=by unfold Lf;kernel_rfl
theorem lf1 (w:PK):Lf (w.withFollow "special-get-raises" true):=by unfold Lf;kernel_rfl
theorem left:PySem.W.LeftO pg qg loo (fun s=>UP qg [] s&&Uz [] s) (sees adr qys tas).obs (sees adr qys tas).val 5730:=fun w=>BR.Bc (f:=fun s=>(Vu qg loo (Tw pg.main.body) (fun s=>UP qg [] s&&Uz [] s) true s,(sees adr qys tas).obs s)) (PySem.W.byRow2 (P:=Lf) "special-get-raises" lf0 lf1 w)
end BL
end
section
namespace L2
open PySem PySem.Spec PyProof.Rows
noncomputable abbrev Key:=Sum Int Str
noncomputable def jR:Key->O3->Bool
 | .inl k,v=>Ui k v
 | .inr x,v=>Tz x v
noncomputable def MD (w:PK):Key->Int
 | .inl k=>hashInt k
 | .inr x=>hashStr w x
theorem aH:∀ {k:Key}{v:O3},jR k v=true->(∃ i t,k=Sum.inl i/\v=RO i t)\/(∃ x t,k=Sum.inr x/\v=U6 x t)
 | .inl i,v,h=>by
  obtain ⟨t,e⟩:=VJ (k:=i) (v:=v) h
  exact .inl ⟨i,t,rfl,e⟩
 | .inr x,v,h=>by
  obtain ⟨t,e⟩:=Value.isStrOf_shape (x:=x) (v:=v) h
  exact .inr ⟨x,t,rfl,e⟩
theorem vz (i:Int) (t:Tok):jR (.inl i) (.int i t)=true:=by simp[jR,Ui]
theorem vA (x:Str) (t:Tok):jR (.inr x) (.str x t)=true:=by simp[jR,Tz]
theorem EV (a b:Int):decide ((Sum.inl a:Key)=Sum.inl b)=(a==b):=by
 by_cases e:a=b
 ·subst e;simp
 ·have h:¬ (Sum.inl a:Key)=Sum.inl b:=fun q=>e (Sum.inl.inj q)
  rw[decide_eq_false h]
  exact (beq_eq_false_iff_ne.mpr e).symm
theorem EW (a b:Str):decide ((Sum.inr a:Key)=Sum.inr b)=decide (a=b):=by
 by_cases e:a=b
 ·subst e;simp
 ·have h:¬ (Sum.inr a:Key)=Sum.inr b:=fun q=>e (Sum.inr.inj q)
  rw[decide_eq_false h,decide_eq_false e]
theorem EX (a:Int) (b:Str):decide ((Sum.inl a:Key)=Sum.inr b)=false:=decide_eq_false (fun q=>nomatch q)
theorem EY (a:Str) (b:Int):decide ((Sum.inr a:Key)=Sum.inl b)=false:=decide_eq_false (fun q=>nomatch q)
noncomputable def aG (prog:Pi) (w:PK):PySem.KeyKind prog w Key where
 is:=jR
 hash:=MD w
 inj:=fun v a b ha hb=>by
  rcases aH ha with ⟨i,t,rfl,rfl⟩ | ⟨x,t,rfl,rfl⟩
  ·rcases aH hb with ⟨j,u,rfl,e⟩ | ⟨y,u,rfl,e⟩
   ·injection e with e1 _;rw[e1]
   ·exact nomatch e
  ·rcases aH hb with ⟨j,u,rfl,e⟩ | ⟨y,u,rfl,e⟩
   ·exact nomatch e
   ·injection e with e1 _;rw[e1]
 byValue:=fun k v h=>by
  rcases aH h with ⟨i,t,rfl,rfl⟩ | ⟨x,t,rfl,rfl⟩<;>rfl
 pyHash:=fun hv h=>by
  rcases aH hv with ⟨i,t,rfl,rfl⟩ | ⟨x,t,rfl,rfl⟩
  ·exact wpAny_pyHash_int h
  ·exact wpAny_pyHash_str h
 eqBool:=fun hu hv h=>by
  rcases aH hu with ⟨i,t,rfl,rfl⟩ | ⟨x,t,rfl,rfl⟩
  ·rcases aH hv with ⟨j,u,rfl,rfl⟩ | ⟨y,u,rfl,rfl⟩
   ·rw[EV] at h;exact UN h
   ·rw[EX] at h;exact SeqAt.EqAt.int_str i t y u _ _ _ _ h
  ·rcases aH hv with ⟨j,u,rfl,rfl⟩ | ⟨y,u,rfl,rfl⟩
   ·rw[EY] at h;exact SeqAt.EqAt.str_int x t j u _ _ _ _ h
   ·rw[EW] at h;exact wpAny_eqBool_str h
 «strs»:=fun k x t v h=>by
  rcases aH h with ⟨i,u,rfl,e⟩ | ⟨y,u,rfl,e⟩
  ·exact nomatch e
  ·injection e with e1 _
   subst e1
   cases v<;>rfl
theorem pG (prog:Pi) (w:PK) (i:Int) (t:Tok):(aG prog w).is (.inl i) (.int i t)=true:=vz i t
theorem eX (prog:Pi) (w:PK) (x:Str) (t:Tok):(aG prog w).is (.inr x) (.str x t)=true:=vA x t
end L2
namespace L2
open PySem PySem.Spec PyProof.Rows
inductive V where
 | non | bl (b:Bool) | int (i:Int) | str (x:Str) | byt (b:Array UInt8) | flt (b:UInt64) | ref (a:Addr) | ty (n:String)
 deriving DecidableEq
noncomputable def RelV:V->O3->Prop
 | .non,u=>u=RG
 | .bl b,u=>u=VL b
 | .int i,u=>∃ t,u=RO i t
 | .str x,u=>∃ t,u=U6 x t
 | .byt b,u=>∃ t,u=Value.bytes b t
 | .flt b,u=>∃ t,u=Value.float b t
 | .ref a,u=>u=Pz a
 | .ty n,u=>u=Sw n
noncomputable abbrev au:List V->List O3->Prop:=Paired RelV
theorem au.length {xs:List V}{us:List O3} (r:au xs us):xs.length=us.length:=Paired.length r
theorem au.get:∀ {xs:List V}{us:List O3}{i:Nat}{x:V},au xs us->xs[i]?=some x->∃ u,us[i]?=some u/\RelV x u
 | _,_,_,_,.nil,e=>by simp at e
 | _,_,0,_,.cons r _,e=>by simp at e;subst e;exact ⟨_,rfl,r⟩
 | _,_,i+1,x,.cons _ t,e=>by
  obtain ⟨u,h1,h2⟩:=au.get (i:=i) (x:=x) t (by simpa using e)
  exact ⟨u,by simpa using h1,h2⟩
theorem au.set {x:V}{u:O3} (r:RelV x u):∀ {xs:List V}{us:List O3} (i:Nat),au xs us->au (xs.set i x) (us.set i u)
 | _,_,_,.nil=>.nil
 | _,_,0,.cons _ t=>.cons r t
 | _,_,i+1,.cons q t=>.cons q (au.set r i t)
theorem au.append:∀ {xs ys:List V}{us ws:List O3},au xs us->au ys ws->au (xs++ys) (us++ws)
 | _,_,_,_,.nil,s=>s
 | _,_,_,_,.cons r t,s=>.cons r (au.append t s)
theorem au.take:∀ {xs:List V}{us:List O3} (n:Nat),au xs us->au (xs.take n) (us.take n)
 | _,_,0,_=>.nil
 | _,_,_+1,.nil=>.nil
 | _,_,n+1,.cons r t=>.cons r (au.take n t)
theorem au.drop:∀ {xs:List V}{us:List O3} (n:Nat),au xs us->au (xs.drop n) (us.drop n)
 | _,_,0,r=>r
 | _,_,_+1,.nil=>.nil
 | _,_,n+1,.cons _ t=>au.drop n t
noncomputable def jx:Option V->Option O3->Prop
 | some v,some u=>RelV v u
 | none,none=>True
 | _,_=>False
noncomputable def KV {κ:Type}:List (κ×V)->List (κ×O3)->Prop:=Paired fun (p:κ×V) (q:κ×O3)=>p.1=q.1/\RelV p.2 q.2
noncomputable def kV:Key->V
 | .inl i=>.int i
 | .inr x=>.str x
inductive HO where
 | lst (xs:List V)
 | tup (xs:List V)
 | dK (kvs:List (Key×V)) | dT (kvs:List (List Key×V))
 | set (S:Int->Bool) (n:Nat)
 | ins (C dx:Addr) (fs:List (Str×V))
 | own (x:Addr)
 | xd (fs:List (Str×V))
 | met (f x:Addr)
 | rng (lo hi:Int)
 | frz (o:Obj) (u:HO)
 | tbl (ps:Array O3)
 | ext (φ:Heap->Prop)
noncomputable abbrev Hp:=Addr->Option HO
noncomputable def upd (H:Hp) (a:Addr) (o:HO):Hp:=fun b=>if b=a then some o else H b
theorem aD {H:Hp}{a:Addr}{o:HO}:upd H a o a=some o:=by unfold upd;rw[if_pos rfl]
theorem av {H:Hp}{a b:Addr}{o:HO} (h:b≠a):upd H a o b=H b:=by unfold upd;rw[if_neg h]
theorem ay {H:Hp}{a b:Addr}{o:HO} (h:H a=some o) (h':H b=none):a≠b:=by
 intro e;subst e;rw[h] at h';cases h'
section
variable (P:Pi) (w:PK)
noncomputable def cB (H:Hp) (h:Heap) (a:Addr):HO->Prop
 | .lst xs=>xs.length<=sizeLine/\∃ (its:List O3) (n:Nat),au xs its/\h.get? a=some { cls:=.type "list",data:=.seq its.toArray n }
 | .tup xs=>xs.length<=sizeLine/\∃ its:List O3,au xs its/\IsTup h a its.toArray
 | .dK kvs=>kvs.length<=sizeLine/\(a==RE)=false/\∃ vs,KV kvs vs/\h.DictOf (aG P w) a vs
 | .dT kvs=>kvs.length<=sizeLine/\(a==RE)=false/\∃ xs:List (List Key×Addr×O3),
  Paired (fun (p:List Key×V) (q:List Key×Addr×O3)=>p.1=q.1/\H q.2.1=some (.tup (p.1.map kV))/\RelV p.2 q.2.2) kvs xs ∧
  ∃ o es ep,h.get? a=some o/\o.ExactDict/\o.data=.dict es ep/\es.toList=xs.map (entryOfKey (tupleKind (aG P w)))/\(xs.map (·.1)).Nodup
 | .set S n=>h.SetOf (intKind P w) a S n
 | .ins C dx fs=>H dx=some (.own a)/\fs.length<=1000/\dx≠a/\h.get? a=some (QO C dx) ∧
  ∃ mA,h.Ns1 dx mA/\(∀ f,jx (fs.lookup f) (mA f))/\U8 mA (fs.map (·.1))
 | .own _=>∃ o,h.get? a=some o
 | .xd fs=>∃ mA,h.Ns1 a mA/\∀ f,jx (fs.lookup f) (mA f)
 | .rng lo hi=>∃ t u v,h.get? a=some { cls:=.type "range",data:=.fields #[.int lo t,.int hi u,.int 1 v] }
 | .frz o u=>h.get? a=some o/\cB H h a u
 | .tbl ps=>h.get? a=some { cls:=.none,data:=.fields ps }
 | .met f x=>h.get? a=some (TH (.ref f) (.ref x))
 | .ext φ=>φ h/\(∃ o,h.get? a=some o)/\∀ h1 h2:Heap,φ h1->(∀ o,h1.get? a=some o->h2.get? a=some o)->φ h2
noncomputable def HOk (H:Hp) (h:Heap):Prop:=∀ a o,H a=some o->cB P w H h a o
end
section
variable {P:Pi}{w:PK}{H H':Hp}{h h':Heap}{a:Addr}{o:HO}
theorem cB.lt (x:cB P w H h a o):a < h.objs.size:=by
 cases o with
 | lst xs=>obtain ⟨_,_,_,_,e⟩:=x;exact O7 e
 | tup xs=>obtain ⟨_,_,_,p⟩:=x;exact p.lt
 | dK kvs=>obtain ⟨_,_,_,_,o,_,_,e,_⟩:=x;exact O7 e
 | dT kvs=>obtain ⟨_,_,_,_,o,_,_,e,_⟩:=x;exact O7 e
 | set S n=>obtain ⟨o,_,_,_,e,_⟩:=x;exact O7 e
 | ins C dx fs=>obtain ⟨_,_,_,e,_⟩:=x;exact O7 e
 | own y=>obtain ⟨_,e⟩:=x;exact O7 e
 | xd fs=>obtain ⟨_,⟨_,_,_,e,_⟩,_⟩:=x;exact O7 e
 | rng lo hi=>obtain ⟨_,_,_,e⟩:=x;exact O7 e
 | frz ob u=>obtain ⟨e,_⟩:=x;exact O7 e
 | tbl ps=>exact O7 (show h.get? a=some _ from x)
 | met f y=>exact O7 (show h.get? a=some _ from x)
 | ext φ=>obtain ⟨_,⟨_,e⟩,_⟩:=x;exact O7 e
theorem Paired.IK {α β:Type}{F G:α->β->Prop}:∀ {l₁:List α}{l₂:List β},Paired F l₁ l₂->(∀ a b,F a b->G a b)->Paired G l₁ l₂
 | _,_,.nil,_=>.nil
 | _,_,.cons r t,f=>.cons (f _ _ r) (Paired.IK t f)
theorem cB.stay (x:cB P w H h a o) (k:∀ b u,(b=a\/H b=some (.own a))->h.get? b=some u->h'.get? b=some u)
 (ho:∀ b,H b=some (.own a)->H' b=some (.own a)) (ht:∀ b xs,H b=some (.tup xs)->H' b=some (.tup xs)):cB P w H' h' a o:=by
 induction o with
 | lst xs=>obtain ⟨z,its,n,r,e⟩:=x;exact ⟨z,its,n,r,k _ _ (.inl rfl) e⟩
 | tup xs=>obtain ⟨z,its,r,ob,e,c⟩:=x;exact ⟨z,its,r,ob,k _ _ (.inl rfl) e,c⟩
 | dK kvs=>obtain ⟨z,y,vs,r,ob,es,ep,e,c⟩:=x;exact ⟨z,y,vs,r,ob,es,ep,k _ _ (.inl rfl) e,c⟩
 | dT kvs =>
  obtain ⟨z,y,xs,r,ob,es,ep,e,c⟩:=x
  exact ⟨z,y,xs,Paired.IK r fun p q z=>⟨z.1,ht _ _ z.2.1,z.2.2⟩,ob,es,ep,k _ _ (.inl rfl) e,c⟩
 | set S n=>obtain ⟨ob,es,ep,t,e,c⟩:=x;exact ⟨ob,es,ep,t,k _ _ (.inl rfl) e,c⟩
 | ins C dx fs =>
  obtain ⟨d,z,ne,e,mA,⟨od,es,ep,e2,c⟩,r⟩:=x
  exact ⟨ho _ d,z,ne,k _ _ (.inl rfl) e,mA,⟨od,es,ep,k _ _ (.inr d) e2,c⟩,r⟩
 | own y=>obtain ⟨ob,e⟩:=x;exact ⟨ob,k _ _ (.inl rfl) e⟩
 | xd fs=>obtain ⟨mA,⟨od,es,ep,e,c⟩,r⟩:=x;exact ⟨mA,⟨od,es,ep,k _ _ (.inl rfl) e,c⟩,r⟩
 | rng lo hi=>obtain ⟨t,u,v,e⟩:=x;exact ⟨t,u,v,k _ _ (.inl rfl) e⟩
 | frz ob u ih=>obtain ⟨e,q⟩:=x;exact ⟨k _ _ (.inl rfl) e,ih q⟩
 | tbl ps =>
  have e:h.get? a=some { cls:=.none,data:=.fields ps }:=x
  show h'.get? a=some { cls:=.none,data:=.fields ps }
  exact k a _ (.inl rfl) e
 | met f y =>
  have e:h.get? a=some (TH (.ref f) (.ref y)):=x
  show h'.get? a=some (TH (.ref f) (.ref y))
  exact k a _ (.inl rfl) e
 | ext φ=>obtain ⟨p,⟨o,e⟩,st⟩:=x;exact ⟨st _ _ p fun o q=>k _ _ (.inl rfl) q,⟨o,k _ _ (.inl rfl) e⟩,st⟩
theorem HOk.lt (x:HOk P w H h) (e:H a=some o):a < h.objs.size:=(x a o e).lt
theorem HOk.fresh (x:HOk P w H h) (e:h.objs.size<=a):H a=none:=by
 cases q:H a with
 | none=>rfl
 | some u=>exact absurd (Py (x.lt q) e) (QA _)
theorem HOk.kept (x:HOk P w H h) (k:∀ b u,h.get? b=some u->h'.get? b=some u):HOk P w H h':=fun a o e =>
 (x a o e).stay (fun b u _ q=>k b u q) (fun _ q=>q) fun _ _ q=>q
theorem HOk.laid (x:HOk P w H h) (k:∀ b u,h.get? b=some u->h'.get? b=some u) (hp:h.objs.size<=a) (new:cB P w (upd H a o) h' a o):HOk P w (upd H a o) h':=fun b u e=>by
 have hn:=x.fresh hp
 by_cases hb:b=a
 ·subst hb;rw[aD] at e;cases e;exact new
 ·rw[av hb] at e
  exact (x b u e).stay (fun c v _ q=>k c v q) (fun c q=>by rw[av (ay q hn)];exact q) fun c xs q=>by rw[av (ay q hn)];exact q
end
noncomputable def Rd (H:Hp) (a:Addr) (u:HO):Prop:=H a=some u\/∃ o,H a=some (.frz o u)
theorem Rd.ok {P:Pi}{w:PK}{H:Hp}{h:Heap}{a:Addr}{u:HO} (r:Rd H a u) (x:HOk P w H h):cB P w H h a u:=by
 rcases r with r | ⟨o,r⟩
 ·exact x a u r
 ·obtain ⟨_,q⟩:=x a _ r
  exact q
noncomputable def Mut:Option HO->Prop
 | some (.lst _)=>True
 | some (.dK _)=>True
 | some (.dT _)=>True
 | some (.set _ _)=>True
 | some (.ins _ _ _)=>True
 | some (.ext _)=>True
 | _=>False
section
variable {P:Pi}{w:PK}{H:Hp}{h h':Heap}{x e:Addr}{o':HO}
theorem HOk.write (ok:HOk P w H h) (mu:Mut (H x)) (he:e=x\/H e=some (.own x)) (k:∀ b u,b≠e->h.get? b=some u->h'.get? b=some u) (heo:∃ u,h'.get? e=some u)
 (new:cB P w (upd H x o') h' x o'):HOk P w (upd H x o') h':=fun b u q=>by
 have nown:∀ c y,H c=some (.own y)->c≠x:=fun c y r z=>by subst z;rw[r] at mu;exact mu
 have ntup:∀ c xs,H c=some (.tup xs)->c≠x:=fun c xs r z=>by subst z;rw[r] at mu;exact mu
 by_cases hb:b=x
 ·subst hb;rw[aD] at q;cases q;exact new
 ·rw[av hb] at q
  by_cases hbe:b=e
  ·have q':H b=some (.own x):=by
    rcases he with z | z
    ·exact absurd (hbe.trans z) hb
    ·rw[hbe];exact z
   rw[q] at q';cases q'
   obtain ⟨v,hv⟩:=heo
   exact ⟨v,by rw[hbe];exact hv⟩
  ·refine (ok b u q).stay (fun c v hc r=>k c v ?_ r) (fun c r=>by rw[av (nown c b r)];exact r) fun c xs r=>by rw[av (ntup c xs r)];exact r
   rcases hc with rfl | hc
   ·exact hbe
   ·rintro rfl
    rcases he with z | z
    ·exact nown c b hc z
    ·rw[hc] at z;cases z;exact hb rfl
end
structure Un (fs ex:List Addr) (H H':Hp) (h h':Heap):Prop where
 keep:∀ b o,h.get? b=some o->H b=none->b∉fs->b∉ex->h'.get? b=some o
 slot:∀ b o,h.get? b=some o->H b=none->b∈fs->b∉ex->∃ sl,h'.get? b=some { o with slots:=sl }
 free:∀ b o,h.get? b=some o->H b=none->b∉ex->H' b=none
 there:∀ b o,h.get? b=some o->b∉ex->∃ o',h'.get? b=some o'
 tups:∀ b xs,H b=some (.tup xs)->H' b=some (.tup xs)
 frzs:∀ b o u,H b=some (.frz o u)->H' b=some (.frz o u)
 tbls:∀ b ps,H b=some (.tbl ps)->∃ more,H' b=some (.tbl (ps++more))
section
variable {fs fs' ex ex':List Addr}{H H1 H2:Hp}{h h1 h2 h':Heap}{a x e:Addr}{o:HO}
theorem Un.any (u:Un fs ex H H1 h h1) {b:Addr}{ob:Obj} (q:h.get? b=some ob) (n:H b=none) (hx:b∉ex):∃ sl,h1.get? b=some { ob with slots:=sl }:=by
 by_cases hb:b∈fs
 ·exact u.slot b ob q n hb hx
 ·exact ⟨ob.slots,u.keep b ob q n hb hx⟩
theorem Un.kept (k:∀ b u,h.get? b=some u->h'.get? b=some u):Un fs ex H H h h' :=
 ⟨fun b ob q _ _ _=>k b ob q,fun b ob q _ _ _=>⟨ob.slots,k b ob q⟩,fun _ _ _ n _=>n,fun b ob q _=>⟨ob,k b ob q⟩,fun _ _ q=>q,fun _ _ _ q=>q,fun _ ps q=>⟨#[],by rw[q];simp⟩⟩
theorem Un.refl:Un fs ex H H h h:=Un.kept fun _ _ q=>q
theorem Un.laid (k:∀ b u,h.get? b=some u->h'.get? b=some u) (hp:h.objs.size<=a) (hn:H a=none):Un fs ex H (upd H a o) h h' where
 keep:=fun b u q _ _ _=>k b u q
 slot:=fun b u q _ _ _=>⟨u.slots,k b u q⟩
 free:=fun b u q n _=>by rw[av (PD (Py (O7 q) hp))];exact n
 there:=fun b u q _=>⟨u,k b u q⟩
 tups:=fun b xs q=>by rw[av (ay q hn)];exact q
 frzs:=fun b u xs q=>by rw[av (ay q hn)];exact q
 tbls:=fun b ps q=>⟨#[],by rw[av (ay q hn),q];simp⟩
theorem Un.write (mu:Mut (H x)) (he:e=x\/H e=some (.own x)) (k:∀ b u,b≠e->h.get? b=some u->h'.get? b=some u) (heo:∃ u,h'.get? e=some u):Un fs ex H (upd H x o) h h':=by
 have hx:∀ b,H b=none->b≠x:=fun b n z=>by subst z;rw[n] at mu;exact mu
 have hb:∀ b,H b=none->b≠e:=fun b n z=>by
  subst z
  rcases he with r | r
  ·exact hx b n r
  ·rw[n] at r;cases r
 have hm:∀ b u,H b=some u->¬ Mut (some u)->b≠x:=fun b u q nm z=>by subst z;rw[q] at mu;exact nm mu
 refine ⟨fun b u q n _ _=>k b u (hb b n) q,fun b u q n _ _=>⟨u.slots,k b u (hb b n) q⟩,fun b u q n _=>by rw[av (hx b n)];exact n,fun b u q _=>?_,
  fun b xs q=>by rw[av (hm b _ q fun z=>z)];exact q,fun b u xs q=>by rw[av (hm b _ q fun z=>z)];exact q,fun b ps q=>⟨#[],by rw[av (hm b _ q fun z=>z),q];simp⟩⟩
 by_cases hbe:b=e
 ·subst hbe;exact heo
 ·exact ⟨u,k b u hbe q⟩
end
noncomputable def trk (h:Heap) (H:Hp):List Addr:=(Pr h.objs.size).filter fun a=>(H a).isSome
noncomputable def pH (h:Heap) (H:Hp):Heap:=PySem.W.hideAll h (trk h H)
theorem vB (h:Heap) (H:Hp):(pH h H).objs.size=h.objs.size:=PySem.W.hideAll_size _ _
theorem pI {h:Heap}{H:Hp}{b:Addr}{o:Obj} (e:h.get? b=some o) (n:H b=none):(pH h H).get? b=some o :=
 PySem.W.hideAll_get _ e fun hm=>by
  have q:(H b).isSome=true:=(List.mem_filter.mp hm).2
  rw[n] at q;simp at q
theorem Be {h:Heap}{H:Hp}{b:Addr}{o:Obj} (e:(pH h H).get? b=some o):h.get? b=some o/\H b=none:=by
 have e':h.get? b=some o:=PySem.W.of_hideAll (trk h H) e
 refine ⟨e',?_⟩
 cases q:H b with
 | none=>rfl
 | some x =>
  have hm:b∈trk h H:=List.mem_filter.mpr ⟨List.mem_range.mpr (O7 e'),by simp[q]⟩
  have z:(pH h H).get? b=none:=PySem.W.hideAll_none (trk h H) hm
  rw[z] at e;cases e
noncomputable def Bf (g h:Heap) (L:Addr):List (Addr×Obj):=(Pr h.objs.size).filterMap fun a=>if a=L\/(g.get? a).isSome=true then none else (h.get? a).map fun o=>(a,o)
noncomputable def rest (g h:Heap) (L d:Addr):List (Addr×Obj):=(Bf g h L).filter fun p=>decide (p.1≠d)
end L2
namespace L2
open PySem PySem.Spec PyProof.Rows
structure Mod (K:O0) (mg:Str->Option O3) (base:Heap):Prop where
 kin:K.In base
 glob:base.Ns Po mg
 blt:∃ mb,base.Ns Q9 mb/\∀ x:Str,x≠"__name__"->mb x=SD x
 nolimit:base.NoLimit
structure Cx where
 prog:Pi
 w:PK
 K:O0
 mg:Str->Option O3
 base:Heap
 A:Qi
 N:List Str
 s₀:O4
 H₀:Hp
 env:Env
 outer:List Env
 stack:List Env
 ex:List Addr
 fn:Str->Bool
 calm:Bool
 pn:List (Addr×Obj)
 xe:O3->O4->Prop
noncomputable def frs (l:List Env):List Addr:=l.filterMap (·.frame)
noncomputable abbrev Cx.fs (X:Cx):List Addr:=frs X.outer
noncomputable def Vis (sc:Pu) (x:Str):Prop:=sc.names.lookup x=some .local\/sc.names.lookup x=some .cell\/sc.names.lookup x=some .free
noncomputable def Loc (sc:Pu) (x:Str):Prop:=sc.names.lookup x=some .local\/sc.names.lookup x=some .cell
noncomputable def Look (env:Env) (h:Heap) (m:Str->Option O3) (x:Str) (u:O3):Prop :=
 (env.kindOf x=some .local/\m x=some u)\/((env.kindOf x=some .cell\/env.kindOf x=some .free)/\∃ c,env.cells.lookup x=some c/\h.IsCell c (some u))
structure Cx.Ok (X:Cx):Prop where
 mod:Mod X.K X.mg X.base
 kind:X.env.scope.kind=.function
 glob:X.env.globals=Po
 blt:X.env.builtins=Q9
 above:X.s₀.heap.objs.size<=X.env.locals
 inj:∀ x y c,X.env.cells.lookup x=some c->X.env.cells.lookup y=some c->x=y
 has:∀ x,(X.env.kindOf x=some .cell\/X.env.kindOf x=some .free)->∃ c,X.env.cells.lookup x=some c
 cab:∀ x c,X.fn x=true->X.env.cells.lookup x=some c->X.s₀.heap.objs.size<=c
 hd:X.calm=true->X.A.handled=none
 frames:X.A.frames=some X.stack
 stk:X.stack=X.outer\/(X.stack=X.env :: X.outer/\X.env.frame=some X.env.locals)
 exf:∀ b∈X.ex,b≠X.env.locals/\∀ x c,X.env.cells.lookup x=some c->c≠b
 bs:∀ b o,X.base.get? b=some o->X.s₀.heap.get? b=some o/\X.H₀ b=none
 bsz:X.base.objs.size<=X.s₀.heap.objs.size
 noex:∀ b o,X.base.get? b=some o->b∉X.ex
 exfs:∀ b∈X.ex,b∉X.fs
 iI:X.s₀.heap.FunFrames X.base X.outer
 frf:∀ b∈X.fs,X.H₀ b=none
structure Inv (X:Cx) (pins:List (Addr×Obj)) (σ:List (Option V)) (H:Hp) (s:O4):Prop where
 ok:X.Ok
 os:s.os=X.s₀.os
 bare:UG s.gens
 base:Un X.fs X.ex X.H₀ H X.s₀.heap s.heap
 loc:∃ m,s.heap.Ns X.env.locals m/\∀ (i:Nat) (x:Str) (v:V),X.N[i]?=some x->σ[i]?=some (some v)->Vis X.env.scope x->∃ u,RelV v u/\Look X.env s.heap m x u
 cell:∀ x c,X.env.cells.lookup x=some c->∃ v,s.heap.IsCell c v
 free:H X.env.locals=none
 freeC:∀ x c,X.env.cells.lookup x=some c->H c=none
 pin:∀ p∈X.pn++pins,s.heap.get? p.1=some p.2/\H p.1=none/\p.1≠X.env.locals/\p.1∉X.fs/\∀ v,p.2.data≠.cell v
 hok:HOk X.prog X.w H s.heap
 len:σ.length=X.N.length
section
variable {X:Cx}{pins:List (Addr×Obj)}{σ:List (Option V)}{H H':Hp}{s:O4}{h':Heap}
theorem Cx.Ok.ME (ok:X.Ok) {b:Addr}{o:Obj} (e:X.base.get? b=some o):b∉X.fs:=fun hb=>by
 have:=(ok.iI.mem hb).1
 rw[e] at this;cases this
theorem Inv.bs (I:Inv X pins σ H s):∀ b o,X.base.get? b=some o->s.heap.get? b=some o/\H b=none:=fun b o e =>
 ⟨I.base.keep b o (I.ok.bs b o e).1 (I.ok.bs b o e).2 (I.ok.ME e) (I.ok.noex b o e),I.base.free b o (I.ok.bs b o e).1 (I.ok.bs b o e).2 (I.ok.noex b o e)⟩
theorem Inv.bk (I:Inv X pins σ H s):∀ b o,X.base.get? b=some o->s.heap.get? b=some o:=fun b o e=>(I.bs b o e).1
theorem Inv.mod (I:Inv X pins σ H s):Mod X.K X.mg X.base:=I.ok.mod
theorem Inv.kIn (I:Inv X pins σ H s):X.K.In s.heap:=I.ok.mod.kin.keeps I.bk
theorem Inv.lt (I:Inv X pins σ H s):X.env.locals < s.heap.objs.size:=let ⟨_,hn,_⟩:=I.loc;hn.lt
theorem Inv.sz (I:Inv X pins σ H s):X.s₀.heap.objs.size<=s.heap.objs.size:=PZ I.ok.above (Qk I.lt)
theorem Inv.MF (I:Inv X pins σ H s) {a:Addr} (h:s.heap.objs.size<=a):a∉X.fs:=fun hb=>by
 obtain ⟨_,o,ho,_⟩:=I.ok.iI.mem hb
 exact absurd (Py (O7 ho) (PZ I.sz h)) (QA _)
theorem Inv.cne (I:Inv X pins σ H s):∀ x c,X.env.cells.lookup x=some c->c≠X.env.locals:=fun x c e z=>by
 obtain ⟨v,o,ho,hd⟩:=I.cell x c e
 obtain ⟨m,⟨o',es,ep,ho',hd',_⟩,_⟩:=I.loc
 rw[z,ho'] at ho;cases ho;rw[hd'] at hd;cases hd
theorem Inv.iI (I:Inv X pins σ H s):s.heap.FunFrames X.base X.outer:=by
 have all:∀ (l:List Env),(∀ b∈frs l,b∈X.fs)->X.s₀.heap.FunFrames X.base l->s.heap.FunFrames X.base l:=by
  intro l
  induction l with
  | nil=>intro _ _;trivial
  | cons env r ih =>
   intro hs hl
   obtain ⟨hk,⟨L,o,hf,hn,ho,hd⟩,hr⟩:=hl
   have hL:L∈X.fs:=hs L (by unfold frs;rw[PF,hf];exact Pf)
   obtain ⟨sl,e⟩:=I.base.slot L o ho (I.ok.frf L hL) hL fun z=>I.ok.exfs L z hL
   exact ⟨hk,⟨L,_,hf,hn,e,hd⟩,ih (fun b hb=>hs b (by unfold frs;rw[PF,hf];exact Pb _ hb)) hr⟩
 exact all X.outer (fun _ hb=>hb) I.ok.iI
theorem Inv.stack (I:Inv X pins σ H s):s.heap.FunFrames X.base X.stack:=by
 rcases I.ok.stk with e | ⟨e,hf⟩
 ·rw[e];exact I.iI
 ·rw[e]
  obtain ⟨m,hn,_⟩:=I.loc
  refine .cons (by rw[I.ok.kind];decide) hf hn ?_ I.iI
  exact Heap.get?_none_of_le (PZ I.ok.bsz I.ok.above)
theorem Inv.kL (I:Inv X pins σ H s):∀ b∈frs X.stack,b∈X.env.locals :: X.fs:=fun b hb=>by
 rcases I.ok.stk with e | ⟨e,hf⟩
 ·rw[e] at hb;exact Pb _ hb
 ·rw[e] at hb
  unfold frs at hb
  rw[PF,hf] at hb
  exact hb
theorem Inv.nK (I:Inv X pins σ H s):∀ b∈frs X.stack,H b=none:=fun b hb=>by
 rcases List.mem_cons.mp (I.kL b hb) with e | hb
 ·rw[e];exact I.free
 ·obtain ⟨_,o,ho,_⟩:=I.ok.iI.mem hb
  exact I.base.free b o ho (I.ok.frf b hb) fun z=>I.ok.exfs b z hb
theorem Inv.step {g':Array GenState}{t':Nat}{d':Drawn}{ch:List Addr} (I:Inv X pins σ H s)
 (hch:∀ b∈ch,(b∈X.ex\/X.s₀.heap.objs.size<=b)/\b≠X.env.locals/\(∀ x c,X.env.cells.lookup x=some c->c≠b)/\∀ p∈X.pn++pins,p.1≠b)
 (keep:∀ b o,b≠X.env.locals->b∉X.fs->b∉ch->s.heap.get? b=some o->H b=none->h'.get? b=some o)
 (slot:∀ b o,b≠X.env.locals->b∈X.fs->b∉ch->s.heap.get? b=some o->H b=none->∃ sl,h'.get? b=some { o with slots:=sl }) (free:∀ b o,b∉ch->s.heap.get? b=some o->H b=none->H' b=none)
 (there:∀ b o,b∉ch->s.heap.get? b=some o->∃ o',h'.get? b=some o')
 (tups:∀ b xs,H b=some (.tup xs)->H' b=some (.tup xs)) (frzs:∀ b o u,H b=some (.frz o u)->H' b=some (.frz o u)) (tbls:∀ b ps,H b=some (.tbl ps)->∃ more,H' b=some (.tbl (ps++more)))
 (ns:∀ m,s.heap.Ns X.env.locals m->h'.Ns X.env.locals m) (hok:HOk X.prog X.w H' h') (hg:UG g') :
 Inv X pins σ H' { s with heap:=h',gens:=g',drawn:=d',toks:=t' }:=by
 have neL:∀ b o,X.s₀.heap.get? b=some o->b≠X.env.locals:=fun b o e=>PD (Py (O7 e) I.ok.above)
 have neC:∀ b o,X.s₀.heap.get? b=some o->b∉X.ex->b∉ch:=fun b o e hx hb=>by
  rcases (hch b hb).1 with z | z
  ·exact hx z
  ·exact absurd (Py (O7 e) z) (QA _)
 have cellK:∀ x c,X.env.cells.lookup x=some c->∀ v,s.heap.IsCell c v->h'.IsCell c v:=fun x c e v ⟨o,ho,hd⟩=>by
  have nch:c∉ch:=fun z=>(hch c z).2.2.1 x c e rfl
  by_cases hc:c∈X.fs
  ·obtain ⟨sl,q⟩:=slot c o (I.cne x c e) hc nch ho (I.freeC x c e)
   exact ⟨_,q,hd⟩
  ·exact ⟨o,keep c o (I.cne x c e) hc nch ho (I.freeC x c e),hd⟩
 refine ⟨I.ok,I.os,hg,⟨fun b o e n hb hx=>?_,fun b o e n hb hx=>?_,fun b o e n hx=>?_,fun b o e hx=>?_,fun b xs e=>tups b xs (I.base.tups b xs e),fun b o xs e=>frzs b o xs (I.base.frzs b o xs e),fun b ps e=>?_⟩,?_,fun x c e=>?_,?_,fun x c e=>?_,fun p hp=>?_,hok,I.len⟩
 ·exact keep b o (neL b o e) hb (neC b o e hx) (I.base.keep b o e n hb hx) (I.base.free b o e n hx)
 ·obtain ⟨sl,e1⟩:=I.base.slot b o e n hb hx
  obtain ⟨sl',e2⟩:=slot b _ (neL b o e) hb (neC b o e hx) e1 (I.base.free b o e n hx)
  exact ⟨sl',e2⟩
 ·obtain ⟨o',e1⟩:=I.base.there b o e hx
  exact free b o' (neC b o e hx) e1 (I.base.free b o e n hx)
 ·obtain ⟨o',e1⟩:=I.base.there b o e hx
  exact there b o' (neC b o e hx) e1
 ·obtain ⟨m1,e1⟩:=I.base.tbls b ps e
  obtain ⟨m2,e2⟩:=tbls b _ e1
  exact ⟨m1++m2,by rw[e2,Array.append_assoc]⟩
 ·obtain ⟨m,hn,hl⟩:=I.loc
  refine ⟨m,ns m hn,fun i x v e1 e2 e3=>?_⟩
  obtain ⟨u,r,l⟩:=hl i x v e1 e2 e3
  refine ⟨u,r,?_⟩
  rcases l with l | ⟨k,c,e,z⟩
  ·exact .inl l
  ·exact .inr ⟨k,c,e,cellK x c e _ z⟩
 ·obtain ⟨v,z⟩:=I.cell x c e
  exact ⟨v,cellK x c e v z⟩
 ·obtain ⟨m,⟨o,_,_,ho,_⟩,_⟩:=I.loc
  exact free _ o (fun z=>(hch _ z).2.1 rfl) ho I.free
 ·obtain ⟨v,o,ho,hd⟩:=I.cell x c e
  exact free c o (fun z=>(hch c z).2.2.1 x c e rfl) ho (I.freeC x c e)
 ·obtain ⟨e,n,ne,nf,d⟩:=I.pin p hp
  have nch:p.1∉ch:=fun z=>(hch p.1 z).2.2.2 p hp rfl
  exact ⟨keep p.1 p.2 ne nf nch e n,free p.1 p.2 nch e n,ne,nf,d⟩
theorem Inv.un {t':Nat} (I:Inv X pins σ H s) (u:Un X.fs [] H H' s.heap h') (hok:HOk X.prog X.w H' h'):Inv X pins σ H' { s with heap:=h',toks:=t' }:=by
 obtain ⟨m,⟨o,es,ep,ho,r⟩,_⟩:=id I.loc
 obtain ⟨sl,hL⟩:=u.any ho I.free (by simp)
 exact I.step (g':=s.gens) (d':=s.drawn) (ch:=[]) (fun _ z=>nomatch z) (fun b o _ hb _ e n=>u.keep b o e n hb (by simp)) (fun b o _ hb _ e n=>u.slot b o e n hb (by simp)) (fun b o _ e n=>u.free b o e n (by simp)) (fun b o _ e=>u.there b o e (by simp)) u.tups u.frzs u.tbls (fun m' hm=>by
  obtain ⟨o',es',ep',ho',r'⟩:=hm
  rw[ho] at ho';cases ho'
  exact ⟨_,es',ep',hL,r'⟩) hok I.bare
theorem Inv.call {g':Array GenState}{t':Nat}{d':Drawn}{ch:List Addr} (I:Inv X pins σ H s) (u:Un (frs X.stack) ch H H' s.heap h') (hok:HOk X.prog X.w H' h') (hg:UG g')
 (hch:∀ b∈ch,(b∈X.ex\/X.s₀.heap.objs.size<=b)/\b≠X.env.locals/\(∀ x c,X.env.cells.lookup x=some c->c≠b)/\∀ p∈X.pn++pins,p.1≠b) :
 Inv X pins σ H' { s with heap:=h',gens:=g',drawn:=d',toks:=t' }:=by
 obtain ⟨m,⟨o,es,ep,ho,r⟩,_⟩:=id I.loc
 obtain ⟨sl,hL⟩:=u.any ho I.free fun z=>(hch _ z).2.1 rfl
 exact I.step (ch:=ch) hch (fun b o hL hb hc e n=>u.keep b o e n (fun z=>(List.mem_cons.mp (I.kL b z)).elim hL hb) hc) (fun b o _ _ hc e n=>u.any e n hc) (fun b o hc e n=>u.free b o e n hc) (fun b o hc e=>u.there b o e hc) u.tups u.frzs u.tbls (fun m' hm=>by
  obtain ⟨o',es',ep',ho',r'⟩:=hm
  rw[ho] at ho';cases ho'
  exact ⟨_,es',ep',hL,r'⟩) hok hg
theorem Inv.turned {t':Nat}{it:Addr} (I:Inv X pins σ H s) (k:∀ b o,b≠it->s.heap.get? b=some o->h'.get? b=some o) (hn:H it=none) (hL:it≠X.env.locals)
 (h1:it∈X.ex\/X.s₀.heap.objs.size<=it) (h2:∀ x c,X.env.cells.lookup x=some c->c≠it) (h3:∀ p∈X.pn++pins,p.1≠it):Inv X pins σ H { s with heap:=h',toks:=t' }:=by
 have nit:∀ b u,H b=some u->b≠it:=fun b u e z=>by rw[z,hn] at e;cases e
 refine I.step (g':=s.gens) (d':=s.drawn) (ch:=[it]) (fun b hb=>?_) (fun b o _ _ hc e _=>k b o (fun z=>hc (by simp[z])) e) (fun b o _ _ hc e _=>⟨o.slots,k b o (fun z=>hc (by simp[z])) e⟩) (fun _ _ _ _ n=>n)
  (fun b o hc e=>⟨o,k b o (fun z=>hc (by simp[z])) e⟩) (fun _ _ e=>e) (fun _ _ _ e=>e) (fun b ps e=>⟨#[],by rw[e];simp⟩) (fun m hm=>?_) (fun b u e=>?_) I.bare
 ·have e:b=it:=by simpa using hb
  subst e
  exact ⟨h1,hL,h2,h3⟩
 ·obtain ⟨o,es,ep,ho,r⟩:=hm
  exact ⟨o,es,ep,k _ o (Qd hL) ho,r⟩
 ·refine (I.hok b u e).stay (fun c v hc q=>k c v ?_ q) (fun _ q=>q) fun _ _ q=>q
  rcases hc with z | z
  ·rw[z];exact nit b u e
  ·exact nit c _ z
theorem Inv.tok (I:Inv X pins σ H s) (t:Nat):Inv X pins σ H { s with toks:=t }:=I.un (h':=s.heap) (t':=t) Un.refl I.hok
theorem Inv.kept {t':Nat} (I:Inv X pins σ H s) (k:∀ b u,s.heap.get? b=some u->h'.get? b=some u):Inv X pins σ H { s with heap:=h',toks:=t' }:=I.un (Un.kept k) (I.hok.kept k)
theorem Inv.laid {a:Addr}{o:HO}{t':Nat} (I:Inv X pins σ H s) (k:∀ b u,s.heap.get? b=some u->h'.get? b=some u) (hp:s.heap.objs.size<=a) (new:cB X.prog X.w (upd H a o) h' a o) :
 Inv X pins σ (upd H a o) { s with heap:=h',toks:=t' }:=I.un (Un.laid k hp (I.hok.fresh hp)) (I.hok.laid k hp new)
theorem Inv.write {x e:Addr}{o:HO}{t':Nat} (I:Inv X pins σ H s) (mu:Mut (H x)) (he:e=x\/H e=some (.own x)) (k:∀ b u,b≠e->s.heap.get? b=some u->h'.get? b=some u) (heo:∃ u,h'.get? e=some u)
 (new:cB X.prog X.w (upd H x o) h' x o):Inv X pins σ (upd H x o) { s with heap:=h',toks:=t' }:=I.un (Un.write mu he k heo) (I.hok.write mu he k heo new)
theorem Inv.kC {pins':List (Addr×Obj)} (I:Inv X pins σ H s) (h:∀ p∈pins',s.heap.get? p.1=some p.2/\H p.1=none/\p.1≠X.env.locals/\p.1∉X.fs/\∀ v,p.2.data≠.cell v):Inv X pins' σ H s :=
 ⟨I.ok,I.os,I.bare,I.base,I.loc,I.cell,I.free,I.freeC,fun p hp=>(List.mem_append.mp hp).elim (fun z=>I.pin p (R0 _ z)) (h p),I.hok,I.len⟩
theorem pJ {N:List Str} (hN:N.Nodup) {i j:Nat}{x:Str} (a:N[i]?=some x) (b:N[j]?=some x):i=j:=by
 obtain ⟨h1,e1⟩:=List.getElem?_eq_some_iff.mp a
 obtain ⟨h2,e2⟩:=List.getElem?_eq_some_iff.mp b
 exact (List.getElem_inj hN).mp (e1.trans e2.symm)
theorem mV {M:Model}{A:Qi}{E:O3->O4->Prop}{i:Nat}{x:Str}{v:V}{u:O3}{Q:Unit->O4->Prop} (I:Inv X pins σ H s) (hN:X.N.Nodup) (hi:X.N[i]?=some x) (hx:Loc X.env.scope x) (r:RelV v u)
 (h:∀ s',Inv X pins (σ.set i (some v)) H s'->(∃ a,Qg a s.heap s'.heap/\(a=X.env.locals\/X.env.cells.lookup x=some a))->Q () s') (hf:X.fn x=true\/X.env.scope.names.lookup x=some .local:=by first | exact .inl rfl | exact .inr rfl | assumption):wpAny M A (storeName X.env x u) Q E s:=by
 obtain ⟨m,hn,hl⟩:=id I.loc
 have hcls:(X.env.scope.kind==.class||(X.env.scope.kind==.module&&X.env.locals != X.env.globals))=false:=by rw[I.ok.kind];rfl
 have hiσ:i < σ.length:=by rw[I.len];exact (List.getElem?_eq_some_iff.mp hi).1
 have cne:=I.cne
 have tracked:∀ {a:Addr}{h':Heap},(∃ o,s.heap.get? a=some o/\H a=none)->Qg a s.heap h'->HOk X.prog X.w H h':=fun {a h'} ha hs b ob e=>by
  obtain ⟨_,_,hfree⟩:=ha
  refine (I.hok b ob e).stay (fun c w' hc q=>(hs.2 c ?_).trans q) (fun _ q=>q) fun _ _ q=>q
  rintro rfl
  rcases hc with rfl | hc
  ·rw[hfree] at e;cases e
  ·rw[hfree] at hc;cases hc
 rcases hx with hk | hk
 ·refine wpAny_storeName_local hk hn (fun h' hn' hs=>?_) hcls
  obtain ⟨oL,_,_,hoL,_⟩:=id hn
  refine h _ ⟨I.ok,I.os,I.bare,⟨fun b o e n hb hx=>?_,fun b o e n hb hx=>?_,I.base.free,fun b o e hx=>?_,I.base.tups,I.base.frzs,I.base.tbls⟩,⟨_,hn',fun j y v' e1 e2 e3=>?_⟩,fun y c e=>?_,I.free,I.freeC,fun p hp=>?_,tracked ⟨oL,hoL,I.free⟩ hs,by simpa using I.len⟩ ⟨_,hs,.inl rfl⟩
  ·exact (hs.2 b (PD (Py (O7 e) I.ok.above))).trans (I.base.keep b o e n hb hx)
  ·obtain ⟨sl,e1⟩:=I.base.slot b o e n hb hx
   exact ⟨sl,(hs.2 b (PD (Py (O7 e) I.ok.above))).trans e1⟩
  ·obtain ⟨o',e1⟩:=I.base.there b o e hx
   exact ⟨o',(hs.2 b (PD (Py (O7 e) I.ok.above))).trans e1⟩
  ·by_cases hj:j=i
   ·subst hj
    rw[hi] at e1;cases e1
    rw[Qn hiσ] at e2
    cases e2
    exact ⟨u,r,.inl ⟨hk,by simp⟩⟩
   ·rw[PV (Qd hj)] at e2
    obtain ⟨u',r',q⟩:=hl j y v' e1 e2 e3
    refine ⟨u',r',?_⟩
    rcases q with ⟨k,e⟩ | ⟨k,c,e,z⟩
    ·refine .inl ⟨k,?_⟩
     have:y≠x:=fun e=>hj (pJ hN e1 (e ▸ hi))
     simp[this,e]
    ·exact .inr ⟨k,c,e,z.sameBut hs (cne y c e)⟩
  ·obtain ⟨w',z⟩:=I.cell y c e
   exact ⟨w',z.sameBut hs (cne y c e)⟩
  ·obtain ⟨e,n,ne,nf,d⟩:=I.pin p hp
   exact ⟨(hs.2 p.1 ne).trans e,n,ne,nf,d⟩
 ·have hfn:X.fn x=true:=by
   rcases hf with z | z
   ·exact z
   ·rw[z] at hk;cases hk
  obtain ⟨c,hc⟩:=I.ok.has x (.inl hk)
  obtain ⟨w',z⟩:=I.cell x c hc
  refine wpAny_storeName_cell I.ok.kind hk hc z (fun h' hc' hs=>?_)
  obtain ⟨oc,hoc,hocd⟩:=id z
  refine h { s with heap:=h' } ⟨I.ok,I.os,I.bare,⟨fun b o e n hb hx=>?_,fun b o e n hb hx=>?_,I.base.free,fun b o e hx=>?_,I.base.tups,I.base.frzs,I.base.tbls⟩,⟨m,hn.sameBut hs (Qd (cne x c hc)),fun j y v' e1 e2 e3=>?_⟩,fun y c' e=>?_,I.free,I.freeC,fun p hp=>?_,tracked ⟨oc,hoc,I.freeC x c hc⟩ hs,by simpa using I.len⟩ ⟨c,hs,.inr hc⟩
  ·exact (hs.2 b (PD (Py (O7 e) (I.ok.cab x c hfn hc)))).trans (I.base.keep b o e n hb hx)
  ·obtain ⟨sl,e1⟩:=I.base.slot b o e n hb hx
   exact ⟨sl,(hs.2 b (PD (Py (O7 e) (I.ok.cab x c hfn hc)))).trans e1⟩
  ·obtain ⟨o',e1⟩:=I.base.there b o e hx
   exact ⟨o',(hs.2 b (PD (Py (O7 e) (I.ok.cab x c hfn hc)))).trans e1⟩
  ·by_cases hj:j=i
   ·subst hj
    rw[hi] at e1;cases e1
    rw[Qn hiσ] at e2
    cases e2
    exact ⟨u,r,.inr ⟨.inl hk,c,hc,hc'⟩⟩
   ·rw[PV (Qd hj)] at e2
    obtain ⟨u',r',q⟩:=hl j y v' e1 e2 e3
    refine ⟨u',r',?_⟩
    rcases q with q | ⟨k,c',e,z'⟩
    ·exact .inl q
    ·refine .inr ⟨k,c',e,z'.sameBut hs ?_⟩
     rintro rfl
     exact hj (pJ hN e1 (I.ok.inj _ _ _ e hc ▸ hi))
  ·by_cases hcc:c'=c
   ·subst hcc;exact ⟨_,hc'⟩
   ·obtain ⟨w2,z2⟩:=I.cell y c' e
    exact ⟨w2,z2.sameBut hs hcc⟩
  ·obtain ⟨e,n,ne,nf,d⟩:=I.pin p hp
   refine ⟨(hs.2 p.1 ?_).trans e,n,ne,nf,d⟩
   intro q
   rw[q,hoc] at e
   have q':oc=p.2:=Pn e
   exact d w' (by rw[← q'];exact hocd)
theorem kM {M:Model}{A:Qi}{E:O3->O4->Prop}{i:Nat}{x:Str}{v:V}{u:O3}{Q:Unit->O4->Prop} (I:Inv X pins σ H s) (hN:X.N.Nodup) (hi:X.N[i]?=some x) (hx:Loc X.env.scope x) (r:RelV v u)
 (h:∀ s',Inv X pins (σ.set i (some v)) H s'->Q () s') (hf:X.fn x=true\/X.env.scope.names.lookup x=some .local:=by first | exact .inl rfl | exact .inr rfl | assumption):wpAny M A (storeName X.env x u) Q E s :=
 mV I hN hi hx r (fun s' I' _=>h s' I') hf
theorem Inv.IL {s':O4}{ch:List Addr} (I:Inv X pins σ H s) (ho:s'.os=s.os) (u:Un (frs X.stack) ch H H' s.heap s'.heap) (hok:HOk X.prog X.w H' s'.heap) (hg:UG s'.gens)
 (hch:∀ b∈ch,(b∈X.ex\/X.s₀.heap.objs.size<=b)/\b≠X.env.locals/\(∀ x c,X.env.cells.lookup x=some c->c≠b)/\∀ p∈X.pn++pins,p.1≠b):Inv X pins σ H' s':=by
 obtain ⟨h',g',d',t',o'⟩:=s'
 have e:o'=s.os:=ho
 subst e
 exact I.call (g':=g') (t':=t') (d':=d') u hok hg hch
end
noncomputable abbrev XK:=O3->Option Addr->Hp->Prop
noncomputable abbrev St:=List (Option V)
noncomputable abbrev VK:=V->Hp->Prop
noncomputable abbrev TE:=St->Hp->VK->Prop
noncomputable abbrev TT:=St->Hp->(Bool->Hp->Prop)->Prop
noncomputable abbrev TA:=St->Hp->(List V->Hp->Prop)->Prop
structure Ends where
 nx:St->Hp->Prop
 rt:VK
 bk:St->Hp->Prop:=fun _ _=>False
 ct:St->Hp->Prop:=fun _ _=>False
noncomputable abbrev TS:=Ends->St->Hp->Prop
noncomputable def EP (X:Cx) (pins:List (Addr×Obj)) (σ:St) (Q:VK) (u:O3) (s':O4):Prop:=∃ v H',Inv X pins σ H' s'/\RelV v u/\Q v H'
noncomputable def TP (X:Cx) (pins:List (Addr×Obj)) (σ:St) (Q:Bool->Hp->Prop) (b:Bool) (s':O4):Prop:=∃ H',Inv X pins σ H' s'/\Q b H'
noncomputable def AP (X:Cx) (pins:List (Addr×Obj)) (σ:St) (Q:List V->Hp->Prop) (us:List O3) (s':O4):Prop:=∃ vs H',Inv X pins σ H' s'/\au vs us/\Q vs H'
noncomputable def SP (X:Cx) (pins:List (Addr×Obj)) (D:Ends) (f:Flow) (s':O4):Prop :=
 match f with
 | .next=>∃ σ' H',Inv X pins σ' H' s'/\D.nx σ' H'
 | .brk=>∃ σ' H',Inv X pins σ' H' s'/\D.bk σ' H'
 | .cont=>∃ σ' H',Inv X pins σ' H' s'/\D.ct σ' H'
 | .ret u=>∃ v σ' H',Inv X pins σ' H' s'/\RelV v u/\D.rt v H'
noncomputable def PE (X:Cx) (e:R6) (t:TE):Prop :=
 ∀ (pins:List (Addr×Obj)) (s:O4) (σ:St) (H:Hp) (Q:VK),Inv X pins σ H s->t σ H Q->wpAny (Pw X.prog X.w) X.A (eval e X.env) (EP X pins σ Q) X.xe s
noncomputable def PT (X:Cx) (e:R6) (t:TT):Prop :=
 ∀ (pins:List (Addr×Obj)) (s:O4) (σ:St) (H:Hp) (Q:Bool->Hp->Prop),Inv X pins σ H s->t σ H Q->wpAny (Pw X.prog X.w) X.A (isTrue e X.env (eval e X.env)) (TP X pins σ Q) X.xe s
noncomputable def PW (X:Cx) (e:R6) (t:TT):Prop :=
 ∀ (whole:Sem O3) (pins:List (Addr×Obj)) (s:O4) (σ:St) (H:Hp) (Q:Bool->Hp->Prop),Inv X pins σ H s->t σ H Q->wpAny (Pw X.prog X.w) X.A (isTrue e X.env whole) (TP X pins σ Q) X.xe s
theorem PW.pt {X:Cx}{e:R6}{t:TT} (h:PW X e t):PT X e t:=h _
noncomputable def PA (X:Cx) (es:List R6) (t:TA):Prop :=
 ∀ (pos:Pos) (pins:List (Addr×Obj)) (s:O4) (σ:St) (H:Hp) (Q:List V->Hp->Prop),Inv X pins σ H s->t σ H Q->wpAny (Pw X.prog X.w) X.A (Uv (Rg pos (PL es X.env))) (AP X pins σ Q) X.xe s
noncomputable def PS (X:Cx) (st:UH) (t:TS):Prop :=
 ∀ (pins:List (Addr×Obj)) (s:O4) (σ:St) (H:Hp) (D:Ends),Inv X pins σ H s->t D σ H->wpAny (Pw X.prog X.w) X.A (exec st X.env) (SP X pins D) X.xe s
noncomputable def PSs (X:Cx) (st:List UH) (t:TS):Prop :=
 ∀ (pins:List (Addr×Obj)) (s:O4) (σ:St) (H:Hp) (D:Ends),Inv X pins σ H s->t D σ H->wpAny (Pw X.prog X.w) X.A (execs st X.env) (SP X pins D) X.xe s
theorem thn {α:Type}{t:Sem α}{Q Q':α->O4->Prop}{M:Model}{A:Qi}{E:O3->O4->Prop}{s:O4} (h:wpAny M A t Q E s) (hQ:∀ a s,Q a s->Q' a s):wpAny M A t Q' E s:=wpAny_mono h hQ fun _ _ x=>x
end L2
namespace L2
open PySem PySem.Spec PyProof.Rows
section
variable {X:Cx}
theorem bin {a b:R6}{ta tb:TE} (ha:PE X a ta) (hb:PE X b tb) {pins:List (Addr×Obj)}{s:O4}{σ:St}{H:Hp}{R:V->V->Hp->Prop} (I:Inv X pins σ H s) (h:ta σ H fun x H1=>tb σ H1 fun y H2=>R x y H2)
 {α:Type}{Q:α->O4->Prop}{f:O3->O3->Sem α}
 (hf:∀ v u s2 x y H2,Inv X pins σ H2 s2->RelV x v->RelV y u->R x y H2->wpAny (Pw X.prog X.w) X.A (f v u) Q X.xe s2) :
 wpAny (Pw X.prog X.w) X.A (eval a X.env) (fun v s₁=>wpAny (Pw X.prog X.w) X.A (eval b X.env) (fun u s₂=>wpAny (Pw X.prog X.w) X.A (f v u) Q X.xe s₂) X.xe s₁) X.xe s:=by
 refine thn (ha pins s σ H _ I h) fun v s1 zq=>?_
 obtain ⟨x,H1,I1,r1,q1⟩:=zq
 refine thn (hb pins s1 σ H1 _ I1 q1) fun u s2 zq=>?_
 obtain ⟨y,H2,I2,r2,q2⟩:=zq
 exact hf v u s2 x y H2 I2 r1 r2 q2
noncomputable def MG (i:Nat):TE:=fun σ H Q=>∃ v,σ[i]?=some (some v)/\Q v H
noncomputable def tC (v:V):TE:=fun _ H Q=>Q v H
theorem xA {i:Nat}{x:Str}{pos:Pos} (hN:X.N[i]?=some x) (hv:Vis X.env.scope x) (hd:(x==("__debug__":Str))=false:=by decide) (hcd:(x==("__classdict__":Str))=false:=by decide):PE X (.Name x pos) (MG i):=by
 intro pins s σ H Q I h
 obtain ⟨v,e,h⟩:=h
 obtain ⟨m,hn,hl⟩:=I.loc
 obtain ⟨u,r,l⟩:=hl i x v hN e hv
 have fin:EP X pins σ Q u s:=⟨v,H,I,r,h⟩
 rcases l with ⟨hk,hm⟩ | ⟨hk,c,hc,hcell⟩
 ·exact wpAny_Name (wpAny_loadName_local I.ok.kind hk hn hm fin) hd
 ·rcases hk with hk | hk
  ·exact wpAny_Name (wpAny_loadName_cell I.ok.kind hk hc hcell fin) hd
  ·exact wpAny_Name (wpAny_loadName_free I.ok.kind hk hc hcell fin hcd) hd
theorem rj {i j pos}:PE X (.Constant (.int i) j pos) (tC (.int i)):=fun _ _ _ H _ I h=>wpAny_Constant_int ⟨.int i,H,I.tok _,⟨_,rfl⟩,h⟩
theorem IM {b j pos}:PE X (.Constant (.bool b) j pos) (tC (.bl b)):=fun _ _ _ H _ I h=>Constant_bool ⟨.bl b,H,I,rfl,h⟩
theorem EZ {j pos}:PE X (.Constant .none j pos) (tC .non):=fun _ _ _ H _ I h=>Constant_none ⟨.non,H,I,rfl,h⟩
theorem E2 {x j pos}:PE X (.Constant (.str x) j pos) (tC (.str x)):=fun _ _ _ H _ I h=>Calls.Constant_str ⟨.str x,H,I.tok _,⟨_,rfl⟩,h⟩
noncomputable def Gl (X:Cx) (x:Str):Prop:=X.env.kindOf x=some .globalImplicit
theorem iX {E:O3->O4->Prop}{pins:List (Addr×Obj)}{s:O4}{σ:St}{H:Hp}{x:Str}{u:O3}{pos:Pos}{Q:O3->O4->Prop} (I:Inv X pins σ H s) (hg:Gl X x) (hm:X.mg x=some u) (h:Q u s)
 (hd:(x==("__debug__":Str))=false:=by decide):wpAny (Pw X.prog X.w) X.A (eval (.Name x pos) X.env) Q E s :=
 Us I.ok.kind hg (Calls.loadGlobal_global (by rw[I.ok.glob];exact I.mod.glob.keeps I.bk) hm h) hd
theorem fU {E:O3->O4->Prop}{pins:List (Addr×Obj)}{s:O4}{σ:St}{H:Hp}{x:Str}{u:O3}{pos:Pos}{Q:O3->O4->Prop} (I:Inv X pins σ H s) (hg:Gl X x) (hm:X.mg x=none) (hv:SD x=some u) (h:Q u s)
 (hn:x≠"__name__":=by decide) (hd:(x==("__debug__":Str))=false:=by decide):wpAny (Pw X.prog X.w) X.A (eval (.Name x pos) X.env) Q E s:=by
 obtain ⟨mb,h1,h2⟩:=I.mod.blt
 exact Us I.ok.kind hg (Calls.loadGlobal_builtin (by rw[I.ok.glob];exact I.mod.glob.keeps I.bk) hm (by rw[I.ok.blt];exact h1.keeps I.bk) ((h2 x hn).trans hv) h) hd
theorem sZ {x:Str}{v:V}{u:O3}{pos:Pos} (hg:Gl X x) (hm:X.mg x=some u) (r:RelV v u) (hd:(x==("__debug__":Str))=false:=by decide):PE X (.Name x pos) (tC v) :=
 fun _ _ _ H _ I h=>iX I hg hm ⟨v,H,I,r,h⟩ hd
theorem iY {x:Str}{v:V}{u:O3}{pos:Pos} (hg:Gl X x) (hm:X.mg x=none) (hv:SD x=some u) (r:RelV v u) (hn:x≠"__name__":=by decide) (hd:(x==("__debug__":Str))=false:=by decide):PE X (.Name x pos) (tC v) :=
 fun _ _ _ H _ I h=>fU I hg hm hv ⟨v,H,I,r,h⟩ hn hd
variable {a b:R6}{ta tb:TE}{pos:Pos}
noncomputable def PC (X:Cx) (op:CmpOp) (a b:R6) (t:TE):Prop :=
 ∀ (pins:List (Addr×Obj)) (s:O4) (σ:St) (H:Hp) (Q:VK),Inv X pins σ H s->t σ H Q →
  wpAny (Pw X.prog X.w) X.A (eval a X.env) (fun v s₁=>wpAny (Pw X.prog X.w) X.A (eval b X.env) (fun u s₂=>wpAny (Pw X.prog X.w) X.A (P7 op v u) (EP X pins σ Q) X.xe s₂) X.xe s₁) X.xe s
noncomputable def tB (t:TE):TT:=fun σ H Q=>t σ H fun x H1=>∃ c,x=.bl c/\Q c H1
theorem MH {op:CmpOp}{t:TE} (h:PC X op a b t) (h1:Uh op b=false:=by first | exact nobehind _ (by decide) (by decide) | rfl):PT X (.Compare a [op] [b] pos) (tB t):=by
 intro pins s σ H Q I hw
 refine wpAny_isTrue_Compare1 (thn (h pins s σ H _ I hw) fun v s1 h1=>thn h1 fun u s2 h2=>thn h2 fun c s3 ⟨x,H1,I1,r1,q1⟩=>?_) h1
 obtain ⟨d,rfl,q⟩:=q1
 cases r1
 exact Qv ⟨H1,I1,q⟩
theorem E3 {e:R6}{t:TE} (h:PE X e t) (he:∀ whole,isTrue e X.env whole=(do let v ← whole;standAt e.pos;holding [v] (truthy v)):=by intro _;rfl):PT X e (tB t):=by
 intro pins s σ H Q I hw
 refine isTrue_plain (thn (h pins s σ H _ I hw) fun v s1 ⟨x,H1,I1,r1,q1⟩=>?_) (he _)
 obtain ⟨d,rfl,q⟩:=q1
 cases r1
 exact Qv ⟨H1,I1,q⟩
variable {tA tB':TT}{rest:List R6}
noncomputable def IP (t u:TT):TT:=fun σ H Q=>t σ H fun c H1=>if c=true then u σ H1 Q else Q false H1
noncomputable def tOr (t u:TT):TT:=fun σ H Q=>t σ H fun c H1=>if c=true then Q true H1 else u σ H1 Q
noncomputable def IQ (t:TT):TT:=fun σ H Q=>t σ H fun c H1=>Q (!c) H1
theorem Bg (ha:PT X a tA):PW X (.BoolOp .And [a] pos) tA:=by
 intro wh pins s σ H Q I h
 refine isTrue_and (thn (ha pins s σ H Q I h) fun c s1 e=>?_)
 cases c with
 | true=>exact isTrue_and_nil e
 | false=>exact e
theorem E4 (ha:PT X a tA):PW X (.BoolOp .Or [a] pos) tA:=by
 intro wh pins s σ H Q I h
 refine isTrue_or (thn (ha pins s σ H Q I h) fun c s1 e=>?_)
 cases c with
 | false=>exact isTrue_or_nil e
 | true=>exact e
theorem xB (ha:PT X a tA) (hb:PW X (.BoolOp .And (b :: rest) pos) tB'):PW X (.BoolOp .And (a :: b :: rest) pos) (IP tA tB'):=by
 intro wh pins s σ H Q I h
 refine isTrue_and (thn (ha pins s σ H _ I h) fun c s1 zq=>?_)
 obtain ⟨H1,I1,q1⟩:=zq
 cases c with
 | true=>exact hb wh pins s1 σ H1 Q I1 q1
 | false=>exact ⟨H1,I1,q1⟩
theorem Em (ha:PT X a tA) (hb:PW X (.BoolOp .Or (b :: rest) pos) tB'):PW X (.BoolOp .Or (a :: b :: rest) pos) (tOr tA tB'):=by
 intro wh pins s σ H Q I h
 refine isTrue_or (thn (ha pins s σ H _ I h) fun c s1 zq=>?_)
 obtain ⟨H1,I1,q1⟩:=zq
 cases c with
 | true=>exact ⟨H1,I1,q1⟩
 | false=>exact hb wh pins s1 σ H1 Q I1 q1
theorem E5 (ha:PT X a tA):PT X (.UnaryOp .Not a pos) (IQ tA):=by
 intro pins s σ H Q I h
 exact isTrue_not (ha pins s σ H (fun c H1=>Q (!c) H1) I h)
noncomputable def En (ta tb:TE):TE:=fun σ H Q=>ta σ H fun x H1=>∃ c,x=.bl c/\if c=true then tb σ H1 Q else Q (.bl false) H1
noncomputable def IR (ta tb:TE):TE:=fun σ H Q=>ta σ H fun x H1=>∃ c,x=.bl c/\if c=true then Q (.bl true) H1 else tb σ H1 Q
noncomputable def Eo (ta:TE):TE:=fun σ H Q=>ta σ H fun x H1=>∃ c,x=.bl c/\Q (.bl (!c)) H1
theorem xC {op}{t:TE} (h:PE X a t):PE X (.BoolOp op [a] pos) t:=fun pins s σ H Q I hw=>BoolOp_one (h pins s σ H Q I hw)
theorem xD (ha:PE X a ta) (hb:PE X (.BoolOp .And (b :: rest) pos) tb):PE X (.BoolOp .And (a :: b :: rest) pos) (En ta tb):=by
 intro pins s σ H Q I h
 refine BoolOp_and (thn (ha pins s σ H _ I h) fun v s1 zq=>?_)
 obtain ⟨x,H1,I1,r1,q1⟩:=zq
 obtain ⟨c,rfl,q1⟩:=q1
 cases r1
 refine Qv ?_
 cases c with
 | true=>exact hb pins s1 σ H1 Q I1 q1
 | false=>exact ⟨.bl false,H1,I1,rfl,q1⟩
theorem Ep (ha:PE X a ta) (hb:PE X (.BoolOp .Or (b :: rest) pos) tb):PE X (.BoolOp .Or (a :: b :: rest) pos) (IR ta tb):=by
 intro pins s σ H Q I h
 refine BoolOp_or (thn (ha pins s σ H _ I h) fun v s1 zq=>?_)
 obtain ⟨x,H1,I1,r1,q1⟩:=zq
 obtain ⟨c,rfl,q1⟩:=q1
 cases r1
 refine Qv ?_
 cases c with
 | false=>exact hb pins s1 σ H1 Q I1 q1
 | true=>exact ⟨.bl true,H1,I1,rfl,q1⟩
theorem E6 (ha:PE X a ta):PE X (.UnaryOp .Not a pos) (Eo ta):=by
 intro pins s σ H Q I h
 refine UnaryOp_ (thn (ha pins s σ H _ I h) fun v s1 zq=>?_)
 obtain ⟨x,H1,I1,r1,q1⟩:=zq
 obtain ⟨c,rfl,q1⟩:=q1
 cases r1
 exact not_of (Qv ⟨.bl (!c),H1,I1,rfl,q1⟩)
noncomputable def tIf (t:TT) (ta tb:TE):TE:=fun σ H Q=>t σ H fun c H1=>if c=true then ta σ H1 Q else tb σ H1 Q
theorem xE {c:R6} (hc:PT X c tA) (ha:PE X a ta) (hb:PE X b tb):PE X (.IfExp c a b pos) (tIf tA ta tb):=by
 intro pins s σ H Q I h
 refine wpAny_IfExp (thn (hc pins s σ H _ I h) fun d s1 zq=>?_)
 obtain ⟨H1,I1,q1⟩:=zq
 cases d with
 | true=>exact ha pins s1 σ H1 Q I1 q1
 | false=>exact hb pins s1 σ H1 Q I1 q1
end
end L2
namespace L2
open PySem PySem.Spec PyProof.Rows
noncomputable def SqL (K:O0) (H:Hp) (a:Addr) (xs:List V):Prop :=
 Rd H a (.lst xs) ∨
  ∃ (o:Obj) (its:Array O3) (n:Nat),K.lookup a=some o/\o.cls=.type "list"/\o.dict=none/\o.data=.seq its n/\its.size<=sizeLine/\au xs its.toList
noncomputable def SqT (K:O0) (H:Hp) (a:Addr) (xs:List V):Prop :=
 Rd H a (.tup xs) ∨
  ∃ (o:Obj) (its:Array O3) (n:Nat),K.lookup a=some o/\o.cls=.type "tuple"/\o.data=.seq its n/\its.size<=sizeLine/\au xs its.toList
noncomputable def MI:O3->Option V
 | .none=>some .non
 | .bool b=>some (.bl b)
 | .int i _=>some (.int i)
 | .str x _=>some (.str x)
 | .bytes b _=>some (.byt b)
 | .float b _=>some (.flt b)
 | .ref a=>some (.ref a)
 | .type n=>some (.ty n)
 | _=>none
theorem RelV.abs {x:V}{u:O3} (r:RelV x u):MI u=some x:=by
 cases x with
 | non=>cases r;rfl
 | bl _=>cases r;rfl
 | int _=>obtain ⟨t,rfl⟩:=r;rfl
 | str _=>obtain ⟨t,rfl⟩:=r;rfl
 | byt _=>obtain ⟨t,rfl⟩:=r;rfl
 | flt _=>obtain ⟨t,rfl⟩:=r;rfl
 | ref _=>cases r;rfl
 | ty _=>cases r;rfl
theorem RelV.inj {x y:V}{u:O3} (r:RelV x u) (q:RelV y u):x=y:=Pn (r.abs.symm.trans q.abs)
theorem au.inj:∀ {xs ys:List V}{us:List O3},au xs us->au ys us->xs=ys
 | _,_,_,.nil,.nil=>rfl
 | _,_,_,.cons r t,.cons r' t'=>by rw[r.inj r',au.inj t t']
section
variable {X:Cx}{pins:List (Addr×Obj)}{σ:St}{H:Hp}{s:O4}{a:Addr}{xs ys:List V}
theorem Inv.list (I:Inv X pins σ H s) (h:SqL X.K H a xs):∃ its:List O3,au xs its/\PlainL s.heap a its.toArray/\xs.length<=sizeLine:=by
 rcases h with h | ⟨o,its,n,hk,hc,hd,hs,hz,r⟩
 ·obtain ⟨z,its,n,r,e⟩:=h.ok I.hok
  exact ⟨its,r,⟨_,n,e,rfl,rfl,rfl⟩,z⟩
 ·refine ⟨its.toList,r,⟨o,n,I.kIn a o hk,hc,hd,by simpa using hs⟩,?_⟩
  have e:=r.length
  simp only[Qs] at e
  omega
theorem Inv.tuple (I:Inv X pins σ H s) (h:SqT X.K H a xs):∃ its:List O3,au xs its/\IsTup s.heap a its.toArray/\xs.length<=sizeLine:=by
 rcases h with h | ⟨o,its,n,hk,hc,hs,hz,r⟩
 ·obtain ⟨z,its,r,p⟩:=h.ok I.hok
  exact ⟨its,r,p,z⟩
 ·refine ⟨its.toList,r,⟨o,I.kIn a o hk,hc,n,by simpa using hs⟩,?_⟩
  have e:=r.length
  simp only[Qs] at e
  omega
theorem Inv.pK (I:Inv X pins σ H s) (h:SqL X.K H a xs) (h':SqL X.K H a ys):xs=ys:=by
 obtain ⟨its,r,⟨o,n,e,_,_,d⟩,_⟩:=I.list h
 obtain ⟨its',r',⟨o',n',e',_,_,d'⟩,_⟩:=I.list h'
 rw[e] at e';cases e'
 rw[d] at d'
 injection d' with d1 _
 have:its=its':=by simpa using congrArg Vf d1
 subst this
 exact r.inj r'
theorem Inv.vC (I:Inv X pins σ H s) (h:SqT X.K H a xs) (h':SqT X.K H a ys):xs=ys:=by
 obtain ⟨its,r,⟨o,e,_,n,d⟩,_⟩:=I.tuple h
 obtain ⟨its',r',⟨o',e',_,n',d'⟩,_⟩:=I.tuple h'
 rw[e] at e';cases e'
 rw[d] at d'
 injection d' with d1 _
 have:its=its':=by simpa using congrArg Vf d1
 subst this
 exact r.inj r'
end
noncomputable abbrev Cx.mh (X:Cx) (E:O3->O4->Prop):Cx:={ X with xe:=E }
noncomputable abbrev Cx.nox (X:Cx):Cx:=X.mh fun _ _=>False
theorem Cx.Ok.mh {X:Cx} (ok:X.Ok) (E:O3->O4->Prop):(X.mh E).Ok :=
 ⟨ok.mod,ok.kind,ok.glob,ok.blt,ok.above,ok.inj,ok.has,ok.cab,ok.hd,ok.frames,ok.stk,ok.exf,ok.bs,ok.bsz,ok.noex,ok.exfs,ok.iI,ok.frf⟩
theorem Cx.Ok.gq {X:Cx}{E:O3->O4->Prop} (ok:(X.mh E).Ok):X.Ok :=
 ⟨ok.mod,ok.kind,ok.glob,ok.blt,ok.above,ok.inj,ok.has,ok.cab,ok.hd,ok.frames,ok.stk,ok.exf,ok.bs,ok.bsz,ok.noex,ok.exfs,ok.iI,ok.frf⟩
section
variable {X:Cx}{pins:List (Addr×Obj)}{σ:St}{H:Hp}{s:O4}{E:O3->O4->Prop}
theorem Inv.mh (I:Inv X pins σ H s) (E:O3->O4->Prop):Inv (X.mh E) pins σ H s:=⟨I.ok.mh E,I.os,I.bare,I.base,I.loc,I.cell,I.free,I.freeC,I.pin,I.hok,I.len⟩
theorem Inv.gq (I:Inv (X.mh E) pins σ H s):Inv X pins σ H s:=⟨I.ok.gq,I.os,I.bare,I.base,I.loc,I.cell,I.free,I.freeC,I.pin,I.hok,I.len⟩
theorem SP.gq {D:Ends}{f:Flow}{s':O4} (h:SP (X.mh E) pins D f s'):SP X pins D f s':=by
 cases f with
 | next=>obtain ⟨σ',H',I,q⟩:=h;exact ⟨σ',H',I.gq,q⟩
 | brk=>obtain ⟨σ',H',I,q⟩:=h;exact ⟨σ',H',I.gq,q⟩
 | cont=>obtain ⟨σ',H',I,q⟩:=h;exact ⟨σ',H',I.gq,q⟩
 | ret u=>obtain ⟨v,σ',H',I,r,q⟩:=h;exact ⟨v,σ',H',I.gq,r,q⟩
theorem PSs.nox {st:List UH}{t:TS} (h:PSs X.nox st t):PSs X st t:=fun pins s σ H D I hw =>
 wpAny_mono (h pins s σ H D (I.mh _) hw) (fun _ _ q=>q.gq) fun _ _ z=>P5 z
end
section
variable {X:Cx}{st:UH}{rest:List UH}{t u:TS}{e:R6}{te:TE}{pos:Pos}
noncomputable def IS:TS:=fun D σ H=>D.nx σ H
noncomputable def IT (t u:TS):TS:=fun D σ H=>t { D with nx:=u D } σ H
theorem Bh:PSs X [] IS:=fun _ _ σ H _ I h=>Tu ⟨σ,H,I,h⟩
theorem xF (h1:PS X st t) (h2:PSs X rest u):PSs X (st :: rest) (IT t u):=by
 intro pins s σ H D I h
 refine wpAny_execs_cons (thn (h1 pins s σ H { D with nx:=u D } I h) fun f s1 q=>?_)
 cases f with
 | next =>
  obtain ⟨σ',H',I',q⟩:=q
  exact h2 pins s1 σ' H' D I' q
 | ret v=>exact q
 | brk=>exact q
 | cont=>exact q
theorem Bj (h1:PS X st t):PSs X [st] t:=by
 intro pins s σ H D I h
 refine wpAny_execs_cons (thn (h1 pins s σ H D I h) fun f s1 q=>?_)
 cases f with
 | next=>exact Tu q
 | ret v=>exact q
 | brk=>exact q
 | cont=>exact q
noncomputable def E7:TS:=fun D σ H=>D.bk σ H
noncomputable def IU:TS:=fun D σ H=>D.ct σ H
theorem xG:PS X (.Break pos) E7:=fun _ _ σ H _ I h=>wpAny_Break ⟨σ,H,I,h⟩
theorem pL:PS X (.Continue pos) IU:=fun _ _ σ H _ I h=>wpAny_Continue ⟨σ,H,I,h⟩
theorem Inv.quiet {pins:List (Addr×Obj)}{σ:St}{H:Hp}{s:O4} (I:Inv X pins σ H s):interactive X.env=false:=by simp[interactive,I.ok.kind]
noncomputable def IV (te:TE):TS:=fun D σ H=>te σ H fun _ H1=>D.nx σ H1
theorem Bk (he:PE X e te) (hs:Ss e none pos.line X.env=pure false:=by rfl):PS X (.Expr e pos) (IV te):=by
 intro pins s σ H D I h
 exact wpAny_Expr_any (thn (he pins s σ H _ I h) fun v s1 ⟨x,H1,I1,r1,q1⟩=>⟨σ,H1,I1,q1⟩) I.quiet hs
noncomputable def MJ (te:TE):TS:=fun D σ H=>te σ H D.rt
theorem xH (he:PE X e te):PS X (.Return (some e) pos) (MJ te):=by
 intro pins s σ H D I h
 exact wpAny_Return_some (thn (he pins s σ H _ I h) fun v s1 ⟨x,H1,I1,r1,q1⟩=>⟨x,σ,H1,I1,r1,q1⟩)
noncomputable def MK (c:TT) (t u:TS):TS:=fun D σ H=>c σ H fun b H1=>if b=true then t D σ H1 else u D σ H1
theorem IW {c:R6}{a b:List UH}{tc:TT} (hc:PT X c tc) (ha:PSs X a t) (hb:PSs X b u):PS X (.If c a b pos) (MK tc t u):=by
 intro pins s σ H D I h
 refine wpAny_If (thn (hc pins s σ H _ I h) fun d s1 zq=>?_)
 obtain ⟨H1,I1,q1⟩:=zq
 cases d with
 | true=>exact ha pins s1 σ H1 D I1 q1
 | false=>exact hb pins s1 σ H1 D I1 q1
end
noncomputable abbrev TG:=V->St->Hp->(St->Hp->Prop)->Prop
noncomputable abbrev TGs:=List V->St->Hp->(St->Hp->Prop)->Prop
noncomputable def PG (X:Cx) (target:R6) (t:TG):Prop :=
 ∀ (pins:List (Addr×Obj)) (s:O4) (σ:St) (H:Hp) (v:V) (u:O3) (Q:St->Hp->Prop),Inv X pins σ H s->RelV v u->t v σ H Q →
  wpAny (Pw X.prog X.w) X.A (U5 target X.env u) (fun _ s'=>∃ σ' H',Inv X pins σ' H' s'/\Q σ' H') X.xe s
noncomputable def PGs (X:Cx) (ts:List R6) (t:TGs):Prop :=
 ∀ (pins:List (Addr×Obj)) (s:O4) (σ:St) (H:Hp) (vs:List V) (us:List O3) (Q:St->Hp->Prop),Inv X pins σ H s->au vs us->t vs σ H Q →
  wpAny (Pw X.prog X.w) X.A (assignInOrder ((TM ts X.env).map (·.2)) us) (fun _ s'=>∃ σ' H',Inv X pins σ' H' s'/\Q σ' H') X.xe s
noncomputable abbrev E8:=V->V->V->Hp->(Hp->Prop)->Prop
noncomputable def E9 (X:Cx) (t:E8):Prop :=
 ∀ (pins:List (Addr×Obj)) (s:O4) (σ:St) (H:Hp) (o i v:V) (ov iv u:O3) (Q:Hp->Prop),Inv X pins σ H s->RelV o ov->RelV i iv->RelV v u->t o i v H Q →
  wpAny (Pw X.prog X.w) X.A (setItem ov iv u) (fun _ s'=>∃ H',Inv X pins σ H' s'/\Q H') X.xe s
noncomputable abbrev TIp:=V->V->Hp->VK->Prop
noncomputable def PIp (X:Cx) (op:Sa) (t:TIp):Prop :=
 ∀ (pins:List (Addr×Obj)) (s:O4) (σ:St) (H:Hp) (x y:V) (v u:O3) (Q:VK),Inv X pins σ H s->RelV x v->RelV y u->t x y H Q →
  wpAny (Pw X.prog X.w) X.A (inplaceOp op v u) (EP X pins σ Q) X.xe s
section
variable {X:Cx}{pos:Pos}
noncomputable def pM (i:Nat):TG:=fun v σ H Q=>Q (σ.set i (some v)) H
theorem nL {i:Nat}{x:Str} (hN:X.N.Nodup) (hi:X.N[i]?=some x) (hx:Loc X.env.scope x) (hf:X.fn x=true\/X.env.scope.names.lookup x=some .local:=by first | exact .inl rfl | exact .inr rfl | assumption):PG X (.Name x pos) (pM i):=by
 intro pins s σ H v u Q I r h
 exact wpAny_assign_Name (kM I hN hi hx r (fun s' I'=>⟨_,H,I',h⟩) hf)
noncomputable def Fb:TGs:=fun vs σ H Q=>vs=[]/\Q σ H
noncomputable def Er (t:TG) (u:TGs):TGs:=fun vs σ H Q=>∃ v r,vs=v :: r/\t v σ H fun σ' H'=>u r σ' H' Q
theorem Bl:PGs X [] Fb:=by
 intro pins s σ H vs us Q I r h
 obtain ⟨e,h⟩:=h
 subst e
 cases r
 exact assignInOrder_nil ⟨σ,H,I,h⟩
theorem pN {e:R6}{es:List R6}{t:TG}{u:TGs} (h1:PG X e t) (h2:PGs X es u)
 (hs:(TM (e :: es) X.env).map (·.2)=U5 e X.env :: (TM es X.env).map (·.2):=by rfl):PGs X (e :: es) (Er t u):=by
 intro pins s σ H vs us Q I r h
 obtain ⟨v,vr,e1,h⟩:=h
 subst e1
 cases r with
 | cons r rr =>
  rw[hs]
  refine assignInOrder_cons (thn (h1 pins s σ H _ _ _ I r h) fun _ s1 zq=>?_)
  obtain ⟨σ1,H1,I1,q1⟩:=zq
  exact h2 pins s1 σ1 H1 _ _ Q I1 rr q1
noncomputable def ML (K:O0) (n:Nat) (t:TGs):TG:=fun v σ H Q=>∃ a xs,v=.ref a/\SqT K H a xs/\xs.length=n/\t xs σ H Q
theorem Fc {es:List R6}{k:Nat}{t:TGs}{n:Nat} (hc:X.calm=true) (h:PGs X es t)
 (hn:(TM es X.env).length=n:=by rfl) (hst:(TM es X.env).findIdx? (·.1)=none:=by rfl):PG X (.Tuple es k pos) (ML X.K n t):=by
 intro pins s σ H v u Q I r hw
 obtain ⟨a,xs,e1,hq,hl,hw⟩:=hw
 subst e1
 cases r
 obtain ⟨its,rv,ht,hz⟩:=I.tuple hq
 refine assign_Tuple_tuple (I.ok.hd hc) ht (by simp[hn,← hl,rv.length]) hst fun h' hx=>?_
 have I1:Inv X pins σ H { s with heap:=h' }:=I.kept (t':=s.toks) fun b o e=>hx b o (PD (O7 e)) e
 exact h pins _ σ H xs _ Q I1 (by simpa using rv) hw
noncomputable def Fd (to ti:TE) (t:E8):TG:=fun v σ H Q=>to σ H fun o H1=>ti σ H1 fun i H2=>t o i v H2 fun H3=>Q σ H3
theorem xJ {o i:R6}{to ti:TE}{t:E8} (ho:PE X o to) (hi:PE X i ti) (hs:E9 X t)
 (ha:∀ v,U5 (.Subscript o i pos) X.env v=(do
  let ov ← holding [v] (eval o X.env)
  let iv ← holding [v,ov] (eval i X.env)
  standAt pos
  holding [v,ov,iv] (setItem ov iv v)
  release [v,ov,iv] []):=by intro _;rfl):PG X (.Subscript o i pos) (Fd to ti t):=by
 intro pins s σ H v u Q I r h
 rw[ha]
 refine wpAny_bind (Qh (thn (ho pins s σ H _ I h) fun ov s1 zq=>?_))
 obtain ⟨x,H1,I1,r1,q1⟩:=zq
 refine wpAny_bind (Qh (thn (hi pins s1 σ H1 _ I1 q1) fun iv s2 zq=>?_))
 obtain ⟨y,H2,I2,r2,q2⟩:=zq
 refine wpAny_bind (VB (wpAny_bind (Qh (thn (hs pins s2 σ H2 x y v ov iv u _ I2 r1 r2 r q2) fun _ s3 zq=>?_))))
 obtain ⟨H3,I3,q3⟩:=zq
 exact wpAny_release ⟨σ,H3,I3,q3⟩
noncomputable def vD (te:TE) (g:TG):TS:=fun D σ H=>te σ H fun x H1=>g x σ H1 D.nx
theorem xK {tg e:R6}{te:TE}{g:TG} (he:PE X e te) (hg:PG X tg g) (hs:swapsWithSole [tg] e pos.line X.env=pure false:=by rfl) (hw:swappedStores [tg] e X.env=pure none:=by rfl)
 (h1:(TM [tg] X.env).map (·.2)=[U5 tg X.env]:=by rfl):PS X (.Assign [tg] e pos) (vD te g):=by
 intro pins s σ H D I h
 refine wpAny_Assign_stores (thn (he pins s σ H _ I h) fun v s1 ⟨x,H1,I1,r1,q1⟩=>?_) hs hw
 rw[h1]
 exact thn (hg pins s1 σ H1 x v _ I1 r1 q1) fun _ s2 q=>q
theorem rA {i:Nat}{x:Str}{e:R6}{te:TE}{pos':Pos} (hN:X.N.Nodup) (hi:X.N[i]?=some x) (hx:Loc X.env.scope x) (he:PE X e te) (hs:Ss e (some (.Name x pos')) pos.line X.env=pure false:=by rfl) (hf:X.fn x=true\/X.env.scope.names.lookup x=some .local:=by first | exact .inl rfl | exact .inr rfl | assumption) :
 PS X (.Assign [.Name x pos'] e pos) (vD te (pM i)):=by
 intro pins s σ H D I h
 refine wpAny_Assign_Name (thn (he pins s σ H _ I h) fun v s1 ⟨y,H1,I1,r1,q1⟩=>?_) hs
 exact kM I1 hN hi hx r1 (fun s2 I2=>⟨_,H1,I2,q1⟩) hf
noncomputable def IX (i:Nat) (te:TE) (ti:TIp):TS:=fun D σ H=>∃ x,σ[i]?=some (some x)/\te σ H fun y H1=>ti x y H1 fun z H2=>D.nx (σ.set i (some z)) H2
theorem Fe {i:Nat}{x:Str}{e:R6}{te:TE}{op:Sa}{ti:TIp}{pos':Pos} (hN:X.N.Nodup) (hi:X.N[i]?=some x) (hx:Loc X.env.scope x) (he:PE X e te) (ho:PIp X op ti) (hf:X.fn x=true\/X.env.scope.names.lookup x=some .local:=by first | exact .inl rfl | exact .inr rfl | assumption) :
 PS X (.AugAssign (.Name x pos') op e pos) (IX i te ti):=by
 intro pins s σ H D I h
 obtain ⟨v,e1,h⟩:=h
 obtain ⟨m,hn,hl⟩:=I.loc
 have vis:Vis X.env.scope x:=by rcases hx with k | k;exact .inl k;exact .inr (.inl k)
 obtain ⟨u,r,l⟩:=hl i x v hi e1 vis
 refine wpAny_AugAssign_Name ?_
 have go:wpAny (Pw X.prog X.w) X.A (eval e X.env) (fun w s₂=>wpAny (Pw X.prog X.w) X.A (inplaceOp op u w) (fun r s₃=>wpAny (Pw X.prog X.w) X.A (storeName X.env x r) (fun _=>SP X pins D .next) X.xe s₃) X.xe s₂) X.xe s:=by
  refine thn (he pins s σ H _ I h) fun w s1 zq=>?_
  obtain ⟨y,H1,I1,r1,q1⟩:=zq
  refine thn (ho pins s1 σ H1 v y u w _ I1 r r1 q1) fun z s2 zq=>?_
  obtain ⟨zv,H2,I2,r2,q2⟩:=zq
  exact kM I2 hN hi hx r2 (fun s3 I3=>⟨_,H2,I3,q2⟩) hf
 rcases l with ⟨hk,hm⟩ | ⟨hk,c,hc,hcell⟩
 ·exact wpAny_loadName_local I.ok.kind hk hn hm go
 ·rcases hk with hk | hk
  ·exact wpAny_loadName_cell I.ok.kind hk hc hcell go
  ·rcases hx with k | k
   ·have:X.env.scope.names.lookup x=some .free:=hk
    rw[k] at this;cases this
   ·have:X.env.scope.names.lookup x=some .free:=hk
    rw[k] at this;cases this
end
section
variable {X:Cx}{pos:Pos}
noncomputable def xM (c:TT) (tb:TS):TS:=fun D σ H=>∃ W:Nat->St->Hp->Prop,(∃ m,W m σ H)/\∀ m σ H,W m σ H →
 c σ H fun b H1=>if b=true then ∃ N:St->Hp->Prop,(∀ σ' H',N σ' H'->∃ m',m' < m/\W m' σ' H')/\tb { D with nx:=N,ct:=N,bk:=D.nx } σ H1 else D.nx σ H1
theorem xN {c:R6}{body:List UH}{tc:TT}{tb:TS} (hp:PassesOwn (Pw X.prog X.w) X.A X.env X.xe) (hc:PT X c tc) (hb:PSs X body tb):PS X (.While c body [] pos) (xM tc tb):=by
 intro pins s σ H D I h
 obtain ⟨W,⟨m0,w0⟩,turn⟩:=h
 refine wpAny_While (codeAny_whileLoop (fun n s'=>∃ σ' H',Inv X pins σ' H' s'/\W n σ' H') ?_ m0 ⟨σ,H,I,w0⟩)
 rintro n s1 ⟨σ1,H1,I1,w1⟩
 refine Rl hp (thn (hc pins s1 σ1 H1 _ I1 (turn n σ1 H1 w1)) fun b s2 zq=>?_)
 obtain ⟨H2,I2,q2⟩:=zq
 cases b with
 | true =>
  obtain ⟨N,hN,q2⟩:=q2
  rw[if_pos rfl]
  refine Rl hp (thn (hb pins s2 σ1 H2 _ I2 q2) fun f s3 q3=>?_)
  cases f with
  | next =>
   obtain ⟨σ3,H3,I3,n3⟩:=q3
   obtain ⟨m',hm,w3⟩:=hN σ3 H3 n3
   exact ⟨m',hm,σ3,H3,I3,w3⟩
  | cont =>
   obtain ⟨σ3,H3,I3,n3⟩:=q3
   obtain ⟨m',hm,w3⟩:=hN σ3 H3 n3
   exact ⟨m',hm,σ3,H3,I3,w3⟩
  | brk=>exact q3
  | ret v=>exact q3
 | false =>
  rw[if_neg PX]
  exact Tu ⟨σ1,H2,I2,q2⟩
end
structure It where
 go:Nat->Hp->Prop
 yld:Nat->Hp->V->Hp->Prop
 stop:Nat->Hp->Prop
noncomputable def mj (X:Cx) (pins:List (Addr×Obj)) (H:Hp) (b:Addr):Prop :=
 H b=none/\b≠X.env.locals/\b∉X.fs/\(b∈X.ex\/X.s₀.heap.objs.size<=b)/\(∀ x c,X.env.cells.lookup x=some c->c≠b)/\∀ p∈X.pn++pins,p.1≠b
theorem Inv.Bm {X:Cx}{pins:List (Addr×Obj)}{σ:St}{H H':Hp}{s:O4}{b:Addr} (I:Inv X pins σ H s) (hb:s.heap.objs.size<=b) (hn:H' b=none):mj X pins H' b:=by
 refine ⟨hn,QX (Py I.lt hb),I.MF hb,.inr (PZ I.sz hb),fun x c e z=>?_,fun p hp z=>?_⟩
 ·obtain ⟨v,q⟩:=I.cell x c e
  exact absurd (Py q.lt (by rw[z];exact hb)) (QA _)
 ·exact absurd (Py (O7 (I.pin p hp).1) (by rw[z];exact hb)) (QA _)
structure Turn (P:Pi) (w:PK) (K:O0) (tg:R6) (J:It) (fp:List Addr) (it:Addr) (tn:Nat->Heap->Prop):Prop where
 mem:it∈fp
 obj:∀ i h,tn i h->∀ b∈fp,∃ o,h.get? b=some o/\∀ v,o.data≠.cell v
 keep:∀ i h h',tn i h->(∀ b∈fp,∀ o,h.get? b=some o->h'.get? b=some o)->tn i h'
 item:∀ (X:Cx),X.prog=P->X.w=w->X.K=K->X.calm=true->∀ (i:Nat) (pins:List (Addr×Obj)) (s:O4) (σ:St) (H:Hp) (E:O3->O4->Prop),Inv X pins σ H s->(∀ b∈fp,mj X pins H b)->tn i s.heap->J.go i H →
  wpAny (Pw P w) X.A (Ud (.ref it)) (fun r s1=>∃ u,r=some u ∧
   wpAny (Pw P w) X.A (Tv tg (.ref it) u) (fun _ s2=>∃ x H',Inv X pins σ H' s2/\RelV x u/\J.yld i H x H'/\tn (i+1) s2.heap/\∀ b∈fp,H' b=none) E s1) E s
 done:∀ (X:Cx),X.prog=P->X.w=w->X.K=K->X.calm=true->∀ (i:Nat) (pins:List (Addr×Obj)) (s:O4) (σ:St) (H:Hp) (E:O3->O4->Prop),Inv X pins σ H s->(∀ b∈fp,mj X pins H b)->tn i s.heap->J.stop i H →
  wpAny (Pw P w) X.A (Ud (.ref it)) (fun r s1=>r=none/\Inv X pins σ H s1) E s
 self:∀ (A:Qi) (i:Nat) (s:O4) (Q:O3->O4->Prop) (E:O3->O4->Prop),tn i s.heap->Q (.ref it) s->wpAny (Pw P w) A (pyIter (.ref it)) Q E s
noncomputable abbrev TI:=St->Hp->(It->Hp->Prop)->Prop
noncomputable def PIE (X:Cx) (pins:List (Addr×Obj)) (σ:St) (tg:R6) (R:It->Hp->Prop) (itv:O3) (s2:O4):Prop :=
 ∃ (it:Addr) (fp:List Addr) (tn:Nat->Heap->Prop) (J:It) (H':Hp),itv=.ref it/\Inv X pins σ H' s2/\Turn X.prog X.w X.K tg J fp it tn/\tn 0 s2.heap/\(∀ b∈fp,mj X pins H' b)/\R J H'
noncomputable def PI (X:Cx) (tg iter:R6) (wi:TI):Prop :=
 ∀ (pins:List (Addr×Obj)) (s:O4) (σ:St) (H:Hp) (R:It->Hp->Prop),Inv X pins σ H s->wi σ H R →
  wpAny (Pw X.prog X.w) X.A (eval iter X.env) (fun v s1=>wpAny (Pw X.prog X.w) X.A (pyIter v) (PIE X pins σ tg R) X.xe s1) X.xe s
theorem tw {M:Model}{A:Qi}{E:O3->O4->Prop}{s:O4}{tg:R6}{it:Addr}{u:O3}{o:Obj}{n:String}{vs:Array O3}{Q:Unit->O4->Prop} (ho:s.heap.get? it=some o) (hc:o.cls=.type n) (hd:o.data=.fields vs)
 (hn:["enumerate","zip","dict_itemiterator","dict_reverseitemiterator","odict_iterator","itertools.zip_longest","itertools.pairwise"].contains n=false) (hQ:Q () s):wpAny M A (Tv tg (.ref it) u) Q E s:=by
 unfold Tv
 cases tg<;>first
  | exact wpAny_pure hQ
  | (cases u<;>first
   | exact wpAny_pure hQ
   | (refine wpAny_bind (wpAny_load ho ?_)
      rw[hc,hd]
      show wpAny M A (if (["enumerate","zip","dict_itemiterator","dict_reverseitemiterator","odict_iterator","itertools.zip_longest","itertools.pairwise"].contains n&&vs[0]?==some (Q6 _))=true then _ else _) Q E s
      rw[if_neg (by intro h;rw[hn,Bool.false_and] at h;cases h)]
      exact wpAny_pure hQ))
noncomputable def Itl (K:O0) (a:Addr):It :=
 ⟨fun i H=>∃ xs x,SqL K H a xs/\xs[i]?=some x,fun i H x H'=>H'=H/\∀ xs,SqL K H a xs->xs[i]?=some x,fun i H=>∃ xs,SqL K H a xs/\xs.length<=i⟩
noncomputable def Itt (K:O0) (a:Addr):It :=
 ⟨fun i H=>∃ xs x,SqT K H a xs/\xs[i]?=some x,fun i H x H'=>H'=H/\∀ xs,SqT K H a xs->xs[i]?=some x,fun i H=>∃ xs,SqT K H a xs/\xs.length<=i⟩
noncomputable def Itr (lo:Int) (n:Nat):It:=⟨fun i _=>i < n,fun i H x H'=>H'=H/\x=.int (lo+i),fun i _=>n<=i⟩
theorem vE {P:Pi}{w:PK}{K:O0}{tg:R6} (a it:Addr):Turn P w K tg (Itl K a) [it] it (fun i h=>h.IsListIter it a i) where
 mem:=by simp
 obj:=fun i h st b hb=>by
  have e:b=it:=by simpa using hb
  subst e
  obtain ⟨o,e,c,d⟩:=st
  exact ⟨o,e,fun v z=>by rw[d] at z;cases z⟩
 keep:=fun i h h' st k=>st.at fun o e=>k it (by simp) o e
 item:=by
  intro X hP hw hK hc i pins s σ H E I hf st hg
  subst hP hw hK
  obtain ⟨xs,x,hq,hx⟩:=hg
  obtain ⟨its,rv,p,hz⟩:=I.list hq
  obtain ⟨u,hu,ru⟩:=rv.get hx
  obtain ⟨f0,f1,f2,f3,f4,f5⟩:=hf it (by simp)
  refine wpAny_pyNext_list_item st p.isList (x:=u) (by simpa using hu) fun h' st' sb=>?_
  have I1:Inv X pins σ H { s with heap:=h' }:=I.turned (t':=s.toks) (fun b o hb e=>(sb.2 b hb).trans e) f0 f1 f3 f4 f5
  obtain ⟨o,e,c,d⟩:=id st'
  exact ⟨u,rfl,tw (s:={ s with heap:=h' }) e c d (by decide) ⟨x,H,I1,ru,⟨rfl,fun ys hy=>by rw[I.pK hy hq];exact hx⟩,st',fun b hb=>(hf b hb).1⟩⟩
 done:=by
  intro X hP hw hK hc i pins s σ H E I hf st hg
  subst hP hw hK
  obtain ⟨xs,hq,hx⟩:=hg
  obtain ⟨its,rv,p,hz⟩:=I.list hq
  obtain ⟨f0,f1,f2,f3,f4,f5⟩:=hf it (by simp)
  have hl:=rv.length
  exact wpAny_pyNext_list_end (I.ok.hd hc) st p.isList (by simp;omega) fun h' eb=>⟨rfl,I.turned (t':=s.toks) (fun b o hb e=>eb b o hb e) f0 f1 f3 f4 f5⟩
 self:=fun _ _ _ _ _ st h=>wpAny_pyIter_listiter st h
theorem rB {P:Pi}{w:PK}{K:O0}{tg:R6} (a it:Addr):Turn P w K tg (Itt K a) [it] it (fun i h=>h.IsTupleIter it a i) where
 mem:=by simp
 obj:=fun i h st b hb=>by
  have e:b=it:=by simpa using hb
  subst e
  obtain ⟨o,e,c,d⟩:=st
  exact ⟨o,e,fun v z=>by rw[d] at z;cases z⟩
 keep:=fun i h h' st k=>st.at fun o e=>k it (by simp) o e
 item:=by
  intro X hP hw hK hc i pins s σ H E I hf st hg
  subst hP hw hK
  obtain ⟨xs,x,hq,hx⟩:=hg
  obtain ⟨its,rv,p,hz⟩:=I.tuple hq
  obtain ⟨u,hu,ru⟩:=rv.get hx
  obtain ⟨f0,f1,f2,f3,f4,f5⟩:=hf it (by simp)
  refine wpAny_pyNext_tuple_item st (show s.heap.IsTuple a its.toArray from p) (x:=u) (by simpa using hu) fun h' st' sb=>?_
  have I1:Inv X pins σ H { s with heap:=h' }:=I.turned (t':=s.toks) (fun b o hb e=>(sb.2 b hb).trans e) f0 f1 f3 f4 f5
  obtain ⟨o,e,c,d⟩:=id st'
  exact ⟨u,rfl,tw (s:={ s with heap:=h' }) e c d (by decide) ⟨x,H,I1,ru,⟨rfl,fun ys hy=>by rw[I.vC hy hq];exact hx⟩,st',fun b hb=>(hf b hb).1⟩⟩
 done:=by
  intro X hP hw hK hc i pins s σ H E I hf st hg
  subst hP hw hK
  obtain ⟨xs,hq,hx⟩:=hg
  obtain ⟨its,rv,p,hz⟩:=I.tuple hq
  obtain ⟨f0,f1,f2,f3,f4,f5⟩:=hf it (by simp)
  have hl:=rv.length
  exact wpAny_pyNext_tuple_end (I.ok.hd hc) st (show s.heap.IsTuple a its.toArray from p) (by simp;omega) fun h' eb=>⟨rfl,I.turned (t':=s.toks) (fun b o hb e=>eb b o hb e) f0 f1 f3 f4 f5⟩
 self:=fun _ _ _ _ _ st h=>wpAny_pyIter_tupleiter st h
theorem rC {P:Pi}{w:PK}{K:O0}{tg:R6} (it:Addr) (lo:Int) (n:Nat):Turn P w K tg (Itr lo n) [it] it (fun i h=>IsRangeIter h it (lo+(i:Nat)*1) ((n:Int) - (i:Nat)) 1) where
 mem:=by simp
 obj:=fun i h st b hb=>by
  have e:b=it:=by simpa using hb
  subst e
  exact ⟨_,st,fun v z=>by
   have z':Data.fields _=Data.cell v:=z
   cases z'⟩
 keep:=fun i h h' st k=>k it (by simp) _ st
 item:=by
  intro X hP hw hK hc i pins s σ H E I hf st hg
  subst hP hw hK
  obtain ⟨f0,f1,f2,f3,f4,f5⟩:=hf it (by simp)
  have W:=Walks.range (prog:=X.prog) (w:=X.w) (I.ok.hd hc) it lo 1 n
  refine W.item i s _ _ hg st fun v h' tk hv st' kk=>?_
  obtain ⟨t,rfl⟩:=hv
  have I1:Inv X pins σ H { s with heap:=h',toks:=tk }:=I.turned (fun b o hb e=>kk b o (by simpa using hb) e) f0 f1 f3 f4 f5
  refine ⟨_,rfl,tw (s:={ s with heap:=h',toks:=tk }) (n:="range_iterator") st' rfl rfl (by decide) ⟨.int (lo+i),H,I1,⟨t,?_⟩,⟨rfl,rfl⟩,st',fun b hb=>(hf b hb).1⟩⟩
  rw[Int.mul_one]
 done:=by
  intro X hP hw hK hc i pins s σ H E I hf st hg
  subst hP hw hK
  obtain ⟨f0,f1,f2,f3,f4,f5⟩:=hf it (by simp)
  exact wpAny_pyNext_range_end (I.ok.hd hc) st (by have:n<=i:=hg;omega) fun h' eb=>⟨rfl,I.turned (t':=s.toks) (fun b o hb e=>eb b o hb e) f0 f1 f3 f4 f5⟩
 self:=fun _ _ _ _ _ st h=>wpAny_pyIter_rangeiter st h
end L2
namespace L2
open PySem PySem.Spec PyProof.Rows
section
variable {X:Cx}{tg:R6}
noncomputable def IY (K:O0) (tl:TE):TI:=fun σ H R=>tl σ H fun x H1=>∃ a,x=.ref a/\(∃ xs,SqL K H1 a xs)/\R (Itl K a) H1
noncomputable def MM (K:O0) (tl:TE):TI:=fun σ H R=>tl σ H fun x H1=>∃ a,x=.ref a/\(∃ xs,SqT K H1 a xs)/\R (Itt K a) H1
theorem Bo {l:R6}{tl:TE} (hl:PE X l tl):PI X tg l (IY X.K tl):=by
 intro pins s σ H R I h
 refine thn (hl pins s σ H _ I h) fun v s1 zq=>?_
 obtain ⟨x,H1,I1,r1,q1⟩:=zq
 obtain ⟨a,e,⟨xs,hq⟩,q⟩:=q1
 subst e
 cases r1
 obtain ⟨its,rv,p,hz⟩:=I1.list hq
 refine wpAny_pyIter_list p.isList ?_
 refine ⟨s1.heap.objs.size,[s1.heap.objs.size],_,_,H1,rfl,I1.kept (t':=s1.toks) fun b o e=>O2 _ e,vE a _,⟨_,Pc _ rfl,rfl,rfl⟩,fun b hb=>?_,q⟩
 have e:b=s1.heap.objs.size:=by simpa using hb
 subst e
 exact I1.Bm (O8 _) (I1.hok.fresh (O8 _))
theorem Ff {l:R6}{tl:TE} (hl:PE X l tl):PI X tg l (MM X.K tl):=by
 intro pins s σ H R I h
 refine thn (hl pins s σ H _ I h) fun v s1 zq=>?_
 obtain ⟨x,H1,I1,r1,q1⟩:=zq
 obtain ⟨a,e,⟨xs,hq⟩,q⟩:=q1
 subst e
 cases r1
 obtain ⟨its,rv,p,hz⟩:=I1.tuple hq
 refine wpAny_pyIter_tuple (show s1.heap.IsTuple a its.toArray from p) ?_
 refine ⟨s1.heap.objs.size,[s1.heap.objs.size],_,_,H1,rfl,I1.kept (t':=s1.toks) fun b o e=>O2 _ e,rB a _,⟨_,Pc _ rfl,rfl,rfl⟩,fun b hb=>?_,q⟩
 have e:b=s1.heap.objs.size:=by simpa using hb
 subst e
 exact I1.Bm (O8 _) (I1.hok.fresh (O8 _))
theorem pO {pins:List (Addr×Obj)}{σ:St}{H:Hp}{s:O4}{R:It->Hp->Prop}{E:O3->O4->Prop}{lo hi:Int}{t u v:Tok}{tk:Nat} (I:Inv X pins σ H s) (h1:-(2 ^ 62)<=lo) (h2:lo < 2 ^ 62) (h3:-(2 ^ 62)<=hi) (h4:hi < 2 ^ 62)
 (q:R (Itr lo (hi - lo).toNat) H):wpAny (Pw X.prog X.w) X.A (pyIter (.ref s.heap.objs.size)) (PIE X pins σ tg R) E { s with heap:=s.heap.push { cls:=.type "range",data:=.fields #[.int lo t,.int hi u,.int 1 v] },toks:=tk }:=by
 refine wpAny_pyIter_range (IsRange.new ..) (small_one h1 h2 h3 h4) ?_
 have I1:Inv X pins σ H { s with heap:=s.heap.push { cls:=.type "range",data:=.fields #[.int lo t,.int hi u,.int 1 v] },toks:=tk }:=I.kept fun b o e=>O2 _ e
 refine ⟨(s.heap.push { cls:=.type "range",data:=.fields #[.int lo t,.int hi u,.int 1 v] }).objs.size,[(s.heap.push { cls:=.type "range",data:=.fields #[.int lo t,.int hi u,.int 1 v] }).objs.size],_,_,H,rfl,
  I1.kept (t':=tk) fun b o e=>O2 _ e,rC _ lo (hi - lo).toNat,?_,fun b hb=>?_,q⟩
 ·have e1:lo+((0:Nat):Int)*1=lo:=by simp
  have e2:(((hi - lo).toNat:Nat):Int) - ((0:Nat):Int)=Builtin.Range.rangeSize lo hi 1:=by rw[rangeSize_one];split<;>omega
  show IsRangeIter _ _ (lo+((0:Nat):Int)*1) ((((hi - lo).toNat:Nat):Int) - ((0:Nat):Int)) 1
  rw[e1,e2]
  exact Pc _ rfl
 ·have e:b=(s.heap.push { cls:=.type "range",data:=.fields #[.int lo t,.int hi u,.int 1 v] }).objs.size:=by simpa using hb
  subst e
  exact I1.Bm (O8 _) (I1.hok.fresh (O8 _))
noncomputable def IZ (ta:TA):TI:=fun σ H R=>ta σ H fun vs H1=>∃ j:Int,vs=[.int j]/\-(2 ^ 62)<=j/\j < 2 ^ 62/\R (Itr 0 j.toNat) H1
noncomputable def Ja (ta:TA):TI:=fun σ H R=>ta σ H fun vs H1=>∃ i j:Int,vs=[.int i,.int j]/\(-(2 ^ 62)<=i/\i < 2 ^ 62/\-(2 ^ 62)<=j/\j < 2 ^ 62)/\R (Itr i (j - i).toNat) H1
theorem vF {a:R6}{ta:TA}{p pos:Pos} (hg:Gl X "range") (hm:X.mg "range"=none) (ha:PA X [a] ta) (hs:PL [a] X.env=[(false,eval a X.env)]:=by rfl):PI X tg (.Call (.Name "range" p) [a] [] pos) (IZ ta):=by
 intro pins s σ H R I h
 refine Call_ (fU I hg hm boot_range (Qw (thn (ha pos pins s σ H _ I h) fun us s1 ⟨vs,H1,I1,r1,q1⟩=>?_) hs rfl))
 obtain ⟨j,e,q1,q2,q⟩:=q1
 subst e
 cases r1 with
 | cons r rr =>
  cases rr
  obtain ⟨t,rfl⟩:=r
  exact call_range_1 (pO I1 (by omega) (by omega) q1 q2 (by simpa using q))
theorem vG {a b:R6}{ta:TA}{p pos:Pos} (hg:Gl X "range") (hm:X.mg "range"=none) (ha:PA X [a,b] ta) (hs:PL [a,b] X.env=[(false,eval a X.env),(false,eval b X.env)]:=by rfl) (hs2:PL [b] X.env=[(false,eval b X.env)]:=by rfl) :
 PI X tg (.Call (.Name "range" p) [a,b] [] pos) (Ja ta):=by
 intro pins s σ H R I h
 refine Call_ (fU I hg hm boot_range (Qw (thn (ha pos pins s σ H _ I h) fun us s1 ⟨vs,H1,I1,r1,q1⟩=>?_) (by rw[hs,hs2]) (by rw[hs2];rfl)))
 obtain ⟨i,j,e,⟨q1,q2,q3,q4⟩,q⟩:=q1
 subst e
 cases r1 with
 | cons r rr =>
  cases rr with
  | cons r' rr =>
   cases rr
   obtain ⟨t,rfl⟩:=r
   obtain ⟨t',rfl⟩:=r'
   exact call_range_2 (pO I1 q1 q2 q3 q4 q)
noncomputable def Jb (wi:TI) (g:TG) (tb:TS):TS:=fun D σ H=>wi σ H fun J H1=>∃ W:Nat->Nat->St->Hp->Prop,(∃ m,W 0 m σ H1)/\∀ i m σ H,W i m σ H →
 (J.stop i H/\D.nx σ H)\/(J.go i H/\∃ N:St->Hp->Prop,(∀ σ' H',N σ' H'->∃ m',m' < m/\W (i+1) m' σ' H')/\∀ x H',J.yld i H x H'->g x σ H' fun σ2 H2=>tb { D with nx:=N,ct:=N,bk:=D.nx } σ2 H2)
noncomputable def jy (fp:List Addr) (h:Heap):List (Addr×Obj):=fp.filterMap fun b=>(h.get? b).map fun o=>(b,o)
theorem fV {fp:List Addr}{h:Heap}{b:Addr}{o:Obj} (hb:b∈fp) (e:h.get? b=some o):(b,o)∈jy fp h:=List.mem_filterMap.mpr ⟨b,hb,by rw[e];rfl⟩
theorem vH {fp:List Addr}{h:Heap}{p:Addr×Obj} (hp:p∈jy fp h):p.1∈fp/\h.get? p.1=some p.2:=by
 obtain ⟨b,hb,e⟩:=List.mem_filterMap.mp hp
 cases q:h.get? b with
 | none=>rw[q] at e;cases e
 | some o =>
  rw[q] at e
  have e':(b,o)=p:=Pn e
  subst e'
  exact ⟨hb,q⟩
theorem Inv.pinned {pins:List (Addr×Obj)}{σ:St}{H:Hp}{s:O4}{fp:List Addr} (I:Inv X pins σ H s) (hf:∀ b∈fp,mj X pins H b) (ho:∀ b∈fp,∃ o,s.heap.get? b=some o/\∀ v,o.data≠.cell v):Inv X (pins++jy fp s.heap) σ H s :=
 I.kC fun p hp=>(List.mem_append.mp hp).elim (fun z=>I.pin p (PR _ z)) fun z=>by
  obtain ⟨hb,e⟩:=vH z
  obtain ⟨f0,f1,f2,_⟩:=hf p.1 hb
  obtain ⟨o,e',d⟩:=ho p.1 hb
  rw[e] at e';cases e'
  exact ⟨e,f0,f1,f2,d⟩
theorem Inv.iZ {pins pl:List (Addr×Obj)}{σ:St}{H:Hp}{s:O4} (I:Inv X (pins++pl) σ H s):Inv X pins σ H s:=I.kC fun p hp=>I.pin p (PR _ (R0 _ hp))
theorem Fg {iter:R6}{body:List UH}{wi:TI}{g:TG}{tb:TS}{pos:Pos} (hp:PassesOwn (Pw X.prog X.w) X.A X.env X.xe) (hc:X.calm=true) (hi:PI X tg iter wi) (hg:PG X tg g) (hb:PSs X body tb)
 (hs:∀ x,foldedSetIterable iter X.env x=pure x:=by intro _;rfl):PS X (.For tg iter body [] pos) (Jb wi g tb):=by
 intro pins s σ H D I h
 refine wpAny_For (thn (hi pins s σ H _ I h) fun v s1 h1=>thn h1 fun itv s2 h2=>?_) hs
 obtain ⟨it,fp,tn,J,H2,e,I2,T,st2,f2,W,⟨m0,w0⟩,turn⟩:=h2
 subst e
 have stat:∀ {H':Hp},(∀ b∈fp,H' b=none)->∀ b∈fp,mj X pins H' b:=fun hn b hb=>⟨hn b hb,(f2 b hb).2⟩
 refine codeAny_forLoop_any (fun n s'=>∃ i σ' H',Inv X pins σ' H' s'/\tn i s'.heap/\(∀ b∈fp,H' b=none)/\W i n σ' H') ?_ m0 ⟨0,σ,H2,I2,st2,fun b hb=>(f2 b hb).1,w0⟩
 rintro n s3 ⟨i,σ3,H3,I3,st3,fr3,w3⟩
 rcases turn i n σ3 H3 w3 with ⟨stop,qn⟩ | ⟨go,N,hN,step⟩
 ·refine Rl hp (thn (T.done X rfl rfl rfl hc i pins s3 σ3 H3 X.xe I3 (stat fr3) st3 stop) fun r s4 zq=>?_)
  obtain ⟨hr,I4⟩:=zq
  subst hr
  exact Tu ⟨σ3,H3,I4,qn⟩
 ·refine Rl hp (thn (T.item X rfl rfl rfl hc i pins s3 σ3 H3 X.xe I3 (stat fr3) st3 go) fun r s4 zq=>?_)
  obtain ⟨u,hr,h4⟩:=zq
  subst hr
  refine Rl hp (thn h4 fun _ s5 zq=>?_)
  obtain ⟨x,H5,I5,r5,y5,st5,fr5⟩:=zq
  have I5':=I5.pinned (stat fr5) (T.obj _ _ st5)
  refine Rl hp (thn (hg _ s5 σ3 H5 x u _ I5' r5 (step x H5 y5)) fun _ s6 zq=>?_)
  obtain ⟨σ6,H6,I6,q6⟩:=zq
  refine Rl hp (thn (hb _ s6 σ6 H6 _ I6 q6) fun f s7 q7=>?_)
  have again:∀ {σ7:St}{H7:Hp},Inv X (pins++jy fp s5.heap) σ7 H7 s7->N σ7 H7->∃ m,m < n/\∃ i σ' H',Inv X pins σ' H' s7/\tn i s7.heap/\(∀ b∈fp,H' b=none)/\W i m σ' H':=fun {σ7 H7} I7 n7=>by
   obtain ⟨m',hm,w7⟩:=hN σ7 H7 n7
   refine ⟨m',hm,i+1,σ7,H7,I7.iZ,T.keep _ _ _ st5 fun b hb o e=>(I7.pin (b,o) (PR _ (PR _ (fV hb e)))).1,fun b hb=>?_,w7⟩
   obtain ⟨o,e,d⟩:=T.obj _ _ st5 b hb
   exact (I7.pin (b,o) (PR _ (PR _ (fV hb e)))).2.1
  cases f with
  | next=>obtain ⟨σ7,H7,I7,n7⟩:=q7;exact again I7 n7
  | cont=>obtain ⟨σ7,H7,I7,n7⟩:=q7;exact again I7 n7
  | brk=>obtain ⟨σ7,H7,I7,q7⟩:=q7;exact ⟨σ7,H7,I7.iZ,q7⟩
  | ret v=>obtain ⟨x7,σ7,H7,I7,r7,q7⟩:=q7;exact ⟨x7,σ7,H7,I7.iZ,r7,q7⟩
end
end L2
namespace L2
open PySem PySem.Spec PyProof.Rows
noncomputable abbrev R2:=V->V->Hp->VK->Prop
noncomputable def OpR (X:Cx) (f:O3->O3->Sem O3) (r:R2):Prop :=
 ∀ (pins:List (Addr×Obj)) (s:O4) (σ:St) (H:Hp) (x y:V) (v u:O3) (Q:VK),Inv X pins σ H s->RelV x v->RelV y u->r x y H Q →
  wpAny (Pw X.prog X.w) X.A (f v u) (EP X pins σ Q) X.xe s
noncomputable def UnR (X:Cx) (f:O3->Sem O3) (r:V->Hp->VK->Prop):Prop :=
 ∀ (pins:List (Addr×Obj)) (s:O4) (σ:St) (H:Hp) (x:V) (v:O3) (Q:VK),Inv X pins σ H s->RelV x v->r x H Q →
  wpAny (Pw X.prog X.w) X.A (f v) (EP X pins σ Q) X.xe s
noncomputable def cC (X:Cx) (f:O3) (r:List V->Hp->VK->Prop):Prop :=
 ∀ (pins:List (Addr×Obj)) (s:O4) (σ:St) (H:Hp) (xs:List V) (us:List O3) (Q:VK),Inv X pins σ H s->au xs us->r xs H Q →
  wpAny (Pw X.prog X.w) X.A (call f us) (EP X pins σ Q) X.xe s
noncomputable def tOp (r:R2) (ta tb:TE):TE:=fun σ H Q=>ta σ H fun x H1=>tb σ H1 fun y H2=>r x y H2 Q
noncomputable def tUn (r:V->Hp->VK->Prop) (ta:TE):TE:=fun σ H Q=>ta σ H fun x H1=>r x H1 Q
noncomputable def rI (C:Int->Int->Prop) (g:Int->Int->V):R2:=fun x y H Q=>∃ i j,x=.int i/\y=.int j/\C i j/\Q (g i j) H
noncomputable def rI0 (g:Int->Int->V):R2:=fun x y H Q=>∃ i j,x=.int i/\y=.int j/\Q (g i j) H
noncomputable def rU (g:Int->V):V->Hp->VK->Prop:=fun x H Q=>∃ i,x=.int i/\Q (g i) H
section
variable {X:Cx}{a b c:R6}{ta tb tc:TE}{pos:Pos}
theorem Fi (ha:PE X a ta) (hb:PE X b tb) {pins:List (Addr×Obj)}{s:O4}{σ:St}{H:Hp}{R:V->V->Hp->Prop} (I:Inv X pins σ H s)
 (h:ta σ H fun x H1=>tb σ H1 fun y H2=>R x y H2) {Q:O3->O4->Prop}{f:O3->O3->Sem O3}
 (hf:∀ v u s2 x y H2,Inv X pins σ H2 s2->RelV x v->RelV y u->R x y H2->wpAny (Pw X.prog X.w) X.A (f v u) Q X.xe s2) :
 wpAny (Pw X.prog X.w) X.A (eval a X.env) (fun v s₁=>wpAny (Pw X.prog X.w) X.A (eval b X.env) (fun u s₂=>wpAny (Pw X.prog X.w) X.A (f v u) Q X.xe s₂) X.xe s₁) X.xe s:=by
 refine thn (ha pins s σ H _ I h) fun v s1 zq=>?_
 obtain ⟨x,H1,I1,r1,q1⟩:=zq
 refine thn (hb pins s1 σ H1 _ I1 q1) fun u s2 zq=>?_
 obtain ⟨y,H2,I2,r2,q2⟩:=zq
 exact hf v u s2 x y H2 I2 r1 r2 q2
theorem Jc {op:Sa}{r:R2} (ho:OpR X (QH op) r) (ha:PE X a ta) (hb:PE X b tb):PE X (.BinOp a op b pos) (tOp r ta tb):=by
 intro pins s σ H Q I h
 exact wpAny_BinOp (Fi ha hb I h fun v u s2 x y H2 I2 rx ry q=>ho pins s2 σ H2 x y v u Q I2 rx ry q)
theorem Et {op:UnaryOp}{r:V->Hp->VK->Prop} (ho:UnR X (unaryOp op) r) (ha:PE X a ta):PE X (.UnaryOp op a pos) (tUn r ta):=by
 intro pins s σ H Q I h
 exact UnaryOp_ (thn (ha pins s σ H _ I h) fun v s1 ⟨x,H1,I1,r1,q1⟩=>ho pins s1 σ H1 x v Q I1 r1 q1)
theorem opI {f:O3->O3->Sem O3}{C:Int->Int->Prop}{g:Int->Int->Int}
 (rule:∀ (i j:Int) (t u:Tok) (s:O4) (Q:O3->O4->Prop) (E:O3->O4->Prop),C i j->Q (.int (g i j) s.toks) { s with toks:=s.toks+1 }->wpAny (Pw X.prog X.w) X.A (f (.int i t) (.int j u)) Q E s) :
 OpR X f (rI C fun i j=>.int (g i j)):=by
 intro pins s σ H x y v u Q I rx ry h
 obtain ⟨i,j,rfl,rfl,hc,q⟩:=h
 obtain ⟨t,rfl⟩:=rx
 obtain ⟨t',rfl⟩:=ry
 exact rule i j t t' s _ _ hc ⟨.int (g i j),H,I.tok _,⟨_,rfl⟩,q⟩
theorem Jd {f:O3->O3->Sem O3}{g:Int->Int->Int}
 (rule:∀ (i j:Int) (t u:Tok) (s:O4) (Q:O3->O4->Prop) (E:O3->O4->Prop),Q (.int (g i j) s.toks) { s with toks:=s.toks+1 }->wpAny (Pw X.prog X.w) X.A (f (.int i t) (.int j u)) Q E s) :
 OpR X f (rI0 fun i j=>.int (g i j)):=by
 intro pins s σ H x y v u Q I rx ry h
 obtain ⟨i,j,rfl,rfl,q⟩:=h
 obtain ⟨t,rfl⟩:=rx
 obtain ⟨t',rfl⟩:=ry
 exact rule i j t t' s _ _ ⟨.int (g i j),H,I.tok _,⟨_,rfl⟩,q⟩
theorem Bp {f:O3->O3->Sem O3}{g:Int->Int->Bool}
 (rule:∀ (i j:Int) (t u:Tok) (s:O4) (Q:O3->O4->Prop) (E:O3->O4->Prop),Q (.bool (g i j)) s->wpAny (Pw X.prog X.w) X.A (f (.int i t) (.int j u)) Q E s) :
 OpR X f (rI0 fun i j=>.bl (g i j)):=by
 intro pins s σ H x y v u Q I rx ry h
 obtain ⟨i,j,rfl,rfl,q⟩:=h
 obtain ⟨t,rfl⟩:=rx
 obtain ⟨t',rfl⟩:=ry
 exact rule i j t t' s _ _ ⟨.bl (g i j),H,I,rfl,q⟩
noncomputable def MN (i j:Int):Prop:=0 < j/\j < 1073741824
noncomputable def MO (i j:Int):Prop:=0<=j/\j<=1000000/\i.natAbs < 2 ^ 64
noncomputable def Bq (i j:Int):Prop:=(-(2 ^ 64) < i/\i < 2 ^ 64)\/(-(2 ^ 64) < j/\j < 2 ^ 64)
theorem Bq.ok {i j:Int} (h:Bq i j):IntMulOk i j:=by
 rcases h with ⟨h1,h2⟩ | ⟨h1,h2⟩
 ·exact .of_left (intBits_le_64 h1 h2)
 ·exact .of_right (intBits_le_64 h1 h2)
theorem Fj:OpR X (QH .Add) (rI0 fun i j=>.int (i+j)):=Jd fun _ _ _ _ _ _ _ q=>add_int q
theorem Fk:OpR X (QH .Sub) (rI0 fun i j=>.int (i - j)):=Jd fun _ _ _ _ _ _ _ q=>sub_int q
theorem Fo:OpR X (QH .Mult) (rI Bq fun i j=>.int (i*j)):=opI fun _ _ _ _ _ _ _ hc q=>mul_int q hc.ok
theorem Br:OpR X (QH .FloorDiv) (rI MN fun i j=>.int (i / j)):=opI fun i j _ _ _ _ _ hc q=>by
 have h1:(0:Int) < j:=hc.1
 have h2:j < 1073741824:=hc.2
 exact floordiv_int (by omega) (by rw[Int.fdiv_eq_ediv_of_nonneg i (by omega)];exact q) (.inl (PyProof.noPylong_small (by omega)))
theorem Fp:OpR X (QH .Mod) (rI (fun _ j=>0 < j) fun i j=>.int (i % j)):=opI fun i j _ _ _ _ _ hc q=>by
 have h1:(0:Int) < j:=hc
 exact mod_int' (by omega) (by rw[Int.fmod_eq_emod_of_nonneg i (by omega)];exact q)
theorem Fq:OpR X (QH .Pow) (rI MO fun i j=>.int (i ^ j.toNat)):=opI fun _ _ _ _ _ _ _ hc q=>pow_int_small hc.1 hc.2.1 hc.2.2 q
theorem unI {f:O3->Sem O3}{g:Int->Int}
 (rule:∀ (i:Int) (t:Tok) (s:O4) (Q:O3->O4->Prop) (E:O3->O4->Prop),Q (.int (g i) s.toks) { s with toks:=s.toks+1 }->wpAny (Pw X.prog X.w) X.A (f (.int i t)) Q E s) :
 UnR X f (rU fun i=>.int (g i)):=by
 intro pins s σ H x v Q I rx h
 obtain ⟨i,rfl,q⟩:=h
 obtain ⟨t,rfl⟩:=rx
 exact rule i t s _ _ ⟨.int (g i),H,I.tok _,⟨_,rfl⟩,q⟩
theorem xO:UnR X (unaryOp .USub) (rU fun i=>.int (-i)):=unI fun _ _ _ _ _ q=>neg_int q
end
section
variable {X:Cx}{a b c:R6}{ta tb tc:TE}{pos:Pos}
theorem xP {pins:List (Addr×Obj)}{σ:St}{H:Hp}{s:O4}{Q:VK}{k k':Bool} (I:Inv X pins σ H s) (q:Q (.bl k) H) (e:k=k'):EP X pins σ Q (.bool k') s:=by
 subst e
 exact ⟨.bl k,H,I,rfl,q⟩
theorem Je:OpR X (P7 .Lt) (rI0 fun i j=>.bl (decide (i < j))):=Bp fun _ _ _ _ _ _ _ q=>lt_int q
theorem Jf:OpR X (P7 .LtE) (rI0 fun i j=>.bl (decide (i<=j))):=Bp fun _ _ _ _ _ _ _ q=>le_int q
theorem Jg:OpR X (P7 .Gt) (rI0 fun i j=>.bl (decide (j < i))):=Bp fun _ _ _ _ _ _ _ q=>gt_int q
theorem Jh:OpR X (P7 .GtE) (rI0 fun i j=>.bl (decide (j<=i))):=Bp fun _ _ _ _ _ _ _ q=>ge_int q
theorem Ft:OpR X (P7 .Is) (fun x y H Q=>y=.non/\Q (.bl (decide (x=.non))) H):=by
 intro pins s σ H x y v u Q I rx ry h
 obtain ⟨rfl,q⟩:=h
 cases ry
 refine is_none_gen (xP I q ?_)
 cases x<;>first
  | (cases rx;rfl)
  | (obtain ⟨t,rfl⟩:=rx;rfl)
theorem Bs:OpR X (P7 .IsNot) (fun x y H Q=>y=.non/\Q (.bl (!decide (x=.non))) H):=by
 intro pins s σ H x y v u Q I rx ry h
 obtain ⟨rfl,q⟩:=h
 cases ry
 refine isnot_none_gen (xP I q ?_)
 cases x<;>first
  | (cases rx;rfl)
  | (obtain ⟨t,rfl⟩:=rx;rfl)
theorem Bt {op:CmpOp}{r:R2} (ho:OpR X (P7 op) r) (ha:PE X a ta) (hb:PE X b tb) (hm:Uh op b=false):PE X (.Compare a [op] [b] pos) (tOp r ta tb):=by
 intro pins s σ H Q I h
 exact wpAny_Compare1 (Fi ha hb I h fun v u s2 x y H2 I2 rx ry q=>ho pins s2 σ H2 x y v u Q I2 rx ry q) hm
noncomputable def xQ (t:TE):TT:=fun σ H Q=>t σ H fun x H'=>∃ k,x=.bl k/\Q k H'
theorem Bu {op:CmpOp}{r:R2} (ho:OpR X (P7 op) r) (ha:PE X a ta) (hb:PE X b tb) (hm:Uh op b=false):PT X (.Compare a [op] [b] pos) (xQ (tOp r ta tb)):=by
 intro pins s σ H Q I h
 refine wpAny_isTrue_Compare1 (thn (ha pins s σ H _ I h) fun v s1 ⟨x,H1,I1,r1,q1⟩=>thn (hb pins s1 σ H1 _ I1 q1) fun u s2 ⟨y,H2,I2,r2,q2⟩ =>
  thn (ho pins s2 σ H2 x y v u _ I2 r1 r2 q2) fun c s3 ⟨z,H3,I3,r3,k,e,q3⟩=>?_) hm
 subst e
 cases r3
 exact Qv ⟨H3,I3,q3⟩
noncomputable def rD (r r':R2) (ta tb tc:TE):TE:=fun σ H Q=>ta σ H fun x H1=>tb σ H1 fun y H2=>r x y H2 fun z H3=>∃ k,z=.bl k ∧
 (if k=true then tc σ H3 fun w' H4=>r' y w' H4 Q else Q (.bl false) H3)
theorem xR {op op':CmpOp}{r r':R2} (ho:OpR X (P7 op) r) (ho':OpR X (P7 op') r') (ha:PE X a ta) (hb:PE X b tb) (hc:PE X c tc)
 (hm:lastMarks [op,op'] [b,c]=false:=by with_unfolding_all rfl):PE X (.Compare a [op,op'] [b,c] pos) (rD r r' ta tb tc):=by
 intro pins s σ H Q I h
 refine Compare_chain (thn (ha pins s σ H _ I h) fun v s1 ⟨x,H1,I1,r1,q1⟩=>chain_link (thn (hb pins s1 σ H1 _ I1 q1) fun u s2 ⟨y,H2,I2,r2,q2⟩ =>
  thn (ho pins s2 σ H2 x y v u _ I2 r1 r2 q2) fun d s3 ⟨z,H3,I3,r3,k,e,q3⟩=>?_)) hm
 subst e
 cases r3
 refine Qv ?_
 cases k with
 | false=>exact ite_ff ⟨.bl false,H3,I3,rfl,q3⟩
 | true=>exact ite_tt (chain_last (thn (hc pins s3 σ H3 _ I3 q3) fun w' s4 ⟨z',H4,I4,r4,q4⟩=>ho' pins s4 σ H4 y z' u w' Q I4 r2 r4 q4))
theorem xS {op op':CmpOp}{r r':R2} (ho:OpR X (P7 op) r) (ho':OpR X (P7 op') r') (ha:PE X a ta) (hb:PE X b tb) (hc:PE X c tc)
 (hm:lastMarks [op,op'] [b,c]=false:=by with_unfolding_all rfl):PT X (.Compare a [op,op'] [b,c] pos) (xQ (rD r r' ta tb tc)):=by
 intro pins s σ H Q I h
 refine isTrue_chain (thn (ha pins s σ H _ I h) fun v s1 ⟨x,H1,I1,r1,q1⟩=>test_link (thn (hb pins s1 σ H1 _ I1 q1) fun u s2 ⟨y,H2,I2,r2,q2⟩ =>
  thn (ho pins s2 σ H2 x y v u _ I2 r1 r2 q2) fun d s3 ⟨z,H3,I3,r3,k,e,q3⟩=>?_)) hm
 subst e
 cases r3
 refine Qv ?_
 cases k with
 | false =>
  obtain ⟨k',e',q'⟩:=q3
  cases e'
  exact ite_ff ⟨H3,I3,q'⟩
 | true =>
  refine ite_tt (test_last (thn (hc pins s3 σ H3 _ I3 q3) fun w' s4 ⟨z',H4,I4,r4,q4⟩=>thn (ho' pins s4 σ H4 y z' u w' _ I4 r2 r4 q4) fun d' s5 zq=>?_))
  obtain ⟨z2,H5,I5,r5,k2,e2,q5⟩:=zq
  subst e2
  cases r5
  exact Qv ⟨H5,I5,q5⟩
theorem jz:(sizeLine:Nat) < 2 ^ 63:=by rw[T4];decide
theorem rE:OpR X (QH .Add) (fun x y H Q=>∃ i j,x=.str i/\y=.str j/\i.length+j.length<=sizeLine/\Q (.str (i++j)) H):=by
 intro pins s σ H x y v u Q I rx ry h
 obtain ⟨i,j,rfl,rfl,hz,q⟩:=h
 obtain ⟨t,rfl⟩:=rx
 obtain ⟨t',rfl⟩:=ry
 exact add_str (fun t' tk=>⟨.str (i++j),H,I.tok _,⟨_,rfl⟩,q⟩) hz
theorem vals1 {x:V}{us:List O3} (r:au [x] us):∃ u,us=[u]/\RelV x u:=by
 cases r with
 | cons r1 r2=>cases r2;exact ⟨_,rfl,r1⟩
theorem vals2 {x y:V}{us:List O3} (r:au [x,y] us):∃ u w',us=[u,w']/\RelV x u/\RelV y w':=by
 cases r with
 | cons r1 r2 =>
  cases r2 with
  | cons r3 r4=>cases r4;exact ⟨_,_,rfl,r1,r3⟩
theorem xT:cC X (.builtin "abs") (fun xs H Q=>∃ i,xs=[.int i]/\Q (.int (if i < 0 then -i else i)) H):=by
 intro pins s σ H xs us Q I r h
 obtain ⟨i,rfl,q⟩:=h
 obtain ⟨u,rfl,t,rfl⟩:=vals1 r
 exact call_abs_int fun u tk=>⟨.int (if i < 0 then -i else i),H,I.tok _,⟨_,rfl⟩,q⟩
theorem vI (hc:X.calm=true):cC X (.builtin "max") (fun xs H Q=>∃ i j,xs=[.int i,.int j]/\Q (.int (if j > i then j else i)) H):=by
 intro pins s σ H xs us Q I r h
 obtain ⟨i,j,rfl,q⟩:=h
 obtain ⟨u,w',rfl,⟨t,rfl⟩,⟨t',rfl⟩⟩:=vals2 r
 refine max_two_ints (I.ok.hd hc) fun h' tk k=>⟨_,H,I.kept k,?_,q⟩
 by_cases hj:j > i
 ·rw[if_pos hj,if_pos hj];exact ⟨_,rfl⟩
 ·rw[if_neg hj,if_neg hj];exact ⟨_,rfl⟩
theorem vJ (hc:X.calm=true):cC X (.builtin "min") (fun xs H Q=>∃ i j,xs=[.int i,.int j]/\Q (.int (if j < i then j else i)) H):=by
 intro pins s σ H xs us Q I r h
 obtain ⟨i,j,rfl,q⟩:=h
 obtain ⟨u,w',rfl,⟨t,rfl⟩,⟨t',rfl⟩⟩:=vals2 r
 refine min_two_ints (I.ok.hd hc) fun h' tk k=>⟨_,H,I.kept k,?_,q⟩
 by_cases hj:j < i
 ·rw[if_pos hj,if_pos hj];exact ⟨_,rfl⟩
 ·rw[if_neg hj,if_neg hj];exact ⟨_,rfl⟩
theorem mW:cC X (.type "int") (fun xs H Q=>(∃ i,xs=[.int i]/\Q (.int i) H)\/∃ k,xs=[.bl k]/\Q (.int (if k then 1 else 0)) H):=by
 intro pins s σ H xs us Q I r h
 rcases h with ⟨i,rfl,q⟩ | ⟨k,rfl,q⟩
 ·obtain ⟨u,rfl,t,rfl⟩:=vals1 r
  exact call_int_int ⟨.int i,H,I,⟨_,rfl⟩,q⟩
 ·obtain ⟨u,rfl,r1⟩:=vals1 r
  cases r1
  exact call_int_bool ⟨.int (if k then 1 else 0),H,I.tok _,⟨_,rfl⟩,q⟩
end
end L2
namespace L2
open PySem PySem.Spec PyProof.Rows
structure rF (h:Heap) (x dx C:Addr) (mA:Str->Option O3):Prop where
 obj:h.get? x=some (QO C dx)
 ns:h.Ns1 dx mA
 ne:dx≠x
theorem vK {h:Heap}{dx:Addr}{mA:Str->Option O3} (n:h.Ns1 dx mA):∃ od,h.get? dx=some od/\∀ name,SQ name od=some (mA name):=by
 obtain ⟨o,es,ep,ho,hd,hk,_,hm⟩:=n
 refine ⟨o,ho,fun name=>?_⟩
 have e:=hm name
 unfold nsFind findBy at e
 rw[← Array.find?_toList] at e
 unfold SQ
 rw[hd]
 dsimp only
 split
 ·rename_i y q
  rw[q] at e
  exact congrArg some e
 ·rename_i q
  rw[q] at e
  have a:es.toList.any (·.refKey)=false:=by
   rw[List.any_eq_false]
   intro y hy
   obtain ⟨z,t,hkey⟩:=hk y (Array.mem_toList_iff.mp hy)
   simp[DictEntry.refKey,hkey]
  have a':¬ es.toList.any (·.refKey)=true:=by rw[a];exact PX
  rw[if_neg a']
  exact congrArg some e
theorem rF.look {h:Heap}{x dx C:Addr}{mA:Str->Option O3} (I:rF h x dx C mA):∃ od,PySem.W.InstAt h x (QO C dx) C (some od)/\∀ name,SQ name od=some (mA name) :=
 let ⟨od,ho,hl⟩:=vK I.ns
 ⟨od,⟨I.obj,rfl,rfl,ho⟩,hl⟩
section
variable {prog:Pi}{w:PK}{A:Qi}{E:O3->O4->Prop}{s:O4}{K:O0}{x dx C f:Addr}{mA:Str->Option O3}{name:Str}{v:O3}
theorem get_map {expr:Bool}{Q:O3->O4->Prop} (X:K.In s.heap) (I:rF s.heap x dx C mA) (hg:RP K C name=true) (hh:Sn K C=true)
 (ha:Qa K (.ref C) name=some none) (hv:mA name=some v) (hv':Vw v=true) (h:Q v { s with toks:=s.toks+1 }) :
 wpAny (Pw prog w) A (getAttr (.ref x) name expr) Q E s:=by
 obtain ⟨od,J,hl⟩:=I.look
 exact PySem.W.get_value X J (SZ hg).1 (PySem.W.findObj_own hh ha rfl (by rw[hl,hv])) hv' h
theorem xU {pl:Sem Bool}{Q:O3×List O3->O4->Prop} (X:K.In s.heap) (I:rF s.heap x dx C mA) (hg:RP K C name=true)
 (hf:Qa K (.ref C) name=some (some (.ref f))) (ht:TN K (.ref f)=true) (hv:mA name=none) (h:Q (.ref f,[.ref x]) s) :
 wpAny (Pw prog w) A (Ug (.ref x) name pl) Q E s:=by
 obtain ⟨od,J,hl⟩:=I.look
 exact PySem.W.method_fn X J (SZ hg).1 (SZ hg).2 hf (beq_iff_eq.mp ht) (by show (SQ name od).map (·.isSome)=some false;rw[hl,hv];rfl) h
theorem Bv {ns:List Str}{Q:Unit->O4->Prop} (X:K.In s.heap) (I:rF s.heap x dx C mA)
 (hs:Qa K (.ref C) "__setattr__"=some (some (.builtin "object.__setattr__"))) (hp:TF K C=true) (ht:T5 K C name=some none) (hh:Sn K C=true)
 (hw:U8 mA ns) (hsz:ns.length<=sizeLine)
 (h:∀ h',rF h' x dx C (fun y=>if y=name then some v else mA y)->Qg dx s.heap h'->Q () { s with heap:=h',toks:=s.toks+2 }) :
 wpAny (Pw prog w) A (setAttr (.ref x) name v) Q E s:=by
 obtain ⟨od,J,hl⟩:=I.look
 refine PySem.W.set_plain X J hs (PySem.W.osa_open (s:={ s with toks:=s.toks+1 }) (r:=none) X J hp ht fun b=>?_)
 obtain ⟨cd,hc,hd'⟩:=PySem.W.any_some hh
 have hx:s.heap.get? x=some ⟨.ref C,some dx,.plain,#[]⟩:=I.obj
 refine wpAny_bind (wpAny_pure (wpAny_bind (wpAny_bind (wpAny_loadPart hx (wpAny_bind (PySem.W.Looks.here (s:={ s with toks:=s.toks+1 }) (PySem.W.looks_clsIn X hc) ?_))))))
 rw[hd']
 refine wpAny_pure (a:=some dx) (wpAny_bind (wpAny_pure (wpAny_bind ?_)))
 refine wpAny_nsSet1 (s:={ s with toks:=s.toks+1 }) I.ns fun h' hn2 hs2=>?_
 obtain ⟨oD,esD,epD,hoD,hdD,hcD⟩:=hn2.count (PySem.Within.cons name v hw)
 refine wpAny_bind (wpAny_lookBehind hoD (by rw[hdD];exact pastItsLine_dict (PZ hcD (by rw[Pk];omega))) ?_)
 exact wpAny_pure (h _ ⟨(hs2.2 _ (Qd I.ne)).trans I.obj,hn2,I.ne⟩ hs2)
theorem xV {R:U7->O4->Prop}{vs:List O3}{kw:List (Str×O3)} (X:K.In s.heap) (hm:T6 K C=true)
 (hi:Qa K (.ref C) "__init__"=some (some (.ref f))) (hf:PySem.W.typeIn K (.ref f)=some (.type "function"))
 (h:codeAny (Pw prog w) (A.under (.builtin "type.__call__" ⟨.ref C :: vs,kw⟩)) (.call (.ref f) ⟨.ref (s.heap.objs.size+1) :: vs,kw⟩) (PySem.W.InitBack (s.heap.objs.size+1) R)
  { s with heap:=(s.heap.push Ql).push (QO C s.heap.objs.size) }) :
 codeAny (Pw prog w) A (.call (.ref C) ⟨vs,kw⟩) R s:=by
 obtain ⟨hh,g,d,t,os⟩:=s
 exact PySem.W.make_core (PySem.W.makes_of X hm) (PySem.W.looks_findIn X hi) (fun self=>PySem.W.bind_fn X self hf) (.inl rfl) h
end
noncomputable def bq (f:Str) (v:V):List (Str×V)->List (Str×V)
 | []=>[(f,v)]
 | (g,x) :: r=>if g=f then (g,v) :: r else (g,x) :: bq f v r
theorem jS (f g:Str) (v:V):∀ fs:List (Str×V),(bq f v fs).lookup g=if g=f then some v else fs.lookup g
 | []=>by
  show Rn g [(f,v)]=_
  by_cases h:g=f
  ·have hb:(g==f)=true:=beq_iff_eq.mpr h
   simp only[Rn,hb,if_pos h]
  ·have hb:(g==f)=false:=beq_eq_false_iff_ne.mpr h
   simp only[Rn,hb,if_neg h]
 | (k,x) :: r=>by
  have ih:=jS f g v r
  rw[show bq f v ((k,x) :: r)=(if k=f then (k,v) :: r else (k,x) :: bq f v r) from rfl]
  by_cases hk:k=f
  ·rw[if_pos hk]
   by_cases h:g=k
   ·have hb:(g==k)=true:=beq_iff_eq.mpr h
    simp only[Rn,hb,if_pos (h.trans hk)]
   ·have hb:(g==k)=false:=beq_eq_false_iff_ne.mpr h
    simp only[Rn,hb,if_neg (fun e:g=f=>h (e.trans hk.symm))]
  ·rw[if_neg hk]
   by_cases h:g=k
   ·have hb:(g==k)=true:=beq_iff_eq.mpr h
    simp only[Rn,hb,if_neg (fun e:g=f=>hk (h.symm.trans e))]
   ·have hb:(g==k)=false:=beq_eq_false_iff_ne.mpr h
    simp only[Rn,hb]
    exact ih
theorem jA (f:Str) (v:V):∀ fs:List (Str×V),f∈(bq f v fs).map (·.1)/\∀ g,g∈fs.map (·.1)->g∈(bq f v fs).map (·.1)
 | []=>⟨by simp[bq],fun g h=>by simp at h⟩
 | (k,x) :: r=>by
  obtain ⟨i1,i2⟩:=jA f v r
  rw[show bq f v ((k,x) :: r)=(if k=f then (k,v) :: r else (k,x) :: bq f v r) from rfl]
  by_cases hk:k=f
  ·rw[if_pos hk]
   subst hk
   exact ⟨by simp,fun g h=>by simpa using h⟩
  ·rw[if_neg hk]
   refine ⟨?_,fun g h=>?_⟩
   ·rw[Pe]
    exact Pb _ i1
   ·rw[Pe] at h ⊢
    rcases List.mem_cons.mp h with e | e
    ·exact List.mem_cons.mpr (.inl e)
    ·exact Pb _ (i2 g e)
theorem jT (f:Str) (v:V):∀ fs:List (Str×V),(bq f v fs).length<=fs.length+1
 | []=>by simp[bq]
 | (k,x) :: r=>by
  have ih:=jT f v r
  rw[show bq f v ((k,x) :: r)=(if k=f then (k,v) :: r else (k,x) :: bq f v r) from rfl]
  by_cases hk:k=f
  ·rw[if_pos hk,Pk,Pk];omega
  ·rw[if_neg hk,Pk,Pk];omega
theorem jx.some_of {v:V}{o:Option O3} (r:jx (some v) o):∃ u,o=some u/\RelV v u:=by
 cases o with
 | none=>exact (show False from r).elim
 | some u=>exact ⟨u,rfl,r⟩
theorem jx.none_of {o:Option O3} (r:jx none o):o=none:=by
 cases o with
 | none=>rfl
 | some u=>exact (show False from r).elim
theorem vL {v:V}{u:O3} (r:RelV v u):Vw u=true:=by
 cases v with
 | non=>cases (show u=RG from r);rfl
 | bl b=>cases (show u=VL b from r);rfl
 | int i=>obtain ⟨t,e⟩:=(show ∃ t,u=RO i t from r);cases e;rfl
 | str x=>obtain ⟨t,e⟩:=(show ∃ t,u=U6 x t from r);cases e;rfl
 | byt b=>obtain ⟨t,e⟩:=(show ∃ t,u=Value.bytes b t from r);cases e;rfl
 | flt b=>obtain ⟨t,e⟩:=(show ∃ t,u=Value.float b t from r);cases e;rfl
 | ref a=>cases (show u=Pz a from r);rfl
 | ty n=>cases (show u=Sw n from r);rfl
section
variable {P:Pi}{w:PK}{H H':Hp}{h h':Heap}{a C dx:Addr}{fs fs':List (Str×V)}
theorem i6 (hok:HOk P w H h) (e:H a=some (.ins C dx fs)):∃ mA,rF h a dx C mA/\(∀ f,jx (fs.lookup f) (mA f))/\U8 mA (fs.map (·.1))/\fs.length<=1000/\H dx=some (.own a):=by
 obtain ⟨d,z,ne,ob,mA,n,r,q⟩:=(show cB P w H h a (.ins C dx fs) from hok a _ e)
 exact ⟨mA,⟨ob,n,ne⟩,r,q,z,d⟩
end
structure Cls (K:O0) (C:Addr):Prop where
 pg:RP K C Str.empty=true
 hd:Sn K C=true
 po:TF K C=true
 sa:Qa K (.ref C) "__setattr__"=some (some (.builtin "object.__setattr__"))
theorem Cls.get {K:O0}{C:Addr} (c:Cls K C) (f:Str):RP K C f=true:=c.pg
noncomputable def gr (K:O0) (C:Addr) (f:Str):Prop:=Qa K (.ref C) f=some none
theorem gr.Ji {K:O0}{C:Addr}{f:Str} (n:gr K C f):T5 K C f=some none:=by
 unfold T5
 rw[show Qa K (.ref C) f=some none from n]
 rfl
structure vM (K:O0) (C:Addr) (m:Str) (f:Addr):Prop where
 at_:Qa K (.ref C) m=some (some (.ref f))
 fn:TN K (.ref f)=true
 kp:Qp K (.ref f)=true
section
variable {X:Cx}{pins:List (Addr×Obj)}{σ:St}{H:Hp}{s:O4}{a C dx:Addr}{fs:List (Str×V)}{f:Str}{v:V}{A:Qi}{E:O3->O4->Prop}
theorem kN {b:Bool}{Q:O3->O4->Prop} (I:Inv X pins σ H s) (e:H a=some (.ins C dx fs)) (c:Cls X.K C) (n:gr X.K C f) (l:fs.lookup f=some v)
 (h:∀ u s',Inv X pins σ H s'->RelV v u->Q u s'):wpAny (Pw X.prog X.w) A (getAttr (.ref a) f b) Q E s:=by
 obtain ⟨mA,O,r,_,_,_⟩:=i6 I.hok e
 obtain ⟨u,hu,ru⟩:=jx.some_of (v:=v) (o:=mA f) (by rw[← l];exact r f)
 exact get_map I.kIn O (c.get f) c.hd n hu (vL ru) (h u _ (I.tok _) ru)
theorem fW {m:Str}{g:Addr}{pl:Sem Bool}{Q:O3×List O3->O4->Prop} (I:Inv X pins σ H s) (e:H a=some (.ins C dx fs)) (c:Cls X.K C) (k:vM X.K C m g) (l:fs.lookup m=none)
 (h:Q (.ref g,[.ref a]) s):wpAny (Pw X.prog X.w) A (Ug (.ref a) m pl) Q E s:=by
 obtain ⟨mA,O,r,_,_,_⟩:=i6 I.hok e
 have hn:mA m=none:=jx.none_of (by rw[← l];exact r m)
 exact xU I.kIn O (c.get m) k.at_ k.fn hn h
theorem kO {y:V}{u:O3}{Q:Unit->O4->Prop} (I:Inv X pins σ H s) (e:H a=some (.ins C dx fs)) (c:Cls X.K C) (n:gr X.K C f) (hl:fs.length < 1000) (ry:RelV y u)
 (h:∀ s',Inv X pins σ (upd H a (.ins C dx (bq f y fs))) s'->Q () s'):wpAny (Pw X.prog X.w) A (setAttr (.ref a) f u) Q E s:=by
 obtain ⟨mA,O,r,wi,_,ho⟩:=i6 I.hok e
 have hz:(fs.map (·.1)).length<=sizeLine:=by rw[Pa,T4];omega
 refine Bv I.kIn O c.sa c.po n.Ji c.hd wi hz fun h' O' sb=>h _ ?_
 have hd:∃ o,h'.get? dx=some o:=let ⟨o,_,_,e',_⟩:=O'.ns;⟨o,e'⟩
 refine I.write (x:=a) (e:=dx) (by rw[e];exact Sf) (.inr ho) (fun b q hb z=>(sb.2 b hb).trans z) hd ?_
 refine ⟨by rw[av O.ne];exact ho,?_,O.ne,O'.obj,_,O'.ns,fun g=>?_,fun g hg=>?_⟩
 ·have:=jT f y fs;omega
 ·show jx ((bq f y fs).lookup g) (if g=f then some u else mA g)
  rw[jS]
  by_cases q:g=f
  ·rw[if_pos q,if_pos q];exact ry
  ·rw[if_neg q,if_neg q];exact r g
 ·by_cases q:g=f
  ·rw[q];exact (jA f y fs).1
  ·refine (jA f y fs).2 g (wi g fun z=>hg ?_)
   show (if g=f then some u else mA g)=none
   rw[if_neg q];exact z
theorem Inv.made (I:Inv X pins σ H s):Inv X pins σ (upd (upd H s.heap.objs.size (.own (s.heap.objs.size+1))) (s.heap.objs.size+1) (.ins C s.heap.objs.size []))
 { s with heap:=(s.heap.push Ql).push (QO C s.heap.objs.size) }:=by
 have e1:(s.heap.push Ql).get? s.heap.objs.size=some Ql:=Pc s.heap rfl
 have e2:((s.heap.push Ql).push (QO C s.heap.objs.size)).get? (s.heap.objs.size+1)=some (QO C s.heap.objs.size):=by
  have:=Pc (s.heap.push Ql) (o:=QO C s.heap.objs.size) rfl
  rwa [QC] at this
 have e3:(s.heap.push Ql).Ns s.heap.objs.size (fun _=>none):=⟨Ql,#[],_,e1,rfl,(fun e he=>absurd he (by simp)),fun _=>rfl⟩
 have I1:=I.laid (a:=s.heap.objs.size) (o:=.own (s.heap.objs.size+1)) (h':=s.heap.push Ql) (t':=s.toks) (fun b u q=>O2 _ q) (O8 _) ⟨_,e1⟩
 refine I1.laid (a:=s.heap.objs.size+1) (o:=.ins C s.heap.objs.size []) (t':=s.toks) (fun b u q=>O2 _ q) (Nat.le_of_eq (QC _ _)) ?_
 have ne:s.heap.objs.size≠s.heap.objs.size+1:=PD (Q2 _)
 refine ⟨by rw[av ne,aD],P0 _,ne,e2,fun _=>none,(Heap.Ns1.of_empty e3).at fun o q=>O2 _ q,fun _=>Sf,fun y hy=>absurd rfl hy⟩
theorem Bw {prog:Pi}{w:PK}{env:Env}{e:R6}{f:Str}{pos:Pos}{s:O4}{Q:O3->O4->Prop} (hb:SY e f env (eval e env)=eval e env)
 (h:wpAny (Pw prog w) A (eval e env) (fun o s₁=>wpAny (Pw prog w) A (getAttr o f true) Q E s₁) E s):wpAny (Pw prog w) A (eval (.Attribute e f pos) env) Q E s :=
 Attribute_any_ h (by rw[arm_eval_Attribute,hb])
end
noncomputable def MP (K:O0) (ta:TE) (f:Str):TE:=fun σ H Q=>ta σ H fun x H1=>∃ a C dx fs v,x=.ref a/\H1 a=some (.ins C dx fs)/\Cls K C/\gr K C f/\fs.lookup f=some v/\Q v H1
noncomputable def Jj (K:O0) (ta tv:TE) (f:Str):TS:=fun D σ H=>tv σ H fun y H1=>ta σ H1 fun x H2=>∃ a C dx fs,x=.ref a/\H2 a=some (.ins C dx fs)/\Cls K C/\gr K C f/\fs.length < 1000 ∧
 D.nx σ (upd H2 a (.ins C dx (bq f y fs)))
noncomputable def MQ (X:Cx) (op:Sa) (rd:V->V->Hp->VK->Prop):Prop :=
 ∀ (pins:List (Addr×Obj)) (s:O4) (σ:St) (H:Hp) (x y:V) (u v:O3) (Q:VK),Inv X pins σ H s->RelV x u->RelV y v->rd x y H Q->wpAny (Pw X.prog X.w) X.A (inplaceOp op u v) (EP X pins σ Q) X.xe s
noncomputable def tE (K:O0) (ta tv:TE) (rd:V->V->Hp->VK->Prop) (f:Str):TS:=fun D σ H=>ta σ H fun x H1=>∃ a C dx fs v,x=.ref a/\H1 a=some (.ins C dx fs)/\Cls K C/\gr K C f/\fs.lookup f=some v ∧
 tv σ H1 fun y H2=>rd v y H2 fun z H3=>∃ dx' fs',H3 a=some (.ins C dx' fs')/\fs'.length < 1000/\D.nx σ (upd H3 a (.ins C dx' (bq f z fs')))
section
variable {X:Cx}{o e value:R6}{f:Str}{pos pos' tpos:Pos}{ta tv:TE}
theorem Fv (he:PE X e ta) (hb:SY e f X.env (eval e X.env)=eval e X.env):PE X (.Attribute e f pos) (MP X.K ta f):=by
 intro pins s σ H Q I h
 refine Bw hb (thn (he pins s σ H _ I h) fun u s1 zq=>?_)
 obtain ⟨x,H1,I1,rx,a,C,dx,fs,v,ex,ea,c,n,l,q⟩:=zq
 subst ex
 obtain rfl:u=Pz a:=rx
 exact kN I1 ea c n l fun u' s2 I2 ru=>⟨v,H1,I2,ru,q⟩
theorem Fw (ha:PE X o ta) (hv:PE X value tv) (hs:Ss value (some (.Attribute o f pos')) pos.line X.env=pure false):PS X (.Assign [.Attribute o f pos'] value pos) (Jj X.K ta tv f):=by
 intro pins s σ H D I h
 refine plainObj_wpAny_Assign_Attribute (thn (hv pins s σ H _ I h) fun u s1 ⟨y,H1,I1,ry,q⟩=>thn (ha pins s1 σ H1 _ I1 q) fun ov s2 ⟨x,H2,I2,rx,a,C,dx,fs,ex,ea,c,n,l,q2⟩=>?_) hs
 subst ex
 obtain rfl:ov=Pz a:=rx
 exact kO I2 ea c n l ry fun s3 I3=>⟨σ,_,I3,q2⟩
theorem vN {op:Sa}{rd:V->V->Hp->VK->Prop} (ha:PE X o ta) (hv:PE X value tv) (hop:MQ X op rd):PS X (.AugAssign (.Attribute o f tpos) op value pos) (tE X.K ta tv rd f):=by
 intro pins s σ H D I h
 refine wpAny_AugAssign_AttributeAny (thn (ha pins s σ H _ I h) fun ov s1 zq=>?_)
 obtain ⟨x,H1,I1,rx,a,C,dx,fs,v,ex,ea,c,n,l,q⟩:=zq
 subst ex
 obtain rfl:ov=Pz a:=rx
 refine kN I1 ea c n l fun u s2 I2 ru=>thn (hv pins s2 σ H1 _ I2 q) fun w3 s3 ⟨y,H2,I3,ry,q3⟩=>thn (hop pins s3 σ H2 v y u w3 _ I3 ru ry q3) fun w4 s4 zq=>?_
 obtain ⟨z,H3,I4,rz,dx',fs',ea',l',q4⟩:=zq
 exact kO I4 ea' c n l' rz fun s5 I5=>⟨σ,_,I5,q4⟩
theorem Eu {pl:Sem Bool}{m:Str}{apos:Pos}{args:List R6}{pins:List (Addr×Obj)}{s:O4}{σ:St}{H:Hp}{Q:O3->O4->Prop}{te:TE} (he:PE X e te) (I:Inv X pins σ H s)
 (h:te σ H fun x H1=>∃ a C dx fs g,x=.ref a/\H1 a=some (.ins C dx fs)/\Cls X.K C/\vM X.K C m g/\fs.lookup m=none ∧
  ∀ s1,Inv X pins σ H1 s1->wpAny (Pw X.prog X.w) X.A (callWith pos (.ref g) [.ref a] (Rg pos (PL args X.env)) (TL pos (RX [] X.env))) Q X.xe s1)
 (ht:eval (.Call (.Attribute e m apos) args [] pos) X.env=(do
  let ov ← eval e X.env
  standAt apos.atName
  let (f,first) ← holding [ov] (Ug ov m pl)
  callWith pos f first (Rg pos (PL args X.env)) (TL pos (RX [] X.env)))) :
 wpAny (Pw X.prog X.w) X.A (eval (.Call (.Attribute e m apos) args [] pos) X.env) Q X.xe s:=by
 refine RI (pl:=pl) (thn (he pins s σ H _ I h) fun u s1 ⟨x,H1,I1,rx,a,C,dx,fs,g,ex,ea,c,k,l,q⟩=>?_) ht
 subst ex
 obtain rfl:u=Pz a:=rx
 exact fW I1 ea c k l (q s1 I1)
end
section
variable {X:Cx}{pins:List (Addr×Obj)}{σ:St}{H:Hp}{s:O4}{A:Qi}{E:O3->O4->Prop}{Q:O3->O4->Prop}{c:O3}{b:Bool}
end
end L2
namespace L2
open PySem PySem.Spec PyProof.Rows
structure bP (k:Nat) (A:Qi):Prop where
 hd:A.handled=none
 dp:A.depth+3*k+5 < recursionLimit
 un:A.units+16*k+200 < cLine
theorem bP.mono {j k:Nat}{A:Qi} (r:bP k A) (h:j<=k):bP j A:=⟨r.hd,by have:=r.dp;omega,by have:=r.un;omega⟩
theorem bP.deeper {k:Nat}{A:Qi} (r:bP (k+1) A) (env:Env):bP k (A.deeper env) :=
 ⟨r.hd,by have:=r.dp;show A.depth+1+3*k+5 < _;omega,by have:=r.un;show A.units+3+16*k+200 < _;omega⟩
theorem rG {A:Qi}{C:Addr}{us:List O3}{kw:List (Str×O3)}:(A.under (.builtin "type.__call__" ⟨.ref C :: us,kw⟩)).depth=A.depth+1:=by
 first | rfl | simp[U0,Code.weight,Code.isCreation,Code.isGuard,Code.isCaller,Code.frames,Vk,guardIds]
theorem rH {A:Qi}{C:Addr}{us:List O3}{kw:List (Str×O3)}:(A.under (.builtin "type.__call__" ⟨.ref C :: us,kw⟩)).units=A.units+1:=by
 first | rfl | simp[U0,Code.cUnits,Code.frames,Vk]
theorem bP.make {k:Nat}{A:Qi} (r:bP (k+1) A) (C:Addr) (us:List O3) (kw:List (Str×O3)):bP k (A.under (.builtin "type.__call__" ⟨.ref C :: us,kw⟩)) :=
 ⟨r.hd,by have:=r.dp;rw[rG];omega,by have:=r.un;rw[rH];omega⟩
theorem bP.depth {k:Nat}{A:Qi} (r:bP k A):A.depth < recursionLimit:=by have:=r.dp;omega
noncomputable def xW:TA:=fun _ H Q=>Q [] H
noncomputable def Ew (ta:TE) (tr:TA):TA:=fun σ H Q=>ta σ H fun x H1=>tr σ H1 fun xs H2=>Q (x :: xs) H2
section
variable {X:Cx}{e:R6}{es:List R6}{te:TE}{t:TA}{pos:Pos}
theorem kP:PA X [] xW:=fun _ _ _ _ H Q I h=>RK ⟨[],H,I,.nil,h⟩
theorem eY (ha:PE X e te) (hr:PA X es t) (hs:PL (e :: es) X.env=(false,eval e X.env) :: PL es X.env:=by rfl):PA X (e :: es) (Ew te t):=by
 intro pos pins s σ H Q I h
 rw[hs]
 show wpAny _ _ (Uv ((false,eval e X.env) :: Rg pos (PL es X.env))) _ _ s
 refine Q3 (thn (ha pins s σ H _ I h) fun u s1 zq=>?_)
 obtain ⟨x,H1,I1,r1,q1⟩:=zq
 exact thn (hr pos pins s1 σ H1 _ I1 q1) fun us s2 ⟨xs,H2,I2,r2,q2⟩=>⟨x :: xs,H2,I2,.cons r1 r2,q2⟩
noncomputable def Jk (t:TA):TE:=fun σ H Q=>t σ H fun xs H1=>xs.length<=sizeLine/\∀ p,H1 p=none->Q (.ref p) (upd H1 p (.tup xs))
noncomputable def Jl (t:TA):TE:=fun σ H Q=>t σ H fun xs H1=>xs.length<=sizeLine/\∀ p,H1 p=none->Q (.ref p) (upd H1 p (.lst xs))
theorem Fx {x1} (h:PA X es t):PE X (.Tuple es x1 pos) (Jk t):=by
 intro pins s σ H Q I hq
 refine wpAny_Tuple_spliced (thn (h pos pins s σ H _ I hq) fun us s1 ⟨xs,H1,I1,r,z,q⟩=>⟨by rw[← r.length];exact z,?_⟩)
 have hf:H1 s1.heap.objs.size=none:=I1.hok.fresh (O8 _)
 refine ⟨.ref s1.heap.objs.size,upd H1 s1.heap.objs.size (.tup xs),I1.laid (t':=s1.toks) (fun b u e=>O2 _ e) (O8 _) ?_,rfl,q _ hf⟩
 exact ⟨z,us,r,⟨_,Pc _ rfl,rfl,_,rfl⟩⟩
theorem Fy (h:PA X es t):PE X (.List es pos) (Jl t):=by
 intro pins s σ H Q I hq
 refine wpAny_List_spliced (thn (h pos pins s σ H _ I hq) fun us s1 ⟨xs,H1,I1,r,z,q⟩=>⟨by rw[← r.length];exact z,?_⟩)
 have hf:H1 s1.heap.objs.size=none:=I1.hok.fresh (O8 _)
 refine ⟨.ref s1.heap.objs.size,upd H1 s1.heap.objs.size (.lst xs),I1.laid (t':=s1.toks) (fun b u e=>O2 _ e) (O8 _) ?_,rfl,q _ hf⟩
 exact ⟨z,us,0,r,Pc _ rfl⟩
end
noncomputable abbrev Sp:=List V->Hp->VK->XK->Prop
noncomputable abbrev CXT:=List Env->Hp->O4->XK->O3->O4->Prop
structure mq (P:Pi) (w:PK) (K:O0) (mg:Str->Option O3) (base:Heap) (A:Qi) (outer:List Env) (s:O4) (H:Hp):Prop where
 frames:A.frames=some outer
 mod:Mod K mg base
 bs:∀ b o,base.get? b=some o->s.heap.get? b=some o/\H b=none
 bsz:base.objs.size<=s.heap.objs.size
 iI:s.heap.FunFrames base outer
 frf:∀ b∈frs outer,H b=none
 hok:HOk P w H s.heap
 bare:UG s.gens
noncomputable def CE (outer:List Env) (P:Pi) (w:PK) (H:Hp) (s:O4) (Q:VK) (u:O3) (s':O4):Prop :=
 ∃ v H',s'.os=s.os/\UG s'.gens/\Un (frs outer) [] H H' s.heap s'.heap/\HOk P w H' s'.heap/\RelV v u/\Q v H'
noncomputable def CR (CX:CXT) (outer:List Env) (P:Pi) (w:PK) (H:Hp) (s:O4) (Q:VK) (E:XK) (r:U7) (s':O4):Prop :=
 match r with
 | .ok (.ret u)=>CE outer P w H s Q u s'
 | .ok _=>False
 | .error e=>CX outer H s E e s'
structure fX (P:Pi) (w:PK) (K:O0) (mg:Str->Option O3) (base:Heap) (CX:CXT) (k:Nat) (f:Addr) (fd:QN) (ps:List Str) (sp:Sp):Prop where
 len:∀ vs H Q E,sp vs H Q E->vs.length=ps.length
 run:∀ (A:Qi) (outer:List Env) (s:O4) (H:Hp) (args:Args) (us:List O3) (vs:List V) (Q:VK) (E:XK),bP k A->mq P w K mg base A outer s H->BindsTo s fd args (ps.zip us)->au vs us->sp vs H Q E →
  codeAny (Pw P w) A (.call (.ref f) args) (CR CX outer P w H s Q E) s
theorem mq.make {P:Pi}{w:PK}{K:O0}{mg:Str->Option O3}{base:Heap}{A:Qi}{outer:List Env}{s:O4}{H:Hp} (e:mq P w K mg base A outer s H) (C:Addr) (us:List O3) (kw:List (Str×O3)) :
 mq P w K mg base (A.under (.builtin "type.__call__" ⟨.ref C :: us,kw⟩)) outer s H:=⟨by first | exact e.frames | (simpa [U0,Code.envs,Vk,pushEnvs] using e.frames),e.mod,e.bs,e.bsz,e.iI,e.frf,e.hok,e.bare⟩
section
variable {X:Cx}{pins:List (Addr×Obj)}{σ:St}{H:Hp}{s s':O4}
theorem Inv.Fz (I:Inv X pins σ H s):mq X.prog X.w X.K X.mg X.base X.A X.stack s H :=
 ⟨I.ok.frames,I.ok.mod,I.bs,PZ I.ok.bsz I.sz,I.stack,I.nK,I.hok,I.bare⟩
theorem Inv.after {Q:VK}{u:O3} (I:Inv X pins σ H s) (h:CE X.stack X.prog X.w H s Q u s'):EP X pins σ Q u s':=by
 obtain ⟨v,H',os,bare,un,hok,r,q⟩:=h
 obtain ⟨hh,g,d,t,os'⟩:=s'
 obtain rfl:os'=s.os:=os
 exact ⟨v,H',I.call (h':=hh) (g':=g) (d':=d) (t':=t) (ch:=[]) un hok bare (fun b z=>absurd z (by simp)),r,q⟩
end
noncomputable def xX (sp:Sp) (dvs:List V) (E:XK) (t:TA):TE:=fun σ H Q=>t σ H fun vs H1=>sp (vs++dvs) H1 Q E
noncomputable def xY (C:Addr) (m:Str) (sp:Sp) (dvs:List V) (E:XK) (ta:TE) (t:TA):TE:=fun σ H Q=>ta σ H fun x H1=>∃ a dx fs,x=.ref a/\H1 a=some (.ins C dx fs)/\fs.lookup m=none ∧
 t σ H1 fun vs H2=>sp (x :: (vs++dvs)) H2 Q E
noncomputable def xZ (C:Addr) (sp:Sp) (dvs:List V) (E:XK) (t:TA):TE:=fun σ H Q=>t σ H fun vs H1=>∀ x dx,H1 x=none->H1 dx=none->dx≠x →
 sp (.ref x :: (vs++dvs)) (upd (upd H1 dx (.own x)) x (.ins C dx [])) (fun v H2=>v=.non/\Q (.ref x) H2) E
noncomputable def Binds (K:O0) (fd:QN) (ps:List Str) (ds:List O3):Prop :=
 ∀ (s:O4) (us:List O3),K.In s.heap->(us++ds).length=ps.length->BindsTo s fd ⟨us,[]⟩ (ps.zip (us++ds))
theorem Binds.all {K:O0}{fd:QN}{ps:List Str} (h:∀ us:List O3,us.length=ps.length->UW fd ⟨us,[]⟩=pure (ps.zip us)):Binds K fd ps []:=fun s us _ hl=>by
 rw[P4] at hl ⊢
 exact .of_eq (h us hl)
noncomputable def fY (CX:CXT) (X:Cx) (E:XK):Prop:=∀ (pins:List (Addr×Obj)) (σ:St) (H:Hp) (s:O4) (e:O3) (s':O4),Inv X pins σ H s->CX X.stack H s E e s'->X.xe e s'
section
variable {X:Cx}{CX:CXT}{k:Nat}{f C:Addr}{fd:QN}{ps:List Str}{sp:Sp}{dvs:List V}{ds:List O3}{E:XK}{x m:Str}{p pos apos:Pos}{e o:R6}{es:List R6}{ta:TE}{t:TA}
theorem kQ {pins:List (Addr×Obj)}{σ:St}{H:Hp}{s:O4}{Q:VK}{us:List O3}{vs:List V} (F:fX X.prog X.w X.K X.mg X.base CX k f fd ps sp) (hr:bP k X.A) (hb:Binds X.K fd ps ds) (hd:au dvs ds) (hx:fY CX X E)
 (I:Inv X pins σ H s) (r:au vs us) (h:sp (vs++dvs) H Q E):wpAny (Pw X.prog X.w) X.A (call (.ref f) us) (EP X pins σ Q) X.xe s:=by
 have r2:au (vs++dvs) (us++ds):=r.append hd
 have hl:(us++ds).length=ps.length:=by rw[← r2.length];exact F.len _ _ _ _ h
 refine SM (codeAny_mono (F.run X.A X.stack s H ⟨us,[]⟩ (us++ds) (vs++dvs) Q E hr I.Fz (hb s us I.kIn hl) r2 h) fun r s' hq=>?_)
 cases r with
 | error e=>exact hx pins σ H s e s' I hq
 | ok fl =>
  cases fl with
  | ret u=>exact I.after hq
  | next=>exact P5 hq
  | brk=>exact P5 hq
  | cont=>exact P5 hq
theorem Bx (F:fX X.prog X.w X.K X.mg X.base CX k f fd ps sp) (hr:bP k X.A) (hg:Gl X x) (hm:X.mg x=some (.ref f)) (hk:Qp X.K (.ref f)=true) (hb:Binds X.K fd ps ds) (hd:au dvs ds) (hx:fY CX X E)
 (ha:PA X (e :: es) t) (hdb:(x==("__debug__":Str))=false:=by decide) (he:PL (e :: es) X.env=(false,eval e X.env) :: PL es X.env:=by rfl) (hpl:(Rg pos (PL es X.env)).any (·.1)=false:=by rfl) :
 PE X (.Call (.Name x p) (e :: es) [] pos) (xX sp dvs E t):=by
 intro pins s σ H Q I h
 refine QU (iX I hg hm ?_ hdb)
 refine Rp (h₀:=X.base) I.ok.mod.kin hk (thn (ha pos pins s σ H _ I h) fun us s1 ⟨vs,H1,I1,r,q⟩=>⟨I1.kIn,?_⟩) he hpl
 exact kQ F hr hb hd hx I1 r q
theorem ya (F:fX X.prog X.w X.K X.mg X.base CX k f fd ps sp) (hr:bP k X.A) (hg:Gl X x) (hm:X.mg x=some (.ref f)) (hk:Qp X.K (.ref f)=true) (hb:Binds X.K fd ps ds) (hd:au dvs ds) (hx:fY CX X E)
 (hdb:(x==("__debug__":Str))=false:=by decide):PE X (.Call (.Name x p) [] [] pos) (xX sp dvs E xW):=by
 intro pins s σ H Q I h
 refine QU (iX I hg hm ?_ hdb)
 exact S6 I.kIn hk (kQ (us:=[]) F hr hb hd hx I .nil h)
theorem By {pl:Sem Bool} (he:PE X o ta) (c:Cls X.K C) (hm:vM X.K C m f) (F:fX X.prog X.w X.K X.mg X.base CX k f fd ps sp) (hr:bP k X.A) (hb:Binds X.K fd ps ds) (hd:au dvs ds) (hx:fY CX X E) (ha:PA X (e :: es) t)
 (hst:PL (e :: es) X.env=(false,eval e X.env) :: PL es X.env:=by rfl) (hpl:(Rg pos (PL es X.env)).any (·.1)=false:=by rfl)
 (ht:eval (.Call (.Attribute o m apos) (e :: es) [] pos) X.env=(do
  let ov ← eval o X.env
  standAt apos.atName
  let (f,first) ← holding [ov] (Ug ov m pl)
  callWith pos f first (Rg pos (PL (e :: es) X.env)) (TL pos (RX [] X.env))):=by rfl) :
 PE X (.Call (.Attribute o m apos) (e :: es) [] pos) (xY C m sp dvs E ta t):=by
 intro pins s σ H Q I h
 refine RI (pl:=pl) (thn (he pins s σ H _ I h) fun u s1 ⟨x,H1,I1,rx,a,dx,fs,ex,ea,l,q⟩=>?_) ht
 subst ex
 obtain rfl:u=Pz a:=rx
 refine fW I1 ea c hm l ?_
 refine Rp (first:=[.ref a]) (h₀:=X.base) I.ok.mod.kin hm.kp (thn (ha pos pins s1 σ H1 _ I1 q) fun us s2 ⟨vs,H2,I2,r,q2⟩=>⟨I2.kIn,?_⟩) hst hpl
 exact kQ (us:=.ref a :: us) (vs:=.ref a :: vs) F hr hb hd hx I2 (.cons rfl r) q2
theorem yb {pl:Sem Bool} (he:PE X o ta) (c:Cls X.K C) (hm:vM X.K C m f) (F:fX X.prog X.w X.K X.mg X.base CX k f fd ps sp) (hr:bP k X.A) (hb:Binds X.K fd ps ds) (hd:au dvs ds) (hx:fY CX X E)
 (ht:eval (.Call (.Attribute o m apos) [] [] pos) X.env=(do
  let ov ← eval o X.env
  standAt apos.atName
  let (f,first) ← holding [ov] (Ug ov m pl)
  callWith pos f first (Rg pos (PL [] X.env)) (TL pos (RX [] X.env))):=by rfl) :
 PE X (.Call (.Attribute o m apos) [] [] pos) (xY C m sp dvs E ta xW):=by
 intro pins s σ H Q I h
 refine RI (pl:=pl) (thn (he pins s σ H _ I h) fun u s1 ⟨x,H1,I1,rx,a,dx,fs,ex,ea,l,q⟩=>?_) ht
 subst ex
 obtain rfl:u=Pz a:=rx
 refine fW I1 ea c hm l ?_
 exact S6 (first:=[.ref a]) I1.kIn hm.kp (kQ (us:=[.ref a]) (vs:=[.ref a]) F hr hb hd hx I1 (.cons rfl .nil) q)
structure Mk (K:O0) (C f:Addr):Prop where
 makes:T6 K C=true
 init:Qa K (.ref C) "__init__"=some (some (.ref f))
 fn:TN K (.ref f)=true
 kp:Qp K (.ref C)=true
theorem pP {pins:List (Addr×Obj)}{σ:St}{H:Hp}{s:O4}{Q:VK}{us:List O3}{vs:List V} (M:Mk X.K C f) (F:fX X.prog X.w X.K X.mg X.base CX k f fd ps sp) (hr:bP (k+1) X.A) (hb:Binds X.K fd ps ds) (hd:au dvs ds)
 (hx:fY CX X E) (I:Inv X pins σ H s) (r:au vs us)
 (h:∀ x dx,H x=none->H dx=none->dx≠x->sp (.ref x :: (vs++dvs)) (upd (upd H dx (.own x)) x (.ins C dx [])) (fun v H2=>v=.non/\Q (.ref x) H2) E) :
 wpAny (Pw X.prog X.w) X.A (call (.ref C) us) (EP X pins σ Q) X.xe s:=by
 have hq:=h (s.heap.objs.size+1) s.heap.objs.size (I.hok.fresh (QS _)) (I.hok.fresh (O8 _)) (PD (Q2 _))
 have I2:=Inv.made (C:=C) I
 have r2:au (V.ref (s.heap.objs.size+1) :: (vs++dvs)) (Pz (s.heap.objs.size+1) :: (us++ds)):=.cons rfl (r.append hd)
 have hl:(Pz (s.heap.objs.size+1) :: us++ds).length=ps.length:=by
  have e:=r2.length
  rw[F.len _ _ _ _ hq] at e
  exact e.symm
 refine SM (xV (f:=f) I.kIn M.makes M.init (beq_iff_eq.mp M.fn) (codeAny_mono (F.run _ X.stack _ _ ⟨Pz (s.heap.objs.size+1) :: us,[]⟩ (Pz (s.heap.objs.size+1) :: (us++ds)) _ _ E (hr.make C us [])
  (I2.Fz.make C us []) (hb _ (Pz (s.heap.objs.size+1) :: us) I2.kIn hl) r2 hq) fun r s' hq'=>?_))
 cases r with
 | error e=>exact hx pins σ _ _ e s' I2 hq'
 | ok fl =>
  cases fl with
  | ret u =>
   obtain ⟨v,H',I3,rv,ev,q3⟩:=I2.after hq'
   subst ev
   exact ⟨rv,⟨V.ref (s.heap.objs.size+1),H',I3,rfl,q3⟩⟩
  | next=>exact P5 hq'
  | brk=>exact P5 hq'
  | cont=>exact P5 hq'
theorem BA (M:Mk X.K C f) (F:fX X.prog X.w X.K X.mg X.base CX k f fd ps sp) (hr:bP (k+1) X.A) (hg:Gl X x) (hm:X.mg x=some (.ref C)) (hb:Binds X.K fd ps ds) (hd:au dvs ds) (hx:fY CX X E)
 (ha:PA X (e :: es) t) (hdb:(x==("__debug__":Str))=false:=by decide) (he:PL (e :: es) X.env=(false,eval e X.env) :: PL es X.env:=by rfl) (hpl:(Rg pos (PL es X.env)).any (·.1)=false:=by rfl) :
 PE X (.Call (.Name x p) (e :: es) [] pos) (xZ C sp dvs E t):=by
 intro pins s σ H Q I h
 refine QU (iX I hg hm ?_ hdb)
 refine Rp (h₀:=X.base) I.ok.mod.kin M.kp (thn (ha pos pins s σ H _ I h) fun us s1 ⟨vs,H1,I1,r,q⟩=>⟨I1.kIn,?_⟩) he hpl
 exact pP M F hr hb hd hx I1 r q
theorem yc (M:Mk X.K C f) (F:fX X.prog X.w X.K X.mg X.base CX k f fd ps sp) (hr:bP (k+1) X.A) (hg:Gl X x) (hm:X.mg x=some (.ref C)) (hb:Binds X.K fd ps ds) (hd:au dvs ds) (hx:fY CX X E)
 (hdb:(x==("__debug__":Str))=false:=by decide):PE X (.Call (.Name x p) [] [] pos) (xZ C sp dvs E xW):=by
 intro pins s σ H Q I h
 refine QU (iX I hg hm ?_ hdb)
 exact S6 I.kIn M.kp (pP (us:=[]) M F hr hb hd hx I .nil h)
end
section
variable {X:Cx}{CX:CXT}{k:Nat}{f C:Addr}{fd:QN}{ps ks:List Str}{sp:Sp}{E:XK}{x m:Str}{p pos apos kpos:Pos}{e o:R6}{es:List R6}{kws:List T8}{te ta:TE}{t tk:TA}{nm:Option Str}
variable {g:List O3->List O3->List O3}{gV:List V->List V->List V}
end
structure cI (N P:List Str) (sc:Pu):Prop where
 kind:sc.kind=.function
 co:sc.isCoroutine=false
 gen:sc.isGenerator=false
 nd:N.Nodup
 pre:N.take P.length=P
 par:∀ x∈P,sc.names.lookup x=some .local\/sc.names.lookup x=some .cell
 nofree:∀ y∈sc.names,y.2≠.free
theorem mX {kindOf:Str->Option Rm}{x:Str}:∀ {binds:List (Str×O3)}{m:Str->Option O3},(∀ v,(x,v)∉binds)->bindL kindOf binds m x=m x
 | [],_,_=>rfl
 | (n,v) :: r,m,h=>by
  unfold bindL
  rw[mX fun w hw=>h w (Pb _ hw)]
  split
  ·have:x≠n:=by rintro rfl;exact h v Pf
   simp[this]
  ·rfl
theorem mY {kindOf:Str->Option Rm}{x:Str}:∀ {binds:List (Str×O3)}{m:Str->Option O3},(∀ v,(x,v)∉binds)->bindC kindOf binds m x=m x
 | [],_,_=>rfl
 | (n,v) :: r,m,h=>by
  unfold bindC
  rw[mY fun w hw=>h w (Pb _ hw)]
  split
  ·rfl
  ·have:x≠n:=by rintro rfl;exact h v Pf
   simp[this]
theorem mZ {kindOf:Str->Option Rm}{x:Str}{v:O3}:∀ {P:List Str}{vs:List O3}{i:Nat}{m:Str->Option O3},P.Nodup->P[i]?=some x->vs[i]?=some v->kindOf x=some .local →
 bindL kindOf (P.zip vs) m x=some v
 | [],_,_,_,_,h,_,_=>by simp at h
 | _ :: _,[],_,_,_,_,h,_=>by simp at h
 | p :: P,w :: vs,0,m,nd,h1,h2,hk=>by
  simp at h1 h2;subst h1;subst h2
  show bindL kindOf ((p,w) :: P.zip vs) m p=_
  unfold bindL
  rw[mX fun v hv=>(List.nodup_cons.mp nd).1 (SV hv).1,if_pos hk]
  simp
 | p :: P,w :: vs,i+1,m,nd,h1,h2,hk=>by
  show bindL kindOf ((p,w) :: P.zip vs) m x=_
  unfold bindL
  exact mZ (i:=i) (List.nodup_cons.mp nd).2 (by simpa using h1) (by simpa using h2) hk
theorem m6 {kindOf:Str->Option Rm}{x:Str}{v:O3}:∀ {P:List Str}{vs:List O3}{i:Nat}{m:Str->Option O3},P.Nodup->P[i]?=some x->vs[i]?=some v->kindOf x≠some .local →
 bindC kindOf (P.zip vs) m x=some v
 | [],_,_,_,_,h,_,_=>by simp at h
 | _ :: _,[],_,_,_,_,h,_=>by simp at h
 | p :: P,w :: vs,0,m,nd,h1,h2,hk=>by
  simp at h1 h2;subst h1;subst h2
  show bindC kindOf ((p,w) :: P.zip vs) m p=_
  unfold bindC
  rw[mY fun v hv=>(List.nodup_cons.mp nd).1 (SV hv).1,if_neg hk]
  simp
 | p :: P,w :: vs,i+1,m,nd,h1,h2,hk=>by
  show bindC kindOf ((p,w) :: P.zip vs) m x=_
  unfold bindC
  exact m6 (i:=i) (List.nodup_cons.mp nd).2 (by simpa using h1) (by simpa using h2) hk
noncomputable def start (N:List Str) (vs:List V):St:=vs.map some++Pv (N.length - vs.length) none
noncomputable def rJ (CX:CXT) (P:Pi) (w:PK) (K:O0) (mg:Str->Option O3) (base:Heap) (N:List Str) (qual:Str) (scope:Pu) (f:Addr) (cd:O3) (A:Qi) (outer:List Env) (s:O4) (H:Hp) (E:XK):Cx where
 prog:=P
 w:=w
 K:=K
 mg:=mg
 base:=base
 A:=A.deeper (U4 qual scope s.heap.objs.size f cd)
 N:=N
 s₀:=s
 H₀:=H
 env:=U4 qual scope s.heap.objs.size f cd
 outer:=outer
 stack:=U4 qual scope s.heap.objs.size f cd :: outer
 ex:=[]
 calm:=true
 fn:=fun _=>true
 pn:=[]
 xe:=fun e s'=>wpAny (Pw P w) (A.deeper (U4 qual scope s.heap.objs.size f cd)) (leaving (U4 qual scope s.heap.objs.size f cd) e) (fun _ s''=>CX outer H s E e s'') (fun e' s''=>CX outer H s E e' s'') s'
theorem pQ {sc:Pu}{n:Nat}{x:Str} (h:sc.names.lookup x=some .cell):∃ c,(cellsFrom n sc.names []).lookup x=some c:=by
 have q:=UI sc.names n [] (.inl h)
 exact Option.isSome_iff_exists.mp q
theorem vO {CX:CXT}{P:Pi}{w:PK}{K:O0}{mg:Str->Option O3}{base:Heap}{N ps:List Str}{qual:Str}{scope:Pu}{f:Addr}{cd:O3}{A:Qi}{outer:List Env}{s s1:O4}{H:Hp}{E:XK}{us:List O3}{vs:List V}
 (S:cI N ps scope) (hd:A.handled=none) (e0:mq P w K mg base A outer s H) (hl:vs.length=ps.length) (r:au vs us)
 (x:InCallC s s.heap.objs.size (bindL (U4 qual scope s.heap.objs.size f cd).kindOf (ps.zip us) fun _=>none) (cellsFrom (s.heap.objs.size+1) scope.names []) (bindC (U4 qual scope s.heap.objs.size f cd).kindOf (ps.zip us) fun _=>none) s1) :
 Inv (rJ CX P w K mg base N qual scope f cd A outer s H E) [] (start N vs) H s1:=by
 have hpl:ps.length<=N.length:=by have:=congrArg SE S.pre;rw[Ua] at this;omega
 obtain ⟨h1,tk,rfl,hk⟩:=x.done
 have noA:∀ b:Addr,b∉(rJ CX P w K mg base N qual scope f cd A outer s H E).ex:=fun b z=>absurd (show b∈([]:List Addr) from z) (by simp)
 refine ⟨⟨e0.mod,S.kind,rfl,rfl,O8 _,fun y z c h1 h2=>?_,fun y hy=>?_,fun y c _ h=>?_,fun _=>hd,Vg e0.frames,.inr ⟨rfl,rfl⟩,fun b z=>absurd z (noA b),e0.bs,e0.bsz,fun b _ _=>noA b,fun b z=>absurd z (noA b),e0.iI,e0.frf⟩,
  rfl,e0.bare,Un.kept hk,⟨_,x.toInCall.ns,fun i y v h1 h2 h3=>?_⟩,fun y c h=>⟨_,x.cell y c h⟩,e0.hok.fresh (O8 _),fun y c h=>?_,fun p hp=>absurd (show p∈([]:List (Addr×Obj)) from hp) (by simp),e0.hok.kept hk,?_⟩
 ·exact name_of_addr x.apart (QE h1) (QE h2)
 ·have hy:scope.names.lookup y=some .cell\/scope.names.lookup y=some .free:=hy
  rcases hy with hy | hy
  ·exact pQ hy
  ·exact absurd rfl (S.nofree _ (QE hy))
 ·exact Qk (x.above y c (QE h))
 ·have hi:i < vs.length:=by
   unfold start at h2
   by_cases hi:i < vs.length
   ·exact hi
   ·rw[PM (by simpa using hi)] at h2
    rw[RB] at h2
    split at h2<;>cases h2
  have ha:vs[i]?=some v:=by
   unfold start at h2
   rw[Pd (by simpa using hi),Px] at h2
   cases e:vs[i]? with
   | none=>rw[e] at h2;cases h2
   | some a=>rw[e] at h2;cases h2;rfl
  obtain ⟨u,hu,rv⟩:=r.get ha
  have hp:ps[i]?=some y:=by
   rw[← S.pre,Rq (by omega)];exact h1
  have ndP:ps.Nodup:=by rw[← S.pre];exact S.nd.sublist (List.take_sublist _ _)
  refine ⟨u,rv,?_⟩
  rcases S.par y (Ph hp) with k | k
  ·exact .inl ⟨k,mZ ndP hp hu k⟩
  ·obtain ⟨c,e⟩:=pQ (n:=s.heap.objs.size+1) k
   refine .inr ⟨.inl k,c,e,?_⟩
   have q:=x.cell y c e
   rw[m6 ndP hp hu (by show scope.names.lookup y≠_;rw[k];decide)] at q
   exact q
 ·exact e0.hok.fresh (Qk (x.above y c (QE h)))
 ·unfold start
  show _=N.length
  rw[PB,Pa,RT]
  omega
theorem Jm {CX:CXT}{P:Pi}{w:PK}{K:O0}{mg:Str->Option O3}{base:Heap}{k:Nat}{f:Addr}{name qual:Str}{params:Q8}{body:List UH}{scope:Pu}{dV kV doc pm cdv ct oc:O3}{an od:Option Addr}
 {osl:Array (Option O3)}{N ps:List Str}{sp:Sp} (lk:K.lookup f=some ⟨oc,od,.func (QI name qual params body scope dV kV doc pm an cdv ct),osl⟩) (hcd:SR K cdv qual=true) (S:cI N ps scope)
 (len:∀ vs H Q E,sp vs H Q E->vs.length=ps.length)
 (hbody:∀ (A:Qi) (outer:List Env) (s:O4) (H:Hp) (vs:List V) (Q:VK) (E:XK),bP k (A.deeper (U4 qual scope s.heap.objs.size f cdv))->sp vs H Q E →
  ∃ t,PSs (rJ CX P w K mg base N qual scope f cdv A outer s H E) body t/\t { nx:=fun _ H'=>Q .non H',rt:=Q } (start N vs) H) :
 fX P w K mg base CX (k+1) f (QI name qual params body scope dV kV doc pm an cdv ct) ps sp:=by
 refine ⟨len,fun A outer s H args us vs Q E hr e0 hb r hsp=>?_⟩
 have hl:=len _ _ _ _ hsp
 have KX:K.In s.heap:=e0.mod.kin.keeps fun b o e=>(e0.bs b o e).1
 have lim:s.heap.NoLimit:=e0.mod.nolimit.keeps fun b o e=>(e0.bs b o e).1
 have hkind:∀ y∈ps.zip us,scope.names.lookup y.1=some .local\/(scope.names.lookup y.1=some .cell/\((cellsFrom (s.heap.objs.size+1) scope.names []).lookup y.1).isSome=true):=fun ⟨n,v⟩ hy=>by
  rcases S.par n (SV hy).1 with q | q
  ·exact .inl q
  ·exact .inr ⟨q,UI _ _ _ (.inl q)⟩
 refine codeAny_call_function hr.depth (KX _ _ lk) rfl S.co S.gen rfl (PySem.W.codeRec_of KX hcd) (hb _ _ _ _ ?_)
 refine wpAny_newFunctionEnv_cells S.kind hkind fun env he s1 x=>?_
 subst he
 refine ⟨lim.keeps x.toInCall.keep,codeAny_func ?_⟩
 obtain ⟨t,ht,hq⟩:=hbody A outer s H vs Q E (hr.deeper _) hsp
 have I:Inv (rJ CX P w K mg base N qual scope f cdv A outer s H E) [] (start N vs) H s1:=vO S hr.hd e0 hl r x
 refine wpAny_mono (ht [] s1 (start N vs) H _ I hq) (fun fl s' hs=>?_) fun e s' hs=>hs
 have fin:∀ {σ':St}{H':Hp}{v:V}{u:O3},Inv (rJ CX P w K mg base N qual scope f cdv A outer s H E) [] σ' H' s'->RelV v u->Q v H'->CE outer P w H s Q u s' :=
  fun {σ' H' v u} J rv q=>⟨v,H',J.os,J.bare,J.base,J.hok,rv,q⟩
 cases fl with
 | ret u =>
  obtain ⟨v,σ',H',J,rv,q⟩:=hs
  exact fin J rv q
 | next =>
  obtain ⟨σ',H',J,q⟩:=hs
  exact fin (v:=V.non) (u:=RG) J rfl q
 | brk =>
  obtain ⟨_,_,_,q⟩:=hs
  exact P5 q
 | cont =>
  obtain ⟨_,_,_,q⟩:=hs
  exact P5 q
end L2
namespace L2
open PySem PySem.Spec PyProof.Rows
section
variable {X:Cx}{x:Str}{p pos:Pos}{e:R6}{es:List R6}{t:TA}{id T:String}{r:List V->Hp->VK->Prop}
noncomputable def tCB (r:List V->Hp->VK->Prop) (t:TA):TE:=fun σ H Q=>t σ H fun vs H1=>r vs H1 Q
theorem fC (hc:cC X (.builtin id) r) (hg:Gl X x) (hm:X.mg x=none) (hv:SD x=some (.builtin id)) (ha:PA X (e :: es) t) (hn:x≠"__name__":=by decide) (hdb:(x==("__debug__":Str))=false:=by decide)
 (he:PL (e :: es) X.env=(false,eval e X.env) :: PL es X.env:=by rfl) (hpl:(Rg pos (PL es X.env)).any (·.1)=false:=by rfl):PE X (.Call (.Name x p) (e :: es) [] pos) (tCB r t):=by
 intro pins s σ H Q I h
 refine QU (fU I hg hm hv ?_ hn hdb)
 exact Rr (thn (ha pos pins s σ H _ I h) fun us s1 ⟨vs,H1,I1,r1,q1⟩=>hc pins s1 σ H1 vs us Q I1 r1 q1) he hpl
theorem gU (hc:cC X (.type T) r) (hg:Gl X x) (hm:X.mg x=none) (hv:SD x=some (.type T)) (ha:PA X (e :: es) t) (hn:x≠"__name__":=by decide) (hdb:(x==("__debug__":Str))=false:=by decide)
 (he:PL (e :: es) X.env=(false,eval e X.env) :: PL es X.env:=by rfl) (hpl:(Rg pos (PL es X.env)).any (·.1)=false:=by rfl):PE X (.Call (.Name x p) (e :: es) [] pos) (tCB r t):=by
 intro pins s σ H Q I h
 refine QU (fU I hg hm hv ?_ hn hdb)
 exact Qw (thn (ha pos pins s σ H _ I h) fun us s1 ⟨vs,H1,I1,r1,q1⟩=>hc pins s1 σ H1 vs us Q I1 r1 q1) he hpl
end
end L2
namespace HT
open PySem PyProof.Rows
section
open PySem.SeqAt
open PySem.AutoSeq1 (wpAny_loadPart')
open PySem.MeetsSeq PySem.MeetsSeq2 PySem.MeetsSeq3
end
section
variable {prog:Pi}{w:PK}{A:Qi}{E:O3->O4->Prop}{s:O4}
theorem BB {t b:Addr}{vs ws:List O3}{Q:O3->O4->Prop} (ht:IsTup s.heap t vs.toArray) (hb:IsTup s.heap b ws.toArray) (hv:vs≠[])
 (h1:ws=[]->Q (.ref t) s) (h2:ws≠[]->Q (.ref s.heap.objs.size) { s with heap:=s.heap.push { cls:=.type "tuple",data:=.seq (vs++ws).toArray } })
 (hsz:vs.length+ws.length<=sizeLine):wpAny (Pw prog w) A (QH .Add (.ref t) (.ref b)) Q E s:=by
 obtain ⟨⟨cls,dd,data,sl⟩,ho,hc,n,hd⟩:=id ht
 obtain ⟨⟨cls2,dd2,data2,sl2⟩,ho2,hc2,n2,hd2⟩:=id hb
 simp only at hc hd hc2 hd2
 subst hc hd hc2 hd2
 have e:vs.toArray++ws.toArray=(vs++ws).toArray:=by simp
 by_cases hw:ws=[]
 ·exact concat_meets ⟨_,ho,rfl⟩ ⟨_,ho2,rfl⟩ UO VE SB Sy (So _ _)
   (tuple_addW1 t b vs.toArray ws.toArray n n2 dd dd2 sl sl2 (by simpa using hv) (by simp[hw])) ⟨ho,ho2,h1 hw⟩
 ·refine concat_meets ⟨_,ho,rfl⟩ ⟨_,ho2,rfl⟩ UO VE SB Sy (So _ _)
   (tuple_addW2 t b vs.toArray ws.toArray n n2 dd dd2 sl sl2 (by simpa using hv) (by simpa using hw) (by rw[O6,O6];exact hsz)) ⟨ho,ho2,?_⟩
  rw[e]
  exact h2 hw
noncomputable def sIx (n d:Nat):Option Int->Nat
 | none=>d
 | some v=>if v < 0 then (v+(n:Int)).toNat else min v.toNat n
theorem FA (n d:Nat) (hd:d<=n) (o:Option Int):sIx n d o<=n:=by
 cases o with
 | none=>exact hd
 | some v =>
  show (if v < 0 then (v+(n:Int)).toNat else min v.toNat n)<=n
  by_cases hv:v < 0
  ·rw[if_pos hv];omega
  ·rw[if_neg hv];exact Nat.min_le_right _ _
theorem tF (v:Int) (n d:Nat):(if v < 0 then max (v+(n:Int)) 0 else min v (n:Int))=((sIx n d (some v):Nat):Int):=by
 show (if v < 0 then max (v+(n:Int)) 0 else min v (n:Int))=(((if v < 0 then (v+(n:Int)).toNat else min v.toNat n):Nat):Int)
 by_cases hv:v < 0
 ·simp only[if_pos hv];omega
 ·simp only[if_neg hv];omega
theorem rK (lo hi:Option Int) (n:Nat):RV lo hi 1 (n:Int)=(((sIx n 0 lo:Nat):Int),((sIx n n hi:Nat):Int)):=by
 have h1:¬ ((1:Int) < 0):=by omega
 unfold RV
 simp only[h1,if_false]
 refine Prod.ext ?_ ?_
 ·cases lo with
  | none=>rfl
  | some v=>exact tF v n 0
 ·cases hi with
  | none=>rfl
  | some v=>exact tF v n n
theorem rL (i j:Nat):Q5 (i:Int) (j:Int) 1=j - i:=by
 unfold Q5
 have h1:(1:Int) > 0:=by omega
 simp only[h1,if_true,Int.ediv_one]
 split<;>omega
theorem kR {v:O3}{o:Option Int}{Q:Option Int->O4->Prop} (p:UL v o) (h:Q o s):wpAny (Pw prog w) A (Builtin.Slice.slicePartIndex v) Q E s:=by
 cases p with
 | none=>exact slicePart_none h
 | int i t=>exact slicePart_int h
theorem fD {sl:Addr}{vl vu:O3}{lo hi:Option Int}{n:Nat}{Q:Int×Int×Nat->O4->Prop} (hs:s.heap.IsSliceOf sl vl vu .none) (pl:UL vl lo) (pu:UL vu hi)
 (h:Q (((sIx n 0 lo:Nat):Int),1,sIx n n hi - sIx n 0 lo) s):wpAny (Pw prog w) A (Tn (.ref sl) (pure (n:Int))) Q E s:=by
 obtain ⟨os,hos,hcs,hds⟩:=id hs
 unfold Tn Builtin.Slice.sliceFields
 refine wpAny_bind (wpAny_bind (wpAny_field hos hds (x:=vl) rfl (wpAny_bind (wpAny_field hos hds (x:=vu) rfl (wpAny_bind (wpAny_field hos hds (x:=.none) rfl (wpAny_pure ?_)))))))
 refine wpAny_bind (slicePart_none ?_)
 show wpAny _ _ (if ((1:Int)==0)=true then _ else _) _ _ s
 rw[if_neg (by decide)]
 refine wpAny_bind (kR pl (wpAny_bind (kR pu (wpAny_bind (wpAny_pure ?_)))))
 show wpAny _ _ (match RV lo hi 1 (n:Int) with | (lo,hi)=>pure (lo,(1:Int),Q5 lo hi 1)) _ _ s
 rw[rK lo hi n]
 show wpAny _ _ (pure (((sIx n 0 lo:Nat):Int),(1:Int),Q5 ((sIx n 0 lo:Nat):Int) ((sIx n n hi:Nat):Int) 1)) _ _ s
 rw[rL]
 exact wpAny_pure h
theorem yd (xs:Array O3) (i k:Nat):((Pr k).filterMap fun (m:Nat)=>xs[((i:Int)+(m:Int)*1).toNat]?).toArray=((xs.toList.drop i).take k).toArray:=by
 have e:(fun (m:Nat)=>xs[((i:Int)+(m:Int)*1).toNat]?)=fun m=>xs[i+m]?:=by
  funext m
  have:((i:Int)+(m:Int)*1).toNat=i+m:=by omega
  rw[this]
 rw[e]
 have:=pick_run xs i k
 rw[VT] at this
 have e2:((fun x=>xs[x]?) ∘ fun x=>i+x)=fun m=>xs[i+m]?:=rfl
 rw[e2] at this
 rw[this]
theorem i7 {t sl:Addr}{items:Array O3}{vl vu:O3}{lo hi:Option Int}{Q:O3->O4->Prop} (ht:IsTup s.heap t items) (hs:s.heap.IsSliceOf sl vl vu .none) (pl:UL vl lo) (pu:UL vu hi)
 (hw:¬ (sIx items.size 0 lo=0/\sIx items.size items.size hi=items.size))
 (h:Q (.ref s.heap.objs.size) { s with heap:=s.heap.push { cls:=.type "tuple",data:=.seq ((items.toList.drop (sIx items.size 0 lo)).take (sIx items.size items.size hi - sIx items.size 0 lo)).toArray } })
 (hsz:items.size<=sizeLine):wpAny (Pw prog w) A (Uw (.ref t) (.ref sl)) Q E s:=by
 have htake:sizeOk (.seq ((items.toList.drop (sIx items.size 0 lo)).take (sIx items.size items.size hi - sIx items.size 0 lo)).toArray):=by
  show ((items.toList.drop (sIx items.size 0 lo)).take (sIx items.size items.size hi - sIx items.size 0 lo)).toArray.size<=sizeLine
  rw[O6,Ua,List.length_drop,Qs]
  omega
 have hj:sIx items.size items.size hi<=items.size:=FA _ _ (O8 _) hi
 obtain ⟨os,hos,hcs,hds⟩:=id hs
 have hTs:s.TypeIs (.ref sl) "slice":=⟨os,hos,hcs⟩
 unfold Uw
 try with_reducible refine Qh ?_
 first | refine wpAny_bind (wpAny_pure ?_) | skip
 refine wpAny_bind (wpAny_sequenceKey ht.typeIs (by decide) ?_)
 refine wpAny_bind (Q4 (name:=Pp "__getitem__") ht.typeIs QK
  (Rv QK ht.typeIs entry_tuple_getitem ?_ (args_tuple_getitem _ _)))
 show wpAny _ _ (Tj (.ref t) >>= _) _ _ s
 refine wpAny_bind (tupleItemsOf_ ht ?_)
 refine wpAny_bind (Sd hTs ?_)
 rw[if_pos (by decide)]
 refine wpAny_bind (fD hs pl pu ?_)
 have hno:¬ ((((sIx items.size 0 lo:Nat):Int)==0&&(1:Int)==1&&(sIx items.size items.size hi - sIx items.size 0 lo)==items.size)=true):=by
  intro q
  rw[O5,O5] at q
  have q1:((sIx items.size 0 lo:Nat):Int)=0:=eq_of_beq q.1.1
  have q2:sIx items.size items.size hi - sIx items.size 0 lo=items.size:=eq_of_beq q.2
  exact hw ⟨by omega,by omega⟩
 show wpAny _ _ (if (((sIx items.size 0 lo:Nat):Int)==0&&(1:Int)==1&&(sIx items.size items.size hi - sIx items.size 0 lo)==items.size)=true then _ else _) _ _ s
 rw[if_neg hno,yd]
 first
  | exact wpAny_bind (m:=Re _) (PJ (wpAny_pure ⟨_,rfl,wpAny_pure h⟩) htake)
  | exact wpAny_bind (m:=Re _) (PJ (wpAny_bind (wpAny_pure (wpAny_pure ⟨_,rfl,wpAny_pure h⟩))) htake)
  | exact wpAny_bind (wpAny_bind (m:=Re _) (PJ (wpAny_pure (wpAny_pure ⟨_,rfl,wpAny_pure h⟩)) htake))
  | exact wpAny_bind (wpAny_bind (m:=Re _) (PJ (wpAny_pure ⟨_,rfl,wpAny_pure h⟩) htake))
end
end HT
namespace L2
open PySem PySem.Spec PyProof.Rows
noncomputable abbrev TO:=St->Hp->(Option Int->Hp->Prop)->Prop
noncomputable def PO (X:Cx) (e:Option R6) (t:TO):Prop :=
 ∀ (pins:List (Addr×Obj)) (s:O4) (σ:St) (H:Hp) (Q:Option Int->Hp->Prop),Inv X pins σ H s->t σ H Q →
  wpAny (Pw X.prog X.w) X.A (evalPart e X.env) (fun u s'=>∃ o H',Inv X pins σ H' s'/\UL u o/\Q o H') X.xe s
noncomputable def BD:TO:=fun _ H Q=>Q none H
noncomputable def Jo (t:TE):TO:=fun σ H Q=>t σ H fun x H1=>∃ i,x=.int i/\Q (some i) H1
theorem intsAre_of {ns:List Int}:∀ {us:List O3},au (ns.map V.int) us->Sz us ns:=by
 induction ns with
 | nil=>intro us r;rw[Rc] at r;cases r;exact .nil
 | cons n ns ih =>
  intro us r
  rw[Pe] at r
  cases r with
  | cons r1 r2 =>
   obtain ⟨t,e⟩:=r1
   subst e
   exact .cons n t (ih r2)
section
variable {X:Cx}{e:R6}{te:TE}{lo hi:Option R6}{tl th:TO}{pos p2:Pos}
theorem BE:PO X none BD:=by
 intro pins s σ H Q I h
 rw[VG]
 exact wpAny_pure ⟨none,H,I,.none,h⟩
theorem BH (h:PE X e te):PO X (some e) (Jo te):=by
 intro pins s σ H Q I hw
 rw[evalPart_some]
 refine thn (h pins s σ H _ I hw) fun u s1 zq=>?_
 obtain ⟨x,H1,I1,r1,q1⟩:=zq
 obtain ⟨i,rfl,q⟩:=q1
 obtain ⟨t,rfl⟩:=r1
 exact ⟨some i,H1,I1,.int i t,q⟩
noncomputable def SlR (X:Cx) (r:V->Option Int->Option Int->Hp->VK->Prop):Prop :=
 ∀ (pins:List (Addr×Obj)) (s:O4) (σ:St) (H:Hp) (x:V) (v vl vu:O3) (lo hi:Option Int) (sl:Addr) (Q:VK),Inv X pins σ H s->RelV x v->s.heap.IsSliceOf sl vl vu .none->UL vl lo->UL vu hi->r x lo hi H Q →
  ∃ T id,typeLookup (.type T) "__getitem__"=pure (some (.builtin id))/\s.TypeIs v T/\wpAny (Pw X.prog X.w) X.A (Uw v (.ref sl)) (EP X pins σ Q) X.xe s
noncomputable def tSl (r:V->Option Int->Option Int->Hp->VK->Prop) (te:TE) (tl th:TO):TE:=fun σ H Q=>te σ H fun x H1=>tl σ H1 fun l H2=>th σ H2 fun u H3=>r x l u H3 Q
theorem ye {r:V->Option Int->Option Int->Hp->VK->Prop} (hr:SlR X r) (he:PE X e te) (hl:PO X lo tl) (hu:PO X hi th):PE X (.Subscript e (.Slice lo hi none p2) pos) (tSl r te tl th):=by
 intro pins s σ H Q I h
 refine Subscript_ (thn (he pins s σ H _ I h) fun v s1 zq=>?_)
 obtain ⟨x,H1,I1,r1,q1⟩:=zq
 refine wpAny_Slice (thn (hl pins s1 σ H1 _ I1 q1) fun vl s2 ⟨l,H2,I2,pl,q2⟩=>thn (hu pins s2 σ H2 _ I2 q2) fun vu s3 zq=>?_)
 obtain ⟨u,H3,I3,pu,q3⟩:=zq
 rw[VG]
 refine wpAny_pure ?_
 have I4:Inv X pins σ H3 { s3 with heap:=s3.heap.push { cls:=.type "slice",data:=.fields #[vl,vu,.none] } }:=I3.kept (t':=s3.toks) fun b ob q=>O2 _ q
 obtain ⟨T,id,hT,ht,hg⟩:=hr pins { s3 with heap:=s3.heap.push { cls:=.type "slice",data:=.fields #[vl,vu,.none] } } σ H3 x v vl vu l u s3.heap.objs.size Q I4 r1 (Ul ..) pl pu q3
 show wpAny (Pw X.prog X.w) X.A (VD e (.Slice lo hi none p2) v (.ref s3.heap.objs.size)) (EP X pins σ Q) X.xe { s3 with heap:=s3.heap.push { cls:=.type "slice",data:=.fields #[vl,vu,.none] } }
 exact tail_any (ops:=[.ref s3.heap.objs.size,v]) ht hT hg (by with_unfolding_all rfl)
noncomputable def pR (xs:List V) (lo hi:Option Int):List V:=(xs.drop (HT.sIx xs.length 0 lo)).take (HT.sIx xs.length xs.length hi - HT.sIx xs.length 0 lo)
theorem jU (xs:List V) (lo hi:Option Int):(pR xs lo hi).length<=xs.length:=by
 unfold pR
 rw[Ua,List.length_drop]
 omega
noncomputable def MR (K:O0):V->Option Int->Option Int->Hp->VK->Prop:=fun x lo hi H Q=>∃ a xs,x=.ref a/\SqT K H a xs ∧
 ¬ (HT.sIx xs.length 0 lo=0/\HT.sIx xs.length xs.length hi=xs.length)/\∀ p,H p=none->Q (.ref p) (upd H p (.tup (pR xs lo hi)))
theorem FD:SlR X (MR X.K):=by
 intro pins s σ H x v vl vu lo hi sl Q I rx hs pl pu h
 obtain ⟨a,xs,rfl,hx,hw,q⟩:=h
 cases rx
 obtain ⟨its,r,ht,hz⟩:=I.tuple hx
 have hlen:its.toArray.size=xs.length:=by rw[O6];exact r.length.symm
 refine ⟨"tuple",_,PyProof.Rows.slot_tuple_getitem.lookup,ht.typeIs,?_⟩
 refine HT.i7 ht hs pl pu (by rw[hlen];exact hw) ?_ (by rw[hlen];exact hz)
 rw[hlen]
 refine ⟨.ref s.heap.objs.size,_,I.laid (t':=s.toks) (o:=.tup (pR xs lo hi)) (fun b ob q=>O2 _ q) (O8 _) ?_,rfl,q _ (I.hok.fresh (O8 _))⟩
 exact ⟨PZ (jU xs lo hi) hz,_,(r.drop (HT.sIx xs.length 0 lo)).take (HT.sIx xs.length xs.length hi - HT.sIx xs.length 0 lo),IsTup.new _ _⟩
noncomputable def Jp (K:O0):R2:=fun x y H Q=>∃ a b xs ys,x=.ref a/\y=.ref b/\SqT K H a xs/\SqT K H b ys/\xs≠[]/\xs.length+ys.length<=sizeLine ∧
 (ys=[]->Q (.ref a) H)/\(ys≠[]->∀ p,H p=none->Q (.ref p) (upd H p (.tup (xs++ys))))
theorem au.i8 {xs:List V}{us:List O3} (r:au xs us):us=[]↔xs=[]:=by
 cases r with
 | nil=>simp
 | cons _ _=>simp
theorem BI:OpR X (QH .Add) (Jp X.K):=by
 intro pins s σ H x y v u Q I rx ry h
 obtain ⟨a,b,xs,ys,rfl,rfl,ha,hb,hx,hz,q1,q2⟩:=h
 cases rx
 cases ry
 obtain ⟨its,r1,p1,_⟩:=I.tuple ha
 obtain ⟨its2,r2,p2,_⟩:=I.tuple hb
 refine HT.BB p1 p2 (fun z=>hx (r1.i8.mp z)) (fun z=>⟨.ref a,H,I,rfl,q1 (r2.i8.mp z)⟩) (fun z=>?_) (by rw[← r1.length,← r2.length];exact hz)
 refine ⟨.ref s.heap.objs.size,_,I.laid (t':=s.toks) (o:=.tup (xs++ys)) (fun b ob q=>O2 _ q) (O8 _) ?_,rfl,q2 (fun w=>z (r2.i8.mpr w)) _ (I.hok.fresh (O8 _))⟩
 exact ⟨by rw[PB];exact hz,_,r1.append r2,IsTup.new _ _⟩
end
end L2
namespace L2
open PySem PySem.Spec PyProof.Rows
noncomputable def ixN (n:Nat) (i:Int):Option Nat:=if 0<=i then (if i < n then some i.toNat else none) else if -(n:Int)<=i then some (i+n).toNat else none
noncomputable def atI {α:Type} (xs:List α) (i:Int):Option α:=(ixN xs.length i).bind fun j=>xs[j]?
theorem tG {n:Nat}{i:Int}{j:Nat} (h:ixN n i=some j):seqIndex? i n=some j/\j < n/\-(n:Int)<=i/\i < n:=by
 unfold ixN at h
 by_cases h0:0<=i
 ·rw[if_pos h0] at h
  by_cases h1:i < n
  ·rw[if_pos h1] at h
   have e:i.toNat=j:=Pn h
   exact ⟨by rw[seqIndex_of h0 h1,e],by omega,by omega,h1⟩
  ·rw[if_neg h1] at h;cases h
 ·rw[if_neg h0] at h
  by_cases h1:-(n:Int)<=i
  ·rw[if_pos h1] at h
   have e:(i+n).toNat=j:=Pn h
   exact ⟨by rw[seqIndex_neg (by omega) h1,e],by omega,h1,by omega⟩
  ·rw[if_neg h1] at h;cases h
theorem nM {α:Type}{xs:List α}{i:Int}{v:α} (h:atI xs i=some v):∃ j,seqIndex? i xs.length=some j/\xs[j]?=some v/\j < xs.length/\-(xs.length:Int)<=i/\i < xs.length:=by
 unfold atI at h
 cases e:ixN xs.length i with
 | none=>rw[e] at h;cases h
 | some j =>
  rw[e] at h
  obtain ⟨h1,h2,h3,h4⟩:=tG e
  exact ⟨j,h1,h,h2,h3,h4⟩
noncomputable def tH (b:R6):Prop:=∀ o i,subscripted b false o i=operate [o,i] (Uw o i)
noncomputable def IxR (X:Cx) (r:R2):Prop :=
 ∀ (value slice:R6) (pins:List (Addr×Obj)) (s:O4) (σ:St) (H:Hp) (x y:V) (v u:O3) (Q:VK),Inv X pins σ H s->RelV x v->RelV y u->r x y H Q →
  subscripted slice false v u=operate [v,u] (Uw v u)->wpAny (Pw X.prog X.w) X.A (VD value slice v u) (EP X pins σ Q) X.xe s
noncomputable def MtR (X:Cx) (id:String) (r:V->List V->Hp->VK->Prop):Prop :=
 ∀ (pins:List (Addr×Obj)) (s:O4) (σ:St) (H:Hp) (x:V) (xs:List V) (v:O3) (us:List O3) (Q:VK),Inv X pins σ H s->RelV x v->au xs us->r x xs H Q →
  wpAny (Pw X.prog X.w) X.A (call (.builtin id) (v :: us)) (EP X pins σ Q) X.xe s
section
variable {X:Cx}{a b:R6}{ta tb:TE}{pos:Pos}
theorem Jq {r:R2} (hr:IxR X r) (ha:PE X a ta) (hb:PE X b tb) (hs:tH b):PE X (.Subscript a b pos) (tOp r ta tb):=by
 intro pins s σ H Q I h
 exact Subscript_ (Fi ha hb I h fun v u s2 x y H2 I2 rx ry q=>hr a b pins s2 σ H2 x y v u Q I2 rx ry q (hs _ _))
noncomputable def MS (K:O0):R2:=fun x y H Q=>∃ p xs i v,x=.ref p/\y=.int i/\SqL K H p xs/\atI xs i=some v/\Q v H
noncomputable def MT (K:O0):R2:=fun x y H Q=>∃ p xs i v,x=.ref p/\y=.int i/\SqT K H p xs/\atI xs i=some v/\Q v H
noncomputable def MU:R2:=fun x y H Q=>∃ z i c,x=.str z/\y=.int i/\z.length<=sizeLine/\atI z.cps.toList i=some c/\Q (.str ⟨#[c]⟩) H
theorem BJ:IxR X (MS X.K):=by
 intro value slice pins s σ H x y v u Q I rx ry h hs
 obtain ⟨p,xs,i,z,rfl,rfl,hq,he,q⟩:=h
 cases rx
 obtain ⟨t,rfl⟩:=ry
 obtain ⟨its,r,pl,hz⟩:=I.list hq
 obtain ⟨j,h1,h2,h3,h4,h5⟩:=nM he
 obtain ⟨w,ew,rw'⟩:=r.get h2
 have hl:=r.length
 have hn:=jz
 have fin:EP X pins σ Q w s:=⟨z,H,I,rw',q⟩
 by_cases h0:0<=i
 ·have hj:i.toNat=j:=by
   rw[seqIndex_of h0 h5] at h1
   exact Pn h1
  exact item_listR pl.isList h0 (by omega) (by rw[hj];simpa using ew) fin hs
 ·have hj:(i+(its.toArray.size:Int)).toNat=j:=by
   rw[seqIndex_neg (by omega) h4] at h1
   rw[O6,← hl]
   exact Pn h1
  exact subscriptTail_builtinR (x:=w) pl.isList.typeIs slot_list_getitem.lookup
   (wpAny_getItem_list_neg (Q:=fun r s'=>r=w/\EP X pins σ Q r s') pl.isList (by omega) (by rw[O6]<;>omega) (by omega) (by rw[hj];simpa using ew) ⟨rfl,fin⟩) hs
theorem FE:IxR X (MT X.K):=by
 intro value slice pins s σ H x y v u Q I rx ry h hs
 obtain ⟨p,xs,i,z,rfl,rfl,hq,he,q⟩:=h
 cases rx
 obtain ⟨t,rfl⟩:=ry
 obtain ⟨its,r,pl,hz⟩:=I.tuple hq
 obtain ⟨j,h1,h2,h3,h4,h5⟩:=nM he
 obtain ⟨w,ew,rw'⟩:=r.get h2
 have hl:=r.length
 have hn:=jz
 have fin:EP X pins σ Q w s:=⟨z,H,I,rw',q⟩
 exact subscriptTail_builtinR (x:=w) pl.typeIs slot_tuple_getitem.lookup
  (getItem_tuple (j:=j) (Q:=fun r s'=>r=w/\EP X pins σ Q r s') pl (by omega) (by omega) (by rw[O6,← hl];exact h1) (by simpa using ew) ⟨rfl,fin⟩) hs
theorem FG:IxR X MU:=by
 intro value slice pins s σ H x y v u Q I rx ry h hs
 obtain ⟨z,i,c,rfl,rfl,hz,he,q⟩:=h
 obtain ⟨t,rfl⟩:=rx
 obtain ⟨t',rfl⟩:=ry
 obtain ⟨j,h1,h2,h3,h4,h5⟩:=nM he
 have hl:z.cps.toList.length=z.length:=by simp[Str.length]
 rw[hl] at h1 h4 h5
 have hn:=jz
 exact tail_any (typeIs_str s z t) slot_str_getitem.lookup (getItem_str (c:=c) (by
  have e1:decide (i < -(2 ^ 63:Int))=false:=decide_eq_false (by omega)
  have e2:decide (i ≥ 2 ^ 63)=false:=decide_eq_false (by omega)
  rw[e1,e2,TQ]) (by rw[h1];simpa using h2) ⟨.str ⟨#[c]⟩,H,I.tok _,⟨_,rfl⟩,q⟩) hs
theorem rM (its:List O3) (n j:Nat) (u:O3):QF (·.setIfInBounds j u) { cls:=.type "list",data:=.seq its.toArray n }={ cls:=.type "list",data:=.seq (its.set j u).toArray n }:=by
 simp[QF]
theorem Inv.lst {pins:List (Addr×Obj)}{σ:St}{H:Hp}{s:O4}{p:Addr}{xs:List V} (I:Inv X pins σ H s) (h:H p=some (.lst xs)) :
 ∃ (its:List O3) (n:Nat),au xs its/\s.heap.get? p=some { cls:=.type "list",data:=.seq its.toArray n }/\xs.length<=sizeLine:=by
 obtain ⟨z,its,n,r,e⟩:=I.hok p _ h
 exact ⟨its,n,r,e,z⟩
theorem Inv.FH {pins:List (Addr×Obj)}{σ:St}{H:Hp}{s:O4}{p:Addr}{xs ys:List V}{its its':List O3}{n n':Nat}{f:Obj->Obj} (I:Inv X pins σ H s) (h:H p=some (.lst xs))
 (ho:s.heap.get? p=some { cls:=.type "list",data:=.seq its.toArray n }) (hf:f { cls:=.type "list",data:=.seq its.toArray n }={ cls:=.type "list",data:=.seq its'.toArray n' }) (r:au ys its') (hz:ys.length<=sizeLine) (t:Nat) :
 Inv X pins σ (upd H p (.lst ys)) { s with heap:=s.heap.update p f,toks:=t }:=by
 have e:(s.heap.update p f).get? p=some { cls:=.type "list",data:=.seq its'.toArray n' }:=by
  rw[PY f ho (by rw[hf]<;>rfl),hf]
 refine I.write (x:=p) (e:=p) (by rw[h];trivial) (.inl rfl) (fun b u hb q=>(Qo _ _ (Qd hb)).trans q) ⟨_,e⟩ ?_
 exact ⟨hz,its',n',r,e⟩
noncomputable def Ex:V->V->V->Hp->(Hp->Prop)->Prop:=fun o i v H Q=>∃ p xs k j,o=.ref p/\i=.int k/\H p=some (.lst xs)/\ixN xs.length k=some j/\Q (upd H p (.lst (xs.set j v)))
theorem set_list:E9 X Ex:=by
 intro pins s σ H o i v ov iv u Q I ro ri rv h
 obtain ⟨p,xs,k,j,rfl,rfl,hp,hj,q⟩:=h
 cases ro
 obtain ⟨t,rfl⟩:=ri
 obtain ⟨its,n,r,ho,hz⟩:=I.lst hp
 obtain ⟨h1,h2,h3,h4⟩:=tG hj
 have hl:=r.length
 have hn:=jz
 have I':Inv X pins σ (upd H p (.lst (xs.set j v))) { s with heap:=s.heap.update p (QF (·.setIfInBounds j u)) } :=
  I.FH hp ho (rM its n j u) (r.set rv j) (by rw[List.length_set];exact hz) s.toks
 by_cases h0:0<=k
 ·have hk:k.toNat=j:=by
   rw[seqIndex_of h0 h4] at h1
   exact Pn h1
  exact PySem.W.ki_setAt ho h0 (by omega) (by rw[O6,← hl];exact h4) (by rw[hk];exact ⟨_,I',q⟩)
 ·have hk:(k+(its.toArray.size:Int)).toNat=j:=by
   rw[seqIndex_neg (by omega) h3] at h1
   rw[O6,← hl]
   exact Pn h1
  exact PySem.W.ki_setBack ho (by omega) (by rw[O6,← hl];exact h3) (by omega) (by rw[hk];exact ⟨_,I',q⟩)
theorem nN (lo hi:Option Int) (n:Nat):(PN lo hi none n).1=((HT.sIx n 0 lo:Nat):Int)/\(PN lo hi none n).2.1=((HT.sIx n n hi:Nat):Int)/\(PN lo hi none n).2.2=1:=by
 refine ⟨?_,?_,rfl⟩
 ·cases lo with
  | none=>simp[PN,HT.sIx]
  | some i =>
   simp only[PN,HT.sIx,VP,show (1:Int) > 0 by decide,if_true]
   by_cases h:i < 0
   ·simp only[h,if_true]<;>omega
   ·simp only[h,if_false]<;>omega
 ·cases hi with
  | none=>simp[PN,HT.sIx]
  | some i =>
   simp only[PN,HT.sIx,VP,show (1:Int) > 0 by decide,if_true]
   by_cases h:i < 0
   ·simp only[h,if_true]<;>omega
   ·simp only[h,if_false]<;>omega
theorem mw (its:List O3) (lo hi:Option Int):slicePick its.toArray lo hi none=((its.drop (HT.sIx its.length 0 lo)).take (HT.sIx its.length its.length hi - HT.sIx its.length 0 lo)).toArray:=by
 obtain ⟨h1,h2,h3⟩:=nN lo hi its.toArray.size
 unfold slicePick
 rw[h1,h2,h3]
 simp only[sliceRange_one,pick_run,O6]<;>rfl
noncomputable def MV (K:O0):V->Option Int->Option Int->Hp->VK->Prop:=fun x lo hi H Q=>∃ a xs,x=.ref a/\SqL K H a xs/\∀ p,H p=none->Q (.ref p) (upd H p (.lst (pR xs lo hi)))
theorem BK:SlR X (MV X.K):=by
 intro pins s σ H x v vl vu lo hi sl Q I rx hs pl pu h
 obtain ⟨a,xs,rfl,hx,q⟩:=h
 cases rx
 obtain ⟨its,r,ht,hz⟩:=I.list hx
 have hlen:=r.length
 refine ⟨"list",_,slot_list_getitem.lookup,ht.isList.typeIs,?_⟩
 refine Vt ht.isList hs pl pu .none (by simp) ?_ (by rw[O6]<;>omega)
 rw[mw,← hlen]
 refine ⟨.ref s.heap.objs.size,_,I.laid (t':=s.toks) (o:=.lst (pR xs lo hi)) (fun b ob q=>O2 _ q) (O8 _) ?_,rfl,q _ (I.hok.fresh (O8 _))⟩
 exact ⟨PZ (jU xs lo hi) hz,_,0,(r.drop (HT.sIx xs.length 0 lo)).take (HT.sIx xs.length xs.length hi - HT.sIx xs.length 0 lo),Pc _ rfl⟩
theorem i9:cC X (.builtin "len") (fun xs H Q=>∃ p ys,xs=[.ref p]/\(SqL X.K H p ys\/SqT X.K H p ys)/\Q (.int ys.length) H):=by
 intro pins s σ H xs us Q I r h
 obtain ⟨p,ys,rfl,hq,q⟩:=h
 obtain ⟨u,rfl,rx⟩:=vals1 r
 cases rx
 have hn:=jz
 rcases hq with hq | hq
 ·obtain ⟨its,r',pl,hz⟩:=I.list hq
  have hlen:=r'.length
  exact Calls.call_len_list pl.isList (by simp only[O6]<;>omega) ⟨.int ys.length,H,I.tok _,⟨s.toks+1,by rw[O6,hlen]⟩,q⟩
 ·obtain ⟨its,r',pl,hz⟩:=I.tuple hq
  have hlen:=r'.length
  exact len_tuple pl (by simp only[O6]<;>omega) ⟨.int ys.length,H,I.tok _,⟨s.toks+1,by rw[O6,hlen]⟩,q⟩
theorem nO:cC X (.builtin "len") (fun xs H Q=>∃ z,xs=[.str z]/\z.length<=sizeLine/\Q (.int z.length) H):=by
 intro pins s σ H xs us Q I r h
 obtain ⟨z,rfl,hz,q⟩:=h
 obtain ⟨u,rfl,t,rfl⟩:=vals1 r
 have hn:=jz
 exact len_str (by omega) ⟨.int z.length,H,I.tok _,⟨_,rfl⟩,q⟩
theorem ja:cC X (.type "list") (fun xs H Q=>∃ p ys,xs=[.ref p]/\(SqL X.K H p ys\/SqT X.K H p ys)/\∀ l,H l=none->Q (.ref l) (upd H l (.lst ys))):=by
 intro pins s σ H xs us Q I r h
 obtain ⟨p,ys,rfl,hq,q⟩:=h
 obtain ⟨u,rfl,rx⟩:=vals1 r
 cases rx
 have fin:∀ (its:List O3),au ys its->ys.length<=sizeLine->∀ (h':Heap) (c':Nat),(∀ b o',s.heap.get? b=some o'->h'.get? b=some o') →
  h'.get? s.heap.objs.size=some { cls:=.type "list",dict:=none,data:=.seq its.toArray c',slots:=#[] }->EP X pins σ Q (.ref s.heap.objs.size) { s with heap:=h' }:=fun its r' hz h' c' kp e =>
  ⟨.ref s.heap.objs.size,_,I.laid (t':=s.toks) kp (O8 _) (show cB X.prog X.w _ h' _ (.lst ys) from ⟨hz,its,c',r',e⟩),rfl,q _ (I.hok.fresh (O8 _))⟩
 rcases hq with hq | hq
 ·obtain ⟨its,r',pl,hz⟩:=I.list hq
  have hlen:=r'.length
  obtain ⟨o,ho,hc,n,hd⟩:=pl.isList
  exact call_list_seq p (.inl rfl) ho hc hd (fun h' c' kp e=>fin its r' hz h' c' kp e) (by simp only[O6]<;>omega)
 ·obtain ⟨its,r',pl,hz⟩:=I.tuple hq
  have hlen:=r'.length
  obtain ⟨o,ho,hc,n,hd⟩:=pl
  exact call_list_seq p (.inr rfl) ho hc hd (fun h' c' kp e=>fin its r' hz h' c' kp e) (by simp only[O6]<;>omega)
theorem iB:cC X (.type "tuple") (fun xs H Q=>∃ p ys,xs=[.ref p]/\((SqL X.K H p ys/\∀ l,H l=none->Q (.ref l) (upd H l (.tup ys)))\/(SqT X.K H p ys/\Q (.ref p) H))):=by
 intro pins s σ H xs us Q I r h
 obtain ⟨p,ys,rfl,h⟩:=h
 obtain ⟨u,rfl,rx⟩:=vals1 r
 cases rx
 rcases h with ⟨hq,q⟩ | ⟨hq,q⟩
 ·obtain ⟨its,r',pl,hz⟩:=I.list hq
  have hlen:=r'.length
  refine call_tuple_list pl.isList (fun h' kp=>?_) (by simp only[O6]<;>omega)
  have I1:Inv X pins σ H { s with heap:=h' }:=I.kept (t':=s.toks) kp
  have I2:Inv X pins σ (upd H h'.objs.size (.tup ys)) { s with heap:=h'.push { cls:=.type "tuple",data:=.seq its.toArray } } :=
   I1.laid (t':=s.toks) (fun b o e=>O2 _ e) (O8 _) (show cB X.prog X.w _ _ _ (.tup ys) from ⟨hz,its,r',IsTup.new _ _⟩)
  exact ⟨.ref h'.objs.size,_,I2,rfl,q _ (I1.hok.fresh (O8 _))⟩
 ·obtain ⟨its,r',pl,hz⟩:=I.tuple hq
  exact call_tuple_same pl ⟨.ref p,H,I,rfl,q⟩
noncomputable def tyV (K:O0) (T:String) (x:V) (H:Hp):Prop:=match x with
 | .str _=>T="str"
 | .int _=>T="int"
 | .ref p=>(T="list"/\∃ xs,SqL K H p xs)\/(T="tuple"/\∃ o,K.lookup p=some o/\o.cls=.type "tuple"/\o.dict=none) ∨
  (T="dict"/\((∃ kvs,H p=some (.dK kvs))\/∃ kvs,H p=some (.dT kvs)))\/(T="set"/\∃ S n,H p=some (.set S n))
 | _=>False
theorem rN {pins:List (Addr×Obj)}{σ:St}{H:Hp}{s:O4}{T:String}{x:V}{v:O3} (I:Inv X pins σ H s) (r:RelV x v) (ty:tyV X.K T x H) :
 s.TypeIs v T/\∀ a,v=.ref a->∃ ob,s.heap.get? a=some ob/\ob.dict=none:=by
 cases x with
 | str z =>
  obtain ⟨t,rfl⟩:=r
  cases (show T="str" from ty)
  exact ⟨typeIs_str s z t,fun _ e=>nomatch e⟩
 | int i =>
  obtain ⟨t,rfl⟩:=r
  cases (show T="int" from ty)
  exact ⟨typeIs_int s i t,fun _ e=>nomatch e⟩
 | ref p =>
  cases r
  rcases ty with ⟨rfl,xs,hq⟩ | ⟨rfl,o,hk,hc,hd⟩ | ⟨rfl,hk⟩ | ⟨rfl,S,n,hk⟩
  ·obtain ⟨its,_,pl,_⟩:=I.list hq
   refine ⟨pl.isList.typeIs,fun a e=>?_⟩
   cases e
   obtain ⟨o,n,e,c,hd,_⟩:=pl
   exact ⟨o,e,hd⟩
  ·refine ⟨⟨o,I.kIn p o hk,hc⟩,fun a e=>?_⟩
   cases e
   exact ⟨o,I.kIn _ o hk,hd⟩
  ·have z:∃ o,s.heap.get? p=some o/\o.ExactDict:=by
    rcases hk with ⟨kvs,hk⟩ | ⟨kvs,hk⟩
    ·obtain ⟨_,_,_,_,o,_,_,e,ex,_⟩:=I.hok p _ hk
     exact ⟨o,e,ex⟩
    ·obtain ⟨_,_,_,_,o,_,_,e,ex,_⟩:=I.hok p _ hk
     exact ⟨o,e,ex⟩
   obtain ⟨o,e,ex⟩:=z
   refine ⟨⟨o,e,ex.1⟩,fun a e2=>?_⟩
   cases e2
   exact ⟨o,e,ex.2.1⟩
  ·obtain ⟨o,_,_,_,e,ex,_⟩:=I.hok p _ hk
   refine ⟨⟨o,e,ex.1⟩,fun a e2=>?_⟩
   cases e2
   exact ⟨o,e,ex.2.1⟩
 | _=>exact P5 ty
noncomputable def MW (K:O0) (T:String) (r:V->List V->Hp->VK->Prop) (to:TE):TE:=fun σ H Q=>to σ H fun x H1=>tyV K T x H1/\r x [] H1 Q
noncomputable def tBM (K:O0) (T:String) (r:V->List V->Hp->VK->Prop) (to:TE) (t:TA):TE:=fun σ H Q=>to σ H fun x H1=>tyV K T x H1/\t σ H1 fun xs H2=>r x xs H2 Q
variable {o e:R6}{es:List R6}{to:TE}{t:TA}{name:Str}{apos cpos:Pos}{T id:String}{r:V->List V->Hp->VK->Prop}
theorem FI (pa:PlainAttrs T) (slot:Slot T name id) (hty:typeOf (.builtin id)=pure (.type "method_descriptor")) (hm:MtR X id r) (ho:PE X o to)
 (hbase:SY o name X.env (eval o X.env)=eval o X.env:=by rfl) (hline:(apos.endLine==cpos.line)=true:=by rfl):PE X (.Call (.Attribute o name apos) [] [] cpos) (MW X.K T r to):=by
 intro pins s σ H Q I h
 refine VC hbase hline (thn (ho pins s σ H _ I h) fun v s1 zq=>?_)
 obtain ⟨x,H1,I1,r1,ty,q1⟩:=zq
 obtain ⟨h1,h2⟩:=rN I1 r1 ty
 exact ⟨T,id,pa,slot,hty,h1,h2,SJ rfl (Vn (hm pins s1 σ H1 x [] v [] Q I1 r1 .nil q1))⟩
theorem yf (pa:PlainAttrs T) (slot:Slot T name id) (hty:typeOf (.builtin id)=pure (.type "method_descriptor")) (hm:MtR X id r) (ho:PE X o to) (ha:PA X (e :: es) t)
 (hbase:SY o name X.env (eval o X.env)=eval o X.env:=by rfl)
 (hfew:((Rg cpos (PL (e :: es) X.env)).all (fun x=>!x.1)&&(TL cpos (RX [] X.env)).all (fun x=>x.1.isSome)
 &&decide ((e :: es).length+([]:List T8).length+(if ([]:List T8).isEmpty then 0 else 1) < 30))=true:=by rfl)
 (hline:(apos.endLine==cpos.line)=true:=by rfl) (hs:PL (e :: es) X.env=(false,eval e X.env) :: PL es X.env:=by rfl) (hplain:(Rg cpos (PL es X.env)).any (·.1)=false:=by rfl) :
 PE X (.Call (.Attribute o name apos) (e :: es) [] cpos) (tBM X.K T r to t):=by
 intro pins s σ H Q I h
 refine wpAny_Call_method_late hbase hfew hline rfl (thn (ho pins s σ H _ I h) fun v s1 zq=>?_)
 obtain ⟨x,H1,I1,r1,ty,q1⟩:=zq
 obtain ⟨h1,h2⟩:=rN I1 r1 ty
 refine ⟨T,id,pa,slot,hty,h1,h2,?_⟩
 have hA:=ha cpos pins s1 σ H1 _ I1 q1
 rw[hs] at hA ⊢
 refine SJ (by show (false||(Rg cpos (PL es X.env)).any (·.1))=false;rw[hplain]<;>rfl) (Calls.evalArgs_plain ?_)
 exact thn hA fun us s2 ⟨vs,H2,I2,r2,q2⟩=>hm pins s2 σ H2 x vs v us Q I2 r1 r2 q2
/- xs.append(e),list.index on a module's tuple .. are MtR facts of 06m -/
end
end L2
namespace L2
open PySem PySem.Spec PyProof.Rows
noncomputable def MtM (X:Cx) (id:String) (r:V->List V->Hp->VK->Prop):Prop :=
 ∀ (pins:List (Addr×Obj)) (s:O4) (σ:St) (H:Hp) (x:V) (xs:List V) (v:O3) (us:List O3) (Q:VK),Inv X pins σ H s->RelV x v->au xs us->r x xs H Q →
  wpAny (Pw X.prog X.w) X.A (call (.builtin id) (v :: us)) (EP X pins σ Q) X.xe s
theorem au.one {x:V}{us:List O3} (h:au [x] us):∃ u,us=[u]/\RelV x u:=by
 cases h with | cons r t=>cases t;exact ⟨_,rfl,r⟩
theorem au.two {x y:V}{us:List O3} (h:au [x,y] us):∃ u v,us=[u,v]/\RelV x u/\RelV y v:=by
 cases h with | cons r t=>obtain ⟨v,rfl,q⟩:=au.one t;exact ⟨_,v,rfl,r,q⟩
theorem au.zero:∀ {us:List O3},au [] us->us=[]
 | _,.nil=>rfl
theorem au.dropLast {xs:List V}{us:List O3} (h:au xs us):au xs.dropLast us.dropLast:=by
 induction h with
 | nil=>exact .nil
 | cons r t ih =>
  cases t with
  | nil=>exact .nil
  | cons q t'=>exact .cons r ih
theorem au.rep {xs:List V}{us:List O3} (h:au xs us):∀ k:Nat,au (Pv k xs).flatten (Pv k us).flatten
 | 0=>.nil
 | k+1=>by
  rw[QG,QG,Rj,Rj]
  exact au.append h (au.rep h k)
theorem rO {α:Type} (l:List α):l.eraseIdx (l.length - 1)=l.dropLast:=by
 induction l with
 | nil=>rfl
 | cons a r ih =>
  cases r with
  | nil=>rfl
  | cons b r =>
   have e:(a :: b :: r).length - 1=((b :: r).length - 1)+1:=by
    have h1:(a :: b :: r).length=r.length+2:=rfl
    have h2:(b :: r).length=r.length+1:=rfl
    omega
   rw[e,List.eraseIdx_cons_succ,ih]
   all_goals rfl
theorem foldl_rep (its:List O3):∀ (k:Nat) (acc:List O3),
 UU (fun x1 x2=>x1++x2) acc.toArray (Pv k its.toArray)=(acc++(Pv k its).flatten).toArray
 | 0,acc=>by simp
 | k+1,acc=>by
  have e:acc.toArray++its.toArray=(acc++its).toArray:=by simp
  have e2:(acc++its)++(Pv k its).flatten=acc++(Pv (k+1) its).flatten:=by
   rw[QG,Rj,Qt]
  rw[← e2,← foldl_rep its k (acc++its),← e,QG,List.foldl_cons]
section
variable {X:Cx}{pins:List (Addr×Obj)}{σ:St}{H:Hp}{s:O4}{l b:Addr}{xs ys zs:List V}
theorem Inv.BN {its its':List O3}{n:Nat}{f:Array O3->Array O3}{t':Nat} (I:Inv X pins σ H s) (hH:H l=some (.lst xs))
 (e:s.heap.get? l=some { cls:=.type "list",data:=.seq its.toArray n }) (hf:f its.toArray=its'.toArray) (hv:au ys its') (hz:ys.length<=sizeLine) :
 Inv X pins σ (upd H l (.lst ys)) { s with heap:=s.heap.update l (QF f),toks:=t' }:=by
 have q:=PySem.IsL.update e f
 rw[hf] at q
 refine I.write (x:=l) (e:=l) (by rw[hH];exact trivial) (.inl rfl) (fun b' u hb hu=>(Qo s.heap (QF f) (Qd hb)).trans hu) ⟨_,q⟩ ?_
 exact ⟨hz,its',_,hv,q⟩
theorem Inv.Jr {its:List O3}{t':Nat} (I:Inv X pins σ H s) (hv:au ys its) (hz:ys.length<=sizeLine) :
 Inv X pins σ (upd H s.heap.objs.size (.lst ys)) { s with heap:=s.heap.push { cls:=.type "list",data:=.seq its.toArray },toks:=t' } :=
 I.laid (fun _ _ q=>O2 _ q) (O8 _) ⟨hz,its,0,hv,Pc _ rfl⟩
theorem Inv.fresh (I:Inv X pins σ H s):H s.heap.objs.size=none:=I.hok.fresh (O8 _)
theorem Inv.BO (I:Inv X pins σ H s) (hH:H l=some (.lst xs)):xs.length<=sizeLine/\∃ (its:List O3) (n:Nat),au xs its/\xs.length=its.length/\s.heap.get? l=some { cls:=.type "list",data:=.seq its.toArray n }:=by
 obtain ⟨z,its,n,r,e⟩:=I.hok l _ hH
 exact ⟨z,its,n,r,r.length,e⟩
theorem kT {n:Nat} (h:n<=sizeLine):Qq n=false:=by
 unfold Qq
 exact decide_eq_false (by omega)
end
section
variable {X:Cx}
noncomputable def BP:V->List V->Hp->VK->Prop:=fun x vs H Q=>∃ l xs y,x=.ref l/\vs=[y]/\H l=some (.lst xs)/\xs.length < sizeLine/\Q .non (upd H l (.lst (xs++[y])))
theorem vP:MtM X "list.append" BP:=by
 intro pins s σ H x vs v us Q I rx rv h
 obtain ⟨l,xs,y,rfl,rfl,hH,hz,q⟩:=h
 cases rx
 obtain ⟨u,rfl,ru⟩:=rv.one
 obtain ⟨z,its,n,r,hl,e⟩:=I.BO hH
 refine RZ F.slot_list_append ⟨_,e,rfl⟩ F.entry_list_append (F.args_list_append_2 _ _) (PySem.list_append l its.toArray n u (by rw[O6];omega)) ⟨e,?_⟩
 refine ⟨.non,_,I.BN (its':=its++[u]) hH e (by simp) (r.append (.cons ru .nil)) ?_,rfl,q⟩
 rw[PB,SW]
 omega
noncomputable def MX:V->List V->Hp->VK->Prop:=fun x vs H Q=>∃ l xs y,x=.ref l/\vs=[]/\H l=some (.lst xs)/\xs[xs.length - 1]?=some y/\Q y (upd H l (.lst xs.dropLast))
theorem FJ:MtM X "list.pop" MX:=by
 intro pins s σ H x vs v us Q I rx rv h
 obtain ⟨l,xs,y,rfl,rfl,hH,hy,q⟩:=h
 cases rx
 have hus:=rv.zero
 subst hus
 obtain ⟨z,its,n,r,hl,e⟩:=I.BO hH
 obtain ⟨u,hu,ru⟩:=r.get hy
 have hy':its.toArray[its.toArray.size - 1]?=some u:=by
  show its.toArray[its.length - 1]?=some u
  rw[← SO,← hl]
  exact hu
 refine RZ F.slot_list_pop ⟨_,e,rfl⟩ F.entry_list_pop (F.args_list_pop_1 _) (MeetsSeq.list_pop_last l its.toArray n u hy' (by rw[O6];omega)) ⟨e,?_⟩
 refine ⟨y,_,I.BN (its':=its.dropLast) hH e ?_ r.dropLast ?_,ru,q⟩
 ·show its.toArray.eraseIdxIfInBounds (its.toArray.size - 1)=its.dropLast.toArray
  rw[O6,List.eraseIdxIfInBounds_toArray,rO]
 ·rw[Vq]
  omega
theorem len_rep {α:Type} (xs:List α) (k:Nat):(Pv k xs).flatten.length=k*xs.length:=by
 induction k with
 | zero=>simp
 | succ k ih=>rw[QG,Rj,PB,ih,Nat.succ_mul,Nat.add_comm]
end
section
variable {prog:Pi}{w:PK}{A:Qi}{E:O3->O4->Prop}{s:O4}
set_option maxRecDepth 100000 in
end
section
variable {X:Cx}
end
end L2
namespace Att
open PySem PySem.W PySem.Calls PyProof.Rows
theorem j7 {P:Params}{h:Heap}:∀ (ns:List Int) (vs:List O3),WellAll P h vs (ns.map WData.int)->Sz vs ns:=by
 intro ns
 induction ns with
 | nil =>
  intro vs w
  rw[Rc] at w
  cases w
  exact .nil
 | cons n ns ih =>
  intro vs w
  rw[Pe] at w
  cases w with
  | cons a b =>
   cases a
   exact .cons _ _ (ih _ b)
theorem vQ {l:OpenLaw}{n:Nat} (hn:l.most=some n) {P:Params}{h:Heap}{args:List WData}{vals:List O3}
 (hpre:l.row.toRowW.claim.pre args=true) (hwl:WellAll P h vals args) :
 ∃ a vs ns,vals=[Pz a]/\args=[WData.list (ns.map WData.int)]/\h.get? a=some { cls:=.type "list",data:=.seq vs.toArray }/\Sz vs ns/\ns.length<=n:=by
 have hsh:WShape.hasAll [] args [.list .int]=true:=(pre_splitW hpre).1
 have hc:l.pre.holds [] { args:=args }=true:=(pre_splitW hpre).2
 obtain ⟨d,r,rfl,h1,h2⟩:=hasAllW_cons hsh
 obtain rfl:=hasAllW_nil h2
 obtain ⟨xs,rfl,h3⟩:=hasW_list h1
 obtain ⟨ns,rfl⟩:=items_int h3
 have hlen:ns.length<=n:=by
  unfold OpenLaw.pre at hc
  have h4:(WTm.not (.lt (.lit (.int (n:Int))) (.len (.arg 0)))).holds [] { args:=[.list (ns.map .int)] }=true:=by
   have h4:=(holds_andW hc).1
   rw[hn] at h4
   exact h4
  have h5:=condW_of h4 (w_not (w_lt w_lit (w_len_list (w_arg rfl))))
  rw[Pa] at h5
  refine Nat.le_of_not_lt fun q=>?_
  have q':(n:Int) < ((ns.length:Nat):Int):=by omega
  first
   | (rw[decide_eq_true q'] at h5;exact absurd h5 (by decide))
   | (simp at h5;omega)
 cases hwl with
 | cons w1 w2 =>
  cases w2
  cases w1 with
  | list ho hall=>exact ⟨_,_,ns,rfl,rfl,ho,j7 ns _ hall,hlen⟩
theorem vR (l:OpenLaw) (args:List WData):l.row.toRowW.claim.post args (.bool true) args=true :=
 postW_of (r:=l.row.toRowW) (X:=(true==true))
  (show WShape.has [] (.bool true) .bool=true by first | rfl | decide | simp[WShape.has,WShape.arms,WShape.armsAll])
  (show (WTm.eq .res (.lit (.bool true))).value [] { args:=args,res:=some (.bool true),after:=args }=some (.bool (true==true)) from w_eq_bool (w_res rfl) w_lit) rfl
theorem pS {l:OpenLaw}{n:Nat}{q:Pi}{loose:List Str}{XP:(Str->Option O3)->Heap->Prop}{YP:PK->Heap->Prop}{d:DefRec}
 (hn:l.most=some n) (hdf:d.params.defaults=[])
 (call:∀ (w:PK) (s₀ s₁:O4) (mg mb:Str->Option O3) (fa:Addr) (o:Obj) (pm cd doc:O3) (a:Addr) (vs:List O3) (ns:List Int),
  Ground q loose [] XP w s₀ mg mb s₁.heap->YP w s₁.heap →
  s₁.heap.get? fa=some o->o.data=.func (docDef d.name d.params d.body d.scope pm cd doc)->s₁.heap.CodeRec cd d.name->mg d.name=some (.ref fa) →
  s₁.heap.get? a=some { cls:=.type "list",data:=.seq vs.toArray }->Sz vs ns->ns.length<=n->s₁.gens=#[] →
  codeAny (Pw l.prog w) VI (.call (.ref fa) ⟨[.ref a],[]⟩) (fun r s'=>r=.ok (.ret (.bool true))/\OldK s₁.heap s'.heap/\s'.os=s₁.os/\UG s'.gens) s₁) :
 WalkO q loose XP YP l.row.toRowW d [] (fun f vs=>VM f vs):=by
 intro w s₀ s₁ mg mb G Y fa o pm cd doc dV kV ho hd hcd hD hmg hg args vals as hpre hlay hrd hwl hlo
 obtain rfl:dV=.none:=Dflts.none hD hdf
 obtain rfl:kV=.none:=Dflts.noKw hD
 obtain ⟨a,vs,ns,rfl,rfl,hobj,hints,hlen⟩:=vQ hn hpre hwl
 refine enter_call (codeAny_mono (call w s₀ s₁ mg mb fa o pm cd doc a vs ns G Y ho (fd_plain hd) hcd hmg hobj hints hlen hg) fun r s' hq=>?_)
 obtain ⟨rfl,h2,h3,h4⟩:=hq
 exact ⟨.inl ⟨.bool true,.bool true,[],rfl,fun _=>rfl,.bool true,vR l _,fun _=>⟨List.Pairwise.nil,fun _ hm=>(nomatch hm)⟩⟩,h2,h3,h4⟩
section
variable {prog:Pi}{w:PK}{A:Qi}{E:O3->O4->Prop}{s:O4}{K:Frag}
noncomputable def ledger (h:Heap) (L d:Addr):List (Addr×Obj):=(Pr h.objs.size).filterMap fun a=>if a=L\/a=d then none else (h.get? a).map fun o=>(a,o)
end
end Att
namespace L2
open PySem PySem.Spec PyProof.Rows
theorem jB:∀ {vs:List O3}{ns:List Int},Sz vs ns->au (ns.map V.int) vs
 | _,_,.nil=>.nil
 | _,_,.cons n t h=>.cons ⟨t,rfl⟩ (jB h)
end L2
namespace L2
open PySem PySem.Spec PyProof.Rows
noncomputable abbrev KOf {K:O0}{h:Heap} (_:K.In h):O0:=K
end L2
/- THE LAST THEOREM (shape;LID,My.* are yours):
 My.Adr: a structure of the addresses that your layer names (classes,functions);My.Txt K t: a structure (Prop) of the equations over K;
 My.txt_mk:{K}{implicit addresses ..} (e1:nsIn K Po "law"=some (some (.ref f))) (e2:K.lookup f=some ⟨oc,od,.func (fnOf "law" "law" params body scope dV kV doc pm an cdv ct),sl⟩) (e3:codeIn K cdv "law"=true) ..:∃ t,My.Txt K t
set_option maxRecDepth 100000 in
set_option maxHeartbeats 0 in
theorem PySem.Challenge.BQ:PySem.Challenge.rw_LID.Holds:=by
 w_on;o_law;k_head;(case hw=>w_witness2)
 k_fill
 refine L2.walk_of (l:=PySem.Challenge.rw_LID) (n:=63) (k:=40) (x:="script") (CX:=fun w=>..) (sp:=fun _=>My.AX) rfl (by decide) rfl ⟨rfl,by decide,by decide⟩ (fun w h Y=>PySem.W.kIn_of Y) ?F ?S ?C
 case F =>
  intro w mg fa h KX G hmg
  have T:∃ t,My.Txt (L2.KOf KX) t:=by
   dsimp only[L2.KOf]                          -- K must stand as «<heap const> w.params» for k_is
   refine' My.txt_mk ?e1 ?e2 ?e3 ..
   (case e1=>PySem.W.k_is)                    -- in the order: a name->its address->its object->its parts
   (case e2=>PySem.W.k_is)
   ..
  obtain ⟨t,T⟩:=T
  have e0:=hmg.symm.trans (Q7 KX G T.law)
  cases e0                                       -- fa is the law's own address
  exact ⟨_,fun s u=>.of_eq rfl,fun base kb nb=>My.law_fn T kb nb⟩     -- if «.of_eq rfl» comes too early: refine' ⟨_,?b,fun base kb nb=>My.law_fn T kb nb⟩;exact fun s u=>.of_eq rfl
 case S=>exact fun w H a ns hl hO hS=>..
 case C=>exact ..
(the tactic k_is has no namespace: write k_is) -/
namespace L2
open PySem PySem.Spec PyProof.Rows
noncomputable abbrev CX0:CXT:=fun _ _ _ _ _ _=>False
noncomputable abbrev E0:XK:=fun _ _ _=>False
theorem kU {X:Cx}:fY CX0 X E0:=fun _ _ _ _ _ _ _ h=>h.elim
structure Fun (K:O0) (x qual:Str) (st:UH) (f:Addr) (fd:QN):Prop where
 ex:∃ (oc:O3) (od:Option Addr) (kV doc pm:O3) (an:Option Addr) (cdv ct:O3) (osl:Array (Option O3)),
  fd=QI x qual (cH st) (aK st) (ak st) .none kV doc pm an cdv ct/\K.lookup f=some ⟨oc,od,.func fd,osl⟩/\SR K cdv qual=true
 kp:Qp K (.ref f)=true
section
variable {P:Pi}{w:PK}{K:O0}{mg:Str->Option O3}{base:Heap}
theorem Fun.binds {x qual:Str}{st:UH}{f:Addr}{fd:QN}{ps:List Str} (F:Fun K x qual st f fd)
 (h:∀ (kV doc pm:O3) (an:Option Addr) (cdv ct:O3) (us:List O3),us.length=ps.length->UW (QI x qual (cH st) (aK st) (ak st) .none kV doc pm an cdv ct) ⟨us,[]⟩=pure (ps.zip us)):Binds K fd ps []:=by
 obtain ⟨oc,od,kV,doc,pm,an,cdv,ct,osl,rfl,lk,hcd⟩:=F.ex
 exact .all (h kV doc pm an cdv ct)
theorem FM {x qual:Str}{st:UH}{f:Addr}{oc:O3}{od an:Option Addr}{osl:Array (Option O3)}{kV doc pm cdv ct:O3} (l:K.lookup f=some ⟨oc,od,.func (QI x qual (cH st) (aK st) (ak st) .none kV doc pm an cdv ct),osl⟩)
 (c:SR K cdv qual=true) (k:Qp K (.ref f)=true):Fun K x qual st f (QI x qual (cH st) (aK st) (ak st) .none kV doc pm an cdv ct):=⟨⟨oc,od,kV,doc,pm,an,cdv,ct,osl,rfl,l,c⟩,k⟩
end
theorem vS {n:Nat} (h:n<=1000):n < sizeLine:=TX h (by decide)
section
variable {X:Cx}
end
end L2
end
section
namespace L2
open PySem PySem.Spec PyProof.Rows
section
variable {κ:Type} [DecidableEq κ]
noncomputable def nQ (kvs:List (κ×V)) (k:κ):Option V:=(kvs.find? fun kv=>decide (kv.1=k)).map (·.2)
noncomputable def putK (kvs:List (κ×V)) (k:κ) (v:V):List (κ×V) :=
 if (kvs.any fun kv=>decide (kv.1=k))=true then kvs.map (fun kv=>if kv.1=k then (kv.1,v) else kv) else kvs++[(k,v)]
theorem pT {p:κ×V}{r:List (κ×V)}{k:κ} (e:p.1=k):nQ (p :: r) k=some p.2:=by simp[nQ,RC,e]
theorem pU {p:κ×V}{r:List (κ×V)}{k:κ} (e:¬ p.1=k):nQ (p :: r) k=nQ r k:=by simp[nQ,RC,e]
theorem pV (kvs:List (κ×V)) (k:κ) (v:V):(putK kvs k v).length<=kvs.length+1:=by
 unfold putK
 split
 ·rw[Pa];omega
 ·rw[PB,Pk,P8];omega
theorem jx.getD {o:Option V}{u:Option O3}{d:V}{d':O3} (r:jx o u) (rd:RelV d d'):RelV (o.getD d) (u.getD d'):=by
 cases o with
 | none=>cases u with
  | none=>exact rd
  | some _=>exact (show False from r).elim
 | some _=>cases u with
  | none=>exact (show False from r).elim
  | some _=>exact r
theorem KV.val {kvs:List (κ×V)}{vs:List (κ×O3)} (r:KV kvs vs) (k:κ):jx (nQ kvs k) (valueAt vs k):=by
 unfold KV at r
 induction r with
 | nil=>exact Sf
 | @cons p q ps qs h t ih =>
  obtain ⟨h1,h2⟩:=h
  by_cases e:p.1=k
  ·have e':q.1=k:=h1.symm.trans e
   have b:valueAt (q :: qs) k=some q.2:=by simp[valueAt,RC,e']
   rw[pT e,b];exact h2
  ·have e':¬ q.1=k:=fun z=>e (h1.trans z)
   have b:valueAt (q :: qs) k=valueAt qs k:=by simp[valueAt,RC,e']
   rw[pU e,b];exact ih
theorem KV.any {kvs:List (κ×V)}{vs:List (κ×O3)} (r:KV kvs vs) (k:κ):(kvs.any fun kv=>decide (kv.1=k))=vs.any fun kv=>decide (kv.1=k):=by
 unfold KV at r
 induction r with
 | nil=>rfl
 | cons h t ih=>rw[Sb,Sb,ih,h.1]
theorem KV.repl {kvs:List (κ×V)}{vs:List (κ×O3)} (r:KV kvs vs) (k:κ) {y:V}{u:O3} (ry:RelV y u) :
 KV (kvs.map fun kv=>if kv.1=k then (kv.1,y) else kv) (vs.map fun kv=>if kv.1=k then (kv.1,u) else kv):=by
 unfold KV at r ⊢
 induction r with
 | nil=>exact .nil
 | @cons p q ps qs h t ih =>
  rw[Pe,Pe]
  refine .cons ?_ ih
  obtain ⟨h1,h2⟩:=h
  by_cases e:p.1=k
  ·rw[if_pos e,if_pos (h1.symm.trans e)];exact ⟨h1,ry⟩
  ·rw[if_neg e,if_neg (fun z=>e (h1.trans z))];exact ⟨h1,h2⟩
theorem KV.put {kvs:List (κ×V)}{vs:List (κ×O3)} (r:KV kvs vs) (k:κ) {y:V}{u:O3} (ry:RelV y u):KV (putK kvs k y) (stored vs k u):=by
 unfold putK stored
 rw[r.any k]
 by_cases e:(vs.any fun kv=>decide (kv.1=k))=true
 ·rw[if_pos e,if_pos e];exact r.repl k ry
 ·rw[if_neg e,if_neg e];exact Paired.snoc r ⟨rfl,ry⟩
theorem KV.length {kvs:List (κ×V)}{vs:List (κ×O3)} (r:KV kvs vs):kvs.length=vs.length:=Paired.length r
end
theorem Ey {P:Pi}{w:PK}{k:Key}{u:O3} (r:RelV (kV k) u):(aG P w).is k u=true:=by
 cases k with
 | inl i=>obtain ⟨t,e⟩:=(show ∃ t,u=RO i t from r);subst e;exact pG P w i t
 | inr x=>obtain ⟨t,e⟩:=(show ∃ t,u=U6 x t from r);subst e;exact eX P w x t
section
variable {P:Pi}{w:PK}{H:Hp}{h:Heap}{a:Addr}
theorem Js {u:HO} (ok:HOk P w H h) (e:Rd H a u):cB P w H h a u:=e.ok ok
theorem Jt {kvs:List (Key×V)} (ok:HOk P w H h) (e:Rd H a (.dK kvs)):kvs.length<=sizeLine/\(a==RE)=false/\∃ vs,KV kvs vs/\h.DictOf (aG P w) a vs :=
 show cB P w H h a (.dK kvs) from Js ok e
theorem tK {kvs:List (Key×V)} (ok:HOk P w H h) (e:H a=some (.dK kvs)):kvs.length<=sizeLine/\(a==RE)=false/\∃ vs,KV kvs vs/\h.DictOf (aG P w) a vs:=Jt ok (.inl e)
end
section
variable {X:Cx}{pins:List (Addr×Obj)}{σ:St}{H:Hp}{s:O4}{a:Addr}{y v:V}{u r:O3}{o:Option V}{A:Qi}{E:O3->O4->Prop}
theorem Inv.big (I:Inv X pins σ H s):RE < s.heap.objs.size:=by
 have h:Po < s.heap.objs.size:=(I.mod.glob.keeps I.bk).lt
 exact T9 (by decide) h
theorem BU {h':Heap}{t':Nat}{ob:HO} (I:Inv X pins σ H s) (mu:Mut (H a)) (hs:Qg a s.heap h') (he:∃ q,h'.get? a=some q) (new:cB X.prog X.w (upd H a ob) h' a ob) :
 Inv X pins σ (upd H a ob) { s with heap:=h',toks:=t' } :=
 I.write (x:=a) (e:=a) mu (.inl rfl) (fun b q hb z=>(hs.2 b hb).trans z) he new
theorem FN {P:Pi}{w:PK}{H':Hp}{h':Heap}{kvs:List (Key×V)}{vs:List (Key×O3)} (z:kvs.length<=sizeLine) (hd:(a==RE)=false) (rel:KV kvs vs) (dd:h'.DictOf (aG P w) a vs) :
 cB P w H' h' a (.dK kvs):=⟨z,hd,vs,rel,dd⟩
end
theorem yh {P:Pi}{w:PK}{H:Hp} (h:Heap) (hb:RE < h.objs.size):cB P w H (h.push { cls:=.type "dict",data:=.dict #[] }) h.objs.size (.dK []) :=
 ⟨P0 _,beq_eq_false_iff_ne.mpr (Qd (PD hb)),[],.nil,Heap.DictOf.new h⟩
end L2
end
section
namespace BT
open PySem PySem.W PyProof.Rows
noncomputable def vU {α:Type} (lt:Nat->Nat->Bool):KasT α->α
 | .ret a=>a
 | .ask i j k=>vU lt (k (lt i j))
noncomputable def Ends {α:Type} (n:Nat) (P:α->Prop):KasT α->Prop
 | .ret a=>P a
 | .ask i j k=>i < n/\j < n/\∀ b,Ends n P (k b)
theorem Ends.run {α:Type}{n:Nat}{P:α->Prop} (lt:Nat->Nat->Bool):∀ {t:KasT α},Ends n P t->P (vU lt t)
 | .ret _,h=>h
 | .ask i j k,h=>show P (vU lt (k (lt i j))) from Ends.run (n:=n) lt (h.2.2 (lt i j))
theorem Ends.bind {α β:Type}{n:Nat}{P:α->Prop}{R:β->Prop}{f:α->KasT β}:∀ {t:KasT α},Ends n P t->(∀ a,P a->Ends n R (f a))->Ends n R (t.bind f)
 | .ret a,h,g=>g a h
 | .ask i j k,h,g=>⟨h.1,h.2.1,fun b=>Ends.bind (h.2.2 b) g⟩
theorem Ends.wp {α:Type}{n:Nat}{P:α->Prop}{lt:Nat->Nat->Bool}{cmp:Nat->Nat->(Bool->O4->Prop)->O4->Prop}{Q:α->O4->Prop}{s:O4} (hc:∀ i j C,i < n->j < n->C (lt i j) s->cmp i j C s):∀ {t:KasT α},Ends n P t->Q (vU lt t) s->t.kasWp cmp Q s
 | .ret a,_,q=>q
 | .ask i j k,h,q=>hc i j _ h.1 h.2.1 (Ends.wp hc (h.2.2 _) q)
noncomputable abbrev Gd (n:Nat) (p:Array Nat):Prop:=p.toList.Perm (Pr n)
theorem Gd.lt {n:Nat}{p:Array Nat} (g:Gd n p) (h:0 < n) (i:Nat):p.getD i 0 < n:=by
 rw[Array.getD_eq_getD_getElem?]
 cases e:p[i]? with
 | none=>exact h
 | some x =>
  have:x∈p.toList:=by
   rw[← SO] at e
   exact Ph e
  exact List.mem_range.mp (g.mem_iff.mp this)
theorem Gd.rev {n:Nat}{p:Array Nat} (g:Gd n p) (i j:Nat):Gd n (kas_rev p i j):=(UZ (mirror_perm p i j _)).trans g
theorem kW {n:Nat}{p:Array Nat} (h:0 < n) (g:Gd n p):∀ f k,Ends n (fun _=>True) (kas_asc p f k)
 | 0,k=>trivial
 | f+1,k=>⟨g.lt h _,g.lt h _,fun b=>by cases b;exact kW h g f (k+1);exact trivial⟩
theorem gW {n:Nat} (h:0 < n):∀ f {p:Array Nat} (k q:Nat),Gd n p->Ends n (fun r=>Gd n r.1) (kas_desc f p k q)
 | 0,p,k,q,g=>g
 | f+1,p,k,q,g=>⟨g.lt h _,g.lt h _,fun b=>by
  cases b with
  | true =>
   show Ends n _ (if q > 0 then kas_desc f (kas_rev p (k - (q+1)) k) (k+1) 0 else kas_desc f p (k+1) 0)
   split
   ·exact gW h f _ _ (g.rev _ _)
   ·exact gW h f _ _ g
  | false =>
   refine ⟨g.lt h _,g.lt h _,fun b=>?_⟩
   cases b with
   | true=>exact g
   | false=>exact gW h f _ _ g⟩
theorem m7 {n:Nat}{p:Array Nat} (h:0 < n) (g:Gd n p) (k m:Nat):Ends n (fun r=>Gd n r.2) (kas_tail3 k m p):=(kW h (g.rev 0 k) _ _).bind fun _ _=>g.rev 0 k
theorem m8 {n:Nat}{p:Array Nat} (h:0 < n) (g:Gd n p) (k m:Nat):Ends n (fun r=>Gd n r.2) (kas_descPart k m p):=by
 refine (gW h _ _ _ g).bind fun r hr=>?_
 split
 ·exact m7 h (hr.rev _ _) _ _
 ·exact m7 h hr _ _
theorem rP {n:Nat}{p:Array Nat} (h:0 < n) (g:Gd n p) (m:Nat):Ends n (fun r=>Gd n r.2) (kas_count m p):=by
 refine (kW h g _ _).bind fun k _=>?_
 split
 ·exact g
 ·split
  ·refine ⟨g.lt h _,g.lt h _,fun b=>?_⟩
   cases b with
   | true=>exact g
   | false=>exact m8 h (g.rev _ _) _ _
  ·exact m8 h g _ _
theorem iJ {n:Nat}{p:Array Nat} (h:0 < n) (g:Gd n p) (k:Nat):∀ f l r,Ends n (fun _=>True) (kas_place p k f l r)
 | 0,l,r=>trivial
 | f+1,l,r=>by
  unfold kas_place
  split
  ·exact trivial
  ·refine ⟨g.lt h _,g.lt h _,fun b=>?_⟩
   cases b with
   | true=>exact iJ h g k f _ _
   | false=>exact iJ h g k f _ _
theorem pW {n:Nat} (h:0 < n):∀ f {p:Array Nat} (k:Nat),Gd n p->Ends n (Gd n) (kas_bin f p k)
 | 0,p,k,g=>g
 | f+1,p,k,g=>(iJ h g k _ _ _).bind fun l _=>pW h f _ ((UZ (bubble_perm p k _)).trans g)
theorem ng {n:Nat} (h:0 < n):Ends n (Gd n) (kas_sort n):=by
 refine (rP h (show (Pr n).Perm (Pr n) from .refl _) _).bind fun r hr=>?_
 split
 ·exact pW h _ _ hr
 ·exact hr
noncomputable def ltP (ps:List (Int×Int)) (i j:Nat):Bool :=
 if (ps.getD i (0,0)).1=(ps.getD j (0,0)).1 then decide ((ps.getD i (0,0)).2 < (ps.getD j (0,0)).2) else decide ((ps.getD i (0,0)).1 < (ps.getD j (0,0)).1)
noncomputable def jC (ps:List (Int×Int)):List Nat:=(vU (ltP ps) (kas_sort ps.length)).toList
theorem jD {ps:List (Int×Int)} (h:0 < ps.length):(jC ps).Perm (Pr ps.length):=(ng h).run _
end BT
end
section
namespace BS
open PySem PySem.W PySem.Spec PyProof.Rows
section
variable {prog:Pi}{w:PK}{A:Qi}{E:O3->O4->Prop}{s:O4}
noncomputable def kX (h:Heap) (b:Addr) (p:Int×Int):Prop:=∃ o t u c,h.get? b=some o/\o.cls=.type "tuple"/\o.data=.seq #[.int p.1 t,.int p.2 u] c
theorem yi {b1 b2:Addr}{p q:Int×Int}{Q:Bool->O4->Prop} (h1:kX s.heap b1 p) (h2:kX s.heap b2 q) (h:Q (if p.1=q.1 then decide (p.2 < q.2) else decide (p.1 < q.1)) s):wpAny (Pw prog w) A (keyLt' (tuples' true) (.ref b1) (.ref b2)) Q E s:=by
 obtain ⟨o1,t1,u1,c1,e1,k1,d1⟩:=h1
 obtain ⟨o2,t2,u2,c2,e2,k2,d2⟩:=h2
 refine kat_lt e1 d1 e2 d2 (kat_cons (UN ?_))
 by_cases z:p.1=q.1
 ·rw[if_pos z] at h
  rw[show (p.1==q.1)=true from beq_iff_eq.mpr z]
  refine kat_yes (kat_cons (UN ?_))
  by_cases z2:p.2=q.2
  ·rw[show (p.2==q.2)=true from beq_iff_eq.mpr z2]
   refine kat_yes (kat_nil ?_)
   rw[z2,decide_eq_false (Int.lt_irrefl _)] at h
   exact h
  ·rw[show (p.2==q.2)=false from beq_eq_false_iff_ne.mpr z2]
   exact kat_no (kat_one _ _ (PyProof.Rows.lt_int h))
 ·rw[if_neg z] at h
  rw[show (p.1==q.1)=false from beq_eq_false_iff_ne.mpr z]
  exact kat_no (oneLt_int h)
theorem nh {h:Heap}:∀ (as:List Addr) (ps:List (Int×Int)),as.length=ps.length->(∀ (i:Nat) b p,as[i]?=some b->ps[i]?=some p->kX h b p)->∃ fs,KatTups h (as.map Pz) fs/\fs.length=ps.length/\∀ v∈fs,∃ k t,v=.int k t
 | [],[],_,_=>⟨[],trivial,rfl,fun v hv=>nomatch hv⟩
 | a :: as,p :: ps,hl,hp=>by
  obtain ⟨fs,k1,k2,k3⟩:=nh as ps (by simpa using hl) fun i b q e1 e2=>hp (i+1) b q (by simpa using e1) (by simpa using e2)
  obtain ⟨o,t,u,c,e1,e2,e3⟩:=hp 0 a p rfl rfl
  refine ⟨.int p.1 t :: fs,KatTups.cons e1 e2 e3 rfl k1,by simp[k2],fun v hv=>?_⟩
  rcases List.mem_cons.mp hv with z | z
  ·exact ⟨_,_,z⟩
  ·exact k3 v z
theorem vV {a:Addr}{as:List Addr}{ps:List (Int×Int)}{n:Nat}{Q:Fin->O4->Prop} (he:s.heap.get? a=some (Tc "list" (as.map Pz).toArray n)) (hl:as.length=ps.length) (h2:2<=ps.length) (h64:ps.length < 64) (hp:∀ (i:Nat) b p,as[i]?=some b->ps[i]?=some p->b≠a/\kX s.heap b p)
 (hQ:∀ h' n',(∀ b o,b≠a->s.heap.get? b=some o->h'.get? b=some o)->h'.get? a=some (Tc "list" ((BT.jC ps).map fun i=>(as.map Pz).getD i .none).toArray n')->Q (.done (.ret .none)) { s with heap:=h' }) :
 wpAny (Pw prog w) A (Builtin.«list.sort» { pos:=[.ref a] }) Q E s:=by
 rw[list_sort_plain]
 have sl:sizeLine=16777216:=T4
 have vl:(as.map Pz).length=ps.length:=by rw[Pa,hl]
 have hz:(as.map Pz).toArray.size<=sizeLine:=by rw[O6,vl];omega
 have al:a < s.heap.objs.size:=O7 he
 refine wpAny_bind (listItems_at he rfl ?_)
 refine wpAny_bind (Ue he rfl ?_ hz (by simp))
 obtain ⟨e1,g1⟩:∃ e1,(s.heap.update a (QF fun _=>(#[]:Array O3))).get? a=some (Tc "list" #[] e1):=⟨_,U3 he (fun _=>#[])⟩
 refine wpAny_bind (U1 g1 rfl ?_)
 simp only[newTuple,VF]
 refine wpAny_bind (PJ ?_ (by first | size_fits | exact hz))
 refine wpAny_bind (PJ ?_ (by size_fits))
 refine Qh ?_
 have nn:¬ (as.map Pz).toArray.size < 2:=by rw[O6,vl];omega
 rw[if_neg nn,if_neg nn]
 generalize hh:((s.heap.update a (QF fun _=>(#[]:Array O3))).push { cls:=.type "tuple",data:=.seq (as.map Pz).toArray }).push { cls:=.type "list",data:=.seq ([]:List O3).toArray }=hp3
 have old:∀ b o,b≠a->s.heap.get? b=some o->hp3.get? b=some o:=fun b o nb q=>by
  rw[← hh]
  exact O2 _ (O2 _ ((Qo _ _ (Qd nb)).trans q))
 have g3:hp3.get? a=some (Tc "list" #[] e1):=by
  rw[← hh]
  exact O2 _ (O2 _ g1)
 have pr:∀ (i:Nat) b p,as[i]?=some b->ps[i]?=some p->kX hp3 b p:=fun i b p q1 q2=>by
  obtain ⟨nb,o,t,u,c,x1,x2,x3⟩:=hp i b p q1 q2
  exact ⟨o,t,u,c,old b o nb x1,x2,x3⟩
 obtain ⟨fs,k1,k2,k3⟩:=nh as ps hl pr
 refine wpAny_bind (kat_kind (T:=.type "int") k1 (by omega) (fun v hv=>?_) (by decide) ?_)
 ·obtain ⟨k,t,rfl⟩:=k3 v hv
  exact Looks.of_pure rfl
 have run:(kas_sort (as.map Pz).length).kasWp (kas_ask prog w A (tuples' true) (as.map Pz)) (fun p s'=>p=BT.vU (BT.ltP ps) (kas_sort ps.length)/\s'={ s with heap:=hp3 }) { s with heap:=hp3 }:=by
  rw[vl]
  refine BT.Ends.wp (fun i j C hi hj hC=>?_) (BT.ng (n:=ps.length) (by omega)) ⟨rfl,rfl⟩
  obtain ⟨bi,q1⟩:∃ b,as[i]?=some b:=⟨_,O9 (by omega)⟩
  obtain ⟨bj,q2⟩:∃ b,as[j]?=some b:=⟨_,O9 (by omega)⟩
  obtain ⟨pi,q3⟩:∃ p,ps[i]?=some p:=⟨_,O9 hi⟩
  obtain ⟨pj,q4⟩:∃ p,ps[j]?=some p:=⟨_,O9 hj⟩
  have v1:(as.map Pz).getD i .none=.ref bi:=by rw[PP,Px,q1];rfl
  have v2:(as.map Pz).getD j .none=.ref bj:=by rw[PP,Px,q2];rfl
  have v3:ps.getD i (0,0)=pi:=by rw[PP,q3];rfl
  have v4:ps.getD j (0,0)=pj:=by rw[PP,q4];rfl
  unfold BT.ltP at hC
  rw[v3,v4] at hC
  unfold kas_ask
  rw[v1,v2]
  exact yi (s:={ s with heap:=hp3 }) (pr i bi pi q1 q3) (pr j bj pj q2 q4) hC
 refine wpAny_bind (wpAny_mono (kat_run (Q:=fun st' s'=>s'={ s with heap:=hp3 }/\failedOf st'=none/\(arrOf st').map (·.2)=((BT.jC ps).map fun i=>(as.map Pz).getD i .none).toArray) rfl (by omega) (by omega) (fun p st' s' a1 a2 a3 a4=>⟨a4.2,a3,by rw[kat_snds rfl a2,a4.1];rfl⟩) run) ?_ fun _ _ e=>e)
 rintro ⟨⟨⟩,st'⟩ s' ⟨rfl,hf,ho⟩
 dsimp only
 refine wpAny_bind (U1 g3 rfl ?_)
 have oz:((BT.jC ps).map fun i=>(as.map Pz).getD i .none).toArray.size<=sizeLine:=by
  rw[O6,Pa,(BT.jD (by omega)).length_eq,QD];omega
 rw[ho]
 refine wpAny_bind (Ue g3 rfl ?_ (by simp) (Nat.le_succ_of_le oz))
 rw[hf]
 simp only[bne_self_eq_false,VV,if_false]
 obtain ⟨e2,g4⟩:∃ e2,(hp3.update a (QF fun _=>((BT.jC ps).map fun i=>(as.map Pz).getD i .none).toArray)).get? a=some (Tc "list" ((BT.jC ps).map fun i=>(as.map Pz).getD i .none).toArray e2):=⟨_,U3 g3 fun _=>((BT.jC ps).map fun i=>(as.map Pz).getD i .none).toArray⟩
 exact wpAny_pure (hQ _ e2 (fun b o nb q=>(Qo _ _ (Qd nb)).trans (old b o nb q)) g4)
end
end BS
end
section
namespace BX
open PySem PyProof.Rows
noncomputable def Ri (xs:Array Nat):Prop:=∀ i j a b:Nat,i < j->xs[i]?=some a->xs[j]?=some b->a < b
theorem yj {xs:Array Nat} (h:Ri xs) (j:Nat):∀ (fuel lo hi:Nat),lo<=hi->hi<=xs.size->hi - lo<=fuel->(∀ i a,i < lo->xs[i]?=some a->a < j)->(∀ i a,hi<=i->xs[i]?=some a->j<=a) →
 (∀ i a,i < SetTable.below.go xs j fuel lo hi->xs[i]?=some a->a < j)/\(∀ i a,SetTable.below.go xs j fuel lo hi<=i->xs[i]?=some a->j<=a)/\SetTable.below.go xs j fuel lo hi<=xs.size:=by
 intro fuel
 induction fuel with
 | zero =>
  intro lo hi h1 h2 h3 h4 h5
  have:lo=hi:=by omega
  subst this
  exact ⟨h4,h5,h2⟩
 | succ fuel ih =>
  intro lo hi h1 h2 h3 h4 h5
  by_cases c:lo < hi
  ·have hm:(lo+hi) / 2 < xs.size:=by omega
   have em:xs[(lo+hi) / 2]?=some xs[(lo+hi) / 2]:=PU hm
   have eg:xs.getD ((lo+hi) / 2) j=xs[(lo+hi) / 2]:=by simp[Array.getD,hm]
   have e:SetTable.below.go xs j (fuel+1) lo hi=if xs.getD ((lo+hi) / 2) j < j then SetTable.below.go xs j fuel ((lo+hi) / 2+1) hi else SetTable.below.go xs j fuel lo ((lo+hi) / 2):=by
    show (if lo < hi then _ else lo)=_
    rw[if_pos c]
   rw[e,eg]
   by_cases d:xs[(lo+hi) / 2] < j
   ·rw[if_pos d]
    refine ih _ _ (by omega) h2 (by omega) (fun i a hi' ea=>?_) h5
    rcases Pq i ((lo+hi) / 2) with z | z
    ·have:=h i _ a _ z ea em;omega
    ·have:i=(lo+hi) / 2:=by omega
     subst this
     rw[em] at ea;cases ea;exact d
   ·rw[if_neg d]
    refine ih _ _ (by omega) (by omega) (by omega) h4 (fun i a hi' ea=>?_)
    rcases Pq ((lo+hi) / 2) i with z | z
    ·have:=h _ i _ a z em ea;omega
    ·have:i=(lo+hi) / 2:=by omega
     subst this
     rw[em] at ea;cases ea;omega
  ·have e:SetTable.below.go xs j (fuel+1) lo hi=lo:=by
    show (if lo < hi then _ else lo)=_
    rw[if_neg c]
   have:lo=hi:=by omega
   subst this
   rw[e]
   exact ⟨h4,h5,h2⟩
theorem iK {xs:Array Nat} (h:Ri xs) (j:Nat):(∀ i a,i < SetTable.below xs j->xs[i]?=some a->a < j)/\(∀ i a,SetTable.below xs j<=i->xs[i]?=some a->j<=a)/\SetTable.below xs j<=xs.size :=
 yj h j xs.size 0 xs.size (P0 _) (O8 _) (by omega) (fun i a z=>absurd z (S7 _)) (fun i a z e=>by
  have:xs[i]?=none:=Qm z
  rw[this] at e;cases e)
theorem i6 {α:Type} (xs:Array α) {p:Nat} (hp:p<=xs.size) (x:α) (i:Nat):(SetTable.insertAt xs p x)[i]?=if i < p then xs[i]? else if i=p then some x else xs[i - 1]?:=by
 unfold SetTable.insertAt
 have s1:((xs.extract 0 p).push x).size=p+1:=by simp;omega
 by_cases c:i < p
 ·rw[if_pos c,Ut (by omega),Vs,if_neg (by simp;omega),UY]
  simp;omega
 ·rw[if_neg c]
  by_cases d:i=p
  ·subst d
   rw[if_pos rfl,Ut (by omega),Vs,if_pos (by simp;omega)]
  ·rw[if_neg d,Array.getElem?_append_right (by omega),s1,UY]
   simp
   split
   ·congr 1;omega
   ·rename_i z
    symm
    exact Qm (by omega)
theorem FO {xs:Array Nat} (h:Ri xs) {j:Nat} (hn:xs[SetTable.below xs j]?≠some j):Ri (SetTable.insertAt xs (SetTable.below xs j) j):=by
 obtain ⟨b1,b2,b3⟩:=iK h j
 intro i k a b hik ea eb
 rw[i6 xs b3] at ea eb
 generalize SetTable.below xs j=p at *
 have gt:∀ i a,p<=i->xs[i]?=some a->j < a:=fun i a hi e=>by
  have:=b2 i a hi e
  rcases Pq j a with z | z
  ·exact z
  ·have:a=j:=by omega
   subst this
   rcases Pq p i with q | q
   ·cases ep:xs[p]? with
    | none =>
     have:xs.size<=p:=by
      rcases Pq p xs.size with w | w
      ·rw[PU w] at ep;cases ep
      ·exact w
     rw[Qm (by omega)] at e;cases e
    | some y =>
     have h1:=h p i y a q ep e
     have h2:=b2 p y (O8 _) ep
     omega
   ·have:i=p:=by omega
    subst this
    exact absurd e hn
 by_cases c1:k < p
 ·rw[if_pos c1] at eb
  rw[if_pos (by omega)] at ea
  exact h i k a b hik ea eb
 ·rw[if_neg c1] at eb
  by_cases c2:k=p
  ·rw[if_pos c2] at eb
   cases eb
   rw[if_pos (by omega)] at ea
   exact b1 i a (by omega) ea
  ·rw[if_neg c2] at eb
   have hb:=gt (k - 1) b (by omega) eb
   by_cases d1:i < p
   ·rw[if_pos d1] at ea
    have:=b1 i a d1 ea
    omega
   ·rw[if_neg d1] at ea
    by_cases d2:i=p
    ·rw[if_pos d2] at ea;cases ea;exact hb
    ·rw[if_neg d2] at ea
     exact h (i - 1) (k - 1) a b (by omega) ea eb
theorem yk (n:Nat):Ri (Array.range n):=by
 intro i j a b hij ea eb
 rw[Array.getElem?_range] at ea eb
 split at ea
 ·split at eb
  ·cases ea;cases eb;exact hij
  ·cases eb
 ·cases ea
theorem BV {l:List Nat} (h:l.Pairwise (· < ·)):Ri l.toArray:=by
 intro i j a b hij ea eb
 simp only[List.getElem?_toArray] at ea eb
 obtain ⟨hi,rfl⟩:=List.getElem?_eq_some_iff.mp ea
 obtain ⟨hj,rfl⟩:=List.getElem?_eq_some_iff.mp eb
 exact List.pairwise_iff_getElem.mp h i j hi hj hij
structure Tb (bt:Bool) (t:SetTable):Prop where
 led:t.led=!bt
 ri:Ri t.place
theorem yl (bt:Bool):Tb bt (SetTable.fresh 0 0 (!bt)):=⟨rfl,fun i j a b _ e=>by simp[SetTable.fresh] at e⟩
theorem jb {bt:Bool}{t:SetTable} (h:Tb bt t) (n:Nat):Tb bt (SetTable.standIn t n):=⟨h.led,yk n⟩
noncomputable def Fre (t:SetTable) (j:Nat):Prop:=t.place[SetTable.below t.place j]?≠some j
theorem pX {t:SetTable}{j:Nat} (h:t.slot j=.empty\/t.slot j=.dummy):Fre t j:=by
 intro z
 have e:t.slot j=.live (SetTable.below t.place j):=by
  unfold SetTable.slot
  simp[z]
 rw[e] at h
 rcases h with h | h<;>cases h
theorem ym (t:SetTable) (g:Nat->Int) (h:Int):∀ (fuel:Nat) (p:SetTable.Probe) (j:Nat) (d:Option Nat),(∀ x,p.dummy=some x->Fre t x)->SetTable.probe.go t g h fuel p=some (.empty j d)->Fre t j/\∀ x,d=some x->Fre t x:=by
 intro fuel
 induction fuel with
 | zero=>intro p j d _ e;cases e
 | succ fuel ih =>
  intro p j d hp e
  have e':SetTable.probe.go t g h (fuel+1) p=(match t.slot p.j with
   | .empty=>some (.empty p.j p.dummy)
   | .dummy=>SetTable.probe.go t g h fuel (SetTable.advance t { p with dummy:=some p.j })
   | .live i=>if (g i==h)=true then some (.candidate p.j i (SetTable.advance t p)) else SetTable.probe.go t g h fuel (SetTable.advance t p)):=rfl
  rw[e'] at e
  have adv:∀ q:SetTable.Probe,(SetTable.advance t q).dummy=q.dummy:=fun q=>by
   unfold SetTable.advance
   split<;>rfl
  cases s:t.slot p.j with
  | empty =>
   rw[s] at e
   cases e
   exact ⟨pX (.inl s),hp⟩
  | dummy =>
   rw[s] at e
   exact ih _ j d (fun x hx=>by rw[adv] at hx;cases hx;exact pX (.inr s)) e
  | live i =>
   rw[s] at e
   simp only at e
   split at e
   ·cases e
   ·exact ih _ j d (fun x hx=>by rw[adv] at hx;exact hp x hx) e
theorem yo {t:SetTable}{h:Int}{j:Nat}{b:Bool} (e:SetTable.freeSlot t h=some (j,b)):Fre t j:=by
 unfold SetTable.freeSlot at e
 split at e
 ·rename_i j' d hp
  cases e
  obtain ⟨h1,h2⟩:=ym t _ h _ _ j' d (fun x hx=>by simp[SetTable.probeStart] at hx) hp
  cases d with
  | none=>exact h1
  | some x=>exact h2 x rfl
 ·cases e
theorem FP {bt:Bool}{t:SetTable} (h:Tb bt t) (es:Array (Int×O3)) (k:Int) (x:O3):Tb bt (layNew t es k x).2.1:=by
 unfold layNew
 split
 ·rename_i slot wd e
  have hf:=yo e
  have hp:Tb bt (SetTable.put t slot).1:=⟨h.led,FO h.ri hf⟩
  simp only
  show Tb bt (SetTable.orStandIn _ _)
  unfold SetTable.orStandIn
  split
  ·exact hp
  ·exact jb hp _
 ·exact jb h _
theorem yp {bt:Bool}{t:SetTable} (h:Tb bt t) (es:Array (Int×O3)) (n:Nat):Tb bt (relayAll t es n).2.1:=by
 unfold relayAll
 split
 ·rename_i t' order e
  have ht:Tb bt t':=by
   unfold SetTable.relaid SetTable.laid at e
   cases g:SetTable.layClean (SetTable.sizeAbove n - 1) (es.map fun x=>x.1) with
   | none=>rw[g] at e;cases e
   | some owner =>
    rw[g] at e
    cases e
    refine ⟨h.led,BV ?_⟩
    rw[List.pairwise_map]
    refine List.Pairwise.filterMap _ (fun a b hab x hx y hy=>?_) Vc
    obtain ⟨_,_,rfl⟩:=Option.map_eq_some_iff.mp hx
    obtain ⟨_,_,rfl⟩:=Option.map_eq_some_iff.mp hy
    exact hab
  simp only
  split
  ·exact ht
  ·exact jb h _
 ·exact jb h _
section
variable {prog:Pi}{w:PK}{A:Qi}{E:O3->O4->Prop}{s:O4}
noncomputable def mz (prog:Pi) (w:PK) (bt:Bool) (h:Heap) (a:Addr) (S:Int->Bool) (n:Nat):Prop :=
 ∃ o es ep t,h.get? a=some o/\o.ExactSet/\o.data=.set es ep t/\ElemsOf (intKind prog w) es.toList/\(∀ k,S k=true↔∃ e∈es.toList,(intKind prog w).is k e.2=true)/\es.size < Se/\t.fits es.size=true/\es.size=n/\Tb bt t
theorem OQ {g:Bool->Sem Unit} (hg:∀ (b:Bool) (s₁:O4) (Q:Unit->O4->Prop),Q () s₁->wpAny (Pw prog w) A (g b) Q E s₁) {b:Bool}{α:Type}{f:Unit->Sem α}{Q:α->O4->Prop} (h:wpAny (Pw prog w) A (f ()) Q E s):wpAny (Pw prog w) A (g b >>= f) Q E s :=
 wpAny_bind (hg b s _ h)
theorem add_int {bt:Bool}{a:Addr}{S:Int->Bool}{n:Nat}{k:Int}{tk:Tok}{Q:Bool->O4->Prop} (hs:mz prog w bt s.heap a S n) (hn:n+1 < Se)
 (hQ:∀ b h',Qg a s.heap h'->mz prog w bt h' a (fun k'=>S k'||decide (k'=k)) (if S k=true then n else n+1)->Q b { s with heap:=h' }) :
 wpAny (Pw prog w) A (setAddHashed a (.int k tk) ((intKind prog w).hash k)) Q E s:=by
 obtain ⟨o,es,ep,t,ho,hx,hd,he,hm,hb,hf,rfl,ht⟩:=hs
 have ik:=intKind_is prog w k tk
 unfold setAddHashed
 refine Qh ?_
 rw[setAddHashedIn.eq_def]
 show wpAny _ _ (setState a >>= _) _ _ s
 refine wpAny_bind (QZ ho hd hf ?_)
 simp only
 rw[if_pos (byScan_of (knd:=intKind prog w) rfl hb he)]
 refine wpAny_bind ?_
 unfold setAddByScan
 refine wpAny_bind (Uu ?_)
 refine wpAny_bind ?_
 show wpAny _ _ (setScanFrom a (.int k tk) ((intKind prog w).hash k) true es.toList 0) _ _ s
 refine wpAny_setScanFrom_of (knd:=intKind prog w) ik ho hd hf es.toList 0 he ?_
 cases g:es.toList.findIdx? fun e=>(intKind prog w).is k e.2 with
 | some j =>
  have hk:S k=true:=by
   obtain ⟨hj,h1,_⟩:=List.findIdx?_eq_some_iff_getElem.mp g
   exact (hm k).mpr ⟨_,SI hj,h1⟩
  refine wpAny_pure (wpAny_pure (hQ _ _ (SX _ _) ?_))
  rw[if_pos hk]
  refine ⟨o,es,ep,t,ho,hx,hd,he,fun k'=>?_,hb,hf,rfl,ht⟩
  rw[← hm k']
  by_cases c:k'=k
  ·subst c;simp[hk]
  ·simp[c]
 | none =>
  have hk:¬ S k=true:=fun z=>by
   obtain ⟨e,h1,h2⟩:=(hm k).mp z
   have:=List.findIdx?_eq_none_iff.mp g e h1
   rw[h2] at this;cases this
  rw[if_neg hk] at hQ
  have q1:=layNew_fits t es ((intKind prog w).hash k) (.int k tk)
  have q2:=layNew_perm t es ((intKind prog w).hash k) (.int k tk)
  have q3:=FP ht es ((intKind prog w).hash k) (.int k tk)
  dsimp only
  generalize layNew t es ((intKind prog w).hash k) (.int k tk)=r at q1 q2 q3 ⊢
  obtain ⟨es1,t1,wd,gv⟩:=r
  simp only at q1 q2 q3 ⊢
  have q2':es1.toList.Perm (es.toList++[((intKind prog w).hash k,.int k tk)]):=by simpa using q2
  have sz:es1.size=es.size+1:=by
   have:=q2'.length_eq
   simpa using this
  have e1:=(he.push ik rfl).perm q2'
  have m1:=mem_push_iff ik hm q2'
  have z1:es1.size < Se:=by omega
  have fin:wpAny (Pw prog w) A (Uc a es1 t1 >>= fun _=>if (!wd&&t1.tooFull)=true then (match relayAll t1 es1 (SetTable.grown es1.size) with | (es2,t2,gv2)=>(match gv2 with | true=>rule "set.scan.the-table-gave-way" | false=>pure ()) >>= fun _=>Uc a es2 t2 >>= fun _=>pure (some true)) else pure (some true))
   (fun a_1 s'=>wpAny (Pw prog w) A (match a_1 with | some added=>pure added | none=>Vm a (.int k tk) ((intKind prog w).hash k) 99999) Q E s') E s:=by
   obtain ⟨ob,_⟩:=SetOf_store ho hx hd e1 m1 z1 q1
   refine wpAny_bind (wpAny_storeSet_of ho hd ?_ (by rw[sz];exact RY hn))
   by_cases c:(!wd&&t1.tooFull)=true
   ·rw[if_pos c]
    have p1:=relayAll_fits t1 es1 (SetTable.grown es1.size)
    have p2:=relayAll_perm t1 es1 (SetTable.grown es1.size)
    have p3:=yp q3 es1 (SetTable.grown es1.size)
    generalize relayAll t1 es1 (SetTable.grown es1.size)=r at p1 p2 p3 ⊢
    obtain ⟨es2,t2,gv2⟩:=r
    simp only at p1 p2 p3 ⊢
    have sz2:es2.size=es.size+1:=by
     have:=p2.length_eq
     simp at this;omega
    have e2:=e1.perm p2
    have m2:∀ k',(S k'||decide (k'=k))=true↔∃ e∈es2.toList,(intKind prog w).is k' e.2=true:=fun k'=>(m1 k').trans ⟨fun ⟨e,h1,h2⟩=>⟨e,p2.mem_iff.mpr h1,h2⟩,fun ⟨e,h1,h2⟩=>⟨e,p2.mem_iff.mp h1,h2⟩⟩
    have nx:wpAny (Pw prog w) A (Uc a es2 t2 >>= fun _=>pure (some true)) (fun a_1 s'=>wpAny (Pw prog w) A (match a_1 with | some added=>pure added | none=>Vm a (.int k tk) ((intKind prog w).hash k) 99999) Q E s') E { s with heap:=s.heap.update a (Obj.putSet es1 t1) }:=by
     obtain ⟨ob2,_⟩:=SetOf_store (h:=s.heap.update a (Obj.putSet es1 t1)) ob ⟨hx.1,hx.2.1,hx.2.2⟩ rfl e2 m2 (by omega) p1
     refine wpAny_bind (wpAny_storeSet_of (s:={ s with heap:=s.heap.update a (Obj.putSet es1 t1) }) ob rfl ?_ (by rw[sz2];exact RY hn))
     refine wpAny_pure (wpAny_pure (hQ true _ ((P6 ..).trans (P6 ..)) ?_))
     exact ⟨_,es2,_,t2,ob2,⟨hx.1,hx.2.1,hx.2.2⟩,rfl,e2,m2,by omega,p1,sz2,p3⟩
    refine wpAny_bind ?_
    cases gv2 with
    | true=>exact Uu nx
    | false=>exact wpAny_pure nx
   ·rw[if_neg c]
    refine wpAny_pure (wpAny_pure (hQ true _ (P6 ..) ?_))
    exact ⟨_,es1,_,t1,ob,⟨hx.1,hx.2.1,hx.2.2⟩,rfl,e1,m1,z1,q1,sz,q3⟩
  refine wpAny_bind ?_
  have nx:wpAny (Pw prog w) A (if t1.plain=true then hashByValue 8 (.int k tk) >>= fun bv=>Uc a es1 (if bv=true then t1 else { t1 with plain:=false }) >>= fun _=>if (!wd&&(if bv=true then t1 else { t1 with plain:=false }).tooFull)=true then (match relayAll (if bv=true then t1 else { t1 with plain:=false }) es1 (SetTable.grown es1.size) with | (es2,t2,gv2)=>(match gv2 with | true=>rule "set.scan.the-table-gave-way" | false=>pure ()) >>= fun _=>Uc a es2 t2 >>= fun _=>pure (some true)) else pure (some true) else
   (pure true >>= fun bv=>Uc a es1 (if bv=true then t1 else { t1 with plain:=false }) >>= fun _=>if (!wd&&(if bv=true then t1 else { t1 with plain:=false }).tooFull)=true then (match relayAll (if bv=true then t1 else { t1 with plain:=false }) es1 (SetTable.grown es1.size) with | (es2,t2,gv2)=>(match gv2 with | true=>rule "set.scan.the-table-gave-way" | false=>pure ()) >>= fun _=>Uc a es2 t2 >>= fun _=>pure (some true)) else pure (some true)))
   (fun a_1 s'=>wpAny (Pw prog w) A (match a_1 with | some added=>pure added | none=>Vm a (.int k tk) ((intKind prog w).hash k) 99999) Q E s') E s:=by
   by_cases c:t1.plain=true
   ·rw[if_pos c]
    refine wpAny_bind ?_
    rw[hashByValue.eq_def]
    exact wpAny_pure fin
   ·rw[if_neg c]
    exact wpAny_bind (wpAny_pure fin)
  cases gv with
  | true=>refine Uu ?_;exact nx
  | false=>refine wpAny_pure ?_;exact nx
end
section
variable {prog:Pi}{w:PK}{A:Qi}{E:O3->O4->Prop}{R:U7->O4->Prop}
theorem yq {bt:Bool} (hh:A.handled=none) {l it S:Addr}{items:Array O3}{ns:List Int} (hi:Sz items.toList ns) (hSi:S≠it) (hSl:S≠l) (hil:it≠l) (hb:items.size+1 < Se) :
 ∀ (k i:Nat) (s:O4),items.size - i=k->i<=items.size->s.heap.IsListIter it l i->s.heap.IsList l items->mz prog w bt s.heap S (fun k'=>(QV (fun i=>ns.getD i 0) i).any (·==k')) (QV (fun i=>ns.getD i 0) i).length →
  (∀ h' tk,(∀ b o,b≠S->b≠it->s.heap.get? b=some o->h'.get? b=some o)->mz prog w bt h' S (fun k'=>(QV (fun i=>ns.getD i 0) items.size).any (·==k')) (QV (fun i=>ns.getD i 0) items.size).length->R (.ok (.ret .none)) { s with heap:=h',toks:=tk }) →
  codeAny (Pw prog w) A (.builtin "set.update.loop" ⟨[.ref S,.ref it],[]⟩) R s:=by
 intro k
 induction k with
 | zero =>
  intro i s hk hi' h1 h2 h3 hR
  have:i=items.size:=by omega
  subst this
  refine codeAny_builtin F.entry_set_update_loop ?_
  rw[QT F.plain_set_update_loop _]
  show wpAny _ A.in1 (Ud (.ref it) >>= _) _ _ _
  refine wpAny_bind (wpAny_pyNext_list_end (A:=A.in1) hh h1 h2 (Qm (O8 _)) fun h' hx=>?_)
  refine wpAny_pure (hR h' s.toks (fun b o _ n2 e=>hx b o n2 e) ?_)
  obtain ⟨o,es,ep,t,g1,g2⟩:=h3
  exact ⟨o,es,ep,t,hx S o hSi g1,g2⟩
 | succ k ih =>
  intro i s hk hi' h1 h2 h3 hR
  have hlt:i < items.size:=by omega
  have hx:items[i]?=some items[i]:=PU hlt
  obtain ⟨tk,ex⟩:=hi.int_at i items[i] (by simpa using hx)
  refine codeAny_builtin F.entry_set_update_loop ?_
  rw[QT F.plain_set_update_loop _]
  show wpAny _ A.in1 (Ud (.ref it) >>= _) _ _ _
  refine wpAny_bind (wpAny_pyNext_list_item h1 h2 hx fun h' g1 g2=>?_)
  rw[ex]
  have hS':mz prog w bt h' S (fun k'=>(QV (fun i=>ns.getD i 0) i).any (·==k')) (QV (fun i=>ns.getD i 0) i).length:=by
   obtain ⟨o,es,ep,t,q1,q2⟩:=h3
   exact ⟨o,es,ep,t,(g2.2 S hSi).trans q1,q2⟩
  have ln:(QV (fun i=>ns.getD i 0) i).length<=i:=firstMet_length_le _ _
  refine wpAny_bind (Qh ?_)
  unfold setAdd
  refine Qh (wpAny_bind (wpAny_pyHash_int ?_))
  refine add_int (bt:=bt) (s:={ s with heap:=h',toks:=s.toks+1 }) hS' (by omega) fun b h2' k1 k2=>?_
  have k2':mz prog w bt h2' S (fun k'=>(QV (fun i=>ns.getD i 0) (i+1)).any (·==k')) (QV (fun i=>ns.getD i 0) (i+1)).length:=by
   have e1:(fun k'=>(QV (fun i=>ns.getD i 0) (i+1)).any (·==k'))=fun k'=>(QV (fun i=>ns.getD i 0) i).any (·==k')||decide (k'=ns.getD i 0):=by
    funext k'
    rw[firstMet_succ,step_any]
   rw[e1,firstMet_succ,step_length]
   exact k2
  have old:∀ c o,c≠S->c≠it->s.heap.get? c=some o->h2'.get? c=some o:=fun c o n1 n2 e=>(k1.2 c n1).trans ((g2.2 c n2).trans e)
  refine wpAny_pure ⟨plainId_quiet F.plain_set_update_loop _,ih (i+1) { s with heap:=h2',toks:=s.toks+1 } (by omega) hlt ?_ ?_ k2' fun h'' tk' q1 q2=>?_⟩
  ·obtain ⟨o,e1,e2⟩:=g1
   exact ⟨o,(k1.2 it (Qd hSi)).trans e1,e2⟩
  ·obtain ⟨o,e1,e2⟩:=h2
   exact ⟨o,old l o (Qd hSl) (Qd hil) e1,e2⟩
  ·exact hR h'' tk' (fun c o n1 n2 e=>q1 c o n1 n2 (old c o n1 n2 e)) q2
end
section
variable {prog:Pi}{w:PK}{A:Qi}{E:O3->O4->Prop}{s:O4}
theorem jc {Q:Bool->O4->Prop} (h:Q (w.params.followText "set-order") s):wpAny (Pw prog w) A setsByText Q E s:=by
 unfold setsByText
 exact wpAny_bind (wpAny_askSetting (wpAny_pure h))
theorem yr {l S:Addr}{items:Array O3}{ns:List Int}{R:U7->O4->Prop} (hh:A.handled=none) (hl:s.heap.IsList l items) (hi:Sz items.toList ns) (hb:items.size+1 < Se) (hSl:S≠l)
 (hS:s.heap.get? S=some { cls:=.type "set",data:=.set #[] 0 (SetTable.fresh 0 0 (!w.params.followText "set-order")) })
 (hR:∀ h' tk,(∀ b o,b≠S->s.heap.get? b=some o->h'.get? b=some o)->mz prog w (w.params.followText "set-order") h' S (fun k'=>(QV (fun i=>ns.getD i 0) items.size).any (·==k')) (QV (fun i=>ns.getD i 0) items.size).length->R (.ok (.ret .none)) { s with heap:=h',toks:=tk }) :
 wpAny (Pw prog w) A.in1 (Builtin.«set.__init__» ⟨[.ref S,.ref l],[]⟩)
  (fun fin s'=>match fin with | .done f=>R (.ok f) s' | .again c'=>c'.quiet=true/\codeAny (Pw prog w) A c' R s') (fun e s'=>R (.error e) s') s:=by
 have hT:s.TypeIs (.ref S) "set":=⟨_,hS,rfl⟩
 unfold Builtin.«set.__init__»
 refine wpAny_bind (wpAny_pure ?_)
 dsimp only
 refine wpAny_bind ?_
 unfold typeNameOfCut shownTypeOf
 refine wpAny_bind ?_
 refine wpAny_bind (Sd hT ?_)
 rw[if_neg (by decide)]
 refine wpAny_pure ?_
 show wpAny _ _ (typeName (.type "set")) _ _ s
 refine wpAny_pure ?_
 refine wpAny_bind (wpAny_pure ?_)
 refine wpAny_bind (wpAny_pure ?_)
 refine wpAny_bind ?_
 unfold setUsed
 refine wpAny_bind (QZ hS rfl rfl (wpAny_pure ?_))
 rw[if_neg (show ¬ ((SetTable.fresh 0 0 (!w.params.followText "set-order")).fill != 0)=true from PX)]
 refine wpAny_bind ?_
 unfold Builtin.Frozenset.updateFrom
 refine wpAny_bind ?_
 have hL:s.TypeIs (.ref l) "list":=hl.typeIs
 unfold Builtin.Frozenset.isAnySet
 refine wpAny_bind (Sj (b:=false) hL (isSubtype_of_subB (by decide +kernel)) ?_)
 show wpAny _ _ (isInstance (.ref l) (.type "frozenset")) _ _ s
 refine Sj (b:=false) hL (isSubtype_of_subB (by decide +kernel)) ?_
 rw[if_neg PX]
 refine wpAny_bind (Sd hL ?_)
 rw[if_neg (by decide)]
 refine wpAny_bind (wpAny_pyIter_list hl ?_)
 refine wpAny_bind (wpAny_runValue ?_)
 have lS:S < s.heap.objs.size:=O7 hS
 have ll:l < s.heap.objs.size:=by obtain ⟨o,e,_⟩:=hl;exact O7 e
 have up:∀ b o,s.heap.get? b=some o->(s.heap.push { cls:=.type "list_iterator",data:=.fields #[.ref l,.int 0 0] }).get? b=some o:=fun b o e=>O2 _ e
 refine yq (bt:=w.params.followText "set-order") (A:=A.in1) hh hi (PD lS) hSl (QX ll) hb items.size 0 _ rfl (P0 _) ⟨_,Pc _ rfl,rfl,rfl⟩ ?_ ?_ fun h' tk k1 k2=>?_
 ·obtain ⟨o,e,r⟩:=hl
  exact ⟨o,up _ _ e,r⟩
 ·refine ⟨_,#[],0,_,up _ _ hS,⟨rfl,rfl,rfl⟩,rfl,fun e he=>(by simp at he),fun k=>⟨fun z=>by simp[firstMet_zero] at z,fun ⟨e,he,_⟩=>by simp at he⟩,by decide,rfl,by simp[firstMet_zero],yl _⟩
 ·refine wpAny_pure (wpAny_pure (hR h' tk (fun b o n1 e=>k1 b o n1 (PD (O7 e)) (up b o e)) k2))
theorem BW (v:O3) {Q₁:O3->O4->Prop} (h:Q₁ (.ref s.heap.objs.size) { s with heap:=s.heap.push { cls:=.type "set",data:=.set #[] 0 (SetTable.fresh 0 0 (!w.params.followText "set-order")) } }) :
 codeAny (Pw prog w) A (.call (.builtin "set.__new__") { pos:=[.type "set",v] }) (wants Q₁ E) s:=by
 refine codeAny_call_builtin (by decide +kernel) PySem.F.entry_set_new ?_
 rw[PySem.F.newCall_set_1]
 refine wpAny_pure ?_
 unfold Builtin.«set.__new__»
 refine wpAny_bind (wpAny_pure ?_)
 refine wpAny_bind ?_
 unfold newSet
 refine wpAny_bind (jc ?_)
 refine PJ ?_ (by size_fits)
 exact wpAny_pure h
theorem yt {l:Addr}{items:Array O3}{ns:List Int}{Q:O3->O4->Prop} (hh:A.handled=none) (hl:s.heap.IsList l items) (hi:Sz items.toList ns) (hb:items.size+1 < Se)
 (hQ:∀ h' tk,mz prog w (w.params.followText "set-order") h' s.heap.objs.size (fun k'=>(QV (fun i=>ns.getD i 0) items.size).any (·==k')) (QV (fun i=>ns.getD i 0) items.size).length->(∀ b o,s.heap.get? b=some o->h'.get? b=some o)->Q (.ref s.heap.objs.size) { s with heap:=h',toks:=tk }) :
 wpAny (Pw prog w) A (call (.type "set") [.ref l]) Q E s:=by
 have ll:l < s.heap.objs.size:=by obtain ⟨o,e,_⟩:=hl;exact O7 e
 have up:∀ b o,s.heap.get? b=some o->(s.heap.push { cls:=.type "set",data:=.set #[] 0 (SetTable.fresh 0 0 (!w.params.followText "set-order")) }).get? b=some o:=fun b o e=>O2 _ e
 have hS:(s.heap.push { cls:=.type "set",data:=.set #[] 0 (SetTable.fresh 0 0 (!w.params.followText "set-order")) }).get? s.heap.objs.size=some { cls:=.type "set",data:=.set #[] 0 (SetTable.fresh 0 0 (!w.params.followText "set-order")) }:=Pc _ rfl
 refine SM (codeAny_of_tree ?_)
 show wpAny _ _ (pure (Fin.again (.builtin "type.__call__" ⟨[.type "set",.ref l],[]⟩))) _ _ s
 refine wpAny_pure ⟨Code.quiet_builtin _ (by decide +kernel),codeAny_builtin PySem.F.entry_type_call ?_⟩
 rw[Around.under_plain (weight_type_call_type "set" [.ref l] []) rfl]
 unfold Builtin.«type.__call__»
 dsimp only
 rw[if_neg (by rw[PySem.F.called_set.notType];exact PX)]
 rw[if_neg (by rw[PySem.F.called_set.canCreate];exact PX)]
 rw[PySem.F.typeCall_set_1]
 refine wpAny_bind (wpAny_pure ?_)
 obtain ⟨c,tl,hm⟩:=PySem.F.called_set.mro
 rw[hm]
 refine wpAny_bind (wpAny_pure ?_)
 rw[if_neg (by simp)]
 rw[PySem.F.called_set.made]
 refine wpAny_bind (wpAny_pure ?_)
 refine wpAny_bind (wpAny_pure ?_)
 refine wpAny_bind (Qh (SM ?_))
 refine codeAny_mono (BW (E:=E) (Q₁:=fun obj s₁=>obj=.ref s.heap.objs.size/\s₁={ s with heap:=s.heap.push { cls:=.type "set",data:=.set #[] 0 (SetTable.fresh 0 0 (!w.params.followText "set-order")) } }) _ ⟨rfl,rfl⟩) fun r s' h=>?_
 cases r with
 | error e=>exact h
 | ok fl =>
  cases fl with
  | ret v =>
   obtain ⟨rfl,rfl⟩:=(show _/\_ from h)
   have hT:({ s with heap:=s.heap.push { cls:=.type "set",data:=.set #[] 0 (SetTable.fresh 0 0 (!w.params.followText "set-order")) } }:O4).TypeIs (.ref s.heap.objs.size) "set":=⟨_,hS,rfl⟩
   refine wpAny_bind (Sj (b:=true) hT PySem.F.called_set.sub ?_)
   rw[if_neg (by decide)]
   refine wpAny_bind (Qh (Q4 hT PySem.F.slot_set_init (SM ?_)))
   have key:∀ R:U7->O4->Prop,(∀ h' tk,(∀ b o,b≠s.heap.objs.size->(s.heap.push { cls:=.type "set",data:=.set #[] 0 (SetTable.fresh 0 0 (!w.params.followText "set-order")) }).get? b=some o->h'.get? b=some o)->mz prog w (w.params.followText "set-order") h' s.heap.objs.size (fun k'=>(QV (fun i=>ns.getD i 0) items.size).any (·==k')) (QV (fun i=>ns.getD i 0) items.size).length->R (.ok (.ret .none)) { s with heap:=h',toks:=tk }) →
    codeAny (Pw prog w) A.in1 (.call (.builtin "set.__init__") ⟨[.ref s.heap.objs.size,.ref l],[]⟩) R { s with heap:=s.heap.push { cls:=.type "set",data:=.set #[] 0 (SetTable.fresh 0 0 (!w.params.followText "set-order")) } }:=fun R hR =>
    codeAny_call_builtin (by decide +kernel) PySem.F.entry_set_init (check_set_init_1 hT (yr (prog:=prog) (w:=w) (s:={ s with heap:=s.heap.push { cls:=.type "set",data:=.set #[] 0 (SetTable.fresh 0 0 (!w.params.followText "set-order")) } }) (A:=A.in1) hh (let ⟨o,e,r⟩:=hl;⟨o,up _ _ e,r⟩) hi hb (QX ll) hS hR))
   refine key _ fun h' tk k1 k2=>?_
   show wpAny _ _ (if (RG != RG)=true then _ else PySem.ret (.ref s.heap.objs.size)) _ _ _
   rw[if_neg (by decide)]
   exact wpAny_pure (hQ h' tk k2 fun b o e=>k1 b o (PD (O7 e)) (up b o e))
  | next=>exact h
  | brk=>exact h
  | cont=>exact h
end
theorem jd:Slot "set_iterator" (Pp "__next__") "set_iterator.__next__":=Slot.of (owner:="set_iterator") (n:="__next__") (by rw[typeLookup_type,builtinLookup_eq_fast];kernel_rfl) (by kernel_rfl) (by kernel_rfl) (by kernel_rfl) (.inl (by kernel_rfl)) (by rw[isSubtype_type];kernel_rfl) (by decide +kernel)
theorem pY:entryFor table "set_iterator.__next__"=some Builtin.«set_iterator.__next__»:=by kernel_rfl
theorem rQ:entryFor table "set.__iter__"=some Builtin.«frozenset.__iter__»:=by kernel_rfl
theorem tL (a:O3):argsOk "set_iterator.__next__" { pos:=[a] }:=by kernel_rfl
noncomputable def itO (first:O3) (i n ep:Nat) (a:Addr):Obj:={ cls:=.type "set_iterator",data:=.fields #[first,.int i 0,.ref a,.int n 0,.int ep 0] }
noncomputable def slotAt (pl:Array Nat):Nat->Nat
 | 0=>0
 | i+1=>match pl[i]? with
  | some j=>j+1
  | none=>0
inductive Md (w:PK) (h:Heap) (a:Addr) (es:Array (Int×O3)) (ep:Nat) (t:SetTable):O3->List O3->Nat->Prop where
 | A {z:Int}{i:Nat} (hb:w.params.followText "set-order"=true):Md w h a es ep t (.int z 0) ((Su (w.params.setOrder a ep) es).toList.map (·.2)) i
 | B {T:Addr}{pl:List Nat}{i:Nat} (hT:h.IsTuple T (pl.map fun (p:Nat)=>RO p 0).toArray) (hp:∀ p∈pl,p < es.size):Md w h a es ep t (.ref T) (pl.filterMap fun p=>es[p]?.map (·.2)) i
 | C {i:Nat} (hb:w.params.followText "set-order"=false) (hd:(!t.plain&&decide (es.size > 1))=false) (ht:Tb false t):Md w h a es ep t (.int (slotAt t.place i) 0) (es.toList.map (·.2)) i
structure NX (w:PK) (h:Heap) (it a:Addr) (ord:List O3) (i:Nat):Prop where
 ex:∃ o es ep t first,h.get? a=some o/\o.data=.set es ep t/\t.fits es.size=true/\h.get? it=some (itO first i es.size ep a)/\Md w h a es ep t first ord i
theorem Md.at {w:PK}{h h':Heap}{a:Addr}{es:Array (Int×O3)}{ep:Nat}{t:SetTable}{first:O3}{ord:List O3}{i:Nat} (m:Md w h a es ep t first ord i) (k:∀ b o,(∃ xs n,o.data=.seq xs n)->h.get? b=some o->h'.get? b=some o):Md w h' a es ep t first ord i:=by
 cases m with
 | A hb=>exact .A hb
 | B hT hp =>
  obtain ⟨o,e,c,n,d⟩:=hT
  exact .B ⟨o,k _ o ⟨_,n,d⟩ e,c,n,d⟩ hp
 | C hb hd ht=>exact .C hb hd ht
theorem bH {α β:Type} (f:α->Option β):∀ (l:List α),(∀ x∈l,(f x).isSome=true)->∀ i:Nat,(l.filterMap f)[i]?=(l[i]?).bind f
 | [],_,i=>by simp
 | x :: l,h,i=>by
  obtain ⟨y,hy⟩:=Option.isSome_iff_exists.mp (h x Pf)
  rw[PF,hy]
  cases i with
  | zero=>simp[hy]
  | succ i=>simpa using bH f l (fun z hz=>h z (Pb _ hz)) i
section
variable {prog:Pi}{w:PK}{A:Qi}{E:O3->O4->Prop}{s:O4}
theorem pZ {t:SetTable}{n i:Nat} (h:Ri t.place) (hn:t.place.size=n) (hi:i < n):SetTable.below t.place (slotAt t.place i)=i/\∃ j,t.place[i]?=some j/\slotAt t.place (i+1)=j+1:=by
 obtain ⟨b1,b2,b3⟩:=iK h (slotAt t.place i)
 have hp:t.place[i]?=some t.place[i]:=PU (by omega)
 refine ⟨?_,t.place[i],hp,by show (match t.place[i]? with | some j=>j+1 | none=>0)=_;rw[hp]⟩
 have lo:∀ k v,k < i->t.place[k]?=some v->v < slotAt t.place i:=fun k v hk ev=>by
  cases i with
  | zero=>omega
  | succ i =>
   have hq:t.place[i]?=some t.place[i]:=PU (by omega)
   have e:slotAt t.place (i+1)=t.place[i]+1:=by show (match t.place[i]? with | some j=>j+1 | none=>0)=_;rw[hq]
   rw[e]
   rcases Pq k i with z | z
   ·have:=h k i v _ z ev hq;omega
   ·have:k=i:=by omega
    subst this
    rw[hq] at ev;cases ev;omega
 have hi2:slotAt t.place i<=t.place[i]:=by
  cases i with
  | zero=>exact P0 _
  | succ i =>
   have hq:t.place[i]?=some t.place[i]:=PU (by omega)
   have e:slotAt t.place (i+1)=t.place[i]+1:=by show (match t.place[i]? with | some j=>j+1 | none=>0)=_;rw[hq]
   rw[e]
   have:=h i (i+1) _ _ (Q2 _) hq hp
   omega
 rcases Nat.lt_trichotomy (SetTable.below t.place (slotAt t.place i)) i with z | z | z
 ·have hq:t.place[SetTable.below t.place (slotAt t.place i)]?=some t.place[SetTable.below t.place (slotAt t.place i)]:=PU (by omega)
  have h1:=lo _ _ z hq
  have h2:=b2 _ _ (O8 _) hq
  omega
 ·exact z
 ·have:=b1 i _ z hp
  omega
theorem yu {t:SetTable}{n:Nat} (h:Ri t.place) (hn:t.place.size=n):n<=SetTable.below t.place (slotAt t.place n):=by
 obtain ⟨b1,b2,b3⟩:=iK h (slotAt t.place n)
 cases n with
 | zero=>exact P0 _
 | succ n =>
  have hq:t.place[n]?=some t.place[n]:=PU (by omega)
  have e:slotAt t.place (n+1)=t.place[n]+1:=by show (match t.place[n]? with | some j=>j+1 | none=>0)=_;rw[hq]
  rw[e] at b1 b2 ⊢
  rcases Pq n (SetTable.below t.place (t.place[n]+1)) with z | z
  ·exact z
  ·have:=b2 n _ z hq
   omega
theorem yv {h:Heap}{it:Addr}{first f':O3}{i n ep:Nat}{a:Addr} (e:h.get? it=some (itO first i n ep a)):((h.update it (Qu fun x=>x.setIfInBounds 0 f')).update it (Qu fun x=>x.setIfInBounds 1 (.int ((i:Int)+1) 0))).get? it=some (itO f' (i+1) n ep a):=by
 have e1:=PY (Qu fun x=>x.setIfInBounds 0 f') e rfl
 have e2:=PY (Qu fun x=>x.setIfInBounds 1 (.int ((i:Int)+1) 0)) e1 rfl
 rw[e2]
 rfl
theorem BY {h:Heap}{it:Addr}{first:O3}{i n ep:Nat}{a:Addr} (e:h.get? it=some (itO first i n ep a)):(h.update it (Qu fun x=>x.setIfInBounds 1 (.int ((i:Int)+1) 0))).get? it=some (itO first (i+1) n ep a):=by
 have e2:=PY (Qu fun x=>x.setIfInBounds 1 (.int ((i:Int)+1) 0)) e rfl
 rw[e2]
 rfl
theorem yw {a:Addr}{o:Obj}{es:Array (Int×O3)}{ep:Nat}{t:SetTable}{sl g:Nat}{Q:Option (O3×Nat)->O4->Prop} (ho:s.heap.get? a=some o) (hd:o.data=.set es ep t) (hf:t.fits es.size=true) (hb:w.params.followText "set-order"=true)
 (h:Q ((Su (w.params.setOrder a ep) es)[g]?.map fun e=>(e.2,sl)) s):wpAny (Pw prog w) A (setNext a sl g ep) Q E s:=by
 unfold setNext
 refine wpAny_bind (QZ ho hd hf ?_)
 dsimp only
 refine wpAny_bind (jc ?_)
 rw[if_pos hb,if_neg (by simp)]
 refine wpAny_bind ?_
 unfold setWalk
 refine wpAny_bind (QZ ho hd hf ?_)
 dsimp only
 refine wpAny_bind (jc ?_)
 rw[if_pos hb]
 refine wpAny_bind (wpAny_askSetting (wpAny_pure (wpAny_pure ?_)))
 exact h
theorem yx {a:Addr}{o:Obj}{es:Array (Int×O3)}{ep:Nat}{t:SetTable}{sl g:Nat}{Q:Option (O3×Nat)->O4->Prop} (ho:s.heap.get? a=some o) (hd:o.data=.set es ep t) (hf:t.fits es.size=true) (hb:w.params.followText "set-order"=false)
 (hdr:(!t.plain&&decide (es.size > 1))=false) (ht:Tb false t) (h:Q (match es[SetTable.below t.place sl]?,t.place[SetTable.below t.place sl]? with | some (_,x),some j=>some (x,j+1) | _,_=>none) s):wpAny (Pw prog w) A (setNext a sl g ep) Q E s:=by
 unfold setNext
 refine wpAny_bind (QZ ho hd hf ?_)
 dsimp only
 refine wpAny_bind (jc ?_)
 rw[hb,if_neg PX]
 show wpAny _ _ (if (!t.plain&&decide (es.size > 1))=true then _ else _) _ _ s
 rw[hdr,if_neg PX]
 refine wpAny_bind ?_
 show wpAny _ _ (if (!t.led&&!es.isEmpty)=true then unsupported "set:maker-not-led" else pure ()) _ _ s
 rw[ht.led]
 show wpAny _ _ (if (!(!false)&&!es.isEmpty)=true then unsupported "set:maker-not-led" else pure ()) _ _ s
 rw[if_neg (by simp)]
 exact wpAny_pure (wpAny_pure h)
theorem FQ {a:Addr}{o:Obj}{es:Array (Int×O3)}{ep:Nat}{t:SetTable}{p:Nat}{e:Int×O3}{Q:O3->O4->Prop} (ho:s.heap.get? a=some o) (hd:o.data=.set es ep t) (hf:t.fits es.size=true) (he:es[p]?=some e) (h:Q e.2 s):wpAny (Pw prog w) A (setNextDrawn a p ep) Q E s:=by
 unfold setNextDrawn
 refine wpAny_bind (QZ ho hd hf ?_)
 dsimp only
 rw[if_neg (by simp),he]
 exact wpAny_pure h
theorem BZ {it a:Addr}{ord:List O3}{i:Nat}{x:O3}{Q:Va->O4->Prop} (N:NX w s.heap it a ord i) (hne:it≠a) (hx:ord[i]?=some x) (hQ:∀ h',NX w h' it a ord (i+1)->Qg it s.heap h'->Q (.done (.ret x)) { s with heap:=h' }) :
 wpAny (Pw prog w) A (Builtin.«set_iterator.__next__» { pos:=[.ref it] }) Q E s:=by
 obtain ⟨o,es,ep,t,first,ho,hd,hf,hi,m⟩:=N.ex
 have keep:∀ {h':Heap},Qg it s.heap h'->∀ b o,(∃ xs n,o.data=Data.seq xs n)->s.heap.get? b=some o->h'.get? b=some o:=fun {h'} sb b ob hs e=>(sb.2 b (fun z=>by
  subst z
  rw[hi] at e;cases e
  obtain ⟨xs,n,hs⟩:=hs
  cases hs)).trans e
 unfold Builtin.«set_iterator.__next__»
 refine wpAny_bind (wpAny_pure ?_)
 refine wpAny_bind (wpAny_fieldsOf hi rfl ?_)
 dsimp only
 refine wpAny_bind (T3 ho hd hf ?_)
 rw[if_neg (by simp)]
 cases m with
 | @A z _ hb =>
  have hg:(Su (w.params.setOrder a ep) es)[i]?.map (fun e=>(e.2,z.toNat))=some (x,z.toNat):=by
   rw[Px] at hx
   obtain ⟨e,e1,e2⟩:=Option.map_eq_some_iff.mp hx
   have e1':(Su (w.params.setOrder a ep) es)[i]?=some e:=by simpa using e1
   rw[e1',← e2];rfl
  refine wpAny_bind (yw ho hd hf hb ?_)
  show wpAny _ _ (match (Su (w.params.setOrder a ep) es)[i]?.map (fun e=>(e.2,z.toNat)) with | some (x,next)=>_ | none=>_) _ _ s
  rw[hg]
  refine wpAny_bind (Ru hi rfl (by simp) ?_)
  refine wpAny_bind (Ru (PY _ hi rfl) rfl (by simp) ?_)
  have sb:Qg it s.heap ((s.heap.update it (Qu fun y=>y.setIfInBounds 0 (.int (z.toNat:Int) 0))).update it (Qu fun y=>y.setIfInBounds 1 (.int ((i:Int)+1) 0))):=(P6 ..).trans (P6 ..)
  exact wpAny_pure (hQ _ ⟨⟨o,es,ep,t,_,(sb.2 a (Qd hne)).trans ho,hd,hf,yv hi,.A hb⟩⟩ sb)
 | @B T pl _ hT hp =>
  have hs:∀ p∈pl,((fun p:Nat=>es[p]?.map (·.2)) p).isSome=true:=fun p hm=>by
   have:=hp p hm
   simp[this]
  rw[bH _ pl hs] at hx
  obtain ⟨p,e1,e2⟩:=Option.bind_eq_some_iff.mp hx
  obtain ⟨e,e3,e4⟩:=Option.map_eq_some_iff.mp e2
  subst e4
  obtain ⟨oT,g1,g2,nT,g3⟩:=id hT
  show wpAny _ _ (seqItems? (.ref T) >>= _) _ _ s
  refine wpAny_bind (wpAny_seqItems g1 g3 ?_)
  have e5:((pl.map fun (p:Nat)=>RO p 0).toArray)[i]?=some (.int p 0):=by simp[e1]
  dsimp only
  rw[QW,e5]
  dsimp only
  refine wpAny_bind (FQ ho hd hf (by rw[QW];exact e3) ?_)
  refine wpAny_bind (Ru hi rfl (by simp) ?_)
  have sb:Qg it s.heap (s.heap.update it (Qu fun y=>y.setIfInBounds 1 (.int ((i:Int)+1) 0))):=P6 ..
  refine wpAny_pure (hQ _ ⟨⟨o,es,ep,t,_,(sb.2 a (Qd hne)).trans ho,hd,hf,BY hi,?_⟩⟩ sb)
  exact (Md.B (i:=i+1) hT hp).at (keep sb)
 | C hb hdr ht =>
  have hn:t.place.size=es.size:=by
   unfold SetTable.fits at hf
   simp only[O5,beq_iff_eq] at hf
   exact hf.1
  rw[Px] at hx
  obtain ⟨e,e1,e2⟩:=Option.map_eq_some_iff.mp hx
  have e1':es[i]?=some e:=by simpa using e1
  have hlt:i < es.size:=by
   rcases Pq i es.size with q | q
   ·exact q
   ·rw[Qm q] at e1';cases e1'
  obtain ⟨p1,j,p2,p3⟩:=pZ ht.ri hn hlt
  subst e2
  refine wpAny_bind (yx ho hd hf hb hdr ht ?_)
  rw[QW,p1,e1',p2]
  refine wpAny_bind (Ru hi rfl (by simp) ?_)
  refine wpAny_bind (Ru (PY _ hi rfl) rfl (by simp) ?_)
  have sb:Qg it s.heap ((s.heap.update it (Qu fun y=>y.setIfInBounds 0 (.int ((j+1:Nat):Int) 0))).update it (Qu fun y=>y.setIfInBounds 1 (.int ((i:Int)+1) 0))):=(P6 ..).trans (P6 ..)
  refine wpAny_pure (hQ _ ⟨⟨o,es,ep,t,_,(sb.2 a (Qd hne)).trans ho,hd,hf,yv hi,?_⟩⟩ sb)
  rw[← p3]
  exact .C hb hdr ht
theorem nR {it:Addr}{f:Nat}{first:O3}{i n ep:Nat}{a:Addr}{Q:Va->O4->Prop} (hh:A.handled=none) {h0:Heap} (sb0:Qg it h0 s.heap) (hi:∃ o vs,s.heap.get? it=some o/\o.data=.fields vs/\vs.size=5) (hf:f < 5)
 (hE:∀ h' e,Ur it h0 h'->(∃ o,h'.get? e=some o/\o.cls=.type "StopIteration")->E (.ref e) { s with heap:=h' }) :
 wpAny (Pw prog w) A (setField (.ref it) f .none >>= fun _=>newExc (.type "StopIteration") [] >>= fun e=>(raiseNew e:Sem Va)) Q E s:=by
 obtain ⟨o,vs,ho,hd,hv⟩:=hi
 refine wpAny_bind (Ru ho hd (by omega) ?_)
 refine wpAny_bind ?_
 simp only[newExc,newTuple]
 refine wpAny_bind (PJ ?_ (by size_fits))
 refine wpAny_bind (m:=firstArgMember _ _) (wpAny_of_eq (a:=RG) (by first | rfl | (simp only[firstArgMember];rfl)) ?_)
 refine PJ ?_ (by size_fits)
 simp only[raiseNew]
 refine wpAny_bind (wpAny_handled ?_)
 rw[hh]
 refine wpAny_throw ?_
 exact hE _ _ (((sb0.trans (P6 ..)).extBut.push _).push _) ⟨_,Pc _ rfl,rfl⟩
theorem FU {it a:Addr}{ord:List O3}{i:Nat}{Q:Va->O4->Prop} (hh:A.handled=none) (N:NX w s.heap it a ord i) (hx:i=ord.length) (hn:∀ o es ep t,s.heap.get? a=some o->o.data=.set es ep t->ord.length=es.size)
 (hE:∀ h' e,Ur it s.heap h'->(∃ o,h'.get? e=some o/\o.cls=.type "StopIteration")->E (.ref e) { s with heap:=h' }) :
 wpAny (Pw prog w) A (Builtin.«set_iterator.__next__» { pos:=[.ref it] }) Q E s:=by
 obtain ⟨o,es,ep,t,first,ho,hd,hf,hi,m⟩:=N.ex
 have hn':=hn o es ep t ho hd
 unfold Builtin.«set_iterator.__next__»
 refine wpAny_bind (wpAny_pure ?_)
 refine wpAny_bind (wpAny_fieldsOf hi rfl ?_)
 dsimp only
 refine wpAny_bind (T3 ho hd hf ?_)
 rw[if_neg (by simp)]
 cases m with
 | @A z _ hb =>
  have hg:(Su (w.params.setOrder a ep) es)[i]?.map (fun e=>(e.2,z.toNat))=none:=by
   rw[hx,Pa,Qs,Qm (O8 _)];rfl
  refine wpAny_bind (yw ho hd hf hb ?_)
  show wpAny _ _ (match (Su (w.params.setOrder a ep) es)[i]?.map (fun e=>(e.2,z.toNat)) with | some (x,next)=>_ | none=>_) _ _ s
  rw[hg]
  exact nR (first:=.none) (i:=0) (n:=0) (ep:=0) (a:=a) hh (SX _ _) ⟨_,_,hi,rfl,rfl⟩ (by decide) hE
 | @B T pl _ hT hp =>
  have hs:∀ p∈pl,((fun p:Nat=>es[p]?.map (·.2)) p).isSome=true:=fun p hm=>by
   have:=hp p hm
   simp[this]
  have hl:i=pl.length:=by
   have h1:=bH _ pl hs pl.length
   have h2:=US (fun p:Nat=>es[p]?.map (·.2)) pl
   rcases Pq i pl.length with q | q
   ·have h3:=bH _ pl hs i
    rw[hx,Pj (O8 _),O9 (by omega)] at h3
    have:=hs pl[(List.filterMap (fun p:Nat=>es[p]?.map (·.2)) pl).length] (SI _)
    rw[QJ] at h3
    dsimp only at this
    rw[← h3] at this
    cases this
   ·omega
  obtain ⟨oT,g1,g2,nT,g3⟩:=id hT
  show wpAny _ _ (seqItems? (.ref T) >>= _) _ _ s
  refine wpAny_bind (wpAny_seqItems g1 g3 ?_)
  have e5:((pl.map fun (p:Nat)=>RO p 0).toArray)[i]?=none:=by simp[hl]
  dsimp only
  rw[QW,e5]
  dsimp only
  refine wpAny_bind (Ru hi rfl (by simp) ?_)
  exact nR (s:={ s with heap:=s.heap.update it (Qu fun y=>y.setIfInBounds 0 (Q6 0)) }) (first:=.none) (i:=0) (n:=0) (ep:=0) (a:=a) hh (P6 ..) ⟨_,_,PY _ hi rfl,rfl,rfl⟩ (by decide) hE
 | C hb hdr ht =>
  have hns:t.place.size=es.size:=by
   unfold SetTable.fits at hf
   simp only[O5,beq_iff_eq] at hf
   exact hf.1
  have hie:i=es.size:=by rw[hx,Pa,Qs]
  have hb2:=yu ht.ri hns
  refine wpAny_bind (yx ho hd hf hb hdr ht ?_)
  have e1:es[SetTable.below t.place (slotAt t.place i)]?=none:=Qm (by rw[hie];exact hb2)
  rw[QW,e1]
  exact nR (first:=.none) (i:=0) (n:=0) (ep:=0) (a:=a) hh (SX _ _) ⟨_,_,hi,rfl,rfl⟩ (by decide) hE
theorem B0 {it a:Addr}{ord:List O3}{i:Nat}{x:O3}{Q:Option O3->O4->Prop} (N:NX w s.heap it a ord i) (hne:it≠a) (hx:ord[i]?=some x) (hQ:∀ h',NX w h' it a ord (i+1)->Qg it s.heap h'->Q (some x) { s with heap:=h' }) :
 wpAny (Pw prog w) A (Ud (.ref it)) Q E s:=by
 have hT:s.TypeIs (.ref it) "set_iterator":=by
  obtain ⟨o,es,ep,t,first,ho,hd,hf,hi,m⟩:=N.ex
  exact ⟨_,hi,rfl⟩
 unfold Ud
 exact wpAny_bind (wpAny_attempt (Q4 (name:=Pp "__next__") hT jd (Rv jd hT pY (BZ N hne hx fun h' k1 k2=>⟨x,rfl,wpAny_pure (hQ h' k1 k2)⟩) (tL _))))
theorem FW {it a:Addr}{ord:List O3}{i:Nat}{Q:Option O3->O4->Prop} (hh:A.handled=none) (N:NX w s.heap it a ord i) (hx:i=ord.length) (hn:∀ o es ep t,s.heap.get? a=some o->o.data=.set es ep t->ord.length=es.size) (hQ:∀ h',Ur it s.heap h'->Q none { s with heap:=h' }) :
 wpAny (Pw prog w) A (Ud (.ref it)) Q E s:=by
 have hT:s.TypeIs (.ref it) "set_iterator":=by
  obtain ⟨o,es,ep,t,first,ho,hd,hf,hi,m⟩:=N.ex
  exact ⟨_,hi,rfl⟩
 unfold Ud
 refine wpAny_bind (wpAny_attempt (Q4 (name:=Pp "__next__") hT jd (Rv jd hT pY (FU (A:=A.in1) hh N hx hn fun h' e k1 k2=>?_) (tL _))))
 obtain ⟨o,ho,hc⟩:=k2
 refine wpAny_bind (Sj (T:="StopIteration") (b:=true) ⟨o,ho,hc⟩ isSubtype_stop ?_)
 exact wpAny_pure (hQ _ k1)
theorem iL {α:Type}:∀ {l:List α}{i:Nat} (h:i < l.length),(l[i] :: l.eraseIdx i).Perm l
 | x :: l,0,_=>.refl _
 | x :: l,i+1,h=>by
  have hl:i < l.length:=by simpa using h
  have:=iL hl
  show (l[i] :: x :: l.eraseIdx i).Perm (x :: l)
  exact (List.Perm.swap _ _ _).trans (this.cons x)
theorem wp_choose {src:Source}{n:Nat}{Q:Nat->O4->Prop} (hn:n≠0) (h:∀ i d,i < n->Q i { s with drawn:=d }):wpAny (Pw prog w) A (choose src n) Q E s:=by
 intro Γ p _
 unfold choose
 rw[Sem.wp_choose]
 exact ⟨hn,h _ _ (Td _ (by omega))⟩
theorem vW {α:Type}:∀ (n:Nat) (xs:List α) (s:O4) {Q:List α->O4->Prop},xs.length=n->(∀ ys d,ys.Perm xs->Q ys { s with drawn:=d })->wpAny (Pw prog w) A (drawOrder n xs) Q E s:=by
 intro n
 induction n with
 | zero =>
  intro xs s Q hl h
  have:=List.length_eq_zero_iff.mp hl
  subst this
  exact wpAny_pure (h [] s.drawn .nil)
 | succ n ih =>
  intro xs s Q hl h
  cases xs with
  | nil=>cases hl
  | cons x r =>
   show wpAny _ _ (choose Source.order (x :: r).length >>= fun i=>match (x :: r)[i]? with
    | some y=>drawOrder n ((x :: r).eraseIdx i) >>= fun l=>pure (y :: l)
    | none=>unsupported "internal:drawOrder") _ _ s
   refine wpAny_bind (wp_choose (by simp) fun i d hi=>?_)
   rw[O9 hi]
   dsimp only
   refine wpAny_bind (ih _ _ (by rw[UE hi];omega) fun ys d' hp=>?_)
   refine wpAny_pure (h _ d' ?_)
   exact (hp.cons _).trans (iL hi)
theorem B3 {α:Type} (next:Nat->Nat):∀ (fuel k:Nat) (left:List α) (out:Array α),left.length<=fuel->(R8 next fuel k left out).toList.Perm (out.toList++left):=by
 intro fuel
 induction fuel with
 | zero =>
  intro k left out h
  have:=List.length_eq_zero_iff.mp (Nat.le_zero.mp h)
  subst this
  show out.toList.Perm _
  rw[P4]
 | succ fuel ih =>
  intro k left out h
  cases left with
  | nil =>
   have e:R8 next (fuel+1) k ([]:List α) out=out:=by
    show (match ([]:List α)[next k % 0]? with | some x=>R8 next fuel (k+1) (([]:List α).eraseIdx (next k % 0)) (out.push x) | none=>out)=out
    rfl
   rw[e,P4]
  | cons x r =>
   have hi:next k % (x :: r).length < (x :: r).length:=Td _ (by simp)
   have e:R8 next (fuel+1) k (x :: r) out=R8 next fuel (k+1) ((x :: r).eraseIdx (next k % (x :: r).length)) (out.push (x :: r)[next k % (x :: r).length]):=by
    show (match (x :: r)[next k % (x :: r).length]? with | some y=>R8 next fuel (k+1) ((x :: r).eraseIdx (next k % (x :: r).length)) (out.push y) | none=>out)=_
    rw[O9 hi]
   rw[e]
   refine (ih _ _ _ (by rw[UE hi];simp at h ⊢;omega)).trans ?_
   rw[Array.toList_push,Qt]
   exact (iL hi).append_left _
theorem vX {α:Type} (next:Nat->Nat) (xs:Array α):(Su next xs).toList.Perm xs.toList:=by
 have:=B3 next xs.size 0 xs.toList #[] (by simp)
 simpa [Su] using this
theorem yy {a:Addr}{o:Obj}{es:Array (Int×O3)}{ep:Nat}{t:SetTable}{Q:O3->O4->Prop} (ho:s.heap.get? a=some o) (hx:o.ExactSet) (hd:o.data=.set es ep t) (hf:t.fits es.size=true) (hb:es.size < Se) (ht:Tb (w.params.followText "set-order") t)
 (hQ:∀ h' d it ord,NX w h' it a ord 0->(∀ b o,s.heap.get? b=some o->h'.get? b=some o)->s.heap.objs.size<=it->s.heap.objs.size<=h'.objs.size->ord.Perm (es.toList.map (·.2))->Q (.ref it) { s with heap:=h',drawn:=d }) :
 wpAny (Pw prog w) A (pyIter (.ref a)) Q E s:=by
 have hT:s.TypeIs (.ref a) "set":=⟨o,ho,hx.1⟩
 refine wpAny_pyIter_slot hT UQ (Rv UQ hT rQ ?_ (PySem.F.args_set_iter_1 _))
 unfold Builtin.«frozenset.__iter__» Builtin.Frozenset.slot0
 refine wpAny_bind (wpAny_bind (wpAny_pure (wpAny_pure ?_)))
 refine wpAny_bind ?_
 unfold Builtin.Frozenset.sizeOf
 refine wpAny_bind (T3 ho hd hf (wpAny_pure ?_))
 refine wpAny_bind ?_
 unfold setDrawn
 refine wpAny_bind (QZ ho hd hf ?_)
 dsimp only
 refine wpAny_bind (jc (wpAny_pure ?_))
 have nl:typeLookup (.type "set_iterator") (Pp "__next__")=pure (some (.builtin "set_iterator.__next__")):=jd.lookup
 show wpAny _ _ (if (!w.params.followText "set-order"&&(!t.plain&&decide (es.size > 1)))=true then _ else _) _ _ s
 have al:a < s.heap.objs.size:=O7 ho
 by_cases c:(!w.params.followText "set-order"&&(!t.plain&&decide (es.size > 1)))=true
 ·rw[if_pos c]
  refine wpAny_bind (vW es.size (Pr es.size) s (by simp) fun ys d hp=>?_)
  refine wpAny_bind ?_
  simp only[newTuple]
  have hsz:ys.length=es.size:=by rw[hp.length_eq,QD]
  refine PJ ?_ (by
   have:=RY hb
   show (List.map (fun (i:Nat)=>Q6 i) ys).toArray.size<=sizeLine
   rw[O6,Pa];omega)
  refine wpAny_bind (wpAny_setEpoch_of (O2 _ ho) hd hf ?_)
  refine wpAny_bind ?_
  unfold newFields
  refine PJ ?_ (by size_fits)
  refine wpAny_pure ⟨_,rfl,"set_iterator",_,⟨_,Pc _ rfl,rfl⟩,nl,?_⟩
  have up:∀ b o,s.heap.get? b=some o->((s.heap.push { cls:=.type "tuple",data:=.seq (ys.map fun (i:Nat)=>Q6 i).toArray }).push { cls:=.type "set_iterator",data:=.fields #[.ref s.heap.objs.size,Q6 0,.ref a,Q6 es.size,Q6 ep] }).get? b=some o:=fun b o e=>O2 _ (O2 _ e)
  have lt:∀ p∈ys,p < es.size:=fun p hm=>List.mem_range.mp (hp.mem_iff.mp hm)
  refine hQ _ d _ _ ⟨⟨o,es,ep,t,_,up _ _ ho,hd,hf,Pc _ rfl,.B (pl:=ys) ⟨_,O2 _ (Pc _ rfl),rfl,_,rfl⟩ lt⟩⟩ up (by rw[QC];exact QS _) (by rw[QC,QC];exact Nat.le_succ_of_le (QS _)) ?_
  have h1:=hp.filterMap fun p=>es[p]?.map (·.2)
  refine h1.trans ?_
  have h2:(Pr es.size).filterMap (fun p=>es[p]?.map (·.2))=es.toList.map (·.2):=by
   refine List.ext_getElem? fun i=>?_
   rw[bH _ _ (fun p hm=>by have:=List.mem_range.mp hm;simp[this])]
   rcases Pq i es.size with q | q
   ·rw[Si q];simp
   ·rw[Pj (by simpa using q),Pj (by simpa using q)];rfl
  rw[h2]
 ·rw[if_neg c]
  refine wpAny_bind (wpAny_pure ?_)
  refine wpAny_bind (wpAny_setEpoch_of ho hd hf ?_)
  refine wpAny_bind ?_
  unfold newFields
  refine PJ ?_ (by size_fits)
  refine wpAny_pure ⟨_,rfl,"set_iterator",_,⟨_,Pc _ rfl,rfl⟩,nl,?_⟩
  have up:∀ b o,s.heap.get? b=some o->(s.heap.push { cls:=.type "set_iterator",data:=.fields #[Q6 0,Q6 0,.ref a,Q6 es.size,Q6 ep] }).get? b=some o:=fun b o e=>O2 _ e
  cases hbt:w.params.followText "set-order" with
  | true =>
   refine hQ _ s.drawn _ _ ⟨⟨o,es,ep,t,_,up _ _ ho,hd,hf,Pc _ rfl,.A (z:=0) hbt⟩⟩ up (O8 _) (by rw[QC];exact QS _) ?_
   exact (vX _ es).map _
  | false =>
   rw[hbt] at c ht
   have hdr:(!t.plain&&decide (es.size > 1))=false:=by
    cases z:(!t.plain&&decide (es.size > 1)) with
    | false=>rfl
    | true=>rw[z] at c;exact absurd rfl c
   exact hQ _ s.drawn _ _ ⟨⟨o,es,ep,t,_,up _ _ ho,hd,hf,Pc _ rfl,.C (i:=0) hbt hdr ht⟩⟩ up (O8 _) (by rw[QC];exact QS _) (.refl _)
end
end BX
end
section
namespace BT
open PySem
inductive D where
 | non | bl (b:Bool) | int (i:Int) | str (x:Str) | tup (xs:List D) | lst (xs:List D)
inductive FK where
 | f (x:Str) | m (c x:Str) | l (i:Nat)
 deriving DecidableEq
instance:Coe String FK:=⟨fun s=>.f (Pp s)⟩
inductive Cp where
 | p (d:D) | o (n:Nat)
inductive W where
 | p (d:D) | r (n:Nat) | k (kvs:List (Str×D)) | o (n:Nat) | c (f:FK) (cs:List Cp)
noncomputable def Cp.w:Cp->W
 | .p d=>.p d
 | .o n=>.o n
@[simp] theorem Cp.w_p (d:D):Cp.w (.p d)=.p d:=rfl
@[simp] theorem Cp.w_o (n:Nat):Cp.w (.o n)=.o n:=rfl
noncomputable def p5:W->Option Cp
 | .p d=>some (.p d)
 | .o n=>some (.o n)
 | .r _=>none
 | .k _=>none
 | .c _ _=>none
@[simp] theorem LD (d:D):p5 (.p d)=some (.p d):=rfl
@[simp] theorem LG (n:Nat):p5 (.o n)=some (.o n):=rfl
noncomputable abbrev Ky:=Int ⊕ Str
inductive Cl where
 | l (xs:List D) | o (c:Str) (fs:List (Str×W)) | d (kvs:List (Ky×D))
noncomputable abbrev HH:=List Cl
noncomputable abbrev Sl:=List (Option W)
set_option genInjectivity false in
inductive Bin where
 | add | sub | mul | mod | fdiv | pow
set_option genInjectivity false in
inductive Cm where
 | eq | ne | lt | le | gt | ge | isN | notN | mem | nmem
set_option genInjectivity false in
inductive Sr where
 | seq | rng1 | rng2 | rev | enu | zip2
inductive Bi where
 | len | abs | int | str | bool | list | tuple | all | any | isInt | isBool | isStr | isTuple | isList | min2 | max2
 | sum | sorted | max1 | lzip | nset | sset
set_option genInjectivity false in
inductive Me where
 | append | pop | extend | tindex | sindex | dget
set_option genInjectivity false in
mutual
inductive E where
 | var (i:Nat) (x:Str)
 | cst (d:D)
 | glo (x:Str)
 | bin (o:Bin) (a b:E)
 | neg (a:E)
 | not (a:E)
 | and (a b:E)
 | or (a b:E)
 | cmp (o:Cm) (a b:E)
 | chain (o o':Cm) (a b c:E)
 | ite (c a b:E)
 | tup (as:Es)
 | lst (mu:Bool) (as:Es)
 | idx (a i:E)
 | slc (a:E) (lo hi:Es)
 | rvs (a:E)
 | stp (mu:Bool) (k:Int) (a:E)
 | call (f:Str) (as:Es)
 | fld (a:E) (f:Str)
 | meth (o:E) (m:Str) (as:Es)
 | make (c:Str) (as:Es)
 | bi (b:Bi) (mu:Bool) (as:Es)
 | lsr (mu:Bool) (sr:Sr) (as:Es)
 | me (m:Me) (o:E) (as:Es)
 | comp (mu:Bool) (sr:Sr) (sa:Es) (tg:List Str) (fv:List (Nat×Str)) (cond:Es) (elt:E)
 | callv (i:Nat) (x:Str) (as:Es)
 | methL (o:E) (m:Str) (as:Es) (L:Nat) (fv:List (Nat×Str))
 | dnew
 | dgt (o k d:E)
 | dsi (o:E)
 | dli (o:E)
inductive Es where
 | nil
 | cons (a:E) (as:Es)
end
set_option genInjectivity false in
inductive S where
 | nil
 | seq (a b:S)
 | set (i:Nat) (x:Str) (e:E)
 | unp (xs:List (Nat×Str)) (e:E)
 | aug (i:Nat) (x:Str) (o:Bin) (e:E)
 | put (i:Nat) (x:Str) (k e:E)
 | putd (i:Nat) (x:Str) (k e:E)
 | setf (o:E) (f:Str) (e:E)
 | augf (o:E) (f:Str) (op:Bin) (e:E)
 | ex (e:E)
 | ret (e:E)
 | ife (c:E) (a b:S)
 | whl (c:E) (b:S)
 | for (tg:List (Nat×Str)) (sr:Sr) (sa:Es) (b:S)
 | brk | cnt
 | bad
set_option genInjectivity false in
structure Fn where
 ps:List Str
 ns:List Str
 body:S
noncomputable def bnd {α β:Type} (x:Option (α×HH)) (k:α->HH->Option β):Option β :=
 match x with | some (a,h)=>k a h | none=>none
@[simp] theorem aQ {α β:Type} (a:α) (h:HH) (k:α->HH->Option β):bnd (some (a,h)) k=k a h:=rfl
@[simp] theorem Ju {α β:Type} (k:α->HH->Option β):bnd none k=none:=rfl
@[simp] noncomputable def lim:Nat:=100000
mutual
@[simp] noncomputable def eqv:D->D->Bool
 | .non,.non=>true
 | .bl a,.bl b=>a==b
 | .bl a,.int j=>(if a then (1:Int) else 0)==j
 | .int i,.bl b=>i==(if b then (1:Int) else 0)
 | .int i,.int j=>i==j
 | .str x,.str y=>x==y
 | .tup xs,.tup ys=>mC xs ys
 | .lst xs,.lst ys=>mC xs ys
 | _,_=>false
@[simp] noncomputable def mC:List D->List D->Bool
 | [],[]=>true
 | x :: xs,y :: ys=>eqv x y&&mC xs ys
 | _,_=>false
end
noncomputable def nU:Cl->Option (List D)
 | .l xs=>some xs
 | .o _ _=>none
 | .d _=>none
noncomputable def p6:Cl->Option (Str×List (Str×W))
 | .l _=>none
 | .o c fs=>some (c,fs)
 | .d _=>none
noncomputable def vY:Cl->Option (List (Ky×D))
 | .l _=>none
 | .o _ _=>none
 | .d kvs=>some kvs
@[simp] theorem MY (kvs:List (Ky×D)):nU (.d kvs)=none:=rfl
@[simp] theorem MZ (kvs:List (Ky×D)):p6 (.d kvs)=none:=rfl
@[simp] theorem M0 (kvs:List (Ky×D)):vY (.d kvs)=some kvs:=rfl
@[simp] theorem M1 (xs:List D):vY (.l xs)=none:=rfl
@[simp] theorem M3 (c:Str) (fs:List (Str×W)):vY (.o c fs)=none:=rfl
@[simp] theorem M4 (xs:List D):nU (.l xs)=some xs:=rfl
@[simp] theorem M5 (c:Str) (fs:List (Str×W)):nU (.o c fs)=none:=rfl
@[simp] theorem M6 (xs:List D):p6 (.l xs)=none:=rfl
@[simp] theorem FY (c:Str) (fs:List (Str×W)):p6 (.o c fs)=some (c,fs):=rfl
noncomputable def lat (h:HH) (n:Nat):Option (List D):=(h[n]?).bind nU
noncomputable def oat (h:HH) (n:Nat):Option (Str×List (Str×W)):=(h[n]?).bind p6
noncomputable def dat (h:HH) (n:Nat):Option (List (Ky×D)):=(h[n]?).bind vY
noncomputable def mD:D->Option Ky
 | .non=>none
 | .bl _=>none
 | .int i=>some (.inl i)
 | .str x=>some (.inr x)
 | .tup _=>none
 | .lst _=>none
@[simp] theorem Jv (i:Int):mD (.int i)=some (.inl i):=rfl
@[simp] theorem Jw (x:Str):mD (.str x)=some (.inr x):=rfl
noncomputable def rR:Ky->D
 | .inl i=>.int i
 | .inr x=>.str x
@[simp] theorem M7 (i:Int):rR (.inl i)=.int i:=rfl
@[simp] theorem M8 (x:Str):rR (.inr x)=.str x:=rfl
noncomputable def eZ (kvs:List (Ky×D)) (k:Ky):Option D:=(kvs.find? fun kv=>decide (kv.1=k)).map (·.2)
noncomputable def jV (kvs:List (Ky×D)) (k:Ky) (v:D):List (Ky×D) :=
 if (kvs.any fun kv=>decide (kv.1=k))=true then kvs.map (fun kv=>if kv.1=k then (kv.1,v) else kv) else kvs++[(k,v)]
noncomputable def fu (kvs:List (Ky×D)):List D:=kvs.map fun q=>.tup [rR q.1,q.2]
noncomputable def rd (w:W) (h:HH):Option D:=match w with
 | .p d=>some d
 | .r n=>(lat h n).map D.lst
 | .k _=>none
 | .o _=>none
 | .c _ _=>none
@[simp] theorem OR (d:D) (h:HH):rd (.p d) h=some d:=rfl
noncomputable def big (i:Int):Bool:=decide (i.natAbs < 2 ^ 64)
noncomputable def rep (k:Nat) (xs:List D):List D:=(Pv k xs).flatten
noncomputable def jE:Bin->D->D->Option D
 | .add,.int i,.int j=>some (.int (i+j))
 | .add,.str x,.str y=>if x.length+y.length<=lim then some (.str (x++y)) else none
 | .add,.tup xs,.tup ys=>if xs.length+ys.length<=lim then some (.tup (xs++ys)) else none
 | .add,.lst xs,.lst ys=>if xs.length+ys.length<=lim then some (.lst (xs++ys)) else none
 | .sub,.int i,.int j=>some (.int (i - j))
 | .mul,.int i,.int j=>if big i||big j then some (.int (i*j)) else none
 | .mul,.tup xs,.int k=>if 2<=k&&k<=1000&&!xs.isEmpty&&xs.length*k.toNat<=lim then some (.tup (rep k.toNat xs)) else none
 | .mul,.lst xs,.int k=>if -1000<=k&&k<=1000&&xs.length*k.toNat<=lim then some (.lst (rep k.toNat xs)) else none
 | .mod,.int i,.int j=>if 0 < j then some (.int (i % j)) else none
 | .fdiv,.int i,.int j=>if 0 < j&&j < 1073741824 then some (.int (i / j)) else none
 | .pow,.int i,.int j=>if 0<=j&&j<=100&&big i then some (.int (i ^ j.toNat)) else none
 | _,_,_=>none
noncomputable def kY:Bin->D->D->Option D
 | .add,.int i,.int j=>some (.int (i+j))
 | .sub,.int i,.int j=>some (.int (i - j))
 | .mul,.int i,.int j=>if big i||big j then some (.int (i*j)) else none
 | _,_,_=>none
@[simp] theorem Jx (i j:Int):kY .add (.int i) (.int j)=some (.int (i+j)):=rfl
@[simp] theorem Jy (i j:Int):kY .sub (.int i) (.int j)=some (.int (i - j)):=rfl
@[simp] theorem p7 (i j:Int):kY .mul (.int i) (.int j)=if big i||big j then some (.int (i*j)) else none:=rfl
@[simp] noncomputable def place (n:Nat) (i:Int):Option Nat :=
 if 0<=i then (if i < n then some i.toNat else none) else if -(n:Int)<=i then some (i+n).toNat else none
@[simp] noncomputable def atP {α:Type} (xs:List α) (i:Int):Option α:=(place xs.length i).bind fun j=>xs[j]?
@[simp] noncomputable def cT (k:Str):List (Str×D)->Option D
 | []=>none
 | (x,d) :: r=>if k=x then some d else cT k r
noncomputable def aL:D->D->Option D
 | .tup xs,.int i=>atP xs i
 | .lst xs,.int i=>atP xs i
 | .str x,.int i=>if x.length<=lim then (atP x.cps.toList i).map fun c=>.str ⟨#[c]⟩ else none
 | _,_=>none
@[simp] noncomputable def clip (n d:Nat):Option Int->Nat
 | none=>d
 | some v=>if v < 0 then (v+(n:Int)).toNat else if v<=(n:Int) then v.toNat else n
@[simp] noncomputable def cut (xs:List D) (lo hi:Option Int):List D:=(xs.drop (clip xs.length 0 lo)).take (clip xs.length xs.length hi - clip xs.length 0 lo)
@[simp] noncomputable def nV:List D->Option (Option Int)
 | []=>some none
 | [.int i]=>some (some i)
 | _=>none
noncomputable def rS (x:D) (lo hi:Option Int):Option D:=match x with
 | .tup xs=>some (.tup (cut xs lo hi))
 | .lst xs=>some (.lst (cut xs lo hi))
 | _=>none
noncomputable def dok:Nat->D->Bool
 | _,.non=>true
 | _,.bl _=>true
 | _,.int _=>true
 | _,.str _=>true
 | 0,.tup _=>false
 | 0,.lst _=>false
 | n+1,.tup xs=>xs.all (dok n)
 | n+1,.lst xs=>xs.all (dok n)
@[simp] theorem LH (n:Nat):dok n .non=true:=by cases n<;>rfl
@[simp] theorem M9 (n:Nat) (b:Bool):dok n (.bl b)=true:=by cases n<;>rfl
@[simp] theorem tO (n:Nat) (i:Int):dok n (.int i)=true:=by cases n<;>rfl
@[simp] theorem LJ (n:Nat) (x:Str):dok n (.str x)=true:=by cases n<;>rfl
@[simp] theorem tP (n:Nat) (xs:List D):dok (n+1) (.tup xs)=xs.all (dok n):=rfl
@[simp] theorem tQ (n:Nat) (xs:List D):dok (n+1) (.lst xs)=xs.all (dok n):=rfl
noncomputable def br (x y:D):Bool:=dok 100 x||dok 100 y
@[simp] theorem Jz (x:D) (y:Str):br x (.str y)=true:=by simp[br]
@[simp] theorem JA (x:D) (y:Int):br x (.int y)=true:=by simp[br]
@[simp] theorem Ij (x:D) (y:Str):br (.str y) x=true:=by simp[br]
@[simp] theorem Ik (x:D) (y:Int):br (.int y) x=true:=by simp[br]
@[simp] theorem Il (x:D):br x (.tup [])=true:=by simp[br,dok]
@[simp] theorem Im (x:D):br x (.lst [])=true:=by simp[br,dok]
@[simp] theorem LK (x:D) (b:Bool):br x (.bl b)=true:=by simp[br]
theorem iM {x y:D} (h:dok 100 y=true):br x y=true:=by simp[br,h]
noncomputable def gu:D->Bool
 | .non=>true
 | .bl _=>false
 | .int _=>false
 | .str _=>false
 | .tup _=>false
 | .lst _=>false
@[simp] theorem Io:gu .non=true:=rfl
@[simp] theorem JB (z:Bool):gu (.bl z)=false:=rfl
@[simp] theorem Ip (z:Int):gu (.int z)=false:=rfl
@[simp] theorem Iq (z:Str):gu (.str z)=false:=rfl
@[simp] theorem Ir (z:List D):gu (.tup z)=false:=rfl
@[simp] theorem Iu (z:List D):gu (.lst z)=false:=rfl
noncomputable def dQ:Cm->D->D->Option Bool
 | .eq,x,y=>if br x y then some (eqv x y) else none
 | .ne,x,y=>if br x y then some (!eqv x y) else none
 | .lt,.int i,.int j=>some (decide (i < j))
 | .le,.int i,.int j=>some (decide (i<=j))
 | .gt,.int i,.int j=>some (decide (j < i))
 | .ge,.int i,.int j=>some (decide (j<=i))
 | .isN,x,.non=>some (gu x)
 | .notN,x,.non=>some (!gu x)
 | .mem,x,.tup ys=>if ys.all fun y=>br y x then some (ys.any fun y=>eqv y x) else none
 | .mem,x,.lst ys=>if ys.all fun y=>br y x then some (ys.any fun y=>eqv y x) else none
 | .nmem,x,.tup ys=>if ys.all fun y=>br y x then some (!ys.any fun y=>eqv y x) else none
 | .nmem,x,.lst ys=>if ys.all fun y=>br y x then some (!ys.any fun y=>eqv y x) else none
 | _,_,_=>none
@[simp] noncomputable def intsOf:List D->Option (List Int)
 | []=>some []
 | .int i :: r=>(intsOf r).map (i :: ·)
 | _=>none
@[simp] noncomputable def allB:List D->Option Bool
 | []=>some true
 | .bl b :: r=>if b then allB r else some false
 | _=>none
@[simp] noncomputable def anyB:List D->Option Bool
 | []=>some false
 | .bl b :: r=>if b then some true else anyB r
 | _=>none
noncomputable def isI:D->Bool
 | .non=>false
 | .bl _=>true
 | .int _=>true
 | .str _=>false
 | .tup _=>false
 | .lst _=>false
@[simp] theorem LM:isI .non=false:=rfl
@[simp] theorem Na (z:Bool):isI (.bl z)=true:=rfl
@[simp] theorem LN (z:Int):isI (.int z)=true:=rfl
@[simp] theorem LO (z:Str):isI (.str z)=false:=rfl
@[simp] theorem LP (z:List D):isI (.tup z)=false:=rfl
@[simp] theorem LQ (z:List D):isI (.lst z)=false:=rfl
noncomputable def isB:D->Bool
 | .non=>false
 | .bl _=>true
 | .int _=>false
 | .str _=>false
 | .tup _=>false
 | .lst _=>false
@[simp] theorem LR:isB .non=false:=rfl
@[simp] theorem Nb (z:Bool):isB (.bl z)=true:=rfl
@[simp] theorem LS (z:Int):isB (.int z)=false:=rfl
@[simp] theorem LU (z:Str):isB (.str z)=false:=rfl
@[simp] theorem LV (z:List D):isB (.tup z)=false:=rfl
@[simp] theorem LW (z:List D):isB (.lst z)=false:=rfl
noncomputable def isS:D->Bool
 | .non=>false
 | .bl _=>false
 | .int _=>false
 | .str _=>true
 | .tup _=>false
 | .lst _=>false
@[simp] theorem LY:isS .non=false:=rfl
@[simp] theorem Nd (z:Bool):isS (.bl z)=false:=rfl
@[simp] theorem LZ (z:Int):isS (.int z)=false:=rfl
@[simp] theorem L0 (z:Str):isS (.str z)=true:=rfl
@[simp] theorem L1 (z:List D):isS (.tup z)=false:=rfl
@[simp] theorem L3 (z:List D):isS (.lst z)=false:=rfl
noncomputable def isT:D->Bool
 | .non=>false
 | .bl _=>false
 | .int _=>false
 | .str _=>false
 | .tup _=>true
 | .lst _=>false
@[simp] theorem L4:isT .non=false:=rfl
@[simp] theorem Nf (z:Bool):isT (.bl z)=false:=rfl
@[simp] theorem L5 (z:Int):isT (.int z)=false:=rfl
@[simp] theorem L6 (z:Str):isT (.str z)=false:=rfl
@[simp] theorem L7 (z:List D):isT (.tup z)=true:=rfl
@[simp] theorem L8 (z:List D):isT (.lst z)=false:=rfl
noncomputable def isL:D->Bool
 | .non=>false
 | .bl _=>false
 | .int _=>false
 | .str _=>false
 | .tup _=>false
 | .lst _=>true
@[simp] theorem Ma:isL .non=false:=rfl
@[simp] theorem Ng (z:Bool):isL (.bl z)=false:=rfl
@[simp] theorem Mb (z:Int):isL (.int z)=false:=rfl
@[simp] theorem Mc (z:Str):isL (.str z)=false:=rfl
@[simp] theorem Mf (z:List D):isL (.tup z)=false:=rfl
@[simp] theorem Mg (z:List D):isL (.lst z)=true:=rfl
noncomputable def sortI (ns:List Int):List Int:=ns.mergeSort fun a b=>decide (a<=b)
noncomputable def Nh:List Int->Option Int
 | []=>none
 | n :: ns=>some (ns.foldl max n)
@[simp] noncomputable def B4:List D->List D->List D
 | x :: xs,y :: ys=>.tup [x,y] :: B4 xs ys
 | _,_=>[]
noncomputable def ded (ns:List Int):List Int:=ns.foldl (fun σ v=>if σ.any (·==v) then σ else σ++[v]) []
noncomputable def biD:Bi->List D->Option D
 | .len,[.tup xs]=>some (.int xs.length)
 | .len,[.lst xs]=>some (.int xs.length)
 | .len,[.str x]=>if x.length<=lim then some (.int x.length) else none
 | .abs,[.int i]=>some (.int (if i < 0 then -i else i))
 | .int,[.int i]=>some (.int i)
 | .int,[.bl b]=>some (.int (if b then 1 else 0))
 | .str,[.int i]=>if big i then some (.str (toString i)) else none
 | .tuple,[.lst xs]=>some (.tup xs)
 | .tuple,[.tup xs]=>some (.tup xs)
 | .list,[.lst xs]=>some (.lst xs)
 | .list,[.tup xs]=>some (.lst xs)
 | .all,[.lst xs]=>(allB xs).map .bl
 | .any,[.lst xs]=>(anyB xs).map .bl
 | .isInt,[x]=>some (.bl (isI x))
 | .isBool,[x]=>some (.bl (isB x))
 | .isStr,[x]=>some (.bl (isS x))
 | .isTuple,[x]=>some (.bl (isT x))
 | .isList,[x]=>some (.bl (isL x))
 | .min2,[.int i,.int j]=>some (.int (if j < i then j else i))
 | .max2,[.int i,.int j]=>some (.int (if j > i then j else i))
 | .sorted,[.lst xs]=>(intsOf xs).bind fun ns=>if ns.length < 64 then some (.lst ((sortI ns).map .int)) else none
 | .max1,[.lst xs]=>(intsOf xs).bind fun ns=>(Nh ns).map .int
 | .sum,[.lst xs]=>(intsOf xs).map fun ns=>.int ns.sum
 | .nset,[.lst xs]=>(intsOf xs).bind fun ns=>if ns.length < 1000 then some (.int ((ded ns).length:Nat)) else none
 | .sset,[.lst xs]=>(intsOf xs).bind fun ns=>if ns.length < 64 then some (.lst ((sortI (ded ns)).map .int)) else none
 | .lzip,[.tup xs,.tup ys]=>if 0 < xs.length/\xs.length=ys.length then some (.lst (B4 xs ys)) else none
 | _,_=>none
@[simp] noncomputable def jF:Nat->List D->List D
 | _,[]=>[]
 | k,x :: r=>.tup [.int k,x] :: jF (k+1) r
noncomputable def nW:D->Option (List D)
 | .tup xs=>some xs
 | .lst xs=>some xs
 | _=>none
noncomputable def upto (lo:Int) (n:Nat):List D:=(Pr n).map fun (k:Nat)=>D.int (lo+(k:Int))
noncomputable def fE:Sr->List D->Option (List D)
 | .seq,[x]=>nW x
 | .rng1,[.int n]=>if -100000<=n&&n<=100000 then some (upto 0 n.toNat) else none
 | .rng2,[.int a,.int b]=>if -100000<=a&&a<=100000&&-100000<=b&&b<=100000 then some (upto a (b - a).toNat) else none
 | .rev,[.lst xs]=>some xs.reverse
 | .enu,[.lst xs]=>some (jF 0 xs)
 | .zip2,[.lst xs,.lst ys]=>some (B4 xs ys)
 | _,_=>none
@[simp] noncomputable def iN (x:D):List D->Nat->Option Nat
 | [],_=>none
 | y :: r,k=>if eqv y x then some k else iN x r (k+1)
@[simp] noncomputable def JC (c:Nat):List Nat->Nat->Option Nat
 | [],_=>none
 | y :: r,k=>if y=c then some k else JC c r (k+1)
@[simp] noncomputable def aR:List W->Option (List D)
 | []=>some []
 | .p d :: r=>(aR r).map (d :: ·)
 | .r _ :: _=>none
 | .k _ :: _=>none
 | .o _ :: _=>none
 | .c _ _ :: _=>none
noncomputable def meD:Me->D->List D->Option D
 | .tindex,.tup xs,[x]=>if xs.all fun y=>br y x then (iN x xs 0).map fun (q:Nat)=>D.int (q:Int) else none
 | .sindex,.str x,[.str y]=>match Builtin.Str.occurrences x y 0 x.length 1 with
  | i :: _=>some (.int (i:Int))
  | []=>none
 | _,_,_=>none
theorem yz {xs:List D}{x:D}:meD .tindex (.tup xs) [x]=if xs.all fun y=>br y x then (iN x xs 0).map fun (q:Nat)=>D.int (q:Int) else none:=rfl
noncomputable def meW (m:Me) (o:W) (as:List W) (h:HH):Option (W×HH):=match m,o,as with
 | .append,.r n,[.p d]=>match lat h n with
  | some xs=>if xs.length < lim then some (.p .non,h.set n (.l (xs++[d]))) else none
  | none=>none
 | .pop,.r n,[]=>match lat h n with
  | some xs=>match xs.getLast? with
   | some d=>some (.p d,h.set n (.l xs.dropLast))
   | none=>none
  | none=>none
 | .extend,.r n,[w]=>match lat h n,(rd w h).bind nW with
  | some xs,some ys=>if xs.length+ys.length<=lim then some (.p .non,h.set n (.l (xs++ys))) else none
  | _,_=>none
 | .dget,.k kvs,[.p (.str x)]=>some (.p ((cT x kvs).getD .non),h)
 | .dget,.k _,[.p .non]=>some (.p .non,h)
 | .dget,.k kvs,[.p (.str x),.p d]=>some (.p ((cT x kvs).getD d),h)
 | m,.p d,as=>match aR as with
  | some ds=>(meD m d ds).map fun x=>(.p x,h)
  | none=>none
 | _,_,_=>none
section
variable (n:Nat) (d:D) (h:HH) (kvs:List (Str×D)) (x:Str) (as:List W)
@[simp] theorem rT:meW .append (.r n) [.p d] h=match lat h n with
 | some xs=>if xs.length < lim then some (.p .non,h.set n (.l (xs++[d]))) else none
 | none=>none:=rfl
@[simp] theorem B5:meW .pop (.r n) [] h=match lat h n with
 | some xs=>match xs.getLast? with
  | some d=>some (.p d,h.set n (.l xs.dropLast))
  | none=>none
 | none=>none:=rfl
@[simp] theorem rV (w:W):meW .extend (.r n) [w] h=match lat h n,(rd w h).bind nW with
 | some xs,some ys=>if xs.length+ys.length<=lim then some (.p .non,h.set n (.l (xs++ys))) else none
 | _,_=>none:=rfl
@[simp] theorem JD:meW .dget (.k kvs) [.p (.str x)] h=some (.p ((cT x kvs).getD .non),h):=rfl
@[simp] theorem FZ:meW .dget (.k kvs) [.p .non] h=some (.p .non,h):=rfl
@[simp] theorem Iw:meW .dget (.k kvs) [.p (.str x),.p d] h=some (.p ((cT x kvs).getD d),h):=rfl
@[simp] theorem kZ:meW .tindex (.p d) as h=match aR as with
 | some ds=>(meD .tindex d ds).map fun x=>(.p x,h)
 | none=>none:=rfl
@[simp] theorem F3:meW .sindex (.p d) as h=match aR as with
 | some ds=>(meD .sindex d ds).map fun x=>(.p x,h)
 | none=>none:=rfl
end
noncomputable def new (mu:Bool) (xs:List D) (h:HH):W×HH:=if mu then (.r h.length,h++[.l xs]) else (.p (.lst xs),h)
@[simp] theorem OB (xs:List D) (h:HH):new false xs h=(.p (.lst xs),h):=rfl
@[simp] theorem OC (xs:List D) (h:HH):new true xs h=(.r h.length,h++[.l xs]):=rfl
@[simp] noncomputable def rds (ws:List W) (h:HH):Option (List D):=match ws with
 | []=>some []
 | w :: r=>(rd w h).bind fun d=>(rds r h).map (d :: ·)
noncomputable def OS:D->Option (List D)
 | .lst xs=>some xs
 | _=>none
noncomputable def unpack (n:Nat):D->Option (List D)
 | .tup xs=>if xs.length=n then some xs else none
 | _=>none
noncomputable def target (n:Nat) (d:D):Option (List D):=if n=1 then some [d] else unpack n d
section
variable (i j k a b:Int) (c:Bool) (x y:Str) (xs ys:List D) (kvs:List (Str×D)) (d e:D) (lo hi:Option Int)
@[simp] theorem fF:jE .add (.int i) (.int j)=some (.int (i+j)):=rfl
@[simp] theorem cW:jE .add (.str x) (.str y)=if x.length+y.length<=lim then some (.str (x++y)) else none:=rfl
@[simp] theorem cX:jE .add (.tup xs) (.tup ys)=if xs.length+ys.length<=lim then some (.tup (xs++ys)) else none:=rfl
@[simp] theorem cY:jE .add (.lst xs) (.lst ys)=if xs.length+ys.length<=lim then some (.lst (xs++ys)) else none:=rfl
@[simp] theorem fG:jE .sub (.int i) (.int j)=some (.int (i - j)):=rfl
@[simp] theorem fH:jE .mul (.int i) (.int j)=if big i||big j then some (.int (i*j)) else none:=rfl
@[simp] theorem cZ:jE .mul (.tup xs) (.int k)=if 2<=k&&k<=1000&&!xs.isEmpty&&xs.length*k.toNat<=lim then some (.tup (rep k.toNat xs)) else none:=rfl
@[simp] theorem c5:jE .mul (.lst xs) (.int k)=if -1000<=k&&k<=1000&&xs.length*k.toNat<=lim then some (.lst (rep k.toNat xs)) else none:=rfl
@[simp] theorem fJ:jE .mod (.int i) (.int j)=if 0 < j then some (.int (i % j)) else none:=rfl
@[simp] theorem dS:jE .fdiv (.int i) (.int j)=if 0 < j&&j < 1073741824 then some (.int (i / j)) else none:=rfl
@[simp] theorem fK:jE .pow (.int i) (.int j)=if 0<=j&&j<=100&&big i then some (.int (i ^ j.toNat)) else none:=rfl
@[simp] theorem nX:aL (.tup xs) (.int i)=atP xs i:=rfl
@[simp] theorem bI:aL (.lst xs) (.int i)=atP xs i:=rfl
@[simp] theorem gw:aL (.str x) (.int i)=if x.length<=lim then (atP x.cps.toList i).map fun c=>.str ⟨#[c]⟩ else none:=rfl
@[simp] theorem yC:rS (.tup xs) lo hi=some (.tup (cut xs lo hi)):=rfl
@[simp] theorem Ni:rS (.lst xs) lo hi=some (.lst (cut xs lo hi)):=rfl
@[simp] theorem tR:dQ .eq d e=if br d e then some (eqv d e) else none:=rfl
@[simp] theorem nY:dQ .ne d e=if br d e then some (!eqv d e) else none:=rfl
@[simp] theorem e9:dQ .lt (.int i) (.int j)=some (decide (i < j)):=rfl
@[simp] theorem ff:dQ .le (.int i) (.int j)=some (decide (i<=j)):=rfl
@[simp] theorem fh:dQ .gt (.int i) (.int j)=some (decide (j < i)):=rfl
@[simp] theorem fj:dQ .ge (.int i) (.int j)=some (decide (j<=i)):=rfl
@[simp] theorem dF:dQ .isN d .non=some (gu d):=rfl
@[simp] theorem cD:dQ .notN d .non=some (!gu d):=rfl
@[simp] theorem bB:dQ .mem d (.tup ys)=if ys.all fun y=>br y d then some (ys.any fun y=>eqv y d) else none:=rfl
@[simp] theorem aM:dQ .mem d (.lst ys)=if ys.all fun y=>br y d then some (ys.any fun y=>eqv y d) else none:=rfl
@[simp] theorem bw:dQ .nmem d (.tup ys)=if ys.all fun y=>br y d then some (!ys.any fun y=>eqv y d) else none:=rfl
@[simp] theorem aI:dQ .nmem d (.lst ys)=if ys.all fun y=>br y d then some (!ys.any fun y=>eqv y d) else none:=rfl
@[simp] theorem nj:biD .len [.tup xs]=some (.int xs.length):=rfl
@[simp] theorem dU:biD .len [.lst xs]=some (.int xs.length):=rfl
@[simp] theorem vZ:biD .len [.str x]=if x.length<=lim then some (.int x.length) else none:=rfl
@[simp] theorem Mh:biD .abs [.int i]=some (.int (if i < 0 then -i else i)):=rfl
@[simp] theorem Mi:biD .int [.int i]=some (.int i):=rfl
@[simp] theorem Iz:biD .int [.bl c]=some (.int (if c then 1 else 0)):=rfl
@[simp] theorem Mj:biD .str [.int i]=if big i then some (.str (toString i)) else none:=rfl
@[simp] theorem Ez:biD .tuple [.lst xs]=some (.tup xs):=rfl
@[simp] theorem EA:biD .tuple [.tup xs]=some (.tup xs):=rfl
theorem p8:biD .sset [.lst xs]=(intsOf xs).bind fun ns=>if ns.length < 64 then some (.lst ((sortI (ded ns)).map .int)) else none:=rfl
theorem tS:biD .sum [.lst xs]=(intsOf xs).map fun ns=>.int ns.sum:=rfl
theorem sortI_perm (ns:List Int):(sortI ns).Perm ns:=List.mergeSort_perm _ _
theorem p9 (ns:List Int):(sortI ns).Pairwise (·<=·):=by
 have:=List.pairwise_mergeSort (le:=fun (a b:Int)=>decide (a<=b)) (fun a b c h1 h2=>by simp only[decide_eq_true_eq] at *;omega) (fun a b=>by simp only[Rf,decide_eq_true_eq];omega) ns
 exact this.imp fun h=>of_decide_eq_true h
@[simp] theorem F4:biD .list [.lst xs]=some (.lst xs):=rfl
@[simp] theorem F5:biD .list [.tup xs]=some (.lst xs):=rfl
@[simp] theorem Ml:biD .all [.lst xs]=(allB xs).map .bl:=rfl
@[simp] theorem Mm:biD .any [.lst xs]=(anyB xs).map .bl:=rfl
@[simp] theorem IA:biD .isInt [d]=some (.bl (isI d)):=rfl
@[simp] theorem F6:biD .isBool [d]=some (.bl (isB d)):=rfl
@[simp] theorem IB:biD .isStr [d]=some (.bl (isS d)):=rfl
@[simp] theorem EB:biD .isTuple [d]=some (.bl (isT d)):=rfl
@[simp] theorem F7:biD .isList [d]=some (.bl (isL d)):=rfl
@[simp] theorem Mn:biD .min2 [.int i,.int j]=some (.int (if j < i then j else i)):=rfl
@[simp] theorem Mp:biD .max2 [.int i,.int j]=some (.int (if j > i then j else i)):=rfl
@[simp] theorem Nj:nW (.tup xs)=some xs:=rfl
@[simp] theorem Nk:nW (.lst xs)=some xs:=rfl
@[simp] theorem yD:fE .seq [d]=nW d:=rfl
@[simp] theorem jG:fE .rng1 [.int a]=if -100000<=a&&a<=100000 then some (upto 0 a.toNat) else none:=rfl
@[simp] theorem fL:fE .rng2 [.int a,.int b]=if -100000<=a&&a<=100000&&-100000<=b&&b<=100000 then some (upto a (b - a).toNat) else none:=rfl
@[simp] theorem JE:fE .rev [.lst xs]=some xs.reverse:=rfl
@[simp] theorem JF:fE .enu [.lst xs]=some (jF 0 xs):=rfl
@[simp] theorem JG:fE .zip2 [.lst xs,.lst ys]=some (B4 xs ys):=rfl
@[simp] theorem F8:meD .tindex (.tup xs) [d]=if xs.all fun y=>br y d then (iN d xs 0).map fun (q:Nat)=>D.int (q:Int) else none:=rfl
@[simp] theorem yE (n:Nat):unpack n (.tup xs)=if xs.length=n then some xs else none:=rfl
end
@[simp] theorem gx (d:D):target 1 d=some [d]:=rfl
@[simp] theorem JH (d:D):target 2 d=unpack 2 d:=rfl
noncomputable def tU (o:Option D) (out:List D) (h:HH):Option (List D×HH):=some (match o with | some x=>x :: out | none=>out,h)
noncomputable def v7 (r:HH->Option (List D×HH)) (o:Option D) (h:HH):Option (List D×HH):=bnd (r h) (tU o)
@[simp] theorem k8 (o:Option D) (out:List D) (h:HH):tU o out h=some (match o with | some x=>x :: out | none=>out,h):=rfl
@[simp] theorem nZ (r:HH->Option (List D×HH)) (o:Option D) (h:HH):v7 r o h=bnd (r h) (tU o):=rfl
noncomputable def aS (f:List D->HH->Option (Option D×HH)) (n:Nat):List D->HH->Option (List D×HH)
 | [],h=>some ([],h)
 | d :: r,h=>match target n d with
  | some ds=>bnd (f ds h) (v7 (aS f n r))
  | none=>none
noncomputable def cJ (d:D):Option W:=some (.p d)
noncomputable abbrev EH:=HH->Option (W×HH)
noncomputable abbrev OpW:=W->W->HH->Option (W×HH)
@[simp] noncomputable def k2 (eb:EH) (op:OpW) (x:W) (h:HH):Option (W×HH):=bnd (eb h) (op x)
@[simp] noncomputable def mE (o:Bin) (x y:W) (h:HH):Option (W×HH):=match rd x h,rd y h with
 | some d,some e=>(jE o d e).map fun z=>(.p z,h)
 | _,_=>none
noncomputable def inK (o:Cm) (x:W) (kvs:List (Str×D)):Option Bool:=match o,x with
 | .mem,.p (.str s)=>some (cT s kvs).isSome
 | .nmem,.p (.str s)=>some (!(cT s kvs).isSome)
 | _,_=>none
@[simp] noncomputable def gk (o:Cm) (x y:W) (h:HH):Option (W×HH):=match y with
 | .k kvs=>(inK o x kvs).map fun z=>(.p (.bl z),h)
 | y=>match rd x h,rd y h with
  | some d,some e=>(dQ o d e).map fun z=>(.p (.bl z),h)
  | _,_=>none
noncomputable def atK (kvs:List (Str×D)) (y:W):Option D:=match y with
 | .p (.str s)=>cT s kvs
 | _=>none
@[simp] theorem OD (kvs:List (Str×D)) (x:Str):atK kvs (.p (.str x))=cT x kvs:=rfl
@[simp] theorem OE (kvs:List (Str×D)) (x:Str):inK .mem (.p (.str x)) kvs=some (cT x kvs).isSome:=rfl
@[simp] theorem OF (kvs:List (Str×D)) (x:Str):inK .nmem (.p (.str x)) kvs=some (!(cT x kvs).isSome):=rfl
@[simp] noncomputable def B6 (x y:W) (h:HH):Option (W×HH):=match x with
 | .k kvs=>(atK kvs y).map fun z=>(.p z,h)
 | x=>match rd x h,rd y h with
  | some d,some e=>(aL d e).map fun z=>(.p z,h)
  | _,_=>none
@[simp] noncomputable def B7 (x:W) (h:HH):Option (W×HH):=match x with | .p (.int i)=>some (.p (.int (-i)),h) | _=>none
@[simp] noncomputable def B8 (x:W) (h:HH):Option (W×HH):=match x with | .p (.bl b)=>some (.p (.bl (!b)),h) | _=>none
@[simp] noncomputable def B9 (eb:EH) (x:W) (h:HH):Option (W×HH):=match x with | .p (.bl c)=>if c then eb h else some (.p (.bl false),h) | _=>none
@[simp] noncomputable def kOr (eb:EH) (x:W) (h:HH):Option (W×HH):=match x with | .p (.bl c)=>if c then some (.p (.bl true),h) else eb h | _=>none
@[simp] noncomputable def Ca (ea eb:EH) (x:W) (h:HH):Option (W×HH):=match x with | .p (.bl c)=>if c then ea h else eb h | _=>none
@[simp] noncomputable def JI (o':Cm) (e:D) (z:W) (h:HH):Option (W×HH):=match rd z h with
 | some f=>(dQ o' e f).map fun r=>(.p (.bl r),h)
 | none=>none
@[simp] noncomputable def oCh (o o':Cm) (ec:EH) (x y:W) (h:HH):Option (W×HH):=match rd x h,y with
 | some d,.p e=>match dQ o d e with
  | some true=>bnd (ec h) (JI o' e)
  | some false=>some (.p (.bl false),h)
  | none=>none
 | _,_=>none
@[simp] noncomputable def F9 (ws:List W) (h:HH):Option (W×HH):=match aR ws with | some ds=>if ds.length<=lim then some (.p (.tup ds),h) else none | none=>none
@[simp] noncomputable def Ga (mu:Bool) (ws:List W) (h:HH):Option (W×HH):=match aR ws with | some ds=>if ds.length<=lim then some (new mu ds h) else none | none=>none
@[simp] noncomputable def JJ (x:W) (l u:List W) (h:HH):Option (W×HH):=match rd x h,(aR l).bind nV,(aR u).bind nV with
 | some d,some l',some u'=>(rS d l' u').map fun z=>(.p z,h)
 | _,_,_=>none
@[simp] noncomputable def JK (eu:HH->Option (List W×HH)) (x:W) (l:List W) (h:HH):Option (W×HH):=bnd (eu h) (JJ x l)
@[simp] noncomputable def JL (el eu:HH->Option (List W×HH)) (x:W) (h:HH):Option (W×HH):=bnd (el h) (JK eu x)
@[simp] noncomputable def Nl (x:W) (h:HH):Option (W×HH):=match rd x h with
 | some (.tup xs)=>some (.p (.tup xs.reverse),h)
 | some (.lst xs)=>some (.p (.lst xs.reverse),h)
 | _=>none
noncomputable def qc (k:Int) (xs:List D):List D:=(TJ (PN none none (some k) xs.length).1 (PN none none (some k) xs.length).2.1 (PN none none (some k) xs.length).2.2).filterMap fun i=>xs[i]?
@[simp] noncomputable def Gb (mu:Bool) (k:Int) (x:W) (h:HH):Option (W×HH):=match rd x h with
 | some (.lst xs)=>some (new mu (qc k xs) h)
 | _=>none
@[simp] noncomputable def kBi (b:Bi) (mu:Bool) (ws:List W) (h:HH):Option (W×HH):=match rds ws h with
 | some ds=>match biD b ds with
  | some d=>if mu then (match d with | .lst xs=>some (new true xs h) | _=>none) else some (.p d,h)
  | none=>none
 | none=>none
noncomputable def qd (x:W) (h:HH):Bool:=match x with
 | .r n=>(lat h n).isSome
 | _=>true
@[simp] theorem Nn (n:Nat) (h:HH):qd (.r n) h=(lat h n).isSome:=rfl
@[simp] theorem Np (d:D) (h:HH):qd (.p d) h=true:=rfl
@[simp] theorem Nq (d:List (Str×D)) (h:HH):qd (.k d) h=true:=rfl
@[simp] noncomputable def kMe (m:Me) (ea:HH->Option (List W×HH)) (x:W) (h:HH):Option (W×HH):=if qd x h then bnd (ea h) (meW m x) else none
@[simp] noncomputable def kLs (mu:Bool) (sr:Sr) (ws:List W) (h:HH):Option (W×HH):=match (rds ws h).bind (fE sr) with
 | some ds=>if ds.length<=lim then some (new mu ds h) else none
 | none=>none
@[simp] noncomputable def mF (w:W) (h:HH):Option (Option D×HH):=match w with | .p d=>some (some d,h) | _=>none
noncomputable def tV (ee:EH) (cs:List W) (h:HH):Option (Option D×HH):=match cs with
 | []=>bnd (ee h) mF
 | [.p (.bl true)]=>bnd (ee h) mF
 | [.p (.bl false)]=>some (none,h)
 | _=>none
@[simp] theorem Mq (ee:EH) (h:HH):tV ee [] h=bnd (ee h) mF:=rfl
@[simp] theorem Mr (ee:EH) (h:HH):tV ee [.p (.bl true)] h=bnd (ee h) mF:=rfl
@[simp] theorem Ms (ee:EH) (h:HH):tV ee [.p (.bl false)] h=some (none,h):=rfl
@[simp] noncomputable def cU (ec:Sl->HH->Option (List W×HH)) (ee:Sl->EH) (fs:Sl) (xs:List D) (h:HH):Option (Option D×HH) :=
 bnd (ec (xs.map cJ++fs) h) (tV (ee (xs.map cJ++fs)))
@[simp] noncomputable def k9 (mu:Bool) (out:List D) (h:HH):Option (W×HH):=if out.length<=lim then some (new mu out h) else none
noncomputable def aW (f:Str):List (Str×W)->Option W
 | []=>none
 | (x,w) :: r=>if f=x then some w else aW f r
noncomputable def bq (f:Str) (w:W):List (Str×W)->List (Str×W)
 | []=>[(f,w)]
 | (x,u) :: r=>if f=x then (f,w) :: r else (x,u) :: bq f w r
@[simp] theorem JM (f:Str):aW f []=none:=rfl
@[simp] theorem nk (f x:Str) (w:W) (r:List (Str×W)):aW f ((x,w) :: r)=if f=x then some w else aW f r:=rfl
@[simp] theorem JN (f:Str) (w:W):bq f w []=[(f,w)]:=rfl
@[simp] theorem v8 (f x:Str) (w u:W) (r:List (Str×W)):bq f w ((x,u) :: r)=if f=x then (f,w) :: r else (x,u) :: bq f w r:=rfl
noncomputable def attrOk:W->Bool
 | .p _=>true
 | .r _=>true
 | .k _=>false
 | .o _=>true
 | .c _ _=>false
@[simp] theorem JO (d:D):attrOk (.p d)=true:=rfl
@[simp] theorem JP (n:Nat):attrOk (.r n)=true:=rfl
@[simp] theorem JQ (n:Nat):attrOk (.o n)=true:=rfl
noncomputable def Cb (f:Str) (x:W) (h:HH):Option (W×HH):=match x with
 | .o n=>match oat h n with
  | some (_,fs)=>(aW f fs).map fun w=>(w,h)
  | none=>none
 | _=>none
@[simp] theorem Gc (f:Str) (n:Nat) (h:HH):Cb f (.o n) h=match oat h n with
 | some (_,fs)=>(aW f fs).map fun w=>(w,h)
 | none=>none:=rfl
noncomputable def rW (F:FK->List W->HH->Option (W×HH)) (q:FK) (n:Nat) (ws:List W) (h:HH):Option (W×HH):=F q (.o n :: ws) h
@[simp] theorem IC (F:FK->List W->HH->Option (W×HH)) (q:FK) (n:Nat) (ws:List W) (h:HH):rW F q n ws h=F q (.o n :: ws) h:=rfl
noncomputable def yF (F:FK->List W->HH->Option (W×HH)) (m:Str) (ea:HH->Option (List W×HH)) (x:W) (h:HH):Option (W×HH):=match x with
 | .o n=>match oat h n with
  | some (c,fs)=>if (aW m fs).isNone then bnd (ea h) (rW F (.m c m) n) else none
  | none=>none
 | _=>none
@[simp] theorem Cc (F:FK->List W->HH->Option (W×HH)) (m:Str) (ea:HH->Option (List W×HH)) (n:Nat) (h:HH):yF F m ea (.o n) h=match oat h n with
 | some (c,fs)=>if (aW m fs).isNone then bnd (ea h) (rW F (.m c m) n) else none
 | none=>none:=rfl
noncomputable def tW (n:Nat) (x:W) (h:HH):Option (W×HH):=match x with
 | .p .non=>some (.o n,h)
 | _=>none
@[simp] theorem Mt (n:Nat) (h:HH):tW n (.p .non) h=some (.o n,h):=rfl
noncomputable def EC (F:FK->List W->HH->Option (W×HH)) (c:Str) (ws:List W) (h:HH):Option (W×HH):=bnd (F (.m c "__init__") (.o h.length :: ws) (h++[.o c []])) (tW h.length)
@[simp] theorem yG (F:FK->List W->HH->Option (W×HH)) (c:Str) (ws:List W) (h:HH):EC F c ws h=bnd (F (.m c "__init__") (.o h.length :: ws) (h++[.o c []])) (tW h.length):=rfl
noncomputable def gy:List W->Bool
 | []=>true
 | .p _ :: r=>gy r
 | _=>false
@[simp] noncomputable def yH (mu:Bool) (sr:Sr) (n:Nat) (fs:Option Sl) (ec:Sl->HH->Option (List W×HH)) (ee:Sl->EH) (ws:List W) (h:HH):Option (W×HH) :=
 match (rds ws h).bind (fE sr),fs with
 | some ds,some fs=>if gy ws then bnd (aS (cU ec ee fs) n ds h) (k9 mu) else none
 | _,_=>none
@[simp] noncomputable def gA (w:W) (ws:List W) (h:HH):Option (List W×HH):=some (w :: ws,h)
@[simp] noncomputable def jW (er:HH->Option (List W×HH)) (w:W) (h:HH):Option (List W×HH):=bnd (er h) (gA w)
@[simp] noncomputable def frees (s:Sl):List (Nat×Str)->Option Sl
 | []=>some []
 | q :: r=>match s[q.1]? with
  | some w=>(frees s r).map (w :: ·)
  | none=>none
noncomputable def caps (s:Sl):List (Nat×Str)->Option (List Cp)
 | []=>some []
 | q :: r=>match s[q.1]? with
  | some (some w)=>(p5 w).bind fun x=>(caps s r).map (x :: ·)
  | _=>none
@[simp] theorem JR (s:Sl):caps s []=some []:=rfl
@[simp] theorem v9 (s:Sl) (q:Nat×Str) (r:List (Nat×Str)):caps s (q :: r)=match s[q.1]? with
 | some (some w)=>(p5 w).bind fun x=>(caps s r).map (x :: ·)
 | _=>none:=rfl
noncomputable def noC:List W->Bool
 | []=>true
 | .p _ :: r=>noC r
 | .r _ :: r=>noC r
 | .k _ :: r=>noC r
 | .o _ :: r=>noC r
 | .c _ _ :: _=>false
@[simp] theorem Mu:noC []=true:=rfl
@[simp] theorem OG (d:D) (r:List W):noC (.p d :: r)=noC r:=rfl
@[simp] theorem OH (d:Nat) (r:List W):noC (.r d :: r)=noC r:=rfl
@[simp] theorem OI (d:Nat) (r:List W):noC (.o d :: r)=noC r:=rfl
noncomputable def n8 (F:FK->List W->HH->Option (W×HH)) (o:Option (Option W)) (ws:List W) (h:HH):Option (W×HH):=match o with
 | some (some (.c k cs))=>if noC ws then F k (ws++cs.map Cp.w) h else none
 | _=>none
@[simp] theorem JS (F:FK->List W->HH->Option (W×HH)) (k:FK) (cs:List Cp) (ws:List W) (h:HH):n8 F (some (some (.c k cs))) ws h=if noC ws then F k (ws++cs.map Cp.w) h else none:=rfl
noncomputable def yI (w:W) (h:HH):Option (W×HH):=match w with
 | .c _ _=>none
 | w=>some (w,h)
@[simp] theorem Nr (d:D) (h:HH):yI (.p d) h=some (.p d,h):=rfl
@[simp] theorem Nt (n:Nat) (h:HH):yI (.r n) h=some (.r n,h):=rfl
@[simp] theorem Nu (n:Nat) (h:HH):yI (.o n) h=some (.o n,h):=rfl
noncomputable def n9 (F:FK->List W->HH->Option (W×HH)) (q:FK) (n:Nat) (L:Nat) (cs:Option (List Cp)) (ws:List W) (h:HH):Option (W×HH):=match cs with
 | some cs=>bnd (F q (.o n :: (ws++[.c (.l L) cs])) h) yI
 | none=>none
@[simp] theorem we (F:FK->List W->HH->Option (W×HH)) (q:FK) (n:Nat) (L:Nat) (cs:List Cp) (ws:List W) (h:HH):n9 F q n L (some cs) ws h=bnd (F q (.o n :: (ws++[.c (.l L) cs])) h) yI:=rfl
noncomputable def rX (F:FK->List W->HH->Option (W×HH)) (m:Str) (ea:HH->Option (List W×HH)) (L:Nat) (cs:Option (List Cp)) (x:W) (h:HH):Option (W×HH):=match x with
 | .o n=>match oat h n with
  | some (c,fs)=>if (aW m fs).isNone then bnd (ea h) (n9 F (.m c m) n L cs) else none
  | none=>none
 | _=>none
@[simp] theorem yJ (F:FK->List W->HH->Option (W×HH)) (m:Str) (ea:HH->Option (List W×HH)) (L:Nat) (cs:Option (List Cp)) (n:Nat) (h:HH):rX F m ea L cs (.o n) h=match oat h n with
 | some (c,fs)=>if (aW m fs).isNone then bnd (ea h) (n9 F (.m c m) n L cs) else none
 | none=>none:=rfl
noncomputable def Cd (n:Nat) (y z:W) (h:HH):Option (W×HH):=match y,z with
 | .p k,.p d=>(dat h n).bind fun kvs=>(mD k).map fun q=>(.p ((eZ kvs q).getD d),h)
 | _,_=>none
@[simp] theorem Ge (n:Nat) (k d:D) (h:HH):Cd n (.p k) (.p d) h=(dat h n).bind fun kvs=>(mD k).map fun q=>(.p ((eZ kvs q).getD d),h):=rfl
noncomputable def Gf (ed:EH) (n:Nat) (y:W) (h:HH):Option (W×HH):=bnd (ed h) (Cd n y)
@[simp] theorem Ce (ed:EH) (n:Nat) (y:W) (h:HH):Gf ed n y h=bnd (ed h) (Cd n y):=rfl
noncomputable def JT (ek ed:EH) (x:W) (h:HH):Option (W×HH):=match x with
 | .r n=>if (dat h n).isSome then bnd (ek h) (Gf ed n) else none
 | _=>none
@[simp] theorem Gg (ek ed:EH) (n:Nat) (h:HH):JT ek ed (.r n) h=if (dat h n).isSome then bnd (ek h) (Gf ed n) else none:=rfl
noncomputable def jH:List (Ky×D)->Option (List (Int×Int))
 | []=>some []
 | (.inl k,.int v) :: r=>(jH r).map ((k,v) :: ·)
 | _=>none
noncomputable def lg (kvs:List (Ky×D)):Option (List D):=if kvs.length<=1 then some (fu kvs) else (jH kvs).bind fun ps=>if ps.length < 64 then some ((jC ps).filterMap fun i=>(fu kvs)[i]?) else none
@[simp] theorem Mv (kv:Ky×D):lg [kv]=some (fu [kv]):=rfl
noncomputable def Gi (x:W) (h:HH):Option (W×HH):=match x with
 | .r n=>(dat h n).bind fun kvs=>(lg kvs).map fun l=>(.p (.lst l),h)
 | _=>none
@[simp] theorem Gj (n:Nat) (h:HH):Gi (.r n) h=(dat h n).bind fun kvs=>(lg kvs).map fun l=>(.p (.lst l),h):=rfl
noncomputable def JU (x:W) (h:HH):Option (W×HH):=match x with
 | .r n=>(dat h n).bind fun kvs=>if kvs.length<=lim then some (.p (.lst (fu kvs)),h) else none
 | _=>none
@[simp] theorem Nv (n:Nat) (h:HH):JU (.r n) h=(dat h n).bind fun kvs=>if kvs.length<=lim then some (.p (.lst (fu kvs)),h) else none:=rfl
section
variable (F:FK->List W->HH->Option (W×HH)) (G:Str->Option W)
mutual
@[simp] noncomputable def ev:E->Sl->HH->Option (W×HH)
 | .var i _,s,h=>match s[i]? with | some (some w)=>some (w,h) | _=>none
 | .cst d,_,h=>some (.p d,h)
 | .glo x,_,h=>(G x).map fun w=>(w,h)
 | .bin o a b,s,h=>bnd (ev a s h) (k2 (ev b s) (mE o))
 | .neg a,s,h=>bnd (ev a s h) B7
 | .not a,s,h=>bnd (ev a s h) B8
 | .and a b,s,h=>bnd (ev a s h) (B9 (ev b s))
 | .or a b,s,h=>bnd (ev a s h) (kOr (ev b s))
 | .cmp o a b,s,h=>bnd (ev a s h) (k2 (ev b s) (gk o))
 | .chain o o' a b c,s,h=>bnd (ev a s h) (k2 (ev b s) (oCh o o' (ev c s)))
 | .ite c a b,s,h=>bnd (ev c s h) (Ca (ev a s) (ev b s))
 | .tup as,s,h=>bnd (evs as s h) F9
 | .lst mu as,s,h=>bnd (evs as s h) (Ga mu)
 | .idx a i,s,h=>bnd (ev a s h) (k2 (ev i s) B6)
 | .slc a lo hi,s,h=>bnd (ev a s h) (JL (evs lo s) (evs hi s))
 | .rvs a,s,h=>bnd (ev a s h) Nl
 | .stp mu k a,s,h=>bnd (ev a s h) (Gb mu k)
 | .call f as,s,h=>bnd (evs as s h) (F (.f f))
 | .fld a f,s,h=>bnd (ev a s h) (Cb f)
 | .meth o m as,s,h=>bnd (ev o s h) (yF F m (evs as s))
 | .make c as,s,h=>bnd (evs as s h) (EC F c)
 | .bi b mu as,s,h=>bnd (evs as s h) (kBi b mu)
 | .lsr mu sr as,s,h=>bnd (evs as s h) (kLs mu sr)
 | .me m o as,s,h=>bnd (ev o s h) (kMe m (evs as s))
 | .comp mu sr sa tg fv cond elt,s,h=>bnd (evs sa s h) (yH mu sr tg.length (frees s fv) (evs cond) (ev elt))
 | .callv i _ as,s,h=>bnd (evs as s h) (n8 F s[i]?)
 | .methL o m as L fv,s,h=>bnd (ev o s h) (rX F m (evs as s) L (caps s fv))
 | .dnew,_,h=>some (.r h.length,h++[.d []])
 | .dgt o k d,s,h=>bnd (ev o s h) (JT (ev k s) (ev d s))
 | .dsi o,s,h=>bnd (ev o s h) Gi
 | .dli o,s,h=>bnd (ev o s h) JU
@[simp] noncomputable def evs:Es->Sl->HH->Option (List W×HH)
 | .nil,_,h=>some ([],h)
 | .cons a as,s,h=>bnd (ev a s h) (jW (evs as s))
end
inductive Fl where
 | nx (s:Sl) (h:HH) | rt (w:W) (h:HH) | bk (s:Sl) (h:HH) | ct (s:Sl) (h:HH)
noncomputable def JV (k:Bool->HH->Option Fl) (w:W) (h:HH):Option Fl:=match w with | .p (.bl b)=>k b h | _=>none
noncomputable def tst (x:Option (W×HH)) (k:Bool->HH->Option Fl):Option Fl:=bnd x (JV k)
@[simp] theorem c6 (b:Bool) (h:HH) (k:Bool->HH->Option Fl):tst (some (.p (.bl b),h)) k=k b h:=rfl
noncomputable def jX (x:Option Fl) (k:Sl->HH->Option Fl):Option Fl:=match x with
 | some (.nx s h)=>k s h
 | y=>y
@[simp] theorem gB (s:Sl) (h:HH) (k:Sl->HH->Option Fl):jX (some (.nx s h)) k=k s h:=rfl
@[simp] theorem JW (w:W) (h:HH) (k:Sl->HH->Option Fl):jX (some (.rt w h)) k=some (.rt w h):=rfl
@[simp] theorem JX (s:Sl) (h:HH) (k:Sl->HH->Option Fl):jX (some (.bk s h)) k=some (.bk s h):=rfl
@[simp] theorem JY (s:Sl) (h:HH) (k:Sl->HH->Option Fl):jX (some (.ct s h)) k=some (.ct s h):=rfl
@[simp] theorem Gk (k:Sl->HH->Option Fl):jX none k=none:=rfl
noncomputable def gj (x:Option Fl) (k:Sl->HH->Option Fl):Option Fl:=match x with
 | some (.nx s h)=>k s h
 | some (.ct s h)=>k s h
 | some (.bk s h)=>some (.nx s h)
 | y=>y
@[simp] theorem cK (s:Sl) (h:HH) (k:Sl->HH->Option Fl):gj (some (.nx s h)) k=k s h:=rfl
@[simp] theorem JZ (s:Sl) (h:HH) (k:Sl->HH->Option Fl):gj (some (.ct s h)) k=k s h:=rfl
@[simp] theorem J0 (s:Sl) (h:HH) (k:Sl->HH->Option Fl):gj (some (.bk s h)) k=some (.nx s h):=rfl
@[simp] theorem yK (w:W) (h:HH) (k:Sl->HH->Option Fl):gj (some (.rt w h)) k=some (.rt w h):=rfl
@[simp] theorem Gm (k:Sl->HH->Option Fl):gj none k=none:=rfl
@[simp] noncomputable def sets:List (Nat×Str)->List D->Sl->Sl
 | (i,_) :: r,d :: ds,s=>sets r ds (s.set i (some (.p d)))
 | _,_,s=>s
noncomputable def Gn (b:Sl->HH->Option Fl) (again:Sl->HH->Option Fl) (s:Sl) (t:Bool) (h:HH):Option Fl:=if t then gj (b s h) again else some (.nx s h)
@[simp] theorem iO (b again:Sl->HH->Option Fl) (s:Sl) (h:HH):Gn b again s true h=gj (b s h) again:=rfl
@[simp] theorem gC (b again:Sl->HH->Option Fl) (s:Sl) (h:HH):Gn b again s false h=some (.nx s h):=rfl
noncomputable def aU (c:Sl->HH->Option (W×HH)) (b:Sl->HH->Option Fl):Nat->Sl->HH->Option Fl
 | 0,_,_=>none
 | n+1,s,h=>tst (c s h) (Gn b (aU c b n) s)
@[simp] noncomputable def bx (b:Sl->HH->Option Fl) (tg:List (Nat×Str)):List D->Sl->HH->Option Fl
 | [],s,h=>some (.nx s h)
 | d :: r,s,h=>match target tg.length d with
  | some ds=>gj (b (sets tg ds s) h) (bx b tg r)
  | none=>none
noncomputable def turns:Nat:=100000
@[simp] noncomputable def rY (s:Sl) (i:Nat) (w:W) (h:HH):Option Fl:=some (.nx (s.set i (some w)) h)
@[simp] noncomputable def Nx (s:Sl) (xs:List (Nat×Str)) (w:W) (h:HH):Option Fl:=match w with
 | .p d=>match unpack xs.length d with | some ds=>some (.nx (sets xs ds s) h) | none=>none
 | _=>none
@[simp] noncomputable def J1 (s:Sl) (i:Nat) (o:Bin) (w:W) (h:HH):Option Fl:=match s[i]?,w with
 | some (some (.p d)),.p d'=>(kY o d d').map fun z=>.nx (s.set i (some (.p z))) h
 | _,_=>none
@[simp] noncomputable def ED (s:Sl) (n:Nat) (d:D) (q:W) (h:HH):Option Fl:=match q,lat h n with
 | .p (.int j),some xs=>match place xs.length j with
  | some m=>some (.nx s (h.set n (.l (xs.set m d))))
  | none=>none
 | _,_=>none
@[simp] noncomputable def Gp (ek:EH) (s:Sl) (i:Nat) (w:W) (h:HH):Option Fl:=match w,s[i]? with
 | .p d,some (some (.r n))=>bnd (ek h) (ED s n d)
 | _,_=>none
noncomputable def rZ (s:Sl) (n:Nat) (d:D) (q:W) (h:HH):Option Fl:=match q with
 | .p k=>(dat h n).bind fun kvs=>(mD k).bind fun y=>if kvs.length < lim then some (.nx s (h.set n (.d (jV kvs y d)))) else none
 | _=>none
@[simp] theorem yL (s:Sl) (n:Nat) (d k:D) (h:HH):rZ s n d (.p k) h=(dat h n).bind fun kvs=>(mD k).bind fun y=>if kvs.length < lim then some (.nx s (h.set n (.d (jV kvs y d)))) else none:=rfl
noncomputable def tX (ek:EH) (s:Sl) (i:Nat) (w:W) (h:HH):Option Fl:=match w,s[i]? with
 | .p d,some (some (.r n))=>bnd (ek h) (rZ s n d)
 | _,_=>none
@[simp] theorem Cf (ek:EH) (s:Sl) (i:Nat) (d:D) (h:HH):tX ek s i (.p d) h=match s[i]? with
 | some (some (.r n))=>bnd (ek h) (rZ s n d)
 | _=>none:=by
 unfold tX
 cases s[i]? with
 | none=>rfl
 | some o=>cases o with
  | none=>rfl
  | some w=>cases w<;>rfl
noncomputable def oh (s:Sl) (f:Str) (v:W) (x:W) (h:HH):Option Fl:=match x with
 | .o n=>match oat h n with
  | some (c,fs)=>if attrOk v&&fs.length < 1000 then some (.nx s (h.set n (.o c (bq f v fs)))) else none
  | none=>none
 | _=>none
@[simp] theorem yM (s:Sl) (f:Str) (v:W) (n:Nat) (h:HH):oh s f v (.o n) h=match oat h n with
 | some (c,fs)=>if attrOk v&&fs.length < 1000 then some (.nx s (h.set n (.o c (bq f v fs)))) else none
 | none=>none:=rfl
noncomputable def yN (eo:EH) (s:Sl) (f:Str) (v:W) (h:HH):Option Fl:=bnd (eo h) (oh s f v)
@[simp] theorem yO (eo:EH) (s:Sl) (f:Str) (v:W) (h:HH):yN eo s f v h=bnd (eo h) (oh s f v):=rfl
noncomputable def oi (s:Sl) (f:Str) (op:Bin) (n:Nat) (c:Str) (d:D) (v:W) (h:HH):Option Fl:=match v,oat h n with
 | .p e,some (c',fs)=>match kY op d e with
  | some z=>if c'=c/\fs.length < 1000 then some (.nx s (h.set n (.o c' (bq f (.p z) fs)))) else none
  | none=>none
 | _,_=>none
@[simp] theorem yP (s:Sl) (f:Str) (op:Bin) (n:Nat) (c:Str) (d e:D) (h:HH):oi s f op n c d (.p e) h=match oat h n with
 | some (c',fs)=>match kY op d e with
  | some z=>if c'=c/\fs.length < 1000 then some (.nx s (h.set n (.o c' (bq f (.p z) fs)))) else none
  | none=>none
 | none=>none:=by unfold oi;cases oat h n<;>rfl
noncomputable def tY (ee:EH) (s:Sl) (f:Str) (op:Bin) (x:W) (h:HH):Option Fl:=match x with
 | .o n=>match oat h n with
  | some (c,fs)=>match aW f fs with
   | some (.p d)=>bnd (ee h) (oi s f op n c d)
   | _=>none
  | none=>none
 | _=>none
@[simp] theorem Cg (ee:EH) (s:Sl) (f:Str) (op:Bin) (n:Nat) (h:HH):tY ee s f op (.o n) h=match oat h n with
 | some (c,fs)=>match aW f fs with
  | some (.p d)=>bnd (ee h) (oi s f op n c d)
  | _=>none
 | none=>none:=rfl
@[simp] noncomputable def kEx (s:Sl) (_:W) (h:HH):Option Fl:=some (.nx s h)
@[simp] noncomputable def yQ (w:W) (h:HH):Option Fl:=some (.rt w h)
@[simp] noncomputable def kIf (fa fb:HH->Option Fl) (t:Bool) (h:HH):Option Fl:=if t then fa h else fb h
@[simp] noncomputable def kFor (b:Sl->HH->Option Fl) (tg:List (Nat×Str)) (sr:Sr) (s:Sl) (ws:List W) (h:HH):Option Fl:=match (rds ws h).bind (fE sr) with
 | some ds=>if gy ws then bx b tg ds s h else none
 | none=>none
@[simp] noncomputable def evS:S->Sl->HH->Option Fl
 | .nil,s,h=>some (.nx s h)
 | .seq a b,s,h=>jX (evS a s h) (evS b)
 | .set i _ e,s,h=>bnd (ev F G e s h) (rY s i)
 | .unp xs e,s,h=>bnd (ev F G e s h) (Nx s xs)
 | .aug i _ o e,s,h=>bnd (ev F G e s h) (J1 s i o)
 | .put i _ k e,s,h=>bnd (ev F G e s h) (Gp (ev F G k s) s i)
 | .putd i _ k e,s,h=>bnd (ev F G e s h) (tX (ev F G k s) s i)
 | .setf o f e,s,h=>bnd (ev F G e s h) (yN (ev F G o s) s f)
 | .augf o f op e,s,h=>bnd (ev F G o s h) (tY (ev F G e s) s f op)
 | .ex e,s,h=>bnd (ev F G e s h) (kEx s)
 | .ret e,s,h=>bnd (ev F G e s h) yQ
 | .ife c a b,s,h=>tst (ev F G c s h) (kIf (evS a s) (evS b s))
 | .whl c b,s,h=>aU (ev F G c) (evS b) turns s h
 | .for tg sr sa b,s,h=>bnd (evs F G sa s h) (kFor (evS b) tg sr s)
 | .brk,s,h=>some (.bk s h)
 | .cnt,s,h=>some (.ct s h)
 | .bad,_,_=>none
open Classical in
noncomputable def fin (h:HH) (w:W) (h':HH):Option (W×HH) :=
 if h'.length=h.length then some (w,h')
 else if h'.take h.length=h then (match w with
  | .p d=>some (.p d,h)
  | .r n=>if n < h.length then some (.r n,h) else (lat h' n).map fun xs=>(.p (.lst xs),h)
  | .o n=>if n < h.length then some (.o n,h) else some (.o n,h')
  | .k _=>none
  | .c _ _=>none)
 else some (w,h')
@[simp] noncomputable def fy (n:Nat) (ws:List W):Sl:=ws.map some++Pv (n - ws.length) none
noncomputable def j8 (x:Option Fl) (k:W->HH->Option (W×HH)):Option (W×HH):=match x with
 | some (.rt w h)=>k w h
 | some (.nx _ h)=>k (.p .non) h
 | _=>none
@[simp] theorem Mw (w:W) (h:HH) (k:W->HH->Option (W×HH)):j8 (some (.rt w h)) k=k w h:=rfl
@[simp] theorem Mx (s:Sl) (h:HH) (k:W->HH->Option (W×HH)):j8 (some (.nx s h)) k=k (.p .non) h:=rfl
@[simp] theorem ID (k:W->HH->Option (W×HH)):j8 none k=none:=rfl
end
section
variable (T:FK->Option Fn) (G:Str->Option W)
noncomputable def runN:Nat->FK->List W->HH->Option (W×HH)
 | 0,_,_,_=>none
 | k+1,f,ws,h=>match T f with
  | some fn=>if ws.length=fn.ps.length then j8 (evS (runN k) G fn.body (fy fn.ns.length ws) h) (fin h) else none
  | none=>none
theorem run_eq {T:FK->Option Fn}{G:Str->Option W}{f:FK}{fn:Fn}{ws:List W}{h:HH}{k:Nat} (hT:T f=some fn) (hl:ws.length=fn.ps.length) :
 runN T G (k+1) f ws h=j8 (evS (runN T G k) G fn.body (fy fn.ns.length ws) h) (fin h):=by
 rw[runN,hT];exact if_pos hl
end
end BT
end
section
namespace BT
open PySem
noncomputable def Ci:Fn:=⟨["state","thing"],["state","thing"],.ret (.call "worth_in" (.cons (.var 0 "state") (.cons (.var 1 "thing") .nil)))⟩
noncomputable def Cj:Fn:=⟨["state","thing","worth"],["state","thing","worth"],.ret (.cmp .ne (.call "worth_in" (.cons (.var 0 "state") (.cons (.var 1 "thing") .nil))) (.var 2 "worth"))⟩
noncomputable def Ck:Fn:=⟨["state","thing","worth"],["state","thing","worth"],.ret (.cmp .ne (.call "worth_in" (.cons (.var 0 "state") (.cons (.var 1 "thing") .nil))) (.var 2 "worth"))⟩
noncomputable def Ny:Fn:=⟨["state","term"],["state","term"],.ret (.call "reckoned" (.cons (.var 1 "term") (.cons (.var 0 "state") .nil)))⟩
noncomputable def Nz:Fn:=⟨["state","term"],["state","term"],.ret (.cmp .ne (.call "reckoned" (.cons (.var 1 "term") (.cons (.var 0 "state") .nil))) (.cst (.int 0)))⟩
noncomputable def NB:Fn:=⟨["state","term"],["state","term"],.ret (.cmp .ne (.call "reckoned" (.cons (.var 1 "term") (.cons (.var 0 "state") .nil))) (.cst (.int 0)))⟩
noncomputable def NC:Fn:=⟨["state"],["state"],.ret (.idx (.var 0 "state") (.glo "ROW"))⟩
noncomputable def ND:Fn:=⟨["state","row"],["state","row"],.ret (.cmp .eq (.idx (.var 0 "state") (.glo "ROW")) (.var 1 "row"))⟩
noncomputable def NF:Fn:=⟨["state","number"],["state","number"],.ret (.cmp .gt (.bi .len false (.cons (.idx (.var 0 "state") (.glo "SAID")) .nil)) (.var 1 "number"))⟩
noncomputable def NG:Fn:=⟨["state","bound"],["state","bound"],.ret (.cmp .le (.call "open_in" (.cons (.var 0 "state") .nil)) (.var 1 "bound"))⟩
noncomputable def J2:Fn:=⟨["state","bound"],["state","bound"],.ret (.cmp .le (.call "open_in" (.cons (.var 0 "state") .nil)) (.var 1 "bound"))⟩
noncomputable def J3:Fn:=⟨["state","wanted"],["state","wanted"],.ret (.and (.cmp .eq (.idx (.var 0 "state") (.glo "NAMES")) (.idx (.var 1 "wanted") (.glo "NAMES"))) (.cmp .eq (.idx (.var 0 "state") (.glo "CELLS")) (.idx (.var 1 "wanted") (.glo "CELLS"))))⟩
noncomputable def J4:Fn:=⟨["state","tape","thing"],["state","tape","thing"],.ret (.cmp .eq (.call "written_next" (.cons (.var 1 "tape") (.cons (.var 0 "state") .nil))) (.var 2 "thing"))⟩
noncomputable def J5:Fn:=⟨[],[],.ret (.cst .non)⟩
noncomputable def J6:Fn:=⟨[],[],.ret (.cst .non)⟩
noncomputable def oj (i:Nat):Option Fn:=([Ci,Cj,Ck,Ny,Nz,NB,NC,ND,NF,NG,J2,J3,J4,J5,J6]:List Fn)[i]?
noncomputable def dj:List Str:=["worths_of","last_change","next_change","moments_so","last_so","next_so","visits","last_visit","when_said","next_within","last_within","first_other","writer_of","judged","remade"]
noncomputable def yR (i:Nat):Str:=dj.getD i ""
noncomputable def cg (x:Str):Str:="<"++x++">"
end BT
end
section
namespace BS
open PySem PySem.Spec PyProof.Rows L2
theorem ah {β:Type}{a:β}{P:Prop} (h:(none:Option β)=some a):P:=nomatch h
noncomputable def attrName (f:Str):Bool:=(["program","asked","gap","most","kept","farthest","front","now","origins","branches","tape","named"]:List Str).contains f
noncomputable def qe:BT.Bi->Option (String×(BT.D->Bool))
 | .isInt=>some ("int",BT.isI)
 | .isBool=>some ("bool",BT.isB)
 | .isStr=>some ("str",BT.isS)
 | .isTuple=>some ("tuple",BT.isT)
 | .isList=>some ("list",BT.isL)
 | _=>none
noncomputable def jY (sc:Pu) (x:Str):Bool:=match sc.names.lookup x with
 | some .local=>true
 | some .cell=>true
 | some .free=>true
 | _=>false
noncomputable def aV (sc:Pu) (x:Str):Bool:=sc.names.lookup x==some .globalImplicit
noncomputable def cj (x:Str):Bool:=!(x=="__debug__")&&!(x=="__classdict__")&&!(x=="__name__")
noncomputable def noStar:O1->Bool
 | .Starred _ _=>false
 | _=>true
noncomputable def je:O1->Bool
 | .Slice _ _ _ _=>false
 | _=>true
noncomputable def aB:O1->Bool
 | .Name _ _=>true
 | .Constant _ _ _=>true
 | .Subscript _ _ _=>true
 | .Attribute _ _ _=>true
 | .Call (.Attribute _ _ _) _ _ _=>true
 | _=>false
noncomputable def EE:BT.Bin->Sa->Bool
 | .add,.Add=>true
 | .sub,.Sub=>true
 | .mul,.Mult=>true
 | .mod,.Mod=>true
 | .fdiv,.FloorDiv=>true
 | .pow,.Pow=>true
 | _,_=>false
noncomputable def Co:BT.Cm->CmpOp->Bool
 | .eq,.Eq=>true
 | .ne,.NotEq=>true
 | .lt,.Lt=>true
 | .le,.LtE=>true
 | .gt,.Gt=>true
 | .ge,.GtE=>true
 | .isN,.Is=>true
 | .notN,.IsNot=>true
 | .mem,.In=>true
 | .nmem,.NotIn=>true
 | _,_=>false
noncomputable def EF:BT.D->Const->Bool
 | .non,.none=>true
 | .bl a,.bool b=>a==b
 | .int i,.int j=>i==j
 | .str x,.str y=>x==y&&PyData.strOk x
 | _,_=>false
noncomputable def yS:BT.Bi->Bool->Option Str
 | .len,false=>some "len"
 | .abs,false=>some "abs"
 | .int,false=>some "int"
 | .list,_=>some "list"
 | .tuple,false=>some "tuple"
 | .sum,false=>some "sum"
 | _,_=>none
noncomputable def EG (b:BT.Bi) (mu:Bool) (x:Str):Bool:=yS b mu==some x
noncomputable def yT:BT.Bi->Str->Bool
 | .min2,x=>x=="min"
 | .max2,x=>x=="max"
 | _,_=>false
noncomputable def Cq:O1->Option Const
 | .Constant c _ _=>some c
 | _=>none
noncomputable def cInt:Const->Option Int
 | .int j=>some j
 | _=>none
noncomputable def unE:O1->Option O1
 | .UnaryOp o e _=>if o=.USub then some e else none
 | _=>none
noncomputable def om (k:Int) (e:O1):Bool:=((Cq e).bind cInt==some k&&decide (0 < k))||(((unE e).bind Cq).bind cInt==some (-k)&&decide (k < 0))
noncomputable def yU:BT.Me->Str
 | .append=>"append"
 | .pop=>"pop"
 | .extend=>"extend"
 | .tindex=>"index"
 | .sindex=>"index"
 | .dget=>"get"
noncomputable def yV:BT.E->Bool
 | .glo _=>true
 | _=>false
noncomputable def yW (m:BT.Me) (o:BT.E):Bool:=match m with
 | .append=>true
 | .pop=>true
 | .extend=>true
 | .sindex=>false
 | .tindex=>yV o
 | .dget=>false
noncomputable def tOK:BT.E->Bool
 | .ite _ _ _=>false
 | .not a=>tOK a
 | .and a b=>tOK a&&tOK b
 | .or a b=>tOK a&&tOK b
 | .tup _=>false
 | .lst _ _=>false
 | .comp _ _ _ _ _ _ _=>false
 | _=>true
noncomputable def iP:O1->Bool
 | .Set _ _ _=>false
 | _=>true
noncomputable def qf:BT.Sr->O1->Bool
 | .zip2,.Tuple _ _ _=>true
 | .enu,.Tuple _ _ _=>true
 | .zip2,_=>false
 | .enu,_=>false
 | _,_=>true
noncomputable def aT (scope sc:Pu):Pu :=
 { scope with names:=scope.names.map fun (n,k)=>if (k==.free&&sc.kind==.function&&sc.names.lookup n==some .cell) then (n,.cell) else (n,k) }
noncomputable def nmE:O1->Option Str
 | .Name y _=>some y
 | _=>none
noncomputable def Gq:O1->List O1
 | .Tuple xs _ _=>xs
 | _=>[]
noncomputable def qi (sc:Pu) (tg:List Str) (te:O1):Bool:=((tg.map some==[nmE te])||(tg.length==2&&tg.map some==(Gq te).map nmE))&&tg.all fun x=>sc.names.lookup x==some .local
noncomputable def iQ:List Str->Bool
 | []=>true
 | x :: r=>!r.contains x&&iQ r
noncomputable def iR (sc:Pu) (N:List Str) (tg:List Str) (fv:List (Nat×Str)) (scope:Pu):Bool :=
 scope.kind==.function&&sc.kind==.function&&scope.names.all (fun y=>!(y.2==.cell))&&scope.names.all (fun y=>!(y.2==.local)||scope.names.lookup y.1==some .local) &&
 scope.names.all (fun y=>!(y.2==.free)||sc.names.lookup y.1==some .cell) &&
 fv.all (fun q=>N[q.1]?==some q.2&&scope.names.contains (q.2,.free)&&sc.names.lookup q.2==some .cell&&(aT scope sc).names.lookup q.2==some .cell)&&iQ (tg++fv.map (·.2))
mutual
inductive CE':Pu->List Str->BT.E->O1->Prop where
 | var {sc:Pu}{N:List Str}{i:Nat}{x:Str}{p:Pos} (h1:N[i]?=some x) (h2:jY sc x=true) (h3:cj x=true):CE' sc N (.var i x) (.Name x p)
 | cst {sc:Pu}{N:List Str}{d:BT.D}{c:Const}{k:Nat}{p:Pos} (h:EF d c=true):CE' sc N (.cst d) (.Constant c k p)
 | glo {sc:Pu}{N:List Str}{x:Str}{p:Pos} (h2:aV sc x=true) (h3:cj x=true):CE' sc N (.glo x) (.Name x p)
 | bin {sc:Pu}{N:List Str}{o:BT.Bin}{op:Sa}{a b:BT.E}{l r:O1}{p:Pos} (h:EE o op=true) (ha:CE' sc N a l) (hb:CE' sc N b r):CE' sc N (.bin o a b) (.BinOp l op r p)
 | neg {sc:Pu}{N:List Str}{a:BT.E}{x:O1}{p:Pos} (ha:CE' sc N a x):CE' sc N (.neg a) (.UnaryOp .USub x p)
 | not {sc:Pu}{N:List Str}{a:BT.E}{x:O1}{p:Pos} (ha:CE' sc N a x):CE' sc N (.not a) (.UnaryOp .Not x p)
 | and2 {sc:Pu}{N:List Str}{a b:BT.E}{x y:O1}{p:Pos} (ha:CE' sc N a x) (hb:CE' sc N b y):CE' sc N (.and a b) (.BoolOp .And [x,y] p)
 | and3 {sc:Pu}{N:List Str}{a b:BT.E}{x y z:O1}{r:List O1}{p:Pos} (ha:CE' sc N a x) (hb:CE' sc N b (.BoolOp .And (y :: z :: r) p)):CE' sc N (.and a b) (.BoolOp .And (x :: y :: z :: r) p)
 | or2 {sc:Pu}{N:List Str}{a b:BT.E}{x y:O1}{p:Pos} (ha:CE' sc N a x) (hb:CE' sc N b y):CE' sc N (.or a b) (.BoolOp .Or [x,y] p)
 | or3 {sc:Pu}{N:List Str}{a b:BT.E}{x y z:O1}{r:List O1}{p:Pos} (ha:CE' sc N a x) (hb:CE' sc N b (.BoolOp .Or (y :: z :: r) p)):CE' sc N (.or a b) (.BoolOp .Or (x :: y :: z :: r) p)
 | cmp {sc:Pu}{N:List Str}{o:BT.Cm}{op:CmpOp}{a b:BT.E}{l r:O1}{p:Pos} (h:Co o op=true) (ha:CE' sc N a l) (hb:CE' sc N b r) (hm:Uh op r=false):CE' sc N (.cmp o a b) (.Compare l [op] [r] p)
 | chain {sc:Pu}{N:List Str}{o o':BT.Cm}{op op':CmpOp}{a b c:BT.E}{l r r':O1}{p:Pos} (h:Co o op=true) (h':Co o' op'=true) (ha:CE' sc N a l) (hb:CE' sc N b r) (hc:CE' sc N c r') (hm:lastMarks [op,op'] [r,r']=false):CE' sc N (.chain o o' a b c) (.Compare l [op,op'] [r,r'] p)
 | ite {sc:Pu}{N:List Str}{c a b:BT.E}{t x y:O1}{p:Pos} (h:tOK c=true) (hc:CE' sc N c t) (ha:CE' sc N a x) (hb:CE' sc N b y):CE' sc N (.ite c a b) (.IfExp t x y p)
 | tup {sc:Pu}{N:List Str}{as:BT.Es}{es:List O1}{k:Nat}{p:Pos} (h:CEs sc N as es):CE' sc N (.tup as) (.Tuple es k p)
 | lst {sc:Pu}{N:List Str}{mu:Bool}{as:BT.Es}{es:List O1}{p:Pos} (h:CEs sc N as es):CE' sc N (.lst mu as) (.List es p)
 | idx {sc:Pu}{N:List Str}{a i:BT.E}{x sl:O1}{p:Pos} (ha:CE' sc N a x) (hi:CE' sc N i sl) (hs:je sl=true):CE' sc N (.idx a i) (.Subscript x sl p)
 | slc {sc:Pu}{N:List Str}{a:BT.E}{lo hi:BT.Es}{x:O1}{l u:Option O1}{p2 p:Pos} (ha:CE' sc N a x) (hl:CO sc N lo l) (hu:CO sc N hi u):CE' sc N (.slc a lo hi) (.Subscript x (.Slice l u none p2) p)
 | call {sc:Pu}{N:List Str}{f:Str}{as:BT.Es}{es:List O1}{np p:Pos} (hg:aV sc f=true) (hn:cj f=true) (ha:CEs sc N as es):CE' sc N (.call f as) (.Call (.Name f np) es [] p)
 | sset {sc:Pu}{N:List Str}{a:BT.E}{e:O1}{np zp p pos:Pos} (hg:aV sc "sorted"=true) (hg2:aV sc "set"=true) (hs:noStar e=true) (h:CE' sc N a e) :
  CE' sc N (.bi .sset false (.cons a .nil)) (.Call (.Name "sorted" np) [.Call (.Name "set" zp) [e] [] pos] [] p)
 | bi {sc:Pu}{N:List Str}{b:BT.Bi}{mu:Bool}{x:Str}{a:BT.E}{e:O1}{np p:Pos} (hb:EG b mu x=true) (hg:aV sc x=true) (hs:noStar e=true) (ha:CE' sc N a e):CE' sc N (.bi b mu (.cons a .nil)) (.Call (.Name x np) [e] [] p)
 | inst {sc:Pu}{N:List Str}{b:BT.Bi}{c:String}{f:BT.D->Bool}{a:BT.E}{e:O1}{np p2 p:Pos} (hb:qe b=some (c,f)) (hg:aV sc "isinstance"=true) (hg2:aV sc (Pp c)=true) (hs:noStar e=true) (ha:CE' sc N a e) :
  CE' sc N (.bi b false (.cons a .nil)) (.Call (.Name "isinstance" np) [e,.Name (Pp c) p2] [] p)
 | me {sc:Pu}{N:List Str}{m:BT.Me}{o:BT.E}{as:BT.Es}{oe:O1}{name:Str}{apos cpos:Pos}{es:List O1} (h1:yW m o=true) (h2:name=yU m) (h3:aB oe=true) (h6:(apos.endLine==cpos.line)=true) (h7:es.length < 20) (ho:CE' sc N o oe) (ha:CEs sc N as es) :
  CE' sc N (.me m o as) (.Call (.Attribute oe name apos) es [] cpos)
 | comp {sc:Pu}{N:List Str}{mu:Bool}{sr:BT.Sr}{sa:BT.Es}{tg:List Str}{fv:List (Nat×Str)}{cond:BT.Es}{elt:BT.E}{te iter elt':O1}{ifs:List O1}{scope:Pu}{pos:Pos}
  (hk:iR sc N tg fv scope=true) (ht:qi (aT scope sc) tg te=true) (hz:qf sr te=true) (hs:iP iter=true) (hi:CI sc N sr sa iter)
  (hc:CC (aT scope sc) (tg++fv.map (·.2)) cond ifs) (he:CE' (aT scope sc) (tg++fv.map (·.2)) elt elt'):CE' sc N (.comp mu sr sa tg fv cond elt) (.ListComp elt' [⟨te,iter,ifs,0⟩] scope pos)
 | fld {sc:Pu}{N:List Str}{a:BT.E}{f:Str}{x:O1}{p:Pos} (hb:aB x=true) (hf:attrName f=true) (ha:CE' sc N a x):CE' sc N (.fld a f) (.Attribute x f p)
 | meth {sc:Pu}{N:List Str}{o:BT.E}{m:Str}{as:BT.Es}{oe:O1}{apos cpos:Pos}{es:List O1} (h3:aB oe=true) (h6:(apos.endLine==cpos.line)=true) (h7:es.length < 20) (ho:CE' sc N o oe) (ha:CEs sc N as es) :
  CE' sc N (.meth o m as) (.Call (.Attribute oe m apos) es [] cpos)
 | stp {sc:Pu}{N:List Str}{mu:Bool}{k:Int}{a:BT.E}{x se:O1}{p2 p:Pos} (hk:om k se=true) (ha:CE' sc N a x):CE' sc N (.stp mu k a) (.Subscript x (.Slice none none (some se) p2) p)
 | bi2 {sc:Pu}{N:List Str}{b:BT.Bi}{x:Str}{a1 a2:BT.E}{e1 e2:O1}{np p:Pos} (hb:yT b x=true) (hg:aV sc x=true) (hs1:noStar e1=true) (hs2:noStar e2=true) (h1:CE' sc N a1 e1) (h2:CE' sc N a2 e2) :
  CE' sc N (.bi b false (.cons a1 (.cons a2 .nil))) (.Call (.Name x np) [e1,e2] [] p)
 | make {sc:Pu}{N:List Str}{c:Str}{as:BT.Es}{es:List O1}{np p:Pos} (hg:aV sc c=true) (hn:cj c=true) (ha:CEs sc N as es):CE' sc N (.make c as) (.Call (.Name c np) es [] p)
 | callv {sc:Pu}{N:List Str}{i:Nat}{x:Str}{as:BT.Es}{e:O1}{es:List O1}{np p:Pos} (h1:N[i]?=some x) (h2:jY sc x=true) (h3:cj x=true) (ha:CEs sc N as (e :: es)):CE' sc N (.callv i x as) (.Call (.Name x np) (e :: es) [] p)
 | dnew {sc:Pu}{N:List Str}{p:Pos}:CE' sc N .dnew (.Dict [] [] p)
 | dgt {sc:Pu}{N:List Str}{o k d:BT.E}{oe ke de:O1}{apos cpos:Pos} (h3:aB oe=true) (h6:(apos.endLine==cpos.line)=true) (hs1:noStar ke=true) (hs2:noStar de=true) (ho:CE' sc N o oe) (hk:CE' sc N k ke) (hd:CE' sc N d de):CE' sc N (.dgt o k d) (.Call (.Attribute oe "get" apos) [ke,de] [] cpos)
 | dsi {sc:Pu}{N:List Str}{o:BT.E}{oe:O1}{np p apos pos:Pos} (hg:aV sc "sorted"=true) (h3:aB oe=true) (h6:(apos.endLine==pos.line)=true) (ho:CE' sc N o oe):CE' sc N (.dsi o) (.Call (.Name "sorted" np) [.Call (.Attribute oe "items" apos) [] [] pos] [] p)
inductive CEs:Pu->List Str->BT.Es->List O1->Prop where
 | nil {sc:Pu}{N:List Str}:CEs sc N .nil []
 | cons {sc:Pu}{N:List Str}{a:BT.E}{as:BT.Es}{e:O1}{es:List O1} (hs:noStar e=true) (ha:CE' sc N a e) (hr:CEs sc N as es):CEs sc N (.cons a as) (e :: es)
inductive CO:Pu->List Str->BT.Es->Option O1->Prop where
 | nil {sc:Pu}{N:List Str}:CO sc N .nil none
 | one {sc:Pu}{N:List Str}{a:BT.E}{e:O1} (ha:CE' sc N a e):CO sc N (.cons a .nil) (some e)
inductive CC:Pu->List Str->BT.Es->List O1->Prop where
 | nil {sc:Pu}{N:List Str}:CC sc N .nil []
 | one {sc:Pu}{N:List Str}{a:BT.E}{e:O1} (ht:tOK a=true) (ha:CE' sc N a e):CC sc N (.cons a .nil) [e]
inductive CI:Pu->List Str->BT.Sr->BT.Es->O1->Prop where
 | rng1 {sc:Pu}{N:List Str}{a:BT.E}{e:O1}{p pos:Pos} (hg:aV sc "range"=true) (hs:noStar e=true) (h:CE' sc N a e):CI sc N .rng1 (.cons a .nil) (.Call (.Name "range" p) [e] [] pos)
 | rng2 {sc:Pu}{N:List Str}{a b:BT.E}{x y:O1}{p pos:Pos} (hg:aV sc "range"=true) (hs:noStar x=true) (hs2:noStar y=true) (ha:CE' sc N a x) (hb:CE' sc N b y):CI sc N .rng2 (.cons a (.cons b .nil)) (.Call (.Name "range" p) [x,y] [] pos)
 | rev {sc:Pu}{N:List Str}{a:BT.E}{e:O1}{p pos:Pos} (hg:aV sc "reversed"=true) (hs:noStar e=true) (h:CE' sc N a e):CI sc N .rev (.cons a .nil) (.Call (.Name "reversed" p) [e] [] pos)
 | seq {sc:Pu}{N:List Str}{a:BT.E}{x:O1} (h:CE' sc N a x):CI sc N .seq (.cons a .nil) x
end
inductive LPa:Q8->List Str->Prop where
 | one {p:Pos}:LPa ⟨[],[⟨"state",none,p⟩],none,[],[],none,[]⟩ ["state"]
 | two {p q:Pos}:LPa ⟨[],[⟨"row",none,p⟩,⟨"state",none,q⟩],none,[],[],none,[]⟩ ["row","state"]
noncomputable def nq (ps fs:List Str) (sc:Pu):Bool :=
 sc.kind==.function&&!sc.isCoroutine&&!sc.isGenerator&&sc.names.all (fun y=>!(y.2==.cell))&&ps.all (fun x=>sc.names.lookup x==some .local) &&
 fs.all (fun x=>sc.names.lookup x==some .free&&sc.names.contains (x,.free))&&sc.names.all (fun y=>!(y.2==.free)||fs.contains y.1)&&iQ (ps++fs)
noncomputable def yX (sc:Pu) (N:List Str) (fv:List (Nat×Str)):Bool:=fv.all fun q=>N[q.1]?==some q.2&&sc.names.lookup q.2==some .cell
inductive CL (sc:Pu) (N:List Str):BT.E->Str->BT.Es->Nat->List (Nat×Str)->O1->Prop where
 | zero {o bt:BT.E}{m:Str}{L:Nat}{fv:List (Nat×Str)}{oe be:O1}{apos cpos lp:Pos}{pa:Q8}{scope:Pu}{ns ps:List Str} (hl:BT.oj L=some ⟨ns,ns,.ret bt⟩) (hp:LPa pa ps) (hn:ns=ps++fv.map (·.2)) (hk:nq ps (fv.map (·.2)) scope=true) (hv:yX sc N fv=true)
  (ht:N.contains (BT.cg (BT.yR L))=true) (hc:CE' scope ns bt be) (h3:aB oe=true) (h6:(apos.endLine==cpos.line)=true) (ho:CE' sc N o oe):CL sc N o m .nil L fv (.Call (.Attribute oe m apos) [.Lambda pa be scope lp] [] cpos)
 | one {o bt a:BT.E}{m:Str}{L:Nat}{fv:List (Nat×Str)}{oe be e:O1}{apos cpos lp:Pos}{pa:Q8}{scope:Pu}{ns ps:List Str} (hl:BT.oj L=some ⟨ns,ns,.ret bt⟩) (hp:LPa pa ps) (hn:ns=ps++fv.map (·.2)) (hk:nq ps (fv.map (·.2)) scope=true) (hv:yX sc N fv=true)
  (ht:N.contains (BT.cg (BT.yR L))=true) (hc:CE' scope ns bt be) (h3:aB oe=true) (h6:(apos.endLine==cpos.line)=true) (ho:CE' sc N o oe) (hs:noStar e=true) (ha:CE' sc N a e):CL sc N o m (.cons a .nil) L fv (.Call (.Attribute oe m apos) [e,.Lambda pa be scope lp] [] cpos)
end BS
end
section
namespace BS
open PySem PySem.Spec PyProof.Rows L2
noncomputable def KT (K:O0) (a:Addr) (xs:List V):Prop :=
 ∃ (o:Obj) (its:Array O3) (n:Nat),(K.lookup a=some o/\o.cls=.type "tuple"/\o.data=.seq its n/\its.size<=sizeLine/\au xs its.toList)/\o.dict=none
noncomputable def KL (K:O0) (a:Addr) (xs:List V):Prop:=∃ (its:List O3) (n:Nat),K.lookup a=some { cls:=.type "list",data:=.seq its.toArray n }/\its.length<=sizeLine/\au xs its
noncomputable def LL (K:O0) (H:Hp) (a:Addr) (xs:List V):Prop:=Rd H a (.lst xs)\/KL K a xs
theorem LL.sq {K:O0}{H:Hp}{a:Addr}{xs:List V} (h:LL K H a xs):SqL K H a xs:=by
 rcases h with h | ⟨its,n,h1,h2,h3⟩
 ·exact .inl h
 ·exact .inr ⟨_,its.toArray,n,h1,rfl,rfl,rfl,by simpa using h2,by simpa using h3⟩
noncomputable def KD (P:Pi) (w:PK) (K:O0) (a:Addr) (es:List (Str×V)):Prop :=
 (a==RE)=false/\∃ vs:List (Key×O3),KV (es.map fun q=>(Sum.inr q.1,q.2)) vs/\∀ h:Heap,K.In h->h.DictOf (aG P w) a vs
mutual
inductive RD (K:O0) (m:List Addr) (H:Hp):V->BT.D->Prop where
 | non:RD K m H .non .non
 | bl (b:Bool):RD K m H (.bl b) (.bl b)
 | int (i:Int):RD K m H (.int i) (.int i)
 | str (x:Str) (h:PyData.strOk x=true):RD K m H (.str x) (.str x)
 | tup {a:Addr}{vs:List V}{ds:List BT.D} (h:(Rd H a (.tup vs)/\a∉m)\/KT K a vs) (r:RDs K m H vs ds):RD K m H (.ref a) (.tup ds)
 | lst {a:Addr}{vs:List V}{ds:List BT.D} (h:(Rd H a (.lst vs)/\a∉m)\/KL K a vs) (r:RDs K m H vs ds):RD K m H (.ref a) (.lst ds)
inductive RDs (K:O0) (m:List Addr) (H:Hp):List V->List BT.D->Prop where
 | nil:RDs K m H [] []
 | cons {v:V}{d:BT.D}{vs:List V}{ds:List BT.D} (r:RD K m H v d) (t:RDs K m H vs ds):RDs K m H (v :: vs) (d :: ds)
end
inductive RDk (K:O0):List (Str×V)->List (Str×BT.D)->Prop where
 | nil:RDk K [] []
 | cons {x:Str}{v:V}{d:BT.D}{es:List (Str×V)}{kvs:List (Str×BT.D)} (r:∀ m H,RD K m H v d) (t:RDk K es kvs):RDk K ((x,v) :: es) ((x,d) :: kvs)
inductive RA (K:O0) (m:List Addr) (H:Hp):V->BT.W->Prop where
 | p {v:V}{d:BT.D} (r:RD K m H v d):RA K m H v (.p d)
 | r {a:Addr}{n:Nat} (h:m[n]?=some a):RA K m H (.ref a) (.r n)
 | o {a:Addr}{n:Nat} (h:m[n]?=some a):RA K m H (.ref a) (.o n)
noncomputable def Tr (m:List Addr) (H:Hp) (a:Addr) (o:Obj):Prop:=H a=some (.frz o (.own 0))/\a∉m
noncomputable def wg (x:Str):Str:=x++".<locals>."++"<lambda>"
inductive gn (m:List Addr) (H:Hp) (cl:List (Str×Addr)):List Str->List V->Prop where
 | nil:gn m H cl [] []
 | cons {x:Str}{c:Addr}{o:Obj}{u:O3}{v:V}{xs:List Str}{vs:List V} (h1:cl.lookup x=some c) (h2:Tr m H c o) (h3:o.data=.cell (some u)) (r:RelV v u) (t:gn m H cl xs vs):gn m H cl (x :: xs) (v :: vs)
noncomputable def gD (m:List Addr) (H:Hp) (f:Addr) (L:Nat) (vs:List V):Prop :=
 ∃ bt ps fs pa be sc cl pm ctv c' oc os t q,BT.oj L=some ⟨ps++fs,ps++fs,.ret bt⟩/\LPa pa ps/\nq ps fs sc=true/\CE' sc (ps++fs) bt be/\(∀ x y c,cl.lookup x=some c->cl.lookup y=some c->x=y)/\(∀ x c,cl.lookup x=some c->x∈fs) ∧
  Tr m H f (SH "<lambda>" q pa be sc cl pm c' ctv)/\Tr m H c' oc/\oc.data=.fields os/\os[1]?=some (.str q t)/\gn m H cl fs vs
inductive RCs (K:O0) (m:List Addr) (H:Hp):List V->List BT.Cp->Prop where
 | nil:RCs K m H [] []
 | cons {v:V}{x:BT.Cp}{vs:List V}{xs:List BT.Cp} (r:RA K m H v x.w) (t:RCs K m H vs xs):RCs K m H (v :: vs) (x :: xs)
noncomputable def TB (K:O0) (H:Hp):Prop:=∀ x∈BT.dj,∀ c P,P9 K x=some (c,P)->∃ ps,H P=some (.tbl ps)/\TriplesOk ps.toList ∧
 ∀ pos v,Sv pos ps.toList=some v->∃ c' oc os t,v=.ref c'/\H c'=some (.frz oc (.own 0))/\oc.data=.fields os/\os[1]?=some (.str (wg x) t)
theorem TB.mono {K:O0}{H H':Hp} (h:TB K H) (h1:∀ P ps,H P=some (.tbl ps)->H' P=some (.tbl ps)) (h2:∀ a o vs,o.data=.fields vs->H a=some (.frz o (.own 0))->H' a=some (.frz o (.own 0))):TB K H':=fun x hx c P e=>by
 obtain ⟨ps,e1,e2,e3⟩:=h x hx c P e
 refine ⟨ps,h1 _ _ e1,e2,fun pos v q=>?_⟩
 obtain ⟨c',oc,os,t,q1,q2,q3⟩:=e3 pos v q
 exact ⟨c',oc,os,t,q1,h2 _ _ _ q3.1 q2,q3⟩
inductive RW (P:Pi) (w:PK) (K:O0) (m:List Addr) (H:Hp):V->BT.W->Prop where
 | p {v:V}{d:BT.D} (r:RD K m H v d):RW P w K m H v (.p d)
 | r {a:Addr}{n:Nat} (h:m[n]?=some a):RW P w K m H (.ref a) (.r n)
 | k {a:Addr}{es:List (Str×V)}{kvs:List (Str×BT.D)} (h:KD P w K a es) (r:RDk K es kvs):RW P w K m H (.ref a) (.k kvs)
 | o {a:Addr}{n:Nat} (h:m[n]?=some a):RW P w K m H (.ref a) (.o n)
 | c {f:Addr}{L:Nat}{vs:List V}{cs:List BT.Cp} (h:gD m H f L vs) (r:RCs K m H vs cs):RW P w K m H (.ref f) (.c (.l L) cs)
 | g {f:Addr}{x:Str} (h:P1 K Po x=some (some (.ref f))) (r:Qp K (.ref f)=true):RW P w K m H (.ref f) (.c (.f x) [])
inductive RFs (K:O0) (m:List Addr) (H:Hp):List (Str×V)->List (Str×BT.W)->Prop where
 | nil:RFs K m H [] []
 | cons {f:Str}{v:V}{x:BT.W}{vs:List (Str×V)}{fs:List (Str×BT.W)} (r:RA K m H v x) (t:RFs K m H vs fs):RFs K m H ((f,v) :: vs) ((f,x) :: fs)
inductive RKs (K:O0) (m:List Addr) (H:Hp):List (Key×V)->List (BT.Ky×BT.D)->Prop where
 | nil:RKs K m H [] []
 | cons {k:Key}{v:V}{d:BT.D}{vs:List (Key×V)}{kvs:List (BT.Ky×BT.D)} (hk:RD K m H (kV k) (BT.rR k)) (r:RD K m H v d) (t:RKs K m H vs kvs):RKs K m H ((k,v) :: vs) ((k,d) :: kvs)
noncomputable def CN (K:O0) (c:Str) (C:Addr):Prop:=P1 K Po c=some (some (.ref C))
theorem CN.inj {K:O0}{c:Str}{C C':Addr} (h:CN K c C) (h':CN K c C'):C=C':=by
 have e:=h.symm.trans h'
 simpa using e
structure lq (K:O0) (c:Str) (C:Addr):Prop where
 cn:CN K c C
 cls:Cls K C
 no:∀ f,attrName f=true->gr K C f
noncomputable def gE (K:O0) (m:List Addr) (H:Hp) (a:Addr):BT.Cl->Prop
 | .l xs=>∃ vs,H a=some (.lst vs)/\RDs K m H vs xs
 | .o c fs=>∃ C dx vs,H a=some (.ins C dx vs)/\lq K c C/\RFs K m H vs fs
 | .d kvs=>∃ vs,H a=some (.dK vs)/\RKs K m H vs kvs
inductive RWs (P:Pi) (w:PK) (K:O0) (m:List Addr) (H:Hp):List V->List BT.W->Prop where
 | nil:RWs P w K m H [] []
 | cons {v:V}{x:BT.W}{vs:List V}{xs:List BT.W} (r:RW P w K m H v x) (t:RWs P w K m H vs xs):RWs P w K m H (v :: vs) (x :: xs)
structure RH (K:O0) (m:List Addr) (H:Hp) (h:BT.HH):Prop where
 nd:m.Nodup
 len:m.length=h.length
 cl:∀ (i:Nat) (a:Addr) (c:BT.Cl),m[i]?=some a->h[i]?=some c->gE K m H a c
 tb:TB K H
theorem yY {h:BT.HH}{n:Nat}{xs:List BT.D} (e:BT.lat h n=some xs):h[n]?=some (.l xs):=by
 unfold BT.lat at e
 cases g:h[n]? with
 | none=>rw[g] at e;cases e
 | some c=>rw[g] at e;cases c<;>simp[BT.nU] at e;rw[e]
theorem yZ {h:BT.HH}{n:Nat}{c:Str}{fs:List (Str×BT.W)} (e:BT.oat h n=some (c,fs)):h[n]?=some (.o c fs):=by
 unfold BT.oat at e
 cases g:h[n]? with
 | none=>rw[g] at e;cases e
 | some c=>rw[g] at e;cases c<;>simp[BT.p6] at e;rw[e.1,e.2]
theorem y9 {h:BT.HH}{n:Nat}{kvs:List (BT.Ky×BT.D)} (e:BT.dat h n=some kvs):h[n]?=some (.d kvs):=by
 unfold BT.dat at e
 cases g:h[n]? with
 | none=>rw[g] at e;cases e
 | some c=>rw[g] at e;cases c<;>simp[BT.vY] at e;rw[e]
theorem RH.tZ {K:O0}{m:List Addr}{H:Hp}{h:BT.HH} (R:RH K m H h) (i:Nat) (a:Addr) (kvs:List (BT.Ky×BT.D)) (e:m[i]?=some a) (g:BT.dat h i=some kvs):∃ vs,H a=some (.dK vs)/\RKs K m H vs kvs:=R.cl i a _ e (y9 g)
theorem RH.cell {K:O0}{m:List Addr}{H:Hp}{h:BT.HH} (R:RH K m H h) (i:Nat) (a:Addr) (xs:List BT.D) (e:m[i]?=some a) (g:BT.lat h i=some xs):∃ vs,H a=some (.lst vs)/\RDs K m H vs xs:=R.cl i a _ e (yY g)
theorem RH.nu {K:O0}{m:List Addr}{H:Hp}{h:BT.HH} (R:RH K m H h) (i:Nat) (a:Addr) (c:Str) (fs:List (Str×BT.W)) (e:m[i]?=some a) (g:BT.oat h i=some (c,fs)):∃ C dx vs,H a=some (.ins C dx vs)/\lq K c C/\RFs K m H vs fs:=R.cl i a _ e (yZ g)
structure RS (P:Pi) (w:PK) (K:O0) (m:List Addr) (H:Hp) (σ:L2.St) (s:BT.Sl):Prop where
 len:σ.length=s.length
 get:∀ (i:Nat) (x:BT.W),s[i]?=some (some x)->∃ v,σ[i]?=some (some v)/\RW P w K m H v x
noncomputable def za:HO->Bool
 | .tbl _=>true
 | _=>false
structure Ext (m:List Addr) (H:Hp) (m':List Addr) (H':Hp):Prop where
 pre:∃ e,m'=m++e/\∀ a∈e,H a=none
 keep:∀ a o,H a=some o->a∉m->za o=false->H' a=some o
 live:∀ a,H' a=none->H a=none
theorem Ext.refl (m:List Addr) (H:Hp):Ext m H m H:=⟨⟨[],by simp,by simp⟩,fun _ _ h _ _=>h,fun _ h=>h⟩
theorem Ext.dY {m m':List Addr}{H H':Hp} (x:Ext m H m' H') {a:Addr}{o:HO} (h:H a=some o) (n:a∉m):a∉m':=by
 obtain ⟨e,rfl,he⟩:=x.pre
 intro q
 rcases List.mem_append.mp q with q | q
 ·exact n q
 ·rw[he a q] at h;cases h
theorem Ext.trans {m m1 m2:List Addr}{H H1 H2:Hp} (x:Ext m H m1 H1) (y:Ext m1 H1 m2 H2):Ext m H m2 H2:=by
 obtain ⟨e,rfl,he⟩:=x.pre
 obtain ⟨e',rfl,he'⟩:=y.pre
 refine ⟨⟨e++e',by rw[Qt],fun a ha=>?_⟩,fun a o h n t=>y.keep a o (x.keep a o h n t) (x.dY h n) t,fun a h=>x.live a (y.live a h)⟩
 rcases List.mem_append.mp ha with q | q
 ·exact he a q
 ·exact x.live a (he' a q)
theorem Rd.ext {m m':List Addr}{H H':Hp} (x:Ext m H m' H') {a:Addr}{u:HO} (h:Rd H a u) (n:a∉m) (t:za u=false:=by rfl):Rd H' a u/\a∉m':=by
 rcases h with h | ⟨o,h⟩
 ·exact ⟨.inl (x.keep _ _ h n t),x.dY h n⟩
 ·exact ⟨.inr ⟨o,x.keep _ _ h n rfl⟩,x.dY h n⟩
theorem Tr.ext {m m':List Addr}{H H':Hp} (x:Ext m H m' H') {a:Addr}{o:Obj} (h:Tr m H a o):Tr m' H' a o:=⟨x.keep _ _ h.1 h.2 rfl,x.dY h.1 h.2⟩
theorem gn.ext {m m':List Addr}{H H':Hp} (x:Ext m H m' H') {cl:List (Str×Addr)}{xs:List Str}{vs:List V} (r:gn m H cl xs vs):gn m' H' cl xs vs:=by
 induction r with
 | nil=>exact .nil
 | cons h1 h2 h3 r t ih=>exact .cons h1 (h2.ext x) h3 r ih
theorem gD.ext {m m':List Addr}{H H':Hp} (x:Ext m H m' H') {f:Addr}{L:Nat}{vs:List V} (h:gD m H f L vs):gD m' H' f L vs:=by
 obtain ⟨bt,ps,fs,pa,be,sc,cl,pm,ctv,c',oc,os,t,q,h0,h1,h2,h3,h4,h5,h6,h7,h8,h9,h10⟩:=h
 exact ⟨bt,ps,fs,pa,be,sc,cl,pm,ctv,c',oc,os,t,q,h0,h1,h2,h3,h4,h5,h6.ext x,h7.ext x,h8,h9,h10.ext x⟩
section
variable {P:Pi}{w:PK}{K:O0}{m m':List Addr}{H H':Hp}
mutual
theorem RD.ext (x:Ext m H m' H'):∀ {v:V}{d:BT.D},RD K m H v d->RD K m' H' v d
 | _,_,.non=>.non
 | _,_,.bl b=>.bl b
 | _,_,.int i=>.int i
 | _,_,.str y h=>.str y h
 | _,_,.tup h r=>.tup (h.elim (fun q=>.inl (Rd.ext x q.1 q.2)) .inr) (RDs.ext x r)
 | _,_,.lst h r=>.lst (h.elim (fun q=>.inl (Rd.ext x q.1 q.2)) .inr) (RDs.ext x r)
theorem RDs.ext (x:Ext m H m' H'):∀ {vs:List V}{ds:List BT.D},RDs K m H vs ds->RDs K m' H' vs ds
 | _,_,.nil=>.nil
 | _,_,.cons r t=>.cons (RD.ext x r) (RDs.ext x t)
end
theorem RA.rw {v:V}{d:BT.W} (r:RA K m H v d):RW P w K m H v d:=by
 cases r with
 | p r=>exact .p r
 | r h=>exact .r h
 | o h=>exact .o h
theorem RW.ra {v:V}{d:BT.W} (r:RW P w K m H v d) (h0:BT.attrOk d=true):RA K m H v d:=by
 cases r with
 | p r=>exact .p r
 | r h=>exact .r h
 | o h=>exact .o h
 | k _ _=>cases h0
 | c _ _=>cases h0
 | g _ _=>cases h0
theorem Ext.ix (x:Ext m H m' H') {n:Nat}{a:Addr} (h:m[n]?=some a):m'[n]?=some a:=by
 obtain ⟨e,rfl,_⟩:=x.pre
 rw[Pd (by rcases Pq _ m.length with q | q;exact q;rw[Pj q] at h;cases h)]
 exact h
theorem RA.ext (x:Ext m H m' H') {v:V}{d:BT.W} (r:RA K m H v d):RA K m' H' v d:=by
 cases r with
 | p r=>exact .p (r.ext x)
 | r h=>exact .r (x.ix h)
 | o h=>exact .o (x.ix h)
theorem RCs.ext (x:Ext m H m' H') {vs:List V}{cs:List BT.Cp} (r:RCs K m H vs cs):RCs K m' H' vs cs:=by
 induction r with
 | nil=>exact .nil
 | cons r t ih=>exact .cons (r.ext x) ih
theorem RW.ext (x:Ext m H m' H') {v:V}{d:BT.W} (r:RW P w K m H v d):RW P w K m' H' v d:=by
 cases r with
 | p r=>exact .p (r.ext x)
 | r h =>
  obtain ⟨e,rfl,_⟩:=x.pre
  refine .r ?_
  rw[Pd (by rcases Pq _ m.length with q | q;exact q;rw[Pj q] at h;cases h)]
  exact h
 | k h r=>exact .k h r
 | c h r=>exact .c (h.ext x) (r.ext x)
 | g h r=>exact .g h r
 | o h =>
  obtain ⟨e,rfl,_⟩:=x.pre
  refine .o ?_
  rw[Pd (by rcases Pq _ m.length with q | q;exact q;rw[Pj q] at h;cases h)]
  exact h
theorem RFs.ext (x:Ext m H m' H') {vs:List (Str×V)}{fs:List (Str×BT.W)} (r:RFs K m H vs fs):RFs K m' H' vs fs:=by
 induction r with
 | nil=>exact .nil
 | cons r t ih=>exact .cons (r.ext x) ih
theorem RKs.ext (x:Ext m H m' H') {vs:List (Key×V)}{kvs:List (BT.Ky×BT.D)} (r:RKs K m H vs kvs):RKs K m' H' vs kvs:=by
 induction r with
 | nil=>exact .nil
 | cons hk r t ih=>exact .cons (hk.ext x) (r.ext x) ih
theorem gE.ext (x:Ext m H m' H') {a:Addr} (e:H' a=H a) {c:BT.Cl} (r:gE K m H a c):gE K m' H' a c:=by
 cases c with
 | l xs=>obtain ⟨vs,h1,h2⟩:=r;exact ⟨vs,e.trans h1,h2.ext x⟩
 | o c fs=>obtain ⟨C,dx,vs,h1,h2,h3⟩:=r;exact ⟨C,dx,vs,e.trans h1,h2,h3.ext x⟩
 | d kvs=>obtain ⟨vs,h1,h2⟩:=r;exact ⟨vs,e.trans h1,h2.ext x⟩
theorem gE.some {a:Addr}{c:BT.Cl} (r:gE K m H a c):∃ o,H a=some o:=by
 cases c with
 | l xs=>obtain ⟨vs,h1,h2⟩:=r;exact ⟨_,h1⟩
 | o c fs=>obtain ⟨C,dx,vs,h1,h2,h3⟩:=r;exact ⟨_,h1⟩
 | d kvs=>obtain ⟨vs,h1,h2⟩:=r;exact ⟨_,h1⟩
theorem RWs.ext (x:Ext m H m' H') {vs:List V}{ds:List BT.W} (r:RWs P w K m H vs ds):RWs P w K m' H' vs ds:=by
 induction r with
 | nil=>exact .nil
 | cons r t ih=>exact .cons (r.ext x) ih
theorem RS.ext (x:Ext m H m' H') {σ:L2.St}{s:BT.Sl} (r:RS P w K m H σ s):RS P w K m' H' σ s :=
 ⟨r.len,fun i y e=>by obtain ⟨v,h,q⟩:=r.get i y e;exact ⟨v,h,q.ext x⟩⟩
theorem RDs.length:∀ {vs:List V}{ds:List BT.D},RDs K m H vs ds->vs.length=ds.length
 | _,_,.nil=>rfl
 | _,_,.cons _ t=>by rw[Pk,Pk,RDs.length t]
theorem RWs.length:∀ {vs:List V}{ds:List BT.W},RWs P w K m H vs ds->vs.length=ds.length
 | _,_,.nil=>rfl
 | _,_,.cons _ t=>by rw[Pk,Pk,RWs.length t]
theorem RDs.get:∀ {vs:List V}{ds:List BT.D}{i:Nat}{d:BT.D},RDs K m H vs ds->ds[i]?=some d->∃ v,vs[i]?=some v/\RD K m H v d
 | _,_,_,_,.nil,e=>by simp at e
 | _,_,0,_,.cons r _,e=>by simp at e;subst e;exact ⟨_,rfl,r⟩
 | _,_,i+1,d,.cons _ t,e=>by
  obtain ⟨u,h1,h2⟩:=RDs.get (i:=i) (d:=d) t (by simpa using e)
  exact ⟨u,by simpa using h1,h2⟩
theorem RDs.append:∀ {vs ws:List V}{ds es:List BT.D},RDs K m H vs ds->RDs K m H ws es->RDs K m H (vs++ws) (ds++es)
 | _,_,_,_,.nil,s=>s
 | _,_,_,_,.cons r t,s=>.cons r (RDs.append t s)
theorem RDs.take:∀ {vs:List V}{ds:List BT.D} (n:Nat),RDs K m H vs ds->RDs K m H (vs.take n) (ds.take n)
 | _,_,0,_=>.nil
 | _,_,_+1,.nil=>.nil
 | _,_,n+1,.cons r t=>.cons r (RDs.take n t)
theorem RDs.drop:∀ {vs:List V}{ds:List BT.D} (n:Nat),RDs K m H vs ds->RDs K m H (vs.drop n) (ds.drop n)
 | _,_,0,r=>r
 | _,_,_+1,.nil=>.nil
 | _,_,n+1,.cons _ t=>RDs.drop n t
theorem RDs.set {v:V}{d:BT.D} (r:RD K m H v d):∀ {vs:List V}{ds:List BT.D} (i:Nat),RDs K m H vs ds->RDs K m H (vs.set i v) (ds.set i d)
 | _,_,_,.nil=>.nil
 | _,_,0,.cons _ t=>.cons r t
 | _,_,i+1,.cons q t=>.cons q (RDs.set r i t)
theorem RDs.pick {vs:List V}{ds:List BT.D} (r:RDs K m H vs ds):∀ l:List Nat,RDs K m H (l.filterMap fun i=>vs[i]?) (l.filterMap fun i=>ds[i]?)
 | []=>.nil
 | i :: l=>by
  rw[PF,PF]
  cases g:ds[i]? with
  | none =>
   have:vs[i]?=none:=by
    have h:=r.length
    rw[UJ] at g ⊢
    omega
   rw[this]
   exact RDs.pick r l
  | some d =>
   obtain ⟨v,e,q⟩:=r.get g
   rw[e]
   exact .cons q (RDs.pick r l)
theorem RDs.dropLast:∀ {vs:List V}{ds:List BT.D},RDs K m H vs ds->RDs K m H vs.dropLast ds.dropLast
 | _,_,.nil=>.nil
 | _,_,.cons _ .nil=>.nil
 | _,_,.cons r (.cons q t)=>.cons r (RDs.dropLast (.cons q t))
theorem RDs.rep {vs:List V}{ds:List BT.D} (r:RDs K m H vs ds):∀ k:Nat,RDs K m H (Pv k vs).flatten (Pv k ds).flatten
 | 0=>.nil
 | k+1=>by
  rw[QG,QG,Rj,Rj]
  exact RDs.append r (RDs.rep r k)
theorem nv {N:List Addr} (hN:N.Nodup) {i j:Nat}{x:Addr} (a:N[i]?=some x) (b:N[j]?=some x):i=j:=by
 have hi:i < N.length:=by
  rcases Pq i N.length with z | z
  ·exact z
  ·rw[Pj z] at a;cases a
 have hj:j < N.length:=by
  rcases Pq j N.length with z | z
  ·exact z
  ·rw[Pj z] at b;cases b
 rw[O9 hi] at a
 rw[O9 hj] at b
 exact (List.getElem_inj hN).mp ((Pn a).trans (Pn b).symm)
inductive RR (K:O0) (m:List Addr) (H:Hp):V->BT.D->Prop where
 | d {v:V}{d:BT.D} (r:RD K m H v d):RR K m H v d
 | l {a:Addr}{vs:List V}{ds:List BT.D} (h:H a=some (.lst vs)) (r:RDs K m H vs ds):RR K m H (.ref a) (.lst ds)
theorem aF {h:BT.HH} (RHh:RH K m H h) {v:V}{x:BT.W}{d:BT.D} (r:RW P w K m H v x) (e:BT.rd x h=some d):RR K m H v d:=by
 cases r with
 | p r=>cases e;exact .d r
 | @r a n q =>
  simp only[BT.rd] at e
  cases g:BT.lat h n with
  | none=>rw[g] at e;cases e
  | some xs =>
   rw[g] at e
   cases e
   obtain ⟨vs,h1,h2⟩:=RHh.cell n a xs q g
   exact .l h1 h2
 | k _ _=>cases e
 | o _=>cases e
 | c _ _=>cases e
 | g _ _=>cases e
theorem RR.lst {v:V}{ds:List BT.D} (r:RR K m H v (.lst ds)):∃ a vs,v=.ref a/\LL K H a vs/\RDs K m H vs ds:=by
 cases r with
 | d r=>cases r with | lst h r=>exact ⟨_,_,rfl,h.elim (fun q=>.inl q.1) .inr,r⟩
 | l h r=>exact ⟨_,_,rfl,.inl (.inl h),r⟩
theorem RR.tup {v:V}{ds:List BT.D} (r:RR K m H v (.tup ds)):∃ a vs,v=.ref a/\SqT K H a vs/\RDs K m H vs ds:=by
 cases r with
 | d r=>cases r with | tup h r=>exact ⟨_,_,rfl,h.elim (fun q=>.inl q.1) (fun ⟨o,its,n,q,_⟩=>.inr ⟨o,its,n,q⟩),r⟩
theorem RR.int {v:V}{i:Int} (r:RR K m H v (.int i)):v=.int i:=by
 cases r with | d r=>cases r;rfl
theorem RR.str {v:V}{x:Str} (r:RR K m H v (.str x)):v=.str x/\PyData.strOk x=true:=by
 cases r with | d r=>cases r with | str _ h=>exact ⟨rfl,h⟩
theorem RR.bl {v:V}{b:Bool} (r:RR K m H v (.bl b)):v=.bl b:=by
 cases r with | d r=>cases r;rfl
theorem RR.non {v:V} (r:RR K m H v .non):v=.non:=by
 cases r with | d r=>cases r;rfl
theorem TB.new {p:Addr}{o:HO} (hp:H p=none) {K:O0} (h:TB K H):TB K (upd H p o) :=
 h.mono (fun P ps e=>by rw[av (ay e hp)];exact e) fun a o _ _ e=>by rw[av (ay e hp)];exact e
theorem fZ {p:Addr}{o:HO} (hp:H p=none):Ext m H m (upd H p o) :=
 ⟨⟨[],by simp,by simp⟩,fun a q h _ _=>by rw[av (ay h hp)];exact h,fun a h=>by
  by_cases e:a=p
  ·rw[e];exact hp
  ·rw[av e] at h;exact h⟩
theorem RH.dY {h:BT.HH} (R:RH K m H h) {p:Addr} (hp:H p=none):p∉m:=by
 intro q
 obtain ⟨i,hi⟩:=Qz q
 have hl:i < h.length:=by
  rw[← R.len]
  rcases Pq i m.length with z | z
  ·exact z
  ·rw[Pj z] at hi;cases hi
 obtain ⟨o,e⟩:=(R.cl i p h[i] hi (O9 hl)).some
 rw[e] at hp;cases hp
noncomputable def Le (H H':Hp):Prop:=∀ a u,H a=some u->H' a=some u
theorem Le.tb (q:Le H H') {K:O0} (t:TB K H):TB K H':=t.mono (fun _ _ e=>q _ _ e) fun _ _ _ _ e=>q _ _ e
theorem zb {p:Addr}{o:HO} (hp:H p=none):Le H (upd H p o):=fun a u e=>by rw[av (ay e hp)];exact e
theorem RH.ext {h:BT.HH} (R:RH K m H h) (x:Ext m H m H') (k:Le H H'):RH K m H' h :=
 ⟨R.nd,R.len,fun i a c e1 e2=>by
  obtain ⟨o,e⟩:=(R.cl i a c e1 e2).some
  exact (R.cl i a c e1 e2).ext x (by rw[e];exact k _ _ e),k.tb R.tb⟩
noncomputable def Gs:HO->Bool
 | .lst _=>true
 | .ins _ _ _=>true
 | .dK _=>true
 | _=>false
theorem RH.mu {h:BT.HH} (R:RH K m H h) {a:Addr} (ha:a∈m):∃ o,H a=some o/\Gs o=true:=by
 obtain ⟨i,hi⟩:=Qz ha
 have hl:i < h.length:=by
  rw[← R.len]
  rcases Pq i m.length with z | z
  ·exact z
  ·rw[Pj z] at hi;cases hi
 have z:=R.cl i a h[i] hi (O9 hl)
 cases g:h[i] with
 | l xs=>rw[g] at z;obtain ⟨vs,h1,h2⟩:=z;exact ⟨_,h1,rfl⟩
 | o c fs=>rw[g] at z;obtain ⟨C,dx,vs,h1,h2,h3⟩:=z;exact ⟨_,h1,rfl⟩
 | d kvs=>rw[g] at z;obtain ⟨vs,h1,h2⟩:=z;exact ⟨_,h1,rfl⟩
theorem RH.nin {h:BT.HH} (R:RH K m H h) {a:Addr}{o:HO} (e:H a=some o) (n:Gs o=false):a∉m:=fun z=>by
 obtain ⟨u,h1,h2⟩:=R.mu z
 rw[e] at h1;cases h1
 rw[n] at h2;cases h2
theorem RH.new {h:BT.HH} (R:RH K m H h) {p:Addr}{o:HO} (hp:H p=none):RH K m (upd H p o) h :=
 R.ext (fZ hp) (zb hp)
theorem gF {p:Addr}{o:HO} (hp:H p=none):Ext m H (m++[p]) (upd H p o) :=
 ⟨⟨[p],rfl,by simpa using hp⟩,fun a q h _ _=>by rw[av (ay h hp)];exact h,fun a h=>by
  by_cases e:a=p
  ·rw[e];exact hp
  ·rw[av e] at h;exact h⟩
theorem RH.Gu {h:BT.HH} (R:RH K m H h) {p:Addr}{o:HO}{c:BT.Cl} (hp:H p=none) (r:gE K (m++[p]) (upd H p o) p c):RH K (m++[p]) (upd H p o) (h++[c]):=by
 have np:=R.dY hp
 have x:Ext m H (m++[p]) (upd H p o):=gF hp
 refine ⟨List.nodup_append.mpr ⟨R.nd,by simp,fun a ha b hb=>by simp at hb;subst hb;exact fun e=>np (e ▸ ha)⟩,by simp[R.len],fun i a ys e1 e2=>?_,R.tb.new hp⟩
 by_cases c:i < m.length
 ·rw[Pd c] at e1
  rw[Pd (by rw[← R.len];exact c)] at e2
  have ne:a≠p:=by
   intro e
   subst e
   exact np (Ph e1)
  exact (R.cl i a ys e1 e2).ext x (av ne)
 ·have e:i=m.length:=by
   rcases Pq i (m++[p]).length with z | z
   ·simp at z;omega
   ·rw[Pj z] at e1;cases e1
  subst e
  simp at e1
  rw[R.len] at e2
  simp at e2
  subst e1 e2
  exact r
theorem RH.NH {h:BT.HH} (R:RH K m H h) {p:Addr}{vs:List V}{xs:List BT.D} (hp:H p=none) (r:RDs K m H vs xs):RH K (m++[p]) (upd H p (.lst vs)) (h++[.l xs]) :=
 R.Gu hp ⟨vs,aD,r.ext (gF hp)⟩
theorem TB.set {a:Addr}{o:HO} (hm:∃ u,H a=some u/\Gs u=true) {K:O0} (h:TB K H):TB K (upd H a o):=by
 obtain ⟨w,hw,hu⟩:=hm
 refine h.mono (fun P ps e=>?_) fun b ob _ _ e=>?_
 ·rw[av (fun z=>by subst z;rw[hw] at e;cases e;cases hu)];exact e
 ·rw[av (fun z=>by subst z;rw[hw] at e;cases e;cases hu)];exact e
theorem jf {a:Addr}{o:HO} (ha:a∈m):Ext m H m (upd H a o) :=
 ⟨⟨[],by simp,by simp⟩,fun b u q n _=>by
  have ne:b≠a:=by
   intro e
   subst e
   exact n ha
  rw[av ne];exact q,fun b q=>by
  by_cases e:b=a
  ·subst e;rw[aD] at q;cases q
  ·rw[av e] at q;exact q⟩
theorem fM {a:Addr}{vs us:List V} (ha:a∈m) (h:H a=some (.lst us)):Ext m H m (upd H a (.lst vs)):=jf ha
theorem RH.setC {h:BT.HH} (R:RH K m H h) {n:Nat}{a:Addr}{o:HO}{c:BT.Cl} (hn:m[n]?=some a) (r:gE K m (upd H a o) a c):RH K m (upd H a o) (h.set n c):=by
 have x:Ext m H m (upd H a o):=jf (Ph hn)
 refine ⟨R.nd,by simp[R.len],fun i b ys e1 e2=>?_,R.tb.set (R.mu (Ph hn))⟩
 by_cases c:i=n
 ·subst c
  rw[hn] at e1;cases e1
  have hl:i < h.length:=by
   rw[← R.len]
   rcases Pq i m.length with z | z
   ·exact z
   ·rw[Pj z] at hn;cases hn
  rw[Qn hl] at e2
  cases e2
  exact r
 ·rw[PV (Qd c)] at e2
  have ne:b≠a:=by
   intro e
   subst e
   exact c (nv R.nd e1 hn)
  exact (R.cl i b ys e1 e2).ext x (av ne)
theorem RH.set {h:BT.HH} (R:RH K m H h) {n:Nat}{a:Addr}{vs us:List V}{xs:List BT.D} (hn:m[n]?=some a) (hH:H a=some (.lst us)) (r:RDs K m H vs xs):RH K m (upd H a (.lst vs)) (h.set n (.l xs)) :=
 R.setC hn ⟨vs,aD,r.ext (fM (Ph hn) hH)⟩
end
end BS
end
section
namespace BS
open PySem PySem.Spec PyProof.Rows L2 PySem.SeqAt
theorem j9 {M:Model}{A:Qi}{E:O3->O4->Prop}{s:O4}{β:Type} (f:Nat->β->Sem (ForInStep β)) (n:Nat) (I:Nat->β->O4->Prop) (Q:β->O4->Prop)
 (turn:∀ i b s,i < n->I i b s->wpAny M A (f i b) (fun r s'=>match r with | .yield b'=>I (i+1) b' s' | .done b'=>Q b' s') E s)
 (fin:∀ b s,I n b s->Q b s) (b:β) (h:I 0 b s):wpAny M A (forIn [:n] b f) Q E s:=by
 rw[Std.Legacy.Range.forIn_eq_forIn_range']
 have e:Vy [:n].start [:n].size [:n].step=Vy 0 (n - 0):=by simp[Std.Legacy.Range.size]
 rw[e]
 refine wpAny_forIn_list f (fun rest b s=>∃ i,i<=n/\rest=Vy i (n - i)/\I i b s) Q (fun x rest b s ⟨i,hi,hr,q⟩=>?_) (fun b s ⟨i,hi,hr,q⟩=>?_) _ b ⟨0,P0 _,rfl,h⟩
 ·have hlt:i < n:=by
   rcases Pq i n with z | z
   ·exact z
   ·rw[show n - i=0 by omega] at hr;simp at hr
  rw[show n - i=(n - (i+1))+1 by omega,List.range'_succ] at hr
  injection hr with e1 e2
  subst e1
  refine wpAny_mono (turn x b s hlt q) (fun r s' z=>?_) fun _ _ z=>z
  cases r with
  | yield b'=>exact ⟨x+1,hlt,e2,z⟩
  | done b'=>exact z
 ·have:i=n:=by
   rcases Pq i n with z | z
   ·rw[show n - i=(n - (i+1))+1 by omega,List.range'_succ] at hr;simp at hr
   ·omega
  subst this
  exact fin b s q
theorem mG (l:Addr) (items:Array O3) (n:Nat) (dd:Option Addr) (sl:Array (Option O3)) (x:O3) (e:O3->Bool) (j:Nat) (hj:j < items.size)
 (hit:e items[j]=true) (hno:∀ m (hm:m < items.size),m < j->e items[m]=false) :
 Meets (Builtin.«tuple.index» ⟨[.ref l,x],[]⟩)
  (fun A R s=>s.heap.get? l=some { cls:=.type "tuple",dict:=dd,data:=.seq items n,slots:=sl }/\(∀ y,y∈items->EqAt A.in1 s y x (e y))/\R (.ok (.ret (.int j s.toks))) { s with toks:=s.toks+1 }) :=
 .of_wp fun prog w A R s h=>by
 obtain ⟨hp,g,d,tk,os⟩:=s;obtain ⟨hl,he,h⟩:=h
 wp_walk using RN hl,j9 _ _ (fun i b s'=>i<=j/\b.1=none/\s'=⟨hp,g,d,tk,os⟩) _
 case turn =>
  rintro i b s' hi ⟨hij,hb,rfl⟩
  have hi':i < items.size:=by omega
  rw[PU hi']
  refine wpAny_bind (he _ (Array.getElem_mem hi') prog w _ _ ?_)
  by_cases c:i=j
  ·subst c
   rw[hit]
   wp_walk
   exact ⟨_,rfl,h⟩
  ·rw[hno i hi' (by omega)]
   wp_walk
   exact ⟨by omega,rfl,rfl⟩
 case fin =>
  rintro b s' ⟨hij,_,_⟩
  omega
 case h=>exact ⟨P0 _,rfl,rfl⟩
theorem r8 (l:Addr) (items:Array O3) (n:Nat) (dd:Option Addr) (sl:Array (Option O3)) (k:Int) (t:Tok) (h1:-1000<=k) (h2:k<=1000) (c1:¬ items.isEmpty=true) (c2:k≠1) (c3:0 < k) (hz:items.size*k.toNat<=sizeLine) :
 Meets (Builtin.«tuple.__mul__» ⟨[.ref l,.int k t],[]⟩)
  (fun A R s=>s.heap.get? l=some { cls:=.type "tuple",dict:=dd,data:=.seq items n,slots:=sl }/\R (.ok (.ret (.ref s.heap.objs.size))) { s with heap:=s.heap.push { cls:=.type "tuple",data:=.seq ((Pv k.toNat items).foldl (fun x1 x2=>x1++x2) #[]) } }) :=
 .of_wp fun prog w A R s h=>by
 obtain ⟨hp,g,d,tk,os⟩:=s;obtain ⟨hl,h⟩:=h
 have f1:=Vr
 have a1:¬ (decide (k < -2 ^ 63)||decide (k ≥ 2 ^ 63))=true:=by simp;omega
 have a2:¬ (items.isEmpty||k==1)=true:=by simp at c1 ⊢;exact ⟨c1,c2⟩
 have a3:¬ (decide (k<=0)||items.isEmpty)=true:=by simp at c1 ⊢;exact ⟨by omega,c1⟩
 have kk:(k.toNat:Int)=k:=by omega
 have a4:¬ ((items.size:Int)*k > (2 ^ 63 - 1) / 8):=by
  have z:((items.size*k.toNat:Nat):Int)<=(sizeLine:Nat):=Int.ofNat_le.mpr hz
  rw[Int.natCast_mul,kk] at z
  have z2:((sizeLine:Nat):Int)<=(2 ^ 63 - 1) / 8:=by decide
  omega
 have a5:¬ Ti ((items.size:Int)*k)=true:=by
  have z:((items.size*k.toNat:Nat):Int)<=(sizeLine:Nat):=Int.ofNat_le.mpr hz
  rw[Int.natCast_mul,kk] at z
  simp only[Ti,decide_eq_true_eq]
  omega
 have hsz:sizeOk (.seq ((Pv k.toNat items).foldl (fun x1 x2=>x1++x2) #[])):=by
  show ((Pv k.toNat items).foldl (fun x1 x2=>x1++x2) #[]).size<=sizeLine
  rw[AutoListH.size_joined,Array.size_empty,Rt];omega
 wp_walk using RN hl
 rw[if_neg a1]
 wp_walk using RN hl
 refine Tt (fun c=>absurd c ?_) (fun _=>?_)
 ·intro c;have a6:=a4;simp at a6 c;omega
 wp_walk using RN hl
 refine wpAny_ite_false (decide_eq_false (Nat.not_lt.mpr hsz)) ?_
 wp_walk
 exact ⟨_,rfl,h⟩
theorem jI:fillsNumberSlot (.type "tuple") "mul"=pure false :=
 PySem.fillsNumberSlot_seq (id:="tuple.__mul__") (r:=some (.builtin "tuple.__rmul__")) F.slot_tuple_mul.lookup (by decide +kernel) F.slot_tuple_rmul.lookup (by decide +kernel)
theorem oq:seqRepeat? (.type "tuple")=pure (some (.builtin "tuple.__mul__")):=by
 unfold seqRepeat?
 rw[PySem.seqSlot_of (T:="tuple") (name:="__mul__") (id:="tuple.__mul__") F.slot_tuple_mul.lookup (by decide +kernel),PySem.seqSlot_of (T:="tuple") (name:="__rmul__") (id:="tuple.__rmul__") F.slot_tuple_rmul.lookup (by decide +kernel)]
 rfl
theorem lu (a:Int) (t:Tok) (l:Addr) (items:Array O3) (n:Nat) (dd:Option Addr) (sl:Array (Option O3)) :
 Meets (Builtin.«int.__rmul__» ⟨[.int a t,.ref l],[]⟩) (fun _ R s=>s.heap.get? l=some { cls:=.type "tuple",dict:=dd,data:=.seq items n,slots:=sl }/\R (.ok (.ret Value.notImplemented)) s) :=
 .of_wp fun prog w A R s h=>by obtain ⟨hp,g,d,tk,os⟩:=s;obtain ⟨hl,h⟩:=h;wp_walk;exact ⟨_,rfl,h⟩
theorem kg (l:Addr) (items:Array O3) (n:Nat) (b:Addr) (items2:Array O3) (n2:Nat) (dd:Option Addr) (sl:Array (Option O3)) (hs0:¬(!items.isEmpty&&Qq (items.size+items2.size))=true) (hs1:items.size<=sizeLine) (hs2:items.size+items2.size<=sizeLine+1) :
 Meets (Builtin.«list.extend» ⟨[.ref l,.ref b],[]⟩) (fun _ R s=>s.heap.get? l=some { cls:=.type "list",dict:=none,data:=.seq items n,slots:=#[] }/\s.heap.get? b=some { cls:=.type "tuple",dict:=dd,data:=.seq items2 n2,slots:=sl }/\R (.ok (.ret RG)) { s with heap:=s.heap.update l (QF fun x=>x++items2),toks:=s.toks }) :=
 .of_wp fun prog w A R s h=>by
  obtain ⟨hp,g,d,tk,os⟩:=s;obtain ⟨hl,hb,h⟩:=h;have f1:=Vr;have f2:=AutoSeq1.sub_tuple_tuple;have f3:=AutoSeq1.sub_list_list;have f4:=AutoSeq1.sub_tuple_list;have f5:=AutoSeq1.sub_list_tuple
  have hz':(items++items2).size<=sizeLine+1:=by rw[Array.size_append];exact hs2
  wp_walk using (Tq hl rfl (hz:=hs1) (_hz':=hz')),RN hl,RN hb;exact ⟨_,rfl,h⟩
end BS
end
section
namespace BS
open PySem PySem.Spec PyProof.Rows L2
theorem ai {α β:Type}{x:Option (α×BT.HH)}{k:α->BT.HH->Option β}{r:β} (h:BT.bnd x k=some r):∃ a g,x=some (a,g)/\k a g=some r:=by
 cases x with
 | none=>cases h
 | some q=>exact ⟨q.1,q.2,rfl,h⟩
theorem aA {α β:Type}{x:Option α}{f:α->β}{r:β} (h:x.map f=some r):∃ a,x=some a/\f a=r:=by
 cases x with
 | none=>cases h
 | some a=>exact ⟨a,rfl,Pn h⟩
noncomputable def Post (P:Pi) (w:PK) (K:O0) (m:List Addr) (H:Hp) (z:BT.W) (h':BT.HH) (Q:VK):Prop :=
 ∀ v H' m',Ext m H m' H'->RH K m' H' h'->RW P w K m' H' v z->Q v H'
noncomputable def rOp (P:Pi) (w:PK) (K:O0) (f:BT.W->BT.W->BT.HH->Option (BT.W×BT.HH)):R2:=fun v u H Q =>
 ∃ m h x y z h',RH K m H h/\RW P w K m H v x/\RW P w K m H u y/\f x y h=some (z,h')/\Post P w K m H z h' Q
theorem gX {o:BT.Bin}{x y:BT.W}{h:BT.HH}{z:BT.W}{h':BT.HH} (e:BT.mE o x y h=some (z,h')):∃ d d' q,BT.rd x h=some d/\BT.rd y h=some d'/\BT.jE o d d'=some q/\z=.p q/\h'=h:=by
 unfold BT.mE at e
 cases e1:BT.rd x h with
 | none=>rw[e1] at e;cases e
 | some d =>
  cases e2:BT.rd y h with
  | none=>rw[e1,e2] at e;cases e
  | some d' =>
   rw[e1,e2] at e
   obtain ⟨q,eq,er⟩:=aA e
   cases er
   exact ⟨d,d',q,rfl,rfl,eq,rfl,rfl⟩
section
variable {X:Cx}
theorem cL:BT.lim<=sizeLine:=by decide
theorem rdL {pins:List (Addr×Obj)}{σ:L2.St}{H:Hp}{s:O4}{a:Addr}{xs:List V} (I:Inv X pins σ H s) (r:LL X.K H a xs) :
 xs.length<=sizeLine/\∃ (its:List O3) (n:Nat),au xs its/\xs.length=its.length/\s.heap.get? a=some { cls:=.type "list",data:=.seq its.toArray n }:=by
 rcases r with r | ⟨its,n,h1,h2,h3⟩
 ·obtain ⟨z,its,n,r,e⟩:=r.ok I.hok
  exact ⟨z,its,n,r,r.length,e⟩
 ·exact ⟨by rw[h3.length];exact h2,its,n,h3,h3.length,I.kIn a _ h1⟩
theorem zc {pins:List (Addr×Obj)}{s:O4}{σ:L2.St}{H:Hp}{a b:Addr}{xs ys:List V}{Q:VK} (I:Inv X pins σ H s) (ha:LL X.K H a xs) (hb:LL X.K H b ys) (hz:xs.length+ys.length<=sizeLine)
 (q:∀ p,H p=none->Q (.ref p) (upd H p (.lst (xs++ys)))):wpAny (Pw X.prog X.w) X.A (QH .Add (.ref a) (.ref b)) (EP X pins σ Q) X.xe s:=by
 obtain ⟨z,its,n,r,hl,e⟩:=rdL I ha
 obtain ⟨z2,its2,n2,r2,hl2,e2⟩:=rdL I hb
 refine PySem.P.add_list e e2 ?_ (by rw[O6,O6];omega)
 have ea:its.toArray++its2.toArray=(its++its2).toArray:=by simp
 rw[ea]
 exact ⟨.ref _,_,I.Jr (t':=s.toks) (r.append r2) (by rw[PB];omega),rfl,q _ I.fresh⟩
theorem wj {pins:List (Addr×Obj)}{s:O4}{σ:L2.St}{H:Hp}{a b:Addr}{xs ys:List V}{Q:VK} (I:Inv X pins σ H s) (ha:SqT X.K H a xs) (hb:SqT X.K H b ys) (hz:xs.length+ys.length<=sizeLine)
 (q0:xs=[]->Q (.ref b) H) (q1:ys=[]->Q (.ref a) H) (q:∀ p,H p=none->Q (.ref p) (upd H p (.tup (xs++ys)))):wpAny (Pw X.prog X.w) X.A (QH .Add (.ref a) (.ref b)) (EP X pins σ Q) X.xe s:=by
 by_cases c:xs=[]
 ·obtain ⟨its,r1,p1,_⟩:=I.tuple ha
  obtain ⟨its2,r2,p2,_⟩:=I.tuple hb
  obtain ⟨⟨cls,dd,data,sl⟩,ho,hc,n,hd⟩:=id p1
  obtain ⟨⟨cls2,dd2,data2,sl2⟩,ho2,hc2,n2,hd2⟩:=id p2
  simp only at hc hd hc2 hd2
  subst hc hd hc2 hd2
  have z:its=[]:=r1.i8.mpr c
  exact concat_meets ⟨_,ho,rfl⟩ ⟨_,ho2,rfl⟩ UO VE SB Sy (So _ _)
   (tuple_addW0 a b its.toArray its2.toArray n n2 dd dd2 sl sl2 (by simp[z])) ⟨ho,ho2,⟨.ref b,H,I,rfl,q0 c⟩⟩
 ·exact BI pins s σ H (.ref a) (.ref b) _ _ Q I rfl rfl ⟨a,b,xs,ys,rfl,rfl,ha,hb,c,hz,q1,fun _=>q⟩
theorem jg {m:List Addr}{H:Hp}{h:BT.HH}{p:Addr}{vs:List V}{ds:List BT.D}{Q:VK} (R:RH X.K m H h) (hp:H p=none) (r:RDs X.K m H vs ds) (post:Post X.prog X.w X.K m H (.p (.tup ds)) h Q):Q (.ref p) (upd H p (.tup vs)) :=
 post _ _ m (fZ hp) (R.new hp) (.p (.tup (.inl ⟨.inl aD,R.dY hp⟩) (r.ext (fZ hp))))
theorem gY {m:List Addr}{H:Hp}{h:BT.HH}{p:Addr}{vs:List V}{ds:List BT.D}{Q:VK} (R:RH X.K m H h) (hp:H p=none) (r:RDs X.K m H vs ds) (post:Post X.prog X.w X.K m H (.p (.lst ds)) h Q):Q (.ref p) (upd H p (.lst vs)) :=
 post _ _ m (fZ hp) (R.new hp) (.p (.lst (.inl ⟨.inl aD,R.dY hp⟩) (r.ext (fZ hp))))
theorem ua {m:List Addr}{H:Hp}{h:BT.HH}{p:Addr}{vs:List V}{ds:List BT.D}{Q:VK} (R:RH X.K m H h) (hp:H p=none) (r:RDs X.K m H vs ds) (post:Post X.prog X.w X.K m H (.r h.length) (h++[.l ds]) Q):Q (.ref p) (upd H p (.lst vs)) :=
 post _ _ (m++[p]) (gF hp) (R.NH hp r) (.r (by rw[← R.len];simp))
theorem oA {m:List Addr}{H:Hp}{h:BT.HH}{p:Addr}{vs:List V}{ds:List BT.D}{Q:VK}{mu:Bool} (R:RH X.K m H h) (hp:H p=none) (r:RDs X.K m H vs ds) (post:Post X.prog X.w X.K m H (BT.new mu ds h).1 (BT.new mu ds h).2 Q):Q (.ref p) (upd H p (.lst vs)):=by
 cases mu with
 | false=>exact gY R hp r post
 | true=>exact ua R hp r post
theorem Post.here {m:List Addr}{H:Hp}{h:BT.HH}{Q:VK}{v:V}{d:BT.D} (R:RH X.K m H h) (post:Post X.prog X.w X.K m H (.p d) h Q) (r:RD X.K m H v d):Q v H:=post v H m (.refl _ _) R (.p r)
theorem oB {x y:Str} (hx:PyData.strOk x=true) (hy:PyData.strOk y=true):PyData.strOk (x++y)=true:=by
 show (x.cps++y.cps).all _=true
 rw[Array.all_append]
 simp only[PyData.strOk] at hx hy
 rw[hx,hy];rfl
theorem Gv:OpR X (QH .Add) (rOp X.prog X.w X.K (BT.mE .add)):=by
 intro pins s σ H v u v' u' Q I rv ru h
 obtain ⟨m,h,x,y,z,h',R,rx,ry,e,post⟩:=h
 obtain ⟨d,d',q,e1,e2,e3,rfl,rfl⟩:=gX e
 have r1:=aF R rx e1
 have r2:=aF R ry e2
 cases d<;>cases d'<;>first | (cases e3;done) | simp only[BT.fF,BT.cW,BT.cX,BT.cY,BT.fG,BT.fH,BT.cZ,BT.c5,BT.fJ,BT.dS,BT.fK] at e3
 ·cases e3
  cases r1.int;cases r2.int
  exact Fj pins s σ H _ _ _ _ Q I rv ru ⟨_,_,rfl,rfl,post.here R (.int _)⟩
 ·split at e3
  ·rename_i c
   cases e3
   obtain ⟨ev,ov⟩:=r1.str
   obtain ⟨eu,ou⟩:=r2.str
   subst ev;subst eu
   have:=cL
   exact rE pins s σ H _ _ _ _ Q I rv ru ⟨_,_,rfl,rfl,by omega,post.here R (.str _ (oB ov ou))⟩
  ·cases e3
 ·split at e3
  ·rename_i c
   cases e3
   obtain ⟨a,vs,rfl,ha,ra⟩:=r1.tup
   obtain ⟨b,us,rfl,hb,rb⟩:=r2.tup
   cases rv;cases ru
   have l1:=ra.length
   have l2:=rb.length
   have:=cL
   refine wj I ha hb (by omega) (fun z=>?_) (fun z=>?_) fun p hp=>jg R hp (ra.append rb) post
   ·subst z;cases ra
    cases r2 with | d r=>exact post.here R r
   ·subst z;cases rb
    rw[P4] at post
    cases r1 with | d r=>exact post.here R r
  ·cases e3
 ·split at e3
  ·rename_i c
   cases e3
   obtain ⟨a,vs,rfl,ha,ra⟩:=r1.lst
   obtain ⟨b,us,rfl,hb,rb⟩:=r2.lst
   cases rv;cases ru
   have l1:=ra.length
   have l2:=rb.length
   have:=cL
   exact zc I ha hb (by omega) fun p hp=>gY R hp (ra.append rb) post
  ·cases e3
theorem Gw:OpR X (QH .Sub) (rOp X.prog X.w X.K (BT.mE .sub)):=by
 intro pins s σ H v u v' u' Q I rv ru h
 obtain ⟨m,h,x,y,z,h',R,rx,ry,e,post⟩:=h
 obtain ⟨d,d',q,e1,e2,e3,rfl,rfl⟩:=gX e
 have r1:=aF R rx e1
 have r2:=aF R ry e2
 cases d<;>cases d'<;>first | (cases e3;done) | simp only[BT.fF,BT.cW,BT.cX,BT.cY,BT.fG,BT.fH,BT.cZ,BT.c5,BT.fJ,BT.dS,BT.fK] at e3
 cases e3
 cases r1.int;cases r2.int
 exact Fk pins s σ H _ _ _ _ Q I rv ru ⟨_,_,rfl,rfl,post.here R (.int _)⟩
theorem Gx:OpR X (QH .Mod) (rOp X.prog X.w X.K (BT.mE .mod)):=by
 intro pins s σ H v u v' u' Q I rv ru h
 obtain ⟨m,h,x,y,z,h',R,rx,ry,e,post⟩:=h
 obtain ⟨d,d',q,e1,e2,e3,rfl,rfl⟩:=gX e
 have r1:=aF R rx e1
 have r2:=aF R ry e2
 cases d<;>cases d'<;>first | (cases e3;done) | simp only[BT.fF,BT.cW,BT.cX,BT.cY,BT.fG,BT.fH,BT.cZ,BT.c5,BT.fJ,BT.dS,BT.fK] at e3
 split at e3
 ·rename_i c
  cases e3
  cases r1.int;cases r2.int
  exact Fp pins s σ H _ _ _ _ Q I rv ru ⟨_,_,rfl,rfl,c,post.here R (.int _)⟩
 ·cases e3
theorem Cr:OpR X (QH .FloorDiv) (rOp X.prog X.w X.K (BT.mE .fdiv)):=by
 intro pins s σ H v u v' u' Q I rv ru h
 obtain ⟨m,h,x,y,z,h',R,rx,ry,e,post⟩:=h
 obtain ⟨d,d',q,e1,e2,e3,rfl,rfl⟩:=gX e
 have r1:=aF R rx e1
 have r2:=aF R ry e2
 cases d<;>cases d'<;>first | (cases e3;done) | simp only[BT.fF,BT.cW,BT.cX,BT.cY,BT.fG,BT.fH,BT.cZ,BT.c5,BT.fJ,BT.dS,BT.fK] at e3
 split at e3
 ·rename_i c
  simp only[O5,decide_eq_true_eq] at c
  cases e3
  cases r1.int;cases r2.int
  exact Br pins s σ H _ _ _ _ Q I rv ru ⟨_,_,rfl,rfl,⟨c.1,c.2⟩,post.here R (.int _)⟩
 ·cases e3
theorem oE {i:Int} (h:BT.big i=true):-(2 ^ 64) < i/\i < 2 ^ 64:=by
 unfold BT.big at h
 have:=of_decide_eq_true h
 omega
theorem Gy:OpR X (QH .Pow) (rOp X.prog X.w X.K (BT.mE .pow)):=by
 intro pins s σ H v u v' u' Q I rv ru h
 obtain ⟨m,h,x,y,z,h',R,rx,ry,e,post⟩:=h
 obtain ⟨d,d',q,e1,e2,e3,rfl,rfl⟩:=gX e
 have r1:=aF R rx e1
 have r2:=aF R ry e2
 cases d<;>cases d'<;>first | (cases e3;done) | simp only[BT.fF,BT.cW,BT.cX,BT.cY,BT.fG,BT.fH,BT.cZ,BT.c5,BT.fJ,BT.dS,BT.fK] at e3
 split at e3
 ·rename_i c
  simp only[O5,decide_eq_true_eq] at c
  cases e3
  cases r1.int;cases r2.int
  refine Fq pins s σ H _ _ _ _ Q I rv ru ⟨_,_,rfl,rfl,⟨c.1.1,by omega,?_⟩,post.here R (.int _)⟩
  exact of_decide_eq_true c.2
 ·cases e3
theorem wk {pins:List (Addr×Obj)}{s:O4}{σ:L2.St}{H:Hp}{a:Addr}{xs:List V}{k:Int}{t:Tok}{Q:VK} (I:Inv X pins σ H s) (ha:SqT X.K H a xs) (h1:2<=k) (h2:k<=1000) (hne:xs≠[]) (hz:xs.length*k.toNat<=sizeLine)
 (q:∀ p,H p=none->Q (.ref p) (upd H p (.tup (Pv k.toNat xs).flatten))):wpAny (Pw X.prog X.w) X.A (QH .Mult (.ref a) (.int k t)) (EP X pins σ Q) X.xe s:=by
 obtain ⟨its,r,p,_⟩:=I.tuple ha
 obtain ⟨⟨cls,dd,data,sl⟩,e,hc,n,hd⟩:=id p
 simp only at hc hd
 subst hc hd
 have hl:=r.length
 have hlen:its.toArray.size*k.toNat<=sizeLine:=by rw[O6,← hl];exact hz
 have f0:UU (fun x1 x2=>x1++x2) #[] (Pv k.toNat its.toArray)=(Pv k.toNat its).flatten.toArray:=by
  have:=foldl_rep its k.toNat []
  rw[Ry] at this
  exact this
 have hi:¬ its.toArray.isEmpty=true:=by
  intro z
  have z2:its=[]:=by simpa using z
  exact hne (r.i8.mp z2)
 refine Vl (T:="tuple") (U:="int") (by decide) ⟨_,e,rfl⟩ (fun s'=>typeIs_int s' k t) jI F.fills_int_mul F.slot_int_rmul oq F.slot_int_index.lookup
  (RZ F.slot_int_rmul (typeIs_int s k t) F.entry_int_rmul (F.args_int_rmul_2 _ _) (lu k t a its.toArray n dd sl)
   ⟨e,rfl,⟨_,e,rfl⟩,RZ F.slot_tuple_mul ⟨_,e,rfl⟩ F.entry_tuple_mul (F.args_tuple_mul_2 _ _) (r8 a its.toArray n dd sl k t (by omega) h2 hi (by omega) (by omega) hlen) ⟨e,?_⟩⟩)
 rw[f0]
 have hf:H s.heap.objs.size=none:=I.hok.fresh (O8 _)
 refine ⟨.ref s.heap.objs.size,_,I.laid (t':=s.toks) (o:=.tup (Pv k.toNat xs).flatten) (fun b ob q=>O2 _ q) (O8 _) ?_,rfl,q _ hf⟩
 exact ⟨by rw[len_rep,Rt];exact hz,_,r.rep k.toNat,IsTup.new _ _⟩
theorem zd {pins:List (Addr×Obj)}{s:O4}{σ:L2.St}{H:Hp}{l:Addr}{xs:List V}{k:Int}{t:Tok}{Q:VK} (I:Inv X pins σ H s) (hH:LL X.K H l xs) (h1:-(2 ^ 63)<=k) (h2:k<=1000) (hz:xs.length*k.toNat<=sizeLine)
 (q:∀ p,H p=none->Q (.ref p) (upd H p (.lst (Pv k.toNat xs).flatten))):wpAny (Pw X.prog X.w) X.A (QH .Mult (.ref l) (.int k t)) (EP X pins σ Q) X.xe s:=by
 have h2':k < 2 ^ 63:=by omega
 obtain ⟨z,its,n,r,hl,e⟩:=rdL I hH
 have hlen:its.toArray.size*k.toNat<=sizeLine:=by rw[O6,← hl];exact hz
 have hcap:¬ its.toArray.size*k.toNat > (2 ^ 63 - 1) / 8:=by
  have:(sizeLine:Nat)<=(2 ^ 63 - 1) / 8:=by decide
  omega
 have hfit:¬ (!Builtin.List.listFitsIndex k)=true:=by
  rw[fitsIndex_both h1 h2']
  exact PX
 have hlong:¬ Qq (its.toArray.size*k.toNat)=true:=by
  rw[kT hlen]
  exact PX
 have hnew:UU (fun x1 x2=>x1++x2) #[] (Pv (if its.toArray.isEmpty=true then 0 else k.toNat) its.toArray)=(Pv k.toNat its).flatten.toArray:=by
  have f0:∀ m:Nat,UU (fun x1 x2=>x1++x2) #[] (Pv m its.toArray)=(Pv m its).flatten.toArray:=fun m=>by
   have:=foldl_rep its m []
   rw[Ry] at this
   exact this
  rw[f0]
  cases its with
  | nil=>simp
  | cons a r'=>rw[if_neg (by simp)]
 refine Vl (T:="list") (U:="int") (by decide) ⟨_,e,rfl⟩ (fun s'=>typeIs_int s' k t) noFill_list_mul F.fills_int_mul F.slot_int_rmul repeat_list F.slot_int_index.lookup
  (RZ F.slot_int_rmul (typeIs_int s k t) F.entry_int_rmul (F.args_int_rmul_2 _ _) (int___rmul___int_list k t l its.toArray n)
   ⟨e,rfl,⟨_,e,rfl⟩,RZ F.slot_list_mul ⟨_,e,rfl⟩ F.entry_list_mul (F.args_list_mul_2 _ _) (AutoListH.list___mul___list_int_3 l its.toArray n k t hfit hcap hlong) ⟨e,?_⟩⟩)
 rw[hnew]
 exact ⟨.ref _,_,I.Jr (t':=s.toks) (r.rep k.toNat) (by rw[len_rep,Rt];exact hz),rfl,q _ I.fresh⟩
theorem Gz:OpR X (QH .Mult) (rOp X.prog X.w X.K (BT.mE .mul)):=by
 intro pins s σ H v u v' u' Q I rv ru h
 obtain ⟨m,h,x,y,z,h',R,rx,ry,e,post⟩:=h
 obtain ⟨d,d',q,e1,e2,e3,rfl,rfl⟩:=gX e
 have r1:=aF R rx e1
 have r2:=aF R ry e2
 cases d<;>cases d'<;>first | (cases e3;done) | simp only[BT.fF,BT.cW,BT.cX,BT.cY,BT.fG,BT.fH,BT.cZ,BT.c5,BT.fJ,BT.dS,BT.fK] at e3
 ·split at e3
  ·rename_i c
   cases e3
   cases r1.int;cases r2.int
   refine Fo pins s σ H _ _ _ _ Q I rv ru ⟨_,_,rfl,rfl,?_,post.here R (.int _)⟩
   rcases Rf _ _ ▸ c with c | c
   ·exact .inl (oE c)
   ·exact .inr (oE c)
  ·cases e3
 ·split at e3
  ·rename_i c
   simp only[O5,decide_eq_true_eq] at c
   cases e3
   obtain ⟨a,vs,rfl,ha,ra⟩:=r1.tup
   cases r2.int
   obtain ⟨t,rfl⟩:=ru
   cases rv
   have l1:=ra.length
   have:=cL
   simp only[RM,List.isEmpty_eq_false_iff] at c
   refine wk I ha (by omega) (by omega) (fun z=>?_) (by rw[l1];omega) fun p hp=>jg R hp (ra.rep _) post
   subst z
   cases ra
   exact c.1.2 rfl
  ·cases e3
 ·split at e3
  ·rename_i c
   simp only[O5,decide_eq_true_eq] at c
   cases e3
   obtain ⟨a,vs,rfl,ha,ra⟩:=r1.lst
   cases r2.int
   obtain ⟨t,rfl⟩:=ru
   cases rv
   have l1:=ra.length
   have:=cL
   refine zd I ha (by omega) (by omega) (by rw[l1];omega) fun p hp=>gY R hp (ra.rep _) post
  ·cases e3
end
end BS
end
section
namespace BS
open PySem PySem.Spec PyProof.Rows L2
mutual
noncomputable def pd:BT.D->PyData
 | .non=>.none
 | .bl b=>.bool b
 | .int i=>.int i
 | .str x=>.str x
 | .tup xs=>.tuple (pds xs)
 | .lst xs=>.list (pds xs)
noncomputable def pds:List BT.D->List PyData
 | []=>[]
 | x :: r=>pd x :: pds r
end
mutual
theorem ly:∀ x y:BT.D,PyData.eqv (pd x) (pd y)=BT.eqv x y
 | .non,.non=>rfl
 | .non,.bl _=>rfl
 | .non,.int _=>rfl
 | .non,.str _=>rfl
 | .non,.tup _=>by simp[pd,PyData.eqv,BT.eqv]
 | .non,.lst _=>by simp[pd,PyData.eqv,BT.eqv]
 | .bl _,.non=>rfl
 | .bl _,.bl _=>rfl
 | .bl _,.int _=>rfl
 | .bl _,.str _=>rfl
 | .bl _,.tup _=>by simp[pd,PyData.eqv,BT.eqv]
 | .bl _,.lst _=>by simp[pd,PyData.eqv,BT.eqv]
 | .int _,.non=>rfl
 | .int _,.bl _=>rfl
 | .int _,.int _=>rfl
 | .int _,.str _=>rfl
 | .int _,.tup _=>by simp[pd,PyData.eqv,BT.eqv]
 | .int _,.lst _=>by simp[pd,PyData.eqv,BT.eqv]
 | .str _,.non=>rfl
 | .str _,.bl _=>rfl
 | .str _,.int _=>rfl
 | .str _,.str _=>rfl
 | .str _,.tup _=>by simp[pd,PyData.eqv,BT.eqv]
 | .str _,.lst _=>by simp[pd,PyData.eqv,BT.eqv]
 | .tup _,.non=>by simp[pd,PyData.eqv,BT.eqv]
 | .tup _,.bl _=>by simp[pd,PyData.eqv,BT.eqv]
 | .tup _,.int _=>by simp[pd,PyData.eqv,BT.eqv]
 | .tup _,.str _=>by simp[pd,PyData.eqv,BT.eqv]
 | .tup xs,.tup ys=>by simp only[pd,PyData.eqv,BT.eqv];exact oF xs ys
 | .tup _,.lst _=>by simp[pd,PyData.eqv,BT.eqv]
 | .lst _,.non=>by simp[pd,PyData.eqv,BT.eqv]
 | .lst _,.bl _=>by simp[pd,PyData.eqv,BT.eqv]
 | .lst _,.int _=>by simp[pd,PyData.eqv,BT.eqv]
 | .lst _,.str _=>by simp[pd,PyData.eqv,BT.eqv]
 | .lst _,.tup _=>by simp[pd,PyData.eqv,BT.eqv]
 | .lst xs,.lst ys=>by simp only[pd,PyData.eqv,BT.eqv];exact oF xs ys
theorem oF:∀ xs ys:List BT.D,PyData.eqvAll (pds xs) (pds ys)=BT.mC xs ys
 | [],[]=>by simp[pds,PyData.eqvAll,BT.mC]
 | [],_ :: _=>by simp[pds,PyData.eqvAll,BT.mC]
 | _ :: _,[]=>by simp[pds,PyData.eqvAll,BT.mC]
 | x :: xs,y :: ys=>by simp only[pds,PyData.eqvAll,BT.mC];rw[ly x y,oF xs ys]
end
theorem gG {n:Nat}:∀ {xs:List BT.D},(∀ x∈xs,(pd x).depth<=n)->PyData.depthAll (pds xs)<=n
 | [],_=>by simp[pds,PyData.depthAll]
 | x :: xs,h=>by
  simp only[pds,PyData.depthAll]
  exact Nat.max_le.mpr ⟨h x Pf,gG fun y hy=>h y (Pb _ hy)⟩
theorem gZ:∀ (n:Nat) (d:BT.D),BT.dok n d=true->(pd d).depth<=n
 | n,.non,_=>by simp[pd,PyData.depth]
 | n,.bl _,_=>by simp[pd,PyData.depth]
 | n,.int _,_=>by simp[pd,PyData.depth]
 | n,.str _,_=>by simp[pd,PyData.depth]
 | 0,.tup _,h=>by simp[BT.dok] at h
 | 0,.lst _,h=>by simp[BT.dok] at h
 | n+1,.tup xs,h=>by
  simp only[pd,PyData.depth]
  rw[BT.tP,Qx] at h
  exact Nat.succ_le_succ (gG fun x hx=>gZ n x (h x hx))
 | n+1,.lst xs,h=>by
  simp only[pd,PyData.depth]
  rw[BT.tQ,Qx] at h
  exact Nat.succ_le_succ (gG fun x hx=>gZ n x (h x hx))
section
variable {X:Cx}{pins:List (Addr×Obj)}{σ:L2.St}{s:O4}{K:O0}{m:List Addr}{H:Hp}
mutual
theorem dW:∀ {v:V}{d:BT.D},RD K m H v d->(pd d).canLay0=true
 | _,_,.non=>rfl
 | _,_,.bl _=>rfl
 | _,_,.int _=>rfl
 | _,_,.str _ h=>by simpa [pd,PyData.canLay0] using h
 | _,_,.tup _ r=>by simp only[pd,PyData.canLay0];exact f6 r
 | _,_,.lst _ r=>by simp only[pd,PyData.canLay0];exact f6 r
theorem f6:∀ {vs:List V}{ds:List BT.D},RDs K m H vs ds->PyData.canLayAll0 (pds ds)=true
 | _,_,.nil=>by simp[pds,PyData.canLayAll0]
 | _,_,.cons r t=>by simp only[pds,PyData.canLayAll0];rw[dW r,f6 t];rfl
end
mutual
theorem gH (I:Inv X pins σ H s):∀ {v:V}{d:BT.D}{u:O3},RD X.K m H v d->RelV v u->∃ as,Reads s.heap u (pd d) as
 | _,_,_,.non,r=>by cases r;exact ⟨_,.none⟩
 | _,_,_,.bl b,r=>by cases r;exact ⟨_,.bool b⟩
 | _,_,_,.int i,r=>by obtain ⟨t,rfl⟩:=r;exact ⟨_,.int i t⟩
 | _,_,_,.str x _,r=>by obtain ⟨t,rfl⟩:=r;exact ⟨_,.str x t⟩
 | _,_,_,.tup h r,q=>by
  cases q
  obtain ⟨its,r1,⟨o,e1,e2,n,e3⟩,_⟩:=I.tuple (h.elim (fun q=>.inl q.1) (fun ⟨o,its,n,q,_⟩=>.inr ⟨o,its,n,q⟩))
  obtain ⟨as,ra⟩:=g9 I r r1
  exact ⟨_,.tuple e1 e2 e3 (by simpa using ra)⟩
 | _,_,_,.lst h r,q=>by
  cases q
  obtain ⟨z,its,n,r1,_,e⟩:=rdL I (h.elim (fun q=>.inl q.1) .inr)
  obtain ⟨as,ra⟩:=g9 I r r1
  exact ⟨_,.list e rfl rfl (by simpa using ra)⟩
theorem g9 (I:Inv X pins σ H s):∀ {vs:List V}{ds:List BT.D}{us:List O3},RDs X.K m H vs ds->au vs us->∃ as,ReadsAll s.heap us (pds ds) as
 | _,_,_,.nil,q=>by cases q;exact ⟨_,.nil⟩
 | _,_,_,.cons r t,q=>by
  cases q with
  | cons q1 q2 =>
   obtain ⟨as,ra⟩:=gH I r q1
   obtain ⟨bs,rb⟩:=g9 I t q2
   exact ⟨_,.cons ra rb⟩
end
theorem gI (I:Inv X pins σ H s) {v:V}{d:BT.D}{u:O3} (r:RR X.K m H v d) (q:RelV v u):∃ as,Reads s.heap u (pd d) as:=by
 cases r with
 | d r=>exact gH I r q
 | l h r =>
  cases q
  obtain ⟨z,its,n,r1,_,e⟩:=rdL I (.inl (.inl h))
  obtain ⟨as,ra⟩:=g9 I r r1
  exact ⟨_,.list e rfl rfl (by simpa using ra)⟩
theorem fN {v:V}{d:BT.D} (r:RR K m H v d):(pd d).canLay0=true:=by
 cases r with
 | d r=>exact dW r
 | l h r=>simp only[pd,PyData.canLay0];exact f6 r
theorem oG {x y:BT.D} (h:BT.br x y=true):min (pd x).depth (pd y).depth<=100:=by
 unfold BT.br at h
 rcases Rf _ _ ▸ h with h | h
 ·have:=gZ 100 x h;omega
 ·have:=gZ 100 y h;omega
theorem dw {o:BT.Cm}{x y:BT.W}{h:BT.HH}{z:BT.W}{h':BT.HH} (e:BT.gk o x y h=some (z,h')) :
 (∃ kvs b,y=.k kvs/\BT.inK o x kvs=some b/\z=.p (.bl b)/\h'=h)\/∃ d d' b,BT.rd x h=some d/\BT.rd y h=some d'/\BT.dQ o d d'=some b/\z=.p (.bl b)/\h'=h:=by
 unfold BT.gk at e
 split at e
 ·rename_i kvs
  obtain ⟨b,e1,e2⟩:=aA e
  cases e2
  exact .inl ⟨kvs,b,rfl,e1,rfl,rfl⟩
 ·refine .inr ?_
  cases e1:BT.rd x h with
  | none=>rw[e1] at e;cases e
  | some d =>
   cases e2:BT.rd y h with
   | none=>rw[e1,e2] at e;cases e
   | some d' =>
    rw[e1,e2] at e
    obtain ⟨q,eq,er⟩:=aA e
    cases er
    exact ⟨d,d',q,rfl,rfl,eq,rfl,rfl⟩
theorem J7 (hu:X.A.units+150 < cLine):OpR X (P7 .Eq) (rOp X.prog X.w X.K (BT.gk .eq)):=by
 intro pins s σ H v u v' u' Q I rv ru h
 obtain ⟨m,h,x,y,z,h',R,rx,ry,e,post⟩:=h
 rcases dw e with ⟨kvs,b,rfl,e1,_,_⟩ | ⟨d,d',b,e1,e2,e3,rfl,rfl⟩
 ·cases x with
  | p d=>cases d<;>exact ah e1
  | r n=>exact ah e1
  | k q=>exact ah e1
  | c _ _=>exact ah e1
  | o q=>exact ah e1
 ·have r1:=aF R rx e1
  have r2:=aF R ry e2
  rw[BT.tR] at e3
  split at e3
  ·rename_i c
   cases e3
   obtain ⟨as,ra⟩:=gI I r1 rv
   obtain ⟨bs,rb⟩:=gI I r2 ru
   have:=oG c
   refine SeqAt.compareEq_reads ra rb (fN r1) (fN r2) (by omega) ?_
   rw[ly]
   exact ⟨.bl _,H,I,rfl,post.here R (.bl _)⟩
  ·cases e3
theorem J8 (hu:X.A.units+150 < cLine):OpR X (P7 .NotEq) (rOp X.prog X.w X.K (BT.gk .ne)):=by
 intro pins s σ H v u v' u' Q I rv ru h
 obtain ⟨m,h,x,y,z,h',R,rx,ry,e,post⟩:=h
 rcases dw e with ⟨kvs,b,rfl,e1,_,_⟩ | ⟨d,d',b,e1,e2,e3,rfl,rfl⟩
 ·cases x with
  | p d=>cases d<;>exact ah e1
  | r n=>exact ah e1
  | k q=>exact ah e1
  | c _ _=>exact ah e1
  | o q=>exact ah e1
 ·have r1:=aF R rx e1
  have r2:=aF R ry e2
  rw[BT.nY] at e3
  split at e3
  ·rename_i c
   cases e3
   obtain ⟨as,ra⟩:=gI I r1 rv
   obtain ⟨bs,rb⟩:=gI I r2 ru
   have:=oG c
   refine SeqAt.compareNe_reads ra rb (fN r1) (fN r2) (by omega) ?_
   rw[ly]
   exact ⟨.bl _,H,I,rfl,post.here R (.bl _)⟩
  ·cases e3
theorem J9:OpR X (P7 .Lt) (rOp X.prog X.w X.K (BT.gk .lt)):=by
 intro pins s σ H v u v' u' Q I rv ru h
 obtain ⟨m,h,x,y,z,h',R,rx,ry,e,post⟩:=h
 rcases dw e with ⟨kvs,b,rfl,e1,_,_⟩ | ⟨d,d',b,e1,e2,e3,rfl,rfl⟩
 ·cases x with
  | p d=>cases d<;>exact ah e1
  | r n=>exact ah e1
  | k q=>exact ah e1
  | c _ _=>exact ah e1
  | o q=>exact ah e1
 ·have r1:=aF R rx e1
  have r2:=aF R ry e2
  cases d<;>cases d'<;>first | (cases e3;done) | simp only[BT.e9,BT.ff,BT.fh,BT.fj,BT.dF,BT.cD,BT.bB,BT.aM,BT.bw,BT.aI] at e3
  cases e3
  cases r1.int;cases r2.int
  exact Je pins s σ H _ _ _ _ Q I rv ru ⟨_,_,rfl,rfl,post.here R (.bl _)⟩
theorem Ka:OpR X (P7 .LtE) (rOp X.prog X.w X.K (BT.gk .le)):=by
 intro pins s σ H v u v' u' Q I rv ru h
 obtain ⟨m,h,x,y,z,h',R,rx,ry,e,post⟩:=h
 rcases dw e with ⟨kvs,b,rfl,e1,_,_⟩ | ⟨d,d',b,e1,e2,e3,rfl,rfl⟩
 ·cases x with
  | p d=>cases d<;>exact ah e1
  | r n=>exact ah e1
  | k q=>exact ah e1
  | c _ _=>exact ah e1
  | o q=>exact ah e1
 ·have r1:=aF R rx e1
  have r2:=aF R ry e2
  cases d<;>cases d'<;>first | (cases e3;done) | simp only[BT.e9,BT.ff,BT.fh,BT.fj,BT.dF,BT.cD,BT.bB,BT.aM,BT.bw,BT.aI] at e3
  cases e3
  cases r1.int;cases r2.int
  exact Jf pins s σ H _ _ _ _ Q I rv ru ⟨_,_,rfl,rfl,post.here R (.bl _)⟩
theorem Kc:OpR X (P7 .Gt) (rOp X.prog X.w X.K (BT.gk .gt)):=by
 intro pins s σ H v u v' u' Q I rv ru h
 obtain ⟨m,h,x,y,z,h',R,rx,ry,e,post⟩:=h
 rcases dw e with ⟨kvs,b,rfl,e1,_,_⟩ | ⟨d,d',b,e1,e2,e3,rfl,rfl⟩
 ·cases x with
  | p d=>cases d<;>exact ah e1
  | r n=>exact ah e1
  | k q=>exact ah e1
  | c _ _=>exact ah e1
  | o q=>exact ah e1
 ·have r1:=aF R rx e1
  have r2:=aF R ry e2
  cases d<;>cases d'<;>first | (cases e3;done) | simp only[BT.e9,BT.ff,BT.fh,BT.fj,BT.dF,BT.cD,BT.bB,BT.aM,BT.bw,BT.aI] at e3
  cases e3
  cases r1.int;cases r2.int
  exact Jg pins s σ H _ _ _ _ Q I rv ru ⟨_,_,rfl,rfl,post.here R (.bl _)⟩
theorem Kd:OpR X (P7 .GtE) (rOp X.prog X.w X.K (BT.gk .ge)):=by
 intro pins s σ H v u v' u' Q I rv ru h
 obtain ⟨m,h,x,y,z,h',R,rx,ry,e,post⟩:=h
 rcases dw e with ⟨kvs,b,rfl,e1,_,_⟩ | ⟨d,d',b,e1,e2,e3,rfl,rfl⟩
 ·cases x with
  | p d=>cases d<;>exact ah e1
  | r n=>exact ah e1
  | k q=>exact ah e1
  | c _ _=>exact ah e1
  | o q=>exact ah e1
 ·have r1:=aF R rx e1
  have r2:=aF R ry e2
  cases d<;>cases d'<;>first | (cases e3;done) | simp only[BT.e9,BT.ff,BT.fh,BT.fj,BT.dF,BT.cD,BT.bB,BT.aM,BT.bw,BT.aI] at e3
  cases e3
  cases r1.int;cases r2.int
  exact Jh pins s σ H _ _ _ _ Q I rv ru ⟨_,_,rfl,rfl,post.here R (.bl _)⟩
theorem uc {v:V}{d:BT.D} (r:RR K m H v d):decide (v=.non)=BT.gu d:=by
 cases r with
 | d r=>cases r<;>rfl
 | l h r=>rfl
theorem GA:OpR X (P7 .Is) (rOp X.prog X.w X.K (BT.gk .isN)):=by
 intro pins s σ H v u v' u' Q I rv ru h
 obtain ⟨m,h,x,y,z,h',R,rx,ry,e,post⟩:=h
 rcases dw e with ⟨kvs,b,rfl,e1,_,_⟩ | ⟨d,d',b,e1,e2,e3,rfl,rfl⟩
 ·cases x with
  | p d=>cases d<;>exact ah e1
  | r n=>exact ah e1
  | k q=>exact ah e1
  | c _ _=>exact ah e1
  | o q=>exact ah e1
 ·have r1:=aF R rx e1
  have r2:=aF R ry e2
  cases d'<;>first | (cases e3;done) | simp only[BT.e9,BT.ff,BT.fh,BT.fj,BT.dF,BT.cD,BT.bB,BT.aM,BT.bw,BT.aI] at e3
  cases e3
  cases r2.non
  refine Ft pins s σ H _ _ _ _ Q I rv ru ⟨rfl,?_⟩
  rw[uc r1]
  exact post.here R (.bl _)
theorem Cs:OpR X (P7 .IsNot) (rOp X.prog X.w X.K (BT.gk .notN)):=by
 intro pins s σ H v u v' u' Q I rv ru h
 obtain ⟨m,h,x,y,z,h',R,rx,ry,e,post⟩:=h
 rcases dw e with ⟨kvs,b,rfl,e1,_,_⟩ | ⟨d,d',b,e1,e2,e3,rfl,rfl⟩
 ·cases x with
  | p d=>cases d<;>exact ah e1
  | r n=>exact ah e1
  | k q=>exact ah e1
  | c _ _=>exact ah e1
  | o q=>exact ah e1
 ·have r1:=aF R rx e1
  have r2:=aF R ry e2
  cases d'<;>first | (cases e3;done) | simp only[BT.e9,BT.ff,BT.fh,BT.fj,BT.dF,BT.cD,BT.bB,BT.aM,BT.bw,BT.aI] at e3
  cases e3
  cases r2.non
  refine Bs pins s σ H _ _ _ _ Q I rv ru ⟨rfl,?_⟩
  rw[uc r1]
  exact post.here R (.bl _)
open Classical in
noncomputable def cV (h:Heap) (dx:PyData) (y:O3):Bool:=if q:∃ db as,Reads h y db as/\db.canLay0=true then PyData.eqv (Classical.choose q) dx else false
theorem sf {h:Heap}{dx db:PyData}{y:O3}{as:List Addr} (r:Reads h y db as) (c:db.canLay0=true):cV h dx y=PyData.eqv db dx:=by
 have q:∃ db as,Reads h y db as/\db.canLay0=true:=⟨db,as,r,c⟩
 unfold cV
 rw[dif_pos q]
 obtain ⟨as',r',c'⟩:=Classical.choose_spec q
 rw[SeqAt.Reads.unique _ _ _ _ _ c r r']
theorem jh (I:Inv X pins σ H s) {d:BT.D}:∀ {vs:List V}{ds:List BT.D}{us:List O3},RDs X.K m H vs ds->au vs us->us.any (cV s.heap (pd d))=ds.any fun y=>BT.eqv y d
 | _,_,_,.nil,q=>by cases q;rfl
 | _,_,_,.cons r t,q=>by
  cases q with
  | cons q1 q2 =>
   obtain ⟨as,ra⟩:=gH I r q1
   rw[Sb,Sb,jh I t q2,sf ra (dW r),ly]
theorem ig (hu:X.A.units+150 < cLine) (I:Inv X pins σ H s) {v:V}{d:BT.D}{u:O3} (rx:RR X.K m H v d) (rv:RelV v u):∀ {vs:List V}{ds:List BT.D}{us:List O3},RDs X.K m H vs ds->au vs us->(ds.all fun y=>BT.br y d)=true →
 ∀ y∈us,SeqAt.EqAt X.A.in1 s y u (cV s.heap (pd d) y)
 | _,_,_,.nil,q,_=>by cases q;intro y hy;simp at hy
 | _,_,_,.cons r t,q,c=>by
  cases q with
  | cons q1 q2 =>
   rw[UX,O5] at c
   intro y hy
   rcases List.mem_cons.mp hy with rfl | hy
   ·obtain ⟨as,ra⟩:=gH I r q1
    obtain ⟨bs,rb⟩:=gI I rx rv
    rw[sf ra (dW r)]
    have:=oG c.1
    refine SeqAt.eqAt_reads _ _ _ _ _ _ _ _ ra rb (dW r) (fN rx) ?_
    show X.A.units+1+_ < _
    omega
   ·exact ig hu I rx rv t q2 c.2 y hy
theorem GB (hu:X.A.units+150 < cLine) (hk:∀ {kvs:List (Str×BT.D)}{x:BT.W}{b:Bool}{m:List Addr}{H:Hp}{v u:V}{v' u':O3}{pins σ s Q},Inv X pins σ H s->RelV v v'->RelV u u'->RW X.prog X.w X.K m H v x->RW X.prog X.w X.K m H u (.k kvs)->BT.inK .mem x kvs=some b->Q (V.bl b) H →
 wpAny (Pw X.prog X.w) X.A (P7 .In v' u') (EP X pins σ Q) X.xe s):OpR X (P7 .In) (rOp X.prog X.w X.K (BT.gk .mem)):=by
 intro pins s σ H v u v' u' Q I rv ru h
 obtain ⟨m,h,x,y,z,h',R,rx,ry,e,post⟩:=h
 rcases dw e with ⟨kvs,b,rfl,e1,rfl,rfl⟩ | ⟨d,d',b,e1,e2,e3,rfl,rfl⟩
 ·exact hk I rv ru rx ry e1 (post.here R (.bl _))
 ·have r1:=aF R rx e1
  have r2:=aF R ry e2
  cases d'<;>first | (cases e3;done) | simp only[BT.e9,BT.ff,BT.fh,BT.fj,BT.dF,BT.cD,BT.bB,BT.aM,BT.bw,BT.aI] at e3
  ·split at e3
   ·rename_i c
    cases e3
    obtain ⟨a,vs,rfl,ha,ra⟩:=r2.tup
    cases ru
    obtain ⟨its,q1,q2,_⟩:=I.tuple ha
    refine SeqAt.in_tupleAt (cV s.heap (pd d)) q2 (fun y hy=>ig hu I r1 rv ra q1 c y (by simpa using hy)) ⟨.bl _,H,I,rfl,?_⟩
    rw[show its.toArray.any (cV s.heap (pd d))=its.any (cV s.heap (pd d)) by simp,jh I ra q1]
    exact post.here R (.bl _)
   ·cases e3
  ·split at e3
   ·rename_i c
    cases e3
    obtain ⟨a,vs,rfl,ha,ra⟩:=r2.lst
    cases ru
    obtain ⟨z,its,n,q1,_,q2⟩:=rdL I ha
    refine SeqAt.in_listAt (cV s.heap (pd d)) ⟨_,q2,rfl,_,rfl⟩ (fun y hy=>ig hu I r1 rv ra q1 c y (by simpa using hy)) ⟨.bl _,H,I,rfl,?_⟩
    rw[show its.toArray.any (cV s.heap (pd d))=its.any (cV s.heap (pd d)) by simp,jh I ra q1]
    exact post.here R (.bl _)
   ·cases e3
theorem Ct (hu:X.A.units+150 < cLine) (hk:∀ {kvs:List (Str×BT.D)}{x:BT.W}{b:Bool}{m:List Addr}{H:Hp}{v u:V}{v' u':O3}{pins σ s Q},Inv X pins σ H s->RelV v v'->RelV u u'->RW X.prog X.w X.K m H v x->RW X.prog X.w X.K m H u (.k kvs)->BT.inK .nmem x kvs=some b->Q (V.bl b) H →
 wpAny (Pw X.prog X.w) X.A (P7 .NotIn v' u') (EP X pins σ Q) X.xe s):OpR X (P7 .NotIn) (rOp X.prog X.w X.K (BT.gk .nmem)):=by
 intro pins s σ H v u v' u' Q I rv ru h
 obtain ⟨m,h,x,y,z,h',R,rx,ry,e,post⟩:=h
 rcases dw e with ⟨kvs,b,rfl,e1,rfl,rfl⟩ | ⟨d,d',b,e1,e2,e3,rfl,rfl⟩
 ·exact hk I rv ru rx ry e1 (post.here R (.bl _))
 ·have r1:=aF R rx e1
  have r2:=aF R ry e2
  cases d'<;>first | (cases e3;done) | simp only[BT.e9,BT.ff,BT.fh,BT.fj,BT.dF,BT.cD,BT.bB,BT.aM,BT.bw,BT.aI] at e3
  ·split at e3
   ·rename_i c
    cases e3
    obtain ⟨a,vs,rfl,ha,ra⟩:=r2.tup
    cases ru
    obtain ⟨its,q1,q2,_⟩:=I.tuple ha
    refine SeqAt.notIn_tupleAt (cV s.heap (pd d)) q2 (fun y hy=>ig hu I r1 rv ra q1 c y (by simpa using hy)) ⟨.bl _,H,I,rfl,?_⟩
    rw[show its.toArray.any (cV s.heap (pd d))=its.any (cV s.heap (pd d)) by simp,jh I ra q1]
    exact post.here R (.bl _)
   ·cases e3
  ·split at e3
   ·rename_i c
    cases e3
    obtain ⟨a,vs,rfl,ha,ra⟩:=r2.lst
    cases ru
    obtain ⟨z,its,n,q1,_,q2⟩:=rdL I ha
    refine SeqAt.notIn_listAt (cV s.heap (pd d)) ⟨_,q2,rfl,_,rfl⟩ (fun y hy=>ig hu I r1 rv ra q1 c y (by simpa using hy)) ⟨.bl _,H,I,rfl,?_⟩
    rw[show its.toArray.any (cV s.heap (pd d))=its.any (cV s.heap (pd d)) by simp,jh I ra q1]
    exact post.here R (.bl _)
   ·cases e3
end
end BS
end
section
namespace BS
open PySem PySem.Spec PyProof.Rows L2
section
variable {X:Cx}
theorem RDs.atI {K:O0}{m:List Addr}{H:Hp}{vs:List V}{ds:List BT.D}{i:Int}{d:BT.D} (r:RDs K m H vs ds) (e:BT.atP ds i=some d):∃ v,L2.atI vs i=some v/\RD K m H v d:=by
 unfold BT.atP at e
 unfold L2.atI
 obtain ⟨j,h1,h2⟩:=Option.bind_eq_some_iff.mp e
 obtain ⟨v,q1,q2⟩:=r.get h2
 refine ⟨v,?_,q2⟩
 rw[r.length]
 show ((BT.place ds.length i).bind fun j=>vs[j]?)=some v
 rw[h1]
 exact q1
theorem Cu {x y:BT.W}{h:BT.HH}{z:BT.W}{h':BT.HH} (e:BT.B6 x y h=some (z,h')) :
 (∃ kvs k d,x=.k kvs/\y=.p (.str k)/\BT.cT k kvs=some d/\z=.p d/\h'=h)\/∃ d d' b,BT.rd x h=some d/\BT.rd y h=some d'/\BT.aL d d'=some b/\z=.p b/\h'=h:=by
 unfold BT.B6 at e
 split at e
 ·rename_i kvs
  obtain ⟨b,e1,e2⟩:=aA e
  cases e2
  cases y with
  | p d =>
   cases d<;>simp only[BT.atK] at e1<;>try contradiction
   exact .inl ⟨kvs,_,b,rfl,rfl,e1,rfl,rfl⟩
  | r n=>simp[BT.atK] at e1
  | k q=>simp[BT.atK] at e1
  | c _ _=>simp[BT.atK] at e1
  | o q=>simp[BT.atK] at e1
 ·refine .inr ?_
  cases e1:BT.rd x h with
  | none=>rw[e1] at e;cases e
  | some d =>
   cases e2:BT.rd y h with
   | none=>rw[e1,e2] at e;cases e
   | some d' =>
    rw[e1,e2] at e
    obtain ⟨q,eq,er⟩:=aA e
    cases er
    exact ⟨d,d',q,rfl,rfl,eq,rfl,rfl⟩
theorem ze {K:O0}{k:Str}{d:BT.D}:∀ {es:List (Str×V)}{kvs:List (Str×BT.D)}{vs:List (Key×O3)},RDk K es kvs->KV (es.map fun q=>((Sum.inr q.1:Key),q.2)) vs->BT.cT k kvs=some d →
 ∃ u v,valueAt vs (Sum.inr k)=some u/\RelV v u/\∀ m H,RD K m H v d
 | _,_,_,.nil,_,e=>by simp[BT.cT] at e
 | _,_,_,@RDk.cons _ x v dd es kvs r t,q,e=>by
  cases q with
  | @cons p z l1 l2 q1 q2 =>
   obtain ⟨z1,z2⟩:=z
   obtain ⟨q11,q12⟩:=q1
   simp only at q11 q12
   subst q11
   rw[BT.cT] at e
   by_cases c:k=x
   ·rw[if_pos c] at e
    cases e
    subst c
    exact ⟨z2,v,by simp[valueAt],q12,r⟩
   ·rw[if_neg c] at e
    obtain ⟨u,v',h1,h2,h3⟩:=ze t q2 e
    refine ⟨u,v',?_,h2,h3⟩
    have ne:¬ ((Sum.inr x:Key)=Sum.inr k):=fun z=>c (Sum.inr.inj z).symm
    simp only[valueAt] at h1 ⊢
    rw[SL (by simpa using ne)]
    exact h1
theorem wm {x:Str}{c:Nat} (h:PyData.strOk x=true) (hc:c∈x.cps.toList):PyData.strOk ⟨#[c]⟩=true:=by
 simp only[PyData.strOk,Array.all_eq_true_iff_forall_mem] at h ⊢
 intro y hy
 simp at hy
 subst hy
 exact h y (by simpa using hc)
theorem GC:IxR X (rOp X.prog X.w X.K BT.B6):=by
 intro value slice pins s σ H v u v' u' Q I rv ru h hs
 obtain ⟨m,h,x,y,z,h',R,rx,ry,e,post⟩:=h
 rcases Cu e with ⟨kvs,k,d,rfl,rfl,e1,rfl,rfl⟩ | ⟨d,d',b,e1,e2,e3,rfl,rfl⟩
 ·cases rx with
  | @k a es _ kd rk =>
   cases rv
   cases ry with
   | p ry =>
    cases ry with
    | str _ ok =>
     obtain ⟨t,rfl⟩:=ru
     obtain ⟨hm,vs,kv,dd⟩:=kd
     obtain ⟨w',z,h1,h2,h3⟩:=ze rk kv e1
     have D:=dd s.heap I.kIn
     refine tail_any (ops:=[.ref a,.str k t]) D.typeIs slot_dict_getitem.lookup ?_ hs
     exact wpAny_getItem_of (knd:=aG X.prog X.w) (eX _ _ k t) D.mapOf h1 ⟨z,H,I.tok _,h2,post.here R (h3 _ _)⟩
 ·have r1:=aF R rx e1
  have r2:=aF R ry e2
  cases d<;>cases d'<;>first | (cases e3;done) | simp only[BT.nX,BT.bI,BT.gw] at e3
  ·split at e3
   ·rename_i c
    obtain ⟨cc,e4,e5⟩:=aA e3
    subst e5
    obtain ⟨rfl,ok⟩:=r1.str
    cases r2.int
    have:=cL
    refine FG value slice pins s σ H _ _ _ _ Q I rv ru ⟨_,_,cc,rfl,rfl,by omega,e4,post.here R (.str _ (wm ok ?_))⟩ hs
    obtain ⟨j,h1,h2⟩:=Option.bind_eq_some_iff.mp e4
    exact Ph h2
   ·cases e3
  ·obtain ⟨a,vs,rfl,ha,ra⟩:=r1.tup
   cases r2.int
   obtain ⟨z,q1,q2⟩:=ra.atI e3
   exact FE value slice pins s σ H _ _ _ _ Q I rv ru ⟨a,vs,_,z,rfl,rfl,ha,q1,post.here R q2⟩ hs
  ·obtain ⟨a,vs,rfl,ha,ra⟩:=r1.lst
   cases r2.int
   obtain ⟨z,q1,q2⟩:=ra.atI e3
   exact BJ value slice pins s σ H _ _ _ _ Q I rv ru ⟨a,vs,_,z,rfl,rfl,ha.sq,q1,post.here R q2⟩ hs
theorem ji (n d:Nat) (o:Option Int):BT.clip n d o=HT.sIx n d o:=by
 cases o with
 | none=>rfl
 | some v =>
  simp only[BT.clip,HT.sIx]
  split
  ·rfl
  ·split
   ·omega
   ·omega
theorem mH {prog:Pi}{w:PK}{A:Qi}{E:O3->O4->Prop}{s:O4}{t sl:Addr}{items:Array O3}{vl vu:O3}{lo hi:Option Int}{Q:O3->O4->Prop} (ht:IsTup s.heap t items) (hs:s.heap.IsSliceOf sl vl vu .none) (pl:UL vl lo) (pu:UL vu hi)
 (hw:HT.sIx items.size 0 lo=0/\HT.sIx items.size items.size hi=items.size) (h:Q (.ref t) s):wpAny (Pw prog w) A (Uw (.ref t) (.ref sl)) Q E s:=by
 obtain ⟨os,hos,hcs,hds⟩:=id hs
 have hTs:s.TypeIs (.ref sl) "slice":=⟨os,hos,hcs⟩
 unfold Uw
 try with_reducible refine Qh ?_
 first | refine wpAny_bind (wpAny_pure ?_) | skip
 refine wpAny_bind (wpAny_sequenceKey ht.typeIs (by decide) ?_)
 refine wpAny_bind (Q4 (name:=Pp "__getitem__") ht.typeIs QK
  (Rv QK ht.typeIs entry_tuple_getitem ?_ (args_tuple_getitem _ _)))
 show wpAny _ _ (Tj (.ref t) >>= _) _ _ s
 refine wpAny_bind (tupleItemsOf_ ht ?_)
 refine wpAny_bind (Sd hTs ?_)
 rw[if_pos (by decide)]
 refine wpAny_bind (HT.fD hs pl pu ?_)
 have hno:(((HT.sIx items.size 0 lo:Nat):Int)==0&&(1:Int)==1&&(HT.sIx items.size items.size hi - HT.sIx items.size 0 lo)==items.size)=true:=by
  rw[hw.1,hw.2];simp
 show wpAny _ _ (if (((HT.sIx items.size 0 lo:Nat):Int)==0&&(1:Int)==1&&(HT.sIx items.size items.size hi - HT.sIx items.size 0 lo)==items.size)=true then _ else _) _ _ s
 rw[if_pos hno]
 unfold Builtin.Tuple.tupleIsExact
 refine wpAny_bind (wpAny_bind (Sd ht.typeIs (wpAny_pure ?_)))
 rw[if_pos (by decide)]
 refine wpAny_bind (Uu ?_)
 first
  | exact wpAny_pure ⟨_,rfl,wpAny_pure h⟩
  | exact wpAny_pure ⟨_,rfl,h⟩
  | exact wpAny_bind (wpAny_pure (wpAny_pure ⟨_,rfl,wpAny_pure h⟩))
noncomputable def rSl (P:Pi) (w:PK) (K:O0):V->Option Int->Option Int->Hp->VK->Prop:=fun v lo hi H Q =>
 ∃ m h x d b,RH K m H h/\RW P w K m H v x/\BT.rd x h=some d/\BT.rS d lo hi=some b/\Post P w K m H (.p b) h Q
theorem RDs.cut {K:O0}{m:List Addr}{H:Hp}{vs:List V}{ds:List BT.D} (r:RDs K m H vs ds) (lo hi:Option Int):RDs K m H (pR vs lo hi) (BT.cut ds lo hi):=by
 unfold pR BT.cut
 rw[ji,ji,r.length]
 exact (r.drop _).take _
theorem wo {ds:List BT.D}{lo hi:Option Int} (h1:HT.sIx ds.length 0 lo=0) (h2:HT.sIx ds.length ds.length hi=ds.length):BT.cut ds lo hi=ds:=by
 unfold BT.cut
 rw[ji,ji,h1,h2]
 simp
theorem osl:SlR X (rSl X.prog X.w X.K):=by
 intro pins s σ H v v' vl vu lo hi sl Q I rv hs pl pu h
 obtain ⟨m,h,x,d,b,R,rx,e1,e2,post⟩:=h
 have r1:=aF R rx e1
 cases d<;>simp only[BT.rS] at e2<;>try contradiction
 ·cases e2
  obtain ⟨a,vs,rfl,ha,ra⟩:=r1.tup
  cases rv
  by_cases c:HT.sIx vs.length 0 lo=0/\HT.sIx vs.length vs.length hi=vs.length
  ·obtain ⟨its,q1,q2,_⟩:=I.tuple ha
   have hl:its.toArray.size=vs.length:=by rw[O6];exact q1.length.symm
   refine ⟨"tuple",_,PyProof.Rows.slot_tuple_getitem.lookup,q2.typeIs,mH q2 hs pl pu (by rw[hl];exact c) ⟨.ref a,H,I,rfl,?_⟩⟩
   cases r1 with
   | d r =>
    refine post.here R ?_
    rw[wo (by rw[← ra.length];exact c.1) (by rw[← ra.length];exact c.2)]
    exact r
  ·exact FD pins s σ H (.ref a) (.ref a) vl vu lo hi sl Q I rfl hs pl pu ⟨a,vs,rfl,ha,c,fun p hp=>jg R hp (ra.cut lo hi) post⟩
 ·cases e2
  obtain ⟨a,vs,rfl,ha,ra⟩:=r1.lst
  exact BK pins s σ H _ _ vl vu lo hi sl Q I rv hs pl pu ⟨a,vs,rfl,ha.sq,fun p hp=>gY R hp (ra.cut lo hi) post⟩
end
end BS
end
section
namespace BS
open PySem PySem.Spec PyProof.Rows L2
theorem ud (m:BT.Me) (d:BT.D) (as:List BT.W) (h:BT.HH):BT.meW m (.p d) as h=(match BT.aR as with | some ds=>(BT.meD m d ds).map fun x=>(.p x,h) | none=>none):=by cases m<;>rfl
section
variable {X:Cx}
noncomputable def rMe (P:Pi) (w:PK) (K:O0) (me:BT.Me):V->List V->Hp->VK->Prop:=fun v vs H Q =>
 ∃ m h x ws z h',RH K m H h/\RW P w K m H v x/\RWs P w K m H vs ws/\BT.meW me x ws h=some (z,h')/\Post P w K m H z h' Q
theorem getD_some {α:Type}{xs:List α}{n:Nat}{a:α} (h:xs[n]?=some a):n < xs.length:=by
 rcases Pq n xs.length with z | z
 ·exact z
 ·rw[Pj z] at h;cases h
theorem wu:MtR X "list.append" (rMe X.prog X.w X.K .append):=by
 intro pins s σ H v vs v' us Q I rv rus h
 obtain ⟨m,h,x,ws,z,h',R,rx,rws,e,post⟩:=h
 cases x with
 | p d=>cases ws with
  | nil=>exact ah e
  | cons _ _=>rw[ud] at e;split at e<;>(try cases e)
 | k kvs=>(first | (cases e;done) | simp[BT.meW] at e)
 | c _ _=>(first | (cases e;done) | simp[BT.meW] at e)
 | o kvs=>(first | (cases e;done) | simp[BT.meW] at e)
 | r n =>
  cases rws with
  | nil=>(first | (cases e;done) | simp[BT.meW] at e)
  | @cons y wy _ _ ry t =>
   cases t with
   | cons _ _=>cases ry<;>(first | (cases e;done) | simp[BT.meW] at e)
   | nil =>
    cases ry with
    | r _=>(first | (cases e;done) | simp[BT.meW] at e)
    | k _ _=>(first | (cases e;done) | simp[BT.meW] at e)
    | c _ _=>(first | (cases e;done) | simp[BT.meW] at e)
    | g _ _=>(first | (cases e;done) | simp[BT.meW] at e)
    | o _=>(first | (cases e;done) | simp[BT.meW] at e)
    | p ry =>
     rw[BT.rT] at e
     cases g:BT.lat h n with
     | none=>rw[g] at e;cases e
     | some xs =>
      rw[g] at e
      simp only at e
      split at e
      ·rename_i c
       cases e
       cases rx with
       | @r a _ hn =>
        obtain ⟨us',hH,r⟩:=R.cell n a xs hn g
        have:=cL
        have hl:=r.length
        exact vP pins s σ H _ _ _ _ Q I rv rus ⟨a,us',y,rfl,rfl,hH,by omega,post _ _ m (fM (Ph hn) hH) (R.set hn hH (r.append (.cons ry .nil))) (.p .non)⟩
      ·cases e
theorem zf {α:Type}{xs:List α}{d:α} (h:xs.getLast?=some d):xs[xs.length - 1]?=some d:=by rw[← List.getLast?_eq_getElem?];exact h
theorem GD:MtR X "list.pop" (rMe X.prog X.w X.K .pop):=by
 intro pins s σ H v vs v' us Q I rv rus h
 obtain ⟨m,h,x,ws,z,h',R,rx,rws,e,post⟩:=h
 cases x with
 | p d=>cases ws with
  | nil=>exact ah e
  | cons _ _=>rw[ud] at e;split at e<;>(try cases e)
 | k kvs=>(first | (cases e;done) | simp[BT.meW] at e)
 | c _ _=>(first | (cases e;done) | simp[BT.meW] at e)
 | o kvs=>(first | (cases e;done) | simp[BT.meW] at e)
 | r n =>
  cases rws with
  | cons _ _=>(first | (cases e;done) | simp[BT.meW] at e)
  | nil =>
   rw[BT.B5] at e
   cases g:BT.lat h n with
   | none=>rw[g] at e;cases e
   | some xs =>
    rw[g] at e
    simp only at e
    cases gl:xs.getLast? with
    | none=>rw[gl] at e;cases e
    | some d =>
     rw[gl] at e
     cases e
     cases rx with
     | @r a _ hn =>
      obtain ⟨us',hH,r⟩:=R.cell n a xs hn g
      have hl:=r.length
      obtain ⟨y,hy,ry⟩:=r.get (zf gl)
      have x1:Ext m H m (upd H a (.lst us'.dropLast)):=fM (Ph hn) hH
      exact FJ pins s σ H _ _ _ _ Q I rv rus ⟨a,us',y,rfl,rfl,hH,by rw[hl];exact hy,post _ _ m x1 (R.set hn hH r.dropLast) (.p (ry.ext x1))⟩
theorem zg {pins:List (Addr×Obj)}{s:O4}{σ:L2.St}{H:Hp}{l b:Addr}{xs zs:List V}{Q:VK} (I:Inv X pins σ H s) (hH:H l=some (.lst xs)) (hB:LL X.K H b zs) (hz:xs.length+zs.length<=sizeLine) (q:Q .non (upd H l (.lst (xs++zs)))) :
 wpAny (Pw X.prog X.w) X.A (call (.builtin "list.extend") [.ref l,.ref b]) (EP X pins σ Q) X.xe s:=by
 obtain ⟨z,its,n,r,hl,e⟩:=I.BO hH
 obtain ⟨z2,its2,n2,r2,hl2,e2⟩:=rdL I hB
 have hsz:its.toArray.size+its2.toArray.size<=sizeLine:=by rw[O6,O6];omega
 have hlong:¬ (!its.toArray.isEmpty&&Qq (its.toArray.size+its2.toArray.size))=true:=by
  rw[kT hsz,Bool.and_false]
  exact PX
 refine RZ F.slot_list_extend ⟨_,e,rfl⟩ F.entry_list_extend (F.args_list_extend_2 _ _)
  (AutoSeq1.list_extend_list_list_0 l its.toArray n b its2.toArray n2 hlong (by rw[O6];omega) (by omega)) ⟨e,e2,?_⟩
 refine ⟨.non,_,I.BN (its':=its++its2) hH e (by simp) (r.append r2) ?_,rfl,q⟩
 rw[PB]
 omega
theorem Cv {pins:List (Addr×Obj)}{s:O4}{σ:L2.St}{H:Hp}{l b:Addr}{xs zs:List V}{Q:VK} (I:Inv X pins σ H s) (hH:H l=some (.lst xs)) (hB:SqT X.K H b zs) (hz:xs.length+zs.length<=sizeLine) (q:Q .non (upd H l (.lst (xs++zs)))) :
 wpAny (Pw X.prog X.w) X.A (call (.builtin "list.extend") [.ref l,.ref b]) (EP X pins σ Q) X.xe s:=by
 obtain ⟨z,its,n,r,hl,e⟩:=I.BO hH
 obtain ⟨its2,r2,p2,_⟩:=I.tuple hB
 obtain ⟨⟨cls,dd,data,sl⟩,e2,hc,n2,hd⟩:=id p2
 simp only at hc hd
 subst hc hd
 have hl2:=r2.length
 have hsz:its.toArray.size+its2.toArray.size<=sizeLine:=by rw[O6,O6];omega
 have hlong:¬ (!its.toArray.isEmpty&&Qq (its.toArray.size+its2.toArray.size))=true:=by
  rw[kT hsz,Bool.and_false]
  exact PX
 refine RZ F.slot_list_extend ⟨_,e,rfl⟩ F.entry_list_extend (F.args_list_extend_2 _ _)
  (kg l its.toArray n b its2.toArray n2 dd sl hlong (by rw[O6];omega) (by omega)) ⟨e,e2,?_⟩
 refine ⟨.non,_,I.BN (its':=its++its2) hH e (by simp) (r.append r2) ?_,rfl,q⟩
 rw[PB]
 omega
theorem wA:MtR X "list.extend" (rMe X.prog X.w X.K .extend):=by
 intro pins s σ H v vs v' us Q I rv rus h
 obtain ⟨m,h,x,ws,z,h',R,rx,rws,e,post⟩:=h
 cases x with
 | p d=>cases ws with
  | nil=>exact ah e
  | cons _ _=>rw[ud] at e;split at e<;>(try cases e)
 | k kvs=>(first | (cases e;done) | simp[BT.meW] at e)
 | c _ _=>(first | (cases e;done) | simp[BT.meW] at e)
 | o kvs=>(first | (cases e;done) | simp[BT.meW] at e)
 | r n =>
  cases rws with
  | nil=>(first | (cases e;done) | simp[BT.meW] at e)
  | @cons y wy _ _ ry t =>
   cases t with
   | cons _ _=>(first | (cases e;done) | simp[BT.meW] at e)
   | nil =>
    rw[BT.rV] at e
    cases g:BT.lat h n with
    | none=>rw[g] at e;cases e
    | some xs =>
     cases g2:(BT.rd wy h).bind BT.nW with
     | none=>rw[g,g2] at e;cases e
     | some ys =>
      rw[g,g2] at e
      simp only at e
      split at e
      ·rename_i c
       cases e
       obtain ⟨d,e1,e2⟩:=Option.bind_eq_some_iff.mp g2
       have r2:=aF R ry e1
       cases rx with
       | @r a _ hn =>
        obtain ⟨us',hH,r⟩:=R.cell n a xs hn g
        cases rv
        obtain ⟨u,rfl,ru⟩:=rus.one
        have:=cL
        have hl:=r.length
        cases d<;>simp only[BT.nW] at e2<;>try contradiction
        ·cases e2
         obtain ⟨b,vb,rfl,hb,rb⟩:=r2.tup
         cases ru
         have hl2:=rb.length
         exact Cv I hH hb (by omega) (post _ _ m (fM (Ph hn) hH) (R.set hn hH (r.append rb)) (.p .non))
        ·cases e2
         obtain ⟨b,vb,rfl,hb,rb⟩:=r2.lst
         cases ru
         have hl2:=rb.length
         exact zg I hH hb (by omega) (post _ _ m (fM (Ph hn) hH) (R.set hn hH (r.append rb)) (.p .non))
      ·cases e
theorem RWs.pure {P:Pi}{w:PK}{K:O0}{m:List Addr}{H:Hp}:∀ {vs:List V}{ws:List BT.W}{ds:List BT.D},RWs P w K m H vs ws->BT.aR ws=some ds->RDs K m H vs ds:=by
 intro vs ws
 induction ws generalizing vs with
 | nil =>
  intro ds r e
  cases r
  cases e
  exact .nil
 | cons x ws ih =>
  intro ds r e
  cases r with
  | cons r t =>
   cases r with
   | p r =>
    simp only[BT.aR] at e
    obtain ⟨q,e1,e2⟩:=aA e
    subst e2
    exact .cons r (ih t e1)
   | _=>cases e
theorem lz {x:BT.D}:∀ {ds:List BT.D}{k j:Nat},BT.iN x ds k=some j->∃ i,j=k+i/\∃ (hi:i < ds.length),BT.eqv ds[i] x=true/\∀ m (hm:m < ds.length),m < i->BT.eqv ds[m] x=false
 | [],_,_,e=>by cases e
 | y :: r,k,j,e=>by
  simp only[BT.iN] at e
  split at e
  ·rename_i c
   cases e
   exact ⟨0,rfl,by simp,c,fun m _ h=>by omega⟩
  ·rename_i c
   obtain ⟨i,rfl,hi,h1,h2⟩:=lz e
   refine ⟨i+1,by omega,by simp;omega,by simpa using h1,fun m hm hlt=>?_⟩
   cases m with
   | zero=>simpa using c
   | succ m=>simpa using h2 m (by simpa using hm) (by omega)
theorem oH {pins:List (Addr×Obj)}{σ:L2.St}{s:O4}{m:List Addr}{H:Hp}{d:BT.D} (I:Inv X pins σ H s):∀ {vs:List V}{ds:List BT.D}{us:List O3},RDs X.K m H vs ds->au vs us->∀ (i:Nat) (h1:i < us.length) (h2:i < ds.length),cV s.heap (pd d) us[i]=BT.eqv ds[i] d
 | _,_,_,.nil,q=>by cases q;intro i h1;simp at h1
 | _,_,_,.cons r t,q=>by
  cases q with
  | cons q1 q2 =>
   intro i h1 h2
   cases i with
   | zero =>
    obtain ⟨as,ra⟩:=gH I r q1
    simp only[List.getElem_cons_zero]
    rw[sf ra (dW r),ly]
   | succ i=>simpa using oH I t q2 i (by simpa using h1) (by simpa using h2)
theorem wB (hu:X.A.units+150 < cLine):MtR X "tuple.index" (fun v vs H Q=>(∃ m h x ws z h',RH X.K m H h/\RW X.prog X.w X.K m H v x/\RWs X.prog X.w X.K m H vs ws/\BT.meW .tindex x ws h=some (z,h')/\Post X.prog X.w X.K m H z h' Q)):=by
 intro pins s σ H v vs v' us Q I rv rus h
 obtain ⟨m,h,x,ws,z,h',R,rx,rws,e,post⟩:=h
 cases x with
 | r n=>cases ws with
  | nil=>(first | (cases e;done) | simp[BT.meW] at e)
  | cons _ _=>(first | (cases e;done) | simp[BT.meW] at e)
 | k kvs=>(first | (cases e;done) | simp[BT.meW] at e)
 | c _ _=>(first | (cases e;done) | simp[BT.meW] at e)
 | o kvs=>(first | (cases e;done) | simp[BT.meW] at e)
 | p d =>
  rw[BT.kZ] at e
  cases g:BT.aR ws with
  | none=>rw[g] at e;cases e
  | some ds =>
   rw[g] at e
   obtain ⟨b,e1,e2⟩:=aA e
   cases e2
   have rds:=rws.pure g
   cases d<;>first | exact ah e1 | skip
   rename_i xs
   cases ds with
   | nil=>exact ah e1
   | cons d0 dr =>
    cases dr with
    | cons _ _=>exact ah e1
    | nil =>
     rw[BT.yz] at e1
     split at e1
     ·rename_i c
      obtain ⟨j,e3,e4⟩:=aA e1
      subst e4
      obtain ⟨i,rfl,hi,h1,h2⟩:=lz e3
      cases rds with
      | cons r0 rn =>
       cases rn
       obtain ⟨u,rfl,ru⟩:=rus.one
       cases rx with
       | p rx =>
        obtain ⟨a,vt,rfl,ha,ra⟩:=RR.tup (.d rx)
        cases rv
        obtain ⟨its,q1,q2,_⟩:=I.tuple ha
        obtain ⟨⟨cls,dd,data,sl⟩,ho,hc,n,hd⟩:=id q2
        simp only at hc hd
        subst hc hd
        have hl:=q1.length
        have hl2:=ra.length
        have hi':i < its.toArray.size:=by rw[O6];omega
        refine RZ F.slot_tuple_index ⟨_,ho,rfl⟩ F.entry_tuple_index (F.args_tuple_index_2 _ _)
         (mG a its.toArray n dd sl u (cV s.heap (pd d0)) i hi' ?_ ?_) ⟨ho,?_,?_⟩
        ·rw[show its.toArray[i]=its[i]'(by omega) by simp,oH I ra q1 i (by omega) hi];exact h1
        ·intro k hk hlt
         have hk':k < its.length:=by simpa using hk
         rw[show its.toArray[k]=its[k]'hk' by simp,oH I ra q1 k hk' (by omega)];exact h2 k (by omega) hlt
        ·intro y hy
         exact ig hu I (.d r0) ru ra q1 c y (by simpa using hy)
        ·refine ⟨.int (((0+i:Nat):Nat):Int),H,I.tok _,⟨s.toks,?_⟩,post.here R (.int _)⟩
         simp
     ·cases e1
end
end BS
end
section
namespace BS
open PySem PySem.Spec PyProof.Rows L2
section
variable {X:Cx}
noncomputable def rBi (P:Pi) (w:PK) (K:O0) (b:BT.Bi) (mu:Bool):List V->Hp->VK->Prop:=fun vs H Q =>
 ∃ m h ws z h',RH K m H h/\RWs P w K m H vs ws/\BT.kBi b mu ws h=some (z,h')/\Post P w K m H z h' Q
inductive RRs (K:O0) (m:List Addr) (H:Hp):List V->List BT.D->Prop where
 | nil:RRs K m H [] []
 | cons {v:V}{d:BT.D}{vs:List V}{ds:List BT.D} (r:RR K m H v d) (t:RRs K m H vs ds):RRs K m H (v :: vs) (d :: ds)
theorem fz {P:Pi}{w:PK}{K:O0}{m:List Addr}{H:Hp}{h:BT.HH} (R:RH K m H h):∀ {vs:List V}{ws:List BT.W}{ds:List BT.D},RWs P w K m H vs ws->BT.rds ws h=some ds->RRs K m H vs ds
 | _,_,_,.nil,e=>by cases e;exact .nil
 | _,_,_,.cons r t,e=>by
  simp only[BT.rds] at e
  obtain ⟨d,e1,e2⟩:=Option.bind_eq_some_iff.mp e
  obtain ⟨q,e3,e4⟩:=aA e2
  subst e4
  exact .cons (aF R r e1) (fz R t e3)
theorem f7 {b:BT.Bi}{mu:Bool}{ws:List BT.W}{h:BT.HH}{z:BT.W}{h':BT.HH} (e:BT.kBi b mu ws h=some (z,h')) :
 ∃ ds d,BT.rds ws h=some ds/\BT.biD b ds=some d/\((mu=false/\z=.p d/\h'=h)\/∃ xs,mu=true/\d=.lst xs/\z=.r h.length/\h'=h++[.l xs]):=by
 unfold BT.kBi at e
 cases e1:BT.rds ws h with
 | none=>rw[e1] at e;cases e
 | some ds =>
  rw[e1] at e
  simp only at e
  cases e2:BT.biD b ds with
  | none=>rw[e2] at e;cases e
  | some d =>
   rw[e2] at e
   simp only at e
   cases mu with
   | false=>cases e;exact ⟨ds,d,rfl,e2,.inl ⟨rfl,rfl,rfl⟩⟩
   | true =>
    simp only[if_true] at e
    cases d<;>simp only at e<;>try contradiction
    cases e
    exact ⟨ds,_,rfl,e2,.inr ⟨_,rfl,rfl,rfl,rfl⟩⟩
theorem RRs.one {K:O0}{m:List Addr}{H:Hp}{vs:List V}{d:BT.D} (r:RRs K m H vs [d]):∃ v,vs=[v]/\RR K m H v d:=by
 cases r with
 | cons r t=>cases t;exact ⟨_,rfl,r⟩
theorem GE:cC X (.builtin "len") (rBi X.prog X.w X.K .len false):=by
 intro pins s σ H vs us Q I rus h
 obtain ⟨m,h,ws,z,h',R,rws,e,post⟩:=h
 obtain ⟨ds,d,e1,e2,⟨_,rfl,rfl⟩ | ⟨_,q,_⟩⟩:=f7 e
 ·have rr:=fz R rws e1
  match ds,e2 with
  | [.tup xs],e2 =>
   cases e2
   obtain ⟨v,rfl,r⟩:=rr.one
   obtain ⟨a,vt,rfl,ha,ra⟩:=r.tup
   exact i9 pins s σ H _ us Q I rus ⟨a,vt,rfl,.inr ha,by rw[ra.length];exact post.here R (.int _)⟩
  | [.lst xs],e2 =>
   cases e2
   obtain ⟨v,rfl,r⟩:=rr.one
   obtain ⟨a,vt,rfl,ha,ra⟩:=r.lst
   exact i9 pins s σ H _ us Q I rus ⟨a,vt,rfl,.inl ha.sq,by rw[ra.length];exact post.here R (.int _)⟩
  | [.str x],e2 =>
   rw[BT.vZ] at e2
   split at e2
   ·rename_i c
    cases e2
    obtain ⟨v,rfl,r⟩:=rr.one
    obtain ⟨rfl,_⟩:=r.str
    have:=cL
    exact nO pins s σ H _ us Q I rus ⟨x,rfl,by omega,post.here R (.int _)⟩
   ·cases e2
 ·cases q
theorem GF:cC X (.builtin "abs") (rBi X.prog X.w X.K .abs false):=by
 intro pins s σ H vs us Q I rus h
 obtain ⟨m,h,ws,z,h',R,rws,e,post⟩:=h
 obtain ⟨ds,d,e1,e2,⟨_,rfl,rfl⟩ | ⟨_,q,_⟩⟩:=f7 e
 ·have rr:=fz R rws e1
  match ds,e2 with
  | [.int i],e2 =>
   cases e2
   obtain ⟨v,rfl,r⟩:=rr.one
   cases r.int
   exact xT pins s σ H _ us Q I rus ⟨i,rfl,post.here R (.int _)⟩
 ·cases q
theorem GG:cC X (.type "int") (rBi X.prog X.w X.K .int false):=by
 intro pins s σ H vs us Q I rus h
 obtain ⟨m,h,ws,z,h',R,rws,e,post⟩:=h
 obtain ⟨ds,d,e1,e2,⟨_,rfl,rfl⟩ | ⟨_,q,_⟩⟩:=f7 e
 ·have rr:=fz R rws e1
  match ds,e2 with
  | [.int i],e2 =>
   cases e2
   obtain ⟨v,rfl,r⟩:=rr.one
   cases r.int
   exact mW pins s σ H _ us Q I rus (.inl ⟨i,rfl,post.here R (.int _)⟩)
  | [.bl i],e2 =>
   cases e2
   obtain ⟨v,rfl,r⟩:=rr.one
   cases r.bl
   exact mW pins s σ H _ us Q I rus (.inr ⟨i,rfl,post.here R (.int _)⟩)
 ·cases q
theorem ue {mu:Bool}:cC X (.type "list") (rBi X.prog X.w X.K .list mu):=by
 intro pins s σ H vs us Q I rus h
 obtain ⟨m,h,ws,z,h',R,rws,e,post⟩:=h
 obtain ⟨ds,d,e1,e2,hz⟩:=f7 e
 have rr:=fz R rws e1
 have fin:∀ {p:Addr}{vt:List V}{xs:List BT.D},d=.lst xs->H p=none->RDs X.K m H vt xs->Q (.ref p) (upd H p (.lst vt)):=by
  intro p vt xs ed hp r
  rcases hz with ⟨_,rfl,rfl⟩ | ⟨ys,_,e3,rfl,rfl⟩
  ·subst ed;exact gY R hp r post
  ·rw[ed] at e3;cases e3;exact ua R hp r post
 match ds,e2 with
 | [.tup xs],e2 =>
  cases e2
  obtain ⟨v,rfl,r⟩:=rr.one
  obtain ⟨a,vt,rfl,ha,ra⟩:=r.tup
  exact ja pins s σ H _ us Q I rus ⟨a,vt,rfl,.inr ha,fun p hp=>fin rfl hp ra⟩
 | [.lst xs],e2 =>
  cases e2
  obtain ⟨v,rfl,r⟩:=rr.one
  obtain ⟨a,vt,rfl,ha,ra⟩:=r.lst
  exact ja pins s σ H _ us Q I rus ⟨a,vt,rfl,.inl ha.sq,fun p hp=>fin rfl hp ra⟩
theorem iS:∀ {xs:List BT.D}{ns:List Int},BT.intsOf xs=some ns->xs=ns.map BT.D.int
 | [],ns,h=>by cases h;rfl
 | .int i :: r,ns,h=>by
  simp only[BT.intsOf] at h
  obtain ⟨q,e1,e2⟩:=aA h
  subst e2
  rw[iS e1];rfl
 | .non :: _,_,h=>by cases h
 | .bl _ :: _,_,h=>by cases h
 | .str _ :: _,_,h=>by cases h
 | .tup _ :: _,_,h=>by cases h
 | .lst _ :: _,_,h=>by cases h
theorem fO {K:O0}{m:List Addr}{H:Hp}:∀ {ns:List Int}{vs:List V},RDs K m H vs (ns.map BT.D.int)->vs=ns.map V.int
 | [],vs,r=>by cases r;rfl
 | n :: ns,vs,r=>by
  cases r with
  | cons r t=>cases r;rw[fO t];rfl
theorem qj {K:O0}{m:List Addr}{H:Hp}:∀ (ns:List Int),RDs K m H (ns.map V.int) (ns.map BT.D.int)
 | []=>.nil
 | n :: ns=>.cons (.int n) (qj ns)
theorem zh (hc:X.calm=true):cC X (.builtin "sum") (fun xs H Q=>∃ (a:Addr) (ns:List Int),xs=[.ref a]/\SqL X.K H a (ns.map V.int)/\Q (.int ns.sum) H):=by
 intro pins s σ H xs us Q I r h
 obtain ⟨a,ns,rfl,hl,q⟩:=h
 obtain ⟨u,rfl,e⟩:=vals1 r
 cases e
 obtain ⟨its,rv,p,hz⟩:=I.list hl
 have hi:=intsAre_of rv
 obtain ⟨ys,e⟩:=hi.allInts.items
 have hns:ns=ys.toList.map (·.1):=by
  rw[← hi.numsOf,← nums_intItems,← e]
 have pl:=p.isList
 rw[e] at pl
 refine sum_intListG (I.ok.hd hc) pl fun h' tk t' hk=>?_
 have e2:preSum (numAt ys) ys.size=ns.sum:=by
  rw[preSum_eq,Vb (by simp),hns]
 rw[e2]
 exact ⟨.int _,H,I.kept hk,⟨t',rfl⟩,q⟩
theorem GH (hc:X.calm=true):cC X (.builtin "sum") (rBi X.prog X.w X.K .sum false):=by
 intro pins s σ H vs us Q I rus h
 obtain ⟨m,h,ws,z,h',R,rws,e,post⟩:=h
 obtain ⟨ds,d,e1,e2,⟨_,rfl,rfl⟩ | ⟨_,q,_⟩⟩:=f7 e
 ·have rr:=fz R rws e1
  match ds,e2 with
  | [.lst xs],e2 =>
   rw[BT.tS] at e2
   obtain ⟨ns,q1,q2⟩:=aA e2
   subst q2
   obtain ⟨v,rfl,r⟩:=rr.one
   obtain ⟨a,vt,rfl,ha,ra⟩:=r.lst
   rw[iS q1] at ra
   have ev:=fO ra
   subst ev
   exact zh hc pins s σ H _ us Q I rus ⟨a,ns,rfl,ha.sq,post.here R (.int _)⟩
 ·cases q
theorem zj:cC X (.type "tuple") (rBi X.prog X.w X.K .tuple false):=by
 intro pins s σ H vs us Q I rus h
 obtain ⟨m,h,ws,z,h',R,rws,e,post⟩:=h
 obtain ⟨ds,d,e1,e2,⟨_,rfl,rfl⟩ | ⟨_,q,_⟩⟩:=f7 e
 ·have rr:=fz R rws e1
  match ds,e2 with
  | [.tup xs],e2 =>
   cases e2
   obtain ⟨v,rfl,r⟩:=rr.one
   obtain ⟨a,vt,rfl,ha,ra⟩:=r.tup
   refine iB pins s σ H _ us Q I rus ⟨a,vt,rfl,.inr ⟨ha,?_⟩⟩
   cases r with
   | d r=>exact post.here R r
  | [.lst xs],e2 =>
   cases e2
   obtain ⟨v,rfl,r⟩:=rr.one
   obtain ⟨a,vt,rfl,ha,ra⟩:=r.lst
   exact iB pins s σ H _ us Q I rus ⟨a,vt,rfl,.inl ⟨ha.sq,fun p hp=>jg R hp ra post⟩⟩
 ·cases q
noncomputable def tyD:BT.D->String
 | .non=>"NoneType"
 | .bl _=>"bool"
 | .int _=>"int"
 | .str _=>"str"
 | .tup _=>"tuple"
 | .lst _=>"list"
theorem Cw {pins:List (Addr×Obj)}{σ:L2.St}{s:O4}{H:Hp}{m:List Addr}{v:V}{u:O3}{d:BT.D}{c:String}{b:Bool}{Q:O3->O4->Prop}{A:Qi}{E:O3->O4->Prop}
 (I:Inv X pins σ H s) (r:RR X.K m H v d) (rv:RelV v u) (e:Sk X.K (.type (tyD d)) (.type c)=some b) (h:∀ tk,Q (.bool b) { s with toks:=tk }) :
 wpAny (Pw X.prog X.w) A (call (.builtin "isinstance") [u,.type c]) Q E s:=by
 cases d with
 | non=>cases r.non;cases rv;exact Ro PySem.W.kitx_none I.kIn Sf e (fun z=>nomatch z) h
 | bl y=>cases r.bl;cases rv;exact Ro PySem.W.kitx_bool I.kIn Sf e (fun z=>nomatch z) h
 | int i=>cases r.int;obtain ⟨t,rfl⟩:=rv;exact Ro PySem.W.kitx_int I.kIn Sf e (fun z=>nomatch z) h
 | str y=>obtain ⟨rfl,_⟩:=r.str;obtain ⟨t,rfl⟩:=rv;exact Ro PySem.W.kitx_str I.kIn Sf e (fun z=>nomatch z) h
 | tup xs =>
  obtain ⟨a,vt,rfl,ha,_⟩:=r.tup
  cases rv
  obtain ⟨its,_,⟨o,h1,h2,_⟩,_⟩:=I.tuple ha
  exact Ro PySem.W.kitx_tuple I.kIn ⟨o,h1,h2⟩ e (fun z=>nomatch z) h
 | lst xs =>
  obtain ⟨a,vt,rfl,ha,_⟩:=r.lst
  cases rv
  obtain ⟨_,its,n,_,_,h1⟩:=rdL I ha
  exact Ro PySem.W.kitx_list I.kIn ⟨_,h1,rfl⟩ e (fun z=>nomatch z) h
theorem zk (K:O0) (t:String):Sk K (.type t) (.type t)=some true:=by
 unfold Sk
 rw[if_pos (by simp)]
theorem zm {b:BT.Bi}{c:String}{f:BT.D->Bool} (h:qe b=some (c,f)) (d:BT.D):BT.biD b [d]=some (.bl (f d)):=by
 cases b<;>simp only[qe] at h<;>try contradiction
 all_goals (cases h;rfl)
theorem zo {b:BT.Bi}{c:String}{f:BT.D->Bool} (h:qe b=some (c,f)) (K:O0) (d:BT.D):Sk K (.type (tyD d)) (.type c)=some (f d):=by
 cases b<;>simp only[qe] at h<;>try contradiction
 all_goals (cases h;cases d)
 all_goals first
  | exact zk K _
  | (simp only[tyD];unfold Sk;rw[if_neg (by decide)];unfold PySem.W.kitCls;first | rfl | kernel_rfl | decide +kernel)
end
end BS
end
section
namespace BS
open PySem PySem.Spec PyProof.Rows L2
noncomputable abbrev FT:=BT.FK->List BT.W->BT.HH->Option (BT.W×BT.HH)
noncomputable def spF (P:Pi) (w:PK) (K:O0) (g:List BT.W->BT.HH->Option (BT.W×BT.HH)):Sp:=fun vs H Q _ =>
 ∃ m ws h z h',RH K m H h/\RWs P w K m H vs ws/\g ws h=some (z,h')/\Post P w K m H z h' Q
noncomputable def tD (X:Cx) (F:FT) (G:Str->Option BT.W) (e:BT.E):TE:=fun σ H Q =>
 ∃ m s h z h',RH X.K m H h/\RS X.prog X.w X.K m H σ s/\BT.ev F G e s h=some (z,h')/\Post X.prog X.w X.K m H z h' Q
noncomputable def tDs (X:Cx) (F:FT) (G:Str->Option BT.W) (es:BT.Es):TA:=fun σ H Q =>
 ∃ m s h zs h',RH X.K m H h/\RS X.prog X.w X.K m H σ s/\BT.evs F G es s h=some (zs,h')/\∀ vs H' m',Ext m H m' H'->RH X.K m' H' h'->RWs X.prog X.w X.K m' H' vs zs->Q vs H'
noncomputable def tDT (X:Cx) (F:FT) (G:Str->Option BT.W) (e:BT.E):TT:=fun σ H Q =>
 ∃ m s h b h',RH X.K m H h/\RS X.prog X.w X.K m H σ s/\BT.ev F G e s h=some (.p (.bl b),h')/\∀ H' m',Ext m H m' H'->RH X.K m' H' h'->Q b H'
noncomputable def qk (P:Pi) (w:PK) (K:O0) (mg:Str->Option O3) (base:Heap) (k L:Nat) (g:List BT.W->BT.HH->Option (BT.W×BT.HH)):Prop :=
 ∀ (A:Qi) (outer:List Env) (s:O4) (H:Hp) (f:Addr) (us:List O3) (vs cvs:List V) (m:List Addr) (ws:List BT.W) (cs:List BT.Cp) (h:BT.HH) (z:BT.W) (h':BT.HH) (Q:VK) (E:XK),bP k A->mq P w K mg base A outer s H->au vs us →
  RH K m H h->RWs P w K m H vs ws->BT.noC ws=true->gD m H f L cvs->RCs K m H cvs cs->g (ws++cs.map BT.Cp.w) h=some (z,h')->Post P w K m H z h' Q->codeAny (Pw P w) A (.call (.ref f) ⟨us,[]⟩) (CR CX0 outer P w H s Q E) s
structure LX (X:Cx) (x:Str):Prop where
 mem:x∈BT.dj
 ex:∃ c P,P9 X.K x=some (c,P)/\X.env.code=.ref c/\PySem.W.CodeHd X.base c P/\∀ y∈BT.dj,∀ c2,P9 X.K y=some (c2,P)->y=x
 ql:X.env.qual=x++".<locals>."
 bm:∃ bm ob,X.mg "__builtins__"=some (.ref bm)/\bm≠Q9/\X.base.get? bm=some ob/\ob.cls=.type "module"/\ob.dict=some Q9/\ob.data=.plain
noncomputable def GI:List Str:=["len","abs","int","list","tuple","isinstance","str","bool","range","reversed","enumerate","zip","min","max","sorted","sum","all","any","set"]
structure Ok (X:Cx) (F:FT) (G:Str->Option BT.W) (sc:Pu) (N:List Str):Prop where
 hsc:X.env.scope=sc
 hN:X.N=N
 nd:X.N.Nodup
 calm:X.calm=true
 hu:X.A.units+150 < cLine
 own:PassesOwn (Pw X.prog X.w) X.A X.env X.xe
 glob:∀ x z,G x=some z->∃ u v,X.mg x=some u/\RelV v u/\∀ m H,RW X.prog X.w X.K m H v z
 call:∀ (f:Str) ws h r,F (.f f) ws h=some r->∃ (fa:Addr) (fd:QN) (ps:List Str) (k:Nat),X.mg f=some (.ref fa)/\Qp X.K (.ref fa)=true/\Binds X.K fd ps []/\bP k X.A ∧
  fX X.prog X.w X.K X.mg X.base CX0 k fa fd ps (spF X.prog X.w X.K (F (.f f)))
 meth:∀ (c m:Str) ws h r,F (.m c m) ws h=some r->∃ (C g:Addr) (fd:QN) (ps:List Str) (k:Nat),lq X.K c C/\vM X.K C m g/\Binds X.K fd ps []/\bP k X.A ∧
  fX X.prog X.w X.K X.mg X.base CX0 k g fd ps (spF X.prog X.w X.K (F (.m c m)))
 mkc:∀ (c:Str) ws h r,F (.m c "__init__") ws h=some r->∃ (C g:Addr) (fd:QN) (ps:List Str) (k:Nat),lq X.K c C/\X.mg c=some (.ref C)/\Mk X.K C g/\Binds X.K fd ps []/\bP (k+1) X.A ∧
  fX X.prog X.w X.K X.mg X.base CX0 k g fd ps (spF X.prog X.w X.K (F (.m c "__init__")))
 blt:∀ x∈GI,X.mg x=none
 lam:∀ (L:Nat) ws h r,F (.l L) ws h=some r->∃ k,bP k X.A/\qk X.prog X.w X.K X.mg X.base k L (F (.l L))
 lamx:(∀ x,X.fn x=true)->∀ x,N.contains (BT.cg x)=true->LX X x
theorem PE.weak {X:Cx}{e:O1}{t t':TE} (h:PE X e t) (q:∀ σ H Q,t' σ H Q->t σ H Q):PE X e t':=fun pins s σ H Q I hw=>h pins s σ H Q I (q _ _ _ hw)
theorem PT.weak {X:Cx}{e:O1}{t t':TT} (h:PT X e t) (q:∀ σ H Q,t' σ H Q->t σ H Q):PT X e t':=fun pins s σ H Q I hw=>h pins s σ H Q I (q _ _ _ hw)
theorem PW.weak {X:Cx}{e:O1}{t t':TT} (h:PW X e t) (q:∀ σ H Q,t' σ H Q->t σ H Q):PW X e t':=fun wh pins s σ H Q I hw=>h wh pins s σ H Q I (q _ _ _ hw)
theorem PA.weak {X:Cx}{es:List O1}{t t':TA} (h:PA X es t) (q:∀ σ H Q,t' σ H Q->t σ H Q):PA X es t':=fun pos pins s σ H Q I hw=>h pos pins s σ H Q I (q _ _ _ hw)
theorem aj {e:O1}{es:List O1}{env:Env} (h:noStar e=true):PL (e :: es) env=(false,eval e env) :: PL es env:=by
 cases e<;>first | rfl | cases h
theorem zu {b:O1} (h:je b=true):tH b:=fun o i=>by
 cases b<;>first | rfl | cases h
theorem iw {o:O1}{name:Str}{env:Env} (h:aB o=true):SY o name env (eval o env)=eval o env:=by
 cases o with
 | Call fn as ks p =>
  cases fn with
  | Attribute _ _ _=>rfl
  | _=>cases h
 | _=>first | rfl | cases h
noncomputable def aq:List O1->Bool
 | []=>true
 | e :: es=>noStar e&&aq es
theorem aE {pos:Pos}{env:Env}:∀ {es:List O1},aq es=true->(Rg pos (PL es env)).any (·.1)=false
 | [],_=>rfl
 | e :: es,h=>by
  simp only[aq,O5] at h
  rw[aj h.1]
  show (false||(Rg pos (PL es env)).any (·.1))=false
  rw[aE h.2];rfl
theorem gJ {pos:Pos}{env:Env}:∀ {es:List O1},aq es=true->(Rg pos (PL es env)).all (fun x=>!x.1)=true
 | [],_=>rfl
 | e :: es,h=>by
  simp only[aq,O5] at h
  rw[aj h.1]
  show (!false&&(Rg pos (PL es env)).all (fun x=>!x.1))=true
  rw[gJ h.2];rfl
theorem c7:∀ {sc:Pu}{N:List Str}{as:BT.Es}{es:List O1},CEs sc N as es->aq es=true
 | _,_,_,_,.nil=>rfl
 | _,_,_,_,.cons hs _ hr=>by
  simp only[aq,O5]
  exact ⟨hs,c7 hr⟩
section
variable {X:Cx}{F:FT}{G:Str->Option BT.W}{sc:Pu}{N:List Str}
theorem oJ {f:BT.OpW}{e a b:BT.E} (he:∀ s h,BT.ev F G e s h=BT.bnd (BT.ev F G a s h) (BT.k2 (BT.ev F G b s) f)) (σ:L2.St) (H:Hp) (Q:VK) (q:tD X F G e σ H Q) :
 tOp (rOp X.prog X.w X.K f) (tD X F G a) (tD X F G b) σ H Q:=by
 obtain ⟨m,s,h,z,h',R,S,ee,post⟩:=q
 rw[he] at ee
 obtain ⟨x,h1,e1,e2⟩:=ai ee
 simp only[BT.k2] at e2
 obtain ⟨y,h2,e3,e4⟩:=ai e2
 refine ⟨m,s,h,x,h1,R,S,e1,fun v H1 m1 x1 R1 r1=>?_⟩
 refine ⟨m1,s,h1,y,h2,R1,S.ext x1,e3,fun u H2 m2 x2 R2 r2=>?_⟩
 exact ⟨m2,h2,x,y,z,h',R2,r1.ext x2,r2,e4,fun w' H3 m3 x3 R3 r3=>post w' H3 m3 ((x1.trans x2).trans x3) R3 r3⟩
theorem qm {e:BT.E}{t:TE} (h:∀ σ H Q,tD X F G e σ H Q->t σ H Q) (σ:L2.St) (H:Hp) (Q:Bool->Hp->Prop) (q:tDT X F G e σ H Q):xQ t σ H Q:=by
 obtain ⟨m,s,h0,b,h',R,S,ee,post⟩:=q
 refine h σ H _ ⟨m,s,h0,_,h',R,S,ee,fun v H' m' x R' r=>?_⟩
 cases r with
 | p r=>cases r;exact ⟨b,rfl,post H' m' x R'⟩
theorem opB {o:BT.Bin}{op:Sa} (h:EE o op=true):OpR X (QH op) (rOp X.prog X.w X.K (BT.mE o)):=by
 cases o<;>cases op<;>cases h
 ·exact Gv
 ·exact Gw
 ·exact Gz
 ·exact Gx
 ·exact Cr
 ·exact Gy
theorem EI {vs:List (Key×O3)}{k:Str}:∀ {es:List (Str×V)}{kvs:List (Str×BT.D)}{K:O0},RDk K es kvs->KV (es.map fun q=>((Sum.inr q.1:Key),q.2)) vs->(valueAt vs (Sum.inr k)).isSome=(BT.cT k kvs).isSome:=by
 intro es
 induction es generalizing vs with
 | nil =>
  intro kvs K r q
  cases r
  cases q
  rfl
 | cons p es ih =>
  intro kvs K r q
  cases r with
  | @cons x v dd _ kvs r t =>
   cases q with
   | @cons p z l1 l2 q1 q2 =>
    obtain ⟨z1,z2⟩:=z
    obtain ⟨q11,q12⟩:=q1
    simp only at q11 q12
    subst q11
    rw[BT.cT]
    by_cases c:k=x
    ·subst c
     simp[valueAt]
    ·rw[if_neg c]
     have ne:¬ ((Sum.inr x:Key)=Sum.inr k):=fun z=>c (Sum.inr.inj z).symm
     have:=ih t q2
     simp only[valueAt] at this ⊢
     rw[SL (by simpa using ne)]
     exact this
theorem opC (O:Ok X F G sc N) {o:BT.Cm}{op:CmpOp} (h:Co o op=true):OpR X (P7 op) (rOp X.prog X.w X.K (BT.gk o)):=by
 cases o<;>cases op<;>cases h
 ·exact J7 O.hu
 ·exact J8 O.hu
 ·exact J9
 ·exact Ka
 ·exact Kc
 ·exact Kd
 ·exact GA
 ·exact Cs
 ·refine GB O.hu ?_
  intro kvs x b m H v u v' u' pins σ s Q I rv ru rx rk e q
  cases x with
  | r n=>exact ah e
  | k q=>exact ah e
  | c _ _=>exact ah e
  | o q=>exact ah e
  | p d =>
   cases d<;>first | exact ah e | skip
   obtain rfl:=Pn e
   cases rk with
   | @k a es _ kd rk =>
    cases ru
    cases rx with
    | p rx =>
     cases rx with
     | str x ok =>
      obtain ⟨t,rfl⟩:=rv
      obtain ⟨hm,vs,kv,dd⟩:=kd
      have D:=dd s.heap I.kIn
      refine wpAny_in_of (knd:=aG X.prog X.w) (eX _ _ _ t) hm D.mapOf ?_
      rw[EI rk kv]
      exact ⟨.bl _,H,I.tok _,rfl,q⟩
 ·refine Ct O.hu ?_
  intro kvs x b m H v u v' u' pins σ s Q I rv ru rx rk e q
  cases x with
  | r n=>exact ah e
  | k q=>exact ah e
  | c _ _=>exact ah e
  | o q=>exact ah e
  | p d =>
   cases d<;>first | exact ah e | skip
   obtain rfl:=Pn e
   cases rk with
   | @k a es _ kd rk =>
    cases ru
    cases rx with
    | p rx =>
     cases rx with
     | str x ok =>
      obtain ⟨t,rfl⟩:=rv
      obtain ⟨hm,vs,kv,dd⟩:=kd
      have D:=dd s.heap I.kIn
      refine wpAny_notIn_of (knd:=aG X.prog X.w) (eX _ _ _ t) hm D.mapOf ?_
      rw[EI rk kv]
      exact ⟨.bl _,H,I.tok _,rfl,q⟩
end
end BS
end
section
namespace BS
open PySem PySem.Spec PyProof.Rows L2
section
variable {X:Cx}{F:FT}{G:Str->Option BT.W}{sc:Pu}{N:List Str}
theorem Cy (O:Ok X F G sc N) (x:Str):X.env.kindOf x=sc.names.lookup x:=by rw[← O.hsc];rfl
theorem dG {x:Str} (h:cj x=true):(x==("__debug__":Str))=false/\(x==("__classdict__":Str))=false/\x≠"__name__":=by
 simp only[cj,O5,RM] at h
 exact ⟨h.1.1,h.1.2,fun e=>by rw[e] at h;simp at h⟩
theorem aX (O:Ok X F G sc N) {x:Str} (h:aV sc x=true):Gl X x:=by
 show X.env.kindOf x=_
 rw[Cy O]
 exact eq_of_beq h
theorem zw (O:Ok X F G sc N) {x:Str} (h:jY sc x=true):Vis X.env.scope x:=by
 rw[O.hsc]
 unfold jY at h
 unfold Vis
 cases e:sc.names.lookup x with
 | none=>rw[e] at h;cases h
 | some k=>rw[e] at h;cases k<;>first | (exact .inl rfl) | (exact .inr (.inl rfl)) | (exact .inr (.inr rfl)) | cases h
theorem oK (O:Ok X F G sc N) {i:Nat}{y:Str}{pos:Pos} (h2:N[i]?=some y) (h3:jY sc y=true) (h4:cj y=true):PE X (.Name y pos) (tD X F G (.var i y)):=by
 obtain ⟨d1,d2,_⟩:=dG h4
 refine PE.weak (xA (i:=i) (by rw[O.hN];exact h2) (zw O h3) d1 d2) fun σ H Q q=>?_
 obtain ⟨m,s,h,z,h',R,S,ee,post⟩:=q
 simp only[BT.ev] at ee
 split at ee
 ·rename_i w e
  cases ee
  obtain ⟨v,hv,r⟩:=S.get i _ e
  exact ⟨v,hv,post v H m (.refl _ _) R r⟩
 ·cases ee
theorem Cz {d:BT.D}{c:Const}{k:Nat}{pos:Pos} (h:EF d c=true):PE X (.Constant c k pos) (tD X F G (.cst d)):=by
 have fin:∀ {v:V},(∀ m H,RD X.K m H v d)->∀ σ H Q,tD X F G (.cst d) σ H Q->tC v σ H Q:=fun r σ H Q q=>by
  obtain ⟨m,s,h,z,h',R,S,ee,post⟩:=q
  simp only[BT.ev] at ee
  cases ee
  exact post _ H m (.refl _ _) R (.p (r m H))
 cases d<;>cases c<;>first | (cases h;done) | skip
 ·exact PE.weak EZ (fin fun _ _=>.non)
 ·cases eq_of_beq h;exact PE.weak IM (fin fun _ _=>.bl _)
 ·cases eq_of_beq h;exact PE.weak rj (fin fun _ _=>.int _)
 ·have h:=Bool.and_eq_true_iff.mp h
  cases eq_of_beq h.1;exact PE.weak E2 (fin fun _ _=>.str _ h.2)
theorem CA (O:Ok X F G sc N) {y:Str}{pos:Pos} (h2:aV sc y=true) (h3:cj y=true):PE X (.Name y pos) (tD X F G (.glo y)):=by
 obtain ⟨d1,d2,_⟩:=dG h3
 intro pins s σ H Q I q
 obtain ⟨m,s',h,z,h',R,S,ee,post⟩:=q
 simp only[BT.ev] at ee
 obtain ⟨w,e1,e2⟩:=aA ee
 cases e2
 obtain ⟨u,v,hm,r,rw⟩:=O.glob _ _ e1
 exact sZ (aX O h2) hm r d1 pins s σ H Q I (post v H m (.refl _ _) R (rw m H))
theorem EJ {e a:BT.E}{k:BT.W->BT.HH->Option (BT.W×BT.HH)} (he:∀ s h,BT.ev F G e s h=BT.bnd (BT.ev F G a s h) k) {σ:L2.St}{H:Hp}{Q:VK} (q:tD X F G e σ H Q) {R':V->Hp->Prop}
 (h1:∀ m h x z h' v H1,RH X.K m H1 h->RW X.prog X.w X.K m H1 v x->k x h=some (z,h')->Post X.prog X.w X.K m H1 z h' Q->R' v H1):tD X F G a σ H R':=by
 obtain ⟨m,s,h,z,h',R,S,ee,post⟩:=q
 rw[he] at ee
 obtain ⟨x,g,e1,e2⟩:=ai ee
 exact ⟨m,s,h,x,g,R,S,e1,fun v H1 m1 x1 R1 r1=>h1 m1 g x z h' v H1 R1 r1 e2 fun w' H3 m3 x3 R3 r3=>post w' H3 m3 (x1.trans x3) R3 r3⟩
theorem kD {e:BT.E}{as:BT.Es}{k:List BT.W->BT.HH->Option (BT.W×BT.HH)} (he:∀ s h,BT.ev F G e s h=BT.bnd (BT.evs F G as s h) k) {σ:L2.St}{H:Hp}{Q:VK} (q:tD X F G e σ H Q) {R':List V->Hp->Prop}
 (h1:∀ m h xs z h' vs H1,RH X.K m H1 h->RWs X.prog X.w X.K m H1 vs xs->k xs h=some (z,h')->Post X.prog X.w X.K m H1 z h' Q->R' vs H1):tDs X F G as σ H R':=by
 obtain ⟨m,s,h,z,h',R,S,ee,post⟩:=q
 rw[he] at ee
 obtain ⟨x,g,e1,e2⟩:=ai ee
 exact ⟨m,s,h,x,g,R,S,e1,fun v H1 m1 x1 R1 r1=>h1 m1 g x z h' v H1 R1 r1 e2 fun w' H3 m3 x3 R3 r3=>post w' H3 m3 (x1.trans x3) R3 r3⟩
theorem ty_list {m:List Addr}{H:Hp}{h:BT.HH}{v:V}{n:Nat} (R:RH X.K m H h) (r:RW X.prog X.w X.K m H v (.r n)) (ok:BT.qd (.r n) h=true):tyV X.K "list" v H:=by
 cases r with
 | @r a _ hn =>
  obtain ⟨xs,e⟩:=Option.isSome_iff_exists.mp ok
  obtain ⟨vs,e,_⟩:=R.cell n a xs hn e
  exact .inl ⟨rfl,vs,.inl (.inl e)⟩
theorem uf {m:BT.Me}{ea:BT.HH->Option (List BT.W×BT.HH)}{x:BT.W}{h:BT.HH}{r:BT.W×BT.HH} (e:BT.kMe m ea x h=some r):BT.qd x h=true/\BT.bnd (ea h) (BT.meW m x)=some r:=by
 unfold BT.kMe at e
 split at e
 ·rename_i c;exact ⟨c,e⟩
 ·cases e
theorem NI {m:BT.Me}{x:BT.W}{ws:List BT.W}{h:BT.HH}{z:BT.W}{h':BT.HH} (hm:m=.append\/m=.pop\/m=.extend) (e:BT.meW m x ws h=some (z,h')):∃ n,x=.r n:=by
 cases x with
 | r n=>exact ⟨n,rfl⟩
 | p d =>
  rcases hm with rfl | rfl | rfl<;>cases ws<;>rw[ud] at e<;>(split at e<;>(try cases e))<;>exact ah e
 | k q =>
  rcases hm with rfl | rfl | rfl<;>cases ws<;>(first | (cases e;done) | simp[BT.meW] at e)
 | c _ _ =>
  rcases hm with rfl | rfl | rfl<;>cases ws<;>(first | (cases e;done) | simp[BT.meW] at e)
 | o q =>
  rcases hm with rfl | rfl | rfl<;>cases ws<;>(first | (cases e;done) | simp[BT.meW] at e)
end
end BS
end
section
namespace BS
open PySem PySem.Spec PyProof.Rows L2
section
variable {F:FT}{G:Str->Option BT.W}
theorem oM {X:Cx}{e a:BT.E}{k:BT.Sl->BT.W->BT.HH->Option (BT.W×BT.HH)} (he:∀ s h,BT.ev F G e s h=BT.bnd (BT.ev F G a s h) (k s)) {σ:L2.St}{H:Hp}{Q:VK} (q:tD X F G e σ H Q) {R':V->Hp->Prop}
 (h1:∀ m s h x z h' v H1,RH X.K m H1 h->RS X.prog X.w X.K m H1 σ s->RW X.prog X.w X.K m H1 v x->k s x h=some (z,h')->Post X.prog X.w X.K m H1 z h' Q->R' v H1):tD X F G a σ H R':=by
 obtain ⟨m,s,h,z,h',R,S,ee,post⟩:=q
 rw[he] at ee
 obtain ⟨x,g,e1,e2⟩:=ai ee
 exact ⟨m,s,h,x,g,R,S,e1,fun v H1 m1 x1 R1 r1=>h1 m1 s g x z h' v H1 R1 (S.ext x1) r1 e2 fun w' H3 m3 x3 R3 r3=>post w' H3 m3 (x1.trans x3) R3 r3⟩
theorem GJ {X:Cx}{e a:BT.E}{k:BT.Sl->Bool->BT.HH->Option (BT.W×BT.HH)}{kk:BT.Sl->BT.W->BT.HH->Option (BT.W×BT.HH)} (he:∀ s h,BT.ev F G e s h=BT.bnd (BT.ev F G a s h) (kk s))
 (hk:∀ s x h r,kk s x h=some r->∃ b,x=.p (.bl b)/\k s b h=some r) {σ:L2.St}{H:Hp}{Q:VK} (q:tD X F G e σ H Q) {R':Bool->Hp->Prop}
 (h1:∀ m s h b z h' H1,RH X.K m H1 h->RS X.prog X.w X.K m H1 σ s->k s b h=some (z,h')->Post X.prog X.w X.K m H1 z h' Q->R' b H1):tDT X F G a σ H R':=by
 obtain ⟨m,s,h,z,h',R,S,ee,post⟩:=q
 rw[he] at ee
 obtain ⟨x,g,e1,e2⟩:=ai ee
 obtain ⟨b,rfl,e3⟩:=hk _ _ _ _ e2
 exact ⟨m,s,h,b,g,R,S,e1,fun H1 m1 x1 R1=>h1 m1 s g b z h' H1 R1 (S.ext x1) e3 fun w' H3 m3 x3 R3 r3=>post w' H3 m3 (x1.trans x3) R3 r3⟩
theorem jJ {P:Pi}{w:PK}{K:O0}{m:List Addr}{H:Hp}{v:V}{b:Bool} (r:RW P w K m H v (.p (.bl b))):v=.bl b:=by
 cases r with | p r=>cases r;rfl
theorem ug {eb:BT.EH}{x:BT.W}{h:BT.HH}{r:BT.W×BT.HH} (e:BT.B9 eb x h=some r):∃ b,x=.p (.bl b)/\(if b=true then eb h else some (.p (.bl false),h))=some r:=by
 cases x with
 | p d =>
  cases d<;>simp only[BT.B9] at e<;>try contradiction
  exact ⟨_,rfl,e⟩
 | r n=>cases e
 | k q=>cases e
 | c _ _=>cases e
 | o q=>cases e
theorem zx {eb:BT.EH}{x:BT.W}{h:BT.HH}{r:BT.W×BT.HH} (e:BT.kOr eb x h=some r):∃ b,x=.p (.bl b)/\(if b=true then some (.p (.bl true),h) else eb h)=some r:=by
 cases x with
 | p d =>
  cases d<;>simp only[BT.kOr] at e<;>try contradiction
  exact ⟨_,rfl,e⟩
 | r n=>cases e
 | k q=>cases e
 | c _ _=>cases e
 | o q=>cases e
theorem CB {ea eb:BT.EH}{x:BT.W}{h:BT.HH}{r:BT.W×BT.HH} (e:BT.Ca ea eb x h=some r):∃ b,x=.p (.bl b)/\(if b=true then ea h else eb h)=some r:=by
 cases x with
 | p d =>
  cases d<;>simp only[BT.Ca] at e<;>try contradiction
  exact ⟨_,rfl,e⟩
 | r n=>cases e
 | k q=>cases e
 | c _ _=>cases e
 | o q=>cases e
theorem uh {x:BT.W}{h:BT.HH}{r:BT.W×BT.HH} (e:BT.B8 x h=some r):∃ b,x=.p (.bl b)/\r=(.p (.bl (!b)),h):=by
 cases x with
 | p d =>
  cases d<;>simp only[BT.B8] at e<;>try contradiction
  cases e;exact ⟨_,rfl,rfl⟩
 | r n=>cases e
 | k q=>cases e
 | c _ _=>cases e
 | o q=>cases e
theorem CD {x:BT.W}{h:BT.HH}{r:BT.W×BT.HH} (e:BT.B7 x h=some r):∃ i,x=.p (.int i)/\r=(.p (.int (-i)),h):=by
 cases x with
 | p d =>
  cases d<;>simp only[BT.B7] at e<;>try contradiction
  cases e;exact ⟨_,rfl,rfl⟩
 | r n=>cases e
 | k q=>cases e
 | c _ _=>cases e
 | o q=>cases e
theorem um {X:Cx}{a b:BT.E} (σ:L2.St) (H:Hp) (Q:VK) (q:tD X F G (.and a b) σ H Q):En (tD X F G a) (tD X F G b) σ H Q:=by
 refine oM (k:=fun s=>BT.B9 (BT.ev F G b s)) (fun s h=>by simp only[BT.ev]) q fun m s h x z h' v H1 R S r e post=>?_
 obtain ⟨c,rfl,e2⟩:=ug e
 refine ⟨c,jJ r,?_⟩
 cases c with
 | true=>rw[if_pos rfl] at e2 ⊢;exact ⟨m,s,h,z,h',R,S,e2,post⟩
 | false=>rw[if_neg (by decide)] at e2 ⊢;cases e2;exact post.here R (.bl _)
theorem zy {X:Cx}{a b:BT.E} (σ:L2.St) (H:Hp) (Q:VK) (q:tD X F G (.or a b) σ H Q):IR (tD X F G a) (tD X F G b) σ H Q:=by
 refine oM (k:=fun s=>BT.kOr (BT.ev F G b s)) (fun s h=>by simp only[BT.ev]) q fun m s h x z h' v H1 R S r e post=>?_
 obtain ⟨c,rfl,e2⟩:=zx e
 refine ⟨c,jJ r,?_⟩
 cases c with
 | true=>rw[if_pos rfl] at e2 ⊢;cases e2;exact post.here R (.bl _)
 | false=>rw[if_neg (by decide)] at e2 ⊢;exact ⟨m,s,h,z,h',R,S,e2,post⟩
theorem uq {X:Cx}{a b:BT.E} (σ:L2.St) (H:Hp) (Q:Bool->Hp->Prop) (q:tDT X F G (.and a b) σ H Q):IP (tDT X F G a) (tDT X F G b) σ H Q:=by
 obtain ⟨m,s,h,c,h',R,S,ee,post⟩:=q
 simp only[BT.ev] at ee
 obtain ⟨x,g,e1,e2⟩:=ai ee
 obtain ⟨d,rfl,e3⟩:=ug e2
 refine ⟨m,s,h,d,g,R,S,e1,fun H1 m1 x1 R1=>?_⟩
 cases d with
 | true=>rw[if_pos rfl] at e3 ⊢;exact ⟨m1,s,g,c,h',R1,S.ext x1,e3,fun H2 m2 x2 R2=>post H2 m2 (x1.trans x2) R2⟩
 | false=>rw[if_neg (by decide)] at e3 ⊢;cases e3;exact post H1 m1 x1 R1
theorem zA {X:Cx}{a b:BT.E} (σ:L2.St) (H:Hp) (Q:Bool->Hp->Prop) (q:tDT X F G (.or a b) σ H Q):tOr (tDT X F G a) (tDT X F G b) σ H Q:=by
 obtain ⟨m,s,h,c,h',R,S,ee,post⟩:=q
 simp only[BT.ev] at ee
 obtain ⟨x,g,e1,e2⟩:=ai ee
 obtain ⟨d,rfl,e3⟩:=zx e2
 refine ⟨m,s,h,d,g,R,S,e1,fun H1 m1 x1 R1=>?_⟩
 cases d with
 | true=>rw[if_pos rfl] at e3 ⊢;cases e3;exact post H1 m1 x1 R1
 | false=>rw[if_neg (by decide)] at e3 ⊢;exact ⟨m1,s,g,c,h',R1,S.ext x1,e3,fun H2 m2 x2 R2=>post H2 m2 (x1.trans x2) R2⟩
theorem CF {X:Cx}{a:BT.E} (σ:L2.St) (H:Hp) (Q:Bool->Hp->Prop) (q:tDT X F G (.not a) σ H Q):IQ (tDT X F G a) σ H Q:=by
 obtain ⟨m,s,h,c,h',R,S,ee,post⟩:=q
 simp only[BT.ev] at ee
 obtain ⟨x,g,e1,e2⟩:=ai ee
 obtain ⟨d,rfl,e3⟩:=uh e2
 cases e3
 exact ⟨m,s,h,d,h',R,S,e1,fun H1 m1 x1 R1=>post H1 m1 x1 R1⟩
theorem CG {X:Cx}{a:BT.E} (σ:L2.St) (H:Hp) (Q:VK) (q:tD X F G (.not a) σ H Q):Eo (tD X F G a) σ H Q:=by
 refine oM (k:=fun s=>BT.B8) (fun s h=>by simp only[BT.ev]) q fun m s h x z h' v H1 R S r e post=>?_
 obtain ⟨c,rfl,e2⟩:=uh e
 cases e2
 exact ⟨c,jJ r,post.here R (.bl _)⟩
theorem GK {X:Cx}{c a b:BT.E} (σ:L2.St) (H:Hp) (Q:VK) (q:tD X F G (.ite c a b) σ H Q):tIf (tDT X F G c) (tD X F G a) (tD X F G b) σ H Q:=by
 refine GJ (k:=fun s t h=>if t=true then BT.ev F G a s h else BT.ev F G b s h) (kk:=fun s=>BT.Ca (BT.ev F G a s) (BT.ev F G b s)) (fun s h=>by simp only[BT.ev]) (fun s x h r e=>CB e) q fun m s h t z h' H1 R S e post=>?_
 cases t with
 | true=>rw[if_pos rfl] at e ⊢;exact ⟨m,s,h,z,h',R,S,e,post⟩
 | false=>rw[if_neg (by decide)] at e ⊢;exact ⟨m,s,h,z,h',R,S,e,post⟩
theorem GL {X:Cx}{a:BT.E} (σ:L2.St) (H:Hp) (Q:VK) (q:tD X F G (.neg a) σ H Q):tUn (rU fun i=>.int (-i)) (tD X F G a) σ H Q:=by
 refine oM (k:=fun s=>BT.B7) (fun s h=>by simp only[BT.ev]) q fun m s h x z h' v H1 R S r e post=>?_
 obtain ⟨c,rfl,e2⟩:=CD e
 cases e2
 cases r with | p r=>cases r;exact ⟨c,rfl,post.here R (.int _)⟩
theorem qo {X:Cx}{o o':BT.Cm}{a b c:BT.E} (σ:L2.St) (H:Hp) (Q:VK) (q:tD X F G (.chain o o' a b c) σ H Q) :
 rD (rOp X.prog X.w X.K (BT.gk o)) (rOp X.prog X.w X.K (BT.gk o')) (tD X F G a) (tD X F G b) (tD X F G c) σ H Q:=by
 obtain ⟨m,s,h,z,h',R,S,ee,post⟩:=q
 simp only[BT.ev] at ee
 obtain ⟨x,h1,e1,e2⟩:=ai ee
 simp only[BT.k2] at e2
 obtain ⟨y,h2,e3,e4⟩:=ai e2
 refine ⟨m,s,h,x,h1,R,S,e1,fun v H1 m1 x1 R1 r1=>?_⟩
 refine ⟨m1,s,h1,y,h2,R1,S.ext x1,e3,fun u H2 m2 x2 R2 r2=>?_⟩
 unfold BT.oCh at e4
 cases g1:BT.rd x h2 with
 | none=>rw[g1] at e4;cases e4
 | some d =>
  cases y with
  | r _=>rw[g1] at e4;cases e4
  | k _=>rw[g1] at e4;cases e4
  | c _ _=>rw[g1] at e4;cases e4
  | o _=>rw[g1] at e4;cases e4
  | p d' =>
   rw[g1] at e4
   simp only at e4
   have ho:∀ (o:BT.Cm) (x':BT.W) (hh:BT.HH) dd,BT.rd x' hh=some dd->∀ y' dd',BT.rd y' hh=some dd'->BT.gk o x' y' hh=(BT.dQ o dd dd').map fun z=>(.p (.bl z),hh):=by
    intro o x' hh dd q1 y' dd' q2
    unfold BT.gk
    cases y' with
    | p _=>simp only[q1,q2]
    | r _=>simp only[q1,q2]
    | k _=>cases q2
    | c _ _=>cases q2
    | o _=>cases q2
   cases g3:BT.dQ o d d' with
   | none=>rw[g3] at e4;cases e4
   | some t =>
    rw[g3] at e4
    refine ⟨m2,h2,x,.p d',.p (.bl t),h2,R2,r1.ext x2,r2,by rw[ho o x h2 d g1 (.p d') d' rfl,g3];rfl,fun v3 H3 m3 x3 R3 r3=>⟨t,jJ r3,?_⟩⟩
    cases t with
    | false =>
     rw[if_neg (by decide)]
     cases e4
     exact post _ H3 m3 ((x1.trans x2).trans x3) R3 (.p (.bl _))
    | true =>
     rw[if_pos rfl]
     obtain ⟨w3,h3,e5,e6⟩:=ai e4
     refine ⟨m3,s,h2,w3,h3,R3,((S.ext x1).ext x2).ext x3,e5,fun v4 H4 m4 x4 R4 r4=>?_⟩
     unfold BT.JI at e6
     cases g4:BT.rd w3 h3 with
     | none=>rw[g4] at e6;cases e6
     | some f =>
      rw[g4] at e6
      simp only at e6
      refine ⟨m4,h3,.p d',w3,z,h',R4,(r2.ext x3).ext x4,r4,by rw[ho o' (.p d') h3 d' rfl w3 f g4];exact e6,fun v5 H5 m5 x5 R5 r5=>post v5 H5 m5 ((((x1.trans x2).trans x3).trans x4).trans x5) R5 r5⟩
theorem GM {X:Cx}{a:BT.E}{lo hi:BT.Es}{tl th:TO} (hl:∀ σ H (Q:Option Int->Hp->Prop),(∃ m s h l zs h',RH X.K m H h/\RS X.prog X.w X.K m H σ s/\BT.evs F G lo s h=some (zs,h')/\(BT.aR zs).bind BT.nV=some l/\∀ H' m',Ext m H m' H'->RH X.K m' H' h'->Q l H')->tl σ H Q)
 (hh:∀ σ H (Q:Option Int->Hp->Prop),(∃ m s h l zs h',RH X.K m H h/\RS X.prog X.w X.K m H σ s/\BT.evs F G hi s h=some (zs,h')/\(BT.aR zs).bind BT.nV=some l/\∀ H' m',Ext m H m' H'->RH X.K m' H' h'->Q l H')->th σ H Q)
 (σ:L2.St) (H:Hp) (Q:VK) (q:tD X F G (.slc a lo hi) σ H Q):tSl (rSl X.prog X.w X.K) (tD X F G a) tl th σ H Q:=by
 obtain ⟨m,s,h,z,h',R,S,ee,post⟩:=q
 simp only[BT.ev] at ee
 obtain ⟨x,h1,e1,e2⟩:=ai ee
 simp only[BT.JL] at e2
 obtain ⟨ls,h2,e3,e4⟩:=ai e2
 simp only[BT.JK] at e4
 obtain ⟨us,h3,e5,e6⟩:=ai e4
 unfold BT.JJ at e6
 cases g1:BT.rd x h3 with
 | none=>rw[g1] at e6;cases e6
 | some d =>
  cases g2:(BT.aR ls).bind BT.nV with
  | none=>rw[g1,g2] at e6;cases e6
  | some l =>
   cases g3:(BT.aR us).bind BT.nV with
   | none=>rw[g1,g2,g3] at e6;cases e6
   | some u =>
    rw[g1,g2,g3] at e6
    simp only at e6
    obtain ⟨b,e7,e8⟩:=aA e6
    cases e8
    refine ⟨m,s,h,x,h1,R,S,e1,fun v H1 m1 x1 R1 r1=>hl σ H1 _ ⟨m1,s,h1,l,ls,h2,R1,S.ext x1,e3,g2,fun H2 m2 x2 R2=>hh σ H2 _ ⟨m2,s,h2,u,us,h',R2,(S.ext x1).ext x2,e5,g3,fun H3 m3 x3 R3=>?_⟩⟩⟩
    exact ⟨m3,h',x,d,b,R3,(r1.ext x2).ext x3,g1,e7,fun v5 H5 m5 x5 R5 r5=>post v5 H5 m5 (((x1.trans x2).trans x3).trans x5) R5 r5⟩
end
end BS
end
section
namespace BS
open PySem PySem.Spec PyProof.Rows L2
section
variable {F:FT}{G:Str->Option BT.W}
theorem ur {X:Cx}{f:Str}{as:BT.Es}{sp:Sp} (hs:sp=spF X.prog X.w X.K (F (.f f))) {σ:L2.St}{H:Hp}{Q:VK} (q:tD X F G (.call f as) σ H Q):xX sp [] E0 (tDs X F G as) σ H Q:=by
 subst hs
 refine kD (k:=fun ws h=>F (.f f) ws h) (fun s h=>by simp only[BT.ev]) q fun m h xs z h' vs H1 R r e post=>?_
 rw[P4]
 exact ⟨m,xs,h,z,h',R,r,e,post⟩
theorem f9 {X:Cx}{σ:L2.St}{H:Hp}{Q:List V->Hp->Prop} (q:tDs X F G .nil σ H Q):xW σ H Q:=by
 obtain ⟨m,s,h,zs,h',R,S,ee,post⟩:=q
 simp only[BT.evs] at ee
 cases ee
 exact post [] H m (.refl _ _) R .nil
theorem zB {X:Cx}{sc:Pu}{N:List Str} (O:Ok X F G sc N) {f:Str}{as:BT.Es}{es:List O1}{p pos:Pos} (hg:aV sc f=true) (hn:cj f=true) (hc:CEs sc N as es) (ha:PA X es (tDs X F G as)) :
 PE X (.Call (.Name f p) es [] pos) (tD X F G (.call f as)):=by
 have hst:=c7 hc
 intro pins s σ H Q I q
 have q0:=q
 obtain ⟨m,s',h,z,h',R,S,ee,post⟩:=q
 simp only[BT.ev] at ee
 obtain ⟨ws,h1,e1,e2⟩:=ai ee
 obtain ⟨fa,fd,ps,k,hm,hk,hb,hr,ok⟩:=O.call _ _ _ _ e2
 cases es with
 | nil =>
  cases as with
  | cons a r=>cases hc
  | nil=>exact (PE.weak (ya ok hr (aX O hg) hm hk hb .nil kU (dG hn).1) (fun σ H Q z=>f9 (ur (X:=X) rfl z))) pins s σ H Q I q0
 | cons e es =>
  simp only[aq,O5] at hst
  exact (PE.weak (Bx ok hr (aX O hg) hm hk hb .nil kU ha (dG hn).1 (aj hst.1) (aE hst.2)) (fun σ H Q z=>ur rfl z)) pins s σ H Q I q0
theorem sj {X:Cx}{sc:Pu}{N:List Str}{me:BT.Me}{o:BT.E}{as:BT.Es}{oe:O1}{es:List O1}{name:Str}{apos cpos:Pos}{T id:String} (pa:PlainAttrs T) (slot:Slot T name id)
 (hty:typeOf (.builtin id)=pure (.type "method_descriptor")) (hm:MtR X id (rMe X.prog X.w X.K me)) (hb:aB oe=true) (hl:(apos.endLine==cpos.line)=true) (hlen:es.length < 20) (ho:PE X oe (tD X F G o)) (hc:CEs sc N as es) (ha:PA X es (tDs X F G as))
 (ty:∀ (m:List Addr) (h h2:BT.HH) (H:Hp) (v:V) (x:BT.W) ws r,RH X.K m H h->RW X.prog X.w X.K m H v x->BT.qd x h=true->BT.meW me x ws h2=some r->(∃ σ s,RS X.prog X.w X.K m H σ s/\∃ h0,BT.ev F G o s h0=some (x,h))->tyV X.K T v H) :
 PE X (.Call (.Attribute oe name apos) es [] cpos) (tD X F G (.me me o as)):=by
 have hst:=c7 hc
 have key:∀ σ H Q,tD X F G (.me me o as) σ H Q->tBM X.K T (rMe X.prog X.w X.K me) (tD X F G o) (tDs X F G as) σ H Q:=by
  intro σ H Q q
  obtain ⟨m,s,h,z,h',R,S,ee,post⟩:=q
  simp only[BT.ev] at ee
  obtain ⟨x,h1,e1,e2⟩:=ai ee
  obtain ⟨ok,e2⟩:=uf e2
  obtain ⟨ws,h2,e3,e4⟩:=ai e2
  refine ⟨m,s,h,x,h1,R,S,e1,fun v H1 m1 x1 R1 r1=>⟨ty m1 h1 h2 H1 v x ws _ R1 r1 ok e4 ⟨σ,s,S.ext x1,h,e1⟩,m1,s,h1,ws,h2,R1,S.ext x1,e3,fun vs H2 m2 x2 R2 r2=>?_⟩⟩
  exact ⟨m2,h2,x,ws,z,h',R2,r1.ext x2,r2,e4,fun v5 H5 m5 x5 R5 r5=>post v5 H5 m5 ((x1.trans x2).trans x5) R5 r5⟩
 cases es with
 | nil =>
  cases as with
  | cons a r=>cases hc
  | nil =>
   refine PE.weak (FI pa slot hty hm ho (iw hb) hl) fun σ H Q q=>?_
   obtain ⟨m,s,h,z,h',R,S,ee,post⟩:=key σ H Q q
   exact ⟨m,s,h,z,h',R,S,ee,fun v H1 m1 x1 R1 r1=>⟨(post v H1 m1 x1 R1 r1).1,f9 (post v H1 m1 x1 R1 r1).2⟩⟩
 | cons e es =>
  simp only[aq,O5] at hst
  refine PE.weak (yf pa slot hty hm ho ha (iw hb) ?_ hl (aj hst.1) (aE hst.2)) key
  rw[gJ (es:=e :: es) (by simp only[aq,O5];exact hst)]
  have h30:decide ((e :: es).length+([]:List T8).length+(if ([]:List T8).isEmpty then 0 else 1) < 30)=true:=decide_eq_true (by
   simp only[Pk,P8,List.isEmpty_nil,if_true] at hlen ⊢;omega)
  rw[h30];rfl
theorem iC {X:Cx}{b:BT.Bi}{mu:Bool}{as:BT.Es}{σ:L2.St}{H:Hp}{Q:VK} (q:tD X F G (.bi b mu as) σ H Q):tCB (rBi X.prog X.w X.K b mu) (tDs X F G as) σ H Q:=by
 refine kD (k:=fun ws h=>BT.kBi b mu ws h) (fun s h=>by simp only[BT.ev]) q fun m h xs z h' vs H1 R r e post=>?_
 exact ⟨m,h,xs,z,h',R,r,e,post⟩
theorem GN {X:Cx}{sc:Pu}{N:List Str} (O:Ok X F G sc N) {b:BT.Bi}{mu:Bool}{as:BT.Es}{x:Str}{e:O1}{es:List O1}{p pos:Pos} (hb:EG b mu x=true) (hg:aV sc x=true) (hst:aq (e :: es)=true) (ha:PA X (e :: es) (tDs X F G as)) :
 PE X (.Call (.Name x p) (e :: es) [] pos) (tD X F G (.bi b mu as)):=by
 simp only[aq,O5] at hst
 have hx:yS b mu=some x:=eq_of_beq hb
 have hB:=O.blt
 cases b<;>cases mu<;>first | (cases hx;done) | (change some _=some _ at hx)
 all_goals (cases hx)
 ·exact PE.weak (fC GE (aX O hg) (hB _ (by decide)) PySem.boot_len ha (by decide) (by decide) (aj hst.1) (aE hst.2)) (fun σ H Q z=>iC z)
 ·exact PE.weak (fC GF (aX O hg) (hB _ (by decide)) (by decide +kernel) ha (by decide) (by decide) (aj hst.1) (aE hst.2)) (fun σ H Q z=>iC z)
 ·exact PE.weak (gU GG (aX O hg) (hB _ (by decide)) (by decide +kernel) ha (by decide) (by decide) (aj hst.1) (aE hst.2)) (fun σ H Q z=>iC z)
 ·exact PE.weak (gU ue (aX O hg) (hB _ (by decide)) (by decide +kernel) ha (by decide) (by decide) (aj hst.1) (aE hst.2)) (fun σ H Q z=>iC z)
 ·exact PE.weak (gU ue (aX O hg) (hB _ (by decide)) (by decide +kernel) ha (by decide) (by decide) (aj hst.1) (aE hst.2)) (fun σ H Q z=>iC z)
 ·exact PE.weak (gU zj (aX O hg) (hB _ (by decide)) (by decide +kernel) ha (by decide) (by decide) (aj hst.1) (aE hst.2)) (fun σ H Q z=>iC z)
 ·exact PE.weak (fC (GH O.calm) (aX O hg) (hB _ (by decide +kernel)) (by decide +kernel) ha (by decide) (by decide) (aj hst.1) (aE hst.2)) (fun σ H Q z=>iC z)
theorem wC {X:Cx}{c:String}{f:BT.D->Bool}{b:BT.Bi} (hb:qe b=some (c,f)):cC X (.builtin "isinstance") (fun vs H Q=>∃ v,vs=[v,.ty c]/\rBi X.prog X.w X.K b false [v] H Q):=by
 intro pins s σ H vs us Q I rus h
 obtain ⟨v,rfl,m,h,ws,z,h',R,rws,e,post⟩:=h
 obtain ⟨u,u2,rfl,ru,ru2⟩:=rus.two
 cases ru2
 obtain ⟨ds,d,e1,e2,⟨_,rfl,rfl⟩ | ⟨_,q,_⟩⟩:=f7 e
 ·have rr:=fz R rws e1
  cases rr with
  | cons r t =>
   cases t
   rw[zm hb] at e2
   cases e2
   exact Cw I r ru (zo hb X.K _) fun tk=>⟨.bl _,H,I.tok tk,rfl,post.here R (.bl _)⟩
 ·cases q
theorem zC {X:Cx}{sc:Pu}{N:List Str} (O:Ok X F G sc N) {b:BT.Bi}{c:String}{f:BT.D->Bool}{a:BT.E}{e:O1}{p p2 pos:Pos} (hb:qe b=some (c,f)) (hg:aV sc "isinstance"=true) (hg2:aV sc (Pp c)=true) (hst:noStar e=true) (ha:PE X e (tD X F G a)) :
 PE X (.Call (.Name "isinstance" p) [e,.Name (Pp c) p2] [] pos) (tD X F G (.bi b false (.cons a .nil))):=by
 have hB:=O.blt
 have hc:PE X (.Name (Pp c) p2) (tC (.ty c)):=by
  cases b<;>simp only[qe] at hb<;>try contradiction
  all_goals (cases hb)
  ·exact iY (aX O hg2) (hB _ (by decide)) (u:=.type "int") (by decide +kernel) rfl (by decide) (by decide)
  ·exact iY (aX O hg2) (hB _ (by decide)) (u:=.type "bool") (by decide +kernel) rfl (by decide) (by decide)
  ·exact iY (aX O hg2) (hB _ (by decide)) (u:=.type "str") (by decide +kernel) rfl (by decide) (by decide)
  ·exact iY (aX O hg2) (hB _ (by decide)) (u:=.type "tuple") (by decide +kernel) rfl (by decide) (by decide)
  ·exact iY (aX O hg2) (hB _ (by decide)) (u:=.type "list") (by decide +kernel) rfl (by decide) (by decide)
 refine PE.weak (fC (wC hb) (aX O hg) (hB _ (by decide)) (by decide +kernel) (eY ha (eY hc kP) (aj hst)) (by decide) (by decide) (aj hst) rfl) fun σ H Q q=>?_
 obtain ⟨m,s,h,z,h',R,S,ee,post⟩:=q
 simp only[BT.ev,BT.evs] at ee
 obtain ⟨ws,h1,e1,e2⟩:=ai ee
 obtain ⟨x,h2,e3,e4⟩:=ai e1
 simp only[BT.jW,BT.aQ,BT.gA] at e4
 cases e4
 refine ⟨m,s,h,x,h1,R,S,e3,fun v H1 m1 x1 R1 r1=>?_⟩
 exact ⟨v,rfl,m1,h1,[x],z,h',R1,.cons r1 .nil,e2,fun v5 H5 m5 x5 R5 r5=>post v5 H5 m5 (x1.trans x5) R5 r5⟩
theorem GO {X:Cx}{as:BT.Es} (σ:L2.St) (H:Hp) (Q:VK) (q:tD X F G (.tup as) σ H Q):Jk (tDs X F G as) σ H Q:=by
 refine kD (k:=fun ws h=>BT.F9 ws h) (fun s h=>by simp only[BT.ev]) q fun m h xs z h' vs H1 R r e post=>?_
 unfold BT.F9 at e
 cases g:BT.aR xs with
 | none=>rw[g] at e;cases e
 | some ds =>
  rw[g] at e
  simp only at e
  split at e
  ·rename_i c
   cases e
   have rd:=r.pure g
   have:=cL
   have hl:=rd.length
   exact ⟨by omega,fun p hp=>jg R hp rd post⟩
  ·cases e
theorem GP {X:Cx}{mu:Bool}{as:BT.Es} (σ:L2.St) (H:Hp) (Q:VK) (q:tD X F G (.lst mu as) σ H Q):Jl (tDs X F G as) σ H Q:=by
 refine kD (k:=fun ws h=>BT.Ga mu ws h) (fun s h=>by simp only[BT.ev]) q fun m h xs z h' vs H1 R r e post=>?_
 unfold BT.Ga at e
 cases g:BT.aR xs with
 | none=>rw[g] at e;cases e
 | some ds =>
  rw[g] at e
  simp only at e
  split at e
  ·rename_i c
   have rd:=r.pure g
   have:=cL
   have hl:=rd.length
   have ez:BT.new mu ds h=(z,h'):=Pn e
   exact ⟨by omega,fun p hp=>oA (mu:=mu) R hp rd (by rw[ez];exact post)⟩
  ·cases e
theorem cons_of {X:Cx}{a:BT.E}{as:BT.Es} (σ:L2.St) (H:Hp) (Q:List V->Hp->Prop) (q:tDs X F G (.cons a as) σ H Q):Ew (tD X F G a) (tDs X F G as) σ H Q:=by
 obtain ⟨m,s,h,zs,h',R,S,ee,post⟩:=q
 simp only[BT.evs] at ee
 obtain ⟨x,h1,e1,e2⟩:=ai ee
 simp only[BT.jW] at e2
 obtain ⟨xs,h2,e3,e4⟩:=ai e2
 simp only[BT.gA] at e4
 cases e4
 exact ⟨m,s,h,x,h1,R,S,e1,fun v H1 m1 x1 R1 r1=>⟨m1,s,h1,xs,h',R1,S.ext x1,e3,fun vs H2 m2 x2 R2 r2=>post _ H2 m2 (x1.trans x2) R2 (.cons (r1.ext x2) r2)⟩⟩
end
end BS
end
section
namespace BS
open PySem PySem.Spec PyProof.Rows L2
section
variable {K:O0}{m:List Addr}{H:Hp}
theorem RFs.get {f:Str}{x:BT.W}:∀ {vs:List (Str×V)}{fs:List (Str×BT.W)},RFs K m H vs fs->BT.aW f fs=some x->∃ v,vs.lookup f=some v/\RA K m H v x
 | _,_,.nil,e=>by cases e
 | _,_,.cons (f:=g) r t,e=>by
  rw[BT.nk] at e
  by_cases c:f=g
  ·rw[if_pos c] at e;cases e;subst c;exact ⟨_,by simp,r⟩
  ·rw[if_neg c] at e
   obtain ⟨v,h1,h2⟩:=RFs.get t e
   exact ⟨v,by rw[Qj];rw[beq_false_of_ne c];exact h1,h2⟩
theorem RFs.none {f:Str}:∀ {vs:List (Str×V)}{fs:List (Str×BT.W)},RFs K m H vs fs->(BT.aW f fs).isNone=true->vs.lookup f=none
 | _,_,.nil,_=>rfl
 | _,_,.cons (f:=g) r t,e=>by
  rw[BT.nk] at e
  by_cases c:f=g
  ·rw[if_pos c] at e;cases e
  ·rw[if_neg c] at e
   rw[Qj,beq_false_of_ne c]
   exact RFs.none t e
theorem RFs.put {f:Str}{v:V}{x:BT.W} (q:RA K m H v x):∀ {vs:List (Str×V)}{fs:List (Str×BT.W)},RFs K m H vs fs->RFs K m H (L2.bq f v vs) (BT.bq f x fs)
 | _,_,.nil=>.cons q .nil
 | _,_,.cons (f:=g) r t=>by
  rw[L2.bq,BT.v8]
  by_cases c:f=g
  ·rw[if_pos c,if_pos c.symm];subst c;exact .cons q t
  ·rw[if_neg c,if_neg (Qd c)];exact .cons r (RFs.put q t)
theorem RFs.length:∀ {vs:List (Str×V)}{fs:List (Str×BT.W)},RFs K m H vs fs->vs.length=fs.length
 | _,_,.nil=>rfl
 | _,_,.cons _ t=>by rw[Pk,Pk,RFs.length t]
end
section
variable {F:FT}{G:Str->Option BT.W}
theorem CH {f:Str}{x:BT.W}{h:BT.HH}{r:BT.W×BT.HH} (e:BT.Cb f x h=some r):∃ n c fs w,x=.o n/\BT.oat h n=some (c,fs)/\BT.aW f fs=some w/\r=(w,h):=by
 cases x with
 | o n =>
  rw[BT.Gc] at e
  cases g:BT.oat h n with
  | none=>rw[g] at e;cases e
  | some q =>
   obtain ⟨c,fs⟩:=q
   rw[g] at e
   obtain ⟨w,e1,e2⟩:=aA e
   exact ⟨n,c,fs,w,rfl,g,e1,e2.symm⟩
 | p d=>cases e
 | r n=>cases e
 | k q=>cases e
 | c _ _=>cases e
theorem CJ {X:Cx}{sc:Pu}{N:List Str}{a:BT.E}{f:Str}{x:O1}{p:Pos} (hb:aB x=true) (hf:attrName f=true) (ha:PE X x (tD X F G a)):PE X (.Attribute x f p) (tD X F G (.fld a f)):=by
 refine PE.weak (Fv ha (iw hb)) fun σ H Q q=>?_
 refine EJ (k:=BT.Cb f) (fun s h=>by simp only[BT.ev]) q fun m h x z h' v H1 R r e post=>?_
 obtain ⟨n,c,fs,w,rfl,e1,e2,e3⟩:=CH e
 cases e3
 cases r with
 | o hn =>
  obtain ⟨C,dx,vs,h1,h2,h3⟩:=R.nu _ _ _ _ hn e1
  obtain ⟨u,l,ra⟩:=h3.get e2
  exact ⟨_,C,dx,vs,u,rfl,h1,h2.cls,h2.no f hf,l,post u H1 m (.refl _ _) R ra.rw⟩
theorem jK {o:O1}{m:Str}{apos pos:Pos}{args:List O1}{env:Env} (hb:aB o=true) (hst:aq args=true) (hlen:args.length < 20) (hl:(apos.endLine==pos.line)=true) :
 eval (.Call (.Attribute o m apos) args [] pos) env=(do
  let ov ← eval o env
  standAt apos.atName
  let (f,first) ← holding [ov] (Ug ov m (do return (← importBound o env).getD true))
  callWith pos f first (Rg pos (PL args env)) (TL pos (RX [] env))):=by
 have hf:methodCallForm (args.length+([]:List T8).length) (Rg pos (PL args env)) (TL pos (RX [] env))=true:=by
  unfold methodCallForm
  have h30:decide (args.length+([]:List T8).length+(if (TL pos (RX [] env)).isEmpty then 0 else 1) < 30)=true:=decide_eq_true (by
   show args.length+0+0 < 30
   omega)
  rw[h30,gJ hst];rfl
 rw[arm_eval_Call,iw hb]
 unfold methodCall
 rw[hf]
 have hp:methodCallPos true o env apos pos=pure pos:=by
  unfold methodCallPos
  rw[hl];rfl
 rw[hp]
 rfl
theorem zD {m:Str}{ea:BT.HH->Option (List BT.W×BT.HH)}{x:BT.W}{h:BT.HH}{r:BT.W×BT.HH} (e:BT.yF F m ea x h=some r) :
 ∃ n c fs ws g,x=.o n/\BT.oat h n=some (c,fs)/\(BT.aW m fs).isNone=true/\ea h=some (ws,g)/\F (.m c m) (.o n :: ws) g=some r:=by
 cases x with
 | o n =>
  rw[BT.Cc] at e
  cases g:BT.oat h n with
  | none=>rw[g] at e;cases e
  | some q =>
   obtain ⟨c,fs⟩:=q
   rw[g] at e
   simp only at e
   split at e
   ·rename_i c1
    obtain ⟨ws,g2,e1,e2⟩:=ai e
    exact ⟨n,c,fs,ws,g2,rfl,g,c1,e1,e2⟩
   ·cases e
 | p d=>cases e
 | r n=>cases e
 | k q=>cases e
 | c _ _=>cases e
theorem zE {X:Cx}{sc:Pu}{N:List Str} (O:Ok X F G sc N) {o:BT.E}{m:Str}{as:BT.Es}{oe:O1}{apos cpos:Pos}{es:List O1} (hb:aB oe=true) (hl:(apos.endLine==cpos.line)=true) (hlen:es.length < 20) (ho:PE X oe (tD X F G o)) (hc:CEs sc N as es) (ha:PA X es (tDs X F G as)) :
 PE X (.Call (.Attribute oe m apos) es [] cpos) (tD X F G (.meth o m as)):=by
 have hst:=c7 hc
 intro pins s σ H Q I q
 obtain ⟨m0,s',h,z,h',R,S,ee,post⟩:=q
 simp only[BT.ev] at ee
 obtain ⟨x,h1,e1,e2⟩:=ai ee
 obtain ⟨n,c,fs,ws,g,rfl,e3,e4,e5,e6⟩:=zD e2
 obtain ⟨C,ga,fd,ps,k,hC,hM,hB,hR,ok⟩:=O.meth _ _ _ _ _ e6
 have key:xY C m (spF X.prog X.w X.K (F (.m c m))) [] E0 (tD X F G o) (tDs X F G as) σ H Q:=by
  refine ⟨m0,s',h,.o n,h1,R,S,e1,fun v H1 m1 x1 R1 r1=>?_⟩
  cases r1 with
  | @o a _ hn =>
   obtain ⟨C',dx,vs,q1,q2,q3⟩:=R1.nu _ _ _ _ hn e3
   cases q2.cn.inj hC.cn
   refine ⟨a,dx,vs,rfl,q1,q3.none e4,m1,s',h1,ws,g,R1,S.ext x1,e5,fun us H2 m2 x2 R2 r2=>?_⟩
   show spF X.prog X.w X.K (F (.m c m)) (V.ref a :: (us++[])) H2 Q E0
   rw[P4]
   exact ⟨m2,.o n :: ws,g,z,h',R2,.cons (.o (x2.ix hn)) r2,e6,fun v5 H5 m5 x5 R5 r5=>post v5 H5 m5 ((x1.trans x2).trans x5) R5 r5⟩
 cases es with
 | nil =>
  cases as with
  | cons a r=>cases hc
  | nil =>
   refine yb ho hC.cls hM ok hR hB .nil kU (jK hb hst hlen hl) pins s σ H Q I ?_
   obtain ⟨m,s,h,z,h',R,S,ee,post⟩:=key
   refine ⟨m,s,h,z,h',R,S,ee,fun v H1 m1 x1 R1 r1=>?_⟩
   obtain ⟨a,dx,fs,q1,q2,q3,q4⟩:=post v H1 m1 x1 R1 r1
   exact ⟨a,dx,fs,q1,q2,q3,f9 q4⟩
 | cons e es =>
  have hst':=hst
  simp only[aq,O5] at hst'
  exact By ho hC.cls hM ok hR hB .nil kU ha (aj hst'.1) (aE hst'.2) (jK hb hst hlen hl) pins s σ H Q I key
theorem zF {X:Cx}{sc:Pu}{N:List Str} (O:Ok X F G sc N) {c:Str}{as:BT.Es}{es:List O1}{p pos:Pos} (hg:aV sc c=true) (hn:cj c=true) (hc:CEs sc N as es) (ha:PA X es (tDs X F G as)) :
 PE X (.Call (.Name c p) es [] pos) (tD X F G (.make c as)):=by
 have hst:=c7 hc
 intro pins s σ H Q I q
 obtain ⟨m0,s',h,z,h',R,S,ee,post⟩:=q
 simp only[BT.ev] at ee
 obtain ⟨ws,h1,e1,e2⟩:=ai ee
 rw[BT.yG] at e2
 obtain ⟨y,h2,e3,e4⟩:=ai e2
 have e5:y=.p .non/\(z,h')=(.o h1.length,h2):=by
  cases y with
  | p d=>cases d<;>simp[BT.tW] at e4;exact ⟨rfl,by rw[e4.1,e4.2]⟩
  | r n=>cases e4
  | k q=>cases e4
  | c _ _=>cases e4
  | o n=>cases e4
 obtain ⟨rfl,e5⟩:=e5
 cases e5
 obtain ⟨C,ga,fd,ps,k,hC,hmg,hM,hB,hR,ok⟩:=O.mkc _ _ _ _ e3
 have key:xZ C (spF X.prog X.w X.K (F (.m c "__init__"))) [] E0 (tDs X F G as) σ H Q:=by
  refine ⟨m0,s',h,ws,h1,R,S,e1,fun us H1 m1 x1 R1 r1 x dx nx ndx ne=>?_⟩
  rw[P4]
  have xa:Ext m1 H1 m1 (upd H1 dx (.own x)):=fZ ndx
  have Ra:RH X.K m1 (upd H1 dx (.own x)) h1:=R1.new ndx
  have nx':upd H1 dx (.own x) x=none:=by rw[av (Qd ne)];exact nx
  have xb:Ext m1 (upd H1 dx (.own x)) (m1++[x]) (upd (upd H1 dx (.own x)) x (.ins C dx [])):=gF nx'
  have Rb:RH X.K (m1++[x]) (upd (upd H1 dx (.own x)) x (.ins C dx [])) (h1++[.o c []]):=Ra.Gu nx' ⟨C,dx,[],aD,hC,.nil⟩
  have ix:(m1++[x])[h1.length]?=some x:=by rw[← R1.len];simp
  refine ⟨m1++[x],.o h1.length :: ws,h1++[.o c []],.p .non,h',Rb,.cons (.o ix) (r1.ext (xa.trans xb)),e3,fun v H2 m2 x2 R2 r2=>?_⟩
  cases r2 with
  | p r2 =>
   cases r2
   exact ⟨rfl,post _ H2 m2 (((x1.trans xa).trans xb).trans x2) R2 (.o (x2.ix ix))⟩
 cases es with
 | nil =>
  cases as with
  | cons a r=>cases hc
  | nil =>
   refine yc hM ok hR (aX O hg) hmg hB .nil kU (dG hn).1 pins s σ H Q I ?_
   exact f9 key
 | cons e es =>
  simp only[aq,O5] at hst
  exact BA hM ok hR (aX O hg) hmg hB .nil kU ha (dG hn).1 (aj hst.1) (aE hst.2) pins s σ H Q I key
noncomputable def GQ (o:BT.Bin):TIp:=fun x y H Q=>∃ i j z,x=.int i/\y=.int j/\BT.kY o (.int i) (.int j)=some (.int z)/\Q (.int z) H
noncomputable def zG:BT.Bin->Sa->Bool
 | .add,.Add=>true
 | .sub,.Sub=>true
 | .mul,.Mult=>true
 | _,_=>false
theorem uv {X:Cx}{o:BT.Bin}{op:Sa} (h:zG o op=true):PIp X op (GQ o):=by
 rintro pins s σ H x y u v Q I rx ry ⟨i,j,z,rfl,rfl,e,q⟩
 obtain ⟨t,rfl⟩:=(show ∃ t,u=RO i t from rx)
 obtain ⟨t',rfl⟩:=(show ∃ t',v=RO j t' from ry)
 cases o<;>cases op<;>cases h
 ·cases e;exact PyProof.Rows.iadd_int ⟨.int (i+j),H,I.tok _,⟨_,rfl⟩,q⟩
 ·cases e;exact PyProof.Rows.isub_int ⟨.int (i - j),H,I.tok _,⟨_,rfl⟩,q⟩
 ·rw[BT.p7] at e
  split at e
  ·rename_i c
   cases e
   have hc:Bq i j:=by
    rcases Rf _ _ ▸ c with c | c
    ·exact .inl (oE c)
    ·exact .inr (oE c)
   exact PyProof.Rows.imul_int ⟨.int (i*j),H,I.tok _,⟨_,rfl⟩,q⟩ hc.ok
  ·cases e
theorem uw {o:BT.Bin}{d e z:BT.D} (h:BT.kY o d e=some z):∃ i j k,d=.int i/\e=.int j/\z=.int k:=by
 cases d with
 | int i =>
  cases e with
  | int j =>
   refine ⟨i,j,?_⟩
   cases o with
   | add=>exact ⟨_,rfl,rfl,(Pn h).symm⟩
   | sub=>exact ⟨_,rfl,rfl,(Pn h).symm⟩
   | mul =>
    rw[BT.p7] at h
    split at h
    ·exact ⟨_,rfl,rfl,(Pn h).symm⟩
    ·cases h
   | _=>exact ah h
  | _=>cases o<;>exact ah h
 | _=>cases o<;>exact ah h
end
end BS
end
section
namespace BS
open PySem PySem.Spec PyProof.Rows L2
section
variable {K:O0}{m:List Addr}{H:Hp}
end
theorem jL {vs:List V}{us:List O3} (r:au vs us):∀ l:List Nat,au (l.filterMap fun i=>vs[i]?) (l.filterMap fun i=>us[i]?)
 | []=>.nil
 | i :: l=>by
  rw[PF,PF]
  cases g:vs[i]? with
  | none =>
   have:us[i]?=none:=by
    have h:=r.length
    rw[UJ] at g ⊢
    omega
   rw[this]
   exact jL r l
  | some d =>
   obtain ⟨v,e,q⟩:=r.get g
   rw[e]
   exact .cons q (jL r l)
noncomputable def qp (k:Int) (xs:List V):List V:=(TJ (PN none none (some k) xs.length).1 (PN none none (some k) xs.length).2.1 (PN none none (some k) xs.length).2.2).filterMap fun i=>xs[i]?
section
variable {F:FT}{G:Str->Option BT.W}
theorem GR {X:Cx}{e se:O1}{te:TE}{k:Int}{p2 pos:Pos} (hk:k≠0) (he:PE X e te) (hs:PE X se (tC (.int k))) :
 PE X (.Subscript e (.Slice none none (some se) p2) pos) (fun σ H Q=>te σ H fun x H1=>∃ a xs,x=.ref a/\SqL X.K H1 a xs/\∀ p,H1 p=none->Q (.ref p) (upd H1 p (.lst (qp k xs)))):=by
 intro pins s σ H Q I h
 refine Subscript_ (thn (he pins s σ H _ I h) fun v s1 ⟨x,H1,I1,r1,a,xs,ex,hx,q⟩=>?_)
 subst ex
 cases r1
 refine wpAny_Slice ?_
 rw[VG]
 refine wpAny_pure (wpAny_pure ?_)
 rw[evalPart_some]
 refine thn (hs pins s1 σ H1 (fun v H'=>v=.int k/\H'=H1) I1 ⟨rfl,rfl⟩) fun vs s3 ⟨y,H3,I3,r3,hy,hh⟩=>?_
 subst hy hh
 obtain ⟨t,rfl⟩:=r3
 have I4:Inv X pins σ H3 { s3 with heap:=s3.heap.push { cls:=.type "slice",data:=.fields #[.none,.none,.int k t] } }:=I3.kept (t':=s3.toks) fun b ob q=>O2 _ q
 obtain ⟨its,rv,p,hz⟩:=I4.list hx
 have hg:wpAny (Pw X.prog X.w) X.A (Uw (.ref a) (.ref s3.heap.objs.size)) (EP X pins σ Q) X.xe { s3 with heap:=s3.heap.push { cls:=.type "slice",data:=.fields #[.none,.none,.int k t] } }:=by
  have hlen:=rv.length
  refine Vt p.isList (Ul ..) .none .none (.int k t) (by intro z;exact hk (Pn z)) ?_ (by rw[O6];omega)
  have hp:slicePick its.toArray none none (some k)=((TJ (PN none none (some k) xs.length).1 (PN none none (some k) xs.length).2.1 (PN none none (some k) xs.length).2.2).filterMap fun i=>its[i]?).toArray:=by
   unfold slicePick
   rw[O6,← hlen]
   simp
  rw[hp]
  have hq:=jL rv (TJ (PN none none (some k) xs.length).1 (PN none none (some k) xs.length).2.1 (PN none none (some k) xs.length).2.2)
  have hz':(qp k xs).length<=xs.length:=by
   have:=slicePick_size_le its.toArray none none (some k)
   rw[hp,O6,O6] at this
   have e:=hq.length
   unfold qp
   omega
  refine ⟨.ref (s3.heap.push { cls:=.type "slice",data:=.fields #[.none,.none,.int k t] }).objs.size,_,I4.laid (t':=s3.toks) (o:=.lst (qp k xs)) (fun b ob q=>O2 _ q) (O8 _) ?_,rfl,q _ (I4.hok.fresh (O8 _))⟩
  exact ⟨by omega,_,0,hq,Pc _ rfl⟩
 show wpAny (Pw X.prog X.w) X.A (VD e (.Slice none none (some se) p2) (.ref a) (.ref s3.heap.objs.size)) (EP X pins σ Q) X.xe { s3 with heap:=s3.heap.push { cls:=.type "slice",data:=.fields #[.none,.none,.int k t] } }
 exact tail_any (ops:=[.ref a,.ref s3.heap.objs.size]) p.isList.typeIs slot_list_getitem.lookup hg (by with_unfolding_all rfl)
theorem ux {e:O1}{k:Int} (h:(Cq e).bind cInt=some k):∃ a b,e=.Constant (.int k) a b:=by
 cases e with
 | Constant c a b =>
  cases c with
  | int j=>cases h;exact ⟨a,b,rfl⟩
  | _=>exact absurd (show (none:Option Int)=some _ from h) (fun z=>nomatch z)
 | _=>exact absurd (show (none:Option Int)=some _ from h) (fun z=>nomatch z)
theorem zH {k:Int}{e:O1} (h:om k e=true):(∃ a b,e=.Constant (.int k) a b/\0 < k)\/∃ j a b p,e=.UnaryOp .USub (.Constant (.int j) a b) p/\k=-j/\0 < j:=by
 unfold om at h
 rw[Rf,O5,O5,decide_eq_true_eq,decide_eq_true_eq] at h
 rcases h with ⟨h1,h2⟩ | ⟨h1,h2⟩
 ·obtain ⟨a,b,e1⟩:=ux (eq_of_beq h1)
  exact .inl ⟨a,b,e1,h2⟩
 ·have h1:=eq_of_beq h1
  cases e with
  | UnaryOp o e p =>
   by_cases c:o=.USub
   ·subst c
    have h3:(Cq e).bind cInt=some (-k):=h1
    obtain ⟨a,b,rfl⟩:=ux h3
    exact .inr ⟨-k,a,b,p,rfl,by omega,by omega⟩
   ·have:unE (.UnaryOp o e p)=none:=if_neg c
    rw[this] at h1
    cases h1
  | _=>exact absurd (show (none:Option Int)=some _ from h1) (fun z=>nomatch z)
theorem CK {X:Cx}{a:BT.E}{mu:Bool}{k:Int}{x se:O1}{p2 p:Pos} (hk:om k se=true) (ha:PE X x (tD X F G a)):PE X (.Subscript x (.Slice none none (some se) p2) p) (tD X F G (.stp mu k a)):=by
 have hs:k≠0/\PE X se (tC (.int k)):=by
  rcases zH hk with ⟨a,b,rfl,h⟩ | ⟨j,a,b,p,rfl,rfl,h⟩
  ·exact ⟨by omega,rj⟩
  ·exact ⟨by omega,PE.weak (Et xO rj) fun σ H Q q=>⟨_,rfl,q⟩⟩
 refine PE.weak (GR hs.1 ha hs.2) fun σ H Q q=>?_
 refine EJ (k:=BT.Gb mu k) (fun s h=>by simp only[BT.ev]) q fun m h x z h' v H1 R r e post=>?_
 unfold BT.Gb at e
 cases g:BT.rd x h with
 | none=>rw[g] at e;cases e
 | some d =>
  rw[g] at e
  cases d with
  | lst xs =>
   simp only at e
   have r1:=aF R r g
   obtain ⟨a,vs,rfl,hl,rr⟩:=r1.lst
   have ez:BT.new mu (BT.qc k xs) h=(z,h'):=Pn e
   refine ⟨a,vs,rfl,hl.sq,fun p hp=>oA (mu:=mu) R hp ?_ (by rw[ez];exact post)⟩
   unfold qp BT.qc
   rw[rr.length]
   exact RDs.pick rr _
  | _=>cases e
theorem zI {X:Cx}{b:BT.Bi}{g:Int->Int->Int} (hb:∀ ds d,BT.biD b ds=some d->∃ i j,ds=[.int i,.int j]/\d=.int (g i j)) {id:String} (hc:cC X (.builtin id) (fun xs H Q=>∃ i j,xs=[.int i,.int j]/\Q (.int (g i j)) H)):cC X (.builtin id) (rBi X.prog X.w X.K b false):=by
 intro pins s σ H vs us Q I rus h
 obtain ⟨m,h,ws,z,h',R,rws,e,post⟩:=h
 obtain ⟨ds,d,e1,e2,⟨_,rfl,rfl⟩ | ⟨_,q,_⟩⟩:=f7 e
 ·have rr:=fz R rws e1
  obtain ⟨i,j,rfl,rfl⟩:=hb _ _ e2
  cases rr with
  | cons r t =>
   cases t with
   | cons r' t' =>
    cases t'
    cases r.int
    cases r'.int
    exact hc pins s σ H _ us Q I rus ⟨i,j,rfl,post.here R (.int _)⟩
 ·cases q
theorem CM {X:Cx}{sc:Pu}{N:List Str} (O:Ok X F G sc N) {b:BT.Bi}{as:BT.Es}{x:Str}{e:O1}{es:List O1}{p pos:Pos} (hb:yT b x=true) (hg:aV sc x=true) (hst:aq (e :: es)=true) (ha:PA X (e :: es) (tDs X F G as)) :
 PE X (.Call (.Name x p) (e :: es) [] pos) (tD X F G (.bi b false as)):=by
 simp only[aq,O5] at hst
 have hB:=O.blt
 cases b<;>first | (cases hb;done) | (replace hb:=eq_of_beq hb)
 ·subst hb
  refine PE.weak (fC (zI (b:=.min2) (g:=fun i j=>if j < i then j else i) (fun ds d h=>?_) (vJ O.calm)) (aX O hg) (hB _ (by decide +kernel)) (by decide +kernel) ha (by decide) (by decide) (aj hst.1) (aE hst.2)) (fun σ H Q z=>iC z)
  match ds,h with
  | [.int i,.int j],h=>exact ⟨i,j,rfl,(Pn h).symm⟩
 ·subst hb
  refine PE.weak (fC (zI (b:=.max2) (g:=fun i j=>if j > i then j else i) (fun ds d h=>?_) (vI O.calm)) (aX O hg) (hB _ (by decide +kernel)) (by decide +kernel) ha (by decide) (by decide) (aj hst.1) (aE hst.2)) (fun σ H Q z=>iC z)
  match ds,h with
  | [.int i,.int j],h=>exact ⟨i,j,rfl,(Pn h).symm⟩
end
end BS
end
section
namespace BS
open PySem PySem.Spec PyProof.Rows L2
section
variable {P:Pi}{w:PK}{K:O0}{m:List Addr}{H H':Hp}
noncomputable def lA (H H':Hp):Prop:=(∀ a vs,Rd H a (.tup vs)->Rd H' a (.tup vs))/\∀ a vs,Rd H a (.lst vs)->Rd H' a (.lst vs)
mutual
theorem RD.tr (q:lA H H'):∀ {v:V}{d:BT.D},RD K m H v d->RD K m H' v d
 | _,_,.non=>.non
 | _,_,.bl b=>.bl b
 | _,_,.int i=>.int i
 | _,_,.str y h=>.str y h
 | _,_,.tup h r=>.tup (h.elim (fun z=>.inl ⟨q.1 _ _ z.1,z.2⟩) .inr) (RDs.tr q r)
 | _,_,.lst h r=>.lst (h.elim (fun z=>.inl ⟨q.2 _ _ z.1,z.2⟩) .inr) (RDs.tr q r)
theorem RDs.tr (q:lA H H'):∀ {vs:List V}{ds:List BT.D},RDs K m H vs ds->RDs K m H' vs ds
 | _,_,.nil=>.nil
 | _,_,.cons r t=>.cons (RD.tr q r) (RDs.tr q t)
end
theorem RA.tr (q:lA H H') {v:V}{x:BT.W} (r:RA K m H v x):RA K m H' v x:=by
 cases r with
 | p r=>exact .p (r.tr q)
 | r h=>exact .r h
 | o h=>exact .o h
theorem RFs.tr (q:lA H H') {vs:List (Str×V)}{fs:List (Str×BT.W)} (r:RFs K m H vs fs):RFs K m H' vs fs:=by
 induction r with
 | nil=>exact .nil
 | cons r t ih=>exact .cons (r.tr q) ih
theorem RCs.tr (q:lA H H') {vs:List V}{cs:List BT.Cp} (r:RCs K m H vs cs):RCs K m H' vs cs:=by
 induction r with
 | nil=>exact .nil
 | cons r t ih=>exact .cons (r.tr q) ih
theorem RWs.tr (q:lA H H') {vs:List V}{ws:List BT.W} (r:RWs P w K m H vs ws) (n:BT.noC ws=true):RWs P w K m H' vs ws:=by
 induction r with
 | nil=>exact .nil
 | cons r t ih =>
  cases r with
  | p r=>exact .cons (.p (r.tr q)) (ih n)
  | r h=>exact .cons (.r h) (ih n)
  | k h r=>exact .cons (.k h r) (ih n)
  | o h=>exact .cons (.o h) (ih n)
  | c _ _=>cases n
  | g _ _=>cases n
theorem RCs.ws {vs:List V}{cs:List BT.Cp} (r:RCs K m H vs cs):RWs P w K m H vs (cs.map BT.Cp.w):=by
 induction r with
 | nil=>exact .nil
 | cons r t ih=>exact .cons r.rw ih
theorem RWs.app {vs us:List V}{ws zs:List BT.W} (r:RWs P w K m H vs ws) (t:RWs P w K m H us zs):RWs P w K m H (vs++us) (ws++zs):=by
 induction r with
 | nil=>exact t
 | cons r _ ih=>exact .cons r ih
theorem RKs.tr (q:lA H H') {vs:List (Key×V)}{kvs:List (BT.Ky×BT.D)} (r:RKs K m H vs kvs):RKs K m H' vs kvs:=by
 induction r with
 | nil=>exact .nil
 | cons hk r t ih=>exact .cons (hk.tr q) (r.tr q) ih
theorem RH.tr {h:BT.HH} (R:RH K m H h) (q:lA H H') (k:∀ a∈m,H' a=H a) (tb:TB K H'):RH K m H' h:=by
 refine ⟨R.nd,R.len,fun i a c e1 e2=>?_,tb⟩
 have z:=R.cl i a c e1 e2
 have e:=k a (Ph e1)
 cases c with
 | l xs=>obtain ⟨vs,h1,h2⟩:=z;exact ⟨vs,e.trans h1,h2.tr q⟩
 | o c fs=>obtain ⟨C,dx,vs,h1,h2,h3⟩:=z;exact ⟨C,dx,vs,e.trans h1,h2,h3.tr q⟩
 | d kvs=>obtain ⟨vs,h1,h2⟩:=z;exact ⟨vs,e.trans h1,h2.tr q⟩
theorem Le.sq (q:Le H H'):lA H H':=⟨fun a vs r=>r.elim (fun z=>.inl (q _ _ z)) fun ⟨o,z⟩=>.inr ⟨o,q _ _ z⟩,fun a vs r=>r.elim (fun z=>.inl (q _ _ z)) fun ⟨o,z⟩=>.inr ⟨o,q _ _ z⟩⟩
theorem RH.le {h:BT.HH} (R:RH K m H h) (q:Le H H'):RH K m H' h:=R.tr q.sq (fun a ha=>by
 obtain ⟨o,e,_⟩:=R.mu ha
 rw[e];exact q _ _ e) (q.tb R.tb)
theorem gn.le (q:Le H H') {cl:List (Str×Addr)}{xs:List Str}{vs:List V} (r:gn m H cl xs vs):gn m H' cl xs vs:=by
 induction r with
 | nil=>exact .nil
 | cons h1 h2 h3 r t ih=>exact .cons h1 ⟨q _ _ h2.1,h2.2⟩ h3 r ih
theorem gD.le (q:Le H H') {f:Addr}{L:Nat}{vs:List V} (h:gD m H f L vs):gD m H' f L vs:=by
 obtain ⟨bt,ps,fs,pa,be,sc,cl,pm,ctv,c',oc,os,t,ql,h0,h1,h2,h3,h4,h5,h6,h7,h8,h9,h10⟩:=h
 exact ⟨bt,ps,fs,pa,be,sc,cl,pm,ctv,c',oc,os,t,ql,h0,h1,h2,h3,h4,h5,⟨q _ _ h6.1,h6.2⟩,⟨q _ _ h7.1,h7.2⟩,h8,h9,h10.le q⟩
theorem RW.le (q:Le H H') {v:V}{x:BT.W} (r:RW P w K m H v x):RW P w K m H' v x:=by
 cases r with
 | p r=>exact .p (r.tr q.sq)
 | r h=>exact .r h
 | k h r=>exact .k h r
 | o h=>exact .o h
 | c h r=>exact .c (h.le q) (r.tr q.sq)
 | g h r=>exact .g h r
end
noncomputable def cu (cl:List (Str×Addr)) (H:Hp):Prop:=∀ x c,cl.lookup x=some c->∃ o u,H c=some (.frz o (.own 0))/\o.data=.cell u
open Classical in
noncomputable def hid (cl:List (Str×Addr)) (H:Hp):Hp:=fun b=>if ∃ x,cl.lookup x=some b then none else H b
open Classical in
noncomputable def ret (cl:List (Str×Addr)) (H0 H:Hp):Hp:=fun b=>if ∃ x,cl.lookup x=some b then H0 b else H b
section
variable {cl:List (Str×Addr)}{H H':Hp}{b:Addr}{u:HO}
theorem su {x:Str} (e:cl.lookup x=some b):hid cl H b=none:=if_pos ⟨x,e⟩
theorem dB (e:¬ ∃ x,cl.lookup x=some b):hid cl H b=H b:=if_neg e
theorem dZ (e:H b=none):hid cl H b=none:=by
 unfold hid;split<;>first | rfl | exact e
theorem oN {x:Str} (e:cl.lookup x=some b):ret cl H H' b=H b:=if_pos ⟨x,e⟩
theorem fk (e:¬ ∃ x,cl.lookup x=some b):ret cl H H' b=H' b:=if_neg e
theorem GS (e:hid cl H b=some u):H b=some u/\¬ ∃ x,cl.lookup x=some b:=by
 unfold hid at e
 split at e
 ·cases e
 ·rename_i c;exact ⟨e,c⟩
noncomputable def kE:HO->Bool
 | .frz o (.own _)=>match o.data with | .cell _=>true | _=>false
 | _=>false
theorem cu.out (C:cu cl H) (e:H b=some u) (n:kE u=false):¬ ∃ x,cl.lookup x=some b:=fun ⟨x,q⟩=>by
 obtain ⟨o,v,h1,h2⟩:=C x b q
 rw[e] at h1;cases h1
 simp[kE,h2] at n
theorem cu.hid (C:cu cl H) (e:H b=some u) (n:kE u=false):BS.hid cl H b=some u:=by rw[dB (C.out e n)];exact e
theorem cu.sq (C:cu cl H):lA H (BS.hid cl H):=⟨fun a vs r=>r.elim (fun z=>.inl (C.hid z rfl)) fun ⟨o,z⟩=>.inr ⟨o,C.hid z rfl⟩,fun a vs r=>r.elim (fun z=>.inl (C.hid z rfl)) fun ⟨o,z⟩=>.inr ⟨o,C.hid z rfl⟩⟩
theorem cu.tb (C:cu cl H) {K:O0} (t:TB K H):TB K (BS.hid cl H):=t.mono (fun P ps e=>C.hid e rfl) fun a o vs d e=>C.hid e (by simp[kE,d])
theorem cu.rh (C:cu cl H) {K:O0}{m:List Addr}{h:BT.HH} (R:RH K m H h):RH K m (BS.hid cl H) h:=R.tr C.sq (fun a ha=>by
 obtain ⟨o,e,z⟩:=R.mu ha
 rw[e];exact C.hid e (by cases o<;>first | rfl | cases z)) (C.tb R.tb)
theorem GT (N:∀ x c,cl.lookup x=some c->H' c=none):Le H' (ret cl H H'):=fun a u e=>by
 rw[fk (fun ⟨x,q⟩=>by rw[N x a q] at e;cases e)];exact e
theorem cu.GU (C:cu cl H) (N:∀ x c,cl.lookup x=some c->H' c=none) {K:O0}{m m':List Addr}{h':BT.HH} (x:Ext m (BS.hid cl H) m' H') (R:RH K m' H' h'):Ext m H m' (ret cl H H'):=by
 obtain ⟨e,hm,he⟩:=x.pre
 refine ⟨⟨e,hm,fun a ha=>?_⟩,fun a o h n t=>?_,fun a h=>?_⟩
 ·have z:=he a ha
  have hne:¬ ∃ y,cl.lookup y=some a:=fun ⟨y,q⟩=>by
   obtain ⟨o,e1,_⟩:=R.mu (a:=a) (by rw[hm];exact PR _ ha)
   rw[N y a q] at e1;cases e1
  rw[dB hne] at z;exact z
 ·by_cases c:∃ y,cl.lookup y=some a
  ·obtain ⟨y,q⟩:=c;rw[oN q];exact h
  ·rw[fk c];exact x.keep a o (by rw[dB c];exact h) n t
 ·by_cases c:∃ y,cl.lookup y=some a
  ·obtain ⟨y,q⟩:=c;rw[oN q] at h;exact h
  ·rw[fk c] at h;have z:=x.live a h;rw[dB c] at z;exact z
end
theorem gn.get {m:List Addr}{H:Hp}{cl:List (Str×Addr)}{fs:List Str}{vs:List V} (r:gn m H cl fs vs):∀ {i:Nat}{x:Str},fs[i]?=some x->∃ c o u v,cl.lookup x=some c/\Tr m H c o/\o.data=.cell (some u)/\vs[i]?=some v/\RelV v u:=by
 induction r with
 | nil=>intro i x e;simp at e
 | cons h1 h2 h3 r t ih =>
  intro i x e
  cases i with
  | zero=>simp at e;subst e;exact ⟨_,_,_,_,h1,h2,h3,rfl,r⟩
  | succ i=>simpa using ih (by simpa using e)
theorem gn.len {m:List Addr}{H:Hp}{cl:List (Str×Addr)}{fs:List Str}{vs:List V} (r:gn m H cl fs vs):vs.length=fs.length:=by
 induction r with
 | nil=>rfl
 | cons h1 h2 h3 r t ih=>simp[ih]
theorem gn.cells {m:List Addr}{H:Hp}{cl:List (Str×Addr)}{fs:List Str}{vs:List V} (r:gn m H cl fs vs) (hf:∀ x c,cl.lookup x=some c->x∈fs):cu cl H:=fun x c e=>by
 obtain ⟨i,hi⟩:=Qz (hf x c e)
 obtain ⟨c',o,u,v,h1,h2,h3,_⟩:=r.get hi
 rw[e] at h1;cases h1
 exact ⟨o,_,h2.1,h3⟩
theorem CP {pa:Q8}{ps:List Str} (hp:LPa pa ps) {name q:Str}{be:O1}{sc:Pu}{cl:List (Str×Addr)}{pm cdv ctv:O3}{us:List O3} (hl:us.length=ps.length):UW (PySem.W.kla_fn name q pa be sc cl pm cdv ctv) ⟨us,[]⟩=pure (ps.zip us):=by
 cases hp with
 | one=>match us,hl with | [_],_=>rfl
 | two=>match us,hl with | [_,_],_=>rfl
theorem GV {pa:Q8}{ps:List Str} (hp:LPa pa ps) (nd:ps.Nodup) {us:List O3} (hl:us.length=ps.length) {i:Nat}{x:Str} (e:ps[i]?=some x):∃ u,us[i]?=some u/\(ps.zip us).reverse.lookup x=some u:=by
 cases hp with
 | one =>
  match us,hl,i,e with
  | [u],_,0,e=>simp at e;subst e;exact ⟨u,rfl,by simp⟩
  | [u],_,i+1,e=>simp at e
 | two =>
  match us,hl,i,e with
  | [u,v],_,0,e =>
   simp at e;subst e
   simp at nd
   exact ⟨u,rfl,by simp[Qj,beq_false_of_ne nd]⟩
  | [u,v],_,1,e=>simp at e;subst e;exact ⟨v,rfl,by simp⟩
  | [u,v],_,i+2,e=>simp at e
end BS
end
section
namespace BS
open PySem PySem.Spec PyProof.Rows L2
structure LF (ps fs:List Str) (sc:Pu):Prop where
 kd:sc.kind=.function
 co:sc.isCoroutine=false
 ge:sc.isGenerator=false
 cell:∀ y∈sc.names,y.2≠.cell
 loc:∀ x∈ps,sc.names.lookup x=some .local
 fre:∀ x∈fs,sc.names.lookup x=some .free/\(x,Qe)∈sc.names
 all:∀ y∈sc.names,y.2=.free->y.1∈fs
 nd:(ps++fs).Nodup
theorem lB:∀ {l:List Str},iQ l=true->l.Nodup
 | [],_=>Sq
 | x :: r,h=>by
  simp only[iQ,O5,RM] at h
  refine List.nodup_cons.mpr ⟨fun z=>?_,lB h.2⟩
  have:=h.1
  simp[z] at this
theorem Ke {ps fs:List Str}{sc:Pu} (h:nq ps fs sc=true):LF ps fs sc:=by
 simp only[nq,O5,RM] at h
 obtain ⟨⟨⟨⟨⟨⟨⟨h1,h2⟩,h3⟩,h4⟩,h5⟩,h6⟩,h7⟩,h8⟩:=h
 rw[Qx] at h4 h5 h6 h7
 refine ⟨eq_of_beq h1,h2,h3,fun y hy e=>?_,fun x hx=>eq_of_beq (h5 x hx),fun x hx=>?_,fun y hy e=>?_,lB h8⟩
 ·have:=h4 y hy;rw[e] at this;cases this
 ·have:=h6 x hx
  simp only[O5] at this
  exact ⟨eq_of_beq this.1,by simpa using this.2⟩
 ·have:=h7 y hy
  rw[e] at this
  simpa using this
noncomputable def zJ (P:Pi) (w:PK) (K:O0) (mg:Str->Option O3) (base:Heap) (N:List Str) (q:Str) (sc:Pu) (cl:List (Str×Addr)) (f c':Addr) (A:Qi) (outer:List Env) (s:O4) (H:Hp):Cx where
 prog:=P
 w:=w
 K:=K
 mg:=mg
 base:=base
 A:=A.deeper (Sh q sc s.heap.objs.size f (.ref c') cl)
 N:=N
 s₀:=s
 H₀:=hid cl H
 env:=Sh q sc s.heap.objs.size f (.ref c') cl
 outer:=outer
 stack:=Sh q sc s.heap.objs.size f (.ref c') cl :: outer
 ex:=[]
 calm:=true
 fn:=fun _=>false
 pn:=[]
 xe:=fun _ _=>False
theorem uy {P:Pi}{w:PK}{cl:List (Str×Addr)}{H:Hp}{h h1:Heap} (C:cu cl H) (ok:HOk P w H h) (k:∀ b o,h.get? b=some o->h1.get? b=some o):HOk P w (hid cl H) h1:=fun b u e=>by
 obtain ⟨e1,_⟩:=GS e
 exact (ok b u e1).stay (fun c o _ q=>k c o q) (fun c q=>C.hid q rfl) fun c xs q=>C.hid q rfl
theorem CQ {P:Pi}{w:PK}{K:O0}{mg:Str->Option O3}{base:Heap}{A:Qi}{outer:List Env}{s:O4}{H:Hp}{f c':Addr}{us:List O3}{vs cvs:List V}{m:List Addr}{ps fs:List Str}{pa:Q8}{sc:Pu}{cl:List (Str×Addr)}{q:Str}{h1:Heap}{tk:Nat}
 (hp:LPa pa ps) (F:LF ps fs sc) (inj:∀ x y c,cl.lookup x=some c->cl.lookup y=some c->x=y) (hfs:∀ x c,cl.lookup x=some c->x∈fs) (cp:gn m H cl fs cvs) (hd:A.handled=none) (e0:mq P w K mg base A outer s H) (r:au vs us) (hl:us.length=ps.length)
 (hns:h1.Ns s.heap.objs.size (fun y=>(ps.zip us).reverse.lookup y)) (hk1:∀ b o,s.heap.get? b=some o->h1.get? b=some o) :
 Inv (zJ P w K mg base (ps++fs) q sc cl f c' A outer s H) [] (vs.map some++cvs.map some) (hid cl H) { s with heap:=h1,toks:=tk }:=by
 have C:=cp.cells hfs
 have lv:vs.length=ps.length:=r.length.trans hl
 have lc:=cp.len
 have noA:∀ b:Addr,b∉(zJ P w K mg base (ps++fs) q sc cl f c' A outer s H).ex:=fun b z=>absurd (show b∈([]:List Addr) from z) (by simp)
 have cel:∀ x c,cl.lookup x=some c->∃ u,s.heap.IsCell c (some u):=fun x c e=>by
  obtain ⟨i,hi⟩:=Qz (hfs x c e)
  obtain ⟨c2,o,u,v,g1,g2,g3,_⟩:=cp.get hi
  rw[e] at g1;cases g1
  exact ⟨u,o,(e0.hok _ _ g2.1).1,g3⟩
 refine ⟨⟨e0.mod,F.kd,rfl,rfl,O8 _,inj,fun x hx=>?_,fun x c z=>absurd (show false=true from z) (by decide),fun _=>hd,Vg e0.frames,.inr ⟨rfl,rfl⟩,fun b z=>absurd z (noA b),fun b o e=>⟨(e0.bs b o e).1,dZ (e0.bs b o e).2⟩,e0.bsz,fun b _ _=>noA b,fun b z=>absurd z (noA b),e0.iI,fun b hb=>dZ (e0.frf b hb)⟩,
  rfl,e0.bare,Un.kept hk1,⟨_,hns,fun i x v g1 g2 g3=>?_⟩,fun x c e=>?_,dZ (e0.hok.fresh (O8 _)),fun x c e=>su e,fun p hp=>absurd (show p∈([]:List (Addr×Obj)) from hp) (by simp),uy C e0.hok hk1,?_⟩
 ·have hx:sc.names.lookup x=some .cell\/sc.names.lookup x=some .free:=hx
  rcases hx with hx | hx
  ·exact absurd rfl (F.cell _ (QE hx))
  ·obtain ⟨i,hi⟩:=Qz (F.all _ (QE hx) rfl)
   obtain ⟨c,_,_,_,g1,_⟩:=cp.get hi
   exact ⟨c,g1⟩
 ·have g1:(ps++fs)[i]?=some x:=g1
  by_cases c:i < ps.length
  ·rw[Pd c] at g1
   rw[Pd (by simpa [lv] using c),Px] at g2
   obtain ⟨u,g4,g5⟩:=GV hp (F.nd.sublist (List.sublist_append_left _ _)) hl g1
   obtain ⟨v',g6,g7⟩:=Option.map_eq_some_iff.mp g2
   cases g7
   obtain ⟨u',g8,rv⟩:=r.get g6
   rw[g4] at g8;cases g8
   exact ⟨u,rv,.inl ⟨F.loc x (Ph g1),g5⟩⟩
  ·rw[PM (by omega)] at g1
   rw[PM (by simp[lv];omega),Px] at g2
   simp only[Pa,lv] at g2
   obtain ⟨c2,o,u,v2,k1,k2,k3,k4,k5⟩:=cp.get g1
   rw[k4] at g2
   cases g2
   exact ⟨u,k5,.inr ⟨.inr (F.fre x (Ph g1)).1,c2,k1,o,hk1 _ _ (e0.hok _ _ k2.1).1,k3⟩⟩
 ·obtain ⟨u,o,z1,z2⟩:=cel x c e
  exact ⟨some u,o,hk1 _ _ z1,z2⟩
 ·show _=(ps++fs).length
  simp[lv,lc]
section
variable {F:FT}{G:Str->Option BT.W}
theorem wD {o:Option (Option BT.W)}{ws:List BT.W}{h:BT.HH}{r:BT.W×BT.HH} (e:BT.n8 F o ws h=some r):∃ k cs,o=some (some (.c k cs))/\BT.noC ws=true/\F k (ws++cs.map BT.Cp.w) h=some r:=by
 unfold BT.n8 at e
 split at e
 ·rename_i k cs
  split at e
  ·rename_i c;exact ⟨k,cs,rfl,c,e⟩
  ·cases e
 ·cases e
theorem gD.fnAt {P:Pi}{w:PK}{m:List Addr}{H:Hp}{f:Addr}{L:Nat}{vs:List V}{h:Heap} (l:gD m H f L vs) (ok:HOk P w H h):PySem.W.FnAt f h:=by
 obtain ⟨bt,ps,fs,pa,be,sc,cl,pm,ctv,c',oc,os,t,ql,h0,h1,h2,h3,h4,h5,h6,_⟩:=l
 exact ⟨_,_,_,_,(ok _ _ h6.1).1⟩
theorem Post.ext {P:Pi}{w:PK}{K:O0}{m m':List Addr}{H H':Hp}{z:BT.W}{h':BT.HH}{Q:VK} (p:Post P w K m H z h' Q) (x:Ext m H m' H'):Post P w K m' H' z h' Q:=fun v H2 m2 y R r=>p v H2 m2 (x.trans y) R r
theorem zK {X:Cx}{sc:Pu}{N:List Str} (O:Ok X F G sc N) {i:Nat}{x:Str}{as:BT.Es}{e:O1}{es:List O1}{np pos:Pos} (h1:N[i]?=some x) (h2:jY sc x=true) (h3:cj x=true) (hc:CEs sc N as (e :: es)) (ha:PA X (e :: es) (tDs X F G as)) :
 PE X (.Call (.Name x np) (e :: es) [] pos) (tD X F G (.callv i x as)):=by
 have hst:=c7 hc
 simp only[aq,O5] at hst
 intro pins s σ H Q I q
 obtain ⟨m,s',h,z,h',R,S,ee,post⟩:=q
 simp only[BT.ev] at ee
 obtain ⟨ws,g,e1,e2⟩:=ai ee
 obtain ⟨k,cs,k1,k2,k3⟩:=wD e2
 obtain ⟨v,hv,rv⟩:=S.get i _ k1
 obtain ⟨d1,d2,_⟩:=dG h3
 refine QU ?_
 refine thn (xA (i:=i) (by rw[O.hN];exact h1) (zw O h2) d1 d2 pins s σ H (fun v2 H2=>v2=v/\H2=H) I ⟨v,hv,rfl,rfl⟩) fun u s1 ⟨v2,H2,I2,r2,ev,eh⟩=>?_
 subst ev eh
 have hA:tDs X F G as σ H2 (fun vs2 H3=>∃ m3,Ext m H2 m3 H3/\RH X.K m3 H3 g/\RWs X.prog X.w X.K m3 H3 vs2 ws):=⟨m,s',h,ws,g,R,S,e1,fun vs2 H3 m3 x3 R3 r3=>⟨m3,x3,R3,r3⟩⟩
 cases rv with
 | @c f L cvs _ hL rc =>
  obtain rfl:u=.ref f:=r2
  refine PySem.W.callWith_F (hL.fnAt I2.hok) (thn (ha pos pins s1 σ H2 _ I2 hA) fun us s2 ⟨vs2,H3,I3,r3,m3,x3,R3,w3⟩=>⟨(hL.ext x3).fnAt I3.hok,?_⟩) (aj hst.1) (aE hst.2)
  obtain ⟨k,hr,lo⟩:=O.lam _ _ _ _ k3
  refine SM (codeAny_mono (lo X.A X.stack s2 H3 f us vs2 cvs m3 ws cs g z h' Q E0 hr I3.Fz r3 R3 w3 k2 (hL.ext x3) (rc.ext x3) k3 (post.ext x3)) fun r s' hq=>?_)
  cases r with
  | error e=>exact P5 hq
  | ok fl =>
   cases fl with
   | ret u=>exact I3.after hq
   | next=>exact P5 hq
   | brk=>exact P5 hq
   | cont=>exact P5 hq
 | @g f x' hn hk =>
  obtain rfl:u=.ref f:=r2
  have k3':F (.f x') ws g=some (z,h'):=by simpa using k3
  obtain ⟨fa,fd,ps,k,hm,_,hb,hr,ok⟩:=O.call _ _ _ _ k3'
  have hm':=Q7 I2.ok.mod.kin I2.ok.mod.glob hn
  rw[hm] at hm'
  cases hm'
  refine Rp (h₀:=X.base) I2.ok.mod.kin hk (thn (ha pos pins s1 σ H2 _ I2 hA) fun us s2 ⟨vs2,H3,I3,r3,m3,x3,R3,w3⟩=>⟨I3.kIn,?_⟩) (aj hst.1) (aE hst.2)
  refine kQ (E:=E0) ok hr hb .nil kU I3 r3 ?_
  rw[P4]
  exact ⟨m3,ws,g,z,h',R3,w3,k3',post.ext x3⟩
end
end BS
end
section
namespace BS
open PySem PySem.Spec PyProof.Rows L2
structure wF (K:O0) (J:It) (m0:List Addr) (H0:Hp) (ds:List BT.D):Prop where
 go:∀ m H (i:Nat),Ext m0 H0 m H->i < ds.length->J.go i H
 yld:∀ m H h (i:Nat) x H' d,Ext m0 H0 m H->RH K m H h->ds[i]?=some d->J.yld i H x H'->Ext m H m H'/\Le H H'/\RD K m H' x d
 stop:∀ m H,Ext m0 H0 m H->J.stop ds.length H
noncomputable def Itv (K:O0) (a:Addr) (n:Nat):It :=
 ⟨fun i H=>i < n/\∃ xs,SqL K H a xs/\xs.length=n,fun i H x H'=>H'=H/\∀ xs,SqL K H a xs->xs[n - 1 - i]?=some x,fun i H=>i=n⟩
theorem zL {P:Pi}{w:PK}{K:O0}{tg:O1} (a it:Addr) (n:Nat):Turn P w K tg (Itv K a n) [it] it (fun i h=>h.IsRevIter it a ((n:Int) - 1 - i)) where
 mem:=by simp
 obj:=fun i h st b hb=>by
  have e:b=it:=by simpa using hb
  subst e
  obtain ⟨o,e,c,d⟩:=st
  exact ⟨o,e,fun v z=>by rw[d] at z;cases z⟩
 keep:=fun i h h' st k=>st.at fun o e=>k it (by simp) o e
 item:=by
  intro X hP hw hK hc i pins s σ H E I hf st hg
  subst hP hw hK
  obtain ⟨hi,xs,hq,hx⟩:=hg
  obtain ⟨its,rv,p,hz⟩:=I.list hq
  have hl:=rv.length
  have hj:n - 1 - i < xs.length:=by omega
  obtain ⟨u,hu,ru⟩:=rv.get (O9 hj)
  obtain ⟨f0,f1,f2,f3,f4,f5⟩:=hf it (by simp)
  have ei:((n:Int) - 1 - (i:Int))=(((n - 1 - i:Nat)):Int):=by omega
  have st':s.heap.IsRevIter it a (((n - 1 - i:Nat)):Int):=by rw[← ei];exact st
  refine wpAny_pyNext_rev_item st' p.isList (x:=u) (by simpa using hu) fun h' st'' sb=>?_
  have I1:Inv X pins σ H { s with heap:=h' }:=I.turned (t':=s.toks) (fun b o hb e=>(sb.2 b hb).trans e) f0 f1 f3 f4 f5
  obtain ⟨o,e,c,d⟩:=id st''
  refine ⟨u,rfl,tw (s:={ s with heap:=h' }) e c d (by decide) ⟨_,H,I1,ru,⟨rfl,fun ys hy=>by rw[I.pK hy hq];exact O9 hj⟩,?_,fun b hb=>(hf b hb).1⟩⟩
  have e2:(((n - 1 - i:Nat)):Int) - 1=(n:Int) - 1 - ((i+1:Nat):Int):=by omega
  rw[e2] at st''
  exact st''
 done:=by
  intro X hP hw hK hc i pins s σ H E I hf st hg
  subst hP hw hK
  have hg:i=n:=hg
  subst hg
  obtain ⟨f0,f1,f2,f3,f4,f5⟩:=hf it (by simp)
  have e1:(i:Int) - 1 - (i:Int)=-1:=by omega
  have st':s.heap.IsRevIter it a (-1):=by rw[← e1];exact st
  exact wpAny_pyNext_rev_end (I.ok.hd hc) st' fun h' eb=>⟨rfl,I.turned (t':=s.toks) (fun b o hb e=>eb b o hb e) f0 f1 f3 f4 f5⟩
 self:=fun _ _ _ _ _ st h=>wpAny_pyIter_revIter st h
theorem Inv.CU {X:Cx}{pins:List (Addr×Obj)}{σ:L2.St}{H H':Hp}{s:O4}{h':Heap}{fp:List Addr}{tk:Nat} (I:Inv X pins σ H s) (hf:∀ b∈fp,mj X pins H b)
 (k:∀ b o,b∉fp->s.heap.get? b=some o->h'.get? b=some o) (hs:∀ b,b < s.heap.objs.size->H' b=H b) (hok:HOk X.prog X.w H' h'):Inv X pins σ H' { s with heap:=h',toks:=tk }:=by
 have hlt:∀ b u,H b=some u->H' b=some u:=fun b u e=>by rw[hs b (I.hok.lt e)];exact e
 refine I.step (g':=s.gens) (d':=s.drawn) (ch:=fp) (fun b hb=>?_) (fun b o _ _ hc e _=>k b o hc e) (fun b o _ _ hc e _=>⟨o.slots,k b o hc e⟩) (fun b o _ e n=>by rw[hs b (O7 e)];exact n)
  (fun b o hc e=>⟨o,k b o hc e⟩) (fun b xs e=>hlt b _ e) (fun b o u e=>hlt b _ e) (fun b ps e=>⟨#[],by rw[hlt b _ e];simp⟩) (fun m hm=>?_) hok I.bare
 ·obtain ⟨_,f1,_,f3,f4,f5⟩:=hf b hb
  exact ⟨f3,f1,f4,f5⟩
 ·obtain ⟨o,es,ep,ho,r⟩:=hm
  exact ⟨o,es,ep,k _ o (fun z=>(hf _ z).2.1 rfl) ho,r⟩
noncomputable def iD (X:Cx) (F:FT) (G:Str->Option BT.W) (sr:BT.Sr) (sa:BT.Es):TI:=fun σ H R =>
 ∃ m s h ws h' ds,RH X.K m H h/\RS X.prog X.w X.K m H σ s/\BT.evs F G sa s h=some (ws,h')/\(BT.rds ws h').bind (BT.fE sr)=some ds/\BT.gy ws=true ∧
  ∀ H' m' J,Ext m H m' H'->RH X.K m' H' h'->wF X.K J m' H' ds->R J H'
theorem PI.weak {X:Cx}{tg e:O1}{t t':TI} (h:PI X tg e t) (q:∀ σ H R,t' σ H R->t σ H R):PI X tg e t':=fun pins s σ H R I hw=>h pins s σ H R I (q _ _ _ hw)
section
variable {F:FT}{G:Str->Option BT.W}
theorem CV {K:O0}{m0:List Addr}{H0:Hp}{a:Addr}{vs:List V}{ds:List BT.D} (h:(Rd H0 a (.lst vs)/\a∉m0)\/KL K a vs) (r:RDs K m0 H0 vs ds):wF K (Itl K a) m0 H0 ds:=by
 have k:∀ {m H},Ext m0 H0 m H->SqL K H a vs:=fun x=>LL.sq (h.elim (fun q=>.inl (Rd.ext x q.1 q.2).1) .inr)
 refine ⟨fun m H i x hi=>?_,fun m H hh i v H' d x RR hd y=>?_,fun m H x=>⟨vs,k x,by rw[r.length];exact O8 _⟩⟩
 ·exact ⟨vs,_,k x,O9 (by rw[r.length];exact hi)⟩
 ·obtain ⟨rfl,y⟩:=y
  obtain ⟨u,h1,h2⟩:=(r.ext x).get hd
  have:=y vs (k x)
  rw[h1] at this
  cases this
  exact ⟨.refl _ _,fun _ _ e=>e,h2⟩
theorem GW {K:O0}{m0:List Addr}{H0:Hp}{a:Addr}{vs:List V}{ds:List BT.D} (h:(Rd H0 a (.tup vs)/\a∉m0)\/KT K a vs) (r:RDs K m0 H0 vs ds):wF K (Itt K a) m0 H0 ds:=by
 have k:∀ {m H},Ext m0 H0 m H->SqT K H a vs:=fun x=>h.elim (fun q=>.inl (Rd.ext x q.1 q.2).1) fun ⟨o,its,n,q,_⟩=>.inr ⟨o,its,n,q⟩
 refine ⟨fun m H i x hi=>?_,fun m H hh i v H' d x RR hd y=>?_,fun m H x=>⟨vs,k x,by rw[r.length];exact O8 _⟩⟩
 ·exact ⟨vs,_,k x,O9 (by rw[r.length];exact hi)⟩
 ·obtain ⟨rfl,y⟩:=y
  obtain ⟨u,h1,h2⟩:=(r.ext x).get hd
  have:=y vs (k x)
  rw[h1] at this
  cases this
  exact ⟨.refl _ _,fun _ _ e=>e,h2⟩
theorem GX {K:O0}{m0:List Addr}{H0:Hp}{a:Addr}{vs:List V}{ds:List BT.D} (h:(Rd H0 a (.lst vs)/\a∉m0)\/KL K a vs) (r:RDs K m0 H0 vs ds):wF K (Itv K a ds.length) m0 H0 ds.reverse:=by
 have k:∀ {m H},Ext m0 H0 m H->SqL K H a vs:=fun x=>LL.sq (h.elim (fun q=>.inl (Rd.ext x q.1 q.2).1) .inr)
 refine ⟨fun m H i x hi=>?_,fun m H hh i v H' d x RR hd y=>?_,fun m H x=>by show ds.reverse.length=ds.length;simp⟩
 ·exact ⟨by simpa using hi,vs,k x,r.length⟩
 ·obtain ⟨rfl,y⟩:=y
  have hi:i < ds.length:=by
   have:=getD_some hd
   simpa using this
  have hd':ds[ds.length - 1 - i]?=some d:=by
   rw[List.getElem?_reverse hi] at hd
   exact hd
  obtain ⟨u,h1,h2⟩:=(r.ext x).get hd'
  have:=y vs (k x)
  rw[h1] at this
  cases this
  exact ⟨.refl _ _,fun _ _ e=>e,h2⟩
theorem zM {K:O0}{m0:List Addr}{H0:Hp} (lo:Int) (n:Nat):wF K (Itr lo n) m0 H0 (BT.upto lo n):=by
 have hl:(BT.upto lo n).length=n:=by simp[BT.upto]
 refine ⟨fun m H i x hi=>by rw[hl] at hi;exact hi,fun m H hh i v H' d x RR hd y=>?_,fun m H x=>by rw[hl];exact O8 n⟩
 obtain ⟨rfl,rfl⟩:=y
 have:d=.int (lo+i):=by
  have hi:i < n:=by
   have:=getD_some hd
   rw[hl] at this
   exact this
  simp only[BT.upto,Px] at hd
  rw[Si hi] at hd
  simpa using hd.symm
 subst this
 exact ⟨.refl _ _,fun _ _ e=>e,.int _⟩
theorem uz:∀ {ws:List BT.W},BT.gy ws=true->∃ ds:List BT.D,ws=ds.map BT.W.p:=by
 intro ws
 induction ws with
 | nil=>exact fun _=>⟨[],rfl⟩
 | cons w ws ih =>
  intro h
  cases w with
  | p d =>
   obtain ⟨ds,rfl⟩:=ih h
   exact ⟨d :: ds,rfl⟩
  | _=>cases h
theorem zN (h:BT.HH) (ds:List BT.D):BT.rds (ds.map BT.W.p) h=some ds:=by
 induction ds with
 | nil=>rfl
 | cons d ds ih =>
  show (BT.rds (ds.map BT.W.p) h).map (d :: ·)=_
  rw[ih];rfl
theorem zO {ws:List BT.W}{h:BT.HH}{sr:BT.Sr}{ds:List BT.D} (hs:sr=.seq\/sr=.rev\/sr=.rng1) (e:(BT.rds ws h).bind (BT.fE sr)=some ds) (ha:BT.gy ws=true):∃ d,ws=[.p d]/\BT.fE sr [d]=some ds:=by
 obtain ⟨xs,rfl⟩:=uz ha
 rw[zN,QJ] at e
 cases xs with
 | nil=>rcases hs with rfl | rfl | rfl<;>cases e
 | cons d xs =>
  cases xs with
  | nil=>exact ⟨d,rfl,e⟩
  | cons d2 xs=>rcases hs with rfl | rfl | rfl<;>cases d<;>cases e
theorem uA {a:BT.E}{s:BT.Sl}{h h':BT.HH}{ws:List BT.W} (e:BT.evs F G (.cons a .nil) s h=some (ws,h')):∃ w,ws=[w]/\BT.ev F G a s h=some (w,h'):=by
 simp only[BT.evs] at e
 obtain ⟨w,g,e1,e2⟩:=ai e
 simp only[BT.jW,BT.aQ,BT.gA] at e2
 cases e2
 exact ⟨w,rfl,e1⟩
theorem uB {X:Cx}{tg x:O1}{a:BT.E} (he:PE X x (tD X F G a)):PI X tg x (iD X F G .seq (.cons a .nil)):=by
 intro pins s σ H R I q
 obtain ⟨m,s',h,ws,h',ds,RR,S,e,e2,ha,post⟩:=q
 obtain ⟨d,rfl,e3⟩:=zO (.inl rfl) e2 ha
 obtain ⟨w,ew,e4⟩:=uA e
 cases ew
 rw[BT.yD] at e3
 cases d<;>simp only[BT.nW] at e3<;>try contradiction
 ·cases e3
  refine Ff he pins s σ H R I ⟨m,s',h,_,h',RR,S,e4,fun v H1 m1 x1 R1 r1=>?_⟩
  cases r1 with
  | p r1 =>
   cases r1 with
   | @tup a vs _ h r=>exact ⟨a,rfl,⟨vs,h.elim (fun q=>.inl q.1) fun ⟨o,its,n,q,_⟩=>.inr ⟨o,its,n,q⟩⟩,post H1 m1 _ x1 R1 (GW h r)⟩
 ·cases e3
  refine Bo he pins s σ H R I ⟨m,s',h,_,h',RR,S,e4,fun v H1 m1 x1 R1 r1=>?_⟩
  cases r1 with
  | p r1 =>
   cases r1 with
   | @lst a vs _ h r=>exact ⟨a,rfl,⟨vs,LL.sq (h.elim (fun q=>.inl q.1) .inr)⟩,post H1 m1 _ x1 R1 (CV h r)⟩
theorem qt {X:Cx}{sc:Pu}{N:List Str} (O:Ok X F G sc N) {tg e:O1}{sa:BT.Es}{p pos:Pos} (hg:aV sc "range"=true) (hs:noStar e=true) (ha:PA X [e] (tDs X F G sa)):PI X tg (.Call (.Name "range" p) [e] [] pos) (iD X F G .rng1 sa):=by
 refine PI.weak (vF (aX O hg) (O.blt _ (by decide)) ha (aj hs)) fun σ H R q=>?_
 obtain ⟨m,s',h,ws,h',ds,RR,S,e,e2,ha,post⟩:=q
 obtain ⟨d,rfl,e3⟩:=zO (.inr (.inr rfl)) e2 ha
 refine ⟨m,s',h,_,h',RR,S,e,fun vs H1 m1 x1 R1 r1=>?_⟩
 obtain ⟨j,rfl⟩:∃ j:Int,d=.int j:=by
  cases d with
  | int j=>exact ⟨j,rfl⟩
  | _=>exact absurd (show (none:Option (List BT.D))=some _ from e3) (fun z=>nomatch z)
 rw[BT.jG] at e3
 split at e3
 ·rename_i c
  simp only[O5,decide_eq_true_eq] at c
  cases e3
  cases r1 with
  | cons r t =>
   cases t
   cases r with
   | p r =>
    cases r
    exact ⟨j,rfl,by omega,by omega,post H1 m1 _ x1 R1 (zM 0 j.toNat)⟩
 ·cases e3
theorem Kf {ws:List BT.W}{h:BT.HH}{ds:List BT.D} (e:(BT.rds ws h).bind (BT.fE .rng2)=some ds) (ha:BT.gy ws=true):∃ i j:Int,ws=[.p (.int i),.p (.int j)]/\(-100000<=i/\i<=100000/\-100000<=j/\j<=100000)/\ds=BT.upto i (j - i).toNat:=by
 obtain ⟨xs,rfl⟩:=uz ha
 rw[zN,QJ] at e
 have hx:∃ i j:Int,xs=[.int i,.int j]:=by
  match xs,e with
  | [.int i,.int j],_=>exact ⟨i,j,rfl⟩
 obtain ⟨i,j,rfl⟩:=hx
 rw[BT.fL] at e
 split at e
 ·rename_i c
  simp only[O5,decide_eq_true_eq] at c
  cases e
  exact ⟨i,j,rfl,⟨c.1.1.1,c.1.1.2,c.1.2,c.2⟩,rfl⟩
 ·cases e
theorem qu {X:Cx}{sc:Pu}{N:List Str} (O:Ok X F G sc N) {tg x y:O1}{sa:BT.Es}{p pos:Pos} (hg:aV sc "range"=true) (hs:noStar x=true) (hs2:noStar y=true) (ha:PA X [x,y] (tDs X F G sa)):PI X tg (.Call (.Name "range" p) [x,y] [] pos) (iD X F G .rng2 sa):=by
 refine PI.weak (vG (aX O hg) (O.blt _ (by decide)) ha (by rw[aj hs,aj hs2];rfl) (by rw[aj hs2];rfl)) fun σ H R q=>?_
 obtain ⟨m,s',h,ws,h',ds,RR,S,e,e2,ha,post⟩:=q
 obtain ⟨i,j,rfl,c,rfl⟩:=Kf e2 ha
 refine ⟨m,s',h,_,h',RR,S,e,fun vs H1 m1 x1 R1 r1=>?_⟩
 cases r1 with
 | cons r t =>
  cases t with
  | cons r2 t2 =>
   cases t2
   cases r with
   | p r =>
    cases r
    cases r2 with
    | p r2 =>
     cases r2
     exact ⟨i,j,rfl,⟨by omega,by omega,by omega,by omega⟩,post H1 m1 _ x1 R1 (zM i (j - i).toNat)⟩
theorem uC {X:Cx}{sc:Pu}{N:List Str} (O:Ok X F G sc N) {tg e:O1}{a:BT.E}{p pos:Pos} (hg:aV sc "reversed"=true) (hs:noStar e=true) (he:PE X e (tD X F G a)):PI X tg (.Call (.Name "reversed" p) [e] [] pos) (iD X F G .rev (.cons a .nil)):=by
 intro pins s σ H R I q
 obtain ⟨m,s',h,ws,h',ds,RR,S,e,e2,ha,post⟩:=q
 obtain ⟨d,rfl,e3⟩:=zO (.inr (.inl rfl)) e2 ha
 obtain ⟨w,ew,e4⟩:=uA e
 cases ew
 obtain ⟨xs,rfl⟩:∃ xs:List BT.D,d=.lst xs:=by
  cases d with
  | lst xs=>exact ⟨xs,rfl⟩
  | _=>exact absurd (show (none:Option (List BT.D))=some _ from e3) (fun z=>nomatch z)
 ·cases e3
  refine Call_ (fU (u:=.type "reversed") I (aX O hg) (O.blt _ (by decide)) (by decide +kernel) (Qw (thn (eY he kP (aj hs) pos pins s σ H (fun vs H1=>∃ a vt,vs=[.ref a]/\∃ m1,Ext m H m1 H1/\RH X.K m1 H1 h'/\((Rd H1 a (.lst vt)/\a∉m1)\/KL X.K a vt)/\RDs X.K m1 H1 vt xs) I ?_) fun us s1 ⟨vs,H1,I1,r1,q1⟩=>?_) (aj hs) rfl))
  ·refine ⟨m,s',h,_,h',RR,S,e4,fun v H1 m1 x1 R1 r1=>?_⟩
   cases r1 with
   | p r1 =>
    cases r1 with
    | @lst a vt _ hh r=>exact ⟨a,vt,rfl,m1,x1,R1,hh,r⟩
  ·obtain ⟨a,vt,rfl,m1,x1,R1,hh,r⟩:=q1
   obtain ⟨u,rfl,ru⟩:=vals1 r1
   cases ru
   obtain ⟨z,its,nn,rv,hl,ee⟩:=rdL I1 (hh.elim (fun q=>.inl q.1) .inr)
   have hL:s1.heap.IsList a its.toArray:=⟨_,ee,rfl,_,rfl⟩
   have hlen:=r.length
   refine call_reversed_list hL ?_
   have stt:({ s1 with heap:=s1.heap.push (revObj a ((its.toArray.size:Int) - 1)) }:O4).heap.IsRevIter s1.heap.objs.size a ((xs.length:Int) - 1 - ((0:Nat):Int)):=by
    refine ⟨_,Pc _ rfl,rfl,?_⟩
    show Data.fields #[.ref a,Q6 ((its.toArray.size:Int) - 1)]=_
    rw[O6,← hl,hlen]
    simp
   refine wpAny_pyIter_revIter stt ?_
   refine ⟨s1.heap.objs.size,[s1.heap.objs.size],_,_,H1,rfl,I1.kept (t':=s1.toks) fun b o e=>O2 _ e,zL a _ xs.length,stt,fun b hb=>?_,post H1 m1 _ x1 R1 (GX hh r)⟩
   have e:b=s1.heap.objs.size:=by simpa using hb
   subst e
   exact I1.Bm (O8 _) (I1.hok.fresh (O8 _))
end
end BS
end
section
namespace BS
open PySem PySem.Spec PyProof.Rows L2
section
variable {P:Pi}{w:PK}{K:O0}{m m':List Addr}{H H':Hp}
theorem RKs.length {vs:List (Key×V)}{kvs:List (BT.Ky×BT.D)} (r:RKs K m H vs kvs):vs.length=kvs.length:=by
 induction r with
 | nil=>rfl
 | cons _ _ _ ih=>simp[ih]
theorem wG {p:BT.Ky×BT.D}{r:List (BT.Ky×BT.D)}{k:BT.Ky} (e:p.1=k):BT.eZ (p :: r) k=some p.2:=by simp[BT.eZ,RC,e]
theorem wH {p:BT.Ky×BT.D}{r:List (BT.Ky×BT.D)}{k:BT.Ky} (e:¬ p.1=k):BT.eZ (p :: r) k=BT.eZ r k:=by simp[BT.eZ,RC,e]
theorem RKs.get {vs:List (Key×V)}{kvs:List (BT.Ky×BT.D)} (r:RKs K m H vs kvs) (k:Key):(BT.eZ kvs k=none/\nQ vs k=none)\/∃ v d,BT.eZ kvs k=some d/\nQ vs k=some v/\RD K m H v d:=by
 induction r with
 | nil=>exact .inl ⟨rfl,rfl⟩
 | @cons j v d vs kvs hk r t ih =>
  by_cases c:j=k
  ·exact .inr ⟨v,d,wG c,pT c,r⟩
  ·rw[wH (p:=(j,d)) c,pU (p:=(j,v)) c];exact ih
theorem RKs.any {vs:List (Key×V)}{kvs:List (BT.Ky×BT.D)} (r:RKs K m H vs kvs) (k:Key):(vs.any fun kv=>decide (kv.1=k))=kvs.any fun kv=>decide (kv.1=k):=by
 induction r with
 | nil=>rfl
 | cons _ _ _ ih=>rw[Sb,Sb,ih]
theorem RKs.snoc {vs:List (Key×V)}{kvs:List (BT.Ky×BT.D)} (r:RKs K m H vs kvs) (k:Key) {v:V}{d:BT.D} (hk:RD K m H (kV k) (BT.rR k)) (q:RD K m H v d):RKs K m H (vs++[(k,v)]) (kvs++[(k,d)]):=by
 induction r with
 | nil=>exact .cons hk q .nil
 | cons h r _ ih=>exact .cons h r ih
theorem RKs.repl {vs:List (Key×V)}{kvs:List (BT.Ky×BT.D)} (r:RKs K m H vs kvs) (k:Key) {v:V}{d:BT.D} (q:RD K m H v d):RKs K m H (vs.map fun kv=>if kv.1=k then (kv.1,v) else kv) (kvs.map fun kv=>if kv.1=k then (kv.1,d) else kv):=by
 induction r with
 | nil=>exact .nil
 | @cons j v1 d1 vs kvs hk r t ih =>
  rw[Pe,Pe]
  by_cases c:j=k
  ·rw[if_pos c,if_pos c];exact .cons hk q ih
  ·rw[if_neg c,if_neg c];exact .cons hk r ih
theorem RKs.put {vs:List (Key×V)}{kvs:List (BT.Ky×BT.D)} (r:RKs K m H vs kvs) (k:Key) {v:V}{d:BT.D} (hk:RD K m H (kV k) (BT.rR k)) (q:RD K m H v d):RKs K m H (putK vs k v) (BT.jV kvs k d):=by
 unfold putK BT.jV
 rw[r.any k]
 split
 ·exact r.repl k q
 ·exact r.snoc k hk q
theorem zP {v:V}{d:BT.D}{k:Key} (r:RD K m H v d) (e:BT.mD d=some k):v=kV k:=by
 cases r<;>cases e<;>rfl
theorem GY {v:V}{d:BT.D}{k:Key} (r:RD K m H v d) (e:BT.mD d=some k):RD K m H (kV k) (BT.rR k):=by
 cases r with
 | int i=>cases e;exact .int i
 | str x h=>cases e;exact .str x h
 | _=>cases e
end
section
variable {X:Cx}{F:FT}{G:Str->Option BT.W}
theorem CW {p:Pos}:PE X (.Dict [] [] p) (tD X F G .dnew):=by
 intro pins s σ H Q I q
 obtain ⟨m,sl,h,z,h',R,S,ee,post⟩:=q
 simp only[BT.ev] at ee
 cases ee
 have hp:H s.heap.objs.size=none:=I.hok.fresh (O8 _)
 refine wpAny_Dict_empty ⟨.ref s.heap.objs.size,_,I.laid (a:=s.heap.objs.size) (o:=.dK []) (t':=s.toks) (fun _ _ q=>O2 _ q) (O8 _) (yh s.heap I.big),rfl,?_⟩
 refine post _ _ (m++[s.heap.objs.size]) (gF hp) (R.Gu hp ⟨[],aD,.nil⟩) (.r ?_)
 rw[← R.len];simp
noncomputable def rDg (P:Pi) (w:PK) (K:O0):V->List V->Hp->VK->Prop:=fun v vs H Q =>
 ∃ m h n y x z h' v1 v2,RH K m H h/\RW P w K m H v (.r n)/\vs=[v1,v2]/\RW P w K m H v1 y/\RW P w K m H v2 x/\BT.Cd n y x h=some (z,h')/\Post P w K m H z h' Q
theorem GZ:MtR X "dict.get" (rDg X.prog X.w X.K):=by
 intro pins s σ H v vs v' us Q I rv rus q
 obtain ⟨m,h,n,y,x,z,h',v1,v2,R,rn,rfl,ry,rx,e,post⟩:=q
 cases rn with
 | @r a _ hn =>
  obtain ⟨u1,u2,rfl,r1,r2⟩:=rus.two
  cases y with
  | r _=>cases e
  | k _=>cases e
  | o _=>cases e
  | c _ _=>cases e
  | p kd =>
   cases x with
   | r _=>cases e
   | k _=>cases e
   | o _=>cases e
   | c _ _=>cases e
   | p dd =>
    rw[BT.Ge] at e
    obtain ⟨kvs,e1,e2⟩:=Option.bind_eq_some_iff.mp e
    obtain ⟨k,e3,e4⟩:=aA e2
    cases e4
    obtain ⟨ws,hH,rk⟩:=R.tZ n a kvs hn e1
    cases ry with
    | p ry =>
     cases rx with
     | p rx =>
      have ek:=zP ry e3
      subst ek
      cases rv
      obtain ⟨zl,hd,vs,rel,dd'⟩:=tK I.hok hH
      refine call_meetsIn UR dd'.typeIs PySem.F.entry_dict_get (PySem.F.args_dict_get_3 _ _ _) (meets_dict_get_default (aG X.prog X.w) a (Ey r1) hd u2) ⟨_,dd'.mapOf,?_⟩
      refine ⟨(nQ ws k).getD v2,H,I.tok _,(rel.val k).getD r2,?_⟩
      rcases rk.get k with ⟨g1,g2⟩ | ⟨v3,d3,g1,g2,g3⟩
      ·rw[g2];rw[g1] at post;exact post.here R rx
      ·rw[g2];rw[g1] at post;exact post.here R g3
theorem G0 {o k d:BT.E}{oe ke de:O1}{apos cpos:Pos} (hb:aB oe=true) (hl:(apos.endLine==cpos.line)=true) (hs1:noStar ke=true) (hs2:noStar de=true) (ho:PE X oe (tD X F G o)) (hk:PE X ke (tD X F G k)) (hd:PE X de (tD X F G d)) :
 PE X (.Call (.Attribute oe "get" apos) [ke,de] [] cpos) (tD X F G (.dgt o k d)):=by
 have ha:PA X [ke,de] (tDs X F G (.cons k (.cons d .nil))):=by
  have h1:PA X [de] (tDs X F G (.cons d .nil)):=PA.weak (eY hd kP (aj hs2)) fun σ H Q q=>by
   obtain ⟨m,s,h,z0,h',R,S,ee,post⟩:=cons_of σ H Q q
   exact ⟨m,s,h,z0,h',R,S,ee,fun v H1 m1 x1 R1 r1=>f9 (post v H1 m1 x1 R1 r1)⟩
  exact PA.weak (eY hk h1 (aj hs1)) cons_of
 refine PE.weak (yf UC UR PySem.F.type_dict_get GZ ho ha (iw hb) ?_ hl (aj hs1) (aE (by simp[aq,hs2]))) fun σ H Q q=>?_
 ·rw[gJ (es:=[ke,de]) (by simp only[aq,O5];exact ⟨hs1,hs2,trivial⟩)];rfl
 ·obtain ⟨m,s,h,z,h',R,S,ee,post⟩:=q
  simp only[BT.ev] at ee
  obtain ⟨x,h1,e1,e2⟩:=ai ee
  cases x with
  | p _=>cases e2
  | k _=>cases e2
  | o _=>cases e2
  | c _ _=>cases e2
  | r n =>
   rw[BT.Gg] at e2
   split at e2
   case isFalse=>cases e2
   rename_i c
   obtain ⟨y,h2,e3,e4⟩:=ai e2
   rw[BT.Ce] at e4
   obtain ⟨x2,h3,e5,e6⟩:=ai e4
   refine ⟨m,s,h,.r n,h1,R,S,e1,fun v H1 m1 x1 R1 r1=>⟨?_,m1,s,h1,[y,x2],h3,R1,S.ext x1,by simp only[BT.evs,e3,e5,BT.aQ,BT.jW,BT.gA],fun vs H2 m2 xx2 R2 r2=>?_⟩⟩
   ·obtain ⟨kvs,g⟩:=Option.isSome_iff_exists.mp c
    cases r1 with
    | @r a _ hn =>
     obtain ⟨ws,hH,_⟩:=R1.tZ n a kvs hn g
     exact .inr (.inr (.inl ⟨rfl,.inl ⟨_,hH⟩⟩))
   ·cases r2 with
    | cons q1 t =>
     cases t with
     | cons q2 t =>
      cases t
      exact ⟨m2,h3,n,y,x2,z,h',_,_,R2,r1.ext xx2,rfl,q1,q2,e6,fun v5 H5 m5 x5 R5 r5=>post v5 H5 m5 ((x1.trans xx2).trans x5) R5 r5⟩
noncomputable def EK:V->V->V->Hp->(Hp->Prop)->Prop:=fun o i v H Q=>∃ p kvs k,o=.ref p/\i=kV k/\H p=some (.dK kvs)/\kvs.length < sizeLine/\Q (upd H p (.dK (putK kvs k v)))
theorem set_dict:E9 X EK:=by
 intro pins s σ H o i v ov iv u Q I ro ri rv q
 obtain ⟨a,kvs,k,rfl,rfl,e,l,q⟩:=q
 cases ro
 obtain ⟨z,hd,vs,rel,dd⟩:=tK I.hok e
 have hz:vs.length<=sizeLine:=by rw[← rel.length];exact z
 have hl:(putK kvs k v).length<=sizeLine:=by have:=pV kvs k v;omega
 refine wpAny_setItem_pairs (hsz:=hz) (Ey ri) dd fun h' dd' hs=>⟨_,?_,q⟩
 have he:∃ q,h'.get? a=some q:=let ⟨q,_,_,hq,_⟩:=dd';⟨q,hq⟩
 exact BU I (by rw[e];exact Sf) hs he (FN hl hd (rel.put k rv) dd')
end
section
variable {prog:Pi}{w:PK}{A:Qi}{E:O3->O4->Prop}{s:O4}
theorem sy {a:Addr}{vs:List O3}{n:Nat}{Q:Fin->O4->Prop} (he:s.heap.get? a=some (Tc "list" vs.toArray n)) (h1:vs.length < 2) (hQ:∀ h' n',(∀ b o,b≠a->s.heap.get? b=some o->h'.get? b=some o)->h'.get? a=some (Tc "list" vs.toArray n')->Q (.done (.ret .none)) { s with heap:=h' }) :
 wpAny (Pw prog w) A (Builtin.«list.sort» { pos:=[.ref a] }) Q E s:=by
 rw[list_sort_plain]
 have sl:sizeLine=16777216:=T4
 have hz:vs.toArray.size<=sizeLine:=by rw[O6];omega
 refine wpAny_bind (listItems_at he rfl ?_)
 refine wpAny_bind (Ue he rfl ?_ hz (by simp))
 have g1:=U3 he (fun _=>#[])
 refine wpAny_bind (U1 g1 rfl ?_)
 have hs:vs.toArray.size < 2:=by rw[O6];exact h1
 simp only[newTuple,VF]
 refine wpAny_bind (PJ ?_ (by first | size_fits | exact hz))
 refine wpAny_bind (PJ ?_ (by size_fits))
 refine Qh ?_
 rw[if_pos hs,if_pos hs]
 refine wpAny_bind (wpAny_pure ?_)
 refine wpAny_bind (wpAny_pure ?_)
 have g2:((((s.heap.update a (QF fun _=>#[])).push { cls:=.type "tuple",data:=.seq vs.toArray }).push { cls:=.type "list",data:=.seq #[] })).get? a=some (Tc "list" #[] (if ((#[]:Array O3).size==vs.toArray.size)=true then n else n+1)) :=
  O2 _ (O2 _ g1)
 refine wpAny_bind (U1 g2 rfl ?_)
 refine wpAny_bind (Ue g2 rfl ?_ (by simp) (by simp[arrOf,SortSt.mk'];omega))
 show wpAny _ _ (if ((if ((#[]:Array O3).size==vs.toArray.size)=true then n else n+1) != if ((#[]:Array O3).size==vs.toArray.size)=true then n else n+1)=true then _ else PySem.ret RG) _ _ _
 rw[if_neg (by simp)]
 have eo:Array.map (fun x=>x.snd) (arrOf (SortSt.mk' general' (vs.toArray.zip vs.toArray) #[] 7 none))=vs.toArray:=by
  show Array.map (fun x=>x.snd) (vs.toArray.zip vs.toArray)=vs.toArray
  simp only[List.zip_toArray,List.map_toArray]
  rw[List.map_snd_zip (O8 _)]
 obtain ⟨e,he'⟩:=sortedHeap_at (out:=vs.toArray) he
 refine wpAny_pure (hQ _ e (fun b o hb q=>?_) ?_)
 ·rw[eo];exact (sortedHeap_old (vs:=vs) (out:=vs.toArray) hb (O7 q)).trans q
 ·rw[eo];exact he'
theorem jZ {v:O3}{Q:O3->O4->Prop} (hc:wpAny (Pw prog w) A.in1 (collect v) (fun vs s1=>vs.length<=sizeLine/\wpAny (Pw prog w) A.in1.in1 (Builtin.«list.sort» { pos:=[.ref s1.heap.objs.size] }) (fun fin s2=>∃ u,fin=.done (.ret u)/\Q (.ref s1.heap.objs.size) s2) E
 { s1 with heap:=s1.heap.push (Tc "list" vs.toArray 0) }) E s):wpAny (Pw prog w) A (call (.builtin "sorted") [v]) Q E s:=by
 refine Calls.call_function_entry kind_sorted plain_sorted entry_sorted (args_sorted1 v) ?_
 show wpAny _ _ (Builtin.sorted { pos:=[v] }) _ _ s
 unfold Builtin.sorted
 refine wpAny_bind (wpAny_pure ?_)
 refine wpAny_bind (wpAny_mono hc (fun vs s1 h1=>?_) fun _ _ x=>x)
 obtain ⟨hz,h1⟩:=h1
 simp only[VF]
 refine wpAny_bind (PJ ?_ (by first | size_fits | (rw[O6];exact hz) | exact hz))
 refine wpAny_bind (Qh (Rv slot_list_sort ⟨_,Pc _ rfl,rfl⟩ entry_list_sort ?_ (args_list_sort _)))
 refine wpAny_mono h1 (fun fin s2 q=>?_) fun _ _ x=>x
 obtain ⟨u,rfl,q⟩:=q
 exact ⟨u,rfl,wpAny_pure ⟨_,rfl,q⟩⟩
end
noncomputable def hpk (H:Hp) (n S:Addr) (bs as:List Addr) (ps:List (Key×V)):Hp:=fun b=>if b < n then H b else if b=S then some (.lst (bs.map V.ref)) else ((as.zip ps).lookup b).map fun p=>HO.tup [kV p.1,p.2]
theorem wI {α:Type}{as:List Addr}{ps:List α}{b:Addr}{p:α} (h:(as.zip ps).lookup b=some p):∃ j:Nat,as[j]?=some b/\ps[j]?=some p:=by
 induction as generalizing ps with
 | nil=>cases h
 | cons a as ih =>
  cases ps with
  | nil=>cases h
  | cons q ps =>
   rw[VQ,Qj] at h
   by_cases e:b=a
   ·subst e
    simp at h
    subst h
    exact ⟨0,rfl,rfl⟩
   ·rw[beq_eq_false_iff_ne.mpr e] at h
    obtain ⟨j,h1,h2⟩:=ih h
    exact ⟨j+1,by simpa using h1,by simpa using h2⟩
theorem zQ {α:Type}{as:List Addr}{ps:List α} (hr:as.Pairwise (· < ·)) {j:Nat}{b:Addr}{p:α} (h1:as[j]?=some b) (h2:ps[j]?=some p):(as.zip ps).lookup b=some p:=by
 induction as generalizing ps j with
 | nil=>simp at h1
 | cons a as ih =>
  cases ps with
  | nil=>simp at h2
  | cons q ps =>
   rw[VQ,Qj]
   cases j with
   | zero=>simp at h1 h2;subst h1 h2;simp
   | succ j =>
    simp at h1 h2
    have hb:=Ph h1
    rw[List.pairwise_cons] at hr
    have ne:b≠a:=QX (hr.1 b hb)
    rw[beq_eq_false_iff_ne.mpr ne]
    exact ih hr.2 h1 h2
theorem ny {K:O0}{m:List Addr}{H:Hp}:∀ {as:List Addr}{vs:List (Key×V)}{kvs:List (BT.Ky×BT.D)},as.length=vs.length->RKs K m H vs kvs →
 (∀ (j:Nat) a p,as[j]?=some a->vs[j]?=some p->H a=some (.tup [kV p.1,p.2])/\a∉m)->RDs K m H (as.map V.ref) (BT.fu kvs)
 | [],_,_,h1,r1,_=>by
  cases r1 with
  | nil=>exact .nil
  | cons _ _ _=>simp at h1
 | a :: as,_,_,h1,r1,k=>by
  cases r1 with
  | nil=>simp at h1
  | @cons key v d vs kvs hk q1 t1 =>
   obtain ⟨k1,k2⟩:=k 0 a _ rfl rfl
   exact .cons (.tup (.inl ⟨.inl k1,k2⟩) (.cons hk (.cons q1 .nil))) (ny (by simpa using h1) t1 fun j a p e1 e2=>k (j+1) a p (by simpa using e1) (by simpa using e2))
section
variable {X:Cx}{F:FT}{G:Str->Option BT.W}
theorem zR {pins:List (Addr×Obj)}{s:O4}{σ:L2.St}{H:Hp}{o:BT.E}{oe:O1}{apos pos:Pos}{RQ:Addr->List (Key×V)->Hp->Prop}{Q':O3->O4->Prop} (hb:aB oe=true) (hl:(apos.endLine==pos.line)=true) (hO:PE X oe (tD X F G o)) (I:Inv X pins σ H s)
 (q:tD X F G o σ H fun x H1=>∃ a vs,x=.ref a/\H1 a=some (.dK vs)/\RQ a vs H1) (k:∀ a vs H1 s2 r,Inv X pins σ H1 s2->H1 a=some (.dK vs)->RQ a vs H1->s2.heap.IsItemsView r a->s2.heap.objs.size=r+1->Q' (.ref r) s2) :
 wpAny (Pw X.prog X.w) X.A (eval (.Call (.Attribute oe "items" apos) [] [] pos) X.env) Q' X.xe s:=by
 refine VC (iw hb) hl (thn (hO pins s σ H _ I q) fun v s1 ⟨x,H1,I1,r1,a,vs,ex,e,q1⟩=>?_)
 subst ex
 cases r1
 obtain ⟨h1,h2⟩:=rN I1 (x:=.ref a) rfl (T:="dict") (.inr (.inr (.inl ⟨rfl,.inl ⟨_,e⟩⟩)))
 obtain ⟨z,hd,us,rel,dd⟩:=tK I1.hok e
 refine ⟨"dict","dict.items",UC,UA,PySem.F.type_dict_items,h1,h2,SJ rfl (Vn ?_)⟩
 refine call_meetsIn UA h1 PySem.F.entry_dict_items (PySem.F.args_dict_items_1 _) (meets_dict_items (aG X.prog X.w) a hd) ⟨⟨us,dd⟩,?_⟩
 refine k a vs H1 _ _ (I1.kept (t':=s1.toks) fun b o q=>O2 _ q) e q1 ⟨_,Pc _ rfl,rfl,rfl⟩ (QC ..)
theorem zS {vs:List (Key×V)}{us:List (Key×O3)} (rel:KV vs us):∀ {j:Nat}{p:Key×V},vs[j]?=some p->∃ q,us[j]?=some q/\p.1=q.1/\RelV p.2 q.2:=by
 unfold KV at rel
 induction rel with
 | nil=>intro j p h;simp at h
 | cons h t ih =>
  intro j p e
  cases j with
  | zero=>simp at e;subst e;exact ⟨_,rfl,h⟩
  | succ j =>
   obtain ⟨q,q1,q2⟩:=ih (j:=j) (p:=p) (by simpa using e)
   exact ⟨q,by simpa using q1,q2⟩
theorem wJ {pins:List (Addr×Obj)}{s1:O4}{σ:L2.St}{H1:Hp}{h':Heap}{tk:Nat}{S:Addr}{acc:Array O3}{c:Nat}{as bs:List Addr}{vs:List (Key×V)}{us:List (Key×O3)}{m:List Addr}{h:BT.HH}{kvs:List (BT.Ky×BT.D)}{lo:Addr} (I1:Inv X pins σ H1 s1) (rel:KV vs us) (R:RH X.K m H1 h) (rk:RKs X.K m H1 vs kvs)
 (hS:s1.heap.objs.size<=S) (hlo:s1.heap.objs.size<=lo) (hSl:S∉as) (hz:bs.length<=sizeLine) (k:∀ b o,s1.heap.get? b=some o->h'.get? b=some o) (g1:h'.get? S=some { cls:=.type "list",data:=.seq acc c }) (g2:as.length=us.length) (g3:PySem.W.KdxG (aG X.prog X.w) us lo h' as) (g4:acc.toList=bs.map Pz) :
 ∃ H2,Inv X pins σ H2 { s1 with heap:=h',toks:=tk }/\H2 S=some (.lst (bs.map V.ref))/\Ext m H1 m H2/\Le H1 H2/\H1 S=none/\RDs X.K m H2 (as.map V.ref) (BT.fu kvs):=by
 have low:∀ c:Addr,c < s1.heap.objs.size->hpk H1 s1.heap.objs.size S bs as vs c=H1 c:=fun c hc=>if_pos hc
 have nS:¬ (S < s1.heap.objs.size):=Nat.not_lt.mpr hS
 have atS:hpk H1 s1.heap.objs.size S bs as vs S=some (.lst (bs.map V.ref)):=by
  unfold hpk
  rw[if_neg nS,if_pos rfl]
 have atA:∀ (j:Nat) a p,as[j]?=some a->vs[j]?=some p->hpk H1 s1.heap.objs.size S bs as vs a=some (.tup [kV p.1,p.2]):=fun j a p q1 q2=>by
  have ha:=Ph q1
  have ab:=g3.above a ha
  unfold hpk
  rw[if_neg (Nat.not_lt.mpr (PZ hlo (Qk ab))),if_neg (show ¬ a=S from fun e=>hSl (by rw[← e];exact ha)),zQ g3.rise q1 q2]
  rfl
 have fresh:∀ c:Addr,s1.heap.objs.size<=c->H1 c=none:=fun c hc=>I1.hok.fresh hc
 have live:Le H1 (hpk H1 s1.heap.objs.size S bs as vs):=fun c u q=>by rw[low c (I1.hok.lt q)];exact q
 have hok:HOk X.prog X.w (hpk H1 s1.heap.objs.size S bs as vs) h':=fun c u q=>by
  by_cases lc:c < s1.heap.objs.size
  ·rw[low c lc] at q
   exact (I1.hok c u q).stay (fun b o _ w=>k b o w) (fun b w=>live b _ w) fun b l w=>live b _ w
  ·by_cases ec:c=S
   ·subst ec
    rw[atS] at q
    cases q
    refine ⟨by rw[Pa];exact hz,acc.toList,_,?_,by simpa using g1⟩
    rw[g4]
    clear g1 g2 g3 g4 atA atS low live hSl hz
    induction bs with
    | nil=>exact .nil
    | cons a as ih=>exact .cons rfl ih
   ·have hx:=q
    unfold hpk at hx
    rw[if_neg lc,if_neg ec] at hx
    cases hL:(as.zip vs).lookup c with
    | none=>rw[hL] at hx;cases hx
    | some pr =>
     rw[hL] at hx
     cases hx
     obtain ⟨j,j1,j2⟩:=wI hL
     obtain ⟨key,kk,x,x1,hk,pa⟩:=g3.pairs j c j1
     have rp:pr.1=kk/\RelV pr.2 x:=by
      obtain ⟨q,q1,q2⟩:=zS rel j2
      rw[x1] at q1
      cases q1
      exact q2
     obtain ⟨rp1,rp2⟩:=rp
     refine ⟨by show 2<=sizeLine;decide,[key,x],.cons ?_ (.cons rp2 .nil),_,pa,rfl,_,rfl⟩
     rw[rp1]
     rcases aH (show jR kk key=true from hk) with ⟨i,t,rfl,rfl⟩ | ⟨x,t,rfl,rfl⟩
     ·exact ⟨t,rfl⟩
     ·exact ⟨t,rfl⟩
 have x:Ext m H1 m (hpk H1 s1.heap.objs.size S bs as vs):=⟨⟨[],by simp,by simp⟩,fun c o q _ _=>live c o q,fun c q=>by
  cases g:H1 c with
  | none=>rfl
  | some o=>rw[live c o g] at q;cases q⟩
 have ni:∀ c:Addr,s1.heap.objs.size<=c->c∉m:=fun c hc=>R.dY (fresh c hc)
 have ln:=rel.length
 refine ⟨_,Inv.CU (s:=s1) (tk:=tk) (fp:=[]) I1 (fun b hb=>nomatch hb) (fun b o _ e=>k b o e) low hok,atS,x,live,fresh S hS,ny (by omega) (rk.ext x) fun j a p q1 q2=>⟨atA j a p q1 q2,ni a (PZ hlo (Qk (g3.above a (Ph q1))))⟩⟩
theorem G1 {h:Heap}{a:Addr}{us:List (Key×O3)} (dd:h.DictOf (aG X.prog X.w) a us):∃ ep,h.DictAt (aG X.prog X.w) a us ep:=by
 obtain ⟨o,es,ep,z⟩:=dd
 exact ⟨ep,o,es,z⟩
theorem CY {x z:BT.W}{h h':BT.HH} (e:BT.Gi x h=some (z,h')):∃ n kvs l,x=.r n/\BT.dat h n=some kvs/\BT.lg kvs=some l/\z=.p (.lst l)/\h'=h:=by
 cases x with
 | p _=>cases e
 | k _=>cases e
 | o _=>cases e
 | c _ _=>cases e
 | r n =>
  rw[BT.Gj] at e
  obtain ⟨kvs,e1,e2⟩:=Option.bind_eq_some_iff.mp e
  obtain ⟨l,e3,e4⟩:=aA e2
  cases e4
  exact ⟨n,kvs,l,rfl,e1,e3,rfl,rfl⟩
theorem zT {m:List Addr}{H:Hp}{vs:List (Key×V)}{kvs:List (BT.Ky×BT.D)} (r:RKs X.K m H vs kvs):∀ {ps:List (Int×Int)},BT.jH kvs=some ps->vs=ps.map fun p=>(Sum.inl p.1,V.int p.2):=by
 induction r with
 | nil=>intro ps e;cases e;rfl
 | @cons k v d vs kvs hk r t ih =>
  intro ps e
  cases k with
  | inr x=>cases d<;>exact ah e
  | inl k =>
   cases d with
   | int i =>
    obtain ⟨qs,e1,e2⟩:=aA (show (BT.jH kvs).map ((k,i) :: ·)=some ps from e)
    subst e2
    cases r
    rw[ih e1];rfl
   | _=>exact ah e
theorem qv {α:Type} (xs:List α) (d:α):∀ l:List Nat,(∀ i∈l,i < xs.length)->(l.map fun i=>xs.getD i d)=l.filterMap fun i=>xs[i]?
 | [],_=>rfl
 | i :: l,h=>by
  have hi:=h i Pf
  rw[Pe,PF,qv xs d l fun j hj=>h j (Pb _ hj),PP,O9 hi];rfl
theorem uD {α β:Type} (f:α->β) (xs:List α) (l:List Nat):(l.filterMap fun i=>(xs.map f)[i]?)=(l.filterMap fun i=>xs[i]?).map f:=by
 rw[VS]
 congr 1
 funext i
 rw[Px]
theorem G3 {sc:Pu}{N:List Str} (O:Ok X F G sc N) {o:BT.E}{oe:O1}{np p apos pos:Pos} (hg:aV sc "sorted"=true) (hb:aB oe=true) (hl:(apos.endLine==pos.line)=true) (hO:PE X oe (tD X F G o)) :
 PE X (.Call (.Name "sorted" np) [.Call (.Attribute oe "items" apos) [] [] pos] [] p) (tD X F G (.dsi o)):=by
 intro pins s σ H Q I q
 refine Call_ (fU (u:=.builtin "sorted") I (aX O hg) (O.blt _ (by decide)) (by decide +kernel) (Rr ?_ (aj rfl) rfl))
 rw[aj (show noStar (.Call (.Attribute oe "items" apos) [] [] pos)=true from rfl)]
 show wpAny _ _ (Uv ((false,eval (.Call (.Attribute oe "items" apos) [] [] pos) X.env) :: Rg p (PL [] X.env))) _ _ s
 obtain ⟨m,sl,h,z,h',R,S,ee,post⟩:=q
 simp only[BT.ev] at ee
 obtain ⟨x,h1,e1,e2⟩:=ai ee
 obtain ⟨n,kvs,l,rfl,e3,e4,rfl,rfl⟩:=CY e2
 refine Q3 (zR hb hl hO I (RQ:=fun a vs H1=>∃ m1,RH X.K m1 H1 h'/\RKs X.K m1 H1 vs kvs/\Post X.prog X.w X.K m1 H1 (.p (.lst l)) h' Q) ⟨m,sl,h,.r n,h',R,S,e1,fun v H1 m1 x1 R1 r1=>?_⟩ fun a vs H1 s2 r I2 e q1 iv hsz=>RK ?_)
 ·cases r1 with
  | @r a _ hn =>
   obtain ⟨vs,hH,rk⟩:=R1.tZ n a kvs hn e3
   exact ⟨a,vs,rfl,hH,m1,R1,rk,fun v5 H5 m5 x5 R5 r5=>post v5 H5 m5 (x1.trans x5) R5 r5⟩
 ·obtain ⟨m1,R1,rk,post⟩:=q1
  obtain ⟨zz,hd,us,rel,dd⟩:=tK I2.hok e
  obtain ⟨ep,da⟩:=G1 dd
  have l1:=rel.length
  have l2:=rk.length
  refine jZ (PySem.W.kdx_collect (I2.ok.hd O.calm) iv da (by omega) fun h2 tk as k g2 g3=>⟨by rw[Pa];omega,?_⟩)
  have big:s2.heap.objs.size<=h2.objs.size:=by
   obtain ⟨ov,hv,_⟩:=iv
   rw[hsz]
   exact Nat.succ_le_of_lt (O7 (k _ _ hv))
  have lt:∀ b∈as,b < h2.objs.size:=fun b hb=>by
   obtain ⟨j,hj⟩:=Qz hb
   obtain ⟨_,_,_,_,_,pa⟩:=g3.pairs j b hj
   exact O7 pa
  have fin:∀ (bs:List Addr) (h3:Heap) (n':Nat),bs.length<=sizeLine->(∀ b o,b≠h2.objs.size->(h2.push (Tc "list" (as.map Pz).toArray 0)).get? b=some o->h3.get? b=some o)->h3.get? h2.objs.size=some (Tc "list" (bs.map Pz).toArray n') →
   ∃ H2,Inv X pins σ H2 { s2 with heap:=h3,toks:=tk }/\H2 h2.objs.size=some (.lst (bs.map V.ref))/\Ext m1 H1 m1 H2/\Le H1 H2/\H1 h2.objs.size=none/\RDs X.K m1 H2 (as.map V.ref) (BT.fu kvs):=fun bs h3 n' hz k3 g1=>by
   have pre:∀ b o,h2.get? b=some o->h3.get? b=some o:=fun b o q=>k3 b o (PD (O7 q)) (O2 _ q)
   exact wJ (tk:=tk) (acc:=(bs.map Pz).toArray) (S:=h2.objs.size) (lo:=s2.heap.objs.size) (as:=as) (bs:=bs) (h':=h3) I2 rel R1 rk big (O8 _) (fun hm=>QA _ (lt _ hm)) hz (fun b o q=>pre b o (k b o q)) g1 g2 ⟨g3.rise,g3.above,fun j a hj=>by
    obtain ⟨key,kk,x,q1,q2,q3⟩:=g3.pairs j a hj
    exact ⟨key,kk,x,q1,q2,pre _ _ q3⟩⟩ rfl
  unfold BT.lg at e4
  by_cases c1:kvs.length<=1
  ·rw[if_pos c1] at e4
   cases e4
   refine sy (Pc _ rfl) (by rw[Pa];omega) fun h3 n' k3 g1=>⟨_,rfl,?_⟩
   obtain ⟨H2,I3,atS,x,le,fr,rr⟩:=fin as h3 n' (by omega) k3 g1
   exact ⟨.ref h2.objs.size,H2,I3,rfl,post _ _ m1 x (R1.ext x le) (.p (.lst (.inl ⟨.inl atS,R1.dY fr⟩) rr))⟩
  ·rw[if_neg c1] at e4
   obtain ⟨ps,e5,e6⟩:=Option.bind_eq_some_iff.mp e4
   split at e6
   case isFalse=>cases e6
   rename_i c2
   cases e6
   have ev:=zT rk e5
   have lp:vs.length=ps.length:=by rw[ev,Pa]
   refine vV (s:={ s2 with heap:=h2.push (Tc "list" (as.map Pz).toArray 0),toks:=tk }) (ps:=ps) (Pc _ rfl) (by omega) (by omega) c2 (fun i b p q1 q2=>⟨PD (lt b (Ph q1)),?_⟩) fun h3 n' k3 g1=>⟨_,rfl,?_⟩
   ·obtain ⟨key,kk,x,x1,hk,pa⟩:=g3.pairs i b q1
    have vi:vs[i]?=some (Sum.inl p.1,V.int p.2):=by rw[ev,Px,q2];rfl
    obtain ⟨qq,y1,y2,y3⟩:=zS rel vi
    rw[x1] at y1
    cases y1
    obtain ⟨u,y4⟩:=(show ∃ u,x=RO p.2 u from y3)
    subst y4
    have y2:Sum.inl p.1=kk:=y2
    subst y2
    rcases aH (show jR (Sum.inl p.1) key=true from hk) with ⟨i',t,z1,rfl⟩ | ⟨x',t,z1,_⟩
    ·cases z1
     exact ⟨_,t,u,_,O2 _ pa,rfl,rfl⟩
    ·cases z1
   ·have pm:=BT.jD (ps:=ps) (by omega)
    have lo:∀ i∈BT.jC ps,i < as.length:=fun i hi=>by
     have:=List.mem_range.mp (pm.mem_iff.mp hi)
     omega
    rw[qv _ _ _ (by rw[Pa];exact lo),uD] at g1
    have ol:((BT.jC ps).filterMap fun i=>as[i]?).length<=sizeLine:=by
     have:=US (fun i=>as[i]?) (BT.jC ps)
     have q:=pm.length_eq
     rw[QD] at q
     omega
    obtain ⟨H2,I3,atS,x,le,fr,rr⟩:=fin _ h3 n' ol k3 g1
    have rp:=rr.pick (BT.jC ps)
    rw[uD] at rp
    exact ⟨.ref h2.objs.size,H2,I3,rfl,post _ _ m1 x (R1.ext x le) (.p (.lst (.inl ⟨.inl atS,R1.dY fr⟩) rp))⟩
end
end BS
end
section
namespace BS
open PySem PySem.Spec PyProof.Rows L2
theorem lC:∀ (ns:List Int),(Pr ns.length).map (fun i=>ns.getD i 0)=ns:=by
 intro ns
 refine List.ext_getElem (by simp) fun i h1 h2=>?_
 simp only[List.getElem_map,List.getElem_range]
 rw[PP,O9 h2];rfl
theorem CZ (ns:List Int):QV (fun i=>ns.getD i 0) ns.length=BT.ded ns:=by
 unfold QV
 rw[lC];rfl
section
variable {F:FT}{G:Str->Option BT.W}
end
end BS
end
section
namespace BX
open PySem PyProof.Rows
theorem NX.keep {w:PK}{h h':Heap}{it a S:Addr}{ord:List O3}{i:Nat}{oS:Obj} (N:NX w h it a ord i) (hS:h.get? S=some oS) (hc:oS.cls=.type "list") (ha:a≠S) (k:∀ b o,b≠S->h.get? b=some o->h'.get? b=some o):NX w h' it a ord i:=by
 obtain ⟨o,es,ep,t,first,ho,hd,hf,hi,m⟩:=N.ex
 refine ⟨o,es,ep,t,first,k _ _ ha ho,hd,hf,k _ _ (fun z=>?_) hi,?_⟩
 ·subst z
  rw[hS] at hi
  cases hi
  exact absurd (show (Sw "set_iterator")=.type "list" from hc) (by decide)
 ·cases m with
  | A hb=>exact .A hb
  | B hT hp =>
   obtain ⟨oT,e,c,n,d⟩:=hT
   refine .B ⟨oT,k _ _ (fun z=>?_) e,c,n,d⟩ hp
   subst z
   rw[hS] at e
   cases e
   rw[hc] at c
   exact absurd c (by decide)
  | C hb hd ht=>exact .C hb hd ht
section
variable {prog:Pi}{w:PK}{A:Qi}{E:O3->O4->Prop}{s:O4}{R:U7->O4->Prop}
theorem zU (hh:A.handled=none) {it a S:Addr}{ord:List O3}{oa:Obj}{es:Array (Int×O3)}{ep:Nat}{t:SetTable}{h₁:Heap} (hia:it≠a) (haS:a≠S) (hiS:it≠S) (hn:ord.length<=sizeLine) (hA:h₁.get? a=some oa) (hd:oa.data=.set es ep t) (hl:ord.length=es.size) (res:O3)
 (hR:∀ h' c,(∀ b o,b≠S->b≠it->h₁.get? b=some o->h'.get? b=some o)->h'.get? S=some { cls:=.type "list",dict:=none,data:=.seq ord.toArray c,slots:=#[] }->R (.ok (.ret res)) { s with heap:=h' }) :
 ∀ (k i:Nat) (h:Heap) (c:Nat),ord.length - i=k->i<=ord.length->NX w h it a ord i->(∀ b o,b≠S->b≠it->h₁.get? b=some o->h.get? b=some o) →
  h.get? S=some { cls:=.type "list",dict:=none,data:=.seq (ord.take i).toArray c,slots:=#[] } →
  codeAny (Pw prog w) A (.builtin "list.extend.loop" ⟨[.ref S,.ref it,res],[]⟩) R { s with heap:=h }:=by
 intro k
 induction k with
 | zero =>
  intro i h c hk hi N hkeep hS
  have hin:i=ord.length:=by omega
  refine codeAny_builtin Uj ?_
  rw[QT QL _]
  show wpAny _ A.in1 (Ud (.ref it) >>= _) _ _ _
  refine wpAny_bind (FW (s:={ s with heap:=h }) (A:=A.in1) hh N hin (fun o es' ep' t' e1 e2=>?_) fun h' he=>?_)
  ·have e3:=hkeep a oa haS hia.symm hA
   replace e1:h.get? a=some o:=e1
   rw[e3] at e1
   cases e1
   rw[hd] at e2
   cases e2
   exact hl
  ·subst hin
   rw[List.take_length] at hS
   exact wpAny_pure (hR h' c (fun b o n1 n2 e=>he b o n2 (hkeep b o n1 n2 e)) (he S _ hiS.symm hS))
 | succ k ih =>
  intro i h c hk hi N hkeep hS
  have hlt:i < ord.length:=by omega
  have hx:ord[i]?=some ord[i]:=O9 hlt
  refine codeAny_builtin Uj ?_
  rw[QT QL _]
  show wpAny _ A.in1 (Ud (.ref it) >>= _) _ _ _
  refine wpAny_bind (B0 (s:={ s with heap:=h }) N hia hx fun h' N' sb=>?_)
  have hkp:∀ b o,b≠it->h.get? b=some o->h'.get? b=some o:=sb.extBut
  have hS':=hkp S _ hiS.symm hS
  have up:∀ b o,b≠S->h'.get? b=some o->(h'.update S (QF (·.push ord[i]))).get? b=some o:=fun b o hb e=>(Qo _ _ (Qd hb)).trans e
  have hsz:(ord.take i).toArray.size=i:=by simp;omega
  show wpAny _ A.in1 (updateSeq S (·.push ord[i]) >>= _) _ _ _
  refine wpAny_bind ?_
  have tk:(ord.take i).toArray.push ord[i]=(ord.take (i+1)).toArray:=by rw[List.push_toArray,List.take_append_getElem]
  obtain ⟨c',hg⟩:∃ c',(h'.update S (QF (·.push ord[i]))).get? S=some { cls:=.type "list",dict:=none,data:=.seq (ord.take (i+1)).toArray c',slots:=#[] }:=⟨_,by rw[← tk];exact PY (QF (·.push ord[i])) hS' rfl⟩
  exact Tq hS' rfl (wpAny_pure ⟨plainId_quiet QL _,ih (i+1) _ c' (by omega) hlt (N'.keep hS' rfl haS up) (fun b o h1 h2 e=>up b o h1 (hkp b o h2 (hkeep b o h1 h2 e))) hg⟩) (by rw[hsz];omega) (by show ((ord.take i).toArray.push ord[i]).size<=sizeLine+1;rw[Array.size_push,hsz];omega)
end
theorem C1:typeLookup (.type "set") "__len__"=pure (some (.builtin "set.__len__")):=by rw[typeLookup_type,builtinLookup_eq_fast];kernel_rfl
section
variable {prog:Pi}{w:PK}{A:Qi}{E:O3->O4->Prop}{s:O4}
theorem zV {r:Addr} (hT:s.TypeIs (.ref r) "set") {Q:Bool->O4->Prop} (h:Q false s):wpAny (Pw prog w) A (To (.ref r)) Q E s:=by
 unfold To
 refine wpAny_bind (wpAny_specialOf hT C1 ?_)
 generalize hid:("set.__len__":String)=id0
 wp_delta
 rw[show splitId id0=some ("set","__len__") from by subst hid;decide +kernel]
 subst hid
 refine wpAny_bind (Sj (T:="set") (b:=true) hT (by rw[isSubtype_type];kernel_rfl) ?_)
 refine Tt (fun hab=>absurd hab (by decide)) (fun _=>?_)
 refine Tt (fun _=>?_) (fun hab=>absurd (by decide +kernel) hab)
 refine wpAny_bind (Sd hT ?_)
 exact wpAny_pure h
theorem sA {R:U7->O4->Prop} (hh:A.handled=none) {a S:Addr}{o:Obj}{es:Array (Int×O3)}{ep:Nat}{t:SetTable} (ho:s.heap.get? a=some o) (hx:o.ExactSet) (hd:o.data=.set es ep t) (hf:t.fits es.size=true) (hb:es.size < Se) (ht:Tb (w.params.followText "set-order") t) (haS:a≠S) (res:O3) (c₀:Nat) (hS:s.heap.get? S=some { cls:=.type "list",data:=.seq #[] c₀ })
 (hR:∀ h' d (ord:List O3) c,(∀ b o,b≠S->s.heap.get? b=some o->h'.get? b=some o)->ord.Perm (es.toList.map (·.2))->h'.get? S=some { cls:=.type "list",dict:=none,data:=.seq ord.toArray c,slots:=#[] }->R (.ok (.ret res)) { s with heap:=h',drawn:=d }) :
 wpAny (Pw prog w) A.in1 (RL (.ref S) (.ref a) res)
  (fun fin s'=>match fin with | .done f=>R (.ok f) s' | .again c'=>c'.quiet=true/\codeAny (Pw prog w) A c' R s') (fun e s'=>R (.error e) s') s:=by
 have hT:s.TypeIs (.ref a) "set":=⟨o,ho,hx.1⟩
 have al:a < s.heap.objs.size:=O7 ho
 have Sl:S < s.heap.objs.size:=O7 hS
 unfold RL
 refine wpAny_bind (Sd hT ?_)
 have h1:TY (.ref S) (.ref a)=false:=by simp[TY,haS.symm]
 have h2:(Sw "set"==Sw "list")=false:=by decide
 have h3:(Sw "set"==Sw "tuple")=false:=by decide
 simp only[h1,h2,h3,TQ,VV,if_false]
 refine wpAny_bind (yy (s:=s) ho hx hd hf hb ht fun h₁ d it ord N up hit hsz hp=>?_)
 have ln:ord.length=es.size:=by rw[hp.length_eq,Pa,Qs]
 have fit:=RY hb
 have key:∀ (h:Heap) (c₁:Nat),(∀ b o,b≠S->h₁.get? b=some o->h.get? b=some o)->h.get? S=some { cls:=.type "list",data:=.seq #[] c₁ }->codeAny (Pw prog w) A (.builtin "list.extend.loop" ⟨[.ref S,.ref it,res],[]⟩) R { s with heap:=h,drawn:=d }:=by
  intro h c₁ hk hS₁
  refine zU (s:={ s with drawn:=d }) (h₁:=h₁) (t:=t) hh (QX (Py al hit)) haS (QX (Py Sl hit)) (by omega) (up a o ho) hd ln res (fun h' c hk' hS'=>hR h' d ord c (fun b o hb e=>hk' b o hb (PD (Py (O7 e) hit)) (up b o e)) hp hS')
   ord.length 0 h c₁ (Nat.sub_zero _) (P0 _) (N.keep (up S _ hS) rfl haS hk) (fun b o hb _ e=>hk b o hb e) (by simpa using hS₁)
 have hS₁:=up S _ hS
 refine wpAny_bind (Qh (zV (s:={ s with heap:=h₁,drawn:=d }) ⟨o,up a o ho,hx.1⟩ ?_))
 refine Tt (fun _=>?_) (fun _=>wpAny_pure ⟨plainId_quiet QL _,key _ c₀ (fun b o _ e=>e) hS₁⟩)
 refine wpAny_bind (Uu ?_)
 refine wpAny_bind ?_
 show wpAny _ _ (updateSeq S (·.push .none) >>= fun _=>updateSeq S (·.pop)) _ _ _
 refine wpAny_bind (Tq hS₁ rfl ?_)
 have hS₂:=PY (QF (·.push RG)) hS₁ rfl
 refine Tq (hz:=by seq_fits) hS₂ rfl ?_
 have hS₃:=PY (QF (·.pop)) hS₂ rfl
 refine wpAny_pure ⟨plainId_quiet QL _,key _ _ (fun b o hb e=>?_) hS₃⟩
 exact (Qo _ _ (Qd hb)).trans ((Qo _ _ (Qd hb)).trans e)
theorem qw {R:List O3->O4->Prop} (hh:A.handled=none) {a:Addr}{o:Obj}{es:Array (Int×O3)}{ep:Nat}{t:SetTable} (ho:s.heap.get? a=some o) (hx:o.ExactSet) (hd:o.data=.set es ep t) (hf:t.fits es.size=true) (hb:es.size < Se) (ht:Tb (w.params.followText "set-order") t)
 (h:∀ h' d ord,s.heap.objs.size < h'.objs.size->(∀ b o,s.heap.get? b=some o->h'.get? b=some o)->ord.Perm (es.toList.map (·.2))->R ord { s with heap:=h',drawn:=d }) :
 wpAny (Pw prog w) A (collect (.ref a)) R E s:=by
 have hr:a < s.heap.objs.size:=O7 ho
 unfold collect
 refine wpAny_bind (wpAny_runValue (codeAny_builtin PySem.F.entry_proto_collect ?_))
 rw[QT PySem.F.plain_proto_collect _]
 show wpAny _ A.in1 (VF [] >>= fun l=>again (.builtin "list.__iadd__" ⟨[l,.ref a],[]⟩)) _ _ s
 refine wpAny_bind (PJ ?_)
 refine wpAny_pure ⟨plainId_quiet UB _,codeAny_builtin PySem.F.entry_list_iadd ?_⟩
 rw[QT UB _]
 have hS₁:(s.heap.push { cls:=.type "list",data:=.seq ([]:List O3).toArray }).get? s.heap.objs.size=some { cls:=.type "list",data:=.seq #[] }:=Pc _ rfl
 show wpAny _ A.in1 (RL (.ref s.heap.objs.size) (.ref a) (.ref s.heap.objs.size)) _ _ _
 have key:=sA (prog:=prog) (A:=A) (s:={ s with heap:=s.heap.push { cls:=.type "list",data:=.seq ([]:List O3).toArray } })
  (R:=fun (q:U7) (s':O4)=>∃ (h':Heap) (d:Drawn) (ord:List O3) (c':Nat),q=.ok (.ret (.ref s.heap.objs.size))/\s'={ s with heap:=h',drawn:=d } ∧
   (∀ b o,s.heap.get? b=some o->h'.get? b=some o)/\ord.Perm (es.toList.map (·.2))/\h'.get? s.heap.objs.size=some { cls:=.type "list",dict:=none,data:=.seq ord.toArray c',slots:=#[] })
  hh (O2 _ ho) hx hd hf hb ht (PD hr) (.ref s.heap.objs.size) 0 hS₁
  (fun h' d ord c' hk hp hS'=>⟨h',d,ord,c',rfl,rfl,fun b o e=>hk b o (PD (O7 e)) (O2 _ e),hp,hS'⟩)
 refine wpAny_mono key (fun fin s' x=>?_) fun e s' x=>?_
 ·cases fin with
  | done f =>
   obtain ⟨h',d,ord,c',e,rfl,hk,hp,hS'⟩:=x
   cases e
   show wpAny _ A (load s.heap.objs.size >>= _) _ _ _
   refine wpAny_bind (wpAny_load hS' ?_)
   refine wpAny_pure ?_
   show R ord.toArray.toList _
   exact h h' d ord (O7 hS') hk hp
  | again c₁ =>
   refine ⟨x.1,codeAny_mono x.2 fun q s₂ y=>?_⟩
   obtain ⟨h',d,ord,c',rfl,rfl,hk,hp,hS'⟩:=y
   show wpAny _ A (load s.heap.objs.size >>= _) _ _ _
   refine wpAny_bind (wpAny_load hS' ?_)
   refine wpAny_pure ?_
   show R ord.toArray.toList _
   exact h h' d ord (O7 hS') hk hp
 ·obtain ⟨_,_,_,_,e',_⟩:=x
  cases e'
theorem uE:∀ {vs:List O3},(∀ v∈vs,∃ k,Ui k v=true)->∃ ks,Sz vs ks/\∀ k,k∈ks↔∃ v∈vs,Ui k v=true
 | [],_=>⟨[],.nil,fun k=>by simp⟩
 | v :: vs,h=>by
  obtain ⟨k,hk⟩:=h v Pf
  obtain ⟨ks,h1,h2⟩:=uE fun u hu=>h u (Pb _ hu)
  obtain ⟨t,rfl⟩:=VJ hk
  refine ⟨k :: ks,.cons k t h1,fun j=>?_⟩
  constructor
  ·intro hj
   rcases List.mem_cons.mp hj with rfl | hj
   ·exact ⟨_,Pf,hk⟩
   ·obtain ⟨u,u1,u2⟩:=(h2 j).mp hj
    exact ⟨u,Pb _ u1,u2⟩
  ·rintro ⟨u,u1,u2⟩
   rcases List.mem_cons.mp u1 with rfl | u1
   ·rw[Value.isInt_inj _ _ _ u2 hk];exact Pf
   ·exact Pb _ ((h2 j).mpr ⟨u,u1,u2⟩)
theorem nA:∀ {l ks:List Int},l.Nodup->(∀ k∈l,k∈ks)->ks.length=l.length->l.Perm ks
 | [],ks,_,_,h=>by rw[List.length_eq_zero_iff.mp h]
 | x :: l,ks,n,m,h=>by
  have hx:=m x Pf
  obtain ⟨n1,n2⟩:=List.nodup_cons.mp n
  have:=nA (l:=l) (ks:=ks.erase x) n2 (fun k hk=>(Vp (a:=k) (b:=x) (fun z=>n1 (by rw[← z];exact hk))).mpr (m k (Pb _ hk))) (by rw[UT hx,h];simp)
  exact (this.cons x).trans (List.perm_cons_erase hx).symm
theorem sC:∀ (ns acc:List Int),acc.Nodup->(ns.foldl (fun σ v=>if σ.any (·==v) then σ else σ++[v]) acc).Nodup
 | [],acc,h=>h
 | n :: ns,acc,h=>by
  show (ns.foldl _ (if acc.any (·==n) then acc else acc++[n])).Nodup
  by_cases c:acc.any (·==n)=true
  ·rw[if_pos c];exact sC ns acc h
  ·rw[if_neg c]
   refine sC ns _ (List.nodup_append.mpr ⟨h,by simp,fun a ha b hb=>?_⟩)
   rw[List.mem_singleton.mp hb]
   intro z
   subst z
   exact c (List.any_eq_true.mpr ⟨a,ha,by simp⟩)
theorem wK (ns:List Int):(BT.ded ns).Nodup:=sC ns [] Sq
theorem wL {vs us:List O3}{ks:List Int} (p:us.Perm vs) (h:Sz vs ks):∃ ks',Sz us ks'/\ks'.Perm ks:=by
 induction p generalizing ks with
 | nil=>exact ⟨ks,h,.refl _⟩
 | cons x p ih =>
  cases h with
  | cons n t h =>
   obtain ⟨ks',a,b⟩:=ih h
   exact ⟨n :: ks',.cons n t a,b.cons n⟩
 | swap x y l =>
  cases h with
  | cons n t h =>
   cases h with
   | cons n2 t2 h=>exact ⟨n2 :: n :: _,.cons n2 t2 (.cons n t h),.swap _ _ _⟩
 | trans p q ih1 ih2 =>
  obtain ⟨k1,a,b⟩:=ih2 h
  obtain ⟨k2,a2,b2⟩:=ih1 a
  exact ⟨k2,a2,b2.trans b⟩
theorem sD {a:Addr}{ns:List Int}{Q:O3->O4->Prop} (hh:A.handled=none) (hs:mz prog w (w.params.followText "set-order") s.heap a (fun k'=>(BT.ded ns).any (·==k')) (BT.ded ns).length) (h64:(BT.ded ns).length < 64)
 (hQ:∀ h' d p out e,Sz out.toList (BT.sortI (BT.ded ns))->(∀ b o,s.heap.get? b=some o->h'.get? b=some o)->s.heap.objs.size<=p->h'.get? p=some (Tc "list" out e)->Q (.ref p) { s with heap:=h',drawn:=d }) :
 wpAny (Pw prog w) A (call (.builtin "sorted") [.ref a]) Q E s:=by
 obtain ⟨o,es,ep,t,ho,hex,hd,hel,hS,hb,hf,hn,ht⟩:=hs
 have fit:=RY hb
 refine BS.jZ (qw (A:=A.in1) hh ho hex hd hf hb ht fun h' d ord al up hp=>⟨by rw[hp.length_eq,Pa,Qs];omega,?_⟩)
 obtain ⟨ks,k1,k2⟩:=uE (vs:=es.toList.map (·.2)) fun v hv=>by
  obtain ⟨e,he,rfl⟩:=List.mem_map.mp hv
  obtain ⟨⟨k,hk,_⟩,_⟩:=hel e he
  exact ⟨k,hk⟩
 obtain ⟨ks',k3,k4⟩:=wL hp k1
 have ln:ks.length=(BT.ded ns).length:=by
  have:=Vx k1
  simp at this
  omega
 have pm:(BT.ded ns).Perm ks:=nA (wK ns) (fun k hk=>(k2 k).mpr (by
  obtain ⟨e,he,q⟩:=(hS k).mp (List.any_eq_true.mpr ⟨k,hk,by simp⟩)
  exact ⟨e.2,List.mem_map.mpr ⟨e,he,rfl⟩,q⟩)) ln
 refine PyProof.Rows.list_sort_tree (Pc _ rfl) k3 (by rw[hp.length_eq,Pa,Qs];omega) fun out ns' a1 a2 a3=>⟨_,rfl,?_⟩
 obtain ⟨e,he⟩:=PyProof.Rows.sortedHeap_at (h:=h'.push (Tc "list" ord.toArray 0)) (a:=h'.objs.size) (vs:=ord) (n:=0) (out:=out) (Pc _ rfl)
 have es':ns'=BT.sortI (BT.ded ns):=Vv ((a2.trans k4).trans (pm.symm.trans (BT.sortI_perm _).symm)) a3 (BT.p9 _)
 subst es'
 refine hQ _ d _ out e a1 (fun b ob q=>?_) (Qk al) he
 have q2:=up b ob q
 have lt:=O7 q2
 rw[PyProof.Rows.sortedHeap_old (PD lt) (by rw[QC];exact T7 lt)]
 exact O2 _ q2
end
end BX
namespace BS
open PySem PySem.Spec PyProof.Rows L2
theorem Inv.drew {X:Cx}{pins:List (Addr×Obj)}{σ:List (Option V)}{H:Hp}{s:O4}{d:Drawn} (I:Inv X pins σ H s):Inv X pins σ H { s with drawn:=d }:=⟨I.ok,I.os,I.bare,I.base,I.loc,I.cell,I.free,I.freeC,I.pin,I.hok,I.len⟩
theorem sF:∀ (ns acc:List Int),(ns.foldl (fun σ v=>if σ.any (·==v) then σ else σ++[v]) acc).length<=ns.length+acc.length
 | [],acc=>by simp
 | n :: ns,acc=>by
  show (ns.foldl _ (if acc.any (·==n) then acc else acc++[n])).length<=_
  by_cases c:acc.any (·==n)=true
  ·rw[if_pos c]
   have:=sF ns acc
   simp only[Pk]
   omega
  ·rw[if_neg c]
   have:=sF ns (acc++[n])
   simp only[Pk,PB,P8] at this ⊢
   omega
section
variable {F:FT}{G:Str->Option BT.W}
theorem zW {X:Cx}{sc:Pu}{N:List Str} (O:Ok X F G sc N) {ex:O1}{sa:BT.Es}{np zp p pos:Pos} (hg:aV sc "sorted"=true) (hg2:aV sc "set"=true) (hs:noStar ex=true) (hA:PA X [ex] (tDs X F G sa)) :
 PE X (.Call (.Name "sorted" np) [.Call (.Name "set" zp) [ex] [] pos] [] p) (tD X F G (.bi .sset false sa)):=by
 intro pins s σ H Q I q
 have q:=iC q
 refine Call_ (fU (u:=.builtin "sorted") I (aX O hg) (O.blt _ (by decide)) (by decide +kernel) (Rr ?_ (aj rfl) rfl))
 rw[aj (show noStar (.Call (.Name "set" zp) [ex] [] pos)=true from rfl)]
 show wpAny _ _ (Uv ((false,eval (.Call (.Name "set" zp) [ex] [] pos) X.env) :: Rg p (PL [] X.env))) _ _ s
 refine Q3 (Call_ (fU (u:=.type "set") I (aX O hg2) (O.blt _ (by decide)) (by decide +kernel) (Qw (thn (hA pos pins s σ H _ I q) fun us s1 ⟨vs,H1,I1,r1,q1⟩=>?_) (aj hs) rfl)))
 obtain ⟨m,h,ws,z,h',R,rws,e,post⟩:=q1
 obtain ⟨ds,d,e1,e2,⟨_,rfl,rfl⟩ | ⟨_,q,_⟩⟩:=f7 e
 rotate_left
 ·cases q
 have rr:=fz R rws e1
 have hd:∃ xs,ds=[.lst xs]:=by
  match ds,e2 with
  | [.lst xs],_=>exact ⟨xs,rfl⟩
 obtain ⟨xs,rfl⟩:=hd
 rw[BT.p8] at e2
 obtain ⟨ns,g1,g2⟩:=Option.bind_eq_some_iff.mp e2
 by_cases c:ns.length < 64
 rotate_left
 ·rw[if_neg c] at g2;cases g2
 rw[if_pos c] at g2
 cases g2
 obtain ⟨v,rfl,r⟩:=rr.one
 obtain ⟨a,vt,rfl,ha,ra⟩:=r.lst
 rw[iS g1] at ra
 have ev:=fO ra
 subst ev
 obtain ⟨u,rfl,eu⟩:=vals1 r1
 cases eu
 obtain ⟨its,rv,pl,hz⟩:=I1.list ha.sq
 have hi:=intsAre_of rv
 have ln:=rv.length
 rw[Pa] at ln
 have sz:its.toArray.size=ns.length:=by simp;omega
 refine BX.yt (items:=its.toArray) (ns:=ns) (I1.ok.hd O.calm) pl.isList (by simpa using hi) (by rw[sz];unfold Se;omega) fun h2 tk hS hk=>?_
 rw[sz,CZ] at hS
 refine RK ?_
 have dl:=sF ns []
 have dl2:(BT.ded ns).length < 64:=by
  have:(BT.ded ns).length<=ns.length+0:=dl
  omega
 refine BX.sD (s:={ s1 with heap:=h2,toks:=tk }) (ns:=ns) (I1.ok.hd O.calm) hS dl2 fun h3 d p out e k1 k2 k3 k4=>?_
 have ge:s1.heap.objs.size<=p:=by
  obtain ⟨o,_,_,_,ho,_⟩:=hS
  exact PZ (Qk (O7 ho)) k3
 have hv:=jB k1
 have sl:sizeLine=16777216:=T4
 have l2:(BT.sortI (BT.ded ns)).length=(BT.ded ns).length:=(BT.sortI_perm _).length_eq
 exact ⟨.ref _,_,Inv.drew (I1.laid (o:=.lst ((BT.sortI (BT.ded ns)).map V.int)) (t':=tk) (fun b u q=>k2 b u (hk b u q)) ge ⟨by rw[Pa];omega,out.toList,e,hv,k4⟩),rfl,gY R (I1.hok.fresh ge) (qj _) post⟩
end
end BS
end
section
namespace BS
open PySem PySem.Spec PyProof.Rows L2
noncomputable def kh (sc:Pu) (x:Str):Bool:=match sc.names.lookup x with
 | some .local=>true
 | some .cell=>true
 | _=>false
inductive CT (sc:Pu) (N:List Str):List (Nat×Str)->O1->Prop where
 | one {i:Nat}{x:Str}{p:Pos} (h1:N[i]?=some x) (h2:kh sc x=true):CT sc N [(i,x)] (.Name x p)
 | two {i j:Nat}{x y:Str}{p p1 p2:Pos}{k:Nat} (h1:N[i]?=some x) (h2:kh sc x=true) (h3:N[j]?=some y) (h4:kh sc y=true):CT sc N [(i,x),(j,y)] (.Tuple [.Name x p1,.Name y p2] k p)
section
variable {F:FT}{G:Str->Option BT.W}
theorem RS.set {P:Pi}{w:PK}{K:O0}{m:List Addr}{H:Hp}{σ:L2.St}{s:BT.Sl}{i:Nat}{v:V}{z:BT.W} (S:RS P w K m H σ s) (r:RW P w K m H v z):RS P w K m H (σ.set i (some v)) (s.set i (some z)):=by
 refine ⟨by simp[S.len],fun j y e=>?_⟩
 by_cases c:i=j
 ·subst c
  have hl:i < s.length:=by
   rcases Pq i s.length with q | q
   ·exact q
   ·rw[Pj (by simpa using q)] at e;cases e
  rw[Qn hl] at e
  cases e
  exact ⟨v,by rw[Qn (by rw[S.len];exact hl)],r⟩
 ·rw[PV c] at e
  obtain ⟨u,h1,h2⟩:=S.get j y e
  exact ⟨u,by rw[PV c];exact h1,h2⟩
theorem iT {X:Cx}{sc:Pu}{N:List Str} (O:Ok X F G sc N) {x:Str} (h:kh sc x=true):L2.Loc X.env.scope x:=by
 rw[O.hsc]
 unfold kh at h
 unfold L2.Loc
 cases e:sc.names.lookup x with
 | none=>rw[e] at h;cases h
 | some k=>rw[e] at h;cases k<;>first | (exact .inl rfl) | (exact .inr rfl) | cases h
theorem uF {e:O1}{env:Env} (h:iP e=true):∀ x,foldedSetIterable e env x=pure x:=by
 intro x
 cases e<;>first | rfl | cases h
noncomputable def GOk (X:Cx) (tg:List (Nat×Str)) (g:TG):Prop:=∀ (m:List Addr) (H:Hp) (σ:L2.St) (s:BT.Sl) (x:V) (d:BT.D) (ds:List BT.D) (Q:L2.St->Hp->Prop),RS X.prog X.w X.K m H σ s->RD X.K m H x d->BT.target tg.length d=some ds →
 (∀ σ',RS X.prog X.w X.K m H σ' (BT.sets tg ds s)->Q σ' H)->g x σ H Q
theorem sCT {X:Cx}{sc:Pu}{N:List Str} (O:Ok X F G sc N) {tg:List (Nat×Str)}{te:O1} (h:CT sc N tg te) (hf:∀ q∈tg,X.fn q.2=true\/X.env.scope.names.lookup q.2=some .local):∃ g,PG X te g/\GOk X tg g:=by
 cases h with
 | @one i x p h1 h2 =>
  refine ⟨_,nL (i:=i) O.nd (by rw[O.hN];exact h1) (iT O h2) (hf (i,x) (by simp)),?_⟩
  intro m H σ s v d ds Q S r e q
  simp only[Pk,P8,Vo,BT.gx] at e
  cases e
  exact q _ (S.set (.p r))
 | @two i j x y p p1 p2 k h1 h2 h3 h4 =>
  refine ⟨_,Fc (n:=2) O.calm (pN (nL (i:=i) O.nd (by rw[O.hN];exact h1) (iT O h2) (hf (i,x) (by simp))) (pN (nL (i:=j) O.nd (by rw[O.hN];exact h3) (iT O h4) (hf (j,y) (by simp))) Bl)),?_⟩
  intro m H σ s v d ds Q S r e q
  have e:BT.unpack 2 d=some ds:=e
  cases r with
  | @tup a vs dd h r =>
   rw[BT.yE] at e
   split at e
   ·rename_i c
    cases e
    have hl:=r.length
    refine ⟨a,vs,rfl,h.elim (fun q=>.inl q.1) fun ⟨o,its,n,q,_⟩=>.inr ⟨o,its,n,q⟩,by rw[hl];exact c,?_⟩
    cases r with
    | nil=>simp at c
    | @cons v1 d1 vs' ds' ra t =>
     cases t with
     | nil=>simp at c
     | @cons v2 d2 vs2 ds2 rb t2 =>
      cases t2 with
      | cons _ _=>simp at c
      | nil =>
       refine ⟨v1,[v2],rfl,?_⟩
       show Er (pM j) Fb [v2] (σ.set i (some v1)) H Q
       refine ⟨v2,[],rfl,?_⟩
       show Fb [] ((σ.set i (some v1)).set j (some v2)) H Q
       refine ⟨rfl,q _ ?_⟩
       show RS X.prog X.w X.K m H ((σ.set i (some v1)).set j (some v2)) ((s.set i (some (.p d1))).set j (some (.p d2)))
       exact RS.set (RS.set S (.p ra)) (.p rb)
   ·cases e
  | _=>cases e
end
end BS
end
section
namespace BC
open PySem
section
variable {prog:Pi}{w:PK}{A:Qi}{s:O4}
theorem wM {elt target iter:O1}{ifs:List O1}{scope:Pu}{pos:Pos}{it acc:O3}{env:Env}{R:U7->O4->Prop} (I:Nat->O4->Prop)
 (turn:∀ n s,I n s->wpAny (Pw prog w) A (Ud it) (fun r s₁=>match r with
  | none=>R (.ok .next) s₁
  | some v=>wpAny (Pw prog w) A (Tv target it v) (fun _ s₀=>wpAny (Pw prog w) A (U5 target env v) (fun _ s₂ =>
   wpAny (Pw prog w) A (forIn ifs true fun c r=>if r=true then do let ok ← isTrue c env (eval c env);pure (SC ok) else pure (SC r)) (fun ok s₃ =>
    if ok=true then wpAny (Pw prog w) A (eval elt env) (fun x s₄ =>
     wpAny (Pw prog w) A (call (.builtin "list.append") [acc,x]) (fun _ s₅=>∃ m,m < n/\I m s₅) (fun _ _=>False) s₄) (fun _ _=>False) s₃
    else ∃ m,m < n/\I m s₃) (fun _ _=>False) s₂) (fun _ _=>False) s₀) (fun _ _=>False) s₁) (fun _ _=>False) s)
 (n:Nat) (h:I n s):codeAny (Pw prog w) A (.compLoop (.ListComp elt [⟨target,iter,ifs,0⟩] scope pos) 0 it acc env) R s:=by
 refine codeAny_loop rfl I (fun n s hI=>?_) n h
 show wpAny _ A ((compTurn (.ListComp elt [⟨target,iter,ifs,0⟩] scope pos) 0 it acc env).onRaise (fun x=>do noteFrame x env;theTreesLotGoes x)) _ _ s
 refine wpAny_noted ?_
 rw[compTurn_list]
 refine wpAny_bind (VB (wpAny_bind (wpAny_mono (turn n s hI) (fun r s₁ h₁=>?_) fun _ _ h'=>h'.elim)))
 cases r with
 | none=>exact wpAny_pure h₁
 | some v =>
  refine wpAny_bind (wpAny_mono h₁ (fun _ s₀ h₀'=>?_) fun _ _ h'=>h'.elim)
  refine wpAny_bind (wpAny_mono h₀' (fun _ s₂ h₂=>wpAny_bind (wpAny_mono h₂ (fun ok s₃ h₃=>?_) fun _ _ h'=>h'.elim)) fun _ _ h'=>h'.elim)
  cases ok with
  | false=>exact wpAny_pure ⟨rfl,h₃⟩
  | true =>
   exact wpAny_bind (wpAny_bind (wpAny_mono h₃ (fun x s₄ h₄=>wpAny_bind (wpAny_mono h₄ (fun _ s₅ h₅=>wpAny_pure (wpAny_pure ⟨rfl,h₅⟩)) fun _ _ h'=>h'.elim)) fun _ _ h'=>h'.elim))
end
noncomputable def cy (cells:List (Str×Addr)):List (Str×Rm)->List (Str×Addr)->List (Str×Addr)
 | [],acc=>acc
 | (n,k) :: r,acc=>if k==.free then (match cells.lookup n with | some c=>cy cells r ((n,c) :: acc) | none=>cy cells r acc) else cy cells r acc
noncomputable def sG (cells:List (Str×Addr)) (names:List (Str×Rm)):Prop:=∀ x∈names,x.2=.free->∃ c,cells.lookup x.1=some c
theorem lD {env:Env}:∀ (names:List (Str×Rm)) (acc:List (Str×Addr)),sG env.cells names →
 (forIn names acc fun x (r:List (Str×Addr))=>(if x.2==.free then do let c ← cellOf env x.1;pure (SC ((x.1,c) :: r)) else pure (SC r):Sem (ForInStep (List (Str×Addr)))))=pure (cy env.cells names acc)
 | [],acc,_=>rfl
 | (n,k) :: r,acc,h=>by
  have ih:=fun acc=>lD (env:=env) r acc fun x hx=>h x (Pb _ hx)
  rw[List.forIn_cons]
  by_cases c:k=.free
  ·subst c
   obtain ⟨a,e⟩:=h (n,.free) Pf rfl
   have e:env.cells.lookup n=some a:=e
   simp only[cy,e]
   show (cellOf env n >>= _) >>= _=_
   unfold cellOf
   rw[e]
   exact ih _
  ·have cb:(k==Qe)=false:=by simpa using c
   simp only[cy,cb]
   exact ih _
theorem jM {α β:Type}{m m':Sem α}{f:α->Sem β} (h:m=m'):(m >>= f)=(m' >>= f):=by rw[h]
theorem lE {scope:Pu}{env:Env} (h:sG env.cells scope.names):closureFor scope env=pure (cy env.cells scope.names []):=by
 have:=lD (env:=env) scope.names [] h
 unfold closureFor
 exact (jM this).trans rfl
theorem lF {cells:List (Str×Addr)}:∀ {names:List (Str×Rm)}{acc:List (Str×Addr)},(∀ x c,acc.lookup x=some c->cells.lookup x=some c)->∀ x c,(cy cells names acc).lookup x=some c->cells.lookup x=some c
 | [],acc,h,x,c,e=>h x c e
 | (n,k) :: r,acc,h,x,c,e=>by
  rw[cy] at e
  split at e
  ·split at e
   ·rename_i a ea
    refine lF (fun y b q=>?_) x c e
    rw[Qj] at q
    split at q
    ·rename_i hy
     have:y=n:=by simpa using hy
     subst this
     cases q;exact ea
    ·exact h y b q
   ·exact lF h x c e
  ·exact lF h x c e
theorem kF {cells:List (Str×Addr)}{x:Str}:∀ {names:List (Str×Rm)}{acc:List (Str×Addr)},(∃ c,acc.lookup x=some c)->∃ c,(cy cells names acc).lookup x=some c
 | [],acc,h=>h
 | (n,k) :: r,acc,h=>by
  rw[cy]
  split
  ·split
   ·refine kF ?_
    rw[Qj]
    split
    ·exact ⟨_,rfl⟩
    ·exact h
   ·exact kF h
  ·exact kF h
theorem lG {cells:List (Str×Addr)}{x:Str}:∀ {names:List (Str×Rm)}{acc:List (Str×Addr)},(x,Qe)∈names->(∃ c,cells.lookup x=some c)->∃ c,(cy cells names acc).lookup x=some c
 | [],acc,h,_=>nomatch h
 | (n,k) :: r,acc,h,q=>by
  rw[cy]
  rcases List.mem_cons.mp h with e | e
  ·cases e
   obtain ⟨c,ec⟩:=q
   rw[if_pos (by rfl),ec]
   refine kF ?_
   exact ⟨c,by simp⟩
  ·split
   ·split
    ·exact lG e q
    ·exact lG e q
   ·exact lG e q
end BC
end
section
namespace BS
open PySem PySem.Spec PyProof.Rows L2
noncomputable def lH (F:FT) (G:Str->Option BT.W) (sc:Pu) (N:List Str) (cond:BT.Es) (ifs:List O1):Prop :=
 (cond=.nil/\ifs=[])\/∃ c c',cond=.cons c .nil/\ifs=[c']/\∀ X',Ok X' F G sc N->PT X' c' (tDT X' F G c)
structure qx (sc:Pu) (N tg:List Str) (fv:List (Nat×Str)) (scope:Pu):Prop where
 k1:scope.kind=.function
 k2:sc.kind=.function
 cell:∀ y∈scope.names,y.2≠.cell
 loc:∀ y∈scope.names,y.2=.local->scope.names.lookup y.1=some .local
 free:∀ y∈scope.names,y.2=.free->sc.names.lookup y.1=some .cell
 fvs:∀ q∈fv,N[q.1]?=some q.2/\(q.2,Qe)∈scope.names/\sc.names.lookup q.2=some .cell/\(aT scope sc).names.lookup q.2=some .cell
 nd:(tg++fv.map (·.2)).Nodup
theorem nB:∀ {l:List Str},iQ l=true->l.Nodup
 | [],_=>Sq
 | x :: r,h=>by
  simp only[iQ,O5,RM] at h
  refine List.nodup_cons.mpr ⟨fun z=>?_,nB h.2⟩
  have:=h.1
  simp[z] at this
theorem Kg {sc:Pu}{N tg:List Str}{fv:List (Nat×Str)}{scope:Pu} (h:iR sc N tg fv scope=true):qx sc N tg fv scope:=by
 simp only[iR,O5] at h
 obtain ⟨⟨⟨⟨⟨⟨h1,h2⟩,h3⟩,h4⟩,h5⟩,h6⟩,h7⟩:=h
 rw[Qx] at h3 h4 h5 h6
 refine ⟨eq_of_beq h1,eq_of_beq h2,fun y hy e=>?_,fun y hy e=>?_,fun y hy e=>?_,fun q hq=>?_,nB h7⟩
 ·have:=h3 y hy
  rw[e] at this;simp at this
 ·have:=h4 y hy
  rw[e] at this;simpa using this
 ·have:=h5 y hy
  rw[e] at this;simpa using this
 ·have:=h6 q hq
  simp only[O5] at this
  obtain ⟨⟨⟨a,b⟩,c⟩,d⟩:=this
  exact ⟨by simpa using a,by simpa using b,by simpa using c,by simpa using d⟩
theorem iU {sc:Pu}{x:Str}{k:Rm} (hk:k=.cell\/k=.free):∀ {names:List (Str×Rm)},(∀ y∈names,y.2≠.cell) →
 (names.map fun (n,k)=>if (k==Qe&&sc.kind==.function&&sc.names.lookup n==some .cell) then (n,Te) else (n,k)).lookup x=some k->(x,Qe)∈names
 | [],_,h=>by simp at h
 | (n,q) :: r,hc,h=>by
  have ih:=iU (sc:=sc) (x:=x) hk (names:=r) fun y hy=>hc y (Pb _ hy)
  replace h:Rn x ((if (q==Qe&&sc.kind==.function&&sc.names.lookup n==some .cell)=true then (n,Te) else (n,q)) :: (r.map fun (n,k)=>if (k==Qe&&sc.kind==.function&&sc.names.lookup n==some .cell) then (n,Te) else (n,k)))=some k:=h
  have go:∀ (q':Rm),(q'=q\/(q'=.cell/\q=.free))->Rn x ((n,q') :: (r.map fun (n,k)=>if (k==Qe&&sc.kind==.function&&sc.names.lookup n==some .cell) then (n,Te) else (n,k)))=some k->(x,Qe)∈(n,q) :: r:=by
   intro q' hq gl
   rw[Qj] at gl
   split at gl
   ·rename_i hx
    have hx:x=n:=by simpa using hx
    subst hx
    have e:q'=k:=Pn gl
    have hqf:q=.free:=by
     rcases hq with rfl | ⟨_,e2⟩
     ·rcases hk with z | z
      ·exact absurd (e.trans z) (hc (x,q') Pf)
      ·exact e.trans z
     ·exact e2
    rw[hqf];exact Pf
   ·exact Pb _ (ih gl)
  by_cases c:(q==Qe&&sc.kind==.function&&sc.names.lookup n==some .cell)=true
  ·rw[if_pos c] at h
   refine go .cell (.inr ⟨rfl,?_⟩) h
   simp only[O5] at c
   exact eq_of_beq c.1.1
  ·rw[if_neg c] at h
   exact go q (.inl rfl) h
noncomputable def blk (X:Cx) (N':List Str) (s2:O4) (H1:Hp) (scope:Pu) (C:Addr) (fp:List Addr):Cx :=
 { X with N:=N',s₀:=s2,H₀:=H1,env:=VH scope (BC.cy X.env.cells scope.names []) C X.env,outer:=X.stack,stack:=X.stack,ex:=fp,fn:=fun _=>false,pn:=[],xe:=fun _ _=>False }
section
variable {X:Cx}{F:FT}{G:Str->Option BT.W}{sc:Pu}{N:List Str}{pins:List (Addr×Obj)}{σ:L2.St}{H1:Hp}{s2:O4}
theorem j0 {scope:Pu}{x:Str}{c:Addr} (e:(BC.cy X.env.cells scope.names []).lookup x=some c):X.env.cells.lookup x=some c :=
 BC.lF (fun _ _ z=>by simp at z) x c e
theorem qy (hsc:X.env.scope=sc) {scope:Pu}{C:Addr} (x:Str):(VH scope (BC.cy X.env.cells scope.names []) C X.env).kindOf x=(aT scope sc).names.lookup x:=by
 subst hsc;rfl
theorem uG (I1:Inv X pins σ H1 s2) (hsc:X.env.scope=sc) {scope:Pu}{tg:List Str}{fv:List (Nat×Str)} (cf:qx sc N tg fv scope) {x:Str} (hx:(x,Qe)∈scope.names):∃ c,(BC.cy X.env.cells scope.names []).lookup x=some c:=by
 refine BC.lG hx (I1.ok.has x (.inl ?_))
 have:=cf.free _ hx rfl
 rw[← hsc] at this
 exact this
theorem G4 (I1:Inv X pins σ H1 s2) (hsc:X.env.scope=sc) {scope:Pu}{tg:List Str}{fv:List (Nat×Str)} (cf:qx sc N tg fv scope) {N':List Str}{C:Addr}{fp:List Addr} (hC:C=s2.heap.objs.size+1)
 (hf:∀ b∈fp,mj X pins H1 b) (hlt:∀ b∈fp,b < s2.heap.objs.size):(blk X N' s2 H1 scope C fp).Ok where
 mod:=I1.ok.mod
 kind:=cf.k1
 glob:=I1.ok.glob
 blt:=I1.ok.blt
 above:=by show s2.heap.objs.size<=C;rw[hC];exact QS _
 inj:=fun x y c a b=>I1.ok.inj x y c (j0 a) (j0 b)
 has:=fun x hx=>by
  refine uG I1 hsc cf ?_
  have hx':(aT scope sc).names.lookup x=some .cell\/(aT scope sc).names.lookup x=some .free:=by
   rw[← qy hsc (C:=C)];exact hx
  rcases hx' with e | e
  ·exact iU (.inl rfl) cf.cell e
  ·exact iU (.inr rfl) cf.cell e
 cab:=fun x c z=>by cases z
 hd:=I1.ok.hd
 frames:=I1.ok.frames
 stk:=.inl rfl
 exf:=fun b hb=>⟨fun z=>by
  have l:=hlt b hb
  have z:b=C:=z
  rw[z,hC] at l
  exact absurd l (Nat.not_lt.mpr (QS _)),fun x c e=>(hf b hb).2.2.2.2.1 x c (j0 e)⟩
 bs:=I1.bs
 bsz:=PZ I1.ok.bsz I1.sz
 noex:=fun b o e hb=>by
  have q:=(I1.ok.bs b o e).1
  rcases (hf b hb).2.2.2.1 with z | z
  ·exact I1.ok.noex b o e z
  ·exact absurd (O7 q) (Nat.not_lt.mpr z)
 exfs:=fun b hb z=>by
  rcases List.mem_cons.mp (I1.kL b z) with e | e
  ·exact (hf b hb).2.1 e
  ·exact (hf b hb).2.2.1 e
 iI:=I1.stack
 frf:=I1.nK
end
noncomputable def lobj (us:List O3) (n:Nat):Obj:={ cls:=.type "list",data:=.seq us.toArray n }
section
variable {X:Cx}{F:FT}{G:Str->Option BT.W}{sc:Pu}{N:List Str}{pins:List (Addr×Obj)}{σ:L2.St}{H1:Hp}{s2:O4}
noncomputable def iV (n:Nat) (σ:L2.St) (fv:List (Nat×Str)):L2.St:=Pv n none++fv.map fun q=>(σ[q.1]?).getD none
theorem C2 (I1:Inv X pins σ H1 s2) (hsc:X.env.scope=sc) (hN:X.N=N) {scope:Pu}{tg:List Str}{fv:List (Nat×Str)} (cf:qx sc N tg fv scope) {C:Addr}{fp:List Addr} (hC:C=s2.heap.objs.size+1)
 (hf:∀ b∈fp,mj X pins H1 b) (hlt:∀ b∈fp,b < s2.heap.objs.size) {h1:Heap}{tk:Nat}{m:Str->Option O3} (old:∀ b o,s2.heap.get? b=some o->h1.get? b=some o) (hns:h1.Ns C m) (hD:h1.get? s2.heap.objs.size=some (lobj [] 0)) :
 Inv (blk X (tg++fv.map (·.2)) s2 H1 scope C fp) [(s2.heap.objs.size,lobj [] 0)] (iV tg.length σ fv) H1 { s2 with heap:=h1,toks:=tk } where
 ok:=G4 I1 hsc cf hC hf hlt
 os:=rfl
 bare:=I1.bare
 base:=Un.kept old
 loc:=by
  refine ⟨m,hns,fun i x v e1 e2 e3=>?_⟩
  have e1:(tg++fv.map (·.2))[i]?=some x:=e1
  unfold iV at e2
  by_cases c:i < tg.length
  ·rw[Pd (by simpa using c),RB,if_pos c] at e2
   cases e2
  ·rw[PM (by simpa using c)] at e2
   rw[PM (by simpa using c)] at e1
   simp only[RT,Px] at e1 e2
   cases g:fv[i - tg.length]? with
   | none=>rw[g] at e1;cases e1
   | some q =>
    rw[g] at e1 e2
    simp only[Option.map_some,Sg] at e1 e2
    subst e1
    obtain ⟨f1,f2,f3,f4⟩:=cf.fvs q (Ph g)
    have e2':σ[q.1]?=some (some v):=by
     cases gg:σ[q.1]? with
     | none=>rw[gg] at e2;cases e2
     | some o=>rw[gg] at e2;simp only[VO] at e2;rw[e2]
    obtain ⟨m0,hn0,hl0⟩:=I1.loc
    obtain ⟨u,ru,lk⟩:=hl0 q.1 q.2 v (by rw[hN];exact f1) e2' (by rw[hsc];exact .inr (.inl f3))
    refine ⟨u,ru,?_⟩
    have kc:X.env.kindOf q.2=some .cell:=by
     show X.env.scope.names.lookup q.2=_
     rw[hsc];exact f3
    rcases lk with ⟨k,_⟩ | ⟨k,c,ec,o,ho,hd⟩
    ·rw[kc] at k;cases k
    ·obtain ⟨c',ec'⟩:=uG I1 hsc cf f2
     have:=j0 ec'
     rw[ec] at this
     cases this
     refine .inr ⟨.inl ?_,c,ec',o,old c o ho,hd⟩
     show (VH scope (BC.cy X.env.cells scope.names []) C X.env).kindOf q.2=_
     rw[qy hsc];exact f4
 cell:=fun x c e=>by
  obtain ⟨v,o,ho,hd⟩:=I1.cell x c (j0 e)
  exact ⟨v,o,old c o ho,hd⟩
 free:=I1.hok.fresh (by show s2.heap.objs.size<=C;rw[hC];exact QS _)
 freeC:=fun x c e=>I1.freeC x c (j0 e)
 pin:=fun p hp=>by
  have e:p=(s2.heap.objs.size,lobj [] 0):=by
   have:p∈[]++[(s2.heap.objs.size,lobj [] 0)]:=hp
   simpa using this
  subst e
  refine ⟨hD,I1.hok.fresh (O8 _),?_,?_,fun v z=>by cases (show Data.seq _ _=Data.cell v from z)⟩
  ·show s2.heap.objs.size≠C
   rw[hC];exact PD (Q2 _)
  ·intro z
   obtain ⟨_,o,ho,_⟩:=I1.stack.mem z
   exact absurd (O7 ho) (QA _)
 hok:=I1.hok.kept old
 len:=by
  show (iV tg.length σ fv).length=(tg++fv.map (·.2)).length
  simp[iV]
end
noncomputable def tgI:List Str->List (Nat×Str)
 | [x]=>[(0,x)]
 | [x,y]=>[(0,x),(1,y)]
 | _=>[]
theorem oO {te:O1}{x:Str} (h:nmE te=some x):∃ p,te=.Name x p:=by
 cases te with
 | Name y p=>cases h;exact ⟨p,rfl⟩
 | _=>exact absurd (show (none:Option Str)=some _ from h) (fun z=>nomatch z)
theorem zX {te a:O1}{l:List O1} (h:Gq te=a :: l):∃ k p,te=.Tuple (a :: l) k p:=by
 cases te with
 | Tuple xs k p=>cases h;exact ⟨k,p,rfl⟩
 | _=>exact absurd (show ([]:List O1)=_ :: _ from h) (fun z=>nomatch z)
theorem C3 {sc:Pu}{tg:List Str}{fs:List Str}{te:O1} (h:qi sc tg te=true):CT sc (tg++fs) (tgI tg) te/\(tgI tg).length=tg.length/\∀ q∈tgI tg,sc.names.lookup q.2=some .local:=by
 have st:∀ {x:Str},sc.names.lookup x=some .local->kh sc x=true:=fun e=>by unfold kh;rw[e]
 unfold qi at h
 rw[O5,Rf,O5,Qx] at h
 obtain ⟨h,ha⟩:=h
 have lo:∀ {x},x∈tg->sc.names.lookup x=some .local:=fun {x} hx=>eq_of_beq (ha x hx)
 rcases h with h | ⟨h1,h2⟩
 ·have e:=eq_of_beq h
  cases tg with
  | nil=>exact absurd (congrArg SE e) (by simp)
  | cons x r =>
   cases r with
   | cons _ _=>exact absurd (congrArg SE e) (by simp)
   | nil =>
    obtain ⟨p,rfl⟩:=oO (SG e).symm
    have l:sc.names.lookup x=some .local:=lo Pf
    exact ⟨.one rfl (st l),rfl,fun q hq=>by simp[tgI] at hq;subst hq;exact l⟩
 ·have e:=eq_of_beq h2
  obtain ⟨x,y,rfl⟩:∃ x y,tg=[x,y]:=by
   have h1:=eq_of_beq h1
   cases tg with
   | nil=>simp at h1
   | cons x r =>
    cases r with
    | nil=>simp at h1
    | cons y r =>
     cases r with
     | nil=>exact ⟨x,y,rfl⟩
     | cons _ _=>simp at h1
  cases g:Gq te with
  | nil=>rw[g] at e;exact absurd (congrArg SE e) (by simp)
  | cons a l =>
   rw[g] at e
   cases l with
   | nil=>exact absurd (congrArg SE e) (by simp)
   | cons b r =>
    cases r with
    | cons _ _=>exact absurd (congrArg SE e) (by simp)
    | nil =>
     have e1:some x=nmE a:=SG e
     have e2:some y=nmE b:=SG (List.tail_eq_of_cons_eq e)
     obtain ⟨p1,rfl⟩:=oO e1.symm
     obtain ⟨p2,rfl⟩:=oO e2.symm
     obtain ⟨k,p,rfl⟩:=zX g
     have l1:sc.names.lookup x=some .local:=lo Pf
     have l2:sc.names.lookup y=some .local:=lo (Pb _ Pf)
     exact ⟨.two rfl (st l1) rfl (st l2),rfl,fun q hq=>by
      simp[tgI] at hq
      rcases hq with rfl | rfl
      ·exact l1
      ·exact l2⟩
theorem C4 {tg:List Str}{d0:BT.D}{ds:List BT.D}{sl fs:BT.Sl} (h:(tgI tg).length=tg.length) (h0:tg≠[]) (hd:BT.target tg.length d0=some ds) (hl:sl.length=tg.length+fs.length) (hr:sl.drop tg.length=fs) :
 BT.sets (tgI tg) ds sl=ds.map BT.cJ++fs/\(ds.map BT.cJ++fs).length=tg.length+fs.length/\(ds.map BT.cJ++fs).drop tg.length=fs:=by
 match tg,h,h0 with
 | [],_,h0=>exact absurd rfl h0
 | [x],_,_ =>
  simp only[Pk,P8,Vo,BT.gx] at hd hl hr
  cases hd
  match sl,hl,hr with
  | a :: r,hl,hr =>
   simp only[VA,Tg] at hr
   subst hr
   exact ⟨rfl,by simp[Nat.add_comm],rfl⟩
 | [x,y],_,_ =>
  have hd:BT.unpack 2 d0=some ds:=hd
  cases d0<;>simp only[BT.unpack] at hd<;>try contradiction
  split at hd
  ·rename_i c
   cases hd
   match ds,c with
   | [d1,d2],_ =>
    simp only[Pk,P8,Vo] at hl hr
    match sl,hl,hr with
    | a :: b :: r,hl,hr =>
     simp only[VA,Tg] at hr
     subst hr
     exact ⟨rfl,by simp;omega,rfl⟩
    | [a],hl,_=>simp at hl;omega
    | [],hl,_=>simp at hl;omega
  ·cases hd
 | x :: y :: z :: r,h,_=>simp[tgI] at h
theorem jN {s:BT.Sl}:∀ {fv:List (Nat×Str)}{fs:BT.Sl},BT.frees s fv=some fs->fs.length=fv.length/\∀ (i:Nat) (q:Nat×Str),fv[i]?=some q->fs[i]?=s[q.1]?
 | [],fs,e=>by simp[BT.frees] at e;subst e;exact ⟨rfl,fun i q z=>by simp at z⟩
 | q :: r,fs,e=>by
  simp only[BT.frees] at e
  cases g:s[q.1]? with
  | none=>rw[g] at e;cases e
  | some w =>
   rw[g] at e
   obtain ⟨fs',e1,e2⟩:=aA e
   subst e2
   obtain ⟨h1,h2⟩:=jN e1
   refine ⟨by simp[h1],fun i p z=>?_⟩
   cases i with
   | zero=>simp at z;subst z;simp[g]
   | succ i=>simpa using h2 i p (by simpa using z)
theorem wN {P:Pi}{w:PK}{K:O0}{m:List Addr}{H:Hp}{σ:L2.St}{s fs:BT.Sl}{fv:List (Nat×Str)}{n:Nat} (S:RS P w K m H σ s) (hf:BT.frees s fv=some fs):RS P w K m H (iV n σ fv) (Pv n none++fs):=by
 obtain ⟨h1,h2⟩:=jN hf
 refine ⟨by simp[iV,h1],fun i y e=>?_⟩
 by_cases c:i < n
 ·rw[Pd (by simpa using c),RB,if_pos c] at e
  cases e
 ·rw[PM (by simpa using c)] at e
  simp only[RT] at e
  have hi:i - n < fv.length:=by
   rw[← h1]
   rcases Pq (i - n) fs.length with z | z
   ·exact z
   ·rw[Pj z] at e;cases e
  have g:=O9 hi
  rw[h2 _ _ g] at e
  obtain ⟨v,hv,r⟩:=S.get _ _ e
  refine ⟨v,?_,r⟩
  unfold iV
  rw[PM (by simpa using c)]
  simp only[RT,Px,g,Option.map_some,hv,VO]
theorem C6 {f:List BT.D->BT.HH->Option (Option BT.D×BT.HH)}{n:Nat}{d:BT.D}{r rest:List BT.D}{h h2:BT.HH} (e:BT.aS f n (d :: r) h=some (rest,h2)) :
 ∃ xs o hA rest',BT.target n d=some xs/\f xs h=some (o,hA)/\BT.aS f n r hA=some (rest',h2)/\rest=(match o with | some x=>x :: rest' | none=>rest'):=by
 rw[BT.aS] at e
 cases g:BT.target n d with
 | none=>rw[g] at e;cases e
 | some xs =>
  rw[g] at e
  obtain ⟨o,hA,e1,e2⟩:=ai e
  unfold BT.v7 at e2
  obtain ⟨rest',h3,e3,e4⟩:=ai e2
  unfold BT.tU at e4
  cases e4
  exact ⟨xs,o,hA,rest',rfl,e1,e3,rfl⟩
theorem Un.behind {fs ex:List Addr}{H H' H2:Hp}{h h1 h2:Heap} (u:Un fs ex H H' h h1) (a:∀ b,b < h.objs.size->H2 b=H' b) (lt:∀ b o,H b=some o->b < h.objs.size) (k:∀ b o,b < h.objs.size->h1.get? b=some o->h2.get? b=some o):Un fs ex H H2 h h2 where
 keep:=fun b o e n c d=>k b o (O7 e) (u.keep b o e n c d)
 slot:=fun b o e n c d=>by obtain ⟨sl,q⟩:=u.slot b o e n c d;exact ⟨sl,k b _ (O7 e) q⟩
 free:=fun b o e n d=>by rw[a b (O7 e)];exact u.free b o e n d
 there:=fun b o e d=>by obtain ⟨o',q⟩:=u.there b o e d;exact ⟨o',k b o' (O7 e) q⟩
 tups:=fun b xs e=>by rw[a b (lt b _ e)];exact u.tups b xs e
 frzs:=fun b o w e=>by rw[a b (lt b _ e)];exact u.frzs b o w e
 tbls:=fun b ps e=>by rw[a b (lt b _ e)];exact u.tbls b ps e
section
variable {X:Cx}{F:FT}{G:Str->Option BT.W}{sc:Pu}{N:List Str}
theorem G5 (O:Ok X F G sc N) {scope:Pu}{tg:List Str}{fv:List (Nat×Str)} (cf:qx sc N tg fv scope) {s2:O4}{H1:Hp}{C:Addr}{fp:List Addr} :
 Ok (blk X (tg++fv.map (·.2)) s2 H1 scope C fp) F G (aT scope sc) (tg++fv.map (·.2)) where
 hsc:=by have:=O.hsc;subst this;rfl
 hN:=rfl
 nd:=cf.nd
 calm:=O.calm
 hu:=O.hu
 own:=TU
 glob:=O.glob
 call:=O.call
 meth:=O.meth
 mkc:=O.mkc
 blt:=O.blt
 lam:=O.lam
 lamx:=fun h=>absurd (show false=true from h "") (by decide)
noncomputable abbrev LI (X:Cx) (F:FT) (G:Str->Option BT.W) (scope:Pu) (tg:List Str) (fv:List (Nat×Str)) (cond:BT.Es) (elt:BT.E) (s2:O4) (H1:Hp) (C:Addr) (fp:List Addr) (tn:Nat->Heap->Prop) (m1:List Addr) (ds outs:List BT.D) (fs:BT.Sl) (h2:BT.HH) (n:Nat) (s:O4):Prop :=
 ∃ (i:Nat) (σ':L2.St) (H':Hp) (m':List Addr) (hh:BT.HH) (out rest:List BT.D) (vs:List V) (us:List O3) (nn:Nat) (sl:BT.Sl),
  i<=ds.length/\n=ds.length - i/\Inv (blk X (tg++fv.map (·.2)) s2 H1 scope C fp) [(s2.heap.objs.size,lobj us nn)] σ' H' s/\tn i s.heap/\(∀ b∈fp,H' b=none)/\Ext m1 H1 m' H'/\RH X.K m' H' hh ∧
  RS X.prog X.w X.K m' H' σ' sl/\sl.length=tg.length+fs.length/\sl.drop tg.length=fs/\au vs us/\RDs X.K m' H' vs out/\BT.aS (BT.cU (BT.evs F G cond) (BT.ev F G elt) fs) tg.length (ds.drop i) hh=some (rest,h2)/\out++rest=outs
structure Apart (X:Cx) (pins:List (Addr×Obj)) (H:Hp) (C:Addr):Prop where
 fr:H C=none
 lo:C≠X.env.locals
 ab:X.s₀.heap.objs.size<=C
 ce:∀ x c,X.env.cells.lookup x=some c->c≠C
 pi:∀ p∈X.pn++pins,p.1≠C
theorem nC (O:Ok X F G sc N) {mu:Bool}{sr:BT.Sr}{sa:BT.Es}{tg:List Str}{fv:List (Nat×Str)}{cond:BT.Es}{elt:BT.E}{te iter elt':O1}{ifs:List O1}{scope:Pu}{pos:Pos}
 (hk:iR sc N tg fv scope=true) (ht:qi (aT scope sc) tg te=true) (hset:iP iter=true) (hI:PI X te iter (iD X F G sr sa)) (hC:lH F G (aT scope sc) (tg++fv.map (·.2)) cond ifs)
 (hE:∀ X',Ok X' F G (aT scope sc) (tg++fv.map (·.2))->PE X' elt' (tD X' F G elt)):∀ (pins:List (Addr×Obj)) (s:O4) (σ:L2.St) (H:Hp) (Q:VK) (use:Option (O3->Sem Unit)) (Q':O3->O4->Prop),Inv X pins σ H s->tD X F G (.comp mu sr sa tg fv cond elt) σ H Q →
 (∀ (s6:O4) (H6:Hp) (C D:Addr) (m:Str->Option O3),Inv X pins σ H6 s6->s6.heap.Ns C m->Apart X pins H6 C->Q (.ref D) H6->compPost (Pw X.prog X.w) X.A X.xe use Q' (.ref D) C (.ok .next) s6) →
 wpAny (Pw X.prog X.w) X.A (comprehension (.ListComp elt' [⟨te,iter,ifs,0⟩] scope pos) scope X.env (firstIterPos [⟨te,iter,ifs,0⟩] pos) (VF []) false (eval iter X.env) use) Q' X.xe s:=by
 have cf:=Kg hk
 obtain ⟨ct,tl,tloc⟩:=C3 (fs:=fv.map (·.2)) ht
 have t0:tg≠[]:=by
  rintro rfl
  simp[qi] at ht
 intro pins s σ H Q use Q' I q hfin
 obtain ⟨m,s',h,z,h',R,S,ee,post⟩:=q
 simp only[BT.ev] at ee
 obtain ⟨ws,h1,e1,e2⟩:=ai ee
 unfold BT.yH at e2
 cases g1:(BT.rds ws h1).bind (BT.fE sr) with
 | none=>rw[g1] at e2;cases e2
 | some ds =>
  cases g2:BT.frees s' fv with
  | none=>rw[g1,g2] at e2;cases e2
  | some fs =>
   rw[g1,g2] at e2
   simp only at e2
   by_cases ca:BT.gy ws=true
   case neg=>rw[if_neg ca] at e2;cases e2
   rw[if_pos ca] at e2
   obtain ⟨outs,h2,e3,e4⟩:=ai e2
   unfold BT.k9 at e4
   by_cases cl:outs.length<=BT.lim
   case neg=>rw[if_neg cl] at e4;cases e4
   rw[if_pos cl] at e4
   have ez:BT.new mu outs h2=(z,h'):=Pn e4
   have hfree:BC.sG X.env.cells scope.names:=fun x hx e=>I.ok.has x.1 (.inl (by
    have:=cf.free x hx e
    show X.env.scope.names.lookup x.1=_
    rw[O.hsc];exact this))
   refine wpAny_comprehension_free (use:=use) rfl (uF hset) (BC.lE hfree) cf.k1 cf.loc
    (thn (hI pins s σ H (fun J H1=>∃ m1,Ext m H m1 H1/\RH X.K m1 H1 h1/\wF X.K J m1 H1 ds) I ⟨m,s',h,ws,h1,ds,R,S,e1,g1,ca,fun H1 m1 J x1 R1 it=>⟨m1,x1,R1,it⟩⟩) fun v s1 hv=>thn hv fun itv s2 h2'=>?_)
   obtain ⟨it,fp,tn,J,H1,rfl,I1,T,st,hf,m1,x1,R1,ito⟩:=h2'
   have hlt:∀ b∈fp,b < s2.heap.objs.size:=fun b hb=>by
    obtain ⟨o,ho,_⟩:=T.obj 0 _ st b hb
    exact O7 ho
   refine PJ (wpAny_newFunctionEnv cf.cell (by intro y hy;simp at hy) (fun h3 hns hsb=>?_) cf.k1)
   dsimp only at hns hsb ⊢
   generalize hH2:s2.heap.push { cls:=.type "list",dict:=none,data:=.seq ([]:List O3).toArray }=H2 at hns hsb ⊢
   have hCs:H2.objs.size=s2.heap.objs.size+1:=by rw[← hH2,QC]
   have old:∀ b o,s2.heap.get? b=some o->h3.get? b=some o:=fun b o e=>hsb.extBut b o (by rw[hCs];exact PD (T7 (O7 e))) (O2 _ (hH2 ▸ O2 _ e))
   have hacc:h3.get? s2.heap.objs.size=some (lobj [] 0):=hsb.extBut _ _ (by rw[hCs];exact PD (Q2 _)) (O2 _ (hH2 ▸ Pc _ rfl))
   have I4:=C2 (tk:=s2.toks+([]:List (Str×O3)).length) I1 O.hsc O.hN cf hCs hf hlt old hns hacc
   have O':=G5 (s2:=s2) (H1:=H1) (C:=H2.objs.size) (fp:=fp) O cf
   obtain ⟨g,hg1,hg2⟩:=sCT O' ct fun q hq=>.inr (by rw[O'.hsc];exact tloc q hq)
   have hfl:fs.length=fv.length:=(jN g2).1
   have stat:∀ {H':Hp}{o:Obj},(∀ b∈fp,H' b=none)->∀ b∈fp,mj (blk X (tg++fv.map (·.2)) s2 H1 scope H2.objs.size fp) [(s2.heap.objs.size,o)] H' b:=fun {H' o} hn b hb=>by
    refine ⟨hn b hb,?_,?_,.inl hb,fun x c e=>(hf b hb).2.2.2.2.1 x c (j0 e),fun p hp=>?_⟩
    ·show b≠H2.objs.size
     rw[hCs];exact PD (T7 (hlt b hb))
    ·intro zz
     rcases List.mem_cons.mp (I1.kL b zz) with e | e
     ·exact (hf b hb).2.1 e
     ·exact (hf b hb).2.2.1 e
    ·have hp':p=(s2.heap.objs.size,o):=by
      have:p∈[]++[(s2.heap.objs.size,o)]:=hp
      simpa using this
     rw[hp']
     show s2.heap.objs.size≠b
     exact QX (hlt b hb)
   have loop:∀ s4:O4,s4={ s2 with heap:=h3,toks:=s2.toks+([]:List (Str×O3)).length } →
    codeAny (Pw X.prog X.w) X.A (.compLoop (.ListComp elt' [⟨te,iter,ifs,0⟩] scope pos) 0 (.ref it) (.ref s2.heap.objs.size) (VH scope (BC.cy X.env.cells scope.names []) H2.objs.size X.env))
     (compPost (Pw X.prog X.w) X.A X.xe use Q' (.ref s2.heap.objs.size) H2.objs.size) s4:=by
    rintro s4 rfl
    refine BC.wM (LI X F G scope tg fv cond elt s2 H1 H2.objs.size fp tn m1 ds outs fs h2) ?_
     ds.length ⟨0,_,H1,m1,h1,[],outs,[],[],0,_,P0 _,rfl,I4,T.keep 0 _ _ st (fun b hb o e=>old b o e),fun b hb=>(hf b hb).1,.refl _ _,R1,wN (S.ext x1) g2,by simp,by simp,.nil,.nil,by rw[Tg];exact e3,rfl⟩
    rintro n s5 ⟨i,σ5,H5,m5,hh,out,rest,vs,us,nn,sl,hi,rfl,I5,st5,fr5,x5,R5,S5,sl1,sl2,rv5,rd5,go5,ou5⟩
    by_cases c:i < ds.length
    ·rw[UK c] at go5
     obtain ⟨xs,o,hA,rest',eT,eF,eG,eR⟩:=C6 go5
     refine thn (T.item (blk X (tg++fv.map (·.2)) s2 H1 scope H2.objs.size fp) rfl rfl rfl O.calm i _ s5 σ5 H5 _ I5 (stat fr5) st5 (ito.go m5 H5 i x5 c)) fun r s6 hr=>?_
     obtain ⟨u,rfl,hr⟩:=hr
     refine thn hr fun _ s7 ⟨x,H7,I7,r7,y7,st7,fr7⟩=>?_
     obtain ⟨x7,k7,rd7⟩:=ito.yld m5 H5 hh i x H7 ds[i] x5 R5 (O9 c) y7
     have R7:=R5.ext x7 k7
     have I7':=I7.pinned (stat fr7) (T.obj _ _ st7)
     obtain ⟨sq1,sq2,sq3⟩:=C4 tl t0 eT sl1 sl2
     refine thn (hg1 _ s7 σ5 H7 x u (fun σ8 H8=>H8=H7/\RS X.prog X.w X.K m5 H7 σ8 (xs.map BT.cJ++fs)) I7' r7 (hg2 m5 H7 σ5 sl x ds[i] xs _ (S5.ext x7) rd7 (by rw[tl];exact eT) fun σ8 S8=>⟨rfl,by rw[← sq1];exact S8⟩)) fun _ s8 h8=>?_
     obtain ⟨σ8,H8,I8,rfl,S8⟩:=h8
     have kept:∀ {s9:O4}{σ9:L2.St}{H9:Hp},Inv (blk X (tg++fv.map (·.2)) s2 H1 scope H2.objs.size fp) ([(s2.heap.objs.size,lobj us nn)]++jy fp s7.heap) σ9 H9 s9->tn (i+1) s9.heap/\∀ b∈fp,H9 b=none:=fun {s9 σ9 H9} I9=>by
      refine ⟨T.keep _ _ _ st7 fun b hb o e=>(I9.pin (b,o) (PR _ (PR _ (fV hb e)))).1,fun b hb=>?_⟩
      obtain ⟨o,e,_⟩:=T.obj _ _ st7 b hb
      exact (I9.pin (b,o) (PR _ (PR _ (fV hb e)))).2.1
     have elem:∀ {s9:O4}{H9:Hp}{m9:List Addr}{h9:BT.HH}{w:BT.W}{hB:BT.HH}{d:BT.D},Inv (blk X (tg++fv.map (·.2)) s2 H1 scope H2.objs.size fp) ([(s2.heap.objs.size,lobj us nn)]++jy fp s7.heap) σ8 H9 s9->Ext m5 H8 m9 H9->RH X.K m9 H9 h9 →
      BT.ev F G elt (xs.map BT.cJ++fs) h9=some (w,hB)->BT.mF w hB=some (some d,hA)->o=some d →
      wpAny (Pw X.prog X.w) X.A (eval elt' (VH scope (BC.cy X.env.cells scope.names []) H2.objs.size X.env)) (fun x s₄ =>
       wpAny (Pw X.prog X.w) X.A (call (.builtin "list.append") [.ref s2.heap.objs.size,x]) (fun _ s₅=>∃ m,m < ds.length - i/\LI X F G scope tg fv cond elt s2 H1 H2.objs.size fp tn m1 ds outs fs h2 m s₅) (fun _ _=>False) s₄) (fun _ _=>False) s9:=by
      intro s9 H9 m9 h9 w hB d I9 x9 R9 eE eK eO
      have ew:w=.p d/\hB=hA:=by
       unfold BT.mF at eK
       cases w with
       | p d'=>cases eK;exact ⟨rfl,rfl⟩
       | r _=>cases eK
       | k _=>cases eK
       | c _ _=>cases eK
       | o _=>cases eK
      obtain ⟨rfl,rfl⟩:=ew
      refine thn (hE _ O' _ s9 σ8 H9 (fun v Ha=>∃ ma,Ext m9 H9 ma Ha/\RH X.K ma Ha hB/\RD X.K ma Ha v d) I9 ⟨m9,_,h9,_,hB,R9,S8.ext x9,eE,fun v Ha ma xa Ra ra=>by
       cases ra with | p ra=>exact ⟨ma,xa,Ra,ra⟩⟩) fun u10 s10 ⟨v10,H10,I10,r10,m10,x10,R10,rd10⟩=>?_
      obtain ⟨pD,nD,neD,nfD,_⟩:=I10.pin (s2.heap.objs.size,lobj us nn) (by simp)
      have lus:=rv5.length
      have lvs:=rd5.length
      have lou:out.length<=outs.length:=by rw[← ou5];simp
      have lle:=cL
      have cl':outs.length<=BT.lim:=cl
      refine wpAny_list_append_plain ⟨nn,pD⟩ (fun h11 hp11 sb11=>?_) (by rw[O6];omega)
      obtain ⟨nn',hp11⟩:=hp11
      have hp11:h11.get? s2.heap.objs.size=some (lobj (us++[u10]) nn'):=by rw[hp11];simp[lobj]
      have sb11:Qg s2.heap.objs.size s10.heap h11:=sb11
      obtain ⟨st10,fr10⟩:=kept I10
      have I11:Inv (blk X (tg++fv.map (·.2)) s2 H1 scope H2.objs.size fp) [] σ8 H10 { s10 with heap:=h11 } :=
       Inv.turned (t':=s10.toks) (I10.kC (fun p hp=>by cases hp)) (fun b o hb e=>(sb11.2 b hb).trans e) nD neD (.inr (O8 _)) (fun x c e zz=>by
        obtain ⟨v,o,ho,_⟩:=I1.cell x c (j0 e)
        have:=O7 ho
        rw[zz] at this
        exact absurd this (QA _)) fun p hp=>by cases hp
      have I12:Inv (blk X (tg++fv.map (·.2)) s2 H1 scope H2.objs.size fp) [(s2.heap.objs.size,lobj (us++[u10]) nn')] σ8 H10 { s10 with heap:=h11 }:=I11.kC fun p hp=>by
       simp only[VR] at hp
       subst hp
       exact ⟨hp11,nD,neD,nfD,fun v zz=>by cases (show Data.seq _ _=Data.cell v from zz)⟩
      have xt:Ext m5 H5 m10 H10:=(x7.trans x9).trans x10
      refine ⟨ds.length - (i+1),by omega,i+1,σ8,H10,m10,hB,out++[d],rest',vs++[v10],us++[u10],nn',_,c,rfl,I12,?_,fr10,x5.trans xt,R10,(S8.ext x9).ext x10,sq2,sq3,rv5.append (.cons r10 .nil),(rd5.ext xt).append (.cons rd10 .nil),eG,?_⟩
      ·refine T.keep _ _ _ st10 fun b hb o' e=>(sb11.2 b ?_).trans e
       exact PD (hlt b hb)
      ·rw[← ou5,eR,eO,Qt];rfl
     unfold BT.cU at eF
     obtain ⟨cs,hc,eC,eK⟩:=ai eF
     rcases hC with ⟨rfl,rfl⟩ | ⟨cc,cc',rfl,rfl,hCC⟩
     ·simp only[BT.evs] at eC
      cases eC
      have eK:=(show BT.bnd _ BT.mF=_ from eK)
      obtain ⟨w,hB,eE,eL⟩:=ai eK
      refine wpAny_tests_nil ?_
      rw[if_pos rfl]
      have:∃ d,o=some d:=by
       unfold BT.mF at eL
       cases w with
       | p d'=>cases eL;exact ⟨_,rfl⟩
       | r _=>cases eL
       | k _=>cases eL
       | c _ _=>cases eL
       | o _=>cases eL
      obtain ⟨d,rfl⟩:=this
      exact elem I8 (.refl _ _) R7 eE eL rfl
     ·simp only[BT.evs] at eC
      obtain ⟨wc,hc2,eC1,eC2⟩:=ai eC
      simp only[BT.jW,BT.aQ,BT.gA] at eC2
      cases eC2
      have hb:∃ b,wc=.p (.bl b):=by
       cases wc with
       | p d =>
        cases d<;>first | exact ⟨_,rfl⟩ | exact ah eK
       | r _=>exact ah eK
       | k _=>exact ah eK
       | c _ _=>exact ah eK
       | o _=>exact ah eK
      obtain ⟨b,rfl⟩:=hb
      refine wpAny_tests_one (thn (hCC _ O' _ s8 σ8 H8 (fun b' Ha=>b'=b/\∃ ma,Ext m5 H8 ma Ha/\RH X.K ma Ha hc) I8 ⟨m5,_,hh,b,hc,R7,S8,eC1,fun Ha ma xa Ra=>⟨rfl,ma,xa,Ra⟩⟩) fun b' s9 ⟨H9,I9,hbb,m9,x9,R9⟩=>?_)
      subst hbb
      cases b' with
      | false =>
       have eK:=(show some ((none:Option BT.D),hc)=some _ from eK)
       cases eK
       rw[if_neg (by decide)]
       obtain ⟨st9,fr9⟩:=kept I9
       have xt:Ext m5 H5 m9 H9:=x7.trans x9
       refine ⟨ds.length - (i+1),by omega,i+1,σ8,H9,m9,hA,out,rest',vs,us,nn,_,c,rfl,I9.iZ,st9,fr9,x5.trans xt,R9,S8.ext x9,sq2,sq3,rv5,rd5.ext xt,eG,?_⟩
       rw[← ou5,eR]
      | true =>
       have eK:=(show BT.bnd _ BT.mF=_ from eK)
       rw[if_pos rfl]
       obtain ⟨w,hB,eE,eL⟩:=ai eK
       have:∃ d,o=some d:=by
        unfold BT.mF at eL
        cases w with
        | p d'=>cases eL;exact ⟨_,rfl⟩
        | r _=>cases eL
        | k _=>cases eL
        | c _ _=>cases eL
        | o _=>cases eL
       obtain ⟨d,rfl⟩:=this
       exact elem I9 x9 R9 eE eL rfl
    ·have ei:i=ds.length:=by omega
     subst ei
     rw[List.drop_length,BT.aS] at go5
     cases go5
     rw[P4] at ou5
     subst ou5
     refine thn (T.done (blk X (tg++fv.map (·.2)) s2 H1 scope H2.objs.size fp) rfl rfl rfl O.calm _ _ s5 σ5 H5 _ I5 (stat fr5) st5 (ito.stop m5 H5 x5)) fun r s6 ⟨hr,I6⟩=>?_
     subst hr
     obtain ⟨mm,hmm,_⟩:=I6.loc
     obtain ⟨pD,nD,neD,nfD,_⟩:=I6.pin (s2.heap.objs.size,lobj us nn) (by simp)
     have neD:s2.heap.objs.size≠H2.objs.size:=neD
     have hos:s6.os=s2.os:=I6.os
     have lus:=rv5.length
     have lvs:=rd5.length
     have lle:=cL
     have cl':out.length<=BT.lim:=cl
     have hok:HOk X.prog X.w (upd H5 s2.heap.objs.size (.lst vs)) s6.heap:=fun b u e=>by
      by_cases eb:b=s2.heap.objs.size
      ·subst eb
       rw[aD] at e
       cases e
       exact ⟨by omega,us,nn,rv5,pD⟩
      ·rw[av eb] at e
       refine (I6.hok b u e).stay (fun c v hc q=>q) (fun c q=>?_) fun c l q=>?_
       ·rw[av (fun zz=>by rw[zz,nD] at q;cases q)];exact q
       ·rw[av (fun zz=>by rw[zz,nD] at q;cases q)];exact q
     have u7:Un (frs X.stack) fp H1 (upd H5 s2.heap.objs.size (.lst vs)) s2.heap s6.heap:=Un.behind (h1:=s6.heap) I6.base (fun b hb=>av (PD hb)) (fun b o e=>I1.hok.lt e) fun b o hb e=>e
     have I7:=I1.call (g':=s6.gens) (t':=s6.toks) (d':=s6.drawn) (ch:=fp) u7 hok I6.bare fun b hb=>⟨(hf b hb).2.2.2.1,(hf b hb).2.1,(hf b hb).2.2.2.2.1,(hf b hb).2.2.2.2.2⟩
     have fr6:H5 H2.objs.size=none:=I6.free
     have ltC:s2.heap.objs.size < H2.objs.size:=by rw[hCs];exact Q2 _
     have ap:Apart X pins (upd H5 s2.heap.objs.size (.lst vs)) H2.objs.size:=by
      refine ⟨by rw[av (Qd neD)];exact fr6,?_,?_,fun x c e zz=>?_,fun p hp zz=>?_⟩
      ·exact QX (T9 I1.lt ltC)
      ·exact PZ I1.sz (Qk ltC)
      ·obtain ⟨v,o,ho,_⟩:=I1.cell x c e
       have l:=O7 ho
       rw[zz] at l
       exact absurd (T9 l ltC) (QA _)
      ·have l:=O7 (I1.pin p hp).1
       rw[zz] at l
       exact absurd (T9 l ltC) (QA _)
     refine hfin s6 _ _ _ mm ?_ hmm ap (oA (mu:=mu) R5 nD rd5 (by rw[ez];exact fun v' H' m' xx RR rr=>post v' H' m' ((x1.trans x5).trans xx) RR rr))
     obtain ⟨hp6,g6,d6,t6,os6⟩:=s6
     have hos:os6=s2.os:=hos
     subst hos
     exact I7
   exact codeAny_compStart_list (loop _ rfl) (T.self _ 0 _ _ _ (T.keep 0 _ _ st (fun b hb o e=>old b o e)) (loop _ rfl))
theorem C7 (O:Ok X F G sc N) {mu:Bool}{sr:BT.Sr}{sa:BT.Es}{tg:List Str}{fv:List (Nat×Str)}{cond:BT.Es}{elt:BT.E}{te iter elt':O1}{ifs:List O1}{scope:Pu}{pos:Pos}
 (hk:iR sc N tg fv scope=true) (ht:qi (aT scope sc) tg te=true) (hset:iP iter=true) (hI:PI X te iter (iD X F G sr sa)) (hC:lH F G (aT scope sc) (tg++fv.map (·.2)) cond ifs)
 (hE:∀ X',Ok X' F G (aT scope sc) (tg++fv.map (·.2))->PE X' elt' (tD X' F G elt)):PE X (.ListComp elt' [⟨te,iter,ifs,0⟩] scope pos) (tD X F G (.comp mu sr sa tg fv cond elt)):=by
 intro pins s σ H Q I q
 rw[eval_ListComp]
 refine nC O hk ht hset hI hC hE pins s σ H Q none _ I q fun s6 H6 C D m I6 hn ap hq=>?_
 refine ⟨m,hn,fun h7 sb7=>?_⟩
 have sb7:Qg C s6.heap h7:=sb7
 exact ⟨.ref D,H6,Inv.turned (t':=s6.toks) I6 (fun b o hb e=>(sb7.2 b hb).trans e) ap.fr ap.lo (.inr ap.ab) ap.ce ap.pi,rfl,hq⟩
theorem C8 (O:Ok X F G sc N) {i:Nat}{y:Str}{mu:Bool}{sr:BT.Sr}{sa:BT.Es}{tg:List Str}{fv:List (Nat×Str)}{cond:BT.Es}{elt:BT.E}{te iter elt':O1}{ifs:List O1}{scope:Pu}{pos py spos:Pos}
 (hk:iR sc N tg fv scope=true) (ht:qi (aT scope sc) tg te=true) (hset:iP iter=true) (hI:PI X te iter (iD X F G sr sa)) (hC:lH F G (aT scope sc) (tg++fv.map (·.2)) cond ifs)
 (hE:∀ X',Ok X' F G (aT scope sc) (tg++fv.map (·.2))->PE X' elt' (tD X' F G elt)) (hy:N[i]?=some y) (hl:sc.names.lookup y=some .local)
 (hsw:Ss (.ListComp elt' [⟨te,iter,ifs,0⟩] scope pos) (some (.Name y py)) spos.line X.env=pure true) :
 PS X (.Assign [.Name y py] (.ListComp elt' [⟨te,iter,ifs,0⟩] scope pos) spos) (vD (tD X F G (.comp mu sr sa tg fv cond elt)) (pM i)):=by
 intro pins s σ H D I q
 rw[exec_Assign_Name_used _ _ _ _ hsw]
 refine wpAny_bind (VB (wpAny_bind ?_))
 show wpAny _ X.A (do let _ ← comprehension (.ListComp elt' [⟨te,iter,ifs,0⟩] scope pos) scope X.env _ (VF []) false (eval iter X.env) (some (U5 (.Name y py) X.env))) _ _ s
 refine wpAny_bind (thn (nC O hk ht hset hI hC hE pins s σ H _ (some (U5 (.Name y py) X.env)) (fun _ s'=>SP X pins D .next s') I q fun s6 H6 C D' m I6 hn ap hq=>?_) fun _ s' hq=>wpAny_pure (wpAny_pure hq))
 show wpAny _ X.A (U5 (.Name y py) X.env (.ref D')) _ _ _
 refine wpAny_assign_Name (mV I6 O.nd (by rw[O.hN];exact hy) (.inl (by rw[O.hsc];exact hl)) (v:=.ref D') rfl (fun s7 I7 hs=>?_) (.inr (by rw[O.hsc];exact hl)))
 obtain ⟨a,sb,ha⟩:=hs
 have neC:C≠a:=by
  rcases ha with rfl | ha
  ·exact ap.lo
  ·exact fun z=>ap.ce y a ha z.symm
 refine ⟨m,hn.sameBut sb neC,fun h8 sb8=>?_⟩
 have sb8:Qg C s7.heap h8:=sb8
 exact ⟨_,H6,Inv.turned (t':=s7.toks) I7 (fun b o hb e=>(sb8.2 b hb).trans e) ap.fr ap.lo (.inr ap.ab) ap.ce ap.pi,hq⟩
end
end BS
end
section
namespace BS
open PySem PySem.Spec PyProof.Rows L2
section
variable {F:FT}{G:Str->Option BT.W}
theorem wO {X:Cx}{v:V}{ds:List BT.D} (r:∀ m H,RW X.prog X.w X.K m H v (.p (.tup ds))):∃ a vs,v=.ref a/\KT X.K a vs:=by
 have z:=r [] (fun _=>none)
 cases z with
 | p z =>
  cases z with
  | @tup a vs _ h _ =>
   rcases h with ⟨h,_⟩ | h
   ·rcases h with h | ⟨o,h⟩<;>cases h
   ·exact ⟨a,vs,rfl,h⟩
theorem wQ {X:Cx}{sc:Pu}{N:List Str} (O:Ok X F G sc N) {x:Str}{as:BT.Es}{es:List O1}{np apos cpos:Pos} (h2:aV sc x=true) (h3:cj x=true) (hl:(apos.endLine==cpos.line)=true) (hlen:es.length < 20) (hc:CEs sc N as es) (ha:PA X es (tDs X F G as)) :
 PE X (.Call (.Attribute (.Name x np) "index" apos) es [] cpos) (tD X F G (.me .tindex (.glo x) as)):=by
 have hst:=c7 hc
 intro pins s σ H Q I q
 obtain ⟨m,s',h,z,h',R,S,ee,post⟩:=q
 simp only[BT.ev] at ee
 obtain ⟨w,g,e1,e2⟩:=ai ee
 obtain ⟨_,e2⟩:=uf e2
 obtain ⟨ws,g2,e3,e4⟩:=ai e2
 obtain ⟨w',e5,e6⟩:=aA e1
 cases e6
 obtain ⟨u,v0,hm,rv,rw0⟩:=O.glob _ _ e5
 have hT:∃ ds xs,BT.aR ws=some ds/\w=.p (.tup xs)/\ds≠[]:=by
  cases w with
  | r n=>cases ws<;>(first | (cases e4;done) | simp[BT.meW] at e4)
  | k q=>cases ws<;>(first | (cases e4;done) | simp[BT.meW] at e4)
  | c _ _=>cases ws<;>(first | (cases e4;done) | simp[BT.meW] at e4)
  | o q=>cases ws<;>(first | (cases e4;done) | simp[BT.meW] at e4)
  | p d =>
   rw[BT.kZ] at e4
   cases gp:BT.aR ws with
   | none=>rw[gp] at e4;cases e4
   | some ds =>
    rw[gp] at e4
    obtain ⟨b,e7,e8⟩:=aA e4
    cases d with
    | tup xs=>refine ⟨ds,xs,rfl,rfl,fun z=>?_⟩;subst z;exact ah e7
    | _=>cases ds<;>exact ah e7
 obtain ⟨ds,xs,gp,rfl,hne⟩:=hT
 obtain ⟨a,vt,rfl,o,its,n,⟨k1,k2,k3,k4,k5⟩,k6⟩:=wO rw0
 cases es with
 | nil =>
  cases as with
  | cons a r=>cases hc
  | nil=>simp only[BT.evs] at e3;cases e3;simp[BT.aR] at gp;exact absurd gp hne
 | cons e es =>
  simp only[aq,O5] at hst
  have h30:decide ((e :: es).length+([]:List T8).length+(if ([]:List T8).isEmpty then 0 else 1) < 30)=true:=decide_eq_true (by
   simp only[Pk,P8,List.isEmpty_nil,if_true] at hlen ⊢;omega)
  refine (yf PySem.F.plainAttrs_tuple PySem.F.slot_tuple_index PySem.F.type_tuple_index (wB O.hu) (sZ (aX O h2) hm rv (dG h3).1) ha rfl (by
   rw[gJ (es:=e :: es) (by simp only[aq,O5];exact hst),h30];rfl) hl (aj hst.1) (aE hst.2)) pins s σ H Q I ?_
  refine ⟨.inr (.inl ⟨rfl,o,k1,k2,k6⟩),m,s',h,ws,g2,R,S,e3,fun vs H2 m2 x2 R2 r2=>?_⟩
  exact ⟨m2,g2,.p (.tup xs),ws,z,h',R2,rw0 m2 H2,r2,e4,fun v5 H5 m5 x5 R5 r5=>post v5 H5 m5 (x2.trans x5) R5 r5⟩
theorem G6 {X:Cx}{me:BT.Me} (hm:me=.append\/me=.pop\/me=.extend) {o:BT.E}:∀ (m:List Addr) (h h2:BT.HH) (H:Hp) (v:V) (x:BT.W) ws r,RH X.K m H h->RW X.prog X.w X.K m H v x->BT.qd x h=true->BT.meW me x ws h2=some r->(∃ σ s,RS X.prog X.w X.K m H σ s/\∃ h0,BT.ev F G o s h0=some (x,h))->tyV X.K "list" v H:=by
 intro m h h2 H v x ws r R rq ok e _
 obtain ⟨n,rfl⟩:=NI hm e
 exact ty_list R rq ok
theorem NJ {X:Cx}{e:BT.E} (σ:L2.St) (H:Hp) (Q:Bool->Hp->Prop) (q:tDT X F G e σ H Q):tB (tD X F G e) σ H Q:=by
 obtain ⟨m,s,h0,b,h',R,S,ee,post⟩:=q
 refine ⟨m,s,h0,_,h',R,S,ee,fun v H' m' x R' r=>?_⟩
 exact ⟨b,jJ r,post H' m' x R'⟩
noncomputable def XE (F:FT) (G:Str->Option BT.W) (X:Cx) (e':BT.E) (e:O1):Prop:=PE X e (tD X F G e')/\(tOK e'=true->PT X e (tDT X F G e')/\∀ op vs p,e=.BoolOp op vs p->PW X e (tDT X F G e'))
noncomputable def XO (F:FT) (G:Str->Option BT.W) (X:Cx) (es':BT.Es) (o:Option O1):Prop:=∃ t,PO X o t ∧
 ∀ σ H (Q:Option Int->Hp->Prop),(∃ m s h l zs h',RH X.K m H h/\RS X.prog X.w X.K m H σ s/\BT.evs F G es' s h=some (zs,h')/\(BT.aR zs).bind BT.nV=some l/\∀ H' m',Ext m H m' H'->RH X.K m' H' h'->Q l H')->t σ H Q
theorem bQ {X:Cx}{e':BT.E}{e:O1} (p:PE X e (tD X F G e')) (hb:∀ op vs q,e≠.BoolOp op vs q) (he:∀ whole,isTrue e X.env whole=(do let v ← whole;standAt e.pos;holding [v] (truthy v)):=by intro _;rfl):XE F G X e' e :=
 ⟨p,fun _=>⟨PT.weak (E3 p he) NJ,fun op vs q z=>absurd z (hb op vs q)⟩⟩
theorem G7 {X:Cx}:XO F G X .nil none:=⟨_,BE,fun σ H Q q=>by
 obtain ⟨m,s,h,l,zs,h',R,S,e1,e2,post⟩:=q
 simp only[BT.evs] at e1
 cases e1
 simp[BT.aR,BT.nV] at e2
 subst e2
 exact post H m (.refl _ _) R⟩
theorem G8 {X:Cx}{a:BT.E}{e:O1} (ha:PE X e (tD X F G a)):XO F G X (.cons a .nil) (some e):=by
 refine ⟨_,BH ha,fun σ H Q q=>?_⟩
 obtain ⟨m,s,h,l,zs,h',R,S,e1,e2,post⟩:=q
 simp only[BT.evs] at e1
 obtain ⟨x,h1,e3,e4⟩:=ai e1
 simp only[BT.jW,BT.aQ,BT.gA] at e4
 cases e4
 refine ⟨m,s,h,x,h',R,S,e3,fun v H1 m1 x1 R1 r1=>?_⟩
 cases r1 with
 | r _=>simp[BT.aR] at e2
 | k _ _=>simp[BT.aR] at e2
 | c _ _=>simp[BT.aR] at e2
 | g _ _=>simp[BT.aR] at e2
 | o _=>simp[BT.aR] at e2
 | p r =>
  cases r<;>simp[BT.aR,BT.nV] at e2
  subst e2
  exact ⟨_,rfl,post H1 m1 x1 R1⟩
theorem lI {X:Cx}{a:BT.E}{e:O1} (ha:PE X e (tD X F G a)) (hs:noStar e=true):PA X [e] (tDs X F G (.cons a .nil)) :=
 PA.weak (eY ha kP (aj hs)) fun σ H Q q=>by
  obtain ⟨m,s,h,z0,h',R,S,ee,post⟩:=cons_of σ H Q q
  exact ⟨m,s,h,z0,h',R,S,ee,fun v H1 m1 x1 R1 r1=>f9 (post v H1 m1 x1 R1 r1)⟩
theorem sH {X:Cx}{a b:BT.E}{e f:O1} (ha:PE X e (tD X F G a)) (hb:PE X f (tD X F G b)) (hs:noStar e=true) (hs2:noStar f=true):PA X [e,f] (tDs X F G (.cons a (.cons b .nil))) :=
 PA.weak (eY ha (lI hb hs2) (aj hs)) cons_of
theorem sMe {X:Cx}{sc:Pu}{N:List Str} (O:Ok X F G sc N) {m:BT.Me}{o:BT.E}{as:BT.Es}{oe:O1}{name:Str}{apos cpos:Pos}{es:List O1} (h1:yW m o=true) (h2:name=yU m) (h3:aB oe=true) (h6:(apos.endLine==cpos.line)=true) (h7:es.length < 20) (ho:CE' sc N o oe) (ha:CEs sc N as es) (hO:PE X oe (tD X F G o)) (hA:PA X es (tDs X F G as)) :
 PE X (.Call (.Attribute oe name apos) es [] cpos) (tD X F G (.me m o as)):=by
 subst h2
 cases m with
 | append=>exact sj (sc:=sc) (N:=N) Sx PySem.F.slot_list_append PySem.F.type_list_append wu h3 h6 h7 hO ha hA (G6 (.inl rfl))
 | pop=>exact sj (sc:=sc) (N:=N) Sx PySem.F.slot_list_pop PySem.F.type_list_pop GD h3 h6 h7 hO ha hA (G6 (.inr (.inl rfl)))
 | extend=>exact sj (sc:=sc) (N:=N) Sx PySem.F.slot_list_extend PySem.F.type_list_extend wA h3 h6 h7 hO ha hA (G6 (.inr (.inr rfl)))
 | sindex=>simp[yW] at h1
 | tindex =>
  cases ho with
  | glo hg hn=>exact wQ O hg hn h6 h7 ha hA
  | _=>simp[yW,yV] at h1
 | dget=>simp[yW] at h1
theorem Kl {X:Cx}{a b:BT.E}{x:O1}{r:List O1}{p:Pos} (pe:PE X (.BoolOp .And (x :: r) p) (tD X F G (.and a b))) (w:tOK (.and a b)=true->PW X (.BoolOp .And (x :: r) p) (tDT X F G (.and a b))):XE F G X (.and a b) (.BoolOp .And (x :: r) p) :=
 ⟨pe,fun ht=>⟨(w ht).pt,fun _ _ _ e=>by cases e;exact w ht⟩⟩
theorem sOr {X:Cx}{a b:BT.E}{x:O1}{r:List O1}{p:Pos} (pe:PE X (.BoolOp .Or (x :: r) p) (tD X F G (.or a b))) (w:tOK (.or a b)=true->PW X (.BoolOp .Or (x :: r) p) (tDT X F G (.or a b))):XE F G X (.or a b) (.BoolOp .Or (x :: r) p) :=
 ⟨pe,fun ht=>⟨(w ht).pt,fun _ _ _ e=>by cases e;exact w ht⟩⟩
theorem kG {a b:BT.E} (h:tOK (.and a b)=true):tOK a=true/\tOK b=true:=by
 have h:(tOK a&&tOK b)=true:=h
 simpa only[O5] using h
theorem oQ {a b:BT.E} (h:tOK (.or a b)=true):tOK a=true/\tOK b=true:=by
 have h:(tOK a&&tOK b)=true:=h
 simpa only[O5] using h
theorem sX {sc:Pu}{N:List Str}{e':BT.E}{e:O1} (h:CE' sc N e' e) {X:Cx} (O:Ok X F G sc N):XE F G X e' e:=by
 refine @CE'.rec (fun sc N e' e _=>∀ (X:Cx),Ok X F G sc N->XE F G X e' e) (fun sc N as es _=>∀ (X:Cx),Ok X F G sc N->PA X es (tDs X F G as)) (fun sc N es' o _=>∀ (X:Cx),Ok X F G sc N->XO F G X es' o) (fun sc N cond ifs _=>lH F G sc N cond ifs) (fun sc N sr sa iter _=>∀ (X:Cx),Ok X F G sc N->∀ (tg:O1),qf sr tg=true->PI X tg iter (iD X F G sr sa))
  (fun h1 h2 h3 X O=>bQ (oK O h1 h2 h3) (fun _ _ _ z=>nomatch z))
  (fun h X O=>bQ (Cz h) (fun _ _ _ z=>nomatch z))
  (fun h2 h3 X O=>bQ (CA O h2 h3) (fun _ _ _ z=>nomatch z))
  (fun h _ _ ia ib X O=>bQ (PE.weak (Jc (opB h) (ia _ O).1 (ib _ O).1) (oJ fun s h=>by simp only[BT.ev])) (fun _ _ _ z=>nomatch z))
  (fun _ ia X O=>bQ (PE.weak (Et xO (ia _ O).1) GL) (fun _ _ _ z=>nomatch z))
  (fun _ ia X O=>⟨PE.weak (E6 (ia _ O).1) CG,fun ht=>⟨PT.weak (E5 ((ia _ O).2 ht).1) CF,fun _ _ _ e=>nomatch e⟩⟩)
  (fun _ _ ia ib X O=>Kl (PE.weak (xD (ia _ O).1 (xC (ib _ O).1)) um) fun ht=>PW.weak (xB ((ia _ O).2 (kG ht).1).1 (Bg ((ib _ O).2 (kG ht).2).1)) uq)
  (fun _ _ ia ib X O=>Kl (PE.weak (xD (ia _ O).1 (ib _ O).1) um) fun ht=>PW.weak (xB ((ia _ O).2 (kG ht).1).1 (((ib _ O).2 (kG ht).2).2 _ _ _ rfl)) uq)
  (fun _ _ ia ib X O=>sOr (PE.weak (Ep (ia _ O).1 (xC (ib _ O).1)) zy) fun ht=>PW.weak (Em ((ia _ O).2 (oQ ht).1).1 (E4 ((ib _ O).2 (oQ ht).2).1)) zA)
  (fun _ _ ia ib X O=>sOr (PE.weak (Ep (ia _ O).1 (ib _ O).1) zy) fun ht=>PW.weak (Em ((ia _ O).2 (oQ ht).1).1 (((ib _ O).2 (oQ ht).2).2 _ _ _ rfl)) zA)
  (fun h _ _ hm ia ib X O=>⟨PE.weak (Bt (opC O h) (ia _ O).1 (ib _ O).1 hm) (oJ fun s h=>by simp only[BT.ev]),fun _=>⟨PT.weak (Bu (opC O h) (ia _ O).1 (ib _ O).1 hm) (qm (oJ fun s h=>by simp only[BT.ev])),fun _ _ _ e=>nomatch e⟩⟩)
  (fun h h' _ _ _ hm ia ib ic X O=>⟨PE.weak (xR (opC O h) (opC O h') (ia _ O).1 (ib _ O).1 (ic _ O).1 hm) qo,fun _=>⟨PT.weak (xS (opC O h) (opC O h') (ia _ O).1 (ib _ O).1 (ic _ O).1 hm) (qm qo),fun _ _ _ e=>nomatch e⟩⟩)
  (fun h _ _ _ ic ia ib X O=>⟨PE.weak (xE ((ic _ O).2 h).1 (ia _ O).1 (ib _ O).1) GK,fun ht=>nomatch ht⟩)
  (fun _ ia X O=>⟨PE.weak (Fx (ia _ O)) GO,fun ht=>nomatch ht⟩)
  (fun _ ia X O=>⟨PE.weak (Fy (ia _ O)) GP,fun ht=>nomatch ht⟩)
  (fun _ _ hs ia ii X O=>bQ (PE.weak (Jq GC (ia _ O).1 (ii _ O).1 (zu hs)) (oJ fun s h=>by simp only[BT.ev])) (fun _ _ _ z=>nomatch z))
  (fun _ _ _ ia il iu X O=>bQ (by
   obtain ⟨tl,hl1,hl2⟩:=il _ O
   obtain ⟨tu,hu1,hu2⟩:=iu _ O
   exact PE.weak (ye osl (ia _ O).1 hl1 hu1) (GM hl2 hu2)) (fun _ _ _ z=>nomatch z))
  (fun hg hn ha ia X O=>bQ (zB O hg hn ha (ia _ O)) (fun _ _ _ z=>nomatch z))
  (fun hg hg2 hs _ ia X O=>bQ (zW O hg hg2 hs (lI (ia _ O).1 hs)) (fun _ _ _ z=>nomatch z))
  (fun hb hg hs _ ia X O=>bQ (GN O hb hg (by simp[aq,hs]) (lI (ia _ O).1 hs)) (fun _ _ _ z=>nomatch z))
  (fun hb hg hg2 hs _ ia X O=>bQ (zC O hb hg hg2 hs (ia _ O).1) (fun _ _ _ z=>nomatch z))
  (fun h1 h2 h3 h6 h7 ho ha io ia X O=>bQ (sMe O h1 h2 h3 h6 h7 ho ha (io _ O).1 (ia _ O)) (fun _ _ _ z=>nomatch z))
  (fun hk ht hz hs _ _ _ ii ic ie X O=>⟨C7 O hk ht hs (ii _ O _ hz) ic fun X' O'=>(ie _ O').1,fun ht=>nomatch ht⟩)
  (fun hb hf _ ia X O=>bQ (CJ (sc:=sc) (N:=N) hb hf (ia _ O).1) (fun _ _ _ z=>nomatch z))
  (fun h3 h6 h7 _ ha io ia X O=>bQ (zE O h3 h6 h7 (io _ O).1 ha (ia _ O)) (fun _ _ _ z=>nomatch z))
  (fun hk _ ia X O=>bQ (CK hk (ia _ O).1) (fun _ _ _ z=>nomatch z))
  (fun hb hg hs1 hs2 _ _ ia ib X O=>bQ (CM O hb hg (by simp[aq,hs1,hs2]) (sH (ia _ O).1 (ib _ O).1 hs1 hs2)) (fun _ _ _ z=>nomatch z))
  (fun hg hn ha ia X O=>bQ (zF O hg hn ha (ia _ O)) (fun _ _ _ z=>nomatch z))
  (fun h1 h2 h3 ha ia X O=>bQ (zK O h1 h2 h3 ha (ia _ O)) (fun _ _ _ z=>nomatch z))
  (fun X O=>bQ CW (fun _ _ _ z=>nomatch z))
  (fun h3 h6 hs1 hs2 _ _ _ io ik id X O=>bQ (G0 h3 h6 hs1 hs2 (io _ O).1 (ik _ O).1 (id _ O).1) (fun _ _ _ z=>nomatch z))
  (fun hg h3 h6 _ io X O=>bQ (G3 O hg h3 h6 (io _ O).1) (fun _ _ _ z=>nomatch z))
  (fun X O=>PA.weak kP fun σ H Q q=>f9 q)
  (fun hs _ _ ia ir X O=>PA.weak (eY (ia _ O).1 (ir _ O) (aj hs)) cons_of)
  (fun X O=>G7)
  (fun _ ia X O=>G8 (ia _ O).1)
  (.inl ⟨rfl,rfl⟩)
  (fun ht _ ia=>.inr ⟨_,_,rfl,rfl,fun X' O'=>((ia _ O').2 ht).1⟩)
  (fun hg hs _ ia X O _ _=>qt O hg hs (lI (ia _ O).1 hs))
  (fun hg hs hs2 _ _ ia ib X O _ _=>qu O hg hs hs2 (sH (ia _ O).1 (ib _ O).1 hs hs2))
  (fun hg hs _ ia X O _ _=>uC O hg hs (ia _ O).1)
  (fun _ ia X O _ _=>uB (ia _ O).1)
  sc N e' e h X O
theorem sE {sc:Pu}{N:List Str}{e':BT.E}{e:O1} (h:CE' sc N e' e) {X:Cx} (O:Ok X F G sc N):PE X e (tD X F G e'):=(sX h O).1
theorem sT {sc:Pu}{N:List Str}{e':BT.E}{e:O1} (h:CE' sc N e' e) {X:Cx} (O:Ok X F G sc N) (ht:tOK e'=true):PT X e (tDT X F G e')/\∀ op vs p,e=.BoolOp op vs p->PW X e (tDT X F G e'):=(sX h O).2 ht
theorem sCC {sc:Pu}{N:List Str}{cond:BT.Es}{ifs:List O1} (h:CC sc N cond ifs):lH F G sc N cond ifs:=by
 cases h with
 | nil=>exact .inl ⟨rfl,rfl⟩
 | one ht ha=>exact .inr ⟨_,_,rfl,rfl,fun X' O'=>(sT ha O' ht).1⟩
theorem sCI {sc:Pu}{N:List Str}{sr:BT.Sr}{sa:BT.Es}{iter:O1} (h:CI sc N sr sa iter) {X:Cx} (O:Ok X F G sc N) {tg:O1} (hz:qf sr tg=true):PI X tg iter (iD X F G sr sa):=by
 cases h with
 | seq h=>exact uB (sE h O)
 | rng1 hg hs h=>exact qt O hg hs (lI (sE h O) hs)
 | rng2 hg hs hs2 ha hb=>exact qu O hg hs hs2 (sH (sE ha O) (sE hb O) hs hs2)
 | rev hg hs h=>exact uC O hg hs (sE h O)
end
end BS
end
section
namespace BS
open PySem PySem.Spec PyProof.Rows L2
noncomputable def mk3 (H:Hp) (P c f:Addr) (t c0 f0:HO):Hp:=upd (upd (upd H P t) c c0) f f0
theorem bW {H:Hp}{P c f a:Addr}{t c0 f0 u:HO}{ps:Array O3} (hP:H P=some (.tbl ps)) (hc:H c=none) (hf:H f=none) (e:H a=some u) (n:za u=false):mk3 H P c f t c0 f0 a=some u:=by
 unfold mk3
 rw[av (ay e hf),av (ay e hc),av (fun z=>by subst z;rw[hP] at e;cases e;cases n)];exact e
theorem sI {pos:Pos}{a b:Int}{v0 v:O3} (l:List O3) (h:TriplesOk l) (e:Sv pos (l++[Q6 a,Q6 b,v0])=some v):Sv pos l=some v\/v=v0:=by
 fun_induction TriplesOk l with
 | case1 =>
  simp only[Ry,Q6,Sv] at e
  split at e
  ·cases e;exact .inr rfl
  ·cases e
 | case2 a' t b' u x rest ih =>
  simp only[List.cons_append,Sv] at e ⊢
  split at e
  ·rename_i hc;rw[if_pos hc];exact .inl e
  ·rename_i hc;rw[if_neg hc];exact ih h e
 | case3 l h1 h2=>exact h.elim
structure Made (X:Cx) (pins:List (Addr×Obj)) (σ:L2.St) (m:List Addr) (H:Hp) (h:BT.HH) (q:Str) (pa:Q8) (be:O1) (sc:Pu) (cl:List (Str×Addr)) (f:Addr) (H3:Hp) (s3:O4):Prop where
 inv:Inv X pins σ H3 s3
 ext:Ext m H m H3
 rh:RH X.K m H3 h
 ex:∃ pm ctv c' oc os t,Tr m H3 f (SH "<lambda>" q pa be sc cl pm c' ctv)/\Tr m H3 c' oc/\oc.data=.fields os/\os[1]?=some (.str q t)
theorem C9 {X:Cx}{pins:List (Addr×Obj)}{σ:L2.St}{H:Hp}{s:O4}{m:List Addr}{h:BT.HH} (I:Inv X pins σ H s) (R:RH X.K m H h) {x:Str} (lx:LX X x) {c P:Addr} (tc:P9 X.K x=some (c,P)) {ps:Array O3} (hP:H P=some (.tbl ps))
 (ht:TriplesOk ps.toList) (hall:∀ pos v,Sv pos ps.toList=some v->∃ c' oc os t,v=.ref c'/\H c'=some (.frz oc (.own 0))/\oc.data=.fields os/\os[1]?=some (.str (wg x) t))
 (uniq:∀ y∈BT.dj,∀ c2,P9 X.K y=some (c2,P)->y=x)
 {pos:Pos} (hn:Sv pos ps.toList=none) {c' f:Addr}{h':Heap}{tk:Nat}{fo:Obj} (hfo:fo.isFreed=false) {oc:Obj}{os:Array O3}{t:Tok} (hx:Ur P s.heap h') (hge:s.heap.objs.size<=c') (hlt:c' < h'.objs.size) (ho:h'.get? c'=some oc) (hd:oc.data=.fields os) (hq:os[1]?=some (.str (wg x) t))
 (hT:h'.get? P=some (Rk (ps++#[Q6 pos.line,Q6 pos.col,.ref c']))) :
 Inv X pins σ (mk3 H P c' h'.objs.size (.tbl (ps++#[Q6 pos.line,Q6 pos.col,.ref c'])) (.frz oc (.own 0)) (.frz fo (.own 0))) { s with heap:=h'.push fo,toks:=tk }/\Ext m H m (mk3 H P c' h'.objs.size (.tbl (ps++#[Q6 pos.line,Q6 pos.col,.ref c'])) (.frz oc (.own 0)) (.frz fo (.own 0))) ∧
 RH X.K m (mk3 H P c' h'.objs.size (.tbl (ps++#[Q6 pos.line,Q6 pos.col,.ref c'])) (.frz oc (.own 0)) (.frz fo (.own 0))) h:=by
 have hPs:s.heap.get? P=some (Rk ps):=I.hok _ _ hP
 have szP:P < s.heap.objs.size:=O7 hPs
 have cP:c'≠P:=fun z=>by rw[z] at hge;exact absurd szP (Nat.not_lt.mpr hge)
 have fP:h'.objs.size≠P:=fun z=>by rw[← z] at szP;exact absurd (Py szP hge) (Nat.not_lt.mpr (Qk hlt))
 have fc:h'.objs.size≠c':=QX hlt
 have fr:∀ a,s.heap.objs.size<=a->H a=none:=fun a ha=>I.hok.fresh ha
 have hc:=fr c' hge
 have hf:=fr h'.objs.size (Qk (TX hge hlt))
 have at1:∀ t c0 f0,mk3 H P c' h'.objs.size t c0 f0 h'.objs.size=some f0:=fun _ _ _=>aD
 have at2:∀ t c0 f0,mk3 H P c' h'.objs.size t c0 f0 c'=some c0:=fun _ _ _=>by unfold mk3;rw[av (Qd fc),aD]
 have at3:∀ t c0 f0,mk3 H P c' h'.objs.size t c0 f0 P=some t:=fun _ _ _=>by unfold mk3;rw[av (Qd fP),av (Qd cP),aD]
 have at4:∀ t c0 f0 b,b≠P->b≠c'->b≠h'.objs.size->mk3 H P c' h'.objs.size t c0 f0 b=H b:=fun _ _ _ b n1 n2 n3=>by unfold mk3;rw[av n3,av n2,av n1]
 have nP:∀ b,H b=none->b≠P:=fun b e z=>by rw[z,hP] at e;cases e
 have lt:∀ b o,s.heap.get? b=some o->b≠c'/\b≠h'.objs.size:=fun b o e=>by
  have l:=O7 e
  exact ⟨fun z=>by rw[z] at l;exact absurd l (Nat.not_lt.mpr hge),fun z=>by rw[z] at l;exact absurd (Py l hge) (Nat.not_lt.mpr (Qk hlt))⟩
 have kp:∀ b o,b≠P->s.heap.get? b=some o->(h'.push fo).get? b=some o:=fun b o n e=>O2 _ (hx b o n e)
 refine ⟨I.un ⟨fun b o e n _ _=>kp b o (nP b n) e,fun b o e n _ _=>⟨o.slots,kp b o (nP b n) e⟩,fun b o e n _=>?_,fun b o e _=>?_,fun b xs e=>bW hP hc hf e rfl,fun b o u e=>bW hP hc hf e rfl,fun b qs e=>?_⟩ fun b u e=>?_,?_,?_⟩
 ·rw[at4 _ _ _ b (nP b n) (lt b o e).1 (lt b o e).2];exact n
 ·by_cases z:b=P
  ·exact ⟨_,by rw[z];exact O2 _ hT⟩
  ·exact ⟨o,kp b o z e⟩
 ·by_cases z:b=P
  ·subst z;rw[hP] at e;cases e;exact ⟨_,at3 _ _ _⟩
  ·exact ⟨#[],by rw[at4 _ _ _ b z (ay e hc) (ay e hf),e];simp⟩
 ·by_cases z1:b=h'.objs.size
  ·subst z1;rw[at1] at e;cases e;exact ⟨Pc _ hfo,_,Pc _ hfo⟩
  by_cases z2:b=c'
  ·subst z2;rw[at2] at e;cases e;exact ⟨O2 _ ho,_,O2 _ ho⟩
  by_cases z3:b=P
  ·subst z3;rw[at3] at e;cases e;exact O2 _ hT
  rw[at4 _ _ _ b z3 z2 z1] at e
  refine (I.hok b u e).stay (fun d o hd q=>kp d o ?_ q) (fun d q=>bW hP hc hf q rfl) fun d xs q=>bW hP hc hf q rfl
  rcases hd with rfl | hd
  ·exact z3
  ·rintro rfl;rw[hP] at hd;cases hd
 ·refine ⟨⟨[],by simp,by simp⟩,fun a o e n t=>bW hP hc hf e t,fun a e=>?_⟩
  by_cases z1:a=h'.objs.size
  ·rw[z1];exact hf
  by_cases z2:a=c'
  ·rw[z2];exact hc
  by_cases z3:a=P
  ·subst z3;rw[at3] at e;cases e
  rw[at4 _ _ _ a z3 z2 z1] at e;exact e
 ·have sq:lA H (mk3 H P c' h'.objs.size (.tbl (ps++#[Q6 pos.line,Q6 pos.col,.ref c'])) (.frz oc (.own 0)) (.frz fo (.own 0))) :=
   ⟨fun a vs r=>r.elim (fun z=>.inl (bW hP hc hf z rfl)) fun ⟨o,z⟩=>.inr ⟨o,bW hP hc hf z rfl⟩,fun a vs r=>r.elim (fun z=>.inl (bW hP hc hf z rfl)) fun ⟨o,z⟩=>.inr ⟨o,bW hP hc hf z rfl⟩⟩
  refine R.tr sq (fun a ha=>?_) fun y hy c2 P2 e2=>?_
  ·obtain ⟨o,e,z⟩:=R.mu ha
   rw[e];exact bW hP hc hf e (by cases o<;>first | rfl | cases z)
  ·by_cases z:P2=P
   ·subst z
    obtain rfl:=uniq y hy c2 e2
    refine ⟨_,at3 _ _ _,?_,fun pos' v e=>?_⟩
    ·have:=TriplesOk_snoc pos.line pos.col (.ref c') ps.toList ht
     simpa using this
    ·have e':Sv pos' (ps.toList++[Q6 pos.line,Q6 pos.col,.ref c'])=some v:=by simpa using e
     rcases sI _ ht e' with q | q
     ·obtain ⟨c3,oc3,os3,t3,q1,q2,q3⟩:=hall pos' v q
      exact ⟨c3,oc3,os3,t3,q1,bW hP hc hf q2 rfl,q3⟩
     ·subst q
      exact ⟨c',oc,os,t,rfl,at2 _ _ _,hd,hq⟩
   ·obtain ⟨qs,e3,e4,e5⟩:=R.tb y hy c2 P2 e2
    refine ⟨qs,by rw[at4 _ _ _ P2 z (ay e3 hc) (ay e3 hf)];exact e3,e4,fun pos' v e=>?_⟩
    obtain ⟨c3,oc3,os3,t3,q1,q2,q3⟩:=e5 pos' v e
    exact ⟨c3,oc3,os3,t3,q1,bW hP hc hf q2 rfl,q3⟩
theorem zY {X:Cx}{pins:List (Addr×Obj)}{σ:L2.St}{H:Hp}{s:O4}{m:List Addr}{h:BT.HH} (I:Inv X pins σ H s) (R:RH X.K m H h) {x:Str} (lx:LX X x) {pa:Q8}{be:O1}{scope:Pu}{lp:Pos}{ps:List Str} (hp:LPa pa ps)
 (hfree:∀ y∈scope.names,y.2=.free->X.env.scope.names.lookup y.1=some .cell) {Q:O3->O4->Prop}{E:O3->O4->Prop}
 (hQ:∀ f H3 s3,Made X pins σ m H h (wg x) pa be scope (BC.cy X.env.cells scope.names []) f H3 s3->Q (.ref f) s3):wpAny (Pw X.prog X.w) X.A (eval (.Lambda pa be scope lp) X.env) Q E s:=by
 obtain ⟨c,P,tc,hcode,chd,uniq⟩:=lx.ex
 obtain ⟨ts,hP,ht,hall⟩:=R.tb x lx.mem c P tc
 have hPs:s.heap.get? P=some (Rk ts):=I.hok _ _ hP
 have hg:=I.ok.mod.glob.keeps I.bk
 obtain ⟨bm,ob,b1,b2,b3,b4,b5,b6⟩:=lx.bm
 have b3':=I.bk _ _ b3
 have hgP:Po≠P:=fun q=>by
  obtain ⟨o,es,ep,e,hd,_⟩:=hg
  rw[q,hPs] at e;cases e;cases hd
 have hbP:bm≠P:=fun q=>by
  rw[q,hPs] at b3';cases b3';cases b4
 have hbG:bm≠Po:=fun q=>by
  obtain ⟨o,es,ep,e,hd,_⟩:=hg
  rw[q,e] at b3';cases b3';rw[hd] at b6;cases b6
 have hcl:closureFor scope X.env=pure (BC.cy X.env.cells scope.names []):=BC.lE fun y hy e=>I.ok.has y.1 (.inl (hfree y hy e))
 have hB:s.heap.BuiltinsAt X.mg P:=⟨bm,ob,b1,b2,hbG,hbP,b3',b4,b5,b6⟩
 refine PySem.W.kla_eval (by cases hp<;>rfl) ?_
 rw[lx.ql]
 cases hq:Sv lp ts.toList with
 | none =>
  refine PySem.W.kla_makeFunction (mg:=X.mg) hcl I.ok.glob hg hcode (chd.keeps I.bk) hPs ht hq hgP hB fun c' ctv h' tk hx hge hlt hrec htb=>?_
  obtain ⟨c2,oc,vs,t,e2,hoc,hd,hv⟩:=hrec
  cases e2
  obtain ⟨z1,z2,z3⟩:=C9 (tk:=tk) (fo:=SH "<lambda>" (wg x) pa be scope (BC.cy X.env.cells scope.names []) ((X.mg "__name__").getD .none) c' ctv) I R lx tc hP ht hall uniq (f:=h'.objs.size) hq rfl hx hge hlt hoc hd hv htb
  have nf:h'.objs.size≠c':=QX hlt
  have e1:=I.hok.fresh (Qk (TX hge hlt))
  have e2:=I.hok.fresh hge
  exact hQ _ _ _ ⟨z1,z2,z3,_,ctv,c',oc,vs,t,⟨aD,R.dY e1⟩,⟨by unfold mk3;rw[av (Qd nf),aD],R.dY e2⟩,hd,hv⟩
 | some cv =>
  obtain ⟨c',oc,os,t,rfl,q2,q3,q4⟩:=hall _ _ hq
  refine PySem.W.kla_makeFunctionHit (mg:=X.mg) hcl I.ok.glob hg hcode (chd.keeps I.bk) hPs ht hq hB fun ctv h' tk hk hsz=>?_
  have e1:=I.hok.fresh hsz
  refine hQ _ _ _ ⟨I.laid (o:=.frz (SH "<lambda>" (wg x) pa be scope (BC.cy X.env.cells scope.names []) ((X.mg "__name__").getD .none) c' ctv) (.own 0)) (t':=tk) (fun b u e=>O2 _ (hk b u e)) hsz ⟨Pc _ rfl,_,Pc _ rfl⟩,fZ e1,R.new e1,_,ctv,c',oc,os,t,⟨aD,R.dY e1⟩,⟨zb e1 _ _ q2,R.nin q2 rfl⟩,q3,q4⟩
end BS
end
section
namespace BS
open PySem PySem.Spec PyProof.Rows L2
open Classical in
noncomputable def jj (cl:List (Str×Addr)) (h:Heap) (H:Hp):Hp:=fun b=>if ∃ x,cl.lookup x=some b then some (.frz ((h.get? b).getD default) (.own 0)) else H b
section
variable {cl:List (Str×Addr)}{h:Heap}{H:Hp}{b:Addr}
theorem kH {x:Str}{o:Obj} (e:cl.lookup x=some b) (g:h.get? b=some o):jj cl h H b=some (.frz o (.own 0)):=by
 unfold jj;rw[if_pos ⟨x,e⟩,g];rfl
theorem d7 (e:¬ ∃ x,cl.lookup x=some b):jj cl h H b=H b:=if_neg e
theorem Dc (N:∀ x c,cl.lookup x=some c->H c=none):Le H (jj cl h H):=fun a u e=>by
 rw[d7 (fun ⟨x,q⟩=>by rw[N x a q] at e;cases e)];exact e
end
theorem kI {cells:List (Str×Addr)}{y:Str}{d:Addr}:∀ {names:List (Str×Rm)}{acc:List (Str×Addr)},(BC.cy cells names acc).lookup y=some d->acc.lookup y=some d\/(y,Qe)∈names
 | [],acc,e=>.inl e
 | (n,k) :: r,acc,e=>by
  rw[BC.cy] at e
  split at e
  ·rename_i hk
   have hk:k=.free:=eq_of_beq hk
   split at e
   ·rename_i a ea
    rcases kI e with q | q
    ·rw[Qj] at q
     split at q
     ·rename_i hy
      have:y=n:=by simpa using hy
      subst this;subst hk
      exact .inr Pf
     ·exact .inl q
    ·exact .inr (Pb _ q)
   ·rcases kI e with q | q
    ·exact .inl q
    ·exact .inr (Pb _ q)
  ·rcases kI e with q | q
   ·exact .inl q
   ·exact .inr (Pb _ q)
theorem G9 {cells:List (Str×Addr)}{y:Str}{d:Addr}{names:List (Str×Rm)} (e:(BC.cy cells names []).lookup y=some d):(y,Qe)∈names:=by
 rcases kI e with q | q
 ·simp at q
 ·exact q
theorem RWs.le {P:Pi}{w:PK}{K:O0}{m:List Addr}{H H':Hp} (q:Le H H') {vs:List V}{ws:List BT.W} (r:RWs P w K m H vs ws):RWs P w K m H' vs ws:=by
 induction r with
 | nil=>exact .nil
 | cons r t ih=>exact .cons (r.le q) ih
section
variable {F:FT}{G:Str->Option BT.W}
theorem Hf {P:Pi}{w:PK}{K:O0}{m:List Addr}{H:Hp}{v:V}{x:BT.W}{cp:BT.Cp} (r:RW P w K m H v x) (e:BT.p5 x=some cp):RA K m H v cp.w:=by
 cases r with
 | p r=>cases e;exact .p r
 | o h=>cases e;exact .o h
 | r h=>cases e
 | k _ _=>cases e
 | c _ _=>cases e
 | g _ _=>cases e
theorem qz {X:Cx}{pins:List (Addr×Obj)}{σ:L2.St}{H:Hp}{s:O4}{m:List Addr}{g:BT.HH}{cl:List (Str×Addr)}{sc:Pu}{N:List Str}{sl:BT.Sl} (I:Inv X pins σ H s) (R:RH X.K m H g) (hsc:X.env.scope=sc) (hN:X.N=N) (S:RS X.prog X.w X.K m H σ sl)
 (hsub:∀ x c,cl.lookup x=some c->X.env.cells.lookup x=some c):∀ (fv:List (Nat×Str)) (cs:List BT.Cp),yX sc N fv=true->(∀ q∈fv,∃ c,cl.lookup q.2=some c)->BT.caps sl fv=some cs->∃ cvs,gn m (jj cl s.heap H) cl (fv.map (·.2)) cvs/\RCs X.K m H cvs cs
 | [],cs,_,_,e=>by cases e;exact ⟨[],.nil,.nil⟩
 | q :: r,cs,hv,hc,e=>by
  simp only[yX,UX,O5] at hv
  rw[BT.v9] at e
  split at e
  ·rename_i w g1
   obtain ⟨cp,e1,e2⟩:=Option.bind_eq_some_iff.mp e
   obtain ⟨cs',e3,rfl⟩:=aA e2
   obtain ⟨cvs,c1,c2⟩:=qz I R hsc hN S hsub r cs' hv.2 (fun q hq=>hc q (Pb _ hq)) e3
   obtain ⟨v,s1,rv⟩:=S.get _ _ g1
   obtain ⟨c,hcc⟩:=hc q Pf
   have hce:=hsub _ _ hcc
   obtain ⟨mm,hn,hl⟩:=I.loc
   have kc:X.env.scope.names.lookup q.2=some .cell:=by rw[hsc];exact eq_of_beq hv.1.2
   obtain ⟨u,ru,lk⟩:=hl q.1 q.2 v (by rw[hN];exact eq_of_beq hv.1.1) s1 (.inr (.inl kc))
   rcases lk with ⟨k,_⟩ | ⟨k,c',ec,o,ho,hd⟩
   ·have:X.env.scope.names.lookup q.2=some .local:=k
    rw[kc] at this;cases this
   ·rw[hce] at ec
    cases ec
    exact ⟨v :: cvs,.cons hcc ⟨kH hcc ho,R.dY (I.freeC _ _ hce)⟩ hd ru c1,.cons (Hf rv e1) c2⟩
  ·cases e
theorem wR {m:Str}{ea:BT.HH->Option (List BT.W×BT.HH)}{L:Nat}{ocs:Option (List BT.Cp)}{x:BT.W}{h:BT.HH}{r:BT.W×BT.HH} (e:BT.rX F m ea L ocs x h=some r) :
 ∃ n c fs ws g cs,x=.o n/\BT.oat h n=some (c,fs)/\(BT.aW m fs).isNone=true/\ea h=some (ws,g)/\ocs=some cs/\F (.m c m) (.o n :: (ws++[.c (.l L) cs])) g=some r/\BT.noC [r.1]=true:=by
 cases x with
 | o n =>
  rw[BT.yJ] at e
  cases g:BT.oat h n with
  | none=>rw[g] at e;cases e
  | some q =>
   obtain ⟨c,fs⟩:=q
   rw[g] at e
   simp only at e
   split at e
   ·rename_i c1
    obtain ⟨ws,g2,e1,e2⟩:=ai e
    cases ocs with
    | none=>cases e2
    | some cs =>
     rw[BT.we] at e2
     obtain ⟨z,h2,e3,e4⟩:=ai e2
     refine ⟨n,c,fs,ws,g2,cs,rfl,g,c1,e1,rfl,?_⟩
     cases z with
     | c _ _=>cases e4
     | p _=>cases e4;exact ⟨e3,rfl⟩
     | r _=>cases e4;exact ⟨e3,rfl⟩
     | k _=>cases e4;exact ⟨e3,rfl⟩
     | o _=>cases e4;exact ⟨e3,rfl⟩
   ·cases e
 | p d=>cases e
 | r n=>cases e
 | k q=>cases e
 | c _ _=>cases e
noncomputable def Hg (X:Cx) (F:FT) (G:Str->Option BT.W) (as:BT.Es) (args:List O1) (lam:O1):Prop :=
 ∀ (pos:Pos) (pins:List (Addr×Obj)) (s:O4) (σ:L2.St) (H:Hp) (m:List Addr) (sl:BT.Sl) (h:BT.HH) (ws:List BT.W) (g:BT.HH) (Q:List O3->O4->Prop),Inv X pins σ H s->RH X.K m H h->RS X.prog X.w X.K m H σ sl->BT.evs F G as sl h=some (ws,g) →
  (∀ vs us H1 s1 m1,Inv X pins σ H1 s1->au vs us->Ext m H m1 H1->RH X.K m1 H1 g->RWs X.prog X.w X.K m1 H1 vs ws->wpAny (Pw X.prog X.w) X.A (eval lam X.env) (fun u s2=>Q (us++[u]) s2) X.xe s1) →
  wpAny (Pw X.prog X.w) X.A (Uv (Rg pos (PL args X.env))) Q X.xe s
theorem Km {X:Cx}{pa:Q8}{be:O1}{scope:Pu}{lp:Pos}:Hg X F G .nil [.Lambda pa be scope lp] (.Lambda pa be scope lp):=by
 intro pos pins s σ H m sl h ws g Q I R S e k
 simp only[BT.evs] at e
 cases e
 show wpAny _ _ (Uv ((false,eval (.Lambda pa be scope lp) X.env) :: Rg pos (PL [] X.env))) _ _ s
 exact Q3 (thn (k [] [] H s m I .nil (.refl _ _) R .nil) fun u s2 q=>RK q)
theorem Kn {X:Cx}{a:BT.E}{e:O1}{pa:Q8}{be:O1}{scope:Pu}{lp:Pos} (hs:noStar e=true) (ha:PE X e (tD X F G a)):Hg X F G (.cons a .nil) [e,.Lambda pa be scope lp] (.Lambda pa be scope lp):=by
 intro pos pins s σ H m sl h ws g Q I R S ee k
 simp only[BT.evs] at ee
 obtain ⟨z,g1,e1,e2⟩:=ai ee
 simp only[BT.jW,BT.aQ,BT.gA] at e2
 cases e2
 rw[aj hs]
 show wpAny _ _ (Uv ((false,eval e X.env) :: Rg pos (PL [.Lambda pa be scope lp] X.env))) _ _ s
 refine Q3 (thn (ha pins s σ H (fun v H1=>∃ m1,Ext m H m1 H1/\RH X.K m1 H1 g/\RW X.prog X.w X.K m1 H1 v z) I ⟨m,sl,h,z,g,R,S,e1,fun v H1 m1 x1 R1 r1=>⟨m1,x1,R1,r1⟩⟩) fun u s1 ⟨v,H1,I1,r1,m1,x1,R1,w1⟩=>?_)
 show wpAny _ _ (Uv ((false,eval (.Lambda pa be scope lp) X.env) :: Rg pos (PL [] X.env))) _ _ s1
 exact Q3 (thn (k [v] [u] H1 s1 m1 I1 (.cons r1 .nil) x1 R1 (.cons w1 .nil)) fun u s2 q=>RK q)
theorem qA {X:Cx}{sc:Pu}{N:List Str} (O:Ok X F G sc N) (hf:∀ x,X.fn x=true) {o bt:BT.E}{m:Str}{as:BT.Es}{L:Nat}{fv:List (Nat×Str)}{oe be e0:O1}{rest:List O1}{apos cpos lp:Pos}{pa:Q8}{scope:Pu}{ns ps:List Str}
 (hl:BT.oj L=some ⟨ns,ns,.ret bt⟩) (hp:LPa pa ps) (hn:ns=ps++fv.map (·.2)) (hk:nq ps (fv.map (·.2)) scope=true) (hv:yX sc N fv=true) (ht:N.contains (BT.cg (BT.yR L))=true) (hc:CE' scope ns bt be) (h3:aB oe=true) (h6:(apos.endLine==cpos.line)=true)
 (hO:PE X oe (tD X F G o)) (hst:aq (e0 :: rest)=true) (hlen:(e0 :: rest).length < 20) (hS:Hg X F G as (e0 :: rest) (.Lambda pa be scope lp)) :
 PE X (.Call (.Attribute oe m apos) (e0 :: rest) [] cpos) (tD X F G (.methL o m as L fv)):=by
 have lx:=O.lamx hf _ ht
 have lf:=Ke hk
 subst hn
 intro pins s σ H Q I q
 obtain ⟨m0,s',h,z,h',R,S,ee,post⟩:=q
 simp only[BT.ev] at ee
 obtain ⟨x,h1,e1,e2⟩:=ai ee
 obtain ⟨n,c,fs,ws,g,cs,rfl,e3,e4,e5,e6,e7,e8⟩:=wR e2
 obtain ⟨C,ga,fd,ps',k,hC,hM,hB,hR,ok⟩:=O.meth _ _ _ _ _ e7
 refine RI (thn (hO pins s σ H (fun v H1=>∃ m1,Ext m0 H m1 H1/\RH X.K m1 H1 h1/\RW X.prog X.w X.K m1 H1 v (.o n)) I ⟨m0,s',h,_,h1,R,S,e1,fun v H1 m1 x1 R1 r1=>⟨m1,x1,R1,r1⟩⟩) fun u s1 ⟨v,H1,I1,rv,m1,x1,R1,w1⟩=>?_) (jK h3 hst hlen h6)
 cases w1 with
 | @o a _ ha =>
 obtain rfl:u=.ref a:=rv
 obtain ⟨C',dx,vs0,q1,q2,q3⟩:=R1.nu _ _ _ _ ha e3
 cases q2.cn.inj hC.cn
 refine fW I1 q1 hC.cls hM (q3.none e4) ?_
 have hst':=hst
 simp only[aq,O5] at hst'
 refine Rp (first:=[.ref a]) (h₀:=X.base) I.ok.mod.kin hM.kp (hS cpos pins s1 σ H1 m1 s' h1 ws g _ I1 R1 (S.ext x1) e5 fun vs us H2 s2 m2 I2 rvs x2 R2 w2=>?_) (aj hst'.1) (aE hst'.2)
 have hfree:∀ y∈scope.names,y.2=.free->X.env.scope.names.lookup y.1=some .cell:=fun y hy e=>by
  have hm:=lf.all y hy e
  obtain ⟨p,hp1,hp2⟩:=List.mem_map.mp hm
  have:=List.all_eq_true.mp hv p hp1
  simp only[O5] at this
  rw[O.hsc,← hp2];exact eq_of_beq this.2
 refine zY I2 R2 lx hp hfree fun f H3 s3 M=>?_
 have I3:=M.inv
 have hsub:∀ y d,(BC.cy X.env.cells scope.names []).lookup y=some d->X.env.cells.lookup y=some d:=fun y d e=>BC.lF (fun _ _ z=>by simp at z) y d e
 have hfr:∀ y d,(BC.cy X.env.cells scope.names []).lookup y=some d->y∈fv.map (·.2):=fun y d e=>lf.all (y,.free) (G9 e) rfl
 have hhas:∀ p∈fv,∃ d,(BC.cy X.env.cells scope.names []).lookup p.2=some d:=fun p hp'=>by
  have hm:=(lf.fre p.2 (Vz hp')).2
  exact BC.lG hm (I3.ok.has p.2 (.inl (hfree _ hm rfl)))
 generalize BC.cy X.env.cells scope.names []=cl at M hsub hfr hhas
 have hcel:∀ y d,cl.lookup y=some d->X.s₀.heap.objs.size<=d:=fun y d e=>I3.ok.cab y d (hf y) (hsub y d e)
 have hnone:∀ y d,cl.lookup y=some d->H3 d=none:=fun y d e=>I3.freeC y d (hsub y d e)
 have hobj:∀ y d,cl.lookup y=some d->∃ o u,s3.heap.get? d=some o/\o.data=.cell u:=fun y d e=>by
  obtain ⟨u,ob,g1,g2⟩:=I3.cell y d (hsub y d e)
  exact ⟨ob,u,g1,g2⟩
 have hfrm:∀ y d,cl.lookup y=some d->d∉frs X.stack:=fun y d e hb=>by
  rcases List.mem_cons.mp (I3.kL d hb) with q | q
  ·exact I3.cne y d (hsub y d e) q
  ·obtain ⟨_,ob,g1,_⟩:=I3.ok.iI.mem q
   exact absurd (O7 g1) (Nat.not_lt.mpr (hcel y d e))
 obtain ⟨cvs,cp,rc⟩:=qz I3 M.rh O.hsc O.hN ((S.ext x1).ext (x2.trans M.ext)) hsub fv cs hv hhas e6
 have le:Le H3 (jj cl s3.heap H3):=Dc hnone
 obtain ⟨pm,ctv,c',oc,os,t,t1,t2,t3,t4⟩:=M.ex
 have la:gD m2 (jj cl s3.heap H3) f L cvs:=⟨bt,ps,fv.map (·.2),pa,be,scope,cl,pm,ctv,c',oc,os,t,_,hl,hp,hk,hc,fun y y' d e e'=>I3.ok.inj _ _ _ (hsub _ _ e) (hsub _ _ e'),hfr,⟨le _ _ t1.1,t1.2⟩,⟨le _ _ t2.1,t2.2⟩,t3,t4,cp⟩
 have R4:RH X.K m2 (jj cl s3.heap H3) g:=M.rh.le le
 have w4:RWs X.prog X.w X.K m2 (jj cl s3.heap H3) (.ref a :: (vs++[.ref f])) (.o n :: (ws++[.c (.l L) cs])):=.cons (.o (x2.ix ha)) (RWs.app ((w2.ext M.ext).le le) (.cons (.c la (rc.tr le.sq)) .nil))
 have out:∀ b ob,X.base.get? b=some ob->¬ ∃ y,cl.lookup y=some b:=fun b ob e ⟨y,q⟩=>absurd (O7 (I3.ok.bs b ob e).1) (Nat.not_lt.mpr (hcel y b q))
 have e04:mq X.prog X.w X.K X.mg X.base X.A X.stack s3 (jj cl s3.heap H3):=by
  refine ⟨I3.ok.frames,I3.ok.mod,fun b ob e=>⟨(I3.bs b ob e).1,by rw[d7 (out b ob e)];exact (I3.bs b ob e).2⟩,PZ I3.ok.bsz I3.sz,I3.stack,fun b hb=>?_,fun b u e=>?_,I3.bare⟩
  ·rw[d7 (fun ⟨y,q⟩=>hfrm y b q hb)];exact I3.nK b hb
  ·by_cases cc:∃ y,cl.lookup y=some b
   ·obtain ⟨y,q⟩:=cc
    obtain ⟨ob,uu,g1,g2⟩:=hobj y b q
    rw[kH q g1] at e
    cases e
    exact ⟨g1,_,g1⟩
   ·rw[d7 cc] at e
    exact (I3.hok b u e).stay (fun _ _ _ z=>z) (fun d z=>le _ _ z) fun d xs z=>le _ _ z
 have rv4:au (V.ref a :: (vs++[.ref f])) (Pz a :: (us++[.ref f])):=.cons rfl (rvs.append (.cons rfl .nil))
 have sp4:spF X.prog X.w X.K (F (.m c m)) (V.ref a :: (vs++[.ref f])) (jj cl s3.heap H3) (fun v5 H5=>∃ m5,Ext m2 (jj cl s3.heap H3) m5 H5/\RH X.K m5 H5 h'/\RW X.prog X.w X.K m5 H5 v5 z) E0:=⟨m2,_,g,z,h',R4,w4,e7,fun v5 H5 m5 x5 R5 r5=>⟨m5,x5,R5,r5⟩⟩
 have hl4:(Pz a :: (us++[.ref f])).length=ps'.length:=by rw[← rv4.length];exact ok.len _ _ _ _ sp4
 have hb4:=hB s3 (Pz a :: (us++[.ref f])) I3.kIn (by rw[P4];exact hl4)
 rw[P4] at hb4
 have run4:=ok.run X.A X.stack s3 (jj cl s3.heap H3) ⟨Pz a :: (us++[Pz f]),[]⟩ (Pz a :: (us++[Pz f])) _ _ E0 hR e04 hb4 rv4 sp4
 refine ⟨I3.kIn,?_⟩
 show wpAny (Pw X.prog X.w) X.A (call (.ref ga) (Pz a :: (us++[Pz f]))) _ _ s3
 refine SM (codeAny_mono run4 fun r s' hq=>?_)
 cases r with
 | error e=>exact P5 hq
 | ok fl =>
  cases fl with
  | next=>exact P5 hq
  | brk=>exact P5 hq
  | cont=>exact P5 hq
  | ret u =>
   obtain ⟨v5,H5,os5,bare5,un,hok5,rv5,m5,x5,R5,r5⟩:=hq
   have C5:cu cl H5:=fun y d e=>by
    obtain ⟨ob,uu,g1,g2⟩:=hobj y d e
    exact ⟨ob,uu,un.frzs _ _ _ (kH e g1),g2⟩
   have nc:∀ b uu,H3 b=some uu->¬ ∃ y,cl.lookup y=some b:=fun b uu e ⟨y,q⟩=>by rw[hnone y b q] at e;cases e
   have un6:Un (frs X.stack) [] H3 (hid cl H5) s3.heap s'.heap:=by
    refine ⟨fun b ob e nn hb hx=>?_,fun b ob e nn hb hx=>?_,fun b ob e nn hx=>?_,fun b ob e hx=>un.there b ob e hx,fun b xs e=>?_,fun b ob uu e=>?_,fun b qs e=>?_⟩
    ·by_cases cc:∃ y,cl.lookup y=some b
     ·obtain ⟨y,q⟩:=cc
      exact (hok5 _ _ (un.frzs _ _ _ (kH q e))).1
     ·exact un.keep b ob e (by rw[d7 cc];exact nn) hb hx
    ·exact un.slot b ob e (by rw[d7 (fun ⟨y,q⟩=>hfrm y b q hb)];exact nn) hb hx
    ·by_cases cc:∃ y,cl.lookup y=some b
     ·obtain ⟨y,q⟩:=cc;exact su q
     ·exact dZ (un.free b ob e (by rw[d7 cc];exact nn) hx)
    ·rw[dB (nc _ _ e)];exact un.tups b xs (le _ _ e)
    ·rw[dB (nc _ _ e)];exact un.frzs b ob uu (le _ _ e)
    ·rw[dB (nc _ _ e)];exact un.tbls b qs (le _ _ e)
   have I6:=I3.IL os5 un6 (uy C5 hok5 fun _ _ e=>e) bare5 (fun b zz=>absurd zz (by simp))
   have x6:Ext m2 H3 m5 (hid cl H5):=by
    obtain ⟨ex,hm,he⟩:=x5.pre
    have lno:∀ b,jj cl s3.heap H3 b=none->H3 b=none:=fun b e=>by
     cases gg:H3 b with
     | none=>rfl
     | some uu=>rw[le _ _ gg] at e;cases e
    refine ⟨⟨ex,hm,fun b hb=>lno b (he b hb)⟩,fun b ob e nn tt=>?_,fun b e=>?_⟩
    ·rw[dB (nc _ _ e)];exact x5.keep b ob (le _ _ e) nn tt
    ·by_cases cc:∃ y,cl.lookup y=some b
     ·obtain ⟨y,q⟩:=cc;exact hnone y b q
     ·rw[dB cc] at e;exact lno b (x5.live b e)
   have r6:RW X.prog X.w X.K m5 (hid cl H5) v5 z:=by
    have:=RWs.tr C5.sq (.cons r5 .nil) e8
    cases this with
    | cons r _=>exact r
   exact ⟨v5,hid cl H5,I6,rv5,post v5 _ m5 ((x1.trans (x2.trans M.ext)).trans x6) (C5.rh R5) r6⟩
end
end BS
end
section
namespace BS
open PySem PySem.Spec PyProof.Rows L2
noncomputable def gK:O1->Bool
 | .ListComp _ _ _ _=>false
 | .SetComp _ _ _ _=>false
 | .DictComp _ _ _ _ _=>false
 | _=>true
noncomputable def swB (sc scope:Pu) (x:Str) (np pos:Pos):Bool :=
 (if sc.kind.isAnnotationScope then ScopeKind.function else sc.kind)==.function&&sc.names.lookup x==some .local&&np.line==pos.line&&!(scope.names.any fun (n,k)=>n==x&&(k==.local||k==.cell))
mutual
inductive CS (sc:Pu) (N:List Str):BT.S->Qf->Prop where
 | setL {i:Nat}{x m:Str}{o:BT.E}{as:BT.Es}{L:Nat}{fv:List (Nat×Str)}{call:O1}{np p:Pos} (h1:N[i]?=some x) (h2:kh sc x=true) (hl:CL sc N o m as L fv call):CS sc N (.set i x (.methL o m as L fv)) (.Assign [.Name x np] call p)
 | retL {m:Str}{o:BT.E}{as:BT.Es}{L:Nat}{fv:List (Nat×Str)}{call:O1}{p:Pos} (hl:CL sc N o m as L fv call):CS sc N (.ret (.methL o m as L fv)) (.Return (some call) p)
 | setc {i:Nat}{x:Str}{mu:Bool}{sr:BT.Sr}{sa:BT.Es}{tg:List Str}{fv:List (Nat×Str)}{cond:BT.Es}{elt:BT.E}{te iter elt':O1}{ifs:List O1}{scope:Pu}{pos np p:Pos} (h1:N[i]?=some x) (h3:(sc.names.lookup x==some .cell||swB sc scope x np pos)=true)
  (hk:iR sc N tg fv scope=true) (ht:qi (aT scope sc) tg te=true) (hz:qf sr te=true) (hs:iP iter=true) (hi:CI sc N sr sa iter) (hc:CC (aT scope sc) (tg++fv.map (·.2)) cond ifs) (he:CE' (aT scope sc) (tg++fv.map (·.2)) elt elt') :
  CS sc N (.set i x (.comp mu sr sa tg fv cond elt)) (.Assign [.Name x np] (.ListComp elt' [⟨te,iter,ifs,0⟩] scope pos) p)
 | set {i:Nat}{x:Str}{e:BT.E}{v:O1}{np p:Pos} (h1:N[i]?=some x) (h2:kh sc x=true) (h3:gK v=true) (he:CE' sc N e v):CS sc N (.set i x e) (.Assign [.Name x np] v p)
 | put {i:Nat}{x:Str}{k e:BT.E}{ke v:O1}{np sp p:Pos} (h1:N[i]?=some x) (h2:jY sc x=true) (h3:cj x=true) (h4:gK v=true) (h5:je ke=true) (hk:CE' sc N k ke) (he:CE' sc N e v):CS sc N (.put i x k e) (.Assign [.Subscript (.Name x np) ke sp] v p)
 | putd {i:Nat}{x:Str}{k e:BT.E}{ke v:O1}{np sp p:Pos} (h1:N[i]?=some x) (h2:jY sc x=true) (h3:cj x=true) (h4:gK v=true) (h5:je ke=true) (hk:CE' sc N k ke) (he:CE' sc N e v):CS sc N (.putd i x k e) (.Assign [.Subscript (.Name x np) ke sp] v p)
 | aug {i:Nat}{x:Str}{o:BT.Bin}{op:Sa}{e:BT.E}{v:O1}{np p:Pos} (h1:N[i]?=some x) (h2:kh sc x=true) (h3:zG o op=true) (he:CE' sc N e v):CS sc N (.aug i x o e) (.AugAssign (.Name x np) op v p)
 | setf {o e:BT.E}{f:Str}{oe v:O1}{np p:Pos} (h1:attrName f=true) (h2:gK v=true) (ho:CE' sc N o oe) (he:CE' sc N e v):CS sc N (.setf o f e) (.Assign [.Attribute oe f np] v p)
 | augf {o e:BT.E}{f:Str}{b:BT.Bin}{op:Sa}{oe v:O1}{np p:Pos} (h1:attrName f=true) (h3:zG b op=true) (ho:CE' sc N o oe) (he:CE' sc N e v):CS sc N (.augf o f b e) (.AugAssign (.Attribute oe f np) op v p)
 | ex {e:BT.E}{v:O1}{p:Pos} (h:gK v=true) (he:CE' sc N e v):CS sc N (.ex e) (.Expr v p)
 | ret {e:BT.E}{v:O1}{p:Pos} (he:CE' sc N e v):CS sc N (.ret e) (.Return (some v) p)
 | ife {c:BT.E}{a b:BT.S}{t:O1}{xs ys:List Qf}{p:Pos} (h:tOK c=true) (hc:CE' sc N c t) (ha:CSs sc N a xs) (hb:CSs sc N b ys):CS sc N (.ife c a b) (.If t xs ys p)
 | whl {c:BT.E}{b:BT.S}{t:O1}{xs:List Qf}{p:Pos} (h:tOK c=true) (hc:CE' sc N c t) (hb:CSs sc N b xs):CS sc N (.whl c b) (.While t xs [] p)
 | for {tg:List (Nat×Str)}{sr:BT.Sr}{sa:BT.Es}{b:BT.S}{te iter:O1}{xs:List Qf}{p:Pos} (ht:CT sc N tg te) (hi:CI sc N sr sa iter) (hz:qf sr te=true) (hs:iP iter=true) (hb:CSs sc N b xs):CS sc N (.for tg sr sa b) (.For te iter xs [] p)
 | brk {p:Pos}:CS sc N .brk (.Break p)
 | cnt {p:Pos}:CS sc N .cnt (.Continue p)
 | bad {st:Qf}:CS sc N .bad st
inductive CSs (sc:Pu) (N:List Str):BT.S->List Qf->Prop where
 | nil:CSs sc N .nil []
 | one {s:BT.S}{st:Qf} (h:CS sc N s st):CSs sc N s [st]
 | cons {a b:BT.S}{st st2:Qf}{r:List Qf} (h:CS sc N a st) (hr:CSs sc N b (st2 :: r)):CSs sc N (.seq a b) (st :: st2 :: r)
end
noncomputable def jk (X:Cx) (m:List Addr) (H:Hp) (fl:BT.Fl) (D:Ends):Prop:=match fl with
 | .nx s' h'=>∀ σ' H' m',Ext m H m' H'->RH X.K m' H' h'->RS X.prog X.w X.K m' H' σ' s'->D.nx σ' H'
 | .rt z h'=>∀ v H' m',Ext m H m' H'->RH X.K m' H' h'->RW X.prog X.w X.K m' H' v z->D.rt v H'
 | .bk s' h'=>∀ σ' H' m',Ext m H m' H'->RH X.K m' H' h'->RS X.prog X.w X.K m' H' σ' s'->D.bk σ' H'
 | .ct s' h'=>∀ σ' H' m',Ext m H m' H'->RH X.K m' H' h'->RS X.prog X.w X.K m' H' σ' s'->D.ct σ' H'
theorem jk.ext {X:Cx}{m m':List Addr}{H H':Hp}{fl:BT.Fl}{D:Ends} (x:Ext m H m' H') (p:jk X m H fl D):jk X m' H' fl D:=by
 cases fl<;>exact fun a b c y=>p a b c (x.trans y)
noncomputable def tDS (X:Cx) (F:FT) (G:Str->Option BT.W) (S:BT.S):TS:=fun D σ H =>
 ∃ m s h fl,RH X.K m H h/\RS X.prog X.w X.K m H σ s/\BT.evS F G S s h=some fl/\jk X m H fl D
theorem PS.weak {X:Cx}{st:Qf}{t t':TS} (h:PS X st t) (q:∀ D σ H,t' D σ H->t D σ H):PS X st t':=fun pins s σ H D I hw=>h pins s σ H D I (q _ _ _ hw)
theorem PSs.weak {X:Cx}{st:List Qf}{t t':TS} (h:PSs X st t) (q:∀ D σ H,t' D σ H->t D σ H):PSs X st t':=fun pins s σ H D I hw=>h pins s σ H D I (q _ _ _ hw)
section
variable {F:FT}{G:Str->Option BT.W}
theorem Hh {X:Cx}{a b:BT.S} (D:Ends) (σ:L2.St) (H:Hp) (q:tDS X F G (.seq a b) D σ H):IT (tDS X F G a) (tDS X F G b) D σ H:=by
 obtain ⟨m,s,h,fl,R,S,e,post⟩:=q
 simp only[BT.evS] at e
 cases g:BT.evS F G a s h with
 | none=>rw[g] at e;cases e
 | some f1 =>
  rw[g] at e
  refine ⟨m,s,h,f1,R,S,g,?_⟩
  cases f1 with
  | nx s1 h1=>exact fun σ1 H1 m1 x1 R1 S1=>⟨m1,s1,h1,fl,R1,S1,e,post.ext x1⟩
  | rt z h1=>cases e;exact post
  | bk s1 h1=>cases e;exact post
  | ct s1 h1=>cases e;exact post
theorem iE {X:Cx}{S0:BT.S}{a:BT.E}{k:BT.Sl->BT.W->BT.HH->Option BT.Fl} (he:∀ s h,BT.evS F G S0 s h=BT.bnd (BT.ev F G a s h) (k s)) {D:Ends}{σ:L2.St}{H:Hp} (q:tDS X F G S0 D σ H) {R':V->Hp->Prop}
 (h1:∀ m s h x fl v H1,RH X.K m H1 h->RS X.prog X.w X.K m H1 σ s->RW X.prog X.w X.K m H1 v x->k s x h=some fl->jk X m H1 fl D->R' v H1):tD X F G a σ H R':=by
 obtain ⟨m,s,h,fl,R,S,ee,post⟩:=q
 rw[he] at ee
 obtain ⟨x,g,e1,e2⟩:=ai ee
 exact ⟨m,s,h,x,g,R,S,e1,fun v H1 m1 x1 R1 r1=>h1 m1 s g x fl v H1 R1 (S.ext x1) r1 e2 (post.ext x1)⟩
theorem uH {x:Option (BT.W×BT.HH)}{k:Bool->BT.HH->Option BT.Fl}{fl:BT.Fl} (h:BT.tst x k=some fl):∃ b g,x=some (.p (.bl b),g)/\k b g=some fl:=by
 unfold BT.tst at h
 obtain ⟨w,g,e1,e2⟩:=ai h
 unfold BT.JV at e2
 cases w with
 | p d =>
  cases d<;>simp only at e2<;>try contradiction
  exact ⟨_,g,e1,e2⟩
 | r n=>cases e2
 | k q=>cases e2
 | c _ _=>cases e2
 | o q=>cases e2
theorem jl {e:O1}{t:Option O1}{l:Nat}{env:Env} (h:gK e=true):Ss e t l env=pure false:=by
 cases e<;>first | rfl | cases h
theorem uI {e t:O1}{l:Nat}{env:Env} (h:gK e=true):swapsWithSole [t] e l env=pure false:=jl h
theorem lJ {o i:O1}{pos:Pos}{env:Env} (h:je i=true):∀ v,U5 (.Subscript o i pos) env v=(do
 let ov ← holding [v] (eval o env)
 let iv ← holding [v,ov] (eval i env)
 standAt pos
 holding [v,ov,iv] (setItem ov iv v)
 release [v,ov,iv] []):=by
 intro v
 cases i<;>first | rfl | cases h
theorem Hi {X:Cx}{c:BT.E}{b:BT.S} (D:Ends) (σ:L2.St) (H:Hp) (q:tDS X F G (.whl c b) D σ H):xM (tDT X F G c) (tDS X F G b) D σ H:=by
 obtain ⟨m0,s,h,fl,R,S,e,post⟩:=q
 simp only[BT.evS] at e
 refine ⟨fun n σ H=>∃ m s h,RH X.K m H h/\RS X.prog X.w X.K m H σ s/\BT.aU (BT.ev F G c) (BT.evS F G b) n s h=some fl/\jk X m H fl D,⟨BT.turns,m0,s,h,R,S,e,post⟩,?_⟩
 rintro n σ1 H1 ⟨m,s,h,R,S,e,post⟩
 cases n with
 | zero=>cases e
 | succ n =>
  rw[BT.aU] at e
  obtain ⟨t,g,e1,e2⟩:=uH e
  refine ⟨m,s,h,t,g,R,S,e1,fun H2 m2 x2 R2=>?_⟩
  cases t with
  | false =>
   rw[BT.gC] at e2
   cases e2
   rw[if_neg (by decide)]
   exact post σ1 H2 m2 x2 R2 (S.ext x2)
  | true =>
   rw[BT.iO] at e2
   rw[if_pos rfl]
   refine ⟨fun σ' H'=>∃ m' s' h',RH X.K m' H' h'/\RS X.prog X.w X.K m' H' σ' s'/\BT.aU (BT.ev F G c) (BT.evS F G b) n s' h'=some fl/\jk X m' H' fl D,fun σ' H' ⟨m',s',h',a1,a2,a3,a4⟩=>⟨n,Q2 n,m',s',h',a1,a2,a3,a4⟩,?_⟩
   cases gb:BT.evS F G b s g with
   | none=>rw[gb] at e2;cases e2
   | some f1 =>
    rw[gb] at e2
    refine ⟨m2,s,g,f1,R2,S.ext x2,gb,?_⟩
    cases f1 with
    | nx s1 h1=>exact fun σ3 H3 m3 x3 R3 S3=>⟨m3,s1,h1,R3,S3,e2,(post.ext x2).ext x3⟩
    | ct s1 h1=>exact fun σ3 H3 m3 x3 R3 S3=>⟨m3,s1,h1,R3,S3,e2,(post.ext x2).ext x3⟩
    | bk s1 h1=>cases e2;exact fun σ3 H3 m3 x3 R3 S3=>post σ3 H3 m3 (x2.trans x3) R3 S3
    | rt z h1=>cases e2;exact fun v H3 m3 x3 R3 r3=>post v H3 m3 (x2.trans x3) R3 r3
theorem Hj {X:Cx}{i:Nat}{x:Str}{o:BT.Bin}{e:BT.E} (D:Ends) (σ:L2.St) (H:Hp) (q:tDS X F G (.aug i x o e) D σ H):IX i (tD X F G e) (GQ o) D σ H:=by
 obtain ⟨m,s,h,fl,R,S,ee,post⟩:=q
 simp only[BT.evS] at ee
 obtain ⟨y,g,e1,e2⟩:=ai ee
 unfold BT.J1 at e2
 have hs:∃ d d' z,s[i]?=some (some (.p d))/\y=.p d'/\BT.kY o d d'=some z/\fl=.nx (s.set i (some (.p z))) g:=by
  cases g1:s[i]? with
  | none=>rw[g1] at e2;cases y<;>cases e2
  | some ow =>
   cases ow with
   | none=>rw[g1] at e2;cases y<;>cases e2
   | some w0 =>
    rw[g1] at e2
    cases w0<;>cases y<;>simp only at e2<;>try contradiction
    obtain ⟨z,e3,e4⟩:=aA e2
    exact ⟨_,_,z,rfl,rfl,e3,e4.symm⟩
 obtain ⟨d,d',z,g1,rfl,e3,rfl⟩:=hs
 obtain ⟨a,b,k,rfl,rfl,rfl⟩:=uw e3
 obtain ⟨v,hv,rv⟩:=S.get i _ g1
 have ev:v=.int a:=by cases rv with | p rv=>cases rv;rfl
 subst ev
 refine ⟨_,hv,m,s,h,_,g,R,S,e1,fun u H1 m1 x1 R1 r1=>?_⟩
 cases r1 with
 | p r1 =>
  cases r1
  exact ⟨a,b,k,rfl,rfl,e3,post _ H1 m1 x1 R1 ((S.ext x1).set (.p (.int k)))⟩
theorem wU {s:BT.Sl}{f:Str}{v x:BT.W}{h:BT.HH}{fl:BT.Fl} (e:BT.oh s f v x h=some fl):∃ n c fs,x=.o n/\BT.oat h n=some (c,fs)/\BT.attrOk v=true/\fs.length < 1000/\fl=.nx s (h.set n (.o c (BT.bq f v fs))):=by
 cases x with
 | o n =>
  rw[BT.yM] at e
  cases g:BT.oat h n with
  | none=>rw[g] at e;cases e
  | some q =>
   obtain ⟨c,fs⟩:=q
   rw[g] at e
   simp only at e
   split at e
   ·rename_i c1
    cases e
    simp only[O5,decide_eq_true_eq] at c1
    exact ⟨n,c,fs,rfl,g,c1.1,c1.2,rfl⟩
   ·cases e
 | p d=>cases e
 | r n=>cases e
 | k q=>cases e
 | c _ _=>cases e
theorem qB {X:Cx}{D:Ends}{m:List Addr}{H:Hp}{σ:L2.St}{s:BT.Sl}{h:BT.HH}{n:Nat}{c f:Str}{fs:List (Str×BT.W)}{y:BT.W}{v:V}{a C dx:Addr}{vs:List (Str×V)} (R:RH X.K m H h) (S:RS X.prog X.w X.K m H σ s) (hn:m[n]?=some a) (h1:H a=some (.ins C dx vs)) (h2:lq X.K c C) (h3:RFs X.K m H vs fs) (ra:RA X.K m H v y)
 (post:jk X m H (.nx s (h.set n (.o c (BT.bq f y fs)))) D):D.nx σ (upd H a (.ins C dx (L2.bq f v vs))):=by
 have x:Ext m H m (upd H a (.ins C dx (L2.bq f v vs))):=jf (Ph hn)
 exact post σ _ m x (R.setC hn ⟨C,dx,_,aD,h2,(RFs.put ra h3).ext x⟩) (S.ext x)
theorem Dd {X:Cx}{o e:BT.E}{f:Str} (hf:attrName f=true) (D:Ends) (σ:L2.St) (H:Hp) (q:tDS X F G (.setf o f e) D σ H):Jj X.K (tD X F G o) (tD X F G e) f D σ H:=by
 refine iE (k:=fun s=>BT.yN (BT.ev F G o s) s f) (fun s h=>by simp only[BT.evS]) q fun m s h y fl v H1 R S r e1 post=>?_
 rw[BT.yO] at e1
 obtain ⟨x,g,e2,e3⟩:=ai e1
 obtain ⟨n,c,fs,rfl,g1,ok,hl,rfl⟩:=wU e3
 refine ⟨m,s,h,.o n,g,R,S,e2,fun u H2 m2 x2 R2 r2=>?_⟩
 cases r2 with
 | @o a _ hn =>
  obtain ⟨C,dx,vs,q1,q2,q3⟩:=R2.nu _ _ _ _ hn g1
  exact ⟨a,C,dx,vs,rfl,q1,q2.cls,q2.no f hf,by rw[q3.length];exact hl,qB R2 (S.ext x2) hn q1 q2 q3 ((r.ext x2).ra ok) (post.ext x2)⟩
theorem zZ {ee:BT.EH}{s:BT.Sl}{f:Str}{op:BT.Bin}{x:BT.W}{h:BT.HH}{fl:BT.Fl} (e:BT.tY ee s f op x h=some fl):∃ n c fs d y g fs' z,x=.o n/\BT.oat h n=some (c,fs)/\BT.aW f fs=some (.p d)/\ee h=some (.p y,g)/\BT.oat g n=some (c,fs')/\BT.kY op d y=some z/\fs'.length < 1000/\fl=.nx s (g.set n (.o c (BT.bq f (.p z) fs'))):=by
 cases x with
 | o n =>
  rw[BT.Cg] at e
  cases g1:BT.oat h n with
  | none=>rw[g1] at e;cases e
  | some q =>
   obtain ⟨c,fs⟩:=q
   rw[g1] at e
   simp only at e
   cases g2:BT.aW f fs with
   | none=>rw[g2] at e;cases e
   | some w0 =>
    rw[g2] at e
    cases w0 with
    | p d =>
     simp only at e
     obtain ⟨y,g,e1,e2⟩:=ai e
     cases y with
     | p y =>
      rw[BT.yP] at e2
      cases g3:BT.oat g n with
      | none=>rw[g3] at e2;cases e2
      | some q =>
       obtain ⟨c',fs'⟩:=q
       rw[g3] at e2
       simp only at e2
       cases g4:BT.kY op d y with
       | none=>rw[g4] at e2;cases e2
       | some z =>
        rw[g4] at e2
        simp only at e2
        split at e2
        ·rename_i c1
         cases e2
         obtain ⟨rfl,c1⟩:=c1
         exact ⟨n,c',fs,d,y,g,fs',z,rfl,g1,g2,e1,g3,g4,c1,rfl⟩
        ·cases e2
     | r n=>cases e2
     | k q=>cases e2
     | c _ _=>cases e2
     | o n=>cases e2
    | r n=>cases e
    | k q=>cases e
    | c _ _=>cases e
    | o n=>cases e
 | p d=>cases e
 | r n=>cases e
 | k q=>cases e
 | c _ _=>cases e
theorem De {X:Cx}{o e:BT.E}{f:Str}{b:BT.Bin} (hf:attrName f=true) (D:Ends) (σ:L2.St) (H:Hp) (q:tDS X F G (.augf o f b e) D σ H):tE X.K (tD X F G o) (tD X F G e) (GQ b) f D σ H:=by
 refine iE (k:=fun s=>BT.tY (BT.ev F G e s) s f b) (fun s h=>by simp only[BT.evS]) q fun m s h y fl v H1 R S r e1 post=>?_
 obtain ⟨n,c,fs,d,y,g,fs',z,rfl,g1,g2,e2,g3,g4,hl,rfl⟩:=zZ e1
 obtain ⟨i,j,k,rfl,rfl,rfl⟩:=uw g4
 cases r with
 | @o a _ hn =>
  obtain ⟨C,dx,vs,q1,q2,q3⟩:=R.nu _ _ _ _ hn g1
  obtain ⟨u,l,ra⟩:=q3.get g2
  have eu:u=.int i:=by cases ra with | p ra=>cases ra;rfl
  subst eu
  refine ⟨a,C,dx,vs,_,rfl,q1,q2.cls,q2.no f hf,l,m,s,h,_,g,R,S,e2,fun u2 H2 m2 x2 R2 r2=>?_⟩
  cases r2 with
  | p r2 =>
   cases r2
   obtain ⟨C',dx',vs',p1,p2,p3⟩:=R2.nu _ _ _ _ (x2.ix hn) g3
   cases p2.cn.inj q2.cn
   exact ⟨i,j,k,rfl,rfl,g4,dx',vs',p1,by rw[p3.length];exact hl,qB R2 (S.ext x2) (x2.ix hn) p1 p2 p3 (.p (.int k)) (post.ext x2)⟩
theorem Hl {X:Cx}{i:Nat}{x:Str}{k e:BT.E} (D:Ends) (σ:L2.St) (H:Hp) (q:tDS X F G (.put i x k e) D σ H):vD (tD X F G e) (Fd (tD X F G (.var i x)) (tD X F G k) Ex) D σ H:=by
 refine iE (k:=fun s=>BT.Gp (BT.ev F G k s) s i) (fun s h=>by simp only[BT.evS]) q fun m s h y fl v H1 R S r e1 post=>?_
 unfold BT.Gp at e1
 cases y with
 | r n=>cases e1
 | k q=>cases e1
 | c _ _=>cases e1
 | o q=>cases e1
 | p d =>
  cases g:s[i]? with
  | none=>rw[g] at e1;cases e1
  | some o =>
   cases o with
   | none=>rw[g] at e1;cases e1
   | some wz =>
    cases wz with
    | p _=>rw[g] at e1;cases e1
    | k _=>rw[g] at e1;cases e1
    | c _ _=>rw[g] at e1;cases e1
    | o _=>rw[g] at e1;cases e1
    | r n =>
     rw[g] at e1
     simp only at e1
     obtain ⟨q,h2,e2,e3⟩:=ai e1
     refine ⟨m,s,h,.r n,h,R,S,by simp only[BT.ev,g],fun o H2 m2 x2 R2 r2=>⟨m2,s,h,q,h2,R2,S.ext x2,e2,fun ki H3 m3 x3 R3 r3=>?_⟩⟩
     unfold BT.ED at e3
     cases q with
     | r _=>cases e3
     | k _=>cases e3
     | c _ _=>cases e3
     | o _=>cases e3
     | p dk =>
      cases g2:BT.lat h2 n with
      | none=>rw[g2] at e3;cases dk<;>cases e3
      | some xs =>
       rw[g2] at e3
       cases dk with
       | int j =>
        simp only at e3
        cases g3:BT.place xs.length j with
        | none=>rw[g3] at e3;cases e3
        | some mm =>
         rw[g3] at e3
         cases e3
         have r2':=r2.ext x3
         cases r2' with
         | @r a _ hn =>
          cases r3 with
          | p r3 =>
           cases r3
           obtain ⟨us,hH,ru⟩:=R3.cell n a xs hn g2
           refine ⟨a,us,j,mm,rfl,rfl,hH,by rw[ru.length];exact g3,?_⟩
           have x4:Ext m3 H3 m3 (upd H3 a (.lst (us.set mm v))):=fM (Ph hn) hH
           cases r with
           | p r=>exact post σ _ m3 ((x2.trans x3).trans x4) (R3.set hn hH (RDs.set ((r.ext x2).ext x3) mm ru)) (((S.ext x2).ext x3).ext x4)
       | _=>cases e3
theorem Df {X:Cx}{i:Nat}{x:Str}{k e:BT.E} (D:Ends) (σ:L2.St) (H:Hp) (q:tDS X F G (.putd i x k e) D σ H):vD (tD X F G e) (Fd (tD X F G (.var i x)) (tD X F G k) EK) D σ H:=by
 refine iE (k:=fun s=>BT.tX (BT.ev F G k s) s i) (fun s h=>by simp only[BT.evS]) q fun m s h y fl v H1 R S r e1 post=>?_
 cases y with
 | r n=>cases e1
 | k q=>cases e1
 | c _ _=>cases e1
 | o q=>cases e1
 | p d =>
  rw[BT.Cf] at e1
  cases g:s[i]? with
  | none=>rw[g] at e1;cases e1
  | some o =>
   cases o with
   | none=>rw[g] at e1;cases e1
   | some wz =>
    cases wz with
    | p _=>rw[g] at e1;cases e1
    | k _=>rw[g] at e1;cases e1
    | c _ _=>rw[g] at e1;cases e1
    | o _=>rw[g] at e1;cases e1
    | r n =>
     rw[g] at e1
     simp only at e1
     obtain ⟨q,h2,e2,e3⟩:=ai e1
     refine ⟨m,s,h,.r n,h,R,S,by simp only[BT.ev,g],fun o H2 m2 x2 R2 r2=>⟨m2,s,h,q,h2,R2,S.ext x2,e2,fun ki H3 m3 x3 R3 r3=>?_⟩⟩
     cases q with
     | r _=>cases e3
     | k _=>cases e3
     | c _ _=>cases e3
     | o _=>cases e3
     | p dk =>
      rw[BT.yL] at e3
      obtain ⟨kvs,e4,e5⟩:=Option.bind_eq_some_iff.mp e3
      obtain ⟨ky,e6,e7⟩:=Option.bind_eq_some_iff.mp e5
      split at e7
      case isFalse=>cases e7
      rename_i c
      cases e7
      have r2':=r2.ext x3
      cases r2' with
      | @r a _ hn =>
       cases r3 with
       | p r3 =>
        obtain ⟨us,hH,ru⟩:=R3.tZ n a kvs hn e4
        have:=cL
        have hl:=ru.length
        refine ⟨a,us,ky,rfl,zP r3 e6,hH,by omega,?_⟩
        have x4:Ext m3 H3 m3 (upd H3 a (.dK (putK us ky v))):=jf (Ph hn)
        cases r with
        | p r=>exact post σ _ m3 ((x2.trans x3).trans x4) (R3.setC hn ⟨_,aD,(ru.put ky (GY r3 e6) ((r.ext x2).ext x3)).ext x4⟩) (((S.ext x2).ext x3).ext x4)
end
end BS
end
section
namespace BS
open PySem PySem.Spec PyProof.Rows L2
section
variable {F:FT}{G:Str->Option BT.W}
theorem Ho {X:Cx}{tg:List (Nat×Str)}{sr:BT.Sr}{sa:BT.Es}{b:BT.S}{g:TG} (hg:GOk X tg g) (D:Ends) (σ:L2.St) (H:Hp) (q:tDS X F G (.for tg sr sa b) D σ H):Jb (iD X F G sr sa) g (tDS X F G b) D σ H:=by
 obtain ⟨m,s,h,fl,R,S,e,post⟩:=q
 simp only[BT.evS] at e
 obtain ⟨ws,h1,e1,e2⟩:=ai e
 unfold BT.kFor at e2
 cases g1:(BT.rds ws h1).bind (BT.fE sr) with
 | none=>rw[g1] at e2;cases e2
 | some ds =>
  rw[g1] at e2
  simp only at e2
  split at e2
  ·rename_i ca
   refine ⟨m,s,h,ws,h1,ds,R,S,e1,g1,ca,fun H1 m1 J x1 R1 it=>?_⟩
   refine ⟨fun i n σ H=>i<=ds.length/\n=ds.length - i/\∃ m s h,Ext m1 H1 m H/\RH X.K m H h/\RS X.prog X.w X.K m H σ s/\BT.bx (BT.evS F G b) tg (ds.drop i) s h=some fl/\jk X m H fl D,
    ⟨ds.length,P0 _,rfl,m1,s,h1,.refl _ _,R1,S.ext x1,by rw[Tg];exact e2,post.ext x1⟩,?_⟩
   rintro i n σ2 H2 ⟨hi,rfl,m2,s2,h2,x2,R2,S2,e3,post2⟩
   by_cases c:i < ds.length
   ·refine .inr ⟨it.go m2 H2 i x2 c,_,fun σ' H' z=>⟨ds.length - (i+1),by omega,c,rfl,z⟩,fun x H3 y=>?_⟩
    obtain ⟨x3,k3,r3⟩:=it.yld m2 H2 h2 i x H3 ds[i] x2 R2 (O9 c) y
    rw[UK c,BT.bx] at e3
    cases g2:BT.target tg.length ds[i] with
    | none=>rw[g2] at e3;cases e3
    | some dd =>
     rw[g2] at e3
     simp only at e3
     have R3:=R2.ext x3 k3
     refine hg m2 H3 σ2 s2 x ds[i] dd _ (S2.ext x3) r3 g2 fun σ4 S4=>?_
     cases g3:BT.evS F G b (BT.sets tg dd s2) h2 with
     | none=>rw[g3] at e3;cases e3
     | some f1 =>
      rw[g3] at e3
      refine ⟨m2,_,h2,f1,R3,S4,g3,?_⟩
      cases f1 with
      | nx s5 h5=>exact fun σ5 H5 m5 x5 R5 S5=>⟨m5,s5,h5,(x2.trans x3).trans x5,R5,S5,e3,(post2.ext x3).ext x5⟩
      | ct s5 h5=>exact fun σ5 H5 m5 x5 R5 S5=>⟨m5,s5,h5,(x2.trans x3).trans x5,R5,S5,e3,(post2.ext x3).ext x5⟩
      | bk s5 h5=>cases e3;exact fun σ5 H5 m5 x5 R5 S5=>post2 σ5 H5 m5 (x3.trans x5) R5 S5
      | rt z h5=>cases e3;exact fun v H5 m5 x5 R5 r5=>post2 v H5 m5 (x3.trans x5) R5 r5
   ·have ei:i=ds.length:=by omega
    subst ei
    refine .inl ⟨it.stop m2 H2 x2,?_⟩
    rw[List.drop_length,BT.bx] at e3
    cases e3
    exact post2 σ2 H2 m2 (.refl _ _) R2 S2
  ·cases e2
theorem Ko {X:Cx}{sc:Pu}{N:List Str} (O:Ok X F G sc N) {x:Str}{np pos p:Pos}{elt':O1}{gs:List Comprehension}{scope:Pu} (h:swB sc scope x np pos=true):Ss (.ListComp elt' gs scope pos) (some (.Name x np)) p.line X.env=pure true:=by
 have e:Ss (.ListComp elt' gs scope pos) (some (.Name x np)) p.line X.env=pure (swB X.env.scope scope x np pos):=rfl
 rw[e,O.hsc,h]
theorem Dg {sc:Pu}{x:Str} (c:(sc.names.lookup x==some .cell)=true):kh sc x=true:=by
 unfold kh
 rw[eq_of_beq c]
theorem z4 {sc scope:Pu}{x:Str}{np pos:Pos} (h:swB sc scope x np pos=true):sc.names.lookup x=some .local:=by
 unfold swB at h
 simp only[O5] at h
 exact eq_of_beq h.1.1.2
theorem Kp {X:Cx}{sc:Pu}{N:List Str} (O:Ok X F G sc N) {x:Str}{np pos p:Pos}{elt':O1}{gs:List Comprehension}{scope:Pu} (c:(sc.names.lookup x==some .cell)=true):Ss (.ListComp elt' gs scope pos) (some (.Name x np)) p.line X.env=pure false:=by
 have e:Ss (.ListComp elt' gs scope pos) (some (.Name x np)) p.line X.env=pure (swB X.env.scope scope x np pos):=rfl
 have z:swB sc scope x np pos=false:=by
  cases h:swB sc scope x np pos with
  | false=>rfl
  | true =>
   have:=z4 h
   rw[eq_of_beq c] at this
   cases this
 rw[e,O.hsc,z]
theorem sCL {X:Cx}{sc:Pu}{N:List Str} (O:Ok X F G sc N) (hf:∀ x,X.fn x=true) {o:BT.E}{m:Str}{as:BT.Es}{L:Nat}{fv:List (Nat×Str)}{call:O1} (h:CL sc N o m as L fv call):PE X call (tD X F G (.methL o m as L fv))/\gK call=true:=by
 cases h with
 | zero hl hp hn hk hv ht hc h3 h6 ho=>exact ⟨qA O hf hl hp hn hk hv ht hc h3 h6 (sE ho O) rfl (by simp) Km,rfl⟩
 | one hl hp hn hk hv ht hc h3 h6 ho hs ha=>exact ⟨qA O hf hl hp hn hk hv ht hc h3 h6 (sE ho O) (by simp only[aq,hs];rfl) (by simp) (Kn hs (sE ha O)),rfl⟩
theorem sSs {X:Cx}{sc:Pu}{N:List Str} (O:Ok X F G sc N) (hf:∀ x,X.fn x=true) {s:BT.S}{sts:List Qf} (hh:CSs sc N s sts):PSs X sts (tDS X F G s) :=
 CSs.rec (motive_1:=fun s st _=>PS X st (tDS X F G s)) (motive_2:=fun s sts _=>PSs X sts (tDS X F G s))
  (@fun i x m o as L fv call np p h1 h2 hl=>PS.weak (rA (i:=i) O.nd (by rw[O.hN];exact h1) (iT O h2) (sCL O hf hl).1 (jl (sCL O hf hl).2) (.inl (hf x))) fun D σ H q =>
   iE (k:=fun s=>BT.rY s i) (fun s h=>by simp only[BT.evS]) q fun m s h y fl v H1 R S r e1 post=>by
    simp only[BT.rY] at e1
    cases e1
    exact post _ H1 m (.refl _ _) R (S.set r))
  (fun hl=>PS.weak (xH (sCL O hf hl).1) fun D σ H q =>
   iE (k:=fun s=>BT.yQ) (fun s h=>by simp only[BT.evS]) q fun m s h y fl v H1 R S r e1 post=>by
    simp only[BT.yQ] at e1
    cases e1
    exact post v H1 m (.refl _ _) R r)
  (@fun i x mu sr sa tg fv cond elt te iter elt' ifs scope pos np p h1 h3 hk ht hz hs hi hc he=>by
   have K:∀ (D:Ends) (σ:L2.St) (H:Hp),tDS X F G (.set i x (.comp mu sr sa tg fv cond elt)) D σ H->vD (tD X F G (.comp mu sr sa tg fv cond elt)) (pM i) D σ H:=fun D σ H q =>
    iE (k:=fun s=>BT.rY s i) (fun s h=>by rw[BT.evS]) q fun m s h y fl v H1 R S r e1 post=>by
     simp only[BT.rY] at e1
     cases e1
     exact post _ H1 m (.refl _ _) R (S.set r)
   by_cases c:(sc.names.lookup x==some .cell)=true
   ·exact PS.weak (rA (i:=i) O.nd (by rw[O.hN];exact h1) (iT O (Dg c)) (sE (CE'.comp hk ht hz hs hi hc he) O) (Kp O c) (.inl (hf x))) K
   ·have h4:swB sc scope x np pos=true:=by
     rw[Rf] at h3
     exact h3.resolve_left c
    exact PS.weak (C8 O hk ht hs (sCI hi O hz) (sCC hc) (fun X' O'=>sE he O') h1 (z4 h4) (Ko O h4)) K)
  (@fun i x e v np p h1 h2 h3 he=>PS.weak (rA (i:=i) O.nd (by rw[O.hN];exact h1) (iT O h2) (sE he O) (jl h3) (.inl (hf x))) fun D σ H q =>
   iE (k:=fun s=>BT.rY s i) (fun s h=>by simp only[BT.evS]) q fun m s h y fl v H1 R S r e1 post=>by
    simp only[BT.rY] at e1
    cases e1
    exact post _ H1 m (.refl _ _) R (S.set r))
  (fun h1 h2 h3 h4 h5 hk he=>PS.weak (xK (sE he O) (xJ (oK O h1 h2 h3) (sE hk O) set_list (lJ h5)) (uI h4) rfl) Hl)
  (fun h1 h2 h3 h4 h5 hk he=>PS.weak (xK (sE he O) (xJ (oK O h1 h2 h3) (sE hk O) set_dict (lJ h5)) (uI h4) rfl) Df)
  (fun h1 h2 h3 he=>PS.weak (Fe O.nd (by rw[O.hN];exact h1) (iT O h2) (sE he O) (uv h3) (.inl (hf _))) Hj)
  (fun h1 h2 ho he=>PS.weak (Fw (sE ho O) (sE he O) (jl h2)) (Dd h1))
  (fun h1 h3 ho he=>PS.weak (vN (sE ho O) (sE he O) (uv h3)) (De h1))
  (fun h he=>PS.weak (Bk (sE he O) (jl h)) fun D σ H q =>
   iE (k:=fun s=>BT.kEx s) (fun s h=>by simp only[BT.evS]) q fun m s h y fl v H1 R S r e1 post=>by
    simp only[BT.kEx] at e1
    cases e1
    exact post σ H1 m (.refl _ _) R S)
  (fun he=>PS.weak (xH (sE he O)) fun D σ H q =>
   iE (k:=fun s=>BT.yQ) (fun s h=>by simp only[BT.evS]) q fun m s h y fl v H1 R S r e1 post=>by
    simp only[BT.yQ] at e1
    cases e1
    exact post v H1 m (.refl _ _) R r)
  (fun h hc ha hb ia ib=>PS.weak (IW (sT hc O h).1 ia ib) fun D σ H q=>by
   obtain ⟨m,s,h,fl,R,S,e,post⟩:=q
   simp only[BT.evS] at e
   obtain ⟨t,g,e1,e2⟩:=uH e
   refine ⟨m,s,h,t,g,R,S,e1,fun H1 m1 x1 R1=>?_⟩
   simp only[BT.kIf] at e2
   cases t with
   | true=>exact ⟨m1,s,g,fl,R1,S.ext x1,e2,post.ext x1⟩
   | false=>exact ⟨m1,s,g,fl,R1,S.ext x1,e2,post.ext x1⟩)
  (fun h hc hb ib=>PS.weak (xN O.own (sT hc O h).1 ib) Hi)
  (fun ht hi hz hs hb ib=>by
   obtain ⟨g,hg1,hg2⟩:=sCT O ht (fun q _=>.inl (hf q.2))
   exact PS.weak (Fg O.own O.calm (sCI hi O hz) hg1 ib (uF hs)) (Ho hg2))
  (PS.weak xG fun D σ H q=>by
   obtain ⟨m,s,h,fl,R,S,e,post⟩:=q
   simp only[BT.evS] at e
   cases e
   exact post σ H m (.refl _ _) R S)
  (PS.weak pL fun D σ H q=>by
   obtain ⟨m,s,h,fl,R,S,e,post⟩:=q
   simp only[BT.evS] at e
   cases e
   exact post σ H m (.refl _ _) R S)
  (fun pins s σ H D I q=>by
   obtain ⟨m,s,h,fl,R,S,e,post⟩:=q
   simp only[BT.evS] at e
   cases e)
  (PSs.weak Bh fun D σ H q=>by
   obtain ⟨m,s,h,fl,R,S,e,post⟩:=q
   simp only[BT.evS] at e
   cases e
   exact post σ H m (.refl _ _) R S)
  (fun _ ih=>Bj ih)
  (fun _ _ ih ir=>PSs.weak (xF ih ir) Hh)
  hh
end
end BS
end
section
namespace BS
open PySem PySem.Spec PyProof.Rows L2
section
variable {P:Pi}{w:PK}{K:O0}{m m':List Addr}{H:Hp}
mutual
theorem RD.shrink (x:∀ a∈m,a∈m'):∀ {v:V}{d:BT.D},RD K m' H v d->RD K m H v d
 | _,_,.non=>.non
 | _,_,.bl b=>.bl b
 | _,_,.int i=>.int i
 | _,_,.str y h=>.str y h
 | _,_,.tup h r=>.tup (h.elim (fun q=>.inl ⟨q.1,fun z=>q.2 (x _ z)⟩) .inr) (RDs.shrink x r)
 | _,_,.lst h r=>.lst (h.elim (fun q=>.inl ⟨q.1,fun z=>q.2 (x _ z)⟩) .inr) (RDs.shrink x r)
theorem RDs.shrink (x:∀ a∈m,a∈m'):∀ {vs:List V}{ds:List BT.D},RDs K m' H vs ds->RDs K m H vs ds
 | _,_,.nil=>.nil
 | _,_,.cons r t=>.cons (RD.shrink x r) (RDs.shrink x t)
end
end
theorem RFs.shrink {K:O0}{m ex:List Addr}{H H':Hp}:∀ {vs0 vs:List (Str×V)}{fs:List (Str×BT.W)},RFs K m H vs0 fs->RFs K (m++ex) H' vs fs->RFs K m H' vs fs
 | _,_,_,.nil,.nil=>.nil
 | _,_,_,.cons r0 t0,.cons r t=>by
  refine .cons ?_ (RFs.shrink t0 t)
  have back:∀ {n:Nat}{a b:Addr},m[n]?=some b->(m++ex)[n]?=some a->m[n]?=some a:=fun {n a b} h1 h2=>by
   rw[Pd (getD_some h1)] at h2
   exact h2
  cases r with
  | p r=>exact .p (r.shrink fun a ha=>R0 _ ha)
  | r h=>cases r0 with | r h0=>exact .r (back h0 h)
  | o h=>cases r0 with | o h0=>exact .o (back h0 h)
theorem RKs.shrink {K:O0}{m m':List Addr}{H:Hp} (sub:∀ a∈m,a∈m') {vs:List (Key×V)}{kvs:List (BT.Ky×BT.D)} (r:RKs K m' H vs kvs):RKs K m H vs kvs:=by
 induction r with
 | nil=>exact .nil
 | cons hk r t ih=>exact .cons (hk.shrink sub) (r.shrink sub) ih
theorem jO {P:Pi}{w:PK}{K:O0}{m m':List Addr}{H H':Hp}{h g h':BT.HH}{y z:BT.W}{v:V} (e:BT.fin h y g=some (z,h')) (R:RH K m H h) (x:Ext m H m' H') (R':RH K m' H' g) (r:RW P w K m' H' v y) :
 ∃ m2,Ext m H m2 H'/\RH K m2 H' h'/\RW P w K m2 H' v z:=by
 unfold BT.fin at e
 split at e
 ·cases e;exact ⟨m',x,R',r⟩
 ·split at e
  ·rename_i c1 c2
   obtain ⟨ex,rfl,hx⟩:=x.pre
   have sub:∀ a∈m,a∈m++ex:=fun a ha=>R0 _ ha
   have x2:Ext m H m H':=⟨⟨[],by simp,by simp⟩,x.keep,x.live⟩
   have R2:RH K m H' h:=by
    refine ⟨R.nd,R.len,fun i a xs e1 e2=>?_,R'.tb⟩
    have hi:i < m.length:=getD_some e1
    have hi2:i < h.length:=by rw[← R.len];exact hi
    have e3:g[i]?=some xs:=by
     rw[← c2,Rq hi2] at e2
     exact e2
    have z:=R'.cl i a xs (by rw[Pd hi];exact e1) e3
    cases xs with
    | l ys=>obtain ⟨vs,q1,q2⟩:=z;exact ⟨vs,q1,q2.shrink sub⟩
    | o c fs =>
     obtain ⟨C0,dx0,vs0,_,_,q0⟩:=R.cl i a _ e1 e2
     obtain ⟨C,dx,vs,q1,q2,q3⟩:=z
     exact ⟨C,dx,vs,q1,q2,q0.shrink q3⟩
    | d kvs=>obtain ⟨vs,q1,q2⟩:=z;exact ⟨vs,q1,q2.shrink sub⟩
   cases r with
   | p r=>cases e;exact ⟨m,x2,R2,.p (r.shrink sub)⟩
   | k _ _=>cases e
   | c _ _=>cases e
   | g _ _=>cases e
   | @o a n hn =>
    simp only at e
    split at e
    ·rename_i c3
     cases e
     refine ⟨m,x2,R2,.o ?_⟩
     rw[Pd (by rw[R.len];exact c3)] at hn
     exact hn
    ·cases e;exact ⟨m++ex,x,R',.o hn⟩
   | @r a n hn =>
    simp only at e
    split at e
    ·rename_i c3
     cases e
     refine ⟨m,x2,R2,.r ?_⟩
     rw[Pd (by rw[R.len];exact c3)] at hn
     exact hn
    ·rename_i c3
     obtain ⟨xs,e4,e5⟩:=aA e
     cases e5
     obtain ⟨vs,q1,q2⟩:=R'.cell n a xs hn e4
     refine ⟨m,x2,R2,.p (.lst (.inl ⟨.inl q1,fun z=>?_⟩) (q2.shrink sub))⟩
     obtain ⟨j,hj⟩:=Qz z
     have hjl:=getD_some hj
     have ej:(m++ex)[j]?=some a:=by rw[Pd hjl];exact hj
     have:=nv R'.nd ej hn
     rw[R.len] at hjl
     omega
  ·cases e;exact ⟨m',x,R',r⟩
theorem qC {P:Pi}{w:PK}{K:O0}{m:List Addr}{H:Hp}{N:List Str}{vs:List V}{ws:List BT.W} (r:RWs P w K m H vs ws):RS P w K m H (L2.start N vs) (BT.fy N.length ws):=by
 have hl:=r.length
 refine ⟨by simp[L2.start,BT.fy,hl],fun i y e=>?_⟩
 simp only[BT.fy] at e
 by_cases c:i < ws.length
 ·rw[Pd (by simpa using c),Px] at e
  obtain ⟨z,e1,e2⟩:=aA e
  cases e2
  have:∀ {vs:List V}{ws:List BT.W}{i:Nat},RWs P w K m H vs ws->ws[i]?=some y->∃ v,vs[i]?=some v/\RW P w K m H v y:=by
   intro vs ws i r
   induction r generalizing i with
   | nil=>intro e;simp at e
   | cons r t ih =>
    intro e
    cases i with
    | zero=>simp at e;subst e;exact ⟨_,rfl,r⟩
    | succ i=>simpa using ih (by simpa using e)
  obtain ⟨v,h1,h2⟩:=this r e1
  refine ⟨v,?_,h2⟩
  unfold L2.start
  rw[Pd (by simp;omega),Px,h1];rfl
 ·rw[PM (by simpa using c),RB] at e
  split at e<;>cases e
theorem Hq {P:Pi}{w:PK}{K:O0}{mg:Str->Option O3}{base:Heap}{k L:Nat}{F:FT}{G:Str->Option BT.W}{bt:BT.E}{ns:List Str}{g:List BT.W->BT.HH->Option (BT.W×BT.HH)} (hT:BT.oj L=some ⟨ns,ns,.ret bt⟩)
 (hg:∀ ws h r,g ws h=some r->ws.length=ns.length/\BT.j8 (BT.evS F G (.ret bt) (BT.fy ns.length ws) h) (BT.fin h)=some r)
 (hO:∀ (q:Str) (sc:Pu) (cl:List (Str×Addr)) (f c':Addr) (A:Qi) (outer:List Env) (s:O4) (H:Hp),ns.Nodup->bP k (A.deeper (Sh q sc s.heap.objs.size f (.ref c') cl))->Ok (zJ P w K mg base ns q sc cl f c' A outer s H) F G sc ns):qk P w K mg base (k+1) L g:=by
 intro A outer s H f us vs cvs m ws cs h z h' Q E hr e0 rv R rw nc la rc e post
 obtain ⟨bt',ps,fs,pa,be,sc,cl,pm,ctv,c',oc,os,t,q,l0,l1,l2,l3,l4,l5,l6,l7,l8,l9,l10⟩:=la
 rw[hT] at l0
 cases l0
 have lf:=Ke l2
 obtain ⟨hwl,e1⟩:=hg _ _ _ e
 have C:=l10.cells l5
 have mR:=rv.length
 have eW:=rw.length
 have gT:=l10.len
 have Ic:cvs.length=cs.length:=by
  clear e e1 hwl l10 gT
  induction rc with
  | nil=>rfl
  | cons _ _ ih=>simp[ih]
 have hu:us.length=ps.length:=by
  simp only[PB,Pa] at hwl
  omega
 refine PySem.W.kla_callFunE hr.depth (e0.hok _ _ l6.1).1 rfl lf.co lf.ge rfl ⟨c',oc,os,t,rfl,(e0.hok _ _ l7.1).1,l8,l9⟩ ?_
 rw[CP l1 hu]
 refine wpAny_pure (wpAny_newFunctionEnv lf.cell (fun y hy=>lf.loc y.1 (SV hy).1) (fun h1 hns hsb=>?_) lf.kd)
 have hk1:∀ b o,s.heap.get? b=some o->h1.get? b=some o:=fun b o e=>hsb.extBut b o (PD (O7 e)) (O2 _ e)
 refine ⟨e0.mod.nolimit.keeps fun b o e=>hk1 b o (e0.bs b o e).1,?_⟩
 show codeAny _ _ (.expr be (Sh q sc s.heap.objs.size f (.ref c') cl)) _ _
 refine PySem.W.kla_codeExpr ?_
 have I:=CQ (q:=q) (f:=f) (c':=c') (tk:=s.toks+(ps.zip us).length) l1 lf l4 l5 l10 hr.hd e0 rv hu hns hk1
 have hr1:bP k (A.deeper (Sh q sc s.heap.objs.size f (.ref c') cl)):=hr.deeper _
 have O:=hO q sc cl f c' A outer s H lf.nd hr1
 simp only[BT.evS] at e1
 cases g1:BT.ev F G bt (BT.fy (ps++fs).length (ws++cs.map BT.Cp.w)) h with
 | none=>rw[g1] at e1;cases e1
 | some yg =>
  obtain ⟨y,gh⟩:=yg
  rw[g1] at e1
  have e2:BT.fin h y gh=some (z,h'):=e1
  have hs:RS P w K m (hid cl H) (vs.map some++cvs.map some) (BT.fy (ps++fs).length (ws++cs.map BT.Cp.w)):=by
   have r0:=qC (N:=ps++fs) ((rw.tr C.sq nc).app (RCs.ws (P:=P) (w:=w) (rc.tr C.sq)))
   have e3:L2.start (ps++fs) (vs++cvs)=vs.map some++cvs.map some:=by
    unfold L2.start
    simp only[PB]
    rw[show ps.length+fs.length - (vs.length+cvs.length)=0 by omega]
    simp
   rw[e3] at r0;exact r0
  refine wpAny_mono (sE l3 O [] _ _ _ (fun v H'=>∃ m',Ext m (hid cl H) m' H'/\RH K m' H' gh/\RW P w K m' H' v y) I ⟨m,_,h,y,gh,C.rh R,hs,g1,fun v H' m' x' R' r'=>⟨m',x',R',r'⟩⟩) (fun u s' ⟨v,H',I',rv',m',x',R',r'⟩=>?_) (fun e s' hx=>P5 hx)
  have N':∀ x c,cl.lookup x=some c->H' c=none:=fun x c e=>I'.freeC x c e
  have le:Le H' (ret cl H H'):=GT N'
  obtain ⟨m2,x2,R2,r2⟩:=jO e2 (C.rh R) x' R' r'
  have B:Un (frs outer) [] (hid cl H) H' s.heap s'.heap:=I'.base
  have nc':∀ b,H b=none->¬ ∃ y,cl.lookup y=some b:=fun b n ⟨y,qq⟩=>by
   obtain ⟨o,uu,k1,_⟩:=C y b qq
   rw[n] at k1;cases k1
  refine ⟨v,ret cl H H',I'.os,I'.bare,⟨fun b o e n hb hx=>B.keep b o e (dZ n) hb hx,fun b o e n hb hx=>B.slot b o e (dZ n) hb hx,fun b o e n hx=>?_,fun b o e hx=>B.there b o e hx,fun b xs e=>?_,fun b o uu e=>?_,fun b qs e=>?_⟩,fun b uu e=>?_,rv',post v _ m2 (C.GU N' x2 R2) (R2.le le) (r2.le le)⟩
  ·rw[fk (nc' b n)];exact B.free b o e (dZ n) hx
  ·rw[fk (C.out e rfl)];exact B.tups b xs (C.hid e rfl)
  ·by_cases cc:∃ y,cl.lookup y=some b
   ·obtain ⟨y,qq⟩:=cc;rw[oN qq];exact e
   ·rw[fk cc];exact B.frzs b o uu (by rw[dB cc];exact e)
  ·rw[fk (C.out e rfl)];exact B.tbls b qs (C.hid e rfl)
  ·by_cases cc:∃ y,cl.lookup y=some b
   ·obtain ⟨y,qq⟩:=cc
    rw[oN qq] at e
    obtain ⟨o,u2,k1,k2⟩:=C y b qq
    rw[k1] at e
    cases e
    have k3:=B.keep b o (e0.hok _ _ k1).1 (su qq) (fun hb=>by rw[e0.frf b hb] at k1;cases k1) (by simp)
    exact ⟨k3,_,k3⟩
   ·rw[fk cc] at e
    exact (I'.hok b uu e).stay (fun _ _ _ q=>q) (fun d q=>le _ _ q) fun d xs q=>le _ _ q
noncomputable def j5 (K:O0) (q:Str) (fd:QN) (fn:BT.Fn):Prop:=∀ y,fn.ns.contains (BT.cg y)=true->q=y/\y∈BT.dj ∧
 (∃ c P,P9 K y=some (c,P)/\fd.code=.ref c/\SA K c P=true/\∀ z∈BT.dj,∀ c2,P9 K z=some (c2,P)->z=y) ∧
 ∃ bm ob,P1 K Po "__builtins__"=some (some (.ref bm))/\bm≠Q9/\K.lookup bm=some ob/\ob.cls=.type "module"/\ob.dict=some Q9/\ob.data=.plain
structure Def (K:O0) (mg:Str->Option O3) (x:Str) (fn:BT.Fn):Prop where
 ex:∃ (f:Addr) (fd:QN) (st:Qf),mg x=some (.ref f)/\Fun K x x st f fd/\cI fn.ns fn.ps (ak st)/\Binds K fd fn.ps []/\CSs (ak st) fn.ns fn.body (aK st)/\j5 K x fd fn
structure z5 (K:O0) (mg:Str->Option O3) (c m:Str) (fn:BT.Fn):Prop where
 ex:∃ (C f:Addr) (fd:QN) (x qual:Str) (st:Qf),lq K c C/\mg c=some (.ref C)/\vM K C m f/\(m="__init__"->Mk K C f)/\Fun K x qual st f fd/\cI fn.ns fn.ps (ak st)/\Binds K fd fn.ps []/\CSs (ak st) fn.ns fn.body (aK st)/\j5 K qual fd fn
structure Txt (P:Pi) (w:PK) (K:O0) (mg:Str->Option O3) (T:BT.FK->Option BT.Fn) (G:Str->Option BT.W):Prop where
 defs:∀ x fn,T (.f x)=some fn->Def K mg x fn
 meths:∀ c m fn,T (.m c m)=some fn->z5 K mg c m fn
 lams:∀ L fn,T (.l L)=some fn->BT.oj L=some fn/\∃ ns bt,fn=⟨ns,ns,.ret bt⟩/\∀ y,ns.contains (BT.cg y)=false
 glob:∀ x z,G x=some z->∃ u v,mg x=some u/\RelV v u/\∀ m H,RW P w K m H v z
 blt:∀ x∈GI,mg x=none
theorem uJ {T:BT.FK->Option BT.Fn}{G:Str->Option BT.W}{k:Nat}{x:BT.FK}{ws:List BT.W}{h:BT.HH}{r:BT.W×BT.HH} (e:BT.runN T G k x ws h=some r):∃ fn,T x=some fn:=by
 cases k with
 | zero=>cases e
 | succ k =>
  rw[BT.runN] at e
  cases q:T x with
  | none=>rw[q] at e;cases e
  | some fn=>exact ⟨fn,rfl⟩
theorem Dh {P:Pi}{w:PK}{K:O0}{mg:Str->Option O3}{base:Heap}{x qual:Str}{st:Qf}{f:Addr}{fd:QN}{N ps:List Str}{k:Nat}{sp:Sp} (F:Fun K x qual st f fd) (S:cI N ps (ak st)) (len:∀ vs H Q E,sp vs H Q E->vs.length=ps.length)
 (hbody:∀ (cdv:O3) (A:Qi) (outer:List Env) (s:O4) (H:Hp) (vs:List V) (Q:VK) (E:XK),fd.code=cdv->bP k (A.deeper (U4 qual (ak st) s.heap.objs.size f cdv))->Mod K mg base->sp vs H Q E →
  ∃ t,PSs (rJ CX0 P w K mg base N qual (ak st) f cdv A outer s H E).nox (aK st) t/\t { nx:=fun _ H'=>Q .non H',rt:=Q } (L2.start N vs) H):fX P w K mg base CX0 (k+1) f fd ps sp:=by
 obtain ⟨oc,od,kV,doc,pm,an,cdv,ct,osl,rfl,lk,hcd⟩:=F.ex
 refine ⟨len,fun A outer s H args us vs Q E hr e0 hb r hs=>?_⟩
 have F1:fX P w K mg base CX0 (k+1) f (QI x qual (cH st) (aK st) (ak st) .none kV doc pm an cdv ct) ps sp:=Jm lk hcd S len fun A outer s H vs Q E hr hsp=>by
  obtain ⟨t,h,q⟩:=hbody cdv A outer s H vs Q E rfl hr e0.mod hsp
  exact ⟨t,h.nox,q⟩
 exact F1.run A outer s H args us vs Q E hr e0 hb r hs
theorem EL {P:Pi}{w:PK}{K:O0}{mg:Str->Option O3}{base:Heap}{T:BT.FK->Option BT.Fn}{G:Str->Option BT.W} (X:Txt P w K mg T G) {k:Nat}
 (ih:∀ (x:BT.FK) (fn:BT.Fn),T x=some fn->∀ (f:Addr) (fd:QN) (nm qual:Str) (st:Qf),Fun K nm qual st f fd->cI fn.ns fn.ps (ak st)->CSs (ak st) fn.ns fn.body (aK st)->j5 K qual fd fn->fX P w K mg base CX0 (2*k) f fd fn.ps (spF P w K (BT.runN T G k x)))
 (il:∀ L,(∃ fn,T (.l L)=some fn)->qk P w K mg base (2*k) L (BT.runN T G k (.l L)))
 {Y:Cx}{sc:Pu}{N:List Str} (e1:Y.prog=P) (e2:Y.w=w) (e3:Y.K=K) (e4:Y.mg=mg) (e5:Y.base=base) (hsc:Y.env.scope=sc) (hN:Y.N=N) (nd:Y.N.Nodup) (ca:Y.calm=true) (hr:bP (2*k+1) Y.A) (own:PassesOwn (Pw Y.prog Y.w) Y.A Y.env Y.xe)
 (lx:(∀ x,Y.fn x=true)->∀ x,N.contains (BT.cg x)=true->LX Y x):Ok Y (BT.runN T G k) G sc N:=by
 subst e1 e2 e3 e4 e5
 refine ⟨hsc,hN,nd,ca,?_,own,X.glob,fun g ws h r e=>?_,fun c g ws h r e=>?_,fun c ws h r e=>?_,X.blt,fun L ws h r e=>⟨2*k,hr.mono (QS _),il L (uJ e)⟩,lx⟩
 ·have:=hr.un
  omega
 ·obtain ⟨fn',hTg⟩:=uJ e
  obtain ⟨f',fd',st',a1,a2,a3,a4,a5,a6⟩:=(X.defs g fn' hTg).ex
  exact ⟨f',fd',fn'.ps,2*k,a1,a2.kp,a4,hr.mono (QS _),ih _ fn' hTg f' fd' g g st' a2 a3 a5 a6⟩
 ·obtain ⟨fn',hTg⟩:=uJ e
  obtain ⟨C,f',fd',x',q',st',b1,b2,b3,b4,a2,a3,a4,a5,a6⟩:=(X.meths c g fn' hTg).ex
  exact ⟨C,f',fd',fn'.ps,2*k,b1,b3,a4,hr.mono (QS _),ih _ fn' hTg f' fd' x' q' st' a2 a3 a5 a6⟩
 ·obtain ⟨fn',hTg⟩:=uJ e
  obtain ⟨C,f',fd',x',q',st',b1,b2,b3,b4,a2,a3,a4,a5,a6⟩:=(X.meths c _ fn' hTg).ex
  exact ⟨C,f',fd',fn'.ps,2*k,b1,b2,b4 rfl,a4,hr,ih _ fn' hTg f' fd' x' q' st' a2 a3 a5 a6⟩
theorem Di {P:Pi}{w:PK}{K:O0}{mg:Str->Option O3}{base:Heap}{T:BT.FK->Option BT.Fn}{G:Str->Option BT.W} (X:Txt P w K mg T G) :
 ∀ (k:Nat),(∀ (x:BT.FK) (fn:BT.Fn),T x=some fn->∀ (f:Addr) (fd:QN) (nm qual:Str) (st:Qf),Fun K nm qual st f fd->cI fn.ns fn.ps (ak st)->CSs (ak st) fn.ns fn.body (aK st)->j5 K qual fd fn->fX P w K mg base CX0 (2*k) f fd fn.ps (spF P w K (BT.runN T G k x))) ∧
  ∀ L,(∃ fn,T (.l L)=some fn)->qk P w K mg base (2*k) L (BT.runN T G k (.l L)):=by
 intro k
 induction k with
 | zero =>
  refine ⟨fun x fn hT f fd nm qual st h2 h3 h5 h6=>?_,fun L hL=>?_⟩
  ·have no:∀ vs H Q E,¬ spF P w K (BT.runN T G 0 x) vs H Q E:=fun vs H Q E h=>by
    obtain ⟨m,ws,h,z,h',_,_,e,_⟩:=h
    cases e
   exact ⟨fun vs H Q E h=>absurd h (no vs H Q E),fun A outer s H args us vs Q E _ _ _ _ h=>absurd h (no vs H Q E)⟩
  ·intro A outer s H f us vs cvs m ws cs h z h' Q E hr e0 rv R rw nc la rc e post
   cases e
 | succ k ihk =>
  obtain ⟨ih,il⟩:=ihk
  refine ⟨fun x fn hT f fd nm qual st h2 h3 h5 h6=>?_,fun L hL=>?_⟩
  ·show fX P w K mg base CX0 (2*k+1+1) f fd fn.ps (spF P w K (BT.runN T G (k+1) x))
   refine Dh h2 h3 (fun vs H Q E h=>?_) fun cdv A outer s H vs Q E hcd hr hM h=>?_
   ·obtain ⟨m,ws,h,z,h',R,r,e,post⟩:=h
    rw[BT.runN,hT] at e
    simp only at e
    split at e
    ·rename_i c;rw[r.length];exact c
    ·cases e
   ·obtain ⟨m,ws,h,z,h',R,r,e,post⟩:=h
    rw[BT.runN,hT] at e
    simp only at e
    split at e
    ·have O:Ok (rJ CX0 P w K mg base fn.ns qual (ak st) f cdv A outer s H E).nox (BT.runN T G k) G (ak st) fn.ns:=by
      refine EL X ih il rfl rfl rfl rfl rfl rfl rfl h3.nd rfl hr TU fun _ y hy=>?_
      obtain ⟨t1,t2,⟨c,Pt,t3,t4,t5,t6⟩,bm,ob,t7,t8,t9,t10,t11,t12⟩:=h6 y hy
      exact ⟨t2,⟨c,Pt,t3,hcd.symm.trans t4,U9 hM.kin t5,t6⟩,by show qual++".<locals>."=_;rw[t1],bm,ob,Q7 hM.kin hM.glob t7,t8,hM.kin _ _ t9,t10,t11,t12⟩
     refine ⟨_,sSs O (fun _=>rfl) h5,?_⟩
     cases gg:BT.evS (BT.runN T G k) G fn.body (BT.fy fn.ns.length ws) h with
     | none=>rw[gg] at e;cases e
     | some fl =>
      rw[gg] at e
      refine ⟨m,_,h,fl,R,qC r,gg,?_⟩
      cases fl with
      | rt y g =>
       intro v H' m' x' R' r'
       obtain ⟨m2,y1,y2,y3⟩:=jO e R x' R' r'
       exact post v H' m2 y1 y2 y3
      | nx s' g =>
       intro σ' H' m' x' R' _
       obtain ⟨m2,y1,y2,y3⟩:=jO (v:=.non) e R x' R' (.p .non)
       exact post .non H' m2 y1 y2 y3
      | bk s' g=>cases e
      | ct s' g=>cases e
    ·cases e
  ·obtain ⟨fn,hT⟩:=hL
   obtain ⟨hl,ns,bt,rfl,nt⟩:=X.lams L fn hT
   show qk P w K mg base (2*k+1+1) L (BT.runN T G (k+1) (.l L))
   refine Hq (F:=BT.runN T G k) (G:=G) hl (fun ws h r e=>?_) fun q sc cl f c' A outer s H nd hr=>EL X ih il rfl rfl rfl rfl rfl rfl rfl nd rfl hr TU fun _ y hy=>absurd hy (by rw[nt y];decide)
   rw[BT.runN,hT] at e
   simp only at e
   split at e
   ·rename_i c;exact ⟨c,e⟩
   ·cases e
theorem Hr {P:Pi}{w:PK}{K:O0}{mg:Str->Option O3}{base:Heap}{T:BT.FK->Option BT.Fn}{G:Str->Option BT.W} (X:Txt P w K mg T G) (k:Nat) (x:BT.FK) (fn:BT.Fn) (hT:T x=some fn) (f:Addr) (fd:QN) (nm qual:Str) (st:Qf) (h2:Fun K nm qual st f fd) (h3:cI fn.ns fn.ps (ak st)) (h5:CSs (ak st) fn.ns fn.body (aK st)) (h6:j5 K qual fd fn) :
 fX P w K mg base CX0 (2*k) f fd fn.ps (spF P w K (BT.runN T G k x)):=(Di X k).1 x fn hT f fd nm qual st h2 h3 h5 h6
end BS
end
section
namespace BT
open PySem
noncomputable def bF:Fn:=⟨["part"],["part"],
 (.seq (.ife (.cmp .eq (.idx (.glo "INNER_COUNTS") (.idx (.var 0 "part") (.cst (.int 0)))) (.cst (.int 0))) (.ret (.tup .nil)) .nil)
 (.ret (.slc (.var 0 "part") (.cons (.cst (.int 1)) .nil) .nil)))⟩
noncomputable def gM:Fn:=⟨[],[],
 (.ret (.tup (.cons (.cst (.int 0)) (.cons (.bin .mul (.tup (.cons (.cst (.int 0)) .nil)) (.bi .len false (.cons (.glo "LETTERS") .nil))) (.cons (.bin .mul (.tup (.cons (.cst (.int 0)) .nil)) (.glo "CELL_COUNT")) (.cons (.tup .nil) (.cons (.cst (.int 0)) (.cons (.tup .nil) .nil))))))))⟩
noncomputable def dH:Fn:=⟨["term"],["term","parts","waiting","part"],
 (.seq (.set 1 "parts" (.lst true .nil))
 (.seq (.set 2 "waiting" (.lst true (.cons (.var 0 "term") .nil)))
 (.seq (.whl (.cmp .gt (.bi .len false (.cons (.var 2 "waiting") .nil)) (.cst (.int 0))) (.seq (.set 3 "part" (.me .pop (.var 2 "waiting") .nil))
 (.seq (.ex (.me .append (.var 1 "parts") (.cons (.var 3 "part") .nil)))
 (.ex (.me .extend (.var 2 "waiting") (.cons (.call "inner_sums" (.cons (.var 3 "part") .nil)) .nil))))))
 (.ret (.var 1 "parts")))))⟩
noncomputable def fQ:Fn:=⟨["word","one","other"],["word","one","other"],
 (.seq (.ife (.cmp .eq (.var 0 "word") (.cst (.str "less"))) (.ret (.ite (.cmp .lt (.var 1 "one") (.var 2 "other")) (.cst (.int 1)) (.cst (.int 0)))) .nil)
 (.seq (.ife (.cmp .eq (.var 0 "word") (.cst (.str "add"))) (.ret (.bin .mod (.bin .add (.var 1 "one") (.var 2 "other")) (.glo "WORTH_COUNT"))) .nil)
 (.seq (.ife (.cmp .eq (.var 0 "word") (.cst (.str "sub"))) (.ret (.bin .mod (.bin .sub (.var 1 "one") (.var 2 "other")) (.glo "WORTH_COUNT"))) .nil)
 (.ret (.bin .mod (.bin .mul (.var 1 "one") (.var 2 "other")) (.glo "WORTH_COUNT"))))))⟩
noncomputable def c9:Fn:=⟨["thing"],["thing"],
 (.ret (.cmp .mem (.var 0 "thing") (.glo "LETTERS")))⟩
noncomputable def cE:Fn:=⟨["state","thing"],["state","thing"],
 (.seq (.ife (.call "is_name" (.cons (.var 1 "thing") .nil)) (.ret (.idx (.idx (.var 0 "state") (.glo "NAMES")) (.me .tindex (.glo "LETTERS") (.cons (.var 1 "thing") .nil)))) .nil)
 (.seq (.ex (.call "check_thing" (.cons (.var 1 "thing") .nil)))
 (.ret (.idx (.idx (.var 0 "state") (.glo "CELLS")) (.var 1 "thing")))))⟩
noncomputable def bz:Fn:=⟨["part","worths","state"],["part","worths","state","word","last"],
 (.seq (.set 3 "word" (.idx (.var 0 "part") (.cst (.int 0))))
 (.seq (.ife (.cmp .eq (.var 3 "word") (.cst (.str "num"))) (.ret (.idx (.var 0 "part") (.cst (.int 1)))) .nil)
 (.seq (.ife (.cmp .eq (.var 3 "word") (.cst (.str "name"))) (.ret (.call "worth_in" (.cons (.var 2 "state") (.cons (.idx (.var 0 "part") (.cst (.int 1))) .nil)))) .nil)
 (.seq (.set 4 "last" (.me .pop (.var 1 "worths") .nil))
 (.seq (.ife (.cmp .eq (.var 3 "word") (.cst (.str "cell"))) (.ret (.idx (.idx (.var 2 "state") (.glo "CELLS")) (.bin .mod (.var 4 "last") (.glo "CELL_COUNT")))) .nil)
 (.ret (.call "of_two" (.cons (.var 3 "word") (.cons (.me .pop (.var 1 "worths") .nil) (.cons (.var 4 "last") .nil))))))))))⟩
noncomputable def dI:Fn:=⟨["term","state"],["term","state","worths","part"],
 (.seq (.set 2 "worths" (.lst true .nil))
 (.seq (.for [(3,"part")] .rev (.cons (.call "laid_out" (.cons (.var 0 "term") .nil)) .nil) (.ex (.me .append (.var 2 "worths") (.cons (.call "worth_of" (.cons (.var 3 "part") (.cons (.var 2 "worths") (.cons (.var 1 "state") .nil)))) .nil))))
 (.ret (.idx (.var 2 "worths") (.cst (.int 0))))))⟩
noncomputable def ef:Fn:=⟨["term","state"],["term","state"],
 (.ret (.bin .mod (.call "reckoned" (.cons (.var 0 "term") (.cons (.var 1 "state") .nil))) (.glo "CELL_COUNT")))⟩
noncomputable def dg:Fn:=⟨["program","state"],["program","state","word"],
 (.seq (.ife (.cmp .ge (.idx (.var 1 "state") (.glo "ROW")) (.bi .len false (.cons (.var 0 "program") .nil))) (.ret (.cst (.bl true))) .nil)
 (.seq (.set 2 "word" (.idx (.idx (.var 0 "program") (.idx (.var 1 "state") (.glo "ROW"))) (.cst (.int 0))))
 (.seq (.ife (.cmp .eq (.var 2 "word") (.cst (.str "back"))) (.ret (.cmp .eq (.bi .len false (.cons (.idx (.var 1 "state") (.glo "CALLS")) .nil)) (.cst (.int 0)))) .nil)
 (.seq (.ife (.cmp .eq (.var 2 "word") (.cst (.str "call"))) (.ret (.cmp .ge (.bi .len false (.cons (.idx (.var 1 "state") (.glo "CALLS")) .nil)) (.glo "MOST_CALLS"))) .nil)
 (.ret (.cmp .eq (.var 2 "word") (.cst (.str "stop"))))))))⟩
noncomputable def bC:Fn:=⟨["row","state"],["row","state","word"],
 (.seq (.set 2 "word" (.idx (.var 0 "row") (.cst (.int 0))))
 (.seq (.ife (.or (.cmp .eq (.var 2 "word") (.cst (.str "jump"))) (.cmp .eq (.var 2 "word") (.cst (.str "call")))) (.ret (.idx (.var 0 "row") (.cst (.int 1)))) .nil)
 (.seq (.ife (.cmp .eq (.var 2 "word") (.cst (.str "back"))) (.ret (.idx (.idx (.var 1 "state") (.glo "CALLS")) (.neg (.cst (.int 1))))) .nil)
 (.seq (.ife (.and (.cmp .eq (.var 2 "word") (.cst (.str "unless"))) (.cmp .eq (.call "reckoned" (.cons (.idx (.var 0 "row") (.cst (.int 1))) (.cons (.var 1 "state") .nil))) (.cst (.int 0)))) (.ret (.idx (.var 0 "row") (.cst (.int 2)))) .nil)
 (.ret (.bin .add (.idx (.var 1 "state") (.glo "ROW")) (.cst (.int 1))))))))⟩
noncomputable def bR:Fn:=⟨["worths","number","worth"],["worths","number","worth"],
 (.ret (.bin .add (.bin .add (.slc (.var 0 "worths") .nil (.cons (.var 1 "number") .nil)) (.tup (.cons (.var 2 "worth") .nil))) (.slc (.var 0 "worths") (.cons (.bin .add (.var 1 "number") (.cst (.int 1))) .nil) .nil)))⟩
noncomputable def cM:Fn:=⟨["state","name","worth"],["state","name","worth"],
 (.ret (.call "with_worth" (.cons (.idx (.var 0 "state") (.glo "NAMES")) (.cons (.me .tindex (.glo "LETTERS") (.cons (.var 1 "name") .nil)) (.cons (.var 2 "worth") .nil)))))⟩
noncomputable def dh:Fn:=⟨["asked","number"],["asked","number"],
 (.ret (.ite (.cmp .lt (.var 1 "number") (.bi .len false (.cons (.var 0 "asked") .nil))) (.idx (.var 0 "asked") (.var 1 "number")) (.cst (.int 0))))⟩
noncomputable def eB:Fn:=⟨["program","asked","state"],["program","asked","state","row","word","behind"],
 (.seq (.set 3 "row" (.idx (.var 0 "program") (.idx (.var 2 "state") (.glo "ROW"))))
 (.seq (.set 4 "word" (.idx (.var 3 "row") (.cst (.int 0))))
 (.seq (.set 5 "behind" (.bi .list true (.cons (.var 2 "state") .nil)))
 (.seq (.put 5 "behind" (.glo "ROW") (.call "place_behind" (.cons (.var 3 "row") (.cons (.var 2 "state") .nil))))
 (.seq (.ife (.cmp .eq (.var 4 "word") (.cst (.str "set"))) (.put 5 "behind" (.glo "NAMES") (.call "with_name" (.cons (.var 2 "state") (.cons (.idx (.var 3 "row") (.cst (.int 1))) (.cons (.call "reckoned" (.cons (.idx (.var 3 "row") (.cst (.int 2))) (.cons (.var 2 "state") .nil))) .nil))))) (.ife (.cmp .eq (.var 4 "word") (.cst (.str "put"))) (.put 5 "behind" (.glo "CELLS") (.call "with_worth" (.cons (.idx (.var 2 "state") (.glo "CELLS")) (.cons (.call "cell_by" (.cons (.idx (.var 3 "row") (.cst (.int 1))) (.cons (.var 2 "state") .nil))) (.cons (.call "reckoned" (.cons (.idx (.var 3 "row") (.cst (.int 2))) (.cons (.var 2 "state") .nil))) .nil))))) (.ife (.cmp .eq (.var 4 "word") (.cst (.str "ask"))) (.seq (.put 5 "behind" (.glo "NAMES") (.call "with_name" (.cons (.var 2 "state") (.cons (.idx (.var 3 "row") (.cst (.int 1))) (.cons (.call "brought" (.cons (.var 1 "asked") (.cons (.idx (.var 2 "state") (.glo "ASKED")) .nil))) .nil)))))
 (.put 5 "behind" (.glo "ASKED") (.bin .add (.idx (.var 2 "state") (.glo "ASKED")) (.cst (.int 1))))) (.ife (.cmp .eq (.var 4 "word") (.cst (.str "say"))) (.put 5 "behind" (.glo "SAID") (.bin .add (.idx (.var 2 "state") (.glo "SAID")) (.tup (.cons (.call "reckoned" (.cons (.idx (.var 3 "row") (.cst (.int 1))) (.cons (.var 2 "state") .nil))) .nil)))) (.ife (.cmp .eq (.var 4 "word") (.cst (.str "call"))) (.put 5 "behind" (.glo "CALLS") (.bin .add (.idx (.var 2 "state") (.glo "CALLS")) (.tup (.cons (.bin .add (.idx (.var 2 "state") (.glo "ROW")) (.cst (.int 1))) .nil)))) (.ife (.cmp .eq (.var 4 "word") (.cst (.str "back"))) (.put 5 "behind" (.glo "CALLS") (.slc (.idx (.var 2 "state") (.glo "CALLS")) .nil (.cons (.neg (.cst (.int 1))) .nil))) .nil))))))
 (.ret (.bi .tuple false (.cons (.var 5 "behind") .nil))))))))⟩
theorem uK {s t:String}:Pp s=Pp t↔s=t:=by
 constructor
 ·intro h
  rw[Vh,Vh] at h
  have h1:(s.toList.map UV)=(t.toList.map UV):=by
   have:=congrArg (fun x:Str=>x.cps.toList) h
   simpa using this
  have inj:∀ (a b:List Char),a.map UV=b.map UV->a=b:=by
   intro a
   induction a with
   | nil=>intro b h;cases b with
    | nil=>rfl
    | cons _ _=>simp at h
   | cons x xs ih=>intro b h;cases b with
    | nil=>simp at h
    | cons y ys =>
     simp only[Pe,RU] at h
     have:x=y:=Char.toNat_inj.mp h.1
     rw[this,ih ys h.2]
  have h2:=inj _ _ h1
  exact String.toList_inj.mp h2
 ·intro h;rw[h]
@[simp] theorem Mz (s t:String):(Pp s==Pp t)=(s==t):=by
 by_cases h:s=t
 ·subst h;simp
 ·have h1:¬ Pp s=Pp t:=fun e=>h (uK.mp e)
  rw[beq_eq_false_iff_ne.mpr h1,beq_eq_false_iff_ne.mpr h]
@[simp] theorem NK (s t:String):(Pp s=Pp t)=(s=t):=propext uK
@[simp] theorem OT {α:Type} (h:List α) (a:α) (r:List α):(h++a :: r)[h.length]?=some a:=by simp
@[simp] theorem Kq {α:Type} (h:List α) (a b:α) (r:List α):(h++a :: b :: r)[h.length+1]?=some b:=by
 rw[PM (by omega)];simp
@[simp] theorem OU {α:Type} (h:List α) (a x:α) (r:List α):(h++a :: r).set h.length x=h++x :: r:=by simp
@[simp] theorem OV {α:Type} (h:List α) (a b x:α) (r:List α):(h++a :: b :: r).set (h.length+1) x=h++a :: x :: r:=by
 rw[SS _ _ (by omega)];simp
theorem af (h:HH) (w:W):fin h w h=some (w,h):=by simp[fin]
theorem iF (h g:HH) (d:D):fin h (.p d) (h++g)=some (.p d,h):=by
 unfold fin
 cases g with
 | nil=>simp
 | cons c g=>simp
@[simp] theorem NL (h:HH) (a:Cl) (r:HH):lat (h++a :: r) h.length=nU a:=by simp[lat]
@[simp] theorem OW (h:HH) (a b:Cl) (r:HH):lat (h++a :: b :: r) (h.length+1)=nU b:=by
 unfold lat;rw[Kq];rfl
@[simp] theorem OX (h:HH) (a:Cl) (r:HH):oat (h++a :: r) h.length=p6 a:=by simp[oat]
@[simp] theorem OY (h:HH) (a b:Cl) (r:HH):oat (h++a :: b :: r) (h.length+1)=p6 b:=by
 unfold oat;rw[Kq];rfl
theorem Dj {h:HH}{n:Nat}{ys:List D} (e:lat h n=some ys) (c:Cl):lat (h.set n c) n=nU c:=by
 unfold lat at e ⊢
 cases g:h[n]? with
 | none=>rw[g] at e;cases e
 | some q=>rw[List.getElem?_set_self',g];rfl
theorem EM (h:HH) (xs:List D) (g:HH):fin h (.r h.length) (h++.l xs :: g)=some (.p (.lst xs),h):=by
 unfold fin;simp
theorem uL (h h':HH) (w:W) (e:h'.length=h.length):fin h w h'=some (w,h'):=by simp[fin,e]
structure Prg (T:FK->Option Fn) (G:Str->Option W):Prop where
 inner_sums:T "inner_sums"=some bF
 begun:T "begun"=some gM
 laid_out:T "laid_out"=some dH
 of_two:T "of_two"=some fQ
 worth_of:T "worth_of"=some bz
 is_name:T "is_name"=some c9
 worth_in:T "worth_in"=some cE
 reckoned:T "reckoned"=some dI
 cell_by:T "cell_by"=some ef
 is_over:T "is_over"=some dg
 place_behind:T "place_behind"=some bC
 with_worth:T "with_worth"=some bR
 with_name:T "with_name"=some cM
 brought:T "brought"=some dh
 stepped:T "stepped"=some eB
 LETTERS:G "LETTERS"=some (.p (.tup [.str "a",.str "b",.str "c",.str "d",.str "e",.str "f"]))
 CELL_COUNT:G "CELL_COUNT"=some (.p (.int 4))
 WORTH_COUNT:G "WORTH_COUNT"=some (.p (.int 10007))
 INNER:G "INNER_COUNTS"=some (.k [("num",.int 0),("name",.int 0),("cell",.int 1),("add",.int 2),("sub",.int 2),("mul",.int 2),("less",.int 2)])
 ROW:G "ROW"=some (.p (.int 0))
 NAMES:G "NAMES"=some (.p (.int 1))
 CELLS:G "CELLS"=some (.p (.int 2))
 CALLS:G "CALLS"=some (.p (.int 3))
 ASKED:G "ASKED"=some (.p (.int 4))
 SAID:G "SAID"=some (.p (.int 5))
 MOST_CALLS:G "MOST_CALLS"=some (.p (.int 6))
inductive Op where
 | add | sub | mul | less
noncomputable def Op.w:Op->String
 | .add=>"add" | .sub=>"sub" | .mul=>"mul" | .less=>"less"
inductive Nm where
 | a | b | c | d | e | f
noncomputable def Nm.w:Nm->String
 | .a=>"a" | .b=>"b" | .c=>"c" | .d=>"d" | .e=>"e" | .f=>"f"
noncomputable def Nm.ix:Nm->Nat
 | .a=>0 | .b=>1 | .c=>2 | .d=>3 | .e=>4 | .f=>5
theorem Nm.EN (x:Nm):x.ix < 6:=by cases x<;>decide
inductive Sm where
 | num (n:Int)
 | nam (i:Nm)
 | cell (s:Sm)
 | two (o:Op) (s t:Sm)
noncomputable def Sm.enc:Sm->D
 | .num n=>.tup [.str "num",.int n]
 | .nam i=>.tup [.str "name",.str i.w]
 | .cell s=>.tup [.str "cell",s.enc]
 | .two o s t=>.tup [.str o.w,s.enc,t.enc]
noncomputable def Sm.size:Sm->Nat
 | .num _=>1
 | .nam _=>1
 | .cell s=>s.size+1
 | .two _ s t=>s.size+t.size+1
noncomputable def Sm.lay:Sm->List Sm
 | .num n=>[.num n]
 | .nam i=>[.nam i]
 | .cell s=>.cell s :: s.lay
 | .two o s t=>.two o s t :: (t.lay++s.lay)
noncomputable def Sm.subs:Sm->List Sm
 | .num _=>[]
 | .nam _=>[]
 | .cell s=>[s]
 | .two _ s t=>[s,t]
noncomputable def Wth (n:Int):Prop:=0<=n/\n<=10006
noncomputable def Sm.ok:Sm->Prop
 | .num n=>Wth n
 | .nam _=>True
 | .cell s=>s.ok
 | .two _ s t=>s.ok/\t.ok
theorem Sm.size_pos (s:Sm):1<=s.size:=by cases s<;>simp[Sm.size]
structure St where
 row:Nat
 names:List Int
 cells:List Int
 calls:List Nat
 asked:Nat
 said:List Int
noncomputable def aa (xs:List Int):List D:=xs.map D.int
noncomputable def ao (xs:List Nat):List D:=xs.map fun (n:Nat)=>D.int (n:Int)
noncomputable def St.enc (s:St):D:=.tup [.int s.row,.tup (aa s.names),.tup (aa s.cells),.tup (ao s.calls),.int s.asked,.tup (aa s.said)]
structure St.ok (s:St):Prop where
 nlen:s.names.length=6
 clen:s.cells.length=4
 nw:∀ x∈s.names,Wth x
 cw:∀ x∈s.cells,Wth x
noncomputable def two (o:Op) (x y:Int):Int:=match o with
 | .add=>(x+y) % 10007
 | .sub=>(x - y) % 10007
 | .mul=>(x*y) % 10007
 | .less=>if x < y then 1 else 0
noncomputable def Sm.val (st:St):Sm->Int
 | .num n=>n
 | .nam i=>st.names.getD i.ix 0
 | .cell s=>st.cells.getD (s.val st % 4).toNat 0
 | .two o s t=>BT.two o (s.val st) (t.val st)
theorem sJ {xs:List Int} (h:∀ x∈xs,Wth x) (i:Nat):Wth (xs.getD i 0):=by
 rw[PP]
 cases e:xs[i]? with
 | none=>exact ⟨by decide,by decide⟩
 | some x=>exact h x (Ph e)
theorem Kr (o:Op) {x y:Int}:Wth (BT.two o x y):=by
 cases o<;>simp only[BT.two,Wth]
 ·omega
 ·omega
 ·omega
 ·split<;>decide
theorem Sm.qD {st:St} (ho:st.ok):∀ {s:Sm},s.ok->Wth (s.val st)
 | .num _,h=>h
 | .nam i,_=>sJ ho.nw _
 | .cell _,_=>sJ ho.cw _
 | .two _ _ _,_=>Kr _
section
variable {T:FK->Option Fn}{G:Str->Option W}
theorem wV (P:Prg T G) (k:Nat) (s:Sm) (h:HH):runN T G (k+1) "inner_sums" [.p s.enc] h=some (.p (.tup (s.subs.map Sm.enc)),h):=by
 rw[run_eq P.inner_sums rfl]
 cases s with
 | two o s t =>
  have g:=P.INNER
  have q:cT (Pp o.w) [("num",.int 0),("name",.int 0),("cell",.int 1),("add",.int 2),("sub",.int 2),("mul",.int 2),("less",.int 2)]=some (.int 2):=by cases o<;>simp[Op.w]
  generalize ([("num",.int 0),("name",.int 0),("cell",.int 1),("add",.int 2),("sub",.int 2),("mul",.int 2),("less",.int 2)]:List (Str×D))=I at *
  simp[bF,g,q,Sm.enc,Sm.subs,af]
 | _=>simp[bF,P.INNER,Sm.enc,Sm.subs,af]
theorem sL (P:Prg T G) (k:Nat) (o:Op) {x y:Int} (hx:Wth x) (h:HH) :
 runN T G (k+1) "of_two" [.p (.str o.w),.p (.int x),.p (.int y)] h=some (.p (.int (two o x y)),h):=by
 rw[run_eq P.of_two rfl]
 have b:big x=true:=by unfold big;exact decide_eq_true (by have h1:=hx.1;have h2:=hx.2;omega)
 cases o<;>simp[fQ,P.WORTH_COUNT,af,Op.w,two,b]
 by_cases c:x < y<;>simp[c,af]
noncomputable def mJ:List D:=[.str "a",.str "b",.str "c",.str "d",.str "e",.str "f"]
theorem Dk (x:Nm):dQ .mem (.str x.w) (.tup mJ)=some true:=by cases x<;>simp[mJ,Nm.w]
theorem z6 (x:Nm):meD .tindex (.tup mJ) [.str x.w]=some (.int (x.ix:Int)):=by
 rw[yz]
 cases x<;>simp[mJ,Nm.w,Nm.ix,iN]
theorem qE {xs:List Int}{i:Nat} (h:i < xs.length):aL (.tup (aa xs)) (.int (i:Int))=some (.int (xs.getD i 0)):=by
 show atP _ _=_
 unfold atP place aa
 rw[if_pos (Int.natCast_nonneg _),if_pos (by rw[Pa];omega)]
 show (xs.map D.int)[((i:Int)).toNat]?=_
 rw[QW,Px,PP,O9 h];rfl
theorem nE (st:St):aL st.enc (.int 1)=some (.tup (aa st.names)):=rfl
theorem wW (st:St):aL st.enc (.int 2)=some (.tup (aa st.cells)):=rfl
theorem j6 (P:Prg T G) (k:Nat) (x:Nm) (h:HH):runN T G (k+1) "is_name" [.p (.str x.w)] h=some (.p (.bl true),h):=by
 rw[run_eq P.is_name rfl]
 have g:G "LETTERS"=some (.p (.tup mJ)):=P.LETTERS
 have m:=Dk x
 generalize mJ=L at *
 simp[-bB,c9,g,m,af]
theorem jn (P:Prg T G) (k:Nat) (st:St) (ho:st.ok) (x:Nm) (h:HH):runN T G (k+2) "worth_in" [.p st.enc,.p (.str x.w)] h=some (.p (.int (st.names.getD x.ix 0)),h):=by
 rw[run_eq P.worth_in rfl]
 have r:=j6 P k x
 have lx:=x.EN
 have i1:=qE (xs:=st.names) (i:=x.ix) (by rw[ho.nlen];exact lx)
 have i2:=z6 x
 have i3:=nE st
 have g:G "LETTERS"=some (.p (.tup mJ)):=P.LETTERS
 generalize mJ=L at *
 generalize st.enc=se at *
 generalize aa st.names=sn at *
 simp[-nX,cE,r,P.NAMES,g,i1,i2,i3,af]
theorem gO (P:Prg T G) (k:Nat) (st:St) (ho:st.ok) (n:Nat) (h:HH) :
 (∀ i,runN T G (k+3) "worth_of" [.p (Sm.num i).enc,.r n,.p st.enc] h=some (.p (.int i),h)) ∧
 (∀ i,runN T G (k+3) "worth_of" [.p (Sm.nam i).enc,.r n,.p st.enc] h=some (.p (.int (st.names.getD i.ix 0)),h)):=by
 refine ⟨fun i=>?_,fun i=>?_⟩<;>rw[run_eq P.worth_of rfl]
 ·simp[bz,Sm.enc,af]
 ·have r:=jn P k st ho i
  simp[bz,Sm.enc,af,r]
theorem lK (P:Prg T G) (k:Nat) (st:St) (ho:st.ok) (n:Nat) (h:HH) (s:Sm) (ws:List D) (v:Int) (e:lat h n=some (ws++[.int v])) (hv:0<=v) :
 runN T G (k+1) "worth_of" [.p (Sm.cell s).enc,.r n,.p st.enc] h=some (.p (.int (st.cells.getD (v % 4).toNat 0)),h.set n (.l ws)):=by
 rw[run_eq P.worth_of rfl]
 have c:(((v % 4).toNat:Nat):Int)=v % 4:=by omega
 have i1:=qE (xs:=st.cells) (i:=(v % 4).toNat) (by rw[ho.clen];omega)
 rw[c] at i1
 have i3:=wW st
 generalize st.enc=se at *
 generalize aa st.cells=sn at *
 generalize st.cells.getD (v % 4).toNat 0=z at *
 simp[bz,Sm.enc,P.CELLS,P.CELL_COUNT,e,i1,i3,uL]
theorem Op.other (o:Op):¬ o.w="num"/\¬ o.w="name"/\¬ o.w="cell":=by cases o<;>decide
theorem mK (P:Prg T G) (k:Nat) (st:St) (n:Nat) (h:HH) (o:Op) (s t:Sm) (ws:List D) (x y:Int) (hx:Wth x) (e:lat h n=some (ws++[.int x,.int y])) :
 runN T G (k+2) "worth_of" [.p (Sm.two o s t).enc,.r n,.p st.enc] h=some (.p (.int (two o x y)),h.set n (.l ws)):=by
 rw[run_eq P.worth_of rfl]
 have e3:lat (h.set n (.l (ws++[.int x]))) n=some (ws++[.int x]):=Dj e _
 have e1:(ws++[D.int x,D.int y]).getLast?=some (.int y):=by simp
 have e2:(ws++[D.int x,D.int y]).dropLast=ws++[.int x]:=by simp
 have r:=fun hh=>sL P k o (x:=x) (y:=y) hx hh
 obtain ⟨n1,n2,n3⟩:=o.other
 have en:(Sm.two o s t).enc=.tup [.str o.w,s.enc,t.enc]:=rfl
 rw[en]
 generalize o.w=ow at *
 generalize s.enc=se at *
 generalize t.enc=te at *
 simp[bz,e,e1,e2,e3,n1,n2,n3,r,uL,Vi]
noncomputable def loC:E:=.cmp .gt (.bi .len false (.cons (.var 2 "waiting") .nil)) (.cst (.int 0))
noncomputable def loB:S:=.seq (.set 3 "part" (.me .pop (.var 2 "waiting") .nil))
 (.seq (.ex (.me .append (.var 1 "parts") (.cons (.var 3 "part") .nil)))
 (.ex (.me .extend (.var 2 "waiting") (.cons (.call "inner_sums" (.cons (.var 3 "part") .nil)) .nil))))
noncomputable def sizes (l:List Sm):Nat:=(l.map Sm.size).sum
theorem sM (s:Sm) (l:List Sm):sizes (s.subs.reverse++l)+1=sizes (s :: l):=by
 cases s<;>simp[sizes,Sm.subs,Sm.size]<;>omega
theorem z7 (s:Sm) (l:List Sm):(s :: l).flatMap Sm.lay=s :: (s.subs.reverse++l).flatMap Sm.lay:=by
 cases s<;>simp[Sm.lay,Sm.subs,List.flatMap_cons]
theorem Dl (s:Sm):s.subs.length<=2:=by cases s<;>simp[Sm.subs]
theorem nF (l:List Sm):l.length<=sizes l:=by
 induction l with
 | nil=>simp[sizes]
 | cons s l ih =>
  have h1:=s.size_pos
  simp only[sizes,Pe,Rx,Pk] at ih ⊢
  omega
theorem Dm (P:Prg T G) (k:Nat) (h:HH) (t0:W):∀ (m:Nat) (stk:List Sm) (ps:List D) (x:Option W),sizes stk<=m->ps.length+sizes stk<=50000 →
 ∃ x',aU (ev (runN T G (k+1)) G loC) (evS (runN T G (k+1)) G loB) (m+1) [some t0,some (.r h.length),some (.r (h.length+1)),x] (h++[.l ps,.l (stk.reverse.map Sm.enc)]) =
  some (.nx [some t0,some (.r h.length),some (.r (h.length+1)),x'] (h++[.l (ps++(stk.flatMap Sm.lay).map Sm.enc),.l []])):=by
 intro m
 induction m with
 | zero =>
  intro stk ps x hs _
  have:stk=[]:=by
   have:=nF stk
   exact Ub (by omega)
  subst this
  exact ⟨x,by simp[aU,loC,rd]⟩
 | succ m ih =>
  intro stk ps x hs hl
  cases stk with
  | nil=>exact ⟨x,by simp[aU,loC,rd]⟩
  | cons s l =>
   have e:=sM s l
   obtain ⟨x',q⟩:=ih (s.subs.reverse++l) (ps++[s.enc]) (some (.p s.enc)) (by omega) (by simp only[PB,SW];omega)
   refine ⟨x',?_⟩
   have r:=wV P k s
   have l1:l.length+s.subs.length<=100000:=by
    have h1:=Dl s
    have h2:=nF l
    have h3:sizes (s :: l)=s.size+sizes l:=by simp[sizes]
    omega
   have c1:(0:Int) < (l.length:Int)+1:=by omega
   have l2:ps.length < 100000:=by omega
   have hc:ev (runN T G (k+1)) G loC [some t0,some (.r h.length),some (.r (h.length+1)),x] (h++[.l ps,.l ((s :: l).reverse.map Sm.enc)])=some (.p (.bl true),h++[.l ps,.l ((s :: l).reverse.map Sm.enc)]):=by
    simp[loC,rd,c1]
   have hb:evS (runN T G (k+1)) G loB [some t0,some (.r h.length),some (.r (h.length+1)),x] (h++[.l ps,.l ((s :: l).reverse.map Sm.enc)]) =
    some (.nx [some t0,some (.r h.length),some (.r (h.length+1)),some (.p s.enc)] (h++[.l (ps++[s.enc]),.l ((s.subs.reverse++l).reverse.map Sm.enc)])):=by
    simp[loB,r,l1,l2]
   rw[aU,hc,c6,iO,hb,cK,q,z7,Pe,Qt,QM]
theorem lM:dH=⟨["term"],["term","parts","waiting","part"],.seq (.set 1 "parts" (.lst true .nil))
 (.seq (.set 2 "waiting" (.lst true (.cons (.var 0 "term") .nil))) (.seq (.whl loC loB) (.ret (.var 1 "parts"))))⟩:=rfl
theorem oR (P:Prg T G) (k:Nat) (s:Sm) (hs:s.size<=40000) (h:HH):runN T G (k+2) "laid_out" [.p s.enc] h=some (.p (.lst (s.lay.map Sm.enc)),h):=by
 rw[run_eq P.laid_out rfl]
 obtain ⟨x',q⟩:=Dm P k h (.p s.enc) 99999 [s] [] none (by simp only[sizes,Pe,Rc,Rx,List.sum_nil];omega) (by simp only[sizes,Pe,Rc,Rx,List.sum_nil,P8];omega)
 simp only[List.flatMap_cons,List.flatMap_nil,P4,Ry,SK,Pe,Rc] at q
 rw[lM]
 simp[turns,q,EM]
noncomputable def rkB:S:=.ex (.me .append (.var 2 "worths") (.cons (.call "worth_of" (.cons (.var 3 "part") (.cons (.var 2 "worths") (.cons (.var 1 "state") .nil)))) .nil))
theorem Dn (P:Prg T G) (k:Nat) (h:HH) (t0:W) (st:St) (ho:st.ok):∀ (s:Sm),s.ok->∀ (ws:List D) (rest:List D) (x:Option W),ws.length+s.size<=50000 →
 ∃ x',bx (evS (runN T G (k+3)) G rkB) [(3,"part")] ((s.lay.map Sm.enc).reverse++rest) [some t0,some (.p st.enc),some (.r h.length),x] (h++[.l ws]) =
  bx (evS (runN T G (k+3)) G rkB) [(3,"part")] rest [some t0,some (.p st.enc),some (.r h.length),x'] (h++[.l (ws++[.int (s.val st)])]):=by
 intro s
 induction s with
 | num n =>
  intro _ ws rest x hl
  refine ⟨some (.p (Sm.num n).enc),?_⟩
  have r:=(gO P k st ho h.length (h++[.l ws])).1 n
  have l:ws.length < 100000:=by simp only[Sm.size] at hl;omega
  have hb:evS (runN T G (k+3)) G rkB [some t0,some (.p st.enc),some (.r h.length),some (.p (Sm.num n).enc)] (h++[.l ws]) =
   some (.nx [some t0,some (.p st.enc),some (.r h.length),some (.p (Sm.num n).enc)] (h++[.l (ws++[.int n])])):=by
   simp[rkB,r,l]
  simp only[Sm.lay,Pe,Rc,SK,QM,Sm.val]
  simp[hb]
 | nam i =>
  intro _ ws rest x hl
  refine ⟨some (.p (Sm.nam i).enc),?_⟩
  have r:=(gO P k st ho h.length (h++[.l ws])).2 i
  have l:ws.length < 100000:=by simp only[Sm.size] at hl;omega
  have hb:evS (runN T G (k+3)) G rkB [some t0,some (.p st.enc),some (.r h.length),some (.p (Sm.nam i).enc)] (h++[.l ws]) =
   some (.nx [some t0,some (.p st.enc),some (.r h.length),some (.p (Sm.nam i).enc)] (h++[.l (ws++[.int (st.names.getD i.ix 0)])])):=by
   simp[rkB,r,l]
  simp only[Sm.lay,Pe,Rc,SK,QM,Sm.val]
  simp[hb]
 | cell s ih =>
  intro hok ws rest x hl
  obtain ⟨x1,e1⟩:=ih hok ws ((Sm.cell s).enc :: rest) x (by simp only[Sm.size] at hl;omega)
  refine ⟨some (.p (Sm.cell s).enc),?_⟩
  have r:=lK P (k+2) st ho h.length (h++[.l (ws++[.int (s.val st)])]) s ws (s.val st) (by simp) (Sm.qD (s:=s) ho hok).1
  have l:ws.length < 100000:=by simp only[Sm.size] at hl;omega
  have hb:evS (runN T G (k+3)) G rkB [some t0,some (.p st.enc),some (.r h.length),some (.p (Sm.cell s).enc)] (h++[.l (ws++[.int (s.val st)])]) =
   some (.nx [some t0,some (.p st.enc),some (.r h.length),some (.p (Sm.cell s).enc)] (h++[.l (ws++[.int ((Sm.cell s).val st)])])):=by
   simp[rkB,r,l,Sm.val]
  simp only[Sm.lay,Pe,List.reverse_cons,Qt,QM]
  rw[e1]
  simp[hb]
 | two o s t ihs iht =>
  intro hok ws rest x hl
  have hl':=hl
  simp only[Sm.size] at hl'
  obtain ⟨x1,e1⟩:=ihs hok.1 ws ((t.lay.map Sm.enc).reverse++((Sm.two o s t).enc :: rest)) x (by omega)
  obtain ⟨x2,e2⟩:=iht hok.2 (ws++[.int (s.val st)]) ((Sm.two o s t).enc :: rest) x1 (by simp only[PB,SW];have:=s.size_pos;omega)
  refine ⟨some (.p (Sm.two o s t).enc),?_⟩
  have r:=mK P (k+1) st h.length (h++[.l (ws++[.int (s.val st),.int (t.val st)])]) o s t ws (s.val st) (t.val st) (Sm.qD ho hok.1) (by simp)
  have l:ws.length < 100000:=by omega
  have hb:evS (runN T G (k+3)) G rkB [some t0,some (.p st.enc),some (.r h.length),some (.p (Sm.two o s t).enc)] (h++[.l (ws++[.int (s.val st),.int (t.val st)])]) =
   some (.nx [some t0,some (.p st.enc),some (.r h.length),some (.p (Sm.two o s t).enc)] (h++[.l (ws++[.int ((Sm.two o s t).val st)])])):=by
   simp[rkB,r,l,Sm.val]
  simp only[Sm.lay,Pe,Rz,List.reverse_cons,List.reverse_append,Qt,QM]
  rw[e1,e2]
  simp only[Qt,QM]
  simp[hb]
theorem lN:dI=⟨["term","state"],["term","state","worths","part"],.seq (.set 2 "worths" (.lst true .nil))
 (.seq (.for [(3,"part")] .rev (.cons (.call "laid_out" (.cons (.var 0 "term") .nil)) .nil) rkB) (.ret (.idx (.var 2 "worths") (.cst (.int 0)))))⟩:=rfl
theorem cN (P:Prg T G) (k:Nat) (s:Sm) (hs:s.size<=40000) (hok:s.ok) (st:St) (ho:st.ok) (h:HH) :
 runN T G (k+4) "reckoned" [.p s.enc,.p st.enc] h=some (.p (.int (s.val st)),h):=by
 rw[run_eq P.reckoned rfl]
 obtain ⟨x',q⟩:=Dn P k h (.p s.enc) st ho s hok [] [] none (by simp only[P8];omega)
 rw[lN]
 simp only[P4,Ry] at q
 have r:=oR P (k+1) s hs
 simp[r,gy,q,iF,rd]
end
end BT
end
section
namespace BT
open PySem
section
variable {T:FK->Option Fn}{G:Str->Option W}
theorem iy {α:Type} (xs:List α) (i:Nat):atP xs (i:Int)=xs[i]?:=by
 unfold atP place
 by_cases h:i < xs.length
 ·have h1:((i:Int) < (xs.length:Int)):=by omega
  simp[h1,h]
 ·have h1:¬ ((i:Int) < (xs.length:Int)):=by omega
  simp[h1];omega
theorem gP (P:Prg T G) (k:Nat) (xs:List D) (i:Nat) (hi:i < xs.length) (hl:xs.length<=1000) (d:D) (h:HH) :
 runN T G (k+1) "with_worth" [.p (.tup xs),.p (.int i),.p d] h=some (.p (.tup (xs.set i d)),h):=by
 rw[run_eq P.with_worth rfl]
 have a1:¬ ((i:Int) < 0):=by omega
 have a2:(i:Int)<=(xs.length:Int):=by omega
 have a3:¬ ((i:Int)+1 < 0):=by omega
 have a4:(i:Int)+1<=(xs.length:Int):=by omega
 have a5:((i:Int)+1).toNat=i+1:=by omega
 have a6:xs.length - (i+1)+(i+1)<=100000:=by omega
 have a7:i+1+(xs.length - (i+1))<=100000:=by omega
 have a8:min i xs.length=i:=by omega
 have a9:i+1<=100000:=by omega
 have e:xs.take i++d :: xs.drop (i+1)=xs.set i d:=by
  rw[List.set_eq_take_append_cons_drop,if_pos hi]
 have b1:(xs.take i).length=i:=by simp;omega
 have b2:(xs.drop (i+1)).length=xs.length - (i+1):=by simp
 have b3:((xs.drop (i+1)).take (xs.length - (i+1)))=xs.drop (i+1):=by
  apply Vb;simp
 simp[bR,a1,a2,a3,a4,a5,a7,a8,a9,b3,e,af]
@[simp] theorem OJ (st:St):aL st.enc (.int 0)=some (.int st.row):=rfl
@[simp] theorem OL (st:St):aL st.enc (.int 1)=some (.tup (aa st.names)):=rfl
@[simp] theorem OM (st:St):aL st.enc (.int 2)=some (.tup (aa st.cells)):=rfl
@[simp] theorem ON (st:St):aL st.enc (.int 3)=some (.tup (ao st.calls)):=rfl
@[simp] theorem OO (st:St):aL st.enc (.int 4)=some (.int st.asked):=rfl
@[simp] theorem OP (st:St):aL st.enc (.int 5)=some (.tup (aa st.said)):=rfl
inductive Rw where
 | set (x:Nm) (s:Sm) | put (s t:Sm) | ask (x:Nm) | say (s:Sm) | jump (p:Nat) | unless (s:Sm) (p:Nat) | call (p:Nat) | back | stop
noncomputable def Rw.enc:Rw->D
 | .set x s=>.tup [.str "set",.str x.w,s.enc]
 | .put s t=>.tup [.str "put",s.enc,t.enc]
 | .ask x=>.tup [.str "ask",.str x.w]
 | .say s=>.tup [.str "say",s.enc]
 | .jump p=>.tup [.str "jump",.int p]
 | .unless s p=>.tup [.str "unless",s.enc,.int p]
 | .call p=>.tup [.str "call",.int p]
 | .back=>.tup [.str "back"]
 | .stop=>.tup [.str "stop"]
noncomputable def oU (s:Sm):Prop:=s.ok/\s.size<=15
noncomputable def Rw.ok (n:Nat):Rw->Prop
 | .set _ s=>oU s
 | .put s t=>oU s/\oU t
 | .ask _=>True
 | .say s=>oU s
 | .jump p=>p<=n
 | .unless s p=>oU s/\p<=n
 | .call p=>p<=n
 | .back=>True
 | .stop=>True
noncomputable abbrev Pg:=List Rw
noncomputable def bG (p:Pg):D:=.tup (p.map Rw.enc)
noncomputable def Pg.ok (p:Pg):Prop:=∀ r∈p,r.ok p.length
noncomputable def Rw.next (asked:List Int) (st:St):Rw->St
 | .set x s=>{ st with row:=st.row+1,names:=st.names.set x.ix (s.val st) }
 | .put s t=>{ st with row:=st.row+1,cells:=st.cells.set (s.val st % 4).toNat (t.val st) }
 | .ask x=>{ st with row:=st.row+1,names:=st.names.set x.ix (asked.getD st.asked 0),asked:=st.asked+1 }
 | .say s=>{ st with row:=st.row+1,said:=st.said++[s.val st] }
 | .jump p=>{ st with row:=p }
 | .unless s p=>{ st with row:=if s.val st=0 then p else st.row+1 }
 | .call p=>{ st with row:=p,calls:=st.calls++[st.row+1] }
 | .back=>{ st with row:=st.calls.getLast?.getD 0,calls:=st.calls.dropLast }
 | .stop=>st
noncomputable def Rw.over (st:St):Rw->Bool
 | .back=>st.calls.length==0
 | .call _=>decide (6<=st.calls.length)
 | .stop=>true
 | _=>false
noncomputable def over (p:Pg) (st:St):Bool:=match p[st.row]? with
 | some r=>r.over st
 | none=>true
noncomputable def step (p:Pg) (asked:List Int) (st:St):St:=match p[st.row]? with
 | some r=>r.next asked st
 | none=>st
noncomputable def St.zero:St:=⟨0,[0,0,0,0,0,0],[0,0,0,0],[],0,[]⟩
theorem Do:St.zero.ok:=⟨rfl,rfl,by simp[St.zero,Wth],by simp[St.zero,Wth]⟩
noncomputable def sts (p:Pg) (asked:List Int):Nat->St->List St
 | 0,st=>[st]
 | n+1,st=>if over p st then [st] else st :: sts p asked n (step p asked st)
theorem wX (P:Prg T G) (k:Nat) (h:HH):runN T G (k+1) "begun" [] h=some (.p St.zero.enc,h):=by
 rw[run_eq P.begun rfl]
 simp[gM,P.LETTERS,P.CELL_COUNT,af,St.zero,St.enc,aa,ao,rep,Pv,List.flatten]
theorem qF (P:Prg T G) (k:Nat) (asked:List Int) (n:Nat) (h:HH):runN T G (k+1) "brought" [.p (.lst (aa asked)),.p (.int n)] h=some (.p (.int (asked.getD n 0)),h):=by
 rw[run_eq P.brought rfl]
 by_cases c:n < asked.length
 ·have c1:(n:Int) < (asked.length:Int):=by omega
  simp[dh,aa,c,c1,af]
 ·have c1:¬ (n:Int) < (asked.length:Int):=by omega
  have e:asked[n]?=none:=Pj (by omega)
  simp[dh,aa,c1,af,e]
theorem iG (P:Prg T G) (k:Nat) (st:St) (ho:st.ok) (x:Nm) (d:Int) (h:HH) :
 runN T G (k+2) "with_name" [.p st.enc,.p (.str x.w),.p (.int d)] h=some (.p (.tup (aa (st.names.set x.ix d))),h):=by
 rw[run_eq P.with_name rfl]
 have r:=fun i=>gP P k (aa st.names) i
 have l:(aa st.names).length=6:=by simp[aa,ho.nlen]
 have e:(aa st.names).set x.ix (.int d)=aa (st.names.set x.ix d):=by simp[aa,List.map_set]
 have q:=r x.ix (by rw[l];exact x.EN) (by omega) (.int d)
 rw[e] at q
 have g:G "LETTERS"=some (.p (.tup mJ)):=P.LETTERS
 have i2:=z6 x
 have i3:=nE st
 generalize mJ=L at *
 generalize st.enc=se at *
 generalize hz:(x.ix:Int)=z at *
 simp[cM,P.NAMES,g,i2,i3,af,q]
theorem qG (P:Prg T G) (k:Nat) (s:Sm) (hs:oU s) (st:St) (ho:st.ok) (h:HH):runN T G (k+5) "cell_by" [.p s.enc,.p st.enc] h=some (.p (.int (s.val st % 4)),h):=by
 rw[run_eq P.cell_by rfl]
 have q:=cN P k s (by have:=hs.2;omega) hs.1 st ho
 simp[ef,q,P.CELL_COUNT,af]
noncomputable def Rw.word:Rw->String
 | .set _ _=>"set" | .put _ _=>"put" | .ask _=>"ask" | .say _=>"say" | .jump _=>"jump" | .unless _ _=>"unless" | .call _=>"call" | .back=>"back" | .stop=>"stop"
theorem Rw.oV (r:Rw):aL r.enc (.int 0)=some (.str r.word):=by cases r<;>rfl
noncomputable def plT:S:=(.seq (.ife (.or (.cmp .eq (.var 2 "word") (.cst (.str "jump"))) (.cmp .eq (.var 2 "word") (.cst (.str "call")))) (.ret (.idx (.var 0 "row") (.cst (.int 1)))) .nil)
 (.seq (.ife (.cmp .eq (.var 2 "word") (.cst (.str "back"))) (.ret (.idx (.idx (.var 1 "state") (.glo "CALLS")) (.neg (.cst (.int 1))))) .nil)
 (.seq (.ife (.and (.cmp .eq (.var 2 "word") (.cst (.str "unless"))) (.cmp .eq (.call "reckoned" (.cons (.idx (.var 0 "row") (.cst (.int 1))) (.cons (.var 1 "state") .nil))) (.cst (.int 0)))) (.ret (.idx (.var 0 "row") (.cst (.int 2)))) .nil)
 (.ret (.bin .add (.idx (.var 1 "state") (.glo "ROW")) (.cst (.int 1)))))))
theorem qH:bC=⟨["row","state"],["row","state","word"],
 (.seq (.set 2 "word" (.idx (.var 0 "row") (.cst (.int 0)))) plT)⟩:=rfl
theorem Dp (P:Prg T G) (F:FK->List W->HH->Option (W×HH)) (w0:W) (st:St) (h:HH) (v:String) (n1:¬ v="jump") (n2:¬ v="call") (n3:¬ v="back") (n4:¬ v="unless"):evS F G plT [some w0,some (.p st.enc),some (.p (.str v))] h=some (.rt (.p (.int ((st.row:Int)+1))) h):=by
 have i0:aL st.enc (.int 0)=some (.int (st.row:Int)):=rfl
 generalize st.enc=se at *
 simp[plT,n1,n2,n3,n4,P.ROW,i0]
theorem EO (F:FK->List W->HH->Option (W×HH)) (d:D) (w1:W) (h:HH) (v:String) (q:Int) (hv:v="jump"\/v="call") (i1:aL d (.int 1)=some (.int q)):evS F G plT [some (.p d),some w1,some (.p (.str v))] h=some (.rt (.p (.int q)) h):=by
 rcases hv with rfl | rfl<;>simp[plT,i1]
theorem wY (P:Prg T G) (k:Nat) (n:Nat) (r:Rw) (hr:r.ok n) (st:St) (ho:st.ok) (asked:List Int) (hb:r.over st=false) (h:HH) :
 runN T G (k+5) "place_behind" [.p r.enc,.p st.enc] h=some (.p (.int (r.next asked st).row),h):=by
 have wa:=r.oV
 have pre:runN T G (k+5) "place_behind" [.p r.enc,.p st.enc] h=j8 (evS (runN T G (k+4)) G plT [some (.p r.enc),some (.p st.enc),some (.p (.str r.word))] h) (fin h):=by
  rw[run_eq P.place_behind rfl,qH]
  generalize r.enc=re at *
  simp[wa]
 have ot:∀ q:Int,j8 (some (.rt (.p (.int q)) h)) (fin h)=some (.p (.int q),h):=fun q=>by simp[af]
 rw[pre]
 cases r with
 | «unless» s p =>
  have q:=cN P k s (by have:=hr.1.2;omega) hr.1.1 st ho
  have i1:aL (Rw.unless s p).enc (.int 1)=some s.enc:=rfl
  have i2:aL (Rw.unless s p).enc (.int 2)=some (.int (p:Int)):=rfl
  have i0:aL st.enc (.int 0)=some (.int (st.row:Int)):=rfl
  generalize (Rw.unless s p).enc=re at *
  generalize st.enc=se at *
  generalize s.enc=sn at *
  by_cases c:s.val st=0<;>simp[plT,Rw.word,Rw.next,q,c,i0,i1,i2,af,P.ROW]
 | back =>
  have c:st.calls≠[]:=by
   intro e;simp[Rw.over,e] at hb
  have:∃ l x,st.calls=l++[x]:=⟨st.calls.dropLast,st.calls.getLast c,(Uk c).symm⟩
  obtain ⟨l,x,e⟩:=this
  have i3:aL st.enc (.int 3)=some (.tup (ao st.calls)):=rfl
  have ix:aL (.tup (ao st.calls)) (.int (-1))=some (.int (x:Int)):=by
   have e2:-((l.length:Int)+1)<=-1:=by omega
   have e3:(-1+((l.length:Int)+1)).toNat=l.length:=by omega
   simp[ao,e,e2,e3]
  have nx:((Rw.back).next asked st).row=x:=by simp[Rw.next,e]
  rw[nx]
  generalize st.enc=se at *
  generalize ao st.calls=nl at *
  simp[-nX,plT,Rw.word,P.CALLS,i3,ix,af]
 | stop=>simp[Rw.over] at hb
 | jump p=>rw[Rw.word,EO _ _ _ _ _ (p:Int) (.inl rfl) rfl,ot];rfl
 | call p=>rw[Rw.word,EO _ _ _ _ _ (p:Int) (.inr rfl) rfl,ot];rfl
 | _=>rw[Rw.word,Dp P _ _ _ _ _ (by decide) (by decide) (by decide) (by decide),ot];rfl
noncomputable def ovT:S:=(.seq (.ife (.cmp .eq (.var 2 "word") (.cst (.str "back"))) (.ret (.cmp .eq (.bi .len false (.cons (.idx (.var 1 "state") (.glo "CALLS")) .nil)) (.cst (.int 0)))) .nil)
 (.seq (.ife (.cmp .eq (.var 2 "word") (.cst (.str "call"))) (.ret (.cmp .ge (.bi .len false (.cons (.idx (.var 1 "state") (.glo "CALLS")) .nil)) (.glo "MOST_CALLS"))) .nil)
 (.ret (.cmp .eq (.var 2 "word") (.cst (.str "stop"))))))
theorem mL:dg=⟨["program","state"],["program","state","word"],
 (.seq (.ife (.cmp .ge (.idx (.var 1 "state") (.glo "ROW")) (.bi .len false (.cons (.var 0 "program") .nil))) (.ret (.cst (.bl true))) .nil)
 (.seq (.set 2 "word" (.idx (.idx (.var 0 "program") (.idx (.var 1 "state") (.glo "ROW"))) (.cst (.int 0))))
 ovT))⟩:=rfl
theorem Dq (F:FK->List W->HH->Option (W×HH)) (w0 w1:W) (h:HH) (v:String) (n1:¬ v="back") (n2:¬ v="call"):evS F G ovT [some w0,some w1,some (.p (.str v))] h=some (.rt (.p (.bl (decide (v="stop")))) h):=by
 by_cases c:v="stop"
 ·subst c
  simp[ovT]
 ·skip
  simp[ovT,n1,n2,c]
theorem qI (P:Prg T G) (k:Nat) (p:Pg) (st:St) (h:HH):runN T G (k+1) "is_over" [.p (bG p),.p st.enc] h=some (.p (.bl (over p st)),h):=by
 have lp:biD .len [bG p]=some (.int p.length):=by simp[bG]
 by_cases c:st.row < p.length
 ·have c1:¬ (p.length:Int)<=(st.row:Int):=by omega
  have c2:(st.row:Int) < (p.length:Int):=by omega
  have e:p[st.row]?=some p[st.row]:=O9 c
  have row:aL (bG p) (.int st.row)=some (p[st.row]).enc:=by simp[bG,c2,e]
  have ov:over p st=(p[st.row]).over st:=by rw[over,e]
  rw[ov]
  generalize p[st.row]=r at row ⊢
  have wa:=r.oV
  have pre:runN T G (k+1) "is_over" [.p (bG p),.p st.enc] h=j8 (evS (runN T G k) G ovT [some (.p (bG p)),some (.p st.enc),some (.p (.str r.word))] h) (fin h):=by
   rw[run_eq P.is_over rfl,mL]
   generalize r.enc=re at row wa
   simp[lp,row,wa,P.ROW,c1]
  rw[pre]
  have ln:biD .len [.tup (ao st.calls)]=some (.int (st.calls.length:Int)):=by simp[ao]
  have i3:aL st.enc (.int 3)=some (.tup (ao st.calls)):=rfl
  cases r with
  | back =>
   have ee:(((st.calls.length:Nat):Int)==0)=(st.calls.length==0):=by
    cases st.calls with
    | nil=>rfl
    | cons a l=>rw[beq_eq_false_iff_ne.mpr (by simp only[Pk];omega)];rfl
   simp[-nj,ovT,Rw.word,P.CALLS,i3,ln,ee,af,Rw.over]
  | call q =>
   have ee:decide ((6:Int)<=(st.calls.length:Int))=decide (6<=st.calls.length):=decide_eq_decide.mpr (by omega)
   simp[-nj,ovT,Rw.word,P.CALLS,P.MOST_CALLS,i3,ln,ee,af,Rw.over]
  | _ =>
   rw[Rw.word,Dq _ _ _ _ _ (by decide) (by decide)]
   simp[af,Rw.over]
 ·have c1:(p.length:Int)<=(st.row:Int):=by omega
  have e:p[st.row]?=none:=Pj (by omega)
  rw[run_eq P.is_over rfl]
  simp[dg,lp,P.ROW,c1,af,over,e]
theorem ints_set (xs:List Int) (i:Nat) (v:Int):(aa xs).set i (.int v)=aa (xs.set i v):=by simp[aa,List.map_set]
theorem gQ (xs:List Int):(aa xs).length=xs.length:=by simp[aa]
theorem ints_snoc (xs:List Int) (v:Int):aa xs++[.int v]=aa (xs++[v]):=by simp[aa]
theorem wZ (xs:List Nat) (v:Nat):ao xs++[.int (v:Int)]=ao (xs++[v]):=by simp[ao]
theorem z8 (xs:List Nat):cut (ao xs) none (some (-1))=ao xs.dropLast:=by
 have e:(-1+(xs.length:Int)).toNat=xs.length - 1:=by omega
 simp[cut,clip,ao,e,List.dropLast_eq_take]
structure St.small (st:St):Prop where
 sl:st.said.length<=5000
 cl:st.calls.length<=5000
noncomputable def encL (st:St):List D:=[.int st.row,.tup (aa st.names),.tup (aa st.cells),.tup (ao st.calls),.int st.asked,.tup (aa st.said)]
theorem z9 (st:St):biD .list [st.enc]=some (.lst (encL st)):=rfl
noncomputable def Hs:S:=(.put 5 "behind" (.glo "CALLS") (.slc (.idx (.var 2 "state") (.glo "CALLS")) .nil (.cons (.neg (.cst (.int 1))) .nil)))
noncomputable def Hu:S:=(.ife (.cmp .eq (.var 4 "word") (.cst (.str "back"))) Hs .nil)
noncomputable def Hv:S:=(.put 5 "behind" (.glo "CALLS") (.bin .add (.idx (.var 2 "state") (.glo "CALLS")) (.tup (.cons (.bin .add (.idx (.var 2 "state") (.glo "ROW")) (.cst (.int 1))) .nil))))
noncomputable def Dr:S:=(.ife (.cmp .eq (.var 4 "word") (.cst (.str "call"))) Hv Hu)
noncomputable def Hw:S:=(.put 5 "behind" (.glo "SAID") (.bin .add (.idx (.var 2 "state") (.glo "SAID")) (.tup (.cons (.call "reckoned" (.cons (.idx (.var 3 "row") (.cst (.int 1))) (.cons (.var 2 "state") .nil))) .nil))))
noncomputable def Aa:S:=(.ife (.cmp .eq (.var 4 "word") (.cst (.str "say"))) Hw Dr)
noncomputable def Hx:S:=(.seq (.put 5 "behind" (.glo "NAMES") (.call "with_name" (.cons (.var 2 "state") (.cons (.idx (.var 3 "row") (.cst (.int 1))) (.cons (.call "brought" (.cons (.var 1 "asked") (.cons (.idx (.var 2 "state") (.glo "ASKED")) .nil))) .nil)))))
 (.put 5 "behind" (.glo "ASKED") (.bin .add (.idx (.var 2 "state") (.glo "ASKED")) (.cst (.int 1)))))
noncomputable def xg:S:=(.ife (.cmp .eq (.var 4 "word") (.cst (.str "ask"))) Hx Aa)
noncomputable def Hy:S:=(.put 5 "behind" (.glo "CELLS") (.call "with_worth" (.cons (.idx (.var 2 "state") (.glo "CELLS")) (.cons (.call "cell_by" (.cons (.idx (.var 3 "row") (.cst (.int 1))) (.cons (.var 2 "state") .nil))) (.cons (.call "reckoned" (.cons (.idx (.var 3 "row") (.cst (.int 2))) (.cons (.var 2 "state") .nil))) .nil)))))
noncomputable def sN:S:=(.ife (.cmp .eq (.var 4 "word") (.cst (.str "put"))) Hy xg)
noncomputable def Hz:S:=(.put 5 "behind" (.glo "NAMES") (.call "with_name" (.cons (.var 2 "state") (.cons (.idx (.var 3 "row") (.cst (.int 1))) (.cons (.call "reckoned" (.cons (.idx (.var 3 "row") (.cst (.int 2))) (.cons (.var 2 "state") .nil))) .nil)))))
noncomputable def iW:S:=(.ife (.cmp .eq (.var 4 "word") (.cst (.str "set"))) Hz sN)
noncomputable def HA:S:=(.seq iW
 (.ret (.bi .tuple false (.cons (.var 5 "behind") .nil))))
theorem mO:eB=⟨["program","asked","state"],["program","asked","state","row","word","behind"],
 (.seq (.set 3 "row" (.idx (.var 0 "program") (.idx (.var 2 "state") (.glo "ROW"))))
 (.seq (.set 4 "word" (.idx (.var 3 "row") (.cst (.int 0))))
 (.seq (.set 5 "behind" (.bi .list true (.cons (.var 2 "state") .nil)))
 (.seq (.put 5 "behind" (.glo "ROW") (.call "place_behind" (.cons (.var 3 "row") (.cons (.var 2 "state") .nil))))
 HA))))⟩:=rfl
theorem HB (F:FK->List W->HH->Option (W×HH)) (A B:S) (s:Sl) (h:HH):evS F G (.seq A B) s h=jX (evS F G A s h) (evS F G B):=by rw[evS]
theorem pick (F:FK->List W->HH->Option (W×HH)) (w0 w1 w2 w3:W) (v w:String) (rest:Sl) (h:HH) (A B:S):evS F G (.ife (.cmp .eq (.var 4 "word") (.cst (.str w))) A B) (some w0 :: some w1 :: some w2 :: some w3 :: some (.p (.str v)) :: rest) h=if v=w then evS F G A (some w0 :: some w1 :: some w2 :: some w3 :: some (.p (.str v)) :: rest) h else evS F G B (some w0 :: some w1 :: some w2 :: some w3 :: some (.p (.str v)) :: rest) h:=by
 have e:eqv (.str v) (.str w)=decide (v=w):=by
  by_cases c:v=w
  ·rw[decide_eq_true c,c];simp
  ·rw[decide_eq_false c]
   have:¬ Pp v=Pp w:=fun z=>c (by simpa using z)
   simp[this,c]
 by_cases c:v=w
 ·rw[decide_eq_true c] at e
  rw[if_pos c]
  simp[-eqv,e]
 ·rw[decide_eq_false c] at e
  rw[if_neg c]
  simp[-eqv,e]
theorem to0 (F:FK->List W->HH->Option (W×HH)) (w0 w1 w2 w3:W) (rest:Sl) (h:HH):evS F G iW (some w0 :: some w1 :: some w2 :: some w3 :: some (.p (.str "set")) :: rest) h=evS F G Hz (some w0 :: some w1 :: some w2 :: some w3 :: some (.p (.str "set")) :: rest) h:=by
 rw[iW,pick,if_pos rfl]
theorem to1 (F:FK->List W->HH->Option (W×HH)) (w0 w1 w2 w3:W) (rest:Sl) (h:HH):evS F G iW (some w0 :: some w1 :: some w2 :: some w3 :: some (.p (.str "put")) :: rest) h=evS F G Hy (some w0 :: some w1 :: some w2 :: some w3 :: some (.p (.str "put")) :: rest) h:=by
 rw[iW,pick,if_neg (by decide),sN,pick,if_pos rfl]
theorem to2 (F:FK->List W->HH->Option (W×HH)) (w0 w1 w2 w3:W) (rest:Sl) (h:HH):evS F G iW (some w0 :: some w1 :: some w2 :: some w3 :: some (.p (.str "ask")) :: rest) h=evS F G Hx (some w0 :: some w1 :: some w2 :: some w3 :: some (.p (.str "ask")) :: rest) h:=by
 rw[iW,pick,if_neg (by decide),sN,pick,if_neg (by decide),xg,pick,if_pos rfl]
theorem to3 (F:FK->List W->HH->Option (W×HH)) (w0 w1 w2 w3:W) (rest:Sl) (h:HH):evS F G iW (some w0 :: some w1 :: some w2 :: some w3 :: some (.p (.str "say")) :: rest) h=evS F G Hw (some w0 :: some w1 :: some w2 :: some w3 :: some (.p (.str "say")) :: rest) h:=by
 rw[iW,pick,if_neg (by decide),sN,pick,if_neg (by decide),xg,pick,if_neg (by decide),Aa,pick,if_pos rfl]
theorem to4 (F:FK->List W->HH->Option (W×HH)) (w0 w1 w2 w3:W) (rest:Sl) (h:HH):evS F G iW (some w0 :: some w1 :: some w2 :: some w3 :: some (.p (.str "call")) :: rest) h=evS F G Hv (some w0 :: some w1 :: some w2 :: some w3 :: some (.p (.str "call")) :: rest) h:=by
 rw[iW,pick,if_neg (by decide),sN,pick,if_neg (by decide),xg,pick,if_neg (by decide),Aa,pick,if_neg (by decide),Dr,pick,if_pos rfl]
theorem to5 (F:FK->List W->HH->Option (W×HH)) (w0 w1 w2 w3:W) (rest:Sl) (h:HH):evS F G iW (some w0 :: some w1 :: some w2 :: some w3 :: some (.p (.str "back")) :: rest) h=evS F G Hs (some w0 :: some w1 :: some w2 :: some w3 :: some (.p (.str "back")) :: rest) h:=by
 rw[iW,pick,if_neg (by decide),sN,pick,if_neg (by decide),xg,pick,if_neg (by decide),Aa,pick,if_neg (by decide),Dr,pick,if_neg (by decide),Hu,pick,if_pos rfl]
theorem toN (F:FK->List W->HH->Option (W×HH)) (w0 w1 w2 w3:W) (rest:Sl) (h:HH) (v:String) (hv:v∉["set","put","ask","say","call","back"]):evS F G iW (some w0 :: some w1 :: some w2 :: some w3 :: some (.p (.str v)) :: rest) h=some (.nx (some w0 :: some w1 :: some w2 :: some w3 :: some (.p (.str v)) :: rest) h):=by
 simp only[Rh,Q0,or_false,not_or] at hv
 obtain ⟨n1,n2,n3,n4,n5,n6⟩:=hv
 rw[iW,pick,if_neg n1,sN,pick,if_neg n2,xg,pick,if_neg n3,Aa,pick,if_neg n4,Dr,pick,if_neg n5,Hu,pick,if_neg n6];rfl
theorem qJ (P:Prg T G) (k:Nat) (p:Pg) (hp:Pg.ok p) (asked:List Int) (st:St) (ho:st.ok) (hs:st.small) (hb:over p st=false) (h:HH) :
 runN T G (k+6) "stepped" [.p (bG p),.p (.lst (aa asked)),.p st.enc] h=some (.p (step p asked st).enc,h):=by
 have c:st.row < p.length:=by
  rcases Pq st.row p.length with q | q
  ·exact q
  ·rw[over,Pj q] at hb;cases hb
 have e:p[st.row]?=some p[st.row]:=O9 c
 have c2:(st.row:Int) < (p.length:Int):=by omega
 have hr:=hp _ (SI c)
 have hb':(p[st.row]).over st=false:=by rw[over,e] at hb;exact hb
 have pl:=wY P k p.length p[st.row] hr st ho asked hb'
 rw[step,e]
 have l1:=hs.sl
 have l2:=hs.cl
 revert pl hr hb'
 generalize p[st.row]=r at *
 intro hr hb' pl
 have row:aL (bG p) (.int st.row)=some r.enc:=by simp[bG,c2,e]
 have pre:runN T G (k+6) "stepped" [.p (bG p),.p (.lst (aa asked)),.p st.enc] h =
  j8 (evS (runN T G (k+5)) G HA [some (.p (bG p)),some (.p (.lst (aa asked))),some (.p st.enc),some (.p r.enc),some (.p (.str r.word)),some (.r h.length)] (h++[.l [.int (r.next asked st).row,.tup (aa st.names),.tup (aa st.cells),.tup (ao st.calls),.int st.asked,.tup (aa st.said)]])) (fin h):=by
  rw[run_eq P.stepped rfl,mO]
  simp[row,r.oV,P.ROW,z9,encL,pl]
 rw[pre,HA,HB]
 cases r with
 | set x s =>
  have q:=cN P (k+1) s (by have:=hr.2;omega) hr.1 st ho
  have w:=iG P (k+3) st ho x (s.val st)
  simp only[Rw.enc,Rw.next,Rw.word,to0]
  simp[Hz,P.ROW,P.NAMES,q,w,rd,iF,Rw.next]
  simp[St.enc]
 | put s t =>
  have q:=qG P k s hr.1 st ho
  have q2:=cN P (k+1) t (by have:=hr.2.2;omega) hr.2.1 st ho
  have v:=Sm.qD (s:=s) ho hr.1.1
  have hi:(s.val st % 4).toNat < (aa st.cells).length:=by rw[gQ,ho.clen];omega
  have w:=gP P (k+4) (aa st.cells) (s.val st % 4).toNat hi (by rw[gQ,ho.clen];omega) (.int (t.val st))
  have e3:(((s.val st % 4).toNat:Nat):Int)=s.val st % 4:=by omega
  rw[e3,ints_set] at w
  simp only[Rw.enc,Rw.next,Rw.word,to1]
  simp[Hy,P.ROW,P.CELLS,q,q2,w,rd,iF,Rw.next]
  simp[St.enc]
 | ask x =>
  have b:=qF P (k+4) asked st.asked
  have w:=iG P (k+3) st ho x (asked.getD st.asked 0)
  simp only[Rw.enc,Rw.next,Rw.word,to2]
  simp only[PP] at b w ⊢
  simp[Hx,P.ROW,P.NAMES,P.ASKED,b,w,rd,iF,Rw.next]
  simp[St.enc]
 | say s =>
  have q:=cN P (k+1) s (by have:=hr.2;omega) hr.1 st ho
  simp only[Rw.enc,Rw.next,Rw.word,to3]
  have l3:(aa st.said).length+1<=100000:=by rw[gQ];omega
  simp[Hw,P.ROW,P.SAID,q,rd,iF,Rw.next,l3,ints_snoc]
  simp[St.enc]
 | call q =>
  simp only[Rw.enc,Rw.next,Rw.word,to4]
  have l3:(ao st.calls).length+1<=100000:=by simp[ao];omega
  have e4:ao st.calls++[.int ((st.row:Int)+1)]=ao (st.calls++[st.row+1]):=by rw[← wZ];simp
  simp[Hv,P.ROW,P.CALLS,rd,iF,Rw.next,l3,e4]
  simp[St.enc]
 | back =>
  simp only[Rw.enc,Rw.next,Rw.word,to5]
  have e4:=z8 st.calls
  have e5:rS (.tup (ao st.calls)) none (some (-1))=some (.tup (ao st.calls.dropLast)):=by rw[yC,e4]
  simp[-yC,Hs,P.ROW,P.CALLS,rd,iF,Rw.next,e5]
  simp[St.enc]
 | stop=>simp[Rw.over] at hb'
 | _ =>
  simp only[Rw.enc,Rw.next,Rw.word]
  rw[toN _ _ _ _ _ _ _ _ (by decide)]
  simp[P.ROW,rd,iF,Rw.next]
  simp[St.enc]
end
end BT
end
section
namespace BT
open PySem
noncomputable def Ask (asked:List Int):Prop:=∀ x∈asked,Wth x
theorem Ab {xs:List Int}{i:Nat}{v:Int} (h:∀ x∈xs,Wth x) (hv:Wth v):∀ x∈xs.set i v,Wth x:=fun x hx=>by
 rcases List.mem_or_eq_of_mem_set hx with q | q
 ·exact h x q
 ·rw[q];exact hv
structure At (n:Nat) (st:St):Prop where
 ok:st.ok
 said:st.said.length<=n
 calls:st.calls.length<=6
theorem At.small {n:Nat}{st:St} (a:At n st) (h:n<=5000):st.small:=⟨by have:=a.said;omega,by have:=a.calls;omega⟩
theorem Ds:At 0 St.zero:=⟨Do,O8 _,by decide⟩
theorem Dt {n:Nat}{p:Pg}{asked:List Int}{st:St} (hp:Pg.ok p) (ha:Ask asked) (a:At n st) (hb:over p st=false):At (n+1) (step p asked st):=by
 have c:st.row < p.length:=by
  rcases Pq st.row p.length with q | q
  ·exact q
  ·rw[over,Pj q] at hb;cases hb
 have e:p[st.row]?=some p[st.row]:=O9 c
 have hr:=hp _ (SI c)
 have hb':(p[st.row]).over st=false:=by rw[over,e] at hb;exact hb
 rw[step,e]
 dsimp only
 revert hr hb'
 generalize p[st.row]=r
 intro hr hb'
 obtain ⟨ok,sd,cl⟩:=a
 cases r with
 | set x s=>exact ⟨⟨by simp[Rw.next,ok.nlen],ok.clen,Ab ok.nw (Sm.qD ok hr.1),ok.cw⟩,by simp[Rw.next];omega,cl⟩
 | put s t=>exact ⟨⟨ok.nlen,by simp[Rw.next,ok.clen],ok.nw,Ab ok.cw (Sm.qD ok hr.2.1)⟩,by simp[Rw.next];omega,cl⟩
 | ask x=>exact ⟨⟨by simp[Rw.next,ok.nlen],ok.clen,Ab ok.nw (sJ ha _),ok.cw⟩,by simp[Rw.next];omega,cl⟩
 | say s=>exact ⟨⟨ok.nlen,ok.clen,ok.nw,ok.cw⟩,by simp[Rw.next];omega,cl⟩
 | call q =>
  simp[Rw.over] at hb'
  exact ⟨⟨ok.nlen,ok.clen,ok.nw,ok.cw⟩,by simp[Rw.next];omega,by simp[Rw.next];omega⟩
 | back=>exact ⟨⟨ok.nlen,ok.clen,ok.nw,ok.cw⟩,by simp[Rw.next];omega,by simp[Rw.next];omega⟩
 | stop=>simp[Rw.over] at hb'
 | _=>exact ⟨⟨ok.nlen,ok.clen,ok.nw,ok.cw⟩,by simp[Rw.next];omega,cl⟩
section
variable {T:FK->Option Fn}{G:Str->Option W}
end
end BT
end
section
namespace BT
open PySem
noncomputable def cF:Fn:=⟨["_law_script","_law_k"],["_law_script","_law_k"],
 (.seq (.ife (.cmp .eq (.var 0 "_law_script") (.lst false .nil)) (.ret (.bin .mul (.cst (.int 7)) (.var 1 "_law_k"))) .nil)
 (.ret (.bin .add (.idx (.var 0 "_law_script") (.bin .mod (.var 1 "_law_k") (.bi .len false (.cons (.var 0 "_law_script") .nil)))) (.bin .mul (.cst (.int 6553)) (.bin .fdiv (.var 1 "_law_k") (.bi .len false (.cons (.var 0 "_law_script") .nil)))))))⟩
noncomputable def cO:Fn:=⟨["_law_script","_law_k","_law_many"],["_law_script","_law_k","_law_many","_law_cell_here"],
 (.seq (.set 3 "_law_cell_here" (.bin .mod (.bin .add (.bin .mul (.bin .mod (.call "_law_cell" (.cons (.var 0 "_law_script") (.cons (.var 1 "_law_k") .nil))) (.cst (.int 2147483563))) (.cst (.int 69069))) (.bin .mul (.cst (.int 104723)) (.bin .add (.var 1 "_law_k") (.cst (.int 1))))) (.cst (.int 2147483563))))
 (.seq (.set 3 "_law_cell_here" (.bin .mod (.bin .add (.bin .mul (.var 3 "_law_cell_here") (.var 3 "_law_cell_here")) (.bin .fdiv (.var 3 "_law_cell_here") (.cst (.int 3)))) (.cst (.int 2147483399))))
 (.ret (.bin .mod (.bin .fdiv (.bin .mod (.bin .add (.bin .mul (.var 3 "_law_cell_here") (.var 3 "_law_cell_here")) (.bin .fdiv (.var 3 "_law_cell_here") (.cst (.int 7)))) (.cst (.int 2147483647))) (.cst (.int 11))) (.var 2 "_law_many")))))⟩
noncomputable def smL:S:=(.seq (.ife (.cmp .eq (.call "_law_drawn" (.cons (.var 0 "_law_script") (.cons (.bin .add (.var 1 "_law_at") (.cst (.int 1))) (.cons (.cst (.int 2)) .nil)))) (.cst (.int 0))) (.ret (.tup (.cons (.cst (.str "num")) (.cons (.idx (.lst false (.cons (.cst (.int 0)) (.cons (.cst (.int 1)) (.cons (.cst (.int 2)) (.cons (.cst (.int 3)) (.cons (.cst (.int 10)) (.cons (.cst (.int 10006)) .nil))))))) (.call "_law_drawn" (.cons (.var 0 "_law_script") (.cons (.bin .add (.var 1 "_law_at") (.cst (.int 2))) (.cons (.cst (.int 6)) .nil))))) .nil)))) .nil)
 (.ret (.tup (.cons (.cst (.str "name")) (.cons (.idx (.cst (.str "abcf")) (.call "_law_drawn" (.cons (.var 0 "_law_script") (.cons (.bin .add (.var 1 "_law_at") (.cst (.int 2))) (.cons (.cst (.int 4)) .nil))))) .nil)))))
noncomputable def smR:S:=(.seq (.set 4 "_law_one" (.call "_law_sum" (.cons (.var 0 "_law_script") (.cons (.bin .add (.bin .mul (.var 1 "_law_at") (.cst (.int 2))) (.cst (.int 5))) (.cons (.bin .sub (.var 2 "_law_deep") (.cst (.int 1))) .nil)))))
 (.seq (.ife (.cmp .lt (.var 3 "_law_way") (.cst (.int 6))) (.ret (.tup (.cons (.cst (.str "cell")) (.cons (.var 4 "_law_one") .nil)))) .nil)
 (.ret (.tup (.cons (.idx (.lst false (.cons (.cst (.str "add")) (.cons (.cst (.str "sub")) (.cons (.cst (.str "mul")) (.cons (.cst (.str "less")) .nil))))) (.bin .sub (.var 3 "_law_way") (.cst (.int 6)))) (.cons (.var 4 "_law_one") (.cons (.call "_law_sum" (.cons (.var 0 "_law_script") (.cons (.bin .add (.bin .mul (.var 1 "_law_at") (.cst (.int 2))) (.cst (.int 19))) (.cons (.bin .sub (.var 2 "_law_deep") (.cst (.int 1))) .nil)))) .nil)))))))
noncomputable def bJ:Fn:=⟨["_law_script","_law_at","_law_deep"],["_law_script","_law_at","_law_deep","_law_way","_law_one"],
 (.seq (.set 3 "_law_way" (.call "_law_drawn" (.cons (.var 0 "_law_script") (.cons (.var 1 "_law_at") (.cons (.cst (.int 10)) .nil)))))
 (.seq (.ife (.or (.cmp .eq (.var 2 "_law_deep") (.cst (.int 0))) (.cmp .lt (.var 3 "_law_way") (.cst (.int 4)))) smL .nil)
 smR))⟩
noncomputable def eH:Fn:=⟨["_law_script","_law_at","_law_size"],["_law_script","_law_at","_law_size","_law_way","_law_place","_law_name","_law_one"],
 (.seq (.set 3 "_law_way" (.call "_law_drawn" (.cons (.var 0 "_law_script") (.cons (.var 1 "_law_at") (.cons (.cst (.int 16)) .nil)))))
 (.seq (.set 4 "_law_place" (.call "_law_drawn" (.cons (.var 0 "_law_script") (.cons (.bin .add (.var 1 "_law_at") (.cst (.int 1))) (.cons (.bin .add (.var 2 "_law_size") (.cst (.int 1))) .nil)))))
 (.seq (.set 5 "_law_name" (.idx (.cst (.str "abc")) (.call "_law_drawn" (.cons (.var 0 "_law_script") (.cons (.bin .add (.var 1 "_law_at") (.cst (.int 2))) (.cons (.cst (.int 3)) .nil))))))
 (.seq (.set 6 "_law_one" (.call "_law_sum" (.cons (.var 0 "_law_script") (.cons (.bin .add (.var 1 "_law_at") (.cst (.int 3))) (.cons (.cst (.int 2)) .nil)))))
 (.seq (.ife (.cmp .lt (.var 3 "_law_way") (.cst (.int 5))) (.ret (.tup (.cons (.cst (.str "set")) (.cons (.var 5 "_law_name") (.cons (.var 6 "_law_one") .nil))))) .nil)
 (.seq (.ife (.cmp .lt (.var 3 "_law_way") (.cst (.int 7))) (.ret (.tup (.cons (.cst (.str "put")) (.cons (.call "_law_sum" (.cons (.var 0 "_law_script") (.cons (.bin .add (.var 1 "_law_at") (.cst (.int 9))) (.cons (.cst (.int 1)) .nil)))) (.cons (.var 6 "_law_one") .nil))))) .nil)
 (.seq (.ife (.cmp .lt (.var 3 "_law_way") (.cst (.int 9))) (.ret (.idx (.lst false (.cons (.tup (.cons (.cst (.str "ask")) (.cons (.var 5 "_law_name") .nil))) (.cons (.tup (.cons (.cst (.str "say")) (.cons (.var 6 "_law_one") .nil))) .nil))) (.bin .sub (.var 3 "_law_way") (.cst (.int 7))))) .nil)
 (.seq (.ife (.cmp .lt (.var 3 "_law_way") (.cst (.int 12))) (.ret (.idx (.lst false (.cons (.tup (.cons (.cst (.str "jump")) (.cons (.var 4 "_law_place") .nil))) (.cons (.tup (.cons (.cst (.str "unless")) (.cons (.var 6 "_law_one") (.cons (.var 4 "_law_place") .nil)))) (.cons (.tup (.cons (.cst (.str "unless")) (.cons (.tup (.cons (.cst (.str "name")) (.cons (.var 5 "_law_name") .nil))) (.cons (.var 4 "_law_place") .nil)))) .nil)))) (.bin .sub (.var 3 "_law_way") (.cst (.int 9))))) .nil)
 (.ret (.idx (.lst false (.cons (.tup (.cons (.cst (.str "call")) (.cons (.var 4 "_law_place") .nil))) (.cons (.tup (.cons (.cst (.str "call")) (.cons (.var 4 "_law_place") .nil))) (.cons (.tup (.cons (.cst (.str "back")) .nil)) (.cons (.idx (.lst false (.cons (.tup (.cons (.cst (.str "stop")) .nil)) (.cons (.tup (.cons (.cst (.str "back")) .nil)) .nil))) (.bin .mod (.var 4 "_law_place") (.cst (.int 2)))) .nil))))) (.bin .sub (.var 3 "_law_way") (.cst (.int 12)))))))))))))⟩
noncomputable def aY:Fn:=⟨["_law_script","_law_at"],["_law_script","_law_at","_law_size","_law_put","_law_sign","_law_rows"],
 (.seq (.set 2 "_law_size" (.bin .add (.cst (.int 1)) (.call "_law_drawn" (.cons (.var 0 "_law_script") (.cons (.var 1 "_law_at") (.cons (.cst (.int 9)) .nil))))))
 (.seq (.ife (.cmp .eq (.call "_law_drawn" (.cons (.var 0 "_law_script") (.cons (.bin .add (.var 1 "_law_at") (.cst (.int 1))) (.cons (.cst (.int 4)) .nil)))) (.cst (.int 0))) (.seq (.set 3 "_law_put" (.tup (.cons (.cst (.str "put")) (.cons (.tup (.cons (.cst (.str "name")) (.cons (.cst (.str "a")) .nil))) (.cons (.tup (.cons (.cst (.str "num")) (.cons (.call "_law_drawn" (.cons (.var 0 "_law_script") (.cons (.bin .add (.var 1 "_law_at") (.cst (.int 2))) (.cons (.cst (.int 9)) .nil)))) .nil))) .nil)))))
 (.seq (.set 4 "_law_sign" (.idx (.lst false (.cons (.cst (.str "add")) (.cons (.cst (.str "sub")) .nil))) (.call "_law_drawn" (.cons (.var 0 "_law_script") (.cons (.bin .add (.var 1 "_law_at") (.cst (.int 3))) (.cons (.cst (.int 2)) .nil))))))
 (.seq (.set 5 "_law_rows" (.tup (.cons (.tup (.cons (.cst (.str "ask")) (.cons (.cst (.str "a")) .nil))) (.cons (.tup (.cons (.cst (.str "call")) (.cons (.cst (.int 4)) .nil))) (.cons (.tup (.cons (.cst (.str "say")) (.cons (.tup (.cons (.cst (.str "name")) (.cons (.cst (.str "a")) .nil))) .nil))) (.cons (.tup (.cons (.cst (.str "jump")) (.cons (.cst (.int 0)) .nil))) (.cons (.var 3 "_law_put") .nil)))))))
 (.ret (.bin .add (.var 5 "_law_rows") (.tup (.cons (.tup (.cons (.cst (.str "call")) (.cons (.cst (.int 7)) .nil))) (.cons (.tup (.cons (.cst (.str "back")) .nil)) (.cons (.tup (.cons (.cst (.str "set")) (.cons (.cst (.str "b")) (.cons (.tup (.cons (.var 4 "_law_sign") (.cons (.tup (.cons (.cst (.str "name")) (.cons (.cst (.str "b")) .nil))) (.cons (.tup (.cons (.cst (.str "name")) (.cons (.cst (.str "a")) .nil))) .nil)))) .nil)))) (.cons (.tup (.cons (.cst (.str "back")) .nil)) .nil)))))))))) .nil)
 (.ret (.bi .tuple false (.cons (.comp false .rng1 (.cons (.var 2 "_law_size") .nil) ["_law_k"] [(0,"_law_script"),(1,"_law_at"),(2,"_law_size")] .nil (.call "_law_row" (.cons (.var 1 "_law_script") (.cons (.bin .add (.bin .add (.var 2 "_law_at") (.cst (.int 10))) (.bin .mul (.cst (.int 40)) (.var 0 "_law_k"))) (.cons (.var 3 "_law_size") .nil))))) .nil)))))⟩
noncomputable def cQ:Fn:=⟨["_law_script","_law_at"],["_law_script","_law_at"],
 (.ret (.comp false .rng1 (.cons (.call "_law_drawn" (.cons (.var 0 "_law_script") (.cons (.var 1 "_law_at") (.cons (.cst (.int 4)) .nil)))) .nil) ["_law_k"] [(0,"_law_script"),(1,"_law_at")] .nil (.idx (.lst false (.cons (.cst (.int 0)) (.cons (.cst (.int 1)) (.cons (.cst (.int 5)) (.cons (.cst (.int 10006)) .nil))))) (.call "_law_drawn" (.cons (.var 1 "_law_script") (.cons (.bin .add (.bin .add (.var 2 "_law_at") (.cst (.int 1))) (.var 0 "_law_k")) (.cons (.cst (.int 4)) .nil)))))))⟩
structure Lw (T:FK->Option Fn):Prop where
 cell:T "_law_cell"=some cF
 drawn:T "_law_drawn"=some cO
 sum:T "_law_sum"=some bJ
 row:T "_law_row"=some eH
 asked:T "_law_asked"=some cQ
noncomputable def uM (ns:List Int) (k:Int):Int:=if ns=[] then 7*k else ns.getD (k % ns.length).toNat 0+6553*(k / ns.length)
noncomputable def drw (ns:List Int) (k many:Int):Int :=
 let a:=(uM ns k % 2147483563*69069+104723*(k+1)) % 2147483563
 let b:=(a*a+a / 3) % 2147483399
 (b*b+b / 7) % 2147483647 / 11 % many
theorem cz (ns:List Int) (k:Int) {many:Int} (h:0 < many):0<=drw ns k many:=Int.emod_nonneg _ (by omega)
theorem cA (ns:List Int) (k:Int) {many:Int} (h:0 < many):drw ns k many < many:=Int.emod_lt_of_pos _ h
theorem nG {i:Int} (h0:0<=i) (h1:i < 18446744073709551616):big i=true:=by
 unfold big;exact decide_eq_true (by omega)
section
variable {T:FK->Option Fn}{G:Str->Option W}
theorem Du (ns:List Int):eqv (.lst (aa ns)) (.lst [])=decide (ns=[]):=by
 cases ns<;>simp[aa]
theorem Ac (L:Lw T) (m:Nat) (ns:List Int) (hl:ns.length<=1000) (k:Int) (h:HH):runN T G (m+1) "_law_cell" [.p (.lst (aa ns)),.p (.int k)] h=some (.p (.int (uM ns k)),h):=by
 rw[run_eq L.cell rfl]
 by_cases c:ns=[]
 ·subst c
  simp[cF,aa,uM,big,af]
 ·have n0:0 < ns.length:=List.length_pos_iff.mpr c
  have q:eqv (.lst (aa ns)) (.lst [])=false:=by rw[Du];exact decide_eq_false c
  have p1:(0:Int) < (ns.length:Int):=by omega
  have p2:(ns.length:Int) < 1073741824:=by omega
  have m1:=Int.emod_nonneg k (b:=(ns.length:Int)) (by omega)
  have m2:=Int.emod_lt_of_pos k p1
  have i1:(k % (ns.length:Int)).toNat < ns.length:=by omega
  have n2:ns.length < 1073741824:=by omega
  simp[cF,-eqv,q,gQ,p1,p2,n0,n2,m1,m2,big,af,uM,c]
  simp[aa,i1,af,n0,n2,m1,m2,big,p1,p2]
theorem cG (L:Lw T) (m:Nat) (ns:List Int) (hl:ns.length<=1000) (k many:Int) (hm:0 < many) (h:HH) :
 runN T G (m+2) "_law_drawn" [.p (.lst (aa ns)),.p (.int k),.p (.int many)] h=some (.p (.int (drw ns k many)),h):=by
 rw[run_eq L.drawn rfl]
 have r:=Ac (G:=G) L m ns hl k
 have b0:big 69069=true:=by decide
 have b1:big 104723=true:=by decide
 have b2:∀ x:Int,big (x % 2147483563)=true:=fun x=>nG (by omega) (by omega)
 have b3:∀ x:Int,big (x % 2147483399)=true:=fun x=>nG (by omega) (by omega)
 simp[cO,r,b0,b1,b2,b3,af,hm,drw]
theorem oW:Pp "abcf"=⟨#[97,98,99,102]⟩:=by decide +kernel
theorem Ad:Pp "abc"=⟨#[97,98,99]⟩:=by decide +kernel
theorem o_a:Pp "a"=⟨#[97]⟩:=by decide +kernel
theorem o_b:Pp "b"=⟨#[98]⟩:=by decide +kernel
theorem o_c:Pp "c"=⟨#[99]⟩:=by decide +kernel
theorem o_f:Pp "f"=⟨#[102]⟩:=by decide +kernel
theorem uN (i:Int) (h0:0<=i) (h1:i < 4):∃ x:Nm,aL (.str "abcf") (.int i)=some (.str x.w):=by
 have:i=0\/i=1\/i=2\/i=3:=by omega
 rcases this with rfl | rfl | rfl | rfl
 ·exact ⟨.a,by rw[Nm.w,oW,o_a];rfl⟩
 ·exact ⟨.b,by rw[Nm.w,oW,o_b];rfl⟩
 ·exact ⟨.c,by rw[Nm.w,oW,o_c];rfl⟩
 ·exact ⟨.f,by rw[Nm.w,oW,o_f];rfl⟩
theorem HC (i:Int) (h0:0<=i) (h1:i < 3):∃ x:Nm,aL (.str "abc") (.int i)=some (.str x.w):=by
 have:i=0\/i=1\/i=2:=by omega
 rcases this with rfl | rfl | rfl
 ·exact ⟨.a,by rw[Nm.w,Ad,o_a];rfl⟩
 ·exact ⟨.b,by rw[Nm.w,Ad,o_b];rfl⟩
 ·exact ⟨.c,by rw[Nm.w,Ad,o_c];rfl⟩
theorem uO (i:Int) (h0:0<=i) (h1:i < 6):∃ n:Int,Wth n/\aL (.lst [.int 0,.int 1,.int 2,.int 3,.int 10,.int 10006]) (.int i)=some (.int n):=by
 have:i=0\/i=1\/i=2\/i=3\/i=4\/i=5:=by omega
 rcases this with rfl | rfl | rfl | rfl | rfl | rfl
 ·exact ⟨0,⟨by decide,by decide⟩,rfl⟩
 ·exact ⟨1,⟨by decide,by decide⟩,rfl⟩
 ·exact ⟨2,⟨by decide,by decide⟩,rfl⟩
 ·exact ⟨3,⟨by decide,by decide⟩,rfl⟩
 ·exact ⟨10,⟨by decide,by decide⟩,rfl⟩
 ·exact ⟨10006,⟨by decide,by decide⟩,rfl⟩
theorem HD (i:Int) (h0:0<=i) (h1:i < 4):∃ o:Op,aL (.lst [.str "add",.str "sub",.str "mul",.str "less"]) (.int i)=some (.str o.w):=by
 have:i=0\/i=1\/i=2\/i=3:=by omega
 rcases this with rfl | rfl | rfl | rfl
 ·exact ⟨.add,rfl⟩
 ·exact ⟨.sub,rfl⟩
 ·exact ⟨.mul,rfl⟩
 ·exact ⟨.less,rfl⟩
theorem Ae (L:Lw T) (ns:List Int) (hl:ns.length<=1000) (p n:Int) (k:Nat) (rest:Sl) (h:HH) (c:drw ns (p+1) 2=0) (en:aL (.lst [.int 0,.int 1,.int 2,.int 3,.int 10,.int 10006]) (.int (drw ns (p+2) 6))=some (.int n)) :
 evS (runN T G (k+2)) G smL (some (.p (.lst (aa ns))) :: some (.p (.int p)) :: rest) h=some (.rt (.p (Sm.num n).enc) h):=by
 have dr:=fun q many (hm:0 < many)=>cG (G:=G) L k ns hl q many hm
 simp[-bI,-gw,smL,dr,c,en,Sm.enc]
theorem Af (L:Lw T) (ns:List Int) (hl:ns.length<=1000) (p:Int) (x:Nm) (k:Nat) (rest:Sl) (h:HH) (c:¬ drw ns (p+1) 2=0) (ex:aL (.str "abcf") (.int (drw ns (p+2) 4))=some (.str x.w)) :
 evS (runN T G (k+2)) G smL (some (.p (.lst (aa ns))) :: some (.p (.int p)) :: rest) h=some (.rt (.p (Sm.nam x).enc) h):=by
 have dr:=fun q many (hm:0 < many)=>cG (G:=G) L k ns hl q many hm
 simp[-bI,-gw,smL,dr,c,ex,Sm.enc]
theorem uP (L:Lw T) (ns:List Int) (hl:ns.length<=1000):∀ (deep:Nat) (p:Int),∃ s:Sm,s.ok/\s.size+1<=2 ^ (deep+1)/\∀ (m:Nat) (h:HH),
 runN T G (m+deep+3) "_law_sum" [.p (.lst (aa ns)),.p (.int p),.p (.int deep)] h=some (.p s.enc,h):=by
 intro deep
 induction deep with
 | zero =>
  intro p
  have dr:=fun m q many (hm:0 < many)=>cG (G:=G) L m ns hl q many hm
  obtain ⟨x,ex⟩:=uN (drw ns (p+2) 4) (cz _ _ (by decide)) (cA _ _ (by decide))
  obtain ⟨n,hn,en⟩:=uO (drw ns (p+2) 6) (cz _ _ (by decide)) (cA _ _ (by decide))
  have key:∀ (s:Sm) (m:Nat) (h:HH),(∀ rest,evS (runN T G (m+2)) G smL (some (.p (.lst (aa ns))) :: some (.p (.int p)) :: rest) h=some (.rt (.p s.enc) h))->runN T G (m+0+3) "_law_sum" [.p (.lst (aa ns)),.p (.int p),.p (.int ((0:Nat):Int))] h=some (.p s.enc,h):=fun s m h q=>by
   rw[run_eq L.sum rfl]
   simp[bJ,dr,q,af]
  by_cases c:drw ns (p+1) 2=0
  ·exact ⟨.num n,hn,by simp[Sm.size],fun m h=>key _ m h fun rest=>Ae L ns hl p n m rest h c en⟩
  ·exact ⟨.nam x,trivial,by simp[Sm.size],fun m h=>key _ m h fun rest=>Af L ns hl p x m rest h c ex⟩
 | succ deep ih =>
  intro p
  have dr:=fun m q many (hm:0 < many)=>cG (G:=G) L m ns hl q many hm
  obtain ⟨x,ex⟩:=uN (drw ns (p+2) 4) (cz _ _ (by decide)) (cA _ _ (by decide))
  obtain ⟨n,hn,en⟩:=uO (drw ns (p+2) 6) (cz _ _ (by decide)) (cA _ _ (by decide))
  obtain ⟨s,so,ss,sr0⟩:=ih (p*2+5)
  obtain ⟨t,to,tt,tr0⟩:=ih (p*2+19)
  have ee:∀ m,m+(deep+1)+2=m+deep+3:=fun m=>by omega
  have sr:=fun m h=>(ee m).symm ▸ sr0 m h
  have tr:=fun m h=>(ee m).symm ▸ tr0 m h
  have d0:¬ ((deep:Int)+1=0):=by omega
  have d1:((deep:Int)+1 - 1)=deep:=by omega
  have b2:big 2=true:=by decide
  have w0:=cz ns p (many:=10) (by decide)
  have w1:=cA ns p (many:=10) (by decide)
  have pw:2 ^ (deep+1+1)=2 ^ (deep+1)+2 ^ (deep+1):=by omega
  by_cases c1:drw ns p 10 < 4
  ·have key:∀ (s:Sm) (m:Nat) (h:HH),(∀ rest,evS (runN T G (m+deep+1+2)) G smL (some (.p (.lst (aa ns))) :: some (.p (.int p)) :: rest) h=some (.rt (.p s.enc) h))->runN T G (m+(deep+1)+3) "_law_sum" [.p (.lst (aa ns)),.p (.int p),.p (.int ((deep+1:Nat):Int))] h=some (.p s.enc,h):=fun s m h q=>by
    rw[run_eq L.sum rfl]
    have dq:=dr (m+(deep+1))
    have q:∀ rest,evS (runN T G (m+(deep+1)+2)) G smL (some (.p (.lst (aa ns))) :: some (.p (.int p)) :: rest) h=some (.rt (.p s.enc) h):=q
    simp[bJ,dq,c1,d0,q,af]
   by_cases c:drw ns (p+1) 2=0
   ·exact ⟨.num n,hn,by simp only[Sm.size];omega,fun m h=>key _ m h fun rest=>Ae L ns hl p n (m+deep+1) rest h c en⟩
   ·exact ⟨.nam x,trivial,by simp only[Sm.size];omega,fun m h=>key _ m h fun rest=>Af L ns hl p x (m+deep+1) rest h c ex⟩
  ·by_cases c2:drw ns p 10 < 6
   ·refine ⟨.cell s,so,by simp only[Sm.size];omega,fun m h=>?_⟩
    rw[run_eq L.sum rfl]
    simp[-bI,-gw,bJ,smR,dr,c1,c2,d0,d1,b2,sr,af,Sm.enc]
   ·obtain ⟨o,eo⟩:=HD (drw ns p 10 - 6) (by omega) (by omega)
    refine ⟨.two o s t,⟨so,to⟩,by simp only[Sm.size];omega,fun m h=>?_⟩
    rw[run_eq L.sum rfl]
    simp[-bI,-gw,bJ,smR,dr,c1,c2,d0,d1,b2,sr,tr,eo,af,Sm.enc]
end
end BT
end
section
namespace BT
open PySem
noncomputable def ER:S:=(.ret (.idx (.lst false (.cons (.tup (.cons (.cst (.str "call")) (.cons (.var 4 "_law_place") .nil))) (.cons (.tup (.cons (.cst (.str "call")) (.cons (.var 4 "_law_place") .nil))) (.cons (.tup (.cons (.cst (.str "back")) .nil)) (.cons (.idx (.lst false (.cons (.tup (.cons (.cst (.str "stop")) .nil)) (.cons (.tup (.cons (.cst (.str "back")) .nil)) .nil))) (.bin .mod (.var 4 "_law_place") (.cst (.int 2)))) .nil))))) (.bin .sub (.var 3 "_law_way") (.cst (.int 12)))))
noncomputable def rA3:S:=(.ret (.idx (.lst false (.cons (.tup (.cons (.cst (.str "jump")) (.cons (.var 4 "_law_place") .nil))) (.cons (.tup (.cons (.cst (.str "unless")) (.cons (.var 6 "_law_one") (.cons (.var 4 "_law_place") .nil)))) (.cons (.tup (.cons (.cst (.str "unless")) (.cons (.tup (.cons (.cst (.str "name")) (.cons (.var 5 "_law_name") .nil))) (.cons (.var 4 "_law_place") .nil)))) .nil)))) (.bin .sub (.var 3 "_law_way") (.cst (.int 9)))))
noncomputable def Ag:S:=(.seq (.ife (.cmp .lt (.var 3 "_law_way") (.cst (.int 12))) rA3 .nil) ER)
noncomputable def rA2:S:=(.ret (.idx (.lst false (.cons (.tup (.cons (.cst (.str "ask")) (.cons (.var 5 "_law_name") .nil))) (.cons (.tup (.cons (.cst (.str "say")) (.cons (.var 6 "_law_one") .nil))) .nil))) (.bin .sub (.var 3 "_law_way") (.cst (.int 7)))))
noncomputable def uQ:S:=(.seq (.ife (.cmp .lt (.var 3 "_law_way") (.cst (.int 9))) rA2 .nil) Ag)
noncomputable def rA1:S:=(.ret (.tup (.cons (.cst (.str "put")) (.cons (.call "_law_sum" (.cons (.var 0 "_law_script") (.cons (.bin .add (.var 1 "_law_at") (.cst (.int 9))) (.cons (.cst (.int 1)) .nil)))) (.cons (.var 6 "_law_one") .nil)))))
noncomputable def qK:S:=(.seq (.ife (.cmp .lt (.var 3 "_law_way") (.cst (.int 7))) rA1 .nil) uQ)
noncomputable def rA0:S:=(.ret (.tup (.cons (.cst (.str "set")) (.cons (.var 5 "_law_name") (.cons (.var 6 "_law_one") .nil)))))
noncomputable def sO:S:=(.seq (.ife (.cmp .lt (.var 3 "_law_way") (.cst (.int 5))) rA0 .nil) qK)
theorem mP:eH=⟨["_law_script","_law_at","_law_size"],["_law_script","_law_at","_law_size","_law_way","_law_place","_law_name","_law_one"],
 (.seq (.set 3 "_law_way" (.call "_law_drawn" (.cons (.var 0 "_law_script") (.cons (.var 1 "_law_at") (.cons (.cst (.int 16)) .nil)))))
 (.seq (.set 4 "_law_place" (.call "_law_drawn" (.cons (.var 0 "_law_script") (.cons (.bin .add (.var 1 "_law_at") (.cst (.int 1))) (.cons (.bin .add (.var 2 "_law_size") (.cst (.int 1))) .nil)))))
 (.seq (.set 5 "_law_name" (.idx (.cst (.str "abc")) (.call "_law_drawn" (.cons (.var 0 "_law_script") (.cons (.bin .add (.var 1 "_law_at") (.cst (.int 2))) (.cons (.cst (.int 3)) .nil))))))
 (.seq (.set 6 "_law_one" (.call "_law_sum" (.cons (.var 0 "_law_script") (.cons (.bin .add (.var 1 "_law_at") (.cst (.int 3))) (.cons (.cst (.int 2)) .nil)))))
 sO))))⟩:=rfl
section
variable {T:FK->Option Fn}{G:Str->Option W}
theorem Dv (L:Lw T) (ns:List Int) (hl:ns.length<=1000) (p:Int) (size:Nat):∃ r:Rw,r.ok size/\∀ (m:Nat) (h:HH),
 runN T G (m+6) "_law_row" [.p (.lst (aa ns)),.p (.int p),.p (.int size)] h=some (.p r.enc,h):=by
 have dr:=fun m q many (hm:0 < many)=>cG (G:=G) L m ns hl q many hm
 obtain ⟨x,ex⟩:=HC (drw ns (p+2) 3) (cz _ _ (by decide)) (cA _ _ (by decide))
 obtain ⟨s,so,ss,sr⟩:=uP (G:=G) L ns hl 2 (p+3)
 obtain ⟨t,to,tt,tr⟩:=uP (G:=G) L ns hl 1 (p+9)
 have w0:=cz ns p (many:=16) (by decide)
 have w1:=cA ns p (many:=16) (by decide)
 have sz:(0:Int) < (size:Int)+1:=by omega
 have p0:=cz ns (p+1) sz
 have p1:=cA ns (p+1) sz
 obtain ⟨pl,hpl⟩:∃ pl:Nat,drw ns (p+1) ((size:Int)+1)=(pl:Int):=⟨(drw ns (p+1) ((size:Int)+1)).toNat,by omega⟩
 have ple:pl<=size:=by omega
 have sok:oU s:=⟨so,by omega⟩
 have tok:oU t:=⟨to,by omega⟩
 have sr':=fun m h=>sr (m+0) h
 have tr':=fun m h=>tr (m+1) h
 simp at sr' tr'
 have dp:=fun m h=>dr m (p+1) ((size:Int)+1) sz h
 rw[hpl] at dp
 have pre:∀ (m:Nat) (h:HH),runN T G (m+6) "_law_row" [.p (.lst (aa ns)),.p (.int p),.p (.int size)] h =
  j8 (evS (runN T G (m+5)) G sO [some (.p (.lst (aa ns))),some (.p (.int p)),some (.p (.int size)),some (.p (.int (drw ns p 16))),some (.p (.int (pl:Int))),some (.p (.str x.w)),some (.p s.enc)] h) (fin h):=fun m h=>by
  rw[run_eq L.row rfl,mP]
  simp[-gw,dp,dr,ex,sr']
 by_cases c1:drw ns p 16 < 5
 ·refine ⟨.set x s,sok,fun m h=>?_⟩
  rw[pre]
  simp[-bI,-gw,sO,rA0,c1,af,Rw.enc]
 ·by_cases c2:drw ns p 16 < 7
  ·refine ⟨.put t s,⟨tok,sok⟩,fun m h=>?_⟩
   rw[pre]
   simp[-bI,-gw,sO,qK,rA1,tr',c1,c2,af,Rw.enc]
  ·by_cases c3:drw ns p 16 < 9
   ·obtain ⟨r,ro,ix⟩:∃ r:Rw,r.ok size/\aL (.lst [.tup [.str "ask",.str x.w],.tup [.str "say",s.enc]]) (.int (drw ns p 16 - 7))=some r.enc:=by
     have c:drw ns p 16=7\/drw ns p 16=8:=by omega
     rcases c with c | c<;>rw[c]
     ·exact ⟨.ask x,trivial,rfl⟩
     ·exact ⟨.say s,sok,rfl⟩
    refine ⟨r,ro,fun m h=>?_⟩
    rw[pre]
    simp[-bI,sO,qK,uQ,rA2,c1,c2,c3,ix,af]
   ·by_cases c4:drw ns p 16 < 12
    ·obtain ⟨r,ro,ix⟩:∃ r:Rw,r.ok size/\aL (.lst [.tup [.str "jump",.int pl],.tup [.str "unless",s.enc,.int pl],.tup [.str "unless",.tup [.str "name",.str x.w],.int pl]]) (.int (drw ns p 16 - 9))=some r.enc:=by
      have c:drw ns p 16=9\/drw ns p 16=10\/drw ns p 16=11:=by omega
      rcases c with c | c | c<;>rw[c]
      ·exact ⟨.jump pl,ple,rfl⟩
      ·exact ⟨.unless s pl,⟨sok,ple⟩,rfl⟩
      ·exact ⟨.unless (.nam x) pl,⟨⟨trivial,by simp[Sm.size]⟩,ple⟩,rfl⟩
     refine ⟨r,ro,fun m h=>?_⟩
     rw[pre]
     simp[-bI,sO,qK,uQ,Ag,rA3,c1,c2,c3,c4,ix,af]
    ·obtain ⟨u,uo,iu⟩:∃ u:Rw,u.ok size/\aL (.lst [.tup [.str "stop"],.tup [.str "back"]]) (.int ((pl:Int) % 2))=some u.enc:=by
      have z:(pl:Int) % 2=0\/(pl:Int) % 2=1:=by omega
      rcases z with z | z<;>rw[z]
      ·exact ⟨.stop,trivial,rfl⟩
      ·exact ⟨.back,trivial,rfl⟩
     obtain ⟨r,ro,ix⟩:∃ r:Rw,r.ok size/\aL (.lst [.tup [.str "call",.int pl],.tup [.str "call",.int pl],.tup [.str "back"],u.enc]) (.int (drw ns p 16 - 12))=some r.enc:=by
      have c:drw ns p 16=12\/drw ns p 16=13\/drw ns p 16=14\/drw ns p 16=15:=by omega
      rcases c with c | c | c | c<;>rw[c]
      ·exact ⟨.call pl,ple,rfl⟩
      ·exact ⟨.call pl,ple,rfl⟩
      ·exact ⟨.back,trivial,rfl⟩
      ·exact ⟨u,uo,rfl⟩
     refine ⟨r,ro,fun m h=>?_⟩
     rw[pre]
     simp[-bI,sO,qK,uQ,Ag,ER,c1,c2,c3,c4,iu,ix,af]
theorem comp_map (f:List D->HH->Option (Option D×HH)) (g:D->D):∀ (ds:List D) (h:HH),(∀ d∈ds,∀ h,f [d] h=some (some (g d),h))->aS f 1 ds h=some (ds.map g,h):=by
 intro ds
 induction ds with
 | nil=>intro h _;rfl
 | cons d r ih =>
  intro h hf
  have e1:=hf d Pf h
  have e2:=ih h fun x hx=>hf x (Pb _ hx)
  rw[aS,gx]
  simp[e1,e2]
theorem qL {n:Nat}{d:D} (h:d∈upto 0 n):∃ k:Nat,k < n/\d=.int k:=by
 simp[upto] at h
 obtain ⟨k,hk,e⟩:=h
 exact ⟨k,hk,e.symm⟩
theorem qM (n:Nat) (g:D->D):(upto 0 n).map g=(Pr n).map fun (k:Nat)=>g (.int k):=by
 simp[upto,Function.comp_def]
noncomputable def Dw:E:=.idx (.lst false (.cons (.cst (.int 0)) (.cons (.cst (.int 1)) (.cons (.cst (.int 5)) (.cons (.cst (.int 10006)) .nil))))) (.call "_law_drawn" (.cons (.var 1 "_law_script") (.cons (.bin .add (.bin .add (.var 2 "_law_at") (.cst (.int 1))) (.var 0 "_law_k")) (.cons (.cst (.int 4)) .nil))))
theorem kj:cQ=⟨["_law_script","_law_at"],["_law_script","_law_at"],.ret (.comp false .rng1 (.cons (.call "_law_drawn" (.cons (.var 0 "_law_script") (.cons (.var 1 "_law_at") (.cons (.cst (.int 4)) .nil)))) .nil) ["_law_k"] [(0,"_law_script"),(1,"_law_at")] .nil Dw)⟩:=rfl
theorem xh (L:Lw T) (ns:List Int) (hl:ns.length<=1000) (p:Int):∃ asked:List Int,Ask asked/\asked.length<=3/\∀ (m:Nat) (h:HH),
 runN T G (m+3) "_law_asked" [.p (.lst (aa ns)),.p (.int p)] h=some (.p (.lst (aa asked)),h):=by
 have dr:=fun m q many (hm:0 < many)=>cG (G:=G) L m ns hl q many hm
 have at4:∀ i:Int,0<=i->i < 4->∃ n:Int,Wth n/\aL (.lst [.int 0,.int 1,.int 5,.int 10006]) (.int i)=some (.int n):=by
  intro i h0 h1
  have:i=0\/i=1\/i=2\/i=3:=by omega
  rcases this with rfl | rfl | rfl | rfl
  ·exact ⟨0,⟨by decide,by decide⟩,rfl⟩
  ·exact ⟨1,⟨by decide,by decide⟩,rfl⟩
  ·exact ⟨5,⟨by decide,by decide⟩,rfl⟩
  ·exact ⟨10006,⟨by decide,by decide⟩,rfl⟩
 have ch:∀ k:Nat,∃ n:Int,Wth n/\aL (.lst [.int 0,.int 1,.int 5,.int 10006]) (.int (drw ns (p+1+k) 4))=some (.int n):=fun k =>
  at4 _ (cz _ _ (by decide)) (cA _ _ (by decide))
 obtain ⟨g,hg⟩:=Uo ch
 have w0:=cz ns p (many:=4) (by decide)
 have w1:=cA ns p (many:=4) (by decide)
 refine ⟨(Pr (drw ns p 4).toNat).map g,?_,by simp;omega,fun m h=>?_⟩
 ·intro x hx
  simp at hx
  obtain ⟨k,_,rfl⟩:=hx
  exact (hg k).1
 ·rw[run_eq L.asked rfl,kj]
  have c1:drw ns p 4<=100000:=by omega
  have c0:-100000<=drw ns p 4:=by omega
  have he:∀ (k:Nat) (h:HH),ev (runN T G (m+2)) G Dw [some (.p (.int k)),some (.p (.lst (aa ns))),some (.p (.int p))] h=some (.p (.int (g k)),h):=fun k h=>by
   have e:=(hg k).2
   simp[-bI,Dw,dr,e]
  have cm:=comp_map (cU (fun _ h=>some ([],h)) (ev (runN T G (m+2)) G Dw) [some (.p (.lst (aa ns))),some (.p (.int p))]) (fun d=>match d with | .int k=>.int (g k.toNat) | _=>.non) (upto 0 (drw ns p 4).toNat) h (by
   intro d hd h
   obtain ⟨k,hk,rfl⟩:=qL hd
   simp[cJ,he])
  have ln:(drw ns p 4).toNat<=100000:=by omega
  rw[qM] at cm
  have cm':(Pr (drw ns p 4).toNat).map (fun (k:Nat)=>match D.int (k:Int) with | .int k=>D.int (g k.toNat) | _=>.non)=aa ((Pr (drw ns p 4).toNat).map g):=by simp[aa,Function.comp_def]
  rw[cm'] at cm
  simp[dr,c0,c1,cm,gQ,ln,af,gy]
noncomputable def Ah:E:=.call "_law_row" (.cons (.var 1 "_law_script") (.cons (.bin .add (.bin .add (.var 2 "_law_at") (.cst (.int 10))) (.bin .mul (.cst (.int 40)) (.var 0 "_law_k"))) (.cons (.var 3 "_law_size") .nil)))
structure Drawn (p:Pg):Prop where
 ok:Pg.ok p
 lo:1<=p.length
 hi:p.length<=9
noncomputable def gR (n:Int) (o:Op):Pg:=[.ask .a,.call 4,.say (.nam .a),.jump 0,.put (.nam .a) (.num n),.call 7,.back,.set .b (.two o (.nam .b) (.nam .a)),.back]
theorem oX (n:Int) (o:Op) (h:Wth n):Drawn (gR n o):=by
 refine ⟨?_,by simp[gR],by simp[gR]⟩
 intro r hr
 simp only[gR,Rh,Q0,or_false] at hr
 rcases hr with rfl | rfl | rfl | rfl | rfl | rfl | rfl | rfl | rfl<;>simp[Rw.ok,gR,oU,Sm.ok,Sm.size,h]
theorem lO (L:Lw T)
 (ns:List Int) (hl:ns.length<=1000) (p:Int)
 (run1:∀ (m:Nat) (h:HH) (n:Int) (o:Op),drw ns (p+1) 4=0->n=drw ns (p+2) 9->aL (.lst [.str "add",.str "sub"]) (.int (drw ns (p+3) 2))=some (.str o.w) →
  (∀ m q many,0 < many->∀ h,runN T G (m+2) "_law_drawn" [.p (.lst (aa ns)),.p (.int q),.p (.int many)] h=some (.p (.int (drw ns q many)),h)) →
  runN T G (m+7) "_law_program" [.p (.lst (aa ns)),.p (.int p)] h=some (.p (bG (gR n o)),h))
 (run2:∀ (m:Nat) (h:HH) (pg:Pg),drw ns (p+1) 4≠0->pg.length=(1+drw ns p 9).toNat →
  (∀ m q many,0 < many->∀ h,runN T G (m+2) "_law_drawn" [.p (.lst (aa ns)),.p (.int q),.p (.int many)] h=some (.p (.int (drw ns q many)),h)) →
  (∀ h,aS (cU (fun _ h=>some ([],h)) (ev (runN T G (m+6)) G Ah) [some (.p (.lst (aa ns))),some (.p (.int p)),some (.p (.int (1+drw ns p 9)))]) 1 (upto 0 (1+drw ns p 9).toNat) h=some (pg.map Rw.enc,h)) →
  runN T G (m+7) "_law_program" [.p (.lst (aa ns)),.p (.int p)] h=some (.p (bG pg),h)) :
 ∃ pg:Pg,Drawn pg/\∀ (m:Nat) (h:HH),runN T G (m+7) "_law_program" [.p (.lst (aa ns)),.p (.int p)] h=some (.p (bG pg),h):=by
 have dr:=fun m q many (hm:0 < many)=>cG (G:=G) L m ns hl q many hm
 by_cases c:drw ns (p+1) 4=0
 ·have d0:=cz ns (p+3) (many:=2) (by decide)
  have d1:=cA ns (p+3) (many:=2) (by decide)
  have e0:=cz ns (p+2) (many:=9) (by decide)
  have e1:=cA ns (p+2) (many:=9) (by decide)
  have z:drw ns (p+3) 2=0\/drw ns (p+3) 2=1:=by omega
  have:∃ o:Op,aL (.lst [.str "add",.str "sub"]) (.int (drw ns (p+3) 2))=some (.str o.w):=by
   rcases z with z | z<;>rw[z]
   ·exact ⟨.add,rfl⟩
   ·exact ⟨.sub,rfl⟩
  obtain ⟨o,eo⟩:=this
  exact ⟨gR (drw ns (p+2) 9) o,oX _ _ ⟨by omega,by omega⟩,fun m h=>run1 m h _ o c rfl eo dr⟩
 ·have d0:=cz ns p (many:=9) (by decide)
  have d1:=cA ns p (many:=9) (by decide)
  obtain ⟨sz,hsz⟩:∃ sz:Nat,1+drw ns p 9=(sz:Int):=⟨(1+drw ns p 9).toNat,by omega⟩
  have ch:∀ k:Nat,∃ r:Rw,r.ok sz/\∀ (m:Nat) (h:HH),runN T G (m+6) "_law_row" [.p (.lst (aa ns)),.p (.int (p+10+40*(k:Int))),.p (.int sz)] h=some (.p r.enc,h) :=
   fun k=>Dv L ns hl _ sz
  obtain ⟨g,hg⟩:=Uo ch
  refine ⟨(Pr sz).map g,⟨?_,by simp;omega,by simp;omega⟩,fun m h=>run2 m h _ c (by simp;omega) dr fun h=>?_⟩
  ·intro r hr
   simp at hr
   obtain ⟨k,_,rfl⟩:=hr
   simpa using (hg k).1
  ·rw[hsz]
   have b:big 40=true:=by decide
   have he:∀ (k:Nat) (h:HH),ev (runN T G (m+6)) G Ah [some (.p (.int k)),some (.p (.lst (aa ns))),some (.p (.int p)),some (.p (.int sz))] h=some (.p (g k).enc,h):=fun k h=>by
    have e:=(hg k).2
    simp[Ah,e,b]
   have cm:=comp_map (cU (fun _ h=>some ([],h)) (ev (runN T G (m+6)) G Ah) [some (.p (.lst (aa ns))),some (.p (.int p)),some (.p (.int sz))]) (fun d=>match d with | .int k=>(g k.toNat).enc | _=>.non) (upto 0 sz) h (by
    intro d hd h
    obtain ⟨k,hk,rfl⟩:=qL hd
    simp[cJ,he])
   rw[qM] at cm
   simp only[QW,QB]
   rw[cm]
   rfl
end
end BT
end
section
namespace BT
open PySem
section
variable {T:FK->Option Fn}{G:Str->Option W}
noncomputable def prA:S:=(.seq (.set 3 "_law_put" (.tup (.cons (.cst (.str "put")) (.cons (.tup (.cons (.cst (.str "name")) (.cons (.cst (.str "a")) .nil))) (.cons (.tup (.cons (.cst (.str "num")) (.cons (.call "_law_drawn" (.cons (.var 0 "_law_script") (.cons (.bin .add (.var 1 "_law_at") (.cst (.int 2))) (.cons (.cst (.int 9)) .nil)))) .nil))) .nil)))))
 (.seq (.set 4 "_law_sign" (.idx (.lst false (.cons (.cst (.str "add")) (.cons (.cst (.str "sub")) .nil))) (.call "_law_drawn" (.cons (.var 0 "_law_script") (.cons (.bin .add (.var 1 "_law_at") (.cst (.int 3))) (.cons (.cst (.int 2)) .nil))))))
 (.seq (.set 5 "_law_rows" (.tup (.cons (.tup (.cons (.cst (.str "ask")) (.cons (.cst (.str "a")) .nil))) (.cons (.tup (.cons (.cst (.str "call")) (.cons (.cst (.int 4)) .nil))) (.cons (.tup (.cons (.cst (.str "say")) (.cons (.tup (.cons (.cst (.str "name")) (.cons (.cst (.str "a")) .nil))) .nil))) (.cons (.tup (.cons (.cst (.str "jump")) (.cons (.cst (.int 0)) .nil))) (.cons (.var 3 "_law_put") .nil)))))))
 (.ret (.bin .add (.var 5 "_law_rows") (.tup (.cons (.tup (.cons (.cst (.str "call")) (.cons (.cst (.int 7)) .nil))) (.cons (.tup (.cons (.cst (.str "back")) .nil)) (.cons (.tup (.cons (.cst (.str "set")) (.cons (.cst (.str "b")) (.cons (.tup (.cons (.var 4 "_law_sign") (.cons (.tup (.cons (.cst (.str "name")) (.cons (.cst (.str "b")) .nil))) (.cons (.tup (.cons (.cst (.str "name")) (.cons (.cst (.str "a")) .nil))) .nil)))) .nil)))) (.cons (.tup (.cons (.cst (.str "back")) .nil)) .nil))))))))))
noncomputable def prB:S:=(.ret (.bi .tuple false (.cons (.comp false .rng1 (.cons (.var 2 "_law_size") .nil) ["_law_k"] [(0,"_law_script"),(1,"_law_at"),(2,"_law_size")] .nil Ah) .nil)))
theorem fm:aY=⟨["_law_script","_law_at"],["_law_script","_law_at","_law_size","_law_put","_law_sign","_law_rows"],
 (.seq (.set 2 "_law_size" (.bin .add (.cst (.int 1)) (.call "_law_drawn" (.cons (.var 0 "_law_script") (.cons (.var 1 "_law_at") (.cons (.cst (.int 9)) .nil))))))
 (.seq (.ife (.cmp .eq (.call "_law_drawn" (.cons (.var 0 "_law_script") (.cons (.bin .add (.var 1 "_law_at") (.cst (.int 1))) (.cons (.cst (.int 4)) .nil)))) (.cst (.int 0))) prA .nil)
 prB))⟩:=rfl
theorem qN (L:Lw T) (hP:T "_law_program"=some aY) (ns:List Int) (hl:ns.length<=1000) (p:Int) :
 ∃ pg:Pg,Drawn pg/\∀ (m:Nat) (h:HH),runN T G (m+7) "_law_program" [.p (.lst (aa ns)),.p (.int p)] h=some (.p (bG pg),h):=by
 refine lO L ns hl p (fun m h n o c en eo dr=>?_) (fun m h pg c el dr cm=>?_)
 ·rw[run_eq hP rfl]
  have d:=fun q many hm h=>dr (m+4) q many hm h
  rw[fm]
  simp[-bI,prA,d,c,eo,af,bG,gR,Rw.enc,Sm.enc,← en,Nm.w]
 ·rw[run_eq hP rfl]
  have d:=fun q many hm h=>dr (m+4) q many hm h
  have d0:=cz ns p (many:=9) (by decide)
  have d1:=cA ns p (many:=9) (by decide)
  have c0:-100000<=1+drw ns p 9:=by omega
  have c1:1+drw ns p 9<=100000:=by omega
  have c2:pg.length<=100000:=by omega
  have cm':=cm h
  rw[fm]
  simp[-cU,prB,d,c,c0,c1,c2,cm',af,bG,gy]
mutual
theorem lP:∀ d:D,eqv d d=true
 | .non=>rfl
 | .bl b=>by simp
 | .int i=>by simp
 | .str x=>by simp
 | .tup xs=>by simp[iz xs]
 | .lst xs=>by simp[iz xs]
theorem iz:∀ ds:List D,mC ds ds=true
 | []=>rfl
 | d :: r=>by simp[lP d,iz r]
end
theorem lQ (n:Nat) (xs:List Int):(aa xs).all (dok n)=true:=by simp[aa,Qx]
theorem qO (n:Nat) (xs:List Nat):(ao xs).all (dok n)=true:=by simp[ao,Qx]
theorem ne_self {x:D} (h:dok 100 x=true):dQ .ne x x=some false:=by rw[nY,if_pos (iM h),lP];rfl
@[simp] theorem HE (ds:List D):mC ds ds=true:=iz ds
@[simp] theorem IE (d:D):eqv d d=true:=lP d
@[simp] theorem IF (x:D) (xs:List Int):br x (.tup (aa xs))=true:=iM (lQ 99 xs)
@[simp] theorem IG (x:D) (xs:List Nat):br x (.tup (ao xs))=true:=iM (qO 99 xs)
@[simp] theorem Ks (x:D) (xs ys:List Int):br x (.tup [.tup (aa xs),.tup (aa ys)])=true:=iM (by simp[lQ])
end
end BT
end
section
namespace BT
open PySem
section
variable {T:FK->Option Fn}{G:Str->Option W}
@[simp] theorem NN (st:St):rS st.enc (some 1) (some 3)=some (.tup [.tup (aa st.names),.tup (aa st.cells)]):=rfl
end
end BT
end
section
namespace BT
open PySem
theorem Ai (n:Nat) (st:St):dok (n+2) st.enc=true:=by
 simp[St.enc,tP,lQ,qO]
theorem Dy (L:List St):dok 100 (.lst (L.map St.enc))=true:=by
 rw[tQ,Qx]
 intro d hd
 simp at hd
 obtain ⟨st,_,rfl⟩:=hd
 exact Ai 97 st
@[simp] theorem MA (x:D) (st:St):br x st.enc=true:=iM (Ai 98 st)
@[simp] theorem Ku (x:D) (L:List St):br x (.lst (L.map St.enc))=true:=iM (Dy L)
end BT
end
section
namespace BT
open PySem
noncomputable def itr (p:Pg) (asked:List Int):Nat->St
 | 0=>St.zero
 | n+1=>step p asked (itr p asked n)
structure Run (p:Pg) (asked:List Int) (most e:Nat):Prop where
 le:e<=most
 on:∀ i,i < e->over p (itr p asked i)=false
 last:e=most\/over p (itr p asked e)=true
theorem Aj (p:Pg) (asked:List Int):∀ (r j:Nat),∃ e,e<=r/\sts p asked r (itr p asked j)=(Pr (e+1)).map (fun i=>itr p asked (j+i))/\(∀ i,i < e->over p (itr p asked (j+i))=false)/\(e=r\/over p (itr p asked (j+e))=true)
 | 0,j=>⟨0,O8 _,rfl,fun i hi=>absurd hi (S7 _),.inl rfl⟩
 | r+1,j=>by
  rw[sts]
  by_cases c:over p (itr p asked j)=true
  ·rw[if_pos c]
   exact ⟨0,P0 _,rfl,fun i hi=>absurd hi (S7 _),.inr c⟩
  ·rw[if_neg c]
   obtain ⟨e,h1,h2,h3,h4⟩:=Aj p asked r (j+1)
   have c':over p (itr p asked j)=false:=by simpa using c
   refine ⟨e+1,by omega,?_,fun i hi=>?_,?_⟩
   ·show itr p asked j :: sts p asked r (itr p asked (j+1))=_
    rw[h2,RJ (n:=e+1),Pe,QB]
    congr 1
    apply QY
    intro i _
    show itr p asked (j+1+i)=itr p asked (j+(i+1))
    congr 1;omega
   ·cases i with
    | zero=>exact c'
    | succ i =>
     have:=h3 i (by omega)
     rw[show j+(i+1)=j+1+i by omega];exact this
   ·rcases h4 with h4 | h4
    ·exact .inl (by omega)
    ·exact .inr (by rw[show j+(e+1)=j+1+e by omega];exact h4)
theorem Dz (p:Pg) (asked:List Int) (most:Nat):∃ e,Run p asked most e/\sts p asked most St.zero=(Pr (e+1)).map (itr p asked):=by
 obtain ⟨e,h1,h2,h3,h4⟩:=Aj p asked most 0
 refine ⟨e,⟨h1,fun i hi=>by have:=h3 i hi;simpa using this,by simpa using h4⟩,?_⟩
 have:sts p asked most St.zero=sts p asked most (itr p asked 0):=rfl
 rw[this,h2]
 apply QY
 intro i _
 simp
theorem fB {p:Pg}{asked:List Int}{most e:Nat} (hp:Pg.ok p) (ha:Ask asked) (R:Run p asked most e):∀ i,i<=e->At i (itr p asked i)
 | 0,_=>Ds
 | i+1,h=>Dt hp ha (fB hp ha R i (by omega)) (R.on i (by omega))
structure Tp where
 p:Pg
 asked:List Int
 gap:Nat
 most:Nat
 kept:List St
 far:Nat
 front:St
 now:Nat
noncomputable def Tp.fs (t:Tp) (r:Nat):List (Str×W):=[("program",.p (bG t.p)),("asked",.p (.lst (aa t.asked))),("gap",.p (.int t.gap)),("most",.p (.int t.most)),("kept",.r r),("farthest",.p (.int t.far)),("front",.p t.front.enc),("now",.p (.int t.now))]
section
variable (t:Tp) (r:Nat)
@[simp] theorem HF:aW "program" (t.fs r)=some (.p (bG t.p)):=by simp[Tp.fs]
@[simp] theorem Kv:aW "asked" (t.fs r)=some (.p (.lst (aa t.asked))):=by simp[Tp.fs]
@[simp] theorem NO:aW "gap" (t.fs r)=some (.p (.int t.gap)):=by simp[Tp.fs]
@[simp] theorem MB:aW "most" (t.fs r)=some (.p (.int t.most)):=by simp[Tp.fs]
@[simp] theorem DA:aW "kept" (t.fs r)=some (.r r):=by simp[Tp.fs]
@[simp] theorem NP:aW "farthest" (t.fs r)=some (.p (.int t.far)):=by simp[Tp.fs]
@[simp] theorem Kw:aW "front" (t.fs r)=some (.p t.front.enc):=by simp[Tp.fs]
@[simp] theorem NQ:aW "now" (t.fs r)=some (.p (.int t.now)):=by simp[Tp.fs]
@[simp] theorem NR:(t.fs r).length=8:=rfl
theorem DB (v:Nat):bq "gap" (.p (.int v)) (t.fs r)=({ t with gap:=v }:Tp).fs r:=by simp[Tp.fs]
theorem Ak (r':Nat):bq "kept" (.r r') (t.fs r)=t.fs r':=by simp[Tp.fs]
theorem DC (v:Nat):bq "farthest" (.p (.int v)) (t.fs r)=({ t with far:=v }:Tp).fs r:=by simp[Tp.fs]
theorem xj (v:St):bq "front" (.p v.enc) (t.fs r)=({ t with front:=v }:Tp).fs r:=by simp[Tp.fs]
theorem bX {m:String} (h:(["program","asked","gap","most","kept","farthest","front","now"]:List String).contains m=false):aW m (t.fs r)=none:=by
 simp only[List.contains_cons,List.contains_nil,TQ,Bool.or_eq_false_iff,beq_eq_false_iff_ne,ne_eq] at h
 obtain ⟨h1,h2,h3,h4,h5,h6,h7,h8⟩:=h
 simp[Tp.fs,h1,h2,h3,h4,h5,h6,h7,h8]
end
structure TAt (h:HH) (n r:Nat) (t:Tp):Prop where
 ob:oat h n=some (Pp "Tape",t.fs r)
 li:lat h r=some (t.kept.map St.enc)
theorem lR {h:HH}{n:Nat}{q:Str×List (Str×W)} (e:oat h n=some q):n < h.length:=by
 unfold oat at e
 rcases Pq n h.length with z | z
 ·exact z
 ·rw[Pj z] at e;cases e
theorem sP {h:HH}{n:Nat}{q:List D} (e:lat h n=some q):n < h.length:=by
 unfold lat at e
 rcases Pq n h.length with z | z
 ·exact z
 ·rw[Pj z] at e;cases e
theorem ES {h:HH}{n r:Nat}{q:Str×List (Str×W)}{xs:List D} (e:oat h n=some q) (e':lat h r=some xs):n≠r:=by
 rintro rfl
 unfold oat at e
 unfold lat at e'
 cases g:h[n]? with
 | none=>rw[g] at e;cases e
 | some c=>rw[g] at e e';cases c<;>simp at e e'
theorem jo {h:HH}{n:Nat} (hn:n < h.length) (c:Cl):oat (h.set n c) n=p6 c:=by
 unfold oat;rw[Qn hn];rfl
theorem sQ {h:HH}{n i:Nat} (hn:i≠n) (c:Cl):oat (h.set n c) i=oat h i:=by
 unfold oat;rw[PV (Qd hn)]
theorem Al {h:HH}{n:Nat} (hn:n < h.length) (c:Cl):lat (h.set n c) n=nU c:=by
 unfold lat;rw[Qn hn];rfl
theorem lT {h:HH}{n i:Nat} (hn:i≠n) (c:Cl):lat (h.set n c) i=lat h i:=by
 unfold lat;rw[PV (Qd hn)]
theorem HG {h h':HH}{i:Nat} (e:h'[i]?=h[i]?):lat h' i=lat h i:=by unfold lat;rw[e]
theorem Am {h h':HH}{i:Nat} (e:h'[i]?=h[i]?):oat h' i=oat h i:=by unfold oat;rw[e]
theorem DE {h g:HH}{i:Nat} (hi:i < h.length):lat (h++g) i=lat h i:=HG (Pd hi)
theorem uR {h g:HH}{i:Nat} (hi:i < h.length):oat (h++g) i=oat h i:=Am (Pd hi)
structure Go (n:Nat) (h:HH) (r:Nat) (t:Tp) (h':HH) (r':Nat) (t':Tp):Prop where
 a:TAt h n r t
 b:TAt h' n r' t'
 len:(h'.length=h.length/\r'=r)\/(h.length<=r')
 le:h.length<=h'.length
 fr:∀ i,i≠n->i≠r->i < h.length->h'[i]?=h[i]?
theorem Go.refl {n:Nat}{h:HH}{r:Nat}{t:Tp} (a:TAt h n r t):Go n h r t h r t:=⟨a,a,.inl ⟨rfl,rfl⟩,O8 _,fun _ _ _ _=>rfl⟩
theorem Go.trans {n:Nat}{h h1 h2:HH}{r r1 r2:Nat}{t t1 t2:Tp} (x:Go n h r t h1 r1 t1) (y:Go n h1 r1 t1 h2 r2 t2):Go n h r t h2 r2 t2:=by
 refine ⟨x.a,y.b,?_,PZ x.le y.le,fun i h1 h2 h3=>?_⟩
 ·rcases x.len with ⟨a1,a2⟩ | a1
  ·rcases y.len with ⟨b1,b2⟩ | b1
   ·exact .inl ⟨b1.trans a1,b2.trans a2⟩
   ·exact .inr (by omega)
  ·rcases y.len with ⟨b1,b2⟩ | b1
   ·exact .inr (by omega)
   ·exact .inr (by have:=x.le;omega)
 ·have:i≠r1:=by
   rcases x.len with ⟨a1,a2⟩ | a1
   ·rw[a2];exact h2
   ·omega
  rw[y.fr i h1 this (by have:=x.le;omega)]
  exact x.fr i h1 h2 h3
theorem dR {n:Nat}{h h':HH}{r r':Nat}{t t':Tp} (x:Go n h r t h' r' t') (w:W):fin h w h'=some (w,h'):=by
 unfold fin
 by_cases c:h'.length=h.length
 ·rw[if_pos c]
 ·rw[if_neg c]
  rw[if_neg]
  intro z
  rcases x.len with ⟨a1,a2⟩ | a1
  ·exact c a1
  ·have hn:=lR x.a.ob
   have e:h'[n]?=h[n]?:=by
    have q:=Rq (l:=h') hn
    rw[z] at q
    exact q.symm
   have e2:oat h' n=oat h n:=Am e
   rw[x.a.ob,x.b.ob] at e2
   have e3:=congrArg (fun q:Option (Str×List (Str×W))=>q.bind fun y=>aW "kept" y.2) e2
   simp only[QJ,DA,Sg,W.r.injEq] at e3
   have:=sP x.a.li
   omega
end BT
end
section
namespace BT
open PySem
noncomputable def dJ:Fn:=⟨["thing"],["thing"],
 (.ret (.and (.bi .isInt false (.cons (.var 0 "thing") .nil)) (.not (.bi .isBool false (.cons (.var 0 "thing") .nil)))))⟩
noncomputable def cR:Fn:=⟨["self","program","asked","every","most"],["self","program","asked","every","most"],
 (.seq (.setf (.var 0 "self") "program" (.var 1 "program"))
 (.seq (.setf (.var 0 "self") "asked" (.bi .list false (.cons (.var 2 "asked") .nil)))
 (.seq (.setf (.var 0 "self") "gap" (.bi .max2 false (.cons (.var 3 "every") (.cons (.cst (.int 1)) .nil))))
 (.seq (.setf (.var 0 "self") "most" (.bi .max2 false (.cons (.var 4 "most") (.cons (.cst (.int 0)) .nil))))
 (.seq (.setf (.var 0 "self") "kept" (.lst true (.cons (.call "begun" .nil) .nil)))
 (.seq (.setf (.var 0 "self") "farthest" (.cst (.int 0)))
 (.seq (.setf (.var 0 "self") "front" (.call "begun" .nil))
 (.setf (.var 0 "self") "now" (.cst (.int 0))))))))))⟩
noncomputable def eN:Fn:=⟨["self","moment"],["self","moment","state","step"],
 (.seq (.ex (.meth (.var 0 "self") "check" (.cons (.var 1 "moment") .nil)))
 (.seq (.set 2 "state" (.idx (.fld (.var 0 "self") "kept") (.bin .fdiv (.var 1 "moment") (.fld (.var 0 "self") "gap"))))
 (.seq (.for [(3,"step")] .rng1 (.cons (.bin .mod (.var 1 "moment") (.fld (.var 0 "self") "gap")) .nil) (.set 2 "state" (.meth (.var 0 "self") "behind" (.cons (.var 2 "state") .nil))))
 (.ret (.var 2 "state")))))⟩
noncomputable def dM:Fn:=⟨["self"],["self"],
 (.seq (.ex (.meth (.var 0 "self") "reach" (.cons (.fld (.var 0 "self") "most") .nil)))
 (.ret (.fld (.var 0 "self") "farthest")))⟩
noncomputable def bK:Fn:=⟨["self","state"],["self","state"],
 (.ret (.call "stepped" (.cons (.fld (.var 0 "self") "program") (.cons (.fld (.var 0 "self") "asked") (.cons (.var 1 "state") .nil)))))⟩
noncomputable def aP:Fn:=⟨["self","moment","state"],["self","moment","state"],
 (.ret (.or (.cmp .ge (.var 1 "moment") (.fld (.var 0 "self") "most")) (.call "is_over" (.cons (.fld (.var 0 "self") "program") (.cons (.var 2 "state") .nil)))))⟩
noncomputable def bL:Fn:=⟨["self","state"],["self","state"],
 (.seq (.ex (.me .append (.fld (.var 0 "self") "kept") (.cons (.var 1 "state") .nil)))
 (.ife (.cmp .gt (.bi .len false (.cons (.fld (.var 0 "self") "kept") .nil)) (.glo "MOST_MARKS")) (.seq (.setf (.var 0 "self") "kept" (.stp true 2 (.fld (.var 0 "self") "kept")))
 (.augf (.var 0 "self") "gap" .mul (.cst (.int 2)))) .nil))⟩
noncomputable def bS:Fn:=⟨["self","moment"],["self","moment"],
 (.whl (.and (.cmp .lt (.fld (.var 0 "self") "farthest") (.var 1 "moment")) (.not (.meth (.var 0 "self") "is_last" (.cons (.fld (.var 0 "self") "farthest") (.cons (.fld (.var 0 "self") "front") .nil))))) (.seq (.setf (.var 0 "self") "front" (.meth (.var 0 "self") "behind" (.cons (.fld (.var 0 "self") "front") .nil)))
 (.seq (.augf (.var 0 "self") "farthest" .add (.cst (.int 1)))
 (.ife (.cmp .eq (.bin .mod (.fld (.var 0 "self") "farthest") (.fld (.var 0 "self") "gap")) (.cst (.int 0))) (.ex (.meth (.var 0 "self") "keep" (.cons (.fld (.var 0 "self") "front") .nil))) .nil))))⟩
noncomputable def dN:Fn:=⟨["self","moment"],["self","moment"],
 (.seq (.ife (.or (.not (.call "is_whole" (.cons (.var 1 "moment") .nil))) (.or (.cmp .lt (.var 1 "moment") (.cst (.int 0))) (.cmp .gt (.var 1 "moment") (.fld (.var 0 "self") "most")))) (.ret (.cst (.bl false))) .nil)
 (.seq (.ex (.meth (.var 0 "self") "reach" (.cons (.var 1 "moment") .nil)))
 (.ret (.cmp .le (.var 1 "moment") (.fld (.var 0 "self") "farthest")))))⟩
noncomputable def bT:Fn:=⟨["self","moment"],["self","moment"],
 (.ife (.not (.meth (.var 0 "self") "has" (.cons (.var 1 "moment") .nil))) .bad .nil)⟩
structure TpP (T:FK->Option Fn) (G:Str->Option W):Prop where
 prg:Prg T G
 is_whole:T "is_whole"=some dJ
 init:T (.m "Tape" "__init__")=some cR
 behind:T (.m "Tape" "behind")=some bK
 is_last:T (.m "Tape" "is_last")=some aP
 keep:T (.m "Tape" "keep")=some bL
 reach:T (.m "Tape" "reach")=some bS
 has:T (.m "Tape" "has")=some dN
 check:T (.m "Tape" "check")=some bT
 at_:T (.m "Tape" "at")=some eN
 MOST_MARKS:G "MOST_MARKS"=some (.p (.int 8))
section
variable {T:FK->Option Fn}{G:Str->Option W}
theorem jq (P:TpP T G) (k:Nat) (i:Int) (h:HH):runN T G (k+1) "is_whole" [.p (.int i)] h=some (.p (.bl true),h):=by
 rw[run_eq P.is_whole rfl]
 simp[dJ,af]
theorem eS (P:TpP T G) (k:Nat) {n r:Nat}{t:Tp}{h:HH} (a:TAt h n r t) (hp:Pg.ok t.p) {j:Nat}{st:St} (hj:j<=5000) (at_:At j st) (hb:over t.p st=false):runN T G (k+7) (.m "Tape" "behind") [.o n,.p st.enc] h=some (.p (step t.p t.asked st).enc,h):=by
 rw[run_eq P.behind rfl]
 have s:=qJ P.prg k t.p hp t.asked st at_.ok (at_.small hj) hb
 simp[bK,a.ob,s,af]
theorem dO (P:TpP T G) (k:Nat) {n r:Nat}{t:Tp}{h:HH} (a:TAt h n r t) (mo:Nat) (st:St):runN T G (k+2) (.m "Tape" "is_last") [.o n,.p (.int mo),.p st.enc] h=some (.p (.bl (decide (t.most<=mo)||over t.p st)),h):=by
 rw[run_eq P.is_last rfl]
 have o:=qI P.prg k t.p st
 by_cases c:t.most<=mo
 ·have c1:(t.most:Int)<=(mo:Int):=by omega
  simp[aP,a.ob,c,c1,af]
 ·have c1:¬ (t.most:Int)<=(mo:Int):=by omega
  simp[aP,a.ob,o,c,c1,af]
theorem An:TJ (PN none none (some 2) 9).1 (PN none none (some 2) 9).2.1 (PN none none (some 2) 9).2.2=[0,2,4,6,8]:=by decide +kernel
theorem HJ (x0 x1 x2 x3 x4 x5 x6 x7 x8:D):qc 2 [x0,x1,x2,x3,x4,x5,x6,x7,x8]=[x0,x2,x4,x6,x8]:=by
 show (TJ (PN none none (some 2) 9).1 (PN none none (some 2) 9).2.1 (PN none none (some 2) 9).2.2).filterMap _=_
 rw[An];rfl
noncomputable def Tp.keep (t:Tp) (st:St):Tp:=if t.kept.length < 8 then { t with kept:=t.kept++[st] } else { t with kept:=(Pr 5).filterMap fun i=>(t.kept++[st])[2*i]?,gap:=2*t.gap }
theorem Ao (P:TpP T G) (k:Nat) {n r:Nat}{t:Tp}{h:HH} (a:TAt h n r t) (hg:t.gap<=100000) (hl:t.kept.length<=8) (st:St) :
 ∃ h' r',runN T G (k+1) (.m "Tape" "keep") [.o n,.p st.enc] h=some (.p .non,h')/\Go n h r t h' r' (t.keep st):=by
 have nr:=ES a.ob a.li
 have hn:=lR a.ob
 have hr:=sP a.li
 have e1:lat (h.set r (Cl.l (t.kept.map St.enc++[st.enc]))) r=some (t.kept.map St.enc++[st.enc]):=Al hr _
 have e2:oat (h.set r (Cl.l (t.kept.map St.enc++[st.enc]))) n=some (Pp "Tape",t.fs r):=(sQ nr _).trans a.ob
 have l0:t.kept.length < 100000:=by omega
 by_cases c:t.kept.length < 8
 ·have c1:¬ (8:Int) < (t.kept.length:Int)+1:=by omega
  have go:Go n h r t (h.set r (Cl.l (t.kept.map St.enc++[st.enc]))) r (t.keep st):=by
   refine ⟨a,⟨?_,?_⟩,.inl ⟨by simp,rfl⟩,by simp,fun i h1 h2 h3=>PV (Qd h2)⟩
   ·rw[Tp.keep,if_pos c];exact e2
   ·rw[Tp.keep,if_pos c,e1];simp
  refine ⟨_,r,?_,go⟩
  rw[run_eq P.keep rfl]
  have f:=dR go (.p .non)
  simp[bL,a.ob,a.li,e1,e2,P.MOST_MARKS,rd,c1,l0,f]
 ·have c8:t.kept.length=8:=by omega
  obtain ⟨x0,x1,x2,x3,x4,x5,x6,x7,ek⟩:∃ x0 x1 x2 x3 x4 x5 x6 x7,t.kept=[x0,x1,x2,x3,x4,x5,x6,x7]:=by
   match t.kept,c8 with
   | [x0,x1,x2,x3,x4,x5,x6,x7],_=>exact ⟨x0,x1,x2,x3,x4,x5,x6,x7,rfl⟩
  have ev:qc 2 (t.kept.map St.enc++[st.enc])=((t.keep st).kept).map St.enc:=by
   rw[Tp.keep,if_neg c,ek]
   exact HJ _ _ _ _ _ _ _ _ _
  have c1:(8:Int) < (t.kept.length:Int)+1:=by omega
  have e3:∀ g:HH,oat ((h.set r (Cl.l (t.kept.map St.enc++[st.enc])))++g) n=some (Pp "Tape",t.fs r):=fun g=>(uR (by simpa using hn)).trans e2
  have e4:(h.set r (Cl.l (t.kept.map St.enc++[st.enc]))).length=h.length:=by simp
  have b0:big (t.gap:Int)=true:=by unfold big;exact decide_eq_true (by omega)
  have go:Go n h r t ((h.set r (Cl.l (t.kept.map St.enc++[st.enc]))++[Cl.l ((t.keep st).kept.map St.enc)]).set n (.o "Tape" ((t.keep st).fs h.length))) h.length (t.keep st):=by
   have hn2:n < (h.set r (Cl.l (t.kept.map St.enc++[st.enc]))++[Cl.l ((t.keep st).kept.map St.enc)]).length:=by simp;omega
   refine ⟨a,⟨jo hn2 _,?_⟩,.inr (O8 _),by simp,fun i h1 h2 h3=>?_⟩
   ·rw[lT (Qd (PD hn))]
    have:=NL (h.set r (Cl.l (t.kept.map St.enc++[st.enc]))) (Cl.l ((t.keep st).kept.map St.enc)) []
    rw[e4] at this
    exact this
   ·rw[PV (Qd h1),Pd (by simpa using h3),PV (Qd h2)]
  refine ⟨_,_,?_,go⟩
  rw[run_eq P.keep rfl]
  have f:=dR go (.p .non)
  have k2:(t.keep st).fs h.length=({ t with gap:=2*t.gap }:Tp).fs h.length:=by
   rw[Tp.keep,if_neg c];rfl
  have pk:bq "gap" (.p (.int ((t.gap:Int)*2))) (t.fs h.length)=(t.keep st).fs h.length:=by
   rw[k2,← DB t h.length (2*t.gap)]
   congr 3
   show (t.gap:Int)*2=((2*t.gap:Nat):Int)
   omega
  have hn2:n < (h.set r (Cl.l (t.kept.map St.enc++[st.enc]))++[Cl.l ((t.keep st).kept.map St.enc)]).length:=by simp;omega
  have e5:=jo hn2 (.o "Tape" (t.fs h.length))
  rw[FY] at e5
  have s2:∀ x y:Cl,((h.set r (Cl.l (t.kept.map St.enc++[st.enc]))++[Cl.l ((t.keep st).kept.map St.enc)]).set n x).set n y=(h.set r (Cl.l (t.kept.map St.enc++[st.enc]))++[Cl.l ((t.keep st).kept.map St.enc)]).set n y:=fun x y=>by rw[Vi]
  simp[bL,a.ob,a.li,e1,e2,e3,e4,P.MOST_MARKS,rd,c1,l0,ev,Ak,e5,b0,pk,s2,f]
end
end BT
end
section
namespace BT
open PySem
structure TI (t:Tp) (e ev:Nat):Prop where
 run:Run t.p t.asked t.most e
 ok:Pg.ok t.p
 ask:Ask t.asked
 g0:0 < t.gap
 g1:t.gap<=1000
 m1:t.most<=1000
 far:t.far<=e
 front:t.front=itr t.p t.asked t.far
 len:t.kept.length=t.far / t.gap+1
 l8:t.kept.length<=8
 kept:∀ j,j < t.kept.length->t.kept[j]?=some (itr t.p t.asked (j*t.gap))
 now:t.now<=t.far
 pw:∃ j,t.gap=ev*2 ^ j/\(0 < j->8<=t.far / (t.gap / 2))
structure Sm8 (t t':Tp):Prop where
 p:t'.p=t.p
 asked:t'.asked=t.asked
 most:t'.most=t.most
 now:t'.now=t.now
theorem Sm8.refl (t:Tp):Sm8 t t:=⟨rfl,rfl,rfl,rfl⟩
theorem Sm8.trans {t u v:Tp} (x:Sm8 t u) (y:Sm8 u v):Sm8 t v:=⟨y.p.trans x.p,y.asked.trans x.asked,y.most.trans x.most,y.now.trans x.now⟩
noncomputable def Tp.on (t:Tp):Tp:={ t with front:=step t.p t.asked t.front,far:=t.far+1 }
noncomputable def Tp.nx (t:Tp):Tp:=if (t.far+1) % t.gap=0 then t.on.keep t.on.front else t.on
theorem Aq {f g:Nat} (hg:0 < g) (c:¬ (f+1) % g=0):(f+1) / g=f / g:=by
 have h1:=S9 f g
 have h2:f % g < g:=Td _ hg
 have e:f+1=g*(f / g)+(f % g+1):=by omega
 have h3:f % g+1 < g:=by
  rcases Pq (f % g+1) g with z | z
  ·exact z
  ·exfalso;apply c
   have:f % g+1=g:=by omega
   rw[e,this,Nat.mul_add_mod,Nat.mod_self]
 rw[e,Nat.mul_add_div hg,Nat.div_eq_of_lt h3];omega
theorem Ar {f g:Nat} (hg:0 < g) (c:(f+1) % g=0):(f+1) / g=f / g+1/\(f / g+1)*g=f+1:=by
 have h1:=S9 f g
 have h2:f % g < g:=Td _ hg
 have h3:f % g+1=g:=by
  rcases Pq (f % g+1) g with z | z
  ·exfalso
   have e:f+1=g*(f / g)+(f % g+1):=by omega
   rw[e,Nat.mul_add_mod,Nat.mod_eq_of_lt z] at c
   omega
  ·omega
 have e:f+1=(f / g+1)*g:=by rw[Nat.add_mul,Rt (f / g) g];omega
 exact ⟨by rw[e,TV _ hg],e.symm⟩
theorem TI.nx {t:Tp}{e ev:Nat} (I:TI t e ev) (h:t.far < e):TI t.nx e ev/\Sm8 t t.nx/\t.nx.far=t.far+1:=by
 have g0:=I.g0
 have hf:step t.p t.asked t.front=itr t.p t.asked (t.far+1):=by rw[I.front];rfl
 have mono:∀ g:Nat,t.far / g<=(t.far+1) / g:=fun g=>Tf (QS _)
 unfold Tp.nx
 by_cases c:(t.far+1) % t.gap=0
 ·rw[if_pos c]
  obtain ⟨d1,d2⟩:=Ar g0 c
  have hfr:t.on.front=itr t.p t.asked (t.far+1):=hf
  have kp:∀ j,j < t.kept.length+1->(t.kept++[itr t.p t.asked (t.far+1)])[j]?=some (itr t.p t.asked (j*t.gap)):=fun j hj=>by
   rcases Pq j t.kept.length with z | z
   ·rw[Pd z];exact I.kept j z
   ·have ej:j=t.kept.length:=by omega
    subst ej
    rw[PM (O8 _),Nat.sub_self]
    have:t.kept.length*t.gap=t.far+1:=by rw[I.len];exact d2
    rw[this];rfl
  unfold Tp.keep
  by_cases c2:t.kept.length < 8
  ·have c2':t.on.kept.length < 8:=c2
   rw[if_pos c2']
   refine ⟨⟨I.run,I.ok,I.ask,g0,I.g1,I.m1,h,hf,?_,?_,fun j hj=>?_,?_,?_⟩,⟨rfl,rfl,rfl,rfl⟩,rfl⟩
   ·show (t.kept++[t.on.front]).length=(t.far+1) / t.gap+1
    rw[d1,PB,I.len];rfl
   ·show (t.kept++[t.on.front]).length<=8
    rw[PB];simp;omega
   ·have hj':j < t.kept.length+1:=by
     have:(t.kept++[t.on.front]).length=t.kept.length+1:=by simp
     rw[← this];exact hj
    show (t.kept++[t.on.front])[j]?=some (itr t.p t.asked (j*t.gap))
    rw[hfr];exact kp j hj'
   ·show t.now<=t.far+1;have:=I.now;omega
   ·obtain ⟨j,h1,h2⟩:=I.pw
    exact ⟨j,h1,fun hj=>PZ (h2 hj) (mono _)⟩
  ·have c2':¬ t.on.kept.length < 8:=c2
   rw[if_neg c2']
   have l8:t.kept.length=8:=by have:=I.l8;omega
   have f8:t.far+1=8*t.gap:=by rw[← d2,← I.len,l8]
   have le:=I.run.le
   have m1:=I.m1
   have hk:∀ i,i < 5->(t.kept++[itr t.p t.asked (t.far+1)])[2*i]?=some (itr t.p t.asked (i*(2*t.gap))):=fun i hi=>by
    rw[kp (2*i) (by omega)]
    congr 2
    rw[Rt 2 i,Nat.mul_assoc]
   have ek:(Pr 5).filterMap (fun i=>(t.kept++[t.on.front])[2*i]?)=(Pr 5).map fun i=>itr t.p t.asked (i*(2*t.gap)):=by
    rw[hfr,show Pr 5=[0,1,2,3,4] from rfl]
    simp only[PF,List.filterMap_nil,hk 0 (by decide),hk 1 (by decide),hk 2 (by decide),hk 3 (by decide),hk 4 (by decide),Pe,Rc]
   have dv:(t.far+1) / (2*t.gap)=4:=by
    rw[f8,show 8*t.gap=4*(2*t.gap) by omega]
    exact TV _ (by omega)
   refine ⟨⟨I.run,I.ok,I.ask,?_,?_,I.m1,h,hf,?_,?_,fun j hj=>?_,?_,?_⟩,⟨rfl,rfl,rfl,rfl⟩,rfl⟩
   ·show 0 < 2*t.gap;omega
   ·show 2*t.gap<=1000;omega
   ·show ((Pr 5).filterMap fun i=>(t.kept++[t.on.front])[2*i]?).length=(t.far+1) / (2*t.gap)+1
    rw[ek,dv];simp
   ·show ((Pr 5).filterMap fun i=>(t.kept++[t.on.front])[2*i]?).length<=8
    rw[ek];simp
   ·have hj':j < 5:=by
     have q:j < ((Pr 5).filterMap fun i=>(t.kept++[t.on.front])[2*i]?).length:=hj
     rw[ek] at q;simpa using q
    show ((Pr 5).filterMap fun i=>(t.kept++[t.on.front])[2*i]?)[j]?=some (itr t.p t.asked (j*(2*t.gap)))
    rw[ek,Px,Si hj'];rfl
   ·show t.now<=t.far+1;have:=I.now;omega
   ·obtain ⟨j,h1,h2⟩:=I.pw
    refine ⟨j+1,?_,fun _=>?_⟩
    ·show 2*t.gap=ev*2 ^ (j+1)
     rw[h1,Nat.pow_succ];rw[Rt 2,Nat.mul_assoc]
    ·show 8<=(t.far+1) / (2*t.gap / 2)
     rw[Nat.mul_div_cancel_left _ (by omega:0 < 2),f8,TV _ g0]
     exact O8 _
 ·rw[if_neg c]
  refine ⟨⟨I.run,I.ok,I.ask,g0,I.g1,I.m1,h,hf,?_,I.l8,I.kept,?_,?_⟩,⟨rfl,rfl,rfl,rfl⟩,rfl⟩
  ·show t.kept.length=(t.far+1) / t.gap+1
   rw[I.len,Aq g0 c]
  ·show t.now<=t.far+1;have:=I.now;omega
  ·obtain ⟨j,h1,h2⟩:=I.pw
   exact ⟨j,h1,fun hj=>PZ (h2 hj) (mono _)⟩
section
variable {T:FK->Option Fn}{G:Str->Option W}
noncomputable def rcC:E:=(.and (.cmp .lt (.fld (.var 0 "self") "farthest") (.var 1 "moment")) (.not (.meth (.var 0 "self") "is_last" (.cons (.fld (.var 0 "self") "farthest") (.cons (.fld (.var 0 "self") "front") .nil)))))
noncomputable def rcB:S:=(.seq (.setf (.var 0 "self") "front" (.meth (.var 0 "self") "behind" (.cons (.fld (.var 0 "self") "front") .nil)))
 (.seq (.augf (.var 0 "self") "farthest" .add (.cst (.int 1)))
 (.ife (.cmp .eq (.bin .mod (.fld (.var 0 "self") "farthest") (.fld (.var 0 "self") "gap")) (.cst (.int 0))) (.ex (.meth (.var 0 "self") "keep" (.cons (.fld (.var 0 "self") "front") .nil))) .nil)))
theorem dX (t:Tp) (r:Nat):aW "is_last" (t.fs r)=none:=bX t r rfl
theorem fR (t:Tp) (r:Nat):aW "behind" (t.fs r)=none:=bX t r rfl
theorem HK (t:Tp) (r:Nat):aW "keep" (t.fs r)=none:=bX t r rfl
theorem uS (t:Tp) (r:Nat):aW "reach" (t.fs r)=none:=bX t r rfl
theorem Kx (t:Tp) (r:Nat):aW "has" (t.fs r)=none:=bX t r rfl
theorem uT (t:Tp) (r:Nat):aW "check" (t.fs r)=none:=bX t r rfl
theorem HL (t:Tp) (r:Nat):aW "at" (t.fs r)=none:=bX t r rfl
theorem Kz (t:Tp) (r:Nat):aW "end" (t.fs r)=none:=bX t r rfl
theorem KA {n r:Nat}{t:Tp}{h:HH} (a:TAt h n r t) (t':Tp) (k:t'.kept=t.kept):Go n h r t (h.set n (.o "Tape" (t'.fs r))) r t':=by
 have hn:=lR a.ob
 have nr:=ES a.ob a.li
 exact ⟨a,⟨jo hn _,by rw[lT (Qd nr),k];exact a.li⟩,.inl ⟨by simp,rfl⟩,by simp,fun i h1 _ _=>PV (Qd h1)⟩
theorem DF (P:TpP T G) (k:Nat) {n r:Nat}{t:Tp}{h:HH}{e ev:Nat} (a:TAt h n r t) (I:TI t e ev) (hl:t.far < e) (w:W) :
 ∃ h' r',evS (runN T G (k+7)) G rcB [some (.o n),some w] h=some (.nx [some (.o n),some w] h')/\Go n h r t h' r' t.nx:=by
 have hn:=lR a.ob
 have atf:=fB I.ok I.ask I.run t.far (by omega)
 have le:=I.run.le
 have m1:=I.m1
 have bh:=eS P k a I.ok (j:=t.far) (st:=t.front) (by omega) (by rw[I.front];exact atf) (by rw[I.front];exact I.run.on _ hl)
 have go1:=KA a t.on rfl
 have e1:oat (h.set n (.o "Tape" (({ t with front:=step t.p t.asked t.front }:Tp).fs r))) n=some (Pp "Tape",({ t with front:=step t.p t.asked t.front }:Tp).fs r):=jo hn _
 have pf:=xj t r (step t.p t.asked t.front)
 have pa:bq "farthest" (.p (.int ((t.far:Int)+1))) (({ t with front:=step t.p t.asked t.front }:Tp).fs r)=t.on.fs r:=DC ({ t with front:=step t.p t.asked t.front }:Tp) r (t.far+1)
 have e2:oat (h.set n (.o "Tape" (t.on.fs r))) n=some (Pp "Tape",t.on.fs r):=jo hn _
 have g0:(0:Int) < (t.gap:Int):=by have:=I.g0;omega
 have s2:∀ x y:Cl,(h.set n x).set n y=h.set n y:=fun x y=>by rw[Vi]
 have of:t.on.far=t.far+1:=rfl
 have og:t.on.gap=t.gap:=rfl
 have pre:evS (runN T G (k+7)) G rcB [some (.o n),some w] h=evS (runN T G (k+7)) G (.ife (.cmp .eq (.bin .mod (.fld (.var 0 "self") "farthest") (.fld (.var 0 "self") "gap")) (.cst (.int 0))) (.ex (.meth (.var 0 "self") "keep" (.cons (.fld (.var 0 "self") "front") .nil))) .nil) [some (.o n),some w] (h.set n (.o "Tape" (t.on.fs r))):=by
  rw[rcB]
  simp[a.ob,bh,fR,pf,e1,pa,s2]
 rw[pre]
 unfold Tp.nx
 have cm:(((t.far+1) % t.gap:Nat):Int)=((t.far:Int)+1) % (t.gap:Int):=by simp
 by_cases c:(t.far+1) % t.gap=0
 ·rw[if_pos c]
  have c1:((t.far:Int)+1) % (t.gap:Int)=0:=by omega
  obtain ⟨h2,r2,k1,k2⟩:=Ao P (k+6) go1.b (by show t.gap<=100000;have:=I.g1;omega) (by show t.kept.length<=8;exact I.l8) t.on.front
  refine ⟨h2,r2,?_,go1.trans k2⟩
  simp[e2,of,og,g0,I.g0,c1,HK,k1]
 ·rw[if_neg c]
  have c1:¬ ((t.far:Int)+1) % (t.gap:Int)=0:=by omega
  refine ⟨_,r,?_,go1⟩
  have c2:(((t.far:Int)+1) % (t.gap:Int)==0)=false:=by simpa using c1
  simp[e2,of,og,g0,I.g0,c2]
theorem oY (P:TpP T G) (k:Nat) {n r:Nat}{t:Tp}{h:HH}{e ev:Nat} (a:TAt h n r t) (I:TI t e ev) (m:Nat) :
 BT.ev (runN T G (k+7)) G rcC [some (.o n),some (.p (.int m))] h=some (.p (.bl (decide (t.far < min m e))),h):=by
 have il:=dO P (k+5) a t.far t.front
 have le:=I.run.le
 by_cases c:t.far < m
 ·have c1:(t.far:Int) < (m:Int):=by omega
  by_cases c2:t.far < e
  ·have o:over t.p t.front=false:=by rw[I.front];exact I.run.on _ c2
   have q:(decide (t.most<=t.far)||over t.p t.front)=false:=by
    rw[o,TQ];exact decide_eq_false (by omega)
   rw[q] at il
   have d:decide (t.far < min m e)=true:=decide_eq_true (by omega)
   rw[d]
   simp[rcC,a.ob,c1,c,dX,il]
  ·have fe:t.far=e:=by have:=I.far;omega
   have q:(decide (t.most<=t.far)||over t.p t.front)=true:=by
    rcases I.run.last with z | z
    ·rw[decide_eq_true (by omega)];rfl
    ·rw[I.front,fe,z,Bool.or_true]
   rw[q] at il
   have d:decide (t.far < min m e)=false:=decide_eq_false (by omega)
   rw[d]
   simp[rcC,a.ob,c1,c,dX,il]
 ·have c1:¬ (t.far:Int) < (m:Int):=by omega
  have d:decide (t.far < min m e)=false:=decide_eq_false (by omega)
  rw[d]
  simp[rcC,a.ob,c1,c]
theorem DG (P:TpP T G) (k:Nat) (n:Nat) (e ev m:Nat):∀ (d f:Nat) (h:HH) (r:Nat) (t:Tp),TAt h n r t->TI t e ev->min m e - t.far<=d->d<=f →
 ∃ h' r' t',aU (BT.ev (runN T G (k+7)) G rcC) (evS (runN T G (k+7)) G rcB) (f+1) [some (.o n),some (.p (.int m))] h=some (.nx [some (.o n),some (.p (.int m))] h')/\Go n h r t h' r' t'/\TI t' e ev/\Sm8 t t'/\t'.far=max t.far (min m e):=by
 intro d
 induction d with
 | zero =>
  intro f h r t a I hd hf
  have q:=oY P k a I m
  rw[decide_eq_false (by omega)] at q
  refine ⟨h,r,t,?_,.refl a,I,.refl t,by omega⟩
  rw[aU,q,c6,gC]
 | succ d ih =>
  intro f h r t a I hd hf
  by_cases c:t.far < min m e
  ·have q:=oY P k a I m
   rw[decide_eq_true c] at q
   obtain ⟨h1,r1,b1,g1⟩:=DF P k a I (by omega) (.p (.int m))
   obtain ⟨I1,s1,f1⟩:=I.nx (by omega)
   cases f with
   | zero=>omega
   | succ f =>
    obtain ⟨h2,r2,t2,b2,g2,I2,s2,f2⟩:=ih f h1 r1 t.nx g1.b I1 (by omega) (by omega)
    refine ⟨h2,r2,t2,?_,g1.trans g2,I2,s1.trans s2,by omega⟩
    rw[aU,q,c6,iO,b1,cK,b2]
  ·have q:=oY P k a I m
   rw[decide_eq_false c] at q
   refine ⟨h,r,t,?_,.refl a,I,.refl t,by omega⟩
   rw[aU,q,c6,gC]
theorem qP:bS=⟨["self","moment"],["self","moment"],.whl rcC rcB⟩:=rfl
theorem nH (P:TpP T G) (k:Nat) {n r:Nat}{t:Tp}{h:HH}{e ev:Nat} (a:TAt h n r t) (I:TI t e ev) (m:Nat) :
 ∃ h' r' t',runN T G (k+8) (.m "Tape" "reach") [.o n,.p (.int m)] h=some (.p .non,h')/\Go n h r t h' r' t'/\TI t' e ev/\Sm8 t t'/\t'.far=max t.far (min m e):=by
 have le:=I.run.le
 have m1:=I.m1
 obtain ⟨h',r',t',b,g,I',s,f⟩:=DG P k n e ev m 99999 99999 h r t a I (by omega) (O8 _)
 refine ⟨h',r',t',?_,g,I',s,f⟩
 rw[run_eq P.reach rfl,qP]
 have fn:=dR g (.p .non)
 simp[turns,b,fn]
theorem DH (P:TpP T G) (k:Nat) {n r:Nat}{t:Tp}{h:HH}{e ev:Nat} (a:TAt h n r t) (I:TI t e ev) (m:Nat) (hm:m<=t.most) :
 ∃ h' r' t',runN T G (k+9) (.m "Tape" "has") [.o n,.p (.int m)] h=some (.p (.bl (decide (m<=e))),h')/\Go n h r t h' r' t'/\TI t' e ev/\Sm8 t t'/\t'.far=max t.far (min m e):=by
 obtain ⟨h',r',t',b,g,I',s,f⟩:=nH P k a I m
 refine ⟨h',r',t',?_,g,I',s,f⟩
 rw[run_eq P.has rfl]
 have w:=jq P (k+7) m
 have c1:¬ ((m:Int) < 0):=by omega
 have c2:¬ ((t.most:Int) < (m:Int)):=by omega
 have fn:=fun w=>dR g w
 have far:=I.far
 have d:decide ((m:Int)<=(t'.far:Int))=decide (m<=e):=by
  by_cases c:m<=e
  ·rw[decide_eq_true c];exact decide_eq_true (by omega)
  ·rw[decide_eq_false c];exact decide_eq_false (by omega)
 simp[dN,w,c1,a.ob,c2,uS,b,g.b.ob,fn]
 simpa using d
theorem nI (P:TpP T G) (k:Nat) {n r:Nat}{t:Tp}{h:HH}{e ev:Nat} (a:TAt h n r t) (I:TI t e ev) (m:Nat) (hm:m<=e) :
 ∃ h' r' t',runN T G (k+10) (.m "Tape" "check") [.o n,.p (.int m)] h=some (.p .non,h')/\Go n h r t h' r' t'/\TI t' e ev/\Sm8 t t'/\t'.far=max t.far m:=by
 obtain ⟨h',r',t',b,g,I',s,f⟩:=DH P k a I m (PZ hm I.run.le)
 rw[decide_eq_true hm] at b
 refine ⟨h',r',t',?_,g,I',s,by omega⟩
 rw[run_eq P.check rfl]
 have fn:=dR g (.p .non)
 simp[bT,a.ob,Kx,b,fn]
noncomputable def atB:S:=(.set 2 "state" (.meth (.var 0 "self") "behind" (.cons (.var 2 "state") .nil)))
theorem uU (P:TpP T G) (k:Nat) {n r:Nat}{t:Tp}{h:HH}{e ev:Nat} (a:TAt h n r t) (I:TI t e ev) (w1:W):∀ (q j:Nat) (x:Option W) (lo:Int),j+q<=e →
 ∃ x',bx (evS (runN T G (k+7)) G atB) [(3,"step")] (upto lo q) [some (.o n),some w1,some (.p (itr t.p t.asked j).enc),x] h=some (.nx [some (.o n),some w1,some (.p (itr t.p t.asked (j+q)).enc),x'] h)
 | 0,j,x,lo,_=>⟨x,rfl⟩
 | q+1,j,x,lo,hj=>by
  have le:=I.run.le
  have m1:=I.m1
  obtain ⟨x',b⟩:=uU P k a I w1 q (j+1) (some (.p (.int lo))) (lo+1) (by omega)
  refine ⟨x',?_⟩
  have bh:=eS P k a I.ok (j:=j) (st:=itr t.p t.asked j) (by omega) (fB I.ok I.ask I.run j (by omega)) (I.run.on j (by omega))
  have up:upto lo (q+1)=.int lo :: upto (lo+1) q:=by
   unfold upto
   rw[RJ,Pe,QB]
   simp only[Int.natCast_zero,Int.add_zero,RU,true_and]
   apply QY
   intro i _
   simp;omega
  rw[up]
  have s1:step t.p t.asked (itr t.p t.asked j)=itr t.p t.asked (j+1):=rfl
  rw[s1] at bh
  have ej:j+1+q=j+(q+1):=by omega
  rw[ej] at b
  have hb:evS (runN T G (k+7)) G atB [some (.o n),some w1,some (.p (itr t.p t.asked j).enc),some (.p (.int lo))] h=some (.nx [some (.o n),some w1,some (.p (itr t.p t.asked (j+1)).enc),some (.p (.int lo))] h):=by
   simp[atB,a.ob,fR,bh]
  simp[hb,b]
theorem As:eN=⟨["self","moment"],["self","moment","state","step"],(.seq (.ex (.meth (.var 0 "self") "check" (.cons (.var 1 "moment") .nil)))
 (.seq (.set 2 "state" (.idx (.fld (.var 0 "self") "kept") (.bin .fdiv (.var 1 "moment") (.fld (.var 0 "self") "gap"))))
 (.seq (.for [(3,"step")] .rng1 (.cons (.bin .mod (.var 1 "moment") (.fld (.var 0 "self") "gap")) .nil) atB)
 (.ret (.var 2 "state")))))⟩:=rfl
theorem Au (P:TpP T G) (k:Nat) {n r:Nat}{t:Tp}{h:HH}{e ev:Nat} (a:TAt h n r t) (I:TI t e ev) (m:Nat) (hm:m<=e) :
 ∃ h' r' t',runN T G (k+11) (.m "Tape" "at") [.o n,.p (.int m)] h=some (.p (itr t.p t.asked m).enc,h')/\Go n h r t h' r' t'/\TI t' e ev/\Sm8 t t'/\t'.far=max t.far m:=by
 obtain ⟨h',r',t',b,g,I',s,f⟩:=nI P k a I m hm
 refine ⟨h',r',t',?_,g,I',s,f⟩
 rw[run_eq P.at_ rfl,As]
 have fn:=fun w=>dR g w
 have g0:=I'.g0
 have g1:=I'.g1
 have dm:=S9 m t'.gap
 have md:=Td m g0
 have hq:m / t'.gap < t'.kept.length:=by
  rw[I'.len]
  have:m / t'.gap<=t'.far / t'.gap:=Tf (by omega)
  omega
 have hk:=I'.kept _ hq
 have le:=I'.run.le
 have m1:=I'.m1
 rw[s.p,s.asked] at hk
 have gz:(0:Int) < (t'.gap:Int):=by omega
 have gm:(t'.gap:Int) < 1073741824:=by omega
 have e1:(m:Int) / (t'.gap:Int)=((m / t'.gap:Nat):Int):=by simp
 have e2:(m:Int) % (t'.gap:Int)=((m % t'.gap:Nat):Int):=by simp
 have ix:aL (.lst (t'.kept.map St.enc)) (.int ((m / t'.gap:Nat):Int))=some (itr t.p t.asked (m / t'.gap*t'.gap)).enc:=by
  show atP _ _=_
  rw[iy,Px,hk];rfl
 obtain ⟨x',lp⟩:=uU P (k+3) g.b I' (.p (.int m)) (m % t'.gap) (m / t'.gap*t'.gap) none 0 (by rw[Rt];omega)
 rw[s.p,s.asked] at lp
 have em:m / t'.gap*t'.gap+m % t'.gap=m:=by rw[Rt];exact dm
 rw[em] at lp
 have rg:fE .rng1 [.int ((m % t'.gap:Nat):Int)]=some (upto 0 (m % t'.gap)):=by
  rw[jG]
  have c:((-100000<=(((m % t'.gap:Nat):Int)):Bool)&&(((m % t'.gap:Nat):Int)<=100000:Bool))=true:=by
   simp only[O5,decide_eq_true_eq];omega
  rw[if_pos c];rfl
 simp[-bI,-jG,-Int.natCast_ediv,-Int.natCast_emod,a.ob,uT,b,g.b.ob,g.b.li,rd,gz,g0,gm,e1,e2,ix,rg,gy,lp,fn]
end
end BT
end
section
namespace BT
open PySem
section
variable {T:FK->Option Fn}{G:Str->Option W}
theorem Av {h h':HH} (i:Nat) (hi:i < h.length) (ne:h'[i]?≠h[i]?) (w:W):fin h w h'=some (w,h'):=by
 unfold fin
 by_cases c:h'.length=h.length
 ·rw[if_pos c]
 ·rw[if_neg c,if_neg]
  intro z
  apply ne
  have q:=Rq (l:=h') hi
  rw[z] at q
  exact q.symm
noncomputable def Tp.new (p:Pg) (asked:List Int) (ev most:Nat):Tp:=⟨p,asked,ev,most,[St.zero],0,St.zero,0⟩
theorem Aw (P:TpP T G) (k:Nat) (p:Pg) (asked:List Int) (ev most:Nat) (hv:1<=ev) (h:HH) :
 runN T G (k+2) (.m "Tape" "__init__") [.o h.length,.p (bG p),.p (.lst (aa asked)),.p (.int ev),.p (.int most)] (h++[.o "Tape" []])=some (.p .non,h++[.o "Tape" ((Tp.new p asked ev most).fs (h.length+1)),.l [St.zero.enc]]):=by
 rw[run_eq P.init rfl]
 have b:=wX P.prg k
 have c0:(if (1:Int) > (ev:Int) then (1:Int) else (ev:Int))=(ev:Int):=if_neg (by omega)
 have c1:(if (0:Int) > (most:Int) then (0:Int) else (most:Int))=(most:Int):=if_neg (by omega)
 have f:∀ (c:Cl) (g:HH) (w:W),c≠.o "Tape" []->fin (h++[.o "Tape" []]) w (h++c :: g)=some (w,h++c :: g):=fun c g w hc=>by
  refine Av h.length (by simp) ?_ w
  simp
  exact hc
 have f2:=f (.o "Tape" ((Tp.new p asked ev most).fs (h.length+1))) [.l [St.zero.enc]] (.p .non) (by simp[Tp.fs])
 have fs:(Tp.new p asked ev most).fs (h.length+1)=([("program",.p (bG p)),("asked",.p (.lst (aa asked))),("gap",.p (.int ev)),("most",.p (.int most)),("kept",.r (h.length+1)),("farthest",.p (.int 0)),("front",.p St.zero.enc),("now",.p (.int 0))]:List (Str×W)):=by simp[Tp.fs,Tp.new]
 rw[fs] at f2 ⊢
 rw[cR]
 simp only[fy,Pe,Rc,Pk,P8]
 simp[c0,c1,b,f2]
theorem HM {p:Pg}{asked:List Int}{ev most e:Nat} (hp:Pg.ok p) (ha:Ask asked) (R:Run p asked most e) (h1:1<=ev) (h2:ev<=1000) (h3:most<=1000):TI (Tp.new p asked ev most) e ev :=
 ⟨R,hp,ha,h1,h2,h3,P0 _,rfl,by simp[Tp.new],by simp[Tp.new],fun j hj=>by
  have:j=0:=by simpa [Tp.new] using hj
  subst this
  simp[Tp.new,itr],P0 _,⟨0,by simp[Tp.new],fun z=>absurd z (QA _)⟩⟩
theorem HN (h:HH) (p:Pg) (asked:List Int) (ev most:Nat):TAt (h++[.o "Tape" ((Tp.new p asked ev most).fs (h.length+1)),.l [St.zero.enc]]) h.length (h.length+1) (Tp.new p asked ev most) :=
 ⟨by simp,by simp[Tp.new]⟩
theorem TAt.app {h g:HH}{n r:Nat}{t:Tp} (a:TAt h n r t):TAt (h++g) n r t:=⟨(uR (lR a.ob)).trans a.ob,(DE (sP a.li)).trans a.li⟩
end
end BT
end
section
namespace BT
open PySem
noncomputable def ffC:E:=(.not (.callv 2 "test" (.cons (.var 3 "state") .nil)))
noncomputable def ffB:S:=(.seq (.ife (.meth (.var 0 "self") "is_last" (.cons (.var 1 "moment") (.cons (.var 3 "state") .nil))) (.ret (.cst .non)) .nil)
 (.seq (.set 3 "state" (.meth (.var 0 "self") "behind" (.cons (.var 3 "state") .nil)))
 (.aug 1 "moment" .add (.cst (.int 1)))))
noncomputable def aN:Fn:=⟨["self","moment","test"],["self","moment","test","state"],
 (.seq (.set 3 "state" (.meth (.var 0 "self") "at" (.cons (.var 1 "moment") .nil)))
 (.seq (.whl ffC ffB)
 (.ret (.var 1 "moment"))))⟩
noncomputable def ltC:E:=(.and (.cmp .isN (.var 3 "found") (.cst .non)) (.cmp .ge (.var 1 "moment") (.cst (.int 0))))
noncomputable def ltB:S:=(.seq (.set 4 "mark" (.bin .sub (.var 1 "moment") (.bin .mod (.var 1 "moment") (.fld (.var 0 "self") "gap"))))
 (.seq (.set 3 "found" (.meth (.var 0 "self") "last_between" (.cons (.var 4 "mark") (.cons (.var 1 "moment") (.cons (.var 2 "test") .nil)))))
 (.set 1 "moment" (.bin .sub (.var 4 "mark") (.cst (.int 1))))))
noncomputable def bD:Fn:=⟨["self","moment","test"],["self","moment","test","found","mark"],
 (.seq (.ex (.meth (.var 0 "self") "check" (.cons (.var 1 "moment") .nil)))
 (.seq (.set 3 "found" (.cst .non))
 (.seq (.whl ltC ltB)
 (.ret (.var 3 "found")))))⟩
noncomputable def lbB:S:=(.seq (.ife (.cmp .gt (.var 6 "number") (.var 1 "mark")) (.set 4 "state" (.meth (.var 0 "self") "behind" (.cons (.var 4 "state") .nil))) .nil)
 (.ife (.callv 3 "test" (.cons (.var 4 "state") .nil)) (.set 5 "found" (.var 6 "number")) .nil))
noncomputable def aJ:Fn:=⟨["self","mark","moment","test"],["self","mark","moment","test","state","found","number"],
 (.seq (.set 4 "state" (.idx (.fld (.var 0 "self") "kept") (.bin .fdiv (.var 1 "mark") (.fld (.var 0 "self") "gap"))))
 (.seq (.set 5 "found" (.cst .non))
 (.seq (.for [(6,"number")] .rng2 (.cons (.var 1 "mark") (.cons (.bin .add (.var 2 "moment") (.cst (.int 1))) .nil)) lbB)
 (.ret (.var 5 "found")))))⟩
structure TpF (T:FK->Option Fn):Prop where
 first:T (.m "Tape" "first_from")=some aN
structure TpB (T:FK->Option Fn):Prop where
 last:T (.m "Tape" "last_to")=some bD
 betw:T (.m "Tape" "last_between")=some aJ
structure TpL (T:FK->Option Fn):Prop where
 f:TpF T
 b:TpB T
noncomputable def bU:Option Nat->D
 | none=>.non
 | some j=>.int j
@[simp] theorem HP:bU none=.non:=rfl
@[simp] theorem Ax (j:Nat):bU (some j)=.int j:=rfl
structure FF (g:Nat->Bool) (m e:Nat) (o:Option Nat):Prop where
 yes:∀ j,o=some j->m<=j/\j<=e/\g j=true/\∀ i,m<=i->i < j->g i=false
 no:o=none->∀ i,m<=i->i<=e->g i=false
structure FL (g:Nat->Bool) (a b:Nat) (o:Option Nat):Prop where
 yes:∀ j,o=some j->a<=j/\j<=b/\g j=true/\∀ i,j < i->i<=b->g i=false
 no:o=none->∀ i,a<=i->i<=b->g i=false
section
variable {T:FK->Option Fn}{G:Str->Option W}
noncomputable def Tst (T:FK->Option Fn) (G:Str->Option W) (n:Nat) (t:Tp) (q:FK) (cs:List Cp) (g:Nat->Bool) (e:Nat):Prop :=
 ∀ k h r t',TAt h n r t'->Sm8 t t'->∀ i,i<=e->runN T G (k+10) q (.p (itr t.p t.asked i).enc :: cs.map Cp.w) h=some (.p (.bl (g i)),h)
theorem DI (t:Tp) (r:Nat):aW "first_from" (t.fs r)=none:=bX t r rfl
theorem Ay (t:Tp) (r:Nat):aW "last_to" (t.fs r)=none:=bX t r rfl
theorem HQ (t:Tp) (r:Nat):aW "last_between" (t.fs r)=none:=bX t r rfl
theorem oZ {p:Pg}{asked:List Int}{most e:Nat} (R:Run p asked most e) {m:Nat} (h:m<=e):(decide (most<=m)||over p (itr p asked m))=decide (m=e):=by
 have le:=R.le
 by_cases c:m=e
 ·rw[decide_eq_true c]
  rcases R.last with z | z
  ·rw[decide_eq_true (by omega)];rfl
  ·rw[c,z,Bool.or_true]
 ·rw[decide_eq_false c,R.on m (by omega),decide_eq_false (by omega)];rfl
theorem DJ (P:TpP T G) (k:Nat) {n r:Nat}{t:Tp}{h:HH}{e ev:Nat} (a:TAt h n r t) (I:TI t e ev) {t0:Tp} (s0:Sm8 t0 t) {q:FK}{cs:List Cp}{g:Nat->Bool} (tt:Tst T G n t0 q cs g e):∀ (d f m:Nat),e - m=d->d < f->m<=e →
 ∃ o,FF g m e o/\(∀ j,o=some j->aU (BT.ev (runN T G (k+10)) G ffC) (evS (runN T G (k+10)) G ffB) f [some (.o n),some (.p (.int m)),some (.c q cs),some (.p (itr t.p t.asked m).enc)] h=some (.nx [some (.o n),some (.p (.int j)),some (.c q cs),some (.p (itr t.p t.asked j).enc)] h)) ∧
  (o=none->aU (BT.ev (runN T G (k+10)) G ffC) (evS (runN T G (k+10)) G ffB) f [some (.o n),some (.p (.int m)),some (.c q cs),some (.p (itr t.p t.asked m).enc)] h=some (.rt (.p .non) h)):=by
 intro d
 induction d with
 | zero =>
  intro f m hd hf hm
  have em:m=e:=by omega
  cases f with
  | zero=>omega
  | succ f =>
   have t1:=tt k h r t a s0 m hm
   rw[← s0.p,← s0.asked] at t1
   have ts:BT.ev (runN T G (k+10)) G ffC [some (.o n),some (.p (.int m)),some (.c q cs),some (.p (itr t.p t.asked m).enc)] h=some (.p (.bl (!g m)),h):=by
    simp[ffC,t1]
   cases gm:g m with
   | true =>
    rw[gm] at ts
    refine ⟨some m,⟨fun j e1=>by cases e1;exact ⟨O8 _,hm,gm,fun i h1 h2=>by omega⟩,fun z=>by cases z⟩,fun j e1=>?_,fun z=>by cases z⟩
    cases e1
    rw[aU,ts,TR,c6,gC]
   | false =>
    rw[gm] at ts
    refine ⟨none,⟨fun j e1=>(by cases e1),fun _ i h1 h2=>by rw[show i=m by omega];exact gm⟩,fun j e1=>(by cases e1),fun _=>?_⟩
    have il:=dO P (k+8) a m (itr t.p t.asked m)
    rw[oZ I.run hm,decide_eq_true em] at il
    have bd:evS (runN T G (k+10)) G ffB [some (.o n),some (.p (.int m)),some (.c q cs),some (.p (itr t.p t.asked m).enc)] h=some (.rt (.p .non) h):=by
     simp[ffB,a.ob,dX,il]
    rw[aU,ts,UM,c6,iO,bd,yK]
 | succ d ih =>
  intro f m hd hf hm
  cases f with
  | zero=>omega
  | succ f =>
   have t1:=tt k h r t a s0 m hm
   rw[← s0.p,← s0.asked] at t1
   have ts:BT.ev (runN T G (k+10)) G ffC [some (.o n),some (.p (.int m)),some (.c q cs),some (.p (itr t.p t.asked m).enc)] h=some (.p (.bl (!g m)),h):=by
    simp[ffC,t1]
   cases gm:g m with
   | true =>
    rw[gm] at ts
    refine ⟨some m,⟨fun j e1=>by cases e1;exact ⟨O8 _,hm,gm,fun i h1 h2=>by omega⟩,fun z=>by cases z⟩,fun j e1=>?_,fun z=>by cases z⟩
    cases e1
    rw[aU,ts,TR,c6,gC]
   | false =>
    rw[gm] at ts
    obtain ⟨o,F,y,nn⟩:=ih f (m+1) (by omega) (by omega) (by omega)
    have il:=dO P (k+8) a m (itr t.p t.asked m)
    rw[oZ I.run hm,decide_eq_false (by omega)] at il
    have le:=I.run.le
    have m1:=I.m1
    have bh:=eS P (k+3) a I.ok (j:=m) (st:=itr t.p t.asked m) (by omega) (fB I.ok I.ask I.run m hm) (I.run.on m (by omega))
    have s1:step t.p t.asked (itr t.p t.asked m)=itr t.p t.asked (m+1):=rfl
    rw[s1] at bh
    have em:(m:Int)+1=((m+1:Nat):Int):=by omega
    have bd:evS (runN T G (k+10)) G ffB [some (.o n),some (.p (.int m)),some (.c q cs),some (.p (itr t.p t.asked m).enc)] h=some (.nx [some (.o n),some (.p (.int ((m+1:Nat):Int))),some (.c q cs),some (.p (itr t.p t.asked (m+1)).enc)] h):=by
     simp[ffB,a.ob,dX,il,fR,bh]
    have wl:∀ z,aU (BT.ev (runN T G (k+10)) G ffC) (evS (runN T G (k+10)) G ffB) f [some (.o n),some (.p (.int ((m+1:Nat):Int))),some (.c q cs),some (.p (itr t.p t.asked (m+1)).enc)] h=z->aU (BT.ev (runN T G (k+10)) G ffC) (evS (runN T G (k+10)) G ffB) (f+1) [some (.o n),some (.p (.int m)),some (.c q cs),some (.p (itr t.p t.asked m).enc)] h=z:=fun z e1=>by
     rw[aU,ts,UM,c6,iO,bd,cK,e1]
    refine ⟨o,⟨fun j e1=>?_,fun z i h1 h2=>?_⟩,fun j e1=>wl _ (y j e1),fun z=>wl _ (nn z)⟩
    ·obtain ⟨q1,q2,q3,q4⟩:=F.yes j e1
     refine ⟨by omega,q2,q3,fun i h1 h2=>?_⟩
     by_cases c:i=m
     ·rw[c];exact gm
     ·exact q4 i (by omega) h2
    ·by_cases c:i=m
     ·rw[c];exact gm
     ·exact F.no z i (by omega) h2
theorem xm (P:TpP T G) (L:TpF T) (k:Nat) {n r:Nat}{t:Tp}{h:HH}{e ev:Nat} (a:TAt h n r t) (I:TI t e ev) {q:FK}{cs:List Cp}{g:Nat->Bool} (tt:Tst T G n t q cs g e) (m:Nat) (hm:m<=e) :
 ∃ o h' r' t',runN T G (k+12) (.m "Tape" "first_from") [.o n,.p (.int m),.c q cs] h=some (.p (bU o),h')/\FF g m e o/\Go n h r t h' r' t'/\TI t' e ev/\Sm8 t t':=by
 obtain ⟨h',r',t',b,g1,I',s,f⟩:=Au P k a I m hm
 have le:=I.run.le
 have m1:=I.m1
 obtain ⟨o,F,y,nn⟩:=DJ P (k+1) g1.b I' s tt (e - m) 100000 m rfl (by omega) hm
 refine ⟨o,h',r',t',?_,F,g1,I',s⟩
 rw[s.p,s.asked] at y nn
 rw[run_eq L.first rfl,aN]
 have fn:=fun w=>dR g1 w
 cases o with
 | none =>
  have w1:=nn rfl
  simp[a.ob,HL,b,turns,w1,fn]
 | some j =>
  have w1:=y j rfl
  simp[a.ob,HL,b,turns,w1,fn]
theorem lU (lo:Int) (q:Nat):upto lo (q+1)=.int lo :: upto (lo+1) q:=by
 unfold upto
 rw[RJ,Pe,QB]
 simp only[Int.natCast_zero,Int.add_zero,RU,true_and]
 apply QY
 intro i _
 simp;omega
theorem uV (P:TpP T G) (k:Nat) {n r:Nat}{t:Tp}{h:HH}{e ev:Nat} (A:TAt h n r t) (I:TI t e ev) {t0:Tp} (s0:Sm8 t0 t) {q:FK}{cs:List Cp}{g:Nat->Bool}{E:Nat} (tt:Tst T G n t0 q cs g E) (a:Nat) (w2:W):∀ (c j:Nat) (o:Option Nat) (x:Option W),a<=j->j+c<=e->j+c<=E->FL g a j o →
 ∃ o' x',bx (evS (runN T G (k+10)) G lbB) [(6,"number")] (upto ((j+1:Nat):Int) c) [some (.o n),some (.p (.int a)),some w2,some (.c q cs),some (.p (itr t.p t.asked j).enc),some (.p (bU o)),x] h =
  some (.nx [some (.o n),some (.p (.int a)),some w2,some (.c q cs),some (.p (itr t.p t.asked (j+c)).enc),some (.p (bU o')),x'] h)/\FL g a (j+c) o'
 | 0,j,o,x,_,_,_,F=>⟨o,x,rfl,F⟩
 | c+1,j,o,x,h1,h2,h2',F=>by
  have le:=I.run.le
  have m1:=I.m1
  have t1:=tt k h r t A s0 (j+1) (by omega)
  rw[← s0.p,← s0.asked] at t1
  have bh:=eS P (k+3) A I.ok (j:=j) (st:=itr t.p t.asked j) (by omega) (fB I.ok I.ask I.run j (by omega)) (I.run.on j (by omega))
  have s1:step t.p t.asked (itr t.p t.asked j)=itr t.p t.asked (j+1):=rfl
  rw[s1] at bh
  have gt:(a:Int) < ((j+1:Nat):Int):=by omega
  have F1:FL g a (j+1) (if g (j+1)=true then some (j+1) else o):=by
   by_cases c1:g (j+1)=true
   ·rw[if_pos c1]
    exact ⟨fun i e1=>by cases e1;exact ⟨by omega,O8 _,c1,fun i h3 h4=>by omega⟩,fun z=>by cases z⟩
   ·rw[if_neg c1]
    have c2:g (j+1)=false:=by simpa using c1
    refine ⟨fun i e1=>?_,fun z i h3 h4=>?_⟩
    ·obtain ⟨q1,q2,q3,q4⟩:=F.yes i e1
     refine ⟨q1,by omega,q3,fun i' h3 h4=>?_⟩
     by_cases c3:i'=j+1
     ·rw[c3];exact c2
     ·exact q4 i' h3 (by omega)
    ·by_cases c3:i=j+1
     ·rw[c3];exact c2
     ·exact F.no z i h3 (by omega)
  obtain ⟨o',x',b,F'⟩:=uV P k A I s0 tt a w2 c (j+1) _ (some (.p (.int ((j+1:Nat):Int)))) (by omega) (by omega) (by omega) F1
  have ej:j+1+c=j+(c+1):=by omega
  rw[ej] at b F'
  refine ⟨o',x',?_,F'⟩
  have bd:evS (runN T G (k+10)) G lbB [some (.o n),some (.p (.int a)),some w2,some (.c q cs),some (.p (itr t.p t.asked j).enc),some (.p (bU o)),some (.p (.int ((j+1:Nat):Int)))] h =
   some (.nx [some (.o n),some (.p (.int a)),some w2,some (.c q cs),some (.p (itr t.p t.asked (j+1)).enc),some (.p (bU (if g (j+1)=true then some (j+1) else o))),some (.p (.int ((j+1:Nat):Int)))] h):=by
   generalize hz:((j+1:Nat):Int)=z at gt
   have ez:∀ i:Nat,i=j+1->(D.int (i:Int))=D.int z:=fun i e1=>by rw[e1,hz]
   cases g1:g (j+1) with
   | true =>
    rw[g1] at t1
    simp[lbB,gt,A.ob,fR,bh,t1,hz]
   | false =>
    rw[g1] at t1
    simp[lbB,gt,A.ob,fR,bh,t1]
  have e1:((j+1:Nat):Int)+1=((j+1+1:Nat):Int):=by omega
  rw[lU,e1]
  have st:∀ (d:D) (l:List D) (s':Sl) (w:Option W),bx (evS (runN T G (k+10)) G lbB) [(6,"number")] (d :: l) [some (.o n),some (.p (.int a)),some w2,some (.c q cs),some (.p (itr t.p t.asked j).enc),some (.p (bU o)),w] h =
   gj (evS (runN T G (k+10)) G lbB [some (.o n),some (.p (.int a)),some w2,some (.c q cs),some (.p (itr t.p t.asked j).enc),some (.p (bU o)),some (.p d)] h) (bx (evS (runN T G (k+10)) G lbB) [(6,"number")] l):=fun d l s' w=>rfl
  rw[st _ _ [] x,bd,cK,b]
theorem Az (P:TpP T G) (L:TpB T) (k:Nat) {n r:Nat}{t:Tp}{h:HH}{e ev:Nat} (A:TAt h n r t) (I:TI t e ev) {t0:Tp} (s0:Sm8 t0 t) {q:FK}{cs:List Cp}{g:Nat->Bool}{E:Nat} (tt:Tst T G n t0 q cs g E) (a m:Nat) (h1:a<=m) (h2:m<=t.far) (hE:m<=E) (h3:a % t.gap=0) :
 ∃ o,runN T G (k+11) (.m "Tape" "last_between") [.o n,.p (.int a),.p (.int m),.c q cs] h=some (.p (bU o),h)/\FL g a m o:=by
 have le:=I.run.le
 have m1:=I.m1
 have fr:=I.far
 have g0:=I.g0
 have g1':=I.g1
 have t1:=tt k h r t A s0 a (by omega)
 rw[← s0.p,← s0.asked] at t1
 have F0:FL g a a (if g a=true then some a else none):=by
  by_cases c:g a=true
  ·rw[if_pos c];exact ⟨fun i e1=>by cases e1;exact ⟨O8 _,O8 _,c,fun i h3 h4=>by omega⟩,fun z=>by cases z⟩
  ·rw[if_neg c];exact ⟨fun i e1=>(by cases e1),fun _ i h3 h4=>by rw[show i=a by omega];simpa using c⟩
 obtain ⟨o,x',b,F⟩:=uV P k A I s0 tt a (.p (.int m)) (m - a) a _ (some (.p (.int (a:Int)))) (O8 _) (by omega) (by omega) F0
 rw[show a+(m - a)=m by omega] at b F
 refine ⟨o,?_,F⟩
 rw[run_eq L.betw rfl,aJ]
 have hq:a / t.gap < t.kept.length:=by
  rw[I.len]
  have:a / t.gap<=t.far / t.gap:=Tf (by omega)
  omega
 have hk:=I.kept _ hq
 have ea:a / t.gap*t.gap=a:=Nat.div_mul_cancel (Nat.dvd_of_mod_eq_zero h3)
 rw[ea] at hk
 have e1:(a:Int) / (t.gap:Int)=((a / t.gap:Nat):Int):=by simp
 have ix:aL (.lst (t.kept.map St.enc)) (.int ((a / t.gap:Nat):Int))=some (itr t.p t.asked a).enc:=by
  show atP _ _=_
  rw[iy,Px,hk];rfl
 have gz:(0:Int) < (t.gap:Int):=by omega
 have gm:(t.gap:Int) < 1073741824:=by omega
 have rg:fE .rng2 [.int (a:Int),.int ((m:Int)+1)]=some (.int (a:Int) :: upto ((a+1:Nat):Int) (m - a)):=by
  rw[fL]
  have c:((-100000<=(a:Int):Bool)&&((a:Int)<=100000:Bool)&&((-100000<=(m:Int)+1:Bool))&&(((m:Int)+1<=100000:Bool)))=true:=by
   simp only[O5,decide_eq_true_eq];omega
  rw[if_pos c,show ((m:Int)+1 - (a:Int)).toNat=(m - a)+1 by omega,lU]
  rfl
 have bd:evS (runN T G (k+10)) G lbB [some (.o n),some (.p (.int a)),some (.p (.int m)),some (.c q cs),some (.p (itr t.p t.asked a).enc),some (.p .non),some (.p (.int (a:Int)))] h =
  some (.nx [some (.o n),some (.p (.int a)),some (.p (.int m)),some (.c q cs),some (.p (itr t.p t.asked a).enc),some (.p (bU (if g a=true then some a else none))),some (.p (.int (a:Int)))] h):=by
  cases g1:g a with
  | true=>rw[g1] at t1;simp[lbB,t1]
  | false=>rw[g1] at t1;simp[lbB,t1]
 have st:∀ (d:D) (l:List D) (w:Option W),bx (evS (runN T G (k+10)) G lbB) [(6,"number")] (d :: l) [some (.o n),some (.p (.int a)),some (.p (.int m)),some (.c q cs),some (.p (itr t.p t.asked a).enc),some (.p .non),w] h =
  gj (evS (runN T G (k+10)) G lbB [some (.o n),some (.p (.int a)),some (.p (.int m)),some (.c q cs),some (.p (itr t.p t.asked a).enc),some (.p .non),some (.p d)] h) (bx (evS (runN T G (k+10)) G lbB) [(6,"number")] l):=fun d l w=>rfl
 have lp:bx (evS (runN T G (k+10)) G lbB) [(6,"number")] (.int (a:Int) :: upto ((a+1:Nat):Int) (m - a)) [some (.o n),some (.p (.int a)),some (.p (.int m)),some (.c q cs),some (.p (itr t.p t.asked a).enc),some (.p .non),none] h=some (.nx [some (.o n),some (.p (.int a)),some (.p (.int m)),some (.c q cs),some (.p (itr t.p t.asked m).enc),some (.p (bU o)),x'] h):=by
  rw[st,bd,cK,b]
 generalize upto ((a+1:Nat):Int) (m - a)=ll at rg lp
 simp[-bI,-fL,-Int.natCast_ediv,A.ob,A.li,rd,gz,g0,gm,e1,ix,rg,gy,-bx,lp,af]
theorem uW (P:TpP T G) (L:TpB T) (k:Nat) {n r:Nat}{t:Tp}{h:HH}{e ev:Nat} (A:TAt h n r t) (I:TI t e ev) {t0:Tp} (s0:Sm8 t0 t) {q:FK}{cs:List Cp}{g:Nat->Bool}{E:Nat} (tt:Tst T G n t0 q cs g E) (M:Nat) (hM:M<=t.far) (hE:M<=E):∀ (f mm:Nat) (o:Option Nat) (x:Option W),mm < f->mm<=M+1 →
 (o=none->∀ i,mm<=i->i<=M->g i=false)->(∀ j,o=some j->FL g 0 M (some j)) →
 ∃ o' y x',aU (BT.ev (runN T G (k+11)) G ltC) (evS (runN T G (k+11)) G ltB) f [some (.o n),some (.p (.int ((mm:Int) - 1))),some (.c q cs),some (.p (bU o)),x] h=some (.nx [some (.o n),y,some (.c q cs),some (.p (bU o')),x'] h)/\FL g 0 M o'
 | 0,mm,o,x,hf,_,_,_=>absurd hf (S7 _)
 | f+1,mm,some j,x,hf,hm,i1,i2=>by
  refine ⟨some j,some (.p (.int ((mm:Int) - 1))),x,?_,i2 j rfl⟩
  have ts:BT.ev (runN T G (k+11)) G ltC [some (.o n),some (.p (.int ((mm:Int) - 1))),some (.c q cs),some (.p (bU (some j))),x] h=some (.p (.bl false),h):=by simp[ltC]
  rw[aU,ts,c6,gC]
 | f+1,0,none,x,hf,hm,i1,i2=>by
  refine ⟨none,some (.p (.int (((0:Nat):Int) - 1))),x,?_,⟨fun j z=>(by cases z),fun _ i h1 h2=>i1 rfl i h1 h2⟩⟩
  have ts:BT.ev (runN T G (k+11)) G ltC [some (.o n),some (.p (.int (((0:Nat):Int) - 1))),some (.c q cs),some (.p (bU none)),x] h=some (.p (.bl false),h):=by simp[ltC]
  rw[aU,ts,c6,gC]
 | f+1,m+1,none,x,hf,hm,i1,i2=>by
  have e0:((m+1:Nat):Int) - 1=(m:Int):=by omega
  rw[e0]
  have ts:BT.ev (runN T G (k+11)) G ltC [some (.o n),some (.p (.int (m:Int))),some (.c q cs),some (.p (bU none)),x] h=some (.p (.bl true),h):=by simp[ltC]
  have g0:=I.g0
  have dm:=S9 m t.gap
  have md:=Td m g0
  have mk:(m - m % t.gap) % t.gap=0:=by
   have:m - m % t.gap=t.gap*(m / t.gap):=by omega
   rw[this];exact Nat.mul_mod_right _ _
  obtain ⟨o1,b1,F1⟩:=Az P L k A I s0 tt (m - m % t.gap) m (by omega) (by omega) (by omega) mk
  have hmm:m % t.gap<=m:=Nat.mod_le _ _
  have em:(m:Int) - (m:Int) % (t.gap:Int)=((m - m % t.gap:Nat):Int):=by
   have:(m:Int) % (t.gap:Int)=((m % t.gap:Nat):Int):=by simp
   rw[this];omega
  have gz:(0:Int) < (t.gap:Int):=by omega
  have bd:evS (runN T G (k+11)) G ltB [some (.o n),some (.p (.int (m:Int))),some (.c q cs),some (.p (bU none)),x] h=some (.nx [some (.o n),some (.p (.int (((m - m % t.gap:Nat):Int) - 1))),some (.c q cs),some (.p (bU o1)),some (.p (.int ((m - m % t.gap:Nat):Int)))] h):=by
   generalize hz:((m - m % t.gap:Nat):Int)=z at b1 em
   simp[ltB,A.ob,gz,g0,em,HQ,b1]
  obtain ⟨o',y,x',b2,F2⟩:=uW P L k A I s0 tt M hM hE f (m - m % t.gap) o1 (some (.p (.int ((m - m % t.gap:Nat):Int)))) (by omega) (by omega) (fun z i h1 h2=>by
   by_cases c:i<=m
   ·exact F1.no z i h1 c
   ·exact i1 rfl i (by omega) h2) (fun j z=>by
   obtain ⟨q1,q2,q3,q4⟩:=F1.yes j z
   refine ⟨fun j' z'=>?_,fun z'=>by cases z'⟩
   cases z'
   refine ⟨P0 _,by omega,q3,fun i h1 h2=>?_⟩
   by_cases c:i<=m
   ·exact q4 i h1 c
   ·exact i1 rfl i (by omega) h2)
  refine ⟨o',y,x',?_,F2⟩
  rw[aU,ts,c6,iO,bd,cK,b2]
theorem AA (P:TpP T G) (L:TpB T) (k:Nat) {n r:Nat}{t:Tp}{h:HH}{e ev:Nat} (a:TAt h n r t) (I:TI t e ev) {q:FK}{cs:List Cp}{g:Nat->Bool}{E:Nat} (tt:Tst T G n t q cs g E) (m:Nat) (hm:m<=e) (hE:m<=E) :
 ∃ o h' r' t',runN T G (k+12) (.m "Tape" "last_to") [.o n,.p (.int m),.c q cs] h=some (.p (bU o),h')/\FL g 0 m o/\Go n h r t h' r' t'/\TI t' e ev/\Sm8 t t':=by
 obtain ⟨h',r',t',b,g1,I',s,f⟩:=nI P (k+1) a I m hm
 have le:=I.run.le
 have m1:=I.m1
 obtain ⟨o,y,x',w1,F⟩:=uW P L k g1.b I' s tt m (by omega) hE 100000 (m+1) none none (by omega) (O8 _) (fun _ i h1 h2=>by omega) (fun j z=>by cases z)
 refine ⟨o,h',r',t',?_,F,g1,I',s⟩
 rw[run_eq L.last rfl,bD]
 have fn:=fun w=>dR g1 w
 have e0:((m+1:Nat):Int) - 1=(m:Int):=by omega
 rw[e0] at w1
 simp only[HP] at w1
 simp[a.ob,uT,b,turns,w1,fn]
structure TpE (T:FK->Option Fn):Prop where
 end_:T (.m "Tape" "end")=some dM
theorem AB (P:TpP T G) (M:TpE T) (k:Nat) {n r:Nat}{t:Tp}{h:HH}{e ev:Nat} (a:TAt h n r t) (I:TI t e ev) :
 ∃ h' r' t',runN T G (k+9) (.m "Tape" "end") [.o n] h=some (.p (.int e),h')/\Go n h r t h' r' t'/\TI t' e ev/\Sm8 t t'/\t'.far=e:=by
 obtain ⟨h',r',t',b,g,I',s,f⟩:=nH P k a I t.most
 have le:=I.run.le
 have fr:=I.far
 have fe:t'.far=e:=by omega
 refine ⟨h',r',t',?_,g,I',s,fe⟩
 rw[run_eq M.end_ rfl]
 have fn:=fun w=>dR g w
 simp[dM,a.ob,uS,b,g.b.ob,fe,fn]
end
end BT
end
section
namespace BT
open PySem
noncomputable def eU:Fn:=⟨["thing"],["thing"],
 (.ret (.and (.call "is_whole" (.cons (.var 0 "thing") .nil)) (.chain .le .lt (.cst (.int 0)) (.var 0 "thing") (.glo "CELL_COUNT"))))⟩
noncomputable def aZ:Fn:=⟨["thing"],["thing"],
 (.ife (.and (.not (.call "is_name" (.cons (.var 0 "thing") .nil))) (.not (.call "is_cell" (.cons (.var 0 "thing") .nil)))) .bad .nil)⟩
noncomputable def dP:Fn:=⟨["tape","moment","thing"],["tape","moment","thing"],
 (.ret (.call "worth_in" (.cons (.meth (.var 0 "tape") "at" (.cons (.var 1 "moment") .nil)) (.cons (.var 2 "thing") .nil))))⟩
noncomputable def aO:Fn:=⟨["tape","moment","thing"],["tape","moment","thing","worth","other","<last_change>"],
 (.seq (.set 3 "worth" (.call "worth_at" (.cons (.var 0 "tape") (.cons (.var 1 "moment") (.cons (.var 2 "thing") .nil)))))
 (.seq (.set 4 "other" (.methL (.var 0 "tape") "last_to" (.cons (.var 1 "moment") .nil) 1 [(2,"thing"),(3,"worth")]))
 (.ret (.ite (.cmp .isN (.var 4 "other") (.cst .non)) (.cst .non) (.bin .add (.var 4 "other") (.cst (.int 1)))))))⟩
structure ThP (T:FK->Option Fn):Prop where
 is_cell:T "is_cell"=some eU
 check:T "check_thing"=some aZ
structure LcP (T:FK->Option Fn):Prop where
 worth_at:T "worth_at"=some dP
 last_change:T "last_change"=some aO
 l1:T (.l 1)=some Cj
inductive Th where
 | nm (x:Nm) | cl (i:Nat) (h:i < 4)
noncomputable def Th.enc:Th->D
 | .nm x=>.str x.w
 | .cl i _=>.int i
noncomputable def Th.val (st:St):Th->Int
 | .nm x=>st.names.getD x.ix 0
 | .cl i _=>st.cells.getD i 0
noncomputable def wb (st:St):Rw->Option Th
 | .set x _=>some (.nm x)
 | .ask x=>some (.nm x)
 | .put s _=>some (.cl (s.val st % 4).toNat (by omega))
 | _=>none
section
variable {T:FK->Option Fn}{G:Str->Option W}
theorem iH (P:Prg T G) (k:Nat) (i:Int) (h:HH):runN T G (k+1) "is_name" [.p (.int i)] h=some (.p (.bl false),h):=by
 rw[run_eq P.is_name rfl]
 simp[c9,P.LETTERS,af]
theorem qQ (P:TpP T G) (C:ThP T) (k:Nat) {i:Nat} (hi:i < 4) (h:HH):runN T G (k+2) "is_cell" [.p (.int i)] h=some (.p (.bl true),h):=by
 rw[run_eq C.is_cell rfl]
 have w:=jq P k i h
 have c:(i:Int) < 4:=by omega
 have c0:(0:Int)<=(i:Int):=by omega
 simp[eU,w,P.prg.CELL_COUNT,c,c0,af]
theorem ko (P:TpP T G) (C:ThP T) (k:Nat) (th:Th) (h:HH):runN T G (k+3) "check_thing" [.p th.enc] h=some (.p .non,h):=by
 rw[run_eq C.check rfl]
 cases th with
 | nm x =>
  have n:=j6 P.prg (k+1) x h
  simp[aZ,Th.enc,n,af]
 | cl i hi =>
  have n:=iH P.prg (k+1) i h
  have c:=qQ P C k hi h
  simp[aZ,Th.enc,n,c,af]
theorem dD (P:TpP T G) (C:ThP T) (k:Nat) {st:St} (ho:st.ok) (th:Th) (h:HH):runN T G (k+4) "worth_in" [.p st.enc,.p th.enc] h=some (.p (.int (th.val st)),h):=by
 cases th with
 | nm x=>exact jn P.prg (k+2) st ho x h
 | cl i hi =>
  rw[run_eq P.prg.worth_in rfl]
  have n:=iH P.prg (k+2) i h
  have c:=ko P C k (.cl i hi) h
  have ix:aL (.tup (aa st.cells)) (.int (i:Int))=some (.int (st.cells.getD i 0)):=by
   show atP _ _=_
   rw[iy]
   have:i < st.cells.length:=by rw[ho.clen];exact hi
   simp[aa,O9 this]
  have i2:aL st.enc (.int 2)=some (.tup (aa st.cells)):=rfl
  simp only[Th.enc] at c
  simp[-nX,cE,Th.enc,Th.val,n,c,P.prg.CELLS,i2,ix,af]
noncomputable def jr:Option Nat->D
 | none=>.non
 | some j=>.int ((j:Int)+1)
@[simp] theorem NS:jr none=.non:=rfl
@[simp] theorem AC (j:Nat):jr (some j)=.int ((j:Int)+1):=rfl
noncomputable def gc (t:Tp) (th:Th) (w:Int):Nat->Bool:=fun i=>!(th.val (itr t.p t.asked i)==w)
theorem uX {t t':Tp} (s:Sm8 t t') (th:Th) (w:Int):gc t' th w=gc t th w:=by unfold gc;rw[s.p,s.asked]
theorem gf (P:TpP T G) (C:ThP T) (Lc:LcP T) (k:Nat) {n r:Nat}{t:Tp}{h:HH}{e ev:Nat} (a:TAt h n r t) (I:TI t e ev) (th:Th) (m:Nat) (hm:m<=e) :
 ∃ h' r' t',runN T G (k+12) "worth_at" [.o n,.p (.int m),.p th.enc] h=some (.p (.int (th.val (itr t.p t.asked m))),h')/\Go n h r t h' r' t'/\TI t' e ev/\Sm8 t t':=by
 obtain ⟨h1,r1,t1,b1,g1,I1,s1,f1⟩:=Au P k a I m hm
 have b2:=dD P C (k+7) (fB I.ok I.ask I.run m hm).ok th h1
 refine ⟨h1,r1,t1,?_,g1,I1,s1⟩
 rw[run_eq Lc.worth_at rfl]
 have fn:=fun w=>dR g1 w
 simp[dP,a.ob,HL,b1,b2,fn]
theorem NT (P:TpP T G) (C:ThP T) (Lc:LcP T) {n:Nat}{t:Tp}{e ev:Nat} (I:TI t e ev) (th:Th) (w:Int):Tst T G n t (.l 1) [.p th.enc,.p (.int w)] (gc t th w) e:=fun k h r t' a s i hi=>by
 rw[run_eq (k:=k+9) Lc.l1 rfl]
 have b2:=dD P C (k+5) (fB I.ok I.ask I.run i hi).ok th h
 simp[Cj,b2,af,gc]
theorem kq (P:TpP T G) (L:TpB T) (C:ThP T) (Lc:LcP T) (k:Nat) {n r:Nat}{t:Tp}{h:HH}{e ev:Nat} (a:TAt h n r t) (I:TI t e ev) (th:Th) (m:Nat) (hm:m<=e) :
 ∃ o h' r' t',runN T G (k+13) "last_change" [.o n,.p (.int m),.p th.enc] h=some (.p (jr o),h')/\FL (gc t th (th.val (itr t.p t.asked m))) 0 m o/\Go n h r t h' r' t'/\TI t' e ev/\Sm8 t t':=by
 obtain ⟨h1,r1,t1,b1,g1,I1,s1⟩:=gf P C Lc k a I th m hm
 have tt:=NT (n:=n) P C Lc I1 th (th.val (itr t.p t.asked m))
 rw[uX s1] at tt
 obtain ⟨o,h2,r2,t2,b2,F,g2,I2,s2⟩:=AA P L k g1.b I1 tt m hm hm
 have G2:=g1.trans g2
 refine ⟨o,h2,r2,t2,?_,F,G2,I2,s1.trans s2⟩
 rw[run_eq Lc.last_change rfl]
 have fn:=fun w=>dR G2 w
 cases o with
 | none=>simp[aO,b1,g1.b.ob,Ay,b2,fn]
 | some j=>simp[aO,b1,g1.b.ob,Ay,b2,fn]
end
end BT
end
section
namespace BT
open PySem
noncomputable def rdC:E:=(.not (.meth (.var 0 "self") "is_last" (.cons (.bin .sub (.bi .len false (.cons (.var 3 "told") .nil)) (.cst (.int 1))) (.cons (.var 2 "state") .nil))))
noncomputable def rdB:S:=(.seq (.set 2 "state" (.meth (.var 0 "self") "behind" (.cons (.var 2 "state") .nil)))
 (.ex (.me .append (.var 3 "told") (.cons (.callv 1 "reader" (.cons (.var 2 "state") .nil)) .nil))))
noncomputable def bf:Fn:=⟨["self","reader"],["self","reader","state","told"],
 (.seq (.set 2 "state" (.idx (.fld (.var 0 "self") "kept") (.cst (.int 0))))
 (.seq (.set 3 "told" (.lst true (.cons (.callv 1 "reader" (.cons (.var 2 "state") .nil)) .nil)))
 (.seq (.whl rdC rdB)
 (.ret (.var 3 "told")))))⟩
structure TpR (T:FK->Option Fn):Prop where
 readings:T (.m "Tape" "readings")=some bf
section
variable {T:FK->Option Fn}{G:Str->Option W}
theorem sR (t:Tp) (r:Nat):aW "readings" (t.fs r)=none:=bX t r rfl
noncomputable def Rdg (T:FK->Option Fn) (G:Str->Option W) (n:Nat) (t:Tp) (q:FK) (cs:List Cp) (f:Nat->D) (e:Nat):Prop :=
 ∀ k h r t',TAt h n r t'->Sm8 t t'->∀ i,i<=e->runN T G (k+10) q (.p (itr t.p t.asked i).enc :: cs.map Cp.w) h=some (.p (f i),h)
noncomputable def each (f:Nat->D) (e:Nat):List D:=(Pr (e+1)).map f
theorem jt (f:Nat->D) (e:Nat):(each f e).length=e+1:=by simp[each]
theorem xo (f:Nat->D) (e:Nat):each f (e+1)=each f e++[f (e+1)]:=by
 unfold each
 rw[List.range_succ (n:=e+1),Rz];rfl
theorem uY (f:Nat->D) {e i:Nat} (h:i<=e):(each f e)[i]?=some (f i):=by
 unfold each
 rw[Px,Si (by omega)];rfl
theorem DK (P:TpP T G) (k:Nat) {n r:Nat}{t:Tp}{h:HH}{e ev:Nat} (a:TAt h n r t) (I:TI t e ev) {q:FK}{cs:List Cp}{f:Nat->D} (tt:Rdg T G n t q cs f e):∀ (d u m:Nat),e - m=d->d < u->m<=e →
 aU (BT.ev (runN T G (k+10)) G rdC) (evS (runN T G (k+10)) G rdB) u [some (.o n),some (.c q cs),some (.p (itr t.p t.asked m).enc),some (.r h.length)] (h++[.l (each f m)]) =
  some (.nx [some (.o n),some (.c q cs),some (.p (itr t.p t.asked e).enc),some (.r h.length)] (h++[.l (each f e)])):=by
 intro d
 induction d with
 | zero =>
  intro u m hd hu hm
  have em:m=e:=by omega
  subst em
  cases u with
  | zero=>omega
  | succ u =>
   have A:=a.app (g:=[.l (each f m)])
   have il:=dO P (k+8) A m (itr t.p t.asked m)
   rw[oZ I.run hm,decide_eq_true rfl] at il
   have l1:(((each f m).length:Nat):Int) - 1=(m:Int):=by rw[jt];omega
   have ts:BT.ev (runN T G (k+10)) G rdC [some (.o n),some (.c q cs),some (.p (itr t.p t.asked m).enc),some (.r h.length)] (h++[.l (each f m)])=some (.p (.bl false),h++[.l (each f m)]):=by
    simp[rdC,A.ob,dX,rd,l1,il]
   rw[aU,ts,c6,gC]
 | succ d ih =>
  intro u m hd hu hm
  cases u with
  | zero=>omega
  | succ u =>
   have A:=a.app (g:=[.l (each f m)])
   have il:=dO P (k+8) A m (itr t.p t.asked m)
   rw[oZ I.run hm,decide_eq_false (by omega)] at il
   have l1:(((each f m).length:Nat):Int) - 1=(m:Int):=by rw[jt];omega
   have ts:BT.ev (runN T G (k+10)) G rdC [some (.o n),some (.c q cs),some (.p (itr t.p t.asked m).enc),some (.r h.length)] (h++[.l (each f m)])=some (.p (.bl true),h++[.l (each f m)]):=by
    simp[rdC,A.ob,dX,rd,l1,il]
   have le:=I.run.le
   have m1:=I.m1
   have bh:=eS P (k+3) A I.ok (j:=m) (st:=itr t.p t.asked m) (by omega) (fB I.ok I.ask I.run m hm) (I.run.on m (by omega))
   have s1:step t.p t.asked (itr t.p t.asked m)=itr t.p t.asked (m+1):=rfl
   rw[s1] at bh
   have t1:=tt k (h++[.l (each f m)]) r t A (.refl t) (m+1) (by omega)
   have l2:(each f m).length < 100000:=by rw[jt];omega
   have bd:evS (runN T G (k+10)) G rdB [some (.o n),some (.c q cs),some (.p (itr t.p t.asked m).enc),some (.r h.length)] (h++[.l (each f m)])=some (.nx [some (.o n),some (.c q cs),some (.p (itr t.p t.asked (m+1)).enc),some (.r h.length)] (h++[.l (each f (m+1))])):=by
    simp[rdB,A.ob,fR,bh,t1,l2,xo]
   rw[aU,ts,c6,iO,bd,cK]
   exact ih u (m+1) (by omega) (by omega) (by omega)
theorem o9 (P:TpP T G) (Q:TpR T) (k:Nat) {n r:Nat}{t:Tp}{h:HH}{e ev:Nat} (a:TAt h n r t) (I:TI t e ev) {q:FK}{cs:List Cp}{f:Nat->D} (tt:Rdg T G n t q cs f e) :
 runN T G (k+11) (.m "Tape" "readings") [.o n,.c q cs] h=some (.p (.lst (each f e)),h):=by
 have le:=I.run.le
 have m1:=I.m1
 have k0:0 < t.kept.length:=by rw[I.len];exact Nat.succ_pos _
 have hk:=I.kept 0 k0
 rw[Nat.zero_mul] at hk
 have ix:aL (.lst (t.kept.map St.enc)) (.int 0)=some (itr t.p t.asked 0).enc:=by
  show atP _ ((0:Nat):Int)=_
  rw[iy,Px,hk];rfl
 have t0:=tt k h r t a (.refl t) 0 (P0 _)
 have lp:=DK P k a I tt (e - 0) 100000 0 rfl (by omega) (P0 _)
 have e0:each f 0=[f 0]:=rfl
 rw[e0] at lp
 rw[run_eq Q.readings rfl,bf]
 simp[-bI,a.ob,a.li,rd,ix,t0,turns,lp,EM]
end
end BT
end
section
namespace BT
open PySem
noncomputable def bM:Fn:=⟨["tape","thing"],["tape","thing","<worths_of>"],
 (.ret (.methL (.var 0 "tape") "readings" .nil 0 [(1,"thing")]))⟩
noncomputable def chC:E:=(.cmp .ne (.idx (.var 1 "worths") (.var 0 "moment")) (.idx (.var 1 "worths") (.bin .sub (.var 0 "moment") (.cst (.int 1)))))
noncomputable def chE:E:=(.comp false .rng2 (.cons (.cst (.int 1)) (.cons (.bi .len false (.cons (.var 2 "worths") .nil)) .nil)) ["moment"] [(2,"worths")] (.cons chC .nil) (.var 0 "moment"))
noncomputable def eV:Fn:=⟨["tape","thing"],["tape","thing","worths"],
 (.seq (.set 2 "worths" (.call "worths_of" (.cons (.var 0 "tape") (.cons (.var 1 "thing") .nil))))
 (.ret chE))⟩
noncomputable def spB:S:=(.putd 2 "counts" (.var 3 "worth") (.bin .add (.dgt (.var 2 "counts") (.var 3 "worth") (.cst (.int 0))) (.cst (.int 1))))
noncomputable def fS:Fn:=⟨["tape","thing"],["tape","thing","counts","worth"],
 (.seq (.set 2 "counts" .dnew)
 (.seq (.for [(3,"worth")] .seq (.cons (.call "worths_of" (.cons (.var 0 "tape") (.cons (.var 1 "thing") .nil))) .nil) spB)
 (.ret (.dsi (.var 2 "counts")))))⟩
structure ChP (T:FK->Option Fn):Prop where
 worths_of:T "worths_of"=some bM
 changes:T "changes"=some eV
 l0:T (.l 0)=some Ci
structure SpP (T:FK->Option Fn):Prop where
 spread:T "spread"=some fS
theorem ju {F:FK->List W->HH->Option (W×HH)}{G:Str->Option W}{sr:Sr}{sa:Es}{tg:List Str}{fv:List (Nat×Str)}{cond:Es}{elt:E}{s:Sl}{h h1 h2:HH}{ws:List W}{ds xs:List D}{fs:Sl} (e1:evs F G sa s h=some (ws,h1)) (e2:(rds ws h1).bind (fE sr)=some ds) (e3:frees s fv=some fs) (e4:gy ws=true) (e5:aS (cU (evs F G cond) (BT.ev F G elt) fs) tg.length ds h1=some (xs,h2)) (e6:xs.length<=100000):BT.ev F G (.comp false sr sa tg fv cond elt) s h=some (.p (.lst xs),h2):=by
 rw[BT.ev,e1,aQ]
 unfold yH
 rw[e2,e3]
 show (if gy ws=true then _ else _)=_
 rw[if_pos e4,e5,aQ]
 unfold k9
 rw[if_pos (show xs.length<=lim from e6)];rfl
theorem AD {α:Type} (f:List D->HH->Option (Option D×HH)) (mk:α->D) (g:α->Option D) (h:HH):∀ (l:List α),(∀ x∈l,f [mk x] h=some (g x,h))->aS f 1 (l.map mk) h=some (l.filterMap g,h):=by
 intro l
 induction l with
 | nil=>intro _;rfl
 | cons x r ih =>
  intro hf
  rw[Pe,aS,gx]
  show bnd (f [mk x] h) (v7 (aS f 1 (r.map mk)))=_
  rw[hf x Pf,aQ,nZ,ih fun y hy=>hf y (Pb _ hy),aQ,k8,PF]
  cases g x<;>rfl
theorem HR {α:Type} (f:List D->HH->Option (Option D×HH)) (mk:α->D) (g:α->Option D) (Iv:HH->Prop):∀ (l:List α),(∀ x∈l,∀ h,Iv h->∃ h',f [mk x] h=some (g x,h')/\Iv h')->∀ h,Iv h->∃ h',aS f 1 (l.map mk) h=some (l.filterMap g,h')/\Iv h':=by
 intro l
 induction l with
 | nil=>intro _ h hi;exact ⟨h,rfl,hi⟩
 | cons x r ih =>
  intro hf h hi
  obtain ⟨h1,e1,i1⟩:=hf x Pf h hi
  obtain ⟨h2,e2,i2⟩:=ih (fun y hy=>hf y (Pb _ hy)) h1 i1
  refine ⟨h2,?_,i2⟩
  rw[Pe,aS,gx]
  show bnd (f [mk x] h) (v7 (aS f 1 (r.map mk)))=_
  rw[e1,aQ,nZ,e2,aQ,k8,PF]
  cases g x<;>rfl
theorem DL {α β:Type} (p:α->Bool) (m:α->β) (l:List α):l.filterMap (fun x=>if p x=true then some (m x) else none)=(l.filter p).map m:=by
 induction l with
 | nil=>rfl
 | cons x r ih =>
  rw[PF,List.filter_cons]
  cases p x with
  | true=>simp[ih]
  | false=>simp[ih]
noncomputable def wv (t:Tp) (th:Th) (i:Nat):Int:=th.val (itr t.p t.asked i)
theorem ET {t t':Tp} (s:Sm8 t t') (th:Th):wv t' th=wv t th:=by funext i;unfold wv;rw[s.p,s.asked]
noncomputable def wvD (t:Tp) (th:Th) (i:Nat):D:=.int (wv t th i)
noncomputable def chl (v:Nat->Int) (e:Nat):List Nat:=(Pr e).filter fun k=>decide (v (k+1)≠v k)
noncomputable def chD (v:Nat->Int) (e:Nat):List D:=(chl v e).map fun (k:Nat)=>.int ((k:Int)+1)
section
variable {T:FK->Option Fn}{G:Str->Option W}
theorem NU (P:TpP T G) (C:ThP T) (Q:ChP T) {n:Nat}{t:Tp}{e ev:Nat} (I:TI t e ev) (th:Th):Rdg T G n t (.l 0) [.p th.enc] (wvD t th) e:=fun k h r t' a s i hi=>by
 rw[run_eq (k:=k+9) Q.l0 rfl]
 have b2:=dD P C (k+5) (fB I.ok I.ask I.run i hi).ok th h
 simp[Ci,b2,af,wvD,wv]
theorem lV (P:TpP T G) (C:ThP T) (R:TpR T) (Q:ChP T) (k:Nat) {n r:Nat}{t:Tp}{h:HH}{e ev:Nat} (a:TAt h n r t) (I:TI t e ev) (th:Th) :
 runN T G (k+12) "worths_of" [.o n,.p th.enc] h=some (.p (.lst (each (wvD t th) e)),h):=by
 have b1:=o9 P R k a I (NU P C Q I th)
 rw[run_eq Q.worths_of rfl]
 simp[bM,a.ob,sR,b1,af]
theorem qR (P:TpP T G) (C:ThP T) (R:TpR T) (Q:ChP T) (k:Nat) {n r:Nat}{t:Tp}{h:HH}{e ev:Nat} (a:TAt h n r t) (I:TI t e ev) (th:Th) :
 runN T G (k+13) "changes" [.o n,.p th.enc] h=some (.p (.lst (chD (wv t th) e)),h):=by
 have b1:=lV P C R Q k a I th
 have le:=I.run.le
 have m1:=I.m1
 rw[run_eq Q.changes rfl,eV]
 have ct:∀ i:Nat,i < e->BT.ev (runN T G (k+12)) G chC [some (.p (.int ((1:Int)+(i:Int)))),some (.p (.lst (each (wvD t th) e)))] h=some (.p (.bl (!(wv t th (i+1)==wv t th i))),h):=fun i hi=>by
  have x1:aL (.lst (each (wvD t th) e)) (.int ((1:Int)+(i:Int)))=some (wvD t th (i+1)):=by
   rw[show (1:Int)+(i:Int)=((i+1:Nat):Int) by omega]
   show atP _ _=_
   rw[iy,uY _ (by omega)]
  have x2:aL (.lst (each (wvD t th) e)) (.int ((1:Int)+(i:Int) - 1))=some (wvD t th i):=by
   rw[show (1:Int)+(i:Int) - 1=(i:Int) by omega]
   show atP _ _=_
   rw[iy,uY _ (by omega)]
  simp[-bI,chC,rd,x1,x2,wvD]
 have rg:fE .rng2 [.int 1,.int (((each (wvD t th) e).length:Nat):Int)]=some (upto 1 e):=by
  rw[fL,jt]
  have c:((-100000<=(1:Int):Bool)&&((1:Int)<=100000:Bool)&&((-100000<=((e+1:Nat):Int):Bool))&&((((e+1:Nat):Int)<=100000:Bool)))=true:=by
   simp only[O5,decide_eq_true_eq];omega
  rw[if_pos c,show (((e+1:Nat):Int) - 1).toNat=e by omega]
 have cm:aS (cU (evs (runN T G (k+12)) G (.cons chC .nil)) (BT.ev (runN T G (k+12)) G (.var 0 "moment")) [some (.p (.lst (each (wvD t th) e)))]) 1 (upto 1 e) h=some (chD (wv t th) e,h):=by
  have e0:chD (wv t th) e=(Pr e).filterMap fun k=>if decide (wv t th (k+1)≠wv t th k)=true then some (D.int ((k:Int)+1)) else none:=(DL _ _ _).symm
  rw[e0]
  refine AD _ (fun (k:Nat)=>D.int (1+(k:Int))) _ h (Pr e) fun i hi=>?_
  have c:=ct i (List.mem_range.mp hi)
  have sl:([D.int ((1:Int)+(i:Int))].map cJ++[some (.p (.lst (each (wvD t th) e)))]:Sl)=[some (.p (.int ((1:Int)+(i:Int)))),some (.p (.lst (each (wvD t th) e)))]:=rfl
  unfold cU
  rw[sl,Int.add_comm (i:Int) 1]
  by_cases q:wv t th (i+1)=wv t th i
  ·rw[q,beq_self_eq_true,TR] at c
   simp[evs,c,q]
  ·rw[beq_eq_false_iff_ne.mpr q,UM] at c
   simp[evs,c,q]
 have cl:(chD (wv t th) e).length<=100000:=by
  unfold chD chl
  rw[Pa]
  have:=Vj (fun k=>decide (wv t th (k+1)≠wv t th k)) (Pr e)
  rw[QD] at this
  omega
 have ce:BT.ev (runN T G (k+12)) G chE [some (.o n),some (.p th.enc),some (.p (.lst (each (wvD t th) e)))] h=some (.p (.lst (chD (wv t th) e)),h):=by
  refine ju (ws:=[.p (.int 1),.p (.int (((each (wvD t th) e).length:Nat):Int))]) (h1:=h) (fs:=[some (.p (.lst (each (wvD t th) e)))]) ?_ rg rfl rfl cm cl
  simp[rd]
 simp[b1,ce,af]
theorem KB (h:HH) (d:D) (c:Cl):fin h (.p d) (h++[c])=some (.p d,h):=iF h [c] d
@[simp] theorem OZ (h:HH) (a:Cl) (r:HH):dat (h++a :: r) h.length=vY a:=by simp[dat]
end
end BT
end
section
namespace BT
open PySem
theorem AE {α:Type} (f:List D->HH->Option (Option D×HH)) (n:Nat) (mk:α->D) (tx:α->List D) (g:α->Option D) (h:HH):∀ (l:List α),(∀ x∈l,target n (mk x)=some (tx x)/\f (tx x) h=some (g x,h))->aS f n (l.map mk) h=some (l.filterMap g,h):=by
 intro l
 induction l with
 | nil=>intro _;rfl
 | cons x r ih =>
  intro hf
  obtain ⟨h1,h2⟩:=hf x Pf
  rw[Pe,aS,h1]
  show bnd (f (tx x) h) (v7 (aS f n (r.map mk)))=_
  rw[h2,aQ,nZ,ih fun y hy=>hf y (Pb _ hy),aQ,k8,PF]
  cases g x<;>rfl
noncomputable def mom (g:Nat->Bool) (e:Nat):List Nat:=(Pr (e+1)).filter g
noncomputable def gvi (t:Tp) (c:Nat) (i:Nat):Bool:=(itr t.p t.asked i).row==c
section
variable {T:FK->Option Fn}{G:Str->Option W}
end
end BT
end
section
namespace BT
open PySem
noncomputable def bump (l:List (Int×Nat)) (w:Int):List (Int×Nat) :=
 if (l.any fun p=>decide (p.1=w))=true then l.map (fun p=>if p.1=w then (p.1,p.2+1) else p) else l++[(w,1)]
noncomputable def encC (l:List (Int×Nat)):List (Ky×D):=l.map fun p=>(.inl p.1,.int (p.2:Int))
noncomputable def encP (p:Int×Nat):D:=.tup [.int p.1,.int (p.2:Int)]
structure CI (l:List (Int×Nat)) (ws:List Int):Prop where
 nd:(l.map Qc).Nodup
 mem:∀ w,w∈l.map Qc↔w∈ws
 sum:(l.map VN).sum=ws.length
theorem lW (w:Int):∀ l:List (Int×Nat),(l.map fun p=>if p.1=w then (p.1,p.2+1) else p).map Qc=l.map Qc
 | []=>rfl
 | p :: l=>by
  rw[Pe,Pe,Pe,lW w l]
  congr 1
  split<;>rfl
theorem qS {w:Int}:∀ {l:List (Int×Nat)},w∉l.map Qc->(l.map fun p=>if p.1=w then (p.1,p.2+1) else p)=l
 | [],_=>rfl
 | p :: l,h=>by
  rw[Pe,Rh,not_or] at h
  rw[Pe,qS h.2,if_neg fun z=>h.1 z.symm]
theorem qT {w:Int}:∀ {l:List (Int×Nat)},(l.map Qc).Nodup->w∈l.map Qc->((l.map fun p=>if p.1=w then (p.1,p.2+1) else p).map VN).sum=(l.map VN).sum+1
 | [],_,h=>nomatch h
 | p :: l,nd,h=>by
  rw[Pe,Up] at nd
  rw[Pe,Pe,Pe,Rx,Rx]
  by_cases c:p.1=w
  ·rw[if_pos c,qS (by rw[← c];exact nd.1)]
   show p.2+1+_=_
   omega
  ·rw[if_neg c]
   have:w∈l.map Qc:=by
    rcases List.mem_cons.mp h with z | z
    ·exact absurd z.symm c
    ·exact z
   rw[qT nd.2 this];omega
theorem kJ {w:Int}{l:List (Int×Nat)}:(l.any fun p=>decide (p.1=w))=true↔w∈l.map Qc:=by
 rw[List.any_eq_true,List.mem_map]
 exact ⟨fun ⟨p,h1,h2⟩=>⟨p,h1,of_decide_eq_true h2⟩,fun ⟨p,h1,h2⟩=>⟨p,h1,decide_eq_true h2⟩⟩
theorem CI.bump {l:List (Int×Nat)}{ws:List Int} (c:CI l ws) (w:Int):CI (bump l w) (ws++[w]):=by
 unfold BT.bump
 by_cases h:(l.any fun p=>decide (p.1=w))=true
 ·rw[if_pos h]
  have hm:=kJ.mp h
  refine ⟨by rw[lW];exact c.nd,fun v=>?_,?_⟩
  ·rw[lW,c.mem,Uq,VR]
   exact ⟨.inl,fun z=>z.elim id fun z=>by rw[z];exact (c.mem w).mp hm⟩
  ·rw[qT c.nd hm,c.sum,PB];rfl
 ·rw[if_neg h]
  have hm:w∉l.map Qc:=fun z=>h (kJ.mpr z)
  refine ⟨?_,fun v=>?_,?_⟩
  ·rw[Rz]
   refine List.nodup_append.mpr ⟨c.nd,by simp,fun a ha b hb=>?_⟩
   have:b=w:=by simpa using hb
   rw[this]
   exact fun z=>hm (z ▸ ha)
  ·rw[Rz,Uq,Uq,c.mem];rfl
  ·rw[Rz,List.sum_append,c.sum,PB];rfl
theorem AF (l:List (Int×Nat)) (w:Int):(bump l w).length<=l.length+1:=by
 unfold bump
 split
 ·rw[Pa];omega
 ·rw[PB];exact O8 _
theorem DM {l:List (Int×Nat)}{w:Int} (h:w∉l.map Qc):eZ (encC l) (.inl w)=none:=by
 unfold eZ encC
 have:((l.map fun p=>((Sum.inl p.1:Ky),D.int (p.2:Int))).find? fun kv=>decide (kv.1=Sum.inl w))=none:=by
  rw[List.find?_eq_none]
  intro kv hkv
  obtain ⟨p,h1,rfl⟩:=List.mem_map.mp hkv
  simp only[decide_eq_true_eq]
  intro z
  exact h (List.mem_map.mpr ⟨p,h1,Sum.inl.inj z⟩)
 rw[this];rfl
theorem qU {w:Int}:∀ {l:List (Int×Nat)},w∈l.map Qc->∃ c,eZ (encC l) (.inl w)=some (.int ((c:Nat):Int))/\(w,c)∈l
 | [],h=>nomatch h
 | p :: l,h=>by
  by_cases c:p.1=w
  ·refine ⟨p.2,?_,by rw[← c];exact Pf⟩
   unfold eZ encC
   rw[Pe,List.find?_cons_of_pos (by rw[c];simp)];rfl
  ·have:w∈l.map Qc:=by
    rcases List.mem_cons.mp h with z | z
    ·exact absurd z.symm c
    ·exact z
   obtain ⟨q,e1,e2⟩:=qU this
   refine ⟨q,?_,Pb _ e2⟩
   rw[← e1]
   unfold eZ encC
   rw[Pe,SL]
   simp only[decide_eq_true_eq]
   exact fun z=>c (Sum.inl.inj z)
theorem uZ (l:List (Int×Nat)) (w:Int):((encC l).any fun kv=>decide (kv.1=Sum.inl w))=l.any fun p=>decide (p.1=w):=by
 unfold encC
 rw[List.any_map]
 congr 1
 funext p
 show decide ((Sum.inl p.1:Ky)=Sum.inl w)=decide (p.1=w)
 exact decide_eq_decide.mpr ⟨Sum.inl.inj,fun z=>by rw[z]⟩
theorem DN {l:List (Int×Nat)}{w:Int} (h:w∉l.map Qc):jV (encC l) (.inl w) (.int 1)=encC (bump l w):=by
 have n:¬ (l.any fun p=>decide (p.1=w))=true:=fun z=>h (kJ.mp z)
 unfold jV bump
 rw[uZ,if_neg n,if_neg n]
 unfold encC
 rw[Rz];rfl
theorem AG {w:Int}{a b:Nat}:∀ {l:List (Int×Nat)},(l.map Qc).Nodup->(w,a)∈l->(w,b)∈l->a=b
 | [],_,h,_=>nomatch h
 | p :: l,nd,h1,h2=>by
  rw[Pe,Up] at nd
  rcases List.mem_cons.mp h1 with z1 | z1<;>rcases List.mem_cons.mp h2 with z2 | z2
  ·exact (Prod.mk.inj (z1.trans z2.symm)).2
  ·exact absurd (List.mem_map.mpr ⟨_,z2,by rw[← z1]⟩) nd.1
  ·exact absurd (List.mem_map.mpr ⟨_,z1,by rw[← z2]⟩) nd.1
  ·exact AG nd.2 z1 z2
theorem AH {l:List (Int×Nat)}{w:Int}{c:Nat} (nd:(l.map Qc).Nodup) (h:(w,c)∈l):jV (encC l) (.inl w) (.int ((c:Int)+1))=encC (bump l w):=by
 have y:(l.any fun p=>decide (p.1=w))=true:=kJ.mpr (List.mem_map.mpr ⟨_,h,rfl⟩)
 unfold jV bump
 rw[uZ,if_pos y,if_pos y]
 unfold encC
 rw[QB,QB]
 refine QY fun p hp=>?_
 show (if (Sum.inl p.1:Ky)=Sum.inl w then ((Sum.inl p.1:Ky),D.int ((c:Int)+1)) else (Sum.inl p.1,D.int (p.2:Int)))=((Sum.inl (if p.1=w then (p.1,p.2+1) else p).1:Ky),D.int (((if p.1=w then (p.1,p.2+1) else p).2:Nat):Int))
 by_cases z:p.1=w
 ·rw[if_pos (by rw[z]),if_pos z]
  have:p.2=c:=AG nd (show (w,p.2)∈l by rw[← z];exact hp) h
  rw[this];rfl
 ·rw[if_neg fun q=>z (Sum.inl.inj q),if_neg z]
section
variable {T:FK->Option Fn}{G:Str->Option W}
theorem DO (F:FK->List W->HH->Option (W×HH)) (w0 w1:W) (h:HH) {l:List (Int×Nat)}{ws:List Int} (c:CI l ws) (hl:l.length < 50000) (w:Int) :
 evS F G spB [some w0,some w1,some (.r h.length),some (.p (.int w))] (h++[.d (encC l)])=some (.nx [some w0,some w1,some (.r h.length),some (.p (.int w))] (h++[.d (encC (bump l w))])):=by
 have d0:dat (h++[.d (encC l)]) h.length=some (encC l):=by simp[dat]
 have k1:(encC l).length < 100000:=by unfold encC;rw[Pa];omega
 have s0:∀ y,(h++[Cl.d (encC l)]).set h.length (.d y)=h++[.d y]:=fun y=>by simp
 by_cases m:w∈l.map Qc
 ·obtain ⟨q,e1,e2⟩:=qU m
  have e3:=AH c.nd e2
  generalize encC (bump l w)=B at *
  generalize encC l=L at *
  simp[-SS,spB,d0,mD,e1,k1,e3,s0]
 ·have e1:=DM m
  have e3:=DN m
  generalize encC (bump l w)=B at *
  generalize encC l=L at *
  simp[-SS,spB,d0,mD,e1,k1,e3,s0]
theorem EU (F:FK->List W->HH->Option (W×HH)) (w0 w1:W) (h:HH):∀ (ws:List Int) (x:Option W) {l:List (Int×Nat)}{us:List Int},CI l us->l.length+ws.length < 50000 →
 ∃ y l',bx (evS F G spB) [(3,"worth")] (aa ws) [some w0,some w1,some (.r h.length),x] (h++[.d (encC l)])=some (.nx [some w0,some w1,some (.r h.length),y] (h++[.d (encC l')]))/\CI l' (us++ws)/\l'.length<=l.length+ws.length
 | [],x,l,us,c,hl=>⟨x,l,rfl,by rw[P4];exact c,O8 _⟩
 | w :: ws,x,l,us,c,hl=>by
  rw[Pk] at hl
  have bl:=AF l w
  have b1:=DO (G:=G) F w0 w1 h c (by omega) w
  obtain ⟨y,l',b2,c2,n2⟩:=EU F w0 w1 h ws (some (.p (.int w))) (c.bump w) (by omega)
  refine ⟨y,l',?_,by rw[Qt] at c2;exact c2,by rw[Pk];omega⟩
  have st:∀ l2,bx (evS F G spB) [(3,"worth")] (.int w :: l2) [some w0,some w1,some (.r h.length),x] (h++[.d (encC l)])=gj (evS F G spB [some w0,some w1,some (.r h.length),some (.p (.int w))] (h++[.d (encC l)])) (bx (evS F G spB) [(3,"worth")] l2):=fun l2=>rfl
  show bx _ _ (.int w :: aa ws) _ _=_
  rw[st,b1,cK,b2]
theorem nJ:∀ l:List (Int×Nat),jH (encC l)=some (l.map fun p=>(p.1,(p.2:Int)))
 | []=>rfl
 | p :: l=>by
  show (jH (encC l)).map ((p.1,(p.2:Int)) :: ·)=_
  rw[nJ l];rfl
theorem lX {α:Type}:∀ (l:List α),(Pr l.length).filterMap (fun i=>l[i]?)=l
 | []=>rfl
 | x :: l=>by
  rw[Pk,RJ,PF,VT]
  show x :: (Pr l.length).filterMap (fun i=>l[i]?)=_
  rw[lX l]
theorem AI {l:List (Int×Nat)} (h:l.length < 64):∃ l':List (Int×Nat),l'.Perm l/\lg (encC l)=some (l'.map encP):=by
 have it:fu (encC l)=l.map encP:=by
  unfold fu encC
  rw[QB];rfl
 unfold lg
 by_cases c:(encC l).length<=1
 ·exact ⟨l,.refl _,by rw[if_pos c,it]⟩
 ·rw[if_neg c,nJ,QJ,if_pos (by rw[Pa];exact h),it]
  have hl:(encC l).length=l.length:=by unfold encC;rw[Pa]
  have pm:=jD (ps:=l.map fun p=>(p.1,(p.2:Int))) (by rw[Pa];omega)
  rw[Pa] at pm
  refine ⟨(jC (l.map fun p=>(p.1,(p.2:Int)))).filterMap fun i=>l[i]?,?_,?_⟩
  ·exact (pm.filterMap _).trans (by rw[lX])
  ·rw[VS]
   congr 2
   funext i
   rw[Px]
theorem sS (P:TpP T G) (C:ThP T) (R:TpR T) (Q:ChP T) (Sp:SpP T) (k:Nat) {n r:Nat}{t:Tp}{h:HH}{e ev:Nat} (a:TAt h n r t) (I:TI t e ev) (he:e+1 < 64) (th:Th) :
 ∃ l,CI l ((Pr (e+1)).map (wv t th))/\runN T G (k+13) "spread" [.o n,.p th.enc] h=some (.p (.lst (l.map encP)),h):=by
 have b1:=lV P C R Q k (a.app (g:=[.d []])) I th
 have ew:each (wvD t th) e=aa ((Pr (e+1)).map (wv t th)):=by
  unfold each aa
  rw[QB];rfl
 rw[ew] at b1
 obtain ⟨y,l,lp,c,ln⟩:=EU (G:=G) (runN T G (k+12)) (.o n) (.p th.enc) h ((Pr (e+1)).map (wv t th)) none (l:=[]) (us:=[]) ⟨Sq,fun w=>Iff.rfl,rfl⟩ (by rw[Pa,QD,P8];omega)
 rw[Ry] at c
 rw[Pa,QD,P8] at ln
 obtain ⟨l',pm,sd⟩:=AI (l:=l) (by omega)
 refine ⟨l',⟨(pm.map _).nodup_iff.mpr c.nd,fun w=>((pm.map _).mem_iff).trans (c.mem w),?_⟩,?_⟩
 ·rw[(pm.map _).sum_nat];exact c.sum
 rw[run_eq Sp.spread rfl,fS]
 have lp:bx (evS (runN T G (k+12)) G spB) [(3,"worth")] (aa ((Pr (e+1)).map (wv t th))) [some (.o n),some (.p th.enc),some (.r h.length),none] (h++[.d []])=_:=lp
 have d0:dat (h++[.d (encC l)]) h.length=some (encC l):=by simp[dat]
 generalize aa ((Pr (e+1)).map (wv t th))=ll at b1 lp
 generalize encC l=L at *
 simp[-bx,b1,gy,lp,d0,sd,KB]
end
end BT
end
section
namespace BT
open PySem
theorem iA {T:FK->Option Fn}{G:Str->Option W} (L:Lw T) (ns:List Int) (hl:ns.length<=1000) (q many:Int) (hm:0 < many):∃ z:Nat,(z:Int) < many/\∀ k h,runN T G (k+2) "_law_drawn" [.p (.lst (aa ns)),.p (.int q),.p (.int many)] h=some (.p (.int (z:Int)),h):=by
 have h0:=cz ns q hm
 have h1:=cA ns q hm
 refine ⟨(drw ns q many).toNat,by omega,fun k h=>?_⟩
 have:=cG (G:=G) L k ns hl q many hm h
 rw[this]
 congr 4
 omega
theorem jv {v:Nat->Int}{e k:Nat}:k∈chl v e↔k < e/\v (k+1)≠v k:=by
 unfold chl
 rw[List.mem_filter,List.mem_range,decide_eq_true_eq]
theorem pq (v:Nat->Int) (e:Nat):(chl v e).length<=e:=by
 have:=Vj (fun k=>decide (v (k+1)≠v k)) (Pr e)
 rw[QD] at this
 exact this
theorem DP (t:Tp) (th:Th):wv t th 0=0:=by
 unfold wv
 cases th with
 | nm x=>cases x<;>rfl
 | cl i h =>
  have:i=0\/i=1\/i=2\/i=3:=by omega
  rcases this with rfl | rfl | rfl | rfl<;>rfl
theorem AJ (xs:List Int) (v:Int):ded (xs++[v])=if (ded xs).any (·==v) then ded xs else ded xs++[v]:=by
 unfold ded
 rw[List.foldl_append];rfl
theorem AK:∀ (n:Nat) (xs:List Int),xs.length=n->xs.Nodup->ded xs=xs
 | 0,xs,h,_=>by
  have:=List.length_eq_zero_iff.mp h
  subst this;rfl
 | n+1,xs,h,nd=>by
  have hne:xs≠[]:=fun z=>by rw[z] at h;cases h
  have e1:=Uk hne
  rw[← e1] at nd ⊢
  have nd1:=(List.nodup_append.mp nd).1
  rw[AJ,AK n _ (by rw[Vq];omega) nd1,if_neg]
  intro z
  obtain ⟨y,hy,e⟩:=List.any_eq_true.mp z
  have:=(List.nodup_append.mp nd).2.2 y hy _ Pf
  exact this (eq_of_beq e)
theorem jP:∀ (xs:List Int),intsOf (aa xs)=some xs
 | []=>rfl
 | x :: xs=>by
  show (intsOf (aa xs)).map (x :: ·)=_
  rw[jP xs];rfl
section
variable {T:FK->Option Fn}{G:Str->Option W}
end
end BT
end
section
namespace BT
open PySem
noncomputable def sU (xs:List Nat):List Int:=xs.map fun (n:Nat)=>(n:Int)
theorem qV (xs:List Nat):ao xs=aa (sU xs):=by unfold ao aa sU;rw[QB];rfl
theorem DQ {xs:List Nat} (h:xs.Pairwise (·<=·)):(sU xs).Pairwise (·<=·):=SN _ (fun a b h=>by omega) h
theorem xq {xs ys:List Nat} (h:xs.Perm ys) (hy:ys.Pairwise (·<=·)):sortI (sU xs)=sU ys:=Vv ((sortI_perm _).trans (h.map _)) (p9 _) (DQ hy)
theorem HS (xs:List Int):dok 100 (.lst (aa xs))=true:=by
 show (aa xs).all (dok 99)=true
 unfold aa
 rw[List.all_map,Qx]
 intro x _
 exact tO 99 x
theorem HU (xs:List Nat):(ao xs).length=xs.length:=by unfold ao;rw[Pa]
theorem qW (xs:List D) (i:Int):(xs.all fun y=>br y (.int i))=true:=List.all_eq_true.mpr fun y _=>iM (tO _ _)
noncomputable def vis (t:Tp) (e:Nat):Nat->Nat->List Nat
 | _,0=>[]
 | c,q+1=>mom (gvi t c) e++vis t e (c+1) q
theorem tnx (s:Sl) (h:HH) (k:Sl->HH->Option Fl):jX (some (.nx s h)) k=k s h:=Eq.trans rfl rfl
section
variable {T:FK->Option Fn}{G:Str->Option W}
theorem qX {α β:Type} (l:List α):l.filterMap (fun _=>(none:Option β))=[]:=by
 induction l with
 | nil=>rfl
 | cons x l ih=>rw[PF];exact ih
theorem DR {js:List Nat} (h:js.Pairwise (· < ·)) (hl:js.length < 64):biD .sset [.lst (ao js)]=some (.lst (ao js)):=by
 have nd:(sU js).Nodup:=SN _ (fun a b h=>by omega) h
 have le:js.Pairwise (·<=·):=h.imp fun h=>Qk h
 rw[qV,p8,jP,QJ,if_pos (by unfold sU;rw[Pa];exact hl),AK _ _ rfl nd,xq (.refl _) le]
 rfl
end
end BT
end
section
namespace BT
open PySem
noncomputable def bg:Fn:=⟨["tape","moment","thing"],["tape","moment","thing","worth","<next_change>"],
 (.seq (.set 3 "worth" (.call "worth_at" (.cons (.var 0 "tape") (.cons (.var 1 "moment") (.cons (.var 2 "thing") .nil)))))
 (.ret (.methL (.var 0 "tape") "first_from" (.cons (.var 1 "moment") .nil) 2 [(2,"thing"),(3,"worth")])))⟩
noncomputable def bN:Fn:=⟨["_law_script","_law_at"],["_law_script","_law_at"],
 (.ret (.idx (.lst false (.cons (.cst (.str "a")) (.cons (.cst (.str "b")) (.cons (.cst (.str "c")) (.cons (.cst (.str "f")) (.cons (.cst (.int 0)) (.cons (.cst (.int 1)) (.cons (.cst (.int 2)) (.cons (.cst (.int 3)) .nil))))))))) (.call "_law_drawn" (.cons (.var 0 "_law_script") (.cons (.var 1 "_law_at") (.cons (.cst (.int 8)) .nil))))))⟩
structure NcP (T:FK->Option Fn):Prop where
 next_change:T "next_change"=some bg
 l2:T (.l 2)=some Ck
section
variable {T:FK->Option Fn}{G:Str->Option W}
theorem NV (P:TpP T G) (C:ThP T) (Nc:NcP T) {n:Nat}{t:Tp}{e ev:Nat} (I:TI t e ev) (th:Th) (w:Int):Tst T G n t (.l 2) [.p th.enc,.p (.int w)] (gc t th w) e:=fun k h r t' a s i hi=>by
 rw[run_eq (k:=k+9) Nc.l2 rfl]
 have b2:=dD P C (k+5) (fB I.ok I.ask I.run i hi).ok th h
 simp[Ck,b2,af,gc]
theorem kr (P:TpP T G) (L:TpF T) (C:ThP T) (Lc:LcP T) (Nc:NcP T) (k:Nat) {n r:Nat}{t:Tp}{h:HH}{e ev:Nat} (a:TAt h n r t) (I:TI t e ev) (th:Th) (m:Nat) (hm:m<=e) :
 ∃ o h' r' t',runN T G (k+13) "next_change" [.o n,.p (.int m),.p th.enc] h=some (.p (bU o),h')/\FF (gc t th (th.val (itr t.p t.asked m))) m e o/\Go n h r t h' r' t'/\TI t' e ev/\Sm8 t t':=by
 obtain ⟨h1,r1,t1,b1,g1,I1,s1⟩:=gf P C Lc k a I th m hm
 have tt:=NV (n:=n) P C Nc I1 th (th.val (itr t.p t.asked m))
 rw[uX s1] at tt
 obtain ⟨o,h2,r2,t2,b2,F,g2,I2,s2⟩:=xm P L k g1.b I1 tt m hm
 have G2:=g1.trans g2
 refine ⟨o,h2,r2,t2,?_,F,G2,I2,s1.trans s2⟩
 rw[run_eq Nc.next_change rfl]
 have fn:=fun w=>dR G2 w
 simp[bg,b1,g1.b.ob,DI,b2,fn]
theorem xr (L:Lw T) (hT:T "_law_thing"=some bN) (ns:List Int) (hl:ns.length<=1000) (p:Int):∃ th:Th,∀ k h,runN T G (k+3) "_law_thing" [.p (.lst (aa ns)),.p (.int p)] h=some (.p th.enc,h):=by
 obtain ⟨z,hz,dz⟩:=iA (G:=G) L ns hl p 8 (by decide)
 have key:∃ th:Th,aL (.lst [.str "a",.str "b",.str "c",.str "f",.int 0,.int 1,.int 2,.int 3]) (.int (z:Int))=some th.enc:=by
  have:z=0\/z=1\/z=2\/z=3\/z=4\/z=5\/z=6\/z=7:=by omega
  rcases this with rfl | rfl | rfl | rfl | rfl | rfl | rfl | rfl
  ·exact ⟨.nm .a,rfl⟩
  ·exact ⟨.nm .b,rfl⟩
  ·exact ⟨.nm .c,rfl⟩
  ·exact ⟨.nm .f,rfl⟩
  ·exact ⟨.cl 0 (by decide),rfl⟩
  ·exact ⟨.cl 1 (by decide),rfl⟩
  ·exact ⟨.cl 2 (by decide),rfl⟩
  ·exact ⟨.cl 3 (by decide),rfl⟩
 obtain ⟨th,e⟩:=key
 refine ⟨th,fun k h=>?_⟩
 rw[run_eq hT rfl]
 have d:=dz k h
 simp[-bI,bN,d,e,af]
end
end BT
end
section
namespace BT
open PySem
noncomputable def qY:S:=(.ife (.or (.cmp .ne (.call "last_change" (.cons (.var 3 "_law_tape") (.cons (.var 13 "_law_at") (.cons (.var 4 "_law_thing_here") .nil)))) (.var 13 "_law_at")) (.cmp .ne (.call "next_change" (.cons (.var 3 "_law_tape") (.cons (.bin .sub (.var 13 "_law_at") (.cst (.int 1))) (.cons (.var 4 "_law_thing_here") .nil)))) (.var 13 "_law_at"))) (.ret (.cst (.bl false))) .nil)
noncomputable def HV:E:=(.not (.chain .le .le (.cst (.int 1)) (.var 0 "_law_at") (.var 1 "_law_end")))
noncomputable def KC:E:=(.comp false .seq (.cons (.var 5 "_law_row_here") .nil) ["_law_at"] [(6,"_law_end")] (.cons HV .nil) (.var 0 "_law_at"))
noncomputable def DS:E:=(.or (.cmp .ne (.var 5 "_law_row_here") (.bi .sset false (.cons (.var 5 "_law_row_here") .nil))) (.cmp .ne KC (.lst false .nil)))
noncomputable def DT:E:=(.not (.chain .le .le (.var 10 "_law_low") (.var 7 "_law_moment") (.var 11 "_law_high")))
noncomputable def HW:E:=(.cmp .ne (.call "worth_at" (.cons (.var 1 "_law_tape") (.cons (.var 0 "_law_at") (.cons (.var 2 "_law_thing_here") .nil)))) (.var 3 "_law_here"))
noncomputable def HX:E:=(.comp false .rng2 (.cons (.var 10 "_law_low") (.cons (.bin .add (.var 11 "_law_high") (.cst (.int 1))) .nil)) ["_law_at"] [(3,"_law_tape"),(4,"_law_thing_here"),(12,"_law_here")] (.cons HW .nil) (.var 0 "_law_at"))
noncomputable def AL:E:=(.and (.cmp .notN (.var 8 "_law_start") (.cst .non)) (.or (.cmp .nmem (.var 8 "_law_start") (.var 5 "_law_row_here")) (.cmp .eq (.call "worth_at" (.cons (.var 3 "_law_tape") (.cons (.bin .sub (.var 8 "_law_start") (.cst (.int 1))) (.cons (.var 4 "_law_thing_here") .nil)))) (.var 12 "_law_here"))))
noncomputable def AM:E:=(.and (.cmp .notN (.var 9 "_law_behind") (.cst .non)) (.or (.cmp .nmem (.var 9 "_law_behind") (.var 5 "_law_row_here")) (.cmp .eq (.call "worth_at" (.cons (.var 3 "_law_tape") (.cons (.var 9 "_law_behind") (.cons (.var 4 "_law_thing_here") .nil)))) (.var 12 "_law_here"))))
noncomputable def DU:E:=(.ite (.cmp .isN (.var 8 "_law_start") (.cst .non)) (.cst (.int 0)) (.var 8 "_law_start"))
noncomputable def DV:E:=(.ite (.cmp .isN (.var 9 "_law_behind") (.cst .non)) (.var 6 "_law_end") (.bin .sub (.var 9 "_law_behind") (.cst (.int 1))))
noncomputable def KG:E:=(.comp false .seq (.cons (.var 14 "_law_told") .nil) ["_law_worth","_law_many"] [] .nil (.var 1 "_law_many"))
noncomputable def KH:E:=(.comp false .seq (.cons (.var 14 "_law_told") .nil) ["_law_worth","_law_many"] [] .nil (.var 0 "_law_worth"))
noncomputable def DW:E:=(.or (.cmp .ne (.bi .sum false (.cons KG .nil)) (.bin .add (.var 6 "_law_end") (.cst (.int 1)))) (.not (.chain .le .le (.cst (.int 1)) (.bi .len false (.cons (.var 14 "_law_told") .nil)) (.bin .add (.bi .len false (.cons (.var 5 "_law_row_here") .nil)) (.cst (.int 1))))))
noncomputable def AN:E:=(.and (.cmp .eq (.cmp .eq (.var 5 "_law_row_here") (.lst false .nil)) (.cmp .eq (.bi .len false (.cons (.var 14 "_law_told") .nil)) (.cst (.int 1)))) (.cmp .mem (.cst (.int 0)) KH))
noncomputable def DX:S:=(.seq (.set 14 "_law_told" (.call "spread" (.cons (.var 3 "_law_tape") (.cons (.var 4 "_law_thing_here") .nil))))
 (.seq (.ife DW (.ret (.cst (.bl false))) .nil)
 (.ret AN)))
noncomputable def DY:S:=(.seq (.set 12 "_law_here" (.call "worth_at" (.cons (.var 3 "_law_tape") (.cons (.var 7 "_law_moment") (.cons (.var 4 "_law_thing_here") .nil)))))
 (.seq (.ife (.cmp .ne HX (.lst false .nil)) (.ret (.cst (.bl false))) .nil)
 (.seq (.ife AL (.ret (.cst (.bl false))) .nil)
 (.seq (.ife AM (.ret (.cst (.bl false))) .nil)
 (.seq (.for [(13,"_law_at")] .seq (.cons (.var 5 "_law_row_here") .nil) qY)
 DX)))))
noncomputable def DZ:S:=(.seq (.set 7 "_law_moment" (.call "_law_drawn" (.cons (.var 0 "_law_script") (.cons (.cst (.int 443)) (.cons (.bin .add (.var 6 "_law_end") (.cst (.int 1))) .nil)))))
 (.seq (.set 8 "_law_start" (.call "last_change" (.cons (.var 3 "_law_tape") (.cons (.var 7 "_law_moment") (.cons (.var 4 "_law_thing_here") .nil)))))
 (.seq (.set 9 "_law_behind" (.call "next_change" (.cons (.var 3 "_law_tape") (.cons (.var 7 "_law_moment") (.cons (.var 4 "_law_thing_here") .nil)))))
 (.seq (.set 10 "_law_low" DU)
 (.seq (.set 11 "_law_high" DV)
 (.seq (.ife DT (.ret (.cst (.bl false))) .nil)
 DY))))))
noncomputable def D0:S:=(.seq (.set 4 "_law_thing_here" (.call "_law_thing" (.cons (.var 0 "_law_script") (.cons (.cst (.int 442)) .nil))))
 (.seq (.set 5 "_law_row_here" (.call "changes" (.cons (.var 3 "_law_tape") (.cons (.var 4 "_law_thing_here") .nil))))
 (.seq (.set 6 "_law_end" (.meth (.var 3 "_law_tape") "end" .nil))
 (.seq (.ife DS (.ret (.cst (.bl false))) .nil)
 DZ))))
noncomputable def D3:S:=(.seq (.set 1 "_law_program_here" (.call "_law_program" (.cons (.var 0 "_law_script") (.cons (.cst (.int 20)) .nil))))
 (.seq (.set 2 "_law_asked_here" (.call "_law_asked" (.cons (.var 0 "_law_script") (.cons (.cst (.int 450)) .nil))))
 (.seq (.set 3 "_law_tape" (.make "Tape" (.cons (.var 1 "_law_program_here") (.cons (.var 2 "_law_asked_here") (.cons (.bin .add (.cst (.int 1)) (.call "_law_drawn" (.cons (.var 0 "_law_script") (.cons (.cst (.int 441)) (.cons (.cst (.int 5)) .nil))))) (.cons (.call "_law_drawn" (.cons (.var 0 "_law_script") (.cons (.cst (.int 440)) (.cons (.cst (.int 15)) .nil)))) .nil))))))
 D0)))
noncomputable def fT:Fn:=⟨["_law_script"],["_law_script","_law_program_here","_law_asked_here","_law_tape","_law_thing_here","_law_row_here","_law_end","_law_moment","_law_start","_law_behind","_law_low","_law_high","_law_here","_law_at","_law_told"],
 D3⟩
structure NW (T:FK->Option Fn):Prop where
 lw:Lw T
 program:T "_law_program"=some aY
 thing:T "_law_thing"=some bN
 law:T "law"=some fT
structure pA (T:FK->Option Fn) (G:Str->Option W):Prop where
 P:TpP T G
 M:TpE T
 L:TpL T
 R:TpR T
 C:ThP T
 Lc:LcP T
 Nc:NcP T
 Q:ChP T
 Sp:SpP T
noncomputable def Ok (n e ev:Nat) (t:Tp) (h:HH):Prop:=∃ r t',TAt h n r t'/\TI t' e ev/\Sm8 t t'
noncomputable def chN (v:Nat->Int) (e:Nat):List Nat:=(chl v e).map (·+1)
theorem AO (v:Nat->Int) (e:Nat):chD v e=ao (chN v e):=by
 unfold chD ao chN
 rw[QB]
 exact QY fun k _=>by
  show D.int ((k:Int)+1)=D.int ((k+1:Nat):Int)
  rw[UF];rfl
theorem AQ (v:Nat->Int) (e:Nat):(chN v e).Pairwise (· < ·):=SN _ (fun a b h=>by omega) (List.Pairwise.sublist List.filter_sublist Vc)
theorem u0 (v:Nat->Int) (e:Nat):(chN v e).length=(chl v e).length:=by unfold chN;rw[Pa]
theorem AR {v:Nat->Int}{e k:Nat} (h1:k < e) (h2:v (k+1)≠v k):k+1∈chN v e:=List.mem_map.mpr ⟨k,jv.mpr ⟨h1,h2⟩,rfl⟩
theorem u5 {js:List Nat}{j:Nat} (h:j∈js):dQ .nmem (.int (j:Int)) (.lst (ao js))=some false:=by
 rw[aI,if_pos (qW _ _)]
 have:(ao js).any (fun y=>eqv y (.int (j:Int)))=true:=List.any_eq_true.mpr ⟨.int (j:Int),List.mem_map.mpr ⟨j,h,rfl⟩,by simp⟩
 rw[this];rfl
theorem mQ {t:Tp}{th:Th}{w:Int}{i:Nat} (h:gc t th w i=false):wv t th i=w:=by
 unfold gc at h
 show th.val (itr t.p t.asked i)=w
 simpa using h
theorem D4 {t:Tp}{th:Th}{w:Int}{i:Nat} (h:gc t th w i=true):wv t th i≠w:=by
 unfold gc at h
 show ¬ th.val (itr t.p t.asked i)=w
 simpa using h
theorem AS {t:Tp}{th:Th}{w:Int}{i:Nat} (h:wv t th i=w):gc t th w i=false:=by
 unfold gc
 rw[show th.val (itr t.p t.asked i)=w from h];simp
noncomputable def jQ:Option Nat->Int
 | none=>0
 | some j=>(j:Int)+1
noncomputable def ku (e:Nat):Option Nat->Int
 | none=>(e:Int)
 | some j=>(j:Int) - 1
theorem KI {t:Tp}{th:Th}{e m:Nat} (hm:m<=e) {o1 o2:Option Nat} (F1:FL (gc t th (wv t th m)) 0 m o1) (F2:FF (gc t th (wv t th m)) m e o2) :
 ∃ x y:Nat,jQ o1=(x:Int)/\ku e o2+1=(y:Int)/\x<=m/\m < y/\y<=e+1/\∀ i,x<=i->i < y->wv t th i=wv t th m:=by
 have gm:=AS (t:=t) (th:=th) (i:=m) rfl
 obtain ⟨x,x1,x2,x3⟩:∃ x:Nat,jQ o1=(x:Int)/\x<=m/\∀ i,x<=i->i<=m->wv t th i=wv t th m:=by
  cases o1 with
  | none=>exact ⟨0,rfl,P0 _,fun i h1 h2=>mQ (F1.no rfl i h1 h2)⟩
  | some j =>
   obtain ⟨_,j2,j3,j4⟩:=F1.yes j rfl
   have:j≠m:=fun z=>by rw[z,gm] at j3;cases j3
   exact ⟨j+1,by show (j:Int)+1=_;omega,by omega,fun i h1 h2=>mQ (j4 i (by omega) h2)⟩
 obtain ⟨y,y1,y2,y3,y4⟩:∃ y:Nat,ku e o2+1=(y:Int)/\m < y/\y<=e+1/\∀ i,m<=i->i < y->wv t th i=wv t th m:=by
  cases o2 with
  | none=>exact ⟨e+1,by show (e:Int)+1=_;omega,by omega,O8 _,fun i h1 h2=>mQ (F2.no rfl i h1 (by omega))⟩
  | some j =>
   obtain ⟨j1,j2,j3,j4⟩:=F2.yes j rfl
   have:j≠m:=fun z=>by rw[z,gm] at j3;cases j3
   exact ⟨j,by show (j:Int) - 1+1=_;omega,by omega,by omega,fun i h1 h2=>mQ (j4 i h1 h2)⟩
 refine ⟨x,y,x1,y1,x2,y2,y3,fun i h1 h2=>?_⟩
 rcases Pq m i with z | z
 ·exact y4 i (by omega) h2
 ·exact x3 i h1 z
theorem lY:∀ (xs ys:List Int),xs.Nodup->(∀ x∈xs,x∈ys)->xs.length<=ys.length
 | [],_,_,_=>P0 _
 | x :: xs,ys,nd,h=>by
  rw[Up] at nd
  have hx:=h x Pf
  have:=lY xs (ys.erase x) nd.2 fun z hz=>(Vp (show z≠x from fun q=>nd.1 (by rw[← q];exact hz))).mpr (h z (Pb _ hz))
  rw[UT hx] at this
  have:=Vd hx
  rw[Pk];omega
theorem cover {v:Nat->Int}{e:Nat}:∀ i,i<=e->v i∈v 0 :: (chl v e).map fun k=>v (k+1)
 | 0,_=>Pf
 | i+1,h=>by
  by_cases c:v (i+1)=v i
  ·rw[c];exact cover i (by omega)
  ·exact Pb _ (List.mem_map.mpr ⟨i,jv.mpr ⟨by omega,c⟩,rfl⟩)
theorem qZ:∀ l:List (Int×Nat),(l.map fun p=>(p.2:Int)).sum=(((l.map VN).sum:Nat):Int)
 | []=>rfl
 | p :: l=>by rw[Pe,Pe,Rx,Rx,qZ l,UF]
section
variable {T:FK->Option Fn}{G:Str->Option W}
theorem jw (A:pA T G) (k:Nat) {n e ev:Nat}{t:Tp}{h:HH} (o:Ok n e ev t h) (th:Th) (m:Nat) (hm:m<=e) :
 ∃ h',runN T G (k+12) "worth_at" [.o n,.p (.int m),.p th.enc] h=some (.p (.int (wv t th m)),h')/\Ok n e ev t h':=by
 obtain ⟨r,t1,a,I,s⟩:=o
 obtain ⟨h',r',t',b,g,I',s'⟩:=gf A.P A.C A.Lc k a I th m hm
 rw[s.p,s.asked] at b
 exact ⟨h',b,r',t',g.b,I',s.trans s'⟩
theorem u6 (A:pA T G) (k:Nat) {n e ev:Nat}{t:Tp}{h:HH} (o:Ok n e ev t h) (th:Th) (m:Nat) (hm:m<=e) :
 ∃ o' h',runN T G (k+13) "last_change" [.o n,.p (.int m),.p th.enc] h=some (.p (jr o'),h')/\FL (gc t th (wv t th m)) 0 m o'/\Ok n e ev t h':=by
 obtain ⟨r,t1,a,I,s⟩:=o
 obtain ⟨o',h',r',t',b,F,g,I',s'⟩:=kq A.P A.L.b A.C A.Lc k a I th m hm
 rw[uX s,s.p,s.asked] at F
 exact ⟨o',h',b,F,r',t',g.b,I',s.trans s'⟩
theorem u9 (A:pA T G) (k:Nat) {n e ev:Nat}{t:Tp}{h:HH} (o:Ok n e ev t h) (th:Th) (m:Nat) (hm:m<=e) :
 ∃ o' h',runN T G (k+13) "next_change" [.o n,.p (.int m),.p th.enc] h=some (.p (bU o'),h')/\FF (gc t th (wv t th m)) m e o'/\Ok n e ev t h':=by
 obtain ⟨r,t1,a,I,s⟩:=o
 obtain ⟨o',h',r',t',b,F,g,I',s'⟩:=kr A.P A.L.f A.C A.Lc A.Nc k a I th m hm
 rw[uX s,s.p,s.asked] at F
 exact ⟨o',h',b,F,r',t',g.b,I',s.trans s'⟩
theorem KJ (F:FK->List W->HH->Option (W×HH)) (w0 w1 w2 w3 w4:W) (rest:Sl) (h:HH) (v:Nat->Int) (e:Nat) (he:e < 64) :
 BT.ev F G DS (some w0 :: some w1 :: some w2 :: some w3 :: some w4 :: some (.p (.lst (ao (chN v e)))) :: some (.p (.int (e:Int))) :: rest) h=some (.p (.bl false),h):=by
 have ln:=pq v e
 have ss:=DR (AQ v e) (by rw[u0];omega)
 have d1:dQ .ne (.lst (ao (chN v e))) (.lst (ao (chN v e)))=some false:=ne_self (by rw[qV];exact HS _)
 have c:=AD (cU (evs F G (.cons HV .nil)) (BT.ev F G (.var 0 "_law_at")) [some (.p (.int (e:Int)))]) (fun (i:Nat)=>D.int (i:Int)) (fun _=>none) h (chN v e) (fun j hj=>by
  obtain ⟨k,hk,rfl⟩:=List.mem_map.mp hj
  have hk:=(jv.mp hk).1
  have c1:(1:Int)<=((k+1:Nat):Int):=by omega
  have c2:((k+1:Nat):Int)<=(e:Int):=by omega
  generalize ((k+1:Nat):Int)=z at c1 c2
  simp[cU,cJ,HV,c1,c2])
 rw[qX] at c
 have f:BT.ev F G KC (some w0 :: some w1 :: some w2 :: some w3 :: some w4 :: some (.p (.lst (ao (chN v e)))) :: some (.p (.int (e:Int))) :: rest) h=some (.p (.lst []),h):=ju (ws:=[.p (.lst (ao (chN v e)))]) (h1:=h) (fs:=[some (.p (.int (e:Int)))]) (by simp) rfl rfl rfl c (by simp)
 generalize ao (chN v e)=L at *
 simp[-nY,DS,ss,d1,f]
 simp
theorem KM (F:FK->List W->HH->Option (W×HH)) (w0 w1 w2 w3 w4 w5 w6 w7:W) (rest:Sl) (h:HH) (o:Option Nat) :
 BT.ev F G DU (some w0 :: some w1 :: some w2 :: some w3 :: some w4 :: some w5 :: some w6 :: some w7 :: some (.p (jr o)) :: rest) h=some (.p (.int (jQ o)),h):=by
 cases o<;>simp[DU,jQ]
theorem KN (F:FK->List W->HH->Option (W×HH)) (w0 w1 w2 w3 w4 w5 w7 w8:W) (rest:Sl) (h:HH) (e:Nat) (o:Option Nat) :
 BT.ev F G DV (some w0 :: some w1 :: some w2 :: some w3 :: some w4 :: some w5 :: some (.p (.int (e:Int))) :: some w7 :: some w8 :: some (.p (bU o)) :: rest) h=some (.p (.int (ku e o)),h):=by
 cases o<;>simp[DV,ku]
theorem KO (F:FK->List W->HH->Option (W×HH)) (w0 w1 w2 w3 w4 w5 w6 w8 w9:W) (rest:Sl) (h:HH) {lo m hi:Int} (c1:lo<=m) (c2:m<=hi) :
 BT.ev F G DT (some w0 :: some w1 :: some w2 :: some w3 :: some w4 :: some w5 :: some w6 :: some (.p (.int m)) :: some w8 :: some w9 :: some (.p (.int lo)) :: some (.p (.int hi)) :: rest) h=some (.p (.bl false),h):=by
 simp[DT,c1,c2]
theorem KP (A:pA T G) (k:Nat) (w0 w1 w2 w5 w6 w7 w8 w9:W) (rest:Sl) {n e ev:Nat}{t:Tp}{h:HH} (he:e<=1000) (o:Ok n e ev t h) (th:Th) (w lo hi:Int) (x y:Nat) (hx:lo=(x:Int)) (hy:hi+1=(y:Int)) (hxe:x<=e) (hye:y<=e+1) (hg:∀ i,x<=i->i < y->wv t th i=w) :
 ∃ h',BT.ev (runN T G (k+13)) G HX (some w0 :: some w1 :: some w2 :: some (.o n) :: some (.p th.enc) :: some w5 :: some w6 :: some w7 :: some w8 :: some w9 :: some (.p (.int lo)) :: some (.p (.int hi)) :: some (.p (.int w)) :: rest) h=some (.p (.lst []),h')/\Ok n e ev t h':=by
 obtain ⟨h',cc,o'⟩:=HR (cU (evs (runN T G (k+13)) G (.cons HW .nil)) (BT.ev (runN T G (k+13)) G (.var 0 "_law_at")) [some (.o n),some (.p th.enc),some (.p (.int w))]) (fun (i:Nat)=>D.int ((x:Int)+(i:Int))) (fun _=>none) (Ok n e ev t) (Pr (y - x)) (fun i hi h o=>by
  have hi:=List.mem_range.mp hi
  obtain ⟨h1,b1,o1⟩:=jw A (k+1) o th (x+i) (by omega)
  rw[hg (x+i) (by omega) (by omega),UF] at b1
  exact ⟨h1,by simp[cU,cJ,HW,b1],o1⟩) h o
 refine ⟨h',?_,o'⟩
 rw[qX] at cc
 have rg:fE .rng2 [.int lo,.int (hi+1)]=some (upto (x:Int) (y - x)):=by
  rw[fL,hx,hy]
  have c:((-100000<=(x:Int):Bool)&&((x:Int)<=100000:Bool)&&((-100000<=(y:Int):Bool))&&(((y:Int)<=100000:Bool)))=true:=by
   simp only[O5,decide_eq_true_eq];omega
  rw[if_pos c,show ((y:Int) - (x:Int)).toNat=y - x by omega]
 exact ju (ws:=[.p (.int lo),.p (.int (hi+1))]) (h1:=h) (fs:=[some (.o n),some (.p th.enc),some (.p (.int w))]) (by simp) rg rfl rfl cc (by simp)
theorem KQ (A:pA T G) (k:Nat) (w0 w1 w2 w6 w7 w9 wa wb:W) (rest:Sl) {n e ev:Nat}{t:Tp}{h:HH} (o:Ok n e ev t h) (th:Th) {m:Nat} (hm:m<=e) {o1:Option Nat} (F1:FL (gc t th (wv t th m)) 0 m o1) :
 ∃ h',BT.ev (runN T G (k+13)) G AL (some w0 :: some w1 :: some w2 :: some (.o n) :: some (.p th.enc) :: some (.p (.lst (ao (chN (wv t th) e)))) :: some w6 :: some w7 :: some (.p (jr o1)) :: some w9 :: some wa :: some wb :: some (.p (.int (wv t th m))) :: rest) h=some (.p (.bl false),h')/\Ok n e ev t h':=by
 cases o1 with
 | none=>exact ⟨h,by simp[AL],o⟩
 | some j =>
  obtain ⟨_,j2,j3,j4⟩:=F1.yes j rfl
  have gm:=AS (t:=t) (th:=th) (i:=m) rfl
  have jm:j≠m:=fun z=>by rw[z,gm] at j3;cases j3
  have e1:=mQ (j4 (j+1) (by omega) (by omega))
  have ne:=D4 j3
  have mem:=u5 (AR (v:=wv t th) (e:=e) (k:=j) (by omega) (by rw[e1];exact fun z=>ne z.symm))
  obtain ⟨h1,b1,o1⟩:=jw A (k+1) o th j (by omega)
  refine ⟨h1,?_,o1⟩
  rw[AC]
  have ez:((j+1:Nat):Int)=(j:Int)+1:=by omega
  rw[ez] at mem
  have nb:(wv t th j==wv t th m)=false:=beq_eq_false_iff_ne.mpr ne
  generalize ao (chN (wv t th) e)=L at *
  simp[-aI,AL,mem,b1,nb,ne]
theorem KR (A:pA T G) (k:Nat) (w0 w1 w2 w6 w7 w8 wa wb:W) (rest:Sl) {n e ev:Nat}{t:Tp}{h:HH} (o:Ok n e ev t h) (th:Th) {m:Nat} (hm:m<=e) {o2:Option Nat} (F2:FF (gc t th (wv t th m)) m e o2) :
 ∃ h',BT.ev (runN T G (k+13)) G AM (some w0 :: some w1 :: some w2 :: some (.o n) :: some (.p th.enc) :: some (.p (.lst (ao (chN (wv t th) e)))) :: some w6 :: some w7 :: some w8 :: some (.p (bU o2)) :: some wa :: some wb :: some (.p (.int (wv t th m))) :: rest) h=some (.p (.bl false),h')/\Ok n e ev t h':=by
 cases o2 with
 | none=>exact ⟨h,by simp[AM],o⟩
 | some j =>
  obtain ⟨j1,j2,j3,j4⟩:=F2.yes j rfl
  have gm:=AS (t:=t) (th:=th) (i:=m) rfl
  have jm:j≠m:=fun z=>by rw[z,gm] at j3;cases j3
  have e1:=mQ (j4 (j - 1) (by omega) (by omega))
  have ne:=D4 j3
  have ej:j - 1+1=j:=by omega
  have mem:=u5 (AR (v:=wv t th) (e:=e) (k:=j - 1) (by omega) (by rw[e1,ej];exact ne))
  rw[ej] at mem
  obtain ⟨h1,b1,o1⟩:=jw A (k+1) o th j j2
  refine ⟨h1,?_,o1⟩
  rw[Ax]
  have nb:(wv t th j==wv t th m)=false:=beq_eq_false_iff_ne.mpr ne
  generalize ao (chN (wv t th) e)=L at *
  simp[-aI,AM,mem,b1,nb,ne]
theorem AU (A:pA T G) (k:Nat) (w0 w1 w2:W) (m5:List (Option W)) {n e ev:Nat}{t:Tp}{h:HH} (o:Ok n e ev t h) (th:Th) (w5 w6 w7 w8 w9 wa wb wc:W) (x14:Option W) {j:Nat} (hj:j∈chl (wv t th) e) :
 ∃ h',evS (runN T G (k+13)) G qY [some w0,some w1,some w2,some (.o n),some (.p th.enc),some w5,some w6,some w7,some w8,some w9,some wa,some wb,some wc,some (.p (.int ((j:Int)+1))),x14] h=some (.nx [some w0,some w1,some w2,some (.o n),some (.p th.enc),some w5,some w6,some w7,some w8,some w9,some wa,some wb,some wc,some (.p (.int ((j:Int)+1))),x14] h')/\Ok n e ev t h':=by
 obtain ⟨j1,j2⟩:=jv.mp hj
 obtain ⟨p1,h1,b1,F1,o1⟩:=u6 A k o th (j+1) (by omega)
 obtain ⟨p2,h2,b2,F2,o2⟩:=u9 A k o1 th j (by omega)
 have e1:p1=some j:=by
  cases p1 with
  | none =>
   have:=mQ (F1.no rfl j (P0 _) (by omega))
   exact absurd this.symm j2
  | some q =>
   obtain ⟨_,q2,q3,q4⟩:=F1.yes q rfl
   have q5:=D4 q3
   have:q≠j+1:=fun z=>q5 (by rw[z])
   rcases Pq q j with z | z
   ·exact absurd (mQ (q4 j z (by omega))).symm j2
   ·rw[show q=j by omega]
 have e2:p2=some (j+1):=by
  cases p2 with
  | none=>exact absurd (mQ (F2.no rfl (j+1) (by omega) (by omega))) j2
  | some q =>
   obtain ⟨q1,q2,q3,q4⟩:=F2.yes q rfl
   have q5:=D4 q3
   have:q≠j:=fun z=>q5 (by rw[z])
   rcases Pq (j+1) q with z | z
   ·exact absurd (mQ (q4 (j+1) (by omega) z)) j2
   ·rw[show q=j+1 by omega]
 have ez:((j+1:Nat):Int)=(j:Int)+1:=by omega
 rw[e1,AC,ez] at b1
 rw[e2,Ax,ez] at b2
 refine ⟨h2,?_,o2⟩
 simp[qY,b1,b2]
theorem q8 (A:pA T G) (k:Nat) (w0 w1 w2 w5 w6 w7 w8 w9 wa wb wc:W) (x14:Option W) {n e ev:Nat}{t:Tp} (th:Th):∀ (l:List Nat) (x:Option W) (h:HH),(∀ j∈l,j∈chl (wv t th) e)->Ok n e ev t h →
 ∃ y h',bx (evS (runN T G (k+13)) G qY) [(13,"_law_at")] (l.map fun (k:Nat)=>D.int ((k:Int)+1)) [some w0,some w1,some w2,some (.o n),some (.p th.enc),some w5,some w6,some w7,some w8,some w9,some wa,some wb,some wc,x,x14] h=some (.nx [some w0,some w1,some w2,some (.o n),some (.p th.enc),some w5,some w6,some w7,some w8,some w9,some wa,some wb,some wc,y,x14] h')/\Ok n e ev t h'
 | [],x,h,_,o=>⟨x,h,rfl,o⟩
 | j :: l,x,h,hl,o=>by
  obtain ⟨h1,b1,o1⟩:=AU A k w0 w1 w2 [] o th w5 w6 w7 w8 w9 wa wb wc x14 (hl j Pf)
  obtain ⟨y,h2,b2,o2⟩:=q8 A k w0 w1 w2 w5 w6 w7 w8 w9 wa wb wc x14 th l (some (.p (.int ((j:Int)+1)))) h1 (fun q hq=>hl q (Pb _ hq)) o1
  refine ⟨y,h2,?_,o2⟩
  have st:∀ (d:D) (l:List D),bx (evS (runN T G (k+13)) G qY) [(13,"_law_at")] (d :: l) [some w0,some w1,some w2,some (.o n),some (.p th.enc),some w5,some w6,some w7,some w8,some w9,some wa,some wb,some wc,x,x14] h=gj (evS (runN T G (k+13)) G qY [some w0,some w1,some w2,some (.o n),some (.p th.enc),some w5,some w6,some w7,some w8,some w9,some wa,some wb,some wc,some (.p d),x14] h) (bx (evS (runN T G (k+13)) G qY) [(13,"_law_at")] l):=fun d l=>rfl
  rw[Pe,st,b1,cK,b2]
theorem KS (F:FK->List W->HH->Option (W×HH)) (w0 w1 w2 w3 w4 w5 w6 w7 w8 w9 wa wb wc:W) (x13:Option W) (h:HH) (l:List (Int×Nat)) (hl:l.length<=1000) :
 BT.ev F G KG [some w0,some w1,some w2,some w3,some w4,some w5,some w6,some w7,some w8,some w9,some wa,some wb,some wc,x13,some (.p (.lst (l.map encP)))] h=some (.p (.lst (aa (l.map fun p=>(p.2:Int)))),h):=by
 have c:=AE (cU (evs F G .nil) (BT.ev F G (.var 1 "_law_many")) []) 2 encP (fun p=>[.int p.1,.int (p.2:Int)]) (fun p=>some (.int (p.2:Int))) h l (fun p hp=>⟨rfl,by simp[cU,cJ]⟩)
 have cm:l.filterMap (fun p=>some (D.int (p.2:Int)))=aa (l.map fun p=>(p.2:Int)):=by
  unfold aa
  rw[QB,Ve];rfl
 rw[cm] at c
 exact ju (ws:=[.p (.lst (l.map encP))]) (h1:=h) (fs:=[]) (by simp) rfl rfl rfl c (by unfold aa;rw[Pa,Pa];omega)
theorem k21_w (F:FK->List W->HH->Option (W×HH)) (w0 w1 w2 w3 w4 w5 w6 w7 w8 w9 wa wb wc:W) (x13:Option W) (h:HH) (l:List (Int×Nat)) (hl:l.length<=1000) :
 BT.ev F G KH [some w0,some w1,some w2,some w3,some w4,some w5,some w6,some w7,some w8,some w9,some wa,some wb,some wc,x13,some (.p (.lst (l.map encP)))] h=some (.p (.lst (aa (l.map Qc))),h):=by
 have c:=AE (cU (evs F G .nil) (BT.ev F G (.var 0 "_law_worth")) []) 2 encP (fun p=>[.int p.1,.int (p.2:Int)]) (fun p=>some (.int p.1)) h l (fun p hp=>⟨rfl,by simp[cU,cJ]⟩)
 have cm:l.filterMap (fun p=>some (D.int p.1))=aa (l.map Qc):=by
  unfold aa
  rw[QB,Ve];rfl
 rw[cm] at c
 exact ju (ws:=[.p (.lst (l.map encP))]) (h1:=h) (fs:=[]) (by simp) rfl rfl rfl c (by unfold aa;rw[Pa,Pa];omega)
structure Cn (v:Nat->Int) (e:Nat) (l:List (Int×Nat)):Prop where
 pos:1<=l.length
 le:l.length<=(chl v e).length+1
 sum:(l.map fun p=>(p.2:Int)).sum=(e:Int)+1
 one:chl v e=[]->l.length=1
 two:chl v e≠[]->2<=l.length
 zero:v 0∈l.map Qc
theorem KU {v:Nat->Int}{e:Nat}{l:List (Int×Nat)} (c:CI l ((Pr (e+1)).map v)):Cn v e l:=by
 have mem:∀ i,i<=e->v i∈l.map Qc:=fun i hi=>(c.mem _).mpr (List.mem_map.mpr ⟨i,List.mem_range.mpr (by omega),rfl⟩)
 have z:=mem 0 (P0 _)
 have fl:(l.map Qc).length=l.length:=Pa ..
 have le:l.length<=(chl v e).length+1:=by
  have:=lY _ (v 0 :: (chl v e).map fun k=>v (k+1)) c.nd fun x hx=>by
   obtain ⟨i,hi,rfl⟩:=List.mem_map.mp ((c.mem x).mp hx)
   have:=List.mem_range.mp hi
   exact cover i (by omega)
  rw[fl,Pk,Pa] at this
  exact this
 have pos:1<=l.length:=by have:=Vd z;omega
 refine ⟨pos,le,?_,fun h=>?_,fun h=>?_,z⟩
 ·rw[qZ,c.sum,Pa,QD];omega
 ·rw[h,P8] at le;omega
 ·obtain ⟨k,hk⟩:=List.exists_mem_of_ne_nil _ h
  obtain ⟨k1,k2⟩:=jv.mp hk
  have:=lY [v (k+1),v k] (l.map Qc) (by simp[k2]) fun x hx=>by
   rcases List.mem_cons.mp hx with z | z
   ·rw[z];exact mem _ (by omega)
   ·rw[List.mem_singleton.mp z];exact mem _ (by omega)
  rw[fl] at this
  exact this
theorem KW (F:FK->List W->HH->Option (W×HH)) (w0 w1 w2 w3 w4 w7 w8 w9 wa wb wc:W) (x13:Option W) (h:HH) {v:Nat->Int}{e:Nat}{l:List (Int×Nat)} (he:e<=900) (c:Cn v e l) :
 BT.ev F G DW [some w0,some w1,some w2,some w3,some w4,some (.p (.lst (ao (chN v e)))),some (.p (.int (e:Int))),some w7,some w8,some w9,some wa,some wb,some wc,x13,some (.p (.lst (l.map encP)))] h=some (.p (.bl false),h):=by
 have cl:=pq v e
 have c1:=c.pos
 have c2:=c.le
 have s:=KS (G:=G) F w0 w1 w2 w3 w4 (.p (.lst (ao (chN v e)))) (.p (.int (e:Int))) w7 w8 w9 wa wb wc x13 h l (by omega)
 have bs:biD .sum [.lst (aa (l.map fun p=>(p.2:Int)))]=some (.int ((e:Int)+1)):=by
  rw[tS,jP]
  show some (D.int _)=_
  rw[c.sum]
 have lb:biD .len [.lst (l.map encP)]=some (.int (l.length:Int)):=by rw[dU,Pa]
 have lr:biD .len [.lst (ao (chN v e))]=some (.int ((chl v e).length:Int)):=by rw[dU,HU,u0]
 have d1:(1:Int)<=(l.length:Int):=by omega
 have d2:(l.length:Int)<=((chl v e).length:Int)+1:=by omega
 generalize aa (l.map fun p=>(p.2:Int))=S at *
 generalize ao (chN v e)=R at *
 generalize l.map encP=L at *
 generalize (l.length:Int)=q at *
 simp[-dU,DW,s,bs,lb,lr,d1,d2]
theorem KY (F:FK->List W->HH->Option (W×HH)) (w0 w1 w2 w3 w4 w6 w7 w8 w9 wa wb wc:W) (x13:Option W) (h:HH) {v:Nat->Int}{e:Nat}{l:List (Int×Nat)} (he:e<=900) (c:Cn v e l) (v0:v 0=0) :
 BT.ev F G AN [some w0,some w1,some w2,some w3,some w4,some (.p (.lst (ao (chN v e)))),some w6,some w7,some w8,some w9,some wa,some wb,some wc,x13,some (.p (.lst (l.map encP)))] h=some (.p (.bl true),h):=by
 have cl:=pq v e
 have c2:=c.le
 have s:=k21_w (G:=G) F w0 w1 w2 w3 w4 (.p (.lst (ao (chN v e)))) w6 w7 w8 w9 wa wb wc x13 h l (by omega)
 have lb:biD .len [.lst (l.map encP)]=some (.int (l.length:Int)):=by rw[dU,Pa]
 have mm:dQ .mem (.int 0) (.lst (aa (l.map Qc)))=some true:=by
  rw[aM,if_pos (qW _ _)]
  have:(aa (l.map Qc)).any (fun y=>eqv y (.int 0))=true:=List.any_eq_true.mpr ⟨.int 0,List.mem_map.mpr ⟨0,by rw[← v0];exact c.zero,rfl⟩,by simp⟩
  rw[this]
 by_cases z:chl v e=[]
 ·have r:ao (chN v e)=[]:=by unfold chN;rw[z];rfl
  have q:=c.one z
  rw[r] at s ⊢
  rw[q] at lb
  generalize aa (l.map Qc)=S at *
  generalize l.map encP=L at *
  simp[-dU,-aM,AN,lb,s,mm]
 ·have q:=c.two z
  have r:dQ .eq (.lst (ao (chN v e))) (.lst [])=some false:=by
   unfold chN
   cases g:chl v e with
   | nil=>exact absurd g z
   | cons x y =>
    show dQ .eq (.lst (D.int ((x+1:Nat):Int) :: ao (y.map (·+1)))) (.lst [])=_
    simp
  have q1:((l.length:Int)==1)=false:=beq_eq_false_iff_ne.mpr (by omega)
  generalize aa (l.map Qc)=S at *
  generalize ao (chN v e)=R at *
  generalize l.map encP=L at *
  have ee:BT.ev F G (.cmp .eq (.var 5 "_law_row_here") (.lst false .nil)) [some w0,some w1,some w2,some w3,some w4,some (.p (.lst R)),some w6,some w7,some w8,some w9,some wa,some wb,some wc,x13,some (.p (.lst L))] h=some (.p (.bl false),h):=by
   simp[-tR,r]
  unfold AN
  generalize (.cmp .eq (.var 5 "_law_row_here") (.lst false .nil):E)=E1 at *
  generalize (l.length:Int)=q2 at *
  have q3:¬ q2=1:=fun z=>by rw[z] at q1;cases q1
  simp[-dU,-aM,ee,lb,q1,q3,s,mm]
theorem HY (F:FK->List W->HH->Option (W×HH)) (w0 w1 w2 w3 w4 w5 w6 w7 w8 w9 wa wb wc:W) (x13:Option W) (ds:List D) (h:HH) (b1:F (.f "spread") [w3,w4] h=some (.p (.lst ds),h))
 (q1:BT.ev F G DW [some w0,some w1,some w2,some w3,some w4,some w5,some w6,some w7,some w8,some w9,some wa,some wb,some wc,x13,some (.p (.lst ds))] h=some (.p (.bl false),h)) (q2:BT.ev F G AN [some w0,some w1,some w2,some w3,some w4,some w5,some w6,some w7,some w8,some w9,some wa,some wb,some wc,x13,some (.p (.lst ds))] h=some (.p (.bl true),h)) :
 evS F G DX [some w0,some w1,some w2,some w3,some w4,some w5,some w6,some w7,some w8,some w9,some wa,some wb,some wc,x13,none] h=some (.rt (.p (.bl true)) h):=by
 simp[-gB,tnx,DX,b1,q1,q2]
theorem HZ (F:FK->List W->HH->Option (W×HH)) (w0 w1 w2 w3 w4 w6 w7 w8 w9 wa wb:W) (row:List D) (c:Int) (y:Option W) (h h1 h2 h3 h4 h5 h6:HH) (b1:F (.f "worth_at") [w3,w7,w4] h=some (.p (.int c),h1))
 (q1:BT.ev F G HX [some w0,some w1,some w2,some w3,some w4,some (.p (.lst row)),some w6,some w7,some w8,some w9,some wa,some wb,some (.p (.int c)),none,none] h1=some (.p (.lst []),h2)) (q2:BT.ev F G AL [some w0,some w1,some w2,some w3,some w4,some (.p (.lst row)),some w6,some w7,some w8,some w9,some wa,some wb,some (.p (.int c)),none,none] h2=some (.p (.bl false),h3)) (q3:BT.ev F G AM [some w0,some w1,some w2,some w3,some w4,some (.p (.lst row)),some w6,some w7,some w8,some w9,some wa,some wb,some (.p (.int c)),none,none] h3=some (.p (.bl false),h4))
 (b2:bx (evS F G qY) [(13,"_law_at")] row [some w0,some w1,some w2,some w3,some w4,some (.p (.lst row)),some w6,some w7,some w8,some w9,some wa,some wb,some (.p (.int c)),none,none] h4=some (.nx [some w0,some w1,some w2,some w3,some w4,some (.p (.lst row)),some w6,some w7,some w8,some w9,some wa,some wb,some (.p (.int c)),y,none] h5)) (tT:evS F G DX [some w0,some w1,some w2,some w3,some w4,some (.p (.lst row)),some w6,some w7,some w8,some w9,some wa,some wb,some (.p (.int c)),y,none] h5=some (.rt (.p (.bl true)) h6)) :
 evS F G DY [some w0,some w1,some w2,some w3,some w4,some (.p (.lst row)),some w6,some w7,some w8,some w9,some wa,some wb,none,none,none] h=some (.rt (.p (.bl true)) h6):=by
 simp[-gB,tnx,-bx,DY,b1,q1,q2,q3,gy,b2,tT]
theorem Ia (F:FK->List W->HH->Option (W×HH)) (w0 w1 w2 w3 w4 w5:W) (e m lo hi:Int) (d8 d9:D) (h h1 h2 h6:HH) (rm:F (.f "_law_drawn") [w0,.p (.int 443),.p (.int (e+1))] h=some (.p (.int m),h))
 (b1:F (.f "last_change") [w3,.p (.int m),w4] h=some (.p d8,h1)) (b2:F (.f "next_change") [w3,.p (.int m),w4] h1=some (.p d9,h2))
 (ql:BT.ev F G DU [some w0,some w1,some w2,some w3,some w4,some w5,some (.p (.int e)),some (.p (.int m)),some (.p d8),some (.p d9),none,none,none,none,none] h2=some (.p (.int lo),h2)) (qh:BT.ev F G DV [some w0,some w1,some w2,some w3,some w4,some w5,some (.p (.int e)),some (.p (.int m)),some (.p d8),some (.p d9),some (.p (.int lo)),none,none,none,none] h2=some (.p (.int hi),h2)) (qb:BT.ev F G DT [some w0,some w1,some w2,some w3,some w4,some w5,some (.p (.int e)),some (.p (.int m)),some (.p d8),some (.p d9),some (.p (.int lo)),some (.p (.int hi)),none,none,none] h2=some (.p (.bl false),h2))
 (tC:evS F G DY [some w0,some w1,some w2,some w3,some w4,some w5,some (.p (.int e)),some (.p (.int m)),some (.p d8),some (.p d9),some (.p (.int lo)),some (.p (.int hi)),none,none,none] h2=some (.rt (.p (.bl true)) h6)):evS F G DZ [some w0,some w1,some w2,some w3,some w4,some w5,some (.p (.int e)),none,none,none,none,none,none,none,none] h=some (.rt (.p (.bl true)) h6):=by
 simp[-gB,tnx,DZ,rm,b1,b2,ql,qh,qb,tC]
theorem Ib (F:FK->List W->HH->Option (W×HH)) (w0 w1 w2:W) (d4:D) (row:List D) (n:Nat) (e:Int) (h h1 h6:HH) (fs0:List (Str×W)) (ob:oat h n=some (Pp "Tape",fs0)) (me:aW "end" fs0=none) (rt:F (.f "_law_thing") [w0,.p (.int 442)] h=some (.p d4,h))
 (b1:F (.f "changes") [.o n,.p d4] h=some (.p (.lst row),h)) (b2:F (.m "Tape" "end") [.o n] h=some (.p (.int e),h1)) (qa:BT.ev F G DS [some w0,some w1,some w2,some (.o n),some (.p d4),some (.p (.lst row)),some (.p (.int e)),none,none,none,none,none,none,none,none] h1=some (.p (.bl false),h1))
 (tM:evS F G DZ [some w0,some w1,some w2,some (.o n),some (.p d4),some (.p (.lst row)),some (.p (.int e)),none,none,none,none,none,none,none,none] h1=some (.rt (.p (.bl true)) h6)):evS F G D0 [some w0,some w1,some w2,some (.o n),none,none,none,none,none,none,none,none,none,none,none] h=some (.rt (.p (.bl true)) h6):=by
 simp[-gB,tnx,D0,rt,b1,ob,me,b2,qa,tM]
theorem D5 (k:Nat) (w0:W) (v1 mo z1:Int) (dpg das:D) (H0 h6:HH) (hL:T "law"=some fT)
 (rp:∀ h,runN T G (k+13) "_law_program" [w0,.p (.int 20)] h=some (.p dpg,h)) (ra:∀ h,runN T G (k+13) "_law_asked" [w0,.p (.int 450)] h=some (.p das,h))
 (r1:∀ h,runN T G (k+13) "_law_drawn" [w0,.p (.int 440),.p (.int 15)] h=some (.p (.int mo),h)) (r2:∀ h,runN T G (k+13) "_law_drawn" [w0,.p (.int 441),.p (.int 5)] h=some (.p (.int v1),h)) (c1:1+v1=z1)
 (in1:runN T G (k+13) (.m "Tape" "__init__") [.o 0,.p dpg,.p das,.p (.int z1),.p (.int mo)] [.o "Tape" []]=some (.p .non,H0))
 (tn:evS (runN T G (k+13)) G D0 [some w0,some (.p dpg),some (.p das),some (.o 0),none,none,none,none,none,none,none,none,none,none,none] H0=some (.rt (.p (.bl true)) h6))
 (f0:fin [] (.p (.bl true)) h6=some (.p (.bl true),[])):runN T G (k+14) "law" [w0] []=some (.p (.bl true),[]):=by
 have t0:evS (runN T G (k+13)) G D3 [some w0,none,none,none,none,none,none,none,none,none,none,none,none,none,none] []=some (.rt (.p (.bl true)) h6):=by
  simp[-gB,tnx,D3,rp,ra,r1,r2,c1,in1,tn]
 rw[run_eq hL rfl]
 show j8 (evS (runN T G (k+13)) G D3 [some w0,none,none,none,none,none,none,none,none,none,none,none,none,none,none] []) (fin [])=_
 rw[t0]
 exact f0
theorem xu (A:pA T G) (Lx:NW T) (ns:List Int) (hl:ns.length<=1000) (k:Nat):∃ h',runN T G (k+14) "law" [.p (.lst (aa ns))] []=some (.p (.bl true),h'):=by
 have P:=A.P
 obtain ⟨pg,dp,rp⟩:=qN (G:=G) Lx.lw Lx.program ns hl 20
 obtain ⟨asked,ha,hal,ra⟩:=xh (G:=G) Lx.lw ns hl 450
 obtain ⟨mo,hmo,rmo⟩:=iA (G:=G) Lx.lw ns hl 440 15 (by decide)
 obtain ⟨v1,hv1,rv1⟩:=iA (G:=G) Lx.lw ns hl 441 5 (by decide)
 obtain ⟨th,rt⟩:=xr (G:=G) Lx.lw Lx.thing ns hl 442
 obtain ⟨e,R,es⟩:=Dz pg asked mo
 have le:=R.le
 have in1:runN T G (k+13) (.m "Tape" "__init__") [.o 0,.p (bG pg),.p (.lst (aa asked)),.p (.int ((v1+1:Nat):Int)),.p (.int (mo:Int))] [.o "Tape" []]=some (.p .non,[.o "Tape" ((Tp.new pg asked (v1+1) mo).fs 1),.l [St.zero.enc]]):=Aw P (k+11) pg asked (v1+1) mo (by omega) []
 have A0:TAt [.o "Tape" ((Tp.new pg asked (v1+1) mo).fs 1),.l [St.zero.enc]] 0 1 (Tp.new pg asked (v1+1) mo):=HN [] pg asked (v1+1) mo
 have I0:TI (Tp.new pg asked (v1+1) mo) e (v1+1):=HM dp.ok ha R (by omega) (by omega) (by omega)
 have b1:=qR P A.C A.R A.Q k A0 I0 th
 obtain ⟨h1,r1,t1,b2,g1,I1,s1,f1⟩:=AB P A.M (k+4) A0 I0
 have o1:Ok 0 e (v1+1) t1 h1:=⟨r1,t1,g1.b,I1,.refl t1⟩
 rw[← ET s1,AO] at b1
 obtain ⟨m,hm,rm⟩:=iA (G:=G) Lx.lw ns hl 443 ((e:Int)+1) (by omega)
 have hm:m<=e:=by omega
 obtain ⟨p1,h2,b3,F1,o2⟩:=u6 A k o1 th m hm
 obtain ⟨p2,h3,b4,F2,o3⟩:=u9 A k o2 th m hm
 obtain ⟨x,y,x1,y1,x2,y2,y3,gap⟩:=KI hm F1 F2
 obtain ⟨h4,b5,o4⟩:=jw A (k+1) o3 th m hm
 obtain ⟨h5,b6,o5⟩:=KP A k (.p (.lst (aa ns))) (.p (bG pg)) (.p (.lst (aa asked))) (.p (.lst (ao (chN (wv t1 th) e)))) (.p (.int (e:Int))) (.p (.int (m:Int))) (.p (jr p1)) (.p (bU p2)) [none,none] (by omega) o4 th (wv t1 th m) (jQ p1) (ku e p2) x y x1 y1 (by omega) y3 gap
 obtain ⟨h6,b7,o6⟩:=KQ A k (.p (.lst (aa ns))) (.p (bG pg)) (.p (.lst (aa asked))) (.p (.int (e:Int))) (.p (.int (m:Int))) (.p (bU p2)) (.p (.int (jQ p1))) (.p (.int (ku e p2))) [none,none] o5 th hm F1
 obtain ⟨h7,b8,o7⟩:=KR A k (.p (.lst (aa ns))) (.p (bG pg)) (.p (.lst (aa asked))) (.p (.int (e:Int))) (.p (.int (m:Int))) (.p (jr p1)) (.p (.int (jQ p1))) (.p (.int (ku e p2))) [none,none] o6 th hm F2
 obtain ⟨y13,h8,b9,o8⟩:=q8 A k (.p (.lst (aa ns))) (.p (bG pg)) (.p (.lst (aa asked))) (.p (.lst (ao (chN (wv t1 th) e)))) (.p (.int (e:Int))) (.p (.int (m:Int))) (.p (jr p1)) (.p (bU p2)) (.p (.int (jQ p1))) (.p (.int (ku e p2))) (.p (.int (wv t1 th m))) none th (chl (wv t1 th) e) none h7 (fun j hj=>hj) o7
 have eD:((chl (wv t1 th) e).map fun (k:Nat)=>D.int ((k:Int)+1))=ao (chN (wv t1 th) e):=AO _ _
 rw[eD] at b9
 obtain ⟨r9,t9,a9,I9,s9⟩:=o8
 obtain ⟨l,ci,b10⟩:=sS P A.C A.R A.Q A.Sp k a9 I9 (by omega) th
 rw[ET s9] at ci
 have cn:=KU ci
 have q1:=KW (G:=G) (runN T G (k+13)) (.p (.lst (aa ns))) (.p (bG pg)) (.p (.lst (aa asked))) (.o 0) (.p th.enc) (.p (.int (m:Int))) (.p (jr p1)) (.p (bU p2)) (.p (.int (jQ p1))) (.p (.int (ku e p2))) (.p (.int (wv t1 th m))) y13 h8 (by omega) cn
 have q2:=KY (G:=G) (runN T G (k+13)) (.p (.lst (aa ns))) (.p (bG pg)) (.p (.lst (aa asked))) (.o 0) (.p th.enc) (.p (.int (e:Int))) (.p (.int (m:Int))) (.p (jr p1)) (.p (bU p2)) (.p (.int (jQ p1))) (.p (.int (ku e p2))) (.p (.int (wv t1 th m))) y13 h8 (by omega) cn (DP t1 th)
 have tT:=HY (G:=G) (runN T G (k+13)) _ _ _ _ _ _ _ _ _ _ _ _ _ y13 _ h8 b10 q1 q2
 have tC:=HZ (G:=G) (runN T G (k+13)) _ _ _ _ _ _ _ _ _ _ _ _ _ y13 h3 h4 h5 h6 h7 h8 h8 b5 b6 b7 b8 b9 tT
 have ql:=KM (G:=G) (runN T G (k+13)) (.p (.lst (aa ns))) (.p (bG pg)) (.p (.lst (aa asked))) (.o 0) (.p th.enc) (.p (.lst (ao (chN (wv t1 th) e)))) (.p (.int (e:Int))) (.p (.int (m:Int))) [some (.p (bU p2)),none,none,none,none,none] h3 p1
 have qh:=KN (G:=G) (runN T G (k+13)) (.p (.lst (aa ns))) (.p (bG pg)) (.p (.lst (aa asked))) (.o 0) (.p th.enc) (.p (.lst (ao (chN (wv t1 th) e)))) (.p (.int (m:Int))) (.p (jr p1)) [some (.p (.int (jQ p1))),none,none,none,none] h3 e p2
 have qb:=KO (G:=G) (runN T G (k+13)) (.p (.lst (aa ns))) (.p (bG pg)) (.p (.lst (aa asked))) (.o 0) (.p th.enc) (.p (.lst (ao (chN (wv t1 th) e)))) (.p (.int (e:Int))) (.p (jr p1)) (.p (bU p2)) [none,none,none] h3 (lo:=jQ p1) (m:=(m:Int)) (hi:=ku e p2) (by omega) (by omega)
 have tM:=Ia (G:=G) (runN T G (k+13)) (.p (.lst (aa ns))) (.p (bG pg)) (.p (.lst (aa asked))) (.o 0) (.p th.enc) (.p (.lst (ao (chN (wv t1 th) e)))) (e:Int) (m:Int) (jQ p1) (ku e p2) (jr p1) (bU p2) h1 h2 h3 h8 (rm (k+11) h1) b3 b4 ql qh qb tC
 have qa:=KJ (G:=G) (runN T G (k+13)) (.p (.lst (aa ns))) (.p (bG pg)) (.p (.lst (aa asked))) (.o 0) (.p th.enc) [none,none,none,none,none,none,none,none] h1 (wv t1 th) e (by omega)
 have tN:=Ib (G:=G) (runN T G (k+13)) (.p (.lst (aa ns))) (.p (bG pg)) (.p (.lst (aa asked))) th.enc (ao (chN (wv t1 th) e)) 0 (e:Int) _ h1 h8 _ A0.ob (Kz _ _) (rt (k+10) _) b1 b2 qa tM
 exact ⟨[],D5 k (.p (.lst (aa ns))) (v1:Int) (mo:Int) ((v1+1:Nat):Int) (bG pg) (.lst (aa asked)) _ h8 Lx.law (rp (k+6)) (ra (k+10)) (rmo (k+11)) (rv1 (k+11)) (by omega) in1 tN (by simpa using iF [] h8 (.bl true))⟩
end
end BT
end
section
namespace BF
open PySem PySem.Spec PyProof.Rows L2 BS
noncomputable def sV (P:Pi) (w:PK) (K:O0) (mg:Str->Option O3) (x:Str) (z:BT.W):Prop:=∃ u v,mg x=some u/\RelV v u/\∀ m H,RW P w K m H v z
theorem AV {P:Pi}{w:PK}{K:O0}{h:Heap}{mg:Str->Option O3} (X:K.In h) (G:h.Ns Po mg) {x:Str}{n:Int}{t:Tok} (a:P1 K Po x=some (some (.int n t))):sV P w K mg x (.p (.int n)) :=
 ⟨_,.int n,Q7 X G a,⟨t,rfl⟩,fun _ _=>.p (.int n)⟩
inductive cS:List Str->List O3->Prop where
 | nil:cS [] []
 | cons {x:Str}{xs:List Str}{t:Tok}{vs:List O3} (h:PyData.strOk x=true) (r:cS xs vs):cS (x :: xs) (.str x t :: vs)
theorem cS.vals:∀ {xs:List Str}{vs:List O3},cS xs vs->au (xs.map V.str) vs
 | _,_,.nil=>.nil
 | _,_,.cons _ r=>.cons ⟨_,rfl⟩ r.vals
theorem cS.rds {K:O0}{m:List Addr}{H:Hp}:∀ {xs:List Str}{vs:List O3},cS xs vs->RDs K m H (xs.map V.str) (xs.map BT.D.str)
 | _,_,.nil=>.nil
 | _,_,.cons h r=>.cons (.str _ h) r.rds
theorem cS.len:∀ {xs:List Str}{vs:List O3},cS xs vs->vs.length=xs.length
 | _,_,.nil=>rfl
 | _,_,.cons _ r=>by simp[r.len]
theorem AW {P:Pi}{w:PK}{K:O0}{h:Heap}{mg:Str->Option O3} (X:K.In h) (G:h.Ns Po mg) {x:Str}{f:Addr}{its:Array O3}{n:Nat}{sl:Array (Option O3)}{xs:List Str} (a:P1 K Po x=some (some (.ref f)))
 (l:K.lookup f=some ⟨.type "tuple",none,.seq its n,sl⟩) (hl:xs.length<=1000) (r:cS xs its.toList):sV P w K mg x (.p (.tup (xs.map BT.D.str))):=by
 refine ⟨_,.ref f,Q7 X G a,rfl,fun m H=>.p (.tup (.inr ⟨_,its,n,⟨l,rfl,rfl,?_,r.vals⟩,rfl⟩) r.rds)⟩
 have:=r.len
 have e:its.size=xs.length:=by rw[← this];simp
 rw[e]
 exact Qk (vS hl)
inductive fq (w:PK):List (Str×Int)->List Um->Prop where
 | nil:fq w [] []
 | cons {x:Str}{n:Int}{kvs:List (Str×Int)}{t u:Tok}{es:List Um} (r:fq w kvs es):fq w ((x,n) :: kvs) (⟨PyData.keyHash w.params x,.str x t,.int n u⟩ :: es)
theorem fq.ex {P:Pi}{w:PK}:∀ {kvs:List (Str×Int)}{es:List Um},fq w kvs es->∃ vs:List (Key×O3),KV ((kvs.map fun q=>(q.1,V.int q.2)).map fun q=>((Sum.inr q.1:Key),q.2)) vs/\Pairs (aG P w) es vs/\vs.map (·.1)=kvs.map (fun q=>(Sum.inr q.1:Key))/\(∀ e∈es,∃ k,(aG P w).is k e.key=true/\e.hash=(aG P w).hash k)
 | _,_,.nil=>⟨[],.nil,.nil,rfl,fun e he=>nomatch he⟩
 | _,_,@fq.cons _ x n kvs t u es r=>by
  obtain ⟨vs,h1,h2,h3,h4⟩:=r.ex (P:=P)
  have is:(aG P w).is (Sum.inr x) (.str x t)=true:=by show Tz x (.str x t)=true;simp[Tz]
  refine ⟨(Sum.inr x,.int n u) :: vs,.cons ⟨rfl,u,rfl⟩ h1,.cons is rfl h2,by simp[h3],fun e he=>?_⟩
  rcases List.mem_cons.mp he with rfl | he
  ·exact ⟨Sum.inr x,is,rfl⟩
  ·exact h4 e he
theorem xw {P:Pi}{w:PK}{K:O0}{h:Heap}{mg:Str->Option O3} (X:K.In h) (G:h.Ns Po mg) {x:Str}{f:Addr}{es:Array Um}{n:Nat}{kvs:List (Str×Int)} (a:P1 K Po x=some (some (.ref f)))
 (l:K.lookup f=some { cls:=.type "dict",data:=.dict es n }) (hf:(f==RE)=false) (r:fq w kvs es.toList) (nd:(kvs.map (·.1)).Nodup):sV P w K mg x (.k (kvs.map fun q=>(q.1,BT.D.int q.2))):=by
 obtain ⟨vs,h1,h2,h3,h4⟩:=r.ex (P:=P)
 refine ⟨_,.ref f,Q7 X G a,rfl,fun m H=>.k (es:=kvs.map fun q=>(q.1,V.int q.2)) ⟨hf,vs,h1,fun hh Kh=>⟨_,es,n,Kh _ _ l,⟨rfl,rfl,rfl⟩,rfl,fun e he=>h4 e (by simpa using he),h2,?_⟩⟩ ?_⟩
 ·rw[h3]
  have e:(kvs.map fun q=>(Sum.inr q.1:Key))=(kvs.map (·.1)).map Sum.inr:=by simp
  rw[e]
  exact List.pairwise_map.mpr (nd.imp fun h z=>h (Sum.inr.inj z))
 ·clear r nd h1 h2 h3 h4 l
  induction kvs with
  | nil=>exact .nil
  | cons q kvs ih=>exact .cons (fun _ _=>.int _) ih
noncomputable def look {κ α:Type} [DecidableEq κ] (l:List (κ×α)) (x:κ):Option α:=match l with
 | []=>none
 | (y,a) :: r=>if y=x then some a else look r x
theorem gS {κ α:Type} [DecidableEq κ] {Q:κ->α->Prop}:∀ {l:List (κ×α)} (_:∀ p∈l,Q p.1 p.2) {x:κ}{a:α},look l x=some a->Q x a
 | [],_,_,_,e=>by cases e
 | (y,b) :: r,h,x,a,e=>by
  rw[look] at e
  split at e
  ·rename_i z
   cases e
   subst z
   exact h (y,b) Pf
  ·exact gS (fun p hp=>h p (Pb _ hp)) e
theorem fO {K:O0}{m:List Addr}{H:Hp}:∀ ns:List Int,RDs K m H (ns.map V.int) (BT.aa ns)
 | []=>.nil
 | n :: r=>.cons (.int n) (fO r)
theorem AX {P:Pi}{w:PK}{K:O0}{g:List BT.W->BT.HH->Option (BT.W×BT.HH)}{H:Hp}{a:Addr}{ns:List Int} (tb:TB K H) (hS:LL K H a (ns.map V.int)) (e:∃ h',g [.p (.lst (BT.aa ns))] []=some (.p (.bl true),h')):spF P w K g [.ref a] H (fun v _=>v=.bl true) fun _ _ _=>False:=by
 obtain ⟨h',e⟩:=e
 refine ⟨[],_,[],_,h',⟨Sq,rfl,fun i a xs z=>by simp at z,tb⟩,.cons (.p (.lst (hS.elim (fun q=>.inl ⟨q,by simp⟩) .inr) (fO ns))) .nil,e,fun v H' m' _ _ r=>jJ r⟩
end BF
end
section
namespace BG
open PySem PySem.Spec PySem.Calls PyProof.Rows L2 BS BF
theorem D6 {h:Heap}{K:O0} (H:∀ p∈K,h.get? p.1=some p.2):K.In h:=by
 intro a o e
 obtain ⟨p,hp,he⟩:∃ p∈K,p.1=a/\p.2=o:=by
  clear H
  induction K with
  | nil=>cases e
  | cons q r ih =>
   rw[Qj] at e
   split at e
   ·rename_i c
    cases e
    exact ⟨q,Pf,(eq_of_beq c).symm,rfl⟩
   ·obtain ⟨p,hp,he⟩:=ih e
    exact ⟨p,Pb _ hp,he⟩
 rw[← he.1,← he.2]
 exact H p hp
theorem AY {K:O0}{f:Addr}{x qual:Str}{st:UH} (e:Bd K f=some (sY x qual st)):∃ fd,Fun K x qual st f fd/\∃ kV doc pm an cdv ct,fd=QI x qual (cH st) (aK st) (ak st) .none kV doc pm an cdv ct:=by
 unfold Bd at e
 split at e
 ·rename_i oc od fd sl l
  have e':=Pn e
  unfold sY at e'
  obtain ⟨nm,ql,pa,bo,sc,gl,cl,de,kw,dc,pm,an,co,ct,bu⟩:=fd
  simp only[FS.mk.injEq] at e'
  obtain ⟨rfl,rfl,rfl,rfl,rfl,rfl,rfl,rfl,rfl,hc⟩:=e'
  have F:=FM (K:=K) (x:=nm) (qual:=ql) (st:=st) (f:=f) (kV:=kw) (doc:=dc) (pm:=pm) (an:=an) (cdv:=co) (ct:=ct) l hc (by simp only[Qp,l])
  exact ⟨_,F,kw,dc,pm,an,co,ct,rfl⟩
 ·cases e
theorem nth {α:Type}{l:List α}{a:α} (i:Nat) (h:l[i]?=some a):a∈l:=Ph h
noncomputable def q9 (ns:List Str):Bool:=ns.all fun n=>!(n.cps[0]?==some 60)
theorem KZ (y:Str):(BT.cg y).cps[0]?=some 60:=by
 show (((#[60]:Array Nat)++y.cps)++#[62])[0]?=some 60
 rw[← SO]
 simp
theorem D7 {y z:Str} (h:BT.cg y=BT.cg z):y=z:=by
 have e:((#[60]:Array Nat)++y.cps)++#[62]=((#[60]:Array Nat)++z.cps)++#[62]:=congrArg Str.cps h
 have e2:y.cps.toList=z.cps.toList:=by
  have:=congrArg Vf e
  simpa using this
 cases y;cases z;exact congrArg Str.mk (Array.toList_inj.mp e2)
theorem lZ {ns:List Str} (h:q9 ns=true) (y:Str):ns.contains (BT.cg y)=false:=by
 cases e:ns.contains (BT.cg y) with
 | false=>rfl
 | true =>
  have:=List.all_eq_true.mp h _ (List.contains_iff_mem.mp e)
  rw[KZ] at this
  cases this
theorem aC {K:O0}{q:Str}{fd:QN}{fn:BT.Fn} (h:q9 fn.ns=true):j5 K q fd fn:=fun y hy=>by rw[lZ h y] at hy;cases hy
section
variable {P:Pi}{w:PK}{K:O0}{h:Heap}{mg:Str->Option O3}
theorem pB {o:Option (Option O3)}{f:Addr} (e:refOf o=some f):o=some (some (.ref f)):=by
 unfold refOf at e
 split at e
 ·cases e;rfl
 ·cases e
theorem az (X:K.In h) (G:h.Ns Po mg) {x:Str}{f:Addr}{st:UH}{fn:BT.Fn} (e:bY K (.fn x f st)=bZ w (.fn x f st))
 (sc:cI fn.ns fn.ps (ak st)) (hb:∀ (kV doc pm:O3) (an:Option Addr) (cdv ct:O3) (us:List O3),us.length=fn.ps.length->UW (QI x x (cH st) (aK st) (ak st) .none kV doc pm an cdv ct) ⟨us,[]⟩=pure (fn.ps.zip us))
 (ck:CSs (ak st) fn.ns fn.body (aK st)) (tg:∀ fd,P1 K Po x=some (some (.ref f))->(∃ oc od sl,K.lookup f=some ⟨oc,od,.func fd,sl⟩)->j5 K x fd fn):Def K mg x fn:=by
 simp only[bY,bZ,Ov.fn.injEq] at e
 obtain ⟨fd,F,kV,doc,pm,an,cdv,ct,rfl⟩:=AY e.2
 refine ⟨f,_,st,Q7 X G (pB e.1),F,sc,F.binds hb,ck,tg _ (pB e.1) ?_⟩
 obtain ⟨oc,od,kV,doc,pm,an,cdv,ct,osl,e1,lk,_⟩:=F.ex
 exact ⟨oc,od,osl,lk⟩
theorem AZ {c:Str}{C:Addr} (e:bY K (.cls c C)=bZ w (.cls c C)):lq K c C:=by
 simp only[bY,bZ,Ov.b.injEq,II,O5,decide_eq_true_eq] at e
 obtain ⟨⟨⟨⟨⟨h1,h2⟩,h3⟩,h4⟩,h5⟩,h6⟩:=e
 refine ⟨h1,⟨h2,h3,h4,h5⟩,fun f hf=>?_⟩
 have hm:f∈attrs:=List.contains_iff_mem.mp hf
 exact of_decide_eq_true (p:=Qa K (.ref C) f=some none) (List.all_eq_true.mp h6 f hm)
theorem bO (X:K.In h) (G:h.Ns Po mg) {c:Str}{C:Addr}{m x qual:Str}{f:Addr}{st:UH}{fn:BT.Fn} (ec:bY K (.cls c C)=bZ w (.cls c C)) (em:bY K (.mk C)=bZ w (.mk C)) (e:bY K (.me C m x qual f st)=bZ w (.me C m x qual f st))
 (sc:cI fn.ns fn.ps (ak st)) (hb:∀ (kV doc pm:O3) (an:Option Addr) (cdv ct:O3) (us:List O3),us.length=fn.ps.length->UW (QI x qual (cH st) (aK st) (ak st) .none kV doc pm an cdv ct) ⟨us,[]⟩=pure (fn.ps.zip us))
 (ck:CSs (ak st) fn.ns fn.body (aK st)) (tg:q9 fn.ns=true):z5 K mg c m fn:=by
 have hC:=AZ ec
 simp only[bY,bZ,Ov.fn.injEq] at e
 obtain ⟨e1,e2⟩:=e
 obtain ⟨fd,F,kV,doc,pm,an,cdv,ct,rfl⟩:=AY e2
 have e1':meB K C m f=true:=by
  cases q:meB K C m f with
  | true=>rfl
  | false=>rw[q] at e1;cases e1
 simp only[meB,O5,decide_eq_true_eq] at e1'
 simp only[bY,bZ,Ov.b.injEq,mkB,O5] at em
 refine ⟨C,f,_,x,qual,st,hC,Q7 X G hC.cn,⟨e1'.1,e1'.2,F.kp⟩,fun z=>?_,F,sc,F.binds hb,ck,aC tg⟩
 subst z
 exact ⟨em.1,e1'.1,e1'.2,em.2⟩
theorem none_of (X:K.In h) (G:h.Ns Po mg) {x:Str} (e:bY K (.no x)=bZ w (.no x)):mg x=none:=by
 simp only[bY,bZ,Ov.b.injEq,decide_eq_true_eq] at e
 exact PySem.W.mg_none_of X G e
theorem A1 {v:O3}{x:Int} (h:intOf v=some x):∃ t,v=.int x t:=by
 cases v<;>simp[intOf] at h
 exact ⟨_,by rw[h]⟩
theorem A2 {v:O3}{x:Str} (h:strOf v=some x):∃ t,v=.str x t:=by
 cases v<;>simp[strOf] at h
 exact ⟨_,by rw[h]⟩
theorem bV (X:K.In h) (G:h.Ns Po mg) {x:Str}{n:Int} (e:bY K (.int x n)=bZ w (.int x n)):sV P w K mg x (.p (.int n)):=by
 simp only[bY,bZ,Ov.int.injEq] at e
 split at e
 ·rename_i v hv
  obtain ⟨t,rfl⟩:=A1 e
  exact AV X G hv
 ·cases e
theorem vc:∀ {xs:List Str}{vs:List O3},xs.all PyData.strOk=true->vs.map strOf=xs.map some->cS xs vs
 | [],[],_,_=>.nil
 | [],_ :: _,_,h=>by simp at h
 | _ :: _,[],_,h=>by simp at h
 | x :: xs,v :: vs,k,h=>by
  simp only[Pe,RU] at h
  simp only[UX,O5] at k
  obtain ⟨t,rfl⟩:=A2 h.1
  exact .cons k.1 (vc k.2 h.2)
theorem vd:∀ {kvs:List (Str×Int)}{es:List Um},es.map (fun e=>(e.hash,strOf e.key,intOf e.val))=kvs.map (fun q=>(PyData.keyHash w.params q.1,some q.1,some q.2))->fq w kvs es
 | [],[],_=>.nil
 | [],_ :: _,h=>by simp at h
 | _ :: _,[],h=>by simp at h
 | (x,n) :: kvs,⟨ha,k,v⟩ :: es,h=>by
  simp only[Pe,RU,UD] at h
  obtain ⟨⟨rfl,h2,h3⟩,hr⟩:=h
  obtain ⟨t,rfl⟩:=A2 h2
  obtain ⟨u,rfl⟩:=A1 h3
  exact .cons (vd hr)
theorem A3 (X:K.In h) (G:h.Ns Po mg) {x:Str}{f:Addr}{xs:List Str} (e:bY K (.tup x f xs)=bZ w (.tup x f xs)) (hl:xs.length<=1000) (hs:xs.all PyData.strOk=true):sV P w K mg x (.p (.tup (xs.map BT.D.str))):=by
 simp only[bY,bZ,Ov.seq.injEq] at e
 obtain ⟨e1,e2,e3⟩:=e
 obtain ⟨o,l,e4⟩:=Option.map_eq_some_iff.mp e2
 rw[l] at e3
 obtain ⟨cl,di,da,sl⟩:=o
 simp only[shp,UD] at e4
 obtain ⟨rfl,rfl,e5⟩:=e4
 have:sl=#[]:=TZ e5
 subst this
 simp only[QJ,Ek] at e3
 cases da<;>simp only[Sg,reduceCtorEq] at e3
 exact AW X G (pB e1) l hl (vc hs e3)
theorem A4 (X:K.In h) (G:h.Ns Po mg) {x:Str}{f:Addr}{kvs:List (Str×Int)} (e:bY K (.dct x f kvs)=bZ w (.dct x f kvs)) (hf:(f==RE)=false) (nd:(kvs.map (·.1)).Nodup):sV P w K mg x (.k (kvs.map fun q=>(q.1,BT.D.int q.2))):=by
 simp only[bY,bZ,Ov.dct.injEq] at e
 obtain ⟨e1,e2,e3⟩:=e
 obtain ⟨o,l,e4⟩:=Option.map_eq_some_iff.mp e2
 rw[l] at e3
 obtain ⟨cl,di,da,sl⟩:=o
 simp only[shp,UD] at e4
 obtain ⟨rfl,rfl,e5⟩:=e4
 have:sl=#[]:=TZ e5
 subst this
 simp only[QJ,El] at e3
 cases da<;>simp only[Sg,reduceCtorEq] at e3
 exact xw X G (pB e1) l hf (vd e3) nd
end
theorem A5 {α:Type}{us:List α}{n:Nat} (h:us.length=n+1):∃ a r,us=a :: r/\r.length=n:=by
 cases us with
 | nil=>simp at h
 | cons a r=>exact ⟨a,r,rfl,by simpa using h⟩
theorem len0 {α:Type}{us:List α} (h:us.length=0):us=[]:=Ub h
theorem mR {α:Type}{us:List α} (h:us.length=1):∃ a0,us=[a0]:=by
 obtain ⟨a0,r,rfl,g⟩:=A5 h
 exact ⟨a0,by rw[len0 g]⟩
theorem eW {α:Type}{us:List α} (h:us.length=2):∃ a0 a1,us=[a0,a1]:=by
 obtain ⟨a0,r,rfl,g⟩:=A5 h
 obtain ⟨a1,rfl⟩:=mR g
 exact ⟨a0,a1,rfl⟩
theorem gT {α:Type}{us:List α} (h:us.length=3):∃ a0 a1 a2,us=[a0,a1,a2]:=by
 obtain ⟨a0,r,rfl,g⟩:=A5 h
 obtain ⟨a1,a2,rfl⟩:=eW g
 exact ⟨a0,a1,a2,rfl⟩
theorem Ic {α:Type}{us:List α} (h:us.length=4):∃ a0 a1 a2 a3,us=[a0,a1,a2,a3]:=by
 obtain ⟨a0,r,rfl,g⟩:=A5 h
 obtain ⟨a1,a2,a3,rfl⟩:=gT g
 exact ⟨a0,a1,a2,a3,rfl⟩
theorem NY {α:Type}{us:List α} (h:us.length=5):∃ a0 a1 a2 a3 a4,us=[a0,a1,a2,a3,a4]:=by
 obtain ⟨a0,r,rfl,g⟩:=A5 h
 obtain ⟨a1,a2,a3,a4,rfl⟩:=Ic g
 exact ⟨a0,a1,a2,a3,a4,rfl⟩
noncomputable abbrev BdT (x qual:Str) (st:UH) (fn:BT.Fn):Prop:=∀ (kV doc pm:O3) (an:Option Addr) (cdv ct:O3) (us:List O3),us.length=fn.ps.length->UW (QI x qual (cH st) (aK st) (ak st) .none kV doc pm an cdv ct) ⟨us,[]⟩=pure (fn.ps.zip us)
noncomputable def ve (K:O0) (mg:Str->Option O3) (p:BT.FK×BT.Fn):Prop:=(∀ x,p.1=.f x->Def K mg x p.2)/\(∀ c m,p.1=.m c m->z5 K mg c m p.2)/\∀ L,p.1=.l L->BT.oj L=some p.2/\∃ ns bt,p.2=⟨ns,ns,.ret bt⟩/\∀ y,ns.contains (BT.cg y)=false
theorem dd {K:O0}{mg:Str->Option O3}{x:Str}{fn:BT.Fn} (d:Def K mg x fn):ve K mg (.f x,fn):=⟨fun y e=>by cases e;exact d,fun c m e=>(by cases e),fun L e=>by cases e⟩
theorem dm {K:O0}{mg:Str->Option O3}{c m:Str}{fn:BT.Fn} (d:z5 K mg c m fn):ve K mg (.m c m,fn):=⟨fun y e=>(by cases e),fun c m e=>by cases e;exact d,fun L e=>by cases e⟩
theorem dl {K:O0}{mg:Str->Option O3}{L:Nat}{ns:List Str}{bt:BT.E} (h:BT.oj L=some ⟨ns,ns,.ret bt⟩) (n:q9 ns=true):ve K mg (.l L,⟨ns,ns,.ret bt⟩):=⟨fun y e=>(by cases e),fun c m e=>(by cases e),fun M e=>by cases e;exact ⟨h,ns,bt,rfl,lZ n⟩⟩
structure D8 (K:O0) (tl:List (Str×Addr×Addr)):Prop where
 all:∀ z∈BT.dj,(∃ c P,(z,c,P)∈tl/\P9 K z=some (c,P))\/P9 K z=none
 hd:∀ q∈tl,SA K q.2.1 q.2.2=true
theorem gi {K:O0}{w:PK}{x:Str}{c P:Addr} (e:bY K (.tab x c P)=bZ w (.tab x c P)):P9 K x=some (c,P)/\SA K c P=true:=by
 simp only[bY,bZ,Ov.b.injEq,O5,decide_eq_true_eq] at e
 exact e
theorem bE {K:O0}{w:PK}{x:Str} (e:bY K (.no x)=bZ w (.no x)):P9 K x=none:=by
 simp only[bY,bZ,Ov.b.injEq,decide_eq_true_eq] at e
 unfold P9
 rw[e]
theorem A6 {K:O0}{x:Str}{f c P:Addr}{oc:O3}{od:Option Addr}{fd:QN}{sl:Array (Option O3)} (h1:P1 K Po x=some (some (.ref f))) (h2:K.lookup f=some ⟨oc,od,.func fd,sl⟩) (h:P9 K x=some (c,P)):fd.code=.ref c:=by
 unfold P9 at h
 rw[h1] at h
 simp only[h2] at h
 split at h
 ·rename_i c' hc
  split at h
  ·split at h
   ·cases h;exact hc
   ·cases h
  ·cases h
 ·cases h
theorem Ie {K:O0}{w:PK}{b:Addr} (e:bY K (.bm b)=bZ w (.bm b)):∃ bm ob,P1 K Po "__builtins__"=some (some (.ref bm))/\bm≠Q9/\K.lookup bm=some ob/\ob.cls=.type "module"/\ob.dict=some Q9/\ob.data=.plain:=by
 simp only[bY,bZ,Ov.b.injEq,bmB,O5,decide_eq_true_eq] at e
 obtain ⟨⟨e1,e2⟩,e3⟩:=e
 split at e3
 ·rename_i d sl l
  exact ⟨b,_,e1,e2,l,rfl,congrArg some (eq_of_beq e3),rfl⟩
 ·cases e3
noncomputable def tabsOk (tl:List (Str×Addr×Addr)):Bool:=tl.all fun p=>tl.all fun q=>!(p.2.2==q.2.2)||p.1==q.1
theorem pC {K:O0}{w:PK}{x:Str}{fn:BT.Fn}{ns:List Str}{tl:List (Str×Addr×Addr)}{f c P b:Addr} (hns:fn.ns=ns++[BT.cg x]) (h0:q9 ns=true) (mem:x∈BT.dj) (hT:D8 K tl) (hk:tabsOk tl=true) (hm:(x,c,P)∈tl) (et:bY K (.tab x c P)=bZ w (.tab x c P)) (eb:bY K (.bm b)=bZ w (.bm b)) :
 ∀ fd,P1 K Po x=some (some (.ref f))->(∃ oc od sl,K.lookup f=some ⟨oc,od,.func fd,sl⟩)->j5 K x fd fn:=fun fd h1 ⟨oc,od,sl,h2⟩ y hy=>by
 obtain ⟨t1,t2⟩:=gi et
 have e:y=x:=by
  have m:=List.contains_iff_mem.mp hy
  rw[hns] at m
  rcases List.mem_append.mp m with m | m
  ·have:=lZ h0 y
   rw[List.contains_iff_mem.mpr m] at this;cases this
  ·exact D7 (by simpa using m)
 subst e
 refine ⟨rfl,mem,⟨c,P,t1,A6 h1 h2 t1,t2,fun z hz c2 e2=>?_⟩,Ie eb⟩
 rcases hT.all z hz with ⟨c3,P3,m3,e3⟩ | e3
 ·rw[e2] at e3
  cases e3
  have:=List.all_eq_true.mp (List.all_eq_true.mp hk _ m3) _ hm
  simp only[beq_self_eq_true,TR,Bool.false_or] at this
  exact eq_of_beq this
 ·rw[e2] at e3;cases e3
theorem sW {K:O0}{b:Addr}{o:Obj} (e:K.lookup b=some o):b∈K.map (·.1):=List.mem_map.mpr ⟨(b,o),PySem.W.mem_of_lookupK e,rfl⟩
theorem xy {P:Pi}{w:PK}{K:O0}{mg mb:Str->Option O3}{k:Nat}{fa a:Addr}{fd:QN}{x:Str}{sp:Sp}{s₁:O4}{vs:List O3}{ns:List Int}{tl:List (Str×Addr×Addr)}
 (KX:K.In s₁.heap) (hns:s₁.heap.Ns Po mg) (hb:s₁.heap.Ns Q9 mb) (hbb:∀ x:Str,x≠"__name__"->mb x=SD x) (hlim:s₁.heap.NoLimit) (hg:s₁.gens=#[])
 (ha:s₁.heap.get? a=some { cls:=.type "list",data:=.seq vs.toArray }) (hi:Sz vs ns) (hl:ns.length<=sizeLine) (hr:bP k VI)
 (hT:D8 K tl) (hTs:∀ p∈tl,s₁.heap.get? p.2.2=some (Rk #[])) (hTk:∀ p∈tl,K.lookup p.2.2=none)
 (F:∀ base:Heap,fX P w K mg base CX0 k fa fd [x] sp) (hbind:∀ (s:O4) (u:O3),K.In s.heap->BindsTo s fd ⟨[u],[]⟩ [(x,u)])
 (hsp:∀ H:Hp,TB K H->LL K H a (ns.map V.int)->sp [.ref a] H (fun v _=>v=.bl true) fun _ _ _=>False) :
 codeAny (Pw P w) VI (.call (.ref fa) ⟨[.ref a],[]⟩) (fun r s'=>r=.ok (.ret (.bool true))/\OldK s₁.heap s'.heap/\s'.os=s₁.os/\UG s'.gens) s₁:=by
 have rv:=jB hi
 have lenV:=hi.length
 have tne:∀ p∈tl,p.2.2≠a:=fun p hp z=>by
  have:=hTs p hp
  rw[z,ha] at this;cases this
 let so:HO:=.frz { cls:=.type "list",data:=.seq vs.toArray } (.lst (ns.map V.int))
 let H:Hp:=fun b=>if ∃ p∈tl,p.2.2=b then some (.tbl #[]) else if b=a/\K.lookup a=none then some so else none
 have Ht:∀ p∈tl,H p.2.2=some (.tbl #[]):=fun p hp=>if_pos ⟨p,hp,rfl⟩
 have Hcase:∀ b u,H b=some u->(∃ p∈tl,p.2.2=b/\u=.tbl #[])\/(b=a/\K.lookup a=none/\u=so):=fun b u e=>by
  by_cases c1:∃ p∈tl,p.2.2=b
  ·have e':some (HO.tbl #[])=some u:=(if_pos c1).symm.trans e
   obtain ⟨p,hp,h2⟩:=c1
   exact .inl ⟨p,hp,h2,(Pn e').symm⟩
  ·have e':(if b=a/\K.lookup a=none then some so else none)=some u:=(if_neg c1).symm.trans e
   by_cases c2:b=a/\K.lookup a=none
   ·rw[if_pos c2] at e'
    exact .inr ⟨c2.1,c2.2,(Pn e').symm⟩
   ·rw[if_neg c2] at e';cases e'
 have noA:∀ {b:Addr}{o:Obj}{es:Array Um}{ep:Nat},s₁.heap.get? b=some o->o.data=.dict es ep->H b=none:=fun {b o es ep} e d=>by
  cases q:H b with
  | none=>rfl
  | some u =>
   rcases Hcase b u q with ⟨p,hp,h2,_⟩ | ⟨h2,_⟩
   ·have z:=hTs p hp
    rw[h2,e] at z;cases z;cases d
   ·rw[h2,ha] at e;cases e
    have d':Data.seq vs.toArray _=Data.dict es ep:=d
    cases d'
 have nsK:∀ {b:Addr}{m:Str->Option O3},s₁.heap.Ns b m->(pH s₁.heap H).Ns b m:=fun {b m} ⟨o,es,ep,e,d,r⟩=>⟨o,es,ep,pI e (noA e d),d,r⟩
 have hKb:K.In (pH s₁.heap H):=fun b o e=>pI (KX b o e) (by
  cases q:H b with
  | none=>rfl
  | some u =>
   rcases Hcase b u q with ⟨p,hp,h2,_⟩ | ⟨h2,h3,_⟩
   ·rw[← h2,hTk p hp] at e;cases e
   ·rw[h2,h3] at e;cases e)
 have hM:Mod K mg (pH s₁.heap H):=⟨hKb,nsK hns,⟨mb,nsK hb,hbb⟩,let ⟨mc,h1,h2⟩:=hlim;⟨mc,nsK h1,h2⟩⟩
 have hok:HOk P w H s₁.heap:=fun b u e=>by
  rcases Hcase b u e with ⟨p,hp,h2,rfl⟩ | ⟨h2,_,rfl⟩
  ·subst h2;exact hTs p hp
  ·subst h2;exact ⟨ha,by rw[Pa];exact hl,vs,_,rv,ha⟩
 have e0:mq P w K mg (pH s₁.heap H) VI [] s₁ H:=⟨rfl,hM,fun b o e=>Be e,Nat.le_of_eq (vB _ _),trivial,fun b hb=>absurd (show b∈([]:List Addr) from hb) (by simp),hok,.of_eq hg⟩
 have tb:TB K H:=fun z hz c Pt e=>by
  rcases hT.all z hz with ⟨c3,P3,m3,e3⟩ | e3
  ·rw[e] at e3;cases e3
   exact ⟨#[],Ht _ m3,trivial,fun pos v q=>by cases q⟩
  ·rw[e] at e3;cases e3
 have hS:LL K H a (ns.map V.int):=by
  cases hk:K.lookup a with
  | some o =>
   have e:=KX a o hk
   rw[ha] at e
   cases e
   exact .inr ⟨vs,_,hk,by rw[lenV];exact hl,rv⟩
  | none =>
   refine .inl (.inr ⟨{ cls:=.type "list",data:=.seq vs.toArray },?_⟩)
   have e1:H a=(if a=a/\K.lookup a=none then some so else none):=if_neg fun ⟨p,hp,z⟩=>tne p hp z
   rw[e1,if_pos ⟨rfl,hk⟩]
 refine codeAny_mono ((F _).run VI [] s₁ H ⟨[.ref a],[]⟩ [.ref a] [.ref a] _ _ hr e0 (hbind s₁ (.ref a) KX) (.cons rfl .nil) (hsp H tb hS)) fun r s' h=>?_
 cases r with
 | error e=>exact P5 h
 | ok fl =>
  cases fl with
  | next=>exact P5 h
  | brk=>exact P5 h
  | cont=>exact P5 h
  | ret u =>
   obtain ⟨v,H',os,bare,un,hok',r',q⟩:=h
   have q':v=.bl true:=q
   subst q'
   obtain rfl:u=VL true:=r'
   have kp:∀ b o,s₁.heap.get? b=some o->(s'.heap.get? b=some o)\/∃ p∈tl,p.2.2=b/\∃ more,s'.heap.get? b=some (Rk (#[]++more)):=fun b o e=>by
    cases q:H b with
    | none=>exact .inl (un.keep b o e q (by intro z;exact absurd (show b∈([]:List Addr) from z) (by simp)) (by simp))
    | some u =>
     rcases Hcase b u q with ⟨p,hp,h2,rfl⟩ | ⟨h2,h3,rfl⟩
     ·obtain ⟨more,z⟩:=un.tbls b _ q
      exact .inr ⟨p,hp,h2,more,hok' b _ z⟩
     ·have z2:=un.frzs b _ _ q
      obtain ⟨e1,_⟩:=hok b _ q
      obtain ⟨e2,_⟩:=hok' b _ z2
      rw[e] at e1;cases e1
      exact .inl e2
   refine ⟨rfl,⟨fun b o e=>?_,fun b o e=>?_⟩,os,bare⟩
   ·rcases kp b o e with z | ⟨p,hp,rfl,more,z⟩
    ·exact .inl z
    ·have e2:=hTs p hp
     rw[e] at e2
     cases e2
     have tA:=(U9 KX (hT.hd p hp)).tab e
     exact .inr (.inl ⟨tA.isCodeTable,rfl,#[],more,rfl,z⟩)
   ·rcases kp b o e with z | ⟨p,hp,rfl,more,z⟩
    ·exact ⟨o,z⟩
    ·exact ⟨_,z⟩
theorem A7 {l:PySem.W.OpenLaw}{n k:Nat}{q:Pi}{loose:List Str}{XP:(Str->Option O3)->Heap->Prop}{d:DefRec}{as:List Addr}{qs:List Qy}{ts:List Addr}{tl:List (Str×Addr×Addr)}{T:BT.FK->Option BT.Fn}{G:Str->Option BT.W}{fn:BT.Fn}{x:Str}
 (hn:l.most=some n) (hn2:n<=sizeLine) (hdf:d.params.defaults=[]) (hr:bP (2*k) VI) (hps:fn.ps=[x]) (hT:T (.f d.name)=some fn) (hts:ts=tl.map (·.2.2)) (hto:tl.all (fun p=>!as.contains p.2.2)=true)
 (FT:∀ (w:PK) (K:O0),(∀ q∈qs,bY K q=bZ w q)->D8 K tl)
 (F:∀ (P:Pi) (w:PK) (mg:Str->Option O3) (K:O0) (h:Heap),K.In h->h.Ns Po mg->(∀ q∈qs,bY K q=bZ w q)->Txt P w K mg T G)
 (hrun:∀ ns:List Int,ns.length<=n->∃ h',BT.runN T G k (.f d.name) [.p (.lst (BT.aa ns))] []=some (.p (.bl true),h')) :
 PySem.W.WalkO q loose XP (sees as qs ts).says l.row.toRowW d [] (fun f vs=>VM f vs):=by
 refine Att.pS hn hdf fun w s₀ s₁ mg mb fa o pm cd doc a vs ns Gr Y ho hd hcd hmg hobj hints hlen hg=>?_
 obtain ⟨K,k0,k1,k2,k3⟩:=Y
 have KX:=D6 k1
 have X:=F l.prog w mg K s₁.heap KX Gr.T.g k2
 obtain ⟨f,fd,st,h1,h2,h3,h4,h5,h6⟩:=(X.defs _ fn hT).ex
 rw[hmg] at h1
 cases h1
 refine xy (sp:=spF l.prog w K (BT.runN T G k (.f d.name))) (x:=x) (k:=2*k) (fd:=fd) (tl:=tl) KX Gr.T.g Gr.T.b Gr.T.builtins Gr.T.nolimit hg hobj hints (PZ hlen hn2) hr (FT w K k2) (fun p hp=>k3 _ (by rw[hts];exact Vz hp)) (fun p hp=>?_) (fun base=>?_) (fun s u hK=>?_) (fun H tb hS=>AX tb hS (hrun ns hlen))
 ·cases e:K.lookup p.2.2 with
  | none=>rfl
  | some o =>
   have m:=sW e
   rw[k0] at m
   have:=List.all_eq_true.mp hto p hp
   rw[List.contains_iff_mem.mpr m] at this;cases this
 ·have:=Hr (base:=base) X k (.f d.name) fn hT _ fd d.name d.name st h2 h3 h5 h6
  rw[hps] at this
  exact this
 ·have:=h4 s [u] hK (by rw[hps];rfl)
  rw[hps] at this
  exact this
end BG
end
section
namespace BL
open PySem PySem.Spec PyProof.Rows L2 BS BF BG
noncomputable abbrev CkT (s:Qf) (f:BT.Fn):Prop:=CSs (ak s) f.ns f.body (aK s)/\cI f.ns f.ps (ak s)
theorem K0:CkT (top 10) BT.dJ:=⟨by repeat' (first | rfl | constructor | decide +kernel),by constructor<;>first | rfl | decide +kernel⟩
theorem NZ:BdT "is_whole" "is_whole" (top 10) BT.dJ:=fun _ _ _ _ _ _ us hl=>by obtain ⟨a0,rfl⟩:=mR hl;rfl
theorem K1:CkT (top 11) BT.c9:=⟨by repeat' (first | rfl | constructor | decide +kernel),by constructor<;>first | rfl | decide +kernel⟩
theorem N1:BdT "is_name" "is_name" (top 11) BT.c9:=fun _ _ _ _ _ _ us hl=>by obtain ⟨a0,rfl⟩:=mR hl;rfl
theorem K2:CkT (top 12) BT.eU:=⟨by repeat' (first | rfl | constructor | decide +kernel),by constructor<;>first | rfl | decide +kernel⟩
theorem N2:BdT "is_cell" "is_cell" (top 12) BT.eU:=fun _ _ _ _ _ _ us hl=>by obtain ⟨a0,rfl⟩:=mR hl;rfl
theorem K3:CkT (top 13) BT.bF:=⟨by repeat' (first | rfl | constructor | decide +kernel),by constructor<;>first | rfl | decide +kernel⟩
theorem N3:BdT "inner_sums" "inner_sums" (top 13) BT.bF:=fun _ _ _ _ _ _ us hl=>by obtain ⟨a0,rfl⟩:=mR hl;rfl
theorem K4:CkT (top 22) BT.gM:=⟨by repeat' (first | rfl | constructor | decide +kernel),by constructor<;>first | rfl | decide +kernel⟩
theorem N4:BdT "begun" "begun" (top 22) BT.gM:=fun _ _ _ _ _ _ us hl=>by obtain rfl:=len0 hl;rfl
theorem K5:CkT (top 23) BT.aZ:=⟨by repeat' (first | rfl | constructor | decide +kernel),by constructor<;>first | rfl | decide +kernel⟩
theorem N5:BdT "check_thing" "check_thing" (top 23) BT.aZ:=fun _ _ _ _ _ _ us hl=>by obtain ⟨a0,rfl⟩:=mR hl;rfl
theorem K6:CkT (top 24) BT.cE:=⟨by repeat' (first | rfl | constructor | decide +kernel),by constructor<;>first | rfl | decide +kernel⟩
theorem N6:BdT "worth_in" "worth_in" (top 24) BT.cE:=fun _ _ _ _ _ _ us hl=>by obtain ⟨a0,a1,rfl⟩:=eW hl;rfl
theorem K7:CkT (top 25) BT.dH:=⟨by repeat' (first | rfl | constructor | decide +kernel),by constructor<;>first | rfl | decide +kernel⟩
theorem N7:BdT "laid_out" "laid_out" (top 25) BT.dH:=fun _ _ _ _ _ _ us hl=>by obtain ⟨a0,rfl⟩:=mR hl;rfl
theorem K8:CkT (top 26) BT.fQ:=⟨by repeat' (first | rfl | constructor | decide +kernel),by constructor<;>first | rfl | decide +kernel⟩
theorem N8:BdT "of_two" "of_two" (top 26) BT.fQ:=fun _ _ _ _ _ _ us hl=>by obtain ⟨a0,a1,a2,rfl⟩:=gT hl;rfl
theorem K9:CkT (top 27) BT.bz:=⟨by repeat' (first | rfl | constructor | decide +kernel),by constructor<;>first | rfl | decide +kernel⟩
theorem N9:BdT "worth_of" "worth_of" (top 27) BT.bz:=fun _ _ _ _ _ _ us hl=>by obtain ⟨a0,a1,a2,rfl⟩:=gT hl;rfl
theorem La:CkT (top 28) BT.dI:=⟨by repeat' (first | rfl | constructor | decide +kernel),by constructor<;>first | rfl | decide +kernel⟩
theorem Oa:BdT "reckoned" "reckoned" (top 28) BT.dI:=fun _ _ _ _ _ _ us hl=>by obtain ⟨a0,a1,rfl⟩:=eW hl;rfl
theorem Lb:CkT (top 29) BT.ef:=⟨by repeat' (first | rfl | constructor | decide +kernel),by constructor<;>first | rfl | decide +kernel⟩
theorem Ob:BdT "cell_by" "cell_by" (top 29) BT.ef:=fun _ _ _ _ _ _ us hl=>by obtain ⟨a0,a1,rfl⟩:=eW hl;rfl
theorem Ld:CkT (top 30) BT.dg:=⟨by repeat' (first | rfl | constructor | decide +kernel),by constructor<;>first | rfl | decide +kernel⟩
theorem Oc:BdT "is_over" "is_over" (top 30) BT.dg:=fun _ _ _ _ _ _ us hl=>by obtain ⟨a0,a1,rfl⟩:=eW hl;rfl
theorem Lg:CkT (top 31) BT.bC:=⟨by repeat' (first | rfl | constructor | decide +kernel),by constructor<;>first | rfl | decide +kernel⟩
theorem Od:BdT "place_behind" "place_behind" (top 31) BT.bC:=fun _ _ _ _ _ _ us hl=>by obtain ⟨a0,a1,rfl⟩:=eW hl;rfl
theorem Lh:CkT (top 32) BT.bR:=⟨by repeat' (first | rfl | constructor | decide +kernel),by constructor<;>first | rfl | decide +kernel⟩
theorem Oe:BdT "with_worth" "with_worth" (top 32) BT.bR:=fun _ _ _ _ _ _ us hl=>by obtain ⟨a0,a1,a2,rfl⟩:=gT hl;rfl
theorem Li:CkT (top 33) BT.cM:=⟨by repeat' (first | rfl | constructor | decide +kernel),by constructor<;>first | rfl | decide +kernel⟩
theorem Of:BdT "with_name" "with_name" (top 33) BT.cM:=fun _ _ _ _ _ _ us hl=>by obtain ⟨a0,a1,a2,rfl⟩:=gT hl;rfl
theorem Lj:CkT (top 34) BT.dh:=⟨by repeat' (first | rfl | constructor | decide +kernel),by constructor<;>first | rfl | decide +kernel⟩
theorem Og:BdT "brought" "brought" (top 34) BT.dh:=fun _ _ _ _ _ _ us hl=>by obtain ⟨a0,a1,rfl⟩:=eW hl;rfl
theorem Lk:CkT (top 35) BT.eB:=⟨by repeat' (first | rfl | constructor | decide +kernel),by constructor<;>first | rfl | decide +kernel⟩
theorem Oh:BdT "stepped" "stepped" (top 35) BT.eB:=fun _ _ _ _ _ _ us hl=>by obtain ⟨a0,a1,a2,rfl⟩:=gT hl;rfl
theorem Ll:CkT (top 37) BT.dP:=⟨by repeat' (first | rfl | constructor | decide +kernel),by constructor<;>first | rfl | decide +kernel⟩
theorem Oi:BdT "worth_at" "worth_at" (top 37) BT.dP:=fun _ _ _ _ _ _ us hl=>by obtain ⟨a0,a1,a2,rfl⟩:=gT hl;rfl
theorem Lm:CkT (top 38) BT.bM:=⟨by repeat' (first | rfl | constructor | decide +kernel),by constructor<;>first | rfl | decide +kernel⟩
theorem Oj:BdT "worths_of" "worths_of" (top 38) BT.bM:=fun _ _ _ _ _ _ us hl=>by obtain ⟨a0,a1,rfl⟩:=eW hl;rfl
theorem Ln:CkT (top 39) BT.eV:=⟨by repeat' (first | rfl | constructor | decide +kernel),by constructor<;>first | rfl | decide +kernel⟩
theorem Ol:BdT "changes" "changes" (top 39) BT.eV:=fun _ _ _ _ _ _ us hl=>by obtain ⟨a0,a1,rfl⟩:=eW hl;rfl
theorem Lo:CkT (top 40) BT.aO:=⟨by repeat' (first | rfl | constructor | decide +kernel),by constructor<;>first | rfl | decide +kernel⟩
theorem Om:BdT "last_change" "last_change" (top 40) BT.aO:=fun _ _ _ _ _ _ us hl=>by obtain ⟨a0,a1,a2,rfl⟩:=gT hl;rfl
theorem Lp:CkT (top 41) BT.bg:=⟨by repeat' (first | rfl | constructor | decide +kernel),by constructor<;>first | rfl | decide +kernel⟩
theorem On:BdT "next_change" "next_change" (top 41) BT.bg:=fun _ _ _ _ _ _ us hl=>by obtain ⟨a0,a1,a2,rfl⟩:=gT hl;rfl
theorem Lq:CkT (top 42) BT.fS:=⟨by repeat' (first | rfl | constructor | decide +kernel),by constructor<;>first | rfl | decide +kernel⟩
theorem Oo:BdT "spread" "spread" (top 42) BT.fS:=fun _ _ _ _ _ _ us hl=>by obtain ⟨a0,a1,rfl⟩:=eW hl;rfl
theorem Lr:CkT (top 47) BT.cF:=⟨by repeat' (first | rfl | constructor | decide +kernel),by constructor<;>first | rfl | decide +kernel⟩
theorem Oq:BdT "_law_cell" "_law_cell" (top 47) BT.cF:=fun _ _ _ _ _ _ us hl=>by obtain ⟨a0,a1,rfl⟩:=eW hl;rfl
theorem Ls:CkT (top 48) BT.cO:=⟨by repeat' (first | rfl | constructor | decide +kernel),by constructor<;>first | rfl | decide +kernel⟩
theorem Os:BdT "_law_drawn" "_law_drawn" (top 48) BT.cO:=fun _ _ _ _ _ _ us hl=>by obtain ⟨a0,a1,a2,rfl⟩:=gT hl;rfl
theorem Lu:CkT (top 49) BT.bJ:=⟨by repeat' (first | rfl | constructor | decide +kernel),by constructor<;>first | rfl | decide +kernel⟩
theorem Ot:BdT "_law_sum" "_law_sum" (top 49) BT.bJ:=fun _ _ _ _ _ _ us hl=>by obtain ⟨a0,a1,a2,rfl⟩:=gT hl;rfl
theorem Lv:CkT (top 50) BT.eH:=⟨by repeat' (first | rfl | constructor | decide +kernel),by constructor<;>first | rfl | decide +kernel⟩
theorem Ou:BdT "_law_row" "_law_row" (top 50) BT.eH:=fun _ _ _ _ _ _ us hl=>by obtain ⟨a0,a1,a2,rfl⟩:=gT hl;rfl
theorem Ly:CkT (top 51) BT.aY:=⟨by repeat' (first | rfl | constructor | decide +kernel),by constructor<;>first | rfl | decide +kernel⟩
theorem Ow:BdT "_law_program" "_law_program" (top 51) BT.aY:=fun _ _ _ _ _ _ us hl=>by obtain ⟨a0,a1,rfl⟩:=eW hl;rfl
theorem Lz:CkT (top 52) BT.cQ:=⟨by repeat' (first | rfl | constructor | decide +kernel),by constructor<;>first | rfl | decide +kernel⟩
theorem Ox:BdT "_law_asked" "_law_asked" (top 52) BT.cQ:=fun _ _ _ _ _ _ us hl=>by obtain ⟨a0,a1,rfl⟩:=eW hl;rfl
theorem LA:CkT (top 53) BT.bN:=⟨by repeat' (first | rfl | constructor | decide +kernel),by constructor<;>first | rfl | decide +kernel⟩
theorem Oz:BdT "_law_thing" "_law_thing" (top 53) BT.bN:=fun _ _ _ _ _ _ us hl=>by obtain ⟨a0,a1,rfl⟩:=eW hl;rfl
theorem LB:CkT (top 55) BT.fT:=⟨by repeat' (first | rfl | constructor | decide +kernel),by constructor<;>first | rfl | decide +kernel⟩
theorem OA:BdT "law" "law" (top 55) BT.fT:=fun _ _ _ _ _ _ us hl=>by obtain ⟨a0,rfl⟩:=mR hl;rfl
theorem A8:CkT (bA 45 0) BT.cR:=⟨by repeat' (first | rfl | constructor | decide +kernel),by constructor<;>first | rfl | decide +kernel⟩
theorem Ig:BdT "__init__" "Tape.__init__" (bA 45 0) BT.cR:=fun _ _ _ _ _ _ us hl=>by obtain ⟨a0,a1,a2,a3,a4,rfl⟩:=NY hl;rfl
theorem A9:CkT (bA 45 1) BT.eN:=⟨by repeat' (first | rfl | constructor | decide +kernel),by constructor<;>first | rfl | decide +kernel⟩
theorem Ih:BdT "at" "Tape.at" (bA 45 1) BT.eN:=fun _ _ _ _ _ _ us hl=>by obtain ⟨a0,a1,rfl⟩:=eW hl;rfl
theorem Ba:CkT (bA 45 2) BT.dM:=⟨by repeat' (first | rfl | constructor | decide +kernel),by constructor<;>first | rfl | decide +kernel⟩
theorem Ii:BdT "end" "Tape.end" (bA 45 2) BT.dM:=fun _ _ _ _ _ _ us hl=>by obtain ⟨a0,rfl⟩:=mR hl;rfl
theorem vf:CkT (bA 45 10) BT.bK:=⟨by repeat' (first | rfl | constructor | decide +kernel),by constructor<;>first | rfl | decide +kernel⟩
theorem D9:BdT "behind" "Tape.behind" (bA 45 10) BT.bK:=fun _ _ _ _ _ _ us hl=>by obtain ⟨a0,a1,rfl⟩:=eW hl;rfl
theorem vg:CkT (bA 45 11) BT.aP:=⟨by repeat' (first | rfl | constructor | decide +kernel),by constructor<;>first | rfl | decide +kernel⟩
theorem Ea:BdT "is_last" "Tape.is_last" (bA 45 11) BT.aP:=fun _ _ _ _ _ _ us hl=>by obtain ⟨a0,a1,a2,rfl⟩:=gT hl;rfl
theorem vh:CkT (bA 45 12) BT.bL:=⟨by repeat' (first | rfl | constructor | decide +kernel),by constructor<;>first | rfl | decide +kernel⟩
theorem Eb:BdT "keep" "Tape.keep" (bA 45 12) BT.bL:=fun _ _ _ _ _ _ us hl=>by obtain ⟨a0,a1,rfl⟩:=eW hl;rfl
theorem vj:CkT (bA 45 13) BT.bS:=⟨by repeat' (first | rfl | constructor | decide +kernel),by constructor<;>first | rfl | decide +kernel⟩
theorem Ec:BdT "reach" "Tape.reach" (bA 45 13) BT.bS:=fun _ _ _ _ _ _ us hl=>by obtain ⟨a0,a1,rfl⟩:=eW hl;rfl
theorem vm:CkT (bA 45 14) BT.dN:=⟨by repeat' (first | rfl | constructor | decide +kernel),by constructor<;>first | rfl | decide +kernel⟩
theorem Ed:BdT "has" "Tape.has" (bA 45 14) BT.dN:=fun _ _ _ _ _ _ us hl=>by obtain ⟨a0,a1,rfl⟩:=eW hl;rfl
theorem vn:CkT (bA 45 15) BT.bT:=⟨by repeat' (first | rfl | constructor | decide +kernel),by constructor<;>first | rfl | decide +kernel⟩
theorem Ef:BdT "check" "Tape.check" (bA 45 15) BT.bT:=fun _ _ _ _ _ _ us hl=>by obtain ⟨a0,a1,rfl⟩:=eW hl;rfl
theorem vo:CkT (bA 45 16) BT.bf:=⟨by repeat' (first | rfl | constructor | decide +kernel),by constructor<;>first | rfl | decide +kernel⟩
theorem Eg:BdT "readings" "Tape.readings" (bA 45 16) BT.bf:=fun _ _ _ _ _ _ us hl=>by obtain ⟨a0,a1,rfl⟩:=eW hl;rfl
theorem vp:CkT (bA 45 18) BT.aN:=⟨by repeat' (first | rfl | constructor | decide +kernel),by constructor<;>first | rfl | decide +kernel⟩
theorem Eh:BdT "first_from" "Tape.first_from" (bA 45 18) BT.aN:=fun _ _ _ _ _ _ us hl=>by obtain ⟨a0,a1,a2,rfl⟩:=gT hl;rfl
theorem vq:CkT (bA 45 19) BT.bD:=⟨by repeat' (first | rfl | constructor | decide +kernel),by constructor<;>first | rfl | decide +kernel⟩
theorem Ei:BdT "last_to" "Tape.last_to" (bA 45 19) BT.bD:=fun _ _ _ _ _ _ us hl=>by obtain ⟨a0,a1,a2,rfl⟩:=gT hl;rfl
theorem vv:CkT (bA 45 20) BT.aJ:=⟨by repeat' (first | rfl | constructor | decide +kernel),by constructor<;>first | rfl | decide +kernel⟩
theorem Ej:BdT "last_between" "Tape.last_between" (bA 45 20) BT.aJ:=fun _ _ _ _ _ _ us hl=>by obtain ⟨a0,a1,a2,a3,rfl⟩:=Ic hl;rfl
noncomputable def tab:List (BT.FK×BT.Fn):=[(.f "is_whole",BT.dJ),(.f "is_name",BT.c9),(.f "is_cell",BT.eU),(.f "inner_sums",BT.bF),(.f "begun",BT.gM),(.f "check_thing",BT.aZ),(.f "worth_in",BT.cE),(.f "laid_out",BT.dH),(.f "of_two",BT.fQ),(.f "worth_of",BT.bz),(.f "reckoned",BT.dI),(.f "cell_by",BT.ef),(.f "is_over",BT.dg),(.f "place_behind",BT.bC),(.f "with_worth",BT.bR),(.f "with_name",BT.cM),(.f "brought",BT.dh),(.f "stepped",BT.eB),(.f "worth_at",BT.dP),(.f "worths_of",BT.bM),(.f "changes",BT.eV),(.f "last_change",BT.aO),(.f "next_change",BT.bg),(.f "spread",BT.fS),(.f "_law_cell",BT.cF),(.f "_law_drawn",BT.cO),(.f "_law_sum",BT.bJ),(.f "_law_row",BT.eH),(.f "_law_program",BT.aY),(.f "_law_asked",BT.cQ),(.f "_law_thing",BT.bN),(.f "law",BT.fT),(.m "Tape" "__init__",BT.cR),(.m "Tape" "at",BT.eN),(.m "Tape" "end",BT.dM),(.m "Tape" "behind",BT.bK),(.m "Tape" "is_last",BT.aP),(.m "Tape" "keep",BT.bL),(.m "Tape" "reach",BT.bS),(.m "Tape" "has",BT.dN),(.m "Tape" "check",BT.bT),(.m "Tape" "readings",BT.bf),(.m "Tape" "first_from",BT.aN),(.m "Tape" "last_to",BT.bD),(.m "Tape" "last_between",BT.aJ),(.l 0,BT.Ci),(.l 1,BT.Cj),(.l 2,BT.Ck)]
noncomputable def glo:List (Str×BT.W):=[("CELL_COUNT",.p (.int 4)),("WORTH_COUNT",.p (.int 10007)),("ROW",.p (.int 0)),("NAMES",.p (.int 1)),("CELLS",.p (.int 2)),("CALLS",.p (.int 3)),("ASKED",.p (.int 4)),("SAID",.p (.int 5)),("MOST_CALLS",.p (.int 6)),("MOST_MARKS",.p (.int 8)),("LETTERS",.p (.tup ((["a","b","c","d","e","f"]:List Str).map BT.D.str))),("INNER_COUNTS",.k (([("num",0),("name",0),("cell",1),("add",2),("sub",2),("mul",2),("less",2)]:List (Str×Int)).map fun q=>(q.1,BT.D.int q.2)))]
noncomputable abbrev T:BT.FK->Option BT.Fn:=look tab
noncomputable abbrev G:Str->Option BT.W:=look glo
theorem prg:BT.Prg T G:=⟨rfl,rfl,rfl,rfl,rfl,rfl,rfl,rfl,rfl,rfl,rfl,rfl,rfl,rfl,rfl,rfl,rfl,rfl,rfl,rfl,rfl,rfl,rfl,rfl,rfl,rfl⟩
theorem tpp:BT.TpP T G:=⟨prg,rfl,rfl,rfl,rfl,rfl,rfl,rfl,rfl,rfl,rfl⟩
theorem run (ns:List Int) (h:ns.length<=1000):∃ h',BT.runN T G 40 "law" [.p (.lst (BT.aa ns))] []=some (.p (.bl true),h'):=BT.xu ⟨tpp,⟨rfl⟩,⟨⟨rfl⟩,⟨rfl,rfl⟩⟩,⟨rfl⟩,⟨rfl,rfl⟩,⟨rfl,rfl,rfl⟩,⟨rfl,rfl⟩,⟨rfl,rfl,rfl⟩,⟨rfl⟩⟩ ⟨⟨rfl,rfl,rfl,rfl,rfl⟩,rfl,rfl,rfl⟩ ns h 26
theorem LC (w:PK) (K:O0) (hq:∀ q∈qys,bY K q=bZ w q):D8 K tl:=by
 refine ⟨fun z hz=>?_,fun p hp=>?_⟩
 ·simp only[BT.dj,Rh,Q0,or_false] at hz
  rcases hz with rfl | rfl | rfl | rfl | rfl | rfl | rfl | rfl | rfl | rfl | rfl | rfl | rfl | rfl | rfl
  ·exact .inl ⟨199,195,nth 0 rfl,(gi (w:=w) (hq _ (nth 63 rfl))).1⟩
  ·exact .inl ⟨211,207,nth 1 rfl,(gi (w:=w) (hq _ (nth 64 rfl))).1⟩
  ·exact .inl ⟨218,214,nth 2 rfl,(gi (w:=w) (hq _ (nth 65 rfl))).1⟩
  ·exact .inr (bE (w:=w) (hq _ (nth 66 rfl)))
  ·exact .inr (bE (w:=w) (hq _ (nth 67 rfl)))
  ·exact .inr (bE (w:=w) (hq _ (nth 68 rfl)))
  ·exact .inr (bE (w:=w) (hq _ (nth 69 rfl)))
  ·exact .inr (bE (w:=w) (hq _ (nth 70 rfl)))
  ·exact .inr (bE (w:=w) (hq _ (nth 71 rfl)))
  ·exact .inr (bE (w:=w) (hq _ (nth 72 rfl)))
  ·exact .inr (bE (w:=w) (hq _ (nth 73 rfl)))
  ·exact .inr (bE (w:=w) (hq _ (nth 74 rfl)))
  ·exact .inr (bE (w:=w) (hq _ (nth 75 rfl)))
  ·exact .inr (bE (w:=w) (hq _ (nth 76 rfl)))
  ·exact .inr (bE (w:=w) (hq _ (nth 77 rfl)))
 ·simp only[tl,Rh,Q0,or_false] at hp
  rcases hp with rfl | rfl | rfl
  ·exact (gi (w:=w) (hq _ (nth 63 rfl))).2
  ·exact (gi (w:=w) (hq _ (nth 64 rfl))).2
  ·exact (gi (w:=w) (hq _ (nth 65 rfl))).2
theorem txt (P:Pi) (w:PK) (mg:Str->Option O3) (K:O0) (h:Heap) (X:K.In h) (Gh:h.Ns Po mg) (hq:∀ q∈qys,bY K q=bZ w q):Txt P w K mg T G:=by
 have tbf:=LC w K hq
 have all:∀ p∈tab,ve K mg p:=by
  intro p hp
  simp only[tab,Rh,Q0,or_false] at hp
  rcases hp with rfl | rfl | rfl | rfl | rfl | rfl | rfl | rfl | rfl | rfl | rfl | rfl | rfl | rfl | rfl | rfl | rfl | rfl | rfl | rfl | rfl | rfl | rfl | rfl | rfl | rfl | rfl | rfl | rfl | rfl | rfl | rfl | rfl | rfl | rfl | rfl | rfl | rfl | rfl | rfl | rfl | rfl | rfl | rfl | rfl | rfl | rfl | rfl
  ·exact dd (az X Gh (hq _ (nth 0 rfl)) K0.2 NZ K0.1 (fun _ _ _=>aC (by decide +kernel)))
  ·exact dd (az X Gh (hq _ (nth 1 rfl)) K1.2 N1 K1.1 (fun _ _ _=>aC (by decide +kernel)))
  ·exact dd (az X Gh (hq _ (nth 2 rfl)) K2.2 N2 K2.1 (fun _ _ _=>aC (by decide +kernel)))
  ·exact dd (az X Gh (hq _ (nth 3 rfl)) K3.2 N3 K3.1 (fun _ _ _=>aC (by decide +kernel)))
  ·exact dd (az X Gh (hq _ (nth 4 rfl)) K4.2 N4 K4.1 (fun _ _ _=>aC (by decide +kernel)))
  ·exact dd (az X Gh (hq _ (nth 5 rfl)) K5.2 N5 K5.1 (fun _ _ _=>aC (by decide +kernel)))
  ·exact dd (az X Gh (hq _ (nth 6 rfl)) K6.2 N6 K6.1 (fun _ _ _=>aC (by decide +kernel)))
  ·exact dd (az X Gh (hq _ (nth 7 rfl)) K7.2 N7 K7.1 (fun _ _ _=>aC (by decide +kernel)))
  ·exact dd (az X Gh (hq _ (nth 8 rfl)) K8.2 N8 K8.1 (fun _ _ _=>aC (by decide +kernel)))
  ·exact dd (az X Gh (hq _ (nth 9 rfl)) K9.2 N9 K9.1 (fun _ _ _=>aC (by decide +kernel)))
  ·exact dd (az X Gh (hq _ (nth 10 rfl)) La.2 Oa La.1 (fun _ _ _=>aC (by decide +kernel)))
  ·exact dd (az X Gh (hq _ (nth 11 rfl)) Lb.2 Ob Lb.1 (fun _ _ _=>aC (by decide +kernel)))
  ·exact dd (az X Gh (hq _ (nth 12 rfl)) Ld.2 Oc Ld.1 (fun _ _ _=>aC (by decide +kernel)))
  ·exact dd (az X Gh (hq _ (nth 13 rfl)) Lg.2 Od Lg.1 (fun _ _ _=>aC (by decide +kernel)))
  ·exact dd (az X Gh (hq _ (nth 14 rfl)) Lh.2 Oe Lh.1 (fun _ _ _=>aC (by decide +kernel)))
  ·exact dd (az X Gh (hq _ (nth 15 rfl)) Li.2 Of Li.1 (fun _ _ _=>aC (by decide +kernel)))
  ·exact dd (az X Gh (hq _ (nth 16 rfl)) Lj.2 Og Lj.1 (fun _ _ _=>aC (by decide +kernel)))
  ·exact dd (az X Gh (hq _ (nth 17 rfl)) Lk.2 Oh Lk.1 (fun _ _ _=>aC (by decide +kernel)))
  ·exact dd (az X Gh (hq _ (nth 18 rfl)) Ll.2 Oi Ll.1 (fun _ _ _=>aC (by decide +kernel)))
  ·exact dd (az X Gh (hq _ (nth 19 rfl)) Lm.2 Oj Lm.1 (pC (f:=200) (ns:=BT.bM.ns.dropLast) (by decide +kernel) (by decide +kernel) (by decide +kernel) tbf (by decide +kernel) (nth 0 rfl) (hq _ (nth 63 rfl)) (hq _ (nth 78 rfl))))
  ·exact dd (az X Gh (hq _ (nth 20 rfl)) Ln.2 Ol Ln.1 (fun _ _ _=>aC (by decide +kernel)))
  ·exact dd (az X Gh (hq _ (nth 21 rfl)) Lo.2 Om Lo.1 (pC (f:=212) (ns:=BT.aO.ns.dropLast) (by decide +kernel) (by decide +kernel) (by decide +kernel) tbf (by decide +kernel) (nth 1 rfl) (hq _ (nth 64 rfl)) (hq _ (nth 78 rfl))))
  ·exact dd (az X Gh (hq _ (nth 22 rfl)) Lp.2 On Lp.1 (pC (f:=219) (ns:=BT.bg.ns.dropLast) (by decide +kernel) (by decide +kernel) (by decide +kernel) tbf (by decide +kernel) (nth 2 rfl) (hq _ (nth 65 rfl)) (hq _ (nth 78 rfl))))
  ·exact dd (az X Gh (hq _ (nth 23 rfl)) Lq.2 Oo Lq.1 (fun _ _ _=>aC (by decide +kernel)))
  ·exact dd (az X Gh (hq _ (nth 24 rfl)) Lr.2 Oq Lr.1 (fun _ _ _=>aC (by decide +kernel)))
  ·exact dd (az X Gh (hq _ (nth 25 rfl)) Ls.2 Os Ls.1 (fun _ _ _=>aC (by decide +kernel)))
  ·exact dd (az X Gh (hq _ (nth 26 rfl)) Lu.2 Ot Lu.1 (fun _ _ _=>aC (by decide +kernel)))
  ·exact dd (az X Gh (hq _ (nth 27 rfl)) Lv.2 Ou Lv.1 (fun _ _ _=>aC (by decide +kernel)))
  ·exact dd (az X Gh (hq _ (nth 28 rfl)) Ly.2 Ow Ly.1 (fun _ _ _=>aC (by decide +kernel)))
  ·exact dd (az X Gh (hq _ (nth 29 rfl)) Lz.2 Ox Lz.1 (fun _ _ _=>aC (by decide +kernel)))
  ·exact dd (az X Gh (hq _ (nth 30 rfl)) LA.2 Oz LA.1 (fun _ _ _=>aC (by decide +kernel)))
  ·exact dd (az X Gh (hq _ (nth 31 rfl)) LB.2 OA LB.1 (fun _ _ _=>aC (by decide +kernel)))
  ·exact dm (bO X Gh (hq _ (nth 79 rfl)) (hq _ (nth 80 rfl)) (hq _ (nth 81 rfl)) A8.2 Ig A8.1 (by decide +kernel))
  ·exact dm (bO X Gh (hq _ (nth 79 rfl)) (hq _ (nth 80 rfl)) (hq _ (nth 82 rfl)) A9.2 Ih A9.1 (by decide +kernel))
  ·exact dm (bO X Gh (hq _ (nth 79 rfl)) (hq _ (nth 80 rfl)) (hq _ (nth 83 rfl)) Ba.2 Ii Ba.1 (by decide +kernel))
  ·exact dm (bO X Gh (hq _ (nth 79 rfl)) (hq _ (nth 80 rfl)) (hq _ (nth 84 rfl)) vf.2 D9 vf.1 (by decide +kernel))
  ·exact dm (bO X Gh (hq _ (nth 79 rfl)) (hq _ (nth 80 rfl)) (hq _ (nth 85 rfl)) vg.2 Ea vg.1 (by decide +kernel))
  ·exact dm (bO X Gh (hq _ (nth 79 rfl)) (hq _ (nth 80 rfl)) (hq _ (nth 86 rfl)) vh.2 Eb vh.1 (by decide +kernel))
  ·exact dm (bO X Gh (hq _ (nth 79 rfl)) (hq _ (nth 80 rfl)) (hq _ (nth 87 rfl)) vj.2 Ec vj.1 (by decide +kernel))
  ·exact dm (bO X Gh (hq _ (nth 79 rfl)) (hq _ (nth 80 rfl)) (hq _ (nth 88 rfl)) vm.2 Ed vm.1 (by decide +kernel))
  ·exact dm (bO X Gh (hq _ (nth 79 rfl)) (hq _ (nth 80 rfl)) (hq _ (nth 89 rfl)) vn.2 Ef vn.1 (by decide +kernel))
  ·exact dm (bO X Gh (hq _ (nth 79 rfl)) (hq _ (nth 80 rfl)) (hq _ (nth 90 rfl)) vo.2 Eg vo.1 (by decide +kernel))
  ·exact dm (bO X Gh (hq _ (nth 79 rfl)) (hq _ (nth 80 rfl)) (hq _ (nth 91 rfl)) vp.2 Eh vp.1 (by decide +kernel))
  ·exact dm (bO X Gh (hq _ (nth 79 rfl)) (hq _ (nth 80 rfl)) (hq _ (nth 92 rfl)) vq.2 Ei vq.1 (by decide +kernel))
  ·exact dm (bO X Gh (hq _ (nth 79 rfl)) (hq _ (nth 80 rfl)) (hq _ (nth 93 rfl)) vv.2 Ej vv.1 (by decide +kernel))
  ·exact dl rfl (by decide +kernel)
  ·exact dl rfl (by decide +kernel)
  ·exact dl rfl (by decide +kernel)
 refine ⟨fun x fn e=>?_,fun c m fn e=>?_,fun L fn e=>?_,fun x z e=>?_,fun x hx=>?_⟩
 ·exact gS (Q:=fun k fn=>∀ x,k=.f x->Def K mg x fn) (l:=tab) (fun p hp=>(all p hp).1) e x rfl
 ·exact gS (Q:=fun k fn=>∀ c m,k=.m c m->z5 K mg c m fn) (l:=tab) (fun p hp=>(all p hp).2.1) e c m rfl
 ·exact gS (Q:=fun k fn=>∀ L,k=.l L->BT.oj L=some fn/\∃ ns bt,fn=⟨ns,ns,.ret bt⟩/\∀ y,ns.contains (BT.cg y)=false) (l:=tab) (fun p hp=>(all p hp).2.2) e L rfl
 ·refine gS (Q:=fun x z=>sV P w K mg x z) (l:=glo) (fun p hp=>?_) e
  simp only[glo,Rh,Q0,or_false] at hp
  rcases hp with rfl | rfl | rfl | rfl | rfl | rfl | rfl | rfl | rfl | rfl | rfl | rfl
  ·exact bV X Gh (hq _ (nth 32 rfl))
  ·exact bV X Gh (hq _ (nth 33 rfl))
  ·exact bV X Gh (hq _ (nth 34 rfl))
  ·exact bV X Gh (hq _ (nth 35 rfl))
  ·exact bV X Gh (hq _ (nth 36 rfl))
  ·exact bV X Gh (hq _ (nth 37 rfl))
  ·exact bV X Gh (hq _ (nth 38 rfl))
  ·exact bV X Gh (hq _ (nth 39 rfl))
  ·exact bV X Gh (hq _ (nth 40 rfl))
  ·exact bV X Gh (hq _ (nth 41 rfl))
  ·exact A3 X Gh (hq _ (nth 42 rfl)) (by decide) (by decide +kernel)
  ·exact A4 X Gh (hq _ (nth 43 rfl)) (by decide) (by decide +kernel)
 ·simp only[GI,Rh,Q0,or_false] at hx
  rcases hx with rfl | rfl | rfl | rfl | rfl | rfl | rfl | rfl | rfl | rfl | rfl | rfl | rfl | rfl | rfl | rfl | rfl | rfl | rfl
  ·exact none_of X Gh (hq _ (nth 44 rfl))
  ·exact none_of X Gh (hq _ (nth 45 rfl))
  ·exact none_of X Gh (hq _ (nth 46 rfl))
  ·exact none_of X Gh (hq _ (nth 47 rfl))
  ·exact none_of X Gh (hq _ (nth 48 rfl))
  ·exact none_of X Gh (hq _ (nth 49 rfl))
  ·exact none_of X Gh (hq _ (nth 50 rfl))
  ·exact none_of X Gh (hq _ (nth 51 rfl))
  ·exact none_of X Gh (hq _ (nth 52 rfl))
  ·exact none_of X Gh (hq _ (nth 53 rfl))
  ·exact none_of X Gh (hq _ (nth 54 rfl))
  ·exact none_of X Gh (hq _ (nth 55 rfl))
  ·exact none_of X Gh (hq _ (nth 56 rfl))
  ·exact none_of X Gh (hq _ (nth 57 rfl))
  ·exact none_of X Gh (hq _ (nth 58 rfl))
  ·exact none_of X Gh (hq _ (nth 59 rfl))
  ·exact none_of X Gh (hq _ (nth 60 rfl))
  ·exact none_of X Gh (hq _ (nth 61 rfl))
  ·exact none_of X Gh (hq _ (nth 62 rfl))
noncomputable abbrev lw:DefRec:=⟨"law",cH (top 55),aK (top 55),ak (top 55),MC (top 55)⟩
theorem df:PySem.W.defOf qg "law"=some (lw,[]):=by kernel_rfl
theorem th:pg.theDef "law"=some (lw.params,lw.body,lw.scope):=by kernel_rfl
theorem walk:PySem.W.WalkO qg loo (PySem.W.XL qg []) (sees adr qys tas).says PySem.Challenge.rw_backtape_k21_whole_changes.row.toRowW lw [] (fun f vs=>VM f vs) :=
 A7 (l:=PySem.Challenge.rw_backtape_k21_whole_changes) (n:=63) (k:=40) (x:="_law_script") (d:=lw) (T:=T) (G:=G) (ts:=tas) (fn:=BT.fT) rfl (by decide) rfl ⟨rfl,by decide,by decide⟩ rfl rfl (tl:=tl) rfl (by decide +kernel) LC txt fun ns hl=>run ns (by omega)
end BL
open PySem PySem.W PyProof.Rows
set_option maxRecDepth 100000 in
set_option maxHeartbeats 0 in
theorem PySem.Challenge.cw_backtape_k21_whole_changes_holds : PySem.Challenge.rw_backtape_k21_whole_changes.Holds := by
 w_on;refine PySem.W.holds_law (by decide +kernel) fun said=>?_
 refine PySem.W.holds_open (q:=BL.qg) (loose:=BL.loo) (XP:=XL BL.qg []) (YP:=(BG.sees BL.adr BL.qys BL.tas).says) (d:=BL.lw) (kwd:=[]) BL.left (BG.sees BL.adr BL.qys BL.tas).of (BG.sees BL.adr BL.qys BL.tas).keeps (fun s e=>xl_of s (Bool.and_eq_true_iff.mp e).1) XL.keeps BL.df BL.th (by kernel_rfl) (fun s e=>recFacts_of (Bool.and_eq_true_iff.mp e).2) rfl (by first | assumption | decide +kernel) (by decide +kernel) ⟨rfl,rfl,rfl,rfl,rfl,by decide +kernel⟩ ?hw BL.walk
 (case hw=>w_witness2)
#print axioms PySem.Challenge.cw_backtape_k21_whole_changes_holds
end
end

import PyProof.Rows.All
import Wide.All
import OpenK.AllK
import Wide.FinOn
import PyProof.EqAt
import PyProof.EqKinds
import PyProof.TupleCall
import Open.Tree
import Wide.Once
import KE.KLam
import KE.KNestM
import KE.KIsAll
import OpenK.KMore
import KE.KSortTup
import PyProof.Rows.SetFrom
import PySem.Syntax
import PySem.Builtin.Str.Common
import PyProof.SliceList
import PyProof.NeData
import PyProof.ExcAttrAll.ValueError
import PyProof.ZipIter
import KE.KRevIter
import KE.KItemsList
import PyProof.ListRange
import PyProof.CompFree
import PyProof.PlainList
import KE.KTryDeep
import PyProof.FString
import PyProof.FitsInt
import PyProof.RulesAs
import PyProof.ExcBaseAll.ValueError
import Lean
import PySem.Challenge.RW_backtape_k10_tapes
set_option autoImplicit false
set_option Elab.async false
set_option linter.all false
set_option maxRecDepth 100000
set_option maxHeartbeats 8000000
set_option genSizeOf false
noncomputable section
open PySem.W renaming Frag->MI,keepIn->Nb,findIn->Nc,nsIn->Nr,mg_of->NC,emptyDict->NF,fnOf->NJ,kitOne->NQ,tabIn->NV,instObj->N4,kia_one->Og,hasDictIn->Oi,plainGet->OF,envX->OV,callWith_K->OW,codeIn->O2,cellsFrom_some->O9,methodCall_KW->Pj,hideAll->Pk,tabObj->Pu,lookIn->Pv,plainGet_of->PB,hideAll_get->PD,codeHd_of_K->PF,callWith_K0->PJ,mroIn->PN,plainOver->P6,methodObj->P7,isFn->Qc,codeHdIn->Qf,takerIn->Qk,makesIn->Ql,absHeap->QE,SharedT->QF,recOk->QG,excIn->QH,xlAt->QU,of_hideAll->Rh,codeRec_of->Rj,specialIn->Rq,openSeen->RE,handedIn->RG,takesIn->RZ
open PySem renaming Expr->MJ,Shared->MK,Addr->MN,Program->MP,mainGlobals->MX,Scope->M0,Stmt->M1,model->M3,World->M7,starEach->Nd,sliceBounds->Ng,Around->Nn,compareOp->Nt,FuncData->Ny,wpAny_truthy_bool->NP,mem_of_lookup->NS,binaryOp->NU,wpAny_Call_Name_kw->N5,wpAny_passesOwn->Om,wpAny_holding->Oo,call_meets->Oq,builtinsNs->OB,backTo->OC,wpAny_loadPart'->OE,NameKind->OG,wpAny_newObj_type->ON,keywordEach->OO,Operator->OQ,Expr->OS,Arguments->OU,wpAny_execs_cons->O0,wpAny_execs_nil->O6,swapsWith->O7,bootBuiltins->Pd,attributeBase->Py,letOwnedTupleGo->P0,importedModules->P1,codeAny_mono->P4,sliceRange->P8,backToKw->P9,assignEach->Qa,excClassObj->Qj,Keyword->Qn,Stmt->Qp,storeSet->Qt,getMethod->Qu,behindInMarks->Qv,DictEntry->Qz,sysModules->QC,getItem->QD,IsPart->QO,noFill_tuple_add->QT,bindArgs->QY,cellsFrom->Q4,assign->Q5,Within->Q6,PassesOwn->Q8,wpAny_newFunctionEnv_cells->Rf,wpAny_binaryOp_repeat_ref->Rn,setAddHashedIn->Ro,cLine->Rp,wpAny_rule->Ry,wpAny_getItem_list_slice->Rz,wpAny_call->RB,wpAny_standAt->RN,wpAny_callSpecial?_slot->RO,seq_tuple_add->RQ,evalPart_none->RT,compEnvC->RU,callerA->RV,call->RY,Builtin->Sb
open Bool renaming and_eq_true->ML,false_ne_true->NZ,or_eq_true->Oa,not_eq_true'->Ol,or_false->Pi
open List renaming size_toArray->MM,getElem?_append_left->MO,getElem?_eq_none->MS,getElem?_eq_getElem->MT,replicate->MY,mem_of_getElem?->MZ,length_cons->M5,getElem?_append_right->M6,mem_cons_of_mem->M8,map_cons->M9,getElem?_map->Na,mem_cons_self->Nh,mem_append_right->Ni,length_append->Nj,getElem?_set_ne->Nl,range->Nv,getD_eq_getElem?_getD->Nx,getElem?_set_self->Nz,replicate_succ->NB,not_mem_nil->ND,filterMap_cons->NI,singleton_append->NL,length_nil->NN,length_map->NO,getElem?_replicate->NR,append_nil->NT,all_eq_true->NX,mem_cons->NY,mem_append_left->N6,getElem?_of_mem->N7,flatten_cons->N8,append_assoc->N9,map_nil->Oc,lookup_cons->Of,lookup->Ot,getElem?_take_of_lt->Ou,nil_append->Oz,length_replicate->OH,getElem_mem->OM,dropLast_concat_getLast->OR,of_mem_zip->OX,map_congr_left->OY,map_append->OZ,length->Pe,head_eq_of_cons_eq->Pf,reverse_singleton->Po,range_succ_eq_map->Pp,length_singleton->Pw,drop_zero->PP,getElem?_range->PV,map_map->Qm,length_take->Qq,eq_nil_of_length_eq_zero->Qs,nodup_nil->QL,getElem?_eq_none_iff->QM,drop_eq_getElem_cons->QN,foldl->QV,sum_cons->QZ,find?_cons_of_neg->Q9,set_set->Rk,range'->RJ,drop_succ_cons->RK,mem_singleton->R6,contains_cons->R8
open PySem.Heap renaming get?_push_of_some->MQ,lt_size->MW,get?_push_size->Nk,SameBut->Ow,MadeExcOf->PR,size_push->QS,get?_update_other->Rc
open Nat renaming le_refl->MR,lt_or_ge->M4,lt_of_lt_of_le->Nf,ne_of_lt->Np,le_trans->Nq,lt_irrefl->N3,zero_le->Od,le_succ->Oe,lt_succ_self->Os,mul_comm->Ox,le_of_lt->PK,mul_div_cancel->Qg,not_lt_zero->QJ,div_add_mod->QK,zero_add->Rr,ne_of_gt->Rt,lt_trans->Ru,div_le_div_right->RI
open PySem.Str renaming ofString->MU,empty->Qe,ofString_eq_toList->Rg
open Option.some renaming inj->MV,injEq->OT
open False renaming elim->Nu
open PySem.NameKind renaming free->NG,cell->PM
open PySem.Builtin.List renaming listTooLong->NH
open PySem.Value renaming ref->NK,builtin->OP,str->Pr,isStrOf->P5,none->Qd,int->Qw,bool->RX
open PyProof.Rows renaming slot_tuple_getitem->NW,envOfC->OA,callWith_type1->OD,AllBare->Qo,Subscript_->RC,subscriptTail->RP
open PySem.F renaming plainAttrs_list->Ob,args_tuple_add_2->O4,entry_tuple_add->O8,slot_tuple_add->Pa
open PySem.Builtin.Slice renaming slicePlaces->Oh,sliceAdjust->OL,sliceApplied->PZ
open PySem.Builtin.Tuple renaming tupleExact->Oj,tupleTooMany->PX,tupleItemsOf->PY
open PySem.Builtin.Str renaming occurrences->On
open PySem.PassesOwn renaming never->OI,looking->Q7
open List.cons renaming injEq->OJ
open PySem.Calls renaming Name_function_global->O3,loadGlobal_global->QX,callWith_builtin->Q0,evalArgs_plain->Rm,spliced_cons->RL,Constant_str->RM,spliced_nil->Sa
open Array renaming getElem?_eq_getElem->O5,getElem?_eq_none->Pn,length_toList->PU,eq_empty_of_size_eq_zero->Qi,getElem?_append_left->QB,getElem?_extract->Q2,getElem?_toList->Re,getElem?_push->Rx
open Option renaming bind_some->Pb,getD_some->Qh,getD_none->R0
open ForInStep renaming yield->Pc
open PySem.Heap.SameBut renaming update->Ph
open Int renaming natCast_zero->Pq
open PySem.Around renaming frames_deeper->Px,under->Q3
open True renaming intro->Pz
open PySem.Obj renaming mapSeq->PL
open PySem.Heap.IsSliceOf renaming new->Qx
open Classical renaming axiomOfChoice->QA
open Prod.mk renaming injEq->QI
open Char renaming toNat->QW
open PySem.Code renaming isFrame->Rl
open PySem.AutoSeq1 renaming idx_int->Rv
section
namespace L2
open PySem PySem.Spec PyProof.Rows
def cD (s:Qp):OU:=match s with
 | .FunctionDef _ a _ _ _ _ _ _ _ _=>a
 | _=>{ posonlyargs:=[],args:=[],vararg:=none,kwonlyargs:=[],kw_defaults:=[],kwarg:=none,defaults:=[] }
def aq (s:Qp):List Qp:=match s with
 | .FunctionDef _ _ b _ _ _ _ _ _ _=>b
 | _=>[]
def af (s:Qp):M0:=match s with
 | .FunctionDef _ _ _ _ _ _ sc _ _ _=>sc
 | _=>{ kind:=.function,names:=[],isGenerator:=false,isCoroutine:=false }
end L2
end
section
namespace BR
open PySem PySem.W PyProof.Rows
noncomputable def n9:List Obj->BT->Nat->Option (BT×Nat)
 | [],T,n=>some (T,n)
 | o :: r,T,n=>match ((T.ins n o).get n).isSome with
  | true=>n9 r (T.ins n o) (n+1)
  | false=>none
theorem lH (life:Life):∀ {l:List Obj}{T T':BT}{n n':Nat},n9 l T n=some (T',n')->(QE T' n' life).objs.toList=(QE T n life).objs.toList++l
 | [],T,T',n,n',h=>by cases h;simp
 | o :: r,T,T',n,n',h=>by
  unfold n9 at h
  cases g:((T.ins n o).get n).isSome with
  | false=>rw[g] at h;cases h
  | true =>
   rw[g] at h
   rw[lH life h,absHeap_ins g]
   show ((QE T n life).objs.push o).toList++r=_
   simp
noncomputable def toT (s:MK):Option QF:=match n9 s.heap.objs.toList .nil 0 with
 | some (T,n)=>some ⟨T,n,s.heap.life,s.gens,s.drawn,s.toks,s.os⟩
 | none=>none
theorem zw {s:MK}{t:QF} (h:toT s=some t):t.abs=s:=by
 unfold toT at h
 cases e:n9 s.heap.objs.toList .nil 0 with
 | none=>rw[e] at h;cases h
 | some r =>
  obtain ⟨T,n⟩:=r
  rw[e] at h
  cases h
  have:=lH s.heap.life e
  obtain ⟨⟨objs,life⟩,g,d,k,o⟩:=s
  show Shared.mk (QE T n life) g d k o=Shared.mk ⟨objs,life⟩ g d k o
  have e2:(QE T n life).objs.toList=objs.toList:=by
   rw[this];simp[QE,BT.list]
  have e3:(QE T n life).objs=objs:=Array.toList_inj.mp e2
  have e4:QE T n life=⟨objs,life⟩:=by
   show Heap.mk _ _=Heap.mk _ _
   exact congrArg (Heap.mk · life) e3
  rw[e4]
noncomputable def jC (tb:String->Option Sb) (p:MP) (w:M7) (n₀:Nat) (ann:Option Value):Nat->QF->Thread->Option QF
 | 0,_,_=>none
 | n+1,s,t=>match through t with
  | true=>some s
  | false=>match stepOk n₀ ann t with
   | false=>none
   | true=>match stepT (denote tb) p w s t with
    | some (s',t')=>jC tb p w n₀ ann n s' t'
    | none=>none
section
variable {tb:String->Option Sb}{p:MP}{w:M7}{n₀:Nat}{ann:Option Value}
theorem lI:∀ {n:Nat}{s s':QF}{t:Thread},jC tb p w n₀ ann n s t=some s'->topRun tb p w n₀ ann n s.abs t=some s'.abs
 | 0,_,_,_,h=>by cases h
 | n+1,s,s',t,h=>by
  unfold jC at h
  unfold topRun
  cases he:through t with
  | true=>rw[he] at h;cases h;rfl
  | false =>
   rw[he] at h
   cases hk:stepOk n₀ ann t with
   | false=>rw[hk] at h;cases h
   | true =>
    rw[hk] at h
    cases hs:stepT (denote tb) p w s t with
    | none=>rw[hs] at h;cases h
    | some r=>obtain ⟨s₂,t₂⟩:=r;rw[hs] at h;dsimp only;rw[stepT_spec hs];exact lI h
end
noncomputable def jO (tb:String->Option Sb) (p:MP) (w:M7) (N:Nat) (s₀:MK):Option QF :=
 match s₀.heap.isNs MX&&s₀.gens.size==0 with
 | true=>(toT s₀).bind fun t₀=>(jC tb p w s₀.heap.objs.size (s₀.heap.nsMap MX "__annotations__") N t₀ (topStub p)).bind fun t₁ =>
  match staticsOk (P1 p.main.body) s₀.heap t₁.abs.heap&&namesBound p t₁.abs.heap&&gensDone t₁.abs&&laidKept s₀.heap t₁.abs.heap with
   | true=>some t₁
   | false=>none
 | false=>none
theorem p7 {tb:String->Option Sb}{p:MP}{w:M7}{N:Nat}{s₀:MK}{t:QF} (h:jO tb p w N s₀=some t):topFrom tb p w N s₀=some t.abs:=by
 unfold jO at h
 unfold topFrom
 cases e:(s₀.heap.isNs MX&&s₀.gens.size==0) with
 | false=>rw[e] at h;cases h
 | true =>
  rw[e] at h
  obtain ⟨t₀,h0,h⟩:=Option.bind_eq_some_iff.mp h
  obtain ⟨t₁,h1,h⟩:=Option.bind_eq_some_iff.mp h
  have h2:=lI h1
  rw[zw h0] at h2
  dsimp only
  rw[h2]
  show (match _ with | true=>some t₁.abs | false=>none)=_
  cases e2:(staticsOk (P1 p.main.body) s₀.heap t₁.abs.heap&&namesBound p t₁.abs.heap&&gensDone t₁.abs&&laidKept s₀.heap t₁.abs.heap) with
  | false=>rw[e2] at h;cases h
  | true=>rw[e2] at h;cases h;rfl
noncomputable def lJ (tb:String->Option Sb) (p:MP) (w:M7) (N:Nat):Option QF:=(fencedOpening tb p w N).bind (jO tb p w N)
theorem zx {tb:String->Option Sb}{p:MP}{w:M7}{N:Nat}{α:Type}{f:MK->α}{x:α} (h:(lJ tb p w N).map (fun t=>f t.abs)=some x):(openEnds tb p w N).map f=some x:=by
 obtain ⟨t,ht,e⟩:=Option.map_eq_some_iff.mp h
 obtain ⟨s₀,h0,h1⟩:=Option.bind_eq_some_iff.mp ht
 unfold openEnds
 rw[h0]
 show (topFrom tb p w N s₀).map f=some x
 rw[p7 h1]
 exact congrArg some e
end BR
end
section
namespace BG
open PySem PySem.Spec PySem.Calls PyProof.Rows L2
structure FS where
 name:Str
 qual:Str
 params:OU
 body:FuncBody
 scope:M0
 globals:MN
 closure:List (Str×MN)
 defaults:Value
 builtins:MN
 code:Bool
noncomputable def zy (K:MI) (f:MN):Option FS:=match K.lookup f with
 | some ⟨_,_,.func fd,_⟩=>some ⟨fd.name,fd.qualname,fd.params,fd.body,fd.scope,fd.globals,fd.closure,fd.defaults,fd.builtins,O2 K fd.code fd.qualname⟩
 | _=>none
noncomputable def qW (x qual:Str) (st:Qp):FS:=⟨x,qual,cD st,.stmts (aq st),af st,MX,[],.none,OB,true⟩
noncomputable def strOf:Value->Option Str
 | .str x _=>some x
 | _=>none
noncomputable def intOf:Value->Option Int
 | .int i _=>some i
 | _=>none
noncomputable def refOf:Option (Option Value)->Option MN
 | some (some (.ref a))=>some a
 | _=>none
inductive Qy where
 | fn (x:Str) (f:MN) (st:Qp) | int (x:Str) (n:Int) | tup (x:Str) (f:MN) (xs:List Str) | dct (x:Str) (f:MN) (kvs:List (Str×Int)) | no (x:Str) | cls (c:Str) (C:MN) | me (C:MN) (m x qual:Str) (f:MN) (st:Qp) | mk (C:MN)
 | tab (x:Str) (c P:MN) | bm (b:MN) | fv (x:Str) (f:MN) | exc (D:MN) (xs:List (Str×MN))
inductive Ov where
 | fn (a:Option MN) (o:Option FS) | int (n:Option Int) | seq (a:Option MN) (c:Option (Value×Option MN×Nat)) (xs:Option (List (Option Str))) | dct (a:Option MN) (c:Option (Value×Option MN×Nat)) (xs:Option (List (Int×Option Str×Option Int))) | b (x:Bool)
noncomputable def shp (o:Obj):Value×Option MN×Nat:=(o.cls,o.dict,o.slots.size)
noncomputable def BU (o:Obj):Option (List (Option Str)):=match o.data with
 | .seq its _=>some (its.toList.map strOf)
 | _=>none
noncomputable def BV (o:Obj):Option (List (Int×Option Str×Option Int)):=match o.data with
 | .dict es _=>some (es.toList.map fun e=>(e.hash,strOf e.key,intOf e.val))
 | _=>none
noncomputable def attrs:List Str:=["program","asked","gap","most","kept","farthest","front","now","origins","branches","tape","named"]
noncomputable def FU (K:MI) (c:Str) (C:MN):Bool:=decide (Nr K MX c=some (some (.ref C)))&&OF K C Qe&&Oi K C&&P6 K C&&decide (Nc K (.ref C) "__setattr__"=some (some (.builtin "object.__setattr__"))) &&
 attrs.all fun f=>decide (Nc K (.ref C) f=some none)
noncomputable def meB (K:MI) (C:MN) (m:Str) (f:MN):Bool:=decide (Nc K (.ref C) m=some (some (.ref f)))&&Qc K (.ref f)
noncomputable def mkB (K:MI) (C:MN):Bool:=Ql K C&&Nb K (.ref C)
noncomputable def bmB (K:MI) (b:MN):Bool:=decide (Nr K MX "__builtins__"=some (some (.ref b)))&&decide (b≠OB)&&(match K.lookup b with
 | some ⟨.type "module",some d,.plain,_⟩=>d==OB
 | _=>false)
noncomputable def JQ (K:MI) (C D:MN):Bool:=match K.lookup C with
 | some ⟨_,_,.cls cd,_⟩=>cd.mro.contains (.ref D)
 | _=>false
noncomputable def zA (K:MI) (c:Str) (C:MN):Bool:=decide (Nr K MX c=some (some (.ref C)))&&QH K C [.type "ValueError",.type "Exception",.type "BaseException",.type "object"] "ValueError.__new__"
noncomputable def CH (K:MI) (D:MN) (xs:List (Str×MN)) (c:Str) (C:MN):Bool:=zA K c C&&JQ K C D&&decide (Nc K (.ref C) "__getattribute__"=some (some (.builtin "BaseException.__getattribute__")))&&decide (Nc K (.ref C) "__getattr__"=some none) &&
 decide (PN K C (.type "BaseException")=some true)&&Oi K C&&decide (Nc K (.ref C) "__class__"=some (some (.builtin "object.__class__")))&&decide (Rq K (.builtin "object.__class__") "__get__"=some (some (.builtin "getset_descriptor.__get__"))) &&
 decide (RZ K (.builtin "object.__class__")=some true)&&decide (PN K C (.type "object")=some true)&&decide (NQ K (.ref C) (.type "ValueError")=some true)&&xs.all fun q=>decide (NQ K (.ref C) (.ref q.2)=some (q.1==c))
noncomputable def FW (K:MI) (D:MN) (xs:List (Str×MN)):Bool:=zA K "TapeError" D&&xs.all fun q=>CH K D xs q.1 q.2
noncomputable def bG (K:MI):Qy->Ov
 | .fn x f _=>.fn (refOf (Nr K MX x)) (zy K f)
 | .int x _=>.int (match Nr K MX x with | some (some v)=>intOf v | _=>none)
 | .tup x f _=>.seq (refOf (Nr K MX x)) ((K.lookup f).map shp) ((K.lookup f).bind BU)
 | .dct x f _=>.dct (refOf (Nr K MX x)) ((K.lookup f).map shp) ((K.lookup f).bind BV)
 | .no x=>.b (decide (Nr K MX x=some none))
 | .cls c C=>.b (FU K c C)
 | .me C m _ _ f _=>.fn (if meB K C m f then some f else none) (zy K f)
 | .mk C=>.b (mkB K C)
 | .tab x c P=>.b (decide (NV K x=some (c,P))&&Qf K c P)
 | .bm b=>.b (bmB K b)
 | .fv x f=>.b (decide (Nr K MX x=some (some (.ref f)))&&Nb K (.ref f))
 | .exc D xs=>.b (FW K D xs)
noncomputable def bH (w:M7):Qy->Ov
 | .fn x f st=>.fn (some f) (some (qW x x st))
 | .int _ n=>.int (some n)
 | .tup _ f xs=>.seq (some f) (some (.type "tuple",none,0)) (some (xs.map some))
 | .dct _ f kvs=>.dct (some f) (some (.type "dict",none,0)) (some (kvs.map fun q=>(PyData.keyHash w.params q.1,some q.1,some q.2)))
 | .no _=>.b true
 | .cls _ _=>.b true
 | .me _ _ x qual f st=>.fn (some f) (some (qW x qual st))
 | .mk _=>.b true
 | .tab _ _ _=>.b true
 | .bm _=>.b true
 | .fv _ _=>.b true
 | .exc _ _=>.b true
noncomputable def KOf (as:List MN) (h:Heap):MI:=as.map fun a=>(a,(h.get? a).getD default)
noncomputable def sees (as:List MN) (qs:List Qy) (ts:List MN):PySem.W.Hook where
 α:=Bool×List Ov×List (Option Obj)
 obs:=fun s=>(as.all fun a=>(s.heap.get? a).isSome,qs.map (bG (KOf as s.heap)),ts.map s.heap.get?)
 val:=fun w=>(true,qs.map (bH w),ts.map fun _=>some (Pu #[]))
 says:=fun w h=>∃ K:MI,K.map (·.1)=as/\(∀ p∈K,h.get? p.1=some p.2)/\(∀ q∈qs,bG K q=bH w q)/\∀ P∈ts,h.get? P=some (Pu #[])
 of:=fun w s e=>by
  have e1:=congrArg Prod.fst e
  have e2:=congrArg (fun p=>p.2.1) e
  have e3:=congrArg (fun p=>p.2.2) e
  refine ⟨KOf as s.heap,by simp[KOf,Function.comp_def],fun p hp=>?_,fun q hq=>List.map_inj_left.mp e2 q hq,fun P hP=>List.map_inj_left.mp e3 P hP⟩
  obtain ⟨a,ha,rfl⟩:=List.mem_map.mp hp
  have h1:=List.all_eq_true.mp e1 a ha
  obtain ⟨o,ho⟩:=Option.isSome_iff_exists.mp h1
  show s.heap.get? a=some ((s.heap.get? a).getD default)
  rw[ho];rfl
 keeps:=fun w h h' ⟨K,m,n,k,t⟩ hk=>⟨K,m,fun p hp=>hk _ _ (n p hp),k,fun P hP=>hk _ _ (t P hP)⟩
end BG
end
section
namespace BL
open PySem PySem.Spec PyProof.Rows L2 BG
noncomputable abbrev pg:MP:=PySem.Challenge.pw_backtape_k10_tapes
noncomputable def qg:MP:=PySem.W.view pg [0,2,3,4,5,6,8,9,10,11,12,13,14,15,17,18,19,20,21,22,23,24,25,26,27,28,29,30,31,32,33,34,35,36,37,39,40,42,43,44,45,46,47,48,49,50,51,52,53,54,55,56]
noncomputable abbrev loo:List Str:=["INNER_COUNTS"]
noncomputable def top (i:Nat):Qp:=pg.main.body.getD i (.Pass ⟨0,0,0,0⟩)
noncomputable def FY:Qp->List Qp
 | .ClassDef _ _ _ b _ _ _ _ _ _ _=>b
 | _=>[]
noncomputable def aK (i j:Nat):Qp:=(FY (top i)).getD j (.Pass ⟨0,0,0,0⟩)
noncomputable def JR:Qp->Pos
 | .FunctionDef _ _ _ _ _ _ _ _ _ p=>p
 | _=>⟨0,0,0,0⟩
noncomputable abbrev adr:List MN:=[3,30,31,43,44,55,56,67,68,79,80,83,84,90,91,97,98,111,112,118,119,132,133,139,140,146,147,153,154,160,161,167,168,174,175,181,182,188,189,195,196,202,203,209,210,223,224,230,231,237,238,244,245,251,252,258,259,265,266,272,273,291,292,298,299,305,306,312,313,319,320,326,327,364,365,375,376,382,383,389,390,396,397,401,402,406,407,413,414,420,421,427,428,434,435,441,442,448,449,455,456,462,463,469,470]
noncomputable def qys:List Qy:=[.fn "is_whole" 91 (top 12),
 .fn "is_name" 98 (top 13),
 .fn "inner_sums" 112 (top 15),
 .fn "begun" 119 (top 24),
 .fn "worth_in" 133 (top 26),
 .fn "laid_out" 140 (top 27),
 .fn "of_two" 147 (top 28),
 .fn "worth_of" 154 (top 29),
 .fn "reckoned" 161 (top 30),
 .fn "cell_by" 168 (top 31),
 .fn "is_over" 175 (top 32),
 .fn "place_behind" 182 (top 33),
 .fn "with_worth" 189 (top 34),
 .fn "with_name" 196 (top 35),
 .fn "brought" 203 (top 36),
 .fn "stepped" 210 (top 37),
 .fn "_law_cell" 376 (top 42),
 .fn "_law_drawn" 383 (top 43),
 .fn "_law_sum" 390 (top 44),
 .fn "_law_row" 397 (top 45),
 .fn "_law_program" 402 (top 46),
 .fn "_law_asked" 407 (top 47),
 .fn "_law_worth" 414 (top 48),
 .fn "_law_is_over" 421 (top 49),
 .fn "_law_write" 428 (top 50),
 .fn "_law_put" 435 (top 51),
 .fn "_law_step" 442 (top 52),
 .fn "_law_states" 449 (top 53),
 .fn "_law_refused" 456 (top 54),
 .fn "law" 470 (top 56),
 .int "CELL_COUNT" 4,
 .int "WORTH_COUNT" 10007,
 .int "ROW" 0,
 .int "NAMES" 1,
 .int "CELLS" 2,
 .int "CALLS" 3,
 .int "ASKED" 4,
 .int "SAID" 5,
 .int "MOST_CALLS" 6,
 .int "MOST_MARKS" 8,
 .tup "LETTERS" 83 ["a","b","c","d","e","f"],
 .dct "INNER_COUNTS" 84 [("num",0),("name",0),("cell",1),("add",2),("sub",2),("mul",2),("less",2)],
 .no "len",
 .no "abs",
 .no "int",
 .no "list",
 .no "tuple",
 .no "isinstance",
 .no "str",
 .no "bool",
 .no "range",
 .no "reversed",
 .no "enumerate",
 .no "zip",
 .no "min",
 .no "max",
 .no "sorted",
 .no "sum",
 .no "all",
 .no "any",
 .no "set",
 .no "ValueError",
 .no "worths_of",
 .no "last_change",
 .no "next_change",
 .no "moments_so",
 .no "last_so",
 .no "next_so",
 .no "visits",
 .no "last_visit",
 .no "when_said",
 .no "next_within",
 .no "last_within",
 .no "first_other",
 .no "writer_of",
 .no "judged",
 .no "remade",
 .cls "Tape" 365,
 .mk 365,
 .me 365 "__init__" "__init__" "Tape.__init__" 224 (aK 40 0),
 .me 365 "at" "at" "Tape.at" 231 (aK 40 1),
 .me 365 "end" "end" "Tape.end" 238 (aK 40 2),
 .me 365 "moment" "moment" "Tape.moment" 245 (aK 40 3),
 .me 365 "state" "state" "Tape.state" 252 (aK 40 4),
 .me 365 "to" "to" "Tape.to" 259 (aK 40 5),
 .me 365 "go" "go" "Tape.go" 266 (aK 40 6),
 .me 365 "back" "back" "Tape.back" 273 (aK 40 7),
 .me 365 "behind" "behind" "Tape.behind" 292 (aK 40 10),
 .me 365 "is_last" "is_last" "Tape.is_last" 299 (aK 40 11),
 .me 365 "keep" "keep" "Tape.keep" 306 (aK 40 12),
 .me 365 "reach" "reach" "Tape.reach" 313 (aK 40 13),
 .me 365 "has" "has" "Tape.has" 320 (aK 40 14),
 .me 365 "check" "check" "Tape.check" 327 (aK 40 15),
 .fn "_law_told" 463 (top 55),
 .exc 31 [("NoMoment",44),("NoRun",56),("NoThing",68),("NoText",80)]]
noncomputable abbrev tl:List (Str×MN×MN):=[]
noncomputable abbrev tas:List MN:=[]
noncomputable def Lf (w:M7):Prop:=(BR.lJ treeTable pg w 6602).map (fun t=>(RE qg loo (P1 pg.main.body) (fun s=>QU qg [] s&&QG [] s) true t.abs,(sees adr qys tas).obs t.abs))=some (PySem.W.openGood qg loo,(sees adr qys tas).val w)
theorem lf0 (w:M7):Lf (w.withFollow "special-get-raises" false):=by unfold Lf;kernel_rfl
theorem lf1 (w:M7):Lf (w.withFollow "special-get-raises" true):=by unfold Lf;kernel_rfl
theorem left:PySem.W.LeftO pg qg loo (fun s=>QU qg [] s&&QG [] s) (sees adr qys tas).obs (sees adr qys tas).val 6602:=fun w=>BR.zx (f:=fun s=>(RE qg loo (P1 pg.main.body) (fun s=>QU qg [] s&&QG [] s) true s,(sees adr qys tas).obs s)) (PySem.W.byRow2 (P:=Lf) "special-get-raises" lf0 lf1 w)
end BL
end
section
namespace L2
open PySem PySem.Spec PyProof.Rows
noncomputable abbrev Key:=Sum Int Str
noncomputable def qX:Key->Value->Bool
 | .inl k,v=>Value.isInt k v
 | .inr x,v=>P5 x v
noncomputable def JS (w:M7):Key->Int
 | .inl k=>hashInt k
 | .inr x=>hashStr w x
theorem aW:∀ {k:Key}{v:Value},qX k v=true->(∃ i t,k=Sum.inl i/\v=Qw i t)\/(∃ x t,k=Sum.inr x/\v=Pr x t)
 | .inl i,v,h=>by
  obtain ⟨t,e⟩:=Value.isInt_shape (k:=i) (v:=v) h
  exact .inl ⟨i,t,rfl,e⟩
 | .inr x,v,h=>by
  obtain ⟨t,e⟩:=Value.isStrOf_shape (x:=x) (v:=v) h
  exact .inr ⟨x,t,rfl,e⟩
theorem tX (x:Str) (t:Tok):qX (.inr x) (.str x t)=true:=by simp[qX,P5]
theorem CJ (a b:Int):decide ((Sum.inl a:Key)=Sum.inl b)=(a==b):=by
 by_cases e:a=b
 ·subst e;simp
 ·have h:¬ (Sum.inl a:Key)=Sum.inl b:=fun q=>e (Sum.inl.inj q)
  rw[decide_eq_false h]
  exact (beq_eq_false_iff_ne.mpr e).symm
theorem CK (a b:Str):decide ((Sum.inr a:Key)=Sum.inr b)=decide (a=b):=by
 by_cases e:a=b
 ·subst e;simp
 ·have h:¬ (Sum.inr a:Key)=Sum.inr b:=fun q=>e (Sum.inr.inj q)
  rw[decide_eq_false h,decide_eq_false e]
theorem CM (a:Int) (b:Str):decide ((Sum.inl a:Key)=Sum.inr b)=false:=decide_eq_false (fun q=>nomatch q)
theorem CP (a:Str) (b:Int):decide ((Sum.inr a:Key)=Sum.inl b)=false:=decide_eq_false (fun q=>nomatch q)
noncomputable def cE (prog:MP) (w:M7):PySem.KeyKind prog w Key where
 is:=qX
 hash:=JS w
 inj:=fun v a b ha hb=>by
  rcases aW ha with ⟨i,t,rfl,rfl⟩ | ⟨x,t,rfl,rfl⟩
  ·rcases aW hb with ⟨j,u,rfl,e⟩ | ⟨y,u,rfl,e⟩
   ·injection e with e1 _;rw[e1]
   ·exact nomatch e
  ·rcases aW hb with ⟨j,u,rfl,e⟩ | ⟨y,u,rfl,e⟩
   ·exact nomatch e
   ·injection e with e1 _;rw[e1]
 byValue:=fun k v h=>by
  rcases aW h with ⟨i,t,rfl,rfl⟩ | ⟨x,t,rfl,rfl⟩<;>rfl
 pyHash:=fun hv h=>by
  rcases aW hv with ⟨i,t,rfl,rfl⟩ | ⟨x,t,rfl,rfl⟩
  ·exact wpAny_pyHash_int h
  ·exact wpAny_pyHash_str h
 eqBool:=fun hu hv h=>by
  rcases aW hu with ⟨i,t,rfl,rfl⟩ | ⟨x,t,rfl,rfl⟩
  ·rcases aW hv with ⟨j,u,rfl,rfl⟩ | ⟨y,u,rfl,rfl⟩
   ·rw[CJ] at h;exact wpAny_eqBool_int h
   ·rw[CM] at h;exact SeqAt.EqAt.int_str i t y u _ _ _ _ h
  ·rcases aW hv with ⟨j,u,rfl,rfl⟩ | ⟨y,u,rfl,rfl⟩
   ·rw[CP] at h;exact SeqAt.EqAt.str_int x t j u _ _ _ _ h
   ·rw[CK] at h;exact wpAny_eqBool_str h
 «strs»:=fun k x t v h=>by
  rcases aW h with ⟨i,u,rfl,e⟩ | ⟨y,u,rfl,e⟩
  ·exact nomatch e
  ·injection e with e1 _
   subst e1
   cases v<;>rfl
theorem fQ (prog:MP) (w:M7) (x:Str) (t:Tok):(cE prog w).is (.inr x) (.str x t)=true:=tX x t
end L2
namespace L2
open PySem PySem.Spec PyProof.Rows
inductive V where
 | non | bl (b:Bool) | int (i:Int) | str (x:Str) | byt (b:Array UInt8) | flt (b:UInt64) | ref (a:MN) | ty (n:String)
 deriving DecidableEq
noncomputable def RelV:V->Value->Prop
 | .non,u=>u=Qd
 | .bl b,u=>u=RX b
 | .int i,u=>∃ t,u=Qw i t
 | .str x,u=>∃ t,u=Pr x t
 | .byt b,u=>∃ t,u=Value.bytes b t
 | .flt b,u=>∃ t,u=Value.float b t
 | .ref a,u=>u=NK a
 | .ty n,u=>u=Value.type n
noncomputable abbrev ao:List V->List Value->Prop:=Paired RelV
theorem ao.length {xs:List V}{us:List Value} (r:ao xs us):xs.length=us.length:=Paired.length r
theorem ao.get:∀ {xs:List V}{us:List Value}{i:Nat}{x:V},ao xs us->xs[i]?=some x->∃ u,us[i]?=some u/\RelV x u
 | _,_,_,_,.nil,e=>by simp at e
 | _,_,0,_,.cons r _,e=>by simp at e;subst e;exact ⟨_,rfl,r⟩
 | _,_,i+1,x,.cons _ t,e=>by
  obtain ⟨u,h1,h2⟩:=ao.get (i:=i) (x:=x) t (by simpa using e)
  exact ⟨u,by simpa using h1,h2⟩
theorem ao.set {x:V}{u:Value} (r:RelV x u):∀ {xs:List V}{us:List Value} (i:Nat),ao xs us->ao (xs.set i x) (us.set i u)
 | _,_,_,.nil=>.nil
 | _,_,0,.cons _ t=>.cons r t
 | _,_,i+1,.cons q t=>.cons q (ao.set r i t)
theorem ao.append:∀ {xs ys:List V}{us ws:List Value},ao xs us->ao ys ws->ao (xs++ys) (us++ws)
 | _,_,_,_,.nil,s=>s
 | _,_,_,_,.cons r t,s=>.cons r (ao.append t s)
theorem ao.take:∀ {xs:List V}{us:List Value} (n:Nat),ao xs us->ao (xs.take n) (us.take n)
 | _,_,0,_=>.nil
 | _,_,_+1,.nil=>.nil
 | _,_,n+1,.cons r t=>.cons r (ao.take n t)
theorem ao.drop:∀ {xs:List V}{us:List Value} (n:Nat),ao xs us->ao (xs.drop n) (us.drop n)
 | _,_,0,r=>r
 | _,_,_+1,.nil=>.nil
 | _,_,n+1,.cons _ t=>ao.drop n t
noncomputable def kU:Option V->Option Value->Prop
 | some v,some u=>RelV v u
 | none,none=>True
 | _,_=>False
noncomputable def KV {κ:Type}:List (κ×V)->List (κ×Value)->Prop:=Paired fun (p:κ×V) (q:κ×Value)=>p.1=q.1/\RelV p.2 q.2
noncomputable def kV:Key->V
 | .inl i=>.int i
 | .inr x=>.str x
inductive HO where
 | lst (xs:List V)
 | tup (xs:List V)
 | dK (kvs:List (Key×V)) | dT (kvs:List (List Key×V))
 | set (S:Int->Bool) (n:Nat)
 | ins (C dx:MN) (fs:List (Str×V))
 | own (x:MN)
 | xd (fs:List (Str×V))
 | met (f x:MN)
 | rng (lo hi:Int)
 | frz (o:Obj) (u:HO)
 | tbl (ps:Array Value)
 | ext (φ:Heap->Prop)
noncomputable abbrev Hp:=MN->Option HO
noncomputable def upd (H:Hp) (a:MN) (o:HO):Hp:=fun b=>if b=a then some o else H b
theorem bx {H:Hp}{a:MN}{o:HO}:upd H a o a=some o:=by unfold upd;rw[if_pos rfl]
theorem au {H:Hp}{a b:MN}{o:HO} (h:b≠a):upd H a o b=H b:=by unfold upd;rw[if_neg h]
theorem bq {H:Hp}{a b:MN}{o:HO} (h:H a=some o) (h':H b=none):a≠b:=by
 intro e;subst e;rw[h] at h';cases h'
section
variable (P:MP) (w:M7)
noncomputable def dH (H:Hp) (h:Heap) (a:MN):HO->Prop
 | .lst xs=>xs.length<=sizeLine/\∃ (its:List Value) (n:Nat),ao xs its/\h.get? a=some { cls:=.type "list",data:=.seq its.toArray n }
 | .tup xs=>xs.length<=sizeLine/\∃ its:List Value,ao xs its/\IsTup h a its.toArray
 | .dK kvs=>kvs.length<=sizeLine/\(a==QC)=false/\∃ vs,KV kvs vs/\h.DictOf (cE P w) a vs
 | .dT kvs=>kvs.length<=sizeLine/\(a==QC)=false/\∃ xs:List (List Key×MN×Value),
  Paired (fun (p:List Key×V) (q:List Key×MN×Value)=>p.1=q.1/\H q.2.1=some (.tup (p.1.map kV))/\RelV p.2 q.2.2) kvs xs ∧
  ∃ o es ep,h.get? a=some o/\o.ExactDict/\o.data=.dict es ep/\es.toList=xs.map (entryOfKey (tupleKind (cE P w)))/\(xs.map (·.1)).Nodup
 | .set S n=>h.SetOf (intKind P w) a S n
 | .ins C dx fs=>H dx=some (.own a)/\fs.length<=1000/\dx≠a/\h.get? a=some (N4 C dx) ∧
  ∃ mA,h.Ns1 dx mA/\(∀ f,kU (fs.lookup f) (mA f))/\Q6 mA (fs.map (·.1))
 | .own _=>∃ o,h.get? a=some o
 | .xd fs=>∃ mA,h.Ns1 a mA/\∀ f,kU (fs.lookup f) (mA f)
 | .rng lo hi=>∃ t u v,h.get? a=some { cls:=.type "range",data:=.fields #[.int lo t,.int hi u,.int 1 v] }
 | .frz o u=>h.get? a=some o/\dH H h a u
 | .tbl ps=>h.get? a=some { cls:=.none,data:=.fields ps }
 | .met f x=>h.get? a=some (P7 (.ref f) (.ref x))
 | .ext φ=>φ h/\(∃ o,h.get? a=some o)/\∀ h1 h2:Heap,φ h1->(∀ o,h1.get? a=some o->h2.get? a=some o)->φ h2
noncomputable def HOk (H:Hp) (h:Heap):Prop:=∀ a o,H a=some o->dH P w H h a o
end
section
variable {P:MP}{w:M7}{H H':Hp}{h h':Heap}{a:MN}{o:HO}
theorem dH.lt (x:dH P w H h a o):a < h.objs.size:=by
 cases o with
 | lst xs=>obtain ⟨_,_,_,_,e⟩:=x;exact MW e
 | tup xs=>obtain ⟨_,_,_,p⟩:=x;exact p.lt
 | dK kvs=>obtain ⟨_,_,_,_,o,_,_,e,_⟩:=x;exact MW e
 | dT kvs=>obtain ⟨_,_,_,_,o,_,_,e,_⟩:=x;exact MW e
 | set S n=>obtain ⟨o,_,_,_,e,_⟩:=x;exact MW e
 | ins C dx fs=>obtain ⟨_,_,_,e,_⟩:=x;exact MW e
 | own y=>obtain ⟨_,e⟩:=x;exact MW e
 | xd fs=>obtain ⟨_,⟨_,_,_,e,_⟩,_⟩:=x;exact MW e
 | rng lo hi=>obtain ⟨_,_,_,e⟩:=x;exact MW e
 | frz ob u=>obtain ⟨e,_⟩:=x;exact MW e
 | tbl ps=>exact MW (show h.get? a=some _ from x)
 | met f y=>exact MW (show h.get? a=some _ from x)
 | ext φ=>obtain ⟨_,⟨_,e⟩,_⟩:=x;exact MW e
theorem Paired.FZ {α β:Type}{F G:α->β->Prop}:∀ {l₁:List α}{l₂:List β},Paired F l₁ l₂->(∀ a b,F a b->G a b)->Paired G l₁ l₂
 | _,_,.nil,_=>.nil
 | _,_,.cons r t,f=>.cons (f _ _ r) (Paired.FZ t f)
theorem dH.stay (x:dH P w H h a o) (k:∀ b u,(b=a\/H b=some (.own a))->h.get? b=some u->h'.get? b=some u)
 (ho:∀ b,H b=some (.own a)->H' b=some (.own a)) (ht:∀ b xs,H b=some (.tup xs)->H' b=some (.tup xs)):dH P w H' h' a o:=by
 induction o with
 | lst xs=>obtain ⟨z,its,n,r,e⟩:=x;exact ⟨z,its,n,r,k _ _ (.inl rfl) e⟩
 | tup xs=>obtain ⟨z,its,r,ob,e,c⟩:=x;exact ⟨z,its,r,ob,k _ _ (.inl rfl) e,c⟩
 | dK kvs=>obtain ⟨z,y,vs,r,ob,es,ep,e,c⟩:=x;exact ⟨z,y,vs,r,ob,es,ep,k _ _ (.inl rfl) e,c⟩
 | dT kvs =>
  obtain ⟨z,y,xs,r,ob,es,ep,e,c⟩:=x
  exact ⟨z,y,xs,Paired.FZ r fun p q z=>⟨z.1,ht _ _ z.2.1,z.2.2⟩,ob,es,ep,k _ _ (.inl rfl) e,c⟩
 | set S n=>obtain ⟨ob,es,ep,t,e,c⟩:=x;exact ⟨ob,es,ep,t,k _ _ (.inl rfl) e,c⟩
 | ins C dx fs =>
  obtain ⟨d,z,ne,e,mA,⟨od,es,ep,e2,c⟩,r⟩:=x
  exact ⟨ho _ d,z,ne,k _ _ (.inl rfl) e,mA,⟨od,es,ep,k _ _ (.inr d) e2,c⟩,r⟩
 | own y=>obtain ⟨ob,e⟩:=x;exact ⟨ob,k _ _ (.inl rfl) e⟩
 | xd fs=>obtain ⟨mA,⟨od,es,ep,e,c⟩,r⟩:=x;exact ⟨mA,⟨od,es,ep,k _ _ (.inl rfl) e,c⟩,r⟩
 | rng lo hi=>obtain ⟨t,u,v,e⟩:=x;exact ⟨t,u,v,k _ _ (.inl rfl) e⟩
 | frz ob u ih=>obtain ⟨e,q⟩:=x;exact ⟨k _ _ (.inl rfl) e,ih q⟩
 | tbl ps =>
  have e:h.get? a=some { cls:=.none,data:=.fields ps }:=x
  show h'.get? a=some { cls:=.none,data:=.fields ps }
  exact k a _ (.inl rfl) e
 | met f y =>
  have e:h.get? a=some (P7 (.ref f) (.ref y)):=x
  show h'.get? a=some (P7 (.ref f) (.ref y))
  exact k a _ (.inl rfl) e
 | ext φ=>obtain ⟨p,⟨o,e⟩,st⟩:=x;exact ⟨st _ _ p fun o q=>k _ _ (.inl rfl) q,⟨o,k _ _ (.inl rfl) e⟩,st⟩
theorem HOk.lt (x:HOk P w H h) (e:H a=some o):a < h.objs.size:=(x a o e).lt
theorem HOk.fresh (x:HOk P w H h) (e:h.objs.size<=a):H a=none:=by
 cases q:H a with
 | none=>rfl
 | some u=>exact absurd (Nf (x.lt q) e) (N3 _)
theorem HOk.kept (x:HOk P w H h) (k:∀ b u,h.get? b=some u->h'.get? b=some u):HOk P w H h':=fun a o e =>
 (x a o e).stay (fun b u _ q=>k b u q) (fun _ q=>q) fun _ _ q=>q
theorem HOk.laid (x:HOk P w H h) (k:∀ b u,h.get? b=some u->h'.get? b=some u) (hp:h.objs.size<=a) (new:dH P w (upd H a o) h' a o):HOk P w (upd H a o) h':=fun b u e=>by
 have hn:=x.fresh hp
 by_cases hb:b=a
 ·subst hb;rw[bx] at e;cases e;exact new
 ·rw[au hb] at e
  exact (x b u e).stay (fun c v _ q=>k c v q) (fun c q=>by rw[au (bq q hn)];exact q) fun c xs q=>by rw[au (bq q hn)];exact q
end
noncomputable def Rd (H:Hp) (a:MN) (u:HO):Prop:=H a=some u\/∃ o,H a=some (.frz o u)
theorem Rd.ok {P:MP}{w:M7}{H:Hp}{h:Heap}{a:MN}{u:HO} (r:Rd H a u) (x:HOk P w H h):dH P w H h a u:=by
 rcases r with r | ⟨o,r⟩
 ·exact x a u r
 ·obtain ⟨_,q⟩:=x a _ r
  exact q
noncomputable def Mut:Option HO->Prop
 | some (.lst _)=>True
 | some (.dK _)=>True
 | some (.dT _)=>True
 | some (.set _ _)=>True
 | some (.ins _ _ _)=>True
 | some (.ext _)=>True
 | _=>False
section
variable {P:MP}{w:M7}{H:Hp}{h h':Heap}{x e:MN}{o':HO}
theorem HOk.write (ok:HOk P w H h) (mu:Mut (H x)) (he:e=x\/H e=some (.own x)) (k:∀ b u,b≠e->h.get? b=some u->h'.get? b=some u) (heo:∃ u,h'.get? e=some u)
 (new:dH P w (upd H x o') h' x o'):HOk P w (upd H x o') h':=fun b u q=>by
 have nown:∀ c y,H c=some (.own y)->c≠x:=fun c y r z=>by subst z;rw[r] at mu;exact mu
 have ntup:∀ c xs,H c=some (.tup xs)->c≠x:=fun c xs r z=>by subst z;rw[r] at mu;exact mu
 by_cases hb:b=x
 ·subst hb;rw[bx] at q;cases q;exact new
 ·rw[au hb] at q
  by_cases hbe:b=e
  ·have q':H b=some (.own x):=by
    rcases he with z | z
    ·exact absurd (hbe.trans z) hb
    ·rw[hbe];exact z
   rw[q] at q';cases q'
   obtain ⟨v,hv⟩:=heo
   exact ⟨v,by rw[hbe];exact hv⟩
  ·refine (ok b u q).stay (fun c v hc r=>k c v ?_ r) (fun c r=>by rw[au (nown c b r)];exact r) fun c xs r=>by rw[au (ntup c xs r)];exact r
   rcases hc with rfl | hc
   ·exact hbe
   ·rintro rfl
    rcases he with z | z
    ·exact nown c b hc z
    ·rw[hc] at z;cases z;exact hb rfl
end
structure Un (fs ex:List MN) (H H':Hp) (h h':Heap):Prop where
 keep:∀ b o,h.get? b=some o->H b=none->b∉fs->b∉ex->h'.get? b=some o
 slot:∀ b o,h.get? b=some o->H b=none->b∈fs->b∉ex->∃ sl,h'.get? b=some { o with slots:=sl }
 free:∀ b o,h.get? b=some o->H b=none->b∉ex->H' b=none
 there:∀ b o,h.get? b=some o->b∉ex->∃ o',h'.get? b=some o'
 tups:∀ b xs,H b=some (.tup xs)->H' b=some (.tup xs)
 frzs:∀ b o u,H b=some (.frz o u)->H' b=some (.frz o u)
 tbls:∀ b ps,H b=some (.tbl ps)->∃ more,H' b=some (.tbl (ps++more))
section
variable {fs fs' ex ex':List MN}{H H1 H2:Hp}{h h1 h2 h':Heap}{a x e:MN}{o:HO}
theorem Un.any (u:Un fs ex H H1 h h1) {b:MN}{ob:Obj} (q:h.get? b=some ob) (n:H b=none) (hx:b∉ex):∃ sl,h1.get? b=some { ob with slots:=sl }:=by
 by_cases hb:b∈fs
 ·exact u.slot b ob q n hb hx
 ·exact ⟨ob.slots,u.keep b ob q n hb hx⟩
theorem Un.kept (k:∀ b u,h.get? b=some u->h'.get? b=some u):Un fs ex H H h h' :=
 ⟨fun b ob q _ _ _=>k b ob q,fun b ob q _ _ _=>⟨ob.slots,k b ob q⟩,fun _ _ _ n _=>n,fun b ob q _=>⟨ob,k b ob q⟩,fun _ _ q=>q,fun _ _ _ q=>q,fun _ ps q=>⟨#[],by rw[q];simp⟩⟩
theorem Un.refl:Un fs ex H H h h:=Un.kept fun _ _ q=>q
theorem Un.laid (k:∀ b u,h.get? b=some u->h'.get? b=some u) (hp:h.objs.size<=a) (hn:H a=none):Un fs ex H (upd H a o) h h' where
 keep:=fun b u q _ _ _=>k b u q
 slot:=fun b u q _ _ _=>⟨u.slots,k b u q⟩
 free:=fun b u q n _=>by rw[au (Np (Nf (MW q) hp))];exact n
 there:=fun b u q _=>⟨u,k b u q⟩
 tups:=fun b xs q=>by rw[au (bq q hn)];exact q
 frzs:=fun b u xs q=>by rw[au (bq q hn)];exact q
 tbls:=fun b ps q=>⟨#[],by rw[au (bq q hn),q];simp⟩
theorem Un.write (mu:Mut (H x)) (he:e=x\/H e=some (.own x)) (k:∀ b u,b≠e->h.get? b=some u->h'.get? b=some u) (heo:∃ u,h'.get? e=some u):Un fs ex H (upd H x o) h h':=by
 have hx:∀ b,H b=none->b≠x:=fun b n z=>by subst z;rw[n] at mu;exact mu
 have hb:∀ b,H b=none->b≠e:=fun b n z=>by
  subst z
  rcases he with r | r
  ·exact hx b n r
  ·rw[n] at r;cases r
 have hm:∀ b u,H b=some u->¬ Mut (some u)->b≠x:=fun b u q nm z=>by subst z;rw[q] at mu;exact nm mu
 refine ⟨fun b u q n _ _=>k b u (hb b n) q,fun b u q n _ _=>⟨u.slots,k b u (hb b n) q⟩,fun b u q n _=>by rw[au (hx b n)];exact n,fun b u q _=>?_,
  fun b xs q=>by rw[au (hm b _ q fun z=>z)];exact q,fun b u xs q=>by rw[au (hm b _ q fun z=>z)];exact q,fun b ps q=>⟨#[],by rw[au (hm b _ q fun z=>z),q];simp⟩⟩
 by_cases hbe:b=e
 ·subst hbe;exact heo
 ·exact ⟨u,k b u hbe q⟩
end
noncomputable def trk (h:Heap) (H:Hp):List MN:=(Nv h.objs.size).filter fun a=>(H a).isSome
noncomputable def oh (h:Heap) (H:Hp):Heap:=Pk h (trk h H)
theorem tY (h:Heap) (H:Hp):(oh h H).objs.size=h.objs.size:=PySem.W.hideAll_size _ _
theorem oi {h:Heap}{H:Hp}{b:MN}{o:Obj} (e:h.get? b=some o) (n:H b=none):(oh h H).get? b=some o :=
 PD _ e fun hm=>by
  have q:(H b).isSome=true:=(List.mem_filter.mp hm).2
  rw[n] at q;simp at q
theorem zB {h:Heap}{H:Hp}{b:MN}{o:Obj} (e:(oh h H).get? b=some o):h.get? b=some o/\H b=none:=by
 have e':h.get? b=some o:=Rh (trk h H) e
 refine ⟨e',?_⟩
 cases q:H b with
 | none=>rfl
 | some x =>
  have hm:b∈trk h H:=List.mem_filter.mpr ⟨List.mem_range.mpr (MW e'),by simp[q]⟩
  have z:(oh h H).get? b=none:=PySem.W.hideAll_none (trk h H) hm
  rw[z] at e;cases e
noncomputable def zC (g h:Heap) (L:MN):List (MN×Obj):=(Nv h.objs.size).filterMap fun a=>if a=L\/(g.get? a).isSome=true then none else (h.get? a).map fun o=>(a,o)
noncomputable def rest (g h:Heap) (L d:MN):List (MN×Obj):=(zC g h L).filter fun p=>decide (p.1≠d)
end L2
namespace L2
open PySem PySem.Spec PyProof.Rows
structure Mod (K:MI) (mg:Str->Option Value) (base:Heap):Prop where
 kin:K.In base
 glob:base.Ns MX mg
 blt:∃ mb,base.Ns OB mb/\∀ x:Str,x≠"__name__"->mb x=Pd x
 nolimit:base.NoLimit
structure Cx where
 prog:MP
 w:M7
 K:MI
 mg:Str->Option Value
 base:Heap
 A:Nn
 N:List Str
 s₀:MK
 H₀:Hp
 env:Env
 outer:List Env
 stack:List Env
 ex:List MN
 fn:Str->Bool
 calm:Bool
 pn:List (MN×Obj)
 xe:Value->MK->Prop
noncomputable def frs (l:List Env):List MN:=l.filterMap (·.frame)
noncomputable abbrev Cx.fs (X:Cx):List MN:=frs X.outer
noncomputable def Vis (sc:M0) (x:Str):Prop:=sc.names.lookup x=some .local\/sc.names.lookup x=some .cell\/sc.names.lookup x=some .free
noncomputable def Loc (sc:M0) (x:Str):Prop:=sc.names.lookup x=some .local\/sc.names.lookup x=some .cell
noncomputable def Look (env:Env) (h:Heap) (m:Str->Option Value) (x:Str) (u:Value):Prop :=
 (env.kindOf x=some .local/\m x=some u)\/((env.kindOf x=some .cell\/env.kindOf x=some .free)/\∃ c,env.cells.lookup x=some c/\h.IsCell c (some u))
structure Cx.Ok (X:Cx):Prop where
 mod:Mod X.K X.mg X.base
 kind:X.env.scope.kind=.function
 glob:X.env.globals=MX
 blt:X.env.builtins=OB
 above:X.s₀.heap.objs.size<=X.env.locals
 inj:∀ x y c,X.env.cells.lookup x=some c->X.env.cells.lookup y=some c->x=y
 has:∀ x,(X.env.kindOf x=some .cell\/X.env.kindOf x=some .free)->∃ c,X.env.cells.lookup x=some c
 cab:∀ x c,X.fn x=true->X.env.cells.lookup x=some c->X.s₀.heap.objs.size<=c
 hd:X.calm=true->X.A.handled=none
 frames:X.A.frames=some X.stack
 stk:X.stack=X.outer\/(X.stack=X.env :: X.outer/\X.env.frame=some X.env.locals)
 exf:∀ b∈X.ex,b≠X.env.locals/\∀ x c,X.env.cells.lookup x=some c->c≠b
 bs:∀ b o,X.base.get? b=some o->X.s₀.heap.get? b=some o/\X.H₀ b=none
 bsz:X.base.objs.size<=X.s₀.heap.objs.size
 noex:∀ b o,X.base.get? b=some o->b∉X.ex
 exfs:∀ b∈X.ex,b∉X.fs
 e9:X.s₀.heap.FunFrames X.base X.outer
 frf:∀ b∈X.fs,X.H₀ b=none
structure Inv (X:Cx) (pins:List (MN×Obj)) (σ:List (Option V)) (H:Hp) (s:MK):Prop where
 ok:X.Ok
 os:s.os=X.s₀.os
 bare:Qo s.gens
 base:Un X.fs X.ex X.H₀ H X.s₀.heap s.heap
 loc:∃ m,s.heap.Ns X.env.locals m/\∀ (i:Nat) (x:Str) (v:V),X.N[i]?=some x->σ[i]?=some (some v)->Vis X.env.scope x->∃ u,RelV v u/\Look X.env s.heap m x u
 cell:∀ x c,X.env.cells.lookup x=some c->∃ v,s.heap.IsCell c v
 free:H X.env.locals=none
 freeC:∀ x c,X.env.cells.lookup x=some c->H c=none
 pin:∀ p∈X.pn++pins,s.heap.get? p.1=some p.2/\H p.1=none/\p.1≠X.env.locals/\p.1∉X.fs/\∀ v,p.2.data≠.cell v
 hok:HOk X.prog X.w H s.heap
 len:σ.length=X.N.length
section
variable {X:Cx}{pins:List (MN×Obj)}{σ:List (Option V)}{H H':Hp}{s:MK}{h':Heap}
theorem Cx.Ok.JT (ok:X.Ok) {b:MN}{o:Obj} (e:X.base.get? b=some o):b∉X.fs:=fun hb=>by
 have:=(ok.e9.mem hb).1
 rw[e] at this;cases this
theorem Inv.bs (I:Inv X pins σ H s):∀ b o,X.base.get? b=some o->s.heap.get? b=some o/\H b=none:=fun b o e =>
 ⟨I.base.keep b o (I.ok.bs b o e).1 (I.ok.bs b o e).2 (I.ok.JT e) (I.ok.noex b o e),I.base.free b o (I.ok.bs b o e).1 (I.ok.bs b o e).2 (I.ok.noex b o e)⟩
theorem Inv.bk (I:Inv X pins σ H s):∀ b o,X.base.get? b=some o->s.heap.get? b=some o:=fun b o e=>(I.bs b o e).1
theorem Inv.mod (I:Inv X pins σ H s):Mod X.K X.mg X.base:=I.ok.mod
theorem Inv.kIn (I:Inv X pins σ H s):X.K.In s.heap:=I.ok.mod.kin.keeps I.bk
theorem Inv.lt (I:Inv X pins σ H s):X.env.locals < s.heap.objs.size:=let ⟨_,hn,_⟩:=I.loc;hn.lt
theorem Inv.sz (I:Inv X pins σ H s):X.s₀.heap.objs.size<=s.heap.objs.size:=Nq I.ok.above (PK I.lt)
theorem Inv.JU (I:Inv X pins σ H s) {a:MN} (h:s.heap.objs.size<=a):a∉X.fs:=fun hb=>by
 obtain ⟨_,o,ho,_⟩:=I.ok.e9.mem hb
 exact absurd (Nf (MW ho) (Nq I.sz h)) (N3 _)
theorem Inv.cne (I:Inv X pins σ H s):∀ x c,X.env.cells.lookup x=some c->c≠X.env.locals:=fun x c e z=>by
 obtain ⟨v,o,ho,hd⟩:=I.cell x c e
 obtain ⟨m,⟨o',es,ep,ho',hd',_⟩,_⟩:=I.loc
 rw[z,ho'] at ho;cases ho;rw[hd'] at hd;cases hd
theorem Inv.e9 (I:Inv X pins σ H s):s.heap.FunFrames X.base X.outer:=by
 have all:∀ (l:List Env),(∀ b∈frs l,b∈X.fs)->X.s₀.heap.FunFrames X.base l->s.heap.FunFrames X.base l:=by
  intro l
  induction l with
  | nil=>intro _ _;trivial
  | cons env r ih =>
   intro hs hl
   obtain ⟨hk,⟨L,o,hf,hn,ho,hd⟩,hr⟩:=hl
   have hL:L∈X.fs:=hs L (by unfold frs;rw[NI,hf];exact Nh)
   obtain ⟨sl,e⟩:=I.base.slot L o ho (I.ok.frf L hL) hL fun z=>I.ok.exfs L z hL
   exact ⟨hk,⟨L,_,hf,hn,e,hd⟩,ih (fun b hb=>hs b (by unfold frs;rw[NI,hf];exact M8 _ hb)) hr⟩
 exact all X.outer (fun _ hb=>hb) I.ok.e9
theorem Inv.stack (I:Inv X pins σ H s):s.heap.FunFrames X.base X.stack:=by
 rcases I.ok.stk with e | ⟨e,hf⟩
 ·rw[e];exact I.e9
 ·rw[e]
  obtain ⟨m,hn,_⟩:=I.loc
  refine .cons (by rw[I.ok.kind];decide) hf hn ?_ I.e9
  exact Heap.get?_none_of_le (Nq I.ok.bsz I.ok.above)
theorem Inv.gP (I:Inv X pins σ H s):∀ b∈frs X.stack,b∈X.env.locals :: X.fs:=fun b hb=>by
 rcases I.ok.stk with e | ⟨e,hf⟩
 ·rw[e] at hb;exact M8 _ hb
 ·rw[e] at hb
  unfold frs at hb
  rw[NI,hf] at hb
  exact hb
theorem Inv.mK (I:Inv X pins σ H s):∀ b∈frs X.stack,H b=none:=fun b hb=>by
 rcases List.mem_cons.mp (I.gP b hb) with e | hb
 ·rw[e];exact I.free
 ·obtain ⟨_,o,ho,_⟩:=I.ok.e9.mem hb
  exact I.base.free b o ho (I.ok.frf b hb) fun z=>I.ok.exfs b z hb
theorem Inv.step {g':Array GenState}{t':Nat}{d':Drawn}{ch:List MN} (I:Inv X pins σ H s)
 (hch:∀ b∈ch,(b∈X.ex\/X.s₀.heap.objs.size<=b)/\b≠X.env.locals/\(∀ x c,X.env.cells.lookup x=some c->c≠b)/\∀ p∈X.pn++pins,p.1≠b)
 (keep:∀ b o,b≠X.env.locals->b∉X.fs->b∉ch->s.heap.get? b=some o->H b=none->h'.get? b=some o)
 (slot:∀ b o,b≠X.env.locals->b∈X.fs->b∉ch->s.heap.get? b=some o->H b=none->∃ sl,h'.get? b=some { o with slots:=sl }) (free:∀ b o,b∉ch->s.heap.get? b=some o->H b=none->H' b=none)
 (there:∀ b o,b∉ch->s.heap.get? b=some o->∃ o',h'.get? b=some o')
 (tups:∀ b xs,H b=some (.tup xs)->H' b=some (.tup xs)) (frzs:∀ b o u,H b=some (.frz o u)->H' b=some (.frz o u)) (tbls:∀ b ps,H b=some (.tbl ps)->∃ more,H' b=some (.tbl (ps++more)))
 (ns:∀ m,s.heap.Ns X.env.locals m->h'.Ns X.env.locals m) (hok:HOk X.prog X.w H' h') (hg:Qo g') :
 Inv X pins σ H' { s with heap:=h',gens:=g',drawn:=d',toks:=t' }:=by
 have neL:∀ b o,X.s₀.heap.get? b=some o->b≠X.env.locals:=fun b o e=>Np (Nf (MW e) I.ok.above)
 have neC:∀ b o,X.s₀.heap.get? b=some o->b∉X.ex->b∉ch:=fun b o e hx hb=>by
  rcases (hch b hb).1 with z | z
  ·exact hx z
  ·exact absurd (Nf (MW e) z) (N3 _)
 have cellK:∀ x c,X.env.cells.lookup x=some c->∀ v,s.heap.IsCell c v->h'.IsCell c v:=fun x c e v ⟨o,ho,hd⟩=>by
  have nch:c∉ch:=fun z=>(hch c z).2.2.1 x c e rfl
  by_cases hc:c∈X.fs
  ·obtain ⟨sl,q⟩:=slot c o (I.cne x c e) hc nch ho (I.freeC x c e)
   exact ⟨_,q,hd⟩
  ·exact ⟨o,keep c o (I.cne x c e) hc nch ho (I.freeC x c e),hd⟩
 refine ⟨I.ok,I.os,hg,⟨fun b o e n hb hx=>?_,fun b o e n hb hx=>?_,fun b o e n hx=>?_,fun b o e hx=>?_,fun b xs e=>tups b xs (I.base.tups b xs e),fun b o xs e=>frzs b o xs (I.base.frzs b o xs e),fun b ps e=>?_⟩,?_,fun x c e=>?_,?_,fun x c e=>?_,fun p hp=>?_,hok,I.len⟩
 ·exact keep b o (neL b o e) hb (neC b o e hx) (I.base.keep b o e n hb hx) (I.base.free b o e n hx)
 ·obtain ⟨sl,e1⟩:=I.base.slot b o e n hb hx
  obtain ⟨sl',e2⟩:=slot b _ (neL b o e) hb (neC b o e hx) e1 (I.base.free b o e n hx)
  exact ⟨sl',e2⟩
 ·obtain ⟨o',e1⟩:=I.base.there b o e hx
  exact free b o' (neC b o e hx) e1 (I.base.free b o e n hx)
 ·obtain ⟨o',e1⟩:=I.base.there b o e hx
  exact there b o' (neC b o e hx) e1
 ·obtain ⟨m1,e1⟩:=I.base.tbls b ps e
  obtain ⟨m2,e2⟩:=tbls b _ e1
  exact ⟨m1++m2,by rw[e2,Array.append_assoc]⟩
 ·obtain ⟨m,hn,hl⟩:=I.loc
  refine ⟨m,ns m hn,fun i x v e1 e2 e3=>?_⟩
  obtain ⟨u,r,l⟩:=hl i x v e1 e2 e3
  refine ⟨u,r,?_⟩
  rcases l with l | ⟨k,c,e,z⟩
  ·exact .inl l
  ·exact .inr ⟨k,c,e,cellK x c e _ z⟩
 ·obtain ⟨v,z⟩:=I.cell x c e
  exact ⟨v,cellK x c e v z⟩
 ·obtain ⟨m,⟨o,_,_,ho,_⟩,_⟩:=I.loc
  exact free _ o (fun z=>(hch _ z).2.1 rfl) ho I.free
 ·obtain ⟨v,o,ho,hd⟩:=I.cell x c e
  exact free c o (fun z=>(hch c z).2.2.1 x c e rfl) ho (I.freeC x c e)
 ·obtain ⟨e,n,ne,nf,d⟩:=I.pin p hp
  have nch:p.1∉ch:=fun z=>(hch p.1 z).2.2.2 p hp rfl
  exact ⟨keep p.1 p.2 ne nf nch e n,free p.1 p.2 nch e n,ne,nf,d⟩
theorem Inv.un {t':Nat} (I:Inv X pins σ H s) (u:Un X.fs [] H H' s.heap h') (hok:HOk X.prog X.w H' h'):Inv X pins σ H' { s with heap:=h',toks:=t' }:=by
 obtain ⟨m,⟨o,es,ep,ho,r⟩,_⟩:=id I.loc
 obtain ⟨sl,hL⟩:=u.any ho I.free (by simp)
 exact I.step (g':=s.gens) (d':=s.drawn) (ch:=[]) (fun _ z=>nomatch z) (fun b o _ hb _ e n=>u.keep b o e n hb (by simp)) (fun b o _ hb _ e n=>u.slot b o e n hb (by simp)) (fun b o _ e n=>u.free b o e n (by simp)) (fun b o _ e=>u.there b o e (by simp)) u.tups u.frzs u.tbls (fun m' hm=>by
  obtain ⟨o',es',ep',ho',r'⟩:=hm
  rw[ho] at ho';cases ho'
  exact ⟨_,es',ep',hL,r'⟩) hok I.bare
theorem Inv.call {g':Array GenState}{t':Nat}{d':Drawn}{ch:List MN} (I:Inv X pins σ H s) (u:Un (frs X.stack) ch H H' s.heap h') (hok:HOk X.prog X.w H' h') (hg:Qo g')
 (hch:∀ b∈ch,(b∈X.ex\/X.s₀.heap.objs.size<=b)/\b≠X.env.locals/\(∀ x c,X.env.cells.lookup x=some c->c≠b)/\∀ p∈X.pn++pins,p.1≠b) :
 Inv X pins σ H' { s with heap:=h',gens:=g',drawn:=d',toks:=t' }:=by
 obtain ⟨m,⟨o,es,ep,ho,r⟩,_⟩:=id I.loc
 obtain ⟨sl,hL⟩:=u.any ho I.free fun z=>(hch _ z).2.1 rfl
 exact I.step (ch:=ch) hch (fun b o hL hb hc e n=>u.keep b o e n (fun z=>(List.mem_cons.mp (I.gP b z)).elim hL hb) hc) (fun b o _ _ hc e n=>u.any e n hc) (fun b o hc e n=>u.free b o e n hc) (fun b o hc e=>u.there b o e hc) u.tups u.frzs u.tbls (fun m' hm=>by
  obtain ⟨o',es',ep',ho',r'⟩:=hm
  rw[ho] at ho';cases ho'
  exact ⟨_,es',ep',hL,r'⟩) hok hg
theorem Inv.turned {t':Nat}{it:MN} (I:Inv X pins σ H s) (k:∀ b o,b≠it->s.heap.get? b=some o->h'.get? b=some o) (hn:H it=none) (hL:it≠X.env.locals)
 (h1:it∈X.ex\/X.s₀.heap.objs.size<=it) (h2:∀ x c,X.env.cells.lookup x=some c->c≠it) (h3:∀ p∈X.pn++pins,p.1≠it):Inv X pins σ H { s with heap:=h',toks:=t' }:=by
 have nit:∀ b u,H b=some u->b≠it:=fun b u e z=>by rw[z,hn] at e;cases e
 refine I.step (g':=s.gens) (d':=s.drawn) (ch:=[it]) (fun b hb=>?_) (fun b o _ _ hc e _=>k b o (fun z=>hc (by simp[z])) e) (fun b o _ _ hc e _=>⟨o.slots,k b o (fun z=>hc (by simp[z])) e⟩) (fun _ _ _ _ n=>n)
  (fun b o hc e=>⟨o,k b o (fun z=>hc (by simp[z])) e⟩) (fun _ _ e=>e) (fun _ _ _ e=>e) (fun b ps e=>⟨#[],by rw[e];simp⟩) (fun m hm=>?_) (fun b u e=>?_) I.bare
 ·have e:b=it:=by simpa using hb
  subst e
  exact ⟨h1,hL,h2,h3⟩
 ·obtain ⟨o,es,ep,ho,r⟩:=hm
  exact ⟨o,es,ep,k _ o (Ne.symm hL) ho,r⟩
 ·refine (I.hok b u e).stay (fun c v hc q=>k c v ?_ q) (fun _ q=>q) fun _ _ q=>q
  rcases hc with z | z
  ·rw[z];exact nit b u e
  ·exact nit c _ z
theorem Inv.tok (I:Inv X pins σ H s) (t:Nat):Inv X pins σ H { s with toks:=t }:=I.un (h':=s.heap) (t':=t) Un.refl I.hok
theorem Inv.kept {t':Nat} (I:Inv X pins σ H s) (k:∀ b u,s.heap.get? b=some u->h'.get? b=some u):Inv X pins σ H { s with heap:=h',toks:=t' }:=I.un (Un.kept k) (I.hok.kept k)
theorem Inv.laid {a:MN}{o:HO}{t':Nat} (I:Inv X pins σ H s) (k:∀ b u,s.heap.get? b=some u->h'.get? b=some u) (hp:s.heap.objs.size<=a) (new:dH X.prog X.w (upd H a o) h' a o) :
 Inv X pins σ (upd H a o) { s with heap:=h',toks:=t' }:=I.un (Un.laid k hp (I.hok.fresh hp)) (I.hok.laid k hp new)
theorem Inv.write {x e:MN}{o:HO}{t':Nat} (I:Inv X pins σ H s) (mu:Mut (H x)) (he:e=x\/H e=some (.own x)) (k:∀ b u,b≠e->s.heap.get? b=some u->h'.get? b=some u) (heo:∃ u,h'.get? e=some u)
 (new:dH X.prog X.w (upd H x o) h' x o):Inv X pins σ (upd H x o) { s with heap:=h',toks:=t' }:=I.un (Un.write mu he k heo) (I.hok.write mu he k heo new)
theorem Inv.jD {pins':List (MN×Obj)} (I:Inv X pins σ H s) (h:∀ p∈pins',s.heap.get? p.1=some p.2/\H p.1=none/\p.1≠X.env.locals/\p.1∉X.fs/\∀ v,p.2.data≠.cell v):Inv X pins' σ H s :=
 ⟨I.ok,I.os,I.bare,I.base,I.loc,I.cell,I.free,I.freeC,fun p hp=>(List.mem_append.mp hp).elim (fun z=>I.pin p (N6 _ z)) (h p),I.hok,I.len⟩
theorem oj {N:List Str} (hN:N.Nodup) {i j:Nat}{x:Str} (a:N[i]?=some x) (b:N[j]?=some x):i=j:=by
 obtain ⟨h1,e1⟩:=List.getElem?_eq_some_iff.mp a
 obtain ⟨h2,e2⟩:=List.getElem?_eq_some_iff.mp b
 exact (List.getElem_inj hN).mp (e1.trans e2.symm)
theorem iY {M:Model}{A:Nn}{E:Value->MK->Prop}{i:Nat}{x:Str}{v:V}{u:Value}{Q:Unit->MK->Prop} (I:Inv X pins σ H s) (hN:X.N.Nodup) (hi:X.N[i]?=some x) (hx:Loc X.env.scope x) (r:RelV v u)
 (h:∀ s',Inv X pins (σ.set i (some v)) H s'->(∃ a,Ow a s.heap s'.heap/\(a=X.env.locals\/X.env.cells.lookup x=some a))->Q () s') (hf:X.fn x=true\/X.env.scope.names.lookup x=some .local:=by first | exact .inl rfl | exact .inr rfl | assumption):wpAny M A (storeName X.env x u) Q E s:=by
 obtain ⟨m,hn,hl⟩:=id I.loc
 have hcls:(X.env.scope.kind==.class||(X.env.scope.kind==.module&&X.env.locals != X.env.globals))=false:=by rw[I.ok.kind];rfl
 have hiσ:i < σ.length:=by rw[I.len];exact (List.getElem?_eq_some_iff.mp hi).1
 have cne:=I.cne
 have tracked:∀ {a:MN}{h':Heap},(∃ o,s.heap.get? a=some o/\H a=none)->Ow a s.heap h'->HOk X.prog X.w H h':=fun {a h'} ha hs b ob e=>by
  obtain ⟨_,_,hfree⟩:=ha
  refine (I.hok b ob e).stay (fun c w' hc q=>(hs.2 c ?_).trans q) (fun _ q=>q) fun _ _ q=>q
  rintro rfl
  rcases hc with rfl | hc
  ·rw[hfree] at e;cases e
  ·rw[hfree] at hc;cases hc
 rcases hx with hk | hk
 ·refine wpAny_storeName_local hk hn (fun h' hn' hs=>?_) hcls
  obtain ⟨oL,_,_,hoL,_⟩:=id hn
  refine h _ ⟨I.ok,I.os,I.bare,⟨fun b o e n hb hx=>?_,fun b o e n hb hx=>?_,I.base.free,fun b o e hx=>?_,I.base.tups,I.base.frzs,I.base.tbls⟩,⟨_,hn',fun j y v' e1 e2 e3=>?_⟩,fun y c e=>?_,I.free,I.freeC,fun p hp=>?_,tracked ⟨oL,hoL,I.free⟩ hs,by simpa using I.len⟩ ⟨_,hs,.inl rfl⟩
  ·exact (hs.2 b (Np (Nf (MW e) I.ok.above))).trans (I.base.keep b o e n hb hx)
  ·obtain ⟨sl,e1⟩:=I.base.slot b o e n hb hx
   exact ⟨sl,(hs.2 b (Np (Nf (MW e) I.ok.above))).trans e1⟩
  ·obtain ⟨o',e1⟩:=I.base.there b o e hx
   exact ⟨o',(hs.2 b (Np (Nf (MW e) I.ok.above))).trans e1⟩
  ·by_cases hj:j=i
   ·subst hj
    rw[hi] at e1;cases e1
    rw[Nz hiσ] at e2
    cases e2
    exact ⟨u,r,.inl ⟨hk,by simp⟩⟩
   ·rw[Nl (Ne.symm hj)] at e2
    obtain ⟨u',r',q⟩:=hl j y v' e1 e2 e3
    refine ⟨u',r',?_⟩
    rcases q with ⟨k,e⟩ | ⟨k,c,e,z⟩
    ·refine .inl ⟨k,?_⟩
     have:y≠x:=fun e=>hj (oj hN e1 (e ▸ hi))
     simp[this,e]
    ·exact .inr ⟨k,c,e,z.sameBut hs (cne y c e)⟩
  ·obtain ⟨w',z⟩:=I.cell y c e
   exact ⟨w',z.sameBut hs (cne y c e)⟩
  ·obtain ⟨e,n,ne,nf,d⟩:=I.pin p hp
   exact ⟨(hs.2 p.1 ne).trans e,n,ne,nf,d⟩
 ·have hfn:X.fn x=true:=by
   rcases hf with z | z
   ·exact z
   ·rw[z] at hk;cases hk
  obtain ⟨c,hc⟩:=I.ok.has x (.inl hk)
  obtain ⟨w',z⟩:=I.cell x c hc
  refine wpAny_storeName_cell I.ok.kind hk hc z (fun h' hc' hs=>?_)
  obtain ⟨oc,hoc,hocd⟩:=id z
  refine h { s with heap:=h' } ⟨I.ok,I.os,I.bare,⟨fun b o e n hb hx=>?_,fun b o e n hb hx=>?_,I.base.free,fun b o e hx=>?_,I.base.tups,I.base.frzs,I.base.tbls⟩,⟨m,hn.sameBut hs (Ne.symm (cne x c hc)),fun j y v' e1 e2 e3=>?_⟩,fun y c' e=>?_,I.free,I.freeC,fun p hp=>?_,tracked ⟨oc,hoc,I.freeC x c hc⟩ hs,by simpa using I.len⟩ ⟨c,hs,.inr hc⟩
  ·exact (hs.2 b (Np (Nf (MW e) (I.ok.cab x c hfn hc)))).trans (I.base.keep b o e n hb hx)
  ·obtain ⟨sl,e1⟩:=I.base.slot b o e n hb hx
   exact ⟨sl,(hs.2 b (Np (Nf (MW e) (I.ok.cab x c hfn hc)))).trans e1⟩
  ·obtain ⟨o',e1⟩:=I.base.there b o e hx
   exact ⟨o',(hs.2 b (Np (Nf (MW e) (I.ok.cab x c hfn hc)))).trans e1⟩
  ·by_cases hj:j=i
   ·subst hj
    rw[hi] at e1;cases e1
    rw[Nz hiσ] at e2
    cases e2
    exact ⟨u,r,.inr ⟨.inl hk,c,hc,hc'⟩⟩
   ·rw[Nl (Ne.symm hj)] at e2
    obtain ⟨u',r',q⟩:=hl j y v' e1 e2 e3
    refine ⟨u',r',?_⟩
    rcases q with q | ⟨k,c',e,z'⟩
    ·exact .inl q
    ·refine .inr ⟨k,c',e,z'.sameBut hs ?_⟩
     rintro rfl
     exact hj (oj hN e1 (I.ok.inj _ _ _ e hc ▸ hi))
  ·by_cases hcc:c'=c
   ·subst hcc;exact ⟨_,hc'⟩
   ·obtain ⟨w2,z2⟩:=I.cell y c' e
    exact ⟨w2,z2.sameBut hs hcc⟩
  ·obtain ⟨e,n,ne,nf,d⟩:=I.pin p hp
   refine ⟨(hs.2 p.1 ?_).trans e,n,ne,nf,d⟩
   intro q
   rw[q,hoc] at e
   have q':oc=p.2:=MV e
   exact d w' (by rw[← q'];exact hocd)
theorem jP {M:Model}{A:Nn}{E:Value->MK->Prop}{i:Nat}{x:Str}{v:V}{u:Value}{Q:Unit->MK->Prop} (I:Inv X pins σ H s) (hN:X.N.Nodup) (hi:X.N[i]?=some x) (hx:Loc X.env.scope x) (r:RelV v u)
 (h:∀ s',Inv X pins (σ.set i (some v)) H s'->Q () s') (hf:X.fn x=true\/X.env.scope.names.lookup x=some .local:=by first | exact .inl rfl | exact .inr rfl | assumption):wpAny M A (storeName X.env x u) Q E s :=
 iY I hN hi hx r (fun s' I' _=>h s' I') hf
theorem Inv.BW {s':MK}{ch:List MN} (I:Inv X pins σ H s) (ho:s'.os=s.os) (u:Un (frs X.stack) ch H H' s.heap s'.heap) (hok:HOk X.prog X.w H' s'.heap) (hg:Qo s'.gens)
 (hch:∀ b∈ch,(b∈X.ex\/X.s₀.heap.objs.size<=b)/\b≠X.env.locals/\(∀ x c,X.env.cells.lookup x=some c->c≠b)/\∀ p∈X.pn++pins,p.1≠b):Inv X pins σ H' s':=by
 obtain ⟨h',g',d',t',o'⟩:=s'
 have e:o'=s.os:=ho
 subst e
 exact I.call (g':=g') (t':=t') (d':=d') u hok hg hch
end
noncomputable abbrev XK:=Value->Option MN->Hp->Prop
noncomputable abbrev St:=List (Option V)
noncomputable abbrev VK:=V->Hp->Prop
noncomputable abbrev TE:=St->Hp->VK->Prop
noncomputable abbrev TT:=St->Hp->(Bool->Hp->Prop)->Prop
noncomputable abbrev TA:=St->Hp->(List V->Hp->Prop)->Prop
structure Ends where
 nx:St->Hp->Prop
 rt:VK
 bk:St->Hp->Prop:=fun _ _=>False
 ct:St->Hp->Prop:=fun _ _=>False
noncomputable abbrev TS:=Ends->St->Hp->Prop
noncomputable def EP (X:Cx) (pins:List (MN×Obj)) (σ:St) (Q:VK) (u:Value) (s':MK):Prop:=∃ v H',Inv X pins σ H' s'/\RelV v u/\Q v H'
noncomputable def TP (X:Cx) (pins:List (MN×Obj)) (σ:St) (Q:Bool->Hp->Prop) (b:Bool) (s':MK):Prop:=∃ H',Inv X pins σ H' s'/\Q b H'
noncomputable def AP (X:Cx) (pins:List (MN×Obj)) (σ:St) (Q:List V->Hp->Prop) (us:List Value) (s':MK):Prop:=∃ vs H',Inv X pins σ H' s'/\ao vs us/\Q vs H'
noncomputable def SP (X:Cx) (pins:List (MN×Obj)) (D:Ends) (f:Flow) (s':MK):Prop :=
 match f with
 | .next=>∃ σ' H',Inv X pins σ' H' s'/\D.nx σ' H'
 | .brk=>∃ σ' H',Inv X pins σ' H' s'/\D.bk σ' H'
 | .cont=>∃ σ' H',Inv X pins σ' H' s'/\D.ct σ' H'
 | .ret u=>∃ v σ' H',Inv X pins σ' H' s'/\RelV v u/\D.rt v H'
noncomputable def PE (X:Cx) (e:OS) (t:TE):Prop :=
 ∀ (pins:List (MN×Obj)) (s:MK) (σ:St) (H:Hp) (Q:VK),Inv X pins σ H s->t σ H Q->wpAny (M3 X.prog X.w) X.A (eval e X.env) (EP X pins σ Q) X.xe s
noncomputable def PT (X:Cx) (e:OS) (t:TT):Prop :=
 ∀ (pins:List (MN×Obj)) (s:MK) (σ:St) (H:Hp) (Q:Bool->Hp->Prop),Inv X pins σ H s->t σ H Q->wpAny (M3 X.prog X.w) X.A (isTrue e X.env (eval e X.env)) (TP X pins σ Q) X.xe s
noncomputable def PW (X:Cx) (e:OS) (t:TT):Prop :=
 ∀ (whole:Sem Value) (pins:List (MN×Obj)) (s:MK) (σ:St) (H:Hp) (Q:Bool->Hp->Prop),Inv X pins σ H s->t σ H Q->wpAny (M3 X.prog X.w) X.A (isTrue e X.env whole) (TP X pins σ Q) X.xe s
theorem PW.pt {X:Cx}{e:OS}{t:TT} (h:PW X e t):PT X e t:=h _
noncomputable def PA (X:Cx) (es:List OS) (t:TA):Prop :=
 ∀ (pos:Pos) (pins:List (MN×Obj)) (s:MK) (σ:St) (H:Hp) (Q:List V->Hp->Prop),Inv X pins σ H s->t σ H Q->wpAny (M3 X.prog X.w) X.A (spliced (OC pos (Nd es X.env))) (AP X pins σ Q) X.xe s
noncomputable def PS (X:Cx) (st:Qp) (t:TS):Prop :=
 ∀ (pins:List (MN×Obj)) (s:MK) (σ:St) (H:Hp) (D:Ends),Inv X pins σ H s->t D σ H->wpAny (M3 X.prog X.w) X.A (exec st X.env) (SP X pins D) X.xe s
noncomputable def PSs (X:Cx) (st:List Qp) (t:TS):Prop :=
 ∀ (pins:List (MN×Obj)) (s:MK) (σ:St) (H:Hp) (D:Ends),Inv X pins σ H s->t D σ H->wpAny (M3 X.prog X.w) X.A (execs st X.env) (SP X pins D) X.xe s
theorem thn {α:Type}{t:Sem α}{Q Q':α->MK->Prop}{M:Model}{A:Nn}{E:Value->MK->Prop}{s:MK} (h:wpAny M A t Q E s) (hQ:∀ a s,Q a s->Q' a s):wpAny M A t Q' E s:=wpAny_mono h hQ fun _ _ x=>x
end L2
namespace L2
open PySem PySem.Spec PyProof.Rows
section
variable {X:Cx}
theorem bin {a b:OS}{ta tb:TE} (ha:PE X a ta) (hb:PE X b tb) {pins:List (MN×Obj)}{s:MK}{σ:St}{H:Hp}{R:V->V->Hp->Prop} (I:Inv X pins σ H s) (h:ta σ H fun x H1=>tb σ H1 fun y H2=>R x y H2)
 {α:Type}{Q:α->MK->Prop}{f:Value->Value->Sem α}
 (hf:∀ v u s2 x y H2,Inv X pins σ H2 s2->RelV x v->RelV y u->R x y H2->wpAny (M3 X.prog X.w) X.A (f v u) Q X.xe s2) :
 wpAny (M3 X.prog X.w) X.A (eval a X.env) (fun v s₁=>wpAny (M3 X.prog X.w) X.A (eval b X.env) (fun u s₂=>wpAny (M3 X.prog X.w) X.A (f v u) Q X.xe s₂) X.xe s₁) X.xe s:=by
 refine thn (ha pins s σ H _ I h) fun v s1 zq=>?_
 obtain ⟨x,H1,I1,r1,q1⟩:=zq
 refine thn (hb pins s1 σ H1 _ I1 q1) fun u s2 zq=>?_
 obtain ⟨y,H2,I2,r2,q2⟩:=zq
 exact hf v u s2 x y H2 I2 r1 r2 q2
noncomputable def JV (i:Nat):TE:=fun σ H Q=>∃ v,σ[i]?=some (some v)/\Q v H
noncomputable def tC (v:V):TE:=fun _ H Q=>Q v H
theorem vg {i:Nat}{x:Str}{pos:Pos} (hN:X.N[i]?=some x) (hv:Vis X.env.scope x) (hd:(x==("__debug__":Str))=false:=by decide) (hcd:(x==("__classdict__":Str))=false:=by decide):PE X (.Name x pos) (JV i):=by
 intro pins s σ H Q I h
 obtain ⟨v,e,h⟩:=h
 obtain ⟨m,hn,hl⟩:=I.loc
 obtain ⟨u,r,l⟩:=hl i x v hN e hv
 have fin:EP X pins σ Q u s:=⟨v,H,I,r,h⟩
 rcases l with ⟨hk,hm⟩ | ⟨hk,c,hc,hcell⟩
 ·exact wpAny_Name (wpAny_loadName_local I.ok.kind hk hn hm fin) hd
 ·rcases hk with hk | hk
  ·exact wpAny_Name (wpAny_loadName_cell I.ok.kind hk hc hcell fin) hd
  ·exact wpAny_Name (wpAny_loadName_free I.ok.kind hk hc hcell fin hcd) hd
theorem p8 {i j pos}:PE X (.Constant (.int i) j pos) (tC (.int i)):=fun _ _ _ H _ I h=>wpAny_Constant_int ⟨.int i,H,I.tok _,⟨_,rfl⟩,h⟩
theorem F0 {b j pos}:PE X (.Constant (.bool b) j pos) (tC (.bl b)):=fun _ _ _ H _ I h=>Constant_bool ⟨.bl b,H,I,rfl,h⟩
theorem CQ {j pos}:PE X (.Constant .none j pos) (tC .non):=fun _ _ _ H _ I h=>Constant_none ⟨.non,H,I,rfl,h⟩
theorem CU {x j pos}:PE X (.Constant (.str x) j pos) (tC (.str x)):=fun _ _ _ H _ I h=>RM ⟨.str x,H,I.tok _,⟨_,rfl⟩,h⟩
noncomputable def Gl (X:Cx) (x:Str):Prop:=X.env.kindOf x=some .globalImplicit
theorem fG {E:Value->MK->Prop}{pins:List (MN×Obj)}{s:MK}{σ:St}{H:Hp}{x:Str}{u:Value}{pos:Pos}{Q:Value->MK->Prop} (I:Inv X pins σ H s) (hg:Gl X x) (hm:X.mg x=some u) (h:Q u s)
 (hd:(x==("__debug__":Str))=false:=by decide):wpAny (M3 X.prog X.w) X.A (eval (.Name x pos) X.env) Q E s :=
 O3 I.ok.kind hg (QX (by rw[I.ok.glob];exact I.mod.glob.keeps I.bk) hm h) hd
theorem jQ {E:Value->MK->Prop}{pins:List (MN×Obj)}{s:MK}{σ:St}{H:Hp}{x:Str}{u:Value}{pos:Pos}{Q:Value->MK->Prop} (I:Inv X pins σ H s) (hg:Gl X x) (hm:X.mg x=none) (hv:Pd x=some u) (h:Q u s)
 (hn:x≠"__name__":=by decide) (hd:(x==("__debug__":Str))=false:=by decide):wpAny (M3 X.prog X.w) X.A (eval (.Name x pos) X.env) Q E s:=by
 obtain ⟨mb,h1,h2⟩:=I.mod.blt
 exact O3 I.ok.kind hg (Calls.loadGlobal_builtin (by rw[I.ok.glob];exact I.mod.glob.keeps I.bk) hm (by rw[I.ok.blt];exact h1.keeps I.bk) ((h2 x hn).trans hv) h) hd
theorem mL {x:Str}{v:V}{u:Value}{pos:Pos} (hg:Gl X x) (hm:X.mg x=some u) (r:RelV v u) (hd:(x==("__debug__":Str))=false:=by decide):PE X (.Name x pos) (tC v) :=
 fun _ _ _ H _ I h=>fG I hg hm ⟨v,H,I,r,h⟩ hd
theorem gu {x:Str}{v:V}{u:Value}{pos:Pos} (hg:Gl X x) (hm:X.mg x=none) (hv:Pd x=some u) (r:RelV v u) (hn:x≠"__name__":=by decide) (hd:(x==("__debug__":Str))=false:=by decide):PE X (.Name x pos) (tC v) :=
 fun _ _ _ H _ I h=>jQ I hg hm hv ⟨v,H,I,r,h⟩ hn hd
variable {a b:OS}{ta tb:TE}{pos:Pos}
noncomputable def PC (X:Cx) (op:CmpOp) (a b:OS) (t:TE):Prop :=
 ∀ (pins:List (MN×Obj)) (s:MK) (σ:St) (H:Hp) (Q:VK),Inv X pins σ H s->t σ H Q →
  wpAny (M3 X.prog X.w) X.A (eval a X.env) (fun v s₁=>wpAny (M3 X.prog X.w) X.A (eval b X.env) (fun u s₂=>wpAny (M3 X.prog X.w) X.A (Nt op v u) (EP X pins σ Q) X.xe s₂) X.xe s₁) X.xe s
noncomputable def tB (t:TE):TT:=fun σ H Q=>t σ H fun x H1=>∃ c,x=.bl c/\Q c H1
theorem JW {op:CmpOp}{t:TE} (h:PC X op a b t) (h1:Qv op b=false:=by first | exact nobehind _ (by decide) (by decide) | rfl):PT X (.Compare a [op] [b] pos) (tB t):=by
 intro pins s σ H Q I hw
 refine wpAny_isTrue_Compare1 (thn (h pins s σ H _ I hw) fun v s1 h1=>thn h1 fun u s2 h2=>thn h2 fun c s3 ⟨x,H1,I1,r1,q1⟩=>?_) h1
 obtain ⟨d,rfl,q⟩:=q1
 cases r1
 exact NP ⟨H1,I1,q⟩
theorem CV {e:OS}{t:TE} (h:PE X e t) (he:∀ whole,isTrue e X.env whole=(do let v ← whole;standAt e.pos;holding [v] (truthy v)):=by intro _;rfl):PT X e (tB t):=by
 intro pins s σ H Q I hw
 refine isTrue_plain (thn (h pins s σ H _ I hw) fun v s1 ⟨x,H1,I1,r1,q1⟩=>?_) (he _)
 obtain ⟨d,rfl,q⟩:=q1
 cases r1
 exact NP ⟨H1,I1,q⟩
variable {tA tB':TT}{rest:List OS}
noncomputable def F2 (t u:TT):TT:=fun σ H Q=>t σ H fun c H1=>if c=true then u σ H1 Q else Q false H1
noncomputable def tOr (t u:TT):TT:=fun σ H Q=>t σ H fun c H1=>if c=true then Q true H1 else u σ H1 Q
noncomputable def F3 (t:TT):TT:=fun σ H Q=>t σ H fun c H1=>Q (!c) H1
theorem zD (ha:PT X a tA):PW X (.BoolOp .And [a] pos) tA:=by
 intro wh pins s σ H Q I h
 refine isTrue_and (thn (ha pins s σ H Q I h) fun c s1 e=>?_)
 cases c with
 | true=>exact isTrue_and_nil e
 | false=>exact e
theorem CW (ha:PT X a tA):PW X (.BoolOp .Or [a] pos) tA:=by
 intro wh pins s σ H Q I h
 refine isTrue_or (thn (ha pins s σ H Q I h) fun c s1 e=>?_)
 cases c with
 | false=>exact isTrue_or_nil e
 | true=>exact e
theorem vh (ha:PT X a tA) (hb:PW X (.BoolOp .And (b :: rest) pos) tB'):PW X (.BoolOp .And (a :: b :: rest) pos) (F2 tA tB'):=by
 intro wh pins s σ H Q I h
 refine isTrue_and (thn (ha pins s σ H _ I h) fun c s1 zq=>?_)
 obtain ⟨H1,I1,q1⟩:=zq
 cases c with
 | true=>exact hb wh pins s1 σ H1 Q I1 q1
 | false=>exact ⟨H1,I1,q1⟩
theorem BY (ha:PT X a tA) (hb:PW X (.BoolOp .Or (b :: rest) pos) tB'):PW X (.BoolOp .Or (a :: b :: rest) pos) (tOr tA tB'):=by
 intro wh pins s σ H Q I h
 refine isTrue_or (thn (ha pins s σ H _ I h) fun c s1 zq=>?_)
 obtain ⟨H1,I1,q1⟩:=zq
 cases c with
 | true=>exact ⟨H1,I1,q1⟩
 | false=>exact hb wh pins s1 σ H1 Q I1 q1
theorem CY (ha:PT X a tA):PT X (.UnaryOp .Not a pos) (F3 tA):=by
 intro pins s σ H Q I h
 exact isTrue_not (ha pins s σ H (fun c H1=>Q (!c) H1) I h)
noncomputable def BZ (ta tb:TE):TE:=fun σ H Q=>ta σ H fun x H1=>∃ c,x=.bl c/\if c=true then tb σ H1 Q else Q (.bl false) H1
noncomputable def F4 (ta tb:TE):TE:=fun σ H Q=>ta σ H fun x H1=>∃ c,x=.bl c/\if c=true then Q (.bl true) H1 else tb σ H1 Q
noncomputable def B0 (ta:TE):TE:=fun σ H Q=>ta σ H fun x H1=>∃ c,x=.bl c/\Q (.bl (!c)) H1
theorem vj {op}{t:TE} (h:PE X a t):PE X (.BoolOp op [a] pos) t:=fun pins s σ H Q I hw=>BoolOp_one (h pins s σ H Q I hw)
theorem vm (ha:PE X a ta) (hb:PE X (.BoolOp .And (b :: rest) pos) tb):PE X (.BoolOp .And (a :: b :: rest) pos) (BZ ta tb):=by
 intro pins s σ H Q I h
 refine BoolOp_and (thn (ha pins s σ H _ I h) fun v s1 zq=>?_)
 obtain ⟨x,H1,I1,r1,q1⟩:=zq
 obtain ⟨c,rfl,q1⟩:=q1
 cases r1
 refine NP ?_
 cases c with
 | true=>exact hb pins s1 σ H1 Q I1 q1
 | false=>exact ⟨.bl false,H1,I1,rfl,q1⟩
theorem B3 (ha:PE X a ta) (hb:PE X (.BoolOp .Or (b :: rest) pos) tb):PE X (.BoolOp .Or (a :: b :: rest) pos) (F4 ta tb):=by
 intro pins s σ H Q I h
 refine BoolOp_or (thn (ha pins s σ H _ I h) fun v s1 zq=>?_)
 obtain ⟨x,H1,I1,r1,q1⟩:=zq
 obtain ⟨c,rfl,q1⟩:=q1
 cases r1
 refine NP ?_
 cases c with
 | false=>exact hb pins s1 σ H1 Q I1 q1
 | true=>exact ⟨.bl true,H1,I1,rfl,q1⟩
theorem CZ (ha:PE X a ta):PE X (.UnaryOp .Not a pos) (B0 ta):=by
 intro pins s σ H Q I h
 refine UnaryOp_ (thn (ha pins s σ H _ I h) fun v s1 zq=>?_)
 obtain ⟨x,H1,I1,r1,q1⟩:=zq
 obtain ⟨c,rfl,q1⟩:=q1
 cases r1
 exact not_of (NP ⟨.bl (!c),H1,I1,rfl,q1⟩)
noncomputable def tIf (t:TT) (ta tb:TE):TE:=fun σ H Q=>t σ H fun c H1=>if c=true then ta σ H1 Q else tb σ H1 Q
theorem vn {c:OS} (hc:PT X c tA) (ha:PE X a ta) (hb:PE X b tb):PE X (.IfExp c a b pos) (tIf tA ta tb):=by
 intro pins s σ H Q I h
 refine wpAny_IfExp (thn (hc pins s σ H _ I h) fun d s1 zq=>?_)
 obtain ⟨H1,I1,q1⟩:=zq
 cases d with
 | true=>exact ha pins s1 σ H1 Q I1 q1
 | false=>exact hb pins s1 σ H1 Q I1 q1
end
end L2
namespace L2
open PySem PySem.Spec PyProof.Rows
noncomputable def SqL (K:MI) (H:Hp) (a:MN) (xs:List V):Prop :=
 Rd H a (.lst xs) ∨
  ∃ (o:Obj) (its:Array Value) (n:Nat),K.lookup a=some o/\o.cls=.type "list"/\o.dict=none/\o.data=.seq its n/\its.size<=sizeLine/\ao xs its.toList
noncomputable def SqT (K:MI) (H:Hp) (a:MN) (xs:List V):Prop :=
 Rd H a (.tup xs) ∨
  ∃ (o:Obj) (its:Array Value) (n:Nat),K.lookup a=some o/\o.cls=.type "tuple"/\o.data=.seq its n/\its.size<=sizeLine/\ao xs its.toList
noncomputable def JX:Value->Option V
 | .none=>some .non
 | .bool b=>some (.bl b)
 | .int i _=>some (.int i)
 | .str x _=>some (.str x)
 | .bytes b _=>some (.byt b)
 | .float b _=>some (.flt b)
 | .ref a=>some (.ref a)
 | .type n=>some (.ty n)
 | _=>none
theorem RelV.abs {x:V}{u:Value} (r:RelV x u):JX u=some x:=by
 cases x with
 | non=>cases r;rfl
 | bl _=>cases r;rfl
 | int _=>obtain ⟨t,rfl⟩:=r;rfl
 | str _=>obtain ⟨t,rfl⟩:=r;rfl
 | byt _=>obtain ⟨t,rfl⟩:=r;rfl
 | flt _=>obtain ⟨t,rfl⟩:=r;rfl
 | ref _=>cases r;rfl
 | ty _=>cases r;rfl
theorem RelV.inj {x y:V}{u:Value} (r:RelV x u) (q:RelV y u):x=y:=MV (r.abs.symm.trans q.abs)
theorem ao.inj:∀ {xs ys:List V}{us:List Value},ao xs us->ao ys us->xs=ys
 | _,_,_,.nil,.nil=>rfl
 | _,_,_,.cons r t,.cons r' t'=>by rw[r.inj r',ao.inj t t']
section
variable {X:Cx}{pins:List (MN×Obj)}{σ:St}{H:Hp}{s:MK}{a:MN}{xs ys:List V}
theorem Inv.list (I:Inv X pins σ H s) (h:SqL X.K H a xs):∃ its:List Value,ao xs its/\PlainL s.heap a its.toArray/\xs.length<=sizeLine:=by
 rcases h with h | ⟨o,its,n,hk,hc,hd,hs,hz,r⟩
 ·obtain ⟨z,its,n,r,e⟩:=h.ok I.hok
  exact ⟨its,r,⟨_,n,e,rfl,rfl,rfl⟩,z⟩
 ·refine ⟨its.toList,r,⟨o,n,I.kIn a o hk,hc,hd,by simpa using hs⟩,?_⟩
  have e:=r.length
  simp only[PU] at e
  omega
theorem Inv.tuple (I:Inv X pins σ H s) (h:SqT X.K H a xs):∃ its:List Value,ao xs its/\IsTup s.heap a its.toArray/\xs.length<=sizeLine:=by
 rcases h with h | ⟨o,its,n,hk,hc,hs,hz,r⟩
 ·obtain ⟨z,its,r,p⟩:=h.ok I.hok
  exact ⟨its,r,p,z⟩
 ·refine ⟨its.toList,r,⟨o,I.kIn a o hk,hc,n,by simpa using hs⟩,?_⟩
  have e:=r.length
  simp only[PU] at e
  omega
theorem Inv.om (I:Inv X pins σ H s) (h:SqL X.K H a xs) (h':SqL X.K H a ys):xs=ys:=by
 obtain ⟨its,r,⟨o,n,e,_,_,d⟩,_⟩:=I.list h
 obtain ⟨its',r',⟨o',n',e',_,_,d'⟩,_⟩:=I.list h'
 rw[e] at e';cases e'
 rw[d] at d'
 injection d' with d1 _
 have:its=its':=by simpa using congrArg Array.toList d1
 subst this
 exact r.inj r'
theorem Inv.tZ (I:Inv X pins σ H s) (h:SqT X.K H a xs) (h':SqT X.K H a ys):xs=ys:=by
 obtain ⟨its,r,⟨o,e,_,n,d⟩,_⟩:=I.tuple h
 obtain ⟨its',r',⟨o',e',_,n',d'⟩,_⟩:=I.tuple h'
 rw[e] at e';cases e'
 rw[d] at d'
 injection d' with d1 _
 have:its=its':=by simpa using congrArg Array.toList d1
 subst this
 exact r.inj r'
end
noncomputable abbrev Cx.kW (X:Cx) (E:Value->MK->Prop):Cx:={ X with xe:=E }
noncomputable abbrev Cx.nox (X:Cx):Cx:=X.kW fun _ _=>False
theorem Cx.Ok.kW {X:Cx} (ok:X.Ok) (E:Value->MK->Prop):(X.kW E).Ok :=
 ⟨ok.mod,ok.kind,ok.glob,ok.blt,ok.above,ok.inj,ok.has,ok.cab,ok.hd,ok.frames,ok.stk,ok.exf,ok.bs,ok.bsz,ok.noex,ok.exfs,ok.e9,ok.frf⟩
theorem Cx.Ok.fR {X:Cx}{E:Value->MK->Prop} (ok:(X.kW E).Ok):X.Ok :=
 ⟨ok.mod,ok.kind,ok.glob,ok.blt,ok.above,ok.inj,ok.has,ok.cab,ok.hd,ok.frames,ok.stk,ok.exf,ok.bs,ok.bsz,ok.noex,ok.exfs,ok.e9,ok.frf⟩
section
variable {X:Cx}{pins:List (MN×Obj)}{σ:St}{H:Hp}{s:MK}{E:Value->MK->Prop}
theorem Inv.kW (I:Inv X pins σ H s) (E:Value->MK->Prop):Inv (X.kW E) pins σ H s:=⟨I.ok.kW E,I.os,I.bare,I.base,I.loc,I.cell,I.free,I.freeC,I.pin,I.hok,I.len⟩
theorem Inv.fR (I:Inv (X.kW E) pins σ H s):Inv X pins σ H s:=⟨I.ok.fR,I.os,I.bare,I.base,I.loc,I.cell,I.free,I.freeC,I.pin,I.hok,I.len⟩
theorem SP.fR {D:Ends}{f:Flow}{s':MK} (h:SP (X.kW E) pins D f s'):SP X pins D f s':=by
 cases f with
 | next=>obtain ⟨σ',H',I,q⟩:=h;exact ⟨σ',H',I.fR,q⟩
 | brk=>obtain ⟨σ',H',I,q⟩:=h;exact ⟨σ',H',I.fR,q⟩
 | cont=>obtain ⟨σ',H',I,q⟩:=h;exact ⟨σ',H',I.fR,q⟩
 | ret u=>obtain ⟨v,σ',H',I,r,q⟩:=h;exact ⟨v,σ',H',I.fR,r,q⟩
theorem PSs.nox {st:List Qp}{t:TS} (h:PSs X.nox st t):PSs X st t:=fun pins s σ H D I hw =>
 wpAny_mono (h pins s σ H D (I.kW _) hw) (fun _ _ q=>q.fR) fun _ _ z=>Nu z
end
section
variable {X:Cx}{st:Qp}{rest:List Qp}{t u:TS}{e:OS}{te:TE}{pos:Pos}
noncomputable def F5:TS:=fun D σ H=>D.nx σ H
noncomputable def F6 (t u:TS):TS:=fun D σ H=>t { D with nx:=u D } σ H
theorem qY:PSs X [] F5:=fun _ _ σ H _ I h=>O6 ⟨σ,H,I,h⟩
theorem oq (h1:PS X st t) (h2:PSs X rest u):PSs X (st :: rest) (F6 t u):=by
 intro pins s σ H D I h
 refine O0 (thn (h1 pins s σ H { D with nx:=u D } I h) fun f s1 q=>?_)
 cases f with
 | next =>
  obtain ⟨σ',H',I',q⟩:=q
  exact h2 pins s1 σ' H' D I' q
 | ret v=>exact q
 | brk=>exact q
 | cont=>exact q
theorem jE (h1:PS X st t):PSs X [st] t:=by
 intro pins s σ H D I h
 refine O0 (thn (h1 pins s σ H D I h) fun f s1 q=>?_)
 cases f with
 | next=>exact O6 q
 | ret v=>exact q
 | brk=>exact q
 | cont=>exact q
noncomputable def C1:TS:=fun D σ H=>D.bk σ H
noncomputable def F7:TS:=fun D σ H=>D.ct σ H
theorem oz:PS X (.Break pos) C1:=fun _ _ σ H _ I h=>wpAny_Break ⟨σ,H,I,h⟩
theorem jk:PS X (.Continue pos) F7:=fun _ _ σ H _ I h=>wpAny_Continue ⟨σ,H,I,h⟩
theorem Inv.quiet {pins:List (MN×Obj)}{σ:St}{H:Hp}{s:MK} (I:Inv X pins σ H s):interactive X.env=false:=by simp[interactive,I.ok.kind]
noncomputable def F8 (te:TE):TS:=fun D σ H=>te σ H fun _ H1=>D.nx σ H1
theorem qZ (he:PE X e te) (hs:O7 e none pos.line X.env=pure false:=by rfl):PS X (.Expr e pos) (F8 te):=by
 intro pins s σ H D I h
 exact wpAny_Expr_any (thn (he pins s σ H _ I h) fun v s1 ⟨x,H1,I1,r1,q1⟩=>⟨σ,H1,I1,q1⟩) I.quiet hs
noncomputable def JY (te:TE):TS:=fun D σ H=>te σ H D.rt
theorem p9 (he:PE X e te):PS X (.Return (some e) pos) (JY te):=by
 intro pins s σ H D I h
 exact wpAny_Return_some (thn (he pins s σ H _ I h) fun v s1 ⟨x,H1,I1,r1,q1⟩=>⟨x,σ,H1,I1,r1,q1⟩)
noncomputable def JZ (c:TT) (t u:TS):TS:=fun D σ H=>c σ H fun b H1=>if b=true then t D σ H1 else u D σ H1
theorem B4 {c:OS}{a b:List Qp}{tc:TT} (hc:PT X c tc) (ha:PSs X a t) (hb:PSs X b u):PS X (.If c a b pos) (JZ tc t u):=by
 intro pins s σ H D I h
 refine wpAny_If (thn (hc pins s σ H _ I h) fun d s1 zq=>?_)
 obtain ⟨H1,I1,q1⟩:=zq
 cases d with
 | true=>exact ha pins s1 σ H1 D I1 q1
 | false=>exact hb pins s1 σ H1 D I1 q1
end
noncomputable abbrev TG:=V->St->Hp->(St->Hp->Prop)->Prop
noncomputable abbrev TGs:=List V->St->Hp->(St->Hp->Prop)->Prop
noncomputable def PG (X:Cx) (target:OS) (t:TG):Prop :=
 ∀ (pins:List (MN×Obj)) (s:MK) (σ:St) (H:Hp) (v:V) (u:Value) (Q:St->Hp->Prop),Inv X pins σ H s->RelV v u->t v σ H Q →
  wpAny (M3 X.prog X.w) X.A (Q5 target X.env u) (fun _ s'=>∃ σ' H',Inv X pins σ' H' s'/\Q σ' H') X.xe s
noncomputable def PGs (X:Cx) (ts:List OS) (t:TGs):Prop :=
 ∀ (pins:List (MN×Obj)) (s:MK) (σ:St) (H:Hp) (vs:List V) (us:List Value) (Q:St->Hp->Prop),Inv X pins σ H s->ao vs us->t vs σ H Q →
  wpAny (M3 X.prog X.w) X.A (assignInOrder ((Qa ts X.env).map (·.2)) us) (fun _ s'=>∃ σ' H',Inv X pins σ' H' s'/\Q σ' H') X.xe s
noncomputable abbrev C2:=V->V->V->Hp->(Hp->Prop)->Prop
noncomputable def F9 (X:Cx) (t:C2):Prop :=
 ∀ (pins:List (MN×Obj)) (s:MK) (σ:St) (H:Hp) (o i v:V) (ov iv u:Value) (Q:Hp->Prop),Inv X pins σ H s->RelV o ov->RelV i iv->RelV v u->t o i v H Q →
  wpAny (M3 X.prog X.w) X.A (setItem ov iv u) (fun _ s'=>∃ H',Inv X pins σ H' s'/\Q H') X.xe s
noncomputable abbrev TIp:=V->V->Hp->VK->Prop
noncomputable def PIp (X:Cx) (op:OQ) (t:TIp):Prop :=
 ∀ (pins:List (MN×Obj)) (s:MK) (σ:St) (H:Hp) (x y:V) (v u:Value) (Q:VK),Inv X pins σ H s->RelV x v->RelV y u->t x y H Q →
  wpAny (M3 X.prog X.w) X.A (inplaceOp op v u) (EP X pins σ Q) X.xe s
section
variable {X:Cx}{pos:Pos}
noncomputable def lK (i:Nat):TG:=fun v σ H Q=>Q (σ.set i (some v)) H
theorem mO {i:Nat}{x:Str} (hN:X.N.Nodup) (hi:X.N[i]?=some x) (hx:Loc X.env.scope x) (hf:X.fn x=true\/X.env.scope.names.lookup x=some .local:=by first | exact .inl rfl | exact .inr rfl | assumption):PG X (.Name x pos) (lK i):=by
 intro pins s σ H v u Q I r h
 exact wpAny_assign_Name (jP I hN hi hx r (fun s' I'=>⟨_,H,I',h⟩) hf)
noncomputable def C3:TGs:=fun vs σ H Q=>vs=[]/\Q σ H
noncomputable def B5 (t:TG) (u:TGs):TGs:=fun vs σ H Q=>∃ v r,vs=v :: r/\t v σ H fun σ' H'=>u r σ' H' Q
theorem zE:PGs X [] C3:=by
 intro pins s σ H vs us Q I r h
 obtain ⟨e,h⟩:=h
 subst e
 cases r
 exact assignInOrder_nil ⟨σ,H,I,h⟩
theorem oA {e:OS}{es:List OS}{t:TG}{u:TGs} (h1:PG X e t) (h2:PGs X es u)
 (hs:(Qa (e :: es) X.env).map (·.2)=Q5 e X.env :: (Qa es X.env).map (·.2):=by rfl):PGs X (e :: es) (B5 t u):=by
 intro pins s σ H vs us Q I r h
 obtain ⟨v,vr,e1,h⟩:=h
 subst e1
 cases r with
 | cons r rr =>
  rw[hs]
  refine assignInOrder_cons (thn (h1 pins s σ H _ _ _ I r h) fun _ s1 zq=>?_)
  obtain ⟨σ1,H1,I1,q1⟩:=zq
  exact h2 pins s1 σ1 H1 _ _ Q I1 rr q1
noncomputable def J1 (K:MI) (n:Nat) (t:TGs):TG:=fun v σ H Q=>∃ a xs,v=.ref a/\SqT K H a xs/\xs.length=n/\t xs σ H Q
theorem C4 {es:List OS}{k:Nat}{t:TGs}{n:Nat} (hc:X.calm=true) (h:PGs X es t)
 (hn:(Qa es X.env).length=n:=by rfl) (hst:(Qa es X.env).findIdx? (·.1)=none:=by rfl):PG X (.Tuple es k pos) (J1 X.K n t):=by
 intro pins s σ H v u Q I r hw
 obtain ⟨a,xs,e1,hq,hl,hw⟩:=hw
 subst e1
 cases r
 obtain ⟨its,rv,ht,hz⟩:=I.tuple hq
 refine assign_Tuple_tuple (I.ok.hd hc) ht (by simp[hn,← hl,rv.length]) hst fun h' hx=>?_
 have I1:Inv X pins σ H { s with heap:=h' }:=I.kept (t':=s.toks) fun b o e=>hx b o (Np (MW e)) e
 exact h pins _ σ H xs _ Q I1 (by simpa using rv) hw
noncomputable def Ga (to ti:TE) (t:C2):TG:=fun v σ H Q=>to σ H fun o H1=>ti σ H1 fun i H2=>t o i v H2 fun H3=>Q σ H3
theorem vo {o i:OS}{to ti:TE}{t:C2} (ho:PE X o to) (hi:PE X i ti) (hs:F9 X t)
 (ha:∀ v,Q5 (.Subscript o i pos) X.env v=(do
  let ov ← holding [v] (eval o X.env)
  let iv ← holding [v,ov] (eval i X.env)
  standAt pos
  holding [v,ov,iv] (setItem ov iv v)
  release [v,ov,iv] []):=by intro _;rfl):PG X (.Subscript o i pos) (Ga to ti t):=by
 intro pins s σ H v u Q I r h
 rw[ha]
 refine wpAny_bind (Oo (thn (ho pins s σ H _ I h) fun ov s1 zq=>?_))
 obtain ⟨x,H1,I1,r1,q1⟩:=zq
 refine wpAny_bind (Oo (thn (hi pins s1 σ H1 _ I1 q1) fun iv s2 zq=>?_))
 obtain ⟨y,H2,I2,r2,q2⟩:=zq
 refine wpAny_bind (RN (wpAny_bind (Oo (thn (hs pins s2 σ H2 x y v ov iv u _ I2 r1 r2 r q2) fun _ s3 zq=>?_))))
 obtain ⟨H3,I3,q3⟩:=zq
 exact wpAny_release ⟨σ,H3,I3,q3⟩
noncomputable def uc (te:TE) (g:TG):TS:=fun D σ H=>te σ H fun x H1=>g x σ H1 D.nx
theorem vp {tg e:OS}{te:TE}{g:TG} (he:PE X e te) (hg:PG X tg g) (hs:swapsWithSole [tg] e pos.line X.env=pure false:=by rfl) (hw:swappedStores [tg] e X.env=pure none:=by rfl)
 (h1:(Qa [tg] X.env).map (·.2)=[Q5 tg X.env]:=by rfl):PS X (.Assign [tg] e pos) (uc te g):=by
 intro pins s σ H D I h
 refine wpAny_Assign_stores (thn (he pins s σ H _ I h) fun v s1 ⟨x,H1,I1,r1,q1⟩=>?_) hs hw
 rw[h1]
 exact thn (hg pins s1 σ H1 x v _ I1 r1 q1) fun _ s2 q=>q
theorem mP {i:Nat}{x:Str}{e:OS}{te:TE}{pos':Pos} (hN:X.N.Nodup) (hi:X.N[i]?=some x) (hx:Loc X.env.scope x) (he:PE X e te) (hs:O7 e (some (.Name x pos')) pos.line X.env=pure false:=by rfl) (hf:X.fn x=true\/X.env.scope.names.lookup x=some .local:=by first | exact .inl rfl | exact .inr rfl | assumption) :
 PS X (.Assign [.Name x pos'] e pos) (uc te (lK i)):=by
 intro pins s σ H D I h
 refine wpAny_Assign_Name (thn (he pins s σ H _ I h) fun v s1 ⟨y,H1,I1,r1,q1⟩=>?_) hs
 exact jP I1 hN hi hx r1 (fun s2 I2=>⟨_,H1,I2,q1⟩) hf
noncomputable def Gb (i:Nat) (te:TE) (ti:TIp):TS:=fun D σ H=>∃ x,σ[i]?=some (some x)/\te σ H fun y H1=>ti x y H1 fun z H2=>D.nx (σ.set i (some z)) H2
theorem vq {i:Nat}{x:Str}{e:OS}{te:TE}{op:OQ}{ti:TIp}{pos':Pos} (hN:X.N.Nodup) (hi:X.N[i]?=some x) (hx:Loc X.env.scope x) (he:PE X e te) (ho:PIp X op ti) (hf:X.fn x=true\/X.env.scope.names.lookup x=some .local:=by first | exact .inl rfl | exact .inr rfl | assumption) :
 PS X (.AugAssign (.Name x pos') op e pos) (Gb i te ti):=by
 intro pins s σ H D I h
 obtain ⟨v,e1,h⟩:=h
 obtain ⟨m,hn,hl⟩:=I.loc
 have vis:Vis X.env.scope x:=by rcases hx with k | k;exact .inl k;exact .inr (.inl k)
 obtain ⟨u,r,l⟩:=hl i x v hi e1 vis
 refine wpAny_AugAssign_Name ?_
 have go:wpAny (M3 X.prog X.w) X.A (eval e X.env) (fun w s₂=>wpAny (M3 X.prog X.w) X.A (inplaceOp op u w) (fun r s₃=>wpAny (M3 X.prog X.w) X.A (storeName X.env x r) (fun _=>SP X pins D .next) X.xe s₃) X.xe s₂) X.xe s:=by
  refine thn (he pins s σ H _ I h) fun w s1 zq=>?_
  obtain ⟨y,H1,I1,r1,q1⟩:=zq
  refine thn (ho pins s1 σ H1 v y u w _ I1 r r1 q1) fun z s2 zq=>?_
  obtain ⟨zv,H2,I2,r2,q2⟩:=zq
  exact jP I2 hN hi hx r2 (fun s3 I3=>⟨_,H2,I3,q2⟩) hf
 rcases l with ⟨hk,hm⟩ | ⟨hk,c,hc,hcell⟩
 ·exact wpAny_loadName_local I.ok.kind hk hn hm go
 ·rcases hk with hk | hk
  ·exact wpAny_loadName_cell I.ok.kind hk hc hcell go
  ·rcases hx with k | k
   ·have:X.env.scope.names.lookup x=some .free:=hk
    rw[k] at this;cases this
   ·have:X.env.scope.names.lookup x=some .free:=hk
    rw[k] at this;cases this
end
section
variable {X:Cx}{pos:Pos}
noncomputable def vv (c:TT) (tb:TS):TS:=fun D σ H=>∃ W:Nat->St->Hp->Prop,(∃ m,W m σ H)/\∀ m σ H,W m σ H →
 c σ H fun b H1=>if b=true then ∃ N:St->Hp->Prop,(∀ σ' H',N σ' H'->∃ m',m' < m/\W m' σ' H')/\tb { D with nx:=N,ct:=N,bk:=D.nx } σ H1 else D.nx σ H1
theorem oB {c:OS}{body:List Qp}{tc:TT}{tb:TS} (hp:Q8 (M3 X.prog X.w) X.A X.env X.xe) (hc:PT X c tc) (hb:PSs X body tb):PS X (.While c body [] pos) (vv tc tb):=by
 intro pins s σ H D I h
 obtain ⟨W,⟨m0,w0⟩,turn⟩:=h
 refine wpAny_While (codeAny_whileLoop (fun n s'=>∃ σ' H',Inv X pins σ' H' s'/\W n σ' H') ?_ m0 ⟨σ,H,I,w0⟩)
 rintro n s1 ⟨σ1,H1,I1,w1⟩
 refine Om hp (thn (hc pins s1 σ1 H1 _ I1 (turn n σ1 H1 w1)) fun b s2 zq=>?_)
 obtain ⟨H2,I2,q2⟩:=zq
 cases b with
 | true =>
  obtain ⟨N,hN,q2⟩:=q2
  rw[if_pos rfl]
  refine Om hp (thn (hb pins s2 σ1 H2 _ I2 q2) fun f s3 q3=>?_)
  cases f with
  | next =>
   obtain ⟨σ3,H3,I3,n3⟩:=q3
   obtain ⟨m',hm,w3⟩:=hN σ3 H3 n3
   exact ⟨m',hm,σ3,H3,I3,w3⟩
  | cont =>
   obtain ⟨σ3,H3,I3,n3⟩:=q3
   obtain ⟨m',hm,w3⟩:=hN σ3 H3 n3
   exact ⟨m',hm,σ3,H3,I3,w3⟩
  | brk=>exact q3
  | ret v=>exact q3
 | false =>
  rw[if_neg NZ]
  exact O6 ⟨σ1,H2,I2,q2⟩
end
structure It where
 go:Nat->Hp->Prop
 yld:Nat->Hp->V->Hp->Prop
 stop:Nat->Hp->Prop
noncomputable def mQ (X:Cx) (pins:List (MN×Obj)) (H:Hp) (b:MN):Prop :=
 H b=none/\b≠X.env.locals/\b∉X.fs/\(b∈X.ex\/X.s₀.heap.objs.size<=b)/\(∀ x c,X.env.cells.lookup x=some c->c≠b)/\∀ p∈X.pn++pins,p.1≠b
theorem Inv.zF {X:Cx}{pins:List (MN×Obj)}{σ:St}{H H':Hp}{s:MK}{b:MN} (I:Inv X pins σ H s) (hb:s.heap.objs.size<=b) (hn:H' b=none):mQ X pins H' b:=by
 refine ⟨hn,Rt (Nf I.lt hb),I.JU hb,.inr (Nq I.sz hb),fun x c e z=>?_,fun p hp z=>?_⟩
 ·obtain ⟨v,q⟩:=I.cell x c e
  exact absurd (Nf q.lt (by rw[z];exact hb)) (N3 _)
 ·exact absurd (Nf (MW (I.pin p hp).1) (by rw[z];exact hb)) (N3 _)
structure Turn (P:MP) (w:M7) (K:MI) (tg:OS) (J:It) (fp:List MN) (it:MN) (tn:Nat->Heap->Prop):Prop where
 mem:it∈fp
 obj:∀ i h,tn i h->∀ b∈fp,∃ o,h.get? b=some o/\∀ v,o.data≠.cell v
 keep:∀ i h h',tn i h->(∀ b∈fp,∀ o,h.get? b=some o->h'.get? b=some o)->tn i h'
 item:∀ (X:Cx),X.prog=P->X.w=w->X.K=K->X.calm=true->∀ (i:Nat) (pins:List (MN×Obj)) (s:MK) (σ:St) (H:Hp) (E:Value->MK->Prop),Inv X pins σ H s->(∀ b∈fp,mQ X pins H b)->tn i s.heap->J.go i H →
  wpAny (M3 P w) X.A (pyNext (.ref it)) (fun r s1=>∃ u,r=some u ∧
   wpAny (M3 P w) X.A (P0 tg (.ref it) u) (fun _ s2=>∃ x H',Inv X pins σ H' s2/\RelV x u/\J.yld i H x H'/\tn (i+1) s2.heap/\∀ b∈fp,H' b=none) E s1) E s
 done:∀ (X:Cx),X.prog=P->X.w=w->X.K=K->X.calm=true->∀ (i:Nat) (pins:List (MN×Obj)) (s:MK) (σ:St) (H:Hp) (E:Value->MK->Prop),Inv X pins σ H s->(∀ b∈fp,mQ X pins H b)->tn i s.heap->J.stop i H →
  wpAny (M3 P w) X.A (pyNext (.ref it)) (fun r s1=>r=none/\Inv X pins σ H s1) E s
 self:∀ (A:Nn) (i:Nat) (s:MK) (Q:Value->MK->Prop) (E:Value->MK->Prop),tn i s.heap->Q (.ref it) s->wpAny (M3 P w) A (pyIter (.ref it)) Q E s
noncomputable abbrev TI:=St->Hp->(It->Hp->Prop)->Prop
noncomputable def PIE (X:Cx) (pins:List (MN×Obj)) (σ:St) (tg:OS) (R:It->Hp->Prop) (itv:Value) (s2:MK):Prop :=
 ∃ (it:MN) (fp:List MN) (tn:Nat->Heap->Prop) (J:It) (H':Hp),itv=.ref it/\Inv X pins σ H' s2/\Turn X.prog X.w X.K tg J fp it tn/\tn 0 s2.heap/\(∀ b∈fp,mQ X pins H' b)/\R J H'
noncomputable def PI (X:Cx) (tg iter:OS) (wi:TI):Prop :=
 ∀ (pins:List (MN×Obj)) (s:MK) (σ:St) (H:Hp) (R:It->Hp->Prop),Inv X pins σ H s->wi σ H R →
  wpAny (M3 X.prog X.w) X.A (eval iter X.env) (fun v s1=>wpAny (M3 X.prog X.w) X.A (pyIter v) (PIE X pins σ tg R) X.xe s1) X.xe s
theorem rj {M:Model}{A:Nn}{E:Value->MK->Prop}{s:MK}{tg:OS}{it:MN}{u:Value}{o:Obj}{n:String}{vs:Array Value}{Q:Unit->MK->Prop} (ho:s.heap.get? it=some o) (hc:o.cls=.type n) (hd:o.data=.fields vs)
 (hn:["enumerate","zip","dict_itemiterator","dict_reverseitemiterator","odict_iterator","itertools.zip_longest","itertools.pairwise"].contains n=false) (hQ:Q () s):wpAny M A (P0 tg (.ref it) u) Q E s:=by
 unfold P0
 cases tg<;>first
  | exact wpAny_pure hQ
  | (cases u<;>first
   | exact wpAny_pure hQ
   | (refine wpAny_bind (wpAny_load ho ?_)
      rw[hc,hd]
      show wpAny M A (if (["enumerate","zip","dict_itemiterator","dict_reverseitemiterator","odict_iterator","itertools.zip_longest","itertools.pairwise"].contains n&&vs[0]?==some (rawInt _))=true then _ else _) Q E s
      rw[if_neg (by intro h;rw[hn,Bool.false_and] at h;cases h)]
      exact wpAny_pure hQ))
noncomputable def Itl (K:MI) (a:MN):It :=
 ⟨fun i H=>∃ xs x,SqL K H a xs/\xs[i]?=some x,fun i H x H'=>H'=H/\∀ xs,SqL K H a xs->xs[i]?=some x,fun i H=>∃ xs,SqL K H a xs/\xs.length<=i⟩
noncomputable def Itt (K:MI) (a:MN):It :=
 ⟨fun i H=>∃ xs x,SqT K H a xs/\xs[i]?=some x,fun i H x H'=>H'=H/\∀ xs,SqT K H a xs->xs[i]?=some x,fun i H=>∃ xs,SqT K H a xs/\xs.length<=i⟩
noncomputable def Itr (lo:Int) (n:Nat):It:=⟨fun i _=>i < n,fun i H x H'=>H'=H/\x=.int (lo+i),fun i _=>n<=i⟩
theorem ud {P:MP}{w:M7}{K:MI}{tg:OS} (a it:MN):Turn P w K tg (Itl K a) [it] it (fun i h=>h.IsListIter it a i) where
 mem:=by simp
 obj:=fun i h st b hb=>by
  have e:b=it:=by simpa using hb
  subst e
  obtain ⟨o,e,c,d⟩:=st
  exact ⟨o,e,fun v z=>by rw[d] at z;cases z⟩
 keep:=fun i h h' st k=>st.at fun o e=>k it (by simp) o e
 item:=by
  intro X hP hw hK hc i pins s σ H E I hf st hg
  subst hP hw hK
  obtain ⟨xs,x,hq,hx⟩:=hg
  obtain ⟨its,rv,p,hz⟩:=I.list hq
  obtain ⟨u,hu,ru⟩:=rv.get hx
  obtain ⟨f0,f1,f2,f3,f4,f5⟩:=hf it (by simp)
  refine wpAny_pyNext_list_item st p.isList (x:=u) (by simpa using hu) fun h' st' sb=>?_
  have I1:Inv X pins σ H { s with heap:=h' }:=I.turned (t':=s.toks) (fun b o hb e=>(sb.2 b hb).trans e) f0 f1 f3 f4 f5
  obtain ⟨o,e,c,d⟩:=id st'
  exact ⟨u,rfl,rj (s:={ s with heap:=h' }) e c d (by decide) ⟨x,H,I1,ru,⟨rfl,fun ys hy=>by rw[I.om hy hq];exact hx⟩,st',fun b hb=>(hf b hb).1⟩⟩
 done:=by
  intro X hP hw hK hc i pins s σ H E I hf st hg
  subst hP hw hK
  obtain ⟨xs,hq,hx⟩:=hg
  obtain ⟨its,rv,p,hz⟩:=I.list hq
  obtain ⟨f0,f1,f2,f3,f4,f5⟩:=hf it (by simp)
  have hl:=rv.length
  exact wpAny_pyNext_list_end (I.ok.hd hc) st p.isList (by simp;omega) fun h' eb=>⟨rfl,I.turned (t':=s.toks) (fun b o hb e=>eb b o hb e) f0 f1 f3 f4 f5⟩
 self:=fun _ _ _ _ _ st h=>wpAny_pyIter_listiter st h
theorem qa {P:MP}{w:M7}{K:MI}{tg:OS} (a it:MN):Turn P w K tg (Itt K a) [it] it (fun i h=>h.IsTupleIter it a i) where
 mem:=by simp
 obj:=fun i h st b hb=>by
  have e:b=it:=by simpa using hb
  subst e
  obtain ⟨o,e,c,d⟩:=st
  exact ⟨o,e,fun v z=>by rw[d] at z;cases z⟩
 keep:=fun i h h' st k=>st.at fun o e=>k it (by simp) o e
 item:=by
  intro X hP hw hK hc i pins s σ H E I hf st hg
  subst hP hw hK
  obtain ⟨xs,x,hq,hx⟩:=hg
  obtain ⟨its,rv,p,hz⟩:=I.tuple hq
  obtain ⟨u,hu,ru⟩:=rv.get hx
  obtain ⟨f0,f1,f2,f3,f4,f5⟩:=hf it (by simp)
  refine wpAny_pyNext_tuple_item st (show s.heap.IsTuple a its.toArray from p) (x:=u) (by simpa using hu) fun h' st' sb=>?_
  have I1:Inv X pins σ H { s with heap:=h' }:=I.turned (t':=s.toks) (fun b o hb e=>(sb.2 b hb).trans e) f0 f1 f3 f4 f5
  obtain ⟨o,e,c,d⟩:=id st'
  exact ⟨u,rfl,rj (s:={ s with heap:=h' }) e c d (by decide) ⟨x,H,I1,ru,⟨rfl,fun ys hy=>by rw[I.tZ hy hq];exact hx⟩,st',fun b hb=>(hf b hb).1⟩⟩
 done:=by
  intro X hP hw hK hc i pins s σ H E I hf st hg
  subst hP hw hK
  obtain ⟨xs,hq,hx⟩:=hg
  obtain ⟨its,rv,p,hz⟩:=I.tuple hq
  obtain ⟨f0,f1,f2,f3,f4,f5⟩:=hf it (by simp)
  have hl:=rv.length
  exact wpAny_pyNext_tuple_end (I.ok.hd hc) st (show s.heap.IsTuple a its.toArray from p) (by simp;omega) fun h' eb=>⟨rfl,I.turned (t':=s.toks) (fun b o hb e=>eb b o hb e) f0 f1 f3 f4 f5⟩
 self:=fun _ _ _ _ _ st h=>wpAny_pyIter_tupleiter st h
theorem qb {P:MP}{w:M7}{K:MI}{tg:OS} (it:MN) (lo:Int) (n:Nat):Turn P w K tg (Itr lo n) [it] it (fun i h=>IsRangeIter h it (lo+(i:Nat)*1) ((n:Int) - (i:Nat)) 1) where
 mem:=by simp
 obj:=fun i h st b hb=>by
  have e:b=it:=by simpa using hb
  subst e
  exact ⟨_,st,fun v z=>by
   have z':Data.fields _=Data.cell v:=z
   cases z'⟩
 keep:=fun i h h' st k=>k it (by simp) _ st
 item:=by
  intro X hP hw hK hc i pins s σ H E I hf st hg
  subst hP hw hK
  obtain ⟨f0,f1,f2,f3,f4,f5⟩:=hf it (by simp)
  have W:=Walks.range (prog:=X.prog) (w:=X.w) (I.ok.hd hc) it lo 1 n
  refine W.item i s _ _ hg st fun v h' tk hv st' kk=>?_
  obtain ⟨t,rfl⟩:=hv
  have I1:Inv X pins σ H { s with heap:=h',toks:=tk }:=I.turned (fun b o hb e=>kk b o (by simpa using hb) e) f0 f1 f3 f4 f5
  refine ⟨_,rfl,rj (s:={ s with heap:=h',toks:=tk }) (n:="range_iterator") st' rfl rfl (by decide) ⟨.int (lo+i),H,I1,⟨t,?_⟩,⟨rfl,rfl⟩,st',fun b hb=>(hf b hb).1⟩⟩
  rw[Int.mul_one]
 done:=by
  intro X hP hw hK hc i pins s σ H E I hf st hg
  subst hP hw hK
  obtain ⟨f0,f1,f2,f3,f4,f5⟩:=hf it (by simp)
  exact wpAny_pyNext_range_end (I.ok.hd hc) st (by have:n<=i:=hg;omega) fun h' eb=>⟨rfl,I.turned (t':=s.toks) (fun b o hb e=>eb b o hb e) f0 f1 f3 f4 f5⟩
 self:=fun _ _ _ _ _ st h=>wpAny_pyIter_rangeiter st h
end L2
namespace L2
open PySem PySem.Spec PyProof.Rows
section
variable {X:Cx}{tg:OS}
noncomputable def Gc (K:MI) (tl:TE):TI:=fun σ H R=>tl σ H fun x H1=>∃ a,x=.ref a/\(∃ xs,SqL K H1 a xs)/\R (Itl K a) H1
noncomputable def J2 (K:MI) (tl:TE):TI:=fun σ H R=>tl σ H fun x H1=>∃ a,x=.ref a/\(∃ xs,SqT K H1 a xs)/\R (Itt K a) H1
theorem zG {l:OS}{tl:TE} (hl:PE X l tl):PI X tg l (Gc X.K tl):=by
 intro pins s σ H R I h
 refine thn (hl pins s σ H _ I h) fun v s1 zq=>?_
 obtain ⟨x,H1,I1,r1,q1⟩:=zq
 obtain ⟨a,e,⟨xs,hq⟩,q⟩:=q1
 subst e
 cases r1
 obtain ⟨its,rv,p,hz⟩:=I1.list hq
 refine wpAny_pyIter_list p.isList ?_
 refine ⟨s1.heap.objs.size,[s1.heap.objs.size],_,_,H1,rfl,I1.kept (t':=s1.toks) fun b o e=>MQ _ e,ud a _,⟨_,Nk _ rfl,rfl,rfl⟩,fun b hb=>?_,q⟩
 have e:b=s1.heap.objs.size:=by simpa using hb
 subst e
 exact I1.zF (MR _) (I1.hok.fresh (MR _))
theorem C5 {l:OS}{tl:TE} (hl:PE X l tl):PI X tg l (J2 X.K tl):=by
 intro pins s σ H R I h
 refine thn (hl pins s σ H _ I h) fun v s1 zq=>?_
 obtain ⟨x,H1,I1,r1,q1⟩:=zq
 obtain ⟨a,e,⟨xs,hq⟩,q⟩:=q1
 subst e
 cases r1
 obtain ⟨its,rv,p,hz⟩:=I1.tuple hq
 refine wpAny_pyIter_tuple (show s1.heap.IsTuple a its.toArray from p) ?_
 refine ⟨s1.heap.objs.size,[s1.heap.objs.size],_,_,H1,rfl,I1.kept (t':=s1.toks) fun b o e=>MQ _ e,qa a _,⟨_,Nk _ rfl,rfl,rfl⟩,fun b hb=>?_,q⟩
 have e:b=s1.heap.objs.size:=by simpa using hb
 subst e
 exact I1.zF (MR _) (I1.hok.fresh (MR _))
theorem vz {pins:List (MN×Obj)}{σ:St}{H:Hp}{s:MK}{R:It->Hp->Prop}{E:Value->MK->Prop}{lo hi:Int}{t u v:Tok}{tk:Nat} (I:Inv X pins σ H s) (h1:-(2 ^ 62)<=lo) (h2:lo < 2 ^ 62) (h3:-(2 ^ 62)<=hi) (h4:hi < 2 ^ 62)
 (q:R (Itr lo (hi - lo).toNat) H):wpAny (M3 X.prog X.w) X.A (pyIter (.ref s.heap.objs.size)) (PIE X pins σ tg R) E { s with heap:=s.heap.push { cls:=.type "range",data:=.fields #[.int lo t,.int hi u,.int 1 v] },toks:=tk }:=by
 refine wpAny_pyIter_range (IsRange.new ..) (small_one h1 h2 h3 h4) ?_
 have I1:Inv X pins σ H { s with heap:=s.heap.push { cls:=.type "range",data:=.fields #[.int lo t,.int hi u,.int 1 v] },toks:=tk }:=I.kept fun b o e=>MQ _ e
 refine ⟨(s.heap.push { cls:=.type "range",data:=.fields #[.int lo t,.int hi u,.int 1 v] }).objs.size,[(s.heap.push { cls:=.type "range",data:=.fields #[.int lo t,.int hi u,.int 1 v] }).objs.size],_,_,H,rfl,
  I1.kept (t':=tk) fun b o e=>MQ _ e,qb _ lo (hi - lo).toNat,?_,fun b hb=>?_,q⟩
 ·have e1:lo+((0:Nat):Int)*1=lo:=by simp
  have e2:(((hi - lo).toNat:Nat):Int) - ((0:Nat):Int)=Builtin.Range.rangeSize lo hi 1:=by rw[rangeSize_one];split<;>omega
  show IsRangeIter _ _ (lo+((0:Nat):Int)*1) ((((hi - lo).toNat:Nat):Int) - ((0:Nat):Int)) 1
  rw[e1,e2]
  exact Nk _ rfl
 ·have e:b=(s.heap.push { cls:=.type "range",data:=.fields #[.int lo t,.int hi u,.int 1 v] }).objs.size:=by simpa using hb
  subst e
  exact I1.zF (MR _) (I1.hok.fresh (MR _))
noncomputable def Gd (ta:TA):TI:=fun σ H R=>ta σ H fun vs H1=>∃ j:Int,vs=[.int j]/\-(2 ^ 62)<=j/\j < 2 ^ 62/\R (Itr 0 j.toNat) H1
theorem ue {a:OS}{ta:TA}{p pos:Pos} (hg:Gl X "range") (hm:X.mg "range"=none) (ha:PA X [a] ta) (hs:Nd [a] X.env=[(false,eval a X.env)]:=by rfl):PI X tg (.Call (.Name "range" p) [a] [] pos) (Gd ta):=by
 intro pins s σ H R I h
 refine Call_ (jQ I hg hm boot_range (OD (thn (ha pos pins s σ H _ I h) fun us s1 ⟨vs,H1,I1,r1,q1⟩=>?_) hs rfl))
 obtain ⟨j,e,q1,q2,q⟩:=q1
 subst e
 cases r1 with
 | cons r rr =>
  cases rr
  obtain ⟨t,rfl⟩:=r
  exact call_range_1 (vz I1 (by omega) (by omega) q1 q2 (by simpa using q))
noncomputable def Ge (wi:TI) (g:TG) (tb:TS):TS:=fun D σ H=>wi σ H fun J H1=>∃ W:Nat->Nat->St->Hp->Prop,(∃ m,W 0 m σ H1)/\∀ i m σ H,W i m σ H →
 (J.stop i H/\D.nx σ H)\/(J.go i H/\∃ N:St->Hp->Prop,(∀ σ' H',N σ' H'->∃ m',m' < m/\W (i+1) m' σ' H')/\∀ x H',J.yld i H x H'->g x σ H' fun σ2 H2=>tb { D with nx:=N,ct:=N,bk:=D.nx } σ2 H2)
noncomputable def iZ (fp:List MN) (h:Heap):List (MN×Obj):=fp.filterMap fun b=>(h.get? b).map fun o=>(b,o)
theorem fH {fp:List MN}{h:Heap}{b:MN}{o:Obj} (hb:b∈fp) (e:h.get? b=some o):(b,o)∈iZ fp h:=List.mem_filterMap.mpr ⟨b,hb,by rw[e];rfl⟩
theorem uf {fp:List MN}{h:Heap}{p:MN×Obj} (hp:p∈iZ fp h):p.1∈fp/\h.get? p.1=some p.2:=by
 obtain ⟨b,hb,e⟩:=List.mem_filterMap.mp hp
 cases q:h.get? b with
 | none=>rw[q] at e;cases e
 | some o =>
  rw[q] at e
  have e':(b,o)=p:=MV e
  subst e'
  exact ⟨hb,q⟩
theorem Inv.pinned {pins:List (MN×Obj)}{σ:St}{H:Hp}{s:MK}{fp:List MN} (I:Inv X pins σ H s) (hf:∀ b∈fp,mQ X pins H b) (ho:∀ b∈fp,∃ o,s.heap.get? b=some o/\∀ v,o.data≠.cell v):Inv X (pins++iZ fp s.heap) σ H s :=
 I.jD fun p hp=>(List.mem_append.mp hp).elim (fun z=>I.pin p (Ni _ z)) fun z=>by
  obtain ⟨hb,e⟩:=uf z
  obtain ⟨f0,f1,f2,_⟩:=hf p.1 hb
  obtain ⟨o,e',d⟩:=ho p.1 hb
  rw[e] at e';cases e'
  exact ⟨e,f0,f1,f2,d⟩
theorem Inv.iw {pins pl:List (MN×Obj)}{σ:St}{H:Hp}{s:MK} (I:Inv X (pins++pl) σ H s):Inv X pins σ H s:=I.jD fun p hp=>I.pin p (Ni _ (N6 _ hp))
theorem vA {iter:OS}{body:List Qp}{wi:TI}{g:TG}{tb:TS}{pos:Pos} (hp:Q8 (M3 X.prog X.w) X.A X.env X.xe) (hc:X.calm=true) (hi:PI X tg iter wi) (hg:PG X tg g) (hb:PSs X body tb)
 (hs:∀ x,foldedSetIterable iter X.env x=pure x:=by intro _;rfl):PS X (.For tg iter body [] pos) (Ge wi g tb):=by
 intro pins s σ H D I h
 refine wpAny_For (thn (hi pins s σ H _ I h) fun v s1 h1=>thn h1 fun itv s2 h2=>?_) hs
 obtain ⟨it,fp,tn,J,H2,e,I2,T,st2,f2,W,⟨m0,w0⟩,turn⟩:=h2
 subst e
 have stat:∀ {H':Hp},(∀ b∈fp,H' b=none)->∀ b∈fp,mQ X pins H' b:=fun hn b hb=>⟨hn b hb,(f2 b hb).2⟩
 refine codeAny_forLoop_any (fun n s'=>∃ i σ' H',Inv X pins σ' H' s'/\tn i s'.heap/\(∀ b∈fp,H' b=none)/\W i n σ' H') ?_ m0 ⟨0,σ,H2,I2,st2,fun b hb=>(f2 b hb).1,w0⟩
 rintro n s3 ⟨i,σ3,H3,I3,st3,fr3,w3⟩
 rcases turn i n σ3 H3 w3 with ⟨stop,qn⟩ | ⟨go,N,hN,step⟩
 ·refine Om hp (thn (T.done X rfl rfl rfl hc i pins s3 σ3 H3 X.xe I3 (stat fr3) st3 stop) fun r s4 zq=>?_)
  obtain ⟨hr,I4⟩:=zq
  subst hr
  exact O6 ⟨σ3,H3,I4,qn⟩
 ·refine Om hp (thn (T.item X rfl rfl rfl hc i pins s3 σ3 H3 X.xe I3 (stat fr3) st3 go) fun r s4 zq=>?_)
  obtain ⟨u,hr,h4⟩:=zq
  subst hr
  refine Om hp (thn h4 fun _ s5 zq=>?_)
  obtain ⟨x,H5,I5,r5,y5,st5,fr5⟩:=zq
  have I5':=I5.pinned (stat fr5) (T.obj _ _ st5)
  refine Om hp (thn (hg _ s5 σ3 H5 x u _ I5' r5 (step x H5 y5)) fun _ s6 zq=>?_)
  obtain ⟨σ6,H6,I6,q6⟩:=zq
  refine Om hp (thn (hb _ s6 σ6 H6 _ I6 q6) fun f s7 q7=>?_)
  have again:∀ {σ7:St}{H7:Hp},Inv X (pins++iZ fp s5.heap) σ7 H7 s7->N σ7 H7->∃ m,m < n/\∃ i σ' H',Inv X pins σ' H' s7/\tn i s7.heap/\(∀ b∈fp,H' b=none)/\W i m σ' H':=fun {σ7 H7} I7 n7=>by
   obtain ⟨m',hm,w7⟩:=hN σ7 H7 n7
   refine ⟨m',hm,i+1,σ7,H7,I7.iw,T.keep _ _ _ st5 fun b hb o e=>(I7.pin (b,o) (Ni _ (Ni _ (fH hb e)))).1,fun b hb=>?_,w7⟩
   obtain ⟨o,e,d⟩:=T.obj _ _ st5 b hb
   exact (I7.pin (b,o) (Ni _ (Ni _ (fH hb e)))).2.1
  cases f with
  | next=>obtain ⟨σ7,H7,I7,n7⟩:=q7;exact again I7 n7
  | cont=>obtain ⟨σ7,H7,I7,n7⟩:=q7;exact again I7 n7
  | brk=>obtain ⟨σ7,H7,I7,q7⟩:=q7;exact ⟨σ7,H7,I7.iw,q7⟩
  | ret v=>obtain ⟨x7,σ7,H7,I7,r7,q7⟩:=q7;exact ⟨x7,σ7,H7,I7.iw,r7,q7⟩
end
end L2
namespace L2
open PySem PySem.Spec PyProof.Rows
noncomputable abbrev R2:=V->V->Hp->VK->Prop
noncomputable def OpR (X:Cx) (f:Value->Value->Sem Value) (r:R2):Prop :=
 ∀ (pins:List (MN×Obj)) (s:MK) (σ:St) (H:Hp) (x y:V) (v u:Value) (Q:VK),Inv X pins σ H s->RelV x v->RelV y u->r x y H Q →
  wpAny (M3 X.prog X.w) X.A (f v u) (EP X pins σ Q) X.xe s
noncomputable def UnR (X:Cx) (f:Value->Sem Value) (r:V->Hp->VK->Prop):Prop :=
 ∀ (pins:List (MN×Obj)) (s:MK) (σ:St) (H:Hp) (x:V) (v:Value) (Q:VK),Inv X pins σ H s->RelV x v->r x H Q →
  wpAny (M3 X.prog X.w) X.A (f v) (EP X pins σ Q) X.xe s
noncomputable def cA (X:Cx) (f:Value) (r:List V->Hp->VK->Prop):Prop :=
 ∀ (pins:List (MN×Obj)) (s:MK) (σ:St) (H:Hp) (xs:List V) (us:List Value) (Q:VK),Inv X pins σ H s->ao xs us->r xs H Q →
  wpAny (M3 X.prog X.w) X.A (call f us) (EP X pins σ Q) X.xe s
noncomputable def tOp (r:R2) (ta tb:TE):TE:=fun σ H Q=>ta σ H fun x H1=>tb σ H1 fun y H2=>r x y H2 Q
noncomputable def tUn (r:V->Hp->VK->Prop) (ta:TE):TE:=fun σ H Q=>ta σ H fun x H1=>r x H1 Q
noncomputable def rI (C:Int->Int->Prop) (g:Int->Int->V):R2:=fun x y H Q=>∃ i j,x=.int i/\y=.int j/\C i j/\Q (g i j) H
noncomputable def rI0 (g:Int->Int->V):R2:=fun x y H Q=>∃ i j,x=.int i/\y=.int j/\Q (g i j) H
noncomputable def rU (g:Int->V):V->Hp->VK->Prop:=fun x H Q=>∃ i,x=.int i/\Q (g i) H
section
variable {X:Cx}{a b c:OS}{ta tb tc:TE}{pos:Pos}
theorem C6 (ha:PE X a ta) (hb:PE X b tb) {pins:List (MN×Obj)}{s:MK}{σ:St}{H:Hp}{R:V->V->Hp->Prop} (I:Inv X pins σ H s)
 (h:ta σ H fun x H1=>tb σ H1 fun y H2=>R x y H2) {Q:Value->MK->Prop}{f:Value->Value->Sem Value}
 (hf:∀ v u s2 x y H2,Inv X pins σ H2 s2->RelV x v->RelV y u->R x y H2->wpAny (M3 X.prog X.w) X.A (f v u) Q X.xe s2) :
 wpAny (M3 X.prog X.w) X.A (eval a X.env) (fun v s₁=>wpAny (M3 X.prog X.w) X.A (eval b X.env) (fun u s₂=>wpAny (M3 X.prog X.w) X.A (f v u) Q X.xe s₂) X.xe s₁) X.xe s:=by
 refine thn (ha pins s σ H _ I h) fun v s1 zq=>?_
 obtain ⟨x,H1,I1,r1,q1⟩:=zq
 refine thn (hb pins s1 σ H1 _ I1 q1) fun u s2 zq=>?_
 obtain ⟨y,H2,I2,r2,q2⟩:=zq
 exact hf v u s2 x y H2 I2 r1 r2 q2
theorem Gf {op:OQ}{r:R2} (ho:OpR X (NU op) r) (ha:PE X a ta) (hb:PE X b tb):PE X (.BinOp a op b pos) (tOp r ta tb):=by
 intro pins s σ H Q I h
 exact wpAny_BinOp (C6 ha hb I h fun v u s2 x y H2 I2 rx ry q=>ho pins s2 σ H2 x y v u Q I2 rx ry q)
theorem B6 {op:UnaryOp}{r:V->Hp->VK->Prop} (ho:UnR X (unaryOp op) r) (ha:PE X a ta):PE X (.UnaryOp op a pos) (tUn r ta):=by
 intro pins s σ H Q I h
 exact UnaryOp_ (thn (ha pins s σ H _ I h) fun v s1 ⟨x,H1,I1,r1,q1⟩=>ho pins s1 σ H1 x v Q I1 r1 q1)
theorem opI {f:Value->Value->Sem Value}{C:Int->Int->Prop}{g:Int->Int->Int}
 (rule:∀ (i j:Int) (t u:Tok) (s:MK) (Q:Value->MK->Prop) (E:Value->MK->Prop),C i j->Q (.int (g i j) s.toks) { s with toks:=s.toks+1 }->wpAny (M3 X.prog X.w) X.A (f (.int i t) (.int j u)) Q E s) :
 OpR X f (rI C fun i j=>.int (g i j)):=by
 intro pins s σ H x y v u Q I rx ry h
 obtain ⟨i,j,rfl,rfl,hc,q⟩:=h
 obtain ⟨t,rfl⟩:=rx
 obtain ⟨t',rfl⟩:=ry
 exact rule i j t t' s _ _ hc ⟨.int (g i j),H,I.tok _,⟨_,rfl⟩,q⟩
theorem Gg {f:Value->Value->Sem Value}{g:Int->Int->Int}
 (rule:∀ (i j:Int) (t u:Tok) (s:MK) (Q:Value->MK->Prop) (E:Value->MK->Prop),Q (.int (g i j) s.toks) { s with toks:=s.toks+1 }->wpAny (M3 X.prog X.w) X.A (f (.int i t) (.int j u)) Q E s) :
 OpR X f (rI0 fun i j=>.int (g i j)):=by
 intro pins s σ H x y v u Q I rx ry h
 obtain ⟨i,j,rfl,rfl,q⟩:=h
 obtain ⟨t,rfl⟩:=rx
 obtain ⟨t',rfl⟩:=ry
 exact rule i j t t' s _ _ ⟨.int (g i j),H,I.tok _,⟨_,rfl⟩,q⟩
theorem zH {f:Value->Value->Sem Value}{g:Int->Int->Bool}
 (rule:∀ (i j:Int) (t u:Tok) (s:MK) (Q:Value->MK->Prop) (E:Value->MK->Prop),Q (.bool (g i j)) s->wpAny (M3 X.prog X.w) X.A (f (.int i t) (.int j u)) Q E s) :
 OpR X f (rI0 fun i j=>.bl (g i j)):=by
 intro pins s σ H x y v u Q I rx ry h
 obtain ⟨i,j,rfl,rfl,q⟩:=h
 obtain ⟨t,rfl⟩:=rx
 obtain ⟨t',rfl⟩:=ry
 exact rule i j t t' s _ _ ⟨.bl (g i j),H,I,rfl,q⟩
noncomputable def J3 (i j:Int):Prop:=0 < j/\j < 1073741824
noncomputable def J4 (i j:Int):Prop:=0<=j/\j<=1000000/\i.natAbs < 2 ^ 64
noncomputable def zI (i j:Int):Prop:=(-(2 ^ 64) < i/\i < 2 ^ 64)\/(-(2 ^ 64) < j/\j < 2 ^ 64)
theorem zI.ok {i j:Int} (h:zI i j):IntMulOk i j:=by
 rcases h with ⟨h1,h2⟩ | ⟨h1,h2⟩
 ·exact .of_left (intBits_le_64 h1 h2)
 ·exact .of_right (intBits_le_64 h1 h2)
theorem C7:OpR X (NU .Add) (rI0 fun i j=>.int (i+j)):=Gg fun _ _ _ _ _ _ _ q=>add_int q
theorem C8:OpR X (NU .Sub) (rI0 fun i j=>.int (i - j)):=Gg fun _ _ _ _ _ _ _ q=>sub_int q
theorem C9:OpR X (NU .Mult) (rI zI fun i j=>.int (i*j)):=opI fun _ _ _ _ _ _ _ hc q=>mul_int q hc.ok
theorem zJ:OpR X (NU .FloorDiv) (rI J3 fun i j=>.int (i / j)):=opI fun i j _ _ _ _ _ hc q=>by
 have h1:(0:Int) < j:=hc.1
 have h2:j < 1073741824:=hc.2
 exact floordiv_int (by omega) (by rw[Int.fdiv_eq_ediv_of_nonneg i (by omega)];exact q) (.inl (PyProof.noPylong_small (by omega)))
theorem Dc:OpR X (NU .Mod) (rI (fun _ j=>0 < j) fun i j=>.int (i % j)):=opI fun i j _ _ _ _ _ hc q=>by
 have h1:(0:Int) < j:=hc
 exact mod_int' (by omega) (by rw[Int.fmod_eq_emod_of_nonneg i (by omega)];exact q)
theorem De:OpR X (NU .Pow) (rI J4 fun i j=>.int (i ^ j.toNat)):=opI fun _ _ _ _ _ _ _ hc q=>pow_int_small hc.1 hc.2.1 hc.2.2 q
theorem unI {f:Value->Sem Value}{g:Int->Int}
 (rule:∀ (i:Int) (t:Tok) (s:MK) (Q:Value->MK->Prop) (E:Value->MK->Prop),Q (.int (g i) s.toks) { s with toks:=s.toks+1 }->wpAny (M3 X.prog X.w) X.A (f (.int i t)) Q E s) :
 UnR X f (rU fun i=>.int (g i)):=by
 intro pins s σ H x v Q I rx h
 obtain ⟨i,rfl,q⟩:=h
 obtain ⟨t,rfl⟩:=rx
 exact rule i t s _ _ ⟨.int (g i),H,I.tok _,⟨_,rfl⟩,q⟩
theorem vB:UnR X (unaryOp .USub) (rU fun i=>.int (-i)):=unI fun _ _ _ _ _ q=>neg_int q
end
section
variable {X:Cx}{a b c:OS}{ta tb tc:TE}{pos:Pos}
theorem vC {pins:List (MN×Obj)}{σ:St}{H:Hp}{s:MK}{Q:VK}{k k':Bool} (I:Inv X pins σ H s) (q:Q (.bl k) H) (e:k=k'):EP X pins σ Q (.bool k') s:=by
 subst e
 exact ⟨.bl k,H,I,rfl,q⟩
theorem Gi:OpR X (Nt .Lt) (rI0 fun i j=>.bl (decide (i < j))):=zH fun _ _ _ _ _ _ _ q=>lt_int q
theorem Gj:OpR X (Nt .LtE) (rI0 fun i j=>.bl (decide (i<=j))):=zH fun _ _ _ _ _ _ _ q=>le_int q
theorem Gk:OpR X (Nt .Gt) (rI0 fun i j=>.bl (decide (j < i))):=zH fun _ _ _ _ _ _ _ q=>gt_int q
theorem Gm:OpR X (Nt .GtE) (rI0 fun i j=>.bl (decide (j<=i))):=zH fun _ _ _ _ _ _ _ q=>ge_int q
theorem Df:OpR X (Nt .Is) (fun x y H Q=>y=.non/\Q (.bl (decide (x=.non))) H):=by
 intro pins s σ H x y v u Q I rx ry h
 obtain ⟨rfl,q⟩:=h
 cases ry
 refine is_none_gen (vC I q ?_)
 cases x<;>first
  | (cases rx;rfl)
  | (obtain ⟨t,rfl⟩:=rx;rfl)
theorem zK:OpR X (Nt .IsNot) (fun x y H Q=>y=.non/\Q (.bl (!decide (x=.non))) H):=by
 intro pins s σ H x y v u Q I rx ry h
 obtain ⟨rfl,q⟩:=h
 cases ry
 refine isnot_none_gen (vC I q ?_)
 cases x<;>first
  | (cases rx;rfl)
  | (obtain ⟨t,rfl⟩:=rx;rfl)
theorem zL {op:CmpOp}{r:R2} (ho:OpR X (Nt op) r) (ha:PE X a ta) (hb:PE X b tb) (hm:Qv op b=false):PE X (.Compare a [op] [b] pos) (tOp r ta tb):=by
 intro pins s σ H Q I h
 exact wpAny_Compare1 (C6 ha hb I h fun v u s2 x y H2 I2 rx ry q=>ho pins s2 σ H2 x y v u Q I2 rx ry q) hm
noncomputable def vD (t:TE):TT:=fun σ H Q=>t σ H fun x H'=>∃ k,x=.bl k/\Q k H'
theorem zM {op:CmpOp}{r:R2} (ho:OpR X (Nt op) r) (ha:PE X a ta) (hb:PE X b tb) (hm:Qv op b=false):PT X (.Compare a [op] [b] pos) (vD (tOp r ta tb)):=by
 intro pins s σ H Q I h
 refine wpAny_isTrue_Compare1 (thn (ha pins s σ H _ I h) fun v s1 ⟨x,H1,I1,r1,q1⟩=>thn (hb pins s1 σ H1 _ I1 q1) fun u s2 ⟨y,H2,I2,r2,q2⟩ =>
  thn (ho pins s2 σ H2 x y v u _ I2 r1 r2 q2) fun c s3 ⟨z,H3,I3,r3,k,e,q3⟩=>?_) hm
 subst e
 cases r3
 exact NP ⟨H3,I3,q3⟩
noncomputable def qc (r r':R2) (ta tb tc:TE):TE:=fun σ H Q=>ta σ H fun x H1=>tb σ H1 fun y H2=>r x y H2 fun z H3=>∃ k,z=.bl k ∧
 (if k=true then tc σ H3 fun w' H4=>r' y w' H4 Q else Q (.bl false) H3)
theorem vE {op op':CmpOp}{r r':R2} (ho:OpR X (Nt op) r) (ho':OpR X (Nt op') r') (ha:PE X a ta) (hb:PE X b tb) (hc:PE X c tc)
 (hm:lastMarks [op,op'] [b,c]=false:=by with_unfolding_all rfl):PE X (.Compare a [op,op'] [b,c] pos) (qc r r' ta tb tc):=by
 intro pins s σ H Q I h
 refine Compare_chain (thn (ha pins s σ H _ I h) fun v s1 ⟨x,H1,I1,r1,q1⟩=>chain_link (thn (hb pins s1 σ H1 _ I1 q1) fun u s2 ⟨y,H2,I2,r2,q2⟩ =>
  thn (ho pins s2 σ H2 x y v u _ I2 r1 r2 q2) fun d s3 ⟨z,H3,I3,r3,k,e,q3⟩=>?_)) hm
 subst e
 cases r3
 refine NP ?_
 cases k with
 | false=>exact ite_ff ⟨.bl false,H3,I3,rfl,q3⟩
 | true=>exact ite_tt (chain_last (thn (hc pins s3 σ H3 _ I3 q3) fun w' s4 ⟨z',H4,I4,r4,q4⟩=>ho' pins s4 σ H4 y z' u w' Q I4 r2 r4 q4))
theorem vF {op op':CmpOp}{r r':R2} (ho:OpR X (Nt op) r) (ho':OpR X (Nt op') r') (ha:PE X a ta) (hb:PE X b tb) (hc:PE X c tc)
 (hm:lastMarks [op,op'] [b,c]=false:=by with_unfolding_all rfl):PT X (.Compare a [op,op'] [b,c] pos) (vD (qc r r' ta tb tc)):=by
 intro pins s σ H Q I h
 refine isTrue_chain (thn (ha pins s σ H _ I h) fun v s1 ⟨x,H1,I1,r1,q1⟩=>test_link (thn (hb pins s1 σ H1 _ I1 q1) fun u s2 ⟨y,H2,I2,r2,q2⟩ =>
  thn (ho pins s2 σ H2 x y v u _ I2 r1 r2 q2) fun d s3 ⟨z,H3,I3,r3,k,e,q3⟩=>?_)) hm
 subst e
 cases r3
 refine NP ?_
 cases k with
 | false =>
  obtain ⟨k',e',q'⟩:=q3
  cases e'
  exact ite_ff ⟨H3,I3,q'⟩
 | true =>
  refine ite_tt (test_last (thn (hc pins s3 σ H3 _ I3 q3) fun w' s4 ⟨z',H4,I4,r4,q4⟩=>thn (ho' pins s4 σ H4 y z' u w' _ I4 r2 r4 q4) fun d' s5 zq=>?_))
  obtain ⟨z2,H5,I5,r5,k2,e2,q5⟩:=zq
  subst e2
  cases r5
  exact NP ⟨H5,I5,q5⟩
theorem i6:(sizeLine:Nat) < 2 ^ 63:=by rw[sizeLine_eq];decide
theorem qd:OpR X (NU .Add) (fun x y H Q=>∃ i j,x=.str i/\y=.str j/\i.length+j.length<=sizeLine/\Q (.str (i++j)) H):=by
 intro pins s σ H x y v u Q I rx ry h
 obtain ⟨i,j,rfl,rfl,hz,q⟩:=h
 obtain ⟨t,rfl⟩:=rx
 obtain ⟨t',rfl⟩:=ry
 exact add_str (fun t' tk=>⟨.str (i++j),H,I.tok _,⟨_,rfl⟩,q⟩) hz
theorem vals1 {x:V}{us:List Value} (r:ao [x] us):∃ u,us=[u]/\RelV x u:=by
 cases r with
 | cons r1 r2=>cases r2;exact ⟨_,rfl,r1⟩
theorem vals2 {x y:V}{us:List Value} (r:ao [x,y] us):∃ u w',us=[u,w']/\RelV x u/\RelV y w':=by
 cases r with
 | cons r1 r2 =>
  cases r2 with
  | cons r3 r4=>cases r4;exact ⟨_,_,rfl,r1,r3⟩
theorem vG:cA X (.builtin "abs") (fun xs H Q=>∃ i,xs=[.int i]/\Q (.int (if i < 0 then -i else i)) H):=by
 intro pins s σ H xs us Q I r h
 obtain ⟨i,rfl,q⟩:=h
 obtain ⟨u,rfl,t,rfl⟩:=vals1 r
 exact call_abs_int fun u tk=>⟨.int (if i < 0 then -i else i),H,I.tok _,⟨_,rfl⟩,q⟩
theorem ug (hc:X.calm=true):cA X (.builtin "max") (fun xs H Q=>∃ i j,xs=[.int i,.int j]/\Q (.int (if j > i then j else i)) H):=by
 intro pins s σ H xs us Q I r h
 obtain ⟨i,j,rfl,q⟩:=h
 obtain ⟨u,w',rfl,⟨t,rfl⟩,⟨t',rfl⟩⟩:=vals2 r
 refine max_two_ints (I.ok.hd hc) fun h' tk k=>⟨_,H,I.kept k,?_,q⟩
 by_cases hj:j > i
 ·rw[if_pos hj,if_pos hj];exact ⟨_,rfl⟩
 ·rw[if_neg hj,if_neg hj];exact ⟨_,rfl⟩
theorem uh (hc:X.calm=true):cA X (.builtin "min") (fun xs H Q=>∃ i j,xs=[.int i,.int j]/\Q (.int (if j < i then j else i)) H):=by
 intro pins s σ H xs us Q I r h
 obtain ⟨i,j,rfl,q⟩:=h
 obtain ⟨u,w',rfl,⟨t,rfl⟩,⟨t',rfl⟩⟩:=vals2 r
 refine min_two_ints (I.ok.hd hc) fun h' tk k=>⟨_,H,I.kept k,?_,q⟩
 by_cases hj:j < i
 ·rw[if_pos hj,if_pos hj];exact ⟨_,rfl⟩
 ·rw[if_neg hj,if_neg hj];exact ⟨_,rfl⟩
theorem lM:cA X (.type "int") (fun xs H Q=>(∃ i,xs=[.int i]/\Q (.int i) H)\/∃ k,xs=[.bl k]/\Q (.int (if k then 1 else 0)) H):=by
 intro pins s σ H xs us Q I r h
 rcases h with ⟨i,rfl,q⟩ | ⟨k,rfl,q⟩
 ·obtain ⟨u,rfl,t,rfl⟩:=vals1 r
  exact call_int_int ⟨.int i,H,I,⟨_,rfl⟩,q⟩
 ·obtain ⟨u,rfl,r1⟩:=vals1 r
  cases r1
  exact call_int_bool ⟨.int (if k then 1 else 0),H,I.tok _,⟨_,rfl⟩,q⟩
end
end L2
namespace L2
open PySem PySem.Spec PyProof.Rows
structure qe (h:Heap) (x dx C:MN) (mA:Str->Option Value):Prop where
 obj:h.get? x=some (N4 C dx)
 ns:h.Ns1 dx mA
 ne:dx≠x
theorem um {h:Heap}{dx:MN}{mA:Str->Option Value} (n:h.Ns1 dx mA):∃ od,h.get? dx=some od/\∀ name,Pv name od=some (mA name):=by
 obtain ⟨o,es,ep,ho,hd,hk,_,hm⟩:=n
 refine ⟨o,ho,fun name=>?_⟩
 have e:=hm name
 unfold nsFind findBy at e
 rw[← Array.find?_toList] at e
 unfold Pv
 rw[hd]
 dsimp only
 split
 ·rename_i y q
  rw[q] at e
  exact congrArg some e
 ·rename_i q
  rw[q] at e
  have a:es.toList.any (·.refKey)=false:=by
   rw[List.any_eq_false]
   intro y hy
   obtain ⟨z,t,hkey⟩:=hk y (Array.mem_toList_iff.mp hy)
   simp[DictEntry.refKey,hkey]
  have a':¬ es.toList.any (·.refKey)=true:=by rw[a];exact NZ
  rw[if_neg a']
  exact congrArg some e
theorem qe.look {h:Heap}{x dx C:MN}{mA:Str->Option Value} (I:qe h x dx C mA):∃ od,PySem.W.InstAt h x (N4 C dx) C (some od)/\∀ name,Pv name od=some (mA name) :=
 let ⟨od,ho,hl⟩:=um I.ns
 ⟨od,⟨I.obj,rfl,rfl,ho⟩,hl⟩
section
variable {prog:MP}{w:M7}{A:Nn}{E:Value->MK->Prop}{s:MK}{K:MI}{x dx C f:MN}{mA:Str->Option Value}{name:Str}{v:Value}
theorem get_map {expr:Bool}{Q:Value->MK->Prop} (X:K.In s.heap) (I:qe s.heap x dx C mA) (hg:OF K C name=true) (hh:Oi K C=true)
 (ha:Nc K (.ref C) name=some none) (hv:mA name=some v) (hv':RG v=true) (h:Q v { s with toks:=s.toks+1 }) :
 wpAny (M3 prog w) A (getAttr (.ref x) name expr) Q E s:=by
 obtain ⟨od,J,hl⟩:=I.look
 exact PySem.W.get_value X J (PB hg).1 (PySem.W.findObj_own hh ha rfl (by rw[hl,hv])) hv' h
theorem vH {pl:Sem Bool}{Q:Value×List Value->MK->Prop} (X:K.In s.heap) (I:qe s.heap x dx C mA) (hg:OF K C name=true)
 (hf:Nc K (.ref C) name=some (some (.ref f))) (ht:Qc K (.ref f)=true) (hv:mA name=none) (h:Q (.ref f,[.ref x]) s) :
 wpAny (M3 prog w) A (Qu (.ref x) name pl) Q E s:=by
 obtain ⟨od,J,hl⟩:=I.look
 exact PySem.W.method_fn X J (PB hg).1 (PB hg).2 hf (beq_iff_eq.mp ht) (by show (Pv name od).map (·.isSome)=some false;rw[hl,hv];rfl) h
theorem zN {ns:List Str}{Q:Unit->MK->Prop} (X:K.In s.heap) (I:qe s.heap x dx C mA)
 (hs:Nc K (.ref C) "__setattr__"=some (some (.builtin "object.__setattr__"))) (hp:P6 K C=true) (ht:Qk K C name=some none) (hh:Oi K C=true)
 (hw:Q6 mA ns) (hsz:ns.length<=sizeLine)
 (h:∀ h',qe h' x dx C (fun y=>if y=name then some v else mA y)->Ow dx s.heap h'->Q () { s with heap:=h',toks:=s.toks+2 }) :
 wpAny (M3 prog w) A (setAttr (.ref x) name v) Q E s:=by
 obtain ⟨od,J,hl⟩:=I.look
 refine PySem.W.set_plain X J hs (PySem.W.osa_open (s:={ s with toks:=s.toks+1 }) (r:=none) X J hp ht fun b=>?_)
 obtain ⟨cd,hc,hd'⟩:=PySem.W.any_some hh
 have hx:s.heap.get? x=some ⟨.ref C,some dx,.plain,#[]⟩:=I.obj
 refine wpAny_bind (wpAny_pure (wpAny_bind (wpAny_bind (wpAny_loadPart hx (wpAny_bind (PySem.W.Looks.here (s:={ s with toks:=s.toks+1 }) (PySem.W.looks_clsIn X hc) ?_))))))
 rw[hd']
 refine wpAny_pure (a:=some dx) (wpAny_bind (wpAny_pure (wpAny_bind ?_)))
 refine wpAny_nsSet1 (s:={ s with toks:=s.toks+1 }) I.ns fun h' hn2 hs2=>?_
 obtain ⟨oD,esD,epD,hoD,hdD,hcD⟩:=hn2.count (PySem.Within.cons name v hw)
 refine wpAny_bind (wpAny_lookBehind hoD (by rw[hdD];exact pastItsLine_dict (Nq hcD (by rw[M5];omega))) ?_)
 exact wpAny_pure (h _ ⟨(hs2.2 _ (Ne.symm I.ne)).trans I.obj,hn2,I.ne⟩ hs2)
theorem vI {R:Result->MK->Prop}{vs:List Value}{kw:List (Str×Value)} (X:K.In s.heap) (hm:Ql K C=true)
 (hi:Nc K (.ref C) "__init__"=some (some (.ref f))) (hf:PySem.W.typeIn K (.ref f)=some (.type "function"))
 (h:codeAny (M3 prog w) (A.under (.builtin "type.__call__" ⟨.ref C :: vs,kw⟩)) (.call (.ref f) ⟨.ref (s.heap.objs.size+1) :: vs,kw⟩) (PySem.W.InitBack (s.heap.objs.size+1) R)
  { s with heap:=(s.heap.push NF).push (N4 C s.heap.objs.size) }) :
 codeAny (M3 prog w) A (.call (.ref C) ⟨vs,kw⟩) R s:=by
 obtain ⟨hh,g,d,t,os⟩:=s
 exact PySem.W.make_core (PySem.W.makes_of X hm) (PySem.W.looks_findIn X hi) (fun self=>PySem.W.bind_fn X self hf) (.inl rfl) h
end
noncomputable def bz (f:Str) (v:V):List (Str×V)->List (Str×V)
 | []=>[(f,v)]
 | (g,x) :: r=>if g=f then (g,v) :: r else (g,x) :: bz f v r
theorem jl (f g:Str) (v:V):∀ fs:List (Str×V),(bz f v fs).lookup g=if g=f then some v else fs.lookup g
 | []=>by
  show Ot g [(f,v)]=_
  by_cases h:g=f
  ·have hb:(g==f)=true:=beq_iff_eq.mpr h
   simp only[Ot,hb,if_pos h]
  ·have hb:(g==f)=false:=beq_eq_false_iff_ne.mpr h
   simp only[Ot,hb,if_neg h]
 | (k,x) :: r=>by
  have ih:=jl f g v r
  rw[show bz f v ((k,x) :: r)=(if k=f then (k,v) :: r else (k,x) :: bz f v r) from rfl]
  by_cases hk:k=f
  ·rw[if_pos hk]
   by_cases h:g=k
   ·have hb:(g==k)=true:=beq_iff_eq.mpr h
    simp only[Ot,hb,if_pos (h.trans hk)]
   ·have hb:(g==k)=false:=beq_eq_false_iff_ne.mpr h
    simp only[Ot,hb,if_neg (fun e:g=f=>h (e.trans hk.symm))]
  ·rw[if_neg hk]
   by_cases h:g=k
   ·have hb:(g==k)=true:=beq_iff_eq.mpr h
    simp only[Ot,hb,if_neg (fun e:g=f=>hk (h.symm.trans e))]
   ·have hb:(g==k)=false:=beq_eq_false_iff_ne.mpr h
    simp only[Ot,hb]
    exact ih
theorem i7 (f:Str) (v:V):∀ fs:List (Str×V),f∈(bz f v fs).map (·.1)/\∀ g,g∈fs.map (·.1)->g∈(bz f v fs).map (·.1)
 | []=>⟨by simp[bz],fun g h=>by simp at h⟩
 | (k,x) :: r=>by
  obtain ⟨i1,i2⟩:=i7 f v r
  rw[show bz f v ((k,x) :: r)=(if k=f then (k,v) :: r else (k,x) :: bz f v r) from rfl]
  by_cases hk:k=f
  ·rw[if_pos hk]
   subst hk
   exact ⟨by simp,fun g h=>by simpa using h⟩
  ·rw[if_neg hk]
   refine ⟨?_,fun g h=>?_⟩
   ·rw[M9]
    exact M8 _ i1
   ·rw[M9] at h ⊢
    rcases List.mem_cons.mp h with e | e
    ·exact List.mem_cons.mpr (.inl e)
    ·exact M8 _ (i2 g e)
theorem jm (f:Str) (v:V):∀ fs:List (Str×V),(bz f v fs).length<=fs.length+1
 | []=>by simp[bz]
 | (k,x) :: r=>by
  have ih:=jm f v r
  rw[show bz f v ((k,x) :: r)=(if k=f then (k,v) :: r else (k,x) :: bz f v r) from rfl]
  by_cases hk:k=f
  ·rw[if_pos hk,M5,M5];omega
  ·rw[if_neg hk,M5,M5];omega
theorem kU.some_of {v:V}{o:Option Value} (r:kU (some v) o):∃ u,o=some u/\RelV v u:=by
 cases o with
 | none=>exact (show False from r).elim
 | some u=>exact ⟨u,rfl,r⟩
theorem kU.none_of {o:Option Value} (r:kU none o):o=none:=by
 cases o with
 | none=>rfl
 | some u=>exact (show False from r).elim
theorem uq {v:V}{u:Value} (r:RelV v u):RG u=true:=by
 cases v with
 | non=>cases (show u=Qd from r);rfl
 | bl b=>cases (show u=RX b from r);rfl
 | int i=>obtain ⟨t,e⟩:=(show ∃ t,u=Qw i t from r);cases e;rfl
 | str x=>obtain ⟨t,e⟩:=(show ∃ t,u=Pr x t from r);cases e;rfl
 | byt b=>obtain ⟨t,e⟩:=(show ∃ t,u=Value.bytes b t from r);cases e;rfl
 | flt b=>obtain ⟨t,e⟩:=(show ∃ t,u=Value.float b t from r);cases e;rfl
 | ref a=>cases (show u=NK a from r);rfl
 | ty n=>cases (show u=Value.type n from r);rfl
section
variable {P:MP}{w:M7}{H H':Hp}{h h':Heap}{a C dx:MN}{fs fs':List (Str×V)}
theorem iy (hok:HOk P w H h) (e:H a=some (.ins C dx fs)):∃ mA,qe h a dx C mA/\(∀ f,kU (fs.lookup f) (mA f))/\Q6 mA (fs.map (·.1))/\fs.length<=1000/\H dx=some (.own a):=by
 obtain ⟨d,z,ne,ob,mA,n,r,q⟩:=(show dH P w H h a (.ins C dx fs) from hok a _ e)
 exact ⟨mA,⟨ob,n,ne⟩,r,q,z,d⟩
end
structure Cls (K:MI) (C:MN):Prop where
 pg:OF K C Qe=true
 hd:Oi K C=true
 po:P6 K C=true
 sa:Nc K (.ref C) "__setattr__"=some (some (.builtin "object.__setattr__"))
theorem Cls.get {K:MI}{C:MN} (c:Cls K C) (f:Str):OF K C f=true:=c.pg
noncomputable def fS (K:MI) (C:MN) (f:Str):Prop:=Nc K (.ref C) f=some none
theorem fS.Gn {K:MI}{C:MN}{f:Str} (n:fS K C f):Qk K C f=some none:=by
 unfold Qk
 rw[show Nc K (.ref C) f=some none from n]
 rfl
structure oE (K:MI) (C:MN) (m:Str) (f:MN):Prop where
 at_:Nc K (.ref C) m=some (some (.ref f))
 fn:Qc K (.ref f)=true
 kp:Nb K (.ref f)=true
section
variable {X:Cx}{pins:List (MN×Obj)}{σ:St}{H:Hp}{s:MK}{a C dx:MN}{fs:List (Str×V)}{f:Str}{v:V}{A:Nn}{E:Value->MK->Prop}
theorem jR {b:Bool}{Q:Value->MK->Prop} (I:Inv X pins σ H s) (e:H a=some (.ins C dx fs)) (c:Cls X.K C) (n:fS X.K C f) (l:fs.lookup f=some v)
 (h:∀ u s',Inv X pins σ H s'->RelV v u->Q u s'):wpAny (M3 X.prog X.w) A (getAttr (.ref a) f b) Q E s:=by
 obtain ⟨mA,O,r,_,_,_⟩:=iy I.hok e
 obtain ⟨u,hu,ru⟩:=kU.some_of (v:=v) (o:=mA f) (by rw[← l];exact r f)
 exact get_map I.kIn O (c.get f) c.hd n hu (uq ru) (h u _ (I.tok _) ru)
theorem gQ {m:Str}{g:MN}{pl:Sem Bool}{Q:Value×List Value->MK->Prop} (I:Inv X pins σ H s) (e:H a=some (.ins C dx fs)) (c:Cls X.K C) (k:oE X.K C m g) (l:fs.lookup m=none)
 (h:Q (.ref g,[.ref a]) s):wpAny (M3 X.prog X.w) A (Qu (.ref a) m pl) Q E s:=by
 obtain ⟨mA,O,r,_,_,_⟩:=iy I.hok e
 have hn:mA m=none:=kU.none_of (by rw[← l];exact r m)
 exact vH I.kIn O (c.get m) k.at_ k.fn hn h
theorem jS {y:V}{u:Value}{Q:Unit->MK->Prop} (I:Inv X pins σ H s) (e:H a=some (.ins C dx fs)) (c:Cls X.K C) (n:fS X.K C f) (hl:fs.length < 1000) (ry:RelV y u)
 (h:∀ s',Inv X pins σ (upd H a (.ins C dx (bz f y fs))) s'->Q () s'):wpAny (M3 X.prog X.w) A (setAttr (.ref a) f u) Q E s:=by
 obtain ⟨mA,O,r,wi,_,ho⟩:=iy I.hok e
 have hz:(fs.map (·.1)).length<=sizeLine:=by rw[NO,sizeLine_eq];omega
 refine zN I.kIn O c.sa c.po n.Gn c.hd wi hz fun h' O' sb=>h _ ?_
 have hd:∃ o,h'.get? dx=some o:=let ⟨o,_,_,e',_⟩:=O'.ns;⟨o,e'⟩
 refine I.write (x:=a) (e:=dx) (by rw[e];exact Pz) (.inr ho) (fun b q hb z=>(sb.2 b hb).trans z) hd ?_
 refine ⟨by rw[au O.ne];exact ho,?_,O.ne,O'.obj,_,O'.ns,fun g=>?_,fun g hg=>?_⟩
 ·have:=jm f y fs;omega
 ·show kU ((bz f y fs).lookup g) (if g=f then some u else mA g)
  rw[jl]
  by_cases q:g=f
  ·rw[if_pos q,if_pos q];exact ry
  ·rw[if_neg q,if_neg q];exact r g
 ·by_cases q:g=f
  ·rw[q];exact (i7 f y fs).1
  ·refine (i7 f y fs).2 g (wi g fun z=>hg ?_)
   show (if g=f then some u else mA g)=none
   rw[if_neg q];exact z
theorem Inv.made (I:Inv X pins σ H s):Inv X pins σ (upd (upd H s.heap.objs.size (.own (s.heap.objs.size+1))) (s.heap.objs.size+1) (.ins C s.heap.objs.size []))
 { s with heap:=(s.heap.push NF).push (N4 C s.heap.objs.size) }:=by
 have e1:(s.heap.push NF).get? s.heap.objs.size=some NF:=Nk s.heap rfl
 have e2:((s.heap.push NF).push (N4 C s.heap.objs.size)).get? (s.heap.objs.size+1)=some (N4 C s.heap.objs.size):=by
  have:=Nk (s.heap.push NF) (o:=N4 C s.heap.objs.size) rfl
  rwa [QS] at this
 have e3:(s.heap.push NF).Ns s.heap.objs.size (fun _=>none):=⟨NF,#[],_,e1,rfl,(fun e he=>absurd he (by simp)),fun _=>rfl⟩
 have I1:=I.laid (a:=s.heap.objs.size) (o:=.own (s.heap.objs.size+1)) (h':=s.heap.push NF) (t':=s.toks) (fun b u q=>MQ _ q) (MR _) ⟨_,e1⟩
 refine I1.laid (a:=s.heap.objs.size+1) (o:=.ins C s.heap.objs.size []) (t':=s.toks) (fun b u q=>MQ _ q) (Nat.le_of_eq (QS _ _)) ?_
 have ne:s.heap.objs.size≠s.heap.objs.size+1:=Np (Os _)
 refine ⟨by rw[au ne,bx],Od _,ne,e2,fun _=>none,(Heap.Ns1.of_empty e3).at fun o q=>MQ _ q,fun _=>Pz,fun y hy=>absurd rfl hy⟩
theorem zO {prog:MP}{w:M7}{env:Env}{e:OS}{f:Str}{pos:Pos}{s:MK}{Q:Value->MK->Prop} (hb:Py e f env (eval e env)=eval e env)
 (h:wpAny (M3 prog w) A (eval e env) (fun o s₁=>wpAny (M3 prog w) A (getAttr o f true) Q E s₁) E s):wpAny (M3 prog w) A (eval (.Attribute e f pos) env) Q E s :=
 Attribute_any_ h (by rw[arm_eval_Attribute,hb])
end
noncomputable def Ka (K:MI) (ta:TE) (f:Str):TE:=fun σ H Q=>ta σ H fun x H1=>∃ a C dx fs v,x=.ref a/\H1 a=some (.ins C dx fs)/\Cls K C/\fS K C f/\fs.lookup f=some v/\Q v H1
noncomputable def Gp (K:MI) (ta tv:TE) (f:Str):TS:=fun D σ H=>tv σ H fun y H1=>ta σ H1 fun x H2=>∃ a C dx fs,x=.ref a/\H2 a=some (.ins C dx fs)/\Cls K C/\fS K C f/\fs.length < 1000 ∧
 D.nx σ (upd H2 a (.ins C dx (bz f y fs)))
noncomputable def Kc (X:Cx) (op:OQ) (rd:V->V->Hp->VK->Prop):Prop :=
 ∀ (pins:List (MN×Obj)) (s:MK) (σ:St) (H:Hp) (x y:V) (u v:Value) (Q:VK),Inv X pins σ H s->RelV x u->RelV y v->rd x y H Q->wpAny (M3 X.prog X.w) X.A (inplaceOp op u v) (EP X pins σ Q) X.xe s
noncomputable def rm (K:MI) (ta tv:TE) (rd:V->V->Hp->VK->Prop) (f:Str):TS:=fun D σ H=>ta σ H fun x H1=>∃ a C dx fs v,x=.ref a/\H1 a=some (.ins C dx fs)/\Cls K C/\fS K C f/\fs.lookup f=some v ∧
 tv σ H1 fun y H2=>rd v y H2 fun z H3=>∃ dx' fs',H3 a=some (.ins C dx' fs')/\fs'.length < 1000/\D.nx σ (upd H3 a (.ins C dx' (bz f z fs')))
section
variable {X:Cx}{o e value:OS}{f:Str}{pos pos' tpos:Pos}{ta tv:TE}
theorem Dg (he:PE X e ta) (hb:Py e f X.env (eval e X.env)=eval e X.env):PE X (.Attribute e f pos) (Ka X.K ta f):=by
 intro pins s σ H Q I h
 refine zO hb (thn (he pins s σ H _ I h) fun u s1 zq=>?_)
 obtain ⟨x,H1,I1,rx,a,C,dx,fs,v,ex,ea,c,n,l,q⟩:=zq
 subst ex
 obtain rfl:u=NK a:=rx
 exact jR I1 ea c n l fun u' s2 I2 ru=>⟨v,H1,I2,ru,q⟩
theorem vJ (ha:PE X o ta) (hv:PE X value tv) (hs:O7 value (some (.Attribute o f pos')) pos.line X.env=pure false):PS X (.Assign [.Attribute o f pos'] value pos) (Gp X.K ta tv f):=by
 intro pins s σ H D I h
 refine plainObj_wpAny_Assign_Attribute (thn (hv pins s σ H _ I h) fun u s1 ⟨y,H1,I1,ry,q⟩=>thn (ha pins s1 σ H1 _ I1 q) fun ov s2 ⟨x,H2,I2,rx,a,C,dx,fs,ex,ea,c,n,l,q2⟩=>?_) hs
 subst ex
 obtain rfl:ov=NK a:=rx
 exact jS I2 ea c n l ry fun s3 I3=>⟨σ,_,I3,q2⟩
theorem lN {op:OQ}{rd:V->V->Hp->VK->Prop} (ha:PE X o ta) (hv:PE X value tv) (hop:Kc X op rd):PS X (.AugAssign (.Attribute o f tpos) op value pos) (rm X.K ta tv rd f):=by
 intro pins s σ H D I h
 refine wpAny_AugAssign_AttributeAny (thn (ha pins s σ H _ I h) fun ov s1 zq=>?_)
 obtain ⟨x,H1,I1,rx,a,C,dx,fs,v,ex,ea,c,n,l,q⟩:=zq
 subst ex
 obtain rfl:ov=NK a:=rx
 refine jR I1 ea c n l fun u s2 I2 ru=>thn (hv pins s2 σ H1 _ I2 q) fun w3 s3 ⟨y,H2,I3,ry,q3⟩=>thn (hop pins s3 σ H2 v y u w3 _ I3 ru ry q3) fun w4 s4 zq=>?_
 obtain ⟨z,H3,I4,rz,dx',fs',ea',l',q4⟩:=zq
 exact jS I4 ea' c n l' rz fun s5 I5=>⟨σ,_,I5,q4⟩
theorem B7 {pl:Sem Bool}{m:Str}{apos:Pos}{args:List OS}{pins:List (MN×Obj)}{s:MK}{σ:St}{H:Hp}{Q:Value->MK->Prop}{te:TE} (he:PE X e te) (I:Inv X pins σ H s)
 (h:te σ H fun x H1=>∃ a C dx fs g,x=.ref a/\H1 a=some (.ins C dx fs)/\Cls X.K C/\oE X.K C m g/\fs.lookup m=none ∧
  ∀ s1,Inv X pins σ H1 s1->wpAny (M3 X.prog X.w) X.A (callWith pos (.ref g) [.ref a] (OC pos (Nd args X.env)) (P9 pos (OO [] X.env))) Q X.xe s1)
 (ht:eval (.Call (.Attribute e m apos) args [] pos) X.env=(do
  let ov ← eval e X.env
  standAt apos.atName
  let (f,first) ← holding [ov] (Qu ov m pl)
  callWith pos f first (OC pos (Nd args X.env)) (P9 pos (OO [] X.env)))) :
 wpAny (M3 X.prog X.w) X.A (eval (.Call (.Attribute e m apos) args [] pos) X.env) Q X.xe s:=by
 refine Pj (pl:=pl) (thn (he pins s σ H _ I h) fun u s1 ⟨x,H1,I1,rx,a,C,dx,fs,g,ex,ea,c,k,l,q⟩=>?_) ht
 subst ex
 obtain rfl:u=NK a:=rx
 exact gQ I1 ea c k l (q s1 I1)
end
section
variable {X:Cx}{pins:List (MN×Obj)}{σ:St}{H:Hp}{s:MK}{A:Nn}{E:Value->MK->Prop}{Q:Value->MK->Prop}{c:Value}{b:Bool}
end
end L2
namespace L2
open PySem PySem.Spec PyProof.Rows
structure bE (k:Nat) (A:Nn):Prop where
 hd:A.handled=none
 dp:A.depth+3*k+5 < recursionLimit
 un:A.units+16*k+200 < Rp
theorem bE.mono {j k:Nat}{A:Nn} (r:bE k A) (h:j<=k):bE j A:=⟨r.hd,by have:=r.dp;omega,by have:=r.un;omega⟩
theorem bE.deeper {k:Nat}{A:Nn} (r:bE (k+1) A) (env:Env):bE k (A.deeper env) :=
 ⟨r.hd,by have:=r.dp;show A.depth+1+3*k+5 < _;omega,by have:=r.un;show A.units+3+16*k+200 < _;omega⟩
theorem qf {A:Nn}{C:MN}{us:List Value}{kw:List (Str×Value)}:(A.under (.builtin "type.__call__" ⟨.ref C :: us,kw⟩)).depth=A.depth+1:=by
 first | rfl | simp[Q3,Code.weight,Code.isCreation,Code.isGuard,Code.isCaller,Code.frames,Rl,guardIds]
theorem qh {A:Nn}{C:MN}{us:List Value}{kw:List (Str×Value)}:(A.under (.builtin "type.__call__" ⟨.ref C :: us,kw⟩)).units=A.units+1:=by
 first | rfl | simp[Q3,Code.cUnits,Code.frames,Rl]
theorem bE.make {k:Nat}{A:Nn} (r:bE (k+1) A) (C:MN) (us:List Value) (kw:List (Str×Value)):bE k (A.under (.builtin "type.__call__" ⟨.ref C :: us,kw⟩)) :=
 ⟨r.hd,by have:=r.dp;rw[qf];omega,by have:=r.un;rw[qh];omega⟩
theorem bE.depth {k:Nat}{A:Nn} (r:bE k A):A.depth < recursionLimit:=by have:=r.dp;omega
noncomputable def vK:TA:=fun _ H Q=>Q [] H
noncomputable def B8 (ta:TE) (tr:TA):TA:=fun σ H Q=>ta σ H fun x H1=>tr σ H1 fun xs H2=>Q (x :: xs) H2
section
variable {X:Cx}{e:OS}{es:List OS}{te:TE}{t:TA}{pos:Pos}
theorem fT:PA X [] vK:=fun _ _ _ _ H Q I h=>Sa ⟨[],H,I,.nil,h⟩
theorem cu (ha:PE X e te) (hr:PA X es t) (hs:Nd (e :: es) X.env=(false,eval e X.env) :: Nd es X.env:=by rfl):PA X (e :: es) (B8 te t):=by
 intro pos pins s σ H Q I h
 rw[hs]
 show wpAny _ _ (spliced ((false,eval e X.env) :: OC pos (Nd es X.env))) _ _ s
 refine RL (thn (ha pins s σ H _ I h) fun u s1 zq=>?_)
 obtain ⟨x,H1,I1,r1,q1⟩:=zq
 exact thn (hr pos pins s1 σ H1 _ I1 q1) fun us s2 ⟨xs,H2,I2,r2,q2⟩=>⟨x :: xs,H2,I2,.cons r1 r2,q2⟩
noncomputable def Gq (t:TA):TE:=fun σ H Q=>t σ H fun xs H1=>xs.length<=sizeLine/\∀ p,H1 p=none->Q (.ref p) (upd H1 p (.tup xs))
noncomputable def Gs (t:TA):TE:=fun σ H Q=>t σ H fun xs H1=>xs.length<=sizeLine/\∀ p,H1 p=none->Q (.ref p) (upd H1 p (.lst xs))
theorem Dh {x1} (h:PA X es t):PE X (.Tuple es x1 pos) (Gq t):=by
 intro pins s σ H Q I hq
 refine wpAny_Tuple_spliced (thn (h pos pins s σ H _ I hq) fun us s1 ⟨xs,H1,I1,r,z,q⟩=>⟨by rw[← r.length];exact z,?_⟩)
 have hf:H1 s1.heap.objs.size=none:=I1.hok.fresh (MR _)
 refine ⟨.ref s1.heap.objs.size,upd H1 s1.heap.objs.size (.tup xs),I1.laid (t':=s1.toks) (fun b u e=>MQ _ e) (MR _) ?_,rfl,q _ hf⟩
 exact ⟨z,us,r,⟨_,Nk _ rfl,rfl,_,rfl⟩⟩
theorem Di (h:PA X es t):PE X (.List es pos) (Gs t):=by
 intro pins s σ H Q I hq
 refine wpAny_List_spliced (thn (h pos pins s σ H _ I hq) fun us s1 ⟨xs,H1,I1,r,z,q⟩=>⟨by rw[← r.length];exact z,?_⟩)
 have hf:H1 s1.heap.objs.size=none:=I1.hok.fresh (MR _)
 refine ⟨.ref s1.heap.objs.size,upd H1 s1.heap.objs.size (.lst xs),I1.laid (t':=s1.toks) (fun b u e=>MQ _ e) (MR _) ?_,rfl,q _ hf⟩
 exact ⟨z,us,0,r,Nk _ rfl⟩
end
noncomputable abbrev Sp:=List V->Hp->VK->XK->Prop
noncomputable abbrev CXT:=List Env->Hp->MK->XK->Value->MK->Prop
structure ju (P:MP) (w:M7) (K:MI) (mg:Str->Option Value) (base:Heap) (A:Nn) (outer:List Env) (s:MK) (H:Hp):Prop where
 frames:A.frames=some outer
 mod:Mod K mg base
 bs:∀ b o,base.get? b=some o->s.heap.get? b=some o/\H b=none
 bsz:base.objs.size<=s.heap.objs.size
 e9:s.heap.FunFrames base outer
 frf:∀ b∈frs outer,H b=none
 hok:HOk P w H s.heap
 bare:Qo s.gens
noncomputable def CE (outer:List Env) (P:MP) (w:M7) (H:Hp) (s:MK) (Q:VK) (u:Value) (s':MK):Prop :=
 ∃ v H',s'.os=s.os/\Qo s'.gens/\Un (frs outer) [] H H' s.heap s'.heap/\HOk P w H' s'.heap/\RelV v u/\Q v H'
noncomputable def CR (CX:CXT) (outer:List Env) (P:MP) (w:M7) (H:Hp) (s:MK) (Q:VK) (E:XK) (r:Result) (s':MK):Prop :=
 match r with
 | .ok (.ret u)=>CE outer P w H s Q u s'
 | .ok _=>False
 | .error e=>CX outer H s E e s'
structure cO (P:MP) (w:M7) (K:MI) (mg:Str->Option Value) (base:Heap) (CX:CXT) (k:Nat) (f:MN) (fd:Ny) (ps:List Str) (sp:Sp):Prop where
 len:∀ vs H Q E,sp vs H Q E->vs.length=ps.length
 run:∀ (A:Nn) (outer:List Env) (s:MK) (H:Hp) (args:Args) (us:List Value) (vs:List V) (Q:VK) (E:XK),bE k A->ju P w K mg base A outer s H->BindsTo s fd args (ps.zip us)->ao vs us->sp vs H Q E →
  codeAny (M3 P w) A (.call (.ref f) args) (CR CX outer P w H s Q E) s
theorem ju.make {P:MP}{w:M7}{K:MI}{mg:Str->Option Value}{base:Heap}{A:Nn}{outer:List Env}{s:MK}{H:Hp} (e:ju P w K mg base A outer s H) (C:MN) (us:List Value) (kw:List (Str×Value)) :
 ju P w K mg base (A.under (.builtin "type.__call__" ⟨.ref C :: us,kw⟩)) outer s H:=⟨by first | exact e.frames | (simpa [Q3,Code.envs,Rl,pushEnvs] using e.frames),e.mod,e.bs,e.bsz,e.e9,e.frf,e.hok,e.bare⟩
section
variable {X:Cx}{pins:List (MN×Obj)}{σ:St}{H:Hp}{s s':MK}
theorem Inv.Dj (I:Inv X pins σ H s):ju X.prog X.w X.K X.mg X.base X.A X.stack s H :=
 ⟨I.ok.frames,I.ok.mod,I.bs,Nq I.ok.bsz I.sz,I.stack,I.mK,I.hok,I.bare⟩
theorem Inv.after {Q:VK}{u:Value} (I:Inv X pins σ H s) (h:CE X.stack X.prog X.w H s Q u s'):EP X pins σ Q u s':=by
 obtain ⟨v,H',os,bare,un,hok,r,q⟩:=h
 obtain ⟨hh,g,d,t,os'⟩:=s'
 obtain rfl:os'=s.os:=os
 exact ⟨v,H',I.call (h':=hh) (g':=g) (d':=d) (t':=t) (ch:=[]) un hok bare (fun b z=>absurd z (by simp)),r,q⟩
end
noncomputable def rA (sp:Sp) (dvs:List V) (E:XK) (t:TA):TE:=fun σ H Q=>t σ H fun vs H1=>sp (vs++dvs) H1 Q E
noncomputable def rB (C:MN) (m:Str) (sp:Sp) (dvs:List V) (E:XK) (ta:TE) (t:TA):TE:=fun σ H Q=>ta σ H fun x H1=>∃ a dx fs,x=.ref a/\H1 a=some (.ins C dx fs)/\fs.lookup m=none ∧
 t σ H1 fun vs H2=>sp (x :: (vs++dvs)) H2 Q E
noncomputable def vL (C:MN) (sp:Sp) (dvs:List V) (E:XK) (t:TA):TE:=fun σ H Q=>t σ H fun vs H1=>∀ x dx,H1 x=none->H1 dx=none->dx≠x →
 sp (.ref x :: (vs++dvs)) (upd (upd H1 dx (.own x)) x (.ins C dx [])) (fun v H2=>v=.non/\Q (.ref x) H2) E
noncomputable def Binds (K:MI) (fd:Ny) (ps:List Str) (ds:List Value):Prop :=
 ∀ (s:MK) (us:List Value),K.In s.heap->(us++ds).length=ps.length->BindsTo s fd ⟨us,[]⟩ (ps.zip (us++ds))
theorem Binds.all {K:MI}{fd:Ny}{ps:List Str} (h:∀ us:List Value,us.length=ps.length->QY fd ⟨us,[]⟩=pure (ps.zip us)):Binds K fd ps []:=fun s us _ hl=>by
 rw[NT] at hl ⊢
 exact .of_eq (h us hl)
noncomputable def dN (CX:CXT) (X:Cx) (E:XK):Prop:=∀ (pins:List (MN×Obj)) (σ:St) (H:Hp) (s:MK) (e:Value) (s':MK),Inv X pins σ H s->CX X.stack H s E e s'->X.xe e s'
section
variable {X:Cx}{CX:CXT}{k:Nat}{f C:MN}{fd:Ny}{ps:List Str}{sp:Sp}{dvs:List V}{ds:List Value}{E:XK}{x m:Str}{p pos apos:Pos}{e o:OS}{es:List OS}{ta:TE}{t:TA}
theorem mR {pins:List (MN×Obj)}{σ:St}{H:Hp}{s:MK}{Q:VK}{us:List Value}{vs:List V} (F:cO X.prog X.w X.K X.mg X.base CX k f fd ps sp) (hr:bE k X.A) (hb:Binds X.K fd ps ds) (hd:ao dvs ds) (hx:dN CX X E)
 (I:Inv X pins σ H s) (r:ao vs us) (h:sp (vs++dvs) H Q E):wpAny (M3 X.prog X.w) X.A (call (.ref f) us) (EP X pins σ Q) X.xe s:=by
 have r2:ao (vs++dvs) (us++ds):=r.append hd
 have hl:(us++ds).length=ps.length:=by rw[← r2.length];exact F.len _ _ _ _ h
 refine RB (P4 (F.run X.A X.stack s H ⟨us,[]⟩ (us++ds) (vs++dvs) Q E hr I.Dj (hb s us I.kIn hl) r2 h) fun r s' hq=>?_)
 cases r with
 | error e=>exact hx pins σ H s e s' I hq
 | ok fl =>
  cases fl with
  | ret u=>exact I.after hq
  | next=>exact Nu hq
  | brk=>exact Nu hq
  | cont=>exact Nu hq
theorem zP (F:cO X.prog X.w X.K X.mg X.base CX k f fd ps sp) (hr:bE k X.A) (hg:Gl X x) (hm:X.mg x=some (.ref f)) (hk:Nb X.K (.ref f)=true) (hb:Binds X.K fd ps ds) (hd:ao dvs ds) (hx:dN CX X E)
 (ha:PA X (e :: es) t) (hdb:(x==("__debug__":Str))=false:=by decide) (he:Nd (e :: es) X.env=(false,eval e X.env) :: Nd es X.env:=by rfl) (hpl:(OC pos (Nd es X.env)).any (·.1)=false:=by rfl) :
 PE X (.Call (.Name x p) (e :: es) [] pos) (rA sp dvs E t):=by
 intro pins s σ H Q I h
 refine N5 (fG I hg hm ?_ hdb)
 refine OW (h₀:=X.base) I.ok.mod.kin hk (thn (ha pos pins s σ H _ I h) fun us s1 ⟨vs,H1,I1,r,q⟩=>⟨I1.kIn,?_⟩) he hpl
 exact mR F hr hb hd hx I1 r q
theorem vM (F:cO X.prog X.w X.K X.mg X.base CX k f fd ps sp) (hr:bE k X.A) (hg:Gl X x) (hm:X.mg x=some (.ref f)) (hk:Nb X.K (.ref f)=true) (hb:Binds X.K fd ps ds) (hd:ao dvs ds) (hx:dN CX X E)
 (hdb:(x==("__debug__":Str))=false:=by decide):PE X (.Call (.Name x p) [] [] pos) (rA sp dvs E vK):=by
 intro pins s σ H Q I h
 refine N5 (fG I hg hm ?_ hdb)
 exact PJ I.kIn hk (mR (us:=[]) F hr hb hd hx I .nil h)
theorem rC {pl:Sem Bool} (he:PE X o ta) (c:Cls X.K C) (hm:oE X.K C m f) (F:cO X.prog X.w X.K X.mg X.base CX k f fd ps sp) (hr:bE k X.A) (hb:Binds X.K fd ps ds) (hd:ao dvs ds) (hx:dN CX X E) (ha:PA X (e :: es) t)
 (hst:Nd (e :: es) X.env=(false,eval e X.env) :: Nd es X.env:=by rfl) (hpl:(OC pos (Nd es X.env)).any (·.1)=false:=by rfl)
 (ht:eval (.Call (.Attribute o m apos) (e :: es) [] pos) X.env=(do
  let ov ← eval o X.env
  standAt apos.atName
  let (f,first) ← holding [ov] (Qu ov m pl)
  callWith pos f first (OC pos (Nd (e :: es) X.env)) (P9 pos (OO [] X.env))):=by rfl) :
 PE X (.Call (.Attribute o m apos) (e :: es) [] pos) (rB C m sp dvs E ta t):=by
 intro pins s σ H Q I h
 refine Pj (pl:=pl) (thn (he pins s σ H _ I h) fun u s1 ⟨x,H1,I1,rx,a,dx,fs,ex,ea,l,q⟩=>?_) ht
 subst ex
 obtain rfl:u=NK a:=rx
 refine gQ I1 ea c hm l ?_
 refine OW (first:=[.ref a]) (h₀:=X.base) I.ok.mod.kin hm.kp (thn (ha pos pins s1 σ H1 _ I1 q) fun us s2 ⟨vs,H2,I2,r,q2⟩=>⟨I2.kIn,?_⟩) hst hpl
 exact mR (us:=.ref a :: us) (vs:=.ref a :: vs) F hr hb hd hx I2 (.cons rfl r) q2
theorem oF {pl:Sem Bool} (he:PE X o ta) (c:Cls X.K C) (hm:oE X.K C m f) (F:cO X.prog X.w X.K X.mg X.base CX k f fd ps sp) (hr:bE k X.A) (hb:Binds X.K fd ps ds) (hd:ao dvs ds) (hx:dN CX X E)
 (ht:eval (.Call (.Attribute o m apos) [] [] pos) X.env=(do
  let ov ← eval o X.env
  standAt apos.atName
  let (f,first) ← holding [ov] (Qu ov m pl)
  callWith pos f first (OC pos (Nd [] X.env)) (P9 pos (OO [] X.env))):=by rfl) :
 PE X (.Call (.Attribute o m apos) [] [] pos) (rB C m sp dvs E ta vK):=by
 intro pins s σ H Q I h
 refine Pj (pl:=pl) (thn (he pins s σ H _ I h) fun u s1 ⟨x,H1,I1,rx,a,dx,fs,ex,ea,l,q⟩=>?_) ht
 subst ex
 obtain rfl:u=NK a:=rx
 refine gQ I1 ea c hm l ?_
 exact PJ (first:=[.ref a]) I1.kIn hm.kp (mR (us:=[.ref a]) (vs:=[.ref a]) F hr hb hd hx I1 (.cons rfl .nil) q)
structure Mk (K:MI) (C f:MN):Prop where
 makes:Ql K C=true
 init:Nc K (.ref C) "__init__"=some (some (.ref f))
 fn:Qc K (.ref f)=true
 kp:Nb K (.ref C)=true
theorem oG {pins:List (MN×Obj)}{σ:St}{H:Hp}{s:MK}{Q:VK}{us:List Value}{vs:List V} (M:Mk X.K C f) (F:cO X.prog X.w X.K X.mg X.base CX k f fd ps sp) (hr:bE (k+1) X.A) (hb:Binds X.K fd ps ds) (hd:ao dvs ds)
 (hx:dN CX X E) (I:Inv X pins σ H s) (r:ao vs us)
 (h:∀ x dx,H x=none->H dx=none->dx≠x->sp (.ref x :: (vs++dvs)) (upd (upd H dx (.own x)) x (.ins C dx [])) (fun v H2=>v=.non/\Q (.ref x) H2) E) :
 wpAny (M3 X.prog X.w) X.A (call (.ref C) us) (EP X pins σ Q) X.xe s:=by
 have hq:=h (s.heap.objs.size+1) s.heap.objs.size (I.hok.fresh (Oe _)) (I.hok.fresh (MR _)) (Np (Os _))
 have I2:=Inv.made (C:=C) I
 have r2:ao (V.ref (s.heap.objs.size+1) :: (vs++dvs)) (NK (s.heap.objs.size+1) :: (us++ds)):=.cons rfl (r.append hd)
 have hl:(NK (s.heap.objs.size+1) :: us++ds).length=ps.length:=by
  have e:=r2.length
  rw[F.len _ _ _ _ hq] at e
  exact e.symm
 refine RB (vI (f:=f) I.kIn M.makes M.init (beq_iff_eq.mp M.fn) (P4 (F.run _ X.stack _ _ ⟨NK (s.heap.objs.size+1) :: us,[]⟩ (NK (s.heap.objs.size+1) :: (us++ds)) _ _ E (hr.make C us [])
  (I2.Dj.make C us []) (hb _ (NK (s.heap.objs.size+1) :: us) I2.kIn hl) r2 hq) fun r s' hq'=>?_))
 cases r with
 | error e=>exact hx pins σ _ _ e s' I2 hq'
 | ok fl =>
  cases fl with
  | ret u =>
   obtain ⟨v,H',I3,rv,ev,q3⟩:=I2.after hq'
   subst ev
   exact ⟨rv,⟨V.ref (s.heap.objs.size+1),H',I3,rfl,q3⟩⟩
  | next=>exact Nu hq'
  | brk=>exact Nu hq'
  | cont=>exact Nu hq'
theorem zQ (M:Mk X.K C f) (F:cO X.prog X.w X.K X.mg X.base CX k f fd ps sp) (hr:bE (k+1) X.A) (hg:Gl X x) (hm:X.mg x=some (.ref C)) (hb:Binds X.K fd ps ds) (hd:ao dvs ds) (hx:dN CX X E)
 (ha:PA X (e :: es) t) (hdb:(x==("__debug__":Str))=false:=by decide) (he:Nd (e :: es) X.env=(false,eval e X.env) :: Nd es X.env:=by rfl) (hpl:(OC pos (Nd es X.env)).any (·.1)=false:=by rfl) :
 PE X (.Call (.Name x p) (e :: es) [] pos) (vL C sp dvs E t):=by
 intro pins s σ H Q I h
 refine N5 (fG I hg hm ?_ hdb)
 refine OW (h₀:=X.base) I.ok.mod.kin M.kp (thn (ha pos pins s σ H _ I h) fun us s1 ⟨vs,H1,I1,r,q⟩=>⟨I1.kIn,?_⟩) he hpl
 exact oG M F hr hb hd hx I1 r q
theorem vN (M:Mk X.K C f) (F:cO X.prog X.w X.K X.mg X.base CX k f fd ps sp) (hr:bE (k+1) X.A) (hg:Gl X x) (hm:X.mg x=some (.ref C)) (hb:Binds X.K fd ps ds) (hd:ao dvs ds) (hx:dN CX X E)
 (hdb:(x==("__debug__":Str))=false:=by decide):PE X (.Call (.Name x p) [] [] pos) (vL C sp dvs E vK):=by
 intro pins s σ H Q I h
 refine N5 (fG I hg hm ?_ hdb)
 exact PJ I.kIn M.kp (oG (us:=[]) M F hr hb hd hx I .nil h)
end
section
variable {X:Cx}{CX:CXT}{k:Nat}{f C:MN}{fd:Ny}{ps ks:List Str}{sp:Sp}{E:XK}{x m:Str}{p pos apos kpos:Pos}{e o:OS}{es:List OS}{kws:List Qn}{te ta:TE}{t tk:TA}{nm:Option Str}
variable {g:List Value->List Value->List Value}{gV:List V->List V->List V}
end
structure aD (N P:List Str) (sc:M0):Prop where
 kind:sc.kind=.function
 co:sc.isCoroutine=false
 gen:sc.isGenerator=false
 nd:N.Nodup
 pre:N.take P.length=P
 par:∀ x∈P,sc.names.lookup x=some .local\/sc.names.lookup x=some .cell
 nofree:∀ y∈sc.names,y.2≠.free
theorem lO {kindOf:Str->Option OG}{x:Str}:∀ {binds:List (Str×Value)}{m:Str->Option Value},(∀ v,(x,v)∉binds)->bindL kindOf binds m x=m x
 | [],_,_=>rfl
 | (n,v) :: r,m,h=>by
  unfold bindL
  rw[lO fun w hw=>h w (M8 _ hw)]
  split
  ·have:x≠n:=by rintro rfl;exact h v Nh
   simp[this]
  ·rfl
theorem lP {kindOf:Str->Option OG}{x:Str}:∀ {binds:List (Str×Value)}{m:Str->Option Value},(∀ v,(x,v)∉binds)->bindC kindOf binds m x=m x
 | [],_,_=>rfl
 | (n,v) :: r,m,h=>by
  unfold bindC
  rw[lP fun w hw=>h w (M8 _ hw)]
  split
  ·rfl
  ·have:x≠n:=by rintro rfl;exact h v Nh
   simp[this]
theorem lQ {kindOf:Str->Option OG}{x:Str}{v:Value}:∀ {P:List Str}{vs:List Value}{i:Nat}{m:Str->Option Value},P.Nodup->P[i]?=some x->vs[i]?=some v->kindOf x=some .local →
 bindL kindOf (P.zip vs) m x=some v
 | [],_,_,_,_,h,_,_=>by simp at h
 | _ :: _,[],_,_,_,_,h,_=>by simp at h
 | p :: P,w :: vs,0,m,nd,h1,h2,hk=>by
  simp at h1 h2;subst h1;subst h2
  show bindL kindOf ((p,w) :: P.zip vs) m p=_
  unfold bindL
  rw[lO fun v hv=>(List.nodup_cons.mp nd).1 (OX hv).1,if_pos hk]
  simp
 | p :: P,w :: vs,i+1,m,nd,h1,h2,hk=>by
  show bindL kindOf ((p,w) :: P.zip vs) m x=_
  unfold bindL
  exact lQ (i:=i) (List.nodup_cons.mp nd).2 (by simpa using h1) (by simpa using h2) hk
theorem lR {kindOf:Str->Option OG}{x:Str}{v:Value}:∀ {P:List Str}{vs:List Value}{i:Nat}{m:Str->Option Value},P.Nodup->P[i]?=some x->vs[i]?=some v->kindOf x≠some .local →
 bindC kindOf (P.zip vs) m x=some v
 | [],_,_,_,_,h,_,_=>by simp at h
 | _ :: _,[],_,_,_,_,h,_=>by simp at h
 | p :: P,w :: vs,0,m,nd,h1,h2,hk=>by
  simp at h1 h2;subst h1;subst h2
  show bindC kindOf ((p,w) :: P.zip vs) m p=_
  unfold bindC
  rw[lP fun v hv=>(List.nodup_cons.mp nd).1 (OX hv).1,if_neg hk]
  simp
 | p :: P,w :: vs,i+1,m,nd,h1,h2,hk=>by
  show bindC kindOf ((p,w) :: P.zip vs) m x=_
  unfold bindC
  exact lR (i:=i) (List.nodup_cons.mp nd).2 (by simpa using h1) (by simpa using h2) hk
noncomputable def start (N:List Str) (vs:List V):St:=vs.map some++MY (N.length - vs.length) none
noncomputable def aC (CX:CXT) (P:MP) (w:M7) (K:MI) (mg:Str->Option Value) (base:Heap) (N:List Str) (qual:Str) (scope:M0) (f:MN) (cd:Value) (A:Nn) (outer:List Env) (s:MK) (H:Hp) (E:XK):Cx where
 prog:=P
 w:=w
 K:=K
 mg:=mg
 base:=base
 A:=A.deeper (OA qual scope s.heap.objs.size f cd)
 N:=N
 s₀:=s
 H₀:=H
 env:=OA qual scope s.heap.objs.size f cd
 outer:=outer
 stack:=OA qual scope s.heap.objs.size f cd :: outer
 ex:=[]
 calm:=true
 fn:=fun _=>true
 pn:=[]
 xe:=fun e s'=>wpAny (M3 P w) (A.deeper (OA qual scope s.heap.objs.size f cd)) (leaving (OA qual scope s.heap.objs.size f cd) e) (fun _ s''=>CX outer H s E e s'') (fun e' s''=>CX outer H s E e' s'') s'
theorem oH {sc:M0}{n:Nat}{x:Str} (h:sc.names.lookup x=some .cell):∃ c,(Q4 n sc.names []).lookup x=some c:=by
 have q:=O9 sc.names n [] (.inl h)
 exact Option.isSome_iff_exists.mp q
theorem lS {CX:CXT}{P:MP}{w:M7}{K:MI}{mg:Str->Option Value}{base:Heap}{N ps:List Str}{qual:Str}{scope:M0}{f:MN}{cd:Value}{A:Nn}{outer:List Env}{s s1:MK}{H:Hp}{E:XK}{us:List Value}{vs:List V}
 (S:aD N ps scope) (hd:A.handled=none) (e0:ju P w K mg base A outer s H) (hl:vs.length=ps.length) (r:ao vs us)
 (x:InCallC s s.heap.objs.size (bindL (OA qual scope s.heap.objs.size f cd).kindOf (ps.zip us) fun _=>none) (Q4 (s.heap.objs.size+1) scope.names []) (bindC (OA qual scope s.heap.objs.size f cd).kindOf (ps.zip us) fun _=>none) s1) :
 Inv (aC CX P w K mg base N qual scope f cd A outer s H E) [] (start N vs) H s1:=by
 have hpl:ps.length<=N.length:=by have:=congrArg Pe S.pre;rw[Qq] at this;omega
 obtain ⟨h1,tk,rfl,hk⟩:=x.done
 have noA:∀ b:MN,b∉(aC CX P w K mg base N qual scope f cd A outer s H E).ex:=fun b z=>absurd (show b∈([]:List MN) from z) (by simp)
 refine ⟨⟨e0.mod,S.kind,rfl,rfl,MR _,fun y z c h1 h2=>?_,fun y hy=>?_,fun y c _ h=>?_,fun _=>hd,Px e0.frames,.inr ⟨rfl,rfl⟩,fun b z=>absurd z (noA b),e0.bs,e0.bsz,fun b _ _=>noA b,fun b z=>absurd z (noA b),e0.e9,e0.frf⟩,
  rfl,e0.bare,Un.kept hk,⟨_,x.toInCall.ns,fun i y v h1 h2 h3=>?_⟩,fun y c h=>⟨_,x.cell y c h⟩,e0.hok.fresh (MR _),fun y c h=>?_,fun p hp=>absurd (show p∈([]:List (MN×Obj)) from hp) (by simp),e0.hok.kept hk,?_⟩
 ·exact name_of_addr x.apart (NS h1) (NS h2)
 ·have hy:scope.names.lookup y=some .cell\/scope.names.lookup y=some .free:=hy
  rcases hy with hy | hy
  ·exact oH hy
  ·exact absurd rfl (S.nofree _ (NS hy))
 ·exact PK (x.above y c (NS h))
 ·have hi:i < vs.length:=by
   unfold start at h2
   by_cases hi:i < vs.length
   ·exact hi
   ·rw[M6 (by simpa using hi)] at h2
    rw[NR] at h2
    split at h2<;>cases h2
  have ha:vs[i]?=some v:=by
   unfold start at h2
   rw[MO (by simpa using hi),Na] at h2
   cases e:vs[i]? with
   | none=>rw[e] at h2;cases h2
   | some a=>rw[e] at h2;cases h2;rfl
  obtain ⟨u,hu,rv⟩:=r.get ha
  have hp:ps[i]?=some y:=by
   rw[← S.pre,Ou (by omega)];exact h1
  have ndP:ps.Nodup:=by rw[← S.pre];exact S.nd.sublist (List.take_sublist _ _)
  refine ⟨u,rv,?_⟩
  rcases S.par y (MZ hp) with k | k
  ·exact .inl ⟨k,lQ ndP hp hu k⟩
  ·obtain ⟨c,e⟩:=oH (n:=s.heap.objs.size+1) k
   refine .inr ⟨.inl k,c,e,?_⟩
   have q:=x.cell y c e
   rw[lR ndP hp hu (by show scope.names.lookup y≠_;rw[k];decide)] at q
   exact q
 ·exact e0.hok.fresh (PK (x.above y c (NS h)))
 ·unfold start
  show _=N.length
  rw[Nj,NO,OH]
  omega
theorem vO {CX:CXT}{P:MP}{w:M7}{K:MI}{mg:Str->Option Value}{base:Heap}{k:Nat}{f:MN}{name qual:Str}{params:OU}{body:List Qp}{scope:M0}{dV kV doc pm cdv ct oc:Value}{an od:Option MN}
 {osl:Array (Option Value)}{N ps:List Str}{sp:Sp} (lk:K.lookup f=some ⟨oc,od,.func (NJ name qual params body scope dV kV doc pm an cdv ct),osl⟩) (hcd:O2 K cdv qual=true) (S:aD N ps scope)
 (len:∀ vs H Q E,sp vs H Q E->vs.length=ps.length)
 (hbody:∀ (A:Nn) (outer:List Env) (s:MK) (H:Hp) (vs:List V) (Q:VK) (E:XK),bE k (A.deeper (OA qual scope s.heap.objs.size f cdv))->sp vs H Q E →
  ∃ t,PSs (aC CX P w K mg base N qual scope f cdv A outer s H E) body t/\t { nx:=fun _ H'=>Q .non H',rt:=Q } (start N vs) H) :
 cO P w K mg base CX (k+1) f (NJ name qual params body scope dV kV doc pm an cdv ct) ps sp:=by
 refine ⟨len,fun A outer s H args us vs Q E hr e0 hb r hsp=>?_⟩
 have hl:=len _ _ _ _ hsp
 have KX:K.In s.heap:=e0.mod.kin.keeps fun b o e=>(e0.bs b o e).1
 have lim:s.heap.NoLimit:=e0.mod.nolimit.keeps fun b o e=>(e0.bs b o e).1
 have hkind:∀ y∈ps.zip us,scope.names.lookup y.1=some .local\/(scope.names.lookup y.1=some .cell/\((Q4 (s.heap.objs.size+1) scope.names []).lookup y.1).isSome=true):=fun ⟨n,v⟩ hy=>by
  rcases S.par n (OX hy).1 with q | q
  ·exact .inl q
  ·exact .inr ⟨q,O9 _ _ _ (.inl q)⟩
 refine codeAny_call_function hr.depth (KX _ _ lk) rfl S.co S.gen rfl (Rj KX hcd) (hb _ _ _ _ ?_)
 refine Rf S.kind hkind fun env he s1 x=>?_
 subst he
 refine ⟨lim.keeps x.toInCall.keep,codeAny_func ?_⟩
 obtain ⟨t,ht,hq⟩:=hbody A outer s H vs Q E (hr.deeper _) hsp
 have I:Inv (aC CX P w K mg base N qual scope f cdv A outer s H E) [] (start N vs) H s1:=lS S hr.hd e0 hl r x
 refine wpAny_mono (ht [] s1 (start N vs) H _ I hq) (fun fl s' hs=>?_) fun e s' hs=>hs
 have fin:∀ {σ':St}{H':Hp}{v:V}{u:Value},Inv (aC CX P w K mg base N qual scope f cdv A outer s H E) [] σ' H' s'->RelV v u->Q v H'->CE outer P w H s Q u s' :=
  fun {σ' H' v u} J rv q=>⟨v,H',J.os,J.bare,J.base,J.hok,rv,q⟩
 cases fl with
 | ret u =>
  obtain ⟨v,σ',H',J,rv,q⟩:=hs
  exact fin J rv q
 | next =>
  obtain ⟨σ',H',J,q⟩:=hs
  exact fin (v:=V.non) (u:=Qd) J rfl q
 | brk =>
  obtain ⟨_,_,_,q⟩:=hs
  exact Nu q
 | cont =>
  obtain ⟨_,_,_,q⟩:=hs
  exact Nu q
end L2
namespace L2
open PySem PySem.Spec PyProof.Rows
section
variable {X:Cx}{x:Str}{p pos:Pos}{e:OS}{es:List OS}{t:TA}{id T:String}{r:List V->Hp->VK->Prop}
noncomputable def tCB (r:List V->Hp->VK->Prop) (t:TA):TE:=fun σ H Q=>t σ H fun vs H1=>r vs H1 Q
theorem dO (hc:cA X (.builtin id) r) (hg:Gl X x) (hm:X.mg x=none) (hv:Pd x=some (.builtin id)) (ha:PA X (e :: es) t) (hn:x≠"__name__":=by decide) (hdb:(x==("__debug__":Str))=false:=by decide)
 (he:Nd (e :: es) X.env=(false,eval e X.env) :: Nd es X.env:=by rfl) (hpl:(OC pos (Nd es X.env)).any (·.1)=false:=by rfl):PE X (.Call (.Name x p) (e :: es) [] pos) (tCB r t):=by
 intro pins s σ H Q I h
 refine N5 (jQ I hg hm hv ?_ hn hdb)
 exact PyProof.Rows.callWith_builtin1 (thn (ha pos pins s σ H _ I h) fun us s1 ⟨vs,H1,I1,r1,q1⟩=>hc pins s1 σ H1 vs us Q I1 r1 q1) he hpl
theorem gw (hc:cA X (.type T) r) (hg:Gl X x) (hm:X.mg x=none) (hv:Pd x=some (.type T)) (ha:PA X (e :: es) t) (hn:x≠"__name__":=by decide) (hdb:(x==("__debug__":Str))=false:=by decide)
 (he:Nd (e :: es) X.env=(false,eval e X.env) :: Nd es X.env:=by rfl) (hpl:(OC pos (Nd es X.env)).any (·.1)=false:=by rfl):PE X (.Call (.Name x p) (e :: es) [] pos) (tCB r t):=by
 intro pins s σ H Q I h
 refine N5 (jQ I hg hm hv ?_ hn hdb)
 exact OD (thn (ha pos pins s σ H _ I h) fun us s1 ⟨vs,H1,I1,r1,q1⟩=>hc pins s1 σ H1 vs us Q I1 r1 q1) he hpl
end
end L2
namespace HT
open PySem PyProof.Rows
section
open PySem.SeqAt
open PySem.AutoSeq1 (wpAny_loadPart')
open PySem.MeetsSeq PySem.MeetsSeq2 PySem.MeetsSeq3
end
section
variable {prog:MP}{w:M7}{A:Nn}{E:Value->MK->Prop}{s:MK}
theorem zR {t b:MN}{vs ws:List Value}{Q:Value->MK->Prop} (ht:IsTup s.heap t vs.toArray) (hb:IsTup s.heap b ws.toArray) (hv:vs≠[])
 (h1:ws=[]->Q (.ref t) s) (h2:ws≠[]->Q (.ref s.heap.objs.size) { s with heap:=s.heap.push { cls:=.type "tuple",data:=.seq (vs++ws).toArray } })
 (hsz:vs.length+ws.length<=sizeLine):wpAny (M3 prog w) A (NU .Add (.ref t) (.ref b)) Q E s:=by
 obtain ⟨⟨cls,dd,data,sl⟩,ho,hc,n,hd⟩:=id ht
 obtain ⟨⟨cls2,dd2,data2,sl2⟩,ho2,hc2,n2,hd2⟩:=id hb
 simp only at hc hd hc2 hd2
 subst hc hd hc2 hd2
 have e:vs.toArray++ws.toArray=(vs++ws).toArray:=by simp
 by_cases hw:ws=[]
 ·exact concat_meets ⟨_,ho,rfl⟩ ⟨_,ho2,rfl⟩ QT RQ Pa O8 (O4 _ _)
   (tuple_addW1 t b vs.toArray ws.toArray n n2 dd dd2 sl sl2 (by simpa using hv) (by simp[hw])) ⟨ho,ho2,h1 hw⟩
 ·refine concat_meets ⟨_,ho,rfl⟩ ⟨_,ho2,rfl⟩ QT RQ Pa O8 (O4 _ _)
   (tuple_addW2 t b vs.toArray ws.toArray n n2 dd dd2 sl sl2 (by simpa using hv) (by simpa using hw) (by rw[MM,MM];exact hsz)) ⟨ho,ho2,?_⟩
  rw[e]
  exact h2 hw
noncomputable def sIx (n d:Nat):Option Int->Nat
 | none=>d
 | some v=>if v < 0 then (v+(n:Int)).toNat else min v.toNat n
theorem Dk (n d:Nat) (hd:d<=n) (o:Option Int):sIx n d o<=n:=by
 cases o with
 | none=>exact hd
 | some v =>
  show (if v < 0 then (v+(n:Int)).toNat else min v.toNat n)<=n
  by_cases hv:v < 0
  ·rw[if_pos hv];omega
  ·rw[if_neg hv];exact Nat.min_le_right _ _
theorem rD (v:Int) (n d:Nat):(if v < 0 then max (v+(n:Int)) 0 else min v (n:Int))=((sIx n d (some v):Nat):Int):=by
 show (if v < 0 then max (v+(n:Int)) 0 else min v (n:Int))=(((if v < 0 then (v+(n:Int)).toNat else min v.toNat n):Nat):Int)
 by_cases hv:v < 0
 ·simp only[if_pos hv];omega
 ·simp only[if_neg hv];omega
theorem qi (lo hi:Option Int) (n:Nat):OL lo hi 1 (n:Int)=(((sIx n 0 lo:Nat):Int),((sIx n n hi:Nat):Int)):=by
 have h1:¬ ((1:Int) < 0):=by omega
 unfold OL
 simp only[h1,if_false]
 refine Prod.ext ?_ ?_
 ·cases lo with
  | none=>rfl
  | some v=>exact rD v n 0
 ·cases hi with
  | none=>rfl
  | some v=>exact rD v n n
theorem qj (i j:Nat):Oh (i:Int) (j:Int) 1=j - i:=by
 unfold Oh
 have h1:(1:Int) > 0:=by omega
 simp only[h1,if_true,Int.ediv_one]
 split<;>omega
theorem jT {v:Value}{o:Option Int}{Q:Option Int->MK->Prop} (p:QO v o) (h:Q o s):wpAny (M3 prog w) A (Builtin.Slice.slicePartIndex v) Q E s:=by
 cases p with
 | none=>exact slicePart_none h
 | int i t=>exact slicePart_int h
theorem fc {sl:MN}{vl vu:Value}{lo hi:Option Int}{n:Nat}{Q:Int×Int×Nat->MK->Prop} (hs:s.heap.IsSliceOf sl vl vu .none) (pl:QO vl lo) (pu:QO vu hi)
 (h:Q (((sIx n 0 lo:Nat):Int),1,sIx n n hi - sIx n 0 lo) s):wpAny (M3 prog w) A (PZ (.ref sl) (pure (n:Int))) Q E s:=by
 obtain ⟨os,hos,hcs,hds⟩:=id hs
 unfold PZ Builtin.Slice.sliceFields
 refine wpAny_bind (wpAny_bind (wpAny_field hos hds (x:=vl) rfl (wpAny_bind (wpAny_field hos hds (x:=vu) rfl (wpAny_bind (wpAny_field hos hds (x:=.none) rfl (wpAny_pure ?_)))))))
 refine wpAny_bind (slicePart_none ?_)
 show wpAny _ _ (if ((1:Int)==0)=true then _ else _) _ _ s
 rw[if_neg (by decide)]
 refine wpAny_bind (jT pl (wpAny_bind (jT pu (wpAny_bind (wpAny_pure ?_)))))
 show wpAny _ _ (match OL lo hi 1 (n:Int) with | (lo,hi)=>pure (lo,(1:Int),Oh lo hi 1)) _ _ s
 rw[qi lo hi n]
 show wpAny _ _ (pure (((sIx n 0 lo:Nat):Int),(1:Int),Oh ((sIx n 0 lo:Nat):Int) ((sIx n n hi:Nat):Int) 1)) _ _ s
 rw[qj]
 exact wpAny_pure h
theorem vP (xs:Array Value) (i k:Nat):((Nv k).filterMap fun (m:Nat)=>xs[((i:Int)+(m:Int)*1).toNat]?).toArray=((xs.toList.drop i).take k).toArray:=by
 have e:(fun (m:Nat)=>xs[((i:Int)+(m:Int)*1).toNat]?)=fun m=>xs[i+m]?:=by
  funext m
  have:((i:Int)+(m:Int)*1).toNat=i+m:=by omega
  rw[this]
 rw[e]
 have:=pick_run xs i k
 rw[List.filterMap_map] at this
 have e2:((fun x=>xs[x]?) ∘ fun x=>i+x)=fun m=>xs[i+m]?:=rfl
 rw[e2] at this
 rw[this]
theorem iz {t sl:MN}{items:Array Value}{vl vu:Value}{lo hi:Option Int}{Q:Value->MK->Prop} (ht:IsTup s.heap t items) (hs:s.heap.IsSliceOf sl vl vu .none) (pl:QO vl lo) (pu:QO vu hi)
 (hw:¬ (sIx items.size 0 lo=0/\sIx items.size items.size hi=items.size))
 (h:Q (.ref s.heap.objs.size) { s with heap:=s.heap.push { cls:=.type "tuple",data:=.seq ((items.toList.drop (sIx items.size 0 lo)).take (sIx items.size items.size hi - sIx items.size 0 lo)).toArray } })
 (hsz:items.size<=sizeLine):wpAny (M3 prog w) A (QD (.ref t) (.ref sl)) Q E s:=by
 have htake:sizeOk (.seq ((items.toList.drop (sIx items.size 0 lo)).take (sIx items.size items.size hi - sIx items.size 0 lo)).toArray):=by
  show ((items.toList.drop (sIx items.size 0 lo)).take (sIx items.size items.size hi - sIx items.size 0 lo)).toArray.size<=sizeLine
  rw[MM,Qq,List.length_drop,PU]
  omega
 have hj:sIx items.size items.size hi<=items.size:=Dk _ _ (MR _) hi
 obtain ⟨os,hos,hcs,hds⟩:=id hs
 have hTs:s.TypeIs (.ref sl) "slice":=⟨os,hos,hcs⟩
 unfold QD
 try with_reducible refine Oo ?_
 first | refine wpAny_bind (wpAny_pure ?_) | skip
 refine wpAny_bind (wpAny_sequenceKey ht.typeIs (by decide) ?_)
 refine wpAny_bind (RO (name:=MU "__getitem__") ht.typeIs NW
  (wpAny_call_entry NW ht.typeIs entry_tuple_getitem ?_ (args_tuple_getitem _ _)))
 show wpAny _ _ (PY (.ref t) >>= _) _ _ s
 refine wpAny_bind (tupleItemsOf_ ht ?_)
 refine wpAny_bind (wpAny_typeOf hTs ?_)
 rw[if_pos (by decide)]
 refine wpAny_bind (fc hs pl pu ?_)
 have hno:¬ ((((sIx items.size 0 lo:Nat):Int)==0&&(1:Int)==1&&(sIx items.size items.size hi - sIx items.size 0 lo)==items.size)=true):=by
  intro q
  rw[ML,ML] at q
  have q1:((sIx items.size 0 lo:Nat):Int)=0:=eq_of_beq q.1.1
  have q2:sIx items.size items.size hi - sIx items.size 0 lo=items.size:=eq_of_beq q.2
  exact hw ⟨by omega,by omega⟩
 show wpAny _ _ (if (((sIx items.size 0 lo:Nat):Int)==0&&(1:Int)==1&&(sIx items.size items.size hi - sIx items.size 0 lo)==items.size)=true then _ else _) _ _ s
 rw[if_neg hno,vP]
 first
  | exact wpAny_bind (m:=Oj _) (ON (wpAny_pure ⟨_,rfl,wpAny_pure h⟩) htake)
  | exact wpAny_bind (m:=Oj _) (ON (wpAny_bind (wpAny_pure (wpAny_pure ⟨_,rfl,wpAny_pure h⟩))) htake)
  | exact wpAny_bind (wpAny_bind (m:=Oj _) (ON (wpAny_pure (wpAny_pure ⟨_,rfl,wpAny_pure h⟩)) htake))
  | exact wpAny_bind (wpAny_bind (m:=Oj _) (ON (wpAny_pure ⟨_,rfl,wpAny_pure h⟩) htake))
end
end HT
namespace L2
open PySem PySem.Spec PyProof.Rows
noncomputable abbrev TO:=St->Hp->(Option Int->Hp->Prop)->Prop
noncomputable def PO (X:Cx) (e:Option OS) (t:TO):Prop :=
 ∀ (pins:List (MN×Obj)) (s:MK) (σ:St) (H:Hp) (Q:Option Int->Hp->Prop),Inv X pins σ H s->t σ H Q →
  wpAny (M3 X.prog X.w) X.A (evalPart e X.env) (fun u s'=>∃ o H',Inv X pins σ H' s'/\QO u o/\Q o H') X.xe s
noncomputable def zS:TO:=fun _ H Q=>Q none H
noncomputable def Gu (t:TE):TO:=fun σ H Q=>t σ H fun x H1=>∃ i,x=.int i/\Q (some i) H1
section
variable {X:Cx}{e:OS}{te:TE}{lo hi:Option OS}{tl th:TO}{pos p2:Pos}
theorem zT:PO X none zS:=by
 intro pins s σ H Q I h
 rw[RT]
 exact wpAny_pure ⟨none,H,I,.none,h⟩
theorem zU (h:PE X e te):PO X (some e) (Gu te):=by
 intro pins s σ H Q I hw
 rw[evalPart_some]
 refine thn (h pins s σ H _ I hw) fun u s1 zq=>?_
 obtain ⟨x,H1,I1,r1,q1⟩:=zq
 obtain ⟨i,rfl,q⟩:=q1
 obtain ⟨t,rfl⟩:=r1
 exact ⟨some i,H1,I1,.int i t,q⟩
noncomputable def SlR (X:Cx) (r:V->Option Int->Option Int->Hp->VK->Prop):Prop :=
 ∀ (pins:List (MN×Obj)) (s:MK) (σ:St) (H:Hp) (x:V) (v vl vu:Value) (lo hi:Option Int) (sl:MN) (Q:VK),Inv X pins σ H s->RelV x v->s.heap.IsSliceOf sl vl vu .none->QO vl lo->QO vu hi->r x lo hi H Q →
  ∃ T id,typeLookup (.type T) "__getitem__"=pure (some (.builtin id))/\s.TypeIs v T/\wpAny (M3 X.prog X.w) X.A (QD v (.ref sl)) (EP X pins σ Q) X.xe s
noncomputable def tSl (r:V->Option Int->Option Int->Hp->VK->Prop) (te:TE) (tl th:TO):TE:=fun σ H Q=>te σ H fun x H1=>tl σ H1 fun l H2=>th σ H2 fun u H3=>r x l u H3 Q
theorem vQ {r:V->Option Int->Option Int->Hp->VK->Prop} (hr:SlR X r) (he:PE X e te) (hl:PO X lo tl) (hu:PO X hi th):PE X (.Subscript e (.Slice lo hi none p2) pos) (tSl r te tl th):=by
 intro pins s σ H Q I h
 refine RC (thn (he pins s σ H _ I h) fun v s1 zq=>?_)
 obtain ⟨x,H1,I1,r1,q1⟩:=zq
 refine wpAny_Slice (thn (hl pins s1 σ H1 _ I1 q1) fun vl s2 ⟨l,H2,I2,pl,q2⟩=>thn (hu pins s2 σ H2 _ I2 q2) fun vu s3 zq=>?_)
 obtain ⟨u,H3,I3,pu,q3⟩:=zq
 rw[RT]
 refine wpAny_pure ?_
 have I4:Inv X pins σ H3 { s3 with heap:=s3.heap.push { cls:=.type "slice",data:=.fields #[vl,vu,.none] } }:=I3.kept (t':=s3.toks) fun b ob q=>MQ _ q
 obtain ⟨T,id,hT,ht,hg⟩:=hr pins { s3 with heap:=s3.heap.push { cls:=.type "slice",data:=.fields #[vl,vu,.none] } } σ H3 x v vl vu l u s3.heap.objs.size Q I4 r1 (Qx ..) pl pu q3
 show wpAny (M3 X.prog X.w) X.A (RP e (.Slice lo hi none p2) v (.ref s3.heap.objs.size)) (EP X pins σ Q) X.xe { s3 with heap:=s3.heap.push { cls:=.type "slice",data:=.fields #[vl,vu,.none] } }
 exact tail_any (ops:=[.ref s3.heap.objs.size,v]) ht hT hg (by with_unfolding_all rfl)
noncomputable def oJ (xs:List V) (lo hi:Option Int):List V:=(xs.drop (HT.sIx xs.length 0 lo)).take (HT.sIx xs.length xs.length hi - HT.sIx xs.length 0 lo)
theorem jn (xs:List V) (lo hi:Option Int):(oJ xs lo hi).length<=xs.length:=by
 unfold oJ
 rw[Qq,List.length_drop]
 omega
noncomputable def Kd (K:MI):V->Option Int->Option Int->Hp->VK->Prop:=fun x lo hi H Q=>∃ a xs,x=.ref a/\SqT K H a xs ∧
 ¬ (HT.sIx xs.length 0 lo=0/\HT.sIx xs.length xs.length hi=xs.length)/\∀ p,H p=none->Q (.ref p) (upd H p (.tup (oJ xs lo hi)))
theorem Dl:SlR X (Kd X.K):=by
 intro pins s σ H x v vl vu lo hi sl Q I rx hs pl pu h
 obtain ⟨a,xs,rfl,hx,hw,q⟩:=h
 cases rx
 obtain ⟨its,r,ht,hz⟩:=I.tuple hx
 have hlen:its.toArray.size=xs.length:=by rw[MM];exact r.length.symm
 refine ⟨"tuple",_,PyProof.Rows.slot_tuple_getitem.lookup,ht.typeIs,?_⟩
 refine HT.iz ht hs pl pu (by rw[hlen];exact hw) ?_ (by rw[hlen];exact hz)
 rw[hlen]
 refine ⟨.ref s.heap.objs.size,_,I.laid (t':=s.toks) (o:=.tup (oJ xs lo hi)) (fun b ob q=>MQ _ q) (MR _) ?_,rfl,q _ (I.hok.fresh (MR _))⟩
 exact ⟨Nq (jn xs lo hi) hz,_,(r.drop (HT.sIx xs.length 0 lo)).take (HT.sIx xs.length xs.length hi - HT.sIx xs.length 0 lo),IsTup.new _ _⟩
noncomputable def Gv (K:MI):R2:=fun x y H Q=>∃ a b xs ys,x=.ref a/\y=.ref b/\SqT K H a xs/\SqT K H b ys/\xs≠[]/\xs.length+ys.length<=sizeLine ∧
 (ys=[]->Q (.ref a) H)/\(ys≠[]->∀ p,H p=none->Q (.ref p) (upd H p (.tup (xs++ys))))
theorem ao.iA {xs:List V}{us:List Value} (r:ao xs us):us=[]↔xs=[]:=by
 cases r with
 | nil=>simp
 | cons _ _=>simp
theorem zV:OpR X (NU .Add) (Gv X.K):=by
 intro pins s σ H x y v u Q I rx ry h
 obtain ⟨a,b,xs,ys,rfl,rfl,ha,hb,hx,hz,q1,q2⟩:=h
 cases rx
 cases ry
 obtain ⟨its,r1,p1,_⟩:=I.tuple ha
 obtain ⟨its2,r2,p2,_⟩:=I.tuple hb
 refine HT.zR p1 p2 (fun z=>hx (r1.iA.mp z)) (fun z=>⟨.ref a,H,I,rfl,q1 (r2.iA.mp z)⟩) (fun z=>?_) (by rw[← r1.length,← r2.length];exact hz)
 refine ⟨.ref s.heap.objs.size,_,I.laid (t':=s.toks) (o:=.tup (xs++ys)) (fun b ob q=>MQ _ q) (MR _) ?_,rfl,q2 (fun w=>z (r2.iA.mpr w)) _ (I.hok.fresh (MR _))⟩
 exact ⟨by rw[Nj];exact hz,_,r1.append r2,IsTup.new _ _⟩
end
end L2
namespace L2
open PySem PySem.Spec PyProof.Rows
noncomputable def ixN (n:Nat) (i:Int):Option Nat:=if 0<=i then (if i < n then some i.toNat else none) else if -(n:Int)<=i then some (i+n).toNat else none
noncomputable def atI {α:Type} (xs:List α) (i:Int):Option α:=(ixN xs.length i).bind fun j=>xs[j]?
theorem rE {n:Nat}{i:Int}{j:Nat} (h:ixN n i=some j):seqIndex? i n=some j/\j < n/\-(n:Int)<=i/\i < n:=by
 unfold ixN at h
 by_cases h0:0<=i
 ·rw[if_pos h0] at h
  by_cases h1:i < n
  ·rw[if_pos h1] at h
   have e:i.toNat=j:=MV h
   exact ⟨by rw[seqIndex_of h0 h1,e],by omega,by omega,h1⟩
  ·rw[if_neg h1] at h;cases h
 ·rw[if_neg h0] at h
  by_cases h1:-(n:Int)<=i
  ·rw[if_pos h1] at h
   have e:(i+n).toNat=j:=MV h
   exact ⟨by rw[seqIndex_neg (by omega) h1,e],by omega,h1,by omega⟩
  ·rw[if_neg h1] at h;cases h
theorem mS {α:Type}{xs:List α}{i:Int}{v:α} (h:atI xs i=some v):∃ j,seqIndex? i xs.length=some j/\xs[j]?=some v/\j < xs.length/\-(xs.length:Int)<=i/\i < xs.length:=by
 unfold atI at h
 cases e:ixN xs.length i with
 | none=>rw[e] at h;cases h
 | some j =>
  rw[e] at h
  obtain ⟨h1,h2,h3,h4⟩:=rE e
  exact ⟨j,h1,h,h2,h3,h4⟩
noncomputable def rF (b:OS):Prop:=∀ o i,subscripted b false o i=operate [o,i] (QD o i)
noncomputable def IxR (X:Cx) (r:R2):Prop :=
 ∀ (value slice:OS) (pins:List (MN×Obj)) (s:MK) (σ:St) (H:Hp) (x y:V) (v u:Value) (Q:VK),Inv X pins σ H s->RelV x v->RelV y u->r x y H Q →
  subscripted slice false v u=operate [v,u] (QD v u)->wpAny (M3 X.prog X.w) X.A (RP value slice v u) (EP X pins σ Q) X.xe s
noncomputable def MtR (X:Cx) (id:String) (r:V->List V->Hp->VK->Prop):Prop :=
 ∀ (pins:List (MN×Obj)) (s:MK) (σ:St) (H:Hp) (x:V) (xs:List V) (v:Value) (us:List Value) (Q:VK),Inv X pins σ H s->RelV x v->ao xs us->r x xs H Q →
  wpAny (M3 X.prog X.w) X.A (call (.builtin id) (v :: us)) (EP X pins σ Q) X.xe s
section
variable {X:Cx}{a b:OS}{ta tb:TE}{pos:Pos}
theorem Gw {r:R2} (hr:IxR X r) (ha:PE X a ta) (hb:PE X b tb) (hs:rF b):PE X (.Subscript a b pos) (tOp r ta tb):=by
 intro pins s σ H Q I h
 exact RC (C6 ha hb I h fun v u s2 x y H2 I2 rx ry q=>hr a b pins s2 σ H2 x y v u Q I2 rx ry q (hs _ _))
noncomputable def Ke (K:MI):R2:=fun x y H Q=>∃ p xs i v,x=.ref p/\y=.int i/\SqL K H p xs/\atI xs i=some v/\Q v H
noncomputable def Kf (K:MI):R2:=fun x y H Q=>∃ p xs i v,x=.ref p/\y=.int i/\SqT K H p xs/\atI xs i=some v/\Q v H
noncomputable def Kg:R2:=fun x y H Q=>∃ z i c,x=.str z/\y=.int i/\z.length<=sizeLine/\atI z.cps.toList i=some c/\Q (.str ⟨#[c]⟩) H
theorem zW:IxR X (Ke X.K):=by
 intro value slice pins s σ H x y v u Q I rx ry h hs
 obtain ⟨p,xs,i,z,rfl,rfl,hq,he,q⟩:=h
 cases rx
 obtain ⟨t,rfl⟩:=ry
 obtain ⟨its,r,pl,hz⟩:=I.list hq
 obtain ⟨j,h1,h2,h3,h4,h5⟩:=mS he
 obtain ⟨w,ew,rw'⟩:=r.get h2
 have hl:=r.length
 have hn:=i6
 have fin:EP X pins σ Q w s:=⟨z,H,I,rw',q⟩
 by_cases h0:0<=i
 ·have hj:i.toNat=j:=by
   rw[seqIndex_of h0 h5] at h1
   exact MV h1
  exact item_listR pl.isList h0 (by omega) (by rw[hj];simpa using ew) fin hs
 ·have hj:(i+(its.toArray.size:Int)).toNat=j:=by
   rw[seqIndex_neg (by omega) h4] at h1
   rw[MM,← hl]
   exact MV h1
  exact subscriptTail_builtinR (x:=w) pl.isList.typeIs slot_list_getitem.lookup
   (wpAny_getItem_list_neg (Q:=fun r s'=>r=w/\EP X pins σ Q r s') pl.isList (by omega) (by rw[MM]<;>omega) (by omega) (by rw[hj];simpa using ew) ⟨rfl,fin⟩) hs
theorem Dm:IxR X (Kf X.K):=by
 intro value slice pins s σ H x y v u Q I rx ry h hs
 obtain ⟨p,xs,i,z,rfl,rfl,hq,he,q⟩:=h
 cases rx
 obtain ⟨t,rfl⟩:=ry
 obtain ⟨its,r,pl,hz⟩:=I.tuple hq
 obtain ⟨j,h1,h2,h3,h4,h5⟩:=mS he
 obtain ⟨w,ew,rw'⟩:=r.get h2
 have hl:=r.length
 have hn:=i6
 have fin:EP X pins σ Q w s:=⟨z,H,I,rw',q⟩
 exact subscriptTail_builtinR (x:=w) pl.typeIs slot_tuple_getitem.lookup
  (getItem_tuple (j:=j) (Q:=fun r s'=>r=w/\EP X pins σ Q r s') pl (by omega) (by omega) (by rw[MM,← hl];exact h1) (by simpa using ew) ⟨rfl,fin⟩) hs
theorem Dn:IxR X Kg:=by
 intro value slice pins s σ H x y v u Q I rx ry h hs
 obtain ⟨z,i,c,rfl,rfl,hz,he,q⟩:=h
 obtain ⟨t,rfl⟩:=rx
 obtain ⟨t',rfl⟩:=ry
 obtain ⟨j,h1,h2,h3,h4,h5⟩:=mS he
 have hl:z.cps.toList.length=z.length:=by simp[Str.length]
 rw[hl] at h1 h4 h5
 have hn:=i6
 exact tail_any (typeIs_str s z t) slot_str_getitem.lookup (getItem_str (c:=c) (by
  have e1:decide (i < -(2 ^ 63:Int))=false:=decide_eq_false (by omega)
  have e2:decide (i ≥ 2 ^ 63)=false:=decide_eq_false (by omega)
  rw[e1,e2,Pi]) (by rw[h1];simpa using h2) ⟨.str ⟨#[c]⟩,H,I.tok _,⟨_,rfl⟩,q⟩) hs
theorem qk (its:List Value) (n j:Nat) (u:Value):PL (·.setIfInBounds j u) { cls:=.type "list",data:=.seq its.toArray n }={ cls:=.type "list",data:=.seq (its.set j u).toArray n }:=by
 simp[PL]
theorem Inv.lst {pins:List (MN×Obj)}{σ:St}{H:Hp}{s:MK}{p:MN}{xs:List V} (I:Inv X pins σ H s) (h:H p=some (.lst xs)) :
 ∃ (its:List Value) (n:Nat),ao xs its/\s.heap.get? p=some { cls:=.type "list",data:=.seq its.toArray n }/\xs.length<=sizeLine:=by
 obtain ⟨z,its,n,r,e⟩:=I.hok p _ h
 exact ⟨its,n,r,e,z⟩
theorem Inv.Do {pins:List (MN×Obj)}{σ:St}{H:Hp}{s:MK}{p:MN}{xs ys:List V}{its its':List Value}{n n':Nat}{f:Obj->Obj} (I:Inv X pins σ H s) (h:H p=some (.lst xs))
 (ho:s.heap.get? p=some { cls:=.type "list",data:=.seq its.toArray n }) (hf:f { cls:=.type "list",data:=.seq its.toArray n }={ cls:=.type "list",data:=.seq its'.toArray n' }) (r:ao ys its') (hz:ys.length<=sizeLine) (t:Nat) :
 Inv X pins σ (upd H p (.lst ys)) { s with heap:=s.heap.update p f,toks:=t }:=by
 have e:(s.heap.update p f).get? p=some { cls:=.type "list",data:=.seq its'.toArray n' }:=by
  rw[Heap.get?_update_self f ho (by rw[hf]<;>rfl),hf]
 refine I.write (x:=p) (e:=p) (by rw[h];trivial) (.inl rfl) (fun b u hb q=>(Rc _ _ (Ne.symm hb)).trans q) ⟨_,e⟩ ?_
 exact ⟨hz,its',n',r,e⟩
noncomputable def B9:V->V->V->Hp->(Hp->Prop)->Prop:=fun o i v H Q=>∃ p xs k j,o=.ref p/\i=.int k/\H p=some (.lst xs)/\ixN xs.length k=some j/\Q (upd H p (.lst (xs.set j v)))
theorem set_list:F9 X B9:=by
 intro pins s σ H o i v ov iv u Q I ro ri rv h
 obtain ⟨p,xs,k,j,rfl,rfl,hp,hj,q⟩:=h
 cases ro
 obtain ⟨t,rfl⟩:=ri
 obtain ⟨its,n,r,ho,hz⟩:=I.lst hp
 obtain ⟨h1,h2,h3,h4⟩:=rE hj
 have hl:=r.length
 have hn:=i6
 have I':Inv X pins σ (upd H p (.lst (xs.set j v))) { s with heap:=s.heap.update p (PL (·.setIfInBounds j u)) } :=
  I.Do hp ho (qk its n j u) (r.set rv j) (by rw[List.length_set];exact hz) s.toks
 by_cases h0:0<=k
 ·have hk:k.toNat=j:=by
   rw[seqIndex_of h0 h4] at h1
   exact MV h1
  exact PySem.W.ki_setAt ho h0 (by omega) (by rw[MM,← hl];exact h4) (by rw[hk];exact ⟨_,I',q⟩)
 ·have hk:(k+(its.toArray.size:Int)).toNat=j:=by
   rw[seqIndex_neg (by omega) h3] at h1
   rw[MM,← hl]
   exact MV h1
  exact PySem.W.ki_setBack ho (by omega) (by rw[MM,← hl];exact h3) (by omega) (by rw[hk];exact ⟨_,I',q⟩)
theorem mT (lo hi:Option Int) (n:Nat):(Ng lo hi none n).1=((HT.sIx n 0 lo:Nat):Int)/\(Ng lo hi none n).2.1=((HT.sIx n n hi:Nat):Int)/\(Ng lo hi none n).2.2=1:=by
 refine ⟨?_,?_,rfl⟩
 ·cases lo with
  | none=>simp[Ng,HT.sIx]
  | some i =>
   simp only[Ng,HT.sIx,R0,show (1:Int) > 0 by decide,if_true]
   by_cases h:i < 0
   ·simp only[h,if_true]<;>omega
   ·simp only[h,if_false]<;>omega
 ·cases hi with
  | none=>simp[Ng,HT.sIx]
  | some i =>
   simp only[Ng,HT.sIx,R0,show (1:Int) > 0 by decide,if_true]
   by_cases h:i < 0
   ·simp only[h,if_true]<;>omega
   ·simp only[h,if_false]<;>omega
theorem kX (its:List Value) (lo hi:Option Int):slicePick its.toArray lo hi none=((its.drop (HT.sIx its.length 0 lo)).take (HT.sIx its.length its.length hi - HT.sIx its.length 0 lo)).toArray:=by
 obtain ⟨h1,h2,h3⟩:=mT lo hi its.toArray.size
 unfold slicePick
 rw[h1,h2,h3]
 simp only[sliceRange_one,pick_run,MM]<;>rfl
noncomputable def Kl (K:MI):V->Option Int->Option Int->Hp->VK->Prop:=fun x lo hi H Q=>∃ a xs,x=.ref a/\SqL K H a xs/\∀ p,H p=none->Q (.ref p) (upd H p (.lst (oJ xs lo hi)))
theorem zX:SlR X (Kl X.K):=by
 intro pins s σ H x v vl vu lo hi sl Q I rx hs pl pu h
 obtain ⟨a,xs,rfl,hx,q⟩:=h
 cases rx
 obtain ⟨its,r,ht,hz⟩:=I.list hx
 have hlen:=r.length
 refine ⟨"list",_,slot_list_getitem.lookup,ht.isList.typeIs,?_⟩
 refine Rz ht.isList hs pl pu .none (by simp) ?_ (by rw[MM]<;>omega)
 rw[kX,← hlen]
 refine ⟨.ref s.heap.objs.size,_,I.laid (t':=s.toks) (o:=.lst (oJ xs lo hi)) (fun b ob q=>MQ _ q) (MR _) ?_,rfl,q _ (I.hok.fresh (MR _))⟩
 exact ⟨Nq (jn xs lo hi) hz,_,0,(r.drop (HT.sIx xs.length 0 lo)).take (HT.sIx xs.length xs.length hi - HT.sIx xs.length 0 lo),Nk _ rfl⟩
theorem iB:cA X (.builtin "len") (fun xs H Q=>∃ p ys,xs=[.ref p]/\(SqL X.K H p ys\/SqT X.K H p ys)/\Q (.int ys.length) H):=by
 intro pins s σ H xs us Q I r h
 obtain ⟨p,ys,rfl,hq,q⟩:=h
 obtain ⟨u,rfl,rx⟩:=vals1 r
 cases rx
 have hn:=i6
 rcases hq with hq | hq
 ·obtain ⟨its,r',pl,hz⟩:=I.list hq
  have hlen:=r'.length
  exact Calls.call_len_list pl.isList (by simp only[MM]<;>omega) ⟨.int ys.length,H,I.tok _,⟨s.toks+1,by rw[MM,hlen]⟩,q⟩
 ·obtain ⟨its,r',pl,hz⟩:=I.tuple hq
  have hlen:=r'.length
  exact len_tuple pl (by simp only[MM]<;>omega) ⟨.int ys.length,H,I.tok _,⟨s.toks+1,by rw[MM,hlen]⟩,q⟩
theorem mU:cA X (.builtin "len") (fun xs H Q=>∃ z,xs=[.str z]/\z.length<=sizeLine/\Q (.int z.length) H):=by
 intro pins s σ H xs us Q I r h
 obtain ⟨z,rfl,hz,q⟩:=h
 obtain ⟨u,rfl,t,rfl⟩:=vals1 r
 have hn:=i6
 exact len_str (by omega) ⟨.int z.length,H,I.tok _,⟨_,rfl⟩,q⟩
theorem iC:cA X (.type "list") (fun xs H Q=>∃ p ys,xs=[.ref p]/\(SqL X.K H p ys\/SqT X.K H p ys)/\∀ l,H l=none->Q (.ref l) (upd H l (.lst ys))):=by
 intro pins s σ H xs us Q I r h
 obtain ⟨p,ys,rfl,hq,q⟩:=h
 obtain ⟨u,rfl,rx⟩:=vals1 r
 cases rx
 have fin:∀ (its:List Value),ao ys its->ys.length<=sizeLine->∀ (h':Heap) (c':Nat),(∀ b o',s.heap.get? b=some o'->h'.get? b=some o') →
  h'.get? s.heap.objs.size=some { cls:=.type "list",dict:=none,data:=.seq its.toArray c',slots:=#[] }->EP X pins σ Q (.ref s.heap.objs.size) { s with heap:=h' }:=fun its r' hz h' c' kp e =>
  ⟨.ref s.heap.objs.size,_,I.laid (t':=s.toks) kp (MR _) (show dH X.prog X.w _ h' _ (.lst ys) from ⟨hz,its,c',r',e⟩),rfl,q _ (I.hok.fresh (MR _))⟩
 rcases hq with hq | hq
 ·obtain ⟨its,r',pl,hz⟩:=I.list hq
  have hlen:=r'.length
  obtain ⟨o,ho,hc,n,hd⟩:=pl.isList
  exact call_list_seq p (.inl rfl) ho hc hd (fun h' c' kp e=>fin its r' hz h' c' kp e) (by simp only[MM]<;>omega)
 ·obtain ⟨its,r',pl,hz⟩:=I.tuple hq
  have hlen:=r'.length
  obtain ⟨o,ho,hc,n,hd⟩:=pl
  exact call_list_seq p (.inr rfl) ho hc hd (fun h' c' kp e=>fin its r' hz h' c' kp e) (by simp only[MM]<;>omega)
theorem gG:cA X (.type "tuple") (fun xs H Q=>∃ p ys,xs=[.ref p]/\((SqL X.K H p ys/\∀ l,H l=none->Q (.ref l) (upd H l (.tup ys)))\/(SqT X.K H p ys/\Q (.ref p) H))):=by
 intro pins s σ H xs us Q I r h
 obtain ⟨p,ys,rfl,h⟩:=h
 obtain ⟨u,rfl,rx⟩:=vals1 r
 cases rx
 rcases h with ⟨hq,q⟩ | ⟨hq,q⟩
 ·obtain ⟨its,r',pl,hz⟩:=I.list hq
  have hlen:=r'.length
  refine call_tuple_list pl.isList (fun h' kp=>?_) (by simp only[MM]<;>omega)
  have I1:Inv X pins σ H { s with heap:=h' }:=I.kept (t':=s.toks) kp
  have I2:Inv X pins σ (upd H h'.objs.size (.tup ys)) { s with heap:=h'.push { cls:=.type "tuple",data:=.seq its.toArray } } :=
   I1.laid (t':=s.toks) (fun b o e=>MQ _ e) (MR _) (show dH X.prog X.w _ _ _ (.tup ys) from ⟨hz,its,r',IsTup.new _ _⟩)
  exact ⟨.ref h'.objs.size,_,I2,rfl,q _ (I1.hok.fresh (MR _))⟩
 ·obtain ⟨its,r',pl,hz⟩:=I.tuple hq
  exact call_tuple_same pl ⟨.ref p,H,I,rfl,q⟩
noncomputable def tyV (K:MI) (T:String) (x:V) (H:Hp):Prop:=match x with
 | .str _=>T="str"
 | .int _=>T="int"
 | .ref p=>(T="list"/\∃ xs,SqL K H p xs)\/(T="tuple"/\∃ o,K.lookup p=some o/\o.cls=.type "tuple"/\o.dict=none) ∨
  (T="dict"/\((∃ kvs,H p=some (.dK kvs))\/∃ kvs,H p=some (.dT kvs)))\/(T="set"/\∃ S n,H p=some (.set S n))
 | _=>False
theorem vR {pins:List (MN×Obj)}{σ:St}{H:Hp}{s:MK}{T:String}{x:V}{v:Value} (I:Inv X pins σ H s) (r:RelV x v) (ty:tyV X.K T x H) :
 s.TypeIs v T/\∀ a,v=.ref a->∃ ob,s.heap.get? a=some ob/\ob.dict=none:=by
 cases x with
 | str z =>
  obtain ⟨t,rfl⟩:=r
  cases (show T="str" from ty)
  exact ⟨typeIs_str s z t,fun _ e=>nomatch e⟩
 | int i =>
  obtain ⟨t,rfl⟩:=r
  cases (show T="int" from ty)
  exact ⟨typeIs_int s i t,fun _ e=>nomatch e⟩
 | ref p =>
  cases r
  rcases ty with ⟨rfl,xs,hq⟩ | ⟨rfl,o,hk,hc,hd⟩ | ⟨rfl,hk⟩ | ⟨rfl,S,n,hk⟩
  ·obtain ⟨its,_,pl,_⟩:=I.list hq
   refine ⟨pl.isList.typeIs,fun a e=>?_⟩
   cases e
   obtain ⟨o,n,e,c,hd,_⟩:=pl
   exact ⟨o,e,hd⟩
  ·refine ⟨⟨o,I.kIn p o hk,hc⟩,fun a e=>?_⟩
   cases e
   exact ⟨o,I.kIn _ o hk,hd⟩
  ·have z:∃ o,s.heap.get? p=some o/\o.ExactDict:=by
    rcases hk with ⟨kvs,hk⟩ | ⟨kvs,hk⟩
    ·obtain ⟨_,_,_,_,o,_,_,e,ex,_⟩:=I.hok p _ hk
     exact ⟨o,e,ex⟩
    ·obtain ⟨_,_,_,_,o,_,_,e,ex,_⟩:=I.hok p _ hk
     exact ⟨o,e,ex⟩
   obtain ⟨o,e,ex⟩:=z
   refine ⟨⟨o,e,ex.1⟩,fun a e2=>?_⟩
   cases e2
   exact ⟨o,e,ex.2.1⟩
  ·obtain ⟨o,_,_,_,e,ex,_⟩:=I.hok p _ hk
   refine ⟨⟨o,e,ex.1⟩,fun a e2=>?_⟩
   cases e2
   exact ⟨o,e,ex.2.1⟩
 | _=>exact Nu ty
noncomputable def Km (K:MI) (T:String) (r:V->List V->Hp->VK->Prop) (to:TE):TE:=fun σ H Q=>to σ H fun x H1=>tyV K T x H1/\r x [] H1 Q
noncomputable def tBM (K:MI) (T:String) (r:V->List V->Hp->VK->Prop) (to:TE) (t:TA):TE:=fun σ H Q=>to σ H fun x H1=>tyV K T x H1/\t σ H1 fun xs H2=>r x xs H2 Q
variable {o e:OS}{es:List OS}{to:TE}{t:TA}{name:Str}{apos cpos:Pos}{T id:String}{r:V->List V->Hp->VK->Prop}
theorem Dp (pa:PlainAttrs T) (slot:Slot T name id) (hty:typeOf (.builtin id)=pure (.type "method_descriptor")) (hm:MtR X id r) (ho:PE X o to)
 (hbase:Py o name X.env (eval o X.env)=eval o X.env:=by rfl) (hline:(apos.endLine==cpos.line)=true:=by rfl):PE X (.Call (.Attribute o name apos) [] [] cpos) (Km X.K T r to):=by
 intro pins s σ H Q I h
 refine wpAny_Call_method0_late hbase hline (thn (ho pins s σ H _ I h) fun v s1 zq=>?_)
 obtain ⟨x,H1,I1,r1,ty,q1⟩:=zq
 obtain ⟨h1,h2⟩:=vR I1 r1 ty
 exact ⟨T,id,pa,slot,hty,h1,h2,Q0 rfl (PySem.evalArgs_none (hm pins s1 σ H1 x [] v [] Q I1 r1 .nil q1))⟩
theorem Ca (pa:PlainAttrs T) (slot:Slot T name id) (hty:typeOf (.builtin id)=pure (.type "method_descriptor")) (hm:MtR X id r) (ho:PE X o to) (ha:PA X (e :: es) t)
 (hbase:Py o name X.env (eval o X.env)=eval o X.env:=by rfl)
 (hfew:((OC cpos (Nd (e :: es) X.env)).all (fun x=>!x.1)&&(P9 cpos (OO [] X.env)).all (fun x=>x.1.isSome)
 &&decide ((e :: es).length+([]:List Qn).length+(if ([]:List Qn).isEmpty then 0 else 1) < 30))=true:=by rfl)
 (hline:(apos.endLine==cpos.line)=true:=by rfl) (hs:Nd (e :: es) X.env=(false,eval e X.env) :: Nd es X.env:=by rfl) (hplain:(OC cpos (Nd es X.env)).any (·.1)=false:=by rfl) :
 PE X (.Call (.Attribute o name apos) (e :: es) [] cpos) (tBM X.K T r to t):=by
 intro pins s σ H Q I h
 refine wpAny_Call_method_late hbase hfew hline rfl (thn (ho pins s σ H _ I h) fun v s1 zq=>?_)
 obtain ⟨x,H1,I1,r1,ty,q1⟩:=zq
 obtain ⟨h1,h2⟩:=vR I1 r1 ty
 refine ⟨T,id,pa,slot,hty,h1,h2,?_⟩
 have hA:=ha cpos pins s1 σ H1 _ I1 q1
 rw[hs] at hA ⊢
 refine Q0 (by show (false||(OC cpos (Nd es X.env)).any (·.1))=false;rw[hplain]<;>rfl) (Rm ?_)
 exact thn hA fun us s2 ⟨vs,H2,I2,r2,q2⟩=>hm pins s2 σ H2 x vs v us Q I2 r1 r2 q2
/- xs.append(e),list.index on a module's tuple .. are MtR facts of 06m -/
end
end L2
namespace L2
open PySem PySem.Spec PyProof.Rows
noncomputable def MtM (X:Cx) (id:String) (r:V->List V->Hp->VK->Prop):Prop :=
 ∀ (pins:List (MN×Obj)) (s:MK) (σ:St) (H:Hp) (x:V) (xs:List V) (v:Value) (us:List Value) (Q:VK),Inv X pins σ H s->RelV x v->ao xs us->r x xs H Q →
  wpAny (M3 X.prog X.w) X.A (call (.builtin id) (v :: us)) (EP X pins σ Q) X.xe s
theorem ao.one {x:V}{us:List Value} (h:ao [x] us):∃ u,us=[u]/\RelV x u:=by
 cases h with | cons r t=>cases t;exact ⟨_,rfl,r⟩
theorem ao.two {x y:V}{us:List Value} (h:ao [x,y] us):∃ u v,us=[u,v]/\RelV x u/\RelV y v:=by
 cases h with | cons r t=>obtain ⟨v,rfl,q⟩:=ao.one t;exact ⟨_,v,rfl,r,q⟩
theorem ao.zero:∀ {us:List Value},ao [] us->us=[]
 | _,.nil=>rfl
theorem ao.dropLast {xs:List V}{us:List Value} (h:ao xs us):ao xs.dropLast us.dropLast:=by
 induction h with
 | nil=>exact .nil
 | cons r t ih =>
  cases t with
  | nil=>exact .nil
  | cons q t'=>exact .cons r ih
theorem ao.rep {xs:List V}{us:List Value} (h:ao xs us):∀ k:Nat,ao (MY k xs).flatten (MY k us).flatten
 | 0=>.nil
 | k+1=>by
  rw[NB,NB,N8,N8]
  exact ao.append h (ao.rep h k)
theorem qm {α:Type} (l:List α):l.eraseIdx (l.length - 1)=l.dropLast:=by
 induction l with
 | nil=>rfl
 | cons a r ih =>
  cases r with
  | nil=>rfl
  | cons b r =>
   have e:(a :: b :: r).length - 1=((b :: r).length - 1)+1:=by
    have h1:(a :: b :: r).length=r.length+2:=rfl
    have h2:(b :: r).length=r.length+1:=rfl
    omega
   rw[e,List.eraseIdx_cons_succ,ih]
   all_goals rfl
theorem foldl_rep (its:List Value):∀ (k:Nat) (acc:List Value),
 QV (fun x1 x2=>x1++x2) acc.toArray (MY k its.toArray)=(acc++(MY k its).flatten).toArray
 | 0,acc=>by simp
 | k+1,acc=>by
  have e:acc.toArray++its.toArray=(acc++its).toArray:=by simp
  have e2:(acc++its)++(MY k its).flatten=acc++(MY (k+1) its).flatten:=by
   rw[NB,N8,N9]
  rw[← e2,← foldl_rep its k (acc++its),← e,NB,List.foldl_cons]
section
variable {X:Cx}{pins:List (MN×Obj)}{σ:St}{H:Hp}{s:MK}{l b:MN}{xs ys zs:List V}
theorem Inv.zY {its its':List Value}{n:Nat}{f:Array Value->Array Value}{t':Nat} (I:Inv X pins σ H s) (hH:H l=some (.lst xs))
 (e:s.heap.get? l=some { cls:=.type "list",data:=.seq its.toArray n }) (hf:f its.toArray=its'.toArray) (hv:ao ys its') (hz:ys.length<=sizeLine) :
 Inv X pins σ (upd H l (.lst ys)) { s with heap:=s.heap.update l (PL f),toks:=t' }:=by
 have q:=PySem.IsL.update e f
 rw[hf] at q
 refine I.write (x:=l) (e:=l) (by rw[hH];exact trivial) (.inl rfl) (fun b' u hb hu=>(Rc s.heap (PL f) (Ne.symm hb)).trans hu) ⟨_,q⟩ ?_
 exact ⟨hz,its',_,hv,q⟩
theorem Inv.Gx {its:List Value}{t':Nat} (I:Inv X pins σ H s) (hv:ao ys its) (hz:ys.length<=sizeLine) :
 Inv X pins σ (upd H s.heap.objs.size (.lst ys)) { s with heap:=s.heap.push { cls:=.type "list",data:=.seq its.toArray },toks:=t' } :=
 I.laid (fun _ _ q=>MQ _ q) (MR _) ⟨hz,its,0,hv,Nk _ rfl⟩
theorem Inv.fresh (I:Inv X pins σ H s):H s.heap.objs.size=none:=I.hok.fresh (MR _)
theorem Inv.zZ (I:Inv X pins σ H s) (hH:H l=some (.lst xs)):xs.length<=sizeLine/\∃ (its:List Value) (n:Nat),ao xs its/\xs.length=its.length/\s.heap.get? l=some { cls:=.type "list",data:=.seq its.toArray n }:=by
 obtain ⟨z,its,n,r,e⟩:=I.hok l _ hH
 exact ⟨z,its,n,r,r.length,e⟩
theorem jU {n:Nat} (h:n<=sizeLine):NH n=false:=by
 unfold NH
 exact decide_eq_false (by omega)
end
section
variable {X:Cx}
noncomputable def z4:V->List V->Hp->VK->Prop:=fun x vs H Q=>∃ l xs y,x=.ref l/\vs=[y]/\H l=some (.lst xs)/\xs.length < sizeLine/\Q .non (upd H l (.lst (xs++[y])))
theorem ur:MtM X "list.append" z4:=by
 intro pins s σ H x vs v us Q I rx rv h
 obtain ⟨l,xs,y,rfl,rfl,hH,hz,q⟩:=h
 cases rx
 obtain ⟨u,rfl,ru⟩:=rv.one
 obtain ⟨z,its,n,r,hl,e⟩:=I.zZ hH
 refine Oq F.slot_list_append ⟨_,e,rfl⟩ F.entry_list_append (F.args_list_append_2 _ _) (PySem.list_append l its.toArray n u (by rw[MM];omega)) ⟨e,?_⟩
 refine ⟨.non,_,I.zY (its':=its++[u]) hH e (by simp) (r.append (.cons ru .nil)) ?_,rfl,q⟩
 rw[Nj,Pw]
 omega
noncomputable def Kn:V->List V->Hp->VK->Prop:=fun x vs H Q=>∃ l xs y,x=.ref l/\vs=[]/\H l=some (.lst xs)/\xs[xs.length - 1]?=some y/\Q y (upd H l (.lst xs.dropLast))
theorem Dq:MtM X "list.pop" Kn:=by
 intro pins s σ H x vs v us Q I rx rv h
 obtain ⟨l,xs,y,rfl,rfl,hH,hy,q⟩:=h
 cases rx
 have hus:=rv.zero
 subst hus
 obtain ⟨z,its,n,r,hl,e⟩:=I.zZ hH
 obtain ⟨u,hu,ru⟩:=r.get hy
 have hy':its.toArray[its.toArray.size - 1]?=some u:=by
  show its.toArray[its.length - 1]?=some u
  rw[← Re,← hl]
  exact hu
 refine Oq F.slot_list_pop ⟨_,e,rfl⟩ F.entry_list_pop (F.args_list_pop_1 _) (MeetsSeq.list_pop_last l its.toArray n u hy' (by rw[MM];omega)) ⟨e,?_⟩
 refine ⟨y,_,I.zY (its':=its.dropLast) hH e ?_ r.dropLast ?_,ru,q⟩
 ·show its.toArray.eraseIdxIfInBounds (its.toArray.size - 1)=its.dropLast.toArray
  rw[MM,List.eraseIdxIfInBounds_toArray,qm]
 ·rw[List.length_dropLast]
  omega
theorem len_rep {α:Type} (xs:List α) (k:Nat):(MY k xs).flatten.length=k*xs.length:=by
 induction k with
 | zero=>simp
 | succ k ih=>rw[NB,N8,Nj,ih,Nat.succ_mul,Nat.add_comm]
end
section
variable {prog:MP}{w:M7}{A:Nn}{E:Value->MK->Prop}{s:MK}
set_option maxRecDepth 100000 in
end
section
variable {X:Cx}
end
end L2
namespace Att
open PySem PySem.W PySem.Calls PyProof.Rows
theorem jv {P:Params}{h:Heap}:∀ (ns:List Int) (vs:List Value),WellAll P h vs (ns.map WData.int)->IntsAre vs ns:=by
 intro ns
 induction ns with
 | nil =>
  intro vs w
  rw[Oc] at w
  cases w
  exact .nil
 | cons n ns ih =>
  intro vs w
  rw[M9] at w
  cases w with
  | cons a b =>
   cases a
   exact .cons _ _ (ih _ b)
theorem uv {l:OpenLaw}{n:Nat} (hn:l.most=some n) {P:Params}{h:Heap}{args:List WData}{vals:List Value}
 (hpre:l.row.toRowW.claim.pre args=true) (hwl:WellAll P h vals args) :
 ∃ a vs ns,vals=[NK a]/\args=[WData.list (ns.map WData.int)]/\h.get? a=some { cls:=.type "list",data:=.seq vs.toArray }/\IntsAre vs ns/\ns.length<=n:=by
 have hsh:WShape.hasAll [] args [.list .int]=true:=(pre_splitW hpre).1
 have hc:l.pre.holds [] { args:=args }=true:=(pre_splitW hpre).2
 obtain ⟨d,r,rfl,h1,h2⟩:=hasAllW_cons hsh
 obtain rfl:=hasAllW_nil h2
 obtain ⟨xs,rfl,h3⟩:=hasW_list h1
 obtain ⟨ns,rfl⟩:=items_int h3
 have hlen:ns.length<=n:=by
  unfold OpenLaw.pre at hc
  have h4:(WTm.not (.lt (.lit (.int (n:Int))) (.len (.arg 0)))).holds [] { args:=[.list (ns.map .int)] }=true:=by
   have h4:=(holds_andW hc).1
   rw[hn] at h4
   exact h4
  have h5:=condW_of h4 (w_not (w_lt w_lit (w_len_list (w_arg rfl))))
  rw[NO] at h5
  refine Nat.le_of_not_lt fun q=>?_
  have q':(n:Int) < ((ns.length:Nat):Int):=by omega
  first
   | (rw[decide_eq_true q'] at h5;exact absurd h5 (by decide))
   | (simp at h5;omega)
 cases hwl with
 | cons w1 w2 =>
  cases w2
  cases w1 with
  | list ho hall=>exact ⟨_,_,ns,rfl,rfl,ho,jv ns _ hall,hlen⟩
theorem uw (l:OpenLaw) (args:List WData):l.row.toRowW.claim.post args (.bool true) args=true :=
 postW_of (r:=l.row.toRowW) (X:=(true==true))
  (show WShape.has [] (.bool true) .bool=true by first | rfl | decide | simp[WShape.has,WShape.arms,WShape.armsAll])
  (show (WTm.eq .res (.lit (.bool true))).value [] { args:=args,res:=some (.bool true),after:=args }=some (.bool (true==true)) from w_eq_bool (w_res rfl) w_lit) rfl
theorem oK {l:OpenLaw}{n:Nat}{q:MP}{loose:List Str}{XP:(Str->Option Value)->Heap->Prop}{YP:M7->Heap->Prop}{d:DefRec}
 (hn:l.most=some n) (hdf:d.params.defaults=[])
 (call:∀ (w:M7) (s₀ s₁:MK) (mg mb:Str->Option Value) (fa:MN) (o:Obj) (pm cd doc:Value) (a:MN) (vs:List Value) (ns:List Int),
  Ground q loose [] XP w s₀ mg mb s₁.heap->YP w s₁.heap →
  s₁.heap.get? fa=some o->o.data=.func (docDef d.name d.params d.body d.scope pm cd doc)->s₁.heap.CodeRec cd d.name->mg d.name=some (.ref fa) →
  s₁.heap.get? a=some { cls:=.type "list",data:=.seq vs.toArray }->IntsAre vs ns->ns.length<=n->s₁.gens=#[] →
  codeAny (M3 l.prog w) RV (.call (.ref fa) ⟨[.ref a],[]⟩) (fun r s'=>r=.ok (.ret (.bool true))/\OldK s₁.heap s'.heap/\s'.os=s₁.os/\Qo s'.gens) s₁) :
 WalkO q loose XP YP l.row.toRowW d [] (fun f vs=>RY f vs):=by
 intro w s₀ s₁ mg mb G Y fa o pm cd doc dV kV ho hd hcd hD hmg hg args vals as hpre hlay hrd hwl hlo
 obtain rfl:dV=.none:=Dflts.none hD hdf
 obtain rfl:kV=.none:=Dflts.noKw hD
 obtain ⟨a,vs,ns,rfl,rfl,hobj,hints,hlen⟩:=uv hn hpre hwl
 refine enter_call (P4 (call w s₀ s₁ mg mb fa o pm cd doc a vs ns G Y ho (fd_plain hd) hcd hmg hobj hints hlen hg) fun r s' hq=>?_)
 obtain ⟨rfl,h2,h3,h4⟩:=hq
 exact ⟨.inl ⟨.bool true,.bool true,[],rfl,fun _=>rfl,.bool true,uw l _,fun _=>⟨List.Pairwise.nil,fun _ hm=>(nomatch hm)⟩⟩,h2,h3,h4⟩
section
variable {prog:MP}{w:M7}{A:Nn}{E:Value->MK->Prop}{s:MK}{K:Frag}
noncomputable def ledger (h:Heap) (L d:MN):List (MN×Obj):=(Nv h.objs.size).filterMap fun a=>if a=L\/a=d then none else (h.get? a).map fun o=>(a,o)
end
end Att
namespace L2
open PySem PySem.Spec PyProof.Rows
theorem lT:∀ {vs:List Value}{ns:List Int},IntsAre vs ns->ao (ns.map V.int) vs
 | _,_,.nil=>.nil
 | _,_,.cons n t h=>.cons ⟨t,rfl⟩ (lT h)
end L2
namespace L2
open PySem PySem.Spec PyProof.Rows
noncomputable abbrev KOf {K:MI}{h:Heap} (_:K.In h):MI:=K
end L2
/- THE LAST THEOREM (shape;LID,My.* are yours):
 My.Adr: a structure of the addresses that your layer names (classes,functions);My.Txt K t: a structure (Prop) of the equations over K;
 My.txt_mk:{K}{implicit addresses ..} (e1:nsIn K MX "law"=some (some (.ref f))) (e2:K.lookup f=some ⟨oc,od,.func (fnOf "law" "law" params body scope dV kV doc pm an cdv ct),sl⟩) (e3:codeIn K cdv "law"=true) ..:∃ t,My.Txt K t
set_option maxRecDepth 100000 in
set_option maxHeartbeats 0 in
theorem PySem.Challenge.z5:PySem.Challenge.rw_LID.Holds:=by
 w_on;o_law;k_head;(case hw=>w_witness2)
 k_fill
 refine L2.walk_of (l:=PySem.Challenge.rw_LID) (n:=63) (k:=40) (x:="script") (CX:=fun w=>..) (sp:=fun _=>My.yV) rfl (by decide) rfl ⟨rfl,by decide,by decide⟩ (fun w h Y=>PySem.W.kIn_of Y) ?F ?S ?C
 case F =>
  intro w mg fa h KX G hmg
  have T:∃ t,My.Txt (L2.KOf KX) t:=by
   dsimp only[L2.KOf]                          -- K must stand as «<heap const> w.params» for k_is
   refine' My.txt_mk ?e1 ?e2 ?e3 ..
   (case e1=>PySem.W.k_is)                    -- in the order: a name->its address->its object->its parts
   (case e2=>PySem.W.k_is)
   ..
  obtain ⟨t,T⟩:=T
  have e0:=hmg.symm.trans (NC KX G T.law)
  cases e0                                       -- fa is the law's own address
  exact ⟨_,fun s u=>.of_eq rfl,fun base kb nb=>My.law_fn T kb nb⟩     -- if «.of_eq rfl» comes too early: refine' ⟨_,?b,fun base kb nb=>My.law_fn T kb nb⟩;exact fun s u=>.of_eq rfl
 case S=>exact fun w H a ns hl hO hS=>..
 case C=>exact ..
(the tactic k_is has no namespace: write k_is) -/
namespace L2
open PySem PySem.Spec PyProof.Rows
noncomputable abbrev CX0:CXT:=fun _ _ _ _ _ _=>False
noncomputable abbrev E0:XK:=fun _ _ _=>False
theorem lU {X:Cx}:dN CX0 X E0:=fun _ _ _ _ _ _ _ h=>h.elim
structure Fun (K:MI) (x qual:Str) (st:Qp) (f:MN) (fd:Ny):Prop where
 ex:∃ (oc:Value) (od:Option MN) (kV doc pm:Value) (an:Option MN) (cdv ct:Value) (osl:Array (Option Value)),
  fd=NJ x qual (cD st) (aq st) (af st) .none kV doc pm an cdv ct/\K.lookup f=some ⟨oc,od,.func fd,osl⟩/\O2 K cdv qual=true
 kp:Nb K (.ref f)=true
section
variable {P:MP}{w:M7}{K:MI}{mg:Str->Option Value}{base:Heap}
theorem Fun.binds {x qual:Str}{st:Qp}{f:MN}{fd:Ny}{ps:List Str} (F:Fun K x qual st f fd)
 (h:∀ (kV doc pm:Value) (an:Option MN) (cdv ct:Value) (us:List Value),us.length=ps.length->QY (NJ x qual (cD st) (aq st) (af st) .none kV doc pm an cdv ct) ⟨us,[]⟩=pure (ps.zip us)):Binds K fd ps []:=by
 obtain ⟨oc,od,kV,doc,pm,an,cdv,ct,osl,rfl,lk,hcd⟩:=F.ex
 exact .all (h kV doc pm an cdv ct)
theorem Dr {x qual:Str}{st:Qp}{f:MN}{oc:Value}{od an:Option MN}{osl:Array (Option Value)}{kV doc pm cdv ct:Value} (l:K.lookup f=some ⟨oc,od,.func (NJ x qual (cD st) (aq st) (af st) .none kV doc pm an cdv ct),osl⟩)
 (c:O2 K cdv qual=true) (k:Nb K (.ref f)=true):Fun K x qual st f (NJ x qual (cD st) (aq st) (af st) .none kV doc pm an cdv ct):=⟨⟨oc,od,kV,doc,pm,an,cdv,ct,osl,rfl,l,c⟩,k⟩
end
theorem ux {n:Nat} (h:n<=1000):n < sizeLine:=Nat.lt_of_le_of_lt h (by decide)
section
variable {X:Cx}
end
end L2
end
section
namespace L2
open PySem PySem.Spec PyProof.Rows
section
variable {κ:Type} [DecidableEq κ]
noncomputable def putK (kvs:List (κ×V)) (k:κ) (v:V):List (κ×V) :=
 if (kvs.any fun kv=>decide (kv.1=k))=true then kvs.map (fun kv=>if kv.1=k then (kv.1,v) else kv) else kvs++[(k,v)]
end
section
variable {P:MP}{w:M7}{H:Hp}{h:Heap}{a:MN}
end
section
variable {X:Cx}{pins:List (MN×Obj)}{σ:St}{H:Hp}{s:MK}{a:MN}{y v:V}{u r:Value}{o:Option V}{A:Nn}{E:Value->MK->Prop}
end
end L2
end
section
namespace BT
open PySem PySem.W PyProof.Rows
noncomputable def Gy {α:Type} (lt:Nat->Nat->Bool):KasT α->α
 | .ret a=>a
 | .ask i j k=>Gy lt (k (lt i j))
noncomputable def Ends {α:Type} (n:Nat) (P:α->Prop):KasT α->Prop
 | .ret a=>P a
 | .ask i j k=>i < n/\j < n/\∀ b,Ends n P (k b)
noncomputable def ltP (ps:List (Int×Int)) (i j:Nat):Bool :=
 if (ps.getD i (0,0)).1=(ps.getD j (0,0)).1 then decide ((ps.getD i (0,0)).2 < (ps.getD j (0,0)).2) else decide ((ps.getD i (0,0)).1 < (ps.getD j (0,0)).1)
noncomputable def Ko (ps:List (Int×Int)):List Nat:=(Gy (ltP ps) (kas_sort ps.length)).toList
end BT
end
section
namespace BS
open PySem PySem.W PySem.Spec PyProof.Rows
section
variable {prog:MP}{w:M7}{A:Nn}{E:Value->MK->Prop}{s:MK}
end
end BS
end
section
namespace BX
open PySem PyProof.Rows
noncomputable def Ri (xs:Array Nat):Prop:=∀ i j a b:Nat,i < j->xs[i]?=some a->xs[j]?=some b->a < b
theorem vS {xs:Array Nat} (h:Ri xs) (j:Nat):∀ (fuel lo hi:Nat),lo<=hi->hi<=xs.size->hi - lo<=fuel->(∀ i a,i < lo->xs[i]?=some a->a < j)->(∀ i a,hi<=i->xs[i]?=some a->j<=a) →
 (∀ i a,i < SetTable.below.go xs j fuel lo hi->xs[i]?=some a->a < j)/\(∀ i a,SetTable.below.go xs j fuel lo hi<=i->xs[i]?=some a->j<=a)/\SetTable.below.go xs j fuel lo hi<=xs.size:=by
 intro fuel
 induction fuel with
 | zero =>
  intro lo hi h1 h2 h3 h4 h5
  have:lo=hi:=by omega
  subst this
  exact ⟨h4,h5,h2⟩
 | succ fuel ih =>
  intro lo hi h1 h2 h3 h4 h5
  by_cases c:lo < hi
  ·have hm:(lo+hi) / 2 < xs.size:=by omega
   have em:xs[(lo+hi) / 2]?=some xs[(lo+hi) / 2]:=O5 hm
   have eg:xs.getD ((lo+hi) / 2) j=xs[(lo+hi) / 2]:=by simp[Array.getD,hm]
   have e:SetTable.below.go xs j (fuel+1) lo hi=if xs.getD ((lo+hi) / 2) j < j then SetTable.below.go xs j fuel ((lo+hi) / 2+1) hi else SetTable.below.go xs j fuel lo ((lo+hi) / 2):=by
    show (if lo < hi then _ else lo)=_
    rw[if_pos c]
   rw[e,eg]
   by_cases d:xs[(lo+hi) / 2] < j
   ·rw[if_pos d]
    refine ih _ _ (by omega) h2 (by omega) (fun i a hi' ea=>?_) h5
    rcases M4 i ((lo+hi) / 2) with z | z
    ·have:=h i _ a _ z ea em;omega
    ·have:i=(lo+hi) / 2:=by omega
     subst this
     rw[em] at ea;cases ea;exact d
   ·rw[if_neg d]
    refine ih _ _ (by omega) (by omega) (by omega) h4 (fun i a hi' ea=>?_)
    rcases M4 ((lo+hi) / 2) i with z | z
    ·have:=h _ i _ a z em ea;omega
    ·have:i=(lo+hi) / 2:=by omega
     subst this
     rw[em] at ea;cases ea;omega
  ·have e:SetTable.below.go xs j (fuel+1) lo hi=lo:=by
    show (if lo < hi then _ else lo)=_
    rw[if_neg c]
   have:lo=hi:=by omega
   subst this
   rw[e]
   exact ⟨h4,h5,h2⟩
theorem qo {xs:Array Nat} (h:Ri xs) (j:Nat):(∀ i a,i < SetTable.below xs j->xs[i]?=some a->a < j)/\(∀ i a,SetTable.below xs j<=i->xs[i]?=some a->j<=a)/\SetTable.below xs j<=xs.size :=
 vS h j xs.size 0 xs.size (Od _) (MR _) (by omega) (fun i a z=>absurd z (QJ _)) (fun i a z e=>by
  have:xs[i]?=none:=Pn z
  rw[this] at e;cases e)
theorem iy {α:Type} (xs:Array α) {p:Nat} (hp:p<=xs.size) (x:α) (i:Nat):(SetTable.insertAt xs p x)[i]?=if i < p then xs[i]? else if i=p then some x else xs[i - 1]?:=by
 unfold SetTable.insertAt
 have s1:((xs.extract 0 p).push x).size=p+1:=by simp;omega
 by_cases c:i < p
 ·rw[if_pos c,QB (by omega),Rx,if_neg (by simp;omega),Q2]
  simp;omega
 ·rw[if_neg c]
  by_cases d:i=p
  ·subst d
   rw[if_pos rfl,QB (by omega),Rx,if_pos (by simp;omega)]
  ·rw[if_neg d,Array.getElem?_append_right (by omega),s1,Q2]
   simp
   split
   ·congr 1;omega
   ·rename_i z
    symm
    exact Pn (by omega)
theorem Ds {xs:Array Nat} (h:Ri xs) {j:Nat} (hn:xs[SetTable.below xs j]?≠some j):Ri (SetTable.insertAt xs (SetTable.below xs j) j):=by
 obtain ⟨b1,b2,b3⟩:=qo h j
 intro i k a b hik ea eb
 rw[iy xs b3] at ea eb
 generalize SetTable.below xs j=p at *
 have gt:∀ i a,p<=i->xs[i]?=some a->j < a:=fun i a hi e=>by
  have:=b2 i a hi e
  rcases M4 j a with z | z
  ·exact z
  ·have:a=j:=by omega
   subst this
   rcases M4 p i with q | q
   ·cases ep:xs[p]? with
    | none =>
     have:xs.size<=p:=by
      rcases M4 p xs.size with w | w
      ·rw[O5 w] at ep;cases ep
      ·exact w
     rw[Pn (by omega)] at e;cases e
    | some y =>
     have h1:=h p i y a q ep e
     have h2:=b2 p y (MR _) ep
     omega
   ·have:i=p:=by omega
    subst this
    exact absurd e hn
 by_cases c1:k < p
 ·rw[if_pos c1] at eb
  rw[if_pos (by omega)] at ea
  exact h i k a b hik ea eb
 ·rw[if_neg c1] at eb
  by_cases c2:k=p
  ·rw[if_pos c2] at eb
   cases eb
   rw[if_pos (by omega)] at ea
   exact b1 i a (by omega) ea
  ·rw[if_neg c2] at eb
   have hb:=gt (k - 1) b (by omega) eb
   by_cases d1:i < p
   ·rw[if_pos d1] at ea
    have:=b1 i a d1 ea
    omega
   ·rw[if_neg d1] at ea
    by_cases d2:i=p
    ·rw[if_pos d2] at ea;cases ea;exact hb
    ·rw[if_neg d2] at ea
     exact h (i - 1) (k - 1) a b (by omega) ea eb
theorem vU (n:Nat):Ri (Array.range n):=by
 intro i j a b hij ea eb
 rw[Array.getElem?_range] at ea eb
 split at ea
 ·split at eb
  ·cases ea;cases eb;exact hij
  ·cases eb
 ·cases ea
theorem z6 {l:List Nat} (h:l.Pairwise (· < ·)):Ri l.toArray:=by
 intro i j a b hij ea eb
 simp only[List.getElem?_toArray] at ea eb
 obtain ⟨hi,rfl⟩:=List.getElem?_eq_some_iff.mp ea
 obtain ⟨hj,rfl⟩:=List.getElem?_eq_some_iff.mp eb
 exact List.pairwise_iff_getElem.mp h i j hi hj hij
structure Tb (bt:Bool) (t:SetTable):Prop where
 led:t.led=!bt
 ri:Ri t.place
theorem iE {bt:Bool}{t:SetTable} (h:Tb bt t) (n:Nat):Tb bt (SetTable.standIn t n):=⟨h.led,vU n⟩
noncomputable def Fre (t:SetTable) (j:Nat):Prop:=t.place[SetTable.below t.place j]?≠some j
theorem oM {t:SetTable}{j:Nat} (h:t.slot j=.empty\/t.slot j=.dummy):Fre t j:=by
 intro z
 have e:t.slot j=.live (SetTable.below t.place j):=by
  unfold SetTable.slot
  simp[z]
 rw[e] at h
 rcases h with h | h<;>cases h
theorem vV (t:SetTable) (g:Nat->Int) (h:Int):∀ (fuel:Nat) (p:SetTable.Probe) (j:Nat) (d:Option Nat),(∀ x,p.dummy=some x->Fre t x)->SetTable.probe.go t g h fuel p=some (.empty j d)->Fre t j/\∀ x,d=some x->Fre t x:=by
 intro fuel
 induction fuel with
 | zero=>intro p j d _ e;cases e
 | succ fuel ih =>
  intro p j d hp e
  have e':SetTable.probe.go t g h (fuel+1) p=(match t.slot p.j with
   | .empty=>some (.empty p.j p.dummy)
   | .dummy=>SetTable.probe.go t g h fuel (SetTable.advance t { p with dummy:=some p.j })
   | .live i=>if (g i==h)=true then some (.candidate p.j i (SetTable.advance t p)) else SetTable.probe.go t g h fuel (SetTable.advance t p)):=rfl
  rw[e'] at e
  have adv:∀ q:SetTable.Probe,(SetTable.advance t q).dummy=q.dummy:=fun q=>by
   unfold SetTable.advance
   split<;>rfl
  cases s:t.slot p.j with
  | empty =>
   rw[s] at e
   cases e
   exact ⟨oM (.inl s),hp⟩
  | dummy =>
   rw[s] at e
   exact ih _ j d (fun x hx=>by rw[adv] at hx;cases hx;exact oM (.inr s)) e
  | live i =>
   rw[s] at e
   simp only at e
   split at e
   ·cases e
   ·exact ih _ j d (fun x hx=>by rw[adv] at hx;exact hp x hx) e
theorem vW {t:SetTable}{h:Int}{j:Nat}{b:Bool} (e:SetTable.freeSlot t h=some (j,b)):Fre t j:=by
 unfold SetTable.freeSlot at e
 split at e
 ·rename_i j' d hp
  cases e
  obtain ⟨h1,h2⟩:=vV t _ h _ _ j' d (fun x hx=>by simp[SetTable.probeStart] at hx) hp
  cases d with
  | none=>exact h1
  | some x=>exact h2 x rfl
 ·cases e
theorem Dt {bt:Bool}{t:SetTable} (h:Tb bt t) (es:Array (Int×Value)) (k:Int) (x:Value):Tb bt (layNew t es k x).2.1:=by
 unfold layNew
 split
 ·rename_i slot wd e
  have hf:=vW e
  have hp:Tb bt (SetTable.put t slot).1:=⟨h.led,Ds h.ri hf⟩
  simp only
  show Tb bt (SetTable.orStandIn _ _)
  unfold SetTable.orStandIn
  split
  ·exact hp
  ·exact iE hp _
 ·exact iE h _
theorem vX {bt:Bool}{t:SetTable} (h:Tb bt t) (es:Array (Int×Value)) (n:Nat):Tb bt (relayAll t es n).2.1:=by
 unfold relayAll
 split
 ·rename_i t' order e
  have ht:Tb bt t':=by
   unfold SetTable.relaid SetTable.laid at e
   cases g:SetTable.layClean (SetTable.sizeAbove n - 1) (es.map fun x=>x.1) with
   | none=>rw[g] at e;cases e
   | some owner =>
    rw[g] at e
    cases e
    refine ⟨h.led,z6 ?_⟩
    rw[List.pairwise_map]
    refine List.Pairwise.filterMap _ (fun a b hab x hx y hy=>?_) List.pairwise_lt_range
    obtain ⟨_,_,rfl⟩:=Option.map_eq_some_iff.mp hx
    obtain ⟨_,_,rfl⟩:=Option.map_eq_some_iff.mp hy
    exact hab
  simp only
  split
  ·exact ht
  ·exact iE h _
 ·exact iE h _
section
variable {prog:MP}{w:M7}{A:Nn}{E:Value->MK->Prop}{s:MK}
noncomputable def Gz (prog:MP) (w:M7) (bt:Bool) (h:Heap) (a:MN) (S:Int->Bool) (n:Nat):Prop :=
 ∃ o es ep t,h.get? a=some o/\o.ExactSet/\o.data=.set es ep t/\ElemsOf (intKind prog w) es.toList/\(∀ k,S k=true↔∃ e∈es.toList,(intKind prog w).is k e.2=true)/\es.size < scanBound/\t.fits es.size=true/\es.size=n/\Tb bt t
theorem Mz {g:Bool->Sem Unit} (hg:∀ (b:Bool) (s₁:MK) (Q:Unit->MK->Prop),Q () s₁->wpAny (M3 prog w) A (g b) Q E s₁) {b:Bool}{α:Type}{f:Unit->Sem α}{Q:α->MK->Prop} (h:wpAny (M3 prog w) A (f ()) Q E s):wpAny (M3 prog w) A (g b >>= f) Q E s :=
 wpAny_bind (hg b s _ h)
theorem add_int {bt:Bool}{a:MN}{S:Int->Bool}{n:Nat}{k:Int}{tk:Tok}{Q:Bool->MK->Prop} (hs:Gz prog w bt s.heap a S n) (hn:n+1 < scanBound)
 (hQ:∀ b h',Ow a s.heap h'->Gz prog w bt h' a (fun k'=>S k'||decide (k'=k)) (if S k=true then n else n+1)->Q b { s with heap:=h' }) :
 wpAny (M3 prog w) A (setAddHashed a (.int k tk) ((intKind prog w).hash k)) Q E s:=by
 obtain ⟨o,es,ep,t,ho,hx,hd,he,hm,hb,hf,rfl,ht⟩:=hs
 have ik:=intKind_is prog w k tk
 unfold setAddHashed
 refine Oo ?_
 rw[setAddHashedIn.eq_def]
 show wpAny _ _ (setState a >>= _) _ _ s
 refine wpAny_bind (wpAny_setState_of ho hd hf ?_)
 simp only
 rw[if_pos (byScan_of (knd:=intKind prog w) rfl hb he)]
 refine wpAny_bind ?_
 unfold setAddByScan
 refine wpAny_bind (Ry ?_)
 refine wpAny_bind ?_
 show wpAny _ _ (setScanFrom a (.int k tk) ((intKind prog w).hash k) true es.toList 0) _ _ s
 refine wpAny_setScanFrom_of (knd:=intKind prog w) ik ho hd hf es.toList 0 he ?_
 cases g:es.toList.findIdx? fun e=>(intKind prog w).is k e.2 with
 | some j =>
  have hk:S k=true:=by
   obtain ⟨hj,h1,_⟩:=List.findIdx?_eq_some_iff_getElem.mp g
   exact (hm k).mpr ⟨_,OM hj,h1⟩
  refine wpAny_pure (wpAny_pure (hQ _ _ (Heap.SameBut.refl _ _) ?_))
  rw[if_pos hk]
  refine ⟨o,es,ep,t,ho,hx,hd,he,fun k'=>?_,hb,hf,rfl,ht⟩
  rw[← hm k']
  by_cases c:k'=k
  ·subst c;simp[hk]
  ·simp[c]
 | none =>
  have hk:¬ S k=true:=fun z=>by
   obtain ⟨e,h1,h2⟩:=(hm k).mp z
   have:=List.findIdx?_eq_none_iff.mp g e h1
   rw[h2] at this;cases this
  rw[if_neg hk] at hQ
  have q1:=layNew_fits t es ((intKind prog w).hash k) (.int k tk)
  have q2:=layNew_perm t es ((intKind prog w).hash k) (.int k tk)
  have q3:=Dt ht es ((intKind prog w).hash k) (.int k tk)
  dsimp only
  generalize layNew t es ((intKind prog w).hash k) (.int k tk)=r at q1 q2 q3 ⊢
  obtain ⟨es1,t1,wd,gv⟩:=r
  simp only at q1 q2 q3 ⊢
  have q2':es1.toList.Perm (es.toList++[((intKind prog w).hash k,.int k tk)]):=by simpa using q2
  have sz:es1.size=es.size+1:=by
   have:=q2'.length_eq
   simpa using this
  have e1:=(he.push ik rfl).perm q2'
  have m1:=mem_push_iff ik hm q2'
  have z1:es1.size < scanBound:=by omega
  have fin:wpAny (M3 prog w) A (Qt a es1 t1 >>= fun _=>if (!wd&&t1.tooFull)=true then (match relayAll t1 es1 (SetTable.grown es1.size) with | (es2,t2,gv2)=>(match gv2 with | true=>rule "set.scan.the-table-gave-way" | false=>pure ()) >>= fun _=>Qt a es2 t2 >>= fun _=>pure (some true)) else pure (some true))
   (fun a_1 s'=>wpAny (M3 prog w) A (match a_1 with | some added=>pure added | none=>Ro a (.int k tk) ((intKind prog w).hash k) 99999) Q E s') E s:=by
   obtain ⟨ob,_⟩:=SetOf_store ho hx hd e1 m1 z1 q1
   refine wpAny_bind (wpAny_storeSet_of ho hd ?_ (by rw[sz];exact fits_of_scanBound hn))
   by_cases c:(!wd&&t1.tooFull)=true
   ·rw[if_pos c]
    have p1:=relayAll_fits t1 es1 (SetTable.grown es1.size)
    have p2:=relayAll_perm t1 es1 (SetTable.grown es1.size)
    have p3:=vX q3 es1 (SetTable.grown es1.size)
    generalize relayAll t1 es1 (SetTable.grown es1.size)=r at p1 p2 p3 ⊢
    obtain ⟨es2,t2,gv2⟩:=r
    simp only at p1 p2 p3 ⊢
    have sz2:es2.size=es.size+1:=by
     have:=p2.length_eq
     simp at this;omega
    have e2:=e1.perm p2
    have m2:∀ k',(S k'||decide (k'=k))=true↔∃ e∈es2.toList,(intKind prog w).is k' e.2=true:=fun k'=>(m1 k').trans ⟨fun ⟨e,h1,h2⟩=>⟨e,p2.mem_iff.mpr h1,h2⟩,fun ⟨e,h1,h2⟩=>⟨e,p2.mem_iff.mp h1,h2⟩⟩
    have nx:wpAny (M3 prog w) A (Qt a es2 t2 >>= fun _=>pure (some true)) (fun a_1 s'=>wpAny (M3 prog w) A (match a_1 with | some added=>pure added | none=>Ro a (.int k tk) ((intKind prog w).hash k) 99999) Q E s') E { s with heap:=s.heap.update a (Obj.putSet es1 t1) }:=by
     obtain ⟨ob2,_⟩:=SetOf_store (h:=s.heap.update a (Obj.putSet es1 t1)) ob ⟨hx.1,hx.2.1,hx.2.2⟩ rfl e2 m2 (by omega) p1
     refine wpAny_bind (wpAny_storeSet_of (s:={ s with heap:=s.heap.update a (Obj.putSet es1 t1) }) ob rfl ?_ (by rw[sz2];exact fits_of_scanBound hn))
     refine wpAny_pure (wpAny_pure (hQ true _ ((Ph ..).trans (Ph ..)) ?_))
     exact ⟨_,es2,_,t2,ob2,⟨hx.1,hx.2.1,hx.2.2⟩,rfl,e2,m2,by omega,p1,sz2,p3⟩
    refine wpAny_bind ?_
    cases gv2 with
    | true=>exact Ry nx
    | false=>exact wpAny_pure nx
   ·rw[if_neg c]
    refine wpAny_pure (wpAny_pure (hQ true _ (Ph ..) ?_))
    exact ⟨_,es1,_,t1,ob,⟨hx.1,hx.2.1,hx.2.2⟩,rfl,e1,m1,z1,q1,sz,q3⟩
  refine wpAny_bind ?_
  have nx:wpAny (M3 prog w) A (if t1.plain=true then hashByValue 8 (.int k tk) >>= fun bv=>Qt a es1 (if bv=true then t1 else { t1 with plain:=false }) >>= fun _=>if (!wd&&(if bv=true then t1 else { t1 with plain:=false }).tooFull)=true then (match relayAll (if bv=true then t1 else { t1 with plain:=false }) es1 (SetTable.grown es1.size) with | (es2,t2,gv2)=>(match gv2 with | true=>rule "set.scan.the-table-gave-way" | false=>pure ()) >>= fun _=>Qt a es2 t2 >>= fun _=>pure (some true)) else pure (some true) else
   (pure true >>= fun bv=>Qt a es1 (if bv=true then t1 else { t1 with plain:=false }) >>= fun _=>if (!wd&&(if bv=true then t1 else { t1 with plain:=false }).tooFull)=true then (match relayAll (if bv=true then t1 else { t1 with plain:=false }) es1 (SetTable.grown es1.size) with | (es2,t2,gv2)=>(match gv2 with | true=>rule "set.scan.the-table-gave-way" | false=>pure ()) >>= fun _=>Qt a es2 t2 >>= fun _=>pure (some true)) else pure (some true)))
   (fun a_1 s'=>wpAny (M3 prog w) A (match a_1 with | some added=>pure added | none=>Ro a (.int k tk) ((intKind prog w).hash k) 99999) Q E s') E s:=by
   by_cases c:t1.plain=true
   ·rw[if_pos c]
    refine wpAny_bind ?_
    rw[hashByValue.eq_def]
    exact wpAny_pure fin
   ·rw[if_neg c]
    exact wpAny_bind (wpAny_pure fin)
  cases gv with
  | true=>refine Ry ?_;exact nx
  | false=>refine wpAny_pure ?_;exact nx
end
section
variable {prog:MP}{w:M7}{A:Nn}{E:Value->MK->Prop}{R:Result->MK->Prop}
end
section
variable {prog:MP}{w:M7}{A:Nn}{E:Value->MK->Prop}{s:MK}
end
section
variable {prog:MP}{w:M7}{A:Nn}{E:Value->MK->Prop}{s:MK}
end
end BX
end
section
namespace BT
open PySem
inductive D where
 | non | bl (b:Bool) | int (i:Int) | str (x:Str) | tup (xs:List D) | lst (xs:List D)
inductive FK where
 | f (x:Str) | m (c x:Str) | l (i:Nat)
 deriving DecidableEq
instance:Coe String FK:=⟨fun s=>.f (MU s)⟩
inductive Cp where
 | p (d:D) | o (n:Nat)
inductive W where
 | p (d:D) | r (n:Nat) | k (kvs:List (Str×D)) | o (n:Nat) | c (f:FK) (cs:List Cp) | x (c:Str)
noncomputable def Cp.w:Cp->W
 | .p d=>.p d
 | .o n=>.o n
@[simp] theorem Cp.w_p (d:D):Cp.w (.p d)=.p d:=rfl
@[simp] theorem Cp.w_o (n:Nat):Cp.w (.o n)=.o n:=rfl
noncomputable def rG:W->Option Cp
 | .p d=>some (.p d)
 | .o n=>some (.o n)
 | .r _=>none
 | .k _=>none
 | .c _ _=>none
 | .x _=>none
@[simp] theorem IP (d:D):rG (.p d)=some (.p d):=rfl
@[simp] theorem IQ (n:Nat):rG (.o n)=some (.o n):=rfl
noncomputable abbrev Ky:=Int ⊕ Str
inductive Cl where
 | l (xs:List D) | o (c:Str) (fs:List (Str×W)) | d (kvs:List (Ky×D))
noncomputable abbrev HH:=List Cl
noncomputable abbrev Sl:=List (Option W)
set_option genInjectivity false in
inductive Bin where
 | add | sub | mul | mod | fdiv | pow
set_option genInjectivity false in
inductive Cm where
 | eq | ne | lt | le | gt | ge | isN | notN | mem | nmem
set_option genInjectivity false in
inductive Sr where
 | seq | rng1 | rng2 | rev | enu | zip2
inductive Bi where
 | len | abs | int | str | bool | list | tuple | all | any | isInt | isBool | isStr | isTuple | isList | min2 | max2
 | sum | sorted | max1 | lzip | nset | sset
set_option genInjectivity false in
inductive Me where
 | append | pop | extend | tindex | sindex | dget | count | lindex
set_option genInjectivity false in
mutual
inductive E where
 | var (i:Nat) (x:Str)
 | cst (d:D)
 | glo (x:Str)
 | bin (o:Bin) (a b:E)
 | neg (a:E)
 | not (a:E)
 | and (a b:E)
 | or (a b:E)
 | cmp (o:Cm) (a b:E)
 | chain (o o':Cm) (a b c:E)
 | ite (c a b:E)
 | tup (as:Es)
 | lst (mu:Bool) (as:Es)
 | idx (a i:E)
 | slc (a:E) (lo hi:Es)
 | rvs (a:E)
 | stp (mu:Bool) (k:Int) (a:E)
 | call (f:Str) (as:Es)
 | fld (a:E) (f:Str)
 | meth (o:E) (m:Str) (as:Es)
 | make (c:Str) (as:Es)
 | bi (b:Bi) (mu:Bool) (as:Es)
 | lsr (mu:Bool) (sr:Sr) (as:Es)
 | me (m:Me) (o:E) (as:Es)
 | comp (mu:Bool) (sr:Sr) (sa:Es) (tg:List Str) (fv:List (Nat×Str)) (cond:Es) (elt:E)
 | callv (i:Nat) (x:Str) (as:Es)
 | methL (o:E) (m:Str) (as:Es) (L:Nat) (fv:List (Nat×Str))
 | dnew
 | dgt (o k d:E)
 | dsi (o:E)
 | isx (c:Str) (a:E)
 | dli (o:E)
inductive Es where
 | nil
 | cons (a:E) (as:Es)
end
set_option genInjectivity false in
inductive S where
 | nil
 | seq (a b:S)
 | set (i:Nat) (x:Str) (e:E)
 | unp (xs:List (Nat×Str)) (e:E)
 | aug (i:Nat) (x:Str) (o:Bin) (e:E)
 | put (i:Nat) (x:Str) (k e:E)
 | putd (i:Nat) (x:Str) (k e:E)
 | setf (o:E) (f:Str) (e:E)
 | augf (o:E) (f:Str) (op:Bin) (e:E)
 | ex (e:E)
 | ret (e:E)
 | ife (c:E) (a b:S)
 | whl (c:E) (b:S)
 | for (tg:List (Nat×Str)) (sr:Sr) (sa:Es) (b:S)
 | brk | cnt
 | bad
set_option genInjectivity false in
structure Fn where
 ps:List Str
 ns:List Str
 body:S
noncomputable def bnd {α β:Type} (x:Option (α×HH)) (k:α->HH->Option β):Option β :=
 match x with | some (a,h)=>k a h | none=>none
@[simp] theorem iF {α β:Type} (a:α) (h:HH) (k:α->HH->Option β):bnd (some (a,h)) k=k a h:=rfl
@[simp] theorem GA {α β:Type} (k:α->HH->Option β):bnd none k=none:=rfl
@[simp] noncomputable def lim:Nat:=100000
mutual
@[simp] noncomputable def eqv:D->D->Bool
 | .non,.non=>true
 | .bl a,.bl b=>a==b
 | .bl a,.int j=>(if a then (1:Int) else 0)==j
 | .int i,.bl b=>i==(if b then (1:Int) else 0)
 | .int i,.int j=>i==j
 | .str x,.str y=>x==y
 | .tup xs,.tup ys=>kY xs ys
 | .lst xs,.lst ys=>kY xs ys
 | _,_=>false
@[simp] noncomputable def kY:List D->List D->Bool
 | [],[]=>true
 | x :: xs,y :: ys=>eqv x y&&kY xs ys
 | _,_=>false
end
noncomputable def mV:Cl->Option (List D)
 | .l xs=>some xs
 | .o _ _=>none
 | .d _=>none
noncomputable def oN:Cl->Option (Str×List (Str×W))
 | .l _=>none
 | .o c fs=>some (c,fs)
 | .d _=>none
noncomputable def Aa:Cl->Option (List (Ky×D))
 | .l _=>none
 | .o _ _=>none
 | .d kvs=>some kvs
@[simp] theorem Kp (kvs:List (Ky×D)):mV (.d kvs)=none:=rfl
@[simp] theorem Kq (kvs:List (Ky×D)):oN (.d kvs)=none:=rfl
@[simp] theorem Kr (kvs:List (Ky×D)):Aa (.d kvs)=some kvs:=rfl
@[simp] theorem Ks (xs:List D):Aa (.l xs)=none:=rfl
@[simp] theorem Ku (c:Str) (fs:List (Str×W)):Aa (.o c fs)=none:=rfl
@[simp] theorem Kv (xs:List D):mV (.l xs)=some xs:=rfl
@[simp] theorem Kw (c:Str) (fs:List (Str×W)):mV (.o c fs)=none:=rfl
@[simp] theorem Kx (xs:List D):oN (.l xs)=none:=rfl
@[simp] theorem Du (c:Str) (fs:List (Str×W)):oN (.o c fs)=some (c,fs):=rfl
noncomputable def lat (h:HH) (n:Nat):Option (List D):=(h[n]?).bind mV
noncomputable def oat (h:HH) (n:Nat):Option (Str×List (Str×W)):=(h[n]?).bind oN
noncomputable def dat (h:HH) (n:Nat):Option (List (Ky×D)):=(h[n]?).bind Aa
noncomputable def uy:D->Option Ky
 | .non=>none
 | .bl _=>none
 | .int i=>some (.inl i)
 | .str x=>some (.inr x)
 | .tup _=>none
 | .lst _=>none
@[simp] theorem GB (i:Int):uy (.int i)=some (.inl i):=rfl
@[simp] theorem GC (x:Str):uy (.str x)=some (.inr x):=rfl
noncomputable def Ab:Ky->D
 | .inl i=>.int i
 | .inr x=>.str x
@[simp] theorem Kz (i:Int):Ab (.inl i)=.int i:=rfl
@[simp] theorem KA (x:Str):Ab (.inr x)=.str x:=rfl
noncomputable def Cb (kvs:List (Ky×D)) (k:Ky):Option D:=(kvs.find? fun kv=>decide (kv.1=k)).map (·.2)
noncomputable def Cc (kvs:List (Ky×D)) (k:Ky) (v:D):List (Ky×D) :=
 if (kvs.any fun kv=>decide (kv.1=k))=true then kvs.map (fun kv=>if kv.1=k then (kv.1,v) else kv) else kvs++[(k,v)]
noncomputable def jV (kvs:List (Ky×D)):List D:=kvs.map fun q=>.tup [Ab q.1,q.2]
noncomputable def rd (w:W) (h:HH):Option D:=match w with
 | .p d=>some d
 | .r n=>(lat h n).map D.lst
 | .k _=>none
 | .o _=>none
 | .c _ _=>none
 | .x _=>none
@[simp] theorem MA (d:D) (h:HH):rd (.p d) h=some d:=rfl
noncomputable def big (i:Int):Bool:=decide (i.natAbs < 2 ^ 64)
noncomputable def rep (k:Nat) (xs:List D):List D:=(MY k xs).flatten
noncomputable def gR:Bin->D->D->Option D
 | .add,.int i,.int j=>some (.int (i+j))
 | .add,.str x,.str y=>if x.length+y.length<=lim then some (.str (x++y)) else none
 | .add,.tup xs,.tup ys=>if xs.length+ys.length<=lim then some (.tup (xs++ys)) else none
 | .add,.lst xs,.lst ys=>if xs.length+ys.length<=lim then some (.lst (xs++ys)) else none
 | .sub,.int i,.int j=>some (.int (i - j))
 | .mul,.int i,.int j=>if big i||big j then some (.int (i*j)) else none
 | .mul,.tup xs,.int k=>if 2<=k&&k<=1000&&!xs.isEmpty&&xs.length*k.toNat<=lim then some (.tup (rep k.toNat xs)) else none
 | .mul,.lst xs,.int k=>if -1000<=k&&k<=1000&&xs.length*k.toNat<=lim then some (.lst (rep k.toNat xs)) else none
 | .mod,.int i,.int j=>if 0 < j then some (.int (i % j)) else none
 | .fdiv,.int i,.int j=>if 0 < j&&j < 1073741824 then some (.int (i / j)) else none
 | .pow,.int i,.int j=>if 0<=j&&j<=100&&big i then some (.int (i ^ j.toNat)) else none
 | _,_,_=>none
noncomputable def jW:Bin->D->D->Option D
 | .add,.int i,.int j=>some (.int (i+j))
 | .sub,.int i,.int j=>some (.int (i - j))
 | .mul,.int i,.int j=>if big i||big j then some (.int (i*j)) else none
 | _,_,_=>none
@[simp] theorem GD (i j:Int):jW .add (.int i) (.int j)=some (.int (i+j)):=rfl
@[simp] theorem GE (i j:Int):jW .sub (.int i) (.int j)=some (.int (i - j)):=rfl
@[simp] theorem oO (i j:Int):jW .mul (.int i) (.int j)=if big i||big j then some (.int (i*j)) else none:=rfl
@[simp] noncomputable def place (n:Nat) (i:Int):Option Nat :=
 if 0<=i then (if i < n then some i.toNat else none) else if -(n:Int)<=i then some (i+n).toNat else none
@[simp] noncomputable def atP {α:Type} (xs:List α) (i:Int):Option α:=(place xs.length i).bind fun j=>xs[j]?
@[simp] noncomputable def cP (k:Str):List (Str×D)->Option D
 | []=>none
 | (x,d) :: r=>if k=x then some d else cP k r
noncomputable def aI:D->D->Option D
 | .tup xs,.int i=>atP xs i
 | .lst xs,.int i=>atP xs i
 | .str x,.int i=>if x.length<=lim then (atP x.cps.toList i).map fun c=>.str ⟨#[c]⟩ else none
 | _,_=>none
@[simp] noncomputable def clip (n d:Nat):Option Int->Nat
 | none=>d
 | some v=>if v < 0 then (v+(n:Int)).toNat else if v<=(n:Int) then v.toNat else n
@[simp] noncomputable def cut (xs:List D) (lo hi:Option Int):List D:=(xs.drop (clip xs.length 0 lo)).take (clip xs.length xs.length hi - clip xs.length 0 lo)
@[simp] noncomputable def mW:List D->Option (Option Int)
 | []=>some none
 | [.int i]=>some (some i)
 | _=>none
noncomputable def mX (x:D) (lo hi:Option Int):Option D:=match x with
 | .tup xs=>some (.tup (cut xs lo hi))
 | .lst xs=>some (.lst (cut xs lo hi))
 | _=>none
noncomputable def dok:Nat->D->Bool
 | _,.non=>true
 | _,.bl _=>true
 | _,.int _=>true
 | _,.str _=>true
 | 0,.tup _=>false
 | 0,.lst _=>false
 | n+1,.tup xs=>xs.all (dok n)
 | n+1,.lst xs=>xs.all (dok n)
@[simp] theorem IR (n:Nat):dok n .non=true:=by cases n<;>rfl
@[simp] theorem KB (n:Nat) (b:Bool):dok n (.bl b)=true:=by cases n<;>rfl
@[simp] theorem IS (n:Nat) (i:Int):dok n (.int i)=true:=by cases n<;>rfl
@[simp] theorem IT (n:Nat) (x:Str):dok n (.str x)=true:=by cases n<;>rfl
@[simp] theorem rH (n:Nat) (xs:List D):dok (n+1) (.tup xs)=xs.all (dok n):=rfl
@[simp] theorem rJ (n:Nat) (xs:List D):dok (n+1) (.lst xs)=xs.all (dok n):=rfl
noncomputable def aU (x y:D):Bool:=dok 100 x||dok 100 y
@[simp] theorem GF (x:D) (y:Str):aU x (.str y)=true:=by simp[aU]
@[simp] theorem GG (x:D) (y:Int):aU x (.int y)=true:=by simp[aU]
@[simp] theorem Fq (x:D) (y:Str):aU (.str y) x=true:=by simp[aU]
@[simp] theorem Ft (x:D) (y:Int):aU (.int y) x=true:=by simp[aU]
@[simp] theorem Fv (x:D):aU x (.tup [])=true:=by simp[aU,dok]
@[simp] theorem Fw (x:D):aU x (.lst [])=true:=by simp[aU,dok]
@[simp] theorem IU (x:D) (b:Bool):aU x (.bl b)=true:=by simp[aU]
theorem fJ {x y:D} (h:dok 100 y=true):aU x y=true:=by simp[aU,h]
noncomputable def fU:D->Bool
 | .non=>true
 | .bl _=>false
 | .int _=>false
 | .str _=>false
 | .tup _=>false
 | .lst _=>false
@[simp] theorem Fx:fU .non=true:=rfl
@[simp] theorem GH (z:Bool):fU (.bl z)=false:=rfl
@[simp] theorem Fy (z:Int):fU (.int z)=false:=rfl
@[simp] theorem Fz (z:Str):fU (.str z)=false:=rfl
@[simp] theorem FA (z:List D):fU (.tup z)=false:=rfl
@[simp] theorem FD (z:List D):fU (.lst z)=false:=rfl
noncomputable def dP:Cm->D->D->Option Bool
 | .eq,x,y=>if aU x y then some (eqv x y) else none
 | .ne,x,y=>if aU x y then some (!eqv x y) else none
 | .lt,.int i,.int j=>some (decide (i < j))
 | .le,.int i,.int j=>some (decide (i<=j))
 | .gt,.int i,.int j=>some (decide (j < i))
 | .ge,.int i,.int j=>some (decide (j<=i))
 | .isN,x,.non=>some (fU x)
 | .notN,x,.non=>some (!fU x)
 | .mem,x,.tup ys=>if ys.all fun y=>aU y x then some (ys.any fun y=>eqv y x) else none
 | .mem,x,.lst ys=>if ys.all fun y=>aU y x then some (ys.any fun y=>eqv y x) else none
 | .nmem,x,.tup ys=>if ys.all fun y=>aU y x then some (!ys.any fun y=>eqv y x) else none
 | .nmem,x,.lst ys=>if ys.all fun y=>aU y x then some (!ys.any fun y=>eqv y x) else none
 | _,_,_=>none
@[simp] noncomputable def intsOf:List D->Option (List Int)
 | []=>some []
 | .int i :: r=>(intsOf r).map (i :: ·)
 | _=>none
@[simp] noncomputable def allB:List D->Option Bool
 | []=>some true
 | .bl b :: r=>if b then allB r else some false
 | _=>none
@[simp] noncomputable def anyB:List D->Option Bool
 | []=>some false
 | .bl b :: r=>if b then some true else anyB r
 | _=>none
noncomputable def isI:D->Bool
 | .non=>false
 | .bl _=>true
 | .int _=>true
 | .str _=>false
 | .tup _=>false
 | .lst _=>false
@[simp] theorem IV:isI .non=false:=rfl
@[simp] theorem KC (z:Bool):isI (.bl z)=true:=rfl
@[simp] theorem IW (z:Int):isI (.int z)=true:=rfl
@[simp] theorem IX (z:Str):isI (.str z)=false:=rfl
@[simp] theorem IY (z:List D):isI (.tup z)=false:=rfl
@[simp] theorem IZ (z:List D):isI (.lst z)=false:=rfl
noncomputable def isB:D->Bool
 | .non=>false
 | .bl _=>true
 | .int _=>false
 | .str _=>false
 | .tup _=>false
 | .lst _=>false
@[simp] theorem Ja:isB .non=false:=rfl
@[simp] theorem KG (z:Bool):isB (.bl z)=true:=rfl
@[simp] theorem Jb (z:Int):isB (.int z)=false:=rfl
@[simp] theorem Jc (z:Str):isB (.str z)=false:=rfl
@[simp] theorem Jd (z:List D):isB (.tup z)=false:=rfl
@[simp] theorem Je (z:List D):isB (.lst z)=false:=rfl
noncomputable def isS:D->Bool
 | .non=>false
 | .bl _=>false
 | .int _=>false
 | .str _=>true
 | .tup _=>false
 | .lst _=>false
@[simp] theorem Jf:isS .non=false:=rfl
@[simp] theorem KH (z:Bool):isS (.bl z)=false:=rfl
@[simp] theorem Jg (z:Int):isS (.int z)=false:=rfl
@[simp] theorem Jh (z:Str):isS (.str z)=true:=rfl
@[simp] theorem Ji (z:List D):isS (.tup z)=false:=rfl
@[simp] theorem Jj (z:List D):isS (.lst z)=false:=rfl
noncomputable def isT:D->Bool
 | .non=>false
 | .bl _=>false
 | .int _=>false
 | .str _=>false
 | .tup _=>true
 | .lst _=>false
@[simp] theorem Jk:isT .non=false:=rfl
@[simp] theorem KI (z:Bool):isT (.bl z)=false:=rfl
@[simp] theorem Jl (z:Int):isT (.int z)=false:=rfl
@[simp] theorem Jm (z:Str):isT (.str z)=false:=rfl
@[simp] theorem Jo (z:List D):isT (.tup z)=true:=rfl
@[simp] theorem Jp (z:List D):isT (.lst z)=false:=rfl
noncomputable def isL:D->Bool
 | .non=>false
 | .bl _=>false
 | .int _=>false
 | .str _=>false
 | .tup _=>false
 | .lst _=>true
@[simp] theorem Jq:isL .non=false:=rfl
@[simp] theorem KJ (z:Bool):isL (.bl z)=false:=rfl
@[simp] theorem Jr (z:Int):isL (.int z)=false:=rfl
@[simp] theorem Js (z:Str):isL (.str z)=false:=rfl
@[simp] theorem Jt (z:List D):isL (.tup z)=false:=rfl
@[simp] theorem Ju (z:List D):isL (.lst z)=true:=rfl
noncomputable def sortI (ns:List Int):List Int:=ns.mergeSort fun a b=>decide (a<=b)
noncomputable def KM:List Int->Option Int
 | []=>none
 | n :: ns=>some (ns.foldl max n)
@[simp] noncomputable def Ac:List D->List D->List D
 | x :: xs,y :: ys=>.tup [x,y] :: Ac xs ys
 | _,_=>[]
noncomputable def ded (ns:List Int):List Int:=ns.foldl (fun σ v=>if σ.any (·==v) then σ else σ++[v]) []
noncomputable def biD:Bi->List D->Option D
 | .len,[.tup xs]=>some (.int xs.length)
 | .len,[.lst xs]=>some (.int xs.length)
 | .len,[.str x]=>if x.length<=lim then some (.int x.length) else none
 | .abs,[.int i]=>some (.int (if i < 0 then -i else i))
 | .int,[.int i]=>some (.int i)
 | .int,[.bl b]=>some (.int (if b then 1 else 0))
 | .str,[.int i]=>if big i then some (.str (toString i)) else none
 | .tuple,[.lst xs]=>some (.tup xs)
 | .tuple,[.tup xs]=>some (.tup xs)
 | .list,[.lst xs]=>some (.lst xs)
 | .list,[.tup xs]=>some (.lst xs)
 | .all,[.lst xs]=>(allB xs).map .bl
 | .any,[.lst xs]=>(anyB xs).map .bl
 | .isInt,[x]=>some (.bl (isI x))
 | .isBool,[x]=>some (.bl (isB x))
 | .isStr,[x]=>some (.bl (isS x))
 | .isTuple,[x]=>some (.bl (isT x))
 | .isList,[x]=>some (.bl (isL x))
 | .min2,[.int i,.int j]=>some (.int (if j < i then j else i))
 | .max2,[.int i,.int j]=>some (.int (if j > i then j else i))
 | .sorted,[.lst xs]=>(intsOf xs).bind fun ns=>if ns.length < 64 then some (.lst ((sortI ns).map .int)) else none
 | .max1,[.lst xs]=>(intsOf xs).bind fun ns=>(KM ns).map .int
 | .sum,[.lst xs]=>(intsOf xs).map fun ns=>.int ns.sum
 | .nset,[.lst xs]=>(intsOf xs).bind fun ns=>if ns.length < 1000 then some (.int ((ded ns).length:Nat)) else none
 | .sset,[.lst xs]=>(intsOf xs).bind fun ns=>if ns.length < 64 then some (.lst ((sortI (ded ns)).map .int)) else none
 | .lzip,[.tup xs,.tup ys]=>if 0 < xs.length/\xs.length=ys.length then some (.lst (Ac xs ys)) else none
 | _,_=>none
@[simp] noncomputable def i8:Nat->List D->List D
 | _,[]=>[]
 | k,x :: r=>.tup [.int k,x] :: i8 (k+1) r
noncomputable def mY:D->Option (List D)
 | .tup xs=>some xs
 | .lst xs=>some xs
 | _=>none
noncomputable def upto (lo:Int) (n:Nat):List D:=(Nv n).map fun (k:Nat)=>D.int (lo+(k:Int))
noncomputable def gF:Sr->List D->Option (List D)
 | .seq,[x]=>mY x
 | .rng1,[.int n]=>if -100000<=n&&n<=100000 then some (upto 0 n.toNat) else none
 | .rng2,[.int a,.int b]=>if -100000<=a&&a<=100000&&-100000<=b&&b<=100000 then some (upto a (b - a).toNat) else none
 | .rev,[.lst xs]=>some xs.reverse
 | .enu,[.lst xs]=>some (i8 0 xs)
 | .zip2,[.lst xs,.lst ys]=>some (Ac xs ys)
 | _,_=>none
@[simp] noncomputable def eY (x:D):List D->Nat->Option Nat
 | [],_=>none
 | y :: r,k=>if eqv y x then some k else eY x r (k+1)
@[simp] noncomputable def GI (c:Nat):List Nat->Nat->Option Nat
 | [],_=>none
 | y :: r,k=>if y=c then some k else GI c r (k+1)
@[simp] noncomputable def aJ:List W->Option (List D)
 | []=>some []
 | .p d :: r=>(aJ r).map (d :: ·)
 | .r _ :: _=>none
 | .k _ :: _=>none
 | .o _ :: _=>none
 | .c _ _ :: _=>none
 | .x _ :: _=>none
noncomputable def meD:Me->D->List D->Option D
 | .tindex,.tup xs,[x]=>if xs.all fun y=>aU y x then (eY x xs 0).map fun (q:Nat)=>D.int (q:Int) else none
 | .sindex,.str x,[.str y]=>match On x y 0 x.length 1 with
  | i :: _=>some (.int (i:Int))
  | []=>none
 | .count,.lst xs,[x]=>if xs.all fun y=>aU y x then some (.int ((xs.countP fun y=>eqv y x:Nat):Int)) else none
 | .lindex,.lst xs,[x]=>if xs.all fun y=>aU y x then (eY x xs 0).map fun (q:Nat)=>D.int (q:Int) else none
 | _,_,_=>none
theorem vY {xs:List D}{x:D}:meD .count (.lst xs) [x]=if xs.all fun y=>aU y x then some (.int ((xs.countP fun y=>eqv y x:Nat):Int)) else none:=rfl
theorem vZ {xs:List D}{x:D}:meD .lindex (.lst xs) [x]=if xs.all fun y=>aU y x then (eY x xs 0).map fun (q:Nat)=>D.int (q:Int) else none:=rfl
theorem v7 {xs:List D}{x:D}:meD .tindex (.tup xs) [x]=if xs.all fun y=>aU y x then (eY x xs 0).map fun (q:Nat)=>D.int (q:Int) else none:=rfl
theorem v8 {x y:Str}:meD .sindex (.str x) [.str y]=match On x y 0 x.length 1 with
 | i :: _=>some (.int (i:Int))
 | []=>none:=rfl
noncomputable def meW (m:Me) (o:W) (as:List W) (h:HH):Option (W×HH):=match m,o,as with
 | .append,.r n,[.p d]=>match lat h n with
  | some xs=>if xs.length < lim then some (.p .non,h.set n (.l (xs++[d]))) else none
  | none=>none
 | .pop,.r n,[]=>match lat h n with
  | some xs=>match xs.getLast? with
   | some d=>some (.p d,h.set n (.l xs.dropLast))
   | none=>none
  | none=>none
 | .extend,.r n,[w]=>match lat h n,(rd w h).bind mY with
  | some xs,some ys=>if xs.length+ys.length<=lim then some (.p .non,h.set n (.l (xs++ys))) else none
  | _,_=>none
 | .dget,.k kvs,[.p (.str x)]=>some (.p ((cP x kvs).getD .non),h)
 | .dget,.k _,[.p .non]=>some (.p .non,h)
 | .dget,.k kvs,[.p (.str x),.p d]=>some (.p ((cP x kvs).getD d),h)
 | m,.p d,as=>match aJ as with
  | some ds=>(meD m d ds).map fun x=>(.p x,h)
  | none=>none
 | _,_,_=>none
section
variable (n:Nat) (d:D) (h:HH) (kvs:List (Str×D)) (x:Str) (as:List W)
@[simp] theorem qp:meW .append (.r n) [.p d] h=match lat h n with
 | some xs=>if xs.length < lim then some (.p .non,h.set n (.l (xs++[d]))) else none
 | none=>none:=rfl
@[simp] theorem Ad:meW .pop (.r n) [] h=match lat h n with
 | some xs=>match xs.getLast? with
  | some d=>some (.p d,h.set n (.l xs.dropLast))
  | none=>none
 | none=>none:=rfl
@[simp] theorem qt (w:W):meW .extend (.r n) [w] h=match lat h n,(rd w h).bind mY with
 | some xs,some ys=>if xs.length+ys.length<=lim then some (.p .non,h.set n (.l (xs++ys))) else none
 | _,_=>none:=rfl
@[simp] theorem GJ:meW .dget (.k kvs) [.p (.str x)] h=some (.p ((cP x kvs).getD .non),h):=rfl
@[simp] theorem Dv:meW .dget (.k kvs) [.p .non] h=some (.p .non,h):=rfl
@[simp] theorem FE:meW .dget (.k kvs) [.p (.str x),.p d] h=some (.p ((cP x kvs).getD d),h):=rfl
@[simp] theorem jX:meW .tindex (.p d) as h=match aJ as with
 | some ds=>(meD .tindex d ds).map fun x=>(.p x,h)
 | none=>none:=rfl
@[simp] theorem uz:meW .count (.p d) as h=match aJ as with
 | some ds=>(meD .count d ds).map fun x=>(.p x,h)
 | none=>none:=rfl
@[simp] theorem qu:meW .lindex (.p d) as h=match aJ as with
 | some ds=>(meD .lindex d ds).map fun x=>(.p x,h)
 | none=>none:=rfl
@[simp] theorem jY:meW .sindex (.p d) as h=match aJ as with
 | some ds=>(meD .sindex d ds).map fun x=>(.p x,h)
 | none=>none:=rfl
end
noncomputable def new (mu:Bool) (xs:List D) (h:HH):W×HH:=if mu then (.r h.length,h++[.l xs]) else (.p (.lst xs),h)
@[simp] theorem Mh (xs:List D) (h:HH):new false xs h=(.p (.lst xs),h):=rfl
@[simp] theorem Mi (xs:List D) (h:HH):new true xs h=(.r h.length,h++[.l xs]):=rfl
@[simp] noncomputable def rds (ws:List W) (h:HH):Option (List D):=match ws with
 | []=>some []
 | w :: r=>(rd w h).bind fun d=>(rds r h).map (d :: ·)
noncomputable def MB:D->Option (List D)
 | .lst xs=>some xs
 | _=>none
noncomputable def unpack (n:Nat):D->Option (List D)
 | .tup xs=>if xs.length=n then some xs else none
 | _=>none
noncomputable def target (n:Nat) (d:D):Option (List D):=if n=1 then some [d] else unpack n d
section
variable (i j k a b:Int) (c:Bool) (x y:Str) (xs ys:List D) (kvs:List (Str×D)) (d e:D) (lo hi:Option Int)
@[simp] theorem ff:gR .add (.int i) (.int j)=some (.int (i+j)):=rfl
@[simp] theorem cR:gR .add (.str x) (.str y)=if x.length+y.length<=lim then some (.str (x++y)) else none:=rfl
@[simp] theorem cy:gR .add (.tup xs) (.tup ys)=if xs.length+ys.length<=lim then some (.tup (xs++ys)) else none:=rfl
@[simp] theorem cS:gR .add (.lst xs) (.lst ys)=if xs.length+ys.length<=lim then some (.lst (xs++ys)) else none:=rfl
@[simp] theorem fh:gR .sub (.int i) (.int j)=some (.int (i - j)):=rfl
@[simp] theorem fj:gR .mul (.int i) (.int j)=if big i||big j then some (.int (i*j)) else none:=rfl
@[simp] theorem cT:gR .mul (.tup xs) (.int k)=if 2<=k&&k<=1000&&!xs.isEmpty&&xs.length*k.toNat<=lim then some (.tup (rep k.toNat xs)) else none:=rfl
@[simp] theorem cU:gR .mul (.lst xs) (.int k)=if -1000<=k&&k<=1000&&xs.length*k.toNat<=lim then some (.lst (rep k.toNat xs)) else none:=rfl
@[simp] theorem fk:gR .mod (.int i) (.int j)=if 0 < j then some (.int (i % j)) else none:=rfl
@[simp] theorem dJ:gR .fdiv (.int i) (.int j)=if 0 < j&&j < 1073741824 then some (.int (i / j)) else none:=rfl
@[simp] theorem fm:gR .pow (.int i) (.int j)=if 0<=j&&j<=100&&big i then some (.int (i ^ j.toNat)) else none:=rfl
@[simp] theorem aL:aI (.tup xs) (.int i)=atP xs i:=rfl
@[simp] theorem aM:aI (.lst xs) (.int i)=atP xs i:=rfl
@[simp] theorem fV:aI (.str x) (.int i)=if x.length<=lim then (atP x.cps.toList i).map fun c=>.str ⟨#[c]⟩ else none:=rfl
@[simp] theorem mZ:mX (.tup xs) lo hi=some (.tup (cut xs lo hi)):=rfl
@[simp] theorem KN:mX (.lst xs) lo hi=some (.lst (cut xs lo hi)):=rfl
@[simp] theorem Ae:dP .eq d e=if aU d e then some (eqv d e) else none:=rfl
@[simp] theorem jF:dP .ne d e=if aU d e then some (!eqv d e) else none:=rfl
@[simp] theorem dZ:dP .lt (.int i) (.int j)=some (decide (i < j)):=rfl
@[simp] theorem d7:dP .le (.int i) (.int j)=some (decide (i<=j)):=rfl
@[simp] theorem d8:dP .gt (.int i) (.int j)=some (decide (j < i)):=rfl
@[simp] theorem d9:dP .ge (.int i) (.int j)=some (decide (j<=i)):=rfl
@[simp] theorem c9:dP .isN d .non=some (fU d):=rfl
@[simp] theorem cB:dP .notN d .non=some (!fU d):=rfl
@[simp] theorem bF:dP .mem d (.tup ys)=if ys.all fun y=>aU y d then some (ys.any fun y=>eqv y d) else none:=rfl
@[simp] theorem bO:dP .mem d (.lst ys)=if ys.all fun y=>aU y d then some (ys.any fun y=>eqv y d) else none:=rfl
@[simp] theorem bB:dP .nmem d (.tup ys)=if ys.all fun y=>aU y d then some (!ys.any fun y=>eqv y d) else none:=rfl
@[simp] theorem bC:dP .nmem d (.lst ys)=if ys.all fun y=>aU y d then some (!ys.any fun y=>eqv y d) else none:=rfl
@[simp] theorem lV:biD .len [.tup xs]=some (.int xs.length):=rfl
@[simp] theorem bK:biD .len [.lst xs]=some (.int xs.length):=rfl
@[simp] theorem uA:biD .len [.str x]=if x.length<=lim then some (.int x.length) else none:=rfl
@[simp] theorem Jv:biD .abs [.int i]=some (.int (if i < 0 then -i else i)):=rfl
@[simp] theorem Jw:biD .int [.int i]=some (.int i):=rfl
@[simp] theorem FF:biD .int [.bl c]=some (.int (if c then 1 else 0)):=rfl
@[simp] theorem Jx:biD .str [.int i]=if big i then some (.str (toString i)) else none:=rfl
@[simp] theorem Cd:biD .tuple [.lst xs]=some (.tup xs):=rfl
@[simp] theorem Ce:biD .tuple [.tup xs]=some (.tup xs):=rfl
@[simp] theorem Dw:biD .list [.lst xs]=some (.lst xs):=rfl
@[simp] theorem Dy:biD .list [.tup xs]=some (.lst xs):=rfl
@[simp] theorem Jy:biD .all [.lst xs]=(allB xs).map .bl:=rfl
@[simp] theorem Jz:biD .any [.lst xs]=(anyB xs).map .bl:=rfl
@[simp] theorem FG:biD .isInt [d]=some (.bl (isI d)):=rfl
@[simp] theorem Dz:biD .isBool [d]=some (.bl (isB d)):=rfl
@[simp] theorem FH:biD .isStr [d]=some (.bl (isS d)):=rfl
@[simp] theorem Cf:biD .isTuple [d]=some (.bl (isT d)):=rfl
@[simp] theorem DA:biD .isList [d]=some (.bl (isL d)):=rfl
@[simp] theorem JA:biD .min2 [.int i,.int j]=some (.int (if j < i then j else i)):=rfl
@[simp] theorem JB:biD .max2 [.int i,.int j]=some (.int (if j > i then j else i)):=rfl
@[simp] theorem KO:mY (.tup xs)=some xs:=rfl
@[simp] theorem KP:mY (.lst xs)=some xs:=rfl
@[simp] theorem v9:gF .seq [d]=mY d:=rfl
@[simp] theorem fq:gF .rng1 [.int a]=if -100000<=a&&a<=100000 then some (upto 0 a.toNat) else none:=rfl
@[simp] theorem FI:gF .rng2 [.int a,.int b]=if -100000<=a&&a<=100000&&-100000<=b&&b<=100000 then some (upto a (b - a).toNat) else none:=rfl
@[simp] theorem GK:gF .rev [.lst xs]=some xs.reverse:=rfl
@[simp] theorem GL:gF .enu [.lst xs]=some (i8 0 xs):=rfl
@[simp] theorem GM:gF .zip2 [.lst xs,.lst ys]=some (Ac xs ys):=rfl
@[simp] theorem DB:meD .tindex (.tup xs) [d]=if xs.all fun y=>aU y d then (eY d xs 0).map fun (q:Nat)=>D.int (q:Int) else none:=rfl
@[simp] theorem we (n:Nat):unpack n (.tup xs)=if xs.length=n then some xs else none:=rfl
end
@[simp] theorem jZ (d:D):target 1 d=some [d]:=rfl
@[simp] theorem GN (d:D):target 2 d=unpack 2 d:=rfl
noncomputable def rK (o:Option D) (out:List D) (h:HH):Option (List D×HH):=some (match o with | some x=>x :: out | none=>out,h)
noncomputable def DC (r:HH->Option (List D×HH)) (o:Option D) (h:HH):Option (List D×HH):=bnd (r h) (rK o)
@[simp] theorem GO (o:Option D) (out:List D) (h:HH):rK o out h=some (match o with | some x=>x :: out | none=>out,h):=rfl
@[simp] theorem JC (r:HH->Option (List D×HH)) (o:Option D) (h:HH):DC r o h=bnd (r h) (rK o):=rfl
noncomputable def eZ (f:List D->HH->Option (Option D×HH)) (n:Nat):List D->HH->Option (List D×HH)
 | [],h=>some ([],h)
 | d :: r,h=>match target n d with
  | some ds=>bnd (f ds h) (DC (eZ f n r))
  | none=>none
noncomputable def fK (d:D):Option W:=some (.p d)
noncomputable abbrev EH:=HH->Option (W×HH)
noncomputable abbrev OpW:=W->W->HH->Option (W×HH)
@[simp] noncomputable def k2 (eb:EH) (op:OpW) (x:W) (h:HH):Option (W×HH):=bnd (eb h) (op x)
@[simp] noncomputable def kZ (o:Bin) (x y:W) (h:HH):Option (W×HH):=match rd x h,rd y h with
 | some d,some e=>(gR o d e).map fun z=>(.p z,h)
 | _,_=>none
noncomputable def inK (o:Cm) (x:W) (kvs:List (Str×D)):Option Bool:=match o,x with
 | .mem,.p (.str s)=>some (cP s kvs).isSome
 | .nmem,.p (.str s)=>some (!(cP s kvs).isSome)
 | _,_=>none
@[simp] noncomputable def fO (o:Cm) (x y:W) (h:HH):Option (W×HH):=match y with
 | .k kvs=>(inK o x kvs).map fun z=>(.p (.bl z),h)
 | y=>match rd x h,rd y h with
  | some d,some e=>(dP o d e).map fun z=>(.p (.bl z),h)
  | _,_=>none
noncomputable def atK (kvs:List (Str×D)) (y:W):Option D:=match y with
 | .p (.str s)=>cP s kvs
 | _=>none
@[simp] theorem Mj (kvs:List (Str×D)) (x:Str):atK kvs (.p (.str x))=cP x kvs:=rfl
@[simp] theorem Ml (kvs:List (Str×D)) (x:Str):inK .mem (.p (.str x)) kvs=some (cP x kvs).isSome:=rfl
@[simp] theorem Mm (kvs:List (Str×D)) (x:Str):inK .nmem (.p (.str x)) kvs=some (!(cP x kvs).isSome):=rfl
@[simp] noncomputable def Af (x y:W) (h:HH):Option (W×HH):=match x with
 | .k kvs=>(atK kvs y).map fun z=>(.p z,h)
 | x=>match rd x h,rd y h with
  | some d,some e=>(aI d e).map fun z=>(.p z,h)
  | _,_=>none
@[simp] noncomputable def Ag (x:W) (h:HH):Option (W×HH):=match x with | .p (.int i)=>some (.p (.int (-i)),h) | _=>none
@[simp] noncomputable def Ah (x:W) (h:HH):Option (W×HH):=match x with | .p (.bl b)=>some (.p (.bl (!b)),h) | _=>none
@[simp] noncomputable def Ai (eb:EH) (x:W) (h:HH):Option (W×HH):=match x with | .p (.bl c)=>if c then eb h else some (.p (.bl false),h) | _=>none
@[simp] noncomputable def kOr (eb:EH) (x:W) (h:HH):Option (W×HH):=match x with | .p (.bl c)=>if c then some (.p (.bl true),h) else eb h | _=>none
@[simp] noncomputable def Aj (ea eb:EH) (x:W) (h:HH):Option (W×HH):=match x with | .p (.bl c)=>if c then ea h else eb h | _=>none
@[simp] noncomputable def GP (o':Cm) (e:D) (z:W) (h:HH):Option (W×HH):=match rd z h with
 | some f=>(dP o' e f).map fun r=>(.p (.bl r),h)
 | none=>none
@[simp] noncomputable def oCh (o o':Cm) (ec:EH) (x y:W) (h:HH):Option (W×HH):=match rd x h,y with
 | some d,.p e=>match dP o d e with
  | some true=>bnd (ec h) (GP o' e)
  | some false=>some (.p (.bl false),h)
  | none=>none
 | _,_=>none
@[simp] noncomputable def DE (ws:List W) (h:HH):Option (W×HH):=match aJ ws with | some ds=>if ds.length<=lim then some (.p (.tup ds),h) else none | none=>none
@[simp] noncomputable def DF (mu:Bool) (ws:List W) (h:HH):Option (W×HH):=match aJ ws with | some ds=>if ds.length<=lim then some (new mu ds h) else none | none=>none
@[simp] noncomputable def GQ (x:W) (l u:List W) (h:HH):Option (W×HH):=match rd x h,(aJ l).bind mW,(aJ u).bind mW with
 | some d,some l',some u'=>(mX d l' u').map fun z=>(.p z,h)
 | _,_,_=>none
@[simp] noncomputable def GR (eu:HH->Option (List W×HH)) (x:W) (l:List W) (h:HH):Option (W×HH):=bnd (eu h) (GQ x l)
@[simp] noncomputable def GS (el eu:HH->Option (List W×HH)) (x:W) (h:HH):Option (W×HH):=bnd (el h) (GR eu x)
@[simp] noncomputable def KQ (x:W) (h:HH):Option (W×HH):=match rd x h with
 | some (.tup xs)=>some (.p (.tup xs.reverse),h)
 | some (.lst xs)=>some (.p (.lst xs.reverse),h)
 | _=>none
noncomputable def oQ (k:Int) (xs:List D):List D:=(P8 (Ng none none (some k) xs.length).1 (Ng none none (some k) xs.length).2.1 (Ng none none (some k) xs.length).2.2).filterMap fun i=>xs[i]?
@[simp] noncomputable def DG (mu:Bool) (k:Int) (x:W) (h:HH):Option (W×HH):=match rd x h with
 | some (.lst xs)=>some (new mu (oQ k xs) h)
 | _=>none
@[simp] noncomputable def kBi (b:Bi) (mu:Bool) (ws:List W) (h:HH):Option (W×HH):=match rds ws h with
 | some ds=>match biD b ds with
  | some d=>if mu then (match d with | .lst xs=>some (new true xs h) | _=>none) else some (.p d,h)
  | none=>none
 | none=>none
noncomputable def k8 (x:W) (h:HH):Bool:=match x with
 | .r n=>(lat h n).isSome
 | _=>true
@[simp] theorem KR (n:Nat) (h:HH):k8 (.r n) h=(lat h n).isSome:=rfl
@[simp] theorem KS (d:D) (h:HH):k8 (.p d) h=true:=rfl
@[simp] theorem KU (d:List (Str×D)) (h:HH):k8 (.k d) h=true:=rfl
@[simp] noncomputable def kMe (m:Me) (ea:HH->Option (List W×HH)) (x:W) (h:HH):Option (W×HH):=if k8 x h then bnd (ea h) (meW m x) else none
@[simp] noncomputable def kLs (mu:Bool) (sr:Sr) (ws:List W) (h:HH):Option (W×HH):=match (rds ws h).bind (gF sr) with
 | some ds=>if ds.length<=lim then some (new mu ds h) else none
 | none=>none
@[simp] noncomputable def k9 (w:W) (h:HH):Option (Option D×HH):=match w with | .p d=>some (some d,h) | _=>none
noncomputable def rL (ee:EH) (cs:List W) (h:HH):Option (Option D×HH):=match cs with
 | []=>bnd (ee h) k9
 | [.p (.bl true)]=>bnd (ee h) k9
 | [.p (.bl false)]=>some (none,h)
 | _=>none
@[simp] theorem JD (ee:EH) (h:HH):rL ee [] h=bnd (ee h) k9:=rfl
@[simp] theorem JE (ee:EH) (h:HH):rL ee [.p (.bl true)] h=bnd (ee h) k9:=rfl
@[simp] theorem JF (ee:EH) (h:HH):rL ee [.p (.bl false)] h=some (none,h):=rfl
@[simp] noncomputable def j4 (ec:Sl->HH->Option (List W×HH)) (ee:Sl->EH) (fs:Sl) (xs:List D) (h:HH):Option (Option D×HH) :=
 bnd (ec (xs.map fK++fs) h) (rL (ee (xs.map fK++fs)))
@[simp] noncomputable def oR (mu:Bool) (out:List D) (h:HH):Option (W×HH):=if out.length<=lim then some (new mu out h) else none
noncomputable def aX (f:Str):List (Str×W)->Option W
 | []=>none
 | (x,w) :: r=>if f=x then some w else aX f r
noncomputable def bz (f:Str) (w:W):List (Str×W)->List (Str×W)
 | []=>[(f,w)]
 | (x,u) :: r=>if f=x then (f,w) :: r else (x,u) :: bz f w r
@[simp] theorem GT (f:Str):aX f []=none:=rfl
@[simp] theorem lW (f x:Str) (w:W) (r:List (Str×W)):aX f ((x,w) :: r)=if f=x then some w else aX f r:=rfl
@[simp] theorem GU (f:Str) (w:W):bz f w []=[(f,w)]:=rfl
@[simp] theorem uB (f x:Str) (w u:W) (r:List (Str×W)):bz f w ((x,u) :: r)=if f=x then (f,w) :: r else (x,u) :: bz f w r:=rfl
noncomputable def attrOk:W->Bool
 | .p _=>true
 | .r _=>true
 | .k _=>false
 | .o _=>true
 | .c _ _=>false
 | .x _=>false
@[simp] theorem GV (d:D):attrOk (.p d)=true:=rfl
@[simp] theorem GW (n:Nat):attrOk (.r n)=true:=rfl
@[simp] theorem GX (n:Nat):attrOk (.o n)=true:=rfl
noncomputable def Ak (f:Str) (x:W) (h:HH):Option (W×HH):=match x with
 | .o n=>match oat h n with
  | some (_,fs)=>(aX f fs).map fun w=>(w,h)
  | none=>none
 | _=>none
@[simp] theorem DH (f:Str) (n:Nat) (h:HH):Ak f (.o n) h=match oat h n with
 | some (_,fs)=>(aX f fs).map fun w=>(w,h)
 | none=>none:=rfl
noncomputable def qv (F:FK->List W->HH->Option (W×HH)) (q:FK) (n:Nat) (ws:List W) (h:HH):Option (W×HH):=F q (.o n :: ws) h
@[simp] theorem FJ (F:FK->List W->HH->Option (W×HH)) (q:FK) (n:Nat) (ws:List W) (h:HH):qv F q n ws h=F q (.o n :: ws) h:=rfl
noncomputable def wg (F:FK->List W->HH->Option (W×HH)) (m:Str) (ea:HH->Option (List W×HH)) (x:W) (h:HH):Option (W×HH):=match x with
 | .o n=>match oat h n with
  | some (c,fs)=>if (aX m fs).isNone then bnd (ea h) (qv F (.m c m) n) else none
  | none=>none
 | _=>none
@[simp] theorem Al (F:FK->List W->HH->Option (W×HH)) (m:Str) (ea:HH->Option (List W×HH)) (n:Nat) (h:HH):wg F m ea (.o n) h=match oat h n with
 | some (c,fs)=>if (aX m fs).isNone then bnd (ea h) (qv F (.m c m) n) else none
 | none=>none:=rfl
noncomputable def rM (n:Nat) (x:W) (h:HH):Option (W×HH):=match x with
 | .p .non=>some (.o n,h)
 | _=>none
@[simp] theorem JG (n:Nat) (h:HH):rM n (.p .non) h=some (.o n,h):=rfl
noncomputable def Cg (F:FK->List W->HH->Option (W×HH)) (c:Str) (ws:List W) (h:HH):Option (W×HH):=bnd (F (.m c "__init__") (.o h.length :: ws) (h++[.o c []])) (rM h.length)
@[simp] theorem wj (F:FK->List W->HH->Option (W×HH)) (c:Str) (ws:List W) (h:HH):Cg F c ws h=bnd (F (.m c "__init__") (.o h.length :: ws) (h++[.o c []])) (rM h.length):=rfl
noncomputable def jw:List W->Bool
 | []=>true
 | .p _ :: r=>jw r
 | _=>false
@[simp] noncomputable def Ci (mu:Bool) (sr:Sr) (n:Nat) (fs:Option Sl) (ec:Sl->HH->Option (List W×HH)) (ee:Sl->EH) (ws:List W) (h:HH):Option (W×HH) :=
 match (rds ws h).bind (gF sr),fs with
 | some ds,some fs=>if jw ws then bnd (eZ (j4 ec ee fs) n ds h) (oR mu) else none
 | _,_=>none
@[simp] noncomputable def i9 (w:W) (ws:List W) (h:HH):Option (List W×HH):=some (w :: ws,h)
@[simp] noncomputable def lX (er:HH->Option (List W×HH)) (w:W) (h:HH):Option (List W×HH):=bnd (er h) (i9 w)
@[simp] noncomputable def frees (s:Sl):List (Nat×Str)->Option Sl
 | []=>some []
 | q :: r=>match s[q.1]? with
  | some w=>(frees s r).map (w :: ·)
  | none=>none
noncomputable def caps (s:Sl):List (Nat×Str)->Option (List Cp)
 | []=>some []
 | q :: r=>match s[q.1]? with
  | some (some w)=>(rG w).bind fun x=>(caps s r).map (x :: ·)
  | _=>none
@[simp] theorem GY (s:Sl):caps s []=some []:=rfl
@[simp] theorem FL (s:Sl) (q:Nat×Str) (r:List (Nat×Str)):caps s (q :: r)=match s[q.1]? with
 | some (some w)=>(rG w).bind fun x=>(caps s r).map (x :: ·)
 | _=>none:=rfl
noncomputable def noC:List W->Bool
 | []=>true
 | .p _ :: r=>noC r
 | .r _ :: r=>noC r
 | .k _ :: r=>noC r
 | .o _ :: r=>noC r
 | .c _ _ :: _=>false
 | .x _ :: _=>false
@[simp] theorem JH:noC []=true:=rfl
@[simp] theorem Mn (d:D) (r:List W):noC (.p d :: r)=noC r:=rfl
@[simp] theorem Mp (d:Nat) (r:List W):noC (.r d :: r)=noC r:=rfl
@[simp] theorem Mq (d:Nat) (r:List W):noC (.o d :: r)=noC r:=rfl
noncomputable def wk (F:FK->List W->HH->Option (W×HH)) (o:Option (Option W)) (ws:List W) (h:HH):Option (W×HH):=match o with
 | some (some (.c k cs))=>if noC ws then F k (ws++cs.map Cp.w) h else none
 | _=>none
@[simp] theorem GZ (F:FK->List W->HH->Option (W×HH)) (k:FK) (cs:List Cp) (ws:List W) (h:HH):wk F (some (some (.c k cs))) ws h=if noC ws then F k (ws++cs.map Cp.w) h else none:=rfl
noncomputable def wm (w:W) (h:HH):Option (W×HH):=match w with
 | .c _ _=>none
 | .x _=>none
 | w=>some (w,h)
@[simp] theorem KW (d:D) (h:HH):wm (.p d) h=some (.p d,h):=rfl
@[simp] theorem KY (n:Nat) (h:HH):wm (.r n) h=some (.r n,h):=rfl
@[simp] theorem KZ (n:Nat) (h:HH):wm (.o n) h=some (.o n,h):=rfl
noncomputable def m6 (F:FK->List W->HH->Option (W×HH)) (q:FK) (n:Nat) (L:Nat) (cs:Option (List Cp)) (ws:List W) (h:HH):Option (W×HH):=match cs with
 | some cs=>bnd (F q (.o n :: (ws++[.c (.l L) cs])) h) wm
 | none=>none
@[simp] theorem FM (F:FK->List W->HH->Option (W×HH)) (q:FK) (n:Nat) (L:Nat) (cs:List Cp) (ws:List W) (h:HH):m6 F q n L (some cs) ws h=bnd (F q (.o n :: (ws++[.c (.l L) cs])) h) wm:=rfl
noncomputable def wo (F:FK->List W->HH->Option (W×HH)) (m:Str) (ea:HH->Option (List W×HH)) (L:Nat) (cs:Option (List Cp)) (x:W) (h:HH):Option (W×HH):=match x with
 | .o n=>match oat h n with
  | some (c,fs)=>if (aX m fs).isNone then bnd (ea h) (m6 F (.m c m) n L cs) else none
  | none=>none
 | _=>none
@[simp] theorem G0 (F:FK->List W->HH->Option (W×HH)) (m:Str) (ea:HH->Option (List W×HH)) (L:Nat) (cs:Option (List Cp)) (n:Nat) (h:HH):wo F m ea L cs (.o n) h=match oat h n with
 | some (c,fs)=>if (aX m fs).isNone then bnd (ea h) (m6 F (.m c m) n L cs) else none
 | none=>none:=rfl
noncomputable def DI (n:Nat) (y z:W) (h:HH):Option (W×HH):=match y,z with
 | .p k,.p d=>(dat h n).bind fun kvs=>(uy k).map fun q=>(.p ((Cb kvs q).getD d),h)
 | _,_=>none
@[simp] theorem K0 (n:Nat) (k d:D) (h:HH):DI n (.p k) (.p d) h=(dat h n).bind fun kvs=>(uy k).map fun q=>(.p ((Cb kvs q).getD d),h):=rfl
noncomputable def DJ (ed:EH) (n:Nat) (y:W) (h:HH):Option (W×HH):=bnd (ed h) (DI n y)
@[simp] theorem JI (ed:EH) (n:Nat) (y:W) (h:HH):DJ ed n y h=bnd (ed h) (DI n y):=rfl
noncomputable def G1 (ek ed:EH) (x:W) (h:HH):Option (W×HH):=match x with
 | .r n=>if (dat h n).isSome then bnd (ek h) (DJ ed n) else none
 | _=>none
@[simp] theorem K1 (ek ed:EH) (n:Nat) (h:HH):G1 ek ed (.r n) h=if (dat h n).isSome then bnd (ek h) (DJ ed n) else none:=rfl
noncomputable def j6 (c cn:Str):Bool:=cn==c||cn=="TapeError"||cn=="ValueError"
noncomputable def G2 (cn:Str) (x:W) (h:HH):Option (W×HH):=match x with
 | .x c=>some (.p (.bl (j6 c cn)),h)
 | _=>none
@[simp] theorem K3 (cn c:Str) (h:HH):G2 cn (.x c) h=some (.p (.bl (j6 c cn)),h):=rfl
noncomputable def wu:List (Ky×D)->Option (List (Int×Int))
 | []=>some []
 | (.inl k,.int v) :: r=>(wu r).map ((k,v) :: ·)
 | _=>none
noncomputable def wA (kvs:List (Ky×D)):Option (List D):=if kvs.length<=1 then some (jV kvs) else (wu kvs).bind fun ps=>if ps.length < 64 then some ((Ko ps).filterMap fun i=>(jV kvs)[i]?) else none
@[simp] theorem JJ (kv:Ky×D):wA [kv]=some (jV [kv]):=rfl
noncomputable def G3 (x:W) (h:HH):Option (W×HH):=match x with
 | .r n=>(dat h n).bind fun kvs=>(wA kvs).map fun l=>(.p (.lst l),h)
 | _=>none
@[simp] theorem K4 (n:Nat) (h:HH):G3 (.r n) h=(dat h n).bind fun kvs=>(wA kvs).map fun l=>(.p (.lst l),h):=rfl
noncomputable def G4 (x:W) (h:HH):Option (W×HH):=match x with
 | .r n=>(dat h n).bind fun kvs=>if kvs.length<=lim then some (.p (.lst (jV kvs)),h) else none
 | _=>none
@[simp] theorem K5 (n:Nat) (h:HH):G4 (.r n) h=(dat h n).bind fun kvs=>if kvs.length<=lim then some (.p (.lst (jV kvs)),h) else none:=rfl
section
variable (F:FK->List W->HH->Option (W×HH)) (G:Str->Option W)
mutual
@[simp] noncomputable def ev:E->Sl->HH->Option (W×HH)
 | .var i _,s,h=>match s[i]? with | some (some w)=>some (w,h) | _=>none
 | .cst d,_,h=>some (.p d,h)
 | .glo x,_,h=>(G x).map fun w=>(w,h)
 | .bin o a b,s,h=>bnd (ev a s h) (k2 (ev b s) (kZ o))
 | .neg a,s,h=>bnd (ev a s h) Ag
 | .not a,s,h=>bnd (ev a s h) Ah
 | .and a b,s,h=>bnd (ev a s h) (Ai (ev b s))
 | .or a b,s,h=>bnd (ev a s h) (kOr (ev b s))
 | .cmp o a b,s,h=>bnd (ev a s h) (k2 (ev b s) (fO o))
 | .chain o o' a b c,s,h=>bnd (ev a s h) (k2 (ev b s) (oCh o o' (ev c s)))
 | .ite c a b,s,h=>bnd (ev c s h) (Aj (ev a s) (ev b s))
 | .tup as,s,h=>bnd (evs as s h) DE
 | .lst mu as,s,h=>bnd (evs as s h) (DF mu)
 | .idx a i,s,h=>bnd (ev a s h) (k2 (ev i s) Af)
 | .slc a lo hi,s,h=>bnd (ev a s h) (GS (evs lo s) (evs hi s))
 | .rvs a,s,h=>bnd (ev a s h) KQ
 | .stp mu k a,s,h=>bnd (ev a s h) (DG mu k)
 | .call f as,s,h=>bnd (evs as s h) (F (.f f))
 | .fld a f,s,h=>bnd (ev a s h) (Ak f)
 | .meth o m as,s,h=>bnd (ev o s h) (wg F m (evs as s))
 | .make c as,s,h=>bnd (evs as s h) (Cg F c)
 | .bi b mu as,s,h=>bnd (evs as s h) (kBi b mu)
 | .lsr mu sr as,s,h=>bnd (evs as s h) (kLs mu sr)
 | .me m o as,s,h=>bnd (ev o s h) (kMe m (evs as s))
 | .comp mu sr sa tg fv cond elt,s,h=>bnd (evs sa s h) (Ci mu sr tg.length (frees s fv) (evs cond) (ev elt))
 | .callv i _ as,s,h=>bnd (evs as s h) (wk F s[i]?)
 | .methL o m as L fv,s,h=>bnd (ev o s h) (wo F m (evs as s) L (caps s fv))
 | .dnew,_,h=>some (.r h.length,h++[.d []])
 | .dgt o k d,s,h=>bnd (ev o s h) (G1 (ev k s) (ev d s))
 | .dsi o,s,h=>bnd (ev o s h) G3
 | .isx c a,s,h=>bnd (ev a s h) (G2 c)
 | .dli o,s,h=>bnd (ev o s h) G4
@[simp] noncomputable def evs:Es->Sl->HH->Option (List W×HH)
 | .nil,_,h=>some ([],h)
 | .cons a as,s,h=>bnd (ev a s h) (lX (evs as s))
end
inductive Fl where
 | nx (s:Sl) (h:HH) | rt (w:W) (h:HH) | bk (s:Sl) (h:HH) | ct (s:Sl) (h:HH)
noncomputable def G5 (k:Bool->HH->Option Fl) (w:W) (h:HH):Option Fl:=match w with | .p (.bl b)=>k b h | _=>none
noncomputable def tst (x:Option (W×HH)) (k:Bool->HH->Option Fl):Option Fl:=bnd x (G5 k)
@[simp] theorem j7 (b:Bool) (h:HH) (k:Bool->HH->Option Fl):tst (some (.p (.bl b),h)) k=k b h:=rfl
noncomputable def j8 (x:Option Fl) (k:Sl->HH->Option Fl):Option Fl:=match x with
 | some (.nx s h)=>k s h
 | y=>y
@[simp] theorem G6 (s:Sl) (h:HH) (k:Sl->HH->Option Fl):j8 (some (.nx s h)) k=k s h:=rfl
@[simp] theorem G7 (w:W) (h:HH) (k:Sl->HH->Option Fl):j8 (some (.rt w h)) k=some (.rt w h):=rfl
@[simp] theorem G8 (s:Sl) (h:HH) (k:Sl->HH->Option Fl):j8 (some (.bk s h)) k=some (.bk s h):=rfl
@[simp] theorem G9 (s:Sl) (h:HH) (k:Sl->HH->Option Fl):j8 (some (.ct s h)) k=some (.ct s h):=rfl
@[simp] theorem DK (k:Sl->HH->Option Fl):j8 none k=none:=rfl
noncomputable def iG (x:Option Fl) (k:Sl->HH->Option Fl):Option Fl:=match x with
 | some (.nx s h)=>k s h
 | some (.ct s h)=>k s h
 | some (.bk s h)=>some (.nx s h)
 | y=>y
@[simp] theorem iH (s:Sl) (h:HH) (k:Sl->HH->Option Fl):iG (some (.nx s h)) k=k s h:=rfl
@[simp] theorem Hf (s:Sl) (h:HH) (k:Sl->HH->Option Fl):iG (some (.ct s h)) k=k s h:=rfl
@[simp] theorem Hg (s:Sl) (h:HH) (k:Sl->HH->Option Fl):iG (some (.bk s h)) k=some (.nx s h):=rfl
@[simp] theorem Hh (w:W) (h:HH) (k:Sl->HH->Option Fl):iG (some (.rt w h)) k=some (.rt w h):=rfl
@[simp] theorem DL (k:Sl->HH->Option Fl):iG none k=none:=rfl
@[simp] noncomputable def sets:List (Nat×Str)->List D->Sl->Sl
 | (i,_) :: r,d :: ds,s=>sets r ds (s.set i (some (.p d)))
 | _,_,s=>s
noncomputable def DM (b:Sl->HH->Option Fl) (again:Sl->HH->Option Fl) (s:Sl) (t:Bool) (h:HH):Option Fl:=if t then iG (b s h) again else some (.nx s h)
@[simp] theorem m7 (b again:Sl->HH->Option Fl) (s:Sl) (h:HH):DM b again s true h=iG (b s h) again:=rfl
@[simp] theorem qw (b again:Sl->HH->Option Fl) (s:Sl) (h:HH):DM b again s false h=some (.nx s h):=rfl
noncomputable def cQ (c:Sl->HH->Option (W×HH)) (b:Sl->HH->Option Fl):Nat->Sl->HH->Option Fl
 | 0,_,_=>none
 | n+1,s,h=>tst (c s h) (DM b (cQ c b n) s)
@[simp] noncomputable def fW (b:Sl->HH->Option Fl) (tg:List (Nat×Str)):List D->Sl->HH->Option Fl
 | [],s,h=>some (.nx s h)
 | d :: r,s,h=>match target tg.length d with
  | some ds=>iG (b (sets tg ds s) h) (fW b tg r)
  | none=>none
noncomputable def turns:Nat:=100000
@[simp] noncomputable def m8 (s:Sl) (i:Nat) (w:W) (h:HH):Option Fl:=some (.nx (s.set i (some w)) h)
@[simp] noncomputable def K6 (s:Sl) (xs:List (Nat×Str)) (w:W) (h:HH):Option Fl:=match w with
 | .p d=>match unpack xs.length d with | some ds=>some (.nx (sets xs ds s) h) | none=>none
 | _=>none
@[simp] noncomputable def Hi (s:Sl) (i:Nat) (o:Bin) (w:W) (h:HH):Option Fl:=match s[i]?,w with
 | some (some (.p d)),.p d'=>(jW o d d').map fun z=>.nx (s.set i (some (.p z))) h
 | _,_=>none
@[simp] noncomputable def Cj (s:Sl) (n:Nat) (d:D) (q:W) (h:HH):Option Fl:=match q,lat h n with
 | .p (.int j),some xs=>match place xs.length j with
  | some m=>some (.nx s (h.set n (.l (xs.set m d))))
  | none=>none
 | _,_=>none
@[simp] noncomputable def DN (ek:EH) (s:Sl) (i:Nat) (w:W) (h:HH):Option Fl:=match w,s[i]? with
 | .p d,some (some (.r n))=>bnd (ek h) (Cj s n d)
 | _,_=>none
noncomputable def qx (s:Sl) (n:Nat) (d:D) (q:W) (h:HH):Option Fl:=match q with
 | .p k=>(dat h n).bind fun kvs=>(uy k).bind fun y=>if kvs.length < lim then some (.nx s (h.set n (.d (Cc kvs y d)))) else none
 | _=>none
@[simp] theorem Hj (s:Sl) (n:Nat) (d k:D) (h:HH):qx s n d (.p k) h=(dat h n).bind fun kvs=>(uy k).bind fun y=>if kvs.length < lim then some (.nx s (h.set n (.d (Cc kvs y d)))) else none:=rfl
noncomputable def wB (ek:EH) (s:Sl) (i:Nat) (w:W) (h:HH):Option Fl:=match w,s[i]? with
 | .p d,some (some (.r n))=>bnd (ek h) (qx s n d)
 | _,_=>none
@[simp] theorem JK (ek:EH) (s:Sl) (i:Nat) (d:D) (h:HH):wB ek s i (.p d) h=match s[i]? with
 | some (some (.r n))=>bnd (ek h) (qx s n d)
 | _=>none:=by
 unfold wB
 cases s[i]? with
 | none=>rfl
 | some o=>cases o with
  | none=>rfl
  | some w=>cases w<;>rfl
noncomputable def ng (s:Sl) (f:Str) (v:W) (x:W) (h:HH):Option Fl:=match x with
 | .o n=>match oat h n with
  | some (c,fs)=>if attrOk v&&fs.length < 1000 then some (.nx s (h.set n (.o c (bz f v fs)))) else none
  | none=>none
 | _=>none
@[simp] theorem wC (s:Sl) (f:Str) (v:W) (n:Nat) (h:HH):ng s f v (.o n) h=match oat h n with
 | some (c,fs)=>if attrOk v&&fs.length < 1000 then some (.nx s (h.set n (.o c (bz f v fs)))) else none
 | none=>none:=rfl
noncomputable def wD (eo:EH) (s:Sl) (f:Str) (v:W) (h:HH):Option Fl:=bnd (eo h) (ng s f v)
@[simp] theorem wF (eo:EH) (s:Sl) (f:Str) (v:W) (h:HH):wD eo s f v h=bnd (eo h) (ng s f v):=rfl
noncomputable def nh (s:Sl) (f:Str) (op:Bin) (n:Nat) (c:Str) (d:D) (v:W) (h:HH):Option Fl:=match v,oat h n with
 | .p e,some (c',fs)=>match jW op d e with
  | some z=>if c'=c/\fs.length < 1000 then some (.nx s (h.set n (.o c' (bz f (.p z) fs)))) else none
  | none=>none
 | _,_=>none
@[simp] theorem wG (s:Sl) (f:Str) (op:Bin) (n:Nat) (c:Str) (d e:D) (h:HH):nh s f op n c d (.p e) h=match oat h n with
 | some (c',fs)=>match jW op d e with
  | some z=>if c'=c/\fs.length < 1000 then some (.nx s (h.set n (.o c' (bz f (.p z) fs)))) else none
  | none=>none
 | none=>none:=by unfold nh;cases oat h n<;>rfl
noncomputable def rN (ee:EH) (s:Sl) (f:Str) (op:Bin) (x:W) (h:HH):Option Fl:=match x with
 | .o n=>match oat h n with
  | some (c,fs)=>match aX f fs with
   | some (.p d)=>bnd (ee h) (nh s f op n c d)
   | _=>none
  | none=>none
 | _=>none
@[simp] theorem Am (ee:EH) (s:Sl) (f:Str) (op:Bin) (n:Nat) (h:HH):rN ee s f op (.o n) h=match oat h n with
 | some (c,fs)=>match aX f fs with
  | some (.p d)=>bnd (ee h) (nh s f op n c d)
  | _=>none
 | none=>none:=rfl
@[simp] noncomputable def kEx (s:Sl) (_:W) (h:HH):Option Fl:=some (.nx s h)
@[simp] noncomputable def wH (w:W) (h:HH):Option Fl:=some (.rt w h)
@[simp] noncomputable def kIf (fa fb:HH->Option Fl) (t:Bool) (h:HH):Option Fl:=if t then fa h else fb h
@[simp] noncomputable def kFor (b:Sl->HH->Option Fl) (tg:List (Nat×Str)) (sr:Sr) (s:Sl) (ws:List W) (h:HH):Option Fl:=match (rds ws h).bind (gF sr) with
 | some ds=>if jw ws then fW b tg ds s h else none
 | none=>none
@[simp] noncomputable def evS:S->Sl->HH->Option Fl
 | .nil,s,h=>some (.nx s h)
 | .seq a b,s,h=>j8 (evS a s h) (evS b)
 | .set i _ e,s,h=>bnd (ev F G e s h) (m8 s i)
 | .unp xs e,s,h=>bnd (ev F G e s h) (K6 s xs)
 | .aug i _ o e,s,h=>bnd (ev F G e s h) (Hi s i o)
 | .put i _ k e,s,h=>bnd (ev F G e s h) (DN (ev F G k s) s i)
 | .putd i _ k e,s,h=>bnd (ev F G e s h) (wB (ev F G k s) s i)
 | .setf o f e,s,h=>bnd (ev F G e s h) (wD (ev F G o s) s f)
 | .augf o f op e,s,h=>bnd (ev F G o s h) (rN (ev F G e s) s f op)
 | .ex e,s,h=>bnd (ev F G e s h) (kEx s)
 | .ret e,s,h=>bnd (ev F G e s h) wH
 | .ife c a b,s,h=>tst (ev F G c s h) (kIf (evS a s) (evS b s))
 | .whl c b,s,h=>cQ (ev F G c) (evS b) turns s h
 | .for tg sr sa b,s,h=>bnd (evs F G sa s h) (kFor (evS b) tg sr s)
 | .brk,s,h=>some (.bk s h)
 | .cnt,s,h=>some (.ct s h)
 | .bad,_,_=>none
open Classical in
noncomputable def fin (h:HH) (w:W) (h':HH):Option (W×HH) :=
 if h'.length=h.length then some (w,h')
 else if h'.take h.length=h then (match w with
  | .p d=>some (.p d,h)
  | .r n=>if n < h.length then some (.r n,h) else (lat h' n).map fun xs=>(.p (.lst xs),h)
  | .o n=>if n < h.length then some (.o n,h) else some (.o n,h')
  | .k _=>none
  | .c _ _=>none
  | .x _=>none)
 else some (w,h')
@[simp] noncomputable def aQ (n:Nat) (ws:List W):Sl:=ws.map some++MY (n - ws.length) none
noncomputable def iI (x:Option Fl) (k:W->HH->Option (W×HH)):Option (W×HH):=match x with
 | some (.rt w h)=>k w h
 | some (.nx _ h)=>k (.p .non) h
 | _=>none
@[simp] theorem JL (w:W) (h:HH) (k:W->HH->Option (W×HH)):iI (some (.rt w h)) k=k w h:=rfl
@[simp] theorem JM (s:Sl) (h:HH) (k:W->HH->Option (W×HH)):iI (some (.nx s h)) k=k (.p .non) h:=rfl
@[simp] theorem FN (k:W->HH->Option (W×HH)):iI none k=none:=rfl
end
section
variable (T:FK->Option Fn) (G:Str->Option W)
noncomputable def runN:Nat->FK->List W->HH->Option (W×HH)
 | 0,_,_,_=>none
 | k+1,f,ws,h=>match T f with
  | some fn=>if ws.length=fn.ps.length then iI (evS (runN k) G fn.body (aQ fn.ns.length ws) h) (fin h) else none
  | none=>none
theorem run_eq {T:FK->Option Fn}{G:Str->Option W}{f:FK}{fn:Fn}{ws:List W}{h:HH}{k:Nat} (hT:T f=some fn) (hl:ws.length=fn.ps.length) :
 runN T G (k+1) f ws h=iI (evS (runN T G k) G fn.body (aQ fn.ns.length ws) h) (fin h):=by
 rw[runN,hT];exact if_pos hl
end
end BT
end
section
namespace BT
open PySem
noncomputable def K7:Fn:=⟨["state","thing"],["state","thing"],.ret (.call "worth_in" (.cons (.var 0 "state") (.cons (.var 1 "thing") .nil)))⟩
noncomputable def K8:Fn:=⟨["state","thing","worth"],["state","thing","worth"],.ret (.cmp .ne (.call "worth_in" (.cons (.var 0 "state") (.cons (.var 1 "thing") .nil))) (.var 2 "worth"))⟩
noncomputable def K9:Fn:=⟨["state","thing","worth"],["state","thing","worth"],.ret (.cmp .ne (.call "worth_in" (.cons (.var 0 "state") (.cons (.var 1 "thing") .nil))) (.var 2 "worth"))⟩
noncomputable def La:Fn:=⟨["state","term"],["state","term"],.ret (.call "reckoned" (.cons (.var 1 "term") (.cons (.var 0 "state") .nil)))⟩
noncomputable def Lb:Fn:=⟨["state","term"],["state","term"],.ret (.cmp .ne (.call "reckoned" (.cons (.var 1 "term") (.cons (.var 0 "state") .nil))) (.cst (.int 0)))⟩
noncomputable def Lc:Fn:=⟨["state","term"],["state","term"],.ret (.cmp .ne (.call "reckoned" (.cons (.var 1 "term") (.cons (.var 0 "state") .nil))) (.cst (.int 0)))⟩
noncomputable def Ld:Fn:=⟨["state"],["state"],.ret (.idx (.var 0 "state") (.glo "ROW"))⟩
noncomputable def Lg:Fn:=⟨["state","row"],["state","row"],.ret (.cmp .eq (.idx (.var 0 "state") (.glo "ROW")) (.var 1 "row"))⟩
noncomputable def Lh:Fn:=⟨["state","number"],["state","number"],.ret (.cmp .gt (.bi .len false (.cons (.idx (.var 0 "state") (.glo "SAID")) .nil)) (.var 1 "number"))⟩
noncomputable def Li:Fn:=⟨["state","bound"],["state","bound"],.ret (.cmp .le (.call "open_in" (.cons (.var 0 "state") .nil)) (.var 1 "bound"))⟩
noncomputable def Hl:Fn:=⟨["state","bound"],["state","bound"],.ret (.cmp .le (.call "open_in" (.cons (.var 0 "state") .nil)) (.var 1 "bound"))⟩
noncomputable def Ho:Fn:=⟨["state","wanted"],["state","wanted"],.ret (.and (.cmp .eq (.idx (.var 0 "state") (.glo "NAMES")) (.idx (.var 1 "wanted") (.glo "NAMES"))) (.cmp .eq (.idx (.var 0 "state") (.glo "CELLS")) (.idx (.var 1 "wanted") (.glo "CELLS"))))⟩
noncomputable def Hq:Fn:=⟨["state","tape","thing"],["state","tape","thing"],.ret (.cmp .eq (.call "written_next" (.cons (.var 1 "tape") (.cons (.var 0 "state") .nil))) (.var 2 "thing"))⟩
noncomputable def Hr:Fn:=⟨[],[],.ret (.cst .non)⟩
noncomputable def Hs:Fn:=⟨[],[],.ret (.cst .non)⟩
noncomputable def oS (i:Nat):Option Fn:=([K7,K8,K9,La,Lb,Lc,Ld,Lg,Lh,Li,Hl,Ho,Hq,Hr,Hs]:List Fn)[i]?
noncomputable def ef:List Str:=["worths_of","last_change","next_change","moments_so","last_so","next_so","visits","last_visit","when_said","next_within","last_within","first_other","writer_of","judged","remade"]
noncomputable def Ck (i:Nat):Str:=ef.getD i ""
noncomputable def bZ (x:Str):Str:="<"++x++">"
end BT
end
section
namespace BS
open PySem PySem.Spec PyProof.Rows L2
theorem ai {β:Type}{a:β}{P:Prop} (h:(none:Option β)=some a):P:=nomatch h
noncomputable def attrName (f:Str):Bool:=(["program","asked","gap","most","kept","farthest","front","now","origins","branches","tape","named"]:List Str).contains f
noncomputable def oU:BT.Bi->Option (String×(BT.D->Bool))
 | .isInt=>some ("int",BT.isI)
 | .isBool=>some ("bool",BT.isB)
 | .isStr=>some ("str",BT.isS)
 | .isTuple=>some ("tuple",BT.isT)
 | .isList=>some ("list",BT.isL)
 | _=>none
noncomputable def oV (sc:M0) (x:Str):Bool:=match sc.names.lookup x with
 | some .local=>true
 | some .cell=>true
 | some .free=>true
 | _=>false
noncomputable def aT (sc:M0) (x:Str):Bool:=sc.names.lookup x==some .globalImplicit
noncomputable def aH (x:Str):Bool:=!(x=="__debug__")&&!(x=="__classdict__")&&!(x=="__name__")
noncomputable def noStar:MJ->Bool
 | .Starred _ _=>false
 | _=>true
noncomputable def jG:MJ->Bool
 | .Slice _ _ _ _=>false
 | _=>true
noncomputable def aO:MJ->Bool
 | .Name _ _=>true
 | .Constant _ _ _=>true
 | .Subscript _ _ _=>true
 | .Attribute _ _ _=>true
 | .Call (.Attribute _ _ _) _ _ _=>true
 | _=>false
noncomputable def Cn:BT.Bin->OQ->Bool
 | .add,.Add=>true
 | .sub,.Sub=>true
 | .mul,.Mult=>true
 | .mod,.Mod=>true
 | .fdiv,.FloorDiv=>true
 | .pow,.Pow=>true
 | _,_=>false
noncomputable def An:BT.Cm->CmpOp->Bool
 | .eq,.Eq=>true
 | .ne,.NotEq=>true
 | .lt,.Lt=>true
 | .le,.LtE=>true
 | .gt,.Gt=>true
 | .ge,.GtE=>true
 | .isN,.Is=>true
 | .notN,.IsNot=>true
 | .mem,.In=>true
 | .nmem,.NotIn=>true
 | _,_=>false
noncomputable def Co:BT.D->Const->Bool
 | .non,.none=>true
 | .bl a,.bool b=>a==b
 | .int i,.int j=>i==j
 | .str x,.str y=>x==y&&PyData.strOk x
 | _,_=>false
noncomputable def wI:BT.Bi->Bool->Option Str
 | .len,false=>some "len"
 | .abs,false=>some "abs"
 | .int,false=>some "int"
 | .list,_=>some "list"
 | .tuple,false=>some "tuple"
 | _,_=>none
noncomputable def Cq (b:BT.Bi) (mu:Bool) (x:Str):Bool:=wI b mu==some x
noncomputable def wJ:BT.Bi->Str->Bool
 | .min2,x=>x=="min"
 | .max2,x=>x=="max"
 | _,_=>false
noncomputable def Ao:MJ->Option Const
 | .Constant c _ _=>some c
 | _=>none
noncomputable def cInt:Const->Option Int
 | .int j=>some j
 | _=>none
noncomputable def unE:MJ->Option MJ
 | .UnaryOp o e _=>if o=.USub then some e else none
 | _=>none
noncomputable def ni (k:Int) (e:MJ):Bool:=((Ao e).bind cInt==some k&&decide (0 < k))||(((unE e).bind Ao).bind cInt==some (-k)&&decide (k < 0))
noncomputable def wK:BT.Me->Str
 | .append=>"append"
 | .pop=>"pop"
 | .extend=>"extend"
 | .tindex=>"index"
 | .sindex=>"index"
 | .dget=>"get"
 | .count=>"count"
 | .lindex=>"index"
noncomputable def wL:BT.E->Bool
 | .glo _=>true
 | _=>false
noncomputable def Aq (m:BT.Me) (o:BT.E):Bool:=match m with
 | .append=>true
 | .pop=>true
 | .extend=>true
 | .sindex=>true
 | .tindex=>wL o
 | .dget=>false
 | .count=>true
 | .lindex=>true
noncomputable def eB (c:Str):Bool:=(["NoMoment","NoThing","NoRun","NoText"]:List Str).contains c
noncomputable def wM (cn:Str):Bool:=eB cn||cn=="ValueError"
noncomputable def dI (N:List Str):Bool:=!N.contains "_law_flags"
noncomputable def tOK:BT.E->Bool
 | .ite _ _ _=>false
 | .not a=>tOK a
 | .and a b=>tOK a&&tOK b
 | .or a b=>tOK a&&tOK b
 | .tup _=>false
 | .lst _ _=>false
 | .comp _ _ _ _ _ _ _=>false
 | _=>true
noncomputable def gS:MJ->Bool
 | .Set _ _ _=>false
 | _=>true
noncomputable def oW:BT.Sr->MJ->Bool
 | .zip2,.Tuple _ _ _=>true
 | .enu,.Tuple _ _ _=>true
 | .zip2,_=>false
 | .enu,_=>false
 | _,_=>true
noncomputable def br (scope sc:M0):M0 :=
 { scope with names:=scope.names.map fun (n,k)=>if (k==.free&&sc.kind==.function&&sc.names.lookup n==some .cell) then (n,.cell) else (n,k) }
noncomputable def nmE:MJ->Option Str
 | .Name y _=>some y
 | _=>none
noncomputable def DO:MJ->List MJ
 | .Tuple xs _ _=>xs
 | _=>[]
noncomputable def oX (sc:M0) (tg:List Str) (te:MJ):Bool:=((tg.map some==[nmE te])||(tg.length==2&&tg.map some==(DO te).map nmE))&&tg.all fun x=>sc.names.lookup x==some .local
noncomputable def gT:List Str->Bool
 | []=>true
 | x :: r=>!r.contains x&&gT r
noncomputable def gU (sc:M0) (N:List Str) (tg:List Str) (fv:List (Nat×Str)) (scope:M0):Bool :=
 scope.kind==.function&&sc.kind==.function&&scope.names.all (fun y=>!(y.2==.cell))&&scope.names.all (fun y=>!(y.2==.local)||scope.names.lookup y.1==some .local) &&
 scope.names.all (fun y=>!(y.2==.free)||sc.names.lookup y.1==some .cell) &&
 fv.all (fun q=>N[q.1]?==some q.2&&scope.names.contains (q.2,.free)&&sc.names.lookup q.2==some .cell&&(br scope sc).names.lookup q.2==some .cell)&&gT (tg++fv.map (·.2))
mutual
inductive CE':M0->List Str->BT.E->MJ->Prop where
 | var {sc:M0}{N:List Str}{i:Nat}{x:Str}{p:Pos} (h1:N[i]?=some x) (h2:oV sc x=true) (h3:aH x=true):CE' sc N (.var i x) (.Name x p)
 | cst {sc:M0}{N:List Str}{d:BT.D}{c:Const}{k:Nat}{p:Pos} (h:Co d c=true):CE' sc N (.cst d) (.Constant c k p)
 | glo {sc:M0}{N:List Str}{x:Str}{p:Pos} (h2:aT sc x=true) (h3:aH x=true):CE' sc N (.glo x) (.Name x p)
 | bin {sc:M0}{N:List Str}{o:BT.Bin}{op:OQ}{a b:BT.E}{l r:MJ}{p:Pos} (h:Cn o op=true) (ha:CE' sc N a l) (hb:CE' sc N b r):CE' sc N (.bin o a b) (.BinOp l op r p)
 | neg {sc:M0}{N:List Str}{a:BT.E}{x:MJ}{p:Pos} (ha:CE' sc N a x):CE' sc N (.neg a) (.UnaryOp .USub x p)
 | not {sc:M0}{N:List Str}{a:BT.E}{x:MJ}{p:Pos} (ha:CE' sc N a x):CE' sc N (.not a) (.UnaryOp .Not x p)
 | and2 {sc:M0}{N:List Str}{a b:BT.E}{x y:MJ}{p:Pos} (ha:CE' sc N a x) (hb:CE' sc N b y):CE' sc N (.and a b) (.BoolOp .And [x,y] p)
 | and3 {sc:M0}{N:List Str}{a b:BT.E}{x y z:MJ}{r:List MJ}{p:Pos} (ha:CE' sc N a x) (hb:CE' sc N b (.BoolOp .And (y :: z :: r) p)):CE' sc N (.and a b) (.BoolOp .And (x :: y :: z :: r) p)
 | or2 {sc:M0}{N:List Str}{a b:BT.E}{x y:MJ}{p:Pos} (ha:CE' sc N a x) (hb:CE' sc N b y):CE' sc N (.or a b) (.BoolOp .Or [x,y] p)
 | or3 {sc:M0}{N:List Str}{a b:BT.E}{x y z:MJ}{r:List MJ}{p:Pos} (ha:CE' sc N a x) (hb:CE' sc N b (.BoolOp .Or (y :: z :: r) p)):CE' sc N (.or a b) (.BoolOp .Or (x :: y :: z :: r) p)
 | cmp {sc:M0}{N:List Str}{o:BT.Cm}{op:CmpOp}{a b:BT.E}{l r:MJ}{p:Pos} (h:An o op=true) (ha:CE' sc N a l) (hb:CE' sc N b r) (hm:Qv op r=false):CE' sc N (.cmp o a b) (.Compare l [op] [r] p)
 | chain {sc:M0}{N:List Str}{o o':BT.Cm}{op op':CmpOp}{a b c:BT.E}{l r r':MJ}{p:Pos} (h:An o op=true) (h':An o' op'=true) (ha:CE' sc N a l) (hb:CE' sc N b r) (hc:CE' sc N c r') (hm:lastMarks [op,op'] [r,r']=false):CE' sc N (.chain o o' a b c) (.Compare l [op,op'] [r,r'] p)
 | ite {sc:M0}{N:List Str}{c a b:BT.E}{t x y:MJ}{p:Pos} (h:tOK c=true) (hc:CE' sc N c t) (ha:CE' sc N a x) (hb:CE' sc N b y):CE' sc N (.ite c a b) (.IfExp t x y p)
 | tup {sc:M0}{N:List Str}{as:BT.Es}{es:List MJ}{k:Nat}{p:Pos} (h:CEs sc N as es):CE' sc N (.tup as) (.Tuple es k p)
 | lst {sc:M0}{N:List Str}{mu:Bool}{as:BT.Es}{es:List MJ}{p:Pos} (h:CEs sc N as es):CE' sc N (.lst mu as) (.List es p)
 | idx {sc:M0}{N:List Str}{a i:BT.E}{x sl:MJ}{p:Pos} (ha:CE' sc N a x) (hi:CE' sc N i sl) (hs:jG sl=true):CE' sc N (.idx a i) (.Subscript x sl p)
 | slc {sc:M0}{N:List Str}{a:BT.E}{lo hi:BT.Es}{x:MJ}{l u:Option MJ}{p2 p:Pos} (ha:CE' sc N a x) (hl:CO sc N lo l) (hu:CO sc N hi u):CE' sc N (.slc a lo hi) (.Subscript x (.Slice l u none p2) p)
 | call {sc:M0}{N:List Str}{f:Str}{as:BT.Es}{es:List MJ}{np p:Pos} (hg:aT sc f=true) (hn:aH f=true) (ha:CEs sc N as es):CE' sc N (.call f as) (.Call (.Name f np) es [] p)
 | bi {sc:M0}{N:List Str}{b:BT.Bi}{mu:Bool}{x:Str}{a:BT.E}{e:MJ}{np p:Pos} (hu:dI N=true) (hb:Cq b mu x=true) (hg:aT sc x=true) (hs:noStar e=true) (ha:CE' sc N a e):CE' sc N (.bi b mu (.cons a .nil)) (.Call (.Name x np) [e] [] p)
 | inst {sc:M0}{N:List Str}{b:BT.Bi}{c:String}{f:BT.D->Bool}{a:BT.E}{e:MJ}{np p2 p:Pos} (hb:oU b=some (c,f)) (hg:aT sc "isinstance"=true) (hg2:aT sc (MU c)=true) (hs:noStar e=true) (ha:CE' sc N a e) :
  CE' sc N (.bi b false (.cons a .nil)) (.Call (.Name "isinstance" np) [e,.Name (MU c) p2] [] p)
 | isx {sc:M0}{N:List Str}{cn:Str}{a:BT.E}{e:MJ}{np p2 p:Pos} (hx:wM cn=true) (hn:aH cn=true) (hg:aT sc "isinstance"=true) (hg2:aT sc cn=true) (hs:noStar e=true) (ha:CE' sc N a e) :
  CE' sc N (.isx cn a) (.Call (.Name "isinstance" np) [e,.Name cn p2] [] p)
 | me {sc:M0}{N:List Str}{m:BT.Me}{o:BT.E}{as:BT.Es}{oe:MJ}{name:Str}{apos cpos:Pos}{es:List MJ} (h1:Aq m o=true) (h2:name=wK m) (h3:aO oe=true) (h6:(apos.endLine==cpos.line)=true) (h7:es.length < 20) (ho:CE' sc N o oe) (ha:CEs sc N as es) :
  CE' sc N (.me m o as) (.Call (.Attribute oe name apos) es [] cpos)
 | comp {sc:M0}{N:List Str}{mu:Bool}{sr:BT.Sr}{sa:BT.Es}{tg:List Str}{fv:List (Nat×Str)}{cond:BT.Es}{elt:BT.E}{te iter elt':MJ}{ifs:List MJ}{scope:M0}{pos:Pos}
  (hu:dI N=true) (hk:gU sc N tg fv scope=true) (ht:oX (br scope sc) tg te=true) (hz:oW sr te=true) (hs:gS iter=true) (hi:CI sc N sr sa iter)
  (hc:CC (br scope sc) (tg++fv.map (·.2)) cond ifs) (he:CE' (br scope sc) (tg++fv.map (·.2)) elt elt'):CE' sc N (.comp mu sr sa tg fv cond elt) (.ListComp elt' [⟨te,iter,ifs,0⟩] scope pos)
 | fld {sc:M0}{N:List Str}{a:BT.E}{f:Str}{x:MJ}{p:Pos} (hb:aO x=true) (hf:attrName f=true) (ha:CE' sc N a x):CE' sc N (.fld a f) (.Attribute x f p)
 | meth {sc:M0}{N:List Str}{o:BT.E}{m:Str}{as:BT.Es}{oe:MJ}{apos cpos:Pos}{es:List MJ} (h3:aO oe=true) (h6:(apos.endLine==cpos.line)=true) (h7:es.length < 20) (ho:CE' sc N o oe) (ha:CEs sc N as es) :
  CE' sc N (.meth o m as) (.Call (.Attribute oe m apos) es [] cpos)
 | stp {sc:M0}{N:List Str}{mu:Bool}{k:Int}{a:BT.E}{x se:MJ}{p2 p:Pos} (hk:ni k se=true) (ha:CE' sc N a x):CE' sc N (.stp mu k a) (.Subscript x (.Slice none none (some se) p2) p)
 | bi2 {sc:M0}{N:List Str}{b:BT.Bi}{x:Str}{a1 a2:BT.E}{e1 e2:MJ}{np p:Pos} (hu:dI N=true) (hb:wJ b x=true) (hg:aT sc x=true) (hs1:noStar e1=true) (hs2:noStar e2=true) (h1:CE' sc N a1 e1) (h2:CE' sc N a2 e2) :
  CE' sc N (.bi b false (.cons a1 (.cons a2 .nil))) (.Call (.Name x np) [e1,e2] [] p)
 | make {sc:M0}{N:List Str}{c:Str}{as:BT.Es}{es:List MJ}{np p:Pos} (hg:aT sc c=true) (hn:aH c=true) (ha:CEs sc N as es):CE' sc N (.make c as) (.Call (.Name c np) es [] p)
inductive CEs:M0->List Str->BT.Es->List MJ->Prop where
 | nil {sc:M0}{N:List Str}:CEs sc N .nil []
 | cons {sc:M0}{N:List Str}{a:BT.E}{as:BT.Es}{e:MJ}{es:List MJ} (hs:noStar e=true) (ha:CE' sc N a e) (hr:CEs sc N as es):CEs sc N (.cons a as) (e :: es)
inductive CO:M0->List Str->BT.Es->Option MJ->Prop where
 | nil {sc:M0}{N:List Str}:CO sc N .nil none
 | one {sc:M0}{N:List Str}{a:BT.E}{e:MJ} (ha:CE' sc N a e):CO sc N (.cons a .nil) (some e)
inductive CC:M0->List Str->BT.Es->List MJ->Prop where
 | nil {sc:M0}{N:List Str}:CC sc N .nil []
 | one {sc:M0}{N:List Str}{a:BT.E}{e:MJ} (ht:tOK a=true) (ha:CE' sc N a e):CC sc N (.cons a .nil) [e]
inductive CI:M0->List Str->BT.Sr->BT.Es->MJ->Prop where
 | rng1 {sc:M0}{N:List Str}{a:BT.E}{e:MJ}{p pos:Pos} (hg:aT sc "range"=true) (hs:noStar e=true) (h:CE' sc N a e):CI sc N .rng1 (.cons a .nil) (.Call (.Name "range" p) [e] [] pos)
 | rev {sc:M0}{N:List Str}{a:BT.E}{e:MJ}{p pos:Pos} (hg:aT sc "reversed"=true) (hs:noStar e=true) (h:CE' sc N a e):CI sc N .rev (.cons a .nil) (.Call (.Name "reversed" p) [e] [] pos)
 | seq {sc:M0}{N:List Str}{a:BT.E}{x:MJ} (h:CE' sc N a x):CI sc N .seq (.cons a .nil) x
end
inductive LPa:OU->List Str->Prop where
 | one {p:Pos}:LPa ⟨[],[⟨"state",none,p⟩],none,[],[],none,[]⟩ ["state"]
 | two {p q:Pos}:LPa ⟨[],[⟨"row",none,p⟩,⟨"state",none,q⟩],none,[],[],none,[]⟩ ["row","state"]
noncomputable def oY (ps fs:List Str) (sc:M0):Bool :=
 sc.kind==.function&&!sc.isCoroutine&&!sc.isGenerator&&sc.names.all (fun y=>!(y.2==.cell))&&ps.all (fun x=>sc.names.lookup x==some .local) &&
 fs.all (fun x=>sc.names.lookup x==some .free&&sc.names.contains (x,.free))&&sc.names.all (fun y=>!(y.2==.free)||fs.contains y.1)&&gT (ps++fs)
noncomputable def Hu (sc:M0) (N:List Str) (fv:List (Nat×Str)):Bool:=fv.all fun q=>N[q.1]?==some q.2&&sc.names.lookup q.2==some .cell
inductive CL (sc:M0) (N:List Str):BT.E->Str->BT.Es->Nat->List (Nat×Str)->MJ->Prop where
 | zero {o bt:BT.E}{m:Str}{L:Nat}{fv:List (Nat×Str)}{oe be:MJ}{apos cpos lp:Pos}{pa:OU}{scope:M0}{ns ps:List Str} (hl:BT.oS L=some ⟨ns,ns,.ret bt⟩) (hp:LPa pa ps) (hn:ns=ps++fv.map (·.2)) (hk:oY ps (fv.map (·.2)) scope=true) (hv:Hu sc N fv=true)
  (ht:N.contains (BT.bZ (BT.Ck L))=true) (hc:CE' scope ns bt be) (h3:aO oe=true) (h6:(apos.endLine==cpos.line)=true) (ho:CE' sc N o oe):CL sc N o m .nil L fv (.Call (.Attribute oe m apos) [.Lambda pa be scope lp] [] cpos)
 | one {o bt a:BT.E}{m:Str}{L:Nat}{fv:List (Nat×Str)}{oe be e:MJ}{apos cpos lp:Pos}{pa:OU}{scope:M0}{ns ps:List Str} (hl:BT.oS L=some ⟨ns,ns,.ret bt⟩) (hp:LPa pa ps) (hn:ns=ps++fv.map (·.2)) (hk:oY ps (fv.map (·.2)) scope=true) (hv:Hu sc N fv=true)
  (ht:N.contains (BT.bZ (BT.Ck L))=true) (hc:CE' scope ns bt be) (h3:aO oe=true) (h6:(apos.endLine==cpos.line)=true) (ho:CE' sc N o oe) (hs:noStar e=true) (ha:CE' sc N a e):CL sc N o m (.cons a .nil) L fv (.Call (.Attribute oe m apos) [e,.Lambda pa be scope lp] [] cpos)
end BS
end
section
namespace BS
open PySem PySem.Spec PyProof.Rows L2
noncomputable def KT (K:MI) (a:MN) (xs:List V):Prop :=
 ∃ (o:Obj) (its:Array Value) (n:Nat),(K.lookup a=some o/\o.cls=.type "tuple"/\o.data=.seq its n/\its.size<=sizeLine/\ao xs its.toList)/\o.dict=none
noncomputable def KL (K:MI) (a:MN) (xs:List V):Prop:=∃ (its:List Value) (n:Nat),K.lookup a=some { cls:=.type "list",data:=.seq its.toArray n }/\its.length<=sizeLine/\ao xs its
noncomputable def LL (K:MI) (H:Hp) (a:MN) (xs:List V):Prop:=Rd H a (.lst xs)\/KL K a xs
theorem LL.sq {K:MI}{H:Hp}{a:MN}{xs:List V} (h:LL K H a xs):SqL K H a xs:=by
 rcases h with h | ⟨its,n,h1,h2,h3⟩
 ·exact .inl h
 ·exact .inr ⟨_,its.toArray,n,h1,rfl,rfl,rfl,by simpa using h2,by simpa using h3⟩
noncomputable def KD (P:MP) (w:M7) (K:MI) (a:MN) (es:List (Str×V)):Prop :=
 (a==QC)=false/\∃ vs:List (Key×Value),KV (es.map fun q=>(Sum.inr q.1,q.2)) vs/\∀ h:Heap,K.In h->h.DictOf (cE P w) a vs
mutual
inductive RD (K:MI) (m:List MN) (H:Hp):V->BT.D->Prop where
 | non:RD K m H .non .non
 | bl (b:Bool):RD K m H (.bl b) (.bl b)
 | int (i:Int):RD K m H (.int i) (.int i)
 | str (x:Str) (h:PyData.strOk x=true):RD K m H (.str x) (.str x)
 | tup {a:MN}{vs:List V}{ds:List BT.D} (h:(Rd H a (.tup vs)/\a∉m)\/KT K a vs) (r:RDs K m H vs ds):RD K m H (.ref a) (.tup ds)
 | lst {a:MN}{vs:List V}{ds:List BT.D} (h:(Rd H a (.lst vs)/\a∉m)\/KL K a vs) (r:RDs K m H vs ds):RD K m H (.ref a) (.lst ds)
inductive RDs (K:MI) (m:List MN) (H:Hp):List V->List BT.D->Prop where
 | nil:RDs K m H [] []
 | cons {v:V}{d:BT.D}{vs:List V}{ds:List BT.D} (r:RD K m H v d) (t:RDs K m H vs ds):RDs K m H (v :: vs) (d :: ds)
end
inductive RDk (K:MI):List (Str×V)->List (Str×BT.D)->Prop where
 | nil:RDk K [] []
 | cons {x:Str}{v:V}{d:BT.D}{es:List (Str×V)}{kvs:List (Str×BT.D)} (r:∀ m H,RD K m H v d) (t:RDk K es kvs):RDk K ((x,v) :: es) ((x,d) :: kvs)
inductive RA (K:MI) (m:List MN) (H:Hp):V->BT.W->Prop where
 | p {v:V}{d:BT.D} (r:RD K m H v d):RA K m H v (.p d)
 | r {a:MN}{n:Nat} (h:m[n]?=some a):RA K m H (.ref a) (.r n)
 | o {a:MN}{n:Nat} (h:m[n]?=some a):RA K m H (.ref a) (.o n)
noncomputable def Tr (m:List MN) (H:Hp) (a:MN) (o:Obj):Prop:=H a=some (.frz o (.own 0))/\a∉m
noncomputable def Lj (x:Str):Str:=x++".<locals>."++"<lambda>"
inductive fX (m:List MN) (H:Hp) (cl:List (Str×MN)):List Str->List V->Prop where
 | nil:fX m H cl [] []
 | cons {x:Str}{c:MN}{o:Obj}{u:Value}{v:V}{xs:List Str}{vs:List V} (h1:cl.lookup x=some c) (h2:Tr m H c o) (h3:o.data=.cell (some u)) (r:RelV v u) (t:fX m H cl xs vs):fX m H cl (x :: xs) (v :: vs)
noncomputable def jo (m:List MN) (H:Hp) (f:MN) (L:Nat) (vs:List V):Prop :=
 ∃ bt ps fs pa be sc cl pm ctv c' oc os t q,BT.oS L=some ⟨ps++fs,ps++fs,.ret bt⟩/\LPa pa ps/\oY ps fs sc=true/\CE' sc (ps++fs) bt be/\(∀ x y c,cl.lookup x=some c->cl.lookup y=some c->x=y)/\(∀ x c,cl.lookup x=some c->x∈fs) ∧
  Tr m H f (PySem.W.kla_obj "<lambda>" q pa be sc cl pm c' ctv)/\Tr m H c' oc/\oc.data=.fields os/\os[1]?=some (.str q t)/\fX m H cl fs vs
inductive RCs (K:MI) (m:List MN) (H:Hp):List V->List BT.Cp->Prop where
 | nil:RCs K m H [] []
 | cons {v:V}{x:BT.Cp}{vs:List V}{xs:List BT.Cp} (r:RA K m H v x.w) (t:RCs K m H vs xs):RCs K m H (v :: vs) (x :: xs)
noncomputable def TB (K:MI) (H:Hp):Prop:=∀ x∈BT.ef,∀ c P,NV K x=some (c,P)->∃ ps,H P=some (.tbl ps)/\TriplesOk ps.toList ∧
 ∀ pos v,codeAmong pos ps.toList=some v->∃ c' oc os t,v=.ref c'/\H c'=some (.frz oc (.own 0))/\oc.data=.fields os/\os[1]?=some (.str (Lj x) t)
theorem TB.mono {K:MI}{H H':Hp} (h:TB K H) (h1:∀ P ps,H P=some (.tbl ps)->H' P=some (.tbl ps)) (h2:∀ a o vs,o.data=.fields vs->H a=some (.frz o (.own 0))->H' a=some (.frz o (.own 0))):TB K H':=fun x hx c P e=>by
 obtain ⟨ps,e1,e2,e3⟩:=h x hx c P e
 refine ⟨ps,h1 _ _ e1,e2,fun pos v q=>?_⟩
 obtain ⟨c',oc,os,t,q1,q2,q3⟩:=e3 pos v q
 exact ⟨c',oc,os,t,q1,h2 _ _ _ q3.1 q2,q3⟩
noncomputable def CN (K:MI) (c:Str) (C:MN):Prop:=Nr K MX c=some (some (.ref C))
structure XT (K:MI) (c:Str) (C:MN):Prop where
 ga:Nc K (.ref C) "__getattribute__"=some (some (.builtin "BaseException.__getattribute__"))
 nga:Nc K (.ref C) "__getattr__"=some none
 mrb:PN K C (.type "BaseException")=some true
 dct:Oi K C=true
 fnd:Nc K (.ref C) "__class__"=some (some (.builtin "object.__class__"))
 spc:Rq K (.builtin "object.__class__") "__get__"=some (some (.builtin "getset_descriptor.__get__"))
 tak:RZ K (.builtin "object.__class__")=some true
 mro:PN K C (.type "object")=some true
 own:∀ cn,eB cn=true->∃ D,CN K cn D/\NQ K (.ref C) (.ref D)=some (BT.j6 c cn)
 val:NQ K (.ref C) (.type "ValueError")=some true
noncomputable def excAt (K:MI) (c:Str) (a:MN):Heap->Prop:=fun h=>∃ o C,CN K c C/\XT K c C/\h.get? a=some o/\o.cls=.ref C
inductive RW (P:MP) (w:M7) (K:MI) (m:List MN) (H:Hp):V->BT.W->Prop where
 | p {v:V}{d:BT.D} (r:RD K m H v d):RW P w K m H v (.p d)
 | r {a:MN}{n:Nat} (h:m[n]?=some a):RW P w K m H (.ref a) (.r n)
 | k {a:MN}{es:List (Str×V)}{kvs:List (Str×BT.D)} (h:KD P w K a es) (r:RDk K es kvs):RW P w K m H (.ref a) (.k kvs)
 | o {a:MN}{n:Nat} (h:m[n]?=some a):RW P w K m H (.ref a) (.o n)
 | c {f:MN}{L:Nat}{vs:List V}{cs:List BT.Cp} (h:jo m H f L vs) (r:RCs K m H vs cs):RW P w K m H (.ref f) (.c (.l L) cs)
 | x {a:MN}{c:Str} (h:H a=some (.ext (excAt K c a))) (n:a∉m) (xt:∃ C,XT K c C):RW P w K m H (.ref a) (.x c)
 | g {f:MN}{x:Str} (h:Nr K MX x=some (some (.ref f))) (r:Nb K (.ref f)=true):RW P w K m H (.ref f) (.c (.f x) [])
inductive RFs (K:MI) (m:List MN) (H:Hp):List (Str×V)->List (Str×BT.W)->Prop where
 | nil:RFs K m H [] []
 | cons {f:Str}{v:V}{x:BT.W}{vs:List (Str×V)}{fs:List (Str×BT.W)} (r:RA K m H v x) (t:RFs K m H vs fs):RFs K m H ((f,v) :: vs) ((f,x) :: fs)
inductive RKs (K:MI) (m:List MN) (H:Hp):List (Key×V)->List (BT.Ky×BT.D)->Prop where
 | nil:RKs K m H [] []
 | cons {k:Key}{v:V}{d:BT.D}{vs:List (Key×V)}{kvs:List (BT.Ky×BT.D)} (hk:RD K m H (kV k) (BT.Ab k)) (r:RD K m H v d) (t:RKs K m H vs kvs):RKs K m H ((k,v) :: vs) ((k,d) :: kvs)
theorem CN.inj {K:MI}{c:Str}{C C':MN} (h:CN K c C) (h':CN K c C'):C=C':=by
 have e:=h.symm.trans h'
 simpa using e
structure iJ (K:MI) (c:Str) (C:MN):Prop where
 cn:CN K c C
 cls:Cls K C
 no:∀ f,attrName f=true->fS K C f
noncomputable def fY (K:MI) (m:List MN) (H:Hp) (a:MN):BT.Cl->Prop
 | .l xs=>∃ vs,H a=some (.lst vs)/\RDs K m H vs xs
 | .o c fs=>∃ C dx vs,H a=some (.ins C dx vs)/\iJ K c C/\RFs K m H vs fs
 | .d kvs=>∃ vs,H a=some (.dK vs)/\RKs K m H vs kvs
inductive RWs (P:MP) (w:M7) (K:MI) (m:List MN) (H:Hp):List V->List BT.W->Prop where
 | nil:RWs P w K m H [] []
 | cons {v:V}{x:BT.W}{vs:List V}{xs:List BT.W} (r:RW P w K m H v x) (t:RWs P w K m H vs xs):RWs P w K m H (v :: vs) (x :: xs)
structure RH (K:MI) (m:List MN) (H:Hp) (h:BT.HH):Prop where
 nd:m.Nodup
 len:m.length=h.length
 cl:∀ (i:Nat) (a:MN) (c:BT.Cl),m[i]?=some a->h[i]?=some c->fY K m H a c
 tb:TB K H
theorem wN {h:BT.HH}{n:Nat}{xs:List BT.D} (e:BT.lat h n=some xs):h[n]?=some (.l xs):=by
 unfold BT.lat at e
 cases g:h[n]? with
 | none=>rw[g] at e;cases e
 | some c=>rw[g] at e;cases c<;>simp[BT.mV] at e;rw[e]
theorem wO {h:BT.HH}{n:Nat}{c:Str}{fs:List (Str×BT.W)} (e:BT.oat h n=some (c,fs)):h[n]?=some (.o c fs):=by
 unfold BT.oat at e
 cases g:h[n]? with
 | none=>rw[g] at e;cases e
 | some c=>rw[g] at e;cases c<;>simp[BT.oN] at e;rw[e.1,e.2]
theorem RH.cell {K:MI}{m:List MN}{H:Hp}{h:BT.HH} (R:RH K m H h) (i:Nat) (a:MN) (xs:List BT.D) (e:m[i]?=some a) (g:BT.lat h i=some xs):∃ vs,H a=some (.lst vs)/\RDs K m H vs xs:=R.cl i a _ e (wN g)
theorem RH.lY {K:MI}{m:List MN}{H:Hp}{h:BT.HH} (R:RH K m H h) (i:Nat) (a:MN) (c:Str) (fs:List (Str×BT.W)) (e:m[i]?=some a) (g:BT.oat h i=some (c,fs)):∃ C dx vs,H a=some (.ins C dx vs)/\iJ K c C/\RFs K m H vs fs:=R.cl i a _ e (wO g)
structure RS (P:MP) (w:M7) (K:MI) (m:List MN) (H:Hp) (σ:L2.St) (s:BT.Sl):Prop where
 len:σ.length=s.length
 get:∀ (i:Nat) (x:BT.W),s[i]?=some (some x)->∃ v,σ[i]?=some (some v)/\RW P w K m H v x
noncomputable def Cr:HO->Bool
 | .tbl _=>true
 | _=>false
structure Ext (m:List MN) (H:Hp) (m':List MN) (H':Hp):Prop where
 pre:∃ e,m'=m++e/\∀ a∈e,H a=none
 keep:∀ a o,H a=some o->a∉m->Cr o=false->H' a=some o
 live:∀ a,H' a=none->H a=none
theorem Ext.refl (m:List MN) (H:Hp):Ext m H m H:=⟨⟨[],by simp,by simp⟩,fun _ _ h _ _=>h,fun _ h=>h⟩
theorem Ext.gH {m m':List MN}{H H':Hp} (x:Ext m H m' H') {a:MN}{o:HO} (h:H a=some o) (n:a∉m):a∉m':=by
 obtain ⟨e,rfl,he⟩:=x.pre
 intro q
 rcases List.mem_append.mp q with q | q
 ·exact n q
 ·rw[he a q] at h;cases h
theorem Ext.trans {m m1 m2:List MN}{H H1 H2:Hp} (x:Ext m H m1 H1) (y:Ext m1 H1 m2 H2):Ext m H m2 H2:=by
 obtain ⟨e,rfl,he⟩:=x.pre
 obtain ⟨e',rfl,he'⟩:=y.pre
 refine ⟨⟨e++e',by rw[N9],fun a ha=>?_⟩,fun a o h n t=>y.keep a o (x.keep a o h n t) (x.gH h n) t,fun a h=>x.live a (y.live a h)⟩
 rcases List.mem_append.mp ha with q | q
 ·exact he a q
 ·exact x.live a (he' a q)
theorem Rd.ext {m m':List MN}{H H':Hp} (x:Ext m H m' H') {a:MN}{u:HO} (h:Rd H a u) (n:a∉m) (t:Cr u=false:=by rfl):Rd H' a u/\a∉m':=by
 rcases h with h | ⟨o,h⟩
 ·exact ⟨.inl (x.keep _ _ h n t),x.gH h n⟩
 ·exact ⟨.inr ⟨o,x.keep _ _ h n rfl⟩,x.gH h n⟩
theorem Tr.ext {m m':List MN}{H H':Hp} (x:Ext m H m' H') {a:MN}{o:Obj} (h:Tr m H a o):Tr m' H' a o:=⟨x.keep _ _ h.1 h.2 rfl,x.gH h.1 h.2⟩
theorem fX.ext {m m':List MN}{H H':Hp} (x:Ext m H m' H') {cl:List (Str×MN)}{xs:List Str}{vs:List V} (r:fX m H cl xs vs):fX m' H' cl xs vs:=by
 induction r with
 | nil=>exact .nil
 | cons h1 h2 h3 r t ih=>exact .cons h1 (h2.ext x) h3 r ih
theorem jo.ext {m m':List MN}{H H':Hp} (x:Ext m H m' H') {f:MN}{L:Nat}{vs:List V} (h:jo m H f L vs):jo m' H' f L vs:=by
 obtain ⟨bt,ps,fs,pa,be,sc,cl,pm,ctv,c',oc,os,t,q,h0,h1,h2,h3,h4,h5,h6,h7,h8,h9,h10⟩:=h
 exact ⟨bt,ps,fs,pa,be,sc,cl,pm,ctv,c',oc,os,t,q,h0,h1,h2,h3,h4,h5,h6.ext x,h7.ext x,h8,h9,h10.ext x⟩
section
variable {P:MP}{w:M7}{K:MI}{m m':List MN}{H H':Hp}
mutual
theorem RD.ext (x:Ext m H m' H'):∀ {v:V}{d:BT.D},RD K m H v d->RD K m' H' v d
 | _,_,.non=>.non
 | _,_,.bl b=>.bl b
 | _,_,.int i=>.int i
 | _,_,.str y h=>.str y h
 | _,_,.tup h r=>.tup (h.elim (fun q=>.inl (Rd.ext x q.1 q.2)) .inr) (RDs.ext x r)
 | _,_,.lst h r=>.lst (h.elim (fun q=>.inl (Rd.ext x q.1 q.2)) .inr) (RDs.ext x r)
theorem RDs.ext (x:Ext m H m' H'):∀ {vs:List V}{ds:List BT.D},RDs K m H vs ds->RDs K m' H' vs ds
 | _,_,.nil=>.nil
 | _,_,.cons r t=>.cons (RD.ext x r) (RDs.ext x t)
end
theorem RA.rw {v:V}{d:BT.W} (r:RA K m H v d):RW P w K m H v d:=by
 cases r with
 | p r=>exact .p r
 | r h=>exact .r h
 | o h=>exact .o h
theorem RW.ra {v:V}{d:BT.W} (r:RW P w K m H v d) (h0:BT.attrOk d=true):RA K m H v d:=by
 cases r with
 | p r=>exact .p r
 | r h=>exact .r h
 | o h=>exact .o h
 | k _ _=>cases h0
 | c _ _=>cases h0
 | x _=>cases h0
 | g _ _=>cases h0
theorem Ext.ix (x:Ext m H m' H') {n:Nat}{a:MN} (h:m[n]?=some a):m'[n]?=some a:=by
 obtain ⟨e,rfl,_⟩:=x.pre
 rw[MO (by rcases M4 _ m.length with q | q;exact q;rw[MS q] at h;cases h)]
 exact h
theorem RA.ext (x:Ext m H m' H') {v:V}{d:BT.W} (r:RA K m H v d):RA K m' H' v d:=by
 cases r with
 | p r=>exact .p (r.ext x)
 | r h=>exact .r (x.ix h)
 | o h=>exact .o (x.ix h)
theorem RCs.ext (x:Ext m H m' H') {vs:List V}{cs:List BT.Cp} (r:RCs K m H vs cs):RCs K m' H' vs cs:=by
 induction r with
 | nil=>exact .nil
 | cons r t ih=>exact .cons (r.ext x) ih
theorem RW.ext (x:Ext m H m' H') {v:V}{d:BT.W} (r:RW P w K m H v d):RW P w K m' H' v d:=by
 cases r with
 | p r=>exact .p (r.ext x)
 | r h =>
  obtain ⟨e,rfl,_⟩:=x.pre
  refine .r ?_
  rw[MO (by rcases M4 _ m.length with q | q;exact q;rw[MS q] at h;cases h)]
  exact h
 | k h r=>exact .k h r
 | c h r=>exact .c (h.ext x) (r.ext x)
 | g h r=>exact .g h r
 | x h n xt=>exact .x (x.keep _ _ h n rfl) (x.gH h n) xt
 | o h =>
  obtain ⟨e,rfl,_⟩:=x.pre
  refine .o ?_
  rw[MO (by rcases M4 _ m.length with q | q;exact q;rw[MS q] at h;cases h)]
  exact h
theorem RFs.ext (x:Ext m H m' H') {vs:List (Str×V)}{fs:List (Str×BT.W)} (r:RFs K m H vs fs):RFs K m' H' vs fs:=by
 induction r with
 | nil=>exact .nil
 | cons r t ih=>exact .cons (r.ext x) ih
theorem RKs.ext (x:Ext m H m' H') {vs:List (Key×V)}{kvs:List (BT.Ky×BT.D)} (r:RKs K m H vs kvs):RKs K m' H' vs kvs:=by
 induction r with
 | nil=>exact .nil
 | cons hk r t ih=>exact .cons (hk.ext x) (r.ext x) ih
theorem fY.ext (x:Ext m H m' H') {a:MN} (e:H' a=H a) {c:BT.Cl} (r:fY K m H a c):fY K m' H' a c:=by
 cases c with
 | l xs=>obtain ⟨vs,h1,h2⟩:=r;exact ⟨vs,e.trans h1,h2.ext x⟩
 | o c fs=>obtain ⟨C,dx,vs,h1,h2,h3⟩:=r;exact ⟨C,dx,vs,e.trans h1,h2,h3.ext x⟩
 | d kvs=>obtain ⟨vs,h1,h2⟩:=r;exact ⟨vs,e.trans h1,h2.ext x⟩
theorem fY.some {a:MN}{c:BT.Cl} (r:fY K m H a c):∃ o,H a=some o:=by
 cases c with
 | l xs=>obtain ⟨vs,h1,h2⟩:=r;exact ⟨_,h1⟩
 | o c fs=>obtain ⟨C,dx,vs,h1,h2,h3⟩:=r;exact ⟨_,h1⟩
 | d kvs=>obtain ⟨vs,h1,h2⟩:=r;exact ⟨_,h1⟩
theorem RWs.ext (x:Ext m H m' H') {vs:List V}{ds:List BT.W} (r:RWs P w K m H vs ds):RWs P w K m' H' vs ds:=by
 induction r with
 | nil=>exact .nil
 | cons r t ih=>exact .cons (r.ext x) ih
theorem RS.ext (x:Ext m H m' H') {σ:L2.St}{s:BT.Sl} (r:RS P w K m H σ s):RS P w K m' H' σ s :=
 ⟨r.len,fun i y e=>by obtain ⟨v,h,q⟩:=r.get i y e;exact ⟨v,h,q.ext x⟩⟩
theorem RDs.length:∀ {vs:List V}{ds:List BT.D},RDs K m H vs ds->vs.length=ds.length
 | _,_,.nil=>rfl
 | _,_,.cons _ t=>by rw[M5,M5,RDs.length t]
theorem RWs.length:∀ {vs:List V}{ds:List BT.W},RWs P w K m H vs ds->vs.length=ds.length
 | _,_,.nil=>rfl
 | _,_,.cons _ t=>by rw[M5,M5,RWs.length t]
theorem RDs.get:∀ {vs:List V}{ds:List BT.D}{i:Nat}{d:BT.D},RDs K m H vs ds->ds[i]?=some d->∃ v,vs[i]?=some v/\RD K m H v d
 | _,_,_,_,.nil,e=>by simp at e
 | _,_,0,_,.cons r _,e=>by simp at e;subst e;exact ⟨_,rfl,r⟩
 | _,_,i+1,d,.cons _ t,e=>by
  obtain ⟨u,h1,h2⟩:=RDs.get (i:=i) (d:=d) t (by simpa using e)
  exact ⟨u,by simpa using h1,h2⟩
theorem RDs.append:∀ {vs ws:List V}{ds es:List BT.D},RDs K m H vs ds->RDs K m H ws es->RDs K m H (vs++ws) (ds++es)
 | _,_,_,_,.nil,s=>s
 | _,_,_,_,.cons r t,s=>.cons r (RDs.append t s)
theorem RDs.take:∀ {vs:List V}{ds:List BT.D} (n:Nat),RDs K m H vs ds->RDs K m H (vs.take n) (ds.take n)
 | _,_,0,_=>.nil
 | _,_,_+1,.nil=>.nil
 | _,_,n+1,.cons r t=>.cons r (RDs.take n t)
theorem RDs.drop:∀ {vs:List V}{ds:List BT.D} (n:Nat),RDs K m H vs ds->RDs K m H (vs.drop n) (ds.drop n)
 | _,_,0,r=>r
 | _,_,_+1,.nil=>.nil
 | _,_,n+1,.cons _ t=>RDs.drop n t
theorem RDs.set {v:V}{d:BT.D} (r:RD K m H v d):∀ {vs:List V}{ds:List BT.D} (i:Nat),RDs K m H vs ds->RDs K m H (vs.set i v) (ds.set i d)
 | _,_,_,.nil=>.nil
 | _,_,0,.cons _ t=>.cons r t
 | _,_,i+1,.cons q t=>.cons q (RDs.set r i t)
theorem RDs.pick {vs:List V}{ds:List BT.D} (r:RDs K m H vs ds):∀ l:List Nat,RDs K m H (l.filterMap fun i=>vs[i]?) (l.filterMap fun i=>ds[i]?)
 | []=>.nil
 | i :: l=>by
  rw[NI,NI]
  cases g:ds[i]? with
  | none =>
   have:vs[i]?=none:=by
    have h:=r.length
    rw[QM] at g ⊢
    omega
   rw[this]
   exact RDs.pick r l
  | some d =>
   obtain ⟨v,e,q⟩:=r.get g
   rw[e]
   exact .cons q (RDs.pick r l)
theorem RDs.dropLast:∀ {vs:List V}{ds:List BT.D},RDs K m H vs ds->RDs K m H vs.dropLast ds.dropLast
 | _,_,.nil=>.nil
 | _,_,.cons _ .nil=>.nil
 | _,_,.cons r (.cons q t)=>.cons r (RDs.dropLast (.cons q t))
theorem RDs.rep {vs:List V}{ds:List BT.D} (r:RDs K m H vs ds):∀ k:Nat,RDs K m H (MY k vs).flatten (MY k ds).flatten
 | 0=>.nil
 | k+1=>by
  rw[NB,NB,N8,N8]
  exact RDs.append r (RDs.rep r k)
theorem lZ {N:List MN} (hN:N.Nodup) {i j:Nat}{x:MN} (a:N[i]?=some x) (b:N[j]?=some x):i=j:=by
 have hi:i < N.length:=by
  rcases M4 i N.length with z | z
  ·exact z
  ·rw[MS z] at a;cases a
 have hj:j < N.length:=by
  rcases M4 j N.length with z | z
  ·exact z
  ·rw[MS z] at b;cases b
 rw[MT hi] at a
 rw[MT hj] at b
 exact (List.getElem_inj hN).mp ((MV a).trans (MV b).symm)
inductive RR (K:MI) (m:List MN) (H:Hp):V->BT.D->Prop where
 | d {v:V}{d:BT.D} (r:RD K m H v d):RR K m H v d
 | l {a:MN}{vs:List V}{ds:List BT.D} (h:H a=some (.lst vs)) (r:RDs K m H vs ds):RR K m H (.ref a) (.lst ds)
theorem aF {h:BT.HH} (RHh:RH K m H h) {v:V}{x:BT.W}{d:BT.D} (r:RW P w K m H v x) (e:BT.rd x h=some d):RR K m H v d:=by
 cases r with
 | p r=>cases e;exact .d r
 | @r a n q =>
  simp only[BT.rd] at e
  cases g:BT.lat h n with
  | none=>rw[g] at e;cases e
  | some xs =>
   rw[g] at e
   cases e
   obtain ⟨vs,h1,h2⟩:=RHh.cell n a xs q g
   exact .l h1 h2
 | k _ _=>cases e
 | o _=>cases e
 | c _ _=>cases e
 | x _=>cases e
 | g _ _=>cases e
theorem RR.lst {v:V}{ds:List BT.D} (r:RR K m H v (.lst ds)):∃ a vs,v=.ref a/\LL K H a vs/\RDs K m H vs ds:=by
 cases r with
 | d r=>cases r with | lst h r=>exact ⟨_,_,rfl,h.elim (fun q=>.inl q.1) .inr,r⟩
 | l h r=>exact ⟨_,_,rfl,.inl (.inl h),r⟩
theorem RR.tup {v:V}{ds:List BT.D} (r:RR K m H v (.tup ds)):∃ a vs,v=.ref a/\SqT K H a vs/\RDs K m H vs ds:=by
 cases r with
 | d r=>cases r with | tup h r=>exact ⟨_,_,rfl,h.elim (fun q=>.inl q.1) (fun ⟨o,its,n,q,_⟩=>.inr ⟨o,its,n,q⟩),r⟩
theorem RR.int {v:V}{i:Int} (r:RR K m H v (.int i)):v=.int i:=by
 cases r with | d r=>cases r;rfl
theorem RR.str {v:V}{x:Str} (r:RR K m H v (.str x)):v=.str x/\PyData.strOk x=true:=by
 cases r with | d r=>cases r with | str _ h=>exact ⟨rfl,h⟩
theorem RR.bl {v:V}{b:Bool} (r:RR K m H v (.bl b)):v=.bl b:=by
 cases r with | d r=>cases r;rfl
theorem RR.non {v:V} (r:RR K m H v .non):v=.non:=by
 cases r with | d r=>cases r;rfl
theorem TB.new {p:MN}{o:HO} (hp:H p=none) {K:MI} (h:TB K H):TB K (upd H p o) :=
 h.mono (fun P ps e=>by rw[au (bq e hp)];exact e) fun a o _ _ e=>by rw[au (bq e hp)];exact e
theorem fL {p:MN}{o:HO} (hp:H p=none):Ext m H m (upd H p o) :=
 ⟨⟨[],by simp,by simp⟩,fun a q h _ _=>by rw[au (bq h hp)];exact h,fun a h=>by
  by_cases e:a=p
  ·rw[e];exact hp
  ·rw[au e] at h;exact h⟩
theorem RH.gH {h:BT.HH} (R:RH K m H h) {p:MN} (hp:H p=none):p∉m:=by
 intro q
 obtain ⟨i,hi⟩:=N7 q
 have hl:i < h.length:=by
  rw[← R.len]
  rcases M4 i m.length with z | z
  ·exact z
  ·rw[MS z] at hi;cases hi
 obtain ⟨o,e⟩:=(R.cl i p h[i] hi (MT hl)).some
 rw[e] at hp;cases hp
noncomputable def Le (H H':Hp):Prop:=∀ a u,H a=some u->H' a=some u
theorem Le.tb (q:Le H H') {K:MI} (t:TB K H):TB K H':=t.mono (fun _ _ e=>q _ _ e) fun _ _ _ _ e=>q _ _ e
theorem DP {p:MN}{o:HO} (hp:H p=none):Le H (upd H p o):=fun a u e=>by rw[au (bq e hp)];exact e
theorem RH.ext {h:BT.HH} (R:RH K m H h) (x:Ext m H m H') (k:Le H H'):RH K m H' h :=
 ⟨R.nd,R.len,fun i a c e1 e2=>by
  obtain ⟨o,e⟩:=(R.cl i a c e1 e2).some
  exact (R.cl i a c e1 e2).ext x (by rw[e];exact k _ _ e),k.tb R.tb⟩
noncomputable def Hv:HO->Bool
 | .lst _=>true
 | .ins _ _ _=>true
 | .dK _=>true
 | _=>false
theorem RH.mu {h:BT.HH} (R:RH K m H h) {a:MN} (ha:a∈m):∃ o,H a=some o/\Hv o=true:=by
 obtain ⟨i,hi⟩:=N7 ha
 have hl:i < h.length:=by
  rw[← R.len]
  rcases M4 i m.length with z | z
  ·exact z
  ·rw[MS z] at hi;cases hi
 have z:=R.cl i a h[i] hi (MT hl)
 cases g:h[i] with
 | l xs=>rw[g] at z;obtain ⟨vs,h1,h2⟩:=z;exact ⟨_,h1,rfl⟩
 | o c fs=>rw[g] at z;obtain ⟨C,dx,vs,h1,h2,h3⟩:=z;exact ⟨_,h1,rfl⟩
 | d kvs=>rw[g] at z;obtain ⟨vs,h1,h2⟩:=z;exact ⟨_,h1,rfl⟩
theorem RH.new {h:BT.HH} (R:RH K m H h) {p:MN}{o:HO} (hp:H p=none):RH K m (upd H p o) h :=
 R.ext (fL hp) (DP hp)
theorem iK {p:MN}{o:HO} (hp:H p=none):Ext m H (m++[p]) (upd H p o) :=
 ⟨⟨[p],rfl,by simpa using hp⟩,fun a q h _ _=>by rw[au (bq h hp)];exact h,fun a h=>by
  by_cases e:a=p
  ·rw[e];exact hp
  ·rw[au e] at h;exact h⟩
theorem RH.Hw {h:BT.HH} (R:RH K m H h) {p:MN}{o:HO}{c:BT.Cl} (hp:H p=none) (r:fY K (m++[p]) (upd H p o) p c):RH K (m++[p]) (upd H p o) (h++[c]):=by
 have np:=R.gH hp
 have x:Ext m H (m++[p]) (upd H p o):=iK hp
 refine ⟨List.nodup_append.mpr ⟨R.nd,by simp,fun a ha b hb=>by simp at hb;subst hb;exact fun e=>np (e ▸ ha)⟩,by simp[R.len],fun i a ys e1 e2=>?_,R.tb.new hp⟩
 by_cases c:i < m.length
 ·rw[MO c] at e1
  rw[MO (by rw[← R.len];exact c)] at e2
  have ne:a≠p:=by
   intro e
   subst e
   exact np (MZ e1)
  exact (R.cl i a ys e1 e2).ext x (au ne)
 ·have e:i=m.length:=by
   rcases M4 i (m++[p]).length with z | z
   ·simp at z;omega
   ·rw[MS z] at e1;cases e1
  subst e
  simp at e1
  rw[R.len] at e2
  simp at e2
  subst e1 e2
  exact r
theorem RH.Lk {h:BT.HH} (R:RH K m H h) {p:MN}{vs:List V}{xs:List BT.D} (hp:H p=none) (r:RDs K m H vs xs):RH K (m++[p]) (upd H p (.lst vs)) (h++[.l xs]) :=
 R.Hw hp ⟨vs,bx,r.ext (iK hp)⟩
theorem TB.set {a:MN}{o:HO} (hm:∃ u,H a=some u/\Hv u=true) {K:MI} (h:TB K H):TB K (upd H a o):=by
 obtain ⟨w,hw,hu⟩:=hm
 refine h.mono (fun P ps e=>?_) fun b ob _ _ e=>?_
 ·rw[au (fun z=>by subst z;rw[hw] at e;cases e;cases hu)];exact e
 ·rw[au (fun z=>by subst z;rw[hw] at e;cases e;cases hu)];exact e
theorem j9 {a:MN}{o:HO} (ha:a∈m):Ext m H m (upd H a o) :=
 ⟨⟨[],by simp,by simp⟩,fun b u q n _=>by
  have ne:b≠a:=by
   intro e
   subst e
   exact n ha
  rw[au ne];exact q,fun b q=>by
  by_cases e:b=a
  ·subst e;rw[bx] at q;cases q
  ·rw[au e] at q;exact q⟩
theorem fu {a:MN}{vs us:List V} (ha:a∈m) (h:H a=some (.lst us)):Ext m H m (upd H a (.lst vs)):=j9 ha
theorem RH.setC {h:BT.HH} (R:RH K m H h) {n:Nat}{a:MN}{o:HO}{c:BT.Cl} (hn:m[n]?=some a) (r:fY K m (upd H a o) a c):RH K m (upd H a o) (h.set n c):=by
 have x:Ext m H m (upd H a o):=j9 (MZ hn)
 refine ⟨R.nd,by simp[R.len],fun i b ys e1 e2=>?_,R.tb.set (R.mu (MZ hn))⟩
 by_cases c:i=n
 ·subst c
  rw[hn] at e1;cases e1
  have hl:i < h.length:=by
   rw[← R.len]
   rcases M4 i m.length with z | z
   ·exact z
   ·rw[MS z] at hn;cases hn
  rw[Nz hl] at e2
  cases e2
  exact r
 ·rw[Nl (Ne.symm c)] at e2
  have ne:b≠a:=by
   intro e
   subst e
   exact c (lZ R.nd e1 hn)
  exact (R.cl i b ys e1 e2).ext x (au ne)
theorem RH.set {h:BT.HH} (R:RH K m H h) {n:Nat}{a:MN}{vs us:List V}{xs:List BT.D} (hn:m[n]?=some a) (hH:H a=some (.lst us)) (r:RDs K m H vs xs):RH K m (upd H a (.lst vs)) (h.set n (.l xs)) :=
 R.setC hn ⟨vs,bx,r.ext (fu (MZ hn) hH)⟩
end
end BS
end
section
namespace BS
open PySem PySem.Spec PyProof.Rows L2 PySem.SeqAt
theorem jx {M:Model}{A:Nn}{E:Value->MK->Prop}{s:MK}{β:Type} (f:Nat->β->Sem (ForInStep β)) (n:Nat) (I:Nat->β->MK->Prop) (Q:β->MK->Prop)
 (turn:∀ i b s,i < n->I i b s->wpAny M A (f i b) (fun r s'=>match r with | .yield b'=>I (i+1) b' s' | .done b'=>Q b' s') E s)
 (fin:∀ b s,I n b s->Q b s) (b:β) (h:I 0 b s):wpAny M A (forIn [:n] b f) Q E s:=by
 rw[Std.Legacy.Range.forIn_eq_forIn_range']
 have e:RJ [:n].start [:n].size [:n].step=RJ 0 (n - 0):=by simp[Std.Legacy.Range.size]
 rw[e]
 refine wpAny_forIn_list f (fun rest b s=>∃ i,i<=n/\rest=RJ i (n - i)/\I i b s) Q (fun x rest b s ⟨i,hi,hr,q⟩=>?_) (fun b s ⟨i,hi,hr,q⟩=>?_) _ b ⟨0,Od _,rfl,h⟩
 ·have hlt:i < n:=by
   rcases M4 i n with z | z
   ·exact z
   ·rw[show n - i=0 by omega] at hr;simp at hr
  rw[show n - i=(n - (i+1))+1 by omega,List.range'_succ] at hr
  injection hr with e1 e2
  subst e1
  refine wpAny_mono (turn x b s hlt q) (fun r s' z=>?_) fun _ _ z=>z
  cases r with
  | yield b'=>exact ⟨x+1,hlt,e2,z⟩
  | done b'=>exact z
 ·have:i=n:=by
   rcases M4 i n with z | z
   ·rw[show n - i=(n - (i+1))+1 by omega,List.range'_succ] at hr;simp at hr
   ·omega
  subst this
  exact fin b s q
theorem lg (l:MN) (items:Array Value) (n:Nat) (dd:Option MN) (sl:Array (Option Value)) (x:Value) (e:Value->Bool) (j:Nat) (hj:j < items.size)
 (hit:e items[j]=true) (hno:∀ m (hm:m < items.size),m < j->e items[m]=false) :
 Meets (Builtin.«tuple.index» ⟨[.ref l,x],[]⟩)
  (fun A R s=>s.heap.get? l=some { cls:=.type "tuple",dict:=dd,data:=.seq items n,slots:=sl }/\(∀ y,y∈items->EqAt A.in1 s y x (e y))/\R (.ok (.ret (.int j s.toks))) { s with toks:=s.toks+1 }) :=
 .of_wp fun prog w A R s h=>by
 obtain ⟨hp,g,d,tk,os⟩:=s;obtain ⟨hl,he,h⟩:=h
 wp_walk using OE hl,jx _ _ (fun i b s'=>i<=j/\b.1=none/\s'=⟨hp,g,d,tk,os⟩) _
 case turn =>
  rintro i b s' hi ⟨hij,hb,rfl⟩
  have hi':i < items.size:=by omega
  rw[O5 hi']
  refine wpAny_bind (he _ (Array.getElem_mem hi') prog w _ _ ?_)
  by_cases c:i=j
  ·subst c
   rw[hit]
   wp_walk
   exact ⟨_,rfl,h⟩
  ·rw[hno i hi' (by omega)]
   wp_walk
   exact ⟨by omega,rfl,rfl⟩
 case fin =>
  rintro b s' ⟨hij,_,_⟩
  omega
 case h=>exact ⟨Od _,rfl,rfl⟩
theorem qy (l:MN) (items:Array Value) (n:Nat) (dd:Option MN) (sl:Array (Option Value)) (k:Int) (t:Tok) (h1:-1000<=k) (h2:k<=1000) (c1:¬ items.isEmpty=true) (c2:k≠1) (c3:0 < k) (hz:items.size*k.toNat<=sizeLine) :
 Meets (Builtin.«tuple.__mul__» ⟨[.ref l,.int k t],[]⟩)
  (fun A R s=>s.heap.get? l=some { cls:=.type "tuple",dict:=dd,data:=.seq items n,slots:=sl }/\R (.ok (.ret (.ref s.heap.objs.size))) { s with heap:=s.heap.push { cls:=.type "tuple",data:=.seq ((MY k.toNat items).foldl (fun x1 x2=>x1++x2) #[]) } }) :=
 .of_wp fun prog w A R s h=>by
 obtain ⟨hp,g,d,tk,os⟩:=s;obtain ⟨hl,h⟩:=h
 have f1:=Rv
 have a1:¬ (decide (k < -2 ^ 63)||decide (k ≥ 2 ^ 63))=true:=by simp;omega
 have a2:¬ (items.isEmpty||k==1)=true:=by simp at c1 ⊢;exact ⟨c1,c2⟩
 have a3:¬ (decide (k<=0)||items.isEmpty)=true:=by simp at c1 ⊢;exact ⟨by omega,c1⟩
 have kk:(k.toNat:Int)=k:=by omega
 have a4:¬ ((items.size:Int)*k > (2 ^ 63 - 1) / 8):=by
  have z:((items.size*k.toNat:Nat):Int)<=(sizeLine:Nat):=Int.ofNat_le.mpr hz
  rw[Int.natCast_mul,kk] at z
  have z2:((sizeLine:Nat):Int)<=(2 ^ 63 - 1) / 8:=by decide
  omega
 have a5:¬ PX ((items.size:Int)*k)=true:=by
  have z:((items.size*k.toNat:Nat):Int)<=(sizeLine:Nat):=Int.ofNat_le.mpr hz
  rw[Int.natCast_mul,kk] at z
  simp only[PX,decide_eq_true_eq]
  omega
 have hsz:sizeOk (.seq ((MY k.toNat items).foldl (fun x1 x2=>x1++x2) #[])):=by
  show ((MY k.toNat items).foldl (fun x1 x2=>x1++x2) #[]).size<=sizeLine
  rw[AutoListH.size_joined,Array.size_empty,Ox];omega
 wp_walk using OE hl
 rw[if_neg a1]
 wp_walk using OE hl
 refine wpAny_ite_split (fun c=>absurd c ?_) (fun _=>?_)
 ·intro c;have a6:=a4;simp at a6 c;omega
 wp_walk using OE hl
 refine wpAny_ite_false (decide_eq_false (Nat.not_lt.mpr hsz)) ?_
 wp_walk
 exact ⟨_,rfl,h⟩
theorem ja:fillsNumberSlot (.type "tuple") "mul"=pure false :=
 PySem.fillsNumberSlot_seq (id:="tuple.__mul__") (r:=some (.builtin "tuple.__rmul__")) F.slot_tuple_mul.lookup (by decide +kernel) F.slot_tuple_rmul.lookup (by decide +kernel)
theorem nj:seqRepeat? (.type "tuple")=pure (some (.builtin "tuple.__mul__")):=by
 unfold seqRepeat?
 rw[PySem.seqSlot_of (T:="tuple") (name:="__mul__") (id:="tuple.__mul__") F.slot_tuple_mul.lookup (by decide +kernel),PySem.seqSlot_of (T:="tuple") (name:="__rmul__") (id:="tuple.__rmul__") F.slot_tuple_rmul.lookup (by decide +kernel)]
 rfl
theorem kg (a:Int) (t:Tok) (l:MN) (items:Array Value) (n:Nat) (dd:Option MN) (sl:Array (Option Value)) :
 Meets (Builtin.«int.__rmul__» ⟨[.int a t,.ref l],[]⟩) (fun _ R s=>s.heap.get? l=some { cls:=.type "tuple",dict:=dd,data:=.seq items n,slots:=sl }/\R (.ok (.ret Value.notImplemented)) s) :=
 .of_wp fun prog w A R s h=>by obtain ⟨hp,g,d,tk,os⟩:=s;obtain ⟨hl,h⟩:=h;wp_walk;exact ⟨_,rfl,h⟩
theorem jy (l:MN) (items:Array Value) (n:Nat) (b:MN) (items2:Array Value) (n2:Nat) (dd:Option MN) (sl:Array (Option Value)) (hs0:¬(!items.isEmpty&&NH (items.size+items2.size))=true) (hs1:items.size<=sizeLine) (hs2:items.size+items2.size<=sizeLine+1) :
 Meets (Builtin.«list.extend» ⟨[.ref l,.ref b],[]⟩) (fun _ R s=>s.heap.get? l=some { cls:=.type "list",dict:=none,data:=.seq items n,slots:=#[] }/\s.heap.get? b=some { cls:=.type "tuple",dict:=dd,data:=.seq items2 n2,slots:=sl }/\R (.ok (.ret Qd)) { s with heap:=s.heap.update l (PL fun x=>x++items2),toks:=s.toks }) :=
 .of_wp fun prog w A R s h=>by
  obtain ⟨hp,g,d,tk,os⟩:=s;obtain ⟨hl,hb,h⟩:=h;have f1:=Rv;have f2:=AutoSeq1.sub_tuple_tuple;have f3:=AutoSeq1.sub_list_list;have f4:=AutoSeq1.sub_tuple_list;have f5:=AutoSeq1.sub_list_tuple
  have hz':(items++items2).size<=sizeLine+1:=by rw[Array.size_append];exact hs2
  wp_walk using (wpAny_updateSeq hl rfl (hz:=hs1) (_hz':=hz')),OE hl,OE hb;exact ⟨_,rfl,h⟩
end BS
end
section
namespace BS
open PySem PySem.Spec PyProof.Rows L2
theorem aj {α β:Type}{x:Option (α×BT.HH)}{k:α->BT.HH->Option β}{r:β} (h:BT.bnd x k=some r):∃ a g,x=some (a,g)/\k a g=some r:=by
 cases x with
 | none=>cases h
 | some q=>exact ⟨q.1,q.2,rfl,h⟩
theorem az {α β:Type}{x:Option α}{f:α->β}{r:β} (h:x.map f=some r):∃ a,x=some a/\f a=r:=by
 cases x with
 | none=>cases h
 | some a=>exact ⟨a,rfl,MV h⟩
noncomputable def Post (P:MP) (w:M7) (K:MI) (m:List MN) (H:Hp) (z:BT.W) (h':BT.HH) (Q:VK):Prop :=
 ∀ v H' m',Ext m H m' H'->RH K m' H' h'->RW P w K m' H' v z->Q v H'
noncomputable def rOp (P:MP) (w:M7) (K:MI) (f:BT.W->BT.W->BT.HH->Option (BT.W×BT.HH)):R2:=fun v u H Q =>
 ∃ m h x y z h',RH K m H h/\RW P w K m H v x/\RW P w K m H u y/\f x y h=some (z,h')/\Post P w K m H z h' Q
theorem gx {o:BT.Bin}{x y:BT.W}{h:BT.HH}{z:BT.W}{h':BT.HH} (e:BT.kZ o x y h=some (z,h')):∃ d d' q,BT.rd x h=some d/\BT.rd y h=some d'/\BT.gR o d d'=some q/\z=.p q/\h'=h:=by
 unfold BT.kZ at e
 cases e1:BT.rd x h with
 | none=>rw[e1] at e;cases e
 | some d =>
  cases e2:BT.rd y h with
  | none=>rw[e1,e2] at e;cases e
  | some d' =>
   rw[e1,e2] at e
   obtain ⟨q,eq,er⟩:=az e
   cases er
   exact ⟨d,d',q,rfl,rfl,eq,rfl,rfl⟩
section
variable {X:Cx}
theorem cV:BT.lim<=sizeLine:=by decide
theorem rdL {pins:List (MN×Obj)}{σ:L2.St}{H:Hp}{s:MK}{a:MN}{xs:List V} (I:Inv X pins σ H s) (r:LL X.K H a xs) :
 xs.length<=sizeLine/\∃ (its:List Value) (n:Nat),ao xs its/\xs.length=its.length/\s.heap.get? a=some { cls:=.type "list",data:=.seq its.toArray n }:=by
 rcases r with r | ⟨its,n,h1,h2,h3⟩
 ·obtain ⟨z,its,n,r,e⟩:=r.ok I.hok
  exact ⟨z,its,n,r,r.length,e⟩
 ·exact ⟨by rw[h3.length];exact h2,its,n,h3,h3.length,I.kIn a _ h1⟩
theorem wQ {pins:List (MN×Obj)}{s:MK}{σ:L2.St}{H:Hp}{a b:MN}{xs ys:List V}{Q:VK} (I:Inv X pins σ H s) (ha:LL X.K H a xs) (hb:LL X.K H b ys) (hz:xs.length+ys.length<=sizeLine)
 (q:∀ p,H p=none->Q (.ref p) (upd H p (.lst (xs++ys)))):wpAny (M3 X.prog X.w) X.A (NU .Add (.ref a) (.ref b)) (EP X pins σ Q) X.xe s:=by
 obtain ⟨z,its,n,r,hl,e⟩:=rdL I ha
 obtain ⟨z2,its2,n2,r2,hl2,e2⟩:=rdL I hb
 refine PySem.P.add_list e e2 ?_ (by rw[MM,MM];omega)
 have ea:its.toArray++its2.toArray=(its++its2).toArray:=by simp
 rw[ea]
 exact ⟨.ref _,_,I.Gx (t':=s.toks) (r.append r2) (by rw[Nj];omega),rfl,q _ I.fresh⟩
theorem uC {pins:List (MN×Obj)}{s:MK}{σ:L2.St}{H:Hp}{a b:MN}{xs ys:List V}{Q:VK} (I:Inv X pins σ H s) (ha:SqT X.K H a xs) (hb:SqT X.K H b ys) (hz:xs.length+ys.length<=sizeLine)
 (q0:xs=[]->Q (.ref b) H) (q1:ys=[]->Q (.ref a) H) (q:∀ p,H p=none->Q (.ref p) (upd H p (.tup (xs++ys)))):wpAny (M3 X.prog X.w) X.A (NU .Add (.ref a) (.ref b)) (EP X pins σ Q) X.xe s:=by
 by_cases c:xs=[]
 ·obtain ⟨its,r1,p1,_⟩:=I.tuple ha
  obtain ⟨its2,r2,p2,_⟩:=I.tuple hb
  obtain ⟨⟨cls,dd,data,sl⟩,ho,hc,n,hd⟩:=id p1
  obtain ⟨⟨cls2,dd2,data2,sl2⟩,ho2,hc2,n2,hd2⟩:=id p2
  simp only at hc hd hc2 hd2
  subst hc hd hc2 hd2
  have z:its=[]:=r1.iA.mpr c
  exact concat_meets ⟨_,ho,rfl⟩ ⟨_,ho2,rfl⟩ QT RQ Pa O8 (O4 _ _)
   (tuple_addW0 a b its.toArray its2.toArray n n2 dd dd2 sl sl2 (by simp[z])) ⟨ho,ho2,⟨.ref b,H,I,rfl,q0 c⟩⟩
 ·exact zV pins s σ H (.ref a) (.ref b) _ _ Q I rfl rfl ⟨a,b,xs,ys,rfl,rfl,ha,hb,c,hz,q1,fun _=>q⟩
theorem iL {m:List MN}{H:Hp}{h:BT.HH}{p:MN}{vs:List V}{ds:List BT.D}{Q:VK} (R:RH X.K m H h) (hp:H p=none) (r:RDs X.K m H vs ds) (post:Post X.prog X.w X.K m H (.p (.tup ds)) h Q):Q (.ref p) (upd H p (.tup vs)) :=
 post _ _ m (fL hp) (R.new hp) (.p (.tup (.inl ⟨.inl bx,R.gH hp⟩) (r.ext (fL hp))))
theorem iM {m:List MN}{H:Hp}{h:BT.HH}{p:MN}{vs:List V}{ds:List BT.D}{Q:VK} (R:RH X.K m H h) (hp:H p=none) (r:RDs X.K m H vs ds) (post:Post X.prog X.w X.K m H (.p (.lst ds)) h Q):Q (.ref p) (upd H p (.lst vs)) :=
 post _ _ m (fL hp) (R.new hp) (.p (.lst (.inl ⟨.inl bx,R.gH hp⟩) (r.ext (fL hp))))
theorem rO {m:List MN}{H:Hp}{h:BT.HH}{p:MN}{vs:List V}{ds:List BT.D}{Q:VK} (R:RH X.K m H h) (hp:H p=none) (r:RDs X.K m H vs ds) (post:Post X.prog X.w X.K m H (.r h.length) (h++[.l ds]) Q):Q (.ref p) (upd H p (.lst vs)) :=
 post _ _ (m++[p]) (iK hp) (R.Lk hp r) (.r (by rw[← R.len];simp))
theorem nk {m:List MN}{H:Hp}{h:BT.HH}{p:MN}{vs:List V}{ds:List BT.D}{Q:VK}{mu:Bool} (R:RH X.K m H h) (hp:H p=none) (r:RDs X.K m H vs ds) (post:Post X.prog X.w X.K m H (BT.new mu ds h).1 (BT.new mu ds h).2 Q):Q (.ref p) (upd H p (.lst vs)):=by
 cases mu with
 | false=>exact iM R hp r post
 | true=>exact rO R hp r post
theorem Post.here {m:List MN}{H:Hp}{h:BT.HH}{Q:VK}{v:V}{d:BT.D} (R:RH X.K m H h) (post:Post X.prog X.w X.K m H (.p d) h Q) (r:RD X.K m H v d):Q v H:=post v H m (.refl _ _) R (.p r)
theorem nq {x y:Str} (hx:PyData.strOk x=true) (hy:PyData.strOk y=true):PyData.strOk (x++y)=true:=by
 show (x.cps++y.cps).all _=true
 rw[Array.all_append]
 simp only[PyData.strOk] at hx hy
 rw[hx,hy];rfl
theorem DQ:OpR X (NU .Add) (rOp X.prog X.w X.K (BT.kZ .add)):=by
 intro pins s σ H v u v' u' Q I rv ru h
 obtain ⟨m,h,x,y,z,h',R,rx,ry,e,post⟩:=h
 obtain ⟨d,d',q,e1,e2,e3,rfl,rfl⟩:=gx e
 have r1:=aF R rx e1
 have r2:=aF R ry e2
 cases d<;>cases d'<;>first | (cases e3;done) | simp only[BT.ff,BT.cR,BT.cy,BT.cS,BT.fh,BT.fj,BT.cT,BT.cU,BT.fk,BT.dJ,BT.fm] at e3
 ·cases e3
  cases r1.int;cases r2.int
  exact C7 pins s σ H _ _ _ _ Q I rv ru ⟨_,_,rfl,rfl,post.here R (.int _)⟩
 ·split at e3
  ·rename_i c
   cases e3
   obtain ⟨ev,ov⟩:=r1.str
   obtain ⟨eu,ou⟩:=r2.str
   subst ev;subst eu
   have:=cV
   exact qd pins s σ H _ _ _ _ Q I rv ru ⟨_,_,rfl,rfl,by omega,post.here R (.str _ (nq ov ou))⟩
  ·cases e3
 ·split at e3
  ·rename_i c
   cases e3
   obtain ⟨a,vs,rfl,ha,ra⟩:=r1.tup
   obtain ⟨b,us,rfl,hb,rb⟩:=r2.tup
   cases rv;cases ru
   have l1:=ra.length
   have l2:=rb.length
   have:=cV
   refine uC I ha hb (by omega) (fun z=>?_) (fun z=>?_) fun p hp=>iL R hp (ra.append rb) post
   ·subst z;cases ra
    cases r2 with | d r=>exact post.here R r
   ·subst z;cases rb
    rw[NT] at post
    cases r1 with | d r=>exact post.here R r
  ·cases e3
 ·split at e3
  ·rename_i c
   cases e3
   obtain ⟨a,vs,rfl,ha,ra⟩:=r1.lst
   obtain ⟨b,us,rfl,hb,rb⟩:=r2.lst
   cases rv;cases ru
   have l1:=ra.length
   have l2:=rb.length
   have:=cV
   exact wQ I ha hb (by omega) fun p hp=>iM R hp (ra.append rb) post
  ·cases e3
theorem DR:OpR X (NU .Sub) (rOp X.prog X.w X.K (BT.kZ .sub)):=by
 intro pins s σ H v u v' u' Q I rv ru h
 obtain ⟨m,h,x,y,z,h',R,rx,ry,e,post⟩:=h
 obtain ⟨d,d',q,e1,e2,e3,rfl,rfl⟩:=gx e
 have r1:=aF R rx e1
 have r2:=aF R ry e2
 cases d<;>cases d'<;>first | (cases e3;done) | simp only[BT.ff,BT.cR,BT.cy,BT.cS,BT.fh,BT.fj,BT.cT,BT.cU,BT.fk,BT.dJ,BT.fm] at e3
 cases e3
 cases r1.int;cases r2.int
 exact C8 pins s σ H _ _ _ _ Q I rv ru ⟨_,_,rfl,rfl,post.here R (.int _)⟩
theorem DS:OpR X (NU .Mod) (rOp X.prog X.w X.K (BT.kZ .mod)):=by
 intro pins s σ H v u v' u' Q I rv ru h
 obtain ⟨m,h,x,y,z,h',R,rx,ry,e,post⟩:=h
 obtain ⟨d,d',q,e1,e2,e3,rfl,rfl⟩:=gx e
 have r1:=aF R rx e1
 have r2:=aF R ry e2
 cases d<;>cases d'<;>first | (cases e3;done) | simp only[BT.ff,BT.cR,BT.cy,BT.cS,BT.fh,BT.fj,BT.cT,BT.cU,BT.fk,BT.dJ,BT.fm] at e3
 split at e3
 ·rename_i c
  cases e3
  cases r1.int;cases r2.int
  exact Dc pins s σ H _ _ _ _ Q I rv ru ⟨_,_,rfl,rfl,c,post.here R (.int _)⟩
 ·cases e3
theorem Ar:OpR X (NU .FloorDiv) (rOp X.prog X.w X.K (BT.kZ .fdiv)):=by
 intro pins s σ H v u v' u' Q I rv ru h
 obtain ⟨m,h,x,y,z,h',R,rx,ry,e,post⟩:=h
 obtain ⟨d,d',q,e1,e2,e3,rfl,rfl⟩:=gx e
 have r1:=aF R rx e1
 have r2:=aF R ry e2
 cases d<;>cases d'<;>first | (cases e3;done) | simp only[BT.ff,BT.cR,BT.cy,BT.cS,BT.fh,BT.fj,BT.cT,BT.cU,BT.fk,BT.dJ,BT.fm] at e3
 split at e3
 ·rename_i c
  simp only[ML,decide_eq_true_eq] at c
  cases e3
  cases r1.int;cases r2.int
  exact zJ pins s σ H _ _ _ _ Q I rv ru ⟨_,_,rfl,rfl,⟨c.1,c.2⟩,post.here R (.int _)⟩
 ·cases e3
theorem nu {i:Int} (h:BT.big i=true):-(2 ^ 64) < i/\i < 2 ^ 64:=by
 unfold BT.big at h
 have:=of_decide_eq_true h
 omega
theorem DT:OpR X (NU .Pow) (rOp X.prog X.w X.K (BT.kZ .pow)):=by
 intro pins s σ H v u v' u' Q I rv ru h
 obtain ⟨m,h,x,y,z,h',R,rx,ry,e,post⟩:=h
 obtain ⟨d,d',q,e1,e2,e3,rfl,rfl⟩:=gx e
 have r1:=aF R rx e1
 have r2:=aF R ry e2
 cases d<;>cases d'<;>first | (cases e3;done) | simp only[BT.ff,BT.cR,BT.cy,BT.cS,BT.fh,BT.fj,BT.cT,BT.cU,BT.fk,BT.dJ,BT.fm] at e3
 split at e3
 ·rename_i c
  simp only[ML,decide_eq_true_eq] at c
  cases e3
  cases r1.int;cases r2.int
  refine De pins s σ H _ _ _ _ Q I rv ru ⟨_,_,rfl,rfl,⟨c.1.1,by omega,?_⟩,post.here R (.int _)⟩
  exact of_decide_eq_true c.2
 ·cases e3
theorem uD {pins:List (MN×Obj)}{s:MK}{σ:L2.St}{H:Hp}{a:MN}{xs:List V}{k:Int}{t:Tok}{Q:VK} (I:Inv X pins σ H s) (ha:SqT X.K H a xs) (h1:2<=k) (h2:k<=1000) (hne:xs≠[]) (hz:xs.length*k.toNat<=sizeLine)
 (q:∀ p,H p=none->Q (.ref p) (upd H p (.tup (MY k.toNat xs).flatten))):wpAny (M3 X.prog X.w) X.A (NU .Mult (.ref a) (.int k t)) (EP X pins σ Q) X.xe s:=by
 obtain ⟨its,r,p,_⟩:=I.tuple ha
 obtain ⟨⟨cls,dd,data,sl⟩,e,hc,n,hd⟩:=id p
 simp only at hc hd
 subst hc hd
 have hl:=r.length
 have hlen:its.toArray.size*k.toNat<=sizeLine:=by rw[MM,← hl];exact hz
 have f0:QV (fun x1 x2=>x1++x2) #[] (MY k.toNat its.toArray)=(MY k.toNat its).flatten.toArray:=by
  have:=foldl_rep its k.toNat []
  rw[Oz] at this
  exact this
 have hi:¬ its.toArray.isEmpty=true:=by
  intro z
  have z2:its=[]:=by simpa using z
  exact hne (r.iA.mp z2)
 refine Rn (T:="tuple") (U:="int") (by decide) ⟨_,e,rfl⟩ (fun s'=>typeIs_int s' k t) ja F.fills_int_mul F.slot_int_rmul nj F.slot_int_index.lookup
  (Oq F.slot_int_rmul (typeIs_int s k t) F.entry_int_rmul (F.args_int_rmul_2 _ _) (kg k t a its.toArray n dd sl)
   ⟨e,rfl,⟨_,e,rfl⟩,Oq F.slot_tuple_mul ⟨_,e,rfl⟩ F.entry_tuple_mul (F.args_tuple_mul_2 _ _) (qy a its.toArray n dd sl k t (by omega) h2 hi (by omega) (by omega) hlen) ⟨e,?_⟩⟩)
 rw[f0]
 have hf:H s.heap.objs.size=none:=I.hok.fresh (MR _)
 refine ⟨.ref s.heap.objs.size,_,I.laid (t':=s.toks) (o:=.tup (MY k.toNat xs).flatten) (fun b ob q=>MQ _ q) (MR _) ?_,rfl,q _ hf⟩
 exact ⟨by rw[len_rep,Ox];exact hz,_,r.rep k.toNat,IsTup.new _ _⟩
theorem wR {pins:List (MN×Obj)}{s:MK}{σ:L2.St}{H:Hp}{l:MN}{xs:List V}{k:Int}{t:Tok}{Q:VK} (I:Inv X pins σ H s) (hH:LL X.K H l xs) (h1:-(2 ^ 63)<=k) (h2:k<=1000) (hz:xs.length*k.toNat<=sizeLine)
 (q:∀ p,H p=none->Q (.ref p) (upd H p (.lst (MY k.toNat xs).flatten))):wpAny (M3 X.prog X.w) X.A (NU .Mult (.ref l) (.int k t)) (EP X pins σ Q) X.xe s:=by
 have h2':k < 2 ^ 63:=by omega
 obtain ⟨z,its,n,r,hl,e⟩:=rdL I hH
 have hlen:its.toArray.size*k.toNat<=sizeLine:=by rw[MM,← hl];exact hz
 have hcap:¬ its.toArray.size*k.toNat > (2 ^ 63 - 1) / 8:=by
  have:(sizeLine:Nat)<=(2 ^ 63 - 1) / 8:=by decide
  omega
 have hfit:¬ (!Builtin.List.listFitsIndex k)=true:=by
  rw[fitsIndex_both h1 h2']
  exact NZ
 have hlong:¬ NH (its.toArray.size*k.toNat)=true:=by
  rw[jU hlen]
  exact NZ
 have hnew:QV (fun x1 x2=>x1++x2) #[] (MY (if its.toArray.isEmpty=true then 0 else k.toNat) its.toArray)=(MY k.toNat its).flatten.toArray:=by
  have f0:∀ m:Nat,QV (fun x1 x2=>x1++x2) #[] (MY m its.toArray)=(MY m its).flatten.toArray:=fun m=>by
   have:=foldl_rep its m []
   rw[Oz] at this
   exact this
  rw[f0]
  cases its with
  | nil=>simp
  | cons a r'=>rw[if_neg (by simp)]
 refine Rn (T:="list") (U:="int") (by decide) ⟨_,e,rfl⟩ (fun s'=>typeIs_int s' k t) noFill_list_mul F.fills_int_mul F.slot_int_rmul repeat_list F.slot_int_index.lookup
  (Oq F.slot_int_rmul (typeIs_int s k t) F.entry_int_rmul (F.args_int_rmul_2 _ _) (int___rmul___int_list k t l its.toArray n)
   ⟨e,rfl,⟨_,e,rfl⟩,Oq F.slot_list_mul ⟨_,e,rfl⟩ F.entry_list_mul (F.args_list_mul_2 _ _) (AutoListH.list___mul___list_int_3 l its.toArray n k t hfit hcap hlong) ⟨e,?_⟩⟩)
 rw[hnew]
 exact ⟨.ref _,_,I.Gx (t':=s.toks) (r.rep k.toNat) (by rw[len_rep,Ox];exact hz),rfl,q _ I.fresh⟩
theorem DU:OpR X (NU .Mult) (rOp X.prog X.w X.K (BT.kZ .mul)):=by
 intro pins s σ H v u v' u' Q I rv ru h
 obtain ⟨m,h,x,y,z,h',R,rx,ry,e,post⟩:=h
 obtain ⟨d,d',q,e1,e2,e3,rfl,rfl⟩:=gx e
 have r1:=aF R rx e1
 have r2:=aF R ry e2
 cases d<;>cases d'<;>first | (cases e3;done) | simp only[BT.ff,BT.cR,BT.cy,BT.cS,BT.fh,BT.fj,BT.cT,BT.cU,BT.fk,BT.dJ,BT.fm] at e3
 ·split at e3
  ·rename_i c
   cases e3
   cases r1.int;cases r2.int
   refine C9 pins s σ H _ _ _ _ Q I rv ru ⟨_,_,rfl,rfl,?_,post.here R (.int _)⟩
   rcases Oa _ _ ▸ c with c | c
   ·exact .inl (nu c)
   ·exact .inr (nu c)
  ·cases e3
 ·split at e3
  ·rename_i c
   simp only[ML,decide_eq_true_eq] at c
   cases e3
   obtain ⟨a,vs,rfl,ha,ra⟩:=r1.tup
   cases r2.int
   obtain ⟨t,rfl⟩:=ru
   cases rv
   have l1:=ra.length
   have:=cV
   simp only[Ol,List.isEmpty_eq_false_iff] at c
   refine uD I ha (by omega) (by omega) (fun z=>?_) (by rw[l1];omega) fun p hp=>iL R hp (ra.rep _) post
   subst z
   cases ra
   exact c.1.2 rfl
  ·cases e3
 ·split at e3
  ·rename_i c
   simp only[ML,decide_eq_true_eq] at c
   cases e3
   obtain ⟨a,vs,rfl,ha,ra⟩:=r1.lst
   cases r2.int
   obtain ⟨t,rfl⟩:=ru
   cases rv
   have l1:=ra.length
   have:=cV
   refine wR I ha (by omega) (by omega) (by rw[l1];omega) fun p hp=>iM R hp (ra.rep _) post
  ·cases e3
end
end BS
end
section
namespace BS
open PySem PySem.Spec PyProof.Rows L2
mutual
noncomputable def pd:BT.D->PyData
 | .non=>.none
 | .bl b=>.bool b
 | .int i=>.int i
 | .str x=>.str x
 | .tup xs=>.tuple (pds xs)
 | .lst xs=>.list (pds xs)
noncomputable def pds:List BT.D->List PyData
 | []=>[]
 | x :: r=>pd x :: pds r
end
mutual
theorem kh:∀ x y:BT.D,PyData.eqv (pd x) (pd y)=BT.eqv x y
 | .non,.non=>rfl
 | .non,.bl _=>rfl
 | .non,.int _=>rfl
 | .non,.str _=>rfl
 | .non,.tup _=>by simp[pd,PyData.eqv,BT.eqv]
 | .non,.lst _=>by simp[pd,PyData.eqv,BT.eqv]
 | .bl _,.non=>rfl
 | .bl _,.bl _=>rfl
 | .bl _,.int _=>rfl
 | .bl _,.str _=>rfl
 | .bl _,.tup _=>by simp[pd,PyData.eqv,BT.eqv]
 | .bl _,.lst _=>by simp[pd,PyData.eqv,BT.eqv]
 | .int _,.non=>rfl
 | .int _,.bl _=>rfl
 | .int _,.int _=>rfl
 | .int _,.str _=>rfl
 | .int _,.tup _=>by simp[pd,PyData.eqv,BT.eqv]
 | .int _,.lst _=>by simp[pd,PyData.eqv,BT.eqv]
 | .str _,.non=>rfl
 | .str _,.bl _=>rfl
 | .str _,.int _=>rfl
 | .str _,.str _=>rfl
 | .str _,.tup _=>by simp[pd,PyData.eqv,BT.eqv]
 | .str _,.lst _=>by simp[pd,PyData.eqv,BT.eqv]
 | .tup _,.non=>by simp[pd,PyData.eqv,BT.eqv]
 | .tup _,.bl _=>by simp[pd,PyData.eqv,BT.eqv]
 | .tup _,.int _=>by simp[pd,PyData.eqv,BT.eqv]
 | .tup _,.str _=>by simp[pd,PyData.eqv,BT.eqv]
 | .tup xs,.tup ys=>by simp only[pd,PyData.eqv,BT.eqv];exact nv xs ys
 | .tup _,.lst _=>by simp[pd,PyData.eqv,BT.eqv]
 | .lst _,.non=>by simp[pd,PyData.eqv,BT.eqv]
 | .lst _,.bl _=>by simp[pd,PyData.eqv,BT.eqv]
 | .lst _,.int _=>by simp[pd,PyData.eqv,BT.eqv]
 | .lst _,.str _=>by simp[pd,PyData.eqv,BT.eqv]
 | .lst _,.tup _=>by simp[pd,PyData.eqv,BT.eqv]
 | .lst xs,.lst ys=>by simp only[pd,PyData.eqv,BT.eqv];exact nv xs ys
theorem nv:∀ xs ys:List BT.D,PyData.eqvAll (pds xs) (pds ys)=BT.kY xs ys
 | [],[]=>by simp[pds,PyData.eqvAll,BT.kY]
 | [],_ :: _=>by simp[pds,PyData.eqvAll,BT.kY]
 | _ :: _,[]=>by simp[pds,PyData.eqvAll,BT.kY]
 | x :: xs,y :: ys=>by simp only[pds,PyData.eqvAll,BT.kY];rw[kh x y,nv xs ys]
end
theorem fZ {n:Nat}:∀ {xs:List BT.D},(∀ x∈xs,(pd x).depth<=n)->PyData.depthAll (pds xs)<=n
 | [],_=>by simp[pds,PyData.depthAll]
 | x :: xs,h=>by
  simp only[pds,PyData.depthAll]
  exact Nat.max_le.mpr ⟨h x Nh,fZ fun y hy=>h y (M8 _ hy)⟩
theorem gy:∀ (n:Nat) (d:BT.D),BT.dok n d=true->(pd d).depth<=n
 | n,.non,_=>by simp[pd,PyData.depth]
 | n,.bl _,_=>by simp[pd,PyData.depth]
 | n,.int _,_=>by simp[pd,PyData.depth]
 | n,.str _,_=>by simp[pd,PyData.depth]
 | 0,.tup _,h=>by simp[BT.dok] at h
 | 0,.lst _,h=>by simp[BT.dok] at h
 | n+1,.tup xs,h=>by
  simp only[pd,PyData.depth]
  rw[BT.rH,NX] at h
  exact Nat.succ_le_succ (fZ fun x hx=>gy n x (h x hx))
 | n+1,.lst xs,h=>by
  simp only[pd,PyData.depth]
  rw[BT.rJ,NX] at h
  exact Nat.succ_le_succ (fZ fun x hx=>gy n x (h x hx))
section
variable {X:Cx}{pins:List (MN×Obj)}{σ:L2.St}{s:MK}{K:MI}{m:List MN}{H:Hp}
mutual
theorem dM:∀ {v:V}{d:BT.D},RD K m H v d->(pd d).canLay0=true
 | _,_,.non=>rfl
 | _,_,.bl _=>rfl
 | _,_,.int _=>rfl
 | _,_,.str _ h=>by simpa [pd,PyData.canLay0] using h
 | _,_,.tup _ r=>by simp only[pd,PyData.canLay0];exact fM r
 | _,_,.lst _ r=>by simp only[pd,PyData.canLay0];exact fM r
theorem fM:∀ {vs:List V}{ds:List BT.D},RDs K m H vs ds->PyData.canLayAll0 (pds ds)=true
 | _,_,.nil=>by simp[pds,PyData.canLayAll0]
 | _,_,.cons r t=>by simp only[pds,PyData.canLayAll0];rw[dM r,fM t];rfl
end
mutual
theorem f6 (I:Inv X pins σ H s):∀ {v:V}{d:BT.D}{u:Value},RD X.K m H v d->RelV v u->∃ as,Reads s.heap u (pd d) as
 | _,_,_,.non,r=>by cases r;exact ⟨_,.none⟩
 | _,_,_,.bl b,r=>by cases r;exact ⟨_,.bool b⟩
 | _,_,_,.int i,r=>by obtain ⟨t,rfl⟩:=r;exact ⟨_,.int i t⟩
 | _,_,_,.str x _,r=>by obtain ⟨t,rfl⟩:=r;exact ⟨_,.str x t⟩
 | _,_,_,.tup h r,q=>by
  cases q
  obtain ⟨its,r1,⟨o,e1,e2,n,e3⟩,_⟩:=I.tuple (h.elim (fun q=>.inl q.1) (fun ⟨o,its,n,q,_⟩=>.inr ⟨o,its,n,q⟩))
  obtain ⟨as,ra⟩:=gA I r r1
  exact ⟨_,.tuple e1 e2 e3 (by simpa using ra)⟩
 | _,_,_,.lst h r,q=>by
  cases q
  obtain ⟨z,its,n,r1,_,e⟩:=rdL I (h.elim (fun q=>.inl q.1) .inr)
  obtain ⟨as,ra⟩:=gA I r r1
  exact ⟨_,.list e rfl rfl (by simpa using ra)⟩
theorem gA (I:Inv X pins σ H s):∀ {vs:List V}{ds:List BT.D}{us:List Value},RDs X.K m H vs ds->ao vs us->∃ as,ReadsAll s.heap us (pds ds) as
 | _,_,_,.nil,q=>by cases q;exact ⟨_,.nil⟩
 | _,_,_,.cons r t,q=>by
  cases q with
  | cons q1 q2 =>
   obtain ⟨as,ra⟩:=f6 I r q1
   obtain ⟨bs,rb⟩:=gA I t q2
   exact ⟨_,.cons ra rb⟩
end
theorem f7 (I:Inv X pins σ H s) {v:V}{d:BT.D}{u:Value} (r:RR X.K m H v d) (q:RelV v u):∃ as,Reads s.heap u (pd d) as:=by
 cases r with
 | d r=>exact f6 I r q
 | l h r =>
  cases q
  obtain ⟨z,its,n,r1,_,e⟩:=rdL I (.inl (.inl h))
  obtain ⟨as,ra⟩:=gA I r r1
  exact ⟨_,.list e rfl rfl (by simpa using ra)⟩
theorem fy {v:V}{d:BT.D} (r:RR K m H v d):(pd d).canLay0=true:=by
 cases r with
 | d r=>exact dM r
 | l h r=>simp only[pd,PyData.canLay0];exact fM r
theorem ny {x y:BT.D} (h:BT.aU x y=true):min (pd x).depth (pd y).depth<=100:=by
 unfold BT.aU at h
 rcases Oa _ _ ▸ h with h | h
 ·have:=gy 100 x h;omega
 ·have:=gy 100 y h;omega
theorem c7 {o:BT.Cm}{x y:BT.W}{h:BT.HH}{z:BT.W}{h':BT.HH} (e:BT.fO o x y h=some (z,h')) :
 (∃ kvs b,y=.k kvs/\BT.inK o x kvs=some b/\z=.p (.bl b)/\h'=h)\/∃ d d' b,BT.rd x h=some d/\BT.rd y h=some d'/\BT.dP o d d'=some b/\z=.p (.bl b)/\h'=h:=by
 unfold BT.fO at e
 split at e
 ·rename_i kvs
  obtain ⟨b,e1,e2⟩:=az e
  cases e2
  exact .inl ⟨kvs,b,rfl,e1,rfl,rfl⟩
 ·refine .inr ?_
  cases e1:BT.rd x h with
  | none=>rw[e1] at e;cases e
  | some d =>
   cases e2:BT.rd y h with
   | none=>rw[e1,e2] at e;cases e
   | some d' =>
    rw[e1,e2] at e
    obtain ⟨q,eq,er⟩:=az e
    cases er
    exact ⟨d,d',q,rfl,rfl,eq,rfl,rfl⟩
theorem Hx (hu:X.A.units+150 < Rp):OpR X (Nt .Eq) (rOp X.prog X.w X.K (BT.fO .eq)):=by
 intro pins s σ H v u v' u' Q I rv ru h
 obtain ⟨m,h,x,y,z,h',R,rx,ry,e,post⟩:=h
 rcases c7 e with ⟨kvs,b,rfl,e1,_,_⟩ | ⟨d,d',b,e1,e2,e3,rfl,rfl⟩
 ·cases x with
  | p d=>cases d<;>exact ai e1
  | r n=>exact ai e1
  | k q=>exact ai e1
  | c _ _=>exact ai e1
  | x _=>exact ai e1
  | o q=>exact ai e1
 ·have r1:=aF R rx e1
  have r2:=aF R ry e2
  rw[BT.Ae] at e3
  split at e3
  ·rename_i c
   cases e3
   obtain ⟨as,ra⟩:=f7 I r1 rv
   obtain ⟨bs,rb⟩:=f7 I r2 ru
   have:=ny c
   refine SeqAt.compareEq_reads ra rb (fy r1) (fy r2) (by omega) ?_
   rw[kh]
   exact ⟨.bl _,H,I,rfl,post.here R (.bl _)⟩
  ·cases e3
theorem Hy (hu:X.A.units+150 < Rp):OpR X (Nt .NotEq) (rOp X.prog X.w X.K (BT.fO .ne)):=by
 intro pins s σ H v u v' u' Q I rv ru h
 obtain ⟨m,h,x,y,z,h',R,rx,ry,e,post⟩:=h
 rcases c7 e with ⟨kvs,b,rfl,e1,_,_⟩ | ⟨d,d',b,e1,e2,e3,rfl,rfl⟩
 ·cases x with
  | p d=>cases d<;>exact ai e1
  | r n=>exact ai e1
  | k q=>exact ai e1
  | c _ _=>exact ai e1
  | x _=>exact ai e1
  | o q=>exact ai e1
 ·have r1:=aF R rx e1
  have r2:=aF R ry e2
  rw[BT.jF] at e3
  split at e3
  ·rename_i c
   cases e3
   obtain ⟨as,ra⟩:=f7 I r1 rv
   obtain ⟨bs,rb⟩:=f7 I r2 ru
   have:=ny c
   refine SeqAt.compareNe_reads ra rb (fy r1) (fy r2) (by omega) ?_
   rw[kh]
   exact ⟨.bl _,H,I,rfl,post.here R (.bl _)⟩
  ·cases e3
theorem Hz:OpR X (Nt .Lt) (rOp X.prog X.w X.K (BT.fO .lt)):=by
 intro pins s σ H v u v' u' Q I rv ru h
 obtain ⟨m,h,x,y,z,h',R,rx,ry,e,post⟩:=h
 rcases c7 e with ⟨kvs,b,rfl,e1,_,_⟩ | ⟨d,d',b,e1,e2,e3,rfl,rfl⟩
 ·cases x with
  | p d=>cases d<;>exact ai e1
  | r n=>exact ai e1
  | k q=>exact ai e1
  | c _ _=>exact ai e1
  | x _=>exact ai e1
  | o q=>exact ai e1
 ·have r1:=aF R rx e1
  have r2:=aF R ry e2
  cases d<;>cases d'<;>first | (cases e3;done) | simp only[BT.dZ,BT.d7,BT.d8,BT.d9,BT.c9,BT.cB,BT.bF,BT.bO,BT.bB,BT.bC] at e3
  cases e3
  cases r1.int;cases r2.int
  exact Gi pins s σ H _ _ _ _ Q I rv ru ⟨_,_,rfl,rfl,post.here R (.bl _)⟩
theorem HA:OpR X (Nt .LtE) (rOp X.prog X.w X.K (BT.fO .le)):=by
 intro pins s σ H v u v' u' Q I rv ru h
 obtain ⟨m,h,x,y,z,h',R,rx,ry,e,post⟩:=h
 rcases c7 e with ⟨kvs,b,rfl,e1,_,_⟩ | ⟨d,d',b,e1,e2,e3,rfl,rfl⟩
 ·cases x with
  | p d=>cases d<;>exact ai e1
  | r n=>exact ai e1
  | k q=>exact ai e1
  | c _ _=>exact ai e1
  | x _=>exact ai e1
  | o q=>exact ai e1
 ·have r1:=aF R rx e1
  have r2:=aF R ry e2
  cases d<;>cases d'<;>first | (cases e3;done) | simp only[BT.dZ,BT.d7,BT.d8,BT.d9,BT.c9,BT.cB,BT.bF,BT.bO,BT.bB,BT.bC] at e3
  cases e3
  cases r1.int;cases r2.int
  exact Gj pins s σ H _ _ _ _ Q I rv ru ⟨_,_,rfl,rfl,post.here R (.bl _)⟩
theorem HB:OpR X (Nt .Gt) (rOp X.prog X.w X.K (BT.fO .gt)):=by
 intro pins s σ H v u v' u' Q I rv ru h
 obtain ⟨m,h,x,y,z,h',R,rx,ry,e,post⟩:=h
 rcases c7 e with ⟨kvs,b,rfl,e1,_,_⟩ | ⟨d,d',b,e1,e2,e3,rfl,rfl⟩
 ·cases x with
  | p d=>cases d<;>exact ai e1
  | r n=>exact ai e1
  | k q=>exact ai e1
  | c _ _=>exact ai e1
  | x _=>exact ai e1
  | o q=>exact ai e1
 ·have r1:=aF R rx e1
  have r2:=aF R ry e2
  cases d<;>cases d'<;>first | (cases e3;done) | simp only[BT.dZ,BT.d7,BT.d8,BT.d9,BT.c9,BT.cB,BT.bF,BT.bO,BT.bB,BT.bC] at e3
  cases e3
  cases r1.int;cases r2.int
  exact Gk pins s σ H _ _ _ _ Q I rv ru ⟨_,_,rfl,rfl,post.here R (.bl _)⟩
theorem HC:OpR X (Nt .GtE) (rOp X.prog X.w X.K (BT.fO .ge)):=by
 intro pins s σ H v u v' u' Q I rv ru h
 obtain ⟨m,h,x,y,z,h',R,rx,ry,e,post⟩:=h
 rcases c7 e with ⟨kvs,b,rfl,e1,_,_⟩ | ⟨d,d',b,e1,e2,e3,rfl,rfl⟩
 ·cases x with
  | p d=>cases d<;>exact ai e1
  | r n=>exact ai e1
  | k q=>exact ai e1
  | c _ _=>exact ai e1
  | x _=>exact ai e1
  | o q=>exact ai e1
 ·have r1:=aF R rx e1
  have r2:=aF R ry e2
  cases d<;>cases d'<;>first | (cases e3;done) | simp only[BT.dZ,BT.d7,BT.d8,BT.d9,BT.c9,BT.cB,BT.bF,BT.bO,BT.bB,BT.bC] at e3
  cases e3
  cases r1.int;cases r2.int
  exact Gm pins s σ H _ _ _ _ Q I rv ru ⟨_,_,rfl,rfl,post.here R (.bl _)⟩
theorem rP {v:V}{d:BT.D} (r:RR K m H v d):decide (v=.non)=BT.fU d:=by
 cases r with
 | d r=>cases r<;>rfl
 | l h r=>rfl
theorem DV:OpR X (Nt .Is) (rOp X.prog X.w X.K (BT.fO .isN)):=by
 intro pins s σ H v u v' u' Q I rv ru h
 obtain ⟨m,h,x,y,z,h',R,rx,ry,e,post⟩:=h
 rcases c7 e with ⟨kvs,b,rfl,e1,_,_⟩ | ⟨d,d',b,e1,e2,e3,rfl,rfl⟩
 ·cases x with
  | p d=>cases d<;>exact ai e1
  | r n=>exact ai e1
  | k q=>exact ai e1
  | c _ _=>exact ai e1
  | x _=>exact ai e1
  | o q=>exact ai e1
 ·have r1:=aF R rx e1
  have r2:=aF R ry e2
  cases d'<;>first | (cases e3;done) | simp only[BT.dZ,BT.d7,BT.d8,BT.d9,BT.c9,BT.cB,BT.bF,BT.bO,BT.bB,BT.bC] at e3
  cases e3
  cases r2.non
  refine Df pins s σ H _ _ _ _ Q I rv ru ⟨rfl,?_⟩
  rw[rP r1]
  exact post.here R (.bl _)
theorem As:OpR X (Nt .IsNot) (rOp X.prog X.w X.K (BT.fO .notN)):=by
 intro pins s σ H v u v' u' Q I rv ru h
 obtain ⟨m,h,x,y,z,h',R,rx,ry,e,post⟩:=h
 rcases c7 e with ⟨kvs,b,rfl,e1,_,_⟩ | ⟨d,d',b,e1,e2,e3,rfl,rfl⟩
 ·cases x with
  | p d=>cases d<;>exact ai e1
  | r n=>exact ai e1
  | k q=>exact ai e1
  | c _ _=>exact ai e1
  | x _=>exact ai e1
  | o q=>exact ai e1
 ·have r1:=aF R rx e1
  have r2:=aF R ry e2
  cases d'<;>first | (cases e3;done) | simp only[BT.dZ,BT.d7,BT.d8,BT.d9,BT.c9,BT.cB,BT.bF,BT.bO,BT.bB,BT.bC] at e3
  cases e3
  cases r2.non
  refine zK pins s σ H _ _ _ _ Q I rv ru ⟨rfl,?_⟩
  rw[rP r1]
  exact post.here R (.bl _)
open Classical in
noncomputable def bY (h:Heap) (dx:PyData) (y:Value):Bool:=if q:∃ db as,Reads h y db as/\db.canLay0=true then PyData.eqv (Classical.choose q) dx else false
theorem qz {h:Heap}{dx db:PyData}{y:Value}{as:List MN} (r:Reads h y db as) (c:db.canLay0=true):bY h dx y=PyData.eqv db dx:=by
 have q:∃ db as,Reads h y db as/\db.canLay0=true:=⟨db,as,r,c⟩
 unfold bY
 rw[dif_pos q]
 obtain ⟨as',r',c'⟩:=Classical.choose_spec q
 rw[SeqAt.Reads.unique _ _ _ _ _ c r r']
theorem iN (I:Inv X pins σ H s) {d:BT.D}:∀ {vs:List V}{ds:List BT.D}{us:List Value},RDs X.K m H vs ds->ao vs us->us.any (bY s.heap (pd d))=ds.any fun y=>BT.eqv y d
 | _,_,_,.nil,q=>by cases q;rfl
 | _,_,_,.cons r t,q=>by
  cases q with
  | cons q1 q2 =>
   obtain ⟨as,ra⟩:=f6 I r q1
   rw[List.any_cons,List.any_cons,iN I t q2,qz ra (dM r),kh]
theorem eH (hu:X.A.units+150 < Rp) (I:Inv X pins σ H s) {v:V}{d:BT.D}{u:Value} (rx:RR X.K m H v d) (rv:RelV v u):∀ {vs:List V}{ds:List BT.D}{us:List Value},RDs X.K m H vs ds->ao vs us->(ds.all fun y=>BT.aU y d)=true →
 ∀ y∈us,SeqAt.EqAt X.A.in1 s y u (bY s.heap (pd d) y)
 | _,_,_,.nil,q,_=>by cases q;intro y hy;simp at hy
 | _,_,_,.cons r t,q,c=>by
  cases q with
  | cons q1 q2 =>
   rw[List.all_cons,ML] at c
   intro y hy
   rcases List.mem_cons.mp hy with rfl | hy
   ·obtain ⟨as,ra⟩:=f6 I r q1
    obtain ⟨bs,rb⟩:=f7 I rx rv
    rw[qz ra (dM r)]
    have:=ny c.1
    refine SeqAt.eqAt_reads _ _ _ _ _ _ _ _ ra rb (dM r) (fy rx) ?_
    show X.A.units+1+_ < _
    omega
   ·exact eH hu I rx rv t q2 c.2 y hy
theorem DW (hu:X.A.units+150 < Rp) (hk:∀ {kvs:List (Str×BT.D)}{x:BT.W}{b:Bool}{m:List MN}{H:Hp}{v u:V}{v' u':Value}{pins σ s Q},Inv X pins σ H s->RelV v v'->RelV u u'->RW X.prog X.w X.K m H v x->RW X.prog X.w X.K m H u (.k kvs)->BT.inK .mem x kvs=some b->Q (V.bl b) H →
 wpAny (M3 X.prog X.w) X.A (Nt .In v' u') (EP X pins σ Q) X.xe s):OpR X (Nt .In) (rOp X.prog X.w X.K (BT.fO .mem)):=by
 intro pins s σ H v u v' u' Q I rv ru h
 obtain ⟨m,h,x,y,z,h',R,rx,ry,e,post⟩:=h
 rcases c7 e with ⟨kvs,b,rfl,e1,rfl,rfl⟩ | ⟨d,d',b,e1,e2,e3,rfl,rfl⟩
 ·exact hk I rv ru rx ry e1 (post.here R (.bl _))
 ·have r1:=aF R rx e1
  have r2:=aF R ry e2
  cases d'<;>first | (cases e3;done) | simp only[BT.dZ,BT.d7,BT.d8,BT.d9,BT.c9,BT.cB,BT.bF,BT.bO,BT.bB,BT.bC] at e3
  ·split at e3
   ·rename_i c
    cases e3
    obtain ⟨a,vs,rfl,ha,ra⟩:=r2.tup
    cases ru
    obtain ⟨its,q1,q2,_⟩:=I.tuple ha
    refine SeqAt.in_tupleAt (bY s.heap (pd d)) q2 (fun y hy=>eH hu I r1 rv ra q1 c y (by simpa using hy)) ⟨.bl _,H,I,rfl,?_⟩
    rw[show its.toArray.any (bY s.heap (pd d))=its.any (bY s.heap (pd d)) by simp,iN I ra q1]
    exact post.here R (.bl _)
   ·cases e3
  ·split at e3
   ·rename_i c
    cases e3
    obtain ⟨a,vs,rfl,ha,ra⟩:=r2.lst
    cases ru
    obtain ⟨z,its,n,q1,_,q2⟩:=rdL I ha
    refine SeqAt.in_listAt (bY s.heap (pd d)) ⟨_,q2,rfl,_,rfl⟩ (fun y hy=>eH hu I r1 rv ra q1 c y (by simpa using hy)) ⟨.bl _,H,I,rfl,?_⟩
    rw[show its.toArray.any (bY s.heap (pd d))=its.any (bY s.heap (pd d)) by simp,iN I ra q1]
    exact post.here R (.bl _)
   ·cases e3
theorem Au (hu:X.A.units+150 < Rp) (hk:∀ {kvs:List (Str×BT.D)}{x:BT.W}{b:Bool}{m:List MN}{H:Hp}{v u:V}{v' u':Value}{pins σ s Q},Inv X pins σ H s->RelV v v'->RelV u u'->RW X.prog X.w X.K m H v x->RW X.prog X.w X.K m H u (.k kvs)->BT.inK .nmem x kvs=some b->Q (V.bl b) H →
 wpAny (M3 X.prog X.w) X.A (Nt .NotIn v' u') (EP X pins σ Q) X.xe s):OpR X (Nt .NotIn) (rOp X.prog X.w X.K (BT.fO .nmem)):=by
 intro pins s σ H v u v' u' Q I rv ru h
 obtain ⟨m,h,x,y,z,h',R,rx,ry,e,post⟩:=h
 rcases c7 e with ⟨kvs,b,rfl,e1,rfl,rfl⟩ | ⟨d,d',b,e1,e2,e3,rfl,rfl⟩
 ·exact hk I rv ru rx ry e1 (post.here R (.bl _))
 ·have r1:=aF R rx e1
  have r2:=aF R ry e2
  cases d'<;>first | (cases e3;done) | simp only[BT.dZ,BT.d7,BT.d8,BT.d9,BT.c9,BT.cB,BT.bF,BT.bO,BT.bB,BT.bC] at e3
  ·split at e3
   ·rename_i c
    cases e3
    obtain ⟨a,vs,rfl,ha,ra⟩:=r2.tup
    cases ru
    obtain ⟨its,q1,q2,_⟩:=I.tuple ha
    refine SeqAt.notIn_tupleAt (bY s.heap (pd d)) q2 (fun y hy=>eH hu I r1 rv ra q1 c y (by simpa using hy)) ⟨.bl _,H,I,rfl,?_⟩
    rw[show its.toArray.any (bY s.heap (pd d))=its.any (bY s.heap (pd d)) by simp,iN I ra q1]
    exact post.here R (.bl _)
   ·cases e3
  ·split at e3
   ·rename_i c
    cases e3
    obtain ⟨a,vs,rfl,ha,ra⟩:=r2.lst
    cases ru
    obtain ⟨z,its,n,q1,_,q2⟩:=rdL I ha
    refine SeqAt.notIn_listAt (bY s.heap (pd d)) ⟨_,q2,rfl,_,rfl⟩ (fun y hy=>eH hu I r1 rv ra q1 c y (by simpa using hy)) ⟨.bl _,H,I,rfl,?_⟩
    rw[show its.toArray.any (bY s.heap (pd d))=its.any (bY s.heap (pd d)) by simp,iN I ra q1]
    exact post.here R (.bl _)
   ·cases e3
end
end BS
end
section
namespace BS
open PySem PySem.Spec PyProof.Rows L2
section
variable {X:Cx}
theorem RDs.atI {K:MI}{m:List MN}{H:Hp}{vs:List V}{ds:List BT.D}{i:Int}{d:BT.D} (r:RDs K m H vs ds) (e:BT.atP ds i=some d):∃ v,L2.atI vs i=some v/\RD K m H v d:=by
 unfold BT.atP at e
 unfold L2.atI
 obtain ⟨j,h1,h2⟩:=Option.bind_eq_some_iff.mp e
 obtain ⟨v,q1,q2⟩:=r.get h2
 refine ⟨v,?_,q2⟩
 rw[r.length]
 show ((BT.place ds.length i).bind fun j=>vs[j]?)=some v
 rw[h1]
 exact q1
theorem Av {x y:BT.W}{h:BT.HH}{z:BT.W}{h':BT.HH} (e:BT.Af x y h=some (z,h')) :
 (∃ kvs k d,x=.k kvs/\y=.p (.str k)/\BT.cP k kvs=some d/\z=.p d/\h'=h)\/∃ d d' b,BT.rd x h=some d/\BT.rd y h=some d'/\BT.aI d d'=some b/\z=.p b/\h'=h:=by
 unfold BT.Af at e
 split at e
 ·rename_i kvs
  obtain ⟨b,e1,e2⟩:=az e
  cases e2
  cases y with
  | p d =>
   cases d<;>simp only[BT.atK] at e1<;>try contradiction
   exact .inl ⟨kvs,_,b,rfl,rfl,e1,rfl,rfl⟩
  | r n=>simp[BT.atK] at e1
  | k q=>simp[BT.atK] at e1
  | c _ _=>simp[BT.atK] at e1
  | x _=>simp[BT.atK] at e1
  | o q=>simp[BT.atK] at e1
 ·refine .inr ?_
  cases e1:BT.rd x h with
  | none=>rw[e1] at e;cases e
  | some d =>
   cases e2:BT.rd y h with
   | none=>rw[e1,e2] at e;cases e
   | some d' =>
    rw[e1,e2] at e
    obtain ⟨q,eq,er⟩:=az e
    cases er
    exact ⟨d,d',q,rfl,rfl,eq,rfl,rfl⟩
theorem wU {K:MI}{k:Str}{d:BT.D}:∀ {es:List (Str×V)}{kvs:List (Str×BT.D)}{vs:List (Key×Value)},RDk K es kvs->KV (es.map fun q=>((Sum.inr q.1:Key),q.2)) vs->BT.cP k kvs=some d →
 ∃ u v,valueAt vs (Sum.inr k)=some u/\RelV v u/\∀ m H,RD K m H v d
 | _,_,_,.nil,_,e=>by simp[BT.cP] at e
 | _,_,_,@RDk.cons _ x v dd es kvs r t,q,e=>by
  cases q with
  | @cons p z l1 l2 q1 q2 =>
   obtain ⟨z1,z2⟩:=z
   obtain ⟨q11,q12⟩:=q1
   simp only at q11 q12
   subst q11
   rw[BT.cP] at e
   by_cases c:k=x
   ·rw[if_pos c] at e
    cases e
    subst c
    exact ⟨z2,v,by simp[valueAt],q12,r⟩
   ·rw[if_neg c] at e
    obtain ⟨u,v',h1,h2,h3⟩:=wU t q2 e
    refine ⟨u,v',?_,h2,h3⟩
    have ne:¬ ((Sum.inr x:Key)=Sum.inr k):=fun z=>c (Sum.inr.inj z).symm
    simp only[valueAt] at h1 ⊢
    rw[Q9 (by simpa using ne)]
    exact h1
theorem uE {x:Str}{c:Nat} (h:PyData.strOk x=true) (hc:c∈x.cps.toList):PyData.strOk ⟨#[c]⟩=true:=by
 simp only[PyData.strOk,Array.all_eq_true_iff_forall_mem] at h ⊢
 intro y hy
 simp at hy
 subst hy
 exact h y (by simpa using hc)
theorem DX:IxR X (rOp X.prog X.w X.K BT.Af):=by
 intro value slice pins s σ H v u v' u' Q I rv ru h hs
 obtain ⟨m,h,x,y,z,h',R,rx,ry,e,post⟩:=h
 rcases Av e with ⟨kvs,k,d,rfl,rfl,e1,rfl,rfl⟩ | ⟨d,d',b,e1,e2,e3,rfl,rfl⟩
 ·cases rx with
  | @k a es _ kd rk =>
   cases rv
   cases ry with
   | p ry =>
    cases ry with
    | str _ ok =>
     obtain ⟨t,rfl⟩:=ru
     obtain ⟨hm,vs,kv,dd⟩:=kd
     obtain ⟨w',z,h1,h2,h3⟩:=wU rk kv e1
     have D:=dd s.heap I.kIn
     refine tail_any (ops:=[.ref a,.str k t]) D.typeIs slot_dict_getitem.lookup ?_ hs
     exact wpAny_getItem_of (knd:=cE X.prog X.w) (fQ _ _ k t) D.mapOf h1 ⟨z,H,I.tok _,h2,post.here R (h3 _ _)⟩
 ·have r1:=aF R rx e1
  have r2:=aF R ry e2
  cases d<;>cases d'<;>first | (cases e3;done) | simp only[BT.aL,BT.aM,BT.fV] at e3
  ·split at e3
   ·rename_i c
    obtain ⟨cc,e4,e5⟩:=az e3
    subst e5
    obtain ⟨rfl,ok⟩:=r1.str
    cases r2.int
    have:=cV
    refine Dn value slice pins s σ H _ _ _ _ Q I rv ru ⟨_,_,cc,rfl,rfl,by omega,e4,post.here R (.str _ (uE ok ?_))⟩ hs
    obtain ⟨j,h1,h2⟩:=Option.bind_eq_some_iff.mp e4
    exact MZ h2
   ·cases e3
  ·obtain ⟨a,vs,rfl,ha,ra⟩:=r1.tup
   cases r2.int
   obtain ⟨z,q1,q2⟩:=ra.atI e3
   exact Dm value slice pins s σ H _ _ _ _ Q I rv ru ⟨a,vs,_,z,rfl,rfl,ha,q1,post.here R q2⟩ hs
  ·obtain ⟨a,vs,rfl,ha,ra⟩:=r1.lst
   cases r2.int
   obtain ⟨z,q1,q2⟩:=ra.atI e3
   exact zW value slice pins s σ H _ _ _ _ Q I rv ru ⟨a,vs,_,z,rfl,rfl,ha.sq,q1,post.here R q2⟩ hs
theorem iO (n d:Nat) (o:Option Int):BT.clip n d o=HT.sIx n d o:=by
 cases o with
 | none=>rfl
 | some v =>
  simp only[BT.clip,HT.sIx]
  split
  ·rfl
  ·split
   ·omega
   ·omega
theorem lq {prog:MP}{w:M7}{A:Nn}{E:Value->MK->Prop}{s:MK}{t sl:MN}{items:Array Value}{vl vu:Value}{lo hi:Option Int}{Q:Value->MK->Prop} (ht:IsTup s.heap t items) (hs:s.heap.IsSliceOf sl vl vu .none) (pl:QO vl lo) (pu:QO vu hi)
 (hw:HT.sIx items.size 0 lo=0/\HT.sIx items.size items.size hi=items.size) (h:Q (.ref t) s):wpAny (M3 prog w) A (QD (.ref t) (.ref sl)) Q E s:=by
 obtain ⟨os,hos,hcs,hds⟩:=id hs
 have hTs:s.TypeIs (.ref sl) "slice":=⟨os,hos,hcs⟩
 unfold QD
 try with_reducible refine Oo ?_
 first | refine wpAny_bind (wpAny_pure ?_) | skip
 refine wpAny_bind (wpAny_sequenceKey ht.typeIs (by decide) ?_)
 refine wpAny_bind (RO (name:=MU "__getitem__") ht.typeIs NW
  (wpAny_call_entry NW ht.typeIs entry_tuple_getitem ?_ (args_tuple_getitem _ _)))
 show wpAny _ _ (PY (.ref t) >>= _) _ _ s
 refine wpAny_bind (tupleItemsOf_ ht ?_)
 refine wpAny_bind (wpAny_typeOf hTs ?_)
 rw[if_pos (by decide)]
 refine wpAny_bind (HT.fc hs pl pu ?_)
 have hno:(((HT.sIx items.size 0 lo:Nat):Int)==0&&(1:Int)==1&&(HT.sIx items.size items.size hi - HT.sIx items.size 0 lo)==items.size)=true:=by
  rw[hw.1,hw.2];simp
 show wpAny _ _ (if (((HT.sIx items.size 0 lo:Nat):Int)==0&&(1:Int)==1&&(HT.sIx items.size items.size hi - HT.sIx items.size 0 lo)==items.size)=true then _ else _) _ _ s
 rw[if_pos hno]
 unfold Builtin.Tuple.tupleIsExact
 refine wpAny_bind (wpAny_bind (wpAny_typeOf ht.typeIs (wpAny_pure ?_)))
 rw[if_pos (by decide)]
 refine wpAny_bind (Ry ?_)
 first
  | exact wpAny_pure ⟨_,rfl,wpAny_pure h⟩
  | exact wpAny_pure ⟨_,rfl,h⟩
  | exact wpAny_bind (wpAny_pure (wpAny_pure ⟨_,rfl,wpAny_pure h⟩))
noncomputable def rSl (P:MP) (w:M7) (K:MI):V->Option Int->Option Int->Hp->VK->Prop:=fun v lo hi H Q =>
 ∃ m h x d b,RH K m H h/\RW P w K m H v x/\BT.rd x h=some d/\BT.mX d lo hi=some b/\Post P w K m H (.p b) h Q
theorem RDs.cut {K:MI}{m:List MN}{H:Hp}{vs:List V}{ds:List BT.D} (r:RDs K m H vs ds) (lo hi:Option Int):RDs K m H (oJ vs lo hi) (BT.cut ds lo hi):=by
 unfold oJ BT.cut
 rw[iO,iO,r.length]
 exact (r.drop _).take _
theorem uF {ds:List BT.D}{lo hi:Option Int} (h1:HT.sIx ds.length 0 lo=0) (h2:HT.sIx ds.length ds.length hi=ds.length):BT.cut ds lo hi=ds:=by
 unfold BT.cut
 rw[iO,iO,h1,h2]
 simp
theorem osl:SlR X (rSl X.prog X.w X.K):=by
 intro pins s σ H v v' vl vu lo hi sl Q I rv hs pl pu h
 obtain ⟨m,h,x,d,b,R,rx,e1,e2,post⟩:=h
 have r1:=aF R rx e1
 cases d<;>simp only[BT.mX] at e2<;>try contradiction
 ·cases e2
  obtain ⟨a,vs,rfl,ha,ra⟩:=r1.tup
  cases rv
  by_cases c:HT.sIx vs.length 0 lo=0/\HT.sIx vs.length vs.length hi=vs.length
  ·obtain ⟨its,q1,q2,_⟩:=I.tuple ha
   have hl:its.toArray.size=vs.length:=by rw[MM];exact q1.length.symm
   refine ⟨"tuple",_,PyProof.Rows.slot_tuple_getitem.lookup,q2.typeIs,lq q2 hs pl pu (by rw[hl];exact c) ⟨.ref a,H,I,rfl,?_⟩⟩
   cases r1 with
   | d r =>
    refine post.here R ?_
    rw[uF (by rw[← ra.length];exact c.1) (by rw[← ra.length];exact c.2)]
    exact r
  ·exact Dl pins s σ H (.ref a) (.ref a) vl vu lo hi sl Q I rfl hs pl pu ⟨a,vs,rfl,ha,c,fun p hp=>iL R hp (ra.cut lo hi) post⟩
 ·cases e2
  obtain ⟨a,vs,rfl,ha,ra⟩:=r1.lst
  exact zX pins s σ H _ _ vl vu lo hi sl Q I rv hs pl pu ⟨a,vs,rfl,ha.sq,fun p hp=>iM R hp (ra.cut lo hi) post⟩
end
end BS
end
section
namespace BS
open PySem PySem.Spec PyProof.Rows L2
theorem oZ (m:BT.Me) (d:BT.D) (as:List BT.W) (h:BT.HH):BT.meW m (.p d) as h=(match BT.aJ as with | some ds=>(BT.meD m d ds).map fun x=>(.p x,h) | none=>none):=by cases m<;>rfl
section
variable {X:Cx}
noncomputable def rMe (P:MP) (w:M7) (K:MI) (me:BT.Me):V->List V->Hp->VK->Prop:=fun v vs H Q =>
 ∃ m h x ws z h',RH K m H h/\RW P w K m H v x/\RWs P w K m H vs ws/\BT.meW me x ws h=some (z,h')/\Post P w K m H z h' Q
theorem getD_some {α:Type}{xs:List α}{n:Nat}{a:α} (h:xs[n]?=some a):n < xs.length:=by
 rcases M4 n xs.length with z | z
 ·exact z
 ·rw[MS z] at h;cases h
theorem uG:MtR X "list.append" (rMe X.prog X.w X.K .append):=by
 intro pins s σ H v vs v' us Q I rv rus h
 obtain ⟨m,h,x,ws,z,h',R,rx,rws,e,post⟩:=h
 cases x with
 | p d=>cases ws with
  | nil=>exact ai e
  | cons _ _=>rw[oZ] at e;split at e<;>(try cases e)
 | k kvs=>(first | (cases e;done) | simp[BT.meW] at e)
 | c _ _=>(first | (cases e;done) | simp[BT.meW] at e)
 | x _=>(first | (cases e;done) | simp[BT.meW] at e)
 | o kvs=>(first | (cases e;done) | simp[BT.meW] at e)
 | r n =>
  cases rws with
  | nil=>(first | (cases e;done) | simp[BT.meW] at e)
  | @cons y wy _ _ ry t =>
   cases t with
   | cons _ _=>cases ry<;>(first | (cases e;done) | simp[BT.meW] at e)
   | nil =>
    cases ry with
    | r _=>(first | (cases e;done) | simp[BT.meW] at e)
    | k _ _=>(first | (cases e;done) | simp[BT.meW] at e)
    | c _ _=>(first | (cases e;done) | simp[BT.meW] at e)
    | x _=>(first | (cases e;done) | simp[BT.meW] at e)
    | g _ _=>(first | (cases e;done) | simp[BT.meW] at e)
    | o _=>(first | (cases e;done) | simp[BT.meW] at e)
    | p ry =>
     rw[BT.qp] at e
     cases g:BT.lat h n with
     | none=>rw[g] at e;cases e
     | some xs =>
      rw[g] at e
      simp only at e
      split at e
      ·rename_i c
       cases e
       cases rx with
       | @r a _ hn =>
        obtain ⟨us',hH,r⟩:=R.cell n a xs hn g
        have:=cV
        have hl:=r.length
        exact ur pins s σ H _ _ _ _ Q I rv rus ⟨a,us',y,rfl,rfl,hH,by omega,post _ _ m (fu (MZ hn) hH) (R.set hn hH (r.append (.cons ry .nil))) (.p .non)⟩
      ·cases e
theorem wV {α:Type}{xs:List α}{d:α} (h:xs.getLast?=some d):xs[xs.length - 1]?=some d:=by rw[← List.getLast?_eq_getElem?];exact h
theorem DY:MtR X "list.pop" (rMe X.prog X.w X.K .pop):=by
 intro pins s σ H v vs v' us Q I rv rus h
 obtain ⟨m,h,x,ws,z,h',R,rx,rws,e,post⟩:=h
 cases x with
 | p d=>cases ws with
  | nil=>exact ai e
  | cons _ _=>rw[oZ] at e;split at e<;>(try cases e)
 | k kvs=>(first | (cases e;done) | simp[BT.meW] at e)
 | c _ _=>(first | (cases e;done) | simp[BT.meW] at e)
 | x _=>(first | (cases e;done) | simp[BT.meW] at e)
 | o kvs=>(first | (cases e;done) | simp[BT.meW] at e)
 | r n =>
  cases rws with
  | cons _ _=>(first | (cases e;done) | simp[BT.meW] at e)
  | nil =>
   rw[BT.Ad] at e
   cases g:BT.lat h n with
   | none=>rw[g] at e;cases e
   | some xs =>
    rw[g] at e
    simp only at e
    cases gl:xs.getLast? with
    | none=>rw[gl] at e;cases e
    | some d =>
     rw[gl] at e
     cases e
     cases rx with
     | @r a _ hn =>
      obtain ⟨us',hH,r⟩:=R.cell n a xs hn g
      have hl:=r.length
      obtain ⟨y,hy,ry⟩:=r.get (wV gl)
      have x1:Ext m H m (upd H a (.lst us'.dropLast)):=fu (MZ hn) hH
      exact Dq pins s σ H _ _ _ _ Q I rv rus ⟨a,us',y,rfl,rfl,hH,by rw[hl];exact hy,post _ _ m x1 (R.set hn hH r.dropLast) (.p (ry.ext x1))⟩
theorem wW {pins:List (MN×Obj)}{s:MK}{σ:L2.St}{H:Hp}{l b:MN}{xs zs:List V}{Q:VK} (I:Inv X pins σ H s) (hH:H l=some (.lst xs)) (hB:LL X.K H b zs) (hz:xs.length+zs.length<=sizeLine) (q:Q .non (upd H l (.lst (xs++zs)))) :
 wpAny (M3 X.prog X.w) X.A (call (.builtin "list.extend") [.ref l,.ref b]) (EP X pins σ Q) X.xe s:=by
 obtain ⟨z,its,n,r,hl,e⟩:=I.zZ hH
 obtain ⟨z2,its2,n2,r2,hl2,e2⟩:=rdL I hB
 have hsz:its.toArray.size+its2.toArray.size<=sizeLine:=by rw[MM,MM];omega
 have hlong:¬ (!its.toArray.isEmpty&&NH (its.toArray.size+its2.toArray.size))=true:=by
  rw[jU hsz,Bool.and_false]
  exact NZ
 refine Oq F.slot_list_extend ⟨_,e,rfl⟩ F.entry_list_extend (F.args_list_extend_2 _ _)
  (AutoSeq1.list_extend_list_list_0 l its.toArray n b its2.toArray n2 hlong (by rw[MM];omega) (by omega)) ⟨e,e2,?_⟩
 refine ⟨.non,_,I.zY (its':=its++its2) hH e (by simp) (r.append r2) ?_,rfl,q⟩
 rw[Nj]
 omega
theorem Aw {pins:List (MN×Obj)}{s:MK}{σ:L2.St}{H:Hp}{l b:MN}{xs zs:List V}{Q:VK} (I:Inv X pins σ H s) (hH:H l=some (.lst xs)) (hB:SqT X.K H b zs) (hz:xs.length+zs.length<=sizeLine) (q:Q .non (upd H l (.lst (xs++zs)))) :
 wpAny (M3 X.prog X.w) X.A (call (.builtin "list.extend") [.ref l,.ref b]) (EP X pins σ Q) X.xe s:=by
 obtain ⟨z,its,n,r,hl,e⟩:=I.zZ hH
 obtain ⟨its2,r2,p2,_⟩:=I.tuple hB
 obtain ⟨⟨cls,dd,data,sl⟩,e2,hc,n2,hd⟩:=id p2
 simp only at hc hd
 subst hc hd
 have hl2:=r2.length
 have hsz:its.toArray.size+its2.toArray.size<=sizeLine:=by rw[MM,MM];omega
 have hlong:¬ (!its.toArray.isEmpty&&NH (its.toArray.size+its2.toArray.size))=true:=by
  rw[jU hsz,Bool.and_false]
  exact NZ
 refine Oq F.slot_list_extend ⟨_,e,rfl⟩ F.entry_list_extend (F.args_list_extend_2 _ _)
  (jy l its.toArray n b its2.toArray n2 dd sl hlong (by rw[MM];omega) (by omega)) ⟨e,e2,?_⟩
 refine ⟨.non,_,I.zY (its':=its++its2) hH e (by simp) (r.append r2) ?_,rfl,q⟩
 rw[Nj]
 omega
theorem uH:MtR X "list.extend" (rMe X.prog X.w X.K .extend):=by
 intro pins s σ H v vs v' us Q I rv rus h
 obtain ⟨m,h,x,ws,z,h',R,rx,rws,e,post⟩:=h
 cases x with
 | p d=>cases ws with
  | nil=>exact ai e
  | cons _ _=>rw[oZ] at e;split at e<;>(try cases e)
 | k kvs=>(first | (cases e;done) | simp[BT.meW] at e)
 | c _ _=>(first | (cases e;done) | simp[BT.meW] at e)
 | x _=>(first | (cases e;done) | simp[BT.meW] at e)
 | o kvs=>(first | (cases e;done) | simp[BT.meW] at e)
 | r n =>
  cases rws with
  | nil=>(first | (cases e;done) | simp[BT.meW] at e)
  | @cons y wy _ _ ry t =>
   cases t with
   | cons _ _=>(first | (cases e;done) | simp[BT.meW] at e)
   | nil =>
    rw[BT.qt] at e
    cases g:BT.lat h n with
    | none=>rw[g] at e;cases e
    | some xs =>
     cases g2:(BT.rd wy h).bind BT.mY with
     | none=>rw[g,g2] at e;cases e
     | some ys =>
      rw[g,g2] at e
      simp only at e
      split at e
      ·rename_i c
       cases e
       obtain ⟨d,e1,e2⟩:=Option.bind_eq_some_iff.mp g2
       have r2:=aF R ry e1
       cases rx with
       | @r a _ hn =>
        obtain ⟨us',hH,r⟩:=R.cell n a xs hn g
        cases rv
        obtain ⟨u,rfl,ru⟩:=rus.one
        have:=cV
        have hl:=r.length
        cases d<;>simp only[BT.mY] at e2<;>try contradiction
        ·cases e2
         obtain ⟨b,vb,rfl,hb,rb⟩:=r2.tup
         cases ru
         have hl2:=rb.length
         exact Aw I hH hb (by omega) (post _ _ m (fu (MZ hn) hH) (R.set hn hH (r.append rb)) (.p .non))
        ·cases e2
         obtain ⟨b,vb,rfl,hb,rb⟩:=r2.lst
         cases ru
         have hl2:=rb.length
         exact wW I hH hb (by omega) (post _ _ m (fu (MZ hn) hH) (R.set hn hH (r.append rb)) (.p .non))
      ·cases e
theorem RWs.pure {P:MP}{w:M7}{K:MI}{m:List MN}{H:Hp}:∀ {vs:List V}{ws:List BT.W}{ds:List BT.D},RWs P w K m H vs ws->BT.aJ ws=some ds->RDs K m H vs ds:=by
 intro vs ws
 induction ws generalizing vs with
 | nil =>
  intro ds r e
  cases r
  cases e
  exact .nil
 | cons x ws ih =>
  intro ds r e
  cases r with
  | cons r t =>
   cases r with
   | p r =>
    simp only[BT.aJ] at e
    obtain ⟨q,e1,e2⟩:=az e
    subst e2
    exact .cons r (ih t e1)
   | _=>cases e
theorem gW {x:BT.D}:∀ {ds:List BT.D}{k j:Nat},BT.eY x ds k=some j->∃ i,j=k+i/\∃ (hi:i < ds.length),BT.eqv ds[i] x=true/\∀ m (hm:m < ds.length),m < i->BT.eqv ds[m] x=false
 | [],_,_,e=>by cases e
 | y :: r,k,j,e=>by
  simp only[BT.eY] at e
  split at e
  ·rename_i c
   cases e
   exact ⟨0,rfl,by simp,c,fun m _ h=>by omega⟩
  ·rename_i c
   obtain ⟨i,rfl,hi,h1,h2⟩:=gW e
   refine ⟨i+1,by omega,by simp;omega,by simpa using h1,fun m hm hlt=>?_⟩
   cases m with
   | zero=>simpa using c
   | succ m=>simpa using h2 m (by simpa using hm) (by omega)
theorem gB {pins:List (MN×Obj)}{σ:L2.St}{s:MK}{m:List MN}{H:Hp}{d:BT.D} (I:Inv X pins σ H s):∀ {vs:List V}{ds:List BT.D}{us:List Value},RDs X.K m H vs ds->ao vs us->∀ (i:Nat) (h1:i < us.length) (h2:i < ds.length),bY s.heap (pd d) us[i]=BT.eqv ds[i] d
 | _,_,_,.nil,q=>by cases q;intro i h1;simp at h1
 | _,_,_,.cons r t,q=>by
  cases q with
  | cons q1 q2 =>
   intro i h1 h2
   cases i with
   | zero =>
    obtain ⟨as,ra⟩:=f6 I r q1
    simp only[List.getElem_cons_zero]
    rw[qz ra (dM r),kh]
   | succ i=>simpa using gB I t q2 i (by simpa using h1) (by simpa using h2)
theorem uI (hu:X.A.units+150 < Rp):MtR X "tuple.index" (fun v vs H Q=>(∃ m h x ws z h',RH X.K m H h/\RW X.prog X.w X.K m H v x/\RWs X.prog X.w X.K m H vs ws/\BT.meW .tindex x ws h=some (z,h')/\Post X.prog X.w X.K m H z h' Q)):=by
 intro pins s σ H v vs v' us Q I rv rus h
 obtain ⟨m,h,x,ws,z,h',R,rx,rws,e,post⟩:=h
 cases x with
 | r n=>cases ws with
  | nil=>(first | (cases e;done) | simp[BT.meW] at e)
  | cons _ _=>(first | (cases e;done) | simp[BT.meW] at e)
 | k kvs=>(first | (cases e;done) | simp[BT.meW] at e)
 | c _ _=>(first | (cases e;done) | simp[BT.meW] at e)
 | x _=>(first | (cases e;done) | simp[BT.meW] at e)
 | o kvs=>(first | (cases e;done) | simp[BT.meW] at e)
 | p d =>
  rw[BT.jX] at e
  cases g:BT.aJ ws with
  | none=>rw[g] at e;cases e
  | some ds =>
   rw[g] at e
   obtain ⟨b,e1,e2⟩:=az e
   cases e2
   have rds:=rws.pure g
   cases d<;>first | exact ai e1 | skip
   rename_i xs
   cases ds with
   | nil=>exact ai e1
   | cons d0 dr =>
    cases dr with
    | cons _ _=>exact ai e1
    | nil =>
     rw[BT.v7] at e1
     split at e1
     ·rename_i c
      obtain ⟨j,e3,e4⟩:=az e1
      subst e4
      obtain ⟨i,rfl,hi,h1,h2⟩:=gW e3
      cases rds with
      | cons r0 rn =>
       cases rn
       obtain ⟨u,rfl,ru⟩:=rus.one
       cases rx with
       | p rx =>
        obtain ⟨a,vt,rfl,ha,ra⟩:=RR.tup (.d rx)
        cases rv
        obtain ⟨its,q1,q2,_⟩:=I.tuple ha
        obtain ⟨⟨cls,dd,data,sl⟩,ho,hc,n,hd⟩:=id q2
        simp only at hc hd
        subst hc hd
        have hl:=q1.length
        have hl2:=ra.length
        have hi':i < its.toArray.size:=by rw[MM];omega
        refine Oq F.slot_tuple_index ⟨_,ho,rfl⟩ F.entry_tuple_index (F.args_tuple_index_2 _ _)
         (lg a its.toArray n dd sl u (bY s.heap (pd d0)) i hi' ?_ ?_) ⟨ho,?_,?_⟩
        ·rw[show its.toArray[i]=its[i]'(by omega) by simp,gB I ra q1 i (by omega) hi];exact h1
        ·intro k hk hlt
         have hk':k < its.length:=by simpa using hk
         rw[show its.toArray[k]=its[k]'hk' by simp,gB I ra q1 k hk' (by omega)];exact h2 k (by omega) hlt
        ·intro y hy
         exact eH hu I (.d r0) ru ra q1 c y (by simpa using hy)
        ·refine ⟨.int (((0+i:Nat):Nat):Int),H,I.tok _,⟨s.toks,?_⟩,post.here R (.int _)⟩
         simp
     ·cases e1
theorem uJ:MtR X "str.index" (rMe X.prog X.w X.K .sindex):=by
 intro pins s σ H v vs v' us Q I rv rus h
 obtain ⟨m,h,x,ws,z,h',R,rx,rws,e,post⟩:=h
 cases x with
 | r n=>cases ws with
  | nil=>(first | (cases e;done) | simp[BT.meW] at e)
  | cons _ _=>(first | (cases e;done) | simp[BT.meW] at e)
 | k kvs=>(first | (cases e;done) | simp[BT.meW] at e)
 | c _ _=>(first | (cases e;done) | simp[BT.meW] at e)
 | x _=>(first | (cases e;done) | simp[BT.meW] at e)
 | o kvs=>(first | (cases e;done) | simp[BT.meW] at e)
 | p d =>
  rw[BT.jY] at e
  cases g:BT.aJ ws with
  | none=>rw[g] at e;cases e
  | some ds =>
   rw[g] at e
   obtain ⟨b,e1,e2⟩:=az e
   cases e2
   have rds:=rws.pure g
   cases d<;>first | exact ai e1 | skip
   cases ds with
   | nil=>exact ai e1
   | cons d0 dr =>
    cases dr with
    | cons _ _=>cases d0<;>exact ai e1
    | nil =>
     cases d0<;>first | exact ai e1 | skip
     rename_i x y
     rw[BT.v8] at e1
     cases ho:On x y 0 x.length 1 with
     | nil=>rw[ho] at e1;cases e1
     | cons j rest =>
      rw[ho] at e1
      cases e1
      cases rds with
      | cons r0 rn =>
       cases rn
       cases r0
       obtain ⟨u,rfl,t0,rfl⟩:=rus.one
       cases rx with
       | p rx =>
        cases rx
        obtain ⟨t,rfl⟩:=rv
        exact call_gives F.slot_str_index (typeIs_str s x t) F.entry_str_index (F.args_str_index_2 _ _) (gives_str_index x y t t0 j rest ho) ⟨.int j,H,I.tok _,⟨_,rfl⟩,post.here R (.int _)⟩
end
end BS
end
section
namespace BS
open PySem PySem.Spec PyProof.Rows L2
section
variable {X:Cx}
noncomputable def rBi (P:MP) (w:M7) (K:MI) (b:BT.Bi) (mu:Bool):List V->Hp->VK->Prop:=fun vs H Q =>
 ∃ m h ws z h',RH K m H h/\RWs P w K m H vs ws/\BT.kBi b mu ws h=some (z,h')/\Post P w K m H z h' Q
inductive RRs (K:MI) (m:List MN) (H:Hp):List V->List BT.D->Prop where
 | nil:RRs K m H [] []
 | cons {v:V}{d:BT.D}{vs:List V}{ds:List BT.D} (r:RR K m H v d) (t:RRs K m H vs ds):RRs K m H (v :: vs) (d :: ds)
theorem f9 {P:MP}{w:M7}{K:MI}{m:List MN}{H:Hp}{h:BT.HH} (R:RH K m H h):∀ {vs:List V}{ws:List BT.W}{ds:List BT.D},RWs P w K m H vs ws->BT.rds ws h=some ds->RRs K m H vs ds
 | _,_,_,.nil,e=>by cases e;exact .nil
 | _,_,_,.cons r t,e=>by
  simp only[BT.rds] at e
  obtain ⟨d,e1,e2⟩:=Option.bind_eq_some_iff.mp e
  obtain ⟨q,e3,e4⟩:=az e2
  subst e4
  exact .cons (aF R r e1) (f9 R t e3)
theorem gX {b:BT.Bi}{mu:Bool}{ws:List BT.W}{h:BT.HH}{z:BT.W}{h':BT.HH} (e:BT.kBi b mu ws h=some (z,h')) :
 ∃ ds d,BT.rds ws h=some ds/\BT.biD b ds=some d/\((mu=false/\z=.p d/\h'=h)\/∃ xs,mu=true/\d=.lst xs/\z=.r h.length/\h'=h++[.l xs]):=by
 unfold BT.kBi at e
 cases e1:BT.rds ws h with
 | none=>rw[e1] at e;cases e
 | some ds =>
  rw[e1] at e
  simp only at e
  cases e2:BT.biD b ds with
  | none=>rw[e2] at e;cases e
  | some d =>
   rw[e2] at e
   simp only at e
   cases mu with
   | false=>cases e;exact ⟨ds,d,rfl,e2,.inl ⟨rfl,rfl,rfl⟩⟩
   | true =>
    simp only[if_true] at e
    cases d<;>simp only at e<;>try contradiction
    cases e
    exact ⟨ds,_,rfl,e2,.inr ⟨_,rfl,rfl,rfl,rfl⟩⟩
theorem RRs.one {K:MI}{m:List MN}{H:Hp}{vs:List V}{d:BT.D} (r:RRs K m H vs [d]):∃ v,vs=[v]/\RR K m H v d:=by
 cases r with
 | cons r t=>cases t;exact ⟨_,rfl,r⟩
theorem DZ:cA X (.builtin "len") (rBi X.prog X.w X.K .len false):=by
 intro pins s σ H vs us Q I rus h
 obtain ⟨m,h,ws,z,h',R,rws,e,post⟩:=h
 obtain ⟨ds,d,e1,e2,⟨_,rfl,rfl⟩ | ⟨_,q,_⟩⟩:=gX e
 ·have rr:=f9 R rws e1
  match ds,e2 with
  | [.tup xs],e2 =>
   cases e2
   obtain ⟨v,rfl,r⟩:=rr.one
   obtain ⟨a,vt,rfl,ha,ra⟩:=r.tup
   exact iB pins s σ H _ us Q I rus ⟨a,vt,rfl,.inr ha,by rw[ra.length];exact post.here R (.int _)⟩
  | [.lst xs],e2 =>
   cases e2
   obtain ⟨v,rfl,r⟩:=rr.one
   obtain ⟨a,vt,rfl,ha,ra⟩:=r.lst
   exact iB pins s σ H _ us Q I rus ⟨a,vt,rfl,.inl ha.sq,by rw[ra.length];exact post.here R (.int _)⟩
  | [.str x],e2 =>
   rw[BT.uA] at e2
   split at e2
   ·rename_i c
    cases e2
    obtain ⟨v,rfl,r⟩:=rr.one
    obtain ⟨rfl,_⟩:=r.str
    have:=cV
    exact mU pins s σ H _ us Q I rus ⟨x,rfl,by omega,post.here R (.int _)⟩
   ·cases e2
 ·cases q
theorem D0:cA X (.builtin "abs") (rBi X.prog X.w X.K .abs false):=by
 intro pins s σ H vs us Q I rus h
 obtain ⟨m,h,ws,z,h',R,rws,e,post⟩:=h
 obtain ⟨ds,d,e1,e2,⟨_,rfl,rfl⟩ | ⟨_,q,_⟩⟩:=gX e
 ·have rr:=f9 R rws e1
  match ds,e2 with
  | [.int i],e2 =>
   cases e2
   obtain ⟨v,rfl,r⟩:=rr.one
   cases r.int
   exact vG pins s σ H _ us Q I rus ⟨i,rfl,post.here R (.int _)⟩
 ·cases q
theorem D3:cA X (.type "int") (rBi X.prog X.w X.K .int false):=by
 intro pins s σ H vs us Q I rus h
 obtain ⟨m,h,ws,z,h',R,rws,e,post⟩:=h
 obtain ⟨ds,d,e1,e2,⟨_,rfl,rfl⟩ | ⟨_,q,_⟩⟩:=gX e
 ·have rr:=f9 R rws e1
  match ds,e2 with
  | [.int i],e2 =>
   cases e2
   obtain ⟨v,rfl,r⟩:=rr.one
   cases r.int
   exact lM pins s σ H _ us Q I rus (.inl ⟨i,rfl,post.here R (.int _)⟩)
  | [.bl i],e2 =>
   cases e2
   obtain ⟨v,rfl,r⟩:=rr.one
   cases r.bl
   exact lM pins s σ H _ us Q I rus (.inr ⟨i,rfl,post.here R (.int _)⟩)
 ·cases q
theorem rQ {mu:Bool}:cA X (.type "list") (rBi X.prog X.w X.K .list mu):=by
 intro pins s σ H vs us Q I rus h
 obtain ⟨m,h,ws,z,h',R,rws,e,post⟩:=h
 obtain ⟨ds,d,e1,e2,hz⟩:=gX e
 have rr:=f9 R rws e1
 have fin:∀ {p:MN}{vt:List V}{xs:List BT.D},d=.lst xs->H p=none->RDs X.K m H vt xs->Q (.ref p) (upd H p (.lst vt)):=by
  intro p vt xs ed hp r
  rcases hz with ⟨_,rfl,rfl⟩ | ⟨ys,_,e3,rfl,rfl⟩
  ·subst ed;exact iM R hp r post
  ·rw[ed] at e3;cases e3;exact rO R hp r post
 match ds,e2 with
 | [.tup xs],e2 =>
  cases e2
  obtain ⟨v,rfl,r⟩:=rr.one
  obtain ⟨a,vt,rfl,ha,ra⟩:=r.tup
  exact iC pins s σ H _ us Q I rus ⟨a,vt,rfl,.inr ha,fun p hp=>fin rfl hp ra⟩
 | [.lst xs],e2 =>
  cases e2
  obtain ⟨v,rfl,r⟩:=rr.one
  obtain ⟨a,vt,rfl,ha,ra⟩:=r.lst
  exact iC pins s σ H _ us Q I rus ⟨a,vt,rfl,.inl ha.sq,fun p hp=>fin rfl hp ra⟩
theorem iP {K:MI}{m:List MN}{H:Hp}:∀ {ns:List Int}{vs:List V},RDs K m H vs (ns.map BT.D.int)->vs=ns.map V.int
 | [],vs,r=>by cases r;rfl
 | n :: ns,vs,r=>by
  cases r with
  | cons r t=>cases r;rw[iP t];rfl
theorem wX:cA X (.type "tuple") (rBi X.prog X.w X.K .tuple false):=by
 intro pins s σ H vs us Q I rus h
 obtain ⟨m,h,ws,z,h',R,rws,e,post⟩:=h
 obtain ⟨ds,d,e1,e2,⟨_,rfl,rfl⟩ | ⟨_,q,_⟩⟩:=gX e
 ·have rr:=f9 R rws e1
  match ds,e2 with
  | [.tup xs],e2 =>
   cases e2
   obtain ⟨v,rfl,r⟩:=rr.one
   obtain ⟨a,vt,rfl,ha,ra⟩:=r.tup
   refine gG pins s σ H _ us Q I rus ⟨a,vt,rfl,.inr ⟨ha,?_⟩⟩
   cases r with
   | d r=>exact post.here R r
  | [.lst xs],e2 =>
   cases e2
   obtain ⟨v,rfl,r⟩:=rr.one
   obtain ⟨a,vt,rfl,ha,ra⟩:=r.lst
   exact gG pins s σ H _ us Q I rus ⟨a,vt,rfl,.inl ⟨ha.sq,fun p hp=>iL R hp ra post⟩⟩
 ·cases q
noncomputable def tyD:BT.D->String
 | .non=>"NoneType"
 | .bl _=>"bool"
 | .int _=>"int"
 | .str _=>"str"
 | .tup _=>"tuple"
 | .lst _=>"list"
theorem Ax {pins:List (MN×Obj)}{σ:L2.St}{s:MK}{H:Hp}{m:List MN}{v:V}{u:Value}{d:BT.D}{c:String}{b:Bool}{Q:Value->MK->Prop}{A:Nn}{E:Value->MK->Prop}
 (I:Inv X pins σ H s) (r:RR X.K m H v d) (rv:RelV v u) (e:NQ X.K (.type (tyD d)) (.type c)=some b) (h:∀ tk,Q (.bool b) { s with toks:=tk }) :
 wpAny (M3 X.prog X.w) A (call (.builtin "isinstance") [u,.type c]) Q E s:=by
 cases d with
 | non=>cases r.non;cases rv;exact Og PySem.W.kitx_none I.kIn Pz e (fun z=>nomatch z) h
 | bl y=>cases r.bl;cases rv;exact Og PySem.W.kitx_bool I.kIn Pz e (fun z=>nomatch z) h
 | int i=>cases r.int;obtain ⟨t,rfl⟩:=rv;exact Og PySem.W.kitx_int I.kIn Pz e (fun z=>nomatch z) h
 | str y=>obtain ⟨rfl,_⟩:=r.str;obtain ⟨t,rfl⟩:=rv;exact Og PySem.W.kitx_str I.kIn Pz e (fun z=>nomatch z) h
 | tup xs =>
  obtain ⟨a,vt,rfl,ha,_⟩:=r.tup
  cases rv
  obtain ⟨its,_,⟨o,h1,h2,_⟩,_⟩:=I.tuple ha
  exact Og PySem.W.kitx_tuple I.kIn ⟨o,h1,h2⟩ e (fun z=>nomatch z) h
 | lst xs =>
  obtain ⟨a,vt,rfl,ha,_⟩:=r.lst
  cases rv
  obtain ⟨_,its,n,_,_,h1⟩:=rdL I ha
  exact Og PySem.W.kitx_list I.kIn ⟨_,h1,rfl⟩ e (fun z=>nomatch z) h
theorem wY (K:MI) (t:String):NQ K (.type t) (.type t)=some true:=by
 unfold NQ
 rw[if_pos (by simp)]
theorem wZ {b:BT.Bi}{c:String}{f:BT.D->Bool} (h:oU b=some (c,f)) (d:BT.D):BT.biD b [d]=some (.bl (f d)):=by
 cases b<;>simp only[oU] at h<;>try contradiction
 all_goals (cases h;rfl)
theorem w5 {b:BT.Bi}{c:String}{f:BT.D->Bool} (h:oU b=some (c,f)) (K:MI) (d:BT.D):NQ K (.type (tyD d)) (.type c)=some (f d):=by
 cases b<;>simp only[oU] at h<;>try contradiction
 all_goals (cases h;cases d)
 all_goals first
  | exact wY K _
  | (simp only[tyD];unfold NQ;rw[if_neg (by decide)];unfold PySem.W.kitCls;first | rfl | kernel_rfl | decide +kernel)
end
end BS
end
section
namespace BS
open PySem PySem.Spec PyProof.Rows L2
noncomputable abbrev FT:=BT.FK->List BT.W->BT.HH->Option (BT.W×BT.HH)
noncomputable def spF (P:MP) (w:M7) (K:MI) (g:List BT.W->BT.HH->Option (BT.W×BT.HH)):Sp:=fun vs H Q _ =>
 ∃ m ws h z h',RH K m H h/\RWs P w K m H vs ws/\g ws h=some (z,h')/\Post P w K m H z h' Q
noncomputable def tD (X:Cx) (F:FT) (G:Str->Option BT.W) (e:BT.E):TE:=fun σ H Q =>
 ∃ m s h z h',RH X.K m H h/\RS X.prog X.w X.K m H σ s/\BT.ev F G e s h=some (z,h')/\Post X.prog X.w X.K m H z h' Q
noncomputable def tDs (X:Cx) (F:FT) (G:Str->Option BT.W) (es:BT.Es):TA:=fun σ H Q =>
 ∃ m s h zs h',RH X.K m H h/\RS X.prog X.w X.K m H σ s/\BT.evs F G es s h=some (zs,h')/\∀ vs H' m',Ext m H m' H'->RH X.K m' H' h'->RWs X.prog X.w X.K m' H' vs zs->Q vs H'
noncomputable def tDT (X:Cx) (F:FT) (G:Str->Option BT.W) (e:BT.E):TT:=fun σ H Q =>
 ∃ m s h b h',RH X.K m H h/\RS X.prog X.w X.K m H σ s/\BT.ev F G e s h=some (.p (.bl b),h')/\∀ H' m',Ext m H m' H'->RH X.K m' H' h'->Q b H'
noncomputable def o4 (P:MP) (w:M7) (K:MI) (mg:Str->Option Value) (base:Heap) (k L:Nat) (g:List BT.W->BT.HH->Option (BT.W×BT.HH)):Prop :=
 ∀ (A:Nn) (outer:List Env) (s:MK) (H:Hp) (f:MN) (us:List Value) (vs cvs:List V) (m:List MN) (ws:List BT.W) (cs:List BT.Cp) (h:BT.HH) (z:BT.W) (h':BT.HH) (Q:VK) (E:XK),bE k A->ju P w K mg base A outer s H->ao vs us →
  RH K m H h->RWs P w K m H vs ws->BT.noC ws=true->jo m H f L cvs->RCs K m H cvs cs->g (ws++cs.map BT.Cp.w) h=some (z,h')->Post P w K m H z h' Q->codeAny (M3 P w) A (.call (.ref f) ⟨us,[]⟩) (CR CX0 outer P w H s Q E) s
structure LX (X:Cx) (x:Str):Prop where
 mem:x∈BT.ef
 ex:∃ c P,NV X.K x=some (c,P)/\X.env.code=.ref c/\PySem.W.CodeHd X.base c P/\∀ y∈BT.ef,∀ c2,NV X.K y=some (c2,P)->y=x
 ql:X.env.qual=x++".<locals>."
 bm:∃ bm ob,X.mg "__builtins__"=some (.ref bm)/\bm≠OB/\X.base.get? bm=some ob/\ob.cls=.type "module"/\ob.dict=some OB/\ob.data=.plain
noncomputable def Ay:List Str:=["len","abs","int","list","tuple","isinstance","str","bool","range","reversed","enumerate","zip","min","max","sorted","sum","all","any","set","ValueError"]
structure Ok (X:Cx) (F:FT) (G:Str->Option BT.W) (sc:M0) (N:List Str):Prop where
 hsc:X.env.scope=sc
 hN:X.N=N
 nd:X.N.Nodup
 calm:dI N=true->X.calm=true
 hu:X.A.units+150 < Rp
 own:Q8 (M3 X.prog X.w) X.A X.env X.xe
 glob:∀ x z,G x=some z->∃ u v,X.mg x=some u/\RelV v u/\∀ m H,RW X.prog X.w X.K m H v z
 call:∀ (f:Str) ws h r,F (.f f) ws h=some r->∃ (fa:MN) (fd:Ny) (ps:List Str) (k:Nat),X.mg f=some (.ref fa)/\Nb X.K (.ref fa)=true/\Binds X.K fd ps []/\bE k X.A ∧
  cO X.prog X.w X.K X.mg X.base CX0 k fa fd ps (spF X.prog X.w X.K (F (.f f)))
 meth:∀ (c m:Str) ws h r,F (.m c m) ws h=some r->∃ (C g:MN) (fd:Ny) (ps:List Str) (k:Nat),iJ X.K c C/\oE X.K C m g/\Binds X.K fd ps []/\bE k X.A ∧
  cO X.prog X.w X.K X.mg X.base CX0 k g fd ps (spF X.prog X.w X.K (F (.m c m)))
 mkc:∀ (c:Str) ws h r,F (.m c "__init__") ws h=some r->∃ (C g:MN) (fd:Ny) (ps:List Str) (k:Nat),iJ X.K c C/\X.mg c=some (.ref C)/\Mk X.K C g/\Binds X.K fd ps []/\bE (k+1) X.A ∧
  cO X.prog X.w X.K X.mg X.base CX0 k g fd ps (spF X.prog X.w X.K (F (.m c "__init__")))
 blt:∀ x∈Ay,X.mg x=none
 lam:∀ (L:Nat) ws h r,F (.l L) ws h=some r->∃ k,bE k X.A/\o4 X.prog X.w X.K X.mg X.base k L (F (.l L))
 lamx:(∀ x,X.fn x=true)->∀ x,N.contains (BT.bZ x)=true->LX X x
theorem PE.weak {X:Cx}{e:MJ}{t t':TE} (h:PE X e t) (q:∀ σ H Q,t' σ H Q->t σ H Q):PE X e t':=fun pins s σ H Q I hw=>h pins s σ H Q I (q _ _ _ hw)
theorem PT.weak {X:Cx}{e:MJ}{t t':TT} (h:PT X e t) (q:∀ σ H Q,t' σ H Q->t σ H Q):PT X e t':=fun pins s σ H Q I hw=>h pins s σ H Q I (q _ _ _ hw)
theorem PW.weak {X:Cx}{e:MJ}{t t':TT} (h:PW X e t) (q:∀ σ H Q,t' σ H Q->t σ H Q):PW X e t':=fun wh pins s σ H Q I hw=>h wh pins s σ H Q I (q _ _ _ hw)
theorem PA.weak {X:Cx}{es:List MJ}{t t':TA} (h:PA X es t) (q:∀ σ H Q,t' σ H Q->t σ H Q):PA X es t':=fun pos pins s σ H Q I hw=>h pos pins s σ H Q I (q _ _ _ hw)
theorem ak {e:MJ}{es:List MJ}{env:Env} (h:noStar e=true):Nd (e :: es) env=(false,eval e env) :: Nd es env:=by
 cases e<;>first | rfl | cases h
theorem w6 {b:MJ} (h:jG b=true):rF b:=fun o i=>by
 cases b<;>first | rfl | cases h
theorem jH {o:MJ}{name:Str}{env:Env} (h:aO o=true):Py o name env (eval o env)=eval o env:=by
 cases o with
 | Call fn as ks p =>
  cases fn with
  | Attribute _ _ _=>rfl
  | _=>cases h
 | _=>first | rfl | cases h
noncomputable def av:List MJ->Bool
 | []=>true
 | e :: es=>noStar e&&av es
theorem aR {pos:Pos}{env:Env}:∀ {es:List MJ},av es=true->(OC pos (Nd es env)).any (·.1)=false
 | [],_=>rfl
 | e :: es,h=>by
  simp only[av,ML] at h
  rw[ak h.1]
  show (false||(OC pos (Nd es env)).any (·.1))=false
  rw[aR h.2];rfl
theorem iQ {pos:Pos}{env:Env}:∀ {es:List MJ},av es=true->(OC pos (Nd es env)).all (fun x=>!x.1)=true
 | [],_=>rfl
 | e :: es,h=>by
  simp only[av,ML] at h
  rw[ak h.1]
  show (!false&&(OC pos (Nd es env)).all (fun x=>!x.1))=true
  rw[iQ h.2];rfl
theorem cW:∀ {sc:M0}{N:List Str}{as:BT.Es}{es:List MJ},CEs sc N as es->av es=true
 | _,_,_,_,.nil=>rfl
 | _,_,_,_,.cons hs _ hr=>by
  simp only[av,ML]
  exact ⟨hs,cW hr⟩
section
variable {X:Cx}{F:FT}{G:Str->Option BT.W}{sc:M0}{N:List Str}
theorem nA {f:BT.OpW}{e a b:BT.E} (he:∀ s h,BT.ev F G e s h=BT.bnd (BT.ev F G a s h) (BT.k2 (BT.ev F G b s) f)) (σ:L2.St) (H:Hp) (Q:VK) (q:tD X F G e σ H Q) :
 tOp (rOp X.prog X.w X.K f) (tD X F G a) (tD X F G b) σ H Q:=by
 obtain ⟨m,s,h,z,h',R,S,ee,post⟩:=q
 rw[he] at ee
 obtain ⟨x,h1,e1,e2⟩:=aj ee
 simp only[BT.k2] at e2
 obtain ⟨y,h2,e3,e4⟩:=aj e2
 refine ⟨m,s,h,x,h1,R,S,e1,fun v H1 m1 x1 R1 r1=>?_⟩
 refine ⟨m1,s,h1,y,h2,R1,S.ext x1,e3,fun u H2 m2 x2 R2 r2=>?_⟩
 exact ⟨m2,h2,x,y,z,h',R2,r1.ext x2,r2,e4,fun w' H3 m3 x3 R3 r3=>post w' H3 m3 ((x1.trans x2).trans x3) R3 r3⟩
theorem o5 {e:BT.E}{t:TE} (h:∀ σ H Q,tD X F G e σ H Q->t σ H Q) (σ:L2.St) (H:Hp) (Q:Bool->Hp->Prop) (q:tDT X F G e σ H Q):vD t σ H Q:=by
 obtain ⟨m,s,h0,b,h',R,S,ee,post⟩:=q
 refine h σ H _ ⟨m,s,h0,_,h',R,S,ee,fun v H' m' x R' r=>?_⟩
 cases r with
 | p r=>cases r;exact ⟨b,rfl,post H' m' x R'⟩
theorem opB {o:BT.Bin}{op:OQ} (h:Cn o op=true):OpR X (NU op) (rOp X.prog X.w X.K (BT.kZ o)):=by
 cases o<;>cases op<;>cases h
 ·exact DQ
 ·exact DR
 ·exact DU
 ·exact DS
 ·exact Ar
 ·exact DT
theorem Cs {vs:List (Key×Value)}{k:Str}:∀ {es:List (Str×V)}{kvs:List (Str×BT.D)}{K:MI},RDk K es kvs->KV (es.map fun q=>((Sum.inr q.1:Key),q.2)) vs->(valueAt vs (Sum.inr k)).isSome=(BT.cP k kvs).isSome:=by
 intro es
 induction es generalizing vs with
 | nil =>
  intro kvs K r q
  cases r
  cases q
  rfl
 | cons p es ih =>
  intro kvs K r q
  cases r with
  | @cons x v dd _ kvs r t =>
   cases q with
   | @cons p z l1 l2 q1 q2 =>
    obtain ⟨z1,z2⟩:=z
    obtain ⟨q11,q12⟩:=q1
    simp only at q11 q12
    subst q11
    rw[BT.cP]
    by_cases c:k=x
    ·subst c
     simp[valueAt]
    ·rw[if_neg c]
     have ne:¬ ((Sum.inr x:Key)=Sum.inr k):=fun z=>c (Sum.inr.inj z).symm
     have:=ih t q2
     simp only[valueAt] at this ⊢
     rw[Q9 (by simpa using ne)]
     exact this
theorem opC (O:Ok X F G sc N) {o:BT.Cm}{op:CmpOp} (h:An o op=true):OpR X (Nt op) (rOp X.prog X.w X.K (BT.fO o)):=by
 cases o<;>cases op<;>cases h
 ·exact Hx O.hu
 ·exact Hy O.hu
 ·exact Hz
 ·exact HA
 ·exact HB
 ·exact HC
 ·exact DV
 ·exact As
 ·refine DW O.hu ?_
  intro kvs x b m H v u v' u' pins σ s Q I rv ru rx rk e q
  cases x with
  | r n=>exact ai e
  | k q=>exact ai e
  | c _ _=>exact ai e
  | x _=>exact ai e
  | o q=>exact ai e
  | p d =>
   cases d<;>first | exact ai e | skip
   obtain rfl:=MV e
   cases rk with
   | @k a es _ kd rk =>
    cases ru
    cases rx with
    | p rx =>
     cases rx with
     | str x ok =>
      obtain ⟨t,rfl⟩:=rv
      obtain ⟨hm,vs,kv,dd⟩:=kd
      have D:=dd s.heap I.kIn
      refine wpAny_in_of (knd:=cE X.prog X.w) (fQ _ _ _ t) hm D.mapOf ?_
      rw[Cs rk kv]
      exact ⟨.bl _,H,I.tok _,rfl,q⟩
 ·refine Au O.hu ?_
  intro kvs x b m H v u v' u' pins σ s Q I rv ru rx rk e q
  cases x with
  | r n=>exact ai e
  | k q=>exact ai e
  | c _ _=>exact ai e
  | x _=>exact ai e
  | o q=>exact ai e
  | p d =>
   cases d<;>first | exact ai e | skip
   obtain rfl:=MV e
   cases rk with
   | @k a es _ kd rk =>
    cases ru
    cases rx with
    | p rx =>
     cases rx with
     | str x ok =>
      obtain ⟨t,rfl⟩:=rv
      obtain ⟨hm,vs,kv,dd⟩:=kd
      have D:=dd s.heap I.kIn
      refine wpAny_notIn_of (knd:=cE X.prog X.w) (fQ _ _ _ t) hm D.mapOf ?_
      rw[Cs rk kv]
      exact ⟨.bl _,H,I.tok _,rfl,q⟩
end
end BS
end
section
namespace BS
open PySem PySem.Spec PyProof.Rows L2
section
variable {X:Cx}{F:FT}{G:Str->Option BT.W}{sc:M0}{N:List Str}
theorem Az (O:Ok X F G sc N) (x:Str):X.env.kindOf x=sc.names.lookup x:=by rw[← O.hsc];rfl
theorem cF {x:Str} (h:aH x=true):(x==("__debug__":Str))=false/\(x==("__classdict__":Str))=false/\x≠"__name__":=by
 simp only[aH,ML,Ol] at h
 exact ⟨h.1.1,h.1.2,fun e=>by rw[e] at h;simp at h⟩
theorem aY (O:Ok X F G sc N) {x:Str} (h:aT sc x=true):Gl X x:=by
 show X.env.kindOf x=_
 rw[Az O]
 exact eq_of_beq h
theorem D4 (O:Ok X F G sc N) {x:Str} (h:oV sc x=true):Vis X.env.scope x:=by
 rw[O.hsc]
 unfold oV at h
 unfold Vis
 cases e:sc.names.lookup x with
 | none=>rw[e] at h;cases h
 | some k=>rw[e] at h;cases k<;>first | (exact .inl rfl) | (exact .inr (.inl rfl)) | (exact .inr (.inr rfl)) | cases h
theorem nB (O:Ok X F G sc N) {i:Nat}{y:Str}{pos:Pos} (h2:N[i]?=some y) (h3:oV sc y=true) (h4:aH y=true):PE X (.Name y pos) (tD X F G (.var i y)):=by
 obtain ⟨d1,d2,_⟩:=cF h4
 refine PE.weak (vg (i:=i) (by rw[O.hN];exact h2) (D4 O h3) d1 d2) fun σ H Q q=>?_
 obtain ⟨m,s,h,z,h',R,S,ee,post⟩:=q
 simp only[BT.ev] at ee
 split at ee
 ·rename_i w e
  cases ee
  obtain ⟨v,hv,r⟩:=S.get i _ e
  exact ⟨v,hv,post v H m (.refl _ _) R r⟩
 ·cases ee
theorem AA {d:BT.D}{c:Const}{k:Nat}{pos:Pos} (h:Co d c=true):PE X (.Constant c k pos) (tD X F G (.cst d)):=by
 have fin:∀ {v:V},(∀ m H,RD X.K m H v d)->∀ σ H Q,tD X F G (.cst d) σ H Q->tC v σ H Q:=fun r σ H Q q=>by
  obtain ⟨m,s,h,z,h',R,S,ee,post⟩:=q
  simp only[BT.ev] at ee
  cases ee
  exact post _ H m (.refl _ _) R (.p (r m H))
 cases d<;>cases c<;>first | (cases h;done) | skip
 ·exact PE.weak CQ (fin fun _ _=>.non)
 ·cases eq_of_beq h;exact PE.weak F0 (fin fun _ _=>.bl _)
 ·cases eq_of_beq h;exact PE.weak p8 (fin fun _ _=>.int _)
 ·have h:=Bool.and_eq_true_iff.mp h
  cases eq_of_beq h.1;exact PE.weak CU (fin fun _ _=>.str _ h.2)
theorem AB (O:Ok X F G sc N) {y:Str}{pos:Pos} (h2:aT sc y=true) (h3:aH y=true):PE X (.Name y pos) (tD X F G (.glo y)):=by
 obtain ⟨d1,d2,_⟩:=cF h3
 intro pins s σ H Q I q
 obtain ⟨m,s',h,z,h',R,S,ee,post⟩:=q
 simp only[BT.ev] at ee
 obtain ⟨w,e1,e2⟩:=az ee
 cases e2
 obtain ⟨u,v,hm,r,rw⟩:=O.glob _ _ e1
 exact mL (aY O h2) hm r d1 pins s σ H Q I (post v H m (.refl _ _) R (rw m H))
theorem Ct {e a:BT.E}{k:BT.W->BT.HH->Option (BT.W×BT.HH)} (he:∀ s h,BT.ev F G e s h=BT.bnd (BT.ev F G a s h) k) {σ:L2.St}{H:Hp}{Q:VK} (q:tD X F G e σ H Q) {R':V->Hp->Prop}
 (h1:∀ m h x z h' v H1,RH X.K m H1 h->RW X.prog X.w X.K m H1 v x->k x h=some (z,h')->Post X.prog X.w X.K m H1 z h' Q->R' v H1):tD X F G a σ H R':=by
 obtain ⟨m,s,h,z,h',R,S,ee,post⟩:=q
 rw[he] at ee
 obtain ⟨x,g,e1,e2⟩:=aj ee
 exact ⟨m,s,h,x,g,R,S,e1,fun v H1 m1 x1 R1 r1=>h1 m1 g x z h' v H1 R1 r1 e2 fun w' H3 m3 x3 R3 r3=>post w' H3 m3 (x1.trans x3) R3 r3⟩
theorem jI {e:BT.E}{as:BT.Es}{k:List BT.W->BT.HH->Option (BT.W×BT.HH)} (he:∀ s h,BT.ev F G e s h=BT.bnd (BT.evs F G as s h) k) {σ:L2.St}{H:Hp}{Q:VK} (q:tD X F G e σ H Q) {R':List V->Hp->Prop}
 (h1:∀ m h xs z h' vs H1,RH X.K m H1 h->RWs X.prog X.w X.K m H1 vs xs->k xs h=some (z,h')->Post X.prog X.w X.K m H1 z h' Q->R' vs H1):tDs X F G as σ H R':=by
 obtain ⟨m,s,h,z,h',R,S,ee,post⟩:=q
 rw[he] at ee
 obtain ⟨x,g,e1,e2⟩:=aj ee
 exact ⟨m,s,h,x,g,R,S,e1,fun v H1 m1 x1 R1 r1=>h1 m1 g x z h' v H1 R1 r1 e2 fun w' H3 m3 x3 R3 r3=>post w' H3 m3 (x1.trans x3) R3 r3⟩
theorem ty_list {m:List MN}{H:Hp}{h:BT.HH}{v:V}{n:Nat} (R:RH X.K m H h) (r:RW X.prog X.w X.K m H v (.r n)) (ok:BT.k8 (.r n) h=true):tyV X.K "list" v H:=by
 cases r with
 | @r a _ hn =>
  obtain ⟨xs,e⟩:=Option.isSome_iff_exists.mp ok
  obtain ⟨vs,e,_⟩:=R.cell n a xs hn e
  exact .inl ⟨rfl,vs,.inl (.inl e)⟩
theorem rR {m:BT.Me}{ea:BT.HH->Option (List BT.W×BT.HH)}{x:BT.W}{h:BT.HH}{r:BT.W×BT.HH} (e:BT.kMe m ea x h=some r):BT.k8 x h=true/\BT.bnd (ea h) (BT.meW m x)=some r:=by
 unfold BT.kMe at e
 split at e
 ·rename_i c;exact ⟨c,e⟩
 ·cases e
theorem Ll {m:BT.Me}{x:BT.W}{ws:List BT.W}{h:BT.HH}{z:BT.W}{h':BT.HH} (hm:m=.append\/m=.pop\/m=.extend) (e:BT.meW m x ws h=some (z,h')):∃ n,x=.r n:=by
 cases x with
 | r n=>exact ⟨n,rfl⟩
 | p d =>
  rcases hm with rfl | rfl | rfl<;>cases ws<;>rw[oZ] at e<;>(split at e<;>(try cases e))<;>exact ai e
 | k q =>
  rcases hm with rfl | rfl | rfl<;>cases ws<;>(first | (cases e;done) | simp[BT.meW] at e)
 | x _ =>
  rcases hm with rfl | rfl | rfl<;>cases ws<;>(first | (cases e;done) | simp[BT.meW] at e)
 | c _ _ =>
  rcases hm with rfl | rfl | rfl<;>cases ws<;>(first | (cases e;done) | simp[BT.meW] at e)
 | o q =>
  rcases hm with rfl | rfl | rfl<;>cases ws<;>(first | (cases e;done) | simp[BT.meW] at e)
end
end BS
end
section
namespace BS
open PySem PySem.Spec PyProof.Rows L2
section
variable {F:FT}{G:Str->Option BT.W}
theorem nC {X:Cx}{e a:BT.E}{k:BT.Sl->BT.W->BT.HH->Option (BT.W×BT.HH)} (he:∀ s h,BT.ev F G e s h=BT.bnd (BT.ev F G a s h) (k s)) {σ:L2.St}{H:Hp}{Q:VK} (q:tD X F G e σ H Q) {R':V->Hp->Prop}
 (h1:∀ m s h x z h' v H1,RH X.K m H1 h->RS X.prog X.w X.K m H1 σ s->RW X.prog X.w X.K m H1 v x->k s x h=some (z,h')->Post X.prog X.w X.K m H1 z h' Q->R' v H1):tD X F G a σ H R':=by
 obtain ⟨m,s,h,z,h',R,S,ee,post⟩:=q
 rw[he] at ee
 obtain ⟨x,g,e1,e2⟩:=aj ee
 exact ⟨m,s,h,x,g,R,S,e1,fun v H1 m1 x1 R1 r1=>h1 m1 s g x z h' v H1 R1 (S.ext x1) r1 e2 fun w' H3 m3 x3 R3 r3=>post w' H3 m3 (x1.trans x3) R3 r3⟩
theorem D5 {X:Cx}{e a:BT.E}{k:BT.Sl->Bool->BT.HH->Option (BT.W×BT.HH)}{kk:BT.Sl->BT.W->BT.HH->Option (BT.W×BT.HH)} (he:∀ s h,BT.ev F G e s h=BT.bnd (BT.ev F G a s h) (kk s))
 (hk:∀ s x h r,kk s x h=some r->∃ b,x=.p (.bl b)/\k s b h=some r) {σ:L2.St}{H:Hp}{Q:VK} (q:tD X F G e σ H Q) {R':Bool->Hp->Prop}
 (h1:∀ m s h b z h' H1,RH X.K m H1 h->RS X.prog X.w X.K m H1 σ s->k s b h=some (z,h')->Post X.prog X.w X.K m H1 z h' Q->R' b H1):tDT X F G a σ H R':=by
 obtain ⟨m,s,h,z,h',R,S,ee,post⟩:=q
 rw[he] at ee
 obtain ⟨x,g,e1,e2⟩:=aj ee
 obtain ⟨b,rfl,e3⟩:=hk _ _ _ _ e2
 exact ⟨m,s,h,b,g,R,S,e1,fun H1 m1 x1 R1=>h1 m1 s g b z h' H1 R1 (S.ext x1) e3 fun w' H3 m3 x3 R3 r3=>post w' H3 m3 (x1.trans x3) R3 r3⟩
theorem jb {P:MP}{w:M7}{K:MI}{m:List MN}{H:Hp}{v:V}{b:Bool} (r:RW P w K m H v (.p (.bl b))):v=.bl b:=by
 cases r with | p r=>cases r;rfl
theorem rS {eb:BT.EH}{x:BT.W}{h:BT.HH}{r:BT.W×BT.HH} (e:BT.Ai eb x h=some r):∃ b,x=.p (.bl b)/\(if b=true then eb h else some (.p (.bl false),h))=some r:=by
 cases x with
 | p d =>
  cases d<;>simp only[BT.Ai] at e<;>try contradiction
  exact ⟨_,rfl,e⟩
 | r n=>cases e
 | k q=>cases e
 | c _ _=>cases e
 | x _=>cases e
 | o q=>cases e
theorem w9 {eb:BT.EH}{x:BT.W}{h:BT.HH}{r:BT.W×BT.HH} (e:BT.kOr eb x h=some r):∃ b,x=.p (.bl b)/\(if b=true then some (.p (.bl true),h) else eb h)=some r:=by
 cases x with
 | p d =>
  cases d<;>simp only[BT.kOr] at e<;>try contradiction
  exact ⟨_,rfl,e⟩
 | r n=>cases e
 | k q=>cases e
 | c _ _=>cases e
 | x _=>cases e
 | o q=>cases e
theorem AC {ea eb:BT.EH}{x:BT.W}{h:BT.HH}{r:BT.W×BT.HH} (e:BT.Aj ea eb x h=some r):∃ b,x=.p (.bl b)/\(if b=true then ea h else eb h)=some r:=by
 cases x with
 | p d =>
  cases d<;>simp only[BT.Aj] at e<;>try contradiction
  exact ⟨_,rfl,e⟩
 | r n=>cases e
 | k q=>cases e
 | c _ _=>cases e
 | x _=>cases e
 | o q=>cases e
theorem rT {x:BT.W}{h:BT.HH}{r:BT.W×BT.HH} (e:BT.Ah x h=some r):∃ b,x=.p (.bl b)/\r=(.p (.bl (!b)),h):=by
 cases x with
 | p d =>
  cases d<;>simp only[BT.Ah] at e<;>try contradiction
  cases e;exact ⟨_,rfl,rfl⟩
 | r n=>cases e
 | k q=>cases e
 | c _ _=>cases e
 | x _=>cases e
 | o q=>cases e
theorem AD {x:BT.W}{h:BT.HH}{r:BT.W×BT.HH} (e:BT.Ag x h=some r):∃ i,x=.p (.int i)/\r=(.p (.int (-i)),h):=by
 cases x with
 | p d =>
  cases d<;>simp only[BT.Ag] at e<;>try contradiction
  cases e;exact ⟨_,rfl,rfl⟩
 | r n=>cases e
 | k q=>cases e
 | c _ _=>cases e
 | x _=>cases e
 | o q=>cases e
theorem rV {X:Cx}{a b:BT.E} (σ:L2.St) (H:Hp) (Q:VK) (q:tD X F G (.and a b) σ H Q):BZ (tD X F G a) (tD X F G b) σ H Q:=by
 refine nC (k:=fun s=>BT.Ai (BT.ev F G b s)) (fun s h=>by simp only[BT.ev]) q fun m s h x z h' v H1 R S r e post=>?_
 obtain ⟨c,rfl,e2⟩:=rS e
 refine ⟨c,jb r,?_⟩
 cases c with
 | true=>rw[if_pos rfl] at e2 ⊢;exact ⟨m,s,h,z,h',R,S,e2,post⟩
 | false=>rw[if_neg (by decide)] at e2 ⊢;cases e2;exact post.here R (.bl _)
theorem xg {X:Cx}{a b:BT.E} (σ:L2.St) (H:Hp) (Q:VK) (q:tD X F G (.or a b) σ H Q):F4 (tD X F G a) (tD X F G b) σ H Q:=by
 refine nC (k:=fun s=>BT.kOr (BT.ev F G b s)) (fun s h=>by simp only[BT.ev]) q fun m s h x z h' v H1 R S r e post=>?_
 obtain ⟨c,rfl,e2⟩:=w9 e
 refine ⟨c,jb r,?_⟩
 cases c with
 | true=>rw[if_pos rfl] at e2 ⊢;cases e2;exact post.here R (.bl _)
 | false=>rw[if_neg (by decide)] at e2 ⊢;exact ⟨m,s,h,z,h',R,S,e2,post⟩
theorem rW {X:Cx}{a b:BT.E} (σ:L2.St) (H:Hp) (Q:Bool->Hp->Prop) (q:tDT X F G (.and a b) σ H Q):F2 (tDT X F G a) (tDT X F G b) σ H Q:=by
 obtain ⟨m,s,h,c,h',R,S,ee,post⟩:=q
 simp only[BT.ev] at ee
 obtain ⟨x,g,e1,e2⟩:=aj ee
 obtain ⟨d,rfl,e3⟩:=rS e2
 refine ⟨m,s,h,d,g,R,S,e1,fun H1 m1 x1 R1=>?_⟩
 cases d with
 | true=>rw[if_pos rfl] at e3 ⊢;exact ⟨m1,s,g,c,h',R1,S.ext x1,e3,fun H2 m2 x2 R2=>post H2 m2 (x1.trans x2) R2⟩
 | false=>rw[if_neg (by decide)] at e3 ⊢;cases e3;exact post H1 m1 x1 R1
theorem xh {X:Cx}{a b:BT.E} (σ:L2.St) (H:Hp) (Q:Bool->Hp->Prop) (q:tDT X F G (.or a b) σ H Q):tOr (tDT X F G a) (tDT X F G b) σ H Q:=by
 obtain ⟨m,s,h,c,h',R,S,ee,post⟩:=q
 simp only[BT.ev] at ee
 obtain ⟨x,g,e1,e2⟩:=aj ee
 obtain ⟨d,rfl,e3⟩:=w9 e2
 refine ⟨m,s,h,d,g,R,S,e1,fun H1 m1 x1 R1=>?_⟩
 cases d with
 | true=>rw[if_pos rfl] at e3 ⊢;cases e3;exact post H1 m1 x1 R1
 | false=>rw[if_neg (by decide)] at e3 ⊢;exact ⟨m1,s,g,c,h',R1,S.ext x1,e3,fun H2 m2 x2 R2=>post H2 m2 (x1.trans x2) R2⟩
theorem AE {X:Cx}{a:BT.E} (σ:L2.St) (H:Hp) (Q:Bool->Hp->Prop) (q:tDT X F G (.not a) σ H Q):F3 (tDT X F G a) σ H Q:=by
 obtain ⟨m,s,h,c,h',R,S,ee,post⟩:=q
 simp only[BT.ev] at ee
 obtain ⟨x,g,e1,e2⟩:=aj ee
 obtain ⟨d,rfl,e3⟩:=rT e2
 cases e3
 exact ⟨m,s,h,d,h',R,S,e1,fun H1 m1 x1 R1=>post H1 m1 x1 R1⟩
theorem AF {X:Cx}{a:BT.E} (σ:L2.St) (H:Hp) (Q:VK) (q:tD X F G (.not a) σ H Q):B0 (tD X F G a) σ H Q:=by
 refine nC (k:=fun s=>BT.Ah) (fun s h=>by simp only[BT.ev]) q fun m s h x z h' v H1 R S r e post=>?_
 obtain ⟨c,rfl,e2⟩:=rT e
 cases e2
 exact ⟨c,jb r,post.here R (.bl _)⟩
theorem D6 {X:Cx}{c a b:BT.E} (σ:L2.St) (H:Hp) (Q:VK) (q:tD X F G (.ite c a b) σ H Q):tIf (tDT X F G c) (tD X F G a) (tD X F G b) σ H Q:=by
 refine D5 (k:=fun s t h=>if t=true then BT.ev F G a s h else BT.ev F G b s h) (kk:=fun s=>BT.Aj (BT.ev F G a s) (BT.ev F G b s)) (fun s h=>by simp only[BT.ev]) (fun s x h r e=>AC e) q fun m s h t z h' H1 R S e post=>?_
 cases t with
 | true=>rw[if_pos rfl] at e ⊢;exact ⟨m,s,h,z,h',R,S,e,post⟩
 | false=>rw[if_neg (by decide)] at e ⊢;exact ⟨m,s,h,z,h',R,S,e,post⟩
theorem D7 {X:Cx}{a:BT.E} (σ:L2.St) (H:Hp) (Q:VK) (q:tD X F G (.neg a) σ H Q):tUn (rU fun i=>.int (-i)) (tD X F G a) σ H Q:=by
 refine nC (k:=fun s=>BT.Ag) (fun s h=>by simp only[BT.ev]) q fun m s h x z h' v H1 R S r e post=>?_
 obtain ⟨c,rfl,e2⟩:=AD e
 cases e2
 cases r with | p r=>cases r;exact ⟨c,rfl,post.here R (.int _)⟩
theorem o6 {X:Cx}{o o':BT.Cm}{a b c:BT.E} (σ:L2.St) (H:Hp) (Q:VK) (q:tD X F G (.chain o o' a b c) σ H Q) :
 qc (rOp X.prog X.w X.K (BT.fO o)) (rOp X.prog X.w X.K (BT.fO o')) (tD X F G a) (tD X F G b) (tD X F G c) σ H Q:=by
 obtain ⟨m,s,h,z,h',R,S,ee,post⟩:=q
 simp only[BT.ev] at ee
 obtain ⟨x,h1,e1,e2⟩:=aj ee
 simp only[BT.k2] at e2
 obtain ⟨y,h2,e3,e4⟩:=aj e2
 refine ⟨m,s,h,x,h1,R,S,e1,fun v H1 m1 x1 R1 r1=>?_⟩
 refine ⟨m1,s,h1,y,h2,R1,S.ext x1,e3,fun u H2 m2 x2 R2 r2=>?_⟩
 unfold BT.oCh at e4
 cases g1:BT.rd x h2 with
 | none=>rw[g1] at e4;cases e4
 | some d =>
  cases y with
  | r _=>rw[g1] at e4;cases e4
  | k _=>rw[g1] at e4;cases e4
  | c _ _=>rw[g1] at e4;cases e4
  | x _=>rw[g1] at e4;cases e4
  | o _=>rw[g1] at e4;cases e4
  | p d' =>
   rw[g1] at e4
   simp only at e4
   have ho:∀ (o:BT.Cm) (x':BT.W) (hh:BT.HH) dd,BT.rd x' hh=some dd->∀ y' dd',BT.rd y' hh=some dd'->BT.fO o x' y' hh=(BT.dP o dd dd').map fun z=>(.p (.bl z),hh):=by
    intro o x' hh dd q1 y' dd' q2
    unfold BT.fO
    cases y' with
    | p _=>simp only[q1,q2]
    | r _=>simp only[q1,q2]
    | k _=>cases q2
    | c _ _=>cases q2
    | x _=>cases q2
    | o _=>cases q2
   cases g3:BT.dP o d d' with
   | none=>rw[g3] at e4;cases e4
   | some t =>
    rw[g3] at e4
    refine ⟨m2,h2,x,.p d',.p (.bl t),h2,R2,r1.ext x2,r2,by rw[ho o x h2 d g1 (.p d') d' rfl,g3];rfl,fun v3 H3 m3 x3 R3 r3=>⟨t,jb r3,?_⟩⟩
    cases t with
    | false =>
     rw[if_neg (by decide)]
     cases e4
     exact post _ H3 m3 ((x1.trans x2).trans x3) R3 (.p (.bl _))
    | true =>
     rw[if_pos rfl]
     obtain ⟨w3,h3,e5,e6⟩:=aj e4
     refine ⟨m3,s,h2,w3,h3,R3,((S.ext x1).ext x2).ext x3,e5,fun v4 H4 m4 x4 R4 r4=>?_⟩
     unfold BT.GP at e6
     cases g4:BT.rd w3 h3 with
     | none=>rw[g4] at e6;cases e6
     | some f =>
      rw[g4] at e6
      simp only at e6
      refine ⟨m4,h3,.p d',w3,z,h',R4,(r2.ext x3).ext x4,r4,by rw[ho o' (.p d') h3 d' rfl w3 f g4];exact e6,fun v5 H5 m5 x5 R5 r5=>post v5 H5 m5 ((((x1.trans x2).trans x3).trans x4).trans x5) R5 r5⟩
theorem D8 {X:Cx}{a:BT.E}{lo hi:BT.Es}{tl th:TO} (hl:∀ σ H (Q:Option Int->Hp->Prop),(∃ m s h l zs h',RH X.K m H h/\RS X.prog X.w X.K m H σ s/\BT.evs F G lo s h=some (zs,h')/\(BT.aJ zs).bind BT.mW=some l/\∀ H' m',Ext m H m' H'->RH X.K m' H' h'->Q l H')->tl σ H Q)
 (hh:∀ σ H (Q:Option Int->Hp->Prop),(∃ m s h l zs h',RH X.K m H h/\RS X.prog X.w X.K m H σ s/\BT.evs F G hi s h=some (zs,h')/\(BT.aJ zs).bind BT.mW=some l/\∀ H' m',Ext m H m' H'->RH X.K m' H' h'->Q l H')->th σ H Q)
 (σ:L2.St) (H:Hp) (Q:VK) (q:tD X F G (.slc a lo hi) σ H Q):tSl (rSl X.prog X.w X.K) (tD X F G a) tl th σ H Q:=by
 obtain ⟨m,s,h,z,h',R,S,ee,post⟩:=q
 simp only[BT.ev] at ee
 obtain ⟨x,h1,e1,e2⟩:=aj ee
 simp only[BT.GS] at e2
 obtain ⟨ls,h2,e3,e4⟩:=aj e2
 simp only[BT.GR] at e4
 obtain ⟨us,h3,e5,e6⟩:=aj e4
 unfold BT.GQ at e6
 cases g1:BT.rd x h3 with
 | none=>rw[g1] at e6;cases e6
 | some d =>
  cases g2:(BT.aJ ls).bind BT.mW with
  | none=>rw[g1,g2] at e6;cases e6
  | some l =>
   cases g3:(BT.aJ us).bind BT.mW with
   | none=>rw[g1,g2,g3] at e6;cases e6
   | some u =>
    rw[g1,g2,g3] at e6
    simp only at e6
    obtain ⟨b,e7,e8⟩:=az e6
    cases e8
    refine ⟨m,s,h,x,h1,R,S,e1,fun v H1 m1 x1 R1 r1=>hl σ H1 _ ⟨m1,s,h1,l,ls,h2,R1,S.ext x1,e3,g2,fun H2 m2 x2 R2=>hh σ H2 _ ⟨m2,s,h2,u,us,h',R2,(S.ext x1).ext x2,e5,g3,fun H3 m3 x3 R3=>?_⟩⟩⟩
    exact ⟨m3,h',x,d,b,R3,(r1.ext x2).ext x3,g1,e7,fun v5 H5 m5 x5 R5 r5=>post v5 H5 m5 (((x1.trans x2).trans x3).trans x5) R5 r5⟩
end
end BS
end
section
namespace BS
open PySem PySem.Spec PyProof.Rows L2
section
variable {F:FT}{G:Str->Option BT.W}
theorem rX {X:Cx}{f:Str}{as:BT.Es}{sp:Sp} (hs:sp=spF X.prog X.w X.K (F (.f f))) {σ:L2.St}{H:Hp}{Q:VK} (q:tD X F G (.call f as) σ H Q):rA sp [] E0 (tDs X F G as) σ H Q:=by
 subst hs
 refine jI (k:=fun ws h=>F (.f f) ws h) (fun s h=>by simp only[BT.ev]) q fun m h xs z h' vs H1 R r e post=>?_
 rw[NT]
 exact ⟨m,xs,h,z,h',R,r,e,post⟩
theorem eN {X:Cx}{σ:L2.St}{H:Hp}{Q:List V->Hp->Prop} (q:tDs X F G .nil σ H Q):vK σ H Q:=by
 obtain ⟨m,s,h,zs,h',R,S,ee,post⟩:=q
 simp only[BT.evs] at ee
 cases ee
 exact post [] H m (.refl _ _) R .nil
theorem xj {X:Cx}{sc:M0}{N:List Str} (O:Ok X F G sc N) {f:Str}{as:BT.Es}{es:List MJ}{p pos:Pos} (hg:aT sc f=true) (hn:aH f=true) (hc:CEs sc N as es) (ha:PA X es (tDs X F G as)) :
 PE X (.Call (.Name f p) es [] pos) (tD X F G (.call f as)):=by
 have hst:=cW hc
 intro pins s σ H Q I q
 have q0:=q
 obtain ⟨m,s',h,z,h',R,S,ee,post⟩:=q
 simp only[BT.ev] at ee
 obtain ⟨ws,h1,e1,e2⟩:=aj ee
 obtain ⟨fa,fd,ps,k,hm,hk,hb,hr,ok⟩:=O.call _ _ _ _ e2
 cases es with
 | nil =>
  cases as with
  | cons a r=>cases hc
  | nil=>exact (PE.weak (vM ok hr (aY O hg) hm hk hb .nil lU (cF hn).1) (fun σ H Q z=>eN (rX (X:=X) rfl z))) pins s σ H Q I q0
 | cons e es =>
  simp only[av,ML] at hst
  exact (PE.weak (zP ok hr (aY O hg) hm hk hb .nil lU ha (cF hn).1 (ak hst.1) (aR hst.2)) (fun σ H Q z=>rX rfl z)) pins s σ H Q I q0
theorem jc {X:Cx}{sc:M0}{N:List Str}{me:BT.Me}{o:BT.E}{as:BT.Es}{oe:MJ}{es:List MJ}{name:Str}{apos cpos:Pos}{T id:String} (pa:PlainAttrs T) (slot:Slot T name id)
 (hty:typeOf (.builtin id)=pure (.type "method_descriptor")) (hm:MtR X id (rMe X.prog X.w X.K me)) (hb:aO oe=true) (hl:(apos.endLine==cpos.line)=true) (hlen:es.length < 20) (ho:PE X oe (tD X F G o)) (hc:CEs sc N as es) (ha:PA X es (tDs X F G as))
 (ty:∀ (m:List MN) (h h2:BT.HH) (H:Hp) (v:V) (x:BT.W) ws r,RH X.K m H h->RW X.prog X.w X.K m H v x->BT.k8 x h=true->BT.meW me x ws h2=some r->(∃ σ s,RS X.prog X.w X.K m H σ s/\∃ h0,BT.ev F G o s h0=some (x,h))->tyV X.K T v H) :
 PE X (.Call (.Attribute oe name apos) es [] cpos) (tD X F G (.me me o as)):=by
 have hst:=cW hc
 have key:∀ σ H Q,tD X F G (.me me o as) σ H Q->tBM X.K T (rMe X.prog X.w X.K me) (tD X F G o) (tDs X F G as) σ H Q:=by
  intro σ H Q q
  obtain ⟨m,s,h,z,h',R,S,ee,post⟩:=q
  simp only[BT.ev] at ee
  obtain ⟨x,h1,e1,e2⟩:=aj ee
  obtain ⟨ok,e2⟩:=rR e2
  obtain ⟨ws,h2,e3,e4⟩:=aj e2
  refine ⟨m,s,h,x,h1,R,S,e1,fun v H1 m1 x1 R1 r1=>⟨ty m1 h1 h2 H1 v x ws _ R1 r1 ok e4 ⟨σ,s,S.ext x1,h,e1⟩,m1,s,h1,ws,h2,R1,S.ext x1,e3,fun vs H2 m2 x2 R2 r2=>?_⟩⟩
  exact ⟨m2,h2,x,ws,z,h',R2,r1.ext x2,r2,e4,fun v5 H5 m5 x5 R5 r5=>post v5 H5 m5 ((x1.trans x2).trans x5) R5 r5⟩
 cases es with
 | nil =>
  cases as with
  | cons a r=>cases hc
  | nil =>
   refine PE.weak (Dp pa slot hty hm ho (jH hb) hl) fun σ H Q q=>?_
   obtain ⟨m,s,h,z,h',R,S,ee,post⟩:=key σ H Q q
   exact ⟨m,s,h,z,h',R,S,ee,fun v H1 m1 x1 R1 r1=>⟨(post v H1 m1 x1 R1 r1).1,eN (post v H1 m1 x1 R1 r1).2⟩⟩
 | cons e es =>
  simp only[av,ML] at hst
  refine PE.weak (Ca pa slot hty hm ho ha (jH hb) ?_ hl (ak hst.1) (aR hst.2)) key
  rw[iQ (es:=e :: es) (by simp only[av,ML];exact hst)]
  have h30:decide ((e :: es).length+([]:List Qn).length+(if ([]:List Qn).isEmpty then 0 else 1) < 30)=true:=decide_eq_true (by
   simp only[M5,NN,List.isEmpty_nil,if_true] at hlen ⊢;omega)
  rw[h30];rfl
theorem jq {X:Cx}{b:BT.Bi}{mu:Bool}{as:BT.Es}{σ:L2.St}{H:Hp}{Q:VK} (q:tD X F G (.bi b mu as) σ H Q):tCB (rBi X.prog X.w X.K b mu) (tDs X F G as) σ H Q:=by
 refine jI (k:=fun ws h=>BT.kBi b mu ws h) (fun s h=>by simp only[BT.ev]) q fun m h xs z h' vs H1 R r e post=>?_
 exact ⟨m,h,xs,z,h',R,r,e,post⟩
theorem D9 {X:Cx}{sc:M0}{N:List Str} (O:Ok X F G sc N) (hu:dI N=true) {b:BT.Bi}{mu:Bool}{as:BT.Es}{x:Str}{e:MJ}{es:List MJ}{p pos:Pos} (hb:Cq b mu x=true) (hg:aT sc x=true) (hst:av (e :: es)=true) (ha:PA X (e :: es) (tDs X F G as)) :
 PE X (.Call (.Name x p) (e :: es) [] pos) (tD X F G (.bi b mu as)):=by
 simp only[av,ML] at hst
 have hx:wI b mu=some x:=eq_of_beq hb
 have hB:=O.blt
 cases b<;>cases mu<;>first | (cases hx;done) | (change some _=some _ at hx)
 all_goals (cases hx)
 ·exact PE.weak (dO DZ (aY O hg) (hB _ (by decide)) PySem.boot_len ha (by decide) (by decide) (ak hst.1) (aR hst.2)) (fun σ H Q z=>jq z)
 ·exact PE.weak (dO D0 (aY O hg) (hB _ (by decide)) (by decide +kernel) ha (by decide) (by decide) (ak hst.1) (aR hst.2)) (fun σ H Q z=>jq z)
 ·exact PE.weak (gw D3 (aY O hg) (hB _ (by decide)) (by decide +kernel) ha (by decide) (by decide) (ak hst.1) (aR hst.2)) (fun σ H Q z=>jq z)
 ·exact PE.weak (gw rQ (aY O hg) (hB _ (by decide)) (by decide +kernel) ha (by decide) (by decide) (ak hst.1) (aR hst.2)) (fun σ H Q z=>jq z)
 ·exact PE.weak (gw rQ (aY O hg) (hB _ (by decide)) (by decide +kernel) ha (by decide) (by decide) (ak hst.1) (aR hst.2)) (fun σ H Q z=>jq z)
 ·exact PE.weak (gw wX (aY O hg) (hB _ (by decide)) (by decide +kernel) ha (by decide) (by decide) (ak hst.1) (aR hst.2)) (fun σ H Q z=>jq z)
theorem uK {X:Cx}{c:String}{f:BT.D->Bool}{b:BT.Bi} (hb:oU b=some (c,f)):cA X (.builtin "isinstance") (fun vs H Q=>∃ v,vs=[v,.ty c]/\rBi X.prog X.w X.K b false [v] H Q):=by
 intro pins s σ H vs us Q I rus h
 obtain ⟨v,rfl,m,h,ws,z,h',R,rws,e,post⟩:=h
 obtain ⟨u,u2,rfl,ru,ru2⟩:=rus.two
 cases ru2
 obtain ⟨ds,d,e1,e2,⟨_,rfl,rfl⟩ | ⟨_,q,_⟩⟩:=gX e
 ·have rr:=f9 R rws e1
  cases rr with
  | cons r t =>
   cases t
   rw[wZ hb] at e2
   cases e2
   exact Ax I r ru (w5 hb X.K _) fun tk=>⟨.bl _,H,I.tok tk,rfl,post.here R (.bl _)⟩
 ·cases q
theorem xm {X:Cx}{sc:M0}{N:List Str} (O:Ok X F G sc N) {b:BT.Bi}{c:String}{f:BT.D->Bool}{a:BT.E}{e:MJ}{p p2 pos:Pos} (hb:oU b=some (c,f)) (hg:aT sc "isinstance"=true) (hg2:aT sc (MU c)=true) (hst:noStar e=true) (ha:PE X e (tD X F G a)) :
 PE X (.Call (.Name "isinstance" p) [e,.Name (MU c) p2] [] pos) (tD X F G (.bi b false (.cons a .nil))):=by
 have hB:=O.blt
 have hc:PE X (.Name (MU c) p2) (tC (.ty c)):=by
  cases b<;>simp only[oU] at hb<;>try contradiction
  all_goals (cases hb)
  ·exact gu (aY O hg2) (hB _ (by decide)) (u:=.type "int") (by decide +kernel) rfl (by decide) (by decide)
  ·exact gu (aY O hg2) (hB _ (by decide)) (u:=.type "bool") (by decide +kernel) rfl (by decide) (by decide)
  ·exact gu (aY O hg2) (hB _ (by decide)) (u:=.type "str") (by decide +kernel) rfl (by decide) (by decide)
  ·exact gu (aY O hg2) (hB _ (by decide)) (u:=.type "tuple") (by decide +kernel) rfl (by decide) (by decide)
  ·exact gu (aY O hg2) (hB _ (by decide)) (u:=.type "list") (by decide +kernel) rfl (by decide) (by decide)
 refine PE.weak (dO (uK hb) (aY O hg) (hB _ (by decide)) (by decide +kernel) (cu ha (cu hc fT) (ak hst)) (by decide) (by decide) (ak hst) rfl) fun σ H Q q=>?_
 obtain ⟨m,s,h,z,h',R,S,ee,post⟩:=q
 simp only[BT.ev,BT.evs] at ee
 obtain ⟨ws,h1,e1,e2⟩:=aj ee
 obtain ⟨x,h2,e3,e4⟩:=aj e1
 simp only[BT.lX,BT.iF,BT.i9] at e4
 cases e4
 refine ⟨m,s,h,x,h1,R,S,e3,fun v H1 m1 x1 R1 r1=>?_⟩
 exact ⟨v,rfl,m1,h1,[x],z,h',R1,.cons r1 .nil,e2,fun v5 H5 m5 x5 R5 r5=>post v5 H5 m5 (x1.trans x5) R5 r5⟩
theorem Ea {X:Cx}{as:BT.Es} (σ:L2.St) (H:Hp) (Q:VK) (q:tD X F G (.tup as) σ H Q):Gq (tDs X F G as) σ H Q:=by
 refine jI (k:=fun ws h=>BT.DE ws h) (fun s h=>by simp only[BT.ev]) q fun m h xs z h' vs H1 R r e post=>?_
 unfold BT.DE at e
 cases g:BT.aJ xs with
 | none=>rw[g] at e;cases e
 | some ds =>
  rw[g] at e
  simp only at e
  split at e
  ·rename_i c
   cases e
   have rd:=r.pure g
   have:=cV
   have hl:=rd.length
   exact ⟨by omega,fun p hp=>iL R hp rd post⟩
  ·cases e
theorem Eb {X:Cx}{mu:Bool}{as:BT.Es} (σ:L2.St) (H:Hp) (Q:VK) (q:tD X F G (.lst mu as) σ H Q):Gs (tDs X F G as) σ H Q:=by
 refine jI (k:=fun ws h=>BT.DF mu ws h) (fun s h=>by simp only[BT.ev]) q fun m h xs z h' vs H1 R r e post=>?_
 unfold BT.DF at e
 cases g:BT.aJ xs with
 | none=>rw[g] at e;cases e
 | some ds =>
  rw[g] at e
  simp only at e
  split at e
  ·rename_i c
   have rd:=r.pure g
   have:=cV
   have hl:=rd.length
   have ez:BT.new mu ds h=(z,h'):=MV e
   exact ⟨by omega,fun p hp=>nk (mu:=mu) R hp rd (by rw[ez];exact post)⟩
  ·cases e
theorem cons_of {X:Cx}{a:BT.E}{as:BT.Es} (σ:L2.St) (H:Hp) (Q:List V->Hp->Prop) (q:tDs X F G (.cons a as) σ H Q):B8 (tD X F G a) (tDs X F G as) σ H Q:=by
 obtain ⟨m,s,h,zs,h',R,S,ee,post⟩:=q
 simp only[BT.evs] at ee
 obtain ⟨x,h1,e1,e2⟩:=aj ee
 simp only[BT.lX] at e2
 obtain ⟨xs,h2,e3,e4⟩:=aj e2
 simp only[BT.i9] at e4
 cases e4
 exact ⟨m,s,h,x,h1,R,S,e1,fun v H1 m1 x1 R1 r1=>⟨m1,s,h1,xs,h',R1,S.ext x1,e3,fun vs H2 m2 x2 R2 r2=>post _ H2 m2 (x1.trans x2) R2 (.cons (r1.ext x2) r2)⟩⟩
end
end BS
end
section
namespace BS
open PySem PySem.Spec PyProof.Rows L2
section
variable {K:MI}{m:List MN}{H:Hp}
theorem RFs.get {f:Str}{x:BT.W}:∀ {vs:List (Str×V)}{fs:List (Str×BT.W)},RFs K m H vs fs->BT.aX f fs=some x->∃ v,vs.lookup f=some v/\RA K m H v x
 | _,_,.nil,e=>by cases e
 | _,_,.cons (f:=g) r t,e=>by
  rw[BT.lW] at e
  by_cases c:f=g
  ·rw[if_pos c] at e;cases e;subst c;exact ⟨_,by simp,r⟩
  ·rw[if_neg c] at e
   obtain ⟨v,h1,h2⟩:=RFs.get t e
   exact ⟨v,by rw[Of];rw[beq_false_of_ne c];exact h1,h2⟩
theorem RFs.none {f:Str}:∀ {vs:List (Str×V)}{fs:List (Str×BT.W)},RFs K m H vs fs->(BT.aX f fs).isNone=true->vs.lookup f=none
 | _,_,.nil,_=>rfl
 | _,_,.cons (f:=g) r t,e=>by
  rw[BT.lW] at e
  by_cases c:f=g
  ·rw[if_pos c] at e;cases e
  ·rw[if_neg c] at e
   rw[Of,beq_false_of_ne c]
   exact RFs.none t e
theorem RFs.put {f:Str}{v:V}{x:BT.W} (q:RA K m H v x):∀ {vs:List (Str×V)}{fs:List (Str×BT.W)},RFs K m H vs fs->RFs K m H (L2.bz f v vs) (BT.bz f x fs)
 | _,_,.nil=>.cons q .nil
 | _,_,.cons (f:=g) r t=>by
  rw[L2.bz,BT.uB]
  by_cases c:f=g
  ·rw[if_pos c,if_pos c.symm];subst c;exact .cons q t
  ·rw[if_neg c,if_neg (Ne.symm c)];exact .cons r (RFs.put q t)
theorem RFs.length:∀ {vs:List (Str×V)}{fs:List (Str×BT.W)},RFs K m H vs fs->vs.length=fs.length
 | _,_,.nil=>rfl
 | _,_,.cons _ t=>by rw[M5,M5,RFs.length t]
end
section
variable {F:FT}{G:Str->Option BT.W}
theorem AG {f:Str}{x:BT.W}{h:BT.HH}{r:BT.W×BT.HH} (e:BT.Ak f x h=some r):∃ n c fs w,x=.o n/\BT.oat h n=some (c,fs)/\BT.aX f fs=some w/\r=(w,h):=by
 cases x with
 | o n =>
  rw[BT.DH] at e
  cases g:BT.oat h n with
  | none=>rw[g] at e;cases e
  | some q =>
   obtain ⟨c,fs⟩:=q
   rw[g] at e
   obtain ⟨w,e1,e2⟩:=az e
   exact ⟨n,c,fs,w,rfl,g,e1,e2.symm⟩
 | p d=>cases e
 | r n=>cases e
 | k q=>cases e
 | c _ _=>cases e
 | x _=>cases e
theorem AH {X:Cx}{sc:M0}{N:List Str}{a:BT.E}{f:Str}{x:MJ}{p:Pos} (hb:aO x=true) (hf:attrName f=true) (ha:PE X x (tD X F G a)):PE X (.Attribute x f p) (tD X F G (.fld a f)):=by
 refine PE.weak (Dg ha (jH hb)) fun σ H Q q=>?_
 refine Ct (k:=BT.Ak f) (fun s h=>by simp only[BT.ev]) q fun m h x z h' v H1 R r e post=>?_
 obtain ⟨n,c,fs,w,rfl,e1,e2,e3⟩:=AG e
 cases e3
 cases r with
 | o hn =>
  obtain ⟨C,dx,vs,h1,h2,h3⟩:=R.lY _ _ _ _ hn e1
  obtain ⟨u,l,ra⟩:=h3.get e2
  exact ⟨_,C,dx,vs,u,rfl,h1,h2.cls,h2.no f hf,l,post u H1 m (.refl _ _) R ra.rw⟩
theorem gC {o:MJ}{m:Str}{apos pos:Pos}{args:List MJ}{env:Env} (hb:aO o=true) (hst:av args=true) (hlen:args.length < 20) (hl:(apos.endLine==pos.line)=true) :
 eval (.Call (.Attribute o m apos) args [] pos) env=(do
  let ov ← eval o env
  standAt apos.atName
  let (f,first) ← holding [ov] (Qu ov m (do return (← importBound o env).getD true))
  callWith pos f first (OC pos (Nd args env)) (P9 pos (OO [] env))):=by
 have hf:methodCallForm (args.length+([]:List Qn).length) (OC pos (Nd args env)) (P9 pos (OO [] env))=true:=by
  unfold methodCallForm
  have h30:decide (args.length+([]:List Qn).length+(if (P9 pos (OO [] env)).isEmpty then 0 else 1) < 30)=true:=decide_eq_true (by
   show args.length+0+0 < 30
   omega)
  rw[h30,iQ hst];rfl
 rw[arm_eval_Call,jH hb]
 unfold methodCall
 rw[hf]
 have hp:methodCallPos true o env apos pos=pure pos:=by
  unfold methodCallPos
  rw[hl];rfl
 rw[hp]
 rfl
theorem xo {m:Str}{ea:BT.HH->Option (List BT.W×BT.HH)}{x:BT.W}{h:BT.HH}{r:BT.W×BT.HH} (e:BT.wg F m ea x h=some r) :
 ∃ n c fs ws g,x=.o n/\BT.oat h n=some (c,fs)/\(BT.aX m fs).isNone=true/\ea h=some (ws,g)/\F (.m c m) (.o n :: ws) g=some r:=by
 cases x with
 | o n =>
  rw[BT.Al] at e
  cases g:BT.oat h n with
  | none=>rw[g] at e;cases e
  | some q =>
   obtain ⟨c,fs⟩:=q
   rw[g] at e
   simp only at e
   split at e
   ·rename_i c1
    obtain ⟨ws,g2,e1,e2⟩:=aj e
    exact ⟨n,c,fs,ws,g2,rfl,g,c1,e1,e2⟩
   ·cases e
 | p d=>cases e
 | r n=>cases e
 | k q=>cases e
 | c _ _=>cases e
 | x _=>cases e
theorem xq {X:Cx}{sc:M0}{N:List Str} (O:Ok X F G sc N) {o:BT.E}{m:Str}{as:BT.Es}{oe:MJ}{apos cpos:Pos}{es:List MJ} (hb:aO oe=true) (hl:(apos.endLine==cpos.line)=true) (hlen:es.length < 20) (ho:PE X oe (tD X F G o)) (hc:CEs sc N as es) (ha:PA X es (tDs X F G as)) :
 PE X (.Call (.Attribute oe m apos) es [] cpos) (tD X F G (.meth o m as)):=by
 have hst:=cW hc
 intro pins s σ H Q I q
 obtain ⟨m0,s',h,z,h',R,S,ee,post⟩:=q
 simp only[BT.ev] at ee
 obtain ⟨x,h1,e1,e2⟩:=aj ee
 obtain ⟨n,c,fs,ws,g,rfl,e3,e4,e5,e6⟩:=xo e2
 obtain ⟨C,ga,fd,ps,k,hC,hM,hB,hR,ok⟩:=O.meth _ _ _ _ _ e6
 have key:rB C m (spF X.prog X.w X.K (F (.m c m))) [] E0 (tD X F G o) (tDs X F G as) σ H Q:=by
  refine ⟨m0,s',h,.o n,h1,R,S,e1,fun v H1 m1 x1 R1 r1=>?_⟩
  cases r1 with
  | @o a _ hn =>
   obtain ⟨C',dx,vs,q1,q2,q3⟩:=R1.lY _ _ _ _ hn e3
   cases q2.cn.inj hC.cn
   refine ⟨a,dx,vs,rfl,q1,q3.none e4,m1,s',h1,ws,g,R1,S.ext x1,e5,fun us H2 m2 x2 R2 r2=>?_⟩
   show spF X.prog X.w X.K (F (.m c m)) (V.ref a :: (us++[])) H2 Q E0
   rw[NT]
   exact ⟨m2,.o n :: ws,g,z,h',R2,.cons (.o (x2.ix hn)) r2,e6,fun v5 H5 m5 x5 R5 r5=>post v5 H5 m5 ((x1.trans x2).trans x5) R5 r5⟩
 cases es with
 | nil =>
  cases as with
  | cons a r=>cases hc
  | nil =>
   refine oF ho hC.cls hM ok hR hB .nil lU (gC hb hst hlen hl) pins s σ H Q I ?_
   obtain ⟨m,s,h,z,h',R,S,ee,post⟩:=key
   refine ⟨m,s,h,z,h',R,S,ee,fun v H1 m1 x1 R1 r1=>?_⟩
   obtain ⟨a,dx,fs,q1,q2,q3,q4⟩:=post v H1 m1 x1 R1 r1
   exact ⟨a,dx,fs,q1,q2,q3,eN q4⟩
 | cons e es =>
  have hst':=hst
  simp only[av,ML] at hst'
  exact rC ho hC.cls hM ok hR hB .nil lU ha (ak hst'.1) (aR hst'.2) (gC hb hst hlen hl) pins s σ H Q I key
theorem xr {X:Cx}{sc:M0}{N:List Str} (O:Ok X F G sc N) {c:Str}{as:BT.Es}{es:List MJ}{p pos:Pos} (hg:aT sc c=true) (hn:aH c=true) (hc:CEs sc N as es) (ha:PA X es (tDs X F G as)) :
 PE X (.Call (.Name c p) es [] pos) (tD X F G (.make c as)):=by
 have hst:=cW hc
 intro pins s σ H Q I q
 obtain ⟨m0,s',h,z,h',R,S,ee,post⟩:=q
 simp only[BT.ev] at ee
 obtain ⟨ws,h1,e1,e2⟩:=aj ee
 rw[BT.wj] at e2
 obtain ⟨y,h2,e3,e4⟩:=aj e2
 have e5:y=.p .non/\(z,h')=(.o h1.length,h2):=by
  cases y with
  | p d=>cases d<;>simp[BT.rM] at e4;exact ⟨rfl,by rw[e4.1,e4.2]⟩
  | r n=>cases e4
  | k q=>cases e4
  | c _ _=>cases e4
  | x _=>cases e4
  | o n=>cases e4
 obtain ⟨rfl,e5⟩:=e5
 cases e5
 obtain ⟨C,ga,fd,ps,k,hC,hmg,hM,hB,hR,ok⟩:=O.mkc _ _ _ _ e3
 have key:vL C (spF X.prog X.w X.K (F (.m c "__init__"))) [] E0 (tDs X F G as) σ H Q:=by
  refine ⟨m0,s',h,ws,h1,R,S,e1,fun us H1 m1 x1 R1 r1 x dx nx ndx ne=>?_⟩
  rw[NT]
  have xa:Ext m1 H1 m1 (upd H1 dx (.own x)):=fL ndx
  have Ra:RH X.K m1 (upd H1 dx (.own x)) h1:=R1.new ndx
  have nx':upd H1 dx (.own x) x=none:=by rw[au (Ne.symm ne)];exact nx
  have xb:Ext m1 (upd H1 dx (.own x)) (m1++[x]) (upd (upd H1 dx (.own x)) x (.ins C dx [])):=iK nx'
  have Rb:RH X.K (m1++[x]) (upd (upd H1 dx (.own x)) x (.ins C dx [])) (h1++[.o c []]):=Ra.Hw nx' ⟨C,dx,[],bx,hC,.nil⟩
  have ix:(m1++[x])[h1.length]?=some x:=by rw[← R1.len];simp
  refine ⟨m1++[x],.o h1.length :: ws,h1++[.o c []],.p .non,h',Rb,.cons (.o ix) (r1.ext (xa.trans xb)),e3,fun v H2 m2 x2 R2 r2=>?_⟩
  cases r2 with
  | p r2 =>
   cases r2
   exact ⟨rfl,post _ H2 m2 (((x1.trans xa).trans xb).trans x2) R2 (.o (x2.ix ix))⟩
 cases es with
 | nil =>
  cases as with
  | cons a r=>cases hc
  | nil =>
   refine vN hM ok hR (aY O hg) hmg hB .nil lU (cF hn).1 pins s σ H Q I ?_
   exact eN key
 | cons e es =>
  simp only[av,ML] at hst
  exact zQ hM ok hR (aY O hg) hmg hB .nil lU ha (cF hn).1 (ak hst.1) (aR hst.2) pins s σ H Q I key
noncomputable def Ec (o:BT.Bin):TIp:=fun x y H Q=>∃ i j z,x=.int i/\y=.int j/\BT.jW o (.int i) (.int j)=some (.int z)/\Q (.int z) H
noncomputable def xu:BT.Bin->OQ->Bool
 | .add,.Add=>true
 | .sub,.Sub=>true
 | .mul,.Mult=>true
 | _,_=>false
theorem jJ {X:Cx}{o:BT.Bin}{op:OQ} (h:xu o op=true):PIp X op (Ec o):=by
 rintro pins s σ H x y u v Q I rx ry ⟨i,j,z,rfl,rfl,e,q⟩
 obtain ⟨t,rfl⟩:=(show ∃ t,u=Qw i t from rx)
 obtain ⟨t',rfl⟩:=(show ∃ t',v=Qw j t' from ry)
 cases o<;>cases op<;>cases h
 ·cases e;exact PyProof.Rows.iadd_int ⟨.int (i+j),H,I.tok _,⟨_,rfl⟩,q⟩
 ·cases e;exact PyProof.Rows.isub_int ⟨.int (i - j),H,I.tok _,⟨_,rfl⟩,q⟩
 ·rw[BT.oO] at e
  split at e
  ·rename_i c
   cases e
   have hc:zI i j:=by
    rcases Oa _ _ ▸ c with c | c
    ·exact .inl (nu c)
    ·exact .inr (nu c)
   exact PyProof.Rows.imul_int ⟨.int (i*j),H,I.tok _,⟨_,rfl⟩,q⟩ hc.ok
  ·cases e
theorem rY {o:BT.Bin}{d e z:BT.D} (h:BT.jW o d e=some z):∃ i j k,d=.int i/\e=.int j/\z=.int k:=by
 cases d with
 | int i =>
  cases e with
  | int j =>
   refine ⟨i,j,?_⟩
   cases o with
   | add=>exact ⟨_,rfl,rfl,(MV h).symm⟩
   | sub=>exact ⟨_,rfl,rfl,(MV h).symm⟩
   | mul =>
    rw[BT.oO] at h
    split at h
    ·exact ⟨_,rfl,rfl,(MV h).symm⟩
    ·cases h
   | _=>exact ai h
  | _=>cases o<;>exact ai h
 | _=>cases o<;>exact ai h
end
end BS
end
section
namespace BS
open PySem PySem.Spec PyProof.Rows L2
section
variable {K:MI}{m:List MN}{H:Hp}
end
theorem jd {vs:List V}{us:List Value} (r:ao vs us):∀ l:List Nat,ao (l.filterMap fun i=>vs[i]?) (l.filterMap fun i=>us[i]?)
 | []=>.nil
 | i :: l=>by
  rw[NI,NI]
  cases g:vs[i]? with
  | none =>
   have:us[i]?=none:=by
    have h:=r.length
    rw[QM] at g ⊢
    omega
   rw[this]
   exact jd r l
  | some d =>
   obtain ⟨v,e,q⟩:=r.get g
   rw[e]
   exact .cons q (jd r l)
noncomputable def o7 (k:Int) (xs:List V):List V:=(P8 (Ng none none (some k) xs.length).1 (Ng none none (some k) xs.length).2.1 (Ng none none (some k) xs.length).2.2).filterMap fun i=>xs[i]?
section
variable {F:FT}{G:Str->Option BT.W}
theorem Ed {X:Cx}{e se:MJ}{te:TE}{k:Int}{p2 pos:Pos} (hk:k≠0) (he:PE X e te) (hs:PE X se (tC (.int k))) :
 PE X (.Subscript e (.Slice none none (some se) p2) pos) (fun σ H Q=>te σ H fun x H1=>∃ a xs,x=.ref a/\SqL X.K H1 a xs/\∀ p,H1 p=none->Q (.ref p) (upd H1 p (.lst (o7 k xs)))):=by
 intro pins s σ H Q I h
 refine RC (thn (he pins s σ H _ I h) fun v s1 ⟨x,H1,I1,r1,a,xs,ex,hx,q⟩=>?_)
 subst ex
 cases r1
 refine wpAny_Slice ?_
 rw[RT]
 refine wpAny_pure (wpAny_pure ?_)
 rw[evalPart_some]
 refine thn (hs pins s1 σ H1 (fun v H'=>v=.int k/\H'=H1) I1 ⟨rfl,rfl⟩) fun vs s3 ⟨y,H3,I3,r3,hy,hh⟩=>?_
 subst hy hh
 obtain ⟨t,rfl⟩:=r3
 have I4:Inv X pins σ H3 { s3 with heap:=s3.heap.push { cls:=.type "slice",data:=.fields #[.none,.none,.int k t] } }:=I3.kept (t':=s3.toks) fun b ob q=>MQ _ q
 obtain ⟨its,rv,p,hz⟩:=I4.list hx
 have hg:wpAny (M3 X.prog X.w) X.A (QD (.ref a) (.ref s3.heap.objs.size)) (EP X pins σ Q) X.xe { s3 with heap:=s3.heap.push { cls:=.type "slice",data:=.fields #[.none,.none,.int k t] } }:=by
  have hlen:=rv.length
  refine Rz p.isList (Qx ..) .none .none (.int k t) (by intro z;exact hk (MV z)) ?_ (by rw[MM];omega)
  have hp:slicePick its.toArray none none (some k)=((P8 (Ng none none (some k) xs.length).1 (Ng none none (some k) xs.length).2.1 (Ng none none (some k) xs.length).2.2).filterMap fun i=>its[i]?).toArray:=by
   unfold slicePick
   rw[MM,← hlen]
   simp
  rw[hp]
  have hq:=jd rv (P8 (Ng none none (some k) xs.length).1 (Ng none none (some k) xs.length).2.1 (Ng none none (some k) xs.length).2.2)
  have hz':(o7 k xs).length<=xs.length:=by
   have:=slicePick_size_le its.toArray none none (some k)
   rw[hp,MM,MM] at this
   have e:=hq.length
   unfold o7
   omega
  refine ⟨.ref (s3.heap.push { cls:=.type "slice",data:=.fields #[.none,.none,.int k t] }).objs.size,_,I4.laid (t':=s3.toks) (o:=.lst (o7 k xs)) (fun b ob q=>MQ _ q) (MR _) ?_,rfl,q _ (I4.hok.fresh (MR _))⟩
  exact ⟨by omega,_,0,hq,Nk _ rfl⟩
 show wpAny (M3 X.prog X.w) X.A (RP e (.Slice none none (some se) p2) (.ref a) (.ref s3.heap.objs.size)) (EP X pins σ Q) X.xe { s3 with heap:=s3.heap.push { cls:=.type "slice",data:=.fields #[.none,.none,.int k t] } }
 exact tail_any (ops:=[.ref a,.ref s3.heap.objs.size]) p.isList.typeIs slot_list_getitem.lookup hg (by with_unfolding_all rfl)
theorem rZ {e:MJ}{k:Int} (h:(Ao e).bind cInt=some k):∃ a b,e=.Constant (.int k) a b:=by
 cases e with
 | Constant c a b =>
  cases c with
  | int j=>cases h;exact ⟨a,b,rfl⟩
  | _=>exact absurd (show (none:Option Int)=some _ from h) (fun z=>nomatch z)
 | _=>exact absurd (show (none:Option Int)=some _ from h) (fun z=>nomatch z)
theorem xw {k:Int}{e:MJ} (h:ni k e=true):(∃ a b,e=.Constant (.int k) a b/\0 < k)\/∃ j a b p,e=.UnaryOp .USub (.Constant (.int j) a b) p/\k=-j/\0 < j:=by
 unfold ni at h
 rw[Oa,ML,ML,decide_eq_true_eq,decide_eq_true_eq] at h
 rcases h with ⟨h1,h2⟩ | ⟨h1,h2⟩
 ·obtain ⟨a,b,e1⟩:=rZ (eq_of_beq h1)
  exact .inl ⟨a,b,e1,h2⟩
 ·have h1:=eq_of_beq h1
  cases e with
  | UnaryOp o e p =>
   by_cases c:o=.USub
   ·subst c
    have h3:(Ao e).bind cInt=some (-k):=h1
    obtain ⟨a,b,rfl⟩:=rZ h3
    exact .inr ⟨-k,a,b,p,rfl,by omega,by omega⟩
   ·have:unE (.UnaryOp o e p)=none:=if_neg c
    rw[this] at h1
    cases h1
  | _=>exact absurd (show (none:Option Int)=some _ from h1) (fun z=>nomatch z)
theorem AI {X:Cx}{a:BT.E}{mu:Bool}{k:Int}{x se:MJ}{p2 p:Pos} (hk:ni k se=true) (ha:PE X x (tD X F G a)):PE X (.Subscript x (.Slice none none (some se) p2) p) (tD X F G (.stp mu k a)):=by
 have hs:k≠0/\PE X se (tC (.int k)):=by
  rcases xw hk with ⟨a,b,rfl,h⟩ | ⟨j,a,b,p,rfl,rfl,h⟩
  ·exact ⟨by omega,p8⟩
  ·exact ⟨by omega,PE.weak (B6 vB p8) fun σ H Q q=>⟨_,rfl,q⟩⟩
 refine PE.weak (Ed hs.1 ha hs.2) fun σ H Q q=>?_
 refine Ct (k:=BT.DG mu k) (fun s h=>by simp only[BT.ev]) q fun m h x z h' v H1 R r e post=>?_
 unfold BT.DG at e
 cases g:BT.rd x h with
 | none=>rw[g] at e;cases e
 | some d =>
  rw[g] at e
  cases d with
  | lst xs =>
   simp only at e
   have r1:=aF R r g
   obtain ⟨a,vs,rfl,hl,rr⟩:=r1.lst
   have ez:BT.new mu (BT.oQ k xs) h=(z,h'):=MV e
   refine ⟨a,vs,rfl,hl.sq,fun p hp=>nk (mu:=mu) R hp ?_ (by rw[ez];exact post)⟩
   unfold o7 BT.oQ
   rw[rr.length]
   exact RDs.pick rr _
  | _=>cases e
theorem xy {X:Cx}{b:BT.Bi}{g:Int->Int->Int} (hb:∀ ds d,BT.biD b ds=some d->∃ i j,ds=[.int i,.int j]/\d=.int (g i j)) {id:String} (hc:cA X (.builtin id) (fun xs H Q=>∃ i j,xs=[.int i,.int j]/\Q (.int (g i j)) H)):cA X (.builtin id) (rBi X.prog X.w X.K b false):=by
 intro pins s σ H vs us Q I rus h
 obtain ⟨m,h,ws,z,h',R,rws,e,post⟩:=h
 obtain ⟨ds,d,e1,e2,⟨_,rfl,rfl⟩ | ⟨_,q,_⟩⟩:=gX e
 ·have rr:=f9 R rws e1
  obtain ⟨i,j,rfl,rfl⟩:=hb _ _ e2
  cases rr with
  | cons r t =>
   cases t with
   | cons r' t' =>
    cases t'
    cases r.int
    cases r'.int
    exact hc pins s σ H _ us Q I rus ⟨i,j,rfl,post.here R (.int _)⟩
 ·cases q
theorem AJ {X:Cx}{sc:M0}{N:List Str} (O:Ok X F G sc N) (hu:dI N=true) {b:BT.Bi}{as:BT.Es}{x:Str}{e:MJ}{es:List MJ}{p pos:Pos} (hb:wJ b x=true) (hg:aT sc x=true) (hst:av (e :: es)=true) (ha:PA X (e :: es) (tDs X F G as)) :
 PE X (.Call (.Name x p) (e :: es) [] pos) (tD X F G (.bi b false as)):=by
 simp only[av,ML] at hst
 have hB:=O.blt
 cases b<;>first | (cases hb;done) | (replace hb:=eq_of_beq hb)
 ·subst hb
  refine PE.weak (dO (xy (b:=.min2) (g:=fun i j=>if j < i then j else i) (fun ds d h=>?_) (uh (O.calm hu))) (aY O hg) (hB _ (by decide +kernel)) (by decide +kernel) ha (by decide) (by decide) (ak hst.1) (aR hst.2)) (fun σ H Q z=>jq z)
  match ds,h with
  | [.int i,.int j],h=>exact ⟨i,j,rfl,(MV h).symm⟩
 ·subst hb
  refine PE.weak (dO (xy (b:=.max2) (g:=fun i j=>if j > i then j else i) (fun ds d h=>?_) (ug (O.calm hu))) (aY O hg) (hB _ (by decide +kernel)) (by decide +kernel) ha (by decide) (by decide) (ak hst.1) (aR hst.2)) (fun σ H Q z=>jq z)
  match ds,h with
  | [.int i,.int j],h=>exact ⟨i,j,rfl,(MV h).symm⟩
end
end BS
end
section
namespace BS
open PySem PySem.Spec PyProof.Rows L2
section
variable {P:MP}{w:M7}{K:MI}{m:List MN}{H H':Hp}
noncomputable def lu (H H':Hp):Prop:=(∀ a vs,Rd H a (.tup vs)->Rd H' a (.tup vs))/\∀ a vs,Rd H a (.lst vs)->Rd H' a (.lst vs)
mutual
theorem RD.tr (q:lu H H'):∀ {v:V}{d:BT.D},RD K m H v d->RD K m H' v d
 | _,_,.non=>.non
 | _,_,.bl b=>.bl b
 | _,_,.int i=>.int i
 | _,_,.str y h=>.str y h
 | _,_,.tup h r=>.tup (h.elim (fun z=>.inl ⟨q.1 _ _ z.1,z.2⟩) .inr) (RDs.tr q r)
 | _,_,.lst h r=>.lst (h.elim (fun z=>.inl ⟨q.2 _ _ z.1,z.2⟩) .inr) (RDs.tr q r)
theorem RDs.tr (q:lu H H'):∀ {vs:List V}{ds:List BT.D},RDs K m H vs ds->RDs K m H' vs ds
 | _,_,.nil=>.nil
 | _,_,.cons r t=>.cons (RD.tr q r) (RDs.tr q t)
end
theorem RA.tr (q:lu H H') {v:V}{x:BT.W} (r:RA K m H v x):RA K m H' v x:=by
 cases r with
 | p r=>exact .p (r.tr q)
 | r h=>exact .r h
 | o h=>exact .o h
theorem RFs.tr (q:lu H H') {vs:List (Str×V)}{fs:List (Str×BT.W)} (r:RFs K m H vs fs):RFs K m H' vs fs:=by
 induction r with
 | nil=>exact .nil
 | cons r t ih=>exact .cons (r.tr q) ih
theorem RCs.tr (q:lu H H') {vs:List V}{cs:List BT.Cp} (r:RCs K m H vs cs):RCs K m H' vs cs:=by
 induction r with
 | nil=>exact .nil
 | cons r t ih=>exact .cons (r.tr q) ih
theorem RWs.tr (q:lu H H') {vs:List V}{ws:List BT.W} (r:RWs P w K m H vs ws) (n:BT.noC ws=true):RWs P w K m H' vs ws:=by
 induction r with
 | nil=>exact .nil
 | cons r t ih =>
  cases r with
  | p r=>exact .cons (.p (r.tr q)) (ih n)
  | r h=>exact .cons (.r h) (ih n)
  | k h r=>exact .cons (.k h r) (ih n)
  | o h=>exact .cons (.o h) (ih n)
  | c _ _=>cases n
  | x _=>cases n
  | g _ _=>cases n
theorem RCs.ws {vs:List V}{cs:List BT.Cp} (r:RCs K m H vs cs):RWs P w K m H vs (cs.map BT.Cp.w):=by
 induction r with
 | nil=>exact .nil
 | cons r t ih=>exact .cons r.rw ih
theorem RWs.app {vs us:List V}{ws zs:List BT.W} (r:RWs P w K m H vs ws) (t:RWs P w K m H us zs):RWs P w K m H (vs++us) (ws++zs):=by
 induction r with
 | nil=>exact t
 | cons r _ ih=>exact .cons r ih
theorem RKs.tr (q:lu H H') {vs:List (Key×V)}{kvs:List (BT.Ky×BT.D)} (r:RKs K m H vs kvs):RKs K m H' vs kvs:=by
 induction r with
 | nil=>exact .nil
 | cons hk r t ih=>exact .cons (hk.tr q) (r.tr q) ih
theorem RH.tr {h:BT.HH} (R:RH K m H h) (q:lu H H') (k:∀ a∈m,H' a=H a) (tb:TB K H'):RH K m H' h:=by
 refine ⟨R.nd,R.len,fun i a c e1 e2=>?_,tb⟩
 have z:=R.cl i a c e1 e2
 have e:=k a (MZ e1)
 cases c with
 | l xs=>obtain ⟨vs,h1,h2⟩:=z;exact ⟨vs,e.trans h1,h2.tr q⟩
 | o c fs=>obtain ⟨C,dx,vs,h1,h2,h3⟩:=z;exact ⟨C,dx,vs,e.trans h1,h2,h3.tr q⟩
 | d kvs=>obtain ⟨vs,h1,h2⟩:=z;exact ⟨vs,e.trans h1,h2.tr q⟩
theorem Le.sq (q:Le H H'):lu H H':=⟨fun a vs r=>r.elim (fun z=>.inl (q _ _ z)) fun ⟨o,z⟩=>.inr ⟨o,q _ _ z⟩,fun a vs r=>r.elim (fun z=>.inl (q _ _ z)) fun ⟨o,z⟩=>.inr ⟨o,q _ _ z⟩⟩
theorem RH.le {h:BT.HH} (R:RH K m H h) (q:Le H H'):RH K m H' h:=R.tr q.sq (fun a ha=>by
 obtain ⟨o,e,_⟩:=R.mu ha
 rw[e];exact q _ _ e) (q.tb R.tb)
theorem fX.le (q:Le H H') {cl:List (Str×MN)}{xs:List Str}{vs:List V} (r:fX m H cl xs vs):fX m H' cl xs vs:=by
 induction r with
 | nil=>exact .nil
 | cons h1 h2 h3 r t ih=>exact .cons h1 ⟨q _ _ h2.1,h2.2⟩ h3 r ih
theorem jo.le (q:Le H H') {f:MN}{L:Nat}{vs:List V} (h:jo m H f L vs):jo m H' f L vs:=by
 obtain ⟨bt,ps,fs,pa,be,sc,cl,pm,ctv,c',oc,os,t,ql,h0,h1,h2,h3,h4,h5,h6,h7,h8,h9,h10⟩:=h
 exact ⟨bt,ps,fs,pa,be,sc,cl,pm,ctv,c',oc,os,t,ql,h0,h1,h2,h3,h4,h5,⟨q _ _ h6.1,h6.2⟩,⟨q _ _ h7.1,h7.2⟩,h8,h9,h10.le q⟩
theorem RW.le (q:Le H H') {v:V}{x:BT.W} (r:RW P w K m H v x):RW P w K m H' v x:=by
 cases r with
 | p r=>exact .p (r.tr q.sq)
 | r h=>exact .r h
 | k h r=>exact .k h r
 | o h=>exact .o h
 | c h r=>exact .c (h.le q) (r.tr q.sq)
 | x h n xt=>exact .x (q _ _ h) n xt
 | g h r=>exact .g h r
end
noncomputable def cG (cl:List (Str×MN)) (H:Hp):Prop:=∀ x c,cl.lookup x=some c->∃ o u,H c=some (.frz o (.own 0))/\o.data=.cell u
open Classical in
noncomputable def hid (cl:List (Str×MN)) (H:Hp):Hp:=fun b=>if ∃ x,cl.lookup x=some b then none else H b
open Classical in
noncomputable def ret (cl:List (Str×MN)) (H0 H:Hp):Hp:=fun b=>if ∃ x,cl.lookup x=some b then H0 b else H b
section
variable {cl:List (Str×MN)}{H H':Hp}{b:MN}{u:HO}
theorem xA {x:Str} (e:cl.lookup x=some b):hid cl H b=none:=if_pos ⟨x,e⟩
theorem iR (e:¬ ∃ x,cl.lookup x=some b):hid cl H b=H b:=if_neg e
theorem fz (e:H b=none):hid cl H b=none:=by
 unfold hid;split<;>first | rfl | exact e
theorem nE {x:Str} (e:cl.lookup x=some b):ret cl H H' b=H b:=if_pos ⟨x,e⟩
theorem eS (e:¬ ∃ x,cl.lookup x=some b):ret cl H H' b=H' b:=if_neg e
theorem Ef (e:hid cl H b=some u):H b=some u/\¬ ∃ x,cl.lookup x=some b:=by
 unfold hid at e
 split at e
 ·cases e
 ·rename_i c;exact ⟨e,c⟩
noncomputable def jK:HO->Bool
 | .frz o (.own _)=>match o.data with | .cell _=>true | _=>false
 | _=>false
theorem cG.out (C:cG cl H) (e:H b=some u) (n:jK u=false):¬ ∃ x,cl.lookup x=some b:=fun ⟨x,q⟩=>by
 obtain ⟨o,v,h1,h2⟩:=C x b q
 rw[e] at h1;cases h1
 simp[jK,h2] at n
theorem cG.hid (C:cG cl H) (e:H b=some u) (n:jK u=false):BS.hid cl H b=some u:=by rw[iR (C.out e n)];exact e
theorem cG.sq (C:cG cl H):lu H (BS.hid cl H):=⟨fun a vs r=>r.elim (fun z=>.inl (C.hid z rfl)) fun ⟨o,z⟩=>.inr ⟨o,C.hid z rfl⟩,fun a vs r=>r.elim (fun z=>.inl (C.hid z rfl)) fun ⟨o,z⟩=>.inr ⟨o,C.hid z rfl⟩⟩
theorem cG.tb (C:cG cl H) {K:MI} (t:TB K H):TB K (BS.hid cl H):=t.mono (fun P ps e=>C.hid e rfl) fun a o vs d e=>C.hid e (by simp[jK,d])
theorem cG.rh (C:cG cl H) {K:MI}{m:List MN}{h:BT.HH} (R:RH K m H h):RH K m (BS.hid cl H) h:=R.tr C.sq (fun a ha=>by
 obtain ⟨o,e,z⟩:=R.mu ha
 rw[e];exact C.hid e (by cases o<;>first | rfl | cases z)) (C.tb R.tb)
theorem Eg (N:∀ x c,cl.lookup x=some c->H' c=none):Le H' (ret cl H H'):=fun a u e=>by
 rw[eS (fun ⟨x,q⟩=>by rw[N x a q] at e;cases e)];exact e
theorem cG.Eh (C:cG cl H) (N:∀ x c,cl.lookup x=some c->H' c=none) {K:MI}{m m':List MN}{h':BT.HH} (x:Ext m (BS.hid cl H) m' H') (R:RH K m' H' h'):Ext m H m' (ret cl H H'):=by
 obtain ⟨e,hm,he⟩:=x.pre
 refine ⟨⟨e,hm,fun a ha=>?_⟩,fun a o h n t=>?_,fun a h=>?_⟩
 ·have z:=he a ha
  have hne:¬ ∃ y,cl.lookup y=some a:=fun ⟨y,q⟩=>by
   obtain ⟨o,e1,_⟩:=R.mu (a:=a) (by rw[hm];exact Ni _ ha)
   rw[N y a q] at e1;cases e1
  rw[iR hne] at z;exact z
 ·by_cases c:∃ y,cl.lookup y=some a
  ·obtain ⟨y,q⟩:=c;rw[nE q];exact h
  ·rw[eS c];exact x.keep a o (by rw[iR c];exact h) n t
 ·by_cases c:∃ y,cl.lookup y=some a
  ·obtain ⟨y,q⟩:=c;rw[nE q] at h;exact h
  ·rw[eS c] at h;have z:=x.live a h;rw[iR c] at z;exact z
end
theorem fX.get {m:List MN}{H:Hp}{cl:List (Str×MN)}{fs:List Str}{vs:List V} (r:fX m H cl fs vs):∀ {i:Nat}{x:Str},fs[i]?=some x->∃ c o u v,cl.lookup x=some c/\Tr m H c o/\o.data=.cell (some u)/\vs[i]?=some v/\RelV v u:=by
 induction r with
 | nil=>intro i x e;simp at e
 | cons h1 h2 h3 r t ih =>
  intro i x e
  cases i with
  | zero=>simp at e;subst e;exact ⟨_,_,_,_,h1,h2,h3,rfl,r⟩
  | succ i=>simpa using ih (by simpa using e)
theorem fX.len {m:List MN}{H:Hp}{cl:List (Str×MN)}{fs:List Str}{vs:List V} (r:fX m H cl fs vs):vs.length=fs.length:=by
 induction r with
 | nil=>rfl
 | cons h1 h2 h3 r t ih=>simp[ih]
theorem fX.cells {m:List MN}{H:Hp}{cl:List (Str×MN)}{fs:List Str}{vs:List V} (r:fX m H cl fs vs) (hf:∀ x c,cl.lookup x=some c->x∈fs):cG cl H:=fun x c e=>by
 obtain ⟨i,hi⟩:=N7 (hf x c e)
 obtain ⟨c',o,u,v,h1,h2,h3,_⟩:=r.get hi
 rw[e] at h1;cases h1
 exact ⟨o,_,h2.1,h3⟩
theorem AK {pa:OU}{ps:List Str} (hp:LPa pa ps) {name q:Str}{be:MJ}{sc:M0}{cl:List (Str×MN)}{pm cdv ctv:Value}{us:List Value} (hl:us.length=ps.length):QY (PySem.W.kla_fn name q pa be sc cl pm cdv ctv) ⟨us,[]⟩=pure (ps.zip us):=by
 cases hp with
 | one=>match us,hl with | [_],_=>rfl
 | two=>match us,hl with | [_,_],_=>rfl
theorem Ei {pa:OU}{ps:List Str} (hp:LPa pa ps) (nd:ps.Nodup) {us:List Value} (hl:us.length=ps.length) {i:Nat}{x:Str} (e:ps[i]?=some x):∃ u,us[i]?=some u/\(ps.zip us).reverse.lookup x=some u:=by
 cases hp with
 | one =>
  match us,hl,i,e with
  | [u],_,0,e=>simp at e;subst e;exact ⟨u,rfl,by simp⟩
  | [u],_,i+1,e=>simp at e
 | two =>
  match us,hl,i,e with
  | [u,v],_,0,e =>
   simp at e;subst e
   simp at nd
   exact ⟨u,rfl,by simp[Of,beq_false_of_ne nd]⟩
  | [u,v],_,1,e=>simp at e;subst e;exact ⟨v,rfl,by simp⟩
  | [u,v],_,i+2,e=>simp at e
end BS
end
section
namespace BS
open PySem PySem.Spec PyProof.Rows L2
structure LF (ps fs:List Str) (sc:M0):Prop where
 kd:sc.kind=.function
 co:sc.isCoroutine=false
 ge:sc.isGenerator=false
 cell:∀ y∈sc.names,y.2≠.cell
 loc:∀ x∈ps,sc.names.lookup x=some .local
 fre:∀ x∈fs,sc.names.lookup x=some .free/\(x,NG)∈sc.names
 all:∀ y∈sc.names,y.2=.free->y.1∈fs
 nd:(ps++fs).Nodup
theorem kj:∀ {l:List Str},gT l=true->l.Nodup
 | [],_=>QL
 | x :: r,h=>by
  simp only[gT,ML,Ol] at h
  refine List.nodup_cons.mpr ⟨fun z=>?_,kj h.2⟩
  have:=h.1
  simp[z] at this
theorem Lm {ps fs:List Str}{sc:M0} (h:oY ps fs sc=true):LF ps fs sc:=by
 simp only[oY,ML,Ol] at h
 obtain ⟨⟨⟨⟨⟨⟨⟨h1,h2⟩,h3⟩,h4⟩,h5⟩,h6⟩,h7⟩,h8⟩:=h
 rw[NX] at h4 h5 h6 h7
 refine ⟨eq_of_beq h1,h2,h3,fun y hy e=>?_,fun x hx=>eq_of_beq (h5 x hx),fun x hx=>?_,fun y hy e=>?_,kj h8⟩
 ·have:=h4 y hy;rw[e] at this;cases this
 ·have:=h6 x hx
  simp only[ML] at this
  exact ⟨eq_of_beq this.1,by simpa using this.2⟩
 ·have:=h7 y hy
  rw[e] at this
  simpa using this
noncomputable def xE (P:MP) (w:M7) (K:MI) (mg:Str->Option Value) (base:Heap) (N:List Str) (q:Str) (sc:M0) (cl:List (Str×MN)) (f c':MN) (A:Nn) (outer:List Env) (s:MK) (H:Hp):Cx where
 prog:=P
 w:=w
 K:=K
 mg:=mg
 base:=base
 A:=A.deeper (OV q sc s.heap.objs.size f (.ref c') cl)
 N:=N
 s₀:=s
 H₀:=hid cl H
 env:=OV q sc s.heap.objs.size f (.ref c') cl
 outer:=outer
 stack:=OV q sc s.heap.objs.size f (.ref c') cl :: outer
 ex:=[]
 calm:=true
 fn:=fun _=>false
 pn:=[]
 xe:=fun _ _=>False
theorem AL {P:MP}{w:M7}{cl:List (Str×MN)}{H:Hp}{h h1:Heap} (C:cG cl H) (ok:HOk P w H h) (k:∀ b o,h.get? b=some o->h1.get? b=some o):HOk P w (hid cl H) h1:=fun b u e=>by
 obtain ⟨e1,_⟩:=Ef e
 exact (ok b u e1).stay (fun c o _ q=>k c o q) (fun c q=>C.hid q rfl) fun c xs q=>C.hid q rfl
theorem AM {P:MP}{w:M7}{K:MI}{mg:Str->Option Value}{base:Heap}{A:Nn}{outer:List Env}{s:MK}{H:Hp}{f c':MN}{us:List Value}{vs cvs:List V}{m:List MN}{ps fs:List Str}{pa:OU}{sc:M0}{cl:List (Str×MN)}{q:Str}{h1:Heap}{tk:Nat}
 (hp:LPa pa ps) (F:LF ps fs sc) (inj:∀ x y c,cl.lookup x=some c->cl.lookup y=some c->x=y) (hfs:∀ x c,cl.lookup x=some c->x∈fs) (cp:fX m H cl fs cvs) (hd:A.handled=none) (e0:ju P w K mg base A outer s H) (r:ao vs us) (hl:us.length=ps.length)
 (hns:h1.Ns s.heap.objs.size (fun y=>(ps.zip us).reverse.lookup y)) (hk1:∀ b o,s.heap.get? b=some o->h1.get? b=some o) :
 Inv (xE P w K mg base (ps++fs) q sc cl f c' A outer s H) [] (vs.map some++cvs.map some) (hid cl H) { s with heap:=h1,toks:=tk }:=by
 have C:=cp.cells hfs
 have lv:vs.length=ps.length:=r.length.trans hl
 have lc:=cp.len
 have noA:∀ b:MN,b∉(xE P w K mg base (ps++fs) q sc cl f c' A outer s H).ex:=fun b z=>absurd (show b∈([]:List MN) from z) (by simp)
 have cel:∀ x c,cl.lookup x=some c->∃ u,s.heap.IsCell c (some u):=fun x c e=>by
  obtain ⟨i,hi⟩:=N7 (hfs x c e)
  obtain ⟨c2,o,u,v,g1,g2,g3,_⟩:=cp.get hi
  rw[e] at g1;cases g1
  exact ⟨u,o,(e0.hok _ _ g2.1).1,g3⟩
 refine ⟨⟨e0.mod,F.kd,rfl,rfl,MR _,inj,fun x hx=>?_,fun x c z=>absurd (show false=true from z) (by decide),fun _=>hd,Px e0.frames,.inr ⟨rfl,rfl⟩,fun b z=>absurd z (noA b),fun b o e=>⟨(e0.bs b o e).1,fz (e0.bs b o e).2⟩,e0.bsz,fun b _ _=>noA b,fun b z=>absurd z (noA b),e0.e9,fun b hb=>fz (e0.frf b hb)⟩,
  rfl,e0.bare,Un.kept hk1,⟨_,hns,fun i x v g1 g2 g3=>?_⟩,fun x c e=>?_,fz (e0.hok.fresh (MR _)),fun x c e=>xA e,fun p hp=>absurd (show p∈([]:List (MN×Obj)) from hp) (by simp),AL C e0.hok hk1,?_⟩
 ·have hx:sc.names.lookup x=some .cell\/sc.names.lookup x=some .free:=hx
  rcases hx with hx | hx
  ·exact absurd rfl (F.cell _ (NS hx))
  ·obtain ⟨i,hi⟩:=N7 (F.all _ (NS hx) rfl)
   obtain ⟨c,_,_,_,g1,_⟩:=cp.get hi
   exact ⟨c,g1⟩
 ·have g1:(ps++fs)[i]?=some x:=g1
  by_cases c:i < ps.length
  ·rw[MO c] at g1
   rw[MO (by simpa [lv] using c),Na] at g2
   obtain ⟨u,g4,g5⟩:=Ei hp (F.nd.sublist (List.sublist_append_left _ _)) hl g1
   obtain ⟨v',g6,g7⟩:=Option.map_eq_some_iff.mp g2
   cases g7
   obtain ⟨u',g8,rv⟩:=r.get g6
   rw[g4] at g8;cases g8
   exact ⟨u,rv,.inl ⟨F.loc x (MZ g1),g5⟩⟩
  ·rw[M6 (by omega)] at g1
   rw[M6 (by simp[lv];omega),Na] at g2
   simp only[NO,lv] at g2
   obtain ⟨c2,o,u,v2,k1,k2,k3,k4,k5⟩:=cp.get g1
   rw[k4] at g2
   cases g2
   exact ⟨u,k5,.inr ⟨.inr (F.fre x (MZ g1)).1,c2,k1,o,hk1 _ _ (e0.hok _ _ k2.1).1,k3⟩⟩
 ·obtain ⟨u,o,z1,z2⟩:=cel x c e
  exact ⟨some u,o,hk1 _ _ z1,z2⟩
 ·show _=(ps++fs).length
  simp[lv,lc]
section
variable {F:FT}{G:Str->Option BT.W}
end
end BS
end
section
namespace BS
open PySem PySem.Spec PyProof.Rows L2
noncomputable def uL (x C:MN) (h:Heap):Prop:=∃ o,h.get? x=some o/\o.cls=.ref C
section
open PySem.W PySem.Calls PySem.Builtin PySem.Builtin.ObjectAttr PySem.Builtin.Getset_descriptor
variable {prog:MP}{w:M7}{A:Nn}{E:Value->MK->Prop}{s:MK}{K:MI}{x C:MN}
theorem uL.look {M:Model}{h:Heap} (I:uL x C h):Looks M h (typeOf (.ref x)) (.ref C):=by
 obtain ⟨o,e,c⟩:=I
 exact c ▸ (Looks.ld e).andThen .now
theorem Ej {tp:Value}{R:Result->MK->Prop} (X:K.In s.heap) (I:uL x C s.heap) (hm:mroIn K C (.type "object")=some true) (h:R (.ok (.ret (.ref C))) s):codeAny (M3 prog w) A (.call (.builtin "getset_descriptor.__get__") ⟨[.builtin "object.__class__",.ref x,tp],[]⟩) R s:=by
 obtain ⟨hp,g0,dr,tk0,os0⟩:=s
 have l0:=I.look (M:=M3 prog w)
 have l1:=looks_mroIn (M:=M3 prog w) X hm
 refine codeAny_call_builtin KF.slot_gs.plain KF.entry_gs (KF.slot_gs.check _ _ _ _ _ _ _ _ KF.type_class (KF.args_gs _ _ _) ?_)
 (unfold Builtin.«getset_descriptor.__get__» descrGet;rw[dga_obj])
 refine wpAny_bind (wpAny_pure ?_)
 (unfold descrGetter descrCheckInstance descrNameAndClass isInstance;simp only[KF.owner_class])
 repeat lk
 refine ⟨Code.quiet_builtin _ (by decide +kernel),codeAny_builtin KF.entry_class ?_⟩
 (unfold Builtin.«object.__class__» shownTypeOf;repeat lk)
 exact h
theorem AN {M:Model}{h:Heap}{nm:Str}{a g:Value} (X:K.In h) (h1:findIn K (.ref C) nm=some (some a)) (h2:specialIn K a "__get__"=some (some g)) (h3:takesIn K a=some true):Looks M h (find (.ref x) (.ref C) nm) (.bind g a):=by
 have l1:=looks_findIn (M:=M) X h1
 have l2:Looks M h (getOf (some a)) (some g):=looks_specialIn X h2
 have l3:Looks M h (dataDescriptor? (some a) (some g)) (some (g,a)):=(looks_takesIn (M:=M) X h3).andThen .now
 exact l1.andThen (l2.andThen (l3.andThen (Looks.tag .now)))
theorem HD {R:Result->MK->Prop}{tk:Tok} (X:K.In s.heap) (I:uL x C s.heap) (c:Str) (xt:XT K c C) (h:R (.ok (.ret (.ref C))) s) :
 codeAny (M3 prog w) A (.call (.builtin "BaseException.__getattribute__") ⟨[.ref x,.str "__class__" tk],[]⟩) R s:=by
 have l4:=looks_mroIn (M:=M3 prog w) X xt.mrb
 have l0:=I.look (M:=M3 prog w)
 have l2:=AN (M:=M3 prog w) (x:=x) X xt.fnd xt.spc xt.tak
 obtain ⟨hp,g0,dr,tk0,os0⟩:=s
 have hk:builtinKind "BaseException.__getattribute__"=some .slot:=by decide +kernel
 have hsplit:splitId "BaseException.__getattribute__"=some ("BaseException","__getattribute__"):=by decide +kernel
 have ha:=PySem.F.args_bexc_ga (.ref x) (.str "__class__" tk)
 refine codeAny_call_builtin PySem.F.attrBase_ValueError.ga.plain PySem.F.entry_bexc_ga ?_
 simp only[checkBuiltinCall,hk,hsplit]
 refine wpAny_bind ?_
 unfold isInstance
 repeat lk
 refine wpAny_run (A:=A.in1) (h:=none) (c:=.call (.builtin "getset_descriptor.__get__") ⟨[.builtin "object.__class__",.ref x,.ref C],[]⟩) (Ej (s:=⟨hp,g0,dr,tk0,os0⟩) X I xt.mro ?_)
 exact wpAny_pure (wpAny_pure h)
theorem AO {Q:Option Value->MK->Prop} (X:K.In s.heap) (I:uL x C s.heap) (c:Str) (xt:XT K c C) (h:Q (some (.ref C)) { s with toks:=s.toks+1 }):wpAny (M3 prog w) A (getAttr? (.ref x) "__class__") Q E s:=by
 obtain ⟨hp,g0,dr,tk0,os0⟩:=s
 have l0:=I.look (M:=M3 prog w)
 have l1:=looks_findIn (M:=M3 prog w) X xt.ga
 have l3:=looks_findIn (M:=M3 prog w) X xt.nga
 have f3:=PySem.F.attrBase_ValueError.ga.bind (.ref x)
 have hx2:(OP "BaseException.__getattribute__"==OP "object.__getattribute__")=false:=by decide +kernel
 have hx1:(onTheHeap (NK C)&&OP "BaseException.__getattribute__"==OP "object.__getattribute__")=false:=by rw[hx2];rfl
 (unfold getAttr? getAttrBy? getAttrBy)
 refine wpAny_bind (wpAny_mkText (wpAny_bind (wpAny_attempt (Oo (wpAny_bind (l0.at (wpAny_bind (l1.at ?_))))))))
 show wpAny _ _ (if (onTheHeap (NK C)&&OP "BaseException.__getattribute__"==OP "object.__getattribute__")=true then _ else getAttrByItsOwn (.ref x) (.str "__class__" tk0) (.ref C) (.builtin "BaseException.__getattribute__") false false) _ _ (⟨hp,g0,dr,tk0+1,os0⟩:MK)
 rw[if_neg (by rw[hx1];exact NZ)]
 unfold getAttrByItsOwn
 refine wpAny_bind (l3.at ?_)
 refine wpAny_bind (wpAny_attempt (Oo ?_))
 show wpAny _ _ (boundAndCalled (.builtin "BaseException.__getattribute__") (.ref x) (.str "__class__" tk0)) _ _ _
 unfold boundAndCalled
 rw[f3]
 refine wpAny_bind (wpAny_pure ?_)
 show wpAny _ _ (call (.builtin "BaseException.__getattribute__") [.ref x,.str "__class__" tk0]) _ _ _
 refine wpAny_mono (RB (HD (s:=⟨hp,g0,dr,tk0+1,os0⟩) (R:=wants (fun v s'=>v=.ref C/\s'=(⟨hp,g0,dr,tk0+1,os0⟩:MK)) fun _ _=>False) X I c xt ⟨rfl,rfl⟩)) (fun v s' z=>?_) fun _ _ z=>z.elim
 obtain ⟨rfl,rfl⟩:=z
 exact handed_on rfl (wpAny_pure h)
theorem xF (c:Str) (xt:XT K c C):KitX K (.ref x) (.ref C) (uL x C) where
 ty:=fun _ _ _ I=>I.look
 it:=fun M h X I=>by
  obtain ⟨cd,hc,_⟩:=any_some xt.dct
  unfold clsIn at hc
  split at hc
  ·rename_i ho
   exact fun A' Q' E' s' k q=>by
    unfold isType loadHead
    exact wpAny_bind (wpAny_loadPart (k _ _ (X _ _ ho)) (wpAny_pure q))
  ·cases hc
 ne:=fun h tp dd its n sl X htp=>by
  obtain ⟨cd,hc,_⟩:=any_some xt.dct
  refine Bool.eq_false_iff.mpr fun q=>?_
  have e:=Value.ref.inj (beq_iff_eq.mp q)
  subst e
  unfold clsIn at hc
  split at hc
  ·rename_i ho
   exact nomatch (X _ _ ho).symm.trans htp
  ·cases hc
 ca:=fun X I k=>AO X I c xt k
end
theorem xG {X:Cx}{pins:List (MN×Obj)}{σ:L2.St}{H:Hp}{s:MK}{a:MN}{c:Str}{cv:Value}{b:Bool}{E:Value->MK->Prop}{Q:Value->MK->Prop} (I:Inv X pins σ H s) (h1:H a=some (.ext (excAt X.K c a)))
 (hk:∀ C,XT X.K c C->NQ X.K (.ref C) cv=some b) (q:∀ tk,Q (.bool b) { s with toks:=tk }):wpAny (M3 X.prog X.w) X.A (call (.builtin "isinstance") [.ref a,cv]) Q E s:=by
 obtain ⟨⟨o,C,_,xt,e1,e2⟩,_,_⟩:=I.hok a _ h1
 exact Og (xF c xt) I.kIn ⟨o,e1,e2⟩ (hk C xt) (by intro z;cases z) q
section
variable {F:FT}{G:Str->Option BT.W}
theorem AQ {X:Cx}{sc:M0}{N:List Str} (O:Ok X F G sc N) {cn:Str}{a:BT.E}{e:MJ}{p p2 pos:Pos} (hx:wM cn=true) (hn:aH cn=true) (hg:aT sc "isinstance"=true) (hg2:aT sc cn=true) (hst:noStar e=true) (ha:PE X e (tD X F G a)) :
 PE X (.Call (.Name "isinstance" p) [e,.Name cn p2] [] pos) (tD X F G (.isx cn a)):=by
 have hB:=O.blt
 have key:∀ {σ:L2.St}{H:Hp}{Q:VK},tD X F G (.isx cn a) σ H Q->tD X F G a σ H fun v H1=>∃ ad c,v=.ref ad/\H1 ad=some (.ext (excAt X.K c ad))/\(∃ C,XT X.K c C)/\Q (.bl (BT.j6 c cn)) H1:=fun {σ H Q} q=>by
  obtain ⟨m,s,h,z,h',R,S,ee,post⟩:=q
  simp only[BT.ev] at ee
  obtain ⟨x,h1,e1,e2⟩:=aj ee
  refine ⟨m,s,h,x,h1,R,S,e1,fun v H1 m1 x1 R1 r1=>?_⟩
  cases x with
  | x c =>
   cases r1 with
   | x q1 q2 xt =>
    cases e2
    exact ⟨_,c,rfl,q1,xt,post _ H1 m1 x1 R1 (.p (.bl _))⟩
  | p _=>exact ai e2
  | r _=>exact ai e2
  | k _=>exact ai e2
  | o _=>exact ai e2
  | c _ _=>exact ai e2
 by_cases hv:cn="ValueError"
 ·subst hv
  have hc:PE X (.Name "ValueError" p2) (tC (.ty "ValueError")):=gu (aY O hg2) (hB _ (by decide)) (u:=.type "ValueError") (by decide +kernel) rfl (by decide) (by decide)
  have call:cA X (.builtin "isinstance") (fun vs H Q=>∃ ad c,vs=[.ref ad,.ty "ValueError"]/\H ad=some (.ext (excAt X.K c ad))/\Q (.bl (BT.j6 c "ValueError")) H):=by
   intro pins s σ H vs us Q I rus h
   obtain ⟨ad,c,rfl,q1,q⟩:=h
   obtain ⟨u,u2,rfl,ru,ru2⟩:=rus.two
   cases ru
   cases ru2
   exact xG I q1 (fun C xt=>xt.val) fun tk=>⟨.bl _,H,I.tok tk,rfl,by
    have:BT.j6 c "ValueError"=true:=by unfold BT.j6;simp
    rw[← this];exact q⟩
  refine PE.weak (dO call (aY O hg) (hB _ (by decide)) (by decide +kernel) (cu ha (cu hc fT) (ak hst)) (by decide) (by decide) (ak hst) rfl) fun σ H Q q=>?_
  obtain ⟨m,s,h,z,h',R,S,ee,post⟩:=key q
  refine ⟨m,s,h,z,h',R,S,ee,fun v H1 m1 x1 R1 r1=>?_⟩
  obtain ⟨ad,c,rfl,q1,_,q3⟩:=post v H1 m1 x1 R1 r1
  exact ⟨ad,c,rfl,q1,q3⟩
 ·have hx':eB cn=true:=by
   unfold wM at hx
   rw[Oa] at hx
   exact hx.resolve_right fun z=>hv (eq_of_beq z)
  have dbg:(cn==("__debug__":Str))=false:=by
   unfold aH at hn
   simp only[ML] at hn
   simpa using hn.1.1
  have hc:PE X (.Name cn p2) (fun σ H Q=>∃ D,X.mg cn=some (.ref D)/\Q (.ref D) H):=fun pins s σ H Q I ⟨D,hm,q⟩=>mL (v:=.ref D) (aY O hg2) hm rfl dbg pins s σ H Q I q
  have call:cA X (.builtin "isinstance") (fun vs H Q=>∃ ad c D,vs=[.ref ad,.ref D]/\CN X.K cn D/\H ad=some (.ext (excAt X.K c ad))/\Q (.bl (BT.j6 c cn)) H):=by
   intro pins s σ H vs us Q I rus h
   obtain ⟨ad,c,D,rfl,hD,q1,q⟩:=h
   obtain ⟨u,u2,rfl,ru,ru2⟩:=rus.two
   cases ru
   cases ru2
   refine xG I q1 (fun C xt=>?_) fun tk=>⟨.bl _,H,I.tok tk,rfl,q⟩
   obtain ⟨D',h1,h2⟩:=xt.own cn hx'
   rw[hD.inj h1];exact h2
  have K2:PE X (.Call (.Name "isinstance" p) [e,.Name cn p2] [] pos) _:=dO call (aY O hg) (hB _ (by decide)) (by decide +kernel) (cu ha (cu hc fT) (ak hst)) (by decide) (by decide) (ak hst) rfl
  intro pins s0 σ H Q I q
  refine K2 pins s0 σ H Q I ?_
  obtain ⟨m,s,h,z,h',R,S,ee,post⟩:=key q
  refine ⟨m,s,h,z,h',R,S,ee,fun v H1 m1 x1 R1 r1=>?_⟩
  obtain ⟨ad,c,rfl,q1,⟨C,xt⟩,q3⟩:=post v H1 m1 x1 R1 r1
  obtain ⟨D,hD,_⟩:=xt.own cn hx'
  exact ⟨D,NC I.mod.kin I.mod.glob hD,ad,c,D,rfl,hD,q1,q3⟩
end
end BS
end
section
namespace BS
open PySem PySem.Spec PyProof.Rows L2
section
variable {X:Cx}
theorem uM (hu:X.A.units+150 < Rp):MtR X "list.index" (fun v vs H Q=>(∃ m h x ws z h',RH X.K m H h/\RW X.prog X.w X.K m H v x/\RWs X.prog X.w X.K m H vs ws/\BT.meW .lindex x ws h=some (z,h')/\Post X.prog X.w X.K m H z h' Q)):=by
 intro pins s σ H v vs v' us Q I rv rus h
 obtain ⟨m,h,x,ws,z,h',R,rx,rws,e,post⟩:=h
 cases x with
 | r n=>cases ws with
  | nil=>(first | (cases e;done) | simp[BT.meW] at e)
  | cons _ _=>(first | (cases e;done) | simp[BT.meW] at e)
 | k kvs=>(first | (cases e;done) | simp[BT.meW] at e)
 | c _ _=>(first | (cases e;done) | simp[BT.meW] at e)
 | x _=>(first | (cases e;done) | simp[BT.meW] at e)
 | o kvs=>(first | (cases e;done) | simp[BT.meW] at e)
 | p d =>
  rw[BT.qu] at e
  cases g:BT.aJ ws with
  | none=>rw[g] at e;cases e
  | some ds =>
   rw[g] at e
   obtain ⟨b,e1,e2⟩:=az e
   cases e2
   have rds:=rws.pure g
   cases d<;>first | exact ai e1 | skip
   rename_i xs
   cases ds with
   | nil=>exact ai e1
   | cons d0 dr =>
    cases dr with
    | cons _ _=>exact ai e1
    | nil =>
     rw[BT.vZ] at e1
     split at e1
     ·rename_i c
      obtain ⟨j,e3,e4⟩:=az e1
      subst e4
      obtain ⟨i,rfl,hi,h1,h2⟩:=gW e3
      cases rds with
      | cons r0 rn =>
       cases rn
       obtain ⟨u,rfl,ru⟩:=rus.one
       cases rx with
       | p rx =>
        obtain ⟨a,vt,rfl,ha,ra⟩:=RR.lst (.d rx)
        cases rv
        obtain ⟨zz,its,n,q1,_,ho⟩:=rdL I ha
        have sl:sizeLine=16777216:=sizeLine_eq
        have hl:=q1.length
        have hl2:=ra.length
        have hi':i < its.toArray.size:=by rw[MM];omega
        refine Oq F.slot_list_index ⟨_,ho,rfl⟩ F.entry_list_index (F.args_list_index_2 _ _)
         (SeqAt.list_indexAt a its.toArray n none #[] u (bY s.heap (pd d0)) i hi' (by omega) ?_ ?_) ⟨ho,?_,?_⟩
        ·rw[show its.toArray[i]=its[i]'(by omega) by simp,gB I ra q1 i (by omega) hi];exact h1
        ·intro k hk hlt
         have hk':k < its.length:=by simpa using hk
         rw[show its.toArray[k]=its[k]'hk' by simp,gB I ra q1 k hk' (by omega)];exact h2 k (by omega) hlt
        ·intro y hy
         exact eH hu I (.d r0) ru ra q1 c y (by simpa using hy)
        ·refine ⟨.int (((0+i:Nat):Nat):Int),H,I.tok _,⟨s.toks,?_⟩,post.here R (.int _)⟩
         simp
     ·cases e1
theorem xH (hu:X.A.units+150 < Rp):MtR X "list.count" (fun v vs H Q=>(∃ m h x ws z h',RH X.K m H h/\RW X.prog X.w X.K m H v x/\RWs X.prog X.w X.K m H vs ws/\BT.meW .count x ws h=some (z,h')/\Post X.prog X.w X.K m H z h' Q)):=by
 intro pins s σ H v vs v' us Q I rv rus h
 obtain ⟨m,h,x,ws,z,h',R,rx,rws,e,post⟩:=h
 cases x with
 | r n=>cases ws with
  | nil=>(first | (cases e;done) | simp[BT.meW] at e)
  | cons _ _=>(first | (cases e;done) | simp[BT.meW] at e)
 | k kvs=>(first | (cases e;done) | simp[BT.meW] at e)
 | c _ _=>(first | (cases e;done) | simp[BT.meW] at e)
 | x _=>(first | (cases e;done) | simp[BT.meW] at e)
 | o kvs=>(first | (cases e;done) | simp[BT.meW] at e)
 | p d =>
  rw[BT.uz] at e
  cases g:BT.aJ ws with
  | none=>rw[g] at e;cases e
  | some ds =>
   rw[g] at e
   obtain ⟨b,e1,e2⟩:=az e
   cases e2
   have rds:=rws.pure g
   cases d<;>first | exact ai e1 | skip
   rename_i xs
   cases ds with
   | nil=>exact ai e1
   | cons d0 dr =>
    cases dr with
    | cons _ _=>exact ai e1
    | nil =>
     rw[BT.vY] at e1
     split at e1
     ·rename_i c
      cases e1
      cases rds with
      | cons r0 rn =>
       cases rn
       obtain ⟨u,rfl,ru⟩:=rus.one
       cases rx with
       | p rx =>
        obtain ⟨a,vt,rfl,ha,ra⟩:=RR.lst (.d rx)
        cases rv
        obtain ⟨zz,its,n,q1,_,ho⟩:=rdL I ha
        have hl:=q1.length
        have hl2:=ra.length
        have ec:its.countP (bY s.heap (pd d0))=xs.countP fun y=>BT.eqv y d0:=by
         have key:its.map (bY s.heap (pd d0))=xs.map fun y=>BT.eqv y d0:=by
          refine List.ext_getElem (by rw[NO,NO];omega) fun i h1 h2=>?_
          rw[NO] at h1 h2
          rw[List.getElem_map,List.getElem_map]
          exact gB I ra q1 i h1 h2
         have cm:∀ {α:Type} (f:α->Bool) (l:List α),l.countP f=(l.map f).countP id:=fun f l=>by rw[List.countP_map];rfl
         rw[cm,cm (fun y=>BT.eqv y d0),key]
        refine Oq F.slot_list_count ⟨_,ho,rfl⟩ F.entry_list_count (F.args_list_count_2 _ _) (SeqAt.list_countAt a its.toArray n none #[] u (bY s.heap (pd d0))) ⟨ho,?_,?_⟩
        ·intro y hy
         exact eH hu I (.d r0) ru ra q1 c y (by simpa using hy)
        ·refine ⟨.int ((xs.countP fun y=>BT.eqv y d0:Nat):Int),H,I.tok _,⟨s.toks,?_⟩,post.here R (.int _)⟩
         rw[← ec]
     ·cases e1
end
end BS
end
section
namespace BS
open PySem PySem.Spec PyProof.Rows L2
structure uN (K:MI) (J:It) (m0:List MN) (H0:Hp) (ds:List BT.D):Prop where
 go:∀ m H (i:Nat),Ext m0 H0 m H->i < ds.length->J.go i H
 yld:∀ m H h (i:Nat) x H' d,Ext m0 H0 m H->RH K m H h->ds[i]?=some d->J.yld i H x H'->Ext m H m H'/\Le H H'/\RD K m H' x d
 stop:∀ m H,Ext m0 H0 m H->J.stop ds.length H
noncomputable def Itv (K:MI) (a:MN) (n:Nat):It :=
 ⟨fun i H=>i < n/\∃ xs,SqL K H a xs/\xs.length=n,fun i H x H'=>H'=H/\∀ xs,SqL K H a xs->xs[n - 1 - i]?=some x,fun i H=>i=n⟩
theorem xJ {P:MP}{w:M7}{K:MI}{tg:MJ} (a it:MN) (n:Nat):Turn P w K tg (Itv K a n) [it] it (fun i h=>h.IsRevIter it a ((n:Int) - 1 - i)) where
 mem:=by simp
 obj:=fun i h st b hb=>by
  have e:b=it:=by simpa using hb
  subst e
  obtain ⟨o,e,c,d⟩:=st
  exact ⟨o,e,fun v z=>by rw[d] at z;cases z⟩
 keep:=fun i h h' st k=>st.at fun o e=>k it (by simp) o e
 item:=by
  intro X hP hw hK hc i pins s σ H E I hf st hg
  subst hP hw hK
  obtain ⟨hi,xs,hq,hx⟩:=hg
  obtain ⟨its,rv,p,hz⟩:=I.list hq
  have hl:=rv.length
  have hj:n - 1 - i < xs.length:=by omega
  obtain ⟨u,hu,ru⟩:=rv.get (MT hj)
  obtain ⟨f0,f1,f2,f3,f4,f5⟩:=hf it (by simp)
  have ei:((n:Int) - 1 - (i:Int))=(((n - 1 - i:Nat)):Int):=by omega
  have st':s.heap.IsRevIter it a (((n - 1 - i:Nat)):Int):=by rw[← ei];exact st
  refine wpAny_pyNext_rev_item st' p.isList (x:=u) (by simpa using hu) fun h' st'' sb=>?_
  have I1:Inv X pins σ H { s with heap:=h' }:=I.turned (t':=s.toks) (fun b o hb e=>(sb.2 b hb).trans e) f0 f1 f3 f4 f5
  obtain ⟨o,e,c,d⟩:=id st''
  refine ⟨u,rfl,rj (s:={ s with heap:=h' }) e c d (by decide) ⟨_,H,I1,ru,⟨rfl,fun ys hy=>by rw[I.om hy hq];exact MT hj⟩,?_,fun b hb=>(hf b hb).1⟩⟩
  have e2:(((n - 1 - i:Nat)):Int) - 1=(n:Int) - 1 - ((i+1:Nat):Int):=by omega
  rw[e2] at st''
  exact st''
 done:=by
  intro X hP hw hK hc i pins s σ H E I hf st hg
  subst hP hw hK
  have hg:i=n:=hg
  subst hg
  obtain ⟨f0,f1,f2,f3,f4,f5⟩:=hf it (by simp)
  have e1:(i:Int) - 1 - (i:Int)=-1:=by omega
  have st':s.heap.IsRevIter it a (-1):=by rw[← e1];exact st
  exact wpAny_pyNext_rev_end (I.ok.hd hc) st' fun h' eb=>⟨rfl,I.turned (t':=s.toks) (fun b o hb e=>eb b o hb e) f0 f1 f3 f4 f5⟩
 self:=fun _ _ _ _ _ st h=>wpAny_pyIter_revIter st h
noncomputable def iD (X:Cx) (F:FT) (G:Str->Option BT.W) (sr:BT.Sr) (sa:BT.Es):TI:=fun σ H R =>
 ∃ m s h ws h' ds,RH X.K m H h/\RS X.prog X.w X.K m H σ s/\BT.evs F G sa s h=some (ws,h')/\(BT.rds ws h').bind (BT.gF sr)=some ds/\BT.jw ws=true ∧
  ∀ H' m' J,Ext m H m' H'->RH X.K m' H' h'->uN X.K J m' H' ds->R J H'
theorem PI.weak {X:Cx}{tg e:MJ}{t t':TI} (h:PI X tg e t) (q:∀ σ H R,t' σ H R->t σ H R):PI X tg e t':=fun pins s σ H R I hw=>h pins s σ H R I (q _ _ _ hw)
section
variable {F:FT}{G:Str->Option BT.W}
theorem AR {K:MI}{m0:List MN}{H0:Hp}{a:MN}{vs:List V}{ds:List BT.D} (h:(Rd H0 a (.lst vs)/\a∉m0)\/KL K a vs) (r:RDs K m0 H0 vs ds):uN K (Itl K a) m0 H0 ds:=by
 have k:∀ {m H},Ext m0 H0 m H->SqL K H a vs:=fun x=>LL.sq (h.elim (fun q=>.inl (Rd.ext x q.1 q.2).1) .inr)
 refine ⟨fun m H i x hi=>?_,fun m H hh i v H' d x RR hd y=>?_,fun m H x=>⟨vs,k x,by rw[r.length];exact MR _⟩⟩
 ·exact ⟨vs,_,k x,MT (by rw[r.length];exact hi)⟩
 ·obtain ⟨rfl,y⟩:=y
  obtain ⟨u,h1,h2⟩:=(r.ext x).get hd
  have:=y vs (k x)
  rw[h1] at this
  cases this
  exact ⟨.refl _ _,fun _ _ e=>e,h2⟩
theorem Ek {K:MI}{m0:List MN}{H0:Hp}{a:MN}{vs:List V}{ds:List BT.D} (h:(Rd H0 a (.tup vs)/\a∉m0)\/KT K a vs) (r:RDs K m0 H0 vs ds):uN K (Itt K a) m0 H0 ds:=by
 have k:∀ {m H},Ext m0 H0 m H->SqT K H a vs:=fun x=>h.elim (fun q=>.inl (Rd.ext x q.1 q.2).1) fun ⟨o,its,n,q,_⟩=>.inr ⟨o,its,n,q⟩
 refine ⟨fun m H i x hi=>?_,fun m H hh i v H' d x RR hd y=>?_,fun m H x=>⟨vs,k x,by rw[r.length];exact MR _⟩⟩
 ·exact ⟨vs,_,k x,MT (by rw[r.length];exact hi)⟩
 ·obtain ⟨rfl,y⟩:=y
  obtain ⟨u,h1,h2⟩:=(r.ext x).get hd
  have:=y vs (k x)
  rw[h1] at this
  cases this
  exact ⟨.refl _ _,fun _ _ e=>e,h2⟩
theorem El {K:MI}{m0:List MN}{H0:Hp}{a:MN}{vs:List V}{ds:List BT.D} (h:(Rd H0 a (.lst vs)/\a∉m0)\/KL K a vs) (r:RDs K m0 H0 vs ds):uN K (Itv K a ds.length) m0 H0 ds.reverse:=by
 have k:∀ {m H},Ext m0 H0 m H->SqL K H a vs:=fun x=>LL.sq (h.elim (fun q=>.inl (Rd.ext x q.1 q.2).1) .inr)
 refine ⟨fun m H i x hi=>?_,fun m H hh i v H' d x RR hd y=>?_,fun m H x=>by show ds.reverse.length=ds.length;simp⟩
 ·exact ⟨by simpa using hi,vs,k x,r.length⟩
 ·obtain ⟨rfl,y⟩:=y
  have hi:i < ds.length:=by
   have:=getD_some hd
   simpa using this
  have hd':ds[ds.length - 1 - i]?=some d:=by
   rw[List.getElem?_reverse hi] at hd
   exact hd
  obtain ⟨u,h1,h2⟩:=(r.ext x).get hd'
  have:=y vs (k x)
  rw[h1] at this
  cases this
  exact ⟨.refl _ _,fun _ _ e=>e,h2⟩
theorem Em {K:MI}{m0:List MN}{H0:Hp} (lo:Int) (n:Nat):uN K (Itr lo n) m0 H0 (BT.upto lo n):=by
 have hl:(BT.upto lo n).length=n:=by simp[BT.upto]
 refine ⟨fun m H i x hi=>by rw[hl] at hi;exact hi,fun m H hh i v H' d x RR hd y=>?_,fun m H x=>by rw[hl];exact MR n⟩
 obtain ⟨rfl,rfl⟩:=y
 have:d=.int (lo+i):=by
  have hi:i < n:=by
   have:=getD_some hd
   rw[hl] at this
   exact this
  simp only[BT.upto,Na] at hd
  rw[PV hi] at hd
  simpa using hd.symm
 subst this
 exact ⟨.refl _ _,fun _ _ e=>e,.int _⟩
theorem AS:∀ {ws:List BT.W},BT.jw ws=true->∃ ds:List BT.D,ws=ds.map BT.W.p:=by
 intro ws
 induction ws with
 | nil=>exact fun _=>⟨[],rfl⟩
 | cons w ws ih =>
  intro h
  cases w with
  | p d =>
   obtain ⟨ds,rfl⟩:=ih h
   exact ⟨d :: ds,rfl⟩
  | _=>cases h
theorem En (h:BT.HH) (ds:List BT.D):BT.rds (ds.map BT.W.p) h=some ds:=by
 induction ds with
 | nil=>rfl
 | cons d ds ih =>
  show (BT.rds (ds.map BT.W.p) h).map (d :: ·)=_
  rw[ih];rfl
theorem xK {ws:List BT.W}{h:BT.HH}{sr:BT.Sr}{ds:List BT.D} (hs:sr=.seq\/sr=.rev\/sr=.rng1) (e:(BT.rds ws h).bind (BT.gF sr)=some ds) (ha:BT.jw ws=true):∃ d,ws=[.p d]/\BT.gF sr [d]=some ds:=by
 obtain ⟨xs,rfl⟩:=AS ha
 rw[En,Pb] at e
 cases xs with
 | nil=>rcases hs with rfl | rfl | rfl<;>cases e
 | cons d xs =>
  cases xs with
  | nil=>exact ⟨d,rfl,e⟩
  | cons d2 xs=>rcases hs with rfl | rfl | rfl<;>cases d<;>cases e
theorem r6 {a:BT.E}{s:BT.Sl}{h h':BT.HH}{ws:List BT.W} (e:BT.evs F G (.cons a .nil) s h=some (ws,h')):∃ w,ws=[w]/\BT.ev F G a s h=some (w,h'):=by
 simp only[BT.evs] at e
 obtain ⟨w,g,e1,e2⟩:=aj e
 simp only[BT.lX,BT.iF,BT.i9] at e2
 cases e2
 exact ⟨w,rfl,e1⟩
theorem r8 {X:Cx}{tg x:MJ}{a:BT.E} (he:PE X x (tD X F G a)):PI X tg x (iD X F G .seq (.cons a .nil)):=by
 intro pins s σ H R I q
 obtain ⟨m,s',h,ws,h',ds,RR,S,e,e2,ha,post⟩:=q
 obtain ⟨d,rfl,e3⟩:=xK (.inl rfl) e2 ha
 obtain ⟨w,ew,e4⟩:=r6 e
 cases ew
 rw[BT.v9] at e3
 cases d<;>simp only[BT.mY] at e3<;>try contradiction
 ·cases e3
  refine C5 he pins s σ H R I ⟨m,s',h,_,h',RR,S,e4,fun v H1 m1 x1 R1 r1=>?_⟩
  cases r1 with
  | p r1 =>
   cases r1 with
   | @tup a vs _ h r=>exact ⟨a,rfl,⟨vs,h.elim (fun q=>.inl q.1) fun ⟨o,its,n,q,_⟩=>.inr ⟨o,its,n,q⟩⟩,post H1 m1 _ x1 R1 (Ek h r)⟩
 ·cases e3
  refine zG he pins s σ H R I ⟨m,s',h,_,h',RR,S,e4,fun v H1 m1 x1 R1 r1=>?_⟩
  cases r1 with
  | p r1 =>
   cases r1 with
   | @lst a vs _ h r=>exact ⟨a,rfl,⟨vs,LL.sq (h.elim (fun q=>.inl q.1) .inr)⟩,post H1 m1 _ x1 R1 (AR h r)⟩
theorem o8 {X:Cx}{sc:M0}{N:List Str} (O:Ok X F G sc N) {tg e:MJ}{sa:BT.Es}{p pos:Pos} (hg:aT sc "range"=true) (hs:noStar e=true) (ha:PA X [e] (tDs X F G sa)):PI X tg (.Call (.Name "range" p) [e] [] pos) (iD X F G .rng1 sa):=by
 refine PI.weak (ue (aY O hg) (O.blt _ (by decide)) ha (ak hs)) fun σ H R q=>?_
 obtain ⟨m,s',h,ws,h',ds,RR,S,e,e2,ha,post⟩:=q
 obtain ⟨d,rfl,e3⟩:=xK (.inr (.inr rfl)) e2 ha
 refine ⟨m,s',h,_,h',RR,S,e,fun vs H1 m1 x1 R1 r1=>?_⟩
 obtain ⟨j,rfl⟩:∃ j:Int,d=.int j:=by
  cases d with
  | int j=>exact ⟨j,rfl⟩
  | _=>exact absurd (show (none:Option (List BT.D))=some _ from e3) (fun z=>nomatch z)
 rw[BT.fq] at e3
 split at e3
 ·rename_i c
  simp only[ML,decide_eq_true_eq] at c
  cases e3
  cases r1 with
  | cons r t =>
   cases t
   cases r with
   | p r =>
    cases r
    exact ⟨j,rfl,by omega,by omega,post H1 m1 _ x1 R1 (Em 0 j.toNat)⟩
 ·cases e3
theorem r9 {X:Cx}{sc:M0}{N:List Str} (O:Ok X F G sc N) {tg e:MJ}{a:BT.E}{p pos:Pos} (hg:aT sc "reversed"=true) (hs:noStar e=true) (he:PE X e (tD X F G a)):PI X tg (.Call (.Name "reversed" p) [e] [] pos) (iD X F G .rev (.cons a .nil)):=by
 intro pins s σ H R I q
 obtain ⟨m,s',h,ws,h',ds,RR,S,e,e2,ha,post⟩:=q
 obtain ⟨d,rfl,e3⟩:=xK (.inr (.inl rfl)) e2 ha
 obtain ⟨w,ew,e4⟩:=r6 e
 cases ew
 obtain ⟨xs,rfl⟩:∃ xs:List BT.D,d=.lst xs:=by
  cases d with
  | lst xs=>exact ⟨xs,rfl⟩
  | _=>exact absurd (show (none:Option (List BT.D))=some _ from e3) (fun z=>nomatch z)
 ·cases e3
  refine Call_ (jQ (u:=.type "reversed") I (aY O hg) (O.blt _ (by decide)) (by decide +kernel) (OD (thn (cu he fT (ak hs) pos pins s σ H (fun vs H1=>∃ a vt,vs=[.ref a]/\∃ m1,Ext m H m1 H1/\RH X.K m1 H1 h'/\((Rd H1 a (.lst vt)/\a∉m1)\/KL X.K a vt)/\RDs X.K m1 H1 vt xs) I ?_) fun us s1 ⟨vs,H1,I1,r1,q1⟩=>?_) (ak hs) rfl))
  ·refine ⟨m,s',h,_,h',RR,S,e4,fun v H1 m1 x1 R1 r1=>?_⟩
   cases r1 with
   | p r1 =>
    cases r1 with
    | @lst a vt _ hh r=>exact ⟨a,vt,rfl,m1,x1,R1,hh,r⟩
  ·obtain ⟨a,vt,rfl,m1,x1,R1,hh,r⟩:=q1
   obtain ⟨u,rfl,ru⟩:=vals1 r1
   cases ru
   obtain ⟨z,its,nn,rv,hl,ee⟩:=rdL I1 (hh.elim (fun q=>.inl q.1) .inr)
   have hL:s1.heap.IsList a its.toArray:=⟨_,ee,rfl,_,rfl⟩
   have hlen:=r.length
   refine call_reversed_list hL ?_
   have stt:({ s1 with heap:=s1.heap.push (revObj a ((its.toArray.size:Int) - 1)) }:MK).heap.IsRevIter s1.heap.objs.size a ((xs.length:Int) - 1 - ((0:Nat):Int)):=by
    refine ⟨_,Nk _ rfl,rfl,?_⟩
    show Data.fields #[.ref a,rawInt ((its.toArray.size:Int) - 1)]=_
    rw[MM,← hl,hlen]
    simp
   refine wpAny_pyIter_revIter stt ?_
   refine ⟨s1.heap.objs.size,[s1.heap.objs.size],_,_,H1,rfl,I1.kept (t':=s1.toks) fun b o e=>MQ _ e,xJ a _ xs.length,stt,fun b hb=>?_,post H1 m1 _ x1 R1 (El hh r)⟩
   have e:b=s1.heap.objs.size:=by simpa using hb
   subst e
   exact I1.zF (MR _) (I1.hok.fresh (MR _))
end
end BS
end
section
namespace BS
open PySem PySem.Spec PyProof.Rows L2
section
variable {P:MP}{w:M7}{K:MI}{m m':List MN}{H H':Hp}
end
section
variable {X:Cx}{F:FT}{G:Str->Option BT.W}
noncomputable def Mr:V->V->V->Hp->(Hp->Prop)->Prop:=fun o i v H Q=>∃ p kvs k,o=.ref p/\i=kV k/\H p=some (.dK kvs)/\kvs.length < sizeLine/\Q (upd H p (.dK (putK kvs k v)))
end
section
variable {prog:MP}{w:M7}{A:Nn}{E:Value->MK->Prop}{s:MK}
end
section
variable {X:Cx}{F:FT}{G:Str->Option BT.W}
end
end BS
end
section
namespace BS
open PySem PySem.Spec PyProof.Rows L2
section
variable {F:FT}{G:Str->Option BT.W}
end
end BS
end
section
namespace BX
open PySem PyProof.Rows
section
variable {prog:MP}{w:M7}{A:Nn}{E:Value->MK->Prop}{s:MK}{R:Result->MK->Prop}
end
section
variable {prog:MP}{w:M7}{A:Nn}{E:Value->MK->Prop}{s:MK}
end
end BX
namespace BS
open PySem PySem.Spec PyProof.Rows L2
section
variable {F:FT}{G:Str->Option BT.W}
end
end BS
end
section
namespace BS
open PySem PySem.Spec PyProof.Rows L2
noncomputable def ko (sc:M0) (x:Str):Bool:=match sc.names.lookup x with
 | some .local=>true
 | some .cell=>true
 | _=>false
inductive CT (sc:M0) (N:List Str):List (Nat×Str)->MJ->Prop where
 | one {i:Nat}{x:Str}{p:Pos} (h1:N[i]?=some x) (h2:ko sc x=true):CT sc N [(i,x)] (.Name x p)
 | two {i j:Nat}{x y:Str}{p p1 p2:Pos}{k:Nat} (h1:N[i]?=some x) (h2:ko sc x=true) (h3:N[j]?=some y) (h4:ko sc y=true):CT sc N [(i,x),(j,y)] (.Tuple [.Name x p1,.Name y p2] k p)
section
variable {F:FT}{G:Str->Option BT.W}
theorem RS.set {P:MP}{w:M7}{K:MI}{m:List MN}{H:Hp}{σ:L2.St}{s:BT.Sl}{i:Nat}{v:V}{z:BT.W} (S:RS P w K m H σ s) (r:RW P w K m H v z):RS P w K m H (σ.set i (some v)) (s.set i (some z)):=by
 refine ⟨by simp[S.len],fun j y e=>?_⟩
 by_cases c:i=j
 ·subst c
  have hl:i < s.length:=by
   rcases M4 i s.length with q | q
   ·exact q
   ·rw[MS (by simpa using q)] at e;cases e
  rw[Nz hl] at e
  cases e
  exact ⟨v,by rw[Nz (by rw[S.len];exact hl)],r⟩
 ·rw[Nl c] at e
  obtain ⟨u,h1,h2⟩:=S.get j y e
  exact ⟨u,by rw[Nl c];exact h1,h2⟩
theorem fN {X:Cx}{sc:M0}{N:List Str} (O:Ok X F G sc N) {x:Str} (h:ko sc x=true):L2.Loc X.env.scope x:=by
 rw[O.hsc]
 unfold ko at h
 unfold L2.Loc
 cases e:sc.names.lookup x with
 | none=>rw[e] at h;cases h
 | some k=>rw[e] at h;cases k<;>first | (exact .inl rfl) | (exact .inr rfl) | cases h
theorem nF {e:MJ}{env:Env} (h:gS e=true):∀ x,foldedSetIterable e env x=pure x:=by
 intro x
 cases e<;>first | rfl | cases h
noncomputable def GOk (X:Cx) (tg:List (Nat×Str)) (g:TG):Prop:=∀ (m:List MN) (H:Hp) (σ:L2.St) (s:BT.Sl) (x:V) (d:BT.D) (ds:List BT.D) (Q:L2.St->Hp->Prop),RS X.prog X.w X.K m H σ s->RD X.K m H x d->BT.target tg.length d=some ds →
 (∀ σ',RS X.prog X.w X.K m H σ' (BT.sets tg ds s)->Q σ' H)->g x σ H Q
theorem sCT {X:Cx}{sc:M0}{N:List Str} (O:Ok X F G sc N) (hc:X.calm=true) {tg:List (Nat×Str)}{te:MJ} (h:CT sc N tg te) (hf:∀ q∈tg,X.fn q.2=true\/X.env.scope.names.lookup q.2=some .local):∃ g,PG X te g/\GOk X tg g:=by
 cases h with
 | @one i x p h1 h2 =>
  refine ⟨_,mO (i:=i) O.nd (by rw[O.hN];exact h1) (fN O h2) (hf (i,x) (by simp)),?_⟩
  intro m H σ s v d ds Q S r e q
  simp only[M5,NN,Rr,BT.jZ] at e
  cases e
  exact q _ (S.set (.p r))
 | @two i j x y p p1 p2 k h1 h2 h3 h4 =>
  refine ⟨_,C4 (n:=2) hc (oA (mO (i:=i) O.nd (by rw[O.hN];exact h1) (fN O h2) (hf (i,x) (by simp))) (oA (mO (i:=j) O.nd (by rw[O.hN];exact h3) (fN O h4) (hf (j,y) (by simp))) zE)),?_⟩
  intro m H σ s v d ds Q S r e q
  have e:BT.unpack 2 d=some ds:=e
  cases r with
  | @tup a vs dd h r =>
   rw[BT.we] at e
   split at e
   ·rename_i c
    cases e
    have hl:=r.length
    refine ⟨a,vs,rfl,h.elim (fun q=>.inl q.1) fun ⟨o,its,n,q,_⟩=>.inr ⟨o,its,n,q⟩,by rw[hl];exact c,?_⟩
    cases r with
    | nil=>simp at c
    | @cons v1 d1 vs' ds' ra t =>
     cases t with
     | nil=>simp at c
     | @cons v2 d2 vs2 ds2 rb t2 =>
      cases t2 with
      | cons _ _=>simp at c
      | nil =>
       refine ⟨v1,[v2],rfl,?_⟩
       show B5 (lK j) C3 [v2] (σ.set i (some v1)) H Q
       refine ⟨v2,[],rfl,?_⟩
       show C3 [] ((σ.set i (some v1)).set j (some v2)) H Q
       refine ⟨rfl,q _ ?_⟩
       show RS X.prog X.w X.K m H ((σ.set i (some v1)).set j (some v2)) ((s.set i (some (.p d1))).set j (some (.p d2)))
       exact RS.set (RS.set S (.p ra)) (.p rb)
   ·cases e
  | _=>cases e
end
end BS
end
section
namespace BC
open PySem
section
variable {prog:MP}{w:M7}{A:Nn}{s:MK}
theorem uO {elt target iter:MJ}{ifs:List MJ}{scope:M0}{pos:Pos}{it acc:Value}{env:Env}{R:Result->MK->Prop} (I:Nat->MK->Prop)
 (turn:∀ n s,I n s->wpAny (M3 prog w) A (pyNext it) (fun r s₁=>match r with
  | none=>R (.ok .next) s₁
  | some v=>wpAny (M3 prog w) A (P0 target it v) (fun _ s₀=>wpAny (M3 prog w) A (Q5 target env v) (fun _ s₂ =>
   wpAny (M3 prog w) A (forIn ifs true fun c r=>if r=true then do let ok ← isTrue c env (eval c env);pure (Pc ok) else pure (Pc r)) (fun ok s₃ =>
    if ok=true then wpAny (M3 prog w) A (eval elt env) (fun x s₄ =>
     wpAny (M3 prog w) A (call (.builtin "list.append") [acc,x]) (fun _ s₅=>∃ m,m < n/\I m s₅) (fun _ _=>False) s₄) (fun _ _=>False) s₃
    else ∃ m,m < n/\I m s₃) (fun _ _=>False) s₂) (fun _ _=>False) s₀) (fun _ _=>False) s₁) (fun _ _=>False) s)
 (n:Nat) (h:I n s):codeAny (M3 prog w) A (.compLoop (.ListComp elt [⟨target,iter,ifs,0⟩] scope pos) 0 it acc env) R s:=by
 refine codeAny_loop rfl I (fun n s hI=>?_) n h
 show wpAny _ A ((compTurn (.ListComp elt [⟨target,iter,ifs,0⟩] scope pos) 0 it acc env).onRaise (fun x=>do noteFrame x env;theTreesLotGoes x)) _ _ s
 refine wpAny_noted ?_
 rw[compTurn_list]
 refine wpAny_bind (RN (wpAny_bind (wpAny_mono (turn n s hI) (fun r s₁ h₁=>?_) fun _ _ h'=>h'.elim)))
 cases r with
 | none=>exact wpAny_pure h₁
 | some v =>
  refine wpAny_bind (wpAny_mono h₁ (fun _ s₀ h₀'=>?_) fun _ _ h'=>h'.elim)
  refine wpAny_bind (wpAny_mono h₀' (fun _ s₂ h₂=>wpAny_bind (wpAny_mono h₂ (fun ok s₃ h₃=>?_) fun _ _ h'=>h'.elim)) fun _ _ h'=>h'.elim)
  cases ok with
  | false=>exact wpAny_pure ⟨rfl,h₃⟩
  | true =>
   exact wpAny_bind (wpAny_bind (wpAny_mono h₃ (fun x s₄ h₄=>wpAny_bind (wpAny_mono h₄ (fun _ s₅ h₅=>wpAny_pure (wpAny_pure ⟨rfl,h₅⟩)) fun _ _ h'=>h'.elim)) fun _ _ h'=>h'.elim))
end
noncomputable def fB (cells:List (Str×MN)):List (Str×OG)->List (Str×MN)->List (Str×MN)
 | [],acc=>acc
 | (n,k) :: r,acc=>if k==.free then (match cells.lookup n with | some c=>fB cells r ((n,c) :: acc) | none=>fB cells r acc) else fB cells r acc
noncomputable def qA (cells:List (Str×MN)) (names:List (Str×OG)):Prop:=∀ x∈names,x.2=.free->∃ c,cells.lookup x.1=some c
theorem kq {env:Env}:∀ (names:List (Str×OG)) (acc:List (Str×MN)),qA env.cells names →
 (forIn names acc fun x (r:List (Str×MN))=>(if x.2==.free then do let c ← cellOf env x.1;pure (Pc ((x.1,c) :: r)) else pure (Pc r):Sem (ForInStep (List (Str×MN)))))=pure (fB env.cells names acc)
 | [],acc,_=>rfl
 | (n,k) :: r,acc,h=>by
  have ih:=fun acc=>kq (env:=env) r acc fun x hx=>h x (M8 _ hx)
  rw[List.forIn_cons]
  by_cases c:k=.free
  ·subst c
   obtain ⟨a,e⟩:=h (n,.free) Nh rfl
   have e:env.cells.lookup n=some a:=e
   simp only[fB,e]
   show (cellOf env n >>= _) >>= _=_
   unfold cellOf
   rw[e]
   exact ih _
  ·have cb:(k==NG)=false:=by simpa using c
   simp only[fB,cb]
   exact ih _
theorem je {α β:Type}{m m':Sem α}{f:α->Sem β} (h:m=m'):(m >>= f)=(m' >>= f):=by rw[h]
theorem qB {scope:M0}{env:Env} (h:qA env.cells scope.names):closureFor scope env=pure (fB env.cells scope.names []):=by
 have:=kq (env:=env) scope.names [] h
 unfold closureFor
 exact (je this).trans rfl
theorem nG {cells:List (Str×MN)}:∀ {names:List (Str×OG)}{acc:List (Str×MN)},(∀ x c,acc.lookup x=some c->cells.lookup x=some c)->∀ x c,(fB cells names acc).lookup x=some c->cells.lookup x=some c
 | [],acc,h,x,c,e=>h x c e
 | (n,k) :: r,acc,h,x,c,e=>by
  rw[fB] at e
  split at e
  ·split at e
   ·rename_i a ea
    refine nG (fun y b q=>?_) x c e
    rw[Of] at q
    split at q
    ·rename_i hy
     have:y=n:=by simpa using hy
     subst this
     cases q;exact ea
    ·exact h y b q
   ·exact nG h x c e
  ·exact nG h x c e
theorem jL {cells:List (Str×MN)}{x:Str}:∀ {names:List (Str×OG)}{acc:List (Str×MN)},(∃ c,acc.lookup x=some c)->∃ c,(fB cells names acc).lookup x=some c
 | [],acc,h=>h
 | (n,k) :: r,acc,h=>by
  rw[fB]
  split
  ·split
   ·refine jL ?_
    rw[Of]
    split
    ·exact ⟨_,rfl⟩
    ·exact h
   ·exact jL h
  ·exact jL h
theorem nI {cells:List (Str×MN)}{x:Str}:∀ {names:List (Str×OG)}{acc:List (Str×MN)},(x,NG)∈names->(∃ c,cells.lookup x=some c)->∃ c,(fB cells names acc).lookup x=some c
 | [],acc,h,_=>nomatch h
 | (n,k) :: r,acc,h,q=>by
  rw[fB]
  rcases List.mem_cons.mp h with e | e
  ·cases e
   obtain ⟨c,ec⟩:=q
   rw[if_pos (by rfl),ec]
   refine jL ?_
   exact ⟨c,by simp⟩
  ·split
   ·split
    ·exact nI e q
    ·exact nI e q
   ·exact nI e q
end BC
end
section
namespace BS
open PySem PySem.Spec PyProof.Rows L2
noncomputable def kr (F:FT) (G:Str->Option BT.W) (sc:M0) (N:List Str) (cond:BT.Es) (ifs:List MJ):Prop :=
 (cond=.nil/\ifs=[])\/∃ c c',cond=.cons c .nil/\ifs=[c']/\∀ X',Ok X' F G sc N->PT X' c' (tDT X' F G c)
structure o9 (sc:M0) (N tg:List Str) (fv:List (Nat×Str)) (scope:M0):Prop where
 k1:scope.kind=.function
 k2:sc.kind=.function
 cell:∀ y∈scope.names,y.2≠.cell
 loc:∀ y∈scope.names,y.2=.local->scope.names.lookup y.1=some .local
 free:∀ y∈scope.names,y.2=.free->sc.names.lookup y.1=some .cell
 fvs:∀ q∈fv,N[q.1]?=some q.2/\(q.2,NG)∈scope.names/\sc.names.lookup q.2=some .cell/\(br scope sc).names.lookup q.2=some .cell
 nd:(tg++fv.map (·.2)).Nodup
theorem mh:∀ {l:List Str},gT l=true->l.Nodup
 | [],_=>QL
 | x :: r,h=>by
  simp only[gT,ML,Ol] at h
  refine List.nodup_cons.mpr ⟨fun z=>?_,mh h.2⟩
  have:=h.1
  simp[z] at this
theorem HE {sc:M0}{N tg:List Str}{fv:List (Nat×Str)}{scope:M0} (h:gU sc N tg fv scope=true):o9 sc N tg fv scope:=by
 simp only[gU,ML] at h
 obtain ⟨⟨⟨⟨⟨⟨h1,h2⟩,h3⟩,h4⟩,h5⟩,h6⟩,h7⟩:=h
 rw[NX] at h3 h4 h5 h6
 refine ⟨eq_of_beq h1,eq_of_beq h2,fun y hy e=>?_,fun y hy e=>?_,fun y hy e=>?_,fun q hq=>?_,mh h7⟩
 ·have:=h3 y hy
  rw[e] at this;simp at this
 ·have:=h4 y hy
  rw[e] at this;simpa using this
 ·have:=h5 y hy
  rw[e] at this;simpa using this
 ·have:=h6 q hq
  simp only[ML] at this
  obtain ⟨⟨⟨a,b⟩,c⟩,d⟩:=this
  exact ⟨by simpa using a,by simpa using b,by simpa using c,by simpa using d⟩
theorem gY {sc:M0}{x:Str}{k:OG} (hk:k=.cell\/k=.free):∀ {names:List (Str×OG)},(∀ y∈names,y.2≠.cell) →
 (names.map fun (n,k)=>if (k==NG&&sc.kind==.function&&sc.names.lookup n==some .cell) then (n,PM) else (n,k)).lookup x=some k->(x,NG)∈names
 | [],_,h=>by simp at h
 | (n,q) :: r,hc,h=>by
  have ih:=gY (sc:=sc) (x:=x) hk (names:=r) fun y hy=>hc y (M8 _ hy)
  replace h:Ot x ((if (q==NG&&sc.kind==.function&&sc.names.lookup n==some .cell)=true then (n,PM) else (n,q)) :: (r.map fun (n,k)=>if (k==NG&&sc.kind==.function&&sc.names.lookup n==some .cell) then (n,PM) else (n,k)))=some k:=h
  have go:∀ (q':OG),(q'=q\/(q'=.cell/\q=.free))->Ot x ((n,q') :: (r.map fun (n,k)=>if (k==NG&&sc.kind==.function&&sc.names.lookup n==some .cell) then (n,PM) else (n,k)))=some k->(x,NG)∈(n,q) :: r:=by
   intro q' hq gl
   rw[Of] at gl
   split at gl
   ·rename_i hx
    have hx:x=n:=by simpa using hx
    subst hx
    have e:q'=k:=MV gl
    have hqf:q=.free:=by
     rcases hq with rfl | ⟨_,e2⟩
     ·rcases hk with z | z
      ·exact absurd (e.trans z) (hc (x,q') Nh)
      ·exact e.trans z
     ·exact e2
    rw[hqf];exact Nh
   ·exact M8 _ (ih gl)
  by_cases c:(q==NG&&sc.kind==.function&&sc.names.lookup n==some .cell)=true
  ·rw[if_pos c] at h
   refine go .cell (.inr ⟨rfl,?_⟩) h
   simp only[ML] at c
   exact eq_of_beq c.1.1
  ·rw[if_neg c] at h
   exact go q (.inl rfl) h
noncomputable def blk (X:Cx) (N':List Str) (s2:MK) (H1:Hp) (scope:M0) (C:MN) (fp:List MN):Cx :=
 { X with N:=N',s₀:=s2,H₀:=H1,env:=RU scope (BC.fB X.env.cells scope.names []) C X.env,outer:=X.stack,stack:=X.stack,ex:=fp,fn:=fun _=>false,pn:=[],xe:=fun _ _=>False }
section
variable {X:Cx}{F:FT}{G:Str->Option BT.W}{sc:M0}{N:List Str}{pins:List (MN×Obj)}{σ:L2.St}{H1:Hp}{s2:MK}
theorem jr {scope:M0}{x:Str}{c:MN} (e:(BC.fB X.env.cells scope.names []).lookup x=some c):X.env.cells.lookup x=some c :=
 BC.nG (fun _ _ z=>by simp at z) x c e
theorem pq (hsc:X.env.scope=sc) {scope:M0}{C:MN} (x:Str):(RU scope (BC.fB X.env.cells scope.names []) C X.env).kindOf x=(br scope sc).names.lookup x:=by
 subst hsc;rfl
theorem sf (I1:Inv X pins σ H1 s2) (hsc:X.env.scope=sc) {scope:M0}{tg:List Str}{fv:List (Nat×Str)} (cf:o9 sc N tg fv scope) {x:Str} (hx:(x,NG)∈scope.names):∃ c,(BC.fB X.env.cells scope.names []).lookup x=some c:=by
 refine BC.nI hx (I1.ok.has x (.inl ?_))
 have:=cf.free _ hx rfl
 rw[← hsc] at this
 exact this
theorem Eo (I1:Inv X pins σ H1 s2) (hsc:X.env.scope=sc) {scope:M0}{tg:List Str}{fv:List (Nat×Str)} (cf:o9 sc N tg fv scope) {N':List Str}{C:MN}{fp:List MN} (hC:C=s2.heap.objs.size+1)
 (hf:∀ b∈fp,mQ X pins H1 b) (hlt:∀ b∈fp,b < s2.heap.objs.size):(blk X N' s2 H1 scope C fp).Ok where
 mod:=I1.ok.mod
 kind:=cf.k1
 glob:=I1.ok.glob
 blt:=I1.ok.blt
 above:=by show s2.heap.objs.size<=C;rw[hC];exact Oe _
 inj:=fun x y c a b=>I1.ok.inj x y c (jr a) (jr b)
 has:=fun x hx=>by
  refine sf I1 hsc cf ?_
  have hx':(br scope sc).names.lookup x=some .cell\/(br scope sc).names.lookup x=some .free:=by
   rw[← pq hsc (C:=C)];exact hx
  rcases hx' with e | e
  ·exact gY (.inl rfl) cf.cell e
  ·exact gY (.inr rfl) cf.cell e
 cab:=fun x c z=>by cases z
 hd:=I1.ok.hd
 frames:=I1.ok.frames
 stk:=.inl rfl
 exf:=fun b hb=>⟨fun z=>by
  have l:=hlt b hb
  have z:b=C:=z
  rw[z,hC] at l
  exact absurd l (Nat.not_lt.mpr (Oe _)),fun x c e=>(hf b hb).2.2.2.2.1 x c (jr e)⟩
 bs:=I1.bs
 bsz:=Nq I1.ok.bsz I1.sz
 noex:=fun b o e hb=>by
  have q:=(I1.ok.bs b o e).1
  rcases (hf b hb).2.2.2.1 with z | z
  ·exact I1.ok.noex b o e z
  ·exact absurd (MW q) (Nat.not_lt.mpr z)
 exfs:=fun b hb z=>by
  rcases List.mem_cons.mp (I1.gP b z) with e | e
  ·exact (hf b hb).2.1 e
  ·exact (hf b hb).2.2.1 e
 e9:=I1.stack
 frf:=I1.mK
end
noncomputable def lobj (us:List Value) (n:Nat):Obj:={ cls:=.type "list",data:=.seq us.toArray n }
section
variable {X:Cx}{F:FT}{G:Str->Option BT.W}{sc:M0}{N:List Str}{pins:List (MN×Obj)}{σ:L2.St}{H1:Hp}{s2:MK}
noncomputable def gZ (n:Nat) (σ:L2.St) (fv:List (Nat×Str)):L2.St:=MY n none++fv.map fun q=>(σ[q.1]?).getD none
theorem AU (I1:Inv X pins σ H1 s2) (hsc:X.env.scope=sc) (hN:X.N=N) {scope:M0}{tg:List Str}{fv:List (Nat×Str)} (cf:o9 sc N tg fv scope) {C:MN}{fp:List MN} (hC:C=s2.heap.objs.size+1)
 (hf:∀ b∈fp,mQ X pins H1 b) (hlt:∀ b∈fp,b < s2.heap.objs.size) {h1:Heap}{tk:Nat}{m:Str->Option Value} (old:∀ b o,s2.heap.get? b=some o->h1.get? b=some o) (hns:h1.Ns C m) (hD:h1.get? s2.heap.objs.size=some (lobj [] 0)) :
 Inv (blk X (tg++fv.map (·.2)) s2 H1 scope C fp) [(s2.heap.objs.size,lobj [] 0)] (gZ tg.length σ fv) H1 { s2 with heap:=h1,toks:=tk } where
 ok:=Eo I1 hsc cf hC hf hlt
 os:=rfl
 bare:=I1.bare
 base:=Un.kept old
 loc:=by
  refine ⟨m,hns,fun i x v e1 e2 e3=>?_⟩
  have e1:(tg++fv.map (·.2))[i]?=some x:=e1
  unfold gZ at e2
  by_cases c:i < tg.length
  ·rw[MO (by simpa using c),NR,if_pos c] at e2
   cases e2
  ·rw[M6 (by simpa using c)] at e2
   rw[M6 (by simpa using c)] at e1
   simp only[OH,Na] at e1 e2
   cases g:fv[i - tg.length]? with
   | none=>rw[g] at e1;cases e1
   | some q =>
    rw[g] at e1 e2
    simp only[Option.map_some,OT] at e1 e2
    subst e1
    obtain ⟨f1,f2,f3,f4⟩:=cf.fvs q (MZ g)
    have e2':σ[q.1]?=some (some v):=by
     cases gg:σ[q.1]? with
     | none=>rw[gg] at e2;cases e2
     | some o=>rw[gg] at e2;simp only[Qh] at e2;rw[e2]
    obtain ⟨m0,hn0,hl0⟩:=I1.loc
    obtain ⟨u,ru,lk⟩:=hl0 q.1 q.2 v (by rw[hN];exact f1) e2' (by rw[hsc];exact .inr (.inl f3))
    refine ⟨u,ru,?_⟩
    have kc:X.env.kindOf q.2=some .cell:=by
     show X.env.scope.names.lookup q.2=_
     rw[hsc];exact f3
    rcases lk with ⟨k,_⟩ | ⟨k,c,ec,o,ho,hd⟩
    ·rw[kc] at k;cases k
    ·obtain ⟨c',ec'⟩:=sf I1 hsc cf f2
     have:=jr ec'
     rw[ec] at this
     cases this
     refine .inr ⟨.inl ?_,c,ec',o,old c o ho,hd⟩
     show (RU scope (BC.fB X.env.cells scope.names []) C X.env).kindOf q.2=_
     rw[pq hsc];exact f4
 cell:=fun x c e=>by
  obtain ⟨v,o,ho,hd⟩:=I1.cell x c (jr e)
  exact ⟨v,o,old c o ho,hd⟩
 free:=I1.hok.fresh (by show s2.heap.objs.size<=C;rw[hC];exact Oe _)
 freeC:=fun x c e=>I1.freeC x c (jr e)
 pin:=fun p hp=>by
  have e:p=(s2.heap.objs.size,lobj [] 0):=by
   have:p∈[]++[(s2.heap.objs.size,lobj [] 0)]:=hp
   simpa using this
  subst e
  refine ⟨hD,I1.hok.fresh (MR _),?_,?_,fun v z=>by cases (show Data.seq _ _=Data.cell v from z)⟩
  ·show s2.heap.objs.size≠C
   rw[hC];exact Np (Os _)
  ·intro z
   obtain ⟨_,o,ho,_⟩:=I1.stack.mem z
   exact absurd (MW ho) (N3 _)
 hok:=I1.hok.kept old
 len:=by
  show (gZ tg.length σ fv).length=(tg++fv.map (·.2)).length
  simp[gZ]
end
noncomputable def tgI:List Str->List (Nat×Str)
 | [x]=>[(0,x)]
 | [x,y]=>[(0,x),(1,y)]
 | _=>[]
theorem nJ {te:MJ}{x:Str} (h:nmE te=some x):∃ p,te=.Name x p:=by
 cases te with
 | Name y p=>cases h;exact ⟨p,rfl⟩
 | _=>exact absurd (show (none:Option Str)=some _ from h) (fun z=>nomatch z)
theorem xM {te a:MJ}{l:List MJ} (h:DO te=a :: l):∃ k p,te=.Tuple (a :: l) k p:=by
 cases te with
 | Tuple xs k p=>cases h;exact ⟨k,p,rfl⟩
 | _=>exact absurd (show ([]:List MJ)=_ :: _ from h) (fun z=>nomatch z)
theorem AV {sc:M0}{tg:List Str}{fs:List Str}{te:MJ} (h:oX sc tg te=true):CT sc (tg++fs) (tgI tg) te/\(tgI tg).length=tg.length/\∀ q∈tgI tg,sc.names.lookup q.2=some .local:=by
 have st:∀ {x:Str},sc.names.lookup x=some .local->ko sc x=true:=fun e=>by unfold ko;rw[e]
 unfold oX at h
 rw[ML,Oa,ML,NX] at h
 obtain ⟨h,ha⟩:=h
 have lo:∀ {x},x∈tg->sc.names.lookup x=some .local:=fun {x} hx=>eq_of_beq (ha x hx)
 rcases h with h | ⟨h1,h2⟩
 ·have e:=eq_of_beq h
  cases tg with
  | nil=>exact absurd (congrArg Pe e) (by simp)
  | cons x r =>
   cases r with
   | cons _ _=>exact absurd (congrArg Pe e) (by simp)
   | nil =>
    obtain ⟨p,rfl⟩:=nJ (Pf e).symm
    have l:sc.names.lookup x=some .local:=lo Nh
    exact ⟨.one rfl (st l),rfl,fun q hq=>by simp[tgI] at hq;subst hq;exact l⟩
 ·have e:=eq_of_beq h2
  obtain ⟨x,y,rfl⟩:∃ x y,tg=[x,y]:=by
   have h1:=eq_of_beq h1
   cases tg with
   | nil=>simp at h1
   | cons x r =>
    cases r with
    | nil=>simp at h1
    | cons y r =>
     cases r with
     | nil=>exact ⟨x,y,rfl⟩
     | cons _ _=>simp at h1
  cases g:DO te with
  | nil=>rw[g] at e;exact absurd (congrArg Pe e) (by simp)
  | cons a l =>
   rw[g] at e
   cases l with
   | nil=>exact absurd (congrArg Pe e) (by simp)
   | cons b r =>
    cases r with
    | cons _ _=>exact absurd (congrArg Pe e) (by simp)
    | nil =>
     have e1:some x=nmE a:=Pf e
     have e2:some y=nmE b:=Pf (List.tail_eq_of_cons_eq e)
     obtain ⟨p1,rfl⟩:=nJ e1.symm
     obtain ⟨p2,rfl⟩:=nJ e2.symm
     obtain ⟨k,p,rfl⟩:=xM g
     have l1:sc.names.lookup x=some .local:=lo Nh
     have l2:sc.names.lookup y=some .local:=lo (M8 _ Nh)
     exact ⟨.two rfl (st l1) rfl (st l2),rfl,fun q hq=>by
      simp[tgI] at hq
      rcases hq with rfl | rfl
      ·exact l1
      ·exact l2⟩
theorem AW {tg:List Str}{d0:BT.D}{ds:List BT.D}{sl fs:BT.Sl} (h:(tgI tg).length=tg.length) (h0:tg≠[]) (hd:BT.target tg.length d0=some ds) (hl:sl.length=tg.length+fs.length) (hr:sl.drop tg.length=fs) :
 BT.sets (tgI tg) ds sl=ds.map BT.fK++fs/\(ds.map BT.fK++fs).length=tg.length+fs.length/\(ds.map BT.fK++fs).drop tg.length=fs:=by
 match tg,h,h0 with
 | [],_,h0=>exact absurd rfl h0
 | [x],_,_ =>
  simp only[M5,NN,Rr,BT.jZ] at hd hl hr
  cases hd
  match sl,hl,hr with
  | a :: r,hl,hr =>
   simp only[RK,PP] at hr
   subst hr
   exact ⟨rfl,by simp[Nat.add_comm],rfl⟩
 | [x,y],_,_ =>
  have hd:BT.unpack 2 d0=some ds:=hd
  cases d0<;>simp only[BT.unpack] at hd<;>try contradiction
  split at hd
  ·rename_i c
   cases hd
   match ds,c with
   | [d1,d2],_ =>
    simp only[M5,NN,Rr] at hl hr
    match sl,hl,hr with
    | a :: b :: r,hl,hr =>
     simp only[RK,PP] at hr
     subst hr
     exact ⟨rfl,by simp;omega,rfl⟩
    | [a],hl,_=>simp at hl;omega
    | [],hl,_=>simp at hl;omega
  ·cases hd
 | x :: y :: z :: r,h,_=>simp[tgI] at h
theorem jf {s:BT.Sl}:∀ {fv:List (Nat×Str)}{fs:BT.Sl},BT.frees s fv=some fs->fs.length=fv.length/\∀ (i:Nat) (q:Nat×Str),fv[i]?=some q->fs[i]?=s[q.1]?
 | [],fs,e=>by simp[BT.frees] at e;subst e;exact ⟨rfl,fun i q z=>by simp at z⟩
 | q :: r,fs,e=>by
  simp only[BT.frees] at e
  cases g:s[q.1]? with
  | none=>rw[g] at e;cases e
  | some w =>
   rw[g] at e
   obtain ⟨fs',e1,e2⟩:=az e
   subst e2
   obtain ⟨h1,h2⟩:=jf e1
   refine ⟨by simp[h1],fun i p z=>?_⟩
   cases i with
   | zero=>simp at z;subst z;simp[g]
   | succ i=>simpa using h2 i p (by simpa using z)
theorem uP {P:MP}{w:M7}{K:MI}{m:List MN}{H:Hp}{σ:L2.St}{s fs:BT.Sl}{fv:List (Nat×Str)}{n:Nat} (S:RS P w K m H σ s) (hf:BT.frees s fv=some fs):RS P w K m H (gZ n σ fv) (MY n none++fs):=by
 obtain ⟨h1,h2⟩:=jf hf
 refine ⟨by simp[gZ,h1],fun i y e=>?_⟩
 by_cases c:i < n
 ·rw[MO (by simpa using c),NR,if_pos c] at e
  cases e
 ·rw[M6 (by simpa using c)] at e
  simp only[OH] at e
  have hi:i - n < fv.length:=by
   rw[← h1]
   rcases M4 (i - n) fs.length with z | z
   ·exact z
   ·rw[MS z] at e;cases e
  have g:=MT hi
  rw[h2 _ _ g] at e
  obtain ⟨v,hv,r⟩:=S.get _ _ e
  refine ⟨v,?_,r⟩
  unfold gZ
  rw[M6 (by simpa using c)]
  simp only[OH,Na,g,Option.map_some,hv,Qh]
theorem AX {f:List BT.D->BT.HH->Option (Option BT.D×BT.HH)}{n:Nat}{d:BT.D}{r rest:List BT.D}{h h2:BT.HH} (e:BT.eZ f n (d :: r) h=some (rest,h2)) :
 ∃ xs o hA rest',BT.target n d=some xs/\f xs h=some (o,hA)/\BT.eZ f n r hA=some (rest',h2)/\rest=(match o with | some x=>x :: rest' | none=>rest'):=by
 rw[BT.eZ] at e
 cases g:BT.target n d with
 | none=>rw[g] at e;cases e
 | some xs =>
  rw[g] at e
  obtain ⟨o,hA,e1,e2⟩:=aj e
  unfold BT.DC at e2
  obtain ⟨rest',h3,e3,e4⟩:=aj e2
  unfold BT.rK at e4
  cases e4
  exact ⟨xs,o,hA,rest',rfl,e1,e3,rfl⟩
theorem Un.behind {fs ex:List MN}{H H' H2:Hp}{h h1 h2:Heap} (u:Un fs ex H H' h h1) (a:∀ b,b < h.objs.size->H2 b=H' b) (lt:∀ b o,H b=some o->b < h.objs.size) (k:∀ b o,b < h.objs.size->h1.get? b=some o->h2.get? b=some o):Un fs ex H H2 h h2 where
 keep:=fun b o e n c d=>k b o (MW e) (u.keep b o e n c d)
 slot:=fun b o e n c d=>by obtain ⟨sl,q⟩:=u.slot b o e n c d;exact ⟨sl,k b _ (MW e) q⟩
 free:=fun b o e n d=>by rw[a b (MW e)];exact u.free b o e n d
 there:=fun b o e d=>by obtain ⟨o',q⟩:=u.there b o e d;exact ⟨o',k b o' (MW e) q⟩
 tups:=fun b xs e=>by rw[a b (lt b _ e)];exact u.tups b xs e
 frzs:=fun b o w e=>by rw[a b (lt b _ e)];exact u.frzs b o w e
 tbls:=fun b ps e=>by rw[a b (lt b _ e)];exact u.tbls b ps e
section
variable {X:Cx}{F:FT}{G:Str->Option BT.W}{sc:M0}{N:List Str}
theorem Ep (O:Ok X F G sc N) (hu:dI N=true) {scope:M0}{tg:List Str}{fv:List (Nat×Str)} (cf:o9 sc N tg fv scope) {s2:MK}{H1:Hp}{C:MN}{fp:List MN} :
 Ok (blk X (tg++fv.map (·.2)) s2 H1 scope C fp) F G (br scope sc) (tg++fv.map (·.2)) where
 hsc:=by have:=O.hsc;subst this;rfl
 hN:=rfl
 nd:=cf.nd
 calm:=fun _=>O.calm hu
 hu:=O.hu
 own:=OI
 glob:=O.glob
 call:=O.call
 meth:=O.meth
 mkc:=O.mkc
 blt:=O.blt
 lam:=O.lam
 lamx:=fun h=>absurd (show false=true from h "") (by decide)
noncomputable abbrev LI (X:Cx) (F:FT) (G:Str->Option BT.W) (scope:M0) (tg:List Str) (fv:List (Nat×Str)) (cond:BT.Es) (elt:BT.E) (s2:MK) (H1:Hp) (C:MN) (fp:List MN) (tn:Nat->Heap->Prop) (m1:List MN) (ds outs:List BT.D) (fs:BT.Sl) (h2:BT.HH) (n:Nat) (s:MK):Prop :=
 ∃ (i:Nat) (σ':L2.St) (H':Hp) (m':List MN) (hh:BT.HH) (out rest:List BT.D) (vs:List V) (us:List Value) (nn:Nat) (sl:BT.Sl),
  i<=ds.length/\n=ds.length - i/\Inv (blk X (tg++fv.map (·.2)) s2 H1 scope C fp) [(s2.heap.objs.size,lobj us nn)] σ' H' s/\tn i s.heap/\(∀ b∈fp,H' b=none)/\Ext m1 H1 m' H'/\RH X.K m' H' hh ∧
  RS X.prog X.w X.K m' H' σ' sl/\sl.length=tg.length+fs.length/\sl.drop tg.length=fs/\ao vs us/\RDs X.K m' H' vs out/\BT.eZ (BT.j4 (BT.evs F G cond) (BT.ev F G elt) fs) tg.length (ds.drop i) hh=some (rest,h2)/\out++rest=outs
structure Apart (X:Cx) (pins:List (MN×Obj)) (H:Hp) (C:MN):Prop where
 fr:H C=none
 lo:C≠X.env.locals
 ab:X.s₀.heap.objs.size<=C
 ce:∀ x c,X.env.cells.lookup x=some c->c≠C
 pi:∀ p∈X.pn++pins,p.1≠C
theorem mj (O:Ok X F G sc N) (hu:dI N=true) {mu:Bool}{sr:BT.Sr}{sa:BT.Es}{tg:List Str}{fv:List (Nat×Str)}{cond:BT.Es}{elt:BT.E}{te iter elt':MJ}{ifs:List MJ}{scope:M0}{pos:Pos}
 (hk:gU sc N tg fv scope=true) (ht:oX (br scope sc) tg te=true) (hset:gS iter=true) (hI:PI X te iter (iD X F G sr sa)) (hC:kr F G (br scope sc) (tg++fv.map (·.2)) cond ifs)
 (hE:∀ X',Ok X' F G (br scope sc) (tg++fv.map (·.2))->PE X' elt' (tD X' F G elt)):∀ (pins:List (MN×Obj)) (s:MK) (σ:L2.St) (H:Hp) (Q:VK) (use:Option (Value->Sem Unit)) (Q':Value->MK->Prop),Inv X pins σ H s->tD X F G (.comp mu sr sa tg fv cond elt) σ H Q →
 (∀ (s6:MK) (H6:Hp) (C D:MN) (m:Str->Option Value),Inv X pins σ H6 s6->s6.heap.Ns C m->Apart X pins H6 C->Q (.ref D) H6->compPost (M3 X.prog X.w) X.A X.xe use Q' (.ref D) C (.ok .next) s6) →
 wpAny (M3 X.prog X.w) X.A (comprehension (.ListComp elt' [⟨te,iter,ifs,0⟩] scope pos) scope X.env (firstIterPos [⟨te,iter,ifs,0⟩] pos) (newList []) false (eval iter X.env) use) Q' X.xe s:=by
 have cf:=HE hk
 obtain ⟨ct,tl,tloc⟩:=AV (fs:=fv.map (·.2)) ht
 have t0:tg≠[]:=by
  rintro rfl
  simp[oX] at ht
 intro pins s σ H Q use Q' I q hfin
 obtain ⟨m,s',h,z,h',R,S,ee,post⟩:=q
 simp only[BT.ev] at ee
 obtain ⟨ws,h1,e1,e2⟩:=aj ee
 unfold BT.Ci at e2
 cases g1:(BT.rds ws h1).bind (BT.gF sr) with
 | none=>rw[g1] at e2;cases e2
 | some ds =>
  cases g2:BT.frees s' fv with
  | none=>rw[g1,g2] at e2;cases e2
  | some fs =>
   rw[g1,g2] at e2
   simp only at e2
   by_cases ca:BT.jw ws=true
   case neg=>rw[if_neg ca] at e2;cases e2
   rw[if_pos ca] at e2
   obtain ⟨outs,h2,e3,e4⟩:=aj e2
   unfold BT.oR at e4
   by_cases cl:outs.length<=BT.lim
   case neg=>rw[if_neg cl] at e4;cases e4
   rw[if_pos cl] at e4
   have ez:BT.new mu outs h2=(z,h'):=MV e4
   have hfree:BC.qA X.env.cells scope.names:=fun x hx e=>I.ok.has x.1 (.inl (by
    have:=cf.free x hx e
    show X.env.scope.names.lookup x.1=_
    rw[O.hsc];exact this))
   refine wpAny_comprehension_free (use:=use) rfl (nF hset) (BC.qB hfree) cf.k1 cf.loc
    (thn (hI pins s σ H (fun J H1=>∃ m1,Ext m H m1 H1/\RH X.K m1 H1 h1/\uN X.K J m1 H1 ds) I ⟨m,s',h,ws,h1,ds,R,S,e1,g1,ca,fun H1 m1 J x1 R1 it=>⟨m1,x1,R1,it⟩⟩) fun v s1 hv=>thn hv fun itv s2 h2'=>?_)
   obtain ⟨it,fp,tn,J,H1,rfl,I1,T,st,hf,m1,x1,R1,ito⟩:=h2'
   have hlt:∀ b∈fp,b < s2.heap.objs.size:=fun b hb=>by
    obtain ⟨o,ho,_⟩:=T.obj 0 _ st b hb
    exact MW ho
   refine ON (wpAny_newFunctionEnv cf.cell (by intro y hy;simp at hy) (fun h3 hns hsb=>?_) cf.k1)
   dsimp only at hns hsb ⊢
   generalize hH2:s2.heap.push { cls:=.type "list",dict:=none,data:=.seq ([]:List Value).toArray }=H2 at hns hsb ⊢
   have hCs:H2.objs.size=s2.heap.objs.size+1:=by rw[← hH2,QS]
   have old:∀ b o,s2.heap.get? b=some o->h3.get? b=some o:=fun b o e=>hsb.extBut b o (by rw[hCs];exact Np (Nat.lt_succ_of_lt (MW e))) (MQ _ (hH2 ▸ MQ _ e))
   have hacc:h3.get? s2.heap.objs.size=some (lobj [] 0):=hsb.extBut _ _ (by rw[hCs];exact Np (Os _)) (MQ _ (hH2 ▸ Nk _ rfl))
   have I4:=AU (tk:=s2.toks+([]:List (Str×Value)).length) I1 O.hsc O.hN cf hCs hf hlt old hns hacc
   have O':=Ep (s2:=s2) (H1:=H1) (C:=H2.objs.size) (fp:=fp) O hu cf
   obtain ⟨g,hg1,hg2⟩:=sCT O' (O.calm hu) ct fun q hq=>.inr (by rw[O'.hsc];exact tloc q hq)
   have hfl:fs.length=fv.length:=(jf g2).1
   have stat:∀ {H':Hp}{o:Obj},(∀ b∈fp,H' b=none)->∀ b∈fp,mQ (blk X (tg++fv.map (·.2)) s2 H1 scope H2.objs.size fp) [(s2.heap.objs.size,o)] H' b:=fun {H' o} hn b hb=>by
    refine ⟨hn b hb,?_,?_,.inl hb,fun x c e=>(hf b hb).2.2.2.2.1 x c (jr e),fun p hp=>?_⟩
    ·show b≠H2.objs.size
     rw[hCs];exact Np (Nat.lt_succ_of_lt (hlt b hb))
    ·intro zz
     rcases List.mem_cons.mp (I1.gP b zz) with e | e
     ·exact (hf b hb).2.1 e
     ·exact (hf b hb).2.2.1 e
    ·have hp':p=(s2.heap.objs.size,o):=by
      have:p∈[]++[(s2.heap.objs.size,o)]:=hp
      simpa using this
     rw[hp']
     show s2.heap.objs.size≠b
     exact Rt (hlt b hb)
   have loop:∀ s4:MK,s4={ s2 with heap:=h3,toks:=s2.toks+([]:List (Str×Value)).length } →
    codeAny (M3 X.prog X.w) X.A (.compLoop (.ListComp elt' [⟨te,iter,ifs,0⟩] scope pos) 0 (.ref it) (.ref s2.heap.objs.size) (RU scope (BC.fB X.env.cells scope.names []) H2.objs.size X.env))
     (compPost (M3 X.prog X.w) X.A X.xe use Q' (.ref s2.heap.objs.size) H2.objs.size) s4:=by
    rintro s4 rfl
    refine BC.uO (LI X F G scope tg fv cond elt s2 H1 H2.objs.size fp tn m1 ds outs fs h2) ?_
     ds.length ⟨0,_,H1,m1,h1,[],outs,[],[],0,_,Od _,rfl,I4,T.keep 0 _ _ st (fun b hb o e=>old b o e),fun b hb=>(hf b hb).1,.refl _ _,R1,uP (S.ext x1) g2,by simp,by simp,.nil,.nil,by rw[PP];exact e3,rfl⟩
    rintro n s5 ⟨i,σ5,H5,m5,hh,out,rest,vs,us,nn,sl,hi,rfl,I5,st5,fr5,x5,R5,S5,sl1,sl2,rv5,rd5,go5,ou5⟩
    by_cases c:i < ds.length
    ·rw[QN c] at go5
     obtain ⟨xs,o,hA,rest',eT,eF,eG,eR⟩:=AX go5
     refine thn (T.item (blk X (tg++fv.map (·.2)) s2 H1 scope H2.objs.size fp) rfl rfl rfl (O.calm hu) i _ s5 σ5 H5 _ I5 (stat fr5) st5 (ito.go m5 H5 i x5 c)) fun r s6 hr=>?_
     obtain ⟨u,rfl,hr⟩:=hr
     refine thn hr fun _ s7 ⟨x,H7,I7,r7,y7,st7,fr7⟩=>?_
     obtain ⟨x7,k7,rd7⟩:=ito.yld m5 H5 hh i x H7 ds[i] x5 R5 (MT c) y7
     have R7:=R5.ext x7 k7
     have I7':=I7.pinned (stat fr7) (T.obj _ _ st7)
     obtain ⟨sq1,sq2,sq3⟩:=AW tl t0 eT sl1 sl2
     refine thn (hg1 _ s7 σ5 H7 x u (fun σ8 H8=>H8=H7/\RS X.prog X.w X.K m5 H7 σ8 (xs.map BT.fK++fs)) I7' r7 (hg2 m5 H7 σ5 sl x ds[i] xs _ (S5.ext x7) rd7 (by rw[tl];exact eT) fun σ8 S8=>⟨rfl,by rw[← sq1];exact S8⟩)) fun _ s8 h8=>?_
     obtain ⟨σ8,H8,I8,rfl,S8⟩:=h8
     have kept:∀ {s9:MK}{σ9:L2.St}{H9:Hp},Inv (blk X (tg++fv.map (·.2)) s2 H1 scope H2.objs.size fp) ([(s2.heap.objs.size,lobj us nn)]++iZ fp s7.heap) σ9 H9 s9->tn (i+1) s9.heap/\∀ b∈fp,H9 b=none:=fun {s9 σ9 H9} I9=>by
      refine ⟨T.keep _ _ _ st7 fun b hb o e=>(I9.pin (b,o) (Ni _ (Ni _ (fH hb e)))).1,fun b hb=>?_⟩
      obtain ⟨o,e,_⟩:=T.obj _ _ st7 b hb
      exact (I9.pin (b,o) (Ni _ (Ni _ (fH hb e)))).2.1
     have elem:∀ {s9:MK}{H9:Hp}{m9:List MN}{h9:BT.HH}{w:BT.W}{hB:BT.HH}{d:BT.D},Inv (blk X (tg++fv.map (·.2)) s2 H1 scope H2.objs.size fp) ([(s2.heap.objs.size,lobj us nn)]++iZ fp s7.heap) σ8 H9 s9->Ext m5 H8 m9 H9->RH X.K m9 H9 h9 →
      BT.ev F G elt (xs.map BT.fK++fs) h9=some (w,hB)->BT.k9 w hB=some (some d,hA)->o=some d →
      wpAny (M3 X.prog X.w) X.A (eval elt' (RU scope (BC.fB X.env.cells scope.names []) H2.objs.size X.env)) (fun x s₄ =>
       wpAny (M3 X.prog X.w) X.A (call (.builtin "list.append") [.ref s2.heap.objs.size,x]) (fun _ s₅=>∃ m,m < ds.length - i/\LI X F G scope tg fv cond elt s2 H1 H2.objs.size fp tn m1 ds outs fs h2 m s₅) (fun _ _=>False) s₄) (fun _ _=>False) s9:=by
      intro s9 H9 m9 h9 w hB d I9 x9 R9 eE eK eO
      have ew:w=.p d/\hB=hA:=by
       unfold BT.k9 at eK
       cases w with
       | p d'=>cases eK;exact ⟨rfl,rfl⟩
       | r _=>cases eK
       | k _=>cases eK
       | c _ _=>cases eK
       | x _=>cases eK
       | o _=>cases eK
      obtain ⟨rfl,rfl⟩:=ew
      refine thn (hE _ O' _ s9 σ8 H9 (fun v Ha=>∃ ma,Ext m9 H9 ma Ha/\RH X.K ma Ha hB/\RD X.K ma Ha v d) I9 ⟨m9,_,h9,_,hB,R9,S8.ext x9,eE,fun v Ha ma xa Ra ra=>by
       cases ra with | p ra=>exact ⟨ma,xa,Ra,ra⟩⟩) fun u10 s10 ⟨v10,H10,I10,r10,m10,x10,R10,rd10⟩=>?_
      obtain ⟨pD,nD,neD,nfD,_⟩:=I10.pin (s2.heap.objs.size,lobj us nn) (by simp)
      have lus:=rv5.length
      have lvs:=rd5.length
      have lou:out.length<=outs.length:=by rw[← ou5];simp
      have lle:=cV
      have cl':outs.length<=BT.lim:=cl
      refine wpAny_list_append_plain ⟨nn,pD⟩ (fun h11 hp11 sb11=>?_) (by rw[MM];omega)
      obtain ⟨nn',hp11⟩:=hp11
      have hp11:h11.get? s2.heap.objs.size=some (lobj (us++[u10]) nn'):=by rw[hp11];simp[lobj]
      have sb11:Ow s2.heap.objs.size s10.heap h11:=sb11
      obtain ⟨st10,fr10⟩:=kept I10
      have I11:Inv (blk X (tg++fv.map (·.2)) s2 H1 scope H2.objs.size fp) [] σ8 H10 { s10 with heap:=h11 } :=
       Inv.turned (t':=s10.toks) (I10.jD (fun p hp=>by cases hp)) (fun b o hb e=>(sb11.2 b hb).trans e) nD neD (.inr (MR _)) (fun x c e zz=>by
        obtain ⟨v,o,ho,_⟩:=I1.cell x c (jr e)
        have:=MW ho
        rw[zz] at this
        exact absurd this (N3 _)) fun p hp=>by cases hp
      have I12:Inv (blk X (tg++fv.map (·.2)) s2 H1 scope H2.objs.size fp) [(s2.heap.objs.size,lobj (us++[u10]) nn')] σ8 H10 { s10 with heap:=h11 }:=I11.jD fun p hp=>by
       simp only[R6] at hp
       subst hp
       exact ⟨hp11,nD,neD,nfD,fun v zz=>by cases (show Data.seq _ _=Data.cell v from zz)⟩
      have xt:Ext m5 H5 m10 H10:=(x7.trans x9).trans x10
      refine ⟨ds.length - (i+1),by omega,i+1,σ8,H10,m10,hB,out++[d],rest',vs++[v10],us++[u10],nn',_,c,rfl,I12,?_,fr10,x5.trans xt,R10,(S8.ext x9).ext x10,sq2,sq3,rv5.append (.cons r10 .nil),(rd5.ext xt).append (.cons rd10 .nil),eG,?_⟩
      ·refine T.keep _ _ _ st10 fun b hb o' e=>(sb11.2 b ?_).trans e
       exact Np (hlt b hb)
      ·rw[← ou5,eR,eO,N9];rfl
     unfold BT.j4 at eF
     obtain ⟨cs,hc,eC,eK⟩:=aj eF
     rcases hC with ⟨rfl,rfl⟩ | ⟨cc,cc',rfl,rfl,hCC⟩
     ·simp only[BT.evs] at eC
      cases eC
      have eK:=(show BT.bnd _ BT.k9=_ from eK)
      obtain ⟨w,hB,eE,eL⟩:=aj eK
      refine wpAny_tests_nil ?_
      rw[if_pos rfl]
      have:∃ d,o=some d:=by
       unfold BT.k9 at eL
       cases w with
       | p d'=>cases eL;exact ⟨_,rfl⟩
       | r _=>cases eL
       | k _=>cases eL
       | c _ _=>cases eL
       | x _=>cases eL
       | o _=>cases eL
      obtain ⟨d,rfl⟩:=this
      exact elem I8 (.refl _ _) R7 eE eL rfl
     ·simp only[BT.evs] at eC
      obtain ⟨wc,hc2,eC1,eC2⟩:=aj eC
      simp only[BT.lX,BT.iF,BT.i9] at eC2
      cases eC2
      have hb:∃ b,wc=.p (.bl b):=by
       cases wc with
       | p d =>
        cases d<;>first | exact ⟨_,rfl⟩ | exact ai eK
       | r _=>exact ai eK
       | k _=>exact ai eK
       | c _ _=>exact ai eK
       | x _=>exact ai eK
       | o _=>exact ai eK
      obtain ⟨b,rfl⟩:=hb
      refine wpAny_tests_one (thn (hCC _ O' _ s8 σ8 H8 (fun b' Ha=>b'=b/\∃ ma,Ext m5 H8 ma Ha/\RH X.K ma Ha hc) I8 ⟨m5,_,hh,b,hc,R7,S8,eC1,fun Ha ma xa Ra=>⟨rfl,ma,xa,Ra⟩⟩) fun b' s9 ⟨H9,I9,hbb,m9,x9,R9⟩=>?_)
      subst hbb
      cases b' with
      | false =>
       have eK:=(show some ((none:Option BT.D),hc)=some _ from eK)
       cases eK
       rw[if_neg (by decide)]
       obtain ⟨st9,fr9⟩:=kept I9
       have xt:Ext m5 H5 m9 H9:=x7.trans x9
       refine ⟨ds.length - (i+1),by omega,i+1,σ8,H9,m9,hA,out,rest',vs,us,nn,_,c,rfl,I9.iw,st9,fr9,x5.trans xt,R9,S8.ext x9,sq2,sq3,rv5,rd5.ext xt,eG,?_⟩
       rw[← ou5,eR]
      | true =>
       have eK:=(show BT.bnd _ BT.k9=_ from eK)
       rw[if_pos rfl]
       obtain ⟨w,hB,eE,eL⟩:=aj eK
       have:∃ d,o=some d:=by
        unfold BT.k9 at eL
        cases w with
        | p d'=>cases eL;exact ⟨_,rfl⟩
        | r _=>cases eL
        | k _=>cases eL
        | c _ _=>cases eL
        | x _=>cases eL
        | o _=>cases eL
       obtain ⟨d,rfl⟩:=this
       exact elem I9 x9 R9 eE eL rfl
    ·have ei:i=ds.length:=by omega
     subst ei
     rw[List.drop_length,BT.eZ] at go5
     cases go5
     rw[NT] at ou5
     subst ou5
     refine thn (T.done (blk X (tg++fv.map (·.2)) s2 H1 scope H2.objs.size fp) rfl rfl rfl (O.calm hu) _ _ s5 σ5 H5 _ I5 (stat fr5) st5 (ito.stop m5 H5 x5)) fun r s6 ⟨hr,I6⟩=>?_
     subst hr
     obtain ⟨mm,hmm,_⟩:=I6.loc
     obtain ⟨pD,nD,neD,nfD,_⟩:=I6.pin (s2.heap.objs.size,lobj us nn) (by simp)
     have neD:s2.heap.objs.size≠H2.objs.size:=neD
     have hos:s6.os=s2.os:=I6.os
     have lus:=rv5.length
     have lvs:=rd5.length
     have lle:=cV
     have cl':out.length<=BT.lim:=cl
     have hok:HOk X.prog X.w (upd H5 s2.heap.objs.size (.lst vs)) s6.heap:=fun b u e=>by
      by_cases eb:b=s2.heap.objs.size
      ·subst eb
       rw[bx] at e
       cases e
       exact ⟨by omega,us,nn,rv5,pD⟩
      ·rw[au eb] at e
       refine (I6.hok b u e).stay (fun c v hc q=>q) (fun c q=>?_) fun c l q=>?_
       ·rw[au (fun zz=>by rw[zz,nD] at q;cases q)];exact q
       ·rw[au (fun zz=>by rw[zz,nD] at q;cases q)];exact q
     have u7:Un (frs X.stack) fp H1 (upd H5 s2.heap.objs.size (.lst vs)) s2.heap s6.heap:=Un.behind (h1:=s6.heap) I6.base (fun b hb=>au (Np hb)) (fun b o e=>I1.hok.lt e) fun b o hb e=>e
     have I7:=I1.call (g':=s6.gens) (t':=s6.toks) (d':=s6.drawn) (ch:=fp) u7 hok I6.bare fun b hb=>⟨(hf b hb).2.2.2.1,(hf b hb).2.1,(hf b hb).2.2.2.2.1,(hf b hb).2.2.2.2.2⟩
     have fr6:H5 H2.objs.size=none:=I6.free
     have ltC:s2.heap.objs.size < H2.objs.size:=by rw[hCs];exact Os _
     have ap:Apart X pins (upd H5 s2.heap.objs.size (.lst vs)) H2.objs.size:=by
      refine ⟨by rw[au (Ne.symm neD)];exact fr6,?_,?_,fun x c e zz=>?_,fun p hp zz=>?_⟩
      ·exact Rt (Ru I1.lt ltC)
      ·exact Nq I1.sz (PK ltC)
      ·obtain ⟨v,o,ho,_⟩:=I1.cell x c e
       have l:=MW ho
       rw[zz] at l
       exact absurd (Ru l ltC) (N3 _)
      ·have l:=MW (I1.pin p hp).1
       rw[zz] at l
       exact absurd (Ru l ltC) (N3 _)
     refine hfin s6 _ _ _ mm ?_ hmm ap (nk (mu:=mu) R5 nD rd5 (by rw[ez];exact fun v' H' m' xx RR rr=>post v' H' m' ((x1.trans x5).trans xx) RR rr))
     obtain ⟨hp6,g6,d6,t6,os6⟩:=s6
     have hos:os6=s2.os:=hos
     subst hos
     exact I7
   exact codeAny_compStart_list (loop _ rfl) (T.self _ 0 _ _ _ (T.keep 0 _ _ st (fun b hb o e=>old b o e)) (loop _ rfl))
theorem AY (O:Ok X F G sc N) (hu:dI N=true) {mu:Bool}{sr:BT.Sr}{sa:BT.Es}{tg:List Str}{fv:List (Nat×Str)}{cond:BT.Es}{elt:BT.E}{te iter elt':MJ}{ifs:List MJ}{scope:M0}{pos:Pos}
 (hk:gU sc N tg fv scope=true) (ht:oX (br scope sc) tg te=true) (hset:gS iter=true) (hI:PI X te iter (iD X F G sr sa)) (hC:kr F G (br scope sc) (tg++fv.map (·.2)) cond ifs)
 (hE:∀ X',Ok X' F G (br scope sc) (tg++fv.map (·.2))->PE X' elt' (tD X' F G elt)):PE X (.ListComp elt' [⟨te,iter,ifs,0⟩] scope pos) (tD X F G (.comp mu sr sa tg fv cond elt)):=by
 intro pins s σ H Q I q
 rw[eval_ListComp]
 refine mj O hu hk ht hset hI hC hE pins s σ H Q none _ I q fun s6 H6 C D m I6 hn ap hq=>?_
 refine ⟨m,hn,fun h7 sb7=>?_⟩
 have sb7:Ow C s6.heap h7:=sb7
 exact ⟨.ref D,H6,Inv.turned (t':=s6.toks) I6 (fun b o hb e=>(sb7.2 b hb).trans e) ap.fr ap.lo (.inr ap.ab) ap.ce ap.pi,rfl,hq⟩
theorem sj (O:Ok X F G sc N) (hu:dI N=true) {i:Nat}{y:Str}{mu:Bool}{sr:BT.Sr}{sa:BT.Es}{tg:List Str}{fv:List (Nat×Str)}{cond:BT.Es}{elt:BT.E}{te iter elt':MJ}{ifs:List MJ}{scope:M0}{pos py spos:Pos}
 (hk:gU sc N tg fv scope=true) (ht:oX (br scope sc) tg te=true) (hset:gS iter=true) (hI:PI X te iter (iD X F G sr sa)) (hC:kr F G (br scope sc) (tg++fv.map (·.2)) cond ifs)
 (hE:∀ X',Ok X' F G (br scope sc) (tg++fv.map (·.2))->PE X' elt' (tD X' F G elt)) (hy:N[i]?=some y) (hl:sc.names.lookup y=some .local)
 (hsw:O7 (.ListComp elt' [⟨te,iter,ifs,0⟩] scope pos) (some (.Name y py)) spos.line X.env=pure true) :
 PS X (.Assign [.Name y py] (.ListComp elt' [⟨te,iter,ifs,0⟩] scope pos) spos) (uc (tD X F G (.comp mu sr sa tg fv cond elt)) (lK i)):=by
 intro pins s σ H D I q
 rw[exec_Assign_Name_used _ _ _ _ hsw]
 refine wpAny_bind (RN (wpAny_bind ?_))
 show wpAny _ X.A (do let _ ← comprehension (.ListComp elt' [⟨te,iter,ifs,0⟩] scope pos) scope X.env _ (newList []) false (eval iter X.env) (some (Q5 (.Name y py) X.env))) _ _ s
 refine wpAny_bind (thn (mj O hu hk ht hset hI hC hE pins s σ H _ (some (Q5 (.Name y py) X.env)) (fun _ s'=>SP X pins D .next s') I q fun s6 H6 C D' m I6 hn ap hq=>?_) fun _ s' hq=>wpAny_pure (wpAny_pure hq))
 show wpAny _ X.A (Q5 (.Name y py) X.env (.ref D')) _ _ _
 refine wpAny_assign_Name (iY I6 O.nd (by rw[O.hN];exact hy) (.inl (by rw[O.hsc];exact hl)) (v:=.ref D') rfl (fun s7 I7 hs=>?_) (.inr (by rw[O.hsc];exact hl)))
 obtain ⟨a,sb,ha⟩:=hs
 have neC:C≠a:=by
  rcases ha with rfl | ha
  ·exact ap.lo
  ·exact fun z=>ap.ce y a ha z.symm
 refine ⟨m,hn.sameBut sb neC,fun h8 sb8=>?_⟩
 have sb8:Ow C s7.heap h8:=sb8
 exact ⟨_,H6,Inv.turned (t':=s7.toks) I7 (fun b o hb e=>(sb8.2 b hb).trans e) ap.fr ap.lo (.inr ap.ab) ap.ce ap.pi,hq⟩
end
end BS
end
section
namespace BS
open PySem PySem.Spec PyProof.Rows L2
section
variable {F:FT}{G:Str->Option BT.W}
theorem uQ {X:Cx}{v:V}{ds:List BT.D} (r:∀ m H,RW X.prog X.w X.K m H v (.p (.tup ds))):∃ a vs,v=.ref a/\KT X.K a vs:=by
 have z:=r [] (fun _=>none)
 cases z with
 | p z =>
  cases z with
  | @tup a vs _ h _ =>
   rcases h with ⟨h,_⟩ | h
   ·rcases h with h | ⟨o,h⟩<;>cases h
   ·exact ⟨a,vs,rfl,h⟩
theorem uR {X:Cx}{sc:M0}{N:List Str} (O:Ok X F G sc N) {x:Str}{as:BT.Es}{es:List MJ}{np apos cpos:Pos} (h2:aT sc x=true) (h3:aH x=true) (hl:(apos.endLine==cpos.line)=true) (hlen:es.length < 20) (hc:CEs sc N as es) (ha:PA X es (tDs X F G as)) :
 PE X (.Call (.Attribute (.Name x np) "index" apos) es [] cpos) (tD X F G (.me .tindex (.glo x) as)):=by
 have hst:=cW hc
 intro pins s σ H Q I q
 obtain ⟨m,s',h,z,h',R,S,ee,post⟩:=q
 simp only[BT.ev] at ee
 obtain ⟨w,g,e1,e2⟩:=aj ee
 obtain ⟨_,e2⟩:=rR e2
 obtain ⟨ws,g2,e3,e4⟩:=aj e2
 obtain ⟨w',e5,e6⟩:=az e1
 cases e6
 obtain ⟨u,v0,hm,rv,rw0⟩:=O.glob _ _ e5
 have hT:∃ ds xs,BT.aJ ws=some ds/\w=.p (.tup xs)/\ds≠[]:=by
  cases w with
  | r n=>cases ws<;>(first | (cases e4;done) | simp[BT.meW] at e4)
  | k q=>cases ws<;>(first | (cases e4;done) | simp[BT.meW] at e4)
  | c _ _=>cases ws<;>(first | (cases e4;done) | simp[BT.meW] at e4)
  | x _=>cases ws<;>(first | (cases e4;done) | simp[BT.meW] at e4)
  | o q=>cases ws<;>(first | (cases e4;done) | simp[BT.meW] at e4)
  | p d =>
   rw[BT.jX] at e4
   cases gp:BT.aJ ws with
   | none=>rw[gp] at e4;cases e4
   | some ds =>
    rw[gp] at e4
    obtain ⟨b,e7,e8⟩:=az e4
    cases d with
    | tup xs=>refine ⟨ds,xs,rfl,rfl,fun z=>?_⟩;subst z;exact ai e7
    | _=>cases ds<;>exact ai e7
 obtain ⟨ds,xs,gp,rfl,hne⟩:=hT
 obtain ⟨a,vt,rfl,o,its,n,⟨k1,k2,k3,k4,k5⟩,k6⟩:=uQ rw0
 cases es with
 | nil =>
  cases as with
  | cons a r=>cases hc
  | nil=>simp only[BT.evs] at e3;cases e3;simp[BT.aJ] at gp;exact absurd gp hne
 | cons e es =>
  simp only[av,ML] at hst
  have h30:decide ((e :: es).length+([]:List Qn).length+(if ([]:List Qn).isEmpty then 0 else 1) < 30)=true:=decide_eq_true (by
   simp only[M5,NN,List.isEmpty_nil,if_true] at hlen ⊢;omega)
  refine (Ca PySem.F.plainAttrs_tuple PySem.F.slot_tuple_index PySem.F.type_tuple_index (uI O.hu) (mL (aY O h2) hm rv (cF h3).1) ha rfl (by
   rw[iQ (es:=e :: es) (by simp only[av,ML];exact hst),h30];rfl) hl (ak hst.1) (aR hst.2)) pins s σ H Q I ?_
  refine ⟨.inr (.inl ⟨rfl,o,k1,k2,k6⟩),m,s',h,ws,g2,R,S,e3,fun vs H2 m2 x2 R2 r2=>?_⟩
  exact ⟨m2,g2,.p (.tup xs),ws,z,h',R2,rw0 m2 H2,r2,e4,fun v5 H5 m5 x5 R5 r5=>post v5 H5 m5 (x2.trans x5) R5 r5⟩
theorem Er {X:Cx}{me:BT.Me} (hm:me=.append\/me=.pop\/me=.extend) {o:BT.E}:∀ (m:List MN) (h h2:BT.HH) (H:Hp) (v:V) (x:BT.W) ws r,RH X.K m H h->RW X.prog X.w X.K m H v x->BT.k8 x h=true->BT.meW me x ws h2=some r->(∃ σ s,RS X.prog X.w X.K m H σ s/\∃ h0,BT.ev F G o s h0=some (x,h))->tyV X.K "list" v H:=by
 intro m h h2 H v x ws r R rq ok e _
 obtain ⟨n,rfl⟩:=Ll hm e
 exact ty_list R rq ok
theorem Ln {X:Cx}{o:BT.E}:∀ (m:List MN) (h h2:BT.HH) (H:Hp) (v:V) (x:BT.W) ws r,RH X.K m H h->RW X.prog X.w X.K m H v x->BT.k8 x h=true->BT.meW .sindex x ws h2=some r->(∃ σ s,RS X.prog X.w X.K m H σ s/\∃ h0,BT.ev F G o s h0=some (x,h))->tyV X.K "str" v H:=by
 intro m h h2 H v x ws r R rq _ e _
 cases x with
 | r n=>cases ws<;>(first | (cases e;done) | simp[BT.meW] at e)
 | k q=>cases ws<;>(first | (cases e;done) | simp[BT.meW] at e)
 | c _ _=>cases ws<;>(first | (cases e;done) | simp[BT.meW] at e)
 | x _=>cases ws<;>(first | (cases e;done) | simp[BT.meW] at e)
 | o q=>cases ws<;>(first | (cases e;done) | simp[BT.meW] at e)
 | p d =>
  rw[BT.jY] at e
  cases g:BT.aJ ws with
  | none=>rw[g] at e;cases e
  | some ds =>
   rw[g] at e
   obtain ⟨b,e7,e8⟩:=az e
   cases d with
   | str y=>cases rq with | p r=>cases r;exact rfl
   | _=>cases ds<;>exact ai e7
theorem HF {X:Cx}{me:BT.Me} (hm:me=.count\/me=.lindex) {o:BT.E}:∀ (m:List MN) (h h2:BT.HH) (H:Hp) (v:V) (x:BT.W) ws r,RH X.K m H h->RW X.prog X.w X.K m H v x->BT.k8 x h=true->BT.meW me x ws h2=some r->(∃ σ s,RS X.prog X.w X.K m H σ s/\∃ h0,BT.ev F G o s h0=some (x,h))->tyV X.K "list" v H:=by
 intro m h h2 H v x ws r R rq _ e _
 have key:∃ xs,x=.p (.lst xs):=by
  cases x with
  | r n=>rcases hm with rfl | rfl<;>cases ws<;>(first | (cases e;done) | simp[BT.meW] at e)
  | k q=>rcases hm with rfl | rfl<;>cases ws<;>(first | (cases e;done) | simp[BT.meW] at e)
  | c _ _=>rcases hm with rfl | rfl<;>cases ws<;>(first | (cases e;done) | simp[BT.meW] at e)
  | x _=>rcases hm with rfl | rfl<;>cases ws<;>(first | (cases e;done) | simp[BT.meW] at e)
  | o q=>rcases hm with rfl | rfl<;>cases ws<;>(first | (cases e;done) | simp[BT.meW] at e)
  | p d =>
   rw[oZ] at e
   cases g:BT.aJ ws with
   | none=>rw[g] at e;cases e
   | some ds =>
    rw[g] at e
    obtain ⟨b,e7,e8⟩:=az e
    cases d with
    | lst y=>exact ⟨y,rfl⟩
    | _=>rcases hm with rfl | rfl<;>cases ds<;>exact ai e7
 obtain ⟨xs,rfl⟩:=key
 cases rq with
 | p r =>
  cases r with
  | @lst a vs _ h _=>exact .inl ⟨rfl,vs,LL.sq (h.elim (fun q=>.inl q.1) .inr)⟩
theorem Lo {X:Cx}{e:BT.E} (σ:L2.St) (H:Hp) (Q:Bool->Hp->Prop) (q:tDT X F G e σ H Q):tB (tD X F G e) σ H Q:=by
 obtain ⟨m,s,h0,b,h',R,S,ee,post⟩:=q
 refine ⟨m,s,h0,_,h',R,S,ee,fun v H' m' x R' r=>?_⟩
 exact ⟨b,jb r,post H' m' x R'⟩
noncomputable def XE (F:FT) (G:Str->Option BT.W) (X:Cx) (e':BT.E) (e:MJ):Prop:=PE X e (tD X F G e')/\(tOK e'=true->PT X e (tDT X F G e')/\∀ op vs p,e=.BoolOp op vs p->PW X e (tDT X F G e'))
noncomputable def XO (F:FT) (G:Str->Option BT.W) (X:Cx) (es':BT.Es) (o:Option MJ):Prop:=∃ t,PO X o t ∧
 ∀ σ H (Q:Option Int->Hp->Prop),(∃ m s h l zs h',RH X.K m H h/\RS X.prog X.w X.K m H σ s/\BT.evs F G es' s h=some (zs,h')/\(BT.aJ zs).bind BT.mW=some l/\∀ H' m',Ext m H m' H'->RH X.K m' H' h'->Q l H')->t σ H Q
theorem dg {X:Cx}{e':BT.E}{e:MJ} (p:PE X e (tD X F G e')) (hb:∀ op vs q,e≠.BoolOp op vs q) (he:∀ whole,isTrue e X.env whole=(do let v ← whole;standAt e.pos;holding [v] (truthy v)):=by intro _;rfl):XE F G X e' e :=
 ⟨p,fun _=>⟨PT.weak (CV p he) Lo,fun op vs q z=>absurd z (hb op vs q)⟩⟩
theorem Et {X:Cx}:XO F G X .nil none:=⟨_,zT,fun σ H Q q=>by
 obtain ⟨m,s,h,l,zs,h',R,S,e1,e2,post⟩:=q
 simp only[BT.evs] at e1
 cases e1
 simp[BT.aJ,BT.mW] at e2
 subst e2
 exact post H m (.refl _ _) R⟩
theorem Eu {X:Cx}{a:BT.E}{e:MJ} (ha:PE X e (tD X F G a)):XO F G X (.cons a .nil) (some e):=by
 refine ⟨_,zU ha,fun σ H Q q=>?_⟩
 obtain ⟨m,s,h,l,zs,h',R,S,e1,e2,post⟩:=q
 simp only[BT.evs] at e1
 obtain ⟨x,h1,e3,e4⟩:=aj e1
 simp only[BT.lX,BT.iF,BT.i9] at e4
 cases e4
 refine ⟨m,s,h,x,h',R,S,e3,fun v H1 m1 x1 R1 r1=>?_⟩
 cases r1 with
 | r _=>simp[BT.aJ] at e2
 | k _ _=>simp[BT.aJ] at e2
 | c _ _=>simp[BT.aJ] at e2
 | x _=>simp[BT.aJ] at e2
 | g _ _=>simp[BT.aJ] at e2
 | o _=>simp[BT.aJ] at e2
 | p r =>
  cases r<;>simp[BT.aJ,BT.mW] at e2
  subst e2
  exact ⟨_,rfl,post H1 m1 x1 R1⟩
theorem nK {X:Cx}{a:BT.E}{e:MJ} (ha:PE X e (tD X F G a)) (hs:noStar e=true):PA X [e] (tDs X F G (.cons a .nil)) :=
 PA.weak (cu ha fT (ak hs)) fun σ H Q q=>by
  obtain ⟨m,s,h,z0,h',R,S,ee,post⟩:=cons_of σ H Q q
  exact ⟨m,s,h,z0,h',R,S,ee,fun v H1 m1 x1 R1 r1=>eN (post v H1 m1 x1 R1 r1)⟩
theorem Ew {X:Cx}{a b:BT.E}{e f:MJ} (ha:PE X e (tD X F G a)) (hb:PE X f (tD X F G b)) (hs:noStar e=true) (hs2:noStar f=true):PA X [e,f] (tDs X F G (.cons a (.cons b .nil))) :=
 PA.weak (cu ha (nK hb hs2) (ak hs)) cons_of
theorem sMe {X:Cx}{sc:M0}{N:List Str} (O:Ok X F G sc N) {m:BT.Me}{o:BT.E}{as:BT.Es}{oe:MJ}{name:Str}{apos cpos:Pos}{es:List MJ} (h1:Aq m o=true) (h2:name=wK m) (h3:aO oe=true) (h6:(apos.endLine==cpos.line)=true) (h7:es.length < 20) (ho:CE' sc N o oe) (ha:CEs sc N as es) (hO:PE X oe (tD X F G o)) (hA:PA X es (tDs X F G as)) :
 PE X (.Call (.Attribute oe name apos) es [] cpos) (tD X F G (.me m o as)):=by
 subst h2
 cases m with
 | append=>exact jc (sc:=sc) (N:=N) Ob PySem.F.slot_list_append PySem.F.type_list_append uG h3 h6 h7 hO ha hA (Er (.inl rfl))
 | pop=>exact jc (sc:=sc) (N:=N) Ob PySem.F.slot_list_pop PySem.F.type_list_pop DY h3 h6 h7 hO ha hA (Er (.inr (.inl rfl)))
 | extend=>exact jc (sc:=sc) (N:=N) Ob PySem.F.slot_list_extend PySem.F.type_list_extend uH h3 h6 h7 hO ha hA (Er (.inr (.inr rfl)))
 | sindex=>exact jc (sc:=sc) (N:=N) PySem.F.plainAttrs_str PySem.F.slot_str_index PySem.F.type_str_index uJ h3 h6 h7 hO ha hA Ln
 | tindex =>
  cases ho with
  | glo hg hn=>exact uR O hg hn h6 h7 ha hA
  | _=>simp[Aq,wL] at h1
 | dget=>simp[Aq] at h1
 | count=>exact jc (sc:=sc) (N:=N) Ob PySem.F.slot_list_count PySem.F.type_list_count (xH O.hu) h3 h6 h7 hO ha hA (HF (.inl rfl))
 | lindex=>exact jc (sc:=sc) (N:=N) Ob PySem.F.slot_list_index PySem.F.type_list_index (uM O.hu) h3 h6 h7 hO ha hA (HF (.inr rfl))
theorem HG {X:Cx}{a b:BT.E}{x:MJ}{r:List MJ}{p:Pos} (pe:PE X (.BoolOp .And (x :: r) p) (tD X F G (.and a b))) (w:tOK (.and a b)=true->PW X (.BoolOp .And (x :: r) p) (tDT X F G (.and a b))):XE F G X (.and a b) (.BoolOp .And (x :: r) p) :=
 ⟨pe,fun ht=>⟨(w ht).pt,fun _ _ _ e=>by cases e;exact w ht⟩⟩
theorem sOr {X:Cx}{a b:BT.E}{x:MJ}{r:List MJ}{p:Pos} (pe:PE X (.BoolOp .Or (x :: r) p) (tD X F G (.or a b))) (w:tOK (.or a b)=true->PW X (.BoolOp .Or (x :: r) p) (tDT X F G (.or a b))):XE F G X (.or a b) (.BoolOp .Or (x :: r) p) :=
 ⟨pe,fun ht=>⟨(w ht).pt,fun _ _ _ e=>by cases e;exact w ht⟩⟩
theorem jM {a b:BT.E} (h:tOK (.and a b)=true):tOK a=true/\tOK b=true:=by
 have h:(tOK a&&tOK b)=true:=h
 simpa only[ML] using h
theorem nL {a b:BT.E} (h:tOK (.or a b)=true):tOK a=true/\tOK b=true:=by
 have h:(tOK a&&tOK b)=true:=h
 simpa only[ML] using h
theorem sX {sc:M0}{N:List Str}{e':BT.E}{e:MJ} (h:CE' sc N e' e) {X:Cx} (O:Ok X F G sc N):XE F G X e' e:=by
 refine @CE'.rec (fun sc N e' e _=>∀ (X:Cx),Ok X F G sc N->XE F G X e' e) (fun sc N as es _=>∀ (X:Cx),Ok X F G sc N->PA X es (tDs X F G as)) (fun sc N es' o _=>∀ (X:Cx),Ok X F G sc N->XO F G X es' o) (fun sc N cond ifs _=>kr F G sc N cond ifs) (fun sc N sr sa iter _=>∀ (X:Cx),Ok X F G sc N->∀ (tg:MJ),oW sr tg=true->PI X tg iter (iD X F G sr sa))
  (fun h1 h2 h3 X O=>dg (nB O h1 h2 h3) (fun _ _ _ z=>nomatch z))
  (fun h X O=>dg (AA h) (fun _ _ _ z=>nomatch z))
  (fun h2 h3 X O=>dg (AB O h2 h3) (fun _ _ _ z=>nomatch z))
  (fun h _ _ ia ib X O=>dg (PE.weak (Gf (opB h) (ia _ O).1 (ib _ O).1) (nA fun s h=>by simp only[BT.ev])) (fun _ _ _ z=>nomatch z))
  (fun _ ia X O=>dg (PE.weak (B6 vB (ia _ O).1) D7) (fun _ _ _ z=>nomatch z))
  (fun _ ia X O=>⟨PE.weak (CZ (ia _ O).1) AF,fun ht=>⟨PT.weak (CY ((ia _ O).2 ht).1) AE,fun _ _ _ e=>nomatch e⟩⟩)
  (fun _ _ ia ib X O=>HG (PE.weak (vm (ia _ O).1 (vj (ib _ O).1)) rV) fun ht=>PW.weak (vh ((ia _ O).2 (jM ht).1).1 (zD ((ib _ O).2 (jM ht).2).1)) rW)
  (fun _ _ ia ib X O=>HG (PE.weak (vm (ia _ O).1 (ib _ O).1) rV) fun ht=>PW.weak (vh ((ia _ O).2 (jM ht).1).1 (((ib _ O).2 (jM ht).2).2 _ _ _ rfl)) rW)
  (fun _ _ ia ib X O=>sOr (PE.weak (B3 (ia _ O).1 (vj (ib _ O).1)) xg) fun ht=>PW.weak (BY ((ia _ O).2 (nL ht).1).1 (CW ((ib _ O).2 (nL ht).2).1)) xh)
  (fun _ _ ia ib X O=>sOr (PE.weak (B3 (ia _ O).1 (ib _ O).1) xg) fun ht=>PW.weak (BY ((ia _ O).2 (nL ht).1).1 (((ib _ O).2 (nL ht).2).2 _ _ _ rfl)) xh)
  (fun h _ _ hm ia ib X O=>⟨PE.weak (zL (opC O h) (ia _ O).1 (ib _ O).1 hm) (nA fun s h=>by simp only[BT.ev]),fun _=>⟨PT.weak (zM (opC O h) (ia _ O).1 (ib _ O).1 hm) (o5 (nA fun s h=>by simp only[BT.ev])),fun _ _ _ e=>nomatch e⟩⟩)
  (fun h h' _ _ _ hm ia ib ic X O=>⟨PE.weak (vE (opC O h) (opC O h') (ia _ O).1 (ib _ O).1 (ic _ O).1 hm) o6,fun _=>⟨PT.weak (vF (opC O h) (opC O h') (ia _ O).1 (ib _ O).1 (ic _ O).1 hm) (o5 o6),fun _ _ _ e=>nomatch e⟩⟩)
  (fun h _ _ _ ic ia ib X O=>⟨PE.weak (vn ((ic _ O).2 h).1 (ia _ O).1 (ib _ O).1) D6,fun ht=>nomatch ht⟩)
  (fun _ ia X O=>⟨PE.weak (Dh (ia _ O)) Ea,fun ht=>nomatch ht⟩)
  (fun _ ia X O=>⟨PE.weak (Di (ia _ O)) Eb,fun ht=>nomatch ht⟩)
  (fun _ _ hs ia ii X O=>dg (PE.weak (Gw DX (ia _ O).1 (ii _ O).1 (w6 hs)) (nA fun s h=>by simp only[BT.ev])) (fun _ _ _ z=>nomatch z))
  (fun _ _ _ ia il iu X O=>dg (by
   obtain ⟨tl,hl1,hl2⟩:=il _ O
   obtain ⟨tu,hu1,hu2⟩:=iu _ O
   exact PE.weak (vQ osl (ia _ O).1 hl1 hu1) (D8 hl2 hu2)) (fun _ _ _ z=>nomatch z))
  (fun hg hn ha ia X O=>dg (xj O hg hn ha (ia _ O)) (fun _ _ _ z=>nomatch z))
  (fun hu hb hg hs _ ia X O=>dg (D9 O hu hb hg (by simp[av,hs]) (nK (ia _ O).1 hs)) (fun _ _ _ z=>nomatch z))
  (fun hb hg hg2 hs _ ia X O=>dg (xm O hb hg hg2 hs (ia _ O).1) (fun _ _ _ z=>nomatch z))
  (fun hx hn hg hg2 hs _ ia X O=>dg (AQ O hx hn hg hg2 hs (ia _ O).1) (fun _ _ _ z=>nomatch z))
  (fun h1 h2 h3 h6 h7 ho ha io ia X O=>dg (sMe O h1 h2 h3 h6 h7 ho ha (io _ O).1 (ia _ O)) (fun _ _ _ z=>nomatch z))
  (fun hu hk ht hz hs _ _ _ ii ic ie X O=>⟨AY O hu hk ht hs (ii _ O _ hz) ic fun X' O'=>(ie _ O').1,fun ht=>nomatch ht⟩)
  (fun hb hf _ ia X O=>dg (AH (sc:=sc) (N:=N) hb hf (ia _ O).1) (fun _ _ _ z=>nomatch z))
  (fun h3 h6 h7 _ ha io ia X O=>dg (xq O h3 h6 h7 (io _ O).1 ha (ia _ O)) (fun _ _ _ z=>nomatch z))
  (fun hk _ ia X O=>dg (AI hk (ia _ O).1) (fun _ _ _ z=>nomatch z))
  (fun hu hb hg hs1 hs2 _ _ ia ib X O=>dg (AJ O hu hb hg (by simp[av,hs1,hs2]) (Ew (ia _ O).1 (ib _ O).1 hs1 hs2)) (fun _ _ _ z=>nomatch z))
  (fun hg hn ha ia X O=>dg (xr O hg hn ha (ia _ O)) (fun _ _ _ z=>nomatch z))
  (fun X O=>PA.weak fT fun σ H Q q=>eN q)
  (fun hs _ _ ia ir X O=>PA.weak (cu (ia _ O).1 (ir _ O) (ak hs)) cons_of)
  (fun X O=>Et)
  (fun _ ia X O=>Eu (ia _ O).1)
  (.inl ⟨rfl,rfl⟩)
  (fun ht _ ia=>.inr ⟨_,_,rfl,rfl,fun X' O'=>((ia _ O').2 ht).1⟩)
  (fun hg hs _ ia X O _ _=>o8 O hg hs (nK (ia _ O).1 hs))
  (fun hg hs _ ia X O _ _=>r9 O hg hs (ia _ O).1)
  (fun _ ia X O _ _=>r8 (ia _ O).1)
  sc N e' e h X O
theorem sE {sc:M0}{N:List Str}{e':BT.E}{e:MJ} (h:CE' sc N e' e) {X:Cx} (O:Ok X F G sc N):PE X e (tD X F G e'):=(sX h O).1
theorem sT {sc:M0}{N:List Str}{e':BT.E}{e:MJ} (h:CE' sc N e' e) {X:Cx} (O:Ok X F G sc N) (ht:tOK e'=true):PT X e (tDT X F G e')/\∀ op vs p,e=.BoolOp op vs p->PW X e (tDT X F G e'):=(sX h O).2 ht
theorem sCC {sc:M0}{N:List Str}{cond:BT.Es}{ifs:List MJ} (h:CC sc N cond ifs):kr F G sc N cond ifs:=by
 cases h with
 | nil=>exact .inl ⟨rfl,rfl⟩
 | one ht ha=>exact .inr ⟨_,_,rfl,rfl,fun X' O'=>(sT ha O' ht).1⟩
theorem sCI {sc:M0}{N:List Str}{sr:BT.Sr}{sa:BT.Es}{iter:MJ} (h:CI sc N sr sa iter) {X:Cx} (O:Ok X F G sc N) {tg:MJ} (hz:oW sr tg=true):PI X tg iter (iD X F G sr sa):=by
 cases h with
 | seq h=>exact r8 (sE h O)
 | rng1 hg hs h=>exact o8 O hg hs (nK (sE h O) hs)
 | rev hg hs h=>exact r9 O hg hs (sE h O)
end
end BS
end
section
namespace BS
open PySem PySem.Spec PyProof.Rows L2
end BS
end
section
namespace BS
open PySem PySem.Spec PyProof.Rows L2
open Classical in
section
variable {cl:List (Str×MN)}{h:Heap}{H:Hp}{b:MN}
end
section
variable {F:FT}{G:Str->Option BT.W}
end
end BS
end
section
namespace BS
open PySem PySem.Spec PyProof.Rows L2
noncomputable def g9:MJ->Bool
 | .ListComp _ _ _ _=>false
 | .SetComp _ _ _ _=>false
 | .DictComp _ _ _ _ _=>false
 | _=>true
noncomputable def swB (sc scope:M0) (x:Str) (np pos:Pos):Bool :=
 (if sc.kind.isAnnotationScope then ScopeKind.function else sc.kind)==.function&&sc.names.lookup x==some .local&&np.line==pos.line&&!(scope.names.any fun (n,k)=>n==x&&(k==.local||k==.cell))
mutual
inductive CS (sc:M0) (N:List Str):BT.S->M1->Prop where
 | setc {i:Nat}{x:Str}{mu:Bool}{sr:BT.Sr}{sa:BT.Es}{tg:List Str}{fv:List (Nat×Str)}{cond:BT.Es}{elt:BT.E}{te iter elt':MJ}{ifs:List MJ}{scope:M0}{pos np p:Pos} (hu:dI N=true) (h1:N[i]?=some x) (h3:(sc.names.lookup x==some .cell||swB sc scope x np pos)=true)
  (hk:gU sc N tg fv scope=true) (ht:oX (br scope sc) tg te=true) (hz:oW sr te=true) (hs:gS iter=true) (hi:CI sc N sr sa iter) (hc:CC (br scope sc) (tg++fv.map (·.2)) cond ifs) (he:CE' (br scope sc) (tg++fv.map (·.2)) elt elt') :
  CS sc N (.set i x (.comp mu sr sa tg fv cond elt)) (.Assign [.Name x np] (.ListComp elt' [⟨te,iter,ifs,0⟩] scope pos) p)
 | set {i:Nat}{x:Str}{e:BT.E}{v:MJ}{np p:Pos} (h1:N[i]?=some x) (h2:ko sc x=true) (h3:g9 v=true) (he:CE' sc N e v):CS sc N (.set i x e) (.Assign [.Name x np] v p)
 | put {i:Nat}{x:Str}{k e:BT.E}{ke v:MJ}{np sp p:Pos} (h1:N[i]?=some x) (h2:oV sc x=true) (h3:aH x=true) (h4:g9 v=true) (h5:jG ke=true) (hk:CE' sc N k ke) (he:CE' sc N e v):CS sc N (.put i x k e) (.Assign [.Subscript (.Name x np) ke sp] v p)
 | aug {i:Nat}{x:Str}{o:BT.Bin}{op:OQ}{e:BT.E}{v:MJ}{np p:Pos} (h1:N[i]?=some x) (h2:ko sc x=true) (h3:xu o op=true) (he:CE' sc N e v):CS sc N (.aug i x o e) (.AugAssign (.Name x np) op v p)
 | setf {o e:BT.E}{f:Str}{oe v:MJ}{np p:Pos} (h1:attrName f=true) (h2:g9 v=true) (ho:CE' sc N o oe) (he:CE' sc N e v):CS sc N (.setf o f e) (.Assign [.Attribute oe f np] v p)
 | augf {o e:BT.E}{f:Str}{b:BT.Bin}{op:OQ}{oe v:MJ}{np p:Pos} (h1:attrName f=true) (h3:xu b op=true) (ho:CE' sc N o oe) (he:CE' sc N e v):CS sc N (.augf o f b e) (.AugAssign (.Attribute oe f np) op v p)
 | ex {e:BT.E}{v:MJ}{p:Pos} (h:g9 v=true) (he:CE' sc N e v):CS sc N (.ex e) (.Expr v p)
 | ret {e:BT.E}{v:MJ}{p:Pos} (he:CE' sc N e v):CS sc N (.ret e) (.Return (some v) p)
 | ife {c:BT.E}{a b:BT.S}{t:MJ}{xs ys:List M1}{p:Pos} (h:tOK c=true) (hc:CE' sc N c t) (ha:CSs sc N a xs) (hb:CSs sc N b ys):CS sc N (.ife c a b) (.If t xs ys p)
 | whl {c:BT.E}{b:BT.S}{t:MJ}{xs:List M1}{p:Pos} (h:tOK c=true) (hc:CE' sc N c t) (hb:CSs sc N b xs):CS sc N (.whl c b) (.While t xs [] p)
 | for {tg:List (Nat×Str)}{sr:BT.Sr}{sa:BT.Es}{b:BT.S}{te iter:MJ}{xs:List M1}{p:Pos} (hu:dI N=true) (ht:CT sc N tg te) (hi:CI sc N sr sa iter) (hz:oW sr te=true) (hs:gS iter=true) (hb:CSs sc N b xs):CS sc N (.for tg sr sa b) (.For te iter xs [] p)
 | brk {p:Pos}:CS sc N .brk (.Break p)
 | cnt {p:Pos}:CS sc N .cnt (.Continue p)
 | bad {st:M1}:CS sc N .bad st
inductive CSs (sc:M0) (N:List Str):BT.S->List M1->Prop where
 | nil:CSs sc N .nil []
 | one {s:BT.S}{st:M1} (h:CS sc N s st):CSs sc N s [st]
 | cons {a b:BT.S}{st st2:M1}{r:List M1} (h:CS sc N a st) (hr:CSs sc N b (st2 :: r)):CSs sc N (.seq a b) (st :: st2 :: r)
end
noncomputable def iS (X:Cx) (m:List MN) (H:Hp) (fl:BT.Fl) (D:Ends):Prop:=match fl with
 | .nx s' h'=>∀ σ' H' m',Ext m H m' H'->RH X.K m' H' h'->RS X.prog X.w X.K m' H' σ' s'->D.nx σ' H'
 | .rt z h'=>∀ v H' m',Ext m H m' H'->RH X.K m' H' h'->RW X.prog X.w X.K m' H' v z->D.rt v H'
 | .bk s' h'=>∀ σ' H' m',Ext m H m' H'->RH X.K m' H' h'->RS X.prog X.w X.K m' H' σ' s'->D.bk σ' H'
 | .ct s' h'=>∀ σ' H' m',Ext m H m' H'->RH X.K m' H' h'->RS X.prog X.w X.K m' H' σ' s'->D.ct σ' H'
theorem iS.ext {X:Cx}{m m':List MN}{H H':Hp}{fl:BT.Fl}{D:Ends} (x:Ext m H m' H') (p:iS X m H fl D):iS X m' H' fl D:=by
 cases fl<;>exact fun a b c y=>p a b c (x.trans y)
noncomputable def tDS (X:Cx) (F:FT) (G:Str->Option BT.W) (S:BT.S):TS:=fun D σ H =>
 ∃ m s h fl,RH X.K m H h/\RS X.prog X.w X.K m H σ s/\BT.evS F G S s h=some fl/\iS X m H fl D
theorem PS.weak {X:Cx}{st:M1}{t t':TS} (h:PS X st t) (q:∀ D σ H,t' D σ H->t D σ H):PS X st t':=fun pins s σ H D I hw=>h pins s σ H D I (q _ _ _ hw)
theorem PSs.weak {X:Cx}{st:List M1}{t t':TS} (h:PSs X st t) (q:∀ D σ H,t' D σ H->t D σ H):PSs X st t':=fun pins s σ H D I hw=>h pins s σ H D I (q _ _ _ hw)
section
variable {F:FT}{G:Str->Option BT.W}
theorem xN {X:Cx}{a b:BT.S} (D:Ends) (σ:L2.St) (H:Hp) (q:tDS X F G (.seq a b) D σ H):F6 (tDS X F G a) (tDS X F G b) D σ H:=by
 obtain ⟨m,s,h,fl,R,S,e,post⟩:=q
 simp only[BT.evS] at e
 cases g:BT.evS F G a s h with
 | none=>rw[g] at e;cases e
 | some f1 =>
  rw[g] at e
  refine ⟨m,s,h,f1,R,S,g,?_⟩
  cases f1 with
  | nx s1 h1=>exact fun σ1 H1 m1 x1 R1 S1=>⟨m1,s1,h1,fl,R1,S1,e,post.ext x1⟩
  | rt z h1=>cases e;exact post
  | bk s1 h1=>cases e;exact post
  | ct s1 h1=>cases e;exact post
theorem gc {X:Cx}{S0:BT.S}{a:BT.E}{k:BT.Sl->BT.W->BT.HH->Option BT.Fl} (he:∀ s h,BT.evS F G S0 s h=BT.bnd (BT.ev F G a s h) (k s)) {D:Ends}{σ:L2.St}{H:Hp} (q:tDS X F G S0 D σ H) {R':V->Hp->Prop}
 (h1:∀ m s h x fl v H1,RH X.K m H1 h->RS X.prog X.w X.K m H1 σ s->RW X.prog X.w X.K m H1 v x->k s x h=some fl->iS X m H1 fl D->R' v H1):tD X F G a σ H R':=by
 obtain ⟨m,s,h,fl,R,S,ee,post⟩:=q
 rw[he] at ee
 obtain ⟨x,g,e1,e2⟩:=aj ee
 exact ⟨m,s,h,x,g,R,S,e1,fun v H1 m1 x1 R1 r1=>h1 m1 s g x fl v H1 R1 (S.ext x1) r1 e2 (post.ext x1)⟩
theorem nM {x:Option (BT.W×BT.HH)}{k:Bool->BT.HH->Option BT.Fl}{fl:BT.Fl} (h:BT.tst x k=some fl):∃ b g,x=some (.p (.bl b),g)/\k b g=some fl:=by
 unfold BT.tst at h
 obtain ⟨w,g,e1,e2⟩:=aj h
 unfold BT.G5 at e2
 cases w with
 | p d =>
  cases d<;>simp only at e2<;>try contradiction
  exact ⟨_,g,e1,e2⟩
 | r n=>cases e2
 | k q=>cases e2
 | c _ _=>cases e2
 | x _=>cases e2
 | o q=>cases e2
theorem eU {e:MJ}{t:Option MJ}{l:Nat}{env:Env} (h:g9 e=true):O7 e t l env=pure false:=by
 cases e<;>first | rfl | cases h
theorem su {e t:MJ}{l:Nat}{env:Env} (h:g9 e=true):swapsWithSole [t] e l env=pure false:=eU h
theorem ku {o i:MJ}{pos:Pos}{env:Env} (h:jG i=true):∀ v,Q5 (.Subscript o i pos) env v=(do
 let ov ← holding [v] (eval o env)
 let iv ← holding [v,ov] (eval i env)
 standAt pos
 holding [v,ov,iv] (setItem ov iv v)
 release [v,ov,iv] []):=by
 intro v
 cases i<;>first | rfl | cases h
theorem xO {X:Cx}{c:BT.E}{b:BT.S} (D:Ends) (σ:L2.St) (H:Hp) (q:tDS X F G (.whl c b) D σ H):vv (tDT X F G c) (tDS X F G b) D σ H:=by
 obtain ⟨m0,s,h,fl,R,S,e,post⟩:=q
 simp only[BT.evS] at e
 refine ⟨fun n σ H=>∃ m s h,RH X.K m H h/\RS X.prog X.w X.K m H σ s/\BT.cQ (BT.ev F G c) (BT.evS F G b) n s h=some fl/\iS X m H fl D,⟨BT.turns,m0,s,h,R,S,e,post⟩,?_⟩
 rintro n σ1 H1 ⟨m,s,h,R,S,e,post⟩
 cases n with
 | zero=>cases e
 | succ n =>
  rw[BT.cQ] at e
  obtain ⟨t,g,e1,e2⟩:=nM e
  refine ⟨m,s,h,t,g,R,S,e1,fun H2 m2 x2 R2=>?_⟩
  cases t with
  | false =>
   rw[BT.qw] at e2
   cases e2
   rw[if_neg (by decide)]
   exact post σ1 H2 m2 x2 R2 (S.ext x2)
  | true =>
   rw[BT.m7] at e2
   rw[if_pos rfl]
   refine ⟨fun σ' H'=>∃ m' s' h',RH X.K m' H' h'/\RS X.prog X.w X.K m' H' σ' s'/\BT.cQ (BT.ev F G c) (BT.evS F G b) n s' h'=some fl/\iS X m' H' fl D,fun σ' H' ⟨m',s',h',a1,a2,a3,a4⟩=>⟨n,Os n,m',s',h',a1,a2,a3,a4⟩,?_⟩
   cases gb:BT.evS F G b s g with
   | none=>rw[gb] at e2;cases e2
   | some f1 =>
    rw[gb] at e2
    refine ⟨m2,s,g,f1,R2,S.ext x2,gb,?_⟩
    cases f1 with
    | nx s1 h1=>exact fun σ3 H3 m3 x3 R3 S3=>⟨m3,s1,h1,R3,S3,e2,(post.ext x2).ext x3⟩
    | ct s1 h1=>exact fun σ3 H3 m3 x3 R3 S3=>⟨m3,s1,h1,R3,S3,e2,(post.ext x2).ext x3⟩
    | bk s1 h1=>cases e2;exact fun σ3 H3 m3 x3 R3 S3=>post σ3 H3 m3 (x2.trans x3) R3 S3
    | rt z h1=>cases e2;exact fun v H3 m3 x3 R3 r3=>post v H3 m3 (x2.trans x3) R3 r3
theorem xP {X:Cx}{i:Nat}{x:Str}{o:BT.Bin}{e:BT.E} (D:Ends) (σ:L2.St) (H:Hp) (q:tDS X F G (.aug i x o e) D σ H):Gb i (tD X F G e) (Ec o) D σ H:=by
 obtain ⟨m,s,h,fl,R,S,ee,post⟩:=q
 simp only[BT.evS] at ee
 obtain ⟨y,g,e1,e2⟩:=aj ee
 unfold BT.Hi at e2
 have hs:∃ d d' z,s[i]?=some (some (.p d))/\y=.p d'/\BT.jW o d d'=some z/\fl=.nx (s.set i (some (.p z))) g:=by
  cases g1:s[i]? with
  | none=>rw[g1] at e2;cases y<;>cases e2
  | some ow =>
   cases ow with
   | none=>rw[g1] at e2;cases y<;>cases e2
   | some w0 =>
    rw[g1] at e2
    cases w0<;>cases y<;>simp only at e2<;>try contradiction
    obtain ⟨z,e3,e4⟩:=az e2
    exact ⟨_,_,z,rfl,rfl,e3,e4.symm⟩
 obtain ⟨d,d',z,g1,rfl,e3,rfl⟩:=hs
 obtain ⟨a,b,k,rfl,rfl,rfl⟩:=rY e3
 obtain ⟨v,hv,rv⟩:=S.get i _ g1
 have ev:v=.int a:=by cases rv with | p rv=>cases rv;rfl
 subst ev
 refine ⟨_,hv,m,s,h,_,g,R,S,e1,fun u H1 m1 x1 R1 r1=>?_⟩
 cases r1 with
 | p r1 =>
  cases r1
  exact ⟨a,b,k,rfl,rfl,e3,post _ H1 m1 x1 R1 ((S.ext x1).set (.p (.int k)))⟩
theorem uS {s:BT.Sl}{f:Str}{v x:BT.W}{h:BT.HH}{fl:BT.Fl} (e:BT.ng s f v x h=some fl):∃ n c fs,x=.o n/\BT.oat h n=some (c,fs)/\BT.attrOk v=true/\fs.length < 1000/\fl=.nx s (h.set n (.o c (BT.bz f v fs))):=by
 cases x with
 | o n =>
  rw[BT.wC] at e
  cases g:BT.oat h n with
  | none=>rw[g] at e;cases e
  | some q =>
   obtain ⟨c,fs⟩:=q
   rw[g] at e
   simp only at e
   split at e
   ·rename_i c1
    cases e
    simp only[ML,decide_eq_true_eq] at c1
    exact ⟨n,c,fs,rfl,g,c1.1,c1.2,rfl⟩
   ·cases e
 | p d=>cases e
 | r n=>cases e
 | k q=>cases e
 | c _ _=>cases e
 | x _=>cases e
theorem pA {X:Cx}{D:Ends}{m:List MN}{H:Hp}{σ:L2.St}{s:BT.Sl}{h:BT.HH}{n:Nat}{c f:Str}{fs:List (Str×BT.W)}{y:BT.W}{v:V}{a C dx:MN}{vs:List (Str×V)} (R:RH X.K m H h) (S:RS X.prog X.w X.K m H σ s) (hn:m[n]?=some a) (h1:H a=some (.ins C dx vs)) (h2:iJ X.K c C) (h3:RFs X.K m H vs fs) (ra:RA X.K m H v y)
 (post:iS X m H (.nx s (h.set n (.o c (BT.bz f y fs)))) D):D.nx σ (upd H a (.ins C dx (L2.bz f v vs))):=by
 have x:Ext m H m (upd H a (.ins C dx (L2.bz f v vs))):=j9 (MZ hn)
 exact post σ _ m x (R.setC hn ⟨C,dx,_,bx,h2,(RFs.put ra h3).ext x⟩) (S.ext x)
theorem sy {X:Cx}{o e:BT.E}{f:Str} (hf:attrName f=true) (D:Ends) (σ:L2.St) (H:Hp) (q:tDS X F G (.setf o f e) D σ H):Gp X.K (tD X F G o) (tD X F G e) f D σ H:=by
 refine gc (k:=fun s=>BT.wD (BT.ev F G o s) s f) (fun s h=>by simp only[BT.evS]) q fun m s h y fl v H1 R S r e1 post=>?_
 rw[BT.wF] at e1
 obtain ⟨x,g,e2,e3⟩:=aj e1
 obtain ⟨n,c,fs,rfl,g1,ok,hl,rfl⟩:=uS e3
 refine ⟨m,s,h,.o n,g,R,S,e2,fun u H2 m2 x2 R2 r2=>?_⟩
 cases r2 with
 | @o a _ hn =>
  obtain ⟨C,dx,vs,q1,q2,q3⟩:=R2.lY _ _ _ _ hn g1
  exact ⟨a,C,dx,vs,rfl,q1,q2.cls,q2.no f hf,by rw[q3.length];exact hl,pA R2 (S.ext x2) hn q1 q2 q3 ((r.ext x2).ra ok) (post.ext x2)⟩
theorem xQ {ee:BT.EH}{s:BT.Sl}{f:Str}{op:BT.Bin}{x:BT.W}{h:BT.HH}{fl:BT.Fl} (e:BT.rN ee s f op x h=some fl):∃ n c fs d y g fs' z,x=.o n/\BT.oat h n=some (c,fs)/\BT.aX f fs=some (.p d)/\ee h=some (.p y,g)/\BT.oat g n=some (c,fs')/\BT.jW op d y=some z/\fs'.length < 1000/\fl=.nx s (g.set n (.o c (BT.bz f (.p z) fs'))):=by
 cases x with
 | o n =>
  rw[BT.Am] at e
  cases g1:BT.oat h n with
  | none=>rw[g1] at e;cases e
  | some q =>
   obtain ⟨c,fs⟩:=q
   rw[g1] at e
   simp only at e
   cases g2:BT.aX f fs with
   | none=>rw[g2] at e;cases e
   | some w0 =>
    rw[g2] at e
    cases w0 with
    | p d =>
     simp only at e
     obtain ⟨y,g,e1,e2⟩:=aj e
     cases y with
     | p y =>
      rw[BT.wG] at e2
      cases g3:BT.oat g n with
      | none=>rw[g3] at e2;cases e2
      | some q =>
       obtain ⟨c',fs'⟩:=q
       rw[g3] at e2
       simp only at e2
       cases g4:BT.jW op d y with
       | none=>rw[g4] at e2;cases e2
       | some z =>
        rw[g4] at e2
        simp only at e2
        split at e2
        ·rename_i c1
         cases e2
         obtain ⟨rfl,c1⟩:=c1
         exact ⟨n,c',fs,d,y,g,fs',z,rfl,g1,g2,e1,g3,g4,c1,rfl⟩
        ·cases e2
     | r n=>cases e2
     | k q=>cases e2
     | c _ _=>cases e2
     | x _=>cases e2
     | o n=>cases e2
    | r n=>cases e
    | k q=>cases e
    | c _ _=>cases e
    | x _=>cases e
    | o n=>cases e
 | p d=>cases e
 | r n=>cases e
 | k q=>cases e
 | c _ _=>cases e
 | x _=>cases e
theorem sA {X:Cx}{o e:BT.E}{f:Str}{b:BT.Bin} (hf:attrName f=true) (D:Ends) (σ:L2.St) (H:Hp) (q:tDS X F G (.augf o f b e) D σ H):rm X.K (tD X F G o) (tD X F G e) (Ec b) f D σ H:=by
 refine gc (k:=fun s=>BT.rN (BT.ev F G e s) s f b) (fun s h=>by simp only[BT.evS]) q fun m s h y fl v H1 R S r e1 post=>?_
 obtain ⟨n,c,fs,d,y,g,fs',z,rfl,g1,g2,e2,g3,g4,hl,rfl⟩:=xQ e1
 obtain ⟨i,j,k,rfl,rfl,rfl⟩:=rY g4
 cases r with
 | @o a _ hn =>
  obtain ⟨C,dx,vs,q1,q2,q3⟩:=R.lY _ _ _ _ hn g1
  obtain ⟨u,l,ra⟩:=q3.get g2
  have eu:u=.int i:=by cases ra with | p ra=>cases ra;rfl
  subst eu
  refine ⟨a,C,dx,vs,_,rfl,q1,q2.cls,q2.no f hf,l,m,s,h,_,g,R,S,e2,fun u2 H2 m2 x2 R2 r2=>?_⟩
  cases r2 with
  | p r2 =>
   cases r2
   obtain ⟨C',dx',vs',p1,p2,p3⟩:=R2.lY _ _ _ _ (x2.ix hn) g3
   cases p2.cn.inj q2.cn
   exact ⟨i,j,k,rfl,rfl,g4,dx',vs',p1,by rw[p3.length];exact hl,pA R2 (S.ext x2) (x2.ix hn) p1 p2 p3 (.p (.int k)) (post.ext x2)⟩
theorem xR {X:Cx}{i:Nat}{x:Str}{k e:BT.E} (D:Ends) (σ:L2.St) (H:Hp) (q:tDS X F G (.put i x k e) D σ H):uc (tD X F G e) (Ga (tD X F G (.var i x)) (tD X F G k) B9) D σ H:=by
 refine gc (k:=fun s=>BT.DN (BT.ev F G k s) s i) (fun s h=>by simp only[BT.evS]) q fun m s h y fl v H1 R S r e1 post=>?_
 unfold BT.DN at e1
 cases y with
 | r n=>cases e1
 | k q=>cases e1
 | c _ _=>cases e1
 | x _=>cases e1
 | o q=>cases e1
 | p d =>
  cases g:s[i]? with
  | none=>rw[g] at e1;cases e1
  | some o =>
   cases o with
   | none=>rw[g] at e1;cases e1
   | some wz =>
    cases wz with
    | p _=>rw[g] at e1;cases e1
    | k _=>rw[g] at e1;cases e1
    | c _ _=>rw[g] at e1;cases e1
    | x _=>rw[g] at e1;cases e1
    | o _=>rw[g] at e1;cases e1
    | r n =>
     rw[g] at e1
     simp only at e1
     obtain ⟨q,h2,e2,e3⟩:=aj e1
     refine ⟨m,s,h,.r n,h,R,S,by simp only[BT.ev,g],fun o H2 m2 x2 R2 r2=>⟨m2,s,h,q,h2,R2,S.ext x2,e2,fun ki H3 m3 x3 R3 r3=>?_⟩⟩
     unfold BT.Cj at e3
     cases q with
     | r _=>cases e3
     | k _=>cases e3
     | c _ _=>cases e3
     | x _=>cases e3
     | o _=>cases e3
     | p dk =>
      cases g2:BT.lat h2 n with
      | none=>rw[g2] at e3;cases dk<;>cases e3
      | some xs =>
       rw[g2] at e3
       cases dk with
       | int j =>
        simp only at e3
        cases g3:BT.place xs.length j with
        | none=>rw[g3] at e3;cases e3
        | some mm =>
         rw[g3] at e3
         cases e3
         have r2':=r2.ext x3
         cases r2' with
         | @r a _ hn =>
          cases r3 with
          | p r3 =>
           cases r3
           obtain ⟨us,hH,ru⟩:=R3.cell n a xs hn g2
           refine ⟨a,us,j,mm,rfl,rfl,hH,by rw[ru.length];exact g3,?_⟩
           have x4:Ext m3 H3 m3 (upd H3 a (.lst (us.set mm v))):=fu (MZ hn) hH
           cases r with
           | p r=>exact post σ _ m3 ((x2.trans x3).trans x4) (R3.set hn hH (RDs.set ((r.ext x2).ext x3) mm ru)) (((S.ext x2).ext x3).ext x4)
       | _=>cases e3
end
end BS
end
section
namespace BS
open PySem PySem.Spec PyProof.Rows L2
section
variable {F:FT}{G:Str->Option BT.W}
theorem xS {X:Cx}{tg:List (Nat×Str)}{sr:BT.Sr}{sa:BT.Es}{b:BT.S}{g:TG} (hg:GOk X tg g) (D:Ends) (σ:L2.St) (H:Hp) (q:tDS X F G (.for tg sr sa b) D σ H):Ge (iD X F G sr sa) g (tDS X F G b) D σ H:=by
 obtain ⟨m,s,h,fl,R,S,e,post⟩:=q
 simp only[BT.evS] at e
 obtain ⟨ws,h1,e1,e2⟩:=aj e
 unfold BT.kFor at e2
 cases g1:(BT.rds ws h1).bind (BT.gF sr) with
 | none=>rw[g1] at e2;cases e2
 | some ds =>
  rw[g1] at e2
  simp only at e2
  split at e2
  ·rename_i ca
   refine ⟨m,s,h,ws,h1,ds,R,S,e1,g1,ca,fun H1 m1 J x1 R1 it=>?_⟩
   refine ⟨fun i n σ H=>i<=ds.length/\n=ds.length - i/\∃ m s h,Ext m1 H1 m H/\RH X.K m H h/\RS X.prog X.w X.K m H σ s/\BT.fW (BT.evS F G b) tg (ds.drop i) s h=some fl/\iS X m H fl D,
    ⟨ds.length,Od _,rfl,m1,s,h1,.refl _ _,R1,S.ext x1,by rw[PP];exact e2,post.ext x1⟩,?_⟩
   rintro i n σ2 H2 ⟨hi,rfl,m2,s2,h2,x2,R2,S2,e3,post2⟩
   by_cases c:i < ds.length
   ·refine .inr ⟨it.go m2 H2 i x2 c,_,fun σ' H' z=>⟨ds.length - (i+1),by omega,c,rfl,z⟩,fun x H3 y=>?_⟩
    obtain ⟨x3,k3,r3⟩:=it.yld m2 H2 h2 i x H3 ds[i] x2 R2 (MT c) y
    rw[QN c,BT.fW] at e3
    cases g2:BT.target tg.length ds[i] with
    | none=>rw[g2] at e3;cases e3
    | some dd =>
     rw[g2] at e3
     simp only at e3
     have R3:=R2.ext x3 k3
     refine hg m2 H3 σ2 s2 x ds[i] dd _ (S2.ext x3) r3 g2 fun σ4 S4=>?_
     cases g3:BT.evS F G b (BT.sets tg dd s2) h2 with
     | none=>rw[g3] at e3;cases e3
     | some f1 =>
      rw[g3] at e3
      refine ⟨m2,_,h2,f1,R3,S4,g3,?_⟩
      cases f1 with
      | nx s5 h5=>exact fun σ5 H5 m5 x5 R5 S5=>⟨m5,s5,h5,(x2.trans x3).trans x5,R5,S5,e3,(post2.ext x3).ext x5⟩
      | ct s5 h5=>exact fun σ5 H5 m5 x5 R5 S5=>⟨m5,s5,h5,(x2.trans x3).trans x5,R5,S5,e3,(post2.ext x3).ext x5⟩
      | bk s5 h5=>cases e3;exact fun σ5 H5 m5 x5 R5 S5=>post2 σ5 H5 m5 (x3.trans x5) R5 S5
      | rt z h5=>cases e3;exact fun v H5 m5 x5 R5 r5=>post2 v H5 m5 (x3.trans x5) R5 r5
   ·have ei:i=ds.length:=by omega
    subst ei
    refine .inl ⟨it.stop m2 H2 x2,?_⟩
    rw[List.drop_length,BT.fW] at e3
    cases e3
    exact post2 σ2 H2 m2 (.refl _ _) R2 S2
  ·cases e2
theorem Cu {X:Cx}{sc:M0}{N:List Str} (O:Ok X F G sc N) {x:Str}{np pos p:Pos}{elt':MJ}{gs:List Comprehension}{scope:M0} (h:swB sc scope x np pos=true):O7 (.ListComp elt' gs scope pos) (some (.Name x np)) p.line X.env=pure true:=by
 have e:O7 (.ListComp elt' gs scope pos) (some (.Name x np)) p.line X.env=pure (swB X.env.scope scope x np pos):=rfl
 rw[e,O.hsc,h]
theorem sC {sc:M0}{x:Str} (c:(sc.names.lookup x==some .cell)=true):ko sc x=true:=by
 unfold ko
 rw[eq_of_beq c]
theorem qC {sc scope:M0}{x:Str}{np pos:Pos} (h:swB sc scope x np pos=true):sc.names.lookup x=some .local:=by
 unfold swB at h
 simp only[ML] at h
 exact eq_of_beq h.1.1.2
theorem Cv {X:Cx}{sc:M0}{N:List Str} (O:Ok X F G sc N) {x:Str}{np pos p:Pos}{elt':MJ}{gs:List Comprehension}{scope:M0} (c:(sc.names.lookup x==some .cell)=true):O7 (.ListComp elt' gs scope pos) (some (.Name x np)) p.line X.env=pure false:=by
 have e:O7 (.ListComp elt' gs scope pos) (some (.Name x np)) p.line X.env=pure (swB X.env.scope scope x np pos):=rfl
 have z:swB sc scope x np pos=false:=by
  cases h:swB sc scope x np pos with
  | false=>rfl
  | true =>
   have:=qC h
   rw[eq_of_beq c] at this
   cases this
 rw[e,O.hsc,z]
theorem sSs {X:Cx}{sc:M0}{N:List Str} (O:Ok X F G sc N) (hf:∀ x,X.fn x=true) {s:BT.S}{sts:List M1} (hh:CSs sc N s sts):PSs X sts (tDS X F G s) :=
 CSs.rec (motive_1:=fun s st _=>PS X st (tDS X F G s)) (motive_2:=fun s sts _=>PSs X sts (tDS X F G s))
  (@fun i x mu sr sa tg fv cond elt te iter elt' ifs scope pos np p hu h1 h3 hk ht hz hs hi hc he=>by
   have K:∀ (D:Ends) (σ:L2.St) (H:Hp),tDS X F G (.set i x (.comp mu sr sa tg fv cond elt)) D σ H->uc (tD X F G (.comp mu sr sa tg fv cond elt)) (lK i) D σ H:=fun D σ H q =>
    gc (k:=fun s=>BT.m8 s i) (fun s h=>by rw[BT.evS]) q fun m s h y fl v H1 R S r e1 post=>by
     simp only[BT.m8] at e1
     cases e1
     exact post _ H1 m (.refl _ _) R (S.set r)
   by_cases c:(sc.names.lookup x==some .cell)=true
   ·exact PS.weak (mP (i:=i) O.nd (by rw[O.hN];exact h1) (fN O (sC c)) (sE (CE'.comp hu hk ht hz hs hi hc he) O) (Cv O c) (.inl (hf x))) K
   ·have h4:swB sc scope x np pos=true:=by
     rw[Oa] at h3
     exact h3.resolve_left c
    exact PS.weak (sj O hu hk ht hs (sCI hi O hz) (sCC hc) (fun X' O'=>sE he O') h1 (qC h4) (Cu O h4)) K)
  (@fun i x e v np p h1 h2 h3 he=>PS.weak (mP (i:=i) O.nd (by rw[O.hN];exact h1) (fN O h2) (sE he O) (eU h3) (.inl (hf x))) fun D σ H q =>
   gc (k:=fun s=>BT.m8 s i) (fun s h=>by simp only[BT.evS]) q fun m s h y fl v H1 R S r e1 post=>by
    simp only[BT.m8] at e1
    cases e1
    exact post _ H1 m (.refl _ _) R (S.set r))
  (fun h1 h2 h3 h4 h5 hk he=>PS.weak (vp (sE he O) (vo (nB O h1 h2 h3) (sE hk O) set_list (ku h5)) (su h4) rfl) xR)
  (fun h1 h2 h3 he=>PS.weak (vq O.nd (by rw[O.hN];exact h1) (fN O h2) (sE he O) (jJ h3) (.inl (hf _))) xP)
  (fun h1 h2 ho he=>PS.weak (vJ (sE ho O) (sE he O) (eU h2)) (sy h1))
  (fun h1 h3 ho he=>PS.weak (lN (sE ho O) (sE he O) (jJ h3)) (sA h1))
  (fun h he=>PS.weak (qZ (sE he O) (eU h)) fun D σ H q =>
   gc (k:=fun s=>BT.kEx s) (fun s h=>by simp only[BT.evS]) q fun m s h y fl v H1 R S r e1 post=>by
    simp only[BT.kEx] at e1
    cases e1
    exact post σ H1 m (.refl _ _) R S)
  (fun he=>PS.weak (p9 (sE he O)) fun D σ H q =>
   gc (k:=fun s=>BT.wH) (fun s h=>by simp only[BT.evS]) q fun m s h y fl v H1 R S r e1 post=>by
    simp only[BT.wH] at e1
    cases e1
    exact post v H1 m (.refl _ _) R r)
  (fun h hc ha hb ia ib=>PS.weak (B4 (sT hc O h).1 ia ib) fun D σ H q=>by
   obtain ⟨m,s,h,fl,R,S,e,post⟩:=q
   simp only[BT.evS] at e
   obtain ⟨t,g,e1,e2⟩:=nM e
   refine ⟨m,s,h,t,g,R,S,e1,fun H1 m1 x1 R1=>?_⟩
   simp only[BT.kIf] at e2
   cases t with
   | true=>exact ⟨m1,s,g,fl,R1,S.ext x1,e2,post.ext x1⟩
   | false=>exact ⟨m1,s,g,fl,R1,S.ext x1,e2,post.ext x1⟩)
  (fun h hc hb ib=>PS.weak (oB O.own (sT hc O h).1 ib) xO)
  (fun hu ht hi hz hs hb ib=>by
   obtain ⟨g,hg1,hg2⟩:=sCT O (O.calm hu) ht (fun q _=>.inl (hf q.2))
   exact PS.weak (vA O.own (O.calm hu) (sCI hi O hz) hg1 ib (nF hs)) (xS hg2))
  (PS.weak oz fun D σ H q=>by
   obtain ⟨m,s,h,fl,R,S,e,post⟩:=q
   simp only[BT.evS] at e
   cases e
   exact post σ H m (.refl _ _) R S)
  (PS.weak jk fun D σ H q=>by
   obtain ⟨m,s,h,fl,R,S,e,post⟩:=q
   simp only[BT.evS] at e
   cases e
   exact post σ H m (.refl _ _) R S)
  (fun pins s σ H D I q=>by
   obtain ⟨m,s,h,fl,R,S,e,post⟩:=q
   simp only[BT.evS] at e
   cases e)
  (PSs.weak qY fun D σ H q=>by
   obtain ⟨m,s,h,fl,R,S,e,post⟩:=q
   simp only[BT.evS] at e
   cases e
   exact post σ H m (.refl _ _) R S)
  (fun _ ih=>jE ih)
  (fun _ _ ih ir=>PSs.weak (oq ih ir) xN)
  hh
end
end BS
end
section
namespace BS
open PySem PySem.Spec PyProof.Rows L2
section
variable {P:MP}{w:M7}{K:MI}{m m':List MN}{H:Hp}
mutual
theorem RD.shrink (x:∀ a∈m,a∈m'):∀ {v:V}{d:BT.D},RD K m' H v d->RD K m H v d
 | _,_,.non=>.non
 | _,_,.bl b=>.bl b
 | _,_,.int i=>.int i
 | _,_,.str y h=>.str y h
 | _,_,.tup h r=>.tup (h.elim (fun q=>.inl ⟨q.1,fun z=>q.2 (x _ z)⟩) .inr) (RDs.shrink x r)
 | _,_,.lst h r=>.lst (h.elim (fun q=>.inl ⟨q.1,fun z=>q.2 (x _ z)⟩) .inr) (RDs.shrink x r)
theorem RDs.shrink (x:∀ a∈m,a∈m'):∀ {vs:List V}{ds:List BT.D},RDs K m' H vs ds->RDs K m H vs ds
 | _,_,.nil=>.nil
 | _,_,.cons r t=>.cons (RD.shrink x r) (RDs.shrink x t)
end
end
theorem RFs.shrink {K:MI}{m ex:List MN}{H H':Hp}:∀ {vs0 vs:List (Str×V)}{fs:List (Str×BT.W)},RFs K m H vs0 fs->RFs K (m++ex) H' vs fs->RFs K m H' vs fs
 | _,_,_,.nil,.nil=>.nil
 | _,_,_,.cons r0 t0,.cons r t=>by
  refine .cons ?_ (RFs.shrink t0 t)
  have back:∀ {n:Nat}{a b:MN},m[n]?=some b->(m++ex)[n]?=some a->m[n]?=some a:=fun {n a b} h1 h2=>by
   rw[MO (getD_some h1)] at h2
   exact h2
  cases r with
  | p r=>exact .p (r.shrink fun a ha=>N6 _ ha)
  | r h=>cases r0 with | r h0=>exact .r (back h0 h)
  | o h=>cases r0 with | o h0=>exact .o (back h0 h)
theorem RKs.shrink {K:MI}{m m':List MN}{H:Hp} (sub:∀ a∈m,a∈m') {vs:List (Key×V)}{kvs:List (BT.Ky×BT.D)} (r:RKs K m' H vs kvs):RKs K m H vs kvs:=by
 induction r with
 | nil=>exact .nil
 | cons hk r t ih=>exact .cons (hk.shrink sub) (r.shrink sub) ih
theorem bU {P:MP}{w:M7}{K:MI}{m m':List MN}{H H':Hp}{h g h':BT.HH}{y z:BT.W}{v:V} (e:BT.fin h y g=some (z,h')) (R:RH K m H h) (x:Ext m H m' H') (R':RH K m' H' g) (r:RW P w K m' H' v y) :
 ∃ m2,Ext m H m2 H'/\RH K m2 H' h'/\RW P w K m2 H' v z:=by
 unfold BT.fin at e
 split at e
 ·cases e;exact ⟨m',x,R',r⟩
 ·split at e
  ·rename_i c1 c2
   obtain ⟨ex,rfl,hx⟩:=x.pre
   have sub:∀ a∈m,a∈m++ex:=fun a ha=>N6 _ ha
   have x2:Ext m H m H':=⟨⟨[],by simp,by simp⟩,x.keep,x.live⟩
   have R2:RH K m H' h:=by
    refine ⟨R.nd,R.len,fun i a xs e1 e2=>?_,R'.tb⟩
    have hi:i < m.length:=getD_some e1
    have hi2:i < h.length:=by rw[← R.len];exact hi
    have e3:g[i]?=some xs:=by
     rw[← c2,Ou hi2] at e2
     exact e2
    have z:=R'.cl i a xs (by rw[MO hi];exact e1) e3
    cases xs with
    | l ys=>obtain ⟨vs,q1,q2⟩:=z;exact ⟨vs,q1,q2.shrink sub⟩
    | o c fs =>
     obtain ⟨C0,dx0,vs0,_,_,q0⟩:=R.cl i a _ e1 e2
     obtain ⟨C,dx,vs,q1,q2,q3⟩:=z
     exact ⟨C,dx,vs,q1,q2,q0.shrink q3⟩
    | d kvs=>obtain ⟨vs,q1,q2⟩:=z;exact ⟨vs,q1,q2.shrink sub⟩
   cases r with
   | p r=>cases e;exact ⟨m,x2,R2,.p (r.shrink sub)⟩
   | k _ _=>cases e
   | c _ _=>cases e
   | x _=>cases e
   | g _ _=>cases e
   | @o a n hn =>
    simp only at e
    split at e
    ·rename_i c3
     cases e
     refine ⟨m,x2,R2,.o ?_⟩
     rw[MO (by rw[R.len];exact c3)] at hn
     exact hn
    ·cases e;exact ⟨m++ex,x,R',.o hn⟩
   | @r a n hn =>
    simp only at e
    split at e
    ·rename_i c3
     cases e
     refine ⟨m,x2,R2,.r ?_⟩
     rw[MO (by rw[R.len];exact c3)] at hn
     exact hn
    ·rename_i c3
     obtain ⟨xs,e4,e5⟩:=az e
     cases e5
     obtain ⟨vs,q1,q2⟩:=R'.cell n a xs hn e4
     refine ⟨m,x2,R2,.p (.lst (.inl ⟨.inl q1,fun z=>?_⟩) (q2.shrink sub))⟩
     obtain ⟨j,hj⟩:=N7 z
     have hjl:=getD_some hj
     have ej:(m++ex)[j]?=some a:=by rw[MO hjl];exact hj
     have:=lZ R'.nd ej hn
     rw[R.len] at hjl
     omega
  ·cases e;exact ⟨m',x,R',r⟩
theorem dQ {P:MP}{w:M7}{K:MI}{m:List MN}{H:Hp}{N:List Str}{vs:List V}{ws:List BT.W} (r:RWs P w K m H vs ws):RS P w K m H (L2.start N vs) (BT.aQ N.length ws):=by
 have hl:=r.length
 refine ⟨by simp[L2.start,BT.aQ,hl],fun i y e=>?_⟩
 simp only[BT.aQ] at e
 by_cases c:i < ws.length
 ·rw[MO (by simpa using c),Na] at e
  obtain ⟨z,e1,e2⟩:=az e
  cases e2
  have:∀ {vs:List V}{ws:List BT.W}{i:Nat},RWs P w K m H vs ws->ws[i]?=some y->∃ v,vs[i]?=some v/\RW P w K m H v y:=by
   intro vs ws i r
   induction r generalizing i with
   | nil=>intro e;simp at e
   | cons r t ih =>
    intro e
    cases i with
    | zero=>simp at e;subst e;exact ⟨_,rfl,r⟩
    | succ i=>simpa using ih (by simpa using e)
  obtain ⟨v,h1,h2⟩:=this r e1
  refine ⟨v,?_,h2⟩
  unfold L2.start
  rw[MO (by simp;omega),Na,h1];rfl
 ·rw[M6 (by simpa using c),NR] at e
  split at e<;>cases e
theorem Ex {P:MP}{w:M7}{K:MI}{mg:Str->Option Value}{base:Heap}{k L:Nat}{F:FT}{G:Str->Option BT.W}{bt:BT.E}{ns:List Str}{g:List BT.W->BT.HH->Option (BT.W×BT.HH)} (hT:BT.oS L=some ⟨ns,ns,.ret bt⟩)
 (hg:∀ ws h r,g ws h=some r->ws.length=ns.length/\BT.iI (BT.evS F G (.ret bt) (BT.aQ ns.length ws) h) (BT.fin h)=some r)
 (hO:∀ (q:Str) (sc:M0) (cl:List (Str×MN)) (f c':MN) (A:Nn) (outer:List Env) (s:MK) (H:Hp),ns.Nodup->bE k (A.deeper (OV q sc s.heap.objs.size f (.ref c') cl))->Ok (xE P w K mg base ns q sc cl f c' A outer s H) F G sc ns):o4 P w K mg base (k+1) L g:=by
 intro A outer s H f us vs cvs m ws cs h z h' Q E hr e0 rv R rw nc la rc e post
 obtain ⟨bt',ps,fs,pa,be,sc,cl,pm,ctv,c',oc,os,t,q,l0,l1,l2,l3,l4,l5,l6,l7,l8,l9,l10⟩:=la
 rw[hT] at l0
 cases l0
 have lf:=Lm l2
 obtain ⟨hwl,e1⟩:=hg _ _ _ e
 have C:=l10.cells l5
 have kR:=rv.length
 have dG:=rw.length
 have gr:=l10.len
 have HZ:cvs.length=cs.length:=by
  clear e e1 hwl l10 gr
  induction rc with
  | nil=>rfl
  | cons _ _ ih=>simp[ih]
 have hu:us.length=ps.length:=by
  simp only[Nj,NO] at hwl
  omega
 refine PySem.W.kla_callFunE hr.depth (e0.hok _ _ l6.1).1 rfl lf.co lf.ge rfl ⟨c',oc,os,t,rfl,(e0.hok _ _ l7.1).1,l8,l9⟩ ?_
 rw[AK l1 hu]
 refine wpAny_pure (wpAny_newFunctionEnv lf.cell (fun y hy=>lf.loc y.1 (OX hy).1) (fun h1 hns hsb=>?_) lf.kd)
 have hk1:∀ b o,s.heap.get? b=some o->h1.get? b=some o:=fun b o e=>hsb.extBut b o (Np (MW e)) (MQ _ e)
 refine ⟨e0.mod.nolimit.keeps fun b o e=>hk1 b o (e0.bs b o e).1,?_⟩
 show codeAny _ _ (.expr be (OV q sc s.heap.objs.size f (.ref c') cl)) _ _
 refine PySem.W.kla_codeExpr ?_
 have I:=AM (q:=q) (f:=f) (c':=c') (tk:=s.toks+(ps.zip us).length) l1 lf l4 l5 l10 hr.hd e0 rv hu hns hk1
 have hr1:bE k (A.deeper (OV q sc s.heap.objs.size f (.ref c') cl)):=hr.deeper _
 have O:=hO q sc cl f c' A outer s H lf.nd hr1
 simp only[BT.evS] at e1
 cases g1:BT.ev F G bt (BT.aQ (ps++fs).length (ws++cs.map BT.Cp.w)) h with
 | none=>rw[g1] at e1;cases e1
 | some yg =>
  obtain ⟨y,gh⟩:=yg
  rw[g1] at e1
  have e2:BT.fin h y gh=some (z,h'):=e1
  have hs:RS P w K m (hid cl H) (vs.map some++cvs.map some) (BT.aQ (ps++fs).length (ws++cs.map BT.Cp.w)):=by
   have r0:=dQ (N:=ps++fs) ((rw.tr C.sq nc).app (RCs.ws (P:=P) (w:=w) (rc.tr C.sq)))
   have e3:L2.start (ps++fs) (vs++cvs)=vs.map some++cvs.map some:=by
    unfold L2.start
    simp only[Nj]
    rw[show ps.length+fs.length - (vs.length+cvs.length)=0 by omega]
    simp
   rw[e3] at r0;exact r0
  refine wpAny_mono (sE l3 O [] _ _ _ (fun v H'=>∃ m',Ext m (hid cl H) m' H'/\RH K m' H' gh/\RW P w K m' H' v y) I ⟨m,_,h,y,gh,C.rh R,hs,g1,fun v H' m' x' R' r'=>⟨m',x',R',r'⟩⟩) (fun u s' ⟨v,H',I',rv',m',x',R',r'⟩=>?_) (fun e s' hx=>Nu hx)
  have N':∀ x c,cl.lookup x=some c->H' c=none:=fun x c e=>I'.freeC x c e
  have le:Le H' (ret cl H H'):=Eg N'
  obtain ⟨m2,x2,R2,r2⟩:=bU e2 (C.rh R) x' R' r'
  have B:Un (frs outer) [] (hid cl H) H' s.heap s'.heap:=I'.base
  have nc':∀ b,H b=none->¬ ∃ y,cl.lookup y=some b:=fun b n ⟨y,qq⟩=>by
   obtain ⟨o,uu,k1,_⟩:=C y b qq
   rw[n] at k1;cases k1
  refine ⟨v,ret cl H H',I'.os,I'.bare,⟨fun b o e n hb hx=>B.keep b o e (fz n) hb hx,fun b o e n hb hx=>B.slot b o e (fz n) hb hx,fun b o e n hx=>?_,fun b o e hx=>B.there b o e hx,fun b xs e=>?_,fun b o uu e=>?_,fun b qs e=>?_⟩,fun b uu e=>?_,rv',post v _ m2 (C.Eh N' x2 R2) (R2.le le) (r2.le le)⟩
  ·rw[eS (nc' b n)];exact B.free b o e (fz n) hx
  ·rw[eS (C.out e rfl)];exact B.tups b xs (C.hid e rfl)
  ·by_cases cc:∃ y,cl.lookup y=some b
   ·obtain ⟨y,qq⟩:=cc;rw[nE qq];exact e
   ·rw[eS cc];exact B.frzs b o uu (by rw[iR cc];exact e)
  ·rw[eS (C.out e rfl)];exact B.tbls b qs (C.hid e rfl)
  ·by_cases cc:∃ y,cl.lookup y=some b
   ·obtain ⟨y,qq⟩:=cc
    rw[nE qq] at e
    obtain ⟨o,u2,k1,k2⟩:=C y b qq
    rw[k1] at e
    cases e
    have k3:=B.keep b o (e0.hok _ _ k1).1 (xA qq) (fun hb=>by rw[e0.frf b hb] at k1;cases k1) (by simp)
    exact ⟨k3,_,k3⟩
   ·rw[eS cc] at e
    exact (I'.hok b uu e).stay (fun _ _ _ q=>q) (fun d q=>le _ _ q) fun d xs q=>le _ _ q
noncomputable def kB (K:MI) (q:Str) (fd:Ny) (fn:BT.Fn):Prop:=∀ y,fn.ns.contains (BT.bZ y)=true->q=y/\y∈BT.ef ∧
 (∃ c P,NV K y=some (c,P)/\fd.code=.ref c/\Qf K c P=true/\∀ z∈BT.ef,∀ c2,NV K z=some (c2,P)->z=y) ∧
 ∃ bm ob,Nr K MX "__builtins__"=some (some (.ref bm))/\bm≠OB/\K.lookup bm=some ob/\ob.cls=.type "module"/\ob.dict=some OB/\ob.data=.plain
structure Def (K:MI) (mg:Str->Option Value) (x:Str) (fn:BT.Fn):Prop where
 ex:∃ (f:MN) (fd:Ny) (st:M1),mg x=some (.ref f)/\Fun K x x st f fd/\aD fn.ns fn.ps (af st)/\Binds K fd fn.ps []/\CSs (af st) fn.ns fn.body (aq st)/\kB K x fd fn
structure xT (K:MI) (mg:Str->Option Value) (c m:Str) (fn:BT.Fn):Prop where
 ex:∃ (C f:MN) (fd:Ny) (x qual:Str) (st:M1),iJ K c C/\mg c=some (.ref C)/\oE K C m f/\(m="__init__"->Mk K C f)/\Fun K x qual st f fd/\aD fn.ns fn.ps (af st)/\Binds K fd fn.ps []/\CSs (af st) fn.ns fn.body (aq st)/\kB K qual fd fn
structure Txt (P:MP) (w:M7) (K:MI) (mg:Str->Option Value) (T:BT.FK->Option BT.Fn) (G:Str->Option BT.W):Prop where
 defs:∀ x fn,T (.f x)=some fn->Def K mg x fn
 meths:∀ c m fn,T (.m c m)=some fn->xT K mg c m fn
 lams:∀ L fn,T (.l L)=some fn->BT.oS L=some fn/\∃ ns bt,fn=⟨ns,ns,.ret bt⟩/\∀ y,ns.contains (BT.bZ y)=false
 glob:∀ x z,G x=some z->∃ u v,mg x=some u/\RelV v u/\∀ m H,RW P w K m H v z
 blt:∀ x∈Ay,mg x=none
theorem sD {T:BT.FK->Option BT.Fn}{G:Str->Option BT.W}{k:Nat}{x:BT.FK}{ws:List BT.W}{h:BT.HH}{r:BT.W×BT.HH} (e:BT.runN T G k x ws h=some r):∃ fn,T x=some fn:=by
 cases k with
 | zero=>cases e
 | succ k =>
  rw[BT.runN] at e
  cases q:T x with
  | none=>rw[q] at e;cases e
  | some fn=>exact ⟨fn,rfl⟩
theorem sF {P:MP}{w:M7}{K:MI}{mg:Str->Option Value}{base:Heap}{x qual:Str}{st:M1}{f:MN}{fd:Ny}{N ps:List Str}{k:Nat}{sp:Sp} (F:Fun K x qual st f fd) (S:aD N ps (af st)) (len:∀ vs H Q E,sp vs H Q E->vs.length=ps.length)
 (hbody:∀ (cdv:Value) (A:Nn) (outer:List Env) (s:MK) (H:Hp) (vs:List V) (Q:VK) (E:XK),fd.code=cdv->bE k (A.deeper (OA qual (af st) s.heap.objs.size f cdv))->Mod K mg base->sp vs H Q E →
  ∃ t,PSs (aC CX0 P w K mg base N qual (af st) f cdv A outer s H E).nox (aq st) t/\t { nx:=fun _ H'=>Q .non H',rt:=Q } (L2.start N vs) H):cO P w K mg base CX0 (k+1) f fd ps sp:=by
 obtain ⟨oc,od,kV,doc,pm,an,cdv,ct,osl,rfl,lk,hcd⟩:=F.ex
 refine ⟨len,fun A outer s H args us vs Q E hr e0 hb r hs=>?_⟩
 have F1:cO P w K mg base CX0 (k+1) f (NJ x qual (cD st) (aq st) (af st) .none kV doc pm an cdv ct) ps sp:=vO lk hcd S len fun A outer s H vs Q E hr hsp=>by
  obtain ⟨t,h,q⟩:=hbody cdv A outer s H vs Q E rfl hr e0.mod hsp
  exact ⟨t,h.nox,q⟩
 exact F1.run A outer s H args us vs Q E hr e0 hb r hs
theorem sG {P:MP}{w:M7}{K:MI}{mg:Str->Option Value}{base:Heap}{T:BT.FK->Option BT.Fn}{G:Str->Option BT.W} (X:Txt P w K mg T G) {k:Nat}
 (ih:∀ (x:BT.FK) (fn:BT.Fn),T x=some fn->∀ (f:MN) (fd:Ny) (nm qual:Str) (st:M1),Fun K nm qual st f fd->aD fn.ns fn.ps (af st)->CSs (af st) fn.ns fn.body (aq st)->kB K qual fd fn->cO P w K mg base CX0 (2*k) f fd fn.ps (spF P w K (BT.runN T G k x)))
 (il:∀ L,(∃ fn,T (.l L)=some fn)->o4 P w K mg base (2*k) L (BT.runN T G k (.l L)))
 {Y:Cx}{sc:M0}{N:List Str} (e1:Y.prog=P) (e2:Y.w=w) (e3:Y.K=K) (e4:Y.mg=mg) (e5:Y.base=base) (hsc:Y.env.scope=sc) (hN:Y.N=N) (nd:Y.N.Nodup) (ca:Y.calm=true) (hr:bE (2*k+1) Y.A) (own:Q8 (M3 Y.prog Y.w) Y.A Y.env Y.xe)
 (lx:(∀ x,Y.fn x=true)->∀ x,N.contains (BT.bZ x)=true->LX Y x):Ok Y (BT.runN T G k) G sc N:=by
 subst e1 e2 e3 e4 e5
 refine ⟨hsc,hN,nd,fun _=>ca,?_,own,X.glob,fun g ws h r e=>?_,fun c g ws h r e=>?_,fun c ws h r e=>?_,X.blt,fun L ws h r e=>⟨2*k,hr.mono (Oe _),il L (sD e)⟩,lx⟩
 ·have:=hr.un
  omega
 ·obtain ⟨fn',hTg⟩:=sD e
  obtain ⟨f',fd',st',a1,a2,a3,a4,a5,a6⟩:=(X.defs g fn' hTg).ex
  exact ⟨f',fd',fn'.ps,2*k,a1,a2.kp,a4,hr.mono (Oe _),ih _ fn' hTg f' fd' g g st' a2 a3 a5 a6⟩
 ·obtain ⟨fn',hTg⟩:=sD e
  obtain ⟨C,f',fd',x',q',st',b1,b2,b3,b4,a2,a3,a4,a5,a6⟩:=(X.meths c g fn' hTg).ex
  exact ⟨C,f',fd',fn'.ps,2*k,b1,b3,a4,hr.mono (Oe _),ih _ fn' hTg f' fd' x' q' st' a2 a3 a5 a6⟩
 ·obtain ⟨fn',hTg⟩:=sD e
  obtain ⟨C,f',fd',x',q',st',b1,b2,b3,b4,a2,a3,a4,a5,a6⟩:=(X.meths c _ fn' hTg).ex
  exact ⟨C,f',fd',fn'.ps,2*k,b1,b2,b4 rfl,a4,hr,ih _ fn' hTg f' fd' x' q' st' a2 a3 a5 a6⟩
theorem jN {P:MP}{w:M7}{K:MI}{mg:Str->Option Value}{base:Heap}{T:BT.FK->Option BT.Fn}{G:Str->Option BT.W} (X:Txt P w K mg T G) :
 ∀ (k:Nat),(∀ (x:BT.FK) (fn:BT.Fn),T x=some fn->∀ (f:MN) (fd:Ny) (nm qual:Str) (st:M1),Fun K nm qual st f fd->aD fn.ns fn.ps (af st)->CSs (af st) fn.ns fn.body (aq st)->kB K qual fd fn->cO P w K mg base CX0 (2*k) f fd fn.ps (spF P w K (BT.runN T G k x))) ∧
  ∀ L,(∃ fn,T (.l L)=some fn)->o4 P w K mg base (2*k) L (BT.runN T G k (.l L)):=by
 intro k
 induction k with
 | zero =>
  refine ⟨fun x fn hT f fd nm qual st h2 h3 h5 h6=>?_,fun L hL=>?_⟩
  ·have no:∀ vs H Q E,¬ spF P w K (BT.runN T G 0 x) vs H Q E:=fun vs H Q E h=>by
    obtain ⟨m,ws,h,z,h',_,_,e,_⟩:=h
    cases e
   exact ⟨fun vs H Q E h=>absurd h (no vs H Q E),fun A outer s H args us vs Q E _ _ _ _ h=>absurd h (no vs H Q E)⟩
  ·intro A outer s H f us vs cvs m ws cs h z h' Q E hr e0 rv R rw nc la rc e post
   cases e
 | succ k ihk =>
  obtain ⟨ih,il⟩:=ihk
  refine ⟨fun x fn hT f fd nm qual st h2 h3 h5 h6=>?_,fun L hL=>?_⟩
  ·show cO P w K mg base CX0 (2*k+1+1) f fd fn.ps (spF P w K (BT.runN T G (k+1) x))
   refine sF h2 h3 (fun vs H Q E h=>?_) fun cdv A outer s H vs Q E hcd hr hM h=>?_
   ·obtain ⟨m,ws,h,z,h',R,r,e,post⟩:=h
    rw[BT.runN,hT] at e
    simp only at e
    split at e
    ·rename_i c;rw[r.length];exact c
    ·cases e
   ·obtain ⟨m,ws,h,z,h',R,r,e,post⟩:=h
    rw[BT.runN,hT] at e
    simp only at e
    split at e
    ·have O:Ok (aC CX0 P w K mg base fn.ns qual (af st) f cdv A outer s H E).nox (BT.runN T G k) G (af st) fn.ns:=by
      refine sG X ih il rfl rfl rfl rfl rfl rfl rfl h3.nd rfl hr OI fun _ y hy=>?_
      obtain ⟨t1,t2,⟨c,Pt,t3,t4,t5,t6⟩,bm,ob,t7,t8,t9,t10,t11,t12⟩:=h6 y hy
      exact ⟨t2,⟨c,Pt,t3,hcd.symm.trans t4,PF hM.kin t5,t6⟩,by show qual++".<locals>."=_;rw[t1],bm,ob,NC hM.kin hM.glob t7,t8,hM.kin _ _ t9,t10,t11,t12⟩
     refine ⟨_,sSs O (fun _=>rfl) h5,?_⟩
     cases gg:BT.evS (BT.runN T G k) G fn.body (BT.aQ fn.ns.length ws) h with
     | none=>rw[gg] at e;cases e
     | some fl =>
      rw[gg] at e
      refine ⟨m,_,h,fl,R,dQ r,gg,?_⟩
      cases fl with
      | rt y g =>
       intro v H' m' x' R' r'
       obtain ⟨m2,y1,y2,y3⟩:=bU e R x' R' r'
       exact post v H' m2 y1 y2 y3
      | nx s' g =>
       intro σ' H' m' x' R' _
       obtain ⟨m2,y1,y2,y3⟩:=bU (v:=.non) e R x' R' (.p .non)
       exact post .non H' m2 y1 y2 y3
      | bk s' g=>cases e
      | ct s' g=>cases e
    ·cases e
  ·obtain ⟨fn,hT⟩:=hL
   obtain ⟨hl,ns,bt,rfl,nt⟩:=X.lams L fn hT
   show o4 P w K mg base (2*k+1+1) L (BT.runN T G (k+1) (.l L))
   refine Ex (F:=BT.runN T G k) (G:=G) hl (fun ws h r e=>?_) fun q sc cl f c' A outer s H nd hr=>sG X ih il rfl rfl rfl rfl rfl rfl rfl nd rfl hr OI fun _ y hy=>absurd hy (by rw[nt y];decide)
   rw[BT.runN,hT] at e
   simp only at e
   split at e
   ·rename_i c;exact ⟨c,e⟩
   ·cases e
end BS
end
section
namespace BS
open PySem PySem.Spec PyProof.Rows L2
section
variable {F:FT}{G:Str->Option BT.W}
theorem sS {X:Cx}{sc:M0}{N:List Str} (O:Ok X F G sc N) (hf:∀ x,X.fn x=true) {s:BT.S}{st:M1} (hh:CS sc N s st):PS X st (tDS X F G s) :=
 CS.rec (motive_1:=fun s st _=>PS X st (tDS X F G s)) (motive_2:=fun s sts _=>PSs X sts (tDS X F G s))
  (@fun i x mu sr sa tg fv cond elt te iter elt' ifs scope pos np p hu h1 h3 hk ht hz hs hi hc he=>by
   have K:∀ (D:Ends) (σ:L2.St) (H:Hp),tDS X F G (.set i x (.comp mu sr sa tg fv cond elt)) D σ H->uc (tD X F G (.comp mu sr sa tg fv cond elt)) (lK i) D σ H:=fun D σ H q =>
    gc (k:=fun s=>BT.m8 s i) (fun s h=>by rw[BT.evS]) q fun m s h y fl v H1 R S r e1 post=>by
     simp only[BT.m8] at e1
     cases e1
     exact post _ H1 m (.refl _ _) R (S.set r)
   by_cases c:(sc.names.lookup x==some .cell)=true
   ·exact PS.weak (mP (i:=i) O.nd (by rw[O.hN];exact h1) (fN O (sC c)) (sE (CE'.comp hu hk ht hz hs hi hc he) O) (Cv O c) (.inl (hf x))) K
   ·have h4:swB sc scope x np pos=true:=by
     rw[Oa] at h3
     exact h3.resolve_left c
    exact PS.weak (sj O hu hk ht hs (sCI hi O hz) (sCC hc) (fun X' O'=>sE he O') h1 (qC h4) (Cu O h4)) K)
  (@fun i x e v np p h1 h2 h3 he=>PS.weak (mP (i:=i) O.nd (by rw[O.hN];exact h1) (fN O h2) (sE he O) (eU h3) (.inl (hf x))) fun D σ H q =>
   gc (k:=fun s=>BT.m8 s i) (fun s h=>by simp only[BT.evS]) q fun m s h y fl v H1 R S r e1 post=>by
    simp only[BT.m8] at e1
    cases e1
    exact post _ H1 m (.refl _ _) R (S.set r))
  (fun h1 h2 h3 h4 h5 hk he=>PS.weak (vp (sE he O) (vo (nB O h1 h2 h3) (sE hk O) set_list (ku h5)) (su h4) rfl) xR)
  (fun h1 h2 h3 he=>PS.weak (vq O.nd (by rw[O.hN];exact h1) (fN O h2) (sE he O) (jJ h3) (.inl (hf _))) xP)
  (fun h1 h2 ho he=>PS.weak (vJ (sE ho O) (sE he O) (eU h2)) (sy h1))
  (fun h1 h3 ho he=>PS.weak (lN (sE ho O) (sE he O) (jJ h3)) (sA h1))
  (fun h he=>PS.weak (qZ (sE he O) (eU h)) fun D σ H q =>
   gc (k:=fun s=>BT.kEx s) (fun s h=>by simp only[BT.evS]) q fun m s h y fl v H1 R S r e1 post=>by
    simp only[BT.kEx] at e1
    cases e1
    exact post σ H1 m (.refl _ _) R S)
  (fun he=>PS.weak (p9 (sE he O)) fun D σ H q =>
   gc (k:=fun s=>BT.wH) (fun s h=>by simp only[BT.evS]) q fun m s h y fl v H1 R S r e1 post=>by
    simp only[BT.wH] at e1
    cases e1
    exact post v H1 m (.refl _ _) R r)
  (fun h hc ha hb ia ib=>PS.weak (B4 (sT hc O h).1 ia ib) fun D σ H q=>by
   obtain ⟨m,s,h,fl,R,S,e,post⟩:=q
   simp only[BT.evS] at e
   obtain ⟨t,g,e1,e2⟩:=nM e
   refine ⟨m,s,h,t,g,R,S,e1,fun H1 m1 x1 R1=>?_⟩
   simp only[BT.kIf] at e2
   cases t with
   | true=>exact ⟨m1,s,g,fl,R1,S.ext x1,e2,post.ext x1⟩
   | false=>exact ⟨m1,s,g,fl,R1,S.ext x1,e2,post.ext x1⟩)
  (fun h hc hb ib=>PS.weak (oB O.own (sT hc O h).1 ib) xO)
  (fun hu ht hi hz hs hb ib=>by
   obtain ⟨g,hg1,hg2⟩:=sCT O (O.calm hu) ht (fun q _=>.inl (hf q.2))
   exact PS.weak (vA O.own (O.calm hu) (sCI hi O hz) hg1 ib (nF hs)) (xS hg2))
  (PS.weak oz fun D σ H q=>by
   obtain ⟨m,s,h,fl,R,S,e,post⟩:=q
   simp only[BT.evS] at e
   cases e
   exact post σ H m (.refl _ _) R S)
  (PS.weak jk fun D σ H q=>by
   obtain ⟨m,s,h,fl,R,S,e,post⟩:=q
   simp only[BT.evS] at e
   cases e
   exact post σ H m (.refl _ _) R S)
  (fun pins s σ H D I q=>by
   obtain ⟨m,s,h,fl,R,S,e,post⟩:=q
   simp only[BT.evS] at e
   cases e)
  (PSs.weak qY fun D σ H q=>by
   obtain ⟨m,s,h,fl,R,S,e,post⟩:=q
   simp only[BT.evS] at e
   cases e
   exact post σ H m (.refl _ _) R S)
  (fun _ ih=>jE ih)
  (fun _ _ ih ir=>PSs.weak (oq ih ir) xN)
  hh
end
end BS
end
section
namespace BS
open PySem PySem.Spec PyProof.Rows L2
noncomputable def CX1 (P:MP) (w:M7):CXT:=fun outer H s E e s'=>∃ (x C:MN) (H':Hp) (B G:Heap) (a0:Value),e=.ref x/\s'.os=s.os/\Qo s'.gens/\Un (frs outer) [] H H' s.heap s'.heap ∧
 HOk P w H' s'.heap/\Heap.FlyingW B outer x (.ref C) a0 s'.heap/\(∀ b o,s.heap.get? b=some o->b∉frs outer->∃ o',B.get? b=some o'/\(H b=none->o'=o)) ∧
 HOk P w H' G/\(∀ b o,H' b≠none->G.get? b=some o->B.get? b=some o)/\E (.ref C) none H'
theorem qD {P:MP}{w:M7}{H:Hp}{G B h:Heap} (x:HOk P w H G) (k:∀ b o,H b≠none->G.get? b=some o->B.get? b=some o) (st:B.StaysIn h):HOk P w H h:=fun b u e =>
 (x b u e).stay (fun c v hc q=>st c v (k c v (by rcases hc with rfl | hc<;>simp[*]) q)) (fun _ q=>q) fun _ _ q=>q
section
variable {CX:CXT}{P:MP}{w:M7}{K:MI}{mg:Str->Option Value}{base:Heap}{N:List Str}{qual:Str}{scope:M0}{f:MN}{cd:Value}{A:Nn}{outer:List Env}{s:MK}{H:Hp}{E:XK}
theorem qE {pins:List (MN×Obj)}{σ:L2.St}{H1:Hp}{s1:MK}{B h':Heap} (I:Inv (aC CX P w K mg base N qual scope f cd A outer s H E) pins σ H1 s1)
 (cov:∀ b o,s.heap.get? b=some o->b∉frs outer->∃ o',B.get? b=some o'/\(H b=none->o'=o)) (st:B.StaysIn h') (up:s1.heap.UpToSlots h'):Un (frs outer) [] H H1 s.heap h':=by
 have fr:∀ b o,s.heap.get? b=some o->H b=none->b∈frs outer->∃ sl,h'.get? b=some { o with slots:=sl }:=fun b o e n hb=>by
  obtain ⟨sl,q⟩:=I.base.slot b o e n hb (by simp[aC])
  obtain ⟨_,o2,ho,hd⟩:=I.ok.e9.mem hb
  have ho:s.heap.get? b=some o2:=ho
  rw[e] at ho
  cases ho
  obtain ⟨sl2,q2⟩:=up b _ q hd
  exact ⟨sl2,q2⟩
 refine ⟨fun b o e n hb _=>?_,fun b o e n hb _=>fr b o e n hb,fun b o e n _=>I.base.free b o e n (by simp[aC]),fun b o e _=>?_,I.base.tups,I.base.frzs,I.base.tbls⟩
 ·obtain ⟨o',q,r⟩:=cov b o e hb
  rw[r n] at q
  exact st b o q
 ·by_cases hb:b∈frs outer
  ·obtain ⟨sl,q⟩:=fr b o e (I.ok.frf b hb) hb
   exact ⟨_,q⟩
  ·obtain ⟨o',q,_⟩:=cov b o e hb
   exact ⟨o',st b o' q⟩
theorem eV {pins:List (MN×Obj)}{σ:L2.St}{H1:Hp}{s1:MK} (I:Inv (aC CX P w K mg base N qual scope f cd A outer s H E) pins σ H1 s1) {b:MN}{o:Obj} (e:s.heap.get? b=some o) (hb:b∉frs outer) :
 b∉frs (aC CX P w K mg base N qual scope f cd A outer s H E).stack:=fun z=>by
 rcases List.mem_cons.mp (I.gP b z) with q | q
 ·have:s.heap.objs.size<=b:=by rw[q];exact I.ok.above
  exact absurd (MW e) (Nat.not_lt.mpr this)
 ·exact hb q
end
section
variable {P:MP}{w:M7}{K:MI}{mg:Str->Option Value}{base:Heap}{N:List Str}{qual:Str}{scope:M0}{f:MN}{cd:Value}{A:Nn}{outer:List Env}{s:MK}{H:Hp}{E:XK}
theorem AZ {pins:List (MN×Obj)}{σ:L2.St}{H1:Hp}{s1:MK}{x C:MN}{args:List Value}{h2:Heap} (I:Inv (aC (CX1 P w) P w K mg base N qual scope f cd A outer s H E) pins σ H1 s1)
 (hx:PR s1.heap h2 x (.ref C) args) (hE:E (.ref C) none H1):(aC (CX1 P w) P w K mg base N qual scope f cd A outer s H E).xe (.ref x) { s1 with heap:=h2 }:=by
 show wpAny (M3 P w) (A.deeper (OA qual scope s.heap.objs.size f cd)) (leaving (OA qual scope s.heap.objs.size f cd) (.ref x)) _ _ _
 have hin:∀ env∈(OA qual scope s.heap.objs.size f cd :: outer),∀ b,env.frame=some b->b∈frs (OA qual scope s.heap.objs.size f cd :: outer):=fun env he b hb=>List.mem_filterMap.mpr ⟨env,he,hb⟩
 refine wpAny_leaves_madeW (s:={ s1 with heap:=h2 }) (base:=Pk s1.heap (frs (OA qual scope s.heap.objs.size f cd :: outer))) (h:=s1.heap) I.ok.frames rfl (fun b o q=>Rh _ q) (PySem.W.funFrames_hide I.stack hin) hx fun h' t x1 x2 x3 x4=>?_
 have cov:∀ b o,s.heap.get? b=some o->b∉frs outer->∃ o',(Pk s1.heap (frs (OA qual scope s.heap.objs.size f cd :: outer))).get? b=some o'/\(H b=none->o'=o):=fun b o e hb=>by
  obtain ⟨o',q⟩:=I.base.there b o e (by simp[aC])
  refine ⟨o',PD _ q (eV I e hb),fun n=>?_⟩
  have:=I.base.keep b o e n hb (by simp[aC])
  rw[q] at this
  exact MV this
 have cv2:∀ b o,H1 b≠none->s1.heap.get? b=some o->(Pk s1.heap (frs (OA qual scope s.heap.objs.size f cd :: outer))).get? b=some o:=fun b o n e=>PD _ e fun z=>n (I.mK b z)
 exact ⟨x,C,H1,_,s1.heap,.ref t,rfl,I.os,I.bare,qE I cov x1.1 ((Heap.UpToSlots.of_keeps hx.keeps).trans x4),qD I.hok cv2 x1.1,x1,cov,I.hok,cv2,hE⟩
theorem HJ {E1:XK} (hE:∀ C H',E1 (.ref C) none H'->E (.ref C) none H'):dN (CX1 P w) (aC (CX1 P w) P w K mg base N qual scope f cd A outer s H E) E1:=by
 intro pins σ H1 s1 e s' I h
 obtain ⟨x,C,H',B,G,a0,rfl,e1,e2,un,ho,fl,cov,hg,cv2,hE1⟩:=h
 show wpAny (M3 P w) (A.deeper (OA qual scope s.heap.objs.size f cd)) (leaving (OA qual scope s.heap.objs.size f cd) (.ref x)) _ _ _
 have J:Inv (aC (CX1 P w) P w K mg base N qual scope f cd A outer s H E) pins σ H' s':=I.BW (ch:=[]) e1 un ho e2 (fun b z=>absurd z (by simp))
 refine wpAny_leaves_onW (Q:=fun _ s''=>CX1 P w outer H s E (.ref x) s'') I.ok.frames rfl fl fun h' x1 x2=>?_
 have cov':∀ b o,s.heap.get? b=some o->b∉frs outer->∃ o',B.get? b=some o'/\(H b=none->o'=o):=fun b o e hb=>by
  obtain ⟨o1,q⟩:=I.base.there b o e (by simp[aC])
  obtain ⟨o2,q2,r2⟩:=cov b o1 q (eV I e hb)
  refine ⟨o2,q2,fun n=>?_⟩
  have k:=I.base.keep b o e n hb (by simp[aC])
  rw[q] at k
  rw[r2 (I.base.free b o e n (by simp[aC]))]
  exact MV k
 exact ⟨x,C,H',B,G,a0,rfl,J.os,J.bare,qE J cov' x1.1 x2,qD hg cv2 x1.1,x1,cov',hg,cv2,hE C H' hE1⟩
end
theorem mq {i:Int} (h:i.natAbs < 2 ^ 64):i.natAbs.log2 < 1920:=by
 by_cases z:i.natAbs=0
 ·rw[z];decide
 ·have:=(Nat.log2_lt z).mpr h
  omega
structure kC (K:MI) (C:MN):Prop where
 ok:QH K C [.type "ValueError",.type "Exception",.type "BaseException",.type "object"] "ValueError.__new__"=true
theorem kC.obj {K:MI}{C:MN}{h:Heap} (X:K.In h) (q:kC K C):∃ bm N nm qn bs hdct sn sub ab col dd k0 k1 k2 k3 k5 mN,h.get? C=some (Qj nm qn C N bs bm hdct sn sub ab col dd k0 k1 k2 k3 k5 "ValueError.__new__")/\h.Ns N mN/\mN "__init__"=none ∧
 OwnTail h [.type "ValueError",.type "Exception",.type "BaseException",.type "object"] bm/\K.lookup C=some (Qj nm qn C N bs bm hdct sn sub ab col dd k0 k1 k2 k3 k5 "ValueError.__new__"):=by
 have q:=q.ok
 unfold QH at q
 split at q
 ·rename_i dd cd sl ho
  split at q
  ·rename_i C' bm k0 k1 k2 k3 n k5 hm hs
   simp only[ML,beq_iff_eq,Ol] at q
   obtain ⟨⟨⟨⟨⟨rfl,rfl⟩,hdel⟩,ht⟩,hok⟩,hni⟩:=q
   obtain ⟨nm,bs,mro,ns,qn,hd,sn,sub,ab,col,del⟩:=cd
   dsimp only at hm hdel hok hni
   subst hm hdel
   have hsl:sl=#[k0,k1,k2,k3,some (.builtin "ValueError.__new__"),k5]:=by
    obtain ⟨l⟩:=sl
    simp only at hs
    rw[hs]
   subst hsl
   exact ⟨bm,ns,nm,qn,bs,hd,sn,sub,ab,col,dd,k0,k1,k2,k3,k5,_,X _ _ ho,.of_isNs (PySem.W.isNs_of_in X hok),PySem.W.nsMap_none_of_in X hok hni,PySem.W.tail_of_in X ht,ho⟩
  ·cases q
 ·cases q
theorem xU {X:Cx}{x:Str}{C:MN}{c:Str}{e:MJ}{t:TE}{j:Nat}{np p1 p2 p3 cpos pos:Pos} (hg:Gl X x) (hn:aH x=true) (hm:X.mg x=some (.ref C)) (hq:kC X.K C) (hc:X.calm=true) (hl:c.length<=1000) (he:PE X e t)
 {pins:List (MN×Obj)}{s:MK}{σ:L2.St}{H:Hp}{Q:Flow->MK->Prop} (I:Inv X pins σ H s)
 (h:t σ H fun v H1=>∃ i:Int,v=.int i/\i.natAbs < 2 ^ 64/\∀ s1 h2 a args,Inv X pins σ H1 s1->PR s1.heap h2 a (.ref C) args->X.xe (.ref a) { s1 with heap:=h2 }) :
 wpAny (M3 X.prog X.w) X.A (exec (.Raise (some (.Call (.Name x np) [.JoinedStr [.Constant (.str c) j p1,.FormattedValue e 114 none p2] p3] [] cpos)) none pos) X.env) Q X.xe s:=by
 obtain ⟨bm,N,nm,qn,bs,hdct,sn,sub,ab,col,dd,k0,k1,k2,k3,k5,mN,hC,hN,hni,T,_⟩:=hq.obj I.mod.kin
 have hdb:(x==("__debug__":Str))=false:=by
  unfold aH at hn
  simp only[ML] at hn
  simpa using hn.1.1
 refine wpAny_Raise_call_subT (C:=C) (nm:=nm) (q:=qn) (N:=N) (bs:=bs) (bm:=bm) (hdct:=hdct) (sn:=sn) (sub:=sub) (ab:=ab) (col:=col) (dd:=dd) (k0:=k0) (k1:=k1) (k2:=k2) (k3:=k3) (k5:=k5)
  PySem.F.excBase_ValueError (mN:=mN) (T.hasType PySem.F.excBase_ValueError.hasBase) (I.ok.hd hc) rfl hni (fG I hg hm ⟨rfl,?_⟩ hdb)
 refine Rm (RL (wpAny_JoinedStr (pos:=p3) ?_))
 show wpAny _ _ (eval (.Constant (.str c) j p1) X.env) _ _ s
 have lz:(1000:Nat)+1921<=sizeLine:=by decide
 have l0:(Qe++c).length<=1000:=by rw[strLen_append];show 0+c.length<=1000;omega
 refine RM ⟨_,_,rfl,Nq l0 (by omega),?_⟩
 show wpAny _ _ (eval (.FormattedValue e 114 none p2) X.env) _ _ _
 refine wpAny_FormattedValue_repr (thn (he pins _ σ H _ (I.tok _) h) fun u s1 ⟨v,H1,I1,r1,i,rv,hi,post⟩=>?_)
 subst rv
 obtain ⟨tk,rfl⟩:=r1
 have li:(MU (toString i)).length<=1921:=by
  rw[PySem.ofString_length]
  exact int_text_length_le (by decide) (mq hi)
 refine wpAny_pyReprObj_gives (T:="int") rfl PySem.F.slot_int_repr PySem.F.entry_int_repr (PySem.F.args_int_repr_1 _) (gives_int_repr i tk (mq hi)) ?_ rfl (Nq li (by omega))
 have l1:((Qe++c)++MU (toString i)).length<=sizeLine:=by rw[strLen_append];omega
 have fin:∀ (tt:Tok) (s2:MK),Inv X pins σ H1 s2->∃ y t,(Pr (MU (toString i)) tt)=.str y t/\(Qe++c++y).length<=sizeLine/\Joins (M3 X.prog X.w) X.A X.xe [] (Qe++c++y) (fun out s₁=>out.length<=sizeLine/\wpAny (M3 X.prog X.w) X.A (spliced (OC cpos (Nd [] X.env))) (fun vs s₂=>(⟨Pr out s₁.toks :: vs,[]⟩:Args).kw=[]/\(⟨Pr out s₁.toks :: vs,[]⟩:Args).pos.length<=sizeLine/\s₂.heap.get? C=some (Qj nm qn C N bs bm hdct sn sub ab col dd k0 k1 k2 k3 k5 "ValueError.__new__")/\s₂.heap.Ns N mN/\OwnTail s₂.heap [.type "ValueError",.type "Exception",.type "BaseException",.type "object"] bm ∧
  ∀ h' e,PR s₂.heap h' e (.ref C) (⟨Pr out s₁.toks :: vs,[]⟩:Args).pos->X.xe (.ref e) { s₂ with heap:=h' }) X.xe { s₁ with toks:=s₁.toks+1 }) s2:=fun tt s2 J=>by
  refine ⟨_,tt,rfl,l1,l1,Sa ?_⟩
  exact ⟨rfl,by show 1<=sizeLine;decide,J.bk _ _ hC,hN.keeps J.bk,T.keeps J.bk,fun h' a hx=>post _ h' a _ (J.tok _) hx⟩
 refine wpAny_formatField_str (fin _ _ (I1.tok _)) (fin _ _ ((I1.tok _).tok _)) (Nq li (by omega))
section
variable {CX:CXT}{P:MP}{w:M7}{K:MI}{mg:Str->Option Value}{base:Heap}{N:List Str}{qual:Str}{scope:M0}{f:MN}{cd:Value}{A:Nn}{outer:List Env}{s:MK}{H:Hp}{E:XK}
theorem sH {h h':Heap}{c:MN}{v:Option Value} (x:h.IsCell c v) (u:h.UpToSlots h'):h'.IsCell c v:=by
 obtain ⟨o,ho,hd⟩:=x
 obtain ⟨sl,q⟩:=u c o ho fun vs z=>by rw[hd] at z;cases z
 exact ⟨_,q,hd⟩
theorem sI {pins:List (MN×Obj)}{σ:L2.St}{H1 H2:Hp}{s1 s2:MK}{B G h':Heap} (I:Inv (aC CX P w K mg base N qual scope f cd A outer s H E) pins σ H1 s1) (J:Inv (aC CX P w K mg base N qual scope f cd A outer s H E) pins σ H2 s2)
 (cov:∀ b o,s1.heap.get? b=some o->b∉frs (aC CX P w K mg base N qual scope f cd A outer s H E).stack->∃ o',B.get? b=some o'/\(H1 b=none->o'=o)) (hg:HOk P w H2 G) (cv2:∀ b o,H2 b≠none->G.get? b=some o->B.get? b=some o)
 (st:B.StaysIn h') (up:s2.heap.UpToSlots h'):Inv (aC CX P w K mg base N qual scope f cd A outer s H E) pins σ H2 { s2 with heap:=h' }:=by
 have cov':∀ b o,s.heap.get? b=some o->b∉frs outer->∃ o',B.get? b=some o'/\(H b=none->o'=o):=fun b o e hb=>by
  obtain ⟨o1,q⟩:=I.base.there b o e (by simp[aC])
  obtain ⟨o2,q2,r2⟩:=cov b o1 q (eV I e hb)
  refine ⟨o2,q2,fun n=>?_⟩
  have k:=I.base.keep b o e n hb (by simp[aC])
  rw[q] at k
  rw[r2 (I.base.free b o e n (by simp[aC]))]
  exact MV k
 refine ⟨J.ok,J.os,J.bare,qE J cov' st up,?_,fun x c e=>?_,J.free,J.freeC,fun p hp=>?_,qD hg cv2 st,J.len⟩
 ·obtain ⟨m,hn,hl⟩:=J.loc
  refine ⟨m,up.ns hn,fun i x v h1 h2 h3=>?_⟩
  obtain ⟨u,r,q⟩:=hl i x v h1 h2 h3
  refine ⟨u,r,?_⟩
  rcases q with q | ⟨k,c,e,z⟩
  ·exact .inl q
  ·exact .inr ⟨k,c,e,sH z up⟩
 ·obtain ⟨v,z⟩:=J.cell x c e
  exact ⟨v,sH z up⟩
 ·obtain ⟨e,n,ne,nf,d⟩:=J.pin p hp
  obtain ⟨e1,n1,ne1,nf1,d1⟩:=I.pin p hp
  have ns:p.1∉frs (aC CX P w K mg base N qual scope f cd A outer s H E).stack:=fun z=>by
   rcases List.mem_cons.mp (I.gP p.1 z) with q | q
   ·exact ne1 q
   ·exact nf1 q
  obtain ⟨o',q,r⟩:=cov p.1 p.2 e1 ns
  rw[r n1] at q
  exact ⟨st _ _ q,n,ne,nf,d⟩
end
section
variable {M:Model}{A:Nn}{E:Value->MK->Prop}
variable {nm q nm2 q2:Str}{C N D N2:MN}{bs bm bs2 bm2:List Value}{hdct hdct2:Bool}{sn sn2:List Str}{sub sub2:List Value}{ab ab2:Bool}{col col2:Option Bool}{dd dd2:Option MN}{k0 k1 k2 k3 k5 j0 j1 j2 j3 j5:Option Value}{newId newId2:String}
theorem kD {h:Heap}{g:Array GenState}{d:Drawn}{t:Nat}{os:OsState}{e:MN}{oe:Obj}{Q:Bool->MK->Prop}
 (hC:h.get? C=some (Qj nm q C N bs bm hdct sn sub ab col dd k0 k1 k2 k3 k5 newId)) (hD:h.get? D=some (Qj nm2 q2 D N2 bs2 bm2 hdct2 sn2 sub2 ab2 col2 dd2 j0 j1 j2 j3 j5 newId2)) (he:h.get? e=some oe) (hcls:oe.cls=.ref C) (hbase:bm2.contains (.type "BaseException")=true)
 (hcD:(NK C :: bm).contains (.ref D)=true) (hq:Q true ⟨h,g,d,t,os⟩):wpAny M A (excMatches (.ref e) (.ref D)) Q E ⟨h,g,d,t,os⟩:=by
 have hcB:(NK D :: bm2).contains (.type "BaseException")=true:=by rw[R8,hbase,Bool.or_true]
 have f:=tc_notTuple
 unfold excMatches
 repeat (first | (with_reducible refine wpAny_loadPart_at he ?_;rw[hcls]) | with_reducible refine wpAny_loadPart_at hD ?_ | (with_reducible refine wpAny_isSubtype_exc hD ?_;rw[hcB]) | (with_reducible refine wpAny_isSubtype_exc hC ?_;rw[hcD]) | wp_step)
 exact hq
end
theorem xV {X:Cx}{pins:List (MN×Obj)}{σ:L2.St}{H:Hp}{s:MK}{h':Heap}{m':Str->Option Value}{tk:Nat} (I:Inv X pins σ H s) (hn:h'.Ns X.env.locals m') (sb:Ow X.env.locals s.heap h') :
 Inv X pins (MY X.N.length none) H { s with heap:=h',toks:=tk }:=by
 have ne:∀ b o,X.s₀.heap.get? b=some o->b≠X.env.locals:=fun b o e z=>by
  have:=I.ok.above
  rw[← z] at this
  exact absurd (MW e) (Nat.not_lt.mpr this)
 have nf:∀ b u,H b=some u->b≠X.env.locals:=fun b u e z=>by rw[z,I.free] at e;cases e
 refine ⟨I.ok,I.os,I.bare,⟨fun b o e n hb hx=>(sb.2 b (ne b o e)).trans (I.base.keep b o e n hb hx),fun b o e n hb hx=>?_,I.base.free,fun b o e hx=>?_,I.base.tups,I.base.frzs,I.base.tbls⟩,⟨m',hn,fun i x v h1 h2 h3=>?_⟩,fun x c e=>?_,I.free,I.freeC,fun p hp=>?_,fun b u e=>?_,by simp⟩
 ·obtain ⟨sl,q⟩:=I.base.slot b o e n hb hx
  exact ⟨sl,(sb.2 b (ne b o e)).trans q⟩
 ·obtain ⟨o',q⟩:=I.base.there b o e hx
  exact ⟨o',(sb.2 b (ne b o e)).trans q⟩
 ·rw[NR] at h2
  split at h2<;>cases h2
 ·obtain ⟨v,o,ho,hd⟩:=I.cell x c e
  exact ⟨v,o,(sb.2 c (I.cne x c e)).trans ho,hd⟩
 ·obtain ⟨e,n,n1,n2,d⟩:=I.pin p hp
  exact ⟨(sb.2 p.1 n1).trans e,n,n1,n2,d⟩
 ·exact (I.hok b u e).stay (fun c v hc q=>(sb.2 c (by rcases hc with rfl | hc;exact nf _ _ e;exact nf _ _ hc)).trans q) (fun _ q=>q) fun _ _ q=>q
noncomputable def qF (K:MI) (C D:MN):Bool:=match K.lookup C with
 | some ⟨_,_,.cls cd,_⟩=>cd.mro.contains (.ref D)
 | _=>false
theorem obj_some {P:MP}{w:M7}{H:Hp}{h:Heap}{a:MN}{o:HO} (x:dH P w H h a o):∃ q,h.get? a=some q:=by
 cases o with
 | lst xs=>obtain ⟨_,_,_,_,e⟩:=x;exact ⟨_,e⟩
 | tup xs=>obtain ⟨_,_,_,ob,e,_⟩:=x;exact ⟨_,e⟩
 | dK kvs=>obtain ⟨_,_,_,_,o,_,_,e,_⟩:=x;exact ⟨_,e⟩
 | dT kvs=>obtain ⟨_,_,_,_,o,_,_,e,_⟩:=x;exact ⟨_,e⟩
 | set S n=>obtain ⟨o,_,_,_,e,_⟩:=x;exact ⟨_,e⟩
 | ins C dx fs=>obtain ⟨_,_,_,e,_⟩:=x;exact ⟨_,e⟩
 | own y=>exact x
 | xd fs=>obtain ⟨_,⟨_,_,_,e,_⟩,_⟩:=x;exact ⟨_,e⟩
 | rng lo hi=>obtain ⟨_,_,_,e⟩:=x;exact ⟨_,e⟩
 | frz ob u=>obtain ⟨e,_⟩:=x;exact ⟨_,e⟩
 | tbl ps=>exact ⟨_,show h.get? a=some _ from x⟩
 | met f y=>exact ⟨_,show h.get? a=some _ from x⟩
 | ext φ=>exact x.2.1
section
variable {CX:CXT}{P:MP}{w:M7}{K:MI}{mg:Str->Option Value}{base:Heap}{N:List Str}{qual:Str}{scope:M0}{f:MN}{cd:Value}{A:Nn}{outer:List Env}{s0:MK}{H0:Hp}{E E1:XK}
end
end BS
end
section
namespace BT
open PySem
noncomputable abbrev XF:=FK->List W->HH->Option (Str×HH)
noncomputable def rsM (R:XF) (m:Str) (ea:HH->Option (List W×HH)) (x:W) (h:HH):Option (Str×HH):=match x with
 | .o n=>(match oat h n with
  | some (c,fs)=>(match aX m fs with
   | none=>bnd (ea h) fun ws h2=>R (.m c m) (.o n :: ws) h2
   | some _=>none)
  | none=>none)
 | _=>none
section
variable (F:FK->List W->HH->Option (W×HH)) (R:XF) (G:Str->Option W)
noncomputable def nN:E->Sl->HH->Option (Str×HH)
 | .meth o m as,s,h=>bnd (ev F G o s h) (rsM R m (evs F G as s))
 | _,_,_=>none
noncomputable def rsE:E->Sl->HH->Option (Str×HH)
 | .idx a i,s,h=>nN F R G a s h
 | .not a,s,h=>nN F R G a s h
 | e,s,h=>nN F R G e s h
noncomputable def rsI (x:Option (W×HH)) (a b:HH->Option (Str×HH)):Option (Str×HH):=match x with
 | some (.p (.bl true),h)=>a h
 | some (.p (.bl false),h)=>b h
 | _=>none
noncomputable def rsS:S->Sl->HH->Option (Str×HH)
 | .seq (.ex (.make c (.cons e .nil))) .bad,s,h=>(match ev F G e s h with
  | some (.p (.int i),h')=>if big i then some (c,h') else none
  | _=>none)
 | .seq a b,s,h=>(match evS F G a s h with
  | some (.nx s' h')=>rsS b s' h'
  | some _=>none
  | none=>rsS a s h)
 | .ife c a b,s,h=>rsI (ev F G c s h) (rsS a s) (rsS b s)
 | .ex e,s,h=>rsE F R G e s h
 | .ret e,s,h=>rsE F R G e s h
 | .set _ _ e,s,h=>rsE F R G e s h
 | _,_,_=>none
end
noncomputable def dY (T TX:FK->Option Fn) (G:Str->Option W):Nat->FK->List W->HH->Option (Str×HH)
 | 0,_,_,_=>none
 | k+1,f,ws,h=>match TX f with
  | some fn=>if ws.length=fn.ps.length then rsS (runN T G k) (dY T TX G k) G fn.body (aQ fn.ns.length ws) h else none
  | none=>none
theorem nO {T TX:FK->Option Fn}{G:Str->Option W}{f:FK}{fn:Fn}{ws:List W}{h:HH}{k:Nat} (hT:TX f=some fn) (hl:ws.length=fn.ps.length) :
 dY T TX G (k+1) f ws h=rsS (runN T G k) (dY T TX G k) G fn.body (aQ fn.ns.length ws) h:=by
 rw[dY,hT];exact if_pos hl
end BT
end
section
namespace BS
open PySem PySem.Spec PyProof.Rows L2
noncomputable def XW (K:MI) (E:XK) (m:List MN) (H:Hp) (c:Str) (h':BT.HH):Prop:=∀ H' m',Ext m H m' H'->RH K m' H' h'->∀ C,CN K c C->E (.ref C) none H'
theorem XW.ext {K:MI}{E:XK}{m m1:List MN}{H H1:Hp}{c:Str}{h':BT.HH} (w:XW K E m H c h') (x:Ext m H m1 H1):XW K E m1 H1 c h':=fun H' m' y R C hC=>w H' m' (x.trans y) R C hC
noncomputable def spX (P:MP) (w:M7) (K:MI) (g:List BT.W->BT.HH->Option (Str×BT.HH)):Sp:=fun vs H _ E =>
 ∃ m ws h c h',RH K m H h/\RWs P w K m H vs ws/\g ws h=some (c,h')/\XW K E m H c h'
structure OkX (X:Cx) (R:BT.XF) (E:XK):Prop where
 meth:∀ (c m:Str) ws h r,R (.m c m) ws h=some r->∃ (C g:MN) (fd:Ny) (ps:List Str) (k:Nat),iJ X.K c C/\oE X.K C m g/\Binds X.K fd ps []/\bE k X.A ∧
  cO X.prog X.w X.K X.mg X.base (CX1 X.prog X.w) k g fd ps (spX X.prog X.w X.K (R (.m c m)))
 pass:dN (CX1 X.prog X.w) X E
noncomputable def PXE (X:Cx) (e:MJ) (t:L2.St->Hp->Prop):Prop:=∀ (pins:List (MN×Obj)) (s:MK) (σ:L2.St) (H:Hp) (Q:Value->MK->Prop),Inv X pins σ H s->t σ H->wpAny (M3 X.prog X.w) X.A (eval e X.env) Q X.xe s
noncomputable def PXS (X:Cx) (st:M1) (t:L2.St->Hp->Prop):Prop:=∀ (pins:List (MN×Obj)) (s:MK) (σ:L2.St) (H:Hp) (Q:Flow->MK->Prop),Inv X pins σ H s->t σ H->wpAny (M3 X.prog X.w) X.A (exec st X.env) Q X.xe s
noncomputable def Lp (X:Cx) (st:List M1) (t:L2.St->Hp->Prop):Prop:=∀ (pins:List (MN×Obj)) (s:MK) (σ:L2.St) (H:Hp) (Q:Flow->MK->Prop),Inv X pins σ H s->t σ H->wpAny (M3 X.prog X.w) X.A (execs st X.env) Q X.xe s
noncomputable def xD (X:Cx) (E:XK) (g:BT.Sl->BT.HH->Option (Str×BT.HH)):L2.St->Hp->Prop:=fun σ H=>∃ m s h c h',RH X.K m H h/\RS X.prog X.w X.K m H σ s/\g s h=some (c,h')/\XW X.K E m H c h'
section
variable {F:FT}{R:BT.XF}{G:Str->Option BT.W}{E:XK}
theorem A3 {m:Str}{ea:BT.HH->Option (List BT.W×BT.HH)}{x:BT.W}{h:BT.HH}{r:Str×BT.HH} (e:BT.rsM R m ea x h=some r) :
 ∃ n c fs ws g,x=.o n/\BT.oat h n=some (c,fs)/\(BT.aX m fs).isNone=true/\ea h=some (ws,g)/\R (.m c m) (.o n :: ws) g=some r:=by
 unfold BT.rsM at e
 cases x with
 | o n =>
  simp only at e
  cases g1:BT.oat h n with
  | none=>rw[g1] at e;cases e
  | some q =>
   obtain ⟨c,fs⟩:=q
   rw[g1] at e
   simp only at e
   cases g2:BT.aX m fs with
   | some _=>rw[g2] at e;cases e
   | none =>
    rw[g2] at e
    simp only at e
    obtain ⟨ws,g,e1,e2⟩:=aj e
    exact ⟨n,c,fs,ws,g,rfl,g1,by rw[g2];rfl,e1,e2⟩
 | p d=>cases e
 | r n=>cases e
 | k q=>cases e
 | c _ _=>cases e
 | x _=>cases e
theorem pB {X:Cx}{sc:M0}{N:List Str} (O:Ok X F G sc N) (O1:OkX X R E) {o:BT.E}{m:Str}{as:BT.Es}{oe:MJ}{apos cpos:Pos}{es:List MJ} (hb:aO oe=true) (hl:(apos.endLine==cpos.line)=true) (hlen:es.length < 20) (ho:PE X oe (tD X F G o)) (hc:CEs sc N as es) (ha:PA X es (tDs X F G as)) :
 PXE X (.Call (.Attribute oe m apos) es [] cpos) (xD X E (BT.nN F R G (.meth o m as))):=by
 have hst:=cW hc
 intro pins s σ H Q I q
 obtain ⟨m0,s',h,c0,h',RR,S,ee,post⟩:=q
 simp only[BT.nN] at ee
 obtain ⟨x,h1,e1,e2⟩:=aj ee
 obtain ⟨n,c,fs,ws,g,rfl,e3,e4,e5,e6⟩:=A3 e2
 obtain ⟨C,ga,fd,ps,k,hC,hM,hB,hR,ok⟩:=O1.meth _ _ _ _ _ e6
 have key:rB C m (spX X.prog X.w X.K (R (.m c m))) [] E (tD X F G o) (tDs X F G as) σ H (fun _ _=>False):=by
  refine ⟨m0,s',h,.o n,h1,RR,S,e1,fun v H1 m1 x1 R1 r1=>?_⟩
  cases r1 with
  | @o a _ hn =>
   obtain ⟨C',dx,vs,q1,q2,q3⟩:=R1.lY _ _ _ _ hn e3
   cases q2.cn.inj hC.cn
   refine ⟨a,dx,vs,rfl,q1,q3.none e4,m1,s',h1,ws,g,R1,S.ext x1,e5,fun us H2 m2 x2 R2 r2=>?_⟩
   show spX X.prog X.w X.K (R (.m c m)) (V.ref a :: (us++[])) H2 _ E
   rw[NT]
   exact ⟨m2,.o n :: ws,g,c0,h',R2,.cons (.o (x2.ix hn)) r2,e6,post.ext (x1.trans x2)⟩
 have fin:∀ u s2,EP X pins σ (fun _ _=>False) u s2->Q u s2:=fun u s2 ⟨_,_,_,_,z⟩=>z.elim
 cases es with
 | nil =>
  cases as with
  | cons a r=>cases hc
  | nil =>
   refine thn (oF ho hC.cls hM ok hR hB .nil O1.pass (gC hb hst hlen hl) pins s σ H (fun _ _=>False) I ?_) fin
   obtain ⟨m,s,h,z,h',R,S,ee,post⟩:=key
   refine ⟨m,s,h,z,h',R,S,ee,fun v H1 m1 x1 R1 r1=>?_⟩
   obtain ⟨a,dx,fs,q1,q2,q3,q4⟩:=post v H1 m1 x1 R1 r1
   exact ⟨a,dx,fs,q1,q2,q3,eN q4⟩
 | cons e es =>
  have hst':=hst
  simp only[av,ML] at hst'
  exact thn (rC ho hC.cls hM ok hR hB .nil O1.pass ha (ak hst'.1) (aR hst'.2) (gC hb hst hlen hl) pins s σ H (fun _ _=>False) I key) fin
end
inductive CXE (sc:M0) (N:List Str):BT.E->MJ->Prop where
 | meth {o:BT.E}{m:Str}{as:BT.Es}{oe:MJ}{apos cpos:Pos}{es:List MJ} (h3:aO oe=true) (h6:(apos.endLine==cpos.line)=true) (h7:es.length < 20) (ho:CE' sc N o oe) (ha:CEs sc N as es):CXE sc N (.meth o m as) (.Call (.Attribute oe m apos) es [] cpos)
 | idx {o:BT.E}{m:Str}{as:BT.Es}{i:BT.E}{oe sl:MJ}{apos cpos p:Pos}{es:List MJ} (h3:aO oe=true) (h6:(apos.endLine==cpos.line)=true) (h7:es.length < 20) (ho:CE' sc N o oe) (ha:CEs sc N as es):CXE sc N (.idx (.meth o m as) i) (.Subscript (.Call (.Attribute oe m apos) es [] cpos) sl p)
mutual
inductive CXS (sc:M0) (N:List Str) (ra:Bool):BT.S->M1->Prop where
 | rai {c t:Str}{e:BT.E}{v:MJ}{j:Nat}{np p1 p2 p3 cpos pos:Pos} (hu:dI N=true) (hr:ra=true) (hx:eB c=true) (hg:aT sc c=true) (hn:aH c=true) (hl:t.length<=1000) (he:CE' sc N e v) :
  CXS sc N ra (.seq (.ex (.make c (.cons e .nil))) .bad) (.Raise (some (.Call (.Name c np) [.JoinedStr [.Constant (.str t) j p1,.FormattedValue v 114 none p2] p3] [] cpos)) none pos)
 | bad {st:M1}:CXS sc N ra .bad st
 | ex {e:BT.E}{v:MJ}{p:Pos} (h:g9 v=true) (he:CXE sc N e v):CXS sc N ra (.ex e) (.Expr v p)
 | ret {e:BT.E}{v:MJ}{p:Pos} (he:CXE sc N e v):CXS sc N ra (.ret e) (.Return (some v) p)
 | ife {c:BT.E}{a b:BT.S}{t:MJ}{xs ys:List M1}{p:Pos} (h:tOK c=true) (hc:CE' sc N c t) (ha:fP sc N ra a xs) (hb:fP sc N ra b ys):CXS sc N ra (.ife c a b) (.If t xs ys p)
inductive fP (sc:M0) (N:List Str) (ra:Bool):BT.S->List M1->Prop where
 | nil {sts:List M1}:fP sc N ra .nil sts
 | bads {sts:List M1}:fP sc N ra .bad sts
 | one {s:BT.S}{st:M1}{r:List M1} (h:CXS sc N ra s st):fP sc N ra s (st :: r)
 | cons {a b:BT.S}{st:M1}{r:List M1} (hm:∀ c e,¬ (a=.ex (.make c (.cons e .nil))/\b=.bad)) (hn:CS sc N a st) (h:CXS sc N ra a st) (hr:fP sc N ra b r):fP sc N ra (.seq a b) (st :: r)
end
structure MadeX (X:Cx) (E:XK):Prop where
 made:∀ pins σ H s1 h2 a args C,Inv X pins σ H s1->PR s1.heap h2 a (.ref C) args->E (.ref C) none H->X.xe (.ref a) { s1 with heap:=h2 }
 cls:∀ c,eB c=true->∃ C,CN X.K c C/\X.mg c=some (.ref C)/\kC X.K C
section
variable {F:FT}{R:BT.XF}{G:Str->Option BT.W}{E:XK}{X:Cx}{sc:M0}{N:List Str}{ra:Bool}
theorem sEs {as:BT.Es}{es:List MJ} (h:CEs sc N as es) (O:Ok X F G sc N):PA X es (tDs X F G as):=by
 match as,es,h with
 | _,_,.nil=>exact PA.weak fT fun σ H Q q=>eN q
 | _,_,.cons hs ha hr=>exact PA.weak (cu (sE ha O) (sEs hr O) (ak hs)) cons_of
theorem sXE (O:Ok X F G sc N) (O1:OkX X R E) {e:BT.E}{v:MJ} (h:CXE sc N e v):PXE X v (xD X E (BT.rsE F R G e)):=by
 cases h with
 | meth h3 h6 h7 ho ha=>exact pB O O1 h3 h6 h7 (sE ho O) ha (sEs ha O)
 | idx h3 h6 h7 ho ha =>
  intro pins s σ H Q I q
  exact RC (pB O O1 h3 h6 h7 (sE ho O) ha (sEs ha O) pins s σ H _ I q)
theorem Ey (O:Ok X F G sc N) (hu:dI N=true) (M:MadeX X E) {c t:Str}{e:BT.E}{v:MJ}{j:Nat}{np p1 p2 p3 cpos pos:Pos} (hx:eB c=true) (hg:aT sc c=true) (hn:aH c=true) (hl:t.length<=1000) (he:CE' sc N e v) :
 PXS X (.Raise (some (.Call (.Name c np) [.JoinedStr [.Constant (.str t) j p1,.FormattedValue v 114 none p2] p3] [] cpos)) none pos) (xD X E (BT.rsS F R G (.seq (.ex (.make c (.cons e .nil))) .bad))):=by
 intro pins s σ H Q I q
 obtain ⟨C,hC,hm,xc⟩:=M.cls c hx
 obtain ⟨m,s',h,c0,h',RR,S,ee,post⟩:=q
 simp only[BT.rsS] at ee
 split at ee
 ·rename_i i h2 e1
  split at ee
  ·rename_i hb
   cases ee
   refine xU (aY O hg) hn hm xc (O.calm hu) hl (sE he O) I ⟨m,s',h,_,_,RR,S,e1,fun v H1 m1 x1 R1 r1=>?_⟩
   cases r1 with
   | p r1 =>
    cases r1
    refine ⟨i,rfl,by simpa [BT.big] using hb,fun s1 h2 a args I1 hx=>M.made _ _ _ _ _ _ _ _ I1 hx (post H1 m1 x1 R1 C hC)⟩
  ·cases ee
 ·cases ee
mutual
theorem sXS (O:Ok X F G sc N) (O1:OkX X R E) (M:ra=true->MadeX X E) (hf:∀ x,X.fn x=true):∀ {s:BT.S}{st:M1},CXS sc N ra s st->PXS X st (xD X E (BT.rsS F R G s))
 | _,_,.rai hu hr hx hg hn hl he=>Ey O hu (M hr) hx hg hn hl he
 | _,_,.bad=>fun pins s σ H Q I q=>by
  obtain ⟨m,s',h,c0,h',RR,S,ee,post⟩:=q
  simp only[BT.rsS] at ee
  cases ee
 | _,_,.ex h he=>fun pins s σ H Q I q=>by
  refine wpAny_Expr_any (sXE O O1 he pins s σ H _ I ?_) I.quiet (eU h)
  obtain ⟨m,s',h,c0,h',RR,S,ee,post⟩:=q
  exact ⟨m,s',h,c0,h',RR,S,by simpa only[BT.rsS] using ee,post⟩
 | _,_,.ret he=>fun pins s σ H Q I q=>by
  refine wpAny_Return_some (sXE O O1 he pins s σ H _ I ?_)
  obtain ⟨m,s',h,c0,h',RR,S,ee,post⟩:=q
  exact ⟨m,s',h,c0,h',RR,S,by simpa only[BT.rsS] using ee,post⟩
 | _,_,@CXS.ife _ _ _ c a b t xs ys p h hc ha hb=>fun pins s σ H Q I q=>by
  obtain ⟨m,s',h0,c0,h',RR,S,ee,post⟩:=q
  simp only[BT.rsS] at ee
  unfold BT.rsI at ee
  split at ee
  ·rename_i h1 e1
   refine wpAny_If (thn ((sT hc O h).1 pins s σ H (fun d H1=>d=true/\xD X E (BT.rsS F R G a) σ H1) I ⟨m,s',h0,true,h1,RR,S,e1,fun H1 m1 x1 R1=>⟨rfl,m1,s',h1,c0,h',R1,S.ext x1,ee,post.ext x1⟩⟩) fun d s1 ⟨H1,I1,q1,q2⟩=>?_)
   subst q1
   exact xW O O1 M hf ha pins s1 σ H1 Q I1 q2
  ·rename_i h1 e1
   refine wpAny_If (thn ((sT hc O h).1 pins s σ H (fun d H1=>d=false/\xD X E (BT.rsS F R G b) σ H1) I ⟨m,s',h0,false,h1,RR,S,e1,fun H1 m1 x1 R1=>⟨rfl,m1,s',h1,c0,h',R1,S.ext x1,ee,post.ext x1⟩⟩) fun d s1 ⟨H1,I1,q1,q2⟩=>?_)
   subst q1
   exact xW O O1 M hf hb pins s1 σ H1 Q I1 q2
  ·cases ee
theorem xW (O:Ok X F G sc N) (O1:OkX X R E) (M:ra=true->MadeX X E) (hf:∀ x,X.fn x=true):∀ {s:BT.S}{sts:List M1},fP sc N ra s sts->Lp X sts (xD X E (BT.rsS F R G s))
 | _,_,.nil=>fun pins s σ H Q I q=>by
  obtain ⟨m,s',h,c0,h',RR,S,ee,post⟩:=q
  simp only[BT.rsS] at ee
  cases ee
 | _,_,.bads=>fun pins s σ H Q I q=>by
  obtain ⟨m,s',h,c0,h',RR,S,ee,post⟩:=q
  simp only[BT.rsS] at ee
  cases ee
 | _,_,.one h=>fun pins s σ H Q I q=>O0 (sXS O O1 M hf h pins s σ H _ I q)
 | _,_,@fP.cons _ _ _ a b st r hm hn h hr=>fun pins s σ H Q I q=>by
  obtain ⟨m,s',h0,c0,h',RR,S,ee,post⟩:=q
  have ee:(match BT.evS F G a s' h0 with | some (.nx s2 h2)=>BT.rsS F R G b s2 h2 | some _=>none | none=>BT.rsS F R G a s' h0)=some (c0,h'):=by
   rw[← ee]
   symm
   rw[BT.rsS]
   all_goals first
    | exact fun c e z1 z2=>hm c e ⟨z1,z2⟩ | rfl
  cases g:BT.evS F G a s' h0 with
  | none =>
   rw[g] at ee
   exact O0 (sXS O O1 M hf h pins s σ H _ I ⟨m,s',h0,c0,h',RR,S,ee,post⟩)
  | some fl =>
   rw[g] at ee
   cases fl with
   | nx s2 h2 =>
    simp only at ee
    refine O0 (thn (sS O hf hn pins s σ H { nx:=fun σ' H'=>xD X E (BT.rsS F R G b) σ' H',rt:=fun _ _=>False } I ⟨m,s',h0,.nx s2 h2,RR,S,g,fun σ' H1 m1 x1 R1 S1=>⟨m1,s2,h2,c0,h',R1,S1,ee,post.ext x1⟩⟩) fun f s1 q=>?_)
    cases f with
    | next =>
     obtain ⟨σ',H1,I1,q1⟩:=q
     exact xW O O1 M hf hr pins s1 σ' H1 Q I1 q1
    | ret u=>obtain ⟨_,_,_,_,_,z⟩:=q;exact z.elim
    | brk=>obtain ⟨_,_,_,z⟩:=q;exact z.elim
    | cont=>obtain ⟨_,_,_,z⟩:=q;exact z.elim
   | rt z h2=>cases ee
   | bk s2 h2=>cases ee
   | ct s2 h2=>cases ee
end
end
end BS
end
section
namespace BS
open PySem PySem.Spec PyProof.Rows L2
structure sJ (K:MI) (c m:Str) (fn:BT.Fn):Prop where
 ex:∃ (C f:MN) (fd:Ny) (x qual:Str) (st:M1),iJ K c C/\oE K C m f/\Fun K x qual st f fd/\aD fn.ns fn.ps (af st)/\Binds K fd fn.ps []/\fP (af st) fn.ns true fn.body (aq st)
 nt:∀ x,fn.ns.contains (BT.bZ x)=false
structure xX (K:MI) (mg:Str->Option Value) (TX:BT.FK->Option BT.Fn):Prop where
 meths:∀ c m fn,TX (.m c m)=some fn->sJ K c m fn
 cls:∀ c,eB c=true->∃ C,CN K c C/\mg c=some (.ref C)/\kC K C
theorem xY {T TX:BT.FK->Option BT.Fn}{G:Str->Option BT.W}{k:Nat}{x:BT.FK}{ws:List BT.W}{h:BT.HH}{r:Str×BT.HH} (e:BT.dY T TX G k x ws h=some r):∃ fn,TX x=some fn:=by
 cases k with
 | zero=>cases e
 | succ k =>
  rw[BT.dY] at e
  cases q:TX x with
  | none=>rw[q] at e;cases e
  | some fn=>exact ⟨fn,rfl⟩
theorem Cw {CX:CXT}{P:MP}{w:M7}{K:MI}{mg:Str->Option Value}{base:Heap}{T:BT.FK->Option BT.Fn}{G:Str->Option BT.W} (X:Txt P w K mg T G) {k:Nat}{N ps:List Str}{qual:Str}{st:M1}{f:MN}{cdv:Value}{A:Nn}{outer:List Env}{s:MK}{H:Hp}{E:XK}
 (nd:N.Nodup) (nt:∀ x,N.contains (BT.bZ x)=false) (hr:bE (2*k+1) (A.deeper (OA qual (af st) s.heap.objs.size f cdv))):Ok (aC CX P w K mg base N qual (af st) f cdv A outer s H E) (BT.runN T G k) G (af st) N :=
 sG X (jN X k).1 (jN X k).2 rfl rfl rfl rfl rfl rfl rfl nd rfl hr PassesOwn.leaving fun _ x hx=>by rw[nt x] at hx;cases hx
theorem A4 {P:MP}{w:M7}{K:MI}{mg:Str->Option Value}{base:Heap}{T TX:BT.FK->Option BT.Fn}{G:Str->Option BT.W} (X:Txt P w K mg T G) (Y:xX K mg TX) :
 ∀ (k:Nat) (x:BT.FK) (fn:BT.Fn),TX x=some fn->∀ (f:MN) (fd:Ny) (nm qual:Str) (st:M1),Fun K nm qual st f fd->aD fn.ns fn.ps (af st)->fP (af st) fn.ns true fn.body (aq st)->(∀ x,fn.ns.contains (BT.bZ x)=false)->cO P w K mg base (CX1 P w) (2*k) f fd fn.ps (spX P w K (BT.dY T TX G k x)):=by
 intro k
 induction k with
 | zero =>
  intro x fn hT f fd nm qual st h2 h3 h5 h6
  have no:∀ vs H Q E,¬ spX P w K (BT.dY T TX G 0 x) vs H Q E:=fun vs H Q E h=>by
   obtain ⟨m,ws,h,z,h',_,_,e,_⟩:=h
   cases e
  exact ⟨fun vs H Q E h=>absurd h (no vs H Q E),fun A outer s H args us vs Q E _ _ _ _ h=>absurd h (no vs H Q E)⟩
 | succ k ih =>
  intro x fn hT f fd nm qual st h2 h3 h5 h6
  show cO P w K mg base (CX1 P w) (2*k+1+1) f fd fn.ps (spX P w K (BT.dY T TX G (k+1) x))
  obtain ⟨oc,od,kV,doc,pm,an,cdv,ct,osl,rfl,lk,hcd⟩:=h2.ex
  have inv:∀ {ws:List BT.W}{h:BT.HH}{r:Str×BT.HH},BT.dY T TX G (k+1) x ws h=some r->ws.length=fn.ps.length/\BT.rsS (BT.runN T G k) (BT.dY T TX G k) G fn.body (BT.aQ fn.ns.length ws) h=some r:=fun {ws h r} e=>by
   rw[BT.dY,hT] at e
   simp only at e
   split at e
   ·rename_i c;exact ⟨c,e⟩
   ·cases e
  refine vO lk hcd h3 (fun vs H Q E h=>?_) fun A outer s H vs Q E hr h=>?_
  ·obtain ⟨m,ws,h,c,h',R,r,e,post⟩:=h
   rw[r.length];exact (inv e).1
  ·obtain ⟨m,ws,h,c,h',R,r,e,post⟩:=h
   have O:=Cw (CX:=CX1 P w) (base:=base) (outer:=outer) (H:=H) (E:=E) (ps:=fn.ps) X h3.nd h6 hr
   have O1:OkX (aC (CX1 P w) P w K mg base fn.ns qual (af st) f cdv A outer s H E) (BT.dY T TX G k) E:=by
    refine ⟨fun c g ws h r e=>?_,HJ fun _ _ z=>z⟩
    obtain ⟨fn',hTg⟩:=xY e
    obtain ⟨C,f',fd',x',q',st',b1,b3,a2,a3,a4,a5⟩:=(Y.meths c g fn' hTg).ex
    exact ⟨C,f',fd',fn'.ps,2*k,b1,b3,a4,hr.mono (Oe _),ih _ fn' hTg f' fd' x' q' st' a2 a3 a5 (Y.meths c g fn' hTg).nt⟩
   have M:MadeX (aC (CX1 P w) P w K mg base fn.ns qual (af st) f cdv A outer s H E) E:=⟨fun pins σ H s1 h2 a args C I hx hE=>AZ I hx hE,Y.cls⟩
   exact ⟨fun D σ H'=>xD (aC (CX1 P w) P w K mg base fn.ns qual (af st) f cdv A outer s H E) E (BT.rsS (BT.runN T G k) (BT.dY T TX G k) G fn.body) σ H',
    fun pins s σ H D I q=>xW O O1 (fun _=>M) (fun _=>rfl) h5 pins s σ H _ I q,m,_,h,c,h',R,dQ r,(inv e).2,post⟩
end BS
end
section
namespace BS
open PySem PySem.Spec PyProof.Rows L2
noncomputable def iT (tn:Str) (told:List BT.W->BT.HH->Option (BT.W×BT.HH)) (F:FT):FT:=fun x=>match x with
 | .f y=>if y=tn then told else F (.f y)
 | .m c m=>F (.m c m)
 | .l L=>F (.l L)
theorem pC {tn:Str}{told:List BT.W->BT.HH->Option (BT.W×BT.HH)}{F:FT}:iT tn told F (.f tn)=told:=if_pos rfl
theorem sL {tn y:Str}{told:List BT.W->BT.HH->Option (BT.W×BT.HH)}{F:FT} (h:¬ y=tn):iT tn told F (.f y)=F (.f y):=if_neg h
theorem A5 {X:Cx}{F:FT}{G:Str->Option BT.W}{sc:M0}{N:List Str} (O:Ok X F G sc N) {tn:Str}{told:List BT.W->BT.HH->Option (BT.W×BT.HH)}{fa:MN}{fd:Ny}{ps:List Str}{k:Nat}
 (h1:X.mg tn=some (.ref fa)) (h2:Nb X.K (.ref fa)=true) (h3:Binds X.K fd ps []) (h4:bE k X.A) (h5:cO X.prog X.w X.K X.mg X.base CX0 k fa fd ps (spF X.prog X.w X.K told)):Ok X (iT tn told F) G sc N :=
 ⟨O.hsc,O.hN,O.nd,O.calm,O.hu,O.own,O.glob,fun f ws h r e=>by
  by_cases c:f=tn
  ·subst c
   rw[pC]
   exact ⟨fa,fd,ps,k,h1,h2,h3,h4,h5⟩
  ·rw[sL c] at e ⊢
   exact O.call f ws h r e,O.meth,O.mkc,O.blt,O.lam,O.lamx⟩
noncomputable def jz (F:FT) (G:Str->Option BT.W) (fn:BT.Fn) (ws:List BT.W) (h:BT.HH):Option (BT.W×BT.HH):=if ws.length=fn.ps.length then BT.iI (BT.evS F G fn.body (BT.aQ fn.ns.length ws) h) (BT.fin h) else none
section
variable {P:MP}{w:M7}{K:MI}{mg:Str->Option Value}{base:Heap}{T:BT.FK->Option BT.Fn}{G:Str->Option BT.W}
theorem xZ (X:Txt P w K mg T G) (k:Nat) {fn:BT.Fn}{f:MN}{fd:Ny}{nm qual:Str}{st:M1} (h2:Fun K nm qual st f fd) (h3:aD fn.ns fn.ps (af st)) (h5:CSs (af st) fn.ns fn.body (aq st)) (h6:kB K qual fd fn)
 {tn:Str}{told:List BT.W->BT.HH->Option (BT.W×BT.HH)}{fa:MN}{fd':Ny}{ps:List Str} (q1:mg tn=some (.ref fa)) (q2:Nb K (.ref fa)=true) (q3:Binds K fd' ps []) (q5:cO P w K mg base CX0 (2*k) fa fd' ps (spF P w K told)) :
 cO P w K mg base CX0 (2*k+1+1) f fd fn.ps (spF P w K (jz (iT tn told (BT.runN T G k)) G fn)):=by
 refine sF h2 h3 (fun vs H Q E h=>?_) fun cdv A outer s H vs Q E hcd hr hM h=>?_
 ·obtain ⟨m,ws,h,z,h',R,r,e,post⟩:=h
  unfold jz at e
  split at e
  ·rename_i c;rw[r.length];exact c
  ·cases e
 ·obtain ⟨m,ws,h,z,h',R,r,e,post⟩:=h
  unfold jz at e
  split at e
  ·have O:Ok (aC CX0 P w K mg base fn.ns qual (af st) f cdv A outer s H E).nox (BT.runN T G k) G (af st) fn.ns:=by
    refine sG X (jN X k).1 (jN X k).2 rfl rfl rfl rfl rfl rfl rfl h3.nd rfl hr OI fun _ y hy=>?_
    obtain ⟨t1,t2,⟨c,Pt,t3,t4,t5,t6⟩,bm,ob,t7,t8,t9,t10,t11,t12⟩:=h6 y hy
    exact ⟨t2,⟨c,Pt,t3,hcd.symm.trans t4,PF hM.kin t5,t6⟩,by show qual++".<locals>."=_;rw[t1],bm,ob,NC hM.kin hM.glob t7,t8,hM.kin _ _ t9,t10,t11,t12⟩
   have O':=A5 O (tn:=tn) (told:=told) (k:=2*k) q1 q2 q3 (hr.mono (Oe _)) q5
   refine ⟨_,sSs O' (fun _=>rfl) h5,?_⟩
   cases gg:BT.evS (iT tn told (BT.runN T G k)) G fn.body (BT.aQ fn.ns.length ws) h with
   | none=>rw[gg] at e;cases e
   | some fl =>
    rw[gg] at e
    refine ⟨m,_,h,fl,R,dQ r,gg,?_⟩
    cases fl with
    | rt y g =>
     intro v H' m' x' R' r'
     obtain ⟨m2,y1,y2,y3⟩:=bU e R x' R' r'
     exact post v H' m2 y1 y2 y3
    | nx s' g =>
     intro σ' H' m' x' R' _
     obtain ⟨m2,y1,y2,y3⟩:=bU (v:=.non) e R x' R' (.p .non)
     exact post .non H' m2 y1 y2 y3
    | bk s' g=>cases e
    | ct s' g=>cases e
  ·cases e
end
end BS
end
section
namespace BS
open PySem PySem.Spec PyProof.Rows L2
noncomputable abbrev pF (A:Nn):Nn:={ A with handled:=none }
noncomputable def cxU (P:MP) (w:M7) (K:MI) (mg:Str->Option Value) (base:Heap) (N:List Str) (qual:Str) (scope:M0) (f:MN) (cd:Value) (A:Nn) (outer:List Env) (s:MK) (H:Hp):Cx :=
 { aC CX0 P w K mg base N qual scope f cd A outer s H E0 with calm:=false,xe:=fun _ _=>False }
section
variable {P:MP}{w:M7}{K:MI}{mg:Str->Option Value}{base:Heap}
theorem qG {N ps:List Str}{qual:Str}{scope:M0}{f:MN}{cd:Value}{A:Nn}{outer:List Env}{s s1:MK}{H:Hp}{us:List Value}{vs:List V}
 (S:aD N ps scope) (e0:ju P w K mg base A outer s H) (hl:vs.length=ps.length) (r:ao vs us)
 (x:InCallC s s.heap.objs.size (bindL (OA qual scope s.heap.objs.size f cd).kindOf (ps.zip us) fun _=>none) (Q4 (s.heap.objs.size+1) scope.names []) (bindC (OA qual scope s.heap.objs.size f cd).kindOf (ps.zip us) fun _=>none) s1) :
 Inv (cxU P w K mg base N qual scope f cd A outer s H) [] (L2.start N vs) H s1:=by
 have e1:ju P w K mg base (pF A) outer s H:=⟨e0.frames,e0.mod,e0.bs,e0.bsz,e0.e9,e0.frf,e0.hok,e0.bare⟩
 have I:=lS (CX:=CX0) (A:=pF A) (E:=E0) S rfl e1 hl r x
 exact ⟨⟨I.ok.mod,I.ok.kind,I.ok.glob,I.ok.blt,I.ok.above,I.ok.inj,I.ok.has,I.ok.cab,fun z=>(by cases z),Px e0.frames,I.ok.stk,I.ok.exf,I.ok.bs,I.ok.bsz,I.ok.noex,I.ok.exfs,I.ok.e9,I.ok.frf⟩,
  I.os,I.bare,I.base,I.loc,I.cell,I.free,I.freeC,I.pin,I.hok,I.len⟩
structure FnU (P:MP) (w:M7) (K:MI) (mg:Str->Option Value) (base:Heap) (k:Nat) (f:MN) (fd:Ny) (ps:List Str) (sp:Sp):Prop where
 len:∀ vs H Q E,sp vs H Q E->vs.length=ps.length
 run:∀ (A:Nn) (outer:List Env) (s:MK) (H:Hp) (args:Args) (us:List Value) (vs:List V) (Q:VK) (E:XK),bE k (pF A)->ju P w K mg base A outer s H->BindsTo s fd args (ps.zip us)->ao vs us->sp vs H Q E →
  codeAny (M3 P w) A (.call (.ref f) args) (CR CX0 outer P w H s Q E) s
theorem Ez {k:Nat}{f:MN}{name qual:Str}{params:OU}{body:List M1}{scope:M0}{dV kV doc pm cdv ct oc:Value}{an od:Option MN}
 {osl:Array (Option Value)}{N ps:List Str}{sp:Sp} (lk:K.lookup f=some ⟨oc,od,.func (NJ name qual params body scope dV kV doc pm an cdv ct),osl⟩) (hcd:O2 K cdv qual=true) (S:aD N ps scope)
 (len:∀ vs H Q E,sp vs H Q E->vs.length=ps.length)
 (hbody:∀ (A:Nn) (outer:List Env) (s:MK) (H:Hp) (vs:List V) (Q:VK) (E:XK),bE k (pF (A.deeper (OA qual scope s.heap.objs.size f cdv)))->sp vs H Q E →
  ∃ t,PSs (cxU P w K mg base N qual scope f cdv A outer s H) body t/\t { nx:=fun _ H'=>Q .non H',rt:=Q } (L2.start N vs) H) :
 FnU P w K mg base (k+1) f (NJ name qual params body scope dV kV doc pm an cdv ct) ps sp:=by
 refine ⟨len,fun A outer s H args us vs Q E hr e0 hb r hsp=>?_⟩
 have hl:=len _ _ _ _ hsp
 have KX:K.In s.heap:=e0.mod.kin.keeps fun b o e=>(e0.bs b o e).1
 have lim:s.heap.NoLimit:=e0.mod.nolimit.keeps fun b o e=>(e0.bs b o e).1
 have hkind:∀ y∈ps.zip us,scope.names.lookup y.1=some .local\/(scope.names.lookup y.1=some .cell/\((Q4 (s.heap.objs.size+1) scope.names []).lookup y.1).isSome=true):=fun ⟨n,v⟩ hy=>by
  rcases S.par n (OX hy).1 with q | q
  ·exact .inl q
  ·exact .inr ⟨q,O9 _ _ _ (.inl q)⟩
 refine codeAny_call_function (A:=A) hr.depth (KX _ _ lk) rfl S.co S.gen rfl (Rj KX hcd) (hb _ _ _ _ ?_)
 refine Rf S.kind hkind fun env he s1 x=>?_
 subst he
 refine ⟨lim.keeps x.toInCall.keep,codeAny_func ?_⟩
 obtain ⟨t,ht,hq⟩:=hbody A outer s H vs Q E (hr.deeper _) hsp
 have I:=qG (f:=f) (cd:=cdv) (qual:=qual) S e0 hl r x
 refine wpAny_mono (ht [] s1 (L2.start N vs) H _ I hq) (fun fl s' hs=>?_) fun e s' hs=>hs.elim
 have fin:∀ {σ':L2.St}{H':Hp}{v:V}{u:Value},Inv (cxU P w K mg base N qual scope f cdv A outer s H) [] σ' H' s'->RelV v u->Q v H'->CE outer P w H s Q u s' :=
  fun {σ' H' v u} J rv q=>⟨v,H',J.os,J.bare,J.base,J.hok,rv,q⟩
 cases fl with
 | ret u =>
  obtain ⟨v,σ',H',J,rv,q⟩:=hs
  exact fin J rv q
 | next =>
  obtain ⟨σ',H',J,q⟩:=hs
  exact fin (v:=V.non) (u:=Qd) J rfl q
 | brk=>obtain ⟨_,_,_,q⟩:=hs;exact Nu q
 | cont=>obtain ⟨_,_,_,q⟩:=hs;exact Nu q
noncomputable def qH (fn:BT.Fn):List BT.W->BT.HH->Option (BT.W×BT.HH):=jz (fun _ _ _=>none) (fun _=>none) fn
theorem EA {fn:BT.Fn}{f:MN}{fd:Ny}{nm qual:Str}{st:M1}{k:Nat} (blt:∀ x∈Ay,mg x=none) (h2:Fun K nm qual st f fd) (h3:aD fn.ns fn.ps (af st)) (h5:CSs (af st) fn.ns fn.body (aq st)) (hu:dI fn.ns=false) (hnt:∀ x,fn.ns.contains (BT.bZ x)=false) :
 FnU P w K mg base (k+1) f fd fn.ps (spF P w K (qH fn)):=by
 obtain ⟨oc,od,kV,doc,pm,an,cdv,ct,osl,rfl,lk,hcd⟩:=h2.ex
 refine Ez lk hcd h3 (fun vs H Q E h=>?_) fun A outer s H vs Q E hr h=>?_
 ·obtain ⟨m,ws,h,z,h',R,r,e,post⟩:=h
  unfold qH jz at e
  split at e
  ·rename_i c;rw[r.length];exact c
  ·cases e
 ·obtain ⟨m,ws,h,z,h',R,r,e,post⟩:=h
  unfold qH jz at e
  split at e
  ·have O:Ok (cxU P w K mg base fn.ns qual (af st) f cdv A outer s H) (fun _ _ _=>none) (fun _=>none) (af st) fn.ns:=by
    refine ⟨rfl,rfl,h3.nd,fun z=>absurd z (by rw[hu];decide),?_,OI,fun x z e=>(by cases e),fun g ws h r e=>(by cases e),fun c g ws h r e=>(by cases e),fun c ws h r e=>(by cases e),blt,fun L ws h r e=>(by cases e),fun _ x hx=>absurd hx (by rw[hnt x];decide)⟩
    have:=hr.un
    show A.units+3+150 < Rp
    have this:A.units+3+16*k+200 < Rp:=this
    omega
   refine ⟨_,sSs O (fun _=>rfl) h5,?_⟩
   cases gg:BT.evS (fun _ _ _=>none) (fun _=>none) fn.body (BT.aQ fn.ns.length ws) h with
   | none=>rw[gg] at e;cases e
   | some fl =>
    rw[gg] at e
    refine ⟨m,_,h,fl,R,dQ r,gg,?_⟩
    cases fl with
    | rt y g =>
     intro v H' m' x' R' r'
     obtain ⟨m2,y1,y2,y3⟩:=bU e R x' R' r'
     exact post v H' m2 y1 y2 y3
    | nx s' g =>
     intro σ' H' m' x' R' _
     obtain ⟨m2,y1,y2,y3⟩:=bU (v:=.non) e R x' R' (.p .non)
     exact post .non H' m2 y1 y2 y3
    | bk s' g=>cases e
    | ct s' g=>cases e
  ·cases e
end
theorem ya {X:Cx}{k:Nat}{f:MN}{fd:Ny}{ps:List Str}{sp:Sp}{x:Str}{p pos:Pos}{e:MJ}{es:List MJ}{t:TA} (F:FnU X.prog X.w X.K X.mg X.base k f fd ps sp) (hr:bE k (pF X.A)) (hg:Gl X x) (hm:X.mg x=some (.ref f)) (hk:Nb X.K (.ref f)=true) (hb:Binds X.K fd ps [])
 (ha:PA X (e :: es) t) (hdb:(x==("__debug__":Str))=false) (he:Nd (e :: es) X.env=(false,eval e X.env) :: Nd es X.env) (hpl:(OC pos (Nd es X.env)).any (·.1)=false) :
 PE X (.Call (.Name x p) (e :: es) [] pos) (rA sp [] E0 t):=by
 intro pins s σ H Q I h
 refine N5 (fG I hg hm ?_ hdb)
 refine OW (h₀:=X.base) I.ok.mod.kin hk (thn (ha pos pins s σ H _ I h) fun us s1 ⟨vs,H1,I1,r,q⟩=>⟨I1.kIn,?_⟩) he hpl
 have q:sp (vs++[]) H1 Q E0:=q
 have r2:ao (vs++[]) (us++[]):=r.append .nil
 have hl:(us++[]).length=ps.length:=by rw[← r2.length];exact F.len _ _ _ _ q
 refine RB (P4 (F.run X.A X.stack s1 H1 ⟨us,[]⟩ (us++[]) (vs++[]) Q E0 hr I1.Dj (hb s1 us I1.kIn hl) r2 q) fun r s' hq=>?_)
 cases r with
 | error e=>exact Nu hq
 | ok fl =>
  cases fl with
  | ret u=>exact I1.after hq
  | next=>exact Nu hq
  | brk=>exact Nu hq
  | cont=>exact Nu hq
noncomputable def cxI (X:Cx) (x:MN):Cx:={ X with A:=X.A.mark (some (.ref x)),calm:=false,xe:=fun _ _=>False }
theorem A6 {X:Cx}{pins:List (MN×Obj)}{σ:L2.St}{H:Hp}{s:MK}{x C:MN}{oe:Obj}{c:Str} (I:Inv X pins σ H s) (hx:s.heap.get? x=some oe) (hc:oe.cls=.ref C) (cn:CN X.K c C) (xt:XT X.K c C) (hH:H x=none) (hl:x≠X.env.locals) (hd:∀ v,oe.data≠.cell v)
 (hp:∀ p∈X.pn++pins,p.1≠x) (h0:X.s₀.heap.get? x=none):Inv (cxI X x) pins σ (upd H x (.ext (excAt X.K c x))) s:=by
 have up:∀ {b:MN}{o:HO},H b=some o->upd H x (.ext (excAt X.K c x)) b=some o:=fun {b o} e=>by
  rw[au (fun z=>by rw[z,hH] at e;cases e)];exact e
 refine ⟨⟨I.ok.mod,I.ok.kind,I.ok.glob,I.ok.blt,I.ok.above,I.ok.inj,I.ok.has,I.ok.cab,fun z=>(by cases z),I.ok.frames,I.ok.stk,I.ok.exf,I.ok.bs,I.ok.bsz,I.ok.noex,I.ok.exfs,I.ok.e9,I.ok.frf⟩,
  I.os,I.bare,⟨I.base.keep,I.base.slot,fun b o e n hb=>?_,I.base.there,fun b xs e=>up (I.base.tups b xs e),fun b o u e=>up (I.base.frzs b o u e),fun b ps e=>?_⟩,I.loc,I.cell,?_,fun y a e=>?_,fun p hq=>?_,fun b u e=>?_,I.len⟩
 ·rw[au (fun z=>by rw[z] at e;have e:X.s₀.heap.get? x=some o:=e;rw[h0] at e;cases e)];exact I.base.free b o e n hb
 ·obtain ⟨more,q⟩:=I.base.tbls b ps e
  exact ⟨more,up q⟩
 ·show upd H x _ X.env.locals=none
  rw[au (Ne.symm hl)];exact I.free
 ·rw[au ?_]
  ·exact I.freeC y a e
  ·intro z
   obtain ⟨v,o,ho,hdd⟩:=I.cell y a e
   rw[z,hx] at ho
   cases ho
   exact hd v hdd
 ·obtain ⟨q1,q2,q3,q4,q5⟩:=I.pin p hq
  exact ⟨q1,by rw[au (hp p hq)];exact q2,q3,q4,q5⟩
 ·by_cases z:b=x
  ·subst z
   rw[bx] at e
   cases e
   refine ⟨⟨oe,C,cn,xt,hx,hc⟩,⟨oe,hx⟩,fun h1 h2 q k=>?_⟩
   obtain ⟨o,C',a1,a2,a3,a4⟩:=q
   exact ⟨o,C',a1,a2,k _ a3,a4⟩
  ·rw[au z] at e
   exact (I.hok b u e).stay (fun _ _ _ q=>q) (fun _ q=>up q) fun _ _ q=>up q
theorem uT {X:Cx}{pins:List (MN×Obj)}{σ:L2.St}{H:Hp}{s:MK}{x:MN} (ok:X.Ok) (I:Inv (cxI X x) pins σ H s):Inv X pins σ H s :=
 ⟨ok,I.os,I.bare,I.base,I.loc,I.cell,I.free,I.freeC,I.pin,I.hok,I.len⟩
section
variable {CX:CXT}{P:MP}{w:M7}{K:MI}{mg:Str->Option Value}{base:Heap}{N:List Str}{qual:Str}{scope:M0}{f:MN}{cd:Value}{A:Nn}{outer:List Env}{s0:MK}{H0:Hp}{E E1:XK}
theorem uU {pins:List (MN×Obj)}{σ:L2.St}{H1:Hp}{s1 s':MK}{e:Value}{tn n rn c:Str}{C D fr:MN}{fdr:Ny}{pr:List Str}{sp:Sp}{k i:Nat}{p1 p2 p3 p5 p6 hp:Pos}{Wn:Hp->Prop}{R:VK}{Q:Flow->MK->Prop}
 (I:Inv (aC CX P w K mg base N qual scope f cd A outer s0 H0 E) pins σ H1 s1) (h:CX1 P w (aC CX P w K mg base N qual scope f cd A outer s0 H0 E).stack H1 s1 E1 e s') (hE1:∀ C' d H',E1 (.ref C') d H'->C'=C/\Wn H')
 (nd:N.Nodup) (hi:N[i]?=some n) (hln:scope.names.lookup n=some .local) (okn:aH n=true) (hgD:Gl (aC CX P w K mg base N qual scope f cd A outer s0 H0 E) tn) (okD:aH tn=true) (hmD:mg tn=some (.ref D)) (hgR:Gl (aC CX P w K mg base N qual scope f cd A outer s0 H0 E) rn) (okR:aH rn=true) (hmR:mg rn=some (.ref fr))
 (hkR:Nb K (.ref fr)=true) (hbR:Binds K fdr pr []) (FR:FnU P w K mg base k fr fdr pr sp) (hr:bE k (aC CX P w K mg base N qual scope f cd A outer s0 H0 E).A) (cnC:CN K c C) (xt:XT K c C) (xC:kC K C) (xD:kC K D) (hsub:qF K C D=true)
 (hcall:∀ H' x,Wn H'->H' x=none->sp [.ref x] (upd H' x (.ext (excAt K c x))) R E0)
 (hQ:∀ v u σ' H' s'',R v H'->RelV v u->Inv (aC CX P w K mg base N qual scope f cd A outer s0 H0 E) pins σ' H' s''->Q (.ret u) s'') :
 wpAny (M3 P w) (aC CX P w K mg base N qual scope f cd A outer s0 H0 E).A (noteFrame e (aC CX P w K mg base N qual scope f cd A outer s0 H0 E).env) (fun _ s2=>wpAny (M3 P w) (aC CX P w K mg base N qual scope f cd A outer s0 H0 E).A (setFlight e none) (fun _ s3 =>
  wpAny (M3 P w) (aC CX P w K mg base N qual scope f cd A outer s0 H0 E).A (handleBy e (aC CX P w K mg base N qual scope f cd A outer s0 H0 E).env [.ExceptHandler (some (.Name tn p1)) (some n) [.Return (some (.Call (.Name rn p2) [.Name n p3] [] p5)) p6] hp]) Q
   (aC CX P w K mg base N qual scope f cd A outer s0 H0 E).xe s3) (aC CX P w K mg base N qual scope f cd A outer s0 H0 E).xe s2) (aC CX P w K mg base N qual scope f cd A outer s0 H0 E).xe s':=by
 obtain ⟨x,C',H',B,G,a0,rfl,e1,e2,un,ho,fl,cov,hg,cv2,hE⟩:=h
 obtain ⟨rfl,wn⟩:=hE1 _ _ _ hE
 have J:Inv (aC CX P w K mg base N qual scope f cd A outer s0 H0 E) pins σ H' s':=I.BW (ch:=[]) e1 un ho e2 (fun b z=>absurd z (by simp))
 have dbg:∀ {y:Str},aH y=true->(y==("__debug__":Str))=false:=fun {y} q=>(cF q).1
 refine wpAny_looks_onW I.ok.frames rfl fl fun h4 held4 sm4=>?_
 refine wpAny_landsW held4 fun h5 fl5 sm5=>?_
 have J5:Inv (aC CX P w K mg base N qual scope f cd A outer s0 H0 E) pins σ H' { s' with heap:=h5 }:=sI I J cov hg cv2 fl5.1 (sm4.trans sm5)
 obtain ⟨ob,hob,hobc⟩:=fl5.there
 refine wpAny_handleBy_cons (codeAny_handlers_test ?_) (by intro q;cases q)
 refine O3 J5.ok.kind hgD (QX (by rw[J5.ok.glob];exact J5.mod.glob.keeps J5.bk) hmD ?_) (dbg okD)
 obtain ⟨bm,N1,nm,qn,bs,hdct,sn,sub,ab,col,dd,k0,k1,k2,k3,k5,mN,hC,hN,hni,T,lC⟩:=xC.obj I.mod.kin
 obtain ⟨bm2,N2,nm2,qn2,bs2,hdct2,sn2,sub2,ab2,col2,dd2,j0,j1,j2,j3,j5,mN2,hD,hN2,hni2,T2,_⟩:=xD.obj I.mod.kin
 have lC:K.lookup C'=_:=lC
 have hcD:(NK C' :: bm).contains (.ref D)=true:=by
  unfold qF at hsub
  rw[lC] at hsub
  exact hsub
 refine kD (J5.bk _ _ hC) (J5.bk _ _ hD) hob hobc (T2.hasType rfl) hcD ?_
 refine codeAny_handlers_suite_as ?_
 refine lands_againW fl5 fun h6 fl6 sm6=>?_
 have J6:Inv (aC CX P w K mg base N qual scope f cd A outer s0 H0 E) pins σ H' { s' with heap:=h6 }:=sI I J cov hg cv2 fl6.1 ((sm4.trans sm5).trans sm6)
 obtain ⟨_,xB,_,oe,vs,_,_,_,hoe,⟨hoc,_⟩,hod,_⟩:=fl6
 have nl:x≠(aC CX P w K mg base N qual scope f cd A outer s0 H0 E).env.locals:=fun z=>by
  obtain ⟨m,⟨o,es,ep,ho',hd',_⟩,_⟩:=J6.loc
  have ho':h6.get? _=some o:=ho'
  rw[← z,hoe] at ho'
  cases ho'
  rw[hod] at hd'
  cases hd'
 have nH:H' x=none:=by
  cases q:H' x with
  | none=>rfl
  | some u =>
   obtain ⟨o,q2⟩:=obj_some (hg x u q)
   have:=cv2 x o (by rw[q];exact fun z=>nomatch z) q2
   rw[xB] at this
   cases this
 have nf:x∉(aC CX P w K mg base N qual scope f cd A outer s0 H0 E).fs:=fun z=>by
  obtain ⟨_,o,ho',hd'⟩:=J6.e9.mem z
  have ho':h6.get? _=some o:=ho'
  rw[hoe] at ho'
  cases ho'
  exact hd' _ hod
 have ns:∀ {b:MN}{o:Obj},s1.heap.get? b=some o->b∉frs (aC CX P w K mg base N qual scope f cd A outer s0 H0 E).stack->b≠x:=fun {b o} q1 q2 z=>by
  obtain ⟨o',q3,_⟩:=cov b o q1 q2
  rw[z,xB] at q3
  cases q3
 have hpn:∀ p∈(aC CX P w K mg base N qual scope f cd A outer s0 H0 E).pn++pins,p.1≠x:=fun p hp=>by
  obtain ⟨q1,_,q3,q4,_⟩:=I.pin p hp
  refine ns q1 fun z=>?_
  rcases List.mem_cons.mp (I.gP p.1 z) with q | q
  ·exact q3 q
  ·exact q4 q
 have hs0:s0.heap.get? x=none:=by
  cases q:s0.heap.get? x with
  | none=>rfl
  | some o =>
   obtain ⟨o1,q1⟩:=I.base.there x o q (by simp[aC])
   exact absurd rfl (ns q1 (eV I q nf))
 refine iY J6 nd hi (.inl hln) (v:=.ref x) rfl (fun s7 J7 sb=>?_) (.inr hln)
 have h7:s7.heap.get? x=some oe:=by
  obtain ⟨a,sb,ha⟩:=sb
  have ne:x≠a:=by
   rcases ha with rfl | ha
   ·exact nl
   ·intro z
    obtain ⟨v,o,ho',hd'⟩:=J6.cell n a ha
    have ho':h6.get? _=some o:=ho'
    rw[← z,hoe] at ho'
    cases ho'
    rw[hod] at hd'
    cases hd'
  exact (sb.2 x ne).trans hoe
 have J8:=A6 (c:=c) J7 h7 hoc cnC xt nH nl (fun v z=>by rw[hod] at z;cases z) hpn hs0
 have body:wpAny (M3 P w) (cxI (aC CX P w K mg base N qual scope f cd A outer s0 H0 E) x).A (execs [.Return (some (.Call (.Name rn p2) [.Name n p3] [] p5)) p6] (aC CX P w K mg base N qual scope f cd A outer s0 H0 E).env)
  (SP (cxI (aC CX P w K mg base N qual scope f cd A outer s0 H0 E) x) pins { nx:=fun _ _=>False,rt:=R }) (fun _ _=>False) s7:=by
  have dn:(n==("__classdict__":Str))=false:=(cF okn).2.1
  refine (jE (p9 (ya (X:=cxI (aC CX P w K mg base N qual scope f cd A outer s0 H0 E) x) FR ⟨rfl,hr.dp,hr.un⟩ hgR hmR hkR hbR (cu (vg (i:=i) hi (.inl hln) (dbg okn) dn) fT) (dbg okR) rfl rfl))) pins s7 _ _ _ J8 ?_
  have iσ:i < σ.length:=by rw[J6.len];exact (List.getElem?_eq_some_iff.mp hi).1
  exact ⟨.ref x,Nz iσ,hcall H' x wn nH⟩
 refine wpAny_mono body (fun fl s8 q=>?_) fun _ _ z=>z.elim
 cases fl with
 | ret u =>
  obtain ⟨v,σ',H2,J9,rv,q⟩:=q
  obtain ⟨m,hn,_⟩:=J9.loc
  show wpAny _ _ (do bindName _ n .none;unbindBehindTheSuite _ n hp) _ _ _
  exact wpAny_nameGoes hln hn (by rw[show (aC CX P w K mg base N qual scope f cd A outer s0 H0 E).env.scope.kind=.function from J.ok.kind];rfl) fun h' m' hn' sb=>hQ _ _ _ _ _ q rv (xV (uT J.ok J9) hn' sb)
 | next=>obtain ⟨_,_,_,z⟩:=q;exact z.elim
 | brk=>obtain ⟨_,_,_,z⟩:=q;exact z.elim
 | cont=>obtain ⟨_,_,_,z⟩:=q;exact z.elim
end
end BS
end
section
namespace BS
open PySem PySem.Spec PyProof.Rows L2
noncomputable def cxT (X:Cx) (pins:List (MN×Obj)) (xe':Value->MK->Prop):Cx:={ X with pn:=X.pn++pins,xe:=xe' }
theorem Cy {X:Cx}{pins:List (MN×Obj)}{xe':Value->MK->Prop}{σ:L2.St}{H:Hp}{s:MK} (I:Inv X pins σ H s):Inv (cxT X pins xe') [] σ H s :=
 ⟨⟨I.ok.mod,I.ok.kind,I.ok.glob,I.ok.blt,I.ok.above,I.ok.inj,I.ok.has,I.ok.cab,I.ok.hd,I.ok.frames,I.ok.stk,I.ok.exf,I.ok.bs,I.ok.bsz,I.ok.noex,I.ok.exfs,I.ok.e9,I.ok.frf⟩,
  I.os,I.bare,I.base,I.loc,I.cell,I.free,I.freeC,fun p hp=>I.pin p (by simpa [cxT] using hp),I.hok,I.len⟩
theorem yb {X:Cx}{pins pins':List (MN×Obj)}{xe':Value->MK->Prop}{σ:L2.St}{H:Hp}{s:MK} (ok:X.Ok) (I:Inv (cxT X pins xe') pins' σ H s):Inv X pins σ H s :=
 ⟨ok,I.os,I.bare,I.base,I.loc,I.cell,I.free,I.freeC,fun p hp=>I.pin p (N6 _ hp),I.hok,I.len⟩
theorem HK {X:Cx}{F:FT}{G:Str->Option BT.W}{sc:M0}{N:List Str}{pins:List (MN×Obj)}{xe':Value->MK->Prop} (O:Ok X F G sc N) (own:Q8 (M3 X.prog X.w) X.A X.env xe'):Ok (cxT X pins xe') F G sc N :=
 ⟨O.hsc,O.hN,O.nd,O.calm,O.hu,own,O.glob,O.call,O.meth,O.mkc,O.blt,O.lam,fun hf x hx=>let L:=O.lamx hf x hx;⟨L.mem,L.ex,L.ql,L.bm⟩⟩
section
variable {P:MP}{w:M7}{K:MI}{mg:Str->Option Value}{base:Heap}{T TX:BT.FK->Option BT.Fn}{G:Str->Option BT.W}
end
end BS
end
section
namespace BS
open PySem PySem.Spec PyProof.Rows L2
structure HL (K:MI) (D:MN):Prop where
 all:∀ c,eB c=true->∃ C,CN K c C/\XT K c C/\kC K C/\qF K C D=true
noncomputable def gf (F:FT) (R:BT.XF) (G:Str->Option BT.W) (fn fr:BT.Fn) (ws:List BT.W) (h:BT.HH):Option (BT.W×BT.HH) :=
 if ws.length=fn.ps.length then (match BT.iI (BT.evS F G fn.body (BT.aQ fn.ns.length ws) h) (BT.fin h) with
  | some r=>some r
  | none=>match BT.rsS F R G fn.body (BT.aQ fn.ns.length ws) h with
   | some (c,h')=>if eB c then qH fr [.x c] h' else none
   | none=>none) else none
section
variable {P:MP}{w:M7}{K:MI}{mg:Str->Option Value}{base:Heap}{T TX:BT.FK->Option BT.Fn}{G:Str->Option BT.W}
theorem yc (X:Txt P w K mg T G) (Y:xX K mg TX) {k:Nat}{fn fnr:BT.Fn}{tn n rn:Str}{f fr:MN}{fd fdr:Ny}{nm qual:Str}{st:M1}{body:List M1}{D:MN}{i:Nat}{p1 p2 p3 p5 p6 hp pos:Pos} (Z:HL K D)
 (h2:Fun K nm qual st f fd) (h3:aD fn.ns fn.ps (af st)) (hB:aq st=[.Try body [.ExceptHandler (some (.Name tn p1)) (some n) [.Return (some (.Call (.Name rn p2) [.Name n p3] [] p5)) p6] hp] [] [] pos])
 (h5:CSs (af st) fn.ns fn.body body) (h6:fP (af st) fn.ns false fn.body body) (hnt:∀ x,fn.ns.contains (BT.bZ x)=false) (hi:fn.ns[i]?=some n) (hln:(af st).names.lookup n=some .local) (okn:aH n=true)
 (hgD:aT (af st) tn=true) (okD:aH tn=true) (hmD:mg tn=some (.ref D)) (xD':kC K D) (hgR:aT (af st) rn=true) (okR:aH rn=true) (hmR:mg rn=some (.ref fr)) (hkR:Nb K (.ref fr)=true) (hbR:Binds K fdr fnr.ps []) (FR:FnU P w K mg base 1 fr fdr fnr.ps (spF P w K (qH fnr))) :
 cO P w K mg base CX0 (2*k+1+1) f fd fn.ps (spF P w K (gf (BT.runN T G k) (BT.dY T TX G k) G fn fnr)):=by
 obtain ⟨oc,od,kV,doc,pm,an,cdv,ct,osl,rfl,lk,hcd⟩:=h2.ex
 refine vO lk hcd h3 (fun vs H Q E h=>?_) fun A outer s H vs Q E hr h=>?_
 ·obtain ⟨m,ws,h,z,h',R,r,e,post⟩:=h
  rw[r.length]
  unfold gf at e
  split at e
  ·rename_i c;exact c
  ·cases e
 ·obtain ⟨m,ws,h,z,h',R,r,e,post⟩:=h
  unfold gf at e
  split at e
  ·have O:=Cw (CX:=CX0) (base:=base) (outer:=outer) (H:=H) (E:=E) (ps:=fn.ps) X h3.nd hnt hr
   rw[hB]
   refine ⟨fun Dd σ H'=>σ=L2.start fn.ns vs/\H'=H/\(∀ v H2,Dd.rt v H2↔Q v H2)/\∀ σ' H2,Dd.nx σ' H2↔Q .non H2,jE ?_,rfl,rfl,fun _ _=>Iff.rfl,fun _ _=>Iff.rfl⟩
   intro pins s1 σ H1 Dd I ⟨q1,q2,q3,q4⟩
   subst q1 q2
   refine wpAny_Try_except ?_
   cases g0:BT.iI (BT.evS (BT.runN T G k) G fn.body (BT.aQ fn.ns.length ws) h) (BT.fin h) with
   | some rr =>
    rw[g0] at e
    cases e
    cases gg:BT.evS (BT.runN T G k) G fn.body (BT.aQ fn.ns.length ws) h with
    | none=>rw[gg] at g0;cases g0
    | some fl =>
     rw[gg] at g0
     refine thn (sSs (HK (pins:=pins) O Q7) (fun _=>rfl) h5 [] s1 (L2.start fn.ns vs) H1 { nx:=fun _ H2=>Q .non H2,rt:=Q } (Cy I) ⟨m,_,h,fl,R,dQ r,gg,?_⟩) fun fw s2 q=>?_
     ·cases fl with
      | rt y g =>
       intro v H' m' x' R' r'
       obtain ⟨m2,y1,y2,y3⟩:=bU g0 R x' R' r'
       exact post v H' m2 y1 y2 y3
      | nx s' g =>
       intro σ' H' m' x' R' _
       obtain ⟨m2,y1,y2,y3⟩:=bU (v:=.non) g0 R x' R' (.p .non)
       exact post .non H' m2 y1 y2 y3
      | bk s' g=>cases g0
      | ct s' g=>cases g0
     ·cases fw with
      | next =>
       obtain ⟨σ',H',J,z⟩:=q
       exact O6 ⟨σ',H',yb I.ok J,(q4 _ _).mpr z⟩
      | ret u =>
       obtain ⟨v,σ',H',J,rv,z⟩:=q
       exact ⟨v,σ',H',yb I.ok J,rv,(q3 _ _).mpr z⟩
      | brk=>obtain ⟨_,_,_,z⟩:=q;exact z.elim
      | cont=>obtain ⟨_,_,_,z⟩:=q;exact z.elim
   | none =>
    rw[g0] at e
    simp only at e
    cases g1:BT.rsS (BT.runN T G k) (BT.dY T TX G k) G fn.body (BT.aQ fn.ns.length ws) h with
    | none=>rw[g1] at e;cases e
    | some cq =>
     obtain ⟨c,hq⟩:=cq
     rw[g1] at e
     simp only at e
     split at e
     ·rename_i hxn
      obtain ⟨C,cnC,xt,xC,hsub⟩:=Z.all c hxn
      refine xW (R:=BT.dY T TX G k) (E:=fun cv _ H2=>cv=.ref C/\∃ m2,Ext m H1 m2 H2/\RH K m2 H2 hq) (ra:=false) (HK (pins:=pins) O Q7) ⟨fun c g ws h r e=>?_,?_⟩ (fun z=>nomatch z) (fun _=>rfl) h6 [] s1 (L2.start fn.ns vs) H1 _ (Cy I) ⟨m,_,h,c,hq,R,dQ r,g1,fun H' m' x' R' C' hC'=>⟨by rw[hC'.inj cnC],m',x',R'⟩⟩
      ·obtain ⟨fn',hTg⟩:=xY e
       obtain ⟨C,f',fd',x',q',st',b1,b3,a2,a3,a4,a5⟩:=(Y.meths c g fn' hTg).ex
       exact ⟨C,f',fd',fn'.ps,2*k,b1,b3,a4,hr.mono (Oe _),A4 X Y k _ fn' hTg f' fd' x' q' st' a2 a3 a5 (Y.meths c g fn' hTg).nt⟩
      ·intro pins' σ' H2 s2 ee s3 I' hcx
       refine uU (Wn:=fun H2=>∃ m2,Ext m H1 m2 H2/\RH K m2 H2 hq) (R:=Q) (yb I.ok I') hcx (fun C' d H' z=>⟨by have:=z.1;cases this;rfl,z.2⟩) h3.nd hi hln okn (aY O hgD) okD hmD (aY O hgR) okR hmR hkR hbR FR (hr.mono (by omega)) cnC xt xC xD' hsub (fun H' x wn hx=>?_) fun v u σ' H' s'' q rv J=>⟨v,σ',H',J,rv,(q3 _ _).mpr q⟩
       obtain ⟨m2,x2,R2⟩:=wn
       refine ⟨m2,[.x c],hq,z,h',R2.new hx,.cons (.x bx (R2.gH hx) ⟨C,xt⟩) .nil,e,fun v H3 m3 x3 R3 r3=>?_⟩
       exact post v H3 m3 ((x2.trans (fL hx)).trans x3) R3 r3
     ·cases e
  ·cases e
end
end BS
end
section
namespace BT
open PySem
noncomputable def bL:Fn:=⟨["part"],["part"],
 (.seq (.ife (.cmp .eq (.idx (.glo "INNER_COUNTS") (.idx (.var 0 "part") (.cst (.int 0)))) (.cst (.int 0))) (.ret (.tup .nil)) .nil)
 (.ret (.slc (.var 0 "part") (.cons (.cst (.int 1)) .nil) .nil)))⟩
noncomputable def gi:Fn:=⟨[],[],
 (.ret (.tup (.cons (.cst (.int 0)) (.cons (.bin .mul (.tup (.cons (.cst (.int 0)) .nil)) (.bi .len false (.cons (.glo "LETTERS") .nil))) (.cons (.bin .mul (.tup (.cons (.cst (.int 0)) .nil)) (.glo "CELL_COUNT")) (.cons (.tup .nil) (.cons (.cst (.int 0)) (.cons (.tup .nil) .nil))))))))⟩
noncomputable def dh:Fn:=⟨["term"],["term","parts","waiting","part"],
 (.seq (.set 1 "parts" (.lst true .nil))
 (.seq (.set 2 "waiting" (.lst true (.cons (.var 0 "term") .nil)))
 (.seq (.whl (.cmp .gt (.bi .len false (.cons (.var 2 "waiting") .nil)) (.cst (.int 0))) (.seq (.set 3 "part" (.me .pop (.var 2 "waiting") .nil))
 (.seq (.ex (.me .append (.var 1 "parts") (.cons (.var 3 "part") .nil)))
 (.ex (.me .extend (.var 2 "waiting") (.cons (.call "inner_sums" (.cons (.var 3 "part") .nil)) .nil))))))
 (.ret (.var 1 "parts")))))⟩
noncomputable def fC:Fn:=⟨["word","one","other"],["word","one","other"],
 (.seq (.ife (.cmp .eq (.var 0 "word") (.cst (.str "less"))) (.ret (.ite (.cmp .lt (.var 1 "one") (.var 2 "other")) (.cst (.int 1)) (.cst (.int 0)))) .nil)
 (.seq (.ife (.cmp .eq (.var 0 "word") (.cst (.str "add"))) (.ret (.bin .mod (.bin .add (.var 1 "one") (.var 2 "other")) (.glo "WORTH_COUNT"))) .nil)
 (.seq (.ife (.cmp .eq (.var 0 "word") (.cst (.str "sub"))) (.ret (.bin .mod (.bin .sub (.var 1 "one") (.var 2 "other")) (.glo "WORTH_COUNT"))) .nil)
 (.ret (.bin .mod (.bin .mul (.var 1 "one") (.var 2 "other")) (.glo "WORTH_COUNT"))))))⟩
noncomputable def dR:Fn:=⟨["thing"],["thing"],
 (.ret (.cmp .mem (.var 0 "thing") (.glo "LETTERS")))⟩
noncomputable def dj:Fn:=⟨["state","thing"],["state","thing"],
 (.seq (.ife (.call "is_name" (.cons (.var 1 "thing") .nil)) (.ret (.idx (.idx (.var 0 "state") (.glo "NAMES")) (.me .tindex (.glo "LETTERS") (.cons (.var 1 "thing") .nil)))) .nil)
 (.seq (.ex (.call "check_thing" (.cons (.var 1 "thing") .nil)))
 (.ret (.idx (.idx (.var 0 "state") (.glo "CELLS")) (.var 1 "thing")))))⟩
noncomputable def bD:Fn:=⟨["part","worths","state"],["part","worths","state","word","last"],
 (.seq (.set 3 "word" (.idx (.var 0 "part") (.cst (.int 0))))
 (.seq (.ife (.cmp .eq (.var 3 "word") (.cst (.str "num"))) (.ret (.idx (.var 0 "part") (.cst (.int 1)))) .nil)
 (.seq (.ife (.cmp .eq (.var 3 "word") (.cst (.str "name"))) (.ret (.call "worth_in" (.cons (.var 2 "state") (.cons (.idx (.var 0 "part") (.cst (.int 1))) .nil)))) .nil)
 (.seq (.set 4 "last" (.me .pop (.var 1 "worths") .nil))
 (.seq (.ife (.cmp .eq (.var 3 "word") (.cst (.str "cell"))) (.ret (.idx (.idx (.var 2 "state") (.glo "CELLS")) (.bin .mod (.var 4 "last") (.glo "CELL_COUNT")))) .nil)
 (.ret (.call "of_two" (.cons (.var 3 "word") (.cons (.me .pop (.var 1 "worths") .nil) (.cons (.var 4 "last") .nil))))))))))⟩
noncomputable def dw:Fn:=⟨["term","state"],["term","state","worths","part"],
 (.seq (.set 2 "worths" (.lst true .nil))
 (.seq (.for [(3,"part")] .rev (.cons (.call "laid_out" (.cons (.var 0 "term") .nil)) .nil) (.ex (.me .append (.var 2 "worths") (.cons (.call "worth_of" (.cons (.var 3 "part") (.cons (.var 2 "worths") (.cons (.var 1 "state") .nil)))) .nil))))
 (.ret (.idx (.var 2 "worths") (.cst (.int 0))))))⟩
noncomputable def dS:Fn:=⟨["term","state"],["term","state"],
 (.ret (.bin .mod (.call "reckoned" (.cons (.var 0 "term") (.cons (.var 1 "state") .nil))) (.glo "CELL_COUNT")))⟩
noncomputable def cX:Fn:=⟨["program","state"],["program","state","word"],
 (.seq (.ife (.cmp .ge (.idx (.var 1 "state") (.glo "ROW")) (.bi .len false (.cons (.var 0 "program") .nil))) (.ret (.cst (.bl true))) .nil)
 (.seq (.set 2 "word" (.idx (.idx (.var 0 "program") (.idx (.var 1 "state") (.glo "ROW"))) (.cst (.int 0))))
 (.seq (.ife (.cmp .eq (.var 2 "word") (.cst (.str "back"))) (.ret (.cmp .eq (.bi .len false (.cons (.idx (.var 1 "state") (.glo "CALLS")) .nil)) (.cst (.int 0)))) .nil)
 (.seq (.ife (.cmp .eq (.var 2 "word") (.cst (.str "call"))) (.ret (.cmp .ge (.bi .len false (.cons (.idx (.var 1 "state") (.glo "CALLS")) .nil)) (.glo "MOST_CALLS"))) .nil)
 (.ret (.cmp .eq (.var 2 "word") (.cst (.str "stop"))))))))⟩
noncomputable def bI:Fn:=⟨["row","state"],["row","state","word"],
 (.seq (.set 2 "word" (.idx (.var 0 "row") (.cst (.int 0))))
 (.seq (.ife (.or (.cmp .eq (.var 2 "word") (.cst (.str "jump"))) (.cmp .eq (.var 2 "word") (.cst (.str "call")))) (.ret (.idx (.var 0 "row") (.cst (.int 1)))) .nil)
 (.seq (.ife (.cmp .eq (.var 2 "word") (.cst (.str "back"))) (.ret (.idx (.idx (.var 1 "state") (.glo "CALLS")) (.neg (.cst (.int 1))))) .nil)
 (.seq (.ife (.and (.cmp .eq (.var 2 "word") (.cst (.str "unless"))) (.cmp .eq (.call "reckoned" (.cons (.idx (.var 0 "row") (.cst (.int 1))) (.cons (.var 1 "state") .nil))) (.cst (.int 0)))) (.ret (.idx (.var 0 "row") (.cst (.int 2)))) .nil)
 (.ret (.bin .add (.idx (.var 1 "state") (.glo "ROW")) (.cst (.int 1))))))))⟩
noncomputable def b7:Fn:=⟨["worths","number","worth"],["worths","number","worth"],
 (.ret (.bin .add (.bin .add (.slc (.var 0 "worths") .nil (.cons (.var 1 "number") .nil)) (.tup (.cons (.var 2 "worth") .nil))) (.slc (.var 0 "worths") (.cons (.bin .add (.var 1 "number") (.cst (.int 1))) .nil) .nil)))⟩
noncomputable def cH:Fn:=⟨["state","name","worth"],["state","name","worth"],
 (.ret (.call "with_worth" (.cons (.idx (.var 0 "state") (.glo "NAMES")) (.cons (.me .tindex (.glo "LETTERS") (.cons (.var 1 "name") .nil)) (.cons (.var 2 "worth") .nil)))))⟩
noncomputable def cY:Fn:=⟨["asked","number"],["asked","number"],
 (.ret (.ite (.cmp .lt (.var 1 "number") (.bi .len false (.cons (.var 0 "asked") .nil))) (.idx (.var 0 "asked") (.var 1 "number")) (.cst (.int 0))))⟩
noncomputable def dU:Fn:=⟨["program","asked","state"],["program","asked","state","row","word","behind"],
 (.seq (.set 3 "row" (.idx (.var 0 "program") (.idx (.var 2 "state") (.glo "ROW"))))
 (.seq (.set 4 "word" (.idx (.var 3 "row") (.cst (.int 0))))
 (.seq (.set 5 "behind" (.bi .list true (.cons (.var 2 "state") .nil)))
 (.seq (.put 5 "behind" (.glo "ROW") (.call "place_behind" (.cons (.var 3 "row") (.cons (.var 2 "state") .nil))))
 (.seq (.ife (.cmp .eq (.var 4 "word") (.cst (.str "set"))) (.put 5 "behind" (.glo "NAMES") (.call "with_name" (.cons (.var 2 "state") (.cons (.idx (.var 3 "row") (.cst (.int 1))) (.cons (.call "reckoned" (.cons (.idx (.var 3 "row") (.cst (.int 2))) (.cons (.var 2 "state") .nil))) .nil))))) (.ife (.cmp .eq (.var 4 "word") (.cst (.str "put"))) (.put 5 "behind" (.glo "CELLS") (.call "with_worth" (.cons (.idx (.var 2 "state") (.glo "CELLS")) (.cons (.call "cell_by" (.cons (.idx (.var 3 "row") (.cst (.int 1))) (.cons (.var 2 "state") .nil))) (.cons (.call "reckoned" (.cons (.idx (.var 3 "row") (.cst (.int 2))) (.cons (.var 2 "state") .nil))) .nil))))) (.ife (.cmp .eq (.var 4 "word") (.cst (.str "ask"))) (.seq (.put 5 "behind" (.glo "NAMES") (.call "with_name" (.cons (.var 2 "state") (.cons (.idx (.var 3 "row") (.cst (.int 1))) (.cons (.call "brought" (.cons (.var 1 "asked") (.cons (.idx (.var 2 "state") (.glo "ASKED")) .nil))) .nil)))))
 (.put 5 "behind" (.glo "ASKED") (.bin .add (.idx (.var 2 "state") (.glo "ASKED")) (.cst (.int 1))))) (.ife (.cmp .eq (.var 4 "word") (.cst (.str "say"))) (.put 5 "behind" (.glo "SAID") (.bin .add (.idx (.var 2 "state") (.glo "SAID")) (.tup (.cons (.call "reckoned" (.cons (.idx (.var 3 "row") (.cst (.int 1))) (.cons (.var 2 "state") .nil))) .nil)))) (.ife (.cmp .eq (.var 4 "word") (.cst (.str "call"))) (.put 5 "behind" (.glo "CALLS") (.bin .add (.idx (.var 2 "state") (.glo "CALLS")) (.tup (.cons (.bin .add (.idx (.var 2 "state") (.glo "ROW")) (.cst (.int 1))) .nil)))) (.ife (.cmp .eq (.var 4 "word") (.cst (.str "back"))) (.put 5 "behind" (.glo "CALLS") (.slc (.idx (.var 2 "state") (.glo "CALLS")) .nil (.cons (.neg (.cst (.int 1))) .nil))) .nil))))))
 (.ret (.bi .tuple false (.cons (.var 5 "behind") .nil))))))))⟩
theorem sM {s t:String}:MU s=MU t↔s=t:=by
 constructor
 ·intro h
  rw[Rg,Rg] at h
  have h1:(s.toList.map QW)=(t.toList.map QW):=by
   have:=congrArg (fun x:Str=>x.cps.toList) h
   simpa using this
  have inj:∀ (a b:List Char),a.map QW=b.map QW->a=b:=by
   intro a
   induction a with
   | nil=>intro b h;cases b with
    | nil=>rfl
    | cons _ _=>simp at h
   | cons x xs ih=>intro b h;cases b with
    | nil=>simp at h
    | cons y ys =>
     simp only[M9,OJ] at h
     have:x=y:=Char.toNat_inj.mp h.1
     rw[this,ih ys h.2]
  have h2:=inj _ _ h1
  exact String.toList_inj.mp h2
 ·intro h;rw[h]
@[simp] theorem JN (s t:String):(MU s==MU t)=(s==t):=by
 by_cases h:s=t
 ·subst h;simp
 ·have h1:¬ MU s=MU t:=fun e=>h (sM.mp e)
  rw[beq_eq_false_iff_ne.mpr h1,beq_eq_false_iff_ne.mpr h]
@[simp] theorem Lq (s t:String):(MU s=MU t)=(s=t):=propext sM
@[simp] theorem MC {α:Type} (h:List α) (a:α) (r:List α):(h++a :: r)[h.length]?=some a:=by simp
@[simp] theorem HM {α:Type} (h:List α) (a b:α) (r:List α):(h++a :: b :: r)[h.length+1]?=some b:=by
 rw[M6 (by omega)];simp
@[simp] theorem MD {α:Type} (h:List α) (a x:α) (r:List α):(h++a :: r).set h.length x=h++x :: r:=by simp
@[simp] theorem ME {α:Type} (h:List α) (a b x:α) (r:List α):(h++a :: b :: r).set (h.length+1) x=h++a :: x :: r:=by
 rw[List.set_append_right _ _ (by omega)];simp
theorem ah (h:HH) (w:W):fin h w h=some (w,h):=by simp[fin]
theorem fD (h g:HH) (d:D):fin h (.p d) (h++g)=some (.p d,h):=by
 unfold fin
 cases g with
 | nil=>simp
 | cons c g=>simp
@[simp] theorem Lr (h:HH) (a:Cl) (r:HH):lat (h++a :: r) h.length=mV a:=by simp[lat]
@[simp] theorem MF (h:HH) (a b:Cl) (r:HH):lat (h++a :: b :: r) (h.length+1)=mV b:=by
 unfold lat;rw[HM];rfl
@[simp] theorem MG (h:HH) (a:Cl) (r:HH):oat (h++a :: r) h.length=oN a:=by simp[oat]
@[simp] theorem MH (h:HH) (a b:Cl) (r:HH):oat (h++a :: b :: r) (h.length+1)=oN b:=by
 unfold oat;rw[HM];rfl
theorem A7 {h:HH}{n:Nat}{ys:List D} (e:lat h n=some ys) (c:Cl):lat (h.set n c) n=mV c:=by
 unfold lat at e ⊢
 cases g:h[n]? with
 | none=>rw[g] at e;cases e
 | some q=>rw[List.getElem?_set_self',g];rfl
theorem Cz (h:HH) (xs:List D) (g:HH):fin h (.r h.length) (h++.l xs :: g)=some (.p (.lst xs),h):=by
 unfold fin;simp
theorem sN (h h':HH) (w:W) (e:h'.length=h.length):fin h w h'=some (w,h'):=by simp[fin,e]
structure Prg (T:FK->Option Fn) (G:Str->Option W):Prop where
 inner_sums:T "inner_sums"=some bL
 begun:T "begun"=some gi
 laid_out:T "laid_out"=some dh
 of_two:T "of_two"=some fC
 worth_of:T "worth_of"=some bD
 is_name:T "is_name"=some dR
 worth_in:T "worth_in"=some dj
 reckoned:T "reckoned"=some dw
 cell_by:T "cell_by"=some dS
 is_over:T "is_over"=some cX
 place_behind:T "place_behind"=some bI
 with_worth:T "with_worth"=some b7
 with_name:T "with_name"=some cH
 brought:T "brought"=some cY
 stepped:T "stepped"=some dU
 LETTERS:G "LETTERS"=some (.p (.tup [.str "a",.str "b",.str "c",.str "d",.str "e",.str "f"]))
 CELL_COUNT:G "CELL_COUNT"=some (.p (.int 4))
 WORTH_COUNT:G "WORTH_COUNT"=some (.p (.int 10007))
 INNER:G "INNER_COUNTS"=some (.k [("num",.int 0),("name",.int 0),("cell",.int 1),("add",.int 2),("sub",.int 2),("mul",.int 2),("less",.int 2)])
 ROW:G "ROW"=some (.p (.int 0))
 NAMES:G "NAMES"=some (.p (.int 1))
 CELLS:G "CELLS"=some (.p (.int 2))
 CALLS:G "CALLS"=some (.p (.int 3))
 ASKED:G "ASKED"=some (.p (.int 4))
 SAID:G "SAID"=some (.p (.int 5))
 MOST_CALLS:G "MOST_CALLS"=some (.p (.int 6))
inductive Op where
 | add | sub | mul | less
noncomputable def Op.w:Op->String
 | .add=>"add" | .sub=>"sub" | .mul=>"mul" | .less=>"less"
inductive Nm where
 | a | b | c | d | e | f
noncomputable def Nm.w:Nm->String
 | .a=>"a" | .b=>"b" | .c=>"c" | .d=>"d" | .e=>"e" | .f=>"f"
noncomputable def Nm.ix:Nm->Nat
 | .a=>0 | .b=>1 | .c=>2 | .d=>3 | .e=>4 | .f=>5
theorem Nm.sO (x:Nm):x.ix < 6:=by cases x<;>decide
inductive Sm where
 | num (n:Int)
 | nam (i:Nm)
 | cell (s:Sm)
 | two (o:Op) (s t:Sm)
noncomputable def Sm.enc:Sm->D
 | .num n=>.tup [.str "num",.int n]
 | .nam i=>.tup [.str "name",.str i.w]
 | .cell s=>.tup [.str "cell",s.enc]
 | .two o s t=>.tup [.str o.w,s.enc,t.enc]
noncomputable def Sm.size:Sm->Nat
 | .num _=>1
 | .nam _=>1
 | .cell s=>s.size+1
 | .two _ s t=>s.size+t.size+1
noncomputable def Sm.lay:Sm->List Sm
 | .num n=>[.num n]
 | .nam i=>[.nam i]
 | .cell s=>.cell s :: s.lay
 | .two o s t=>.two o s t :: (t.lay++s.lay)
noncomputable def Sm.subs:Sm->List Sm
 | .num _=>[]
 | .nam _=>[]
 | .cell s=>[s]
 | .two _ s t=>[s,t]
noncomputable def Wth (n:Int):Prop:=0<=n/\n<=10006
noncomputable def Sm.ok:Sm->Prop
 | .num n=>Wth n
 | .nam _=>True
 | .cell s=>s.ok
 | .two _ s t=>s.ok/\t.ok
theorem Sm.size_pos (s:Sm):1<=s.size:=by cases s<;>simp[Sm.size]
structure St where
 row:Nat
 names:List Int
 cells:List Int
 calls:List Nat
 asked:Nat
 said:List Int
noncomputable def aa (xs:List Int):List D:=xs.map D.int
noncomputable def aA (xs:List Nat):List D:=xs.map fun (n:Nat)=>D.int (n:Int)
noncomputable def St.enc (s:St):D:=.tup [.int s.row,.tup (aa s.names),.tup (aa s.cells),.tup (aA s.calls),.int s.asked,.tup (aa s.said)]
structure St.ok (s:St):Prop where
 nlen:s.names.length=6
 clen:s.cells.length=4
 nw:∀ x∈s.names,Wth x
 cw:∀ x∈s.cells,Wth x
noncomputable def two (o:Op) (x y:Int):Int:=match o with
 | .add=>(x+y) % 10007
 | .sub=>(x - y) % 10007
 | .mul=>(x*y) % 10007
 | .less=>if x < y then 1 else 0
noncomputable def Sm.val (st:St):Sm->Int
 | .num n=>n
 | .nam i=>st.names.getD i.ix 0
 | .cell s=>st.cells.getD (s.val st % 4).toNat 0
 | .two o s t=>BT.two o (s.val st) (t.val st)
theorem qI {xs:List Int} (h:∀ x∈xs,Wth x) (i:Nat):Wth (xs.getD i 0):=by
 rw[Nx]
 cases e:xs[i]? with
 | none=>exact ⟨by decide,by decide⟩
 | some x=>exact h x (MZ e)
theorem HN (o:Op) {x y:Int}:Wth (BT.two o x y):=by
 cases o<;>simp only[BT.two,Wth]
 ·omega
 ·omega
 ·omega
 ·split<;>decide
theorem Sm.mw {st:St} (ho:st.ok):∀ {s:Sm},s.ok->Wth (s.val st)
 | .num _,h=>h
 | .nam i,_=>qI ho.nw _
 | .cell _,_=>qI ho.cw _
 | .two _ _ _,_=>HN _
section
variable {T:FK->Option Fn}{G:Str->Option W}
theorem uV (P:Prg T G) (k:Nat) (s:Sm) (h:HH):runN T G (k+1) "inner_sums" [.p s.enc] h=some (.p (.tup (s.subs.map Sm.enc)),h):=by
 rw[run_eq P.inner_sums rfl]
 cases s with
 | two o s t =>
  have g:=P.INNER
  have q:cP (MU o.w) [("num",.int 0),("name",.int 0),("cell",.int 1),("add",.int 2),("sub",.int 2),("mul",.int 2),("less",.int 2)]=some (.int 2):=by cases o<;>simp[Op.w]
  generalize ([("num",.int 0),("name",.int 0),("cell",.int 1),("add",.int 2),("sub",.int 2),("mul",.int 2),("less",.int 2)]:List (Str×D))=I at *
  simp[bL,g,q,Sm.enc,Sm.subs,ah]
 | _=>simp[bL,P.INNER,Sm.enc,Sm.subs,ah]
theorem qJ (P:Prg T G) (k:Nat) (o:Op) {x y:Int} (hx:Wth x) (h:HH) :
 runN T G (k+1) "of_two" [.p (.str o.w),.p (.int x),.p (.int y)] h=some (.p (.int (two o x y)),h):=by
 rw[run_eq P.of_two rfl]
 have b:big x=true:=by unfold big;exact decide_eq_true (by have h1:=hx.1;have h2:=hx.2;omega)
 cases o<;>simp[fC,P.WORTH_COUNT,ah,Op.w,two,b]
 by_cases c:x < y<;>simp[c,ah]
noncomputable def ly:List D:=[.str "a",.str "b",.str "c",.str "d",.str "e",.str "f"]
theorem A8 (x:Nm):dP .mem (.str x.w) (.tup ly)=some true:=by cases x<;>simp[ly,Nm.w]
theorem yd (x:Nm):meD .tindex (.tup ly) [.str x.w]=some (.int (x.ix:Int)):=by
 rw[v7]
 cases x<;>simp[ly,Nm.w,Nm.ix,eY]
theorem pG {xs:List Int}{i:Nat} (h:i < xs.length):aI (.tup (aa xs)) (.int (i:Int))=some (.int (xs.getD i 0)):=by
 show atP _ _=_
 unfold atP place aa
 rw[if_pos (Int.natCast_nonneg _),if_pos (by rw[NO];omega)]
 show (xs.map D.int)[((i:Int)).toNat]?=_
 rw[Int.toNat_natCast,Na,Nx,MT h];rfl
theorem mz (st:St):aI st.enc (.int 1)=some (.tup (aa st.names)):=rfl
theorem uW (st:St):aI st.enc (.int 2)=some (.tup (aa st.cells)):=rfl
theorem pH (P:Prg T G) (k:Nat) (x:Nm) (h:HH):runN T G (k+1) "is_name" [.p (.str x.w)] h=some (.p (.bl true),h):=by
 rw[run_eq P.is_name rfl]
 have g:G "LETTERS"=some (.p (.tup ly)):=P.LETTERS
 have m:=A8 x
 generalize ly=L at *
 simp[-bF,dR,g,m,ah]
theorem nP (P:Prg T G) (k:Nat) (st:St) (ho:st.ok) (x:Nm) (h:HH):runN T G (k+2) "worth_in" [.p st.enc,.p (.str x.w)] h=some (.p (.int (st.names.getD x.ix 0)),h):=by
 rw[run_eq P.worth_in rfl]
 have r:=pH P k x
 have lx:=x.sO
 have i1:=pG (xs:=st.names) (i:=x.ix) (by rw[ho.nlen];exact lx)
 have i2:=yd x
 have i3:=mz st
 have g:G "LETTERS"=some (.p (.tup ly)):=P.LETTERS
 generalize ly=L at *
 generalize st.enc=se at *
 generalize aa st.names=sn at *
 simp[-aL,dj,r,P.NAMES,g,i1,i2,i3,ah]
theorem gj (P:Prg T G) (k:Nat) (st:St) (ho:st.ok) (n:Nat) (h:HH) :
 (∀ i,runN T G (k+3) "worth_of" [.p (Sm.num i).enc,.r n,.p st.enc] h=some (.p (.int i),h)) ∧
 (∀ i,runN T G (k+3) "worth_of" [.p (Sm.nam i).enc,.r n,.p st.enc] h=some (.p (.int (st.names.getD i.ix 0)),h)):=by
 refine ⟨fun i=>?_,fun i=>?_⟩<;>rw[run_eq P.worth_of rfl]
 ·simp[bD,Sm.enc,ah]
 ·have r:=nP P k st ho i
  simp[bD,Sm.enc,ah,r]
theorem kE (P:Prg T G) (k:Nat) (st:St) (ho:st.ok) (n:Nat) (h:HH) (s:Sm) (ws:List D) (v:Int) (e:lat h n=some (ws++[.int v])) (hv:0<=v) :
 runN T G (k+1) "worth_of" [.p (Sm.cell s).enc,.r n,.p st.enc] h=some (.p (.int (st.cells.getD (v % 4).toNat 0)),h.set n (.l ws)):=by
 rw[run_eq P.worth_of rfl]
 have c:(((v % 4).toNat:Nat):Int)=v % 4:=by omega
 have i1:=pG (xs:=st.cells) (i:=(v % 4).toNat) (by rw[ho.clen];omega)
 rw[c] at i1
 have i3:=uW st
 generalize st.enc=se at *
 generalize aa st.cells=sn at *
 generalize st.cells.getD (v % 4).toNat 0=z at *
 simp[bD,Sm.enc,P.CELLS,P.CELL_COUNT,e,i1,i3,sN]
theorem Op.other (o:Op):¬ o.w="num"/\¬ o.w="name"/\¬ o.w="cell":=by cases o<;>decide
theorem lA (P:Prg T G) (k:Nat) (st:St) (n:Nat) (h:HH) (o:Op) (s t:Sm) (ws:List D) (x y:Int) (hx:Wth x) (e:lat h n=some (ws++[.int x,.int y])) :
 runN T G (k+2) "worth_of" [.p (Sm.two o s t).enc,.r n,.p st.enc] h=some (.p (.int (two o x y)),h.set n (.l ws)):=by
 rw[run_eq P.worth_of rfl]
 have e3:lat (h.set n (.l (ws++[.int x]))) n=some (ws++[.int x]):=A7 e _
 have e1:(ws++[D.int x,D.int y]).getLast?=some (.int y):=by simp
 have e2:(ws++[D.int x,D.int y]).dropLast=ws++[.int x]:=by simp
 have r:=fun hh=>qJ P k o (x:=x) (y:=y) hx hh
 obtain ⟨n1,n2,n3⟩:=o.other
 have en:(Sm.two o s t).enc=.tup [.str o.w,s.enc,t.enc]:=rfl
 rw[en]
 generalize o.w=ow at *
 generalize s.enc=se at *
 generalize t.enc=te at *
 simp[bD,e,e1,e2,e3,n1,n2,n3,r,sN,Rk]
noncomputable def loC:E:=.cmp .gt (.bi .len false (.cons (.var 2 "waiting") .nil)) (.cst (.int 0))
noncomputable def loB:S:=.seq (.set 3 "part" (.me .pop (.var 2 "waiting") .nil))
 (.seq (.ex (.me .append (.var 1 "parts") (.cons (.var 3 "part") .nil)))
 (.ex (.me .extend (.var 2 "waiting") (.cons (.call "inner_sums" (.cons (.var 3 "part") .nil)) .nil))))
noncomputable def sizes (l:List Sm):Nat:=(l.map Sm.size).sum
theorem qK (s:Sm) (l:List Sm):sizes (s.subs.reverse++l)+1=sizes (s :: l):=by
 cases s<;>simp[sizes,Sm.subs,Sm.size]<;>omega
theorem ye (s:Sm) (l:List Sm):(s :: l).flatMap Sm.lay=s :: (s.subs.reverse++l).flatMap Sm.lay:=by
 cases s<;>simp[Sm.lay,Sm.subs,List.flatMap_cons]
theorem A9 (s:Sm):s.subs.length<=2:=by cases s<;>simp[Sm.subs]
theorem mC (l:List Sm):l.length<=sizes l:=by
 induction l with
 | nil=>simp[sizes]
 | cons s l ih =>
  have h1:=s.size_pos
  simp only[sizes,M9,QZ,M5] at ih ⊢
  omega
theorem Ba (P:Prg T G) (k:Nat) (h:HH) (t0:W):∀ (m:Nat) (stk:List Sm) (ps:List D) (x:Option W),sizes stk<=m->ps.length+sizes stk<=50000 →
 ∃ x',cQ (ev (runN T G (k+1)) G loC) (evS (runN T G (k+1)) G loB) (m+1) [some t0,some (.r h.length),some (.r (h.length+1)),x] (h++[.l ps,.l (stk.reverse.map Sm.enc)]) =
  some (.nx [some t0,some (.r h.length),some (.r (h.length+1)),x'] (h++[.l (ps++(stk.flatMap Sm.lay).map Sm.enc),.l []])):=by
 intro m
 induction m with
 | zero =>
  intro stk ps x hs _
  have:stk=[]:=by
   have:=mC stk
   exact Qs (by omega)
  subst this
  exact ⟨x,by simp[cQ,loC,rd]⟩
 | succ m ih =>
  intro stk ps x hs hl
  cases stk with
  | nil=>exact ⟨x,by simp[cQ,loC,rd]⟩
  | cons s l =>
   have e:=qK s l
   obtain ⟨x',q⟩:=ih (s.subs.reverse++l) (ps++[s.enc]) (some (.p s.enc)) (by omega) (by simp only[Nj,Pw];omega)
   refine ⟨x',?_⟩
   have r:=uV P k s
   have l1:l.length+s.subs.length<=100000:=by
    have h1:=A9 s
    have h2:=mC l
    have h3:sizes (s :: l)=s.size+sizes l:=by simp[sizes]
    omega
   have c1:(0:Int) < (l.length:Int)+1:=by omega
   have l2:ps.length < 100000:=by omega
   have hc:ev (runN T G (k+1)) G loC [some t0,some (.r h.length),some (.r (h.length+1)),x] (h++[.l ps,.l ((s :: l).reverse.map Sm.enc)])=some (.p (.bl true),h++[.l ps,.l ((s :: l).reverse.map Sm.enc)]):=by
    simp[loC,rd,c1]
   have hb:evS (runN T G (k+1)) G loB [some t0,some (.r h.length),some (.r (h.length+1)),x] (h++[.l ps,.l ((s :: l).reverse.map Sm.enc)]) =
    some (.nx [some t0,some (.r h.length),some (.r (h.length+1)),some (.p s.enc)] (h++[.l (ps++[s.enc]),.l ((s.subs.reverse++l).reverse.map Sm.enc)])):=by
    simp[loB,r,l1,l2]
   rw[cQ,hc,j7,m7,hb,iH,q,ye,M9,N9,NL]
theorem kF:dh=⟨["term"],["term","parts","waiting","part"],.seq (.set 1 "parts" (.lst true .nil))
 (.seq (.set 2 "waiting" (.lst true (.cons (.var 0 "term") .nil))) (.seq (.whl loC loB) (.ret (.var 1 "parts"))))⟩:=rfl
theorem nQ (P:Prg T G) (k:Nat) (s:Sm) (hs:s.size<=40000) (h:HH):runN T G (k+2) "laid_out" [.p s.enc] h=some (.p (.lst (s.lay.map Sm.enc)),h):=by
 rw[run_eq P.laid_out rfl]
 obtain ⟨x',q⟩:=Ba P k h (.p s.enc) 99999 [s] [] none (by simp only[sizes,M9,Oc,QZ,List.sum_nil];omega) (by simp only[sizes,M9,Oc,QZ,List.sum_nil,NN];omega)
 simp only[List.flatMap_cons,List.flatMap_nil,NT,Oz,Po,M9,Oc] at q
 rw[kF]
 simp[turns,q,Cz]
noncomputable def rkB:S:=.ex (.me .append (.var 2 "worths") (.cons (.call "worth_of" (.cons (.var 3 "part") (.cons (.var 2 "worths") (.cons (.var 1 "state") .nil)))) .nil))
theorem Bb (P:Prg T G) (k:Nat) (h:HH) (t0:W) (st:St) (ho:st.ok):∀ (s:Sm),s.ok->∀ (ws:List D) (rest:List D) (x:Option W),ws.length+s.size<=50000 →
 ∃ x',fW (evS (runN T G (k+3)) G rkB) [(3,"part")] ((s.lay.map Sm.enc).reverse++rest) [some t0,some (.p st.enc),some (.r h.length),x] (h++[.l ws]) =
  fW (evS (runN T G (k+3)) G rkB) [(3,"part")] rest [some t0,some (.p st.enc),some (.r h.length),x'] (h++[.l (ws++[.int (s.val st)])]):=by
 intro s
 induction s with
 | num n =>
  intro _ ws rest x hl
  refine ⟨some (.p (Sm.num n).enc),?_⟩
  have r:=(gj P k st ho h.length (h++[.l ws])).1 n
  have l:ws.length < 100000:=by simp only[Sm.size] at hl;omega
  have hb:evS (runN T G (k+3)) G rkB [some t0,some (.p st.enc),some (.r h.length),some (.p (Sm.num n).enc)] (h++[.l ws]) =
   some (.nx [some t0,some (.p st.enc),some (.r h.length),some (.p (Sm.num n).enc)] (h++[.l (ws++[.int n])])):=by
   simp[rkB,r,l]
  simp only[Sm.lay,M9,Oc,Po,NL,Sm.val]
  simp[hb]
 | nam i =>
  intro _ ws rest x hl
  refine ⟨some (.p (Sm.nam i).enc),?_⟩
  have r:=(gj P k st ho h.length (h++[.l ws])).2 i
  have l:ws.length < 100000:=by simp only[Sm.size] at hl;omega
  have hb:evS (runN T G (k+3)) G rkB [some t0,some (.p st.enc),some (.r h.length),some (.p (Sm.nam i).enc)] (h++[.l ws]) =
   some (.nx [some t0,some (.p st.enc),some (.r h.length),some (.p (Sm.nam i).enc)] (h++[.l (ws++[.int (st.names.getD i.ix 0)])])):=by
   simp[rkB,r,l]
  simp only[Sm.lay,M9,Oc,Po,NL,Sm.val]
  simp[hb]
 | cell s ih =>
  intro hok ws rest x hl
  obtain ⟨x1,e1⟩:=ih hok ws ((Sm.cell s).enc :: rest) x (by simp only[Sm.size] at hl;omega)
  refine ⟨some (.p (Sm.cell s).enc),?_⟩
  have r:=kE P (k+2) st ho h.length (h++[.l (ws++[.int (s.val st)])]) s ws (s.val st) (by simp) (Sm.mw (s:=s) ho hok).1
  have l:ws.length < 100000:=by simp only[Sm.size] at hl;omega
  have hb:evS (runN T G (k+3)) G rkB [some t0,some (.p st.enc),some (.r h.length),some (.p (Sm.cell s).enc)] (h++[.l (ws++[.int (s.val st)])]) =
   some (.nx [some t0,some (.p st.enc),some (.r h.length),some (.p (Sm.cell s).enc)] (h++[.l (ws++[.int ((Sm.cell s).val st)])])):=by
   simp[rkB,r,l,Sm.val]
  simp only[Sm.lay,M9,List.reverse_cons,N9,NL]
  rw[e1]
  simp[hb]
 | two o s t ihs iht =>
  intro hok ws rest x hl
  have hl':=hl
  simp only[Sm.size] at hl'
  obtain ⟨x1,e1⟩:=ihs hok.1 ws ((t.lay.map Sm.enc).reverse++((Sm.two o s t).enc :: rest)) x (by omega)
  obtain ⟨x2,e2⟩:=iht hok.2 (ws++[.int (s.val st)]) ((Sm.two o s t).enc :: rest) x1 (by simp only[Nj,Pw];have:=s.size_pos;omega)
  refine ⟨some (.p (Sm.two o s t).enc),?_⟩
  have r:=lA P (k+1) st h.length (h++[.l (ws++[.int (s.val st),.int (t.val st)])]) o s t ws (s.val st) (t.val st) (Sm.mw ho hok.1) (by simp)
  have l:ws.length < 100000:=by omega
  have hb:evS (runN T G (k+3)) G rkB [some t0,some (.p st.enc),some (.r h.length),some (.p (Sm.two o s t).enc)] (h++[.l (ws++[.int (s.val st),.int (t.val st)])]) =
   some (.nx [some t0,some (.p st.enc),some (.r h.length),some (.p (Sm.two o s t).enc)] (h++[.l (ws++[.int ((Sm.two o s t).val st)])])):=by
   simp[rkB,r,l,Sm.val]
  simp only[Sm.lay,M9,OZ,List.reverse_cons,List.reverse_append,N9,NL]
  rw[e1,e2]
  simp only[N9,NL]
  simp[hb]
theorem kG:dw=⟨["term","state"],["term","state","worths","part"],.seq (.set 2 "worths" (.lst true .nil))
 (.seq (.for [(3,"part")] .rev (.cons (.call "laid_out" (.cons (.var 0 "term") .nil)) .nil) rkB) (.ret (.idx (.var 2 "worths") (.cst (.int 0)))))⟩:=rfl
theorem cI (P:Prg T G) (k:Nat) (s:Sm) (hs:s.size<=40000) (hok:s.ok) (st:St) (ho:st.ok) (h:HH) :
 runN T G (k+4) "reckoned" [.p s.enc,.p st.enc] h=some (.p (.int (s.val st)),h):=by
 rw[run_eq P.reckoned rfl]
 obtain ⟨x',q⟩:=Bb P k h (.p s.enc) st ho s hok [] [] none (by simp only[NN];omega)
 rw[kG]
 simp only[NT,Oz] at q
 have r:=nQ P (k+1) s hs
 simp[r,jw,q,fD,rd]
end
end BT
end
section
namespace BT
open PySem
section
variable {T:FK->Option Fn}{G:Str->Option W}
theorem eW {α:Type} (xs:List α) (i:Nat):atP xs (i:Int)=xs[i]?:=by
 unfold atP place
 by_cases h:i < xs.length
 ·have h1:((i:Int) < (xs.length:Int)):=by omega
  simp[h1,h]
 ·have h1:¬ ((i:Int) < (xs.length:Int)):=by omega
  simp[h1];omega
theorem gk (P:Prg T G) (k:Nat) (xs:List D) (i:Nat) (hi:i < xs.length) (hl:xs.length<=1000) (d:D) (h:HH) :
 runN T G (k+1) "with_worth" [.p (.tup xs),.p (.int i),.p d] h=some (.p (.tup (xs.set i d)),h):=by
 rw[run_eq P.with_worth rfl]
 have a1:¬ ((i:Int) < 0):=by omega
 have a2:(i:Int)<=(xs.length:Int):=by omega
 have a3:¬ ((i:Int)+1 < 0):=by omega
 have a4:(i:Int)+1<=(xs.length:Int):=by omega
 have a5:((i:Int)+1).toNat=i+1:=by omega
 have a6:xs.length - (i+1)+(i+1)<=100000:=by omega
 have a7:i+1+(xs.length - (i+1))<=100000:=by omega
 have a8:min i xs.length=i:=by omega
 have a9:i+1<=100000:=by omega
 have e:xs.take i++d :: xs.drop (i+1)=xs.set i d:=by
  rw[List.set_eq_take_append_cons_drop,if_pos hi]
 have b1:(xs.take i).length=i:=by simp;omega
 have b2:(xs.drop (i+1)).length=xs.length - (i+1):=by simp
 have b3:((xs.drop (i+1)).take (xs.length - (i+1)))=xs.drop (i+1):=by
  apply List.take_of_length_le;simp
 simp[b7,a1,a2,a3,a4,a5,a7,a8,a9,b3,e,ah]
@[simp] theorem Ms (st:St):aI st.enc (.int 0)=some (.int st.row):=rfl
@[simp] theorem Mt (st:St):aI st.enc (.int 1)=some (.tup (aa st.names)):=rfl
@[simp] theorem Mu (st:St):aI st.enc (.int 2)=some (.tup (aa st.cells)):=rfl
@[simp] theorem Mv (st:St):aI st.enc (.int 3)=some (.tup (aA st.calls)):=rfl
@[simp] theorem Mw (st:St):aI st.enc (.int 4)=some (.int st.asked):=rfl
@[simp] theorem Mx (st:St):aI st.enc (.int 5)=some (.tup (aa st.said)):=rfl
inductive Rw where
 | set (x:Nm) (s:Sm) | put (s t:Sm) | ask (x:Nm) | say (s:Sm) | jump (p:Nat) | unless (s:Sm) (p:Nat) | call (p:Nat) | back | stop
noncomputable def Rw.enc:Rw->D
 | .set x s=>.tup [.str "set",.str x.w,s.enc]
 | .put s t=>.tup [.str "put",s.enc,t.enc]
 | .ask x=>.tup [.str "ask",.str x.w]
 | .say s=>.tup [.str "say",s.enc]
 | .jump p=>.tup [.str "jump",.int p]
 | .unless s p=>.tup [.str "unless",s.enc,.int p]
 | .call p=>.tup [.str "call",.int p]
 | .back=>.tup [.str "back"]
 | .stop=>.tup [.str "stop"]
noncomputable def kH (s:Sm):Prop:=s.ok/\s.size<=15
noncomputable def Rw.ok (n:Nat):Rw->Prop
 | .set _ s=>kH s
 | .put s t=>kH s/\kH t
 | .ask _=>True
 | .say s=>kH s
 | .jump p=>p<=n
 | .unless s p=>kH s/\p<=n
 | .call p=>p<=n
 | .back=>True
 | .stop=>True
noncomputable abbrev Pg:=List Rw
noncomputable def bw (p:Pg):D:=.tup (p.map Rw.enc)
noncomputable def Pg.ok (p:Pg):Prop:=∀ r∈p,r.ok p.length
noncomputable def Rw.next (asked:List Int) (st:St):Rw->St
 | .set x s=>{ st with row:=st.row+1,names:=st.names.set x.ix (s.val st) }
 | .put s t=>{ st with row:=st.row+1,cells:=st.cells.set (s.val st % 4).toNat (t.val st) }
 | .ask x=>{ st with row:=st.row+1,names:=st.names.set x.ix (asked.getD st.asked 0),asked:=st.asked+1 }
 | .say s=>{ st with row:=st.row+1,said:=st.said++[s.val st] }
 | .jump p=>{ st with row:=p }
 | .unless s p=>{ st with row:=if s.val st=0 then p else st.row+1 }
 | .call p=>{ st with row:=p,calls:=st.calls++[st.row+1] }
 | .back=>{ st with row:=st.calls.getLast?.getD 0,calls:=st.calls.dropLast }
 | .stop=>st
noncomputable def Rw.over (st:St):Rw->Bool
 | .back=>st.calls.length==0
 | .call _=>decide (6<=st.calls.length)
 | .stop=>true
 | _=>false
noncomputable def over (p:Pg) (st:St):Bool:=match p[st.row]? with
 | some r=>r.over st
 | none=>true
noncomputable def step (p:Pg) (asked:List Int) (st:St):St:=match p[st.row]? with
 | some r=>r.next asked st
 | none=>st
noncomputable def St.zero:St:=⟨0,[0,0,0,0,0,0],[0,0,0,0],[],0,[]⟩
theorem Bc:St.zero.ok:=⟨rfl,rfl,by simp[St.zero,Wth],by simp[St.zero,Wth]⟩
noncomputable def sts (p:Pg) (asked:List Int):Nat->St->List St
 | 0,st=>[st]
 | n+1,st=>if over p st then [st] else st :: sts p asked n (step p asked st)
theorem uX (P:Prg T G) (k:Nat) (h:HH):runN T G (k+1) "begun" [] h=some (.p St.zero.enc,h):=by
 rw[run_eq P.begun rfl]
 simp[gi,P.LETTERS,P.CELL_COUNT,ah,St.zero,St.enc,aa,aA,rep,MY,List.flatten]
theorem pI (P:Prg T G) (k:Nat) (asked:List Int) (n:Nat) (h:HH):runN T G (k+1) "brought" [.p (.lst (aa asked)),.p (.int n)] h=some (.p (.int (asked.getD n 0)),h):=by
 rw[run_eq P.brought rfl]
 by_cases c:n < asked.length
 ·have c1:(n:Int) < (asked.length:Int):=by omega
  simp[cY,aa,c,c1,ah]
 ·have c1:¬ (n:Int) < (asked.length:Int):=by omega
  have e:asked[n]?=none:=MS (by omega)
  simp[cY,aa,c1,ah,e]
theorem gI (P:Prg T G) (k:Nat) (st:St) (ho:st.ok) (x:Nm) (d:Int) (h:HH) :
 runN T G (k+2) "with_name" [.p st.enc,.p (.str x.w),.p (.int d)] h=some (.p (.tup (aa (st.names.set x.ix d))),h):=by
 rw[run_eq P.with_name rfl]
 have r:=fun i=>gk P k (aa st.names) i
 have l:(aa st.names).length=6:=by simp[aa,ho.nlen]
 have e:(aa st.names).set x.ix (.int d)=aa (st.names.set x.ix d):=by simp[aa,List.map_set]
 have q:=r x.ix (by rw[l];exact x.sO) (by omega) (.int d)
 rw[e] at q
 have g:G "LETTERS"=some (.p (.tup ly)):=P.LETTERS
 have i2:=yd x
 have i3:=mz st
 generalize ly=L at *
 generalize st.enc=se at *
 generalize hz:(x.ix:Int)=z at *
 simp[cH,P.NAMES,g,i2,i3,ah,q]
theorem pJ (P:Prg T G) (k:Nat) (s:Sm) (hs:kH s) (st:St) (ho:st.ok) (h:HH):runN T G (k+5) "cell_by" [.p s.enc,.p st.enc] h=some (.p (.int (s.val st % 4)),h):=by
 rw[run_eq P.cell_by rfl]
 have q:=cI P k s (by have:=hs.2;omega) hs.1 st ho
 simp[dS,q,P.CELL_COUNT,ah]
noncomputable def Rw.word:Rw->String
 | .set _ _=>"set" | .put _ _=>"put" | .ask _=>"ask" | .say _=>"say" | .jump _=>"jump" | .unless _ _=>"unless" | .call _=>"call" | .back=>"back" | .stop=>"stop"
theorem Rw.nR (r:Rw):aI r.enc (.int 0)=some (.str r.word):=by cases r<;>rfl
noncomputable def plT:S:=(.seq (.ife (.or (.cmp .eq (.var 2 "word") (.cst (.str "jump"))) (.cmp .eq (.var 2 "word") (.cst (.str "call")))) (.ret (.idx (.var 0 "row") (.cst (.int 1)))) .nil)
 (.seq (.ife (.cmp .eq (.var 2 "word") (.cst (.str "back"))) (.ret (.idx (.idx (.var 1 "state") (.glo "CALLS")) (.neg (.cst (.int 1))))) .nil)
 (.seq (.ife (.and (.cmp .eq (.var 2 "word") (.cst (.str "unless"))) (.cmp .eq (.call "reckoned" (.cons (.idx (.var 0 "row") (.cst (.int 1))) (.cons (.var 1 "state") .nil))) (.cst (.int 0)))) (.ret (.idx (.var 0 "row") (.cst (.int 2)))) .nil)
 (.ret (.bin .add (.idx (.var 1 "state") (.glo "ROW")) (.cst (.int 1)))))))
theorem pK:bI=⟨["row","state"],["row","state","word"],
 (.seq (.set 2 "word" (.idx (.var 0 "row") (.cst (.int 0)))) plT)⟩:=rfl
theorem Bd (P:Prg T G) (F:FK->List W->HH->Option (W×HH)) (w0:W) (st:St) (h:HH) (v:String) (n1:¬ v="jump") (n2:¬ v="call") (n3:¬ v="back") (n4:¬ v="unless"):evS F G plT [some w0,some (.p st.enc),some (.p (.str v))] h=some (.rt (.p (.int ((st.row:Int)+1))) h):=by
 have i0:aI st.enc (.int 0)=some (.int (st.row:Int)):=rfl
 generalize st.enc=se at *
 simp[plT,n1,n2,n3,n4,P.ROW,i0]
theorem CA (F:FK->List W->HH->Option (W×HH)) (d:D) (w1:W) (h:HH) (v:String) (q:Int) (hv:v="jump"\/v="call") (i1:aI d (.int 1)=some (.int q)):evS F G plT [some (.p d),some w1,some (.p (.str v))] h=some (.rt (.p (.int q)) h):=by
 rcases hv with rfl | rfl<;>simp[plT,i1]
theorem uY (P:Prg T G) (k:Nat) (n:Nat) (r:Rw) (hr:r.ok n) (st:St) (ho:st.ok) (asked:List Int) (hb:r.over st=false) (h:HH) :
 runN T G (k+5) "place_behind" [.p r.enc,.p st.enc] h=some (.p (.int (r.next asked st).row),h):=by
 have wa:=r.nR
 have pre:runN T G (k+5) "place_behind" [.p r.enc,.p st.enc] h=iI (evS (runN T G (k+4)) G plT [some (.p r.enc),some (.p st.enc),some (.p (.str r.word))] h) (fin h):=by
  rw[run_eq P.place_behind rfl,pK]
  generalize r.enc=re at *
  simp[wa]
 have ot:∀ q:Int,iI (some (.rt (.p (.int q)) h)) (fin h)=some (.p (.int q),h):=fun q=>by simp[ah]
 rw[pre]
 cases r with
 | «unless» s p =>
  have q:=cI P k s (by have:=hr.1.2;omega) hr.1.1 st ho
  have i1:aI (Rw.unless s p).enc (.int 1)=some s.enc:=rfl
  have i2:aI (Rw.unless s p).enc (.int 2)=some (.int (p:Int)):=rfl
  have i0:aI st.enc (.int 0)=some (.int (st.row:Int)):=rfl
  generalize (Rw.unless s p).enc=re at *
  generalize st.enc=se at *
  generalize s.enc=sn at *
  by_cases c:s.val st=0<;>simp[plT,Rw.word,Rw.next,q,c,i0,i1,i2,ah,P.ROW]
 | back =>
  have c:st.calls≠[]:=by
   intro e;simp[Rw.over,e] at hb
  have:∃ l x,st.calls=l++[x]:=⟨st.calls.dropLast,st.calls.getLast c,(OR c).symm⟩
  obtain ⟨l,x,e⟩:=this
  have i3:aI st.enc (.int 3)=some (.tup (aA st.calls)):=rfl
  have ix:aI (.tup (aA st.calls)) (.int (-1))=some (.int (x:Int)):=by
   have e2:-((l.length:Int)+1)<=-1:=by omega
   have e3:(-1+((l.length:Int)+1)).toNat=l.length:=by omega
   simp[aA,e,e2,e3]
  have nx:((Rw.back).next asked st).row=x:=by simp[Rw.next,e]
  rw[nx]
  generalize st.enc=se at *
  generalize aA st.calls=nl at *
  simp[-aL,plT,Rw.word,P.CALLS,i3,ix,ah]
 | stop=>simp[Rw.over] at hb
 | jump p=>rw[Rw.word,CA _ _ _ _ _ (p:Int) (.inl rfl) rfl,ot];rfl
 | call p=>rw[Rw.word,CA _ _ _ _ _ (p:Int) (.inr rfl) rfl,ot];rfl
 | _=>rw[Rw.word,Bd P _ _ _ _ _ (by decide) (by decide) (by decide) (by decide),ot];rfl
noncomputable def ovT:S:=(.seq (.ife (.cmp .eq (.var 2 "word") (.cst (.str "back"))) (.ret (.cmp .eq (.bi .len false (.cons (.idx (.var 1 "state") (.glo "CALLS")) .nil)) (.cst (.int 0)))) .nil)
 (.seq (.ife (.cmp .eq (.var 2 "word") (.cst (.str "call"))) (.ret (.cmp .ge (.bi .len false (.cons (.idx (.var 1 "state") (.glo "CALLS")) .nil)) (.glo "MOST_CALLS"))) .nil)
 (.ret (.cmp .eq (.var 2 "word") (.cst (.str "stop"))))))
theorem lB:cX=⟨["program","state"],["program","state","word"],
 (.seq (.ife (.cmp .ge (.idx (.var 1 "state") (.glo "ROW")) (.bi .len false (.cons (.var 0 "program") .nil))) (.ret (.cst (.bl true))) .nil)
 (.seq (.set 2 "word" (.idx (.idx (.var 0 "program") (.idx (.var 1 "state") (.glo "ROW"))) (.cst (.int 0))))
 ovT))⟩:=rfl
theorem Be (F:FK->List W->HH->Option (W×HH)) (w0 w1:W) (h:HH) (v:String) (n1:¬ v="back") (n2:¬ v="call"):evS F G ovT [some w0,some w1,some (.p (.str v))] h=some (.rt (.p (.bl (decide (v="stop")))) h):=by
 by_cases c:v="stop"
 ·subst c
  simp[ovT]
 ·skip
  simp[ovT,n1,n2,c]
theorem pL (P:Prg T G) (k:Nat) (p:Pg) (st:St) (h:HH):runN T G (k+1) "is_over" [.p (bw p),.p st.enc] h=some (.p (.bl (over p st)),h):=by
 have lp:biD .len [bw p]=some (.int p.length):=by simp[bw]
 by_cases c:st.row < p.length
 ·have c1:¬ (p.length:Int)<=(st.row:Int):=by omega
  have c2:(st.row:Int) < (p.length:Int):=by omega
  have e:p[st.row]?=some p[st.row]:=MT c
  have row:aI (bw p) (.int st.row)=some (p[st.row]).enc:=by simp[bw,c2,e]
  have ov:over p st=(p[st.row]).over st:=by rw[over,e]
  rw[ov]
  generalize p[st.row]=r at row ⊢
  have wa:=r.nR
  have pre:runN T G (k+1) "is_over" [.p (bw p),.p st.enc] h=iI (evS (runN T G k) G ovT [some (.p (bw p)),some (.p st.enc),some (.p (.str r.word))] h) (fin h):=by
   rw[run_eq P.is_over rfl,lB]
   generalize r.enc=re at row wa
   simp[lp,row,wa,P.ROW,c1]
  rw[pre]
  have ln:biD .len [.tup (aA st.calls)]=some (.int (st.calls.length:Int)):=by simp[aA]
  have i3:aI st.enc (.int 3)=some (.tup (aA st.calls)):=rfl
  cases r with
  | back =>
   have ee:(((st.calls.length:Nat):Int)==0)=(st.calls.length==0):=by
    cases st.calls with
    | nil=>rfl
    | cons a l=>rw[beq_eq_false_iff_ne.mpr (by simp only[M5];omega)];rfl
   simp[-lV,ovT,Rw.word,P.CALLS,i3,ln,ee,ah,Rw.over]
  | call q =>
   have ee:decide ((6:Int)<=(st.calls.length:Int))=decide (6<=st.calls.length):=decide_eq_decide.mpr (by omega)
   simp[-lV,ovT,Rw.word,P.CALLS,P.MOST_CALLS,i3,ln,ee,ah,Rw.over]
  | _ =>
   rw[Rw.word,Be _ _ _ _ _ (by decide) (by decide)]
   simp[ah,Rw.over]
 ·have c1:(p.length:Int)<=(st.row:Int):=by omega
  have e:p[st.row]?=none:=MS (by omega)
  rw[run_eq P.is_over rfl]
  simp[cX,lp,P.ROW,c1,ah,over,e]
theorem ints_set (xs:List Int) (i:Nat) (v:Int):(aa xs).set i (.int v)=aa (xs.set i v):=by simp[aa,List.map_set]
theorem bJ (xs:List Int):(aa xs).length=xs.length:=by simp[aa]
theorem ints_snoc (xs:List Int) (v:Int):aa xs++[.int v]=aa (xs++[v]):=by simp[aa]
theorem mD (xs:List Nat) (v:Nat):aA xs++[.int (v:Int)]=aA (xs++[v]):=by simp[aA]
theorem pM (xs:List Nat):cut (aA xs) none (some (-1))=aA xs.dropLast:=by
 have e:(-1+(xs.length:Int)).toNat=xs.length - 1:=by omega
 simp[cut,clip,aA,e,List.dropLast_eq_take]
structure St.small (st:St):Prop where
 sl:st.said.length<=5000
 cl:st.calls.length<=5000
noncomputable def encL (st:St):List D:=[.int st.row,.tup (aa st.names),.tup (aa st.cells),.tup (aA st.calls),.int st.asked,.tup (aa st.said)]
theorem yf (st:St):biD .list [st.enc]=some (.lst (encL st)):=rfl
noncomputable def EB:S:=(.put 5 "behind" (.glo "CALLS") (.slc (.idx (.var 2 "state") (.glo "CALLS")) .nil (.cons (.neg (.cst (.int 1))) .nil)))
noncomputable def EC:S:=(.ife (.cmp .eq (.var 4 "word") (.cst (.str "back"))) EB .nil)
noncomputable def ED:S:=(.put 5 "behind" (.glo "CALLS") (.bin .add (.idx (.var 2 "state") (.glo "CALLS")) (.tup (.cons (.bin .add (.idx (.var 2 "state") (.glo "ROW")) (.cst (.int 1))) .nil))))
noncomputable def Bf:S:=(.ife (.cmp .eq (.var 4 "word") (.cst (.str "call"))) ED EC)
noncomputable def EE:S:=(.put 5 "behind" (.glo "SAID") (.bin .add (.idx (.var 2 "state") (.glo "SAID")) (.tup (.cons (.call "reckoned" (.cons (.idx (.var 3 "row") (.cst (.int 1))) (.cons (.var 2 "state") .nil))) .nil))))
noncomputable def yh:S:=(.ife (.cmp .eq (.var 4 "word") (.cst (.str "say"))) EE Bf)
noncomputable def EF:S:=(.seq (.put 5 "behind" (.glo "NAMES") (.call "with_name" (.cons (.var 2 "state") (.cons (.idx (.var 3 "row") (.cst (.int 1))) (.cons (.call "brought" (.cons (.var 1 "asked") (.cons (.idx (.var 2 "state") (.glo "ASKED")) .nil))) .nil)))))
 (.put 5 "behind" (.glo "ASKED") (.bin .add (.idx (.var 2 "state") (.glo "ASKED")) (.cst (.int 1)))))
noncomputable def uZ:S:=(.ife (.cmp .eq (.var 4 "word") (.cst (.str "ask"))) EF yh)
noncomputable def EG:S:=(.put 5 "behind" (.glo "CELLS") (.call "with_worth" (.cons (.idx (.var 2 "state") (.glo "CELLS")) (.cons (.call "cell_by" (.cons (.idx (.var 3 "row") (.cst (.int 1))) (.cons (.var 2 "state") .nil))) (.cons (.call "reckoned" (.cons (.idx (.var 3 "row") (.cst (.int 2))) (.cons (.var 2 "state") .nil))) .nil)))))
noncomputable def qL:S:=(.ife (.cmp .eq (.var 4 "word") (.cst (.str "put"))) EG uZ)
noncomputable def EI:S:=(.put 5 "behind" (.glo "NAMES") (.call "with_name" (.cons (.var 2 "state") (.cons (.idx (.var 3 "row") (.cst (.int 1))) (.cons (.call "reckoned" (.cons (.idx (.var 3 "row") (.cst (.int 2))) (.cons (.var 2 "state") .nil))) .nil)))))
noncomputable def ig:S:=(.ife (.cmp .eq (.var 4 "word") (.cst (.str "set"))) EI qL)
noncomputable def EJ:S:=(.seq ig
 (.ret (.bi .tuple false (.cons (.var 5 "behind") .nil))))
theorem lD:dU=⟨["program","asked","state"],["program","asked","state","row","word","behind"],
 (.seq (.set 3 "row" (.idx (.var 0 "program") (.idx (.var 2 "state") (.glo "ROW"))))
 (.seq (.set 4 "word" (.idx (.var 3 "row") (.cst (.int 0))))
 (.seq (.set 5 "behind" (.bi .list true (.cons (.var 2 "state") .nil)))
 (.seq (.put 5 "behind" (.glo "ROW") (.call "place_behind" (.cons (.var 3 "row") (.cons (.var 2 "state") .nil))))
 EJ))))⟩:=rfl
theorem EK (F:FK->List W->HH->Option (W×HH)) (A B:S) (s:Sl) (h:HH):evS F G (.seq A B) s h=j8 (evS F G A s h) (evS F G B):=by rw[evS]
theorem pick (F:FK->List W->HH->Option (W×HH)) (w0 w1 w2 w3:W) (v w:String) (rest:Sl) (h:HH) (A B:S):evS F G (.ife (.cmp .eq (.var 4 "word") (.cst (.str w))) A B) (some w0 :: some w1 :: some w2 :: some w3 :: some (.p (.str v)) :: rest) h=if v=w then evS F G A (some w0 :: some w1 :: some w2 :: some w3 :: some (.p (.str v)) :: rest) h else evS F G B (some w0 :: some w1 :: some w2 :: some w3 :: some (.p (.str v)) :: rest) h:=by
 have e:eqv (.str v) (.str w)=decide (v=w):=by
  by_cases c:v=w
  ·rw[decide_eq_true c,c];simp
  ·rw[decide_eq_false c]
   have:¬ MU v=MU w:=fun z=>c (by simpa using z)
   simp[this,c]
 by_cases c:v=w
 ·rw[decide_eq_true c] at e
  rw[if_pos c]
  simp[-eqv,e]
 ·rw[decide_eq_false c] at e
  rw[if_neg c]
  simp[-eqv,e]
theorem to0 (F:FK->List W->HH->Option (W×HH)) (w0 w1 w2 w3:W) (rest:Sl) (h:HH):evS F G ig (some w0 :: some w1 :: some w2 :: some w3 :: some (.p (.str "set")) :: rest) h=evS F G EI (some w0 :: some w1 :: some w2 :: some w3 :: some (.p (.str "set")) :: rest) h:=by
 rw[ig,pick,if_pos rfl]
theorem to1 (F:FK->List W->HH->Option (W×HH)) (w0 w1 w2 w3:W) (rest:Sl) (h:HH):evS F G ig (some w0 :: some w1 :: some w2 :: some w3 :: some (.p (.str "put")) :: rest) h=evS F G EG (some w0 :: some w1 :: some w2 :: some w3 :: some (.p (.str "put")) :: rest) h:=by
 rw[ig,pick,if_neg (by decide),qL,pick,if_pos rfl]
theorem to2 (F:FK->List W->HH->Option (W×HH)) (w0 w1 w2 w3:W) (rest:Sl) (h:HH):evS F G ig (some w0 :: some w1 :: some w2 :: some w3 :: some (.p (.str "ask")) :: rest) h=evS F G EF (some w0 :: some w1 :: some w2 :: some w3 :: some (.p (.str "ask")) :: rest) h:=by
 rw[ig,pick,if_neg (by decide),qL,pick,if_neg (by decide),uZ,pick,if_pos rfl]
theorem to3 (F:FK->List W->HH->Option (W×HH)) (w0 w1 w2 w3:W) (rest:Sl) (h:HH):evS F G ig (some w0 :: some w1 :: some w2 :: some w3 :: some (.p (.str "say")) :: rest) h=evS F G EE (some w0 :: some w1 :: some w2 :: some w3 :: some (.p (.str "say")) :: rest) h:=by
 rw[ig,pick,if_neg (by decide),qL,pick,if_neg (by decide),uZ,pick,if_neg (by decide),yh,pick,if_pos rfl]
theorem to4 (F:FK->List W->HH->Option (W×HH)) (w0 w1 w2 w3:W) (rest:Sl) (h:HH):evS F G ig (some w0 :: some w1 :: some w2 :: some w3 :: some (.p (.str "call")) :: rest) h=evS F G ED (some w0 :: some w1 :: some w2 :: some w3 :: some (.p (.str "call")) :: rest) h:=by
 rw[ig,pick,if_neg (by decide),qL,pick,if_neg (by decide),uZ,pick,if_neg (by decide),yh,pick,if_neg (by decide),Bf,pick,if_pos rfl]
theorem to5 (F:FK->List W->HH->Option (W×HH)) (w0 w1 w2 w3:W) (rest:Sl) (h:HH):evS F G ig (some w0 :: some w1 :: some w2 :: some w3 :: some (.p (.str "back")) :: rest) h=evS F G EB (some w0 :: some w1 :: some w2 :: some w3 :: some (.p (.str "back")) :: rest) h:=by
 rw[ig,pick,if_neg (by decide),qL,pick,if_neg (by decide),uZ,pick,if_neg (by decide),yh,pick,if_neg (by decide),Bf,pick,if_neg (by decide),EC,pick,if_pos rfl]
theorem toN (F:FK->List W->HH->Option (W×HH)) (w0 w1 w2 w3:W) (rest:Sl) (h:HH) (v:String) (hv:v∉["set","put","ask","say","call","back"]):evS F G ig (some w0 :: some w1 :: some w2 :: some w3 :: some (.p (.str v)) :: rest) h=some (.nx (some w0 :: some w1 :: some w2 :: some w3 :: some (.p (.str v)) :: rest) h):=by
 simp only[NY,ND,or_false,not_or] at hv
 obtain ⟨n1,n2,n3,n4,n5,n6⟩:=hv
 rw[ig,pick,if_neg n1,qL,pick,if_neg n2,uZ,pick,if_neg n3,yh,pick,if_neg n4,Bf,pick,if_neg n5,EC,pick,if_neg n6];rfl
theorem pN (P:Prg T G) (k:Nat) (p:Pg) (hp:Pg.ok p) (asked:List Int) (st:St) (ho:st.ok) (hs:st.small) (hb:over p st=false) (h:HH) :
 runN T G (k+6) "stepped" [.p (bw p),.p (.lst (aa asked)),.p st.enc] h=some (.p (step p asked st).enc,h):=by
 have c:st.row < p.length:=by
  rcases M4 st.row p.length with q | q
  ·exact q
  ·rw[over,MS q] at hb;cases hb
 have e:p[st.row]?=some p[st.row]:=MT c
 have c2:(st.row:Int) < (p.length:Int):=by omega
 have hr:=hp _ (OM c)
 have hb':(p[st.row]).over st=false:=by rw[over,e] at hb;exact hb
 have pl:=uY P k p.length p[st.row] hr st ho asked hb'
 rw[step,e]
 have l1:=hs.sl
 have l2:=hs.cl
 revert pl hr hb'
 generalize p[st.row]=r at *
 intro hr hb' pl
 have row:aI (bw p) (.int st.row)=some r.enc:=by simp[bw,c2,e]
 have pre:runN T G (k+6) "stepped" [.p (bw p),.p (.lst (aa asked)),.p st.enc] h =
  iI (evS (runN T G (k+5)) G EJ [some (.p (bw p)),some (.p (.lst (aa asked))),some (.p st.enc),some (.p r.enc),some (.p (.str r.word)),some (.r h.length)] (h++[.l [.int (r.next asked st).row,.tup (aa st.names),.tup (aa st.cells),.tup (aA st.calls),.int st.asked,.tup (aa st.said)]])) (fin h):=by
  rw[run_eq P.stepped rfl,lD]
  simp[row,r.nR,P.ROW,yf,encL,pl]
 rw[pre,EJ,EK]
 cases r with
 | set x s =>
  have q:=cI P (k+1) s (by have:=hr.2;omega) hr.1 st ho
  have w:=gI P (k+3) st ho x (s.val st)
  simp only[Rw.enc,Rw.next,Rw.word,to0]
  simp[EI,P.ROW,P.NAMES,q,w,rd,fD,Rw.next]
  simp[St.enc]
 | put s t =>
  have q:=pJ P k s hr.1 st ho
  have q2:=cI P (k+1) t (by have:=hr.2.2;omega) hr.2.1 st ho
  have v:=Sm.mw (s:=s) ho hr.1.1
  have hi:(s.val st % 4).toNat < (aa st.cells).length:=by rw[bJ,ho.clen];omega
  have w:=gk P (k+4) (aa st.cells) (s.val st % 4).toNat hi (by rw[bJ,ho.clen];omega) (.int (t.val st))
  have e3:(((s.val st % 4).toNat:Nat):Int)=s.val st % 4:=by omega
  rw[e3,ints_set] at w
  simp only[Rw.enc,Rw.next,Rw.word,to1]
  simp[EG,P.ROW,P.CELLS,q,q2,w,rd,fD,Rw.next]
  simp[St.enc]
 | ask x =>
  have b:=pI P (k+4) asked st.asked
  have w:=gI P (k+3) st ho x (asked.getD st.asked 0)
  simp only[Rw.enc,Rw.next,Rw.word,to2]
  simp only[Nx] at b w ⊢
  simp[EF,P.ROW,P.NAMES,P.ASKED,b,w,rd,fD,Rw.next]
  simp[St.enc]
 | say s =>
  have q:=cI P (k+1) s (by have:=hr.2;omega) hr.1 st ho
  simp only[Rw.enc,Rw.next,Rw.word,to3]
  have l3:(aa st.said).length+1<=100000:=by rw[bJ];omega
  simp[EE,P.ROW,P.SAID,q,rd,fD,Rw.next,l3,ints_snoc]
  simp[St.enc]
 | call q =>
  simp only[Rw.enc,Rw.next,Rw.word,to4]
  have l3:(aA st.calls).length+1<=100000:=by simp[aA];omega
  have e4:aA st.calls++[.int ((st.row:Int)+1)]=aA (st.calls++[st.row+1]):=by rw[← mD];simp
  simp[ED,P.ROW,P.CALLS,rd,fD,Rw.next,l3,e4]
  simp[St.enc]
 | back =>
  simp only[Rw.enc,Rw.next,Rw.word,to5]
  have e4:=pM st.calls
  have e5:mX (.tup (aA st.calls)) none (some (-1))=some (.tup (aA st.calls.dropLast)):=by rw[mZ,e4]
  simp[-mZ,EB,P.ROW,P.CALLS,rd,fD,Rw.next,e5]
  simp[St.enc]
 | stop=>simp[Rw.over] at hb'
 | _ =>
  simp only[Rw.enc,Rw.next,Rw.word]
  rw[toN _ _ _ _ _ _ _ _ (by decide)]
  simp[P.ROW,rd,fD,Rw.next]
  simp[St.enc]
end
end BT
end
section
namespace BT
open PySem
noncomputable def Ask (asked:List Int):Prop:=∀ x∈asked,Wth x
theorem yi {xs:List Int}{i:Nat}{v:Int} (h:∀ x∈xs,Wth x) (hv:Wth v):∀ x∈xs.set i v,Wth x:=fun x hx=>by
 rcases List.mem_or_eq_of_mem_set hx with q | q
 ·exact h x q
 ·rw[q];exact hv
structure At (n:Nat) (st:St):Prop where
 ok:st.ok
 said:st.said.length<=n
 calls:st.calls.length<=6
theorem At.small {n:Nat}{st:St} (a:At n st) (h:n<=5000):st.small:=⟨by have:=a.said;omega,by have:=a.calls;omega⟩
theorem sP:At 0 St.zero:=⟨Bc,MR _,by decide⟩
theorem sQ {n:Nat}{p:Pg}{asked:List Int}{st:St} (hp:Pg.ok p) (ha:Ask asked) (a:At n st) (hb:over p st=false):At (n+1) (step p asked st):=by
 have c:st.row < p.length:=by
  rcases M4 st.row p.length with q | q
  ·exact q
  ·rw[over,MS q] at hb;cases hb
 have e:p[st.row]?=some p[st.row]:=MT c
 have hr:=hp _ (OM c)
 have hb':(p[st.row]).over st=false:=by rw[over,e] at hb;exact hb
 rw[step,e]
 dsimp only
 revert hr hb'
 generalize p[st.row]=r
 intro hr hb'
 obtain ⟨ok,sd,cl⟩:=a
 cases r with
 | set x s=>exact ⟨⟨by simp[Rw.next,ok.nlen],ok.clen,yi ok.nw (Sm.mw ok hr.1),ok.cw⟩,by simp[Rw.next];omega,cl⟩
 | put s t=>exact ⟨⟨ok.nlen,by simp[Rw.next,ok.clen],ok.nw,yi ok.cw (Sm.mw ok hr.2.1)⟩,by simp[Rw.next];omega,cl⟩
 | ask x=>exact ⟨⟨by simp[Rw.next,ok.nlen],ok.clen,yi ok.nw (qI ha _),ok.cw⟩,by simp[Rw.next];omega,cl⟩
 | say s=>exact ⟨⟨ok.nlen,ok.clen,ok.nw,ok.cw⟩,by simp[Rw.next];omega,cl⟩
 | call q =>
  simp[Rw.over] at hb'
  exact ⟨⟨ok.nlen,ok.clen,ok.nw,ok.cw⟩,by simp[Rw.next];omega,by simp[Rw.next];omega⟩
 | back=>exact ⟨⟨ok.nlen,ok.clen,ok.nw,ok.cw⟩,by simp[Rw.next];omega,by simp[Rw.next];omega⟩
 | stop=>simp[Rw.over] at hb'
 | _=>exact ⟨⟨ok.nlen,ok.clen,ok.nw,ok.cw⟩,by simp[Rw.next];omega,cl⟩
section
variable {T:FK->Option Fn}{G:Str->Option W}
end
end BT
end
section
namespace BT
open PySem
noncomputable def cC:Fn:=⟨["_law_script","_law_k"],["_law_script","_law_k"],
 (.seq (.ife (.cmp .eq (.var 0 "_law_script") (.lst false .nil)) (.ret (.bin .mul (.cst (.int 7)) (.var 1 "_law_k"))) .nil)
 (.ret (.bin .add (.idx (.var 0 "_law_script") (.bin .mod (.var 1 "_law_k") (.bi .len false (.cons (.var 0 "_law_script") .nil)))) (.bin .mul (.cst (.int 6553)) (.bin .fdiv (.var 1 "_law_k") (.bi .len false (.cons (.var 0 "_law_script") .nil)))))))⟩
noncomputable def cJ:Fn:=⟨["_law_script","_law_k","_law_many"],["_law_script","_law_k","_law_many","_law_cell_here"],
 (.seq (.set 3 "_law_cell_here" (.bin .mod (.bin .add (.bin .mul (.bin .mod (.call "_law_cell" (.cons (.var 0 "_law_script") (.cons (.var 1 "_law_k") .nil))) (.cst (.int 2147483563))) (.cst (.int 69069))) (.bin .mul (.cst (.int 104723)) (.bin .add (.var 1 "_law_k") (.cst (.int 1))))) (.cst (.int 2147483563))))
 (.seq (.set 3 "_law_cell_here" (.bin .mod (.bin .add (.bin .mul (.var 3 "_law_cell_here") (.var 3 "_law_cell_here")) (.bin .fdiv (.var 3 "_law_cell_here") (.cst (.int 3)))) (.cst (.int 2147483399))))
 (.ret (.bin .mod (.bin .fdiv (.bin .mod (.bin .add (.bin .mul (.var 3 "_law_cell_here") (.var 3 "_law_cell_here")) (.bin .fdiv (.var 3 "_law_cell_here") (.cst (.int 7)))) (.cst (.int 2147483647))) (.cst (.int 11))) (.var 2 "_law_many")))))⟩
noncomputable def smL:S:=(.seq (.ife (.cmp .eq (.call "_law_drawn" (.cons (.var 0 "_law_script") (.cons (.bin .add (.var 1 "_law_at") (.cst (.int 1))) (.cons (.cst (.int 2)) .nil)))) (.cst (.int 0))) (.ret (.tup (.cons (.cst (.str "num")) (.cons (.idx (.lst false (.cons (.cst (.int 0)) (.cons (.cst (.int 1)) (.cons (.cst (.int 2)) (.cons (.cst (.int 3)) (.cons (.cst (.int 10)) (.cons (.cst (.int 10006)) .nil))))))) (.call "_law_drawn" (.cons (.var 0 "_law_script") (.cons (.bin .add (.var 1 "_law_at") (.cst (.int 2))) (.cons (.cst (.int 6)) .nil))))) .nil)))) .nil)
 (.ret (.tup (.cons (.cst (.str "name")) (.cons (.idx (.cst (.str "abcf")) (.call "_law_drawn" (.cons (.var 0 "_law_script") (.cons (.bin .add (.var 1 "_law_at") (.cst (.int 2))) (.cons (.cst (.int 4)) .nil))))) .nil)))))
noncomputable def smR:S:=(.seq (.set 4 "_law_one" (.call "_law_sum" (.cons (.var 0 "_law_script") (.cons (.bin .add (.bin .mul (.var 1 "_law_at") (.cst (.int 2))) (.cst (.int 5))) (.cons (.bin .sub (.var 2 "_law_deep") (.cst (.int 1))) .nil)))))
 (.seq (.ife (.cmp .lt (.var 3 "_law_way") (.cst (.int 6))) (.ret (.tup (.cons (.cst (.str "cell")) (.cons (.var 4 "_law_one") .nil)))) .nil)
 (.ret (.tup (.cons (.idx (.lst false (.cons (.cst (.str "add")) (.cons (.cst (.str "sub")) (.cons (.cst (.str "mul")) (.cons (.cst (.str "less")) .nil))))) (.bin .sub (.var 3 "_law_way") (.cst (.int 6)))) (.cons (.var 4 "_law_one") (.cons (.call "_law_sum" (.cons (.var 0 "_law_script") (.cons (.bin .add (.bin .mul (.var 1 "_law_at") (.cst (.int 2))) (.cst (.int 19))) (.cons (.bin .sub (.var 2 "_law_deep") (.cst (.int 1))) .nil)))) .nil)))))))
noncomputable def bP:Fn:=⟨["_law_script","_law_at","_law_deep"],["_law_script","_law_at","_law_deep","_law_way","_law_one"],
 (.seq (.set 3 "_law_way" (.call "_law_drawn" (.cons (.var 0 "_law_script") (.cons (.var 1 "_law_at") (.cons (.cst (.int 10)) .nil)))))
 (.seq (.ife (.or (.cmp .eq (.var 2 "_law_deep") (.cst (.int 0))) (.cmp .lt (.var 3 "_law_way") (.cst (.int 4)))) smL .nil)
 smR))⟩
noncomputable def dW:Fn:=⟨["_law_script","_law_at","_law_size"],["_law_script","_law_at","_law_size","_law_way","_law_place","_law_name","_law_one"],
 (.seq (.set 3 "_law_way" (.call "_law_drawn" (.cons (.var 0 "_law_script") (.cons (.var 1 "_law_at") (.cons (.cst (.int 16)) .nil)))))
 (.seq (.set 4 "_law_place" (.call "_law_drawn" (.cons (.var 0 "_law_script") (.cons (.bin .add (.var 1 "_law_at") (.cst (.int 1))) (.cons (.bin .add (.var 2 "_law_size") (.cst (.int 1))) .nil)))))
 (.seq (.set 5 "_law_name" (.idx (.cst (.str "abc")) (.call "_law_drawn" (.cons (.var 0 "_law_script") (.cons (.bin .add (.var 1 "_law_at") (.cst (.int 2))) (.cons (.cst (.int 3)) .nil))))))
 (.seq (.set 6 "_law_one" (.call "_law_sum" (.cons (.var 0 "_law_script") (.cons (.bin .add (.var 1 "_law_at") (.cst (.int 3))) (.cons (.cst (.int 2)) .nil)))))
 (.seq (.ife (.cmp .lt (.var 3 "_law_way") (.cst (.int 5))) (.ret (.tup (.cons (.cst (.str "set")) (.cons (.var 5 "_law_name") (.cons (.var 6 "_law_one") .nil))))) .nil)
 (.seq (.ife (.cmp .lt (.var 3 "_law_way") (.cst (.int 7))) (.ret (.tup (.cons (.cst (.str "put")) (.cons (.call "_law_sum" (.cons (.var 0 "_law_script") (.cons (.bin .add (.var 1 "_law_at") (.cst (.int 9))) (.cons (.cst (.int 1)) .nil)))) (.cons (.var 6 "_law_one") .nil))))) .nil)
 (.seq (.ife (.cmp .lt (.var 3 "_law_way") (.cst (.int 9))) (.ret (.idx (.lst false (.cons (.tup (.cons (.cst (.str "ask")) (.cons (.var 5 "_law_name") .nil))) (.cons (.tup (.cons (.cst (.str "say")) (.cons (.var 6 "_law_one") .nil))) .nil))) (.bin .sub (.var 3 "_law_way") (.cst (.int 7))))) .nil)
 (.seq (.ife (.cmp .lt (.var 3 "_law_way") (.cst (.int 12))) (.ret (.idx (.lst false (.cons (.tup (.cons (.cst (.str "jump")) (.cons (.var 4 "_law_place") .nil))) (.cons (.tup (.cons (.cst (.str "unless")) (.cons (.var 6 "_law_one") (.cons (.var 4 "_law_place") .nil)))) (.cons (.tup (.cons (.cst (.str "unless")) (.cons (.tup (.cons (.cst (.str "name")) (.cons (.var 5 "_law_name") .nil))) (.cons (.var 4 "_law_place") .nil)))) .nil)))) (.bin .sub (.var 3 "_law_way") (.cst (.int 9))))) .nil)
 (.ret (.idx (.lst false (.cons (.tup (.cons (.cst (.str "call")) (.cons (.var 4 "_law_place") .nil))) (.cons (.tup (.cons (.cst (.str "call")) (.cons (.var 4 "_law_place") .nil))) (.cons (.tup (.cons (.cst (.str "back")) .nil)) (.cons (.idx (.lst false (.cons (.tup (.cons (.cst (.str "stop")) .nil)) (.cons (.tup (.cons (.cst (.str "back")) .nil)) .nil))) (.bin .mod (.var 4 "_law_place") (.cst (.int 2)))) .nil))))) (.bin .sub (.var 3 "_law_way") (.cst (.int 12)))))))))))))⟩
noncomputable def cK:Fn:=⟨["_law_script","_law_at"],["_law_script","_law_at"],
 (.ret (.comp false .rng1 (.cons (.call "_law_drawn" (.cons (.var 0 "_law_script") (.cons (.var 1 "_law_at") (.cons (.cst (.int 4)) .nil)))) .nil) ["_law_k"] [(0,"_law_script"),(1,"_law_at")] .nil (.idx (.lst false (.cons (.cst (.int 0)) (.cons (.cst (.int 1)) (.cons (.cst (.int 5)) (.cons (.cst (.int 10006)) .nil))))) (.call "_law_drawn" (.cons (.var 1 "_law_script") (.cons (.bin .add (.bin .add (.var 2 "_law_at") (.cst (.int 1))) (.var 0 "_law_k")) (.cons (.cst (.int 4)) .nil)))))))⟩
structure Lw (T:FK->Option Fn):Prop where
 cell:T "_law_cell"=some cC
 drawn:T "_law_drawn"=some cJ
 sum:T "_law_sum"=some bP
 row:T "_law_row"=some dW
 asked:T "_law_asked"=some cK
noncomputable def sR (ns:List Int) (k:Int):Int:=if ns=[] then 7*k else ns.getD (k % ns.length).toNat 0+6553*(k / ns.length)
noncomputable def drw (ns:List Int) (k many:Int):Int :=
 let a:=(sR ns k % 2147483563*69069+104723*(k+1)) % 2147483563
 let b:=(a*a+a / 3) % 2147483399
 (b*b+b / 7) % 2147483647 / 11 % many
theorem b5 (ns:List Int) (k:Int) {many:Int} (h:0 < many):0<=drw ns k many:=Int.emod_nonneg _ (by omega)
theorem b6 (ns:List Int) (k:Int) {many:Int} (h:0 < many):drw ns k many < many:=Int.emod_lt_of_pos _ h
theorem jg {i:Int} (h0:0<=i) (h1:i < 18446744073709551616):big i=true:=by
 unfold big;exact decide_eq_true (by omega)
section
variable {T:FK->Option Fn}{G:Str->Option W}
theorem Bg (ns:List Int):eqv (.lst (aa ns)) (.lst [])=decide (ns=[]):=by
 cases ns<;>simp[aa]
theorem yj (L:Lw T) (m:Nat) (ns:List Int) (hl:ns.length<=1000) (k:Int) (h:HH):runN T G (m+1) "_law_cell" [.p (.lst (aa ns)),.p (.int k)] h=some (.p (.int (sR ns k)),h):=by
 rw[run_eq L.cell rfl]
 by_cases c:ns=[]
 ·subst c
  simp[cC,aa,sR,big,ah]
 ·have n0:0 < ns.length:=List.length_pos_iff.mpr c
  have q:eqv (.lst (aa ns)) (.lst [])=false:=by rw[Bg];exact decide_eq_false c
  have p1:(0:Int) < (ns.length:Int):=by omega
  have p2:(ns.length:Int) < 1073741824:=by omega
  have m1:=Int.emod_nonneg k (b:=(ns.length:Int)) (by omega)
  have m2:=Int.emod_lt_of_pos k p1
  have i1:(k % (ns.length:Int)).toNat < ns.length:=by omega
  have n2:ns.length < 1073741824:=by omega
  simp[cC,-eqv,q,bJ,p1,p2,n0,n2,m1,m2,big,ah,sR,c]
  simp[aa,i1,ah,n0,n2,m1,m2,big,p1,p2]
theorem bV (L:Lw T) (m:Nat) (ns:List Int) (hl:ns.length<=1000) (k many:Int) (hm:0 < many) (h:HH) :
 runN T G (m+2) "_law_drawn" [.p (.lst (aa ns)),.p (.int k),.p (.int many)] h=some (.p (.int (drw ns k many)),h):=by
 rw[run_eq L.drawn rfl]
 have r:=yj (G:=G) L m ns hl k
 have b0:big 69069=true:=by decide
 have b1:big 104723=true:=by decide
 have b2:∀ x:Int,big (x % 2147483563)=true:=fun x=>jg (by omega) (by omega)
 have b3:∀ x:Int,big (x % 2147483399)=true:=fun x=>jg (by omega) (by omega)
 simp[cJ,r,b0,b1,b2,b3,ah,hm,drw]
theorem nS:MU "abcf"=⟨#[97,98,99,102]⟩:=by decide +kernel
theorem yk:MU "abc"=⟨#[97,98,99]⟩:=by decide +kernel
theorem o_a:MU "a"=⟨#[97]⟩:=by decide +kernel
theorem o_b:MU "b"=⟨#[98]⟩:=by decide +kernel
theorem o_c:MU "c"=⟨#[99]⟩:=by decide +kernel
theorem o_f:MU "f"=⟨#[102]⟩:=by decide +kernel
theorem sU (i:Int) (h0:0<=i) (h1:i < 4):∃ x:Nm,aI (.str "abcf") (.int i)=some (.str x.w):=by
 have:i=0\/i=1\/i=2\/i=3:=by omega
 rcases this with rfl | rfl | rfl | rfl
 ·exact ⟨.a,by rw[Nm.w,nS,o_a];rfl⟩
 ·exact ⟨.b,by rw[Nm.w,nS,o_b];rfl⟩
 ·exact ⟨.c,by rw[Nm.w,nS,o_c];rfl⟩
 ·exact ⟨.f,by rw[Nm.w,nS,o_f];rfl⟩
theorem EL (i:Int) (h0:0<=i) (h1:i < 3):∃ x:Nm,aI (.str "abc") (.int i)=some (.str x.w):=by
 have:i=0\/i=1\/i=2:=by omega
 rcases this with rfl | rfl | rfl
 ·exact ⟨.a,by rw[Nm.w,yk,o_a];rfl⟩
 ·exact ⟨.b,by rw[Nm.w,yk,o_b];rfl⟩
 ·exact ⟨.c,by rw[Nm.w,yk,o_c];rfl⟩
theorem sV (i:Int) (h0:0<=i) (h1:i < 6):∃ n:Int,Wth n/\aI (.lst [.int 0,.int 1,.int 2,.int 3,.int 10,.int 10006]) (.int i)=some (.int n):=by
 have:i=0\/i=1\/i=2\/i=3\/i=4\/i=5:=by omega
 rcases this with rfl | rfl | rfl | rfl | rfl | rfl
 ·exact ⟨0,⟨by decide,by decide⟩,rfl⟩
 ·exact ⟨1,⟨by decide,by decide⟩,rfl⟩
 ·exact ⟨2,⟨by decide,by decide⟩,rfl⟩
 ·exact ⟨3,⟨by decide,by decide⟩,rfl⟩
 ·exact ⟨10,⟨by decide,by decide⟩,rfl⟩
 ·exact ⟨10006,⟨by decide,by decide⟩,rfl⟩
theorem EM (i:Int) (h0:0<=i) (h1:i < 4):∃ o:Op,aI (.lst [.str "add",.str "sub",.str "mul",.str "less"]) (.int i)=some (.str o.w):=by
 have:i=0\/i=1\/i=2\/i=3:=by omega
 rcases this with rfl | rfl | rfl | rfl
 ·exact ⟨.add,rfl⟩
 ·exact ⟨.sub,rfl⟩
 ·exact ⟨.mul,rfl⟩
 ·exact ⟨.less,rfl⟩
theorem yl (L:Lw T) (ns:List Int) (hl:ns.length<=1000) (p n:Int) (k:Nat) (rest:Sl) (h:HH) (c:drw ns (p+1) 2=0) (en:aI (.lst [.int 0,.int 1,.int 2,.int 3,.int 10,.int 10006]) (.int (drw ns (p+2) 6))=some (.int n)) :
 evS (runN T G (k+2)) G smL (some (.p (.lst (aa ns))) :: some (.p (.int p)) :: rest) h=some (.rt (.p (Sm.num n).enc) h):=by
 have dr:=fun q many (hm:0 < many)=>bV (G:=G) L k ns hl q many hm
 simp[-aM,-fV,smL,dr,c,en,Sm.enc]
theorem ym (L:Lw T) (ns:List Int) (hl:ns.length<=1000) (p:Int) (x:Nm) (k:Nat) (rest:Sl) (h:HH) (c:¬ drw ns (p+1) 2=0) (ex:aI (.str "abcf") (.int (drw ns (p+2) 4))=some (.str x.w)) :
 evS (runN T G (k+2)) G smL (some (.p (.lst (aa ns))) :: some (.p (.int p)) :: rest) h=some (.rt (.p (Sm.nam x).enc) h):=by
 have dr:=fun q many (hm:0 < many)=>bV (G:=G) L k ns hl q many hm
 simp[-aM,-fV,smL,dr,c,ex,Sm.enc]
theorem sW (L:Lw T) (ns:List Int) (hl:ns.length<=1000):∀ (deep:Nat) (p:Int),∃ s:Sm,s.ok/\s.size+1<=2 ^ (deep+1)/\∀ (m:Nat) (h:HH),
 runN T G (m+deep+3) "_law_sum" [.p (.lst (aa ns)),.p (.int p),.p (.int deep)] h=some (.p s.enc,h):=by
 intro deep
 induction deep with
 | zero =>
  intro p
  have dr:=fun m q many (hm:0 < many)=>bV (G:=G) L m ns hl q many hm
  obtain ⟨x,ex⟩:=sU (drw ns (p+2) 4) (b5 _ _ (by decide)) (b6 _ _ (by decide))
  obtain ⟨n,hn,en⟩:=sV (drw ns (p+2) 6) (b5 _ _ (by decide)) (b6 _ _ (by decide))
  have key:∀ (s:Sm) (m:Nat) (h:HH),(∀ rest,evS (runN T G (m+2)) G smL (some (.p (.lst (aa ns))) :: some (.p (.int p)) :: rest) h=some (.rt (.p s.enc) h))->runN T G (m+0+3) "_law_sum" [.p (.lst (aa ns)),.p (.int p),.p (.int ((0:Nat):Int))] h=some (.p s.enc,h):=fun s m h q=>by
   rw[run_eq L.sum rfl]
   simp[bP,dr,q,ah]
  by_cases c:drw ns (p+1) 2=0
  ·exact ⟨.num n,hn,by simp[Sm.size],fun m h=>key _ m h fun rest=>yl L ns hl p n m rest h c en⟩
  ·exact ⟨.nam x,trivial,by simp[Sm.size],fun m h=>key _ m h fun rest=>ym L ns hl p x m rest h c ex⟩
 | succ deep ih =>
  intro p
  have dr:=fun m q many (hm:0 < many)=>bV (G:=G) L m ns hl q many hm
  obtain ⟨x,ex⟩:=sU (drw ns (p+2) 4) (b5 _ _ (by decide)) (b6 _ _ (by decide))
  obtain ⟨n,hn,en⟩:=sV (drw ns (p+2) 6) (b5 _ _ (by decide)) (b6 _ _ (by decide))
  obtain ⟨s,so,ss,sr0⟩:=ih (p*2+5)
  obtain ⟨t,to,tt,tr0⟩:=ih (p*2+19)
  have ee:∀ m,m+(deep+1)+2=m+deep+3:=fun m=>by omega
  have sr:=fun m h=>(ee m).symm ▸ sr0 m h
  have tr:=fun m h=>(ee m).symm ▸ tr0 m h
  have d0:¬ ((deep:Int)+1=0):=by omega
  have d1:((deep:Int)+1 - 1)=deep:=by omega
  have b2:big 2=true:=by decide
  have w0:=b5 ns p (many:=10) (by decide)
  have w1:=b6 ns p (many:=10) (by decide)
  have pw:2 ^ (deep+1+1)=2 ^ (deep+1)+2 ^ (deep+1):=by omega
  by_cases c1:drw ns p 10 < 4
  ·have key:∀ (s:Sm) (m:Nat) (h:HH),(∀ rest,evS (runN T G (m+deep+1+2)) G smL (some (.p (.lst (aa ns))) :: some (.p (.int p)) :: rest) h=some (.rt (.p s.enc) h))->runN T G (m+(deep+1)+3) "_law_sum" [.p (.lst (aa ns)),.p (.int p),.p (.int ((deep+1:Nat):Int))] h=some (.p s.enc,h):=fun s m h q=>by
    rw[run_eq L.sum rfl]
    have dq:=dr (m+(deep+1))
    have q:∀ rest,evS (runN T G (m+(deep+1)+2)) G smL (some (.p (.lst (aa ns))) :: some (.p (.int p)) :: rest) h=some (.rt (.p s.enc) h):=q
    simp[bP,dq,c1,d0,q,ah]
   by_cases c:drw ns (p+1) 2=0
   ·exact ⟨.num n,hn,by simp only[Sm.size];omega,fun m h=>key _ m h fun rest=>yl L ns hl p n (m+deep+1) rest h c en⟩
   ·exact ⟨.nam x,trivial,by simp only[Sm.size];omega,fun m h=>key _ m h fun rest=>ym L ns hl p x (m+deep+1) rest h c ex⟩
  ·by_cases c2:drw ns p 10 < 6
   ·refine ⟨.cell s,so,by simp only[Sm.size];omega,fun m h=>?_⟩
    rw[run_eq L.sum rfl]
    simp[-aM,-fV,bP,smR,dr,c1,c2,d0,d1,b2,sr,ah,Sm.enc]
   ·obtain ⟨o,eo⟩:=EM (drw ns p 10 - 6) (by omega) (by omega)
    refine ⟨.two o s t,⟨so,to⟩,by simp only[Sm.size];omega,fun m h=>?_⟩
    rw[run_eq L.sum rfl]
    simp[-aM,-fV,bP,smR,dr,c1,c2,d0,d1,b2,sr,tr,eo,ah,Sm.enc]
end
end BT
end
section
namespace BT
open PySem
noncomputable def CB:S:=(.ret (.idx (.lst false (.cons (.tup (.cons (.cst (.str "call")) (.cons (.var 4 "_law_place") .nil))) (.cons (.tup (.cons (.cst (.str "call")) (.cons (.var 4 "_law_place") .nil))) (.cons (.tup (.cons (.cst (.str "back")) .nil)) (.cons (.idx (.lst false (.cons (.tup (.cons (.cst (.str "stop")) .nil)) (.cons (.tup (.cons (.cst (.str "back")) .nil)) .nil))) (.bin .mod (.var 4 "_law_place") (.cst (.int 2)))) .nil))))) (.bin .sub (.var 3 "_law_way") (.cst (.int 12)))))
noncomputable def rA3:S:=(.ret (.idx (.lst false (.cons (.tup (.cons (.cst (.str "jump")) (.cons (.var 4 "_law_place") .nil))) (.cons (.tup (.cons (.cst (.str "unless")) (.cons (.var 6 "_law_one") (.cons (.var 4 "_law_place") .nil)))) (.cons (.tup (.cons (.cst (.str "unless")) (.cons (.tup (.cons (.cst (.str "name")) (.cons (.var 5 "_law_name") .nil))) (.cons (.var 4 "_law_place") .nil)))) .nil)))) (.bin .sub (.var 3 "_law_way") (.cst (.int 9)))))
noncomputable def yo:S:=(.seq (.ife (.cmp .lt (.var 3 "_law_way") (.cst (.int 12))) rA3 .nil) CB)
noncomputable def rA2:S:=(.ret (.idx (.lst false (.cons (.tup (.cons (.cst (.str "ask")) (.cons (.var 5 "_law_name") .nil))) (.cons (.tup (.cons (.cst (.str "say")) (.cons (.var 6 "_law_one") .nil))) .nil))) (.bin .sub (.var 3 "_law_way") (.cst (.int 7)))))
noncomputable def sY:S:=(.seq (.ife (.cmp .lt (.var 3 "_law_way") (.cst (.int 9))) rA2 .nil) yo)
noncomputable def rA1:S:=(.ret (.tup (.cons (.cst (.str "put")) (.cons (.call "_law_sum" (.cons (.var 0 "_law_script") (.cons (.bin .add (.var 1 "_law_at") (.cst (.int 9))) (.cons (.cst (.int 1)) .nil)))) (.cons (.var 6 "_law_one") .nil)))))
noncomputable def pO:S:=(.seq (.ife (.cmp .lt (.var 3 "_law_way") (.cst (.int 7))) rA1 .nil) sY)
noncomputable def rA0:S:=(.ret (.tup (.cons (.cst (.str "set")) (.cons (.var 5 "_law_name") (.cons (.var 6 "_law_one") .nil)))))
noncomputable def qM:S:=(.seq (.ife (.cmp .lt (.var 3 "_law_way") (.cst (.int 5))) rA0 .nil) pO)
theorem lE:dW=⟨["_law_script","_law_at","_law_size"],["_law_script","_law_at","_law_size","_law_way","_law_place","_law_name","_law_one"],
 (.seq (.set 3 "_law_way" (.call "_law_drawn" (.cons (.var 0 "_law_script") (.cons (.var 1 "_law_at") (.cons (.cst (.int 16)) .nil)))))
 (.seq (.set 4 "_law_place" (.call "_law_drawn" (.cons (.var 0 "_law_script") (.cons (.bin .add (.var 1 "_law_at") (.cst (.int 1))) (.cons (.bin .add (.var 2 "_law_size") (.cst (.int 1))) .nil)))))
 (.seq (.set 5 "_law_name" (.idx (.cst (.str "abc")) (.call "_law_drawn" (.cons (.var 0 "_law_script") (.cons (.bin .add (.var 1 "_law_at") (.cst (.int 2))) (.cons (.cst (.int 3)) .nil))))))
 (.seq (.set 6 "_law_one" (.call "_law_sum" (.cons (.var 0 "_law_script") (.cons (.bin .add (.var 1 "_law_at") (.cst (.int 3))) (.cons (.cst (.int 2)) .nil)))))
 qM))))⟩:=rfl
section
variable {T:FK->Option Fn}{G:Str->Option W}
theorem Bh (L:Lw T) (ns:List Int) (hl:ns.length<=1000) (p:Int) (size:Nat):∃ r:Rw,r.ok size/\∀ (m:Nat) (h:HH),
 runN T G (m+6) "_law_row" [.p (.lst (aa ns)),.p (.int p),.p (.int size)] h=some (.p r.enc,h):=by
 have dr:=fun m q many (hm:0 < many)=>bV (G:=G) L m ns hl q many hm
 obtain ⟨x,ex⟩:=EL (drw ns (p+2) 3) (b5 _ _ (by decide)) (b6 _ _ (by decide))
 obtain ⟨s,so,ss,sr⟩:=sW (G:=G) L ns hl 2 (p+3)
 obtain ⟨t,to,tt,tr⟩:=sW (G:=G) L ns hl 1 (p+9)
 have w0:=b5 ns p (many:=16) (by decide)
 have w1:=b6 ns p (many:=16) (by decide)
 have sz:(0:Int) < (size:Int)+1:=by omega
 have p0:=b5 ns (p+1) sz
 have p1:=b6 ns (p+1) sz
 obtain ⟨pl,hpl⟩:∃ pl:Nat,drw ns (p+1) ((size:Int)+1)=(pl:Int):=⟨(drw ns (p+1) ((size:Int)+1)).toNat,by omega⟩
 have ple:pl<=size:=by omega
 have sok:kH s:=⟨so,by omega⟩
 have tok:kH t:=⟨to,by omega⟩
 have sr':=fun m h=>sr (m+0) h
 have tr':=fun m h=>tr (m+1) h
 simp at sr' tr'
 have dp:=fun m h=>dr m (p+1) ((size:Int)+1) sz h
 rw[hpl] at dp
 have pre:∀ (m:Nat) (h:HH),runN T G (m+6) "_law_row" [.p (.lst (aa ns)),.p (.int p),.p (.int size)] h =
  iI (evS (runN T G (m+5)) G qM [some (.p (.lst (aa ns))),some (.p (.int p)),some (.p (.int size)),some (.p (.int (drw ns p 16))),some (.p (.int (pl:Int))),some (.p (.str x.w)),some (.p s.enc)] h) (fin h):=fun m h=>by
  rw[run_eq L.row rfl,lE]
  simp[-fV,dp,dr,ex,sr']
 by_cases c1:drw ns p 16 < 5
 ·refine ⟨.set x s,sok,fun m h=>?_⟩
  rw[pre]
  simp[-aM,-fV,qM,rA0,c1,ah,Rw.enc]
 ·by_cases c2:drw ns p 16 < 7
  ·refine ⟨.put t s,⟨tok,sok⟩,fun m h=>?_⟩
   rw[pre]
   simp[-aM,-fV,qM,pO,rA1,tr',c1,c2,ah,Rw.enc]
  ·by_cases c3:drw ns p 16 < 9
   ·obtain ⟨r,ro,ix⟩:∃ r:Rw,r.ok size/\aI (.lst [.tup [.str "ask",.str x.w],.tup [.str "say",s.enc]]) (.int (drw ns p 16 - 7))=some r.enc:=by
     have c:drw ns p 16=7\/drw ns p 16=8:=by omega
     rcases c with c | c<;>rw[c]
     ·exact ⟨.ask x,trivial,rfl⟩
     ·exact ⟨.say s,sok,rfl⟩
    refine ⟨r,ro,fun m h=>?_⟩
    rw[pre]
    simp[-aM,qM,pO,sY,rA2,c1,c2,c3,ix,ah]
   ·by_cases c4:drw ns p 16 < 12
    ·obtain ⟨r,ro,ix⟩:∃ r:Rw,r.ok size/\aI (.lst [.tup [.str "jump",.int pl],.tup [.str "unless",s.enc,.int pl],.tup [.str "unless",.tup [.str "name",.str x.w],.int pl]]) (.int (drw ns p 16 - 9))=some r.enc:=by
      have c:drw ns p 16=9\/drw ns p 16=10\/drw ns p 16=11:=by omega
      rcases c with c | c | c<;>rw[c]
      ·exact ⟨.jump pl,ple,rfl⟩
      ·exact ⟨.unless s pl,⟨sok,ple⟩,rfl⟩
      ·exact ⟨.unless (.nam x) pl,⟨⟨trivial,by simp[Sm.size]⟩,ple⟩,rfl⟩
     refine ⟨r,ro,fun m h=>?_⟩
     rw[pre]
     simp[-aM,qM,pO,sY,yo,rA3,c1,c2,c3,c4,ix,ah]
    ·obtain ⟨u,uo,iu⟩:∃ u:Rw,u.ok size/\aI (.lst [.tup [.str "stop"],.tup [.str "back"]]) (.int ((pl:Int) % 2))=some u.enc:=by
      have z:(pl:Int) % 2=0\/(pl:Int) % 2=1:=by omega
      rcases z with z | z<;>rw[z]
      ·exact ⟨.stop,trivial,rfl⟩
      ·exact ⟨.back,trivial,rfl⟩
     obtain ⟨r,ro,ix⟩:∃ r:Rw,r.ok size/\aI (.lst [.tup [.str "call",.int pl],.tup [.str "call",.int pl],.tup [.str "back"],u.enc]) (.int (drw ns p 16 - 12))=some r.enc:=by
      have c:drw ns p 16=12\/drw ns p 16=13\/drw ns p 16=14\/drw ns p 16=15:=by omega
      rcases c with c | c | c | c<;>rw[c]
      ·exact ⟨.call pl,ple,rfl⟩
      ·exact ⟨.call pl,ple,rfl⟩
      ·exact ⟨.back,trivial,rfl⟩
      ·exact ⟨u,uo,rfl⟩
     refine ⟨r,ro,fun m h=>?_⟩
     rw[pre]
     simp[-aM,qM,pO,sY,yo,CB,c1,c2,c3,c4,iu,ix,ah]
theorem comp_map (f:List D->HH->Option (Option D×HH)) (g:D->D):∀ (ds:List D) (h:HH),(∀ d∈ds,∀ h,f [d] h=some (some (g d),h))->eZ f 1 ds h=some (ds.map g,h):=by
 intro ds
 induction ds with
 | nil=>intro h _;rfl
 | cons d r ih =>
  intro h hf
  have e1:=hf d Nh h
  have e2:=ih h fun x hx=>hf x (M8 _ hx)
  rw[eZ,jZ]
  simp[e1,e2]
theorem pP {n:Nat}{d:D} (h:d∈upto 0 n):∃ k:Nat,k < n/\d=.int k:=by
 simp[upto] at h
 obtain ⟨k,hk,e⟩:=h
 exact ⟨k,hk,e.symm⟩
theorem pQ (n:Nat) (g:D->D):(upto 0 n).map g=(Nv n).map fun (k:Nat)=>g (.int k):=by
 simp[upto,Function.comp_def]
noncomputable def Bj:E:=.idx (.lst false (.cons (.cst (.int 0)) (.cons (.cst (.int 1)) (.cons (.cst (.int 5)) (.cons (.cst (.int 10006)) .nil))))) (.call "_law_drawn" (.cons (.var 1 "_law_script") (.cons (.bin .add (.bin .add (.var 2 "_law_at") (.cst (.int 1))) (.var 0 "_law_k")) (.cons (.cst (.int 4)) .nil))))
theorem jA:cK=⟨["_law_script","_law_at"],["_law_script","_law_at"],.ret (.comp false .rng1 (.cons (.call "_law_drawn" (.cons (.var 0 "_law_script") (.cons (.var 1 "_law_at") (.cons (.cst (.int 4)) .nil)))) .nil) ["_law_k"] [(0,"_law_script"),(1,"_law_at")] .nil Bj)⟩:=rfl
theorem u0 (L:Lw T) (ns:List Int) (hl:ns.length<=1000) (p:Int):∃ asked:List Int,Ask asked/\asked.length<=3/\∀ (m:Nat) (h:HH),
 runN T G (m+3) "_law_asked" [.p (.lst (aa ns)),.p (.int p)] h=some (.p (.lst (aa asked)),h):=by
 have dr:=fun m q many (hm:0 < many)=>bV (G:=G) L m ns hl q many hm
 have at4:∀ i:Int,0<=i->i < 4->∃ n:Int,Wth n/\aI (.lst [.int 0,.int 1,.int 5,.int 10006]) (.int i)=some (.int n):=by
  intro i h0 h1
  have:i=0\/i=1\/i=2\/i=3:=by omega
  rcases this with rfl | rfl | rfl | rfl
  ·exact ⟨0,⟨by decide,by decide⟩,rfl⟩
  ·exact ⟨1,⟨by decide,by decide⟩,rfl⟩
  ·exact ⟨5,⟨by decide,by decide⟩,rfl⟩
  ·exact ⟨10006,⟨by decide,by decide⟩,rfl⟩
 have ch:∀ k:Nat,∃ n:Int,Wth n/\aI (.lst [.int 0,.int 1,.int 5,.int 10006]) (.int (drw ns (p+1+k) 4))=some (.int n):=fun k =>
  at4 _ (b5 _ _ (by decide)) (b6 _ _ (by decide))
 obtain ⟨g,hg⟩:=QA ch
 have w0:=b5 ns p (many:=4) (by decide)
 have w1:=b6 ns p (many:=4) (by decide)
 refine ⟨(Nv (drw ns p 4).toNat).map g,?_,by simp;omega,fun m h=>?_⟩
 ·intro x hx
  simp at hx
  obtain ⟨k,_,rfl⟩:=hx
  exact (hg k).1
 ·rw[run_eq L.asked rfl,jA]
  have c1:drw ns p 4<=100000:=by omega
  have c0:-100000<=drw ns p 4:=by omega
  have he:∀ (k:Nat) (h:HH),ev (runN T G (m+2)) G Bj [some (.p (.int k)),some (.p (.lst (aa ns))),some (.p (.int p))] h=some (.p (.int (g k)),h):=fun k h=>by
   have e:=(hg k).2
   simp[-aM,Bj,dr,e]
  have cm:=comp_map (j4 (fun _ h=>some ([],h)) (ev (runN T G (m+2)) G Bj) [some (.p (.lst (aa ns))),some (.p (.int p))]) (fun d=>match d with | .int k=>.int (g k.toNat) | _=>.non) (upto 0 (drw ns p 4).toNat) h (by
   intro d hd h
   obtain ⟨k,hk,rfl⟩:=pP hd
   simp[fK,he])
  have ln:(drw ns p 4).toNat<=100000:=by omega
  rw[pQ] at cm
  have cm':(Nv (drw ns p 4).toNat).map (fun (k:Nat)=>match D.int (k:Int) with | .int k=>D.int (g k.toNat) | _=>.non)=aa ((Nv (drw ns p 4).toNat).map g):=by simp[aa,Function.comp_def]
  rw[cm'] at cm
  simp[dr,c0,c1,cm,bJ,ln,ah,jw]
noncomputable def yp:E:=.call "_law_row" (.cons (.var 1 "_law_script") (.cons (.bin .add (.bin .add (.var 2 "_law_at") (.cst (.int 10))) (.bin .mul (.cst (.int 40)) (.var 0 "_law_k"))) (.cons (.var 3 "_law_size") .nil)))
structure Drawn (p:Pg):Prop where
 ok:Pg.ok p
 lo:1<=p.length
 hi:p.length<=9
noncomputable def gn (n:Int) (o:Op):Pg:=[.ask .a,.call 4,.say (.nam .a),.jump 0,.put (.nam .a) (.num n),.call 7,.back,.set .b (.two o (.nam .b) (.nam .a)),.back]
theorem nT (n:Int) (o:Op) (h:Wth n):Drawn (gn n o):=by
 refine ⟨?_,by simp[gn],by simp[gn]⟩
 intro r hr
 simp only[gn,NY,ND,or_false] at hr
 rcases hr with rfl | rfl | rfl | rfl | rfl | rfl | rfl | rfl | rfl<;>simp[Rw.ok,gn,kH,Sm.ok,Sm.size,h]
theorem kI (L:Lw T)
 (ns:List Int) (hl:ns.length<=1000) (p:Int)
 (run1:∀ (m:Nat) (h:HH) (n:Int) (o:Op),drw ns (p+1) 4=0->n=drw ns (p+2) 9->aI (.lst [.str "add",.str "sub"]) (.int (drw ns (p+3) 2))=some (.str o.w) →
  (∀ m q many,0 < many->∀ h,runN T G (m+2) "_law_drawn" [.p (.lst (aa ns)),.p (.int q),.p (.int many)] h=some (.p (.int (drw ns q many)),h)) →
  runN T G (m+7) "_law_program" [.p (.lst (aa ns)),.p (.int p)] h=some (.p (bw (gn n o)),h))
 (run2:∀ (m:Nat) (h:HH) (pg:Pg),drw ns (p+1) 4≠0->pg.length=(1+drw ns p 9).toNat →
  (∀ m q many,0 < many->∀ h,runN T G (m+2) "_law_drawn" [.p (.lst (aa ns)),.p (.int q),.p (.int many)] h=some (.p (.int (drw ns q many)),h)) →
  (∀ h,eZ (j4 (fun _ h=>some ([],h)) (ev (runN T G (m+6)) G yp) [some (.p (.lst (aa ns))),some (.p (.int p)),some (.p (.int (1+drw ns p 9)))]) 1 (upto 0 (1+drw ns p 9).toNat) h=some (pg.map Rw.enc,h)) →
  runN T G (m+7) "_law_program" [.p (.lst (aa ns)),.p (.int p)] h=some (.p (bw pg),h)) :
 ∃ pg:Pg,Drawn pg/\∀ (m:Nat) (h:HH),runN T G (m+7) "_law_program" [.p (.lst (aa ns)),.p (.int p)] h=some (.p (bw pg),h):=by
 have dr:=fun m q many (hm:0 < many)=>bV (G:=G) L m ns hl q many hm
 by_cases c:drw ns (p+1) 4=0
 ·have d0:=b5 ns (p+3) (many:=2) (by decide)
  have d1:=b6 ns (p+3) (many:=2) (by decide)
  have e0:=b5 ns (p+2) (many:=9) (by decide)
  have e1:=b6 ns (p+2) (many:=9) (by decide)
  have z:drw ns (p+3) 2=0\/drw ns (p+3) 2=1:=by omega
  have:∃ o:Op,aI (.lst [.str "add",.str "sub"]) (.int (drw ns (p+3) 2))=some (.str o.w):=by
   rcases z with z | z<;>rw[z]
   ·exact ⟨.add,rfl⟩
   ·exact ⟨.sub,rfl⟩
  obtain ⟨o,eo⟩:=this
  exact ⟨gn (drw ns (p+2) 9) o,nT _ _ ⟨by omega,by omega⟩,fun m h=>run1 m h _ o c rfl eo dr⟩
 ·have d0:=b5 ns p (many:=9) (by decide)
  have d1:=b6 ns p (many:=9) (by decide)
  obtain ⟨sz,hsz⟩:∃ sz:Nat,1+drw ns p 9=(sz:Int):=⟨(1+drw ns p 9).toNat,by omega⟩
  have ch:∀ k:Nat,∃ r:Rw,r.ok sz/\∀ (m:Nat) (h:HH),runN T G (m+6) "_law_row" [.p (.lst (aa ns)),.p (.int (p+10+40*(k:Int))),.p (.int sz)] h=some (.p r.enc,h) :=
   fun k=>Bh L ns hl _ sz
  obtain ⟨g,hg⟩:=QA ch
  refine ⟨(Nv sz).map g,⟨?_,by simp;omega,by simp;omega⟩,fun m h=>run2 m h _ c (by simp;omega) dr fun h=>?_⟩
  ·intro r hr
   simp at hr
   obtain ⟨k,_,rfl⟩:=hr
   simpa using (hg k).1
  ·rw[hsz]
   have b:big 40=true:=by decide
   have he:∀ (k:Nat) (h:HH),ev (runN T G (m+6)) G yp [some (.p (.int k)),some (.p (.lst (aa ns))),some (.p (.int p)),some (.p (.int sz))] h=some (.p (g k).enc,h):=fun k h=>by
    have e:=(hg k).2
    simp[yp,e,b]
   have cm:=comp_map (j4 (fun _ h=>some ([],h)) (ev (runN T G (m+6)) G yp) [some (.p (.lst (aa ns))),some (.p (.int p)),some (.p (.int sz))]) (fun d=>match d with | .int k=>(g k.toNat).enc | _=>.non) (upto 0 sz) h (by
    intro d hd h
    obtain ⟨k,hk,rfl⟩:=pP hd
    simp[fK,he])
   rw[pQ] at cm
   simp only[Int.toNat_natCast,Qm]
   rw[cm]
   rfl
end
end BT
end
section
namespace BT
open PySem
section
variable {T:FK->Option Fn}{G:Str->Option W}
noncomputable def prB:S:=(.ret (.bi .tuple false (.cons (.comp false .rng1 (.cons (.var 2 "_law_size") .nil) ["_law_k"] [(0,"_law_script"),(1,"_law_at"),(2,"_law_size")] .nil yp) .nil)))
mutual
theorem pR:∀ d:D,eqv d d=true
 | .non=>rfl
 | .bl b=>by simp
 | .int i=>by simp
 | .str x=>by simp
 | .tup xs=>by simp[gD xs]
 | .lst xs=>by simp[gD xs]
theorem gD:∀ ds:List D,kY ds ds=true
 | []=>rfl
 | d :: r=>by simp[pR d,gD r]
end
theorem kJ (n:Nat) (xs:List Int):(aa xs).all (dok n)=true:=by simp[aa,NX]
theorem pS (n:Nat) (xs:List Nat):(aA xs).all (dok n)=true:=by simp[aA,NX]
@[simp] theorem EN (ds:List D):kY ds ds=true:=gD ds
@[simp] theorem FO (d:D):eqv d d=true:=pR d
@[simp] theorem FP (x:D) (xs:List Int):aU x (.tup (aa xs))=true:=fJ (kJ 99 xs)
@[simp] theorem FQ (x:D) (xs:List Nat):aU x (.tup (aA xs))=true:=fJ (pS 99 xs)
@[simp] theorem HP (x:D) (xs ys:List Int):aU x (.tup [.tup (aa xs),.tup (aa ys)])=true:=fJ (by simp[kJ])
end
end BT
end
section
namespace BT
open PySem
section
variable {T:FK->Option Fn}{G:Str->Option W}
noncomputable def HQ:S:=(.seq (.set 3 "_law_put_here" (.tup (.cons (.cst (.str "put")) (.cons (.tup (.cons (.cst (.str "name")) (.cons (.cst (.str "a")) .nil))) (.cons (.tup (.cons (.cst (.str "num")) (.cons (.call "_law_drawn" (.cons (.var 0 "_law_script") (.cons (.bin .add (.var 1 "_law_at") (.cst (.int 2))) (.cons (.cst (.int 9)) .nil)))) .nil))) .nil)))))
 (.seq (.set 4 "_law_sign" (.idx (.lst false (.cons (.cst (.str "add")) (.cons (.cst (.str "sub")) .nil))) (.call "_law_drawn" (.cons (.var 0 "_law_script") (.cons (.bin .add (.var 1 "_law_at") (.cst (.int 3))) (.cons (.cst (.int 2)) .nil))))))
 (.seq (.set 5 "_law_rows" (.tup (.cons (.tup (.cons (.cst (.str "ask")) (.cons (.cst (.str "a")) .nil))) (.cons (.tup (.cons (.cst (.str "call")) (.cons (.cst (.int 4)) .nil))) (.cons (.tup (.cons (.cst (.str "say")) (.cons (.tup (.cons (.cst (.str "name")) (.cons (.cst (.str "a")) .nil))) .nil))) (.cons (.tup (.cons (.cst (.str "jump")) (.cons (.cst (.int 0)) .nil))) (.cons (.var 3 "_law_put_here") .nil)))))))
 (.ret (.bin .add (.var 5 "_law_rows") (.tup (.cons (.tup (.cons (.cst (.str "call")) (.cons (.cst (.int 7)) .nil))) (.cons (.tup (.cons (.cst (.str "back")) .nil)) (.cons (.tup (.cons (.cst (.str "set")) (.cons (.cst (.str "b")) (.cons (.tup (.cons (.var 4 "_law_sign") (.cons (.tup (.cons (.cst (.str "name")) (.cons (.cst (.str "b")) .nil))) (.cons (.tup (.cons (.cst (.str "name")) (.cons (.cst (.str "a")) .nil))) .nil)))) .nil)))) (.cons (.tup (.cons (.cst (.str "back")) .nil)) .nil))))))))))
noncomputable def aP:Fn:=⟨["_law_script","_law_at"],["_law_script","_law_at","_law_size","_law_put_here","_law_sign","_law_rows"],
 (.seq (.set 2 "_law_size" (.bin .add (.cst (.int 1)) (.call "_law_drawn" (.cons (.var 0 "_law_script") (.cons (.var 1 "_law_at") (.cons (.cst (.int 9)) .nil))))))
 (.seq (.ife (.cmp .eq (.call "_law_drawn" (.cons (.var 0 "_law_script") (.cons (.bin .add (.var 1 "_law_at") (.cst (.int 1))) (.cons (.cst (.int 4)) .nil)))) (.cst (.int 0))) HQ .nil)
 prB))⟩
theorem nU (L:Lw T) (hP:T "_law_program"=some aP) (ns:List Int) (hl:ns.length<=1000) (p:Int) :
 ∃ pg:Pg,Drawn pg/\∀ (m:Nat) (h:HH),runN T G (m+7) "_law_program" [.p (.lst (aa ns)),.p (.int p)] h=some (.p (bw pg),h):=by
 refine kI L ns hl p (fun m h n o c en eo dr=>?_) (fun m h pg c el dr cm=>?_)
 ·rw[run_eq hP rfl]
  have d:=fun q many hm h=>dr (m+4) q many hm h
  rw[aP]
  simp[-aM,HQ,d,c,eo,ah,bw,gn,Rw.enc,Sm.enc,← en,Nm.w]
 ·rw[run_eq hP rfl]
  have d:=fun q many hm h=>dr (m+4) q many hm h
  have d0:=b5 ns p (many:=9) (by decide)
  have d1:=b6 ns p (many:=9) (by decide)
  have c0:-100000<=1+drw ns p 9:=by omega
  have c1:1+drw ns p 9<=100000:=by omega
  have c2:pg.length<=100000:=by omega
  have cm':=cm h
  rw[aP]
  simp[-j4,prB,d,c,c0,c1,c2,cm',ah,bw,jw]
end
end BT
end
section
namespace BT
open PySem
section
variable {T:FK->Option Fn}{G:Str->Option W}
theorem qN (x:Nm):On (MU "abcdef") (MU x.w) 0 (MU "abcdef").length 1=[x.ix]:=by
 cases x<;>decide +kernel
theorem gJ (x:Nm):meD .sindex (.str "abcdef") [.str x.w]=some (.int x.ix):=by
 have o:=qN x
 rw[v8,o]
theorem ix0 (a:D) (r:List D):aI (.tup (a :: r)) (.int 0)=some a:=by simp
theorem ix1 (a b:D) (r:List D):aI (.tup (a :: b :: r)) (.int 1)=some b:=by
 have:(1:Int) < (r.length:Int)+1+1:=by omega
 simp[this]
theorem ix2 (a b c:D) (r:List D):aI (.tup (a :: b :: c :: r)) (.int 2)=some c:=by
 have:(2:Int) < (r.length:Int)+1+1+1:=by omega
 simp[this]
theorem nV (d:D):∀ k:Nat,rep k [d]=MY k d
 | 0=>rfl
 | k+1=>by
  have:=nV d k
  unfold rep at this ⊢
  rw[NB,N8,this,NB];rfl
@[simp] theorem Ls (st:St):mX st.enc (some 1) (some 3)=some (.tup [.tup (aa st.names),.tup (aa st.cells)]):=rfl
theorem qO (p:Pg) (asked:List Int) (st:St):(step p asked st).asked<=st.asked+1:=by
 unfold step
 cases p[st.row]? with
 | none=>simp
 | some r=>cases r<;>simp[Rw.next]
end
end BT
end
section
namespace BT
open PySem
structure InP (p:Pg) (st:St):Prop where
 row:st.row<=p.length
 calls:∀ c∈st.calls,c<=p.length
theorem yq (p:Pg):InP p St.zero:=⟨Od _,by simp[St.zero]⟩
theorem yr {p:Pg}{asked:List Int}{st:St} (hp:Pg.ok p) (h:InP p st) (hb:over p st=false):InP p (step p asked st):=by
 have c:st.row < p.length:=by
  rcases M4 st.row p.length with q | q
  ·exact q
  ·rw[over,MS q] at hb;cases hb
 have e:p[st.row]?=some p[st.row]:=MT c
 have hr:=hp _ (OM c)
 have hb':(p[st.row]).over st=false:=by rw[over,e] at hb;exact hb
 rw[step,e]
 dsimp only
 revert hr hb'
 generalize p[st.row]=r
 intro hr hb'
 cases r with
 | jump q=>exact ⟨hr,h.calls⟩
 | «unless» s q =>
  refine ⟨?_,h.calls⟩
  simp only[Rw.next]
  split
  ·exact hr.2
  ·exact c
 | call q =>
  refine ⟨hr,fun x hx=>?_⟩
  simp only[Rw.next,List.mem_append,R6] at hx
  rcases hx with hx | rfl
  ·exact h.calls x hx
  ·exact c
 | back =>
  have cn:st.calls≠[]:=by
   intro e;simp[Rw.over,e] at hb'
  have ec:st.calls=st.calls.dropLast++[st.calls.getLast cn]:=(OR cn).symm
  refine ⟨?_,fun x hx=>h.calls x (by rw[ec];exact N6 _ hx)⟩
  simp only[Rw.next]
  rw[ec]
  simp only[List.getLast?_append,List.getLast?_singleton,Option.some_or,Qh]
  exact h.calls _ (List.getLast_mem cn)
 | stop=>simp[Rw.over] at hb'
 | _=>exact ⟨c,h.calls⟩
theorem yt (n:Nat) (st:St):dok (n+2) st.enc=true:=by
 simp[St.enc,rH,kJ,pS]
theorem Bk (L:List St):dok 100 (.lst (L.map St.enc))=true:=by
 rw[rJ,NX]
 intro d hd
 simp at hd
 obtain ⟨st,_,rfl⟩:=hd
 exact yt 97 st
@[simp] theorem JO (x:D) (st:St):aU x st.enc=true:=fJ (yt 98 st)
@[simp] theorem HR (x:D) (L:List St):aU x (.lst (L.map St.enc))=true:=fJ (Bk L)
end BT
end
section
namespace BT
open PySem
noncomputable def itr (p:Pg) (asked:List Int):Nat->St
 | 0=>St.zero
 | n+1=>step p asked (itr p asked n)
structure Run (p:Pg) (asked:List Int) (most e:Nat):Prop where
 le:e<=most
 on:∀ i,i < e->over p (itr p asked i)=false
 last:e=most\/over p (itr p asked e)=true
theorem yu (p:Pg) (asked:List Int):∀ (r j:Nat),∃ e,e<=r/\sts p asked r (itr p asked j)=(Nv (e+1)).map (fun i=>itr p asked (j+i))/\(∀ i,i < e->over p (itr p asked (j+i))=false)/\(e=r\/over p (itr p asked (j+e))=true)
 | 0,j=>⟨0,MR _,rfl,fun i hi=>absurd hi (QJ _),.inl rfl⟩
 | r+1,j=>by
  rw[sts]
  by_cases c:over p (itr p asked j)=true
  ·rw[if_pos c]
   exact ⟨0,Od _,rfl,fun i hi=>absurd hi (QJ _),.inr c⟩
  ·rw[if_neg c]
   obtain ⟨e,h1,h2,h3,h4⟩:=yu p asked r (j+1)
   have c':over p (itr p asked j)=false:=by simpa using c
   refine ⟨e+1,by omega,?_,fun i hi=>?_,?_⟩
   ·show itr p asked j :: sts p asked r (itr p asked (j+1))=_
    rw[h2,Pp (n:=e+1),M9,Qm]
    congr 1
    apply OY
    intro i _
    show itr p asked (j+1+i)=itr p asked (j+(i+1))
    congr 1;omega
   ·cases i with
    | zero=>exact c'
    | succ i =>
     have:=h3 i (by omega)
     rw[show j+(i+1)=j+1+i by omega];exact this
   ·rcases h4 with h4 | h4
    ·exact .inl (by omega)
    ·exact .inr (by rw[show j+(e+1)=j+1+e by omega];exact h4)
theorem Bl (p:Pg) (asked:List Int) (most:Nat):∃ e,Run p asked most e/\sts p asked most St.zero=(Nv (e+1)).map (itr p asked):=by
 obtain ⟨e,h1,h2,h3,h4⟩:=yu p asked most 0
 refine ⟨e,⟨h1,fun i hi=>by have:=h3 i hi;simpa using this,by simpa using h4⟩,?_⟩
 have:sts p asked most St.zero=sts p asked most (itr p asked 0):=rfl
 rw[this,h2]
 apply OY
 intro i _
 simp
theorem qP {p:Pg}{asked:List Int}{most e:Nat} (hp:Pg.ok p) (ha:Ask asked) (R:Run p asked most e):∀ i,i<=e->At i (itr p asked i)
 | 0,_=>sP
 | i+1,h=>sQ hp ha (qP hp ha R i (by omega)) (R.on i (by omega))
structure Tp where
 p:Pg
 asked:List Int
 gap:Nat
 most:Nat
 kept:List St
 far:Nat
 front:St
 now:Nat
noncomputable def Tp.fs (t:Tp) (r:Nat):List (Str×W):=[("program",.p (bw t.p)),("asked",.p (.lst (aa t.asked))),("gap",.p (.int t.gap)),("most",.p (.int t.most)),("kept",.r r),("farthest",.p (.int t.far)),("front",.p t.front.enc),("now",.p (.int t.now))]
section
variable (t:Tp) (r:Nat)
@[simp] theorem EO:aX "program" (t.fs r)=some (.p (bw t.p)):=by simp[Tp.fs]
@[simp] theorem HS:aX "asked" (t.fs r)=some (.p (.lst (aa t.asked))):=by simp[Tp.fs]
@[simp] theorem Lu:aX "gap" (t.fs r)=some (.p (.int t.gap)):=by simp[Tp.fs]
@[simp] theorem JP:aX "most" (t.fs r)=some (.p (.int t.most)):=by simp[Tp.fs]
@[simp] theorem Bm:aX "kept" (t.fs r)=some (.r r):=by simp[Tp.fs]
@[simp] theorem Lv:aX "farthest" (t.fs r)=some (.p (.int t.far)):=by simp[Tp.fs]
@[simp] theorem HU:aX "front" (t.fs r)=some (.p t.front.enc):=by simp[Tp.fs]
@[simp] theorem Lx:aX "now" (t.fs r)=some (.p (.int t.now)):=by simp[Tp.fs]
@[simp] theorem Ly:(t.fs r).length=8:=rfl
theorem Bo (v:Nat):bz "gap" (.p (.int v)) (t.fs r)=({ t with gap:=v }:Tp).fs r:=by simp[Tp.fs]
theorem yv (r':Nat):bz "kept" (.r r') (t.fs r)=t.fs r':=by simp[Tp.fs]
theorem Bp (v:Nat):bz "farthest" (.p (.int v)) (t.fs r)=({ t with far:=v }:Tp).fs r:=by simp[Tp.fs]
theorem u5 (v:St):bz "front" (.p v.enc) (t.fs r)=({ t with front:=v }:Tp).fs r:=by simp[Tp.fs]
theorem nW (v:Nat):bz "now" (.p (.int v)) (t.fs r)=({ t with now:=v }:Tp).fs r:=by simp[Tp.fs]
theorem bW {m:String} (h:(["program","asked","gap","most","kept","farthest","front","now"]:List String).contains m=false):aX m (t.fs r)=none:=by
 simp only[R8,List.contains_nil,Pi,Bool.or_eq_false_iff,beq_eq_false_iff_ne,ne_eq] at h
 obtain ⟨h1,h2,h3,h4,h5,h6,h7,h8⟩:=h
 simp[Tp.fs,h1,h2,h3,h4,h5,h6,h7,h8]
end
structure TAt (h:HH) (n r:Nat) (t:Tp):Prop where
 ob:oat h n=some (MU "Tape",t.fs r)
 li:lat h r=some (t.kept.map St.enc)
theorem jh {h:HH}{n:Nat}{q:Str×List (Str×W)} (e:oat h n=some q):n < h.length:=by
 unfold oat at e
 rcases M4 n h.length with z | z
 ·exact z
 ·rw[MS z] at e;cases e
theorem kK {h:HH}{n:Nat}{q:List D} (e:lat h n=some q):n < h.length:=by
 unfold lat at e
 rcases M4 n h.length with z | z
 ·exact z
 ·rw[MS z] at e;cases e
theorem sZ {h:HH}{n r:Nat}{q:Str×List (Str×W)}{xs:List D} (e:oat h n=some q) (e':lat h r=some xs):n≠r:=by
 rintro rfl
 unfold oat at e
 unfold lat at e'
 cases g:h[n]? with
 | none=>rw[g] at e;cases e
 | some c=>rw[g] at e e';cases c<;>simp at e e'
theorem iU {h:HH}{n:Nat} (hn:n < h.length) (c:Cl):oat (h.set n c) n=oN c:=by
 unfold oat;rw[Nz hn];rfl
theorem qQ {h:HH}{n i:Nat} (hn:i≠n) (c:Cl):oat (h.set n c) i=oat h i:=by
 unfold oat;rw[Nl (Ne.symm hn)]
theorem yw {h:HH}{n:Nat} (hn:n < h.length) (c:Cl):lat (h.set n c) n=mV c:=by
 unfold lat;rw[Nz hn];rfl
theorem kL {h:HH}{n i:Nat} (hn:i≠n) (c:Cl):lat (h.set n c) i=lat h i:=by
 unfold lat;rw[Nl (Ne.symm hn)]
theorem yx {h h':HH}{i:Nat} (e:h'[i]?=h[i]?):lat h' i=lat h i:=by unfold lat;rw[e]
theorem qR {h h':HH}{i:Nat} (e:h'[i]?=h[i]?):oat h' i=oat h i:=by unfold oat;rw[e]
theorem Bq {h g:HH}{i:Nat} (hi:i < h.length):lat (h++g) i=lat h i:=yx (MO hi)
theorem tw {h g:HH}{i:Nat} (hi:i < h.length):oat (h++g) i=oat h i:=qR (MO hi)
structure Go (n:Nat) (h:HH) (r:Nat) (t:Tp) (h':HH) (r':Nat) (t':Tp):Prop where
 a:TAt h n r t
 b:TAt h' n r' t'
 len:(h'.length=h.length/\r'=r)\/(h.length<=r')
 le:h.length<=h'.length
 fr:∀ i,i≠n->i≠r->i < h.length->h'[i]?=h[i]?
theorem Go.refl {n:Nat}{h:HH}{r:Nat}{t:Tp} (a:TAt h n r t):Go n h r t h r t:=⟨a,a,.inl ⟨rfl,rfl⟩,MR _,fun _ _ _ _=>rfl⟩
theorem Go.trans {n:Nat}{h h1 h2:HH}{r r1 r2:Nat}{t t1 t2:Tp} (x:Go n h r t h1 r1 t1) (y:Go n h1 r1 t1 h2 r2 t2):Go n h r t h2 r2 t2:=by
 refine ⟨x.a,y.b,?_,Nq x.le y.le,fun i h1 h2 h3=>?_⟩
 ·rcases x.len with ⟨a1,a2⟩ | a1
  ·rcases y.len with ⟨b1,b2⟩ | b1
   ·exact .inl ⟨b1.trans a1,b2.trans a2⟩
   ·exact .inr (by omega)
  ·rcases y.len with ⟨b1,b2⟩ | b1
   ·exact .inr (by omega)
   ·exact .inr (by have:=x.le;omega)
 ·have:i≠r1:=by
   rcases x.len with ⟨a1,a2⟩ | a1
   ·rw[a2];exact h2
   ·omega
  rw[y.fr i h1 this (by have:=x.le;omega)]
  exact x.fr i h1 h2 h3
theorem Go.other {n m:Nat}{h h':HH}{r r' s:Nat}{t t' u:Tp} (x:Go n h r t h' r' t') (o:TAt h m s u) (hm:m≠n) (hs:s≠r):TAt h' m s u/\s≠r':=by
 have mr:m≠r:=sZ o.ob x.a.li
 have sn:s≠n:=(sZ x.a.ob o.li).symm
 refine ⟨⟨(qR (x.fr m hm mr (jh o.ob))).trans o.ob,(yx (x.fr s sn hs (kK o.li))).trans o.li⟩,?_⟩
 rcases x.len with ⟨a1,a2⟩ | a1
 ·rw[a2];exact hs
 ·have:=kK o.li;omega
theorem cz {n:Nat}{h h':HH}{r r':Nat}{t t':Tp} (x:Go n h r t h' r' t') (w:W):fin h w h'=some (w,h'):=by
 unfold fin
 by_cases c:h'.length=h.length
 ·rw[if_pos c]
 ·rw[if_neg c]
  rw[if_neg]
  intro z
  rcases x.len with ⟨a1,a2⟩ | a1
  ·exact c a1
  ·have hn:=jh x.a.ob
   have e:h'[n]?=h[n]?:=by
    have q:=Ou (l:=h') hn
    rw[z] at q
    exact q.symm
   have e2:oat h' n=oat h n:=qR e
   rw[x.a.ob,x.b.ob] at e2
   have e3:=congrArg (fun q:Option (Str×List (Str×W))=>q.bind fun y=>aX "kept" y.2) e2
   simp only[Pb,Bm,OT,W.r.injEq] at e3
   have:=kK x.a.li
   omega
end BT
end
section
namespace BT
open PySem
noncomputable def dz:Fn:=⟨["thing"],["thing"],
 (.ret (.and (.bi .isInt false (.cons (.var 0 "thing") .nil)) (.not (.bi .isBool false (.cons (.var 0 "thing") .nil)))))⟩
noncomputable def cL:Fn:=⟨["self","program","asked","every","most"],["self","program","asked","every","most"],
 (.seq (.setf (.var 0 "self") "program" (.var 1 "program"))
 (.seq (.setf (.var 0 "self") "asked" (.bi .list false (.cons (.var 2 "asked") .nil)))
 (.seq (.setf (.var 0 "self") "gap" (.bi .max2 false (.cons (.var 3 "every") (.cons (.cst (.int 1)) .nil))))
 (.seq (.setf (.var 0 "self") "most" (.bi .max2 false (.cons (.var 4 "most") (.cons (.cst (.int 0)) .nil))))
 (.seq (.setf (.var 0 "self") "kept" (.lst true (.cons (.call "begun" .nil) .nil)))
 (.seq (.setf (.var 0 "self") "farthest" (.cst (.int 0)))
 (.seq (.setf (.var 0 "self") "front" (.call "begun" .nil))
 (.setf (.var 0 "self") "now" (.cst (.int 0))))))))))⟩
noncomputable def cZ:Fn:=⟨["self","moment"],["self","moment","state","step"],
 (.seq (.ex (.meth (.var 0 "self") "check" (.cons (.var 1 "moment") .nil)))
 (.seq (.set 2 "state" (.idx (.fld (.var 0 "self") "kept") (.bin .fdiv (.var 1 "moment") (.fld (.var 0 "self") "gap"))))
 (.seq (.for [(3,"step")] .rng1 (.cons (.bin .mod (.var 1 "moment") (.fld (.var 0 "self") "gap")) .nil) (.set 2 "state" (.meth (.var 0 "self") "behind" (.cons (.var 2 "state") .nil))))
 (.ret (.var 2 "state")))))⟩
noncomputable def dB:Fn:=⟨["self"],["self"],
 (.seq (.ex (.meth (.var 0 "self") "reach" (.cons (.fld (.var 0 "self") "most") .nil)))
 (.ret (.fld (.var 0 "self") "farthest")))⟩
noncomputable def bQ:Fn:=⟨["self"],["self"],
 (.ret (.fld (.var 0 "self") "now"))⟩
noncomputable def b8:Fn:=⟨["self"],["self"],
 (.ret (.meth (.var 0 "self") "at" (.cons (.fld (.var 0 "self") "now") .nil)))⟩
noncomputable def c5:Fn:=⟨["self","moment"],["self","moment"],
 (.seq (.ex (.meth (.var 0 "self") "check" (.cons (.var 1 "moment") .nil)))
 (.setf (.var 0 "self") "now" (.var 1 "moment")))⟩
noncomputable def dX:Fn:=⟨["self","many"],["self","many","steps"],
 (.seq (.set 2 "steps" (.bi .min2 false (.cons (.bi .max2 false (.cons (.var 1 "many") (.cons (.cst (.int 0)) .nil))) (.cons (.bin .sub (.meth (.var 0 "self") "end" .nil) (.fld (.var 0 "self") "now")) .nil))))
 (.seq (.augf (.var 0 "self") "now" .add (.var 2 "steps"))
 (.ret (.var 2 "steps"))))⟩
noncomputable def cM:Fn:=⟨["self","many"],["self","many","steps"],
 (.seq (.set 2 "steps" (.bi .min2 false (.cons (.bi .max2 false (.cons (.var 1 "many") (.cons (.cst (.int 0)) .nil))) (.cons (.fld (.var 0 "self") "now") .nil))))
 (.seq (.augf (.var 0 "self") "now" .sub (.var 2 "steps"))
 (.ret (.var 2 "steps"))))⟩
noncomputable def bR:Fn:=⟨["self","state"],["self","state"],
 (.ret (.call "stepped" (.cons (.fld (.var 0 "self") "program") (.cons (.fld (.var 0 "self") "asked") (.cons (.var 1 "state") .nil)))))⟩
noncomputable def aV:Fn:=⟨["self","moment","state"],["self","moment","state"],
 (.ret (.or (.cmp .ge (.var 1 "moment") (.fld (.var 0 "self") "most")) (.call "is_over" (.cons (.fld (.var 0 "self") "program") (.cons (.var 2 "state") .nil)))))⟩
noncomputable def bX:Fn:=⟨["self","state"],["self","state"],
 (.seq (.ex (.me .append (.fld (.var 0 "self") "kept") (.cons (.var 1 "state") .nil)))
 (.ife (.cmp .gt (.bi .len false (.cons (.fld (.var 0 "self") "kept") .nil)) (.glo "MOST_MARKS")) (.seq (.setf (.var 0 "self") "kept" (.stp true 2 (.fld (.var 0 "self") "kept")))
 (.augf (.var 0 "self") "gap" .mul (.cst (.int 2)))) .nil))⟩
noncomputable def b9:Fn:=⟨["self","moment"],["self","moment"],
 (.whl (.and (.cmp .lt (.fld (.var 0 "self") "farthest") (.var 1 "moment")) (.not (.meth (.var 0 "self") "is_last" (.cons (.fld (.var 0 "self") "farthest") (.cons (.fld (.var 0 "self") "front") .nil))))) (.seq (.setf (.var 0 "self") "front" (.meth (.var 0 "self") "behind" (.cons (.fld (.var 0 "self") "front") .nil)))
 (.seq (.augf (.var 0 "self") "farthest" .add (.cst (.int 1)))
 (.ife (.cmp .eq (.bin .mod (.fld (.var 0 "self") "farthest") (.fld (.var 0 "self") "gap")) (.cst (.int 0))) (.ex (.meth (.var 0 "self") "keep" (.cons (.fld (.var 0 "self") "front") .nil))) .nil))))⟩
noncomputable def bS:Fn:=⟨["self","moment"],["self","moment"],
 (.seq (.ife (.or (.not (.call "is_whole" (.cons (.var 1 "moment") .nil))) (.or (.cmp .lt (.var 1 "moment") (.cst (.int 0))) (.cmp .gt (.var 1 "moment") (.fld (.var 0 "self") "most")))) (.ret (.cst (.bl false))) .nil)
 (.seq (.ex (.meth (.var 0 "self") "reach" (.cons (.var 1 "moment") .nil)))
 (.ret (.cmp .le (.var 1 "moment") (.fld (.var 0 "self") "farthest")))))⟩
noncomputable def bM:Fn:=⟨["self","moment"],["self","moment"],
 (.ife (.not (.meth (.var 0 "self") "has" (.cons (.var 1 "moment") .nil))) .bad .nil)⟩
structure TpP (T:FK->Option Fn) (G:Str->Option W):Prop where
 prg:Prg T G
 is_whole:T "is_whole"=some dz
 init:T (.m "Tape" "__init__")=some cL
 behind:T (.m "Tape" "behind")=some bR
 is_last:T (.m "Tape" "is_last")=some aV
 keep:T (.m "Tape" "keep")=some bX
 reach:T (.m "Tape" "reach")=some b9
 has:T (.m "Tape" "has")=some bS
 check:T (.m "Tape" "check")=some bM
 at_:T (.m "Tape" "at")=some cZ
 MOST_MARKS:G "MOST_MARKS"=some (.p (.int 8))
section
variable {T:FK->Option Fn}{G:Str->Option W}
theorem iV (P:TpP T G) (k:Nat) (i:Int) (h:HH):runN T G (k+1) "is_whole" [.p (.int i)] h=some (.p (.bl true),h):=by
 rw[run_eq P.is_whole rfl]
 simp[dz,ah]
theorem kM (P:TpP T G) (k:Nat) {n r:Nat}{t:Tp}{h:HH} (a:TAt h n r t) (hp:Pg.ok t.p) {j:Nat}{st:St} (hj:j<=5000) (at_:At j st) (hb:over t.p st=false):runN T G (k+7) (.m "Tape" "behind") [.o n,.p st.enc] h=some (.p (step t.p t.asked st).enc,h):=by
 rw[run_eq P.behind rfl]
 have s:=pN P.prg k t.p hp t.asked st at_.ok (at_.small hj) hb
 simp[bR,a.ob,s,ah]
theorem pT (P:TpP T G) (k:Nat) {n r:Nat}{t:Tp}{h:HH} (a:TAt h n r t) (mo:Nat) (st:St):runN T G (k+2) (.m "Tape" "is_last") [.o n,.p (.int mo),.p st.enc] h=some (.p (.bl (decide (t.most<=mo)||over t.p st)),h):=by
 rw[run_eq P.is_last rfl]
 have o:=pL P.prg k t.p st
 by_cases c:t.most<=mo
 ·have c1:(t.most:Int)<=(mo:Int):=by omega
  simp[aV,a.ob,c,c1,ah]
 ·have c1:¬ (t.most:Int)<=(mo:Int):=by omega
  simp[aV,a.ob,o,c,c1,ah]
theorem yy:P8 (Ng none none (some 2) 9).1 (Ng none none (some 2) 9).2.1 (Ng none none (some 2) 9).2.2=[0,2,4,6,8]:=by decide +kernel
theorem ER (x0 x1 x2 x3 x4 x5 x6 x7 x8:D):oQ 2 [x0,x1,x2,x3,x4,x5,x6,x7,x8]=[x0,x2,x4,x6,x8]:=by
 show (P8 (Ng none none (some 2) 9).1 (Ng none none (some 2) 9).2.1 (Ng none none (some 2) 9).2.2).filterMap _=_
 rw[yy];rfl
noncomputable def Tp.keep (t:Tp) (st:St):Tp:=if t.kept.length < 8 then { t with kept:=t.kept++[st] } else { t with kept:=(Nv 5).filterMap fun i=>(t.kept++[st])[2*i]?,gap:=2*t.gap }
theorem yz (P:TpP T G) (k:Nat) {n r:Nat}{t:Tp}{h:HH} (a:TAt h n r t) (hg:t.gap<=100000) (hl:t.kept.length<=8) (st:St) :
 ∃ h' r',runN T G (k+1) (.m "Tape" "keep") [.o n,.p st.enc] h=some (.p .non,h')/\Go n h r t h' r' (t.keep st):=by
 have nr:=sZ a.ob a.li
 have hn:=jh a.ob
 have hr:=kK a.li
 have e1:lat (h.set r (Cl.l (t.kept.map St.enc++[st.enc]))) r=some (t.kept.map St.enc++[st.enc]):=yw hr _
 have e2:oat (h.set r (Cl.l (t.kept.map St.enc++[st.enc]))) n=some (MU "Tape",t.fs r):=(qQ nr _).trans a.ob
 have l0:t.kept.length < 100000:=by omega
 by_cases c:t.kept.length < 8
 ·have c1:¬ (8:Int) < (t.kept.length:Int)+1:=by omega
  have go:Go n h r t (h.set r (Cl.l (t.kept.map St.enc++[st.enc]))) r (t.keep st):=by
   refine ⟨a,⟨?_,?_⟩,.inl ⟨by simp,rfl⟩,by simp,fun i h1 h2 h3=>Nl (Ne.symm h2)⟩
   ·rw[Tp.keep,if_pos c];exact e2
   ·rw[Tp.keep,if_pos c,e1];simp
  refine ⟨_,r,?_,go⟩
  rw[run_eq P.keep rfl]
  have f:=cz go (.p .non)
  simp[bX,a.ob,a.li,e1,e2,P.MOST_MARKS,rd,c1,l0,f]
 ·have c8:t.kept.length=8:=by omega
  obtain ⟨x0,x1,x2,x3,x4,x5,x6,x7,ek⟩:∃ x0 x1 x2 x3 x4 x5 x6 x7,t.kept=[x0,x1,x2,x3,x4,x5,x6,x7]:=by
   match t.kept,c8 with
   | [x0,x1,x2,x3,x4,x5,x6,x7],_=>exact ⟨x0,x1,x2,x3,x4,x5,x6,x7,rfl⟩
  have ev:oQ 2 (t.kept.map St.enc++[st.enc])=((t.keep st).kept).map St.enc:=by
   rw[Tp.keep,if_neg c,ek]
   exact ER _ _ _ _ _ _ _ _ _
  have c1:(8:Int) < (t.kept.length:Int)+1:=by omega
  have e3:∀ g:HH,oat ((h.set r (Cl.l (t.kept.map St.enc++[st.enc])))++g) n=some (MU "Tape",t.fs r):=fun g=>(tw (by simpa using hn)).trans e2
  have e4:(h.set r (Cl.l (t.kept.map St.enc++[st.enc]))).length=h.length:=by simp
  have b0:big (t.gap:Int)=true:=by unfold big;exact decide_eq_true (by omega)
  have go:Go n h r t ((h.set r (Cl.l (t.kept.map St.enc++[st.enc]))++[Cl.l ((t.keep st).kept.map St.enc)]).set n (.o "Tape" ((t.keep st).fs h.length))) h.length (t.keep st):=by
   have hn2:n < (h.set r (Cl.l (t.kept.map St.enc++[st.enc]))++[Cl.l ((t.keep st).kept.map St.enc)]).length:=by simp;omega
   refine ⟨a,⟨iU hn2 _,?_⟩,.inr (MR _),by simp,fun i h1 h2 h3=>?_⟩
   ·rw[kL (Ne.symm (Np hn))]
    have:=Lr (h.set r (Cl.l (t.kept.map St.enc++[st.enc]))) (Cl.l ((t.keep st).kept.map St.enc)) []
    rw[e4] at this
    exact this
   ·rw[Nl (Ne.symm h1),MO (by simpa using h3),Nl (Ne.symm h2)]
  refine ⟨_,_,?_,go⟩
  rw[run_eq P.keep rfl]
  have f:=cz go (.p .non)
  have k2:(t.keep st).fs h.length=({ t with gap:=2*t.gap }:Tp).fs h.length:=by
   rw[Tp.keep,if_neg c];rfl
  have pk:bz "gap" (.p (.int ((t.gap:Int)*2))) (t.fs h.length)=(t.keep st).fs h.length:=by
   rw[k2,← Bo t h.length (2*t.gap)]
   congr 3
   show (t.gap:Int)*2=((2*t.gap:Nat):Int)
   omega
  have hn2:n < (h.set r (Cl.l (t.kept.map St.enc++[st.enc]))++[Cl.l ((t.keep st).kept.map St.enc)]).length:=by simp;omega
  have e5:=iU hn2 (.o "Tape" (t.fs h.length))
  rw[Du] at e5
  have s2:∀ x y:Cl,((h.set r (Cl.l (t.kept.map St.enc++[st.enc]))++[Cl.l ((t.keep st).kept.map St.enc)]).set n x).set n y=(h.set r (Cl.l (t.kept.map St.enc++[st.enc]))++[Cl.l ((t.keep st).kept.map St.enc)]).set n y:=fun x y=>by rw[Rk]
  simp[bX,a.ob,a.li,e1,e2,e3,e4,P.MOST_MARKS,rd,c1,l0,ev,yv,e5,b0,pk,s2,f]
end
end BT
end
section
namespace BT
open PySem
structure TI (t:Tp) (e ev:Nat):Prop where
 run:Run t.p t.asked t.most e
 ok:Pg.ok t.p
 ask:Ask t.asked
 g0:0 < t.gap
 g1:t.gap<=1000
 m1:t.most<=1000
 far:t.far<=e
 front:t.front=itr t.p t.asked t.far
 len:t.kept.length=t.far / t.gap+1
 l8:t.kept.length<=8
 kept:∀ j,j < t.kept.length->t.kept[j]?=some (itr t.p t.asked (j*t.gap))
 now:t.now<=t.far
 pw:∃ j,t.gap=ev*2 ^ j/\(0 < j->8<=t.far / (t.gap / 2))
structure Sm8 (t t':Tp):Prop where
 p:t'.p=t.p
 asked:t'.asked=t.asked
 most:t'.most=t.most
 now:t'.now=t.now
theorem Sm8.refl (t:Tp):Sm8 t t:=⟨rfl,rfl,rfl,rfl⟩
theorem Sm8.trans {t u v:Tp} (x:Sm8 t u) (y:Sm8 u v):Sm8 t v:=⟨y.p.trans x.p,y.asked.trans x.asked,y.most.trans x.most,y.now.trans x.now⟩
noncomputable def Tp.on (t:Tp):Tp:={ t with front:=step t.p t.asked t.front,far:=t.far+1 }
noncomputable def Tp.nx (t:Tp):Tp:=if (t.far+1) % t.gap=0 then t.on.keep t.on.front else t.on
theorem yC {f g:Nat} (hg:0 < g) (c:¬ (f+1) % g=0):(f+1) / g=f / g:=by
 have h1:=QK f g
 have h2:f % g < g:=Nat.mod_lt _ hg
 have e:f+1=g*(f / g)+(f % g+1):=by omega
 have h3:f % g+1 < g:=by
  rcases M4 (f % g+1) g with z | z
  ·exact z
  ·exfalso;apply c
   have:f % g+1=g:=by omega
   rw[e,this,Nat.mul_add_mod,Nat.mod_self]
 rw[e,Nat.mul_add_div hg,Nat.div_eq_of_lt h3];omega
theorem yD {f g:Nat} (hg:0 < g) (c:(f+1) % g=0):(f+1) / g=f / g+1/\(f / g+1)*g=f+1:=by
 have h1:=QK f g
 have h2:f % g < g:=Nat.mod_lt _ hg
 have h3:f % g+1=g:=by
  rcases M4 (f % g+1) g with z | z
  ·exfalso
   have e:f+1=g*(f / g)+(f % g+1):=by omega
   rw[e,Nat.mul_add_mod,Nat.mod_eq_of_lt z] at c
   omega
  ·omega
 have e:f+1=(f / g+1)*g:=by rw[Nat.add_mul,Ox (f / g) g];omega
 exact ⟨by rw[e,Qg _ hg],e.symm⟩
theorem TI.nx {t:Tp}{e ev:Nat} (I:TI t e ev) (h:t.far < e):TI t.nx e ev/\Sm8 t t.nx/\t.nx.far=t.far+1:=by
 have g0:=I.g0
 have hf:step t.p t.asked t.front=itr t.p t.asked (t.far+1):=by rw[I.front];rfl
 have mono:∀ g:Nat,t.far / g<=(t.far+1) / g:=fun g=>RI (Oe _)
 unfold Tp.nx
 by_cases c:(t.far+1) % t.gap=0
 ·rw[if_pos c]
  obtain ⟨d1,d2⟩:=yD g0 c
  have hfr:t.on.front=itr t.p t.asked (t.far+1):=hf
  have kp:∀ j,j < t.kept.length+1->(t.kept++[itr t.p t.asked (t.far+1)])[j]?=some (itr t.p t.asked (j*t.gap)):=fun j hj=>by
   rcases M4 j t.kept.length with z | z
   ·rw[MO z];exact I.kept j z
   ·have ej:j=t.kept.length:=by omega
    subst ej
    rw[M6 (MR _),Nat.sub_self]
    have:t.kept.length*t.gap=t.far+1:=by rw[I.len];exact d2
    rw[this];rfl
  unfold Tp.keep
  by_cases c2:t.kept.length < 8
  ·have c2':t.on.kept.length < 8:=c2
   rw[if_pos c2']
   refine ⟨⟨I.run,I.ok,I.ask,g0,I.g1,I.m1,h,hf,?_,?_,fun j hj=>?_,?_,?_⟩,⟨rfl,rfl,rfl,rfl⟩,rfl⟩
   ·show (t.kept++[t.on.front]).length=(t.far+1) / t.gap+1
    rw[d1,Nj,I.len];rfl
   ·show (t.kept++[t.on.front]).length<=8
    rw[Nj];simp;omega
   ·have hj':j < t.kept.length+1:=by
     have:(t.kept++[t.on.front]).length=t.kept.length+1:=by simp
     rw[← this];exact hj
    show (t.kept++[t.on.front])[j]?=some (itr t.p t.asked (j*t.gap))
    rw[hfr];exact kp j hj'
   ·show t.now<=t.far+1;have:=I.now;omega
   ·obtain ⟨j,h1,h2⟩:=I.pw
    exact ⟨j,h1,fun hj=>Nq (h2 hj) (mono _)⟩
  ·have c2':¬ t.on.kept.length < 8:=c2
   rw[if_neg c2']
   have l8:t.kept.length=8:=by have:=I.l8;omega
   have f8:t.far+1=8*t.gap:=by rw[← d2,← I.len,l8]
   have le:=I.run.le
   have m1:=I.m1
   have hk:∀ i,i < 5->(t.kept++[itr t.p t.asked (t.far+1)])[2*i]?=some (itr t.p t.asked (i*(2*t.gap))):=fun i hi=>by
    rw[kp (2*i) (by omega)]
    congr 2
    rw[Ox 2 i,Nat.mul_assoc]
   have ek:(Nv 5).filterMap (fun i=>(t.kept++[t.on.front])[2*i]?)=(Nv 5).map fun i=>itr t.p t.asked (i*(2*t.gap)):=by
    rw[hfr,show Nv 5=[0,1,2,3,4] from rfl]
    simp only[NI,List.filterMap_nil,hk 0 (by decide),hk 1 (by decide),hk 2 (by decide),hk 3 (by decide),hk 4 (by decide),M9,Oc]
   have dv:(t.far+1) / (2*t.gap)=4:=by
    rw[f8,show 8*t.gap=4*(2*t.gap) by omega]
    exact Qg _ (by omega)
   refine ⟨⟨I.run,I.ok,I.ask,?_,?_,I.m1,h,hf,?_,?_,fun j hj=>?_,?_,?_⟩,⟨rfl,rfl,rfl,rfl⟩,rfl⟩
   ·show 0 < 2*t.gap;omega
   ·show 2*t.gap<=1000;omega
   ·show ((Nv 5).filterMap fun i=>(t.kept++[t.on.front])[2*i]?).length=(t.far+1) / (2*t.gap)+1
    rw[ek,dv];simp
   ·show ((Nv 5).filterMap fun i=>(t.kept++[t.on.front])[2*i]?).length<=8
    rw[ek];simp
   ·have hj':j < 5:=by
     have q:j < ((Nv 5).filterMap fun i=>(t.kept++[t.on.front])[2*i]?).length:=hj
     rw[ek] at q;simpa using q
    show ((Nv 5).filterMap fun i=>(t.kept++[t.on.front])[2*i]?)[j]?=some (itr t.p t.asked (j*(2*t.gap)))
    rw[ek,Na,PV hj'];rfl
   ·show t.now<=t.far+1;have:=I.now;omega
   ·obtain ⟨j,h1,h2⟩:=I.pw
    refine ⟨j+1,?_,fun _=>?_⟩
    ·show 2*t.gap=ev*2 ^ (j+1)
     rw[h1,Nat.pow_succ];rw[Ox 2,Nat.mul_assoc]
    ·show 8<=(t.far+1) / (2*t.gap / 2)
     rw[Nat.mul_div_cancel_left _ (by omega:0 < 2),f8,Qg _ g0]
     exact MR _
 ·rw[if_neg c]
  refine ⟨⟨I.run,I.ok,I.ask,g0,I.g1,I.m1,h,hf,?_,I.l8,I.kept,?_,?_⟩,⟨rfl,rfl,rfl,rfl⟩,rfl⟩
  ·show t.kept.length=(t.far+1) / t.gap+1
   rw[I.len,yC g0 c]
  ·show t.now<=t.far+1;have:=I.now;omega
  ·obtain ⟨j,h1,h2⟩:=I.pw
   exact ⟨j,h1,fun hj=>Nq (h2 hj) (mono _)⟩
section
variable {T:FK->Option Fn}{G:Str->Option W}
noncomputable def rcC:E:=(.and (.cmp .lt (.fld (.var 0 "self") "farthest") (.var 1 "moment")) (.not (.meth (.var 0 "self") "is_last" (.cons (.fld (.var 0 "self") "farthest") (.cons (.fld (.var 0 "self") "front") .nil)))))
noncomputable def rcB:S:=(.seq (.setf (.var 0 "self") "front" (.meth (.var 0 "self") "behind" (.cons (.fld (.var 0 "self") "front") .nil)))
 (.seq (.augf (.var 0 "self") "farthest" .add (.cst (.int 1)))
 (.ife (.cmp .eq (.bin .mod (.fld (.var 0 "self") "farthest") (.fld (.var 0 "self") "gap")) (.cst (.int 0))) (.ex (.meth (.var 0 "self") "keep" (.cons (.fld (.var 0 "self") "front") .nil))) .nil)))
theorem mE (t:Tp) (r:Nat):aX "is_last" (t.fs r)=none:=bW t r rfl
theorem pU (t:Tp) (r:Nat):aX "behind" (t.fs r)=none:=bW t r rfl
theorem ES (t:Tp) (r:Nat):aX "keep" (t.fs r)=none:=bW t r rfl
theorem tE (t:Tp) (r:Nat):aX "reach" (t.fs r)=none:=bW t r rfl
theorem yE (t:Tp) (r:Nat):aX "has" (t.fs r)=none:=bW t r rfl
theorem gE (t:Tp) (r:Nat):aX "check" (t.fs r)=none:=bW t r rfl
theorem ET (t:Tp) (r:Nat):aX "at" (t.fs r)=none:=bW t r rfl
theorem CD (t:Tp) (r:Nat):aX "end" (t.fs r)=none:=bW t r rfl
theorem tF {n r:Nat}{t:Tp}{h:HH} (a:TAt h n r t) (t':Tp) (k:t'.kept=t.kept):Go n h r t (h.set n (.o "Tape" (t'.fs r))) r t':=by
 have hn:=jh a.ob
 have nr:=sZ a.ob a.li
 exact ⟨a,⟨iU hn _,by rw[kL (Ne.symm nr),k];exact a.li⟩,.inl ⟨by simp,rfl⟩,by simp,fun i h1 _ _=>Nl (Ne.symm h1)⟩
theorem Br (P:TpP T G) (k:Nat) {n r:Nat}{t:Tp}{h:HH}{e ev:Nat} (a:TAt h n r t) (I:TI t e ev) (hl:t.far < e) (w:W) :
 ∃ h' r',evS (runN T G (k+7)) G rcB [some (.o n),some w] h=some (.nx [some (.o n),some w] h')/\Go n h r t h' r' t.nx:=by
 have hn:=jh a.ob
 have atf:=qP I.ok I.ask I.run t.far (by omega)
 have le:=I.run.le
 have m1:=I.m1
 have bh:=kM P k a I.ok (j:=t.far) (st:=t.front) (by omega) (by rw[I.front];exact atf) (by rw[I.front];exact I.run.on _ hl)
 have go1:=tF a t.on rfl
 have e1:oat (h.set n (.o "Tape" (({ t with front:=step t.p t.asked t.front }:Tp).fs r))) n=some (MU "Tape",({ t with front:=step t.p t.asked t.front }:Tp).fs r):=iU hn _
 have pf:=u5 t r (step t.p t.asked t.front)
 have pa:bz "farthest" (.p (.int ((t.far:Int)+1))) (({ t with front:=step t.p t.asked t.front }:Tp).fs r)=t.on.fs r:=Bp ({ t with front:=step t.p t.asked t.front }:Tp) r (t.far+1)
 have e2:oat (h.set n (.o "Tape" (t.on.fs r))) n=some (MU "Tape",t.on.fs r):=iU hn _
 have g0:(0:Int) < (t.gap:Int):=by have:=I.g0;omega
 have s2:∀ x y:Cl,(h.set n x).set n y=h.set n y:=fun x y=>by rw[Rk]
 have of:t.on.far=t.far+1:=rfl
 have og:t.on.gap=t.gap:=rfl
 have pre:evS (runN T G (k+7)) G rcB [some (.o n),some w] h=evS (runN T G (k+7)) G (.ife (.cmp .eq (.bin .mod (.fld (.var 0 "self") "farthest") (.fld (.var 0 "self") "gap")) (.cst (.int 0))) (.ex (.meth (.var 0 "self") "keep" (.cons (.fld (.var 0 "self") "front") .nil))) .nil) [some (.o n),some w] (h.set n (.o "Tape" (t.on.fs r))):=by
  rw[rcB]
  simp[a.ob,bh,pU,pf,e1,pa,s2]
 rw[pre]
 unfold Tp.nx
 have cm:(((t.far+1) % t.gap:Nat):Int)=((t.far:Int)+1) % (t.gap:Int):=by simp
 by_cases c:(t.far+1) % t.gap=0
 ·rw[if_pos c]
  have c1:((t.far:Int)+1) % (t.gap:Int)=0:=by omega
  obtain ⟨h2,r2,k1,k2⟩:=yz P (k+6) go1.b (by show t.gap<=100000;have:=I.g1;omega) (by show t.kept.length<=8;exact I.l8) t.on.front
  refine ⟨h2,r2,?_,go1.trans k2⟩
  simp[e2,of,og,g0,I.g0,c1,ES,k1]
 ·rw[if_neg c]
  have c1:¬ ((t.far:Int)+1) % (t.gap:Int)=0:=by omega
  refine ⟨_,r,?_,go1⟩
  have c2:(((t.far:Int)+1) % (t.gap:Int)==0)=false:=by simpa using c1
  simp[e2,of,og,g0,I.g0,c2]
theorem nX (P:TpP T G) (k:Nat) {n r:Nat}{t:Tp}{h:HH}{e ev:Nat} (a:TAt h n r t) (I:TI t e ev) (m:Nat) :
 BT.ev (runN T G (k+7)) G rcC [some (.o n),some (.p (.int m))] h=some (.p (.bl (decide (t.far < min m e))),h):=by
 have il:=pT P (k+5) a t.far t.front
 have le:=I.run.le
 by_cases c:t.far < m
 ·have c1:(t.far:Int) < (m:Int):=by omega
  by_cases c2:t.far < e
  ·have o:over t.p t.front=false:=by rw[I.front];exact I.run.on _ c2
   have q:(decide (t.most<=t.far)||over t.p t.front)=false:=by
    rw[o,Pi];exact decide_eq_false (by omega)
   rw[q] at il
   have d:decide (t.far < min m e)=true:=decide_eq_true (by omega)
   rw[d]
   simp[rcC,a.ob,c1,c,mE,il]
  ·have fe:t.far=e:=by have:=I.far;omega
   have q:(decide (t.most<=t.far)||over t.p t.front)=true:=by
    rcases I.run.last with z | z
    ·rw[decide_eq_true (by omega)];rfl
    ·rw[I.front,fe,z,Bool.or_true]
   rw[q] at il
   have d:decide (t.far < min m e)=false:=decide_eq_false (by omega)
   rw[d]
   simp[rcC,a.ob,c1,c,mE,il]
 ·have c1:¬ (t.far:Int) < (m:Int):=by omega
  have d:decide (t.far < min m e)=false:=decide_eq_false (by omega)
  rw[d]
  simp[rcC,a.ob,c1,c]
theorem Bs (P:TpP T G) (k:Nat) (n:Nat) (e ev m:Nat):∀ (d f:Nat) (h:HH) (r:Nat) (t:Tp),TAt h n r t->TI t e ev->min m e - t.far<=d->d<=f →
 ∃ h' r' t',cQ (BT.ev (runN T G (k+7)) G rcC) (evS (runN T G (k+7)) G rcB) (f+1) [some (.o n),some (.p (.int m))] h=some (.nx [some (.o n),some (.p (.int m))] h')/\Go n h r t h' r' t'/\TI t' e ev/\Sm8 t t'/\t'.far=max t.far (min m e):=by
 intro d
 induction d with
 | zero =>
  intro f h r t a I hd hf
  have q:=nX P k a I m
  rw[decide_eq_false (by omega)] at q
  refine ⟨h,r,t,?_,.refl a,I,.refl t,by omega⟩
  rw[cQ,q,j7,qw]
 | succ d ih =>
  intro f h r t a I hd hf
  by_cases c:t.far < min m e
  ·have q:=nX P k a I m
   rw[decide_eq_true c] at q
   obtain ⟨h1,r1,b1,g1⟩:=Br P k a I (by omega) (.p (.int m))
   obtain ⟨I1,s1,f1⟩:=I.nx (by omega)
   cases f with
   | zero=>omega
   | succ f =>
    obtain ⟨h2,r2,t2,b2,g2,I2,s2,f2⟩:=ih f h1 r1 t.nx g1.b I1 (by omega) (by omega)
    refine ⟨h2,r2,t2,?_,g1.trans g2,I2,s1.trans s2,by omega⟩
    rw[cQ,q,j7,m7,b1,iH,b2]
  ·have q:=nX P k a I m
   rw[decide_eq_false c] at q
   refine ⟨h,r,t,?_,.refl a,I,.refl t,by omega⟩
   rw[cQ,q,j7,qw]
theorem pV:b9=⟨["self","moment"],["self","moment"],.whl rcC rcB⟩:=rfl
theorem mF (P:TpP T G) (k:Nat) {n r:Nat}{t:Tp}{h:HH}{e ev:Nat} (a:TAt h n r t) (I:TI t e ev) (m:Nat) :
 ∃ h' r' t',runN T G (k+8) (.m "Tape" "reach") [.o n,.p (.int m)] h=some (.p .non,h')/\Go n h r t h' r' t'/\TI t' e ev/\Sm8 t t'/\t'.far=max t.far (min m e):=by
 have le:=I.run.le
 have m1:=I.m1
 obtain ⟨h',r',t',b,g,I',s,f⟩:=Bs P k n e ev m 99999 99999 h r t a I (by omega) (MR _)
 refine ⟨h',r',t',?_,g,I',s,f⟩
 rw[run_eq P.reach rfl,pV]
 have fn:=cz g (.p .non)
 simp[turns,b,fn]
theorem tG (P:TpP T G) (k:Nat) {n r:Nat}{t:Tp}{h:HH}{e ev:Nat} (a:TAt h n r t) (I:TI t e ev) (m:Nat) (hm:m<=t.most) :
 ∃ h' r' t',runN T G (k+9) (.m "Tape" "has") [.o n,.p (.int m)] h=some (.p (.bl (decide (m<=e))),h')/\Go n h r t h' r' t'/\TI t' e ev/\Sm8 t t'/\t'.far=max t.far (min m e):=by
 obtain ⟨h',r',t',b,g,I',s,f⟩:=mF P k a I m
 refine ⟨h',r',t',?_,g,I',s,f⟩
 rw[run_eq P.has rfl]
 have w:=iV P (k+7) m
 have c1:¬ ((m:Int) < 0):=by omega
 have c2:¬ ((t.most:Int) < (m:Int)):=by omega
 have fn:=fun w=>cz g w
 have far:=I.far
 have d:decide ((m:Int)<=(t'.far:Int))=decide (m<=e):=by
  by_cases c:m<=e
  ·rw[decide_eq_true c];exact decide_eq_true (by omega)
  ·rw[decide_eq_false c];exact decide_eq_false (by omega)
 simp[bS,w,c1,a.ob,c2,tE,b,g.b.ob,fn]
 simpa using d
theorem mG (P:TpP T G) (k:Nat) {n r:Nat}{t:Tp}{h:HH}{e ev:Nat} (a:TAt h n r t) (I:TI t e ev) (m:Nat) (hm:m<=e) :
 ∃ h' r' t',runN T G (k+10) (.m "Tape" "check") [.o n,.p (.int m)] h=some (.p .non,h')/\Go n h r t h' r' t'/\TI t' e ev/\Sm8 t t'/\t'.far=max t.far m:=by
 obtain ⟨h',r',t',b,g,I',s,f⟩:=tG P k a I m (Nq hm I.run.le)
 rw[decide_eq_true hm] at b
 refine ⟨h',r',t',?_,g,I',s,by omega⟩
 rw[run_eq P.check rfl]
 have fn:=cz g (.p .non)
 simp[bM,a.ob,yE,b,fn]
noncomputable def atB:S:=(.set 2 "state" (.meth (.var 0 "self") "behind" (.cons (.var 2 "state") .nil)))
theorem tH (P:TpP T G) (k:Nat) {n r:Nat}{t:Tp}{h:HH}{e ev:Nat} (a:TAt h n r t) (I:TI t e ev) (w1:W):∀ (q j:Nat) (x:Option W) (lo:Int),j+q<=e →
 ∃ x',fW (evS (runN T G (k+7)) G atB) [(3,"step")] (upto lo q) [some (.o n),some w1,some (.p (itr t.p t.asked j).enc),x] h=some (.nx [some (.o n),some w1,some (.p (itr t.p t.asked (j+q)).enc),x'] h)
 | 0,j,x,lo,_=>⟨x,rfl⟩
 | q+1,j,x,lo,hj=>by
  have le:=I.run.le
  have m1:=I.m1
  obtain ⟨x',b⟩:=tH P k a I w1 q (j+1) (some (.p (.int lo))) (lo+1) (by omega)
  refine ⟨x',?_⟩
  have bh:=kM P k a I.ok (j:=j) (st:=itr t.p t.asked j) (by omega) (qP I.ok I.ask I.run j (by omega)) (I.run.on j (by omega))
  have up:upto lo (q+1)=.int lo :: upto (lo+1) q:=by
   unfold upto
   rw[Pp,M9,Qm]
   simp only[Pq,Int.add_zero,OJ,true_and]
   apply OY
   intro i _
   simp;omega
  rw[up]
  have s1:step t.p t.asked (itr t.p t.asked j)=itr t.p t.asked (j+1):=rfl
  rw[s1] at bh
  have ej:j+1+q=j+(q+1):=by omega
  rw[ej] at b
  have hb:evS (runN T G (k+7)) G atB [some (.o n),some w1,some (.p (itr t.p t.asked j).enc),some (.p (.int lo))] h=some (.nx [some (.o n),some w1,some (.p (itr t.p t.asked (j+1)).enc),some (.p (.int lo))] h):=by
   simp[atB,a.ob,pU,bh]
  simp[hb,b]
theorem yF:cZ=⟨["self","moment"],["self","moment","state","step"],(.seq (.ex (.meth (.var 0 "self") "check" (.cons (.var 1 "moment") .nil)))
 (.seq (.set 2 "state" (.idx (.fld (.var 0 "self") "kept") (.bin .fdiv (.var 1 "moment") (.fld (.var 0 "self") "gap"))))
 (.seq (.for [(3,"step")] .rng1 (.cons (.bin .mod (.var 1 "moment") (.fld (.var 0 "self") "gap")) .nil) atB)
 (.ret (.var 2 "state")))))⟩:=rfl
theorem yG (P:TpP T G) (k:Nat) {n r:Nat}{t:Tp}{h:HH}{e ev:Nat} (a:TAt h n r t) (I:TI t e ev) (m:Nat) (hm:m<=e) :
 ∃ h' r' t',runN T G (k+11) (.m "Tape" "at") [.o n,.p (.int m)] h=some (.p (itr t.p t.asked m).enc,h')/\Go n h r t h' r' t'/\TI t' e ev/\Sm8 t t'/\t'.far=max t.far m:=by
 obtain ⟨h',r',t',b,g,I',s,f⟩:=mG P k a I m hm
 refine ⟨h',r',t',?_,g,I',s,f⟩
 rw[run_eq P.at_ rfl,yF]
 have fn:=fun w=>cz g w
 have g0:=I'.g0
 have g1:=I'.g1
 have dm:=QK m t'.gap
 have md:=Nat.mod_lt m g0
 have hq:m / t'.gap < t'.kept.length:=by
  rw[I'.len]
  have:m / t'.gap<=t'.far / t'.gap:=RI (by omega)
  omega
 have hk:=I'.kept _ hq
 have le:=I'.run.le
 have m1:=I'.m1
 rw[s.p,s.asked] at hk
 have gz:(0:Int) < (t'.gap:Int):=by omega
 have gm:(t'.gap:Int) < 1073741824:=by omega
 have e1:(m:Int) / (t'.gap:Int)=((m / t'.gap:Nat):Int):=by simp
 have e2:(m:Int) % (t'.gap:Int)=((m % t'.gap:Nat):Int):=by simp
 have ix:aI (.lst (t'.kept.map St.enc)) (.int ((m / t'.gap:Nat):Int))=some (itr t.p t.asked (m / t'.gap*t'.gap)).enc:=by
  show atP _ _=_
  rw[eW,Na,hk];rfl
 obtain ⟨x',lp⟩:=tH P (k+3) g.b I' (.p (.int m)) (m % t'.gap) (m / t'.gap*t'.gap) none 0 (by rw[Ox];omega)
 rw[s.p,s.asked] at lp
 have em:m / t'.gap*t'.gap+m % t'.gap=m:=by rw[Ox];exact dm
 rw[em] at lp
 have rg:gF .rng1 [.int ((m % t'.gap:Nat):Int)]=some (upto 0 (m % t'.gap)):=by
  rw[fq]
  have c:((-100000<=(((m % t'.gap:Nat):Int)):Bool)&&(((m % t'.gap:Nat):Int)<=100000:Bool))=true:=by
   simp only[ML,decide_eq_true_eq];omega
  rw[if_pos c];rfl
 simp[-aM,-fq,-Int.natCast_ediv,-Int.natCast_emod,a.ob,gE,b,g.b.ob,g.b.li,rd,gz,g0,gm,e1,e2,ix,rg,jw,lp,fn]
structure TpM (T:FK->Option Fn):Prop where
 end_:T (.m "Tape" "end")=some dB
 moment:T (.m "Tape" "moment")=some bQ
 state:T (.m "Tape" "state")=some b8
 to:T (.m "Tape" "to")=some c5
 go:T (.m "Tape" "go")=some dX
 back:T (.m "Tape" "back")=some cM
theorem TI.to {t:Tp}{e ev:Nat} (I:TI t e ev) (m:Nat) (h:m<=t.far):TI { t with now:=m } e ev:=⟨I.run,I.ok,I.ask,I.g0,I.g1,I.m1,I.far,I.front,I.len,I.l8,I.kept,h,I.pw⟩
theorem tK (P:TpP T G) (M:TpM T) (k:Nat) {n r:Nat}{t:Tp}{h:HH}{e ev:Nat} (a:TAt h n r t) (I:TI t e ev) :
 ∃ h' r' t',runN T G (k+9) (.m "Tape" "end") [.o n] h=some (.p (.int e),h')/\Go n h r t h' r' t'/\TI t' e ev/\Sm8 t t'/\t'.far=e:=by
 obtain ⟨h',r',t',b,g,I',s,f⟩:=mF P k a I t.most
 have le:=I.run.le
 have fr:=I.far
 have fe:t'.far=e:=by omega
 refine ⟨h',r',t',?_,g,I',s,fe⟩
 rw[run_eq M.end_ rfl]
 have fn:=fun w=>cz g w
 simp[dB,a.ob,tE,b,g.b.ob,fe,fn]
theorem kN (M:TpM T) (k:Nat) {n r:Nat}{t:Tp}{h:HH} (a:TAt h n r t):runN T G (k+1) (.m "Tape" "moment") [.o n] h=some (.p (.int t.now),h):=by
 rw[run_eq M.moment rfl]
 simp[bQ,a.ob,ah]
theorem mH (P:TpP T G) (M:TpM T) (k:Nat) {n r:Nat}{t:Tp}{h:HH}{e ev:Nat} (a:TAt h n r t) (I:TI t e ev) :
 ∃ h' r' t',runN T G (k+12) (.m "Tape" "state") [.o n] h=some (.p (itr t.p t.asked t.now).enc,h')/\Go n h r t h' r' t'/\TI t' e ev/\Sm8 t t'/\t'.far=t.far:=by
 have nw:=I.now
 have fr:=I.far
 obtain ⟨h',r',t',b,g,I',s,f⟩:=yG P k a I t.now (by omega)
 refine ⟨h',r',t',?_,g,I',s,by omega⟩
 rw[run_eq M.state rfl]
 have fn:=fun w=>cz g w
 simp[b8,a.ob,ET,b,fn]
structure Sm7 (t t':Tp):Prop where
 p:t'.p=t.p
 asked:t'.asked=t.asked
 most:t'.most=t.most
theorem Sm8.s7 {t t':Tp} (s:Sm8 t t'):Sm7 t t':=⟨s.p,s.asked,s.most⟩
theorem EU (P:TpP T G) (M:TpM T) (k:Nat) {n r:Nat}{t:Tp}{h:HH}{e ev:Nat} (a:TAt h n r t) (I:TI t e ev) (m:Nat) (hm:m<=e) :
 ∃ h' r' t',runN T G (k+11) (.m "Tape" "to") [.o n,.p (.int m)] h=some (.p .non,h')/\Go n h r t h' r' t'/\TI t' e ev/\Sm7 t t'/\t'.now=m/\t'.far=max t.far m:=by
 obtain ⟨h',r',t',b,g,I',s,f⟩:=mG P k a I m hm
 have g2:=tF g.b { t' with now:=m } rfl
 refine ⟨_,_,_,?_,g.trans g2,I'.to m (by omega),⟨s.p,s.asked,s.most⟩,rfl,f⟩
 rw[run_eq M.to rfl]
 have fn:=cz (g.trans g2) (.p .non)
 have pn:=nW t' r' m
 simp[c5,a.ob,gE,b,g.b.ob,pn,fn]
theorem EV (P:TpP T G) (M:TpM T) (k:Nat) {n r:Nat}{t:Tp}{h:HH}{e ev:Nat} (a:TAt h n r t) (I:TI t e ev) (m:Nat) :
 ∃ h' r' t',runN T G (k+10) (.m "Tape" "go") [.o n,.p (.int m)] h=some (.p (.int ((min m (e - t.now):Nat):Int)),h')/\Go n h r t h' r' t'/\TI t' e ev/\Sm7 t t'/\t'.now=t.now+min m (e - t.now)/\t'.far=e:=by
 obtain ⟨h',r',t',b,g,I',s,f⟩:=tK P M k a I
 have nw:=I.now
 have fr:=I.far
 have sn:=s.now
 have g2:=tF g.b { t' with now:=t.now+min m (e - t.now) } rfl
 refine ⟨_,_,_,?_,g.trans g2,I'.to _ (by omega),⟨s.p,s.asked,s.most⟩,rfl,f⟩
 rw[run_eq M.go rfl]
 have fn:=fun w=>cz (g.trans g2) w
 have pn:=nW t' r' (t.now+min m (e - t.now))
 have c0:(if (0:Int) > (m:Int) then (0:Int) else (m:Int))=(m:Int):=if_neg (by omega)
 have c1:(if (e:Int) - (t.now:Int) < (m:Int) then (e:Int) - (t.now:Int) else (m:Int))=((min m (e - t.now):Nat):Int):=by
  by_cases c:(e:Int) - (t.now:Int) < (m:Int)
  ·rw[if_pos c];omega
  ·rw[if_neg c];omega
 have c2:(t.now:Int)+((min m (e - t.now):Nat):Int)=((t.now+min m (e - t.now):Nat):Int):=by omega
 have sq:∀ z:Int,oat h' n=some (MU "Tape",t'.fs r'):=fun _=>g.b.ob
 rw[dX]
 simp only[aQ,M9,Oc,M5,NN]
 simp[-Int.natCast_add,a.ob,CD,b,g.b.ob,sn,c0,c1,c2,pn,fn]
end
end BT
end
section
namespace BT
open PySem
section
variable {T:FK->Option Fn}{G:Str->Option W}
theorem yH (P:TpP T G) (M:TpM T) (k:Nat) {n r:Nat}{t:Tp}{h:HH}{e ev:Nat} (a:TAt h n r t) (I:TI t e ev) (m:Nat) :
 ∃ h' t',runN T G (k+1) (.m "Tape" "back") [.o n,.p (.int m)] h=some (.p (.int ((min m t.now:Nat):Int)),h')/\Go n h r t h' r t'/\TI t' e ev/\Sm7 t t'/\t'.now=t.now - min m t.now/\t'.far=t.far:=by
 have nw:=I.now
 have g2:=tF a { t with now:=t.now - min m t.now } rfl
 refine ⟨_,_,?_,g2,I.to _ (by omega),⟨rfl,rfl,rfl⟩,rfl,rfl⟩
 rw[run_eq M.back rfl]
 have fn:=fun w=>cz g2 w
 have pn:=nW t r (t.now - min m t.now)
 have c0:(if (0:Int) > (m:Int) then (0:Int) else (m:Int))=(m:Int):=if_neg (by omega)
 have c1:(if (t.now:Int) < (m:Int) then (t.now:Int) else (m:Int))=((min m t.now:Nat):Int):=by
  by_cases c:(t.now:Int) < (m:Int)
  ·rw[if_pos c];omega
  ·rw[if_neg c];omega
 have c1':(if t.now < m then (t.now:Int) else (m:Int))=((min m t.now:Nat):Int):=by
  by_cases c:t.now < m
  ·rw[if_pos c];omega
  ·rw[if_neg c];omega
 have c2:(t.now:Int) - ((min m t.now:Nat):Int)=((t.now - min m t.now:Nat):Int):=by omega
 rw[cM]
 simp only[aQ,M9,Oc,M5,NN]
 simp[a.ob,c0,c1,c1',c2,pn,fn]
theorem yI {h h':HH} (i:Nat) (hi:i < h.length) (ne:h'[i]?≠h[i]?) (w:W):fin h w h'=some (w,h'):=by
 unfold fin
 by_cases c:h'.length=h.length
 ·rw[if_pos c]
 ·rw[if_neg c,if_neg]
  intro z
  apply ne
  have q:=Ou (l:=h') hi
  rw[z] at q
  exact q.symm
noncomputable def Tp.new (p:Pg) (asked:List Int) (ev most:Nat):Tp:=⟨p,asked,ev,most,[St.zero],0,St.zero,0⟩
theorem pW (P:TpP T G) (k:Nat) (p:Pg) (asked:List Int) (ev most:Nat) (hv:1<=ev) (h:HH) :
 runN T G (k+2) (.m "Tape" "__init__") [.o h.length,.p (bw p),.p (.lst (aa asked)),.p (.int ev),.p (.int most)] (h++[.o "Tape" []])=some (.p .non,h++[.o "Tape" ((Tp.new p asked ev most).fs (h.length+1)),.l [St.zero.enc]]):=by
 rw[run_eq P.init rfl]
 have b:=uX P.prg k
 have c0:(if (1:Int) > (ev:Int) then (1:Int) else (ev:Int))=(ev:Int):=if_neg (by omega)
 have c1:(if (0:Int) > (most:Int) then (0:Int) else (most:Int))=(most:Int):=if_neg (by omega)
 have f:∀ (c:Cl) (g:HH) (w:W),c≠.o "Tape" []->fin (h++[.o "Tape" []]) w (h++c :: g)=some (w,h++c :: g):=fun c g w hc=>by
  refine yI h.length (by simp) ?_ w
  simp
  exact hc
 have f2:=f (.o "Tape" ((Tp.new p asked ev most).fs (h.length+1))) [.l [St.zero.enc]] (.p .non) (by simp[Tp.fs])
 have fs:(Tp.new p asked ev most).fs (h.length+1)=([("program",.p (bw p)),("asked",.p (.lst (aa asked))),("gap",.p (.int ev)),("most",.p (.int most)),("kept",.r (h.length+1)),("farthest",.p (.int 0)),("front",.p St.zero.enc),("now",.p (.int 0))]:List (Str×W)):=by simp[Tp.fs,Tp.new]
 rw[fs] at f2 ⊢
 rw[cL]
 simp only[aQ,M9,Oc,M5,NN]
 simp[c0,c1,b,f2]
theorem yJ {p:Pg}{asked:List Int}{ev most e:Nat} (hp:Pg.ok p) (ha:Ask asked) (R:Run p asked most e) (h1:1<=ev) (h2:ev<=1000) (h3:most<=1000):TI (Tp.new p asked ev most) e ev :=
 ⟨R,hp,ha,h1,h2,h3,Od _,rfl,by simp[Tp.new],by simp[Tp.new],fun j hj=>by
  have:j=0:=by simpa [Tp.new] using hj
  subst this
  simp[Tp.new,itr],Od _,⟨0,by simp[Tp.new],fun z=>absurd z (N3 _)⟩⟩
theorem yK (h:HH) (p:Pg) (asked:List Int) (ev most:Nat):TAt (h++[.o "Tape" ((Tp.new p asked ev most).fs (h.length+1)),.l [St.zero.enc]]) h.length (h.length+1) (Tp.new p asked ev most) :=
 ⟨by simp,by simp[Tp.new]⟩
theorem TAt.app {h g:HH}{n r:Nat}{t:Tp} (a:TAt h n r t):TAt (h++g) n r t:=⟨(tw (jh a.ob)).trans a.ob,(Bq (kK a.li)).trans a.li⟩
structure Two (h:HH) (n r:Nat) (t:Tp) (m s:Nat) (u:Tp):Prop where
 a:TAt h n r t
 b:TAt h m s u
 nm:n≠m
 rs:r≠s
theorem Two.fst {h h':HH}{n r r':Nat}{t t':Tp}{m s:Nat}{u:Tp} (x:Two h n r t m s u) (g:Go n h r t h' r' t'):Two h' n r' t' m s u:=by
 obtain ⟨q1,q2⟩:=g.other x.b (Ne.symm x.nm) (Ne.symm x.rs)
 exact ⟨g.b,q1,x.nm,Ne.symm q2⟩
end
end BT
end
section
namespace BT
open PySem
noncomputable def aZ:Fn:=⟨["_law_asked_sum","_law_state"],["_law_asked_sum","_law_state","_law_word","_law_one","_law_other"],
 (.seq (.set 2 "_law_word" (.idx (.var 0 "_law_asked_sum") (.cst (.int 0))))
 (.seq (.ife (.cmp .eq (.var 2 "_law_word") (.cst (.str "num"))) (.ret (.idx (.var 0 "_law_asked_sum") (.cst (.int 1)))) .nil)
 (.seq (.ife (.cmp .eq (.var 2 "_law_word") (.cst (.str "name"))) (.ret (.idx (.idx (.var 1 "_law_state") (.cst (.int 1))) (.me .sindex (.cst (.str "abcdef")) (.cons (.idx (.var 0 "_law_asked_sum") (.cst (.int 1))) .nil)))) .nil)
 (.seq (.set 3 "_law_one" (.call "_law_worth" (.cons (.idx (.var 0 "_law_asked_sum") (.cst (.int 1))) (.cons (.var 1 "_law_state") .nil))))
 (.seq (.ife (.cmp .eq (.var 2 "_law_word") (.cst (.str "cell"))) (.ret (.idx (.idx (.var 1 "_law_state") (.cst (.int 2))) (.bin .mod (.var 3 "_law_one") (.cst (.int 4))))) .nil)
 (.seq (.set 4 "_law_other" (.call "_law_worth" (.cons (.idx (.var 0 "_law_asked_sum") (.cst (.int 2))) (.cons (.var 1 "_law_state") .nil))))
 (.seq (.ife (.cmp .eq (.var 2 "_law_word") (.cst (.str "add"))) (.ret (.bin .mod (.bin .add (.var 3 "_law_one") (.var 4 "_law_other")) (.cst (.int 10007)))) .nil)
 (.seq (.ife (.cmp .eq (.var 2 "_law_word") (.cst (.str "sub"))) (.ret (.bin .mod (.bin .sub (.var 3 "_law_one") (.var 4 "_law_other")) (.cst (.int 10007)))) .nil)
 (.ret (.ite (.cmp .eq (.var 2 "_law_word") (.cst (.str "mul"))) (.bin .mod (.bin .mul (.var 3 "_law_one") (.var 4 "_law_other")) (.cst (.int 10007))) (.bi .int false (.cons (.cmp .lt (.var 3 "_law_one") (.var 4 "_law_other")) .nil))))))))))))⟩
noncomputable def aN:Fn:=⟨["_law_program_here","_law_state"],["_law_program_here","_law_state","_law_row_here"],
 (.seq (.set 2 "_law_row_here" (.idx (.bin .add (.var 0 "_law_program_here") (.tup (.cons (.tup (.cons (.cst (.str "stop")) .nil)) .nil))) (.idx (.var 1 "_law_state") (.cst (.int 0)))))
 (.ret (.or (.cmp .eq (.var 2 "_law_row_here") (.tup (.cons (.cst (.str "stop")) .nil))) (.or (.and (.cmp .eq (.var 2 "_law_row_here") (.tup (.cons (.cst (.str "back")) .nil))) (.cmp .eq (.idx (.var 1 "_law_state") (.cst (.int 3))) (.tup .nil))) (.and (.cmp .eq (.idx (.var 2 "_law_row_here") (.cst (.int 0))) (.cst (.str "call"))) (.cmp .gt (.bi .len false (.cons (.idx (.var 1 "_law_state") (.cst (.int 3))) .nil)) (.cst (.int 5))))))))⟩
noncomputable def bf:Fn:=⟨["_law_program_here","_law_asked_here","_law_state"],["_law_program_here","_law_asked_here","_law_state","_law_row_here"],
 (.seq (.set 3 "_law_row_here" (.idx (.var 0 "_law_program_here") (.idx (.var 2 "_law_state") (.cst (.int 0)))))
 (.seq (.ife (.cmp .eq (.idx (.var 3 "_law_row_here") (.cst (.int 0))) (.cst (.str "set"))) (.ret (.tup (.cons (.idx (.var 3 "_law_row_here") (.cst (.int 1))) (.cons (.call "_law_worth" (.cons (.idx (.var 3 "_law_row_here") (.cst (.int 2))) (.cons (.var 2 "_law_state") .nil))) .nil)))) .nil)
 (.seq (.ife (.cmp .eq (.idx (.var 3 "_law_row_here") (.cst (.int 0))) (.cst (.str "put"))) (.ret (.tup (.cons (.bin .mod (.call "_law_worth" (.cons (.idx (.var 3 "_law_row_here") (.cst (.int 1))) (.cons (.var 2 "_law_state") .nil))) (.cst (.int 4))) (.cons (.call "_law_worth" (.cons (.idx (.var 3 "_law_row_here") (.cst (.int 2))) (.cons (.var 2 "_law_state") .nil))) .nil)))) .nil)
 (.seq (.ife (.cmp .eq (.idx (.var 3 "_law_row_here") (.cst (.int 0))) (.cst (.str "ask"))) (.ret (.tup (.cons (.idx (.var 3 "_law_row_here") (.cst (.int 1))) (.cons (.idx (.bin .add (.var 1 "_law_asked_here") (.bin .mul (.lst false (.cons (.cst (.int 0)) .nil)) (.bin .add (.idx (.var 2 "_law_state") (.cst (.int 4))) (.cst (.int 1))))) (.idx (.var 2 "_law_state") (.cst (.int 4)))) .nil)))) .nil)
 (.ret (.cst .non))))))⟩
noncomputable def c6:Fn:=⟨["_law_state","_law_thing","_law_worth_here"],["_law_state","_law_thing","_law_worth_here","_law_names","_law_cells"],
 (.seq (.set 3 "_law_names" (.bi .list true (.cons (.idx (.var 0 "_law_state") (.cst (.int 1))) .nil)))
 (.seq (.set 4 "_law_cells" (.bi .list true (.cons (.idx (.var 0 "_law_state") (.cst (.int 2))) .nil)))
 (.seq (.ife (.bi .isStr false (.cons (.var 1 "_law_thing") .nil)) (.put 3 "_law_names" (.me .sindex (.cst (.str "abcdef")) (.cons (.var 1 "_law_thing") .nil)) (.var 2 "_law_worth_here")) (.put 4 "_law_cells" (.var 1 "_law_thing") (.var 2 "_law_worth_here")))
 (.ret (.bin .add (.tup (.cons (.idx (.var 0 "_law_state") (.cst (.int 0))) (.cons (.bi .tuple false (.cons (.var 3 "_law_names") .nil)) (.cons (.bi .tuple false (.cons (.var 4 "_law_cells") .nil)) .nil)))) (.slc (.var 0 "_law_state") (.cons (.cst (.int 3)) .nil) .nil))))))⟩
noncomputable def aG:Fn:=⟨["_law_program_here","_law_asked_here","_law_state"],["_law_program_here","_law_asked_here","_law_state","_law_row_here","_law_goal","_law_open_ones","_law_told_here","_law_said"],
 (.seq (.set 3 "_law_row_here" (.idx (.var 0 "_law_program_here") (.idx (.var 2 "_law_state") (.cst (.int 0)))))
 (.seq (.set 4 "_law_goal" (.bin .add (.idx (.var 2 "_law_state") (.cst (.int 0))) (.cst (.int 1))))
 (.seq (.set 5 "_law_open_ones" (.idx (.var 2 "_law_state") (.cst (.int 3))))
 (.seq (.ife (.or (.cmp .eq (.idx (.var 3 "_law_row_here") (.cst (.int 0))) (.cst (.str "jump"))) (.and (.cmp .eq (.idx (.var 3 "_law_row_here") (.cst (.int 0))) (.cst (.str "unless"))) (.cmp .eq (.call "_law_worth" (.cons (.idx (.var 3 "_law_row_here") (.cst (.int 1))) (.cons (.var 2 "_law_state") .nil))) (.cst (.int 0))))) (.set 4 "_law_goal" (.idx (.var 3 "_law_row_here") (.neg (.cst (.int 1))))) .nil)
 (.seq (.ife (.cmp .eq (.idx (.var 3 "_law_row_here") (.cst (.int 0))) (.cst (.str "call"))) (.seq (.set 5 "_law_open_ones" (.bin .add (.var 5 "_law_open_ones") (.tup (.cons (.var 4 "_law_goal") .nil))))
 (.set 4 "_law_goal" (.idx (.var 3 "_law_row_here") (.cst (.int 1))))) .nil)
 (.seq (.ife (.cmp .eq (.idx (.var 3 "_law_row_here") (.cst (.int 0))) (.cst (.str "back"))) (.seq (.set 4 "_law_goal" (.idx (.var 5 "_law_open_ones") (.neg (.cst (.int 1)))))
 (.set 5 "_law_open_ones" (.slc (.var 5 "_law_open_ones") .nil (.cons (.neg (.cst (.int 1))) .nil)))) .nil)
 (.seq (.set 6 "_law_told_here" (.call "_law_write" (.cons (.var 0 "_law_program_here") (.cons (.var 1 "_law_asked_here") (.cons (.var 2 "_law_state") .nil)))))
 (.seq (.ife (.cmp .notN (.var 6 "_law_told_here") (.cst .non)) (.set 2 "_law_state" (.call "_law_put" (.cons (.var 2 "_law_state") (.cons (.idx (.var 6 "_law_told_here") (.cst (.int 0))) (.cons (.idx (.var 6 "_law_told_here") (.cst (.int 1))) .nil))))) .nil)
 (.seq (.set 7 "_law_said" (.idx (.var 2 "_law_state") (.cst (.int 5))))
 (.seq (.ife (.cmp .eq (.idx (.var 3 "_law_row_here") (.cst (.int 0))) (.cst (.str "say"))) (.set 7 "_law_said" (.bin .add (.var 7 "_law_said") (.tup (.cons (.call "_law_worth" (.cons (.idx (.var 3 "_law_row_here") (.cst (.int 1))) (.cons (.var 2 "_law_state") .nil))) .nil)))) .nil)
 (.ret (.tup (.cons (.var 4 "_law_goal") (.cons (.idx (.var 2 "_law_state") (.cst (.int 1))) (.cons (.idx (.var 2 "_law_state") (.cst (.int 2))) (.cons (.var 5 "_law_open_ones") (.cons (.bin .add (.idx (.var 2 "_law_state") (.cst (.int 4))) (.bi .int false (.cons (.cmp .eq (.idx (.var 3 "_law_row_here") (.cst (.int 0))) (.cst (.str "ask"))) .nil))) (.cons (.var 7 "_law_said") .nil))))))))))))))))))⟩
noncomputable def k2C:E:=(.and (.cmp .le (.bi .len false (.cons (.var 3 "_law_found") .nil)) (.var 2 "_law_many")) (.not (.call "_law_is_over" (.cons (.var 0 "_law_program_here") (.cons (.idx (.var 3 "_law_found") (.neg (.cst (.int 1)))) .nil)))))
noncomputable def k2B:S:=(.ex (.me .append (.var 3 "_law_found") (.cons (.call "_law_step" (.cons (.var 0 "_law_program_here") (.cons (.var 1 "_law_asked_here") (.cons (.idx (.var 3 "_law_found") (.neg (.cst (.int 1)))) .nil)))) .nil)))
noncomputable def cg:Fn:=⟨["_law_program_here","_law_asked_here","_law_many"],["_law_program_here","_law_asked_here","_law_many","_law_found"],
 (.seq (.set 3 "_law_found" (.lst true (.cons (.tup (.cons (.cst (.int 0)) (.cons (.tup (.cons (.cst (.int 0)) (.cons (.cst (.int 0)) (.cons (.cst (.int 0)) (.cons (.cst (.int 0)) (.cons (.cst (.int 0)) (.cons (.cst (.int 0)) .nil))))))) (.cons (.tup (.cons (.cst (.int 0)) (.cons (.cst (.int 0)) (.cons (.cst (.int 0)) (.cons (.cst (.int 0)) .nil))))) (.cons (.tup .nil) (.cons (.cst (.int 0)) (.cons (.tup .nil) .nil))))))) .nil)))
 (.seq (.whl k2C k2B)
 (.ret (.var 3 "_law_found"))))⟩
structure LwS (T:FK->Option Fn):Prop where
 worth:T "_law_worth"=some aZ
 isover:T "_law_is_over"=some aN
 write:T "_law_write"=some bf
 put:T "_law_put"=some c6
 step:T "_law_step"=some aG
 states:T "_law_states"=some cg
section
variable {T:FK->Option Fn}{G:Str->Option W}
theorem yL {st:St} (ho:st.ok) (x:Nm):aI (.tup (aa st.names)) (.int x.ix)=some (.int (st.names.getD x.ix 0)):=by
 have xl:x.ix < st.names.length:=by rw[ho.nlen];exact x.sO
 rw[aL,eW]
 simp[aa,xl]
theorem yM {st:St} (ho:st.ok) (v:Int):aI (.tup (aa st.cells)) (.int (v % 4))=some (.int (st.cells.getD (v % 4).toNat 0)):=by
 have xl:(v % 4).toNat < st.cells.length:=by rw[ho.clen];omega
 have e:aI (.tup (aa st.cells)) (.int (((v % 4).toNat:Nat):Int))=some (.int (st.cells.getD (v % 4).toNat 0)):=by
  rw[aL,eW]
  simp[aa,xl]
 have e2:(((v % 4).toNat:Nat):Int)=v % 4:=by omega
 rw[e2] at e
 exact e
theorem gK (L:LwS T) (st:St) (ho:st.ok):∀ (s:Sm),s.ok->∀ (m:Nat) (h:HH),runN T G (m+s.size) "_law_worth" [.p s.enc,.p st.enc] h=some (.p (.int (s.val st)),h):=by
 intro s
 induction s with
 | num n =>
  intro _ m h
  rw[Sm.size,run_eq L.worth rfl]
  simp[aZ,Sm.enc,ah,Sm.val]
 | nam i =>
  intro _ m h
  rw[Sm.size,run_eq L.worth rfl]
  have e:=gJ i
  have x:=yL ho i
  simp[-aL,-Nx,aZ,Sm.enc,ah,e,x,Sm.val,ix0,ix1]
 | cell s ih =>
  intro hok m h
  rw[Sm.size,← Nat.add_assoc,run_eq L.worth rfl]
  have r:=ih hok m
  have x:=yM ho (s.val st)
  simp[-aL,-Nx,aZ,Sm.enc,ah,r,x,Sm.val,ix0,ix1]
 | two o s t ihs iht =>
  intro hok m h
  rw[Sm.size,← Nat.add_assoc,run_eq L.worth rfl]
  have r1:=fun h=>ihs hok.1 (m+t.size) h
  have r2:=fun h=>iht hok.2 (m+s.size) h
  have e1:m+t.size+s.size=m+(s.size+t.size):=by omega
  have e2:m+s.size+t.size=m+(s.size+t.size):=by omega
  rw[e1] at r1
  rw[e2] at r2
  have b:big (s.val st)=true:=by have:=Sm.mw (s:=s) ho hok.1;exact jg this.1 (by have:=this.2;omega)
  cases o<;>simp[aZ,Sm.enc,Op.w,ah,r1,r2,Sm.val,BT.two,b]
theorem jB (L:LwS T) (k:Nat) (p:Pg) (hpl:p.length<=1000) (st:St) (hi:InP p st) (h:HH):runN T G (k+1) "_law_is_over" [.p (bw p),.p st.enc] h=some (.p (.bl (over p st)),h):=by
 rw[run_eq L.isover rfl]
 have add:gR .add (bw p) (.tup [.tup [.str "stop"]])=some (.tup ((p++[Rw.stop]).map Rw.enc)):=by
  show gR .add (.tup (p.map Rw.enc)) _=_
  rw[cy,if_pos (by simp;omega)]
  simp[Rw.enc]
 obtain ⟨r,er,eo⟩:∃ r,(p++[Rw.stop])[st.row]?=some r/\over p st=r.over st:=by
  rcases M4 st.row p.length with q | q
  ·refine ⟨p[st.row],by rw[MO q];exact MT q,?_⟩
   rw[over,MT q]
  ·have e:st.row=p.length:=Nat.le_antisymm hi.row q
   refine ⟨.stop,by rw[M6 q,e];simp,?_⟩
   rw[over,MS q];rfl
 have ix:aI (.tup ((p++[Rw.stop]).map Rw.enc)) (.int st.row)=some r.enc:=by rw[aL,eW,Na,er];rfl
 have ok1:∀ x:D,aU x (.tup [.str "stop"])=true:=fun x=>fJ (by simp)
 have ok2:∀ x:D,aU x (.tup [.str "back"])=true:=fun x=>fJ (by simp)
 rw[eo]
 cases r with
 | call q =>
  have e:decide ((5:Int) < (st.calls.length:Int))=decide (6<=st.calls.length):=by
   by_cases c:6<=st.calls.length
   ·simp[c];omega
   ·simp[c];omega
  simp only[Rw.enc] at ix
  simp[-aL,-OZ,aN,add,ix,ok1,ok2,Rw.over,aA,ah,ix0,e]
 | back =>
  simp only[Rw.enc] at ix
  cases hc:st.calls with
  | nil=>simp[-aL,-OZ,aN,add,ix,ok1,ok2,Rw.over,aA,ah,ix0,hc]
  | cons a l=>simp[-aL,-OZ,aN,add,ix,ok1,ok2,Rw.over,aA,ah,ix0,hc]
 | _ =>
  simp only[Rw.enc] at ix
  simp[-aL,-OZ,aN,add,ix,ok1,ok2,Rw.over,aA,ah,ix0]
noncomputable def Rw.told (asked:List Int) (st:St):Rw->D
 | .set x s=>.tup [.str x.w,.int (s.val st)]
 | .put s t=>.tup [.int (s.val st % 4),.int (t.val st)]
 | .ask x=>.tup [.str x.w,.int (asked.getD st.asked 0)]
 | _=>.non
theorem yN (asked:List Int) (i:Nat):aI (.lst (aa asked++rep (i+1) [.int 0])) (.int i)=some (.int (asked.getD i 0)):=by
 rw[nV,aM,eW]
 rcases M4 i asked.length with c | c
 ·rw[MO (by rw[bJ];exact c)]
  simp[aa,c]
 ·have e:asked[i]?=none:=MS (by omega)
  rw[M6 (by rw[bJ];omega),bJ,NR,if_pos (by omega)]
  simp[e]
theorem lF (L:LwS T) (k:Nat) (p:Pg) (asked:List Int) (hal:asked.length<=1000) (st:St) (ho:st.ok) (hk:st.asked<=100) (r:Rw) (hr:r.ok p.length) (er:p[st.row]?=some r) (h:HH) :
 runN T G (k+16) "_law_write" [.p (bw p),.p (.lst (aa asked)),.p st.enc] h=some (.p (r.told asked st),h):=by
 rw[run_eq L.write rfl]
 have row:aI (bw p) (.int st.row)=some r.enc:=by
  show aI (.tup (p.map Rw.enc)) _=_
  rw[aL,eW,Na,er];rfl
 have wt:∀ s:Sm,kH s->∀ h,runN T G (k+15) "_law_worth" [.p s.enc,.p st.enc] h=some (.p (.int (s.val st)),h):=fun s hs h=>by
  have:=gK (G:=G) L st ho s hs.1 (k+(15 - s.size)) h
  have e:k+(15 - s.size)+s.size=k+15:=by have:=hs.2;omega
  rw[e] at this;exact this
 cases r with
 | set x s=>simp only[Rw.enc] at row;simp[-aL,bf,row,wt s hr,ah,Rw.told,ix0,ix1,ix2]
 | put s t=>simp only[Rw.enc] at row;simp[-aL,bf,row,wt s hr.1,wt t hr.2,ah,Rw.told,ix0,ix1,ix2]
 | ask x =>
  have z:=yN asked st.asked
  have a1:(-1000:Int)<=(st.asked:Int)+1:=by omega
  have a2:(st.asked:Int)+1<=1000:=by omega
  have a3:((st.asked:Int)+1).toNat=st.asked+1:=by omega
  have a4:st.asked+1<=100000:=by omega
  have a5:(aa asked).length+(rep (st.asked+1) [D.int 0]).length<=100000:=by rw[nV,bJ];simp;omega
  simp only[Rw.enc] at row
  simp only[Nx] at z
  simp[-aL,-aM,bf,row,ah,Rw.told,ix0,ix1,a1,a2,a3,a4,a5,z]
 | _=>simp only[Rw.enc] at row;simp[-aL,bf,row,ah,Rw.told,ix0]
@[simp] theorem Lz (st:St):mX st.enc (some 3) none=some (.tup [.tup (aA st.calls),.int st.asked,.tup (aa st.said)]):=rfl
theorem gM (L:LwS T) (k:Nat) (st:St) (ho:st.ok) (x:Nm) (v:Int) (h:HH):runN T G (k+1) "_law_put" [.p st.enc,.p (.str x.w),.p (.int v)] h=some (.p ({ st with names:=st.names.set x.ix v }:St).enc,h):=by
 rw[run_eq L.put rfl]
 have e:=gJ x
 have xl:(x.ix:Int) < ((aa st.names).length:Int):=by rw[bJ,ho.nlen];have:=x.sO;omega
 have s1:(aa st.names).set x.ix (.int v)=aa (st.names.set x.ix v):=ints_set _ _ _
 have bl1:biD .list [.tup (aa st.names)]=some (.lst (aa st.names)):=rfl
 have bl2:biD .list [.tup (aa st.cells)]=some (.lst (aa st.cells)):=rfl
 have p1:place (aa st.names).length (x.ix:Int)=some x.ix:=by simp[place,xl]
 simp[-place,c6,e,bl1,bl2,p1,s1,rd,fD]
 simp[St.enc,fD]
theorem lG (L:LwS T) (k:Nat) (st:St) (ho:st.ok) (q v:Int) (hq:0<=q) (hq4:q < 4) (h:HH):runN T G (k+1) "_law_put" [.p st.enc,.p (.int q),.p (.int v)] h=some (.p ({ st with cells:=st.cells.set q.toNat v }:St).enc,h):=by
 rw[run_eq L.put rfl]
 have s1:(aa st.cells).set q.toNat (.int v)=aa (st.cells.set q.toNat v):=ints_set _ _ _
 have bl1:biD .list [.tup (aa st.names)]=some (.lst (aa st.names)):=rfl
 have bl2:biD .list [.tup (aa st.cells)]=some (.lst (aa st.cells)):=rfl
 have p1:place (aa st.cells).length q=some q.toNat:=by
  have:q < ((aa st.cells).length:Int):=by rw[bJ,ho.clen];omega
  simp[place,hq,this]
 simp[-place,c6,bl1,bl2,p1,s1,rd,fD]
 simp[St.enc,fD]
theorem EW (xs:List D) (a:D):aI (.tup (xs++[a])) (.int (-1))=some a:=by
 have e2:-((xs.length:Int)+1)<=-1:=by omega
 have e3:(-1+((xs.length:Int)+1)).toNat=xs.length:=by omega
 simp[e2,e3]
theorem nY (L:LwS T) (k:Nat) (p:Pg) (hp:Pg.ok p) (asked:List Int) (hal:asked.length<=1000) (st:St) (ho:st.ok) (hs:st.small) (hk:st.asked<=100) (hb:over p st=false) (h:HH) :
 runN T G (k+17) "_law_step" [.p (bw p),.p (.lst (aa asked)),.p st.enc] h=some (.p (step p asked st).enc,h):=by
 rw[run_eq L.step rfl]
 have c:st.row < p.length:=by
  rcases M4 st.row p.length with q | q
  ·exact q
  ·rw[over,MS q] at hb;cases hb
 have e:p[st.row]?=some p[st.row]:=MT c
 have hr:=hp _ (OM c)
 have hb':(p[st.row]).over st=false:=by rw[over,e] at hb;exact hb
 rw[step,e]
 revert hr hb'
 generalize p[st.row]=r at *
 intro hr hb'
 have row:aI (bw p) (.int st.row)=some r.enc:=by
  show aI (.tup (p.map Rw.enc)) _=_
  rw[aL,eW,Na,e];rfl
 have wr:=lF (G:=G) L k p asked hal st ho hk r hr e
 have wt:∀ s:Sm,kH s->∀ h,runN T G (k+16) "_law_worth" [.p s.enc,.p st.enc] h=some (.p (.int (s.val st)),h):=fun s hs h=>by
  have:=gK (G:=G) L st ho s hs.1 (k+(16 - s.size)) h
  have e:k+(16 - s.size)+s.size=k+16:=by have:=hs.2;omega
  rw[e] at this;exact this
 have l1:=hs.sl
 have l2:=hs.cl
 cases r with
 | set x s =>
  have pt:=gM (G:=G) L (k+15) st ho x (s.val st)
  simp only[Rw.enc,Rw.told] at row wr
  simp[-aL,aG,row,wr,pt,ix0,ix1,ah,Rw.next]
  simp[St.enc]
 | put s t =>
  have pt:=lG (G:=G) L (k+15) st ho (s.val st % 4) (t.val st) (by omega) (by omega)
  simp only[Rw.enc,Rw.told] at row wr
  simp[-aL,aG,row,wr,pt,ix0,ix1,ah,Rw.next]
  simp[St.enc]
 | ask x =>
  have pt:=gM (G:=G) L (k+15) st ho x (asked.getD st.asked 0)
  simp only[Rw.enc,Rw.told] at row wr
  simp only[Nx] at wr pt ⊢
  simp[-aL,aG,row,wr,pt,ix0,ix1,ah,Rw.next]
  simp[St.enc]
 | say s =>
  have l3:(aa st.said).length+1<=100000:=by rw[bJ];omega
  simp only[Rw.enc,Rw.told] at row wr
  simp[-aL,aG,row,wr,wt s hr,ix0,ix1,ah,Rw.next,l3,ints_snoc]
  simp[St.enc]
 | jump q =>
  have m1:=EW [.str "jump"] (.int q)
  simp only[Rw.enc,Rw.told] at row wr
  simp only[NL] at m1
  simp[-aL,aG,row,wr,m1,ix0,ix1,ah,Rw.next]
  simp[St.enc]
 | «unless» s q =>
  have m1:=EW [.str "unless",s.enc] (.int q)
  simp only[List.cons_append,Oz] at m1
  simp only[Rw.enc,Rw.told] at row wr
  by_cases z:s.val st=0<;>simp[-aL,aG,row,wr,m1,wt s hr.1,z,ix0,ix1,ah,Rw.next]<;>simp[St.enc]
 | call q =>
  have l3:(aA st.calls).length+1<=100000:=by simp[aA];omega
  have e4:aA st.calls++[.int ((st.row:Int)+1)]=aA (st.calls++[st.row+1]):=by rw[← mD];simp
  simp only[Rw.enc,Rw.told] at row wr
  simp[-aL,aG,row,wr,ix0,ix1,ah,Rw.next,l3,e4]
  simp[St.enc]
 | back =>
  have cn:st.calls≠[]:=by
   intro e;simp[Rw.over,e] at hb'
  obtain ⟨l,x,el⟩:∃ l x,st.calls=l++[x]:=⟨st.calls.dropLast,st.calls.getLast cn,(OR cn).symm⟩
  have m1:=EW (aA l) (.int x)
  have en:aA st.calls=aA l++[.int x]:=by rw[el];simp[aA]
  rw[← en] at m1
  have e5:mX (.tup (aA st.calls)) none (some (-1))=some (.tup (aA st.calls.dropLast)):=by rw[mZ,pM]
  have gl:st.calls.getLast?.getD 0=x:=by simp[el]
  simp only[Rw.enc,Rw.told] at row wr
  simp[-aL,-mZ,aG,row,wr,m1,e5,ix0,ah,Rw.next,gl]
  simp[St.enc,gl]
 | stop=>simp[Rw.over] at hb'
theorem yO (L:LwS T) (k:Nat) (h:HH) (p:Pg) (hp:Pg.ok p) (hpl:p.length<=1000) (asked:List Int) (ha:Ask asked) (hal:asked.length<=1000) (many:Nat) (hm:many<=60):∀ (r f:Nat) (pre:List D) (st:St),pre.length+r=many->r<=f->At pre.length st->InP p st->st.asked<=pre.length →
 cQ (ev (runN T G (k+17)) G k2C) (evS (runN T G (k+17)) G k2B) (f+1) [some (.p (bw p)),some (.p (.lst (aa asked))),some (.p (.int many)),some (.r h.length)] (h++[.l (pre++[st.enc])]) =
  some (.nx [some (.p (bw p)),some (.p (.lst (aa asked))),some (.p (.int many)),some (.r h.length)] (h++[.l (pre++(sts p asked r st).map St.enc)])):=by
 intro r
 induction r with
 | zero =>
  intro f pre st hl hf a ip hk
  have c:¬ ((pre.length:Int)+1<=(many:Int)):=by omega
  simp[cQ,k2C,rd,c,sts]
 | succ r ih =>
  intro f pre st hl hf a ip hk
  have c:(pre.length:Int)+1<=(many:Int):=by omega
  have e2:-((pre.length:Int)+1)<=-1:=by omega
  have e3:(-1+((pre.length:Int)+1)).toNat=pre.length:=by omega
  have o:=jB (G:=G) L (k+16) p hpl st ip
  cases hb:over p st with
  | true =>
   rw[hb] at o
   simp[cQ,k2C,rd,c,sts,e2,e3,o,hb]
  | false =>
   rw[hb] at o
   have s:=nY (G:=G) L k p hp asked hal st a.ok (a.small (by omega)) (by omega) hb
   cases f with
   | zero=>omega
   | succ f =>
    have q:=ih f (pre++[st.enc]) (step p asked st) (by simp;omega) (by omega) (by simpa using sQ hp ha a hb) (yr hp ip hb) (by have:=qO p asked st;simp;omega)
    have hc:ev (runN T G (k+17)) G k2C [some (.p (bw p)),some (.p (.lst (aa asked))),some (.p (.int many)),some (.r h.length)] (h++[.l (pre++[st.enc])])=some (.p (.bl true),h++[.l (pre++[st.enc])]):=by
     simp[k2C,rd,c,e2,e3,o]
    have l:pre.length+1 < 100000:=by omega
    have hbd:evS (runN T G (k+17)) G k2B [some (.p (bw p)),some (.p (.lst (aa asked))),some (.p (.int many)),some (.r h.length)] (h++[.l (pre++[st.enc])]) =
     some (.nx [some (.p (bw p)),some (.p (.lst (aa asked))),some (.p (.int many)),some (.r h.length)] (h++[.l ((pre++[st.enc])++[(step p asked st).enc])])):=by
     simp[k2B,rd,e2,e3,s,l]
    rw[cQ,hc,j7,m7,hbd,iH,q]
    simp[sts,hb]
theorem kO (L:LwS T) (k:Nat) (p:Pg) (hp:Pg.ok p) (hpl:p.length<=1000) (asked:List Int) (ha:Ask asked) (hal:asked.length<=1000) (many:Nat) (hm:many<=60) (h:HH) :
 runN T G (k+18) "_law_states" [.p (bw p),.p (.lst (aa asked)),.p (.int many)] h=some (.p (.lst ((sts p asked many St.zero).map St.enc)),h):=by
 rw[run_eq L.states rfl]
 have q:=yO (G:=G) L k h p hp hpl asked ha hal many hm many 99999 [] St.zero (by simp) (by omega) sP (yq p) (MR _)
 simp only[Oz] at q
 have q':cQ (ev (runN T G (k+17)) G k2C) (evS (runN T G (k+17)) G k2B) 100000 [some (.p (bw p)),some (.p (.lst (aa asked))),some (.p (.int many)),some (.r h.length)] (h++[.l [St.zero.enc]]) =
  some (.nx [some (.p (bw p)),some (.p (.lst (aa asked))),some (.p (.int many)),some (.r h.length)] (h++[.l ((sts p asked many St.zero).map St.enc)])):=q
 have z:St.zero.enc=.tup [.int 0,.tup [.int 0,.int 0,.int 0,.int 0,.int 0,.int 0],.tup [.int 0,.int 0,.int 0,.int 0],.tup [],.int 0,.tup []]:=rfl
 rw[z] at q'
 simp[cg,turns,q',Cz]
end
end BT
end
section
namespace BT
open PySem
noncomputable def dD:Fn:=⟨["self","moment"],["self","moment"],(.ife (.not (.meth (.var 0 "self") "has" (.cons (.var 1 "moment") .nil))) (.seq (.ex (.make "NoMoment" (.cons (.var 1 "moment") .nil))) .bad) .nil)⟩
noncomputable def jt:Fn:=⟨["self","moment"],["self","moment","state","step"],(.seq (.ex (.meth (.var 0 "self") "check" (.cons (.var 1 "moment") .nil))) .bad)⟩
noncomputable def gO:Fn:=⟨["self","moment"],["self","moment"],(.seq (.ex (.meth (.var 0 "self") "check" (.cons (.var 1 "moment") .nil))) .bad)⟩
structure TpX (TX:FK->Option Fn):Prop where
 check:TX (.m "Tape" "check")=some dD
 at_:TX (.m "Tape" "at")=some jt
noncomputable def NoM (e:Nat) (z:Int):Prop:=z < 0\/(e:Int) < z
section
variable {T TX:FK->Option Fn}{G:Str->Option W}
theorem yP (P:TpP T G) (k:Nat) {n r:Nat}{t:Tp}{h:HH}{e ev:Nat} (a:TAt h n r t) (I:TI t e ev) (z:Int) (hz:NoM e z) :
 ∃ h' r' t',runN T G (k+9) (.m "Tape" "has") [.o n,.p (.int z)] h=some (.p (.bl false),h')/\Go n h r t h' r' t'/\TI t' e ev/\Sm8 t t':=by
 by_cases c:0<=z/\z<=(t.most:Int)
 ·obtain ⟨m,rfl⟩:∃ m:Nat,z=(m:Int):=⟨z.toNat,by omega⟩
  obtain ⟨h',r',t',b,g,I',s,f⟩:=tG P k a I m (by omega)
  refine ⟨h',r',t',?_,g,I',s⟩
  rw[b,decide_eq_false]
  rcases hz with hz | hz<;>omega
 ·refine ⟨h,r,t,?_,.refl a,I,⟨rfl,rfl,rfl,rfl⟩⟩
  rw[run_eq P.has rfl]
  have w:=iV P (k+7) z
  have c1:z < 0\/(t.most:Int) < z:=by omega
  by_cases c2:z < 0
  ·simp[bS,w,c2,ah]
  ·have c3:(t.most:Int) < z:=by omega
   simp[bS,w,c2,c3,a.ob,ah]
theorem iW (P:TpP T G) (k:Nat) {n r:Nat}{t:Tp}{h:HH}{e ev:Nat} (a:TAt h n r t) (I:TI t e ev) (z:Int) (hz:NoM e z):runN T G (k+10) (.m "Tape" "check") [.o n,.p (.int z)] h=none:=by
 obtain ⟨h',r',t',b,g,I',s⟩:=yP P k a I z hz
 rw[run_eq P.check rfl]
 simp[bM,a.ob,yE,b]
theorem HV (P:TpP T G) (k:Nat) {n r:Nat}{t:Tp}{h:HH}{e ev:Nat} (a:TAt h n r t) (I:TI t e ev) (z:Int) (hz:NoM e z):runN T G (k+11) (.m "Tape" "at") [.o n,.p (.int z)] h=none:=by
 have b:=iW P k a I z hz
 rw[run_eq P.at_ rfl]
 simp[cZ,a.ob,gE,b]
theorem HW (P:TpP T G) (M:TpM T) (k:Nat) {n r:Nat}{t:Tp}{h:HH}{e ev:Nat} (a:TAt h n r t) (I:TI t e ev) (z:Int) (hz:NoM e z):runN T G (k+11) (.m "Tape" "to") [.o n,.p (.int z)] h=none:=by
 have b:=iW P k a I z hz
 rw[run_eq M.to rfl]
 simp[c5,a.ob,gE,b]
theorem tL (P:TpP T G) (X:TpX TX) (k:Nat) {n r:Nat}{t:Tp}{h:HH}{e ev:Nat} (a:TAt h n r t) (I:TI t e ev) (z:Int) (hz:NoM e z) (hb:big z=true) :
 ∃ h' r' t',dY T TX G (k+10) (.m "Tape" "check") [.o n,.p (.int z)] h=some (MU "NoMoment",h')/\Go n h r t h' r' t'/\TI t' e ev/\Sm8 t t':=by
 obtain ⟨h',r',t',b,g,I',s⟩:=yP P k a I z hz
 refine ⟨h',r',t',?_,g,I',s⟩
 rw[nO X.check rfl]
 simp[dD,rsS,rsI,a.ob,yE,b,hb]
theorem LA (P:TpP T G) (X:TpX TX) (k:Nat) {n r:Nat}{t:Tp}{h:HH}{e ev:Nat} (a:TAt h n r t) (I:TI t e ev) (z:Int) (hz:NoM e z) (hb:big z=true) :
 ∃ h' r' t',dY T TX G (k+11) (.m "Tape" "at") [.o n,.p (.int z)] h=some (MU "NoMoment",h')/\Go n h r t h' r' t'/\TI t' e ev/\Sm8 t t':=by
 obtain ⟨h',r',t',b,g,I',s⟩:=tL P X k a I z hz hb
 refine ⟨h',r',t',?_,g,I',s⟩
 have c:=iW P k a I z hz
 rw[nO X.at_ rfl]
 simp[jt,rsS,rsE,nN,rsM,a.ob,gE,c,b]
theorem LB (P:TpP T G) (X:TpX TX) (hX:TX (.m "Tape" "to")=some gO) (k:Nat) {n r:Nat}{t:Tp}{h:HH}{e ev:Nat} (a:TAt h n r t) (I:TI t e ev) (z:Int) (hz:NoM e z) (hb:big z=true) :
 ∃ h' r' t',dY T TX G (k+11) (.m "Tape" "to") [.o n,.p (.int z)] h=some (MU "NoMoment",h')/\Go n h r t h' r' t'/\TI t' e ev/\Sm8 t t':=by
 obtain ⟨h',r',t',b,g,I',s⟩:=tL P X k a I z hz hb
 refine ⟨h',r',t',?_,g,I',s⟩
 have c:=iW P k a I z hz
 rw[nO hX rfl]
 simp[gO,rsS,rsE,nN,rsM,a.ob,gE,c,b]
end
end BT
end
section
namespace BT
open PySem
noncomputable def bA:Fn:=⟨["_law_e"],["_law_e","_law_flags"],
 (.seq (.set 1 "_law_flags" (.lst false (.cons (.isx "NoMoment" (.var 0 "_law_e")) (.cons (.isx "NoRun" (.var 0 "_law_e")) (.cons (.isx "NoThing" (.var 0 "_law_e")) .nil)))))
 (.seq (.set 1 "_law_flags" (.bin .add (.var 1 "_law_flags") (.lst false (.cons (.isx "NoText" (.var 0 "_law_e")) .nil))))
 (.seq (.ife (.or (.cmp .ne (.me .count (.var 1 "_law_flags") (.cons (.cst (.bl true)) .nil)) (.cst (.int 1))) (.not (.isx "ValueError" (.var 0 "_law_e")))) (.ret (.tup (.cons (.cst (.str "refused")) (.cons (.neg (.cst (.int 1))) .nil)))) .nil)
 (.ret (.tup (.cons (.cst (.str "refused")) (.cons (.me .lindex (.var 1 "_law_flags") (.cons (.cst (.bl true)) .nil)) .nil)))))))⟩
noncomputable def ay:Fn:=⟨["_law_tape","_law_way","_law_number"],["_law_tape","_law_way","_law_number","_law_e"],
 (.seq (.ife (.cmp .eq (.var 1 "_law_way") (.cst (.int 0))) (.ret (.meth (.var 0 "_law_tape") "at" (.cons (.var 2 "_law_number") .nil))) .nil)
 (.seq (.ife (.cmp .eq (.var 1 "_law_way") (.cst (.int 1))) (.ret (.meth (.var 0 "_law_tape") "to" (.cons (.var 2 "_law_number") .nil))) .nil)
 (.seq (.ife (.cmp .eq (.var 1 "_law_way") (.cst (.int 2))) (.ret (.meth (.var 0 "_law_tape") "go" (.cons (.var 2 "_law_number") .nil))) .nil)
 (.ret (.meth (.var 0 "_law_tape") "back" (.cons (.var 2 "_law_number") .nil))))))⟩
noncomputable def yQ:E:=(.or (.cmp .ne (.call "_law_told" (.cons (.var 5 "_law_tape") (.cons (.var 9 "_law_way") (.cons (.var 10 "_law_number") .nil)))) (.var 11 "_law_told_here")) (.or (.cmp .ne (.meth (.var 5 "_law_tape") "moment" .nil) (.var 7 "_law_here")) (.cmp .ne (.meth (.var 5 "_law_tape") "state" .nil) (.idx (.var 4 "_law_due") (.var 7 "_law_here")))))
noncomputable def qS:S:=(.seq (.set 11 "_law_told_here" (.idx (.lst false (.cons (.idx (.var 4 "_law_due") (.var 10 "_law_number")) (.cons (.cst .non) .nil))) (.var 9 "_law_way")))
 (.set 7 "_law_here" (.idx (.lst false (.cons (.var 7 "_law_here") (.cons (.var 10 "_law_number") .nil))) (.var 9 "_law_way"))))
noncomputable def nZ:S:=(.seq (.set 10 "_law_number" (.bin .sub (.var 10 "_law_number") (.cst (.int 2))))
 (.seq (.set 11 "_law_told_here" (.tup (.cons (.cst (.str "refused")) (.cons (.cst (.int 0)) .nil))))
 (.ife (.chain .le .lt (.cst (.int 0)) (.var 10 "_law_number") (.bi .len false (.cons (.var 4 "_law_due") .nil))) qS .nil)))
noncomputable def Bt:S:=(.seq (.set 11 "_law_told_here" (.bi .min2 false (.cons (.var 10 "_law_number") (.cons (.bin .sub (.bin .sub (.bi .len false (.cons (.var 4 "_law_due") .nil)) (.cst (.int 1))) (.var 7 "_law_here")) .nil))))
 (.set 7 "_law_here" (.bin .add (.var 7 "_law_here") (.var 11 "_law_told_here"))))
noncomputable def Bu:S:=(.seq (.set 11 "_law_told_here" (.bi .min2 false (.cons (.var 10 "_law_number") (.cons (.var 7 "_law_here") .nil))))
 (.set 7 "_law_here" (.bin .sub (.var 7 "_law_here") (.var 11 "_law_told_here"))))
noncomputable def EX:E:=(.and (.cmp .eq (.meth (.var 5 "_law_tape") "end" .nil) (.bin .sub (.bi .len false (.cons (.var 4 "_law_due") .nil)) (.cst (.int 1)))) (.and (.cmp .eq (.meth (.var 6 "_law_other") "moment" .nil) (.cst (.int 0))) (.cmp .eq (.meth (.var 6 "_law_other") "state" .nil) (.idx (.var 4 "_law_due") (.cst (.int 0))))))
noncomputable def qT:S:=(.seq (.set 9 "_law_way" (.call "_law_drawn" (.cons (.var 0 "_law_script") (.cons (.bin .add (.cst (.int 500)) (.bin .mul (.cst (.int 3)) (.var 8 "_law_k"))) (.cons (.cst (.int 4)) .nil)))))
 (.seq (.set 10 "_law_number" (.call "_law_drawn" (.cons (.var 0 "_law_script") (.cons (.bin .add (.cst (.int 501)) (.bin .mul (.cst (.int 3)) (.var 8 "_law_k"))) (.cons (.cst (.int 36)) .nil)))))
 (.seq (.set 11 "_law_told_here" (.cst .non))
 (.seq (.ife (.cmp .lt (.var 9 "_law_way") (.cst (.int 2))) nZ (.ife (.cmp .eq (.var 9 "_law_way") (.cst (.int 2))) Bt Bu))
 (.ife yQ (.ret (.cst (.bl false))) .nil)))))
noncomputable def dF:Fn:=⟨["_law_script"],["_law_script","_law_program_here","_law_asked_here","_law_most","_law_due","_law_tape","_law_other","_law_here","_law_k","_law_way","_law_number","_law_told_here"],
 (.seq (.set 1 "_law_program_here" (.call "_law_program" (.cons (.var 0 "_law_script") (.cons (.cst (.int 20)) .nil))))
 (.seq (.set 2 "_law_asked_here" (.call "_law_asked" (.cons (.var 0 "_law_script") (.cons (.cst (.int 450)) .nil))))
 (.seq (.set 3 "_law_most" (.call "_law_drawn" (.cons (.var 0 "_law_script") (.cons (.cst (.int 440)) (.cons (.cst (.int 31)) .nil)))))
 (.seq (.set 4 "_law_due" (.call "_law_states" (.cons (.var 1 "_law_program_here") (.cons (.var 2 "_law_asked_here") (.cons (.var 3 "_law_most") .nil)))))
 (.seq (.set 5 "_law_tape" (.make "Tape" (.cons (.var 1 "_law_program_here") (.cons (.var 2 "_law_asked_here") (.cons (.bin .add (.cst (.int 1)) (.call "_law_drawn" (.cons (.var 0 "_law_script") (.cons (.cst (.int 441)) (.cons (.cst (.int 4)) .nil))))) (.cons (.var 3 "_law_most") .nil))))))
 (.seq (.set 6 "_law_other" (.make "Tape" (.cons (.var 1 "_law_program_here") (.cons (.var 2 "_law_asked_here") (.cons (.cst (.int 2)) (.cons (.var 3 "_law_most") .nil))))))
 (.seq (.set 7 "_law_here" (.cst (.int 0)))
 (.seq (.for [(8,"_law_k")] .rng1 (.cons (.bi .max2 false (.cons (.cst (.int 1)) (.cons (.bi .min2 false (.cons (.cst (.int 10)) (.cons (.bi .len false (.cons (.var 0 "_law_script") .nil)) .nil))) .nil))) .nil) qT)
 (.ret EX)))))))))⟩
theorem HX (t:Tp) (r:Nat):aX "to" (t.fs r)=none:=bW t r rfl
theorem LC (t:Tp) (r:Nat):aX "go" (t.fs r)=none:=bW t r rfl
theorem EY (t:Tp) (r:Nat):aX "back" (t.fs r)=none:=bW t r rfl
theorem pX (t:Tp) (r:Nat):aX "moment" (t.fs r)=none:=bW t r rfl
theorem tM (t:Tp) (r:Nat):aX "state" (t.fs r)=none:=bW t r rfl
structure Bv (T TX:FK->Option Fn):Prop where
 lw:Lw T
 program:T "_law_program"=some aP
 own:LwS T
 x:TpX TX
 xto:TX (.m "Tape" "to")=some gO
theorem mJ (h:HH):BS.qH bA [.x "NoMoment"] h=some (.p (.tup [.str "refused",.int 0]),h):=by
 unfold BS.qH BS.jz
 simp[bA,j6,ah,vY,vZ,eY]
section
variable {T TX:FK->Option Fn}{G:Str->Option W}
noncomputable def bT (T TX:FK->Option Fn) (G:Str->Option W) (k:Nat):List W->HH->Option (W×HH):=BS.gf (runN T G k) (dY T TX G k) G ay bA
theorem EZ (P:TpP T G) (k:Nat) {n r:Nat}{t:Tp}{h:HH}{e ev:Nat} (a:TAt h n r t) (I:TI t e ev) (m:Nat) (hm:m<=e) :
 ∃ h' r' t',bT T TX G (k+11) [.o n,.p (.int 0),.p (.int m)] h=some (.p (itr t.p t.asked m).enc,h')/\Go n h r t h' r' t'/\TI t' e ev/\Sm8 t t':=by
 obtain ⟨h',r',t',b,g,I',s,f⟩:=yG P k a I m hm
 refine ⟨h',r',t',?_,g,I',s⟩
 have fg:=cz g (.p (itr t.p t.asked m).enc)
 unfold bT BS.gf
 simp[ay,a.ob,ET,b,fg]
theorem Bw (P:TpP T G) (X:TpX TX) (k:Nat) {n r:Nat}{t:Tp}{h:HH}{e ev:Nat} (a:TAt h n r t) (I:TI t e ev) (z:Int) (hz:NoM e z) (hb:big z=true) :
 ∃ h' r' t',bT T TX G (k+11) [.o n,.p (.int 0),.p (.int z)] h=some (.p (.tup [.str "refused",.int 0]),h')/\Go n h r t h' r' t'/\TI t' e ev/\Sm8 t t':=by
 obtain ⟨h',r',t',b,g,I',s⟩:=LA P X k a I z hz hb
 refine ⟨h',r',t',?_,g,I',s⟩
 have c:=HV P k a I z hz
 have rf:=mJ h'
 have hx:BS.eB (MU "NoMoment")=true:=by decide
 unfold bT BS.gf
 simp[ay,a.ob,ET,c,b,rsS,rsI,rsE,nN,rsM,hx,rf]
theorem E2 (P:TpP T G) (M:TpM T) (k:Nat) {n r:Nat}{t:Tp}{h:HH}{e ev:Nat} (a:TAt h n r t) (I:TI t e ev) (m:Nat) (hm:m<=e) :
 ∃ h' r' t',bT T TX G (k+11) [.o n,.p (.int 1),.p (.int m)] h=some (.p .non,h')/\Go n h r t h' r' t'/\TI t' e ev/\Sm7 t t'/\t'.now=m:=by
 obtain ⟨h',r',t',b,g,I',s,q,f⟩:=EU P M k a I m hm
 refine ⟨h',r',t',?_,g,I',s,q⟩
 have fg:=cz g (.p .non)
 unfold bT BS.gf
 simp[ay,a.ob,HX,b,fg]
theorem Bx (P:TpP T G) (M:TpM T) (X:TpX TX) (hX:TX (.m "Tape" "to")=some gO) (k:Nat) {n r:Nat}{t:Tp}{h:HH}{e ev:Nat} (a:TAt h n r t) (I:TI t e ev) (z:Int) (hz:NoM e z) (hb:big z=true) :
 ∃ h' r' t',bT T TX G (k+11) [.o n,.p (.int 1),.p (.int z)] h=some (.p (.tup [.str "refused",.int 0]),h')/\Go n h r t h' r' t'/\TI t' e ev/\Sm8 t t':=by
 obtain ⟨h',r',t',b,g,I',s⟩:=LB P X hX k a I z hz hb
 refine ⟨h',r',t',?_,g,I',s⟩
 have c:=HW P M k a I z hz
 have rf:=mJ h'
 have hx:BS.eB (MU "NoMoment")=true:=by decide
 unfold bT BS.gf
 simp[ay,a.ob,HX,c,b,rsS,rsI,rsE,nN,rsM,hx,rf]
theorem E3 (P:TpP T G) (M:TpM T) (k:Nat) {n r:Nat}{t:Tp}{h:HH}{e ev:Nat} (a:TAt h n r t) (I:TI t e ev) (m:Nat) :
 ∃ h' r' t',bT T TX G (k+11) [.o n,.p (.int 2),.p (.int m)] h=some (.p (.int ((min m (e - t.now):Nat):Int)),h')/\Go n h r t h' r' t'/\TI t' e ev/\Sm7 t t'/\t'.now=t.now+min m (e - t.now):=by
 obtain ⟨h',r',t',b,g,I',s,q,f⟩:=EV P M (k+1) a I m
 refine ⟨h',r',t',?_,g,I',s,q⟩
 have fg:=cz g (.p (.int ((min m (e - t.now):Nat):Int)))
 generalize ((min m (e - t.now):Nat):Int)=zz at b fg ⊢
 unfold bT BS.gf
 simp[ay,a.ob,LC,b,fg]
theorem E4 (P:TpP T G) (M:TpM T) (k:Nat) {n r:Nat}{t:Tp}{h:HH}{e ev:Nat} (a:TAt h n r t) (I:TI t e ev) (m:Nat) :
 ∃ h' r' t',bT T TX G (k+11) [.o n,.p (.int 3),.p (.int m)] h=some (.p (.int ((min m t.now:Nat):Int)),h')/\Go n h r t h' r' t'/\TI t' e ev/\Sm7 t t'/\t'.now=t.now - min m t.now:=by
 obtain ⟨h',t',b,g,I',s,q,f⟩:=yH P M (k+10) a I m
 refine ⟨h',r,t',?_,g,I',s,q⟩
 have fg:=cz g (.p (.int ((min m t.now:Nat):Int)))
 generalize ((min m t.now:Nat):Int)=zz at b fg ⊢
 unfold bT BS.gf
 simp[ay,a.ob,EY,b,fg]
structure F10 (T TX:FK->Option Fn) (G:Str->Option W) (k:Nat) (F:FK->List W->HH->Option (W×HH)):Prop where
 me:∀ c m,F (.m c m)=runN T G (k+18) (.m c m)
 fn:∀ y:Str,¬ y="_law_told"->F (.f y)=runN T G (k+18) (.f y)
 told:F (.f "_law_told")=bT T TX G (k+17)
theorem u6 (lo:Int) (q:Nat):upto lo (q+1)=.int lo :: upto (lo+1) q:=by
 unfold upto
 rw[Pp,M9,Qm]
 simp only[Pq,Int.add_zero,OJ,true_and]
 apply OY
 intro i _
 simp;omega
noncomputable def due (pg:Pg) (asked:List Int) (e:Nat):D:=.lst (((Nv (e+1)).map (itr pg asked)).map St.enc)
theorem tN (pg:Pg) (asked:List Int) (e:Nat):biD .len [due pg asked e]=some (.int ((e:Int)+1)):=by simp[due]
theorem n8 (pg:Pg) (asked:List Int) (e i:Nat) (h:i<=e):aI (due pg asked e) (.int (i:Int))=some (itr pg asked i).enc:=by
 rw[due,aM,eW,Na,Na,PV (by omega)];rfl
variable {F:FK->List W->HH->Option (W×HH)}
theorem fE (P:TpP T G) (M:TpM T) {k:Nat} (Y:F10 T TX G k F) (pg:Pg) (asked:List Int) (e gv:Nat) (w0 w1 w2 w3:W) (x6 x8:Option W) (way num:Int) (d:D) (hr:Nat) (hd:dP .ne d d=some false)
 {h h1:HH}{n r r1:Nat}{t t1:Tp} (b:bT T TX G (k+17) [.o n,.p (.int way),.p (.int num)] h=some (.p d,h1)) (g:Go n h r t h1 r1 t1) (I:TI t1 e gv) (nw:t1.now=hr) (tp:t1.p=pg) (ta:t1.asked=asked) :
 ∃ h' r' t',ev F G yQ [some w0,some w1,some w2,some w3,some (.p (due pg asked e)),some (.o n),x6,some (.p (.int hr)),x8,some (.p (.int way)),some (.p (.int num)),some (.p d)] h=some (.p (.bl false),h') ∧
  Go n h r t h' r' t'/\TI t' e gv/\Sm8 t1 t':=by
 have b1:F (.m "Tape" "moment") [.o n] h1=some (.p (.int hr),h1):=by rw[Y.me,← nw];exact kN M (k+17) g.b
 obtain ⟨h2,r2,t2,b2,g2,I2,s2,f2⟩:=mH P M (k+6) g.b I
 have b3:F (.m "Tape" "state") [.o n] h1=some (.p (itr pg asked hr).enc,h2):=by rw[Y.me,← nw,← tp,← ta];exact b2
 have le:hr<=e:=by rw[← nw];have:=I.now;have:=I.far;omega
 have ix:=n8 pg asked e hr le
 refine ⟨h2,r2,t2,?_,g.trans g2,I2,s2⟩
 have hd2:dP .ne (itr pg asked hr).enc (itr pg asked hr).enc=some false:=by simp
 have hd3:dP .ne (.int (hr:Int)) (.int (hr:Int))=some false:=by simp
 rw[yQ]
 simp[-jF,-aM,Y.told,b,hd,g.b.ob,pX,b1,tM,b3,ix,hd2,hd3]
theorem CF (x y:D):aI (.lst [x,y]) (.int 0)=some x:=rfl
theorem CG (x y:D):aI (.lst [x,y]) (.int 1)=some y:=rfl
theorem yR:dP .ne (.tup [.str "refused",.int 0]) (.tup [.str "refused",.int 0])=some false:=by
 rw[jF,if_pos (fJ (by simp))];simp
theorem u9 (P:TpP T G) (M:TpM T) (L:Bv T TX) {k:Nat} (Y:F10 T TX G k F) (pg:Pg) (asked:List Int) (e gv:Nat) (w0 w1 w2 w3:W) (x6 x8:Option W) (way z:Nat) (hw:way < 4) (hz:z < 36)
 {h:HH}{n r:Nat}{t:Tp} (a:TAt h n r t) (I:TI t e gv) (tp:t.p=pg) (ta:t.asked=asked) :
 ∃ (num:Int) (d:D) (h':HH) (r':Nat) (t':Tp),evS F G (.seq (.ife (.cmp .lt (.var 9 "_law_way") (.cst (.int 2))) nZ (.ife (.cmp .eq (.var 9 "_law_way") (.cst (.int 2))) Bt Bu)) (.ife yQ (.ret (.cst (.bl false))) .nil))
  [some w0,some w1,some w2,some w3,some (.p (due pg asked e)),some (.o n),x6,some (.p (.int t.now)),x8,some (.p (.int way)),some (.p (.int z)),some (.p .non)] h =
  some (.nx [some w0,some w1,some w2,some w3,some (.p (due pg asked e)),some (.o n),x6,some (.p (.int t'.now)),x8,some (.p (.int way)),some (.p (.int num)),some (.p d)] h') ∧
  Go n h r t h' r' t'/\TI t' e gv/\Sm7 t t':=by
 have dl:=tN pg asked e
 have nwe:t.now<=e:=by have:=I.now;have:=I.far;omega
 have s8:∀ {a b c:Tp},Sm7 a b->Sm8 b c->Sm7 a c:=fun x y=>⟨y.p.trans x.p,y.asked.trans x.asked,y.most.trans x.most⟩
 match way,hw with
 | 0,_ =>
  by_cases c:2<=z/\z - 2<=e
  ·obtain ⟨h1,r1,t1,b,g,I1,s1⟩:=EZ (TX:=TX) P (k+6) a I (z - 2) c.2
   obtain ⟨h2,r2,t2,b2,g2,I2,s2⟩:=fE P M Y pg asked e gv w0 w1 w2 w3 x6 x8 0 ((z - 2:Nat):Int) (itr t.p t.asked (z - 2)).enc t.now (by simp) b g I1 s1.now (s1.p.trans tp) (s1.asked.trans ta)
   rw[tp,ta] at b2
   refine ⟨((z - 2:Nat):Int),(itr pg asked (z - 2)).enc,h2,r2,t2,?_,g2,I2,s8 s1.s7 s2⟩
   have e1:(z:Int) - 2=((z - 2:Nat):Int):=by omega
   have ix:=n8 pg asked e (z - 2) c.2
   have c1:((z - 2:Nat):Int) < (e:Int)+1:=by omega
   have c0:(0:Int)<=((z - 2:Nat):Int):=by omega
   have nn:t2.now=t.now:=by rw[s2.now,s1.now]
   rw[nn]
   generalize ((z - 2:Nat):Int)=zz at *
   simp[-aM,-bK,nZ,qS,e1,dl,c0,c1,ix,CF,CG,b2]
  ·have nm:NoM e ((z:Int) - 2):=by unfold NoM;omega
   obtain ⟨h1,r1,t1,b,g,I1,s1⟩:=Bw P L.x (k+6) a I ((z:Int) - 2) nm (by simp[big];omega)
   obtain ⟨h2,r2,t2,b2,g2,I2,s2⟩:=fE P M Y pg asked e gv w0 w1 w2 w3 x6 x8 0 ((z:Int) - 2) (.tup [.str "refused",.int 0]) t.now yR b g I1 s1.now (s1.p.trans tp) (s1.asked.trans ta)
   refine ⟨(z:Int) - 2,.tup [.str "refused",.int 0],h2,r2,t2,?_,g2,I2,s8 s1.s7 s2⟩
   have nn:t2.now=t.now:=by rw[s2.now,s1.now]
   rw[nn]
   unfold NoM at nm
   obtain ⟨zz,e1⟩:∃ zz:Int,(z:Int) - 2=zz:=⟨_,rfl⟩
   rw[e1] at b2 nm ⊢
   by_cases c0:(0:Int)<=zz
   ·have c1:¬ (zz < (e:Int)+1):=by omega
    simp[-aM,-bK,nZ,qS,e1,dl,c0,c1,b2]
   ·simp[-aM,-bK,nZ,qS,e1,dl,c0,b2]
 | 1,_ =>
  by_cases c:2<=z/\z - 2<=e
  ·obtain ⟨h1,r1,t1,b,g,I1,s1,n1⟩:=E2 (TX:=TX) P M (k+6) a I (z - 2) c.2
   obtain ⟨h2,r2,t2,b2,g2,I2,s2⟩:=fE P M Y pg asked e gv w0 w1 w2 w3 x6 x8 1 ((z - 2:Nat):Int) .non (z - 2) (by rw[jF,if_pos (fJ (by simp))];simp) b g I1 n1 (s1.p.trans tp) (s1.asked.trans ta)
   refine ⟨((z - 2:Nat):Int),.non,h2,r2,t2,?_,g2,I2,s8 s1 s2⟩
   have e1:(z:Int) - 2=((z - 2:Nat):Int):=by omega
   have ix:=n8 pg asked e (z - 2) c.2
   have c1:((z - 2:Nat):Int) < (e:Int)+1:=by omega
   have c0:(0:Int)<=((z - 2:Nat):Int):=by omega
   have nn:t2.now=z - 2:=by rw[s2.now,n1]
   rw[nn]
   generalize ((z - 2:Nat):Int)=zz at *
   simp[-aM,-bK,nZ,qS,e1,dl,c0,c1,ix,CF,CG,b2]
  ·have nm:NoM e ((z:Int) - 2):=by unfold NoM;omega
   obtain ⟨h1,r1,t1,b,g,I1,s1⟩:=Bx P M L.x L.xto (k+6) a I ((z:Int) - 2) nm (by simp[big];omega)
   obtain ⟨h2,r2,t2,b2,g2,I2,s2⟩:=fE P M Y pg asked e gv w0 w1 w2 w3 x6 x8 1 ((z:Int) - 2) (.tup [.str "refused",.int 0]) t.now yR b g I1 s1.now (s1.p.trans tp) (s1.asked.trans ta)
   refine ⟨(z:Int) - 2,.tup [.str "refused",.int 0],h2,r2,t2,?_,g2,I2,s8 s1.s7 s2⟩
   have nn:t2.now=t.now:=by rw[s2.now,s1.now]
   rw[nn]
   unfold NoM at nm
   obtain ⟨zz,e1⟩:∃ zz:Int,(z:Int) - 2=zz:=⟨_,rfl⟩
   rw[e1] at b2 nm ⊢
   by_cases c0:(0:Int)<=zz
   ·have c1:¬ (zz < (e:Int)+1):=by omega
    simp[-aM,-bK,nZ,qS,e1,dl,c0,c1,b2]
   ·simp[-aM,-bK,nZ,qS,e1,dl,c0,b2]
 | 2,_ =>
  obtain ⟨h1,r1,t1,b,g,I1,s1,n1⟩:=E3 (TX:=TX) P M (k+6) a I z
  obtain ⟨h2,r2,t2,b2,g2,I2,s2⟩:=fE P M Y pg asked e gv w0 w1 w2 w3 x6 x8 2 (z:Int) (.int ((min z (e - t.now):Nat):Int)) (t.now+min z (e - t.now)) (by simp) b g I1 n1 (s1.p.trans tp) (s1.asked.trans ta)
  refine ⟨(z:Int),.int ((min z (e - t.now):Nat):Int),h2,r2,t2,?_,g2,I2,s8 s1 s2⟩
  have nn:t2.now=t.now+min z (e - t.now):=by rw[s2.now,n1]
  rw[nn]
  have q1:(if (e:Int)+1 - 1 - (t.now:Int) < (z:Int) then (e:Int)+1 - 1 - (t.now:Int) else (z:Int))=((min z (e - t.now):Nat):Int):=by split<;>omega
  have q2:(t.now:Int)+((min z (e - t.now):Nat):Int)=((t.now+min z (e - t.now):Nat):Int):=by omega
  generalize ((min z (e - t.now):Nat):Int)=y1 at *
  generalize ((t.now+min z (e - t.now):Nat):Int)=y2 at *
  generalize (e:Int)+1=e1 at *
  simp[-aM,-bK,Bt,dl,q1,q2,b2]
 | 3,_ =>
  obtain ⟨h1,r1,t1,b,g,I1,s1,n1⟩:=E4 (TX:=TX) P M (k+6) a I z
  obtain ⟨h2,r2,t2,b2,g2,I2,s2⟩:=fE P M Y pg asked e gv w0 w1 w2 w3 x6 x8 3 (z:Int) (.int ((min z t.now:Nat):Int)) (t.now - min z t.now) (by simp) b g I1 n1 (s1.p.trans tp) (s1.asked.trans ta)
  refine ⟨(z:Int),.int ((min z t.now:Nat):Int),h2,r2,t2,?_,g2,I2,s8 s1 s2⟩
  have nn:t2.now=t.now - min z t.now:=by rw[s2.now,n1]
  rw[nn]
  have q1:(if t.now < z then (t.now:Int) else (z:Int))=((min z t.now:Nat):Int):=by split<;>omega
  have q2:(t.now:Int) - ((min z t.now:Nat):Int)=((t.now - min z t.now:Nat):Int):=by omega
  generalize ((min z t.now:Nat):Int)=y1 at *
  generalize ((t.now - min z t.now:Nat):Int)=y2 at *
  simp[-aM,-bK,Bu,dl,q1,q2,b2]
theorem yS (P:TpP T G) (M:TpM T) (L:Bv T TX) {k:Nat} (Y:F10 T TX G k F) (ns:List Int) (hl:ns.length<=1000) (pg:Pg) (asked:List Int) (e gv:Nat) (w1 w2 w3:W) (x6:Option W) (kk:Nat) (x9 x10 x11:Option W)
 {h:HH}{n r:Nat}{t:Tp} (a:TAt h n r t) (I:TI t e gv) (tp:t.p=pg) (ta:t.asked=asked) :
 ∃ (y9 y10 y11:Option W) (h':HH) (r':Nat) (t':Tp),evS F G qT [some (.p (.lst (aa ns))),some w1,some w2,some w3,some (.p (due pg asked e)),some (.o n),x6,some (.p (.int t.now)),some (.p (.int kk)),x9,x10,x11] h =
  some (.nx [some (.p (.lst (aa ns))),some w1,some w2,some w3,some (.p (due pg asked e)),some (.o n),x6,some (.p (.int t'.now)),some (.p (.int kk)),y9,y10,y11] h')/\Go n h r t h' r' t'/\TI t' e gv/\Sm7 t t':=by
 have dr:∀ (q many:Int),0 < many->∃ z:Nat,(z:Int) < many/\∀ h,F "_law_drawn" [.p (.lst (aa ns)),.p (.int q),.p (.int many)] h=some (.p (.int (z:Int)),h):=fun q many hm=>by
  have h0:=b5 ns q hm
  have h1:=b6 ns q hm
  refine ⟨(drw ns q many).toNat,by omega,fun h=>?_⟩
  rw[Y.fn _ (by decide),bV (G:=G) L.lw (k+16) ns hl q many hm h]
  congr 4
  omega
 obtain ⟨way,hw,d1⟩:=dr (500+3*(kk:Int)) 4 (by decide)
 obtain ⟨z,hz,d2⟩:=dr (501+3*(kk:Int)) 36 (by decide)
 obtain ⟨num,d,h',r',t',b,g,I',s⟩:=u9 P M L Y pg asked e gv (.p (.lst (aa ns))) w1 w2 w3 x6 (some (.p (.int kk))) way z (by omega) (by omega) a I tp ta
 refine ⟨some (.p (.int way)),some (.p (.int num)),some (.p d),h',r',t',?_,g,I',s⟩
 have bg:(big 3=true\/big (kk:Int)=true):=.inl (by decide)
 rw[qT]
 generalize hR:S.seq (S.ife (.cmp .lt (.var 9 "_law_way") (.cst (.int 2))) nZ (.ife (.cmp .eq (.var 9 "_law_way") (.cst (.int 2))) Bt Bu)) (.ife yQ (.ret (.cst (.bl false))) .nil)=R at b ⊢
 simp[bg,d1,d2,b]
theorem pY (P:TpP T G) (M:TpM T) (L:Bv T TX) {k:Nat} (Y:F10 T TX G k F) (ns:List Int) (hl:ns.length<=1000) (pg:Pg) (asked:List Int) (e gv ev2:Nat) (w1 w2 w3:W) (n m:Nat):∀ (q lo:Nat) (x8 x9 x10 x11:Option W)
 (h:HH) (r:Nat) (t:Tp) (s:Nat) (u:Tp),Two h n r t m s u->TI t e gv->t.p=pg->t.asked=asked →
 ∃ y7 y8 y9 y10 y11 h' r' t',fW (evS F G qT) [(8,"_law_k")] (upto lo q) [some (.p (.lst (aa ns))),some w1,some w2,some w3,some (.p (due pg asked e)),some (.o n),some (.o m),some (.p (.int t.now)),x8,x9,x10,x11] h =
  some (.nx [some (.p (.lst (aa ns))),some w1,some w2,some w3,some (.p (due pg asked e)),some (.o n),some (.o m),y7,y8,y9,y10,y11] h')/\Two h' n r' t' m s u/\TI t' e gv
 | 0,lo,x8,x9,x10,x11,h,r,t,s,u,A,I,_,_=>⟨_,x8,x9,x10,x11,h,r,t,rfl,A,I⟩
 | q+1,lo,x8,x9,x10,x11,h,r,t,s,u,A,I,tp,ta=>by
  obtain ⟨y9,y10,y11,h1,r1,t1,b1,g1,I1,s1⟩:=yS P M L Y ns hl pg asked e gv w1 w2 w3 (some (.o m)) lo x9 x10 x11 A.a I tp ta
  obtain ⟨z7,z8,z9,z10,z11,h2,r2,t2,b2,A2,I2⟩:=pY P M L Y ns hl pg asked e gv ev2 w1 w2 w3 n m q (lo+1) (some (.p (.int lo))) y9 y10 y11 h1 r1 t1 s u (A.fst g1) I1 (s1.p.trans tp) (s1.asked.trans ta)
  refine ⟨z7,z8,z9,z10,z11,h2,r2,t2,?_,A2,I2⟩
  have e1:((lo:Int)+1)=((lo+1:Nat):Int):=by omega
  rw[u6,e1]
  have st:fW (evS F G qT) [(8,"_law_k")] (.int (lo:Int) :: upto ((lo+1:Nat):Int) q) [some (.p (.lst (aa ns))),some w1,some w2,some w3,some (.p (due pg asked e)),some (.o n),some (.o m),some (.p (.int t.now)),x8,x9,x10,x11] h =
   iG (evS F G qT [some (.p (.lst (aa ns))),some w1,some w2,some w3,some (.p (due pg asked e)),some (.o n),some (.o m),some (.p (.int t.now)),some (.p (.int (lo:Int))),x9,x10,x11] h) (fW (evS F G qT) [(8,"_law_k")] (upto ((lo+1:Nat):Int) q)):=rfl
  rw[st,b1,iH,b2]
theorem By (P:TpP T G) (M:TpM T) {k:Nat} (Y:F10 T TX G k F) (pg:Pg) (asked:List Int) (e gv ev2:Nat) (w0 w1 w2 w3:W) (x7 x8 x9 x10 x11:Option W) {h:HH}{n r:Nat}{t:Tp}{m s:Nat}{u:Tp} (A:Two h n r t m s u) (I:TI t e gv) (J:TI u e ev2) (un:u.now=0) (up:u.p=pg) (ua:u.asked=asked) :
 ∃ h',ev F G EX [some w0,some w1,some w2,some w3,some (.p (due pg asked e)),some (.o n),some (.o m),x7,x8,x9,x10,x11] h=some (.p (.bl true),h'):=by
 obtain ⟨h1,r1,t1,b1,g1,I1,s1,f1⟩:=tK P M (k+9) A.a I
 have A1:=A.fst g1
 have b1':F (.m "Tape" "end") [.o n] h=some (.p (.int e),h1):=by rw[Y.me];exact b1
 have b2:F (.m "Tape" "moment") [.o m] h1=some (.p (.int 0),h1):=by rw[Y.me,kN M (k+17) A1.b,un];rfl
 obtain ⟨h3,r3,t3,b3,g3,I3,s3,f3⟩:=mH P M (k+6) A1.b J
 rw[un,up,ua] at b3
 have b3':F (.m "Tape" "state") [.o m] h1=some (.p (itr pg asked 0).enc,h3):=by rw[Y.me];exact b3
 have ix:=n8 pg asked e 0 (Od _)
 have dl:=tN pg asked e
 simp only[Pq] at ix
 refine ⟨h3,?_⟩
 rw[EX]
 simp[-aM,-bK,A.a.ob,CD,b1',dl,A1.b.ob,pX,b2,tM,b3',ix]
theorem vc (P:TpP T G) (M:TpM T) (L:Bv T TX) {k:Nat} (Y:F10 T TX G k F) (ns:List Int) (hl:ns.length<=1000):∃ h',BS.jz F G dF [.p (.lst (aa ns))] []=some (.p (.bl true),h'):=by
 obtain ⟨pg,dp,rp⟩:=nU (G:=G) L.lw L.program ns hl 20
 obtain ⟨asked,ha,hal,ra⟩:=u0 (G:=G) L.lw ns hl 450
 have rp':∀ h,F "_law_program" [.p (.lst (aa ns)),.p (.int 20)] h=some (.p (bw pg),h):=fun h=>by rw[Y.fn _ (by decide)];exact rp (k+11) h
 have ra':∀ h,F "_law_asked" [.p (.lst (aa ns)),.p (.int 450)] h=some (.p (.lst (aa asked)),h):=fun h=>by rw[Y.fn _ (by decide)];exact ra (k+15) h
 have dr:∀ (q many:Int),0 < many->∃ z:Nat,(z:Int) < many/\∀ h,F "_law_drawn" [.p (.lst (aa ns)),.p (.int q),.p (.int many)] h=some (.p (.int (z:Int)),h):=fun q many hm=>by
  have h0:=b5 ns q hm
  have h1:=b6 ns q hm
  refine ⟨(drw ns q many).toNat,by omega,fun h=>?_⟩
  rw[Y.fn _ (by decide),bV (G:=G) L.lw (k+16) ns hl q many hm h]
  congr 4
  omega
 obtain ⟨mo,hmo,rmo⟩:=dr 440 31 (by decide)
 obtain ⟨v1,hv1,rv1⟩:=dr 441 4 (by decide)
 obtain ⟨e,R,es⟩:=Bl pg asked mo
 have rl:∀ h,F "_law_states" [.p (bw pg),.p (.lst (aa asked)),.p (.int mo)] h=some (.p (due pg asked e),h):=fun h=>by
  rw[Y.fn _ (by decide),kO (G:=G) L.own k pg dp.ok (by have:=dp.hi;omega) asked ha (by omega) mo (by omega) h,es];rfl
 have c1:1+(v1:Int)=((v1+1:Nat):Int):=by omega
 have in1:F (.m "Tape" "__init__") [.o 0,.p (bw pg),.p (.lst (aa asked)),.p (.int ((v1+1:Nat):Int)),.p (.int (mo:Int))] [.o "Tape" []]=some (.p .non,[.o "Tape" ((Tp.new pg asked (v1+1) mo).fs 1),.l [St.zero.enc]]):=by
  rw[Y.me];exact pW P (k+16) pg asked (v1+1) mo (by omega) []
 have in2:F (.m "Tape" "__init__") [.o 2,.p (bw pg),.p (.lst (aa asked)),.p (.int 2),.p (.int (mo:Int))] [.o "Tape" ((Tp.new pg asked (v1+1) mo).fs 1),.l [St.zero.enc],.o "Tape" []]=some (.p .non,[.o "Tape" ((Tp.new pg asked (v1+1) mo).fs 1),.l [St.zero.enc],.o "Tape" ((Tp.new pg asked 2 mo).fs 3),.l [St.zero.enc]]):=by
  rw[Y.me];exact pW P (k+16) pg asked 2 mo (by omega) [.o "Tape" ((Tp.new pg asked (v1+1) mo).fs 1),.l [St.zero.enc]]
 have A0:Two [.o "Tape" ((Tp.new pg asked (v1+1) mo).fs 1),.l [St.zero.enc],.o "Tape" ((Tp.new pg asked 2 mo).fs 3),.l [St.zero.enc]] 0 1 (Tp.new pg asked (v1+1) mo) 2 3 (Tp.new pg asked 2 mo) :=
  ⟨(yK [] pg asked (v1+1) mo).app (g:=[.o "Tape" ((Tp.new pg asked 2 mo).fs 3),.l [St.zero.enc]]),yK [.o "Tape" ((Tp.new pg asked (v1+1) mo).fs 1),.l [St.zero.enc]] pg asked 2 mo,by decide,by decide⟩
 have I0:TI (Tp.new pg asked (v1+1) mo) e (v1+1):=yJ dp.ok ha R (by omega) (by omega) (by omega)
 have J0:TI (Tp.new pg asked 2 mo) e 2:=yJ dp.ok ha R (by omega) (by omega) (by omega)
 obtain ⟨tn,htn,rtn⟩:∃ tn:Nat,tn<=10/\gF .rng1 [.int (if (if ((ns.length:Nat):Int) < 10 then ((ns.length:Nat):Int) else 10) > 1 then (if ((ns.length:Nat):Int) < 10 then ((ns.length:Nat):Int) else 10) else 1)]=some (upto 0 tn):=by
  refine ⟨(if (if ((ns.length:Nat):Int) < 10 then ((ns.length:Nat):Int) else 10) > 1 then (if ((ns.length:Nat):Int) < 10 then ((ns.length:Nat):Int) else 10) else 1:Int).toNat,?_,?_⟩
  ·split<;>split at *<;>omega
  ·rw[fq]
   have:∀ z:Int,0<=z->z<=10->((decide (-100000<=z)&&decide (z<=100000))=true):=fun z h1 h2=>by simp;omega
   rw[if_pos (this _ (by split<;>split at *<;>omega) (by split<;>split at *<;>omega))]
 obtain ⟨y7,y8,y9,y10,y11,h1,r1,t1,b1,A1,I1⟩:=pY P M L Y ns hl pg asked e (v1+1) 2 (.p (bw pg)) (.p (.lst (aa asked))) (.p (.int (mo:Int))) 0 2 tn 0 none none none none _ 1 _ 3 _ A0 I0 rfl rfl
 obtain ⟨h3,b3⟩:=By P M Y pg asked e (v1+1) 2 (.p (.lst (aa ns))) (.p (bw pg)) (.p (.lst (aa asked))) (.p (.int (mo:Int))) y7 y8 y9 y10 y11 A1 I1 J0 rfl rfl rfl
 have f0:fin [] (.p (.bl true)) h3=some (.p (.bl true),[]):=by
  have:=fD [] h3 (.bl true)
  simpa using this
 refine ⟨[],?_⟩
 rw[BS.jz,if_pos (show [W.p (D.lst (aa ns))].length=dF.ps.length from rfl),dF]
 have lL:biD .len [.lst (aa ns)]=some (.int (ns.length:Int)):=by simp[aa]
 have nw0:(Tp.new pg asked (v1+1) mo).now=0:=rfl
 rw[nw0] at b1
 simp only[Pq] at b1
 generalize hz1:((v1+1:Nat):Int)=z1 at in1 c1
 simp[-bK,-fq,rp',ra',rmo,rv1,rl,c1,in1,in2,lL,rtn,jw,b1,b3,f0]
end
end BT
end
section
namespace BF
open PySem PySem.Spec PyProof.Rows L2 BS
noncomputable def qU (P:MP) (w:M7) (K:MI) (mg:Str->Option Value) (x:Str) (z:BT.W):Prop:=∃ u v,mg x=some u/\RelV v u/\∀ m H,RW P w K m H v z
theorem yT {P:MP}{w:M7}{K:MI}{h:Heap}{mg:Str->Option Value} (X:K.In h) (G:h.Ns MX mg) {x:Str}{n:Int}{t:Tok} (a:Nr K MX x=some (some (.int n t))):qU P w K mg x (.p (.int n)) :=
 ⟨_,.int n,NC X G a,⟨t,rfl⟩,fun _ _=>.p (.int n)⟩
inductive cN:List Str->List Value->Prop where
 | nil:cN [] []
 | cons {x:Str}{xs:List Str}{t:Tok}{vs:List Value} (h:PyData.strOk x=true) (r:cN xs vs):cN (x :: xs) (.str x t :: vs)
theorem cN.vals:∀ {xs:List Str}{vs:List Value},cN xs vs->ao (xs.map V.str) vs
 | _,_,.nil=>.nil
 | _,_,.cons _ r=>.cons ⟨_,rfl⟩ r.vals
theorem cN.rds {K:MI}{m:List MN}{H:Hp}:∀ {xs:List Str}{vs:List Value},cN xs vs->RDs K m H (xs.map V.str) (xs.map BT.D.str)
 | _,_,.nil=>.nil
 | _,_,.cons h r=>.cons (.str _ h) r.rds
theorem cN.len:∀ {xs:List Str}{vs:List Value},cN xs vs->vs.length=xs.length
 | _,_,.nil=>rfl
 | _,_,.cons _ r=>by simp[r.len]
theorem yU {P:MP}{w:M7}{K:MI}{h:Heap}{mg:Str->Option Value} (X:K.In h) (G:h.Ns MX mg) {x:Str}{f:MN}{its:Array Value}{n:Nat}{sl:Array (Option Value)}{xs:List Str} (a:Nr K MX x=some (some (.ref f)))
 (l:K.lookup f=some ⟨.type "tuple",none,.seq its n,sl⟩) (hl:xs.length<=1000) (r:cN xs its.toList):qU P w K mg x (.p (.tup (xs.map BT.D.str))):=by
 refine ⟨_,.ref f,NC X G a,rfl,fun m H=>.p (.tup (.inr ⟨_,its,n,⟨l,rfl,rfl,?_,r.vals⟩,rfl⟩) r.rds)⟩
 have:=r.len
 have e:its.size=xs.length:=by rw[← this];simp
 rw[e]
 exact PK (ux hl)
inductive eX (w:M7):List (Str×Int)->List Qz->Prop where
 | nil:eX w [] []
 | cons {x:Str}{n:Int}{kvs:List (Str×Int)}{t u:Tok}{es:List Qz} (r:eX w kvs es):eX w ((x,n) :: kvs) (⟨PyData.keyHash w.params x,.str x t,.int n u⟩ :: es)
theorem eX.ex {P:MP}{w:M7}:∀ {kvs:List (Str×Int)}{es:List Qz},eX w kvs es->∃ vs:List (Key×Value),KV ((kvs.map fun q=>(q.1,V.int q.2)).map fun q=>((Sum.inr q.1:Key),q.2)) vs/\Pairs (cE P w) es vs/\vs.map (·.1)=kvs.map (fun q=>(Sum.inr q.1:Key))/\(∀ e∈es,∃ k,(cE P w).is k e.key=true/\e.hash=(cE P w).hash k)
 | _,_,.nil=>⟨[],.nil,.nil,rfl,fun e he=>nomatch he⟩
 | _,_,@eX.cons _ x n kvs t u es r=>by
  obtain ⟨vs,h1,h2,h3,h4⟩:=r.ex (P:=P)
  have is:(cE P w).is (Sum.inr x) (.str x t)=true:=by show P5 x (.str x t)=true;simp[P5]
  refine ⟨(Sum.inr x,.int n u) :: vs,.cons ⟨rfl,u,rfl⟩ h1,.cons is rfl h2,by simp[h3],fun e he=>?_⟩
  rcases List.mem_cons.mp he with rfl | he
  ·exact ⟨Sum.inr x,is,rfl⟩
  ·exact h4 e he
theorem vd {P:MP}{w:M7}{K:MI}{h:Heap}{mg:Str->Option Value} (X:K.In h) (G:h.Ns MX mg) {x:Str}{f:MN}{es:Array Qz}{n:Nat}{kvs:List (Str×Int)} (a:Nr K MX x=some (some (.ref f)))
 (l:K.lookup f=some { cls:=.type "dict",data:=.dict es n }) (hf:(f==QC)=false) (r:eX w kvs es.toList) (nd:(kvs.map (·.1)).Nodup):qU P w K mg x (.k (kvs.map fun q=>(q.1,BT.D.int q.2))):=by
 obtain ⟨vs,h1,h2,h3,h4⟩:=r.ex (P:=P)
 refine ⟨_,.ref f,NC X G a,rfl,fun m H=>.k (es:=kvs.map fun q=>(q.1,V.int q.2)) ⟨hf,vs,h1,fun hh Kh=>⟨_,es,n,Kh _ _ l,⟨rfl,rfl,rfl⟩,rfl,fun e he=>h4 e (by simpa using he),h2,?_⟩⟩ ?_⟩
 ·rw[h3]
  have e:(kvs.map fun q=>(Sum.inr q.1:Key))=(kvs.map (·.1)).map Sum.inr:=by simp
  rw[e]
  exact List.pairwise_map.mpr (nd.imp fun h z=>h (Sum.inr.inj z))
 ·clear r nd h1 h2 h3 h4 l
  induction kvs with
  | nil=>exact .nil
  | cons q kvs ih=>exact .cons (fun _ _=>.int _) ih
noncomputable def look {κ α:Type} [DecidableEq κ] (l:List (κ×α)) (x:κ):Option α:=match l with
 | []=>none
 | (y,a) :: r=>if y=x then some a else look r x
theorem fF {κ α:Type} [DecidableEq κ] {Q:κ->α->Prop}:∀ {l:List (κ×α)} (_:∀ p∈l,Q p.1 p.2) {x:κ}{a:α},look l x=some a->Q x a
 | [],_,_,_,e=>by cases e
 | (y,b) :: r,h,x,a,e=>by
  rw[look] at e
  split at e
  ·rename_i z
   cases e
   subst z
   exact h (y,b) Nh
  ·exact fF (fun p hp=>h p (M8 _ hp)) e
theorem iP {K:MI}{m:List MN}{H:Hp}:∀ ns:List Int,RDs K m H (ns.map V.int) (BT.aa ns)
 | []=>.nil
 | n :: r=>.cons (.int n) (iP r)
theorem yV {P:MP}{w:M7}{K:MI}{g:List BT.W->BT.HH->Option (BT.W×BT.HH)}{H:Hp}{a:MN}{ns:List Int} (tb:TB K H) (hS:LL K H a (ns.map V.int)) (e:∃ h',g [.p (.lst (BT.aa ns))] []=some (.p (.bl true),h')):spF P w K g [.ref a] H (fun v _=>v=.bl true) fun _ _ _=>False:=by
 obtain ⟨h',e⟩:=e
 refine ⟨[],_,[],_,h',⟨QL,rfl,fun i a xs z=>by simp at z,tb⟩,.cons (.p (.lst (hS.elim (fun q=>.inl ⟨q,by simp⟩) .inr) (iP ns))) .nil,e,fun v H' m' _ _ r=>jb r⟩
end BF
end
section
namespace BG
open PySem PySem.Spec PySem.Calls PyProof.Rows L2 BS BF
theorem BA {h:Heap}{K:MI} (H:∀ p∈K,h.get? p.1=some p.2):K.In h:=by
 intro a o e
 obtain ⟨p,hp,he⟩:∃ p∈K,p.1=a/\p.2=o:=by
  clear H
  induction K with
  | nil=>cases e
  | cons q r ih =>
   rw[Of] at e
   split at e
   ·rename_i c
    cases e
    exact ⟨q,Nh,(eq_of_beq c).symm,rfl⟩
   ·obtain ⟨p,hp,he⟩:=ih e
    exact ⟨p,M8 _ hp,he⟩
 rw[← he.1,← he.2]
 exact H p hp
theorem kP {K:MI}{f:MN}{x qual:Str}{st:Qp} (e:zy K f=some (qW x qual st)):∃ fd,Fun K x qual st f fd/\∃ kV doc pm an cdv ct,fd=NJ x qual (cD st) (aq st) (af st) .none kV doc pm an cdv ct:=by
 unfold zy at e
 split at e
 ·rename_i oc od fd sl l
  have e':=MV e
  unfold qW at e'
  obtain ⟨nm,ql,pa,bo,sc,gl,cl,de,kw,dc,pm,an,co,ct,bu⟩:=fd
  simp only[FS.mk.injEq] at e'
  obtain ⟨rfl,rfl,rfl,rfl,rfl,rfl,rfl,rfl,rfl,hc⟩:=e'
  have F:=Dr (K:=K) (x:=nm) (qual:=ql) (st:=st) (f:=f) (kV:=kw) (doc:=dc) (pm:=pm) (an:=an) (cdv:=co) (ct:=ct) l hc (by simp only[Nb,l])
  exact ⟨_,F,kw,dc,pm,an,co,ct,rfl⟩
 ·cases e
theorem nth {α:Type}{l:List α}{a:α} (i:Nat) (h:l[i]?=some a):a∈l:=MZ h
noncomputable def kQ (ns:List Str):Bool:=ns.all fun n=>!(n.cps[0]?==some 60)
theorem HY (y:Str):(BT.bZ y).cps[0]?=some 60:=by
 show (((#[60]:Array Nat)++y.cps)++#[62])[0]?=some 60
 rw[← Re]
 simp
theorem gq {ns:List Str} (h:kQ ns=true) (y:Str):ns.contains (BT.bZ y)=false:=by
 cases e:ns.contains (BT.bZ y) with
 | false=>rfl
 | true =>
  have:=List.all_eq_true.mp h _ (List.contains_iff_mem.mp e)
  rw[HY] at this
  cases this
theorem aB {K:MI}{q:Str}{fd:Ny}{fn:BT.Fn} (h:kQ fn.ns=true):kB K q fd fn:=fun y hy=>by rw[gq h y] at hy;cases hy
section
variable {P:MP}{w:M7}{K:MI}{h:Heap}{mg:Str->Option Value}
theorem ji {o:Option (Option Value)}{f:MN} (e:refOf o=some f):o=some (some (.ref f)):=by
 unfold refOf at e
 split at e
 ·cases e;rfl
 ·cases e
theorem aE (X:K.In h) (G:h.Ns MX mg) {x:Str}{f:MN}{st:Qp}{fn:BT.Fn} (e:bG K (.fn x f st)=bH w (.fn x f st))
 (sc:aD fn.ns fn.ps (af st)) (hb:∀ (kV doc pm:Value) (an:Option MN) (cdv ct:Value) (us:List Value),us.length=fn.ps.length->QY (NJ x x (cD st) (aq st) (af st) .none kV doc pm an cdv ct) ⟨us,[]⟩=pure (fn.ps.zip us))
 (ck:CSs (af st) fn.ns fn.body (aq st)) (tg:∀ fd,Nr K MX x=some (some (.ref f))->(∃ oc od sl,K.lookup f=some ⟨oc,od,.func fd,sl⟩)->kB K x fd fn):Def K mg x fn:=by
 simp only[bG,bH,Ov.fn.injEq] at e
 obtain ⟨fd,F,kV,doc,pm,an,cdv,ct,rfl⟩:=kP e.2
 refine ⟨f,_,st,NC X G (ji e.1),F,sc,F.binds hb,ck,tg _ (ji e.1) ?_⟩
 obtain ⟨oc,od,kV,doc,pm,an,cdv,ct,osl,e1,lk,_⟩:=F.ex
 exact ⟨oc,od,osl,lk⟩
theorem pZ {c:Str}{C:MN} (e:bG K (.cls c C)=bH w (.cls c C)):iJ K c C:=by
 simp only[bG,bH,Ov.b.injEq,FU,ML,decide_eq_true_eq] at e
 obtain ⟨⟨⟨⟨⟨h1,h2⟩,h3⟩,h4⟩,h5⟩,h6⟩:=e
 refine ⟨h1,⟨h2,h3,h4,h5⟩,fun f hf=>?_⟩
 have hm:f∈attrs:=List.contains_iff_mem.mp hf
 exact of_decide_eq_true (p:=Nc K (.ref C) f=some none) (List.all_eq_true.mp h6 f hm)
theorem bN (X:K.In h) (G:h.Ns MX mg) {c:Str}{C:MN}{m x qual:Str}{f:MN}{st:Qp}{fn:BT.Fn} (ec:bG K (.cls c C)=bH w (.cls c C)) (em:bG K (.mk C)=bH w (.mk C)) (e:bG K (.me C m x qual f st)=bH w (.me C m x qual f st))
 (sc:aD fn.ns fn.ps (af st)) (hb:∀ (kV doc pm:Value) (an:Option MN) (cdv ct:Value) (us:List Value),us.length=fn.ps.length->QY (NJ x qual (cD st) (aq st) (af st) .none kV doc pm an cdv ct) ⟨us,[]⟩=pure (fn.ps.zip us))
 (ck:CSs (af st) fn.ns fn.body (aq st)) (tg:kQ fn.ns=true):xT K mg c m fn:=by
 have hC:=pZ ec
 simp only[bG,bH,Ov.fn.injEq] at e
 obtain ⟨e1,e2⟩:=e
 obtain ⟨fd,F,kV,doc,pm,an,cdv,ct,rfl⟩:=kP e2
 have e1':meB K C m f=true:=by
  cases q:meB K C m f with
  | true=>rfl
  | false=>rw[q] at e1;cases e1
 simp only[meB,ML,decide_eq_true_eq] at e1'
 simp only[bG,bH,Ov.b.injEq,mkB,ML] at em
 refine ⟨C,f,_,x,qual,st,hC,NC X G hC.cn,⟨e1'.1,e1'.2,F.kp⟩,fun z=>?_,F,sc,F.binds hb,ck,aB tg⟩
 subst z
 exact ⟨em.1,e1'.1,e1'.2,em.2⟩
theorem none_of (X:K.In h) (G:h.Ns MX mg) {x:Str} (e:bG K (.no x)=bH w (.no x)):mg x=none:=by
 simp only[bG,bH,Ov.b.injEq,decide_eq_true_eq] at e
 exact PySem.W.mg_none_of X G e
theorem yW {v:Value}{x:Int} (h:intOf v=some x):∃ t,v=.int x t:=by
 cases v<;>simp[intOf] at h
 exact ⟨_,by rw[h]⟩
theorem yX {v:Value}{x:Str} (h:strOf v=some x):∃ t,v=.str x t:=by
 cases v<;>simp[strOf] at h
 exact ⟨_,by rw[h]⟩
theorem cj (X:K.In h) (G:h.Ns MX mg) {x:Str}{n:Int} (e:bG K (.int x n)=bH w (.int x n)):qU P w K mg x (.p (.int n)):=by
 simp only[bG,bH,Ov.int.injEq] at e
 split at e
 ·rename_i v hv
  obtain ⟨t,rfl⟩:=yW e
  exact yT X G hv
 ·cases e
theorem tO:∀ {xs:List Str}{vs:List Value},xs.all PyData.strOk=true->vs.map strOf=xs.map some->cN xs vs
 | [],[],_,_=>.nil
 | [],_ :: _,_,h=>by simp at h
 | _ :: _,[],_,h=>by simp at h
 | x :: xs,v :: vs,k,h=>by
  simp only[M9,OJ] at h
  simp only[List.all_cons,ML] at k
  obtain ⟨t,rfl⟩:=yX h.1
  exact .cons k.1 (tO k.2 h.2)
theorem tP:∀ {kvs:List (Str×Int)}{es:List Qz},es.map (fun e=>(e.hash,strOf e.key,intOf e.val))=kvs.map (fun q=>(PyData.keyHash w.params q.1,some q.1,some q.2))->eX w kvs es
 | [],[],_=>.nil
 | [],_ :: _,h=>by simp at h
 | _ :: _,[],h=>by simp at h
 | (x,n) :: kvs,⟨ha,k,v⟩ :: es,h=>by
  simp only[M9,OJ,QI] at h
  obtain ⟨⟨rfl,h2,h3⟩,hr⟩:=h
  obtain ⟨t,rfl⟩:=yX h2
  obtain ⟨u,rfl⟩:=yW h3
  exact .cons (tP hr)
theorem yY (X:K.In h) (G:h.Ns MX mg) {x:Str}{f:MN}{xs:List Str} (e:bG K (.tup x f xs)=bH w (.tup x f xs)) (hl:xs.length<=1000) (hs:xs.all PyData.strOk=true):qU P w K mg x (.p (.tup (xs.map BT.D.str))):=by
 simp only[bG,bH,Ov.seq.injEq] at e
 obtain ⟨e1,e2,e3⟩:=e
 obtain ⟨o,l,e4⟩:=Option.map_eq_some_iff.mp e2
 rw[l] at e3
 obtain ⟨cl,di,da,sl⟩:=o
 simp only[shp,QI] at e4
 obtain ⟨rfl,rfl,e5⟩:=e4
 have:sl=#[]:=Qi e5
 subst this
 simp only[Pb,BU] at e3
 cases da<;>simp only[OT,reduceCtorEq] at e3
 exact yU X G (ji e1) l hl (tO hs e3)
theorem yZ (X:K.In h) (G:h.Ns MX mg) {x:Str}{f:MN}{kvs:List (Str×Int)} (e:bG K (.dct x f kvs)=bH w (.dct x f kvs)) (hf:(f==QC)=false) (nd:(kvs.map (·.1)).Nodup):qU P w K mg x (.k (kvs.map fun q=>(q.1,BT.D.int q.2))):=by
 simp only[bG,bH,Ov.dct.injEq] at e
 obtain ⟨e1,e2,e3⟩:=e
 obtain ⟨o,l,e4⟩:=Option.map_eq_some_iff.mp e2
 rw[l] at e3
 obtain ⟨cl,di,da,sl⟩:=o
 simp only[shp,QI] at e4
 obtain ⟨rfl,rfl,e5⟩:=e4
 have:sl=#[]:=Qi e5
 subst this
 simp only[Pb,BV] at e3
 cases da<;>simp only[OT,reduceCtorEq] at e3
 exact vd X G (ji e1) l hf (tP e3) nd
end
theorem za {α:Type}{us:List α}{n:Nat} (h:us.length=n+1):∃ a r,us=a :: r/\r.length=n:=by
 cases us with
 | nil=>simp at h
 | cons a r=>exact ⟨a,r,rfl,by simpa using h⟩
theorem len0 {α:Type}{us:List α} (h:us.length=0):us=[]:=Qs h
theorem kR {α:Type}{us:List α} (h:us.length=1):∃ a0,us=[a0]:=by
 obtain ⟨a0,r,rfl,g⟩:=za h
 exact ⟨a0,by rw[len0 g]⟩
theorem dG {α:Type}{us:List α} (h:us.length=2):∃ a0 a1,us=[a0,a1]:=by
 obtain ⟨a0,r,rfl,g⟩:=za h
 obtain ⟨a1,rfl⟩:=kR g
 exact ⟨a0,a1,rfl⟩
theorem gr {α:Type}{us:List α} (h:us.length=3):∃ a0 a1 a2,us=[a0,a1,a2]:=by
 obtain ⟨a0,r,rfl,g⟩:=za h
 obtain ⟨a1,a2,rfl⟩:=dG g
 exact ⟨a0,a1,a2,rfl⟩
theorem HZ {α:Type}{us:List α} (h:us.length=4):∃ a0 a1 a2 a3,us=[a0,a1,a2,a3]:=by
 obtain ⟨a0,r,rfl,g⟩:=za h
 obtain ⟨a1,a2,a3,rfl⟩:=gr g
 exact ⟨a0,a1,a2,a3,rfl⟩
theorem LD {α:Type}{us:List α} (h:us.length=5):∃ a0 a1 a2 a3 a4,us=[a0,a1,a2,a3,a4]:=by
 obtain ⟨a0,r,rfl,g⟩:=za h
 obtain ⟨a1,a2,a3,a4,rfl⟩:=HZ g
 exact ⟨a0,a1,a2,a3,a4,rfl⟩
noncomputable abbrev BdT (x qual:Str) (st:Qp) (fn:BT.Fn):Prop:=∀ (kV doc pm:Value) (an:Option MN) (cdv ct:Value) (us:List Value),us.length=fn.ps.length->QY (NJ x qual (cD st) (aq st) (af st) .none kV doc pm an cdv ct) ⟨us,[]⟩=pure (fn.ps.zip us)
noncomputable def tQ (K:MI) (mg:Str->Option Value) (p:BT.FK×BT.Fn):Prop:=(∀ x,p.1=.f x->Def K mg x p.2)/\(∀ c m,p.1=.m c m->xT K mg c m p.2)/\∀ L,p.1=.l L->BT.oS L=some p.2/\∃ ns bt,p.2=⟨ns,ns,.ret bt⟩/\∀ y,ns.contains (BT.bZ y)=false
theorem dd {K:MI}{mg:Str->Option Value}{x:Str}{fn:BT.Fn} (d:Def K mg x fn):tQ K mg (.f x,fn):=⟨fun y e=>by cases e;exact d,fun c m e=>(by cases e),fun L e=>by cases e⟩
theorem dm {K:MI}{mg:Str->Option Value}{c m:Str}{fn:BT.Fn} (d:xT K mg c m fn):tQ K mg (.m c m,fn):=⟨fun y e=>(by cases e),fun c m e=>by cases e;exact d,fun L e=>by cases e⟩
theorem dl {K:MI}{mg:Str->Option Value}{L:Nat}{ns:List Str}{bt:BT.E} (h:BT.oS L=some ⟨ns,ns,.ret bt⟩) (n:kQ ns=true):tQ K mg (.l L,⟨ns,ns,.ret bt⟩):=⟨fun y e=>(by cases e),fun c m e=>(by cases e),fun M e=>by cases e;exact ⟨h,ns,bt,rfl,gq n⟩⟩
structure E5 (K:MI) (tl:List (Str×MN×MN)):Prop where
 all:∀ z∈BT.ef,(∃ c P,(z,c,P)∈tl/\NV K z=some (c,P))\/NV K z=none
 hd:∀ q∈tl,Qf K q.2.1 q.2.2=true
theorem aS {K:MI}{w:M7}{x:Str} (e:bG K (.no x)=bH w (.no x)):NV K x=none:=by
 simp only[bG,bH,Ov.b.injEq,decide_eq_true_eq] at e
 unfold NV
 rw[e]
theorem qV {K:MI}{b:MN}{o:Obj} (e:K.lookup b=some o):b∈K.map (·.1):=List.mem_map.mpr ⟨(b,o),PySem.W.mem_of_lookupK e,rfl⟩
theorem ve {P:MP}{w:M7}{K:MI}{mg mb:Str->Option Value}{k:Nat}{fa a:MN}{fd:Ny}{x:Str}{sp:Sp}{s₁:MK}{vs:List Value}{ns:List Int}{tl:List (Str×MN×MN)}
 (KX:K.In s₁.heap) (hns:s₁.heap.Ns MX mg) (hb:s₁.heap.Ns OB mb) (hbb:∀ x:Str,x≠"__name__"->mb x=Pd x) (hlim:s₁.heap.NoLimit) (hg:s₁.gens=#[])
 (ha:s₁.heap.get? a=some { cls:=.type "list",data:=.seq vs.toArray }) (hi:IntsAre vs ns) (hl:ns.length<=sizeLine) (hr:bE k RV)
 (hT:E5 K tl) (hTs:∀ p∈tl,s₁.heap.get? p.2.2=some (Pu #[])) (hTk:∀ p∈tl,K.lookup p.2.2=none)
 (F:∀ base:Heap,cO P w K mg base CX0 k fa fd [x] sp) (hbind:∀ (s:MK) (u:Value),K.In s.heap->BindsTo s fd ⟨[u],[]⟩ [(x,u)])
 (hsp:∀ H:Hp,TB K H->LL K H a (ns.map V.int)->sp [.ref a] H (fun v _=>v=.bl true) fun _ _ _=>False) :
 codeAny (M3 P w) RV (.call (.ref fa) ⟨[.ref a],[]⟩) (fun r s'=>r=.ok (.ret (.bool true))/\OldK s₁.heap s'.heap/\s'.os=s₁.os/\Qo s'.gens) s₁:=by
 have rv:=lT hi
 have lenV:=hi.length
 have tne:∀ p∈tl,p.2.2≠a:=fun p hp z=>by
  have:=hTs p hp
  rw[z,ha] at this;cases this
 let so:HO:=.frz { cls:=.type "list",data:=.seq vs.toArray } (.lst (ns.map V.int))
 let H:Hp:=fun b=>if ∃ p∈tl,p.2.2=b then some (.tbl #[]) else if b=a/\K.lookup a=none then some so else none
 have Ht:∀ p∈tl,H p.2.2=some (.tbl #[]):=fun p hp=>if_pos ⟨p,hp,rfl⟩
 have Hcase:∀ b u,H b=some u->(∃ p∈tl,p.2.2=b/\u=.tbl #[])\/(b=a/\K.lookup a=none/\u=so):=fun b u e=>by
  by_cases c1:∃ p∈tl,p.2.2=b
  ·have e':some (HO.tbl #[])=some u:=(if_pos c1).symm.trans e
   obtain ⟨p,hp,h2⟩:=c1
   exact .inl ⟨p,hp,h2,(MV e').symm⟩
  ·have e':(if b=a/\K.lookup a=none then some so else none)=some u:=(if_neg c1).symm.trans e
   by_cases c2:b=a/\K.lookup a=none
   ·rw[if_pos c2] at e'
    exact .inr ⟨c2.1,c2.2,(MV e').symm⟩
   ·rw[if_neg c2] at e';cases e'
 have noA:∀ {b:MN}{o:Obj}{es:Array Qz}{ep:Nat},s₁.heap.get? b=some o->o.data=.dict es ep->H b=none:=fun {b o es ep} e d=>by
  cases q:H b with
  | none=>rfl
  | some u =>
   rcases Hcase b u q with ⟨p,hp,h2,_⟩ | ⟨h2,_⟩
   ·have z:=hTs p hp
    rw[h2,e] at z;cases z;cases d
   ·rw[h2,ha] at e;cases e
    have d':Data.seq vs.toArray _=Data.dict es ep:=d
    cases d'
 have nsK:∀ {b:MN}{m:Str->Option Value},s₁.heap.Ns b m->(oh s₁.heap H).Ns b m:=fun {b m} ⟨o,es,ep,e,d,r⟩=>⟨o,es,ep,oi e (noA e d),d,r⟩
 have hKb:K.In (oh s₁.heap H):=fun b o e=>oi (KX b o e) (by
  cases q:H b with
  | none=>rfl
  | some u =>
   rcases Hcase b u q with ⟨p,hp,h2,_⟩ | ⟨h2,h3,_⟩
   ·rw[← h2,hTk p hp] at e;cases e
   ·rw[h2,h3] at e;cases e)
 have hM:Mod K mg (oh s₁.heap H):=⟨hKb,nsK hns,⟨mb,nsK hb,hbb⟩,let ⟨mc,h1,h2⟩:=hlim;⟨mc,nsK h1,h2⟩⟩
 have hok:HOk P w H s₁.heap:=fun b u e=>by
  rcases Hcase b u e with ⟨p,hp,h2,rfl⟩ | ⟨h2,_,rfl⟩
  ·subst h2;exact hTs p hp
  ·subst h2;exact ⟨ha,by rw[NO];exact hl,vs,_,rv,ha⟩
 have e0:ju P w K mg (oh s₁.heap H) RV [] s₁ H:=⟨rfl,hM,fun b o e=>zB e,Nat.le_of_eq (tY _ _),trivial,fun b hb=>absurd (show b∈([]:List MN) from hb) (by simp),hok,.of_eq hg⟩
 have tb:TB K H:=fun z hz c Pt e=>by
  rcases hT.all z hz with ⟨c3,P3,m3,e3⟩ | e3
  ·rw[e] at e3;cases e3
   exact ⟨#[],Ht _ m3,trivial,fun pos v q=>by cases q⟩
  ·rw[e] at e3;cases e3
 have hS:LL K H a (ns.map V.int):=by
  cases hk:K.lookup a with
  | some o =>
   have e:=KX a o hk
   rw[ha] at e
   cases e
   exact .inr ⟨vs,_,hk,by rw[lenV];exact hl,rv⟩
  | none =>
   refine .inl (.inr ⟨{ cls:=.type "list",data:=.seq vs.toArray },?_⟩)
   have e1:H a=(if a=a/\K.lookup a=none then some so else none):=if_neg fun ⟨p,hp,z⟩=>tne p hp z
   rw[e1,if_pos ⟨rfl,hk⟩]
 refine P4 ((F _).run RV [] s₁ H ⟨[.ref a],[]⟩ [.ref a] [.ref a] _ _ hr e0 (hbind s₁ (.ref a) KX) (.cons rfl .nil) (hsp H tb hS)) fun r s' h=>?_
 cases r with
 | error e=>exact Nu h
 | ok fl =>
  cases fl with
  | next=>exact Nu h
  | brk=>exact Nu h
  | cont=>exact Nu h
  | ret u =>
   obtain ⟨v,H',os,bare,un,hok',r',q⟩:=h
   have q':v=.bl true:=q
   subst q'
   obtain rfl:u=RX true:=r'
   have kp:∀ b o,s₁.heap.get? b=some o->(s'.heap.get? b=some o)\/∃ p∈tl,p.2.2=b/\∃ more,s'.heap.get? b=some (Pu (#[]++more)):=fun b o e=>by
    cases q:H b with
    | none=>exact .inl (un.keep b o e q (by intro z;exact absurd (show b∈([]:List MN) from z) (by simp)) (by simp))
    | some u =>
     rcases Hcase b u q with ⟨p,hp,h2,rfl⟩ | ⟨h2,h3,rfl⟩
     ·obtain ⟨more,z⟩:=un.tbls b _ q
      exact .inr ⟨p,hp,h2,more,hok' b _ z⟩
     ·have z2:=un.frzs b _ _ q
      obtain ⟨e1,_⟩:=hok b _ q
      obtain ⟨e2,_⟩:=hok' b _ z2
      rw[e] at e1;cases e1
      exact .inl e2
   refine ⟨rfl,⟨fun b o e=>?_,fun b o e=>?_⟩,os,bare⟩
   ·rcases kp b o e with z | ⟨p,hp,rfl,more,z⟩
    ·exact .inl z
    ·have e2:=hTs p hp
     rw[e] at e2
     cases e2
     have tA:=(PF KX (hT.hd p hp)).tab e
     exact .inr (.inl ⟨tA.isCodeTable,rfl,#[],more,rfl,z⟩)
   ·rcases kp b o e with z | ⟨p,hp,rfl,more,z⟩
    ·exact ⟨o,z⟩
    ·exact ⟨_,z⟩
end BG
end
section
namespace BG
open PySem PySem.Spec PySem.Calls PyProof.Rows L2 BS BF
noncomputable def jj:List Str:=["NoMoment","NoRun","NoThing","NoText"]
theorem vf {c:Str} (h:eB c=true):c∈jj:=by
 have:=List.contains_iff_mem.mp h
 simp only[NY,ND,or_false] at this
 simp only[jj,NY,ND,or_false]
 rcases this with h | h | h | h<;>simp[h]
theorem zb {c cn:Str} (h:eB cn=true):BT.j6 c cn=(cn==c):=by
 have:=List.contains_iff_mem.mp h
 simp only[NY,ND,or_false] at this
 unfold BT.j6
 have h1:(cn==("TapeError":Str))=false:=by rcases this with rfl | rfl | rfl | rfl<;>decide
 have h2:(cn==("ValueError":Str))=false:=by rcases this with rfl | rfl | rfl | rfl<;>decide
 rw[h1,h2,Pi,Pi]
theorem zc {xs:List (Str×MN)} (h:xs.map (·.1)=jj) {c:Str} (hc:eB c=true):∃ C,(c,C)∈xs:=by
 have:=vf hc
 rw[← h] at this
 obtain ⟨p,hp,rfl⟩:=List.mem_map.mp this
 exact ⟨p.2,hp⟩
section
variable {P:MP}{w:M7}{K:MI}{h:Heap}{mg:Str->Option Value}{D:MN}{xs:List (Str×MN)}
theorem iX {c:Str}{C:MN} (e:zA K c C=true):CN K c C/\kC K C:=by
 unfold zA at e
 obtain ⟨e1,e2⟩:=Bool.and_eq_true_iff.mp e
 exact ⟨of_decide_eq_true (p:=Nr K MX c=some (some (.ref C))) e1,⟨e2⟩⟩
theorem zd (e:bG K (.exc D xs)=bH w (.exc D xs)) (hx:xs.map (·.1)=jj):HL K D/\kC K D/\CN K "TapeError" D:=by
 simp only[bG,bH,Ov.b.injEq] at e
 unfold FW at e
 obtain ⟨e1,e2⟩:=Bool.and_eq_true_iff.mp e
 have e3:=List.all_eq_true.mp e2
 refine ⟨⟨fun c hc=>?_⟩,(iX e1).2,(iX e1).1⟩
 obtain ⟨C,hm⟩:=zc hx hc
 have q:=e3 _ hm
 unfold CH at q
 simp only[ML,decide_eq_true_eq] at q
 obtain ⟨⟨⟨⟨⟨⟨⟨⟨⟨⟨⟨q1,q2⟩,q3⟩,q4⟩,q5⟩,q6⟩,q7⟩,q8⟩,q9⟩,q10⟩,q11⟩,q12⟩:=q
 refine ⟨C,(iX q1).1,⟨q3,q4,q5,q6,q7,q8,q9,q10,fun cn hcn=>?_,q11⟩,(iX q1).2,q2⟩
 obtain ⟨D',hm'⟩:=zc hx hcn
 have z:=List.all_eq_true.mp q12 _ hm'
 have z2:=e3 _ hm'
 unfold CH at z2
 simp only[ML] at z2
 refine ⟨D',(iX z2.1.1.1.1.1.1.1.1.1.1.1).1,?_⟩
 rw[zb hcn]
 exact of_decide_eq_true z
theorem kT {c:Str}{C:MN}{m x qual:Str}{f:MN}{st:Qp}{fn:BT.Fn} (ec:bG K (.cls c C)=bH w (.cls c C)) (e:bG K (.me C m x qual f st)=bH w (.me C m x qual f st))
 (sc:aD fn.ns fn.ps (af st)) (hb:BdT x qual st fn) (ck:fP (af st) fn.ns true fn.body (aq st)) (tg:kQ fn.ns=true):sJ K c m fn:=by
 have hC:=pZ ec
 simp only[bG,bH,Ov.fn.injEq] at e
 obtain ⟨e1,e2⟩:=e
 obtain ⟨fd,F,kV,doc,pm,an,cdv,ct,rfl⟩:=kP e2
 have e1':meB K C m f=true:=by
  cases q:meB K C m f with
  | true=>rfl
  | false=>rw[q] at e1;cases e1
 simp only[meB,ML,decide_eq_true_eq] at e1'
 exact ⟨⟨C,f,_,x,qual,st,hC,⟨e1'.1,e1'.2,F.kp⟩,F,sc,F.binds hb,ck⟩,gq tg⟩
theorem BB {TX:BT.FK->Option BT.Fn} (X:K.In h) (Gh:h.Ns MX mg) (e:bG K (.exc D xs)=bH w (.exc D xs)) (hx:xs.map (·.1)=jj) (me:∀ c m fn,TX (.m c m)=some fn->sJ K c m fn):xX K mg TX :=
 ⟨me,fun c hc=>by
  obtain ⟨C,h1,_,h3,_⟩:=(zd e hx).1.all c hc
  exact ⟨C,h1,NC X Gh h1,h3⟩⟩
noncomputable def ze:List Qp->List Qp
 | [.Try b _ _ _ _]=>b
 | _=>[]
theorem zf {T TX:BT.FK->Option BT.Fn}{G:Str->Option BT.W} (X:K.In h) (Gh:h.Ns MX mg) (XT:Txt P w K mg T G) (YT:xX K mg TX) (e:bG K (.exc D xs)=bH w (.exc D xs)) (hx:xs.map (·.1)=jj)
 {k i:Nat}{fn fnr:BT.Fn}{n rn tn:Str}{f fr:MN}{st str:Qp}{p1 p2 p3 p5 p6 hp pos:Pos} (et:bG K (.fn tn f st)=bH w (.fn tn f st)) (er:bG K (.fn rn fr str)=bH w (.fn rn fr str))
 (s3:aD fn.ns fn.ps (af st)) (hB:aq st=[.Try (ze (aq st)) [.ExceptHandler (some (.Name "TapeError" p1)) (some n) [.Return (some (.Call (.Name rn p2) [.Name n p3] [] p5)) p6] hp] [] [] pos]) (hb:BdT tn tn st fn)
 (h5:CSs (af st) fn.ns fn.body (ze (aq st))) (h6:fP (af st) fn.ns false fn.body (ze (aq st))) (tg:kQ fn.ns=true) (hi:fn.ns[i]?=some n) (hln:(af st).names.lookup n=some .local) (okn:aH n=true)
 (hgD:aT (af st) "TapeError"=true) (hgR:aT (af st) rn=true) (okR:aH rn=true) (sr:aD fnr.ns fnr.ps (af str)) (hbr:BdT rn rn str fnr) (ckr:CSs (af str) fnr.ns fnr.body (aq str)) (tgr:kQ fnr.ns=true) (hur:dI fnr.ns=false) :
 ∃ fa fd ps,mg tn=some (.ref fa)/\Nb K (.ref fa)=true/\Binds K fd ps []/\∀ base,cO P w K mg base CX0 (2*(k+1)) fa fd ps (spF P w K (gf (BT.runN T G k) (BT.dY T TX G k) G fn fnr)):=by
 obtain ⟨z1,z2,z3⟩:=zd e hx
 simp only[bG,bH,Ov.fn.injEq] at et er
 obtain ⟨fd,F,kV,doc,pm,an,cdv,ct,rfl⟩:=kP et.2
 obtain ⟨fdr,FR,kVr,docr,pmr,anr,cdvr,ctr,rfl⟩:=kP er.2
 refine ⟨f,_,fn.ps,NC X Gh (ji et.1),F.kp,F.binds hb,fun base=>?_⟩
 exact yc XT YT z1 F s3 hB h5 h6 (gq tg) hi hln okn hgD (by decide) (NC X Gh z3) z2 hgR okR (NC X Gh (ji er.1)) FR.kp (FR.binds hbr) (EA (k:=0) XT.blt FR sr ckr hur (gq tgr))
end
theorem zg {l:PySem.W.OpenLaw}{n k:Nat}{q:MP}{loose:List Str}{XP:(Str->Option Value)->Heap->Prop}{d:DefRec}{as:List MN}{qs:List Qy}{ts:List MN}{tl:List (Str×MN×MN)}{T:BT.FK->Option BT.Fn}{G:Str->Option BT.W}{fn:BT.Fn}{x tn:Str}{told:List BT.W->BT.HH->Option (BT.W×BT.HH)}
 (hn:l.most=some n) (hn2:n<=sizeLine) (hdf:d.params.defaults=[]) (hr:bE (2*k+1+1) RV) (hps:fn.ps=[x]) (hT:T (.f d.name)=some fn) (hts:ts=tl.map (·.2.2)) (hto:tl.all (fun p=>!as.contains p.2.2)=true)
 (FT:∀ (w:M7) (K:MI),(∀ q∈qs,bG K q=bH w q)->E5 K tl)
 (F:∀ (P:MP) (w:M7) (mg:Str->Option Value) (K:MI) (h:Heap),K.In h->h.Ns MX mg->(∀ q∈qs,bG K q=bH w q)->Txt P w K mg T G)
 (FX:∀ (P:MP) (w:M7) (mg:Str->Option Value) (K:MI) (h:Heap),K.In h->h.Ns MX mg->(∀ q∈qs,bG K q=bH w q)->∃ fa fd ps,mg tn=some (.ref fa)/\Nb K (.ref fa)=true/\Binds K fd ps []/\∀ base,cO P w K mg base CX0 (2*k) fa fd ps (spF P w K told))
 (hrun:∀ ns:List Int,ns.length<=n->∃ h',jz (iT tn told (BT.runN T G k)) G fn [.p (.lst (BT.aa ns))] []=some (.p (.bl true),h')) :
 PySem.W.WalkO q loose XP (sees as qs ts).says l.row.toRowW d [] (fun f vs=>RY f vs):=by
 refine Att.oK hn hdf fun w s₀ s₁ mg mb fa o pm cd doc a vs ns Gr Y ho hd hcd hmg hobj hints hlen hg=>?_
 obtain ⟨K,k0,k1,k2,k3⟩:=Y
 have KX:=BA k1
 have X:=F l.prog w mg K s₁.heap KX Gr.T.g k2
 obtain ⟨fa',fd',ps',t1,t2,t3,t4⟩:=FX l.prog w mg K s₁.heap KX Gr.T.g k2
 obtain ⟨f,fd,st,h1,h2,h3,h4,h5,h6⟩:=(X.defs _ fn hT).ex
 rw[hmg] at h1
 cases h1
 refine ve (sp:=spF l.prog w K (jz (iT tn told (BT.runN T G k)) G fn)) (x:=x) (k:=2*k+1+1) (fd:=fd) (tl:=tl) KX Gr.T.g Gr.T.b Gr.T.builtins Gr.T.nolimit hg hobj hints (Nq hlen hn2) hr (FT w K k2) (fun p hp=>k3 _ (by rw[hts];exact List.mem_map_of_mem hp)) (fun p hp=>?_) (fun base=>?_) (fun s u hK=>?_) (fun H tb hS=>yV tb hS (hrun ns hlen))
 ·cases e:K.lookup p.2.2 with
  | none=>rfl
  | some o =>
   have m:=qV e
   rw[k0] at m
   have:=List.all_eq_true.mp hto p hp
   rw[List.contains_iff_mem.mpr m] at this;cases this
 ·have:=xZ (base:=base) X k h2 h3 h5 h6 t1 t2 t3 (t4 base)
  rw[hps] at this
  exact this
 ·have:=h4 s [u] hK (by rw[hps];rfl)
  rw[hps] at this
  exact this
end BG
end
section
namespace BL
open PySem PySem.Spec PyProof.Rows L2 BS BF BG
noncomputable abbrev CkT (s:M1) (f:BT.Fn):Prop:=CSs (af s) f.ns f.body (aq s)/\aD f.ns f.ps (af s)
theorem Ia:CkT (top 12) BT.dz:=⟨by repeat' (first | rfl | constructor | decide +kernel),by constructor<;>first | rfl | decide +kernel⟩
theorem LG:BdT "is_whole" "is_whole" (top 12) BT.dz:=fun _ _ _ _ _ _ us hl=>by obtain ⟨a0,rfl⟩:=kR hl;rfl
theorem Ib:CkT (top 13) BT.dR:=⟨by repeat' (first | rfl | constructor | decide +kernel),by constructor<;>first | rfl | decide +kernel⟩
theorem LH:BdT "is_name" "is_name" (top 13) BT.dR:=fun _ _ _ _ _ _ us hl=>by obtain ⟨a0,rfl⟩:=kR hl;rfl
theorem Ic:CkT (top 15) BT.bL:=⟨by repeat' (first | rfl | constructor | decide +kernel),by constructor<;>first | rfl | decide +kernel⟩
theorem LJ:BdT "inner_sums" "inner_sums" (top 15) BT.bL:=fun _ _ _ _ _ _ us hl=>by obtain ⟨a0,rfl⟩:=kR hl;rfl
theorem Ie:CkT (top 24) BT.gi:=⟨by repeat' (first | rfl | constructor | decide +kernel),by constructor<;>first | rfl | decide +kernel⟩
theorem LK:BdT "begun" "begun" (top 24) BT.gi:=fun _ _ _ _ _ _ us hl=>by obtain rfl:=len0 hl;rfl
theorem Ig:CkT (top 26) BT.dj:=⟨by repeat' (first | rfl | constructor | decide +kernel),by constructor<;>first | rfl | decide +kernel⟩
theorem LM:BdT "worth_in" "worth_in" (top 26) BT.dj:=fun _ _ _ _ _ _ us hl=>by obtain ⟨a0,a1,rfl⟩:=dG hl;rfl
theorem Ih:CkT (top 27) BT.dh:=⟨by repeat' (first | rfl | constructor | decide +kernel),by constructor<;>first | rfl | decide +kernel⟩
theorem LN:BdT "laid_out" "laid_out" (top 27) BT.dh:=fun _ _ _ _ _ _ us hl=>by obtain ⟨a0,rfl⟩:=kR hl;rfl
theorem Ii:CkT (top 28) BT.fC:=⟨by repeat' (first | rfl | constructor | decide +kernel),by constructor<;>first | rfl | decide +kernel⟩
theorem LO:BdT "of_two" "of_two" (top 28) BT.fC:=fun _ _ _ _ _ _ us hl=>by obtain ⟨a0,a1,a2,rfl⟩:=gr hl;rfl
theorem Ij:CkT (top 29) BT.bD:=⟨by repeat' (first | rfl | constructor | decide +kernel),by constructor<;>first | rfl | decide +kernel⟩
theorem LP:BdT "worth_of" "worth_of" (top 29) BT.bD:=fun _ _ _ _ _ _ us hl=>by obtain ⟨a0,a1,a2,rfl⟩:=gr hl;rfl
theorem Ik:CkT (top 30) BT.dw:=⟨by repeat' (first | rfl | constructor | decide +kernel),by constructor<;>first | rfl | decide +kernel⟩
theorem LQ:BdT "reckoned" "reckoned" (top 30) BT.dw:=fun _ _ _ _ _ _ us hl=>by obtain ⟨a0,a1,rfl⟩:=dG hl;rfl
theorem Il:CkT (top 31) BT.dS:=⟨by repeat' (first | rfl | constructor | decide +kernel),by constructor<;>first | rfl | decide +kernel⟩
theorem LR:BdT "cell_by" "cell_by" (top 31) BT.dS:=fun _ _ _ _ _ _ us hl=>by obtain ⟨a0,a1,rfl⟩:=dG hl;rfl
theorem Im:CkT (top 32) BT.cX:=⟨by repeat' (first | rfl | constructor | decide +kernel),by constructor<;>first | rfl | decide +kernel⟩
theorem LS:BdT "is_over" "is_over" (top 32) BT.cX:=fun _ _ _ _ _ _ us hl=>by obtain ⟨a0,a1,rfl⟩:=dG hl;rfl
theorem Io:CkT (top 33) BT.bI:=⟨by repeat' (first | rfl | constructor | decide +kernel),by constructor<;>first | rfl | decide +kernel⟩
theorem LU:BdT "place_behind" "place_behind" (top 33) BT.bI:=fun _ _ _ _ _ _ us hl=>by obtain ⟨a0,a1,rfl⟩:=dG hl;rfl
theorem Ip:CkT (top 34) BT.b7:=⟨by repeat' (first | rfl | constructor | decide +kernel),by constructor<;>first | rfl | decide +kernel⟩
theorem LV:BdT "with_worth" "with_worth" (top 34) BT.b7:=fun _ _ _ _ _ _ us hl=>by obtain ⟨a0,a1,a2,rfl⟩:=gr hl;rfl
theorem Iq:CkT (top 35) BT.cH:=⟨by repeat' (first | rfl | constructor | decide +kernel),by constructor<;>first | rfl | decide +kernel⟩
theorem LW:BdT "with_name" "with_name" (top 35) BT.cH:=fun _ _ _ _ _ _ us hl=>by obtain ⟨a0,a1,a2,rfl⟩:=gr hl;rfl
theorem Ir:CkT (top 36) BT.cY:=⟨by repeat' (first | rfl | constructor | decide +kernel),by constructor<;>first | rfl | decide +kernel⟩
theorem LY:BdT "brought" "brought" (top 36) BT.cY:=fun _ _ _ _ _ _ us hl=>by obtain ⟨a0,a1,rfl⟩:=dG hl;rfl
theorem Iu:CkT (top 37) BT.dU:=⟨by repeat' (first | rfl | constructor | decide +kernel),by constructor<;>first | rfl | decide +kernel⟩
theorem LZ:BdT "stepped" "stepped" (top 37) BT.dU:=fun _ _ _ _ _ _ us hl=>by obtain ⟨a0,a1,a2,rfl⟩:=gr hl;rfl
theorem Iv:CkT (top 42) BT.cC:=⟨by repeat' (first | rfl | constructor | decide +kernel),by constructor<;>first | rfl | decide +kernel⟩
theorem L0:BdT "_law_cell" "_law_cell" (top 42) BT.cC:=fun _ _ _ _ _ _ us hl=>by obtain ⟨a0,a1,rfl⟩:=dG hl;rfl
theorem Iw:CkT (top 43) BT.cJ:=⟨by repeat' (first | rfl | constructor | decide +kernel),by constructor<;>first | rfl | decide +kernel⟩
theorem L1:BdT "_law_drawn" "_law_drawn" (top 43) BT.cJ:=fun _ _ _ _ _ _ us hl=>by obtain ⟨a0,a1,a2,rfl⟩:=gr hl;rfl
theorem Iz:CkT (top 44) BT.bP:=⟨by repeat' (first | rfl | constructor | decide +kernel),by constructor<;>first | rfl | decide +kernel⟩
theorem L3:BdT "_law_sum" "_law_sum" (top 44) BT.bP:=fun _ _ _ _ _ _ us hl=>by obtain ⟨a0,a1,a2,rfl⟩:=gr hl;rfl
theorem IA:CkT (top 45) BT.dW:=⟨by repeat' (first | rfl | constructor | decide +kernel),by constructor<;>first | rfl | decide +kernel⟩
theorem L4:BdT "_law_row" "_law_row" (top 45) BT.dW:=fun _ _ _ _ _ _ us hl=>by obtain ⟨a0,a1,a2,rfl⟩:=gr hl;rfl
theorem IB:CkT (top 46) BT.aP:=⟨by repeat' (first | rfl | constructor | decide +kernel),by constructor<;>first | rfl | decide +kernel⟩
theorem L5:BdT "_law_program" "_law_program" (top 46) BT.aP:=fun _ _ _ _ _ _ us hl=>by obtain ⟨a0,a1,rfl⟩:=dG hl;rfl
theorem IC:CkT (top 47) BT.cK:=⟨by repeat' (first | rfl | constructor | decide +kernel),by constructor<;>first | rfl | decide +kernel⟩
theorem L6:BdT "_law_asked" "_law_asked" (top 47) BT.cK:=fun _ _ _ _ _ _ us hl=>by obtain ⟨a0,a1,rfl⟩:=dG hl;rfl
theorem ID:CkT (top 48) BT.aZ:=⟨by repeat' (first | rfl | constructor | decide +kernel),by constructor<;>first | rfl | decide +kernel⟩
theorem L7:BdT "_law_worth" "_law_worth" (top 48) BT.aZ:=fun _ _ _ _ _ _ us hl=>by obtain ⟨a0,a1,rfl⟩:=dG hl;rfl
theorem IE:CkT (top 49) BT.aN:=⟨by repeat' (first | rfl | constructor | decide +kernel),by constructor<;>first | rfl | decide +kernel⟩
theorem L8:BdT "_law_is_over" "_law_is_over" (top 49) BT.aN:=fun _ _ _ _ _ _ us hl=>by obtain ⟨a0,a1,rfl⟩:=dG hl;rfl
theorem IF:CkT (top 50) BT.bf:=⟨by repeat' (first | rfl | constructor | decide +kernel),by constructor<;>first | rfl | decide +kernel⟩
theorem Ma:BdT "_law_write" "_law_write" (top 50) BT.bf:=fun _ _ _ _ _ _ us hl=>by obtain ⟨a0,a1,a2,rfl⟩:=gr hl;rfl
theorem IG:CkT (top 51) BT.c6:=⟨by repeat' (first | rfl | constructor | decide +kernel),by constructor<;>first | rfl | decide +kernel⟩
theorem Mb:BdT "_law_put" "_law_put" (top 51) BT.c6:=fun _ _ _ _ _ _ us hl=>by obtain ⟨a0,a1,a2,rfl⟩:=gr hl;rfl
theorem II:CkT (top 52) BT.aG:=⟨by repeat' (first | rfl | constructor | decide +kernel),by constructor<;>first | rfl | decide +kernel⟩
theorem Mc:BdT "_law_step" "_law_step" (top 52) BT.aG:=fun _ _ _ _ _ _ us hl=>by obtain ⟨a0,a1,a2,rfl⟩:=gr hl;rfl
theorem IJ:CkT (top 53) BT.cg:=⟨by repeat' (first | rfl | constructor | decide +kernel),by constructor<;>first | rfl | decide +kernel⟩
theorem Mf:BdT "_law_states" "_law_states" (top 53) BT.cg:=fun _ _ _ _ _ _ us hl=>by obtain ⟨a0,a1,a2,rfl⟩:=gr hl;rfl
theorem BD:CkT (top 54) BT.bA:=⟨by repeat' (first | rfl | constructor | decide +kernel),by constructor<;>first | rfl | decide +kernel⟩
theorem IK:BdT "_law_refused" "_law_refused" (top 54) BT.bA:=fun _ _ _ _ _ _ us hl=>by obtain ⟨a0,rfl⟩:=kR hl;rfl
theorem IL:CkT (top 56) BT.dF:=⟨by repeat' (first | rfl | constructor | decide +kernel),by constructor<;>first | rfl | decide +kernel⟩
theorem Mg:BdT "law" "law" (top 56) BT.dF:=fun _ _ _ _ _ _ us hl=>by obtain ⟨a0,rfl⟩:=kR hl;rfl
theorem zh:CkT (aK 40 0) BT.cL:=⟨by repeat' (first | rfl | constructor | decide +kernel),by constructor<;>first | rfl | decide +kernel⟩
theorem E6:BdT "__init__" "Tape.__init__" (aK 40 0) BT.cL:=fun _ _ _ _ _ _ us hl=>by obtain ⟨a0,a1,a2,a3,a4,rfl⟩:=LD hl;rfl
theorem zj:CkT (aK 40 1) BT.cZ:=⟨by repeat' (first | rfl | constructor | decide +kernel),by constructor<;>first | rfl | decide +kernel⟩
theorem E7:BdT "at" "Tape.at" (aK 40 1) BT.cZ:=fun _ _ _ _ _ _ us hl=>by obtain ⟨a0,a1,rfl⟩:=dG hl;rfl
theorem zk:CkT (aK 40 2) BT.dB:=⟨by repeat' (first | rfl | constructor | decide +kernel),by constructor<;>first | rfl | decide +kernel⟩
theorem E8:BdT "end" "Tape.end" (aK 40 2) BT.dB:=fun _ _ _ _ _ _ us hl=>by obtain ⟨a0,rfl⟩:=kR hl;rfl
theorem zl:CkT (aK 40 3) BT.bQ:=⟨by repeat' (first | rfl | constructor | decide +kernel),by constructor<;>first | rfl | decide +kernel⟩
theorem E9:BdT "moment" "Tape.moment" (aK 40 3) BT.bQ:=fun _ _ _ _ _ _ us hl=>by obtain ⟨a0,rfl⟩:=kR hl;rfl
theorem zm:CkT (aK 40 4) BT.b8:=⟨by repeat' (first | rfl | constructor | decide +kernel),by constructor<;>first | rfl | decide +kernel⟩
theorem Fb:BdT "state" "Tape.state" (aK 40 4) BT.b8:=fun _ _ _ _ _ _ us hl=>by obtain ⟨a0,rfl⟩:=kR hl;rfl
theorem zo:CkT (aK 40 5) BT.c5:=⟨by repeat' (first | rfl | constructor | decide +kernel),by constructor<;>first | rfl | decide +kernel⟩
theorem Fc:BdT "to" "Tape.to" (aK 40 5) BT.c5:=fun _ _ _ _ _ _ us hl=>by obtain ⟨a0,a1,rfl⟩:=dG hl;rfl
theorem zp:CkT (aK 40 6) BT.dX:=⟨by repeat' (first | rfl | constructor | decide +kernel),by constructor<;>first | rfl | decide +kernel⟩
theorem Fd:BdT "go" "Tape.go" (aK 40 6) BT.dX:=fun _ _ _ _ _ _ us hl=>by obtain ⟨a0,a1,rfl⟩:=dG hl;rfl
theorem zu:CkT (aK 40 7) BT.cM:=⟨by repeat' (first | rfl | constructor | decide +kernel),by constructor<;>first | rfl | decide +kernel⟩
theorem Fe:BdT "back" "Tape.back" (aK 40 7) BT.cM:=fun _ _ _ _ _ _ us hl=>by obtain ⟨a0,a1,rfl⟩:=dG hl;rfl
theorem tR:CkT (aK 40 10) BT.bR:=⟨by repeat' (first | rfl | constructor | decide +kernel),by constructor<;>first | rfl | decide +kernel⟩
theorem BE:BdT "behind" "Tape.behind" (aK 40 10) BT.bR:=fun _ _ _ _ _ _ us hl=>by obtain ⟨a0,a1,rfl⟩:=dG hl;rfl
theorem tS:CkT (aK 40 11) BT.aV:=⟨by repeat' (first | rfl | constructor | decide +kernel),by constructor<;>first | rfl | decide +kernel⟩
theorem BH:BdT "is_last" "Tape.is_last" (aK 40 11) BT.aV:=fun _ _ _ _ _ _ us hl=>by obtain ⟨a0,a1,a2,rfl⟩:=gr hl;rfl
theorem tT:CkT (aK 40 12) BT.bX:=⟨by repeat' (first | rfl | constructor | decide +kernel),by constructor<;>first | rfl | decide +kernel⟩
theorem BI:BdT "keep" "Tape.keep" (aK 40 12) BT.bX:=fun _ _ _ _ _ _ us hl=>by obtain ⟨a0,a1,rfl⟩:=dG hl;rfl
theorem tU:CkT (aK 40 13) BT.b9:=⟨by repeat' (first | rfl | constructor | decide +kernel),by constructor<;>first | rfl | decide +kernel⟩
theorem BJ:BdT "reach" "Tape.reach" (aK 40 13) BT.b9:=fun _ _ _ _ _ _ us hl=>by obtain ⟨a0,a1,rfl⟩:=dG hl;rfl
theorem tV:CkT (aK 40 14) BT.bS:=⟨by repeat' (first | rfl | constructor | decide +kernel),by constructor<;>first | rfl | decide +kernel⟩
theorem BK:BdT "has" "Tape.has" (aK 40 14) BT.bS:=fun _ _ _ _ _ _ us hl=>by obtain ⟨a0,a1,rfl⟩:=dG hl;rfl
theorem tW:CkT (aK 40 15) BT.bM:=⟨by repeat' (first | rfl | constructor | decide +kernel),by constructor<;>first | rfl | decide +kernel⟩
theorem BN:BdT "check" "Tape.check" (aK 40 15) BT.bM:=fun _ _ _ _ _ _ us hl=>by obtain ⟨a0,a1,rfl⟩:=dG hl;rfl
noncomputable def tab:List (BT.FK×BT.Fn):=[(.f "is_whole",BT.dz),(.f "is_name",BT.dR),(.f "inner_sums",BT.bL),(.f "begun",BT.gi),(.f "worth_in",BT.dj),(.f "laid_out",BT.dh),(.f "of_two",BT.fC),(.f "worth_of",BT.bD),(.f "reckoned",BT.dw),(.f "cell_by",BT.dS),(.f "is_over",BT.cX),(.f "place_behind",BT.bI),(.f "with_worth",BT.b7),(.f "with_name",BT.cH),(.f "brought",BT.cY),(.f "stepped",BT.dU),(.f "_law_cell",BT.cC),(.f "_law_drawn",BT.cJ),(.f "_law_sum",BT.bP),(.f "_law_row",BT.dW),(.f "_law_program",BT.aP),(.f "_law_asked",BT.cK),(.f "_law_worth",BT.aZ),(.f "_law_is_over",BT.aN),(.f "_law_write",BT.bf),(.f "_law_put",BT.c6),(.f "_law_step",BT.aG),(.f "_law_states",BT.cg),(.f "_law_refused",BT.bA),(.f "law",BT.dF),(.m "Tape" "__init__",BT.cL),(.m "Tape" "at",BT.cZ),(.m "Tape" "end",BT.dB),(.m "Tape" "moment",BT.bQ),(.m "Tape" "state",BT.b8),(.m "Tape" "to",BT.c5),(.m "Tape" "go",BT.dX),(.m "Tape" "back",BT.cM),(.m "Tape" "behind",BT.bR),(.m "Tape" "is_last",BT.aV),(.m "Tape" "keep",BT.bX),(.m "Tape" "reach",BT.b9),(.m "Tape" "has",BT.bS),(.m "Tape" "check",BT.bM)]
noncomputable def glo:List (Str×BT.W):=[("CELL_COUNT",.p (.int 4)),("WORTH_COUNT",.p (.int 10007)),("ROW",.p (.int 0)),("NAMES",.p (.int 1)),("CELLS",.p (.int 2)),("CALLS",.p (.int 3)),("ASKED",.p (.int 4)),("SAID",.p (.int 5)),("MOST_CALLS",.p (.int 6)),("MOST_MARKS",.p (.int 8)),("LETTERS",.p (.tup ((["a","b","c","d","e","f"]:List Str).map BT.D.str))),("INNER_COUNTS",.k (([("num",0),("name",0),("cell",1),("add",2),("sub",2),("mul",2),("less",2)]:List (Str×Int)).map fun q=>(q.1,BT.D.int q.2)))]
noncomputable abbrev T:BT.FK->Option BT.Fn:=look tab
noncomputable abbrev G:Str->Option BT.W:=look glo
noncomputable def Ff:List (BT.FK×BT.Fn):=[(.m "Tape" "check",BT.dD),(.m "Tape" "at",BT.jt),(.m "Tape" "to",BT.gO)]
noncomputable abbrev TX:BT.FK->Option BT.Fn:=look Ff
theorem prg:BT.Prg T G:=⟨rfl,rfl,rfl,rfl,rfl,rfl,rfl,rfl,rfl,rfl,rfl,rfl,rfl,rfl,rfl,rfl,rfl,rfl,rfl,rfl,rfl,rfl,rfl,rfl,rfl,rfl⟩
theorem tpp:BT.TpP T G:=⟨prg,rfl,rfl,rfl,rfl,rfl,rfl,rfl,rfl,rfl,rfl⟩
theorem run (ns:List Int) (h:ns.length<=1000):∃ h',jz (iT "_law_told" (BT.bT T TX G 39) (BT.runN T G 40)) G BT.dF [.p (.lst (BT.aa ns))] []=some (.p (.bl true),h') :=
 BT.vc (T:=T) (TX:=TX) (G:=G) (k:=22) (F:=iT "_law_told" (BT.bT T TX G 39) (BT.runN T G 40)) tpp ⟨rfl,rfl,rfl,rfl,rfl,rfl⟩ ⟨⟨rfl,rfl,rfl,rfl,rfl⟩,rfl,⟨rfl,rfl,rfl,rfl,rfl,rfl⟩,⟨rfl,rfl⟩,rfl⟩ ⟨fun _ _=>rfl,fun y hy=>sL hy,pC⟩ ns h
theorem IM (w:M7) (K:MI) (hq:∀ q∈qys,bG K q=bH w q):E5 K tl:=by
 refine ⟨fun z hz=>?_,fun p hp=>?_⟩
 ·simp only[BT.ef,NY,ND,or_false] at hz
  rcases hz with rfl | rfl | rfl | rfl | rfl | rfl | rfl | rfl | rfl | rfl | rfl | rfl | rfl | rfl | rfl
  ·exact .inr (aS (w:=w) (hq _ (nth 62 rfl)))
  ·exact .inr (aS (w:=w) (hq _ (nth 63 rfl)))
  ·exact .inr (aS (w:=w) (hq _ (nth 64 rfl)))
  ·exact .inr (aS (w:=w) (hq _ (nth 65 rfl)))
  ·exact .inr (aS (w:=w) (hq _ (nth 66 rfl)))
  ·exact .inr (aS (w:=w) (hq _ (nth 67 rfl)))
  ·exact .inr (aS (w:=w) (hq _ (nth 68 rfl)))
  ·exact .inr (aS (w:=w) (hq _ (nth 69 rfl)))
  ·exact .inr (aS (w:=w) (hq _ (nth 70 rfl)))
  ·exact .inr (aS (w:=w) (hq _ (nth 71 rfl)))
  ·exact .inr (aS (w:=w) (hq _ (nth 72 rfl)))
  ·exact .inr (aS (w:=w) (hq _ (nth 73 rfl)))
  ·exact .inr (aS (w:=w) (hq _ (nth 74 rfl)))
  ·exact .inr (aS (w:=w) (hq _ (nth 75 rfl)))
  ·exact .inr (aS (w:=w) (hq _ (nth 76 rfl)))
 ·simp[tl] at hp
theorem txt (P:MP) (w:M7) (mg:Str->Option Value) (K:MI) (h:Heap) (X:K.In h) (Gh:h.Ns MX mg) (hq:∀ q∈qys,bG K q=bH w q):Txt P w K mg T G:=by
 have tbf:=IM w K hq
 have all:∀ p∈tab,tQ K mg p:=by
  intro p hp
  simp only[tab,NY,ND,or_false] at hp
  rcases hp with rfl | rfl | rfl | rfl | rfl | rfl | rfl | rfl | rfl | rfl | rfl | rfl | rfl | rfl | rfl | rfl | rfl | rfl | rfl | rfl | rfl | rfl | rfl | rfl | rfl | rfl | rfl | rfl | rfl | rfl | rfl | rfl | rfl | rfl | rfl | rfl | rfl | rfl | rfl | rfl | rfl | rfl | rfl | rfl
  ·exact dd (aE X Gh (hq _ (nth 0 rfl)) Ia.2 LG Ia.1 (fun _ _ _=>aB (by decide +kernel)))
  ·exact dd (aE X Gh (hq _ (nth 1 rfl)) Ib.2 LH Ib.1 (fun _ _ _=>aB (by decide +kernel)))
  ·exact dd (aE X Gh (hq _ (nth 2 rfl)) Ic.2 LJ Ic.1 (fun _ _ _=>aB (by decide +kernel)))
  ·exact dd (aE X Gh (hq _ (nth 3 rfl)) Ie.2 LK Ie.1 (fun _ _ _=>aB (by decide +kernel)))
  ·exact dd (aE X Gh (hq _ (nth 4 rfl)) Ig.2 LM Ig.1 (fun _ _ _=>aB (by decide +kernel)))
  ·exact dd (aE X Gh (hq _ (nth 5 rfl)) Ih.2 LN Ih.1 (fun _ _ _=>aB (by decide +kernel)))
  ·exact dd (aE X Gh (hq _ (nth 6 rfl)) Ii.2 LO Ii.1 (fun _ _ _=>aB (by decide +kernel)))
  ·exact dd (aE X Gh (hq _ (nth 7 rfl)) Ij.2 LP Ij.1 (fun _ _ _=>aB (by decide +kernel)))
  ·exact dd (aE X Gh (hq _ (nth 8 rfl)) Ik.2 LQ Ik.1 (fun _ _ _=>aB (by decide +kernel)))
  ·exact dd (aE X Gh (hq _ (nth 9 rfl)) Il.2 LR Il.1 (fun _ _ _=>aB (by decide +kernel)))
  ·exact dd (aE X Gh (hq _ (nth 10 rfl)) Im.2 LS Im.1 (fun _ _ _=>aB (by decide +kernel)))
  ·exact dd (aE X Gh (hq _ (nth 11 rfl)) Io.2 LU Io.1 (fun _ _ _=>aB (by decide +kernel)))
  ·exact dd (aE X Gh (hq _ (nth 12 rfl)) Ip.2 LV Ip.1 (fun _ _ _=>aB (by decide +kernel)))
  ·exact dd (aE X Gh (hq _ (nth 13 rfl)) Iq.2 LW Iq.1 (fun _ _ _=>aB (by decide +kernel)))
  ·exact dd (aE X Gh (hq _ (nth 14 rfl)) Ir.2 LY Ir.1 (fun _ _ _=>aB (by decide +kernel)))
  ·exact dd (aE X Gh (hq _ (nth 15 rfl)) Iu.2 LZ Iu.1 (fun _ _ _=>aB (by decide +kernel)))
  ·exact dd (aE X Gh (hq _ (nth 16 rfl)) Iv.2 L0 Iv.1 (fun _ _ _=>aB (by decide +kernel)))
  ·exact dd (aE X Gh (hq _ (nth 17 rfl)) Iw.2 L1 Iw.1 (fun _ _ _=>aB (by decide +kernel)))
  ·exact dd (aE X Gh (hq _ (nth 18 rfl)) Iz.2 L3 Iz.1 (fun _ _ _=>aB (by decide +kernel)))
  ·exact dd (aE X Gh (hq _ (nth 19 rfl)) IA.2 L4 IA.1 (fun _ _ _=>aB (by decide +kernel)))
  ·exact dd (aE X Gh (hq _ (nth 20 rfl)) IB.2 L5 IB.1 (fun _ _ _=>aB (by decide +kernel)))
  ·exact dd (aE X Gh (hq _ (nth 21 rfl)) IC.2 L6 IC.1 (fun _ _ _=>aB (by decide +kernel)))
  ·exact dd (aE X Gh (hq _ (nth 22 rfl)) ID.2 L7 ID.1 (fun _ _ _=>aB (by decide +kernel)))
  ·exact dd (aE X Gh (hq _ (nth 23 rfl)) IE.2 L8 IE.1 (fun _ _ _=>aB (by decide +kernel)))
  ·exact dd (aE X Gh (hq _ (nth 24 rfl)) IF.2 Ma IF.1 (fun _ _ _=>aB (by decide +kernel)))
  ·exact dd (aE X Gh (hq _ (nth 25 rfl)) IG.2 Mb IG.1 (fun _ _ _=>aB (by decide +kernel)))
  ·exact dd (aE X Gh (hq _ (nth 26 rfl)) II.2 Mc II.1 (fun _ _ _=>aB (by decide +kernel)))
  ·exact dd (aE X Gh (hq _ (nth 27 rfl)) IJ.2 Mf IJ.1 (fun _ _ _=>aB (by decide +kernel)))
  ·exact dd (aE X Gh (hq _ (nth 28 rfl)) BD.2 IK BD.1 (fun _ _ _=>aB (by decide +kernel)))
  ·exact dd (aE X Gh (hq _ (nth 29 rfl)) IL.2 Mg IL.1 (fun _ _ _=>aB (by decide +kernel)))
  ·exact dm (bN X Gh (hq _ (nth 77 rfl)) (hq _ (nth 78 rfl)) (hq _ (nth 79 rfl)) zh.2 E6 zh.1 (by decide +kernel))
  ·exact dm (bN X Gh (hq _ (nth 77 rfl)) (hq _ (nth 78 rfl)) (hq _ (nth 80 rfl)) zj.2 E7 zj.1 (by decide +kernel))
  ·exact dm (bN X Gh (hq _ (nth 77 rfl)) (hq _ (nth 78 rfl)) (hq _ (nth 81 rfl)) zk.2 E8 zk.1 (by decide +kernel))
  ·exact dm (bN X Gh (hq _ (nth 77 rfl)) (hq _ (nth 78 rfl)) (hq _ (nth 82 rfl)) zl.2 E9 zl.1 (by decide +kernel))
  ·exact dm (bN X Gh (hq _ (nth 77 rfl)) (hq _ (nth 78 rfl)) (hq _ (nth 83 rfl)) zm.2 Fb zm.1 (by decide +kernel))
  ·exact dm (bN X Gh (hq _ (nth 77 rfl)) (hq _ (nth 78 rfl)) (hq _ (nth 84 rfl)) zo.2 Fc zo.1 (by decide +kernel))
  ·exact dm (bN X Gh (hq _ (nth 77 rfl)) (hq _ (nth 78 rfl)) (hq _ (nth 85 rfl)) zp.2 Fd zp.1 (by decide +kernel))
  ·exact dm (bN X Gh (hq _ (nth 77 rfl)) (hq _ (nth 78 rfl)) (hq _ (nth 86 rfl)) zu.2 Fe zu.1 (by decide +kernel))
  ·exact dm (bN X Gh (hq _ (nth 77 rfl)) (hq _ (nth 78 rfl)) (hq _ (nth 87 rfl)) tR.2 BE tR.1 (by decide +kernel))
  ·exact dm (bN X Gh (hq _ (nth 77 rfl)) (hq _ (nth 78 rfl)) (hq _ (nth 88 rfl)) tS.2 BH tS.1 (by decide +kernel))
  ·exact dm (bN X Gh (hq _ (nth 77 rfl)) (hq _ (nth 78 rfl)) (hq _ (nth 89 rfl)) tT.2 BI tT.1 (by decide +kernel))
  ·exact dm (bN X Gh (hq _ (nth 77 rfl)) (hq _ (nth 78 rfl)) (hq _ (nth 90 rfl)) tU.2 BJ tU.1 (by decide +kernel))
  ·exact dm (bN X Gh (hq _ (nth 77 rfl)) (hq _ (nth 78 rfl)) (hq _ (nth 91 rfl)) tV.2 BK tV.1 (by decide +kernel))
  ·exact dm (bN X Gh (hq _ (nth 77 rfl)) (hq _ (nth 78 rfl)) (hq _ (nth 92 rfl)) tW.2 BN tW.1 (by decide +kernel))
 refine ⟨fun x fn e=>?_,fun c m fn e=>?_,fun L fn e=>?_,fun x z e=>?_,fun x hx=>?_⟩
 ·exact fF (Q:=fun k fn=>∀ x,k=.f x->Def K mg x fn) (l:=tab) (fun p hp=>(all p hp).1) e x rfl
 ·exact fF (Q:=fun k fn=>∀ c m,k=.m c m->xT K mg c m fn) (l:=tab) (fun p hp=>(all p hp).2.1) e c m rfl
 ·exact fF (Q:=fun k fn=>∀ L,k=.l L->BT.oS L=some fn/\∃ ns bt,fn=⟨ns,ns,.ret bt⟩/\∀ y,ns.contains (BT.bZ y)=false) (l:=tab) (fun p hp=>(all p hp).2.2) e L rfl
 ·refine fF (Q:=fun x z=>qU P w K mg x z) (l:=glo) (fun p hp=>?_) e
  simp only[glo,NY,ND,or_false] at hp
  rcases hp with rfl | rfl | rfl | rfl | rfl | rfl | rfl | rfl | rfl | rfl | rfl | rfl
  ·exact cj X Gh (hq _ (nth 30 rfl))
  ·exact cj X Gh (hq _ (nth 31 rfl))
  ·exact cj X Gh (hq _ (nth 32 rfl))
  ·exact cj X Gh (hq _ (nth 33 rfl))
  ·exact cj X Gh (hq _ (nth 34 rfl))
  ·exact cj X Gh (hq _ (nth 35 rfl))
  ·exact cj X Gh (hq _ (nth 36 rfl))
  ·exact cj X Gh (hq _ (nth 37 rfl))
  ·exact cj X Gh (hq _ (nth 38 rfl))
  ·exact cj X Gh (hq _ (nth 39 rfl))
  ·exact yY X Gh (hq _ (nth 40 rfl)) (by decide) (by decide +kernel)
  ·exact yZ X Gh (hq _ (nth 41 rfl)) (by decide) (by decide +kernel)
 ·simp only[Ay,NY,ND,or_false] at hx
  rcases hx with rfl | rfl | rfl | rfl | rfl | rfl | rfl | rfl | rfl | rfl | rfl | rfl | rfl | rfl | rfl | rfl | rfl | rfl | rfl | rfl
  ·exact none_of X Gh (hq _ (nth 42 rfl))
  ·exact none_of X Gh (hq _ (nth 43 rfl))
  ·exact none_of X Gh (hq _ (nth 44 rfl))
  ·exact none_of X Gh (hq _ (nth 45 rfl))
  ·exact none_of X Gh (hq _ (nth 46 rfl))
  ·exact none_of X Gh (hq _ (nth 47 rfl))
  ·exact none_of X Gh (hq _ (nth 48 rfl))
  ·exact none_of X Gh (hq _ (nth 49 rfl))
  ·exact none_of X Gh (hq _ (nth 50 rfl))
  ·exact none_of X Gh (hq _ (nth 51 rfl))
  ·exact none_of X Gh (hq _ (nth 52 rfl))
  ·exact none_of X Gh (hq _ (nth 53 rfl))
  ·exact none_of X Gh (hq _ (nth 54 rfl))
  ·exact none_of X Gh (hq _ (nth 55 rfl))
  ·exact none_of X Gh (hq _ (nth 56 rfl))
  ·exact none_of X Gh (hq _ (nth 57 rfl))
  ·exact none_of X Gh (hq _ (nth 58 rfl))
  ·exact none_of X Gh (hq _ (nth 59 rfl))
  ·exact none_of X Gh (hq _ (nth 60 rfl))
  ·exact none_of X Gh (hq _ (nth 61 rfl))
theorem bdT:BdT "_law_told" "_law_told" (top 55) BT.ay:=fun _ _ _ _ _ _ us hl=>by obtain ⟨a0,a1,a2,rfl⟩:=gr hl;rfl
theorem scT:aD BT.ay.ns BT.ay.ps (af (top 55)):=by constructor<;>first | rfl | decide +kernel
theorem ckT:CSs (af (top 55)) BT.ay.ns BT.ay.body (ze (aq (top 55))):=by repeat' (first | rfl | constructor | decide +kernel)
theorem cxT:fP (af (top 55)) BT.ay.ns false BT.ay.body (ze (aq (top 55))):=.cons (fun _ _ z=>nomatch z.1) (by repeat' (first | rfl | constructor | decide +kernel)) (.ife rfl (by repeat' (first | rfl | constructor | decide +kernel)) (.one (.ret (.meth rfl rfl (by decide) (by repeat' (first | rfl | constructor | decide +kernel)) (by repeat' (first | rfl | constructor | decide +kernel))))) .nil) (.cons (fun _ _ z=>nomatch z.1) (by repeat' (first | rfl | constructor | decide +kernel)) (.ife rfl (by repeat' (first | rfl | constructor | decide +kernel)) (.one (.ret (.meth rfl rfl (by decide) (by repeat' (first | rfl | constructor | decide +kernel)) (by repeat' (first | rfl | constructor | decide +kernel))))) .nil) (.cons (fun _ _ z=>nomatch z.1) (by repeat' (first | rfl | constructor | decide +kernel)) (.ife rfl (by repeat' (first | rfl | constructor | decide +kernel)) (.one (.ret (.meth rfl rfl (by decide) (by repeat' (first | rfl | constructor | decide +kernel)) (by repeat' (first | rfl | constructor | decide +kernel))))) .nil) (.one (.ret (.meth rfl rfl (by decide) (by repeat' (first | rfl | constructor | decide +kernel)) (by repeat' (first | rfl | constructor | decide +kernel)))))))
theorem BO:fP (af (aK 40 15)) BT.dD.ns true BT.dD.body (aq (aK 40 15)):=.one (.ife rfl (by repeat' (first | rfl | constructor | decide +kernel)) (.one (.rai rfl rfl rfl rfl rfl (by decide +kernel) (by repeat' (first | rfl | constructor | decide +kernel)))) .nil)
theorem BP:aD BT.dD.ns BT.dD.ps (af (aK 40 15)):=by constructor<;>first | rfl | decide +kernel
theorem BQ:BdT "check" "Tape.check" (aK 40 15) BT.dD:=fun _ _ _ _ _ _ us hl=>by obtain ⟨a0,a1,rfl⟩:=dG hl;rfl
theorem Fg:fP (af (aK 40 1)) BT.jt.ns true BT.jt.body (aq (aK 40 1)):=.cons (fun _ _ z=>nomatch z.1) (by repeat' (first | rfl | constructor | decide +kernel)) (.ex rfl (.meth rfl rfl (by decide) (by repeat' (first | rfl | constructor | decide +kernel)) (by repeat' (first | rfl | constructor | decide +kernel)))) .bads
theorem Fi:aD BT.jt.ns BT.jt.ps (af (aK 40 1)):=by constructor<;>first | rfl | decide +kernel
theorem Fj:BdT "at" "Tape.at" (aK 40 1) BT.jt:=fun _ _ _ _ _ _ us hl=>by obtain ⟨a0,a1,rfl⟩:=dG hl;rfl
theorem Fk:fP (af (aK 40 5)) BT.gO.ns true BT.gO.body (aq (aK 40 5)):=.cons (fun _ _ z=>nomatch z.1) (by repeat' (first | rfl | constructor | decide +kernel)) (.ex rfl (.meth rfl rfl (by decide) (by repeat' (first | rfl | constructor | decide +kernel)) (by repeat' (first | rfl | constructor | decide +kernel)))) .bads
theorem Fo:aD BT.gO.ns BT.gO.ps (af (aK 40 5)):=by constructor<;>first | rfl | decide +kernel
theorem Fp:BdT "to" "Tape.to" (aK 40 5) BT.gO:=fun _ _ _ _ _ _ us hl=>by obtain ⟨a0,a1,rfl⟩:=dG hl;rfl
theorem txX (w:M7) (mg:Str->Option Value) (K:MI) (h:Heap) (X:K.In h) (Gh:h.Ns MX mg) (hq:∀ q∈qys,bG K q=bH w q):xX K mg TX:=by
 refine BB X Gh (hq _ (nth 94 rfl)) rfl fun c m fn e=>?_
 refine fF (Q:=fun k fn=>∀ c m,k=.m c m->sJ K c m fn) (l:=Ff) (fun p hp=>?_) e c m rfl
 simp only[Ff,NY,ND,or_false] at hp
 rcases hp with rfl | rfl | rfl
 ·exact fun c m e=>by cases e;exact kT (hq _ (nth 77 rfl)) (hq _ (nth 92 rfl)) BP BQ BO (by decide +kernel)
 ·exact fun c m e=>by cases e;exact kT (hq _ (nth 77 rfl)) (hq _ (nth 80 rfl)) Fi Fj Fg (by decide +kernel)
 ·exact fun c m e=>by cases e;exact kT (hq _ (nth 77 rfl)) (hq _ (nth 84 rfl)) Fo Fp Fk (by decide +kernel)
theorem tld (P:MP) (w:M7) (mg:Str->Option Value) (K:MI) (h:Heap) (X:K.In h) (Gh:h.Ns MX mg) (hq:∀ q∈qys,bG K q=bH w q) :
 ∃ fa fd ps,mg "_law_told"=some (.ref fa)/\Nb K (.ref fa)=true/\Binds K fd ps []/\∀ base,cO P w K mg base CX0 (2*40) fa fd ps (spF P w K (BT.bT T TX G 39)) :=
 zf (i:=3) X Gh (txt P w mg K h X Gh hq) (txX w mg K h X Gh hq) (hq _ (nth 94 rfl)) rfl (hq _ (nth 93 rfl)) (hq _ (nth 28 rfl)) scT rfl bdT ckT cxT (by decide +kernel) rfl rfl (by decide +kernel) rfl rfl (by decide +kernel) BD.2 IK BD.1 (by decide +kernel) (by decide +kernel)
noncomputable abbrev lw:DefRec:=⟨"law",cD (top 56),aq (top 56),af (top 56),JR (top 56)⟩
theorem df:PySem.W.defOf qg "law"=some (lw,[]):=by kernel_rfl
theorem th:pg.theDef "law"=some (lw.params,lw.body,lw.scope):=by kernel_rfl
theorem walk:PySem.W.WalkO qg loo (PySem.W.XL qg []) (sees adr qys tas).says PySem.Challenge.rw_backtape_k10_tapes.row.toRowW lw [] (fun f vs=>RY f vs) :=
 zg (l:=PySem.Challenge.rw_backtape_k10_tapes) (n:=63) (k:=40) (x:="_law_script") (d:=lw) (T:=T) (G:=G) (ts:=tas) (fn:=BT.dF) rfl (by decide) rfl ⟨rfl,by decide,by decide⟩ rfl rfl (tl:=tl) rfl (by decide +kernel) IM txt tld fun ns hl=>run ns (by omega)
end BL
open PySem PySem.W PyProof.Rows
set_option maxRecDepth 100000 in
set_option maxHeartbeats 0 in
theorem PySem.Challenge.cw_backtape_k10_tapes_holds : PySem.Challenge.rw_backtape_k10_tapes.Holds := by
 w_on;refine PySem.W.holds_law (by decide +kernel) fun said=>?_
 refine PySem.W.holds_open (q:=BL.qg) (loose:=BL.loo) (XP:=XL BL.qg []) (YP:=(BG.sees BL.adr BL.qys BL.tas).says) (d:=BL.lw) (kwd:=[]) BL.left (BG.sees BL.adr BL.qys BL.tas).of (BG.sees BL.adr BL.qys BL.tas).keeps (fun s e=>xl_of s (Bool.and_eq_true_iff.mp e).1) XL.keeps BL.df BL.th (by kernel_rfl) (fun s e=>recFacts_of (Bool.and_eq_true_iff.mp e).2) rfl (by first | assumption | decide +kernel) (by decide +kernel) ⟨rfl,rfl,rfl,rfl,rfl,by decide +kernel⟩ ?hw BL.walk
 (case hw=>w_witness2)
#print axioms PySem.Challenge.cw_backtape_k10_tapes_holds
end
end
